import PyProof.Rows.All
import Wide.All
import OpenK.AllK
import Wide.FinOn
import Lean
import PyProof.EqAt
import PyProof.EqKinds
import PyProof.TupleCall
import PySem.Challenge.RW_jettison_k29_twins_go_apart
set_option Elab.async false
set_option bootstrap.genMatcherCode false
set_option genSizeOf false
set_option compiler.extract_closed false
set_option genSizeOfSpec false
set_option linter.all false
set_option maxRecDepth 100000
local macro_rules|`(tactic|omega)=>`(tactic|lia)
noncomputable section
abbrev Fg:=PySem.W.Frag
abbrev VS:=PySem.Value->PySem.Shared->Prop
abbrev AO:=List (PySem.Addr×PySem.Obj)
abbrev SO:=PySem.Str->Option PySem.Value
abbrev Da:=@List
set_option autoImplicit true
def Xy:=@PySem.F.slot_dict_valueiterator_next
def Ky:=@Int.mul_le_mul_of_nonneg_left
def Xz:=@PySem.wpAny_typeNameOfWhole_keyiter
def XA:=@PySem.wpAny_typeNameOfWhole_valiter
def XC:=@PySem.F.slot_dict_keyiterator_next
def SQ:=@PyProof.Rows.callWith_type1
def wF:=@List.idxOf_lt_length_of_mem
def XD:=@Int.ediv_eq_of_eq_mul_right
def uV:=@List.getElem?_append_right
def nE:=@List.getD_eq_getElem?_getD
def Q_:=@PySem.F.slot_tuple_iterator_next
def Ra:=@List.length_eraseIdx_of_lt
def dX:=@List.getElem?_eq_some_iff
def uW:=@List.getElem?_append_left
def Rb:=@List.mem_or_eq_of_mem_set
def bu:=@List.getElem?_eq_getElem
def Rc:=@PySem.wpAny_comprehension_free
def Rg:=@PySem.wpAny_typeNameOf_keyiter
def Rh:=@PySem.wpAny_typeNameOf_valiter
def Fi:=@Int.mul_ediv_cancel_left
def nZ:=@PySem.F.slot_list_append
def n5:=@PySem.F.type_list_append
def Aa:=@PySem.wpAny_callSpecial?_slot
def Ri:=@PySem.wpAny_Call_method0_late
def lJ:=@PySem.F.plainAttrs_list
def qJ:=@List.getElem?_set_self
def b9:=@PySem.Heap.get?_push_of_some
def Kz:=@PySem.Heap.get?_update_other
def kH:=@Option.map_eq_some_iff
def Rj:=@List.take_of_length_le
def Fj:=@List.zipWith_cons_cons
def KA:=@PySem.Calls.callWith_builtin
def tM:=@PyProof.Rows.boot_list
def iQ:=@List.mem_append_right
def mh:=@List.length_replicate
def Cs:=@PySem.Heap.get?_update_self
def Ct:=@List.getElem?_eq_none
def Rk:=@PySem.wpAny_isOneOf_valiter
def Rl:=@List.getElem?_zipWith
def KC:=@PyProof.Rows.boot_sum
def Rm:=@PyProof.Rows.boot_min
def KD:=@PySem.W.hideAll_none
def cM:=@List.mem_cons_of_mem
def yv:=@List.mem_append_left
def Ab:=@List.getElem?_set_ne
def bQ:=@List.mem_of_getElem?
def ng:=@Bool.and_eq_true_iff
def Rn:=@PySem.intBits_le_iff
def Ro:=@List.set_append_left
def Cu:=@beq_eq_false_iff_ne
def Rp:=@PySem.W.hideAll_get
def Fl:=@List.filterMap_cons
def ef:=@PySem.Heap.get?_push_size
def yw:=@PySem.mem_of_lookup
def Cv:=@List.replicate_succ
def Fo:=@Bool.or_eq_true_iff
def Fp:=@PySem.Heap.SameBut.update
def jE:=@List.length_zipWith
def Ac:=@List.zipWith_append
def KG:=@List.filter_eq_self
def Cw:=@List.map_congr_left
def uX:=@List.getElem_of_mem
def Rq:=@PySem.evalArgs_none
def lK:=@Nat.lt_of_lt_of_le
def Rr:=@PySem.W.of_hideAll
def dg:=@List.mem_cons_self
def Cy:=@List.mem_filterMap
def iA:=@Bool.false_ne_true
def KH:=@PySem.wpAny_Call_Name_kw
def Rt:=@PySem.W.callWith_K
def cX:=@List.length_append
def Ru:=@Option.isSome_some
def Rv:=@PySem.tupleKind_room_in1
def KI:=@Nat.lt_of_le_of_lt
def eO:=@List.mem_singleton
def Ad:=@Int.emod_lt_of_pos
def Fq:=@Bool.false_eq_true
def Ft:=@PySem.Obj.data_mapFields
def Fv:=@PySem.wpAny_setField_rec
def KJ:=@List.set_cons_succ
def Rw:=@List.set_cons_zero
def Rx:=@PySem.F.slot_dict_values
def Ry:=@List.zip_cons_cons
def uY:=@of_decide_eq_false
def pI:=@PySem.W.mg_none_of
def Rz:=@PySem.wpAny_pyIter_list
def cu:=@List.getElem?_map
def RA:=@List.take_sublist
def iR:=@List.size_toArray
def RB:=@List.flatten_cons
def KL:=@List.append_assoc
def eE:=@of_decide_eq_true
def KN:=@Nat.lt_succ_of_lt
def xC:=@PySem.wpAny_newObj_type
def Fw:=@PySem.wpAny_truthy_bool
def RC:=@PySem.wpAny_dictEntries
def uZ:=@Int.toNat_natCast
def xD:=@List.foldl_append
def Fx:=@List.nodup_append
def RD:=@List.getElem?_inj
def mU:=@Bool.eq_false_iff
def jz:=@List.length_cons
def kI:=@List.length_take
def Dv:=@Bool.and_eq_true
def Kc:=@List.cons_append
def gk:=@List.filter_cons
def rL:=@Nat.le_add_right
def Dw:=@beq_self_eq_true
def lN:=@List.lookup_cons
def pJ:=@List.all_eq_true
def Kd:=@List.getElem_mem
def wG:=@PySem.wpAny_call_entry
def c7:=@List.take_length
def c8:=@decide_eq_false
def fM:=@Option.some.inj
def yx:=@List.mem_filter
def fW:=@List.mem_append
def Br:=@Bool.eq_iff_iff
def aF:=@List.length_map
def Bs:=@List.append_nil
def gZ:=@List.nodup_cons
def Dy:=@List.of_mem_zip
def gq:=@List.length_set
def iH:=@List.foldl_cons
def Ke:=@List.nil_append
def uC:=@List.find?_cons
def Kf:=@Option.map_some
def b8:=@List.map_append
def pK:=@Int.emod_nonneg
def Kg:=@Int.ediv_nonneg
def Kh:=@List.forIn_cons
def Dz:=@PySem.pushCells_keeps
def Kl:=@PySem.wpAny_dictEpoch
def Km:=@PySem.F.slot_zip_next
def yy:=@PySem.wpAny_passesOwn
def Bt:=@PySem.wpAny_execs_nil
def fX:=@PySem.PassesOwn.never
def yz:=@List.mem_range
def kJ:=@PySem.Heap.size_push
def bL:=@decide_eq_true
def DB:=@Int.natAbs_mul
def yC:=@List.forIn_nil
def wH:=@PySem.wpAny_fieldsOf
def Bu:=@PySem.wpAny_setField
def uD:=@PySem.wpAny_seqItems
def rM:=@List.nodup_nil
def rN:=@Int.mul_nonneg
def gr:=@PySem.boot_len
def i7:=@Nat.lt_irrefl
def b_:=@List.mem_cons
def cO:=@List.map_cons
def DC:=@List.any_cons
def yD:=@PySem.W.mg_of
def fY:=@List.sum_cons
def yE:=@PySem.wpAny_standAt
def wI:=@PySem.wpAny_holding
def jX:=@Int.mul_assoc
def bM:=@PySem.Heap.lt_size
def d7:=@Nat.ne_of_lt
def gD:=@Nat.le_trans
def yF:=@Nat.le_of_lt
def wJ:=@Nat.ne_of_gt
def Bv:=@PySem.codeAny_mono
def b7:=@List.mem_map
def DE:=@Int.ediv_one
def wK:=@List.set_set
def nQ:=@Nat.min_self
def fk:=@List.map_map
def rO:=@Nat.sub_self
def Bw:=@Int.mul_zero
def wL:=@Int.mul_comm
def By:=@Int.zero_mul
def uE:=@List.map_set
def BA:=@Nat.zero_add
def rP:=@Sum.inr.inj
def aK:=@Nat.le_refl
def fm:=@Nat.zero_le
def jY:=@PySem.sizeLine_eq
def BB:=@Nat.le_succ
def nR:=@PySem.wpAny_field
def lO:=@Int.le_refl
def yG:=@Int.mul_add
def wM:=@Int.add_mul
def fq:=@PySem.wpAny_mono
def aT:=@PySem.wpAny_pure
def az:=@PySem.wpAny_bind
def nS:=@beq_iff_eq
def rQ:=@congrArg
def pM:=@if_false
def bB:=@Ne.symm
def aB:=@if_pos
def aC:=@if_neg
def Z{α:Sort _}{a:α}:a=a:=rfl
namespace L2
open PySem PySem.Spec PyProof.Rows
abbrev Key:=Sum Int Str
noncomputable def yH:Key->Value->Bool
 | .inl k,v=>Value.isInt k v
 | .inr x,v=>Value.isStrOf x v
noncomputable def aio(w:World):Key->Int
 | .inl k=>hashInt k
 | .inr x=>hashStr w x
theorem gC:∀{k:Key}{v:Value},yH k v=true->(∃i t,k=Sum.inl i/\v=Value.int i t)\/(∃x t,k=Sum.inr x/\v=Value.str x t)
 | .inl i,v,h=>by obtain⟨t,e⟩:=Value.isInt_shape (k:=i) (v:=v) h;exact .inl ⟨i,t,Z,e⟩
 | .inr x,v,h=>by obtain⟨t,e⟩:=Value.isStrOf_shape (x:=x) (v:=v) h;exact .inr ⟨x,t,Z,e⟩
def SR(i:Int)(t:Tok):yH (.inl i) (.int i t)=true:=by simp[yH,Value.isInt]
def SS(x:Str)(t:Tok):yH (.inr x) (.str x t)=true:=by simp[yH,Value.isStrOf]
def aar(a b:Int):decide ((Sum.inl a:Key)=Sum.inl b)=(a==b):=by
 by_cases e:a=b
 .subst e;simp
 .have h:¬ (Sum.inl a:Key)=Sum.inl b:=λq=>e (Sum.inl.inj q);rw[c8 h];exact(Cu.mpr e).symm
def aas(a b:Str):decide ((Sum.inr a:Key)=Sum.inr b)=decide (a=b):=by
 by_cases e:a=b
 .subst e;simp
 .have h:¬ (Sum.inr a:Key)=Sum.inr b:=λq=>e (rP q);rw[c8 h,c8 e]
def aat(a:Int)(b:Str):decide ((Sum.inl a:Key)=Sum.inr b)=false:=c8 (λq=>nomatch q)
def aau(a:Str)(b:Int):decide ((Sum.inr a:Key)=Sum.inl b)=false:=c8 (λq=>nomatch q)
noncomputable def dh(prog:Program)(w:World):PySem.KeyKind prog w Key where
 is:=yH
 hash:=aio w
 inj:=λv a b ha hb=>by
  rcases gC ha with⟨i,t,rfl,rfl⟩|⟨x,t,rfl,rfl⟩
  .rcases gC hb with⟨j,u,rfl,e⟩|⟨y,u,rfl,e⟩
   .injection e with e1 _;rw[e1]
   .exact nomatch e
  .rcases gC hb with⟨j,u,rfl,e⟩|⟨y,u,rfl,e⟩
   .exact nomatch e
   .injection e with e1 _;rw[e1]
 byValue:=λk v h=>by rcases gC h with⟨i,t,rfl,rfl⟩|⟨x,t,rfl,rfl⟩ <;> rfl
 pyHash:=λhv h=>by
  rcases gC hv with⟨i,t,rfl,rfl⟩|⟨x,t,rfl,rfl⟩
  .exact wpAny_pyHash_int h
  .exact wpAny_pyHash_str h
 eqBool:=λhu hv h=>by
  rcases gC hu with⟨i,t,rfl,rfl⟩|⟨x,t,rfl,rfl⟩
  .rcases gC hv with⟨j,u,rfl,rfl⟩|⟨y,u,rfl,rfl⟩
   .rw [aar]at h;exact wpAny_eqBool_int h
   .rw [aat]at h;exact SeqAt.EqAt.int_str i t y u _ _ _ _ h
  .rcases gC hv with⟨j,u,rfl,rfl⟩|⟨y,u,rfl,rfl⟩
   .rw [aau]at h;exact SeqAt.EqAt.str_int x t j u _ _ _ _ h
   .rw [aas]at h;exact wpAny_eqBool_str h
 «strs»:=λk x t v h=>by
  rcases gC h with⟨i,u,rfl,e⟩|⟨y,u,rfl,e⟩
  .exact nomatch e
  .injection e with e1 _;subst e1;cases v <;> rfl
def RE(prog:Program)(w:World)(k:Key)(v:Value):(dh prog w).is k v=yH k v:=rfl
def N_(prog:Program)(w:World)(i:Int)(t:Tok):(dh prog w).is (.inl i) (.int i t)=true:=SR i t
def Oa(prog:Program)(w:World)(x:Str)(t:Tok):(dh prog w).is (.inr x) (.str x t)=true:=SS x t
inductive V where
 | cI|bl (b:Bool)|int (i:Int)|str (x:Str)|Cb (b:Array UInt8)|XE (b:UInt64)|ref (a:Addr)|ty (n:String)
 deriving DecidableEq
noncomputable def RelV:V->Value->Prop
 | .cI,u=>u=Value.none
 | .bl b,u=>u=Value.bool b
 | .int i,u=>∃t,u=Value.int i t
 | .str x,u=>∃t,u=Value.str x t
 | .Cb b,u=>∃t,u=Value.bytes b t
 | .XE b,u=>∃t,u=Value.float b t
 | .ref a,u=>u=Value.ref a
 | .ty n,u=>u=Value.type n
abbrev Vals:Da V->Da Value->Prop:=Paired RelV
variable {xs:Da V}{us:Da Value}
theorem Vals.length(r:Vals xs us):xs.length=us.length:=Paired.length r
theorem Vals.get:∀{xs:Da V}{us:Da Value}{i:Nat}{x:V},Vals xs us->xs[i]?=some x->∃u,us[i]?=some u/\RelV x u
 | _,_,_,_,.nil,e=>by simp at e
 | _,_,0,_,.cons r _,e=>by simp at e;subst e;exact⟨_,Z,r⟩
 | _,_,i+1,x,.cons _ t,e=>by obtain⟨u,h1,h2⟩:=Vals.get (i:=i) (x:=x) t (by simpa using e);exact⟨u,by simpa using h1,h2⟩
theorem Vals.set{x:V}{u:Value}(r:RelV x u):∀{xs:Da V}{us:Da Value}(i:Nat),Vals xs us->Vals (xs.set i x) (us.set i u)
 | _,_,_,.nil=> .nil
 | _,_,0,.cons _ t=> .cons r t
 | _,_,i+1,.cons q t=> .cons q (Vals.set r i t)
theorem Vals.append:∀{xs ys:Da V}{us ws:Da Value},Vals xs us->Vals ys ws->Vals (xs++ys) (us++ws)
 | _,_,_,_,.nil,s=>s
 | _,_,_,_,.cons r t,s=> .cons r (Vals.append t s)
noncomputable def nh:Option V->Option Value->Prop
 | some v,some u=>RelV v u
 | none,none=>True
 | _,_=>False
def KV{κ:Type}:Da (κ×V)->Da (κ×Value)->Prop:=Paired λ(p:κ×V)(q:κ×Value)=>p.1=q.1/\RelV p.2 q.2
noncomputable def kV:Key->V
 | .inl i=> .int i
 | .inr x=> .str x
inductive HO where
 | lst (xs:Da V)
 | tup (xs:Da V)
 | dK (AT:Da (Key×V))|dT (AT:Da (Da Key×V))
 | set (S:Int->Bool) (n:Nat)
 | ins (C dx:Addr) (fs:Da (Str×V))
 | own (x:Addr)
 | xd (fs:Da (Str×V))
 | met (f x:Addr)
 | wN (lo hi:Int)
 | eX (o:Obj) (u:HO)
 | Hu (ps:Array Value)
 | ext (φ:Heap->Prop)
abbrev Hp:=Addr->Option HO
noncomputable def upd(H:Hp)(a:Addr)(o:HO):Hp:=λb=>if b=a then some o else H b
variable {H:Hp}{a:Addr}{o:HO}
def ah:upd H a o a=some o:=by unfold upd;rw[aB rfl]
variable {b:Addr}
def au(h:b≠a):upd H a o b=H b:=by unfold upd;rw[aC h]
def lE{u:HO}:upd (upd H a o) a u=upd H a u:=by funext b;unfold upd;split <;> rfl
def i8{u:HO}(h:H a=some o)(h':H b=some u)(d:o≠u):a≠b:=by intro e;subst e;rw[h]at h';exact d (fM h')
def aA(h:H a=some o)(h':H b=none):a≠b:=by intro e;subst e;rw[h]at h';cases h'
section
variable (P:Program)(w:World)
noncomputable def e_(H:Hp)(h:Heap)(a:Addr):HO->Prop
 | .lst xs=>xs.length<=sizeLine/\∃(BT:Da Value)(n:Nat),Vals xs BT/\h.get? a=some { cls:=.type "list",data:=.seq BT.toArray n }
 | .tup xs=>xs.length<=sizeLine/\∃BT:Da Value,Vals xs BT/\IsTup h a BT.toArray
 | .dK AT=>AT.length<=sizeLine/\(a==sysModules)=false/\∃vs,KV AT vs/\h.DictOf (dh P w) a vs
 | .dT AT=>AT.length<=sizeLine/\(a==sysModules)=false/\∃xs:Da (Da Key×Addr×Value),
     Paired (λ(p:Da Key×V)(q:Da Key×Addr×Value)=>p.1=q.1/\H q.2.1=some (.tup (p.1.map kV))/\RelV p.2 q.2.2) AT xs/\
     ∃o es ep,h.get? a=some o/\o.ExactDict/\o.data =.dict es ep/\es.toList=xs.map (entryOfKey (tupleKind (dh P w)))/\(xs.map (·.1)).Nodup
 | .set S n=>h.SetOf (intKind P w) a S n
 | .ins C dx fs=>H dx=some (.own a)/\fs.length<=1000/\dx≠a/\h.get? a=some (PySem.W.instObj C dx)/\
     ∃mA,h.Ns1 dx mA/\(∀f,nh (fs.lookup f) (mA f))/\PySem.Within mA (fs.map (·.1))
 | .own _=>∃o,h.get? a=some o
 | .xd fs=>∃mA,h.Ns1 a mA/\∀f,nh (fs.lookup f) (mA f)
 | .wN lo hi=>∃t u v,h.get? a=some { cls:=.type "range",data:=.fields #[.int lo t,.int hi u,.int 1 v] }
 | .eX o u=>h.get? a=some o/\e_ H h a u
 | .Hu ps=>h.get? a=some { cls:=.none,data:=.fields ps }
 | .met f x=>h.get? a=some (PySem.W.methodObj (.ref f) (.ref x))
 | .ext φ=>φ h/\(∃o,h.get? a=some o)/\∀h1 h2:Heap,φ h1->(∀o,h1.get? a=some o->h2.get? a=some o)->φ h2
def ig(H:Hp)(h:Heap):Prop:=∀a o,H a=some o->e_ P w H h a o
end
section
variable {P:Program}{w:World}{H H':Hp}{h h':Heap}{a:Addr}{o:HO}
theorem e_.lt(x:e_ P w H h a o):a<h.objs.size:=by
 cases o with
 | lst xs=>obtain⟨_,_,_,_,e⟩:=x;exact bM e
 | tup xs=>obtain⟨_,_,_,p⟩:=x;exact p.lt
 | dK AT=>obtain⟨_,_,_,_,o,_,_,e,_⟩:=x;exact bM e
 | dT AT=>obtain⟨_,_,_,_,o,_,_,e,_⟩:=x;exact bM e
 | set S n=>obtain⟨o,_,_,_,e,_⟩:=x;exact bM e
 | ins C dx fs=>obtain⟨_,_,_,e,_⟩:=x;exact bM e
 | own y=>obtain⟨_,e⟩:=x;exact bM e
 | xd fs=>obtain⟨_,⟨_,_,_,e,_⟩,_⟩:=x;exact bM e
 | wN lo hi=>obtain⟨_,_,_,e⟩:=x;exact bM e
 | eX ob u=>obtain⟨e,_⟩:=x;exact bM e
 | Hu ps=>exact bM (show h.get? a=some _ from x)
 | met f y=>exact bM (show h.get? a=some _ from x)
 | ext φ=>obtain⟨_,⟨_,e⟩,_⟩:=x;exact bM e
theorem Paired.VP{α β:Type}{F G:α->β->Prop}:∀{l₁:Da α}{l₂:Da β},Paired F l₁ l₂->(∀a b,F a b->G a b)->Paired G l₁ l₂
 | _,_,.nil,_=> .nil
 | _,_,.cons r t,f=> .cons (f _ _ r) (Paired.VP t f)
def e_.stay(x:e_ P w H h a o)(k:∀b u,(b=a\/H b=some (.own a))->h.get? b=some u->h'.get? b=some u)(ho:∀b,H b=some (.own a)->H' b=some (.own a))(ht:∀b xs,H b=some (.tup xs)->H' b=some (.tup xs)):e_ P w H' h' a o:=by
 induction o with
 | lst xs=>obtain⟨z,BT,n,r,e⟩:=x;exact⟨z,BT,n,r,k _ _ (.inl rfl) e⟩
 | tup xs=>obtain⟨z,BT,r,ob,e,c⟩:=x;exact⟨z,BT,r,ob,k _ _ (.inl rfl) e,c⟩
 | dK AT=>obtain⟨z,y,vs,r,ob,es,ep,e,c⟩:=x;exact⟨z,y,vs,r,ob,es,ep,k _ _ (.inl rfl) e,c⟩
 | dT AT=>
   obtain⟨z,y,xs,r,ob,es,ep,e,c⟩:=x
   exact⟨z,y,xs,Paired.VP r λp q z=>⟨z.1,ht _ _ z.2.1,z.2.2⟩,ob,es,ep,k _ _ (.inl rfl) e,c⟩
 | set S n=>obtain⟨ob,es,ep,t,e,c⟩:=x;exact⟨ob,es,ep,t,k _ _ (.inl rfl) e,c⟩
 | ins C dx fs=>
   obtain⟨d,z,ne,e,mA,⟨od,es,ep,e2,c⟩,r⟩:=x
   exact⟨ho _ d,z,ne,k _ _ (.inl rfl) e,mA,⟨od,es,ep,k _ _ (.inr d) e2,c⟩,r⟩
 | own y=>obtain⟨ob,e⟩:=x;exact⟨ob,k _ _ (.inl rfl) e⟩
 | xd fs=>obtain⟨mA,⟨od,es,ep,e,c⟩,r⟩:=x;exact⟨mA,⟨od,es,ep,k _ _ (.inl rfl) e,c⟩,r⟩
 | wN lo hi=>obtain⟨t,u,v,e⟩:=x;exact⟨t,u,v,k _ _ (.inl rfl) e⟩
 | eX ob u ih=>obtain⟨e,q⟩:=x;exact⟨k _ _ (.inl rfl) e,ih q⟩
 | Hu ps=>
   have e:h.get? a=some { cls:=.none,data:=.fields ps }:=x
   show h'.get? a=some { cls:=.none,data:=.fields ps }
   exact k a _ (.inl rfl) e
 | met f y=>
   have e:h.get? a=some (PySem.W.methodObj (.ref f) (.ref y)):=x
   show h'.get? a=some (PySem.W.methodObj (.ref f) (.ref y))
   exact k a _ (.inl rfl) e
 | ext φ=>obtain⟨p,⟨o,e⟩,st⟩:=x;exact⟨st _ _ p λo q=>k _ _ (.inl rfl) q,⟨o,k _ _ (.inl rfl) e⟩,st⟩
theorem ig.lt(x:ig P w H h)(e:H a=some o):a<h.objs.size:=(x a o e).lt
def ig.fresh(x:ig P w H h)(e:h.objs.size<=a):H a=none:=by
 cases q:H a with
 | none=>rfl
 | some u=>exact absurd (lK (x.lt q) e) (i7 _)
def ig.kept(x:ig P w H h)(k:∀b u,h.get? b=some u->h'.get? b=some u):ig P w H h':=λa o e=>
 (x a o e).stay (λb u _ q=>k b u q) (λ_ q=>q) λ_ _ q=>q
def ig.laid(x:ig P w H h)(k:∀b u,h.get? b=some u->h'.get? b=some u)(hp:h.objs.size<=a)(new:e_ P w (upd H a o) h' a o):ig P w (upd H a o) h':=λb u e=>by
 have hn:=x.fresh hp;by_cases hb:b=a
 .subst hb;rw[ah]at e;cases e;exact new
 .rw [au hb]at e;exact(x b u e).stay (λc v _ q=>k c v q) (λc q=>by rw[au (aA q hn)];exact q) λc xs q=>by rw[au (aA q hn)];exact q
end
def Rd(H:Hp)(a:Addr)(u:HO):Prop:=H a=some u\/∃o,H a=some (.eX o u)
variable {P:Program}{h:Heap}
def Rd.ok{w:World}{u:HO}(r:Rd H a u)(x:ig P w H h):e_ P w H h a u:=by
 rcases r with r|⟨o,r⟩
 .exact x a u r
 .obtain ⟨_,q⟩:=x a _ r;exact q
noncomputable def SV:Option HO->Prop
 | some (.lst _)=>True
 | some (.dK _)=>True
 | some (.dT _)=>True
 | some (.set _ _)=>True
 | some (.ins _ _ _)=>True
 | some (.ext _)=>True
 | _=>False
section
variable {P:Program}{w:World}{H:Hp}{h h':Heap}{x e:Addr}{o':HO}
def ig.write(ok:ig P w H h)(mu:SV (H x))(he:e=x\/H e=some (.own x))(k:∀b u,b≠e->h.get? b=some u->h'.get? b=some u)(Pz:∃u,h'.get? e=some u)(new:e_ P w (upd H x o') h' x o'):ig P w (upd H x o') h':=λb u q=>by
 have aav:∀c y,H c=some (.own y)->c≠x:=λc y r z=>by subst z;rw[r]at mu;exact mu
 have aip:∀c xs,H c=some (.tup xs)->c≠x:=λc xs r z=>by subst z;rw[r]at mu;exact mu
 by_cases hb:b=x
 . subst hb;rw[ah]at q;cases q;exact new
 . rw[au hb]at q
   by_cases KO:b=e
   . have q':H b=some (.own x):=by
      rcases he with z|z
      . exact absurd (KO.trans z) hb
      . rw[KO];exact z
     rw[q]at q';cases q'
     obtain⟨v,hv⟩:=Pz
     exact⟨v,by rw[KO];exact hv⟩
   . refine(ok b u q).stay (λc v hc r=>k c v ?_ r) (λc r=>by rw[au (aav c b r)];exact r) λc xs r=>by rw[au (aip c xs r)];exact r
     rcases hc with rfl|hc
     . exact KO
     . rintro rfl
       rcases he with z|z
       . exact aav c b hc z
       . rw[hc]at z;cases z;exact hb rfl
end
structure Un(fs ex:Da Addr)(H H':Hp)(h h':Heap):Prop where
 keep:∀b o,h.get? b=some o->H b=none->b∉fs->b∉ex->h'.get? b=some o
 slot:∀b o,h.get? b=some o->H b=none->b∈fs->b∉ex->∃sl,h'.get? b=some { o with slots:=sl }
 free:∀b o,h.get? b=some o->H b=none->b∉ex->H' b=none
 there:∀b o,h.get? b=some o->b∉ex->∃o',h'.get? b=some o'
 tups:∀b xs,H b=some (.tup xs)->H' b=some (.tup xs)
 pN:∀b o u,H b=some (.eX o u)->H' b=some (.eX o u)
 tN:∀b ps,H b=some (.Hu ps)->∃more,H' b=some (.Hu (ps++more))
section
variable {fs fs' ex ex':Da Addr}{H H1 H2:Hp}{h h1 h2 h':Heap}{a x e:Addr}{o:HO}
def Un.any(u:Un fs ex H H1 h h1)(q:h.get? b=some ob)(n:H b=none)(hx:b∉ex):∃sl,h1.get? b=some { ob with slots:=sl }:=by
 by_cases hb:b∈fs
 .exact u.slot b ob q n hb hx
 .exact ⟨ob.slots,u.keep b ob q n hb hx⟩
def Un.kept(k:∀b u,h.get? b=some u->h'.get? b=some u):Un fs ex H H h h':=⟨λb ob q _ _ _=>k b ob q,λb ob q _ _ _=>⟨ob.slots,k b ob q⟩,λ_ _ _ n _=>n,λb ob q _=>⟨ob,k b ob q⟩,λ_ _ q=>q,λ_ _ _ q=>q,λ_ ps q=>⟨#[],by rw[q];simp⟩⟩
def Un.refl:Un fs ex H H h h:=Un.kept λ_ _ q=>q
def Un.laid(k:∀b u,h.get? b=some u->h'.get? b=some u)(hp:h.objs.size<=a)(hn:H a=none):Un fs ex H (upd H a o) h h' where
 keep:=λb u q _ _ _=>k b u q
 slot:=λb u q _ _ _=>⟨u.slots,k b u q⟩
 free:=λb u q n _=>by rw[au (d7 (lK (bM q) hp))];exact n
 there:=λb u q _=>⟨u,k b u q⟩
 tups:=λb xs q=>by rw[au (aA q hn)];exact q
 pN:=λb u xs q=>by rw[au (aA q hn)];exact q
 tN:=λb ps q=>⟨#[],by rw[au (aA q hn),q];simp⟩
def Un.write(mu:SV (H x))(he:e=x\/H e=some (.own x))(k:∀b u,b≠e->h.get? b=some u->h'.get? b=some u)(Pz:∃u,h'.get? e=some u):Un fs ex H (upd H x o) h h':=by
 have hx:∀b,H b=none->b≠x:=λb n z=>by subst z;rw[n]at mu;exact mu
 have hb:∀b,H b=none->b≠e:=λb n z=>by
  subst z;rcases he with r|r
  .exact hx b n r
  .rw [n]at r;cases r
 have hm:∀b u,H b=some u->¬ SV (some u)->b≠x:=λb u q nm z=>by subst z;rw[q]at mu;exact nm mu
 refine⟨λb u q n _ _=>k b u (hb b n) q,λb u q n _ _=>⟨u.slots,k b u (hb b n) q⟩,λb u q n _=>by rw[au (hx b n)];exact n,λb u q _=>?_,
  λb xs q=>by rw[au (hm b _ q λz=>z)];exact q,λb u xs q=>by rw[au (hm b _ q λz=>z)];exact q,λb ps q=>⟨#[],by rw[au (hm b _ q λz=>z),q];simp⟩⟩
 by_cases KO:b=e
 .subst KO;exact Pz
 .exact ⟨u,k b u KO q⟩
end
noncomputable def XF(h:Heap)(H:Hp):Da Addr:=(List.range h.objs.size).filter λa=>(H a).isSome
noncomputable def yI(h:Heap)(H:Hp):Heap:=PySem.W.hideAll h (XF h H)
def SW(h:Heap)(H:Hp):(yI h H).objs.size=h.objs.size:=PySem.W.hideAll_size _ _
def VQ{o:Obj}(e:h.get? b=some o)(n:H b=none):(yI h H).get? b=some o:=Rp _ e λhm=>by have q:(H b).isSome=true:=(yx.mp hm).2;rw[n]at q;simp at q
def Y5{o:Obj}(e:(yI h H).get? b=some o):h.get? b=some o/\H b=none:=by
 have e':h.get? b=some o:=Rr (XF h H) e;refine⟨e',?_⟩;cases q:H b with
 | none=>rfl
 | some x=>have hm:b∈XF h H:=yx.mpr ⟨yz.mpr (bM e'),by simp[q]⟩;have z:(yI h H).get? b=none:=KD (XF h H) hm;rw[z]at e;cases e
structure Mod(K:Fg)(mg:SO)(base:Heap):Prop where
 PB:K.In base
 glob:base.Ns mainGlobals mg
 blt:∃mb,base.Ns builtinsNs mb/\∀x:Str,x ≠ "__name__"->mb x=bootBuiltins x
 nolimit:base.NoLimit
structure Cx where
 prog:Program
 w:World
 K:Fg
 mg:Str->Option Value
 base:Heap
 A:Around
 N:Da Str
 s₀:Shared
 H₀:Hp
 env:Env
 outer:Da Env
 stack:Da Env
 ex:Da Addr
 fn:Str->Bool
 calm:Bool
 pn:Da (Addr×Obj)
 xe:Value->Shared->Prop
noncomputable def frs(l:Da Env):Da Addr:=l.filterMap (·.frame)
abbrev Cx.fs(X:Cx):Da Addr:=frs X.outer
def XG(sc:Scope)(x:Str):Prop:=sc.names.lookup x=some .local\/sc.names.lookup x=some .cell\/sc.names.lookup x=some .free
def Loc(sc:Scope)(x:Str):Prop:=sc.names.lookup x=some .local\/sc.names.lookup x=some .cell
def Look(env:Env)(h:Heap)(m:SO)(x:Str)(u:Value):Prop:=(env.kindOf x=some .local/\m x=some u)\/((env.kindOf x=some .cell\/env.kindOf x=some .free)/\∃c,env.cells.lookup x=some c/\h.IsCell c (some u))
structure Cx.Ok(X:Cx):Prop where
 mod:Mod X.K X.mg X.base
 kind:X.env.scope.kind =.function
 glob:X.env.globals=mainGlobals
 blt:X.env.builtins=builtinsNs
 above:X.s₀.heap.objs.size<=X.env.locals
 inj:∀x y c,X.env.cells.lookup x=some c->X.env.cells.lookup y=some c->x=y
 has:∀x,(X.env.kindOf x=some .cell\/X.env.kindOf x=some .free)->∃c,X.env.cells.lookup x=some c
 ff:∀x c,X.fn x=true->X.env.cells.lookup x=some c->X.s₀.heap.objs.size<=c
 hd:X.calm=true->X.A.handled=none
 frames:X.A.frames=some X.stack
 stk:X.stack=X.outer\/(X.stack=X.env::X.outer/\X.env.frame=some X.env.locals)
 DF:∀b∈X.ex,b≠X.env.locals/\∀x c,X.env.cells.lookup x=some c->c≠b
 bs:∀b o,X.base.get? b=some o->X.s₀.heap.get? b=some o/\X.H₀ b=none
 DG:X.base.objs.size<=X.s₀.heap.objs.size
 Fy:∀b o,X.base.get? b=some o->b∉X.ex
 Ae:∀b∈X.ex,b∉X.fs
 n_:X.s₀.heap.FunFrames X.base X.outer
 Hv:∀b∈X.fs,X.H₀ b=none
structure Inv(X:Cx)(AC:AO)(σ:Da (Option V))(H:Hp)(s:Shared):Prop where
 ok:X.Ok
 os:s.os=X.s₀.os
 bare:AllBare s.gens
 base:Un X.fs X.ex X.H₀ H X.s₀.heap s.heap
 loc:∃m,s.heap.Ns X.env.locals m/\∀(i:Nat)(x:Str)(v:V),X.N[i]?=some x->σ[i]?=some (some v)->XG X.env.scope x->∃u,RelV v u/\Look X.env s.heap m x u
 cell:∀x c,X.env.cells.lookup x=some c->∃v,s.heap.IsCell c v
 free:H X.env.locals=none
 lP:∀x c,X.env.cells.lookup x=some c->H c=none
 pin:∀p∈X.pn++AC,s.heap.get? p.1=some p.2/\H p.1=none/\p.1≠X.env.locals/\p.1∉X.fs/\∀v,p.2.data ≠ .cell v
 hok:ig X.prog X.w H s.heap
 len:σ.length=X.N.length
variable {g':Array GenState}{t' i j:Nat}{ch:Da Addr}{it:Addr}{N:Da Str}{x:Str}{M:Model}{E:VS}{u:Value}{Q:Unit->Shared->Prop}
section
variable {X:Cx}{AC:AO}{σ:Da (Option V)}{H H':Hp}{s:Shared}{h':Heap}
def Cx.Ok.aiq(ok:X.Ok){o:Obj}(e:X.base.get? b=some o):b∉X.fs:=λhb=>by have:=(ok.n_.mem hb).1;rw[e]at this;cases this
theorem Inv.bs(I:Inv X AC σ H s):∀b o,X.base.get? b=some o->s.heap.get? b=some o/\H b=none:=λb o e=>
 ⟨I.base.keep b o (I.ok.bs b o e).1 (I.ok.bs b o e).2 (I.ok.aiq e) (I.ok.Fy b o e),I.base.free b o (I.ok.bs b o e).1 (I.ok.bs b o e).2 (I.ok.Fy b o e)⟩
def Inv.bk(I:Inv X AC σ H s):∀b o,X.base.get? b=some o->s.heap.get? b=some o:=λb o e=>(I.bs b o e).1
theorem Inv.mod(I:Inv X AC σ H s):Mod X.K X.mg X.base:=I.ok.mod
def Inv.pO(I:Inv X AC σ H s):X.K.In s.heap:=I.ok.mod.PB.keeps I.bk
theorem Inv.lt(I:Inv X AC σ H s):X.env.locals<s.heap.objs.size:=let⟨_,hn,_⟩:=I.loc;hn.lt
def Inv.sz(I:Inv X AC σ H s):X.s₀.heap.objs.size<=s.heap.objs.size:=gD I.ok.above (yF I.lt)
def Inv.air(I:Inv X AC σ H s)(h:s.heap.objs.size<=a):a∉X.fs:=λhb=>by obtain⟨_,o,ho,_⟩:=I.ok.n_.mem hb;exact absurd (lK (bM ho) (gD I.sz h)) (i7 _)
def Inv.KP(I:Inv X AC σ H s):∀x c,X.env.cells.lookup x=some c->c≠X.env.locals:=λx c e z=>by obtain⟨v,o,ho,hd⟩:=I.cell x c e;obtain⟨m,⟨o',es,ep,ho',hd',_⟩,_⟩:=I.loc;rw[z,ho']at ho;cases ho;rw[hd']at hd;cases hd
theorem Inv.n_(I:Inv X AC σ H s):s.heap.FunFrames X.base X.outer:=by
 have all:∀(l:Da Env),(∀b∈frs l,b∈X.fs)->X.s₀.heap.FunFrames X.base l->s.heap.FunFrames X.base l:=by
  intro l
  induction l with
  | nil=>intro _ _;trivial
  | cons env r ih=>intro hs hl;obtain⟨hk,⟨L,o,hf,hn,ho,hd⟩,hr⟩:=hl;have hL:L∈X.fs:=hs L (by unfold frs;rw[Fl,hf];exact dg);obtain⟨sl,e⟩:=I.base.slot L o ho (I.ok.Hv L hL) hL λz=>I.ok.Ae L z hL;exact⟨hk,⟨L,_,hf,hn,e,hd⟩,ih (λb hb=>hs b (by unfold frs;rw[Fl,hf];exact cM _ hb)) hr⟩
 exact all X.outer (λ_ hb=>hb) I.ok.n_
theorem Inv.stack(I:Inv X AC σ H s):s.heap.FunFrames X.base X.stack:=by
 rcases I.ok.stk with e|⟨e,hf⟩
 .rw [e];exact I.n_
 .rw [e];obtain⟨m,hn,_⟩:=I.loc;refine .cons (by rw[I.ok.kind];decide) hf hn ?_ I.n_;exact Heap.get?_none_of_le (gD I.ok.DG I.ok.above)
def Inv.KQ(I:Inv X AC σ H s):∀b∈frs X.stack,b∈X.env.locals::X.fs:=λb hb=>by
 rcases I.ok.stk with e|⟨e,hf⟩
 .rw [e]at hb;exact cM _ hb
 .rw [e]at hb;unfold frs at hb;rw[Fl,hf]at hb;exact hb
def Inv.xZ(I:Inv X AC σ H s):∀b∈frs X.stack,H b=none:=λb hb=>by
 rcases b_.mp (I.KQ b hb)with e|hb
 .rw [e];exact I.free
 .obtain ⟨_,o,ho,_⟩:=I.ok.n_.mem hb;exact I.base.free b o ho (I.ok.Hv b hb) λz=>I.ok.Ae b z hb
def Inv.step{d':Drawn}(I:Inv X AC σ H s)(hch:∀b∈ch,(b∈X.ex\/X.s₀.heap.objs.size<=b)/\b≠X.env.locals/\(∀x c,X.env.cells.lookup x=some c->c≠b)/\∀p∈X.pn++AC,p.1≠b)(keep:∀b o,b≠X.env.locals->b∉X.fs->b∉ch->s.heap.get? b=some o->H b=none->h'.get? b=some o)(slot:∀b o,b≠X.env.locals->b∈X.fs->b∉ch->s.heap.get? b=some o->H b=none->∃sl,h'.get? b=some { o with slots:=sl })(free:∀b o,b∉ch->s.heap.get? b=some o->H b=none->H' b=none)(there:∀b o,b∉ch->s.heap.get? b=some o->∃o',h'.get? b=some o')(tups:∀b xs,H b=some (.tup xs)->H' b=some (.tup xs))(pN:∀b o u,H b=some (.eX o u)->H' b=some (.eX o u))(tN:∀b ps,H b=some (.Hu ps)->∃more,H' b=some (.Hu (ps++more)))(ns:∀m,s.heap.Ns X.env.locals m->h'.Ns X.env.locals m)(hok:ig X.prog X.w H' h')(hg:AllBare g'):
  Inv X AC σ H' { s with heap:=h',gens:=g',drawn:=d',toks:=t' }:=by
 have neL:∀b o,X.s₀.heap.get? b=some o->b≠X.env.locals:=λb o e=>d7 (lK (bM e) I.ok.above)
 have XH:∀b o,X.s₀.heap.get? b=some o->b∉X.ex->b∉ch:=λb o e hx hb=>by
  rcases(hch b hb).1 with z|z
  .exact hx z
  .exact absurd (lK (bM e) z) (i7 _)
 have cellK:∀x c,X.env.cells.lookup x=some c->∀v,s.heap.IsCell c v->h'.IsCell c v:=λx c e v ⟨o,ho,hd⟩=>by
  have x6:c∉ch:=λz=>(hch c z).2.2.1 x c e rfl;by_cases hc:c∈X.fs
  .obtain ⟨sl,q⟩:=slot c o (I.KP x c e) hc x6 ho (I.lP x c e);exact⟨_,q,hd⟩
  .exact ⟨o,keep c o (I.KP x c e) hc x6 ho (I.lP x c e),hd⟩
 refine⟨I.ok,I.os,hg,⟨λb o e n hb hx=>?_,λb o e n hb hx=>?_,λb o e n hx=>?_,λb o e hx=>?_,λb xs e=>tups b xs (I.base.tups b xs e),λb o xs e=>pN b o xs (I.base.pN b o xs e),λb ps e=>?_⟩,?_,λx c e=>?_,?_,λx c e=>?_,λp hp=>?_,hok,I.len⟩
 . exact keep b o (neL b o e) hb (XH b o e hx) (I.base.keep b o e n hb hx) (I.base.free b o e n hx)
 . obtain⟨sl,e1⟩:=I.base.slot b o e n hb hx
   obtain⟨SX,e2⟩:=slot b _ (neL b o e) hb (XH b o e hx) e1 (I.base.free b o e n hx)
   exact⟨SX,e2⟩
 . obtain⟨o',e1⟩:=I.base.there b o e hx
   exact free b o' (XH b o e hx) e1 (I.base.free b o e n hx)
 . obtain⟨o',e1⟩:=I.base.there b o e hx
   exact there b o' (XH b o e hx) e1
 . obtain⟨m1,e1⟩:=I.base.tN b ps e
   obtain⟨m2,e2⟩:=tN b _ e1
   exact⟨m1++m2,by rw[e2,Array.append_assoc]⟩
 . obtain⟨m,hn,hl⟩:=I.loc
   refine⟨m,ns m hn,λi x v e1 e2 e3=>?_⟩
   obtain⟨u,r,l⟩:=hl i x v e1 e2 e3
   refine⟨u,r,?_⟩
   rcases l with l|⟨k,c,e,z⟩
   . exact .inl l
   . exact .inr ⟨k,c,e,cellK x c e _ z⟩
 . obtain⟨v,z⟩:=I.cell x c e
   exact⟨v,cellK x c e v z⟩
 . obtain⟨m,⟨o,_,_,ho,_⟩,_⟩:=I.loc
   exact free _ o (λz=>(hch _ z).2.1 rfl) ho I.free
 . obtain⟨v,o,ho,hd⟩:=I.cell x c e
   exact free c o (λz=>(hch c z).2.2.1 x c e rfl) ho (I.lP x c e)
 . obtain⟨e,n,ne,nf,d⟩:=I.pin p hp
   have x6:p.1∉ch:=λz=>(hch p.1 z).2.2.2 p hp rfl
   exact⟨keep p.1 p.2 ne nf x6 e n,free p.1 p.2 x6 e n,ne,nf,d⟩
def Inv.un(I:Inv X AC σ H s)(u:Un X.fs [] H H' s.heap h')(hok:ig X.prog X.w H' h'):Inv X AC σ H' { s with heap:=h',toks:=t' }:=by obtain⟨m,⟨o,es,ep,ho,r⟩,_⟩:=id I.loc;obtain⟨sl,hL⟩:=u.any ho I.free (by simp);exact I.step (g':=s.gens) (d':=s.drawn) (ch:=[]) (λ_ z=>nomatch z) (λb o _ hb _ e n=>u.keep b o e n hb (by simp)) (λb o _ hb _ e n=>u.slot b o e n hb (by simp)) (λb o _ e n=>u.free b o e n (by simp)) (λb o _ e=>u.there b o e (by simp)) u.tups u.pN u.tN (λm' hm=>by obtain⟨o',es',x8,ho',r'⟩:=hm;rw[ho]at ho';cases ho';exact⟨_,es',x8,hL,r'⟩) hok I.bare
def Inv.call{d':Drawn}(I:Inv X AC σ H s)(u:Un (frs X.stack) ch H H' s.heap h')(hok:ig X.prog X.w H' h')(hg:AllBare g')(hch:∀b∈ch,(b∈X.ex\/X.s₀.heap.objs.size<=b)/\b≠X.env.locals/\(∀x c,X.env.cells.lookup x=some c->c≠b)/\∀p∈X.pn++AC,p.1≠b):
  Inv X AC σ H' { s with heap:=h',gens:=g',drawn:=d',toks:=t' }:=by
 obtain⟨m,⟨o,es,ep,ho,r⟩,_⟩:=id I.loc
 obtain⟨sl,hL⟩:=u.any ho I.free λz=>(hch _ z).2.1 rfl
 exact I.step (ch:=ch) hch (λb o hL hb hc e n=>u.keep b o e n (λz=>(b_.mp (I.KQ b z)).elim hL hb) hc) (λb o _ _ hc e n=>u.any e n hc) (λb o hc e n=>u.free b o e n hc) (λb o hc e=>u.there b o e hc) u.tups u.pN u.tN (λm' hm=>by obtain⟨o',es',x8,ho',r'⟩:=hm;rw[ho]at ho';cases ho';exact⟨_,es',x8,hL,r'⟩) hok hg
def Inv.turned(I:Inv X AC σ H s)(k:∀b o,b≠it->s.heap.get? b=some o->h'.get? b=some o)(hn:H it=none)(hL:it≠X.env.locals)(h1:it∈X.ex\/X.s₀.heap.objs.size<=it)(h2:∀x c,X.env.cells.lookup x=some c->c≠it)(h3:∀p∈X.pn++AC,p.1≠it):Inv X AC σ H { s with heap:=h',toks:=t' }:=by
 have nit:∀b u,H b=some u->b≠it:=λb u e z=>by rw[z,hn]at e;cases e
 refine I.step (g':=s.gens) (d':=s.drawn) (ch:=[it]) (λb hb=>?_) (λb o _ _ hc e _=>k b o (λz=>hc (by simp[z])) e) (λb o _ _ hc e _=>⟨o.slots,k b o (λz=>hc (by simp[z])) e⟩) (λ_ _ _ _ n=>n)
  (λb o hc e=>⟨o,k b o (λz=>hc (by simp[z])) e⟩) (λ_ _ e=>e) (λ_ _ _ e=>e) (λb ps e=>⟨#[],by rw[e];simp⟩) (λm hm=>?_) (λb u e=>?_) I.bare
 . have e:b=it:=by simpa using hb
   subst e
   exact⟨h1,hL,h2,h3⟩
 . obtain⟨o,es,ep,ho,r⟩:=hm
   exact⟨o,es,ep,k _ o (bB hL) ho,r⟩
 . refine(I.hok b u e).stay (λc v hc q=>k c v ?_ q) (λ_ q=>q) λ_ _ q=>q
   rcases hc with z|z
   . rw[z];exact nit b u e
   . exact nit c _ z
def Inv.tok(I:Inv X AC σ H s)(t:Nat):Inv X AC σ H { s with toks:=t }:=I.un (h':=s.heap) (t':=t) Un.refl I.hok
theorem Inv.kept(I:Inv X AC σ H s)(k:∀b u,s.heap.get? b=some u->h'.get? b=some u):Inv X AC σ H { s with heap:=h',toks:=t' }:=I.un (Un.kept k) (I.hok.kept k)
theorem Inv.laid(I:Inv X AC σ H s)(k:∀b u,s.heap.get? b=some u->h'.get? b=some u)(hp:s.heap.objs.size<=a)(new:e_ X.prog X.w (upd H a o) h' a o):Inv X AC σ (upd H a o) { s with heap:=h',toks:=t' }:=I.un (Un.laid k hp (I.hok.fresh hp)) (I.hok.laid k hp new)
theorem Inv.write{x e:Addr}(I:Inv X AC σ H s)(mu:SV (H x))(he:e=x\/H e=some (.own x))(k:∀b u,b≠e->s.heap.get? b=some u->h'.get? b=some u)(Pz:∃u,h'.get? e=some u)(new:e_ X.prog X.w (upd H x o) h' x o):Inv X AC σ (upd H x o) { s with heap:=h',toks:=t' }:=I.un (Un.write mu he k Pz) (I.hok.write mu he k Pz new)
def Inv.PD{XI:AO}(I:Inv X AC σ H s)(h:∀p∈XI,s.heap.get? p.1=some p.2/\H p.1=none/\p.1≠X.env.locals/\p.1∉X.fs/\∀v,p.2.data ≠ .cell v):Inv X XI σ H s:=⟨I.ok,I.os,I.bare,I.base,I.loc,I.cell,I.free,I.lP,λp hp=>(fW.mp hp).elim (λz=>I.pin p (yv _ z)) (h p),I.hok,I.len⟩
def Cz(hN:N.Nodup)(a:N[i]?=some x)(b:N[j]?=some x):i=j:=by obtain⟨h1,e1⟩:=dX.mp a;obtain⟨h2,e2⟩:=dX.mp b;exact(List.getElem_inj hN).mp (e1.trans e2.symm)
def Hw{A:Around}{v:V}(I:Inv X AC σ H s)(hN:X.N.Nodup)(hi:X.N[i]?=some x)(hx:Loc X.env.scope x)(r:RelV v u)(h:∀s',Inv X AC (σ.set i (some v)) H s'->(∃a,Heap.SameBut a s.heap s'.heap/\(a=X.env.locals\/X.env.cells.lookup x=some a))->Q () s')(hf:X.fn x=true\/X.env.scope.names.lookup x=some .local:=by first|exact .inl rfl|exact .inr rfl|assumption):wpAny M A (storeName X.env x u) Q E s:=by
 obtain⟨m,hn,hl⟩:=id I.loc
 have hcls:(X.env.scope.kind ==.class || (X.env.scope.kind ==.module && X.env.locals != X.env.globals))=false:=by rw[I.ok.kind];rfl
 have hiσ:i<σ.length:=by rw[I.len];exact(dX.mp hi).1
 have KP:=I.KP
 have tracked:∀{a:Addr}{h':Heap},(∃o,s.heap.get? a=some o/\H a=none)->Heap.SameBut a s.heap h'->ig X.prog X.w H h':=λ{a h'} ha hs b ob e=>by
  obtain⟨_,_,hfree⟩:=ha;refine(I.hok b ob e).stay (λc w' hc q=>(hs.2 c ?_).trans q) (λ_ q=>q) λ_ _ q=>q;rintro rfl;rcases hc with rfl|hc
  .rw [hfree]at e;cases e
  .rw [hfree]at hc;cases hc
 rcases hx with hk|hk
 . refine wpAny_storeName_local hk hn (λh' hn' hs=>?_) hcls
   obtain⟨oL,_,_,hoL,_⟩:=id hn
   refine h _ ⟨I.ok,I.os,I.bare,⟨λb o e n hb hx=>?_,λb o e n hb hx=>?_,I.base.free,λb o e hx=>?_,I.base.tups,I.base.pN,I.base.tN⟩,⟨_,hn',λj y v' e1 e2 e3=>?_⟩,λy c e=>?_,I.free,I.lP,λp hp=>?_,tracked ⟨oL,hoL,I.free⟩ hs,by simpa using I.len⟩ ⟨_,hs,.inl rfl⟩
   . exact(hs.2 b (d7 (lK (bM e) I.ok.above))).trans (I.base.keep b o e n hb hx)
   . obtain⟨sl,e1⟩:=I.base.slot b o e n hb hx
     exact⟨sl,(hs.2 b (d7 (lK (bM e) I.ok.above))).trans e1⟩
   . obtain⟨o',e1⟩:=I.base.there b o e hx
     exact⟨o',(hs.2 b (d7 (lK (bM e) I.ok.above))).trans e1⟩
   . by_cases hj:j=i
     . subst hj
       rw[hi]at e1;cases e1
       rw[qJ hiσ]at e2
       cases e2
       exact⟨u,r,.inl ⟨hk,by simp⟩⟩
     . rw[Ab (bB hj)]at e2
       obtain⟨u',r',q⟩:=hl j y v' e1 e2 e3
       refine⟨u',r',?_⟩
       rcases q with⟨k,e⟩|⟨k,c,e,z⟩
       . refine .inl ⟨k,?_⟩
         have:y≠x:=λe=>hj (Cz hN e1 (e▸hi))
         simp[this,e]
       . exact .inr ⟨k,c,e,z.sameBut hs (KP y c e)⟩
   . obtain⟨w',z⟩:=I.cell y c e
     exact⟨w',z.sameBut hs (KP y c e)⟩
   . obtain⟨e,n,ne,nf,d⟩:=I.pin p hp
     exact⟨(hs.2 p.1 ne).trans e,n,ne,nf,d⟩
 . have hfn:X.fn x=true:=by
    rcases hf with z|z
    . exact z
    . rw[z]at hk;cases hk
   obtain⟨c,hc⟩:=I.ok.has x (.inl hk)
   obtain⟨w',z⟩:=I.cell x c hc
   refine wpAny_storeName_cell I.ok.kind hk hc z (λh' hc' hs=>?_)
   obtain⟨oc,hoc,ais⟩:=id z
   refine h { s with heap:=h' } ⟨I.ok,I.os,I.bare,⟨λb o e n hb hx=>?_,λb o e n hb hx=>?_,I.base.free,λb o e hx=>?_,I.base.tups,I.base.pN,I.base.tN⟩,⟨m,hn.sameBut hs (bB (KP x c hc)),λj y v' e1 e2 e3=>?_⟩,λy c' e=>?_,I.free,I.lP,λp hp=>?_,tracked ⟨oc,hoc,I.lP x c hc⟩ hs,by simpa using I.len⟩ ⟨c,hs,.inr hc⟩
   . exact(hs.2 b (d7 (lK (bM e) (I.ok.ff x c hfn hc)))).trans (I.base.keep b o e n hb hx)
   . obtain⟨sl,e1⟩:=I.base.slot b o e n hb hx
     exact⟨sl,(hs.2 b (d7 (lK (bM e) (I.ok.ff x c hfn hc)))).trans e1⟩
   . obtain⟨o',e1⟩:=I.base.there b o e hx
     exact⟨o',(hs.2 b (d7 (lK (bM e) (I.ok.ff x c hfn hc)))).trans e1⟩
   . by_cases hj:j=i
     . subst hj
       rw[hi]at e1;cases e1
       rw[qJ hiσ]at e2
       cases e2
       exact⟨u,r,.inr ⟨.inl hk,c,hc,hc'⟩⟩
     . rw[Ab (bB hj)]at e2
       obtain⟨u',r',q⟩:=hl j y v' e1 e2 e3
       refine⟨u',r',?_⟩
       rcases q with q|⟨k,c',e,z'⟩
       . exact .inl q
       . refine .inr ⟨k,c',e,z'.sameBut hs ?_⟩
         rintro rfl
         exact hj (Cz hN e1 (I.ok.inj _ _ _ e hc▸hi))
   . by_cases hcc:c'=c
     . subst hcc;exact⟨_,hc'⟩
     . obtain⟨w2,z2⟩:=I.cell y c' e
       exact⟨w2,z2.sameBut hs hcc⟩
   . obtain⟨e,n,ne,nf,d⟩:=I.pin p hp
     refine⟨(hs.2 p.1 ?_).trans e,n,ne,nf,d⟩
     intro q
     rw[q,hoc]at e
     have q':oc=p.2:=fM e
     exact d w' (by rw[<-q'];exact ais)
def yJ{A:Around}{v:V}(I:Inv X AC σ H s)(hN:X.N.Nodup)(hi:X.N[i]?=some x)(hx:Loc X.env.scope x)(r:RelV v u)(h:∀s',Inv X AC (σ.set i (some v)) H s'->Q () s')(hf:X.fn x=true\/X.env.scope.names.lookup x=some .local:=by first|exact .inl rfl|exact .inr rfl|assumption):wpAny M A (storeName X.env x u) Q E s:=
 Hw I hN hi hx r (λs' I' _=>h s' I') hf
def Inv.DH{s':Shared}(I:Inv X AC σ H s)(ho:s'.os=s.os)(u:Un (frs X.stack) ch H H' s.heap s'.heap)(hok:ig X.prog X.w H' s'.heap)(hg:AllBare s'.gens)(hch:∀b∈ch,(b∈X.ex\/X.s₀.heap.objs.size<=b)/\b≠X.env.locals/\(∀x c,X.env.cells.lookup x=some c->c≠b)/\∀p∈X.pn++AC,p.1≠b):Inv X AC σ H' s':=by
 obtain⟨h',g',d',t',o'⟩:=s'
 have e:o'=s.os:=ho
 subst e
 exact I.call (g':=g') (t':=t') (d':=d') u hok hg hch
end
abbrev XK:=Value->Option Addr->Hp->Prop
abbrev St:=Da (Option V)
abbrev VK:=V->Hp->Prop
abbrev TE:=St->Hp->VK->Prop
abbrev TT:=St->Hp->(Bool->Hp->Prop)->Prop
abbrev TA:=St->Hp->(Da V->Hp->Prop)->Prop
structure Ends where
 nx:St->Hp->Prop
 rt:VK
 bk:St->Hp->Prop:=λ_ _=>False
 ct:St->Hp->Prop:=λ_ _=>False
abbrev TS:=Ends->St->Hp->Prop
def EP(X:Cx)(AC:AO)(σ:St)(Q:VK)(u:Value)(s':Shared):Prop:=∃v H',Inv X AC σ H' s'/\RelV v u/\Q v H'
def TP(X:Cx)(AC:AO)(σ:St)(Q:Bool->Hp->Prop)(b:Bool)(s':Shared):Prop:=∃H',Inv X AC σ H' s'/\Q b H'
def AP(X:Cx)(AC:AO)(σ:St)(Q:Da V->Hp->Prop)(us:Da Value)(s':Shared):Prop:=∃vs H',Inv X AC σ H' s'/\Vals vs us/\Q vs H'
def SP(X:Cx)(AC:AO)(D:Ends)(f:Flow)(s':Shared):Prop:=match f with
 | .next=>∃σ' H',Inv X AC σ' H' s'/\D.nx σ' H'
 | .brk=>∃σ' H',Inv X AC σ' H' s'/\D.bk σ' H'
 | .cont=>∃σ' H',Inv X AC σ' H' s'/\D.ct σ' H'
 | .ret u=>∃v σ' H',Inv X AC σ' H' s'/\RelV v u/\D.rt v H'
def PE(X:Cx)(e:Expr)(t:TE):Prop:=∀(AC:AO)(s:Shared)(σ:St)(H:Hp)(Q:VK),Inv X AC σ H s->t σ H Q->wpAny (model X.prog X.w) X.A (eval e X.env) (EP X AC σ Q) X.xe s
def PT(X:Cx)(e:Expr)(t:TT):Prop:=∀(AC:AO)(s:Shared)(σ:St)(H:Hp)(Q:Bool->Hp->Prop),Inv X AC σ H s->t σ H Q->wpAny (model X.prog X.w) X.A (isTrue e X.env (eval e X.env)) (TP X AC σ Q) X.xe s
def PW(X:Cx)(e:Expr)(t:TT):Prop:=∀(whole:Sem Value)(AC:AO)(s:Shared)(σ:St)(H:Hp)(Q:Bool->Hp->Prop),Inv X AC σ H s->t σ H Q->wpAny (model X.prog X.w) X.A (isTrue e X.env whole) (TP X AC σ Q) X.xe s
variable {X:Cx}{e:Expr}
def PW.pt{t:TT}(h:PW X e t):PT X e t:=h _
def PA(X:Cx)(es:Da Expr)(t:TA):Prop:=∀(pos:Pos)(AC:AO)(s:Shared)(σ:St)(H:Hp)(Q:Da V->Hp->Prop),Inv X AC σ H s->t σ H Q->wpAny (model X.prog X.w) X.A (spliced (backTo pos (starEach es X.env))) (AP X AC σ Q) X.xe s
def PS(X:Cx)(st:Stmt)(t:TS):Prop:=∀(AC:AO)(s:Shared)(σ:St)(H:Hp)(D:Ends),Inv X AC σ H s->t D σ H->wpAny (model X.prog X.w) X.A (exec st X.env) (SP X AC D) X.xe s
def uu(X:Cx)(st:Da Stmt)(t:TS):Prop:=∀(AC:AO)(s:Shared)(σ:St)(H:Hp)(D:Ends),Inv X AC σ H s->t D σ H->wpAny (model X.prog X.w) X.A (execs st X.env) (SP X AC D) X.xe s
variable {s:Shared}
def aZ{α:Type}{t:Sem α}{Q Q':α->Shared->Prop}{A:Around}(h:wpAny M A t Q E s)(hQ:∀a s,Q a s->Q' a s):wpAny M A t Q' E s:=fq h hQ λ_ _ x=>x
variable {pos:Pos}{AC:AO}{σ:St}
section
variable {X:Cx}
inductive CA(i:Nat)(σ:St)(H:Hp)(Q:VK):Prop
 |mk(v:_)(_:σ[i]?=some (some v))(_:Q v H)
def tC(v:V):TE:=λ_ H Q=>Q v H
def aaw(hN:X.N[i]?=some x)(hv:XG X.env.scope x)(hd:(x==("__debug__":Str))=false:=by decide)(hcd:(x==("__classdict__":Str))=false:=by decide):PE X (.Name x pos) (CA i):=by
 intro AC s σ H Q I h;obtain⟨v,e,h⟩:=h;obtain⟨m,hn,hl⟩:=I.loc;obtain⟨u,r,l⟩:=hl i x v hN e hv;have fin:EP X AC σ Q u s:=⟨v,H,I,r,h⟩
 rcases l with⟨hk,hm⟩|⟨hk,c,hc,hcell⟩
 .exact wpAny_Name (wpAny_loadName_local I.ok.kind hk hn hm fin) hd
 .rcases hk with hk|hk
  .exact wpAny_Name (wpAny_loadName_cell I.ok.kind hk hc hcell fin) hd
  .exact wpAny_Name (wpAny_loadName_free I.ok.kind hk hc hcell fin hcd) hd
def SY{x j pos}:PE X (.Constant (.str x) j pos) (tC (.str x)):=λ_ _ _ H _ I h=>Calls.Constant_str ⟨.str x,H,I.tok _,⟨_,Z⟩,h⟩
def Gl(X:Cx)(x:Str):Prop:=X.env.kindOf x=some .globalImplicit
def uL{Q:VS}(I:Inv X AC σ H s)(hg:Gl X x)(hm:X.mg x=some u)(h:Q u s)(hd:(x==("__debug__":Str))=false:=by decide):wpAny (model X.prog X.w) X.A (eval (.Name x pos) X.env) Q E s:=
 Calls.Name_function_global I.ok.kind hg (Calls.loadGlobal_global (by rw[I.ok.glob];exact I.mod.glob.keeps I.bk) hm h) hd
def x9{Q:VS}(I:Inv X AC σ H s)(hg:Gl X x)(hm:X.mg x=none)(hv:bootBuiltins x=some u)(h:Q u s)(hn:x ≠ "__name__":=by decide)(hd:(x==("__debug__":Str))=false:=by decide):wpAny (model X.prog X.w) X.A (eval (.Name x pos) X.env) Q E s:=by
 obtain⟨mb,h1,h2⟩:=I.mod.blt
 exact Calls.Name_function_global I.ok.kind hg (Calls.loadGlobal_builtin (by rw[I.ok.glob];exact I.mod.glob.keeps I.bk) hm (by rw[I.ok.blt];exact h1.keeps I.bk) ((h2 x hn).trans hv) h) hd
variable {a b:Expr}{ta tb:TE}{pos:Pos}
def PC(X:Cx)(op:CmpOp)(a b:Expr)(t:TE):Prop:=∀(AC:AO)(s:Shared)(σ:St)(H:Hp)(Q:VK),Inv X AC σ H s->t σ H Q->wpAny (model X.prog X.w) X.A (eval a X.env) (λv s₁=>wpAny (model X.prog X.w) X.A (eval b X.env) (λu s₂=>wpAny (model X.prog X.w) X.A (compareOp op v u) (EP X AC σ Q) X.xe s₂) X.xe s₁) X.xe s
inductive yTB(Q:Bool->Hp->Prop)(x:V)(H1:Hp):Prop
 |mk(c:_)(_:x =.bl c)(_:Q c H1)
def tB(t:TE):TT:=λσ H Q=>t σ H (yTB Q)
variable {tA XJ:TT}{Cl:Da Expr}
def aeF(u:TT)(σ:St)(Q:Bool->Hp->Prop):Bool->Hp->Prop:=λc H1=>if c=true then u σ H1 Q else Q false H1
def ait(t u:TT):TT:=λσ H Q=>t σ H (aeF u σ Q)
def aiu(u:TT)(σ:St)(Q:Bool->Hp->Prop):Bool->Hp->Prop:=λc H1=>if c=true then Q true H1 else u σ H1 Q
def tOr(t u:TT):TT:=λσ H Q=>t σ H (aiu u σ Q)
abbrev aeG(Q:Bool->Hp->Prop):Bool->Hp->Prop:=λc H1=>Q (!c) H1
def aiv(t:TT):TT:=λσ H Q=>t σ H (aeG Q)
inductive aax(tb:TE)(σ:St)(Q:VK)(x:V)(H1:Hp):Prop
 |mk(c:_)(_:x =.bl c)(_:if c=true then tb σ H1 Q else Q (.bl false) H1)
def aeH(ta tb:TE):TE:=λσ H Q=>ta σ H (aax tb σ Q)
end
def aG(K:Fg)(H:Hp)(a:Addr)(xs:Da V):Prop:=Rd H a (.lst xs)\/
  ∃(o:Obj)(BT:Array Value)(n:Nat),K.lookup a=some o/\o.cls =.type "list"/\o.dict=none/\o.data =.seq BT n/\BT.size<=sizeLine/\Vals xs BT.toList
def dm(K:Fg)(H:Hp)(a:Addr)(xs:Da V):Prop:=Rd H a (.tup xs)\/
  ∃(o:Obj)(BT:Array Value)(n:Nat),K.lookup a=some o/\o.cls =.type "tuple"/\o.data =.seq BT n/\BT.size<=sizeLine/\Vals xs BT.toList
noncomputable def aiw:Value->Option V
 | .none=>some .cI
 | .bool b=>some (.bl b)
 | .int i _=>some (.int i)
 | .str x _=>some (.str x)
 | .bytes b _=>some (.Cb b)
 | .float b _=>some (.XE b)
 | .ref a=>some (.ref a)
 | .type n=>some (.ty n)
 | _=>none
def RelV.abs{x:V}(r:RelV x u):aiw u=some x:=by
 cases x with
 | cI=>cases r;rfl
 | bl _=>cases r;rfl
 | int _=>obtain⟨t,rfl⟩:=r;rfl
 | str _=>obtain⟨t,rfl⟩:=r;rfl
 | Cb _=>obtain⟨t,rfl⟩:=r;rfl
 | XE _=>obtain⟨t,rfl⟩:=r;rfl
 | ref _=>cases r;rfl
 | ty _=>cases r;rfl
variable {y:V}
def RelV.inj{x:V}(r:RelV x u)(q:RelV y u):x=y:=fM (r.abs.symm.trans q.abs)
theorem Vals.inj:∀{xs ys:Da V}{us:Da Value},Vals xs us->Vals ys us->xs=ys
 | _,_,_,.nil,.nil=>rfl
 | _,_,_,.cons r t,.cons r' t'=>by rw[r.inj r',Vals.inj t t']
variable {K:Fg}
section
variable {X:Cx}{AC:AO}{σ:St}{H:Hp}{s:Shared}{a:Addr}{xs ys:Da V}
def aG.of(h:H a=some (.lst xs)):aG K H a xs:=.inl (.inl h)
def dm.of(h:H a=some (.tup xs)):dm K H a xs:=.inl (.inl h)
theorem Inv.list(I:Inv X AC σ H s)(h:aG X.K H a xs):∃BT:Da Value,Vals xs BT/\PlainL s.heap a BT.toArray/\xs.length<=sizeLine:=by
 rcases h with h|⟨o,BT,n,hk,hc,hd,hs,hz,r⟩
 .obtain ⟨z,BT,n,r,e⟩:=h.ok I.hok;exact⟨BT,r,⟨_,n,e,Z,Z,Z⟩,z⟩
 .refine ⟨BT.toList,r,⟨o,n,I.pO a o hk,hc,hd,by simpa using hs⟩,?_⟩;have e:=r.length;simp only[Array.length_toList]at e;omega
theorem Inv.tuple(I:Inv X AC σ H s)(h:dm X.K H a xs):∃BT:Da Value,Vals xs BT/\IsTup s.heap a BT.toArray/\xs.length<=sizeLine:=by
 rcases h with h|⟨o,BT,n,hk,hc,hs,hz,r⟩
 .obtain ⟨z,BT,r,p⟩:=h.ok I.hok;exact⟨BT,r,p,z⟩
 .refine ⟨BT.toList,r,⟨o,I.pO a o hk,hc,n,by simpa using hs⟩,?_⟩;have e:=r.length;simp only[Array.length_toList]at e;omega
def Inv.VR(I:Inv X AC σ H s)(h:aG X.K H a xs)(h':aG X.K H a ys):xs=ys:=by
 obtain⟨BT,r,⟨o,n,e,_,_,d⟩,_⟩:=I.list h;obtain⟨its',r',⟨o',n',e',_,_,d'⟩,_⟩:=I.list h';rw[e]at e';cases e';rw[d]at d';injection d' with d1 _;have:BT=its':=by simpa using rQ Array.toList d1
 subst this;exact r.inj r'
end
abbrev Cx.xE(X:Cx)(E:VS):Cx:={ X with xe:=E }
abbrev Cx.Cc(X:Cx):Cx:=X.xE λ_ _=>False
theorem Cx.Ok.xE(ok:X.Ok)(E:VS):(X.xE E).Ok:=⟨ok.mod,ok.kind,ok.glob,ok.blt,ok.above,ok.inj,ok.has,ok.ff,ok.hd,ok.frames,ok.stk,ok.DF,ok.bs,ok.DG,ok.Fy,ok.Ae,ok.n_,ok.Hv⟩
def Cx.Ok.sP(ok:(X.xE E).Ok):X.Ok:=⟨ok.mod,ok.kind,ok.glob,ok.blt,ok.above,ok.inj,ok.has,ok.ff,ok.hd,ok.frames,ok.stk,ok.DF,ok.bs,ok.DG,ok.Fy,ok.Ae,ok.n_,ok.Hv⟩
variable {D:Ends}
section
variable {X:Cx}{AC:AO}{σ:St}{H:Hp}{s:Shared}{E:VS}
theorem Inv.xE(I:Inv X AC σ H s)(E:VS):Inv (X.xE E) AC σ H s:=⟨I.ok.xE E,I.os,I.bare,I.base,I.loc,I.cell,I.free,I.lP,I.pin,I.hok,I.len⟩
theorem Inv.sP(I:Inv (X.xE E) AC σ H s):Inv X AC σ H s:=⟨I.ok.sP,I.os,I.bare,I.base,I.loc,I.cell,I.free,I.lP,I.pin,I.hok,I.len⟩
theorem SP.sP{f:Flow}(h:SP (X.xE E) AC D f s'):SP X AC D f s':=by
 cases f with
 | next=>obtain⟨σ',H',I,q⟩:=h;exact⟨σ',H',I.sP,q⟩
 | brk=>obtain⟨σ',H',I,q⟩:=h;exact⟨σ',H',I.sP,q⟩
 | cont=>obtain⟨σ',H',I,q⟩:=h;exact⟨σ',H',I.sP,q⟩
 | ret u=>obtain⟨v,σ',H',I,r,q⟩:=h;exact⟨v,σ',H',I.sP,r,q⟩
theorem uu.Cc{st:Da Stmt}{t:TS}(h:uu X.Cc st t):uu X st t:=λAC s σ H D I hw=>
 fq (h AC s σ H D (I.xE _) hw) (λ_ _ q=>q.sP) λ_ _ z=>False.elim z
end
variable {tc:TT}
section
variable {X:Cx}{st:Stmt}{Cl:Da Stmt}{t u:TS}{e:Expr}{te:TE}{pos:Pos}
def aeI:TS:=λD σ H=>D.nx σ H
def Ends.sq(D:Ends)(u:TS):Ends:={ D with nx:=u D }
def Ends.lp(D:Ends)(N:St->Hp->Prop):Ends:={ D with nx:=N,ct:=N,bk:=D.nx }
def i9(t u:TS):TS:=λD σ H=>t (D.sq u) σ H
def Inv.quiet(I:Inv X AC σ H s):interactive X.env=false:=by simp[interactive,I.ok.kind]
def aay(D:Ends)(σ:St):V->Hp->Prop:=λ_ H1=>D.nx σ H1
def aeJ(te:TE):TS:=λD σ H=>te σ H (aay D σ)
def aix(te:TE):TS:=λD σ H=>te σ H D.rt
def aeK:TS:=λD _ H=>D.rt .cI H
def aeL(t:TS)(u:TS)(D:Ends)(σ:St):Bool->Hp->Prop:=λb H1=>if b=true then t D σ H1 else u D σ H1
def aaz(c:TT)(t u:TS):TS:=λD σ H=>c σ H (aeL t u D σ)
def XM{c:Expr}{a b:Da Stmt}(hc:PT X c tc)(ha:uu X a t)(hb:uu X b u):PS X (.If c a b pos) (aaz tc t u):=by
 intro AC s σ H D I h;refine wpAny_If (aZ (hc AC s σ H _ I h) λd s1 ⟨H1,I1,q1⟩=>?_);cases d with
 | true=>exact ha AC s1 σ H1 D I1 q1
 | false=>exact hb AC s1 σ H1 D I1 q1
def aaA:TS:=λ_ _ _=>False
end
abbrev TG:=V->St->Hp->(St->Hp->Prop)->Prop
abbrev DI:=Da V->St->Hp->(St->Hp->Prop)->Prop
def PG(X:Cx)(target:Expr)(t:TG):Prop:=∀(AC:AO)(s:Shared)(σ:St)(H:Hp)(v:V)(u:Value)(Q:St->Hp->Prop),Inv X AC σ H s->RelV v u->t v σ H Q->wpAny (model X.prog X.w) X.A (assign target X.env u) (λ_ s'=>∃σ' H',Inv X AC σ' H' s'/\Q σ' H') X.xe s
def PGs(X:Cx)(ts:Da Expr)(t:DI):Prop:=∀(AC:AO)(s:Shared)(σ:St)(H:Hp)(vs:Da V)(us:Da Value)(Q:St->Hp->Prop),Inv X AC σ H s->Vals vs us->t vs σ H Q->wpAny (model X.prog X.w) X.A (assignInOrder ((assignEach ts X.env).map (·.2)) us) (λ_ s'=>∃σ' H',Inv X AC σ' H' s'/\Q σ' H') X.xe s
abbrev tO:=V->V->V->Hp->(Hp->Prop)->Prop
def VT(X:Cx)(t:tO):Prop:=∀(AC:AO)(s:Shared)(σ:St)(H:Hp)(o i v:V)(ov iv u:Value)(Q:Hp->Prop),Inv X AC σ H s->RelV o ov->RelV i iv->RelV v u->t o i v H Q->wpAny (model X.prog X.w) X.A (setItem ov iv u) (λ_ s'=>∃H',Inv X AC σ H' s'/\Q H') X.xe s
abbrev KR:=V->V->Hp->VK->Prop
def PIp(X:Cx)(op:Operator)(t:KR):Prop:=∀(AC:AO)(s:Shared)(σ:St)(H:Hp)(x y:V)(v u:Value)(Q:VK),Inv X AC σ H s->RelV x v->RelV y u->t x y H Q->wpAny (model X.prog X.w) X.A (inplaceOp op v u) (EP X AC σ Q) X.xe s
variable {es:Da Expr}
section
variable {X:Cx}{pos:Pos}
def pP(i:Nat):TG:=λv σ H Q=>Q (σ.set i (some v)) H
inductive aaC(vs:Da V)(σ:St)(H:Hp)(Q:St->Hp->Prop):Prop
 |mk(_:vs=[])(_:Q σ H)
def aaD(u:DI)(Q:St->Hp->Prop)(r:Da V):St->Hp->Prop:=λσ' H'=>u r σ' H' Q
inductive XO(t:TG)(u:DI)(vs:Da V)(σ:St)(H:Hp)(Q:St->Hp->Prop):Prop
 |mk(v r:_)(_:vs=v::r)(_:t v σ H (aaD u Q r))
inductive Af(K:Fg)(n:Nat)(t:DI)(v:V)(σ:St)(H:Hp)(Q:St->Hp->Prop):Prop
 |mk(a xs:_)(_:v =.ref a)(_:dm K H a xs)(_:xs.length=n)(_:t xs σ H Q)
def aaE{k:Nat}{t:DI}{n:Nat}(hc:X.calm=true)(h:PGs X es t)(hn:(assignEach es X.env).length=n:=by rfl)(hst:(assignEach es X.env).findIdx? (·.1)=none:=by rfl):PG X (.Tuple es k pos) (Af X.K n t):=by
 intro AC s σ H v u Q I r hw
 obtain⟨a,xs,e1,hq,hl,hw⟩:=hw
 subst e1
 cases r
 obtain⟨BT,rv,ht,hz⟩:=I.tuple hq
 refine assign_Tuple_tuple (I.ok.hd hc) ht (by simp[hn,<-hl,rv.length]) hst λh' hx=>?_
 have I1:Inv X AC σ H { s with heap:=h' }:=I.kept (t':=s.toks) λb o e=>hx b o (d7 (bM e)) e
 exact h AC _ σ H xs _ Q I1 (by simpa using rv) hw
def Y6(σ:St)(Q:St->Hp->Prop):Hp->Prop:=λH3=>Q σ H3
def Y7(t:tO)(v:V)(σ:St)(Q:St->Hp->Prop)(o:V):V->Hp->Prop:=λi H2=>t o i v H2 (Y6 σ Q)
def aeM(ti:TE)(t:tO)(v:V)(σ:St)(Q:St->Hp->Prop):V->Hp->Prop:=λo H1=>ti σ H1 (Y7 t v σ Q o)
def aiy(to ti:TE)(t:tO):TG:=λv σ H Q=>to σ H (aeM ti t v σ Q)
def aeN(g:TG)(D:Ends)(σ:St):V->Hp->Prop:=λx H1=>g x σ H1 D.nx
def VU(te:TE)(g:TG):TS:=λD σ H=>te σ H (aeN g D σ)
inductive aeO(i:Nat)(j:Nat)(D:Ends)(σ:St)(vs:Da V)(H1:Hp):Prop
 |mk(v w:_)(_:vs=[v,w])(_:D.nx ((σ.set i (some v)).set j (some w)) H1)
def aiz(i j:Nat)(ta:TA):TS:=λD σ H=>ta σ H (aeO i j D σ)
def VW(D:Ends)(σ:St):Hp->Prop:=λH6=>D.nx σ H6
def VX(pQ:tO)(D:Ends)(σ:St)(o:V)(i:V):V->Hp->Prop:=λz H5=>pQ o i z H5 (VW D σ)
def VY(zR:KR)(pQ:tO)(D:Ends)(σ:St)(o:V)(i:V)(x:V):V->Hp->Prop:=λy H4=>zR x y H4 (VX pQ D σ o i)
def VZ(te:TE)(zR:KR)(pQ:tO)(D:Ends)(σ:St)(o:V)(i:V):V->Hp->Prop:=λx H3=>te σ H3 (VY zR pQ D σ o i x)
def V0(te:TE)(Ag:V->V->Hp->VK->Prop)(zR:KR)(pQ:tO)(D:Ends)(σ:St)(o:V):V->Hp->Prop:=λi H2=>Ag o i H2 (VZ te zR pQ D σ o i)
def aaF(ti:TE)(te:TE)(Ag:V->V->Hp->VK->Prop)(zR:KR)(pQ:tO)(D:Ends)(σ:St):V->Hp->Prop:=λo H1=>ti σ H1 (V0 te Ag zR pQ D σ o)
def aeP(to ti te:TE)(Ag:V->V->Hp->VK->Prop)(zR:KR)(pQ:tO):TS:=λD σ H=>to σ H (aaF ti te Ag zR pQ D σ)
def aaG(X:Cx)(t:V->V->Hp->VK->Prop):Prop:=∀(AC:AO)(s:Shared)(σ:St)(H:Hp)(o i:V)(ov iv:Value)(Q:VK),Inv X AC σ H s->RelV o ov->RelV i iv->t o i H Q->wpAny (model X.prog X.w) X.A (getItem ov iv) (EP X AC σ Q) X.xe s
inductive ipI(f:Int->Int->Int)(x:V)(y:V)(H:Hp)(Q:VK):Prop
 |mk(i j:_)(_:x =.int i)(_:y =.int j)(_:Q (.int (f i j)) H)
def aaH:PIp X .Add (ipI λi j=>i+j):=by intro AC s σ H x y v u Q I r1 r2 h;obtain⟨i,j,e1,e2,q⟩:=h;subst e1;subst e2;obtain⟨t,rfl⟩:=r1;obtain⟨t',rfl⟩:=r2;exact iadd_int ⟨.int _,H,I.tok _,⟨_,Z⟩,q⟩
def aaI:PIp X .Sub (ipI λi j=>i-j):=by intro AC s σ H x y v u Q I r1 r2 h;obtain⟨i,j,e1,e2,q⟩:=h;subst e1;subst e2;obtain⟨t,rfl⟩:=r1;obtain⟨t',rfl⟩:=r2;exact isub_int ⟨.int _,H,I.tok _,⟨_,Z⟩,q⟩
end
section
variable {X:Cx}{pos:Pos}
def aaJ(c:TT)(tb:TS):TS:=λD σ H=>∃W:Nat->St->Hp->Prop,(∃m,W m σ H)/\∀m σ H,W m σ H->c σ H λb H1=>if b=true then ∃N:St->Hp->Prop,(∀σ' H',N σ' H'->∃m',m'<m/\W m' σ' H')/\tb { D with nx:=N,ct:=N,bk:=D.nx } σ H1 else D.nx σ H1
end
structure It where
 go:Nat->Hp->Prop
 Ah:Nat->Hp->V->Hp->Prop
 stop:Nat->Hp->Prop
def mj(X:Cx)(AC:AO)(H:Hp)(b:Addr):Prop:=H b=none/\b≠X.env.locals/\b∉X.fs/\(b∈X.ex\/X.s₀.heap.objs.size<=b)/\(∀x c,X.env.cells.lookup x=some c->c≠b)/\∀p∈X.pn++AC,p.1≠b
variable {H':Hp}
def Inv.CC(I:Inv X AC σ H s)(hb:s.heap.objs.size<=b)(hn:H' b=none):mj X AC H' b:=by
 refine⟨hn,wJ (lK I.lt hb),I.air hb,.inr (gD I.sz hb),λx c e z=>?_,λp hp z=>?_⟩
 .obtain ⟨v,q⟩:=I.cell x c e;exact absurd (lK q.lt (by rw[z];exact hb)) (i7 _)
 .exact absurd (lK (bM (I.pin p hp).1) (by rw[z];exact hb)) (i7 _)
structure Turn(P:Program)(w:World)(K:Fg)(tg:Expr)(J:It)(fp:Da Addr)(it:Addr)(tn:Nat->Heap->Prop):Prop where
 mem:it∈fp
 obj:∀i h,tn i h->∀b∈fp,∃o,h.get? b=some o/\∀v,o.data ≠ .cell v
 keep:∀i h h',tn i h->(∀b∈fp,∀o,h.get? b=some o->h'.get? b=some o)->tn i h'
 item:∀(X:Cx),X.prog=P->X.w=w->X.K=K->X.calm=true->∀(i:Nat)(AC:AO)(s:Shared)(σ:St)(H:Hp)(E:VS),Inv X AC σ H s->(∀b∈fp,mj X AC H b)->tn i s.heap->J.go i H->
  wpAny (model P w) X.A (pyNext (.ref it)) (λr s1=>∃u,r=some u/\
   wpAny (model P w) X.A (letOwnedTupleGo tg (.ref it) u) (λ_ s2=>∃x H',Inv X AC σ H' s2/\RelV x u/\J.Ah i H x H'/\tn (i+1) s2.heap/\∀b∈fp,H' b=none) E s1) E s
 done:∀(X:Cx),X.prog=P->X.w=w->X.K=K->X.calm=true->∀(i:Nat)(AC:AO)(s:Shared)(σ:St)(H:Hp)(E:VS),Inv X AC σ H s->(∀b∈fp,mj X AC H b)->tn i s.heap->J.stop i H->
  wpAny (model P w) X.A (pyNext (.ref it)) (λr s1=>r=none/\Inv X AC σ H s1) E s
 self:∀(A:Around)(i:Nat)(s:Shared)(Q:VS)(E:VS),tn i s.heap->Q (.ref it) s->wpAny (model P w) A (pyIter (.ref it)) Q E s
abbrev TI:=St->Hp->(It->Hp->Prop)->Prop
def PIE(X:Cx)(AC:AO)(σ:St)(tg:Expr)(R:It->Hp->Prop)(itv:Value)(s2:Shared):Prop:=∃(it:Addr)(fp:Da Addr)(tn:Nat->Heap->Prop)(J:It)(H':Hp),itv =.ref it/\Inv X AC σ H' s2/\Turn X.prog X.w X.K tg J fp it tn/\tn 0 s2.heap/\(∀b∈fp,mj X AC H' b)/\R J H'
def PI(X:Cx)(tg Bn:Expr)(wi:TI):Prop:=∀(AC:AO)(s:Shared)(σ:St)(H:Hp)(R:It->Hp->Prop),Inv X AC σ H s->wi σ H R->wpAny (model X.prog X.w) X.A (eval Bn X.env) (λv s1=>wpAny (model X.prog X.w) X.A (pyIter v) (PIE X AC σ tg R) X.xe s1) X.xe s
variable {tg:Expr}
def BC{A:Around}{o:Obj}{n:String}{vs:Array Value}(ho:s.heap.get? it=some o)(hc:o.cls =.type n)(hd:o.data =.fields vs)(hn:["enumerate","zip","dict_itemiterator","dict_reverseitemiterator","odict_iterator","itertools.zip_longest","itertools.pairwise"].contains n=false)(hQ:Q () s):wpAny M A (letOwnedTupleGo tg (.ref it) u) Q E s:=by
 unfold letOwnedTupleGo
 cases tg <;> first
  | exact aT hQ
  | (cases u <;> first
      | exact aT hQ
      | (refine az (wpAny_load ho ?_)
         rw[hc,hd]
         show wpAny M A (if(["enumerate","zip","dict_itemiterator","dict_reverseitemiterator","odict_iterator","itertools.zip_longest","itertools.pairwise"].contains n && vs[0]?==some (rawInt _))=true then _ else _) Q E s
         rw[aC (by intro h;rw[hn,Bool.false_and]at h;cases h)]
         exact aT hQ))
def zS(K:Fg)(a:Addr):It:=⟨λi H=>∃xs x,aG K H a xs/\xs[i]?=some x,λi H x H'=>H'=H/\∀xs,aG K H a xs->xs[i]?=some x,λi H=>∃xs,aG K H a xs/\xs.length<=i⟩
def XQ(lo:Int)(n:Nat):It:=⟨λi _=>i<n,λi H x H'=>H'=H/\x =.int (lo+i),λi _=>n<=i⟩
theorem S0{w:World}(a it:Addr):Turn P w K tg (zS K a) [it] it (λi h=>h.IsListIter it a i) where
 mem:=by simp
 obj:=λi h st b hb=>by
  have e:b=it:=by simpa using hb
  subst e;obtain⟨o,e,c,d⟩:=st;exact⟨o,e,λv z=>by rw[d]at z;cases z⟩
 keep:=λi h h' st k=>st.at λo e=>k it (by simp) o e
 item:=by intro X hP hw hK hc i AC s σ H E I hf st hg;subst hP hw hK;obtain⟨xs,x,hq,hx⟩:=hg;obtain⟨BT,rv,p,hz⟩:=I.list hq;obtain⟨u,hu,ru⟩:=rv.get hx;obtain⟨f0,f1,f2,f3,f4,f5⟩:=hf it (by simp);refine wpAny_pyNext_list_item st p.isList (x:=u) (by simpa using hu) λh' st' sb=>?_;have I1:Inv X AC σ H { s with heap:=h' }:=I.turned (t':=s.toks) (λb o hb e=>(sb.2 b hb).trans e) f0 f1 f3 f4 f5;obtain⟨o,e,c,d⟩:=id st';exact⟨u,Z,BC (s:={ s with heap:=h' }) e c d (by decide) ⟨x,H,I1,ru,⟨Z,λys hy=>by rw[I.VR hy hq];exact hx⟩,st',λb hb=>(hf b hb).1⟩⟩
 done:=by intro X hP hw hK hc i AC s σ H E I hf st hg;subst hP hw hK;obtain⟨xs,hq,hx⟩:=hg;obtain⟨BT,rv,p,hz⟩:=I.list hq;obtain⟨f0,f1,f2,f3,f4,f5⟩:=hf it (by simp);have hl:=rv.length;exact wpAny_pyNext_list_end (I.ok.hd hc) st p.isList (by simp;omega) λh' eb=>⟨Z,I.turned (t':=s.toks) (λb o hb e=>eb b o hb e) f0 f1 f3 f4 f5⟩
 self:=λ_ _ _ _ _ st h=>wpAny_pyIter_listiter st h
theorem RG{w:World}(it:Addr)(lo:Int)(n:Nat):Turn P w K tg (XQ lo n) [it] it (λi h=>IsRangeIter h it (lo+(i:Nat)*1) ((n:Int)-(i:Nat)) 1) where
 mem:=by simp
 obj:=λi h st b hb=>by
  have e:b=it:=by simpa using hb
  subst e;exact⟨_,st,λv z=>by have z':Data.fields _=Data.cell v:=z;cases z'⟩
 keep:=λi h h' st k=>k it (by simp) _ st
 item:=by intro X hP hw hK hc i AC s σ H E I hf st hg;subst hP hw hK;obtain⟨f0,f1,f2,f3,f4,f5⟩:=hf it (by simp);have W:=Walks.range (prog:=X.prog) (w:=X.w) (I.ok.hd hc) it lo 1 n;refine W.item i s _ _ hg st λv h' tk hv st' kk=>?_;obtain⟨t,rfl⟩:=hv;have I1:Inv X AC σ H { s with heap:=h',toks:=tk }:=I.turned (λb o hb e=>kk b o (by simpa using hb) e) f0 f1 f3 f4 f5;refine⟨_,Z,BC (s:={ s with heap:=h',toks:=tk }) (n:="range_iterator") st' rfl rfl (by decide) ⟨.int (lo+i),H,I1,⟨t,?_⟩,⟨Z,Z⟩,st',λb hb=>(hf b hb).1⟩⟩;rw[Int.mul_one]
 done:=by intro X hP hw hK hc i AC s σ H E I hf st hg;subst hP hw hK;obtain⟨f0,f1,f2,f3,f4,f5⟩:=hf it (by simp);exact wpAny_pyNext_range_end (I.ok.hd hc) st (by have:n<=i:=hg;omega) λh' eb=>⟨Z,I.turned (t':=s.toks) (λb o hb e=>eb b o hb e) f0 f1 f3 f4 f5⟩
 self:=λ_ _ _ _ _ st h=>wpAny_pyIter_rangeiter st h
variable {tl:TE}{fp:Da Addr}
section
variable {X:Cx}{tg:Expr}
inductive S3(K:Fg)(R:It->Hp->Prop)(x:V)(H1:Hp):Prop
 |mk(a:_)(_:x =.ref a)(_:(∃xs,aG K H1 a xs))(_:R (zS K a:_) H1)
def XR(K:Fg)(tl:TE):TI:=λσ H R=>tl σ H (S3 K R)
def Y8{l:Expr}(hl:PE X l tl):PI X tg l (XR X.K tl):=by
 intro AC s σ H R I h;refine aZ (hl AC s σ H _ I h) λv s1 ⟨x,H1,I1,r1,q1⟩=>?_;obtain⟨a,e,⟨xs,hq⟩,q⟩:=q1;subst e;cases r1;obtain⟨BT,rv,p,hz⟩:=I1.list hq;refine Rz p.isList ?_;refine⟨s1.heap.objs.size,[s1.heap.objs.size],_,_,H1,Z,I1.kept (t':=s1.toks) λb o e=>b9 _ e,S0 a _,⟨_,ef _ rfl,Z,Z⟩,λb hb=>?_,q⟩;have e:b=s1.heap.objs.size:=by simpa using hb
 subst e;exact I1.CC (aK _) (I1.hok.fresh (aK _))
theorem V1{R:It->Hp->Prop}{lo hi:Int}{t u v:Tok}{tk:Nat}(I:Inv X AC σ H s)(h1:-(2 ^ 62)<=lo)(h2:lo<2 ^ 62)(h3:-(2 ^ 62)<=hi)(h4:hi<2 ^ 62)(q:R (XQ lo (hi-lo).toNat) H):wpAny (model X.prog X.w) X.A (pyIter (.ref s.heap.objs.size)) (PIE X AC σ tg R) E { s with heap:=s.heap.push { cls:=.type "range",data:=.fields #[.int lo t,.int hi u,.int 1 v] },toks:=tk }:=by
 refine wpAny_pyIter_range (IsRange.new ..) (small_one h1 h2 h3 h4) ?_
 have I1:Inv X AC σ H { s with heap:=s.heap.push { cls:=.type "range",data:=.fields #[.int lo t,.int hi u,.int 1 v] },toks:=tk }:=I.kept λb o e=>b9 _ e
 refine⟨(s.heap.push { cls:=.type "range",data:=.fields #[.int lo t,.int hi u,.int 1 v] }).objs.size,[(s.heap.push { cls:=.type "range",data:=.fields #[.int lo t,.int hi u,.int 1 v] }).objs.size],_,_,H,Z,
  I1.kept (t':=tk) λb o e=>b9 _ e,RG _ lo (hi-lo).toNat,?_,λb hb=>?_,q⟩
 . have e1:lo+((0:Nat):Int)*1=lo:=by simp
   have e2:(((hi-lo).toNat:Nat):Int)-((0:Nat):Int)=Builtin.Range.rangeSize lo hi 1:=by rw[rangeSize_one];split <;> omega
   show IsRangeIter _ _ (lo+((0:Nat):Int)*1) ((((hi-lo).toNat:Nat):Int)-((0:Nat):Int)) 1
   rw[e1,e2]
   exact ef _ rfl
 . have e:b=(s.heap.push { cls:=.type "range",data:=.fields #[.int lo t,.int hi u,.int 1 v] }).objs.size:=by simpa using hb
   subst e
   exact I1.CC (aK _) (I1.hok.fresh (aK _))
inductive aaK(R:It->Hp->Prop)(vs:Da V)(H1:Hp):Prop
 |mk(j:Int)(_:vs=[.int j])(_:-(2 ^ 62)<=j)(_:j<2 ^ 62)(_:R (XQ 0 j.toNat) H1)
def aeQ(ta:TA):TI:=λσ H R=>ta σ H (aaK R)
def DJ(g:TG)(tb:TS)(D:Ends)(σ:St):It->Hp->Prop:=λJ H1=>∃W:Nat->Nat->St->Hp->Prop,(∃m,W 0 m σ H1)/\∀i m σ H,W i m σ H->(J.stop i H/\D.nx σ H)\/(J.go i H/\∃N:St->Hp->Prop,(∀σ' H',N σ' H'->∃m',m'<m/\W (i+1) m' σ' H')/\∀x H',J.Ah i H x H'->g x σ H' (tb (D.lp N)))
def aiA(wi:TI)(g:TG)(tb:TS):TS:=λD σ H=>wi σ H (DJ g tb D σ)
noncomputable def DK(fp:Da Addr)(h:Heap):Da (Addr×Obj):=fp.filterMap λb=>(h.get? b).map λo=>(b,o)
def iu{o:Obj}(hb:b∈fp)(e:h.get? b=some o):(b,o)∈DK fp h:=Cy.mpr ⟨b,hb,by rw[e];rfl⟩
def S7{p:Addr×Obj}(hp:p∈DK fp h):p.1∈fp/\h.get? p.1=some p.2:=by
 obtain⟨b,hb,e⟩:=Cy.mp hp;cases q:h.get? b with
 | none=>rw[q]at e;cases e
 | some o=>rw[q]at e;have e':(b,o)=p:=fM e;subst e';exact⟨hb,q⟩
def Inv.pinned(I:Inv X AC σ H s)(hf:∀b∈fp,mj X AC H b)(ho:∀b∈fp,∃o,s.heap.get? b=some o/\∀v,o.data ≠ .cell v):Inv X (AC++DK fp s.heap) σ H s:=I.PD λp hp=>(fW.mp hp).elim (λz=>I.pin p (iQ _ z)) λz=>by obtain⟨hb,e⟩:=S7 z;obtain⟨f0,f1,f2,_⟩:=hf p.1 hb;obtain⟨o,e',d⟩:=ho p.1 hb;rw[e]at e';cases e';exact⟨e,f0,f1,f2,d⟩
def Inv.oh{pl:AO}(I:Inv X (AC++pl) σ H s):Inv X AC σ H s:=I.PD λp hp=>I.pin p (iQ _ (yv _ hp))
end
variable {tb:TS}
theorem jk{g:TG}(Pv:Nat->St->Hp->Prop)(h0:Pv 0 σ H)(hl:∀i σ H,i<=xs.length->Pv i σ H->aG K H a xs)(hs:∀i x σ H,xs[i]?=some x->Pv i σ H->g x σ H (tb (D.lp (Pv (i+1)))))(hd:∀σ H,Pv xs.length σ H->D.nx σ H):
  DJ g tb D σ (zS K a) H:=by
 refine⟨λi m σ H=>m=xs.length-i/\i<=xs.length/\Pv i σ H,⟨xs.length,by simp,fm _,h0⟩,?_⟩
 rintro i m σ H ⟨rfl,hi,p⟩
 have q:=hl i σ H hi p
 by_cases hlt:i<xs.length
 . refine .inr ⟨⟨xs,xs[i],q,by simp[hlt]⟩,Pv (i+1),λσ' H' p'=>⟨xs.length-(i+1),by omega,Z,hlt,p'⟩,λx H' y=>?_⟩
   obtain⟨e,y⟩:=y
   subst e
   exact hs i x σ _ (y xs q) p
 . have e:i=xs.length:=by omega
   subst e
   exact .inl ⟨⟨xs,q,aK _⟩,hd σ H p⟩
theorem mq{lo:Int}{n:Nat}{g:TG}(Pv:Nat->St->Hp->Prop)(h0:Pv 0 σ H)(hs:∀i σ H,i<n->Pv i σ H->g (.int (lo+i)) σ H (tb (D.lp (Pv (i+1)))))(hd:∀σ H,Pv n σ H->D.nx σ H):
  DJ g tb D σ (XQ lo n) H:=by
 refine⟨λi m σ H=>m=n-i/\i<=n/\Pv i σ H,⟨n,by simp,fm _,h0⟩,?_⟩
 rintro i m σ H ⟨rfl,hi,p⟩
 by_cases hlt:i<n
 . refine .inr ⟨hlt,Pv (i+1),λσ' H' p'=>⟨n-(i+1),by omega,Z,hlt,p'⟩,λx H' y=>?_⟩
   obtain⟨e,y⟩:=y
   subst e y
   exact hs i σ _ hlt p
 . have e:i=n:=by omega
   subst e
   exact .inl ⟨aK _,hd σ H p⟩
abbrev R2:=V->V->Hp->VK->Prop
def jW(X:Cx)(f:Value->Value->Sem Value)(r:R2):Prop:=∀(AC:AO)(s:Shared)(σ:St)(H:Hp)(x y:V)(v u:Value)(Q:VK),Inv X AC σ H s->RelV x v->RelV y u->r x y H Q->wpAny (model X.prog X.w) X.A (f v u) (EP X AC σ Q) X.xe s
def UnR(X:Cx)(f:Value->Sem Value)(r:V->Hp->VK->Prop):Prop:=∀(AC:AO)(s:Shared)(σ:St)(H:Hp)(x:V)(v:Value)(Q:VK),Inv X AC σ H s->RelV x v->r x H Q->wpAny (model X.prog X.w) X.A (f v) (EP X AC σ Q) X.xe s
def i_(X:Cx)(f:Value)(r:Da V->Hp->VK->Prop):Prop:=∀(AC:AO)(s:Shared)(σ:St)(H:Hp)(xs:Da V)(us:Da Value)(Q:VK),Inv X AC σ H s->Vals xs us->r xs H Q->wpAny (model X.prog X.w) X.A (call f us) (EP X AC σ Q) X.xe s
def aaM(r:R2)(Q:VK)(x:V):V->Hp->Prop:=λy H2=>r x y H2 Q
def aiB(r:R2)(tb:TE)(σ:St)(Q:VK):V->Hp->Prop:=λx H1=>tb σ H1 (aaM r Q x)
def Cd(r:R2)(ta tb:TE):TE:=λσ H Q=>ta σ H (aiB r tb σ Q)
def aiC(r:V->Hp->VK->Prop)(Q:VK):V->Hp->Prop:=λx H1=>r x H1 Q
def tUn(r:V->Hp->VK->Prop)(ta:TE):TE:=λσ H Q=>ta σ H (aiC r Q)
inductive rI(C:Int->Int->Prop)(g:Int->Int->V)(x:V)(y:V)(H:Hp)(Q:VK):Prop
 |mk(i j:_)(_:x =.int i)(_:y =.int j)(_:C i j)(_:Q (g i j:_) H)
inductive Ce(g:Int->Int->V)(x:V)(y:V)(H:Hp)(Q:VK):Prop
 |mk(i j:_)(_:x =.int i)(_:y =.int j)(_:Q (g i j:_) H)
inductive rU(g:Int->V)(x:V)(H:Hp)(Q:VK):Prop
 |mk(i:_)(_:x =.int i)(_:Q (g i:_) H)
section
variable {X:Cx}{a b c:Expr}{ta tb tc:TE}{pos:Pos}
def V2(ha:PE X a ta)(hb:PE X b tb){R:V->V->Hp->Prop}(I:Inv X AC σ H s)(h:ta σ H λx H1=>tb σ H1 λy H2=>R x y H2){Q:VS}{f:Value->Value->Sem Value}(hf:∀v u s2 x y H2,Inv X AC σ H2 s2->RelV x v->RelV y u->R x y H2->wpAny (model X.prog X.w) X.A (f v u) Q X.xe s2):
  wpAny (model X.prog X.w) X.A (eval a X.env) (λv s₁=>wpAny (model X.prog X.w) X.A (eval b X.env) (λu s₂=>wpAny (model X.prog X.w) X.A (f v u) Q X.xe s₂) X.xe s₁) X.xe s:=by
 refine aZ (ha AC s σ H _ I h) λv s1 ⟨x,H1,I1,r1,q1⟩=>?_
 refine aZ (hb AC s1 σ H1 _ I1 q1) λu s2 ⟨y,H2,I2,r2,q2⟩=>?_
 exact hf v u s2 x y H2 I2 r1 r2 q2
def S_{f:Value->Value->Sem Value}{C:Int->Int->Prop}{g:Int->Int->Int}(rule:∀(i j:Int) (t u:Tok) (s:Shared) (Q:VS) (E:VS),C i j->Q (.int (g i j) s.toks) { s with toks:=s.toks+1 }->wpAny (model X.prog X.w) X.A (f (.int i t) (.int j u)) Q E s):
  jW X f (rI C λi j=> .int (g i j)):=by
 intro AC s σ H x y v u Q I rx ry h
 obtain⟨i,j,rfl,rfl,hc,q⟩:=h
 obtain⟨t,rfl⟩:=rx
 obtain⟨t',rfl⟩:=ry
 exact rule i j t t' s _ _ hc ⟨.int (g i j),H,I.tok _,⟨_,Z⟩,q⟩
def aaN{f:Value->Value->Sem Value}{g:Int->Int->Int}(rule:∀(i j:Int) (t u:Tok) (s:Shared) (Q:VS) (E:VS),Q (.int (g i j) s.toks) { s with toks:=s.toks+1 }->wpAny (model X.prog X.w) X.A (f (.int i t) (.int j u)) Q E s):
  jW X f (Ce λi j=> .int (g i j)):=by
 intro AC s σ H x y v u Q I rx ry h
 obtain⟨i,j,rfl,rfl,q⟩:=h
 obtain⟨t,rfl⟩:=rx
 obtain⟨t',rfl⟩:=ry
 exact rule i j t t' s _ _ ⟨.int (g i j),H,I.tok _,⟨_,Z⟩,q⟩
def RH{f:Value->Value->Sem Value}{g:Int->Int->Bool}(rule:∀(i j:Int) (t u:Tok) (s:Shared) (Q:VS) (E:VS),Q (.bool (g i j)) s->wpAny (model X.prog X.w) X.A (f (.int i t) (.int j u)) Q E s):
  jW X f (Ce λi j=> .bl (g i j)):=by
 intro AC s σ H x y v u Q I rx ry h
 obtain⟨i,j,rfl,rfl,q⟩:=h
 obtain⟨t,rfl⟩:=rx
 obtain⟨t',rfl⟩:=ry
 exact rule i j t t' s _ _ ⟨.bl (g i j),H,I,Z,q⟩
def V3(i j:Int):Prop:=0<=j/\j<=1000000/\i.natAbs<2 ^ 64
def RI(i j:Int):Prop:=(-(2 ^ 64)<i/\i<2 ^ 64)\/(-(2 ^ 64)<j/\j<2 ^ 64)
def RI.ok{i j:Int}(h:RI i j):IntMulOk i j:=by
 rcases h with⟨h1,h2⟩|⟨h1,h2⟩
 .exact .of_left (intBits_le_64 h1 h2)
 .exact .of_right (intBits_le_64 h1 h2)
def cS:jW X (binaryOp .Add) (Ce λi j=> .int (i+j)):=aaN λ_ _ _ _ _ _ _ q=>add_int q
def mw:jW X (binaryOp .Sub) (Ce λi j=> .int (i-j)):=aaN λ_ _ _ _ _ _ _ q=>sub_int q
def iB:jW X (binaryOp .Mult) (rI RI λi j=> .int (i*j)):=S_ λ_ _ _ _ _ _ _ hc q=>mul_int q hc.ok
theorem kZ:jW X (binaryOp .Mod) (rI (λ_ j=>0<j) λi j=> .int (i % j)):=S_ λi j _ _ _ _ _ hc q=>by have h1:(0:Int)<j:=hc;exact mod_int' (by omega) (by rw[Int.fmod_eq_emod_of_nonneg i (by omega)];exact q)
def nF:jW X (binaryOp .Pow) (rI V3 λi j=> .int (i ^ j.toNat)):=S_ λ_ _ _ _ _ _ _ hc q=>pow_int_small hc.1 hc.2.1 hc.2.2 q
def unI{f:Value->Sem Value}{g:Int->Int}(rule:∀(i:Int) (t:Tok) (s:Shared) (Q:VS) (E:VS),Q (.int (g i) s.toks) { s with toks:=s.toks+1 }->wpAny (model X.prog X.w) X.A (f (.int i t)) Q E s):
  UnR X f (rU λi=> .int (g i)):=by
 intro AC s σ H x v Q I rx h
 obtain⟨i,rfl,q⟩:=h
 obtain⟨t,rfl⟩:=rx
 exact rule i t s _ _ ⟨.int (g i),H,I.tok _,⟨_,Z⟩,q⟩
def DL:UnR X (unaryOp .USub) (rU λi=> .int (-i)):=unI λ_ _ _ _ _ q=>neg_int q
end
noncomputable def aiD:V->V->Bool
 | .cI,.cI=>true | .cI,.int _=>true | .int _,.cI=>true | .cI,.bl _=>true | .bl _,.cI=>true | .cI,.str _=>true | .str _,.cI=>true
 | .int _,.int _=>true | .bl _,.bl _=>true | .str _,.str _=>true | .Cb _,.Cb _=>true
 | .int _,.str _=>true | .str _,.int _=>true | .bl _,.str _=>true | .str _,.bl _=>true
 | _,_=>false
inductive rEq(x:V)(y:V)(H:Hp)(Q:VK):Prop
 |mk(_:aiD x y=true)(_:Q (.bl (decide (x=y))) H)
def Y9{i j:Int}:decide (V.int i=V.int j)=(i==j):=by rw[Br];simp
def aaP{i j:Bool}:decide (V.bl i=V.bl j)=(i==j):=by rw[Br];simp
def Y_{i j:Str}:decide (V.str i=V.str j)=(i==j):=by rw[Br];simp
def Za{i j:Array UInt8}:decide (V.Cb i=V.Cb j)=(i.toList==j.toList):=by rw[Br];cases i;cases j;simp
variable {op:CmpOp}
section
variable {X:Cx}{a b c:Expr}{ta tb tc:TE}{pos:Pos}
def iV{Q:VK}{k k':Bool}(I:Inv X AC σ H s)(q:Q (.bl k) H)(e:k=k'):EP X AC σ Q (.bool k') s:=by subst e;exact⟨.bl k,H,I,Z,q⟩
def eF:jW X (compareOp .Eq) rEq:=by
 intro AC s σ H x y v u Q I rx ry h;obtain⟨hs,q⟩:=h;cases x with
 | cI=>
  cases rx;cases y with
  | cI=>cases ry;exact PySem.EqNone.eq_none_none (iV I q (by simp))
  | bl j=>cases ry;exact PySem.EqNone.eq_none_bool (iV I q (by simp))
  | int j=>obtain⟨t',rfl⟩:=ry;exact PySem.EqNone.eq_none_int (iV I q (by simp))
  | str j=>obtain⟨t',rfl⟩:=ry;exact PySem.EqNone.eq_none_str (iV I q (by simp))
  | _=>exact absurd (show false=true from hs) iA
 | bl i=>
  cases rx;cases y with
  | cI=>cases ry;exact PySem.EqNone.eq_bool_none (iV I q (by simp))
  | bl j=>cases ry;exact eq_bool (iV I q aaP)
  | str j=>obtain⟨t',rfl⟩:=ry;exact PySem.EqMixed.eq_bool_str (iV I q (by simp))
  | _=>exact absurd (show false=true from hs) iA
 | int i=>
  obtain⟨t,rfl⟩:=rx;cases y with
  | cI=>cases ry;exact PySem.EqNone.eq_int_none (iV I q (by simp))
  | int j=>obtain⟨t',rfl⟩:=ry;exact eq_int (iV I q Y9)
  | str j=>obtain⟨t',rfl⟩:=ry;exact PySem.EqMixed.eq_int_str (iV I q (by simp))
  | _=>exact absurd (show false=true from hs) iA
 | str i=>
  obtain⟨t,rfl⟩:=rx;cases y with
  | cI=>cases ry;exact PySem.EqNone.eq_str_none (iV I q (by simp))
  | bl j=>cases ry;exact PySem.EqMixed.eq_str_bool (iV I q (by simp))
  | int j=>obtain⟨t',rfl⟩:=ry;exact PySem.EqMixed.eq_str_int (iV I q (by simp))
  | str j=>obtain⟨t',rfl⟩:=ry;exact eq_str (iV I q Y_)
  | _=>exact absurd (show false=true from hs) iA
 | Cb i=>
  obtain⟨t,rfl⟩:=rx;cases y with
  | Cb j=>obtain⟨t',rfl⟩:=ry;exact PySem.W.eq_bytes (iV I q Za)
  | _=>exact absurd (show false=true from hs) iA
 | _=>cases y <;> exact absurd (show false=true from hs) iA
def rR:jW X (compareOp .Lt) (Ce λi j=> .bl (decide (i<j))):=RH λ_ _ _ _ _ _ _ q=>lt_int q
def XS:jW X (compareOp .LtE) (Ce λi j=> .bl (decide (i<=j))):=RH λ_ _ _ _ _ _ _ q=>le_int q
def kK:jW X (compareOp .Gt) (Ce λi j=> .bl (decide (j<i))):=RH λ_ _ _ _ _ _ _ q=>gt_int q
def Kn:jW X (compareOp .GtE) (Ce λi j=> .bl (decide (j<=i))):=RH λ_ _ _ _ _ _ _ q=>ge_int q
def Tc:jW X (compareOp .In) (λx y H Q=>∃i j,x =.str i/\y =.str j/\Q (.bl (!(Builtin.Str.occurrences j i 0 j.length 1).isEmpty)) H):=by intro AC s σ H x y v u Q I rx ry h;obtain⟨i,j,rfl,rfl,q⟩:=h;obtain⟨t,rfl⟩:=rx;obtain⟨t',rfl⟩:=ry;exact in_str (iV I q rfl)
def a_(b:Expr)(h:op ≠ .In:=by decide)(h2:op ≠ .NotIn:=by decide):behindInMarks op b=false:=by
 have e1:(op==CmpOp.In)=false:=by cases op <;> first|rfl|exact absurd rfl h
 have e2:(op==CmpOp.NotIn)=false:=by cases op <;> first|rfl|exact absurd rfl h2
 cases b <;> simp[behindInMarks,e1,e2]
inductive Td(Q:Bool->Hp->Prop)(x:V)(H':Hp):Prop
 |mk(k:_)(_:x =.bl k)(_:Q k H')
def DM(t:TE):TT:=λσ H Q=>t σ H (Td Q)
inductive Te(r':R2)(tc:TE)(σ:St)(Q:VK)(y:V)(z:V)(H3:Hp):Prop
 |mk(k:_)(_:z =.bl k)(_:(if k=true then tc σ H3 λw' H4=>r' y w' H4 Q else Q (.bl false) H3))
def Tf(r:R2)(r':R2)(tc:TE)(σ:St)(Q:VK)(x:V):V->Hp->Prop:=λy H2=>r x y H2 (Te r' tc σ Q y)
def Zb(r:R2)(r':R2)(tb:TE)(tc:TE)(σ:St)(Q:VK):V->Hp->Prop:=λx H1=>tb σ H1 (Tf r r' tc σ Q x)
def aaQ(r r':R2)(ta tb tc:TE):TE:=λσ H Q=>ta σ H (Zb r r' tb tc σ Q)
def u0:(sizeLine:Nat)<2 ^ 63:=by rw[jY];decide
def RJ:jW X (binaryOp .Add) (λx y H Q=>∃i j,x =.str i/\y =.str j/\i.length+j.length<=sizeLine/\Q (.str (i++j)) H):=by intro AC s σ H x y v u Q I rx ry h;obtain⟨i,j,rfl,rfl,hz,q⟩:=h;obtain⟨t,rfl⟩:=rx;obtain⟨t',rfl⟩:=ry;exact add_str (λt' tk=>⟨.str (i++j),H,I.tok _,⟨_,Z⟩,q⟩) hz
def vals1{x:V}(r:Vals [x] us):∃u,us=[u]/\RelV x u:=by
 cases r with
 | cons r1 r2=>cases r2;exact⟨_,Z,r1⟩
def vals2{x:V}(r:Vals [x,y] us):∃u w',us=[u,w']/\RelV x u/\RelV y w':=by
 cases r with
 | cons r1 r2=>
  cases r2 with
  | cons r3 r4=>cases r4;exact⟨_,_,Z,r1,r3⟩
def Ai(hc:X.calm=true):i_ X (.builtin "min") (λxs H Q=>∃i j,xs=[.int i,.int j]/\Q (.int (if j<i then j else i)) H):=by
 intro AC s σ H xs us Q I r h;obtain⟨i,j,rfl,q⟩:=h;obtain⟨u,w',rfl,⟨t,rfl⟩,⟨t',rfl⟩⟩:=vals2 r;refine min_two_ints (I.ok.hd hc) λh' tk k=>⟨_,H,I.kept k,?_,q⟩
 by_cases hj:j<i
 .rw [aB hj,aB hj];exact⟨_,Z⟩
 .rw [aC hj,aC hj];exact⟨_,Z⟩
end
structure CD(h:Heap)(x dx C:Addr)(mA:SO):Prop where
 obj:h.get? x=some (PySem.W.instObj C dx)
 ns:h.Ns1 dx mA
 ne:dx≠x
def Tg{mA:SO}(n:h.Ns1 dx mA):∃od,h.get? dx=some od/\∀name,PySem.W.lookIn name od=some (mA name):=by
 obtain⟨o,es,ep,ho,hd,hk,_,hm⟩:=n;refine⟨o,ho,λname=>?_⟩;have e:=hm name;unfold nsFind findBy at e;rw[<-Array.find?_toList]at e;unfold PySem.W.lookIn;rw[hd];dsimp only;split
 .rename_i y q;rw[q]at e;exact rQ some e
 .rename_i q;rw[q]at e;have a:es.toList.any (·.refKey)=false:=by rw[List.any_eq_false];intro y hy;obtain⟨z,t,hkey⟩:=hk y (Array.mem_toList_iff.mp hy);simp[DictEntry.refKey,hkey]
  have a':¬ es.toList.any (·.refKey)=true:=by rw[a];exact iA
  rw[aC a'];exact rQ some e
variable {C:Addr}
def CD.look{x dx:Addr}{mA:SO}(I:CD h x dx C mA):∃od,PySem.W.InstAt h x (PySem.W.instObj C dx) C (some od)/\∀name,PySem.W.lookIn name od=some (mA name):=
 let⟨od,ho,hl⟩:=Tg I.ns
 ⟨od,⟨I.obj,Z,Z,ho⟩,hl⟩
variable {R:Result->Shared->Prop}{kw:Da (Str×Value)}
section
variable {prog:Program}{w:World}{A:Around}{E:VS}{s:Shared}{K:Fg}{x dx C f:Addr}{mA:SO}{name:Str}{v:Value}
def get_map{expr:Bool}{Q:VS}(X:K.In s.heap)(I:CD s.heap x dx C mA)(hg:PySem.W.plainGet K C name=true)(hh:PySem.W.hasDictIn K C=true)(ha:PySem.W.findIn K (.ref C) name=some none)(hv:mA name=some v)(hv':PySem.W.handedIn v=true)(h:Q v { s with toks:=s.toks+1 }):
  wpAny (model prog w) A (getAttr (.ref x) name expr) Q E s:=by
 obtain⟨od,J,hl⟩:=I.look
 exact PySem.W.get_value X J (PySem.W.plainGet_of hg).1 (PySem.W.findObj_own hh ha rfl (by rw[hl,hv])) hv' h
def V4{pl:Sem Bool}{Q:Value×Da Value->Shared->Prop}(X:K.In s.heap)(I:CD s.heap x dx C mA)(hg:PySem.W.plainGet K C name=true)(hf:PySem.W.findIn K (.ref C) name=some (some (.ref f)))(ht:PySem.W.isFn K (.ref f)=true)(hv:mA name=none)(h:Q (.ref f,[.ref x]) s):
  wpAny (model prog w) A (getMethod (.ref x) name pl) Q E s:=by
 obtain⟨od,J,hl⟩:=I.look
 exact PySem.W.method_fn X J (PySem.W.plainGet_of hg).1 (PySem.W.plainGet_of hg).2 hf (nS.mp ht) (by show(PySem.W.lookIn name od).map (·.isSome)=some false;rw[hl,hv];rfl) h
theorem Zc{ns:Da Str}(X:K.In s.heap)(I:CD s.heap x dx C mA)(hs:PySem.W.findIn K (.ref C) "__setattr__"=some (some (.builtin "object.__setattr__")))(hp:PySem.W.plainOver K C=true)(ht:PySem.W.takerIn K C name=some none)(hh:PySem.W.hasDictIn K C=true)(hw:PySem.Within mA ns)(hsz:ns.length<=sizeLine)(h:∀h',CD h' x dx C (λy=>if y=name then some v else mA y)->Heap.SameBut dx s.heap h'->Q () { s with heap:=h',toks:=s.toks+2 }):
  wpAny (model prog w) A (setAttr (.ref x) name v) Q E s:=by
 obtain⟨od,J,hl⟩:=I.look
 refine PySem.W.set_plain X J hs (PySem.W.osa_open (s:={ s with toks:=s.toks+1 }) (r:=none) X J hp ht λb=>?_)
 obtain⟨cd,hc,hd'⟩:=PySem.W.any_some hh
 have hx:s.heap.get? x=some ⟨.ref C,some dx,.plain,#[]⟩:=I.obj
 refine az (aT (az (az (wpAny_loadPart hx (az (PySem.W.Looks.here (s:={ s with toks:=s.toks+1 }) (PySem.W.looks_clsIn X hc) ?_))))))
 rw[hd']
 refine aT (a:=some dx) (az (aT (az ?_)))
 refine wpAny_nsSet1 (s:={ s with toks:=s.toks+1 }) I.ns λh' hn2 hs2=>?_
 obtain⟨oD,esD,epD,hoD,hdD,hcD⟩:=hn2.count (PySem.Within.cons name v hw)
 refine az (wpAny_lookBehind hoD (by rw[hdD];exact pastItsLine_dict (gD hcD (by rw[jz];omega))) ?_)
 exact aT (h _ ⟨(hs2.2 _ (bB I.ne)).trans I.obj,hn2,I.ne⟩ hs2)
def V5{vs:Da Value}(X:K.In s.heap)(hm:PySem.W.makesIn K C=true)(hi:PySem.W.findIn K (.ref C) "__init__"=some (some (.ref f)))(hf:PySem.W.typeIn K (.ref f)=some (.type "function"))(h:codeAny (model prog w) (A.under (.builtin "type.__call__" ⟨.ref C::vs,kw⟩)) (.call (.ref f) ⟨.ref (s.heap.objs.size+1)::vs,kw⟩) (PySem.W.InitBack (s.heap.objs.size+1) R)
    { s with heap:=(s.heap.push PySem.W.emptyDict).push (PySem.W.instObj C s.heap.objs.size) }):
  codeAny (model prog w) A (.call (.ref C) ⟨vs,kw⟩) R s:=by
 obtain⟨hh,g,d,t,os⟩:=s
 exact PySem.W.make_core (PySem.W.makes_of X hm) (PySem.W.looks_findIn X hi) (λself=>PySem.W.bind_fn X self hf) (.inl rfl) h
end
noncomputable def gY(f:Str)(v:V):Da (Str×V)->Da (Str×V)
 | []=>[(f,v)]
 | (g,x)::r=>if g=f then(g,v)::r else(g,x)::gY f v r
theorem Cf(f g:Str)(v:V):∀fs:Da (Str×V),(gY f v fs).lookup g=if g=f then some v else fs.lookup g
 | []=>by
  show List.lookup g [(f,v)]=_;by_cases h:g=f
  .have hb:(g==f)=true:=nS.mpr h;simp only[List.lookup,hb,aB h]
  .have hb:(g==f)=false:=Cu.mpr h;simp only[List.lookup,hb,aC h]
 | (k,x)::r=>by
  have ih:=Cf f g v r;rw[show gY f v ((k,x)::r)=(if k=f then(k,v)::r else(k,x)::gY f v r)from rfl];by_cases hk:k=f
  .rw [aB hk];by_cases h:g=k
   .have hb:(g==k)=true:=nS.mpr h;simp only[List.lookup,hb,aB (h.trans hk)]
   .have hb:(g==k)=false:=Cu.mpr h;simp only[List.lookup,hb,aC (λe:g=f=>h (e.trans hk.symm))]
  .rw [aC hk];by_cases h:g=k
   .have hb:(g==k)=true:=nS.mpr h;simp only[List.lookup,hb,aC (λe:g=f=>hk (h.symm.trans e))]
   .have hb:(g==k)=false:=Cu.mpr h;simp only[List.lookup,hb];exact ih
theorem Aj(f:Str)(v:V):∀fs:Da (Str×V),f∈(gY f v fs).map (·.1)/\∀g,g∈fs.map (·.1)->g∈(gY f v fs).map (·.1)
 | []=>⟨by simp[gY],λg h=>by simp at h⟩
 | (k,x)::r=>by
  obtain⟨i1,i2⟩:=Aj f v r;rw[show gY f v ((k,x)::r)=(if k=f then(k,v)::r else(k,x)::gY f v r)from rfl];by_cases hk:k=f
  .rw [aB hk];subst hk;exact⟨by simp,λg h=>by simpa using h⟩
  .rw [aC hk];refine⟨?_,λg h=>?_⟩
   .rw [cO];exact cM _ i1
   .rw [cO]at h ⊢;rcases b_.mp h with e|e
    .exact b_.mpr (.inl e)
    .exact cM _ (i2 g e)
theorem Cg(f:Str)(v:V):∀fs:Da (Str×V),(gY f v fs).length<=fs.length+1
 | []=>by simp[gY]
 | (k,x)::r=>by
  have ih:=Cg f v r;rw[show gY f v ((k,x)::r)=(if k=f then(k,v)::r else(k,x)::gY f v r)from rfl];by_cases hk:k=f
  .rw [aB hk,jz,jz];omega
  .rw [aC hk,jz,jz];omega
def nh.some_of{v:V}{o:Option Value}(r:nh (some v) o):∃u,o=some u/\RelV v u:=by
 cases o with
 | none=>exact(show False from r).elim
 | some u=>exact⟨u,Z,r⟩
def nh.none_of{o:Option Value}(r:nh none o):o=none:=by
 cases o with
 | none=>rfl
 | some u=>exact(show False from r).elim
def Th{v:V}(r:RelV v u):PySem.W.handedIn u=true:=by
 cases v with
 | cI=>cases(show u=Value.none from r);rfl
 | bl b=>cases(show u=Value.bool b from r);rfl
 | int i=>obtain⟨t,e⟩:=(show ∃t,u=Value.int i t from r);cases e;rfl
 | str x=>obtain⟨t,e⟩:=(show ∃t,u=Value.str x t from r);cases e;rfl
 | Cb b=>obtain⟨t,e⟩:=(show ∃t,u=Value.bytes b t from r);cases e;rfl
 | XE b=>obtain⟨t,e⟩:=(show ∃t,u=Value.float b t from r);cases e;rfl
 | ref a=>cases(show u=Value.ref a from r);rfl
 | ty n=>cases(show u=Value.type n from r);rfl
section
variable {P:Program}{w:World}{H H':Hp}{h h':Heap}{a C dx:Addr}{fs fs':Da (Str×V)}
def Fz(hok:ig P w H h)(e:H a=some (.ins C dx fs)):∃mA,CD h a dx C mA/\(∀f,nh (fs.lookup f) (mA f))/\PySem.Within mA (fs.map (·.1))/\fs.length<=1000/\H dx=some (.own a):=by
 obtain⟨d,z,ne,ob,mA,n,r,q⟩:=(show e_ P w H h a (.ins C dx fs)from hok a _ e)
 exact⟨mA,⟨ob,n,ne⟩,r,q,z,d⟩
end
structure pR(K:Fg)(C:Addr):Prop where
 pg:PySem.W.plainGet K C Str.empty=true
 hd:PySem.W.hasDictIn K C=true
 po:PySem.W.plainOver K C=true
 sa:PySem.W.findIn K (.ref C) "__setattr__"=some (some (.builtin "object.__setattr__"))
def pR.get(c:pR K C)(f:Str):PySem.W.plainGet K C f=true:=c.pg
def fB(K:Fg)(C:Addr)(f:Str):Prop:=PySem.W.findIn K (.ref C) f=some none
def fB.taker{f:Str}(n:fB K C f):PySem.W.takerIn K C f=some none:=by unfold PySem.W.takerIn;rw[show PySem.W.findIn K (.ref C) f=some none from n];rfl
structure Meth(K:Fg)(C:Addr)(m:Str)(f:Addr):Prop where
 at_:PySem.W.findIn K (.ref C) m=some (some (.ref f))
 fn:PySem.W.isFn K (.ref f)=true
 kp:PySem.W.keepIn K (.ref f)=true
variable {env:Env}
section
variable {X:Cx}{AC:AO}{σ:St}{H:Hp}{s:Shared}{a C dx:Addr}{fs:Da (Str×V)}{f:Str}{v:V}{A:Around}{E:VS}
def DN{b:Bool}{Q:VS}(I:Inv X AC σ H s)(e:H a=some (.ins C dx fs))(c:pR X.K C)(n:fB X.K C f)(l:fs.lookup f=some v)(h:∀u s',Inv X AC σ H s'->RelV v u->Q u s'):wpAny (model X.prog X.w) A (getAttr (.ref a) f b) Q E s:=by
 obtain⟨mA,O,r,_,_,_⟩:=Fz I.hok e
 obtain⟨u,hu,ru⟩:=nh.some_of (v:=v) (o:=mA f) (by rw[<-l];exact r f)
 exact get_map I.pO O (c.get f) c.hd n hu (Th ru) (h u _ (I.tok _) ru)
def yK{m:Str}{g:Addr}{pl:Sem Bool}{Q:Value×Da Value->Shared->Prop}(I:Inv X AC σ H s)(e:H a=some (.ins C dx fs))(c:pR X.K C)(k:Meth X.K C m g)(l:fs.lookup m=none)(h:Q (.ref g,[.ref a]) s):wpAny (model X.prog X.w) A (getMethod (.ref a) m pl) Q E s:=by
 obtain⟨mA,O,r,_,_,_⟩:=Fz I.hok e
 have hn:mA m=none:=nh.none_of (by rw[<-l];exact r m)
 exact V4 I.pO O (c.get m) k.at_ k.fn hn h
theorem DO(I:Inv X AC σ H s)(e:H a=some (.ins C dx fs))(c:pR X.K C)(n:fB X.K C f)(hl:fs.length<1000)(ry:RelV y u)(h:∀s',Inv X AC σ (upd H a (.ins C dx (gY f y fs))) s'->Q () s'):wpAny (model X.prog X.w) A (setAttr (.ref a) f u) Q E s:=by
 obtain⟨mA,O,r,wi,_,ho⟩:=Fz I.hok e
 have hz:(fs.map (·.1)).length<=sizeLine:=by rw[aF,jY];omega
 refine Zc I.pO O c.sa c.po n.taker c.hd wi hz λh' O' sb=>h _ ?_
 have hd:∃o,h'.get? dx=some o:=let⟨o,_,_,e',_⟩:=O'.ns;⟨o,e'⟩
 refine I.write (x:=a) (e:=dx) (by rw[e];exact True.intro) (.inr ho) (λb q hb z=>(sb.2 b hb).trans z) hd ?_
 refine⟨by rw[au O.ne];exact ho,?_,O.ne,O'.obj,_,O'.ns,λg=>?_,λg hg=>?_⟩
 . have:=Cg f y fs;omega
 . show nh ((gY f y fs).lookup g) (if g=f then some u else mA g)
   rw[Cf]
   by_cases q:g=f
   . rw[aB q,aB q];exact ry
   . rw[aC q,aC q];exact r g
 . by_cases q:g=f
   . rw[q];exact(Aj f y fs).1
   . refine(Aj f y fs).2 g (wi g λz=>hg ?_)
     show(if g=f then some u else mA g)=none
     rw[aC q];exact z
def Inv.made(I:Inv X AC σ H s):Inv X AC σ (upd (upd H s.heap.objs.size (.own (s.heap.objs.size+1))) (s.heap.objs.size+1) (.ins C s.heap.objs.size []))
  { s with heap:=(s.heap.push PySem.W.emptyDict).push (PySem.W.instObj C s.heap.objs.size) }:=by
 have e1:(s.heap.push PySem.W.emptyDict).get? s.heap.objs.size=some PySem.W.emptyDict:=ef s.heap rfl
 have e2:((s.heap.push PySem.W.emptyDict).push (PySem.W.instObj C s.heap.objs.size)).get? (s.heap.objs.size+1)=some (PySem.W.instObj C s.heap.objs.size):=by
  have:=ef (s.heap.push PySem.W.emptyDict) (o:=PySem.W.instObj C s.heap.objs.size) rfl
  rwa [kJ]at this
 have e3:(s.heap.push PySem.W.emptyDict).Ns s.heap.objs.size (λ_=>none):=⟨PySem.W.emptyDict,#[],_,e1,Z,(λe he=>absurd he (by simp)),λ_=>rfl⟩
 have I1:=I.laid (a:=s.heap.objs.size) (o:=.own (s.heap.objs.size+1)) (h':=s.heap.push PySem.W.emptyDict) (t':=s.toks) (λb u q=>b9 _ q) (aK _) ⟨_,e1⟩
 refine I1.laid (a:=s.heap.objs.size+1) (o:=.ins C s.heap.objs.size []) (t':=s.toks) (λb u q=>b9 _ q) (Nat.le_of_eq (kJ _ _)) ?_
 have ne:s.heap.objs.size≠s.heap.objs.size+1:=d7 (Nat.lt_succ_self _)
 refine⟨by rw[au ne,ah],fm _,ne,e2,λ_=>none,(Heap.Ns1.of_empty e3).at λo q=>b9 _ q,λ_=>True.intro,λy hy=>absurd rfl hy⟩
def Zd{prog:Program}{w:World}{f:Str}{s:Shared}{Q:VS}(hb:attributeBase e f env (eval e env)=eval e env)(h:wpAny (model prog w) A (eval e env) (λo s₁=>wpAny (model prog w) A (getAttr o f true) Q E s₁) E s):wpAny (model prog w) A (eval (.Attribute e f pos) env) Q E s:=
 Attribute_any_ h (by rw[arm_eval_Attribute,hb])
end
inductive aeR(K:Fg)(f:Str)(Q:VK)(x:V)(H1:Hp):Prop
 |mk(a C dx fs v:_)(_:x =.ref a)(_:H1 a=some (.ins C dx fs))(_:pR K C)(_:fB K C f)(_:fs.lookup f=some v)(_:Q v H1)
def aaR(K:Fg)(ta:TE)(f:Str):TE:=λσ H Q=>ta σ H (aeR K f Q)
inductive Ze(K:Fg)(f:Str)(D:Ends)(σ:St)(y:V)(x:V)(H2:Hp):Prop
 |mk(a C dx fs:_)(_:x =.ref a)(_:H2 a=some (.ins C dx fs))(_:pR K C)(_:fB K C f)(_:fs.length<1000)(_:D.nx σ (upd H2 a (.ins C dx (gY f y fs))))
def aeS(K:Fg)(ta:TE)(f:Str)(D:Ends)(σ:St):V->Hp->Prop:=λy H1=>ta σ H1 (Ze K f D σ y)
def aaS(K:Fg)(ta tv:TE)(f:Str):TS:=λD σ H=>tv σ H (aeS K ta f D σ)
def KS(X:Cx)(op:Operator)(rd:V->V->Hp->VK->Prop):Prop:=∀(AC:AO)(s:Shared)(σ:St)(H:Hp)(x y:V)(u v:Value)(Q:VK),Inv X AC σ H s->RelV x u->RelV y v->rd x y H Q->wpAny (model X.prog X.w) X.A (inplaceOp op u v) (EP X AC σ Q) X.xe s
inductive RK(f:Str)(D:Ends)(σ:St)(a:Addr)(C:Addr)(z:V)(H3:Hp):Prop
 |mk(dx' fs':_)(_:H3 a=some (.ins C dx' fs'))(_:fs'.length<1000)(_:D.nx σ (upd H3 a (.ins C dx' (gY f z fs'))))
def RL(rd:V->V->Hp->VK->Prop)(f:Str)(D:Ends)(σ:St)(a:Addr)(C:Addr)(v:V):V->Hp->Prop:=λy H2=>rd v y H2 (RK f D σ a C)
inductive V6(K:Fg)(tv:TE)(rd:V->V->Hp->VK->Prop)(f:Str)(D:Ends)(σ:St)(x:V)(H1:Hp):Prop
 |mk(a C dx fs v:_)(_:x =.ref a)(_:H1 a=some (.ins C dx fs))(_:pR K C)(_:fB K C f)(_:fs.lookup f=some v)(_:tv σ H1 (RL rd f D σ a C v))
def PF(K:Fg)(ta tv:TE)(rd:V->V->Hp->VK->Prop)(f:Str):TS:=λD σ H=>ta σ H (V6 K tv rd f D σ)
variable {rd:V->V->Hp->VK->Prop}
section
variable {X:Cx}{o e value:Expr}{f:Str}{pos pos' tpos:Pos}{ta tv:TE}
def aaU(he:PE X e ta)(hb:attributeBase e f X.env (eval e X.env)=eval e X.env):PE X (.Attribute e f pos) (aaR X.K ta f):=by intro AC s σ H Q I h;refine Zd hb (aZ (he AC s σ H _ I h) λu s1 ⟨x,H1,I1,rx,a,C,dx,fs,v,ex,ea,c,n,l,q⟩=>?_);subst ex;obtain rfl:u=Value.ref a:=rx;exact DN I1 ea c n l λu' s2 I2 ru=>⟨v,H1,I2,ru,q⟩
def aaV(ha:PE X o ta)(hv:PE X value tv)(hs:swapsWith value (some (.Attribute o f pos')) pos.line X.env=pure false):PS X (.Assign [.Attribute o f pos'] value pos) (aaS X.K ta tv f):=by intro AC s σ H D I h;refine plainObj_wpAny_Assign_Attribute (aZ (hv AC s σ H _ I h) λu s1 ⟨y,H1,I1,ry,q⟩=>aZ (ha AC s1 σ H1 _ I1 q) λov s2 ⟨x,H2,I2,rx,a,C,dx,fs,ex,ea,c,n,l,q2⟩=>?_) hs;subst ex;obtain rfl:ov=Value.ref a:=rx;exact DO I2 ea c n l ry λs3 I3=>⟨σ,_,I3,q2⟩
def Ti{op:Operator}(ha:PE X o ta)(hv:PE X value tv)(hop:KS X op rd):PS X (.AugAssign (.Attribute o f tpos) op value pos) (PF X.K ta tv rd f):=by intro AC s σ H D I h;refine wpAny_AugAssign_AttributeAny (aZ (ha AC s σ H _ I h) λov s1 ⟨x,H1,I1,rx,a,C,dx,fs,v,ex,ea,c,n,l,q⟩=>?_);subst ex;obtain rfl:ov=Value.ref a:=rx;refine DN I1 ea c n l λu s2 I2 ru=>aZ (hv AC s2 σ H1 _ I2 q) λw3 s3 ⟨y,H2,I3,ry,q3⟩=>aZ (hop AC s3 σ H2 v y u w3 _ I3 ru ry q3) λw4 s4 ⟨z,H3,I4,rz,dx',fs',ea',l',q4⟩=>?_;exact DO I4 ea' c n l' rz λs5 I5=>⟨σ,_,I5,q4⟩
inductive aiE(x:V)(y:V)(H:Hp)(Q:VK):Prop
 |mk(i j:_)(_:x =.int i)(_:y =.int j)(_:Q (.int (i+j)) H)
inductive aiF(x:V)(y:V)(H:Hp)(Q:VK):Prop
 |mk(i j:_)(_:x =.int i)(_:y =.int j)(_:Q (.int (i-j)) H)
def aaW:KS X .Add aiE:=by
 rintro AC s σ H x y u v Q I rx ry ⟨i,j,rfl,rfl,q⟩;obtain⟨t,rfl⟩:=(show ∃t,u=Value.int i t from rx)
 obtain⟨t',rfl⟩:=(show ∃t',v=Value.int j t' from ry)
 exact PyProof.Rows.iadd_int ⟨.int (i+j),H,I.tok _,⟨_,Z⟩,q⟩
def KU:KS X .Sub aiF:=by
 rintro AC s σ H x y u v Q I rx ry ⟨i,j,rfl,rfl,q⟩;obtain⟨t,rfl⟩:=(show ∃t,u=Value.int i t from rx)
 obtain⟨t',rfl⟩:=(show ∃t',v=Value.int j t' from ry)
 exact PyProof.Rows.isub_int ⟨.int (i-j),H,I.tok _,⟨_,Z⟩,q⟩
end
section
variable {X:Cx}{AC:AO}{σ:St}{H:Hp}{s:Shared}{A:Around}{E:VS}{Q:VS}{c:Value}{b:Bool}
end
structure d8(k:Nat)(A:Around):Prop where
 hd:A.handled=none
 dp:A.depth+3*k+5<recursionLimit
 un:A.units+16*k+200<cLine
theorem d8.mono{k:Nat}{A:Around}(r:d8 k A)(h:j<=k):d8 j A:=⟨r.hd,by have:=r.dp;omega,by have:=r.un;omega⟩
theorem d8.deeper{k:Nat}{A:Around}(r:d8 (k+1) A)(env:Env):d8 k (A.deeper env):=⟨r.hd,by have:=r.dp;show A.depth+1+3*k+5<_;omega,by have:=r.un;show A.units+3+16*k+200<_;omega⟩
def RM{A:Around}:(A.under (.builtin "type.__call__" ⟨.ref C::us,kw⟩)).depth=A.depth+1:=by first|rfl|simp[Around.under,Code.weight,Code.isCreation,Code.isGuard,Code.isCaller,Code.frames,Code.isFrame,guardIds]
def RN{A:Around}:(A.under (.builtin "type.__call__" ⟨.ref C::us,kw⟩)).units=A.units+1:=by first|rfl|simp[Around.under,Code.cUnits,Code.frames,Code.isFrame]
theorem d8.make{k:Nat}{A:Around}(r:d8 (k+1) A)(C:Addr)(us:Da Value)(kw:Da (Str×Value)):d8 k (A.under (.builtin "type.__call__" ⟨.ref C::us,kw⟩)):=⟨r.hd,by have:=r.dp;rw[RM];omega,by have:=r.un;rw[RN];omega⟩
theorem d8.depth{k:Nat}{A:Around}(r:d8 k A):A.depth<recursionLimit:=by have:=r.dp;omega
theorem d8.units{k:Nat}{A:Around}(r:d8 k A):A.units+64<cLine:=by have:=r.un;omega
def tP:TA:=λ_ H Q=>Q [] H
def V7(Q:Da V->Hp->Prop)(x:V):Da V->Hp->Prop:=λxs H2=>Q (x::xs) H2
def aaX(tr:TA)(σ:St)(Q:Da V->Hp->Prop):V->Hp->Prop:=λx H1=>tr σ H1 (V7 Q x)
def BD(ta:TE)(tr:TA):TA:=λσ H Q=>ta σ H (aaX tr σ Q)
section
variable {X:Cx}{e:Expr}{es:Da Expr}{te:TE}{t:TA}{pos:Pos}
def Tj:PA X [] tP:=λ_ _ _ _ H Q I h=>Calls.spliced_nil ⟨[],H,I,.nil,h⟩
def PJ(ha:PE X e te)(hr:PA X es t)(hs:starEach (e::es) X.env=(false,eval e X.env)::starEach es X.env:=by rfl):PA X (e::es) (BD te t):=by intro pos AC s σ H Q I h;rw[hs];show wpAny _ _ (spliced ((false,eval e X.env)::backTo pos (starEach es X.env))) _ _ s;refine Calls.spliced_cons (aZ (ha AC s σ H _ I h) λu s1 ⟨x,H1,I1,r1,q1⟩=>?_);exact aZ (hr pos AC s1 σ H1 _ I1 q1) λus s2 ⟨xs,H2,I2,r2,q2⟩=>⟨x::xs,H2,I2,.cons r1 r2,q2⟩
inductive aeT(Q:VK)(xs:Da V)(H1:Hp):Prop
 |mk(_:xs.length<=sizeLine)(_:∀p,H1 p=none->Q (.ref p) (upd H1 p (.tup xs)))
def aiG(t:TA):TE:=λσ H Q=>t σ H (aeT Q)
inductive aeU(Q:VK)(xs:Da V)(H1:Hp):Prop
 |mk(_:xs.length<=sizeLine)(_:∀p,H1 p=none->Q (.ref p) (upd H1 p (.lst xs)))
def aiH(t:TA):TE:=λσ H Q=>t σ H (aeU Q)
end
abbrev Sp:=Da V->Hp->VK->XK->Prop
abbrev zT:=Da Env->Hp->Shared->XK->Value->Shared->Prop
structure CF(P:Program)(w:World)(K:Fg)(mg:SO)(base:Heap)(A:Around)(outer:Da Env)(s:Shared)(H:Hp):Prop where
 frames:A.frames=some outer
 mod:Mod K mg base
 bs:∀b o,base.get? b=some o->s.heap.get? b=some o/\H b=none
 DG:base.objs.size<=s.heap.objs.size
 n_:s.heap.FunFrames base outer
 Hv:∀b∈frs outer,H b=none
 hok:ig P w H s.heap
 bare:AllBare s.gens
def CE(outer:Da Env)(P:Program)(w:World)(H:Hp)(s:Shared)(Q:VK)(u:Value)(s':Shared):Prop:=∃v H',s'.os=s.os/\AllBare s'.gens/\Un (frs outer) [] H H' s.heap s'.heap/\ig P w H' s'.heap/\RelV v u/\Q v H'
def CR(CX:zT)(outer:Da Env)(P:Program)(w:World)(H:Hp)(s:Shared)(Q:VK)(E:XK)(r:Result)(s':Shared):Prop:=match r with
 | .ok (.ret u)=>CE outer P w H s Q u s'
 | .ok _=>False
 | .error e=>CX outer H s E e s'
structure ja(P:Program)(w:World)(K:Fg)(mg:SO)(base:Heap)(CX:zT)(k:Nat)(f:Addr)(fd:FuncData)(ps:Da Str)(sp:Sp):Prop where
 len:∀vs H Q E,sp vs H Q E->vs.length=ps.length
 run:∀(A:Around)(outer:Da Env)(s:Shared)(H:Hp)(args:Args)(us:Da Value)(vs:Da V)(Q:VK)(E:XK),d8 k A->CF P w K mg base A outer s H->BindsTo s fd args (ps.zip us)->Vals vs us->sp vs H Q E->
  codeAny (model P w) A (.call (.ref f) args) (CR CX outer P w H s Q E) s
variable {mg:SO}{base:Heap}{CX:zT}{f:Addr}{fd:FuncData}{ps:Da Str}{sp:Sp}
def ja.imp{w:World}{k:Nat}{Tn:Sp}(F:ja P w K mg base CX k f fd ps sp)(h:∀vs H Q E,Tn vs H Q E->sp vs H Q E):ja P w K mg base CX k f fd ps Tn:=
 ⟨λvs H Q E q=>F.len vs H Q E (h _ _ _ _ q),λA outer s H args us vs Q E hr he hb hv hs=>F.run A outer s H args us vs Q E hr he hb hv (h _ _ _ _ hs)⟩
def CF.make{w:World}{A:Around}{outer:Da Env}(e:CF P w K mg base A outer s H)(C:Addr)(us:Da Value)(kw:Da (Str×Value)):CF P w K mg base (A.under (.builtin "type.__call__" ⟨.ref C::us,kw⟩)) outer s H:=⟨by first|exact e.frames|(simpa[Around.under,Code.envs,Code.isFrame,pushEnvs]using e.frames),e.mod,e.bs,e.DG,e.n_,e.Hv,e.hok,e.bare⟩
section
variable {X:Cx}{AC:AO}{σ:St}{H:Hp}{s s':Shared}
def Inv.V8(I:Inv X AC σ H s):CF X.prog X.w X.K X.mg X.base X.A X.stack s H:=⟨I.ok.frames,I.ok.mod,I.bs,gD I.ok.DG I.sz,I.stack,I.xZ,I.hok,I.bare⟩
def Inv.after{Q:VK}(I:Inv X AC σ H s)(h:CE X.stack X.prog X.w H s Q u s'):EP X AC σ Q u s':=by obtain⟨v,H',os,bare,un,hok,r,q⟩:=h;obtain⟨hh,g,d,t,os'⟩:=s';obtain rfl:os'=s.os:=os;exact⟨v,H',I.call (h':=hh) (g':=g) (d':=d) (t':=t) (ch:=[]) un hok bare (λb z=>absurd z (by simp)),r,q⟩
end
def aaY(sp:Sp)(jl:Da V)(E:XK)(Q:VK):Da V->Hp->Prop:=λvs H1=>sp (vs++jl) H1 Q E
def XT(sp:Sp)(jl:Da V)(E:XK)(t:TA):TE:=λσ H Q=>t σ H (aaY sp jl E Q)
def V9(sp:Sp)(jl:Da V)(E:XK)(Q:VK)(x:V):Da V->Hp->Prop:=λvs H2=>sp (x::(vs++jl)) H2 Q E
inductive aaZ(C:Addr)(m:Str)(sp:Sp)(jl:Da V)(E:XK)(t:TA)(σ:St)(Q:VK)(x:V)(H1:Hp):Prop
 |mk(a dx fs:_)(_:x =.ref a)(_:H1 a=some (.ins C dx fs))(_:fs.lookup m=none)(_:t σ H1 (V9 sp jl E Q x))
def yL(C:Addr)(m:Str)(sp:Sp)(jl:Da V)(E:XK)(ta:TE)(t:TA):TE:=λσ H Q=>ta σ H (aaZ C m sp jl E t σ Q)
def aa0(C:Addr)(sp:Sp)(jl:Da V)(E:XK)(Q:VK):Da V->Hp->Prop:=λvs H1=>∀x dx,H1 x=none->H1 dx=none->dx≠x->sp (.ref x::(vs++jl)) (upd (upd H1 dx (.own x)) x (.ins C dx [])) (λv H2=>v =.cI/\Q (.ref x) H2) E
def Ko(C:Addr)(sp:Sp)(jl:Da V)(E:XK)(t:TA):TE:=λσ H Q=>t σ H (aa0 C sp jl E Q)
def Binds(K:Fg)(fd:FuncData)(ps:Da Str)(ds:Da Value):Prop:=∀(s:Shared)(us:Da Value),K.In s.heap->(us++ds).length=ps.length->BindsTo s fd ⟨us,[]⟩ (ps.zip (us++ds))
def Binds.all(h:∀us:Da Value,us.length=ps.length->bindArgs fd ⟨us,[]⟩=pure (ps.zip us)):Binds K fd ps [] :=λs us _ hl=>by rw[Bs]at hl ⊢;exact .of_eq (h us hl)
def Passes(CX:zT)(X:Cx)(E:XK):Prop:=∀(AC:AO)(σ:St)(H:Hp)(s:Shared)(e:Value)(s':Shared),Inv X AC σ H s->CX X.stack H s E e s'->X.xe e s'
variable {vs:Da V}
section
variable {X:Cx}{CX:zT}{k:Nat}{f C:Addr}{fd:FuncData}{ps:Da Str}{sp:Sp}{jl:Da V}{ds:Da Value}{E:XK}{x m:Str}{p pos Bz:Pos}{e o:Expr}{es:Da Expr}{ta:TE}{t:TA}
def KW{Q:VK}(F:ja X.prog X.w X.K X.mg X.base CX k f fd ps sp)(hr:d8 k X.A)(hb:Binds X.K fd ps ds)(hd:Vals jl ds)(hx:Passes CX X E)(I:Inv X AC σ H s)(r:Vals vs us)(h:sp (vs++jl) H Q E):wpAny (model X.prog X.w) X.A (call (.ref f) us) (EP X AC σ Q) X.xe s:=by
 have r2:Vals (vs++jl) (us++ds):=r.append hd
 have hl:(us++ds).length=ps.length:=by rw[<-r2.length];exact F.len _ _ _ _ h
 refine wpAny_call (Bv (F.run X.A X.stack s H ⟨us,[]⟩ (us++ds) (vs++jl) Q E hr I.V8 (hb s us I.pO hl) r2 h) λr s' hq=>?_)
 cases r with
 | error e=>exact hx AC σ H s e s' I hq
 | ok fl=>
   cases fl with
   | ret u=>exact I.after hq
   | next=>exact False.elim hq
   | brk=>exact False.elim hq
   | cont=>exact False.elim hq
def Zf(F:ja X.prog X.w X.K X.mg X.base CX k f fd ps sp)(hr:d8 k X.A)(hg:Gl X x)(hm:X.mg x=some (.ref f))(hk:PySem.W.keepIn X.K (.ref f)=true)(hb:Binds X.K fd ps ds)(hd:Vals jl ds)(hx:Passes CX X E)(ha:PA X (e::es) t)(hdb:(x==("__debug__":Str))=false:=by decide)(he:starEach (e::es) X.env=(false,eval e X.env)::starEach es X.env:=by rfl)(hpl:(backTo pos (starEach es X.env)).any (·.1)=false:=by rfl):
  PE X (.Call (.Name x p) (e::es) [] pos) (XT sp jl E t):=by
 intro AC s σ H Q I h
 refine KH (uL I hg hm ?_ hdb)
 refine Rt (h₀:=X.base) I.ok.mod.PB hk (aZ (ha pos AC s σ H _ I h) λus s1 ⟨vs,H1,I1,r,q⟩=>⟨I1.pO,?_⟩) he hpl
 exact KW F hr hb hd hx I1 r q
def PK{pl:Sem Bool}(he:PE X o ta)(c:pR X.K C)(hm:Meth X.K C m f)(F:ja X.prog X.w X.K X.mg X.base CX k f fd ps sp)(hr:d8 k X.A)(hb:Binds X.K fd ps ds)(hd:Vals jl ds)(hx:Passes CX X E)(ha:PA X (e::es) t)(hst:starEach (e::es) X.env=(false,eval e X.env)::starEach es X.env:=by rfl)(hpl:(backTo pos (starEach es X.env)).any (·.1)=false:=by rfl)(ht:eval (.Call (.Attribute o m Bz) (e::es) [] pos) X.env=(do
    let ov <-eval o X.env
    standAt Bz.atName
    let(f,first) <-holding [ov] (getMethod ov m pl)
    callWith pos f first (backTo pos (starEach (e::es) X.env)) (backToKw pos (keywordEach [] X.env))):=by rfl):
  PE X (.Call (.Attribute o m Bz) (e::es) [] pos) (yL C m sp jl E ta t):=by
 intro AC s σ H Q I h
 refine PySem.W.methodCall_KW (pl:=pl) (aZ (he AC s σ H _ I h) λu s1 ⟨x,H1,I1,rx,a,dx,fs,ex,ea,l,q⟩=>?_) ht
 subst ex
 obtain rfl:u=Value.ref a:=rx
 refine yK I1 ea c hm l ?_
 refine Rt (first:=[.ref a]) (h₀:=X.base) I.ok.mod.PB hm.kp (aZ (ha pos AC s1 σ H1 _ I1 q) λus s2 ⟨vs,H2,I2,r,q2⟩=>⟨I2.pO,?_⟩) hst hpl
 exact KW (us:=.ref a::us) (vs:=.ref a::vs) F hr hb hd hx I2 (.cons rfl r) q2
def V_{pl:Sem Bool}(he:PE X o ta)(c:pR X.K C)(hm:Meth X.K C m f)(F:ja X.prog X.w X.K X.mg X.base CX k f fd ps sp)(hr:d8 k X.A)(hb:Binds X.K fd ps ds)(hd:Vals jl ds)(hx:Passes CX X E)(ht:eval (.Call (.Attribute o m Bz) [] [] pos) X.env=(do
    let ov <-eval o X.env
    standAt Bz.atName
    let(f,first) <-holding [ov] (getMethod ov m pl)
    callWith pos f first (backTo pos (starEach [] X.env)) (backToKw pos (keywordEach [] X.env))):=by rfl):
  PE X (.Call (.Attribute o m Bz) [] [] pos) (yL C m sp jl E ta tP):=by
 intro AC s σ H Q I h
 refine PySem.W.methodCall_KW (pl:=pl) (aZ (he AC s σ H _ I h) λu s1 ⟨x,H1,I1,rx,a,dx,fs,ex,ea,l,q⟩=>?_) ht
 subst ex
 obtain rfl:u=Value.ref a:=rx
 refine yK I1 ea c hm l ?_
 exact PySem.W.callWith_K0 (first:=[.ref a]) I1.pO hm.kp (KW (us:=[.ref a]) (vs:=[.ref a]) F hr hb hd hx I1 (.cons rfl .nil) q)
structure Mk(K:Fg)(C f:Addr):Prop where
 makes:PySem.W.makesIn K C=true
 init:PySem.W.findIn K (.ref C) "__init__"=some (some (.ref f))
 fn:PySem.W.isFn K (.ref f)=true
 kp:PySem.W.keepIn K (.ref C)=true
theorem KY{Q:VK}(M:Mk X.K C f)(F:ja X.prog X.w X.K X.mg X.base CX k f fd ps sp)(hr:d8 (k+1) X.A)(hb:Binds X.K fd ps ds)(hd:Vals jl ds)(hx:Passes CX X E)(I:Inv X AC σ H s)(r:Vals vs us)(h:∀x dx,H x=none->H dx=none->dx≠x->sp (.ref x::(vs++jl)) (upd (upd H dx (.own x)) x (.ins C dx [])) (λv H2=>v =.cI/\Q (.ref x) H2) E):
  wpAny (model X.prog X.w) X.A (call (.ref C) us) (EP X AC σ Q) X.xe s:=by
 have hq:=h (s.heap.objs.size+1) s.heap.objs.size (I.hok.fresh (BB _)) (I.hok.fresh (aK _)) (d7 (Nat.lt_succ_self _))
 have I2:=Inv.made (C:=C) I
 have r2:Vals (V.ref (s.heap.objs.size+1)::(vs++jl)) (Value.ref (s.heap.objs.size+1)::(us++ds)):=.cons rfl (r.append hd)
 have hl:(Value.ref (s.heap.objs.size+1)::us++ds).length=ps.length:=by have e:=r2.length;rw[F.len _ _ _ _ hq]at e;exact e.symm
 refine wpAny_call (V5 (f:=f) I.pO M.makes M.init (nS.mp M.fn) (Bv (F.run _ X.stack _ _ ⟨Value.ref (s.heap.objs.size+1)::us,[]⟩ (Value.ref (s.heap.objs.size+1)::(us++ds)) _ _ E (hr.make C us [])
  (I2.V8.make C us []) (hb _ (Value.ref (s.heap.objs.size+1)::us) I2.pO hl) r2 hq) λr s' hq'=>?_))
 cases r with
 | error e=>exact hx AC σ _ _ e s' I2 hq'
 | ok fl=>
   cases fl with
   | ret u=>
     obtain⟨v,H',I3,rv,ev,q3⟩:=I2.after hq'
     subst ev
     exact⟨rv,⟨V.ref (s.heap.objs.size+1),H',I3,Z,q3⟩⟩
   | next=>exact False.elim hq'
   | brk=>exact False.elim hq'
   | cont=>exact False.elim hq'
def Zg(M:Mk X.K C f)(F:ja X.prog X.w X.K X.mg X.base CX k f fd ps sp)(hr:d8 (k+1) X.A)(hg:Gl X x)(hm:X.mg x=some (.ref C))(hb:Binds X.K fd ps ds)(hd:Vals jl ds)(hx:Passes CX X E)(ha:PA X (e::es) t)(hdb:(x==("__debug__":Str))=false:=by decide)(he:starEach (e::es) X.env=(false,eval e X.env)::starEach es X.env:=by rfl)(hpl:(backTo pos (starEach es X.env)).any (·.1)=false:=by rfl):
  PE X (.Call (.Name x p) (e::es) [] pos) (Ko C sp jl E t):=by
 intro AC s σ H Q I h
 refine KH (uL I hg hm ?_ hdb)
 refine Rt (h₀:=X.base) I.ok.mod.PB M.kp (aZ (ha pos AC s σ H _ I h) λus s1 ⟨vs,H1,I1,r,q⟩=>⟨I1.pO,?_⟩) he hpl
 exact KY M F hr hb hd hx I1 r q
def Wa(M:Mk X.K C f)(F:ja X.prog X.w X.K X.mg X.base CX k f fd ps sp)(hr:d8 (k+1) X.A)(hg:Gl X x)(hm:X.mg x=some (.ref C))(hb:Binds X.K fd ps ds)(hd:Vals jl ds)(hx:Passes CX X E)(hdb:(x==("__debug__":Str))=false:=by decide):PE X (.Call (.Name x p) [] [] pos) (Ko C sp jl E tP):=by
 intro AC s σ H Q I h
 refine KH (uL I hg hm ?_ hdb)
 exact PySem.W.callWith_K0 I.pO M.kp (KY (us:=[]) M F hr hb hd hx I .nil h)
end
section
variable {X:Cx}{CX:zT}{k:Nat}{f C:Addr}{fd:FuncData}{ps ks:Da Str}{sp:Sp}{E:XK}{x m:Str}{p pos Bz kpos:Pos}{e o:Expr}{es:Da Expr}{kws:Da Keyword}{te ta:TE}{t tk:TA}{nm:Option Str}
variable {g:Da Value->Da Value->Da Value}{gV:Da V->Da V->Da V}
end
structure aM(N P:Da Str)(sc:Scope):Prop where
 kind:sc.kind =.function
 co:sc.isCoroutine=false
 gen:sc.isGenerator=false
 nd:N.Nodup
 pre:N.take P.length=P
 par:∀x∈P,sc.names.lookup x=some .local\/sc.names.lookup x=some .cell
 aa1:∀y∈sc.names,y.2 ≠ .free
theorem Hx{kindOf:Str->Option NameKind}{x:Str}:∀{binds:Da (Str×Value)}{m:SO},(∀v,(x,v)∉binds)->bindL kindOf binds m x=m x
 | [],_,_=>rfl
 | (n,v)::r,m,h=>by
  unfold bindL;rw[Hx λw hw=>h w (cM _ hw)];split
  .have:x≠n:=by rintro rfl;exact h v dg
   simp[this]
  .rfl
theorem Hy{kindOf:Str->Option NameKind}{x:Str}:∀{binds:Da (Str×Value)}{m:SO},(∀v,(x,v)∉binds)->bindC kindOf binds m x=m x
 | [],_,_=>rfl
 | (n,v)::r,m,h=>by
  unfold bindC;rw[Hy λw hw=>h w (cM _ hw)];split
  .rfl
  .have:x≠n:=by rintro rfl;exact h v dg
   simp[this]
theorem Hz{kindOf:Str->Option NameKind}{x:Str}{v:Value}:∀{P:Da Str}{vs:Da Value}{i:Nat}{m:SO},P.Nodup->P[i]?=some x->vs[i]?=some v->kindOf x=some .local->bindL kindOf (P.zip vs) m x=some v
 | [],_,_,_,_,h,_,_=>by simp at h
 | _::_,[],_,_,_,_,h,_=>by simp at h
 | p::P,w::vs,0,m,nd,h1,h2,hk=>by simp at h1 h2;subst h1;subst h2;show bindL kindOf ((p,w)::P.zip vs) m p=_;unfold bindL;rw[Hx λv hv=>(gZ.mp nd).1 (Dy hv).1,aB hk];simp
 | p::P,w::vs,i+1,m,nd,h1,h2,hk=>by show bindL kindOf ((p,w)::P.zip vs) m x=_;unfold bindL;exact Hz (i:=i) (gZ.mp nd).2 (by simpa using h1) (by simpa using h2) hk
theorem HC{kindOf:Str->Option NameKind}{x:Str}{v:Value}:∀{P:Da Str}{vs:Da Value}{i:Nat}{m:SO},P.Nodup->P[i]?=some x->vs[i]?=some v->kindOf x≠some .local->bindC kindOf (P.zip vs) m x=some v
 | [],_,_,_,_,h,_,_=>by simp at h
 | _::_,[],_,_,_,_,h,_=>by simp at h
 | p::P,w::vs,0,m,nd,h1,h2,hk=>by simp at h1 h2;subst h1;subst h2;show bindC kindOf ((p,w)::P.zip vs) m p=_;unfold bindC;rw[Hy λv hv=>(gZ.mp nd).1 (Dy hv).1,aC hk];simp
 | p::P,w::vs,i+1,m,nd,h1,h2,hk=>by show bindC kindOf ((p,w)::P.zip vs) m x=_;unfold bindC;exact HC (i:=i) (gZ.mp nd).2 (by simpa using h1) (by simpa using h2) hk
noncomputable def start(N:Da Str)(vs:Da V):St:=vs.map some++List.replicate (N.length-vs.length) none
noncomputable def dM(CX:zT)(P:Program)(w:World)(K:Fg)(mg:SO)(base:Heap)(N:Da Str)(qual:Str)(scope:Scope)(f:Addr)(cd:Value)(A:Around)(outer:Da Env)(s:Shared)(H:Hp)(E:XK):Cx where
 prog:=P
 w:=w
 K:=K
 mg:=mg
 base:=base
 A:=A.deeper (envOfC qual scope s.heap.objs.size f cd)
 N:=N
 s₀:=s
 H₀:=H
 env:=envOfC qual scope s.heap.objs.size f cd
 outer:=outer
 stack:=envOfC qual scope s.heap.objs.size f cd::outer
 ex:=[]
 calm:=true
 fn:=λ_=>true
 pn:=[]
 xe:=λe s'=>wpAny (model P w) (A.deeper (envOfC qual scope s.heap.objs.size f cd)) (leaving (envOfC qual scope s.heap.objs.size f cd) e) (λ_ s''=>CX outer H s E e s'') (λe' s''=>CX outer H s E e' s'') s'
def KZ{sc:Scope}{n:Nat}(h:sc.names.lookup x=some .cell):∃c,(cellsFrom n sc.names []).lookup x=some c:=by have q:=PySem.W.cellsFrom_some sc.names n [] (.inl h);exact Option.isSome_iff_exists.mp q
variable {qual:Str}{scope:Scope}
theorem To{w:World}{cd:Value}{A:Around}{outer:Da Env}{s1:Shared}{E:XK}(S:aM N ps scope)(hd:A.handled=none)(e0:CF P w K mg base A outer s H)(hl:vs.length=ps.length)(r:Vals vs us)(x:InCallC s s.heap.objs.size (bindL (envOfC qual scope s.heap.objs.size f cd).kindOf (ps.zip us) λ_=>none) (cellsFrom (s.heap.objs.size+1) scope.names []) (bindC (envOfC qual scope s.heap.objs.size f cd).kindOf (ps.zip us) λ_=>none) s1):
  Inv (dM CX P w K mg base N qual scope f cd A outer s H E) [] (start N vs) H s1:=by
 have hpl:ps.length<=N.length:=by have:=rQ List.length S.pre;rw[kI]at this;omega
 obtain⟨h1,tk,rfl,hk⟩:=x.done
 have Tp:∀b:Addr,b∉(dM CX P w K mg base N qual scope f cd A outer s H E).ex:=λb z=>absurd (show b∈([] :Da Addr)from z) (by simp)
 refine⟨⟨e0.mod,S.kind,Z,Z,aK _,λy z c h1 h2=>?_,λy hy=>?_,λy c _ h=>?_,λ_=>hd,Around.frames_deeper e0.frames,.inr ⟨Z,Z⟩,λb z=>absurd z (Tp b),e0.bs,e0.DG,λb _ _=>Tp b,λb z=>absurd z (Tp b),e0.n_,e0.Hv⟩,
  rfl,e0.bare,Un.kept hk,⟨_,x.toInCall.ns,λi y v h1 h2 h3=>?_⟩,λy c h=>⟨_,x.cell y c h⟩,e0.hok.fresh (aK _),λy c h=>?_,λp hp=>absurd (show p∈([] :AO)from hp) (by simp),e0.hok.kept hk,?_⟩
 . exact name_of_addr x.apart (yw h1) (yw h2)
 . have hy:scope.names.lookup y=some .cell\/scope.names.lookup y=some .free:=hy
   rcases hy with hy|hy
   . exact KZ hy
   . exact absurd rfl (S.aa1 _ (yw hy))
 . exact yF (x.above y c (yw h))
 . have hi:i<vs.length:=by
    unfold start at h2
    by_cases hi:i<vs.length
    . exact hi
    . rw[uV (by simpa using hi)]at h2
      rw[List.getElem?_replicate]at h2
      split at h2 <;> cases h2
   have ha:vs[i]?=some v:=by
    unfold start at h2;rw[uW (by simpa using hi),cu]at h2;cases e:vs[i]? with
    | none=>rw[e]at h2;cases h2
    | some a=>rw[e]at h2;cases h2;rfl
   obtain⟨u,hu,rv⟩:=r.get ha
   have hp:ps[i]?=some y:=by rw[<-S.pre,List.getElem?_take_of_lt (by omega)];exact h1
   have ndP:ps.Nodup:=by rw[<-S.pre];exact S.nd.sublist (RA _ _)
   refine⟨u,rv,?_⟩
   rcases S.par y (bQ hp)with k|k
   . exact .inl ⟨k,Hz ndP hp hu k⟩
   . obtain⟨c,e⟩:=KZ (n:=s.heap.objs.size+1) k
     refine .inr ⟨.inl k,c,e,?_⟩
     have q:=x.cell y c e
     rw[HC ndP hp hu (by show scope.names.lookup y≠_;rw[k];decide)]at q
     exact q
 . exact e0.hok.fresh (yF (x.above y c (yw h)))
 . unfold start
   show _=N.length
   rw[cX,aF,mh]
   omega
variable {body:Da Stmt}{doc pm cdv ct oc:Value}{an od:Option Addr}
theorem XU{w:World}{k:Nat}{name:Str}{params:Arguments}{dV kV:Value}{osl:Array (Option Value)}{N ps:Da Str}{sp:Sp}(lk:K.lookup f=some ⟨oc,od,.func (PySem.W.fnOf name qual params body scope dV kV doc pm an cdv ct),osl⟩)(hcd:PySem.W.codeIn K cdv qual=true)(S:aM N ps scope)(len:∀vs H Q E,sp vs H Q E->vs.length=ps.length)(Ch:∀(A:Around) (outer:Da Env) (s:Shared) (H:Hp) (vs:Da V) (Q:VK) (E:XK),d8 k (A.deeper (envOfC qual scope s.heap.objs.size f cdv))->sp vs H Q E->
    ∃t,uu (dM CX P w K mg base N qual scope f cdv A outer s H E) body t/\t { nx:=λ_ H'=>Q .cI H',rt:=Q } (start N vs) H):
  ja P w K mg base CX (k+1) f (PySem.W.fnOf name qual params body scope dV kV doc pm an cdv ct) ps sp:=by
 refine⟨len,λA outer s H args us vs Q E hr e0 hb r sQ=>?_⟩
 have hl:=len _ _ _ _ sQ
 have KX:K.In s.heap:=e0.mod.PB.keeps λb o e=>(e0.bs b o e).1
 have lim:s.heap.NoLimit:=e0.mod.nolimit.keeps λb o e=>(e0.bs b o e).1
 have hkind:∀y∈ps.zip us,scope.names.lookup y.1=some .local\/(scope.names.lookup y.1=some .cell/\((cellsFrom (s.heap.objs.size+1) scope.names []).lookup y.1).isSome=true):=λ⟨n,v⟩ hy=>by
  rcases S.par n (Dy hy).1 with q|q
  .exact .inl q
  .exact .inr ⟨q,PySem.W.cellsFrom_some _ _ _ (.inl q)⟩
 refine codeAny_call_function hr.depth (KX _ _ lk) rfl S.co S.gen rfl (PySem.W.codeRec_of KX hcd) (hb _ _ _ _ ?_)
 refine wpAny_newFunctionEnv_cells S.kind hkind λenv he s1 x=>?_
 subst he
 refine⟨lim.keeps x.toInCall.keep,codeAny_func ?_⟩
 obtain⟨t,ht,hq⟩:=Ch A outer s H vs Q E (hr.deeper _) sQ
 have I:Inv (dM CX P w K mg base N qual scope f cdv A outer s H E) [] (start N vs) H s1:=To S hr.hd e0 hl r x
 refine fq (ht [] s1 (start N vs) H _ I hq) (λfl s' hs=>?_) λe s' hs=>hs
 have fin:∀{σ':St}{H':Hp}{v:V}{u:Value},Inv (dM CX P w K mg base N qual scope f cdv A outer s H E) [] σ' H' s'->RelV v u->Q v H'->CE outer P w H s Q u s':=
  λ{σ' H' v u} J rv q=>⟨v,H',J.os,J.bare,J.base,J.hok,rv,q⟩
 cases fl with
 | ret u=>
   obtain⟨v,σ',H',J,rv,q⟩:=hs
   exact fin J rv q
 | next=>
   obtain⟨σ',H',J,q⟩:=hs
   exact fin (v:=V.cI) (u:=Value.none) J rfl q
 | brk=>
   obtain⟨_,_,_,q⟩:=hs
   exact False.elim q
 | cont=>
   obtain⟨_,_,_,q⟩:=hs
   exact False.elim q
section
variable {X:Cx}{x:Str}{p pos:Pos}{e:Expr}{es:Da Expr}{t:TA}{id T:String}{r:Da V->Hp->VK->Prop}
def aiI(r:Da V->Hp->VK->Prop)(Q:VK):Da V->Hp->Prop:=λvs H1=>r vs H1 Q
def tCB(r:Da V->Hp->VK->Prop)(t:TA):TE:=λσ H Q=>t σ H (aiI r Q)
end
end L2
namespace HT
open PySem PyProof.Rows
section
open PySem.SeqAt
open PySem.AutoSeq1 (wpAny_loadPart')
open PySem.MeetsSeq PySem.MeetsSeq2 PySem.MeetsSeq3
end
section
variable {prog:Program}{w:World}{A:Around}{E:VS}{s:Shared}
end
end HT
namespace L2
open PySem PySem.Spec PyProof.Rows
variable {ns:Da Int}
def intsAre_of:∀{us:Da Value},Vals (ns.map V.int) us->IntsAre us ns:=by
 induction ns with
 | nil=>intro us r;rw[List.map_nil]at r;cases r;exact .nil
 | cons n ns ih=>
  intro us r;rw[cO]at r;cases r with
  | cons r1 r2=>obtain⟨t,e⟩:=r1;subst e;exact .cons n t (ih r2)
section
variable {X:Cx}{e:Expr}{te:TE}{lo hi:Option Expr}{tl th:TO}{pos p2:Pos}
end
noncomputable def Ak(n:Nat)(i:Int):Option Nat:=if 0<=i then(if i<n then some i.toNat else none) else if -(n:Int)<=i then some (i+n).toNat else none
noncomputable def pS{α:Type}(xs:Da α)(i:Int):Option α:=(Ak xs.length i).bind λj=>xs[j]?
variable {j:Nat}
theorem PL{n:Nat}{i:Int}(h:Ak n i=some j):seqIndex? i n=some j/\j<n/\-(n:Int)<=i/\i<n:=by
 unfold Ak at h;by_cases h0:0<=i
 .rw [aB h0]at h;by_cases h1:i<n
  .rw [aB h1]at h;have e:i.toNat=j:=fM h;exact⟨by rw[seqIndex_of h0 h1,e],by omega,by omega,h1⟩
  .rw [aC h1]at h;cases h
 .rw [aC h0]at h;by_cases h1:-(n:Int)<=i
  .rw [aB h1]at h;have e:(i+n).toNat=j:=fM h;exact⟨by rw[seqIndex_neg (by omega) h1,e],by omega,h1,by omega⟩
  .rw [aC h1]at h;cases h
def BE{α:Type}{xs:Da α}{i:Int}{v:α}(h:pS xs i=some v):∃j,seqIndex? i xs.length=some j/\xs[j]?=some v/\j<xs.length/\-(xs.length:Int)<=i/\i<xs.length:=by
 unfold pS at h;cases e:Ak xs.length i with
 | none=>rw[e]at h;cases h
 | some j=>rw[e]at h;obtain⟨h1,h2,h3,h4⟩:=PL e;exact⟨j,h1,h,h2,h3,h4⟩
theorem aN{α:Type}{xs:Da α}{v:α}(h:xs[j]?=some v):pS xs (j:Int)=some v:=by
 have hj:j<xs.length:=(dX.mp h).1;have e:Ak xs.length (j:Int)=some j:=by unfold Ak;rw[aB (by omega),aB (by omega)];simp
 unfold pS;rw[e];exact h
theorem K0{α:Type}(xs:Da α)(v:α):pS (xs++[v]) (-1)=some v:=by
 have hl:(xs++[v]).length=xs.length+1:=by simp
 have e:Ak (xs++[v]).length (-1)=some xs.length:=by unfold Ak;rw[hl,aC (by decide),aB (by omega)];congr 1;omega
 unfold pS;rw[e];show(xs++[v])[xs.length]?=some v;simp
def Zh(b:Expr):Prop:=∀o i,subscripted b false o i=operate [o,i] (getItem o i)
def zU(X:Cx)(r:R2):Prop:=∀(value slice:Expr)(AC:AO)(s:Shared)(σ:St)(H:Hp)(x y:V)(v u:Value)(Q:VK),Inv X AC σ H s->RelV x v->RelV y u->r x y H Q->subscripted slice false v u=operate [v,u] (getItem v u)->wpAny (model X.prog X.w) X.A (subscriptTail value slice v u) (EP X AC σ Q) X.xe s
def MtR(X:Cx)(id:String)(r:V->Da V->Hp->VK->Prop):Prop:=∀(AC:AO)(s:Shared)(σ:St)(H:Hp)(x:V)(xs:Da V)(v:Value)(us:Da Value)(Q:VK),Inv X AC σ H s->RelV x v->Vals xs us->r x xs H Q->wpAny (model X.prog X.w) X.A (call (.builtin id) (v::us)) (EP X AC σ Q) X.xe s
variable {AC:AO}{σ:St}{H:Hp}{s:Shared}{xs ys:Da V}{BT its':Da Value}{y:V}{u:Value}
section
variable {X:Cx}{a b:Expr}{ta tb:TE}{pos:Pos}
def zU.or{r r':R2}(h:zU X r)(h':zU X r'):zU X (λx y H Q=>r x y H Q\/r' x y H Q):=by
 intro value slice AC s σ H x y v u Q I rx ry q hs;rcases q with q|q
 .exact h value slice AC s σ H x y v u Q I rx ry q hs
 .exact h' value slice AC s σ H x y v u Q I rx ry q hs
inductive RO(K:Fg)(x:V)(y:V)(H:Hp)(Q:VK):Prop
 |mk(p xs i v:_)(_:x =.ref p)(_:y =.int i)(_:aG K H p xs)(_:pS xs i=some v)(_:Q v H)
inductive K2(K:Fg)(x:V)(y:V)(H:Hp)(Q:VK):Prop
 |mk(p xs i v:_)(_:x =.ref p)(_:y =.int i)(_:dm K H p xs)(_:pS xs i=some v)(_:Q v H)
inductive aa3(x:V)(y:V)(H:Hp)(Q:VK):Prop
 |mk(z i c:_)(_:x =.str z)(_:y =.int i)(_:z.length<=sizeLine)(_:pS z.cps.toList i=some c)(_:Q (.str ⟨#[c]⟩) H)
theorem PM:zU X (RO X.K):=by
 intro value slice AC s σ H x y v u Q I rx ry h hs;obtain⟨p,xs,i,z,rfl,rfl,hq,he,q⟩:=h;cases rx;obtain⟨t,rfl⟩:=ry;obtain⟨BT,r,pl,hz⟩:=I.list hq;obtain⟨j,h1,h2,h3,h4,h5⟩:=BE he;obtain⟨w,ew,rw'⟩:=r.get h2;have hl:=r.length;have hn:=u0;have fin:EP X AC σ Q w s:=⟨z,H,I,rw',q⟩
 by_cases h0:0<=i
 .have hj:i.toNat=j:=by rw[seqIndex_of h0 h5]at h1;exact fM h1
  exact item_listR pl.isList h0 (by omega) (by rw[hj];simpa using ew) fin hs
 .have hj:(i+(BT.toArray.size:Int)).toNat=j:=by rw[seqIndex_neg (by omega) h4]at h1;rw[iR,<-hl];exact fM h1
  exact subscriptTail_builtinR (x:=w) pl.isList.typeIs slot_list_getitem.lookup
   (wpAny_getItem_list_neg (Q:=λr s'=>r=w/\EP X AC σ Q r s') pl.isList (by omega) (by rw[iR] <;> omega) (by omega) (by rw[hj];simpa using ew) ⟨Z,fin⟩) hs
theorem Tq:zU X (K2 X.K):=by
 intro value slice AC s σ H x y v u Q I rx ry h hs;obtain⟨p,xs,i,z,rfl,rfl,hq,he,q⟩:=h;cases rx;obtain⟨t,rfl⟩:=ry;obtain⟨BT,r,pl,hz⟩:=I.tuple hq;obtain⟨j,h1,h2,h3,h4,h5⟩:=BE he;obtain⟨w,ew,rw'⟩:=r.get h2;have hl:=r.length;have hn:=u0;have fin:EP X AC σ Q w s:=⟨z,H,I,rw',q⟩
 exact subscriptTail_builtinR (x:=w) pl.typeIs slot_tuple_getitem.lookup
  (getItem_tuple (j:=j) (Q:=λr s'=>r=w/\EP X AC σ Q r s') pl (by omega) (by omega) (by rw[iR,<-hl];exact h1) (by simpa using ew) ⟨Z,fin⟩) hs
theorem Tr:zU X aa3:=by
 intro value slice AC s σ H x y v u Q I rx ry h hs;obtain⟨z,i,c,rfl,rfl,hz,he,q⟩:=h;obtain⟨t,rfl⟩:=rx;obtain⟨t',rfl⟩:=ry;obtain⟨j,h1,h2,h3,h4,h5⟩:=BE he;have hl:z.cps.toList.length=z.length:=by simp[Str.length]
 rw[hl]at h1 h4 h5;have hn:=u0;exact tail_any (typeIs_str s z t) slot_str_getitem.lookup (getItem_str (c:=c) (by have e1:decide (i < -(2 ^ 63:Int))=false:=c8 (by omega);have e2:decide (i≥2 ^ 63)=false:=c8 (by omega);rw[e1,e2,Bool.or_false]) (by rw[h1];simpa using h2) ⟨.str ⟨#[c]⟩,H,I.tok _,⟨_,Z⟩,q⟩) hs
noncomputable def rIx(K:Fg):R2:=λx y H Q=>RO K x y H Q\/K2 K x y H Q\/aa3 x y H Q
def aa5:zU X (rIx X.K):=PM.or (Tq.or Tr)
def RP(BT:Da Value)(n j:Nat)(u:Value):Obj.mapSeq (·.setIfInBounds j u) { cls:=.type "list",data:=.seq BT.toArray n }={ cls:=.type "list",data:=.seq (BT.set j u).toArray n }:=by simp[Obj.mapSeq]
theorem Inv.lst{AC:AO}{σ:St}{H:Hp}{s:Shared}{p:Addr}{xs:Da V}(I:Inv X AC σ H s)(h:H p=some (.lst xs)):∃(BT:Da Value)(n:Nat),Vals xs BT/\s.heap.get? p=some { cls:=.type "list",data:=.seq BT.toArray n }/\xs.length<=sizeLine:=by obtain⟨z,BT,n,r,e⟩:=I.hok p _ h;exact⟨BT,n,r,e,z⟩
def Inv.aa6{p:Addr}{n n':Nat}{f:Obj->Obj}(I:Inv X AC σ H s)(h:H p=some (.lst xs))(ho:s.heap.get? p=some { cls:=.type "list",data:=.seq BT.toArray n })(hf:f { cls:=.type "list",data:=.seq BT.toArray n }={ cls:=.type "list",data:=.seq its'.toArray n' })(r:Vals ys its')(hz:ys.length<=sizeLine)(t:Nat):
  Inv X AC σ (upd H p (.lst ys)) { s with heap:=s.heap.update p f,toks:=t }:=by
 have e:(s.heap.update p f).get? p=some { cls:=.type "list",data:=.seq its'.toArray n' }:=by rw[Cs f ho (by rw[hf] <;> rfl),hf]
 refine I.write (x:=p) (e:=p) (by rw[h];trivial) (.inl rfl) (λb u hb q=>(Kz _ _ (bB hb)).trans q) ⟨_,e⟩ ?_
 exact⟨hz,its',n',r,e⟩
inductive aeV(o:V)(i:V)(v:V)(H:Hp)(Q:Hp->Prop):Prop
 |mk(p xs k j:_)(_:o =.ref p)(_:i =.int k)(_:H p=some (.lst xs))(_:Ak xs.length k=some j)(_:Q (upd H p (.lst (xs.set j v))))
theorem set_list:VT X aeV:=by
 intro AC s σ H o i v ov iv u Q I ro ri rv h;obtain⟨p,xs,k,j,rfl,rfl,hp,hj,q⟩:=h;cases ro;obtain⟨t,rfl⟩:=ri;obtain⟨BT,n,r,ho,hz⟩:=I.lst hp;obtain⟨h1,h2,h3,h4⟩:=PL hj;have hl:=r.length;have hn:=u0;have I':Inv X AC σ (upd H p (.lst (xs.set j v))) { s with heap:=s.heap.update p (Obj.mapSeq (·.setIfInBounds j u)) }:=
  I.aa6 hp ho (RP BT n j u) (r.set rv j) (by rw[gq];exact hz) s.toks
 by_cases h0:0<=k
 .have hk:k.toNat=j:=by rw[seqIndex_of h0 h4]at h1;exact fM h1
  exact PySem.W.ki_setAt ho h0 (by omega) (by rw[iR,<-hl];exact h4) (by rw[hk];exact⟨_,I',q⟩)
 .have hk:(k+(BT.toArray.size:Int)).toNat=j:=by rw[seqIndex_neg (by omega) h3]at h1;rw[iR,<-hl];exact fM h1
  exact PySem.W.ki_setBack ho (by omega) (by rw[iR,<-hl];exact h3) (by omega) (by rw[hk];exact⟨_,I',q⟩)
noncomputable def rS:V->Bool
 | .cI=>true
 | .bl _=>true
 | .int _=>true
 | .str _=>true
 | _=>false
noncomputable def zV:V->V->Bool
 | .cI,.cI=>true
 | .bl a,.bl b=>a==b
 | .bl a,.int b=>(if a then 1 else 0)==b
 | .int a,.bl b=>a==(if b then 1 else 0)
 | .int a,.int b=>a==b
 | .str a,.str b=>a==b
 | _,_=>false
def aa7{A:Around}{x:V}{v:Value}(ry:RelV y u)(rx:RelV x v)(fy:rS y=true)(fx:rS x=true):SeqAt.EqAt A s u v (zV y x):=by
 cases y with
 | cI=>
  cases ry;cases x with
  | cI=>cases rx;exact SeqAt.EqAt.same _
  | bl b=>cases rx;exact SeqAt.EqAt.none_bool b
  | int b=>obtain⟨t,rfl⟩:=rx;exact SeqAt.EqAt.none_int b t
  | str b=>obtain⟨t,rfl⟩:=rx;exact SeqAt.EqAt.none_str b t
  | _=>exact absurd (show false=true from fx) iA
 | bl a=>
  cases ry;cases x with
  | cI=>cases rx;exact SeqAt.EqAt.bool_none a
  | bl b=>cases rx;exact SeqAt.EqAt.bool_bool a b
  | int b=>obtain⟨t,rfl⟩:=rx;exact SeqAt.EqAt.bool_int a b t
  | str b=>obtain⟨t,rfl⟩:=rx;exact SeqAt.EqAt.bool_str a b t
  | _=>exact absurd (show false=true from fx) iA
 | int a=>
  obtain⟨t',rfl⟩:=ry;cases x with
  | cI=>cases rx;exact SeqAt.EqAt.int_none a t'
  | bl b=>cases rx;exact SeqAt.EqAt.int_bool a t' b
  | int b=>obtain⟨t,rfl⟩:=rx;exact SeqAt.EqAt.int_int a t' b t
  | str b=>obtain⟨t,rfl⟩:=rx;exact SeqAt.EqAt.int_str a t' b t
  | _=>exact absurd (show false=true from fx) iA
 | str a=>
  obtain⟨t',rfl⟩:=ry;cases x with
  | cI=>cases rx;exact SeqAt.EqAt.str_none a t'
  | bl b=>cases rx;exact SeqAt.EqAt.str_bool a t' b
  | int b=>obtain⟨t,rfl⟩:=rx;exact SeqAt.EqAt.str_int a t' b t
  | str b=>obtain⟨t,rfl⟩:=rx;exact SeqAt.EqAt.str_str a t' b t
  | _=>exact absurd (show false=true from fx) iA
 | _=>exact absurd (show false=true from fy) iA
noncomputable def u6(x:V)(u:Value):Bool:=match u with
 | .none=>zV .cI x
 | .bool b=>zV (.bl b) x
 | .int i _=>zV (.int i) x
 | .str z _=>zV (.str z) x
 | _=>false
def Tt{x:V}(r:RelV y u)(f:rS y=true):u6 x u=zV y x:=by
 cases y with
 | cI=>cases r;rfl
 | bl b=>cases r;rfl
 | int i=>obtain⟨t,rfl⟩:=r;rfl
 | str z=>obtain⟨t,rfl⟩:=r;rfl
 | _=>exact absurd (show false=true from f) iA
theorem x_{x:V}:∀{xs:Da V}{us:Da Value},Vals xs us->xs.all rS=true->us.any (u6 x)=xs.any λy=>zV y x
 | _,_,.nil,_=>rfl
 | y::xs,u::us,.cons r t,f=>by rw[List.all_cons,Dv]at f;rw[DC,DC,Tt r f.1,x_ t f.2]
theorem u7{A:Around}{s:Shared}{x:V}{v:Value}(rx:RelV x v)(fx:rS x=true):∀{xs:Da V}{us:Da Value},Vals xs us->xs.all rS=true->∀u∈us,SeqAt.EqAt A s u v (u6 x u)
 | _,_,.nil,_=>λu hu=>by cases hu
 | y::xs,u::us,.cons r t,f=>λu' hu=>by
  rw[List.all_cons,Dv]at f;rcases b_.mp hu with rfl|hu
  .rw [Tt r f.1];exact aa7 r rx f.1 fx
  .exact u7 rx fx t f.2 u' hu
noncomputable def DP(x:V)(xs:Da V):Bool:=xs.any λy=>zV y x
inductive rIn(K:Fg)(neg:Bool)(x:V)(y:V)(H:Hp)(Q:VK):Prop
 |mk(p xs:_)(_:y =.ref p)(_:(aG K H p xs\/dm K H p xs))(_:rS x=true)(_:xs.all rS=true)(_:Q (.bl (if neg then !DP x xs else DP x xs)) H)
def Tu:jW X (compareOp .In) (rIn X.K false):=by
 intro AC s σ H x y v u Q I rx ry h;obtain⟨p,xs,rfl,hq,fx,fs,q⟩:=h;cases ry;rcases hq with hq|hq
 .obtain ⟨BT,r,pl,hz⟩:=I.list hq;refine SeqAt.in_listAt (u6 x) pl.isList (λw hw=>u7 rx fx r fs w (by simpa using hw)) ⟨.bl _,H,I,Z,?_⟩;rw[show BT.toArray.any (u6 x)=BT.any (u6 x) by simp,x_ r fs];exact q
 .obtain ⟨BT,r,pl,hz⟩:=I.tuple hq;refine SeqAt.in_tupleAt (u6 x) pl (λw hw=>u7 rx fx r fs w (by simpa using hw)) ⟨.bl _,H,I,Z,?_⟩;rw[show BT.toArray.any (u6 x)=BT.any (u6 x) by simp,x_ r fs];exact q
def Al:jW X (compareOp .NotIn) (rIn X.K true):=by
 intro AC s σ H x y v u Q I rx ry h;obtain⟨p,xs,rfl,hq,fx,fs,q⟩:=h;cases ry;rcases hq with hq|hq
 .obtain ⟨BT,r,pl,hz⟩:=I.list hq;refine SeqAt.notIn_listAt (u6 x) pl.isList (λw hw=>u7 rx fx r fs w (by simpa using hw)) ⟨.bl _,H,I,Z,?_⟩;rw[show BT.toArray.any (u6 x)=BT.any (u6 x) by simp,x_ r fs];exact q
 .obtain ⟨BT,r,pl,hz⟩:=I.tuple hq;refine SeqAt.notIn_tupleAt (u6 x) pl (λw hw=>u7 rx fx r fs w (by simpa using hw)) ⟨.bl _,H,I,Z,?_⟩;rw[show BT.toArray.any (u6 x)=BT.any (u6 x) by simp,x_ r fs];exact q
theorem K3:i_ X (.builtin "len") (λxs H Q=>∃p ys,xs=[.ref p]/\(aG X.K H p ys\/dm X.K H p ys)/\Q (.int ys.length) H):=by
 intro AC s σ H xs us Q I r h;obtain⟨p,ys,rfl,hq,q⟩:=h;obtain⟨u,rfl,rx⟩:=vals1 r;cases rx;have hn:=u0;rcases hq with hq|hq
 .obtain ⟨BT,r',pl,hz⟩:=I.list hq;have hlen:=r'.length;exact Calls.call_len_list pl.isList (by simp only[iR] <;> omega) ⟨.int ys.length,H,I.tok _,⟨s.toks+1,by rw[iR,hlen]⟩,q⟩
 .obtain ⟨BT,r',pl,hz⟩:=I.tuple hq;have hlen:=r'.length;exact len_tuple pl (by simp only[iR] <;> omega) ⟨.int ys.length,H,I.tok _,⟨s.toks+1,by rw[iR,hlen]⟩,q⟩
theorem K4:i_ X (.builtin "len") (λxs H Q=>∃z,xs=[.str z]/\z.length<=sizeLine/\Q (.int z.length) H):=by intro AC s σ H xs us Q I r h;obtain⟨z,rfl,hz,q⟩:=h;obtain⟨u,rfl,t,rfl⟩:=vals1 r;have hn:=u0;exact len_str (by omega) ⟨.int z.length,H,I.tok _,⟨_,Z⟩,q⟩
theorem K5:i_ X (.type "list") (λxs H Q=>∃p ys,xs=[.ref p]/\(aG X.K H p ys\/dm X.K H p ys)/\∀l,H l=none->Q (.ref l) (upd H l (.lst ys))):=by
 intro AC s σ H xs us Q I r h;obtain⟨p,ys,rfl,hq,q⟩:=h;obtain⟨u,rfl,rx⟩:=vals1 r;cases rx;have fin:∀(BT:Da Value),Vals ys BT->ys.length<=sizeLine->∀(h':Heap)(c':Nat),(∀b o',s.heap.get? b=some o'->h'.get? b=some o')->
   h'.get? s.heap.objs.size=some { cls:=.type "list",dict:=none,data:=.seq BT.toArray c',slots:=#[] }->EP X AC σ Q (.ref s.heap.objs.size) { s with heap:=h' }:=λBT r' hz h' c' kp e=>
  ⟨.ref s.heap.objs.size,_,I.laid (t':=s.toks) kp (aK _) (show e_ X.prog X.w _ h' _ (.lst ys)from⟨hz,BT,c',r',e⟩),Z,q _ (I.hok.fresh (aK _))⟩
 rcases hq with hq|hq
 .obtain ⟨BT,r',pl,hz⟩:=I.list hq;have hlen:=r'.length;obtain⟨o,ho,hc,n,hd⟩:=pl.isList;exact call_list_seq p (.inl rfl) ho hc hd (λh' c' kp e=>fin BT r' hz h' c' kp e) (by simp only[iR] <;> omega)
 .obtain ⟨BT,r',pl,hz⟩:=I.tuple hq;have hlen:=r'.length;obtain⟨o,ho,hc,n,hd⟩:=pl;exact call_list_seq p (.inr rfl) ho hc hd (λh' c' kp e=>fin BT r' hz h' c' kp e) (by simp only[iR] <;> omega)
theorem Jb:i_ X (.type "tuple") (λxs H Q=>∃p ys,xs=[.ref p]/\((aG X.K H p ys/\∀l,H l=none->Q (.ref l) (upd H l (.tup ys)))\/(dm X.K H p ys/\Q (.ref p) H))):=by
 intro AC s σ H xs us Q I r h;obtain⟨p,ys,rfl,h⟩:=h;obtain⟨u,rfl,rx⟩:=vals1 r;cases rx;rcases h with⟨hq,q⟩|⟨hq,q⟩
 .obtain ⟨BT,r',pl,hz⟩:=I.list hq;have hlen:=r'.length;refine call_tuple_list pl.isList (λh' kp=>?_) (by simp only[iR] <;> omega);have I1:Inv X AC σ H { s with heap:=h' }:=I.kept (t':=s.toks) kp;have I2:Inv X AC σ (upd H h'.objs.size (.tup ys)) { s with heap:=h'.push { cls:=.type "tuple",data:=.seq BT.toArray } }:=
   I1.laid (t':=s.toks) (λb o e=>b9 _ e) (aK _) (show e_ X.prog X.w _ _ _ (.tup ys)from⟨hz,BT,r',IsTup.new _ _⟩)
  exact⟨.ref h'.objs.size,_,I2,Z,q _ (I1.hok.fresh (aK _))⟩
 .obtain ⟨BT,r',pl,hz⟩:=I.tuple hq;exact call_tuple_same pl ⟨.ref p,H,I,Z,q⟩
def tyV(K:Fg)(T:String)(x:V)(H:Hp):Prop:=match x with
 | .str _=>T = "str"
 | .int _=>T = "int"
 | .ref p=>(T = "list"/\∃xs,aG K H p xs)\/(T = "tuple"/\∃o,K.lookup p=some o/\o.cls =.type "tuple"/\o.dict=none)\/
     (T = "dict"/\((∃AT,H p=some (.dK AT))\/∃AT,H p=some (.dT AT)))\/(T = "set"/\∃S n,H p=some (.set S n))
 | _=>False
def Tv{T:String}{x:V}{v:Value}(I:Inv X AC σ H s)(r:RelV x v)(ty:tyV X.K T x H):s.TypeIs v T/\∀a,v =.ref a->∃ob,s.heap.get? a=some ob/\ob.dict=none:=by
 cases x with
 | str z=>obtain⟨t,rfl⟩:=r;cases(show T = "str" from ty);exact⟨typeIs_str s z t,λ_ e=>nomatch e⟩
 | int i=>obtain⟨t,rfl⟩:=r;cases(show T = "int" from ty);exact⟨typeIs_int s i t,λ_ e=>nomatch e⟩
 | ref p=>
  cases r;rcases ty with⟨rfl,xs,hq⟩|⟨rfl,o,hk,hc,hd⟩|⟨rfl,hk⟩|⟨rfl,S,n,hk⟩
  .obtain ⟨BT,_,pl,_⟩:=I.list hq;refine⟨pl.isList.typeIs,λa e=>?_⟩;cases e;obtain⟨o,n,e,c,hd,_⟩:=pl;exact⟨o,e,hd⟩
  .refine ⟨⟨o,I.pO p o hk,hc⟩,λa e=>?_⟩;cases e;exact⟨o,I.pO _ o hk,hd⟩
  .have z:∃o,s.heap.get? p=some o/\o.ExactDict:=by
    rcases hk with⟨AT,hk⟩|⟨AT,hk⟩
    .obtain ⟨_,_,_,_,o,_,_,e,ex,_⟩:=I.hok p _ hk;exact⟨o,e,ex⟩
    .obtain ⟨_,_,_,_,o,_,_,e,ex,_⟩:=I.hok p _ hk;exact⟨o,e,ex⟩
   obtain⟨o,e,ex⟩:=z;refine⟨⟨o,e,ex.1⟩,λa e2=>?_⟩;cases e2;exact⟨o,e,ex.2.1⟩
  .obtain ⟨o,_,_,_,e,ex,_⟩:=I.hok p _ hk;refine⟨⟨o,e,ex.1⟩,λa e2=>?_⟩;cases e2;exact⟨o,e,ex.2.1⟩
 | _=>exact False.elim ty
inductive aeW(K:Fg)(T:String)(r:V->Da V->Hp->VK->Prop)(Q:VK)(x:V)(H1:Hp):Prop
 |mk(_:tyV K T x H1)(_:r x [] H1 Q)
def aiJ(K:Fg)(T:String)(r:V->Da V->Hp->VK->Prop)(to:TE):TE:=λσ H Q=>to σ H (aeW K T r Q)
def aa9(r:V->Da V->Hp->VK->Prop)(Q:VK)(x:V):Da V->Hp->Prop:=λxs H2=>r x xs H2 Q
inductive aiK(K:Fg)(T:String)(r:V->Da V->Hp->VK->Prop)(t:TA)(σ:St)(Q:VK)(x:V)(H1:Hp):Prop
 |mk(_:tyV K T x H1)(_:t σ H1 (aa9 r Q x))
def tBM(K:Fg)(T:String)(r:V->Da V->Hp->VK->Prop)(to:TE)(t:TA):TE:=λσ H Q=>to σ H (aiK K T r t σ Q)
variable {o e:Expr}{es:Da Expr}{to:TE}{t:TA}{name:Str}{Bz cpos:Pos}{T id:String}{r:V->Da V->Hp->VK->Prop}
end
def MtM(X:Cx)(id:String)(r:V->Da V->Hp->VK->Prop):Prop:=∀(AC:AO)(s:Shared)(σ:St)(H:Hp)(x:V)(xs:Da V)(v:Value)(us:Da Value)(Q:VK),Inv X AC σ H s->RelV x v->Vals xs us->r x xs H Q->wpAny (model X.prog X.w) X.A (call (.builtin id) (v::us)) (EP X AC σ Q) X.xe s
theorem Vals.one:∀{x:V}{us:Da Value},Vals [x] us->∃u,us=[u]/\RelV x u
 | _,_,.cons r .nil=>⟨_,Z,r⟩
theorem Vals.zero:∀{us:Da Value},Vals [] us->us=[]
 | _,.nil=>rfl
variable {us:Da Value}
theorem Vals.reverse(h:Vals xs us):Vals xs.reverse us.reverse:=by
 induction h with
 | nil=>exact .nil
 | cons r t ih=>rw[List.reverse_cons,List.reverse_cons];exact Vals.append ih (.cons r .nil)
theorem Vals.rep{xs:Da V}{us:Da Value}(h:Vals xs us):∀k:Nat,Vals (List.replicate k xs).flatten (List.replicate k us).flatten
 | 0=> .nil
 | k+1=>by rw[Cv,Cv,RB,RB];exact Vals.append h (Vals.rep h k)
theorem foldl_rep(BT:Da Value):∀(k:Nat)(Ap:Da Value),List.foldl (λx1 x2=>x1++x2) Ap.toArray (List.replicate k BT.toArray)=(Ap++(List.replicate k BT).flatten).toArray
 | 0,Ap=>by simp
 | k+1,Ap=>by
  have e:Ap.toArray++BT.toArray=(Ap++BT).toArray:=by simp
  have e2:(Ap++BT)++(List.replicate k BT).flatten=Ap++(List.replicate (k+1) BT).flatten:=by rw[Cv,RB,KL]
  rw[<-e2,<-foldl_rep BT k (Ap++BT),<-e,Cv,iH]
variable {t':Nat}
section
variable {X:Cx}{AC:AO}{σ:St}{H:Hp}{s:Shared}{l b:Addr}{xs ys zs:Da V}
def Inv.aa_{n:Nat}{f:Array Value->Array Value}(I:Inv X AC σ H s)(hH:H l=some (.lst xs))(e:s.heap.get? l=some { cls:=.type "list",data:=.seq BT.toArray n })(hf:f BT.toArray=its'.toArray)(hv:Vals ys its')(hz:ys.length<=sizeLine):
  Inv X AC σ (upd H l (.lst ys)) { s with heap:=s.heap.update l (Obj.mapSeq f),toks:=t' }:=by
 have q:=PySem.IsL.update e f
 rw[hf]at q
 refine I.write (x:=l) (e:=l) (by rw[hH];exact trivial) (.inl rfl) (λb' u hb hu=>(Kz s.heap (Obj.mapSeq f) (bB hb)).trans hu) ⟨_,q⟩ ?_
 exact⟨hz,its',_,hv,q⟩
def Inv.aba(I:Inv X AC σ H s)(hv:Vals ys BT)(hz:ys.length<=sizeLine):Inv X AC σ (upd H s.heap.objs.size (.lst ys)) { s with heap:=s.heap.push { cls:=.type "list",data:=.seq BT.toArray },toks:=t' }:=I.laid (λ_ _ q=>b9 _ q) (aK _) ⟨hz,BT,0,hv,ef _ rfl⟩
theorem Inv.fresh(I:Inv X AC σ H s):H s.heap.objs.size=none:=I.hok.fresh (aK _)
def Inv.K6(I:Inv X AC σ H s)(hH:H l=some (.lst xs)):xs.length<=sizeLine/\∃(BT:Da Value)(n:Nat),Vals xs BT/\xs.length=BT.length/\s.heap.get? l=some { cls:=.type "list",data:=.seq BT.toArray n }:=by obtain⟨z,BT,n,r,e⟩:=I.hok l _ hH;exact⟨z,BT,n,r,r.length,e⟩
theorem Wb{n:Nat}(h:n<=sizeLine):Builtin.List.listTooLong n=false:=by unfold Builtin.List.listTooLong;exact c8 (by omega)
end
section
variable {X:Cx}
inductive Zi(x:V)(vs:Da V)(H:Hp)(Q:VK):Prop
 |mk(l xs y:_)(_:x =.ref l)(_:vs=[y])(_:H l=some (.lst xs))(_:xs.length<sizeLine)(_:Q .cI (upd H l (.lst (xs++[y]))))
theorem ee:MtM X "list.append" Zi:=by intro AC s σ H x vs v us Q I rx rv h;obtain⟨l,xs,y,rfl,rfl,hH,hz,q⟩:=h;cases rx;obtain⟨u,rfl,ru⟩:=rv.one;obtain⟨z,BT,n,r,hl,e⟩:=I.K6 hH;refine call_meets F.slot_list_append ⟨_,e,Z⟩ F.entry_list_append (F.args_list_append_2 _ _) (PySem.list_append l BT.toArray n u (by rw[iR];omega)) ⟨e,?_⟩;refine⟨.cI,_,I.aa_ (its':=BT++[u]) hH e (by simp) (r.append (.cons ru .nil)) ?_,Z,q⟩;rw[cX,List.length_singleton];omega
inductive abb(x:V)(vs:Da V)(H:Hp)(Q:VK):Prop
 |mk(l xs:_)(_:x =.ref l)(_:vs=[])(_:H l=some (.lst xs))(_:Q .cI (upd H l (.lst [])))
theorem CG:MtM X "list.clear" abb:=by intro AC s σ H x vs v us Q I rx rv h;obtain⟨l,xs,rfl,rfl,hH,q⟩:=h;cases rx;have hus:=rv.zero;subst hus;obtain⟨z,BT,n,r,hl,e⟩:=I.K6 hH;refine call_meets F.slot_list_clear ⟨_,e,Z⟩ F.entry_list_clear (F.args_list_clear_1 _) (AutoSeq1.list_clear_list_0 l BT.toArray n (by rw[iR];omega)) ⟨e,?_⟩;exact⟨.cI,_,I.aa_ (its':=[]) (ys:=[]) hH e rfl .nil (fm _),Z,q⟩
inductive aiL(x:V)(y:V)(H:Hp)(Q:VK):Prop
 |mk(l b xs zs:_)(_:x =.ref l)(_:y =.ref b)(_:H l=some (.lst xs))(_:H b=some (.lst zs))(_:xs.length+zs.length<=sizeLine)(_:∀p,H p=none->Q (.ref p) (upd H p (.lst (xs++zs))))
theorem K7:jW X (binaryOp .Add) aiL:=by
 intro AC s σ H x y v u Q I rx ry h;obtain⟨l,b,xs,zs,rfl,rfl,hH,hB,hz,q⟩:=h;cases rx;cases ry;obtain⟨z,BT,n,r,hl,e⟩:=I.K6 hH;obtain⟨z2,its2,n2,r2,hl2,e2⟩:=I.K6 hB;refine PySem.P.add_list e e2 ?_ (by rw[iR,iR];omega);have ea:BT.toArray++its2.toArray=(BT++its2).toArray:=by simp
 rw[ea];exact⟨.ref _,_,I.aba (t':=s.toks) (r.append r2) (by rw[cX];omega),Z,q _ I.fresh⟩
inductive aiM(x:V)(y:V)(H:Hp)(Q:VK):Prop
 |mk(l k xs:_)(_:x =.ref l)(_:y =.int k)(_:H l=some (.lst xs))(_:-(2 ^ 63)<=k)(_:k<2 ^ 63)(_:xs.length*k.toNat<=sizeLine)(_:∀p,H p=none->Q (.ref p) (upd H p (.lst (List.replicate k.toNat xs).flatten)))
def len_rep{α:Type}(xs:Da α)(k:Nat):(List.replicate k xs).flatten.length=k*xs.length:=by
 induction k with
 | zero=>simp
 | succ k ih=>rw[Cv,RB,cX,ih,Nat.succ_mul,Nat.add_comm]
theorem Tw:jW X (binaryOp .Mult) aiM:=by
 intro AC s σ H x y v u Q I rx ry h;obtain⟨l,k,xs,rfl,rfl,hH,h1,h2,hz,q⟩:=h;cases rx;obtain⟨t,rfl⟩:=ry;obtain⟨z,BT,n,r,hl,e⟩:=I.K6 hH;have hlen:BT.toArray.size*k.toNat<=sizeLine:=by rw[iR,<-hl];exact hz
 have hcap:¬ BT.toArray.size*k.toNat>(2 ^ 63-1) / 8:=by
  have:(sizeLine:Nat)<=(2 ^ 63-1) / 8:=by decide
  omega
 have hfit:¬ (!Builtin.List.listFitsIndex k)=true:=by rw[fitsIndex_both h1 h2];exact iA
 have aeX:¬ Builtin.List.listTooLong (BT.toArray.size*k.toNat)=true:=by rw[Wb hlen];exact iA
 have hnew:List.foldl (λx1 x2=>x1++x2) #[] (List.replicate (if BT.toArray.isEmpty=true then 0 else k.toNat) BT.toArray)=(List.replicate k.toNat BT).flatten.toArray:=by
  have f0:∀m:Nat,List.foldl (λx1 x2=>x1++x2) #[] (List.replicate m BT.toArray)=(List.replicate m BT).flatten.toArray:=λm=>by have:=foldl_rep BT m [];rw[Ke]at this;exact this
  rw[f0];cases BT with
  | nil=>simp
  | cons a r'=>rw[aC (by simp)]
 refine wpAny_binaryOp_repeat_ref (T:="list") (U:="int") (by decide) ⟨_,e,Z⟩ (λs'=>typeIs_int s' k t) noFill_list_mul F.fills_int_mul F.slot_int_rmul repeat_list F.slot_int_index.lookup
  (call_meets F.slot_int_rmul (typeIs_int s k t) F.entry_int_rmul (F.args_int_rmul_2 _ _) (int___rmul___int_list k t l BT.toArray n)
    ⟨e,Z,⟨_,e,Z⟩,call_meets F.slot_list_mul ⟨_,e,Z⟩ F.entry_list_mul (F.args_list_mul_2 _ _) (AutoListH.list___mul___list_int_3 l BT.toArray n k t hfit hcap aeX) ⟨e,?_⟩⟩)
 rw[hnew];exact⟨.ref _,_,I.aba (t':=s.toks) (r.rep k.toNat) (by rw[len_rep,Nat.mul_comm];exact hz),Z,q _ I.fresh⟩
end
section
variable {prog:Program}{w:World}{A:Around}{E:VS}{s:Shared}
set_option maxRecDepth 100000 in
end
section
variable {X:Cx}
end
section
variable {κ:Type}[DecidableEq κ]
noncomputable def dY(AT:Da (κ×V))(k:κ):Option V:=(AT.find? λkv=>decide (kv.1=k)).map (·.2)
noncomputable def putK(AT:Da (κ×V))(k:κ)(v:V):Da (κ×V):=if(AT.any λkv=>decide (kv.1=k))=true then AT.map (λkv=>if kv.1=k then(kv.1,v) else kv) else AT++[(k,v)]
noncomputable def mV(AT:Da (κ×V))(k:κ):Da (κ×V):=AT.filter λkv=>decide (kv.1≠k)
def gE{p:κ×V}{r:Da (κ×V)}{k:κ}(e:p.1=k):dY (p::r) k=some p.2:=by simp[dY,uC,e]
def eY{p:κ×V}{r:Da (κ×V)}{k:κ}(e:¬ p.1=k):dY (p::r) k=dY r k:=by simp[dY,uC,e]
theorem qK(k:κ):∀AT:Da (κ×V),(AT.any λkv=>decide (kv.1=k))=(dY AT k).isSome
 | []=>rfl
 | p::r=>by
  rw[DC];by_cases e:p.1=k
  .simp only[gE e,bL e,Bool.true_or,Ru]
  .rw [eY e,c8 e,Bool.false_or];exact qK k r
theorem K8(k j:κ)(y:V):∀AT:Da (κ×V),dY (AT.map λkv=>if kv.1=k then(kv.1,y) else kv) j=(dY AT j).map λx=>if j=k then y else x
 | []=>rfl
 | p::r=>by
  have ih:=K8 k j y r;rw[cO];by_cases h:p.1=k
  .rw [aB h];by_cases e:p.1=j
   .rw [gE (p:=(p.1,y)) e,gE e,Kf,aB (e.symm.trans h)]
   .rw [eY (p:=(p.1,y)) e,eY e,ih]
  .rw [aC h];by_cases e:p.1=j
   .rw [gE (p:=p) e,gE e,Kf,aC (λz=>h (e.trans z))]
   .rw [eY (p:=p) e,eY e,ih]
theorem HD(k j:κ)(y:V):∀AT:Da (κ×V),dY AT k=none->dY (AT++[(k,y)]) j=if j=k then some y else dY AT j
 | [],_=>by
  by_cases e:k=j
  .rw [aB e.symm];exact gE (p:=(k,y)) e
  .rw [aC (λz=>e z.symm)];exact eY (p:=(k,y)) e
 | p::r,hn=>by
  rw[Kc];have hk:¬ p.1=k:=λz=>by rw[gE z]at hn;cases hn
  rw[eY hk]at hn;have ih:=HD k j y r hn;by_cases e:p.1=j
  .rw [gE e,gE e,aC (λz=>hk (e.trans z))]
  .rw [eY e,eY e,ih]
def Wc(AT:Da (κ×V))(k j:κ)(y:V):dY (putK AT k y) j=if j=k then some y else dY AT j:=by
 unfold putK;by_cases a:(AT.any λkv=>decide (kv.1=k))=true
 .rw [aB a,K8];rw[qK]at a;by_cases e:j=k
  .obtain ⟨x,hx⟩:=Option.isSome_iff_exists.mp a;rw[aB e,e,hx,Kf,aB rfl]
  .rw [aC e];cases dY AT j with
   | none=>rfl
   | some x=>rw[Kf,aC e]
 .rw [aC a];refine HD k j y AT ?_;rw[qK]at a;cases q:dY AT k with
  | none=>rfl
  | some x=>rw[q]at a;exact(a rfl).elim
theorem nG(AT:Da (κ×V))(k:κ)(v:V):(putK AT k v).length<=AT.length+1:=by
 unfold putK;split
 .rw [aF];omega
 .rw [cX,jz,List.length_nil];omega
def mz{AT:Da (κ×V)}{k:κ}(v:V)(h:dY AT k=none):putK AT k v=AT++[(k,v)] :=by unfold putK;rw[qK,h];exact aC (by decide)
def nh.oU{o:Option V}{u:Option Value}(r:nh o u):o.isSome=u.isSome:=by
 cases o with
 | none=>cases u with
   | none=>rfl
   | some _=>exact(show False from r).elim
 | some _=>cases u with
   | none=>exact(show False from r).elim
   | some _=>rfl
def KV.val{AT:Da (κ×V)}{vs:Da (κ×Value)}(r:KV AT vs)(k:κ):nh (dY AT k) (valueAt vs k):=by
 unfold KV at r
 induction r with
 | nil=>exact True.intro
 | @cons p q ps qs h t ih=>
  obtain⟨h1,h2⟩:=h;by_cases e:p.1=k
  .have e':q.1=k:=h1.symm.trans e;have b:valueAt (q::qs) k=some q.2:=by simp[valueAt,uC,e']
   rw[gE e,b];exact h2
  .have e':¬ q.1=k:=λz=>e (h1.trans z);have b:valueAt (q::qs) k=valueAt qs k:=by simp[valueAt,uC,e']
   rw[eY e,b];exact ih
theorem KV.any{AT:Da (κ×V)}{vs:Da (κ×Value)}(r:KV AT vs)(k:κ):(AT.any λkv=>decide (kv.1=k))=vs.any λkv=>decide (kv.1=k):=by
 unfold KV at r
 induction r with
 | nil=>rfl
 | cons h t ih=>rw[DC,DC,ih,h.1]
def KV.repl{AT:Da (κ×V)}{vs:Da (κ×Value)}(r:KV AT vs)(k:κ)(ry:RelV y u):KV (AT.map λkv=>if kv.1=k then(kv.1,y) else kv) (vs.map λkv=>if kv.1=k then(kv.1,u) else kv):=by
 unfold KV at r ⊢
 induction r with
 | nil=>exact .nil
 | @cons p q ps qs h t ih=>
  rw[cO,cO];refine .cons ?_ ih;obtain⟨h1,h2⟩:=h;by_cases e:p.1=k
  .rw [aB e,aB (h1.symm.trans e)];exact⟨h1,ry⟩
  .rw [aC e,aC (λz=>e (h1.trans z))];exact⟨h1,h2⟩
def KV.put{AT:Da (κ×V)}{vs:Da (κ×Value)}(r:KV AT vs)(k:κ)(ry:RelV y u):KV (putK AT k y) (stored vs k u):=by
 unfold putK stored;rw[r.any k];by_cases e:(vs.any λkv=>decide (kv.1=k))=true
 .rw [aB e,aB e];exact r.repl k ry
 .rw [aC e,aC e];exact Paired.snoc r ⟨Z,ry⟩
def KV.drop{AT:Da (κ×V)}{vs:Da (κ×Value)}(r:KV AT vs)(k:κ):KV (mV AT k) (without vs k):=by
 unfold KV at r ⊢;unfold mV without
 induction r with
 | nil=>exact .nil
 | @cons p q ps qs h t ih=>
  obtain⟨h1,h2⟩:=h;rw[gk,gk];by_cases e:p.1=k
  .have a:¬ decide (p.1≠k)=true:=by simp[e]
   have b:¬ decide (q.1≠k)=true:=by simp[h1.symm.trans e]
   rw[aC a,aC b];exact ih
  .have e':¬ q.1=k:=λz=>e (h1.trans z);have a:decide (p.1≠k)=true:=by simp[e]
   have b:decide (q.1≠k)=true:=by simp[e']
   rw[aB a,aB b];exact .cons ⟨h1,h2⟩ ih
theorem KV.length{AT:Da (κ×V)}{vs:Da (κ×Value)}(r:KV AT vs):AT.length=vs.length:=Paired.length r
def Wd(AT:Da (κ×V))(k:κ):(mV AT k).length<=AT.length:=List.length_filter_le _ _
end
variable {P:Program}
def wO{w:World}{k:Key}(r:RelV (kV k) u):(dh P w).is k u=true:=by
 cases k with
 | inl i=>obtain⟨t,e⟩:=(show ∃t,u=Value.int i t from r);subst e;exact N_ P w i t
 | inr x=>obtain⟨t,e⟩:=(show ∃t,u=Value.str x t from r);subst e;exact Oa P w x t
theorem HG{P:Program}{w:World}:∀{ks:Da Key}{us:Da Value},Vals (ks.map kV) us->ItemsAre (dh P w) ks us
 | [],_,r=>by rw[List.map_nil]at r;cases r;exact .nil
 | k::ks,_,r=>by
  rw[cO]at r;cases r with
  | cons h t=>exact .cons (wO h) (HG t)
abbrev KT(H:Hp):Da (Da Key×V)->Da (Da Key×Addr×Value)->Prop:=Paired λp q=>p.1=q.1/\H q.2.1=some (.tup (p.1.map kV))/\RelV p.2 q.2.2
def KT.val{AT:Da (Da Key×V)}{xs:Da (Da Key×Addr×Value)}(r:KT H AT xs)(k:Da Key):nh (dY AT k) ((atKey xs k).map (·.2)):=by
 induction r with
 | nil=>exact True.intro
 | @cons p q ps qs h t ih=>
  obtain⟨h1,_,h2⟩:=h;by_cases e:p.1=k
  .have e':q.1=k:=h1.symm.trans e;have b:atKey (q::qs) k=some q.2:=by simp[atKey,uC,e']
   rw[gE e,b];exact h2
  .have e':¬ q.1=k:=λz=>e (h1.trans z);have b:atKey (q::qs) k=atKey qs k:=by simp[atKey,uC,e']
   rw[eY e,b];exact ih
def KT.repl{AT:Da (Da Key×V)}{xs:Da (Da Key×Addr×Value)}(r:KT H AT xs)(k:Da Key)(ry:RelV y u):KT H (AT.map λkv=>if kv.1=k then(kv.1,y) else kv) (xs.map (putAt k u)):=by
 induction r with
 | nil=>exact .nil
 | @cons p q ps qs h t ih=>
  rw[cO,cO];refine .cons ?_ ih;obtain⟨h1,h2,h3⟩:=h;unfold putAt;by_cases e:p.1=k
  .rw [aB e,aB (h1.symm.trans e)];exact⟨h1,h2,ry⟩
  .rw [aC e,aC (λz=>e (h1.trans z))];exact⟨h1,h2,h3⟩
variable {b:Addr}
def KT.put{AT:Da (Da Key×V)}{xs:Da (Da Key×Addr×Value)}(r:KT H AT xs)(k:Da Key)(hb:H b=some (.tup (k.map kV)))(ry:RelV y u):KT H (putK AT k y) (storedH xs k b u):=by
 have e:(AT.any λkv=>decide (kv.1=k))=(atKey xs k).isSome:=by rw[qK,(r.val k).oU,Option.isSome_map]
 unfold putK storedH;rw[e];by_cases q:(atKey xs k).isSome=true
 .rw [aB q,aB q];exact r.repl k ry
 .rw [aC q,aC q];exact Paired.snoc r ⟨Z,hb,ry⟩
variable {H':Hp}
def KT.keeps{AT:Da (Da Key×V)}{xs:Da (Da Key×Addr×Value)}(r:KT H AT xs)(ht:∀b ys,H b=some (.tup ys)->H' b=some (.tup ys)):KT H' AT xs:=Paired.VP r λ_ _ z=>⟨z.1,ht _ _ z.2.1,z.2.2⟩
variable {AT:Da (Key×V)}
section
variable {P:Program}{w:World}{H:Hp}{h:Heap}{a:Addr}
def XW{u:HO}(ok:ig P w H h)(e:Rd H a u):e_ P w H h a u:=e.ok ok
def rT(ok:ig P w H h)(e:Rd H a (.dK AT)):AT.length<=sizeLine/\(a==sysModules)=false/\∃vs,KV AT vs/\h.DictOf (dh P w) a vs:=
 show e_ P w H h a (.dK AT)from XW ok e
def yM(ok:ig P w H h)(e:H a=some (.dK AT)):AT.length<=sizeLine/\(a==sysModules)=false/\∃vs,KV AT vs/\h.DictOf (dh P w) a vs:=rT ok (.inl e)
def Am{ks:Da Key}(ok:ig P w H h)(e:H a=some (.tup (ks.map kV))):(tupleKind (dh P w)).is h ks a:=by
 obtain⟨_,BT,r,o,h1,h2,n,h3⟩:=(show e_ P w H h a (.tup (ks.map kV))from ok a _ e)
 exact⟨o,BT.toArray,n,h1,h2,h3,by simpa using HG r⟩
def BF{AT:Da (Da Key×V)}(ok:ig P w H h)(e:Rd H a (.dT AT)):AT.length<=sizeLine/\(a==sysModules)=false/\∃xs,KT H AT xs/\h.DictOfH (tupleKind (dh P w)) a xs:=by
 obtain⟨z,y,xs,r,o,es,ep,h1,h2,h3,h4,h5⟩:=(show e_ P w H h a (.dT AT)from XW ok e)
 refine⟨z,y,xs,r,o,es,ep,h1,h2,h3,h4,λx hx=>?_,h5⟩;have all:∀{l:Da (Da Key×V)}{m:Da (Da Key×Addr×Value)},KT H l m->∀x∈m,(tupleKind (dh P w)).is h x.1 x.2.1:=by
  intro l m q
  induction q with
  | nil=>intro x hx;exact nomatch hx
  | @cons p q ps qs hq t ih=>
   intro x hx;rcases b_.mp hx with e|hx
   .subst e;exact Am ok (by rw[<-hq.1];exact hq.2.1)
   .exact ih x hx
 exact all r x hx
def aeY{AT:Da (Da Key×V)}(ok:ig P w H h)(e:H a=some (.dT AT)):AT.length<=sizeLine/\(a==sysModules)=false/\∃xs,KT H AT xs/\h.DictOfH (tupleKind (dh P w)) a xs:=BF ok (.inl e)
end
def dS(H:Hp)(a:Addr)(y:V)(r:Option V):Prop:=(∃AT k,Rd H a (.dK AT)/\y=kV k/\r=dY AT k)\/∃AT k b,Rd H a (.dT AT)/\y =.ref b/\H b=some (.tup (k.map kV))/\r=dY AT k
def xF(H:Hp)(a:Addr)(y v:V)(H':Hp):Prop:=(∃AT k,H a=some (.dK AT)/\y=kV k/\AT.length<sizeLine/\H'=upd H a (.dK (putK AT k v)))\/
 ∃AT k b,H a=some (.dT AT)/\y =.ref b/\H b=some (.tup (k.map kV))/\AT.length<sizeLine/\H'=upd H a (.dT (putK AT k v))
variable {a:Addr}
theorem dS.k{k:Key}(e:H a=some (.dK AT)):dS H a (kV k) (dY AT k):=.inl ⟨AT,k,.inl e,Z,Z⟩
theorem xF.k{k:Key}{v:V}(e:H a=some (.dK AT))(hl:AT.length<sizeLine):xF H a (kV k) v (upd H a (.dK (putK AT k v))):=.inl ⟨AT,k,e,Z,hl,Z⟩
variable {h':Heap}{Q:Unit->Shared->Prop}
section
variable {X:Cx}{AC:AO}{σ:St}{H:Hp}{s:Shared}{a:Addr}{y v:V}{u r:Value}{o:Option V}{A:Around}{E:VS}
def Inv.big(I:Inv X AC σ H s):sysModules<s.heap.objs.size:=by have h:mainGlobals<s.heap.objs.size:=(I.mod.glob.keeps I.bk).lt;exact Nat.lt_trans (by decide) h
def Tz{Q:VS}(hu:A.units+1<cLine)(I:Inv X AC σ H s)(g:dS H a y (some v))(ry:RelV y u)(h:∀w' s',Inv X AC σ H s'->RelV v w'->Q w' s'):wpAny (model X.prog X.w) A (getItem (.ref a) u) Q E s:=by
 rcases g with⟨AT,k,e,ey,l⟩|⟨AT,k,b,e,ey,eb,l⟩
 .subst ey;obtain⟨z,hd,vs,rel,dd⟩:=rT I.hok e;obtain⟨w',hw,rw'⟩:=nh.some_of (v:=v) (o:=valueAt vs k) (by rw[l];exact rel.val k);exact wpAny_getItem_of (wO ry) dd.mapOf hw (h w' _ (I.tok _) rw')
 .subst ey;cases(show u=Value.ref b from ry);obtain⟨z,hd,xs,rel,dd⟩:=BF I.hok e;obtain⟨w',hw,rw'⟩:=nh.some_of (v:=v) (o:=(atKey xs k).map (·.2)) (by rw[l];exact rel.val k);obtain⟨p,hp,hp2⟩:=kH.mp hw;refine wpAny_getItem_heap (Rv hu) (Am I.hok eb) dd hp ?_;rw[hp2];exact h w' _ (I.tok _) rw'
def aiN{Q:VS}(hu:A.units+1<cLine)(I:Inv X AC σ H s)(g:dS H a y o)(ry:RelV y u)(h:∀s',Inv X AC σ H s'->Q (.bool o.isSome) s'):wpAny (model X.prog X.w) A (compareOp .In u (.ref a)) Q E s:=by
 rcases g with⟨AT,k,e,ey,l⟩|⟨AT,k,b,e,ey,eb,l⟩
 .subst ey;obtain⟨z,hd,vs,rel,dd⟩:=rT I.hok e;refine wpAny_in_of (wO ry) hd dd.mapOf ?_;rw[<-(rel.val k).oU,<-l];exact h _ (I.tok _)
 .subst ey;cases(show u=Value.ref b from ry);obtain⟨z,hd,xs,rel,dd⟩:=BF I.hok e;refine wpAny_in_heap (Rv hu) (Am I.hok eb) hd dd ?_;have q:=(rel.val k).oU;rw[Option.isSome_map]at q;rw[<-q,<-l];exact h _ (I.tok _)
def Zj{Q:VS}(hu:A.units+1<cLine)(I:Inv X AC σ H s)(g:dS H a y o)(ry:RelV y u)(h:∀s',Inv X AC σ H s'->Q (.bool (!o.isSome)) s'):wpAny (model X.prog X.w) A (compareOp .NotIn u (.ref a)) Q E s:=by
 rcases g with⟨AT,k,e,ey,l⟩|⟨AT,k,b,e,ey,eb,l⟩
 .subst ey;obtain⟨z,hd,vs,rel,dd⟩:=rT I.hok e;refine wpAny_notIn_of (wO ry) hd dd.mapOf ?_;rw[<-(rel.val k).oU,<-l];exact h _ (I.tok _)
 .subst ey;cases(show u=Value.ref b from ry);obtain⟨z,hd,xs,rel,dd⟩:=BF I.hok e;refine wpAny_notIn_heap (Rv hu) (Am I.hok eb) hd dd ?_;have q:=(rel.val k).oU;rw[Option.isSome_map]at q;rw[<-q,<-l];exact h _ (I.tok _)
def ya(I:Inv X AC σ H s)(mu:SV (H a))(hs:Heap.SameBut a s.heap h')(he:∃q,h'.get? a=some q)(new:e_ X.prog X.w (upd H a ob) h' a ob):Inv X AC σ (upd H a ob) { s with heap:=h',toks:=t' }:=I.write (x:=a) (e:=a) mu (.inl rfl) (λb q hb z=>(hs.2 b hb).trans z) he new
def Ao{w:World}{vs:Da (Key×Value)}(z:AT.length<=sizeLine)(hd:(a==sysModules)=false)(rel:KV AT vs)(dd:h'.DictOf (dh P w) a vs):e_ P w H' h' a (.dK AT):=⟨z,hd,vs,rel,dd⟩
theorem TF(hu:A.units+1<cLine)(I:Inv X AC σ H s)(g:xF H a y v H')(ry:RelV y u)(rv:RelV v r)(h:∀s',Inv X AC σ H' s'->Q () s'):wpAny (model X.prog X.w) A (setItem (.ref a) u r) Q E s:=by
 rcases g with⟨AT,k,e,ey,l,eH⟩|⟨AT,k,b,e,ey,eb,l,eH⟩
 .subst ey eH;obtain⟨z,hd,vs,rel,dd⟩:=yM I.hok e;have hz:vs.length<=sizeLine:=by rw[<-rel.length];exact z
  have hl:(putK AT k v).length<=sizeLine:=by have:=nG AT k v;omega
  refine wpAny_setItem_pairs (hsz:=hz) (wO ry) dd λh' u9 hs=>h _ ?_;have he:∃q,h'.get? a=some q:=let⟨q,_,_,hq,_⟩:=u9;⟨q,hq⟩;exact ya I (by rw[e];exact True.intro) hs he (Ao hl hd (rel.put k rv) u9)
 .subst ey eH;cases(show u=Value.ref b from ry);obtain⟨z,hd,xs,rel,dd⟩:=aeY I.hok e;have hz:xs.length<=sizeLine:=by rw[<-Paired.length rel];exact z
  have hl:(putK AT k v).length<=sizeLine:=by have:=nG AT k v;omega
  refine wpAny_setItem_heap (hsz:=hz) (Rv hu) (Am I.hok eb) dd λh' u9 hs=>h _ ?_;obtain⟨q,es,ep,hq,h2,h3,h4,_,h5⟩:=u9;refine ya I (by rw[e];exact True.intro) hs ⟨q,hq⟩ ⟨hl,hd,_,(rel.put k eb rv).keeps λc ys ec=>?_,q,es,ep,hq,h2,h3,h4,h5⟩;rw[au (i8 ec e (λz=>nomatch z))];exact ec
end
section
variable {X:Cx}{AC:AO}{σ:St}{H:Hp}{s:Shared}{a:Addr}{AT:Da (Key×V)}{k:Key}{u:Value}{A:Around}{E:VS}
def TH(I:Inv X AC σ H s)(e:H a=some (.dK AT))(ry:RelV (kV k) u)(l:(dY AT k).isSome=true)(h:∀s',Inv X AC σ (upd H a (.dK (mV AT k))) s'->Q () s'):wpAny (model X.prog X.w) A (delItem (.ref a) u) Q E s:=by
 obtain⟨z,hd,vs,rel,dd⟩:=yM I.hok e;refine wpAny_delItem_slot dd.typeIs (by decide) PySem.F.slot_dict_delitem
  (call_meetsIn PySem.F.slot_dict_delitem dd.typeIs PySem.F.entry_dict_delitem (PySem.F.args_dict_delitem_2 _ _) (meets_dict_delitem_pairs (dh X.prog X.w) a (wO ry)) ⟨vs,dd,by rw[<-rel.length];exact z,by rw[<-(rel.val k).oU];exact l,λh' u9 hs=>h _ ?_⟩)
 have he:∃q,h'.get? a=some q:=let⟨q,_,_,hq,_⟩:=u9;⟨q,hq⟩;exact ya I (by rw[e];exact True.intro) hs he (Ao (gD (Wd AT k) z) hd (rel.drop k) u9)
theorem aeZ{Q:VS}(I:Inv X AC σ H s)(e:Rd H a (.dK AT))(h:∀t s',Inv X AC σ H s'->Q (.int AT.length t) s'):wpAny (model X.prog X.w) A (call (.builtin "len") [.ref a]) Q E s:=by obtain⟨z,hd,vs,rel,dd⟩:=rT I.hok e;refine call_len_dict hd dd (by rw[<-rel.length];rw[jY]at z;omega) ?_;rw[<-rel.length];exact h _ _ (I.tok _)
end
def abc(i:Expr):Prop:=∀ov iv,subscripted i false ov iv=operate [ov,iv] (getItem ov iv)
variable {E:VS}{env:Env}{value:Expr}{pos:Pos}{id:String}
theorem Zk{prog:Program}{w:World}{A:Around}{slice:Expr}{T:String}{Q:VS}(hl:typeLookup (.type T) "__getitem__"=pure (some (.builtin id)))(hs:abc slice)(h:wpAny (model prog w) A (eval value env) (λo s₁=>wpAny (model prog w) A (eval slice env) (λi s₂=>s₂.TypeIs o T/\wpAny (model prog w) A (getItem o i) Q E s₂) E s₁) E s):
  wpAny (model prog w) A (eval (.Subscript value slice pos) env) Q E s:=by
 refine Subscript_ (fq h (λo s₁ h₁=>fq h₁ (λi s₂ h₂=>?_) λ_ _ x=>x) λ_ _ x=>x)
 obtain⟨hT,h₂⟩:=h₂
 unfold subscriptTail
 refine az ?_
 rw[getitemInPython_of_ne hT.not_modules]
 refine az (wpAny_specialOf hT hl ?_)
 have fin:wpAny (model prog w) A (subscripted slice false o i) (λr s₃=>wpAny (model prog w) A (letTemporaryGo value o r >>= λ_=>pure r) Q E s₃) E s₂:=by rw[hs o i];exact wpAny_operating (fq h₂ (λr s₃ h₃=>az (wpAny_letTemporaryGo (aT h₃))) λ_ _ x=>x)
 first
  | exact aT (az fin)
  | exact az (aT (az fin))
  | exact az fin
variable {X:Cx}
def Ob{o:Option V}(I:Inv X AC σ H s)(g:dS H a y o):s.TypeIs (.ref a) "dict":=by
 rcases g with⟨AT,k,e,_,_⟩|⟨AT,k,b,e,_,_,_⟩
 .obtain ⟨_,_,vs,_,dd⟩:=rT I.hok e;exact dd.typeIs
 .obtain ⟨_,_,xs,_,dd⟩:=BF I.hok e;exact dd.typeIs
inductive We(Q:VK)(x:V)(y:V)(H2:Hp):Prop
 |mk(a v:_)(_:x =.ref a)(_:dS H2 a y (some v))(_:Q v H2)
def abd(ty:TE)(σ:St)(Q:VK):V->Hp->Prop:=λx H1=>ty σ H1 (We Q x)
def XX(td ty:TE):TE:=λσ H Q=>td σ H (abd ty σ Q)
inductive Zl(Q:VK)(y:V)(x:V)(H2:Hp):Prop
 |mk(a o:_)(_:x =.ref a)(_:dS H2 a y o)(_:Q (.bl o.isSome) H2)
def ae0(td:TE)(σ:St)(Q:VK):V->Hp->Prop:=λy H1=>td σ H1 (Zl Q y)
def aiO(ty td:TE):TE:=λσ H Q=>ty σ H (ae0 td σ Q)
inductive RQ(Q:VK)(y:V)(x:V)(H2:Hp):Prop
 |mk(a o:_)(_:x =.ref a)(_:dS H2 a y o)(_:Q (.bl (!o.isSome)) H2)
def Wg(td:TE)(σ:St)(Q:VK):V->Hp->Prop:=λy H1=>td σ H1 (RQ Q y)
def Zm(ty td:TE):TE:=λσ H Q=>ty σ H (Wg td σ Q)
inductive Wh(D:Ends)(σ:St)(v:V)(x:V)(y:V)(H3:Hp):Prop
 |mk(a H4:_)(_:x =.ref a)(_:xF H3 a y v H4)(_:D.nx σ H4)
def Wi(ty:TE)(D:Ends)(σ:St)(v:V):V->Hp->Prop:=λx H2=>ty σ H2 (Wh D σ v x)
def abe(td:TE)(ty:TE)(D:Ends)(σ:St):V->Hp->Prop:=λv H1=>td σ H1 (Wi ty D σ v)
def ae1(td ty tv:TE):TS:=λD σ H=>tv σ H (abe td ty D σ)
inductive Wj(D:Ends)(σ:St)(x:V)(y:V)(H2:Hp):Prop
 |mk(a AT k:_)(_:x =.ref a)(_:H2 a=some (.dK AT))(_:y=kV k)(_:(dY AT k).isSome=true)(_:D.nx σ (upd H2 a (.dK (mV AT k))))
def abf(ty:TE)(D:Ends)(σ:St):V->Hp->Prop:=λx H1=>ty σ H1 (Wj D σ x)
def ae2(td ty:TE):TS:=λD σ H=>td σ H (abf ty D σ)
section
variable {X:Cx}{o i e value:Expr}{pos pos' tpos:Pos}{td ty tv:TE}
end
def CH{w:World}(h:Heap)(hb:sysModules<h.objs.size):e_ P w H (h.push { cls:=.type "dict",data:=.dict #[] }) h.objs.size (.dK []):=⟨fm _,Cu.mpr (bB (d7 hb)),[],.nil,Heap.DictOf.new h⟩
def abg:TE:=λ_ H Q=>∀p,H p=none->Q (.ref p) (upd H p (.dK []))
section
variable {X:Cx}{pos:Pos}
end
noncomputable def Aq:Da (TE×TE)->St->Hp->(Da (V×V)->Hp->Prop)->Prop
 | [],_,H,Q=>Q [] H
 | (tk,tv)::r,σ,H,Q=>tk σ H λx H1=>tv σ H1 λy H2=>Aq r σ H2 λps H3=>Q ((x,y)::ps) H3
abbrev VV:Da (V×V)->Da (Value×Value)->Prop:=Paired λp q=>RelV p.1 q.1/\RelV p.2 q.2
def PPs(X:Cx)(pos:Pos)(keys:Da (Option Expr))(values:Da Expr)(DQ:Da (TE×TE)):Prop:=∀(AC:AO)(s:Shared)(σ:St)(H:Hp)(Q:Da (V×V)->Hp->Prop),Inv X AC σ H s->Aq DQ σ H Q->wpAny (model X.prog X.w) X.A (evalPairs (pairTrees keys values X.env pos)) (λvs s'=>∃ps H',Inv X AC σ H' s'/\VV ps vs/\Q ps H') X.xe s
noncomputable def u_(AT more:Da (Key×V)):Da (Key×V):=more.foldl (λAp kv=>putK Ap kv.1 kv.2) AT
def KV.merge:∀{more:Da (Key×V)}{rs:Da (Key×Value)}{AT:Da (Key×V)}{vs:Da (Key×Value)},KV more rs->KV AT vs->KV (u_ AT more) (merged vs rs):=by
 intro more rs AT vs r;unfold KV at r
 induction r generalizing AT vs with
 | nil=>intro q;exact q
 | @cons p q ps qs h t ih=>
  intro r0;have e:KV (putK AT p.1 p.2) (stored vs q.1 q.2):=by have:=r0.put p.1 h.2;rw[<-h.1];exact this
  exact ih e
theorem zW:∀(more AT:Da (Key×V)),(u_ AT more).length<=AT.length+more.length
 | [],AT=>by show AT.length<=AT.length+0;omega
 | p::r,AT=>by have h1:=zW r (putK AT p.1 p.2);have h2:=nG AT p.1 p.2;show(u_ (putK AT p.1 p.2) r).length<=_;rw[jz];omega
theorem DR{P:Program}{w:World}:∀{AT:Da (Key×V)}{ws:Da (Value×Value)},VV (AT.map λkv=>(kV kv.1,kv.2)) ws->∃rs,Carries (dh P w) ws rs/\KV AT rs
 | [],_,r=>by rw[List.map_nil]at r;cases r;exact⟨[],True.intro,.nil⟩
 | p::AT,_,r=>by
  rw[cO]at r;cases r with
  | @cons a b as bs h t=>obtain⟨rs,c,q⟩:=DR (P:=P) (w:=w) t;obtain⟨b1,b2⟩:=b;exact⟨(p.1,b2)::rs,⟨wO h.1,Z,c⟩,.cons ⟨Z,h.2⟩ q⟩
def ae3(DQ:Da (TE×TE)):TE:=λσ H Q=>∀p,H p=none->Aq DQ σ (upd H p (.dK [])) λps H2=>H2 p=some (.dK [])/\∃AT:Da (Key×V),ps=AT.map (λkv=>(kV kv.1,kv.2))/\AT.length<=15/\Q (.ref p) (upd H2 p (.dK (u_ [] AT)))
def IsD(H:Hp)(a:Addr):Prop:=(∃AT,Rd H a (.dK AT))\/∃AT,Rd H a (.dT AT)
def K9(I:Inv X AC σ H s)(d:IsD H a):s.TypeIs (.ref a) "dict"/\(∀b,Value.ref a =.ref b->∃ob,s.heap.get? b=some ob/\ob.dict=none)/\(a==sysModules)=false:=by
 rcases d with⟨AT,e⟩|⟨AT,e⟩
 .obtain ⟨_,hd,vs,_,dd⟩:=rT I.hok e;refine⟨dd.typeIs,λb q=>?_,hd⟩;cases q;obtain⟨ob,_,_,h1,h2,_⟩:=dd;exact⟨ob,h1,h2.2.1⟩
 .obtain ⟨_,hd,xs,_,dd⟩:=BF I.hok e;refine⟨dd.typeIs,λb q=>?_,hd⟩;cases q;obtain⟨ob,_,_,h1,h2,_⟩:=dd;exact⟨ob,h1,h2.2.1⟩
section
variable {X:Cx}{AC:AO}{σ:St}{H:Hp}{s:Shared}{a:Addr}{y d:V}{u r:Value}{o:Option V}{A:Around}{E:VS}
end
section
variable {X:Cx}{o e f:Expr}{Bz cpos:Pos}{td ty tx:TE}
end
section
variable {X:Cx}{AC:AO}{σ:St}{H:Hp}{s:Shared}{a:Addr}{AT:Da (Key×V)}{A:Around}{E:VS}
end
section
variable {X:Cx}{AC:AO}{σ:St}{H:Hp}{s:Shared}{a:Addr}{y:V}{u:Value}{A:Around}{E:VS}
end
end L2
namespace Att
open PySem PySem.W PySem.Calls PyProof.Rows
def DS{P:Params}{h:Heap}:∀(ns:Da Int)(vs:Da Value),WellAll P h vs (ns.map WData.int)->IntsAre vs ns:=by
 intro ns
 induction ns with
 | nil=>intro vs w;rw[List.map_nil]at w;cases w;exact .nil
 | cons n ns ih=>
  intro vs w;rw[cO]at w;cases w with
  | cons a b=>cases a;exact .cons _ _ (ih _ b)
theorem TJ{l:OpenLaw}{n:Nat}(hn:l.most=some n){P:Params}{h:Heap}{args:Da WData}{vals:Da Value}(hpre:l.row.toRowW.claim.pre args=true)(hwl:WellAll P h vals args):
  ∃a vs ns,vals=[Value.ref a]/\args=[WData.list (ns.map WData.int)]/\h.get? a=some { cls:=.type "list",data:=.seq vs.toArray }/\IntsAre vs ns/\ns.length<=n:=by
 have hsh:WShape.hasAll [] args [.list .int]=true:=(pre_splitW hpre).1
 have hc:l.pre.holds [] { args:=args }=true:=(pre_splitW hpre).2
 obtain⟨d,r,rfl,h1,h2⟩:=hasAllW_cons hsh
 obtain rfl:=hasAllW_nil h2
 obtain⟨xs,rfl,h3⟩:=hasW_list h1
 obtain⟨ns,rfl⟩:=items_int h3
 have hlen:ns.length<=n:=by
  unfold OpenLaw.pre at hc;have h4:(WTm.not (.lt (.lit (.int (n:Int))) (.len (.arg 0)))).holds [] { args:=[.list (ns.map .int)] }=true:=by have h4:=(holds_andW hc).1;rw[hn]at h4;exact h4
  have h5:=condW_of h4 (w_not (w_lt w_lit (w_len_list (w_arg rfl))));rw[aF]at h5;refine Nat.le_of_not_lt λq=>?_;have q':(n:Int)<((ns.length:Nat):Int):=by omega
  first
   | (rw[bL q']at h5;exact absurd h5 (by decide))
   | (simp at h5;omega)
 cases hwl with
 | cons w1 w2=>
   cases w2
   cases w1 with
   | list ho hall=>exact⟨_,_,ns,Z,Z,ho,DS ns _ hall,hlen⟩
def TL(l:OpenLaw)(args:Da WData):l.row.toRowW.claim.post args (.bool true) args=true:=postW_of (r:=l.row.toRowW) (X:=(true==true))
  (show WShape.has [] (.bool true) .bool=true by first|rfl|decide|simp[WShape.has,WShape.arms,WShape.armsAll])
  (show(WTm.eq .res (.lit (.bool true))).value [] { args:=args,res:=some (.bool true),after:=args }=some (.bool (true==true))from w_eq_bool (w_res rfl) w_lit) rfl
def Oc{l:OpenLaw}{n:Nat}{q:Program}{loose:Da Str}{XP:(Str->Option Value)->Heap->Prop}{YP:World->Heap->Prop}{d:DefRec}(hn:l.most=some n)(hdf:d.params.defaults=[])(call:∀(w:World) (s₀ s₁:Shared) (mg mb:SO) (fa:Addr) (o:Obj) (pm cd doc:Value) (a:Addr) (vs:Da Value) (ns:Da Int),
    Ground q loose [] XP w s₀ mg mb s₁.heap->YP w s₁.heap->
    s₁.heap.get? fa=some o->o.data =.func (docDef d.name d.params d.body d.scope pm cd doc)->s₁.heap.CodeRec cd d.name->mg d.name=some (.ref fa)->
    s₁.heap.get? a=some { cls:=.type "list",data:=.seq vs.toArray }->IntsAre vs ns->ns.length<=n->s₁.gens=#[]->
    codeAny (model l.prog w) callerA (.call (.ref fa) ⟨[.ref a],[]⟩) (λr s'=>r =.ok (.ret (.bool true))/\OldK s₁.heap s'.heap/\s'.os=s₁.os/\AllBare s'.gens) s₁):
  WalkO q loose XP YP l.row.toRowW d [] (λf vs=>PySem.call f vs):=by
 intro w s₀ s₁ mg mb G Y fa o pm cd doc dV kV ho hd hcd hD hmg hg args vals as hpre hlay hrd hwl hlo
 obtain rfl:dV =.none:=Dflts.none hD hdf
 obtain rfl:kV =.none:=Dflts.noKw hD
 obtain⟨a,vs,ns,rfl,rfl,hobj,hints,hlen⟩:=TJ hn hpre hwl
 refine enter_call (Bv (call w s₀ s₁ mg mb fa o pm cd doc a vs ns G Y ho (fd_plain hd) hcd hmg hobj hints hlen hg) λr s' hq=>?_)
 obtain⟨rfl,h2,h3,h4⟩:=hq
 exact⟨.inl ⟨.bool true,.bool true,[],Z,λ_=>rfl,.bool true,TL l _,λ_=>⟨List.Pairwise.nil,λ_ hm=>(nomatch hm)⟩⟩,h2,h3,h4⟩
section
variable {prog:Program}{w:World}{A:Around}{E:VS}{s:Shared}{K:Frag}
end
end Att
namespace L2
open PySem PySem.Spec PyProof.Rows
theorem HJ:∀{vs:Da Value}{ns:Da Int},IntsAre vs ns->Vals (ns.map V.int) vs
 | _,_,.nil=> .nil
 | _,_,.cons n t h=> .cons ⟨t,Z⟩ (HJ h)
def Wl(H:Hp):Prop:=∀b,H b=none\/∃o xs,H b=some (.eX o (.lst xs))
variable {P:Program}{K:Fg}{mg:SO}{CX:zT}{a:Addr}{fd:FuncData}{x:Str}{sp:Sp}{ns:Da Int}
def Wm{w:World}{mb:SO}{k:Nat}{fa:Addr}{s₁:Shared}{vs:Da Value}(KX:K.In s₁.heap)(hns:s₁.heap.Ns mainGlobals mg)(hb:s₁.heap.Ns builtinsNs mb)(hbb:∀x:Str,x ≠ "__name__"->mb x=bootBuiltins x)(hlim:s₁.heap.NoLimit)(hg:s₁.gens=#[])(ha:s₁.heap.get? a=some { cls:=.type "list",data:=.seq vs.toArray })(hi:IntsAre vs ns)(hl:ns.length<=sizeLine)(hr:d8 k callerA)(F:∀base:Heap,K.In base->base.Ns mainGlobals mg->ja P w K mg base CX k fa fd [x] sp)(hbind:∀(s:Shared) (u:Value),BindsTo s fd ⟨[u],[]⟩ [(x,u)])(sQ:∀H:Hp,Wl H->aG K H a (ns.map V.int)->sp [.ref a] H (λv _=>v =.bl true) λ_ _ _=>False)(hCX:∀H e s',CX [] H s₁ (λ_ _ _=>False) e s'->False):
  codeAny (model P w) callerA (.call (.ref fa) ⟨[.ref a],[]⟩) (λr s'=>r =.ok (.ret (.bool true))/\OldK s₁.heap s'.heap/\s'.os=s₁.os/\AllBare s'.gens) s₁:=by
 have rv:=HJ hi
 have aiP:=hi.length
 have core:∀H:Hp,Wl H->aG K H a (ns.map V.int)->ig P w H s₁.heap->(∀b,H b≠none->b=a)->(H a≠none->K.lookup a=none)->
   codeAny (model P w) callerA (.call (.ref fa) ⟨[.ref a],[]⟩) (λr s'=>r =.ok (.ret (.bool true))/\OldK s₁.heap s'.heap/\s'.os=s₁.os/\AllBare s'.gens) s₁:=by
  intro H hO hS hok hA hK
  have PN:∀{b:Addr}{o:Obj},s₁.heap.get? b=some o->H b=none->(yI s₁.heap H).get? b=some o:=λe n=>VQ e n
  have Tp:∀{b:Addr}{o:Obj}{es:Array DictEntry}{ep:Nat},s₁.heap.get? b=some o->o.data =.dict es ep->H b=none:=λ{b o es ep} e d=>by
   cases q:H b with
   | none=>rfl
   | some u=>have e':b=a:=hA b (by rw[q];simp);subst e';rw[ha]at e;cases e;have d':Data.seq vs.toArray _=Data.dict es ep:=d;cases d'
  have XY:∀{b:Addr}{m:SO},s₁.heap.Ns b m->(yI s₁.heap H).Ns b m:=λ{b m} ⟨o,es,ep,e,d,r⟩=>⟨o,es,ep,PN e (Tp e d),d,r⟩
  have hKb:K.In (yI s₁.heap H):=λb o e=>PN (KX b o e) (by
   cases q:H b with
   | none=>rfl
   | some u=>have e':b=a:=hA b (by rw[q];simp);subst e';rw[hK (by rw[q];simp)]at e;cases e)
  have hM:Mod K mg (yI s₁.heap H):=⟨hKb,XY hns,⟨mb,XY hb,hbb⟩,let⟨mc,h1,h2⟩:=hlim;⟨mc,XY h1,h2⟩⟩
  have e0:CF P w K mg (yI s₁.heap H) callerA [] s₁ H:=⟨Z,hM,λb o e=>Y5 e,Nat.le_of_eq (SW _ _),trivial,λb hb=>absurd (show b∈([] :Da Addr)from hb) (by simp),hok,.of_eq hg⟩
  refine Bv ((F _ hKb (XY hns)).run callerA [] s₁ H ⟨[.ref a],[]⟩ [.ref a] [.ref a] _ _ hr e0 (hbind s₁ (.ref a)) (.cons rfl .nil) (sQ H hO hS)) λr s' h=>?_
  cases r with
  | error e=>exact(hCX H e s' h).elim
  | ok fl=>
    cases fl with
    | next=>exact False.elim h
    | brk=>exact False.elim h
    | cont=>exact False.elim h
    | ret u=>
      obtain⟨v,H',os,bare,un,aiQ,r',q⟩:=h
      have q':v =.bl true:=q
      subst q'
      obtain rfl:u=Value.bool true:=r'
      refine⟨Z,OldK.of_keep λb o e=>?_,os,bare⟩
      cases q:H b with
      | none=>exact un.keep b o e q (by intro z;exact absurd (show b∈([] :Da Addr)from z) (by simp)) (by simp)
      | some u=>
        rcases hO b with z|⟨ob,xs,z⟩
        . rw[q]at z;cases z
        . have z2:=un.pN b ob _ z
          obtain⟨e1,_⟩:=hok b _ z
          obtain⟨e2,_⟩:=aiQ b _ z2
          rw[e]at e1;cases e1
          exact e2
 cases hk:K.lookup a with
 | some o=>
   have e:=KX a o hk
   rw[ha]at e
   cases e
   refine core (λ_=>none) (λ_=> .inl rfl) (.inr ⟨_,vs.toArray,_,hk,Z,Z,Z,by rw[iR,aiP];exact hl,by simpa using rv⟩) (λb u z=>by have z':(none:Option HO)=some u:=z;cases z') (λb z=>absurd rfl z) λz=>absurd rfl z
 | none=>
   refine core (λb=>if b=a then some (.eX { cls:=.type "list",data:=.seq vs.toArray } (.lst (ns.map V.int))) else none) (λb=>?_) (.inl (.inr ⟨{ cls:=.type "list",data:=.seq vs.toArray },aB rfl⟩)) (λb u z=>?_) (λb z=>?_) λ_=>hk
   . by_cases hb:b=a
     . exact .inr ⟨_,_,aB hb⟩
     . exact .inl (aC hb)
   . by_cases hb:b=a
     . have z':=(aB hb).symm.trans z
       cases z'
       subst hb
       exact⟨ha,by rw[aF];exact hl,vs,_,rv,ha⟩
     . have z':=(aC hb).symm.trans z
       cases z'
   . by_cases hb:b=a
     . exact hb
     . exact absurd (aC hb) z
variable {XP:(Str->Option Value)->Heap->Prop}{YP:World->Heap->Prop}
def Zn{l:PySem.W.OpenLaw}{n k:Nat}{q:Program}{loose:Da Str}{d:DefRec}{K:Params->Fg}{CX:World->zT}{sp:World->Sp}(hn:l.most=some n)(hn2:n<=sizeLine)(hdf:d.params.defaults=[])(hr:d8 k callerA)(hY:∀(w:World) (h:Heap),YP w h->(K w.params).In h)(F:∀(w:World) (mg:SO) (fa:Addr) (h:Heap),(K w.params).In h->h.Ns mainGlobals mg->mg d.name=some (.ref fa)->
    ∃fd:FuncData,(∀(s:Shared) (u:Value),BindsTo s fd ⟨[u],[]⟩ [(x,u)])/\
     ∀base:Heap,(K w.params).In base->base.Ns mainGlobals mg->ja l.prog w (K w.params) mg base (CX w) k fa fd [x] (sp w))(sQ:∀(w:World) (H:Hp) (a:Addr) (ns:Da Int),ns.length<=n->Wl H->aG (K w.params) H a (ns.map V.int)->sp w [.ref a] H (λv _=>v =.bl true) λ_ _ _=>False)(hCX:∀(w:World) (H:Hp) (s:Shared) (e:Value) (s':Shared),CX w [] H s (λ_ _ _=>False) e s'->False):
  PySem.W.WalkO q loose XP YP l.row.toRowW d [] (λf vs=>PySem.call f vs):=by
 refine Att.Oc hn hdf λw s₀ s₁ mg mb fa o pm cd doc a vs ns G Y ho hd hcd hmg hobj hints hlen hg=>?_
 have KX:=hY w _ Y
 obtain⟨fd,hb,hF⟩:=F w mg fa _ KX G.T.g hmg
 exact Wm KX G.T.g G.T.b G.T.builtins G.T.nolimit hg hobj hints (gD hlen hn2) hr hF hb (λH hO hS=>sQ w H a ns hlen hO hS) λH e s'=>hCX w H s₁ e s'
noncomputable def inClass(s:Stmt)(j:Nat):Stmt:=match s with
 | .ClassDef _ _ _ body _ _ _ _ _ _ _=>body.getD j (.Pass ⟨0,0,0,0⟩)
 | _=> .Pass ⟨0,0,0,0⟩
noncomputable def fj(s:Stmt):Arguments:=match s with
 | .FunctionDef _ a _ _ _ _ _ _ _ _=>a
 | _=>{ posonlyargs:=[],args:=[],vararg:=none,kwonlyargs:=[],kw_defaults:=[],kwarg:=none,defaults:=[] }
noncomputable def cV(s:Stmt):Da Stmt:=match s with
 | .FunctionDef _ _ b _ _ _ _ _ _ _=>b
 | _=>[]
noncomputable def aD(s:Stmt):Scope:=match s with
 | .FunctionDef _ _ _ _ _ _ sc _ _ _=>sc
 | _=>{ kind:=.function,names:=[],isGenerator:=false,isCoroutine:=false }
abbrev uw:zT:=λ_ _ _ _ _ _=>False
abbrev E0:XK:=λ_ _ _=>False
structure HK(K:Fg)(x qual:Str)(st:Stmt)(f:Addr)(fd:FuncData):Prop where
 ex:∃(oc:Value)(od:Option Addr)(kV doc pm:Value)(an:Option Addr)(cdv ct:Value)(osl:Array (Option Value)),
  fd=PySem.W.fnOf x qual (fj st) (cV st) (aD st) .none kV doc pm an cdv ct/\K.lookup f=some ⟨oc,od,.func fd,osl⟩/\PySem.W.codeIn K cdv qual=true
 kp:PySem.W.keepIn K (.ref f)=true
variable {qual:Str}{f:Addr}{N ps:Da Str}{oc doc pm cdv ct:Value}{od an:Option Addr}{osl:Array (Option Value)}
section
variable {P:Program}{w:World}{K:Fg}{mg:SO}{base:Heap}
def HK.ok{st:Stmt}{k:Nat}(F:HK K x qual st f fd)(S:aM N ps (aD st))(len:∀vs H Q E,sp vs H Q E->vs.length=ps.length)(Ch:∀(cdv:Value) (A:Around) (outer:Da Env) (s:Shared) (H:Hp) (vs:Da V) (Q:VK) (E:XK),d8 k (A.deeper (envOfC qual (aD st) s.heap.objs.size f cdv))->sp vs H Q E->
    ∃t,uu (dM uw P w K mg base N qual (aD st) f cdv A outer s H E).Cc (cV st) t/\t { nx:=λ_ H'=>Q .cI H',rt:=Q } (start N vs) H):ja P w K mg base uw (k+1) f fd ps sp:=by
 obtain⟨oc,od,kV,doc,pm,an,cdv,ct,osl,rfl,lk,hcd⟩:=F.ex
 refine XU lk hcd S len λA outer s H vs Q E hr sQ=>?_
 obtain⟨t,h,q⟩:=Ch cdv A outer s H vs Q E hr sQ
 exact⟨t,h.Cc,q⟩
def HK.binds{st:Stmt}(F:HK K x qual st f fd)(h:∀(kV doc pm:Value) (an:Option Addr) (cdv ct:Value) (us:Da Value),us.length=ps.length->bindArgs (PySem.W.fnOf x qual (fj st) (cV st) (aD st) .none kV doc pm an cdv ct) ⟨us,[]⟩=pure (ps.zip us)):Binds K fd ps [] :=by
 obtain⟨oc,od,kV,doc,pm,an,cdv,ct,osl,rfl,lk,hcd⟩:=F.ex
 exact .all (h kV doc pm an cdv ct)
def K_{st:Stmt}{kV:Value}(l:K.lookup f=some ⟨oc,od,.func (PySem.W.fnOf x qual (fj st) (cV st) (aD st) .none kV doc pm an cdv ct),osl⟩)(c:PySem.W.codeIn K cdv qual=true)(k:PySem.W.keepIn K (.ref f)=true):HK K x qual st f (PySem.W.fnOf x qual (fj st) (cV st) (aD st) .none kV doc pm an cdv ct):=⟨⟨oc,od,kV,doc,pm,an,cdv,ct,osl,Z,l,c⟩,k⟩
end
def c9{A:Around}{k:Nat}(hr:d8 k A):A.units+1<cLine:=KI (Nat.add_le_add_left (by decide:1<=64) _) hr.units
def dw{n:Nat}(h:n<=1000):n<sizeLine:=KI h (by decide)
section
variable {X:Cx}
end
def bw{A B:Prop}(h:B):if false=true then A else B:=by rw[aC iA];exact h
def gb{A B:Prop}(h:A):if true=true then A else B:=by rw[aB rfl];exact h
def dF{c A B:Prop}[Decidable c](h1:c->A)(h2:¬ c->B):if c then A else B:=by
 by_cases h:c
 .rw [aB h];exact h1 h
 .rw [aC h];exact h2 h
def aJ(H H':Hp):Prop:=∀b o,H b=some o->H' b=some o
def aJ.refl(H:Hp):aJ H H:=λ_ _ h=>h
variable {H H1 H2:Hp}
def aJ.trans(a:aJ H H1)(b:aJ H1 H2):aJ H H2:=λc o h=>b c o (a c o h)
variable {H':Hp}
def aJ.free(e:aJ H H'){l:Addr}(h:H' l=Option.none):H l=Option.none:=by
 cases q:H l with
 | none=>rfl
 | some o=>rw[e l o q]at h;cases h
variable {xs:Da V}
def aJ.seq(e:aJ H H')(h:aG K H a xs):aG K H' a xs:=by
 rcases h with(h|⟨o,h⟩)|h
 .exact .inl (.inl (e _ _ h))
 .exact .inl (.inr ⟨o,e _ _ h⟩)
 .exact .inr h
section
variable {X:Cx}
def wQ:i_ X (.builtin "len") (λxs H Q=>∃a AT,xs=[V.ref a]/\H a=some (.dK AT)/\Q (.int AT.length) H):=by intro AC s σ H xs us Q I r h;obtain⟨a,AT,rfl,ha,q⟩:=h;obtain⟨u,rfl,ru⟩:=vals1 r;cases ru;exact aeZ I (.inl ha) λt s' I'=>⟨.int AT.length,H,I',⟨t,Z⟩,q⟩
end
section
variable {κ:Type}[DecidableEq κ]
def Wn{AT:Da (κ×V)}{k:κ}(h:dY AT k=none):¬ k∈AT.map (·.1):=by intro m;obtain⟨p,hp,e⟩:=b7.mp m;have q:(AT.any λkv=>decide (kv.1=k))=true:=List.any_eq_true.mpr ⟨p,hp,bL e⟩;rw[qK,h]at q;exact absurd q (by simp)
theorem oV:∀{l:Da κ}{k:κ},l.Nodup->¬ k∈l->(l++[k]).Nodup
 | [],k,_,_=>by simp
 | a::r,k,h,hk=>by
  obtain⟨h1,h2⟩:=gZ.mp h;show(a::(r++[k])).Nodup;refine gZ.mpr ⟨λm=>?_,oV h2 λm=>hk (b_.mpr (Or.inr m))⟩;rcases fW.mp m with q|q
  .exact h1 q
  .exact hk (b_.mpr (Or.inl (eO.mp q).symm))
def Zo{AT:Da (κ×V)}{k:κ}(v:V)(hn:(AT.map (·.1)).Nodup)(h:dY AT k=none):((putK AT k v).map (·.1)).Nodup:=by rw[mz v h,b8];exact oV hn (Wn h)
end
end L2
set_option maxHeartbeats 4000000
namespace L2
open PySem PySem.Spec PyProof.Rows
section
variable {X:Cx}
def DT(_ j:Int):Prop:=0<j/\j.natAbs.log2<9000
theorem jm:jW X (binaryOp .FloorDiv) (rI DT λi j=> .int (i / j)):=S_ λi j _ _ _ _ _ hc q=>by have h1:(0:Int)<j:=hc.1;exact floordiv_int (by omega) (by rw[Int.fdiv_eq_ediv_of_nonneg i (by omega)];exact q) (.inl (PyProof.noPylong_of_log2 hc.2))
def Ar{i j:Int}(h:(decide (0<j) && decide (j.natAbs.log2<9000))=true):DT i j:=by obtain⟨a,b⟩:=ng.mp h;exact⟨eE a,eE b⟩
theorem Wo{i j:Int}{n:Nat}(h0:0<j)(h:j<2 ^ n)(hn:n<=9000):DT i j:=by
 refine⟨h0,?_⟩;have e:(j.natAbs:Int)=j:=by omega
 have h2:j.natAbs<2 ^ n:=by
  have:(j.natAbs:Int)<((2 ^ n:Nat):Int):=by rw[e];simpa using h
  exact Int.ofNat_lt.mp this
 have:=(Nat.log2_lt (n:=j.natAbs) (k:=n) (by omega)).mpr h2;omega
def RS(i j:Int):Prop:=∃m n:Nat,i.natAbs<2 ^ m/\j.natAbs<2 ^ n/\m+n<=134217728
def qL:jW X (binaryOp .Mult) (rI RS λi j=> .int (i*j)):=S_ λ_ _ _ _ _ _ _ hc q=>by obtain⟨m,n,h1,h2,h3⟩:=hc;exact mul_int q (IntMulOk.of_le (Rn.mpr h1) (Rn.mpr h2) h3)
mutual
inductive Dt(K:Fg)(H:Hp):V->PyData->Prop
 | cI:Dt K H .cI .none
 | bl (b:Bool):Dt K H (.bl b) (.bool b)
 | int (i:Int):Dt K H (.int i) (.int i)
 | str (x:Str):Dt K H (.str x) (.str x)
 | lst {a:Addr} {xs:Da V} {ds:Da PyData}:aG K H a xs->ux K H xs ds->Dt K H (.ref a) (.list ds)
 | tup {a:Addr} {xs:Da V} {ds:Da PyData}:dm K H a xs->ux K H xs ds->Dt K H (.ref a) (.tuple ds)
inductive ux(K:Fg)(H:Hp):Da V->Da PyData->Prop
 | nil:ux K H [] []
 | cons {x:V} {xs:Da V} {d:PyData} {ds:Da PyData}:Dt K H x d->ux K H xs ds->ux K H (x::xs) (d::ds)
end
section
variable {AC:AO}{σ:St}{H:Hp}{s:Shared}
mutual
theorem Dt.reads(I:Inv X AC σ H s):∀{x:V}{d:PyData}{u:Value},Dt X.K H x d->RelV x u->∃as,Reads s.heap u d as
 | _,_,u,.cI,r=>by cases(show u=Value.none from r);exact⟨_,.none⟩
 | _,_,u,.bl b,r=>by cases(show u=Value.bool b from r);exact⟨_,.bool b⟩
 | _,_,u,.int i,r=>by obtain⟨t,rfl⟩:=(show ∃t,u=Value.int i t from r);exact⟨_,.int i t⟩
 | _,_,u,.str x,r=>by obtain⟨t,rfl⟩:=(show ∃t,u=Value.str x t from r);exact⟨_,.str x t⟩
 | _,_,u,@Dt.lst _ _ a xs ds h hd,r=>by cases(show u=Value.ref a from r);obtain⟨BT,rv,⟨o,n,e,c,_,d⟩,hz⟩:=I.list h;obtain⟨as,ra⟩:=ux.reads I hd rv;exact⟨_,.list e c d (by simpa using ra)⟩
 | _,_,u,@Dt.tup _ _ a xs ds h hd,r=>by cases(show u=Value.ref a from r);obtain⟨BT,rv,⟨o,e,c,n,d⟩,hz⟩:=I.tuple h;obtain⟨as,ra⟩:=ux.reads I hd rv;exact⟨_,.tuple e c d (by simpa using ra)⟩
theorem ux.reads(I:Inv X AC σ H s):∀{xs:Da V}{ds:Da PyData}{us:Da Value},ux X.K H xs ds->Vals xs us->∃as,ReadsAll s.heap us ds as
 | _,_,_,.nil,.nil=>⟨_,.nil⟩
 | _,_,_,.cons h t,.cons r rs=>by obtain⟨as,ra⟩:=Dt.reads I h r;obtain⟨bs,rb⟩:=ux.reads I t rs;exact⟨_,.cons ra rb⟩
end
end
inductive Wq(K:Fg)(x:V)(y:V)(H:Hp)(Q:VK):Prop
 |mk(d e:_)(_:Dt K H x d)(_:Dt K H y e)(_:SeqAt.shaped d=true)(_:SeqAt.shaped e=true)(_:Q (.bl (!PyData.eqv d e)) H)
def abi(hu:X.A.units+64<cLine):jW X (compareOp .NotEq) (Wq X.K):=by intro AC s σ H x y v u Q I rx ry h;obtain⟨d,e,hd,he,sd,se,q⟩:=h;obtain⟨as,ra⟩:=hd.reads I rx;obtain⟨bs,rb⟩:=he.reads I ry;exact ne_dataH ra rb sd se hu ⟨.bl _,H,I,Z,q⟩
structure Bx(p:Prop):Prop where
 ex:p
def bx(f:Sp):Sp:=λvs H Q E=>Bx (f vs H Q E)
structure Dn(P:Program)(w:World)(K:Fg)(mg:SO)(base:Heap)(k:Nat)(x:Str)(ps:Da Str)(sp:Sp):Prop where
 ex:∃f fd,ja P w K mg base uw k f fd ps sp/\Binds K fd ps []/\PySem.W.keepIn K (.ref f)=true/\mg x=some (.ref f)
end
structure At(K:Fg)(mg:SO)(x:Str)(st:Stmt)(f:Addr)(fd:FuncData):Prop where
 fn:HK K x x st f fd
 name:mg x=some (.ref f)
variable {P:Program}{K:Fg}{mg:SO}{base:Heap}{x:Str}{f:Addr}{fd:FuncData}{N ps:Da Str}{sp:Sp}
theorem At.ok{w:World}{st:Stmt}{k:Nat}(F:At K mg x st f fd)(S:aM N ps (aD st))(len:∀vs H Q E,sp vs H Q E->vs.length=ps.length)(Ch:∀(cdv:Value) (A:Around) (outer:Da Env) (s:Shared) (H:Hp) (vs:Da V) (Q:VK) (E:XK),d8 k (A.deeper (envOfC x (aD st) s.heap.objs.size f cdv))->sp vs H Q E->
    ∃t,uu (dM uw P w K mg base N x (aD st) f cdv A outer s H E).Cc (cV st) t/\t { nx:=λ_ H'=>Q .cI H',rt:=Q } (start N vs) H)(h:∀(kV doc pm:Value) (an:Option Addr) (cdv ct:Value) (us:Da Value),us.length=ps.length->bindArgs (PySem.W.fnOf x x (fj st) (cV st) (aD st) .none kV doc pm an cdv ct) ⟨us,[]⟩=pure (ps.zip us)):
  Dn P w K mg base (k+1) x ps sp:=⟨f,fd,F.fn.ok S len Ch,F.fn.binds h,F.fn.kp,F.name⟩
variable {h:Heap}{oc doc pm cdv ct:Value}{od an:Option Addr}{osl:Array (Option Value)}
def XZ{st:Stmt}{kV:Value}(X:K.In h)(G:h.Ns mainGlobals mg)(a:PySem.W.nsIn K mainGlobals x=some (some (.ref f)))(l:K.lookup f=some ⟨oc,od,.func (PySem.W.fnOf x x (fj st) (cV st) (aD st) .none kV doc pm an cdv ct),osl⟩)(c:PySem.W.codeIn K cdv x=true)(k:PySem.W.keepIn K (.ref f)=true):At K mg x st f (PySem.W.fnOf x x (fj st) (cV st) (aD st) .none kV doc pm an cdv ct):=⟨K_ l c k,yD X G a⟩
def aJ.tup{H H':Hp}{K:Fg}{a:Addr}{xs:Da V}(e:aJ H H')(h:dm K H a xs):dm K H' a xs:=by
 rcases h with(h|⟨o,h⟩)|h
 .exact .inl (.inl (e _ _ h))
 .exact .inl (.inr ⟨o,e _ _ h⟩)
 .exact .inr h
variable {H:Hp}
def aE{p:Addr}(h:H p=none)(o:HO):aJ H (upd H p o):=λb u q=>by rw[au (aA q h)];exact q
def small{n:Nat}(h:n<=1000):n<=sizeLine:=yF (dw h)
end L2
namespace Jm
noncomputable def cf(a b:Int):Int:=(Int.gcd a b:Int)
theorem PO(a:Int)(h:0<=a):cf a 0=a:=by unfold cf;rw[Int.gcd_zero_right];omega
def PR(a b:Int)(h:0<b):cf b (a % b)=cf a b:=by unfold cf;rw[Int.emod_def,Int.gcd_sub_mul_left_right,Int.gcd_comm]
theorem La(a b:Int)(h:0<a\/0<b):0<cf a b:=by
 unfold cf;have:0<Int.gcd a b:=by
  rcases h with h|h
  .exact Int.gcd_pos_of_ne_zero_left _ (by omega)
  .exact Int.gcd_pos_of_ne_zero_right _ (by omega)
 omega
def PU(a b:Int):cf a b=cf b a:=by unfold cf;rw[Int.gcd_comm]
abbrev fr(t b:Int):Rat:=Rat.divInt t b
def abj(t b:Int)(h:0<b):(fr t b).num=t / cf b t:=by unfold fr cf;rw[Rat.num_divInt,Int.sign_eq_one_of_pos h,Int.one_mul]
theorem abk(t b:Int)(h:0<b):((fr t b).den:Int)=b / cf b t:=by unfold fr cf;rw[Rat.den_divInt,aC (by omega)];rw[Int.natCast_ediv];congr 1;omega
def xG(a b:Int):cf a b∣a:=Int.gcd_dvd_left ..
def pT(a b:Int):cf a b∣b:=Int.gcd_dvd_right ..
theorem ae4{t b t' b':Int}(h:0<b)(h':0<b')(e:t*b'=t'*b):fr t b=fr t' b':=(Rat.divInt_eq_divInt_iff (by omega) (by omega)).mpr e
def TM{n d:Int}(h:0<d)(c:cf n d=1):(fr n d).num=n/\((fr n d).den:Int)=d:=by rw[abj n d h,abk n d h,PU,c,DE,DE];exact⟨Z,Z⟩
def Sz(n:Nat)(x:Int):Prop:=x.natAbs<2 ^ n
def Sz.mono{m n:Nat}{x:Int}(h:Sz m x)(hn:m<=n):Sz n x:=lK h (Nat.pow_le_pow_right (by decide) hn)
def Sz.of_le{n:Nat}{x y:Int}(h:Sz n y)(hx:x.natAbs<=y.natAbs):Sz n x:=KI hx h
theorem Sz.neg{n:Nat}{x:Int}(h:Sz n x):Sz n (-x):=h.of_le (by omega)
def Sz.mul{m n:Nat}{x y:Int}(hx:Sz m x)(hy:Sz n y):Sz (m+n) (x*y):=by unfold Sz at *;rw[DB,Nat.pow_add];exact Nat.mul_lt_mul'' hx hy
theorem Sz.add{m n:Nat}{x y:Int}(hx:Sz m x)(hy:Sz n y):Sz (max m n+1) (x+y):=by have h1:=hx.mono (Nat.le_max_left m n);have h2:=hy.mono (Nat.le_max_right m n);unfold Sz at *;rw[Nat.pow_succ];omega
def Sz.nj{n:Nat}{x y:Int}(hx:Sz n x)(hy:Sz n y):Sz (n+1) (x+y):=by
 have:=hx.add hy
 rwa [Nat.max_self]at this
theorem Sz.pU{n:Nat}{x B:Int}(h0:-B<=x)(h1:x<=B)(hB:Sz n B):Sz n x:=hB.of_le (by omega)
theorem Sz.ediv{n:Nat}{x y:Int}(h:Sz n x)(hy:0<y):Sz n (x / y):=by
 refine h.of_le ?_;have e:=Int.emod_add_mul_ediv x y;have m0:=pK x (b:=y) (by omega);have m1:=Ad x hy;rcases Int.lt_or_le x 0 with hx|hx
 .have q0:x / y<0:=Int.ediv_neg_of_neg_of_pos hx hy;have z:y*(x / y)<=1*(x / y):=Int.mul_le_mul_of_nonpos_right (by omega) (by omega);rcases Int.lt_or_le (x / y) x with k|k
  .exfalso;have z2:y*(x / y)<=y*(x-1):=Ky (by omega) (by omega);have z3:y*(x-1)<=1*(x-1)-(y-1):=by
    have z4:(y-1)*(x-1)<=(y-1)*(-2):=Ky (by omega) (by omega);have z5:y*(x-1)=(y-1)*(x-1)+(x-1):=by grind
    omega
   omega
  .omega
 .have q0:0<=x / y:=Kg hx (by omega);have:=Int.ediv_le_self y hx;omega
theorem Sz.dvd{n:Nat}{x y:Int}(h:Sz n y)(hy:0<y)(hx:0<=x)(d:x∣y):Sz n x:=h.of_le (by have:=Int.le_of_dvd hy d;omega)
theorem TN{n:Nat}:∀{ws:Da Int},(∀m∈ws,Sz n m)->Sz (n+ws.length) ws.sum
 | [],_=>by unfold Sz;show 0<_;exact Nat.two_pow_pos _
 | x::r,h=>by have h1:=TN (ws:=r) λm hm=>h m (cM _ hm);have h2:=((h x dg).mono (rL n r.length)).nj h1;rw[fY];exact h2.mono (by rw[jz];omega)
noncomputable def DU(c:Int):Nat->Int
 | 0=>c
 | i+1=>DU c i / 10000000000
noncomputable def cellOf(ns:Da Int)(k:Int):Int:=if 0<(ns.length:Int) then ns.getD (k % ns.length).toNat 0 else 0
noncomputable def As(ns:Da Int)(k:Int):Int:=if 0<(ns.length:Int) then k / ns.length else 1
noncomputable def mixed(c k j BM:Int):Int:=
 let one:=(c*7919+k*104729+j*1299709+31) % 1000000007
 let two:=(one*48271+c / 1009) % 998244353
 let three:=(two*(one % 9973+1)+j) % 1000000009
 (one*69621+three*40692+three / 1013) % 2147483647 % BM
noncomputable def draw(ns:Da Int)(k j BM:Int):Int:=if As ns k=0/\1000000000000000000<=cellOf ns k/\0<DU (cellOf ns k) j.toNat then DU (cellOf ns k) j.toNat % 10000000000 % BM
 else mixed (cellOf ns k) k j BM
theorem Zp(ns:Da Int)(k j BM:Int)(h:0<BM):0<=draw ns k j BM:=by
 unfold draw;split
 .exact pK _ (by omega)
 .exact pK _ (by omega)
def Zq(ns:Da Int)(k j BM:Int)(h:0<BM):draw ns k j BM<BM:=by
 unfold draw;split
 .exact Ad _ h
 .exact Ad _ h
end Jm
namespace L2
open PySem PySem.Spec PyProof.Rows
inductive ae5(K:Fg)(vs:Da V)(H:Hp)(Q:VK)(E:XK):Prop
 |mk(a:Addr)(ns:Da Int)(k j BM:Int)(_:vs=[.ref a,.int k,.int j,.int BM])(_:aG K H a (ns.map V.int))(_:ns.length<=63)(_:0<=k)(_:0<=j)(_:j<2 ^ 62)(_:0<BM)(_:Q (.int (Jm.draw ns k j BM)) H)
def sR(K:Fg):Sp:=bx (ae5 K)
variable {K:Fg}{H:Hp}{a:Addr}{ns:Da Int}
def cY{Q:VK}{E:XK}{k j BM:Int}(hS:aG K H a (ns.map V.int))(h63:ns.length<=63)(h1:0<=k)(h2:0<=j)(h3:j<2 ^ 62)(h4:0<BM)(h:∀d:Int,d=Jm.draw ns k j BM->0<=d->d<BM->Q (.int d) H):sR K [.ref a,.int k,.int j,.int BM] H Q E:=
 ⟨a,ns,k,j,BM,Z,hS,h63,h1,h2,h3,h4,h _ rfl (Jm.Zp ns k j BM h4) (Jm.Zq ns k j BM h4)⟩
def Wr:Sp:=λvs H Q _=>∃a b:Int,vs=[.int a,.int b]/\0<=a/\0<=b/\Q (.int (Jm.cf a b)) H
abbrev tQ(q:Rat):HO:=.tup [.int q.num,.int (q.den:Int)]
def Kq(K:Fg):Sp:=λvs H Q _=>∃(a:Addr)(ns:Da Int),vs=[.ref a]/\aG K H a (ns.map V.int)/\ns.length<=63/\∀H',Q (.bl true) H'
section
variable {X:Cx}{pos:Pos}
def Ends.too(D:Ends)(J:St->Hp->Prop):Ends:={ D with nx:=J }
def ae6(t u:TS)(D:Ends)(σ:St)(J:St->Hp->Prop):Bool->Hp->Prop:=λb H1=>if b=true then t (D.too J) σ H1 else u (D.too J) σ H1
inductive abl(c:TT)(t u:TS)(D:Ends)(σ:St)(H:Hp):Prop
 |mk(J:St->Hp->Prop)(_:c σ H (ae6 t u D σ J))(_:∀σ' H',J σ' H'->D.nx σ' H')
end
theorem yN{i j:Int}(h0:0<j)(h:Jm.Sz 9000 j):DT i j:=by refine⟨h0,?_⟩;exact(Nat.log2_lt (by omega)).mpr h
variable {m:Nat}
def oW{n:Nat}{i j:Int}(hi:Jm.Sz m i)(hj:Jm.Sz n j)(h:m+n<=134217728:=by decide):RS i j:=⟨m,n,hi,hj,h⟩
def sS{n:Nat}{x:Int}(h:decide (x.natAbs<2 ^ n)=true):Jm.Sz n x:=by unfold Jm.Sz;exact eE h
theorem Zr{k:Int}(h0:0<=k)(h:k<(ns.length:Int)):pS (ns.map V.int) k=some (.int (ns.getD k.toNat 0)):=by
 have hk:k.toNat<ns.length:=by omega
 have ek:k=((k.toNat:Nat):Int):=by omega
 have q:pS (ns.map V.int) ((k.toNat:Nat):Int)=some (.int (ns.getD k.toNat 0)):=aN (by rw[cu,nE,bu hk] <;> rfl);rw[<-ek]at q;exact q
variable {elt target Bn:Expr}{scope:Scope}{pos:Pos}{env:Env}
section
variable {prog:Program}{w:World}{A:Around}{R:Result->Shared->Prop}{s:Shared}
theorem Lb{it Ap:Value}(J:Nat->Shared->Prop)(turn:∀n s,J n s->wpAny (model prog w) A (pyNext it) (λr s₁=>match r with
    | none=>R (.ok .next) s₁
    | some v=>wpAny (model prog w) A (letOwnedTupleGo target it v) (λ_ s₂=>wpAny (model prog w) A (assign target env v) (λ_ s₃=>wpAny (model prog w) A (eval elt env) (λx s₄=>
            wpAny (model prog w) A (call (.builtin "list.append") [Ap,x]) (λ_ s₅=>∃m,m<n/\J m s₅) (λ_ _=>False) s₄) (λ_ _=>False) s₃) (λ_ _=>False) s₂) (λ_ _=>False) s₁) (λ_ _=>False) s)(n:Nat)(h:J n s):codeAny (model prog w) A (.compLoop (.ListComp elt [⟨target,Bn,[],0⟩] scope pos) 0 it Ap env) R s:=by
 refine codeAny_loop rfl J (λn s hI=>?_) n h
 show wpAny _ A ((compTurn (.ListComp elt [⟨target,Bn,[],0⟩] scope pos) 0 it Ap env).onRaise (λx=>do noteFrame x env;theTreesLotGoes x)) _ _ s
 refine wpAny_noted ?_
 rw[compTurn_list1]
 refine az (yE (az (fq (turn n s hI) (λr s₁ h₁=>?_) λ_ _ h'=>h'.elim)))
 cases r with
 | none=>exact aT h₁
 | some v=>
   refine az (fq h₁ (λ_ s₂ h₂=>az (fq h₂ (λ_ s₃ h₃=>?_) λ_ _ h'=>h'.elim)) λ_ _ h'=>h'.elim)
   exact az (az (fq h₃ (λx s₄ h₄=>az (fq h₄ (λ_ s₅ h₅=>aT (aT ⟨Z,h₅⟩)) λ_ _ h'=>h'.elim)) λ_ _ h'=>h'.elim))
end
def uF(h:∀y∈scope.names,y.2 =.free->∃c,env.cells.lookup y.1=some c):∃cl,closureFor scope env=pure cl/\(∀y c,(y,c)∈cl->env.cells.lookup y=some c/\(y,NameKind.free)∈scope.names)/\∀y,(y,NameKind.free)∈scope.names->∃c,(y,c)∈cl:=by
 have gen:∀(names:Da (Str×NameKind))(Ap:Da (Str×Addr)),(∀y∈names,y.2 =.free->∃c,env.cells.lookup y.1=some c)->
   ∃cl,(forIn names Ap λ(x:Str×NameKind)(cs:Da (Str×Addr))=>(if(x.2==NameKind.free)=true then do let a <-cellOf env x.1;pure (ForInStep.yield ((x.1,a)::cs)) else pure (ForInStep.yield cs):Sem _))=pure cl/\
    (∀y c,(y,c)∈cl->(env.cells.lookup y=some c/\(y,NameKind.free)∈names)\/(y,c)∈Ap)/\(∀p∈Ap,p∈cl)/\∀y,(y,NameKind.free)∈names->∃c,(y,c)∈cl:=by
  intro names
  induction names with
  | nil=>intro Ap _;exact⟨Ap,by rw[yC],λy c m=> .inr m,λp hp=>hp,λy m=>nomatch m⟩
  | cons x r ih=>
    intro Ap hc
    obtain⟨n,k⟩:=x
    by_cases hk:k =.free
    . subst hk
      obtain⟨c,ec⟩:=hc (n,.free) dg rfl
      obtain⟨cl,e,h1,h2,h3⟩:=ih ((n,c)::Ap) λy hy=>hc y (cM _ hy)
      refine⟨cl,?_,λy d m=>?_,λp hp=>h2 p (cM _ hp),λy m=>?_⟩
      . rw[Kh,<-e]
        have ae7:cellOf env n=pure c:=by unfold cellOf;rw[ec]
        simp only[Dw,if_true,ae7,pure_bind]
      . rcases h1 y d m with⟨a,b⟩|b
        . exact .inl ⟨a,cM _ b⟩
        . rcases b_.mp b with z|z
          . cases z;exact .inl ⟨ec,dg⟩
          . exact .inr z
      . rcases b_.mp m with z|z
        . cases z;exact⟨c,h2 _ dg⟩
        . exact h3 y z
    . obtain⟨cl,e,h1,h2,h3⟩:=ih Ap λy hy=>hc y (cM _ hy)
      have hb:(k==NameKind.free)=false:=by simpa using hk
      refine⟨cl,?_,λy d m=>?_,h2,λy m=>?_⟩
      . rw[Kh,<-e]
        simp only[hb,Fq,pM,pure_bind]
      . rcases h1 y d m with⟨a,b⟩|b
        . exact .inl ⟨a,cM _ b⟩
        . exact .inr b
      . rcases b_.mp m with z|z
        . cases z;exact absurd rfl hk
        . exact h3 y z
 obtain⟨cl,e,h1,_,h3⟩:=gen scope.names [] h;refine⟨cl,?_,λy c m=>(h1 y c m).elim id (λz=>nomatch z),h3⟩;have e2:closureFor scope env=((forIn scope.names ([] :Da (Str×Addr)) λ(x:Str×NameKind)(cs:Da (Str×Addr))=>(if(x.2==NameKind.free)=true then do let a <-cellOf env x.1;pure (ForInStep.yield ((x.1,a)::cs)) else pure (ForInStep.yield cs):Sem _)) >>= λr=>pure r):=rfl;rw[e2,e];rfl
def lookup_mem{α:Type}{l:Da (Str×α)}{y:Str}{c:α}(h:(y,c)∈l):∃d,l.lookup y=some d:=by
 induction l with
 | nil=>cases h
 | cons p r ih=>
  obtain⟨k,v⟩:=p;rw[lN];cases hb:y==k with
  | true=>exact⟨v,Z⟩
  | false=>
   rcases b_.mp h with z|z
   .cases z;simp at hb
   .exact ih z
theorem mW:∀(names:Da (Str×NameKind))(n:Nat)(Ap:Da (Str×Addr)){x:Str}{c:Addr},(cellsFrom n names Ap).lookup x=some c->n<=c\/Ap.lookup x=some c
 | [],_,_,_,_,h=> .inr h
 | (name,kind)::r,n,Ap,x,c,h=>by
  unfold cellsFrom at h;split at h
  .rcases mW r (n+1) _ h with z|z
   .exact .inl (by omega)
   .rw [lN]at z;cases hb:x==name with
    | true=>rw[hb]at z;cases z;exact .inl (aK _)
    | false=>rw[hb]at z;exact .inr z
  .exact mW r n Ap h
theorem Jc:∀(names:Da (Str×NameKind))(n n0:Nat)(Ap:Da (Str×Addr)){x:Str}{c:Addr},n0<=n->(∀d,Ap.lookup x=some d->n0<=d)->(cellsFrom n names Ap).lookup x=some c->n0<=c:=by
 intro names n n0 Ap x c hn ha h;rcases mW names n Ap h with z|z
 .omega
 .exact ha c z
theorem tR:∀(names:Da (Str×NameKind))(n:Nat)(Ap:Da (Str×Addr)){x:Str}{c:Addr},(x,NameKind.cell)∈names->(cellsFrom n names Ap).lookup x=some c->n<=c
 | [],_,_,_,_,m,_=>nomatch m
 | (name,kind)::r,n,Ap,x,c,m,h=>by
  unfold cellsFrom at h;rcases b_.mp m with z|z
  .cases z;rw[aB (by rfl)]at h;refine Jc r (n+1) n _ (by omega) (λd hd=>?_) h;rw[lN,Dw]at hd;cases hd;exact aK _
  .split at h
   .exact gD (BB _) (tR r (n+1) _ z h)
   .exact tR r n Ap z h
theorem mX:∀(names:Da (Str×NameKind))(n:Nat)(Ap:Da (Str×Addr)){x:Str},(∃c,Ap.lookup x=some c)->∃c,(cellsFrom n names Ap).lookup x=some c
 | [],_,_,_,h=>h
 | (name,kind)::r,n,Ap,x,h=>by
  unfold cellsFrom;split
  .refine mX r (n+1) _ ?_;rw[lN];cases x==name with
   | true=>exact⟨_,Z⟩
   | false=>exact h
  .exact mX r n Ap h
theorem tS:∀(names:Da (Str×NameKind))(n:Nat)(Ap:Da (Str×Addr)){x:Str},(x,NameKind.cell)∈names->∃c,(cellsFrom n names Ap).lookup x=some c
 | [],_,_,_,m=>nomatch m
 | (name,kind)::r,n,Ap,x,m=>by
  unfold cellsFrom;rcases b_.mp m with z|z
  .cases z;rw[aB (by rfl)];refine mX r (n+1) _ ⟨n,?_⟩;rw[lN,Dw]
  .split
   .exact tS r (n+1) _ z
   .exact tS r n Ap z
theorem tT:∀(names:Da (Str×NameKind))(n:Nat)(Ap:Da (Str×Addr)){x:Str},(x,NameKind.cell)∉names->(cellsFrom n names Ap).lookup x=Ap.lookup x
 | [],_,_,_,_=>rfl
 | (name,kind)::r,n,Ap,x,m=>by
  have m2:(x,NameKind.cell)∉r:=λz=>m (cM _ z);unfold cellsFrom;split
  .rename_i hk;rw[tT r (n+1) _ m2,lN];cases hb:x==name with
   | true=>
    have e1:=nS.mp hb;have e2:kind=NameKind.cell:=by simpa using hk
    subst e1 e2;exact absurd dg m
   | false=>rfl
  .exact tT r n Ap m2
theorem tU:∀(names:Da (Str×NameKind))(n:Nat)(Ap:Da (Str×Addr)),(∀x y c,Ap.lookup x=some c->Ap.lookup y=some c->x=y)->(∀x c,Ap.lookup x=some c->c<n)->∀x y c,(cellsFrom n names Ap).lookup x=some c->(cellsFrom n names Ap).lookup y=some c->x=y
 | [],_,_,h,_=>h
 | (name,kind)::r,n,Ap,h,hlt=>by
  intro x y c hx hy;unfold cellsFrom at hx hy;split at hx
  .rename_i hk;rw[aB hk]at hy;refine tU r (n+1) _ (λx y c hx hy=>?_) (λx c hx=>?_) x y c hx hy
   .rw [lN]at hx hy;cases hb:x==name with
    | true=>
     cases hb2:y==name with
     | true=>rw[nS.mp hb,nS.mp hb2]
     | false=>rw[hb]at hx;rw[hb2]at hy;cases hx;exact absurd (hlt _ _ hy) (i7 _)
    | false=>
     cases hb2:y==name with
     | true=>rw[hb]at hx;rw[hb2]at hy;cases hy;exact absurd (hlt _ _ hx) (i7 _)
     | false=>rw[hb]at hx;rw[hb2]at hy;exact h x y c hx hy
   .rw [lN]at hx;cases hb:x==name with
    | true=>rw[hb]at hx;cases hx;exact Nat.lt_succ_self _
    | false=>rw[hb]at hx;exact KN (hlt _ _ hx)
  .rename_i hk;rw[aC hk]at hy;exact tU r n Ap h hlt x y c hx hy
theorem xH:∀(names:Da (Str×NameKind))(h:Heap)(Ap:Da (Str×Addr)),(∀x c,Ap.lookup x=some c->∃v,h.IsCell c v)->∀x c,(cellsFrom h.objs.size names Ap).lookup x=some c->∃v,(pushCells h names).IsCell c v
 | [],_,_,ha=>ha
 | (name,kind)::r,h,Ap,ha=>by
  intro x c hx;unfold cellsFrom at hx;unfold pushCells;split at hx
  .rename_i hk;rw[aB hk];have q:=xH r (h.push { cls:=.type "cell",data:=.cell none }) ((name,h.objs.size)::Ap) (λx c hx=>by
    rw[lN]at hx;cases hb:x==name with
    | true=>rw[hb]at hx;cases hx;exact⟨none,_,ef _ rfl,Z⟩
    | false=>rw[hb]at hx;obtain⟨v,z⟩:=ha x c hx;exact⟨v,z.keeps λb o e=>b9 _ e⟩) x c
   rw[kJ]at q;exact q hx
  .rename_i hk;rw[aC hk];exact xH r h Ap ha x c hx
noncomputable def cJ(X:Cx)(N2:Da Str)(scope:Scope)(cl:Da (Str×Addr))(s₂:Shared)(H₂:Hp)(fp:Da Addr):Cx where
 prog:=X.prog
 w:=X.w
 K:=X.K
 mg:=X.mg
 base:=X.base
 A:=X.A
 N:=N2
 s₀:=s₂
 H₀:=H₂
 env:={ scope:=relabel scope X.env,locals:=s₂.heap.objs.size,globals:=X.env.globals,cells:=cellsFrom (s₂.heap.objs.size+1) scope.names cl,qual:=X.env.qual,func:=none,code:=X.env.code,frame:=X.env.frame,builtins:=X.env.builtins }
 outer:=X.stack
 stack:=X.stack
 ex:=fp
 fn:=λx=>decide (scope.names.lookup x=some .cell)
 calm:=X.calm
 pn:=[]
 xe:=λ_ _=>False
noncomputable def nH(XN:Da Str)(xn sn:Da (Str×NameKind))(N2:Da Str)(ix:Da (Option Nat)):Bool:=(ix.length==N2.length) &&
 ((ix.zip N2).all λp=>match p.1 with
   | none=>true
   | some j=>XN[j]?==some p.2 && sn.lookup p.2==some .free && (xn.lookup p.2==some .cell || xn.lookup p.2==some .free)) &&
 (sn.all λy=>y.2 !=.free || (xn.lookup y.1==some .cell || xn.lookup y.1==some .free)) &&
 (sn.all λy=>y.2 !=.local || sn.lookup y.1==some .local) &&
 (sn.all λy=>y.2 !=.free || sn.all λz=>z.2 !=.cell || z.1 != y.1)
variable {x:Str}
def Ci{k:NameKind}(h:(relabel scope env).names.lookup x=some k)(hk:k =.cell\/k =.free):(x,NameKind.cell)∈scope.names\/(x,NameKind.free)∈scope.names:=by
 have m:=yw h;obtain⟨y,hy,e⟩:=b7.mp m;obtain⟨n,k0⟩:=y;dsimp only at e;split at e
 .rename_i hc;cases e;have h1:k0=NameKind.free:=by have:=(ng.mp (ng.mp hc).1).1;simpa using this
  subst h1;exact .inr hy
 .cases e;rcases hk with rfl|rfl
  .exact .inl hy
  .exact .inr hy
def Lc:∀{x:Str},scope.names.lookup x=some .free->(relabel scope env).names.lookup x=some .cell\/(relabel scope env).names.lookup x=some .free:=by
 intro x h;have gen:∀(l:Da (Str×NameKind)),l.lookup x=some .free->(l.map λ(n,k)=>if(k==NameKind.free && env.scope.kind ==.function && env.kindOf n==some .cell) then(n,NameKind.cell) else(n,k)).lookup x=some .cell\/
   (l.map λ(n,k)=>if(k==NameKind.free && env.scope.kind ==.function && env.kindOf n==some .cell) then(n,NameKind.cell) else(n,k)).lookup x=some .free:=by
  intro l
  induction l with
  | nil=>intro h;cases h
  | cons p r ih=>
    intro h
    obtain⟨n,k⟩:=p
    rw[lN]at h
    rw[cO]
    dsimp only
    cases hb:x==n with
    | true=>
      rw[hb]at h
      cases h
      split
      . rw[lN,hb];exact .inl rfl
      . rw[lN,hb];exact .inr rfl
    | false=>
      rw[hb]at h
      split
      . rw[lN,hb];exact ih h
      . rw[lN,hb];exact ih h
 exact gen scope.names h
variable {X:Cx}{AC:AO}{σ σ2:St}{s:Shared}{N2:Da Str}{cl:Da (Str×Addr)}{fp:Da Addr}
theorem yO(I:Inv X AC σ H s)(hk:scope.kind =.function)(CI:∀y c,(y,c)∈cl->X.env.cells.lookup y=some c)(Au:∀y,(y,NameKind.free)∈scope.names->∃c,(y,c)∈cl)(hfp:∀b∈fp,mj X AC H b)(hfo:∀b∈fp,b<s.heap.objs.size)(hl:σ2.length=N2.length)(hσ:∀(i:Nat) (x:Str) (v:V),N2[i]?=some x->σ2[i]?=some (some v)->scope.names.lookup x=some .free/\(X.env.kindOf x=some .cell\/X.env.kindOf x=some .free)/\∃j:Nat,X.N[j]?=some x/\σ[j]?=some (some v))(hd:∀x,(x,NameKind.free)∈scope.names->(x,NameKind.cell)∉scope.names):
  Inv (cJ X N2 scope cl s H fp) [] σ2 H { s with heap:=pushCells (s.heap.push { cls:=.type "dict",data:=.dict #[] }) scope.names }:=by
 have keeps:∀b o,s.heap.get? b=some o->(pushCells (s.heap.push { cls:=.type "dict",data:=.dict #[] }) scope.names).get? b=some o:=λb o e=>Dz _ _ b o (b9 _ e)
 have hsz:(s.heap.push { cls:=.type "dict",data:=.dict #[] }).objs.size=s.heap.objs.size+1:=kJ ..
 have BG:∀x c,cl.lookup x=some c->X.env.cells.lookup x=some c:=λx c e=>CI x c (yw e)
 have clt:∀x c,cl.lookup x=some c->c<s.heap.objs.size:=λx c e=>by obtain⟨v,z⟩:=I.cell x c (BG x c e);exact z.lt
 have there:=xH scope.names (s.heap.push { cls:=.type "dict",data:=.dict #[] }) cl (λx c e=>by obtain⟨v,z⟩:=I.cell x c (BG x c e);exact⟨v,z.keeps λb o e=>b9 _ e⟩)
 rw[hsz]at there
 have cells:∀x c,(cellsFrom (s.heap.objs.size+1) scope.names cl).lookup x=some c->s.heap.objs.size+1<=c\/X.env.cells.lookup x=some c:=λx c e=>by
  rcases mW _ _ _ e with z|z
  .exact .inl z
  .exact .inr (BG x c z)
 have okY:(cJ X N2 scope cl s H fp).Ok:=by
  refine⟨I.ok.mod,hk,I.ok.glob,I.ok.blt,aK _,?_,?_,?_,I.ok.hd,I.ok.frames,.inl rfl,?_,I.bs,gD I.ok.DG I.sz,?_,?_,I.stack,I.xZ⟩
  .exact tU _ _ _ (λx y c hx hy=>I.ok.inj x y c (BG x c hx) (BG y c hy)) λx c e=>KN (clt x c e)
  .intro x hx;have m:(x,NameKind.cell)∈scope.names\/(x,NameKind.free)∈scope.names:=by
    rcases hx with z|z
    .exact Ci z (.inl rfl)
    .exact Ci z (.inr rfl)
   rcases m with m|m
   .exact tS _ _ _ m
   .obtain ⟨c,mc⟩:=Au x m;exact mX _ _ _ (lookup_mem mc)
  .intro x c hf e;have hf':scope.names.lookup x=some .cell:=eE hf;exact gD (BB _) (tR _ _ _ (yw hf') e)
  .intro b hb;refine⟨d7 (hfo b hb),λx c e z=>?_⟩;have hlt:=hfo b hb;rcases cells x c e with k|k
   .exact absurd (lK hlt (gD (BB _) (z▸k))) (i7 _)
   .exact (hfp b hb).2.2.2.2.1 x c k z
  .intro b o e hb;rcases(hfp b hb).2.2.2.1 with z|z
   .exact I.ok.Fy b o e z
   .exact absurd (lK (bM (I.ok.bs b o e).1) z) (i7 _)
  .intro b hb hbs;rcases b_.mp (I.KQ b hbs)with z|z
   .exact (hfp b hb).2.1 z
   .exact (hfp b hb).2.2.1 z
 refine⟨okY,Z,I.bare,Un.kept keeps,?_,there,I.hok.fresh (aK _),?_,(λp hp=>nomatch hp),I.hok.kept keeps,hl⟩
 . refine⟨λ_=>none,(Heap.Ns.new s.heap (.type "dict")).keeps (Dz _ _),λi x v e1 e2 _=>?_⟩
   obtain⟨hf,hx,j,j1,j2⟩:=hσ i x v e1 e2
   obtain⟨m,_,hloc⟩:=I.loc
   have hv:XG X.env.scope x:=hx.elim (λz=> .inr (.inl z)) λz=> .inr (.inr z)
   obtain⟨u,r,lk⟩:=hloc j x v j1 j2 hv
   refine⟨u,r,.inr ⟨Lc hf,?_⟩⟩
   rcases lk with⟨k,_⟩|⟨_,c,ec,ic⟩
   . rcases hx with z|z <;> rw[z]at k <;> cases k
   . refine⟨c,?_,ic.keeps keeps⟩
     have mf:=yw hf
     show(cellsFrom (s.heap.objs.size+1) scope.names cl).lookup x=some c
     rw[tT _ _ _ (hd x mf)]
     obtain⟨c',mc⟩:=Au x mf
     obtain⟨d,ed⟩:=lookup_mem mc
     rw[ed]
     have:=BG x d ed
     rw[ec]at this
     exact this.symm
 . intro x c e
   rcases cells x c e with k|k
   . exact I.hok.fresh (by omega)
   . exact I.lP x c k
variable {tg:Expr}{te:TE}{E:VS}
section
variable {X:Cx}
def DV(J:It)(g:TG)(te:TE)(Ap:Addr)(σ₀:St)(H:Hp)(Q:VK):Prop:=∃W:Nat->Nat->St->Hp->Prop,(∃m,W 0 m σ₀ (upd H Ap (.lst [])))/\∀i m σ2 H2,W i m σ2 H2->(J.stop i H2/\Q (.ref Ap) H2)\/(J.go i H2/\∃(S:St->Prop)(N:V->Hp->Prop),(∀σ3 v H4,S σ3->N v H4->∃xs,H4 Ap=some (.lst xs)/\xs.length<sizeLine/\∃m',m'<m/\W (i+1) m' σ3 (upd H4 Ap (.lst (xs++[v]))))/\∀x H',J.Ah i H2 x H'->g x σ2 H' λσ3 H3=>S σ3/\te σ3 H3 N)
inductive yP(Pv:Nat->Da V->Hp->Prop)(i:Nat)(Ap:Addr)(out:Da V)(v:V)(H4:Hp):Prop
 |mk(_:H4 Ap=some (.lst out))(_:Pv (i+1) (out++[v]) (upd H4 Ap (.lst (out++[v]))))
def X0(te:TE)(σ:St)(Pv:Nat->Da V->Hp->Prop)(i:Nat)(Ap:Addr)(out:Da V):Bool->Hp->Prop:=λb H2=>if b=true then te σ H2 (yP Pv i Ap out) else H2 Ap=some (.lst out)/\Pv (i+1) out H2
noncomputable def pick(ix:Da (Option Nat))(σ:St):St:=ix.map λo=>o.bind λj=>(σ[j]?).join
def abm(ix:Da (Option Nat))(g:TG)(te:TE)(σ:St)(Q:VK):It->Hp->Prop:=λJ H1=>∀Ap,H1 Ap=none->DV J g te Ap (pick ix σ) H1 Q
def X3(wi:TI)(ix:Da (Option Nat))(g:TG)(te:TE):TE:=λσ H Q=>wi σ H (abm ix g te σ Q)
def kL{XN:Da Str}{xn sn:Da (Str×NameKind)}{ix:Da (Option Nat)}(h:nH XN xn sn N2 ix=true):ix.length=N2.length/\(∀(i:Nat)(x:Str)(j:Nat),N2[i]?=some x->ix[i]?=some (some j)->XN[j]?=some x/\sn.lookup x=some .free/\(xn.lookup x=some .cell\/xn.lookup x=some .free))/\(∀y∈sn,y.2 =.free->xn.lookup y.1=some .cell\/xn.lookup y.1=some .free)/\(∀y∈sn,y.2 =.local->sn.lookup y.1=some .local)/\∀x,(x,NameKind.free)∈sn->(x,NameKind.cell)∉sn:=by
 unfold nH at h;obtain⟨h,h5⟩:=ng.mp h;obtain⟨h,h4⟩:=ng.mp h;obtain⟨h,h3⟩:=ng.mp h;obtain⟨h1,h2⟩:=ng.mp h;have e1:ix.length=N2.length:=by simpa using h1
 refine⟨e1,λi x j a b=>?_,λy hy e=>?_,λy hy e=>?_,λx m1 m2=>?_⟩
 .have m:(some j,x)∈ix.zip N2:=by refine bQ (i:=i) ?_;rw[List.getElem?_zip_eq_some];exact⟨b,a⟩
  have q:=pJ.mp h2 _ m;dsimp only at q;obtain⟨q,q3⟩:=ng.mp q;obtain⟨q1,q2⟩:=ng.mp q;exact⟨by simpa using q1,by simpa using q2,(Fo.mp q3).imp (λz=>by simpa using z) λz=>by simpa using z⟩
 .have q:=pJ.mp h3 y hy;rcases Fo.mp q with z|z
  .rw [e]at z;simp at z
  .exact (Fo.mp z).imp (λz=>by simpa using z) λz=>by simpa using z
 .have q:=pJ.mp h4 y hy;rcases Fo.mp q with z|z
  .rw [e]at z;simp at z
  .simpa using z
 .have q:=pJ.mp h5 _ m1;rcases Fo.mp q with z|z
  .simp at z
  .have q2:=pJ.mp z _ m2;simp at q2
theorem DW{ix:Da (Option Nat)}{g:TG}{Q:VK}{RR:Value->Addr->Result->Shared->Prop}(hc:X.calm=true)(hg:∀cl s₂ H₂ fp,PG (cJ X N2 scope cl s₂ H₂ fp) tg g)(he:∀cl s₂ H₂ fp,PE (cJ X N2 scope cl s₂ H₂ fp) elt te)(hk:scope.kind =.function)(hn:nH X.N X.env.scope.names scope.names N2 ix=true)(CI:∀y c,(y,c)∈cl->X.env.cells.lookup y=some c)(Au:∀y,(y,NameKind.free)∈scope.names->∃c,(y,c)∈cl){it:Addr}{fp:Da Addr}{tn:Nat->Heap->Prop}{J:It}(I:Inv X AC σ H s)(T:Turn X.prog X.w X.K tg J fp it tn)(st:tn 0 s.heap)(f:∀b∈fp,mj X AC H b)(h:∀Ap,H Ap=none->DV J g te Ap (ix.map λo=>o.bind λj=>(σ[j]?).join) H Q)(hR:∀Ap C H' s' m,Inv X AC σ H' s'->s'.heap.Ns C m->H' C=none->C≠X.env.locals->X.s₀.heap.objs.size<=C->(∀x c,X.env.cells.lookup x=some c->c≠C)->(∀p∈X.pn++AC,p.1≠C)->Q (.ref Ap) H'->RR (.ref Ap) C (.ok .next) s'):
  wpAny (model X.prog X.w) X.A (newList []) (λAp s₃=>wpAny (model X.prog X.w) X.A (newFunctionEnv scope X.env.globals cl [] X.env.qual none .none (some X.env)) (λcenv s₄=>
   codeAny (model X.prog X.w) X.A (.compStart (.ListComp elt [⟨tg,Bn,[],0⟩] scope pos) 0 (.ref it) Ap { cenv with scope:=relabel scope X.env }) (RR Ap cenv.locals) s₄) E s₃) E s:=by
 obtain⟨k1,k2,k3,k4,k5⟩:=kL hn
 refine xC ?_
 have I3:Inv X AC σ (upd H s.heap.objs.size (.lst [])) { s with heap:=s.heap.push { cls:=.type "list",data:=.seq ([] :Da Value).toArray } }:=
  I.laid (a:=s.heap.objs.size) (o:=.lst []) (t':=s.toks) (λ_ _ q=>b9 _ q) (aK _) ⟨fm _,[],_,.nil,ef _ rfl⟩
 obtain⟨W,⟨m0,w0⟩,turn⟩:=h s.heap.objs.size I.fresh
 have fo:∀b∈fp,b<s.heap.objs.size:=λb hb=>by obtain⟨o,e,_⟩:=T.obj 0 _ st b hb;exact bM e
 have st3:tn 0 (s.heap.push { cls:=.type "list",data:=.seq ([] :Da Value).toArray }):=T.keep _ _ _ st λb _ o e=>b9 _ e
 have f3:∀b∈fp,mj X AC (upd H s.heap.objs.size (.lst [])) b:=λb hb=>⟨by rw[au (d7 (fo b hb))];exact(f b hb).1,(f b hb).2⟩
 have HL:∀b∈fp,b<(s.heap.push { cls:=.type "list",data:=.seq ([] :Da Value).toArray }).objs.size:=λb hb=>by rw[kJ];exact KN (fo b hb)
 generalize TQ:({ s with heap:=s.heap.push { cls:=.type "list",data:=.seq ([] :Da Value).toArray } }:Shared)=s3 at *
 have TR:s3.heap=s.heap.push { cls:=.type "list",data:=.seq ([] :Da Value).toArray }:=by rw[<-TQ]
 rw[<-TR]at st3 HL
 generalize s.heap.objs.size=Ap at *
 generalize eH3:upd H Ap (.lst [])=H3 at *
 have IY:=yO (N2:=N2) (scope:=scope) (cl:=cl) (fp:=fp) (σ2:=ix.map λo=>o.bind λj=>(σ[j]?).join) I3 hk CI Au f3 HL (by rw[aF];exact k1) (λi x v e1 e2=>by
  rw[cu]at e2;cases ei:ix[i]? with
  | none=>rw[ei]at e2;cases e2
  | some o=>
   rw[ei]at e2;cases o with
   | none=>cases e2
   | some j=>
    obtain⟨a1,a2,a3⟩:=k2 i x j e1 ei;refine⟨a2,a3,j,a1,?_⟩;have e3:(σ[j]?).join=some v:=fM e2;cases ej:σ[j]? with
    | none=>rw[ej]at e3;cases e3
    | some z=>rw[ej]at e3;exact rQ some e3) k5
 have ne:wpAny (model X.prog X.w) X.A (newFunctionEnv scope X.env.globals cl [] X.env.qual none .none (some X.env)) (λcenv s₄=>
   cenv={ scope:=scope,locals:=s3.heap.objs.size,globals:=X.env.globals,cells:=cellsFrom (s3.heap.objs.size+1) scope.names cl,qual:=X.env.qual,func:=none,code:=X.env.code,frame:=X.env.frame,builtins:=X.env.builtins }/\
   s₄={ s3 with heap:=pushCells (s3.heap.push { cls:=.type "dict",data:=.dict #[] }) scope.names }) E s3:=by
  simp only[newFunctionEnv,Ru,if_true]
  refine az (wpAny_alloc ?_)
  refine az (wpAny_layCells _ (λname kind cells=>by cases hkc:kind==NameKind.cell <;> simp[hkc]) _ _ _ _ ?_)
  rw[yC]
  refine az (aT (aT ⟨?_,Z⟩))
  rw[show({ s3 with heap:=s3.heap.push { cls:=.type "dict",data:=.dict #[] } }:Shared).heap.objs.size=s3.heap.objs.size+1 from kJ ..]
 refine aZ ne λcenv s4 ⟨e1,e2⟩=>?_
 subst e1 e2
 have HM:tn 0 (pushCells (s3.heap.push { cls:=.type "dict",data:=.dict #[] }) scope.names):=T.keep _ _ _ st3 λb _ o e=>Dz _ _ b o (b9 _ e)
 have yb:s3.heap.objs.size≠X.env.locals:=wJ I3.lt
 have oj:∀{H':Hp},(∀b∈fp,H' b=none)->∀b∈fp,mj (cJ X N2 scope cl s3 H3 fp) [] H' b:=λ{H'} hn b hb=>
  ⟨hn b hb,(IY.ok.DF b hb).1,IY.ok.Ae b hb,.inl hb,(IY.ok.DF b hb).2,λp hp=>nomatch hp⟩
 have loop:codeAny (model X.prog X.w) X.A (.compLoop (.ListComp elt [⟨tg,Bn,[],0⟩] scope pos) 0 (.ref it) (.ref Ap) (cJ X N2 scope cl s3 H3 fp).env) (RR (.ref Ap) s3.heap.objs.size)
   { s3 with heap:=pushCells (s3.heap.push { cls:=.type "dict",data:=.dict #[] }) scope.names }:=by
  refine Lb (λn s'=>∃i σ' H',Inv (cJ X N2 scope cl s3 H3 fp) [] σ' H' s'/\tn i s'.heap/\(∀b∈fp,H' b=none)/\W i n σ' H') ?_ m0 ⟨0,_,H3,IY,HM,λb hb=>(f3 b hb).1,w0⟩
  rintro n s5 ⟨i,σ5,H5,I5,zX,Cj,w5⟩
  rcases turn i n σ5 H5 w5 with⟨stop,qn⟩|⟨go,S,N,TU,step⟩
  . refine aZ (T.done (cJ X N2 scope cl s3 H3 fp) rfl rfl rfl hc i [] s5 σ5 H5 (λ_ _=>False) I5 (oj Cj) zX stop) λr s6 ⟨hr,I6⟩=>?_
    subst hr
    obtain⟨m6,TV,_⟩:=id I6.loc
    have IX:Inv X AC σ H5 s6:=I3.DH (ch:=fp) I6.os I6.base I6.hok I6.bare λb hb=>⟨(f3 b hb).2.2.2.1,(f3 b hb).2.1,(f3 b hb).2.2.2.2.1,(f3 b hb).2.2.2.2.2⟩
    refine hR Ap s3.heap.objs.size H5 s6 m6 IX TV I6.free yb I3.sz (λx c e z=>?_) (λp hp z=>?_) qn
    . obtain⟨v,q⟩:=I3.cell x c e
      exact absurd q.lt (by rw[z];exact i7 _)
    . exact absurd (bM (I3.pin p hp).1) (by rw[z];exact i7 _)
  . refine aZ (T.item (cJ X N2 scope cl s3 H3 fp) rfl rfl rfl hc i [] s5 σ5 H5 (λ_ _=>False) I5 (oj Cj) zX go) λr s6 ⟨u,hr,h6⟩=>?_
    subst hr
    refine aZ h6 λ_ s7 ⟨x,H7,I7,r7,y7,yc,Ld⟩=>?_
    have TY:=I7.pinned (oj Ld) (T.obj _ _ yc)
    refine aZ (hg cl s3 H3 fp _ s7 σ5 H7 x u _ TY r7 (step x H7 y7)) λ_ s8 ⟨σ8,H8,I8,PV,q8⟩=>?_
    refine aZ (he cl s3 H3 fp _ s8 σ8 H8 _ I8 q8) λy s9 ⟨v,H9,I9,r9,q9⟩=>?_
    obtain⟨xs,hxs,TZ,m',hm,w9⟩:=TU σ8 v H9 PV q9
    refine aZ (ee _ s9 σ8 H9 (.ref Ap) [v] (.ref Ap) [y] (λz DZ=>z =.cI/\DZ=upd H9 Ap (.lst (xs++[v]))) I9 rfl (.cons r9 .nil) ⟨Ap,xs,v,Z,Z,hxs,TZ,Z,Z⟩) λz s10 ⟨zv,DZ,Av,r10,ez,eH⟩=>?_
    subst eH
    refine⟨m',hm,i+1,σ8,_,Av.oh,T.keep _ _ _ yc λb hb o e=>(Av.pin (b,o) (iQ _ (iQ _ (iu hb e)))).1,λb hb=>?_,w9⟩
    obtain⟨o,e,d⟩:=T.obj _ _ yc b hb
    exact(Av.pin (b,o) (iQ _ (iQ _ (iu hb e)))).2.1
 exact codeAny_compStart_list loop (T.self _ 0 _ _ _ HM loop)
end
variable {H':Hp}
def aJ.cW{p:Addr}(e:aJ H H')(h:H p=none)(o:HO):aJ H (upd H' p o):=λb u q=>by rw[au (aA q h)];exact e b u q
def T3{p:Addr}{q:Rat}(h:H p=some (tQ q)):Dt K H (.ref p) (.tuple [.int q.num,.int (q.den:Int)]):=.tup (dm.of h) (.cons (.int _) (.cons (.int _) .nil))
section
variable {X:Cx}
theorem Ws(hc:X.calm=true):i_ X (.builtin "sum") (λxs H Q=>∃(a:Addr)(ns:Da Int),xs=[.ref a]/\aG X.K H a (ns.map V.int)/\Q (.int ns.sum) H):=by
 intro AC s σ H xs us Q I r h;obtain⟨a,ns,rfl,hS,q⟩:=h;obtain⟨u,rfl,ru⟩:=vals1 r;cases ru;obtain⟨BT,rv,p,hz⟩:=I.list hS;have hi:=intsAre_of rv;have hl:=p.isList;obtain⟨o,ho,_⟩:=id hl;have hne:a≠s.heap.objs.size:=d7 (bM ho);have W:=(Walks.list (prog:=X.prog) (w:=X.w) (A:=X.A.in1) (I.ok.hd hc) s.heap.objs.size a hne BT.toArray).toS;have D0:BT.length=ns.length:=by rw[<-rv.length,aF]
 refine call_sum_walkAnyS (Rz hl ?_);refine⟨s.heap.objs.size,_,_,_,_,_,_,λi=>ns.getD i 0,Z,W,⟨⟨_,ef _ rfl,Z,Z⟩,hl.at λo e=>b9 _ e⟩,λb hb=>?_,λi v hP=>?_,λs' t' hm=>?_⟩
 .rcases b_.mp hb with rfl|hb
  .exact bM (ef _ rfl)
  .obtain rfl:=eO.mp hb;exact bM (b9 _ ho)
 .have T4:BT[i]?=some v:=by simpa using hP
  have hil:i<ns.length:=by have:=(dX.mp T4).1;omega
  obtain⟨u,hu,ru⟩:=rv.get (i:=i) (x:=V.int ns[i]) (by rw[cu,bu hil];rfl);rw[T4]at hu;cases hu;obtain⟨t,e⟩:=ru;refine⟨t,?_⟩;rw[e];show Value.int ns[i] t=Value.int (ns.getD i 0) t;rw[nE,bu hil];rfl
 .obtain ⟨h',g',d',tk',os'⟩:=s';have e1:g'=s.gens:=hm.gens;have e2:d'=s.drawn:=hm.drawn;have e3:os'=s.os:=hm.os;subst e1 e2 e3;have hsz:BT.toArray.size=ns.length:=by rw[iR,D0]
  rw[hsz,preSum_getD,Rj (aK _)];exact⟨.int ns.sum,H,I.kept (h':=h') (t':=tk') λb o e=>hm.heap b o (λhb=>absurd (bM e) ((eO.mp hb)▸i7 _)) (b9 _ e),⟨t',Z⟩,q⟩
theorem Wt(hc:X.calm=true):i_ X (.builtin "all") (λxs H Q=>∃(a:Addr)(bs:Da Bool),xs=[.ref a]/\aG X.K H a (bs.map V.bl)/\Q (.bl (bs.all id)) H):=by
 intro AC s σ H xs us Q I r h;obtain⟨a,bs,rfl,hS,q⟩:=h;obtain⟨u,rfl,ru⟩:=vals1 r;cases ru;obtain⟨BT,rv,p,hz⟩:=I.list hS;have hl:=p.isList;obtain⟨o,ho,_⟩:=id hl;have hne:a≠s.heap.objs.size:=d7 (bM ho);have D0:BT.length=bs.length:=by rw[<-rv.length,aF]
 refine call_all_walk (Rz hl ?_);refine⟨s.heap.objs.size,_,_,_,_,_,λi=>bs.getD i false,Z,Walks.list (prog:=X.prog) (w:=X.w) (A:=X.A.in1) (I.ok.hd hc) s.heap.objs.size a hne BT.toArray,⟨⟨_,ef _ rfl,Z,Z⟩,hl.at λo e=>b9 _ e⟩,λi v s' Q' E' hP hQ=>?_,λh' tk hk=>?_⟩
 .have T4:BT[i]?=some v:=by simpa using hP
  have hil:i<bs.length:=by have:=(dX.mp T4).1;omega
  obtain⟨u,hu,ru⟩:=rv.get (i:=i) (x:=V.bl bs[i]) (by rw[cu,bu hil];rfl);rw[T4]at hu;cases hu;have e:v=Value.bool bs[i] :=ru;subst e;refine Fw ?_;have hQ2:Q' (bs.getD i false) s':=hQ;rw[nE,bu hil]at hQ2;exact hQ2
 .have hsz:BT.toArray.size=bs.length:=by rw[iR,D0]
  have e:(List.range BT.toArray.size).all (λi=>bs.getD i false)=bs.all id:=by
   rw[hsz,Br,pJ,pJ];refine⟨λz x hx=>?_,λz i hi=>?_⟩
   .obtain ⟨i,hi,e⟩:=List.mem_iff_getElem.mp hx;have:=z i (yz.mpr hi);rw[nE,bu hi]at this;rw[<-e];exact this
   .have hi':=yz.mp hi;rw[nE,bu hi'];exact z _ (Kd hi')
  rw[e];exact⟨.bl (bs.all id),H,I.kept (h':=h') (t':=tk) λb o e=>hk b o (λhb=>absurd (bM e) ((eO.mp hb)▸i7 _)) (b9 _ e),Z,q⟩
end
section
variable {X:Cx}(K:Fg)
def aY(hK:X.K=K:=by rfl):zU X (K2 K):=hK▸Tq
def cZ(hK:X.K=K:=by rfl):zU X (RO K):=hK▸PM
def BH(hu:X.A.units+64<cLine)(hK:X.K=K:=by rfl):jW X (compareOp .NotEq) (Wq K):=hK▸abi hu
def Aw(hc:X.calm=true)(hK:X.K=K:=by rfl):i_ X (.builtin "sum") (λxs H Q=>∃(a:Addr)(ns:Da Int),xs=[.ref a]/\aG K H a (ns.map V.int)/\Q (.int ns.sum) H):=hK▸Ws hc
def T5(hc:X.calm=true)(hK:X.K=K:=by rfl):i_ X (.builtin "all") (λxs H Q=>∃(a:Addr)(bs:Da Bool),xs=[.ref a]/\aG K H a (bs.map V.bl)/\Q (.bl (bs.all id)) H):=hK▸Wt hc
def dU(hK:X.K=K:=by rfl):i_ X (.builtin "len") (λxs H Q=>∃p ys,xs=[.ref p]/\(aG K H p ys\/dm K H p ys)/\Q (.int ys.length) H):=hK▸K3
def fJ(hK:X.K=K:=by rfl):i_ X (.type "list") (λxs H Q=>∃p ys,xs=[.ref p]/\(aG K H p ys\/dm K H p ys)/\∀l,H l=none->Q (.ref l) (upd H l (.lst ys))):=hK▸K5
end
inductive lM(H:Hp):Da V->Da Rat->Prop
 | nil:lM H [] []
 | cons {r:Addr} {q:Rat} {vs:Da V} {qs:Da Rat}:H r=some (tQ q)->lM H vs qs->lM H (.ref r::vs) (q::qs)
variable {vs:Da V}
def lM.mono{qs:Da Rat}(h:lM H vs qs)(g:aJ H H'):lM H' vs qs:=by
 induction h with
 | nil=>exact .nil
 | cons e _ ih=>exact .cons (g _ _ e) ih
variable {xs ys:Da V}
def lM.Zs{qs:Da Rat}(h:lM H vs qs)(ha:H a=some (.lst xs)):lM (upd H a (.lst ys)) vs qs:=by
 induction h with
 | nil=>exact .nil
 | cons e _ ih=>exact .cons (by rw[au (i8 e ha (by intro z;cases z))];exact e) ih
variable {r:Addr}
def lM.snoc{qs:Da Rat}{q:Rat}(h:lM H vs qs)(e:H r=some (tQ q)):lM H (vs++[.ref r]) (qs++[q]):=by
 induction h with
 | nil=>exact .cons e .nil
 | cons e2 _ ih=>exact .cons e2 ih
noncomputable def abn(q:Rat):PyData:=.tuple [.int q.num,.int (q.den:Int)]
def lM.dt{qs:Da Rat}(h:lM H vs qs):ux K H vs (qs.map abn):=by
 induction h with
 | nil=>exact .nil
 | cons e _ ih=>exact .cons (T3 e) ih
theorem Od{n l1 l2:Nat}(h1:l1<n)(h2:l2<n):ZipApart (n+4) (n+2) (n+3) n (n+1) l1 l2:=by
 have nn:∀i j:Nat,i≠j->n+i≠n+j:=λi j h e=>h (Nat.add_left_cancel e);have ne:∀(c k:Nat),c<n->c≠n+k:=λc k h=>by omega
 exact⟨nn 2 4 (by decide),nn 3 4 (by decide),nn 0 4 (by decide),nn 1 4 (by decide),nn 2 3 (by decide),nn 2 0 (by decide),nn 2 1 (by decide),nn 3 0 (by decide),nn 3 1 (by decide),nn 0 1 (by decide),ne _ 4 h1,ne _ 3 h1,ne _ 0 h1,ne _ 1 h1,ne _ 4 h2,ne _ 3 h2,ne _ 0 h2,ne _ 1 h2⟩
section
variable {X:Cx}{DD:Da Expr}{kk:Nat}{tpos:Pos}
end
inductive ae8(K:Fg)(vs:Da V)(H:Hp)(Q:VK)(E:XK):Prop
 |mk(a:Addr)(ns:Da Int)(k j:Int)(_:vs=[.ref a,.int k,.int j])(_:aG K H a (ns.map V.int))(_:ns.length<=63)(_:0<=k)(_:0<=j)(_:j<2 ^ 61)(_:∀(m:Int) (H':Hp),1<=m->m<=1000000000->aJ H H'->Q (.int m) H')
def D3(K:Fg):Sp:=bx (ae8 K)
def Le{Q:VK}{E:XK}{k j:Int}(hS:aG K H a (ns.map V.int))(h63:ns.length<=63)(h1:0<=k)(h2:0<=j)(h3:j<2 ^ 61)(h:∀(m:Int) (H':Hp),1<=m->m<=1000000000->aJ H H'->Q (.int m) H'):D3 K [.ref a,.int k,.int j] H Q E:=⟨a,ns,k,j,Z,hS,h63,h1,h2,h3,h⟩
section
variable {X:Cx}
inductive ae9(Q:VK)(vs:Da V)(H1:Hp):Prop
 |mk(j:Int)(_:vs=[.int j])(_:∀p,H1 p=none->Q (.ref p) (upd H1 p (.wN 0 j)))
def aiR(ta:TA):TE:=λσ H Q=>ta σ H (ae9 Q)
noncomputable def upTo(n:Nat):Da Int:=(List.range n).map λi=>((i:Nat):Int)
theorem Jd(hc:X.calm=true):i_ X (.type "list") (λxs H Q=>∃(r:Addr)(n:Nat),xs=[.ref r]/\H r=some (.wN 0 (n:Int))/\n<=1000/\∀l,H l=none->Q (.ref l) (upd H l (.lst ((upTo n).map V.int)))):=by
 intro AC s σ H xs us Q I r h;obtain⟨a,n,rfl,hr,hn,q⟩:=h;obtain⟨u,rfl,ru⟩:=vals1 r;cases ru;obtain⟨t,t2,t3,e⟩:=(show e_ X.prog X.w H s.heap a (.wN 0 (n:Int))from I.hok a _ hr)
 refine call_list_range (n:=n) (I.ok.hd hc) e (small_one (by decide) (by decide) (by omega) (by omega)) (by rw[rangeSize_one];split <;> omega) (by omega) λh' tk acc' c' hk hS hI=>?_;obtain⟨hsz,hit⟩:=hI;have hv:Vals ((upTo n).map V.int) acc'.toList:=by
  have gen:∀(m:Nat)(us:Da Value)(k:Nat),us.length=m->(∀(j:Nat)(v:Value),us[j]?=some v->∃t,v =.int ((0:Int)+((k+j:Nat):Int)*1) t)->Vals (((List.range' k m).map λi=>((i:Nat):Int)).map V.int) us:=by
   intro m
   induction m with
   | zero=>intro us k hl _;rw[List.length_eq_zero_iff.mp hl];exact .nil
   | succ m ih=>
    intro us k hl hu;cases us with
    | nil=>cases hl
    | cons v r=>
     obtain⟨t,e⟩:=hu 0 v rfl;refine .cons ⟨t,?_⟩ (ih r (k+1) (by simpa using hl) λj v' hj=>?_)
     .rw [e];show Value.int _ t=Value.int ((k:Nat):Int) t;congr 1;omega
     .obtain ⟨t,e⟩:=hu (j+1) v' (by simpa using hj);exact⟨t,by rw[e];congr 1;omega⟩
  have:=gen n acc'.toList 0 (by simpa using hsz) λj v hj=>by obtain⟨t,e⟩:=hit j v (by simpa using hj);exact⟨t,by rw[e];congr 1;omega⟩
  unfold upTo;rw[List.range_eq_range'];exact this
 have hlen:((upTo n).map V.int).length<=sizeLine:=by unfold upTo;simp;exact small (by omega)
 exact⟨.ref s.heap.objs.size,_,I.laid (a:=s.heap.objs.size) (o:=.lst ((upTo n).map V.int)) (h':=h') (t':=tk) hk (aK _) ⟨hlen,acc'.toList,c',hv,by simpa using hS⟩,Z,q _ I.fresh⟩
inductive Zt(K:Fg)(Q:VK)(x:V)(y:V)(H2:Hp):Prop
 |mk(_:y =.int (-1))(a xs:_)(_:x =.ref a)(_:aG K H2 a xs)(_:∀p,H2 p=none->Q (.ref p) (upd H2 p (.lst xs.reverse)))
def ae_(K:Fg)(ts:TE)(σ:St)(Q:VK):V->Hp->Prop:=λx H1=>ts σ H1 (Zt K Q x)
def aiS(K:Fg)(te ts:TE):TE:=λσ H Q=>te σ H (ae_ K ts σ Q)
end
theorem sum_set:∀(as:Da Int)(j:Nat)(x:Int),j<as.length->(as.set j x).sum=as.sum-as.getD j 0+x
 | [],j,_,h=>absurd h (Nat.not_lt_zero _)
 | a::r,0,x,_=>by show(x::r).sum=(a::r).sum-a+x;rw[fY,fY];omega
 | a::r,j+1,x,h=>by show(a::r.set j x).sum=(a::r).sum-r.getD j 0+x;rw[fY,fY,sum_set r j x (by simpa using h)];omega
def Wu(as:Da Int)(j k:Nat)(x:Int)(h:j<as.length):(as.set j x).getD k 0=if k=j then x else as.getD k 0:=by
 rw[nE,List.getElem?_set];by_cases e:j=k
 .subst e;rw[aB rfl,aB h,aB rfl];rfl
 .rw [aC e,aC (bB e),<-nE]
theorem yd{n k:Nat}(h:k<n):Ak n (k:Int)=some k:=by unfold Ak;rw[aB (by omega),aB (by omega)];rfl
abbrev tx(cs:Da Nat):Str:=⟨cs.toArray⟩
def Lf(x:Str):tx x.cps.toList=x:=by cases x;rfl
def Ax(cs:Da Nat):(tx cs).length=cs.length:=by show cs.toArray.size=_;rw[iR]
def abo(a b:Da Nat):(tx a++tx b:Str)=tx (a++b):=by show(⟨a.toArray++b.toArray⟩:Str)=_;simp[tx]
def X4(cs:Da Nat):It:=⟨λi _=>i<cs.length,λi H v H'=>H'=H/\∃c,cs[i]?=some c/\v =.str (tx [c]),λi _=>cs.length<=i⟩
theorem RT{P:Program}{w:World}{K:Fg}{tg:Expr}(x:Str)(t:Tok)(it:Addr):Turn P w K tg (X4 x.cps.toList) [it] it (λi h=>h.IsStrIter it "str_ascii_iterator" x t i) where
 mem:=by simp
 obj:=λi h st b hb=>by
  have e:b=it:=by simpa using hb
  subst e;obtain⟨o,e,c,d⟩:=st;exact⟨o,e,λv z=>by rw[d]at z;cases z⟩
 keep:=λi h h' st k=>let⟨o,ho,r⟩:=st;⟨o,k it (by simp) o ho,r⟩
 item:=by
  intro X hP hw hK hc i AC s σ H E I hf st hg;subst hP hw hK;have hi:i<x.cps.size:=by have hg':i<x.cps.toList.length:=hg;simpa using hg'
  obtain⟨f0,f1,f2,f3,f4,f5⟩:=hf it (by simp);refine wpAny_pyNext_ascii_item st (c:=x.cps[i]) (by simp[hi]) λh' st' sb=>?_;have I1:Inv X AC σ H { s with heap:=h',toks:=s.toks+1 }:=I.turned (t':=s.toks+1) (λb o hb e=>sb.extBut b o hb e) f0 f1 f3 f4 f5;obtain⟨o,e,c,d⟩:=id st';exact⟨_,Z,BC (s:={ s with heap:=h',toks:=s.toks+1 }) e c d (by decide) ⟨.str (tx [x.cps[i]]),H,I1,⟨_,Z⟩,⟨Z,x.cps[i],by simp[hi],Z⟩,st',λb hb=>(hf b hb).1⟩⟩
 done:=by
  intro X hP hw hK hc i AC s σ H E I hf st hg;subst hP hw hK;have hi:x.cps.size<=i:=by have hg':x.cps.toList.length<=i:=hg;simpa using hg'
  obtain⟨f0,f1,f2,f3,f4,f5⟩:=hf it (by simp);exact wpAny_pyNext_ascii_end (I.ok.hd hc) st (by simp;omega) λh' eb=>⟨Z,I.turned (t':=s.toks) (λb o hb e=>eb b o hb e) f0 f1 f3 f4 f5⟩
 self:=λ_ _ _ _ _ st h=>wpAny_pyIter_striter_ascii st h
theorem T6{P:Program}{w:World}{K:Fg}{tg:Expr}(x:Str)(t:Tok)(it:Addr):Turn P w K tg (X4 x.cps.toList) [it] it (λi h=>h.IsStrIter it "str_iterator" x t i) where
 mem:=by simp
 obj:=λi h st b hb=>by
  have e:b=it:=by simpa using hb
  subst e;obtain⟨o,e,c,d⟩:=st;exact⟨o,e,λv z=>by rw[d]at z;cases z⟩
 keep:=λi h h' st k=>let⟨o,ho,r⟩:=st;⟨o,k it (by simp) o ho,r⟩
 item:=by
  intro X hP hw hK hc i AC s σ H E I hf st hg;subst hP hw hK;have hi:i<x.cps.size:=by have hg':i<x.cps.toList.length:=hg;simpa using hg'
  obtain⟨f0,f1,f2,f3,f4,f5⟩:=hf it (by simp);refine wpAny_pyNext_wide_item st (c:=x.cps[i]) (by simp[hi]) λh' st' sb=>?_;have I1:Inv X AC σ H { s with heap:=h',toks:=s.toks+1 }:=I.turned (t':=s.toks+1) (λb o hb e=>sb.extBut b o hb e) f0 f1 f3 f4 f5;obtain⟨o,e,c,d⟩:=id st';exact⟨_,Z,BC (s:={ s with heap:=h',toks:=s.toks+1 }) e c d (by decide) ⟨.str (tx [x.cps[i]]),H,I1,⟨_,Z⟩,⟨Z,x.cps[i],by simp[hi],Z⟩,st',λb hb=>(hf b hb).1⟩⟩
 done:=by
  intro X hP hw hK hc i AC s σ H E I hf st hg;subst hP hw hK;have hi:x.cps.size<=i:=by have hg':x.cps.toList.length<=i:=hg;simpa using hg'
  obtain⟨f0,f1,f2,f3,f4,f5⟩:=hf it (by simp);exact wpAny_pyNext_wide_end (I.ok.hd hc) st (by simp;omega) λh' eb=>⟨Z,I.turned (t':=s.toks) (λb o hb e=>eb b o hb e) f0 f1 f3 f4 f5⟩
 self:=λ_ _ _ _ _ st h=>wpAny_pyIter_striter_wide st h
variable {cs:Da Nat}{Ap:Addr}
section
variable {X:Cx}{tg:Expr}
inductive afa(R:It->Hp->Prop)(x:V)(H1:Hp):Prop
 |mk(cs:Da Nat)(_:x =.str (tx cs))(_:R (X4 cs:_) H1)
def abp(te:TE):TI:=λσ H R=>te σ H (afa R)
def abq{l:Expr}{tl:TE}(hl:PE X l tl):PI X tg l (abp tl):=by
 intro AC s σ H R I h;refine aZ (hl AC s σ H _ I h) λv s1 ⟨x,H1,I1,r1,q1⟩=>?_;obtain⟨cs,e,q⟩:=q1;subst e;obtain⟨t,rfl⟩:=r1;have fp:∀b∈[s1.heap.objs.size],mj X AC H1 b:=λb hb=>by
  have e:b=s1.heap.objs.size:=by simpa using hb
  subst e;exact I1.CC (aK _) (I1.hok.fresh (aK _))
 have tw:=@T6 X.prog X.w X.K tg (tx cs) t s1.heap.objs.size;have ta:=@RT X.prog X.w X.K tg (tx cs) t s1.heap.objs.size;cases ha:(tx cs).cps.all (·<128)
 .exact wpAny_pyIter_wide ha ⟨s1.heap.objs.size,[s1.heap.objs.size],_,_,H1,Z,I1.kept (t':=s1.toks) λb o e=>b9 _ e,tw,⟨_,ef _ rfl,Z,Z⟩,fp,q⟩
 .exact wpAny_pyIter_ascii ha ⟨s1.heap.objs.size,[s1.heap.objs.size],_,_,H1,Z,I1.kept (t':=s1.toks) λb o e=>b9 _ e,ta,⟨_,ef _ rfl,Z,Z⟩,fp,q⟩
theorem Wv{k:Nat}{Q:VK}(Pv:Nat->Da V->Hp->Prop)(hn:cs.length<=100000)(h0:Pv 0 [] (upd H Ap (.lst [])))(hs:∀(i:Nat) (c:Nat) (out:Da V) (H1:Hp),cs[i]?=some c->out.length=i->H1 Ap=some (.lst out)->Pv i out H1->te (σ2.set k (some (.str (tx [c])))) H1 (yP Pv i Ap out))(hd:∀(out:Da V) (H1:Hp),out.length=cs.length->H1 Ap=some (.lst out)->Pv cs.length out H1->Q (.ref Ap) H1):
  DV (X4 cs) (pP k) te Ap σ2 H Q:=by
 refine⟨λi m σ' H'=>m=cs.length-i/\i<=cs.length/\(∀v,σ'.set k (some v)=σ2.set k (some v))/\∃out,out.length=i/\H' Ap=some (.lst out)/\Pv i out H',⟨cs.length,by simp,fm _,λ_=>rfl,[],Z,ah,h0⟩,?_⟩
 rintro i m σ' H' ⟨rfl,hi,hσ,out,ho,ha,p⟩
 by_cases hlt:i<cs.length
 . refine .inr ⟨hlt,λσ3=>∀v,σ3.set k (some v)=σ2.set k (some v),(yP Pv i Ap out),λσ3 v H4 hS ⟨a,b⟩=>?_,λx H1 y=>?_⟩
   . refine⟨out,a,?_,cs.length-(i+1),by omega,Z,hlt,hS,out++[v],by rw[cX,ho];rfl,ah,b⟩
     have:sizeLine=16777216:=jY
     omega
   . obtain⟨e,c,hc,ex⟩:=y
     subst e ex
     refine⟨λv=>by rw[wK];exact hσ v,?_⟩
     have q2:=hs i c out _ hc ho ha p
     rw[<-hσ]at q2
     exact q2
 . have e:i=cs.length:=by omega
   subst e
   exact .inl ⟨aK _,hd out H' ho ha p⟩
end
noncomputable def D5(signs:Str)(c:Nat):Bool:=!(Builtin.Str.occurrences signs (tx [c]) 0 signs.length 1).isEmpty
noncomputable def lQ(c:Int)(n:Nat):Da Nat:=(List.range n).map λi=>97+((c / 26 ^ i) % 26).toNat
def yQ(c:Int)(n:Nat):(lQ c n).length=n:=by unfold lQ;rw[aF,List.length_range]
def Ww(c:Int)(n:Nat):lQ c (n+1)=lQ c n++[97+((c / 26 ^ n) % 26).toNat] :=by unfold lQ;rw[List.range_succ,b8];rfl
theorem T7{k:Int}(h0:0<=k)(h1:k<26):pS (("abcdefghijklmnopqrstuvwxyz":Str).cps.toList) k=some (97+k.toNat):=by
 have h:∀n:Nat,n<26->("abcdefghijklmnopqrstuvwxyz":Str).cps.toList[n]?=some (97+n):=by decide +kernel
 have e:k=((k.toNat:Nat):Int):=by omega
 have:=aN (h k.toNat (by omega));rw[<-e]at this;exact this
structure FD(vs:Da V)(H:Hp)(Q:VK)(E:XK):Prop where
 ex:∃(c:Int)(n:Nat),vs=[.int c,.int (n:Int)]/\0<=c/\n<=1000/\Q (.str (tx (lQ c n))) H
def Lg{Q:VK}{E:XK}{c ni:Int}{n:Nat}(e:ni=(n:Int))(hc:0<=c)(hn:n<=1000)(q:Q (.str (tx (lQ c n))) H):FD [.int c,.int ni] H Q E:=by subst e;exact⟨c,n,Z,hc,hn,q⟩
inductive Zu(vs:Da V)(H:Hp)(Q:VK)(E:XK):Prop
 |mk(cs:Da Nat)(signs:Str)(_:vs=[.str (tx cs),.str signs])(_:cs.length<=100000)(_:∀H',aJ H H'->Q (.bl (cs.all (D5 signs))) H')
def CJ:Sp:=bx (Zu)
def RU{H:Hp}{Q:VK}{E:XK}{cs:Da Nat}{signs:Str}(hl:cs.length<=100000)(q:∀H',aJ H H'->Q (.bl (cs.all (D5 signs))) H'):CJ [.str (tx cs),.str signs] H Q E:=⟨cs,signs,Z,hl,q⟩
noncomputable def isName(cs:Da Nat):Bool:=decide (1<=(cs.length:Int)) && decide ((cs.length:Int)<=8) && cs.all (D5 "abcdefghijklmnopqrstuvwxyz")
inductive Zv(vs:Da V)(H:Hp)(Q:VK)(E:XK):Prop
 |mk(cs:Da Nat)(_:vs=[.str (tx cs)])(_:cs.length<=100000)(_:∀H',aJ H H'->Q (.bl (isName cs)) H')
def yR:Sp:=bx (Zv)
def D6{Q:VK}{E:XK}(hl:cs.length<=100000)(q:∀H',aJ H H'->Q (.bl (isName cs)) H'):yR [.str (tx cs)] H Q E:=⟨cs,Z,hl,q⟩
def D7{p q:Prop}(h:if true=true then p else q):p:=by rwa [aB rfl]at h
def D8{p q:Prop}(h:if false=true then p else q):q:=by rwa [aC iA]at h
variable {cond:Expr}
section
variable {prog:Program}{w:World}{A:Around}{R:Result->Shared->Prop}{s:Shared}
theorem Je{it Ap:Value}(J:Nat->Shared->Prop)(turn:∀n s,J n s->wpAny (model prog w) A (pyNext it) (λr s₁=>match r with
    | none=>R (.ok .next) s₁
    | some v=>wpAny (model prog w) A (letOwnedTupleGo target it v) (λ_ s₂=>wpAny (model prog w) A (assign target env v) (λ_ s₃=>wpAny (model prog w) A (isTrue cond env (eval cond env)) (λok s₃'=>if ok=true then
       wpAny (model prog w) A (eval elt env) (λx s₄=>wpAny (model prog w) A (call (.builtin "list.append") [Ap,x]) (λ_ s₅=>∃m,m<n/\J m s₅) (λ_ _=>False) s₄) (λ_ _=>False) s₃'
       else ∃m,m<n/\J m s₃') (λ_ _=>False) s₃) (λ_ _=>False) s₂) (λ_ _=>False) s₁) (λ_ _=>False) s)(n:Nat)(h:J n s):codeAny (model prog w) A (.compLoop (.ListComp elt [⟨target,Bn,[cond],0⟩] scope pos) 0 it Ap env) R s:=by
 refine codeAny_loop rfl J (λn s hI=>?_) n h
 show wpAny _ A ((compTurn (.ListComp elt [⟨target,Bn,[cond],0⟩] scope pos) 0 it Ap env).onRaise (λx=>do noteFrame x env;theTreesLotGoes x)) _ _ s
 refine wpAny_noted ?_
 rw[compTurn_list]
 refine az (yE (az (fq (turn n s hI) (λr s₁ h₁=>?_) λ_ _ h'=>h'.elim)))
 cases r with
 | none=>exact aT h₁
 | some v=>
   refine az (fq h₁ (λ_ s₂ h₂=>az (fq h₂ (λ_ s₃ h₃=>?_) λ_ _ h'=>h'.elim)) λ_ _ h'=>h'.elim)
   refine az (wpAny_tests_one (fq h₃ (λok s₃' h₃'=>?_) λ_ _ h'=>h'.elim))
   cases ok with
   | false=>exact aT ⟨Z,D8 h₃'⟩
   | true=>exact az (az (fq (D7 h₃') (λx s₄ h₄=>az (fq h₄ (λ_ s₅ h₅=>aT (aT ⟨Z,h₅⟩)) λ_ _ h'=>h'.elim)) λ_ _ h'=>h'.elim))
end
variable {tc:TT}{wi:TI}
section
variable {X:Cx}
def D9(J:It)(g:TG)(tc:TT)(te:TE)(Ap:Addr)(σ₀:St)(H:Hp)(Q:VK):Prop:=∃W:Nat->Nat->St->Hp->Prop,(∃m,W 0 m σ₀ (upd H Ap (.lst [])))/\∀i m σ2 H2,W i m σ2 H2->(J.stop i H2/\Q (.ref Ap) H2)\/(J.go i H2/\∃(S:St->Prop)(N:V->Hp->Prop)(N0:Hp->Prop),(∀σ3 v H4,S σ3->N v H4->∃xs,H4 Ap=some (.lst xs)/\xs.length<sizeLine/\∃m',m'<m/\W (i+1) m' σ3 (upd H4 Ap (.lst (xs++[v]))))/\(∀σ3 H4,S σ3->N0 H4->∃m',m'<m/\W (i+1) m' σ3 H4)/\∀x H',J.Ah i H2 x H'->g x σ2 H' λσ3 H3=>S σ3/\tc σ3 H3 λb H4=>if b=true then te σ3 H4 N else N0 H4)
def Zw(ix:Da (Option Nat))(g:TG)(tc:TT)(te:TE)(σ:St)(Q:VK):It->Hp->Prop:=λJ H1=>∀Ap,H1 Ap=none->D9 J g tc te Ap (pick ix σ) H1 Q
def T8(wi:TI)(ix:Da (Option Nat))(g:TG)(tc:TT)(te:TE):TE:=λσ H Q=>wi σ H (Zw ix g tc te σ Q)
theorem Oe{ix:Da (Option Nat)}{g:TG}{Q:VK}{RR:Value->Addr->Result->Shared->Prop}(hc:X.calm=true)(hg:∀cl s₂ H₂ fp,PG (cJ X N2 scope cl s₂ H₂ fp) tg g)(he:∀cl s₂ H₂ fp,PE (cJ X N2 scope cl s₂ H₂ fp) elt te)(ht:∀cl s₂ H₂ fp,PT (cJ X N2 scope cl s₂ H₂ fp) cond tc)(hk:scope.kind =.function)(hn:nH X.N X.env.scope.names scope.names N2 ix=true)(CI:∀y c,(y,c)∈cl->X.env.cells.lookup y=some c)(Au:∀y,(y,NameKind.free)∈scope.names->∃c,(y,c)∈cl){it:Addr}{fp:Da Addr}{tn:Nat->Heap->Prop}{J:It}(I:Inv X AC σ H s)(T:Turn X.prog X.w X.K tg J fp it tn)(st:tn 0 s.heap)(f:∀b∈fp,mj X AC H b)(h:∀Ap,H Ap=none->D9 J g tc te Ap (ix.map λo=>o.bind λj=>(σ[j]?).join) H Q)(hR:∀Ap C H' s' m,Inv X AC σ H' s'->s'.heap.Ns C m->H' C=none->C≠X.env.locals->X.s₀.heap.objs.size<=C->(∀x c,X.env.cells.lookup x=some c->c≠C)->(∀p∈X.pn++AC,p.1≠C)->Q (.ref Ap) H'->RR (.ref Ap) C (.ok .next) s'):
  wpAny (model X.prog X.w) X.A (newList []) (λAp s₃=>wpAny (model X.prog X.w) X.A (newFunctionEnv scope X.env.globals cl [] X.env.qual none .none (some X.env)) (λcenv s₄=>
   codeAny (model X.prog X.w) X.A (.compStart (.ListComp elt [⟨tg,Bn,[cond],0⟩] scope pos) 0 (.ref it) Ap { cenv with scope:=relabel scope X.env }) (RR Ap cenv.locals) s₄) E s₃) E s:=by
 obtain⟨k1,k2,k3,k4,k5⟩:=kL hn
 refine xC ?_
 have I3:Inv X AC σ (upd H s.heap.objs.size (.lst [])) { s with heap:=s.heap.push { cls:=.type "list",data:=.seq ([] :Da Value).toArray } }:=
  I.laid (a:=s.heap.objs.size) (o:=.lst []) (t':=s.toks) (λ_ _ q=>b9 _ q) (aK _) ⟨fm _,[],_,.nil,ef _ rfl⟩
 obtain⟨W,⟨m0,w0⟩,turn⟩:=h s.heap.objs.size I.fresh
 have fo:∀b∈fp,b<s.heap.objs.size:=λb hb=>by obtain⟨o,e,_⟩:=T.obj 0 _ st b hb;exact bM e
 have st3:tn 0 (s.heap.push { cls:=.type "list",data:=.seq ([] :Da Value).toArray }):=T.keep _ _ _ st λb _ o e=>b9 _ e
 have f3:∀b∈fp,mj X AC (upd H s.heap.objs.size (.lst [])) b:=λb hb=>⟨by rw[au (d7 (fo b hb))];exact(f b hb).1,(f b hb).2⟩
 have HL:∀b∈fp,b<(s.heap.push { cls:=.type "list",data:=.seq ([] :Da Value).toArray }).objs.size:=λb hb=>by rw[kJ];exact KN (fo b hb)
 generalize TQ:({ s with heap:=s.heap.push { cls:=.type "list",data:=.seq ([] :Da Value).toArray } }:Shared)=s3 at *
 have TR:s3.heap=s.heap.push { cls:=.type "list",data:=.seq ([] :Da Value).toArray }:=by rw[<-TQ]
 rw[<-TR]at st3 HL
 generalize s.heap.objs.size=Ap at *
 generalize eH3:upd H Ap (.lst [])=H3 at *
 have IY:=yO (N2:=N2) (scope:=scope) (cl:=cl) (fp:=fp) (σ2:=ix.map λo=>o.bind λj=>(σ[j]?).join) I3 hk CI Au f3 HL (by rw[aF];exact k1) (λi x v e1 e2=>by
  rw[cu]at e2;cases ei:ix[i]? with
  | none=>rw[ei]at e2;cases e2
  | some o=>
   rw[ei]at e2;cases o with
   | none=>cases e2
   | some j=>
    obtain⟨a1,a2,a3⟩:=k2 i x j e1 ei;refine⟨a2,a3,j,a1,?_⟩;have e3:(σ[j]?).join=some v:=fM e2;cases ej:σ[j]? with
    | none=>rw[ej]at e3;cases e3
    | some z=>rw[ej]at e3;exact rQ some e3) k5
 have ne:wpAny (model X.prog X.w) X.A (newFunctionEnv scope X.env.globals cl [] X.env.qual none .none (some X.env)) (λcenv s₄=>
   cenv={ scope:=scope,locals:=s3.heap.objs.size,globals:=X.env.globals,cells:=cellsFrom (s3.heap.objs.size+1) scope.names cl,qual:=X.env.qual,func:=none,code:=X.env.code,frame:=X.env.frame,builtins:=X.env.builtins }/\
   s₄={ s3 with heap:=pushCells (s3.heap.push { cls:=.type "dict",data:=.dict #[] }) scope.names }) E s3:=by
  simp only[newFunctionEnv,Ru,if_true]
  refine az (wpAny_alloc ?_)
  refine az (wpAny_layCells _ (λname kind cells=>by cases hkc:kind==NameKind.cell <;> simp[hkc]) _ _ _ _ ?_)
  rw[yC]
  refine az (aT (aT ⟨?_,Z⟩))
  rw[show({ s3 with heap:=s3.heap.push { cls:=.type "dict",data:=.dict #[] } }:Shared).heap.objs.size=s3.heap.objs.size+1 from kJ ..]
 refine aZ ne λcenv s4 ⟨e1,e2⟩=>?_
 subst e1 e2
 have HM:tn 0 (pushCells (s3.heap.push { cls:=.type "dict",data:=.dict #[] }) scope.names):=T.keep _ _ _ st3 λb _ o e=>Dz _ _ b o (b9 _ e)
 have yb:s3.heap.objs.size≠X.env.locals:=wJ I3.lt
 have oj:∀{H':Hp},(∀b∈fp,H' b=none)->∀b∈fp,mj (cJ X N2 scope cl s3 H3 fp) [] H' b:=λ{H'} hn b hb=>
  ⟨hn b hb,(IY.ok.DF b hb).1,IY.ok.Ae b hb,.inl hb,(IY.ok.DF b hb).2,λp hp=>nomatch hp⟩
 have loop:codeAny (model X.prog X.w) X.A (.compLoop (.ListComp elt [⟨tg,Bn,[cond],0⟩] scope pos) 0 (.ref it) (.ref Ap) (cJ X N2 scope cl s3 H3 fp).env) (RR (.ref Ap) s3.heap.objs.size)
   { s3 with heap:=pushCells (s3.heap.push { cls:=.type "dict",data:=.dict #[] }) scope.names }:=by
  refine Je (λn s'=>∃i σ' H',Inv (cJ X N2 scope cl s3 H3 fp) [] σ' H' s'/\tn i s'.heap/\(∀b∈fp,H' b=none)/\W i n σ' H') ?_ m0 ⟨0,_,H3,IY,HM,λb hb=>(f3 b hb).1,w0⟩
  rintro n s5 ⟨i,σ5,H5,I5,zX,Cj,w5⟩
  rcases turn i n σ5 H5 w5 with⟨stop,qn⟩|⟨go,S,N,N0,TU,hS0,step⟩
  . refine aZ (T.done (cJ X N2 scope cl s3 H3 fp) rfl rfl rfl hc i [] s5 σ5 H5 (λ_ _=>False) I5 (oj Cj) zX stop) λr s6 ⟨hr,I6⟩=>?_
    subst hr
    obtain⟨m6,TV,_⟩:=id I6.loc
    have IX:Inv X AC σ H5 s6:=I3.DH (ch:=fp) I6.os I6.base I6.hok I6.bare λb hb=>⟨(f3 b hb).2.2.2.1,(f3 b hb).2.1,(f3 b hb).2.2.2.2.1,(f3 b hb).2.2.2.2.2⟩
    refine hR Ap s3.heap.objs.size H5 s6 m6 IX TV I6.free yb I3.sz (λx c e z=>?_) (λp hp z=>?_) qn
    . obtain⟨v,q⟩:=I3.cell x c e
      exact absurd q.lt (by rw[z];exact i7 _)
    . exact absurd (bM (I3.pin p hp).1) (by rw[z];exact i7 _)
  . refine aZ (T.item (cJ X N2 scope cl s3 H3 fp) rfl rfl rfl hc i [] s5 σ5 H5 (λ_ _=>False) I5 (oj Cj) zX go) λr s6 ⟨u,hr,h6⟩=>?_
    subst hr
    refine aZ h6 λ_ s7 ⟨x,H7,I7,r7,y7,yc,Ld⟩=>?_
    have TY:=I7.pinned (oj Ld) (T.obj _ _ yc)
    refine aZ (hg cl s3 H3 fp _ s7 σ5 H7 x u _ TY r7 (step x H7 y7)) λ_ s8 ⟨σ8,H8,I8,PV,q8⟩=>?_
    refine aZ (ht cl s3 H3 fp _ s8 σ8 H8 _ I8 q8) λok s9' ⟨H9',X5,q9'⟩=>?_
    cases ok with
    | false=>
      obtain⟨m',hm,w9⟩:=hS0 σ8 H9' PV (D8 q9')
      refine ite_ff ⟨m',hm,i+1,σ8,_,X5.oh,T.keep _ _ _ yc λb hb o e=>(X5.pin (b,o) (iQ _ (iQ _ (iu hb e)))).1,λb hb=>?_,w9⟩
      obtain⟨o,e,d⟩:=T.obj _ _ yc b hb
      exact(X5.pin (b,o) (iQ _ (iQ _ (iu hb e)))).2.1
    | true=>
      refine ite_tt ?_
      refine aZ (he cl s3 H3 fp _ s9' σ8 H9' _ X5 (D7 q9')) λy s9 ⟨v,H9,I9,r9,q9⟩=>?_
      obtain⟨xs,hxs,TZ,m',hm,w9⟩:=TU σ8 v H9 PV q9
      refine aZ (ee _ s9 σ8 H9 (.ref Ap) [v] (.ref Ap) [y] (λz DZ=>z =.cI/\DZ=upd H9 Ap (.lst (xs++[v]))) I9 rfl (.cons r9 .nil) ⟨Ap,xs,v,Z,Z,hxs,TZ,Z,Z⟩) λz s10 ⟨zv,DZ,Av,r10,ez,eH⟩=>?_
      subst eH
      refine⟨m',hm,i+1,σ8,_,Av.oh,T.keep _ _ _ yc λb hb o e=>(Av.pin (b,o) (iQ _ (iQ _ (iu hb e)))).1,λb hb=>?_,w9⟩
      obtain⟨o,e,d⟩:=T.obj _ _ yc b hb
      exact(Av.pin (b,o) (iQ _ (iQ _ (iu hb e)))).2.1
 exact codeAny_compStart_list loop (T.self _ 0 _ _ _ HM loop)
def Wx(N2:Da Str)(ix:Da (Option Nat)){g:TG}(hc:X.calm=true)(hi:PI X tg Bn wi)(hg:∀cl s₂ H₂ fp,PG (cJ X N2 scope cl s₂ H₂ fp) tg g)(he:∀cl s₂ H₂ fp,PE (cJ X N2 scope cl s₂ H₂ fp) elt te)(ht:∀cl s₂ H₂ fp,PT (cJ X N2 scope cl s₂ H₂ fp) cond tc)(hk:scope.kind =.function)(hn:nH X.N X.env.scope.names scope.names N2 ix=true)(hs:∀x,foldedSetIterable Bn X.env x=pure x:=by intro _;rfl):
  PE X (.ListComp elt [⟨tg,Bn,[cond],0⟩] scope pos) (T8 wi ix g tc te):=by
 intro AC s σ H Q I h
 obtain⟨k1,k2,k3,k4,k5⟩:=kL hn
 obtain⟨cl,Lh,c1,c2⟩:=uF (scope:=scope) (env:=X.env) λy hy e=>I.ok.has y.1 (k3 y hy e)
 rw[eval_ListComp]
 refine Rc (use:=none) rfl hs Lh hk k4 (aZ (hi AC s σ H _ I h) λv s1 h1=>aZ h1 λitv s2 h2=>?_)
 obtain⟨it,fp,tn,J,H2,e,I2,T,st2,f2,h2⟩:=h2
 subst e
 refine Oe (RR:=λAp C=>compPost (model X.prog X.w) X.A X.xe none (EP X AC σ Q) Ap C) (Q:=Q) hc hg he ht hk hn (λy c m=>(c1 y c m).1) c2 I2 T st2 f2 h2 ?_
 intro Ap C H' s' m I' ns yb hL hsz sU yS q
 exact⟨m,ns,λh' hs'=>⟨.ref Ap,H',I'.turned (it:=C) (t':=s'.toks) (λb o hb e=>(hs'.2 b hb).trans e) yb hL (.inr hsz) sU yS,Z,q⟩⟩
end
theorem vd{α:Type}[DecidableEq α] :∀{l m:Da α},l.Nodup->(∀x∈l,x∈m)->l.length<=m.length
 | [],_,_,_=>fm _
 | x::r,m,h,hs=>by
  have hn:=gZ.mp h;have hx:=hs x dg;have:=vd (l:=r) (m:=m.erase x) hn.2 λy hy=>by have hne:y≠x:=λe=>hn.1 (e▸hy);exact(List.mem_erase_of_ne hne).mpr (hs y (cM _ hy))
  rw[List.length_erase_of_mem hx]at this;have hp:0<m.length:=List.length_pos_of_mem hx;rw[jz];omega
variable {i:Nat}
def T9(c:Int){n:Nat}(h:i<n):(lQ c n)[i]?=some (97+((c / 26 ^ i) % 26).toNat):=by unfold lQ;rw[cu,List.getElem?_range h];rfl
theorem Zx{c c':Int}{n d:Nat}(h:d<n)(e:lQ c n=lQ c' n):(c / 26 ^ d) % 26=(c' / 26 ^ d) % 26:=by have h1:=T9 c h;rw[e,T9 c' h]at h1;have h2:=fM h1;have a0:0<=(c / 26 ^ d) % 26:=pK _ (by decide);have b0:0<=(c' / 26 ^ d) % 26:=pK _ (by decide);omega
structure pV(x:Da Nat):Prop where
 lo:1<=x.length
 hi:x.length<=8
 Zy:∀c∈x,97<=c/\c<123
theorem abt(c:Int){n:Nat}(h1:1<=n)(h2:n<=8):pV (lQ c n):=by refine⟨by rw[yQ];exact h1,by rw[yQ];exact h2,λx hx=>?_⟩;obtain⟨i,_,rfl⟩:=b7.mp hx;have a0:0<=(c / 26 ^ i) % 26:=pK _ (by decide);have a1:(c / 26 ^ i) % 26<26:=Ad _ (by decide);omega
noncomputable def sV(nss:Da (Da Nat)):Da V:=nss.map λx=>V.str (tx x)
def Wy(nss:Da (Da Nat)):(sV nss).all rS=true:=by unfold sV;rw[List.all_map,pJ];exact λ_ _=>rfl
def T_{a b:Da Nat}(h:tx a=tx b):a=b:=by
 have:a.toArray=b.toArray:=by injection h
 simpa using this
def PY(x:Da Nat)(nss:Da (Da Nat)):DP (.str (tx x)) (sV nss)=decide (x∈nss):=by
 unfold DP sV;rw[List.any_map,Br,List.any_eq_true,decide_eq_true_eq];constructor
 .rintro ⟨y,hy,e⟩;have e2:zV (.str (tx y)) (.str (tx x))=true:=e;have e3:tx y=tx x:=by unfold zV at e2;simpa using e2
  rw[<-T_ e3];exact hy
 .intro h;refine⟨x,h,?_⟩;show zV (.str (tx x)) (.str (tx x))=true;unfold zV;simp
open PySem.NumText
section
variable {X:Cx}
end
def RV(lo st:Int)(n:Nat):It:=⟨λi _=>i<n,λi H x H'=>H'=H/\x =.int (lo+i*st),λi _=>n<=i⟩
variable {P:Program}
theorem Of{w:World}(it:Addr)(lo st:Int)(n:Nat):Turn P w K tg (RV lo st n) [it] it (λi h=>IsRangeIter h it (lo+(i:Nat)*st) ((n:Int)-(i:Nat)) st) where
 mem:=by simp
 obj:=λi h st b hb=>by
  have e:b=it:=by simpa using hb
  subst e;exact⟨_,st,λv z=>by have z':Data.fields _=Data.cell v:=z;cases z'⟩
 keep:=λi h h' st k=>k it (by simp) _ st
 item:=by intro X hP hw hK hc i AC s σ H E I hf st' hg;subst hP hw hK;obtain⟨f0,f1,f2,f3,f4,f5⟩:=hf it (by simp);have W:=Walks.range (prog:=X.prog) (w:=X.w) (I.ok.hd hc) it lo st n;refine W.item i s _ _ hg st' λv h' tk hv st2 kk=>?_;obtain⟨t,rfl⟩:=hv;have I1:Inv X AC σ H { s with heap:=h',toks:=tk }:=I.turned (λb o hb e=>kk b o (by simpa using hb) e) f0 f1 f3 f4 f5;exact⟨_,Z,BC (s:={ s with heap:=h',toks:=tk }) (n:="range_iterator") st2 rfl rfl (by decide) ⟨.int (lo+i*st),H,I1,⟨t,Z⟩,⟨Z,Z⟩,st2,λb hb=>(hf b hb).1⟩⟩
 done:=by intro X hP hw hK hc i AC s σ H E I hf st' hg;subst hP hw hK;obtain⟨f0,f1,f2,f3,f4,f5⟩:=hf it (by simp);exact wpAny_pyNext_range_end (I.ok.hd hc) st' (by have:n<=i:=hg;omega) λh' eb=>⟨Z,I.turned (t':=s.toks) (λb o hb e=>eb b o hb e) f0 f1 f3 f4 f5⟩
 self:=λ_ _ _ _ _ st h=>wpAny_pyIter_rangeiter st h
variable {tb:TS}{D:Ends}
section
variable {X:Cx}{tg:Expr}
noncomputable def qM(lo hi st:Int):Nat:=(Builtin.Range.rangeSize lo hi st).toNat
inductive abu(R:It->Hp->Prop)(vs:Da V)(H1:Hp):Prop
 |mk(i j k:Int)(_:vs=[.int i,.int j,.int k])(_:(0<=i/\i<=1000000/\0<=j/\j<=1000000/\0<k/\k<=1000000))(_:R (RV i k (qM i j k)) H1)
def afb(ta:TA):TI:=λσ H R=>ta σ H (abu R)
theorem Og{a b c:Int}(h1:0<=a)(h2:a<=1000000)(h3:0<=b)(h4:b<=1000000)(h5:0<c)(h6:c<=1000000):Builtin.Range.small a b c=true/\0<=Builtin.Range.rangeSize a b c:=by
 have hr:0<=Builtin.Range.rangeSize a b c/\Builtin.Range.rangeSize a b c<=1000001:=by
  unfold Builtin.Range.rangeSize;rw[aB (by omega)];split
  .have e0:0<=(b-a-1) / c:=Kg (by omega) (by omega);have e1:(b-a-1) / c<=b-a-1:=Int.ediv_le_self _ (by omega);omega
  .omega
 refine⟨?_,hr.1⟩;unfold Builtin.Range.small;simp only[Builtin.Range.rangeFitsLong,Dv,Bool.or_eq_true,decide_eq_true_eq,nS,show c>0 from h5,if_true];omega
theorem RW{lo st:Int}{n:Nat}{g:TG}(Pv:Nat->St->Hp->Prop)(h0:Pv 0 σ H)(hs:∀i σ H,i<n->Pv i σ H->g (.int (lo+i*st)) σ H (tb (D.lp (Pv (i+1)))))(hd:∀σ H,Pv n σ H->D.nx σ H):
  DJ g tb D σ (RV lo st n) H:=by
 refine⟨λi m σ H=>m=n-i/\i<=n/\Pv i σ H,⟨n,by simp,fm _,h0⟩,?_⟩
 rintro i m σ H ⟨rfl,hi,p⟩
 by_cases hlt:i<n
 . refine .inr ⟨hlt,λσ' H'=>Pv (i+1) σ' H',λσ' H' q=>⟨n-(i+1),by omega,Z,hlt,q⟩,?_⟩
   rintro x H' ⟨rfl,rfl⟩
   exact hs i σ _ hlt p
 . have e:i=n:=by omega
   subst e
   exact .inl ⟨aK _,hd σ H p⟩
end
def Zz(signs:Str)(c:Nat):D5 signs c=decide (c∈signs.cps.toList):=PySem.StrLaws.found_one signs c
open Builtin Builtin.Str
section
variable {X:Cx}
end
def PZ(c:Int)(j d:Nat):(c+(j:Int)*26 ^ d) / 26 ^ d=c / 26 ^ d+(j:Int):=by have hp:(26:Int) ^ d≠0:=Int.ne_of_gt (Int.pow_pos (by decide));rw[Int.add_mul_ediv_right _ _ hp]
variable {nss:Da (Da Nat)}{t:Nat}
theorem Ua{c:Int}{n d:Nat}(h2:d<n)(ht:t<=26)(h:∀j:Nat,j<t->lQ (c+(j:Int)*26 ^ d) n∈nss):t<=nss.length:=by
 have hn:((List.range t).map λj=>lQ (c+((j:Nat):Int)*26 ^ d) n).Nodup:=by have:(List.range t).Pairwise (λa b=>a<b):=List.pairwise_lt_range;refine List.Pairwise.map _ ?_ (List.Pairwise.and_mem.mp this);rintro a b ⟨ha,hb,hab⟩ e;have ha':=yz.mp ha;have hb':=yz.mp hb;have:=Zx h2 e;rw[PZ,PZ]at this;omega
 have:=vd hn λx hx=>by obtain⟨j,hj,rfl⟩:=b7.mp hx;exact h j (yz.mp hj)
 rw[aF,List.length_range]at this;exact this
inductive abv(K:Fg)(vs:Da V)(H:Hp)(Q:VK)(E:XK):Prop
 |mk(a:Addr)(ms:Da Int)(k:Int)(BM:Nat)(_:vs=[.ref a,.int k,.int (BM:Int)])(_:aG K H a (ms.map V.int))(_:ms.length<=63)(_:0<=k)(_:BM<=25)(_:∀(z:Addr) (nss:Da (Da Nat)) (H':Hp),aJ H H'->H' z=some (.lst (sV nss))->H z=none->nss.length=BM->nss.Nodup->(∀x∈nss,pV x)->Q (.ref z) H')
def FG(K:Fg):Sp:=bx (abv K)
def HN{Q:VK}{E:XK}{ms:Da Int}{k mi:Int}{BM:Nat}(hmi:mi=(BM:Int))(hS:aG K H a (ms.map V.int))(h63:ms.length<=63)(h1:0<=k)(h2:BM<=25)(h:∀(z:Addr) (nss:Da (Da Nat)) (H':Hp),aJ H H'->H' z=some (.lst (sV nss))->H z=none->nss.length=BM->nss.Nodup->(∀x∈nss,pV x)->Q (.ref z) H'):FG K [.ref a,.int k,.int mi] H Q E:=by
 subst hmi
 exact⟨a,ms,k,BM,Z,hS,h63,h1,h2,h⟩
def ye{a:Da (Key×V)}{b:Da (Key×Value)}(r:KV a b):∀{j:Nat}{p:Key×V},a[j]?=some p->∃q,b[j]?=some q/\p.1=q.1/\RelV p.2 q.2:=by
 induction r with
 | nil=>intro j p z;simp at z
 | cons r1 _ ih=>
  intro j p z;cases j with
  | zero=>simp at z;subst z;exact⟨_,Z,r1⟩
  | succ j=>simp at z;obtain⟨q,a1,a2⟩:=ih z;exact⟨q,by simpa using a1,a2⟩
abbrev oX(H:Hp)(d:Addr)(o:Obj)(AT:Da (Key×V)):Prop:=H d=some (.eX o (.dK AT))
section
variable {X:Cx}{AC:AO}{σ σ':St}{H H':Hp}{s s':Shared}{d:Addr}{AT:Da (Key×V)}{o:Obj}
def Inv.freeze(I:Inv X AC σ H s)(e:H d=some (.dK AT))(ho:s.heap.get? d=some o):Inv X AC σ (upd H d (.eX o (.dK AT))) s:=by
 have nd:∀{b:Addr},H b=none->b≠d:=λh z=>by rw[z,e]at h;cases h
 have dn:∀{b:Addr},H b=none->upd H d (.eX o (.dK AT)) b=none:=λh=>by rw[au (nd h)];exact h
 have un:∀{b:Addr}{u:HO},H b=some u->(∀k,u ≠ .dK k)->b≠d:=λh k z=>by rw[z,e]at h;cases h;exact k _ rfl
 refine⟨I.ok,I.os,I.bare,⟨I.base.keep,I.base.slot,λb ob q n x=>dn (I.base.free b ob q n x),I.base.there,λb xs q=>?_,λb ob u q=>?_,λb ps q=>?_⟩,I.loc,I.cell,dn I.free,λx c q=>dn (I.lP x c q),λp hp=>?_,λb ob q=>?_,I.len⟩
 .have:=I.base.tups b xs q;rw[au (un this λk z=>by cases z)];exact this
 .have:=I.base.pN b ob u q;rw[au (un this λk z=>by cases z)];exact this
 .obtain ⟨more,this⟩:=I.base.tN b ps q;exact⟨more,by rw[au (un this λk z=>by cases z)];exact this⟩
 .obtain ⟨h1,h2,h3⟩:=I.pin p hp;exact⟨h1,dn h2,h3⟩
 .by_cases hb:b=d
  .subst hb;rw[ah]at q;cases q;have:=I.hok b _ e;exact⟨ho,this⟩
  .rw [au hb]at q;refine(I.hok b ob q).stay (λc u _ z=>z) (λc z=>?_) λc xs z=>?_
   .rw [au (un z λk z=>by cases z)];exact z
   .rw [au (un z λk z=>by cases z)];exact z
def Inv.CK(I:Inv X AC σ H s)(e:oX H d o AT)(h0:∀o u,X.H₀ d≠some (.eX o u)):Inv X AC σ (upd H d (.dK AT)) s:=by
 have nd:∀{b:Addr},H b=none->b≠d:=λh z=>by rw[z]at h;exact absurd (h.symm.trans e) (by simp)
 have dn:∀{b:Addr},H b=none->upd H d (.dK AT) b=none:=λh=>by rw[au (nd h)];exact h
 have un:∀{b:Addr}{u:HO},H b=some u->(∀o k,u ≠ .eX o k)->b≠d:=λh k z=>by rw[z]at h;have:=h.symm.trans e;cases this;exact k _ _ rfl
 refine⟨I.ok,I.os,I.bare,⟨I.base.keep,I.base.slot,λb ob q n x=>dn (I.base.free b ob q n x),I.base.there,λb xs q=>?_,λb ob u q=>?_,λb ps q=>?_⟩,I.loc,I.cell,dn I.free,λx c q=>dn (I.lP x c q),λp hp=>?_,λb ob q=>?_,I.len⟩
 .have:=I.base.tups b xs q;rw[au (un this λ_ k z=>by cases z)];exact this
 .have:=I.base.pN b ob u q;rw[au (λ(z:b=d)=>h0 ob u (by rw[<-z];exact q))];exact this
 .obtain ⟨more,this⟩:=I.base.tN b ps q;exact⟨more,by rw[au (un this λ_ k z=>by cases z)];exact this⟩
 .obtain ⟨h1,h2,h3⟩:=I.pin p hp;exact⟨h1,dn h2,h3⟩
 .by_cases hb:b=d
  .subst hb;rw[ah]at q;cases q;exact(I.hok b _ e).2
  .rw [au hb]at q;refine(I.hok b ob q).stay (λc u _ z=>z) (λc z=>?_) λc xs z=>?_
   .rw [au (un z λ_ k z=>by cases z)];exact z
   .rw [au (un z λ_ k z=>by cases z)];exact z
def Inv.Ub(I:Inv X AC σ H s)(e:H d=some (.dK AT)):∀o u,X.H₀ d≠some (.eX o u):=λo u z=>by have:=I.base.pN d o u z;rw[e]at this;cases this
def Inv.rV(I:Inv X AC σ H s)(e:oX H d o AT):s.heap.get? d=some o/\AT.length<=sizeLine/\(d==sysModules)=false/\∃vs ep,KV AT vs/\s.heap.DictAt (dh X.prog X.w) d vs ep:=by
 obtain⟨ho,hz,hs,vs,r,dd⟩:=(show e_ X.prog X.w H s.heap d (.eX o (.dK AT))from I.hok d _ e)
 obtain⟨ep,da⟩:=dd.dictAt;exact⟨ho,hz,hs,vs,ep,r,da⟩
end
noncomputable def Ends.CK(D:Ends)(d:Addr)(o:Obj)(AT:Da (Key×V)):Ends where
 nx:=λσ H=>oX H d o AT/\D.nx σ (upd H d (.dK AT))
 rt:=λv H=>oX H d o AT/\D.rt v (upd H d (.dK AT))
 bk:=λσ H=>oX H d o AT/\D.bk σ (upd H d (.dK AT))
 ct:=λσ H=>oX H d o AT/\D.ct σ (upd H d (.dK AT))
inductive aiT(t:TS)(D:Ends)(σ:St)(H:Hp):Prop
 |mk(d AT:_)(_:H d=some (.dK AT))(_:∀o,t (D.CK d o AT) σ (upd H d (.eX o (.dK AT))))
def aiU(t:TE):TE:=λσ H Q=>∃d AT,H d=some (.dK AT)/\∀o,t σ (upd H d (.eX o (.dK AT))) λv H'=>oX H' d o AT/\Q v (upd H' d (.dK AT))
def Itv(d:Addr)(o:Obj)(AT:Da (Key×V)):It:=⟨λi H=>oX H d o AT/\i<AT.length,λi H x H'=>H'=H/\∃p,AT[i]?=some p/\x=p.2,λi H=>oX H d o AT/\AT.length<=i⟩
def Iti(d:Addr)(o:Obj)(AT:Da (Key×V)):It:=⟨λi H=>oX H d o AT/\i<AT.length,λi H x H'=>∃a p,H a=none/\AT[i]?=some p/\x =.ref a/\H'=upd H a (.tup [kV p.1,p.2]),λi H=>oX H d o AT/\AT.length<=i⟩
variable {h:Heap}
def BI{w:World}{d:Addr}{vs:Da (Key×Value)}{e1 e2:Nat}{o:Obj}{es:Array DictEntry}(da:h.DictAt (dh P w) d vs e1)(ho:h.get? d=some o)(hd:o.data =.dict es e2):e1=e2:=by obtain⟨o',es',h1,_,h2,_⟩:=da;rw[ho]at h1;cases h1;rw[hd]at h2;cases h2;rfl
def Li{w:World}{k:Key}{v:Value}(h:(dh P w).is k v=true):RelV (kV k) v:=by
 rw[RE]at h;rcases gC h with⟨i,t,rfl,rfl⟩|⟨x,t,rfl,rfl⟩
 .exact ⟨t,Z⟩
 .exact ⟨t,Z⟩
variable {it:Addr}{AT:Da (Key×V)}{ep:Nat}
theorem Uc{w:World}{d:Addr}{o:Obj}{es:Array DictEntry}(hd:o.data =.dict es ep):Turn P w K tg (Itv d o AT) [it] it (λi h=>h.IsValIter it d i AT.length ep) where
 mem:=by simp
 obj:=λi h st b hb=>by
  have e:b=it:=by simpa using hb
  subst e;obtain⟨o,e,c,d⟩:=st;exact⟨o,e,λv z=>by rw[d]at z;cases z⟩
 keep:=λi h h' st k=>st.at λo e=>k it (by simp) o e
 item:=by intro X hP hw hK hc i AC s σ H E I hf st hg;subst hP hw hK;obtain⟨hz,hlt⟩:=hg;obtain⟨ho,_,_,vs,x8,r,da⟩:=I.rV hz;cases BI da ho hd;have hl:AT.length=vs.length:=r.length;obtain⟨q,hq,_,rq⟩:=ye r (bu hlt);obtain⟨qk,qv⟩:=q;rw[hl]at st;obtain⟨f0,f1,f2,f3,f4,f5⟩:=hf it (by simp);refine wpAny_pyNext_values_item st da hq λh' st' sb=>?_;have I1:Inv X AC σ H { s with heap:=h' }:=I.turned (t':=s.toks) (λb o hb e=>(sb.2 b hb).trans e) f0 f1 f3 f4 f5;obtain⟨oi,e,c,dd⟩:=id st';exact⟨_,Z,BC (s:={ s with heap:=h' }) e c dd (by decide) ⟨AT[i].2,H,I1,rq,⟨Z,AT[i],bu hlt,Z⟩,by rw[hl];exact st',λb hb=>(hf b hb).1⟩⟩
 done:=by intro X hP hw hK hc i AC s σ H E I hf st hg;subst hP hw hK;obtain⟨hz,hle⟩:=hg;obtain⟨ho,_,_,vs,x8,r,da⟩:=I.rV hz;cases BI da ho hd;have hl:AT.length=vs.length:=r.length;rw[hl]at st;obtain⟨f0,f1,f2,f3,f4,f5⟩:=hf it (by simp);exact wpAny_pyNext_values_end (I.ok.hd hc) st da (by rw[Ct];omega) λh' eb=>⟨Z,I.turned (t':=s.toks) (λb o hb e=>eb b o hb e) f0 f1 f3 f4 f5⟩
 self:=λ_ _ _ _ _ st h=>wpAny_pyIter_valiter st h
variable {DD:Da Expr}
theorem RX{w:World}{kk:Nat}{d:Addr}{o:Obj}{es:Array DictEntry}(hd:o.data =.dict es ep):Turn P w K (.Tuple DD kk pos) (Iti d o AT) [it] it (λi h=>∃ok ov,IsItemIter h it d i AT.length ep ok ov) where
 mem:=by simp
 obj:=λi h st b hb=>by
  have e:b=it:=by simpa using hb
  subst e;obtain⟨ok,ov,e⟩:=st;exact⟨_,e,λv z=>by cases z⟩
 keep:=λi h h' ⟨ok,ov,st⟩ k=>⟨ok,ov,k it (by simp) _ st⟩
 item:=by
  intro X hP hw hK hc i AC s σ H E I hf st hg;subst hP hw hK;obtain⟨hz,hlt⟩:=hg;obtain⟨ok,ov,st⟩:=st;obtain⟨ho,_,_,vs,x8,r,da⟩:=I.rV hz;cases BI da ho hd;have hl:AT.length=vs.length:=r.length;obtain⟨q,hq,ek,rq⟩:=ye r (bu hlt);obtain⟨qk,qv⟩:=q;rw[hl]at st;obtain⟨f0,f1,f2,f3,f4,f5⟩:=hf it (by simp);refine wpAny_pyNext_items_item st da hq λkey h1 hk st1 ht hsz hkeep=>?_;refine⟨_,Z,wpAny_letOwnedTupleGo_items (s:={ s with heap:=h1 }) st1 λh2 st2 sb=>?_⟩;have rk:RelV (kV AT[i].1) key:=by rw[ek];exact Li hk
  have hil:it≠s.heap.objs.size:=d7 (bM st);have wR:∀b o,b≠it->s.heap.get? b=some o->h2.get? b=some o:=λb o hb e=>sb.extBut b o hb (hkeep b o hb e);have I1:Inv X AC σ (upd H s.heap.objs.size (.tup [kV AT[i].1,AT[i].2])) { s with heap:=h2 }:=by
   have J:Inv X AC σ H { s with heap:=h2 }:=I.turned (t':=s.toks) wR f0 f1 f3 f4 f5;have hn:=I.fresh;have J2:Inv X AC σ (upd H s.heap.objs.size (.tup [kV AT[i].1,AT[i].2])) { s with heap:=h2,gens:=s.gens,drawn:=s.drawn,toks:=s.toks }:=by
    refine I.step (ch:=[it]) (λb hb=>⟨(hf b hb).2.2.2.1,(hf b hb).2.1,(hf b hb).2.2.2.2.1,(hf b hb).2.2.2.2.2⟩) (λb o _ _ hc' e _=>wR b o (by simpa using hc') e) (λb o _ _ hc' e _=>⟨o.slots,wR b o (by simpa using hc') e⟩) (λb o _ e n=>by rw[au (d7 (bM e))];exact n) (λb o hc' e=>⟨o,wR b o (by simpa using hc') e⟩)
     (λb zs q=>by rw[au (aA q hn)];exact q) (λb o zs q=>by rw[au (aA q hn)];exact q) (λb ps q=>⟨#[],by rw[au (aA q hn),q];simp⟩) (λm hm=>?_) (λb ob e=>?_) I.bare
    .obtain ⟨o,es,ep,ho,r⟩:=hm;exact⟨o,es,ep,wR _ o (λq=>f1 q.symm) ho,r⟩
    .by_cases hb:b=s.heap.objs.size
     .subst hb;rw[ah]at e;cases e;exact⟨by show 2<=sizeLine;decide,[key,qv],.cons rk (.cons rq .nil),_,sb.extBut _ _ hil.symm ht,Z,0,Z⟩
     .rw [au hb]at e;refine(I.hok b ob e).stay (λc v Ud q=>?_) (λc q=>by rw[au (aA q hn)];exact q) λc zs q=>by rw[au (aA q hn)];exact q
      refine wR c v (λz=>?_) q;rcases Ud with r|r
      .rw [r]at z;rw[z,f0]at e;cases e
      .rw [z,f0]at r;cases r
   exact J2
  refine⟨.ref s.heap.objs.size,_,I1,Z,⟨_,AT[i],I.fresh,bu hlt,Z,Z⟩,⟨key,qv,by rw[hl];exact st2⟩,λb hb=>?_⟩;have eb:b=it:=by simpa using hb
  subst eb;rw[au hil];exact f0
 done:=by intro X hP hw hK hc i AC s σ H E I hf st hg;subst hP hw hK;obtain⟨hz,hle⟩:=hg;obtain⟨ok,ov,st⟩:=st;obtain⟨ho,_,_,vs,x8,r,da⟩:=I.rV hz;cases BI da ho hd;have hl:AT.length=vs.length:=r.length;rw[hl]at st;obtain⟨f0,f1,f2,f3,f4,f5⟩:=hf it (by simp);exact wpAny_pyNext_items_end (I.ok.hd hc) st da (by rw[Ct];omega) λh' eb=>⟨Z,I.turned (t':=s.toks) (λb o hb e=>eb b o hb e) f0 f1 f3 f4 f5⟩
 self:=λA i s Q E ⟨ok,ov,st⟩ h=>PySem.W.kcp_self st h
section
variable {X:Cx}{tg:Expr}
inductive abw(R:It->Hp->Prop)(x:V)(H1:Hp):Prop
 |mk(d o AT:_)(_:x =.ref d)(_:oX H1 d o AT)(_:R (Itv d o AT:_) H1)
def afc(td:TE):TI:=λσ H R=>td σ H (abw R)
inductive ZA(R:It->Hp->Prop)(x:V)(H1:Hp):Prop
 |mk(d o AT:_)(_:x =.ref d)(_:oX H1 d o AT)(_:R (Iti d o AT:_) H1)
def abx(td:TE):TI:=λσ H R=>td σ H (ZA R)
end
variable {J:It}
theorem vf{n:Nat}{g:TG}(Pv:Nat->St->Hp->Prop)(h0:Pv 0 σ H)(hgo:∀i σ H,i<n->Pv i σ H->J.go i H)(hst:∀σ H,Pv n σ H->J.stop n H)(hs:∀i x σ H H',i<n->Pv i σ H->J.Ah i H x H'->g x σ H' (tb (D.lp (Pv (i+1)))))(hd:∀σ H,Pv n σ H->D.nx σ H):
  DJ g tb D σ (J) H:=by
 refine⟨λi m σ H=>m=n-i/\i<=n/\Pv i σ H,⟨n,by simp,fm _,h0⟩,?_⟩
 rintro i m σ H ⟨rfl,hi,p⟩
 by_cases hlt:i<n
 . exact .inr ⟨hgo i σ H hlt p,Pv (i+1),λσ' H' p'=>⟨n-(i+1),by omega,Z,hlt,p'⟩,λx H' y=>hs i x σ H H' hlt p y⟩
 . have e:i=n:=by omega
   subst e
   exact .inl ⟨hst σ H p,hd σ H p⟩
section
variable {prog:Program}{w:World}{K:Type}[DecidableEq K]{knd:KeyKind prog w K}{A:Around}{E:VS}{s:Shared}
theorem Oh{d:Addr}{AT:Da (K×Value)}{k:K}{v:Value}{Q:VS}(hit:s.heap.IsKeyIter it d i AT.length ep)(hm:s.heap.DictAt knd d AT ep)(hx:AT[i]?=some (k,v))(hQ:∀key h',knd.is k key=true->h'.IsKeyIter it d (i+1) AT.length ep->Heap.SameBut it s.heap h'->Q key { s with heap:=h' }):
  wpAny (model prog w) A (Builtin.SmallTypes.nextOf (.ref it)) Q E s:=by
 obtain⟨o,ho,hc,hd⟩:=id hit;obtain⟨od,es,hod,hcd,Ay,hk,hp,hn⟩:=id hm
 unfold Builtin.SmallTypes.nextOf
 refine az (Aa (name:=Str.ofString "__next__") hit.typeIs XC (wG XC hit.typeIs F.entry_dict_keyiterator_next ?_ (F.args_dict_keyiterator_next_1 _)))
 refine az (aT ?_);refine az (az ?_)
 first|(refine az (Xz hit.typeIs (aT ?_));refine az (wH ho hd ?_))|(refine az (Rg hit.typeIs (aT ?_));refine az (wH ho hd ?_))
 have own:Builtin.Dict_items.ownsTuple "dict_keyiterator"=false:=by decide
 simp only[own,Fq,pM]
 show wpAny _ _ (if(Value.ref d==Value.none)=true then _ else _) _ _ _
 rw[aC (λz=>iA z:¬ ((Value.ref d==Value.none)=true))];refine az (aT ?_)
 have sz:es.size=AT.length:=by have:=hp.length;simpa using this
 refine az (RC hod Ay ?_);rw[aC (by rw[sz];simp)]
 refine az (aT ?_);refine az (Kl hod Ay ?_)
 rw[aC (by simp)];refine aT ?_
 have lt:i<AT.length:=(dX.mp hx).1
 have lt':i<es.size:=by omega
 have kv:=hp.get? (e:=es[i]) (by simp[lt']) hx
 simp only[show ¬ ((i:Int)<0)from by omega,pM,uZ,Array.getElem?_eq_getElem lt'];refine az ?_
 first|(refine az (Xz hit.typeIs (aT ?_));refine az (wpAny_isOneOf_keyiter hit.typeIs ?_))|(refine az (Rg hit.typeIs (aT ?_));refine az (wpAny_isOneOf_keyiter hit.typeIs ?_))
 show wpAny _ _ (setField (.ref it) 1 (rawInt ((i:Int)+1)) >>= _) _ _ _
 refine az (Bu ho hd (by simp) ?_)
 have FH:(s.heap.update it (Obj.mapFields (·.setIfInBounds 1 (rawInt ((i:Int)+1))))).IsKeyIter it d (i+1) AT.length ep:=⟨_,Cs _ ho (Obj.isFreed_of_fields (Ft hd _)),(Obj.cls_mapFields ..).trans hc,by rw[Ft hd];simp[rawInt]⟩
 refine az (wI (az (wpAny_isOneOf_keyiter (s:={ s with heap:=s.heap.update it (Obj.mapFields (·.setIfInBounds 1 (rawInt ((i:Int)+1)))) }) FH.typeIs ?_)))
 exact aT (aT ⟨_,Z,aT (hQ _ _ kv.1 FH (Fp ..))⟩)
theorem RY{d:Addr}{AT:Da (K×Value)}{Q:VS}(hh:A.handled=none)(hit:s.heap.IsKeyIter it d i AT.length ep)(hm:s.heap.DictAt knd d AT ep)(hx:AT[i]?=none)(hE:∀h' e,Heap.ExtBut it s.heap h'->(∃o,h'.get? e=some o/\o.cls =.type "StopIteration")->E (.ref e) { s with heap:=h' }):
  wpAny (model prog w) A (Builtin.SmallTypes.nextOf (.ref it)) Q E s:=by
 obtain⟨o,ho,hc,hd⟩:=id hit;obtain⟨od,es,hod,hcd,Ay,hk,hp,hn⟩:=id hm
 unfold Builtin.SmallTypes.nextOf
 refine az (Aa (name:=Str.ofString "__next__") hit.typeIs XC (wG XC hit.typeIs F.entry_dict_keyiterator_next ?_ (F.args_dict_keyiterator_next_1 _)))
 refine az (aT ?_);refine az (az ?_)
 first|(refine az (Xz hit.typeIs (aT ?_));refine az (wH ho hd ?_))|(refine az (Rg hit.typeIs (aT ?_));refine az (wH ho hd ?_))
 have own:Builtin.Dict_items.ownsTuple "dict_keyiterator"=false:=by decide
 simp only[own,Fq,pM]
 show wpAny _ _ (if(Value.ref d==Value.none)=true then _ else _) _ _ _
 rw[aC (λz=>iA z:¬ ((Value.ref d==Value.none)=true))];refine az (aT ?_)
 have sz:es.size=AT.length:=by have:=hp.length;simpa using this
 refine az (RC hod Ay ?_);rw[aC (by rw[sz];simp)]
 refine az (aT ?_);refine az (Kl hod Ay ?_)
 rw[aC (by simp)];refine aT ?_
 have ge:es.size<=i:=by rw[sz];simpa using hx
 simp only[show ¬ ((i:Int)<0)from by omega,pM,uZ,Array.getElem?_eq_none ge];refine az ?_
 first|(refine az (Xz hit.typeIs (aT ?_));show wpAny _ _ (setField (.ref it) 0 .none >>= _) _ _ _)|(refine az (Rg hit.typeIs (aT ?_));show wpAny _ _ (setField (.ref it) 0 .none >>= _) _ _ _)
 refine az (Bu ho hd (by simp) ?_);show wpAny _ _ (newExc (.type "StopIteration") [] >>= _) _ _ _
 refine az ?_;simp only[newExc,newTuple]
 refine az (xC ?_ (by size_fits));refine az (m:=firstArgMember _ _) (wpAny_of_eq (a:=Value.none) (by first|rfl|(simp only[firstArgMember];rfl)) ?_)
 refine xC ?_ (by size_fits);simp only[raiseNew]
 refine az (wpAny_handled ?_);rw[show A.in1.handled=none from hh]
 exact az (aT (wpAny_throw (hE _ _ (((Fp ..).extBut.push _).push _) ⟨_,ef _ rfl,Z⟩)))
theorem Oi{d:Addr}{AT:Da (K×Value)}{k:K}{v:Value}{Q:VS}(hit:s.heap.IsValIter it d i AT.length ep)(hm:s.heap.DictAt knd d AT ep)(hx:AT[i]?=some (k,v))(hQ:∀h',h'.IsValIter it d (i+1) AT.length ep->Heap.SameBut it s.heap h'->Q v { s with heap:=h' }):
  wpAny (model prog w) A (Builtin.SmallTypes.nextOf (.ref it)) Q E s:=by
 obtain⟨o,ho,hc,hd⟩:=id hit;obtain⟨od,es,hod,hcd,Ay,hk,hp,hn⟩:=id hm
 unfold Builtin.SmallTypes.nextOf
 refine az (Aa (name:=Str.ofString "__next__") hit.typeIs Xy (wG Xy hit.typeIs F.entry_dict_valueiterator_next ?_ (F.args_dict_valueiterator_next_1 _)))
 refine az (aT ?_);refine az (az ?_)
 first|(refine az (XA hit.typeIs (aT ?_));refine az (wH ho hd ?_))|(refine az (Rh hit.typeIs (aT ?_));refine az (wH ho hd ?_))
 have own:Builtin.Dict_items.ownsTuple "dict_valueiterator"=false:=by decide
 simp only[own,Fq,pM]
 show wpAny _ _ (if(Value.ref d==Value.none)=true then _ else _) _ _ _
 rw[aC (λz=>iA z:¬ ((Value.ref d==Value.none)=true))];refine az (aT ?_)
 have sz:es.size=AT.length:=by have:=hp.length;simpa using this
 refine az (RC hod Ay ?_);rw[aC (by rw[sz];simp)]
 refine az (aT ?_);refine az (Kl hod Ay ?_)
 rw[aC (by simp)];refine aT ?_
 have lt:i<AT.length:=(dX.mp hx).1
 have lt':i<es.size:=by omega
 have kv:=hp.get? (e:=es[i]) (by simp[lt']) hx
 simp only[show ¬ ((i:Int)<0)from by omega,pM,uZ,Array.getElem?_eq_getElem lt'];refine az ?_
 first|(refine az (XA hit.typeIs (aT ?_));refine az (Rk hit.typeIs ?_))|(refine az (Rh hit.typeIs (aT ?_));refine az (Rk hit.typeIs ?_))
 show wpAny _ _ (setField (.ref it) 1 (rawInt ((i:Int)+1)) >>= _) _ _ _
 refine az (Bu ho hd (by simp) ?_)
 have FH:(s.heap.update it (Obj.mapFields (·.setIfInBounds 1 (rawInt ((i:Int)+1))))).IsValIter it d (i+1) AT.length ep:=⟨_,Cs _ ho (Obj.isFreed_of_fields (Ft hd _)),(Obj.cls_mapFields ..).trans hc,by rw[Ft hd];simp[rawInt]⟩
 refine az (wI (az (Rk (s:={ s with heap:=s.heap.update it (Obj.mapFields (·.setIfInBounds 1 (rawInt ((i:Int)+1)))) }) FH.typeIs ?_)))
 refine az (Rk (s:={ s with heap:=s.heap.update it (Obj.mapFields (·.setIfInBounds 1 (rawInt ((i:Int)+1)))) }) FH.typeIs ?_)
 exact aT (aT ⟨_,Z,aT (kv.2▸hQ _ FH (Fp ..))⟩)
theorem RZ{d:Addr}{AT:Da (K×Value)}{Q:VS}(hh:A.handled=none)(hit:s.heap.IsValIter it d i AT.length ep)(hm:s.heap.DictAt knd d AT ep)(hx:AT[i]?=none)(hE:∀h' e,Heap.ExtBut it s.heap h'->(∃o,h'.get? e=some o/\o.cls =.type "StopIteration")->E (.ref e) { s with heap:=h' }):
  wpAny (model prog w) A (Builtin.SmallTypes.nextOf (.ref it)) Q E s:=by
 obtain⟨o,ho,hc,hd⟩:=id hit;obtain⟨od,es,hod,hcd,Ay,hk,hp,hn⟩:=id hm
 unfold Builtin.SmallTypes.nextOf
 refine az (Aa (name:=Str.ofString "__next__") hit.typeIs Xy (wG Xy hit.typeIs F.entry_dict_valueiterator_next ?_ (F.args_dict_valueiterator_next_1 _)))
 refine az (aT ?_);refine az (az ?_)
 first|(refine az (XA hit.typeIs (aT ?_));refine az (wH ho hd ?_))|(refine az (Rh hit.typeIs (aT ?_));refine az (wH ho hd ?_))
 have own:Builtin.Dict_items.ownsTuple "dict_valueiterator"=false:=by decide
 simp only[own,Fq,pM]
 show wpAny _ _ (if(Value.ref d==Value.none)=true then _ else _) _ _ _
 rw[aC (λz=>iA z:¬ ((Value.ref d==Value.none)=true))];refine az (aT ?_)
 have sz:es.size=AT.length:=by have:=hp.length;simpa using this
 refine az (RC hod Ay ?_);rw[aC (by rw[sz];simp)]
 refine az (aT ?_);refine az (Kl hod Ay ?_)
 rw[aC (by simp)];refine aT ?_
 have ge:es.size<=i:=by rw[sz];simpa using hx
 simp only[show ¬ ((i:Int)<0)from by omega,pM,uZ,Array.getElem?_eq_none ge];refine az ?_
 first|(refine az (XA hit.typeIs (aT ?_));show wpAny _ _ (setField (.ref it) 0 .none >>= _) _ _ _)|(refine az (Rh hit.typeIs (aT ?_));show wpAny _ _ (setField (.ref it) 0 .none >>= _) _ _ _)
 refine az (Bu ho hd (by simp) ?_);show wpAny _ _ (newExc (.type "StopIteration") [] >>= _) _ _ _
 refine az ?_;simp only[newExc,newTuple]
 refine az (xC ?_ (by size_fits));refine az (m:=firstArgMember _ _) (wpAny_of_eq (a:=Value.none) (by first|rfl|(simp only[firstArgMember];rfl)) ?_)
 refine xC ?_ (by size_fits);simp only[raiseNew]
 refine az (wpAny_handled ?_);rw[show A.in1.handled=none from hh]
 exact az (aT (wpAny_throw (hE _ _ (((Fp ..).extBut.push _).push _) ⟨_,ef _ rfl,Z⟩)))
end
structure Az(P:Program)(w:World)(K:Fg)(S:Hp->Prop)(xs:Da V)(it l:Addr)(tn:Nat->Heap->Prop)(src:Heap->Prop):Prop where
 obj:∀i h,tn i h->∃o,h.get? it=some o/\∀v,o.data ≠ .cell v
 keep:∀i h h',tn i h->(∀o,h.get? it=some o->h'.get? it=some o)->tn i h'
 wU:∀h h',src h->(∀o,h.get? l=some o->h'.get? l=some o)->src h'
 HP:∀(X:Cx),X.prog=P->X.w=w->X.K=K->∀(AC:AO)(σ:St)(H:Hp)(s:Shared),Inv X AC σ H s->S H->src s.heap
 item:∀(A:Around)(i:Nat)(x:V)(s:Shared)(Q:VS)(E:VS),tn i s.heap->src s.heap->xs[i]?=some x->(∀u h',RelV x u->tn (i+1) h'->Heap.SameBut it s.heap h'->Q u { s with heap:=h' })->wpAny (model P w) A (Builtin.SmallTypes.nextOf (.ref it)) Q E s
 done:∀(A:Around)(i:Nat)(s:Shared)(Q:VS)(E:VS),A.handled=none->tn i s.heap->src s.heap->xs.length<=i->(∀h' e,Heap.ExtBut it s.heap h'->(∃o,h'.get? e=some o/\o.cls =.type "StopIteration")->E (.ref e) { s with heap:=h' })->wpAny (model P w) A (Builtin.SmallTypes.nextOf (.ref it)) Q E s
theorem Wz{w:World}{l:Addr}:Az P w K (λH=>aG K H l xs) xs it l (λi h=>h.IsListIter it l i) (λh=>∃BT:Da Value,Vals xs BT/\h.IsList l BT.toArray) where
 obj:=λi h ⟨o,e,c,d⟩=>⟨o,e,λv z=>by rw[d]at z;cases z⟩
 keep:=λi h h' st k=>st.at k
 wU:=λh h' ⟨BT,r,hl⟩ k=>⟨BT,r,hl.at k⟩
 HP:=λX hP hw hK AC σ H s I h=>by subst hP hw hK;obtain⟨BT,rv,p,_⟩:=I.list h;exact⟨BT,rv,p.isList⟩
 item:=λA i x s Q E st ⟨BT,r,hl⟩ hx hQ=>by obtain⟨u,hu,ru⟩:=r.get hx;exact wpAny_nextOf_list_item st hl (by simpa using hu) λh' st' sb=>hQ u h' ru st' sb
 done:=λA i s Q E hh st ⟨BT,r,hl⟩ hx hE=>wpAny_nextOf_list_end hh st hl (by have:=r.length;simp;omega) hE
theorem WA{w:World}{d:Addr}{o:Obj}{es:Array DictEntry}(hd:o.data =.dict es ep):Az P w K (λH=>oX H d o AT) (AT.map λp=>kV p.1) it d (λi h=>h.IsKeyIter it d i AT.length ep) (λh=>∃vs,KV AT vs/\h.DictAt (dh P w) d vs ep) where
 obj:=λi h ⟨o,e,c,d⟩=>⟨o,e,λv z=>by rw[d]at z;cases z⟩
 keep:=λi h h' st k=>st.at k
 wU:=λh h' ⟨vs,r,hl⟩ k=>⟨vs,r,hl.at' k⟩
 HP:=λX hP hw hK AC σ H s I h=>by subst hP hw hK;obtain⟨ho,_,_,vs,x8,r,da⟩:=I.rV h;cases BI da ho hd;exact⟨vs,r,da⟩
 item:=λA i x s Q E st ⟨vs,r,da⟩ hx hQ=>by rw[cu]at hx;obtain⟨p,hp,rfl⟩:=kH.mp hx;obtain⟨q,hq,ek,rq⟩:=ye r hp;obtain⟨qk,qv⟩:=q;have hl:AT.length=vs.length:=r.length;rw[hl]at st;exact Oh st da hq λkey h' hk st' sb=>hQ key h' (by rw[ek];exact Li hk) (by rw[hl];exact st') sb
 done:=λA i s Q E hh st ⟨vs,r,da⟩ hx hE=>by have hl:AT.length=vs.length:=r.length;rw[aF]at hx;rw[hl]at st;exact RY hh st da (by rw[Ct];omega) hE
theorem WB{w:World}{d:Addr}{o:Obj}{es:Array DictEntry}(hd:o.data =.dict es ep):Az P w K (λH=>oX H d o AT) (AT.map λp=>p.2) it d (λi h=>h.IsValIter it d i AT.length ep) (λh=>∃vs,KV AT vs/\h.DictAt (dh P w) d vs ep) where
 obj:=λi h ⟨o,e,c,d⟩=>⟨o,e,λv z=>by rw[d]at z;cases z⟩
 keep:=λi h h' st k=>st.at k
 wU:=λh h' ⟨vs,r,hl⟩ k=>⟨vs,r,hl.at' k⟩
 HP:=λX hP hw hK AC σ H s I h=>by subst hP hw hK;obtain⟨ho,_,_,vs,x8,r,da⟩:=I.rV h;cases BI da ho hd;exact⟨vs,r,da⟩
 item:=λA i x s Q E st ⟨vs,r,da⟩ hx hQ=>by rw[cu]at hx;obtain⟨p,hp,rfl⟩:=kH.mp hx;obtain⟨q,hq,ek,rq⟩:=ye r hp;obtain⟨qk,qv⟩:=q;have hl:AT.length=vs.length:=r.length;rw[hl]at st;exact Oi st da hq λh' st' sb=>hQ qv h' rq (by rw[hl];exact st') sb
 done:=λA i s Q E hh st ⟨vs,r,da⟩ hx hE=>by have hl:AT.length=vs.length:=r.length;rw[aF]at hx;rw[hl]at st;exact RZ hh st da (by rw[Ct];omega) hE
variable {y:V}
section
variable {P:Program}{w:World}{A:Around}{E:VS}{s:Shared}{K:Fg}{S1 S2:Hp->Prop}{xs ys:Da V}{z TI TO i1 i2 l1 l2:Addr}{t1 t2:Nat->Heap->Prop}{c1 c2:Heap->Prop}{i:Nat}
def Ue{x:V}{a b:Value}{Q:VS}(D:ZipApart z TI TO i1 i2 l1 l2)(C1:Az P w K S1 xs i1 l1 t1 c1)(C2:Az P w K S2 ys i2 l2 t2 c2)(hz:IsZip s.heap z TI TO .none)(hTI:IsPair s.heap TI (.ref i1) (.ref i2))(hTO:IsPair s.heap TO a b)(h1:t1 i s.heap)(h2:t2 i s.heap)(hc1:c1 s.heap)(hc2:c2 s.heap)(hx:xs[i]?=some x)(hy:ys[i]?=some y)(hQ:∀u v h',RelV x u->RelV y v->IsZip h' z TI TO (rawInt s.heap.objs.size)->IsPair h' TO u v->t1 (i+1) h'->t2 (i+1) h'->IsPair h' s.heap.objs.size u v->h'.objs.size=s.heap.objs.size+1->
    (∀c o,c≠z->c≠TO->c≠i1->c≠i2->s.heap.get? c=some o->h'.get? c=some o)->Q (.ref s.heap.objs.size) { s with heap:=h' }):
  wpAny (model P w) A (Builtin.«zip.__next__» ⟨[.ref z],[]⟩) (λfin s'=>∃v,fin =.done (.ret v)/\Q v s') E s:=by
 show wpAny _ _ (field (.ref z) 2 >>= _) _ _ _
 refine az (nR hz rfl (x:=.bool false) rfl ?_);show wpAny _ _ (field (.ref z) 3 >>= _) _ _ _
 refine az (nR hz rfl (x:=.ref TI) rfl ?_);refine az (uD hTI rfl ?_)
 show wpAny _ _ (Builtin.SmallTypes.ownedTupleIsFree (.ref z) >>= _) _ _ _
 refine az ?_;unfold Builtin.SmallTypes.ownedTupleIsFree
 refine az (nR hz rfl (x:=.none) rfl (aT ?_));simp only[if_true]
 refine az (wpAny_rule ?_);refine az (nR hz rfl (x:=.ref TO) rfl ?_)
 refine az (Fv hz (by simp) λhA HQ sA=>?_)
 replace HQ:IsZip hA z TI TO .ellipsis:=HQ
 refine az ?_;simp only[List.zipIdx_cons,List.zipIdx_nil,Kh,yC]
 refine az (az (wpAny_onRaise ?_));show wpAny _ _ (Builtin.SmallTypes.nextOf (.ref i1) >>= _) _ _ _
 refine az (C1.item _ i x { s with heap:=hA } _ _ (C1.keep _ _ _ h1 λo e=>sA.extBut _ _ D.i1z e) (C1.wU _ _ hc1 λo e=>sA.extBut _ _ D.l1z e) hx λu hB ru h1B sB=>aT ?_)
 have Ug:IsPair hB TO a b:=sB.extBut _ _ D.TOi1 (sA.extBut _ _ D.TOz hTO)
 refine az (uD Ug rfl ?_);refine az (wpAny_updateSeq_pair Ug λhC X6 sC=>?_)
 replace X6:IsPair hC TO u b:=X6
 refine az (wpAny_letGo (aT ?_));refine az (az (wpAny_onRaise ?_))
 show wpAny _ _ (Builtin.SmallTypes.nextOf (.ref i2) >>= _) _ _ _
 refine az (C2.item _ i y { s with heap:=hC } _ _ (C2.keep _ _ _ h2 λo e=>sC.extBut _ _ D.TOi2.symm (sB.extBut _ _ D.i12.symm (sA.extBut _ _ D.i2z e))) (C2.wU _ _ hc2 λo e=>sC.extBut _ _ D.l2TO (sB.extBut _ _ D.l2i1 (sA.extBut _ _ D.l2z e))) hy λv hD rv h2D sD=>aT ?_)
 have TOD:IsPair hD TO u b:=sD.extBut _ _ D.TOi2 X6
 refine az (uD TOD rfl ?_);refine az (wpAny_updateSeq_pair TOD λhE X7 sE=>?_)
 replace X7:IsPair hE TO u v:=X7
 refine az (wpAny_letGo (aT (aT ?_)));refine az (uD X7 rfl ?_)
 refine az (wpAny_newTuple ?_)
 have sz:hE.objs.size=s.heap.objs.size:=by rw[sE.1,sD.1,sC.1,sB.1,sA.1]
 have zE:IsZip hE z TI TO .ellipsis:=sE.extBut _ _ D.TOz.symm (sD.extBut _ _ D.i2z.symm (sC.extBut _ _ D.TOz.symm (sB.extBut _ _ D.i1z.symm HQ)))
 have kE:∀c o,c≠z->c≠TO->c≠i1->c≠i2->s.heap.get? c=some o->hE.get? c=some o:=λc o c1 c2 c3 c4 e=>sE.extBut _ _ c2 (sD.extBut _ _ c4 (sC.extBut _ _ c2 (sB.extBut _ _ c3 (sA.extBut _ _ c1 e))))
 have t1E:t1 (i+1) hE:=C1.keep _ _ _ h1B λo e=>sE.extBut _ _ D.TOi1.symm (sD.extBut _ _ D.i12 (sC.extBut _ _ D.TOi1.symm e))
 have t2E:t2 (i+1) hE:=C2.keep _ _ _ h2D λo e=>sE.extBut _ _ D.TOi2.symm e
 have zlt:z<hE.objs.size:=bM zE
 show wpAny _ _ (Builtin.SmallTypes.ownedTupleHandOut (.ref z) (.ref hE.objs.size) >>= _) _ _ _
 refine az ?_;unfold Builtin.SmallTypes.ownedTupleHandOut
 have zF:IsZip (hE.push { cls:=.type "tuple",data:=.seq #[u,v] }) z TI TO .ellipsis:=b9 _ zE
 refine az (Fv zF (by simp) λhG zG sG=>?_)
 replace zG:IsZip hG z TI TO (rawInt hE.objs.size):=zG
 refine Fv zG (by simp) λhI zI sI=>?_
 replace zI:IsZip hI z TI TO (rawInt hE.objs.size):=zI
 have up:∀c o,c≠z->hE.get? c=some o->hI.get? c=some o:=λc o c1 e=>sI.extBut _ _ c1 (sG.extBut _ _ c1 (b9 _ e))
 have TI':IsPair hI hE.objs.size u v:=sI.extBut _ _ (wJ zlt) (sG.extBut _ _ (wJ zlt) (ef _ rfl))
 have szI:hI.objs.size=hE.objs.size+1:=by rw[sI.1,sG.1,kJ]
 rw[sz]at zI TI' szI
 refine aT ⟨_,Z,?_⟩
 show Q (.ref hE.objs.size) _
 rw[sz]
 exact hQ u v hI ru rv zI (up _ _ D.TOz X7) (C1.keep _ _ _ t1E λo e=>up _ o D.i1z e) (C2.keep _ _ _ t2E λo e=>up _ o D.i2z e) TI' szI λc o c1 c2 c3 c4 e=>up c o c1 (kE c o c1 c2 c3 c4 e)
theorem WC{a b:Value}{Q:Fin->Shared->Prop}(hh:A.handled=none)(D:ZipApart z TI TO i1 i2 l1 l2)(C1:Az P w K S1 xs i1 l1 t1 c1)(C2:Az P w K S2 ys i2 l2 t2 c2)(hz:IsZip s.heap z TI TO .none)(hTI:IsPair s.heap TI (.ref i1) (.ref i2))(hTO:IsPair s.heap TO a b)(h1:t1 i s.heap)(h2:t2 i s.heap)(hc1:c1 s.heap)(hc2:c2 s.heap)(hend:xs.length<=i\/ys.length<=i)(hE:∀h' e,(∀c o,c≠z->c≠TO->c≠i1->c≠i2->s.heap.get? c=some o->h'.get? c=some o)->(∃o,h'.get? e=some o/\o.cls =.type "StopIteration")->E (.ref e) { s with heap:=h' }):
  wpAny (model P w) A (Builtin.«zip.__next__» ⟨[.ref z],[]⟩) Q E s:=by
 show wpAny _ _ (field (.ref z) 2 >>= _) _ _ _
 refine az (nR hz rfl (x:=.bool false) rfl ?_);show wpAny _ _ (field (.ref z) 3 >>= _) _ _ _
 refine az (nR hz rfl (x:=.ref TI) rfl ?_);refine az (uD hTI rfl ?_)
 show wpAny _ _ (Builtin.SmallTypes.ownedTupleIsFree (.ref z) >>= _) _ _ _
 refine az ?_;unfold Builtin.SmallTypes.ownedTupleIsFree
 refine az (nR hz rfl (x:=.none) rfl (aT ?_));simp only[if_true]
 refine az (wpAny_rule ?_);refine az (nR hz rfl (x:=.ref TO) rfl ?_)
 refine az (Fv hz (by simp) λhA HQ sA=>?_)
 replace HQ:IsZip hA z TI TO .ellipsis:=HQ
 refine az ?_;simp only[List.zipIdx_cons,List.zipIdx_nil,Kh,yC]
 refine az (az (wpAny_onRaise ?_));show wpAny _ _ (Builtin.SmallTypes.nextOf (.ref i1) >>= _) _ _ _
 have k1:=C1.keep _ _ _ h1 λo e=>sA.extBut _ _ D.i1z e
 have k2:=C1.wU _ _ hc1 λo e=>sA.extBut _ _ D.l1z e
 by_cases hx:xs.length<=i
 . refine az (C1.done _ i { s with heap:=hA } _ _ hh k1 k2 hx λhB e sB he=>?_)
   obtain⟨oe,D_,hce⟩:=he
   have zB:IsZip hB z TI TO .ellipsis:=sB _ _ D.i1z.symm HQ
   have ez:e≠z:=λx=>by subst x;rw[zB]at D_;cases D_;simp at hce
   exact Fv zB (by simp) λhC _ sC=>hE hC e (λc o c1 _ c3 _ x=>sC.extBut _ _ c1 (sB _ _ c3 (sA.extBut _ _ c1 x))) ⟨oe,sC.extBut _ _ ez D_,hce⟩
 . have hy:ys.length<=i:=hend.resolve_left hx
   refine az (C1.item _ i xs[i] { s with heap:=hA } _ _ k1 k2 (bu (by omega)) λu hB ru h1B sB=>aT ?_)
   have Ug:IsPair hB TO a b:=sB.extBut _ _ D.TOi1 (sA.extBut _ _ D.TOz hTO)
   refine az (uD Ug rfl ?_);refine az (wpAny_updateSeq_pair Ug λhC X6 sC=>?_)
   refine az (wpAny_letGo (aT ?_));refine az (az (wpAny_onRaise ?_))
   show wpAny _ _ (Builtin.SmallTypes.nextOf (.ref i2) >>= _) _ _ _
   refine az (C2.done _ i { s with heap:=hC } _ _ hh (C2.keep _ _ _ h2 λo e=>sC.extBut _ _ D.TOi2.symm (sB.extBut _ _ D.i12.symm (sA.extBut _ _ D.i2z e))) (C2.wU _ _ hc2 λo e=>sC.extBut _ _ D.l2TO (sB.extBut _ _ D.l2i1 (sA.extBut _ _ D.l2z e))) hy λhD e sD he=>?_)
   obtain⟨oe,D_,hce⟩:=he
   have zD:IsZip hD z TI TO .ellipsis:=sD _ _ D.i2z.symm (sC.extBut _ _ D.TOz.symm (sB.extBut _ _ D.i1z.symm HQ))
   have ez:e≠z:=λx=>by subst x;rw[zD]at D_;cases D_;simp at hce
   exact Fv zD (by simp) λhF _ sF=>hE hF e (λc o c1 c2 c3 c4 x=>sF.extBut _ _ c1 (sD _ _ c4 (sC.extBut _ _ c2 (sB.extBut _ _ c3 (sA.extBut _ _ c1 x))))) ⟨oe,sF.extBut _ _ ez D_,hce⟩
end
def aby(S1 S2:Hp->Prop)(xs ys:Da V):It:=⟨λi H=>S1 H/\S2 H/\i<xs.length/\i<ys.length,λi H v H'=>∃p x y,H p=none/\v =.ref p/\H'=upd H p (.tup [x,y])/\xs[i]?=some x/\ys[i]?=some y,λi H=>S1 H/\S2 H/\(xs.length<=i\/ys.length<=i)⟩
variable {z:Addr}
def Uh{w:World}{kk:Nat}{S1 S2:Hp->Prop}{TI TO i1 i2 l1 l2:Addr}{t1 t2:Nat->Heap->Prop}{c1 c2:Heap->Prop}(D:ZipApart z TI TO i1 i2 l1 l2)(C1:Az P w K S1 xs i1 l1 t1 c1)(C2:Az P w K S2 ys i2 l2 t2 c2):
  Turn P w K (.Tuple DD kk pos) (aby S1 S2 xs ys) [z,TI,TO,i1,i2] z (λi h=>IsZip h z TI TO .none/\IsPair h TI (.ref i1) (.ref i2)/\(∃a b,IsPair h TO a b)/\t1 i h/\t2 i h) where
 mem:=by simp
 obj:=λi h st b hb=>by
  obtain⟨hz,hTI,⟨a,b',hTO⟩,h1,h2⟩:=st;have hb':b=z\/b=TI\/b=TO\/b=i1\/b=i2:=by simpa using hb
  rcases hb' with rfl|rfl|rfl|rfl|rfl
  .exact ⟨_,hz,λv q=>by cases q⟩
  .exact ⟨_,hTI,λv q=>by cases q⟩
  .exact ⟨_,hTO,λv q=>by cases q⟩
  .exact C1.obj i h h1
  .exact C2.obj i h h2
 keep:=λi h h' st k=>by obtain⟨hz,hTI,⟨a,b',hTO⟩,h1,h2⟩:=st;exact⟨k z (by simp) _ hz,k TI (by simp) _ hTI,⟨a,b',k TO (by simp) _ hTO⟩,C1.keep _ _ _ h1 λo e=>k i1 (by simp) o e,C2.keep _ _ _ h2 λo e=>k i2 (by simp) o e⟩
 item:=by
  intro X hP hw hK hc i AC s σ H E I hf st hg;subst hP hw hK;obtain⟨hz,hTI,⟨a,b,hTO⟩,h1,h2⟩:=st;obtain⟨g1,g2,lx,ly⟩:=hg;have hT:s.TypeIs (.ref z) "zip":=⟨_,hz,Z⟩
  unfold pyNext;refine az (wpAny_attempt (Aa (name:=Str.ofString "__next__") hT Km (wG Km hT F.entry_zip_next
   (Ue D C1 C2 hz hTI hTO h1 h2 (C1.HP X rfl rfl rfl AC σ H s I g1) (C2.HP X rfl rfl rfl AC σ H s I g2) (bu lx) (bu ly) λu u2 h' ru ru2 a1 a2 a3 a4 a5 a6 hk=>aT ?_) (F.args_zip_next_1 _))))
  refine⟨_,Z,wpAny_letOwnedTupleGo_zip (s:={ s with heap:=h' }) a1 λh'' b1 hs=>?_⟩;have hTz:s.heap.objs.size≠z:=wJ (bM hz);have wR:∀c o,c≠z->c≠TO->c≠i1->c≠i2->s.heap.get? c=some o->h''.get? c=some o:=λc o c1 c2 c3 c4 e=>hs.extBut _ _ c1 (hk c o c1 c2 c3 c4 e);have hn:=I.fresh;have nf:∀b u,H b=some u->b≠z/\b≠TO/\b≠i1/\b≠i2:=λb u e=>by
   have g:∀c∈[z,TI,TO,i1,i2],b≠c:=λc hc q=>by have:=(hf c hc).1;rw[<-q,e]at this;cases this
   exact⟨g z (by simp),g TO (by simp),g i1 (by simp),g i2 (by simp)⟩
  have x6:∀c,c∉[z,TI,TO,i1,i2]->c≠z/\c≠TO/\c≠i1/\c≠i2:=λc hc=>⟨λq=>hc (by simp[q]),λq=>hc (by simp[q]),λq=>hc (by simp[q]),λq=>hc (by simp[q])⟩
  have aiV:IsPair h'' s.heap.objs.size u u2:=hs.extBut _ _ hTz a5;have hok:ig X.prog X.w (upd H s.heap.objs.size (.tup [xs[i],ys[i]])) h'':=λb ob e=>by
   by_cases hb:b=s.heap.objs.size
   .subst hb;rw[ah]at e;cases e;exact⟨by show 2<=sizeLine;decide,[u,u2],.cons ru (.cons ru2 .nil),_,aiV,Z,0,Z⟩
   .rw [au hb]at e;refine(I.hok b ob e).stay (λc v Ud q=>?_) (λc q=>by rw[au (aA q hn)];exact q) λc zs q=>by rw[au (aA q hn)];exact q
    rcases Ud with r|r
    .obtain ⟨n1,n2,n3,n4⟩:=nf b ob e;rw[r];rw[r]at q;exact wR b v n1 n2 n3 n4 q
    .obtain ⟨n1,n2,n3,n4⟩:=nf c _ r;exact wR c v n1 n2 n3 n4 q
  have I2:Inv X AC σ (upd H s.heap.objs.size (.tup [xs[i],ys[i]])) { s with heap:=h'',gens:=s.gens,drawn:=s.drawn,toks:=s.toks }:=by
   refine I.step (ch:=[z,TI,TO,i1,i2]) (λb hb=>⟨(hf b hb).2.2.2.1,(hf b hb).2.1,(hf b hb).2.2.2.2.1,(hf b hb).2.2.2.2.2⟩) (λb o _ _ hc' e _=>?_) (λb o _ _ hc' e _=>?_) (λb o _ e n=>?_) (λb o hc' e=>?_)
    (λb zs q=>by rw[au (aA q hn)];exact q) (λb o zs q=>by rw[au (aA q hn)];exact q) (λb ps q=>⟨#[],by rw[au (aA q hn),q];simp⟩) (λm hm=>?_) hok I.bare
   .obtain ⟨n1,n2,n3,n4⟩:=x6 b hc';exact wR b o n1 n2 n3 n4 e
   .obtain ⟨n1,n2,n3,n4⟩:=x6 b hc';exact⟨o.slots,wR b o n1 n2 n3 n4 e⟩
   .rw [au (d7 (bM e))];exact n
   .obtain ⟨n1,n2,n3,n4⟩:=x6 b hc';exact⟨o,wR b o n1 n2 n3 n4 e⟩
   .obtain ⟨o,es,ep,ho,r⟩:=hm;have nl:∀c∈[z,TI,TO,i1,i2],X.env.locals≠c:=λc hc' q=>(hf c hc').2.1 q.symm;exact⟨o,es,ep,wR _ o (nl z (by simp)) (nl TO (by simp)) (nl i1 (by simp)) (nl i2 (by simp)) ho,r⟩
  refine⟨.ref s.heap.objs.size,_,I2,Z,⟨s.heap.objs.size,xs[i],ys[i],hn,Z,Z,bu lx,bu ly⟩,⟨b1,?_,⟨u,u2,?_⟩,?_,?_⟩,λb hb=>?_⟩
  .exact wR _ _ D.TIz D.TITO D.TIi1 D.TIi2 hTI
  .exact hs.extBut _ _ D.TOz a2
  .exact C1.keep _ _ _ a3 λo e=>hs.extBut _ _ D.i1z e
  .exact C2.keep _ _ _ a4 λo e=>hs.extBut _ _ D.i2z e
  .have hlt:b≠s.heap.objs.size:=by
    have hb':b=z\/b=TI\/b=TO\/b=i1\/b=i2:=by simpa using hb
    obtain⟨_,e1,_⟩:=C1.obj _ _ h1;obtain⟨_,e2,_⟩:=C2.obj _ _ h2;rcases hb' with rfl|rfl|rfl|rfl|rfl
    .exact d7 (bM hz)
    .exact d7 (bM hTI)
    .exact d7 (bM hTO)
    .exact d7 (bM e1)
    .exact d7 (bM e2)
   rw[au hlt];exact(hf b hb).1
 done:=by
  intro X hP hw hK hc i AC s σ H E I hf st hg;subst hP hw hK;obtain⟨hz,hTI,⟨a,b,hTO⟩,h1,h2⟩:=st;obtain⟨g1,g2,hend⟩:=hg;have hT:s.TypeIs (.ref z) "zip":=⟨_,hz,Z⟩
  unfold pyNext;refine az (wpAny_attempt (Aa (name:=Str.ofString "__next__") hT Km (wG Km hT F.entry_zip_next
   (WC (I.ok.hd hc) D C1 C2 hz hTI hTO h1 h2 (C1.HP X rfl rfl rfl AC σ H s I g1) (C2.HP X rfl rfl rfl AC σ H s I g2) hend λh' e hk he=>?_) (F.args_zip_next_1 _))))
  obtain⟨oe,D_,hce⟩:=he;refine az (wpAny_isInstance (T:="StopIteration") (b:=true) ⟨oe,D_,hce⟩ isSubtype_stop (aT ⟨Z,?_⟩));have x6:∀c,c∉[z,TI,TO,i1,i2]->c≠z/\c≠TO/\c≠i1/\c≠i2:=λc hc=>⟨λq=>hc (by simp[q]),λq=>hc (by simp[q]),λq=>hc (by simp[q]),λq=>hc (by simp[q])⟩
  have nf:∀b u,H b=some u->b≠z/\b≠TO/\b≠i1/\b≠i2:=λb u e=>by
   have g:∀c∈[z,TI,TO,i1,i2],b≠c:=λc hc q=>by have:=(hf c hc).1;rw[<-q,e]at this;cases this
   exact⟨g z (by simp),g TO (by simp),g i1 (by simp),g i2 (by simp)⟩
  have I2:Inv X AC σ H { s with heap:=h',gens:=s.gens,drawn:=s.drawn,toks:=s.toks }:=by
   refine I.step (ch:=[z,TI,TO,i1,i2]) (λb hb=>⟨(hf b hb).2.2.2.1,(hf b hb).2.1,(hf b hb).2.2.2.2.1,(hf b hb).2.2.2.2.2⟩) (λb o _ _ hc' e _=>?_) (λb o _ _ hc' e _=>?_) (λb o _ e n=>n) (λb o hc' e=>?_)
    (λb zs q=>q) (λb o zs q=>q) (λb ps q=>⟨#[],by rw[q];simp⟩) (λm hm=>?_) (λb ob e=>?_) I.bare
   .obtain ⟨n1,n2,n3,n4⟩:=x6 b hc';exact hk b o n1 n2 n3 n4 e
   .obtain ⟨n1,n2,n3,n4⟩:=x6 b hc';exact⟨o.slots,hk b o n1 n2 n3 n4 e⟩
   .obtain ⟨n1,n2,n3,n4⟩:=x6 b hc';exact⟨o,hk b o n1 n2 n3 n4 e⟩
   .obtain ⟨o,es,ep,ho,r⟩:=hm;have nl:∀c∈[z,TI,TO,i1,i2],X.env.locals≠c:=λc hc' q=>(hf c hc').2.1 q.symm;exact⟨o,es,ep,hk _ o (nl z (by simp)) (nl TO (by simp)) (nl i1 (by simp)) (nl i2 (by simp)) ho,r⟩
   .refine (I.hok b ob e).stay (λc v Ud q=>?_) (λc q=>q) λc zs q=>q;rcases Ud with r|r
    .obtain ⟨n1,n2,n3,n4⟩:=nf b ob e;rw[r];rw[r]at q;exact hk b v n1 n2 n3 n4 q
    .obtain ⟨n1,n2,n3,n4⟩:=nf c _ r;exact hk c v n1 n2 n3 n4 q
  exact I2
 self:=λ_ _ _ _ _ st h=>wpAny_pyIter_zip st.1 h
def Lj(P:Program)(w:World)(u:Value)(o:Obj)(pre:Heap->Prop):Prop:=∀(A:Around)(E:VS)(s:Shared)(Q:VS),pre s.heap->Q (.ref s.heap.objs.size) { s with heap:=s.heap.push o }->wpAny (model P w) A (pyIter u) Q E s
def R0{w:World}{p1 p2:Heap->Prop}(s1:Lj P w u1 o1 p1)(s2:Lj P w u2 o2 p2):MeetsIn P w (Builtin.«zip.__new__» ⟨[.type "zip",u1,u2],[]⟩) (λ_ R s=>p1 s.heap/\p2 (s.heap.push o1)/\R (.ok (.ret (.ref ((((s.heap.push o1).push o2).push { cls:=.type "tuple",data:=.seq #[.ref s.heap.objs.size,.ref (s.heap.push o1).objs.size] }).push { cls:=.type "tuple",data:=.seq #[.none,.none] }).objs.size)))
     { s with heap:=((((s.heap.push o1).push o2).push { cls:=.type "tuple",data:=.seq #[.ref s.heap.objs.size,.ref (s.heap.push o1).objs.size] }).push { cls:=.type "tuple",data:=.seq #[.none,.none] }).push { cls:=.type "zip",data:=.fields #[.none,.bool false,.bool false,.ref ((s.heap.push o1).push o2).objs.size,.ref (((s.heap.push o1).push o2).push { cls:=.type "tuple",data:=.seq #[.ref s.heap.objs.size,.ref (s.heap.push o1).objs.size] }).objs.size] } }):=
 .of_wp λA R s h=>by
  obtain⟨hp,g,d,tk,os⟩:=s;obtain⟨q1,q2,h⟩:=h;have hsub:=sub_zip;have i1:=λ(A:Around)(E:VS)(Q:VS)=>s1 A E ⟨hp,g,d,tk,os⟩ Q q1;have i2:=λ(A:Around)(E:VS)(Q:VS)=>s2 A E ⟨hp.push o1,g,d,tk,os⟩ Q q2
  wp_walk using i1 _ _ _,i2 _ _ _
  exact⟨_,Z,h⟩
section
variable {prog:Program}{w:World}{A:Around}{E:VS}{s:Shared}{it t:Addr}{i:Nat}{items:Array Value}{Q:VS}
def Oj{x:Value}(hit:s.heap.IsTupleIter it t i)(ht:s.heap.IsTuple t items)(hx:items[i]?=some x)(hQ:∀h',h'.IsTupleIter it t (i+1)->Heap.SameBut it s.heap h'->Q x { s with heap:=h' }):wpAny (model prog w) A (Builtin.SmallTypes.nextOf (.ref it)) Q E s:=by obtain⟨o,ho,hc,hd⟩:=id hit;obtain⟨ol,gf,_,nl,hdl⟩:=ht;unfold Builtin.SmallTypes.nextOf;refine az (Aa (name:=Str.ofString "__next__") hit.typeIs Q_ (wG Q_ hit.typeIs F.entry_tuple_iterator_next ?_ (F.args_tuple_iterator_next_1 _)));show wpAny _ _ (field (.ref it) 0 >>= _) _ _ s;refine az (nR ho hd (x:=.ref t) rfl ?_);show wpAny _ _ (if(Value.ref t==Value.none)=true then _ else _) _ _ s;rw[aC (λz=>iA z:¬ ((Value.ref t==Value.none)=true))];show wpAny _ _ (field (.ref it) 1 >>= _) _ _ s;refine az (nR ho hd (x:=.int i 0) rfl ?_);show wpAny _ _ (seqItems? (.ref t) >>= _) _ _ s;refine az (uD gf hdl ?_);simp only[uZ,hx];refine az (Bu ho hd (by simp) (aT ⟨x,Z,aT (hQ _ ?_ (Fp ..))⟩));refine⟨_,Cs _ ho (Obj.isFreed_of_fields (Ft hd _)),(Obj.cls_mapFields ..).trans hc,?_⟩;rw[Ft hd];simp[rawInt]
def R1(hh:A.handled=none)(hit:s.heap.IsTupleIter it t i)(ht:s.heap.IsTuple t items)(hx:items[i]?=none)(hE:∀h' e,Heap.ExtBut it s.heap h'->(∃o,h'.get? e=some o/\o.cls =.type "StopIteration")->E (.ref e) { s with heap:=h' }):wpAny (model prog w) A (Builtin.SmallTypes.nextOf (.ref it)) Q E s:=by
 obtain⟨o,ho,hc,hd⟩:=id hit;obtain⟨ol,gf,_,nl,hdl⟩:=ht;unfold Builtin.SmallTypes.nextOf;refine az (Aa (name:=Str.ofString "__next__") hit.typeIs Q_ (wG Q_ hit.typeIs F.entry_tuple_iterator_next ?_ (F.args_tuple_iterator_next_1 _)));show wpAny _ _ (field (.ref it) 0 >>= _) _ _ s;refine az (nR ho hd (x:=.ref t) rfl ?_);show wpAny _ _ (if(Value.ref t==Value.none)=true then _ else _) _ _ s;rw[aC (λz=>iA z:¬ ((Value.ref t==Value.none)=true))];show wpAny _ _ (field (.ref it) 1 >>= _) _ _ s;refine az (nR ho hd (x:=.int i 0) rfl ?_);show wpAny _ _ (seqItems? (.ref t) >>= _) _ _ s;refine az (uD gf hdl ?_);simp only[uZ,hx];refine az (wpAny_rule (az (Bu ho hd (by simp) ?_)));show wpAny _ _ (newExc (.type "StopIteration") [] >>= _) _ _ _;refine az ?_;simp only[newExc,newTuple];refine az (xC ?_ (by size_fits));refine az (m:=firstArgMember _ _) (wpAny_of_eq (a:=Value.none) (by first|rfl|(simp only[firstArgMember];rfl)) ?_);refine xC ?_ (by size_fits);simp only[raiseNew];refine az (wpAny_handled ?_);first|rw[show A.in1.handled=none from hh]|rw[hh]
 refine az (aT (wpAny_throw ?_));exact hE _ _ (((Fp ..).extBut.push _).push _) ⟨_,ef _ rfl,Z⟩
end
theorem ZC{w:World}{l:Addr}:Az P w K (λH=>dm K H l xs) xs it l (λi h=>h.IsTupleIter it l i) (λh=>∃BT:Da Value,Vals xs BT/\h.IsTuple l BT.toArray) where
 obj:=λi h ⟨o,e,c,d⟩=>⟨o,e,λv z=>by rw[d]at z;cases z⟩
 keep:=λi h h' st k=>st.at k
 wU:=λh h' ⟨BT,r,o,e,q⟩ k=>⟨BT,r,o,k o e,q⟩
 HP:=λX hP hw hK AC σ H s I h=>by subst hP hw hK;obtain⟨BT,rv,p,_⟩:=I.tuple h;exact⟨BT,rv,p⟩
 item:=λA i x s Q E st ⟨BT,r,hl⟩ hx hQ=>by obtain⟨u,hu,ru⟩:=r.get hx;exact Oj st hl (by simpa using hu) λh' st' sb=>hQ u h' ru st' sb
 done:=λA i s Q E hh st ⟨BT,r,hl⟩ hx hE=>R1 hh st hl (by have:=r.length;simp;omega) hE
def WD:typeLookup (.type "dict") "__len__"=pure (some (.builtin "dict.__len__")):=by rw[typeLookup_type,builtinLookup_eq_fast];kernel_rfl
variable {R:Result->Shared->Prop}
section
variable {prog:Program}{w:World}{A:Around}{E:VS}{s:Shared}{K:Type}[DecidableEq K]{knd:KeyKind prog w K}
def BX(hh:A.handled=none){d:Addr}{AT:Da (K×Value)}(hd:(d==sysModules)=false)(hm:s.heap.DictAt knd d AT ep)(S:Addr)(hSd:S≠d)(res:Value)(c₀:Nat)(hS:s.heap.get? S=some { cls:=.type "list",data:=.seq #[] c₀ })(hR:∀h' tk acc' c',(∀b o,b≠S->s.heap.get? b=some o->h'.get? b=some o)->h'.get? S=some { cls:=.type "list",dict:=none,data:=.seq acc' c',slots:=#[] }->
    ItemsOf (λi v=>∃k x,AT[i]?=some (k,x)/\knd.is k v=true) acc' AT.length->R (.ok (.ret res)) { s with heap:=h',toks:=tk })(hn:AT.length<=sizeLine):
  wpAny (model prog w) A.in1 (Builtin.List.listExtendWith (.ref S) (.ref d) res)
   (λfin s'=>match fin with | .done f=>R (.ok f) s' | .again c'=>c'.quiet=true/\codeAny (model prog w) A c' R s') (λe s'=>R (.error e) s') s:=by
 have hSI:S≠s.heap.objs.size:=d7 (bM hS)
 have hT:s.TypeIs (.ref d) "dict":=hm.dictOf.typeIs
 unfold Builtin.List.listExtendWith
 refine az (wpAny_typeOf (T:="dict") (v:=.ref d) hT ?_)
 have h1:Builtin.List.listSameRef (.ref S) (.ref d)=false:=by show(S==d)=false;simpa using hSd
 have h2:(Value.type "dict"==Value.type "list")=false:=by decide
 have h3:(Value.type "dict"==Value.type "tuple")=false:=by decide
 simp only[h1,h2,h3,Bool.or_false,Fq,pM]
 refine az (wpAny_pyIter_dict hd hm ?_)
 refine az (wI ?_)
 unfold Builtin.List.listLengthHint
 have hT2:({ s with heap:=s.heap.push { cls:=.type "dict_keyiterator",data:=.fields #[.ref d,.int 0 0,.int AT.length 0,.int ep 0] } }:Shared).TypeIs (.ref d) "dict":=(hm.push _).dictOf.typeIs
 refine az (wpAny_specialOf (T:="dict") (v:=.ref d) hT2 WD ?_)
 wp_delta
 refine az (wpAny_isInstance (T:="dict") (v:=.ref d) (b:=true) hT2 (by rw[isSubtype_type];kernel_rfl) ?_)
 show wpAny _ _ (typeOf (Value.ref d) >>= _) _ _ _
 refine az (wpAny_typeOf (T:="dict") (v:=.ref d) hT2 ?_)
 refine aT ?_
 have hne:d≠s.heap.objs.size:=d7 hm.lt_size
 have hSf:S∉[s.heap.objs.size,d] :=λhm'=>by
  rcases b_.mp hm' with z|z
  .exact hSI z
  .exact hSd (eO.mp z)
 show wpAny _ A.in1 (rule "list.extend.makes-room" >>= λ_=>Builtin.List.listTouch (.ref S) >>= λ_=>
  again (.builtin "list.extend.loop" ⟨[.ref S,.ref s.heap.objs.size,res],[]⟩)) _ _ _
 refine az (wpAny_rule ?_)
 refine az ?_
 show wpAny _ A.in1 (updateSeq S (·.push .none) >>= λ_=>updateSeq S (·.pop)) _ _ _
 have hS₁:=b9 { cls:=.type "dict_keyiterator",data:=.fields #[.ref d,.int 0 0,.int AT.length 0,.int ep 0] } hS
 refine az (wpAny_updateSeq hS₁ rfl ?_)
 have X8:=Cs (Obj.mapSeq (·.push Value.none)) hS₁ rfl
 refine wpAny_updateSeq (hz:=by seq_fits) X8 rfl ?_
 have hS₃:=Cs (Obj.mapSeq (·.pop)) X8 rfl
 have P0:∀b o,b≠S->(s.heap.push { cls:=.type "dict_keyiterator",data:=.fields #[.ref d,.int 0 0,.int AT.length 0,.int ep 0] }).get? b=some o->(((s.heap.push { cls:=.type "dict_keyiterator",data:=.fields #[.ref d,.int 0 0,.int AT.length 0,.int ep 0] }).update S (Obj.mapSeq (·.push Value.none))).update S (Obj.mapSeq (·.pop))).get? b=some o:=
  λb o hb e=>(Kz _ _ (bB hb)).trans ((Kz _ _ (bB hb)).trans e)
 refine aT ⟨plainId_quiet F.plain_extend_loop _,codeAny_extend_loopS (Walks.dictKeys (prog:=prog) (w:=w) (A:=A.in1) (knd:=knd) hh s.heap.objs.size d hne AT ep).toS hn _ hSf _ AT.length 0 _ _ _ rfl (fm _) ⟨⟨_,P0 _ _ (bB hSI) (ef _ rfl),Z,Z⟩,(hm.push _).at' λo e=>P0 d o (bB hSd) e⟩ hS₃ (ItemsOf.nil _) λs' acc' c' hm2 hS' Bi=>?_⟩
 rw[Moved.eq_with hm2]
 refine hR s'.heap s'.toks acc' c' (λb ob hb e=>hm2.heap b ob (λhmem=>?_) (P0 b ob hb (b9 _ e))) hS' Bi
 rcases b_.mp hmem with e'|hmem
 . exact hb e'
 . exact absurd (bM e) (by rw[eO.mp hmem];exact i7 _)
def FI{Q:VS}(hh:A.handled=none){d:Addr}{AT:Da (K×Value)}(hd:(d==sysModules)=false)(hm:s.heap.DictAt knd d AT ep)(hn:AT.length<=sizeLine)(hQ:∀h' tk acc' c',(∀b o,s.heap.get? b=some o->h'.get? b=some o)->
    h'.get? s.heap.objs.size=some { cls:=.type "list",dict:=none,data:=.seq acc' c',slots:=#[] }->ItemsOf (λi v=>∃k x,AT[i]?=some (k,x)/\knd.is k v=true) acc' AT.length->Q (.ref s.heap.objs.size) { s with heap:=h',toks:=tk }):
  wpAny (model prog w) A (call (.type "list") [.ref d]) Q E s:=by
 refine callType_codes (Q₁:=λobj s₁=>obj =.ref s.heap.objs.size/\s₁={ s with heap:=s.heap.push { cls:=.type "list",data:=.seq #[] } }) F.called_list (F.typeCall_list_1 _) F.entry_list_init
  (code_list_new _ ⟨Z,Z⟩) λobj s₁ h₁=>?_
 obtain⟨rfl,rfl⟩:=h₁
 have hS:(s.heap.push { cls:=.type "list",data:=.seq #[] }).get? s.heap.objs.size=some { cls:=.type "list",data:=.seq #[] }:=ef _ rfl
 have hne:s.heap.objs.size≠d:=wJ hm.lt_size
 refine⟨⟨_,hS,Z⟩,F.args_list_init_2 _ _,?_⟩
 show wpAny _ _ (do let old <-Builtin.List.listItems (.ref s.heap.objs.size);Builtin.List.listUpdate (.ref s.heap.objs.size) (λ_=>#[]);letGo old.toList.reverse;Builtin.List.listExtendWith (.ref s.heap.objs.size) (.ref d) .none) _ _ _
 refine az ?_
 unfold Builtin.List.listItems
 refine az (uD hS rfl (aT ?_))
 show wpAny _ _ (updateSeq s.heap.objs.size (λ_=>#[]) >>= λ_=>letGo (#[] :Array Value).toList.reverse >>= λ_=>Builtin.List.listExtendWith (.ref s.heap.objs.size) (.ref d) .none) _ _ _
 refine az (wpAny_updateSeq hS rfl ?_)
 have X8:=Cs (Obj.mapSeq (λ_=>(#[] :Array Value))) hS rfl
 have P0:∀b o,b≠s.heap.objs.size->(s.heap.push { cls:=.type "list",data:=.seq #[] }).get? b=some o->((s.heap.push { cls:=.type "list",data:=.seq #[] }).update s.heap.objs.size (Obj.mapSeq (λ_=>(#[] :Array Value)))).get? b=some o:=
  λb o hb e=>(Kz _ _ (bB hb)).trans e
 refine az (wpAny_letGo ?_)
 refine BX (A:=A.in1) hh hd (hm.push _ |>.at' λo e=>P0 d o hne.symm e) s.heap.objs.size hne .none _ X8 (λh' tk acc' c' hk hS' Bi=>?_) hn
 exact⟨Z,hQ h' tk acc' c' (λb o e=>hk b o (d7 (bM e)) (P0 b o (d7 (bM e)) (b9 _ e))) hS' Bi⟩
end
theorem HR{α β:Type}{F:α->β->Prop}:∀{l₁:Da α}{l₂:Da β},l₁.length=l₂.length->(∀(i:Nat)(x:α)(y:β),l₁[i]?=some x->l₂[i]?=some y->F x y)->Paired F l₁ l₂
 | [],[],_,_=> .nil
 | x::xs,y::ys,h,f=> .cons (f 0 x y rfl rfl) (HR (by simpa using h) λi a b ha hb=>f (i+1) a b (by simpa using ha) (by simpa using hb))
noncomputable def lR(v d:Addr):HO:=.ext λh=>h.IsValuesView v d
section
variable {X:Cx}
inductive abz(Q:VK)(x:V)(H1:Hp):Prop
 |mk(d AT:_)(_:x =.ref d)(_:Rd H1 d (.dK AT))(_:∀v,H1 v=none->Q (.ref v) (upd H1 v (lR v d)))
def afd(td:TE):TE:=λσ H Q=>td σ H (abz Q)
inductive Wk(K:Fg)(H:Hp):V->(Hp->Prop)->Da V->Prop
 | lst {l:Addr} {xs:Da V}:aG K H l xs->Wk K H (.ref l) (λH=>aG K H l xs) xs
 | tup {l:Addr} {xs:Da V}:dm K H l xs->Wk K H (.ref l) (λH=>dm K H l xs) xs
 | keys {d:Addr} {o:Obj} {AT:Da (Key×V)}:oX H d o AT->Wk K H (.ref d) (λH=>oX H d o AT) (AT.map λp=>kV p.1)
 | vals {v d:Addr} {o:Obj} {AT:Da (Key×V)}:H v=some (lR v d)->oX H d o AT->Wk K H (.ref v) (λH=>oX H d o AT) (AT.map λp=>p.2)
def Wk.ok{u:V}{S:Hp->Prop}(k:Wk X.K H u S xs)(I:Inv X AC σ H s)(r:RelV u uv):S H/\∃(l:Addr)(o:Obj)(p:Heap->Prop),l<s.heap.objs.size/\p s.heap/\(∀h (ob:Obj),p h->p (h.push ob))/\(∀h:Heap,(h.push o).get? h.objs.size=some o)/\Lj X.prog X.w uv o p/\∀it:Addr,∃tn src,Az X.prog X.w X.K S xs it l tn src/\∀h:Heap,h.get? it=some o->tn 0 h:=by
 cases k with
 | @lst l xs hS=>cases r;obtain⟨BT,rv,p,_⟩:=I.list hS;obtain⟨ol,gf,_⟩:=id p.isList;refine⟨hS,l,_,λh=>h.IsList l BT.toArray,bM gf,p.isList,λh ob q=>q.push ob,λh=>ef _ rfl,λA E s Q q h=>Rz q h,λit=>⟨_,_,Wz,λh e=>⟨_,e,Z,Z⟩⟩⟩
 | @tup l xs hS=>cases r;obtain⟨BT,rv,p,_⟩:=I.tuple hS;obtain⟨ol,gf,q0⟩:=id p;refine⟨hS,l,_,λh=>h.IsTuple l BT.toArray,bM gf,p,λh ob ⟨o1,a,b⟩=>⟨o1,b9 _ a,b⟩,λh=>ef _ rfl,λA E s Q q h=>wpAny_pyIter_tuple q h,λit=>⟨_,_,ZC,λh e=>⟨_,e,Z,Z⟩⟩⟩
 | @keys d o AT hz=>cases r;obtain⟨ho,hl,hsys,vs,ep,rel,da⟩:=I.rV hz;obtain⟨o',es,h1,_,h2,_⟩:=id da;rw[ho]at h1;cases h1;have el:AT.length=vs.length:=rel.length;refine⟨hz,d,_,λh=>h.DictAt (dh X.prog X.w) d vs ep,bM ho,da,λh ob q=>q.push ob,λh=>ef _ rfl,λA E s Q q h=>wpAny_pyIter_dict hsys q h,λit=>⟨_,_,WA h2,λh e=>?_⟩⟩;rw[el];exact⟨_,e,Z,Z⟩
 | @vals v d o AT hv hz=>
  cases r;obtain⟨ho,hl,hsys,vs,ep,rel,da⟩:=I.rV hz;obtain⟨o',es,h1,_,h2,_⟩:=id da;rw[ho]at h1;cases h1;have el:AT.length=vs.length:=rel.length;obtain⟨hv',_⟩:=(show e_ X.prog X.w H s.heap v (lR v d)from I.hok v _ hv)
  refine⟨hz,d,_,λh=>h.IsValuesView v d/\h.DictAt (dh X.prog X.w) d vs ep,bM ho,⟨hv',da⟩,λh ob ⟨⟨o1,a,b⟩,q⟩=>⟨⟨o1,b9 _ a,b⟩,q.push ob⟩,λh=>ef _ rfl,λA E s Q q h=>wpAny_pyIter_values q.1 q.2 h,λit=>⟨_,_,WB h2,λh e=>?_⟩⟩;rw[el];exact⟨_,e,Z,Z⟩
variable {DD:Da Expr}{kk:Nat}{tpos:Pos}
inductive abA(K:Fg)(R:It->Hp->Prop)(vs:Da V)(H1:Hp):Prop
 |mk(u1 u2 S1 S2 xs ys:_)(_:vs=[u1,u2])(_:Wk K H1 u1 S1 xs)(_:Wk K H1 u2 S2 ys)(_:R (aby S1 S2 xs ys:_) H1)
def afe(K:Fg)(ta:TA):TI:=λσ H R=>ta σ H (abA K R)
theorem HU(hc:X.calm=true):i_ X (.builtin "sum") (λxs H Q=>∃(v d:Addr)(AT:Da (Key×V))(ns:Da Int),xs=[.ref v]/\H v=some (lR v d)/\Rd H d (.dK AT)/\AT.map (·.2)=ns.map V.int/\Q (.int ns.sum) H):=by
 intro AC s σ H xs us Q I r h;obtain⟨v,d,AT,ns,rfl,hv,hz,en,q⟩:=h;obtain⟨u,rfl,ru⟩:=vals1 r;cases ru;obtain⟨_,hsys,vs,rel,dd⟩:=rT I.hok hz;obtain⟨ep,da⟩:=dd.dictAt;obtain⟨hv',_⟩:=(show e_ X.prog X.w H s.heap v (lR v d)from I.hok v _ hv)
 have hl:AT.length=vs.length:=rel.length;have hlt:=da.lt_size;have hne:d≠s.heap.objs.size:=d7 hlt;have W:=(Walks.dictValues (prog:=X.prog) (w:=X.w) (A:=X.A.in1) (knd:=dh X.prog X.w) (I.ok.hd hc) s.heap.objs.size d hne vs ep).toS;have D0:AT.length=ns.length:=by have:=rQ List.length en;simpa using this
 refine call_sum_walkAnyS (wpAny_pyIter_values hv' da ?_);refine⟨s.heap.objs.size,_,_,_,_,_,_,λi=>ns.getD i 0,Z,W,⟨⟨_,ef _ rfl,Z,Z⟩,da.push _⟩,λb hb=>?_,λi x hP=>?_,λs' t' hm=>?_⟩
 .rcases b_.mp hb with rfl|hb
  .exact bM (ef _ rfl)
  .obtain rfl:=eO.mp hb;exact(da.push _).lt_size
 .obtain ⟨k,hk⟩:=hP;have hil:i<ns.length:=by have:=(dX.mp hk).1;omega
  have hik:i<AT.length:=by omega
  obtain⟨q',hq',_,rq⟩:=ye rel (bu hik);rw[hk]at hq';cases hq';have e1:AT[i].2=V.int (ns.getD i 0):=by have:=rQ (λl=>l[i]?) en;simp only[cu,bu hik,bu hil]at this;rw[nE,bu hil];exact fM this
  rw[e1]at rq;exact rq
 .obtain ⟨h',g',d',tk',os'⟩:=s';have e1:g'=s.gens:=hm.gens;have e2:d'=s.drawn:=hm.drawn;have e3:os'=s.os:=hm.os;subst e1 e2 e3;have hsz:vs.length=ns.length:=by omega
  rw[hsz,preSum_getD,Rj (aK _)];exact⟨.int ns.sum,H,I.kept (h':=h') (t':=tk') λb o e=>hm.heap b o (λhb=>absurd (bM e) ((eO.mp hb)▸i7 _)) (b9 _ e),⟨t',Z⟩,q⟩
theorem R3(hc:X.calm=true):i_ X (.type "list") (λxs H Q=>∃(d:Addr)(AT:Da (Key×V)),xs=[.ref d]/\Rd H d (.dK AT)/\∀l,H l=none->Q (.ref l) (upd H l (.lst (AT.map λp=>kV p.1)))):=by
 intro AC s σ H xs us Q I r h;obtain⟨d,AT,rfl,hz,q⟩:=h;obtain⟨u,rfl,ru⟩:=vals1 r;cases ru;obtain⟨hsz,hsys,vs,rel,dd⟩:=rT I.hok hz;obtain⟨ep,da⟩:=dd.dictAt;have hl:AT.length=vs.length:=rel.length;refine FI (I.ok.hd hc) hsys da (by omega) λh' tk acc' c' kp e it=>?_;refine⟨.ref s.heap.objs.size,_,I.laid (t':=tk) kp (aK _) (show e_ X.prog X.w _ h' _ (.lst (AT.map λp=>kV p.1))from⟨by rw[aF];exact hsz,acc'.toList,c',?_,by rw[e]⟩),Z,q _ I.fresh⟩;obtain⟨sz,hit⟩:=it;have hA:acc'.toList.length=acc'.size:=by simp
 have hB:(AT.map λp=>kV p.1).length=acc'.toList.length:=by rw[aF];omega
 refine HR hB λi x y hx hy=>?_;rw[cu]at hx;obtain⟨p,hp,rfl⟩:=kH.mp hx;obtain⟨k,v,hk,hkk⟩:=hit i y (by simpa using hy);obtain⟨q',hq',ek,_⟩:=ye rel hp;rw[hk]at hq';cases hq';rw[ek];exact Li hkk
end
noncomputable def dz:St->Da Nat->Da V->St
 | σ,k::ks,v::vs=>dz (σ.set k (some v)) ks vs
 | σ,_,_=>σ
theorem Ea{k:Nat}{v:Option V}:∀{ks:Da Nat}{vs:Da V}{σ:St},k∉ks->(dz σ ks vs).set k v=dz (σ.set k v) ks vs
 | [],_,_,_=>by unfold dz;rfl
 | _::_,[],_,_=>by unfold dz;rfl
 | j::ks,w::vs,σ,h=>by have hj:k≠j:=λe=>h (by rw[e];exact dg);show(dz (σ.set j (some w)) ks vs).set k v=dz ((σ.set k v).set j (some w)) ks vs;rw[Ea (λm=>h (cM _ m)),List.set_comm _ _ hj]
theorem pW:∀{ks:Da Nat}{vs ws:Da V}{σ:St},ks.Nodup->vs.length=ks.length->ws.length=ks.length->dz (dz σ ks vs) ks ws=dz σ ks ws
 | [],[],[],_,_,_,_=>rfl
 | k::ks,v::vs,w::ws,σ,nd,h1,h2=>by have nk:=(gZ.mp nd).1;show dz ((dz (σ.set k (some v)) ks vs).set k (some w)) ks ws=dz (σ.set k (some w)) ks ws;rw[Ea nk,wK,pW (gZ.mp nd).2 (by simpa using h1) (by simpa using h2)]
noncomputable def Ui:Da Nat->DI
 | []=>aaC
 | k::ks=>XO (pP k) (Ui ks)
theorem Eb{Q:St->Hp->Prop}{H:Hp}:∀{ks:Da Nat}{vs:Da V}{σ:St},vs.length=ks.length->Q (dz σ ks vs) H->Ui ks vs σ H Q
 | [],[],_,_,q=>⟨Z,q⟩
 | k::ks,v::vs,σ,h,q=>⟨v,vs,Z,Eb (by simpa using h) q⟩
theorem yf{n:Nat}(ks:Da Nat){Q:VK}(Pv:Nat->Da V->Hp->Prop)(nd:ks.Nodup)(hn:n<=100000)(h0:Pv 0 [] (upd H Ap (.lst [])))(hgo:∀i out H1,i<n->H1 Ap=some (.lst out)->Pv i out H1->J.go i H1)(hst:∀out H1,H1 Ap=some (.lst out)->Pv n out H1->J.stop n H1)(hs:∀(i:Nat) (x:V) (out:Da V) (H1 H2:Hp),i<n->out.length=i->H1 Ap=some (.lst out)->Pv i out H1->J.Ah i H1 x H2->
    ∃t vs,x =.ref t/\dm K H2 t vs/\vs.length=ks.length/\te (dz σ2 ks vs) H2 (yP Pv i Ap out))(hd:∀(out:Da V) (H1:Hp),out.length=n->H1 Ap=some (.lst out)->Pv n out H1->Q (.ref Ap) H1):
  DV J (Af K ks.length (Ui ks)) te Ap σ2 H Q:=by
 refine⟨λi m σ' H'=>m=n-i/\i<=n/\(∀ws,ws.length=ks.length->dz σ' ks ws=dz σ2 ks ws)/\∃out,out.length=i/\H' Ap=some (.lst out)/\Pv i out H',⟨n,by simp,fm _,λ_ _=>rfl,[],Z,ah,h0⟩,?_⟩
 rintro i m σ' H' ⟨rfl,hi,hσ,out,ho,ha,p⟩
 by_cases hlt:i<n
 . refine .inr ⟨hgo i out H' hlt ha p,λσ3=>∀ws,ws.length=ks.length->dz σ3 ks ws=dz σ2 ks ws,(yP Pv i Ap out),λσ3 v H4 hS ⟨a,b⟩=>?_,λx H1 y=>?_⟩
   . refine⟨out,a,?_,n-(i+1),by omega,Z,hlt,hS,out++[v],by rw[cX,ho];rfl,ah,b⟩
     have:sizeLine=16777216:=jY
     omega
   . obtain⟨t,vs,rfl,sq,hl,q⟩:=hs i x out H' H1 hlt ho ha p y
     refine⟨t,vs,Z,sq,hl,Eb hl ⟨λws hw=>?_,?_⟩⟩
     . rw[pW nd hl hw];exact hσ ws hw
     . rw[hσ vs hl];exact q
 . have e:i=n:=by omega
   subst e
   exact .inl ⟨hst out H' ha p,hd out H' ho ha p⟩
theorem ZD{n:Nat}(ks:Da Nat){Q:VK}(Pv:Nat->Da V->Hp->Prop)(nd:ks.Nodup)(hn:n<=100000)(h0:Pv 0 [] (upd H Ap (.lst [])))(hgo:∀i out H1,i<n->H1 Ap=some (.lst out)->Pv i out H1->J.go i H1)(hst:∀out H1,H1 Ap=some (.lst out)->Pv n out H1->J.stop n H1)(hs:∀(i:Nat) (x:V) (out:Da V) (H1 H2:Hp),i<n->out.length<=i->H1 Ap=some (.lst out)->Pv i out H1->J.Ah i H1 x H2->
    ∃t vs,x =.ref t/\dm K H2 t vs/\vs.length=ks.length/\tc (dz σ2 ks vs) H2 (X0 te (dz σ2 ks vs) Pv i Ap out))(hd:∀(out:Da V) (H1:Hp),out.length<=n->H1 Ap=some (.lst out)->Pv n out H1->Q (.ref Ap) H1):
  D9 J (Af K ks.length (Ui ks)) tc te Ap σ2 H Q:=by
 refine⟨λi m σ' H'=>m=n-i/\i<=n/\(∀ws,ws.length=ks.length->dz σ' ks ws=dz σ2 ks ws)/\∃out,out.length<=i/\H' Ap=some (.lst out)/\Pv i out H',⟨n,by simp,fm _,λ_ _=>rfl,[],aK _,ah,h0⟩,?_⟩
 rintro i m σ' H' ⟨rfl,hi,hσ,out,ho,ha,p⟩
 by_cases hlt:i<n
 . refine .inr ⟨hgo i out H' hlt ha p,λσ3=>∀ws,ws.length=ks.length->dz σ3 ks ws=dz σ2 ks ws,(yP Pv i Ap out),λH3=>H3 Ap=some (.lst out)/\Pv (i+1) out H3,λσ3 v H4 hS ⟨a,b⟩=>?_,λσ3 H4 hS ⟨a,b⟩=>?_,λx H1 y=>?_⟩
   . refine⟨out,a,?_,n-(i+1),by omega,Z,hlt,hS,out++[v],by rw[cX];exact Nat.succ_le_succ ho,ah,b⟩
     have:sizeLine=16777216:=jY
     omega
   . exact⟨n-(i+1),by omega,Z,hlt,hS,out,by omega,a,b⟩
   . obtain⟨t,vs,rfl,sq,hl,q⟩:=hs i x out H' H1 hlt ho ha p y
     refine⟨t,vs,Z,sq,hl,Eb hl ⟨λws hw=>?_,?_⟩⟩
     . rw[pW nd hl hw];exact hσ ws hw
     . rw[hσ vs hl];exact q
 . have e:i=n:=by omega
   subst e
   exact .inl ⟨hst out H' ha p,hd out H' ho ha p⟩
theorem k7{n:Nat}(k:Nat){Q:VK}(Pv:Nat->Da V->Hp->Prop)(hn:n<=100000)(h0:Pv 0 [] (upd H Ap (.lst [])))(hgo:∀i out H1,i<n->H1 Ap=some (.lst out)->Pv i out H1->J.go i H1)(hst:∀out H1,H1 Ap=some (.lst out)->Pv n out H1->J.stop n H1)(hs:∀(i:Nat) (x:V) (out:Da V) (H1 H2:Hp),i<n->out.length=i->H1 Ap=some (.lst out)->Pv i out H1->J.Ah i H1 x H2->
    te (σ2.set k (some x)) H2 (yP Pv i Ap out))(hd:∀(out:Da V) (H1:Hp),out.length=n->H1 Ap=some (.lst out)->Pv n out H1->Q (.ref Ap) H1):
  DV J (pP k) te Ap σ2 H Q:=by
 refine⟨λi m σ' H'=>m=n-i/\i<=n/\(∀w:Option V,σ'.set k w=σ2.set k w)/\∃out,out.length=i/\H' Ap=some (.lst out)/\Pv i out H',⟨n,by simp,fm _,λ_=>rfl,[],Z,ah,h0⟩,?_⟩
 rintro i m σ' H' ⟨rfl,hi,hσ,out,ho,ha,p⟩
 by_cases hlt:i<n
 . refine .inr ⟨hgo i out H' hlt ha p,λσ3=>∀w:Option V,σ3.set k w=σ2.set k w,(yP Pv i Ap out),λσ3 v H4 hS ⟨a,b⟩=>?_,λx H1 y=>?_⟩
   . refine⟨out,a,?_,n-(i+1),by omega,Z,hlt,hS,out++[v],by rw[cX,ho];rfl,ah,b⟩
     have:sizeLine=16777216:=jY
     omega
   . refine⟨λw=>by rw[wK];exact hσ w,?_⟩
     rw[hσ]
     exact hs i x out H' H1 hlt ho ha p y
 . have e:i=n:=by omega
   subst e
   exact .inl ⟨hst out H' ha p,hd out H' ho ha p⟩
theorem ZE{n:Nat}(k:Nat){Q:VK}(Pv:Nat->Da V->Hp->Prop)(hn:n<=100000)(h0:Pv 0 [] (upd H Ap (.lst [])))(hgo:∀i out H1,i<n->H1 Ap=some (.lst out)->Pv i out H1->J.go i H1)(hst:∀out H1,H1 Ap=some (.lst out)->Pv n out H1->J.stop n H1)(hs:∀(i:Nat) (x:V) (out:Da V) (H1 H2:Hp),i<n->out.length<=i->H1 Ap=some (.lst out)->Pv i out H1->J.Ah i H1 x H2->
    tc (σ2.set k (some x)) H2 (X0 te (σ2.set k (some x)) Pv i Ap out))(hd:∀(out:Da V) (H1:Hp),out.length<=n->H1 Ap=some (.lst out)->Pv n out H1->Q (.ref Ap) H1):
  D9 J (pP k) tc te Ap σ2 H Q:=by
 refine⟨λi m σ' H'=>m=n-i/\i<=n/\(∀w:Option V,σ'.set k w=σ2.set k w)/\∃out,out.length<=i/\H' Ap=some (.lst out)/\Pv i out H',⟨n,by simp,fm _,λ_=>rfl,[],aK _,ah,h0⟩,?_⟩
 rintro i m σ' H' ⟨rfl,hi,hσ,out,ho,ha,p⟩
 by_cases hlt:i<n
 . refine .inr ⟨hgo i out H' hlt ha p,λσ3=>∀w:Option V,σ3.set k w=σ2.set k w,(yP Pv i Ap out),λH3=>H3 Ap=some (.lst out)/\Pv (i+1) out H3,λσ3 v H4 hS ⟨a,b⟩=>?_,λσ3 H4 hS ⟨a,b⟩=>?_,λx H1 y=>?_⟩
   . refine⟨out,a,?_,n-(i+1),by omega,Z,hlt,hS,out++[v],by rw[cX];exact Nat.succ_le_succ ho,ah,b⟩
     have:sizeLine=16777216:=jY
     omega
   . exact⟨n-(i+1),by omega,Z,hlt,hS,out,by omega,a,b⟩
   . refine⟨λw=>by rw[wK];exact hσ w,?_⟩
     rw[hσ]
     exact hs i x out H' H1 hlt ho ha p y
 . have e:i=n:=by omega
   subst e
   exact .inl ⟨hst out H' ha p,hd out H' ho ha p⟩
structure Mn(P:Program)(w:World)(K:Fg)(mg:SO)(base:Heap)(k:Nat)(C:Addr)(m:Str)(ps:Da Str)(sp:Sp):Prop where
 ex:∃f fd,ja P w K mg base uw k f fd ps sp/\Binds K fd ps []/\Meth K C m f/\pR K C
structure Cn(P:Program)(w:World)(K:Fg)(mg:SO)(base:Heap)(k:Nat)(x:Str)(C:Addr)(ps:Da Str)(sp:Sp):Prop where
 ex:∃f fd,ja P w K mg base uw k f fd ps sp/\Binds K fd ps []/\Mk K C f/\mg x=some (.ref C)
section
variable {X:Cx}
inductive afg(x:V)(y:V)(H:Hp)(Q:VK):Prop
 |mk(i j:_)(_:x =.int i)(_:y =.int j)(_:RS i j)(_:Q (.int (i*j)) H)
def ZF:KS X .Mult afg:=by
 rintro AC s σ H x y u v Q I rx ry ⟨i,j,rfl,rfl,⟨m,n,h1,h2,h3⟩,q⟩;obtain⟨t,rfl⟩:=(show ∃t,u=Value.int i t from rx)
 obtain⟨t',rfl⟩:=(show ∃t',v=Value.int j t' from ry)
 exact PyProof.Rows.imul_int ⟨.int (i*j),H,I.tok _,⟨_,Z⟩,q⟩ (IntMulOk.of_le (Rn.mpr h1) (Rn.mpr h2) h3)
end
structure gF(K:Fg)(C:Addr)(m qual:Str)(st:Stmt)(f:Addr)(fd:FuncData):Prop where
 fn:HK K m qual st f fd
 me:Meth K C m f
 cl:pR K C
variable {mg:SO}{base:Heap}{C f:Addr}{qual:Str}{fd:FuncData}{N ps:Da Str}{sp:Sp}
theorem gF.ok{w:World}{m:Str}{st:Stmt}{k:Nat}(F:gF K C m qual st f fd)(S:aM N ps (aD st))(len:∀vs H Q E,sp vs H Q E->vs.length=ps.length)(Ch:∀(cdv:Value) (A:Around) (outer:Da Env) (s:Shared) (H:Hp) (vs:Da V) (Q:VK) (E:XK),d8 k (A.deeper (envOfC qual (aD st) s.heap.objs.size f cdv))->sp vs H Q E->
    ∃t,uu (dM uw P w K mg base N qual (aD st) f cdv A outer s H E).Cc (cV st) t/\t { nx:=λ_ H'=>Q .cI H',rt:=Q } (start N vs) H)(h:∀(kV doc pm:Value) (an:Option Addr) (cdv ct:Value) (us:Da Value),us.length=ps.length->bindArgs (PySem.W.fnOf m qual (fj st) (cV st) (aD st) .none kV doc pm an cdv ct) ⟨us,[]⟩=pure (ps.zip us)):
  Mn P w K mg base (k+1) C m ps sp:=⟨f,fd,F.fn.ok S len Ch,F.fn.binds h,F.me,F.cl⟩
structure HV(K:Fg)(mg:SO)(x:Str)(C:Addr)(qual:Str)(st:Stmt)(f:Addr)(fd:FuncData):Prop where
 fn:HK K "__init__" qual st f fd
 mks:Mk K C f
 name:mg x=some (.ref C)
theorem HV.ok{w:World}{st:Stmt}{k:Nat}(F:HV K mg x C qual st f fd)(S:aM N ps (aD st))(len:∀vs H Q E,sp vs H Q E->vs.length=ps.length)(Ch:∀(cdv:Value) (A:Around) (outer:Da Env) (s:Shared) (H:Hp) (vs:Da V) (Q:VK) (E:XK),d8 k (A.deeper (envOfC qual (aD st) s.heap.objs.size f cdv))->sp vs H Q E->
    ∃t,uu (dM uw P w K mg base N qual (aD st) f cdv A outer s H E).Cc (cV st) t/\t { nx:=λ_ H'=>Q .cI H',rt:=Q } (start N vs) H)(h:∀(kV doc pm:Value) (an:Option Addr) (cdv ct:Value) (us:Da Value),us.length=ps.length->bindArgs (PySem.W.fnOf "__init__" qual (fj st) (cV st) (aD st) .none kV doc pm an cdv ct) ⟨us,[]⟩=pure (ps.zip us)):
  Cn P w K mg base (k+1) x C ps sp:=⟨f,fd,F.fn.ok S len Ch,F.fn.binds h,F.mks,F.name⟩
abbrev lS:=Nat×Nat×Str
abbrev bR:=Addr->Option lS
abbrev col(n t:Nat):Option lS:=some (n,t,(⟨#[]⟩:Str))
noncomputable def isTup:HO->Bool
 | .tup _=>true
 | _=>false
def Gh(ρ:bR)(H:Hp):Prop:=∀b c,ρ b=some c->∃o,H b=some o/\isTup o=false
def Fr(n:Nat)(ρ:bR)(H:Hp)(ρ':bR)(H':Hp):Prop:=∀b o,H b=some o->(∀t x,ρ b≠some (n,t,x))->H' b=some o/\ρ' b=ρ b
noncomputable def cy(ρ:bR)(a:Addr)(c:lS):bR:=λb=>if b=a then some c else ρ b
variable {ρ:bR}
def bN{c:lS}:cy ρ a c a=some c:=aB rfl
variable {b:Addr}
def aP{c:lS}(h:b≠a):cy ρ a c b=ρ b:=aC h
noncomputable def out(ρ:bR)(H:Hp):Hp:=λb=>if ρ b=none then H b else none
variable {o:HO}
def cD(h:H b=some o)(c:ρ b=none):out ρ H b=some o:=by unfold out;rw[aB c];exact h
def bF(h:out ρ H b=some o):H b=some o/\ρ b=none:=by
 unfold out at h;split at h
 .next c=>exact⟨h,c⟩
 .cases h
theorem Gh.none(g:Gh ρ H)(h:H b=Option.none):ρ b=Option.none:=by
 cases e:ρ b with
 | none=>rfl
 | some c=>obtain⟨o,q,_⟩:=g b c e;rw[h]at q;cases q
theorem Gh.tup{ρ:bR}{H:Hp}(g:Gh ρ H){b:Addr}{xs:Da V}(h:H b=some (.tup xs)):ρ b=Option.none:=by
 cases e:ρ b with
 | none=>rfl
 | some c=>obtain⟨o,q,t⟩:=g b c e;rw[h]at q;cases q;cases t
def Gh.same(g:Gh ρ H)(s:aJ H H'):Gh ρ H':=λb c e=>let⟨o,h,t⟩:=g b c e;⟨o,s b o h,t⟩
def Gh.wr(g:Gh ρ H)(t:isTup o=false):Gh ρ (upd H a o):=λb c e=>by
 by_cases h:b=a
 .rw [h,ah];exact⟨o,Z,t⟩
 .rw [au h];exact g b c e
def Gh.alloc(g:Gh ρ H)(h:H a=Option.none):Gh ρ (upd H a o):=g.same (aE h o)
def Gh.color(g:Gh ρ H){c:lS}(h:H a=some o)(t:isTup o=false):Gh (cy ρ a c) H:=λb d e=>by
 by_cases z:b=a
 .rw [z];exact⟨o,h,t⟩
 .rw [aP z]at e;exact g b d e
def Fr.refl{n:Nat}:Fr n ρ H ρ H:=λ_ _ h _=>⟨h,Z⟩
variable {ρ1:bR}{H1 H2:Hp}
theorem Fr.trans{n:Nat}{ρ2:bR}(a:Fr n ρ H ρ1 H1)(b:Fr n ρ1 H1 ρ2 H2):Fr n ρ H ρ2 H2:=λc o h k=>by obtain⟨h1,e1⟩:=a c o h k;obtain⟨h2,e2⟩:=b c o h1 (by rw[e1];exact k);exact⟨h2,e2.trans e1⟩
def Fr.of_same{n:Nat}(s:aJ H H'):Fr n ρ H ρ H':=λb o h _=>⟨s b o h,Z⟩
def Fr.write{n:Nat}(c:ρ a=some (n,t,x)):Fr n ρ H ρ (upd H a o):=λb u h k=>by have:b≠a:=λe=>k t x (by rw[e];exact c);rw[au this];exact⟨h,Z⟩
def Fr.color{n:Nat}{c:lS}(h:H a=none)(s:aJ H H'):Fr n ρ H (cy ρ a c) H':=λb u e k=>by rw[aP (aA e h)];exact⟨s b u e,Z⟩
variable {ρ':bR}
theorem Fr.out{n:Nat}(f:Fr n ρ H ρ' H'):aJ (out ρ H) (out ρ' H'):=λb o h=>by obtain⟨h1,c⟩:=bF h;obtain⟨h2,e⟩:=f b o h1 (λt x=>by rw[c];intro z;cases z);exact cD h2 (e.trans c)
def vg(s:aJ H H'):aJ (out ρ H) (out ρ H'):=λb o h=>by obtain⟨h1,c⟩:=bF h;exact cD (s b o h1) c
structure Pt where
 nm:Str
 ow:Str
 wo:Int
 we:Int
 sc:Int
 row:Da Int
structure mC where
 nm:Str
 ow:Str
 wo:Int
 sh:Da (Str×Rat)
structure HS where
 own:Da Str
 ai:Da Pt
 dO:Da mC
 nms:Da Str
 stp:Da Int
 prod:Int
 kn:Nat
 bq:Da Int
 bU:Da Int
structure HA where
 a:Addr
 dx:Addr
 pl:Addr
 ab:Addr
 as:Addr
 nm:Addr
 bt:Addr
 db:Addr
 cm:Addr
 pu:Addr
 sp:Addr
 kn:Addr
 qs:Da (Addr×Addr×Addr)
structure TC where
 hold:Addr
 part:Addr
 bot:Addr
noncomputable def fU:Nat->Da Str->Da (Key×V)
 | _,[]=>[]
 | i,o::r=>(Sum.inr o,.int i)::fU (i+1) r
noncomputable def bY(ps:Da Pt)(qs:Da (Addr×Addr×Addr)):Da (Key×V):=List.zipWith (λp q=>((Sum.inr p.nm:Key),V.ref q.1)) ps qs
noncomputable def yg(l:Da Str):Da (Key×V):=l.map λx=>(Sum.inr x,.bl true)
noncomputable def dW(A:HA):Da (Str×V):=[("places",.ref A.pl),("aboard",.ref A.ab),("ashore",.ref A.as),("names",.ref A.nm),("bottom",.ref A.bt),("common",.ref A.cm),("purses",.ref A.pu)]
noncomputable def cT(p:Pt)(r:Addr):Da (Str×V):=[("name",.str p.nm),("owner",.str p.ow),("worth",.int p.wo),("weight",.int p.we),("scale",.int p.sc),("row",.ref r)]
noncomputable def jU(sp:Addr)(prod:Int)(kn:Addr):Da (Str×V):=[("steps",.ref sp),("product",.int prod),("known",.ref kn)]
def Lk(H:Hp)(AT:Da (Key×V))(prod:Int):Prop:=∀p∈AT,∃(t:Int)(r:Addr),p=(Sum.inl t,V.ref r)/\H r=some (tQ (Jm.fr t prod))
inductive jn(H:Hp):Da V->Da (Str×Rat)->Prop
 | nil:jn H [] []
 | cons {r f:Addr} {x:Str} {q:Rat} {vs:Da V} {l:Da (Str×Rat)}:H r=some (.tup [.str x,.ref f])->H f=some (tQ q)->jn H vs l->jn H (.ref r::vs) ((x,q)::l)
inductive jZ(n:Nat)(ρ:bR)(H:Hp):Da V->Da mC->Prop
 | nil:jZ n ρ H [] []
 | cons {r l:Addr} {x:mC} {ss:Da V} {vs:Da V} {as:Da mC}:H r=some (.tup [.str x.nm,.str x.ow,.int x.wo,.ref l])->H l=some (.lst ss)->ρ l=some (n,30,⟨#[]⟩)->jn H ss x.sh->jZ n ρ H vs as->jZ n ρ H (.ref r::vs) (x::as)
structure aI(T:TC)(n:Nat)(ρ:bR)(A:HA)(H:Hp)(st:HS):Prop where
 oa:H A.a=some (.ins T.hold A.dx (dW A))
 ca:ρ A.a=col n 0
 gX:H A.pl=some (.dK (fU 0 st.own))
 gv:ρ A.pl=col n 1
 dB:H A.ab=some (.dK (bY st.ai A.qs))
 ff:ρ A.ab=col n 2
 m9:∃vs,H A.as=some (.lst vs)/\jZ n ρ H vs st.dO
 gG:ρ A.as=col n 3
 m_:H A.nm=some (.dK (yg st.nms))
 gH:ρ A.nm=col n 4
 jd:H A.bt=some (.ins T.bot A.db (jU A.sp st.prod A.kn))
 gI:ρ A.bt=col n 5
 iC:H A.cm=some (.lst (st.bq.map V.int))
 gJ:ρ A.cm=col n 6
 jC:H A.pu=some (.lst (st.bU.map V.int))
 cpu:ρ A.pu=col n 7
 lT:H A.sp=some (.lst (st.stp.map V.int))
 gK:ρ A.sp=col n 8
 okn:∃AT,H A.kn=some (.dK AT)/\Lk H AT st.prod/\AT.length<=st.kn/\(AT.map (·.1)).Nodup
 gM:ρ A.kn=col n 9
 ql:A.qs.length=st.ai.length
 opt:∀(i:Nat)(p:Pt)(q:Addr×Addr×Addr),st.ai[i]?=some p->A.qs[i]?=some q->H q.1=some (.ins T.part q.2.1 (cT p q.2.2))/\H q.2.2=some (.lst (p.row.map V.int))/\ρ q.1=some (n,20,p.nm)/\ρ q.2.2=some (n,21,p.nm)
def Ed{c d:lS}(ha:ρ a=some c)(hb:ρ b=some d)(h:c≠d):a≠b:=λe=>by rw[e,hb]at ha;cases ha;exact h rfl
def Ck{c:lS}(ha:ρ a=none)(hb:ρ b=some c):a≠b:=λe=>by rw[e,hb]at ha;cases ha
def jn.mono{l:Da (Str×Rat)}(h:jn H vs l)(g:∀b xs,H b=some (.tup xs)->H' b=some (.tup xs)):jn H' vs l:=by
 induction h with
 | nil=>exact .nil
 | cons a b _ ih=>exact .cons (g _ _ a) (g _ _ b) ih
def Kp(n:Nat)(ρ ρ':bR)(H H':Hp)(ts:Nat->Bool):Prop:=(∀b xs,H b=some (.tup xs)->H' b=some (.tup xs))/\∀b t x o,ts t=true->ρ b=some (n,t,x)->H b=some o->H' b=some o/\ρ' b=some (n,t,x)
variable {l:Da mC}{ts:Nat->Bool}
def jZ.keep{n:Nat}(h:jZ n ρ H vs l)(k:Kp n ρ ρ' H H' ts)(e:ts 30=true):jZ n ρ' H' vs l:=by
 induction h with
 | nil=>exact .nil
 | cons a b c d _ ih=>exact .cons (k.1 _ _ a) (k.2 _ _ _ _ e c b).1 (k.2 _ _ _ _ e c b).2 (d.mono k.1) ih
def dG{n:Nat}(g:Gh ρ H)(c:ρ a=some (n,t,x)):Kp n ρ ρ H (upd H a o) (λu=>decide (u≠t)):=by
 refine⟨λb xs h=>?_,λb u y w hu hc h=>⟨?_,hc⟩⟩
 .rw [au (Ck (g.tup h) c)];exact h
 .rw [au (Ed hc c (λe=>by cases e;exact absurd hu (by simp)))];exact h
def kz{n:Nat}(k:Kp n ρ ρ' H H' ts)(c:ρ b=some (n,t,x))(e:H b=some o)(u:ts t=true:=by decide):H' b=some o:=(k.2 b t x o u c e).1
def P_{n:Nat}(s:aJ H H'):Kp n ρ ρ H H' ts:=⟨λb xs h=>s _ _ h,λb u y w _ hc h=>⟨s _ _ h,hc⟩⟩
variable {T:TC}{A:HA}{st:HS}
def aI.same{n:Nat}(h:aI T n ρ A H st)(k:Kp n ρ ρ' H H' λ_=>true):aI T n ρ' A H' st:=by
 have z:=λ{b:Addr}{t:Nat}{x:Str}{o:HO}(c:ρ b=some (n,t,x))(e:H b=some o)=>k.2 b t x o rfl c e;obtain⟨vs,h1,h2⟩:=h.m9;obtain⟨AT,k1,k2,k3⟩:=h.okn;exact⟨(z h.ca h.oa).1,(z h.ca h.oa).2,(z h.gv h.gX).1,(z h.gv h.gX).2,(z h.ff h.dB).1,(z h.ff h.dB).2,⟨vs,(z h.gG h1).1,h2.keep k rfl⟩,(z h.gG h1).2,(z h.gH h.m_).1,(z h.gH h.m_).2,(z h.gI h.jd).1,(z h.gI h.jd).2,
  (z h.gJ h.iC).1,(z h.gJ h.iC).2,(z h.cpu h.jC).1,(z h.cpu h.jC).2,(z h.gK h.lT).1,(z h.gK h.lT).2,⟨AT,(z h.gM k1).1,λp hp=>let⟨t,r,e,q⟩:=k2 p hp;⟨t,r,e,k.1 _ _ q⟩,k3⟩,(z h.gM k1).2,h.ql,
  λi p q e1 e2=>let⟨a,b,c,d⟩:=h.opt i p q e1 e2;⟨(z c a).1,(z d b).1,(z c a).2,(z d b).2⟩⟩
def aI.mono{n:Nat}(h:aI T n ρ A H st)(s:aJ H H'):aI T n ρ A H' st:=h.same (P_ s)
def aI.other{n:Nat}(h:aI T m ρ A H st)(f:Fr n ρ H ρ' H')(g:Gh ρ H)(e:m≠n):aI T m ρ' A H' st:=h.same ⟨λb xs q=>(f b _ q λt x=>by rw[g.tup q];intro z;cases z).1,λb t x o _ c q=>by
 obtain⟨a,b'⟩:=f b o q λt' x'=>by rw[c];intro z;cases z;exact e rfl
 exact⟨a,b'.trans c⟩⟩
variable {as:Da mC}{ss:Da V}
def jZ.snoc{n:Nat}{l:Addr}{x:mC}(h:jZ n ρ H vs as)(e1:H r=some (.tup [.str x.nm,.str x.ow,.int x.wo,.ref l]))(e2:H l=some (.lst ss))(e3:ρ l=some (n,30,⟨#[]⟩))(e4:jn H ss x.sh):jZ n ρ H (vs++[.ref r]) (as++[x]):=by
 induction h with
 | nil=>exact .cons e1 e2 e3 e4 .nil
 | cons a b c d _ ih=>exact .cons a b c d ih
theorem BJ{p0 p1:Pt}:∀{ps:Da Pt}{qs:Da (Addr×Addr×Addr)}{i:Nat},ps[i]?=some p0->p1.nm=p0.nm->bY (ps.set i p1) qs=bY ps qs
 | [],_,_,h,_=>by simp at h
 | _::_,[],_,_,_=>by simp[bY]
 | p::ps,q::qs,0,h,e=>by
  have:p=p0:=by simpa using h
  simp[bY,e,this]
 | p::ps,q::qs,i+1,h,e=>by have:=BJ (qs:=qs) (by simpa using h:ps[i]?=some p0) e;simp only[bY,KJ,Fj]at this ⊢;rw[this]
variable {j:Nat}{p:Pt}
def Ef{ps:Da Pt}(nd:(ps.map (·.nm)).Nodup){q:Pt}(h1:ps[i]?=some p)(h2:ps[j]?=some q)(e:p.nm=q.nm):i=j:=by
 have a:(ps.map (·.nm))[i]?=some p.nm:=by rw[cu,h1];rfl
 have b:(ps.map (·.nm))[j]?=some p.nm:=by rw[cu,h2,e];rfl
 exact Cz nd a b
variable {p0 p1:Pt}{q0:Addr×Addr×Addr}
def ZG{n:Nat}(h:aI T n ρ A H st)(k:Kp n ρ ρ H H' ts)(nd:(st.ai.map (·.nm)).Nodup)(ep:st.ai[i]?=some p0)(eq:A.qs[i]?=some q0)(e1:p1.nm=p0.nm)(hw:H' q0.1=some (.ins T.part q0.2.1 (cT p1 q0.2.2)))(hs:∀{b:Addr} {t:Nat} {x:Str} {o:HO},ρ b=some (n,t,x)->t≠20\/x≠p0.nm->H b=some o->H' b=some o)(er:(.lst (p0.row.map V.int):HO) =.lst (p1.row.map V.int)):
  ∀(j:Nat)(p:Pt)(q:Addr×Addr×Addr),(st.ai.set i p1)[j]?=some p->A.qs[j]?=some q->H' q.1=some (.ins T.part q.2.1 (cT p q.2.2))/\H' q.2.2=some (.lst (p.row.map V.int))/\ρ q.1=some (n,20,p.nm)/\ρ q.2.2=some (n,21,p.nm):=by
 intro j p q ej eq'
 by_cases hj:i=j
 . subst hj
   rw[eq]at eq';cases eq'
   rw[qJ (dX.mp ep).1]at ej
   cases ej
   obtain⟨a,b,c,d⟩:=h.opt i p0 q0 ep eq
   exact⟨hw,by rw[<-er];exact hs d (.inl (by decide)) b,by rw[e1];exact c,by rw[e1];exact d⟩
 . rw[Ab hj]at ej
   obtain⟨a,b,c,d⟩:=h.opt j p q ej eq'
   exact⟨hs c (.inr λe=>hj (Ef nd ep ej e.symm)) a,hs d (.inl (by decide)) b,c,d⟩
def WE{n:Nat}(h:aI T n ρ A H st)(nd:(st.ai.map (·.nm)).Nodup){l:Da Int}(ep:st.ai[i]?=some p0)(eq:A.qs[i]?=some q0)(hw:H' q0.2.2=some (.lst (l.map V.int)))(hs:∀{b:Addr} {t:Nat} {x:Str} {o:HO},ρ b=some (n,t,x)->t≠21\/x≠p0.nm->H b=some o->H' b=some o):
  ∀(j:Nat)(p:Pt)(q:Addr×Addr×Addr),(st.ai.set i { p0 with row:=l })[j]?=some p->A.qs[j]?=some q->H' q.1=some (.ins T.part q.2.1 (cT p q.2.2))/\H' q.2.2=some (.lst (p.row.map V.int))/\ρ q.1=some (n,20,p.nm)/\ρ q.2.2=some (n,21,p.nm):=by
 intro j p q ej eq'
 by_cases hj:i=j
 . subst hj
   rw[eq]at eq';cases eq'
   rw[qJ (dX.mp ep).1]at ej
   cases ej
   obtain⟨a,b,c,d⟩:=h.opt i p0 q0 ep eq
   exact⟨hs c (.inl (by decide)) a,hw,c,d⟩
 . rw[Ab hj]at ej
   obtain⟨a,b,c,d⟩:=h.opt j p q ej eq'
   exact⟨hs c (.inl (by decide)) a,hs d (.inr λe=>hj (Ef nd ep ej e.symm)) b,c,d⟩
def AA{n:Nat}(c:ρ a=some (n,t,x)):∀{b:Addr}{u:Nat}{y:Str}{w:HO},ρ b=some (n,u,y)->u≠t\/y≠x->H b=some w->upd H a o b=some w:=λ{b u y w} hc hu h=>by rw[au (Ed hc c (λe=>by cases e;rcases hu with z|z <;> exact z rfl))];exact h
def aI.abB{n:Nat}(h:aI T n ρ A H st)(g:Gh ρ H)(l:Da Str):aI T n ρ A (upd H A.pl (.dK (fU 0 l))) { st with own:=l }:=by have k:=dG (o:=.dK (fU 0 l)) g h.gv;obtain⟨vs,h1,h2⟩:=h.m9;obtain⟨AT,k1,k2,k3⟩:=h.okn;exact⟨kz k h.ca h.oa,h.ca,ah,h.gv,kz k h.ff h.dB,h.ff,⟨vs,kz k h.gG h1,h2.keep k (by decide)⟩,h.gG,kz k h.gH h.m_,h.gH,kz k h.gI h.jd,h.gI,kz k h.gJ h.iC,h.gJ,kz k h.cpu h.jC,h.cpu,kz k h.gK h.lT,h.gK,⟨AT,kz k h.gM k1,λp hp=>let⟨t,r,e,q⟩:=k2 p hp;⟨t,r,e,k.1 _ _ q⟩,k3⟩,h.gM,h.ql,λi p q e1 e2=>let⟨a,b,c,d⟩:=h.opt i p q e1 e2;⟨kz k c a,kz k d b,c,d⟩⟩
def aI.Ll{n:Nat}(h:aI T n ρ A H st)(g:Gh ρ H)(ps:Da Pt)(qs:Da (Addr×Addr×Addr))(el:qs.length=ps.length)(hp:∀(i:Nat) (p:Pt) (q:Addr×Addr×Addr),ps[i]?=some p->qs[i]?=some q->H q.1=some (.ins T.part q.2.1 (cT p q.2.2))/\H q.2.2=some (.lst (p.row.map V.int))/\ρ q.1=some (n,20,p.nm)/\ρ q.2.2=some (n,21,p.nm)):aI T n ρ { A with qs:=qs } (upd H A.ab (.dK (bY ps qs))) { st with ai:=ps }:=by have k:=dG (o:=.dK (bY ps qs)) g h.ff;obtain⟨vs,h1,h2⟩:=h.m9;obtain⟨AT,k1,k2,k3⟩:=h.okn;exact⟨kz k h.ca h.oa,h.ca,kz k h.gv h.gX,h.gv,ah,h.ff,⟨vs,kz k h.gG h1,h2.keep k (by decide)⟩,h.gG,kz k h.gH h.m_,h.gH,kz k h.gI h.jd,h.gI,kz k h.gJ h.iC,h.gJ,kz k h.cpu h.jC,h.cpu,kz k h.gK h.lT,h.gK,⟨AT,kz k h.gM k1,λp hp=>let⟨t,r,e,q⟩:=k2 p hp;⟨t,r,e,k.1 _ _ q⟩,k3⟩,h.gM,el,λi p q e1 e2=>let⟨a,b,c,d⟩:=hp i p q e1 e2;⟨kz k c a,kz k d b,c,d⟩⟩
def aI.abC{n:Nat}(h:aI T n ρ A H st)(g:Gh ρ H){l:Addr}{x:mC}{Uj:Da V}(hv:H A.as=some (.lst Uj))(e1:H r=some (.tup [.str x.nm,.str x.ow,.int x.wo,.ref l]))(e2:H l=some (.lst ss))(e3:ρ l=some (n,30,⟨#[]⟩))(e4:jn H ss x.sh):aI T n ρ A (upd H A.as (.lst (Uj++[.ref r]))) { st with dO:=st.dO++[x] }:=by have k:=dG (o:=.lst (Uj++[.ref r])) g h.gG;obtain⟨vs,h1,h2⟩:=h.m9;obtain⟨AT,k1,k2,k3⟩:=h.okn;exact⟨kz k h.ca h.oa,h.ca,kz k h.gv h.gX,h.gv,kz k h.ff h.dB,h.ff,⟨_,ah,by rw[hv]at h1;cases h1;exact(h2.keep k (by decide)).snoc (k.1 _ _ e1) (kz k e3 e2) e3 (e4.mono k.1)⟩,h.gG,kz k h.gH h.m_,h.gH,kz k h.gI h.jd,h.gI,kz k h.gJ h.iC,h.gJ,kz k h.cpu h.jC,h.cpu,kz k h.gK h.lT,h.gK,⟨AT,kz k h.gM k1,λp hp=>let⟨t,r,e,q⟩:=k2 p hp;⟨t,r,e,k.1 _ _ q⟩,k3⟩,h.gM,h.ql,λi p q e1 e2=>let⟨a,b,c,d⟩:=h.opt i p q e1 e2;⟨kz k c a,kz k d b,c,d⟩⟩
def aI.abD{n:Nat}(h:aI T n ρ A H st)(g:Gh ρ H)(l:Da Str):aI T n ρ A (upd H A.nm (.dK (yg l))) { st with nms:=l }:=by have k:=dG (o:=.dK (yg l)) g h.gH;obtain⟨vs,h1,h2⟩:=h.m9;obtain⟨AT,k1,k2,k3⟩:=h.okn;exact⟨kz k h.ca h.oa,h.ca,kz k h.gv h.gX,h.gv,kz k h.ff h.dB,h.ff,⟨vs,kz k h.gG h1,h2.keep k (by decide)⟩,h.gG,ah,h.gH,kz k h.gI h.jd,h.gI,kz k h.gJ h.iC,h.gJ,kz k h.cpu h.jC,h.cpu,kz k h.gK h.lT,h.gK,⟨AT,kz k h.gM k1,λp hp=>let⟨t,r,e,q⟩:=k2 p hp;⟨t,r,e,k.1 _ _ q⟩,k3⟩,h.gM,h.ql,λi p q e1 e2=>let⟨a,b,c,d⟩:=h.opt i p q e1 e2;⟨kz k c a,kz k d b,c,d⟩⟩
def aI.abE{n:Nat}(h:aI T n ρ A H st)(g:Gh ρ H)(l:Da Int):aI T n ρ A (upd H A.cm (.lst (l.map V.int))) { st with bq:=l }:=by have k:=dG (o:=.lst (l.map V.int)) g h.gJ;obtain⟨vs,h1,h2⟩:=h.m9;obtain⟨AT,k1,k2,k3⟩:=h.okn;exact⟨kz k h.ca h.oa,h.ca,kz k h.gv h.gX,h.gv,kz k h.ff h.dB,h.ff,⟨vs,kz k h.gG h1,h2.keep k (by decide)⟩,h.gG,kz k h.gH h.m_,h.gH,kz k h.gI h.jd,h.gI,ah,h.gJ,kz k h.cpu h.jC,h.cpu,kz k h.gK h.lT,h.gK,⟨AT,kz k h.gM k1,λp hp=>let⟨t,r,e,q⟩:=k2 p hp;⟨t,r,e,k.1 _ _ q⟩,k3⟩,h.gM,h.ql,λi p q e1 e2=>let⟨a,b,c,d⟩:=h.opt i p q e1 e2;⟨kz k c a,kz k d b,c,d⟩⟩
def aI.abF{n:Nat}(h:aI T n ρ A H st)(g:Gh ρ H)(l:Da Int):aI T n ρ A (upd H A.pu (.lst (l.map V.int))) { st with bU:=l }:=by have k:=dG (o:=.lst (l.map V.int)) g h.cpu;obtain⟨vs,h1,h2⟩:=h.m9;obtain⟨AT,k1,k2,k3⟩:=h.okn;exact⟨kz k h.ca h.oa,h.ca,kz k h.gv h.gX,h.gv,kz k h.ff h.dB,h.ff,⟨vs,kz k h.gG h1,h2.keep k (by decide)⟩,h.gG,kz k h.gH h.m_,h.gH,kz k h.gI h.jd,h.gI,kz k h.gJ h.iC,h.gJ,ah,h.cpu,kz k h.gK h.lT,h.gK,⟨AT,kz k h.gM k1,λp hp=>let⟨t,r,e,q⟩:=k2 p hp;⟨t,r,e,k.1 _ _ q⟩,k3⟩,h.gM,h.ql,λi p q e1 e2=>let⟨a,b,c,d⟩:=h.opt i p q e1 e2;⟨kz k c a,kz k d b,c,d⟩⟩
def aI.abG{n:Nat}(h:aI T n ρ A H st)(g:Gh ρ H)(l:Da Int):aI T n ρ A (upd H A.sp (.lst (l.map V.int))) { st with stp:=l }:=by have k:=dG (o:=.lst (l.map V.int)) g h.gK;obtain⟨vs,h1,h2⟩:=h.m9;obtain⟨AT,k1,k2,k3⟩:=h.okn;exact⟨kz k h.ca h.oa,h.ca,kz k h.gv h.gX,h.gv,kz k h.ff h.dB,h.ff,⟨vs,kz k h.gG h1,h2.keep k (by decide)⟩,h.gG,kz k h.gH h.m_,h.gH,kz k h.gI h.jd,h.gI,kz k h.gJ h.iC,h.gJ,kz k h.cpu h.jC,h.cpu,ah,h.gK,⟨AT,kz k h.gM k1,λp hp=>let⟨t,r,e,q⟩:=k2 p hp;⟨t,r,e,k.1 _ _ q⟩,k3⟩,h.gM,h.ql,λi p q e1 e2=>let⟨a,b,c,d⟩:=h.opt i p q e1 e2;⟨kz k c a,kz k d b,c,d⟩⟩
def aI.Uk{n:Nat}(h:aI T n ρ A H st)(g:Gh ρ H)(q:Addr)(l:Da Int)(e:H q=some (.lst (l.map V.int)))(c:ρ q=col n 6):aI T n ρ { A with cm:=q } (upd H A.a (.ins T.hold A.dx (dW { A with cm:=q }))) { st with bq:=l }:=by have k:=dG (o:=.ins T.hold A.dx (dW { A with cm:=q })) g h.ca;obtain⟨vs,h1,h2⟩:=h.m9;obtain⟨AT,k1,k2,k3⟩:=h.okn;exact⟨ah,h.ca,kz k h.gv h.gX,h.gv,kz k h.ff h.dB,h.ff,⟨vs,kz k h.gG h1,h2.keep k (by decide)⟩,h.gG,kz k h.gH h.m_,h.gH,kz k h.gI h.jd,h.gI,kz k c e,c,kz k h.cpu h.jC,h.cpu,kz k h.gK h.lT,h.gK,⟨AT,kz k h.gM k1,λp hp=>let⟨t,r,e,q⟩:=k2 p hp;⟨t,r,e,k.1 _ _ q⟩,k3⟩,h.gM,h.ql,λi p q e1 e2=>let⟨a,b,c,d⟩:=h.opt i p q e1 e2;⟨kz k c a,kz k d b,c,d⟩⟩
def aI.Lm{n:Nat}(h:aI T n ρ A H st)(g:Gh ρ H)(q:Addr)(l:Da Int)(e:H q=some (.lst (l.map V.int)))(c:ρ q=col n 7):aI T n ρ { A with pu:=q } (upd H A.a (.ins T.hold A.dx (dW { A with pu:=q }))) { st with bU:=l }:=by have k:=dG (o:=.ins T.hold A.dx (dW { A with pu:=q })) g h.ca;obtain⟨vs,h1,h2⟩:=h.m9;obtain⟨AT,k1,k2,k3⟩:=h.okn;exact⟨ah,h.ca,kz k h.gv h.gX,h.gv,kz k h.ff h.dB,h.ff,⟨vs,kz k h.gG h1,h2.keep k (by decide)⟩,h.gG,kz k h.gH h.m_,h.gH,kz k h.gI h.jd,h.gI,kz k h.gJ h.iC,h.gJ,kz k c e,c,kz k h.gK h.lT,h.gK,⟨AT,kz k h.gM k1,λp hp=>let⟨t,r,e,q⟩:=k2 p hp;⟨t,r,e,k.1 _ _ q⟩,k3⟩,h.gM,h.ql,λi p q e1 e2=>let⟨a,b,c,d⟩:=h.opt i p q e1 e2;⟨kz k c a,kz k d b,c,d⟩⟩
def aI.abH{n:Nat}(h:aI T n ρ A H st)(g:Gh ρ H)(m:Int)(q:Addr)(e:H q=some (.dK []))(c:ρ q=col n 9):aI T n ρ { A with kn:=q } (upd H A.bt (.ins T.bot A.db (jU A.sp m q))) { st with prod:=m,kn:=0 }:=by have k:=dG (o:=.ins T.bot A.db (jU A.sp m q)) g h.gI;obtain⟨vs,h1,h2⟩:=h.m9;obtain⟨AT,k1,k2,k3⟩:=h.okn;exact⟨kz k h.ca h.oa,h.ca,kz k h.gv h.gX,h.gv,kz k h.ff h.dB,h.ff,⟨vs,kz k h.gG h1,h2.keep k (by decide)⟩,h.gG,kz k h.gH h.m_,h.gH,ah,h.gI,kz k h.gJ h.iC,h.gJ,kz k h.cpu h.jC,h.cpu,kz k h.gK h.lT,h.gK,⟨[],kz k c e,(λp hp=>absurd hp (by simp)),aK _,rM⟩,c,h.ql,λi p q e1 e2=>let⟨a,b,c,d⟩:=h.opt i p q e1 e2;⟨kz k c a,kz k d b,c,d⟩⟩
def aI.jq{n:Nat}(h:aI T n ρ A H st)(g:Gh ρ H)(ep:st.ai[i]?=some p0)(eq:A.qs[i]?=some q0)(e1:p1.nm=p0.nm)(e2:p1.row=p0.row)(nd:(st.ai.map (·.nm)).Nodup):aI T n ρ A (upd H q0.1 (.ins T.part q0.2.1 (cT p1 q0.2.2))) { st with ai:=st.ai.set i p1 }:=by have k:=dG (o:=.ins T.part q0.2.1 (cT p1 q0.2.2)) g (h.opt i p0 q0 ep eq).2.2.1;obtain⟨vs,h1,h2⟩:=h.m9;obtain⟨AT,k1,k2,k3⟩:=h.okn;exact⟨kz k h.ca h.oa,h.ca,kz k h.gv h.gX,h.gv,by rw[BJ ep e1];exact kz k h.ff h.dB,h.ff,⟨vs,kz k h.gG h1,h2.keep k (by decide)⟩,h.gG,kz k h.gH h.m_,h.gH,kz k h.gI h.jd,h.gI,kz k h.gJ h.iC,h.gJ,kz k h.cpu h.jC,h.cpu,kz k h.gK h.lT,h.gK,⟨AT,kz k h.gM k1,λp hp=>let⟨t,r,e,q⟩:=k2 p hp;⟨t,r,e,k.1 _ _ q⟩,k3⟩,h.gM,by rw[gq];exact h.ql,ZG h k nd ep eq e1 ah (AA (h.opt i p0 q0 ep eq).2.2.1) (by rw[e2])⟩
def aI.ZH{n:Nat}(h:aI T n ρ A H st)(g:Gh ρ H)(l:Da Int)(ep:st.ai[i]?=some p0)(eq:A.qs[i]?=some q0)(nd:(st.ai.map (·.nm)).Nodup):aI T n ρ A (upd H q0.2.2 (.lst (l.map V.int))) { st with ai:=st.ai.set i { p0 with row:=l } }:=by have k:=dG (o:=.lst (l.map V.int)) g (h.opt i p0 q0 ep eq).2.2.2;obtain⟨vs,h1,h2⟩:=h.m9;obtain⟨AT,k1,k2,k3⟩:=h.okn;exact⟨kz k h.ca h.oa,h.ca,kz k h.gv h.gX,h.gv,by show _=some (HO.dK (bY (st.ai.set i { p0 with row:=l }) A.qs));rw[BJ (p1:={ p0 with row:=l }) ep rfl];exact kz k h.ff h.dB,h.ff,⟨vs,kz k h.gG h1,h2.keep k (by decide)⟩,h.gG,kz k h.gH h.m_,h.gH,kz k h.gI h.jd,h.gI,kz k h.gJ h.iC,h.gJ,kz k h.cpu h.jC,h.cpu,kz k h.gK h.lT,h.gK,⟨AT,kz k h.gM k1,λp hp=>let⟨t,r,e,q⟩:=k2 p hp;⟨t,r,e,k.1 _ _ q⟩,k3⟩,h.gM,by rw[gq];exact h.ql,WE h nd ep eq ah (AA (h.opt i p0 q0 ep eq).2.2.2)⟩
structure Txt(K:Fg)(T:TC):Prop where
 cH:pR K T.hold
 cP:pR K T.part
 cB:pR K T.bot
 hpl:fB K T.hold "places"
 hab:fB K T.hold "aboard"
 has:fB K T.hold "ashore"
 hnm:fB K T.hold "names"
 wV:fB K T.hold "bottom"
 zY:fB K T.hold "common"
 zZ:fB K T.hold "purses"
 Qa:fB K T.part "name"
 pow:fB K T.part "owner"
 vh:fB K T.part "worth"
 Qc:fB K T.part "weight"
 HW:fB K T.part "scale"
 Ln:fB K T.part "row"
 Ul:fB K T.bot "steps"
 HX:fB K T.bot "product"
 Um:fB K T.bot "known"
structure Wf(st:HS):Prop where
 jV:st.own.Nodup
 yT:st.nms.Nodup
 dN:(st.ai.map (·.nm)).Nodup
 sub:∀p∈st.ai,p.nm∈st.nms
 rows:∀p∈st.ai,p.row.length=st.own.length
 ow:∀p∈st.ai,p.ow∈st.own
 eZ:st.bq.length=st.own.length
 mD:st.bU.length=st.own.length
 gu:1<=st.prod
 pZ:st.prod=st.stp.foldl (·*·) 1
 vj:∀s∈st.stp,2<=s
 j9:st.own.length<=100
 yU:st.nms.length<=1000
 kM:st.ai.length<=1000
 AB:st.stp.length<=100
 vm:st.dO.length<=1000
 HY:st.kn<=1000000
 big:Jm.Sz 8000 st.prod
 oq:∀c∈st.bq,0<=c/\c<=st.prod
 sW:∀p∈st.ai,1<=p.sc/\p.sc<=st.prod
 oz:∀p∈st.ai,∀r∈p.row,-st.prod<=r/\r<=st.prod
 p5:∀p∈st.ai,∀t∈List.zipWith (λr c=>p.sc*r+c) p.row st.bq,0<=t/\t<=st.prod
 kG:∀p∈st.ai,1<=p.wo/\0<=p.we
 FJ:∀u∈st.bU,Jm.Sz 9000 u
structure HH(T:TC)(n:Nat)(ρ:bR)(A:HA)(H:Hp)(st:HS):Prop where
 g:Gh ρ H
 h:aI T n ρ A H st
 wf:Wf st
def wW(T:TC)(n:Nat)(ρ:bR)(A:HA)(H:Hp)(st:HS)(Q:Hp->Prop):Prop:=∀ρ' A' H',HH T n ρ' A' H' st->A'.a=A.a->Fr n ρ H ρ' H'->Q H'
noncomputable def hs0:HS:=⟨[],[],[],[],[],1,0,[],[]⟩
def wf0:Wf hs0:=by refine⟨rM,rM,rM,?_,?_,?_,Z,Z,?_,Z,?_,?_,?_,?_,?_,?_,?_,?_,?_,?_,?_,?_,?_,?_⟩ <;> first|(intro _ h;exact absurd h (by simp[hs0]))|decide|(show Jm.Sz 8000 1;exact sS (by decide +kernel))
theorem Qd:∀{l:Da Str}{i:Nat}{o:Str},o∈l->dY (fU i l) (Sum.inr o)=some (.int ((i+l.idxOf o:Nat):Int))
 | [],_,_,h=>by simp at h
 | x::l,i,o,h=>by
  by_cases e:x=o
  .subst e;rw[show fU i (x::l)=(Sum.inr x,.int i)::fU (i+1) l from rfl,gE rfl];simp
  .rw [show fU i (x::l)=(Sum.inr x,.int i)::fU (i+1) l from rfl,eY (by intro z;exact e (rP z))];have hm:o∈l:=by
    rcases b_.mp h with z|z
    .exact absurd z.symm e
    .exact z
   rw[Qd hm];have eb:(x==o)=false:=by simpa using e
   have:(x::l).idxOf o=l.idxOf o+1:=by rw[List.idxOf_cons,eb];rfl
   rw[this];show some (V.int ((i+1+l.idxOf o:Nat):Int))=some (V.int ((i+(l.idxOf o+1):Nat):Int));rw[show i+1+l.idxOf o=i+(l.idxOf o+1)from by omega]
theorem p6:∀{l:Da Str}{i:Nat}{o:Str},o∉l->dY (fU i l) (Sum.inr o)=none
 | [],_,_,_=>rfl
 | x::l,i,o,h=>by rw[show fU i (x::l)=(Sum.inr x,.int i)::fU (i+1) l from rfl,eY (λz=>h (by rw[<-rP z];exact dg))];exact p6 λm=>h (cM _ m)
theorem p7:∀(l:Da Str)(i:Nat),(fU i l).length=l.length
 | [],_=>rfl
 | _::l,i=>by rw[show ∀x,fU i (x::l)=(Sum.inr x,.int i)::fU (i+1) l from λ_=>rfl,jz,jz,p7 l]
theorem Lo:∀(l:Da Str)(i:Nat)(o:Str),fU i (l++[o])=fU i l++[(Sum.inr o,.int ((i+l.length:Nat):Int))]
 | [],i,o=>rfl
 | x::l,i,o=>by
  show(Sum.inr x,V.int i)::fU (i+1) (l++[o])=_;rw[Lo l (i+1) o];show _=(Sum.inr x,V.int i)::(fU (i+1) l++_)
  rw[jz,show i+1+l.length=i+(l.length+1)from by omega]
theorem CL:∀(l:Da Str)(i:Nat),(fU i l).map (λp=>kV p.1)=l.map V.str
 | [],_=>rfl
 | x::l,i=>by show kV (Sum.inr x)::(fU (i+1) l).map _=V.str x::l.map V.str;rw[CL l];rfl
variable {qs:Da (Addr×Addr×Addr)}
def uM{ps:Da Pt}{q:Addr×Addr×Addr}(h1:ps[i]?=some p)(h2:qs[i]?=some q):(bY ps qs)[i]?=some (Sum.inr p.nm,.ref q.1):=by unfold bY;rw[Rl,h1,h2]
def uN{ps:Da Pt}(h:qs.length=ps.length):(bY ps qs).length=ps.length:=by unfold bY;rw[jE,h,nQ]
theorem uO:∀{ps:Da Pt}{qs:Da (Addr×Addr×Addr)}{i:Nat}{p:Pt}{q:Addr×Addr×Addr},(ps.map (·.nm)).Nodup->ps[i]?=some p->qs[i]?=some q->dY (bY ps qs) (Sum.inr p.nm)=some (.ref q.1)
 | [],_,_,_,_,_,h,_=>by simp at h
 | _::_,[],_,_,_,_,_,h=>by simp at h
 | a::ps,b::qs,0,p,q,_,h1,h2=>by
  have e1:a=p:=by simpa using h1
  have e2:b=q:=by simpa using h2
  subst e1 e2;exact gE rfl
 | a::ps,b::qs,i+1,p,q,nd,h1,h2=>by
  have nd':=gZ.mp (show(a.nm::ps.map (·.nm)).Nodup from nd);have Eg:ps[i]?=some p:=by simpa using h1
  rw[show bY (a::ps) (b::qs)=(Sum.inr a.nm,.ref b.1)::bY ps qs from rfl,eY (λz=>nd'.1 (b7.mpr ⟨p,bQ Eg,(rP z).symm⟩))];exact uO nd'.2 Eg (by simpa using h2)
theorem p8:∀{ps:Da Pt}{qs:Da (Addr×Addr×Addr)}{x:Str},(∀p∈ps,p.nm≠x)->dY (bY ps qs) (Sum.inr x)=none
 | [],_,_,_=>rfl
 | _::_,[],_,_=>rfl
 | a::ps,b::qs,x,h=>by rw[show bY (a::ps) (b::qs)=(Sum.inr a.nm,.ref b.1)::bY ps qs from rfl,eY (λz=>h a dg (rP z))];exact p8 λp hp=>h p (cM _ hp)
def Lp{ps:Da Pt}(h:qs.length=ps.length)(p:Pt)(q:Addr×Addr×Addr):bY (ps++[p]) (qs++[q])=bY ps qs++[(Sum.inr p.nm,.ref q.1)] :=by unfold bY;rw[Ac h.symm];rfl
def AD{l:Da Str}(h:x∉l):dY (yg l) (Sum.inr x)=none:=by
 unfold yg
 induction l with
 | nil=>rfl
 | cons a l ih=>rw[cO,eY (λz=>h (by rw[<-rP z];exact dg))];exact ih λm=>h (cM _ m)
def Lq{l:Da Str}(h:x∈l):dY (yg l) (Sum.inr x)=some (.bl true):=by
 unfold yg
 induction l with
 | nil=>simp at h
 | cons a l ih=>
  rw[cO];by_cases e:a=x
  .exact gE (by rw[e])
  .rw [eY (λz=>e (rP z))];exact ih ((b_.mp h).resolve_left λz=>e z.symm)
def aI.find{n:Nat}(h:aI T n ρ A H st)(e:st.ai[i]?=some p):∃q,A.qs[i]?=some q/\H q.1=some (.ins T.part q.2.1 (cT p q.2.2))/\H q.2.2=some (.lst (p.row.map V.int))/\ρ q.1=some (n,20,p.nm)/\ρ q.2.2=some (n,21,p.nm):=by
 have hi:i<A.qs.length:=by rw[h.ql];exact(dX.mp e).1
 exact⟨A.qs[i],bu hi,h.opt i p _ e (bu hi)⟩
noncomputable def aV(st:HS)(o:Str):HS:={ st with own:=st.own++[o],bq:=st.bq++[0],bU:=st.bU++[0],ai:=st.ai.map λp=>{ p with row:=p.row++[0] } }
noncomputable def aX(st:HS)(p:Pt):Da Int:=List.zipWith (λr c=>p.sc*r+c) p.row st.bq
noncomputable def j_(st:HS)(tops:Da Int):Da Int:=List.zipWith (λt c=>t-c) tops st.bq
noncomputable def wX(st:HS)(p:Pt):HS:={ st with ai:=st.ai++[p],nms:=st.nms++[p.nm] }
noncomputable def wY(st:HS)(x o:Str)(wo we:Int):HS:=wX st ⟨x,o,wo,we,1,j_ st ((List.replicate st.own.length 0).set (st.own.idxOf o) st.prod)⟩
noncomputable def aS(st:HS):Int:=(st.ai.map (·.wo)).sum
noncomputable def gO(st:HS)(p:Pt):Da (Str×Rat):=(List.zip st.own (aX st p)).filterMap λx=>if 0<x.2 then some (x.1,Jm.fr x.2 st.prod) else none
noncomputable def BK(p:Pt):HO:=.tup [.str p.nm,.str p.ow,.int p.wo,.int p.we]
inductive jA(H:Hp):Da V->Da Pt->Prop
 | nil:jA H [] []
 | cons {r:Addr} {p:Pt} {vs:Da V} {ps:Da Pt}:H r=some (BK p)->jA H vs ps->jA H (.ref r::vs) (p::ps)
def Lr(n:Nat)(q1 q2:Addr)(ρ:bR)(H:Hp)(ρ':bR)(H':Hp):Prop:=∀b o,H b=some o->(∀t x,ρ b≠some (n,t,x))->b≠q1->b≠q2->H' b=some o/\ρ' b=ρ b
theorem Lr.trans{n:Nat}{ρ2:bR}(a:Lr n q1 q2 ρ H ρ1 H1)(b:Fr n ρ1 H1 ρ2 H2):Lr n q1 q2 ρ H ρ2 H2:=λc o h k x y=>by obtain⟨h1,e1⟩:=a c o h k x y;obtain⟨h2,e2⟩:=b c o h1 (by rw[e1];exact k);exact⟨h2,e2.trans e1⟩
def Lr.fr{n:Nat}{ρ2:bR}(b:Lr n q1 q2 ρ1 H1 ρ2 H2)(a:Fr n ρ H ρ1 H1)(h1:H q1=none)(h2:H q2=none):Fr n ρ H ρ2 H2:=λc o h k=>by obtain⟨e1,e2⟩:=a c o h k;obtain⟨e3,e4⟩:=b c o e1 (by rw[e2];exact k) (aA h h1) (aA h h2);exact⟨e3,e4.trans e2⟩
noncomputable def isNm(o:Str):Bool:=isName o.cps.toList
inductive abI(T:TC)(vs:Da V)(H:Hp)(Q:VK)(E:XK):Prop
 |mk(p dx:_)(_:vs=[.ref p])(_:H p=some (.ins T.bot dx []))(_:∀sp kn H',H sp=none->H kn=none->sp≠kn->(∀b o,H b=some o->b≠p->H' b=some o)->H' p=some (.ins T.bot dx (jU sp 1 kn))->H' sp=some (.lst [])->H' kn=some (.dK [])->Q .cI H')
def FL(T:TC):Sp:=bx (abI T)
inductive abJ(T:TC)(K:Fg)(vs:Da V)(H:Hp)(Q:VK)(E:XK):Prop
 |mk(p dx l:Addr)(pt:Pt)(_:vs=[.ref p,.str pt.nm,.str pt.ow,.int pt.wo,.int pt.we,.int pt.sc,.ref l])(_:H p=some (.ins T.part dx []))(_:aG K H l (pt.row.map V.int))(_:∀r H',H r=none->(∀b o,H b=some o->b≠p->H' b=some o)->H' p=some (.ins T.part dx (cT pt r))->H' r=some (.lst (pt.row.map V.int))->Q .cI H')
def BL(T:TC)(K:Fg):Sp:=bx (abJ T K)
inductive abL(T:TC)(vs:Da V)(H:Hp)(Q:VK)(E:XK):Prop
 |mk(p dx ρ n:_)(_:vs=[.ref p])(_:H p=some (.ins T.hold dx []))(_:Gh ρ H)(_:ρ p=none)(_:∀ρ' A H',A.a=p->HH T n ρ' A H' hs0->(∀b o,H b=some o->b≠p->H' b=some o/\ρ' b=ρ b)->Q .cI H')
def FN(T:TC):Sp:=bx (abL T)
inductive abM(T:TC)(vs:Da V)(H:Hp)(Q:VK)(E:XK):Prop
 |mk(n ρ A st o:_)(_:vs=[.ref A.a,.str o])(_:aI T n ρ A H st)(_:o∈st.own)(_:Q (.int (st.own.idxOf o:Int)) H)
def BN(T:TC):Sp:=bx (abM T)
inductive ZI(T:TC)(vs:Da V)(H:Hp)(Q:VK)(E:XK):Prop
 |mk(n ρ A st:_)(i:Nat)(p:Pt)(q:Addr×Addr×Addr)(_:vs=[.ref A.a,.str p.nm])(_:aI T n ρ A H st)(_:(st.ai.map (·.nm)).Nodup)(_:st.ai[i]?=some p)(_:A.qs[i]?=some q)(_:Q (.ref q.1) H)
def CM(T:TC):Sp:=bx (ZI T)
inductive aiW(T:TC)(K:Fg)(vs:Da V)(H:Hp)(Q:VK)(E:XK):Prop
 |mk(n ρ A st l:_)(tops:Da Int)(_:vs=[.ref A.a,.ref l])(_:aI T n ρ A H st)(_:aG K H l (tops.map V.int))(_:tops.length=st.bq.length)(_:tops.length<=1000)(_:∀r H',aJ H H'->H r=none->H' r=some (.lst ((j_ st tops).map V.int))->Q (.ref r) H')
def R5(T:TC)(K:Fg):Sp:=bx (aiW T K)
inductive abN(T:TC)(vs:Da V)(H:Hp)(Q:VK)(E:XK):Prop
 |mk(n ρ A st:_)(i:Nat)(p:Pt)(q:Addr×Addr×Addr)(_:vs=[.ref A.a,.ref q.1])(_:aI T n ρ A H st)(_:Wf st)(_:st.ai[i]?=some p)(_:A.qs[i]?=some q)(_:∀r H',aJ H H'->H r=none->H' r=some (.lst ((aX st p).map V.int))->Q (.ref r) H')
def BO(T:TC):Sp:=bx (abN T)
inductive afh(T:TC)(vs:Da V)(H:Hp)(Q:VK)(E:XK):Prop
 |mk(n ρ A st:_)(q:Addr×Addr×Addr)(p:Pt)(_:vs=[.ref A.a,.ref q.1])(_:HH T n ρ A H st)(_:H q.1=some (.ins T.part q.2.1 (cT p q.2.2)))(_:H q.2.2=some (.lst (p.row.map V.int)))(_:ρ q.1=none)(_:ρ q.2.2=none)(_:p.nm∉st.nms)(_:Wf (wX st p))(_:∀ρ' A' H',HH T n ρ' A' H' (wX st p:_)->A'.a=A.a->Lr n q.1 q.2.2 ρ H ρ' H'->Q .cI H')
def Ls(T:TC):Sp:=bx (afh T)
inductive abO(T:TC)(vs:Da V)(H:Hp)(Q:VK)(E:XK):Prop
 |mk(n ρ A st o:_)(_:vs=[.ref A.a,.str o])(_:HH T n ρ A H st)(_:isNm o=true)(_:o∉st.own)(_:st.own.length<100)(_:wW T n ρ A H (aV st o:_) λH'=>Q .cI H')
def BP(T:TC):Sp:=bx (abO T)
inductive afi(T:TC)(vs:Da V)(H:Hp)(Q:VK)(E:XK):Prop
 |mk(n ρ A st x o wo we:_)(_:vs=[.ref A.a,.str x,.str o,.int wo,.int we])(_:HH T n ρ A H st)(_:isNm x=true)(_:x∉st.nms)(_:o∈st.own)(_:1<=wo)(_:0<=we)(_:st.nms.length<1000)(_:st.ai.length<1000)(_:wW T n ρ A H (wY st x o wo we:_) λH'=>Q .cI H')
def Uo(T:TC):Sp:=bx (afi T)
inductive abP(T:TC)(vs:Da V)(H:Hp)(Q:VK)(E:XK):Prop
 |mk(n ρ A st:_)(_:vs=[.ref A.a])(_:aI T n ρ A H st)(_:st.ai.length<=1000)(_:∀r ws H',aJ H H'->H r=none->H' r=some (.lst ws)->jA H' ws st.ai->Q (.ref r) H')
def FO(T:TC):Sp:=bx (abP T)
inductive abQ(T:TC)(vs:Da V)(H:Hp)(Q:VK)(E:XK):Prop
 |mk(n ρ A st:_)(_:vs=[.ref A.a])(_:aI T n ρ A H st)(_:st.ai.length<=1000)(_:∀H',aJ H H'->Q (.int (aS st)) H')
def BQ(T:TC):Sp:=bx (abQ T)
inductive ZJ(T:TC)(vs:Da V)(H:Hp)(Q:VK)(E:XK):Prop
 |mk(n ρ A st:_)(_:vs=[.ref A.a])(_:aI T n ρ A H st)(_:∀r,H r=none->Q (.ref r) (upd H r (.lst (st.own.map V.str))))
def CN(T:TC):Sp:=bx (ZJ T)
inductive abR(T:TC)(vs:Da V)(H:Hp)(Q:VK)(E:XK):Prop
 |mk(bt db sp kn:Addr)(stp:Da Int)(prod top:Int)(_:vs=[.ref bt,.int top])(_:H bt=some (.ins T.bot db (jU sp prod kn)))(_:H sp=some (.lst (stp.map V.int)))(_:prod=stp.foldl (·*·) 1)(_:(∀s∈stp,2<=s))(_:Jm.Sz 8000 prod)(_:∀r H',aJ H H'->H' r=some (tQ (Jm.fr top prod))->Q (.ref r) H')
def FP(T:TC):Sp:=bx (abR T)
inductive ZK(T:TC)(vs:Da V)(H:Hp)(Q:VK)(E:XK):Prop
 |mk(bt db sp kn:Addr)(stp:Da Int)(prod top:Int)(AT:Da (Key×V))(_:vs=[.ref bt,.int top])(_:H bt=some (.ins T.bot db (jU sp prod kn)))(_:H sp=some (.lst (stp.map V.int)))(_:prod=stp.foldl (·*·) 1)(_:(∀s∈stp,2<=s))(_:Jm.Sz 8000 prod)(_:H kn=some (.dK AT))(_:Lk H AT prod)(_:AT.length<10000000)(_:(AT.map (·.1)).Nodup)(_:∀r H' kvs',(∀b o,H b=some o->b≠kn->H' b=some o)->H' kn=some (.dK kvs')->Lk H' kvs' prod->kvs'.length<=AT.length+1->(kvs'.map (·.1)).Nodup->H' r=some (tQ (Jm.fr top prod))->Q (.ref r) H')
def Lu(T:TC):Sp:=bx (ZK T)
inductive jL(ρ:bR)(H:Hp):Da V->Da mC->Prop
 | nil:jL ρ H [] []
 | cons {r l:Addr} {x:mC} {ss:Da V} {vs:Da V} {as:Da mC}:H r=some (.tup [.str x.nm,.str x.ow,.int x.wo,.ref l])->H l=some (.lst ss)->ρ l=none->jn H ss x.sh->jL ρ H vs as->jL ρ H (.ref r::vs) (x::as)
inductive ZL(T:TC)(vs:Da V)(H:Hp)(Q:VK)(E:XK):Prop
 |mk(n ρ A st:_)(_:vs=[.ref A.a])(_:HH T n ρ A H st)(_:∀r ws H',aJ H H'->H r=none->H' r=some (.lst ws)->jL ρ H' ws st.dO->Q (.ref r) H')
def Lv(T:TC):Sp:=bx (ZL T)
def jA.mono{l:Da Pt}(h:jA H vs l)(g:∀b xs,H b=some (.tup xs)->H' b=some (.tup xs)):jA H' vs l:=by
 induction h with
 | nil=>exact .nil
 | cons a _ ih=>exact .cons (g _ _ a) ih
def jA.snoc{l:Da Pt}(h:jA H vs l)(e:H r=some (BK p)):jA H (vs++[.ref r]) (l++[p]):=by
 induction h with
 | nil=>exact .cons e .nil
 | cons a _ ih=>exact .cons a ih
def jn.snoc{l:Da (Str×Rat)}{q:Rat}(h:jn H vs l)(e:H r=some (.tup [.str x,.ref f]))(e2:H f=some (tQ q)):jn H (vs++[.ref r]) (l++[(x,q)]):=by
 induction h with
 | nil=>exact .cons e e2 .nil
 | cons a b _ ih=>exact .cons a b ih
def jf{p:Addr}(h:H p=none\/∃u,H p=some u/\isTup u=false):∀b xs,H b=some (.tup xs)->upd H p o b=some (.tup xs):=λb xs e=>by
 rw[au (λz=>?_)]
 .exact e
 .rw [z]at e;rcases h with h|⟨u,h,t⟩
  .rw [h]at e;cases e
  .rw [h]at e;cases e;cases t
theorem yV(h:isNm x=true):x.cps.toList.length<=100000:=by unfold isNm isName at h;have:=eE (ng.mp (ng.mp h).1).2;omega
def qN{d:Addr}{o:Obj}(e:H d=some (.dK AT))(s:aJ (upd H d (.eX o (.dK AT))) H1):aJ H (upd H1 d (.dK AT)):=λb u q=>by
 by_cases h:b=d
 .rw [h,e]at q;cases q;rw[h];exact ah
 .rw [au h];exact s b u (by rw[au h];exact q)
def eT{d:Addr}{o:Obj}{u:HO}(e:H d=some (.dK AT))(q:H b=some u)(h:∀k,u ≠ .dK k):upd H d (.eX o (.dK AT)) b=some u:=by rw[au (λz=>by rw[z,e]at q;cases q;exact h _ rfl)];exact q
def jr{d:Addr}{o:Obj}(e:H d=some (.dK AT))(q:upd H d (.eX o (.dK AT)) b=none):H b=none:=by
 by_cases h:b=d
 .rw [h,ah]at q;cases q
 .rw [au h]at q;exact q
def aJ.tups(s:aJ H H'):∀b xs,H b=some (.tup xs)->H' b=some (.tup xs):=λb xs h=>s b _ h
def take_snoc{α:Type}{l:Da α}{x:α}(h:l[i]?=some x):l.take (i+1)=l.take i++[x] :=by rw[List.take_add_one,h];rfl
theorem sX{α β γ:Type}(f:α->β->γ){xs:Da α}{ys:Da β}{x:α}{y:β}(h1:xs[i]?=some x)(h2:ys[i]?=some y):List.zipWith f (xs.take (i+1)) (ys.take (i+1))=List.zipWith f (xs.take i) (ys.take i)++[f x y] :=by have l1:=(dX.mp h1).1;have l2:=(dX.mp h2).1;rw[take_snoc h1,take_snoc h2,Ac (by rw[kI,kI];omega)];rfl
def gi{l:Da Int}{v:V}(h:(l.map V.int)[i]?=some v):∃z,v =.int z/\l[i]?=some z:=by rw[cu]at h;obtain⟨z,hz,rfl⟩:=kH.mp h;exact⟨z,Z,hz⟩
theorem HH.mono{n:Nat}(h:HH T n ρ A H st)(s:aJ H H'):HH T n ρ A H' st:=⟨h.g.same s,h.h.mono s,h.wf⟩
def vq{n:Nat}{u:HO}(c:ρ a=none)(h:H a=some u)(t:isTup u=false):Kp n ρ ρ H (upd H a o) ts:=⟨jf (.inr ⟨u,h,t⟩),λb x y w _ hc e=>⟨by rw[au (λz=>by rw[z,c]at hc;cases hc)];exact e,hc⟩⟩
def HH.Eh{n:Nat}{u:HO}(h:HH T n ρ A H st)(c:ρ a=none)(e:H a=some u)(t:isTup u=false)(t2:isTup o=false):HH T n ρ A (upd H a o) st:=⟨h.g.wr t2,h.h.same (vq c e t),h.wf⟩
def Fr.new{n:Nat}(f:Fr n ρ H ρ' H')(h:H a=none):Fr n ρ H ρ' (upd H' a o):=λb u e k=>by rw[au (aA e h)];exact f b u e k
def HZ{α β γ:Type}(f:α->β->γ){xs:Da α}{ys:Da β}(h:xs.length=ys.length)(x:α)(y:β):List.zipWith f (xs++[x]) (ys++[y])=List.zipWith f xs ys++[f x y] :=by rw[Ac h];rfl
theorem FQ(w:Wf st){o:Str}(h:o∉st.own)(hl:st.own.length<100):Wf (aV st o):=by
 have P:∀p∈(aV st o).ai,∃p0∈st.ai,p={ p0 with row:=p0.row++[0] }:=λp hp=>by obtain⟨p0,h0,rfl⟩:=b7.mp (show p∈st.ai.map _ from hp);exact⟨p0,h0,Z⟩
 have p1:=w.gu;refine⟨?_,w.yT,?_,λp hp=>?_,λp hp=>?_,λp hp=>?_,?_,?_,w.gu,w.pZ,w.vj,?_,w.yU,?_,w.AB,w.vm,w.HY,w.big,λc hc=>?_,λp hp=>?_,λp hp r hr=>?_,λp hp t ht=>?_,λp hp=>?_,λu hu=>?_⟩
 .exact oV w.jV h
 .show ((st.ai.map λp=>{ p with row:=p.row++[0] }).map (·.nm)).Nodup;rw[fk];exact w.dN
 .obtain ⟨p0,h0,rfl⟩:=P p hp;exact w.sub p0 h0
 .obtain ⟨p0,h0,rfl⟩:=P p hp;show(p0.row++[0]).length=(st.own++[o]).length;rw[cX,cX,w.rows p0 h0];rfl
 .obtain ⟨p0,h0,rfl⟩:=P p hp;exact yv _ (w.ow p0 h0)
 .show (st.bq++[0]).length=(st.own++[o]).length;rw[cX,cX,w.eZ];rfl
 .show (st.bU++[0]).length=(st.own++[o]).length;rw[cX,cX,w.mD];rfl
 .show (st.own++[o]).length<=100;rw[cX];exact hl
 .show (st.ai.map _).length<=1000;rw[aF];exact w.kM
 .rcases fW.mp (show c∈st.bq++[0]from hc)with z|z
  .exact w.oq c z
  .rw [eO.mp z];exact⟨lO _,by show(0:Int)<=st.prod;omega⟩
 .obtain ⟨p0,h0,rfl⟩:=P p hp;exact w.sW p0 h0
 .obtain ⟨p0,h0,rfl⟩:=P p hp;rcases fW.mp (show r∈p0.row++[0]from hr)with z|z
  .exact w.oz p0 h0 r z
  .rw [eO.mp z];show -st.prod<=0/\0<=st.prod;omega
 .obtain ⟨p0,h0,rfl⟩:=P p hp;have el:p0.row.length=st.bq.length:=by rw[w.rows p0 h0,w.eZ]
  have ht:t∈List.zipWith (λr c=>p0.sc*r+c) (p0.row++[0]) (st.bq++[0]):=ht;rw[HZ _ el _ _]at ht;rcases fW.mp ht with z|z
  .exact w.p5 p0 h0 t z
  .rw [eO.mp z];show 0<=p0.sc*0+0/\p0.sc*0+0<=st.prod;omega
 .obtain ⟨p0,h0,rfl⟩:=P p hp;exact w.kG p0 h0
 .rcases fW.mp (show u∈st.bU++[0]from hu)with z|z
  .exact w.FJ u z
  .rw [eO.mp z];exact sS (by decide +kernel)
def Qe(w:Wf st)(h1:p.nm∉st.nms)(h2:st.nms.length<1000)(h3:st.ai.length<1000)(h4:p.row.length=st.own.length)(h5:p.ow∈st.own)(h6:1<=p.sc/\p.sc<=st.prod)(h7:∀r∈p.row,-st.prod<=r/\r<=st.prod)(h8:∀t∈List.zipWith (λr c=>p.sc*r+c) p.row st.bq,0<=t/\t<=st.prod)(h9:1<=p.wo/\0<=p.we):Wf (wX st p):=by
 have P:∀{M:Pt->Prop},(∀x∈st.ai,M x)->M p->∀x∈st.ai++[p],M x:=λa b x hx=>by
  rcases fW.mp hx with z|z
  .exact a x z
  .rw [eO.mp z];exact b
 refine⟨w.jV,oV w.yT h1,?_,P (λx hx=>yv _ (w.sub x hx)) (iQ _ (eO.mpr rfl)),P w.rows h4,P w.ow h5,w.eZ,w.mD,w.gu,w.pZ,w.vj,w.j9,?_,?_,w.AB,w.vm,w.HY,w.big,w.oq,P w.sW h6,P w.oz h7,P w.p5 h8,P w.kG h9,w.FJ⟩
 . show((st.ai++[p]).map (·.nm)).Nodup
   rw[b8]
   refine oV w.dN λm=>?_
   obtain⟨x,hx,e⟩:=b7.mp m
   have e:x.nm=p.nm:=e
   exact h1 (by rw[<-e];exact w.sub x hx)
 . show(st.nms++[p.nm]).length<=1000
   rw[cX];exact h2
 . show(st.ai++[p]).length<=1000
   rw[cX];exact h3
theorem vt{α β γ:Type}{f:α->β->γ}{t:γ}:∀{xs:Da α}{ys:Da β},t∈List.zipWith f xs ys->∃x∈xs,∃y∈ys,t=f x y
 | [],_,h=>by simp at h
 | _::_,[],h=>by simp at h
 | x::xs,y::ys,h=>by
  rcases b_.mp (show t∈f x y::List.zipWith f xs ys from h)with e|m
  .exact ⟨x,dg,y,dg,e⟩
  .obtain ⟨a,ha,b,hb,e⟩:=vt m;exact⟨a,cM _ ha,b,cM _ hb,e⟩
theorem Lw:∀{ts cs:Da Int},List.zipWith (λr c=>1*r+c) (List.zipWith (λt c=>t-c) ts cs) cs=ts.take cs.length
 | [],_=>by simp
 | _::_,[]=>by simp
 | t::ts,c::cs=>by show(1*(t-c)+c)::List.zipWith _ (List.zipWith _ ts cs) cs=t::ts.take cs.length;rw[Lw];congr 1;omega
def Ei{n:Nat}{b t:Int}(h:t∈(List.replicate n 0).set i b):t=0\/t=b:=by
 rcases Rb h with z|z
 .exact .inl (List.eq_of_mem_replicate z)
 .exact .inr z
variable {wo we:Int}
theorem Qf(w:Wf st){o:Str}(h1:x∉st.nms)(h2:st.nms.length<1000)(h3:st.ai.length<1000)(ho:o∈st.own)(h4:1<=wo)(h5:0<=we):Wf (wY st x o wo we):=by
 have p1:=w.gu;refine Qe w h1 h2 h3 ?_ ho ⟨lO 1,w.gu⟩ (λr hr=>?_) (λt ht=>?_) ⟨h4,h5⟩
 .show (List.zipWith _ ((List.replicate st.own.length 0).set _ _) st.bq).length=_;rw[jE,gq,mh,w.eZ,nQ]
 .obtain ⟨t,ht,c,hc,rfl⟩:=vt (show r∈List.zipWith _ _ st.bq from hr);have:=w.oq c hc;rcases Ei ht with rfl|rfl <;> omega
 .have e:List.zipWith (λr c=>1*r+c) (j_ st ((List.replicate st.own.length 0).set (st.own.idxOf o) st.prod)) st.bq=_:=Lw;have ht:t∈List.zipWith (λr c=>1*r+c) (j_ st ((List.replicate st.own.length 0).set (st.own.idxOf o) st.prod)) st.bq:=ht;rw[e]at ht;rcases Ei (List.mem_of_mem_take ht)with rfl|rfl <;> omega
def iS{u:HO}(h:a≠b):upd (upd H a o) b u=upd (upd H b u) a o:=by
 funext c;unfold upd;by_cases e1:c=b
 .rw [aB e1,aC (λz=>h (z.symm.trans e1)),aB e1]
 .rw [aC e1];by_cases e2:c=a
  .rw [aB e2,aB e2]
  .rw [aC e2,aC e2,aC e1]
def qO(h:H a=some o):upd H a o=H:=by
 funext c;unfold upd;by_cases e:c=a
 .rw [aB e,e,h]
 .rw [aC e]
theorem Lx{α:Type}(g:α->α){l:Da α}{p:α}(h:l[i]?=some p):((l.take i).map g++l.drop i)[i]?=some p:=by
 have hi:=(dX.mp h).1;have e:((l.take i).map g).length=i:=by rw[aF,kI];omega
 rw[uV (by omega),e,rO,List.getElem?_drop];exact h
theorem Ly{α:Type}(g:α->α){l:Da α}{p:α}(h:l[i]?=some p):((l.take i).map g++l.drop i).set i (g p)=(l.take (i+1)).map g++l.drop (i+1):=by
 have hi:=(dX.mp h).1;have e:((l.take i).map g).length=i:=by rw[aF,kI];omega
 have ep:l[i]=p:=by rw[bu hi]at h;exact fM h
 rw[List.set_append_right _ _ (by omega),e,rO,List.drop_eq_getElem_cons hi,Rw,take_snoc h,b8,KL];rfl
def qP{α β:Type}(g:α->α)(f:α->β)(hf:∀x,f (g x)=f x)(l:Da α)(i:Nat):((l.take i).map g++l.drop i).map f=l.map f:=by rw[b8,fk,show f ∘ g=f from funext hf,<-b8,List.take_append_drop]
def o6{ps ps':Da Pt}(h:ps.map (·.nm)=ps'.map (·.nm)):bY ps qs=bY ps' qs:=by
 have:∀{ps:Da Pt},bY ps qs=List.zipWith (λ(x:Str) q=>((Sum.inr x:Key),V.ref q.1)) (ps.map (·.nm)) qs:=λ{ps}=>by unfold bY;rw[List.zipWith_map_left]
 rw[this,this,h]
structure g_(p:Addr)(H:Hp)(ρ:bR)(H':Hp)(ρ':bR)(l:Da (Addr×HO×lS)):Prop where
 m:∀e∈l,H' e.1=some e.2.1/\ρ' e.1=some e.2.2/\e.1≠p
 k:∀b o,H b=some o->b≠p->H' b=some o/\ρ' b=ρ b
 g:Gh ρ' H'
 pp:∃u,H' p=some u
def g_.new{p:Addr}{l:Da (Addr×HO×lS)}{c:lS}(h:g_ p H ρ H' ρ' l)(ha:H' a=none)(t:isTup o=false):g_ p H ρ (upd H' a o) (cy ρ' a c) ((a,o,c)::l):=by
 obtain⟨u,hu⟩:=h.pp;refine⟨λe he=>?_,λb w hb hp=>?_,(h.g.alloc ha).color ah t,u,by rw[au (aA hu ha)];exact hu⟩
 .rcases b_.mp he with rfl|he
  .exact ⟨ah,bN,λz=>by rw[show a=p from z,hu]at ha;cases ha⟩
  .obtain ⟨x,y,z⟩:=h.m e he;have:e.1≠a:=aA x ha;rw[au this,aP this];exact⟨x,y,z⟩
 .obtain ⟨x,y⟩:=h.k b w hb hp;have:b≠a:=aA x ha;rw[au this,aP this];exact⟨x,y⟩
theorem g_.wr{p:Addr}{l:Da (Addr×HO×lS)}{u:HO}(h:g_ p H ρ H' ρ' l)(t:isTup u=false):g_ p H ρ (upd H' p u) ρ' l:=by
 refine⟨λe he=>?_,λb w hb hp=>?_,h.g.wr t,u,ah⟩
 .obtain ⟨x,y,z⟩:=h.m e he;rw[au z];exact⟨x,y,z⟩
 .obtain ⟨x,y⟩:=h.k b w hb hp;rw[au hp];exact⟨x,y⟩
theorem g_.same{p:Addr}{z6:Hp}{l:Da (Addr×HO×lS)}(h:g_ p H ρ H' ρ' l)(s:aJ H' z6):g_ p H ρ z6 ρ' l:=by obtain⟨u,hu⟩:=h.pp;exact⟨λe he=>let⟨x,y,z⟩:=h.m e he;⟨s _ _ x,y,z⟩,λb w hb hp=>let⟨x,y⟩:=h.k b w hb hp;⟨s _ _ x,y⟩,h.g.same s,u,s _ _ hu⟩
def g_.add{p:Addr}{H0:Hp}{ρ0:bR}{l l0:Da (Addr×HO×lS)}{c:lS}(h:g_ p H ρ H' ρ' l)(ha:H' a=some o)(t:isTup o=false)(h0:g_ p H ρ H0 ρ0 l0)(hn:H0 a=none)(hl:∀e∈l,e.1≠a):g_ p H ρ H' (cy ρ' a c) ((a,o,c)::l):=by
 refine⟨λe he=>?_,λb w hb hp=>?_,h.g.color ha t,h.pp⟩
 .rcases b_.mp he with rfl|he
  .obtain ⟨u,hu⟩:=h0.pp;exact⟨ha,bN,λz=>by rw[show a=p from z,hu]at hn;cases hn⟩
  .obtain ⟨x,y,z⟩:=h.m e he;rw[aP (hl e he)];exact⟨x,y,z⟩
 .obtain ⟨x,y⟩:=h.k b w hb hp;obtain⟨x0,_⟩:=h0.k b w hb hp;rw[aP (aA x0 hn)];exact⟨x,y⟩
theorem Lz:∀(l:Da Int)(a:Int),l.foldl (·*·) a=a*l.foldl (·*·) 1
 | [],a=>by simp
 | s::l,a=>by rw[iH,Lz l (a*s),iH,Lz l (1*s),Int.one_mul,jX]
def FT(s:Int)(l:Da Int):(s::l).foldl (·*·) 1=s*l.foldl (·*·) 1:=by rw[iH,Lz,Int.one_mul]
def ZM(s:Int)(l:Da Int):(l++[s]).foldl (·*·) 1=l.foldl (·*·) 1*s:=by rw[xD];rfl
theorem LB:∀{l:Da Int},(∀s∈l,2<=s)->1<=l.foldl (·*·) 1
 | [],_=>by decide
 | s::l,h=>by rw[FT];have h1:=h s dg;have h2:=LB (l:=l) λx hx=>h x (cM _ hx);have:=Int.mul_le_mul (a:=1) (b:=1) (c:=s) (d:=l.foldl (·*·) 1) (by omega) h2 (by decide) (by omega);omega
theorem X_:∀{l:Da Int}{s:Int},(∀s∈l,2<=s)->s∈l->s<=l.foldl (·*·) 1
 | [],_,_,h=>by simp at h
 | a::l,s,h,m=>by
  rw[FT];have h1:=h a dg;have h2:=LB (l:=l) λx hx=>h x (cM _ hx);rcases b_.mp m with rfl|m
  .have:=Ky h2 (by omega:0<=s);omega
  .have h3:=X_ (λx hx=>h x (cM _ hx)) m;have:=Int.mul_le_mul_of_nonneg_right (by omega:1<=a) (by omega:0<=l.foldl (·*·) 1);omega
theorem Up{t d s:Int}(hd:0<d)(hs:0<s)(c:Jm.cf t d=1):Jm.cf (t / Jm.cf t s) (d*(s / Jm.cf t s))=1/\0<d*(s / Jm.cf t s):=by
 have gp:0<Jm.cf t s:=Jm.La t s (.inr hs);obtain⟨u,hu⟩:=Jm.xG t s;obtain⟨v,hv⟩:=Jm.pT t s;generalize eg:Jm.cf t s=g at *;have e1:t / g=u:=by rw[hu,Fi _ (by omega)]
 have e2:s / g=v:=by rw[hv,Fi _ (by omega)]
 have vp:0<v:=by
  rcases Int.lt_or_le 0 v with z|z
  .exact z
  .have:=Ky z (by omega:0<=g);omega
 rw[e1,e2];have c0:Nat.Coprime t.natAbs d.natAbs:=by unfold Jm.cf at c;exact_mod_cast c
 have c1:Nat.Coprime u.natAbs d.natAbs:=Nat.Coprime.coprime_dvd_left ⟨g.natAbs,by rw[hu,DB,Nat.mul_comm]⟩ c0;have c2:Nat.Coprime u.natAbs v.natAbs:=by
  have hg:Int.gcd t s=g.natAbs:=by unfold Jm.cf at eg;omega
  have hg2:Nat.gcd t.natAbs s.natAbs=g.natAbs:=hg;have:=Nat.coprime_div_gcd_div_gcd (m:=t.natAbs) (n:=s.natAbs) (by rw[hg2];omega);rw[hg2]at this;have gn:0<g.natAbs:=by omega
  rw[hu,hv,DB,DB,Nat.mul_div_cancel_left _ gn,Nat.mul_div_cancel_left _ gn]at this;exact this
 refine⟨?_,Int.mul_pos hd vp⟩;have:=Nat.Coprime.mul_right c1 c2;rw[<-DB]at this;unfold Jm.cf;exact_mod_cast this
def WG{κ:Type}[DecidableEq κ]{AT:Da (κ×V)}{k:κ}{v:V}(h:dY AT k=some v):(k,v)∈AT:=by unfold dY at h;obtain⟨p,hp,rfl⟩:=kH.mp h;have:=List.find?_some hp;have e:p.1=k:=eE this;rw[<-e];exact List.mem_of_find?_eq_some hp
def aI.WH{n:Nat}(h:aI T n ρ A H st)(k:∀b o,H b=some o->b≠A.kn->H' b=some o)(e1:H' A.kn=some (.dK AT))(e2:Lk H' AT st.prod)(e3:AT.length<=m)(e4:(AT.map (·.1)).Nodup):aI T n ρ A H' { st with kn:=m }:=by
 obtain⟨kv0,k0,_⟩:=h.okn;have z:=λ{b:Addr}{t:Nat}{x:Str}{o:HO}(u:t≠9)(c:ρ b=some (n,t,x))(e:H b=some o)=>k b o e (Ed c h.gM (λw=>by cases w;exact u rfl));have tp:∀b xs,H b=some (.tup xs)->H' b=some (.tup xs):=λb xs e=>k b _ e (i8 e k0 (by intro w;cases w));obtain⟨vs,h1,h2⟩:=h.m9;have kp:Kp n ρ ρ H H' λt=>decide (t≠9):=⟨tp,λb t x o u c e=>⟨z (eE u) c e,c⟩⟩
 exact⟨z (by decide) h.ca h.oa,h.ca,z (by decide) h.gv h.gX,h.gv,z (by decide) h.ff h.dB,h.ff,⟨vs,z (by decide) h.gG h1,h2.keep kp (by decide)⟩,h.gG,z (by decide) h.gH h.m_,h.gH,z (by decide) h.gI h.jd,h.gI,z (by decide) h.gJ h.iC,h.gJ,z (by decide) h.cpu h.jC,h.cpu,z (by decide) h.gK h.lT,h.gK,⟨AT,e1,e2,e3,e4⟩,h.gM,h.ql,
  λi p q a b=>let⟨x,y,c,d⟩:=h.opt i p q a b;⟨z (by decide) c x,z (by decide) d y,c,d⟩⟩
def R6(w:Wf st)(h:m<=1000000):Wf { st with kn:=m }:=⟨w.jV,w.yT,w.dN,w.sub,w.rows,w.ow,w.eZ,w.mD,w.gu,w.pZ,w.vj,w.j9,w.yU,w.kM,w.AB,w.vm,h,w.big,w.oq,w.sW,w.oz,w.p5,w.kG,w.FJ⟩
theorem jZ.length{n:Nat}(h:jZ n ρ H vs l):vs.length=l.length:=by
 induction h with
 | nil=>rfl
 | cons _ _ _ _ _ ih=>simp[ih]
def jZ.get{n:Nat}(h:jZ n ρ H vs l):∀{i:Nat}{x:V},vs[i]?=some x->∃r q y ss,x =.ref r/\l[i]?=some y/\H r=some (.tup [.str y.nm,.str y.ow,.int y.wo,.ref q])/\H q=some (.lst ss)/\ρ q=some (n,30,⟨#[]⟩)/\jn H ss y.sh:=by
 induction h with
 | nil=>intro i x e;simp at e
 | @cons r q y ss vs as a b c d _ ih=>
  intro i x e;cases i with
  | zero=>simp at e;subst e;exact⟨r,q,y,ss,Z,Z,a,b,c,d⟩
  | succ i=>simp at e;obtain⟨r',q',y',ss',e1,e2,e3⟩:=ih e;exact⟨r',q',y',ss',e1,by simpa using e2,e3⟩
inductive kN(a:Addr)(ρ:bR)(H:Hp):Da V->Da mC->Prop
 | nil:kN a ρ H [] []
 | cons {r l:Addr} {x:mC} {ss:Da V} {vs:Da V} {as:Da mC}:H r=some (.tup [.str x.nm,.str x.ow,.int x.wo,.ref l])->H l=some (.lst ss)->ρ l=none->l≠a->jn H ss x.sh->kN a ρ H vs as->kN a ρ H (.ref r::vs) (x::as)
def kN.to(h:kN a ρ H vs l):jL ρ H vs l:=by
 induction h with
 | nil=>exact .nil
 | cons x y z _ w _ ih=>exact .cons x y z w ih
theorem kN.mono(h:kN a ρ H vs l)(g:aJ H H'):kN a ρ H' vs l:=by
 induction h with
 | nil=>exact .nil
 | cons x y z n w _ ih=>exact .cons (g _ _ x) (g _ _ y) z n (w.mono g.tups) ih
theorem kN.upd(h:kN a ρ H vs l)(ha:H a=some (.lst xs)):kN a ρ (L2.upd H a (.lst ys)) vs l:=by
 induction h with
 | nil=>exact .nil
 | cons x y z n w _ ih=>exact .cons (jf (.inr ⟨_,ha,Z⟩) _ _ x) (by rw[au n];exact y) z n (w.mono (jf (.inr ⟨_,ha,Z⟩))) ih
def kN.snoc{l:Addr}{x:mC}(h:kN a ρ H vs as)(e1:H r=some (.tup [.str x.nm,.str x.ow,.int x.wo,.ref l]))(e2:H l=some (.lst ss))(e3:ρ l=none)(e5:l≠a)(e4:jn H ss x.sh):kN a ρ H (vs++[.ref r]) (as++[x]):=by
 induction h with
 | nil=>exact .cons e1 e2 e3 e5 e4 .nil
 | cons x y z n w _ ih=>exact .cons x y z n w ih
def Sq(K:Fg)(H:Hp)(r:Addr)(xs:Da V):Prop:=aG K H r xs\/dm K H r xs
def aJ.sq(g:aJ H H')(h:Sq K H r xs):Sq K H' r xs:=h.elim (λz=> .inl (g.seq z)) λz=> .inr (g.tup z)
structure vz(K:Fg)(H:Hp)(us:Da V)(ps:Da Pt):Prop where
 len:us.length=ps.length
 at_:∀(i:Nat)(p:Pt),ps[i]?=some p->∃r xs,us[i]?=some (.ref r)/\Sq K H r xs/\xs[0]?=some (.str p.nm)/\xs[1]?=some (.str p.ow)/\xs[2]?=some (.int p.wo)/\xs[3]?=some (.int p.we)
def vz.mono{us:Da V}{ps:Da Pt}(h:vz K H us ps)(g:aJ H H'):vz K H' us ps:=⟨h.len,λi p e=>let⟨r,xs,a,b,c⟩:=h.at_ i p e;⟨r,xs,a,g.sq b,c⟩⟩
noncomputable def H_(own:Da Str)(tops:Da Int)(b:Int):Da (Str×Rat):=(List.zip own tops).filterMap λx=>if 0<x.2 then some (x.1,Jm.fr x.2 b) else none
theorem jA.length{l:Da Pt}(h:jA H vs l):vs.length=l.length:=by
 induction h with
 | nil=>rfl
 | cons _ _ ih=>simp[ih]
def jA.get{l:Da Pt}(h:jA H vs l):∀{i:Nat}{p:Pt},l[i]?=some p->∃r,vs[i]?=some (.ref r)/\H r=some (BK p):=by
 induction h with
 | nil=>intro i p e;simp at e
 | @cons r q vs ps a _ ih=>
  intro i p e;cases i with
  | zero=>simp at e;subst e;exact⟨r,Z,a⟩
  | succ i=>simp at e;obtain⟨r',e1,e2⟩:=ih e;exact⟨r',by simpa using e1,e2⟩
def WI(x:Str):Prop:=pV x.cps.toList
def R7:∀i:Fin 26,D5 "abcdefghijklmnopqrstuvwxyz" (97+i.val)=true:=by decide +kernel
theorem WI.isNm(h:WI x):L2.isNm x=true:=by unfold L2.isNm isName;have h1:=h.lo;have h2:=h.hi;refine ng.mpr ⟨ng.mpr ⟨bL (by omega),bL (by omega)⟩,pJ.mpr λc hc=>?_⟩;have h3:=h.Zy c hc;have:=R7 ⟨c-97,by omega⟩;rw[show 97+(c-97)=c from by omega]at this;exact this
theorem wZ:∀(l:Da Str)(st:HS),(l.foldl aV st).own=st.own++l
 | [],st=>by simp
 | o::l,st=>by rw[iH,wZ l];show(st.own++[o])++l=_;rw[KL];rfl
def iI(K:Fg)(hK:X.K=K:=by rfl):zU X (rIx K):=hK▸aa5
def Sq.ix{v:V}{Q:VK}(h:Sq K H r xs)(e:xs[i]?=some v)(q:Q v H):rIx K (.ref r) (.int (i:Int)) H Q:=by
 rcases h with h|h
 .exact .inl ⟨r,xs,i,v,Z,Z,h,aN e,q⟩
 .exact .inr (.inl ⟨r,xs,i,v,Z,Z,h,aN e,q⟩)
def Fr.at{n:Nat}(f:Fr n ρ H ρ' H')(e:H b=some o)(c:ρ b=none):H' b=some o/\ρ' b=none:=by obtain⟨a,d⟩:=f b o e (λt x=>by rw[c];intro z;cases z);exact⟨a,d.trans c⟩
def Fr.seq{n:Nat}(f:Fr n ρ H ρ' H'){l:Addr}(h:aG K H l xs)(c:ρ l=none):aG K H' l xs:=by
 rcases h with(h|⟨o,h⟩)|h
 .exact .inl (.inl (f.at h c).1)
 .exact .inl (.inr ⟨o,(f.at h c).1⟩)
 .exact .inr h
noncomputable def Ej(nss:Da (Da Nat)):Da Str:=nss.map tx
def ZN(nss:Da (Da Nat)):sV nss=(Ej nss).map V.str:=by unfold sV Ej;rw[fk];rfl
def Ia(h:nss.Nodup):(Ej nss).Nodup:=by unfold Ej;exact List.Pairwise.map tx (λa b hab e=>hab (T_ e)) h
def Uq(h:∀x∈nss,pV x):∀o∈Ej nss,WI o:=λo ho=>by obtain⟨x,hx,rfl⟩:=b7.mp ho;show pV (tx x).cps.toList;rw[show(tx x).cps.toList=x from by simp];exact h x hx
def Qg(nss:Da (Da Nat)):(Ej nss).length=nss.length:=by unfold Ej;rw[aF]
def LC(x:Str)(l:Da Str):DP (.str x) (l.map V.str)=decide (x∈l):=by
 have:=PY x.cps.toList (l.map λy=>y.cps.toList);rw[Lf]at this;rw[show sV (l.map λy=>y.cps.toList)=l.map V.str from by unfold sV;rw[fk];congr 1;]at this;rw[this];congr 1;refine propext ⟨λm=>?_,λm=>b7.mpr ⟨x,m,Z⟩⟩;obtain⟨y,hy,e⟩:=b7.mp m;have:tx y.cps.toList=tx x.cps.toList:=by rw[e]
 rw[Lf,Lf]at this;rw[<-this];exact hy
def w6(l:Da Str):(l.map V.str).all rS=true:=by rw[List.all_map];exact pJ.mpr λ_ _=>rfl
theorem LF{l:Da Str}{d:Int}(h0:0<=d)(h1:d<(l.length:Int)):∃(j:Nat)(o:Str),d=(j:Int)/\l[j]?=some o/\pS (l.map V.str) d=some (.str o):=by
 obtain⟨j,rfl⟩:∃j:Nat,d=(j:Int):=⟨d.toNat,by omega⟩
 have hj:j<l.length:=by omega
 exact⟨j,l[j],Z,bu hj,aN (by rw[cu,bu hj];rfl)⟩
section
variable {T:TC}{n:Nat}{L H:Hp}{x lp:Addr}{st:HS}{ps:Da Pt}
end
def qQ{α:Type}{l:Da α}(nd:l.Nodup){x:α}(h:l[i]?=some x):x∉l.take i:=λm=>by have h2:(l.take (i+1)).Nodup:=nd.sublist (RA _ _);rw[take_snoc h]at h2;exact(Fx.mp h2).2.2 x m x (eO.mpr rfl) rfl
abbrev Row:=Str×Int
noncomputable def yW(r:Row):HO:=.tup [.str r.1,.int r.2]
inductive gP(H:Hp):Da V->Da Row->Prop
 | nil:gP H [] []
 | cons {a:Addr} {r:Row} {vs:Da V} {rs:Da Row}:H a=some (yW r)->gP H vs rs->gP H (.ref a::vs) (r::rs)
def gP.mono{l:Da Row}(h:gP H vs l)(g:∀b xs,H b=some (.tup xs)->H' b=some (.tup xs)):gP H' vs l:=by
 induction h with
 | nil=>exact .nil
 | cons a _ ih=>exact .cons (g _ _ a) ih
theorem gP.length{l:Da Row}(h:gP H vs l):vs.length=l.length:=by
 induction h with
 | nil=>rfl
 | cons _ _ ih=>simp[ih]
def gP.get{l:Da Row}(h:gP H vs l):∀{i:Nat}{x:V},vs[i]?=some x->∃a r,x =.ref a/\l[i]?=some r/\H a=some (yW r):=by
 induction h with
 | nil=>intro i x e;simp at e
 | @cons a r vs rs e0 _ ih=>
  intro i x e;cases i with
  | zero=>simp at e;subst e;exact⟨a,r,Z,Z,e0⟩
  | succ i=>simp at e;obtain⟨a',r',e1,e2,e3⟩:=ih e;exact⟨a',r',e1,by simpa using e2,e3⟩
def gP.snoc{l:Da Row}{r:Row}(h:gP H vs l)(e:H a=some (yW r)):gP H (vs++[.ref a]) (l++[r]):=by
 induction h with
 | nil=>exact .cons e .nil
 | cons a _ ih=>exact .cons a ih
noncomputable def iD(rs:Da Row):Da (Key×V):=rs.map λr=>((Sum.inr r.1:Key),V.int r.2)
def yX(rs:Da Row):(iD rs).length=rs.length:=by unfold iD;rw[aF]
variable {rs:Da Row}
def Ib(h:x∉rs.map (·.1)):dY (iD rs) (Sum.inr x)=none:=by
 unfold iD
 induction rs with
 | nil=>rfl
 | cons a l ih=>rw[cO,eY (λz=>h (by rw[cO,<-rP z];exact dg))];exact ih λm=>h (by rw[cO];exact cM _ m)
noncomputable def bK(rs:Da Row):Int:=(rs.map (·.2)).sum
noncomputable def bP(st:HS)(x:Str):Pt:=(st.ai.find? λp=>decide (p.nm=x)).getD ⟨x,x,0,0,1,[]⟩
def FU(nd:(st.ai.map (·.nm)).Nodup)(h:st.ai[i]?=some p):bP st p.nm=p:=by
 unfold bP;have:st.ai.find? (λq=>decide (q.nm=p.nm))=some p:=by
  generalize st.ai=ps at *
  induction ps generalizing i with
  | nil=>simp at h
  | cons a ps ih=>
   obtain⟨h1,h2⟩:=gZ.mp (show(a.nm::ps.map (·.nm)).Nodup from nd);cases i with
   | zero=>
    have:a=p:=by simpa using h
    subst this;rw[uC,bL rfl]
   | succ i=>
    have h':ps[i]?=some p:=by simpa using h
    rw[uC,c8 (λe=>h1 (b7.mpr ⟨p,bQ h',e.symm⟩))];exact ih h2 h'
 rw[this];rfl
noncomputable def fC(st:HS)(sums:Da Int)(r:Row):Da Int:=List.zipWith (λold own=>old+(r.2*(bP st r.1).sc)*own) sums (bP st r.1).row
noncomputable def iW(st:HS)(rs:Da Row):Da Int:=rs.foldl (fC st) (st.bq.map λc=>bK rs*c)
noncomputable def kO(s:Int)(ts:Da Int):Int:=ts.foldl (λs t=>Jm.cf t s) s
noncomputable def iJ(st:HS)(kept:Int):Da Int:=st.ai.map λp=>p.sc*kept
noncomputable def fP(st:HS)(kept:Int)(added:Da Int):Da Int:=List.zipWith (λt m=>t*kept+m) st.bq added
noncomputable def cR(st:HS)(kept whole:Int)(added:Da Int):Int:=kO whole (iJ st kept++fP st kept added)
noncomputable def d9(st:HS)(s:Int):HS:=if 1<s then{ st with stp:=st.stp++[s],prod:=st.prod*s,kn:=0 } else st
noncomputable def bf(st:HS)(kept whole:Int)(added:Da Int):HS:=d9 { st with ai:=st.ai.map (λp=>{ p with sc:=p.sc*kept / cR st kept whole added }),bq:=(fP st kept added).map (· / cR st kept whole added),bU:=st.bU.map (·*(whole / cR st kept whole added)) } (whole / cR st kept whole added)
noncomputable def jM(ps:Da Pt)(x:Str)(a:Int):Da Pt:=(ps.map λp=>if p.nm=x then{ p with wo:=p.wo-a } else p).filter λp=>decide (p.wo≠0)
noncomputable def dJ(st:HS)(r:Row):HS:={ st with ai:=jM st.ai r.1 r.2 }
noncomputable def iw(st:HS)(rs:Da Row):HS:=rs.foldl dJ (bf st (aS st-bK rs) (aS st) (iW st rs))
inductive aiX(vs:Da V)(H:Hp)(Q:VK)(E:XK):Prop
 |mk(a:Int)(_:vs=[.int a])(_:1<=a)(_:Q .cI H)
def afj:Sp:=bx (aiX)
inductive aiY(vs:Da V)(H:Hp)(Q:VK)(E:XK):Prop
 |mk(m a:Int)(_:vs=[.int m,.int a])(_:1<=a)(_:a<=m)(_:Q .cI H)
def Yb:Sp:=bx (aiY)
inductive afk(K:Fg)(vs:Da V)(H:Hp)(Q:VK)(E:XK):Prop
 |mk(l:Addr)(us:Da V)(rs:Da Row)(_:vs=[.ref l])(_:aG K H l us)(_:gP H us rs)(_:(rs.map (·.1)).Nodup)(_:rs≠[])(_:rs.length<=1000)(_:∀d H',aJ H H'->H d=none->H' d=some (.dK (iD rs))->Q (.ref d) H')
def Ur(K:Fg):Sp:=bx (afk K)
inductive afl(K:Fg)(vs:Da V)(H:Hp)(Q:VK)(E:XK):Prop
 |mk(s:Int)(l:Addr)(ts:Da Int)(_:vs=[.int s,.ref l])(_:aG K H l (ts.map V.int))(_:0<=s)(_:(∀t∈ts,0<=t))(_:Q (.int (kO s ts)) H)
def Us(K:Fg):Sp:=bx (afl K)
inductive afm(T:TC)(vs:Da V)(H:Hp)(Q:VK)(E:XK):Prop
 |mk(n ρ A st s:_)(_:vs=[.ref A.bt,.int s])(_:Gh ρ H)(_:aI T n ρ A H st)(_:st.stp.length<=1000)(_:Jm.Sz 9000 st.prod)(_:Jm.Sz 9000 s)(_:∀ρ' A' H',Gh ρ' H'->aI T n ρ' A' H' (d9 st s:_)->A'.a=A.a->Fr n ρ H ρ' H'->Q .cI H')
def Ut(T:TC):Sp:=bx (afm T)
inductive abS(T:TC)(vs:Da V)(H:Hp)(Q:VK)(E:XK):Prop
 |mk(n ρ A st:_)(d:Addr)(rs:Da Row)(_:vs=[.ref A.a,.ref d])(_:aI T n ρ A H st)(_:Wf st)(_:H d=some (.dK (iD rs)))(_:ρ d=none)(_:rs.length<=1000)(_:(∀r∈rs,Jm.Sz 60 r.2/\∃p∈st.ai,p.nm=r.1))(_:∀l H',aJ H H'->H l=none->H' l=some (.lst ((iW st rs).map V.int))->Q (.ref l) H')
def Qh(T:TC):Sp:=bx (abS T)
inductive abT(T:TC)(K:Fg)(vs:Da V)(H:Hp)(Q:VK)(E:XK):Prop
 |mk(n ρ A st:_)(kept whole:Int)(l:Addr)(added:Da Int)(_:vs=[.ref A.a,.int kept,.int whole,.ref l])(_:HH T n ρ A H st)(_:aG K H l (added.map V.int))(_:added.length=st.bq.length)(_:0<kept)(_:0<whole)(_:Jm.Sz 60 kept)(_:Jm.Sz 60 whole)(_:(∀m∈added,0<=m/\Jm.Sz 8900 m))(_:(∀u∈st.bU,Jm.Sz 8900 u))(_:st.stp.length<100)(_:Wf (bf st kept whole added))(_:wW T n ρ A H (bf st kept whole added:_) λH'=>Q .cI H')
def FW(T:TC)(K:Fg):Sp:=bx (abT T K)
inductive afn(T:TC)(vs:Da V)(H:Hp)(Q:VK)(E:XK):Prop
 |mk(n ρ A st:_)(r:Row)(_:vs=[.ref A.a,.str r.1,.int r.2])(_:HH T n ρ A H st)(_:(∃p∈st.ai,p.nm=r.1/\r.2<=p.wo))(_:Wf (dJ st r))(_:wW T n ρ A H (dJ st r:_) λH'=>Q .cI H')
def LG(T:TC):Sp:=bx (afn T)
structure vA(st:HS)(rs:Da Row):Prop where
 nd:(rs.map (·.1)).Nodup
 ne:rs≠[]
 len:rs.length<=1000
 row:∀r∈rs,1<=r.2/\Jm.Sz 60 r.2/\∃p∈st.ai,p.nm=r.1/\r.2<=p.wo
 lost:bK rs<aS st
 big:Jm.Sz 60 (aS st)
 prod:Jm.Sz 7900 st.prod
 bU:∀u∈st.bU,Jm.Sz 8900 u
 stp:st.stp.length<100
inductive afo(T:TC)(K:Fg)(vs:Da V)(H:Hp)(Q:VK)(E:XK):Prop
 |mk(n ρ A st:_)(l:Addr)(us:Da V)(rs:Da Row)(_:vs=[.ref A.a,.ref l])(_:HH T n ρ A H st)(_:aG K H l us)(_:gP H us rs)(_:vA st rs)(_:wW T n ρ A H (iw st rs:_) λH'=>Q .cI H')
def Uu(T:TC)(K:Fg):Sp:=bx (afo T K)
theorem CO:∀{ps:Da Pt}{qs:Da (Addr×Addr×Addr)}{i:Nat}{p:Pt},(ps.map (·.nm)).Nodup->qs.length=ps.length->ps[i]?=some p->mV (bY ps qs) (Sum.inr p.nm)=bY (ps.eraseIdx i) (qs.eraseIdx i)
 | [],_,_,_,_,_,h=>by simp at h
 | _::_,[],_,_,_,hl,_=>by simp at hl
 | a::ps,b::qs,0,p,nd,hl,h=>by
  have e:a=p:=by simpa using h
  subst e;obtain⟨h1,h2⟩:=gZ.mp (show(a.nm::ps.map (·.nm)).Nodup from nd);show mV ((Sum.inr a.nm,V.ref b.1)::bY ps qs) (Sum.inr a.nm)=bY ps qs;unfold mV;rw[gk,aC (by simp)];refine KG.mpr λkv hkv=>?_;unfold bY at hkv;obtain⟨x,hx,y,hy,rfl⟩:=vt hkv;exact bL λz=>h1 (b7.mpr ⟨x,hx,rP z⟩)
 | a::ps,b::qs,i+1,p,nd,hl,h=>by
  obtain⟨h1,h2⟩:=gZ.mp (show(a.nm::ps.map (·.nm)).Nodup from nd);have h':ps[i]?=some p:=by simpa using h
  have ih:=CO h2 (by simpa using hl) h';show mV ((Sum.inr a.nm,V.ref b.1)::bY ps qs) (Sum.inr p.nm)=(Sum.inr a.nm,V.ref b.1)::bY (ps.eraseIdx i) (qs.eraseIdx i);rw[<-ih];unfold mV;have hne:¬ (Sum.inr a.nm:Key)=Sum.inr p.nm:=λz=>h1 (b7.mpr ⟨p,bQ h',(rP z).symm⟩);rw[gk,aB (by simpa using λe:a.nm=p.nm=>hne (by rw[e]))]
theorem CP:∀{ps:Da Pt}{i:Nat}{p:Pt}{a:Int},(ps.map (·.nm)).Nodup->(∀q∈ps,q.wo≠0)->ps[i]?=some p->jM ps p.nm a=if p.wo-a=0 then ps.eraseIdx i else ps.set i { p with wo:=p.wo-a }
 | [],_,_,_,_,_,h=>by simp at h
 | x::ps,0,p,a,nd,hw,h=>by
  have e:x=p:=by simpa using h
  subst e;obtain⟨h1,h2⟩:=gZ.mp (show(x.nm::ps.map (·.nm)).Nodup from nd);have Cl:jM ps x.nm a=ps:=by
   unfold jM;rw[show(ps.map λp=>if p.nm=x.nm then{ p with wo:=p.wo-a } else p)=ps from by
    conv=>rhs;rw[<-List.map_id ps]
    exact Cw λy hy=>aC λz=>h1 (b7.mpr ⟨y,hy,z⟩)]
   exact KG.mpr λy hy=>bL (hw y (cM _ hy))
  show((x::ps).map λp=>if p.nm=x.nm then{ p with wo:=p.wo-a } else p).filter _=_;rw[cO,aB rfl,gk];by_cases c:x.wo-a=0
  .rw [aB c,aC (by simp[c])];exact Cl
  .rw [aC c,aB (by simpa using c)];show _::jM ps x.nm a=_;rw[Cl];rfl
 | x::ps,i+1,p,a,nd,hw,h=>by
  obtain⟨h1,h2⟩:=gZ.mp (show(x.nm::ps.map (·.nm)).Nodup from nd);have h':ps[i]?=some p:=by simpa using h
  have ih:=CP (a:=a) h2 (λq hq=>hw q (cM _ hq)) h';have xn:¬ x.nm=p.nm:=λz=>h1 (b7.mpr ⟨p,bQ h',z.symm⟩);show((x::ps).map λq=>if q.nm=p.nm then{ q with wo:=q.wo-a } else q).filter _=_;rw[cO,aC xn,gk,aB (bL (hw x dg))];show x::jM ps p.nm a=_;rw[ih];by_cases c:p.wo-a=0
  .rw [aB c,aB c];rfl
  .rw [aC c,aC c];rfl
theorem sY{α:Type}:∀{l:Da α}{i:Nat}{x:α},l[i]?=some x->l.set i x=l
 | [],_,_,h=>by simp at h
 | a::l,0,x,h=>by
  have:a=x:=by simpa using h
  rw[this];rfl
 | a::l,i+1,x,h=>by rw[KJ,sY (by simpa using h)]
def AE{α β:Type}{l:Da α}{m:Da β}{x:α}{y:β}(h1:(l.eraseIdx i)[j]?=some x)(h2:(m.eraseIdx i)[j]?=some y):∃k:Nat,l[k]?=some x/\m[k]?=some y:=by
 rw[List.getElem?_eraseIdx]at h1 h2;by_cases c:j<i
 .rw [aB c]at h1 h2;exact⟨j,h1,h2⟩
 .rw [aC c]at h1 h2;exact⟨j+1,h1,h2⟩
theorem AF:∀(ts:Da Int)(s:Int),kO s ts∣s/\∀t∈ts,kO s ts∣t
 | [],s=>⟨Int.dvd_refl _,λ_ h=>absurd h (by simp)⟩
 | t::ts,s=>by
  obtain⟨h1,h2⟩:=AF ts (Jm.cf t s);refine⟨Int.dvd_trans h1 (Jm.pT t s),λu hu=>?_⟩;rcases b_.mp hu with rfl|hu
  .exact Int.dvd_trans h1 (Jm.xG u s)
  .exact h2 u hu
theorem AG:∀(ts:Da Int)(s:Int),0<s->0<kO s ts
 | [],_,h=>h
 | t::ts,s,h=>AG ts _ (Jm.La t s (.inr h))
def AH{n:Nat}(h:aI T n ρ A H st)(g:Gh ρ H)(c:ρ a=none)(e:H a=some o)(ht:isTup o=false):aI T n (cy ρ a (n,t,⟨#[]⟩)) A H st/\Gh (cy ρ a (n,t,⟨#[]⟩)) H:=⟨h.same ⟨λ_ _ e=>e,λb u x w _ hc he=>⟨he,by rw[aP (λz=>by rw[z,c]at hc;cases hc)];exact hc⟩⟩,g.color e ht⟩
def Fr.oE{n:Nat}(f:Fr n ρ H ρ' H')(h:H a=none):Fr n ρ H (cy ρ' a (n,t,x)) H':=λb o e k=>by obtain⟨e1,e2⟩:=f b o e k;exact⟨e1,by rw[aP (aA e h)];exact e2⟩
theorem Ic{d a b:Int}(hd:0<d)(h:a<=d*b):a / d<=b:=by
 have:=Int.ediv_le_ediv hd h
 rwa [Fi _ (by omega)]at this
theorem Ek{s:Int}(h:1<=s):(d9 st s).prod=st.prod*s:=by
 unfold d9;by_cases c:1<s
 .rw [aB c]
 .rw [aC c,show s=1 by omega,Int.mul_one]
def o8(st:HS)(s:Int):(d9 st s).ai=st.ai:=by unfold d9;split <;> rfl
def Ie(st:HS)(s:Int):(d9 st s).bq=st.bq:=by unfold d9;split <;> rfl
def Ig(st:HS)(s:Int):(d9 st s).bU=st.bU:=by unfold d9;split <;> rfl
def sZ(st:HS)(s:Int):(d9 st s).own=st.own:=by unfold d9;split <;> rfl
def w_(st:HS)(s:Int):(d9 st s).nms=st.nms:=by unfold d9;split <;> rfl
def s_(st:HS)(s:Int):(d9 st s).dO=st.dO:=by unfold d9;split <;> rfl
theorem xg{α β γ:Type}{f:α->β->γ}{t:γ}:∀{xs:Da α}{ys:Da β},t∈List.zipWith f xs ys->∃(i:Nat)(x:α)(y:β),xs[i]?=some x/\ys[i]?=some y/\t=f x y:=λ{xs ys} h=>by
 obtain⟨i,hi,e⟩:=uX h;rw[jE]at hi;have h1:i<xs.length:=by omega
 have h2:i<ys.length:=by omega
 exact⟨i,xs[i],ys[i],bu h1,bu h2,by rw[<-e,List.getElem_zipWith]⟩
def ZO{α β γ:Type}{f:α->β->γ}{xs:Da α}{ys:Da β}{x:α}{y:β}(h1:xs[i]?=some x)(h2:ys[i]?=some y):(List.zipWith f xs ys)[i]?=some (f x y):=by rw[Rl,h1,h2]
def CQ{a b c:Int}(h:a<=b)(hc:0<=c):a*c<=b*c:=Int.mul_le_mul_of_nonneg_right h hc
structure qR(st:HS)(kept whole lost:Int)(added:Da Int):Prop where
 k:0<kept
 l:0<=lost
 w:whole=kept+lost
 len:added.length=st.bq.length
 add:∀m∈added,0<=m/\m<=lost*st.prod
 prod:Jm.Sz 7900 st.prod
 big:Jm.Sz 60 whole
 bU:∀u∈st.bU,Jm.Sz 8900 u
 stp:st.stp.length<100
variable {lost:Int}{added:Da Int}
theorem qR.dvds{kept whole:Int}(b:qR st kept whole lost added):0<cR st kept whole added/\cR st kept whole added∣whole/\(∀p∈st.ai,cR st kept whole added∣p.sc*kept)/\∀c∈fP st kept added,cR st kept whole added∣c:=by
 have hw:0<whole:=by have:=b.k;have:=b.l;have:=b.w;omega
 have d:=AF (iJ st kept++fP st kept added) whole;exact⟨AG _ _ hw,d.1,λp hp=>d.2 _ (yv _ (b7.mpr ⟨p,hp,Z⟩)),λc hc=>d.2 _ (iQ _ hc)⟩
theorem yZ{kept whole:Int}(wf:Wf st)(b:qR st kept whole lost added):Wf (bf st kept whole added):=by
 obtain⟨hs,hsw,sQ,hsc⟩:=b.dvds;have hk:=b.k;have hl:=b.l;have hw:=b.w;have p1:=wf.gu;have eB:bf st kept whole added=d9 { st with ai:=st.ai.map (λp=>{ p with sc:=p.sc*kept / cR st kept whole added }),bq:=(fP st kept added).map (· / cR st kept whole added),bU:=st.bU.map (·*(whole / cR st kept whole added)) } (whole / cR st kept whole added):=rfl;rw[eB];generalize cR st kept whole added=d at *;obtain⟨s,es⟩:=hsw;have hs1:1<=s:=by
  rcases Int.lt_trichotomy s 0 with z|z|z
  .have:=Int.mul_neg_of_pos_of_neg hs z;omega
  .rw [z,Bw]at es;omega
  .omega
 have ed:whole / d=s:=by rw[es,Fi _ (by omega)]
 rw[ed];have amg:s<=whole:=by rw[es];have:=Int.mul_le_mul_of_nonneg_right (show 1<=d by omega) (show 0<=s by omega);omega
 have zs:Jm.Sz 60 s:=b.big.of_le (by omega);have zp:Jm.Sz 8000 (st.prod*s):=(b.prod.mul zs).mono (by decide);have pp:st.prod<=st.prod*s:=by have:=Ky hs1 (show 0<=st.prod by omega);omega
 have WJ:∀c∈(fP st kept added).map (· / d),0<=c/\c<=st.prod*s:=λc hc=>by
  obtain⟨x,hx,rfl⟩:=b7.mp hc;obtain⟨i,t,m,et,em,rfl⟩:=xg (show x∈List.zipWith (λt m=>t*kept+m) st.bq added from hx);have ht:=wf.oq t (bQ et);have hm:=b.add m (bQ em);have a1:0<=t*kept:=rN ht.1 (by omega);have a2:t*kept<=st.prod*kept:=CQ ht.2 (by omega);have a3:st.prod*kept+lost*st.prod=d*(st.prod*s):=by rw[wL lost,<-yG,<-hw,es,<-jX,<-jX,wL st.prod d]
  exact⟨Kg (by omega) (by omega),Ic hs (by omega)⟩
 have sc':∀p∈st.ai,1<=p.sc*kept / d/\p.sc*kept / d<=st.prod*s/\d*(p.sc*kept / d)=p.sc*kept:=λp hp=>by
  have h0:=wf.sW p hp;obtain⟨z,ez⟩:=sQ p hp;have a1:0<p.sc*kept:=Int.mul_pos (by omega) hk;have ez':p.sc*kept / d=z:=by rw[ez,Fi _ (by omega)]
  have hz:1<=z:=by
   rcases Int.lt_trichotomy z 0 with y|y|y
   .have:=Int.mul_neg_of_pos_of_neg hs y;omega
   .rw [y,Bw]at ez;omega
   .omega
  have a2:p.sc*kept<=st.prod*kept:=CQ h0.2 (by omega);have a3:st.prod*kept<=st.prod*whole:=Ky (by omega) (by omega);have a4:st.prod*whole=d*(st.prod*s):=by rw[es,<-jX,<-jX,wL st.prod d]
  refine⟨by rw[ez'];exact hz,Ic hs (by omega),by rw[ez',ez]⟩
 have P:∀{M:Pt->Prop},(∀p∈st.ai,M { p with sc:=p.sc*kept / d })->∀p∈st.ai.map (λp=>{ p with sc:=p.sc*kept / d }),M p:=λh p hp=>by obtain⟨x,hx,rfl⟩:=b7.mp hp;exact h x hx
 have top':∀p∈st.ai,∀t∈List.zipWith (λr c=>(p.sc*kept / d)*r+c) p.row ((fP st kept added).map (· / d)),0<=t/\t<=st.prod*s:=λp hp t ht=>by
  obtain⟨i,r,c,er,ec,rfl⟩:=xg ht;rw[cu]at ec;obtain⟨x,ex,rfl⟩:=kH.mp ec;obtain⟨y,ey⟩:=hsc x (bQ ex);have eyd:x / d=y:=by rw[ey,Fi _ (by omega)]
  have ex':(List.zipWith (λt m=>t*kept+m) st.bq added)[i]?=some x:=ex;rw[Rl]at ex';cases e1:st.bq[i]? with
  | none=>rw[e1]at ex';simp at ex'
  | some t0=>
   cases e2:added[i]? with
   | none=>rw[e1,e2]at ex';simp at ex'
   | some m=>
    rw[e1,e2]at ex';have ex2:t0*kept+m=x:=by simpa using ex'
    have hm:=b.add m (bQ e2);have hT:=wf.p5 p hp (p.sc*r+t0) (bQ (ZO (f:=λr c=>p.sc*r+c) er e1));have hz:=(sc' p hp).2.2;have key:d*((p.sc*kept / d)*r+x / d)=(p.sc*r+t0)*kept+m:=by rw[yG,<-jX,hz,eyd,<-ey,<-ex2];rw[wM,jX,jX,wL kept r];omega
    have k1:0<=(p.sc*r+t0)*kept:=rN hT.1 (by omega);have k2:(p.sc*r+t0)*kept<=st.prod*kept:=CQ hT.2 (by omega);have a3:st.prod*kept+lost*st.prod=d*(st.prod*s):=by rw[wL lost,<-yG,<-hw,es,<-jX,<-jX,wL st.prod d]
    generalize (p.sc*kept / d)*r+x / d=W at *;constructor
    .rcases Int.lt_or_le W 0 with z|z
     .have:=Int.mul_neg_of_pos_of_neg hs z;omega
     .exact z
    .have:d*W<=d*(st.prod*s):=by omega
     exact Int.le_of_mul_le_mul_left this hs
 have nm':(st.ai.map (λp:Pt=>{ p with sc:=p.sc*kept / d })).map (λp:Pt=>p.nm)=st.ai.map (λp:Pt=>p.nm):=by rw[fk];rfl
 have e0:(fP st kept added).length=st.bq.length:=by unfold fP;rw[jE,b.len];omega
 have pu':∀u∈st.bU.map (·*s),Jm.Sz 9000 u:=λu hu=>by obtain⟨x,hx,rfl⟩:=b7.mp hu;exact((b.bU x hx).mul zs).mono (by decide)
 have abU:∀p∈st.ai,∀r∈p.row,-(st.prod*s)<=r/\r<=st.prod*s:=λp hp r hr=>by have:=wf.oz p hp r hr;omega
 unfold d9;by_cases c:1<s
 .rw [aB c];refine⟨wf.jV,wf.yT,by rw[nm'];exact wf.dN,P wf.sub,P wf.rows,P wf.ow,?_,?_,by show 1<=st.prod*s;omega,?_,λx hx=>?_,wf.j9,wf.yU,?_,?_,wf.vm,fm _,zp,WJ,P λp hp=>⟨(sc' p hp).1,(sc' p hp).2.1⟩,P abU,P top',P wf.kG,pu'⟩
  .show (List.map _ (fP st kept added)).length=_;rw[aF,e0,wf.eZ]
  .show (List.map _ st.bU).length=_;rw[aF,wf.mD]
  .show st.prod*s=(st.stp++[s]).foldl (·*·) 1;rw[ZM,<-wf.pZ]
  .rcases fW.mp (show x∈st.stp++[s]from hx)with z|z
   .exact wf.vj x z
   .rw [eO.mp z];omega
  .show (List.map _ st.ai).length<=1000;rw[aF];exact wf.kM
  .show (st.stp++[s]).length<=100;rw[cX];exact b.stp
 .rw [aC c];have e1:s=1:=by omega
  subst e1;rw[Int.mul_one]at WJ sc' abU top';refine⟨wf.jV,wf.yT,by rw[nm'];exact wf.dN,P wf.sub,P wf.rows,P wf.ow,?_,?_,wf.gu,wf.pZ,wf.vj,wf.j9,wf.yU,?_,wf.AB,wf.vm,wf.HY,wf.big,WJ,P λp hp=>⟨(sc' p hp).1,(sc' p hp).2.1⟩,P wf.oz,P λp hp t ht=>?_,P wf.kG,pu'⟩
  .show (List.map _ (fP st kept added)).length=_;rw[aF,e0,wf.eZ]
  .show (List.map _ st.bU).length=_;rw[aF,wf.mD]
  .show (List.map _ st.ai).length<=1000;rw[aF];exact wf.kM
  .exact top' p hp t ht
noncomputable def y9(st:HS)(Ap:Da Int)(rs:Da Row):Da Int:=rs.foldl (λs r=>List.zipWith (λx t=>x+r.2*t) s (aX st (bP st r.1))) Ap
theorem Ih:∀(Ap bq row:Da Int)(a sc L:Int),List.zipWith (λold own=>old+(a*sc)*own) (List.zipWith (λs c=>s+(a+L)*c) Ap bq) row=List.zipWith (λs c=>s+L*c) (List.zipWith (λx t=>x+a*t) Ap (List.zipWith (λr c=>sc*r+c) row bq)) bq
 | [],_,_,_,_,_=>by simp
 | _::_,[],_,_,_,_=>by simp
 | _::_,_::_,[],_,_,_=>by simp
 | x::Ap,c::bq,r::row,a,sc,L=>by
  simp only[Fj];rw[Ih Ap bq row a sc L];congr 1
  grind
theorem LH{st:HS}:∀(rs:Da Row)(Ap:Da Int),rs.foldl (fC st) (List.zipWith (λs c=>s+bK rs*c) Ap st.bq)=List.zipWith (λs c=>s+0*c) (y9 st Ap rs) st.bq
 | [],Ap=>by show List.zipWith _ Ap st.bq=_;rfl
 | r::rs,Ap=>by
  rw[iH];have e:fC st (List.zipWith (λs c=>s+bK (r::rs)*c) Ap st.bq) r=List.zipWith (λs c=>s+bK rs*c) (List.zipWith (λx t=>x+r.2*t) Ap (aX st (bP st r.1))) st.bq:=by unfold fC;rw[show bK (r::rs)=r.2+bK rs from by unfold bK;rw[cO,fY]];exact Ih Ap st.bq (bP st r.1).row r.2 (bP st r.1).sc (bK rs)
  rw[e,LH rs];rfl
theorem Ii:∀(l:Da Int)(L:Int),List.zipWith (λs c=>s+L*c) (List.replicate l.length 0) l=l.map λc=>L*c
 | [],_=>rfl
 | x::l,L=>by rw[jz,Cv,Fj,Ii l L,Int.zero_add];rfl
theorem LI:∀(s l:Da Int),s.length<=l.length->List.zipWith (λs c=>s+0*c) s l=s
 | [],_,_=>by simp
 | _::_,[],h=>by simp at h
 | x::s,c::l,h=>by rw[Fj,LI s l (by simpa using h),By,Int.add_zero]
theorem AI{st:HS}:∀(rs:Da Row)(Ap:Da Int),(∀r∈rs,(aX st (bP st r.1)).length=Ap.length)->(y9 st Ap rs).length=Ap.length
 | [],_,_=>rfl
 | r::rs,Ap,h=>by
  have e:(List.zipWith (λx t=>x+r.2*t) Ap (aX st (bP st r.1))).length=Ap.length:=by rw[jE,h r dg];omega
  show(y9 st (List.zipWith (λx t=>x+r.2*t) Ap (aX st (bP st r.1))) rs).length=_;rw[AI rs _ (λx hx=>by rw[e];exact h x (cM _ hx)),e]
theorem Cm{st:HS}(hP:0<=st.prod):∀(rs:Da Row)(Ap:Da Int)(B:Int),(∀r∈rs,0<=r.2/\∀t∈aX st (bP st r.1),0<=t/\t<=st.prod)->(∀x∈Ap,0<=x/\x<=B)->∀x∈y9 st Ap rs,0<=x/\x<=B+bK rs*st.prod
 | [],Ap,B,_,ha,x,hx=>by have:=ha x hx;show 0<=x/\x<=B+0*st.prod;omega
 | r::rs,Ap,B,h,ha,x,hx=>by
  have hr:=h r dg;have:=Cm hP rs (List.zipWith (λx t=>x+r.2*t) Ap (aX st (bP st r.1))) (B+r.2*st.prod) (λy hy=>h y (cM _ hy)) (λy hy=>by obtain⟨i,a,t,ea,et,rfl⟩:=xg hy;have h1:=ha a (bQ ea);have h2:=hr.2 t (bQ et);have h3:0<=r.2*t:=rN hr.1 h2.1;have h4:r.2*t<=r.2*st.prod:=Ky h2.2 hr.1;omega) x hx
  rw[show bK (r::rs)=r.2+bK rs from by unfold bK;rw[cO,fY],wM];omega
theorem y_(wf:Wf st)(h:p∈st.ai):(aX st p).length=st.bq.length:=by unfold aX;rw[jE,wf.rows p h,wf.eZ];omega
def d_(wf:Wf st)(h:p∈st.ai)(e:p.nm=x):bP st x=p:=by obtain⟨i,hi,ei⟩:=uX h;rw[<-e];exact FU wf.dN (i:=i) (by rw[bu hi,ei])
def Ij(wf:Wf st)(h:∀r∈rs,∃p∈st.ai,p.nm=r.1):iW st rs=y9 st (List.replicate st.bq.length 0) rs:=by
 unfold iW;rw[<-Ii st.bq (bK rs),LH];refine LI _ _ ?_;rw[AI rs _ (λr hr=>by obtain⟨p,hp,e⟩:=h r hr;rw[d_ wf hp e,mh,y_ wf hp]),mh]
 exact aK _
theorem Uv(wf:Wf st)(h:∀r∈rs,1<=r.2/\∃p∈st.ai,p.nm=r.1):(iW st rs).length=st.bq.length/\∀m∈iW st rs,0<=m/\m<=bK rs*st.prod:=by
 rw[Ij wf (λr hr=>(h r hr).2)];have p1:=wf.gu;constructor
 .rw [AI rs _ (λr hr=>by obtain⟨p,hp,e⟩:=(h r hr).2;rw[d_ wf hp e,mh,y_ wf hp]),mh]
 .intro m hm;have:=Cm (st:=st) (by omega) rs (List.replicate st.bq.length 0) 0 (λr hr=>by obtain⟨h1,p,hp,e⟩:=h r hr;refine⟨by omega,?_⟩;rw[d_ wf hp e];exact wf.p5 p hp) (λx hx=>by rw[(List.mem_replicate.mp hx).2];omega) m hm
  omega
def R8{ps:Da Pt}{a:Int}(h:p∈ps)(hn:p.nm≠x)(hw:p.wo≠0):p∈jM ps x a:=yx.mpr ⟨b7.mpr ⟨p,h,by rw[aC hn]⟩,bL hw⟩
def zb{ps:Da Pt}{a:Int}(h:p∈jM ps x a):p.wo≠0/\∃q∈ps,p=if q.nm=x then{ q with wo:=q.wo-a } else q:=by obtain⟨h1,h2⟩:=yx.mp h;obtain⟨q,hq,e⟩:=b7.mp h1;exact⟨eE h2,q,hq,e.symm⟩
def uG{ps:Da Pt}{a:Int}:((jM ps x a).map (λp:Pt=>p.nm)).Sublist (ps.map (λp:Pt=>p.nm)):=by
 unfold jM;have e:(ps.map λp=>if p.nm=x then{ p with wo:=p.wo-a } else p).map (λp:Pt=>p.nm)=ps.map (λp:Pt=>p.nm):=by rw[fk];exact Cw λp _=>by show(if p.nm=x then _ else p:Pt).nm=p.nm;split <;> rfl
 rw[<-e];exact List.filter_sublist.map _
theorem FY(wf:Wf st){r:Row}(h:∀p∈st.ai,p.nm=r.1->r.2<=p.wo):Wf (dJ st r):=by
 have P:∀{M:Pt->Prop},(∀p∈st.ai,M p)->(∀(p:Pt)(w:Int),M p->M { p with wo:=w })->∀p∈jM st.ai r.1 r.2,M p:=λh1 h2 p hp=>by
  obtain⟨_,q,hq,e⟩:=zb hp;rw[e];split
  .exact h2 _ _ (h1 q hq)
  .exact h1 q hq
 refine⟨wf.jV,wf.yT,wf.dN.sublist uG,P wf.sub (λ_ _ z=>z),P wf.rows (λ_ _ z=>z),P wf.ow (λ_ _ z=>z),wf.eZ,wf.mD,wf.gu,wf.pZ,wf.vj,wf.j9,wf.yU,?_,wf.AB,wf.vm,wf.HY,wf.big,wf.oq,P wf.sW (λ_ _ z=>z),P wf.oz (λ_ _ z=>z),P wf.p5 (λ_ _ z=>z),λp hp=>?_,wf.FJ⟩
 .have:=uG (ps:=st.ai) (x:=r.1) (a:=r.2) |>.length_le;rw[aF,aF]at this;exact gD this wf.kM
 .obtain ⟨h0,q,hq,e⟩:=zb hp;have:=wf.kG q hq;by_cases c:q.nm=r.1
  .rw [aB c]at e;subst e;have:=h q hq c;have h0:q.wo-r.2≠0:=h0;exact⟨by show 1<=q.wo-r.2;omega,by show 0<=q.we;omega⟩
  .rw [aC c]at e;rw[e];exact this
def Due(st:HS)(rs:Da Row):Prop:=∀r∈rs,∃p∈st.ai,p.nm=r.1/\r.2<=p.wo
def uP(wf:Wf st){q:Pt}(hp:p∈st.ai)(hq:q∈st.ai)(e:p.nm=q.nm):p=q:=(d_ wf hp rfl).symm.trans (by rw[e];exact d_ wf hq rfl)
def Uw(wf:Wf st){r:Row}(d:Due st (r::rs)):Wf (dJ st r):=by obtain⟨p,hp,e,hle⟩:=d r dg;exact FY wf λq hq eq=>by rw[uP wf hq hp (eq.trans e.symm)];exact hle
theorem LJ(wf:Wf st){r:Row}(d:Due st (r::rs))(nd:((r::rs).map (λr:Row=>r.1)).Nodup):Due (dJ st r) rs:=λx hx=>by obtain⟨p,hp,e,hle⟩:=d x (cM _ hx);have hn:p.nm≠r.1:=λz=>(gZ.mp nd).1 (b7.mpr ⟨x,hx,e.symm.trans z⟩);have:=wf.kG p hp;exact⟨p,R8 hp hn (by omega),e,hle⟩
theorem LK:∀{rs:Da Row}{st:HS},Wf st->Due st rs->(rs.map (λr:Row=>r.1)).Nodup->Wf (rs.foldl dJ st)
 | [],_,wf,_,_=>wf
 | r::rs,st,wf,d,nd=>show Wf (rs.foldl dJ (dJ st r))from LK (Uw wf d) (LJ wf d nd) (gZ.mp nd).2
def Ik{kept whole:Int}(d:Due st rs):Due (bf st kept whole added) rs:=λr hr=>by obtain⟨p,hp,e,hle⟩:=d r hr;refine⟨{ p with sc:=p.sc*kept / cR st kept whole added },?_,e,hle⟩;unfold bf;rw[o8];exact b7.mpr ⟨p,hp,Z⟩
def vA.due(c:vA st rs):Due st rs:=λr hr=>(c.row r hr).2.2
theorem CS:∀{rs:Da Row},(∀r∈rs,1<=r.2)->0<=bK rs
 | [],_=>lO _
 | r::rs,h=>by have:=h r dg;have:=CS (rs:=rs) λx hx=>h x (cM _ hx);rw[show bK (r::rs)=r.2+bK rs from by unfold bK;rw[cO,fY]];omega
theorem vA.blend(wf:Wf st)(c:vA st rs):qR st (aS st-bK rs) (aS st) (bK rs) (iW st rs):=by have g:=Uv wf (rs:=rs) (λr hr=>⟨(c.row r hr).1,by obtain⟨p,hp,e,_⟩:=(c.row r hr).2.2;exact⟨p,hp,e⟩⟩);have l0:=CS (rs:=rs) λr hr=>(c.row r hr).1;have:=c.lost;exact⟨by omega,l0,by omega,g.1,g.2,c.prod,c.big,c.bU,c.stp⟩
def ZP(wf:Wf st)(c:vA st rs):Wf (iw st rs):=LK (yZ wf (c.blend wf)) (Ik c.due) c.nd
structure R9(K:Fg)(H:Hp)(us:Da V)(ws:Da Row):Prop where
 len:us.length=ws.length
 at_:∀(i:Nat)(r:Row),ws[i]?=some r->∃a xs,us[i]?=some (.ref a)/\Sq K H a xs/\xs[0]?=some (.str r.1)/\xs[2]?=some (.int r.2)
theorem AJ:∀{l:Da Str}{o:Str},o∈l->l[l.idxOf o]?=some o
 | [],_,h=>by simp at h
 | x::l,o,h=>by
  by_cases e:x=o
  .subst e;simp
  .have ho:o∈l:=by
    rcases b_.mp h with z|z
    .exact absurd z.symm e
    .exact z
   rw[List.idxOf_cons,show(x==o)=false from Cu.mpr e];simpa using AJ ho
inductive aiZ(K:Fg)(vs:Da V)(H:Hp)(Q:VK)(E:XK):Prop
 |mk(l:Addr)(us:Da V)(ws:Da Row)(i:Nat)(r:Row)(_:vs=[.ref l,.str r.1])(_:aG K H l us)(_:R9 K H us ws)(_:(ws.map (λr:Row=>r.1)).Nodup)(_:ws.length<=1000)(_:ws[i]?=some r)(_:Q (.int (i:Int)) H)
def Yc(K:Fg):Sp:=bx (aiZ K)
structure Ux(ws rs:Da Row):Prop where
 nd:(rs.map (λr:Row=>r.1)).Nodup
 row:∀r∈rs,1<=r.2/\r.2<=1000000000/\∃w∈ws,w.1=r.1/\r.2<=w.2
 lost:bK rs<bK ws\/rs=[]
 len:rs.length<=ws.length
inductive abV(K:Fg)(vs:Da V)(H:Hp)(Q:VK)(E:XK):Prop
 |mk(a l:Addr)(ns:Da Int)(k:Int)(us:Da V)(ws:Da Row)(_:vs=[.ref a,.int k,.ref l])(_:aG K H a (ns.map V.int))(_:ns.length<=63)(_:0<=k)(_:k<=1000000)(_:aG K H l us)(_:R9 K H us ws)(_:(ws.map (λr:Row=>r.1)).Nodup)(_:ws.length<=1000)(_:(∀w∈ws,1<=w.2))(_:∀z zs rs H',aJ H H'->H z=none->H' z=some (.lst zs)->gP H' zs rs->Ux ws rs->Q (.ref z) H')
def Qi(K:Fg):Sp:=bx (abV K)
section
variable {X:Cx}
noncomputable def vB(i j k:Int):Int:=if j<i then(if k<j then k else j) else(if k<i then k else i)
theorem ZQ(i j k:Int):vB i j k<=i/\vB i j k<=j/\vB i j k<=k:=by unfold vB;split <;> split <;> omega
theorem ZR{i j k m:Int}(h1:m<=i)(h2:m<=j)(h3:m<=k):m<=vB i j k:=by unfold vB;split <;> split <;> omega
def Uy(hc:X.calm=true):i_ X (.builtin "min") (λxs H Q=>∃i j k,xs=[.int i,.int j,.int k]/\Q (.int (vB i j k)) H):=by
 intro AC s σ H xs us Q I r h;obtain⟨i,j,k,rfl,q⟩:=h;obtain⟨u,us,rfl,⟨t,rfl⟩,r2⟩:∃u us',us=u::us'/\RelV (.int i) u/\Vals [.int j,.int k] us':=by cases r with|cons a b=>exact⟨_,_,rfl,a,b⟩
 obtain⟨u2,u3,rfl,⟨t',rfl⟩,⟨t'',rfl⟩⟩:=vals2 r2;refine min_three_ints (I.ok.hd hc) λh' tk kk=>⟨_,H,I.kept kk,?_,q⟩
 unfold vB;by_cases hj:j<i
 .rw [aB hj,aB hj];by_cases hk:k<j
  .rw [aB hk,aB hk];exact⟨_,Z⟩
  .rw [aC hk,aC hk];exact⟨_,Z⟩
 .rw [aC hj,aC hj];by_cases hk:k<i
  .rw [aB hk,aB hk];exact⟨_,Z⟩
  .rw [aC hk,aC hk];exact⟨_,Z⟩
end
noncomputable def gQ(rs:Da Row)(x:Str):Int:=((rs.find? λr=>decide (r.1=x)).map (λr:Row=>r.2)).getD 0
def AK(x:Str):gQ [] x=0:=rfl
def p_(r:Row)(rs:Da Row)(x:Str):gQ (r::rs) x=if r.1=x then r.2 else gQ rs x:=by
 unfold gQ;rw[uC];by_cases c:r.1=x
 .rw [bL c,aB c];rfl
 .rw [c8 c,aC c]
theorem ze:∀{rs:Da Row}{x:Str},x∉rs.map (λr:Row=>r.1)->gQ rs x=0
 | [],_,_=>rfl
 | r::rs,x,h=>by rw[p_,aC (λe=>h (by rw[cO,e];exact dg))];exact ze λm=>h (by rw[cO];exact cM _ m)
theorem zf:∀{rs:Da Row}{r:Row}{x:Str},r.1∉rs.map (λr:Row=>r.1)->gQ (rs++[r]) x=if r.1=x then r.2 else gQ rs x
 | [],r,x,_=>by rw[Ke,p_]
 | y::rs,r,x,h=>by
  rw[cO]at h;have h1:r.1≠y.1:=λe=>h (by rw[e];exact dg);rw[Kc,p_,zf (λm=>h (cM _ m)),p_];by_cases c:y.1=x
  .rw [aB c,aB c,aC (λe=>h1 (e.trans c.symm))]
  .rw [aC c,aC c]
abbrev Q4:=Str×Str×Int×Int
noncomputable def bD(st:HS):Da Q4:=st.ai.map λp=>(p.nm,p.ow,p.wo,p.we)
noncomputable def rW(qs:Da Q4)(r:Row):Da Q4:=(qs.map λq=>if q.1=r.1 then(q.1,q.2.1,q.2.2.1-r.2,q.2.2.2) else q).filter λq=>decide (q.2.2.1≠0)
noncomputable def qa(rs:Da Row)(qs:Da Q4):Da Q4:=(qs.map λq=>(q.1,q.2.1,q.2.2.1-gQ rs q.1,q.2.2.2)).filter λq=>decide (0<q.2.2.1)
def Uz(st:HS)(r:Row):bD (dJ st r)=rW (bD st) r:=by
 unfold bD dJ jM rW;generalize st.ai=ps;show List.map _ (List.filter _ (List.map _ ps))=_
 induction ps with
 | nil=>rfl
 | cons p ps ih=>
  rw[cO,cO,cO];by_cases c:p.nm=r.1
  .rw [aB c,aB (show(p.nm,p.ow,p.wo,p.we).1=r.1 from c),gk,gk];by_cases d:p.wo-r.2=0
   .rw [aC (by simpa using d),aC (by simpa using d),ih]
   .rw [aB (by simpa using d),aB (by simpa using d),cO,ih]
  .rw [aC c,aC (show ¬ (p.nm,p.ow,p.wo,p.we).1=r.1 from c),gk,gk];by_cases d:p.wo=0
   .rw [aC (by simpa using d),aC (by simpa using d),ih]
   .rw [aB (by simpa using d),aB (by simpa using d),cO,ih]
def El(st:HS)(kept whole:Int)(added:Da Int):bD (bf st kept whole added)=bD st:=by unfold bD bf;rw[o8,fk];rfl
theorem Em:∀(rs:Da Row)(st:HS),bD (rs.foldl dJ st)=rs.foldl rW (bD st)
 | [],_=>rfl
 | r::rs,st=>by rw[iH,iH,Em rs,Uz]
theorem En:∀(qs:Da Q4)(r:Row)(rs:Da Row),r.1∉rs.map (λr:Row=>r.1)->(∀q∈qs,1<=q.2.2.1)->(∀q∈qs,q.1=r.1->r.2<=q.2.2.1)->qa rs (rW qs r)=qa (r::rs) qs
 | [],_,_,_,_,_=>rfl
 | q::qs,r,rs,hn,h1,h2=>by
  have ih:=En qs r rs hn (λx hx=>h1 x (cM _ hx)) (λx hx=>h2 x (cM _ hx));have w1:=h1 q dg;have e1:rW (q::qs) r=(if q.1=r.1 then(if q.2.2.1-r.2=0 then[] else[(q.1,q.2.1,q.2.2.1-r.2,q.2.2.2)]) else[q])++rW qs r:=by
   unfold rW;rw[cO,gk];by_cases c:q.1=r.1
   .rw [aB c,aB c];by_cases d:q.2.2.1-r.2=0
    .rw [aB d,aC (by simpa using d)];rfl
    .rw [aC d,aB (by simpa using d)];rfl
   .rw [aC c,aC c,aB (bL (show q.2.2.1≠0 by omega))];rfl
  have e2:∀(us:Da Row)(x:Q4)(l:Da Q4),qa us (x::l)=(if 0<x.2.2.1-gQ us x.1 then[(x.1,x.2.1,x.2.2.1-gQ us x.1,x.2.2.2)] else[])++qa us l:=λus x l=>by
   unfold qa;rw[cO,gk];by_cases c:0<x.2.2.1-gQ us x.1
   .rw [aB c,aB (bL c)];rfl
   .rw [aC c,aC (by simpa using c)];rfl
  rw[e1,e2 (r::rs),p_];by_cases c:q.1=r.1
  .have am:gQ rs q.1=0:=by rw[c];exact ze hn
   have le:=h2 q dg c;rw[aB c,aB c.symm];by_cases d:q.2.2.1-r.2=0
   .rw [aB d,aC (by omega),<-ih];rfl
   .rw [aC d,aB (by omega),<-ih,Kc,Ke,e2 rs];show(if 0<q.2.2.1-r.2-gQ rs q.1 then[(q.1,q.2.1,q.2.2.1-r.2-gQ rs q.1,q.2.2.2)] else[])++_=_;rw[am,Int.sub_zero,aB (by omega)]
  .rw [aC c,show(if r.1=q.1 then r.2 else gQ rs q.1)=gQ rs q.1 from aC (λz=>c z.symm),<-ih,Kc,Ke,e2 rs]
def Il{qs:Da Q4}{r:Row}{x:Q4}(h:x∈rW qs r):x.2.2.1≠0/\∃q∈qs,x=if q.1=r.1 then(q.1,q.2.1,q.2.2.1-r.2,q.2.2.2) else q:=by obtain⟨h1,h2⟩:=yx.mp h;obtain⟨q,hq,e⟩:=b7.mp h1;exact⟨eE h2,q,hq,e.symm⟩
theorem Im:∀(rs:Da Row)(qs:Da Q4),(rs.map (λr:Row=>r.1)).Nodup->(∀q∈qs,1<=q.2.2.1)->(∀r∈rs,∀q∈qs,q.1=r.1->r.2<=q.2.2.1)->rs.foldl rW qs=qa rs qs
 | [],qs,_,h1,_=>by
  show qs=qa [] qs;unfold qa
  induction qs with
  | nil=>rfl
  | cons q qs ih=>have:=h1 q dg;rw[cO,gk,aB (bL (show 0<q.2.2.1-gQ [] q.1 by rw[AK];omega)),<-ih (λx hx=>h1 x (cM _ hx)) (λr hr=>absurd hr (by simp)),AK,Int.sub_zero]
 | r::rs,qs,nd,h1,h2=>by
  obtain⟨n1,n2⟩:=gZ.mp (show(r.1::rs.map (λr:Row=>r.1)).Nodup from nd);rw[iH,Im rs (rW qs r) n2 ?_ ?_]
  .exact En qs r rs n1 h1 (h2 r dg)
  .intro x hx;obtain⟨a,q,hq,e⟩:=Il hx;have:=h1 q hq;by_cases c:q.1=r.1
   .rw [aB c]at e;have:=h2 r dg q hq c;rw[e]at a ⊢;have a:q.2.2.1-r.2≠0:=a;show 1<=q.2.2.1-r.2;omega
   .rw [aC c]at e;rw[e];exact this
  .intro y hy x hx ex;obtain⟨_,q,hq,e⟩:=Il hx;by_cases c:q.1=r.1
   .rw [aB c]at e;rw[e]at ex;exact absurd (b7.mpr ⟨y,hy,ex.symm.trans c⟩) n1
   .rw [aC c]at e;rw[e]at ex ⊢;exact h2 y (cM _ hy) q hq ex
def LL(st:HS)(rs:Da Row):(iw st rs).own=st.own:=by
 unfold iw;have:∀(rs:Da Row)(s:HS),(rs.foldl dJ s).own=s.own:=λrs=>by
  induction rs with
  | nil=>intro s;rfl
  | cons r rs ih=>intro s;rw[iH,ih];rfl
 rw[this];unfold bf;rw[sZ]
theorem o_:∀(rs:Da Row)(s:HS),rs.foldl dJ s={ s with ai:=(rs.foldl dJ s).ai }
 | [],_=>rfl
 | r::rs,s=>by rw[iH,o_ rs (dJ s r)];rfl
theorem zg{f:Int->Int->Int}(hf:f 0 0=0){xs ys:Da Int}(h:xs.length=ys.length)(j:Nat):(List.zipWith f xs ys).getD j 0=f (xs.getD j 0) (ys.getD j 0):=by
 rw[nE,nE,nE,Rl];by_cases c:j<xs.length
 .rw [bu c,bu (by omega)];rfl
 .rw [Ct (by omega),Ct (by omega)];exact hf.symm
theorem UA{st st':HS}{kept whole:Int}{added:Da Int}(wf:Wf st)(bl:qR st kept whole lost added)(ec:st'.bq=(bf st kept whole added).bq)(ep:st'.prod=(bf st kept whole added).prod){p':Pt}(hp:p∈st.ai)(e2:p'.row=p.row)(e3:p'.sc=p.sc*kept / cR st kept whole added){t0 gB B:Int}{j:Nat}(tj:t0*st.prod=(aX st p).getD j 0*B)(eB:gB*st.prod=added.getD j 0*B):(t0*kept+gB)*st'.prod=(aX st' p').getD j 0*(B*whole):=by
 obtain⟨hd,hdw,hds,hdc⟩:=bl.dvds
 have ai0:st'.bq=(fP st kept added).map (· / cR st kept whole added):=by rw[ec];unfold bf;rw[Ie]
 have s1:1<=whole / cR st kept whole added:=by
  have w1:0<whole:=by have:=bl.l;have:=bl.w;have:=bl.k;omega
  have:=Int.le_of_dvd w1 hdw;exact Int.le_ediv_of_mul_le hd (by omega)
 have Yd:st'.prod=st.prod*(whole / cR st kept whole added):=by rw[ep];unfold bf;rw[Ek s1]
 have hds:=hds p hp
 have hrl:=wf.rows p hp
 have hcl:=wf.eZ
 have gl:=bl.len
 have ewd:cR st kept whole added*(whole / cR st kept whole added)=whole:=Int.mul_ediv_cancel' hdw
 have a5:cR st kept whole added*p'.sc=p.sc*kept:=by rw[e3];exact Int.mul_ediv_cancel' hds
 rw[Yd]
 clear ec ep Yd e3 bl hdw hds s1
 generalize cR st kept whole added=d at *
 have etop:d*(aX st' p').getD j 0=(aX st p).getD j 0*kept+added.getD j 0:=by
  have a1:(aX st' p').getD j 0=p'.sc*p.row.getD j 0+((fP st kept added).map (· / d)).getD j 0:=by unfold aX;rw[ai0,e2,zg (f:=λr c=>p'.sc*r+c) (by show p'.sc*0+0=0;omega)];rw[aF];unfold fP;rw[jE,gl,hrl,hcl];omega
  have a2:(aX st p).getD j 0=p.sc*p.row.getD j 0+st.bq.getD j 0:=by unfold aX;exact zg (f:=λr c=>p.sc*r+c) (by show p.sc*0+0=0;omega) (by rw[hrl,hcl]) j
  have a3:(fP st kept added).getD j 0=st.bq.getD j 0*kept+added.getD j 0:=by unfold fP;exact zg (f:=λt m=>t*kept+m) (by show(0:Int)*_+0=0;omega) gl.symm j
  have a4:d*((fP st kept added).map (· / d)).getD j 0=(fP st kept added).getD j 0:=by
   rw[nE,nE,cu];cases ec:(fP st kept added)[j]? with
   | none=>show _*0=(0:Int);omega
   | some x=>exact Int.mul_ediv_cancel' (hdc x (bQ ec))
  rw[a1,yG,<-jX,a5,a4,a3,a2]
  grind
 generalize whole / d=UB at *
 generalize (aX st' p').getD j 0=T' at *
 generalize (aX st p).getD j 0=T at *
 generalize added.getD j 0=gS at *
 refine Int.eq_of_mul_eq_mul_left (a:=d) (by omega) ?_
 have l1:d*((t0*kept+gB)*(st.prod*UB))=(t0*st.prod*kept+gB*st.prod)*(d*UB):=by grind
 have l2:d*(T'*(B*whole))=(d*T')*(B*whole):=by grind
 rw[l1,l2,ewd,tj,eB,etop]
 grind
theorem Co{α:Type}(f:α->Int)(k:Int):∀l:Da α,(l.map λx=>f x*k).sum=(l.map f).sum*k
 | []=>by simp
 | a::l=>by rw[cO,cO,fY,fY,Co f k l,wM]
theorem xJ:∀{l:Da Int}{i:Nat}{x:Int},i<l.length->(l.set i (l.getD i 0+x)).sum=l.sum+x
 | a::l,0,x,_=>by rw[Rw,fY,fY];show a+x+_=_;omega
 | a::l,i+1,x,h=>by rw[KJ,fY,fY];have:=xJ (l:=l) (i:=i) (x:=x) (by simpa using h);have e:(a::l).getD (i+1) 0=l.getD i 0:=rfl;rw[e,this];omega
 | [],_,_,h=>by simp at h
theorem Qj(k:Int):∀{ts gs:Da Int},ts.length=gs.length->(List.zipWith (λt g=>t*k+g) ts gs).sum=ts.sum*k+gs.sum
 | [],[],_=>by simp
 | t::ts,g::gs,h=>by have:=Qj k (ts:=ts) (gs:=gs) (by simpa using h);rw[Fj,fY,fY,fY,this,wM];omega
 | [],_::_,h=>by simp at h
 | _::_,[],h=>by simp at h
def ZS(st:HS)(rs:Da Row):(iw st rs).kn<=st.kn:=by
 unfold iw;rw[o_];show(bf st (aS st-bK rs) (aS st) (iW st rs)).kn<=st.kn;unfold bf d9;split
 .exact fm _
 .exact aK _
def LM(n:Nat):(List.replicate n (0:Int)).sum=0:=by
 induction n with
 | zero=>rfl
 | succ n ih=>rw[Cv,fY,ih];rfl
theorem jN:∀(l:Da Str)(st:HS),st.ai=[]->(∀u∈st.bU,u=0)->(l.foldl aV st).ai=[]/\(l.foldl aV st).nms=st.nms/\(l.foldl aV st).stp=st.stp/\(l.foldl aV st).prod=st.prod/\(l.foldl aV st).dO=st.dO/\∀u∈(l.foldl aV st).bU,u=0
 | [],_,h,hp=>⟨h,Z,Z,Z,Z,hp⟩
 | o::l,st,h,hp=>by
  rw[iH];exact jN l (aV st o) (by show st.ai.map _=[];rw[h];rfl) (λu hu=>by
   rcases fW.mp (show u∈st.bU++[0]from hu)with z|z
   .exact hp u z
   .exact eO.mp z)
def vC(K:Fg)(ρ:bR)(H:Hp)(z:Addr)(xs:Da V):Prop:=∀(ρ':bR)(H':Hp),aJ (out ρ H) (out ρ' H')->aG K H' z xs
def vC.of(h:aG K H z xs):vC K (λ_=>none) H z xs:=λρ' H' s=>by
 rcases h with(h|⟨o,h⟩)|h
 .exact .inl (.inl (bF (s _ _ (cD h rfl))).1)
 .exact .inl (.inr ⟨o,(bF (s _ _ (cD h rfl))).1⟩)
 .exact .inr h
def vC.go(h:vC K ρ H z xs)(s:aJ (out ρ H) (out ρ' H')):vC K ρ' H' z xs:=λ_ _ s'=>h _ _ (s.trans s')
def aG.outs(h:aG K H z xs)(c:ρ z=none)(s:aJ (out ρ H) (out ρ' H')):aG K H' z xs:=by
 rcases h with(h|⟨o,h⟩)|h
 .exact .inl (.inl (bF (s _ _ (cD h c))).1)
 .exact .inl (.inr ⟨o,(bF (s _ _ (cD h c))).1⟩)
 .exact .inr h
theorem HH.other{n:Nat}(h:HH T n ρ A H st)(f:Fr m ρ H ρ' H')(g:Gh ρ' H')(e:n≠m):HH T n ρ' A H' st:=⟨g,h.h.other f h.g e,h.wf⟩
theorem LN:∀(l:Da Str)(st:HS),(l.foldl aV st).kn=st.kn
 | [],_=>rfl
 | o::l,st=>by rw[iH,LN l];rfl
structure eG(K:Fg)(x:Str)(st:Stmt):Prop where
 ex:∃(f:Addr)(oc:Value)(od an:Option Addr)(sl:Array (Option Value))(kV dc pm cd ct:Value),PySem.W.nsIn K mainGlobals x=some (some (.ref f))/\K.lookup f=some ⟨oc,od,.func (PySem.W.fnOf x x (fj st) (cV st) (aD st) .none kV dc pm an cd ct),sl⟩/\PySem.W.codeIn K cd x=true/\PySem.W.keepIn K (.ref f)=true
def eG.at{st:Stmt}(d:eG K x st)(X:K.In h)(G:h.Ns mainGlobals mg):∃f fd,At K mg x st f fd:=by obtain⟨f,oc,od,an,sl,kV,dc,pm,cd,ct,a,l,c,k⟩:=d.ex;exact⟨f,_,XZ X G a l c k⟩
structure c_(K:Fg)(C:Addr)(n qual:Str)(st:Stmt):Prop where
 ex:∃(f:Addr)(oc:Value)(od an:Option Addr)(sl:Array (Option Value))(kV dc pm cd ct:Value),PySem.W.findIn K (.ref C) n=some (some (.ref f))/\PySem.W.isFn K (.ref f)=true/\K.lookup f=some ⟨oc,od,.func (PySem.W.fnOf n qual (fj st) (cV st) (aD st) .none kV dc pm an cd ct),sl⟩/\PySem.W.codeIn K cd qual=true/\PySem.W.keepIn K (.ref f)=true
def c_.at{n:Str}{st:Stmt}(d:c_ K C n qual st)(cl:pR K C):∃f fd,gF K C n qual st f fd:=by obtain⟨f,oc,od,an,sl,kV,dc,pm,cd,ct,a,i,l,c,k⟩:=d.ex;exact⟨f,_,K_ l c k,⟨a,i,k⟩,cl⟩
def c_.made{st:Stmt}(d:c_ K C "__init__" qual st)(X:K.In h)(G:h.Ns mainGlobals mg)(a0:PySem.W.nsIn K mainGlobals x=some (some (.ref C)))(m:PySem.W.makesIn K C=true)(kc:PySem.W.keepIn K (.ref C)=true):∃f fd,HV K mg x C qual st f fd:=by obtain⟨f,oc,od,an,sl,kV,dc,pm,cd,ct,a,i,l,c,k⟩:=d.ex;exact⟨f,_,K_ l c k,⟨m,a,i,kc⟩,yD X G a0⟩
variable {oc pm ct:Value}{od an:Option Addr}{sl:Array (Option Value)}
def eG.of{st:Stmt}{kV dc cd:Value}(a:PySem.W.nsIn K mainGlobals x=some (some (.ref f)))(l:K.lookup f=some ⟨oc,od,.func (PySem.W.fnOf x x (fj st) (cV st) (aD st) .none kV dc pm an cd ct),sl⟩)(c:PySem.W.codeIn K cd x=true)(k:PySem.W.keepIn K (.ref f)=true):eG K x st:=⟨⟨_,_,_,_,_,_,_,_,_,_,a,l,c,k⟩⟩
def c_.of{n:Str}{st:Stmt}{kV dc cd:Value}(a:PySem.W.findIn K (.ref C) n=some (some (.ref f)))(i:PySem.W.isFn K (.ref f)=true)(l:K.lookup f=some ⟨oc,od,.func (PySem.W.fnOf n qual (fj st) (cV st) (aD st) .none kV dc pm an cd ct),sl⟩)(c:PySem.W.codeIn K cd qual=true)(k:PySem.W.keepIn K (.ref f)=true):c_ K C n qual st:=⟨⟨_,_,_,_,_,_,_,_,_,_,a,i,l,c,k⟩⟩
section
variable {X:Cx}
variable {o i:Expr}{pos:Pos}{td ty:TE}
end
section
variable {a b:Da Nat}{m v:Int}(ha:pV a)(hb:pV b)(hm:1<=m)(hm2:m<=1000000000)(hv:0<=v)(hv2:v<=1000000000)
include ha hb hm hm2 hv hv2 in
end
section
variable {X:Cx}
end
section
variable {X:Cx}
end
def Trc(h:Heap)(x T C:Addr):Prop:=∃oe vs a0 oT ts,h.get? x=some oe/\oe.cls =.ref C/\vs[0]?=some a0/\oe.data =.fields vs/\vs[1]?=some (.ref T)/\T≠x/\h.get? T=some oT/\oT.data =.fields ts/\ts[3]?=some .none
noncomputable def jD(P:Program)(w:World):zT:=λouter H s E e s'=>∃(x T C:Addr)(H':Hp),e =.ref x/\s'.os=s.os/\AllBare s'.gens/\Un (frs outer) [] H H' s.heap s'.heap/\ig P w H' s'.heap/\Trc s'.heap x T C/\s.heap.get? x=none/\s.heap.get? T=none/\H' x=none/\H' T=none/\E e (some C) H'
variable {h':Heap}
def ig.UC{w:World}(x:ig P w H h)(k:∀b o u,H b=some o->h.get? b=some u->h'.get? b=some u):ig P w H h':=λa o e=>
 (x a o e).stay (λb u hb q=>by
  rcases hb with rfl|hb
  .exact k _ _ _ e q
  .exact k _ _ _ hb q) (λ_ q=>q) λ_ _ q=>q
def e_.isAt{w:World}(x:e_ P w H h a o):∃u,h.get? a=some u:=by
 cases o with
 | lst xs=>obtain⟨_,_,_,_,e⟩:=x;exact⟨_,e⟩
 | tup xs=>obtain⟨_,_,_,p⟩:=x;obtain⟨o,e,_⟩:=p;exact⟨_,e⟩
 | dK AT=>obtain⟨_,_,_,_,o,_,_,e,_⟩:=x;exact⟨_,e⟩
 | dT AT=>obtain⟨_,_,_,_,o,_,_,e,_⟩:=x;exact⟨_,e⟩
 | set S n=>obtain⟨o,_,_,_,e,_⟩:=x;exact⟨_,e⟩
 | ins C dx fs=>obtain⟨_,_,_,e,_⟩:=x;exact⟨_,e⟩
 | own y=>obtain⟨_,e⟩:=x;exact⟨_,e⟩
 | xd fs=>obtain⟨_,⟨_,_,_,e,_⟩,_⟩:=x;exact⟨_,e⟩
 | wN lo hi=>obtain⟨_,_,_,e⟩:=x;exact⟨_,e⟩
 | eX ob u=>obtain⟨e,_⟩:=x;exact⟨_,e⟩
 | Hu ps=>exact⟨_,(show h.get? a=some _ from x)⟩
 | met f y=>exact⟨_,(show h.get? a=some _ from x)⟩
 | ext φ=>obtain⟨_,⟨_,e⟩,_⟩:=x;exact⟨_,e⟩
section
variable {P:Program}{w:World}{K:Fg}{mg:SO}{base:Heap}{N:Da Str}{qual:Str}{scope:Scope}{f:Addr}{cd:Value}{A:Around}{outer:Da Env}{s0:Shared}{H0:Hp}{E:XK}{CX:zT}
def Qk{x:Addr}{a0:Value}{B:Heap}(I:Inv (dM CX P w K mg base N qual scope f cd A outer s0 H0 E) AC σ H s)(hB:∀b o,s.heap.get? b=some o->b∉frs (envOfC qual scope s0.heap.objs.size f cd::outer)->s0.heap.get? b≠none\/H b≠none->B.get? b=some o)(hfl:Heap.FlyingW B outer x (.ref C) a0 h')(hup:s.heap.UpToSlots h')(hx:s0.heap.get? x=none)(Cp:H x=none)(q:E (.ref x) (some C) H):jD P w outer H0 s0 E (.ref x) { s with heap:=h' }:=by
 obtain⟨st,bx,fr,oe,vs,T,oT,ts,h1,⟨h2,h3⟩,h4,h5,h6,h7,h8,h9,uy⟩:=hfl
 have Kr:T∉frs outer:=λm=>by obtain⟨_,o,ho,hd⟩:=fr.mem m;rw[h8]at ho;cases ho;exact hd _ h9
 have L0:s0.heap.get? s0.heap.objs.size=none:=Heap.get?_none_of_le (aK _)
 have big:∀b o,s0.heap.get? b=some o->b∉frs outer->b∉frs (envOfC qual scope s0.heap.objs.size f cd::outer):=λb o e n m=>by
  have m':b∈s0.heap.objs.size::frs outer:=m;rcases b_.mp m' with z|z
  .rw [z,L0]at e;cases e
  .exact n z
 have hT0:s0.heap.get? T=none:=by
  cases e:s0.heap.get? T with
  | none=>rfl
  | some o=>obtain⟨o',ho'⟩:=I.base.there T o e (by simp[dM]);have:=hB T o' ho' (big T o e Kr) (.inl (by rw[e];exact λz=>nomatch z));rw[h6]at this;cases this
 have AL:H T=none:=by
  cases e:H T with
  | none=>rfl
  | some o=>
   have lt:=I.hok.lt e;have nst:T∉frs (envOfC qual scope s0.heap.objs.size f cd::outer):=λm=>by have:=I.xZ T m;rw[e]at this;cases this
   have hob:∃u,s.heap.get? T=some u:=(I.hok T o e).isAt;obtain⟨u,hu⟩:=hob;have:=hB T u hu nst (.inr (by rw[e];exact λz=>nomatch z));rw[h6]at this;cases this
 refine⟨x,T,C,H,Z,I.os,I.bare,⟨λb o e n nf _=>?_,λb o e n m _=>?_,λb o e n _=>?_,λb o e _=>?_,I.base.tups,I.base.pN,I.base.tN⟩,?_,⟨oe,vs,a0,oT,ts,h1,h2,h3,h4,h5,h7,h8,h9,uy⟩,hx,hT0,Cp,AL,q⟩
 . exact st b o (hB b o (I.base.keep b o e n nf (by simp[dM])) (big b o e nf) (.inl (by rw[e];exact λz=>nomatch z)))
 . obtain⟨sl,hs⟩:=I.base.slot b o e n m (by simp[dM])
   have fr0:=I.ok.n_
   obtain⟨_,o',ho',hd'⟩:=fr0.mem m
   obtain⟨SX,hs'⟩:=hup b _ hs (λvs z=>by have ho2:s0.heap.get? b=some o':=ho';rw[e]at ho2;cases ho2;exact hd' vs z)
   exact⟨SX,hs'⟩
 . exact I.base.free b o e n (by simp[dM])
 . obtain⟨o',ho'⟩:=I.base.there b o e (by simp[dM])
   by_cases m:b∈frs outer
   . have fr0:=I.ok.n_
     obtain⟨_,o2,ho2,hd2⟩:=fr.mem m
     exact⟨o2,ho2⟩
   . exact⟨o',st b o' (hB b o' ho' (big b o e m) (.inl (by rw[e];exact λz=>nomatch z)))⟩
 . exact I.hok.UC λb o u e hu=>st b u (hB b u hu (λm=>by have:=I.xZ b m;rw[e]at this;cases this) (.inr (by rw[e];exact λz=>nomatch z)))
def WK{x T:Addr}(I:Inv (dM (jD P w) P w K mg base N qual scope f cd A outer s0 H0 E) AC σ H s)(t:Trc s.heap x T C)(hx:s0.heap.get? x=none)(hT:s0.heap.get? T=none)(Cp:H x=none)(AL:H T=none)(q:E (.ref x) (some C) H):(dM (jD P w) P w K mg base N qual scope f cd A outer s0 H0 E).xe (.ref x) s:=by
 obtain⟨oe,vs,a0,oT,ts,h1,h2,h3,h4,h5,h6,h7,h8,h9⟩:=t
 have hst:=I.stack
 have WL:s.heap.FunFrames base (envOfC qual scope s0.heap.objs.size f cd::outer):=hst
 have hin:∀env∈(envOfC qual scope s0.heap.objs.size f cd::outer),∀b,env.frame=some b->b∈x::T::frs (envOfC qual scope s0.heap.objs.size f cd::outer):=λenv he b hb=>cM _ (cM _ (Cy.mpr ⟨env,he,hb⟩))
 refine wpAny_leaves_onW (base:=PySem.W.hideAll s.heap (x::T::frs (envOfC qual scope s0.heap.objs.size f cd::outer))) (L:=s0.heap.objs.size) (cls:=.ref C) (a0:=a0) (outer:=outer) I.ok.frames rfl ⟨λb o e=>Rr _ e,KD _ dg,PySem.W.funFrames_hide WL hin,oe,vs,T,oT,ts,h1,⟨h2,h3⟩,h4,h5,KD _ (cM _ dg),h6,h7,h8,h9⟩ λh' fl up=>?_
 refine Qk I (λb o e n hb=>Rp _ e λm=>?_) fl up hx Cp q
 rcases b_.mp m with z|m
 . rw[z]at hb
   rcases hb with hb|hb
   . exact hb hx
   . exact hb Cp
 . rcases b_.mp m with z|m
   . rw[z]at hb
     rcases hb with hb|hb
     . exact hb hT
     . exact hb AL
   . exact n m
def afp:Passes (jD P w) (dM (jD P w) P w K mg base N qual scope f cd A outer s0 H0 E) E:=λAC σ H s e s' I h=>by
 obtain⟨x,T,C,H',rfl,os,bare,un,hok,t,hx,hT,Cp,AL,q⟩:=h;have I':Inv (dM (jD P w) P w K mg base N qual scope f cd A outer s0 H0 E) AC σ H' s':=I.DH (ch:=[]) os un hok bare (λb z=>absurd z (by simp));have old:∀b,s.heap.get? b=none->s0.heap.get? b=none:=λb e=>by
  cases q:s0.heap.get? b with
  | none=>rfl
  | some o=>obtain⟨o',ho'⟩:=I.base.there b o q (by simp[dM]);rw[e]at ho';cases ho'
 exact WK I' t (old x hx) (old T hT) Cp AL q
def R_{x:Addr}{args:Da Value}(I:Inv (dM (jD P w) P w K mg base N qual scope f cd A outer s0 H0 E) AC σ H s)(hm:Heap.MadeExcOf s.heap h1 x (.ref C) args)(q:E (.ref x) (some C) H):(dM (jD P w) P w K mg base N qual scope f cd A outer s0 H0 E).xe (.ref x) { s with heap:=h1 }:=by
 have WL:s.heap.FunFrames base (envOfC qual scope s0.heap.objs.size f cd::outer):=I.stack
 have hin:∀env∈(envOfC qual scope s0.heap.objs.size f cd::outer),∀b,env.frame=some b->b∈frs (envOfC qual scope s0.heap.objs.size f cd::outer):=λenv he b hb=>Cy.mpr ⟨env,he,hb⟩
 have I1:Inv (dM (jD P w) P w K mg base N qual scope f cd A outer s0 H0 E) AC σ H { s with heap:=h1 }:=I.kept (t':=s.toks) hm.keeps
 have Cp:H x=none:=by
  cases e:H x with
  | none=>rfl
  | some o=>obtain⟨u,hu⟩:=(I.hok x o e).isAt;rw[hm.new]at hu;cases hu
 have hx0:s0.heap.get? x=none:=by
  cases e:s0.heap.get? x with
  | none=>rfl
  | some o=>obtain⟨o',ho'⟩:=I.base.there x o e (by simp[dM]);rw[hm.new]at ho';cases ho'
 refine wpAny_leaves_madeW (base:=PySem.W.hideAll s.heap (frs (envOfC qual scope s0.heap.objs.size f cd::outer))) (h:=s.heap) (L:=s0.heap.objs.size) (outer:=outer) I.ok.frames rfl (λb o e=>Rr _ e) (PySem.W.funFrames_hide WL hin) hm λh' t fl _ _ up=>?_
 refine Qk I1 (λb o e n hb=>Rp _ ?_ n) fl up hx0 Cp q
 rcases hb with hb|hb
 . cases e0:s0.heap.get? b with
   | none=>exact absurd e0 hb
   | some o0=>
     obtain⟨o',ho'⟩:=I.base.there b o0 e0 (by simp[dM])
     have e':h1.get? b=some o:=e
     have:=hm.keeps b o' ho'
     rw[e']at this;cases this
     exact ho'
 . cases e0:H b with
   | none=>exact absurd e0 hb
   | some o0=>
     obtain⟨o',ho'⟩:=(I.hok b o0 e0).isAt
     have e':h1.get? b=some o:=e
     have:=hm.keeps b o' ho'
     rw[e']at this;cases this
     exact ho'
end
noncomputable def abY:Da Value:=[.type "ValueError",.type "Exception",.type "BaseException",.type "object"]
structure qb(K:Fg)(C:Addr):Prop where
 ex:∃(nm q:Str)(N:Addr)(bs bm:Da Value)(hdct:Bool)(sn:Da Str)(sub:Da Value)(ab:Bool)(col:Option Bool)(dd:Option Addr)(k0 k1 k2 k3 k5:Option Value)(mN:SO),mN "__init__"=none/\bm.contains (.type "BaseException")=true/\∀h:Heap,K.In h->
  h.get? C=some (excClassObj nm q C N bs bm hdct sn sub ab col dd k0 k1 k2 k3 k5 "ValueError.__new__")/\h.Ns N mN/\OwnTail h abY bm
section
variable {P:Program}{w:World}{K:Fg}{mg:SO}{base:Heap}{N:Da Str}{qual:Str}{scope:Scope}{f:Addr}{cd:Value}{A:Around}{outer:Da Env}{s0:Shared}{H0:Hp}{E:XK}
def abZ(C:Addr)(E:XK):TS:=λ_ _ H=>∀x,E (.ref x) (some C) H
end
def ai1(h:Heap)(x T C:Addr)(fl:Value):Prop:=∃oe vs a0 oT ts,h.get? x=some oe/\oe.cls =.ref C/\vs[0]?=some a0/\oe.data =.fields vs/\vs[1]?=some (.ref T)/\T≠x/\h.get? T=some oT/\oT.data =.fields ts/\ts[3]?=some fl
structure yh(X:Cx)(AC:AO)(σ:St)(Hc:Hp)(sc:Shared)(H:Hp)(x C:Addr)(fl:Value)(s:Shared):Prop where
 ic:Inv X AC σ Hc sc
 os:s.os=sc.os
 bare:AllBare s.gens
 un:Un (frs X.stack) [] Hc H sc.heap s.heap
 hok:ig X.prog X.w H s.heap
 nx:sc.heap.get? x=none
 hx:H x=none
 tr:∃T,ai1 s.heap x T C fl/\sc.heap.get? T=none/\H T=none
variable {M:Model}{Q:Unit->Shared->Prop}
section
variable {X:Cx}{AC:AO}{σ:St}{Hc H:Hp}{sc s:Shared}{x C:Addr}{fl:Value}
def yh.inv(F:yh X AC σ Hc sc H x C fl s):Inv X AC σ H s:=F.ic.DH (ch:=[]) F.os F.un F.hok F.bare (λb z=>absurd z (by simp))
def yh.step{B:Heap}{fl' a0:Value}(F:yh X AC σ Hc sc H x C fl s)(hB:∀b o,s.heap.get? b=some o->b∉frs X.stack->sc.heap.get? b≠none\/H b≠none->B.get? b=some o)(st:B.StaysIn h')(fr:h'.FunFrames B X.stack)(tr:h'.TracedAtW B x (.ref C) a0 fl')(up:s.heap.UpToSlots h'):yh X AC σ Hc sc H x C fl' { s with heap:=h' }:=by
 have I:=F.inv
 obtain⟨oe,vs,T,oT,ts,h1,⟨h2,h3⟩,h4,h5,h6,h7,h8,h9,uy⟩:=tr
 have Kr:T∉frs X.stack:=λm=>by obtain⟨_,o,ho,hd⟩:=fr.mem m;rw[h8]at ho;cases ho;exact hd _ h9
 have hT0:sc.heap.get? T=none:=by
  cases e:sc.heap.get? T with
  | none=>rfl
  | some o=>obtain⟨o',ho'⟩:=F.un.there T o e (by simp);have:=hB T o' ho' Kr (.inl (by rw[e];exact λz=>nomatch z));rw[h6]at this;cases this
 have AL:H T=none:=by
  cases e:H T with
  | none=>rfl
  | some o=>obtain⟨u,hu⟩:=(F.hok T o e).isAt;have:=hB T u hu Kr (.inr (by rw[e];exact λz=>nomatch z));rw[h6]at this;cases this
 refine⟨F.ic,F.os,F.bare,⟨λb o e n nf _=>?_,λb o e n m _=>?_,F.un.free,λb o e _=>?_,F.un.tups,F.un.pN,F.un.tN⟩,?_,F.nx,F.hx,T,⟨oe,vs,a0,oT,ts,h1,h2,h3,h4,h5,h7,h8,h9,uy⟩,hT0,AL⟩
 . exact st b o (hB b o (F.un.keep b o e n nf (by simp)) nf (.inl (by rw[e];exact λz=>nomatch z)))
 . obtain⟨sl,hs⟩:=F.un.slot b o e n m (by simp)
   obtain⟨_,o',ho',hd'⟩:=F.ic.stack.mem m
   obtain⟨SX,hs'⟩:=up b _ hs (λvs z=>by rw[e]at ho';cases ho';exact hd' vs z)
   exact⟨SX,hs'⟩
 . obtain⟨o',ho'⟩:=F.un.there b o e (by simp)
   by_cases m:b∈frs X.stack
   . obtain⟨_,o2,ho2,hd2⟩:=fr.mem m
     exact⟨o2,ho2⟩
   . exact⟨o',st b o' (hB b o' ho' m (.inl (by rw[e];exact λz=>nomatch z)))⟩
 . exact F.hok.UC λb o u e hu=>st b u (hB b u hu (λm=>by have:=I.xZ b m;rw[e]at this;cases this) (.inr (by rw[e];exact λz=>nomatch z)))
def yh.hid(F:yh X AC σ Hc sc H x C fl s):∃(a0:Value)(B:Heap),(∀b o,s.heap.get? b=some o->b∉frs X.stack->sc.heap.get? b≠none\/H b≠none->B.get? b=some o)/\B.StaysIn s.heap/\B.get? x=none/\s.heap.FunFrames B X.stack/\s.heap.TracedAtW B x (.ref C) a0 fl:=by
 obtain⟨T,⟨oe,vs,a0,oT,ts,h1,h2,h3,h4,h5,h6,h7,h8,h9⟩,hT,AL⟩:=F.tr;have hin:∀env∈X.stack,∀b,env.frame=some b->b∈x::T::frs X.stack:=λenv he b hb=>cM _ (cM _ (Cy.mpr ⟨env,he,hb⟩));refine⟨a0,PySem.W.hideAll s.heap (x::T::frs X.stack),λb o e n hb=>Rp _ e λm=>?_,λb o e=>Rr _ e,KD _ dg,PySem.W.funFrames_hide F.inv.stack hin,oe,vs,T,oT,ts,h1,⟨h2,h3⟩,h4,h5,KD _ (cM _ dg),h6,h7,h8,h9⟩;rcases b_.mp m with z|m
 .rw [z]at hb;rcases hb with hb|hb
  .exact hb F.nx
  .exact hb F.hx
 .rcases b_.mp m with z|m
  .rw [z]at hb;rcases hb with hb|hb
   .exact hb hT
   .exact hb AL
  .exact n m
def WM{A:Around}(F:yh X AC σ Hc sc H x C .none s)(hA:A.frames=some X.stack)(hs:X.stack=X.env::X.outer)(hf:X.env.frame=some X.env.locals)(h:∀s',yh X AC σ Hc sc H x C (rawInt X.env.locals) s'->Q () s'):wpAny M A (noteFrame (.ref x) X.env) Q E s:=by
 obtain⟨a0,B,hB,st,bx,fr,tr⟩:=F.hid
 rw[hs]at fr hA
 refine wpAny_looks_onW (base:=B) hA hf ⟨st,bx,fr,tr⟩ λh' hh up=>?_
 obtain⟨k1,k2,k3,k4⟩:=hh
 rw[<-hs]at k3
 exact h _ (F.step hB k1 k3 k4 up)
def LO{A:Around}(F:yh X AC σ Hc sc H x C fl s)(h:∀s',yh X AC σ Hc sc H x C .none s'->Q () s'):wpAny M A (setFlight (.ref x) none) Q E s:=by
 obtain⟨a0,B,hB,st,bx,fr,tr⟩:=F.hid
 refine wpAny_setFlight_noneW (base:=B) st fr tr λh' k1 k2 k3 k4=>h _ (F.step hB k1 k2 k3 λb o hb hn=>⟨o.slots,k4 b o hb hn⟩)
end
section
variable {X:Cx}{AC:AO}{σ:St}{Hc H:Hp}{sc s:Shared}{x C:Addr}{fl:Value}
abbrev Cx.held(X:Cx)(x:Addr):Cx:={ X with A:=X.A.mark (some (.ref x)),calm:=false }
theorem Inv.held(I:Inv X AC σ H s)(x:Addr):Inv (X.held x) AC σ H s:=⟨⟨I.ok.mod,I.ok.kind,I.ok.glob,I.ok.blt,I.ok.above,I.ok.inj,I.ok.has,I.ok.ff,(λz=>nomatch z),I.ok.frames,I.ok.stk,I.ok.DF,I.ok.bs,I.ok.DG,I.ok.Fy,I.ok.Ae,I.ok.n_,I.ok.Hv⟩,I.os,I.bare,I.base,I.loc,I.cell,I.free,I.lP,I.pin,I.hok,I.len⟩
end
def FX(X:Cx)(AC:AO)(R:Addr->St->Hp->Prop)(ev:Value)(s:Shared):Prop:=∃x C σ Hc sc H',ev =.ref x/\yh X AC σ Hc sc H' x C .none s/\R C σ H'
abbrev TX:=Ends->(Addr->St->Hp->Prop)->St->Hp->Prop
def PX(X:Cx)(st:Da Stmt)(t:TX):Prop:=∀(AC:AO)(s:Shared)(σ:St)(H:Hp)(D:Ends)(R:Addr->St->Hp->Prop),Inv X AC σ H s->t D R σ H->wpAny (model X.prog X.w) X.A (execs st X.env) (SP X AC D) (FX X AC R) s
section
variable {X:Cx}{AC:AO}{σ:St}{Hc H:Hp}{sc s:Shared}{x C:Addr}{fl:Value}
def Inv.Eo(I':Inv (X.held x) AC σ H s)(ok:X.Ok):Inv X AC σ H s:=⟨ok,I'.os,I'.bare,I'.base,I'.loc,I'.cell,I'.free,I'.lP,I'.pin,I'.hok,I'.len⟩
end
open PySem.W PySem.Calls Builtin.ObjectAttr Builtin.Getset_descriptor
section
variable {prog:Program}{w:World}{A:Around}{E:VS}{h:Heap}{g:Array GenState}{d:Drawn}{t:Nat}{os:OsState}{x C:Addr}{o:Obj}{K:Frag}{R:Result->Shared->Prop}
end
theorem LP{K:Frag}{bmB:Da Value}{x:Value}(hb:bmB.contains x=true):∀{l:Da Value},tailIn K bmB l=true->l.contains x=true
 | [],e=>by rw[nS.mp (show(bmB==[])=true from e)]at hb;exact hb
 | v::r,e=>by
  unfold tailIn at e;rcases Fo.mp e with q|q
  .rw [nS.mp q];exact hb
  .split at q
   .split at q
    .simp only[Dv]at q;rw[List.contains_cons,LP hb q.2,Bool.or_true]
    .cases q
   .cases q
noncomputable def yi(K:Frag)(N:Addr)(x:Str):Option Value:=match K.lookup N with
 | some o=>(match o.data with | .dict es _=>nsFind es x|_=>none)
 | none=>none
def Sa{K:Frag}{N:Addr}(X:K.In h)(e:nsOkIn K N=true):h.nsMap N=yi K N:=by
 unfold nsOkIn at e;split at e
 .rename_i ho;funext x;unfold yi Heap.nsMap;rw[X _ _ ho,ho]
 .cases e
def LQ{K:Frag}{N:Addr}(q:nsIn K N x=some none):yi K N x=none:=by
 unfold nsIn at q;unfold yi;split at q
 .rename_i c d es n sl ho;rw[ho];show nsFind es x=none;split at q
  .cases q
  .rename_i he;unfold nsFind findBy;rw[<-Array.find?_toList,he];rfl
 .cases q
def qb.of{K:Frag}(q:excIn K C abY "ValueError.__new__"=true):qb K C:=by
 unfold excIn at q;split at q
 .rename_i dd cd sl ho;split at q
  .rename_i C' bm k0 k1 k2 k3 n k5 hm hs;simp only[Dv,nS,Bool.not_eq_true']at q;obtain⟨⟨⟨⟨⟨rfl,rfl⟩,ab0⟩,ht⟩,hok⟩,hni⟩:=q;obtain⟨nm,bs,mro,ns,qn,hd,sn,sub,ab,col,del⟩:=cd;dsimp only at hm ab0 hok hni;subst hm ab0;have hsl:sl=#[k0,k1,k2,k3,some (.builtin "ValueError.__new__"),k5] :=by obtain⟨l⟩:=sl;simp only at hs;rw[hs]
   subst hsl;refine⟨nm,qn,ns,bs,bm,hd,sn,sub,ab,col,dd,k0,k1,k2,k3,k5,yi K ns,LQ hni,LP (by decide +kernel) ht,λh X=>⟨X _ _ ho,?_,tail_of_in X ht⟩⟩;have:=Heap.Ns.of_isNs (isNs_of_in X hok);rw[Sa X hok]at this;exact this
  .cases q
 .cases q
section
variable {X:Cx}
end
structure Ec where
 (bad twice afq ab1 afr LR ai2 rows ai3 afs amh:Addr)
section
end
structure Mx(P:Program)(w:World)(K:Fg)(mg:SO)(base:Heap)(k:Nat)(C:Addr)(m:Str)(ps:Da Str)(sp:Sp):Prop where
 ex:∃f fd,ja P w K mg base (jD P w) k f fd ps sp/\Binds K fd ps []/\Meth K C m f/\pR K C
def gF.okX{w:World}{m:Str}{st:Stmt}{k:Nat}(F:gF K C m qual st f fd)(S:aM N ps (aD st))(len:∀vs H Q E,sp vs H Q E->vs.length=ps.length)(Ch:∀(cdv:Value) (A:Around) (outer:Da Env) (s:Shared) (H:Hp) (vs:Da V) (Q:VK) (E:XK),d8 k (A.deeper (envOfC qual (aD st) s.heap.objs.size f cdv))->sp vs H Q E->
    ∃t,uu (dM (jD P w) P w K mg base N qual (aD st) f cdv A outer s H E) (cV st) t/\t { nx:=λ_ H'=>Q .cI H',rt:=Q } (start N vs) H)(h:∀(kV doc pm:Value) (an:Option Addr) (cdv ct:Value) (us:Da Value),us.length=ps.length->bindArgs (PySem.W.fnOf m qual (fj st) (cV st) (aD st) .none kV doc pm an cdv ct) ⟨us,[]⟩=pure (ps.zip us)):
  Mx P w K mg base (k+1) C m ps sp:=by
 refine⟨f,fd,?_,F.fn.binds h,F.me,F.cl⟩
 obtain⟨oc,od,kV,doc,pm,an,cdv,ct,osl,rfl,lk,hcd⟩:=F.fn.ex
 exact XU lk hcd S len λA outer s H vs Q E hr sQ=>Ch cdv A outer s H vs Q E hr sQ
def ja.noX{w:World}{k:Nat}{Io:Sp}(F:ja P w K mg base (jD P w) k f fd ps sp)(h:∀vs H Q E,Io vs H Q E->sp vs H Q E0):ja P w K mg base uw k f fd ps Io:=⟨λvs H Q E q=>F.len _ _ _ _ (h _ _ _ _ q),λA outer s H args us vs Q E hr he hb hv hs=>Bv (F.run A outer s H args us vs Q E0 hr he hb hv (h _ _ _ _ hs)) λr s' q=>by
 cases r with
 | error e=>
  obtain⟨x,T,C,H',_,_,_,_,_,_,_,_,_,_,z⟩:=(show jD P w outer H s E0 e s' from q)
  exact z.elim
 | ok fl=>cases fl <;> exact q⟩
def Mx.mn{w:World}{k:Nat}{m:Str}{Io:Sp}(D:Mx P w K mg base k C m ps sp)(h:∀vs H Q E,Io vs H Q E->sp vs H Q E0):Mn P w K mg base k C m ps Io:=by obtain⟨f,fd,F,b,me,c⟩:=D.ex;exact⟨f,fd,F.noX h,b,me,c⟩
section
variable {P:Program}{w:World}{K:Fg}{mg:SO}{base:Heap}{N:Da Str}{qual:Str}{scope:Scope}{f:Addr}{cd:Value}{A:Around}{outer:Da Env}{s0:Shared}{H0:Hp}{E:XK}
end
section
variable {X:Cx}
end
noncomputable def Ec.at(e:Ec):Nat->Addr
 | 0=>e.bad|1=>e.twice|2=>e.afq|3=>e.ab1|4=>e.afr|5=>e.LR|6=>e.ai2|7=>e.rows|8=>e.ai3|_=>e.afs
def Rf(e:Ec)(E:XK)(H:Hp)(i:Nat):Prop:=∀x H',aJ H H'->E (.ref x) (some (e.at i)) H'
structure Ep(T:TC)(e:Ec)(n:Nat)(ρ:bR)(A:HA)(H:Hp)(r:Option Nat)(st':HS)(Q:VK)(E:XK):Prop where
 no:∀i,r=some i->Rf e E H i
 ok:r=none->wW T n ρ A H st' λH'=>Q .cI H'
noncomputable def newR(st:HS)(x:Str):Option Nat:=if isNm x=true then(if x∈st.nms then some 1 else none) else some 0
noncomputable def zh(st:HS)(o:Str):Option Nat:=if isNm o=true then(if o∈st.own then some 1 else none) else some 0
noncomputable def zj(st:HS)(x o:Str)(wo we:Int):Option Nat:=match newR st x with
 | some i=>some i
 | none=>if o∈st.own then(if wo<1\/we<0 then some 5 else none) else some 2
inductive ZT(T:TC)(e:Ec)(vs:Da V)(H:Hp)(Q:VK)(E:XK):Prop
 |mk(n ρ A st o:_)(_:vs=[.ref A.a,.str o])(_:aI T n ρ A H st)(_:(o∉st.own->Rf e E H 2))(_:(o∈st.own->Q (.int (st.own.idxOf o:Int)) H))
def zm(T:TC)(e:Ec):Sp:=bx (ZT T e)
inductive WN(T:TC)(e:Ec)(vs:Da V)(H:Hp)(Q:VK)(E:XK):Prop
 |mk(n ρ A st x:_)(_:vs=[.ref A.a,.str x])(_:aI T n ρ A H st)(_:(st.ai.map (·.nm)).Nodup)(_:((∀p∈st.ai,p.nm≠x)->Rf e E H 3))(_:∀(i:Nat) (p:Pt) (q:Addr×Addr×Addr),p.nm=x->st.ai[i]?=some p->A.qs[i]?=some q->Q (.ref q.1) H)
def mE(T:TC)(e:Ec):Sp:=bx (WN T e)
inductive Sb(T:TC)(e:Ec)(vs:Da V)(H:Hp)(Q:VK)(E:XK):Prop
 |mk(n ρ A st x:_)(_:vs=[.ref A.a,.str x])(_:aI T n ρ A H st)(_:x.cps.toList.length<=100000)(_:(∀i,newR st x=some i->Rf e E H i))(_:(newR st x=none->∀H',aJ H H'->Q .cI H'))
def xK(T:TC)(e:Ec):Sp:=bx (Sb T e)
def AM(h1:isNm x=true)(h2:x∉st.nms):newR st x=none:=by unfold newR;rw[aB h1,aC h2]
theorem Sd{o:Str}(h1:isNm x=true)(h2:x∉st.nms)(h3:o∈st.own)(h4:1<=wo)(h5:0<=we):zj st x o wo we=none:=by unfold zj;rw[AM h1 h2];show(if o∈st.own then _ else _)=_;rw[aB h3,aC (by omega)]
variable {st':HS}
def Ep.of{e:Ec}{n:Nat}{r:Option Nat}{Q:VK}(h:r=none)(q:wW T n ρ A H st' λH'=>Q .cI H'):Ep T e n ρ A H r st' Q E0:=⟨(λi z=>by rw[h]at z;cases z),λ_=>q⟩
inductive Dd where
 | sign (o:Str)|load (x o:Str) (wo we:Int)|cast (rs:Da Row)|award (o:Str) (a:Int)|mishap (x:Str) (a:Int)|rise (x:Str) (a:Int)|hand (x o:Str)|land (x:Str)|sever (x y:Str) (a we:Int)|still
noncomputable def jO:Da Row->Da V
 | []=>[]
 | r::rs=> .str r.1 :: .int r.2::jO rs
noncomputable def Dd.v:Dd->Da V
 | .sign o=>[.str "sign",.str o]
 | .load x o wo we=>[.str "load",.str x,.str o,.int wo,.int we]
 | .cast rs=> .str "cast"::jO rs
 | .award o a=>[.str "award",.str o,.int a]
 | .mishap x a=>[.str "mishap",.str x,.int a]
 | .rise x a=>[.str "rise",.str x,.int a]
 | .hand x o=>[.str "hand",.str x,.str o]
 | .land x=>[.str "land",.str x]
 | .sever x y a we=>[.str "sever",.str x,.str y,.int a,.int we]
 | .still=>[.str "still"]
noncomputable def eL(st:HS):Da Str:=st.ai.map λp=>p.nm
noncomputable def jF(st:HS)(r:Row):Option Nat:=if r.1∈eL st then(if r.2<1 then some 5 else if(bP st r.1).wo<r.2 then some 6 else none) else some 3
noncomputable def uH(st:HS)(rs:Da Row):Option Nat:=if rs≠[]/\(rs.map λr:Row=>r.1).Nodup then(match rs.findSome? (jF st)with
 | some i=>some i
 | none=>if aS st<=bK rs then some 6 else none) else some 7
noncomputable def kg(st:HS)(o:Str)(a:Int):Option Nat:=if o∈st.own then(if a<1 then some 5 else if aS st<=a then some 6 else none) else some 2
noncomputable def lU(st:HS)(x:Str)(a:Int):Option Nat:=if x∈eL st then(if a<1 then some 5 else none) else some 3
noncomputable def kP(st:HS)(x o:Str):Option Nat:=if x∈eL st then(if o∈st.own then none else some 2) else some 3
noncomputable def rZ(st:HS)(x:Str):Option Nat:=if x∈eL st then none else some 3
noncomputable def iX(st:HS)(x y:Str)(a we:Int):Option Nat:=if x∈eL st then(match newR st y with
 | some i=>some i
 | none=>if a<1\/we<0 then some 5 else if(bP st x).wo<=a\/(bP st x).we<we then some 6 else none) else some 3
noncomputable def jb(st:HS):Dd->Option Nat
 | .sign o=>zh st o
 | .load x o wo we=>zj st x o wo we
 | .cast rs=>uH st rs
 | .award o a=>kg st o a
 | .mishap x a=>jF st (x,a)
 | .rise x a=>lU st x a
 | .hand x o=>kP st x o
 | .land x=>rZ st x
 | .sever x y a we=>iX st x y a we
 | .still=>none
noncomputable def tD(st:HS)(o:Str)(a:Int):HS:=bf st (aS st-a) (aS st) ((List.replicate st.own.length 0).set (st.own.idxOf o) (a*st.prod))
noncomputable def nI(st:HS)(x:Str)(f:Pt->Pt):HS:={ st with ai:=st.ai.map λp=>if p.nm=x then f p else p }
noncomputable def Ks(st:HS)(x:Str)(a:Int):HS:=nI st x λp=>{ p with wo:=p.wo+a }
noncomputable def jP(st:HS)(p:Pt)(o:Str):Da Int:=((aX st p).set (st.own.idxOf o) ((aX st p).getD (st.own.idxOf o) 0+(aX st p).getD (st.own.idxOf p.ow) 0)).set (st.own.idxOf p.ow) 0
noncomputable def eU(st:HS)(x o:Str):HS:=if st.own.idxOf o=st.own.idxOf (bP st x).ow then st else nI st x λp=>{ p with ow:=o,sc:=1,row:=j_ st (jP st p o) }
noncomputable def fu(st:HS)(p:Pt):Da Int:=List.zipWith (λu t=>u+p.wo*t) st.bU (aX st p)
noncomputable def qc(st:HS)(x:Str):HS:={ st with ai:=st.ai.filter (λp=>decide (p.nm≠x)),dO:=st.dO++[⟨x,(bP st x).ow,(bP st x).wo,gO st (bP st x)⟩],kn:=st.kn+100,bU:=(fu st (bP st x)).set (st.own.idxOf (bP st x).ow) ((fu st (bP st x)).getD (st.own.idxOf (bP st x).ow) 0-(bP st x).wo*st.prod) }
noncomputable def k_(st:HS)(x y:Str)(a we:Int):HS:=wX (nI st x λp=>{ p with wo:=p.wo-a,we:=p.we-we }) ⟨y,(bP st x).ow,a,we,(bP st x).sc,(bP st x).row⟩
noncomputable def iK(st:HS):Dd->HS
 | .sign o=>aV st o
 | .load x o wo we=>wY st x o wo we
 | .cast rs=>iw st rs
 | .award o a=>tD st o a
 | .mishap x a=>dJ st (x,a)
 | .rise x a=>Ks st x a
 | .hand x o=>eU st x o
 | .land x=>qc st x
 | .sever x y a we=>k_ st x y a we
 | .still=>st
noncomputable def wl(s:Str):Nat:=s.cps.toList.length
section
variable {X:Cx}
end
theorem zq(h:isNm x=true):PyData.strOk x=true:=by
 unfold PyData.strOk;rw[Array.all_eq_true'];intro c hc;unfold isNm isName at h;have h1:=pJ.mp (ng.mp h).2 c (by simpa using hc);rw[Zz]at h1;have hm:=eE h1;have:∀c∈("abcdefghijklmnopqrstuvwxyz":Str).cps.toList,c<1000:=by decide +kernel
 have:=this c hm;exact bL (by omega)
section
variable {P:Program}{w:World}{K:Fg}{mg:SO}{base:Heap}{k:Nat}{T:TC}{e:Ec}{ps:Da Str}
end
def nB(i:Int):Prop:=-1000000000<=i/\i<=1000000000
noncomputable def Ql:Dd->Prop
 | .sign o=>wl o<=20
 | .load x o wo we=>wl x<=20/\wl o<=20/\nB wo/\nB we
 | .cast rs=>rs.length<=60/\∀r∈rs,wl r.1<=20/\nB r.2
 | .award o a=>wl o<=20/\nB a
 | .mishap x a=>wl x<=20/\nB a
 | .rise x a=>wl x<=20/\nB a
 | .hand x o=>wl x<=20/\wl o<=20
 | .land x=>wl x<=20
 | .sever x y a we=>wl x<=20/\wl y<=20/\nB a/\nB we
 | .still=>True
noncomputable def Dd.k:Dd->Nat
 | .sign _=>0 | .load .. =>1 | .cast _=>2 | .award .. =>3 | .mishap .. =>4 | .rise .. =>5 | .hand .. =>6 | .land _=>7 | .sever .. =>8 | .still=>9
noncomputable def Se(n:Nat):Str:=(["sign","load","cast","award","mishap","rise","hand","land","sever","still"] :Da Str).getD n "still"
noncomputable def Dd.w(d:Dd):Str:=Se d.k
def Dd.v0(d:Dd):d.v[0]?=some (.str d.w):=by cases d <;> rfl
def Dd.k_lt(d:Dd):d.k<10:=by cases d <;> simp[Dd.k]
def aft:∀m n:Fin 10,m≠n->Se m.val≠Se n.val:=by decide +kernel
variable {d:Dd}
def Dd.Sf{n:Nat}(h:d.k≠n)(hn:n<10):d.w≠Se n:=aft ⟨d.k,d.k_lt⟩ ⟨n,hn⟩ λe=>h (rQ Fin.val e)
theorem AN:∀(l m:Da Row),jO (l++m)=jO l++jO m
 | [],_=>rfl
 | r::l,m=>by
  show V.str r.1::V.int r.2::jO (l++m)=V.str r.1::V.int r.2::(jO l++jO m)
  rw[AN l m]
theorem AQ:∀l:Da Row,(jO l).length=2*l.length
 | []=>rfl
 | r::l=>by show(jO l).length+1+1=_;rw[AQ l,jz];omega
theorem uQ(h:isNm x=true):wl x<=20:=by unfold isNm isName at h;have:=eE (ng.mp (ng.mp h).1).2;unfold wl;omega
theorem pe{o:Str}(h:zj st x o wo we=none):isNm x=true/\x∉st.nms/\o∈st.own/\1<=wo/\0<=we:=by
 unfold zj at h;cases hn:newR st x with
 | some j=>rw[hn]at h;cases h
 | none=>
  rw[hn]at h;have h':(if o∈st.own then(if wo<1\/we<0 then some 5 else none) else some 2)=none:=h;have hx:isNm x=true/\x∉st.nms:=by
   unfold newR at hn;by_cases c:isNm x=true
   .rw [aB c]at hn;by_cases m:x∈st.nms
    .rw [aB m]at hn;cases hn
    .exact ⟨c,m⟩
   .rw [aC c]at hn;cases hn
  by_cases ho:o∈st.own
  .rw [aB ho]at h';by_cases hb:wo<1\/we<0
   .rw [aB hb]at h';cases h'
   .exact ⟨hx.1,hx.2,ho,by omega,by omega⟩
  .rw [aC ho]at h';cases h'
end L2
set_option autoImplicit true
namespace L2
open PySem PySem.Spec PyProof.Rows
structure bE(X:Cx)(e:Expr)(t:TE):Prop where h:PE X e t
structure bT(X:Cx)(e:Expr)(t:TT):Prop where h:PT X e t
structure bW(X:Cx)(e:Expr)(t:TT):Prop where h:PW X e t
structure bA(X:Cx)(es:Da Expr)(t:TA):Prop where h:PA X es t
structure bS(X:Cx)(s:Stmt)(t:TS):Prop where h:PS X s t
structure cU(X:Cx)(s:Da Stmt)(t:TS):Prop where h:uu X s t
structure bC(X:Cx)(op:CmpOp)(a b:Expr)(t:TE):Prop where h:PC X op a b t
structure bG(X:Cx)(e:Expr)(t:TG):Prop where h:PG X e t
structure Ye(X:Cx)(e:Da Expr)(t:DI):Prop where h:PGs X e t
structure bI(X:Cx)(tg Bn:Expr)(wi:TI):Prop where h:PI X tg Bn wi
structure bX(X:Cx)(e:Da Stmt)(t:TX):Prop where h:PX X e t
structure Yg(X:Cx)(pos:Pos)(ks:Da (Option Expr))(vs:Da Expr)(t:Da (TE×TE)):Prop where h:PPs X pos ks vs t
theorem bW.pt{X:Cx}{e:Expr}{t:TT}(h:bW X e t):bT X e t:=⟨h.h.pt⟩
def ab2{op}{t:TE}(h:bE X a t):bE X (.BoolOp op [a] pos) t:=by have h:=h.h;exact⟨λAC s σ H Q I hw=>BoolOp_one (h AC s σ H Q I hw)⟩
def vD{e:Expr}{t:TE}(h:bE X e t)(he:∀whole,isTrue e X.env whole=(do let v <-whole;standAt e.pos;holding [v] (truthy v)):=by intro _;rfl):bT X e (tB t):=by have h:=h.h;constructor;intro AC s σ H Q I hw;refine isTrue_plain (aZ (h AC s σ H _ I hw) λv s1 ⟨x,H1,I1,r1,q1⟩=>?_) (he _);obtain⟨d,rfl,q⟩:=q1;cases r1;exact Fw ⟨H1,I1,q⟩
def aO{r:R2}(hr:zU X r)(ha:bE X a ta)(hb:bE X b tb)(hs:Zh b:=by exact λ_ _=>rfl):bE X (.Subscript a b pos) (Cd r ta tb):=by have ha:=ha.h;have hb:=hb.h;constructor;intro AC s σ H Q I h;exact Subscript_ (V2 ha hb I h λv u s2 x y H2 I2 rx ry q=>hr a b AC s2 σ H2 x y v u Q I2 rx ry q (hs _ _))
def iL:Ye X [] aaC:=by constructor;intro AC s σ H vs us Q I r h;obtain⟨e,h⟩:=h;subst e;cases r;exact assignInOrder_nil ⟨σ,H,I,h⟩
def aU{i:Nat}{x:Str}(hN:X.N.Nodup)(hi:X.N[i]?=some x:=by rfl)(hx:Loc X.env.scope x:=by first|exact Or.inl rfl|exact Or.inr rfl)(hf:X.fn x=true\/X.env.scope.names.lookup x=some .local:=by first|exact .inl rfl|exact .inr rfl|assumption):bG X (.Name x pos) (pP i):=by constructor;intro AC s σ H v u Q I r h;exact wpAny_assign_Name (yJ I hN hi hx r (λs' I'=>⟨_,H,I',h⟩) hf)
def LU{c:Expr}{body:Da Stmt}{tc:TT}{tb:TS}(hp:PassesOwn (model X.prog X.w) X.A X.env X.xe)(hc:bT X c tc)(hb:cU X body tb):bS X (.While c body [] pos) (aaJ tc tb):=by
 have hc:=hc.h;have hb:=hb.h;constructor;intro AC s σ H D I h;obtain⟨W,⟨m0,w0⟩,turn⟩:=h;refine wpAny_While (codeAny_whileLoop (λn s'=>∃σ' H',Inv X AC σ' H' s'/\W n σ' H') ?_ m0 ⟨σ,H,I,w0⟩);rintro n s1 ⟨σ1,H1,I1,w1⟩;refine yy hp (aZ (hc AC s1 σ1 H1 _ I1 (turn n σ1 H1 w1)) λb s2 ⟨H2,I2,q2⟩=>?_);cases b with
 | true=>
  obtain⟨N,hN,q2⟩:=q2;rw[aB rfl];refine yy hp (aZ (hb AC s2 σ1 H2 _ I2 q2) λf s3 q3=>?_);cases f with
  | next=>obtain⟨σ3,H3,I3,n3⟩:=q3;obtain⟨m',hm,w3⟩:=hN σ3 H3 n3;exact⟨m',hm,σ3,H3,I3,w3⟩
  | cont=>obtain⟨σ3,H3,I3,n3⟩:=q3;obtain⟨m',hm,w3⟩:=hN σ3 H3 n3;exact⟨m',hm,σ3,H3,I3,w3⟩
  | brk=>exact q3
  | ret v=>exact q3
 | false=>rw[aC iA];exact Bt ⟨σ1,H2,I2,q2⟩
def BR{tg:Expr}{ob:Expr}{td:TE}{Bz cpos:Pos}(hob:bE X ob td)(hbase:attributeBase ob "values" X.env (eval ob X.env)=eval ob X.env:=by rfl)(hline:(Bz.endLine==cpos.line)=true:=by rfl):bI X tg (.Call (.Attribute ob "values" Bz) [] [] cpos) (afc td):=by
 have hob:=hob.h;constructor;intro AC s σ H R I h;refine Ri hbase hline (aZ (hob AC s σ H _ I h) λv s1 ⟨x,H1,I1,r1,q1⟩=>?_);obtain⟨d,o,AT,rfl,e,fin⟩:=q1;cases r1;obtain⟨ho,hz,hsys,vs,ep,rel,da⟩:=I1.rV e;obtain⟨t1,t2,_⟩:=K9 I1 (.inl ⟨AT,.inr ⟨o,e⟩⟩);have dd:=da.dictOf;refine⟨"dict",_,F.plainAttrs_dict,Rx,F.type_dict_values,t1,t2,KA rfl (Rq ?_)⟩;refine call_meetsIn Rx dd.typeIs F.entry_dict_values (F.args_dict_values_1 _) (meets_dict_values (dh X.prog X.w) d hsys) ⟨⟨vs,dd⟩,?_⟩;refine wpAny_pyIter_values (s:={ s1 with heap:=s1.heap.push { cls:=.type "dict_values",data:=.fields #[.ref d] } }) ⟨_,ef _ rfl,Z,Z⟩ (da.push _) ?_;have Iv:Inv X AC σ H1 { s1 with heap:=s1.heap.push { cls:=.type "dict_values",data:=.fields #[.ref d] } }:=I1.kept (t':=s1.toks) λb o e=>b9 _ e;generalize ({ s1 with heap:=s1.heap.push { cls:=.type "dict_values",data:=.fields #[.ref d] } }:Shared)=sv at *;have I2:Inv X AC σ H1 { sv with heap:=sv.heap.push { cls:=.type "dict_valueiterator",data:=.fields #[.ref d,.int 0 0,.int vs.length 0,.int ep 0] } }:=Iv.kept (t':=sv.toks) λb o e=>b9 _ e;have hl:AT.length=vs.length:=rel.length;obtain⟨o',es,h1,_,h2,_⟩:=id da;rw[ho]at h1;cases h1;refine⟨sv.heap.objs.size,[sv.heap.objs.size],_,_,H1,Z,I2,Uc h2,?_,λb hb=>?_,fin⟩
 .rw [hl];exact⟨_,ef _ rfl,Z,Z⟩
 .have eb:b=sv.heap.objs.size:=by simpa using hb
  subst eb;exact Iv.CC (aK _) (Iv.hok.fresh (aK _))
def Qm{o i e:Expr}{to ti te:TE}{Ag:V->V->Hp->VK->Prop}{zR:KR}{pQ:tO}{op:Operator}{tpos:Pos}(ho:bE X o to)(hi:bE X i ti)(hg:aaG X Ag)(he:bE X e te)(hp:PIp X op zR)(hs:VT X pQ)(ha:∀ov iv new,augStore i ov iv new=(do holding [new,ov,iv] (setItem ov iv new);release [new,ov,iv] [];pure .next):=by intros;rfl):bS X (.AugAssign (.Subscript o i tpos) op e pos) (aeP to ti te Ag zR pQ):=by have ho:=ho.h;have hi:=hi.h;have he:=he.h;constructor;intro AC s σ H D I h;refine wpAny_AugAssign_SubscriptAny (aZ (ho AC s σ H _ I h) λov s1 ⟨x1,H1,I1,r1,q1⟩=>?_) ha;refine aZ (hi AC s1 σ H1 _ I1 q1) λiv s2 ⟨x2,H2,I2,r2,q2⟩=>?_;refine aZ (hg AC s2 σ H2 x1 x2 ov iv _ I2 r1 r2 q2) λold s3 ⟨x3,H3,I3,r3,q3⟩=>?_;refine aZ (he AC s3 σ H3 _ I3 q3) λv s4 ⟨x4,H4,I4,r4,q4⟩=>?_;refine aZ (hp AC s4 σ H4 x3 x4 old v _ I4 r3 r4 q4) λnew s5 ⟨x5,H5,I5,r5,q5⟩=>?_;exact aZ (hs AC s5 σ H5 x1 x2 x5 ov iv new _ I5 r1 r2 r5 q5) λ_ s6 ⟨H6,I6,q6⟩=>⟨σ,H6,I6,q6⟩
def kQ{id:String}(pa:PlainAttrs T)(slot:Slot T name id)(hty:typeOf (.builtin id)=pure (.type "method_descriptor"))(hm:MtR X id r)(ho:bE X o to)(ha:bA X (e::es) t)(hbase:attributeBase o name X.env (eval o X.env)=eval o X.env:=by rfl)(hfew:((backTo cpos (starEach (e::es) X.env)).all (λx=>!x.1) && (backToKw cpos (keywordEach [] X.env)).all (λx=>x.1.isSome)
   && decide ((e::es).length+([] :Da Keyword).length+(if([] :Da Keyword).isEmpty then 0 else 1)<30))=true:=by rfl)(hline:(Bz.endLine==cpos.line)=true:=by rfl)(hs:starEach (e::es) X.env=(false,eval e X.env)::starEach es X.env:=by rfl)(hplain:(backTo cpos (starEach es X.env)).any (·.1)=false:=by rfl):bE X (.Call (.Attribute o name Bz) (e::es) [] cpos) (tBM X.K T r to t):=by
 have ho:=ho.h;have ha:=ha.h;constructor
 intro AC s σ H Q I h
 refine wpAny_Call_method_late hbase hfew hline rfl (aZ (ho AC s σ H _ I h) λv s1 ⟨x,H1,I1,r1,ty,q1⟩=>?_)
 obtain⟨h1,h2⟩:=Tv I1 r1 ty
 refine⟨T,id,pa,slot,hty,h1,h2,?_⟩
 have hA:=ha cpos AC s1 σ H1 _ I1 q1
 rw[hs]at hA ⊢
 refine KA (by show(false || (backTo cpos (starEach es X.env)).any (·.1))=false;rw[hplain] <;> rfl) (Calls.evalArgs_plain ?_)
 exact aZ hA λus s2 ⟨vs,H2,I2,r2,q2⟩=>hm AC s2 σ H2 x vs v us Q I2 r1 r2 q2
def Qn{X:Cx}{pos:Pos}:Yg X pos [] [] [] :=by exact⟨λAC s σ H Q I h=>pairTrees_nil_walk ⟨[],H,I,.nil,h⟩⟩
def Er{X:Cx}{e:Expr}{t:TE}(h:bE X e t):bE X e (aiU t):=by have h:=h.h;constructor;intro AC s σ H Q I hw;obtain⟨d,AT,e,hw⟩:=hw;obtain⟨ho,es,ep,h1,_⟩:=(yM I.hok e).2.2.choose_spec.2;have h0:=I.Ub e;exact aZ (h AC s σ _ _ (I.freeze e h1) (hw ho)) λu s' ⟨v,H',I',r,q1,q2⟩=>⟨v,_,I'.CK q1 h0,r,q2⟩
def WO{op op':CmpOp}{r r':R2}(ho:jW X (compareOp op) r)(ho':jW X (compareOp op') r')(ha:bE X a ta)(hb:bE X b tb)(hc:bE X c tc)(hm:lastMarks [op,op'] [b,c]=false:=by with_unfolding_all rfl):bE X (.Compare a [op,op'] [b,c] pos) (aaQ r r' ta tb tc):=by
 have ha:=ha.h;have hb:=hb.h;have hc:=hc.h;constructor;intro AC s σ H Q I h;refine Compare_chain (aZ (ha AC s σ H _ I h) λv s1 ⟨x,H1,I1,r1,q1⟩=>chain_link (aZ (hb AC s1 σ H1 _ I1 q1) λu s2 ⟨y,H2,I2,r2,q2⟩=>
  aZ (ho AC s2 σ H2 x y v u _ I2 r1 r2 q2) λd s3 ⟨z,H3,I3,r3,k,e,q3⟩=>?_)) hm
 subst e;cases r3;refine Fw ?_;cases k with
 | false=>exact ite_ff ⟨.bl false,H3,I3,Z,q3⟩
 | true=>exact ite_tt (chain_last (aZ (hc AC s3 σ H3 _ I3 q3) λw' s4 ⟨z',H4,I4,r4,q4⟩=>ho' AC s4 σ H4 y z' u w' Q I4 r2 r4 q4))
def iY{x1}(h:bA X es t):bE X (.Tuple es x1 pos) (aiG t):=by have h:=h.h;constructor;intro AC s σ H Q I hq;refine wpAny_Tuple_spliced (aZ (h pos AC s σ H _ I hq) λus s1 ⟨xs,H1,I1,r,z,q⟩=>⟨by rw[<-r.length];exact z,?_⟩);have hf:H1 s1.heap.objs.size=none:=I1.hok.fresh (aK _);refine⟨.ref s1.heap.objs.size,upd H1 s1.heap.objs.size (.tup xs),I1.laid (t':=s1.toks) (λb u e=>b9 _ e) (aK _) ?_,Z,q _ hf⟩;exact⟨z,us,r,⟨_,ef _ rfl,Z,_,Z⟩⟩
def LV{tg Bn elt cond:Expr}{scope:Scope}{pos:Pos}(N2:Da Str)(ix:Da (Option Nat)){wi:TI}{g:TG}{tc:TT}{te:TE}(hc:X.calm=true)(hi:bI X tg Bn wi)(hg:∀cl s₂ H₂ fp,bG (cJ X N2 scope cl s₂ H₂ fp) tg g)(he:∀cl s₂ H₂ fp,bE (cJ X N2 scope cl s₂ H₂ fp) elt te)(ht:∀cl s₂ H₂ fp,bT (cJ X N2 scope cl s₂ H₂ fp) cond tc)(hk:scope.kind =.function)(hn:nH X.N X.env.scope.names scope.names N2 ix=true)(hs:∀x,foldedSetIterable Bn X.env x=pure x:=by intro _;rfl):bE X (.ListComp elt [⟨tg,Bn,[cond],0⟩] scope pos) (T8 wi ix g tc te):=⟨Wx N2 ix hc hi.h (λcl s₂ H₂ fp=>(hg cl s₂ H₂ fp).h) (λcl s₂ H₂ fp=>(he cl s₂ H₂ fp).h) (λcl s₂ H₂ fp=>(ht cl s₂ H₂ fp).h) hk hn hs⟩
def aL{op:Operator}{r:R2}(ho:jW X (binaryOp op) r)(ha:bE X a ta)(hb:bE X b tb):bE X (.BinOp a op b pos) (Cd r ta tb):=by have ha:=ha.h;have hb:=hb.h;constructor;intro AC s σ H Q I h;exact wpAny_BinOp (V2 ha hb I h λv u s2 x y H2 I2 rx ry q=>ho AC s2 σ H2 x y v u Q I2 rx ry q)
def yj{op:CmpOp}{t:TE}(h:bC X op a b t)(h1:behindInMarks op b=false:=by first|exact ai4 _ (by decide) (by decide)|rfl):bT X (.Compare a [op] [b] pos) (tB t):=by have h:=h.h;constructor;intro AC s σ H Q I hw;refine wpAny_isTrue_Compare1 (aZ (h AC s σ H _ I hw) λv s1 h1=>aZ h1 λu s2 h2=>aZ h2 λc s3 ⟨x,H1,I1,r1,q1⟩=>?_) h1;obtain⟨d,rfl,q⟩:=q1;cases r1;exact Fw ⟨H1,I1,q⟩
def fh{tg:Expr}{Bn:Expr}{body:Da Stmt}{wi:TI}{g:TG}{tb:TS}{pos:Pos}(hp:PassesOwn (model X.prog X.w) X.A X.env X.xe)(hc:X.calm=true)(hi:bI X tg Bn wi)(hg:bG X tg g)(hb:cU X body tb)(hs:∀x,foldedSetIterable Bn X.env x=pure x:=by intro _;rfl):bS X (.For tg Bn body [] pos) (aiA wi g tb):=by
 have hi:=hi.h;have hg:=hg.h;have hb:=hb.h;constructor;intro AC s σ H D I h;refine wpAny_For (aZ (hi AC s σ H _ I h) λv s1 h1=>aZ h1 λitv s2 h2=>?_) hs;obtain⟨it,fp,tn,J,H2,e,I2,T,st2,f2,W,⟨m0,w0⟩,turn⟩:=h2;subst e;have oj:∀{H':Hp},(∀b∈fp,H' b=none)->∀b∈fp,mj X AC H' b:=λhn b hb=>⟨hn b hb,(f2 b hb).2⟩
 refine codeAny_forLoop_any (λn s'=>∃i σ' H',Inv X AC σ' H' s'/\tn i s'.heap/\(∀b∈fp,H' b=none)/\W i n σ' H') ?_ m0 ⟨0,σ,H2,I2,st2,λb hb=>(f2 b hb).1,w0⟩;rintro n s3 ⟨i,σ3,H3,I3,st3,Yh,w3⟩;rcases turn i n σ3 H3 w3 with⟨stop,qn⟩|⟨go,N,hN,step⟩
 .refine yy hp (aZ (T.done X rfl rfl rfl hc i AC s3 σ3 H3 X.xe I3 (oj Yh) st3 stop) λr s4 ⟨hr,I4⟩=>?_);subst hr;exact Bt ⟨σ3,H3,I4,qn⟩
 .refine yy hp (aZ (T.item X rfl rfl rfl hc i AC s3 σ3 H3 X.xe I3 (oj Yh) st3 go) λr s4 ⟨u,hr,h4⟩=>?_);subst hr;refine yy hp (aZ h4 λ_ s5 ⟨x,H5,I5,r5,y5,zX,Cj⟩=>?_);have I5':=I5.pinned (oj Cj) (T.obj _ _ zX);refine yy hp (aZ (hg _ s5 σ3 H5 x u _ I5' r5 (step x H5 y5)) λ_ s6 ⟨σ6,H6,I6,q6⟩=>?_);refine yy hp (aZ (hb _ s6 σ6 H6 _ I6 q6) λf s7 q7=>?_);have again:∀{σ7:St}{H7:Hp},Inv X (AC++DK fp s5.heap) σ7 H7 s7->N σ7 H7->∃m,m<n/\∃i σ' H',Inv X AC σ' H' s7/\tn i s7.heap/\(∀b∈fp,H' b=none)/\W i m σ' H':=λ{σ7 H7} I7 n7=>by obtain⟨m',hm,w7⟩:=hN σ7 H7 n7;refine⟨m',hm,i+1,σ7,H7,I7.oh,T.keep _ _ _ zX λb hb o e=>(I7.pin (b,o) (iQ _ (iQ _ (iu hb e)))).1,λb hb=>?_,w7⟩;obtain⟨o,e,d⟩:=T.obj _ _ zX b hb;exact(I7.pin (b,o) (iQ _ (iQ _ (iu hb e)))).2.1
  cases f with
  | next=>obtain⟨σ7,H7,I7,n7⟩:=q7;exact again I7 n7
  | cont=>obtain⟨σ7,H7,I7,n7⟩:=q7;exact again I7 n7
  | brk=>obtain⟨σ7,H7,I7,q7⟩:=q7;exact⟨σ7,H7,I7.oh,q7⟩
  | ret v=>obtain⟨x7,σ7,H7,I7,r7,q7⟩:=q7;exact⟨x7,σ7,H7,I7.oh,r7,q7⟩
def ZU:bS X (.Return none pos) aeK:=by exact⟨λ_ _ σ H _ I h=>wpAny_Return_none ⟨.cI,σ,H,I,Z,h⟩⟩
def kh{tg Bn elt:Expr}{scope:Scope}{pos:Pos}(N2:Da Str)(ix:Da (Option Nat)){wi:TI}{g:TG}{te:TE}(hc:X.calm=true)(hi:bI X tg Bn wi)(hg:∀cl s₂ H₂ fp,bG (cJ X N2 scope cl s₂ H₂ fp) tg g)(he:∀cl s₂ H₂ fp,bE (cJ X N2 scope cl s₂ H₂ fp) elt te)(hk:scope.kind =.function)(hn:nH X.N X.env.scope.names scope.names N2 ix=true)(hs:∀x,foldedSetIterable Bn X.env x=pure x:=by intro _;rfl):bE X (.ListComp elt [⟨tg,Bn,[],0⟩] scope pos) (X3 wi ix g te):=by have hi:=hi.h;have hg:=λcl s₂ H₂ fp=>(hg cl s₂ H₂ fp).h;have he:=λcl s₂ H₂ fp=>(he cl s₂ H₂ fp).h;constructor;intro AC s σ H Q I h;obtain⟨k1,k2,k3,k4,k5⟩:=kL hn;obtain⟨cl,Lh,c1,c2⟩:=uF (scope:=scope) (env:=X.env) λy hy e=>I.ok.has y.1 (k3 y hy e);rw[eval_ListComp];refine Rc (use:=none) rfl hs Lh hk k4 (aZ (hi AC s σ H _ I h) λv s1 h1=>aZ h1 λitv s2 h2=>?_);obtain⟨it,fp,tn,J,H2,e,I2,T,st2,f2,h2⟩:=h2;subst e;refine DW (RR:=λAp C=>compPost (model X.prog X.w) X.A X.xe none (EP X AC σ Q) Ap C) (Q:=Q) hc hg he hk hn (λy c m=>(c1 y c m).1) c2 I2 T st2 f2 h2 ?_;intro Ap C H' s' m I' ns yb hL hsz sU yS q;exact⟨m,ns,λh' hs'=>⟨.ref Ap,H',I'.turned (it:=C) (t':=s'.toks) (λb o hb e=>(hs'.2 b hb).trans e) yb hL (.inr hsz) sU yS,Z,q⟩⟩
def LW(hu:X.A.units+1<cLine)(hi:bE X i ty)(ho:bE X o td):bC X .In i o (aiO ty td):=by have hi:=hi.h;have ho:=ho.h;constructor;intro AC s σ H Q I h;refine aZ (hi AC s σ H _ I h) λiv s1 ⟨y,H1,I1,ry,q1⟩=>aZ (ho AC s1 σ H1 _ I1 q1) λu s2 ⟨x,H2,I2,rx,a,ov,ex,g,q2⟩=>?_;subst ex;obtain rfl:u=Value.ref a:=rx;exact aiN hu I2 g ry λs3 I3=>⟨.bl ov.isSome,H2,I3,Z,q2⟩
def bg{x j pos}:bE X (.Constant (.str x) j pos) (tC (.str x)):=⟨SY⟩
def Ku{op:UnaryOp}{r:V->Hp->VK->Prop}(ho:UnR X (unaryOp op) r)(ha:bE X a ta):bE X (.UnaryOp op a pos) (tUn r ta):=by have ha:=ha.h;constructor;intro AC s σ H Q I h;exact UnaryOp_ (aZ (ha AC s σ H _ I h) λv s1 ⟨x,H1,I1,r1,q1⟩=>ho AC s1 σ H1 x v Q I1 r1 q1)
def qS(K:Fg){a b:Expr}{ta:TA}{p pos:Pos}(hg:Gl X "zip")(hm:X.mg "zip"=none)(ha:bA X [a,b] ta)(hK:X.K=K:=by rfl)(hs:starEach [a,b] X.env=[(false,eval a X.env),(false,eval b X.env)] :=by rfl)(hs2:starEach [b] X.env=[(false,eval b X.env)] :=by rfl):bI X (.Tuple DD kk tpos) (.Call (.Name "zip" p) [a,b] [] pos) (afe K ta):=by
 have ha:=ha.h;constructor;subst hK;intro AC s σ H R I h;refine Call_ (x9 I hg hm boot_zip (SQ (aZ (ha pos AC s σ H _ I h) λus s1 ⟨vs,H1,I1,r1,q1⟩=>?_) (by rw[hs,hs2]) (by rw[hs2];rfl)));obtain⟨u1,u2,S1,S2,xs,ys,e,k1,k2,q⟩:=q1;subst e;obtain⟨u,w',rfl,ru,rw'⟩:=vals2 r1;obtain⟨g1,l1,o1,p1,lt1,b1,amc,at1,st1,c1⟩:=k1.ok I1 ru;obtain⟨g2,l2,o2,p2,lt2,b2,afu,at2,st2,c2⟩:=k2.ok I1 rw';refine callType_newIn F.called_zip (by decide) (F.typeCall_zip_2 _ _) (F.newCall_zip_2 _ _) (λobj=>F.args_object_init_3 obj _ _) F.entry_zip_new (R0 st1 st2) ⟨b1,afu _ _ b2,?_⟩;have z1:(s1.heap.push o1).objs.size=s1.heap.objs.size+1:=kJ ..;have z2:((s1.heap.push o1).push o2).objs.size=s1.heap.objs.size+2:=by rw[kJ,z1]
 generalize e3:({ cls:=.type "tuple",data:=.seq #[.ref s1.heap.objs.size,.ref (s1.heap.push o1).objs.size] }:Obj)=o3;have z3:(((s1.heap.push o1).push o2).push o3).objs.size=s1.heap.objs.size+3:=by rw[kJ,z2]
 generalize e4:({ cls:=.type "tuple",data:=.seq #[.none,.none] }:Obj)=o4;have z4:((((s1.heap.push o1).push o2).push o3).push o4).objs.size=s1.heap.objs.size+4:=by rw[kJ,z3]
 generalize e5:({ cls:=.type "zip",data:=.fields #[.none,.bool false,.bool false,.ref ((s1.heap.push o1).push o2).objs.size,.ref (((s1.heap.push o1).push o2).push o3).objs.size] }:Obj)=o5;have g5:(((((s1.heap.push o1).push o2).push o3).push o4).push o5).get? ((((s1.heap.push o1).push o2).push o3).push o4).objs.size=some o5:=ef _ (by rw[<-e5];rfl);have g4:(((((s1.heap.push o1).push o2).push o3).push o4).push o5).get? (((s1.heap.push o1).push o2).push o3).objs.size=some o4:=b9 _ (ef _ (by rw[<-e4];rfl));have g3:(((((s1.heap.push o1).push o2).push o3).push o4).push o5).get? ((s1.heap.push o1).push o2).objs.size=some o3:=b9 _ (b9 _ (ef _ (by rw[<-e3];rfl)));have g2':(((((s1.heap.push o1).push o2).push o3).push o4).push o5).get? (s1.heap.push o1).objs.size=some o2:=b9 _ (b9 _ (b9 _ (at2 _)));have g1':(((((s1.heap.push o1).push o2).push o3).push o4).push o5).get? s1.heap.objs.size=some o1:=b9 _ (b9 _ (b9 _ (b9 _ (at1 _))));have kp:∀c o,s1.heap.get? c=some o->(((((s1.heap.push o1).push o2).push o3).push o4).push o5).get? c=some o:=λc o x=>b9 _ (b9 _ (b9 _ (b9 _ (b9 _ x))));rw[z4]at g5 ⊢;rw[z3]at g4 e5;rw[z2]at g3 e5;rw[z1]at g2' e3;generalize (((((s1.heap.push o1).push o2).push o3).push o4).push o5)=hN at *;show _/\_;subst e3 e4 e5;refine⟨⟨_,g5,Z⟩,wpAny_pyIter_zip (s:={ s1 with heap:=hN }) g5 ?_⟩;have I2:Inv X AC σ H1 { s1 with heap:=hN }:=I1.kept (t':=s1.toks) kp;obtain⟨t1,ami,C1,n1⟩:=c1 s1.heap.objs.size;obtain⟨t2,amj,C2,n2⟩:=c2 (s1.heap.objs.size+1);refine⟨s1.heap.objs.size+4,[s1.heap.objs.size+4,s1.heap.objs.size+2,s1.heap.objs.size+3,s1.heap.objs.size,s1.heap.objs.size+1],_,_,H1,Z,I2,Uh (Od lt1 lt2) C1 C2,⟨g5,g3,⟨_,_,g4⟩,n1 _ g1',n2 _ g2'⟩,λb hb=>?_,q⟩;have hb':b=s1.heap.objs.size+4\/b=s1.heap.objs.size+2\/b=s1.heap.objs.size+3\/b=s1.heap.objs.size\/b=s1.heap.objs.size+1:=by simpa using hb
 have le:s1.heap.objs.size<=b:=by
  rcases hb' with r|r|r|r|r
  .rw [r];exact rL _ _
  .rw [r];exact rL _ _
  .rw [r];exact rL _ _
  .rw [r];exact aK _
  .rw [r];exact rL _ _
 exact I1.CC le (I1.hok.fresh le)
def LX{id:String}(pa:PlainAttrs T)(slot:Slot T name id)(hty:typeOf (.builtin id)=pure (.type "method_descriptor"))(hm:MtR X id r)(ho:bE X o to)(hbase:attributeBase o name X.env (eval o X.env)=eval o X.env:=by rfl)(hline:(Bz.endLine==cpos.line)=true:=by rfl):bE X (.Call (.Attribute o name Bz) [] [] cpos) (aiJ X.K T r to):=by have ho:=ho.h;constructor;intro AC s σ H Q I h;refine Ri hbase hline (aZ (ho AC s σ H _ I h) λv s1 ⟨x,H1,I1,r1,ty,q1⟩=>?_);obtain⟨h1,h2⟩:=Tv I1 r1 ty;exact⟨T,id,pa,slot,hty,h1,h2,KA rfl (Rq (hm AC s1 σ H1 x [] v [] Q I1 r1 .nil q1))⟩
def aQ{op:CmpOp}{r:R2}(ho:jW X (compareOp op) r)(ha:bE X a ta)(hb:bE X b tb)(hm:behindInMarks op b=false):bT X (.Compare a [op] [b] pos) (DM (Cd r ta tb)):=by
 have ha:=ha.h;have hb:=hb.h;constructor;intro AC s σ H Q I h;refine wpAny_isTrue_Compare1 (aZ (ha AC s σ H _ I h) λv s1 ⟨x,H1,I1,r1,q1⟩=>aZ (hb AC s1 σ H1 _ I1 q1) λu s2 ⟨y,H2,I2,r2,q2⟩=>
  aZ (ho AC s2 σ H2 x y v u _ I2 r1 r2 q2) λc s3 ⟨z,H3,I3,r3,k,e,q3⟩=>?_) hm
 subst e;cases r3;exact Fw ⟨H3,I3,q3⟩
def aR{i:Nat}{x:Str}{e:Expr}{te:TE}{pos':Pos}(hN:X.N.Nodup)(he:bE X e te)(hi:X.N[i]?=some x:=by rfl)(hx:Loc X.env.scope x:=by first|exact Or.inl rfl|exact Or.inr rfl)(hs:swapsWith e (some (.Name x pos')) pos.line X.env=pure false:=by rfl)(hf:X.fn x=true\/X.env.scope.names.lookup x=some .local:=by first|exact .inl rfl|exact .inr rfl|assumption):bS X (.Assign [.Name x pos'] e pos) (VU te (pP i)):=by have he:=he.h;constructor;intro AC s σ H D I h;refine wpAny_Assign_Name (aZ (he AC s σ H _ I h) λv s1 ⟨y,H1,I1,r1,q1⟩=>?_) hs;exact yJ I1 hN hi hx r1 (λs2 I2=>⟨_,H1,I2,q1⟩) hf
theorem Qo{X:Cx}{pos:Pos}{keys:Da (Option Expr)}{values:Da Expr}{DQ:Da (TE×TE)}(h:Yg X pos keys values DQ)(hall:keys.all (·.isSome)=true)(hl:keys.length=values.length)(h0:keys≠[])(h15:keys.length<=15):bE X (.Dict keys values pos) (ae3 DQ):=by
 have h:=h.h;constructor;intro AC s σ H Q I q;have hn:=I.hok.fresh (aK s.heap.objs.size);have I1:=I.laid (a:=s.heap.objs.size) (o:=.dK []) (h':=s.heap.push { cls:=.type "dict",data:=.dict #[] }) (t':=s.toks) (λ_ _ q=>b9 _ q) (aK _) (CH s.heap I.big);refine wpAny_Dict_walk (knd:=dh X.prog X.w) hall hl h0 h15 (aZ (h AC _ σ _ _ I1 (q _ hn)) λws s2 ⟨ps,H2,I2,rel,e,AT,ep,lk,q2⟩=>?_);subst ep;obtain⟨rs,c,rk⟩:=DR (P:=X.prog) (w:=X.w) rel;obtain⟨z,hd,Uj,r0,dd⟩:=yM I2.hok e;cases r0;refine⟨rs,c,dd,λh' u9 hs=>⟨.ref s.heap.objs.size,_,?_,Z,q2⟩⟩;have hz:(u_ [] AT).length<=sizeLine:=by have h1:=zW AT [];rw[List.length_nil]at h1;rw[jY];omega
 have he:∃q,h'.get? s.heap.objs.size=some q:=let⟨q,_,_,hq,_⟩:=u9;⟨q,hq⟩;exact ya I2 (by rw[e];exact True.intro) hs he (Ao hz hd (rk.merge .nil) u9)
def dZ(K:Fg){tg l:Expr}{tl:TE}(hl:bE X l tl)(hK:X.K=K:=by rfl):bI X tg l (XR K tl):=by have hl:=hl.h;exact⟨hK▸Y8 hl⟩
def ki{X:Cx}{e:Expr}{t:TT}(h:bT X e t):bT X e (λσ H Q=>∃b:Bool,t σ H (λb' H'=>b'=b/\H'=H)/\Q b H):=by have h:=h.h;constructor;intro AC s σ H Q I hw;obtain⟨b,hb,q⟩:=hw;refine aZ (h AC s σ H _ I hb) λb' s' ⟨H',I',e1,e2⟩=>?_;subst e1 e2;exact⟨_,I',q⟩
def ay{st:Stmt}(h1:bS X st t):cU X [st] t:=by
 have h1:=h1.h;constructor;intro AC s σ H D I h;refine wpAny_execs_cons (aZ (h1 AC s σ H D I h) λf s1 q=>?_);cases f with
 | next=>exact Bt q
 | ret v=>exact q
 | brk=>exact q
 | cont=>exact q
def Qp(ho:bE X o td)(hi:bE X i ty):bS X (.Delete [.Subscript o i tpos] pos) (ae2 td ty):=by have ho:=ho.h;have hi:=hi.h;constructor;intro AC s σ H D I h;refine wpAny_Delete (wpAny_deleteEach_cons (wpAny_delete_Subscript (aZ (ho AC s σ H _ I h) λu s1 ⟨x,H1,I1,rx,q1⟩=>aZ (hi AC s1 σ H1 _ I1 q1) λiv s2 ⟨y,H2,I2,ry,a,AT,k,ex,e,ey,l,q2⟩=>?_)));subst ex ey;obtain rfl:u=Value.ref a:=rx;exact TH I2 e ry l λs3 I3=>wpAny_deleteEach_nil ⟨σ,_,I3,q2⟩
def AR(ha:bT X a tA):bT X (.UnaryOp .Not a pos) (aiv tA):=by have ha:=ha.h;constructor;intro AC s σ H Q I h;exact isTrue_not (ha AC s σ H (λc H1=>Q (!c) H1) I h)
def bO(he:bE X e te)(hs:swapsWith e none pos.line X.env=pure false:=by rfl):bS X (.Expr e pos) (aeJ te):=by have he:=he.h;constructor;intro AC s σ H D I h;exact wpAny_Expr_any (aZ (he AC s σ H _ I h) λv s1 ⟨x,H1,I1,r1,q1⟩=>⟨σ,H1,I1,q1⟩) I.quiet hs
def bZ{pl:Sem Bool}{j k:Nat}{C:Addr}{m:Str}{ps:Da Str}{sp:Sp}{o e:Expr}{es:Da Expr}{ta:TE}{t:TA}{Bz pos:Pos}(D:Mn X.prog X.w X.K X.mg X.base j C m ps sp)(hr:d8 k X.A)(ho:bE X o ta)(ha:bA X (e::es) t)(hj:j<=k:=by decide)(hst:starEach (e::es) X.env=(false,eval e X.env)::starEach es X.env:=by rfl)(hpl:(backTo pos (starEach es X.env)).any (·.1)=false:=by rfl)(ht:eval (.Call (.Attribute o m Bz) (e::es) [] pos) X.env=(do
   let ov <-eval o X.env
   standAt Bz.atName
   let(f,first) <-holding [ov] (getMethod ov m pl)
   callWith pos f first (backTo pos (starEach (e::es) X.env)) (backToKw pos (keywordEach [] X.env))):=by rfl):bE X (.Call (.Attribute o m Bz) (e::es) [] pos) (yL C m sp [] E0 ta t):=by
 have ho:=ho.h;have ha:=ha.h;constructor
 obtain⟨f,fd,F,b,hm,c⟩:=D.ex
 exact PK (pl:=pl) ho c hm F (hr.mono hj) b .nil (λ_ _ _ _ _ _ _ h=>h.elim) ha hst hpl ht
def cC{e:Expr}{es:Da Expr}{t:TG}{u:DI}(h1:bG X e t)(h2:Ye X es u)(hs:(assignEach (e::es) X.env).map (·.2)=assign e X.env::(assignEach es X.env).map (·.2):=by rfl):Ye X (e::es) (XO t u):=by
 have h1:=h1.h;have h2:=h2.h;constructor;intro AC s σ H vs us Q I r h;obtain⟨v,vr,e1,h⟩:=h;subst e1;cases r with
 | cons r rr=>rw[hs];refine assignInOrder_cons (aZ (h1 AC s σ H _ _ _ I r h) λ_ s1 ⟨σ1,H1,I1,q1⟩=>?_);exact h2 AC s1 σ1 H1 _ _ Q I1 rr q1
def pA{i:Nat}{x:Str}{px pos':Pos}{tg Bn elt:Expr}{scope:Scope}{pos:Pos}(N2:Da Str)(ix:Da (Option Nat)){wi:TI}{g:TG}{te:TE}(hN:X.N.Nodup)(hi:X.N[i]?=some x)(hx:X.env.scope.names.lookup x=some .local)(hc:X.calm=true)(hit:bI X tg Bn wi)(hg:∀cl s₂ H₂ fp,bG (cJ X N2 scope cl s₂ H₂ fp) tg g)(he:∀cl s₂ H₂ fp,bE (cJ X N2 scope cl s₂ H₂ fp) elt te)(hk:scope.kind =.function)(hn:nH X.N X.env.scope.names scope.names N2 ix=true)(hw:swapsWith (.ListComp elt [⟨tg,Bn,[],0⟩] scope pos) (some (.Name x px)) pos'.line X.env=pure true)(hs:∀x,foldedSetIterable Bn X.env x=pure x:=by intro _;rfl):bS X (.Assign [.Name x px] (.ListComp elt [⟨tg,Bn,[],0⟩] scope pos) pos') (VU (X3 wi ix g te) (pP i)):=by
 have hit:=hit.h;have hg:=λcl s₂ H₂ fp=>(hg cl s₂ H₂ fp).h;have he:=λcl s₂ H₂ fp=>(he cl s₂ H₂ fp).h;constructor;intro AC s σ H D I h;obtain⟨k1,k2,k3,k4,k5⟩:=kL hn;obtain⟨cl,Lh,c1,c2⟩:=uF (scope:=scope) (env:=X.env) λy hy e=>I.ok.has y.1 (k3 y hy e);rw[exec_Assign_Name_used _ _ _ _ hw];refine az (yE (az ?_));show wpAny _ X.A (do let _ <-comprehension (.ListComp elt [⟨tg,Bn,[],0⟩] scope pos) scope X.env _ (newList []) false (eval Bn X.env) (some (assign (.Name x px) X.env))) _ _ s;refine az (aZ (Rc (use:=some (assign (.Name x px) X.env)) (Q:=λ_ s'=>SP X AC D .next s') rfl hs Lh hk k4 (aZ (hit AC s σ H _ I h) λv s1 h1=>aZ h1 λitv s2 h2=>?_)) λ_ s' hq=>aT (aT hq));obtain⟨it,fp,tn,J,H2,e,I2,T,st2,f2,h2⟩:=h2;subst e;refine DW (RR:=λAp C=>compPost (model X.prog X.w) X.A X.xe (some (assign (.Name x px) X.env)) (λ_ s'=>SP X AC D .next s') Ap C) (Q:=λv H'=>D.nx (σ.set i (some v)) H') hc hg he hk hn (λy c m=>(c1 y c m).1) c2 I2 T st2 f2 h2 ?_;intro Ap C H' s' m I' ns yb hL hsz sU yS q;show wpAny _ X.A (assign (.Name x px) X.env (.ref Ap)) _ _ _;refine wpAny_assign_Name (Hw I' hN hi (.inl hx) (v:=.ref Ap) rfl (λs3 I3 ⟨a,sb,ha⟩=>?_) (.inr hx));have ca:C≠a:=by
  rcases ha with z|z
  .rw [z];exact hL
  .exact λe=>sU x a z e.symm
 exact⟨m,ns.sameBut sb ca,λh' hs'=>⟨_,H',I3.turned (it:=C) (t':=s3.toks) (λb o hb e=>(hs'.2 b hb).trans e) yb hL (.inr hsz) sU yS,q⟩⟩
def qT{X:Cx}{pos:Pos}{k v:Expr}{ks:Da (Option Expr)}{vs:Da Expr}{tk tv:TE}{DQ:Da (TE×TE)}(hk:bE X k tk)(hv:bE X v tv)(hr:Yg X pos ks vs DQ):Yg X pos (some k::ks) (v::vs) ((tk,tv)::DQ):=by
 have hk:=hk.h;have hv:=hv.h;have hr:=hr.h;exact⟨λAC s σ H Q I h=>
 pairTrees_cons_walk (aZ (hk AC s σ H _ I h) λu s1 ⟨x,H1,I1,rx,q1⟩=>aZ (hv AC s1 σ H1 _ I1 q1) λw2 s2 ⟨y,H2,I2,ry,q2⟩=>
  aZ (hr AC s2 σ H2 _ I2 q2) λws s3 ⟨ps,H3,I3,rel,q3⟩=>⟨(x,y)::ps,H3,I3,.cons ⟨rx,ry⟩ rel,q3⟩)⟩
def AS(hu:X.A.units+1<cLine)(hi:bE X i ty)(ho:bE X o td):bC X .NotIn i o (Zm ty td):=by have hi:=hi.h;have ho:=ho.h;constructor;intro AC s σ H Q I h;refine aZ (hi AC s σ H _ I h) λiv s1 ⟨y,H1,I1,ry,q1⟩=>aZ (ho AC s1 σ H1 _ I1 q1) λu s2 ⟨x,H2,I2,rx,a,ov,ex,g,q2⟩=>?_;subst ex;obtain rfl:u=Value.ref a:=rx;exact Zj hu I2 g ry λs3 I3=>⟨.bl (!ov.isSome),H2,I3,Z,q2⟩
def xh{b j pos}:bE X (.Constant (.bool b) j pos) (tC (.bl b)):=by exact⟨λ_ _ _ H _ I h=>Constant_bool ⟨.bl b,H,I,Z,h⟩⟩
def f_{pl:Sem Bool}{j k:Nat}{C:Addr}{m:Str}{ps:Da Str}{sp:Sp}{o:Expr}{ta:TE}{Bz pos:Pos}(D:Mn X.prog X.w X.K X.mg X.base j C m ps sp)(hr:d8 k X.A)(ho:bE X o ta)(hj:j<=k:=by decide)(ht:eval (.Call (.Attribute o m Bz) [] [] pos) X.env=(do
   let ov <-eval o X.env
   standAt Bz.atName
   let(f,first) <-holding [ov] (getMethod ov m pl)
   callWith pos f first (backTo pos (starEach [] X.env)) (backToKw pos (keywordEach [] X.env))):=by rfl):bE X (.Call (.Attribute o m Bz) [] [] pos) (yL C m sp [] E0 ta tP):=by
 have ho:=ho.h;constructor
 obtain⟨f,fd,F,b,hm,c⟩:=D.ex
 exact V_ (pl:=pl) ho c hm F (hr.mono hj) b .nil (λ_ _ _ _ _ _ _ h=>h.elim) ht
def bh(he:bE X e te):bS X (.Return (some e) pos) (aix te):=by have he:=he.h;constructor;intro AC s σ H D I h;exact wpAny_Return_some (aZ (he AC s σ H _ I h) λv s1 ⟨x,H1,I1,r1,q1⟩=>⟨x,σ,H1,I1,r1,q1⟩)
theorem mF{tg:Expr}{a:Expr}{ta:TA}{p pos:Pos}(hg:Gl X "range")(hm:X.mg "range"=none)(ha:bA X [a] ta)(hs:starEach [a] X.env=[(false,eval a X.env)] :=by rfl):bI X tg (.Call (.Name "range" p) [a] [] pos) (aeQ ta):=by
 have ha:=ha.h;constructor;intro AC s σ H R I h;refine Call_ (x9 I hg hm boot_range (SQ (aZ (ha pos AC s σ H _ I h) λus s1 ⟨vs,H1,I1,r1,q1⟩=>?_) hs rfl));obtain⟨j,e,q1,q2,q⟩:=q1;subst e;cases r1 with
 | cons r rr=>cases rr;obtain⟨t,rfl⟩:=r;exact call_range_1 (V1 I1 (by omega) (by omega) q1 q2 (by simpa using q))
def bJ:cU X [] aeI:=by exact⟨λ_ _ σ H _ I h=>Bt ⟨σ,H,I,h⟩⟩
def cK(K:Fg){o value:Expr}{f:Str}{ta tv:TE}{pos pos':Pos}(ha:bE X o ta)(hv:bE X value tv)(hs:swapsWith value (some (.Attribute o f pos')) pos.line X.env=pure false:=by rfl)(hK:X.K=K:=by rfl):bS X (.Assign [.Attribute o f pos'] value pos) (aaS K ta tv f):=by have ha:=ha.h;have hv:=hv.h;exact⟨hK▸aaV ha hv hs⟩
theorem Ip{tg:Expr}{a b c:Expr}{ta:TA}{p pos:Pos}(hg:Gl X "range")(hm:X.mg "range"=none)(ha:bA X [a,b,c] ta)(hs:starEach [a,b,c] X.env=[(false,eval a X.env),(false,eval b X.env),(false,eval c X.env)] :=by rfl)(hs2:starEach [b,c] X.env=[(false,eval b X.env),(false,eval c X.env)] :=by rfl):bI X tg (.Call (.Name "range" p) [a,b,c] [] pos) (afb ta):=by
 have ha:=ha.h;constructor;intro AC s σ H R I h;refine Call_ (x9 I hg hm boot_range (SQ (aZ (ha pos AC s σ H _ I h) λus s1 ⟨vs,H1,I1,r1,q1⟩=>?_) (by rw[hs,hs2]) (by rw[hs2];rfl)));obtain⟨i,j,k,e,⟨q1,q2,q3,q4,q5,q6⟩,q⟩:=q1;subst e;cases r1 with
 | cons r rr=>
  cases rr with
  | cons r' rr=>
   cases rr with
   | cons r'' rr=>
    cases rr;obtain⟨t,rfl⟩:=r;obtain⟨t',rfl⟩:=r';obtain⟨t'',rfl⟩:=r'';obtain⟨sm,sz⟩:=Og q1 q2 q3 q4 q5 q6;refine call_range_3 (by omega) ?_ (Or.inl (PyProof.noPylong_small (by omega)));refine wpAny_pyIter_range (IsRange.new ..) sm ?_;have I2:Inv X AC σ H1 { s1 with heap:=s1.heap.push { cls:=.type "range",data:=.fields #[.int i t,.int j t',.int k t''] },toks:=s1.toks }:=I1.kept λb o e=>b9 _ e;refine⟨(s1.heap.push { cls:=.type "range",data:=.fields #[.int i t,.int j t',.int k t''] }).objs.size,[(s1.heap.push { cls:=.type "range",data:=.fields #[.int i t,.int j t',.int k t''] }).objs.size],_,_,H1,Z,
     I2.kept (t':=s1.toks) λb o e=>b9 _ e,Of _ i k (qM i j k),?_,λb hb=>?_,q⟩
    .have e1:i+((0:Nat):Int)*k=i:=by simp
     have e2:((qM i j k:Nat):Int)-((0:Nat):Int)=Builtin.Range.rangeSize i j k:=by unfold qM;omega
     show IsRangeIter _ _ (i+((0:Nat):Int)*k) (((qM i j k:Nat):Int)-((0:Nat):Int)) k;rw[e1,e2];exact ef _ rfl
    .have e:b=(s1.heap.push { cls:=.type "range",data:=.fields #[.int i t,.int j t',.int k t''] }).objs.size:=by simpa using hb
     subst e;exact I2.CC (aK _) (I2.hok.fresh (aK _))
def UD{a:Expr}{ta:TA}{p pos:Pos}(hg:Gl X "range")(hm:X.mg "range"=none)(ha:bA X [a] ta)(hs:starEach [a] X.env=[(false,eval a X.env)] :=by rfl):bE X (.Call (.Name "range" p) [a] [] pos) (aiR ta):=by have ha:=ha.h;constructor;intro AC s σ H Q I h;refine Call_ (x9 I hg hm boot_range (SQ (aZ (ha pos AC s σ H _ I h) λus s1 ⟨vs,H1,I1,r1,q1⟩=>?_) hs rfl));obtain⟨j,e,q⟩:=q1;subst e;obtain⟨u,rfl,ru⟩:=vals1 r1;obtain⟨t,rfl⟩:=ru;exact call_range_1 ⟨.ref s1.heap.objs.size,_,I1.laid (a:=s1.heap.objs.size) (o:=.wN 0 j) (λb o e=>b9 _ e) (aK _) ⟨_,_,_,ef _ rfl⟩,Z,q _ I1.fresh⟩
def iE(h:bA X es t):bE X (.List es pos) (aiH t):=by have h:=h.h;constructor;intro AC s σ H Q I hq;refine wpAny_List_spliced (aZ (h pos AC s σ H _ I hq) λus s1 ⟨xs,H1,I1,r,z,q⟩=>⟨by rw[<-r.length];exact z,?_⟩);have hf:H1 s1.heap.objs.size=none:=I1.hok.fresh (aK _);refine⟨.ref s1.heap.objs.size,upd H1 s1.heap.objs.size (.lst xs),I1.laid (t':=s1.toks) (λb u e=>b9 _ e) (aK _) ?_,Z,q _ hf⟩;exact⟨z,us,0,r,ef _ rfl⟩
def qd(K:Fg){o value:Expr}{f:Str}{ta tv:TE}{pos tpos:Pos}{op:Operator}{rd:V->V->Hp->VK->Prop}(ha:bE X o ta)(hv:bE X value tv)(hop:KS X op rd)(hK:X.K=K:=by rfl):bS X (.AugAssign (.Attribute o f tpos) op value pos) (PF K ta tv rd f):=by have ha:=ha.h;have hv:=hv.h;exact⟨hK▸Ti ha hv hop⟩
def ab3{j pos}:bE X (.Constant .none j pos) (tC .cI):=by exact⟨λ_ _ _ H _ I h=>Constant_none ⟨.cI,H,I,Z,h⟩⟩
def FZ{ob:Expr}{td:TE}{Bz cpos:Pos}(hob:bE X ob td)(hbase:attributeBase ob "values" X.env (eval ob X.env)=eval ob X.env:=by rfl)(hline:(Bz.endLine==cpos.line)=true:=by rfl):bE X (.Call (.Attribute ob "values" Bz) [] [] cpos) (afd td):=by have hob:=hob.h;constructor;intro AC s σ H Q I h;refine Ri hbase hline (aZ (hob AC s σ H _ I h) λv s1 ⟨x,H1,I1,r1,q1⟩=>?_);obtain⟨d,AT,rfl,e,fin⟩:=q1;cases r1;obtain⟨t1,t2,hsys⟩:=K9 I1 (.inl ⟨AT,e⟩);obtain⟨hz,_,vs,rel,dd⟩:=rT I1.hok e;refine⟨"dict",_,F.plainAttrs_dict,Rx,F.type_dict_values,t1,t2,KA rfl (Rq ?_)⟩;refine call_meetsIn Rx dd.typeIs F.entry_dict_values (F.args_dict_values_1 _) (meets_dict_values (dh X.prog X.w) d hsys) ⟨⟨vs,dd⟩,?_⟩;refine⟨.ref s1.heap.objs.size,_,I1.laid (t':=s1.toks) (o:=lR s1.heap.objs.size d) (λb u e=>b9 _ e) (aK _) ?_,Z,fin _ I1.fresh⟩;refine⟨⟨_,ef _ rfl,Z,Z⟩,⟨_,ef _ rfl⟩,λh1 h2 ⟨o,a,b⟩ k=>⟨o,k o a,b⟩⟩
def Sg{j k:Nat}{x:Str}{C:Addr}{ps:Da Str}{sp:Sp}{e:Expr}{es:Da Expr}{t:TA}{p pos:Pos}(D:Cn X.prog X.w X.K X.mg X.base j x C ps sp)(hr:d8 k X.A)(ha:bA X (e::es) t)(hj:j+1<=k:=by decide)(hg:Gl X x:=by rfl)(hdb:(x==("__debug__":Str))=false:=by decide)(he:starEach (e::es) X.env=(false,eval e X.env)::starEach es X.env:=by rfl)(hpl:(backTo pos (starEach es X.env)).any (·.1)=false:=by rfl):bE X (.Call (.Name x p) (e::es) [] pos) (Ko C sp [] E0 t):=by have ha:=ha.h;constructor;obtain⟨f,fd,F,b,M,m⟩:=D.ex;exact Zg M F (hr.mono hj) hg m b .nil (λ_ _ _ _ _ _ _ h=>h.elim) ha hdb he hpl
def ZV{x:Str}{v:V}{u:Value}{pos:Pos}(hg:Gl X x)(hm:X.mg x=some u)(r:RelV v u)(hd:(x==("__debug__":Str))=false:=by decide):bE X (.Name x pos) (tC v):=by exact⟨λ_ _ _ H _ I h=>uL I hg hm ⟨v,H,I,r,h⟩ hd⟩
def fD(hc:i_ X (.type T) r)(hg:Gl X x)(hm:X.mg x=none)(hv:bootBuiltins x=some (.type T))(ha:bA X (e::es) t)(hn:x ≠ "__name__":=by decide)(hdb:(x==("__debug__":Str))=false:=by decide)(he:starEach (e::es) X.env=(false,eval e X.env)::starEach es X.env:=by rfl)(hpl:(backTo pos (starEach es X.env)).any (·.1)=false:=by rfl):bE X (.Call (.Name x p) (e::es) [] pos) (tCB r t):=by have ha:=ha.h;constructor;intro AC s σ H Q I h;refine KH (x9 I hg hm hv ?_ hn hdb);exact SQ (aZ (ha pos AC s σ H _ I h) λus s1 ⟨vs,H1,I1,r1,q1⟩=>hc AC s1 σ H1 vs us Q I1 r1 q1) he hpl
def BS{Cl:Da Expr}(ha:bT X a tA)(hb:bW X (.BoolOp .Or (b::Cl) pos) XJ):bW X (.BoolOp .Or (a::b::Cl) pos) (tOr tA XJ):=by
 have ha:=ha.h;have hb:=hb.h;constructor;intro wh AC s σ H Q I h;refine isTrue_or (aZ (ha AC s σ H _ I h) λc s1 ⟨H1,I1,q1⟩=>?_);cases c with
 | true=>exact⟨H1,I1,q1⟩
 | false=>exact hb wh AC s1 σ H1 Q I1 q1
def qU(ha:bT X a tA):bW X (.BoolOp .And [a] pos) tA:=by
 have ha:=ha.h;constructor;intro wh AC s σ H Q I h;refine isTrue_and (aZ (ha AC s σ H Q I h) λc s1 e=>?_);cases c with
 | true=>exact isTrue_and_nil e
 | false=>exact e
def cN{c:Expr}{a b:Da Stmt}{tc:TT}(hc:bT X c tc)(ha:cU X a t)(hb:cU X b u):bS X (.If c a b pos) (aaz tc t u):=⟨XM hc.h ha.h hb.h⟩
def ab4{i j:Nat}{x y:Str}{a b:Expr}{ta:TA}{px py pt:Pos}{kt k2 pt2}(hc:X.calm=true)(hN:X.N.Nodup)(hi:X.N[i]?=some x)(hj:X.N[j]?=some y)(hij:i≠j)(hx:X.env.scope.names.lookup x=some .local)(hy:X.env.scope.names.lookup y=some .local)(ha:bA X [a,b] ta)(hw:swappedStores [.Tuple [.Name x px,.Name y py] kt pt] (.Tuple [a,b] k2 pt2) X.env=pure (some [x,y]))(hs:swapsWithSole [.Tuple [.Name x px,.Name y py] kt pt] (.Tuple [a,b] k2 pt2) pos.line X.env=pure false:=by rfl):bS X (.Assign [.Tuple [.Name x px,.Name y py] kt pt] (.Tuple [a,b] k2 pt2) pos) (aiz i j ta):=by
 have ha:=ha.h;constructor;intro AC s σ H D I h;rw[exec_Assign_arm];refine az (yE ?_);rw[hs];refine az (aT ?_);rw[aC (by decide)];refine az (Tuple_ (aZ (ha _ AC s σ H _ I h) λus s1 ⟨vs,H1,I1,r1,q1⟩=>?_));obtain⟨v,w,e1,q1⟩:=q1;subst e1;obtain⟨u1,u2,rfl,rv,rw'⟩:∃u1 u2,us=[u1,u2]/\RelV v u1/\RelV w u2:=by
  cases r1 with
  | cons p q=>
   cases q with
   | cons p' q'=>cases q';exact⟨_,_,Z,p,p'⟩
 refine xC ?_ (by show 2<=sizeLine;decide);have I2:Inv X AC σ H1 { s1 with heap:=s1.heap.push { cls:=.type "tuple",data:=.seq [u1,u2].toArray } }:=I1.kept (t':=s1.toks) λb o e=>b9 _ e;rw[hw];refine az (aT ?_);show wpAny (model X.prog X.w) X.A (do rule "assign.swapped-stores";let items <-unpackItems (.ref s1.heap.objs.size) 2 none;assignInOrder [λv=>bindName X.env y v,λv=>bindName X.env x v] items.reverse;pure Flow.next) _ _ _;refine az (wpAny_rule (az (unpackItems_tuple (items:=#[u1,u2]) (I.ok.hd hc) (IsTup.new s1.heap _) λh' hx'=>?_)));have I3:=I2.kept (h':=h') (t':=s1.toks) λb o e=>hx' b o (d7 (bM e)) e;show wpAny _ _ (assignInOrder [λv=>bindName X.env y v,λv=>bindName X.env x v] [u2,u1] >>= λ_=>pure Flow.next) _ _ _;refine az (assignInOrder_cons (wpAny_bindName (yJ I3 hN hj (.inl hy) rw' (λs2 I4=>?_) (.inr hy))));refine assignInOrder_cons (wpAny_bindName (yJ I4 hN hi (.inl hx) rv (λs3 I5=>assignInOrder_nil (aT ?_)) (.inr hx)));rw[List.set_comm _ _ (bB hij)]at I5;exact⟨_,H1,I5,q1⟩
def kj{c:Expr}{a b:Da Stmt}{tc:TT}{t u:TS}(hc:bT X c tc)(ha:cU X a t)(hb:cU X b u):bS X (.If c a b pos) (abl tc t u):=by
 have hc:=hc.h;have ha:=ha.h;have hb:=hb.h;constructor;intro AC s σ H D I h;obtain⟨J,h,hJ⟩:=h;refine aZ (XM hc ha hb AC s σ H { D with nx:=J } I h) λf s' q=>?_;cases f with
 | next=>obtain⟨σ',H',I',q⟩:=q;exact⟨σ',H',I',hJ _ _ q⟩
 | cont=>exact q
 | brk=>exact q
 | ret v=>exact q
def aj{st:Stmt}{Cl:Da Stmt}(h1:bS X st t)(h2:cU X Cl u):cU X (st::Cl) (i9 t u):=by
 have h1:=h1.h;have h2:=h2.h;constructor;intro AC s σ H D I h;refine wpAny_execs_cons (aZ (h1 AC s σ H { D with nx:=u D } I h) λf s1 q=>?_);cases f with
 | next=>obtain⟨σ',H',I',q⟩:=q;exact h2 AC s1 σ' H' D I' q
 | ret v=>exact q
 | brk=>exact q
 | cont=>exact q
theorem ab6(K:Fg){e st:Expr}{te ts:TE}{pos p2:Pos}(he:bE X e te)(hst:bE X st ts)(hK:X.K=K:=by rfl):bE X (.Subscript e (.Slice none none (some st) p2) pos) (aiS K te ts):=by have he:=he.h;have hst:=hst.h;constructor;subst hK;intro AC s σ H Q I h;refine Subscript_ (aZ (he AC s σ H _ I h) λv s1 ⟨x,H1,I1,r1,q1⟩=>?_);refine wpAny_Slice ?_;rw[evalPart_none];refine aT (aT ?_);rw[evalPart_some];refine aZ (hst AC s1 σ H1 _ I1 q1) λw3 s3 ⟨y,H3,I3,r3,q3⟩=>?_;obtain⟨ey,a,xs,rfl,hx,q⟩:=q3;subst ey;obtain⟨t,rfl⟩:=r3;cases r1;have I4:Inv X AC σ H3 { s3 with heap:=s3.heap.push { cls:=.type "slice",data:=.fields #[.none,.none,.int (-1) t] } }:=I3.kept (t':=s3.toks) λb ob q=>b9 _ q;obtain⟨BT,r,ht,hz⟩:=I4.list hx;have hlen:=r.length;refine tail_any (ops:=[.ref a,.ref s3.heap.objs.size]) ht.isList.typeIs slot_list_getitem.lookup ?_ (by with_unfolding_all rfl);refine wpAny_getItem_list_slice ht.isList (Heap.IsSliceOf.new ..) .none .none (.int (-1) t) (by decide) ?_ (by rw[iR] <;> omega);rw[PySem.W.krv_pick];refine⟨.ref _,_,I4.laid (t':=s3.toks) (o:=.lst xs.reverse) (λb ob q=>b9 _ q) (aK _) ?_,Z,q _ I4.fresh⟩;exact⟨by rw[List.length_reverse];exact hz,BT.reverse,0,r.reverse,ef _ rfl⟩
def iM(K:Fg){X:Cx}{es:Da Expr}{k:Nat}{t:DI}{n:Nat}{pos:Pos}(hc:X.calm=true)(h:Ye X es t)(hK:X.K=K:=by rfl)(hn:(assignEach es X.env).length=n:=by rfl)(hst:(assignEach es X.env).findIdx? (·.1)=none:=by rfl):bG X (.Tuple es k pos) (Af K n t):=by have h:=h.h;exact⟨hK▸aaE hc h hn hst⟩
def di(hu:X.A.units+1<cLine)(ho:bE X o td)(hi:bE X i ty)(hs:abc i:=by exact λ_ _=>rfl):bE X (.Subscript o i pos) (XX td ty):=by have ho:=ho.h;have hi:=hi.h;constructor;intro AC s σ H Q I h;refine Zk PySem.F.slot_dict_getitem.lookup hs (aZ (ho AC s σ H _ I h) λu s1 ⟨x,H1,I1,rx,q1⟩=>aZ (hi AC s1 σ H1 _ I1 q1) λiv s2 ⟨y,H2,I2,ry,a,v,ex,g,q2⟩=>?_);subst ex;obtain rfl:u=Value.ref a:=rx;exact⟨Ob I2 g,Tz hu I2 g ry λw' s3 I3 rw'=>⟨v,H2,I3,rw',q2⟩⟩
def aq:bA X [] tP:=⟨Tj⟩
def ZW{K:Fg}{pl:Sem Bool}{j k:Nat}{C:Addr}{m:Str}{ps:Da Str}{sp:Sp}{o e:Expr}{es:Da Expr}{ta:TE}{t:TA}{Bz pos:Pos}(D:Mx P w K mg base j C m ps sp)(hr:d8 k (dM (jD P w) P w K mg base N qual scope f cd A outer s0 H0 E).A)(ho:bE (dM (jD P w) P w K mg base N qual scope f cd A outer s0 H0 E) o ta)(ha:bA (dM (jD P w) P w K mg base N qual scope f cd A outer s0 H0 E) (e::es) t)(hj:j<=k:=by decide)(hst:starEach (e::es) (dM (jD P w) P w K mg base N qual scope f cd A outer s0 H0 E).env=(false,eval e (dM (jD P w) P w K mg base N qual scope f cd A outer s0 H0 E).env)::starEach es (dM (jD P w) P w K mg base N qual scope f cd A outer s0 H0 E).env:=by rfl)(hpl:(backTo pos (starEach es (dM (jD P w) P w K mg base N qual scope f cd A outer s0 H0 E).env)).any (·.1)=false:=by rfl)(ht:eval (.Call (.Attribute o m Bz) (e::es) [] pos) (dM (jD P w) P w K mg base N qual scope f cd A outer s0 H0 E).env=(do
   let ov <-eval o (dM (jD P w) P w K mg base N qual scope f cd A outer s0 H0 E).env
   standAt Bz.atName
   let(f2,first) <-holding [ov] (getMethod ov m pl)
   callWith pos f2 first (backTo pos (starEach (e::es) (dM (jD P w) P w K mg base N qual scope f cd A outer s0 H0 E).env)) (backToKw pos (keywordEach [] (dM (jD P w) P w K mg base N qual scope f cd A outer s0 H0 E).env))):=by rfl):bE (dM (jD P w) P w K mg base N qual scope f cd A outer s0 H0 E) (.Call (.Attribute o m Bz) (e::es) [] pos) (yL C m sp [] E ta t):=by
 have ho:=ho.h;have ha:=ha.h;constructor
 obtain⟨f',fd,F,b,hm,c⟩:=D.ex
 exact PK (pl:=pl) ho c hm F (hr.mono hj) b .nil afp ha hst hpl ht
def ak{i j pos}:bE X (.Constant (.int i) j pos) (tC (.int i)):=by exact⟨λ_ _ _ H _ I h=>wpAny_Constant_int ⟨.int i,H,I.tok _,⟨_,Z⟩,h⟩⟩
def ab7{Cl:Da Expr}(ha:bE X a ta)(hb:bE X (.BoolOp .And (b::Cl) pos) tb):bE X (.BoolOp .And (a::b::Cl) pos) (aeH ta tb):=by
 have ha:=ha.h;have hb:=hb.h;constructor;intro AC s σ H Q I h;refine BoolOp_and (aZ (ha AC s σ H _ I h) λv s1 ⟨x,H1,I1,r1,q1⟩=>?_);obtain⟨c,rfl,q1⟩:=q1;cases r1;refine Fw ?_;cases c with
 | true=>exact hb AC s1 σ H1 Q I1 q1
 | false=>exact⟨.bl false,H1,I1,Z,q1⟩
def qV:bE X (.Dict [] [] pos) abg:=by
 exact⟨λAC s σ H Q I h=>
 wpAny_Dict_empty ⟨.ref s.heap.objs.size,_,I.laid (a:=s.heap.objs.size) (o:=.dK []) (t':=s.toks) (λ_ _ q=>b9 _ q) (aK _) (CH s.heap I.big),Z,h _ (I.hok.fresh (aK _))⟩⟩
def nJ{tg e:Expr}{te:TE}{g:TG}(he:bE X e te)(hg:bG X tg g)(hs:swapsWithSole [tg] e pos.line X.env=pure false:=by rfl)(hw:swappedStores [tg] e X.env=pure none:=by rfl)(h1:(assignEach [tg] X.env).map (·.2)=[assign tg X.env] :=by rfl):bS X (.Assign [tg] e pos) (VU te g):=by have he:=he.h;have hg:=hg.h;constructor;intro AC s σ H D I h;refine wpAny_Assign_stores (aZ (he AC s σ H _ I h) λv s1 ⟨x,H1,I1,r1,q1⟩=>?_) hs hw;rw[h1];exact aZ (hg AC s1 σ H1 x v _ I1 r1 q1) λ_ s2 q=>q
def zu{DD:Da Expr}{kk:Nat}{tpos:Pos}{ob:Expr}{td:TE}{Bz cpos:Pos}(hob:bE X ob td)(hbase:attributeBase ob "items" X.env (eval ob X.env)=eval ob X.env:=by rfl)(hline:(Bz.endLine==cpos.line)=true:=by rfl):bI X (.Tuple DD kk tpos) (.Call (.Attribute ob "items" Bz) [] [] cpos) (abx td):=by
 have hob:=hob.h;constructor;intro AC s σ H R I h;refine Ri hbase hline (aZ (hob AC s σ H _ I h) λv s1 ⟨x,H1,I1,r1,q1⟩=>?_);obtain⟨d,o,AT,rfl,e,fin⟩:=q1;cases r1;obtain⟨ho,hz,hsys,vs,ep,rel,da⟩:=I1.rV e;obtain⟨t1,t2,_⟩:=K9 I1 (.inl ⟨AT,.inr ⟨o,e⟩⟩);have dd:=da.dictOf;refine⟨"dict",_,F.plainAttrs_dict,F.slot_dict_items,F.type_dict_items,t1,t2,KA rfl (Rq ?_)⟩;refine call_meetsIn F.slot_dict_items dd.typeIs F.entry_dict_items (F.args_dict_items_1 _) (meets_dict_items (dh X.prog X.w) d hsys) ⟨⟨vs,dd⟩,?_⟩;refine wpAny_pyIter_items (s:={ s1 with heap:=s1.heap.push { cls:=.type "dict_items",data:=.fields #[.ref d] } }) ⟨_,ef _ rfl,Z,Z⟩ (da.push _) ?_;have Iv:Inv X AC σ H1 { s1 with heap:=s1.heap.push { cls:=.type "dict_items",data:=.fields #[.ref d] } }:=I1.kept (t':=s1.toks) λb o e=>b9 _ e;generalize ({ s1 with heap:=s1.heap.push { cls:=.type "dict_items",data:=.fields #[.ref d] } }:Shared)=sv at *;have I2:Inv X AC σ H1 { sv with heap:=sv.heap.push { cls:=.type "dict_itemiterator",data:=.fields #[.none,.bool false,.ref d,.int 0 0,.int vs.length 0,.int ep 0,.none,.none] } }:=Iv.kept (t':=sv.toks) λb o e=>b9 _ e;have hl:AT.length=vs.length:=rel.length;obtain⟨o',es,h1,_,h2,_⟩:=id da;rw[ho]at h1;cases h1;refine⟨sv.heap.objs.size,[sv.heap.objs.size],_,_,H1,Z,I2,RX h2,?_,λb hb=>?_,fin⟩
 .rw [hl];exact⟨_,_,ef _ rfl⟩
 .have eb:b=sv.heap.objs.size:=by simpa using hb
  subst eb;exact Iv.CC (aK _) (Iv.hok.fresh (aK _))
def ab8{tg:Expr}{l:Expr}{tl:TE}(hl:bE X l tl):bI X tg l (abp tl):=⟨abq hl.h⟩
def yk(ha:bT X a tA):bW X (.BoolOp .Or [a] pos) tA:=by
 have ha:=ha.h;constructor;intro wh AC s σ H Q I h;refine isTrue_or (aZ (ha AC s σ H Q I h) λc s1 e=>?_);cases c with
 | false=>exact isTrue_or_nil e
 | true=>exact e
def yl{X:Cx}{st:Stmt}{t:TS}(h:bS X st t):bS X st (aiT t):=by
 have h:=h.h;constructor;intro AC s σ H D I hw;obtain⟨d,AT,e,hw⟩:=hw;obtain⟨ho,es,ep,h1,_⟩:=(yM I.hok e).2.2.choose_spec.2;have h0:=I.Ub e;refine aZ (h AC s σ _ _ (I.freeze e h1) (hw ho)) λf s' q=>?_;cases f with
 | next=>obtain⟨σ',H',I',q1,q2⟩:=q;exact⟨σ',_,I'.CK q1 h0,q2⟩
 | brk=>obtain⟨σ',H',I',q1,q2⟩:=q;exact⟨σ',_,I'.CK q1 h0,q2⟩
 | cont=>obtain⟨σ',H',I',q1,q2⟩:=q;exact⟨σ',_,I'.CK q1 h0,q2⟩
 | ret u=>obtain⟨v,σ',H',I',r,q1,q2⟩:=q;exact⟨v,σ',_,I'.CK q1 h0,r,q2⟩
def uR(hu:X.A.units+1<cLine)(ho:bE X o td)(hi:bE X i ty)(hv:bE X value tv)(hs:swapsWith value (some (.Subscript o i pos')) pos.line X.env=pure false):bS X (.Assign [.Subscript o i pos'] value pos) (ae1 td ty tv):=by have ho:=ho.h;have hi:=hi.h;have hv:=hv.h;constructor;intro AC s σ H D I h;refine wpAny_Assign_Subscript (aZ (hv AC s σ H _ I h) λr s1 ⟨v,H1,I1,rv,q1⟩=>aZ (ho AC s1 σ H1 _ I1 q1) λu s2 ⟨x,H2,I2,rx,q2⟩=>aZ (hi AC s2 σ H2 _ I2 q2) λiv s3 ⟨y,H3,I3,ry,a,H4,ex,g,q3⟩=>?_) hs;subst ex;obtain rfl:u=Value.ref a:=rx;exact TF hu I3 g ry rv λs4 I4=>⟨σ,H4,I4,q3⟩
def qv(i:Nat){x:Str}{pos:Pos}(hN:X.N[i]?=some x:=by rfl)(hv:XG X.env.scope x:=by first|exact Or.inl rfl|exact Or.inr (Or.inl rfl)|exact Or.inr (Or.inr rfl))(hd:(x==("__debug__":Str))=false:=by decide)(hcd:(x==("__classdict__":Str))=false:=by decide):bE X (.Name x pos) (CA i):=by exact⟨aaw hN hv hd hcd⟩
def bV{id:String}(hc:i_ X (.builtin id) r)(hg:Gl X x)(hm:X.mg x=none)(hv:bootBuiltins x=some (.builtin id))(ha:bA X (e::es) t)(hn:x ≠ "__name__":=by decide)(hdb:(x==("__debug__":Str))=false:=by decide)(he:starEach (e::es) X.env=(false,eval e X.env)::starEach es X.env:=by rfl)(hpl:(backTo pos (starEach es X.env)).any (·.1)=false:=by rfl):bE X (.Call (.Name x p) (e::es) [] pos) (tCB r t):=by have ha:=ha.h;constructor;intro AC s σ H Q I h;refine KH (x9 I hg hm hv ?_ hn hdb);exact PyProof.Rows.callWith_builtin1 (aZ (ha pos AC s σ H _ I h) λus s1 ⟨vs,H1,I1,r1,q1⟩=>hc AC s1 σ H1 vs us Q I1 r1 q1) he hpl
def CT{K:Fg}{x:Str}{C:Addr}{t:Str}{kd:Nat}{p0 p1 cpos pos:Pos}(oc:qb K C)(hg:Gl (dM (jD P w) P w K mg base N qual scope f cd A outer s0 H0 E) x)(hm:mg x=some (.ref C))(hd:(x==("__debug__":Str))=false:=by decide):bS (dM (jD P w) P w K mg base N qual scope f cd A outer s0 H0 E) (.Raise (some (.Call (.Name x p0) [.Constant (.str t) kd p1] [] cpos)) none pos) (abZ C E):=by constructor;intro AC s σ H D I h;obtain⟨nm,q,Nn,bs,bm,hdct,sn,sub,ab,col,dd,k0,k1,k2,k3,k5,mN,hni,hb,fx⟩:=oc.ex;refine wpAny_Raise_call_subT (bm:=bm) (C:=C) (nm:=nm) (q:=q) (N:=Nn) (bs:=bs) (hdct:=hdct) (sn:=sn) (sub:=sub) (ab:=ab) (col:=col) (dd:=dd) (k0:=k0) (k1:=k1) (k2:=k2) (k3:=k3) (k5:=k5) F.excBase_ValueError hb (I.ok.hd rfl) rfl hni ?_;refine uL I hg hm ⟨Z,?_⟩ hd;have pa:PA (dM (jD P w) P w K mg base N qual scope f cd A outer s0 H0 E) [.Constant (.str t) kd p1] (BD (tC (.str t)) tP):=PJ SY Tj;refine PySem.Calls.evalArgs_plain (aZ (pa cpos AC s σ H (λvs H1=>vs.length=1/\H1=H) I ⟨Z,Z⟩) λus s1 ⟨vs,H1,I1,r,hv,e⟩=>?_);subst e;obtain⟨hC,hN,T⟩:=fx s1.heap I1.pO;exact⟨Z,by show us.length<=sizeLine;rw[<-r.length,hv,jY];decide,hC,hN,T,λh' e hm=>R_ I1 hm (h e)⟩
def nK{o i:Expr}{to ti:TE}{t:tO}(ho:bE X o to)(hi:bE X i ti)(hs:VT X t)(ha:∀v,assign (.Subscript o i pos) X.env v=(do
   let ov <-holding [v] (eval o X.env)
   let iv <-holding [v,ov] (eval i X.env)
   standAt pos
   holding [v,ov,iv] (setItem ov iv v)
   release [v,ov,iv] []):=by intro _;rfl):bG X (.Subscript o i pos) (aiy to ti t):=by
 have ho:=ho.h;have hi:=hi.h;constructor
 intro AC s σ H v u Q I r h
 rw[ha]
 refine az (wI (aZ (ho AC s σ H _ I h) λov s1 ⟨x,H1,I1,r1,q1⟩=>?_))
 refine az (wI (aZ (hi AC s1 σ H1 _ I1 q1) λiv s2 ⟨y,H2,I2,r2,q2⟩=>?_))
 refine az (yE (az (wI (aZ (hs AC s2 σ H2 x y v ov iv u _ I2 r1 r2 r q2) λ_ s3 ⟨H3,I3,q3⟩=>?_))))
 exact wpAny_release ⟨σ,H3,I3,q3⟩
def iT{st:Stmt}:bS X st aaA:=by exact⟨λ_ _ _ _ _ _ h=>h.elim⟩
def Es{j k:Nat}{x:Str}{C:Addr}{ps:Da Str}{sp:Sp}{p pos:Pos}(D:Cn X.prog X.w X.K X.mg X.base j x C ps sp)(hr:d8 k X.A)(hj:j+1<=k:=by decide)(hg:Gl X x:=by rfl)(hdb:(x==("__debug__":Str))=false:=by decide):bE X (.Call (.Name x p) [] [] pos) (Ko C sp [] E0 tP):=by constructor;obtain⟨f,fd,F,b,M,m⟩:=D.ex;exact Wa M F (hr.mono hj) hg m b .nil (λ_ _ _ _ _ _ _ h=>h.elim) hdb
def af(ha:bE X e te)(hr:bA X es t)(hs:starEach (e::es) X.env=(false,eval e X.env)::starEach es X.env:=by rfl):bA X (e::es) (BD te t):=⟨PJ ha.h hr.h hs⟩
def aH(K:Fg){e:Expr}{f:Str}{ta:TE}{pos:Pos}(he:bE X e ta)(hb:attributeBase e f X.env (eval e X.env)=eval e X.env:=by rfl)(hK:X.K=K:=by rfl):bE X (.Attribute e f pos) (aaR K ta f):=by have he:=he.h;exact⟨hK▸aaU he hb⟩
def F_{op:CmpOp}{r:R2}(ho:jW X (compareOp op) r)(ha:bE X a ta)(hb:bE X b tb)(hm:behindInMarks op b=false):bE X (.Compare a [op] [b] pos) (Cd r ta tb):=by have ha:=ha.h;have hb:=hb.h;constructor;intro AC s σ H Q I h;exact wpAny_Compare1 (V2 ha hb I h λv u s2 x y H2 I2 rx ry q=>ho AC s2 σ H2 x y v u Q I2 rx ry q) hm
def br{j k:Nat}{x:Str}{ps:Da Str}{sp:Sp}{e:Expr}{es:Da Expr}{t:TA}{p pos:Pos}(D:Dn X.prog X.w X.K X.mg X.base j x ps sp)(hr:d8 k X.A)(ha:bA X (e::es) t)(hj:j<=k:=by decide)(hg:Gl X x:=by rfl)(hdb:(x==("__debug__":Str))=false:=by decide)(he:starEach (e::es) X.env=(false,eval e X.env)::starEach es X.env:=by rfl)(hpl:(backTo pos (starEach es X.env)).any (·.1)=false:=by rfl):bE X (.Call (.Name x p) (e::es) [] pos) (XT sp [] E0 t):=by have ha:=ha.h;constructor;obtain⟨f,fd,F,b,kp,m⟩:=D.ex;exact Zf F (hr.mono hj) hg m kp b .nil (λ_ _ _ _ _ _ _ h=>h.elim) ha hdb he hpl
def qe{Cl:Da Expr}(ha:bT X a tA)(hb:bW X (.BoolOp .And (b::Cl) pos) XJ):bW X (.BoolOp .And (a::b::Cl) pos) (ait tA XJ):=by
 have ha:=ha.h;have hb:=hb.h;constructor;intro wh AC s σ H Q I h;refine isTrue_and (aZ (ha AC s σ H _ I h) λc s1 ⟨H1,I1,q1⟩=>?_);cases c with
 | true=>exact hb wh AC s1 σ H1 Q I1 q1
 | false=>exact⟨H1,I1,q1⟩
section
variable {P:Program}{w:World}{K:Fg}{mg:SO}{base:Heap}{f C:Addr}{fd:FuncData}{N ps:Da Str}{k:Nat}{sp:Sp}{x m qual:Str}{st:Stmt}
def dP{N P:Da Str}{sc:Scope}(a:sc.kind =.function:=by rfl)(b:sc.isCoroutine=false:=by rfl)(c:sc.isGenerator=false:=by rfl)(d:N.Nodup:=by decide +kernel)(e:N.take P.length=P:=by rfl)(f:∀x∈P,sc.names.lookup x=some .local\/sc.names.lookup x=some .cell:=by decide +kernel)(g:∀y∈sc.names,y.2 ≠ .free:=by decide +kernel):aM N P sc:=⟨a,b,c,d,e,f,g⟩
def At.oA(F:At K mg x st f fd)(S:aM N ps (aD st))(Ch:∀(cdv:Value) (A:Around) (outer:Da Env) (s:Shared) (H:Hp) (vs:Da V) (Q:VK) (E:XK),d8 k (A.deeper (envOfC x (aD st) s.heap.objs.size f cdv))->sp vs H Q E->
    ∃t,uu (dM uw P w K mg base N x (aD st) f cdv A outer s H E).Cc (cV st) t/\t { nx:=λ_ H'=>Q .cI H',rt:=Q } (start N vs) H)(len:∀vs H Q E,sp vs H Q E->vs.length=ps.length:=by intro vs H Q E h;first|(cases h.ex;subst_vars;rfl)|(have h:=h.ex;(repeat first|(obtain⟨rfl,_⟩:=h;rfl)|(obtain⟨_,h⟩:=h));done)|(repeat first|(obtain⟨rfl,_⟩:=h;rfl)|(obtain⟨_,h⟩:=h)))(h:∀(kV doc pm:Value) (an:Option Addr) (cdv ct:Value) (us:Da Value),us.length=ps.length->bindArgs (PySem.W.fnOf x x (fj st) (cV st) (aD st) .none kV doc pm an cdv ct) ⟨us,[]⟩=pure (ps.zip us):=by intro _ _ _ _ _ _ us hl;repeat' (first|rfl|(simp at hl;done)|(rcases us with _|⟨_,us⟩))):Dn P w K mg base (k+1) x ps sp:=F.ok S len Ch h
def gF.oA(F:gF K C m qual st f fd)(S:aM N ps (aD st))(Ch:∀(cdv:Value) (A:Around) (outer:Da Env) (s:Shared) (H:Hp) (vs:Da V) (Q:VK) (E:XK),d8 k (A.deeper (envOfC qual (aD st) s.heap.objs.size f cdv))->sp vs H Q E->
    ∃t,uu (dM uw P w K mg base N qual (aD st) f cdv A outer s H E).Cc (cV st) t/\t { nx:=λ_ H'=>Q .cI H',rt:=Q } (start N vs) H)(len:∀vs H Q E,sp vs H Q E->vs.length=ps.length:=by intro vs H Q E h;first|(cases h.ex;subst_vars;rfl)|(have h:=h.ex;(repeat first|(obtain⟨rfl,_⟩:=h;rfl)|(obtain⟨_,h⟩:=h));done)|(repeat first|(obtain⟨rfl,_⟩:=h;rfl)|(obtain⟨_,h⟩:=h)))(h:∀(kV doc pm:Value) (an:Option Addr) (cdv ct:Value) (us:Da Value),us.length=ps.length->bindArgs (PySem.W.fnOf m qual (fj st) (cV st) (aD st) .none kV doc pm an cdv ct) ⟨us,[]⟩=pure (ps.zip us):=by intro _ _ _ _ _ _ us hl;repeat' (first|rfl|(simp at hl;done)|(rcases us with _|⟨_,us⟩))):Mn P w K mg base (k+1) C m ps sp:=F.ok S len Ch h
def gF.oAX(F:gF K C m qual st f fd)(S:aM N ps (aD st))(Ch:∀(cdv:Value) (A:Around) (outer:Da Env) (s:Shared) (H:Hp) (vs:Da V) (Q:VK) (E:XK),d8 k (A.deeper (envOfC qual (aD st) s.heap.objs.size f cdv))->sp vs H Q E->
    ∃t,uu (dM (jD P w) P w K mg base N qual (aD st) f cdv A outer s H E) (cV st) t/\t { nx:=λ_ H'=>Q .cI H',rt:=Q } (start N vs) H)(len:∀vs H Q E,sp vs H Q E->vs.length=ps.length:=by intro vs H Q E h;first|(cases h.ex;subst_vars;rfl)|(have h:=h.ex;(repeat first|(obtain⟨rfl,_⟩:=h;rfl)|(obtain⟨_,h⟩:=h));done)|(repeat first|(obtain⟨rfl,_⟩:=h;rfl)|(obtain⟨_,h⟩:=h)))(h:∀(kV doc pm:Value) (an:Option Addr) (cdv ct:Value) (us:Da Value),us.length=ps.length->bindArgs (PySem.W.fnOf m qual (fj st) (cV st) (aD st) .none kV doc pm an cdv ct) ⟨us,[]⟩=pure (ps.zip us):=by intro _ _ _ _ _ _ us hl;repeat' (first|rfl|(simp at hl;done)|(rcases us with _|⟨_,us⟩))):Mx P w K mg base (k+1) C m ps sp:=F.okX S len Ch h
def HV.oA(F:HV K mg x C qual st f fd)(S:aM N ps (aD st))(Ch:∀(cdv:Value) (A:Around) (outer:Da Env) (s:Shared) (H:Hp) (vs:Da V) (Q:VK) (E:XK),d8 k (A.deeper (envOfC qual (aD st) s.heap.objs.size f cdv))->sp vs H Q E->
    ∃t,uu (dM uw P w K mg base N qual (aD st) f cdv A outer s H E).Cc (cV st) t/\t { nx:=λ_ H'=>Q .cI H',rt:=Q } (start N vs) H)(len:∀vs H Q E,sp vs H Q E->vs.length=ps.length:=by intro vs H Q E h;first|(cases h.ex;subst_vars;rfl)|(have h:=h.ex;(repeat first|(obtain⟨rfl,_⟩:=h;rfl)|(obtain⟨_,h⟩:=h));done)|(repeat first|(obtain⟨rfl,_⟩:=h;rfl)|(obtain⟨_,h⟩:=h)))(h:∀(kV doc pm:Value) (an:Option Addr) (cdv ct:Value) (us:Da Value),us.length=ps.length->bindArgs (PySem.W.fnOf "__init__" qual (fj st) (cV st) (aD st) .none kV doc pm an cdv ct) ⟨us,[]⟩=pure (ps.zip us):=by intro _ _ _ _ _ _ us hl;repeat' (first|rfl|(simp at hl;done)|(rcases us with _|⟨_,us⟩))):Cn P w K mg base (k+1) x C ps sp:=F.ok S len Ch h
end
inductive afv(e:Ec)(vs:Da V)(H:Hp)(Q:VK)(E:XK):Prop
 |mk(a:Int)(_:vs=[.int a])(_:(a<1->Rf e E H 5))(_:(1<=a->Q .cI H))
def AU(e:Ec):Sp:=bx (afv e)
inductive afw(e:Ec)(vs:Da V)(H:Hp)(Q:VK)(E:XK):Prop
 |mk(m a:Int)(_:vs=[.int m,.int a])(_:(a<1->Rf e E H 5))(_:(1<=a->m<a->Rf e E H 6))(_:(1<=a->a<=m->Q .cI H))
def LY(e:Ec):Sp:=bx (afw e)
inductive WQ(T:TC)(e:Ec)(vs:Da V)(H:Hp)(Q:VK)(E:XK):Prop
 |mk(n ρ A st x a:_)(_:vs=[.ref A.a,.str x,.int a])(_:HH T n ρ A H st)(_:Ep T e n ρ A H (jF st (x,a)) (dJ st (x,a)) Q E)
def Iq(T:TC)(e:Ec):Sp:=bx (WQ T e)
inductive ab9(T:TC)(e:Ec)(vs:Da V)(H:Hp)(Q:VK)(E:XK):Prop
 |mk(n ρ A st x a:_)(_:vs=[.ref A.a,.str x,.int a])(_:HH T n ρ A H st)(_:Ep T e n ρ A H (lU st x a:_) (Ks st x a:_) Q E)
def Qq(T:TC)(e:Ec):Sp:=bx (ab9 T e)
theorem Dn.imp{P:Program}{w:World}{K:Fg}{mg:SO}{base:Heap}{k:Nat}{x:Str}{ps:Da Str}{sp Tn:Sp}(D:Dn P w K mg base k x ps sp)(h:∀vs H Q E,Tn vs H Q E->sp vs H Q E):Dn P w K mg base k x ps Tn:=by obtain⟨f,fd,F,b,kp,m⟩:=D.ex;exact⟨f,fd,F.imp h,b,kp,m⟩
def j0{st:HS}{x:Str}(h:x∈eL st):∃(i:Nat)(p:Pt),st.ai[i]?=some p/\p.nm=x:=by obtain⟨p,hp,e⟩:=b7.mp h;obtain⟨i,hi,ei⟩:=uX hp;exact⟨i,p,by rw[bu hi,ei],e⟩
def BU{st:HS}{i:Nat}{p:Pt}(h:st.ai[i]?=some p):p.nm∈eL st:=b7.mpr ⟨p,bQ h,Z⟩
theorem Et{α:Type}{nm:α->Str}{f:α->α}:∀{l:Da α}{i:Nat}{p:α},(l.map nm).Nodup->l[i]?=some p->(l.map λq=>if nm q=nm p then f q else q)=l.set i (f p)
 | [],_,_,_,h=>by simp at h
 | a::l,0,p,nd,h=>by
  have e:a=p:=by simpa using h
  subst e;obtain⟨h1,_⟩:=gZ.mp (show(nm a::l.map nm).Nodup from nd);rw[cO,aB rfl,Rw];congr 1;refine(Cw (g:=id) (λq hq=>aC λz=>h1 (b7.mpr ⟨q,hq,z⟩))).trans (List.map_id l)
 | a::l,i+1,p,nd,h=>by
  obtain⟨h1,h2⟩:=gZ.mp (show(nm a::l.map nm).Nodup from nd);have h':l[i]?=some p:=by simpa using h
  rw[cO,aC (λz=>h1 (b7.mpr ⟨p,bQ h',z.symm⟩)),KJ,Et h2 h']
def qW{st:HS}(nd:(st.ai.map (·.nm)).Nodup){i:Nat}{p:Pt}(h:st.ai[i]?=some p)(f:Pt->Pt):nI st p.nm f={ st with ai:=st.ai.set i (f p) }:=by unfold nI;rw[Et (nm:=λp:Pt=>p.nm) nd h]
def AV{st:HS}(wf:Wf st){x:Str}{f:Pt->Pt}(h:∀p∈st.ai,p.nm=x->(f p).nm=p.nm/\(f p).ow=p.ow/\(f p).sc=p.sc/\(f p).row=p.row/\1<=(f p).wo/\0<=(f p).we):Wf (nI st x f):=by
 have P:∀{M:Pt->Prop},(∀p∈st.ai,p.nm=x->M (f p))->(∀p∈st.ai,M p)->∀p∈(nI st x f).ai,M p:=λa c p hp=>by
  obtain⟨q,hq,rfl⟩:=b7.mp (show p∈st.ai.map _ from hp);by_cases e:q.nm=x
  .rw [aB e];exact a q hq e
  .rw [aC e];exact c q hq
 have en:(nI st x f).ai.map (λp:Pt=>p.nm)=st.ai.map (λp:Pt=>p.nm):=by
  show(st.ai.map _).map _=_;rw[fk];refine Cw λp hp=>?_;show(if p.nm=x then f p else p).nm=p.nm;by_cases e:p.nm=x
  .rw [aB e];exact(h p hp e).1
  .rw [aC e]
 refine⟨wf.jV,wf.yT,?_,P (λp hp e=>?_) wf.sub,P (λp hp e=>?_) wf.rows,P (λp hp e=>?_) wf.ow,wf.eZ,wf.mD,wf.gu,wf.pZ,wf.vj,wf.j9,wf.yU,?_,wf.AB,wf.vm,wf.HY,wf.big,wf.oq,P (λp hp e=>?_) wf.sW,P (λp hp e=>?_) wf.oz,P (λp hp e=>?_) wf.p5,P (λp hp e=>?_) wf.kG,wf.FJ⟩
 .show ((nI st x f).ai.map (λp:Pt=>p.nm)).Nodup;rw[en];exact wf.dN
 .show (f p).nm∈st.nms;rw[(h p hp e).1];exact wf.sub p hp
 .rw [(h p hp e).2.2.2.1];exact wf.rows p hp
 .show (f p).ow∈st.own;rw[(h p hp e).2.1];exact wf.ow p hp
 .show (st.ai.map _).length<=1000;rw[aF];exact wf.kM
 .rw [(h p hp e).2.2.1];exact wf.sW p hp
 .rw [(h p hp e).2.2.2.1];exact wf.oz p hp
 .rw [(h p hp e).2.2.2.1,(h p hp e).2.2.1];exact wf.p5 p hp
 .exact (h p hp e).2.2.2.2
theorem xj{st:HS}{x:Str}{a:Int}(h:lU st x a=none):x∈eL st/\1<=a:=by
 unfold lU at h;by_cases hm:x∈eL st
 .rw [aB hm]at h;by_cases c:a<1
  .rw [aB c]at h;cases h
  .exact ⟨hm,by omega⟩
 .rw [aC hm]at h;cases h
structure Sh(st:HS):Prop where
 big:Jm.Sz 60 (aS st)
 prod:Jm.Sz 7900 st.prod
 bU:∀u∈st.bU,Jm.Sz 8900 u
 stp:st.stp.length<100
noncomputable def nj(st:HS)(o:Str)(a:Int):Da Int:=(List.replicate st.own.length 0).set (st.own.idxOf o) (a*st.prod)
inductive ZX(T:TC)(e:Ec)(vs:Da V)(H:Hp)(Q:VK)(E:XK):Prop
 |mk(n ρ A st o a:_)(_:vs=[.ref A.a,.str o,.int a])(_:HH T n ρ A H st)(_:Sh st)(_:Ep T e n ρ A H (kg st o a:_) (tD st o a:_) Q E)
def LZ(T:TC)(e:Ec):Sp:=bx (ZX T e)
theorem uI{st:HS}{o:Str}{a:Int}(h:kg st o a=none):o∈st.own/\1<=a/\a<aS st:=by
 unfold kg at h;split at h
 .split at h
  .cases h
  .split at h
   .cases h
   .exact ⟨by assumption,by omega,by omega⟩
 .cases h
def WR{st:HS}{o:Str}{a m:Int}(h:m∈nj st o a):m=0\/m=a*st.prod:=by
 rcases Rb h with z|z
 .exact .inl (List.eq_of_mem_replicate z)
 .exact .inr z
def WS(st:HS)(o:Str)(a:Int):(nj st o a).length=st.own.length:=by unfold nj;rw[gq,mh]
theorem Sh.blend{st:HS}{o:Str}{a:Int}(w:Sh st)(wf:Wf st)(h1:1<=a)(h2:a<aS st):qR st (aS st-a) (aS st) a (nj st o a):=by have p1:=wf.gu;refine⟨by omega,by omega,by omega,by rw[WS,wf.eZ],λm hm=>?_,w.prod,w.big,w.bU,w.stp⟩;have:0<=a*st.prod:=rN (by omega) (by omega);rcases WR hm with z|z <;> omega
def WT(n j:Nat):(List.replicate n (0:Int)).getD j 0=0:=by rw[nE,List.getElem?_replicate];split <;> rfl
inductive ZY(T:TC)(e:Ec)(vs:Da V)(H:Hp)(Q:VK)(E:XK):Prop
 |mk(n ρ A st x y a we:_)(_:vs=[.ref A.a,.str x,.str y,.int a,.int we])(_:HH T n ρ A H st)(_:y.cps.toList.length<=100000)(_:st.nms.length<1000)(_:st.ai.length<1000)(_:Ep T e n ρ A H (iX st x y a we:_) (k_ st x y a we:_) Q E)
def L1(T:TC)(e:Ec):Sp:=bx (ZY T e)
def gR{H:Hp}{a b:Addr}{o:HO}(h:upd H a o b=none):H b=none:=by
 by_cases z:b=a
 .rw [z,ah]at h;cases h
 .rw [au z]at h;exact h
def L3{st:HS}{y:Str}(h:newR st y=none):isNm y=true/\y∉st.nms:=by
 unfold newR at h;split at h
 .split at h
  .cases h
  .exact ⟨by assumption,by assumption⟩
 .cases h
theorem jQ{st:HS}{x y:Str}{a we:Int}(h:iX st x y a we=none):x∈eL st/\(isNm y=true/\y∉st.nms)/\1<=a/\0<=we/\a<(bP st x).wo/\we<=(bP st x).we:=by
 unfold iX at h;split at h
 .cases hf:newR st y with
  | some j=>rw[hf]at h;cases h
  | none=>
   rw[hf]at h;have h':(if a<1\/we<0 then some 5 else if(bP st x).wo<=a\/(bP st x).we<we then some 6 else none)=none:=h;split at h'
   .cases h'
   .split at h'
    .cases h'
    .exact ⟨by assumption,L3 hf,by omega,by omega,by omega,by omega⟩
 .cases h
theorem L4{st:HS}{x y:Str}{a we:Int}(wf:Wf st)(h:iX st x y a we=none)(h2:st.nms.length<1000)(h3:st.ai.length<1000):Wf (k_ st x y a we):=by
 obtain⟨hx,⟨_,hy⟩,h4,h5,h6,h7⟩:=jQ h;obtain⟨i,p0,ei,e0⟩:=j0 hx;have hp:=bQ ei;have eg:=d_ wf hp e0;have w1:Wf (nI st x λp=>{ p with wo:=p.wo-a,we:=p.we-we }):=AV wf λp gT e=>by rw[uP wf gT hp (e.trans e0.symm)];rw[eg]at h6 h7;exact⟨Z,Z,Z,Z,by show 1<=p0.wo-a;omega,by show 0<=p0.we-we;omega⟩
 unfold k_;rw[eg];exact Qe w1 hy h2 (by show(st.ai.map _).length<1000;rw[aF];exact h3) (wf.rows p0 hp) (wf.ow p0 hp) (wf.sW p0 hp) (wf.oz p0 hp) (wf.p5 p0 hp) ⟨h4,h5⟩
inductive ab_(T:TC)(e:Ec)(vs:Da V)(H:Hp)(Q:VK)(E:XK):Prop
 |mk(n ρ A st x o:_)(_:vs=[.ref A.a,.str x,.str o])(_:HH T n ρ A H st)(_:∀p∈st.ai,(aX st p).sum=st.prod)(_:Ep T e n ρ A H (kP st x o:_) (eU st x o:_) Q E)
def Qs(T:TC)(e:Ec):Sp:=bx (ab_ T e)
def pB{st:HS}{x o:Str}(h:kP st x o=none):x∈eL st/\o∈st.own:=by
 unfold kP at h;split at h
 .split at h
  .exact ⟨by assumption,by assumption⟩
  .cases h
 .cases h
theorem UE:∀{l:Da Int},(∀t∈l,0<=t)->0<=l.sum/\∀t∈l,t<=l.sum
 | [],_=>⟨lO _,λt h=>by cases h⟩
 | a::l,h=>by
  obtain⟨h1,h2⟩:=UE (l:=l) λt ht=>h t (cM _ ht);have h0:=h a dg;refine⟨by show 0<=a+l.sum;omega,λt ht=>?_⟩;show t<=a+l.sum;rcases b_.mp ht with rfl|ht
  .omega
  .have:=h2 t ht;omega
def Yi{l:Da Int}{i:Nat}{v:Int}(h:∀t∈l,0<=t)(hv:0<=v):∀t∈l.set i v,0<=t:=λt ht=>by
 rcases Rb ht with z|z
 .exact h t z
 .rw [z];exact hv
def L5{l:Da Int}(h:∀t∈l,0<=t)(i:Nat):0<=l.getD i 0:=by
 rw[nE];cases e:l[i]? with
 | none=>exact lO _
 | some v=>exact h v (bQ e)
noncomputable def Qt(l:Da Int)(i j:Nat):Da Int:=(l.set j (l.getD j 0+l.getD i 0)).set i 0
def Ga(l:Da Int)(i j:Nat):(Qt l i j).length=l.length:=by unfold Qt;rw[gq,gq]
theorem ZZ{l:Da Int}{i j:Nat}(hi:i<l.length)(hj:j<l.length)(ne:i≠j):(Qt l i j).sum=l.sum:=by unfold Qt;rw[sum_set _ _ _ (by rw[gq];exact hi),sum_set _ _ _ hj,Wu _ _ _ _ hj,aC ne];omega
def Z0{l:Da Int}{i j:Nat}(h:∀t∈l,0<=t):∀t∈Qt l i j,0<=t:=Yi (Yi h (Int.add_nonneg (L5 h _) (L5 h _))) (lO _)
theorem L6{st:HS}{tops:Da Int}(h:tops.length=st.bq.length):List.zipWith (λr c=>(1:Int)*r+c) (j_ st tops) st.bq=tops:=by
 unfold j_;generalize st.bq=cs at h
 induction tops generalizing cs with
 | nil=>rfl
 | cons t ts ih=>
  cases cs with
  | nil=>cases h
  | cons c cs=>have:=ih cs (Nat.succ.inj h);show(1*(t-c)+c)::_=t::ts;rw[this];congr 1;omega
def Ir{st:HS}(wf:Wf st){p:Pt}(hp:p∈st.ai):(aX st p).length=st.own.length:=by unfold aX;rw[jE,wf.rows p hp,wf.eZ,nQ]
noncomputable def BV(st:HS)(o:Str)(p:Pt):Pt:={ p with ow:=o,sc:=1,row:=j_ st (jP st p o) }
def zx(st:HS)(p:Pt)(o:Str):jP st p o=Qt (aX st p) (st.own.idxOf p.ow) (st.own.idxOf o):=rfl
def Iu{st:HS}(wf:Wf st){p:Pt}(hp:p∈st.ai)(o:Str):aX st (BV st o p)=jP st p o:=by
 have:(jP st p o).length=st.bq.length:=by rw[zx,Ga,Ir wf hp,wf.eZ]
 exact L6 this
def L7{st:HS}(wf:Wf st){p:Pt}(hp:p∈st.ai){o:Str}(ho:o∈st.own)(ne:st.own.idxOf o≠st.own.idxOf p.ow)(hs:(aX st p).sum=st.prod):(∀t∈jP st p o,0<=t/\t<=st.prod)/\(jP st p o).sum=st.prod:=by
 have hl:=Ir wf hp;have h1:st.own.idxOf p.ow<(aX st p).length:=by rw[hl];exact wF (wf.ow p hp)
 have h2:st.own.idxOf o<(aX st p).length:=by rw[hl];exact wF ho
 have hp0:=Z0 (i:=st.own.idxOf p.ow) (j:=st.own.idxOf o) λt ht=>(wf.p5 p hp t ht).1;have hsum:=(ZZ h1 h2 (bB ne)).trans hs;rw[zx];exact⟨λt ht=>⟨hp0 t ht,by rw[<-hsum];exact(UE hp0).2 t ht⟩,hsum⟩
theorem Qu{st:HS}{x o:Str}(wf:Wf st)(h:kP st x o=none)(hs:∀p∈st.ai,(aX st p).sum=st.prod):Wf (eU st x o):=by
 obtain⟨hx,ho⟩:=pB h;obtain⟨i,p0,ei,e0⟩:=j0 hx;have hp:=bQ ei;have eg:=d_ wf hp e0;unfold eU;by_cases ne:st.own.idxOf o=st.own.idxOf (bP st x).ow
 .rw [aB ne];exact wf
 rw[aC ne];rw[eg]at ne;obtain⟨ft,_⟩:=L7 wf hp ho ne (hs p0 hp);have uq:∀p∈st.ai,p.nm=x->p=p0:=λp gT e=>uP wf gT hp (e.trans e0.symm);have P:∀{M:Pt->Prop},M (BV st o p0)->(∀p∈st.ai,M p)->∀p∈(nI st x (BV st o)).ai,M p:=λa c p gT=>by
  obtain⟨q,hq,rfl⟩:=b7.mp (show p∈st.ai.map _ from gT);by_cases e:q.nm=x
  .rw [aB e,uq q hq e];exact a
  .rw [aC e];exact c q hq
 have hl:(jP st p0 o).length=st.own.length:=by rw[zx,Ga,Ir wf hp]
 have en:(nI st x (BV st o)).ai.map (λp:Pt=>p.nm)=st.ai.map λp:Pt=>p.nm:=by
  show(st.ai.map _).map _=_;rw[fk];refine Cw λp _=>?_;show(if p.nm=x then BV st o p else p).nm=p.nm;by_cases e:p.nm=x
  .rw [aB e];rfl
  .rw [aC e]
 have p1:=wf.gu;refine⟨wf.jV,wf.yT,?_,P (wf.sub p0 hp) wf.sub,P ?_ wf.rows,P ho wf.ow,wf.eZ,wf.mD,wf.gu,wf.pZ,wf.vj,wf.j9,wf.yU,?_,wf.AB,wf.vm,wf.HY,wf.big,wf.oq,P ⟨lO _,p1⟩ wf.sW,P ?_ wf.oz,P ?_ wf.p5,P (wf.kG p0 hp) wf.kG,wf.FJ⟩
 .show ((nI st x (BV st o)).ai.map (λp:Pt=>p.nm)).Nodup;rw[en];exact wf.dN
 .show (j_ st (jP st p0 o)).length=st.own.length;unfold j_;rw[jE,hl,wf.eZ,nQ]
 .show (st.ai.map _).length<=1000;rw[aF];exact wf.kM
 .intro r hr;obtain⟨t,ht,c,hc,rfl⟩:=vt (show r∈List.zipWith (λt c=>t-c) (jP st p0 o) st.bq from hr);have a1:=ft t ht;have a2:=wf.oq c hc;exact⟨by show -st.prod<=t-c;omega,by show t-c<=st.prod;omega⟩
 .intro t ht;have:t∈jP st p0 o:=by rw[<-Iu wf hp];exact ht
  exact ft t this
theorem Qv:∀{l m:Da Int}{a b:Int},l.length=m.length->(∀j,l.getD j 0*a=m.getD j 0*b)->l.sum*a=m.sum*b
 | [],[],_,_,_,_=>by show(0:Int)*_=0*_;rw[By,By]
 | x::l,y::m,a,b,e,h=>by have h0:x*a=y*b:=h 0;have:=Qv (l:=l) (m:=m) (Nat.succ.inj e) λj=>h (j+1);show(x+l.sum)*a=(y+m.sum)*b;rw[wM,wM,h0,this]
theorem L_{q0 q1:Addr×Addr×Addr}:∀{ps:Da Pt}{qs:Da (Addr×Addr×Addr)}{i:Nat},qs[i]?=some q0->q1.1=q0.1->bY ps (qs.set i q1)=bY ps qs
 | [],_,_,_,_=>by simp[bY]
 | _::_,[],_,h,_=>by simp at h
 | p::ps,q::qs,0,h,e=>by
  have:q=q0:=by simpa using h
  subst this;show(_,V.ref q1.1)::_=(_,V.ref q.1)::_;rw[e]
 | p::ps,q::qs,i+1,h,e=>by have:=L_ (ps:=ps) (qs:=qs) (i:=i) (q1:=q1) (by simpa using h) e;show _::bY ps (qs.set i q1)=_::bY ps qs;rw[this]
def aI.WU{T:TC}{n:Nat}{ρ:bR}{A:HA}{H:Hp}{st:HS}(h:aI T n ρ A H st)(g:Gh ρ H){i:Nat}{p0 p1:Pt}{q0:Addr×Addr×Addr}{r:Addr}(ep:st.ai[i]?=some p0)(eq:A.qs[i]?=some q0)(e1:p1.nm=p0.nm)(cr:ρ r=some (n,21,p0.nm))(hr:H r=some (.lst (p1.row.map V.int)))(nd:(st.ai.map (·.nm)).Nodup):aI T n ρ { A with qs:=A.qs.set i (q0.1,q0.2.1,r) } (upd H q0.1 (.ins T.part q0.2.1 (cT p1 r))) { st with ai:=st.ai.set i p1 }:=by
 have c0:=(h.opt i p0 q0 ep eq).2.2.1;have k:=dG (o:=.ins T.part q0.2.1 (cT p1 r)) g c0;have k2':=λ{b:Addr}{u:Nat}{y:Str}{w:HO}=>AA (H:=H) (o:=.ins T.part q0.2.1 (cT p1 r)) c0 (b:=b) (u:=u) (y:=y) (w:=w);obtain⟨vs,h1,h2⟩:=h.m9;obtain⟨AT,k1,k2,k3⟩:=h.okn;refine⟨kz k h.ca h.oa,h.ca,kz k h.gv h.gX,h.gv,?_,h.ff,⟨vs,kz k h.gG h1,h2.keep k (by decide)⟩,h.gG,kz k h.gH h.m_,h.gH,kz k h.gI h.jd,h.gI,kz k h.gJ h.iC,h.gJ,kz k h.cpu h.jC,h.cpu,kz k h.gK h.lT,h.gK,⟨AT,kz k h.gM k1,λp hp=>let⟨t,r,e,q⟩:=k2 p hp;⟨t,r,e,k.1 _ _ q⟩,k3⟩,h.gM,?_,?_⟩
 .show _=some (HO.dK (bY (st.ai.set i p1) (A.qs.set i (q0.1,q0.2.1,r))));rw[L_ (q1:=(q0.1,q0.2.1,r)) eq rfl,BJ ep e1];exact kz k h.ff h.dB
 .show (A.qs.set i _).length=(st.ai.set i _).length;rw[gq,gq];exact h.ql
 .intro j p q hp hq;have hi:=(dX.mp ep).1;have hi':=(dX.mp eq).1;by_cases e:i=j
  .subst e;rw[show({ st with ai:=st.ai.set i p1 }:HS).ai=st.ai.set i p1 from rfl,qJ hi]at hp;rw[show({ A with qs:=A.qs.set i (q0.1,q0.2.1,r) }:HA).qs=A.qs.set i (q0.1,q0.2.1,r)from rfl,qJ hi']at hq;cases hp;cases hq;exact⟨ah,k2' cr (.inl (by decide)) hr,by rw[e1];exact c0,by rw[e1];exact cr⟩
  .rw [show({ st with ai:=st.ai.set i p1 }:HS).ai=st.ai.set i p1 from rfl,Ab e]at hp;rw[show({ A with qs:=A.qs.set i (q0.1,q0.2.1,r) }:HA).qs=A.qs.set i (q0.1,q0.2.1,r)from rfl,Ab e]at hq;obtain⟨a1,a2,a3,a4⟩:=h.opt j p q hp hq;exact⟨k2' a3 (.inr λz=>e (Ef nd ep hp z.symm)) a1,k2' a4 (.inl (by decide)) a2,a3,a4⟩
theorem Ma{X:Cx}:aaG X (RO X.K):=by
 intro AC s σ H x y v u Q I rx ry h;obtain⟨p,xs,i,z,rfl,rfl,hq,he,q⟩:=h;cases rx;obtain⟨t,rfl⟩:=ry;obtain⟨BT,r,pl,hz⟩:=I.list hq;obtain⟨j,h1,h2,h3,h4,h5⟩:=BE he;obtain⟨w,ew,rw'⟩:=r.get h2;have hl:=r.length;have hn:=u0;have fin:EP X AC σ Q w s:=⟨z,H,I,rw',q⟩
 by_cases h0:0<=i
 .have hj:i.toNat=j:=by rw[seqIndex_of h0 h5]at h1;exact fM h1
  exact wpAny_getItem_list pl.isList h0 (by omega) (by rw[hj];simpa using ew) fin
 .have hj:(i+(BT.toArray.size:Int)).toNat=j:=by rw[seqIndex_neg (by omega) h4]at h1;rw[iR,<-hl];exact fM h1
  exact wpAny_getItem_list_neg pl.isList (by omega) (by rw[iR] <;> omega) (by omega) (by rw[hj];simpa using ew) fin
inductive UG(T:TC)(vs:Da V)(H:Hp)(Q:VK)(E:XK):Prop
 |mk(n ρ A st:_)(i:Nat)(p:Pt)(_:vs=[.ref A.a,.str p.nm])(_:HH T n ρ A H st)(_:st.ai[i]?=some p)(_:st.kn+100<=1000000)(_:∀r ws H',HH T n ρ A H' { st with kn:=st.kn+100 }->Fr n ρ H ρ H'->H r=none->H' r=some (.lst ws)->ρ r=none->jn H' ws (gO st p:_)->Q (.ref r) H')
def uJ(T:TC):Sp:=bx (UG T)
theorem Mn.imp{P:Program}{w:World}{K:Fg}{mg:SO}{base:Heap}{k:Nat}{C:Addr}{m:Str}{ps:Da Str}{sp Io:Sp}(D:Mn P w K mg base k C m ps sp)(h:∀vs H Q E,Io vs H Q E->sp vs H Q E):Mn P w K mg base k C m ps Io:=by obtain⟨f,fd,F,r⟩:=D.ex;exact⟨f,fd,F.imp h,r⟩
structure WV(st:HS):Prop where
 kn:st.kn+100<=1000000
 dO:st.dO.length<1000
 wo:∀p∈st.ai,Jm.Sz 60 p.wo
 prod:Jm.Sz 7900 st.prod
 bU:∀u∈st.bU,Jm.Sz 8900 u
inductive ace(T:TC)(e:Ec)(vs:Da V)(H:Hp)(Q:VK)(E:XK):Prop
 |mk(n ρ A st x:_)(_:vs=[.ref A.a,.str x])(_:HH T n ρ A H st)(_:WV st)(_:Ep T e n ρ A H (rZ st x:_) (qc st x:_) Q E)
def Qw(T:TC)(e:Ec):Sp:=bx (ace T e)
def mG{st:HS}{x:Str}(h:rZ st x=none):x∈eL st:=by
 unfold rZ at h;split at h
 .assumption
 .cases h
def Fr.afx{n:Nat}{ρ:bR}{H H':Hp}(f:Fr n ρ H ρ H')(g:Gh ρ H'){b:Addr}(h:H' b=none):H b=none:=by
 cases e:H b with
 | none=>rfl
 | some o=>have:=(f b o e λt x z=>by rw[g.none h]at z;cases z).1;rw[h]at this;cases this
theorem vE:∀{l:Da Pt}{i:Nat}{p:Pt},(l.map (·.nm)).Nodup->l[i]?=some p->l.filter (λq=>decide (q.nm≠p.nm))=l.eraseIdx i
 | [],_,_,_,h=>by simp at h
 | x::l,0,p,nd,h=>by
  obtain⟨h1,h2⟩:=gZ.mp (show(x.nm::l.map (·.nm)).Nodup from nd);have e:x=p:=by simpa using h
  subst e;rw[gk,aC (by simp)];exact KG.mpr λy hy=>bL λz=>h1 (b7.mpr ⟨y,hy,z⟩)
 | x::l,i+1,p,nd,h=>by
  obtain⟨h1,h2⟩:=gZ.mp (show(x.nm::l.map (·.nm)).Nodup from nd);have h':l[i]?=some p:=by simpa using h
  rw[gk,aB (by simpa using λz:x.nm=p.nm=>h1 (b7.mpr ⟨p,bQ h',z.symm⟩)),vE h2 h'];rfl
noncomputable def oG(st:HS)(p:Pt):Da Int:=(fu st p).set (st.own.idxOf p.ow) ((fu st p).getD (st.own.idxOf p.ow) 0-p.wo*st.prod)
theorem WW{st:HS}(wf:Wf st){p:Pt}(hp:p∈st.ai){m:Nat}(h1:Jm.Sz 60 p.wo)(h2:Jm.Sz m st.prod)(h3:∀u∈st.bU,Jm.Sz (m+60) u):∀u∈fu st p,Jm.Sz (m+61) u:=λu hu=>by obtain⟨i,a,t,ea,et,rfl⟩:=xg (show u∈List.zipWith (λu t=>u+p.wo*t) st.bU (aX st p)from hu);have ht:=wf.p5 p hp t (bQ et);have zt:Jm.Sz m t:=h2.of_le (by omega);exact(h3 a (bQ ea)).nj ((h1.mul zt).mono (by omega))
theorem Qx{st:HS}(wf:Wf st){p:Pt}(hp:p∈st.ai){m:Nat}(h1:Jm.Sz 60 p.wo)(h2:Jm.Sz m st.prod)(h3:∀u∈st.bU,Jm.Sz (m+60) u):∀u∈oG st p,Jm.Sz (m+62) u:=λu hu=>by
 have g:=WW wf hp h1 h2 h3;rcases Rb (show u∈(fu st p).set _ _ from hu)with z|z
 .exact (g u z).mono (by omega)
 .rw [z];have z0:Jm.Sz (m+61) ((fu st p).getD (st.own.idxOf p.ow) 0):=by
   rw[nE];cases e:(fu st p)[st.own.idxOf p.ow]? with
   | none=>exact(by show Jm.Sz (m+61) 0;unfold Jm.Sz;exact Nat.pow_pos (by decide))
   | some y=>exact g y (bQ e)
  have:=z0.nj (((h1.mul h2).mono (by omega:60+m<=m+61)).neg);rw[Int.sub_eq_add_neg];exact this
def AW{st:HS}(wf:Wf st){p:Pt}(hp:p∈st.ai):(fu st p).length=st.own.length:=by unfold fu;rw[jE,Ir wf hp,wf.mD,nQ]
def vF{st:HS}(wf:Wf st){p:Pt}(hp:p∈st.ai):qc st p.nm={ st with ai:=st.ai.filter (λq=>decide (q.nm≠p.nm)),dO:=st.dO++[⟨p.nm,p.ow,p.wo,gO st p⟩],kn:=st.kn+100,bU:=oG st p }:=by unfold qc oG;rw[d_ wf hp rfl]
theorem Qy{st:HS}{x:Str}(wf:Wf st)(h:rZ st x=none)(l:WV st):Wf (qc st x):=by
 obtain⟨i,p,e1,rfl⟩:=j0 (mG h);have hp:=bQ e1;rw[vF wf hp];have S:∀{M:Pt->Prop},(∀x∈st.ai,M x)->∀x∈st.ai.filter (λq=>decide (q.nm≠p.nm)),M x:=λh x hx=>h x (yx.mp hx).1;have hf:=List.length_filter_le (λq:Pt=>decide (q.nm≠p.nm)) st.ai;refine⟨wf.jV,wf.yT,List.Nodup.sublist (List.Sublist.map _ List.filter_sublist) wf.dN,S wf.sub,S wf.rows,S wf.ow,wf.eZ,?_,wf.gu,wf.pZ,wf.vj,wf.j9,wf.yU,?_,wf.AB,?_,l.kn,wf.big,wf.oq,S wf.sW,S wf.oz,S wf.p5,S wf.kG,?_⟩
 .show (oG st p).length=_;unfold oG;rw[gq,AW wf hp]
 .have:=wf.kM;show(List.filter _ _).length<=1000;omega
 .show (st.dO++[_]).length<=1000;rw[cX];exact l.dO
 .exact λu hu=>(Qx wf hp (m:=8840) (l.wo p hp) (l.prod.mono (by decide)) (λu hu=>(l.bU u hu).mono (by decide)) u hu).mono (by decide)
inductive Mb(c:Nat)(own:Da Str)(sh:Da (Str×Rat)):Prop
 |mk(Mc:Da Str)(tops:Da Int)(b:Int)(_:Mc <+:own)(_:Mc.length=tops.length)(_:sh=H_ Mc tops b)(_:∀t∈tops,0<=t)(_:tops.sum=b)(_:1<=b)(_:Jm.Sz (64*c+1) b)
theorem Mb.mono{c c':Nat}{own own':Da Str}{sh:Da (Str×Rat)}(h:Mb c own sh)(hc:c<=c')(ho:own <+:own'):Mb c' own' sh:=by obtain⟨o0,ts,b,h1,h2,h3,h4,h5,h6,h7⟩:=h;exact⟨o0,ts,b,h1.trans ho,h2,h3,h4,h5,h6,h7.mono (by omega)⟩
structure Go(c:Nat)(st:HS):Prop where
 bU:∀u∈st.bU,Jm.Sz (64*c+61) u
 stp:st.stp.length<=c
 prod:Jm.Sz (64*c+1) st.prod
 wo:∀p∈st.ai,p.wo<=1000000000000*((c:Int)+1)
 we:∀p∈st.ai,p.we<=1000000000
 pl:st.ai.length<=c
 kl:st.nms.length<=c
 ol:0<st.own.length
 nk:∀x∈st.nms,isNm x=true
 on:∀o∈st.own,isNm o=true
 sum:∀p∈st.ai,(aX st p).sum=st.prod
 al:st.dO.length<=c
 dO:∀a∈st.dO,Mb c st.own a.sh
theorem Go.kn{c:Nat}{st:HS}(g:Go c st)(k:Nat):Go c { st with kn:=k }:=⟨g.bU,g.stp,g.prod,g.wo,g.we,g.pl,g.kl,g.ol,g.nk,g.on,g.sum,g.al,g.dO⟩
theorem Go.mono{c:Nat}{st:HS}(g:Go c st):Go (c+1) st:=⟨λu hu=>(g.bU u hu).mono (by omega),by have:=g.stp;omega,g.prod.mono (by omega),λp hp=>by have:=g.wo p hp;omega,g.we,by have:=g.pl;omega,by have:=g.kl;omega,g.ol,g.nk,g.on,g.sum,by have:=g.al;omega,λa ha=>(g.dO a ha).mono (by omega) (List.prefix_refl _)⟩
theorem Qz:∀{ps:Da Pt}{m:Int},(∀p∈ps,1<=p.wo/\p.wo<=m)->0<=(ps.map (·.wo)).sum/\(ps.map (·.wo)).sum<=m*(ps.length:Int)
 | [],m,_=>by show 0<=(0:Int)/\(0:Int)<=m*0;omega
 | p::ps,m,h=>by have h0:=h p dg;have ih:=Qz (ps:=ps) (m:=m) λx hx=>h x (cM _ hx);rw[cO,fY,jz,show(((ps.length+1:Nat)):Int)=(ps.length:Int)+1 from by omega,yG,Int.mul_one];omega
theorem Go.whole{c:Nat}{st:HS}(g:Go c st)(wf:Wf st)(hc:c<=91):0<=aS st/\Jm.Sz 60 (aS st):=by
 have h:=Qz (ps:=st.ai) (m:=92000000000000) λp hp=>⟨(wf.kG p hp).1,by have:=g.wo p hp;omega⟩
 have hl:=g.pl;have h2:(92000000000000:Int)*(st.ai.length:Int)<=92000000000000*91:=by omega
 have h3:aS st<=92000000000000*91:=Int.le_trans h.2 h2;have h1:0<=aS st:=h.1;exact⟨h1,(show Jm.Sz 60 (92000000000000*91:Int)from sS (by decide +kernel)).of_le (by omega)⟩
theorem Go.aw{c:Nat}{st:HS}(g:Go c st)(wf:Wf st)(hc:c<=91):Sh st:=⟨(g.whole wf hc).2,g.prod.mono (by omega),λu hu=>(g.bU u hu).mono (by omega),by have:=g.stp;omega⟩
theorem Go.sz{c:Nat}{st:HS}(g:Go c st)(wf:Wf st)(hc:c<=91):∀p∈st.ai,Jm.Sz 60 p.wo:=λp hp=>by have h:=g.wo p hp;have h1:=(wf.kG p hp).1;exact(show Jm.Sz 60 (92000000000000:Int)from sS (by decide +kernel)).of_le (by omega)
theorem Go.ld{c:Nat}{st:HS}(g:Go c st)(wf:Wf st)(hc:c<=91)(hk:st.kn+100<=1000000):WV st:=⟨hk,by have:=g.al;omega,g.sz wf hc,g.prod.mono (by omega),λu hu=>(g.bU u hu).mono (by omega)⟩
theorem Eu{c:Nat}{st:HS}(g:Go c st){ps:Da Pt}{ns:Da Str}(h:∀p∈ps,(aX st p).sum=st.prod/\p.wo<=1000000000000*((c:Int)+2)/\p.we<=1000000000)(hl:ps.length<=c+1)(hn:ns.length<=c+1)(hk:∀x∈ns,isNm x=true):Go (c+1) { st with ai:=ps,nms:=ns }:=⟨g.mono.bU,g.mono.stp,g.mono.prod,λp hp=>by have:=(h p hp).2.1;omega,λp hp=>(h p hp).2.2,hl,hn,g.ol,hk,g.on,λp hp=>(h p hp).1,g.mono.al,g.mono.dO⟩
theorem Go.same{c:Nat}{st:HS}(g:Go c st){ps:Da Pt}(h:∀p'∈ps,∃p∈st.ai,p'.row=p.row/\p'.sc=p.sc/\p'.wo<=p.wo+1000000000000/\p'.we<=p.we)(hl:ps.length<=c+1):Go (c+1) { st with ai:=ps }:=Eu g (ns:=st.nms) (λp' gT=>by obtain⟨p,hp,e1,e2,e3,e4⟩:=h p' gT;have w:=g.wo p hp;have v:=g.we p hp;exact⟨by have:=g.sum p hp;unfold aX at this ⊢;rw[e1,e2];exact this,by omega,by omega⟩) hl g.mono.kl g.nk
theorem Me{c:Nat}{st st':HS}{kept lost:Int}{added:Da Int}(g:Go c st)(wf:Wf st)(bl:qR st kept (aS st) lost added)(hs:added.sum=lost*st.prod)(hc:c<=90)(eC:st'={ bf st kept (aS st) added with ai:=st'.ai })(hp:∀p'∈st'.ai,∃p∈st.ai,p'.row=p.row/\p'.sc=p.sc*kept / cR st kept (aS st) added/\p'.wo<=p.wo/\p'.we=p.we)(hl:st'.ai.length<=st.ai.length):Go (c+1) st':=by
 have zw:=g.whole wf (by omega)
 obtain⟨hd,hsw,_,_⟩:=bl.dvds
 have w1:0<aS st:=by have:=bl.k;have:=bl.l;have:=bl.w;omega
 have s1:1<=aS st / cR st kept (aS st) added:=by have:=Int.le_of_dvd w1 hsw;exact Int.le_ediv_of_mul_le hd (by omega)
 have s2:aS st / cR st kept (aS st) added<=aS st:=Int.ediv_le_self _ (by omega)
 have zs:Jm.Sz 60 (aS st / cR st kept (aS st) added):=zw.2.of_le (by omega)
 have ep:st'.prod=(bf st kept (aS st) added).prod:=by rw[eC]
 have ec:st'.bq=(bf st kept (aS st) added).bq:=by rw[eC]
 have epr:st'.prod=st.prod*(aS st / cR st kept (aS st) added):=by rw[ep];unfold bf;rw[Ek s1]
 have en:st'.nms=st.nms:=by rw[eC];show(bf st kept (aS st) added).nms=_;unfold bf;rw[w_]
 have eo:st'.own=st.own:=by rw[eC];show(bf st kept (aS st) added).own=_;unfold bf;rw[sZ]
 have ea:st'.dO=st.dO:=by rw[eC];show(bf st kept (aS st) added).dO=_;unfold bf;rw[s_]
 have p1:=wf.gu
 have gm:=g.mono
 refine⟨λu hu=>?_,?_,?_,λp' gT=>?_,λp' gT=>?_,by have:=g.pl;omega,by rw[en];exact gm.kl,by rw[eo];exact g.ol,by rw[en];exact g.nk,by rw[eo];exact g.on,λp' gT=>?_,by rw[ea];exact gm.al,by rw[ea,eo];exact gm.dO⟩
 . rw[eC]at hu
   have hu:u∈(bf st kept (aS st) added).bU:=hu
   unfold bf at hu
   rw[Ig]at hu
   obtain⟨x,hx,rfl⟩:=b7.mp hu
   exact((g.bU x hx).mul zs).mono (by omega)
 . rw[eC]
   show(bf st kept (aS st) added).stp.length<=c+1
   unfold bf d9
   split
   . show(st.stp++[_]).length<=c+1
     rw[cX];have:=g.stp;show st.stp.length+1<=c+1;omega
   . exact gm.stp
 . rw[epr];exact(g.prod.mul zs).mono (by omega)
 . obtain⟨p,h0,_,_,e3,_⟩:=hp p' gT
   have:=gm.wo p h0
   omega
 . obtain⟨p,h0,_,_,_,e4⟩:=hp p' gT
   rw[e4];exact g.we p h0
 . obtain⟨p,h0,e1,e2,_,_⟩:=hp p' gT
   have tl:=y_ wf h0
   have tl':(aX st' p').length=st.bq.length:=by unfold aX;rw[jE,e1,wf.rows p h0,<-wf.eZ,ec];unfold bf fP;rw[Ie,aF,jE,bl.len];omega
   have r:=Qv (l:=List.zipWith (λt m=>t*kept+m) (aX st p) added) (m:=aX st' p') (a:=st'.prod) (b:=st.prod*aS st) (by rw[jE,tl,tl',bl.len];omega) λj=>by rw[zg (f:=λt m=>t*kept+m) (by show(0:Int)*_+0=0;omega) (by rw[tl,bl.len])];exact UA wf bl ec ep h0 e1 e2 (B:=st.prod) rfl rfl
   rw[Qj _ (by rw[tl,bl.len]),g.sum p h0,hs,wL lost,<-yG,<-bl.w,wL _ st'.prod]at r
   exact(Int.eq_of_mul_eq_mul_right (Int.ne_of_gt (Int.mul_pos (by omega) w1)) r).symm
theorem Iw:∀(rs:Da Row)(s:HS),(∀r∈rs,1<=r.2)->∀p'∈(rs.foldl dJ s).ai,∃p∈s.ai,∃w,p'={ p with wo:=w }/\w<=p.wo
 | [],s,_,p',h=>⟨p',h,p'.wo,Z,lO _⟩
 | r::rs,s,h1,p',h=>by
  obtain⟨p,hp,w,e,le⟩:=Iw rs (dJ s r) (λx hx=>h1 x (cM _ hx)) p' h;obtain⟨_,q,hq,e2⟩:=zb hp;have:=h1 r dg;split at e2
  .subst e2;have le:w<=q.wo-r.2:=le;exact⟨q,hq,w,e,by omega⟩
  .subst e2;exact⟨p,hq,w,e,le⟩
theorem Iz:∀(rs:Da Row)(s:HS),(rs.foldl dJ s).ai.length<=s.ai.length
 | [],s=>aK _
 | r::rs,s=>by have:=Iz rs (dJ s r);have h:=uG (ps:=s.ai) (x:=r.1) (a:=r.2) |>.length_le;rw[aF,aF]at h;exact gD this h
theorem CU(k:Int):∀{xs ts:Da Int},xs.length=ts.length->(List.zipWith (λx t=>x+k*t) xs ts).sum=xs.sum+k*ts.sum
 | [],[],_=>by simp
 | x::xs,t::ts,h=>by rw[Fj,fY,fY,fY,CU k (by simpa using h),yG];omega
 | [],_::_,h=>by simp at h
 | _::_,[],h=>by simp at h
theorem IA{st:HS}:∀(rs:Da Row)(Ap:Da Int),(∀r∈rs,(aX st (bP st r.1)).length=Ap.length/\(aX st (bP st r.1)).sum=st.prod)->(y9 st Ap rs).sum=Ap.sum+bK rs*st.prod
 | [],Ap,_=>by show Ap.sum=Ap.sum+0*_;omega
 | r::rs,Ap,h=>by
  obtain⟨h1,h2⟩:=h r dg;have e:(List.zipWith (λx t=>x+r.2*t) Ap (aX st (bP st r.1))).length=Ap.length:=by rw[jE,h1];omega
  show(y9 st (List.zipWith (λx t=>x+r.2*t) Ap (aX st (bP st r.1))) rs).sum=_;rw[IA rs _ (λx hx=>by rw[e];exact h x (cM _ hx)),CU _ h1.symm,h2,show bK (r::rs)=r.2+bK rs from by unfold bK;rw[cO,fY],wM];omega
theorem ju{st:HS}{r:Row}(h:jF st r=none):r.1∈eL st/\1<=r.2/\r.2<=(bP st r.1).wo:=by
 unfold jF at h;split at h
 .split at h
  .cases h
  .split at h
   .cases h
   .exact ⟨by assumption,by omega,by omega⟩
 .cases h
theorem tE{st:HS}{rs:Da Row}(h:uH st rs=none):rs≠[]/\(rs.map λr:Row=>r.1).Nodup/\(∀r∈rs,jF st r=none)/\bK rs<aS st:=by
 unfold uH at h;split at h
 .next c=>
  split at h
  .cases h
  .next e=>
   split at h
   .cases h
   .exact ⟨c.1,c.2,λr hr=>List.findSome?_eq_none_iff.mp e r hr,by omega⟩
 .cases h
theorem Go.Mf{c:Nat}{st:HS}(g:Go c st)(wf:Wf st)(hc:c<=91){rs:Da Row}(h:uH st rs=none):vA st rs:=by
 obtain⟨h1,h2,h3,h4⟩:=tE h;have aw:=g.aw wf hc;refine⟨h2,h1,?_,λr hr=>?_,h4,aw.big,aw.prod,aw.bU,aw.stp⟩
 .have:=vd h2 (m:=eL st) (λx hx=>by obtain⟨r,hr,rfl⟩:=b7.mp hx;exact(ju (h3 r hr)).1);rw[aF]at this;unfold eL at this;rw[aF]at this;have:=g.pl;omega
 .obtain ⟨a1,a2,a3⟩:=ju (h3 r hr);obtain⟨i,p,e1,e2⟩:=j0 a1;have hp:=bQ e1;rw[d_ wf hp e2]at a3;have:=g.sz wf hc p hp;exact⟨a2,this.of_le (by omega),p,hp,e2,a3⟩
noncomputable def Yj:Dd->Prop
 | .load _ _ wo we=>wo<=1000000000000/\we<=1000000000
 | .rise _ a=>a<=1000000000000
 | _=>True
def QA{n i:Nat}{b:Int}(h:i<n):((List.replicate n (0:Int)).set i b).sum=b:=by
 have:=xJ (l:=List.replicate n (0:Int)) (x:=b) (by rw[mh];exact h)
 rwa [WT,Int.zero_add,LM,Int.zero_add]at this
theorem Z1{c:Nat}{st:HS}(g:Go c st)(wf:Wf st){x o:Str}{wo we:Int}(hx:isNm x=true)(ho:o∈st.own)(h1:wo<=1000000000000)(h2:we<=1000000000):Go (c+1) (wY st x o wo we):=by
 refine Eu g (λp hp=>?_) (by rw[cX];have:=g.pl;show st.ai.length+1<=_;omega) (by rw[cX];have:=g.kl;show st.nms.length+1<=_;omega) (λy hy=>?_)
 .rcases fW.mp hp with z|z
  .have:=g.wo p z;exact⟨g.sum p z,by omega,g.we p z⟩
  .rw [eO.mp z];refine⟨?_,by show wo<=_;omega,h2⟩;unfold aX;show(List.zipWith (λr c=>(1:Int)*r+c) (j_ st _) st.bq).sum=_;rw[L6 (by rw[gq,mh,wf.eZ])];exact QA (wF ho)
 .rcases fW.mp hy with z|z
  .exact g.nk y z
  .rw [eO.mp z];exact hx
theorem Z2{c:Nat}{st:HS}(g:Go c st)(wf:Wf st)(hc:c<=90){rs:Da Row}(h:uH st rs=none):Go (c+1) (iw st rs):=by
 have ok:=g.Mf wf (by omega) h;have h1:∀r∈rs,1<=r.2:=λr hr=>(ok.row r hr).1;refine Me g wf (ok.blend wf) ?_ hc (o_ rs _) (λp' gT=>?_) ?_
 .have ex:∀r∈rs,∃p∈st.ai,p.nm=r.1:=λr hr=>by obtain⟨p,hp,e,_⟩:=(ok.row r hr).2.2;exact⟨p,hp,e⟩
  rw[Ij wf ex,IA,LM,Int.zero_add];intro r hr;obtain⟨p,hp,e⟩:=ex r hr;rw[d_ wf hp e,mh];exact⟨y_ wf hp,g.sum p hp⟩
 .obtain ⟨p1,hp1,w,rfl,le⟩:=Iw rs _ h1 p' gT;unfold bf at hp1;rw[o8]at hp1;obtain⟨p,hp,rfl⟩:=b7.mp hp1;exact⟨p,hp,Z,Z,le,Z⟩
 .refine gD (Iz rs _) ?_;unfold bf;rw[o8,aF];exact aK _
theorem WX{c:Nat}{st:HS}(g:Go c st)(wf:Wf st)(hc:c<=90){o:Str}{a:Int}(h:kg st o a=none):Go (c+1) (tD st o a):=by
 obtain⟨ho,h1,h2⟩:=uI h;refine Me g wf ((g.aw wf (by omega)).blend (o:=o) wf h1 h2) (QA (wF ho)) hc rfl (λp' gT=>?_) ?_
 .have gT:p'∈(bf st _ _ _).ai:=gT;unfold bf at gT;rw[o8]at gT;obtain⟨p,hp,rfl⟩:=b7.mp gT;exact⟨p,hp,Z,Z,lO _,Z⟩
 .show (bf st _ _ _).ai.length<=_;unfold bf;rw[o8,aF];exact aK _
def UH{st:HS}(wf:Wf st){c:Nat}(g:Go c st){p:Pt}(hp:p∈st.ai):Mb c st.own (gO st p):=⟨st.own,aX st p,st.prod,List.prefix_refl _,(Ir wf hp).symm,Z,λt ht=>(wf.p5 p hp t ht).1,g.sum p hp,wf.gu,g.prod⟩
theorem Z3{c:Nat}{st:HS}(g:Go c st)(wf:Wf st)(hc:c<=91){x:Str}(h:rZ st x=none):Go (c+1) (qc st x):=by
 obtain⟨i,p,e1,rfl⟩:=j0 (mG h);have hp:=bQ e1;rw[vF wf hp];have S:∀{M:Pt->Prop},(∀x∈st.ai,M x)->∀x∈st.ai.filter (λq=>decide (q.nm≠p.nm)),M x:=λh x hx=>h x (yx.mp hx).1;have hf:=List.length_filter_le (λq:Pt=>decide (q.nm≠p.nm)) st.ai;have gm:=g.mono;refine⟨λu hu=>?_,gm.stp,gm.prod,S gm.wo,S g.we,gD hf gm.pl,gm.kl,g.ol,g.nk,g.on,S g.sum,?_,λa ha=>?_⟩
 .exact (Qx wf hp (m:=64*c+1) (g.sz wf hc p hp) g.prod (λu hu=>(g.bU u hu).mono (by omega)) u hu).mono (by omega)
 .show (st.dO++[_]).length<=_;rw[cX];have:=g.al;show st.dO.length+1<=_;omega
 .rcases fW.mp (show a∈st.dO++[_]from ha)with z|z
  .exact gm.dO a z
  .rw [eO.mp z];exact(UH wf g hp).mono (by omega) (List.prefix_refl _)
theorem Z4{c:Nat}{st:HS}(g:Go c st)(wf:Wf st){o:Str}(h:isNm o=true):Go (c+1) (aV st o):=by
 have gm:=g.mono;have P:∀p∈(aV st o).ai,∃p0∈st.ai,p={ p0 with row:=p0.row++[0] }:=λp hp=>by obtain⟨p0,h0,rfl⟩:=b7.mp (show p∈st.ai.map _ from hp);exact⟨p0,h0,Z⟩
 refine⟨λu hu=>?_,gm.stp,gm.prod,λp hp=>?_,λp hp=>?_,?_,gm.kl,?_,g.nk,λx hx=>?_,λp hp=>?_,gm.al,λa ha=>(gm.dO a ha).mono (aK _) (List.prefix_append _ _)⟩
 .rcases fW.mp (show u∈st.bU++[0]from hu)with z|z
  .exact gm.bU u z
  .rw [eO.mp z];exact(show Jm.Sz 1 (0:Int)from sS (by decide +kernel)).mono (by omega)
 .obtain ⟨p0,h0,rfl⟩:=P p hp;exact gm.wo p0 h0
 .obtain ⟨p0,h0,rfl⟩:=P p hp;exact g.we p0 h0
 .show (st.ai.map _).length<=_;rw[aF];exact gm.pl
 .show 0<(st.own++[o]).length;rw[cX];exact lK g.ol (rL _ _)
 .rcases fW.mp (show x∈st.own++[o]from hx)with z|z
  .exact g.on x z
  .rw [eO.mp z];exact h
 .obtain ⟨p0,h0,rfl⟩:=P p hp;show(List.zipWith (λr c=>p0.sc*r+c) (p0.row++[0]) (st.bq++[0])).sum=st.prod;rw[HZ _ (by rw[wf.rows p0 h0,wf.eZ]),List.sum_append,show(List.zipWith (λr c=>p0.sc*r+c) p0.row st.bq).sum=st.prod from g.sum p0 h0];simp
def zy{l:Da Pt}{x:Str}{f:Pt->Pt}{p':Pt}(h:p'∈l.map λp=>if p.nm=x then f p else p):∃p∈l,(p.nm=x/\p'=f p)\/p'=p:=by
 obtain⟨p,hp,e⟩:=b7.mp h;by_cases c:p.nm=x
 .exact ⟨p,hp,.inl ⟨c,by rw[aB c]at e;exact e.symm⟩⟩
 .exact ⟨p,hp,.inr (by rw[aC c]at e;exact e.symm)⟩
theorem afy{c:Nat}{st:HS}(g:Go c st)(wf:Wf st)(hc:c<=90){d:Dd}(hr:jb st d=none)(db:Yj d):Go (c+1) (iK st d):=by
 have hl:=g.pl;cases d with
 | sign o=>
  have:zh st o=none:=hr;unfold zh at this;split at this
  .exact Z4 g wf (by assumption)
  .cases this
 | load x o wo we=>obtain⟨h1,_,h3,_,_⟩:=pe hr;exact Z1 g wf h1 h3 db.1 db.2
 | cast rs=>exact Z2 g wf hc hr
 | award o a=>exact WX g wf hc hr
 | mishap x a=>
  obtain⟨_,h1,_⟩:=ju (show jF st (x,a)=none from hr);have h1:1<=a:=h1;refine g.same (ps:=jM st.ai x a) (λp' gT=>?_) ?_
  .obtain ⟨_,p,hp,e⟩:=zb gT;split at e
   .exact ⟨p,hp,by rw[e],by rw[e],by rw[e];show p.wo-a<=_;omega,by rw[e];exact lO _⟩
   .exact ⟨p,hp,by rw[e],by rw[e],by rw[e];omega,by rw[e];exact lO _⟩
  .have h:=uG (ps:=st.ai) (x:=x) (a:=a) |>.length_le;rw[aF,aF]at h;omega
 | rise x a=>
  have ha:a<=1000000000000:=db;refine g.same (λp' gT=>?_) (by rw[aF];omega);obtain⟨p,hp,⟨_,e⟩|e⟩:=zy gT
  .exact ⟨p,hp,by rw[e],by rw[e],by rw[e];show p.wo+a<=_;omega,by rw[e];exact lO _⟩
  .exact ⟨p,hp,by rw[e],by rw[e],by rw[e];omega,by rw[e];exact lO _⟩
 | hand x o=>
  obtain⟨hx,ho⟩:=pB hr;show Go (c+1) (eU st x o);unfold eU;split
  .exact g.mono
  .next ne=>
   refine Eu g (ns:=st.nms) (λp' gT=>?_) (by rw[aF];omega) g.mono.kl g.nk;obtain⟨p,hp,⟨en,e⟩|e⟩:=zy gT
   .rw [d_ wf hp en]at ne;have:=g.wo p hp;refine⟨?_,by rw[e];show p.wo<=_;omega,by rw[e];exact g.we p hp⟩;rw[e,show aX st { p with ow:=o,sc:=1,row:=j_ st (jP st p o) }=_ from Iu wf hp o];exact(L7 wf hp ho ne (g.sum p hp)).2
   .rw [e];have:=g.wo p hp;exact⟨g.sum p hp,by omega,g.we p hp⟩
 | land x=>exact Z3 g wf (by omega) hr
 | sever x y a we=>
  obtain⟨hx,hy,h1,h2,h3,h4⟩:=jQ hr;obtain⟨i,p0,e1,en⟩:=j0 hx;have hp0:=bQ e1;have w0:=g.wo p0 hp0;have v0:=g.we p0 hp0;show Go (c+1) (k_ st x y a we);unfold k_;rw[d_ wf hp0 en]at h3 h4 ⊢;refine Eu g (λp' gT=>?_) (by rw[cX];show(List.map _ st.ai).length+1<=_;rw[aF];omega) (by rw[cX];have:=g.kl;show st.nms.length+1<=_;omega) (λz hz=>?_)
  .rcases fW.mp gT with z|z
   .obtain ⟨p,hp,⟨_,e⟩|e⟩:=zy z
    .rw [e];have:=g.wo p hp;have:=g.we p hp;exact⟨g.sum p hp,by show p.wo-a<=_;omega,by show p.we-we<=_;omega⟩
    .rw [e];have:=g.wo p hp;exact⟨g.sum p hp,by omega,g.we p hp⟩
   .rw [eO.mp z];exact⟨g.sum p0 hp0,by show a<=_;omega,by show we<=_;omega⟩
  .rcases fW.mp hz with w|w
   .exact g.nk z w
   .rw [eO.mp w];exact hy.1
 | still=>exact g.mono
theorem afz{c:Nat}{st:HS}(g:Go c st)(wf:Wf st)(hc:c<=90)(hk:st.kn+100<=1000000)(ho:st.own.length<100){d:Dd}(hr:jb st d=none):Wf (iK st d):=by
 have hl:=g.pl;have hn:=g.kl;cases d with
 | sign o=>
  have:zh st o=none:=hr;unfold zh at this;split at this
  .split at this
   .cases this
   .exact FQ wf (by assumption) ho
  .cases this
 | load x o wo we=>obtain⟨_,h2,h3,h4,h5⟩:=pe hr;exact Qf wf h2 (by omega) (by omega) h3 h4 h5
 | cast rs=>exact ZP wf (g.Mf wf (by omega) hr)
 | award o a=>obtain⟨h0,h1,h2⟩:=uI hr;exact yZ wf ((g.aw wf (by omega)).blend (o:=o) wf h1 h2)
 | mishap x a=>obtain⟨_,_,h1⟩:=ju (show jF st (x,a)=none from hr);exact FY wf λp hp e=>by rw[d_ wf hp e]at h1;exact h1
 | rise x a=>have h1:=(xj (show lU st x a=none from hr)).2;exact AV wf λq hq _=>⟨Z,Z,Z,Z,by have:=(wf.kG q hq).1;show 1<=q.wo+a;omega,(wf.kG q hq).2⟩
 | hand x o=>exact Qu wf hr g.sum
 | land x=>exact Qy wf hr (g.ld wf (by omega) hk)
 | sever x y a we=>exact L4 wf hr (by omega) (by omega)
 | still=>exact wf
def Z5(st:HS)(s:Int):(d9 st s).kn<=st.kn:=by
 unfold d9;split
 .exact fm _
 .exact aK _
def Si(st:HS)(d:Dd):(iK st d).kn<=st.kn+100:=by
 cases d with
 | cast rs=>exact gD (ZS st rs) (rL _ _)
 | award o a=>exact gD (Z5 _ _) (rL _ _)
 | hand x o=>show(eU st x o).kn<=_;unfold eU;split <;> exact rL _ _
 | land x=>exact aK _
 | _=>exact rL _ _
def iZ(a b:HS):Prop:=a={ b with kn:=a.kn }
def iZ.refl(a:HS):iZ a a:=rfl
def iZ.set{a b:HS}(h:iZ a b)(k:Nat):iZ { a with kn:=k } b:=by rw[h];rfl
def iZ.ref{a b:HS}(h:iZ a b)(d:Dd):jb a d=jb b d:=by rw[h];cases d <;> rfl
def WY{a b:HS}(h:iZ a b)(s:Int):iZ (d9 a s) (d9 b s):=by unfold d9;rw[h];split <;> rfl
theorem Mg:∀(rs:Da Row){a b:HS},iZ a b->iZ (rs.foldl dJ a) (rs.foldl dJ b)
 | [],_,_,h=>h
 | r::rs,a,b,h=>by rw[iH,iH];exact Mg rs (by rw[h];rfl)
def IB{a b:HS}(h:iZ a b)(kept whole:Int)(added:Da Int):iZ (bf a kept whole added) (bf b kept whole added):=by generalize ek:a.kn=k at *;unfold iZ at h;rw[ek]at h;subst h;unfold bf;refine WY ?_ _;rfl
def iZ.do{a b:HS}(h:iZ a b)(d:Dd):iZ (iK a d) (iK b d):=by
 generalize ek:a.kn=k at *;unfold iZ at h;rw[ek]at h;subst h;cases d with
 | cast rs=>exact Mg rs (IB (a:={ b with kn:=k }) rfl _ _ _)
 | award o a=>exact IB (a:={ b with kn:=k }) rfl _ _ _
 | hand x o=>show iZ (eU { b with kn:=k } x o) (eU b x o);unfold eU;show iZ (if b.own.idxOf o=b.own.idxOf (bP b x).ow then _ else _) _;split <;> rfl
 | _=>rfl
structure LS where
 own:Da Str
 ai:Da Q4
 vG:Da Str
structure LA where
 m:Addr
 lo:Addr
 lp:Addr
 lk:Addr
 qs:Da Addr
noncomputable def fQ(B:LA):Da (Key×V):=[(Sum.inr "owners",.ref B.lo),(Sum.inr "parts",.ref B.lp),(Sum.inr "known",.ref B.lk)]
noncomputable def ir(q:Q4):Da V:=[.str q.1,.str q.2.1,.int q.2.2.1,.int q.2.2.2]
noncomputable def nx:Str:=⟨#[]⟩
structure bH(n:Nat)(ρ:bR)(B:LA)(H:Hp)(l:LS):Prop where
 om:H B.m=some (.dK (fQ B))
 cm:ρ B.m=some (n,40,nx)
 oo:H B.lo=some (.lst (l.own.map V.str))
 co:ρ B.lo=some (n,41,nx)
 op:H B.lp=some (.lst (B.qs.map V.ref))
 cp:ρ B.lp=some (n,42,nx)
 ok:H B.lk=some (.lst (l.vG.map V.str))
 ck:ρ B.lk=some (n,43,nx)
 nd:B.qs.Nodup
 ql:B.qs.length=l.ai.length
 pt:∀(i:Nat)(q:Q4)(a:Addr),l.ai[i]?=some q->B.qs[i]?=some a->H a=some (.lst (ir q))/\ρ a=some (n,44,nx)
noncomputable def dD(st:HS):LS:=⟨st.own,bD st,st.nms⟩
def bH.same{n:Nat}{ρ ρ':bR}{B:LA}{H H':Hp}{l:LS}(h:bH n ρ B H l)(k:Kp n ρ ρ' H H' λ_=>true):bH n ρ' B H' l:=by have z:=λ{b:Addr}{t:Nat}{x:Str}{o:HO}(c:ρ b=some (n,t,x))(e:H b=some o)=>k.2 b t x o rfl c e;exact⟨(z h.cm h.om).1,(z h.cm h.om).2,(z h.co h.oo).1,(z h.co h.oo).2,(z h.cp h.op).1,(z h.cp h.op).2,(z h.ck h.ok).1,(z h.ck h.ok).2,h.nd,h.ql,λi q a e1 e2=>let⟨x,y⟩:=h.pt i q a e1 e2;z y x⟩
def bH.mono{n:Nat}{ρ:bR}{B:LA}{H H':Hp}{l:LS}(h:bH n ρ B H l)(s:aJ H H'):bH n ρ B H' l:=h.same (P_ s)
def bH.other{n m:Nat}{ρ ρ':bR}{B:LA}{H H':Hp}{l:LS}(h:bH m ρ B H l)(f:Fr n ρ H ρ' H')(g:Gh ρ H)(e:m≠n):bH m ρ' B H' l:=h.same ⟨λb xs q=>(f b _ q λt x=>by rw[g.tup q];intro z;cases z).1,λb t x o _ c q=>by
 obtain⟨a,b'⟩:=f b o q λt' x'=>by rw[c];intro z;cases z;exact e rfl
 exact⟨a,b'.trans c⟩⟩
def bH.col{n t:Nat}{x:Str}{ρ:bR}{B:LA}{H:Hp}{l:LS}{a:Addr}(h:bH n ρ B H l)(c:ρ a=none):bH n (cy ρ a (n,t,x)) B H l:=h.same ⟨λ_ _ e=>e,λb u y w _ hc he=>⟨he,by rw[aP (λz=>by rw[z,c]at hc;cases hc)];exact hc⟩⟩
def bH.find{n:Nat}{ρ:bR}{B:LA}{H:Hp}{l:LS}(h:bH n ρ B H l){i:Nat}{q:Q4}(e:l.ai[i]?=some q):∃a,B.qs[i]?=some a/\H a=some (.lst (ir q))/\ρ a=some (n,44,nx):=by
 have hi:i<B.qs.length:=by rw[h.ql];exact(dX.mp e).1
 exact⟨B.qs[i],bu hi,h.pt i q _ e (bu hi)⟩
def bH.jq{n:Nat}{ρ:bR}{B:LA}{H:Hp}{l:LS}(h:bH n ρ B H l)(g:Gh ρ H){i:Nat}{a:Addr}(q1:Q4)(ea:B.qs[i]?=some a):bH n ρ B (upd H a (.lst (ir q1))) { l with ai:=l.ai.set i q1 }:=by
 have hi:i<l.ai.length:=by rw[<-h.ql];exact(dX.mp ea).1
 obtain⟨x1,x2⟩:=h.pt i _ a (bu hi) ea;have k:=dG (o:=.lst (ir q1)) g x2;refine⟨kz k h.cm h.om,h.cm,kz k h.co h.oo,h.co,kz k h.cp h.op,h.cp,kz k h.ck h.ok,h.ck,h.nd,by show _=(l.ai.set i q1).length;rw[gq];exact h.ql,λj q b e1 e2=>?_⟩;have e1:(l.ai.set i q1)[j]?=some q:=e1;by_cases hj:i=j
 .subst hj;rw[qJ hi]at e1;rw[ea]at e2;cases e1;cases e2;exact⟨ah,x2⟩
 .rw [Ab hj]at e1;obtain⟨y1,y2⟩:=h.pt j q b e1 e2;have hb:b≠a:=λe=>hj ((RD (dX.mp ea).1 h.nd).mp (by rw[ea,e2,e]));exact⟨by rw[au hb];exact y1,y2⟩
def bH.acf{n:Nat}{ρ:bR}{B:LA}{H:Hp}{l:LS}(h:bH n ρ B H l)(g:Gh ρ H){lp:Addr}{qs:Da Addr}{ps:Da Q4}(e:H lp=some (.lst (qs.map V.ref)))(c:ρ lp=some (n,42,nx))(nd:qs.Nodup)(hl:qs.length=ps.length)(hp:∀(i:Nat) (q:Q4) (a:Addr),ps[i]?=some q->qs[i]?=some a->H a=some (.lst (ir q))/\ρ a=some (n,44,nx)):bH n ρ { { B with lp:=lp }with qs:=qs } (upd H B.m (.dK (fQ { B with lp:=lp }))) { l with ai:=ps }:=by
 have k:=dG (o:=.dK (fQ { B with lp:=lp })) g h.cm
 exact⟨ah,h.cm,kz k h.co h.oo,h.co,kz k c e,c,kz k h.ck h.ok,h.ck,nd,hl,λi q a e1 e2=>let⟨x,y⟩:=hp i q a e1 e2;⟨kz k y x,y⟩⟩
theorem bH.UI{n:Nat}{ρ:bR}{B:LA}{H:Hp}{l:LS}(h:bH n ρ B H l)(g:Gh ρ H){q:Q4}{a:Addr}(e:H a=some (.lst (ir q)))(c:ρ a=some (n,44,nx))(hn:a∉B.qs):bH n ρ { B with qs:=B.qs++[a] } (upd H B.lp (.lst ((B.qs++[a]).map V.ref))) { l with ai:=l.ai++[q] }:=by
 have k:=dG (o:=.lst ((B.qs++[a]).map V.ref)) g h.cp;refine⟨kz k h.cm h.om,h.cm,kz k h.co h.oo,h.co,ah,h.cp,kz k h.ck h.ok,h.ck,oV h.nd hn,?_,λi x y ex ey=>?_⟩
 .show (B.qs++[a]).length=(l.ai++[q]).length;rw[cX,cX,h.ql];rfl
 .have ex:(l.ai++[q])[i]?=some x:=ex;have ey:(B.qs++[a])[i]?=some y:=ey;by_cases d:i<l.ai.length
  .rw [uW d]at ex;rw[uW (by rw[h.ql];exact d)]at ey;obtain⟨a1,a2⟩:=h.pt i x y ex ey;exact⟨kz k a2 a1,a2⟩
  .have hi:i=l.ai.length:=by have:=(dX.mp ex).1;rw[cX]at this;have:i<l.ai.length+1:=this;omega
   subst hi;rw[uV (aK _),rO]at ex;rw[uV (by rw[h.ql];exact aK _),h.ql,rO]at ey;cases ex;cases ey;exact⟨kz k c e,c⟩
def bH.QB{n:Nat}{ρ:bR}{B:LA}{H:Hp}{l:LS}(h:bH n ρ B H l)(g:Gh ρ H)(ks:Da Str):bH n ρ B (upd H B.lk (.lst (ks.map V.str))) { l with vG:=ks }:=by have k:=dG (o:=.lst (ks.map V.str)) g h.ck;exact⟨kz k h.cm h.om,h.cm,kz k h.co h.oo,h.co,kz k h.cp h.op,h.cp,ah,h.ck,h.nd,h.ql,λi q a e1 e2=>let⟨x,y⟩:=h.pt i q a e1 e2;⟨kz k y x,y⟩⟩
inductive QAt(K:Fg)(H:Hp)(m:Addr)(st:HS):Prop
 |mk(AT:Da (Key×V))(lo lp lk:Addr)(us:Da V)(_:H m=some (.dK AT))(_:dY AT (Sum.inr "owners")=some (.ref lo))(_:dY AT (Sum.inr "parts")=some (.ref lp))(_:dY AT (Sum.inr "known")=some (.ref lk))(_:aG K H lo (st.own.map V.str))(_:aG K H lp us)(_:vz K H us st.ai)(_:aG K H lk (st.nms.map V.str))
def ym{st:HS}{i:Nat}{p:Pt}(h:st.ai[i]?=some p):(bD st)[i]?=some (p.nm,p.ow,p.wo,p.we):=by unfold bD;rw[cu,h];rfl
def bH.rows{K:Fg}{n:Nat}{ρ:bR}{B:LA}{H:Hp}{st:HS}(h:bH n ρ B H (dD st)):vz K H (B.qs.map V.ref) st.ai:=by refine⟨by rw[aF,h.ql];show(bD st).length=_;unfold bD;rw[aF],λi p e=>?_⟩;obtain⟨a,ea,k1,_⟩:=h.find (ym e);exact⟨a,_,by rw[cu,ea];rfl,.inl (aG.of k1),Z,Z,Z,Z⟩
def bH.q{K:Fg}{n:Nat}{ρ:bR}{B:LA}{H:Hp}{st:HS}(h:bH n ρ B H (dD st)):QAt K H B.m st:=⟨_,B.lo,B.lp,B.lk,_,h.om,Z,Z,Z,aG.of h.oo,aG.of h.op,h.rows,aG.of h.ok⟩
noncomputable def z7(st:HS):Da Row:=st.ai.map λp=>(p.nm,p.wo)
def vz.nw{K:Fg}{H:Hp}{us:Da V}{st:HS}(h:vz K H us st.ai):R9 K H us (z7 st):=by refine⟨by unfold z7;rw[aF];exact h.len,λi r e=>?_⟩;unfold z7 at e;rw[cu]at e;obtain⟨p,ep,rfl⟩:=kH.mp e;obtain⟨a,xs,e1,e2,e3,_,e5,_⟩:=h.at_ i p ep;exact⟨a,xs,e1,e2,e3,e5⟩
structure Nx(nms:Da Str)(st:HS):Prop where
 t:st.nms=nms.take st.nms.length
 nd:nms.Nodup
 ok:∀x∈nms,isNm x=true
def Nx.next{nms:Da Str}{st:HS}(h:Nx nms st){x:Str}(e:nms[st.nms.length]?=some x):isNm x=true/\x∉st.nms/\∀st':HS,st'.nms=st.nms++[x]->Nx nms st':=by
 refine⟨h.ok x (bQ e),?_,λst' e'=>⟨?_,h.nd,h.ok⟩⟩
 .rw [h.t];exact qQ h.nd e
 .rw [e',cX,show st.nms.length+[x].length=st.nms.length+1 from rfl,take_snoc e,<-h.t]
def Nx.keep{nms:Da Str}{st st':HS}(h:Nx nms st)(e:st'.nms=st.nms):Nx nms st':=⟨by rw[e];exact h.t,h.nd,h.ok⟩
def UJ{st:HS}{d:Dd}(h:d.k≠1)(h':d.k≠8):(iK st d).nms=st.nms:=by
 cases d with
 | load=>exact absurd rfl h
 | sever=>exact absurd rfl h'
 | cast rs=>show(iw st rs).nms=_;unfold iw;rw[o_];show(bf st _ _ _).nms=_;unfold bf;rw[w_]
 | award o a=>show(bf st _ _ _).nms=_;unfold bf;rw[w_]
 | hand x o=>show(eU st x o).nms=_;unfold eU;split <;> rfl
 | _=>rfl
noncomputable def Dd.pl:Dd->Bool
 | .sign _=>false | .load .. =>false | .sever .. =>false|_=>true
def Dd.WZ{d:Dd}(h:d.pl=true):d.k≠1/\d.k≠8/\d.k≠0:=by cases d <;> first|(exact Bool.noConfusion h)|(refine⟨?_,?_,?_⟩ <;> simp[Dd.k])
theorem Sj{st:HS}(wf:Wf st){rs:Da Row}(h:Ux (z7 st) rs)(hne:rs≠[]):uH st rs=none:=by
 have hl:bK rs<aS st:=by
  rcases h.lost with z|z
  .have e:bK (z7 st)=aS st:=by unfold bK z7 aS;rw[fk];rfl
   rw[<-e];exact z
  .exact absurd z hne
 have hr:∀r∈rs,jF st r=none:=λr hr=>by obtain⟨r1,_,w,hw,e,le⟩:=h.row r hr;obtain⟨p,hp,rfl⟩:=b7.mp hw;have e:p.nm=r.1:=e;have le:r.2<=p.wo:=le;unfold jF;rw[aB (show r.1∈eL st from b7.mpr ⟨p,hp,e⟩),aC (by omega),d_ wf hp e,aC (by omega)]
 unfold uH;rw[aB ⟨hne,h.nd⟩,List.findSome?_eq_none_iff.mpr hr];exact aC (by omega)
def Nx.pl{nms:Da Str}{st:HS}(h:Nx nms st)(wf:Wf st):st.ai.length<=nms.length:=by
 have a:=vd (l:=st.ai.map (·.nm)) (m:=nms) wf.dN (λx hx=>by obtain⟨p,hp,rfl⟩:=b7.mp hx;have:=wf.sub p hp;rw[h.t]at this;exact List.mem_of_mem_take this)
 rwa [aF]at a
inductive afA(K:Fg)(vs:Da V)(H:Hp)(Q:VK)(E:XK):Prop
 |mk(l:Addr)(us:Da V)(rs:Da Row)(_:vs=[.ref l])(_:aG K H l us)(_:gP H us rs)(_:rs.length<=1000)(_:∀z H',aJ H H'->H' z=some (.tup (Dd.v (.cast rs)))->Q (.ref z) H')
def UK(K:Fg):Sp:=bx (afA K)
inductive BW(nms:Da Str)(st:HS)(d:Dd):Prop
 |mk(_:jb st d=none)(_:Ql d)(_:Nx nms (iK st d))(_:d.k≠0)
inductive afB(K:Fg)(vs:Da V)(H:Hp)(Q:VK)(E:XK):Prop
 |mk(a m ln:Addr)(ns:Da Int)(k:Int)(nms:Da Str)(c:Nat)(st:HS)(_:vs=[.ref a,.int k,.ref m,.ref ln])(_:aG K H a (ns.map V.int))(_:ns.length<=63)(_:0<=k)(_:k<=1000000)(_:QAt K H m st)(_:aG K H ln (nms.map V.str))(_:Nx nms st)(_:nms.length<=50)(_:Wf st)(_:Go c st)(_:c<=90)(_:∀z d H',aJ H H'->H' z=some (.tup (Dd.v d))->BW nms st d->Q (.ref z) H')
def UL(K:Fg):Sp:=bx (afB K)
inductive UM(K:Fg)(vs:Da V)(H:Hp)(Q:VK)(E:XK):Prop
 |mk(a m ln:Addr)(ns:Da Int)(k way:Int)(nms:Da Str)(c:Nat)(st:HS)(_:vs=[.ref a,.int k,.ref m,.ref ln,.int way])(_:aG K H a (ns.map V.int))(_:ns.length<=63)(_:0<=k)(_:k<=1000000)(_:QAt K H m st)(_:aG K H ln (nms.map V.str))(_:Nx nms st)(_:nms.length<=50)(_:Wf st)(_:Go c st)(_:c<=90)(_:0<st.ai.length)(_:∀z d H',aJ H H'->H' z=some (.tup (Dd.v d))->BW nms st d->Q (.ref z) H')
def Ew(K:Fg):Sp:=bx (UM K)
noncomputable def ko(ps:Da Q4)(qs:Da Addr):Da Addr:=((List.zip ps qs).filter λx=>decide (0<x.1.2.2.1)).map λx=>x.2
theorem Ol{ps:Da Q4}{qs:Da Addr}{i:Nat}{p:Q4}{a:Addr}(h1:ps[i]?=some p)(h2:qs[i]?=some a):ko (ps.take (i+1)) (qs.take (i+1))=ko (ps.take i) (qs.take i)++if 0<p.2.2.1 then[a] else[] :=by
 have l1:=(dX.mp h1).1;have l2:=(dX.mp h2).1;unfold ko;rw[take_snoc h1,take_snoc h2,List.zip_append (by rw[kI,kI];omega),List.filter_append,b8];congr 1;show List.map _ (List.filter _ [(p,a)])=_;by_cases c:0<p.2.2.1
 .simp [c]
 .simp [c]
theorem Ex:∀{ps:Da Q4}{qs:Da Addr},qs.length=ps.length->(ko ps qs).length=(ps.filter λp=>decide (0<p.2.2.1)).length
 | [],[],_=>rfl
 | p::ps,a::qs,h=>by
  have ih:=Ex (ps:=ps) (qs:=qs) (by simpa using h);unfold ko at ih ⊢;rw[Ry,gk,gk];by_cases c:0<p.2.2.1
  .rw [aB (bL c),aB (bL c),cO,jz,jz,ih]
  .rw [aC (by simpa using c),aC (by simpa using c),ih]
 | [],_::_,h=>by simp at h
 | _::_,[],h=>by simp at h
theorem AX:∀{ps:Da Q4}{qs:Da Addr}{i:Nat}{q:Q4}{a:Addr},qs.length=ps.length->(ps.filter λp=>decide (0<p.2.2.1))[i]?=some q->(ko ps qs)[i]?=some a->∃j:Nat,ps[j]?=some q/\qs[j]?=some a
 | [],[],_,_,_,_,h,_=>by simp at h
 | p::ps,b::qs,i,q,a,hl,h1,h2=>by
  unfold ko at h2;rw[Ry,gk]at h2;rw[gk]at h1;by_cases c:0<p.2.2.1
  .rw [aB (bL c)]at h1 h2;rw[cO]at h2;cases i with
   | zero=>exact⟨0,by simpa using h1,by simpa using h2⟩
   | succ i=>obtain⟨j,a1,a2⟩:=AX (ps:=ps) (qs:=qs) (i:=i) (by simpa using hl) (by simpa using h1) (by simpa[ko]using h2);exact⟨j+1,by simpa using a1,by simpa using a2⟩
  .rw [aC (by simpa using c)]at h1 h2;obtain⟨j,a1,a2⟩:=AX (ps:=ps) (qs:=qs) (i:=i) (by simpa using hl) h1 h2;exact⟨j+1,by simpa using a1,by simpa using a2⟩
 | [],_::_,_,_,_,h,_,_=>by simp at h
 | _::_,[],_,_,_,h,_,_=>by simp at h
theorem zz:∀{ps:Da Q4}{qs:Da Addr},(ko ps qs).Sublist qs
 | [],_=>List.nil_sublist _
 | _::_,[]=>List.Sublist.refl _
 | p::ps,a::qs=>by
  unfold ko;rw[Ry,gk];by_cases c:0<p.2.2.1
  .rw [aB (bL c),cO];exact List.Sublist.cons_cons _ zz
  .rw [aC (by simpa using c)];exact List.Sublist.cons _ zz
noncomputable def Sk(l:LS):LS:={ l with ai:=l.ai.filter λq=>decide (0<q.2.2.1) }
noncomputable def mH(rs:Da Row)(qs:Da Q4):Da Q4:=qs.map λq=>(q.1,q.2.1,q.2.2.1-gQ rs q.1,q.2.2.2)
noncomputable def W0(l:LS)(i:Nat)(p:Pt):Dd->LS
 | .mishap _ a=>{ l with ai:=l.ai.set i (p.nm,p.ow,p.wo-a,p.we) }
 | .rise _ a=>{ l with ai:=l.ai.set i (p.nm,p.ow,p.wo+a,p.we) }
 | .hand _ o=>{ l with ai:=l.ai.set i (p.nm,o,p.wo,p.we) }
 | .land _=>{ l with ai:=l.ai.set i (p.nm,p.ow,0,p.we) }
 | .sever _ y a we=>{ l with ai:=l.ai.set i (p.nm,p.ow,p.wo-a,p.we-we)++[(y,p.ow,a,we)],vG:=l.vG++[y] }
 | _=>l
noncomputable def Dd.part:Dd->Option Str
 | .mishap x _=>some x
 | .rise x _=>some x
 | .hand x _=>some x
 | .land x=>some x
 | .sever x _ _ _=>some x
 | _=>none
theorem uS:∀{l:Da Q4}{i:Nat}{q:Q4},(∀x∈l,0<x.2.2.1)->i<l.length->(l.set i q).filter (λq=>decide (0<q.2.2.1))=if 0<q.2.2.1 then l.set i q else l.eraseIdx i
 | [],_,_,_,h=>by simp at h
 | x::l,0,q,hp,_=>by
  rw[Rw,gk,KG.mpr (λy hy=>bL (hp y (cM _ hy)))];by_cases c:0<q.2.2.1
  .rw [aB c,aB (bL c)]
  .rw [aC c,aC (by simpa using c)];rfl
 | x::l,i+1,q,hp,h=>by
  rw[KJ,gk,aB (bL (hp x dg)),uS (λy hy=>hp y (cM _ hy)) (by simpa using h)];by_cases c:0<q.2.2.1
  .rw [aB c,aB c]
  .rw [aC c,aC c];rfl
theorem IC{α β:Type}(f:α->β):∀(l:Da α)(i:Nat),(l.eraseIdx i).map f=(l.map f).eraseIdx i
 | [],_=>rfl
 | _::_,0=>rfl
 | x::l,i+1=>by show f x::(l.eraseIdx i).map f=f x::(l.map f).eraseIdx i;rw[IC f l i]
def zA(st:HS)(i:Nat)(p:Pt):bD { st with ai:=st.ai.set i p }=(bD st).set i (p.nm,p.ow,p.wo,p.we):=uE
def Ey(st:HS)(i:Nat):bD { st with ai:=st.ai.eraseIdx i }=(bD st).eraseIdx i:=IC _ _ _
def LS.ext'{a b:LS}(h1:a.own=b.own)(h2:a.ai=b.ai)(h3:a.vG=b.vG):a=b:=by cases a;cases b;cases h1;cases h2;cases h3;rfl
def Mh{st:HS}(wf:Wf st):∀x∈bD st,0<x.2.2.1:=λx hx=>by obtain⟨p,hp,rfl⟩:=b7.mp hx;exact(wf.kG p hp).1
theorem W2{st:HS}(wf:Wf st){d:Dd}{i:Nat}{p:Pt}(hr:jb st d=none)(ep:st.ai[i]?=some p)(hd:d.part=some p.nm):Sk (W0 (dD st) i p d)=dD (iK st d):=by
 have hp:=bQ ep;have hi:i<(bD st).length:=by unfold bD;rw[aF];exact(dX.mp ep).1
 have hP:=Mh wf;have eg:bP st p.nm=p:=d_ wf hp rfl;have w1:=(wf.kG p hp).1;cases d with
 | mishap x a=>
  have e:x=p.nm:=fM hd;subst e;refine LS.ext' rfl ?_ rfl;show((bD st).set i _).filter _=bD { st with ai:=jM st.ai p.nm a };obtain⟨_,h1,h2⟩:=ju (show jF st (p.nm,a)=none from hr);rw[show(bP st (p.nm,a).1).wo=p.wo by rw[eg]]at h2;have h1:1<=a:=h1;have h2:a<=p.wo:=h2;rw[uS hP hi,CP wf.dN (λq hq=>by have:=(wf.kG q hq).1;omega) ep];show(if 0<p.wo-a then _ else _)=_;by_cases c:p.wo-a=0
  .rw [aC (by omega),aB c,Ey]
  .rw [aB (by omega),aC c,zA]
 | rise x a=>have e:x=p.nm:=fM hd;subst e;have h1:=(xj (show lU st p.nm a=none from hr)).2;refine LS.ext' rfl ?_ rfl;show((bD st).set i _).filter _=bD (nI st p.nm _);rw[uS hP hi,qW wf.dN ep,zA];exact aB (by show 0<p.wo+a;omega)
 | hand x o=>
  have e:x=p.nm:=fM hd;subst e;have e1:(eU st p.nm o).own=st.own:=by unfold eU;split <;> rfl
  have e2:(eU st p.nm o).nms=st.nms:=by unfold eU;split <;> rfl
  refine LS.ext' e1.symm ?_ e2.symm;show((bD st).set i _).filter _=bD (eU st p.nm o);rw[uS hP hi];refine(aB (by show 0<p.wo;omega)).trans ?_;unfold eU;rw[eg];split
  .next c=>
   have ho:=(pB (show kP st p.nm o=none from hr)).2;have e3:o=p.ow:=by have a1:=AJ ho;have a2:=AJ (wf.ow p hp);rw[c,a2]at a1;exact(fM a1).symm
   rw[e3];exact sY (ym ep)
  .rw [qW wf.dN ep,zA]
 | land x=>have e:x=p.nm:=fM hd;subst e;refine LS.ext' rfl ?_ rfl;show((bD st).set i _).filter _=bD (qc st p.nm);rw[uS hP hi,vF wf hp,vE wf.dN ep];exact(aC (by show ¬ (0:Int)<0;omega)).trans (Ey st i).symm
 | sever x y a we=>
  have e:x=p.nm:=fM hd;subst e;obtain⟨_,_,h1,_,h3,_⟩:=jQ (show iX st p.nm y a we=none from hr);rw[eg]at h3;refine LS.ext' rfl ?_ rfl;show((bD st).set i _++[_]).filter _=bD (k_ st p.nm y a we);unfold k_;rw[eg,qW wf.dN ep,List.filter_append,uS hP hi];show(if 0<p.wo-a then _ else _)++_=List.map _ (st.ai.set i _++[_]);rw[aB (by omega),b8];congr 1
  .exact (zA st i { p with wo:=p.wo-a,we:=p.we-we }).symm
  .show List.filter _ [((y,p.ow,a,we):Q4)]=[(y,p.ow,a,we)]
   rw[gk,aB (bL (show 0<a by omega))];rfl
 | _=>exact absurd hd (by simp[Dd.part])
noncomputable def ai5(st:HS):Dd->LS
 | .load x o wo we=>{ dD st with ai:=bD st++[(x,o,wo,we)],vG:=st.nms++[x] }
 | .cast rs=>{ dD st with ai:=mH rs (bD st) }
 | _=>dD st
theorem zC{st:HS}(wf:Wf st){d:Dd}(hr:jb st d=none)(hd:d.part=none)(hs:d.k≠0):Sk (ai5 st d)=dD (iK st d):=by
 have hP:=Mh wf;have all:(bD st).filter (λq=>decide (0<q.2.2.1))=bD st:=KG.mpr λx hx=>bL (hP x hx);cases d with
 | load x o wo we=>
  obtain⟨_,_,_,h4,_⟩:=pe hr;refine LS.ext' rfl ?_ rfl;show(bD st++[(x,o,wo,we)]).filter _=List.map _ (st.ai++[_]);rw[List.filter_append,all,b8];congr 1;show List.filter _ [((x,o,wo,we):Q4)]=[(x,o,wo,we)]
  rw[gk,aB (bL (show 0<wo by omega))];rfl
 | cast rs=>obtain⟨h1,h2,h3,h4⟩:=tE hr;refine LS.ext' (LL st rs).symm ?_ (UJ (d:=.cast rs) (by simp[Dd.k]) (by simp[Dd.k])).symm;show qa rs (bD st)=bD (iw st rs);unfold iw;rw[Em,El];refine(Im rs (bD st) h2 (λq hq=>hP q hq) (λx hx q hq e=>?_)).symm;obtain⟨p,hp,rfl⟩:=b7.mp hq;have:=(ju (h3 x hx)).2.2;rw[d_ wf hp e]at this;exact this
 | award o a=>
  refine LS.ext' ?_ ?_ ?_
  .show st.own=(bf st _ _ _).own;unfold bf;rw[sZ]
  .show List.filter _ (bD st)=bD (bf st _ _ _);rw[El,all]
  .show st.nms=(bf st _ _ _).nms;unfold bf;rw[w_]
 | still=>exact LS.ext' rfl all rfl
 | sign o=>exact absurd rfl hs
 | _=>exact absurd hd (by simp[Dd.part])
inductive afC(K:Fg)(vs:Da V)(H:Hp)(Q:VK)(E:XK):Prop
 |mk(l:Addr)(own:Da Str)(n:Nat)(ρ:bR)(_:vs=[.ref l])(_:aG K H l (own.map V.str))(_:Gh ρ H)(_:own.length<=1000)(_:∀ρ' B H',Gh ρ' H'->bH n ρ' B H' ⟨own,[],[]⟩->(∀b o,H b=some o->H' b=some o/\ρ' b=ρ b)->Q (.ref B.m) H')
def UN(K:Fg):Sp:=bx (afC K)
inductive W3(K:Fg)(vs:Da V)(H:Hp)(Q:VK)(E:XK):Prop
 |mk(n:Nat)(ρ:bR)(B:LA)(st:HS)(i:Nat)(p:Pt)(a z:Addr)(d:Dd)(_:vs=[.ref B.m,.ref a,.ref z])(_:H z=some (.tup d.v))(_:Gh ρ H)(_:bH n ρ B H (dD st))(_:st.ai[i]?=some p)(_:B.qs[i]?=some a)(_:d.part=some p.nm)(_:st.ai.length<1000)(_:st.nms.length<1000)(_:∀ρ' B' H',Gh ρ' H'->bH n ρ' B' H' (W0 (dD st:_) i p d)->B'.m=B.m->Fr n ρ H ρ' H'->Q .cI H')
def ID(K:Fg):Sp:=bx (W3 K)
inductive Z6(K:Fg)(vs:Da V)(H:Hp)(Q:VK)(E:XK):Prop
 |mk(n c:Nat)(ρ:bR)(B:LA)(st:HS)(z:Addr)(d:Dd)(_:vs=[.ref B.m,.ref z])(_:H z=some (.tup d.v))(_:Gh ρ H)(_:bH n ρ B H (dD st))(_:Wf st)(_:Go c st)(_:c<=90)(_:jb st d=none)(_:d.k≠0)(_:∀ρ' B' H',Gh ρ' H'->bH n ρ' B' H' (dD (iK st d))->B'.m=B.m->Fr n ρ H ρ' H'->Q .cI H')
def Mi(K:Fg):Sp:=bx (Z6 K)
inductive Z7(T:TC)(K:Fg)(vs:Da V)(H:Hp)(Q:VK)(E:XK):Prop
 |mk(n c:Nat)(ρ:bR)(A:HA)(st:HS)(z:Addr)(d:Dd)(_:vs=[.ref A.a,.ref z])(_:dm K H z d.v)(_:HH T n ρ A H st)(_:Go c st)(_:c<=90)(_:st.kn+100<=1000000)(_:st.own.length<100)(_:jb st d=none)(_:wW T n ρ A H (iK st d:_) λH'=>Q .cI H')
def CV(T:TC)(K:Fg):Sp:=bx (Z7 T K)
def W4(B:LA)(l:Addr):putK (fQ B) (Sum.inr "parts") (.ref l)=fQ { B with lp:=l }:=rfl
theorem QC:∀{rs:Da Row}{i:Nat}{r:Row},rs[i]?=some r->(jO rs)[2*i]?=some (.str r.1)/\(jO rs)[2*i+1]?=some (.int r.2)
 | [],_,_,h=>by simp at h
 | x::rs,0,r,h=>by
  have e:x=r:=by simpa using h
  subst e;exact⟨Z,Z⟩
 | x::rs,i+1,r,h=>by obtain⟨a,b⟩:=QC (rs:=rs) (i:=i) (by simpa using h);rw[show 2*(i+1)=2*i+1+1 by omega];exact⟨a,b⟩
theorem QD{rs:Da Row}{i:Nat}{r:Row}(h:rs[i]?=some r):(Dd.v (.cast rs))[1+2*i]?=some (.str r.1)/\(Dd.v (.cast rs))[2+2*i]?=some (.int r.2):=by obtain⟨a,b⟩:=QC h;rw[show 1+2*i=2*i+1 by omega,show 2+2*i=2*i+1+1 by omega];exact⟨a,b⟩
def zH(rs:Da Row):(Dd.v (.cast rs)).length=2*rs.length+1:=by show(jO rs).length+1=_;rw[AQ]
theorem UO(m:Nat):qM 1 ((2*m+1:Nat):Int) 2=m:=by unfold qM Builtin.Range.rangeSize;rw[aB (by decide)];split <;> omega
def UP{qs:Da Q4}(nd:(qs.map λq:Q4=>q.1).Nodup){rs:Da Row}{r:Row}{j:Nat}{q:Q4}(hq:qs[j]?=some q)(e:q.1=r.1)(h:r.1∉rs.map (λr:Row=>r.1)):mH (rs++[r]) qs=(mH rs qs).set j (q.1,q.2.1,q.2.2.1-r.2,q.2.2.2)/\(mH rs qs)[j]?=some q:=by
 have hj:=(dX.mp hq).1;constructor
 .refine List.ext_getElem? λk=>?_;by_cases c:j=k
  .subst c;rw[qJ (by unfold mH;rw[aF];exact hj)];unfold mH;rw[cu,hq];show some (q.1,q.2.1,q.2.2.1-gQ (rs++[r]) q.1,q.2.2.2)=_;rw[zf h,aB e.symm]
  .rw [Ab c];unfold mH;rw[cu,cu];cases ek:qs[k]? with
   | none=>rfl
   | some x=>
    show some (x.1,x.2.1,x.2.2.1-gQ (rs++[r]) x.1,x.2.2.2)=some (x.1,x.2.1,x.2.2.1-gQ rs x.1,x.2.2.2);rw[zf h,aC];intro z;have r1:(qs.map λq:Q4=>q.1)[k]?=some x.1:=by rw[cu,ek];rfl
    have r2:(qs.map λq:Q4=>q.1)[j]?=some q.1:=by rw[cu,hq];rfl
    exact c ((RD (by rw[aF];exact hj) nd).mp (r2.trans (by rw[e,z];exact r1.symm)))
 .unfold mH;rw[cu,hq];show some (q.1,q.2.1,q.2.2.1-gQ rs q.1,q.2.2.2)=some q;rw[e,ze h,Int.sub_zero,<-e]
def W5(qs:Da Q4):mH [] qs=qs:=by unfold mH;rw[show(λq:Q4=>(q.1,q.2.1,q.2.2.1-gQ [] q.1,q.2.2.2))=id from funext λq=>by rw[AK,Int.sub_zero];rfl,List.map_id]
def Mj(rs:Da Row)(qs:Da Q4):(mH rs qs).length=qs.length:=by unfold mH;rw[aF]
def Sl(rs:Da Row)(qs:Da Q4):(mH rs qs).map (λq:Q4=>q.1)=qs.map λq:Q4=>q.1:=by unfold mH;rw[fk];rfl
def Sm(st:HS):(bD st).map (λq:Q4=>q.1)=eL st:=by unfold bD eL;rw[fk];rfl
noncomputable def AY(qs:Da Q4):Da Row:=qs.map λq=>(q.1,q.2.2.1)
def IE(qs:Da Q4):(AY qs).map (λr:Row=>r.1)=qs.map λq:Q4=>q.1:=by unfold AY;rw[fk];rfl
def bH.nw{K:Fg}{n:Nat}{ρ:bR}{B:LA}{H:Hp}{l:LS}(h:bH n ρ B H l):R9 K H (B.qs.map V.ref) (AY l.ai):=by refine⟨by unfold AY;rw[aF,aF];exact h.ql,λi r e=>?_⟩;unfold AY at e;rw[cu]at e;obtain⟨q,eq,rfl⟩:=kH.mp e;obtain⟨a,ea,k1,_⟩:=h.find eq;exact⟨a,_,by rw[cu,ea];rfl,.inl (aG.of k1),Z,Z⟩
def Dd.ach{d:Dd}{x:Str}(h:d.part=some x):d.v[1]?=some (.str x)/\d.k≠1/\d.k≠2/\d.k≠3/\d.k≠9:=by cases d <;> first|(cases h;refine⟨rfl,?_,?_,?_,?_⟩ <;> simp[Dd.k])|(cases h)
def Z8{st:HS}{d:Dd}{x:Str}(h:d.part=some x)(hr:jb st d=none):x∈eL st:=by
 cases d with
 | mishap y a=>cases h;exact(ju (show jF st (x,a)=none from hr)).1
 | rise y a=>cases h;exact(xj (show lU st x a=none from hr)).1
 | hand y o=>cases h;exact(pB (show kP st x o=none from hr)).1
 | land y=>cases h;exact mG hr
 | sever y z a we=>cases h;exact(jQ (show iX st x z a we=none from hr)).1
 | _=>cases h
theorem W6(l:LS)(i:Nat)(p:Pt)(d:Dd):(W0 l i p d).ai.length<=l.ai.length+1:=by cases d <;> first|(show(List.set _ _ _).length<=_;rw[gq];omega)|(show(List.set _ _ _++[_]).length<=_;rw[cX,gq];exact aK _)|exact BB _
noncomputable def bz(st:HS)(ds:Da Dd):HS:=ds.foldl iK st
inductive iF(H:Hp):Da V->Da Dd->Prop
 | nil:iF H [] []
 | cons {a:Addr} {d:Dd} {vs:Da V} {ds:Da Dd}:H a=some (.tup d.v)->iF H vs ds->iF H (.ref a::vs) (d::ds)
def iF.mono{H H':Hp}{vs:Da V}{l:Da Dd}(h:iF H vs l)(g:∀b xs,H b=some (.tup xs)->H' b=some (.tup xs)):iF H' vs l:=by
 induction h with
 | nil=>exact .nil
 | cons a _ ih=>exact .cons (g _ _ a) ih
theorem iF.length{H:Hp}{vs:Da V}{l:Da Dd}(h:iF H vs l):vs.length=l.length:=by
 induction h with
 | nil=>rfl
 | cons _ _ ih=>simp[ih]
def iF.get{H:Hp}{vs:Da V}{l:Da Dd}(h:iF H vs l):∀{i:Nat}{x:V},vs[i]?=some x->∃a d,x =.ref a/\l[i]?=some d/\H a=some (.tup d.v):=by
 induction h with
 | nil=>intro i x e;simp at e
 | @cons a r vs rs e0 _ ih=>
  intro i x e;cases i with
  | zero=>simp at e;subst e;exact⟨a,r,Z,Z,e0⟩
  | succ i=>simp at e;obtain⟨a',r',e1,e2,e3⟩:=ih e;exact⟨a',r',e1,by simpa using e2,e3⟩
def iF.snoc{H:Hp}{vs:Da V}{l:Da Dd}{a:Addr}{d:Dd}(h:iF H vs l)(e:H a=some (.tup d.v)):iF H (vs++[.ref a]) (l++[d]):=by
 induction h with
 | nil=>exact .cons e .nil
 | cons a _ ih=>exact .cons a ih
def z8(st:HS)(ds:Da Dd):Prop:=∀(i:Nat)(d:Dd),ds[i]?=some d->jb (bz st (ds.take i)) d=none/\Ql d/\d.k≠0
def z8.nil(st:HS):z8 st [] :=λi d h=>by simp at h
theorem z8.snoc{st:HS}{ds:Da Dd}{d:Dd}(h:z8 st ds)(h1:jb (bz st ds) d=none)(h2:Ql d)(h3:d.k≠0):z8 st (ds++[d]):=λi x e=>by
 rcases Nat.lt_or_ge i ds.length with c|c
 .rw [uW c]at e;rw[List.take_append_of_le_length (by omega)];exact h i x e
 .have hi:i=ds.length:=by have:=(dX.mp e).1;rw[cX]at this;have:i<ds.length+1:=this;omega
  subst hi;rw[uV (aK _),rO]at e;cases e;rw[List.take_left']
  .exact ⟨h1,h2,h3⟩
  .rfl
def jR(st:HS)(ds:Da Dd)(d:Dd):bz st (ds++[d])=iK (bz st ds) d:=by unfold bz;rw[xD];rfl
theorem Ql.g{d:Dd}(h:Ql d):Yj d:=by
 cases d with
 | load x o wo we=>obtain⟨_,_,⟨_,h1⟩,⟨_,h2⟩⟩:=h;exact⟨by omega,h2⟩
 | rise x a=>obtain⟨_,⟨_,h1⟩⟩:=h;show a<=_;omega
 | _=>exact True.intro
def UQ{st:HS}{d:Dd}(h:d.k≠0):(iK st d).own=st.own:=by
 cases d with
 | sign o=>exact absurd rfl h
 | cast rs=>exact LL st rs
 | award o a=>show(bf st _ _ _).own=_;unfold bf;rw[sZ]
 | hand x o=>show(eU st x o).own=_;unfold eU;split <;> rfl
 | _=>rfl
structure GW(c m:Nat)(st:HS):Prop where
 g:Go c st
 wf:Wf st
 kn:st.kn<=m
theorem GW.do{c m:Nat}{st:HS}(h:GW c m st)(hc:c<=90)(hm:m+100<=1000000)(ho:st.own.length<100){d:Dd}(hr:jb st d=none)(hb:Yj d):GW (c+1) (m+100) (iK st d):=⟨afy h.g h.wf hc hr hb,afz h.g h.wf hc (by have:=h.kn;omega) ho hr,by have:=h.kn;have:=Si st d;omega⟩
theorem z8.go{c m:Nat}{st:HS}{ds:Da Dd}(h:z8 st ds)(g:GW c m st)(hc:c+ds.length<=91)(hm:m+100*ds.length<=1000000)(ho:st.own.length<100):∀i≤ds.length,GW (c+i) (m+100*i) (bz st (ds.take i))/\(bz st (ds.take i)).own=st.own:=by
 intro i
 induction i with
 | zero=>intro _;exact⟨g,Z⟩
 | succ i ih=>intro hi;obtain⟨g1,e1⟩:=ih (by omega);have ei:=bu (show i<ds.length by omega);obtain⟨h1,h2,h3⟩:=h i _ ei;rw[take_snoc ei,jR];have:=g1.do (by omega) (by omega) (by rw[e1];exact ho) h1 h2.g;exact⟨by rw[show c+(i+1)=c+i+1 by omega,show m+100*(i+1)=m+100*i+100 by omega];exact this,by rw[UQ h3,e1]⟩
inductive aci(K:Fg)(vs:Da V)(H:Hp)(Q:VK)(E:XK):Prop
 |mk(n c m:Nat)(ρ:bR)(B:LA)(st:HS)(a ln:Addr)(ns:Da Int)(k:Int)(nms:Da Str)(BM:Nat)(_:vs=[.ref a,.int k,.ref B.m,.ref ln,.int (BM:Int)])(_:Gh ρ H)(_:bH n ρ B H (dD st))(_:GW c m st)(_:c+BM<=91)(_:m+100*BM<=1000000)(_:st.own.length<100)(_:vC K ρ H a (ns.map V.int))(_:ns.length<=63)(_:0<=k)(_:k<=100000)(_:vC K ρ H ln (nms.map V.str))(_:Nx nms st)(_:nms.length<=50)(_:∀l zs ds ρ' B' H',Gh ρ' H'->bH n ρ' B' H' (dD (bz st ds))->B'.m=B.m->Fr n ρ H ρ' H'->H' l=some (.lst zs)->ρ' l=none->iF H' zs ds->z8 st ds->ds.length=BM->Nx nms (bz st ds)->Q (.ref l) H')
def QE(K:Fg):Sp:=bx (aci K)
def sN(sp:Sp):Sp:=λvs H Q _=>sp vs H Q E0
def Mx.n{P:Program}{w:World}{K:Fg}{mg:SO}{base:Heap}{k:Nat}{C:Addr}{m:Str}{ps:Da Str}{sp:Sp}(D:Mx P w K mg base k C m ps sp):Mn P w K mg base k C m ps (sN sp):=D.mn λ_ _ _ _ h=>h
def UR{st:HS}{o:Str}(h:zh st o=none):isNm o=true/\o∉st.own:=by
 unfold zh at h;split at h
 .split at h
  .cases h
  .exact ⟨by assumption,by assumption⟩
 .cases h
noncomputable def cA(own:Da Str):HS:=own.foldl aV hs0
theorem IF:∀(l:Da Str)(st:HS),Wf st->(st.own++l).Nodup->st.own.length+l.length<=100->Wf (l.foldl aV st)
 | [],_,w,_,_=>w
 | o::l,st,w,nd,hl=>by
  rw[iH];rw[jz]at hl;have h1:o∉st.own:=λm=>(Fx.mp nd).2.2 o m o dg rfl;refine IF l (aV st o) (FQ w h1 (by omega)) ?_ ?_
  .show ((st.own++[o])++l).Nodup;rw[KL];exact nd
  .show (st.own++[o]).length+l.length<=100;rw[cX];show st.own.length+1+l.length<=100;omega
theorem Yk{own:Da Str}(nd:own.Nodup)(h0:0<own.length)(h1:own.length<=100)(US:∀o∈own,isNm o=true):GW 0 0 (cA own):=by
 obtain⟨k1,k2,k3,k4,k5,k6⟩:=jN own hs0 rfl (λu hu=>absurd hu (by simp[hs0]));have eo:(cA own).own=own:=by unfold cA;rw[wZ];rfl
 have k1:(cA own).ai=[] :=k1;have k2:(cA own).nms=[] :=k2;have k3:(cA own).stp=[] :=k3;have k4:(cA own).prod=1:=k4;have k5:(cA own).dO=[] :=k5;have k6:∀u∈(cA own).bU,u=0:=k6;refine⟨⟨λu hu=>?_,by rw[k3];exact aK _,?_,λp hp=>?_,λp hp=>?_,by rw[k1];exact aK _,by rw[k2];exact aK _,by rw[eo];exact h0,λx hx=>?_,by rw[eo];exact US,λp hp=>?_,by rw[k5];exact aK _,λa ha=>?_⟩,IF own hs0 wf0 nd (by show 0+_<=_;omega),?_⟩
 .rw [k6 u hu];exact sS (by decide +kernel)
 .rw [k4];exact sS (by decide +kernel)
 .rw [k1]at hp;cases hp
 .rw [k1]at hp;cases hp
 .rw [k2]at hx;cases hx
 .rw [k1]at hp;cases hp
 .rw [k5]at ha;cases ha
 .rw [show(cA own).kn=0 from LN own hs0];exact aK _
def uT(own:Da Str):(cA own).own=own:=by unfold cA;rw[wZ];rfl
def W7(own:Da Str):dD (cA own)=⟨own,[],[]⟩:=by obtain⟨k1,k2,_⟩:=jN own hs0 rfl (λu hu=>absurd hu (by simp[hs0]));have k1:(cA own).ai=[] :=k1;exact LS.ext' (uT own) (by show List.map _ (cA own).ai=[];rw[k1];rfl) k2
def acj{own nms:Da Str}(nd:nms.Nodup)(h:∀x∈nms,isNm x=true):Nx nms (cA own):=by obtain⟨_,k2,_⟩:=jN own hs0 rfl (λu hu=>absurd hu (by simp[hs0]));have k2:(cA own).nms=[] :=k2;exact⟨by rw[k2];rfl,nd,h⟩
def iZ.gw{c m:Nat}{a b:HS}(h:iZ a b)(g:GW c m b)(hk:a.kn<=1000000):Go c a/\Wf a:=by rw[h];exact⟨g.g.kn _,R6 g.wf hk⟩
theorem iZ.own{a b:HS}(h:iZ a b):a.own=b.own:=by rw[h]
noncomputable def Ml(st:HS)(o:Str):Rat:=Jm.fr (st.bU.getD (st.own.idxOf o) 0) st.prod
inductive ack(T:TC)(vs:Da V)(H:Hp)(Q:VK)(E:XK):Prop
 |mk(n ρ A st o:_)(_:vs=[.ref A.a,.str o])(_:aI T n ρ A H st)(_:Wf st)(_:o∈st.own)(_:∀r H',aJ H H'->H' r=some (tQ (Ml st o))->Q (.ref r) H')
def QF(T:TC):Sp:=bx (ack T)
def getD_at{l:Da Int}{i:Nat}(h:i<l.length):pS (l.map V.int) (i:Int)=some (.int (l.getD i 0)):=aN (by rw[cu,nE,bu h];rfl)
section
variable {X:Cx}
end
structure Mo(c:Nat)(st:HS):Prop where
 pz:st.bU.sum=0
 ao:∀a∈st.dO,a.ow∈st.own
 aw:∀a∈st.dO,1<=a.wo/\a.wo<=1000000000000*((c:Int)+1)
theorem Mo.mono{c:Nat}{st:HS}(m:Mo c st):Mo (c+1) st:=⟨m.pz,m.ao,λa ha=>by have:=m.aw a ha;omega⟩
def Mm{c:Nat}{st:HS}(m:Mo c st)(kept whole:Int)(added:Da Int):Mo (c+1) (bf st kept whole added):=by
 unfold bf;refine⟨?_,?_,?_⟩
 .rw [Ig];show(st.bU.map λx=>x*_).sum=0;rw[Co (λx=>x),List.map_id',m.pz,By]
 .rw [s_,sZ];exact m.ao
 .rw [s_];exact m.mono.aw
theorem W8{st:HS}(wf:Wf st){p:Pt}(hp:p∈st.ai)(hs:(aX st p).sum=st.prod):(oG st p).sum=st.bU.sum:=by
 have e:=xJ (l:=fu st p) (i:=st.own.idxOf p.ow) (x:=-(p.wo*st.prod)) (by rw[AW wf hp];exact wF (wf.ow p hp));have e2:(fu st p).sum=st.bU.sum+p.wo*st.prod:=by unfold fu;rw[CU _ (by rw[Ir wf hp,wf.mD]),hs]
 unfold oG;rw[Int.sub_eq_add_neg,e,e2];omega
theorem afD{c:Nat}{st:HS}(m:Mo c st)(g:Go c st)(wf:Wf st){d:Dd}(hr:jb st d=none):Mo (c+1) (iK st d):=by
 cases d with
 | sign o=>refine⟨?_,λa ha=>yv _ (m.ao a ha),m.mono.aw⟩;show(st.bU++[0]).sum=0;rw[List.sum_append,m.pz];rfl
 | cast rs=>show Mo (c+1) (iw st rs);unfold iw;rw[o_];have:=Mm m (aS st-bK rs) (aS st) (iW st rs);exact⟨this.pz,this.ao,this.aw⟩
 | award o a=>exact Mm m _ _ _
 | hand x o=>show Mo (c+1) (eU st x o);unfold eU;split <;> exact⟨m.pz,m.ao,m.mono.aw⟩
 | land x=>
  obtain⟨i,p,e1,rfl⟩:=j0 (mG hr);have hp:=bQ e1;show Mo (c+1) (qc st p.nm);rw[vF wf hp];have S:∀{M:mC->Prop},(∀a∈st.dO,M a)->M ⟨p.nm,p.ow,p.wo,gO st p⟩->∀a∈st.dO++[⟨p.nm,p.ow,p.wo,gO st p⟩],M a:=λh1 h2 a ha=>by
   rcases fW.mp ha with z|z
   .exact h1 a z
   .rw [eO.mp z];exact h2
  have w:=g.wo p hp;exact⟨by show(oG st p).sum=0;rw[W8 wf hp (g.sum p hp),m.pz],S m.ao (wf.ow p hp),S m.mono.aw ⟨(wf.kG p hp).1,by show p.wo<=_;omega⟩⟩
 | _=>exact⟨m.pz,m.ao,m.mono.aw⟩
def mo0{own:Da Str}:Mo 0 (cA own):=by
 obtain⟨_,_,_,_,k5,k6⟩:=jN own hs0 rfl (λu hu=>absurd hu (by simp[hs0]));have k5:(cA own).dO=[] :=k5;have k6:∀u∈(cA own).bU,u=0:=k6;refine⟨?_,(λa ha=>by rw[k5]at ha;cases ha),λa ha=>by rw[k5]at ha;cases ha⟩;generalize (cA own).bU=l at *
 induction l with
 | nil=>rfl
 | cons a l ih=>rw[fY,k6 a dg,ih λu hu=>k6 u (cM _ hu)];rfl
section
variable {prog:Program}{w:World}{A:Around}{R:Result->Shared->Prop}{s:Shared}
theorem Jf{kx vx target Bn:Expr}{scope:Scope}{pos:Pos}{it:Value}{D:Addr}{env:Env}(J:Nat->Shared->Prop)(turn:∀n s,J n s->wpAny (model prog w) A (pyNext it) (λr s₁=>match r with
    | none=>R (.ok .next) s₁
    | some v=>wpAny (model prog w) A (letOwnedTupleGo target it v) (λ_ s₂=>wpAny (model prog w) A (assign target env v) (λ_ s₃=>wpAny (model prog w) A (eval kx env) (λkv s₄=>wpAny (model prog w) A (eval vx env) (λvv s₅=>
            wpAny (model prog w) A (dictSet D kv vv) (λ_ s₆=>∃m,m<n/\J m s₆) (λ_ _=>False) s₅) (λ_ _=>False) s₄) (λ_ _=>False) s₃) (λ_ _=>False) s₂) (λ_ _=>False) s₁) (λ_ _=>False) s)(n:Nat)(h:J n s):codeAny (model prog w) A (.compLoop (.DictComp kx vx [⟨target,Bn,[],0⟩] scope pos) 0 it (.ref D) env) R s:=by
 refine codeAny_loop rfl J (λn s hI=>?_) n h
 show wpAny _ A ((compTurn (.DictComp kx vx [⟨target,Bn,[],0⟩] scope pos) 0 it (.ref D) env).onRaise (λx=>do noteFrame x env;theTreesLotGoes x)) _ _ s
 refine wpAny_noted ?_
 rw[compTurn_dict]
 refine az (yE (az (fq (turn n s hI) (λr s₁ h₁=>?_) λ_ _ h'=>h'.elim)))
 cases r with
 | none=>exact aT h₁
 | some v=>
   refine az (fq h₁ (λ_ s₂ h₂=>az (fq h₂ (λ_ s₃ h₃=>?_) λ_ _ h'=>h'.elim)) λ_ _ h'=>h'.elim)
   simp only[yC,pure_bind,if_true]
   refine az (az (fq h₃ (λkv s₄ h₄=>az (wI (fq h₄ (λvv s₅ h₅=>az (yE (wI (fq h₅ (λ_ s₆ h₆=>?_) λ_ _ h'=>h'.elim)))) λ_ _ h'=>h'.elim))) λ_ _ h'=>h'.elim))
   exact aT ⟨Z,h₆⟩
end
section
variable {X:Cx}
def Gb{M:Model}{A:Around}{Q:VS}{E:VS}{s:Shared}(h:Q (.ref s.heap.objs.size) { s with heap:=s.heap.push { cls:=.type "dict",data:=.dict #[] } }):wpAny M A newDict Q E s:=by unfold newDict;exact xC h
theorem acn{AC:AO}{σ:St}{H:Hp}{s:Shared}{a:Addr}{AT:Da (Key×V)}{k:Key}{v:V}{u r:Value}{A:Around}{E:VS}{Q:Unit->Shared->Prop}(I:Inv X AC σ H s)(e:H a=some (.dK AT))(l:AT.length<sizeLine)(ry:RelV (kV k) u)(rv:RelV v r)(h:∀s',Inv X AC σ (upd H a (.dK (putK AT k v))) s'->Q () s'):wpAny (model X.prog X.w) A (dictSet a u r) Q E s:=by
 obtain⟨z,hd,vs,rel,dd⟩:=yM I.hok e;have hz:vs.length<=sizeLine:=by rw[<-rel.length];exact z
 have hl:(putK AT k v).length<=sizeLine:=by have:=nG AT k v;omega
 refine wpAny_dictSet_pairs (hsz:=hz) (wO ry) dd λh' u9 hs=>h _ ?_;have he:∃q,h'.get? a=some q:=let⟨q,_,_,hq,_⟩:=u9;⟨q,hq⟩;exact ya I (by rw[e];exact True.intro) hs he (Ao hl hd (rel.put k rv) u9)
def Yl(tv:TE)(σ:St)(N:Key->V->Hp->Prop)(kv:V)(H4:Hp):Prop:=∃k:Key,kv=kV k/\tv σ H4 λv H5=>N k v H5
def Sn(J:It)(g:TG)(tk tv:TE)(Ap:Addr)(σ₀:St)(H:Hp)(Q:VK):Prop:=∃W:Nat->Nat->St->Hp->Prop,(∃m,W 0 m σ₀ (upd H Ap (.dK [])))/\∀i m σ2 H2,W i m σ2 H2->(J.stop i H2/\Q (.ref Ap) H2)\/(J.go i H2/\∃(S:St->Prop)(N:Key->V->Hp->Prop),(∀σ3 k v H4,S σ3->N k v H4->∃AT,H4 Ap=some (.dK AT)/\AT.length<sizeLine/\∃m',m'<m/\W (i+1) m' σ3 (upd H4 Ap (.dK (putK AT k v))))/\∀x H',J.Ah i H2 x H'->g x σ2 H' λσ3 H3=>S σ3/\tk σ3 H3 (Yl tv σ3 N))
def Z9(ix:Da (Option Nat))(g:TG)(tk tv:TE)(σ:St)(Q:VK):It->Hp->Prop:=λJ H1=>∀Ap,H1 Ap=none->Sn J g tk tv Ap (pick ix σ) H1 Q
def aco(wi:TI)(ix:Da (Option Nat))(g:TG)(tk tv:TE):TE:=λσ H Q=>wi σ H (Z9 ix g tk tv σ Q)
theorem Om{tg Bn kx vx:Expr}{scope:Scope}{pos:Pos}{N2:Da Str}{ix:Da (Option Nat)}{g:TG}{tk tv:TE}{cl:Da (Str×Addr)}{AC:AO}{σ:St}{H:Hp}{s:Shared}{E:VS}{Q:VK}{RR:Value->Addr->Result->Shared->Prop}(hc:X.calm=true)(hg:∀cl s₂ H₂ fp,PG (cJ X N2 scope cl s₂ H₂ fp) tg g)(he:∀cl s₂ H₂ fp,PE (cJ X N2 scope cl s₂ H₂ fp) kx tk)(hv:∀cl s₂ H₂ fp,PE (cJ X N2 scope cl s₂ H₂ fp) vx tv)(hk:scope.kind =.function)(hn:nH X.N X.env.scope.names scope.names N2 ix=true)(CI:∀y c,(y,c)∈cl->X.env.cells.lookup y=some c)(Au:∀y,(y,NameKind.free)∈scope.names->∃c,(y,c)∈cl){it:Addr}{fp:Da Addr}{tn:Nat->Heap->Prop}{J:It}(I:Inv X AC σ H s)(T:Turn X.prog X.w X.K tg J fp it tn)(st:tn 0 s.heap)(f:∀b∈fp,mj X AC H b)(h:∀Ap,H Ap=none->Sn J g tk tv Ap (ix.map λo=>o.bind λj=>(σ[j]?).join) H Q)(hR:∀Ap C H' s' m,Inv X AC σ H' s'->s'.heap.Ns C m->H' C=none->C≠X.env.locals->X.s₀.heap.objs.size<=C->(∀x c,X.env.cells.lookup x=some c->c≠C)->(∀p∈X.pn++AC,p.1≠C)->Q (.ref Ap) H'->RR (.ref Ap) C (.ok .next) s'):
  wpAny (model X.prog X.w) X.A newDict (λAp s₃=>wpAny (model X.prog X.w) X.A (newFunctionEnv scope X.env.globals cl [] X.env.qual none .none (some X.env)) (λcenv s₄=>
   codeAny (model X.prog X.w) X.A (.compStart (.DictComp kx vx [⟨tg,Bn,[],0⟩] scope pos) 0 (.ref it) Ap { cenv with scope:=relabel scope X.env }) (RR Ap cenv.locals) s₄) E s₃) E s:=by
 obtain⟨k1,k2,k3,k4,k5⟩:=kL hn
 refine Gb ?_
 have I3:Inv X AC σ (upd H s.heap.objs.size (.dK [])) { s with heap:=s.heap.push { cls:=.type "dict",data:=.dict #[] } }:=
  I.laid (a:=s.heap.objs.size) (o:=.dK []) (t':=s.toks) (λ_ _ q=>b9 _ q) (aK _) (CH s.heap I.big)
 obtain⟨W,⟨m0,w0⟩,turn⟩:=h s.heap.objs.size I.fresh
 have fo:∀b∈fp,b<s.heap.objs.size:=λb hb=>by obtain⟨o,e,_⟩:=T.obj 0 _ st b hb;exact bM e
 have st3:tn 0 (s.heap.push { cls:=.type "dict",data:=.dict #[] }):=T.keep _ _ _ st λb _ o e=>b9 _ e
 have f3:∀b∈fp,mj X AC (upd H s.heap.objs.size (.dK [])) b:=λb hb=>⟨by rw[au (d7 (fo b hb))];exact(f b hb).1,(f b hb).2⟩
 have HL:∀b∈fp,b<(s.heap.push { cls:=.type "dict",data:=.dict #[] }).objs.size:=λb hb=>by rw[kJ];exact KN (fo b hb)
 generalize TQ:({ s with heap:=s.heap.push { cls:=.type "dict",data:=.dict #[] } }:Shared)=s3 at *
 have TR:s3.heap=s.heap.push { cls:=.type "dict",data:=.dict #[] }:=by rw[<-TQ]
 rw[<-TR]at st3 HL
 generalize s.heap.objs.size=Ap at *
 generalize eH3:upd H Ap (.dK [])=H3 at *
 have IY:=yO (N2:=N2) (scope:=scope) (cl:=cl) (fp:=fp) (σ2:=ix.map λo=>o.bind λj=>(σ[j]?).join) I3 hk CI Au f3 HL (by rw[aF];exact k1) (λi x v e1 e2=>by
  rw[cu]at e2;cases ei:ix[i]? with
  | none=>rw[ei]at e2;cases e2
  | some o=>
   rw[ei]at e2;cases o with
   | none=>cases e2
   | some j=>
    obtain⟨a1,a2,a3⟩:=k2 i x j e1 ei;refine⟨a2,a3,j,a1,?_⟩;have e3:(σ[j]?).join=some v:=fM e2;cases ej:σ[j]? with
    | none=>rw[ej]at e3;cases e3
    | some z=>rw[ej]at e3;exact rQ some e3) k5
 have ne:wpAny (model X.prog X.w) X.A (newFunctionEnv scope X.env.globals cl [] X.env.qual none .none (some X.env)) (λcenv s₄=>
   cenv={ scope:=scope,locals:=s3.heap.objs.size,globals:=X.env.globals,cells:=cellsFrom (s3.heap.objs.size+1) scope.names cl,qual:=X.env.qual,func:=none,code:=X.env.code,frame:=X.env.frame,builtins:=X.env.builtins }/\
   s₄={ s3 with heap:=pushCells (s3.heap.push { cls:=.type "dict",data:=.dict #[] }) scope.names }) E s3:=by
  simp only[newFunctionEnv,Ru,if_true]
  refine az (wpAny_alloc ?_)
  refine az (wpAny_layCells _ (λname kind cells=>by cases hkc:kind==NameKind.cell <;> simp[hkc]) _ _ _ _ ?_)
  rw[yC]
  refine az (aT (aT ⟨?_,Z⟩))
  rw[show({ s3 with heap:=s3.heap.push { cls:=.type "dict",data:=.dict #[] } }:Shared).heap.objs.size=s3.heap.objs.size+1 from kJ ..]
 refine aZ ne λcenv s4 ⟨e1,e2⟩=>?_
 subst e1 e2
 have HM:tn 0 (pushCells (s3.heap.push { cls:=.type "dict",data:=.dict #[] }) scope.names):=T.keep _ _ _ st3 λb _ o e=>Dz _ _ b o (b9 _ e)
 have yb:s3.heap.objs.size≠X.env.locals:=wJ I3.lt
 have oj:∀{H':Hp},(∀b∈fp,H' b=none)->∀b∈fp,mj (cJ X N2 scope cl s3 H3 fp) [] H' b:=λ{H'} hn b hb=>
  ⟨hn b hb,(IY.ok.DF b hb).1,IY.ok.Ae b hb,.inl hb,(IY.ok.DF b hb).2,λp hp=>nomatch hp⟩
 have loop:codeAny (model X.prog X.w) X.A (.compLoop (.DictComp kx vx [⟨tg,Bn,[],0⟩] scope pos) 0 (.ref it) (.ref Ap) (cJ X N2 scope cl s3 H3 fp).env) (RR (.ref Ap) s3.heap.objs.size)
   { s3 with heap:=pushCells (s3.heap.push { cls:=.type "dict",data:=.dict #[] }) scope.names }:=by
  refine Jf (λn s'=>∃i σ' H',Inv (cJ X N2 scope cl s3 H3 fp) [] σ' H' s'/\tn i s'.heap/\(∀b∈fp,H' b=none)/\W i n σ' H') ?_ m0 ⟨0,_,H3,IY,HM,λb hb=>(f3 b hb).1,w0⟩
  rintro n s5 ⟨i,σ5,H5,I5,zX,Cj,w5⟩
  rcases turn i n σ5 H5 w5 with⟨stop,qn⟩|⟨go,S,N,TU,step⟩
  . refine aZ (T.done (cJ X N2 scope cl s3 H3 fp) rfl rfl rfl hc i [] s5 σ5 H5 (λ_ _=>False) I5 (oj Cj) zX stop) λr s6 ⟨hr,I6⟩=>?_
    subst hr
    obtain⟨m6,TV,_⟩:=id I6.loc
    have IX:Inv X AC σ H5 s6:=I3.DH (ch:=fp) I6.os I6.base I6.hok I6.bare λb hb=>⟨(f3 b hb).2.2.2.1,(f3 b hb).2.1,(f3 b hb).2.2.2.2.1,(f3 b hb).2.2.2.2.2⟩
    refine hR Ap s3.heap.objs.size H5 s6 m6 IX TV I6.free yb I3.sz (λx c e z=>?_) (λp hp z=>?_) qn
    . obtain⟨v,q⟩:=I3.cell x c e
      exact absurd q.lt (by rw[z];exact i7 _)
    . exact absurd (bM (I3.pin p hp).1) (by rw[z];exact i7 _)
  . refine aZ (T.item (cJ X N2 scope cl s3 H3 fp) rfl rfl rfl hc i [] s5 σ5 H5 (λ_ _=>False) I5 (oj Cj) zX go) λr s6 ⟨u,hr,h6⟩=>?_
    subst hr
    refine aZ h6 λ_ s7 ⟨x,H7,I7,r7,y7,yc,Ld⟩=>?_
    have TY:=I7.pinned (oj Ld) (T.obj _ _ yc)
    refine aZ (hg cl s3 H3 fp _ s7 σ5 H7 x u _ TY r7 (step x H7 y7)) λ_ s8 ⟨σ8,H8,I8,PV,q8⟩=>?_
    refine aZ (he cl s3 H3 fp _ s8 σ8 H8 _ I8 q8) λkk s9 ⟨kv,H9,I9,r9,k,ek,q9⟩=>?_
    subst ek
    refine aZ (hv cl s3 H3 fp _ s9 σ8 H9 _ I9 q9) λy s11 ⟨v,IG,I11,r11,q11⟩=>?_
    obtain⟨AT,hxs,TZ,m',hm,w9⟩:=TU σ8 k v IG PV q11
    refine acn (X:=cJ X N2 scope cl s3 H3 fp) I11 hxs TZ r9 r11 λs10 Av=>?_
    refine⟨m',hm,i+1,σ8,_,Av.oh,T.keep _ _ _ yc λb hb o e=>(Av.pin (b,o) (iQ _ (iQ _ (iu hb e)))).1,λb hb=>?_,w9⟩
    obtain⟨o,e,d⟩:=T.obj _ _ yc b hb
    exact(Av.pin (b,o) (iQ _ (iQ _ (iu hb e)))).2.1
 exact codeAny_compStart_dict loop (T.self _ 0 _ _ _ HM loop)
inductive Ym(Pv:Nat->Da (Key×V)->Hp->Prop)(i:Nat)(Ap:Addr)(out:Da (Key×V))(k:Key)(v:V)(H4:Hp):Prop
 |mk(_:H4 Ap=some (.dK out))(_:Pv (i+1) (putK out k v:_) (upd H4 Ap (.dK (putK out k v))))
theorem Z_{K:Fg}{J:It}{n:Nat}(ks:Da Nat){tk tv:TE}{σ2:St}{H:Hp}{Ap:Addr}{Q:VK}(Pv:Nat->Da (Key×V)->Hp->Prop)(nd:ks.Nodup)(hn:n<=100000)(h0:Pv 0 [] (upd H Ap (.dK [])))(hgo:∀i out H1,i<n->H1 Ap=some (.dK out)->Pv i out H1->J.go i H1)(hst:∀out H1,H1 Ap=some (.dK out)->Pv n out H1->J.stop n H1)(hs:∀(i:Nat) (x:V) (out:Da (Key×V)) (H1 H2:Hp),i<n->out.length<=i->H1 Ap=some (.dK out)->Pv i out H1->J.Ah i H1 x H2->
    ∃t vs,x =.ref t/\dm K H2 t vs/\vs.length=ks.length/\tk (dz σ2 ks vs) H2 (Yl tv (dz σ2 ks vs) (Ym Pv i Ap out)))(hd:∀(out:Da (Key×V)) (H1:Hp),H1 Ap=some (.dK out)->Pv n out H1->Q (.ref Ap) H1):
  Sn J (Af K ks.length (Ui ks)) tk tv Ap σ2 H Q:=by
 refine⟨λi m σ' H'=>m=n-i/\i<=n/\(∀ws,ws.length=ks.length->dz σ' ks ws=dz σ2 ks ws)/\∃out,out.length<=i/\H' Ap=some (.dK out)/\Pv i out H',⟨n,by simp,fm _,λ_ _=>rfl,[],aK _,ah,h0⟩,?_⟩
 rintro i m σ' H' ⟨rfl,hi,hσ,out,ho,ha,p⟩
 by_cases hlt:i<n
 . refine .inr ⟨hgo i out H' hlt ha p,λσ3=>∀ws,ws.length=ks.length->dz σ3 ks ws=dz σ2 ks ws,(Ym Pv i Ap out),λσ3 k v H4 hS ⟨a,b⟩=>?_,λx H1 y=>?_⟩
   . have:=nG out k v
     refine⟨out,a,?_,n-(i+1),by omega,Z,hlt,hS,putK out k v,by omega,ah,b⟩
     have:sizeLine=16777216:=jY
     omega
   . obtain⟨t,vs,rfl,sq,hl,q⟩:=hs i x out H' H1 hlt ho ha p y
     refine⟨t,vs,Z,sq,hl,Eb hl ⟨λws hw=>?_,?_⟩⟩
     . rw[pW nd hl hw];exact hσ ws hw
     . rw[hσ vs hl];exact q
 . have e:i=n:=by omega
   subst e
   exact .inl ⟨hst out H' ha p,hd out H' ha p⟩
inductive acp(xs:Da V)(H:Hp)(Q:VK):Prop
 |mk(a:Addr)(AT:Da (Key×V))(_:xs=[.ref a])(_:H a=some (.dK AT))(_:∀l,H l=none->Q (.ref l) (upd H l (.dK AT)))
def Ez:i_ X (.type "dict") acp:=by intro AC s σ H xs us Q I r h;obtain⟨a,AT,rfl,e,q⟩:=h;obtain⟨u,rfl,ru⟩:=vals1 r;cases ru;obtain⟨z,hd,vs,rel,dd⟩:=yM I.hok e;refine kt_call_dict hd dd (by rw[<-rel.length];exact z) λh' u9 sb=>?_;have fr:=I.fresh;refine⟨.ref s.heap.objs.size,_,I.laid (a:=s.heap.objs.size) (o:=.dK AT) (t':=s.toks) (λb o hb=>(sb.2 b (d7 (bM hb))).trans (b9 _ hb)) (aK _) (Ao z (Cu.mpr (bB (d7 I.big))) rel u9),Z,q _ fr⟩
end
section
variable {X:Cx}
def W9{tg Bn kx vx:Expr}{scope:Scope}{pos:Pos}(N2:Da Str)(ix:Da (Option Nat)){wi:TI}{g:TG}{tk tv:TE}(hc:X.calm=true)(hi:bI X tg Bn wi)(hg:∀cl s₂ H₂ fp,bG (cJ X N2 scope cl s₂ H₂ fp) tg g)(he:∀cl s₂ H₂ fp,bE (cJ X N2 scope cl s₂ H₂ fp) kx tk)(hv:∀cl s₂ H₂ fp,bE (cJ X N2 scope cl s₂ H₂ fp) vx tv)(hk:scope.kind =.function)(hn:nH X.N X.env.scope.names scope.names N2 ix=true)(hs:∀x,foldedSetIterable Bn X.env x=pure x:=by intro _;rfl):bE X (.DictComp kx vx [⟨tg,Bn,[],0⟩] scope pos) (aco wi ix g tk tv):=by have hi:=hi.h;have hg:=λcl s₂ H₂ fp=>(hg cl s₂ H₂ fp).h;have he:=λcl s₂ H₂ fp=>(he cl s₂ H₂ fp).h;have hv:=λcl s₂ H₂ fp=>(hv cl s₂ H₂ fp).h;constructor;intro AC s σ H Q I h;obtain⟨k1,k2,k3,k4,k5⟩:=kL hn;obtain⟨cl,Lh,c1,c2⟩:=uF (scope:=scope) (env:=X.env) λy hy e=>I.ok.has y.1 (k3 y hy e);rw[arm_eval_DictComp];refine Rc (use:=none) rfl hs Lh hk k4 (aZ (hi AC s σ H _ I h) λv s1 h1=>aZ h1 λitv s2 h2=>?_);obtain⟨it,fp,tn,J,H2,e,I2,T,st2,f2,h2⟩:=h2;subst e;refine Om (RR:=λAp C=>compPost (model X.prog X.w) X.A X.xe none (EP X AC σ Q) Ap C) (Q:=Q) hc hg he hv hk hn (λy c m=>(c1 y c m).1) c2 I2 T st2 f2 h2 ?_;intro Ap C H' s' m I' ns yb hL hsz sU yS q;exact⟨m,ns,λh' hs'=>⟨.ref Ap,H',I'.turned (it:=C) (t':=s'.toks) (λb o hb e=>(hs'.2 b hb).trans e) yb hL (.inr hsz) sU yS,Z,q⟩⟩
end
inductive acq(T:TC)(K:Fg)(vs:Da V)(H:Hp)(Q:VK)(E:XK):Prop
 |mk(a d r:Addr)(p:Pt)(_:vs=[.ref a])(_:H a=some (.ins T.part d (cT p r)))(_:H r=some (.lst (p.row.map V.int)))(_:∀v dv rr H',aJ H H'->H v=none->H rr=none->v≠rr->H' v=some (.ins T.part dv (cT p rr))->H' rr=some (.lst (p.row.map V.int))->Q (.ref v) H')
def QG(T:TC)(K:Fg):Sp:=bx (acq T K)
inductive acr(T:TC)(K:Fg)(vs:Da V)(H:Hp)(Q:VK)(E:XK):Prop
 |mk(bt db sp kn:Addr)(stp:Da Int)(prod:Int)(_:vs=[.ref bt])(_:H bt=some (.ins T.bot db (jU sp prod kn)))(_:H sp=some (.lst (stp.map V.int)))(_:∀b2 d2 s2 k2 H',aJ H H'->H b2=none->H s2=none->H k2=none->b2≠s2->b2≠k2->s2≠k2->H' b2=some (.ins T.bot d2 (jU s2 prod k2))->H' s2=some (.lst (stp.map V.int))->H' k2=some (.dK [])->Q (.ref b2) H')
def QH(T:TC)(K:Fg):Sp:=bx (acr T K)
def Kept(ρ:bR)(H:Hp)(ρ':bR)(H':Hp):Prop:=∀b o,H b=some o->H' b=some o/\ρ' b=ρ b
def Kept.fr{n:Nat}{ρ ρ':bR}{H H':Hp}(k:Kept ρ H ρ' H'):Fr n ρ H ρ' H':=λb o e _=>k b o e
inductive acs(T:TC)(vs:Da V)(H:Hp)(Q:VK)(E:XK):Prop
 |mk(n m ρ A st:_)(_:vs=[.ref A.a])(_:n≠m)(_:HH T n ρ A H st)(_:∀ρ' A' H',HH T m ρ' A' H' { st with kn:=0 }->Kept ρ H ρ' H'->Q (.ref A'.a) H')
def QI(T:TC):Sp:=bx (acs T)
def aI.acu{T:TC}{n:Nat}{ρ:bR}{A:HA}{H:Hp}{st:HS}(h:aI T n ρ A H st)(g:Gh ρ H)(q:Addr)(l:Da Str)(e:H q=some (.dK (fU 0 l)))(c:ρ q=col n 1):aI T n ρ { A with pl:=q } (upd H A.a (.ins T.hold A.dx (dW { A with pl:=q }))) { st with own:=l }:=by have k:=dG (o:=.ins T.hold A.dx (dW { A with pl:=q })) g h.ca;obtain⟨vs,h1,h2⟩:=h.m9;obtain⟨AT,k1,k2,k3⟩:=h.okn;exact⟨ah,h.ca,kz k c e,c,kz k h.ff h.dB,h.ff,⟨vs,kz k h.gG h1,h2.keep k (by decide)⟩,h.gG,kz k h.gH h.m_,h.gH,kz k h.gI h.jd,h.gI,kz k h.gJ h.iC,h.gJ,kz k h.cpu h.jC,h.cpu,kz k h.gK h.lT,h.gK,⟨AT,kz k h.gM k1,λp hp=>let⟨t,r,e,q⟩:=k2 p hp;⟨t,r,e,k.1 _ _ q⟩,k3⟩,h.gM,h.ql,λi p q e1 e2=>let⟨a,b,c,d⟩:=h.opt i p q e1 e2;⟨kz k c a,kz k d b,c,d⟩⟩
def aI.acv{T:TC}{n:Nat}{ρ:bR}{A:HA}{H:Hp}{st:HS}(h:aI T n ρ A H st)(g:Gh ρ H)(q:Addr)(l:Da Str)(e:H q=some (.dK (yg l)))(c:ρ q=col n 4):aI T n ρ { A with nm:=q } (upd H A.a (.ins T.hold A.dx (dW { A with nm:=q }))) { st with nms:=l }:=by have k:=dG (o:=.ins T.hold A.dx (dW { A with nm:=q })) g h.ca;obtain⟨vs,h1,h2⟩:=h.m9;obtain⟨AT,k1,k2,k3⟩:=h.okn;exact⟨ah,h.ca,kz k h.gv h.gX,h.gv,kz k h.ff h.dB,h.ff,⟨vs,kz k h.gG h1,h2.keep k (by decide)⟩,h.gG,kz k c e,c,kz k h.gI h.jd,h.gI,kz k h.gJ h.iC,h.gJ,kz k h.cpu h.jC,h.cpu,kz k h.gK h.lT,h.gK,⟨AT,kz k h.gM k1,λp hp=>let⟨t,r,e,q⟩:=k2 p hp;⟨t,r,e,k.1 _ _ q⟩,k3⟩,h.gM,h.ql,λi p q e1 e2=>let⟨a,b,c,d⟩:=h.opt i p q e1 e2;⟨kz k c a,kz k d b,c,d⟩⟩
def aI.acw{T:TC}{n:Nat}{ρ:bR}{A:HA}{H:Hp}{st:HS}(h:aI T n ρ A H st)(g:Gh ρ H)(q:Addr)(l:Da mC){ws:Da V}(e:H q=some (.lst ws))(c:ρ q=col n 3)(ha:jZ n ρ H ws l):aI T n ρ { A with as:=q } (upd H A.a (.ins T.hold A.dx (dW { A with as:=q }))) { st with dO:=l }:=by have k:=dG (o:=.ins T.hold A.dx (dW { A with as:=q })) g h.ca;obtain⟨AT,k1,k2,k3⟩:=h.okn;exact⟨ah,h.ca,kz k h.gv h.gX,h.gv,kz k h.ff h.dB,h.ff,⟨ws,kz k c e,ha.keep k (by decide)⟩,c,kz k h.gH h.m_,h.gH,kz k h.gI h.jd,h.gI,kz k h.gJ h.iC,h.gJ,kz k h.cpu h.jC,h.cpu,kz k h.gK h.lT,h.gK,⟨AT,kz k h.gM k1,λp hp=>let⟨t,r,e,q⟩:=k2 p hp;⟨t,r,e,k.1 _ _ q⟩,k3⟩,h.gM,h.ql,λi p q e1 e2=>let⟨a,b,c,d⟩:=h.opt i p q e1 e2;⟨kz k c a,kz k d b,c,d⟩⟩
def aI.acy{T:TC}{n:Nat}{ρ:bR}{A:HA}{H:Hp}{st:HS}(h:aI T n ρ A H st)(g:Gh ρ H)(q:Addr)(ps:Da Pt)(qs:Da (Addr×Addr×Addr))(e:H q=some (.dK (bY ps qs)))(c:ρ q=col n 2)(el:qs.length=ps.length)(hp:∀(i:Nat) (p:Pt) (q:Addr×Addr×Addr),ps[i]?=some p->qs[i]?=some q->H q.1=some (.ins T.part q.2.1 (cT p q.2.2))/\H q.2.2=some (.lst (p.row.map V.int))/\ρ q.1=some (n,20,p.nm)/\ρ q.2.2=some (n,21,p.nm)):aI T n ρ { { A with ab:=q }with qs:=qs } (upd H A.a (.ins T.hold A.dx (dW { A with ab:=q }))) { st with ai:=ps }:=by have k:=dG (o:=.ins T.hold A.dx (dW { A with ab:=q })) g h.ca;obtain⟨vs,h1,h2⟩:=h.m9;obtain⟨AT,k1,k2,k3⟩:=h.okn;exact⟨ah,h.ca,kz k h.gv h.gX,h.gv,kz k c e,c,⟨vs,kz k h.gG h1,h2.keep k (by decide)⟩,h.gG,kz k h.gH h.m_,h.gH,kz k h.gI h.jd,h.gI,kz k h.gJ h.iC,h.gJ,kz k h.cpu h.jC,h.cpu,kz k h.gK h.lT,h.gK,⟨AT,kz k h.gM k1,λp hp=>let⟨t,r,e,q⟩:=k2 p hp;⟨t,r,e,k.1 _ _ q⟩,k3⟩,h.gM,el,λi p q e1 e2=>let⟨a,b,c,d⟩:=hp i p q e1 e2;⟨kz k c a,kz k d b,c,d⟩⟩
def aI.acz{T:TC}{n:Nat}{ρ:bR}{A:HA}{H:Hp}{st:HS}(h:aI T n ρ A H st)(g:Gh ρ H)(b d s k0:Addr)(stp:Da Int)(m:Int)(e1:H b=some (.ins T.bot d (jU s m k0)))(e2:H s=some (.lst (stp.map V.int)))(e3:H k0=some (.dK []))(c1:ρ b=col n 5)(c2:ρ s=col n 8)(c3:ρ k0=col n 9):aI T n ρ { A with bt:=b,db:=d,sp:=s,kn:=k0 } (upd H A.a (.ins T.hold A.dx (dW { A with bt:=b }))) { st with stp:=stp,prod:=m,kn:=0 }:=by have k:=dG (o:=.ins T.hold A.dx (dW { A with bt:=b })) g h.ca;obtain⟨vs,h1,h2⟩:=h.m9;exact⟨ah,h.ca,kz k h.gv h.gX,h.gv,kz k h.ff h.dB,h.ff,⟨vs,kz k h.gG h1,h2.keep k (by decide)⟩,h.gG,kz k h.gH h.m_,h.gH,kz k c1 e1,c1,kz k h.gJ h.iC,h.gJ,kz k h.cpu h.jC,h.cpu,kz k c2 e2,c2,⟨[],kz k c3 e3,(λp hp=>absurd hp (by simp)),aK _,rM⟩,c3,h.ql,λi p q e1 e2=>let⟨a,b,c,d⟩:=h.opt i p q e1 e2;⟨kz k c a,kz k d b,c,d⟩⟩
structure kq(T:TC)(n m:Nat)(ρ:bR)(H:Hp)(A:HA)(st:HS)(x:Addr)(ρ1:bR)(H1:Hp)(B:HA)(s1:HS):Prop where
 nm:n≠m
 hx:H x=none
 hs:aI T n ρ1 A H1 st
 ht:aI T m ρ1 B H1 s1
 g:Gh ρ1 H1
 k:Kept ρ H ρ1 H1
 ea:B.a=x
section
variable {T:TC}{n m:Nat}{ρ ρ1:bR}{H H1:Hp}{A B:HA}{st s1:HS}{x:Addr}
def kq.free(h:kq T n m ρ H A st x ρ1 H1 B s1){b:Addr}(e:H1 b=none):H b=none:=by
 cases e2:H b with
 | none=>rfl
 | some o=>rw[(h.k b o e2).1]at e;cases e
theorem kq.same(h:kq T n m ρ H A st x ρ1 H1 B s1){H2:Hp}(s:aJ H1 H2):kq T n m ρ H A st x ρ1 H2 B s1:=⟨h.nm,h.hx,h.hs.mono s,h.ht.mono s,h.g.same s,λb o e=>⟨s _ _ (h.k b o e).1,(h.k b o e).2⟩,h.ea⟩
def kq.col(h:kq T n m ρ H A st x ρ1 H1 B s1){l:Addr}{o:HO}{c:lS}(e:H1 l=some o)(t:isTup o=false)(cl:ρ1 l=none)(hl:H l=none):kq T n m ρ H A st x (cy ρ1 l c) H1 B s1:=by
 have z:∀{j:Nat},Kp j ρ1 (cy ρ1 l c) H1 H1 λ_=>true:=λ{j}=>⟨λ_ _ e=>e,λb u y w _ hc he=>⟨he,by rw[aP (λz=>by rw[z,cl]at hc;cases hc)];exact hc⟩⟩
 exact⟨h.nm,h.hx,h.hs.same z,h.ht.same z,h.g.color e t,λb o e=>⟨(h.k b o e).1,by rw[aP (aA e hl)];exact(h.k b o e).2⟩,h.ea⟩
def kq.set(h:kq T n m ρ H A st x ρ1 H1 B s1){B':HA}{s':HS}{o:HO}(t:isTup o=false)(ht:aI T m ρ1 B' (upd H1 B.a o) s')(ea:B'.a=B.a):kq T n m ρ H A st x ρ1 (upd H1 x o) B' s':=by have e:=h.ea;have hx:=h.hx;subst e;exact⟨h.nm,hx,h.hs.other (Fr.write h.ht.ca) h.g h.nm,ht,h.g.wr t,λb u e=>⟨by rw[au (λz=>by rw[z,hx]at e;cases e)];exact(h.k b u e).1,(h.k b u e).2⟩,ea⟩
end
def W_{T:TC}{n m:Nat}{ρ:bR}{H:Hp}{A B:HA}{st s1:HS}{x:Addr}{ws:Da V}{l:Da mC}{ρ1:bR}{H1:Hp}(h:kq T n m ρ H A st x ρ1 H1 B s1)(hL:jL ρ1 H1 ws l)(hf:∀b ss,H1 b=some (.lst ss)->ρ1 b=none->(∃w∈ws,∃r xs,w =.ref r/\H1 r=some (.tup xs)/\V.ref b∈xs)->H b=none):∃ρ2,kq T n m ρ H A st x ρ2 H1 B s1/\jZ m ρ2 H1 ws l/\∀b,ρ2 b=ρ1 b\/(ρ1 b=none/\ρ2 b=some (m,30,⟨#[]⟩)/\∃w∈ws,∃r xs,w =.ref r/\H1 r=some (.tup xs)/\V.ref b∈xs):=by
 induction hL with
 | nil=>exact⟨ρ1,h,.nil,λb=> .inl rfl⟩
 | @cons r t y ss vs as a b c d hL ih=>
  obtain⟨ρ2,h2,hA,hc⟩:=ih λb ss e1 e2 ⟨w,hw,z⟩=>hf b ss e1 e2 ⟨w,cM _ hw,z⟩;have ht:H t=none:=hf t ss b c ⟨.ref r,dg,r,_,Z,a,by simp⟩;have up:∀b,ρ2 b=ρ1 b\/(ρ1 b=none/\ρ2 b=some (m,30,⟨#[]⟩)/\∃w∈V.ref r::vs,∃r xs,w =.ref r/\H1 r=some (.tup xs)/\V.ref b∈xs):=λb=>(hc b).imp (λz=>z) λ⟨z1,z2,w,hw,z3⟩=>⟨z1,z2,w,cM _ hw,z3⟩
  rcases hc t with e|⟨_,e,_⟩
  .rw [c]at e;have h3:=h2.col (c:=(m,30,⟨#[]⟩)) b rfl e ht;refine⟨_,h3,.cons a b bN d ?_,λb'=>?_⟩
   .exact hA.keep (ts:=λ_=>true) ⟨λ_ _ e=>e,λb u y w _ hc he=>⟨he,by rw[aP (λz=>by rw[z,e]at hc;cases hc)];exact hc⟩⟩ rfl
   .by_cases z:b'=t
    .rw [z];exact .inr ⟨c,bN,.ref r,dg,r,_,Z,a,by simp⟩
    .rw [aP z];exact up b'
  .exact ⟨ρ2,h2,.cons a b e d hA,up⟩
section
variable {T:TC}{n m:Nat}{ρ ρ1:bR}{H H1:Hp}{A B:HA}{st s1:HS}{x:Addr}
def kq.Yn(h:kq T n m ρ H A st x ρ1 H1 B s1){a:Addr}{o u:HO}(c:ρ1 a=none)(e:H1 a=some u)(tu:isTup u=false)(t:isTup o=false)(ha:H a=none):kq T n m ρ H A st x ρ1 (upd H1 a o) B s1:=⟨h.nm,h.hx,h.hs.same (vq c e tu),h.ht.same (vq c e tu),h.g.wr t,λb w q=>⟨by rw[au (aA q ha)];exact(h.k b w q).1,(h.k b w q).2⟩,h.ea⟩
def kq.fld(h:kq T n m ρ H A st x ρ1 H1 B s1){l:Addr}{o:HO}{k:Nat}{B':HA}{s':HS}(hl:H1 l=none)(t:isTup o=false)(hn:∀{ρ2:bR} {H2:Hp},aI T m ρ2 B H2 s1->Gh ρ2 H2->H2 l=some o->ρ2 l=L2.col m k->aI T m ρ2 B' (upd H2 B.a (.ins T.hold B.dx (dW B'))) s')(ea:B'.a=B.a):upd H1 l o x=some (.ins T.hold B.dx (dW B))/\∃ρ2,kq T n m ρ H A st x ρ2 (upd (upd H1 l o) x (.ins T.hold B.dx (dW B'))) B' s':=by have t2:=(h.same (aE hl o)).col (c:=(m,k,⟨#[]⟩)) ah t (h.g.none hl) (h.free hl);refine⟨h.ea▸t2.ht.oa,cy ρ1 l (m,k,⟨#[]⟩),?_⟩;exact t2.set (o:=.ins T.hold B.dx (dW B')) rfl (hn t2.ht t2.g ah bN) ea
end
inductive Xa(T:TC)(vs:Da V)(H:Hp)(Q:VK)(E:XK):Prop
 |mk(n ρ A st:_)(_:vs=[.ref A.a])(_:HH T n ρ A H st)(_:∀r ws H',aJ H H'->H r=none->H' r=some (.lst ws)->jL ρ H' ws st.dO->(∀w∈ws,∃t xs,w =.ref t/\H' t=some (.tup xs)/\∀b,V.ref b∈xs->H b=none/\b≠r)->Q (.ref r) H')
def xo(T:TC):Sp:=bx (Xa T)
def UT{P:Program}{w:World}{K:Fg}{mg:SO}{base:Heap}{k:Nat}{T:TC}{ps:Da Str}(D:Mn P w K mg base k T.hold "landed" ps (xo T)):Mn P w K mg base k T.hold "landed" ps (Lv T):=D.imp λvs H Q E h=>by obtain⟨⟨n,ρ,A,st,rfl,hh,q⟩⟩:=h;exact⟨n,ρ,A,st,Z,hh,λr ws H' a b c d _=>q r ws H' a b c d⟩
def lM.tups{H H':Hp}{vs:Da V}{qs:Da Rat}(h:lM H vs qs)(g:∀b xs,H b=some (.tup xs)->H' b=some (.tup xs)):lM H' vs qs:=by
 induction h with
 | nil=>exact .nil
 | cons a _ ih=>exact .cons (g _ _ a) ih
inductive Pd:PyData->Nat->Prop
 | str {x:Str} {n:Nat}:PyData.strOk x=true->Pd (.str x) n
 | int {i:Int} {n:Nat}:Pd (.int i) n
 | list {ds:Da PyData} {n:Nat}:(∀d∈ds,Pd d n)->Pd (.list ds) (n+1)
 | tuple {ds:Da PyData} {n:Nat}:(∀d∈ds,Pd d n)->Pd (.tuple ds) (n+1)
theorem Mp:∀{ds:Da PyData},(∀d∈ds,PyData.canLay0 d=true)->PyData.canLayAll0 ds=true
 | [],_=>rfl
 | d::r,h=>by unfold PyData.canLayAll0;rw[h d dg,Mp λd hd=>h d (cM _ hd)];rfl
theorem CW{n:Nat}:∀{ds:Da PyData},(∀d∈ds,PyData.depth d<=n)->PyData.depthAll ds<=n
 | [],_=>fm _
 | d::r,h=>by unfold PyData.depthAll;have h1:=h d dg;have h2:=CW λd hd=>h d (cM _ hd);omega
theorem Mq:∀{ds:Da PyData},(∀d∈ds,PyData.eqv d d=true)->PyData.eqvAll ds ds=true
 | [],_=>rfl
 | d::r,h=>by unfold PyData.eqvAll;rw[h d dg,Mq λd hd=>h d (cM _ hd)];rfl
theorem Pd.facts{d:PyData}{n:Nat}(h:Pd d n):PyData.canLay0 d=true/\PyData.depth d<=n/\PyData.eqv d d=true:=by
 induction h with
 | str e=>exact⟨by unfold PyData.canLay0;exact e,fm _,by unfold PyData.eqv;exact Dw _⟩
 | int=>exact⟨Z,fm _,by unfold PyData.eqv;exact Dw _⟩
 | list _ ih=>
  refine⟨?_,?_,?_⟩
  .unfold PyData.canLay0;exact Mp λd hd=>(ih d hd).1
  .unfold PyData.depth;have:=CW λd hd=>(ih d hd).2.1;omega
  .unfold PyData.eqv;exact Mq λd hd=>(ih d hd).2.2
 | tuple _ ih=>
  refine⟨?_,?_,?_⟩
  .unfold PyData.canLay0;exact Mp λd hd=>(ih d hd).1
  .unfold PyData.depth;have:=CW λd hd=>(ih d hd).2.1;omega
  .unfold PyData.eqv;exact Mq λd hd=>(ih d hd).2.2
theorem Pd.shaped{d:PyData}{n:Nat}(h:Pd d n)(hn:n<=64):SeqAt.shaped d=true:=by unfold SeqAt.shaped;rw[h.facts.1];exact bL (gD h.facts.2.1 hn)
theorem Pd.eqv{d:PyData}{n:Nat}(h:Pd d n):PyData.eqv d d=true:=h.facts.2.2
def ne_data{K:Fg}{H:Hp}{x y:V}{d:PyData}{n:Nat}{Q:VK}(h1:Dt K H x d)(h2:Dt K H y d)(p:Pd d n)(hn:n<=64)(q:Q (.bl false) H):Wq K x y H Q:=⟨d,d,h1,h2,p.shaped hn,p.shaped hn,by rw[p.eqv];exact q⟩
noncomputable def UU(x:Str×Rat):PyData:=.tuple [.str x.1,.tuple [.int x.2.num,.int (x.2.den:Int)]]
noncomputable def ptD(p:Pt):PyData:=.tuple [.str p.nm,.str p.ow,.int p.wo,.int p.we]
noncomputable def Xb(a:mC):PyData:=.tuple [.str a.nm,.str a.ow,.int a.wo,.list (a.sh.map UU)]
section
variable {K:Fg}{H:Hp}
def jn.dt{vs:Da V}{l:Da (Str×Rat)}(h:jn H vs l):ux K H vs (l.map UU):=by
 induction h with
 | nil=>exact .nil
 | cons a b _ ih=>exact .cons (.tup (dm.of a) (.cons (.str _) (.cons (T3 b) .nil))) ih
def jA.dt{vs:Da V}{l:Da Pt}(h:jA H vs l):ux K H vs (l.map ptD):=by
 induction h with
 | nil=>exact .nil
 | cons a _ ih=>exact .cons (.tup (dm.of a) (.cons (.str _) (.cons (.str _) (.cons (.int _) (.cons (.int _) .nil))))) ih
theorem jL.dt{ρ:bR}{vs:Da V}{l:Da mC}(h:jL ρ H vs l):ux K H vs (l.map Xb):=by
 induction h with
 | nil=>exact .nil
 | cons a b _ d _ ih=>exact .cons (.tup (dm.of a) (.cons (.str _) (.cons (.str _) (.cons (.int _) (.cons (.lst (aG.of b) d.dt) .nil))))) ih
end
def pd4{a b c d:PyData}{n:Nat}(h1:Pd a n)(h2:Pd b n)(h3:Pd c n)(h4:Pd d n):Pd (.tuple [a,b,c,d]) (n+1):=.tuple λx hx=>by
 rcases b_.mp hx with rfl|hx
 .exact h1
 rcases b_.mp hx with rfl|hx
 .exact h2
 rcases b_.mp hx with rfl|hx
 .exact h3
 rcases b_.mp hx with rfl|hx
 .exact h4
 cases hx
def QJ{a b:PyData}{n:Nat}(h1:Pd a n)(h2:Pd b n):Pd (.tuple [a,b]) (n+1):=.tuple λx hx=>by
 rcases b_.mp hx with rfl|hx
 .exact h1
 rcases b_.mp hx with rfl|hx
 .exact h2
 cases hx
def vH{α:Type}{f:α->PyData}{n:Nat}{l:Da α}(h:∀x∈l,Pd (f x) n):Pd (.list (l.map f)) (n+1):=.list λd hd=>by obtain⟨x,hx,rfl⟩:=b7.mp hd;exact h x hx
def UW{x:Str×Rat}(h:PyData.strOk x.1=true):Pd (UU x) 2:=QJ (.str h) (QJ .int .int)
def acB{p:Pt}(h1:PyData.strOk p.nm=true)(h2:PyData.strOk p.ow=true):Pd (ptD p) 1:=pd4 (.str h1) (.str h2) .int .int
def aaa{a:mC}(h1:PyData.strOk a.nm=true)(h2:PyData.strOk a.ow=true)(h3:∀x∈a.sh,PyData.strOk x.1=true):Pd (Xb a) 4:=pd4 (.str h1) (.str h2) .int (vH λx hx=>UW (h3 x hx))
def Oo{st:HS}{p:Pt}{x:Str×Rat}(h:x∈gO st p):x.1∈st.own:=by
 unfold gO at h;obtain⟨y,hy,e⟩:=Cy.mp h;split at e
 .cases e;exact(Dy hy).1
 .cases e
def Mb.names{c:Nat}{own:Da Str}{sh:Da (Str×Rat)}(h:Mb c own sh){x:Str×Rat}(hx:x∈sh):x.1∈own:=by
 obtain⟨o0,ts,b,h1,h2,rfl,_⟩:=h;unfold H_ at hx;obtain⟨y,hy,e⟩:=Cy.mp hx;split at e
 .cases e;exact h1.subset (Dy hy).1
 .cases e
def An(st:HS):Prop:=∀a∈st.dO,isNm a.nm=true
def afE{c:Nat}{st:HS}(h:An st)(g:Go c st)(wf:Wf st){d:Dd}(hr:jb st d=none):An (iK st d):=by
 cases d with
 | cast rs=>show An (iw st rs);unfold iw;rw[o_];unfold An bf;rw[s_];exact h
 | award o a=>show An (tD st o a);unfold tD An bf;rw[s_];exact h
 | hand x o=>show An (eU st x o);unfold eU;split <;> exact h
 | land x=>
  intro a ha;rcases fW.mp (show a∈st.dO++[_]from ha)with z|z
  .exact h a z
  .rw [eO.mp z];obtain⟨i,p,e1,rfl⟩:=j0 (mG hr);exact g.nk _ (wf.sub p (bQ e1))
 | _=>exact h
def xq(st:HS)(ds:Da Dd):Prop:=∀(i:Nat)(d:Dd),ds[i]?=some d->jb (bz st (ds.take i)) d=none/\Yj d/\d.k≠0
def z8.toG{st:HS}{ds:Da Dd}(h:z8 st ds):xq st ds:=λi d e=>let⟨a,b,c⟩:=h i d e;⟨a,b.g,c⟩
theorem xq.go{c m:Nat}{st:HS}{ds:Da Dd}(h:xq st ds)(g:GW c m st)(mo:Mo c st)(an:An st)(hc:c+ds.length<=91)(hm:m+100*ds.length<=1000000)(ho:st.own.length<100):∀i≤ds.length,GW (c+i) (m+100*i) (bz st (ds.take i))/\(bz st (ds.take i)).own=st.own/\Mo (c+i) (bz st (ds.take i))/\An (bz st (ds.take i)):=by
 intro i
 induction i with
 | zero=>intro _;exact⟨g,Z,mo,an⟩
 | succ i ih=>intro hi;obtain⟨g1,e1,m1,a1⟩:=ih (by omega);have ei:=bu (show i<ds.length by omega);obtain⟨h1,h2,h3⟩:=h i _ ei;rw[take_snoc ei,jR];have:=g1.do (by omega) (by omega) (by rw[e1];exact ho) h1 h2;exact⟨by rw[show c+(i+1)=c+i+1 by omega,show m+100*(i+1)=m+100*i+100 by omega];exact this,by rw[UQ h3,e1],afD m1 g1.g g1.wf h1,afE a1 g1.g g1.wf h1⟩
inductive afF(T:TC)(K:Fg)(vs:Da V)(H:Hp)(Q:VK)(E:XK):Prop
 |mk(n:Nat)(ρ:bR)(zo l:Addr)(own:Da Str)(zs:Da V)(ds:Da Dd)(_:vs=[.ref zo,.ref l])(_:Gh ρ H)(_:vC K ρ H zo (own.map V.str))(_:vC K ρ H l zs)(_:iF H zs ds)(_:xq (cA own:_) ds)(_:own.Nodup)(_:0<own.length)(_:own.length<100)(_:∀o∈own,isNm o=true)(_:ds.length<=91)(_:∀ρ' A' H',HH T n ρ' A' H' (bz (cA own) ds)->GW ds.length (100*ds.length) (bz (cA own) ds)->(bz (cA own) ds).own=own->Mo ds.length (bz (cA own) ds)->An (bz (cA own) ds)->Fr n ρ H ρ' H'->Q (.ref A'.a) H')
def UX(T:TC)(K:Fg):Sp:=bx (afF T K)
noncomputable def Kv(st:HS):PyData:=.list [.list (st.own.map PyData.str),.list (st.ai.map ptD),.list (st.ai.map λp=> .list ((gO st p).map UU)),.list (st.dO.map Xb),.int (aS st),.list ((st.own.map (Ml st)).map abn)]
theorem QK{c:Nat}{st:HS}(g:Go c st)(wf:Wf st)(mo:Mo c st)(an:An st):Pd (Kv st) 8:=by
 have up:∀{d:PyData}{n m:Nat},Pd d n->n<=m->Pd d m:=λ{d n m} h=>by
  induction h generalizing m with
  | str e=>exact λ_=> .str e
  | int=>exact λ_=> .int
  | list _ ih=>intro hm;obtain⟨k,e⟩:∃k,m=k+1:=⟨m-1,by omega⟩;subst e;exact .list λd hd=>ih d hd (by omega)
  | tuple _ ih=>intro hm;obtain⟨k,e⟩:∃k,m=k+1:=⟨m-1,by omega⟩;subst e;exact .tuple λd hd=>ih d hd (by omega)
 have Mr:∀o∈st.own,PyData.strOk o=true:=λo ho=>zq (g.on o ho);have ai6:∀p∈st.ai,PyData.strOk p.nm=true:=λp hp=>zq (g.nk _ (wf.sub p hp));refine .list λd hd=>?_;rcases b_.mp hd with rfl|hd
 .exact up (vH (n:=0) λx hx=> .str (Mr x hx)) (by omega)
 rcases b_.mp hd with rfl|hd
 .exact up (vH λp hp=>acB (ai6 p hp) (Mr _ (wf.ow p hp))) (by omega)
 rcases b_.mp hd with rfl|hd
 .exact up (vH λp hp=>vH λx hx=>UW (Mr _ (Oo (st:=st) (p:=p) hx))) (by omega)
 rcases b_.mp hd with rfl|hd
 .exact up (vH λa ha=>aaa (zq (an a ha)) (Mr _ (mo.ao a ha)) λz hz=>Mr _ ((g.dO a ha).names hz)) (by omega)
 rcases b_.mp hd with rfl|hd
 .exact .int
 rcases b_.mp hd with rfl|hd
 .exact up (vH λq _=>QJ (n:=0) .int .int) (by omega)
 cases hd
def fE{ρ ρ':bR}{H H':Hp}(G:Gh ρ H)(s:aJ (out ρ H) (out ρ' H')):∀b xs,H b=some (.tup xs)->H' b=some (.tup xs):=λb xs e=>(bF (s _ _ (cD e (G.tup e)))).1
inductive vI(a:Addr)(ρ:bR)(H:Hp)(st:HS):Da V->Da Pt->Prop
 | nil:vI a ρ H st [] []
 | cons {z:Addr} {us vs:Da V} {p:Pt} {ps:Da Pt}:H z=some (.lst us)->ρ z=none->z≠a->jn H us (gO st p)->vI a ρ H st vs ps->vI a ρ H st (.ref z::vs) (p::ps)
def vI.keep{a:Addr}{ρ ρ':bR}{H H':Hp}{st:HS}{vs:Da V}{ps:Da Pt}(h:vI a ρ H st vs ps)(hl:∀z us,H z=some (.lst us)->ρ z=none->z≠a->H' z=some (.lst us)/\ρ' z=none)(ht:∀b xs,H b=some (.tup xs)->H' b=some (.tup xs)):vI a ρ' H' st vs ps:=by
 induction h with
 | nil=>exact .nil
 | cons e1 e2 e3 e4 _ ih=>obtain⟨x,y⟩:=hl _ _ e1 e2 e3;exact .cons x y e3 (e4.mono ht) ih
def vI.snoc{a:Addr}{ρ:bR}{H:Hp}{st:HS}{vs us:Da V}{ps:Da Pt}{z:Addr}{p:Pt}(h:vI a ρ H st vs ps)(e1:H z=some (.lst us))(e2:ρ z=none)(e3:z≠a)(e4:jn H us (gO st p)):vI a ρ H st (vs++[.ref z]) (ps++[p]):=by
 induction h with
 | nil=>exact .cons e1 e2 e3 e4 .nil
 | cons a b c d _ ih=>exact .cons a b c d ih
theorem vI.dt{K:Fg}{a:Addr}{ρ:bR}{H:Hp}{st:HS}{vs:Da V}{ps:Da Pt}(h:vI a ρ H st vs ps):ux K H vs (ps.map λp=> .list ((gO st p).map UU)):=by
 induction h with
 | nil=>exact .nil
 | cons e1 _ _ e4 _ ih=>exact .cons (.lst (aG.of e1) e4.dt) ih
def jL.outs{ρ ρ':bR}{H H':Hp}{vs:Da V}{l:Da mC}(h:jL ρ H vs l)(G:Gh ρ H)(s:aJ (out ρ H) (out ρ' H')):jL ρ' H' vs l:=by
 induction h with
 | nil=>exact .nil
 | cons a b c d _ ih=>exact .cons (fE G s _ _ a) (bF (s _ _ (cD b c))).1 (bF (s _ _ (cD b c))).2 (d.mono (fE G s)) ih
def HH.Yn{T:TC}{n:Nat}{ρ:bR}{A:HA}{H:Hp}{st:HS}(h:HH T n ρ A H st){a:Addr}{o u:HO}(c:ρ a=none)(e:H a=some u)(tu:isTup u=false)(t:isTup o=false):HH T n ρ A (upd H a o) st:=⟨h.g.wr t,h.h.same (vq c e tu),h.wf⟩
inductive afG(T:TC)(K:Fg)(vs:Da V)(H:Hp)(Q:VK)(E:XK):Prop
 |mk(n:Nat)(ρ:bR)(A:HA)(st:HS)(_:vs=[.ref A.a])(_:HH T n ρ A H st)(_:st.kn+100*st.ai.length<=1000000)(_:∀r k H',HH T n ρ A H' { st with kn:=k }->k<=st.kn+100*st.ai.length->Fr n ρ H ρ H'->(∀ρ' z6,aJ (out ρ H':_) (out ρ' z6:_)->Dt K z6 (.ref r) (Kv st))->Q (.ref r) H')
def UY(T:TC)(K:Fg):Sp:=bx (afG T K)
section
variable {a:Addr}{ρ:bR}{H:Hp}
end
section
variable {P:Program}{w:World}{K:Fg}{mg:SO}{base:Heap}{k:Nat}{T:TC}{e:Ec}{ps:Da Str}
def Xc(D:Mn P w K mg base k T.hold "place_of" ps (sN (zm T e))):Mn P w K mg base k T.hold "place_of" ps (BN T):=D.imp λvs H Q E h=>by obtain⟨⟨n,ρ,A,st,o,rfl,hx,ho,q⟩⟩:=h;exact⟨n,ρ,A,st,o,Z,hx,λz=>absurd ho z,λ_=>q⟩
def UZ(D:Mn P w K mg base k T.hold "part_of" ps (sN (mE T e))):Mn P w K mg base k T.hold "part_of" ps (CM T):=D.imp λvs H Q E h=>by obtain⟨⟨n,ρ,A,st,i,p,qq,rfl,hx,nd,ep,eq,q⟩⟩:=h;refine⟨n,ρ,A,st,p.nm,Z,hx,nd,λz=>absurd rfl (z p (bQ ep)),λj p' q' e1 e2 e3=>?_⟩;have:j=i:=Ef nd e2 ep e1;subst this;rw[eq]at e3;cases e3;exact q
theorem acC(D:Dn P w K mg base k "check_amount" ps (sN (AU e))):Dn P w K mg base k "check_amount" ps afj:=D.imp λvs H Q E h=>by obtain⟨⟨a,rfl,h1,q⟩⟩:=h;exact⟨a,Z,λz=>absurd z (by omega),λ_=>q⟩
theorem acD(D:Dn P w K mg base k "check_loss" ps (sN (LY e))):Dn P w K mg base k "check_loss" ps Yb:=D.imp λvs H Q E h=>by obtain⟨⟨m,a,rfl,h1,h2,q⟩⟩:=h;exact⟨m,a,Z,λz=>absurd z (by omega),λ_ z=>absurd z (by omega),λ_ _=>q⟩
end
def dQ{K:Fg}{σ:St}{H:Hp}{j:Nat}{z:Addr}{xs:Da V}{w x:Str}{Q:Bool->Hp->Prop}(hz:dm K H z xs)(e:xs[0]?=some (.str w))(hx:w≠x)(hj:σ[j]?=some (some (.ref z)))(q:Q false H):DM (Cd rEq (Cd (K2 K) (CA j) (tC (.int 0))) (tC (.str x))) σ H Q:=by have f:decide (V.str w=V.str x)=false:=c8 λz=>hx (V.str.inj z);refine⟨_,hj,z,_,_,_,Z,Z,hz,aN (j:=0) e,Z,_,Z,?_⟩;rw[f];exact q
def uz{K:Fg}{σ:St}{H:Hp}{j:Nat}{z:Addr}{xs:Da V}{x:Str}{Q:Bool->Hp->Prop}(hz:dm K H z xs)(e:xs[0]?=some (.str x))(hj:σ[j]?=some (some (.ref z)))(q:Q true H):DM (Cd rEq (Cd (K2 K) (CA j) (tC (.int 0))) (tC (.str x))) σ H Q:=by have f:decide (V.str x=V.str x)=true:=bL rfl;refine⟨_,hj,z,_,_,_,Z,Z,hz,aN (j:=0) e,Z,_,Z,?_⟩;rw[f];exact q
def U0(H0 H:Hp)(r:Addr)(ws:Da V):Prop:=aJ H0 H/\H r=some (.lst ws)/\∀w∈ws,∃t x y z l ys,w =.ref t/\H t=some (.tup [.str x,.str y,.int z,.ref l])/\H0 l=none/\l≠r/\H l=some (.lst ys)
def acE{ρ:bR}{H0 H:Hp}{r:Addr}{ws:Da V}{as:Da mC}(g:aJ H0 H)(hr:H r=some (.lst ws))(h:jL ρ H ws as)(fr:∀w∈ws,∃t xs,w =.ref t/\H t=some (.tup xs)/\∀b,V.ref b∈xs->H0 b=none/\b≠r):U0 H0 H r ws:=by
 refine⟨g,hr,?_⟩;clear hr
 induction h with
 | nil=>intro w hw;cases hw
 | @cons t l x ss vs as h1 h2 h3 h4 h5 ih=>
  intro w hw;rcases b_.mp hw with rfl|hw'
  .obtain ⟨t',xs,e,ht,hf⟩:=fr _ hw;cases e;rw[h1]at ht;cases ht;obtain⟨f1,f2⟩:=hf l (by simp);exact⟨t,_,_,_,l,ss,Z,h1,f1,f2,h2⟩
  .exact ih (λw hw=>fr w (cM _ hw)) w hw'
def U0.step{H0 H:Hp}{r l:Addr}{ws ys:Da V}(h:U0 H0 H r ws)(hl:H0 l=none)(hr:l≠r)(e:H l=some (.lst ys)):U0 H0 (upd H l (.lst [])) r ws:=by
 refine⟨h.1.cW hl _,by rw[au (bB hr)];exact h.2.1,λw hw=>?_⟩;obtain⟨t,x,y,z,l',ys',rfl,k1,k2,k3,k4⟩:=h.2.2 w hw;have nt:t≠l:=λz=>by rw[z,e]at k1;cases k1
 by_cases el:l'=l
 .subst el;exact⟨t,x,y,z,l',[],Z,by rw[au nt];exact k1,k2,k3,ah⟩
 .exact ⟨t,x,y,z,l',ys',Z,by rw[au nt];exact k1,k2,k3,by rw[au el];exact k4⟩
inductive IvR(H:Hp)(ws:Da Row)(os:Da Int)(a l pq z:Addr)(k:Int)(i:Nat)(σ:St)(H':Hp):Prop
 |mk(_:aJ H H')(_:H' pq=some (.lst (os.map V.int)))(zs:Da V)(rs:Da Row)(sp:Int)(s6 s7 s8:Option V)(_:σ=[some (.ref a),some (.int k),some (.ref l),some (.int sp),some (.ref pq),some (.ref z),s6,s7,s8])(_:H' z=some (.lst zs))(_:gP H' zs rs)(_:rs.length<=i)(_:(rs.map (λr:Row=>r.1)).Nodup)(_:sp=bK ws-1-bK rs)(_:ws≠[]->0<=sp)(_:∀r∈rs,1<=r.2/\r.2<=1000000000/\∃j:Nat,((j:Nat):Int)∈os.take i/\∃w,ws[j]?=some w/\w.1=r.1/\r.2<=w.2)
inductive IvL(T:TC)(n:Nat)(ρ:bR)(A:HA)(H:Hp)(st:HS)(kept whole sd:Int)(added:Da Int)(la l1 l2:Addr)(Ms:Obj)(i:Nat)(σ:St)(H':Hp):Prop
 |mk(_:∃s7 s8,σ=[some (.ref A.a),some (.int kept),some (.int whole),some (.ref la),some (.ref l1),some (.ref l2),some (.int sd),s7,s8])(H6:Hp)(_:H'=upd H6 A.ab (.eX Ms (.dK (bY st.ai A.qs))))(_:Gh ρ H6)(_:Fr n ρ H ρ H6)(_:aI T n ρ A H6 { st with ai:=(st.ai.take i).map (λp=>{ p with sc:=p.sc*kept / sd })++st.ai.drop i })(_:H6 l1=some (.lst ((iJ st kept).map V.int)))(_:H6 l2=some (.lst ((fP st kept added).map V.int)))(_:∀b,H6 b=none->H b=none)
section
variable {X:Cx}{AC:AO}{σ:St}{H:Hp}{s:Shared}
theorem acF{pl:Sem Bool}{j k:Nat}{C:Addr}{m:Str}{ps:Da Str}{sp:Sp}{o e:Expr}{es:Da Expr}{ta:TE}{t:TA}{Bz pos:Pos}(D:Mx X.prog X.w X.K X.mg X.base j C m ps sp)(hr:d8 k X.A)(hno:∀e s,X.xe e s->False)(ho:PE X o ta)(ha:PA X (e::es) t)(hj:j<=k)(hst:starEach (e::es) X.env=(false,eval e X.env)::starEach es X.env)(hpl:(backTo pos (starEach es X.env)).any (·.1)=false)(ht:eval (.Call (.Attribute o m Bz) (e::es) [] pos) X.env=(do
    let ov <-eval o X.env
    standAt Bz.atName
    let(f2,first) <-holding [ov] (getMethod ov m pl)
    callWith pos f2 first (backTo pos (starEach (e::es) X.env)) (backToKw pos (keywordEach [] X.env)))){Q:VK}{R:Addr->Hp->Prop}(I:Inv X AC σ H s)(h:yL C m sp [] (λ_ c H'=>∃C,c=some C/\R C H') ta t σ H Q):
  wpAny (model X.prog X.w) X.A (eval (.Call (.Attribute o m Bz) (e::es) [] pos) X.env) (EP X AC σ Q) (λev s'=>∃x C Hc sc H',ev =.ref x/\yh X AC σ Hc sc H' x C .none s'/\R C H') s:=by
 obtain⟨f,fd,F,hb,hm,c⟩:=D.ex
 refine PySem.W.methodCall_KW (pl:=pl) (fq (ho AC s σ H _ I h) (λu s1 ⟨x,H1,I1,rx,a,dx,fs,ex,ea,l,q⟩=>?_) λ_ _ z=>(hno _ _ z).elim) ht
 subst ex
 obtain rfl:u=Value.ref a:=rx
 refine yK I1 ea c hm l ?_
 refine Rt (first:=[.ref a]) (h₀:=X.base) I.ok.mod.PB hm.kp (fq (ha pos AC s1 σ H1 _ I1 q) (λus s2 ⟨vs,H2,I2,r,q2⟩=>⟨I2.pO,?_⟩) λ_ _ z=>(hno _ _ z).elim) hst hpl
 have r2:Vals ((V.ref a::vs)++[]) ((Value.ref a::us)++[]):=Vals.append (.cons rfl r) .nil
 have hl:((Value.ref a::us)++[]).length=ps.length:=by rw[<-r2.length];exact F.len _ _ _ _ q2
 refine wpAny_call (Bv (F.run X.A X.stack s2 H2 ⟨Value.ref a::us,[]⟩ ((Value.ref a::us)++[]) ((V.ref a::vs)++[]) Q _ (hr.mono hj) I2.V8 (hb s2 (Value.ref a::us) I2.pO hl) r2 q2) λr s' hq=>?_)
 cases r with
 | error e=>
   have hq':jD X.prog X.w X.stack H2 s2 (λ_ c H'=>∃C,c=some C/\R C H') e s':=hq
   obtain⟨x,T,C,H',rfl,os,bare,un,hok,tr,hx,hT,Cp,AL,C',ec,hR⟩:=hq'
   cases ec
   exact⟨x,C,H2,s2,H',Z,⟨I2,os,bare,un,hok,hx,Cp,T,tr,hT,AL⟩,hR⟩
 | ok fl=>
   cases fl with
   | ret u=>exact I2.after hq
   | next=>exact False.elim hq
   | brk=>exact False.elim hq
   | cont=>exact False.elim hq
noncomputable def tXm(C:Addr)(m:Str)(sp:Sp)(ta:TE)(t:TA):TX:=λD R σ H=>yL C m sp [] (λ_ c H'=>∃C,c=some C/\R C σ H') ta t σ H λ_ H'=>D.nx σ H'
end
section
variable {X:Cx}
def ai7{pl:Sem Bool}{j k:Nat}{C:Addr}{m:Str}{ps:Da Str}{sp:Sp}{o e:Expr}{es:Da Expr}{ta:TE}{t:TA}{Bz pos p2:Pos}(D:Mx X.prog X.w X.K X.mg X.base j C m ps sp)(hr:d8 k X.A)(hno:∀e s,X.xe e s->False)(ho:bE X o ta)(ha:bA X (e::es) t)(hj:j<=k:=by decide)(hst:starEach (e::es) X.env=(false,eval e X.env)::starEach es X.env:=by rfl)(hpl:(backTo pos (starEach es X.env)).any (·.1)=false:=by rfl)(ht:eval (.Call (.Attribute o m Bz) (e::es) [] pos) X.env=(do
    let ov <-eval o X.env
    standAt Bz.atName
    let(f2,first) <-holding [ov] (getMethod ov m pl)
    callWith pos f2 first (backTo pos (starEach (e::es) X.env)) (backToKw pos (keywordEach [] X.env))):=by rfl)(hs:swapsWith (.Call (.Attribute o m Bz) (e::es) [] pos) none p2.line X.env=pure false:=by rfl):bX X [.Expr (.Call (.Attribute o m Bz) (e::es) [] pos) p2] (tXm C m sp ta t):=by
 have ho:=ho.h;have ha:=ha.h;constructor
 intro AC s σ H Dn R I h
 refine wpAny_execs_cons (wpAny_Expr_any (fq (acF D hr hno ho ha hj hst hpl ht I h) (λv s1 ⟨y,H1,I1,r1,q1⟩=>?_) λev s1 ⟨x,C,Hc,sc,H',ev',F,hR⟩=>⟨x,C,σ,Hc,sc,H',ev',F,hR⟩) I.quiet hs)
 exact Bt ⟨σ,H1,I1,q1⟩
end
noncomputable def jv(p:Pt):Pt:={ p with row:=p.row++[0] }
section
variable {st:HS}{o:Str}
def oH{l:Da Str}{x o:Str}(h:x∈l):(l++[o]).idxOf x=l.idxOf x:=by rw[List.idxOf_append,aB h]
def pC{x:Str}(h:x∈eL st):bP (aV st o) x=jv (bP st x):=by
 unfold bP;show((st.ai.map jv).find? _).getD _=_;rw[List.find?_map];show(Option.map jv (st.ai.find? λp=>decide (p.nm=x))).getD _=_;cases e:st.ai.find? (λp=>decide (p.nm=x))with
 | none=>obtain⟨p,hp,hx⟩:=b7.mp h;have:=List.find?_eq_none.mp e p hp;exact absurd (bL hx) this
 | some p=>rfl
def uK:aS (aV st o)=aS st:=by unfold aS;show((st.ai.map jv).map _).sum=_;rw[fk];rfl
def vJ:eL (aV st o)=eL st:=by unfold eL;show(st.ai.map jv).map _=_;rw[fk];rfl
def AZ{p:Pt}(h:p.row.length=st.bq.length):aX (aV st o) (jv p)=aX st p++[0] :=by show List.zipWith _ (p.row++[0]) (st.bq++[0])=_;rw[Ac h];show _++[p.sc*0+0]=_;rw[Bw];rfl
def Mt{ts:Da Int}(h:ts.length=st.bq.length):j_ (aV st o) (ts++[0])=j_ st ts++[0] :=by show List.zipWith _ (ts++[0]) (st.bq++[0])=_;rw[Ac h];rfl
def Mu{n i:Nat}{v:Int}(h:i<n):(List.replicate (n+1) (0:Int)).set i v=(List.replicate n 0).set i v++[0] :=by rw[List.replicate_succ',Ro _ _ (by rw[mh];exact h)]
def A0{l r:Da Int}{i:Nat}(h:i<l.length):(l++r).getD i 0=l.getD i 0:=by rw[nE,nE,uW h]
theorem QL:∀(ts:Da Int){s:Int},0<=s->0<=kO s ts
 | [],_,h=>h
 | t::ts,s,_=>QL ts (s:=Jm.cf t s) (by unfold Jm.cf;omega)
def U1{ts:Da Int}{s:Int}(h:0<=s):kO s (ts++[0])=kO s ts:=by have:=QL ts h;unfold kO at this ⊢;rw[xD];show Jm.cf 0 _=_;rw[Jm.PU,Jm.PO _ this]
def U3(s:Int):d9 (aV st o) s=aV (d9 st s) o:=by unfold d9;split <;> rfl
def EA{kept whole:Int}{added:Da Int}(hl:added.length=st.bq.length)(hw:0<=whole):bf (aV st o) kept whole (added++[0])=aV (bf st kept whole added) o:=by
 have ec:fP (aV st o) kept (added++[0])=fP st kept added++[0] :=by show List.zipWith _ (st.bq++[0]) (added++[0])=_;rw[Ac hl.symm];show _++[0*kept+0]=_;rw[By];rfl
 have es:cR (aV st o) kept whole (added++[0])=cR st kept whole added:=by unfold cR;rw[ec,<-KL,U1 hw];congr 2;unfold iJ;show(st.ai.map jv).map _=_;rw[fk];rfl
 unfold bf;rw[es,ec,<-U3];congr 1;show HS.mk _ _ _ _ _ _ _ _ _=HS.mk _ _ _ _ _ _ _ _ _;congr 1
 .show (st.ai.map jv).map _=(st.ai.map _).map jv;rw[fk,fk];rfl
 .rw [b8];show _++[0 / _]=_;rw[Int.zero_ediv]
 .show (st.bU++[0]).map _=_;rw[b8];show _++[0*_]=_;rw[By]
def II(r:Row):dJ (aV st o) r=aV (dJ st r) o:=by
 show HS.mk _ _ _ _ _ _ _ _ _=HS.mk _ _ _ _ _ _ _ _ _;congr 1;show jM (st.ai.map jv) r.1 r.2=(jM st.ai r.1 r.2).map jv;unfold jM;rw[fk];have e:st.ai.map ((λp:Pt=>if p.nm=r.1 then{ p with wo:=p.wo-r.2 } else p) ∘ jv)=(st.ai.map λp:Pt=>if p.nm=r.1 then{ p with wo:=p.wo-r.2 } else p).map jv:=by rw[fk];refine Cw λp _=>?_;show(if p.nm=r.1 then _ else jv p)=jv (if p.nm=r.1 then _ else p);split <;> rfl
 rw[e,List.filter_map];rfl
theorem IJ:∀(rs:Da Row){st:HS},rs.foldl dJ (aV st o)=aV (rs.foldl dJ st) o
 | [],_=>rfl
 | r::rs,st=>by rw[iH,iH,II,IJ rs]
def CY(wf:Wf st){x:Str}(h:x∈eL st):(bP st x).row.length=st.bq.length/\(bP st x).ow∈st.own:=by obtain⟨i,p,e,rfl⟩:=j0 h;rw[FU wf.dN e,wf.eZ];exact⟨wf.rows p (bQ e),wf.ow p (bQ e)⟩
theorem IK(wf:Wf st):∀(rs:Da Row){Ap:Da Int},Ap.length=st.bq.length->(∀r∈rs,r.1∈eL st)->rs.foldl (fC (aV st o)) (Ap++[0])=rs.foldl (fC st) Ap++[0]/\(rs.foldl (fC st) Ap).length=st.bq.length
 | [],_,h,_=>⟨Z,h⟩
 | r::rs,Ap,h,hr=>by
  have hr0:=hr r dg;have hl:=(CY wf hr0).1;have e:fC (aV st o) (Ap++[0]) r=fC st Ap r++[0] :=by unfold fC;rw[pC hr0];show List.zipWith _ (Ap++[0]) ((bP st r.1).row++[0])=_;rw[Ac (h.trans hl.symm)];show _++[0+r.2*(bP st r.1).sc*0]=_;rw[Bw];rfl
  rw[iH,iH,e];exact IK wf rs (by unfold fC;rw[jE,h,hl,nQ]) λr' h'=>hr r' (cM _ h')
def Gd{x:Str}{f g:Pt->Pt}(h:∀p∈st.ai,p.nm=x->f (jv p)=jv (g p)):nI (aV st o) x f=aV (nI st x g) o:=by
 show HS.mk _ _ _ _ _ _ _ _ _=HS.mk _ _ _ _ _ _ _ _ _;congr 1;show(st.ai.map jv).map _=(st.ai.map _).map jv;rw[fk,fk];refine Cw λp hp=>?_;show(if p.nm=x then f (jv p) else jv p)=jv (if p.nm=x then g p else p);by_cases c:p.nm=x
 .rw [aB c,aB c,h p hp c]
 .rw [aC c,aC c]
def IL{p:Pt}:wX (aV st o) (jv p)=aV (wX st p) o:=by show HS.mk _ _ _ _ _ _ _ _ _=HS.mk _ _ _ _ _ _ _ _ _;congr 1;show st.ai.map jv++[jv p]=(st.ai++[p]).map jv;rw[b8];rfl
def So(p:Pt)(h:p.row.length=st.bq.length)(wf:Wf st):gO (aV st o) (jv p)=gO st p:=by
 unfold gO;rw[AZ h];show((st.own++[o]).zip _).filterMap _=_;have hl:st.own.length=(aX st p).length:=by unfold aX;rw[jE,h,nQ,wf.eZ]
 rw[List.zip_append hl,List.filterMap_append];have:([o].zip [(0:Int)]).filterMap (λx=>if 0<x.2 then some (x.1,Jm.fr x.2 (aV st o).prod) else none)=[] :=by rw[Ry,Fl];simp
 rw[this];exact Bs _
theorem aab(wf:Wf st){d:Dd}(hr:jb st d=none)(hk:d.k≠0):iK (aV st o) d=aV (iK st d) o:=by
 have ho:(aV st o).own.length=st.own.length+1:=by show(st.own++[o]).length=_;rw[cX];rfl
 cases d with
 | sign=>exact absurd rfl hk
 | load x w wo we=>obtain⟨l1,l2,l3,l4,l5⟩:=pe hr;have hi:=wF l3;show wY (aV st o) x w wo we=aV (wY st x w wo we) o;unfold wY;rw[<-IL,ho];show wX (aV st o) ⟨x,w,wo,we,1,j_ (aV st o) ((List.replicate (st.own.length+1) 0).set ((st.own++[o]).idxOf w) st.prod)⟩=_;rw[oH l3,Mu hi,Mt (by rw[gq,mh,wf.eZ])];rfl
 | cast rs=>
  obtain⟨h1,h2,h3,h4⟩:=tE hr;show iw (aV st o) rs=aV (iw st rs) o;unfold iw;have e:iW (aV st o) rs=iW st rs++[0]/\(iW st rs).length=st.bq.length:=by unfold iW;have:=IK (o:=o) wf rs (Ap:=st.bq.map λc=>bK rs*c) (by rw[aF]) λr hr=>(ju (h3 r hr)).1;refine⟨?_,this.2⟩;rw[<-this.1];show rs.foldl _ ((st.bq++[0]).map _)=_;rw[b8];show rs.foldl _ (_++[bK rs*0])=_;rw[Bw]
  have hw:0<=aS st:=by
   have nn:∀(l:Da Pt),(∀p∈l,1<=p.wo)->0<=(l.map λp:Pt=>p.wo).sum:=by
    intro l
    induction l with
    | nil=>intro _;exact lO _
    | cons b l ih=>intro hl;rw[cO,fY];have:=hl b dg;have:=ih λp hp=>hl p (cM _ hp);omega
   exact nn st.ai λp hp=>(wf.kG p hp).1
  rw[uK,e.1,EA e.2 hw,IJ]
 | award w a=>obtain⟨h1,h2,h3⟩:=uI hr;show tD (aV st o) w a=aV (tD st w a) o;unfold tD;rw[uK,ho];show bf (aV st o) _ _ ((List.replicate (st.own.length+1) 0).set ((st.own++[o]).idxOf w) (a*st.prod))=_;rw[oH h1,Mu (wF h1),EA (by rw[gq,mh,wf.eZ]) (by omega)]
 | mishap x a=>exact II (x,a)
 | rise x a=>exact Gd λp _ _=>rfl
 | hand x w=>
  obtain⟨h1,h2⟩:=pB hr;obtain⟨g1,g2⟩:=CY wf h1;show eU (aV st o) x w=aV (eU st x w) o;unfold eU;rw[pC h1];show(if(st.own++[o]).idxOf w=(st.own++[o]).idxOf (bP st x).ow then _ else _)=_;rw[oH h2,oH g2];by_cases c:st.own.idxOf w=st.own.idxOf (bP st x).ow
  .rw [aB c,aB c]
  .rw [aC c,aC c];refine Gd λp hp e=>?_;have qX:p.row.length=st.bq.length:=by rw[wf.eZ];exact wf.rows p hp
   have how:=wf.ow p hp;have hl:(aX st p).length=st.own.length:=by unfold aX;rw[jE,qX,nQ,wf.eZ]
   have i1:=wF h2;have i2:=wF how;have et:jP (aV st o) (jv p) w=jP st p w++[0] :=by unfold jP;rw[AZ qX];show(((aX st p++[0]).set ((st.own++[o]).idxOf w) ((aX st p++[0]).getD ((st.own++[o]).idxOf w) 0+(aX st p++[0]).getD ((st.own++[o]).idxOf p.ow) 0)).set ((st.own++[o]).idxOf p.ow) 0)=_;rw[oH h2,oH how,A0 (by rw[hl];exact i1),A0 (by rw[hl];exact i2),Ro _ _ (by rw[hl];exact i1),Ro _ _ (by rw[gq,hl];exact i2)]
   show Pt.mk _ _ _ _ _ _=Pt.mk _ _ _ _ _ _;congr 1;rw[et,Mt];unfold jP;rw[gq,gq,hl,wf.eZ]
 | land x=>
  have h1:=mG hr;obtain⟨g1,g2⟩:=CY wf h1;show qc (aV st o) x=aV (qc st x) o;unfold qc;rw[pC h1];have hl:(aX st (bP st x)).length=st.own.length:=by unfold aX;rw[jE,g1,nQ,wf.eZ]
  have eg:fu (aV st o) (jv (bP st x))=fu st (bP st x)++[0] :=by unfold fu;rw[AZ g1];show List.zipWith _ (st.bU++[0]) _=_;rw[Ac (by rw[hl,wf.mD])];show _++[0+(bP st x).wo*0]=_;rw[Bw];rfl
  have hlg:(fu st (bP st x)).length=st.own.length:=by unfold fu;rw[jE,hl,wf.mD,nQ]
  have i2:=wF g2;show HS.mk _ _ _ _ _ _ _ _ _=HS.mk _ _ _ _ _ _ _ _ _;congr 1
  .show (st.ai.map jv).filter _=_;rw[List.filter_map];rfl
  .rw [So _ g1 wf];rfl
  .rw [eg];show((fu st (bP st x)++[0]).set ((st.own++[o]).idxOf (bP st x).ow) ((fu st (bP st x)++[0]).getD ((st.own++[o]).idxOf (bP st x).ow) 0-(bP st x).wo*st.prod))=_;rw[oH g2,A0 (by rw[hlg];exact i2),Ro _ _ (by rw[hlg];exact i2)]
 | sever x y a we=>obtain⟨h1,_⟩:=jQ hr;show k_ (aV st o) x y a we=aV (k_ st x y a we) o;unfold k_;rw[pC h1,<-IL,<-Gd (o:=o) (f:=λp=>{ p with wo:=p.wo-a,we:=p.we-we }) (g:=λp=>{ p with wo:=p.wo-a,we:=p.we-we }) λp _ _=>rfl];rfl
 | still=>rfl
theorem row_more{r:Row}(h:jF st r=none):jF (aV st o) r=none:=by obtain⟨h1,h2,h3⟩:=ju h;unfold jF;rw[vJ,aB h1,aC (by omega),pC h1];exact aC (by show ¬ (bP st r.1).wo<r.2;omega)
def Mv{y:Str}(h:isNm y=true/\y∉st.nms):newR (aV st o) y=none:=by unfold newR;rw[aB h.1];exact aC h.2
theorem Xd{d:Dd}(hr:jb st d=none)(hk:d.k≠0):jb (aV st o) d=none:=by
 have up:∀{w:Str},w∈st.own->w∈(aV st o).own:=λh=>yv _ h;cases d with
 | sign=>exact absurd rfl hk
 | load x w wo we=>obtain⟨l1,l2,l3,l4,l5⟩:=pe hr;show zj (aV st o) x w wo we=none;unfold zj;rw[Mv ⟨l1,l2⟩];show(if w∈(aV st o).own then(if wo<1\/we<0 then some 5 else none) else some 2)=none;rw[aB (up l3),aC (by omega)]
 | cast rs=>obtain⟨h1,h2,h3,h4⟩:=tE hr;show uH (aV st o) rs=none;unfold uH;have f:rs.findSome? (jF (aV st o))=none:=List.findSome?_eq_none_iff.mpr λr hr=>row_more (h3 r hr);rw[aB ⟨h1,h2⟩,f,uK];exact aC (by omega)
 | award w a=>obtain⟨h1,h2,h3⟩:=uI hr;show kg (aV st o) w a=none;unfold kg;rw[aB (up h1),aC (by omega),uK,aC (by omega)]
 | mishap x a=>exact row_more hr
 | rise x a=>obtain⟨h1,h2⟩:=xj hr;show lU (aV st o) x a=none;unfold lU;rw[vJ,aB h1,aC (by omega)]
 | hand x w=>obtain⟨h1,h2⟩:=pB hr;show kP (aV st o) x w=none;unfold kP;rw[vJ,aB h1,aB (up h2)]
 | land x=>show rZ (aV st o) x=none;unfold rZ;rw[vJ,aB (mG hr)]
 | sever x y a we=>obtain⟨h1,h2,h3,h4,h5,h6⟩:=jQ hr;show iX (aV st o) x y a we=none;unfold iX;rw[vJ,aB h1,Mv h2,pC h1];show(if a<1\/we<0 then some 5 else if(bP st x).wo<=a\/(bP st x).we<we then some 6 else none)=none;rw[aC (by omega),aC (by omega)]
 | still=>rfl
end
theorem aac{own:Da Str}{w:Str}{ds:Da Dd}(h:xq (cA own) ds)(nd:own.Nodup)(h0:0<own.length)(h1:own.length<100)(US:∀o∈own,isNm o=true)(hd:ds.length<=91):xq (cA (own++[w])) ds/\bz (cA (own++[w])) ds=aV (bz (cA own) ds) w:=by
 have e0:cA (own++[w])=aV (cA own) w:=by unfold cA;rw[xD];rfl
 have gw:=Yk nd h0 (by omega) US;have U4:An (cA own):=λx hx=>by rw[show(cA own).dO=[]from(jN own hs0 rfl (λu hu=>absurd hu (by simp[hs0]))).2.2.2.2.1]at hx;cases hx
 have go:=h.go gw mo0 U4 (by omega) (by omega) (by rw[uT];omega);have key:∀i≤ds.length,bz (cA (own++[w])) (ds.take i)=aV (bz (cA own) (ds.take i)) w:=by
  intro i
  induction i with
  | zero=>intro _;exact e0
  | succ i ih=>intro hi;have ei:=bu (show i<ds.length by omega);obtain⟨h1,h2,h3⟩:=h i _ ei;rw[take_snoc ei,jR,jR,ih (by omega)];exact aab (go i (by omega)).1.wf h1 h3
 refine⟨λi d e=>?_,?_⟩
 .obtain ⟨h1,h2,h3⟩:=h i d e;have:=(dX.mp e).1;rw[key i (by omega)];exact⟨Xd h1 h3,h2,h3⟩
 .have:=key ds.length (aK _)
  rwa [c7]at this
def afH(K:Fg)(J:Addr)(t:TX)(u:TS):TS:=λD σ H=>
 t D (λC σ' H'=>PySem.W.exmOne K (.ref C) (.ref J)=some true/\u D σ' H') σ H
section
variable {X:Cx}
def aad{J:Str}{Ja:Addr}{t:TX}{u:TS}{body:Da Stmt}{b0:Stmt}{suite:Da Stmt}{p hp pos:Pos}(hno:∀e s,X.xe e s->False)(hst:X.stack=X.env::X.outer)(hfr:X.env.frame=some X.env.locals)(hb:bX X body t)(hg:Gl X J)(hm:X.mg J=some (.ref Ja))(hs:∀x,cU (X.held x) (b0::suite) u)(hd:(J==("__debug__":Str))=false:=by decide):
  bS X (.Try body [.ExceptHandler (some (.Name J p)) none (b0::suite) hp] [] [] pos) (afH X.K Ja t u):=by
 have hb:=hb.h;have hs:=λx=>(hs x).h;constructor
 intro AC s σ H D I h
 refine wpAny_Try_except (fq (hb AC s σ H _ _ I h) (λf s1 q=>?_) λev s1 q=>?_)
 . cases f with
   | next=>exact Bt q
   | brk=>exact q
   | cont=>exact q
   | ret u=>exact q
 . obtain⟨x,C,σ',Hc,sc,H',rfl,F,hk,hR⟩:=q
   refine WM F I.ok.frames hst hfr λs2 F2=>LO F2 λs3 F3=>?_
   have I3:Inv (X.held x) AC σ' H' s3:=F3.inv.held x
   refine wpAny_handleBy_cons (codeAny_handlers_test (uL (X:=X.held x) I3 hg hm ?_ hd)) (by intro z;cases z)
   obtain⟨T,⟨oe,vs,a0,oT,ts,h1,h2,_⟩,_⟩:=F3.tr
   have LT:PySem.W.Looks (model X.prog X.w) s3.heap (typeOf (.ref x)) (.ref C):=by have:=(PySem.W.Looks.ld (M:=model X.prog X.w) (part:=none) h1).andThen (f:=λo=>(pure o.cls:Sem Value)) (PySem.W.Looks.now);rw[h2]at this;exact this
   refine(PySem.W.exm_one I3.pO LT hk).here ?_
   refine codeAny_handlers_suite (LO F3 λs4 F4=>?_)
   have I4:Inv (X.held x) AC σ' H' s4:=F4.inv.held x
   refine fq (hs x AC s4 _ _ _ I4 hR) (λf s6 q=>?_) λe s6 z=>(hno e s6 z).elim
   cases f with
   | next=>obtain⟨σ2,H2,I6,q⟩:=q;exact⟨σ2,H2,I6.Eo I.ok,q⟩
   | brk=>obtain⟨σ2,H2,I6,q⟩:=q;exact⟨σ2,H2,I6.Eo I.ok,q⟩
   | cont=>obtain⟨σ2,H2,I6,q⟩:=q;exact⟨σ2,H2,I6.Eo I.ok,q⟩
   | ret u=>obtain⟨v,σ2,H2,I6,r,q⟩:=q;exact⟨v,σ2,H2,I6.Eo I.ok,r,q⟩
end
noncomputable def Mw(ρ:bR)(c:lS)(qs:Da Addr):bR:=λb=>if b∈qs then some c else ρ b
theorem Gh.Mw{ρ:bR}{H:Hp}(g:Gh ρ H){c:lS}{qs:Da Addr}(h:∀a∈qs,∃o,H a=some o/\isTup o=false):Gh (Mw ρ c qs) H:=λb d e=>by
 unfold L2.Mw at e;split at e
 .next hm=>exact h b hm
 .exact g b d e
inductive acG(T:TC)(e:Ec)(vs:Da V)(H:Hp)(Q:VK)(E:XK):Prop
 |mk(n ρ A st x o wo we:_)(_:vs=[.ref A.a,.str x,.str o,.int wo,.int we])(_:HH T n ρ A H st)(_:x.cps.toList.length<=100000)(_:o∈st.own)(_:1<=wo)(_:0<=we)(_:st.nms.length<1000)(_:st.ai.length<1000)(_:Ep T e n ρ A H (newR st x:_) (wY st x o wo we:_) Q E)
def Ge(T:TC)(e:Ec):Sp:=bx (acG T e)
def Xe{P:Program}{w:World}{K:Fg}{mg:SO}{base:Heap}{k:Nat}{T:TC}{e:Ec}{ps:Da Str}(D:Mx P w K mg base k T.hold "load" ps (Ge T e)):Mn P w K mg base k T.hold "load" ps (Uo T):=D.mn λvs H Q E h=>by obtain⟨⟨n,ρ,A,st,x,o,wo,we,rfl,hh,hx,hn,ho,h4,h5,h6,h7,q⟩⟩:=h;exact⟨n,ρ,A,st,x,o,wo,we,Z,hh,yV hx,ho,h4,h5,h6,h7,.of (by unfold newR;rw[aB hx,aC hn]) q⟩
inductive acH(K:Fg)(vs:Da V)(H:Hp)(Q:VK)(E:XK):Prop
 |mk(n m:Nat)(ρ:bR)(B:LA)(l:LS)(_:vs=[.ref B.m])(_:n≠m)(_:Gh ρ H)(_:bH n ρ B H l)(_:l.ai.length<=1000)(_:∀ρ' B' H',Gh ρ' H'->bH m ρ' B' H' l->Kept ρ H ρ' H'->Q (.ref B'.m) H')
def QM(K:Fg):Sp:=bx (acH K)
inductive Xf(T:TC)(vs:Da V)(H:Hp)(Q:VK)(E:XK):Prop
 |mk(n:Nat)(ρ:bR)(A:HA)(st:HS)(_:vs=[.ref A.a])(_:HH T n ρ A H st)(_:st.kn+100*st.ai.length<=1000000)(_:∀k H',HH T n ρ A H' { st with kn:=k }->k<=st.kn+100*st.ai.length->Fr n ρ H ρ H'->Q .cI H')
def IM(T:TC):Sp:=bx (Xf T)
inductive afI(T:TC)(K:Fg)(vs:Da V)(H:Hp)(Q:VK)(E:XK):Prop
 |mk(n:Nat)(ρ:bR)(A:HA)(st:HS)(l:Addr)(ks:Da Str)(o:Str)(_:vs=[.ref A.a,.ref l,.str o])(_:HH T n ρ A H st)(_:aG K H l (ks.map V.str))(_:∀x∈ks,isNm x=true/\x∈st.nms)(_:o∈st.own)(_:st.nms.length<1000)(_:st.ai.length<1000)(_:∀H',aJ H H'->Q (.bl true) H')
def U5(T:TC)(K:Fg):Sp:=bx (afI T K)
noncomputable def uA(k:Nat)(ρ:bR):bR:=λb=>match ρ b with|some c=>if c.1=k then none else some c|none=>none
section
variable {k n:Nat}{ρ:bR}{H:Hp}{b:Addr}
def U6{t:Nat}{x:Str}(h:ρ b=some (n,t,x))(ne:n≠k):uA k ρ b=some (n,t,x):=by unfold uA;rw[h];exact aC ne
def CZ(h:ρ b=none):uA k ρ b=none:=by unfold uA;rw[h]
def Gf{t:Nat}{x:Str}(h:ρ b=some (k,t,x)):uA k ρ b=none:=by unfold uA;rw[h];exact aB rfl
def Xg{c:lS}(h:uA k ρ b=some c):ρ b=some c:=by
 unfold uA at h;split at h
 .next e=>split at h
          . cases h
          . rw[e];exact h
 .cases h
theorem Gh.uA(g:Gh ρ H):Gh (uA k ρ) H:=λb c e=>g b c (Xg e)
def U7{T:TC}{A:HA}{st:HS}(h:HH T n ρ A H st)(ne:n≠k):HH T n (uA k ρ) A H st:=⟨h.g.uA,h.h.same ⟨λ_ _ e=>e,λb t x o _ c e=>⟨e,U6 c ne⟩⟩,h.wf⟩
def Xh{B:LA}{l:LS}(h:bH n ρ B H l)(ne:n≠k):bH n (uA k ρ) B H l:=h.same ⟨λ_ _ e=>e,λb t x o _ c e=>⟨e,U6 c ne⟩⟩
def aae:aJ (out ρ H) (out (uA k ρ) H):=λb o e=>let⟨a,c⟩:=bF e;cD a (CZ c)
def Xi{B:LA}{l:LS}(h:bH n ρ B H l)(g:Gh ρ H)(own:Da Str):bH n ρ B (upd H B.lo (.lst (own.map V.str))) { l with own:=own }:=by have k:=dG (o:=.lst (own.map V.str)) g h.co;exact⟨kz k h.cm h.om,h.cm,ah,h.co,kz k h.cp h.op,h.cp,kz k h.ck h.ok,h.ck,h.nd,h.ql,λi q a e1 e2=>let⟨x,y⟩:=h.pt i q a e1 e2;⟨kz k y x,y⟩⟩
end
theorem xq.app{st:HS}{a b:Da Dd}(h:xq st a)(k:xq (bz st a) b):xq st (a++b):=λi d e=>by
 rcases Nat.lt_or_ge i a.length with c|c
 .rw [uW c]at e;rw[List.take_append_of_le_length (by omega)];exact h i d e
 .rw [uV c]at e;have:=k (i-a.length) d e;rw[List.take_append,Rj c];unfold bz at this ⊢;rw[xD];exact this
def Xj(st:HS)(a b:Da Dd):bz st (a++b)=bz (bz st a) b:=by unfold bz;rw[xD]
def U8(st:HS)(o:Str):dD (aV st o)={ dD st with own:=st.own++[o] }:=by refine LS.ext' rfl ?_ rfl;show((st.ai.map jv).map _)=_;rw[fk];rfl
theorem xq.gw{own:Da Str}{ds:Da Dd}(h:xq (cA own) ds)(nd:own.Nodup)(h0:0<own.length)(h1:own.length<100)(US:∀o∈own,isNm o=true)(hd:ds.length<=91):GW ds.length (100*ds.length) (bz (cA own) ds)/\(bz (cA own) ds).own=own/\Mo ds.length (bz (cA own) ds)/\An (bz (cA own) ds):=by
 have U4:An (cA own):=λx hx=>by rw[show(cA own).dO=[]from(jN own hs0 rfl (λu hu=>absurd hu (by simp[hs0]))).2.2.2.2.1]at hx;cases hx
 have go:=h.go (Yk nd h0 (by omega) US) mo0 U4 (by omega) (by omega) (by rw[uT];omega) ds.length (aK _);rw[c7,BA,BA,uT]at go;exact go
def pD{a b:HS}(h:iZ a b):Kv a=Kv b:=by rw[h];rfl
def iF.app{H:Hp}{vs us:Da V}{a b:Da Dd}(h:iF H vs a)(k:iF H us b):iF H (vs++us) (a++b):=by
 induction h with
 | nil=>exact k
 | cons e _ ih=>exact .cons e ih
inductive Xk(T:TC)(K:Fg)(a zo zn mm fx ox two:Addr)(ns:Da Int)(own jw nms:Da Str)(i:Nat)(σ:St)(H:Hp):Prop
 |mk(ρ:bR)(A C:HA)(B D:LA)(x y:HS)(pF nL:Da Dd)(z1 z2:Addr)(v1 v2:Da V)(_:∃s9,σ=[some (.ref a),some (.ref zo),some (.ref zn),some (.ref mm),some (.ref z1),some (.ref z2),some (.ref fx),some (.ref ox),some (.ref two),s9,none,none])(_:HH T 0 ρ A H x)(_:A.a=fx)(_:iZ x (bz (cA own) pF))(_:HH T 2 ρ C H y)(_:C.a=ox)(_:iZ y (bz (cA jw) nL))(_:bH 1 ρ B H (dD (bz (cA own) pF)))(_:B.m=mm)(_:bH 3 ρ D H (dD (bz (cA jw) nL)))(_:D.m=two)(_:H z1=some (.lst v1))(_:ρ z1=none)(_:iF H v1 pF)(_:xq (cA own) pF)(_:H z2=some (.lst v2))(_:ρ z2=none)(_:iF H v2 nL)(_:xq (cA jw) nL)(_:Nx nms (bz (cA own) pF))(_:Nx nms (bz (cA jw) nL))(_:x.kn<=1000+100*i)(_:y.kn<=1000+100*i)(_:pF.length<=4+i)(_:nL.length<=4+i)(_:vC K ρ H a (ns.map V.int))(_:vC K ρ H zo (own.map V.str))(_:vC K ρ H zn (nms.map V.str))
end L2
set_option autoImplicit false
namespace Law
open PySem L2
theorem iN(n:Nat)(h:n<=1000:=by decide):n<=sizeLine:=by rw[jY];omega
noncomputable def top(i:Nat):Stmt:=PySem.Challenge.pw_jettison_k29_twins_go_apart.main.body.getD i (.Pass ⟨0,0,0,0⟩)
section
variable {P:Program}{w:World}{K:Fg}{mg:SO}{base:Heap}{f:Addr}{fd:FuncData}
abbrev oJ:Stmt:=top 2
abbrev jS:Da Str:=["one","other"]
abbrev EB:Da Str:=jS
def vK:aM EB jS (aD oJ):=dP
theorem C3(F:At K mg "common_factor" oJ f fd):Dn P w K mg base 1 "common_factor" jS Wr:=by
 refine F.oA vK λ_ _ _ _ H _ Q E hr h=>?_;obtain⟨a,b,rfl,ha,hb,q⟩:=h;refine⟨_,(@cU.h _ _ _ (aj (LU fX (aQ kK (qv 1) ak (a_ _)) (ay (ab4 (i:=0) (j:=1) rfl vK.nd rfl rfl (by decide) rfl rfl (af (qv 1) (af (aL kZ (qv 0) (qv 1)) aq)) (by rfl))))
  (ay (bh (qv 0))))),?_⟩
 refine⟨λm σ H'=>∃x y:Int,m=y.toNat/\σ=[some (.int x),some (.int y)]/\H'=H/\0<=x/\0<=y/\Jm.cf x y=Jm.cf a b,⟨_,a,b,Z,Z,Z,ha,hb,Z⟩,?_⟩;rintro m σ H' ⟨x,y,rfl,rfl,rfl,hx,hy,e⟩;refine⟨_,Z,_,_,Z,Z,_,Z,?_⟩;refine dF (λc=>?_) (λc=>?_)
 .have c':0<y:=eE c;refine⟨_,λ_ _ z=>z,?_⟩;refine⟨_,Z,_,Z,_,Z,_,_,Z,Z,c',_,_,Z,?_⟩;have h1:0<=x % y:=pK _ (by omega);have h2:x % y<y:=Ad _ c';exact⟨_,(by omega:(x % y).toNat<y.toNat),y,x % y,Z,Z,Z,hy,h1,(Jm.PR x y c').trans e⟩
 .have c':¬ 0<y:=uY (mU.mpr c);have ey:y=0:=by omega
  subst ey;rw[Jm.PO x hx]at e;refine⟨_,Z,?_⟩;rw[e];exact q
abbrev zJ:Stmt:=top 18
abbrev xr:Da Str:=["text","signs"]
abbrev U9:Da Str:=xr
def Ss:aM U9 xr (aD zJ):=dP
def Su(F:At K mg "made_of" zJ f fd)(Sv:mg "all"=none):Dn P w K mg base 1 "made_of" xr CJ:=by
 refine F.oA Ss λ_ _ _ _ H _ Q E hr h=>?_;obtain⟨⟨cs,signs,rfl,hl,q⟩⟩:=h;refine⟨_,(@cU.h _ _ _ (ay (bh (bV (T5 K rfl) (by rfl) Sv PyProof.Rows.boot_all (af (kh ["sign","signs"] [none,some 1] rfl (ab8 (qv 0)) (λ_ _ _ _=>(aU (i:=0) (show List.Nodup (["sign","signs"] :Da Str)from by decide +kernel))) (λ_ _ _ _=>(F_ Tc (qv 0) (qv 1) (by with_unfolding_all rfl))) rfl (by rfl)) aq))))),?_⟩;refine⟨_,Z,cs,Z,λAp Bi=>?_⟩;refine Wv (λi out H1=>aJ H H1/\out=((cs.take i).map (D5 signs)).map V.bl) hl ⟨aE Bi _,Z⟩ ?_ ?_
 .rintro i c out H1 hx gf ha ⟨g,e⟩;refine⟨_,Z,_,Z,_,_,Z,Z,ha,g.cW Bi _,?_⟩;rw[e,List.take_add_one,hx,b8,b8];rfl
 rintro out H1 gf ha ⟨g,e⟩;rw[c7]at e;refine⟨Ap,cs.map (D5 signs),Z,aG.of (by rw[ha,e]),?_⟩;have e2:(cs.map (D5 signs)).all id=cs.all (D5 signs):=by rw[List.all_map];rfl
 rw[e2];exact q H1 g
abbrev zK:Stmt:=top 17
abbrev tF:Da Str:=["text"]
abbrev U_:Da Str:=tF
def Sw:aM U_ tF (aD zK):=dP
theorem Sx{tk:Tok}(F:At K mg "is_name" zK f fd)(A3:Dn P w K mg base 1 "made_of" xr CJ)(cE:mg "len"=none)(A_:mg "LETTERS"=some (.str "abcdefghijklmnopqrstuvwxyz" tk)):Dn P w K mg base 2 "is_name" tF yR:=by
 refine F.oA Sw λ_ _ _ _ H _ Q E hr h=>?_;obtain⟨⟨cs,rfl,hl,q⟩⟩:=h;refine⟨_,(@cU.h _ _ _ (ay (bh (ab7 (WO XS XS ak (bV K4 (by rfl) cE gr (af (qv 0) aq)) ak) (ab2 (br A3 hr (af (qv 0) (af (ZV (v:=.str "abcdefghijklmnopqrstuvwxyz") (by rfl) A_ ⟨_,Z⟩) aq)))))))),?_⟩;have hz:(tx cs).length<=sizeLine:=by rw[Ax,jY];omega
 refine⟨_,Z,_,Z,hz,_,_,Z,Z,_,Z,?_⟩;rw[Ax];refine dF (λc=>?_) (λc=>?_)
 .refine ⟨_,_,Z,Z,_,Z,dF (λc2=>?_) (λc2=>?_)⟩
  .refine ⟨_,Z,RU hl λH' g=>?_⟩;have:=q H' g;unfold isName at this;rw[c,c2,Bool.true_and,Bool.true_and]at this;exact this
  .have:=q H (aJ.refl _);unfold isName at this;rw[c,mU.mpr c2,Bool.true_and,Bool.false_and]at this;exact this
 .have:=q H (aJ.refl _);unfold isName at this;rw[mU.mpr c,Bool.false_and,Bool.false_and]at this;exact⟨_,Z,bw this⟩
abbrev qf:Stmt:=top 23
abbrev jg:Da Str:=["amount"]
abbrev Gg:Da Str:=jg
def EC:aM Gg jg (aD qf):=dP
theorem C4{e:Ec}(F:At K mg "check_amount" qf f fd):Dn P w K mg base 1 "check_amount" jg (sN (AU e)):=by refine F.oA EC λ_ _ _ _ H _ Q E hr h=>?_;obtain⟨⟨a,rfl,h5,q⟩⟩:=h;refine⟨_,(@cU.h _ _ _ (ay (cN (aQ rR (qv 0) ak (a_ _)) (ay iT) bJ))),?_⟩;exact⟨_,Z,_,_,Z,Z,_,Z,dF (λc=>h5 (eE c) 0 H (aJ.refl _)) λc=>q (by have:=uY (mU.mpr c);omega)⟩
abbrev tV:Stmt:=top 24
abbrev mJ:Da Str:=["most","amount"]
abbrev My:Da Str:=mJ
def Jg:aM My mJ (aD tV):=dP
theorem Gi{e:Ec}(F:At K mg "check_loss" tV f fd)(jh:Dn P w K mg base 1 "check_amount" jg (sN (AU e))):Dn P w K mg base 2 "check_loss" mJ (sN (LY e)):=by
 refine F.oA Jg λ_ _ _ _ H _ Q E hr h=>?_;obtain⟨⟨m,a,rfl,h5,h6,q⟩⟩:=h;refine⟨_,(@cU.h _ _ _ (aj (bO (br jh hr (af (qv 1) aq)))
  (ay (cN (aQ kK (qv 1) (qv 0) (a_ _)) (ay iT) bJ)))),?_⟩
 exact⟨_,Z,⟨⟨a,Z,h5,λh1=>⟨_,Z,_,Z,_,_,Z,Z,_,Z,dF (λc=>h6 h1 (eE c) 0 H (aJ.refl _)) λc=>q h1 (by have:=uY (mU.mpr c);omega)⟩⟩⟩⟩
abbrev tW:Stmt:=top 22
abbrev qg:Da Str:=["rows"]
abbrev Mz:Da Str:=qg.append ["amounts","name","amount"]
def nT:aM Mz qg (aD tW):=dP
theorem Jh(F:At K mg "amounts_of" tW f fd)(cE:mg "len"=none):Dn P w K mg base 1 "amounts_of" qg (Ur K):=by
 refine F.oA nT λ_ _ _ _ H _ Q E hr h=>?_;obtain⟨⟨l,us,rs,rfl,hl,hR,nd,hne,hle,q⟩⟩:=h;refine⟨_,(@cU.h _ _ _ (aj (aR (i:=1) nT.nd qV)
  (aj (fh fX rfl (dZ K (qv 0)) (iM K (n:=2) rfl (cC (aU (i:=2) nT.nd) (cC (aU (i:=3) nT.nd) iL))) (aj (cN (yj (LW (c9 hr) (qv 2) (qv 1))) (ay iT) bJ)
  (ay (uR (c9 hr) (qv 1) (qv 2) (qv 3) rfl))))
  (aj (cN (aQ eF (bV wQ (by rfl) cE gr (af (qv 1) aq)) ak (a_ _)) (ay iT) bJ)
  (ay (bh (qv 1))))))),?_⟩
 intro d hd;have g0:=aE hd (.dK []);have hd0:upd H d (.dK []) d=some (.dK (iD (rs.take 0))):=ah;generalize upd H d (.dK [])=H0 at *;have hul:=hR.length;refine⟨_,Z,l,Z,⟨us,g0.seq hl⟩,?_⟩;refine jk (K:=K) (xs:=us) (λi σ H'=>aJ H H'/\H' d=some (.dK (iD (rs.take i)))/\∃s2 s3,σ=[some (.ref l),some (.ref d),s2,s3]) ⟨g0,hd0,_,_,Z⟩ (λi σ H' _ hp=>hp.1.seq hl) ?_ ?_
 .rintro i x σ H' hx ⟨g,hd',s2,s3,rfl⟩;obtain⟨a,r,rfl,er,ha⟩:=hR.get hx;have hnot:r.1∉(rs.take i).map (·.1):=by rw[List.map_take];exact qQ nd (by rw[cu,er];rfl)
  have hlt:(iD (rs.take i)).length<sizeLine:=by rw[yX,kI];exact dw (by omega)
  refine⟨a,_,Z,dm.of (g _ _ ha),Z,_,_,Z,_,_,Z,Z,?_⟩;refine⟨_,Z,_,Z,d,_,Z,dS.k (k:=Sum.inr r.1) hd',_,Z,?_⟩;rw[Ib hnot];refine bw ?_;refine⟨_,Z,_,Z,_,Z,d,_,Z,xF.k (k:=Sum.inr r.1) hd' hlt,g.cW hd _,?_,_,_,Z⟩;rw[ah,mz _ (Ib hnot),take_snoc er];unfold iD;rw[b8];rfl
 rintro σ H' ⟨g,hd',s2,s3,rfl⟩;rw[hul,c7]at hd';refine⟨_,Z,d,_,Z,hd',Z,_,Z,?_⟩;rw[yX];have hpos:0<rs.length:=List.length_pos_iff.mpr hne;rw[c8 (λe=>by have:=V.int.inj e;omega)];exact bw ⟨_,Z,q d H' g hd hd'⟩
abbrev oK:Stmt:=top 5
abbrev lV:Da Str:=["step","tops"]
abbrev ED:Da Str:=lV.append ["top"]
def oM:aM ED lV (aD oK):=dP
theorem C5(F:At K mg "factor_of_all" oK f fd)(iO:Dn P w K mg base 1 "common_factor" jS Wr):Dn P w K mg base 2 "factor_of_all" lV (Us K):=by
 refine F.oA oM λ_ _ _ _ H _ Q E hr h=>?_;obtain⟨⟨s,l,ts,rfl,hl,h0,h1,q⟩⟩:=h;refine⟨_,(@cU.h _ _ _ (aj (fh fX rfl (dZ K (qv 1)) (aU (i:=2) oM.nd) (ay (aR (i:=0) oM.nd (br iO hr (af (qv 2) (af (qv 0) aq))))))
  (ay (bh (qv 0))))),?_⟩
 refine⟨_,Z,l,Z,⟨_,hl⟩,?_⟩;refine jk (K:=K) (xs:=ts.map V.int) (λi σ H'=>H'=H/\0<=kO s (ts.take i)/\∃s2,σ=[some (.int (kO s (ts.take i))),some (.ref l),s2]) ⟨Z,h0,_,Z⟩ (λi σ H' _ hp=>by rw[hp.1];exact hl) ?_ ?_
 .rintro i x σ H' hx ⟨rfl,hf,s2,rfl⟩;obtain⟨t,rfl,et⟩:=gi hx;have e1:kO s (ts.take (i+1))=Jm.cf t (kO s (ts.take i)):=by unfold kO;rw[take_snoc et,xD];rfl
  refine⟨_,Z,_,Z,t,_,Z,h1 t (bQ et),hf,Z,?_,some (.int t),?_⟩
  .rw [e1];unfold Jm.cf;omega
  .rw [e1];rfl
 rintro σ H' ⟨rfl,hf,s2,rfl⟩;rw[aF,c7];exact⟨_,Z,q⟩
abbrev qY:Stmt:=inClass (top 4) 0
abbrev tX:Da Str:=["self"]
abbrev Ji:Da Str:=tX
def Gj:aM Ji tX (aD qY):=dP
def Gk{T:TC}(F:HV K mg "Bottom" T.bot "Bottom.__init__" qY f fd)(X:Txt K T):Cn P w K mg base 1 "Bottom" T.bot tX (FL T):=by
 refine F.oA Gj λ_ _ _ _ H _ Q E hr h=>?_;obtain⟨⟨p,dx,rfl,hp,q⟩⟩:=h;refine⟨_,(@cU.h _ _ _ (aj (cK K (qv 0) (iE aq))
  (aj (cK K (qv 0) ak)
  (ay (cK K (qv 0) qV))))),?_⟩
 refine⟨(iN 0),λl hl=>?_⟩;have n1:p≠l:=aA hp hl;refine⟨_,Z,p,T.bot,dx,_,Z,by rw[au n1];exact hp,X.cB,X.Ul,by show 0<1000;decide,?_⟩;refine⟨_,Z,p,T.bot,dx,_,Z,ah,X.cB,X.HX,by show 1<1000;decide,?_⟩;intro d hd;have n2:d≠p:=λe=>by rw[e,ah]at hd;cases hd
 have n3:d≠l:=λe=>by rw[e,au (bB n1),au (bB n1),ah]at hd;cases hd
 have hd0:H d=none:=by rw[au n2,au n2,au n3]at hd;exact hd
 refine⟨_,Z,p,T.bot,dx,_,Z,by rw[au (bB n2)];exact ah,X.cB,X.Um,by show 2<1000;decide,?_⟩;refine q l d _ hl hd0 (bB n3) (λb o e hb=>?_) ah ?_ ?_
 .rw [au hb,au (aA e hd0),au hb,au hb,au (aA e hl)];exact e
 .rw [au (bB n1),au (bB n3),au (bB n1),au (bB n1)];exact ah
 .rw [au n2];exact ah
abbrev vL:Stmt:=inClass (top 20) 0
abbrev xM:Da Str:=["self","name","owner","worth","weight","scale","row"]
abbrev Oq:Da Str:=xM
def MA:aM Oq xM (aD vL):=dP
def MB{T:TC}(F:HV K mg "Part" T.part "Part.__init__" vL f fd)(X:Txt K T)(dI:mg "list"=none):Cn P w K mg base 1 "Part" T.part xM (BL T K):=by
 refine F.oA MA λ_ _ _ _ H _ Q E hr h=>?_;obtain⟨⟨p,dx,l,pt,rfl,hp,hl,q⟩⟩:=h;refine⟨_,(@cU.h _ _ _ (aj (cK K (qv 0) (qv 1))
  (aj (cK K (qv 0) (qv 2))
  (aj (cK K (qv 0) (qv 3))
  (aj (cK K (qv 0) (qv 4))
  (aj (cK K (qv 0) (qv 5))
  (ay (cK K (qv 0) (fD (fJ K) (by rfl) dI tM (af (qv 6) aq)))))))))),?_⟩
 refine⟨_,Z,_,Z,p,T.part,dx,_,Z,hp,X.cP,X.Qa,by show 0<1000;decide,?_⟩;refine⟨_,Z,_,Z,p,T.part,dx,_,Z,ah,X.cP,X.pow,by show 1<1000;decide,?_⟩;refine⟨_,Z,_,Z,p,T.part,dx,_,Z,ah,X.cP,X.vh,by show 2<1000;decide,?_⟩;refine⟨_,Z,_,Z,p,T.part,dx,_,Z,ah,X.cP,X.Qc,by show 3<1000;decide,?_⟩;refine⟨_,Z,_,Z,p,T.part,dx,_,Z,ah,X.cP,X.HW,by show 4<1000;decide,?_⟩;simp only[lE];have hl1:∀o,aG K (upd H p o) l (pt.row.map V.int):=λo=>by
  rcases hl with(h|⟨ob,h⟩)|h
  .exact .inl (.inl (by rw[au (i8 h hp (by intro z;cases z))];exact h))
  .exact .inl (.inr ⟨ob,by rw[au (i8 h hp (by intro z;cases z))];exact h⟩)
  .exact .inr h
 refine⟨_,Z,l,_,Z,.inl (hl1 _),λr hr2=>?_⟩;have n1:r≠p:=λe=>by rw[e,ah]at hr2;cases hr2
 refine⟨_,Z,p,T.part,dx,_,Z,by rw[au (bB n1)];exact ah,X.cP,X.Ln,by show 5<1000;decide,?_⟩;have hr0:H r=none:=by rw[au n1]at hr2;exact hr2
 refine q r _ hr0 (λb o e hb=>?_) ah ?_
 .rw [au hb,au (aA e hr0),au hb];exact e
 .rw [au n1];exact ah
abbrev qZ:Stmt:=inClass (top 4) 1
abbrev nU:Da Str:=["self","step"]
abbrev Jj:Da Str:=nU
def Gm:aM Jj nU (aD qZ):=dP
def Gn{T:TC}(F:gF K T.bot "grow" "Bottom.grow" qZ f fd)(X:Txt K T):Mn P w K mg base 1 T.bot "grow" nU (Ut T):=by
 refine F.oA Gm λ_ _ _ _ H _ Q E hr h=>?_;obtain⟨⟨n,ρ,A,st,s,rfl,g,h,hl,z1,z2,q⟩⟩:=h;refine⟨_,(@cU.h _ _ _ (ay (kj (aQ kK (qv 1) ak (a_ _)) (aj (bO (kQ lJ nZ n5 ee (aH K (qv 0)) (af (qv 1) aq)))
  (aj (qd K (qv 0) (qv 1) ZF)
  (ay (cK K (qv 0) qV)))) bJ))),?_⟩
 refine⟨λσ' H'=>Q .cI H',⟨_,Z,_,_,Z,Z,_,Z,dF (λc=>?_) (λc=>?_)⟩,λ_ _ z=>z⟩
 .have c':1<s:=eE c;refine⟨_,Z,A.bt,T.bot,A.db,_,_,Z,h.jd,X.cB,X.Ul,Z,.inl ⟨Z,_,aG.of h.lT⟩,_,Z,A.sp,_,_,Z,Z,h.lT,by rw[aF];exact dw hl,?_⟩;rw[show st.stp.map V.int++[V.int s]=(st.stp++[s]).map V.int from by rw[b8];rfl];have h1:=h.abG g (st.stp++[s]);have g1:=g.wr (a:=A.sp) (o:=.lst ((st.stp++[s]).map V.int)) rfl;have F1:Fr n ρ H ρ (upd H A.sp (.lst ((st.stp++[s]).map V.int))):=Fr.write h.gK;generalize upd H A.sp (.lst ((st.stp++[s]).map V.int))=H1 at *;refine⟨_,Z,A.bt,T.bot,A.db,_,_,Z,h1.jd,X.cB,X.HX,Z,_,Z,_,_,Z,Z,oW z1 z2,A.db,_,h1.jd,by show 3<1000;decide,?_⟩;intro kn hkn;have nb:kn≠A.bt:=λe=>by rw[e,ah]at hkn;cases hkn
  have C6:H1 kn=none:=by rw[au nb]at hkn;exact hkn
  have gM:ρ kn=none:=g1.none C6;refine⟨_,Z,A.bt,T.bot,A.db,_,Z,by rw[au (bB nb)];exact ah,X.cB,X.Um,by show 3<1000;decide,?_⟩;have eH:upd (upd (upd H1 A.bt (.ins T.bot A.db (gY "product" (.int (st.prod*s)) (jU A.sp st.prod A.kn)))) kn (.dK [])) A.bt (.ins T.bot A.db (gY "known" (.ref kn) (gY "product" (.int (st.prod*s)) (jU A.sp st.prod A.kn))))=upd (upd H1 kn (.dK [])) A.bt (.ins T.bot A.db (jU A.sp (st.prod*s) kn)):=by rw[iS (bB nb),lE];rfl
  have k2:Kp n ρ (cy ρ kn (n,9,⟨#[]⟩)) H1 (upd H1 kn (.dK [])) (λ_=>true):=⟨(aE C6 _).tups,λb t x o _ c e=>⟨aE C6 _ _ _ e,by rw[aP (aA e C6)];exact c⟩⟩
  have h2:=h1.same k2;have g2:Gh (cy ρ kn (n,9,⟨#[]⟩)) (upd H1 kn (.dK [])):=(g1.alloc C6).color ah rfl;have F2:Fr n ρ H1 (cy ρ kn (n,9,⟨#[]⟩)) (upd H1 kn (.dK [])):=Fr.color C6 (aE C6 _);have h3:=h2.abH g2 (st.prod*s) kn ah bN;have es:d9 st s={ { st with stp:=st.stp++[s] }with prod:=st.prod*s,kn:=0 }:=by unfold d9;rw[aB c']
  rw[es]at q;show Q .cI _;refine(show _=_ from eH)▸?_;exact q _ _ _ (g2.wr rfl) h3 rfl (F1.trans (F2.trans (Fr.write h2.gI)))
 .have c':¬ 1<s:=uY (mU.mpr c);have es:d9 st s=st:=by unfold d9;rw[aC c']
  rw[es]at q;exact q ρ A H g h rfl Fr.refl
abbrev oN:Stmt:=inClass (top 21) 19
abbrev fZ:Da Str:=["self","owner"]
abbrev EE:Da Str:=fZ
def C8:aM EE fZ (aD oN):=dP
def BY{T:TC}{e:Ec}(F:gF K T.hold "place_of" "Hold.place_of" oN f fd)(X:Txt K T):Mn P w K mg base 1 T.hold "place_of" fZ (sN (zm T e)):=by
 refine F.oA C8 λ_ _ _ _ H _ Q E hr h=>?_;obtain⟨⟨n,ρ,A,st,o,rfl,h,q2,q⟩⟩:=h;refine⟨_,(@cU.h _ _ _ (aj (cN (yj (AS (c9 hr) (qv 1) (aH K (qv 0)))) (ay iT) bJ)
  (ay (bh (di (c9 hr) (aH K (qv 0)) (qv 1)))))),?_⟩
 refine⟨_,Z,_,Z,A.a,T.hold,A.dx,_,_,Z,h.oa,X.cH,X.hpl,Z,A.pl,_,Z,dS.k (k:=Sum.inr o) h.gX,_,Z,?_⟩;by_cases ho:o∈st.own
 .have hv:=Qd (i:=0) ho;rw[hv];refine bw ?_;refine⟨_,Z,A.a,T.hold,A.dx,_,_,Z,h.oa,X.cH,X.hpl,Z,_,Z,A.pl,_,Z,hv▸dS.k (k:=Sum.inr o) h.gX,?_⟩;rw[BA];exact q ho
 .rw [p6 ho];exact gb <| q2 ho 0 H (aJ.refl _)
abbrev qh:Stmt:=inClass (top 21) 20
abbrev eV:Da Str:=["self","name"]
abbrev Gp:Da Str:=eV
def EF:aM Gp eV (aD qh):=dP
def C_{T:TC}{e:Ec}(F:gF K T.hold "part_of" "Hold.part_of" qh f fd)(X:Txt K T):Mn P w K mg base 1 T.hold "part_of" eV (sN (mE T e)):=by
 refine F.oA EF λ_ _ _ _ H _ Q E hr h=>?_;obtain⟨⟨n,ρ,A,st,x,rfl,hA,nd,q2,k⟩⟩:=h;refine⟨_,(@cU.h _ _ _ (aj (cN (yj (AS (c9 hr) (qv 1) (aH K (qv 0)))) (ay iT) bJ)
  (ay (bh (di (c9 hr) (aH K (qv 0)) (qv 1)))))),?_⟩
 refine⟨_,Z,_,Z,A.a,T.hold,A.dx,_,_,Z,hA.oa,X.cH,X.hab,Z,A.ab,_,Z,dS.k (k:=Sum.inr x) hA.dB,_,Z,?_⟩;by_cases hx:∃p∈st.ai,p.nm=x
 .obtain ⟨p,hp,rfl⟩:=hx;obtain⟨i,hi,ep⟩:=List.mem_iff_getElem.mp hp;have x8:st.ai[i]?=some p:=by rw[bu hi,ep]
  obtain⟨qq,eq,_⟩:=hA.find x8;have hv:=uO nd x8 eq;rw[hv];refine bw ?_;exact⟨_,Z,A.a,T.hold,A.dx,_,_,Z,hA.oa,X.cH,X.hab,Z,_,Z,A.ab,_,Z,hv▸dS.k (k:=Sum.inr p.nm) hA.dB,k i p qq rfl x8 eq⟩
 .have hn:∀p∈st.ai,p.nm≠x:=λp hp z=>hx ⟨p,hp,z⟩;rw[p8 hn];exact gb <| q2 hn 0 H (aJ.refl _)
abbrev nu:Stmt:=inClass (top 21) 21
abbrev jx:Da Str:=["self","name"]
abbrev Dc:Da Str:=jx
def BZ:aM Dc jx (aD nu):=dP
def Ba{T:TC}{e:Ec}(F:gF K T.hold "check_new" "Hold.check_new" nu f fd)(X:Txt K T)(pG:Dn P w K mg base 2 "is_name" tF yR)(zL:qb K e.bad)(Bb:mg "BadName"=some (.ref e.bad))(De:qb K e.twice)(uU:mg "Twice"=some (.ref e.twice)):Mx P w K mg base 3 T.hold "check_new" jx (xK T e):=by
 refine F.oAX BZ λ_ _ _ _ H _ Q E hr h=>?_;obtain⟨⟨n,ρ,A,st,x,rfl,h,hx,q2,q⟩⟩:=h;refine⟨_,(@cU.h _ _ _ (aj (cN (AR (vD (br pG hr (af (qv 1) aq)))) (ay (CT zL (by rfl) Bb)) bJ)
  (ay (cN (yj (LW (c9 hr) (qv 1) (aH K (qv 0)))) (ay (CT De (by rfl) uU)) bJ)))),?_⟩
 refine⟨_,Z,D6 (cs:=x.cps.toList) hx λH1 g1=>⟨_,Z,?_⟩⟩;cases hn:isName x.cps.toList with
 | false=>exact gb λy=>q2 0 (by unfold newR isNm;rw[hn];rfl) y H1 g1
 | true=>
  refine bw ?_;have h1:=h.mono g1;refine⟨_,Z,_,Z,A.a,T.hold,A.dx,_,_,Z,h1.oa,X.cH,X.hnm,Z,A.nm,_,Z,dS.k (k:=Sum.inr x) h1.m_,_,Z,?_⟩;by_cases hm:x∈st.nms
  .rw [Lq hm];exact gb λy=>q2 1 (by unfold newR isNm;rw[hn,aB rfl,aB hm]) y H1 g1
  .rw [AD hm];exact bw (q (AM hn hm) H1 g1)
abbrev tY:Stmt:=inClass (top 21) 11
abbrev mK:Da Str:=["self"]
abbrev MC:Da Str:=mK
def Jk:aM MC mK (aD tY):=dP
theorem Jl{T:TC}(F:gF K T.hold "parts" "Hold.parts" tY f fd)(X:Txt K T):Mn P w K mg base 1 T.hold "parts" mK (FO T):=by
 refine F.oA Jk λ_ _ _ _ H _ Q E hr h=>?_;obtain⟨⟨n,ρ,A,st,rfl,h,hl,q⟩⟩:=h;refine⟨_,(@cU.h _ _ _ (ay (bh (Er (kh ["part"] [none] rfl (BR (aH K (qv 0))) (λ_ _ _ _=>(aU (i:=0) (show List.Nodup (["part"] :Da Str)from by decide +kernel))) (λ_ _ _ _=>(iY (af (aH K (qv 0)) (af (aH K (qv 0)) (af (aH K (qv 0)) (af (aH K (qv 0)) aq)))))) rfl (by rfl)))))),?_⟩;refine⟨A.ab,_,h.dB,λo=>?_⟩;refine⟨_,Z,A.a,T.hold,A.dx,_,_,Z,eT h.dB h.oa (λk z=>by cases z),X.cH,X.hab,Z,A.ab,o,_,Z,ah,λAp Bi=>?_⟩;have el:=uN h.ql;refine k7 (n:=st.ai.length) 0 (λi out H1=>aJ (upd H A.ab (.eX o (.dK (bY st.ai A.qs)))) H1/\jA H1 out (st.ai.take i)) (by omega) ⟨aE Bi _,.nil⟩ (λi out H1 hi _ hp=>⟨hp.1 _ _ ah,by rw[el];exact hi⟩) (λout H1 _ hp=>⟨hp.1 _ _ ah,by rw[el];exact aK _⟩) ?_ ?_
 .rintro i x out H1 H2 hi gf ha ⟨g,hP⟩ ⟨rfl,kv,hkv,rfl⟩;have ep:=bu hi;obtain⟨qq,eq,h1,h2,_⟩:=h.find ep;rw[uM ep eq]at hkv;cases hkv;have hq:=g _ _ (eT h.dB h1 (λk z=>by cases z));refine⟨_,Z,qq.1,T.part,qq.2.1,_,_,Z,hq,X.cP,X.Qa,Z,_,Z,qq.1,T.part,qq.2.1,_,_,Z,hq,X.cP,X.pow,Z,_,Z,qq.1,T.part,qq.2.1,_,_,Z,hq,X.cP,X.vh,Z,_,Z,qq.1,T.part,qq.2.1,_,_,Z,hq,X.cP,X.Qc,Z,(iN 4),λt ht=>?_⟩;have g1:=aE ht (BK st.ai[i]);refine⟨g1 _ _ ha,(g.trans g1).cW Bi _,?_⟩;rw[take_snoc ep];exact((hP.mono g1.tups).snoc ah).mono (jf (.inr ⟨_,g1 _ _ ha,Z⟩))
 rintro out H1 gf ha ⟨g,hP⟩;rw[c7]at hP;have hz:=g _ _ (ah (H:=H) (a:=A.ab) (o:=.eX o (.dK (bY st.ai A.qs))));have na:Ap≠A.ab:=λe=>by rw[e,hz]at ha;cases ha
 exact⟨hz,q Ap out _ (qN h.dB g) (jr h.dB Bi) (by rw[au na];exact ha) (hP.mono (jf (.inr ⟨_,hz,Z⟩)))⟩
abbrev tZ:Stmt:=inClass (top 21) 13
abbrev kr:Da Str:=["self"]
abbrev MD:Da Str:=kr
def Jo:aM MD kr (aD tZ):=dP
theorem Jp{T:TC}(F:gF K T.hold "whole" "Hold.whole" tZ f fd)(X:Txt K T)(kR:mg "sum"=none):Mn P w K mg base 1 T.hold "whole" kr (BQ T):=by
 refine F.oA Jo λ_ _ _ _ H _ Q E hr h=>?_;obtain⟨⟨n,ρ,A,st,rfl,h,hl,q⟩⟩:=h;refine⟨_,(@cU.h _ _ _ (ay (bh (bV (Aw K rfl) (by rfl) kR KC (af (Er (kh ["part"] [none] rfl (BR (aH K (qv 0))) (λ_ _ _ _=>(aU (i:=0) (show List.Nodup (["part"] :Da Str)from by decide +kernel))) (λ_ _ _ _=>(aH K (qv 0))) rfl (by rfl))) aq))))),?_⟩;refine⟨A.ab,_,h.dB,λo=>?_⟩;refine⟨_,Z,A.a,T.hold,A.dx,_,_,Z,eT h.dB h.oa (λk z=>by cases z),X.cH,X.hab,Z,A.ab,o,_,Z,ah,λAp Bi=>?_⟩;have el:=uN h.ql;refine k7 (n:=st.ai.length) 0 (λi out H1=>aJ (upd H A.ab (.eX o (.dK (bY st.ai A.qs)))) H1/\out=((st.ai.take i).map (·.wo)).map V.int) (by omega) ⟨aE Bi _,Z⟩ (λi out H1 hi _ hp=>⟨hp.1 _ _ ah,by rw[el];exact hi⟩) (λout H1 _ hp=>⟨hp.1 _ _ ah,by rw[el];exact aK _⟩) ?_ ?_
 .rintro i x out H1 H2 hi gf ha ⟨g,e⟩ ⟨rfl,kv,hkv,rfl⟩;have ep:=bu hi;obtain⟨qq,eq,h1,h2,_⟩:=h.find ep;rw[uM ep eq]at hkv;cases hkv;have hq:=g _ _ (eT h.dB h1 (λk z=>by cases z));refine⟨_,Z,qq.1,T.part,qq.2.1,_,_,Z,hq,X.cP,X.vh,Z,ha,g.cW Bi _,?_⟩;rw[take_snoc ep,e,b8,b8];rfl
 rintro out H1 gf ha ⟨g,e⟩;rw[c7]at e;have hz:=g _ _ (ah (H:=H) (a:=A.ab) (o:=.eX o (.dK (bY st.ai A.qs))));have na:Ap≠A.ab:=λe=>by rw[e,hz]at ha;cases ha
 exact⟨hz,Ap,st.ai.map (λp:Pt=>p.wo),Z,aG.of (by rw[au na,ha,e]),q _ (qN h.dB g)⟩
abbrev ku:Stmt:=inClass (top 21) 25
abbrev gU:Da Str:=["self","tops"]
abbrev zM:Da Str:=gU
def yo:aM zM gU (aD ku):=dP
theorem yp{T:TC}(F:gF K T.hold "beyond_common" "Hold.beyond_common" ku f fd)(X:Txt K T)(jc:mg "zip"=none):Mn P w K mg base 1 T.hold "beyond_common" gU (R5 T K):=by
 refine F.oA yo λ_ _ _ _ H _ Q E hr h=>?_;obtain⟨⟨n,ρ,A,st,l,tops,rfl,h,hS,htl,hle,q⟩⟩:=h;refine⟨_,(@cU.h _ _ _ (ay (bh (kh ["top","common"] [none,none] rfl (qS K (by rfl) jc (af (qv 1) (af (aH K (qv 0)) aq))) (λ_ _ _ _=>(iM K (n:=2) rfl (cC (aU (i:=0) (show List.Nodup (["top","common"] :Da Str)from by decide +kernel)) (cC (aU (i:=1) (show List.Nodup (["top","common"] :Da Str)from by decide +kernel)) iL)))) (λ_ _ _ _=>(aL mw (qv 0) (qv 1))) rfl (by rfl))))),?_⟩;refine⟨_,Z,_,Z,A.a,T.hold,A.dx,_,_,Z,h.oa,X.cH,X.zY,Z,_,_,_,_,_,_,Z,.lst hS,.lst (aG.of h.iC),λAp Bi=>?_⟩;refine yf (K:=K) (n:=tops.length) [0,1] (λi out H1=>aJ H H1/\out=(List.zipWith (λt c=>t-c) (tops.take i) (st.bq.take i)).map V.int) (by decide) (by omega) ⟨aE Bi _,Z⟩ (λi out H1 hi _ hp=>⟨hp.1.seq hS,hp.1.seq (aG.of h.iC),by rw[aF];exact hi,by rw[aF];omega⟩)
  (λout H1 _ hp=>⟨hp.1.seq hS,hp.1.seq (aG.of h.iC),.inl (by rw[aF];exact aK _)⟩) ?_ ?_
 .rintro i x out H1 H2 hi gf ha ⟨g,e⟩ ⟨p,x1,y1,hp,rfl,rfl,e1,e2⟩;obtain⟨t,rfl,et⟩:=gi e1;obtain⟨c,rfl,ec⟩:=gi e2;have g1:=aE hp (.tup [.int t,.int c]);refine⟨p,_,Z,dm.of ah,Z,_,Z,_,Z,_,_,Z,Z,g1 _ _ ha,(g.trans g1).cW Bi _,?_⟩;rw[sX _ et ec,e,b8];rfl
 rintro out H1 gf ha ⟨g,e⟩;rw[c7,htl,c7]at e;exact q Ap H1 g Bi (by rw[ha,e];rfl)
abbrev qi:Stmt:=inClass (top 21) 24
abbrev ji:Da Str:=["self","part"]
abbrev Gq:Da Str:=ji
def EG:aM Gq ji (aD qi):=dP
theorem EH{T:TC}(F:gF K T.hold "tops_of" "Hold.tops_of" qi f fd)(X:Txt K T)(jc:mg "zip"=none):Mn P w K mg base 1 T.hold "tops_of" ji (BO T):=by
 refine F.oA EG λ_ _ _ _ H _ Q E hr h=>?_;obtain⟨⟨n,ρ,A,st,ip,pt,qq,rfl,h,wf,ep,eq,q⟩⟩:=h;obtain⟨h1,h2,_⟩:=h.opt ip pt qq ep eq;have gh:=bQ ep;refine⟨_,(@cU.h _ _ _ (ay (bh (kh ["own","common","part"] [none,none,some 1] rfl (qS K (by rfl) jc (af (aH K (qv 1)) (af (aH K (qv 0)) aq))) (λ_ _ _ _=>(iM K (n:=2) rfl (cC (aU (i:=0) (show List.Nodup (["own","common","part"] :Da Str)from by decide +kernel)) (cC (aU (i:=1) (show List.Nodup (["own","common","part"] :Da Str)from by decide +kernel)) iL)))) (λ_ _ _ _=>(aL cS (aL qL (aH K (qv 2)) (qv 0)) (qv 1))) rfl (by rfl))))),?_⟩;have erl:pt.row.length=st.bq.length:=by rw[wf.rows pt gh,wf.eZ]
 have hcl:st.bq.length<=100:=by rw[wf.eZ];exact wf.j9
 refine⟨_,Z,qq.1,T.part,qq.2.1,_,_,Z,h1,X.cP,X.Ln,Z,_,Z,A.a,T.hold,A.dx,_,_,Z,h.oa,X.cH,X.zY,Z,_,_,_,_,_,_,Z,.lst (aG.of h2),.lst (aG.of h.iC),λAp Bi=>?_⟩;refine yf (K:=K) (n:=pt.row.length) [0,1] (λi out H1=>aJ H H1/\out=(List.zipWith (λr c=>pt.sc*r+c) (pt.row.take i) (st.bq.take i)).map V.int) (by decide) (by omega) ⟨aE Bi _,Z⟩ (λi out H1 hi _ hp=>⟨hp.1.seq (aG.of h2),hp.1.seq (aG.of h.iC),by rw[aF];exact hi,by rw[aF];omega⟩)
  (λout H1 _ hp=>⟨hp.1.seq (aG.of h2),hp.1.seq (aG.of h.iC),.inl (by rw[aF];exact aK _)⟩) ?_ ?_
 .rintro i x out H1 H2 hi gf ha ⟨g,e⟩ ⟨p,x1,y1,hp,rfl,rfl,e1,e2⟩;obtain⟨t,rfl,et⟩:=gi e1;obtain⟨c,rfl,ec⟩:=gi e2;have g1:=aE hp (.tup [.int t,.int c]);have s1:Jm.Sz 8000 pt.sc:=Jm.Sz.pU (by have:=wf.sW pt gh;have:=wf.gu;omega) (wf.sW pt gh).2 wf.big;have s2:Jm.Sz 8000 t:=Jm.Sz.pU (wf.oz pt gh t (bQ et)).1 (wf.oz pt gh t (bQ et)).2 wf.big;refine⟨p,_,Z,dm.of ah,Z,_,Z,qq.1,T.part,qq.2.1,_,_,Z,(g.trans g1) _ _ h1,X.cP,X.HW,Z,_,Z,_,_,Z,Z,oW s1 s2,_,Z,_,_,Z,Z,g1 _ _ ha,(g.trans g1).cW Bi _,?_⟩;rw[sX _ et ec,e,b8];rfl
 rintro out H1 gf ha ⟨g,e⟩;rw[c7,erl,c7]at e;exact q Ap H1 g Bi (by rw[ha,e];rfl)
abbrev vM:Stmt:=inClass (top 21) 22
abbrev nM:Da Str:=["self","part"]
abbrev Ot:Da Str:=nM
def ME:aM Ot nM (aD vM):=dP
theorem MF{T:TC}(F:gF K T.hold "stow" "Hold.stow" vM f fd)(X:Txt K T):Mn P w K mg base 1 T.hold "stow" nM (Ls T):=by
 refine F.oA ME λ_ _ _ _ H _ Q E hr h=>?_;obtain⟨⟨n,ρ,A,st,qq,p,rfl,hh,h1,h2,c1,c2,hn,wf',q⟩⟩:=h;have h:=hh.h;refine⟨_,(@cU.h _ _ _ (aj (uR (c9 hr) (aH K (qv 0)) (aH K (qv 1)) (qv 1) rfl)
  (ay (uR (c9 hr) (aH K (qv 0)) (aH K (qv 1)) xh rfl)))),?_⟩
 have Bc:∀x∈st.ai,x.nm≠p.nm:=λx hx e=>hn (by rw[<-e];exact hh.wf.sub x hx);have lab:(bY st.ai A.qs).length<sizeLine:=by rw[uN h.ql];exact dw hh.wf.kM
 refine⟨_,Z,_,Z,A.a,T.hold,A.dx,_,_,Z,h.oa,X.cH,X.hab,Z,_,Z,qq.1,T.part,qq.2.1,_,_,Z,h1,X.cP,X.Qa,Z,A.ab,_,Z,xF.k (k:=Sum.inr p.nm) h.dB lab,?_⟩;rw[mz _ (p8 Bc),<-Lp h.ql p qq];have k1:qq.1≠qq.2.2:=i8 h1 h2 (by intro z;cases z);have f1:Kp n ρ (cy (cy ρ qq.1 (n,20,p.nm)) qq.2.2 (n,21,p.nm)) H H (λ_=>true):=⟨λ_ _ e=>e,λb t x o _ c e=>⟨e,by rw[aP (λz=>by rw[z,c2]at c;cases c),aP (λz=>by rw[z,c1]at c;cases c)];exact c⟩⟩
 have hc:=h.same f1;have g1:Gh (cy (cy ρ qq.1 (n,20,p.nm)) qq.2.2 (n,21,p.nm)) H:=(hh.g.color h1 rfl).color h2 rfl;have fr1:Lr n qq.1 qq.2.2 ρ H (cy (cy ρ qq.1 (n,20,p.nm)) qq.2.2 (n,21,p.nm)) H:=λb o e k n1 n2=>⟨e,by rw[aP n2,aP n1]⟩
 have hs:=hc.Ll g1 (st.ai++[p]) (A.qs++[qq]) (by rw[cX,cX,h.ql];rfl) (λi x y ex ey=>by
  by_cases hi:i<st.ai.length
  .rw [uW hi]at ex;rw[uW (by rw[h.ql];exact hi)]at ey;exact hc.opt i x y ex ey
  .rw [uV (by omega)]at ex;rw[uV (by rw[h.ql];omega),h.ql]at ey;have e0:i-st.ai.length=0:=by
    rcases Nat.eq_zero_or_pos (i-st.ai.length)with z|z
    .exact z
    .rw [Ct (by show 1<=_;exact z)]at ex;cases ex
   rw[e0]at ex ey;cases ex;cases ey;exact⟨h1,h2,by rw[aP k1];exact bN,bN⟩)
 have g2:=g1.wr (a:=A.ab) (o:=.dK (bY (st.ai++[p]) (A.qs++[qq]))) rfl;have fr2:Fr n _ H _ (upd H A.ab (.dK (bY (st.ai++[p]) (A.qs++[qq])))):=Fr.write hc.ff;have Eg:upd H A.ab (.dK (bY (st.ai++[p]) (A.qs++[qq]))) qq.1=some (.ins T.part qq.2.1 (cT p qq.2.2)):=by rw[au (i8 h1 h.dB (by intro z;cases z))];exact h1
 refine⟨_,Z,A.a,T.hold,A.dx,_,_,Z,hs.oa,X.cH,X.hnm,Z,_,Z,qq.1,T.part,qq.2.1,_,_,Z,Eg,X.cP,X.Qa,Z,A.nm,_,Z,xF.k (k:=Sum.inr p.nm) hs.m_ (by unfold yg;rw[aF];exact dw hh.wf.yU),?_⟩;rw[mz _ (AD hn),show yg st.nms++[(Sum.inr p.nm,V.bl true)]=yg (st.nms++[p.nm])from by unfold yg;rw[b8];rfl];have hs2:=hs.abD g2 (st.nms++[p.nm]);exact q _ _ _ ⟨g2.wr rfl,hs2,wf'⟩ rfl (fr1.trans (fr2.trans (Fr.write hs.gH)))
abbrev vN:Stmt:=inClass (top 21) 1
abbrev lF:Da Str:=["self","owner"]
abbrev Ou:Da Str:=lF.append ["part"]
def Bd:aM Ou lF (aD vN):=dP
theorem MG{T:TC}(F:gF K T.hold "sign" "Hold.sign" vN f fd)(X:Txt K T)(pG:Dn P w K mg base 2 "is_name" tF yR)(cE:mg "len"=none):Mn P w K mg base 3 T.hold "sign" lF (BP T):=by
 refine F.oA Bd λ_ _ _ _ H _ Q E hr h=>?_;obtain⟨⟨n,ρ,A,st,o,rfl,hh,hx,hn,hl,q⟩⟩:=h;refine⟨_,(@cU.h _ _ _ (aj (cN (AR (vD (br pG hr (af (qv 1) aq)))) (ay iT) bJ)
  (aj (cN (yj (LW (c9 hr) (qv 1) (aH K (qv 0)))) (ay iT) bJ)
  (aj (uR (c9 hr) (aH K (qv 0)) (qv 1) (bV wQ (by rfl) cE gr (af (aH K (qv 0)) aq)) rfl)
  (aj (bO (kQ lJ nZ n5 ee (aH K (qv 0)) (af ak aq)))
  (aj (bO (kQ lJ nZ n5 ee (aH K (qv 0)) (af ak aq)))
  (ay (yl (fh fX rfl (BR (aH K (qv 0))) (aU (i:=2) Bd.nd) (ay (bO (kQ lJ nZ n5 ee (aH K (qv 2)) (af ak aq))))))))))))),?_⟩
 refine⟨_,Z,D6 (cs:=o.cps.toList) (yV hx) λH1 g1=>⟨_,Z,?_⟩⟩;rw[show isName o.cps.toList=true from hx];refine bw ?_;have f7:=hh.mono g1;have h1:=f7.h;have F1:Fr n ρ H ρ H1:=Fr.of_same g1;refine⟨_,Z,_,Z,A.a,T.hold,A.dx,_,_,Z,h1.oa,X.cH,X.hpl,Z,A.pl,_,Z,dS.k (k:=Sum.inr o) h1.gX,_,Z,?_⟩;rw[p6 hn];refine bw ?_;have Cq:=p7 st.own 0;refine⟨_,Z,A.a,T.hold,A.dx,_,_,Z,h1.oa,X.cH,X.hpl,Z,A.pl,_,Z,h1.gX,_,Z,A.a,T.hold,A.dx,_,_,Z,h1.oa,X.cH,X.hpl,Z,_,Z,A.pl,_,Z,xF.k (k:=Sum.inr o) h1.gX (dw (by rw[Cq];omega)),?_⟩;rw[mz _ (p6 hn),Cq,show fU 0 st.own++[(Sum.inr o,V.int (st.own.length:Int))]=fU 0 (st.own++[o])from by rw[Lo,BA]];have h2:=h1.abB f7.g (st.own++[o]);have G2:=f7.g.wr (a:=A.pl) (o:=.dK (fU 0 (st.own++[o]))) rfl;have F2:=F1.trans (Fr.write (o:=.dK (fU 0 (st.own++[o]))) h1.gv);generalize upd H1 A.pl (.dK (fU 0 (st.own++[o])))=H2 at *;have lcm:(st.bq.map V.int).length<sizeLine:=by rw[aF,hh.wf.eZ];exact dw (by omega)
 refine⟨_,Z,A.a,T.hold,A.dx,_,_,Z,h2.oa,X.cH,X.zY,Z,.inl ⟨Z,_,aG.of h2.iC⟩,A.cm,_,_,Z,Z,h2.iC,lcm,?_⟩;rw[show st.bq.map V.int++[V.int 0]=(st.bq++[0]).map V.int from by rw[b8];rfl];have h3:=h2.abE G2 (st.bq++[0]);have G3:=G2.wr (a:=A.cm) (o:=.lst ((st.bq++[0]).map V.int)) rfl;have F3:=F2.trans (Fr.write (o:=.lst ((st.bq++[0]).map V.int)) h2.gJ);generalize upd H2 A.cm (.lst ((st.bq++[0]).map V.int))=H3 at *;have lpu:(st.bU.map V.int).length<sizeLine:=by rw[aF,hh.wf.mD];exact dw (by omega)
 refine⟨_,Z,A.a,T.hold,A.dx,_,_,Z,h3.oa,X.cH,X.zZ,Z,.inl ⟨Z,_,aG.of h3.jC⟩,A.pu,_,_,Z,Z,h3.jC,lpu,?_⟩;rw[show st.bU.map V.int++[V.int 0]=(st.bU++[0]).map V.int from by rw[b8];rfl];have h4:=h3.abF G3 (st.bU++[0]);have G4:=G3.wr (a:=A.pu) (o:=.lst ((st.bU++[0]).map V.int)) rfl;have F4:=F3.trans (Fr.write (o:=.lst ((st.bU++[0]).map V.int)) h3.cpu);generalize upd H3 A.pu (.lst ((st.bU++[0]).map V.int))=H4 at *;clear h1 h2 h3 G2 G3 F2 F3 f7;have hpl:=hh.wf.kM;refine⟨A.ab,_,h4.dB,λob=>?_⟩;refine⟨_,Z,A.a,T.hold,A.dx,_,_,Z,eT h4.dB h4.oa (λk z=>by cases z),X.cH,X.hab,Z,A.ab,ob,_,Z,ah,?_⟩;have el:=uN h4.ql;have el0:(bY st.ai A.qs).length=st.ai.length:=el;refine vf (n:=st.ai.length) (λi σ H'=>(∃s2,σ=[some (.ref A.a),some (.str o),s2])/\oX H' A.ab ob (bY st.ai A.qs)/\∃H5,H'=upd H5 A.ab (.eX ob (.dK (bY st.ai A.qs)))/\Gh ρ H5/\Fr n ρ H ρ H5/\
   aI T n ρ A H5 { st with own:=st.own++[o],bq:=st.bq++[0],bU:=st.bU++[0],ai:=(st.ai.take i).map (λp=>{ p with row:=p.row++[0] })++st.ai.drop i })
  ⟨⟨_,Z⟩,ah,H4,Z,G4,F4,h4⟩ (λi σ H' hi hp=>⟨hp.2.1,by rw[el0];exact hi⟩) (λσ H' hp=>⟨hp.2.1,by rw[el0];exact aK _⟩) ?_ ?_
 .rintro i x σ H' z6 hi ⟨⟨s2,rfl⟩,hz,H5,rfl,G5,F5,h5⟩ ⟨rfl,kv,hkv,rfl⟩;have ep:=bu hi;have Yo:=Lx (λp:Pt=>{ p with row:=p.row++[0] }) ep;obtain⟨qq,eq,k1,k2,k3,k4⟩:=h5.find Yo;rw[uM ep eq]at hkv;cases hkv;have Yp:=qP (λp:Pt=>{ p with row:=p.row++[0] }) (λp:Pt=>p.nm) (λ_=>rfl) st.ai i;have nd5:(((st.ai.take i).map (λp:Pt=>{ p with row:=p.row++[0] })++st.ai.drop i).map (λp:Pt=>p.nm)).Nodup:=by rw[Yp];exact hh.wf.dN
  have z1:=eT (o:=ob) h5.dB k1 (λk z=>by cases z);have z2:=eT (o:=ob) h5.dB k2 (λk z=>by cases z);rw[show bY ({ st with own:=st.own++[o],bq:=st.bq++[0],bU:=st.bU++[0],ai:=(st.ai.take i).map (λp:Pt=>{ p with row:=p.row++[0] })++st.ai.drop i }:HS).ai A.qs=bY st.ai A.qs from o6 Yp]at z1 z2;have hrl:((st.ai[i]).row.map V.int).length<sizeLine:=by rw[aF,hh.wf.rows _ (Kd hi)];exact dw (by omega)
  refine⟨_,Z,qq.1,T.part,qq.2.1,_,_,Z,z1,X.cP,X.Ln,Z,.inl ⟨Z,_,aG.of z2⟩,qq.2.2,_,_,Z,Z,z2,hrl,?_⟩;have na:A.ab≠qq.2.2:=(i8 k2 h5.dB (by intro z;cases z)).symm;rw[show(st.ai[i]).row.map V.int++[V.int 0]=((st.ai[i]).row++[0]).map V.int from by rw[b8];rfl];have h6:=h5.ZH G5 ((st.ai[i]).row++[0]) Yo eq nd5;rw[show({ st with own:=st.own++[o],bq:=st.bq++[0],bU:=st.bU++[0],ai:=(st.ai.take i).map (λp:Pt=>{ p with row:=p.row++[0] })++st.ai.drop i }:HS).ai.set i { st.ai[i]with row:=(st.ai[i]).row++[0] }=_ from Ly (λp:Pt=>{ p with row:=p.row++[0] }) ep]at h6;exact⟨⟨_,Z⟩,(au na).trans hz,_,iS na,G5.wr rfl,F5.trans (Fr.write k4),h6⟩
 .rintro σ H' ⟨_,hz,H5,rfl,G5,F5,h5⟩;have Yp:=qP (λp:Pt=>{ p with row:=p.row++[0] }) (λp:Pt=>p.nm) (λ_=>rfl) st.ai st.ai.length;have e5:bY ({ st with own:=st.own++[o],bq:=st.bq++[0],bU:=st.bU++[0],ai:=(st.ai.take st.ai.length).map (λp:Pt=>{ p with row:=p.row++[0] })++st.ai.drop st.ai.length }:HS).ai A.qs=bY st.ai A.qs:=o6 Yp;have h5':=h5.dB;rw[e5]at h5';refine⟨hz,?_⟩;rw[lE,qO h5'];have es:({ st with own:=st.own++[o],bq:=st.bq++[0],bU:=st.bU++[0],ai:=(st.ai.take st.ai.length).map (λp:Pt=>{ p with row:=p.row++[0] })++st.ai.drop st.ai.length }:HS)=aV st o:=by unfold aV;rw[c7,List.drop_length,Bs]
  rw[es]at h5;exact q ρ A H5 ⟨G5,h5,FQ hh.wf hn hl⟩ rfl F5
abbrev vO:Stmt:=inClass (top 21) 2
abbrev nN:Da Str:=["self","part","owner","worth","weight"]
abbrev Ov:Da Str:=nN.append ["place","tops"]
def vP:aM Ov nN (aD vO):=dP
theorem Jq{T:TC}{e:Ec}(F:gF K T.hold "load" "Hold.load" vO f fd)(X:Txt K T)(j6:Mx P w K mg base 3 T.hold "check_new" jx (xK T e))(cQ:Mn P w K mg base 1 T.hold "place_of" fZ (BN T))(fR:Mn P w K mg base 1 T.hold "beyond_common" gU (R5 T K))(lG:Mn P w K mg base 1 T.hold "stow" nM (Ls T))(qj:Cn P w K mg base 1 "Part" T.part ["self","name","owner","worth","weight","scale","row"] (BL T K))(cE:mg "len"=none)(vQ:qb K e.LR)(xN:mg "BadNumber"=some (.ref e.LR)):Mx P w K mg base 4 T.hold "load" nN (Ge T e):=by
 refine F.oAX vP λ_ _ _ _ H _ Q E hr h=>?_
 obtain⟨⟨n,ρ,A,st,x,o,wo,we,rfl,hh,hx,ho,h4,h5,h6,h7,dq⟩⟩:=h
 refine⟨_,(@cU.h _ _ _ (aj (bO (ZW j6 hr (qv 0) (af (qv 1) aq)))
  (aj (aR (i:=5) vP.nd (bZ cQ hr (qv 0) (af (qv 2) aq)))
  (aj (cN (ki (bW.pt (BS (aQ rR (qv 3) ak (a_ _)) (yk (aQ rR (qv 4) ak (a_ _)))))) (ay (CT vQ (by rfl) xN)) bJ)
  (aj (aR (i:=6) vP.nd (aL Tw (iE (af ak aq)) (bV wQ (by rfl) cE gr (af (aH K (qv 0)) aq))))
  (aj (nJ (aH K (aH K (qv 0))) (nK (qv 6) (qv 5) set_list))
  (ay (bO (bZ lG hr (qv 0) (af (Sg qj hr (af (qv 1) (af (qv 2) (af (qv 3) (af (qv 4) (af ak (af (bZ fR hr (qv 0) (af (qv 6) aq)) aq))))))) aq)))))))))),?_⟩
 refine⟨_,Z,A.a,A.dx,_,Z,hh.h.oa,Z,_,Z,⟨⟨n,ρ,A,st,x,Z,hh.h,hx,λi hi=>dq.no i hi,λhnew H1 g1=>?_⟩⟩⟩
 have q:=dq.ok hnew
 have hn:x∉st.nms:=(L3 hnew).2
 have f7:=hh.mono g1
 have F1:Fr n ρ H ρ H1:=Fr.of_same g1
 clear hh
 refine⟨_,Z,A.a,A.dx,_,Z,f7.h.oa,Z,_,Z,⟨⟨n,ρ,A,st,o,Z,f7.h,ho,?_⟩⟩⟩
 refine⟨false,⟨_,Z,_,_,Z,Z,_,Z,dF (λc=>absurd (eE c) (by omega)) λ_=>⟨_,Z,_,_,Z,Z,_,Z,c8 (by omega),Z⟩⟩,bw ?_⟩
 refine⟨(iN 1),λp0 hp0=>?_⟩
 have g2:=aE hp0 (.lst [.int 0])
 have lW:=f7.mono g2
 have F2:=F1.trans (Fr.of_same (ρ:=ρ) g2)
 have Xl:upd H1 p0 (.lst [.int 0]) p0=some (.lst [.int 0]):=ah
 generalize upd H1 p0 (.lst [.int 0])=H2 at *
 clear f7 F1
 have Cq:=p7 st.own 0
 have gf:=lW.wf.j9
 refine⟨_,Z,A.a,T.hold,A.dx,_,_,Z,lW.h.oa,X.cH,X.hpl,Z,A.pl,_,Z,lW.h.gX,p0,_,_,Z,Z,Xl,by omega,by rw[Cq];omega,by rw[Cq];show 1*_<=_;rw[uZ,Nat.one_mul];exact small (by omega),λp1 hp1=>?_⟩
 rw[Cq,uZ,show(List.replicate st.own.length [V.int 0]).flatten=(List.replicate st.own.length (0:Int)).map V.int from by rw[List.map_replicate,List.flatten_replicate_singleton]]
 have g3:=aE hp1 (.lst ((List.replicate st.own.length (0:Int)).map V.int))
 have lX:=lW.mono g3
 have F3:=F2.trans (Fr.of_same (ρ:=ρ) g3)
 have n1:H p1=none:=(g1.trans g2).free hp1
 have c1:ρ p1=none:=lW.g.none hp1
 have zN:upd H2 p1 (.lst ((List.replicate st.own.length (0:Int)).map V.int)) p1=_:=ah
 generalize upd H2 p1 (.lst ((List.replicate st.own.length (0:Int)).map V.int))=H3 at *
 have hi:=List.idxOf_lt_length_iff.mpr ho
 refine⟨_,Z,A.a,T.hold,A.dx,_,_,Z,lX.h.oa,X.cH,X.wV,Z,A.bt,T.bot,A.db,_,_,Z,lX.h.jd,X.cB,X.HX,Z,_,Z,_,Z,p1,_,_,st.own.idxOf o,Z,Z,zN,by rw[aF,mh];exact yd hi,?_⟩
 rw[show((List.replicate st.own.length (0:Int)).map V.int).set (st.own.idxOf o) (V.int st.prod)=((List.replicate st.own.length (0:Int)).set (st.own.idxOf o) st.prod).map V.int from by rw[uE]]
 have nc:=lX.Eh (o:=.lst (((List.replicate st.own.length (0:Int)).set (st.own.idxOf o) st.prod).map V.int)) c1 zN rfl rfl
 have F4:=F3.new (o:=.lst (((List.replicate st.own.length (0:Int)).set (st.own.idxOf o) st.prod).map V.int)) n1
 have Gr:upd H3 p1 (.lst (((List.replicate st.own.length (0:Int)).set (st.own.idxOf o) st.prod).map V.int)) p1=_:=ah
 have s4:aJ H (upd H3 p1 (.lst (((List.replicate st.own.length (0:Int)).set (st.own.idxOf o) st.prod).map V.int))):=((g1.trans g2).trans g3).cW n1 _
 generalize upd H3 p1 (.lst (((List.replicate st.own.length (0:Int)).set (st.own.idxOf o) st.prod).map V.int))=H4 at *
 clear lW lX F2 F3
 refine⟨_,Z,A.a,A.dx,_,Z,nc.h.oa,Z,_,Z,_,Z,_,Z,_,Z,_,Z,A.a,A.dx,_,Z,nc.h.oa,Z,_,Z,⟨⟨n,ρ,A,st,p1,_,Z,nc.h,aG.of Gr,by rw[gq,mh,nc.wf.eZ],by rw[gq,mh];omega,λr H5 g5 hr5 Xm=>?_⟩⟩⟩
 intro y dy hy hdy hyd
 have Be:upd (upd H5 dy (.own y)) y (.ins T.part dy []) r=some (.lst ((j_ st ((List.replicate st.own.length 0).set (st.own.idxOf o) st.prod)).map V.int)):=by rw[au (aA Xm hy),au (aA Xm hdy)];exact Xm
 refine⟨⟨y,dy,r,⟨x,o,wo,we,1,j_ st ((List.replicate st.own.length 0).set (st.own.idxOf o) st.prod)⟩,Z,ah,aG.of Be,λrr H6 hrr k6 Bf Xn=>⟨Z,?_⟩⟩⟩
 have MH:H5 rr=none:=by
  have e1:rr≠y:=λe=>by rw[e,ah]at hrr;cases hrr
  have e2:rr≠dy:=λe=>by rw[e,au hyd,ah]at hrr;cases hrr
  rw[au e1,au e2]at hrr;exact hrr
 have g6:aJ H5 H6:=λb u e=>k6 b u (by rw[au (aA e hy),au (aA e hdy)];exact e) (aA e hy)
 have pH:=nc.mono g5
 have tG:=pH.mono g6
 have F6:=F4.trans (Fr.of_same (ρ:=ρ) (g5.trans g6))
 exact⟨⟨n,ρ,A,st,(y,dy,rr),_,Z,tG,Bf,Xn,pH.g.none hy,pH.g.none MH,hn,Qf nc.wf hn h6 h7 ho h4 h5,λρ' A' H' a1 a2 a3=>q ρ' A' H' a1 a2 (a3.fr F6 ((s4.trans g5).free hy) ((s4.trans g5).free MH))⟩⟩
abbrev vR:Stmt:=inClass (top 21) 0
abbrev xO:Da Str:=["self"]
abbrev Ow:Da Str:=xO
def MI:aM Ow xO (aD vR):=dP
def acN{p:Addr}{H0 H:Hp}{ρ0 ρ:bR}{l:Da (Addr×HO×lS)}{C dx:Addr}{fs:Da (Str×V)}(s:Str)(v:V)(M:g_ p H0 ρ0 H ρ l)(_hp:H p=some (.ins C dx fs)):∃H',upd H p (.ins C dx (gY s v fs))=H'/\g_ p H0 ρ0 H' ρ l/\H' p=some (.ins C dx (gY s v fs)):=⟨_,Z,M.wr rfl,ah⟩
def QN{p x:Addr}{H0 H:Hp}{ρ0 ρ:bR}{l:Da (Addr×HO×lS)}{C dx:Addr}{fs:Da (Str×V)}(s:Str)(o:HO)(c:lS)(M:g_ p H0 ρ0 H ρ l)(hp:H p=some (.ins C dx fs))(hx:H x=none)(t:isTup o=false):∃H',upd (upd H x o) p (.ins C dx (gY s (.ref x) fs))=H'/\g_ p H0 ρ0 H' (cy ρ x c) ((x,o,c)::l)/\H' p=some (.ins C dx (gY s (.ref x) fs)):=acN s _ (M.new hx t) (by rw[au (aA hp hx)];exact hp)
def MJ{T:TC}(F:HV K mg "Hold" T.hold "Hold.__init__" vR f fd)(X:Txt K T)(q_:Cn P w K mg base 1 "Bottom" T.bot ["self"] (FL T)):Cn P w K mg base 3 "Hold" T.hold xO (FN T):=by
 refine F.oA MI λ_ _ _ _ H _ Q E hr h=>?_;obtain⟨⟨p,dx,ρ,n,rfl,hp,g,hρ,q⟩⟩:=h;refine⟨_,(@cU.h _ _ _ (aj (cK K (qv 0) qV)
  (aj (cK K (qv 0) qV)
  (aj (cK K (qv 0) (iE aq))
  (aj (cK K (qv 0) qV)
  (aj (cK K (qv 0) (Es q_ hr))
  (aj (cK K (qv 0) (iE aq))
  (ay (cK K (qv 0) (iE aq)))))))))),?_⟩
 have M0:g_ p H ρ H ρ [] :=⟨(λ_ m=>absurd m (by simp)),λb o e _=>⟨e,Z⟩,g,_,hp⟩
 intro pl hpl;refine⟨_,Z,p,T.hold,dx,_,Z,by rw[au (aA hp hpl)];exact hp,X.cH,X.hpl,by show 0<1000;decide,?_⟩;obtain⟨H2,e,M2,hp2⟩:=QN "places" (.dK []) (n,1,⟨#[]⟩) M0 hp hpl rfl;rw[e];intro ab hab;refine⟨_,Z,p,T.hold,dx,_,Z,by rw[au (aA hp2 hab)];exact hp2,X.cH,X.hab,by show 1<1000;decide,?_⟩;obtain⟨H4,e,M4,hp4⟩:=QN "aboard" (.dK []) (n,2,⟨#[]⟩) M2 hp2 hab rfl;rw[e];refine⟨(iN 0),λas has=>?_⟩;refine⟨_,Z,p,T.hold,dx,_,Z,by rw[au (aA hp4 has)];exact hp4,X.cH,X.has,by show 2<1000;decide,?_⟩;obtain⟨H6,e,M6,Va⟩:=QN "ashore" (.lst []) (n,3,⟨#[]⟩) M4 hp4 has rfl;rw[e];intro nm hnm;refine⟨_,Z,p,T.hold,dx,_,Z,by rw[au (aA Va hnm)];exact Va,X.cH,X.hnm,by show 3<1000;decide,?_⟩;obtain⟨H8,e,M8,hp8⟩:=QN "names" (.dK []) (n,4,⟨#[]⟩) M6 Va hnm rfl;rw[e];intro bt db wV hdb hne;refine⟨⟨bt,db,Z,ah,λsp kn H9 sQ hkn hsk k9 EI hs9 hk9=>⟨Z,?_⟩⟩⟩;have s9:aJ H8 H9:=λb o e=>k9 b o (by rw[au (aA e wV),au (aA e hdb)];exact e) (aA e wV);have fr:∀{c:Addr},upd (upd H8 db (.own bt)) bt (.ins T.bot db []) c=none->H8 c=none:=λ{c} e=>by
  have e1:c≠bt:=λz=>by rw[z,ah]at e;cases e
  have e2:c≠db:=λz=>by rw[z,au hne,ah]at e;cases e
  rw[au e1,au e2]at e;exact e
 have acS:=fr sQ;have acT:=fr hkn;have M9:=M8.same s9;have M10:=M9.add (c:=(n,5,⟨#[]⟩)) EI rfl M8 wV (λe he=>aA (M8.m e he).1 wV);have M11:=M10.add (c:=(n,8,⟨#[]⟩)) hs9 rfl M8 acS (λe he=>by
  rcases b_.mp he with rfl|he
  .exact i8 EI hs9 (by intro z;cases z)
  .exact aA (M8.m e he).1 acS)
 have M12:=M11.add (c:=(n,9,⟨#[]⟩)) hk9 rfl M8 acT (λe he=>by
  rcases b_.mp he with rfl|he
  .exact i8 hs9 hk9 (by intro z;cases z)
  rcases b_.mp he with rfl|he
  .exact i8 EI hk9 (by intro z;cases z)
  .exact aA (M8.m e he).1 acT)
 have hp9:=s9 _ _ hp8;refine⟨_,Z,p,T.hold,dx,_,Z,hp9,X.cH,X.wV,by show 4<1000;decide,?_⟩;obtain⟨H13,e,M13,zN⟩:=acN "bottom" (.ref bt) M12 hp9;rw[e];refine⟨(iN 0),λcm zY=>?_⟩;refine⟨_,Z,p,T.hold,dx,_,Z,by rw[au (aA zN zY)];exact zN,X.cH,X.zY,by show 5<1000;decide,?_⟩;obtain⟨H15,e,M15,Gs⟩:=QN "common" (.lst []) (n,6,⟨#[]⟩) M13 zN zY rfl;rw[e];refine⟨(iN 0),λpu zZ=>?_⟩;refine⟨_,Z,p,T.hold,dx,_,Z,by rw[au (aA Gs zZ)];exact Gs,X.cH,X.zZ,by show 6<1000;decide,?_⟩;obtain⟨Vb,e,M17,Sy⟩:=QN "purses" (.lst []) (n,7,⟨#[]⟩) M15 Gs zZ rfl;rw[e];have m:=M17.m;have Bc:∀{a:Addr}{o:HO}{c:lS}{ρ2:bR},(Vb a=some o/\ρ2 a=some c/\a≠p)->Vb a=some o/\cy ρ2 p (n,0,⟨#[]⟩) a=some c:=λh=>⟨h.1,by rw[aP h.2.2];exact h.2.1⟩
 have a1:=Bc (m _ (.head _));have a2:=Bc (m _ (.tail _ (.head _)));have a3:=Bc (m _ (.tail _ (.tail _ (.head _))));have a4:=Bc (m _ (.tail _ (.tail _ (.tail _ (.head _)))));have a5:=Bc (m _ (.tail _ (.tail _ (.tail _ (.tail _ (.head _))))));have a6:=Bc (m _ (.tail _ (.tail _ (.tail _ (.tail _ (.tail _ (.head _)))))));have a7:=Bc (m _ (.tail _ (.tail _ (.tail _ (.tail _ (.tail _ (.tail _ (.head _))))))));have a8:=Bc (m _ (.tail _ (.tail _ (.tail _ (.tail _ (.tail _ (.tail _ (.tail _ (.head _)))))))));have a9:=Bc (m _ (.tail _ (.tail _ (.tail _ (.tail _ (.tail _ (.tail _ (.tail _ (.tail _ (.head _))))))))));refine q (cy _ p (n,0,⟨#[]⟩)) ⟨p,dx,pl,ab,as,nm,bt,db,cm,pu,sp,kn,[]⟩ Vb rfl ⟨M17.g.color Sy rfl,⟨Sy,bN,a9.1,a9.2,a8.1,a8.2,⟨[],a7.1,.nil⟩,a7.2,a6.1,a6.2,a5.1,a5.2,a2.1,a2.2,a1.1,a1.2,a4.1,a4.2,⟨[],a3.1,(λx hx=>absurd hx (by simp)),aK _,rM⟩,a3.2,Z,λi x y ex=>by simp[hs0]at ex⟩,wf0⟩ (λb o e hb=>?_);obtain⟨x,y⟩:=M17.k b o e hb;exact⟨x,by rw[aP hb];exact y⟩
abbrev oO:Stmt:=inClass (top 21) 27
abbrev lY:Da Str:=["self","amounts"]
abbrev EJ:Da Str:=lY.append ["lost","sums","name","amount","part","many"]
def fF:aM EJ lY (aD oO):=dP
theorem Df{T:TC}(F:gF K T.hold "given_up" "Hold.given_up" oO f fd)(X:Txt K T)(kR:mg "sum"=none)(jc:mg "zip"=none):Mn P w K mg base 1 T.hold "given_up" lY (Qh T):=by
 refine F.oA fF λ_ _ _ _ H _ Q E hr h=>?_;obtain⟨⟨n,ρ,A,st,d,rs,rfl,h,wf,hd,cd,hle,qX,q⟩⟩:=h;refine⟨_,(@cU.h _ _ _ (aj (aR (i:=2) fF.nd (bV (HU rfl) (by rfl) kR KC (af (FZ (qv 1)) aq)))
  (aj (pA (i:=3) ["common","lost"] [none,some 2] fF.nd rfl rfl rfl (dZ K (aH K (qv 0))) (λ_ _ _ _=>(aU (i:=0) (show List.Nodup (["common","lost"] :Da Str)from by decide +kernel))) (λ_ _ _ _=>(aL qL (qv 1) (qv 0))) rfl (by rfl) (by rfl))
  (aj (yl (fh fX rfl (zu (qv 1)) (iM K (n:=2) rfl (cC (aU (i:=4) fF.nd) (cC (aU (i:=5) fF.nd) iL))) (aj (aR (i:=6) fF.nd (di (c9 hr) (aH K (qv 0)) (qv 4)))
  (aj (aR (i:=7) fF.nd (aL qL (qv 5) (aH K (qv 6))))
  (ay (pA (i:=3) ["old","own","many"] [none,none,some 7] fF.nd rfl rfl rfl (qS K (by rfl) jc (af (qv 3) (af (aH K (qv 6)) aq))) (λ_ _ _ _=>(iM K (n:=2) rfl (cC (aU (i:=0) (show List.Nodup (["old","own","many"] :Da Str)from by decide +kernel)) (cC (aU (i:=1) (show List.Nodup (["old","own","many"] :Da Str)from by decide +kernel)) iL)))) (λ_ _ _ _=>(aL cS (qv 0) (aL qL (qv 2) (qv 1)))) rfl (by rfl) (by rfl)))))))
  (ay (bh (qv 3))))))),?_⟩
 have hcl:st.bq.length<=100:=by rw[wf.eZ];exact wf.j9
 have zl:Jm.Sz 1100 (bK rs):=by have:=Jm.TN (n:=60) (ws:=rs.map (·.2)) (λm hm=>by obtain⟨r,hr,rfl⟩:=b7.mp hm;exact(qX r hr).1);exact this.mono (by rw[aF];omega)
 have zc:∀c∈st.bq,Jm.Sz 8000 c:=λc hc=>Jm.Sz.pU (by have:=wf.oq c hc;have:=wf.gu;omega) (wf.oq c hc).2 wf.big;refine⟨_,Z,d,_,Z,.inl hd,λv hv=>⟨v,d,_,rs.map (·.2),Z,ah,.inl (by rw[au (aA hd hv)];exact hd),by unfold iD;rw[fk,fk];rfl,?_⟩⟩;have g1:=aE hv (lR v d);have hd1:=g1 _ _ hd;have h1:=h.mono g1;generalize upd H v (lR v d)=H1 at *;refine⟨_,Z,A.a,T.hold,A.dx,_,_,Z,h1.oa,X.cH,X.zY,Z,A.cm,Z,⟨_,aG.of h1.iC⟩,λl0 tH=>?_⟩;refine k7 (J:=zS K A.cm) (n:=(st.bq.map V.int).length) 0 (λi o H'=>aJ H1 H'/\o=((st.bq.take i).map λc=>bK rs*c).map V.int) (by rw[aF];omega) ⟨aE tH _,Z⟩ (λi o H' hi _ hp=>⟨_,_,aG.of (hp.1 _ _ h1.iC),bu hi⟩) (λo H' _ hp=>⟨_,aG.of (hp.1 _ _ h1.iC),aK _⟩) ?_ ?_
 .rintro i y o H2 H3 hi gf ha ⟨g,e⟩ ⟨rfl,hy⟩;obtain⟨c,rfl,ec⟩:=gi (hy _ (aG.of (g _ _ h1.iC)));refine⟨_,Z,_,Z,_,_,Z,Z,oW zl (zc c (bQ ec)),ha,g.cW tH _,?_⟩;subst e;rw[take_snoc ec,b8,b8];rfl
 rintro o H2 gf ha ⟨g2,e⟩;rw[aF,c7]at e;subst e;have MK:=g1.trans g2;have hd2:=g2 _ _ hd1;have h2:=h1.mono g2;have hn0:H l0=none:=g1.free tH;refine⟨d,_,hd2,λob=>⟨_,Z,d,ob,_,Z,ah,?_⟩⟩;have al:=yX rs;refine vf (n:=(iD rs).length) (λi σ H'=>aJ (upd H2 d (.eX ob (.dK (iD rs)))) H'/\∃l s4 s5 s6 s7,σ=[some (.ref A.a),some (.ref d),some (.int (bK rs)),some (.ref l),s4,s5,s6,s7]/\H l=none/\H' l=some (.lst (((rs.take i).foldl (fC st) (st.bq.map λc=>bK rs*c)).map V.int))/\((rs.take i).foldl (fC st) (st.bq.map λc=>bK rs*c)).length=st.bq.length)
  ⟨aJ.refl _,l0,_,_,_,_,Z,hn0,eT hd2 ha (λk z=>by cases z),by rw[List.take_zero,List.foldl_nil,aF]⟩ (λi σ H' hi hp=>⟨hp.1 _ _ ah,hi⟩) (λσ H' hp=>⟨hp.1 _ _ ah,aK _⟩) ?_ ?_
 .rintro i x σ H3 H4 hi ⟨g,l,s4,s5,s6,s7,rfl,D0,hl,hsl⟩ ⟨pp,kv,hpp,hkv,rfl,rfl⟩;unfold iD at hkv;rw[cu]at hkv;obtain⟨r,er,rfl⟩:=kH.mp hkv;have hrm:=bQ er;obtain⟨zr,p,gh,EK⟩:=qX r hrm;obtain⟨ip,IP,Vc⟩:=uX gh;have ep:st.ai[ip]?=some p:=by rw[bu IP,Vc]
  have epg:bP st r.1=p:=by rw[<-EK];exact FU wf.dN ep
  have g4:=aE hpp (.tup [.str r.1,.int r.2]);have gg:=g.trans g4;have h2z:∀{b:Addr}{u:HO},H2 b=some u->(∀k,u ≠ .dK k)->upd H3 pp (.tup [.str r.1,.int r.2]) b=some u:=λe k=>gg _ _ (eT hd2 e k);have nab:A.ab≠d:=(Ck cd h.ff).symm;obtain⟨qq,eq,k1,k2,_,_⟩:=h2.find ep;have hab:upd H3 pp (.tup [.str r.1,.int r.2]) A.ab=some (.dK (bY st.ai A.qs)):=gg _ _ (by rw[au nab];exact h2.dB);have hv:=uO wf.dN ep eq;have hq1:=h2z k1 (λk z=>by cases z);have hq2:=h2z k2 (λk z=>by cases z);have ML:upd H3 pp (.tup [.str r.1,.int r.2]) pp=some (.tup [.str r.1,.int r.2]):=ah;have IQ:=g4 _ _ hl;have hno:∀{b:Addr},upd H3 pp (.tup [.str r.1,.int r.2]) b=none->H b=none:=λ{b} e=>by have e1:=jr hd2 (gg.free e);exact MK.free e1
  have EL:upd H3 pp (.tup [.str r.1,.int r.2]) A.a=some (.ins T.hold A.dx (dW A)):=h2z h2.oa (λk z=>by cases z);show Af K 2 _ _ _ (upd H3 pp (.tup [.str r.1,.int r.2])) _;generalize upd H3 pp (.tup [.str r.1,.int r.2])=H4 at *;refine⟨pp,_,Z,dm.of ML,Z,_,_,Z,_,_,Z,Z,?_⟩;refine⟨_,Z,A.a,T.hold,A.dx,_,_,Z,EL,X.cH,X.hab,Z,_,Z,A.ab,_,Z,by rw[<-EK];exact hv▸dS.k (k:=Sum.inr p.nm) hab,?_⟩;have zs:Jm.Sz 8000 p.sc:=Jm.Sz.pU (by have:=wf.sW p gh;have:=wf.gu;omega) (wf.sW p gh).2 wf.big;refine⟨_,Z,_,Z,qq.1,T.part,qq.2.1,_,_,Z,hq1,X.cP,X.HW,Z,_,_,Z,Z,oW zr zs,?_⟩;have erl:p.row.length=st.bq.length:=by rw[wf.rows p gh,wf.eZ]
  generalize eS:(rs.take i).foldl (fC st) (st.bq.map λc=>bK rs*c)=S at *;refine⟨_,Z,_,Z,qq.1,T.part,qq.2.1,_,_,Z,hq1,X.cP,X.Ln,Z,_,_,_,_,_,_,Z,.lst (aG.of IQ),.lst (aG.of hq2),λAp Bi=>?_⟩;refine yf (K:=K) (n:=S.length) [0,1] (λj out H5=>aJ H4 H5/\out=(List.zipWith (λold own=>old+(r.2*p.sc)*own) (S.take j) (p.row.take j)).map V.int) (by decide) (by omega) ⟨aE Bi _,Z⟩ (λj out H5 hj _ hp=>⟨aG.of (hp.1 _ _ IQ),aG.of (hp.1 _ _ hq2),by rw[aF];exact hj,by rw[aF];omega⟩)
   (λout H5 _ hp=>⟨aG.of (hp.1 _ _ IQ),aG.of (hp.1 _ _ hq2),.inl (by rw[aF];exact aK _)⟩) ?_ ?_
  .rintro j x out H5 H6 hj Gu ha2 ⟨g5,e5⟩ ⟨p2,x1,y1,hp2,rfl,rfl,e1,e2⟩;obtain⟨t,rfl,et⟩:=gi e1;obtain⟨c,rfl,ec⟩:=gi e2;have g6:=aE hp2 (.tup [.int t,.int c]);have zw:Jm.Sz 8000 c:=Jm.Sz.pU (wf.oz p gh c (bQ ec)).1 (wf.oz p gh c (bQ ec)).2 wf.big;refine⟨p2,_,Z,dm.of ah,Z,_,Z,_,Z,_,Z,_,_,Z,Z,oW (zr.mul zs) zw,_,_,Z,Z,g6 _ _ ha2,(g5.trans g6).cW Bi _,?_⟩;rw[sX _ et ec,e5,b8];rfl
  rintro out H5 Gu ha2 ⟨g5,e5⟩;rw[c7,hsl,<-erl,c7]at e5;have eN:(rs.take (i+1)).foldl (fC st) (st.bq.map λc=>bK rs*c)=List.zipWith (λold own=>old+(r.2*p.sc)*own) S p.row:=by rw[take_snoc er,xD,eS];show fC st S r=_;unfold fC;rw[epg]
  refine⟨gg.trans g5,Ap,_,_,_,_,Z,hno Bi,?_,?_⟩
  .rw [eN,ha2,e5]
  .rw [eN,jE];omega
 rintro σ H3 ⟨g,l,s4,s5,s6,s7,rfl,D0,hl,hsl⟩;rw[al,c7]at hl;refine⟨g _ _ ah,_,Z,?_⟩;have nl:l≠d:=λe=>by rw[e,hd]at D0;cases D0
 exact q l _ (MK.trans (qN hd2 g)) D0 (by rw[au nl];exact hl)
abbrev rj:Stmt:=inClass (top 21) 23
abbrev lg:Da Str:=["self","name","amount"]
abbrev Jr:Da Str:=lg.append ["part"]
def yq:aM Jr lg (aD rj):=dP
theorem Gv{T:TC}(F:gF K T.hold "lessen" "Hold.lessen" rj f fd)(X:Txt K T):Mn P w K mg base 1 T.hold "lessen" lg (LG T):=by
 refine F.oA yq λ_ _ _ _ H _ Q E hr h=>?_;obtain⟨⟨n,ρ,A,st,r,rfl,hh,⟨p,gh,EK,hle⟩,wf',q⟩⟩:=h;have h:=hh.h;have nd:=hh.wf.dN;refine⟨_,(@cU.h _ _ _ (aj (aR (i:=3) yq.nd (di (c9 hr) (aH K (qv 0)) (qv 1)))
  (aj (qd K (qv 3) (qv 2) KU)
  (ay (kj (aQ eF (aH K (qv 3)) ak (a_ _)) (ay (Qp (aH K (qv 0)) (qv 1))) bJ))))),?_⟩
 obtain⟨ip,IP,Vc⟩:=uX gh;have ep:st.ai[ip]?=some p:=by rw[bu IP,Vc]
 obtain⟨qq,eq,k1,k2,k3,k4⟩:=h.find ep;have hv:=uO nd ep eq;refine⟨_,Z,A.a,T.hold,A.dx,_,_,Z,h.oa,X.cH,X.hab,Z,_,Z,A.ab,_,Z,by rw[<-EK];exact hv▸dS.k (k:=Sum.inr p.nm) h.dB,?_⟩;refine⟨_,Z,qq.1,T.part,qq.2.1,_,_,Z,k1,X.cP,X.vh,Z,_,Z,_,_,Z,Z,qq.2.1,_,k1,by show 6<1000;decide,?_⟩;have h1:=h.jq (p1:={ p with wo:=p.wo-r.2 }) hh.g ep eq rfl rfl nd;have g1:=hh.g.wr (a:=qq.1) (o:=.ins T.part qq.2.1 (cT { p with wo:=p.wo-r.2 } qq.2.2)) rfl;have F1:Fr n ρ H ρ (upd H qq.1 (.ins T.part qq.2.1 (cT { p with wo:=p.wo-r.2 } qq.2.2))):=Fr.write k3;show abl _ _ _ _ _ (upd H qq.1 (.ins T.part qq.2.1 (cT { p with wo:=p.wo-r.2 } qq.2.2)));have QO:upd H qq.1 (.ins T.part qq.2.1 (cT { p with wo:=p.wo-r.2 } qq.2.2)) qq.1=some (.ins T.part qq.2.1 (cT { p with wo:=p.wo-r.2 } qq.2.2)):=ah;generalize upd H qq.1 (.ins T.part qq.2.1 (cT { p with wo:=p.wo-r.2 } qq.2.2))=H1 at *;have el:dJ st r={ st with ai:=if p.wo-r.2=0 then st.ai.eraseIdx ip else st.ai.set ip { p with wo:=p.wo-r.2 } }:=by unfold dJ;rw[<-EK,CP nd (λx hx=>by have:=hh.wf.kG x hx;omega) ep]
 rw[el]at wf' q;refine⟨λσ' H'=>Q .cI H',?_,λ_ _ z=>z⟩;refine⟨_,Z,qq.1,T.part,qq.2.1,_,_,Z,QO,X.cP,X.vh,Z,Z,_,Z,dF (λc=>?_) (λc=>?_)⟩
 .have c':p.wo-r.2=0:=V.int.inj (eE c);rw[aB c']at wf' q;have nd1:((st.ai.set ip { p with wo:=p.wo-r.2 }).map (λx:Pt=>x.nm)).Nodup:=by rw[uE,show({ p with wo:=p.wo-r.2 }:Pt).nm=p.nm from rfl,sY (by rw[cu,ep];rfl)];exact nd
  have ep1:(st.ai.set ip { p with wo:=p.wo-r.2 })[ip]?=some { p with wo:=p.wo-r.2 }:=qJ IP;have dk:=CO nd1 h1.ql ep1;rw[List.eraseIdx_set_eq]at dk;have hv1:=uO nd1 ep1 eq;refine⟨_,Z,A.a,T.hold,A.dx,_,_,Z,h1.oa,X.cH,X.hab,Z,_,Z,A.ab,_,Sum.inr r.1,Z,h1.dB,Z,?_,?_⟩
  .rw [<-EK];show(dY (bY (st.ai.set ip { p with wo:=p.wo-r.2 }) A.qs) (Sum.inr p.nm)).isSome=true;rw[show dY (bY (st.ai.set ip { p with wo:=p.wo-r.2 }) A.qs) (Sum.inr p.nm)=_ from hv1];rfl
  .show Q .cI (upd H1 A.ab (.dK (mV (bY (st.ai.set ip { p with wo:=p.wo-r.2 }) A.qs) (Sum.inr r.1))));rw[<-EK,show mV (bY (st.ai.set ip { p with wo:=p.wo-r.2 }) A.qs) (Sum.inr p.nm)=_ from dk];have hi2:ip<A.qs.length:=by rw[h.ql];exact IP
   have h2:=h1.Ll g1 (st.ai.eraseIdx ip) (A.qs.eraseIdx ip) (by rw[Ra IP,Ra hi2,h.ql]) (λj x y ex ey=>by rw[<-List.eraseIdx_set_eq (l:=st.ai) (i:=ip) (a:={ p with wo:=p.wo-r.2 })]at ex;obtain⟨k,a1,a2⟩:=AE ex ey;exact h1.opt k x y a1 a2)
   exact q ρ _ _ ⟨g1.wr rfl,h2,wf'⟩ rfl (F1.trans (Fr.write h1.ff))
 .have c':¬ p.wo-r.2=0:=λe=>c (bL (by rw[e]));rw[aC c']at wf' q;exact q ρ A H1 ⟨g1,h1,wf'⟩ rfl F1
abbrev t_:Stmt:=inClass (top 21) 28
abbrev mL:Da Str:=["self","kept","whole","added"]
abbrev MM:Da Str:=mL.append ["scales","common","shared","part","scale"]
def jG:aM MM mL (aD t_):=dP
theorem Js{T:TC}(F:gF K T.hold "blend" "Hold.blend" t_ f fd)(X:Txt K T)(qm:Dn P w K mg base 2 "factor_of_all" lV (Us K))(ua:Mn P w K mg base 1 T.bot "grow" nU (Ut T))(jc:mg "zip"=none):Mn P w K mg base 3 T.hold "blend" mL (FW T K):=by
 refine F.oA jG λ_ _ _ _ H _ Q E hr h=>?_;obtain⟨⟨n,ρ,A,st,kept,whole,la,added,rfl,hh,hla,hal,k0,w0,kz,wz,haz,hpz,hsl,wf',q⟩⟩:=h;refine⟨_,(@cU.h _ _ _ (aj (yl (pA (i:=4) ["part","kept"] [none,some 1] jG.nd rfl rfl rfl (BR (aH K (qv 0))) (λ_ _ _ _=>(aU (i:=0) (show List.Nodup (["part","kept"] :Da Str)from by decide +kernel))) (λ_ _ _ _=>(aL qL (aH K (qv 0)) (qv 1))) rfl (by rfl) (by rfl)))
  (aj (pA (i:=5) ["top","more","kept"] [none,none,some 1] jG.nd rfl rfl rfl (qS K (by rfl) jc (af (aH K (qv 0)) (af (qv 3) aq))) (λ_ _ _ _=>(iM K (n:=2) rfl (cC (aU (i:=0) (show List.Nodup (["top","more","kept"] :Da Str)from by decide +kernel)) (cC (aU (i:=1) (show List.Nodup (["top","more","kept"] :Da Str)from by decide +kernel)) iL)))) (λ_ _ _ _=>(aL cS (aL qL (qv 0) (qv 2)) (qv 1))) rfl (by rfl) (by rfl))
  (aj (aR (i:=6) jG.nd (br qm hr (af (qv 2) (af (aL K7 (qv 4) (qv 5)) aq))))
  (aj (yl (fh fX rfl (qS K (by rfl) jc (af (FZ (aH K (qv 0))) (af (qv 4) aq))) (iM K (n:=2) rfl (cC (aU (i:=7) jG.nd) (cC (aU (i:=8) jG.nd) iL))) (ay (cK K (qv 7) (aL jm (qv 8) (qv 6))))))
  (aj (cK K (qv 0) (kh ["top","shared"] [none,some 6] rfl (dZ K (qv 5)) (λ_ _ _ _=>(aU (i:=0) (show List.Nodup (["top","shared"] :Da Str)from by decide +kernel))) (λ_ _ _ _=>(aL jm (qv 0) (qv 1))) rfl (by rfl)))
  (aj (cK K (qv 0) (kh ["purse","whole","shared"] [none,some 2,some 6] rfl (dZ K (aH K (qv 0))) (λ_ _ _ _=>(aU (i:=0) (show List.Nodup (["purse","whole","shared"] :Da Str)from by decide +kernel))) (λ_ _ _ _=>(aL qL (qv 0) (aL jm (qv 1) (qv 2)))) rfl (by rfl)))
  (ay (bO (bZ ua hr (aH K (qv 0)) (af (aL jm (qv 2) (qv 6)) aq))))))))))),?_⟩
 have hpl:=hh.wf.kM;have nd:=hh.wf.dN;have hcl:st.bq.length<=100:=by rw[hh.wf.eZ];exact hh.wf.j9
 have zsc:∀p∈st.ai,Jm.Sz 8000 p.sc:=λp hp=>Jm.Sz.pU (by have:=hh.wf.sW p hp;have:=hh.wf.gu;omega) (hh.wf.sW p hp).2 hh.wf.big;have zcm:∀c∈st.bq,Jm.Sz 8000 c:=λc hc=>Jm.Sz.pU (by have:=hh.wf.oq c hc;have:=hh.wf.gu;omega) (hh.wf.oq c hc).2 hh.wf.big;have h:=hh.h;refine⟨A.ab,_,h.dB,λob=>?_⟩;refine⟨_,Z,A.a,T.hold,A.dx,_,_,Z,eT h.dB h.oa (λk z=>by cases z),X.cH,X.hab,Z,A.ab,ob,_,Z,ah,λl1 hl1=>?_⟩;have el:=uN h.ql;refine k7 (n:=st.ai.length) 0 (λi out H1=>aJ (upd H A.ab (.eX ob (.dK (bY st.ai A.qs)))) H1/\out=((st.ai.take i).map λp:Pt=>p.sc*kept).map V.int) (by omega) ⟨aE hl1 _,Z⟩ (λi out H1 hi _ hp=>⟨hp.1 _ _ ah,by rw[el];exact hi⟩) (λout H1 _ hp=>⟨hp.1 _ _ ah,by rw[el];exact aK _⟩) ?_ ?_
 .rintro i x out H1 H2 hi gf ha ⟨g,e⟩ ⟨rfl,kv,hkv,rfl⟩;have ep:=bu hi;obtain⟨qq,eq,k1,k2,_⟩:=h.find ep;rw[uM ep eq]at hkv;cases hkv;have hq:=g _ _ (eT h.dB k1 (λk z=>by cases z));refine⟨_,Z,qq.1,T.part,qq.2.1,_,_,Z,hq,X.cP,X.HW,Z,_,Z,_,_,Z,Z,oW (zsc _ (Kd hi)) kz,ha,g.cW hl1 _,?_⟩;subst e;rw[take_snoc ep,b8,b8];rfl
 rintro o1 H1 amk ha1 ⟨g1,e1⟩;rw[c7]at e1;have hz1:=g1 _ _ (ah (H:=H) (a:=A.ab) (o:=.eX ob (.dK (bY st.ai A.qs))));have na1:l1≠A.ab:=λe=>by rw[e,hz1]at ha1;cases ha1
 refine⟨hz1,?_⟩;have s2:aJ H (upd H1 A.ab (.dK (bY st.ai A.qs))):=qN h.dB g1;have aml:H l1=none:=jr h.dB hl1;have ha2:upd H1 A.ab (.dK (bY st.ai A.qs)) l1=some (.lst ((iJ st kept).map V.int)):=by rw[au na1,ha1,e1];rfl
 generalize upd H1 A.ab (.dK (bY st.ai A.qs))=H2 at *;clear g1 hz1 ha1 e1;have h2:=h.mono s2;have Bg:=s2.seq hla;refine⟨_,Z,A.a,T.hold,A.dx,_,_,Z,h2.oa,X.cH,X.zY,Z,_,Z,_,_,_,_,_,_,Z,.lst (aG.of h2.iC),.lst Bg,λl2 hl2=>?_⟩;refine yf (K:=K) (n:=st.bq.length) [0,1] (λi out H3=>aJ H2 H3/\out=(List.zipWith (λt m=>t*kept+m) (st.bq.take i) (added.take i)).map V.int) (by decide) (by omega) ⟨aE hl2 _,Z⟩ (λi out H3 hi _ hp=>⟨aG.of (hp.1 _ _ h2.iC),hp.1.seq Bg,by rw[aF];exact hi,by rw[aF];omega⟩)
  (λout H3 _ hp=>⟨aG.of (hp.1 _ _ h2.iC),hp.1.seq Bg,.inl (by rw[aF];exact aK _)⟩) ?_ ?_
 .rintro i x out H3 H4 hi gf ha ⟨g,e⟩ ⟨p,x1,y1,hp,rfl,rfl,e1,e2⟩;obtain⟨t,rfl,et⟩:=gi e1;obtain⟨c,rfl,ec⟩:=gi e2;have g1:=aE hp (.tup [.int t,.int c]);refine⟨p,_,Z,dm.of ah,Z,_,Z,_,Z,_,_,Z,Z,oW (zcm t (bQ et)) kz,_,Z,_,_,Z,Z,g1 _ _ ha,(g.trans g1).cW hl2 _,?_⟩;rw[sX _ et ec,e,b8];rfl
 rintro o2 H3 Gu QS ⟨g3,e3⟩;rw[c7,<-hal,c7]at e3;have ec3:o2=(fP st kept added).map V.int:=e3;subst ec3;have s3:=s2.trans g3;have h3:=h.mono s3;have Xo:=g3 _ _ ha2;have amm:H l2=none:=s2.free hl2;have n12:l1≠l2:=λe=>by rw[e,hl2]at ha2;cases ha2
 clear e3 h2 Bg g3 ha2 s2;have lsc:(iJ st kept).length=st.ai.length:=by unfold iJ;rw[aF]
 have lcm:(fP st kept added).length=st.bq.length:=by unfold fP;rw[jE,hal,nQ]
 refine⟨_,Z,_,Z,_,Z,l1,l2,_,_,Z,Z,Xo,QS,by rw[aF,aF,lsc,lcm];exact gD (Nat.add_le_add hpl hcl) (by rw[jY];decide),λp3 hp3=>?_⟩;rw[<-b8];have g4:=aE hp3 (.lst ((iJ st kept++fP st kept added).map V.int));refine⟨⟨whole,p3,_,Z,aG.of ah,by omega,?_,?_⟩⟩
 .intro t ht;rcases fW.mp ht with z|z
  .unfold iJ at z;obtain⟨p,hp,rfl⟩:=b7.mp z;exact rN (by have:=hh.wf.sW p hp;omega) (by omega)
  .obtain ⟨c,hc,m,hm,rfl⟩:=vt (show t∈List.zipWith _ st.bq added from z);have a1:=rN (hh.wf.oq c hc).1 (by omega:0<=kept);have a2:=(haz m hm).1;omega
 have s4:=s3.trans g4;have h4:=h.mono s4;have G4:=hh.g.same s4;have F4:Fr n ρ H ρ (upd H3 p3 (.lst ((iJ st kept++fP st kept added).map V.int))):=Fr.of_same s4;have b1:=g4 _ _ Xo;have b2:=g4 _ _ QS;generalize upd H3 p3 (.lst ((iJ st kept++fP st kept added).map V.int))=H4 at *;clear Xo QS s3 h3 g4;obtain⟨sd,Yq⟩:∃sd,sd=cR st kept whole added:=⟨_,rfl⟩
 rw[show kO whole (iJ st kept++fP st kept added)=sd from Yq.symm];have sp:0<sd:=by rw[Yq];exact AG _ _ w0
 have UB:sd∣whole:=by rw[Yq];exact(AF _ _).1
 have sz:Jm.Sz 60 sd:=wz.dvd w0 (by omega) UB;have wq:0<whole / sd:=Int.ediv_pos_of_pos_of_dvd w0 (by omega) UB;have wqz:Jm.Sz 60 (whole / sd):=wz.ediv sp;have Yr:∀{i:Int},DT i sd:=λ{i}=>yN sp (sz.mono (by decide));refine⟨A.ab,_,h4.dB,λMs=>?_⟩;refine⟨_,Z,A.a,T.hold,A.dx,_,_,Z,eT h4.dB h4.oa (λk z=>by cases z),X.cH,X.hab,Z,A.ab,_,Z,.inr ⟨Ms,ah⟩,λv hv=>?_⟩;have nva:v≠A.ab:=λe=>by rw[e,ah]at hv;cases hv
 have hv4:H4 v=none:=jr h4.dB hv;have g5:=aE hv4 (lR v A.ab);have hv5:upd H4 v (lR v A.ab) v=some (lR v A.ab):=ah;rw[iS (bB nva)];have h5:=h4.mono g5;have G5:=G4.same g5;have F5:=F4.trans (Fr.of_same (ρ:=ρ) g5);have s5:=s4.trans g5;have c1:=g5 _ _ b1;have c2:=g5 _ _ b2;generalize upd H4 v (lR v A.ab)=H5 at *;clear h4 G4 F4 s4 b1 b2 g5;refine⟨_,Z,_,_,_,_,_,_,Z,.vals (eT h5.dB hv5 (λk z=>by cases z)) ah,.lst (aG.of (eT h5.dB c1 (λk z=>by cases z))),?_⟩;have exl:((bY st.ai A.qs).map λp=>p.2).length=st.ai.length:=by rw[aF];exact el
 have eyl:((iJ st kept).map V.int).length=st.ai.length:=by rw[aF];exact lsc
 refine vf (n:=st.ai.length) (IvL T n ρ A H st kept whole sd added la l1 l2 Ms)
  ⟨⟨_,_,Z⟩,H5,Z,G5,F5,h5,c1,c2,λb e=>s5.free e⟩ ?_ ?_ ?_ ?_
 .rintro i σ H' hi ⟨_,H6,rfl,G6,F6,h6,d1,d2,fr⟩;have e6:bY ({ st with ai:=(st.ai.take i).map (λp:Pt=>{ p with sc:=p.sc*kept / sd })++st.ai.drop i }:HS).ai A.qs=bY st.ai A.qs:=o6 (qP (λp:Pt=>{ p with sc:=p.sc*kept / sd }) (λp:Pt=>p.nm) (λ_=>rfl) st.ai i);have rm:=h6.dB;rw[e6]at rm;exact⟨ah,aG.of (eT rm d1 (λk z=>by cases z)),by rw[exl];exact hi,by rw[eyl];exact hi⟩
 .rintro σ H' ⟨_,H6,rfl,G6,F6,h6,d1,d2,fr⟩;have e6:bY ({ st with ai:=(st.ai.take st.ai.length).map (λp:Pt=>{ p with sc:=p.sc*kept / sd })++st.ai.drop st.ai.length }:HS).ai A.qs=bY st.ai A.qs:=o6 (qP (λp:Pt=>{ p with sc:=p.sc*kept / sd }) (λp:Pt=>p.nm) (λ_=>rfl) st.ai _);have rm:=h6.dB;rw[e6]at rm;exact⟨ah,aG.of (eT rm d1 (λk z=>by cases z)),.inl (by rw[exl];exact aK _)⟩
 .rintro i x σ H' z6 hi ⟨⟨s7,s8,rfl⟩,H6,rfl,G6,F6,h6,d1,d2,fr⟩ ⟨pp,x1,y1,hpp,rfl,rfl,ex,ey⟩;have ep:=bu hi;have ep6:=Lx (λp:Pt=>{ p with sc:=p.sc*kept / sd }) ep;obtain⟨qq,eq,k1,k2,k3,k4⟩:=h6.find ep6;have nm6:=qP (λp:Pt=>{ p with sc:=p.sc*kept / sd }) (λp:Pt=>p.nm) (λ_=>rfl) st.ai i;have e6:bY ({ st with ai:=(st.ai.take i).map (λp:Pt=>{ p with sc:=p.sc*kept / sd })++st.ai.drop i }:HS).ai A.qs=bY st.ai A.qs:=o6 nm6;have rm:=h6.dB;rw[e6]at rm;rw[cu,uM ep eq]at ex;cases ex;obtain⟨sc,rfl,esc⟩:=gi ey;have ai8:sc=(st.ai[i]).sc*kept:=by unfold iJ at esc;rw[cu,ep]at esc;exact(fM esc).symm
  subst ai8;have npa:pp≠A.ab:=λe=>by rw[e,ah]at hpp;cases hpp
  have ai9:H6 pp=none:=jr rm hpp;have g7:=aE ai9 (.tup [.ref qq.1,.int ((st.ai[i]).sc*kept)]);rw[iS (bB npa)];have ML:upd H6 pp (.tup [.ref qq.1,.int ((st.ai[i]).sc*kept)]) pp=some (.tup [.ref qq.1,.int ((st.ai[i]).sc*kept)]):=ah;have h7:=h6.mono g7;have G7:=G6.same g7;have F7:=F6.trans (Fr.of_same (ρ:=ρ) g7);have Xp:=g7 _ _ rm;have f1:=g7 _ _ d1;have f2:=g7 _ _ d2;have Ld:∀b,upd H6 pp (.tup [.ref qq.1,.int ((st.ai[i]).sc*kept)]) b=none->H b=none:=λb e=>fr b (g7.free e);have QO:=g7 _ _ k1;generalize upd H6 pp (.tup [.ref qq.1,.int ((st.ai[i]).sc*kept)])=H7 at *;refine⟨pp,_,Z,dm.of (eT Xp ML (λk z=>by cases z)),Z,_,_,Z,_,_,Z,Z,?_⟩;refine⟨_,Z,_,Z,_,_,Z,Z,Yr,_,Z,qq.1,T.part,qq.2.1,_,Z,eT Xp QO (λk z=>by cases z),X.cP,X.HW,by show 6<1000;decide,?_⟩;have nd7:(((st.ai.take i).map (λp:Pt=>{ p with sc:=p.sc*kept / sd })++st.ai.drop i).map (λp:Pt=>p.nm)).Nodup:=by rw[nm6];exact nd
  have h8:=h7.jq (p1:={ st.ai[i]with sc:=(st.ai[i]).sc*kept / sd }) G7 ep6 eq rfl rfl nd7;rw[show({ st with ai:=(st.ai.take i).map (λp:Pt=>{ p with sc:=p.sc*kept / sd })++st.ai.drop i }:HS).ai.set i { st.ai[i]with sc:=(st.ai[i]).sc*kept / sd }=_ from Ly (λp:Pt=>{ p with sc:=p.sc*kept / sd }) ep]at h8;have nqa:A.ab≠qq.1:=(i8 QO Xp (by intro z;cases z)).symm;have nq1:l1≠qq.1:=i8 f1 QO (by intro z;cases z);have nq2:l2≠qq.1:=i8 f2 QO (by intro z;cases z);refine⟨⟨_,_,Z⟩,_,iS nqa,G7.wr rfl,F7.trans (Fr.write k3),h8,by rw[au nq1];exact f1,by rw[au nq2];exact f2,λb e=>Ld b ?_⟩;by_cases z:b=qq.1
  .rw [z,ah]at e;cases e
  .rw [au z]at e;exact e
 rintro σ H' ⟨⟨s7,s8,rfl⟩,H6,rfl,G6,F6,h6,d1,d2,fr⟩;have e6:bY ({ st with ai:=(st.ai.take st.ai.length).map (λp:Pt=>{ p with sc:=p.sc*kept / sd })++st.ai.drop st.ai.length }:HS).ai A.qs=bY st.ai A.qs:=o6 (qP (λp:Pt=>{ p with sc:=p.sc*kept / sd }) (λp:Pt=>p.nm) (λ_=>rfl) st.ai _);have rm:=h6.dB;rw[e6]at rm;refine⟨ah,?_⟩;rw[lE,qO rm];rw[show({ st with ai:=(st.ai.take st.ai.length).map (λp:Pt=>{ p with sc:=p.sc*kept / sd })++st.ai.drop st.ai.length }:HS)={ st with ai:=st.ai.map λp:Pt=>{ p with sc:=p.sc*kept / sd } }from by rw[c7,List.drop_length,Bs]]at h6;clear e6 rm h5 G5 F5 s5 c1 c2 hv5;refine⟨_,Z,l2,Z,⟨_,aG.of d2⟩,λl3 hl3=>?_⟩;refine k7 (J:=zS K l2) (n:=((fP st kept added).map V.int).length) 0 (λi o H'=>aJ H6 H'/\o=(((fP st kept added).take i).map (· / sd)).map V.int) (by rw[aF];omega) ⟨aE hl3 _,Z⟩ (λi o H' hi _ hp=>⟨_,_,aG.of (hp.1 _ _ d2),bu hi⟩) (λo H' _ hp=>⟨_,aG.of (hp.1 _ _ d2),aK _⟩) ?_ ?_
 .rintro i y o Ha Hb hi gf ha ⟨g,e⟩ ⟨rfl,hy⟩;obtain⟨c,rfl,ec⟩:=gi (hy _ (aG.of (g _ _ d2)));refine⟨_,Z,_,Z,_,_,Z,Z,Yr,ha,g.cW hl3 _,?_⟩;subst e;rw[take_snoc ec,b8,b8];rfl
 rintro o3 H8 amn MN ⟨g8,e8⟩;rw[aF,c7]at e8;subst e8;have h8:=h6.mono g8;have G8:=G6.same g8;have F8:=F6.trans (Fr.of_same (ρ:=ρ) g8);have fr8:∀b,H8 b=none->H b=none:=λb e=>fr b (g8.free e);have c3:ρ l3=none:=G6.none hl3;have n3:H l3=none:=fr l3 hl3;refine⟨_,Z,A.a,T.hold,A.dx,_,Z,h8.oa,X.cH,X.zY,by show 7<1000;decide,?_⟩;obtain⟨h9,G9⟩:=AH (t:=6) h8 G8 c3 MN rfl;have F9:Fr n ρ H (cy ρ l3 (n,6,⟨#[]⟩)) H8:=F8.oE n3;have uy:=h9.Uk G9 l3 _ MN bN;have G10:=G9.wr (a:=A.a) (o:=.ins T.hold A.dx (dW { A with cm:=l3 })) rfl;have F10:=F9.trans (Fr.write (o:=.ins T.hold A.dx (dW { A with cm:=l3 })) h9.ca);show i9 _ _ _ _ (upd H8 A.a (.ins T.hold A.dx (dW { A with cm:=l3 })));have ai_:∀b,upd H8 A.a (.ins T.hold A.dx (dW { A with cm:=l3 })) b=none->H b=none:=λb e=>fr8 b (by
  by_cases z:b=A.a
  .rw [z,ah]at e;cases e
  .rw [au z]at e;exact e)
 generalize upd H8 A.a (.ins T.hold A.dx (dW { A with cm:=l3 }))=DZ at *;clear h6 G6 F6 h8 G8 F8 h9 G9 F9 MN g8 fr8 fr d1 d2;refine⟨_,Z,A.a,T.hold,A.dx,_,_,Z,uy.oa,X.cH,X.zZ,Z,A.pu,Z,⟨_,aG.of uy.jC⟩,λl4 IQ=>?_⟩;have amo:st.bU.length<=100:=by rw[hh.wf.mD];exact hh.wf.j9
 refine k7 (J:=zS K A.pu) (n:=(st.bU.map V.int).length) 0 (λi o H'=>aJ DZ H'/\o=((st.bU.take i).map (·*(whole / sd))).map V.int) (by rw[aF];omega) ⟨aE IQ _,Z⟩ (λi o H' hi _ hp=>⟨_,_,aG.of (hp.1 _ _ uy.jC),bu hi⟩) (λo H' _ hp=>⟨_,aG.of (hp.1 _ _ uy.jC),aK _⟩) ?_ ?_
 .rintro i y o Ha Hb hi gf ha ⟨g,e⟩ ⟨rfl,hy⟩;obtain⟨c,rfl,ec⟩:=gi (hy _ (aG.of (g _ _ uy.jC)));refine⟨_,Z,_,Z,_,Z,_,_,Z,Z,Yr,_,_,Z,Z,oW (hpz c (bQ ec)) wqz,ha,g.cW IQ _,?_⟩;subst e;rw[take_snoc ec,b8,b8];rfl
 rintro o4 IG amq acZ ⟨Ys,e11⟩;rw[aF,c7]at e11;subst e11;have h11:=uy.mono Ys;have G11:=G10.same Ys;have F11:=F10.trans (Fr.of_same (ρ:=cy ρ l3 (n,6,⟨#[]⟩)) Ys);have c4:cy ρ l3 (n,6,⟨#[]⟩) l4=none:=G10.none IQ;have n4:H l4=none:=ai_ l4 IQ;refine⟨_,Z,A.a,T.hold,A.dx,_,Z,h11.oa,X.cH,X.zZ,by show 7<1000;decide,?_⟩;obtain⟨h12,G12⟩:=AH (t:=7) h11 G11 c4 acZ rfl;have F12:Fr n ρ H (cy (cy ρ l3 (n,6,⟨#[]⟩)) l4 (n,7,⟨#[]⟩)) IG:=F11.oE n4;have h13:=h12.Lm G12 l4 _ acZ bN;have G13:=G12.wr (a:=A.a) (o:=.ins T.hold A.dx (dW { { A with cm:=l3 }with pu:=l4 })) rfl;have F13:=F12.trans (Fr.write (o:=.ins T.hold A.dx (dW { { A with cm:=l3 }with pu:=l4 })) h12.ca);rw[show gY "purses" (V.ref l4) (dW { A with cm:=l3 })=dW { { A with cm:=l3 }with pu:=l4 }from rfl];generalize upd IG A.a (.ins T.hold A.dx (dW { { A with cm:=l3 }with pu:=l4 }))=H13 at *;refine⟨_,Z,A.a,T.hold,A.dx,_,_,Z,h13.oa,X.cH,X.wV,Z,A.bt,A.db,_,Z,h13.jd,Z,_,Z,_,Z,_,_,Z,Z,Yr,?_⟩;refine⟨⟨n,_,{ { A with cm:=l3 }with pu:=l4 },{ st with ai:=st.ai.map (λp:Pt=>{ p with sc:=p.sc*kept / sd }),bq:=(fP st kept added).map (· / sd),bU:=st.bU.map (·*(whole / sd)) },whole / sd,Z,G13,h13,by show st.stp.length<=1000;omega,hh.wf.big.mono (by decide),wqz.mono (by decide),λρ' A' H' a1 a2 a3 a4=>?_⟩⟩;have eb:bf st kept whole added=d9 { st with ai:=st.ai.map (λp:Pt=>{ p with sc:=p.sc*kept / sd }),bq:=(fP st kept added).map (· / sd),bU:=st.bU.map (·*(whole / sd)) } (whole / sd):=by unfold bf;rw[Yq]
 rw[eb]at wf' q;exact q ρ' A' H' ⟨a1,a2,wf'⟩ a3 (F13.trans a4)
abbrev vS:Stmt:=inClass (top 21) 3
abbrev r_:Da Str:=["self","rows"]
abbrev Ox:Da Str:=r_.append ["amounts","name","amount","whole","lost"]
def iG:aM Ox r_ (aD vS):=dP
theorem MO{T:TC}(F:gF K T.hold "cast" "Hold.cast" vS f fd)(X:Txt K T)(vU:Dn P w K mg base 1 "amounts_of" qg (Ur K))(mO:Dn P w K mg base 2 "check_loss" mJ Yb)(cL:Mn P w K mg base 1 T.hold "part_of" eV (CM T))(gW:Mn P w K mg base 1 T.hold "whole" kr (BQ T))(kC:Mn P w K mg base 3 T.hold "blend" mL (FW T K))(qo:Mn P w K mg base 1 T.hold "given_up" lY (Qh T))(jH:Mn P w K mg base 1 T.hold "lessen" lg (LG T))(kR:mg "sum"=none):Mn P w K mg base 4 T.hold "cast" r_ (Uu T K):=by
 refine F.oA iG λ_ _ _ _ H _ Q E hr h=>?_;obtain⟨⟨n,ρ,A,st,l,us,rs,rfl,hh,hl,hR,ok,q⟩⟩:=h;have wf:=hh.wf;have nd:=ok.nd;refine⟨_,(@cU.h _ _ _ (aj (aR (i:=2) iG.nd (br vU hr (af (qv 1) aq)))
  (aj (yl (fh fX rfl (zu (qv 2)) (iM K (n:=2) rfl (cC (aU (i:=3) iG.nd) (cC (aU (i:=4) iG.nd) iL))) (ay (bO (br mO hr (af (aH K (bZ cL hr (qv 0) (af (qv 3) aq))) (af (qv 4) aq)))))))
  (aj (aR (i:=5) iG.nd (f_ gW hr (qv 0)))
  (aj (aR (i:=6) iG.nd (bV (HU rfl) (by rfl) kR KC (af (FZ (qv 2)) aq)))
  (aj (cN (aQ Kn (qv 6) (qv 5) (a_ _)) (ay iT) bJ)
  (aj (bO (bZ kC hr (qv 0) (af (aL mw (qv 5) (qv 6)) (af (qv 5) (af (bZ qo hr (qv 0) (af (qv 2) aq)) aq)))))
  (ay (yl (fh fX rfl (zu (qv 2)) (iM K (n:=2) rfl (cC (aU (i:=3) iG.nd) (cC (aU (i:=4) iG.nd) iL))) (ay (bO (bZ jH hr (qv 0) (af (qv 3) (af (qv 4) aq))))))))))))))),?_⟩
 refine⟨_,Z,⟨⟨l,us,rs,Z,hl,hR,nd,ok.ne,ok.len,λd H1 g1 hdn hd1=>?_⟩⟩⟩;have f7:=hh.mono g1;have F1:Fr n ρ H ρ H1:=Fr.of_same g1;have cd:ρ d=none:=hh.g.none hdn;have al:=yX rs;refine⟨d,_,hd1,λob=>⟨_,Z,d,ob,_,Z,ah,?_⟩⟩;refine vf (n:=(iD rs).length) (λi σ H'=>aJ (upd H1 d (.eX ob (.dK (iD rs)))) H'/\∃s3 s4 s5 s6,σ=[some (.ref A.a),some (.ref l),some (.ref d),s3,s4,s5,s6])
  ⟨aJ.refl _,_,_,_,_,Z⟩ (λi σ H' hi hp=>⟨hp.1 _ _ ah,hi⟩) (λσ H' hp=>⟨hp.1 _ _ ah,aK _⟩) ?_ ?_
 .rintro i x σ H3 H4 hi ⟨g,s3,s4,s5,s6,rfl⟩ ⟨pp,kv,hpp,hkv,rfl,rfl⟩;unfold iD at hkv;rw[cu]at hkv;obtain⟨r,er,rfl⟩:=kH.mp hkv;have hrm:=bQ er;obtain⟨r1,zr,p,gh,EK,hle⟩:=ok.row r hrm;obtain⟨ip,IP,Vc⟩:=uX gh;have ep:st.ai[ip]?=some p:=by rw[bu IP,Vc]
  have g4:=aE hpp (.tup [.str r.1,.int r.2]);have gg:=g.trans g4;have hf:HH T n ρ A (upd H1 d (.eX ob (.dK (iD rs)))) st:=f7.Eh cd hd1 rfl rfl;have h4:=hf.mono gg;have ML:upd H3 pp (.tup [.str r.1,.int r.2]) pp=some (.tup [.str r.1,.int r.2]):=ah;show Af K 2 _ _ _ (upd H3 pp (.tup [.str r.1,.int r.2])) _;generalize upd H3 pp (.tup [.str r.1,.int r.2])=H4 at *;obtain⟨qq,eq,k1,k2,_,_⟩:=h4.h.find ep;refine⟨pp,_,Z,dm.of ML,Z,_,_,Z,_,_,Z,Z,?_⟩;refine⟨_,Z,A.a,A.dx,_,Z,h4.h.oa,Z,_,Z,⟨⟨n,ρ,A,st,ip,p,qq,by rw[<-EK];rfl,h4.h,wf.dN,ep,eq,?_⟩⟩⟩;refine⟨qq.1,T.part,qq.2.1,_,_,Z,k1,X.cP,X.vh,Z,_,Z,⟨⟨p.wo,r.2,Z,r1,hle,?_⟩⟩⟩;exact⟨gg,_,_,_,_,Z⟩
 rintro σ H2 ⟨g2,s3,s4,s5,s6,rfl⟩;refine⟨g2 _ _ ah,?_⟩;have gB:=qN hd1 g2;have lW:=f7.mono gB;have F2:Fr n ρ H ρ (upd H2 d (.dK (iD rs))):=F1.trans (Fr.of_same gB);have hd2:upd H2 d (.dK (iD rs)) d=some (.dK (iD rs)):=ah;generalize upd H2 d (.dK (iD rs))=H2' at *;refine⟨_,Z,A.a,A.dx,_,Z,lW.h.oa,Z,⟨⟨n,ρ,A,st,Z,lW.h,wf.kM,λH3 g3=>?_⟩⟩⟩;have lX:=lW.mono g3;have MP:=g3 _ _ hd2;have F3:=F2.trans (Fr.of_same (ρ:=ρ) g3);refine⟨_,Z,d,_,Z,.inl MP,λv hv=>⟨v,d,_,rs.map (·.2),Z,ah,.inl (by rw[au (aA MP hv)];exact MP),by unfold iD;rw[fk,fk];rfl,?_⟩⟩;have g4:=aE hv (lR v d);have nc:=lX.mono g4;have Vd:=g4 _ _ MP;have F4:=F3.trans (Fr.of_same (ρ:=ρ) g4);generalize upd H3 v (lR v d)=H4 at *;have bo:=ok.blend wf;refine⟨_,Z,_,Z,_,_,Z,Z,_,Z,dF (λc=>absurd (eE c) (by have:=ok.lost;show ¬ aS st<=bK rs;omega)) λ_=>?_⟩;refine⟨_,Z,A.a,A.dx,_,Z,nc.h.oa,Z,_,Z,_,Z,_,_,Z,Z,_,Z,_,Z,A.a,A.dx,_,Z,nc.h.oa,Z,_,Z,⟨⟨n,ρ,A,st,d,rs,Z,nc.h,wf,Vd,cd,ok.len,λr hr=>⟨(ok.row r hr).2.1,by obtain⟨p,hp,e,_⟩:=(ok.row r hr).2.2;exact⟨p,hp,e⟩⟩,λl5 H5 g5 hn5 hl5=>?_⟩⟩⟩;have pH:=nc.mono g5;have hd5:=g5 _ _ Vd;have F5:=F4.trans (Fr.of_same (ρ:=ρ) g5);have zk:Jm.Sz 60 (aS st-bK rs):=bo.big.of_le (by have:=bo.k;have:=bo.l;omega);have zG:∀m∈iW st rs,0<=m/\Jm.Sz 8900 m:=λm hm=>by have h1:=bo.add m hm;have h2:=wf.gu;have zl:Jm.Sz 60 (bK rs):=bo.big.of_le (by have:=bo.k;have:=bo.l;omega);exact⟨h1.1,Jm.Sz.pU (by have:=rN bo.l (show 0<=st.prod by omega);omega) h1.2 ((zl.mul bo.prod).mono (by decide))⟩
 refine⟨⟨n,ρ,A,st,aS st-bK rs,aS st,l5,iW st rs,Z,pH,aG.of hl5,bo.len,bo.k,by have:=bo.k;have:=bo.l;omega,zk,bo.big,zG,ok.bU,ok.stp,yZ wf bo,λρ6 A6 H6 tG e6 f6=>?_⟩⟩;obtain⟨Ve,cd6⟩:=f6 d _ hd5 (λt x=>by rw[cd];intro z;cases z);rw[cd]at cd6;have F6:=F5.trans f6;refine⟨d,_,Ve,λMs=>⟨_,Z,d,Ms,_,Z,ah,?_⟩⟩;generalize eB:bf st (aS st-bK rs) (aS st) (iW st rs)=QT at *;have aja:Due QT rs:=by rw[<-eB];exact Ik ok.due
 have afJ:iw st rs=rs.foldl dJ QT:=by unfold iw;rw[eB]
 refine vf (n:=(iD rs).length) (λi σ H'=>∃ρ' A',HH T n ρ' A' H' ((rs.take i).foldl dJ QT)/\A'.a=A.a/\H' d=some (.eX Ms (.dK (iD rs)))/\ρ' d=none/\Fr n ρ H ρ' H'/\Due ((rs.take i).foldl dJ QT) (rs.drop i)/\∃s3 s4 s5 s6,σ=[some (.ref A.a),some (.ref l),some (.ref d),s3,s4,s5,s6])
  ⟨ρ6,A6,tG.Eh cd6 Ve rfl rfl,e6,ah,cd6,F6.new hdn,aja,_,_,_,_,Z⟩ (λi σ H' hi hp=>by obtain⟨_,_,_,_,e,_⟩:=hp;exact⟨e,hi⟩) (λσ H' hp=>by obtain⟨_,_,_,_,e,_⟩:=hp;exact⟨e,aK _⟩) ?_ ?_
 .rintro i x σ H7 H8 hi ⟨ρ7,A7,IS,e7,Yt,Yu,F7,due,s3,s4,s5,s6,rfl⟩ ⟨pp,kv,hpp,hkv,rfl,rfl⟩;unfold iD at hkv;rw[cu]at hkv;obtain⟨r,er,rfl⟩:=kH.mp hkv;have hir:i<rs.length:=by rw[<-al];exact hi
  have edr:rs.drop i=r::rs.drop (i+1):=by rw[List.drop_eq_getElem_cons hir];rw[bu hir]at er;rw[fM er]
  rw[edr]at due;have g4:=aE hpp (.tup [.str r.1,.int r.2]);have qp:=IS.mono g4;have hd8:=g4 _ _ Yt;have F8:=F7.trans (Fr.of_same (ρ:=ρ7) g4);have ML:upd H7 pp (.tup [.str r.1,.int r.2]) pp=some (.tup [.str r.1,.int r.2]):=ah;show Af K 2 _ _ _ (upd H7 pp (.tup [.str r.1,.int r.2])) _;generalize upd H7 pp (.tup [.str r.1,.int r.2])=H8 at *;refine⟨pp,_,Z,dm.of ML,Z,_,_,Z,_,_,Z,Z,?_⟩;have eN:(rs.take (i+1)).foldl dJ QT=dJ ((rs.take i).foldl dJ QT) r:=by rw[take_snoc er,xD];rfl
  have Yv:((r::rs.drop (i+1)).map (λr:Row=>r.1)).Nodup:=by rw[<-edr,List.map_drop];exact nd.sublist (List.drop_sublist _ _)
  refine⟨_,Z,A.a,A7.dx,_,Z,by rw[<-e7];exact qp.h.oa,Z,_,Z,_,Z,⟨⟨n,ρ7,A7,_,r,by rw[e7];rfl,qp,due r dg,Uw IS.wf due,λρ9 A9 H9 Vf e9 f9=>?_⟩⟩⟩;obtain⟨hd9,cd9⟩:=f9 d _ hd8 (λt x=>by rw[Yu];intro z;cases z);rw[Yu]at cd9;rw[<-eN]at Vf;exact⟨ρ9,A9,Vf,e9.trans e7,hd9,cd9,F8.trans f9,by rw[eN];exact LJ IS.wf due Yv,_,_,_,_,Z⟩
 rintro σ H7 ⟨ρ7,A7,IS,e7,Yt,Yu,F7,due,s3,s4,s5,s6,rfl⟩;rw[al,c7,<-afJ]at IS;exact⟨Yt,q ρ7 A7 _ (IS.Eh Yu Yt rfl rfl) e7 (F7.new hdn)⟩
abbrev rA:Stmt:=inClass (top 4) 2
abbrev lu:Da Str:=["self","top"]
abbrev Jt:Da Str:=lu.append ["rest","step","shared"]
def jj:aM Jt lu (aD rA):=dP
theorem Gw{T:TC}(F:gF K T.bot "over" "Bottom.over" rA f fd)(X:Txt K T)(iO:Dn P w K mg base 1 "common_factor" jS Wr):Mn P w K mg base 2 T.bot "over" lu (FP T):=by
 refine F.oA jj λ_ _ _ _ H _ Q E hr h=>?_;obtain⟨⟨bt,db,sp,kn,stp,prod,top,rfl,hb,hs,ep,h2,hz,q⟩⟩:=h;refine⟨_,(@cU.h _ _ _ (aj (aR (i:=2) jj.nd (aH K (qv 0)))
  (aj (fh fX rfl (dZ K (aH K (qv 0))) (aU (i:=3) jj.nd) (aj (aR (i:=4) jj.nd (br iO hr (af (qv 3) (af (aL kZ (qv 1) (qv 3)) aq))))
  (ay (kj (aQ kK (qv 4) ak (a_ _)) (aj (aR (i:=1) jj.nd (aL jm (qv 1) (qv 4)))
  (ay (aR (i:=2) jj.nd (aL jm (qv 2) (qv 4))))) bJ))))
  (ay (bh (iY (af (qv 1) (af (qv 2) aq)))))))),?_⟩
 have p1:1<=prod:=by rw[ep];exact LB h2
 refine⟨_,Z,bt,T.bot,db,_,_,Z,hb,X.cB,X.HX,Z,?_⟩;refine⟨_,Z,bt,T.bot,db,_,_,Z,hb,X.cB,X.Ul,Z,sp,Z,⟨_,aG.of hs⟩,?_⟩;refine jk (K:=K) (xs:=stp.map V.int) (λi σ H'=>H'=H/\∃(t r d:Int)(s3 s4:Option V),σ=[some (.ref bt),some (.int t),some (.int r),s3,s4]/\t*prod=top*r/\r=d*(stp.drop i).foldl (·*·) 1/\0<d/\Jm.cf t d=1)
  ⟨Z,top,prod,1,none,none,Z,Z,by rw[List.drop_zero,Int.one_mul];exact ep,by decide,by unfold Jm.cf;rw[Int.gcd_one];rfl⟩ (λi σ H' _ hp=>by rw[hp.1];exact aG.of hs) ?_ ?_
 .rintro i x σ H' hx ⟨rfl,t,r,d,s3,s4,rfl,e1,e2,d0,c⟩;obtain⟨st,rfl,es⟩:=gi hx;have hm:=bQ es;have s2:=h2 st hm;have hi:=(dX.mp es).1;have hdr:stp.drop i=st::stp.drop (i+1):=by rw[List.drop_eq_getElem_cons hi];congr 1;rw[bu hi]at es;exact fM es
  rw[hdr,FT]at e2;have r0:0<=t % st:=pK _ (by omega);refine⟨_,Z,_,Z,_,Z,_,_,Z,Z,(by show 0<st;omega),st,t % st,Z,by omega,r0,?_⟩;rw[Jm.PR t st (by omega)];obtain⟨o1,o2⟩:=Up d0 (by omega:0<st) c;have gp:0<Jm.cf t st:=Jm.La t st (.inr (by omega));have gz:Jm.Sz 9000 (Jm.cf t st):=((hz.of_le (by have:=X_ h2 hm;rw[<-ep]at this;omega)).dvd (by omega:0<st) (by omega) (Jm.pT t st)).mono (by decide);obtain⟨u,hu⟩:=Jm.xG t st;obtain⟨v,hv⟩:=Jm.pT t st;have e3:t / Jm.cf t st*prod=top*(r / Jm.cf t st):=by
   have a1:t / Jm.cf t st=u:=by rw[XD (by omega) hu]
   have a2:r=Jm.cf t st*(d*v*(stp.drop (i+1)).foldl (·*·) 1):=by
    rw[e2]
    conv=>lhs;rw[hv]
    rw[jX (Jm.cf t st),Int.mul_left_comm,jX d]
   have a3:r / Jm.cf t st=d*v*(stp.drop (i+1)).foldl (·*·) 1:=by rw[XD (by omega) a2]
   rw[a1,a3];have e1':Jm.cf t st*(u*prod)=Jm.cf t st*(top*(d*v*(stp.drop (i+1)).foldl (·*·) 1)):=by
    rw[<-jX,<-hu,e1]
    conv=>lhs;rw[a2]
    rw[Int.mul_left_comm]
   exact Int.eq_of_mul_eq_mul_left (by omega) e1'
  have e4:r / Jm.cf t st=d*(st / Jm.cf t st)*(stp.drop (i+1)).foldl (·*·) 1:=by
   have a4:st / Jm.cf t st=v:=by rw[XD (by omega) hv]
   have a2:r=Jm.cf t st*(d*v*(stp.drop (i+1)).foldl (·*·) 1):=by
    rw[e2]
    conv=>lhs;rw[hv]
    rw[jX (Jm.cf t st),Int.mul_left_comm,jX d]
   rw[a4,XD (by omega) a2]
  refine⟨λσ' H2=>H2=H'/\σ'=[some (.ref bt),some (.int (t / Jm.cf t st)),some (.int (r / Jm.cf t st)),some (.int st),some (.int (Jm.cf t st))],?_,?_⟩
  .refine ⟨_,Z,_,_,Z,Z,_,Z,dF (λc=>?_) (λc=>?_)⟩
   .exact ⟨_,Z,_,Z,_,_,Z,Z,yN gp gz,_,Z,_,Z,_,_,Z,Z,yN gp gz,Z,Z⟩
   .have c':¬ 1<Jm.cf t st:=uY (mU.mpr c);have g1:Jm.cf t st=1:=by omega
    refine⟨Z,?_⟩;rw[g1,DE,DE];rfl
  rintro σ' H2 ⟨rfl,rfl⟩;exact⟨Z,_,_,_,_,_,Z,e3,e4,o2,o1⟩
 rintro σ H' ⟨rfl,t,r,d,s3,s4,rfl,e1,e2,d0,c⟩;rw[List.drop_of_length_le (by rw[aF];exact aK _),List.foldl_nil,Int.mul_one]at e2;subst e2;refine⟨_,Z,_,Z,(iN 2),λp hp=>?_⟩;refine q p _ (aE hp _) ?_;rw[ah];obtain⟨a1,a2⟩:=Jm.TM d0 c;have:Jm.fr top prod=Jm.fr t r:=Jm.ae4 (by omega) d0 e1.symm;unfold tQ;rw[this,a1,a2]
abbrev qt:Stmt:=inClass (top 4) 3
abbrev mY:Da Str:=["self","top"]
abbrev Gx:Da Str:=mY
def EM:aM Gx mY (aD qt):=dP
theorem EN{T:TC}(F:gF K T.bot "share" "Bottom.share" qt f fd)(X:Txt K T)(jI:Mn P w K mg base 2 T.bot "over" lu (FP T)):Mn P w K mg base 3 T.bot "share" mY (Lu T):=by
 refine F.oA EM λ_ _ _ _ H _ Q E hr h=>?_;obtain⟨⟨bt,db,sp,kn,stp,prod,top,AT,rfl,hb,hs,ep,h2,hz,hk,kat,kl,knd,q⟩⟩:=h;refine⟨_,(@cU.h _ _ _ (aj (kj (yj (AS (c9 hr) (qv 1) (aH K (qv 0)))) (ay (uR (c9 hr) (aH K (qv 0)) (qv 1) (bZ jI hr (qv 0) (af (qv 1) aq)) rfl)) bJ)
  (ay (bh (di (c9 hr) (aH K (qv 0)) (qv 1)))))),?_⟩
 refine⟨λσ' H'=>σ'=[some (.ref bt),some (.int top)]/\(∀b o,H b=some o->b≠kn->H' b=some o)/\∃kvs' r,H' kn=some (.dK kvs')/\Lk H' kvs' prod/\kvs'.length<=AT.length+1/\(kvs'.map (·.1)).Nodup/\dY kvs' (Sum.inl top)=some (.ref r)/\H' r=some (tQ (Jm.fr top prod)),?_,?_⟩
 .refine ⟨_,Z,_,Z,bt,T.bot,db,_,_,Z,hb,X.cB,X.Um,Z,kn,_,Z,dS.k (k:=Sum.inl top) hk,_,Z,?_⟩;cases e:dY AT (Sum.inl top)with
  | some v=>refine bw ⟨Z,λb o e _=>e,AT,?_⟩;obtain⟨t,r,e2,hr2⟩:=kat _ (WG e);cases e2;exact⟨r,hk,kat,BB _,knd,e,hr2⟩
  | none=>
   refine gb ?_;refine⟨_,Z,bt,db,_,Z,hb,Z,_,Z,⟨⟨bt,db,sp,kn,stp,prod,top,Z,hb,hs,ep,h2,hz,λr H1 g1 hr1=>?_⟩⟩⟩;have sl:AT.length<sizeLine:=by rw[jY];omega
   refine⟨_,Z,bt,T.bot,db,_,_,Z,g1 _ _ hb,X.cB,X.Um,Z,_,Z,kn,_,Z,xF.k (k:=Sum.inl top) (g1 _ _ hk) sl,Z,λb o e hb=>by rw[au hb];exact g1 _ _ e,_,r,ah,?_,?_,Zo _ knd e,by rw[Wc,aB rfl],by rw[au (i8 hr1 (g1 _ _ hk) (by intro z;cases z))];exact hr1⟩
   .rw [mz _ e];intro p hp;rcases fW.mp hp with z|z
    .obtain ⟨t,r',e2,hr2⟩:=kat p z;exact⟨t,r',e2,by rw[au (i8 (g1 _ _ hr2) (g1 _ _ hk) (by intro z;cases z))];exact g1 _ _ hr2⟩
    .rw [eO.mp z];exact⟨top,r,Z,by rw[au (i8 hr1 (g1 _ _ hk) (by intro z;cases z))];exact hr1⟩
   .rw [mz _ e,cX];exact aK _
 rintro σ' H' ⟨rfl,k1,kvs',r,e1,e2,e3,e4,e5,e6⟩;exact⟨_,Z,bt,T.bot,db,_,_,Z,k1 _ _ hb (i8 hb hk (by intro z;cases z)),X.cB,X.Um,Z,_,Z,kn,_,Z,e5▸dS.k (k:=Sum.inl top) e1,q r H' kvs' k1 e1 e2 e3 e4 e6⟩
abbrev rB:Stmt:=inClass (top 21) 12
abbrev jJ:Da Str:=["self","part"]
abbrev Ju:Da Str:=jJ.append ["tops"]
def yr:aM Ju jJ (aD rB):=dP
theorem Gy{T:TC}(F:gF K T.hold "shares" "Hold.shares" rB f fd)(X:Txt K T)(cL:Mn P w K mg base 1 T.hold "part_of" eV (CM T))(fT:Mn P w K mg base 1 T.hold "tops_of" ji (BO T))(rC:Mn P w K mg base 3 T.bot "share" mY (Lu T))(jc:mg "zip"=none):Mn P w K mg base 4 T.hold "shares" jJ (uJ T):=by
 refine F.oA yr λ_ _ _ _ H _ Q E hr h=>?_;obtain⟨⟨n,ρ,A,st,ip,pt,rfl,hh,ep,hkn,q⟩⟩:=h;obtain⟨qq,eq,k1,k2,k3,k4⟩:=hh.h.find ep;have gh:=bQ ep;refine⟨_,(@cU.h _ _ _ (aj (aR (i:=2) yr.nd (bZ fT hr (qv 0) (af (bZ cL hr (qv 0) (af (qv 1) aq)) aq)))
  (ay (bh (Er (LV ["owner","top","self"] [none,none,some 0] rfl (qS K (by rfl) jc (af (aH K (qv 0)) (af (qv 2) aq))) (λ_ _ _ _=>(iM K (n:=2) rfl (cC (aU (i:=0) (show List.Nodup (["owner","top","self"] :Da Str)from by decide +kernel)) (cC (aU (i:=1) (show List.Nodup (["owner","top","self"] :Da Str)from by decide +kernel)) iL)))) (λ_ _ _ _=>(iY (af (qv 0) (af (bZ rC hr (aH K (qv 2)) (af (qv 1) aq)) aq)))) (λ_ _ _ _=>(aQ kK (qv 1) ak (a_ _))) rfl (by rfl))))))),?_⟩
 refine⟨_,Z,A.a,A.dx,_,Z,hh.h.oa,Z,_,Z,A.a,A.dx,_,Z,hh.h.oa,Z,_,Z,⟨⟨n,ρ,A,st,ip,pt,qq,Z,hh.h,hh.wf.dN,ep,eq,?_⟩⟩⟩;refine⟨⟨n,ρ,A,st,ip,pt,qq,Z,hh.h,hh.wf,ep,eq,λl H1 g1 hl hl1=>?_⟩⟩;have f7:=hh.mono g1;have cl:ρ l=none:=hh.g.none hl;have tl:(aX st pt).length=st.own.length:=by unfold aX;rw[jE,hh.wf.rows pt gh,hh.wf.eZ,nQ]
 have gf:=hh.wf.j9;refine⟨A.pl,_,f7.h.gX,λob=>?_⟩;have hl2:upd H1 A.pl (.eX ob (.dK (fU 0 st.own))) l=some (.lst ((aX st pt).map V.int)):=eT f7.h.gX hl1 (λk z=>by cases z);refine⟨_,Z,A.a,T.hold,A.dx,_,_,Z,eT f7.h.gX f7.h.oa (λk z=>by cases z),X.cH,X.hpl,Z,_,Z,_,_,_,_,_,_,Z,.keys ah,.lst (aG.of hl2),λAp Bi=>?_⟩;have xu:H1 Ap=none:=jr f7.h.gX Bi;have ca:ρ Ap=none:=f7.g.none xu;have QU:Ap≠A.pl:=λe=>by rw[e,ah]at Bi;cases Bi
 have nal:Ap≠l:=λe=>by rw[e,hl1]at xu;cases xu
 refine ZD (K:=K) (n:=st.own.length) [0,1] (λi out Hc=>∃H5,Hc=upd H5 A.pl (.eX ob (.dK (fU 0 st.own)))/\Gh ρ H5/\Fr n ρ H ρ H5/\aI T n ρ A H5 { st with kn:=st.kn+i }/\H5 l=some (.lst ((aX st pt).map V.int))/\jn H5 out (((List.zip st.own (aX st pt)).take i).filterMap λx=>if 0<x.2 then some (x.1,Jm.fr x.2 st.prod) else none))
  (by decide) (by omega) ⟨upd H1 Ap (.lst []),iS (bB QU),f7.g.alloc xu,(Fr.of_same (ρ:=ρ) g1).trans (Fr.of_same (aE xu _)),f7.h.mono (aE xu _),by rw[au (bB nal)];exact hl1,.nil⟩ ?_ ?_ ?_ ?_
 .rintro i out Hc hi ha ⟨H5,rfl,G5,F5,h5,l5,S5⟩;exact⟨ah,aG.of (eT h5.gX l5 (λk z=>by cases z)),by rw[aF,p7];exact hi,by rw[aF,tl];exact hi⟩
 .rintro out Hc ha ⟨H5,rfl,G5,F5,h5,l5,S5⟩;exact⟨ah,aG.of (eT h5.gX l5 (λk z=>by cases z)),.inr (by rw[aF,tl];exact aK _)⟩
 .rintro i x out Hc H2 hi Gu ha ⟨H5,rfl,G5,F5,h5,l5,S5⟩ ⟨pp,x1,y1,hpp,rfl,rfl,e1,e2⟩;obtain⟨t,rfl,et⟩:=gi e2;rw[CL,cu]at e1;obtain⟨o,eo,rfl⟩:=kH.mp e1;have npl:pp≠A.pl:=λe=>by rw[e,ah]at hpp;cases hpp
  have Gz:H5 pp=none:=jr h5.gX hpp;have ez:(List.zip st.own (aX st pt))[i]?=some (o,t):=by rw[List.getElem?_zip_eq_some];exact⟨eo,et⟩
  have g6:=aE Gz (.tup [.str o,.int t]);have e6:upd (upd H5 A.pl (.eX ob (.dK (fU 0 st.own)))) pp (.tup [.str o,.int t])=upd (upd H5 pp (.tup [.str o,.int t])) A.pl (.eX ob (.dK (fU 0 st.own))):=iS (bB npl);rw[e6];have G6:=G5.same g6;have F6:=F5.trans (Fr.of_same (ρ:=ρ) g6);have h6:=h5.mono g6;have l6:=g6 _ _ l5;have S6:=S5.mono g6.tups;have t6:upd H5 pp (.tup [.str o,.int t]) pp=some (.tup [.str o,.int t]):=ah;have MQ:upd H5 pp (.tup [.str o,.int t]) Ap=some (.lst out):=by rw[au QU]at ha;exact g6 _ _ ha
  generalize upd H5 pp (.tup [.str o,.int t])=H6 at *;have fz:∀{b:Addr}{u:HO},H6 b=some u->(∀k,u ≠ .dK k)->upd H6 A.pl (.eX ob (.dK (fU 0 st.own))) b=some u:=λe k=>eT h6.gX e k;refine⟨pp,_,Z,dm.of (fz t6 (λk z=>by cases z)),Z,_,Z,_,_,Z,Z,_,Z,?_⟩;refine dF (λc=>?_) (λc=>?_)
  .have c':0<t:=eE c;obtain⟨AT,j1,j2,j3,j4⟩:=h6.okn;have Yw:A.kn≠A.pl:=Ed h6.gM h6.gv (by intro z;cases z);refine⟨_,Z,_,Z,A.a,T.hold,A.dx,_,_,Z,fz h6.oa (λk z=>by cases z),X.cH,X.wV,Z,A.bt,A.db,_,Z,fz h6.jd (λk z=>by cases z),Z,_,Z,
    ⟨⟨A.bt,A.db,A.sp,A.kn,st.stp,st.prod,t,AT,Z,fz h6.jd (λk z=>by cases z),fz h6.lT (λk z=>by cases z),hh.wf.pZ,hh.wf.vj,hh.wf.big,by rw[au Yw];exact j1,(λp hp=>let⟨t,r,e,w⟩:=j2 p hp;⟨t,r,e,fz w (λk z=>by cases z)⟩),KI j3 (by show st.kn+i<_;omega),j4,λr H7 kvs' b1 b2 b3 b4 b5 b6=>?_⟩⟩⟩
   have IT:H7 A.pl=some (.eX ob (.dK (fU 0 st.own))):=b1 _ _ ah (bB Yw);refine⟨(iN 2),λtt Yx=>?_⟩;have ntp:tt≠A.pl:=λe=>by rw[e,IT]at Yx;cases Yx
   have k8:∀b u,H6 b=some u->b≠A.kn->upd H7 A.pl (.dK (fU 0 st.own)) b=some u:=λb u e hb=>by
    by_cases z:b=A.pl
    .rw [z]at e ⊢;rw[show H6 A.pl=some (.dK (fU 0 st.own))from h6.gX]at e;cases e;exact ah
    .rw [au z];exact b1 _ _ (by rw[au z];exact e) hb
   have h8:=h6.WH (m:=st.kn+i+1) k8 (by rw[au Yw];exact b2) (λp hp=>let⟨t,r,e,w⟩:=b3 p hp;⟨t,r,e,jf (.inr ⟨_,IT,Z⟩) _ _ w⟩) (gD b4 (Nat.succ_le_succ j3)) b5;have G8:Gh ρ (upd H7 A.pl (.dK (fU 0 st.own))):=λb cc e=>by
    by_cases z:b=A.pl
    .rw [z];exact⟨_,ah,Z⟩
    by_cases z2:b=A.kn
    .rw [z2,au Yw];exact⟨_,b2,Z⟩
    obtain⟨u,a1,a2⟩:=G6 b cc e;exact⟨u,k8 b u a1 z2,a2⟩
   have F8:Fr n ρ H6 ρ (upd H7 A.pl (.dK (fU 0 st.own))):=λb u e k=>⟨k8 b u e (λz=>k 9 ⟨#[]⟩ (by rw[z];exact h6.gM)),Z⟩
   have tp8:∀b xs,H6 b=some (.tup xs)->upd H7 A.pl (.dK (fU 0 st.own)) b=some (.tup xs):=λb xs e=>k8 b _ e (i8 e j1 (by intro z;cases z));have ajb:upd H7 A.pl (.dK (fU 0 st.own)) tt=none:=by rw[au ntp];exact Yx
   have back:H7=upd (upd H7 A.pl (.dK (fU 0 st.own))) A.pl (.eX ob (.dK (fU 0 st.own))):=by rw[lE,qO IT]
   have QV:upd H7 A.pl (.dK (fU 0 st.own)) r=some (tQ (Jm.fr t st.prod)):=jf (.inr ⟨_,IT,Z⟩) _ _ b6;have l8:=k8 _ _ l6 (λz=>by rw[z,j1]at l6;cases l6);have MN:=k8 _ _ MQ (λz=>by rw[z,j1]at MQ;cases MQ);have S8:=S6.mono tp8;have F08:=F6.trans F8;rw[back]at Yx ⊢;generalize upd H7 A.pl (.dK (fU 0 st.own))=H8 at *;have g9:=aE ajb (.tup [.str o,.ref r]);rw[iS (bB ntp)];refine⟨by rw[au QU];exact g9 _ _ MN,_,iS (bB QU),(G8.same g9).wr rfl,(F08.trans (Fr.of_same (ρ:=ρ) g9)).new (g1.free xu),?_,?_,?_⟩
   .exact (h8.mono g9).same (vq ca (g9 _ _ MN) rfl)
   .rw [au (bB nal)];exact g9 _ _ l8
   .rw [take_snoc ez,List.filterMap_append,Fl];simp only[c',if_true,List.filterMap_nil];exact((S8.mono g9.tups).snoc ah (g9 _ _ QV)).mono (jf (.inr ⟨_,g9 _ _ MN,Z⟩))
  .have c':¬ 0<t:=uY (mU.mpr c);refine⟨by rw[au QU];exact MQ,H6,Z,G6,F6,?_,l6,?_⟩
   .obtain ⟨AT,j1,j2,j3,j4⟩:=h6.okn;exact h6.WH (m:=st.kn+i+1) (λb u e _=>e) j1 j2 (Nat.le_succ_of_le j3) j4
   .rw [take_snoc ez,List.filterMap_append,Fl];simp only[c',pM,List.filterMap_nil,Bs];exact S6
 .rintro out Hc Gu ha ⟨H5,rfl,G5,F5,h5,l5,S5⟩;rw[Rj (by rw[List.length_zip,tl];omega)]at S5;refine⟨ah,?_⟩;rw[lE,qO (show H5 A.pl=some (.dK (fU 0 st.own))from h5.gX)];rw[au QU]at ha;obtain⟨AT,j1,j2,j3,j4⟩:=h5.okn;have h9:=h5.WH (m:=st.kn+100) (λb u e _=>e) j1 j2 (gD j3 (by show st.kn+st.own.length<=st.kn+100;omega)) j4;exact q Ap out H5 ⟨G5,h9,R6 hh.wf hkn⟩ F5 (g1.free xu) ha ca S5
abbrev uc:Stmt:=inClass (top 21) 4
abbrev qu:Da Str:=["self","owner","amount"]
abbrev MR:Da Str:=qu.append ["place","whole","added"]
def nV:aM MR qu (aD uc):=dP
theorem GB{T:TC}{e:Ec}(F:gF K T.hold "award" "Hold.award" uc f fd)(X:Txt K T)(cQ:Mn P w K mg base 1 T.hold "place_of" fZ (sN (zm T e)))(jh:Dn P w K mg base 1 "check_amount" jg (sN (AU e)))(gW:Mn P w K mg base 1 T.hold "whole" kr (BQ T))(kC:Mn P w K mg base 3 T.hold "blend" mL (FW T K))(cE:mg "len"=none):Mn P w K mg base 4 T.hold "award" qu (sN (LZ T e)):=by
 refine F.oA nV λ_ _ _ _ H _ Q E hr h=>?_;obtain⟨⟨n,ρ,A,st,o,a,rfl,hh,aw,dq⟩⟩:=h;refine⟨_,(@cU.h _ _ _ (aj (aR (i:=3) nV.nd (bZ cQ hr (qv 0) (af (qv 1) aq)))
  (aj (bO (br jh hr (af (qv 2) aq)))
  (aj (aR (i:=4) nV.nd (f_ gW hr (qv 0)))
  (aj (cN (aQ Kn (qv 2) (qv 4) (a_ _)) (ay iT) bJ)
  (aj (aR (i:=5) nV.nd (aL Tw (iE (af ak aq)) (bV wQ (by rfl) cE gr (af (aH K (qv 0)) aq))))
  (aj (nJ (aL iB (qv 2) (aH K (aH K (qv 0)))) (nK (qv 5) (qv 3) set_list))
  (ay (bO (bZ kC hr (qv 0) (af (aL mw (qv 4) (qv 2)) (af (qv 4) (af (qv 5) aq))))))))))))),?_⟩
 have wf:=hh.wf;refine⟨_,Z,A.a,A.dx,_,Z,hh.h.oa,Z,_,Z,⟨⟨n,ρ,A,st,o,Z,hh.h,λho=>dq.no 2 (by unfold kg;exact aC ho),λho=>?_⟩⟩⟩;refine⟨_,Z,⟨⟨a,Z,λh5=>dq.no 5 (by unfold kg;rw[aB ho,aB h5]),λh1=>?_⟩⟩⟩;refine⟨_,Z,A.a,A.dx,_,Z,hh.h.oa,Z,⟨⟨n,ρ,A,st,Z,hh.h,wf.kM,λH1 g1=>?_⟩⟩⟩;refine⟨_,Z,_,Z,_,_,Z,Z,_,Z,dF (λc=>?_) (λc=>?_)⟩
 .have c':aS st<=a:=eE c;exact dq.no 6 (by unfold kg;rw[aB ho,aC (show ¬ a<1 by omega),aB c']) 0 H1 g1
 have c':¬ aS st<=a:=uY (mU.mpr c);have q:=dq.ok (by unfold kg;rw[aB ho,aC (show ¬ a<1 by omega),aC c']);have f7:=hh.mono g1;have F1:Fr n ρ H ρ H1:=Fr.of_same g1;clear hh;refine⟨(iN 1),λp0 hp0=>?_⟩;have g2:=aE hp0 (.lst [.int 0]);have lW:=f7.mono g2;have F2:=F1.trans (Fr.of_same (ρ:=ρ) g2);have Xl:upd H1 p0 (.lst [.int 0]) p0=some (.lst [.int 0]):=ah;generalize upd H1 p0 (.lst [.int 0])=H2 at *;clear f7 F1;have Cq:=p7 st.own 0;have gf:=lW.wf.j9;refine⟨_,Z,A.a,T.hold,A.dx,_,_,Z,lW.h.oa,X.cH,X.hpl,Z,A.pl,_,Z,lW.h.gX,p0,_,_,Z,Z,Xl,by omega,by rw[Cq];omega,by rw[Cq];show 1*_<=_;rw[uZ,Nat.one_mul];exact small (by omega),λp1 hp1=>?_⟩;rw[Cq,uZ,show(List.replicate st.own.length [V.int 0]).flatten=(List.replicate st.own.length (0:Int)).map V.int from by rw[List.map_replicate,List.flatten_replicate_singleton]];have g3:=aE hp1 (.lst ((List.replicate st.own.length (0:Int)).map V.int));have lX:=lW.mono g3;have F3:=F2.trans (Fr.of_same (ρ:=ρ) g3);have n1:H p1=none:=(g1.trans g2).free hp1;have c1:ρ p1=none:=lW.g.none hp1;have zN:upd H2 p1 (.lst ((List.replicate st.own.length (0:Int)).map V.int)) p1=_:=ah;generalize upd H2 p1 (.lst ((List.replicate st.own.length (0:Int)).map V.int))=H3 at *;have hi:=List.idxOf_lt_length_iff.mpr ho;have bo:=aw.blend (o:=o) wf h1 (by omega);have za:RI a st.prod:=.inl (by have:(aS st).natAbs<2 ^ 60:=aw.big;omega);refine⟨_,Z,_,Z,A.a,T.hold,A.dx,_,_,Z,lX.h.oa,X.cH,X.wV,Z,A.bt,T.bot,A.db,_,_,Z,lX.h.jd,X.cB,X.HX,Z,_,_,Z,Z,za,_,Z,_,Z,p1,_,_,st.own.idxOf o,Z,Z,zN,by rw[aF,mh];exact yd hi,?_⟩;rw[show((List.replicate st.own.length (0:Int)).map V.int).set (st.own.idxOf o) (V.int (a*st.prod))=(nj st o a).map V.int from by unfold nj;rw[uE]];have nc:=lX.Eh (o:=.lst ((nj st o a).map V.int)) c1 zN rfl rfl;have F4:=F3.new (o:=.lst ((nj st o a).map V.int)) n1;have Gr:upd H3 p1 (.lst ((nj st o a).map V.int)) p1=_:=ah;generalize upd H3 p1 (.lst ((nj st o a).map V.int))=H4 at *;have zk:Jm.Sz 60 (aS st-a):=bo.big.of_le (by omega);have zG:∀m∈nj st o a,0<=m/\Jm.Sz 8900 m:=λm hm=>by have Eg:=bo.add m hm;have h2:=wf.gu;have zl:Jm.Sz 60 a:=bo.big.of_le (by omega);exact⟨Eg.1,Jm.Sz.pU (by have:=rN bo.l (show 0<=st.prod by omega);omega) Eg.2 ((zl.mul bo.prod).mono (by decide))⟩
 exact⟨_,Z,A.a,A.dx,_,Z,nc.h.oa,Z,_,Z,_,Z,_,_,Z,Z,_,Z,_,Z,⟨⟨n,ρ,A,st,aS st-a,aS st,p1,nj st o a,Z,nc,aG.of Gr,bo.len,bo.k,by omega,zk,bo.big,zG,aw.bU,aw.stp,yZ wf bo,λρ6 A6 H6 tG e6 f6=>q ρ6 A6 H6 tG e6 (F4.trans f6)⟩⟩⟩
abbrev rD:Stmt:=inClass (top 21) 5
abbrev nW:Da Str:=["self","part","amount"]
abbrev Jv:Da Str:=nW
def GD:aM Jv nW (aD rD):=dP
theorem EO{T:TC}{e:Ec}(F:gF K T.hold "mishap" "Hold.mishap" rD f fd)(X:Txt K T)(cL:Mn P w K mg base 1 T.hold "part_of" eV (sN (mE T e)))(mO:Dn P w K mg base 2 "check_loss" mJ (sN (LY e)))(jH:Mn P w K mg base 1 T.hold "lessen" lg (LG T)):Mn P w K mg base 3 T.hold "mishap" nW (sN (Iq T e)):=by
 refine F.oA GD λ_ _ _ _ H _ Q E hr h=>?_;obtain⟨⟨n,ρ,A,st,x,a,rfl,hh,dq⟩⟩:=h;refine⟨_,(@cU.h _ _ _ (aj (bO (br mO hr (af (aH K (bZ cL hr (qv 0) (af (qv 1) aq))) (af (qv 2) aq))))
  (ay (bO (bZ jH hr (qv 0) (af (qv 1) (af (qv 2) aq))))))),?_⟩
 refine⟨_,Z,A.a,A.dx,_,Z,hh.h.oa,Z,_,Z,⟨⟨n,ρ,A,st,x,Z,hh.h,hh.wf.dN,λhn=>dq.no 3 ?_,λi p qq e1 e2 e3=>?_⟩⟩⟩
 .unfold jF;rw[aC (λz=>?_)];obtain⟨j,p,h1,h2⟩:=j0 z;exact hn p (bQ h1) h2
 obtain⟨k1,_⟩:=hh.h.opt i p qq e2 e3;have hm:x∈eL st:=by rw[<-e1];exact BU e2
 have gh:=bQ e2;have ew:(bP st x).wo=p.wo:=by rw[d_ hh.wf gh e1]
 refine⟨qq.1,T.part,qq.2.1,_,_,Z,k1,X.cP,X.vh,Z,_,Z,⟨⟨p.wo,a,Z,λh5=>dq.no 5 ?_,λh1 h6=>dq.no 6 ?_,λh1 h2=>?_⟩⟩⟩
 .unfold jF;rw[aB hm,aB h5]
 .unfold jF;rw[aB hm,aC (show ¬ a<1 by omega)];show(if(bP st x).wo<a then _ else _)=_;rw[ew,aB h6]
 have ho:=dq.ok (by unfold jF;rw[aB hm,aC (show ¬ a<1 by omega)];show(if(bP st x).wo<a then _ else _)=_;rw[ew,aC (by omega)]);exact⟨_,Z,A.a,A.dx,_,Z,hh.h.oa,Z,_,Z,_,Z,⟨⟨n,ρ,A,st,(x,a),Z,hh,⟨p,gh,e1,h2⟩,FY hh.wf (λp' gT e'=>by rw[uP hh.wf gT gh (e'.trans e1.symm)];exact h2),ho⟩⟩⟩
abbrev vV:Stmt:=inClass (top 21) 6
abbrev sf:Da Str:=["self","part","amount"]
abbrev Oz:Da Str:=sf.append ["risen"]
def Bh:aM Oz sf (aD vV):=dP
theorem Jw{T:TC}{e:Ec}(F:gF K T.hold "rise" "Hold.rise" vV f fd)(X:Txt K T)(cL:Mn P w K mg base 1 T.hold "part_of" eV (sN (mE T e)))(jh:Dn P w K mg base 1 "check_amount" jg (sN (AU e))):Mn P w K mg base 2 T.hold "rise" sf (sN (Qq T e)):=by
 refine F.oA Bh λ_ _ _ _ H _ Q E hr h=>?_;obtain⟨⟨n,ρ,A,st,x,a,rfl,hh,dq⟩⟩:=h;refine⟨_,(@cU.h _ _ _ (aj (aR (i:=3) Bh.nd (bZ cL hr (qv 0) (af (qv 1) aq)))
  (aj (bO (br jh hr (af (qv 2) aq)))
  (ay (qd K (qv 3) (qv 2) aaW))))),?_⟩
 refine⟨_,Z,A.a,A.dx,_,Z,hh.h.oa,Z,_,Z,⟨⟨n,ρ,A,st,x,Z,hh.h,hh.wf.dN,λhn=>dq.no 3 ?_,λi p qq e1 e2 e3=>?_⟩⟩⟩
 .unfold lU;rw[aC (λz=>?_)];obtain⟨j,p,h1,h2⟩:=j0 z;exact hn p (bQ h1) h2
 subst e1;obtain⟨k1,k2,k3,k4⟩:=hh.h.opt i p qq e2 e3;have hm:=BU e2;refine⟨_,Z,⟨⟨a,Z,λh5=>dq.no 5 ?_,λh1=>?_⟩⟩⟩
 .unfold lU;rw[aB hm,aB h5]
 have ho:=dq.ok (by unfold lU;rw[aB hm,aC (show ¬ a<1 by omega)]);refine⟨_,Z,qq.1,T.part,qq.2.1,_,_,Z,k1,X.cP,X.vh,Z,_,Z,_,_,Z,Z,qq.2.1,_,k1,by show 6<1000;decide,?_⟩;have Eg:=hh.h.jq (p1:={ p with wo:=p.wo+a }) hh.g e2 e3 rfl rfl hh.wf.dN;have hw:Wf (Ks st p.nm a):=AV hh.wf λq hq _=>⟨Z,Z,Z,Z,by have:=(hh.wf.kG q hq).1;show 1<=q.wo+a;omega,(hh.wf.kG q hq).2⟩
 have es:Ks st p.nm a={ st with ai:=st.ai.set i { p with wo:=p.wo+a } }:=qW hh.wf.dN e2 _;rw[es]at ho hw;exact ho ρ A _ ⟨hh.g.wr rfl,Eg,hw⟩ rfl (Fr.write k3)
abbrev vW:Stmt:=inClass (top 21) 7
abbrev sj:Da Str:=["self","part","taker"]
abbrev OA:Da Str:=sj.append ["handed","to","at","tops"]
def mP:aM OA sj (aD vW):=dP
theorem Jx{T:TC}{e:Ec}(F:gF K T.hold "hand" "Hold.hand" vW f fd)(X:Txt K T)(cL:Mn P w K mg base 1 T.hold "part_of" eV (sN (mE T e)))(cQ:Mn P w K mg base 1 T.hold "place_of" fZ (sN (zm T e)))(fT:Mn P w K mg base 1 T.hold "tops_of" ji (BO T))(fR:Mn P w K mg base 1 T.hold "beyond_common" gU (R5 T K)):Mn P w K mg base 2 T.hold "hand" sj (sN (Qs T e)):=by
 refine F.oA mP λ_ _ _ _ H _ Q E hr h=>?_;obtain⟨⟨n,ρ,A,st,x,o,rfl,hh,hs,dq⟩⟩:=h;refine⟨_,(@cU.h _ _ _ (aj (aR (i:=3) mP.nd (bZ cL hr (qv 0) (af (qv 1) aq)))
  (aj (aR (i:=4) mP.nd (bZ cQ hr (qv 0) (af (qv 2) aq)))
  (aj (aR (i:=5) mP.nd (bZ cQ hr (qv 0) (af (aH K (qv 3)) aq)))
  (aj (cN (aQ eF (qv 4) (qv 5) (a_ _)) (ay ZU) bJ)
  (aj (aR (i:=6) mP.nd (bZ fT hr (qv 0) (af (qv 3) aq)))
  (aj (Qm (qv 6) (qv 4) Ma (aO (cZ K) (qv 6) (qv 5)) aaH set_list)
  (aj (nJ ak (nK (qv 6) (qv 5) set_list))
  (aj (cK K (qv 3) (qv 2))
  (aj (cK K (qv 3) ak)
  (ay (cK K (qv 3) (bZ fR hr (qv 0) (af (qv 6) aq)))))))))))))),?_⟩
 have wf:=hh.wf;refine⟨_,Z,A.a,A.dx,_,Z,hh.h.oa,Z,_,Z,⟨⟨n,ρ,A,st,x,Z,hh.h,wf.dN,λhn=>dq.no 3 ?_,λi p qq e1 e2 e3=>?_⟩⟩⟩
 .unfold kP;rw[aC (λz=>?_)];obtain⟨j,p,h1,h2⟩:=j0 z;exact hn p (bQ h1) h2
 have gh:=bQ e2;have eg:bP st x=p:=d_ wf gh e1;subst e1;have hm:=BU e2;refine⟨_,Z,A.a,A.dx,_,Z,hh.h.oa,Z,_,Z,⟨⟨n,ρ,A,st,o,Z,hh.h,λho=>dq.no 2 (by unfold kP;rw[aB hm,aC ho]),λho=>?_⟩⟩⟩;have eR:kP st p.nm o=none:=by unfold kP;rw[aB hm,aB ho]
 have q:=dq.ok eR;have wS:=Qu wf eR hs;obtain⟨k1,k2,k3,k4⟩:=hh.h.opt i p qq e2 e3;have Yy:=wf.ow p gh;refine⟨_,Z,A.a,A.dx,_,Z,hh.h.oa,Z,_,Z,qq.1,T.part,qq.2.1,_,_,Z,k1,X.cP,X.pow,Z,⟨⟨n,ρ,A,st,p.ow,Z,hh.h,λz=>absurd Yy z,λ_=>?_⟩⟩⟩;refine⟨_,Z,_,Z,Z,_,Z,dF (λc=>?_) (λc=>?_)⟩
 .have c':st.own.idxOf o=st.own.idxOf p.ow:=by have:=V.int.inj (eE c);omega
  unfold eU at q;rw[eg,aB c']at q;exact q ρ A H hh rfl Fr.refl
 have ne:st.own.idxOf o≠st.own.idxOf p.ow:=λz=>c (bL (by rw[z]));have hl:=Ir wf gh;have ha:st.own.idxOf p.ow<(aX st p).length:=by rw[hl];exact wF Yy
 have hb:st.own.idxOf o<(aX st p).length:=by rw[hl];exact wF ho
 have at':∀{l:Da Int}{j:Nat},j<l.length->pS (l.map V.int) (j:Int)=some (.int (l.getD j 0)):=λ{l j} h=>aN (by rw[cu,nE,bu h];rfl);unfold eU at q wS;rw[eg,aC ne,qW wf.dN e2]at q wS;generalize hTT:jP st p o=TT at *;rw[zx]at hTT;refine⟨_,Z,A.a,A.dx,_,Z,hh.h.oa,Z,_,Z,⟨⟨n,ρ,A,st,i,p,qq,Z,hh.h,wf,e2,e3,λl H1 g1 tH hl1=>?_⟩⟩⟩;have cl:ρ l=none:=hh.g.none tH;refine⟨_,Z,_,Z,l,_,_,_,Z,Z,aG.of hl1,at' hb,_,Z,_,Z,l,_,_,_,Z,Z,aG.of hl1,at' ha,_,_,Z,Z,l,_,_,st.own.idxOf o,Z,Z,hl1,by rw[aF];exact yd hb,?_⟩;have m1:(List.map V.int (aX st p)).set (st.own.idxOf o) (.int ((aX st p).getD (st.own.idxOf o) 0+(aX st p).getD (st.own.idxOf p.ow) 0))=((aX st p).set (st.own.idxOf o) ((aX st p).getD (st.own.idxOf o) 0+(aX st p).getD (st.own.idxOf p.ow) 0)).map V.int:=uE.symm;rw[m1];refine⟨_,Z,_,Z,l,_,_,st.own.idxOf p.ow,Z,Z,ah,by rw[aF,gq];exact yd ha,?_⟩;have m2:(((aX st p).set (st.own.idxOf o) ((aX st p).getD (st.own.idxOf o) 0+(aX st p).getD (st.own.idxOf p.ow) 0)).map V.int).set (st.own.idxOf p.ow) (.int 0)=TT.map V.int:=by rw[<-hTT];exact uE.symm
 rw[m2,lE];have g3:aJ H (upd H1 l (.lst (TT.map V.int))):=g1.cW tH _;have hl3:upd H1 l (.lst (TT.map V.int)) l=some (.lst (TT.map V.int)):=ah;generalize upd H1 l (.lst (TT.map V.int))=H3 at *;have lX:=hh.mono g3;have c3:=g3 _ _ k1;have hi:i<st.ai.length:=(dX.mp e2).1;have tl:TT.length=st.own.length:=by rw[<-hTT,Ga,hl]
 clear hl1 g1 m1 m2;refine⟨_,Z,_,Z,qq.1,T.part,qq.2.1,_,Z,c3,X.cP,X.pow,by show 6<1000;decide,?_⟩;have hA:=lX.h.jq (p1:={ p with ow:=o }) lX.g e2 e3 rfl rfl wf.dN;have gA:Gh ρ (upd H3 qq.1 (.ins T.part qq.2.1 (cT { p with ow:=o } qq.2.2))):=lX.g.wr rfl;have FA:Fr n ρ H ρ (upd H3 qq.1 (.ins T.part qq.2.1 (cT { p with ow:=o } qq.2.2))):=(Fr.of_same g3).trans (Fr.write k3);have kA:upd H3 qq.1 (.ins T.part qq.2.1 (cT { p with ow:=o } qq.2.2)) qq.1=some (.ins T.part qq.2.1 (cT { p with ow:=o } qq.2.2)):=ah;have nA:∀b,upd H3 qq.1 (.ins T.part qq.2.1 (cT { p with ow:=o } qq.2.2)) b=none->H b=none:=λb h=>g3.free (gR h);have lA:upd H3 qq.1 (.ins T.part qq.2.1 (cT { p with ow:=o } qq.2.2)) l=some (.lst (TT.map V.int)):=by rw[au (λz=>by rw[z,k3]at cl;cases cl)];exact hl3
 show i9 _ _ _ _ (upd H3 qq.1 (.ins T.part qq.2.1 (cT { p with ow:=o } qq.2.2)));generalize upd H3 qq.1 (.ins T.part qq.2.1 (cT { p with ow:=o } qq.2.2))=H4 at *;refine⟨_,Z,qq.1,T.part,qq.2.1,_,Z,kA,X.cP,X.HW,by show 6<1000;decide,?_⟩;have ndA:((st.ai.set i { p with ow:=o }).map (·.nm)).Nodup:=by rw[uE,sY (by rw[cu,e2];rfl)];exact wf.dN
 have hB:=hA.jq (i:=i) (p1:={ p with ow:=o,sc:=1 }) gA (qJ hi) e3 rfl rfl ndA;have gB:Gh ρ (upd H4 qq.1 (.ins T.part qq.2.1 (cT { p with ow:=o,sc:=1 } qq.2.2))):=gA.wr rfl;have FB:Fr n ρ H ρ (upd H4 qq.1 (.ins T.part qq.2.1 (cT { p with ow:=o,sc:=1 } qq.2.2))):=FA.trans (Fr.write k3);have kB:upd H4 qq.1 (.ins T.part qq.2.1 (cT { p with ow:=o,sc:=1 } qq.2.2)) qq.1=some (.ins T.part qq.2.1 (cT { p with ow:=o,sc:=1 } qq.2.2)):=ah;have lB:upd H4 qq.1 (.ins T.part qq.2.1 (cT { p with ow:=o,sc:=1 } qq.2.2)) l=some (.lst (TT.map V.int)):=by rw[au (λz=>by rw[z,k3]at cl;cases cl)];exact lA
 have nB:∀b,upd H4 qq.1 (.ins T.part qq.2.1 (cT { p with ow:=o,sc:=1 } qq.2.2)) b=none->H b=none:=λb h=>nA b (gR h);have Yz:(st.ai.set i { p with ow:=o }).set i { p with ow:=o,sc:=1 }=st.ai.set i { p with ow:=o,sc:=1 }:=wK ..;have hB:aI T n ρ A (upd H4 qq.1 (.ins T.part qq.2.1 (cT { p with ow:=o,sc:=1 } qq.2.2))) { st with ai:=st.ai.set i { p with ow:=o,sc:=1 } }:=by rw[<-Yz];exact hB
 generalize hH5:upd H4 qq.1 (HO.ins T.part qq.2.1 (gY _ _ _))=H5;have ajc:upd H4 qq.1 (.ins T.part qq.2.1 (cT { p with ow:=o,sc:=1 } qq.2.2))=H5:=hH5;rw[ajc]at hB gB FB kB lB nB;clear hA gA FA kA nA lA;have ol:=wf.j9;refine⟨_,Z,A.a,A.dx,_,Z,hB.oa,Z,_,Z,⟨⟨n,ρ,A,_,l,TT,Z,hB,aG.of lB,by show _=st.bq.length;rw[tl,wf.eZ],by omega,λr H6 g6 hr0 hr1=>?_⟩⟩⟩;have cr:ρ r=none:=gB.none hr0;have h6:=hB.mono g6;have G6:=gB.same g6;have F6:Fr n ρ H (cy ρ r (n,21,p.nm)) H6:=(FB.trans (Fr.of_same (ρ:=ρ) g6)).oE (nB _ hr0);have hC:aI T n (cy ρ r (n,21,p.nm)) A H6 _:=h6.same ⟨λ_ _ e=>e,λb u x w _ hc he=>⟨he,by rw[aP (λz=>by rw[z,cr]at hc;cases hc)];exact hc⟩⟩;have GC:Gh (cy ρ r (n,21,p.nm)) H6:=G6.color hr1 rfl;have ndB:((st.ai.set i { p with ow:=o,sc:=1 }).map (·.nm)).Nodup:=by rw[uE,sY (by rw[cu,e2];rfl)];exact wf.dN
 have hD:=hC.WU (p1:={ p with ow:=o,sc:=1,row:=j_ st TT }) GC (qJ hi) e3 rfl bN hr1 ndB;refine⟨_,Z,qq.1,T.part,qq.2.1,_,Z,g6 _ _ kB,X.cP,X.Ln,by show 6<1000;decide,?_⟩;refine q _ { A with qs:=A.qs.set i (qq.1,qq.2.1,r) } _ ⟨GC.wr rfl,?_,wS⟩ rfl (F6.trans (Fr.write (t:=20) (x:=p.nm) (by rw[aP (λz=>by rw[<-z,k3]at cr;cases cr)];exact k3)));have eS2:(st.ai.set i { p with ow:=o,sc:=1 }).set i { p with ow:=o,sc:=1,row:=j_ st TT }=st.ai.set i { p with ow:=o,sc:=1,row:=j_ st TT }:=wK ..;rw[<-eS2];exact hD
abbrev vX:Stmt:=inClass (top 21) 8
abbrev sr:Da Str:=["self","part"]
abbrev OB:Da Str:=sr.append ["leaving","gains"]
def vY:aM OB sr (aD vX):=dP
theorem Jy{T:TC}{e:Ec}(F:gF K T.hold "land" "Hold.land" vX f fd)(X:Txt K T)(cL:Mn P w K mg base 1 T.hold "part_of" eV (sN (mE T e)))(cQ:Mn P w K mg base 1 T.hold "place_of" fZ (BN T))(fT:Mn P w K mg base 1 T.hold "tops_of" ji (BO T))(lz:Mn P w K mg base 4 T.hold "shares" jJ (uJ T))(jc:mg "zip"=none):Mn P w K mg base 5 T.hold "land" sr (sN (Qw T e)):=by
 refine F.oA vY λ_ _ _ _ H _ Q E hr h=>?_;obtain⟨⟨n,ρ,A,st,x,rfl,hh,ld,dq⟩⟩:=h;refine⟨_,(@cU.h _ _ _ (aj (aR (i:=2) vY.nd (bZ cL hr (qv 0) (af (qv 1) aq)))
  (aj (bO (kQ lJ nZ n5 ee (aH K (qv 0)) (af (iY (af (aH K (qv 2)) (af (aH K (qv 2)) (af (aH K (qv 2)) (af (bZ lz hr (qv 0) (af (qv 1) aq)) aq))))) aq)))
  (aj (pA (i:=3) ["purse","top","leaving"] [none,none,some 2] vY.nd rfl rfl rfl (qS K (by rfl) jc (af (aH K (qv 0)) (af (bZ fT hr (qv 0) (af (qv 2) aq)) aq))) (λ_ _ _ _=>(iM K (n:=2) rfl (cC (aU (i:=0) (show List.Nodup (["purse","top","leaving"] :Da Str)from by decide +kernel)) (cC (aU (i:=1) (show List.Nodup (["purse","top","leaving"] :Da Str)from by decide +kernel)) iL)))) (λ_ _ _ _=>(aL cS (qv 0) (aL iB (aH K (qv 2)) (qv 1)))) rfl (by rfl) (by rfl))
  (aj (Qm (qv 3) (bZ cQ hr (qv 0) (af (aH K (qv 2)) aq)) Ma (aL iB (aH K (qv 2)) (aH K (aH K (qv 0)))) aaI set_list)
  (aj (cK K (qv 0) (qv 3))
  (ay (Qp (aH K (qv 0)) (qv 1))))))))),?_⟩
 refine⟨_,Z,A.a,A.dx,_,Z,hh.h.oa,Z,_,Z,⟨⟨n,ρ,A,st,x,Z,hh.h,hh.wf.dN,λhn=>dq.no 3 ?_,λi p qq e1 e2 e3=>?_⟩⟩⟩
 .unfold rZ;rw[aC (λz=>?_)];obtain⟨j,p,h1,h2⟩:=j0 z;exact hn p (bQ h1) h2
 subst e1;have wf:=hh.wf;have gh:=bQ e2;have eR:rZ st p.nm=none:=aB (BU e2);have q:=dq.ok eR;have wS:=Qy wf eR ld;rw[vF wf gh]at q wS;obtain⟨k1,k2,k3,k4⟩:=hh.h.opt i p qq e2 e3;obtain⟨Uj,hv0,hA0⟩:=hh.h.m9;refine⟨_,Z,A.a,T.hold,A.dx,_,_,Z,hh.h.oa,X.cH,X.has,Z,.inl ⟨Z,_,aG.of hv0⟩,_,Z,qq.1,T.part,qq.2.1,_,_,Z,k1,X.cP,X.Qa,Z,_,Z,qq.1,T.part,qq.2.1,_,_,Z,k1,X.cP,X.pow,Z,_,Z,qq.1,T.part,qq.2.1,_,_,Z,k1,X.cP,X.vh,Z,_,Z,A.a,A.dx,_,Z,hh.h.oa,Z,_,Z,⟨⟨n,ρ,A,st,i,p,Z,hh,e2,ld.kn,λr ws H1 f7 F1 hr0 hr1 cr1 sh1=>?_⟩⟩⟩;have hi:i<st.ai.length:=(dX.mp e2).1;refine⟨(iN 4),λt ht=>?_⟩;have g2:=aE ht (.tup [.str p.nm,.str p.ow,.int p.wo,.ref r]);have fr1:∀b,H1 b=none->H b=none:=λb hb=>F1.afx f7.g hb;have fr2:∀b,upd H1 t (.tup [.str p.nm,.str p.ow,.int p.wo,.ref r]) b=none->H b=none:=λb hb=>fr1 b (gR hb);have lW:=f7.mono g2;have F2:=F1.trans (Fr.of_same (ρ:=ρ) g2);have hr2:=g2 _ _ hr1;have sh2:=sh1.mono g2.tups;have YA:upd H1 t (.tup [.str p.nm,.str p.ow,.int p.wo,.ref r]) t=some (.tup [.str p.nm,.str p.ow,.int p.wo,.ref r]):=ah;show tP _ (upd H1 t (.tup [.str p.nm,.str p.ow,.int p.wo,.ref r])) _;generalize upd H1 t (.tup [.str p.nm,.str p.ow,.int p.wo,.ref r])=H2 at *;clear g2 sh1 hr1 F1;have cH:aI T n (cy ρ r (n,30,⟨#[]⟩)) A H2 { st with kn:=st.kn+100 }:=lW.h.same ⟨λ_ _ e=>e,λb u x w _ hc he=>⟨he,by rw[aP (λz=>by rw[z,cr1]at hc;cases hc)];exact hc⟩⟩;have cG:Gh (cy ρ r (n,30,⟨#[]⟩)) H2:=lW.g.color hr2 rfl;have cF:Fr n ρ H (cy ρ r (n,30,⟨#[]⟩)) H2:=F2.oE hr0;have cr2:cy ρ r (n,30,⟨#[]⟩) r=some (n,30,⟨#[]⟩):=bN;generalize cy ρ r (n,30,⟨#[]⟩)=ρ2 at *;clear lW F2;obtain⟨IU,hv2,hA2⟩:=cH.m9;have hal:IU.length<1000:=by rw[show IU.length=st.dO.length from hA2.length];exact ld.dO
 refine⟨A.as,IU,_,Z,Z,hv2,dw (by omega),?_⟩;have h3:aI T n ρ2 A (upd H2 A.as (.lst (IU++[.ref t]))) { st with dO:=st.dO++[⟨p.nm,p.ow,p.wo,gO st p⟩],kn:=st.kn+100 }:=cH.abC (x:=⟨p.nm,p.ow,p.wo,gO st p⟩) cG hv2 YA hr2 cr2 sh2;have G3:=cG.wr (a:=A.as) (o:=.lst (IU++[.ref t])) rfl;have F3:=cF.trans (Fr.write (o:=.lst (IU++[.ref t])) cH.gG);have Yh:∀b,upd H2 A.as (.lst (IU++[.ref t])) b=none->H b=none:=λb hb=>fr2 b (gR hb);have wf3:Wf { st with dO:=st.dO++[⟨p.nm,p.ow,p.wo,gO st p⟩],kn:=st.kn+100 }:={ wf with vm:=wS.vm,HY:=wS.HY }
 generalize upd H2 A.as (.lst (IU++[.ref t]))=H3 at *;clear cH cG cF hv2 hA2 YA hr2 sh2;obtain⟨j1,j2,_,_⟩:=h3.opt i p qq e2 e3;refine⟨_,Z,A.a,T.hold,A.dx,_,_,Z,h3.oa,X.cH,X.zZ,Z,_,Z,A.a,A.dx,_,Z,h3.oa,Z,_,Z,⟨⟨n,ρ2,A,_,i,p,qq,Z,h3,wf3,e2,e3,λl H4 g4 tH hl1=>?_⟩⟩⟩;have hl1:H4 l=some (.lst ((aX st p).map V.int)):=hl1;have tl:=Ir wf gh;have gf:=wf.j9;have mD:=wf.mD;have j4:=g4 _ _ j1;have zw:=ld.wo p gh;refine⟨_,_,_,_,_,_,Z,.lst (aG.of (g4 _ _ h3.jC)),.lst (aG.of hl1),λAp Bi=>?_⟩;refine yf (K:=K) (n:=st.bU.length) [0,1] (λi out H5=>aJ H4 H5/\out=(List.zipWith (λu t=>u+p.wo*t) (st.bU.take i) ((aX st p).take i)).map V.int) (by decide) (by omega) ⟨aE Bi _,Z⟩ (λi out H5 hi _ hp=>⟨aG.of (hp.1 _ _ (g4 _ _ h3.jC)),aG.of (hp.1 _ _ hl1),by rw[aF];exact hi,by rw[aF,tl];omega⟩)
  (λout H5 _ hp=>⟨aG.of (hp.1 _ _ (g4 _ _ h3.jC)),aG.of (hp.1 _ _ hl1),.inl (by rw[aF];exact aK _)⟩) ?_ ?_
 .rintro k x out H5 H6 hk ajd ha ⟨g5,e5⟩ ⟨pp,x1,y1,hpp,rfl,rfl,e6,e7⟩;obtain⟨u,rfl,eu⟩:=gi e6;obtain⟨c,rfl,ec⟩:=gi e7;have g6:=aE hpp (.tup [.int u,.int c]);refine⟨pp,_,Z,dm.of ah,Z,_,Z,_,Z,qq.1,T.part,qq.2.1,_,_,Z,(g5.trans g6) _ _ j4,X.cP,X.vh,Z,_,Z,_,_,Z,Z,.inl (by have:p.wo.natAbs<2 ^ 60:=zw;omega),_,_,Z,Z,g6 _ _ ha,(g5.trans g6).cW Bi _,?_⟩;rw[sX _ eu ec,e5,b8];rfl
 rintro out H5 ajd ha5 ⟨g5,e5⟩;rw[c7,show st.bU.length=(aX st p).length by omega,c7]at e5;have e5:out=(fu st p).map V.int:=e5;subst e5;have MS:H3 Ap=none:=g4.free Bi;have g35:=g4.trans g5;have h5:=h3.mono g35;have G5:=G3.same g35;have F5:=F3.trans (Fr.of_same (ρ:=ρ2) g35);have ca:ρ2 Ap=none:=G3.none MS;have j5:=g5 _ _ j4;have hown:=wf.ow p gh;have gl:=AW wf gh;have hix:st.own.idxOf p.ow<(fu st p).length:=by rw[gl];exact wF hown
 refine⟨_,Z,_,Z,A.a,A.dx,_,Z,h5.oa,Z,_,Z,qq.1,T.part,qq.2.1,_,_,Z,j5,X.cP,X.pow,Z,⟨⟨n,ρ2,A,_,p.ow,Z,h5,hown,?_⟩⟩⟩;have at':pS ((fu st p).map V.int) ((st.own.idxOf p.ow:Nat):Int)=some (.int ((fu st p).getD (st.own.idxOf p.ow) 0)):=aN (by rw[cu,nE,bu hix];rfl);refine⟨Ap,_,_,_,Z,Z,aG.of ha5,at',_,Z,qq.1,T.part,qq.2.1,_,_,Z,j5,X.cP,X.vh,Z,_,Z,A.a,T.hold,A.dx,_,_,Z,h5.oa,X.cH,X.wV,Z,A.bt,T.bot,A.db,_,_,Z,h5.jd,X.cB,X.HX,Z,_,_,Z,Z,.inl (by have:p.wo.natAbs<2 ^ 60:=zw;omega),_,_,Z,Z,Ap,_,_,st.own.idxOf p.ow,Z,Z,ha5,by rw[aF];exact yd hix,?_⟩;have m1:((fu st p).map V.int).set (st.own.idxOf p.ow) (.int ((fu st p).getD (st.own.idxOf p.ow) 0-p.wo*st.prod))=(oG st p).map V.int:=uE.symm;have G6:=G5.wr (a:=Ap) (o:=.lst ((oG st p).map V.int)) rfl;have h6:=h5.same (vq (o:=.lst ((oG st p).map V.int)) ca ha5 rfl);have n6:H Ap=none:=Yh Ap MS;have F6:=F5.new (o:=.lst ((oG st p).map V.int)) n6;show i9 _ _ _ _ (upd H5 Ap (.lst (((fu st p).map V.int).set (st.own.idxOf p.ow) (.int ((fu st p).getD (st.own.idxOf p.ow) 0-p.wo*st.prod)))));rw[m1];have MQ:upd H5 Ap (.lst ((oG st p).map V.int)) Ap=some (.lst ((oG st p).map V.int)):=ah;generalize upd H5 Ap (.lst ((oG st p).map V.int))=H6 at *;refine⟨_,Z,_,Z,A.a,T.hold,A.dx,_,Z,h6.oa,X.cH,X.zZ,by show 7<1000;decide,?_⟩;obtain⟨h7,G7⟩:=AH (t:=7) h6 G6 ca MQ rfl;have F7:Fr n ρ H (cy ρ2 Ap (n,7,⟨#[]⟩)) H6:=F6.oE n6;have h8:=h7.Lm G7 Ap _ MQ bN;have G8:=G7.wr (a:=A.a) (o:=.ins T.hold A.dx (dW { A with pu:=Ap })) rfl;have F8:=F7.trans (Fr.write (o:=.ins T.hold A.dx (dW { A with pu:=Ap })) h7.ca);rw[show gY "purses" (V.ref Ap) (dW A)=dW { A with pu:=Ap }from rfl];generalize upd H6 A.a (.ins T.hold A.dx (dW { A with pu:=Ap }))=H8 at *;have hv8:=uO wf.dN e2 e3;have dk:=CO wf.dN hh.h.ql e2;refine⟨_,Z,A.a,T.hold,A.dx,_,_,Z,h8.oa,X.cH,X.hab,Z,_,Z,A.ab,_,Sum.inr p.nm,Z,h8.dB,Z,?_,?_⟩
 .show (dY (bY st.ai A.qs) (Sum.inr p.nm)).isSome=true;rw[hv8];rfl
 show Q .cI (upd H8 A.ab (.dK (mV (bY st.ai A.qs) (Sum.inr p.nm))));rw[dk];have hi2:i<A.qs.length:=by rw[hh.h.ql];exact hi
 have h9:=h8.Ll G8 (st.ai.eraseIdx i) (A.qs.eraseIdx i) (by rw[Ra hi,Ra hi2,hh.h.ql]) (λj x y ex ey=>by obtain⟨k,a1,a2⟩:=AE ex ey;exact h8.opt k x y a1 a2)
 rw[vE wf.dN e2]at q wS;exact q _ { { A with pu:=Ap }with qs:=A.qs.eraseIdx i } _ ⟨G8.wr rfl,h9,wS⟩ rfl (F8.trans (Fr.write h8.ff))
abbrev ud:Stmt:=inClass (top 21) 9
abbrev qw:Da Str:=["self","part","name","amount","weight"]
abbrev MT:Da Str:=qw.append ["source"]
def z9:aM MT qw (aD ud):=dP
theorem GG{T:TC}{e:Ec}(F:gF K T.hold "sever" "Hold.sever" ud f fd)(X:Txt K T)(cL:Mn P w K mg base 1 T.hold "part_of" eV (sN (mE T e)))(Dg:Mn P w K mg base 3 T.hold "check_new" jx (sN (xK T e)))(lG:Mn P w K mg base 1 T.hold "stow" nM (Ls T))(qj:Cn P w K mg base 1 "Part" T.part ["self","name","owner","worth","weight","scale","row"] (BL T K)):Mn P w K mg base 4 T.hold "sever" qw (sN (L1 T e)):=by
 refine F.oA z9 λ_ _ _ _ H _ Q E hr h=>?_;obtain⟨⟨n,ρ,A,st,x,y,a,we,rfl,MU,hy0,hl1,hl2,dq⟩⟩:=h;refine⟨_,(@cU.h _ _ _ (aj (aR (i:=5) z9.nd (bZ cL hr (qv 0) (af (qv 1) aq)))
  (aj (bO (bZ Dg hr (qv 0) (af (qv 2) aq)))
  (aj (cN (ki (bW.pt (BS (aQ rR (qv 3) ak (a_ _)) (yk (aQ rR (qv 4) ak (a_ _)))))) (ay iT) bJ)
  (aj (cN (ki (bW.pt (BS (aQ Kn (qv 3) (aH K (qv 5)) (a_ _)) (yk (aQ kK (qv 4) (aH K (qv 5)) (a_ _)))))) (ay iT) bJ)
  (aj (qd K (qv 5) (qv 3) KU)
  (aj (qd K (qv 5) (qv 4) KU)
  (ay (bO (bZ lG hr (qv 0) (af (Sg qj hr (af (qv 2) (af (aH K (qv 5)) (af (qv 3) (af (qv 4) (af (aH K (qv 5)) (af (aH K (qv 5)) aq))))))) aq))))))))))),?_⟩
 refine⟨_,Z,A.a,A.dx,_,Z,MU.h.oa,Z,_,Z,⟨⟨n,ρ,A,st,x,Z,MU.h,MU.wf.dN,λhn=>dq.no 3 ?_,λi p qq e1 e2 e3=>?_⟩⟩⟩
 .unfold iX;rw[aC (λz=>?_)];obtain⟨j,p,h1,h2⟩:=j0 z;exact hn p (bQ h1) h2
 have gh:=bQ e2;have eg:bP st x=p:=d_ MU.wf gh e1;subst e1;have hm:=BU e2;have eR:iX st p.nm y a we=match newR st y with
  | some i=>some i
  | none=>if a<1\/we<0 then some 5 else if p.wo<=a\/p.we<we then some 6 else none:=by unfold iX;rw[aB hm,eg];first|done|(cases newR st y <;> rfl)
 refine⟨_,Z,A.a,A.dx,_,Z,MU.h.oa,Z,_,Z,⟨⟨n,ρ,A,st,y,Z,MU.h,hy0,λi hi=>dq.no i (by rw[eR,hi]),λhnew H1 g1=>?_⟩⟩⟩;rw[hnew]at eR;have eR:iX st p.nm y a we=if a<1\/we<0 then some 5 else if p.wo<=a\/p.we<we then some 6 else none:=eR;have hh:=MU.mono g1;obtain⟨k1,k2,k3,k4⟩:=hh.h.opt i p qq e2 e3;by_cases hb:a<1\/we<0
 .have rq:=dq.no 5 (by rw[eR,aB hb]);refine⟨true,⟨_,Z,_,_,Z,Z,_,Z,dF (λc=>⟨Z,Z⟩) λc=>⟨_,Z,_,_,Z,Z,_,Z,bL (hb.resolve_left λz=>c (bL z)),Z⟩⟩,gb (rq 0 H1 g1)⟩
 rw[aC hb]at eR;refine⟨false,⟨_,Z,_,_,Z,Z,_,Z,dF (λc=>absurd (eE c) (by omega)) λ_=>⟨_,Z,_,_,Z,Z,_,Z,c8 (by omega),Z⟩⟩,bw ?_⟩;by_cases hb2:p.wo<=a\/p.we<we
 .have rq:=dq.no 6 (by rw[eR,aB hb2]);refine⟨true,⟨_,Z,_,Z,qq.1,T.part,qq.2.1,_,_,Z,k1,X.cP,X.vh,Z,_,_,Z,Z,_,Z,dF (λc=>⟨Z,Z⟩) λc=>⟨_,Z,_,Z,qq.1,T.part,qq.2.1,_,_,Z,k1,X.cP,X.Qc,Z,_,_,Z,Z,_,Z,bL (hb2.resolve_left λz=>c (bL z)),Z⟩⟩,gb (rq 0 H1 g1)⟩
 rw[aC hb2]at eR;have q:=dq.ok eR;refine⟨false,⟨_,Z,_,Z,qq.1,T.part,qq.2.1,_,_,Z,k1,X.cP,X.vh,Z,_,_,Z,Z,_,Z,dF (λc=>absurd (eE c) (by show ¬ p.wo<=a;omega)) λ_=>⟨_,Z,_,Z,qq.1,T.part,qq.2.1,_,_,Z,k1,X.cP,X.Qc,Z,_,_,Z,Z,_,Z,c8 (by show ¬ p.we<we;omega),Z⟩⟩,bw ?_⟩;refine⟨_,Z,qq.1,T.part,qq.2.1,_,_,Z,k1,X.cP,X.vh,Z,_,Z,_,_,Z,Z,qq.2.1,_,k1,by show 6<1000;decide,?_⟩;have wA:Wf (nI st p.nm λp=>{ p with wo:=p.wo-a }):=AV hh.wf λp' gT e=>by rw[uP hh.wf gT gh e];exact⟨Z,Z,Z,Z,by show 1<=p.wo-a;omega,(hh.wf.kG p gh).2⟩
 have wB:Wf (nI st p.nm λp=>{ p with wo:=p.wo-a,we:=p.we-we }):=AV hh.wf λp' gT e=>by rw[uP hh.wf gT gh e];exact⟨Z,Z,Z,Z,by show 1<=p.wo-a;omega,by show 0<=p.we-we;omega⟩
 have wS:=L4 hh.wf eR hl1 hl2;have esA:nI st p.nm (λp=>{ p with wo:=p.wo-a })={ st with ai:=st.ai.set i { p with wo:=p.wo-a } }:=qW hh.wf.dN e2 _;have esB:nI st p.nm (λp=>{ p with wo:=p.wo-a,we:=p.we-we })={ st with ai:=st.ai.set i { p with wo:=p.wo-a,we:=p.we-we } }:=qW hh.wf.dN e2 _;have hi:i<st.ai.length:=(dX.mp e2).1;have hA:=hh.h.jq (p1:={ p with wo:=p.wo-a }) hh.g e2 e3 rfl rfl hh.wf.dN;have gA:Gh ρ (upd H1 qq.1 (.ins T.part qq.2.1 (cT { p with wo:=p.wo-a } qq.2.2))):=hh.g.wr rfl;have FA:Fr n ρ H ρ (upd H1 qq.1 (.ins T.part qq.2.1 (cT { p with wo:=p.wo-a } qq.2.2))):=(Fr.of_same g1).trans (Fr.write k3);have kA:upd H1 qq.1 (.ins T.part qq.2.1 (cT { p with wo:=p.wo-a } qq.2.2)) qq.1=some (.ins T.part qq.2.1 (cT { p with wo:=p.wo-a } qq.2.2)):=ah;have nA:∀b,upd H1 qq.1 (.ins T.part qq.2.1 (cT { p with wo:=p.wo-a } qq.2.2)) b=none->H b=none:=λb h=>g1.free (gR h);show i9 _ _ _ _ (upd H1 qq.1 (.ins T.part qq.2.1 (cT { p with wo:=p.wo-a } qq.2.2)));generalize upd H1 qq.1 (.ins T.part qq.2.1 (cT { p with wo:=p.wo-a } qq.2.2))=H2 at *;refine⟨_,Z,qq.1,T.part,qq.2.1,_,_,Z,kA,X.cP,X.Qc,Z,_,Z,_,_,Z,Z,qq.2.1,_,kA,by show 6<1000;decide,?_⟩;have hB:=hA.jq (i:=i) (p1:={ p with wo:=p.wo-a,we:=p.we-we }) gA (qJ hi) e3 rfl rfl (by have:=wA.dN;rw[esA]at this;exact this);have Yz:(st.ai.set i { p with wo:=p.wo-a }).set i { p with wo:=p.wo-a,we:=p.we-we }=st.ai.set i { p with wo:=p.wo-a,we:=p.we-we }:=wK ..;have gB:Gh ρ (upd H2 qq.1 (.ins T.part qq.2.1 (cT { p with wo:=p.wo-a,we:=p.we-we } qq.2.2))):=gA.wr rfl;have FB:Fr n ρ H ρ (upd H2 qq.1 (.ins T.part qq.2.1 (cT { p with wo:=p.wo-a,we:=p.we-we } qq.2.2))):=FA.trans (Fr.write k3);have kB:upd H2 qq.1 (.ins T.part qq.2.1 (cT { p with wo:=p.wo-a,we:=p.we-we } qq.2.2)) qq.1=some (.ins T.part qq.2.1 (cT { p with wo:=p.wo-a,we:=p.we-we } qq.2.2)):=ah;generalize hH3:upd H2 qq.1 (HO.ins T.part qq.2.1 (gY _ _ _))=H3;have Xq:upd H2 qq.1 (.ins T.part qq.2.1 (cT { p with wo:=p.wo-a,we:=p.we-we } qq.2.2))=H3:=hH3;have nB:∀b,H3 b=none->H b=none:=λb h=>nA b (gR (by rw[Xq];exact h));rw[Xq]at hB gB FB kB;have lX:HH T n ρ A H3 (nI st p.nm λp=>{ p with wo:=p.wo-a,we:=p.we-we }):=⟨gB,by rw[esB,<-Yz];exact hB,wB⟩
 obtain⟨_,r3,_,_⟩:=hB.opt i { p with wo:=p.wo-a,we:=p.we-we } qq (by show((st.ai.set i _).set i _)[i]?=_;rw[Yz];exact qJ hi) e3;clear hA hB gA FA kA hH3 Xq;refine⟨_,Z,A.a,A.dx,_,Z,lX.h.oa,Z,_,Z,_,Z,qq.1,T.part,qq.2.1,_,_,Z,kB,X.cP,X.pow,Z,_,Z,_,Z,_,Z,qq.1,T.part,qq.2.1,_,_,Z,kB,X.cP,X.HW,Z,_,Z,qq.1,T.part,qq.2.1,_,_,Z,kB,X.cP,X.Ln,Z,?_⟩;intro v dv hv MV hvd;have Be:upd (upd H3 dv (.own v)) v (.ins T.part dv []) qq.2.2=some (.lst (p.row.map V.int)):=by rw[au (aA r3 hv),au (aA r3 MV)];exact r3
 refine⟨⟨v,dv,qq.2.2,⟨y,p.ow,a,we,p.sc,p.row⟩,Z,ah,aG.of Be,λrr H6 hrr k6 Bf Xn=>⟨Z,?_⟩⟩⟩;have MH:H3 rr=none:=gR (gR hrr);have g6:aJ H3 H6:=λb u e=>k6 b u (by rw[au (aA e hv),au (aA e MV)];exact e) (aA e hv);have tG:=lX.mono g6;have F6:=FB.trans (Fr.of_same (ρ:=ρ) g6);unfold k_ at wS q;rw[eg]at wS q;exact⟨⟨n,ρ,A,_,(v,dv,rr),_,Z,tG,Bf,Xn,lX.g.none hv,lX.g.none MH,(jQ eR).2.1.2,wS,λρ' A' H' a1 a2 a3=>q ρ' A' H' a1 a2 (a3.fr F6 (nB _ hv) (nB _ MH))⟩⟩
abbrev ue:Stmt:=inClass (top 21) 15
abbrev qx:Da Str:=["self","owner"]
abbrev MW:Da Str:=qx
def Jz:aM MW qx (aD ue):=dP
def JA{T:TC}(F:gF K T.hold "purse" "Hold.purse" ue f fd)(X:Txt K T)(jI:Mn P w K mg base 2 T.bot "over" lu (FP T))(cQ:Mn P w K mg base 1 T.hold "place_of" fZ (BN T)):Mn P w K mg base 3 T.hold "purse" qx (QF T):=by
 refine F.oA Jz λ_ _ _ _ H _ Q E hr h=>?_;obtain⟨⟨n,ρ,A,st,o,rfl,h,wf,ho,q⟩⟩:=h;refine⟨_,(@cU.h _ _ _ (ay (bh (bZ jI hr (aH K (qv 0)) (af (aO (cZ K) (aH K (qv 0)) (bZ cQ hr (qv 0) (af (qv 1) aq))) aq))))),?_⟩;have hk:st.own.idxOf o<st.bU.length:=by rw[wf.mD];exact wF ho
 refine⟨_,Z,A.a,T.hold,A.dx,_,_,Z,h.oa,X.cH,X.wV,Z,A.bt,A.db,_,Z,h.jd,Z,_,Z,A.a,T.hold,A.dx,_,_,Z,h.oa,X.cH,X.zZ,Z,_,Z,A.a,A.dx,_,Z,h.oa,Z,_,Z,⟨⟨n,ρ,A,st,o,Z,h,ho,?_⟩⟩⟩;refine⟨A.pu,_,_,_,Z,Z,aG.of h.jC,getD_at hk,?_⟩;exact⟨⟨A.bt,A.db,A.sp,A.kn,st.stp,st.prod,_,Z,h.jd,h.lT,wf.pZ,wf.vj,wf.big,λr H2 g2 hr2=>q r H2 g2 hr2⟩⟩
abbrev rE:Stmt:=inClass (top 21) 10
abbrev lC:Da Str:=["self"]
abbrev JB:Da Str:=lC
def GH:aM JB lC (aD rE):=dP
def GI{T:TC}(F:gF K T.hold "roster" "Hold.roster" rE f fd)(X:Txt K T)(dI:mg "list"=none):Mn P w K mg base 1 T.hold "roster" lC (CN T):=by refine F.oA GH λ_ _ _ _ H _ Q E hr h=>?_;obtain⟨⟨n,ρ,A,st,rfl,h,q⟩⟩:=h;refine⟨_,(@cU.h _ _ _ (ay (bh (fD (R3 rfl) (by rfl) dI tM (af (aH K (qv 0)) aq))))),?_⟩;refine⟨_,Z,A.a,T.hold,A.dx,_,_,Z,h.oa,X.cH,X.hpl,Z,A.pl,_,Z,.inl h.gX,λl hl=>?_⟩;rw[CL];exact q l hl
abbrev rF:Stmt:=inClass (top 21) 17
abbrev jK:Da Str:=["self"]
abbrev JC:Da Str:=jK
def GJ:aM JC jK (aD rF):=dP
theorem GK{T:TC}(F:gF K T.hold "landed" "Hold.landed" rF f fd)(X:Txt K T)(dI:mg "list"=none):Mn P w K mg base 1 T.hold "landed" jK (xo T):=by
 refine F.oA GJ λ_ _ _ _ H _ Q E hr h=>?_;obtain⟨⟨n,ρ,A,st,rfl,hh,q⟩⟩:=h;obtain⟨ws,hw,hA⟩:=hh.h.m9;have hl:=hA.length;have hal:=hh.wf.vm;refine⟨_,(@cU.h _ _ _ (ay (bh (kh ["name","owner","worth","shares"] [none,none,none,none] rfl (dZ K (aH K (qv 0))) (λ_ _ _ _=>(iM K (n:=4) rfl (cC (aU (i:=0) (show List.Nodup (["name","owner","worth","shares"] :Da Str)from by decide +kernel)) (cC (aU (i:=1) (show List.Nodup (["name","owner","worth","shares"] :Da Str)from by decide +kernel)) (cC (aU (i:=2) (show List.Nodup (["name","owner","worth","shares"] :Da Str)from by decide +kernel)) (cC (aU (i:=3) (show List.Nodup (["name","owner","worth","shares"] :Da Str)from by decide +kernel)) iL)))))) (λ_ _ _ _=>(iY (af (qv 0) (af (qv 1) (af (qv 2) (af (fD (fJ K) (by rfl) dI tM (af (qv 3) aq)) aq)))))) rfl (by rfl))))),?_⟩;refine⟨_,Z,A.a,T.hold,A.dx,_,_,Z,hh.h.oa,X.cH,X.has,Z,A.as,Z,⟨_,aG.of hw⟩,λAp Bi=>?_⟩;refine yf (K:=K) (n:=ws.length) [0,1,2,3] (λi out H1=>aJ H H1/\kN Ap ρ H1 out (st.dO.take i)/\∀w∈out,∃t xs,w =.ref t/\H1 t=some (.tup xs)/\∀b,V.ref b∈xs->H b=none/\b≠Ap) (by decide) (by omega) ⟨aE Bi _,.nil,λw hw=>nomatch hw⟩ (λi out H1 hi _ hp=>⟨ws,_,aG.of (hp.1 _ _ hw),bu hi⟩) (λout H1 _ hp=>⟨ws,aG.of (hp.1 _ _ hw),aK _⟩) ?_ ?_
 .rintro i x out H1 H2 hi gf ha ⟨g,hL,hF⟩ ⟨rfl,hy⟩;have ex:=hy ws (aG.of (g _ _ hw));obtain⟨r,l,y,ss,rfl,ey,a1,a2,a3,a4⟩:=hA.get ex;refine⟨r,_,Z,dm.of (g _ _ a1),Z,_,Z,_,Z,_,Z,_,Z,l,ss,Z,.inl (aG.of (g _ _ a2)),λl2 hl2=>⟨(iN 4),λt ht=>?_⟩⟩;have g2:=aE hl2 (.lst ss);have g3:=aE ht (.tup [.str y.nm,.str y.ow,.int y.wo,.ref l2]);have hl3:upd H2 l2 (.lst ss) l2=some (.lst ss):=ah;have c2:ρ l2=none:=hh.g.none (g.free hl2);have tu:=jf (o:=.lst (out++[.ref t])) (.inr ⟨_,(g2.trans g3) _ _ ha,Z⟩);refine⟨(g2.trans g3) _ _ ha,((g.trans g2).trans g3).cW Bi _,?_,λw hw=>?_⟩;rotate_left
  .rcases fW.mp hw with z|z
   .obtain ⟨t',xs,e1,e2,e3⟩:=hF w z;exact⟨t',xs,e1,tu _ _ ((g2.trans g3) _ _ e2),e3⟩
   .rw [eO.mp z];refine⟨t,_,Z,tu _ _ ah,λb hb=>?_⟩;have:b=l2:=by simpa using hb
    rw[this];exact⟨g.free hl2,λe=>by rw[e,ha]at hl2;cases hl2⟩
  rw[take_snoc ey];have n1:l2≠Ap:=λe=>by rw[e,ha]at hl2;cases hl2
  exact((hL.mono (g2.trans g3)).snoc (x:=y) ah (g3 _ _ hl3) c2 n1 (a4.mono ((g.trans g2).trans g3).tups)).upd ((g2.trans g3) _ _ ha)
 rintro out H1 gf ha ⟨g,hL,hF⟩;rw[hl,c7]at hL;exact q Ap out H1 g Bi ha hL.to hF
abbrev vZ:Stmt:=inClass (top 20) 1
abbrev xP:Da Str:=["self"]
abbrev OC:Da Str:=xP
def MX:aM OC xP (aD vZ):=dP
def MY{T:TC}(F:gF K T.part "twin" "Part.twin" vZ f fd)(X:Txt K T)(qj:Cn P w K mg base 1 "Part" T.part ["self","name","owner","worth","weight","scale","row"] (BL T K)):Mn P w K mg base 3 T.part "twin" xP (QG T K):=by
 refine F.oA MX λ_ _ _ _ H _ Q E hr h=>?_;obtain⟨⟨a,d,r,p,rfl,ha,hr1,q⟩⟩:=h;refine⟨_,(@cU.h _ _ _ (ay (bh (Sg qj hr (af (aH K (qv 0)) (af (aH K (qv 0)) (af (aH K (qv 0)) (af (aH K (qv 0)) (af (aH K (qv 0)) (af (aH K (qv 0)) aq)))))))))),?_⟩;refine⟨_,Z,a,T.part,d,_,_,Z,ha,X.cP,X.Qa,Z,_,Z,a,T.part,d,_,_,Z,ha,X.cP,X.pow,Z,_,Z,a,T.part,d,_,_,Z,ha,X.cP,X.vh,Z,_,Z,a,T.part,d,_,_,Z,ha,X.cP,X.Qc,Z,_,Z,a,T.part,d,_,_,Z,ha,X.cP,X.HW,Z,_,Z,a,T.part,d,_,_,Z,ha,X.cP,X.Ln,Z,?_⟩;intro v dv hv MV hvd;have hr2:upd (upd H dv (.own v)) v (.ins T.part dv []) r=some (.lst (p.row.map V.int)):=by rw[au (aA hr1 hv),au (aA hr1 MV)];exact hr1
 refine⟨⟨v,dv,r,p,Z,ah,aG.of hr2,λrr H2 hrr k2 hv2 aje=>⟨Z,?_⟩⟩⟩;have hrv:v≠rr:=λe=>by rw[<-e,ah]at hrr;cases hrr
 exact q v dv rr H2 (λb u e=>k2 b u (by rw[au (aA e hv),au (aA e MV)];exact e) (aA e hv)) hv (gR (gR hrr)) hrv hv2 aje
abbrev rG:Stmt:=inClass (top 4) 4
abbrev uf:Da Str:=["self"]
abbrev JD:Da Str:=uf.append ["other"]
def yt:aM JD uf (aD rG):=dP
def GL{T:TC}(F:gF K T.bot "twin" "Bottom.twin" rG f fd)(X:Txt K T)(q_:Cn P w K mg base 1 "Bottom" T.bot ["self"] (FL T))(dI:mg "list"=none):Mn P w K mg base 3 T.bot "twin" uf (QH T K):=by
 refine F.oA yt λ_ _ _ _ H _ Q E hr h=>?_;obtain⟨⟨bt,db,sp,kn,stp,prod,rfl,hb,hs,q⟩⟩:=h;refine⟨_,(@cU.h _ _ _ (aj (aR (i:=1) yt.nd (Es q_ hr))
  (aj (cK K (qv 1) (fD (fJ K) (by rfl) dI tM (af (aH K (qv 0)) aq)))
  (aj (cK K (qv 1) (aH K (qv 0)))
  (ay (bh (qv 1))))))),?_⟩
 intro v dv hv MV hvd;refine⟨⟨v,dv,Z,ah,λs0 k0 H1 hs0 hk0 hsk k1 hv1 hs1 hk1=>⟨Z,?_⟩⟩⟩;have g1:aJ H H1:=λb u e=>k1 b u (by rw[au (aA e hv),au (aA e MV)];exact e) (aA e hv);have kv:k0≠v:=λe=>by rw[e,ah]at hk0;cases hk0
 refine⟨_,Z,bt,T.bot,db,_,_,Z,g1 _ _ hb,X.cB,X.Ul,Z,sp,_,Z,.inl (aG.of (g1 _ _ hs)),λs2 hs2=>?_⟩;have g2:=aE hs2 (.lst (stp.map V.int));have s2v:upd H1 s2 (.lst (stp.map V.int)) s2=some (.lst (stp.map V.int)):=ah;have v2:=g2 _ _ hv1;have k2:=g2 _ _ hk1;have b2:=g2 _ _ (g1 _ _ hb);have n1:s2≠v:=λe=>by rw[e,hv1]at hs2;cases hs2
 have n2:s2≠k0:=λe=>by rw[e,hk1]at hs2;cases hs2
 have nb:bt≠v:=aA hb hv;generalize upd H1 s2 (.lst (stp.map V.int))=H2 at *;refine⟨_,Z,v,T.bot,dv,_,Z,v2,X.cB,X.Ul,by show 3<1000;decide,?_⟩;have b3:upd H2 v (.ins T.bot dv (jU s2 1 k0)) bt=some (.ins T.bot db (jU sp prod kn)):=by rw[au nb];exact b2
 have v3:upd H2 v (.ins T.bot dv (jU s2 1 k0)) v=some (.ins T.bot dv (jU s2 1 k0)):=ah;have g3:aJ H (upd H2 v (.ins T.bot dv (jU s2 1 k0))):=(g1.trans g2).cW hv _;have s3:upd H2 v (.ins T.bot dv (jU s2 1 k0)) s2=some (.lst (stp.map V.int)):=by rw[au n1];exact s2v
 have k3:upd H2 v (.ins T.bot dv (jU s2 1 k0)) k0=some (.dK []):=by rw[au kv];exact k2
 show i9 _ _ _ _ (upd H2 v (.ins T.bot dv (jU s2 1 k0)));generalize upd H2 v (.ins T.bot dv (jU s2 1 k0))=H3 at *;refine⟨_,Z,bt,T.bot,db,_,_,Z,b3,X.cB,X.HX,Z,_,Z,v,T.bot,dv,_,Z,v3,X.cB,X.HX,by show 3<1000;decide,?_⟩;exact⟨_,Z,q v dv s2 k0 _ (g3.cW hv _) hv (g1.free hs2) (gR (gR hk0)) (bB n1) (bB kv) n2 ah (by rw[au n1];exact s3) (by rw[au kv];exact k3)⟩
abbrev v5:Stmt:=inClass (top 21) 18
abbrev lH:Da Str:=["self"]
abbrev OD:Da Str:=lH.append ["other"]
def Bj:aM OD lH (aD v5):=dP
theorem MZ{T:TC}(F:gF K T.hold "twin" "Hold.twin" v5 f fd)(X:Txt K T)(yu:Cn P w K mg base 3 "Hold" T.hold ["self"] (FN T))(xQ:Mn P w K mg base 3 T.part "twin" lH (QG T K))(ug:Mn P w K mg base 3 T.bot "twin" lH (QH T K))(fK:Mn P w K mg base 1 T.hold "landed" jK (xo T))(dI:mg "list"=none)(ER:mg "dict"=none):Mn P w K mg base 5 T.hold "twin" lH (QI T):=by
 refine F.oA Bj λ_ _ _ _ H _ Q E hr h=>?_;obtain⟨⟨n,m,ρ,A,st,rfl,hnm,hh,q⟩⟩:=h;refine⟨_,(@cU.h _ _ _ (aj (aR (i:=1) Bj.nd (Es yu hr))
  (aj (cK K (qv 1) (fD Ez (by rfl) ER PyProof.Rows.boot_dict (af (aH K (qv 0)) aq)))
  (aj (cK K (qv 1) (Er (W9 ["name","part"] [none,none] rfl (zu (aH K (qv 0))) (λ_ _ _ _=>(iM K (n:=2) rfl (cC (aU (i:=0) (show List.Nodup (["name","part"] :Da Str)from by decide +kernel)) (cC (aU (i:=1) (show List.Nodup (["name","part"] :Da Str)from by decide +kernel)) iL)))) (λ_ _ _ _=>(qv 0)) (λ_ _ _ _=>(f_ xQ hr (qv 1))) rfl (by rfl))))
  (aj (cK K (qv 1) (f_ fK hr (qv 0)))
  (aj (cK K (qv 1) (fD Ez (by rfl) ER PyProof.Rows.boot_dict (af (aH K (qv 0)) aq)))
  (aj (cK K (qv 1) (f_ ug hr (aH K (qv 0))))
  (aj (cK K (qv 1) (fD (fJ K) (by rfl) dI tM (af (aH K (qv 0)) aq)))
  (aj (cK K (qv 1) (fD (fJ K) (by rfl) dI tM (af (aH K (qv 0)) aq)))
  (ay (bh (qv 1)))))))))))),?_⟩
 intro x dx hx hdx hne;refine⟨⟨x,dx,ρ,m,Z,ah,(hh.g.alloc hdx).alloc (by rw[au (bB hne)];exact hx),hh.g.none hx,λρ1 B1 H1 ea1 f7 k1=>⟨Z,?_⟩⟩⟩;have K1:Kept ρ H ρ1 H1:=λb o e=>k1 b o (by rw[au (aA e hx),au (aA e hdx)];exact e) (aA e hx);have t1:kq T n m ρ H A st x ρ1 H1 B1 hs0:=⟨hnm,hx,hh.h.same ⟨λb xs e=>(K1 b _ e).1,λb t y o _ c e=>⟨(K1 b o e).1,(K1 b o e).2.trans c⟩⟩,f7.h,f7.g,K1,ea1⟩
 clear f7 k1 K1 ea1 hdx hne;refine⟨_,Z,A.a,T.hold,A.dx,_,_,Z,t1.hs.oa,X.cH,X.hpl,Z,A.pl,_,Z,t1.hs.gX,λl hl=>?_⟩;obtain⟨e2,ρ2,t2⟩:=t1.fld (k:=1) (B':={ B1 with pl:=l }) hl rfl (λh g e c=>h.acu g l st.own e c) rfl;refine⟨_,Z,x,T.hold,B1.dx,_,Z,e2,X.cH,X.hpl,by show 7<1000;decide,?_⟩;show i9 _ _ _ _ (upd (upd H1 l (.dK (fU 0 st.own))) x (.ins T.hold B1.dx (dW { B1 with pl:=l })));refine(λ(k:∀(r2:bR) (h2:Hp) (b2:HA),kq T n m ρ H A st x r2 h2 b2 ⟨st.own,[],[],[],[],1,0,[],[]⟩->i9 _ _ _ _ h2)=>k _ _ _ t2) ?_;clear t2;intro ρ2 H2 B2 t2;clear t1 e2 hl;have hpl:=hh.wf.kM;have nd:=hh.wf.dN;refine⟨A.ab,_,t2.hs.dB,λob=>?_⟩;refine⟨_,Z,A.a,T.hold,A.dx,_,_,Z,eT t2.hs.dB t2.hs.oa (λk z=>by cases z),X.cH,X.hab,Z,A.ab,ob,_,Z,ah,λAp Bi=>?_⟩;have Kw:H2 Ap=none:=jr t2.hs.dB Bi;have MS:H Ap=none:=t2.free Kw;have nab:Ap≠A.ab:=λe=>by rw[e,ah]at Bi;cases Bi
 have el:=uN t2.hs.ql;refine Z_ (K:=K) (n:=st.ai.length) [0,1] (λi out Hc=>∃H5 ρ5 qs,Hc=upd H5 A.ab (.eX ob (.dK (bY st.ai A.qs)))/\kq T n m ρ H A st x ρ5 H5 B2 ⟨st.own,[],[],[],[],1,0,[],[]⟩/\ρ5 Ap=none/\H5 Ap=some (.dK out)/\out=bY (st.ai.take i) qs/\qs.length=i/\∀(j:Nat)(p:Pt)(y:Addr×Addr×Addr),(st.ai.take i)[j]?=some p->qs[j]?=some y->H5 y.1=some (.ins T.part y.2.1 (cT p y.2.2))/\H5 y.2.2=some (.lst (p.row.map V.int))/\ρ5 y.1=some (m,20,p.nm)/\ρ5 y.2.2=some (m,21,p.nm))
  (by decide) (by omega) ⟨upd H2 Ap (.dK []),ρ2,[],iS (bB nab),t2.same (aE Kw _),t2.g.none Kw,ah,Z,Z,λj p y e=>by simp at e⟩ ?_ ?_ ?_ ?_
 .rintro i out Hc hi ha ⟨H5,ρ5,qs,rfl,_⟩;exact⟨ah,by rw[el];exact hi⟩
 .rintro out Hc ha ⟨H5,ρ5,qs,rfl,_⟩;exact⟨ah,by rw[el];exact aK _⟩
 .rintro i y out Hc H6 hi gf ha ⟨H5,ρ5,qs,rfl,t5,IV,a5,eo,ql,hq⟩ ⟨pp,kv,hpp,hkv,rfl,rfl⟩;have ep:=bu hi;generalize st.ai[i]=p at ep;obtain⟨qq,eq,k1,k2,k3,k4⟩:=t5.hs.find ep;rw[uM ep eq]at hkv;cases hkv;have npl:pp≠A.ab:=λe=>by rw[e,ah]at hpp;cases hpp
  have Gz:H5 pp=none:=jr t5.hs.dB hpp;have e6:upd (upd H5 A.ab (.eX ob (.dK (bY st.ai A.qs)))) pp (.tup [.str p.nm,.ref qq.1])=upd (upd H5 pp (.tup [.str p.nm,.ref qq.1])) A.ab (.eX ob (.dK (bY st.ai A.qs))):=iS (bB npl);show ∃t vs,V.ref pp =.ref t/\dm K (upd (upd H5 A.ab (.eX ob (.dK (bY st.ai A.qs)))) pp (.tup [.str p.nm,.ref qq.1])) t vs/\vs.length=2/\CA 0 (dz _ [0,1] vs) (upd (upd H5 A.ab (.eX ob (.dK (bY st.ai A.qs)))) pp (.tup [.str p.nm,.ref qq.1])) _;rw[e6];have t6:=t5.same (aE Gz (.tup [.str p.nm,.ref qq.1]));have g6:=aE Gz (.tup [.str p.nm,.ref qq.1]);have tt6:upd H5 pp (.tup [.str p.nm,.ref qq.1]) pp=some (.tup [.str p.nm,.ref qq.1]):=ah;have a6:=g6 _ _ a5;have k16:=g6 _ _ k1;have k26:=g6 _ _ k2;have YB:∀(j:Nat)(u:Pt)(y:Addr×Addr×Addr),(st.ai.take i)[j]?=some u->qs[j]?=some y->upd H5 pp (.tup [.str p.nm,.ref qq.1]) y.1=some (.ins T.part y.2.1 (cT u y.2.2))/\upd H5 pp (.tup [.str p.nm,.ref qq.1]) y.2.2=some (.lst (u.row.map V.int))/\ρ5 y.1=some (m,20,u.nm)/\ρ5 y.2.2=some (m,21,u.nm):=λj p' y' e1 e2=>by obtain⟨z1,z2,z3,z4⟩:=hq j p' y' e1 e2;exact⟨by rw[au (aA z1 Gz)];exact z1,by rw[au (aA z2 Gz)];exact z2,z3,z4⟩
  clear e6 k1 k2 hq a5 hpp;generalize upd H5 pp (.tup [.str p.nm,.ref qq.1])=H6 at t6 g6 tt6 a6 k16 k26 YB ⊢;have fz:∀{b:Addr}{u:HO},H6 b=some u->(∀k,u ≠ .dK k)->upd H6 A.ab (.eX ob (.dK (bY st.ai A.qs))) b=some u:=λe k=>eT t6.hs.dB e k;refine⟨pp,_,Z,dm.of (fz tt6 (λk z=>by cases z)),Z,_,Z,Sum.inr p.nm,Z,?_⟩;refine⟨_,Z,qq.1,qq.2.1,_,Z,fz k16 (λk z=>by cases z),Z,⟨⟨qq.1,qq.2.1,qq.2.2,p,Z,fz k16 (λk z=>by cases z),fz k26 (λk z=>by cases z),λv dv rr H7 g7 hv hrr hvr hv7 ajf=>?_⟩⟩⟩;have IT:H7 A.ab=some (.eX ob (.dK (bY st.ai A.qs))):=g7 _ _ ah;have bk:=qN t6.hs.dB g7;have Vg:H6 v=none:=jr t6.hs.dB hv;have Be:H6 rr=none:=jr t6.hs.dB hrr;have nv:v≠A.ab:=λe=>by rw[e,ah]at hv;cases hv
  have nr:rr≠A.ab:=λe=>by rw[e,ah]at hrr;cases hrr
  have av:Ap≠v:=aA a6 Vg;have ar:Ap≠rr:=aA a6 Be;have ha7:H7 Ap=some (.dK out):=g7 _ _ (by rw[au nab];exact a6);have e7:H7=upd (upd H7 A.ab (.dK (bY st.ai A.qs))) A.ab (.eX ob (.dK (bY st.ai A.qs))):=by rw[lE,qO IT]
  have v8:upd H7 A.ab (.dK (bY st.ai A.qs)) v=some (.ins T.part dv (cT p rr)):=by rw[au nv];exact hv7
  have r8:upd H7 A.ab (.dK (bY st.ai A.qs)) rr=some (.lst (p.row.map V.int)):=by rw[au nr];exact ajf
  have a8:upd H7 A.ab (.dK (bY st.ai A.qs)) Ap=some (.dK out):=by rw[au nab];exact ha7
  have t8:=t6.same bk;refine⟨ha7,?_⟩;rw[e7];generalize upd H7 A.ab (.dK (bY st.ai A.qs))=H8 at v8 r8 a8 t8 bk ⊢;have t9:=t8.col (c:=(m,20,p.nm)) v8 rfl (t6.g.none Vg) (t6.free Vg);have QW:=t9.col (c:=(m,21,p.nm)) r8 rfl (by rw[aP (bB hvr)];exact t6.g.none Be) (t6.free Be);have ca:cy (cy ρ5 v (m,20,p.nm)) rr (m,21,p.nm) Ap=none:=by rw[aP ar,aP av];exact IV
  have vn:dY out (Sum.inr p.nm)=none:=by rw[eo];refine p8 λp' gT e=>?_;have h2:((st.ai.take (i+1)).map (·.nm)).Nodup:=nd.sublist ((RA _ _).map _);rw[take_snoc ep,b8]at h2;exact(Fx.mp h2).2.2 p.nm (b7.mpr ⟨p',gT,e⟩) p.nm (eO.mpr rfl) rfl
  have el2:qs.length=(st.ai.take i).length:=by rw[kI];omega
  have YC:putK out (Sum.inr p.nm) (.ref v)=bY (st.ai.take (i+1)) (qs++[(v,dv,rr)]):=by rw[mz _ vn,take_snoc ep,Lp el2,eo]
  rw[iS (bB nab)];refine⟨upd H8 Ap (.dK (putK out (Sum.inr p.nm) (.ref v))),_,qs++[(v,dv,rr)],Z,QW.Yn ca a8 rfl rfl MS,ca,ah,YC,by rw[cX,ql];rfl,λj p' y' e1 e2=>?_⟩;have wr:∀{b:Addr}{u:HO},H8 b=some u->b≠Ap->upd H8 Ap (.dK (putK out (Sum.inr p.nm) (.ref v))) b=some u:=λe z=>by rw[au z];exact e
  rw[take_snoc ep]at e1;by_cases cj:j<i
  .rw [uW (by rw[kI];omega)]at e1;rw[uW (by omega)]at e2;obtain⟨z1,z2,z3,z4⟩:=YB j p' y' e1 e2;have y1:y'.1≠Ap:=λe=>by rw[e,IV]at z3;cases z3
   have y2:y'.2.2≠Ap:=λe=>by rw[e,IV]at z4;cases z4
   exact⟨wr (bk _ _ z1) y1,wr (bk _ _ z2) y2,by rw[aP (aA z1 Be),aP (aA z1 Vg)];exact z3,by rw[aP (aA z2 Be),aP (aA z2 Vg)];exact z4⟩
  .have hj:j=i:=by have:=(dX.mp e2).1;rw[cX,ql]at this;have:j<i+1:=this;omega
   subst hj;rw[uV (by rw[kI];omega),kI,show j-min j st.ai.length=0 by omega]at e1;rw[uV (by omega),ql,rO]at e2;cases e1;cases e2;exact⟨wr v8 (bB av),wr r8 (bB ar),by rw[aP hvr,bN],bN⟩
 rintro out Hc ha ⟨H5,ρ5,qs,rfl,t5,IV,a5,eo,ql,hq⟩;rw[c7]at eo hq;subst eo;refine⟨ah,?_⟩;rw[lE,qO t5.hs.dB];have t6:=t5.col (c:=(m,2,⟨#[]⟩)) a5 rfl IV MS;have t7:=t6.set (o:=.ins T.hold B2.dx (dW { B2 with ab:=Ap })) rfl (t6.ht.acy t6.g Ap st.ai qs a5 bN ql (λi p y e1 e2=>by obtain⟨z1,z2,z3,z4⟩:=hq i p y e1 e2;exact⟨z1,z2,by rw[aP (λe=>by rw[e,IV]at z3;cases z3)];exact z3,by rw[aP (λe=>by rw[e,IV]at z4;cases z4)];exact z4⟩)) rfl
 refine⟨_,Z,x,T.hold,B2.dx,_,Z,t5.ea▸t5.ht.oa,X.cH,X.hab,by show 7<1000;decide,?_⟩;show i9 _ _ _ _ (upd H5 x (.ins T.hold B2.dx (dW { B2 with ab:=Ap })));refine(λ(k:∀(r2:bR) (h2:Hp) (b2:HA),kq T n m ρ H A st x r2 h2 b2 ⟨st.own,st.ai,[],[],[],1,0,[],[]⟩->i9 _ _ _ _ h2)=>k _ _ _ t7) ?_;clear t7;intro ρ7 H7 B7 t7;clear t2 t5 t6 hq a5 IV Bi Kw ha;refine⟨_,Z,A.a,A.dx,_,Z,t7.hs.oa,Z,⟨⟨n,ρ7,A,st,Z,⟨t7.g,t7.hs,hh.wf⟩,λr ws H8 g8 hr0 hr1 hL hF=>?_⟩⟩⟩;have t8:=t7.same g8;obtain⟨ρ9,t9,hA9,ES⟩:=W_ t8 hL (λb ss _ _ ⟨w,hw,t,xs,e1,e2,e3⟩=>by obtain⟨t',xs',f1,f2,f3⟩:=hF w hw;rw[e1]at f1;cases f1;rw[e2]at f2;cases f2;exact t7.free (f3 b e3).1)
 have cr:ρ9 r=none:=by
  rcases ES r with z|⟨_,_,w,hw,t,xs,e1,e2,e3⟩
  .rw [z];exact t7.g.none hr0
  .obtain ⟨t',xs',f1,f2,f3⟩:=hF w hw;rw[e1]at f1;cases f1;rw[e2]at f2;cases f2;exact absurd rfl (f3 r e3).2
 have QW:=t9.col (c:=(m,3,⟨#[]⟩)) hr1 rfl cr (t7.free hr0);have M1:=QW.set (o:=.ins T.hold B7.dx (dW { B7 with as:=r })) rfl (QW.ht.acw QW.g r st.dO hr1 bN (hA9.keep (ts:=λ_=>true) ⟨λ_ _ e=>e,λb u y w _ hc he=>⟨he,by rw[aP (λz=>by rw[z,cr]at hc;cases hc)];exact hc⟩⟩ rfl)) rfl;refine⟨_,Z,x,T.hold,B7.dx,_,Z,t7.ea▸t8.ht.oa,X.cH,X.has,by show 7<1000;decide,?_⟩;show i9 _ _ _ _ (upd H8 x (.ins T.hold B7.dx (dW { B7 with as:=r })));refine(λ(k:∀(r2:bR) (h2:Hp) (b2:HA),kq T n m ρ H A st x r2 h2 b2 ⟨st.own,st.ai,st.dO,[],[],1,0,[],[]⟩->i9 _ _ _ _ h2)=>k _ _ _ M1) ?_;clear M1;intro ρ11 IG YD M1;clear t7 t8 t9 QW hA9 ES hL hF hr0 hr1 g8 cr;refine⟨_,Z,A.a,T.hold,A.dx,_,_,Z,M1.hs.oa,X.cH,X.hnm,Z,A.nm,_,Z,M1.hs.m_,λl hl=>?_⟩;obtain⟨e2,ρ12,uB⟩:=M1.fld (k:=4) (B':={ YD with nm:=l }) hl rfl (λh g e c=>h.acv g l st.nms e c) rfl;refine⟨_,Z,x,T.hold,YD.dx,_,Z,e2,X.cH,X.hnm,by show 7<1000;decide,?_⟩;show i9 _ _ _ _ (upd (upd IG l (.dK (yg st.nms))) x (.ins T.hold YD.dx (dW { YD with nm:=l })));refine(λ(k:∀(r2:bR) (h2:Hp) (b2:HA),kq T n m ρ H A st x r2 h2 b2 ⟨st.own,st.ai,st.dO,st.nms,[],1,0,[],[]⟩->i9 _ _ _ _ h2)=>k _ _ _ uB) ?_;clear uB;intro ρ12 H12 Vh uB;clear M1 e2 hl;refine⟨_,Z,A.a,T.hold,A.dx,_,_,Z,uB.hs.oa,X.cH,X.wV,Z,A.bt,A.db,_,Z,uB.hs.jd,Z,⟨⟨A.bt,A.db,A.sp,A.kn,st.stp,st.prod,Z,uB.hs.jd,uB.hs.lT,λb2 d2 s2 k2 H13 QX hb hs hk n1 n2 n3 e1 e2 e3=>?_⟩⟩⟩;have t13:=uB.same QX;have t14:=t13.col (c:=(m,5,⟨#[]⟩)) e1 rfl (uB.g.none hb) (uB.free hb);have t15:=t14.col (c:=(m,8,⟨#[]⟩)) e2 rfl (by rw[aP (bB n1)];exact uB.g.none hs) (uB.free hs);have YE:=t15.col (c:=(m,9,⟨#[]⟩)) e3 rfl (by rw[aP (bB n3),aP (bB n2)];exact uB.g.none hk) (uB.free hk);have M3:=YE.set (o:=.ins T.hold Vh.dx (dW { Vh with bt:=b2 })) rfl (YE.ht.acz YE.g b2 d2 s2 k2 st.stp st.prod e1 e2 e3 (by rw[aP n2,aP n1,bN]) (by rw[aP n3,bN]) bN) rfl;refine⟨_,Z,x,T.hold,Vh.dx,_,Z,uB.ea▸t13.ht.oa,X.cH,X.wV,by show 7<1000;decide,?_⟩;show i9 _ _ _ _ (upd H13 x (.ins T.hold Vh.dx (dW { Vh with bt:=b2 })));refine(λ(k:∀(r2:bR) (h2:Hp) (b2:HA),kq T n m ρ H A st x r2 h2 b2 ⟨st.own,st.ai,st.dO,st.nms,st.stp,st.prod,0,[],[]⟩->i9 _ _ _ _ h2)=>k _ _ _ M3) ?_;clear M3;intro ρ17 Vb YF M3;clear uB t13 t14 t15 YE;refine⟨_,Z,A.a,T.hold,A.dx,_,_,Z,M3.hs.oa,X.cH,X.zY,Z,A.cm,_,Z,.inl (aG.of M3.hs.iC),λl hl=>?_⟩;obtain⟨f2,ρ18,QY⟩:=M3.fld (k:=6) (B':={ YF with cm:=l }) hl rfl (λh g e c=>h.Uk g l st.bq e c) rfl;refine⟨_,Z,x,T.hold,YF.dx,_,Z,f2,X.cH,X.zY,by show 7<1000;decide,?_⟩;show i9 _ _ _ _ (upd (upd Vb l (.lst (st.bq.map V.int))) x (.ins T.hold YF.dx (dW { YF with cm:=l })));refine(λ(k:∀(r2:bR) (h2:Hp) (b2:HA),kq T n m ρ H A st x r2 h2 b2 ⟨st.own,st.ai,st.dO,st.nms,st.stp,st.prod,0,st.bq,[]⟩->i9 _ _ _ _ h2)=>k _ _ _ QY) ?_;clear QY;intro ρ18 H18 B18 QY;clear M3 f2 hl;refine⟨_,Z,A.a,T.hold,A.dx,_,_,Z,QY.hs.oa,X.cH,X.zZ,Z,A.pu,_,Z,.inl (aG.of QY.hs.jC),λl hl=>?_⟩;obtain⟨f2,ρ19,YG⟩:=QY.fld (k:=7) (B':={ B18 with pu:=l }) hl rfl (λh g e c=>h.Lm g l st.bU e c) rfl;refine⟨_,Z,x,T.hold,B18.dx,_,Z,f2,X.cH,X.zZ,by show 7<1000;decide,_,Z,?_⟩;have:=q ρ19 _ _ ⟨YG.g,YG.ht,R6 hh.wf (fm _)⟩ YG.k;rw[YG.ea]at this;exact this
abbrev v7:Stmt:=top 26
abbrev iy:Da Str:=["_law_script","_law_k","_law_j","_law_many"]
abbrev OE:Da Str:=iy.append ["_law_cell","_law_turn","_law_rest","_law_step","_law_one","_law_two"]
def fG:aM OE iy (aD v7):=dP
theorem M5(F:At K mg "_law_draw" v7 f fd)(cE:mg "len"=none)(dj:mg "range"=none):Dn P w K mg base 1 "_law_draw" iy (sR K):=by
 refine F.oA fG λ_ _ _ _ H _ Q E hr h=>?_;obtain⟨⟨a,ns,k,j,BM,rfl,hS,h63,hk,hj,hj2,hm,q⟩⟩:=h;refine⟨_,(@cU.h _ _ _ (aj (aR (i:=4) fG.nd ak)
  (aj (aR (i:=5) fG.nd ak)
  (aj (kj (aQ kK (bV (dU K) (by rfl) cE gr (af (qv 0) aq)) ak (a_ _)) (aj (aR (i:=4) fG.nd (aO (cZ K) (qv 0) (aL kZ (qv 1) (bV (dU K) (by rfl) cE gr (af (qv 0) aq)))))
  (ay (aR (i:=5) fG.nd (aL jm (qv 1) (bV (dU K) (by rfl) cE gr (af (qv 0) aq)))))) bJ)
  (aj (aR (i:=6) fG.nd (qv 4))
  (aj (fh fX rfl (mF (by rfl) dj (af (qv 2) aq)) (aU (i:=7) fG.nd) (ay (aR (i:=6) fG.nd (aL jm (qv 6) (aL nF ak ak)))))
  (aj (cN (ki (bW.pt (qe (aQ eF (qv 5) ak (a_ _)) (qe (aQ Kn (qv 4) (aL nF ak ak) (a_ _)) (qU (aQ kK (qv 6) ak (a_ _))))))) (ay (bh (aL kZ (aL kZ (qv 6) (aL nF ak ak)) (qv 3)))) bJ)
  (aj (aR (i:=8) fG.nd (aL kZ (aL cS (aL cS (aL cS (aL iB (qv 4) ak) (aL iB (qv 1) ak)) (aL iB (qv 2) ak)) ak) ak))
  (aj (aR (i:=9) fG.nd (aL kZ (aL cS (aL iB (qv 8) ak) (aL jm (qv 4) ak)) ak))
  (aj (aR (i:=9) fG.nd (aL kZ (aL cS (aL iB (qv 9) (aL cS (aL kZ (qv 8) ak) ak)) (qv 2)) ak))
  (ay (bh (aL kZ (aL kZ (aL cS (aL cS (aL iB (qv 8) ak) (aL iB (qv 9) ak)) (aL jm (qv 9) ak)) ak) (qv 3)))))))))))))),?_⟩
 have hl:(ns.map V.int).length=ns.length:=aF _;refine⟨λσ H'=>H'=H/\σ=[some (.ref a),some (.int k),some (.int j),some (.int BM),some (.int (Jm.cellOf ns k)),some (.int (Jm.As ns k)),none,none,none,none],?_,?_⟩
 .refine ⟨_,Z,a,_,Z,.inl hS,_,_,Z,Z,_,Z,?_⟩;refine dF (λc=>?_) (λc=>?_)
  .have c':0<(((ns.map V.int).length:Nat):Int):=eE c;rw[hl]at c';have i0:0<=k % (ns.length:Int):=pK _ (by omega);have i1:k % (ns.length:Int)<(ns.length:Int):=Ad _ c';refine⟨_,Z,_,Z,_,Z,a,_,Z,.inl hS,_,_,Z,Z,(by show(0:Int)<_;rw[hl];exact c'),a,_,_,.int (ns.getD (k % ns.length).toNat 0),Z,Z,hS,?_,?_⟩
   .rw [hl];exact Zr i0 i1
   refine⟨_,Z,_,Z,a,_,Z,.inl hS,_,_,Z,Z,Wo (n:=10) (by rw[hl];exact c') (by rw[hl];omega) (by decide),Z,?_⟩;unfold Jm.cellOf Jm.As;rw[aB c',aB c',hl];rfl
  .have c':¬ 0<(((ns.map V.int).length:Nat):Int):=uY (mU.mpr c);rw[hl]at c';refine⟨Z,?_⟩;unfold Jm.cellOf Jm.As;rw[aC c',aC c'];rfl
 rintro σ H' ⟨rfl,rfl⟩;generalize ec:Jm.cellOf ns k=cell at *;generalize et:Jm.As ns k=turn at *;refine⟨_,Z,_,Z,j,Z,by omega,hj2,?_⟩;refine mq (lo:=0) (n:=j.toNat) (λi σ z6=>z6=H'/\∃st:Option V,σ=[some (.ref a),some (.int k),some (.int j),some (.int BM),some (.int cell),some (.int turn),some (.int (Jm.DU cell i)),st,none,none]) ⟨Z,none,Z⟩ ?_ ?_
 .rintro i σ z6 hi ⟨rfl,st,rfl⟩;refine⟨_,Z,_,_,Z,Z,⟨by decide,by decide,by decide⟩,_,_,Z,Z,Ar (by decide +kernel),Z,?_⟩;exact⟨_,Z⟩
 rintro σ z6 ⟨rfl,st,rfl⟩;have full:Q (.int (Jm.draw ns k j BM)) z6:=q;unfold Jm.draw at full;rw[ec,et]at full;generalize er:Jm.DU cell j.toNat=Cl at *;refine⟨decide (turn=0/\1000000000000000000<=cell/\0<Cl),?_,?_⟩
 .refine ⟨_,Z,Z,_,Z,?_⟩;by_cases h1:turn=0
  .rw [bL (by rw[h1] :V.int turn=V.int 0)];refine gb ⟨_,Z,_,_,Z,Z,⟨by decide,by decide,by decide⟩,_,_,Z,Z,_,Z,?_⟩;by_cases h2:1000000000000000000<=cell
   .rw [bL (show(10:Int) ^ (18:Int).toNat<=cell from h2)];refine gb ⟨_,Z,_,_,Z,Z,_,Z,?_,Z⟩;by_cases h3:0<Cl
    .rw [bL h3,bL ⟨h1,h2,h3⟩]
    .rw [c8 h3,c8 λz=>h3 z.2.2]
   .rw [c8 (show ¬ (10:Int) ^ (18:Int).toNat<=cell from h2)];exact bw ⟨(c8 λz=>h2 z.2.1).symm,Z⟩
  .rw [c8 (λz=>h1 (V.int.inj z))];exact bw ⟨(c8 λz=>h1 z.1).symm,Z⟩
 by_cases h:turn=0/\1000000000000000000<=cell/\0<Cl
 .rw [bL h];rw[aB h]at full;refine gb ⟨_,Z,_,_,Z,Z,⟨by decide,by decide,by decide⟩,_,_,Z,Z,(by show(0:Int)<_;decide),_,Z,_,_,Z,Z,hm,?_⟩;exact full
 .rw [c8 h];rw[aC h]at full;refine bw ?_;refine⟨_,Z,_,_,Z,Z,.inr ⟨by decide,by decide⟩,_,Z,_,_,Z,Z,.inr ⟨by decide,by decide⟩,_,_,Z,Z,_,Z,_,_,Z,Z,.inr ⟨by decide,by decide⟩,_,_,Z,Z,_,_,Z,Z,_,_,Z,Z,(by show(0:Int)<_;decide),?_⟩;refine⟨_,Z,_,_,Z,Z,.inr ⟨by decide,by decide⟩,_,Z,_,_,Z,Z,Ar (by decide +kernel),_,_,Z,Z,_,_,Z,Z,(by show(0:Int)<_;decide),?_⟩;unfold Jm.mixed at full;dsimp only at full ⊢;generalize e1:(cell*7919+k*104729+j*1299709+31) % 1000000007=one at *;generalize e2:(one*48271+cell / 1009) % 998244353=two at *;have b1:0<=one % 9973:=pK _ (by decide);have b2:one % 9973<9973:=Ad _ (by decide);refine⟨_,Z,_,Z,_,_,Z,Z,(by show(0:Int)<_;decide),_,_,Z,Z,_,_,Z,Z,.inr ⟨by omega,by omega⟩,_,Z,_,_,Z,Z,_,_,Z,Z,(by show(0:Int)<_;decide),?_⟩;refine⟨_,Z,_,_,Z,Z,.inr ⟨by decide,by decide⟩,_,Z,_,_,Z,Z,.inr ⟨by decide,by decide⟩,_,_,Z,Z,_,Z,_,_,Z,Z,Ar (by decide +kernel),_,_,Z,Z,_,_,Z,Z,(by show(0:Int)<_;decide),_,Z,_,_,Z,Z,hm,?_⟩;exact full
abbrev v9:Stmt:=top 27
abbrev su:Da Str:=["_law_code","_law_size"]
abbrev OF:Da Str:=su.append ["_law_word","_law_at_here"]
def mQ:aM OF su (aD v9):=dP
theorem M7(F:At K mg "_law_name" v9 f fd)(dj:mg "range"=none):Dn P w K mg base 1 "_law_name" su FD:=by
 refine F.oA mQ λ_ _ _ _ H _ Q E hr h=>?_;obtain⟨⟨c,n,rfl,hc,hn,q⟩⟩:=h;refine⟨_,(@cU.h _ _ _ (aj (aR (i:=2) mQ.nd bg)
  (aj (fh fX rfl (mF (by rfl) dj (af (qv 1) aq)) (aU (i:=3) mQ.nd) (aj (aR (i:=2) mQ.nd (aL RJ (qv 2) (aO Tr bg (aL kZ (qv 0) ak))))
  (ay (aR (i:=0) mQ.nd (aL jm (qv 0) ak)))))
  (ay (bh (qv 2)))))),?_⟩
 refine⟨_,Z,_,Z,by omega,by omega,?_⟩;refine mq (lo:=0) (n:=(n:Int).toNat) (λi σ H'=>H'=H/\∃(s1:Option V),σ=[some (.int (c / 26 ^ i)),some (.int n),some (.str (tx (lQ c i))),s1]) ⟨Z,none,by rw[Int.pow_zero,DE];rfl⟩ ?_ ?_
 .rintro i σ H' hi ⟨rfl,s1,rfl⟩;have hp:(0:Int)<26 ^ i:=Int.pow_pos (by decide);have hd0:0<=c / 26 ^ i:=Kg hc (Int.le_of_lt hp);have hm0:0<=c / 26 ^ i % 26:=pK _ (by decide);have hm1:c / 26 ^ i % 26<26:=Ad _ (by decide);refine⟨_,Z,_,Z,_,_,Z,Z,(by show(0:Int)<26;decide),_,_,_,Z,Z,(by decide +kernel),T7 hm0 hm1,?_⟩;refine⟨_,_,Z,Z,?_,?_⟩
  .rw [Ax,yQ];show i+1<=sizeLine;exact yF (dw (by omega))
  refine⟨_,Z,_,_,Z,Z,yN (by decide) (sS (by decide +kernel)),Z,some (.int ((0:Int)+(i:Int))),?_⟩;have e1:c / 26 ^ i / 26=c / 26 ^ (i+1):=by rw[Int.ediv_ediv_of_nonneg (Int.le_of_lt hp),Int.pow_succ]
  have e2:(tx (lQ c i)++tx [97+(c / 26 ^ i % 26).toNat] :Str)=tx (lQ c (i+1)):=by rw[abo,Ww]
  rw[<-e1,<-e2];rfl
 rintro σ H' ⟨rfl,s1,rfl⟩;refine⟨_,Z,?_⟩;rw[uZ];exact q
abbrev uh:Stmt:=top 28
abbrev qy:Da Str:=["_law_script","_law_k","_law_many"]
abbrev M_:Da Str:=qy.append ["_law_alike","_law_size","_law_first","_law_shift","_law_at_here","_law_names_here","_law_code"]
def dR:aM M_ qy (aD uh):=dP
theorem JE(F:At K mg "_law_names" uh f fd)(aW:Dn P w K mg base 1 "_law_draw" iy (sR K))(sy:Dn P w K mg base 1 "_law_name" su FD)(dj:mg "range"=none):Dn P w K mg base 2 "_law_names" qy (FG K):=by
 refine F.oA dR λ_ _ _ _ H _ Q E hr h=>?_;obtain⟨⟨a,ms,k,BM,rfl,hS,h63,hk,hm,q⟩⟩:=h;refine⟨_,(@cU.h _ _ _ (aj (aR (i:=3) dR.nd (F_ eF (br aW hr (af (qv 0) (af (qv 1) (af ak (af ak aq))))) ak (a_ _)))
  (aj (aR (i:=4) dR.nd (aL cS ak (br aW hr (af (qv 0) (af (qv 1) (af ak (af ak aq)))))))
  (aj (aR (i:=5) dR.nd (br aW hr (af (qv 0) (af (qv 1) (af ak (af (aL nF ak ak) aq))))))
  (aj (aR (i:=6) dR.nd ak)
  (aj (kj (vD (qv 3)) (ay (fh fX rfl (mF (by rfl) dj (af (br aW hr (af (qv 0) (af (qv 1) (af ak (af (qv 4) aq))))) aq)) (aU (i:=7) dR.nd) (ay (aR (i:=6) dR.nd (aL iB (qv 6) ak))))) bJ)
  (aj (aR (i:=8) dR.nd (iE aq))
  (aj (fh fX rfl (mF (by rfl) dj (af (qv 2) aq)) (aU (i:=7) dR.nd) (aj (aR (i:=9) dR.nd (aL cS (qv 5) (aL iB (qv 6) (br aW hr (af (qv 0) (af (qv 1) (af (aL cS ak (aL iB ak (qv 7))) (af ak aq))))))))
  (aj (kj (AR (vD (qv 3))) (aj (aR (i:=4) dR.nd (aL cS ak (br aW hr (af (qv 0) (af (qv 1) (af (aL cS ak (aL iB ak (qv 7))) (af ak aq)))))))
  (ay (aR (i:=9) dR.nd (br aW hr (af (qv 0) (af (qv 1) (af (aL cS ak (aL iB ak (qv 7))) (af (aL nF ak ak) aq)))))))) bJ)
  (aj (LU fX (aQ Tu (br sy hr (af (qv 9) (af (qv 4) aq))) (qv 8) (by with_unfolding_all rfl)) (ay (aR (i:=9) dR.nd (aL cS (qv 9) (qv 6)))))
  (ay (bO (kQ lJ nZ n5 ee (qv 8) (af (br sy hr (af (qv 9) (af (qv 4) aq))) aq))))))))
  (ay (bh (qv 8))))))))))),?_⟩
 have P10:V3 10 10:=⟨by decide,by decide,by decide +kernel⟩
 refine⟨_,Z,_,Z,cY hS h63 hk (by decide) (by decide) (by decide) λal _ _ _=>⟨Z,?_⟩⟩;refine⟨_,Z,_,Z,cY hS h63 hk (by decide) (by decide) (by decide) λsd _ s0 s1=>⟨_,_,Z,Z,?_⟩⟩;refine⟨_,Z,_,Z,_,_,Z,Z,P10,cY hS h63 hk (by decide) (by decide) (by decide +kernel) λfc _ f0 f1=>?_⟩;generalize hal:decide (V.int al=V.int 0)=alike;obtain⟨n0,en0⟩:∃n:Nat,1+sd=(n:Int):=⟨(1+sd).toNat,by omega⟩
 refine⟨λσ H'=>H'=H/\∃(d:Nat)(s7:Option V),(alike=true->d<n0)/\(alike=false->d=0)/\d<8/\σ=[some (.ref a),some (.int k),some (.int BM),some (.bl alike),some (.int (1+sd)),some (.int fc),some (.int ((26:Int) ^ d)),s7,none,none],?_,?_⟩
 .refine ⟨_,Z,_,Z,dF (λc=>?_) (λc=>?_)⟩
  .refine ⟨_,Z,_,Z,_,Z,cY hS h63 hk (by decide) (by decide) (by omega) λdd _ d0 d1=>⟨dd,Z,by omega,by omega,?_⟩⟩;refine mq (lo:=0) (n:=dd.toNat) (λi σ H'=>H'=H/\∃s7:Option V,σ=[some (.ref a),some (.int k),some (.int BM),some (.bl alike),some (.int (1+sd)),some (.int fc),some (.int ((26:Int) ^ i)),s7,none,none]) ⟨Z,none,Z⟩ ?_ ?_
   .rintro i σ H' hi ⟨rfl,s7,rfl⟩;refine⟨_,Z,_,_,Z,Z,.inr ⟨by decide,by decide⟩,Z,some (.int ((0:Int)+(i:Int))),?_⟩;rw[Int.pow_succ];rfl
   .rintro σ H' ⟨rfl,s7,rfl⟩;exact⟨Z,dd.toNat,s7,λ_=>by omega,λz=>absurd c (by rw[z];exact iA),by omega,Z⟩
  .exact ⟨Z,0,none,λz=>absurd z c,λ_=>rfl,by decide,Z⟩
 rintro σ H' ⟨rfl,d,s7,hd1,hd2,hd8,rfl⟩;refine⟨(iN 0),λpn hpn=>?_⟩;have g0:=aE hpn (.lst []);refine⟨_,Z,(BM:Int),Z,by omega,by omega,?_⟩;refine mq (lo:=0) (n:=(BM:Int).toNat) (λi σ H2=>aJ H' H2/\∃(nss:Da (Da Nat))(n:Nat)(s1 s2:Option V),d<n/\n<=8/\σ=[some (.ref a),some (.int k),some (.int BM),some (.bl alike),some (.int (n:Int)),some (.int fc),some (.int ((26:Int) ^ d)),s1,some (.ref pn),s2]/\H2 pn=some (.lst (sV nss))/\nss.length=i/\nss.Nodup/\∀x∈nss,pV x)
  ⟨g0,[],n0,s7,none,?_,by omega,by rw[<-en0];rfl,ah,Z,rM,λ_ m=>nomatch m⟩ ?_ ?_
 .cases alike with
  | true=>exact hd1 rfl
  | false=>rw[hd2 rfl];omega
 .rintro i σ H2 hi ⟨g,nss,n,s1,s2,hdn,QZ,rfl,hn,hnl,hnd,hok⟩;have hsl:(sV nss).length=i:=by unfold sV;rw[aF];exact hnl
  have hSg:=g.seq hS;have hp:(0:Int)<26 ^ d:=Int.pow_pos (by decide);have hp8:(26:Int) ^ d<2 ^ 64:=by rcases(by omega:d=0\/d=1\/d=2\/d=3\/d=4\/d=5\/d=6\/d=7)with e|e|e|e|e|e|e|e <;> (rw[e];decide +kernel)
  refine⟨_,Z,_,Z,_,Z,_,Z,_,Z,_,_,Z,Z,.inl ⟨by decide,by decide⟩,_,_,Z,Z,cY hSg h63 hk (by omega) (by omega) (by decide) λcd _ c0 c1=>⟨_,_,Z,Z,.inl ⟨by omega,hp8⟩,_,_,Z,Z,?_⟩⟩;have hcode:0<=fc+26 ^ d*cd:=Int.add_nonneg f0 (rN (Int.le_of_lt hp) c0);refine⟨λσ H3=>H3=H2/\∃(n:Nat)(c:Int),0<=c/\d<n/\n<=8/\σ=[some (.ref a),some (.int k),some (.int BM),some (.bl alike),some (.int (n:Int)),some (.int fc),some (.int ((26:Int) ^ d)),some (.int ((0:Int)+(i:Int))),some (.ref pn),some (.int c)],?_,?_⟩
  .refine ⟨_,Z,_,Z,?_⟩;cases hb:alike with
   | true=>exact bw ⟨Z,n,_,hcode,hdn,QZ,Z⟩
   | false=>refine gb ?_;have hd0:=hd2 hb;refine⟨_,Z,_,Z,_,Z,_,_,Z,Z,.inl ⟨by decide,by decide⟩,_,_,Z,Z,cY hSg h63 hk (by omega) (by omega) (by decide) λzd _ z0 z1=>⟨_,_,Z,Z,?_⟩⟩;refine⟨_,Z,_,Z,_,Z,_,_,Z,Z,.inl ⟨by decide,by decide⟩,_,_,Z,Z,_,_,Z,Z,P10,cY hSg h63 hk (by omega) (by omega) (by decide +kernel) λcd2 _ e0 _=>?_⟩;refine⟨Z,(1+zd).toNat,cd2,e0,by omega,by omega,?_⟩;rw[show(((1+zd).toNat:Nat):Int)=1+zd from by omega];rfl
  clear hdn QZ hcode;rintro σ H3 ⟨rfl,n,xw,cc0,hdn,QZ,rfl⟩;refine⟨λm σ H4=>H4=H3/\∃t:Nat,m=nss.length+1-t/\t<=nss.length/\σ=[some (.ref a),some (.int k),some (.int BM),some (.bl alike),some (.int (n:Int)),some (.int fc),some (.int ((26:Int) ^ d)),some (.int ((0:Int)+(i:Int))),some (.ref pn),some (.int (xw+(t:Int)*26 ^ d))]/\∀j:Nat,j<t->lQ (xw+(j:Int)*26 ^ d) n∈nss,
   ⟨_,Z,0,Z,fm _,by rw[show xw+((0:Nat):Int)*26 ^ d=xw from by simp],λj hj=>absurd hj (Nat.not_lt_zero _)⟩,?_⟩
  rintro m σ H4 ⟨rfl,t,rfl,ht,rfl,htr⟩;have hct:0<=xw+(t:Int)*26 ^ d:=Int.add_nonneg cc0 (rN (by omega) (Int.le_of_lt hp));refine⟨_,Z,_,Z,Lg rfl hct (by omega) ?_⟩;refine⟨_,Z,pn,_,Z,.inl (aG.of hn),Z,Wy nss,?_⟩;show Td _ (V.bl (if false=true then !DP (.str (tx (lQ (xw+(t:Int)*26 ^ d) n))) (sV nss) else DP (.str (tx (lQ (xw+(t:Int)*26 ^ d) n))) (sV nss))) _;rw[aC iA,PY];refine⟨_,Z,dF (λc=>?_) (λc=>?_)⟩
  .have hmem:lQ (xw+(t:Int)*26 ^ d) n∈nss:=eE c;have ade:∀j:Nat,j<t+1->lQ (xw+(j:Int)*26 ^ d) n∈nss:=λj hj=>by
    rcases Nat.lt_succ_iff_lt_or_eq.mp hj with z|z
    .exact htr j z
    .rw [z];exact hmem
   have hle:=Ua (c:=xw) (n:=n) (t:=t+1) hdn (by omega) ade;refine⟨_,λ_ _ z=>z,?_⟩;refine⟨_,Z,_,Z,_,_,Z,Z,?_⟩;refine⟨_,(by omega:nss.length+1-(t+1)<nss.length+1-t),Z,t+1,Z,hle,?_,ade⟩;rw[show xw+((t+1:Nat):Int)*26 ^ d=xw+(t:Int)*26 ^ d+26 ^ d from by rw[Int.natCast_add,wM];show _+(_+1*_)=_;rw[Int.one_mul,Int.add_assoc]];rfl
  .have hnm:lQ (xw+(t:Int)*26 ^ d) n∉nss:=uY (mU.mpr c);refine⟨_,Z,.inl ⟨Z,_,aG.of hn⟩,?_⟩;refine⟨_,Z,_,Z,Lg rfl hct (by omega) ?_⟩;refine⟨pn,sV nss,_,Z,Z,hn,dw (by omega),g.cW hpn _,nss++[lQ (xw+(t:Int)*26 ^ d) n],n,_,_,hdn,QZ,Z,?_,?_,oV hnd hnm,λx hx=>?_⟩
   .rw [ah];unfold sV;rw[b8];rfl
   .rw [cX,hnl];rfl
   .rcases fW.mp hx with z|z
    .exact hok x z
    .rw [eO.mp z];exact abt _ (by omega) QZ
 rintro σ H2 ⟨g,nss,n,s1,s2,hdn,QZ,rfl,hn,hnl,hnd,hok⟩;exact⟨_,Z,q pn nss H2 g hn hpn (by omega) hnd hok⟩
abbrev v_:Stmt:=top 29
abbrev sH:Da Str:=["_law_owners"]
abbrev OG:Da Str:=sH
def Na:aM OG sH (aD v_):=dP
def Nb(F:At K mg "_law_lite" v_ f fd)(dI:mg "list"=none):Dn P w K mg base 1 "_law_lite" sH (UN K):=by
 refine F.oA Na λ_ _ _ _ H _ Q E hr h=>?_;obtain⟨⟨l,own,n,ρ,rfl,hl,G,hle,q⟩⟩:=h;refine⟨_,(@cU.h _ _ _ (ay (bh (Qo (qT bg (fD (fJ K) (by rfl) dI tM (af (qv 0) aq)) (qT bg (iE aq) (qT bg (iE aq) Qn))) (by rfl) (by rfl) (λz=>nomatch z) (by with_unfolding_all decide))))),?_⟩;intro m hm;have g0:=aE hm (.dK []);have em0:upd H m (.dK []) m=some (.dK []):=ah;have tH:=g0.seq hl;generalize upd H m (.dK [])=H0 at *;refine⟨_,Z,l,_,Z,.inl tH,λlo hlo=>?_⟩;have g1:=aE hlo (.lst (own.map V.str));have eo1:upd H0 lo (.lst (own.map V.str)) lo=some (.lst (own.map V.str)):=ah;have em1:=g1 _ _ em0;generalize upd H0 lo (.lst (own.map V.str))=H1 at *;refine⟨(iN 0),λlp wc=>?_⟩;have g2:=aE wc (.lst []);have ep2:upd H1 lp (.lst []) lp=some (.lst []):=ah;have YC:=g2 _ _ eo1;have Nc:=g2 _ _ em1;show Aq _ _ (upd H1 lp (.lst [])) _;generalize upd H1 lp (.lst [])=H2 at *;refine⟨(iN 0),λlk hlk=>?_⟩;have g4:=aE hlk (.lst []);have ek4:upd H2 lk (.lst []) lk=some (.lst []):=ah;have ep4:=g4 _ _ ep2;have eo4:=g4 _ _ YC;have em4:=g4 _ _ Nc;show upd H2 lk (.lst []) m=_/\_;generalize upd H2 lk (.lst [])=H4 at *;have gA:=((g0.trans g1).trans g2).trans g4;have n1:lo≠m:=λe=>by rw[e,em0]at hlo;cases hlo
 have n2:lp≠m:=λe=>by rw[e,em1]at wc;cases wc
 have n3:lp≠lo:=λe=>by rw[e,eo1]at wc;cases wc
 have n7:lk≠m:=λe=>by rw[e,Nc]at hlk;cases hlk
 have n8:lk≠lo:=λe=>by rw[e,YC]at hlk;cases hlk
 have n9:lk≠lp:=λe=>by rw[e,ep2]at hlk;cases hlk
 refine⟨em4,[(Sum.inr "owners",.ref lo),(Sum.inr "parts",.ref lp),(Sum.inr "known",.ref lk)],Z,by show 3<=15;decide,?_⟩;have eK:u_ [] [(Sum.inr "owners",.ref lo),(Sum.inr "parts",.ref lp),(Sum.inr "known",.ref lk)]=fQ ⟨m,lo,lp,lk,[]⟩:=rfl;rw[eK];have u1:upd H4 m (.dK (fQ ⟨m,lo,lp,lk,[]⟩)) m=some (.dK (fQ ⟨m,lo,lp,lk,[]⟩)):=ah;have u2:upd H4 m (.dK (fQ ⟨m,lo,lp,lk,[]⟩)) lo=some (.lst (own.map V.str)):=by rw[au n1];exact eo4
 have u3:upd H4 m (.dK (fQ ⟨m,lo,lp,lk,[]⟩)) lp=some (.lst []):=by rw[au n2];exact ep4
 have u5:upd H4 m (.dK (fQ ⟨m,lo,lp,lk,[]⟩)) lk=some (.lst []):=by rw[au n7];exact ek4
 have G4:=(G.same gA).wr (a:=m) (o:=.dK (fQ ⟨m,lo,lp,lk,[]⟩)) rfl;have hz:∀b o,H b=some o->upd H4 m (.dK (fQ ⟨m,lo,lp,lk,[]⟩)) b=some o:=λb o e=>by rw[au (λz=>by rw[z,hm]at e;cases e)];exact gA _ _ e
 have y1:H lo=none:=g0.free hlo;have y2:H lp=none:=(g0.trans g1).free wc;have y4:H lk=none:=((g0.trans g1).trans g2).free hlk;generalize upd H4 m (.dK (fQ ⟨m,lo,lp,lk,[]⟩))=H5 at *;refine q (cy (cy (cy (cy ρ m (n,40,nx)) lo (n,41,nx)) lp (n,42,nx)) lk (n,43,nx)) ⟨m,lo,lp,lk,[]⟩ H5 ((((G4.color u1 rfl).color u2 rfl).color u3 rfl).color u5 rfl) ⟨u1,?_,u2,?_,u3,?_,u5,bN,rM,Z,λi p q e=>by simp at e⟩ (λb o e=>⟨hz b o e,?_⟩)
 .show cy _ lk _ m=_;rw[aP (bB n7),aP (bB n2),aP (bB n1),bN]
 .show cy _ lk _ lo=_;rw[aP (bB n8),aP (bB n3),bN]
 .show cy _ lk _ lp=_;rw[aP (bB n9),bN]
 .rw [aP (aA e y4),aP (aA e y2),aP (aA e y1),aP (aA e hm)]
abbrev wg:Stmt:=top 31
abbrev nO:Da Str:=["_law_script","_law_k","_law_j"]
abbrev OH:Da Str:=nO.append ["_law_size"]
def Bk:aM OH nO (aD wg):=dP
theorem Nd(F:At K mg "_law_much" wg f fd)(aW:Dn P w K mg base 1 "_law_draw" iy (sR K)):Dn P w K mg base 2 "_law_much" nO (D3 K):=by
 refine F.oA Bk λ_ _ _ _ H _ Q E hr h=>?_;obtain⟨⟨a,ns,k,j,rfl,hS,h63,hk,hj,hj2,q⟩⟩:=h;refine⟨_,(@cU.h _ _ _ (aj (aR (i:=3) Bk.nd (aO (cZ K) (iE (af ak (af ak (af ak (af (aL nF ak ak) aq))))) (br aW hr (af (qv 0) (af (qv 1) (af (qv 2) (af ak aq)))))))
  (ay (bh (aL cS ak (br aW hr (af (qv 0) (af (qv 1) (af (aL cS (qv 2) ak) (af (qv 3) aq)))))))))),?_⟩
 refine⟨_,_,Z,Z,⟨by decide,by decide,by decide⟩,(iN 4),λp1 hp1=>?_⟩;have g1:=aE hp1 (.lst [V.int 9,V.int 40,V.int 1000,V.int (10 ^ (9:Int).toNat)]);refine⟨_,Z,_,Z,_,Z,cY (g1.seq hS) h63 hk hj (by omega) (by decide) λd _ d0 d1=>?_⟩;obtain⟨B,hB,hB0,hB1⟩:∃B:Int,pS [V.int 9,V.int 40,V.int 1000,V.int (10 ^ (9:Int).toNat)] d=some (.int B)/\0<B/\B<=1000000000:=by
  rcases(by omega:d=0\/d=1\/d=2\/d=3)with e|e|e|e
  .exact ⟨9,by rw[e];rfl,by decide,by decide⟩
  .exact ⟨40,by rw[e];rfl,by decide,by decide⟩
  .exact ⟨1000,by rw[e];rfl,by decide,by decide⟩
  .exact ⟨10 ^ (9:Int).toNat,by rw[e];rfl,by decide,by decide⟩
 refine⟨p1,_,_,_,Z,Z,aG.of ah,hB,?_⟩;refine⟨_,Z,_,Z,_,Z,_,_,Z,Z,_,Z,cY (g1.seq hS) h63 hk (by omega) (by omega) hB0 λe _ e0 e1=>⟨_,_,Z,Z,?_⟩⟩;exact q (1+e) _ (by omega) (by omega) g1
abbrev wk:Stmt:=top 32
abbrev sJ:Da Str:=["_law_script","_law_k","_law_parts"]
abbrev OI:Da Str:=sJ.append ["_law_spare","_law_order","_law_rows_here","_law_at_here","_law_way","_law_amount"]
def gc:aM OI sJ (aD wk):=dP
theorem Nf(F:At K mg "_law_rows" wk f fd)(aW:Dn P w K mg base 1 "_law_draw" iy (sR K))(cE:mg "len"=none)(dj:mg "range"=none)(dI:mg "list"=none)(kR:mg "sum"=none)(xx:mg "min"=none):Dn P w K mg base 2 "_law_rows" sJ (Qi K):=by
 refine F.oA gc λ_ _ _ _ H _ Q E hr h=>?_;obtain⟨⟨a,l,ns,k,us,ws,rfl,hS,h63,hk0,hk1,hl,hW,nd,hle,hw1,q⟩⟩:=h;refine⟨_,(@cU.h _ _ _ (aj (aR (i:=3) gc.nd (aL mw (bV (Aw K rfl) (by rfl) kR KC (af (kh ["_law_part"] [none] rfl (dZ K (qv 2)) (λ_ _ _ _=>(aU (i:=0) (show List.Nodup (["_law_part"] :Da Str)from by decide +kernel))) (λ_ _ _ _=>(aO (iI K) (qv 0) ak)) rfl (by rfl)) aq)) ak))
  (aj (aR (i:=4) gc.nd (fD (Jd rfl) (by rfl) dI tM (af (UD (by rfl) dj (af (bV (dU K) (by rfl) cE gr (af (qv 2) aq)) aq)) aq)))
  (aj (kj (aQ eF (br aW hr (af (qv 0) (af (qv 1) (af ak (af ak aq))))) ak (a_ _)) (ay (aR (i:=4) gc.nd (ab6 K (qv 4) (Ku DL ak)))) bJ)
  (aj (aR (i:=5) gc.nd (iE aq))
  (aj (fh fX rfl (dZ K (qv 4)) (aU (i:=6) gc.nd) (aj (aR (i:=7) gc.nd (br aW hr (af (qv 0) (af (qv 1) (af (aL cS ak (aL iB ak (qv 6))) (af ak aq))))))
  (aj (aR (i:=8) gc.nd (bV (Uy rfl) (by rfl) xx Rm (af (aO (iI K) (aO (cZ K) (qv 2) (qv 6)) ak) (af (qv 3) (af (aL nF ak ak) aq)))))
  (aj (kj (ki (bW.pt (qe (aQ eF (qv 7) ak (a_ _)) (qU (aQ kK (qv 8) ak (a_ _)))))) (ay (aR (i:=8) gc.nd (aL cS ak (br aW hr (af (qv 0) (af (qv 1) (af (aL cS ak (aL iB ak (qv 6))) (af (qv 8) aq)))))))) bJ)
  (ay (kj (ki (bW.pt (qe (aQ kK (qv 7) ak (a_ _)) (qU (aQ kK (qv 8) ak (a_ _)))))) (aj (bO (kQ lJ nZ n5 ee (qv 5) (af (iY (af (aO (iI K) (aO (cZ K) (qv 2) (qv 6)) ak) (af (qv 8) aq))) aq)))
  (ay (aR (i:=3) gc.nd (aL mw (qv 3) (qv 8))))) bJ))))))
  (ay (bh (qv 5))))))))),?_⟩
 have ll:=hW.len;refine⟨_,Z,l,Z,⟨_,hl⟩,λl0 tH=>?_⟩;refine k7 (J:=zS K l) (n:=us.length) 0 (λi o H'=>aJ H H'/\o=((ws.take i).map (λr:Row=>r.2)).map V.int) (by omega) ⟨aE tH _,Z⟩ (λi o H' hi _ hp=>⟨_,_,hp.1.seq hl,bu hi⟩) (λo H' _ hp=>⟨_,hp.1.seq hl,aK _⟩) ?_ ?_
 .rintro i y o H2 H3 hi gf ha ⟨g,e⟩ ⟨rfl,hy⟩;have hiw:i<ws.length:=by omega
  have ei:=bu hiw;obtain⟨ar,xs,ea,Cr,x0,x2⟩:=hW.at_ i _ ei;have ey:=hy _ (g.seq hl);rw[ea]at ey;cases ey;refine⟨_,Z,(g.sq Cr).ix (i:=2) x2 ?_⟩;refine⟨ha,g.cW tH _,?_⟩;subst e;rw[take_snoc ei,b8,b8];rfl
 rintro o1 H1 _ ha ⟨g1,e⟩;rw[ll,c7]at e;subst e;refine⟨l0,ws.map (λr:Row=>r.2),Z,aG.of ha,_,_,Z,Z,?_⟩;show pP 3 (.int (bK ws-1)) _ _ _;refine⟨_,Z,l,_,Z,.inl (g1.seq hl),_,Z,λpr hpr=>?_⟩;refine⟨pr,ws.length,Z,?_,by omega,λpo Yy=>?_⟩
 .rw [ah,ll]
 have gA:=(aE hpr (.wN 0 ((us.length:Nat):Int))).trans (aE Yy (.lst ((L2.upTo ws.length).map V.int)));have gB:=g1.trans gA;have hord:upd (upd H1 pr (.wN 0 ((us.length:Nat):Int))) po (.lst ((L2.upTo ws.length).map V.int)) po=some (.lst ((L2.upTo ws.length).map V.int)):=ah;generalize upd (upd H1 pr (.wN 0 ((us.length:Nat):Int))) po (.lst ((L2.upTo ws.length).map V.int))=H2 at *;have ndo:(L2.upTo ws.length).Nodup:=by unfold L2.upTo;refine List.Pairwise.map _ (λx y h e=>h (by omega)) List.nodup_range
 have wN:∀x∈L2.upTo ws.length,0<=x/\x<(ws.length:Int):=λx hx=>by unfold L2.upTo at hx;obtain⟨i,hi,rfl⟩:=b7.mp hx;have:=yz.mp hi;omega
 have lup:(L2.upTo ws.length).length=ws.length:=by unfold L2.upTo;rw[aF,List.length_range]
 refine⟨λσ H3=>aJ H H3/\∃(pq:Addr)(os:Da Int),σ=[some (.ref a),some (.int k),some (.ref l),some (.int (bK ws-1)),some (.ref pq),none,none,none,none]/\H3 pq=some (.lst (os.map V.int))/\os.Nodup/\os.length=ws.length/\∀x∈os,0<=x/\x<(ws.length:Int),?_,?_⟩
 .refine ⟨_,Z,_,Z,cY (gB.seq hS) h63 hk0 (by decide) (by decide) (by decide) λd _ d0 d1=>⟨Z,_,Z,dF (λc=>?_) (λc=>?_)⟩⟩
  .refine ⟨_,Z,_,Z,Z,po,_,Z,aG.of hord,λpz hpz=>?_⟩;have g3:=aE hpz (.lst ((L2.upTo ws.length).map V.int).reverse);exact⟨gB.trans g3,pz,(L2.upTo ws.length).reverse,Z,by rw[ah,List.map_reverse],List.pairwise_reverse.mpr (List.Pairwise.imp (λh=>bB h) ndo),by rw[List.length_reverse,lup],λx hx=>wN x (List.mem_reverse.mp hx)⟩
  .exact ⟨gB,po,L2.upTo ws.length,Z,hord,ndo,lup,wN⟩
 rintro σ H3 ⟨g3,pq,os,rfl,hos,hnd,gf,hrg⟩;refine⟨(iN 0),λz hz=>?_⟩;have g4:=aE hz (.lst []);have hzz:upd H3 z (.lst []) z=some (.lst []):=ah;have adj:=g4 _ _ hos;have nz:pq≠z:=λe=>by rw[e,hz]at hos;cases hos
 have hzH:H z=none:=g3.free hz;have g34:=g3.trans g4;show i9 _ _ _ _ (upd H3 z (.lst []));generalize upd H3 z (.lst [])=H4 at *;have w1:ws≠[]->1<=bK ws:=λhne=>by
  cases ws with
  | nil=>exact absurd rfl hne
  | cons r rs=>have h1:=hw1 r dg;have h2:=CS (rs:=rs) λx hx=>hw1 x (cM _ hx);rw[show bK (r::rs)=r.2+bK rs from by unfold bK;rw[cO,fY]];omega
 refine⟨_,Z,pq,Z,⟨_,aG.of adj⟩,?_⟩;refine jk (K:=K) (xs:=os.map V.int) (IvR H ws os a l pq z k)
  ⟨g34,adj,[],[],bK ws-1,none,none,none,Z,hzz,.nil,aK _,rM,by show _=bK ws-1-0;omega,λhne=>by have:=w1 hne;omega,λr hr=>absurd hr (by simp)⟩ ?_ ?_ ?_
 .rintro i σ H' _ ⟨_,h,_⟩;exact aG.of h
 .rintro i x σ H5 hx ⟨g5,hq5,zs,rs,sp,s6,s7,s8,rfl,Q0,hR,hrl,Vi,sQ,SA,qX⟩;rw[cu]at hx;obtain⟨at',hat,rfl⟩:=kH.mp hx;have hio:=(dX.mp hat).1;obtain⟨t0,t1⟩:=hrg at' (bQ hat);obtain⟨jt,hjt⟩:∃jt:Nat,((jt:Nat):Int)=at':=⟨at'.toNat,by omega⟩
  subst hjt;have hjl:jt<ws.length:=by omega
  have hne:ws≠[] :=λe=>by rw[e]at hjl;simp at hjl
  have ajg:=SA hne;have hnot:((jt:Nat):Int)∉os.take i:=λm=>by obtain⟨j,hj,ej⟩:=List.mem_iff_getElem.mp m;rw[List.getElem_take]at ej;rw[kI]at hj;have e2:=(dX.mp hat).2;have:=(List.getElem_inj hnd).mp (ej.trans e2.symm);omega
  have ej:=bu hjl;have hwj:=hw1 _ (bQ ej);generalize ws[jt]=wj at *;obtain⟨ar,xs,ea,Cr,x0,x2⟩:=hW.at_ jt _ ej;refine⟨_,Z,_,Z,_,Z,_,_,Z,Z,.inl ⟨by decide,by decide⟩,_,_,Z,Z,cY (g5.seq hS) h63 hk0 (by omega) (by omega) (by decide) λway _ v0 v1=>?_⟩;refine⟨_,Z,_,Z,l,_,_,_,Z,Z,g5.seq hl,aN ea,(g5.sq Cr).ix (i:=2) x2 ?_⟩;refine⟨_,Z,_,_,Z,Z,⟨by decide,by decide,by decide⟩,_,_,_,Z,?_⟩;obtain⟨m1,m2,m3⟩:=ZQ wj.2 sp ((10:Int) ^ (9:Int).toNat);have m0:0<=vB wj.2 sp ((10:Int) ^ (9:Int).toNat):=ZR (by omega) ajg (by decide);have m3:vB wj.2 sp ((10:Int) ^ (9:Int).toNat)<=1000000000:=m3;generalize vB wj.2 sp ((10:Int) ^ (9:Int).toNat)=m at *;refine⟨λσ H6=>H5=H6/\∃m:Int,0<=m/\m<=sp/\m<=wj.2/\m<=1000000000/\σ=[some (.ref a),some (.int k),some (.ref l),some (.int sp),some (.ref pq),some (.ref z),some (.int (jt:Int)),some (.int way),some (.int m)],?_,?_⟩
  .refine ⟨decide (way=2/\0<m),?_,?_⟩
   .refine ⟨_,Z,Z,_,Z,?_⟩;by_cases h1:way=2
    .rw [bL (by rw[h1] :V.int way=V.int 2)];refine gb ⟨_,Z,_,_,Z,Z,_,Z,?_,Z⟩;by_cases h2:0<m
     .rw [bL h2,bL ⟨h1,h2⟩]
     .rw [c8 h2,c8 λz=>h2 z.2]
    .rw [c8 (λz=>h1 (V.int.inj z))];exact bw ⟨(c8 λz=>h1 z.1).symm,Z⟩
   refine dF (λc=>?_) (λc=>?_)
   .obtain ⟨_,c2⟩:=eE c;refine⟨_,Z,_,Z,_,Z,_,_,Z,Z,.inl ⟨by decide,by decide⟩,_,_,Z,Z,_,Z,cY (g5.seq hS) h63 hk0 (by omega) (by omega) c2 λd _ d0 d1=>⟨_,_,Z,Z,Z,1+d,by omega,by omega,by omega,by omega,Z⟩⟩
   .exact ⟨Z,m,m0,m2,m1,m3,Z⟩
  rintro σ H6 ⟨rfl,o,o0,o1,o2,o3,rfl⟩;have grow:∀r∈rs,1<=r.2/\r.2<=1000000000/\∃j:Nat,((j:Nat):Int)∈os.take (i+1)/\∃w,ws[j]?=some w/\w.1=r.1/\r.2<=w.2:=λr hr=>by obtain⟨a1,a2,j,a3,a4⟩:=qX r hr;exact⟨a1,a2,j,by rw[take_snoc hat];exact yv _ a3,a4⟩
  refine⟨IvR H ws os a l pq z k (i+1),?_,λ_ _ h=>h⟩;refine⟨decide (0<way/\0<o),?_,?_⟩
  .refine ⟨_,Z,_,_,Z,Z,_,Z,?_⟩;by_cases h1:0<way
   .rw [bL h1];refine gb ⟨_,Z,_,_,Z,Z,_,Z,?_,Z⟩;by_cases h2:0<o
    .rw [bL h2,bL ⟨h1,h2⟩]
    .rw [c8 h2,c8 λz=>h2 z.2]
   .rw [c8 h1];exact bw ⟨(c8 λz=>h1 z.1).symm,Z⟩
  refine dF (λc=>?_) (λc=>?_)
  .obtain ⟨_,c2⟩:=eE c;refine⟨_,Z,.inl ⟨Z,_,aG.of Q0⟩,_,Z,_,Z,l,_,_,_,Z,Z,g5.seq hl,aN ea,(g5.sq Cr).ix (i:=0) x0 ?_⟩;refine⟨_,Z,(iN 2),λp hp=>?_⟩;have g6:=aE hp (yW (wj.1,o));have hz6:=g6 _ _ Q0;have YB:=g6 _ _ hq5;have Va:upd H5 p (yW (wj.1,o)) p=some (yW (wj.1,o)):=ah;have ajh:=hR.length;show tP _ (upd H5 p (yW (wj.1,o))) _;generalize upd H5 p (yW (wj.1,o))=H6 at *;refine⟨z,_,_,Z,Z,hz6,by rw[ajh];exact dw (by omega),?_⟩;have np:p≠z:=λe=>by rw[e,Q0]at hp;cases hp
   have tu:∀b ys,H6 b=some (.tup ys)->upd H6 z (.lst (zs++[.ref p])) b=some (.tup ys):=jf (.inr ⟨_,hz6,Z⟩);refine⟨_,Z,_,Z,_,_,Z,Z,(g5.trans g6).cW hzH _,by rw[au nz];exact YB,zs++[.ref p],rs++[(wj.1,o)],sp-o,_,_,_,Z,ah,((hR.mono g6.tups).snoc Va).mono tu,by rw[cX];show rs.length+1<=i+1;omega,?_,?_,λ_=>by omega,?_⟩
   .rw [b8];refine oV Vi λhm=>?_;obtain⟨r,hr,er⟩:=b7.mp hm;obtain⟨_,_,j,hj,w,adl,e1,_⟩:=qX r hr;have hj2:j<ws.length:=(dX.mp adl).1;have r1:(ws.map (λr:Row=>r.1))[j]?=some w.1:=by rw[cu,adl];rfl
    have r2:(ws.map (λr:Row=>r.1))[jt]?=some wj.1:=by rw[cu,ej];rfl
    have er:r.1=wj.1:=er;have:j=jt:=(RD (by rw[aF];exact hj2) nd).mp (r1.trans (by rw[e1,er];exact r2.symm));rw[this]at hj;exact hnot hj
   .rw [show bK (rs++[(wj.1,o)])=bK rs+o from by unfold bK;rw[b8,List.sum_append];simp];omega
   .intro r hr;rcases fW.mp hr with h1|h1
    .exact grow r h1
    .rw [eO.mp h1];exact⟨by show 1<=o;omega,o3,jt,by rw[take_snoc hat];exact iQ _ (eO.mpr rfl),wj,ej,Z,o2⟩
  .exact ⟨g5,hq5,zs,rs,sp,_,_,_,Z,Q0,hR,by omega,Vi,sQ,SA,grow⟩
 rintro σ H5 ⟨g5,hq5,zs,rs,sp,s6,s7,s8,rfl,Q0,hR,hrl,Vi,sQ,SA,qX⟩;rw[aF,gf]at hrl;refine⟨_,Z,q z zs rs H5 g5 hzH Q0 hR ⟨Vi,λr hr=>?_,?_,hrl⟩⟩
 .obtain ⟨a1,a2,j,_,w,hw,e1,e2⟩:=qX r hr;exact⟨a1,a2,w,bQ hw,e1,e2⟩
 .by_cases c:ws=[]
  .right;rw[c]at hrl;exact List.length_eq_zero_iff.mp (by simpa using hrl)
  .left;have:=SA c;omega
abbrev wm:Stmt:=top 33
abbrev sL:Da Str:=["_law_rows_here"]
abbrev OJ:Da Str:=sL.append ["_law_things","_law_name_here","_law_amount"]
def qz:aM OJ sL (aD wm):=dP
theorem Ng(F:At K mg "_law_flat" wm f fd)(GN:mg "tuple"=none):Dn P w K mg base 1 "_law_flat" sL (UK K):=by
 refine F.oA qz λ_ _ _ _ H _ Q E hr h=>?_;obtain⟨⟨l,us,rs,rfl,hl,hR,hle,q⟩⟩:=h;refine⟨_,(@cU.h _ _ _ (aj (aR (i:=1) qz.nd (iE (af bg aq)))
  (aj (fh fX rfl (dZ K (qv 0)) (iM K (n:=2) rfl (cC (aU (i:=2) qz.nd) (cC (aU (i:=3) qz.nd) iL))) (aj (bO (kQ lJ nZ n5 ee (qv 1) (af (qv 2) aq)))
  (ay (bO (kQ lJ nZ n5 ee (qv 1) (af (qv 3) aq))))))
  (ay (bh (fD Jb (by rfl) GN PyProof.Rows.boot_tuple (af (qv 1) aq))))))),?_⟩
 have hul:=hR.length;refine⟨(iN 1),λt ht=>?_⟩;have g0:=aE ht (.lst [.str "cast"]);have h0:upd H t (.lst [.str "cast"]) t=some (.lst (Dd.v (.cast (rs.take 0)))):=ah;show i9 _ _ _ _ (upd H t (.lst [.str "cast"]));generalize upd H t (.lst [.str "cast"])=H0 at *;refine⟨_,Z,l,Z,⟨us,g0.seq hl⟩,?_⟩;refine jk (K:=K) (xs:=us) (λi σ H'=>aJ H H'/\H' t=some (.lst (Dd.v (.cast (rs.take i))))/\∃s2 s3,σ=[some (.ref l),some (.ref t),s2,s3]) ⟨g0,h0,_,_,Z⟩ (λi σ H' _ hp=>hp.1.seq hl) ?_ ?_
 .rintro i x σ H' hx ⟨g,hd',s2,s3,rfl⟩;obtain⟨a,r,rfl,er,ha⟩:=hR.get hx;have hlt:(Dd.v (.cast (rs.take i))).length+1<sizeLine:=by show(jO (rs.take i)).length+1+1<_;rw[AQ,kI,jY];exact KI (show _<=3000 by omega) (by decide)
  refine⟨a,_,Z,dm.of (g _ _ ha),Z,_,_,Z,_,_,Z,Z,?_⟩;refine⟨_,Z,.inl ⟨Z,_,aG.of hd'⟩,_,Z,t,_,_,Z,Z,hd',by omega,?_⟩;refine⟨_,Z,.inl ⟨Z,_,aG.of ah⟩,_,Z,t,_,_,Z,Z,ah,by rw[cX];exact hlt,?_⟩;refine⟨?_,?_,_,_,Z⟩
  .rw [lE];exact g.cW ht _
  .rw [ah,take_snoc er];show some (HO.lst ((V.str "cast"::jO (rs.take i)++[V.str r.1])++[V.int r.2]))=some (HO.lst (V.str "cast"::jO (rs.take i++[r])));rw[AN];simp[jO]
 rintro σ H' ⟨g,hd',s2,s3,rfl⟩;rw[hul,c7]at hd';refine⟨_,Z,t,_,Z,.inl ⟨aG.of hd',λz hz=>q z _ (g.trans (aE hz _)) ah⟩⟩
abbrev ny:Stmt:=top 34
abbrev kT:Da Str:=["_law_script","_law_k","_law_model","_law_names_here","_law_way"]
abbrev Dh:Da Str:=kT.append ["_law_parts","_law_part","_law_owner","_law_whole","_law_rows_here","_law_amount"]
def fV:aM Dh kT (aD ny):=dP
theorem B0(F:At K mg "_law_part_deed" ny f fd)(aW:Dn P w K mg base 1 "_law_draw" iy (sR K))(lI:Dn P w K mg base 2 "_law_much" nO (D3 K))(xR:Dn P w K mg base 2 "_law_rows" sJ (Qi K))(xS:Dn P w K mg base 1 "_law_flat" sL (UK K))(cE:mg "len"=none)(kR:mg "sum"=none)(xx:mg "min"=none):Dn P w K mg base 3 "_law_part_deed" kT (Ew K):=by
 refine F.oA fV λ_ _ _ _ H _ Q E hr h=>?_;obtain⟨⟨a,m,ln,ns,k,way,nms,c,st,rfl,hS,h63,hk0,hk1,hq,hN,nx,hnl,wf,g,hc,hp0,q⟩⟩:=h;refine⟨_,(@cU.h _ _ _ (aj (aR (i:=5) fV.nd (di (c9 hr) (qv 2) bg))
  (aj (aR (i:=6) fV.nd (aO (cZ K) (qv 5) (br aW hr (af (qv 0) (af (qv 1) (af ak (af (bV (dU K) (by rfl) cE gr (af (qv 5) aq)) aq)))))))
  (aj (aR (i:=7) fV.nd (aO (cZ K) (di (c9 hr) (qv 2) bg) (br aW hr (af (qv 0) (af (qv 1) (af ak (af (bV (dU K) (by rfl) cE gr (af (di (c9 hr) (qv 2) bg) aq)) aq)))))))
  (aj (aR (i:=8) fV.nd (bV (Aw K rfl) (by rfl) kR KC (af (kh ["_law_one"] [none] rfl (dZ K (qv 5)) (λ_ _ _ _=>(aU (i:=0) (show List.Nodup (["_law_one"] :Da Str)from by decide +kernel))) (λ_ _ _ _=>(aO (iI K) (qv 0) ak)) rfl (by rfl)) aq)))
  (aj (kj (aQ rR (qv 4) ak (a_ _)) (aj (aR (i:=9) fV.nd (br xR hr (af (qv 0) (af (qv 1) (af (qv 5) aq)))))
  (ay (cN (aQ kK (bV (dU K) (by rfl) cE gr (af (qv 9) aq)) ak (a_ _)) (ay (bh (br xS hr (af (qv 9) aq)))) bJ))) bJ)
  (aj (cN (aQ eF (qv 4) ak (a_ _)) (ay (bh (iY (af bg (af (aO (iI K) (qv 6) ak) (af (qv 7) aq)))))) bJ)
  (aj (cN (aQ eF (qv 4) ak (a_ _)) (ay (bh (iY (af bg (af (aO (iI K) (qv 6) ak) aq))))) bJ)
  (aj (cN (ki (bW.pt (qe (aQ eF (qv 4) ak (a_ _)) (qU (aQ kK (qv 8) ak (a_ _)))))) (ay (bh (iY (af bg (af (qv 7) (af (aL cS ak (br aW hr (af (qv 0) (af (qv 1) (af ak (af (bV (Ai rfl) (by rfl) xx Rm (af (aL mw (qv 8) ak) (af (aL nF ak ak) aq))) aq)))))) aq)))))) bJ)
  (aj (cN (ki (bW.pt (qe (aQ eF (qv 4) ak (a_ _)) (qe (aQ kK (aO (iI K) (qv 6) ak) ak (a_ _)) (qU (aQ rR (bV (dU K) (by rfl) cE gr (af (di (c9 hr) (qv 2) bg) aq)) (bV (dU K) (by rfl) cE gr (af (qv 3) aq)) (a_ _))))))) (aj (aR (i:=10) fV.nd (aL cS ak (br aW hr (af (qv 0) (af (qv 1) (af ak (af (bV (Ai rfl) (by rfl) xx Rm (af (aL mw (aO (iI K) (qv 6) ak) ak) (af (aL nF ak ak) aq))) aq)))))))
  (ay (bh (iY (af bg (af (aO (iI K) (qv 6) ak) (af (aO (cZ K) (qv 3) (bV (dU K) (by rfl) cE gr (af (di (c9 hr) (qv 2) bg) aq))) (af (qv 10) (af (br aW hr (af (qv 0) (af (qv 1) (af ak (af (aL cS (aO (iI K) (qv 6) ak) ak) aq))))) aq))))))))) bJ)
  (aj (cN (aQ eF (qv 4) ak (a_ _)) (ay (bh (iY (af bg (af (aO (iI K) (qv 6) ak) (af (aL cS ak (br aW hr (af (qv 0) (af (qv 1) (af ak (af (bV (Ai rfl) (by rfl) xx Rm (af (aO (iI K) (qv 6) ak) (af (aL nF ak ak) aq))) aq)))))) aq)))))) bJ)
  (ay (bh (iY (af bg (af (aO (iI K) (qv 6) ak) (af (br lI hr (af (qv 0) (af (qv 1) (af ak aq)))) aq))))))))))))))))),?_⟩
 obtain⟨AT,lo,lp,lk,us,om,vo,vp,vk,oo,op,rw',ok⟩:=hq;have ll:=rw'.len;have hpl:=g.pl;have gf:=wf.j9;have aji:=g.ol;refine⟨_,Z,m,_,Z,vp▸dS.k (k:=Sum.inr "parts") om,?_⟩;refine⟨_,Z,_,Z,_,Z,_,Z,_,us,Z,.inl op,cY hS h63 hk0 (by decide) (by decide) (by omega) λd _ d0 d1=>?_⟩;obtain⟨j,rfl⟩:∃j:Nat,d=(j:Int):=⟨d.toNat,by omega⟩
 have hj:j<st.ai.length:=by omega
 have ep:=bu hj;have gh:=Kd hj;generalize st.ai[j]=p at *;obtain⟨ap,xs,ea,Cr,x0,x1,x2,x3⟩:=rw'.at_ j p ep;refine⟨lp,_,_,_,Z,Z,op,aN ea,?_⟩;refine⟨_,Z,m,_,Z,vo▸dS.k (k:=Sum.inr "owners") om,_,Z,_,Z,_,Z,m,_,Z,vo▸dS.k (k:=Sum.inr "owners") om,lo,_,Z,.inl oo,cY hS h63 hk0 (by decide) (by decide) (by rw[aF];omega) λwd _ w0 w1=>?_⟩;rw[aF]at w1;obtain⟨jo,o,ejo,eo,eat⟩:=LF (l:=st.own) (d:=wd) w0 w1;refine⟨lo,_,_,_,Z,Z,oo,eat,?_⟩;have how:=bQ eo;have wol:wl o<=20:=uQ (g.on o how);have Vj:wl p.nm<=20:=uQ (g.nk _ (wf.sub p gh));have hw0:=wf.kG p gh;have eg:bP st p.nm=p:=d_ wf gh rfl;have hin:p.nm∈eL st:=BU ep;refine⟨_,Z,lp,Z,⟨_,op⟩,λl0 tH=>?_⟩;refine k7 (J:=zS K lp) (n:=us.length) 0 (λi o H'=>aJ H H'/\o=((st.ai.take i).map (λp:Pt=>p.wo)).map V.int) (by omega) ⟨aE tH _,Z⟩ (λi o H' hi _ hp=>⟨_,_,hp.1.seq op,bu hi⟩) (λo H' _ hp=>⟨_,hp.1.seq op,aK _⟩) ?_ ?_
 .rintro i y o H2 H3 hi gf ha ⟨g,e⟩ ⟨rfl,hy⟩;have hiw:i<st.ai.length:=by omega
  have ei:=bu hiw;obtain⟨ar,xs,ea,Cr,_,_,x2,_⟩:=rw'.at_ i _ ei;have ey:=hy _ (g.seq op);rw[ea]at ey;cases ey;refine⟨_,Z,(g.sq Cr).ix (i:=2) x2 ?_⟩;refine⟨ha,g.cW tH _,?_⟩;subst e;rw[take_snoc ei,b8,b8];rfl
 rintro o1 H1 _ ha ⟨g1,e⟩;rw[ll,c7]at e;subst e;refine⟨l0,st.ai.map (λp:Pt=>p.wo),Z,aG.of ha,?_⟩;show pP 8 (.int (aS st)) _ _ _;have ret:∀(t:Addr)(d:Dd)(H2:Hp),aJ H H2->H2 t=none->BW nms st d->Q (.ref t) (upd H2 t (.tup (Dd.v d))):=λt d H2 g2 ht hd=>q t d _ (g2.trans (aE ht _)) ah hd;have keep:∀d:Dd,jb st d=none->Ql d->d.pl=true->BW nms st d:=λd h1 h2 h3=>⟨h1,h2,nx.keep (UJ (Dd.WZ h3).1 (Dd.WZ h3).2.1),(Dd.WZ h3).2.2⟩
 refine⟨λσ' H'=>aJ H H'/\∃s9,σ'=[some (.ref a),some (.int k),some (.ref m),some (.ref ln),some (.int way),some (.ref lp),some (.ref ap),some (.str o),some (.int (aS st)),s9,none],?_,?_⟩
 .refine ⟨_,Z,_,_,Z,Z,_,Z,dF (λ_=>?_) (λ_=>⟨g1,_,Z⟩)⟩;have hw1:∀w∈z7 st,1<=w.2:=λw hw=>by obtain⟨p,hp,rfl⟩:=b7.mp hw;exact(wf.kG p hp).1
  have nwN:((z7 st).map (λr:Row=>r.1)).Nodup:=by unfold z7;rw[fk];exact wf.dN
  have nwL:(z7 st).length=st.ai.length:=by unfold z7;rw[aF]
  refine⟨_,Z,_,Z,_,Z,⟨⟨a,lp,ns,k,us,z7 st,Z,g1.seq hS,h63,hk0,hk1,g1.seq op,(rw'.mono g1).nw,nwN,by omega,hw1,λz zs rs H2 g2 hz0 hz1 hR hro=>?_⟩⟩⟩;have zl:=hR.length;refine⟨_,Z,z,zs,Z,.inl (aG.of hz1),_,_,Z,Z,_,Z,dF (λc=>?_) (λc=>⟨g1.trans g2,_,Z⟩)⟩;have c':(0:Int)<(zs.length:Int):=eE c;have hne:rs≠[] :=λe=>by rw[zl,e]at c';simp at c'
  have rl:=hro.len;have:=nx.pl wf;refine⟨_,Z,⟨⟨z,zs,rs,Z,aG.of hz1,hR,by omega,λt H3 g3 ht=>q t (.cast rs) H3 ((g1.trans g2).trans g3) ht (keep _ (Sj wf hro hne) ⟨by omega,λr hr=>?_⟩ rfl)⟩⟩⟩;obtain⟨r1,r2,w,hw,e,_⟩:=hro.row r hr;obtain⟨p',gT,rfl⟩:=b7.mp hw;have e:p'.nm=r.1:=e;exact⟨by rw[<-e];exact uQ (g.nk _ (wf.sub p' gT)),by omega,r2⟩
 rintro σ H2 ⟨g2,s9,rfl⟩;have xT:=g2.sq Cr;have Nh:=g2.seq hS;have P9:V3 10 9:=⟨by decide,by decide,by decide +kernel⟩
 have p9:(10:Int) ^ (9:Int).toNat=1000000000:=by decide +kernel
 have mn:∀w:Int,0<w->0<(if(10:Int) ^ (9:Int).toNat<w then(10:Int) ^ (9:Int).toNat else w)/\(if(10:Int) ^ (9:Int).toNat<w then(10:Int) ^ (9:Int).toNat else w)<=w/\(if(10:Int) ^ (9:Int).toNat<w then(10:Int) ^ (9:Int).toNat else w)<=1000000000:=λw h=>by rw[p9];split <;> omega
 refine⟨_,Z,Z,_,Z,dF (λ_=>?_) (λ_=>?_)⟩
 .exact ⟨_,Z,xT.ix (i:=0) x0 ⟨_,Z,(iN 3),λt ht=>ret t (.hand p.nm o) H2 g2 ht (keep _ (by show kP st p.nm o=none;unfold kP;rw[aB hin,aB how]) ⟨Vj,wol⟩ rfl)⟩⟩
 refine⟨_,Z,Z,_,Z,dF (λ_=>?_) (λ_=>?_)⟩
 .exact ⟨_,Z,xT.ix (i:=0) x0 ⟨(iN 2),λt ht=>ret t (.land p.nm) H2 g2 ht (keep _ (aB hin) Vj rfl)⟩⟩
 by_cases uy:way=10/\1<aS st
 .refine ⟨true,⟨_,Z,Z,_,Z,dF (λ_=>⟨_,Z,_,_,Z,Z,_,Z,bL uy.2,Z⟩) (λc=>absurd (bL (by rw[uy.1])) c)⟩,gb ?_⟩;obtain⟨m0,m1,m2⟩:=mn (aS st-1) (by omega);refine⟨_,Z,_,Z,_,Z,_,Z,_,_,Z,Z,_,_,Z,Z,P9,_,_,Z,cY Nh h63 hk0 (by decide) (by decide) m0 λd _ d0 d1=>⟨_,_,Z,Z,(iN 3),λt ht=>ret t (.award o (1+d)) H2 g2 ht (keep _ ?_ ⟨wol,by omega,by omega⟩ rfl)⟩⟩;show kg st o (1+d)=none;unfold kg;rw[aB how,aC (by omega),aC (by omega)]
 refine⟨false,⟨_,Z,Z,_,Z,dF (λc=>⟨_,Z,_,_,Z,Z,_,Z,c8 (λz=>uy ⟨V.int.inj (eE c),z⟩),Z⟩) (λc=>⟨Z,Z⟩)⟩,bw ?_⟩;have SD:((nms.map V.str).length:Int)=(nms.length:Int):=by rw[aF]
 have SE:((st.nms.map V.str).length:Int)=(st.nms.length:Int):=by rw[aF]
 by_cases h11:way=11/\1<p.wo/\st.nms.length<nms.length
 .refine ⟨true,⟨_,Z,Z,_,Z,dF (λ_=>⟨_,Z,xT.ix (i:=2) x2 ⟨_,_,Z,Z,_,Z,dF (λ_=>⟨_,Z,m,_,Z,vk▸dS.k (k:=Sum.inr "known") (g2 _ _ om),lk,_,Z,.inl (g2.seq ok),_,Z,ln,_,Z,.inl (g2.seq hN),_,_,Z,Z,_,Z,bL (by rw[SD,SE];omega),Z⟩) (λc=>absurd (bL h11.2.1) c)⟩⟩) (λc=>absurd (bL (by rw[h11.1])) c)⟩,gb ?_⟩;obtain⟨m0,m1,m2⟩:=mn (p.wo-1) (by omega);have ey:=bu h11.2.2;obtain⟨y1,y2,y3⟩:=nx.next ey;generalize nms[st.nms.length]=y at *;have eyv:pS (nms.map V.str) ((st.nms.length:Nat):Int)=some (.str y):=aN (by rw[cu,ey];rfl);refine⟨_,Z,_,Z,_,Z,xT.ix (i:=2) x2 ⟨_,_,Z,Z,_,_,Z,Z,P9,_,_,Z,cY Nh h63 hk0 (by decide) (by decide) m0 λd _ d0 d1=>⟨_,_,Z,Z,?_⟩⟩⟩;refine⟨_,Z,xT.ix (i:=0) x0 ⟨_,Z,_,Z,m,_,Z,vk▸dS.k (k:=Sum.inr "known") (g2 _ _ om),lk,_,Z,.inl (g2.seq ok),ln,_,_,_,Z,Z,g2.seq hN,by rw[aF];exact eyv,_,Z,_,Z,_,Z,_,Z,xT.ix (i:=3) x3 ⟨_,_,Z,Z,cY Nh h63 hk0 (by decide) (by decide) (by omega) λv _ v0 v1=>⟨(iN 5),λt ht=>ret t (.sever p.nm y (1+d) v) H2 g2 ht ⟨?_,⟨Vj,uQ y1,⟨by omega,by omega⟩,⟨by omega,?_⟩⟩,y3 _ rfl,by show(8:Nat)≠0;decide⟩⟩⟩⟩⟩
  .show iX st p.nm y (1+d) v=none;unfold iX;rw[aB hin,AM y1 y2,eg];show(if _ then _ else _)=none;rw[aC (by omega),aC (by omega)]
  .have:=g.we p gh;omega
 refine⟨false,⟨_,Z,Z,_,Z,dF (λc=>⟨_,Z,xT.ix (i:=2) x2 ⟨_,_,Z,Z,_,Z,dF (λc2=>⟨_,Z,m,_,Z,vk▸dS.k (k:=Sum.inr "known") (g2 _ _ om),lk,_,Z,.inl (g2.seq ok),_,Z,ln,_,Z,.inl (g2.seq hN),_,_,Z,Z,_,Z,c8 (λz=>h11 ⟨V.int.inj (eE c),eE c2,by rw[SD,SE]at z;omega⟩),Z⟩) (λc=>⟨Z,Z⟩)⟩⟩) (λc=>⟨Z,Z⟩)⟩,bw ?_⟩;refine⟨_,Z,Z,_,Z,dF (λ_=>?_) (λ_=>?_)⟩
 .obtain ⟨m0,m1,m2⟩:=mn p.wo (by omega);refine⟨_,Z,xT.ix (i:=0) x0 ⟨_,Z,_,Z,_,Z,xT.ix (i:=2) x2 ⟨_,_,Z,Z,P9,_,_,Z,cY Nh h63 hk0 (by decide) (by decide) m0 λd _ d0 d1=>⟨_,_,Z,Z,(iN 3),λt ht=>ret t (.mishap p.nm (1+d)) H2 g2 ht (keep _ ?_ ⟨Vj,by omega,by omega⟩ rfl)⟩⟩⟩⟩;show jF st (p.nm,1+d)=none;unfold jF;show(if p.nm∈eL st then(if 1+d<1 then _ else if(bP st p.nm).wo<1+d then _ else _) else _)=none;rw[aB hin,aC (by omega),eg,aC (by omega)]
 refine⟨_,Z,xT.ix (i:=0) x0 ⟨_,Z,_,Z,Le Nh h63 hk0 (by decide) (by decide) λw H3 w1 w2 g3=>⟨(iN 3),λt ht=>ret t (.rise p.nm w) H3 (g2.trans g3) ht (keep _ ?_ ⟨Vj,by omega,by omega⟩ rfl)⟩⟩⟩;show lU st p.nm w=none;unfold lU;rw[aB hin,aC (by omega)]
abbrev wu:Stmt:=top 35
abbrev sM:Da Str:=["_law_script","_law_k","_law_model","_law_names_here"]
abbrev OL:Da Str:=sM.append ["_law_way","_law_more","_law_owner","_law_worth"]
def mR:aM OL sM (aD wu):=dP
theorem Ni(F:At K mg "_law_deed" wu f fd)(aW:Dn P w K mg base 1 "_law_draw" iy (sR K))(lI:Dn P w K mg base 2 "_law_much" nO (D3 K))(oQ:Dn P w K mg base 3 "_law_part_deed" kT (Ew K))(cE:mg "len"=none):Dn P w K mg base 4 "_law_deed" sM (UL K):=by
 refine F.oA mR λ_ _ _ _ H _ Q E hr h=>?_;obtain⟨⟨a,m,ln,ns,k,nms,c,st,rfl,hS,h63,hk0,hk1,hq,hN,nx,hnl,wf,g,hc,q⟩⟩:=h;refine⟨_,(@cU.h _ _ _ (aj (aR (i:=4) mR.nd (br aW hr (af (qv 0) (af (qv 1) (af ak (af ak aq))))))
  (aj (aR (i:=5) mR.nd (F_ rR (bV (dU K) (by rfl) cE gr (af (di (c9 hr) (qv 2) bg) aq)) (bV (dU K) (by rfl) cE gr (af (qv 3) aq)) (a_ _)))
  (aj (cN (ki (bW.pt (qe (vD (qv 5)) (qU (ki (bW.pt (BS (aQ rR (qv 4) ak (a_ _)) (yk (aQ rR (bV (dU K) (by rfl) cE gr (af (di (c9 hr) (qv 2) bg) aq)) ak (a_ _)))))))))) (aj (aR (i:=6) mR.nd (aO (cZ K) (di (c9 hr) (qv 2) bg) (br aW hr (af (qv 0) (af (qv 1) (af ak (af (bV (dU K) (by rfl) cE gr (af (di (c9 hr) (qv 2) bg) aq)) aq)))))))
  (aj (aR (i:=7) mR.nd (br lI hr (af (qv 0) (af (qv 1) (af ak aq)))))
  (ay (bh (iY (af bg (af (aO (cZ K) (qv 3) (bV (dU K) (by rfl) cE gr (af (di (c9 hr) (qv 2) bg) aq))) (af (qv 6) (af (qv 7) (af (br aW hr (af (qv 0) (af (qv 1) (af ak (af ak aq))))) aq)))))))))) bJ)
  (aj (cN (aQ eF (bV (dU K) (by rfl) cE gr (af (di (c9 hr) (qv 2) bg) aq)) ak (a_ _)) (ay (bh (iY (af bg aq)))) bJ)
  (ay (bh (br oQ hr (af (qv 0) (af (qv 1) (af (qv 2) (af (qv 3) (af (qv 4) aq))))))))))))),?_⟩
 obtain⟨AT,lo,lp,lk,us,om,vo,vp,vk,oo,op,rw',ok⟩:=id hq;have ll:=rw'.len;have hpl:=g.pl;have gf:=wf.j9;have aji:=g.ol;have SD:((nms.map V.str).length:Int)=(nms.length:Int):=by rw[aF]
 have SE:((st.nms.map V.str).length:Int)=(st.nms.length:Int):=by rw[aF]
 refine⟨_,Z,_,Z,cY hS h63 hk0 (by decide) (by decide) (by decide) λway _ v0 v1=>?_⟩;refine⟨_,Z,m,_,Z,vk▸dS.k (k:=Sum.inr "known") om,lk,_,Z,.inl ok,_,Z,ln,_,Z,.inl hN,_,_,Z,Z,?_⟩;rw[SD,SE];have orR:∀b:Bool,b=decide (way<3\/st.ai.length<2)->(tOr (DM (Cd (Ce λi j=>V.bl (decide (i<j))) (CA 4) (tC (V.int 3)))) (DM (Cd (Ce λi j=>V.bl (decide (i<j))) (tCB (λxs H Q=>∃p ys,xs=[V.ref p]/\(aG K H p ys\/dm K H p ys)/\Q (V.int ↑ys.length) H) (BD (XX (CA 2) (tC (V.str "parts"))) tP)) (tC (V.int 2))))) [some (.ref a),some (.int k),some (.ref m),some (.ref ln),some (.int way),some (.bl (decide ((st.nms.length:Int)<(nms.length:Int)))),none,none] H (λb' H'=>b'=b/\H'=H):=λb eb=>by
  refine⟨_,Z,_,_,Z,Z,_,Z,dF (λc=>⟨?_,Z⟩) (λc=>⟨_,Z,m,_,Z,vp▸dS.k (k:=Sum.inr "parts") om,lp,_,Z,.inl op,_,_,Z,Z,_,Z,?_,Z⟩)⟩
  .rw [eb];exact(bL (.inl (eE c))).symm
  .have c':¬ way<3:=uY (mU.mpr c);rw[eb];by_cases h2:st.ai.length<2
   .rw [bL (.inr h2:way<3\/st.ai.length<2)];exact bL (by omega)
   .rw [c8 (λz=>z.elim c' h2:¬ (way<3\/st.ai.length<2))];exact c8 (by omega)
 by_cases hL:st.nms.length<nms.length/\(way<3\/st.ai.length<2)
 .refine ⟨true,⟨_,Z,_,Z,dF (λ_=>⟨true,orR true (bL hL.2).symm,Z,Z⟩) (λc=>absurd (bL (by omega)) c)⟩,gb ?_⟩;have ey:=bu hL.1;obtain⟨y1,y2,y3⟩:=nx.next ey;generalize nms[st.nms.length]=y at *;have eyv:pS (nms.map V.str) ((st.nms.length:Nat):Int)=some (.str y):=aN (by rw[cu,ey];rfl);refine⟨_,Z,m,_,Z,vo▸dS.k (k:=Sum.inr "owners") om,_,Z,_,Z,_,Z,m,_,Z,vo▸dS.k (k:=Sum.inr "owners") om,lo,_,Z,.inl oo,cY hS h63 hk0 (by decide) (by decide) (by rw[aF];omega) λwd _ w0 w1=>?_⟩;rw[aF]at w1;obtain⟨jo,o,ejo,eo,eat⟩:=LF (l:=st.own) (d:=wd) w0 w1;have how:=bQ eo;refine⟨lo,_,_,_,Z,Z,oo,eat,?_⟩;refine⟨_,Z,_,Z,Le hS h63 hk0 (by decide) (by decide) λw H1 w1 w2 g1=>?_⟩;refine⟨_,Z,_,Z,m,_,Z,vk▸dS.k (k:=Sum.inr "known") (g1 _ _ om),lk,_,Z,.inl (g1.seq ok),ln,_,_,_,Z,Z,g1.seq hN,by rw[aF];exact eyv,_,Z,_,Z,_,Z,_,Z,cY (g1.seq hS) h63 hk0 (by decide) (by decide) (by decide) λv _ v0 v1=>⟨(iN 5),λt ht=>q t (.load y o w v) _ (g1.trans (aE ht _)) ah ⟨Sd y1 y2 how w1 v0,⟨uQ y1,uQ (g.on o how),⟨by omega,by omega⟩,⟨by omega,by omega⟩⟩,y3 _ rfl,by show(1:Nat)≠0;decide⟩⟩⟩
 refine⟨false,⟨_,Z,_,Z,dF (λc=>⟨false,orR false (c8 (λz=>hL ⟨by have:=eE c;omega,z⟩)).symm,Z,Z⟩) (λc=>⟨Z,Z⟩)⟩,bw ?_⟩;refine⟨_,Z,m,_,Z,vp▸dS.k (k:=Sum.inr "parts") om,lp,_,Z,.inl op,Z,_,Z,dF (λc=>?_) (λcz=>?_)⟩
 .exact ⟨(iN 1),λt ht=>q t .still _ (aE ht _) ah ⟨Z,True.intro,nx,by show(9:Nat)≠0;decide⟩⟩
 have c':0<st.ai.length:=Nat.pos_of_ne_zero λz=>cz (bL (by rw[ll,z];rfl));exact⟨_,Z,_,Z,_,Z,_,Z,_,Z,⟨⟨a,m,ln,ns,k,way,nms,c,st,Z,hS,h63,hk0,hk1,hq,hN,nx,hnl,wf,g,hc,c',q⟩⟩⟩
abbrev zO:Stmt:=top 36
abbrev xy:Da Str:=["_law_parts","_law_name_here"]
abbrev Vk:Da Str:=xy.append ["_law_at_here"]
def ET:aM Vk xy (aD zO):=dP
theorem SG(F:At K mg "_law_at" zO f fd)(cE:mg "len"=none)(dj:mg "range"=none):Dn P w K mg base 1 "_law_at" xy (Yc K):=by
 refine F.oA ET λ_ _ _ _ H _ Q E hr h=>?_;obtain⟨⟨l,us,ws,j,r,rfl,hl,hW,nd,hle,ej,q⟩⟩:=h;refine⟨_,(@cU.h _ _ _ (aj (fh fX rfl (mF (by rfl) dj (af (bV (dU K) (by rfl) cE gr (af (qv 0) aq)) aq)) (aU (i:=2) ET.nd) (ay (cN (aQ eF (aO (iI K) (aO (cZ K) (qv 0) (qv 2)) ak) (qv 1) (a_ _)) (ay (bh (qv 2))) bJ)))
  (ay (bh (Ku DL ak))))),?_⟩
 have ll:=hW.len;have hj:j<ws.length:=(dX.mp ej).1;refine⟨_,Z,l,_,Z,.inl hl,_,Z,by omega,by omega,?_⟩;refine mq (lo:=0) (n:=((us.length:Nat):Int).toNat) (λi σ H'=>H'=H/\i<=j/\∃s2,σ=[some (.ref l),some (.str r.1),s2]) ⟨Z,fm _,_,Z⟩ ?_ ?_
 .rintro i σ H' hi ⟨rfl,hn,s2,rfl⟩;have e0:(0:Int)+(i:Int)=((i:Nat):Int):=by omega
  rw[e0];have hio:i<ws.length:=by omega
  have ei:=bu hio;obtain⟨a,xs,ea,Cr,x0,_⟩:=hW.at_ i _ ei;refine⟨_,Z,_,Z,l,_,_,_,Z,Z,hl,aN ea,Cr.ix (i:=0) x0 ?_⟩;refine⟨_,Z,Z,_,Z,dF (λc=>?_) (λc=>?_)⟩
  .have c':(ws[i]).1=r.1:=V.str.inj (eE c);have:i=j:=by
    have r1:(ws.map (λr:Row=>r.1))[i]?=some (ws[i]).1:=by rw[cu,ei];rfl
    have r2:(ws.map (λr:Row=>r.1))[j]?=some r.1:=by rw[cu,ej];rfl
    exact(RD (by rw[aF];exact hio) nd).mp (r1.trans (by rw[c'];exact r2.symm))
   subst this;exact⟨_,Z,q⟩
  .refine ⟨Z,?_,_,Z⟩;rcases Nat.lt_or_ge i j with z|z
   .exact z
   .have:i=j:=by omega
    subst this;rw[ei]at ej;cases ej;exact absurd (bL rfl) c
 rintro σ H' ⟨rfl,hn,s2,rfl⟩;omega
abbrev oR:Stmt:=top 37
abbrev lZ:Da Str:=["_law_model","_law_part","_law_deed_here"]
abbrev EU:Da Str:=lZ
def Di:aM EU lZ (aD oR):=dP
theorem Dj(F:At K mg "_law_lite_one" oR f fd):Dn P w K mg base 1 "_law_lite_one" lZ (ID K):=by
 refine F.oA Di λ_ _ _ _ H _ Q E hr h=>?_;obtain⟨⟨n,ρ,B,st,i,p,a,z,d,rfl,hz,G,hb,ep,ea,hd,hpl,hkl,q⟩⟩:=h;refine⟨_,(@cU.h _ _ _ (ay (cN (aQ eF (aO (aY K) (qv 2) ak) bg (a_ _)) (ay (nJ (aL mw (aO (cZ K) (qv 1) ak) (aO (aY K) (qv 2) ak)) (nK (qv 1) ak set_list))) (ay (cN (aQ eF (aO (aY K) (qv 2) ak) bg (a_ _)) (ay (nJ (aL cS (aO (cZ K) (qv 1) ak) (aO (aY K) (qv 2) ak)) (nK (qv 1) ak set_list))) (ay (cN (aQ eF (aO (aY K) (qv 2) ak) bg (a_ _)) (ay (nJ (aO (aY K) (qv 2) ak) (nK (qv 1) ak set_list))) (ay (cN (aQ eF (aO (aY K) (qv 2) ak) bg (a_ _)) (ay (nJ ak (nK (qv 1) ak set_list))) (ay (cN (aQ eF (aO (aY K) (qv 2) ak) bg (a_ _)) (aj (nJ (aL mw (aO (cZ K) (qv 1) ak) (aO (aY K) (qv 2) ak)) (nK (qv 1) ak set_list))
  (aj (nJ (aL mw (aO (cZ K) (qv 1) ak) (aO (aY K) (qv 2) ak)) (nK (qv 1) ak set_list))
  (aj (bO (kQ lJ nZ n5 ee (di (c9 hr) (qv 0) bg) (af (iE (af (aO (aY K) (qv 2) ak) (af (aO (cZ K) (qv 1) ak) (af (aO (aY K) (qv 2) ak) (af (aO (aY K) (qv 2) ak) aq))))) aq)))
  (ay (bO (kQ lJ nZ n5 ee (di (c9 hr) (qv 0) bg) (af (aO (aY K) (qv 2) ak) aq))))))) bJ))))))))))),?_⟩
 obtain⟨ha,ca⟩:=hb.pt i _ a (ym ep) ea;have ha:H a=some (.lst [.str p.nm,.str p.ow,.int p.wo,.int p.we]):=ha;have h_:dm K H z d.v:=dm.of hz;have za:z≠a:=λe=>by rw[e,ha]at hz;cases hz
 cases d with
 | mishap x m=>refine uz h_ rfl rfl (gb ?_);refine⟨_,Z,a,_,_,_,Z,Z,aG.of ha,aN (j:=2) rfl,_,Z,z,_,_,_,Z,Z,h_,aN (j:=2) rfl,_,_,Z,Z,_,Z,a,_,_,2,Z,Z,ha,Z,?_⟩;exact q _ _ _ (G.wr rfl) (hb.jq G (p.nm,p.ow,p.wo-m,p.we) ea) rfl (Fr.write ca)
 | rise x m=>refine dQ h_ rfl (by decide) rfl (bw ?_);refine uz h_ rfl rfl (gb ?_);refine⟨_,Z,a,_,_,_,Z,Z,aG.of ha,aN (j:=2) rfl,_,Z,z,_,_,_,Z,Z,h_,aN (j:=2) rfl,_,_,Z,Z,_,Z,a,_,_,2,Z,Z,ha,Z,?_⟩;exact q _ _ _ (G.wr rfl) (hb.jq G (p.nm,p.ow,p.wo+m,p.we) ea) rfl (Fr.write ca)
 | hand x o=>refine dQ h_ rfl (by decide) rfl (bw ?_);refine dQ h_ rfl (by decide) rfl (bw ?_);refine uz h_ rfl rfl (gb ?_);refine⟨_,Z,z,_,_,_,Z,Z,h_,aN (j:=2) rfl,_,Z,a,_,_,1,Z,Z,ha,Z,?_⟩;exact q _ _ _ (G.wr rfl) (hb.jq G (p.nm,o,p.wo,p.we) ea) rfl (Fr.write ca)
 | land x=>refine dQ h_ rfl (by decide) rfl (bw ?_);refine dQ h_ rfl (by decide) rfl (bw ?_);refine dQ h_ rfl (by decide) rfl (bw ?_);refine uz h_ rfl rfl (gb ?_);refine⟨_,Z,a,_,_,2,Z,Z,ha,Z,?_⟩;exact q _ _ _ (G.wr rfl) (hb.jq G (p.nm,p.ow,0,p.we) ea) rfl (Fr.write ca)
 | sever x y m we=>
  refine dQ h_ rfl (by decide) rfl (bw ?_);refine dQ h_ rfl (by decide) rfl (bw ?_);refine dQ h_ rfl (by decide) rfl (bw ?_);refine dQ h_ rfl (by decide) rfl (bw ?_);refine uz h_ rfl rfl (gb ?_);refine⟨_,Z,a,_,_,_,Z,Z,aG.of ha,aN (j:=2) rfl,_,Z,z,_,_,_,Z,Z,h_,aN (j:=3) rfl,_,_,Z,Z,_,Z,a,_,_,2,Z,Z,ha,Z,?_⟩;have h1:=hb.jq G (p.nm,p.ow,p.wo-m,p.we) ea;have G1:=G.wr (a:=a) (o:=.lst (ir (p.nm,p.ow,p.wo-m,p.we))) rfl;have F1:Fr n ρ H ρ (upd H a (.lst (ir (p.nm,p.ow,p.wo-m,p.we)))):=Fr.write ca;have z1:upd H a (.lst (ir (p.nm,p.ow,p.wo-m,p.we))) z=some (.tup (Dd.v (.sever x y m we))):=by rw[au za];exact hz
  have a1:upd H a (.lst (ir (p.nm,p.ow,p.wo-m,p.we))) a=some (.lst (ir (p.nm,p.ow,p.wo-m,p.we))):=ah;have n1:∀b,upd H a (.lst (ir (p.nm,p.ow,p.wo-m,p.we))) b=none->H b=none:=λb=>gR;show i9 _ _ _ _ (upd H a (.lst (ir (p.nm,p.ow,p.wo-m,p.we))));generalize upd H a (.lst (ir (p.nm,p.ow,p.wo-m,p.we)))=H1 at *;refine⟨_,Z,a,_,_,_,Z,Z,aG.of a1,aN (j:=3) rfl,_,Z,z,_,_,_,Z,Z,dm.of z1,aN (j:=4) rfl,_,_,Z,Z,_,Z,a,_,_,3,Z,Z,a1,Z,?_⟩;have h2:bH n ρ B (upd H1 a (.lst (ir (p.nm,p.ow,p.wo-m,p.we-we)))) { dD st with ai:=(bD st).set i (p.nm,p.ow,p.wo-m,p.we-we) }:=by have:=h1.jq G1 (p.nm,p.ow,p.wo-m,p.we-we) ea;have e:((bD st).set i (p.nm,p.ow,p.wo-m,p.we)).set i (p.nm,p.ow,p.wo-m,p.we-we)=(bD st).set i (p.nm,p.ow,p.wo-m,p.we-we):=wK ..;rw[<-e];exact this
  have G2:=G1.wr (a:=a) (o:=.lst (ir (p.nm,p.ow,p.wo-m,p.we-we))) rfl;have F2:=F1.trans (Fr.write (o:=.lst (ir (p.nm,p.ow,p.wo-m,p.we-we))) ca);have z2:upd H1 a (.lst (ir (p.nm,p.ow,p.wo-m,p.we-we))) z=some (.tup (Dd.v (.sever x y m we))):=by rw[au za];exact z1
  have a2:upd H1 a (.lst (ir (p.nm,p.ow,p.wo-m,p.we-we))) a=some (.lst (ir (p.nm,p.ow,p.wo-m,p.we-we))):=ah;have n2:∀b,upd H1 a (.lst (ir (p.nm,p.ow,p.wo-m,p.we-we))) b=none->H b=none:=λb h=>n1 b (gR h);show i9 _ _ _ _ (upd H1 a (.lst (ir (p.nm,p.ow,p.wo-m,p.we-we))));generalize upd H1 a (.lst (ir (p.nm,p.ow,p.wo-m,p.we-we)))=H2 at *;refine⟨_,Z,B.m,_,Z,dS.k (k:=Sum.inr "parts") h2.om,.inl ⟨Z,_,aG.of h2.op⟩,_,Z,z,_,_,_,Z,Z,dm.of z2,aN (j:=2) rfl,_,Z,a,_,_,_,Z,Z,aG.of a2,aN (j:=1) rfl,_,Z,z,_,_,_,Z,Z,dm.of z2,aN (j:=3) rfl,_,Z,z,_,_,_,Z,Z,dm.of z2,aN (j:=4) rfl,(iN 4),λt ht=>?_⟩;have g3:=aE ht (.lst (ir (y,p.ow,m,we)));have t3:upd H2 t (.lst (ir (y,p.ow,m,we))) t=some (.lst (ir (y,p.ow,m,we))):=ah;show tP _ (upd H2 t (.lst (ir (y,p.ow,m,we)))) _;generalize upd H2 t (.lst (ir (y,p.ow,m,we)))=H3 at *;have tn:H t=none:=n2 t ht;have ct:ρ t=none:=G2.none ht;have h3:=(h2.mono g3).col (t:=44) (x:=nx) ct;have G3:Gh (cy ρ t (n,44,nx)) H3:=(G2.same g3).color t3 rfl;have F3:Fr n ρ H (cy ρ t (n,44,nx)) H3:=(F2.trans (Fr.of_same (ρ:=ρ) g3)).oE tn;have tq:t∉B.qs:=λmem=>by
   obtain⟨j,hj,ej⟩:=uX mem;have hj2:j<((bD st).set i (p.nm,p.ow,p.wo-m,p.we-we)).length:=by rw[gq,<-show B.qs.length=(bD st).length from hb.ql];exact hj
   have:=(h2.pt j _ t (bu hj2) (by rw[bu hj,ej])).1;rw[ht]at this;cases this
  have ql:(bD st).length=st.ai.length:=by unfold bD;rw[aF]
  have lq:(B.qs.map V.ref).length<1000:=by rw[aF,hb.ql];show(bD st).length<1000;rw[ql];exact hpl
  refine⟨B.lp,_,_,Z,Z,h3.op,dw (by omega),?_⟩;rw[show B.qs.map V.ref++[V.ref t]=(B.qs++[t]).map V.ref from by rw[b8];rfl];have h4:=h3.UI G3 (q:=(y,p.ow,m,we)) t3 bN tq;have G4:=G3.wr (a:=B.lp) (o:=.lst ((B.qs++[t]).map V.ref)) rfl;have F4:=F3.trans (Fr.write (o:=.lst ((B.qs++[t]).map V.ref)) h3.cp);have nz:z≠B.lp:=λe=>by have:=h3.op;rw[<-e,g3 _ _ z2]at this;cases this
  have z4:upd H3 B.lp (.lst ((B.qs++[t]).map V.ref)) z=some (.tup (Dd.v (.sever x y m we))):=by rw[au nz];exact g3 _ _ z2
  generalize upd H3 B.lp (.lst ((B.qs++[t]).map V.ref))=H4 at *;refine⟨_,Z,B.m,_,Z,dS.k (k:=Sum.inr "known") h4.om,.inl ⟨Z,_,aG.of h4.ok⟩,_,Z,z,_,_,_,Z,Z,dm.of z4,aN (j:=2) rfl,B.lk,_,_,Z,Z,h4.ok,by rw[aF];exact dw (by show st.nms.length<=1000;omega),?_⟩;rw[show List.map V.str (dD st).vG++[V.str y]=(st.nms++[y]).map V.str from by rw[b8];rfl];exact q _ _ _ (G4.wr rfl) (h4.QB G4 (st.nms++[y])) rfl (F4.trans (Fr.write h4.ck))
 | _=>exact absurd hd (by simp[Dd.part])
abbrev qA:Stmt:=top 38
abbrev mZ:Da Str:=["_law_model","_law_deed_here"]
abbrev GO:Da Str:=mZ.append ["_law_parts","_law_k","_law_part"]
def l7:aM GO mZ (aD qA):=dP
theorem EV(F:At K mg "_law_lite_do" qA f fd)(xA:Dn P w K mg base 1 "_law_at" xy (Yc K))(qB:Dn P w K mg base 1 "_law_lite_one" lZ (ID K))(cE:mg "len"=none)(dj:mg "range"=none):Dn P w K mg base 2 "_law_lite_do" mZ (Mi K):=by
 refine F.oA l7 λ_ _ _ _ H _ Q E hr h=>?_;obtain⟨⟨n,c,ρ,B,st,z,d,rfl,hz,G,hb,wf,g,hc,hr0,hk,q⟩⟩:=h;refine⟨_,(@cU.h _ _ _ (aj (aR (i:=2) l7.nd (di (c9 hr) (qv 0) bg))
  (aj (kj (aQ eF (aO (aY K) (qv 1) ak) bg (a_ _)) (aj (bO (kQ lJ nZ n5 ee (qv 2) (af (iE (af (aO (aY K) (qv 1) ak) (af (aO (aY K) (qv 1) ak) (af (aO (aY K) (qv 1) ak) (af (aO (aY K) (qv 1) ak) aq))))) aq)))
  (ay (bO (kQ lJ nZ n5 ee (di (c9 hr) (qv 0) bg) (af (aO (aY K) (qv 1) ak) aq))))) (ay (cN (aQ eF (aO (aY K) (qv 1) ak) bg (a_ _)) (ay (fh fX rfl (Ip (by rfl) dj (af ak (af (bV (dU K) (by rfl) cE gr (af (qv 1) aq)) (af ak aq)))) (aU (i:=3) l7.nd) (aj (aR (i:=4) l7.nd (aO (cZ K) (qv 2) (br xA hr (af (qv 2) (af (aO (aY K) (qv 1) (qv 3)) aq)))))
  (ay (nJ (aL mw (aO (cZ K) (qv 4) ak) (aO (aY K) (qv 1) (aL cS (qv 3) ak))) (nK (qv 4) ak set_list)))))) (ay (cN (aQ Al (aO (aY K) (qv 1) ak) (iY (af bg (af bg aq))) (by with_unfolding_all rfl)) (ay (bO (br qB hr (af (qv 0) (af (aO (cZ K) (qv 2) (br xA hr (af (qv 2) (af (aO (aY K) (qv 1) ak) aq)))) (af (qv 1) aq)))))) bJ)))))
  (ay (uR (c9 hr) (qv 0) bg (LV ["_law_part"] [none] rfl (dZ K (di (c9 hr) (qv 0) bg)) (λ_ _ _ _=>(aU (i:=0) (show List.Nodup (["_law_part"] :Da Str)from by decide +kernel))) (λ_ _ _ _=>(qv 0)) (λ_ _ _ _=>(aQ kK (aO (cZ K) (qv 0) ak) ak (a_ _))) rfl (by rfl)) rfl))))),?_⟩
 have h_:dm K H z d.v:=dm.of hz;have hpl:=g.pl;have hkl:=g.kl;refine⟨_,Z,B.m,_,Z,dS.k (k:=Sum.inr "parts") hb.om,?_⟩;refine⟨λσ' H'=>∃ρ5 B5 l5 s2 s3 s4,σ'=[some (.ref B.m),some (.ref z),s2,s3,s4]/\Gh ρ5 H'/\bH n ρ5 B5 H' l5/\l5.ai.length<=1000/\Sk l5=dD (iK st d)/\B5.m=B.m/\Fr n ρ H ρ5 H',?_,?_⟩
 .have ql:(bD st).length=st.ai.length:=by unfold bD;rw[aF]
  have bql:B.qs.length=st.ai.length:=by rw[<-ql];exact hb.ql
  have ndQ:((bD st).map λq:Q4=>q.1).Nodup:=by rw[Sm];exact wf.dN
  have lq:(B.qs.map V.ref).length<1000:=by rw[aF];omega
  by_cases hp:d.part=none;rotate_left
  ·
   obtain⟨x,hx⟩:=Option.ne_none_iff_exists'.mp hp
   obtain⟨e1,k1,k2,k3,k9⟩:=Dd.ach hx
   obtain⟨j,p,ep,en⟩:=j0 (Z8 hx hr0)
   subst en
   refine⟨_,Z,z,_,_,_,Z,Z,h_,aN d.v0,Z,_,Z,dF (λc=>absurd (V.str.inj (eE c)) (d.Sf k1 (by decide))) (λ_=>?_)⟩
   refine⟨_,Z,z,_,_,_,Z,Z,h_,aN d.v0,Z,_,Z,dF (λc=>absurd (V.str.inj (eE c)) (d.Sf k2 (by decide))) (λ_=>?_)⟩
   have hin:(!DP (.str d.w) ((["award","still"] :Da Str).map V.str))=true:=by rw[LC,c8 (λm=>by rcases b_.mp m with w|w;exact d.Sf k3 (by decide) w;exact d.Sf k9 (by decide) (eO.mp w))];rfl
   refine⟨_,Z,z,_,_,_,Z,Z,h_,aN d.v0,(iN 2),λt ht=>⟨t,_,Z,.inr (dm.of ah),Z,w6 ["award","still"],_,Z,dF (λ_=>?_) (λc=>absurd hin c)⟩⟩
   have g1:=aE ht (.tup [.str "award",.str "still"])
   have G1:=G.same g1
   have h1:=hb.mono g1
   have z1:=g1 _ _ hz
   generalize upd H t (.tup [.str "award",.str "still"])=H1 at *
   have jB:j<B.qs.length:=by rw[bql];exact(dX.mp ep).1
   have ea:=bu jB
   generalize B.qs[j]=a at *
   refine⟨_,Z,_,Z,_,Z,_,Z,z,_,_,_,Z,Z,dm.of z1,aN e1,⟨⟨B.lp,_,AY (bD st),j,(p.nm,p.wo),Z,aG.of h1.op,h1.nw,by rw[IE];exact ndQ,by unfold AY;rw[aF];omega,by unfold AY;rw[cu,ym ep];rfl,?_⟩⟩⟩
   refine⟨B.lp,_,_,_,Z,Z,aG.of h1.op,aN (by rw[cu,ea];rfl),_,Z,⟨⟨n,ρ,B,st,j,p,a,z,d,Z,z1,G1,h1,ep,ea,hx,by omega,by omega,λρ' B' H' G' h' em F'=>?_⟩⟩⟩
   exact⟨ρ',B',_,_,_,_,Z,G',h',gD (W6 _ _ _ _) (by show(bD st).length+1<=1000;omega),W2 wf hr0 ep hx,em,(Fr.of_same g1).trans F'⟩
  cases d with
  | load x o wo we=>
   refine uz h_ rfl rfl (gb ?_);refine⟨_,Z,.inl ⟨Z,_,aG.of hb.op⟩,_,Z,z,_,_,_,Z,Z,h_,aN (j:=1) rfl,_,Z,z,_,_,_,Z,Z,h_,aN (j:=2) rfl,_,Z,z,_,_,_,Z,Z,h_,aN (j:=3) rfl,_,Z,z,_,_,_,Z,Z,h_,aN (j:=4) rfl,(iN 4),λt ht=>?_⟩;have g3:=aE ht (.lst (ir (x,o,wo,we)));have t3:upd H t (.lst (ir (x,o,wo,we))) t=some (.lst (ir (x,o,wo,we))):=ah;show tP _ (upd H t (.lst (ir (x,o,wo,we)))) _;generalize upd H t (.lst (ir (x,o,wo,we)))=H3 at *;have ct:ρ t=none:=G.none ht;have h3:=(hb.mono g3).col (t:=44) (x:=nx) ct;have G3:Gh (cy ρ t (n,44,nx)) H3:=(G.same g3).color t3 rfl;have F3:Fr n ρ H (cy ρ t (n,44,nx)) H3:=(Fr.of_same (ρ:=ρ) g3).oE ht;have tq:t∉B.qs:=λmem=>by
    obtain⟨j,hj,ej⟩:=uX mem;have hj2:j<(bD st).length:=by omega
    have:=(hb.pt j _ t (bu hj2) (by rw[bu hj,ej])).1;rw[ht]at this;cases this
   refine⟨B.lp,_,_,Z,Z,h3.op,dw (by omega),?_⟩;rw[show B.qs.map V.ref++[V.ref t]=(B.qs++[t]).map V.ref from by rw[b8];rfl];have h4:=h3.UI G3 (q:=(x,o,wo,we)) t3 bN tq;have G4:=G3.wr (a:=B.lp) (o:=.lst ((B.qs++[t]).map V.ref)) rfl;have F4:=F3.trans (Fr.write (o:=.lst ((B.qs++[t]).map V.ref)) h3.cp);have nz:z≠B.lp:=λe=>by have:=h3.op;rw[<-e,g3 _ _ hz]at this;cases this
   have z4:upd H3 B.lp (.lst ((B.qs++[t]).map V.ref)) z=some (.tup (Dd.v (.load x o wo we))):=by rw[au nz];exact g3 _ _ hz
   generalize upd H3 B.lp (.lst ((B.qs++[t]).map V.ref))=H4 at *;refine⟨_,Z,B.m,_,Z,dS.k (k:=Sum.inr "known") h4.om,.inl ⟨Z,_,aG.of h4.ok⟩,_,Z,z,_,_,_,Z,Z,dm.of z4,aN (j:=1) rfl,B.lk,_,_,Z,Z,h4.ok,by rw[aF];exact dw (by show st.nms.length<=1000;omega),?_⟩;rw[show List.map V.str (dD st).vG++[V.str x]=(st.nms++[x]).map V.str from by rw[b8];rfl];exact⟨_,_,_,_,_,_,Z,G4.wr rfl,h4.QB G4 (st.nms++[x]),by show(bD st++[_]).length<=1000;rw[cX];show(bD st).length+1<=1000;omega,zC (d:=.load x o wo we) wf hr0 rfl hk,Z,F4.trans (Fr.write h4.ck)⟩
  | cast rs=>
   refine dQ h_ rfl (by decide) rfl (bw ?_);refine uz h_ rfl rfl (gb ?_);obtain⟨_,Yv,qX,_⟩:=tE hr0;have hrl:rs.length<=st.ai.length:=by
    have:=vd (l:=rs.map λr:Row=>r.1) (m:=eL st) Yv (λx hx=>by obtain⟨r,hr,rfl⟩:=b7.mp hx;exact(ju (qX r hr)).1)
    rwa [aF,show(eL st).length=st.ai.length by unfold eL;rw[aF]]at this
   refine⟨_,Z,z,_,Z,.inr h_,_,_,_,Z,⟨by decide,by decide,by omega,by rw[zH];omega,by decide,by decide⟩,?_⟩;rw[zH,UO];refine RW (lo:=1) (st:=2) (n:=rs.length) (λi σ H'=>∃s3 s4,σ=[some (.ref B.m),some (.ref z),some (.ref B.lp),s3,s4]/\Gh ρ H'/\bH n ρ B H' { dD st with ai:=mH (rs.take i) (bD st) }/\Fr n ρ H ρ H'/\H' z=some (.tup (Dd.v (.cast rs)))) ⟨_,_,Z,G,by rw[List.take_zero,W5];exact hb,Fr.refl,hz⟩ ?_ ?_
   .rintro i σ H' hi ⟨s3,s4,rfl,G',h',F',z'⟩;have ei:=bu hi;generalize rs[i]=r at *;obtain⟨c1,c2⟩:=QD ei;obtain⟨j,p,ep,en⟩:=j0 (ju (qX r (bQ ei))).1;have jB:j<B.qs.length:=by rw[bql];exact(dX.mp ep).1
    have ea:=bu jB;generalize B.qs[j]=a at *;have hn:r.1∉(rs.take i).map (λr:Row=>r.1):=by rw[List.map_take];exact qQ Yv (by rw[cu,ei];rfl)
    obtain⟨m1,m2⟩:=UP (rs:=rs.take i) (r:=r) ndQ (ym ep) en hn;obtain⟨ha,ca⟩:=h'.pt j _ a m2 ea;have ha:H' a=some (.lst [.str p.nm,.str p.ow,.int p.wo,.int p.we]):=ha;have e1:(1:Int)+(i:Int)*2=((1+2*i:Nat):Int):=by omega
    have e2:((1+2*i:Nat):Int)+1=((2+2*i:Nat):Int):=by omega
    rw[e1];refine⟨_,Z,_,Z,_,Z,_,Z,z,_,_,_,Z,Z,dm.of z',aN c1,⟨⟨B.lp,_,AY (mH (rs.take i) (bD st)),j,(r.1,p.wo),Z,aG.of h'.op,h'.nw,by rw[IE,Sl];exact ndQ,by unfold AY;rw[aF,Mj];omega,by unfold AY;rw[cu,m2,<-en];rfl,?_⟩⟩⟩;refine⟨B.lp,_,_,_,Z,Z,aG.of h'.op,aN (by rw[cu,ea];rfl),?_⟩;refine⟨_,Z,a,_,_,_,Z,Z,aG.of ha,aN (j:=2) rfl,_,Z,_,Z,_,_,Z,Z,z,_,_,_,Z,Z,dm.of z',by rw[e2];exact aN c2,_,_,Z,Z,_,Z,a,_,_,2,Z,Z,ha,Z,?_⟩;have za:z≠a:=λe=>by rw[e,ha]at z';cases z'
    refine⟨_,_,Z,G'.wr rfl,?_,F'.trans (Fr.write ca),by rw[au za];exact z'⟩;rw[take_snoc ei,m1];exact h'.jq G' (p.nm,p.ow,p.wo-r.2,p.we) ea
   rintro σ H' ⟨s3,s4,rfl,G',h',F',z'⟩;rw[c7]at h';exact⟨ρ,B,_,_,_,_,Z,G',h',by show(mH rs (bD st)).length<=1000;rw[Mj];omega,zC (d:=.cast rs) wf hr0 rfl hk,Z,F'⟩
  | award o a=>refine dQ h_ rfl (by decide) rfl (bw ?_);refine dQ h_ rfl (by decide) rfl (bw ?_);exact⟨_,Z,z,_,_,_,Z,Z,h_,aN (j:=0) rfl,(iN 2),λt ht=>⟨t,_,Z,.inr (dm.of ah),Z,w6 ["award","still"],_,Z,dF (λc=>absurd c (by decide +kernel)) (λ_=>⟨ρ,B,dD st,_,_,_,Z,G.same (aE ht _),hb.mono (aE ht _),by show(bD st).length<=1000;omega,zC (d:=.award o a) wf hr0 rfl hk,Z,Fr.of_same (aE ht _)⟩)⟩⟩
  | still=>refine dQ h_ rfl (by decide) rfl (bw ?_);refine dQ h_ rfl (by decide) rfl (bw ?_);exact⟨_,Z,z,_,_,_,Z,Z,h_,aN (j:=0) rfl,(iN 2),λt ht=>⟨t,_,Z,.inr (dm.of ah),Z,w6 ["award","still"],_,Z,dF (λc=>absurd c (by decide +kernel)) (λ_=>⟨ρ,B,dD st,_,_,_,Z,G.same (aE ht _),hb.mono (aE ht _),by show(bD st).length<=1000;omega,zC (d:=.still) wf hr0 rfl hk,Z,Fr.of_same (aE ht _)⟩)⟩⟩
  | sign o=>exact absurd rfl hk
  | _=>exact absurd hp (by simp[Dd.part])
 rintro σ H5 ⟨ρ5,B5,l5,s2,s3,s4,rfl,G5,h5,pl5,el5,em5,F5⟩;have YH:=h5.ql;have qml:(B5.qs.map V.ref).length=l5.ai.length:=by rw[aF];exact YH
 have Vl:H5 B.m=some (.dK (fQ B5)):=by rw[<-em5];exact h5.om
 refine⟨_,Z,B.m,_,Z,dS.k (k:=Sum.inr "parts") Vl,B5.lp,Z,⟨_,aG.of h5.op⟩,λlp wc=>?_⟩;refine ZE (J:=zS K B5.lp) (n:=l5.ai.length) 0 (λi o H'=>aJ H5 H'/\o=(ko (l5.ai.take i) (B5.qs.take i)).map V.ref) (by omega) ⟨aE wc _,Z⟩ (λi o H' hi _ hp=>⟨_,_,aG.of (hp.1 _ _ h5.op),bu (by rw[qml];exact hi)⟩) (λo H' _ hp=>⟨_,aG.of (hp.1 _ _ h5.op),by rw[qml];exact aK _⟩) ?_ ?_
 .rintro i y o H7 H8 hi gf ha ⟨g,e⟩ ⟨rfl,hy⟩;have ei:=bu hi;obtain⟨qq,eq,k1,_⟩:=h5.find ei;have ey:=hy _ (aG.of (g _ _ h5.op));rw[cu,eq]at ey;cases ey;have es:=Ol ei eq;refine⟨_,Z,qq,_,_,_,Z,Z,aG.of (g _ _ k1),aN (j:=2) rfl,_,_,Z,Z,_,Z,dF (λc=>?_) (λc=>?_)⟩
  .rw [aB (eE c)]at es;refine⟨_,Z,ha,g.cW wc _,?_⟩;rw[es,e,b8];rfl
  .rw [aC (uY (mU.mpr c))]at es;exact⟨ha,g,by rw[es,e,Bs]⟩
 rintro o H7 _ ha ⟨g7,e⟩;rw[c7,<-YH,c7]at e;subst e;have h7:=h5.mono g7;have G7:=G5.same g7;have clp:ρ5 lp=none:=G5.none wc;have h8:=h7.col (t:=42) (x:=nx) clp;have G8:Gh (cy ρ5 lp (n,42,nx)) H7:=G7.color ha rfl;have F8:Fr n ρ H (cy ρ5 lp (n,42,nx)) H7:=F5.trans (Fr.color wc g7);have h9:bH n (cy ρ5 lp (n,42,nx)) { { B5 with lp:=lp }with qs:=ko l5.ai B5.qs } (upd H7 B5.m (.dK (fQ { B5 with lp:=lp }))) (Sk l5):=h8.acf G8 (lp:=lp) (qs:=ko l5.ai B5.qs) (ps:=l5.ai.filter λp=>decide (0<p.2.2.1)) ha bN (h5.nd.sublist zz) (Ex YH) (λi x y ex ey=>by obtain⟨j,a1,a2⟩:=AX YH ex ey;exact h8.pt j x y a1 a2)
 have cm8:=h8.cm;rw[em5]at h9 cm8;refine⟨_,Z,B.m,_,Z,xF.k (k:=Sum.inr "parts") (by rw[<-em5];exact h7.om) (by show 3<sizeLine;decide),?_⟩;rw[W4];rw[el5]at h9;exact q _ _ _ (G8.wr rfl) h9 rfl (F8.trans (Fr.write cm8))
abbrev ur:Stmt:=top 39
abbrev qC:Da Str:=["_law_script","_law_k","_law_model","_law_names_here","_law_many"]
abbrev Nj:Da Str:=qC.append ["_law_deeds_here","_law_at_here","_law_deed_here"]
def nX:aM Nj qC (aD ur):=dP
theorem JF(F:At K mg "_law_deeds" ur f fd)(xU:Dn P w K mg base 4 "_law_deed" sM (UL K))(rH:Dn P w K mg base 2 "_law_lite_do" mZ (Mi K))(dj:mg "range"=none):Dn P w K mg base 5 "_law_deeds" qC (QE K):=by
 refine F.oA nX λ_ _ _ _ H _ Q E hr h=>?_;obtain⟨⟨n,c,m,ρ,B,st,a,ln,ns,k,nms,BM,rfl,G,hb,gw,hc,hm,ho,fS,h63,hk0,hk1,fN,nx,hnl,q⟩⟩:=h;refine⟨_,(@cU.h _ _ _ (aj (aR (i:=5) nX.nd (iE aq))
  (aj (fh fX rfl (mF (by rfl) dj (af (qv 4) aq)) (aU (i:=6) nX.nd) (aj (aR (i:=7) nX.nd (br xU hr (af (qv 0) (af (aL cS (qv 1) (qv 6)) (af (qv 2) (af (qv 3) aq))))))
  (aj (bO (br rH hr (af (qv 2) (af (qv 7) aq))))
  (ay (bO (kQ lJ nZ n5 ee (qv 5) (af (qv 7) aq)))))))
  (ay (bh (qv 5)))))),?_⟩
 refine⟨(iN 0),λl hl=>?_⟩;have g0:=aE hl (.lst []);have tH:upd H l (.lst []) l=some (.lst []):=ah;show i9 _ _ _ _ (upd H l (.lst []));have F0:Fr n ρ H ρ (upd H l (.lst [])):=Fr.of_same g0;have cl0:ρ l=none:=G.none hl;have G0:=G.same g0;have hb0:=hb.mono g0;generalize upd H l (.lst [])=H0 at *;refine⟨_,Z,_,Z,by omega,by omega,?_⟩;refine mq (lo:=0) (n:=((BM:Nat):Int).toNat) (λi σ H'=>∃ρ' B' zs ds s6 s7,σ=[some (.ref a),some (.int k),some (.ref B.m),some (.ref ln),some (.int (BM:Int)),some (.ref l),s6,s7]/\Gh ρ' H'/\bH n ρ' B' H' (dD (bz st ds))/\B'.m=B.m/\Fr n ρ H ρ' H'/\H' l=some (.lst zs)/\ρ' l=none/\iF H' zs ds/\z8 st ds/\ds.length=i/\Nx nms (bz st ds))
  ⟨ρ,B,[],[],_,_,Z,G0,hb0,Z,F0,tH,cl0,.nil,z8.nil st,Z,nx⟩ ?_ ?_
 .rintro i σ H1 hi ⟨ρ1,B1,zs,ds,s6,s7,rfl,G1,h1,em,F1,hl1,YI,hD,hC,hdl,EW⟩;have hi:i<BM:=by omega
  have e0:(0:Int)+(i:Int)=((i:Nat):Int):=by omega
  rw[e0];obtain⟨Vm,eo⟩:=hC.go gw (by omega) (by omega) ho ds.length (aK _);rw[c7]at Vm eo;have o1:=F1.out;have YJ:=fS _ _ o1;have hN1:=fN _ _ o1;refine⟨_,Z,_,Z,_,Z,_,_,Z,Z,_,Z,_,Z,⟨⟨a,B.m,ln,ns,k+i,nms,c+ds.length,bz st ds,Z,YJ,h63,by omega,by omega,by rw[<-em];exact h1.q,hN1,EW,hnl,Vm.wf,Vm.g,by omega,λz d H2 g2 hz hd=>?_⟩⟩⟩;obtain⟨d1,d2,d3,d4⟩:=hd;have G2:=G1.same g2;refine⟨_,Z,_,Z,⟨⟨n,c+ds.length,ρ1,B1,bz st ds,z,d,by rw[em];rfl,hz,G2,h1.mono g2,Vm.wf,Vm.g,by omega,d1,d4,λρ3 B3 H3 G3 h3 YK F3=>?_⟩⟩⟩;obtain⟨hl3,cl3⟩:=F3 l _ (g2 _ _ hl1) (λt x e=>by rw[YI]at e;cases e);have tu:∀b xs,H2 b=some (.tup xs)->H3 b=some (.tup xs):=λb xs e=>(F3 b _ e (λt x z=>by rw[G2.tup e]at z;cases z)).1;have zl:=hD.length;refine⟨_,Z,.inl ⟨Z,_,aG.of hl3⟩,_,Z,l,_,_,Z,Z,hl3,dw (by omega),?_⟩;have F13:=(F1.trans (Fr.of_same (ρ:=ρ1) g2)).trans F3;have tl:∀b xs,H3 b=some (.tup xs)->upd H3 l (.lst (zs++[.ref z])) b=some (.tup xs):=jf (.inr ⟨_,hl3,Z⟩);have adt:ρ3 l=none:=cl3.trans YI;refine⟨ρ3,B3,zs++[.ref z],ds++[d],_,_,Z,G3.wr rfl,?_,YK.trans em,F13.new hl,ah,adt,((((hD.mono g2.tups).mono tu).snoc (tu _ _ hz)).mono tl),hC.snoc d1 d2 d4,by rw[cX];show ds.length+1=i+1;omega,by rw[jR];exact d3⟩;rw[jR];exact h3.same (vq adt hl3 rfl)
 rintro σ H1 ⟨ρ1,B1,zs,ds,s6,s7,rfl,G1,h1,em,F1,hl1,YI,hD,hC,hdl,EW⟩;exact⟨_,Z,q l zs ds ρ1 B1 H1 G1 h1 em F1 hl1 YI hD hC (by omega) EW⟩
abbrev qD:Stmt:=top 40
abbrev kD:Da Str:=["_law_hold","_law_deed_here"]
abbrev GP:Da Str:=kD
def EX:aM GP kD (aD qD):=dP
theorem EY{T:TC}{e:Ec}(F:At K mg "_law_hold_do" qD f fd)(iz:Mn P w K mg base 3 T.hold "sign" lF (BP T))(xV:Mn P w K mg base 4 T.hold "load" nN (Uo T))(xW:Mn P w K mg base 4 T.hold "cast" r_ (Uu T K))(Nk:Mn P w K mg base 4 T.hold "award" qu (sN (LZ T e)))(JG:Mn P w K mg base 3 T.hold "mishap" nW (sN (Iq T e)))(OM:Mn P w K mg base 2 T.hold "rise" sf (sN (Qq T e)))(ON:Mn P w K mg base 2 T.hold "hand" sj (sN (Qs T e)))(OO:Mn P w K mg base 5 T.hold "land" sr (sN (Qw T e)))(Nl:Mn P w K mg base 4 T.hold "sever" qw (sN (L1 T e)))(cE:mg "len"=none)(dj:mg "range"=none):Dn P w K mg base 6 "_law_hold_do" kD (CV T K):=by
 refine F.oA EX λ_ _ _ _ H _ Q E hr h=>?_;obtain⟨⟨n,c,ρ,A,st,z,d,rfl,hz,hh,gg,hc,hk,ho,hr0,q⟩⟩:=h;refine⟨_,(@cU.h _ _ _ (aj (cN (aQ eF (aO (aY K) (qv 1) ak) bg (a_ _)) (ay (bh (bZ iz hr (qv 0) (af (aO (aY K) (qv 1) ak) aq)))) (ay (cN (aQ eF (aO (aY K) (qv 1) ak) bg (a_ _)) (ay (bh (bZ xV hr (qv 0) (af (aO (aY K) (qv 1) ak) (af (aO (aY K) (qv 1) ak) (af (aO (aY K) (qv 1) ak) (af (aO (aY K) (qv 1) ak) aq))))))) (ay (cN (aQ eF (aO (aY K) (qv 1) ak) bg (a_ _)) (ay (bh (bZ xW hr (qv 0) (af (kh ["_law_k","_law_deed_here"] [none,some 1] rfl (Ip (by rfl) dj (af ak (af (bV (dU K) (by rfl) cE gr (af (qv 1) aq)) (af ak aq)))) (λ_ _ _ _=>(aU (i:=0) (show List.Nodup (["_law_k","_law_deed_here"] :Da Str)from by decide +kernel))) (λ_ _ _ _=>(iY (af (aO (aY K) (qv 1) (qv 0)) (af (aO (aY K) (qv 1) (aL cS (qv 0) ak)) aq)))) rfl (by rfl)) aq)))) (ay (cN (aQ eF (aO (aY K) (qv 1) ak) bg (a_ _)) (ay (bh (bZ Nk hr (qv 0) (af (aO (aY K) (qv 1) ak) (af (aO (aY K) (qv 1) ak) aq))))) (ay (cN (aQ eF (aO (aY K) (qv 1) ak) bg (a_ _)) (ay (bh (bZ JG hr (qv 0) (af (aO (aY K) (qv 1) ak) (af (aO (aY K) (qv 1) ak) aq))))) (ay (cN (aQ eF (aO (aY K) (qv 1) ak) bg (a_ _)) (ay (bh (bZ OM hr (qv 0) (af (aO (aY K) (qv 1) ak) (af (aO (aY K) (qv 1) ak) aq))))) (ay (cN (aQ eF (aO (aY K) (qv 1) ak) bg (a_ _)) (ay (bh (bZ ON hr (qv 0) (af (aO (aY K) (qv 1) ak) (af (aO (aY K) (qv 1) ak) aq))))) (ay (cN (aQ eF (aO (aY K) (qv 1) ak) bg (a_ _)) (ay (bh (bZ OO hr (qv 0) (af (aO (aY K) (qv 1) ak) aq)))) (ay (cN (aQ eF (aO (aY K) (qv 1) ak) bg (a_ _)) (ay (bh (bZ Nl hr (qv 0) (af (aO (aY K) (qv 1) ak) (af (aO (aY K) (qv 1) ak) (af (aO (aY K) (qv 1) ak) (af (aO (aY K) (qv 1) ak) aq))))))) bJ)))))))))))))))))
  (ay (bh ab3)))),?_⟩
 have wf:=hh.wf;have hpl:=gg.pl;have hkl:=gg.kl;cases d with
 | sign o=>obtain⟨s1,s2⟩:=UR hr0;refine uz hz rfl rfl (gb ?_);refine⟨_,Z,A.a,A.dx,_,Z,hh.h.oa,Z,_,Z,z,_,_,_,Z,Z,hz,aN (j:=1) rfl,⟨⟨n,ρ,A,st,o,Z,hh,s1,s2,ho,q⟩⟩⟩
 | load x o wo we=>obtain⟨l1,l2,l3,l4,l5⟩:=pe hr0;refine dQ hz rfl (by decide) rfl (bw ?_);refine uz hz rfl rfl (gb ?_);refine⟨_,Z,A.a,A.dx,_,Z,hh.h.oa,Z,_,Z,z,_,_,_,Z,Z,hz,aN (j:=1) rfl,_,Z,z,_,_,_,Z,Z,hz,aN (j:=2) rfl,_,Z,z,_,_,_,Z,Z,hz,aN (j:=3) rfl,_,Z,z,_,_,_,Z,Z,hz,aN (j:=4) rfl,⟨⟨n,ρ,A,st,x,o,wo,we,Z,hh,l1,l2,l3,l4,l5,by omega,by omega,q⟩⟩⟩
 | cast rs=>
  refine dQ hz rfl (by decide) rfl (bw ?_);refine dQ hz rfl (by decide) rfl (bw ?_);refine uz hz rfl rfl (gb ?_);have ok:=gg.Mf wf (by omega) hr0;have hrl:rs.length<=1000:=ok.len;refine⟨_,Z,A.a,A.dx,_,Z,hh.h.oa,Z,_,Z,z,_,Z,.inr hz,_,_,_,Z,⟨by decide,by decide,by omega,by rw[zH];omega,by decide,by decide⟩,?_⟩;rw[zH,UO];intro Ap Bi;refine k7 (J:=RV 1 2 rs.length) (n:=rs.length) 0 (λi out H1=>aJ H H1/\gP H1 out (rs.take i)) (by omega) ⟨aE Bi _,.nil⟩ (λi o H' hi _ _=>hi) (λo H' _ _=>aK _) ?_ ?_
  .rintro i x out H1 H2 hi gf ha ⟨g,R⟩ ⟨rfl,rfl⟩;have ei:=bu hi;generalize rs[i]=r at *;obtain⟨c1,c2⟩:=QD ei;have e1:(1:Int)+(i:Int)*2=((1+2*i:Nat):Int):=by omega
   have e2:((1+2*i:Nat):Int)+1=((2+2*i:Nat):Int):=by omega
   rw[e1];refine⟨_,Z,_,Z,z,_,_,_,Z,Z,g.tup hz,aN c1,_,Z,_,Z,_,_,Z,Z,z,_,_,_,Z,Z,g.tup hz,by rw[e2];exact aN c2,(iN 2),λp hp=>?_⟩;have g6:=aE hp (yW r);refine⟨g6 _ _ ha,(g.trans g6).cW Bi _,?_⟩;rw[take_snoc ei];exact((R.mono g6.tups).snoc ah).mono (jf (.inr ⟨_,g6 _ _ ha,Z⟩))
  rintro out H1 gf ha ⟨g,R⟩;rw[c7]at R;exact⟨⟨n,ρ,A,st,Ap,out,rs,Z,hh.mono g,aG.of ha,R,ok,λρ' A' H' a1 a2 a3=>q ρ' A' H' a1 a2 ((Fr.of_same g).trans a3)⟩⟩
 | award o a=>refine dQ hz rfl (by decide) rfl (bw ?_);refine dQ hz rfl (by decide) rfl (bw ?_);refine dQ hz rfl (by decide) rfl (bw ?_);refine uz hz rfl rfl (gb ?_);refine⟨_,Z,A.a,A.dx,_,Z,hh.h.oa,Z,_,Z,z,_,_,_,Z,Z,hz,aN (j:=1) rfl,_,Z,z,_,_,_,Z,Z,hz,aN (j:=2) rfl,⟨⟨n,ρ,A,st,o,a,Z,hh,gg.aw wf (by omega),.of hr0 q⟩⟩⟩
 | mishap x a=>refine dQ hz rfl (by decide) rfl (bw ?_);refine dQ hz rfl (by decide) rfl (bw ?_);refine dQ hz rfl (by decide) rfl (bw ?_);refine dQ hz rfl (by decide) rfl (bw ?_);refine uz hz rfl rfl (gb ?_);refine⟨_,Z,A.a,A.dx,_,Z,hh.h.oa,Z,_,Z,z,_,_,_,Z,Z,hz,aN (j:=1) rfl,_,Z,z,_,_,_,Z,Z,hz,aN (j:=2) rfl,⟨⟨n,ρ,A,st,x,a,Z,hh,.of hr0 q⟩⟩⟩
 | rise x a=>refine dQ hz rfl (by decide) rfl (bw ?_);refine dQ hz rfl (by decide) rfl (bw ?_);refine dQ hz rfl (by decide) rfl (bw ?_);refine dQ hz rfl (by decide) rfl (bw ?_);refine dQ hz rfl (by decide) rfl (bw ?_);refine uz hz rfl rfl (gb ?_);refine⟨_,Z,A.a,A.dx,_,Z,hh.h.oa,Z,_,Z,z,_,_,_,Z,Z,hz,aN (j:=1) rfl,_,Z,z,_,_,_,Z,Z,hz,aN (j:=2) rfl,⟨⟨n,ρ,A,st,x,a,Z,hh,.of hr0 q⟩⟩⟩
 | hand x o=>refine dQ hz rfl (by decide) rfl (bw ?_);refine dQ hz rfl (by decide) rfl (bw ?_);refine dQ hz rfl (by decide) rfl (bw ?_);refine dQ hz rfl (by decide) rfl (bw ?_);refine dQ hz rfl (by decide) rfl (bw ?_);refine dQ hz rfl (by decide) rfl (bw ?_);refine uz hz rfl rfl (gb ?_);refine⟨_,Z,A.a,A.dx,_,Z,hh.h.oa,Z,_,Z,z,_,_,_,Z,Z,hz,aN (j:=1) rfl,_,Z,z,_,_,_,Z,Z,hz,aN (j:=2) rfl,⟨⟨n,ρ,A,st,x,o,Z,hh,gg.sum,.of hr0 q⟩⟩⟩
 | land x=>refine dQ hz rfl (by decide) rfl (bw ?_);refine dQ hz rfl (by decide) rfl (bw ?_);refine dQ hz rfl (by decide) rfl (bw ?_);refine dQ hz rfl (by decide) rfl (bw ?_);refine dQ hz rfl (by decide) rfl (bw ?_);refine dQ hz rfl (by decide) rfl (bw ?_);refine dQ hz rfl (by decide) rfl (bw ?_);refine uz hz rfl rfl (gb ?_);refine⟨_,Z,A.a,A.dx,_,Z,hh.h.oa,Z,_,Z,z,_,_,_,Z,Z,hz,aN (j:=1) rfl,⟨⟨n,ρ,A,st,x,Z,hh,gg.ld wf (by omega) hk,.of hr0 q⟩⟩⟩
 | sever x y a we=>refine dQ hz rfl (by decide) rfl (bw ?_);refine dQ hz rfl (by decide) rfl (bw ?_);refine dQ hz rfl (by decide) rfl (bw ?_);refine dQ hz rfl (by decide) rfl (bw ?_);refine dQ hz rfl (by decide) rfl (bw ?_);refine dQ hz rfl (by decide) rfl (bw ?_);refine dQ hz rfl (by decide) rfl (bw ?_);refine dQ hz rfl (by decide) rfl (bw ?_);refine uz hz rfl rfl (gb ?_);refine⟨_,Z,A.a,A.dx,_,Z,hh.h.oa,Z,_,Z,z,_,_,_,Z,Z,hz,aN (j:=1) rfl,_,Z,z,_,_,_,Z,Z,hz,aN (j:=2) rfl,_,Z,z,_,_,_,Z,Z,hz,aN (j:=3) rfl,_,Z,z,_,_,_,Z,Z,hz,aN (j:=4) rfl,⟨⟨n,ρ,A,st,x,y,a,we,Z,hh,yV (jQ (show iX st x y a we=none from hr0)).2.1.1,by omega,by omega,.of hr0 q⟩⟩⟩
 | still=>refine dQ hz rfl (by decide) rfl (bw ?_);refine dQ hz rfl (by decide) rfl (bw ?_);refine dQ hz rfl (by decide) rfl (bw ?_);refine dQ hz rfl (by decide) rfl (bw ?_);refine dQ hz rfl (by decide) rfl (bw ?_);refine dQ hz rfl (by decide) rfl (bw ?_);refine dQ hz rfl (by decide) rfl (bw ?_);refine dQ hz rfl (by decide) rfl (bw ?_);refine dQ hz rfl (by decide) rfl (bw ?_);exact q ρ A H hh rfl Fr.refl
abbrev rJ:Stmt:=top 41
abbrev nY:Da Str:=["_law_owners","_law_deeds_here"]
abbrev JH:Da Str:=nY.append ["_law_hold","_law_owner","_law_deed_here"]
def m5:aM JH nY (aD rJ):=dP
theorem GQ{T:TC}(F:At K mg "_law_behind" rJ f fd)(yu:Cn P w K mg base 3 "Hold" T.hold ["self"] (FN T))(iz:Mn P w K mg base 3 T.hold "sign" lF (BP T))(ia:Dn P w K mg base 6 "_law_hold_do" kD (CV T K)):Dn P w K mg base 7 "_law_behind" nY (UX T K):=by
 refine F.oA m5 λ_ _ _ _ H _ Q E hr h=>?_;obtain⟨⟨n,ρ,zo,l,own,zs,ds,rfl,G,fO,fL,hD,hC,jV,Mc,amr,SH,hdl,q⟩⟩:=h;refine⟨_,(@cU.h _ _ _ (aj (aR (i:=2) m5.nd (Es yu hr))
  (aj (fh fX rfl (dZ K (qv 0)) (aU (i:=3) m5.nd) (ay (bO (bZ iz hr (qv 2) (af (qv 3) aq)))))
  (aj (fh fX rfl (dZ K (qv 1)) (aU (i:=4) m5.nd) (ay (bO (br ia hr (af (qv 2) (af (qv 4) aq))))))
  (ay (bh (qv 2))))))),?_⟩
 intro x dx hx hdx hne;refine⟨⟨x,dx,ρ,n,Z,ah,(G.alloc hdx).alloc (by rw[au (bB hne)];exact hx),G.none hx,λρ4 A4 H4 ea4 nc k4=>⟨Z,?_⟩⟩⟩;have F4:Fr n ρ H ρ4 H4:=λb o e _=>k4 b o (by rw[au (aA e hx),au (aA e hdx)];exact e) (aA e hx);refine⟨_,Z,zo,Z,⟨_,fO _ _ F4.out⟩,?_⟩;refine jk (K:=K) (xs:=own.map V.str) (λi σ H'=>∃ρ' A' s5,σ=[some (.ref zo),some (.ref l),some (.ref x),s5,none]/\A'.a=x/\HH T n ρ' A' H' ((own.take i).foldl aV hs0)/\Fr n ρ H ρ' H')
  ⟨ρ4,A4,none,Z,ea4,nc,F4⟩ (λi σ H' _ hp=>by obtain⟨_,_,_,_,_,_,f⟩:=hp;exact fO _ _ f.out) ?_ ?_
 .rintro i y σ H' hy ⟨ρ',A',s2,rfl,ea',hh',F'⟩;rw[cu]at hy;obtain⟨o,eo,rfl⟩:=kH.mp hy;have hi:=(dX.mp eo).1;have adu:((own.take i).foldl aV hs0).own=own.take i:=by rw[wZ];rfl
  refine⟨_,Z,x,A'.dx,_,Z,ea'▸hh'.h.oa,Z,_,Z,⟨⟨n,ρ',A',_,o,by rw[ea'];rfl,hh',SH o (bQ eo),?_,?_,λρ2 A2 H2 h2 e2 F2=>?_⟩⟩⟩
  .rw [adu];intro m;have h2:(own.take (i+1)).Nodup:=jV.sublist (RA _ _);rw[take_snoc eo]at h2;exact(Fx.mp h2).2.2 o m o (eO.mpr rfl) rfl
  .rw [adu,kI];omega
  .rw [take_snoc eo,xD];exact⟨ρ2,A2,_,Z,e2.trans ea',h2,F'.trans F2⟩
 rintro σ H5 ⟨ρ5,A5,s5,rfl,ea5,pH,F5⟩;rw[aF,c7]at pH;have pH:HH T n ρ5 A5 H5 (cA own):=pH;clear nc k4 F4;have gw:=Yk jV Mc (by omega) SH;have Q2:=uT own;have U4:An (cA own):=λx hx=>by rw[show(cA own).dO=[]from(jN own hs0 rfl (λu hu=>absurd hu (by simp[hs0]))).2.2.2.2.1]at hx;cases hx
 have chg:=hC.go gw mo0 U4 (by omega) (by omega) (by rw[Q2];omega);have zl:=hD.length;refine⟨_,Z,l,Z,⟨zs,fL _ _ F5.out⟩,?_⟩;refine jk (K:=K) (xs:=zs) (λi σ H'=>∃ρ' A' s3 s4,σ=[some (.ref zo),some (.ref l),some (.ref x),s3,s4]/\HH T n ρ' A' H' (bz (cA own) (ds.take i))/\A'.a=x/\Fr n ρ H ρ' H')
  ⟨ρ5,A5,_,_,Z,pH,ea5,F5⟩ (λi σ H' _ hp=>by obtain⟨_,_,_,_,_,_,_,f⟩:=hp;exact fL _ _ f.out) ?_ ?_
 .rintro i y σ H7 hy ⟨ρ7,A7,s3,s4,rfl,IS,ea7,F7⟩;obtain⟨z,d,rfl,ed,hz⟩:=hD.get hy;have hi:=(dX.mp ed).1;obtain⟨gw7,eo7,_⟩:=chg i (by omega);obtain⟨d1,d2,d3⟩:=hC i d ed;rw[Q2]at eo7;have IT:H7 z=some (.tup d.v):=(bF (F7.out _ _ (cD hz (G.tup hz)))).1;have kn7:=gw7.kn;refine⟨_,Z,_,Z,⟨⟨n,0+i,ρ7,A7,_,z,d,by rw[ea7];rfl,dm.of IT,IS,gw7.g,by omega,by omega,by rw[eo7];omega,d1,λρ8 A8 H8 qp ea8 F8=>?_⟩⟩⟩;rw[<-jR,<-take_snoc ed]at qp;exact⟨ρ8,A8,_,_,Z,qp,ea8.trans ea7,F7.trans F8⟩
 rintro σ H8 ⟨ρ8,A8,s3,s4,rfl,qp,ea8,F8⟩;rw[zl,c7]at qp;have ch:=chg ds.length (aK _);rw[c7]at ch;refine⟨_,Z,?_⟩;rw[BA,BA]at ch;have:=q ρ8 A8 H8 qp ch.1 (ch.2.1.trans Q2) ch.2.2.1 ch.2.2.2 F8;rw[ea8]at this;exact this
abbrev wC:Stmt:=top 42
abbrev sO:Da Str:=["_law_hold"]
abbrev OP:Da Str:=sO.append ["_law_parts","_law_shares","_law_purses"]
def qE:aM OP sO (aD wC):=dP
theorem Nm{T:TC}(F:At K mg "_law_snap" wC f fd)(jy:Mn P w K mg base 1 T.hold "parts" mK (FO T))(lz:Mn P w K mg base 4 T.hold "shares" jJ (uJ T))(wD:Mn P w K mg base 3 T.hold "purse" qx (QF T))(iU:Mn P w K mg base 1 T.hold "roster" lC (CN T))(fK:Mn P w K mg base 1 T.hold "landed" jK (Lv T))(gW:Mn P w K mg base 1 T.hold "whole" kr (BQ T)):Dn P w K mg base 5 "_law_snap" sO (UY T K):=by
 refine F.oA qE λ_ _ _ _ H _ Q E hr h=>?_;obtain⟨⟨n,ρ,A,st,rfl,hh,hk,q⟩⟩:=h;refine⟨_,(@cU.h _ _ _ (aj (aR (i:=1) qE.nd (f_ jy hr (qv 0)))
  (aj (pA (i:=2) ["_law_part","_law_hold"] [none,some 0] qE.nd rfl rfl rfl (dZ K (qv 1)) (λ_ _ _ _=>(aU (i:=0) (show List.Nodup (["_law_part","_law_hold"] :Da Str)from by decide +kernel))) (λ_ _ _ _=>(bZ lz hr (qv 1) (af (aO (aY K) (qv 0) ak) aq))) rfl (by rfl) (by rfl))
  (aj (pA (i:=3) ["_law_owner","_law_hold"] [none,some 0] qE.nd rfl rfl rfl (dZ K (f_ iU hr (qv 0))) (λ_ _ _ _=>(aU (i:=0) (show List.Nodup (["_law_owner","_law_hold"] :Da Str)from by decide +kernel))) (λ_ _ _ _=>(bZ wD hr (qv 1) (af (qv 0) aq))) rfl (by rfl) (by rfl))
  (ay (bh (iE (af (f_ iU hr (qv 0)) (af (qv 1) (af (qv 2) (af (f_ fK hr (qv 0)) (af (f_ gW hr (qv 0)) (af (qv 3) aq))))))))))))),?_⟩
 have wf:=hh.wf;have pL:=wf.kM;refine⟨_,Z,A.a,A.dx,_,Z,hh.h.oa,Z,⟨⟨n,ρ,A,st,Z,hh.h,wf.kM,λr0 YL H1 g1 hr0 hr1 hP=>?_⟩⟩⟩;have f7:=hh.mono g1;have c0:ρ r0=none:=hh.g.none hr0;have wl:=hP.length;refine⟨_,Z,r0,Z,⟨_,aG.of hr1⟩,λla hla=>?_⟩;have cla:ρ la=none:=f7.g.none hla;refine k7 (J:=zS K r0) (n:=st.ai.length) 0 (λi out H'=>∃k,HH T n ρ A H' { st with kn:=k }/\k<=st.kn+100*i/\Fr n ρ H1 ρ H'/\vI la ρ H' st out (st.ai.take i)) (by omega) ⟨st.kn,f7.mono (aE hla _),aK _,Fr.of_same (aE hla _),.nil⟩ (λi o H' hi _ hp=>by obtain⟨_,_,_,f,_⟩:=hp;exact⟨_,_,f.seq (aG.of hr1) c0,bu (by omega)⟩) (λo H' _ hp=>by obtain⟨_,_,_,f,_⟩:=hp;exact⟨_,f.seq (aG.of hr1) c0,by omega⟩) ?_ ?_
 .rintro j y out H2 H3 hj Gu ha ⟨k,h2,hk2,F2,S⟩ ⟨rfl,hy⟩;have ep:=bu hj;generalize st.ai[j]=p at ep;obtain⟨t,et,ht⟩:=hP.get ep;have ey:=hy _ (F2.seq (aG.of hr1) c0);rw[et]at ey;cases ey;have ht':H3 t=some (BK p):=(F2 t _ ht (λt' x' z'=>by rw[f7.g.tup ht]at z';cases z')).1;refine⟨_,Z,A.a,A.dx,_,Z,h2.h.oa,Z,_,Z,t,_,_,_,Z,Z,dm.of ht',aN (j:=0) rfl,⟨⟨n,ρ,A,_,j,p,Z,h2,ep,by show k+100<=1000000;omega,λz us H4 h4 F4 hz0 hz cz hsh=>?_⟩⟩⟩;have EL:H4 la=some (.lst out):=(F4 la _ ha (λt y e=>by rw[cla]at e;cases e)).1;have nz:z≠la:=λe=>by rw[e,ha]at hz0;cases hz0
  have hsh:jn H4 us (gO st p):=hsh;refine⟨EL,k+100,h4.Yn cla EL rfl rfl,by omega,?_,?_⟩
  .exact λb o e hb=>let⟨x,y⟩:=(F2.trans F4) b o e hb;⟨by rw[au (aA e hla)];exact x,y⟩
  .rw [take_snoc ep];have S4:vI la ρ H4 st out (st.ai.take j):=S.keep (λz us e c _=>⟨(F4 z _ e (λt y e=>by rw[c]at e;cases e)).1,c⟩) λb xs e=>(F4 b _ e (λt y z=>by rw[h2.g.tup e]at z;cases z)).1;exact(S4.snoc hz cz nz hsh).keep (λz us e c n=>⟨by rw[au n];exact e,c⟩) (jf (.inr ⟨_,EL,Z⟩))
 rintro wa H2 wal ha2 ⟨k,h2,hk2,F2,S2⟩;rw[c7]at S2;refine⟨_,Z,A.a,A.dx,_,Z,h2.h.oa,Z,⟨⟨n,ρ,A,_,Z,h2.h,λr1 adx=>?_⟩⟩⟩;have g3:=aE adx (.lst (st.own.map V.str));have Q3:upd H2 r1 (.lst (st.own.map V.str)) r1=some (.lst (st.own.map V.str)):=ah;have lX:=h2.mono g3;have cr1:ρ r1=none:=h2.g.none adx;show S3 K _ (.ref r1) (upd H2 r1 (.lst (st.own.map V.str)));generalize upd H2 r1 (.lst (st.own.map V.str))=H3 at *;refine⟨r1,Z,⟨_,aG.of Q3⟩,λlp wc=>?_⟩;have oL:=wf.j9;refine k7 (J:=zS K r1) (n:=st.own.length) 0 (λi out H'=>aJ H3 H'/\lM H' out ((st.own.take i).map (Ml st))) (by omega) ⟨aE wc _,.nil⟩ (λi o H' hi _ hp=>⟨_,_,aG.of (hp.1 _ _ Q3),by rw[cu,bu hi];rfl⟩) (λo H' _ hp=>⟨_,aG.of (hp.1 _ _ Q3),by rw[aF];exact aK _⟩) ?_ ?_
 .rintro j y out H5 H6 hj Gu ha ⟨g,R⟩ ⟨rfl,hy⟩;have ey:=hy _ (aG.of (g _ _ Q3));rw[cu]at ey;obtain⟨o,eo,rfl⟩:=kH.mp ey;have h5:=lX.h.mono g;refine⟨_,Z,A.a,A.dx,_,Z,h5.oa,Z,_,Z,⟨⟨n,ρ,A,_,o,Z,h5,lX.wf,bQ eo,λr H7 g7 hr7=>⟨g7 _ _ ha,(g.trans g7).cW wc _,?_⟩⟩⟩⟩;rw[take_snoc eo,b8];exact((R.mono g7).snoc hr7).Zs (g7 _ _ ha)
 rintro wp H4 _ EL ⟨g4,R4⟩;rw[c7]at R4;have nc:=lX.mono g4;have clp:ρ lp=none:=lX.g.none wc;refine⟨_,Z,A.a,A.dx,_,Z,nc.h.oa,Z,⟨⟨n,ρ,A,_,Z,nc.h,λr5 ady=>?_⟩⟩⟩;have g5:=aE ady (.lst (st.own.map V.str));have hr5:upd H4 r5 (.lst (st.own.map V.str)) r5=some (.lst (st.own.map V.str)):=ah;have pH:=nc.mono g5;have c5:ρ r5=none:=nc.g.none ady;show BD _ _ _ (upd H4 r5 (.lst (st.own.map V.str))) _;generalize upd H4 r5 (.lst (st.own.map V.str))=H5 at *;refine⟨_,Z,_,Z,_,Z,A.a,A.dx,_,Z,pH.h.oa,Z,⟨⟨n,ρ,A,_,Z,pH,λr6 ws6 H6 g6 ajj Be hL=>?_⟩⟩⟩;have tG:=pH.mono g6;have c6:ρ r6=none:=pH.g.none ajj;refine⟨_,Z,A.a,A.dx,_,Z,tG.h.oa,Z,⟨⟨n,ρ,A,_,Z,tG.h,tG.wf.kM,λH7 g7=>⟨_,Z,(iN 6),λr hr=>?_⟩⟩⟩⟩;have g8:=aE hr (.lst [.ref r5,.ref r0,.ref la,.ref r6,.int (aS st),.ref lp]);have QV:upd H7 r (.lst [.ref r5,.ref r0,.ref la,.ref r6,.int (aS st),.ref lp]) r=some (.lst [.ref r5,.ref r0,.ref la,.ref r6,.int (aS st),.ref lp]):=ah;have qp:=(tG.mono g7).mono g8;have cr:ρ r=none:=(tG.mono g7).g.none hr;show Q (.ref r) (upd H7 r (.lst [.ref r5,.ref r0,.ref la,.ref r6,.int (aS st),.ref lp]));generalize upd H7 r (.lst [.ref r5,.ref r0,.ref la,.ref r6,.int (aS st),.ref lp])=H8 at *;have YM:aJ H2 H8:=((((g3.trans g4).trans g5).trans g6).trans g7).trans g8;have s58:aJ H5 H8:=(g6.trans g7).trans g8;have s68:aJ H6 H8:=g7.trans g8;have s48:aJ H4 H8:=g5.trans s58;have F8:Fr n ρ H1 ρ H8:=F2.trans (Fr.of_same YM);refine q r k H8 qp hk2 ((Fr.of_same g1).trans F8) λρ' H9 s9=>?_;have tu:=fE qp.g s9;have li:∀{z:Addr}{xs:Da V},H8 z=some (.lst xs)->ρ z=none->aG K H9 z xs:=λe c=>(aG.of (K:=K) e).outs c s9;have h0:H8 r0=some (.lst YL):=(F8 r0 _ hr1 (λt y e=>by rw[c0]at e;cases e)).1;have P8:jA H8 YL st.ai:=hP.mono λb xs e=>(F8 b _ e (λt y z=>by rw[f7.g.tup e]at z;cases z)).1;have S8:vI la ρ H8 st wa st.ai:=S2.keep (λz us e c _=>⟨YM _ _ e,c⟩) YM.tups;have S9:vI la ρ' H9 st wa st.ai:=S8.keep (λz us e c _=>bF (s9 _ _ (cD e c))) tu;have L8:jL ρ H8 ws6 st.dO:=hL.outs tG.g (vg s68);have L9:=L8.outs qp.g s9;have str:∀(l:Da Str),ux K H9 (l.map V.str) (l.map PyData.str):=λl=>by
  induction l with
  | nil=>exact .nil
  | cons o l ih=>exact .cons (.str _) ih
 exact .lst (li QV cr) (.cons (.lst (li (s58 _ _ hr5) c5) (str _)) (.cons (.lst (li h0 c0) (P8.mono tu).dt) (.cons (.lst (li (YM _ _ ha2) cla) S9.dt) (.cons (.lst (li (s68 _ _ Be) c6) L9.dt) (.cons (.int _) (.cons (.lst (li (s48 _ _ EL) clp) ((R4.mono s48).tups tu).dt) .nil))))))
abbrev mS:Stmt:=top 30
abbrev j7:Da Str:=["_law_model"]
abbrev B4:Da Str:=j7.append ["_law_parts"]
def tK:aM B4 j7 (aD mS):=dP
theorem Bl(F:At K mg "_law_model_twin" mS f fd)(dI:mg "list"=none):Dn P w K mg base 1 "_law_model_twin" j7 (QM K):=by
 refine F.oA tK λ_ _ _ _ H _ Q E hr h=>?_;obtain⟨⟨n,m,ρ,B,l,rfl,nm,G,hb,hpl,q⟩⟩:=h;refine⟨_,(@cU.h _ _ _ (aj (pA (i:=1) ["_law_part"] [none] tK.nd rfl rfl rfl (dZ K (di (c9 hr) (qv 0) bg)) (λ_ _ _ _=>(aU (i:=0) (show List.Nodup (["_law_part"] :Da Str)from by decide +kernel))) (λ_ _ _ _=>(fD (fJ K) (by rfl) dI tM (af (qv 0) aq))) rfl (by rfl) (by rfl))
  (ay (bh (Qo (qT bg (fD (fJ K) (by rfl) dI tM (af (di (c9 hr) (qv 0) bg) aq)) (qT bg (qv 1) (qT bg (fD (fJ K) (by rfl) dI tM (af (di (c9 hr) (qv 0) bg) aq)) Qn))) (by rfl) (by rfl) (λz=>nomatch z) (by with_unfolding_all decide)))))),?_⟩
 have ql:=hb.ql;refine⟨_,Z,B.m,_,Z,dS.k (k:=Sum.inr "parts") hb.om,B.lp,Z,⟨_,aG.of hb.op⟩,λla hla=>?_⟩;refine k7 (J:=zS K B.lp) (n:=B.qs.length) 0 (λi out H'=>aJ H H'/\∃qs:Da Addr,out=qs.map V.ref/\qs.length=i/\qs.Nodup/\(∀a∈qs,H a=none/\a≠la)/\∀(j:Nat)(p:Q4)(a:Addr),l.ai[j]?=some p->qs[j]?=some a->H' a=some (.lst (ir p))) (by omega) ⟨aE hla _,[],Z,Z,rM,(λa ha=>absurd ha (by simp)),λj p a _ e=>by simp at e⟩ (λi o H' hi _ hp=>⟨_,_,aG.of (hp.1 _ _ hb.op),by rw[cu,bu hi];rfl⟩) (λo H' _ hp=>⟨_,aG.of (hp.1 _ _ hb.op),by rw[aF];exact aK _⟩) ?_ ?_
 .rintro i y out H1 H2 hi gf ha ⟨g,qs,rfl,hq,hnd,hfr,hat⟩ ⟨rfl,hy⟩;have ey:=hy _ (aG.of (g _ _ hb.op));rw[cu]at ey;obtain⟨a0,ea,rfl⟩:=kH.mp ey;have hi':i<l.ai.length:=by rw[<-ql];exact hi
  have ep:=bu hi';generalize l.ai[i]=p at ep;have hp:=(hb.pt i p a0 ep ea).1;refine⟨_,Z,a0,_,Z,.inl (aG.of (g _ _ hp)),λz hz=>?_⟩;have gz:=aE hz (.lst (ir p));have nz:z≠la:=λe=>by rw[e,ha]at hz;cases hz
  have hz0:=g.free hz;have nq:z∉qs:=λhm=>by obtain⟨j,hj,e⟩:=uX hm;have:=hat j _ z (bu (show j<l.ai.length by omega)) (by rw[<-e];exact bu hj);rw[hz]at this;cases this
  refine⟨gz _ _ ha,(g.trans gz).cW hla _,qs++[z],by rw[b8];rfl,by rw[cX,hq];rfl,Fx.mpr ⟨hnd,by simp,λa ha b hb e=>nq (by rw[eO.mp hb]at e;rw[<-e];exact ha)⟩,λa ha=>?_,λj p' a ej ea'=>?_⟩
  .rcases fW.mp ha with ha|ha
   .exact hfr a ha
   .rw [eO.mp ha];exact⟨hz0,nz⟩
  .rcases Nat.lt_or_ge j qs.length with c|c
   .rw [uW c]at ea';rw[au (hfr a (bQ ea')).2];exact gz _ _ (hat j p' a ej ea')
   .rw [uV c]at ea';have e0:j-qs.length=0:=by have:=(dX.mp ea').1;simpa using this
    rw[e0]at ea';cases ea';have:j=i:=by omega
    subst this;rw[ep]at ej;cases ej;rw[au nz];exact ah
 rintro out H1 gf ha ⟨g1,qs,rfl,hq,hnd,hfr,hat⟩;intro md hmd;have g2:=aE hmd (.dK []);have Nc:upd H1 md (.dK []) md=some (.dK []):=ah;have MK:=g1.trans g2;have Bg:=g2 _ _ ha;generalize upd H1 md (.dK [])=H2 at *;refine⟨_,Z,B.m,_,Z,dS.k (k:=Sum.inr "owners") (MK _ _ hb.om),B.lo,_,Z,.inl (aG.of (MK _ _ hb.oo)),λlo hlo=>?_⟩;have g3:=aE hlo (.lst (l.own.map V.str));have eo3:upd H2 lo (.lst (l.own.map V.str)) lo=some (.lst (l.own.map V.str)):=ah;have YK:=g3 _ _ Nc;have QS:=g3 _ _ Bg;have QX:=MK.trans g3;show Aq _ _ (upd H2 lo (.lst (l.own.map V.str))) _;generalize upd H2 lo (.lst (l.own.map V.str))=H3 at *;refine⟨_,Z,_,Z,B.m,_,Z,dS.k (k:=Sum.inr "known") (QX _ _ hb.om),B.lk,_,Z,.inl (aG.of (QX _ _ hb.ok)),λlk hlk=>?_⟩;have g4:=aE hlk (.lst (l.vG.map V.str));have ek4:upd H3 lk (.lst (l.vG.map V.str)) lk=some (.lst (l.vG.map V.str)):=ah;have eo4:=g4 _ _ eo3;have em4:=g4 _ _ YK;have EL:=g4 _ _ QS;have g14:=QX.trans g4;show upd H3 lk (.lst (l.vG.map V.str)) md=_/\_;generalize upd H3 lk (.lst (l.vG.map V.str))=H4 at *;have y0:H md=none:=g1.free hmd;have y1:H lo=none:=MK.free hlo;have y2:H lk=none:=QX.free hlk;have n1:lo≠md:=λe=>by rw[e,Nc]at hlo;cases hlo
 have n2:la≠md:=λe=>by rw[e,hmd]at ha;cases ha
 have n3:la≠lo:=λe=>by rw[e,hlo]at Bg;cases Bg
 have n7:lk≠md:=λe=>by rw[e,YK]at hlk;cases hlk
 have n8:lk≠lo:=λe=>by rw[e,eo3]at hlk;cases hlk
 have n9:lk≠la:=λe=>by rw[e,QS]at hlk;cases hlk
 have ex1:∀a∈qs,∃o,H1 a=some o:=λa ha=>by obtain⟨j,hj,e⟩:=uX ha;exact⟨_,hat j _ a (bu (show j<l.ai.length by omega)) (by rw[<-e];exact bu hj)⟩
 have g24:=(g2.trans g3).trans g4;have qn:∀a∈qs,a≠md/\a≠lo/\a≠la/\a≠lk:=λa ha=>by obtain⟨o,e⟩:=ex1 a ha;exact⟨aA e hmd,aA (g2 _ _ e) hlo,(hfr a ha).2,aA ((g2.trans g3) _ _ e) hlk⟩
 refine⟨em4,[(Sum.inr "owners",.ref lo),(Sum.inr "parts",.ref la),(Sum.inr "known",.ref lk)],Z,by show 3<=15;decide,?_⟩;have eK:u_ [] [(Sum.inr "owners",.ref lo),(Sum.inr "parts",.ref la),(Sum.inr "known",.ref lk)]=fQ ⟨md,lo,la,lk,qs⟩:=rfl;rw[eK];have at5:∀(j:Nat)(p:Q4)(a:Addr),l.ai[j]?=some p->qs[j]?=some a->upd H4 md (.dK (fQ ⟨md,lo,la,lk,qs⟩)) a=some (.lst (ir p)):=λj p a e1 e2=>by rw[au (qn a (bQ e2)).1];exact g24 _ _ (hat j p a e1 e2)
 have u1:upd H4 md (.dK (fQ ⟨md,lo,la,lk,qs⟩)) md=some (.dK (fQ ⟨md,lo,la,lk,qs⟩)):=ah;have u2:upd H4 md (.dK (fQ ⟨md,lo,la,lk,qs⟩)) lo=some (.lst (l.own.map V.str)):=by rw[au n1];exact eo4
 have u3:upd H4 md (.dK (fQ ⟨md,lo,la,lk,qs⟩)) la=some (.lst (qs.map V.ref)):=by rw[au n2];exact EL
 have u5:upd H4 md (.dK (fQ ⟨md,lo,la,lk,qs⟩)) lk=some (.lst (l.vG.map V.str)):=by rw[au n7];exact ek4
 have hz:∀b o,H b=some o->upd H4 md (.dK (fQ ⟨md,lo,la,lk,qs⟩)) b=some o:=λb o e=>by rw[au (aA e y0)];exact g14 _ _ e
 have G5:Gh ρ (upd H4 md (.dK (fQ ⟨md,lo,la,lk,qs⟩))):=(G.same g14).wr rfl;generalize upd H4 md (.dK (fQ ⟨md,lo,la,lk,qs⟩))=H5 at *;have G6:=G5.Mw (c:=(m,44,nx)) (qs:=qs) λa ha=>by obtain⟨j,hj,e⟩:=uX ha;exact⟨_,at5 j _ a (bu (show j<l.ai.length by omega)) (by rw[<-e];exact bu hj),Z⟩
 refine q (cy (cy (cy (cy (Mw ρ (m,44,nx) qs) md (m,40,nx)) lo (m,41,nx)) la (m,42,nx)) lk (m,43,nx)) ⟨md,lo,la,lk,qs⟩ H5 ((((G6.color u1 rfl).color u2 rfl).color u3 rfl).color u5 rfl) ⟨u1,?_,u2,?_,u3,?_,u5,bN,hnd,hq.trans ql,λi p a e1 e2=>⟨at5 i p a e1 e2,?_⟩⟩ (λb o e=>⟨hz b o e,?_⟩)
 .show cy _ lk _ md=_;rw[aP (bB n7),aP (bB n2),aP (bB n1),bN]
 .show cy _ lk _ lo=_;rw[aP (bB n8),aP (bB n3),bN]
 .show cy _ lk _ la=_;rw[aP (bB n9),bN]
 .have hm:=bQ e2;obtain⟨z1,z2,z3,z4⟩:=qn a hm;rw[aP z4,aP z3,aP z2,aP z1];exact aB hm
 .rw [aP (aA e y2),aP (aA e hla),aP (aA e y1),aP (aA e y0)];exact aC λhm=>by have:=(hfr b hm).1;rw[e]at this;cases this
abbrev qF:Stmt:=top 43
abbrev m7:Da Str:=["_law_hold"]
abbrev GR:Da Str:=m7.append ["_law_told","_law_part"]
def l9:aM GR m7 (aD qF):=dP
theorem EZ{T:TC}(F:At K mg "_law_emptied" qF f fd)(iU:Mn P w K mg base 1 T.hold "roster" lC (CN T))(jy:Mn P w K mg base 1 T.hold "parts" mK (FO T))(fK:Mn P w K mg base 1 T.hold "landed" jK (xo T))(lz:Mn P w K mg base 4 T.hold "shares" jJ (uJ T)):Dn P w K mg base 5 "_law_emptied" m7 (IM T):=by
 refine F.oA l9 λ_ _ _ _ H _ Q E hr h=>?_;obtain⟨⟨n,ρ,A,st,rfl,hh,hk,q⟩⟩:=h;refine⟨_,(@cU.h _ _ _ (aj (fh fX rfl (dZ K (iE (af (f_ iU hr (qv 0)) (af (f_ jy hr (qv 0)) (af (f_ fK hr (qv 0)) aq))))) (aU (i:=1) l9.nd) (ay (bO (LX lJ PySem.F.slot_list_clear PySem.F.type_list_clear CG (qv 1)))))
  (aj (fh fX rfl (dZ K (f_ jy hr (qv 0))) (aU (i:=2) l9.nd) (ay (bO (LX lJ PySem.F.slot_list_clear PySem.F.type_list_clear CG (bZ lz hr (qv 0) (af (aO (aY K) (qv 2) ak) aq))))))
  (ay (fh fX rfl (dZ K (f_ fK hr (qv 0))) (aU (i:=2) l9.nd) (ay (bO (LX lJ PySem.F.slot_list_clear PySem.F.type_list_clear CG (aO (aY K) (qv 2) ak))))))))),?_⟩
 have pL:=hh.wf.kM;refine⟨_,Z,A.a,A.dx,_,Z,hh.h.oa,Z,⟨⟨n,ρ,A,st,Z,hh.h,λr1 hr1=>?_⟩⟩⟩;have g1:=aE hr1 (.lst (st.own.map V.str));have e1:upd H r1 (.lst (st.own.map V.str)) r1=some (.lst (st.own.map V.str)):=ah;have f7:=hh.mono g1;show BD _ _ _ (upd H r1 (.lst (st.own.map V.str))) _;generalize upd H r1 (.lst (st.own.map V.str))=H1 at *;refine⟨_,Z,A.a,A.dx,_,Z,f7.h.oa,Z,⟨⟨n,ρ,A,st,Z,f7.h,pL,λr2 ws2 H2 g2 hr2 adz hP=>?_⟩⟩⟩;have lW:=f7.mono g2;refine⟨_,Z,A.a,A.dx,_,Z,lW.h.oa,Z,⟨⟨n,ρ,A,st,Z,lW,λr3 ws3 H3 g3 Q3 Xr hL fr=>?_⟩⟩⟩;refine⟨by show 3<=sizeLine;decide,λl hl=>?_⟩;have k1:=(g2.trans g3) _ _ e1;have k2:=g3 _ _ adz;have nr:∀r∈[r1,r2,r3],H r=none/\r≠l/\∃x,H3 r=some (.lst x):=by
  intro r hr;simp only[b_,List.not_mem_nil,or_false]at hr;rcases hr with rfl|rfl|rfl
  .exact ⟨hr1,aA k1 hl,_,k1⟩
  .exact ⟨g1.free hr2,aA k2 hl,_,k2⟩
  .exact ⟨(g1.trans g2).free Q3,aA Xr hl,_,Xr⟩
 have g4:=aE hl (.lst [V.ref r1,V.ref r2,V.ref r3]);have s4:=((g1.trans g2).trans g3).trans g4;refine⟨l,Z,⟨_,aG.of ah⟩,?_⟩;refine jk (K:=K) (xs:=[r1,r2,r3].map V.ref) (λi σ H'=>(∃s1,σ=[some (.ref A.a),s1,none])/\aJ H H'/\H' l=some (.lst ([r1,r2,r3].map V.ref))/\∀r∈[r1,r2,r3],∃x,H' r=some (.lst x)) ⟨⟨_,Z⟩,s4,ah,λr hr=>let⟨_,_,x,e⟩:=nr r hr;⟨x,g4 _ _ e⟩⟩ (λi σ H' _ hp=>aG.of hp.2.2.1) ?_ ?_
 .rintro i y σ H5 hy ⟨⟨s1,rfl⟩,g5,hl5,Np⟩;rw[cu]at hy;obtain⟨r,er,rfl⟩:=kH.mp hy;have hm:=bQ er;obtain⟨n1,n2,_⟩:=nr r hm;obtain⟨x,ex⟩:=Np r hm;refine⟨_,Z,.inl ⟨Z,_,aG.of ex⟩,r,_,Z,Z,ex,?_⟩;refine⟨⟨_,Z⟩,g5.cW n1 _,by rw[au (bB n2)];exact hl5,λr' hr'=>?_⟩;by_cases e:r'=r
  .exact ⟨[],by rw[e];exact ah⟩
  .obtain ⟨x',ex'⟩:=Np r' hr';exact⟨x',by rw[au e];exact ex'⟩
 rintro σ H5 ⟨⟨s1,rfl⟩,g5,_,_⟩;have pH:=hh.mono g5;clear f7 lW hP hL fr Xr adz k1 k2 nr s4 g4 g3 g2 g1;refine⟨_,Z,A.a,A.dx,_,Z,pH.h.oa,Z,⟨⟨n,ρ,A,st,Z,pH.h,pL,λr0 YL H6 g6 hr0 adA hP=>?_⟩⟩⟩;have tG:=pH.mono g6;have c0:ρ r0=none:=pH.g.none hr0;have wl:=hP.length;refine⟨r0,Z,⟨_,aG.of adA⟩,?_⟩;refine jk (K:=K) (xs:=YL) (λi σ H'=>(∃s2,σ=[some (.ref A.a),s1,s2])/\∃k,HH T n ρ A H' { st with kn:=k }/\k<=st.kn+100*i/\Fr n ρ H6 ρ H') ⟨⟨_,Z⟩,st.kn,tG,aK _,Fr.refl⟩ (λi σ H' _ hp=>by obtain⟨_,_,_,_,f⟩:=hp;exact f.seq (aG.of adA) c0) ?_ ?_
 .rintro i y σ H7 hy ⟨⟨s2,rfl⟩,k,h7,hk7,F7⟩;have hi:i<st.ai.length:=by rw[<-wl];exact(dX.mp hy).1
  have ep:=bu hi;generalize st.ai[i]=p at ep;obtain⟨t,et,ht⟩:=hP.get ep;rw[et]at hy;cases hy;have ht':H7 t=some (BK p):=(F7 t _ ht (λt' x' z'=>by rw[tG.g.tup ht]at z';cases z')).1;refine⟨_,Z,A.a,A.dx,_,Z,h7.h.oa,Z,_,Z,t,_,_,_,Z,Z,dm.of ht',aN (j:=0) rfl,⟨⟨n,ρ,A,_,i,p,Z,h7,ep,by show k+100<=1000000;omega,λz us H8 h8 F8 hz0 hz cz _=>?_⟩⟩⟩;refine⟨.inl ⟨Z,_,aG.of hz⟩,z,_,Z,Z,hz,⟨_,Z⟩,k+100,h8.Yn cz hz rfl rfl,by omega,λb o e hb=>?_⟩;obtain⟨x1,x2⟩:=F7 b o e hb;obtain⟨y1,y2⟩:=(F7.trans F8) b o e hb;exact⟨by rw[au (aA x1 hz0)];exact y1,y2⟩
 rintro σ H7 ⟨⟨s2,rfl⟩,k,h7,hk7,F7⟩;rw[wl]at hk7;refine⟨_,Z,A.a,A.dx,_,Z,h7.h.oa,Z,⟨⟨n,ρ,A,_,Z,h7,λr ws H8 g8 Vi QV LD fr=>?_⟩⟩⟩;have C0:=acE g8 QV LD fr;refine⟨r,Z,⟨ws,aG.of QV⟩,?_⟩;refine jk (K:=K) (xs:=ws) (λj σ H'=>U0 H7 H' r ws/\∃s2,σ=[some (.ref A.a),s1,s2]) ⟨C0,_,Z⟩ (λj σ H' _ hp=>aG.of hp.1.2.1) ?_ ?_
 .rintro j w σ HE hw ⟨CE,s2',rfl⟩;obtain⟨t,u1,u2,u3,l',ys,rfl,k1,k2,k3,k4⟩:=CE.2.2 w (bQ hw);refine⟨_,Z,t,_,_,_,Z,Z,dm.of k1,aN (j:=3) rfl,.inl ⟨Z,_,aG.of k4⟩,l',_,Z,Z,k4,?_⟩;exact⟨CE.step k2 k3 k4,_,Z⟩
 rintro σ HE ⟨CE,s2',rfl⟩;exact q k HE (h7.mono CE.1) hk7 ((Fr.of_same (ρ:=ρ) (g5.trans g6)).trans (F7.trans (Fr.of_same (ρ:=ρ) CE.1)))
abbrev nC:Stmt:=top 44
abbrev kU:Da Str:=["_law_hold","_law_known","_law_owner"]
abbrev Dk:Da Str:=kU.append ["_law_name_here","_law_told"]
def j8:aM Dk kU (aD nC):=dP
def B8{T:TC}{e:Ec}(F:At K mg "_law_all_known" nC f fd)(qG:Mx P w K mg base 4 T.hold "load" nN (Ge T e))(xm:PySem.W.exmOne K (.ref e.twice) (.ref e.twice)=some true)(uU:mg "Twice"=some (.ref e.twice)):Dn P w K mg base 5 "_law_all_known" kU (U5 T K):=by
 refine F.oA j8 λ_ _ _ _ H _ Q E hr h=>?_;obtain⟨⟨n,ρ,A,st,l,ks,o,rfl,hh,hl,hk,ho,h6,h7,q⟩⟩:=h;refine⟨_,(@cU.h _ _ _ (aj (fh fX rfl (dZ K (qv 1)) (aU (i:=3) j8.nd) (aj (aR (i:=4) j8.nd xh)
  (aj (aad (λ_ _ z=>z) rfl rfl (ai7 qG hr (λ_ _ z=>z) (qv 0) (af (qv 3) (af (qv 2) (af ak (af ak aq))))) (by rfl) uU (λ_=>(ay (aR (i:=4) j8.nd xh))))
  (ay (cN (AR (vD (qv 4))) (ay (bh xh)) bJ)))))
  (ay (bh xh)))),?_⟩
 refine⟨_,Z,l,Z,⟨_,hl⟩,?_⟩;refine jk (K:=K) (xs:=ks.map V.str) (λi σ H'=>aJ H H'/\∃s3 s4,σ=[some (.ref A.a),some (.ref l),some (.str o),s3,s4]) ⟨aJ.refl _,_,_,Z⟩ (λi σ H' _ hp=>hp.1.seq hl) ?_ ?_
 .rintro i y σ H1 hy ⟨g1,s3,s4,rfl⟩;rw[cu]at hy;obtain⟨x,ex,rfl⟩:=kH.mp hy;obtain⟨k1,k2⟩:=hk x (bQ ex);have f7:=hh.mono g1;have er:newR st x=some 1:=by unfold newR;rw[aB k1,aB k2]
  refine⟨_,Z,A.a,A.dx,_,Z,f7.h.oa,Z,_,Z,_,Z,⟨⟨n,ρ,A,st,x,o,1,0,Z,f7,yV k1,ho,by decide,by decide,h6,h7,⟨λj hj=>?_,λz=>?_⟩⟩⟩⟩
  .rw [er]at hj;cases hj;intro y H2 g2;exact⟨_,Z,xm,_,Z,_,Z,bw ⟨g1.trans g2,_,_,Z⟩⟩
  .rw [er]at z;cases z
 rintro σ H1 ⟨g1,s3,s4,rfl⟩;exact q H1 g1
abbrev qH:Stmt:=top 45
abbrev SI:Da Str:=["_law_script"]
abbrev afK:Da Str:=SI.append ["_law_owners","_law_names_here","_law_model","_law_ones","_law_others","_law_first","_law_other","_law_two","_law_at_here","_law_alone","_law_apart"]
def jT:aM afK SI (aD qH):=dP
theorem adC{T:TC}(F:At K mg "law" qH f fd)(aW:Dn P w K mg base 1 "_law_draw" iy (sR K))(qI:Dn P w K mg base 2 "_law_names" qy (FG K))(xY:Dn P w K mg base 1 "_law_lite" sH (UN K))(mT:Dn P w K mg base 5 "_law_deeds" qC (QE K))(lD:Dn P w K mg base 7 "_law_behind" nY (UX T K))(nP:Mn P w K mg base 5 T.hold "twin" lH (QI T))(nD:Dn P w K mg base 1 "_law_model_twin" j7 (QM K))(iz:Mn P w K mg base 3 T.hold "sign" lF (BP T))(ia:Dn P w K mg base 6 "_law_hold_do" kD (CV T K))(je:Dn P w K mg base 5 "_law_snap" sO (UY T K))(m8:Dn P w K mg base 5 "_law_emptied" m7 (IM T))(kW:Dn P w K mg base 5 "_law_all_known" kU (U5 T K))(dI:mg "list"=none)(dj:mg "range"=none):ja P w K mg base uw 8 f fd SI (Kq K):=by
 refine F.fn.ok jT (λvs H Q E h=>?_) (λ_ _ _ _ H _ Q E hr h=>?_)
 .obtain ⟨a,ns,rfl,_⟩:=h;rfl
 obtain⟨a,ns,rfl,hS,h63,q⟩:=h;refine⟨_,(@cU.h _ _ _ (aj (aR (i:=1) jT.nd (br qI hr (af (qv 0) (af ak (af (aL cS ak (br aW hr (af (qv 0) (af ak (af ak (af ak aq)))))) aq)))))
  (aj (aR (i:=2) jT.nd (br qI hr (af (qv 0) (af ak (af ak aq)))))
  (aj (aR (i:=3) jT.nd (br xY hr (af (qv 1) aq)))
  (aj (aR (i:=4) jT.nd (br mT hr (af (qv 0) (af ak (af (qv 3) (af (qv 2) (af (aL cS ak (br aW hr (af (qv 0) (af ak (af ak (af ak aq)))))) aq)))))))
  (aj (aR (i:=5) jT.nd (fD (fJ K) (by rfl) dI tM (af (qv 4) aq)))
  (aj (aR (i:=6) jT.nd (br lD hr (af (qv 1) (af (qv 4) aq))))
  (aj (aR (i:=7) jT.nd (f_ nP hr (qv 6)))
  (aj (aR (i:=8) jT.nd (br nD hr (af (qv 3) aq)))
  (aj (kj (ki (bW.pt (qe (aQ eF (br aW hr (af (qv 0) (af ak (af ak (af ak aq))))) ak (a_ _)) (qU (aQ Al bg (qv 1) (by with_unfolding_all rfl)))))) (aj (bO (bZ iz hr (qv 7) (af bg aq)))
  (ay (bO (kQ lJ nZ n5 ee (di (c9 hr) (qv 8) bg) (af bg aq))))) bJ)
  (aj (fh fX rfl (mF (by rfl) dj (af (br aW hr (af (qv 0) (af ak (af ak (af ak aq))))) aq)) (aU (i:=9) jT.nd) (aj (aR (i:=4) jT.nd (aL K7 (qv 4) (br mT hr (af (qv 0) (af (aL cS ak (qv 9)) (af (qv 3) (af (qv 2) (af ak aq))))))))
  (aj (aR (i:=5) jT.nd (aL K7 (qv 5) (br mT hr (af (qv 0) (af (aL cS ak (qv 9)) (af (qv 8) (af (qv 2) (af ak aq))))))))
  (aj (bO (br ia hr (af (qv 6) (af (aO (cZ K) (qv 4) (Ku DL ak)) aq))))
  (ay (bO (br ia hr (af (qv 7) (af (aO (cZ K) (qv 5) (Ku DL ak)) aq)))))))))
  (aj (aR (i:=10) jT.nd (br je hr (af (br lD hr (af (qv 1) (af (qv 4) aq))) aq)))
  (aj (aR (i:=11) jT.nd (br je hr (af (br lD hr (af (di (c9 hr) (qv 8) bg) (af (qv 5) aq))) aq)))
  (aj (cN (bW.pt (BS (aQ (BH K hr.units) (br je hr (af (qv 6) aq)) (qv 10) (a_ _)) (yk (aQ (BH K hr.units) (br je hr (af (qv 7) aq)) (qv 11) (a_ _))))) (ay (bh xh)) bJ)
  (aj (bO (br m8 hr (af (qv 6) aq)))
  (aj (bO (br m8 hr (af (qv 7) aq)))
  (aj (cN (bW.pt (BS (aQ (BH K hr.units) (br je hr (af (qv 6) aq)) (qv 10) (a_ _)) (yk (aQ (BH K hr.units) (br je hr (af (qv 7) aq)) (qv 11) (a_ _))))) (ay (bh xh)) bJ)
  (aj (cN (AR (vD (br kW hr (af (qv 7) (af (di (c9 hr) (qv 8) bg) (af (aO (cZ K) (qv 1) ak) aq)))))) (ay (bh xh)) bJ)
  (ay (bh (br kW hr (af (f_ nP hr (f_ nP hr (qv 6))) (af (di (c9 hr) (qv 3) bg) (af (aO (cZ K) (qv 1) ak) aq)))))))))))))))))))))))),?_⟩
 refine⟨_,Z,_,Z,cY hS h63 (by decide) (by decide) (by decide) (by decide) λod _ o0 o1=>⟨_,_,Z,Z,?_⟩⟩;obtain⟨no,hno⟩:∃no:Nat,1+od=(no:Int):=⟨(1+od).toNat,by omega⟩
 refine HN hno hS h63 (by decide) (by omega) λzo nso H1 g1 hzo _ ams adD adE=>?_;have YJ:=g1.seq hS;refine⟨_,Z,HN (show(6:Int)=((6:Nat):Int)from rfl) YJ h63 (by decide) (by decide) λzn nsn H2 g2 hzn _ amt adF adG=>?_⟩;have Nh:=g2.seq YJ;have Xs:=g2 _ _ hzo;rw[ZN]at Xs hzn;have gf:=Qg nso;have hnl:=Qg nsn;have jV:=Ia adD;have SH:=Uq adE;have nmN:=Ia adF;have ajk:=Uq adG;generalize Ej nso=own at *;generalize Ej nsn=nms at *;clear adD adE adF adG hzo;have fS0:=vC.of Nh;have fN0:=vC.of (aG.of (K:=K) hzn);have fO0:=vC.of (aG.of (K:=K) Xs);refine⟨_,Z,⟨⟨zo,own,1,λ_=>none,Z,aG.of Xs,(λb c e=>by cases e),by omega,λρ3 B3 H3 G3 Bm k3=>?_⟩⟩⟩;have F3:Fr 1 (λ_=>none) H2 ρ3 H3:=λb o e _=>k3 b o e;have IW:=fS0.go F3.out;have Nq:=fN0.go F3.out;have IZ:=fO0.go F3.out;have Bo:∀o∈own,isNm o=true:=λo ho=>(SH o ho).isNm;have gw:=Yk jV (by omega) (by omega) Bo;have Q2:=uT own;have nx0:Nx nms (cA own):=acj nmN (λx hx=>(ajk x hx).isNm);rw[<-W7]at Bm;have Bm:bH 1 ρ3 B3 H3 (dD (cA own)):=Bm;refine⟨_,Z,_,Z,_,Z,_,Z,cY (IW _ _ (aJ.refl _)) h63 (by decide) (by decide) (by decide) (by decide) λmd _ m0 m1=>⟨_,_,Z,Z,?_⟩⟩;obtain⟨BM,afL⟩:∃BM:Nat,1+md=(BM:Int):=⟨(1+md).toNat,by omega⟩
 rw[afL];refine⟨⟨1,0,0,ρ3,B3,cA own,a,zn,ns,4,nms,BM,Z,G3,Bm,gw,by omega,by omega,by rw[Q2];omega,IW,h63,by decide,by decide,Nq,nx0,by omega,λl zs ds ρ6 B6 H6 G6 Vn em6 F6 hl6 cl6 hD hC hdl Vo=>?_⟩⟩;have fS6:=IW.go F6.out;have Vp:=IZ.go F6.out;have fN6:=Nq.go F6.out;clear IW Nq IZ Bm gw nx0 F6 k3 F3 fS0 fN0 fO0 Q2;refine⟨_,Z,l,_,Z,.inl (aG.of hl6),λl2 hl2=>?_⟩;have g7:=aE hl2 (.lst zs);have e7:upd H6 l2 (.lst zs) l2=some (.lst zs):=ah;have cl2:ρ6 l2=none:=G6.none hl2;have hl7:=g7 _ _ hl6;have G7:=G6.same g7;have Nr:=Vn.mono g7;have hD7:=hD.mono g7.tups;have o7:aJ (out ρ6 H6) (out ρ6 (upd H6 l2 (.lst zs))):=vg g7;have fS7:=fS6.go o7;have Q5:=Vp.go o7;have fN7:=fN6.go o7;show i9 _ _ _ _ (upd H6 l2 (.lst zs));generalize upd H6 l2 (.lst zs)=H7 at *;clear Vn hD fS6 Vp fN6 o7 g7 hl6 G6 hl2;refine⟨_,Z,_,Z,⟨⟨0,ρ6,zo,l,own,zs,ds,Z,G7,Q5,(λρ' H' s=>(aG.of (K:=K) hl7).outs cl6 s),hD7,hC.toG,jV,by omega,by omega,Bo,by omega,λρ8 A8 H8 qp gw8 ow8 mo8 an8 F8=>?_⟩⟩⟩;have YN:=Nr.other F8 G7 (by decide);have fS8:=fS7.go F8.out;have YO:=Q5.go F8.out;have fN8:=fN7.go F8.out;obtain⟨hl8,cl8⟩:=bF (F8.out _ _ (cD hl7 cl6));obtain⟨h28,adO⟩:=bF (F8.out _ _ (cD e7 cl2));have hD8:iF H8 zs ds:=hD7.mono (fE G7 F8.out);clear Nr fS7 Q5 fN7 F8 hl7 e7 hD7 G7 cl6 cl2;refine⟨_,Z,A8.a,A8.dx,_,Z,qp.h.oa,Z,⟨⟨0,2,ρ8,A8,bz (cA own) ds,Z,by decide,qp,λρ9 C9 H9 ES k9=>?_⟩⟩⟩;have Vf:=qp.other (k9.fr (n:=2)) ES.g (by decide);have EI:=YN.other (k9.fr (n:=2)) qp.g (by decide);have o9:aJ (out ρ8 H8) (out ρ9 H9):=(k9.fr (n:=2)).out;obtain⟨hl9,cl9⟩:=bF (o9 _ _ (cD hl8 cl8));obtain⟨h29,adP⟩:=bF (o9 _ _ (cD h28 adO));have hD9:iF H9 zs ds:=hD8.mono (fE qp.g o9);have hpl:(dD (bz (cA own) ds)).ai.length<=1000:=by show(bD (bz (cA own) ds)).length<=1000;unfold bD;rw[aF];exact gw8.wf.kM
 refine⟨_,Z,⟨⟨1,3,ρ9,B6,_,by rw[em6];rfl,by decide,ES.g,EI,hpl,λρA DA HA GA hdA kA=>?_⟩⟩⟩;have hhA:=Vf.other (kA.fr (n:=3)) GA (by decide);have YQ:=ES.other (kA.fr (n:=3)) GA (by decide);have hbA:=EI.other (kA.fr (n:=3)) ES.g (by decide);have oA:aJ (out ρ9 H9) (out ρA HA):=(kA.fr (n:=3)).out;obtain⟨hlA,clA⟩:=bF (oA _ _ (cD hl9 cl9));obtain⟨h2A,Xu⟩:=bF (oA _ _ (cD h29 adP));have YR:iF HA zs ds:=hD9.mono (fE ES.g oA);have YS:=fS8.go (o9.trans oA);have YT:=YO.go (o9.trans oA);have fNA:=fN8.go (o9.trans oA);clear qp Vf YN EI ES hl8 hl9 h28 h29 hD8 hD9 fS8 YO fN8 k9 kA o9 oA cl8 cl9 adO adP;have kn8:=gw8.kn;have chg:=hC.toG;have amu:ds.length<=4:=by omega
 clear hC;have twN:isNm "twinned"=true:=by decide +kernel
 have skip:Xk T K a zo zn B3.m A8.a C9.a DA.m ns own own nms 0 [some (.ref a),some (.ref zo),some (.ref zn),some (.ref B3.m),some (.ref l),some (.ref l2),some (.ref A8.a),some (.ref C9.a),some (.ref DA.m),none,none,none] HA:=⟨ρA,A8,C9,B6,DA,_,_,ds,ds,l,l2,zs,zs,⟨_,Z⟩,hhA,Z,iZ.refl _,YQ,Z,(iZ.refl _).set 0,hbA,em6,hdA,Z,hlA,clA,YR,chg,h2A,Xu,YR,chg,Vo,Vo,by omega,fm _,by omega,by omega,YS,YT,fNA⟩
 refine⟨λσ' H'=>∃jw:Da Str,(jw.Nodup/\0<jw.length/\jw.length<=10/\(∀o∈jw,isNm o=true)/\∀o∈own,o∈jw)/\Xk T K a zo zn B3.m A8.a C9.a DA.m ns own jw nms 0 σ' H',?_,?_⟩
 .refine ⟨decide (Jm.draw ns 0 2 2=1/\("twinned":Str)∉own),⟨_,Z,cY (YS _ _ (aJ.refl _)) h63 (by decide) (by decide) (by decide) (by decide) λld hld l0 l1=>⟨Z,_,Z,dF (λcc=>?_) (λcc=>?_)⟩⟩,dF (λcc=>?_) (λ_=>⟨own,⟨jV,by omega,by omega,Bo,λ_ h=>h⟩,skip⟩)⟩
  .have e1:Jm.draw ns 0 2 2=1:=by rw[<-hld];exact V.int.inj (eE cc)
   refine⟨_,Z,zo,_,Z,.inl (YT _ _ (aJ.refl _)),Z,w6 _,_,Z,?_,Z⟩;show(!DP (.str "twinned") (own.map V.str))=_;rw[LC];by_cases h:("twinned":Str)∈own
   .rw [bL h,c8 (λz=>z.2 h)];rfl
   .rw [c8 h,bL ⟨e1,h⟩];rfl
  .refine ⟨?_,Z⟩;have e1:Jm.draw ns 0 2 2≠1:=λe=>cc (bL (by rw[hld,e]));exact(c8 (λz=>e1 z.1)).symm
  clear skip;obtain⟨_,hno⟩:=eE cc;have ajl:("twinned":Str)∉(bz (cA own) ds).own:=by rw[ow8];exact hno
  refine⟨_,Z,C9.a,C9.dx,_,Z,YQ.h.oa,Z,⟨⟨2,ρA,C9,_,"twinned",Z,YQ,twN,ajl,by show(bz (cA own) ds).own.length<100;rw[ow8];omega,λρB CB HB Nt ecB FB=>?_⟩⟩⟩;have hhB:=hhA.other FB Nt.g (by decide);have hbB:=hbA.other FB GA (by decide);have Vq:=hdA.other FB GA (by decide);have oB:=FB.out;obtain⟨hlB,clB⟩:=bF (oB _ _ (cD hlA clA));obtain⟨h2B,ajm⟩:=bF (oB _ _ (cD h2A Xu));have hDB:iF HB zs ds:=YR.mono (fE GA oB);have fSB:=YS.go oB;have fOB:=YT.go oB;have fNB:=fNA.go oB;refine⟨_,Z,DA.m,_,Z,dS.k (k:=Sum.inr "owners") Vq.om,.inl ⟨Z,_,aG.of Vq.oo⟩,DA.lo,_,_,Z,Z,Vq.oo,by rw[aF,show(dD (bz (cA own) ds)).own=own from ow8];exact dw (by omega),?_⟩;rw[show(dD (bz (cA own) ds)).own.map V.str++[V.str "twinned"]=((bz (cA own) ds).own++[("twinned":Str)]).map V.str from by rw[b8];rfl];have hdC:=Xi Vq Nt.g ((bz (cA own) ds).own++[("twinned":Str)]);have GC:=Nt.g.wr (a:=DA.lo) (o:=.lst (((bz (cA own) ds).own++[("twinned":Str)]).map V.str)) rfl;have FC:Fr 3 ρB HB ρB (upd HB DA.lo (.lst (((bz (cA own) ds).own++[("twinned":Str)]).map V.str))):=Fr.write Vq.co;rw[<-U8]at hdC;obtain⟨cm1,cm2⟩:=aac (w:="twinned") chg jV (by omega) (by omega) Bo (by omega);rw[<-cm2]at hdC;have hhC:=hhB.other FC GC (by decide);have hcC:=Nt.other FC GC (by decide);have hbC:=hbB.other FC Nt.g (by decide);have oC:=FC.out;obtain⟨hlC,clC⟩:=bF (oC _ _ (cD hlB clB));obtain⟨h2C,ajn⟩:=bF (oC _ _ (cD h2B ajm));refine⟨own++[("twinned":Str)],⟨Fx.mpr ⟨jV,by simp,λx hx y hy e=>hno (by rw[eO.mp hy]at e;rw[<-e];exact hx)⟩,by rw[cX];exact Nat.succ_pos _,by rw[cX];show own.length+1<=10;omega,λo ho=>?_,λo ho=>yv _ ho⟩,?_⟩
  .rcases fW.mp ho with h|h
   .exact Bo o h
   .rw [eO.mp h];exact twN
  refine⟨ρB,A8,CB,B6,DA,_,_,ds,ds,l,l2,zs,zs,⟨_,Z⟩,hhC,Z,iZ.refl _,hcC,ecB,by rw[cm2];exact(iZ.refl (aV (bz (cA own) ds) "twinned")).set 0,hbC,em6,hdC,Z,hlC,clC,hDB.mono (fE Nt.g oC),chg,h2C,ajn,hDB.mono (fE Nt.g oC),cm1,Vo,by rw[cm2];exact Vo.keep rfl,by omega,fm _,by omega,by omega,fSB.go oC,fOB.go oC,fNB.go oC⟩
 clear skip hhA YQ hbA hdA GA hlA clA h2A Xu YR YS YT fNA kn8 gw8 mo8 an8 Vo chg;rintro σ HA ⟨jw,⟨o2N,o2p,o2l,o2I,o2s⟩,iv⟩;have iv0:=iv;obtain⟨ρA,A1,C1,B1,D1,x1,y1,pF,nL,z1,z2,v1,v2,⟨s9,rfl⟩,hx,ea,Bp,hy,ec,Bq,hb,em,hd,ed,hz1,Nu,I0,Nv,hz2,Ny,I_,Nz,EW,Vr,knx,kny,dl1,dl2,fS,fO,fN⟩:=iv;refine⟨_,Z,cY (fS _ _ (aJ.refl _)) h63 (by decide) (by decide) (by decide) (by decide) λdd _ dd0 dd1=>⟨_,Z,by omega,by omega,?_⟩⟩;clear hx Bp hy Bq hb hd hz1 Nu I0 Nv hz2 Ny I_ Nz EW Vr knx kny dl1 dl2 fS fO fN ea ec em ed;refine mq (lo:=0) (n:=dd.toNat) (λi σ H'=>Xk T K a zo zn B3.m A8.a C9.a DA.m ns own jw nms i σ H') iv0 ?_ ?_
 .rintro i σ H1 hi ⟨ρ1,A1,C1,B1,D1,x1,y1,pF,nL,z1,z2,v1,v2,⟨s9,rfl⟩,hx,ea,Bp,hy,ec,Bq,hb,em,hd,ed,hz1,Nu,I0,Nv,hz2,Ny,I_,Nz,EW,Vr,knx,kny,dl1,dl2,fS,fO,fN⟩;have e0:(0:Int)+(i:Int)=((i:Nat):Int):=by omega
  rw[e0];have G1:=hx.g;obtain⟨E1,YU,_,_⟩:=Nv.gw jV (by omega) (by omega) Bo (by omega);obtain⟨E3,Vs,_,_⟩:=Nz.gw o2N o2p (by omega) o2I (by omega);refine⟨_,Z,_,Z,_,Z,_,_,Z,Z,_,Z,_,Z,⟨⟨1,pF.length,100*pF.length,ρ1,B1,_,a,zn,ns,10+(i:Int),nms,1,by rw[em];rfl,G1,hb,E1,by omega,by omega,by rw[YU];omega,fS,h63,by omega,by omega,fN,EW,by omega,λlc vc dc ρ2 B2 H2 G2 hb2 Nc F2 hlc clc hDc hCc hdc nxc=>?_⟩⟩⟩;obtain⟨ad7,ajo⟩:=bF (F2.out _ _ (cD hz1 Nu));obtain⟨ad8,ad9⟩:=bF (F2.out _ _ (cD hz2 Ny));have v1l:=I0.length;have v2l:=I_.length;have vcl:=hDc.length;refine⟨z1,lc,_,_,Z,Z,ad7,hlc,yF (dw (by omega)),λp1 hp1=>?_⟩;have g3:=aE hp1 (.lst (v1++vc));have ep3:upd H2 p1 (.lst (v1++vc)) p1=some (.lst (v1++vc)):=ah;have cp1:ρ2 p1=none:=G2.none hp1;have G3:=G2.same g3;have Vt:=(hx.other F2 G2 (by decide)).mono g3;have Vu:=(hy.other F2 G2 (by decide)).mono g3;have Bm:=hb2.mono g3;have MP:=(hd.other F2 G1 (by decide)).mono g3;have o3:aJ (out ρ1 H1) (out ρ2 (upd H2 p1 (.lst (v1++vc)))):=F2.out.trans (vg g3);have hDa:=(I0.mono (fE G1 o3)).app (hDc.mono g3.tups);have hDb:=I_.mono (fE G1 o3);have NB:=g3 _ _ ad8;have IW:=fS.go o3;have IZ:=fO.go o3;have Nq:=fN.go o3;show pP 4 (.ref p1) _ (upd H2 p1 (.lst (v1++vc))) _;generalize upd H2 p1 (.lst (v1++vc))=H3 at *;clear hx hy hb hd hz1 hz2 fS fO fN I0 I_ hb2 o3 F2 ad7 ajo ad8 G2 g3 hlc clc Nu Ny G1;refine⟨_,Z,_,Z,_,Z,_,_,Z,Z,_,Z,_,Z,⟨⟨3,nL.length,100*nL.length,ρ2,D1,_,a,zn,ns,20+(i:Int),nms,1,by rw[ed];rfl,G3,MP,E3,by omega,by omega,by rw[Vs];omega,IW,h63,by omega,by omega,Nq,Vr,by omega,λle ve de ρ4 D4 H4 G4 Vd ed4 F4 hle cle hDe hCe hde nxe=>?_⟩⟩⟩;obtain⟨Gr,ajp⟩:=bF (F4.out _ _ (cD ep3 cp1));obtain⟨aea,ajq⟩:=bF (F4.out _ _ (cD NB ad9));have vel:=hDe.length;refine⟨z2,le,_,_,Z,Z,aea,hle,yF (dw (by omega)),λp2 hp2=>?_⟩;have g5:=aE hp2 (.lst (v2++ve));have Yo:upd H4 p2 (.lst (v2++ve)) p2=some (.lst (v2++ve)):=ah;have cp2:ρ4 p2=none:=G4.none hp2;have G5:=G4.same g5;have Np:=(Vt.other F4 G4 (by decide)).mono g5;have YV:=(Vu.other F4 G4 (by decide)).mono g5;have YW:=(Bm.other F4 G3 (by decide)).mono g5;have hd5:=Vd.mono g5;have o5:aJ (out ρ2 H3) (out ρ4 (upd H4 p2 (.lst (v2++ve)))):=F4.out.trans (vg g5);have aeb:=hDa.mono (fE G3 o5);have aec:=(hDb.mono (fE G3 o5)).app (hDe.mono g5.tups);have Gs:=g5 _ _ Gr;have fS5:=IW.go o5;have YX:=IZ.go o5;have fN5:=Nq.go o5;show pP 5 (.ref p2) _ (upd H4 p2 (.lst (v2++ve))) _;generalize upd H4 p2 (.lst (v2++ve))=H5 at *;clear Vt Vu Bm MP IW IZ Nq hDa hDb Vd o5 F4 Gr aea NB G3 G4 g5 hle cle ep3 cp1 ad9 ajq;obtain⟨d1,rfl⟩:∃d,dc=[d] :=by match dc,hdc with|[d],_=>exact⟨d,rfl⟩
  obtain⟨d2,rfl⟩:∃d,de=[d] :=by match de,hde with|[d],_=>exact⟨d,rfl⟩
  obtain⟨t1,rfl⟩:∃t,vc=[.ref t] :=by cases hDc with|cons e t=>cases t;exact⟨_,rfl⟩
  obtain⟨t2,rfl⟩:∃t,ve=[.ref t] :=by cases hDe with|cons e t=>cases t;exact⟨_,rfl⟩
  have ht1:H5 t1=some (.tup d1.v):=by obtain⟨t,d,e1,e2,e3⟩:=aeb.get (i:=v1.length) (x:=.ref t1) (by rw[uV (aK _),rO];rfl);cases e1;rw[v1l,uV (aK _),rO]at e2;cases e2;exact e3
  have YA:H5 t2=some (.tup d2.v):=by obtain⟨t,d,e1,e2,e3⟩:=aec.get (i:=v2.length) (x:=.ref t2) (by rw[uV (aK _),rO];rfl);cases e1;rw[v2l,uV (aK _),rO]at e2;cases e2;exact e3
  obtain⟨q1,q2,q3⟩:=hCc 0 d1 rfl;obtain⟨w1,w2,w3⟩:=hCe 0 d2 rfl;have q1:jb (bz (cA own) pF) d1=none:=q1;have w1:jb (bz (cA jw) nL) d2=none:=w1;obtain⟨gx,_⟩:=Bp.gw E1 (by omega);obtain⟨gy,_⟩:=Bq.gw E3 (by omega);have owx:x1.own=own:=Bp.own.trans YU;have owy:y1.own=jw:=Bq.own.trans Vs;have rx:jb x1 d1=none:=by rw[Bp.ref];exact q1
  have ry:jb y1 d2=none:=by rw[Bq.ref];exact w1
  refine⟨_,Z,_,Z,_,Z,p1,_,_,_,Z,Z,aG.of Gs,K0 _ _,⟨⟨0,pF.length,ρ4,A1,x1,t1,d1,by rw[ea];rfl,dm.of ht1,Np,gx,by omega,by omega,by rw[owx];omega,rx,λρ6 A6 H6 xB ea6 F6=>?_⟩⟩⟩;have Bf:=YV.other F6 xB.g (by decide);have Vn:=YW.other F6 G5 (by decide);have Ve:=hd5.other F6 G5 (by decide);obtain⟨ajr,ajs⟩:=bF (F6.out _ _ (cD Gs ajp));obtain⟨aef,ajt⟩:=bF (F6.out _ _ (cD Yo cp2));have aju:=fE G5 F6.out _ _ YA;refine⟨_,Z,_,Z,_,Z,p2,_,_,_,Z,Z,aG.of aef,K0 _ _,⟨⟨2,nL.length,ρ6,C1,y1,t2,d2,by rw[ec];rfl,dm.of aju,Bf,gy,by omega,by omega,by rw[owy];omega,ry,λρ7 C7 H7 E5 ec7 F7=>?_⟩⟩⟩;obtain⟨Sy,ajv⟩:=bF (F7.out _ _ (cD ajr ajs));obtain⟨ajw,ajx⟩:=bF (F7.out _ _ (cD aef ajt));have o7:=F6.out.trans F7.out;have kx:=Si x1 d1;have ky:=Si y1 d2;have ex:=Bp.do d1;have ey:=Bq.do d2;rw[<-jR]at ex ey;rw[<-Xj]at Vn Ve nxc nxe;exact⟨ρ7,A6,C7,B2,D4,_,_,pF++[d1],nL++[d2],p1,p2,_,_,⟨_,Z⟩,xB.other F7 E5.g (by decide),ea6.trans ea,ex,E5,ec7.trans ec,ey,Vn.other F7 xB.g (by decide),Nc.trans em,Ve.other F7 xB.g (by decide),ed4.trans ed,Sy,ajv,aeb.mono (fE G5 o7),Nv.app hCc.toG,ajw,ajx,aec.mono (fE G5 o7),Nz.app hCe.toG,nxc,nxe,by omega,by omega,by rw[cX];show pF.length+1<=_;omega,by rw[cX];show nL.length+1<=_;omega,fS5.go o7,YX.go o7,fN5.go o7⟩
 clear iv0;rintro σ H1 ⟨ρ1,A1,C1,B1,D1,x1,y1,pF,nL,z1,z2,v1,v2,⟨s9,rfl⟩,hx,ea,Bp,hy,ec,Bq,hb,em,hd,ed,hz1,Nu,I0,Nv,hz2,Ny,I_,Nz,EW,Vr,knx,kny,dl1,dl2,fS,fO,fN⟩;obtain⟨E1,YU,g1m,g1a⟩:=Nv.gw jV (by omega) (by omega) Bo (by omega);obtain⟨E3,Vs,g2m,g2a⟩:=Nz.gw o2N o2p (by omega) o2I (by omega);have pl1:=E1.g.pl;have pl2:=E3.g.pl;have kn1:=E1.kn;have kn2:=E3.kn;have kl1:=E1.g.kl;have kl2:=E3.g.kl;have nk1:=E1.g.nk;have nk2:=E3.g.nk;have pd1:=QK E1.g E1.wf g1m g1a;have QJ:=QK E3.g E3.wf g2m g2a;have px1:x1.ai=(bz (cA own) pF).ai:=by rw[Bp]
 have py1:y1.ai=(bz (cA jw) nL).ai:=by rw[Bq]
 have aeg:x1.nms=(bz (cA own) pF).nms:=by rw[Bp]
 have aeh:y1.nms=(bz (cA jw) nL).nms:=by rw[Bq]
 have owx:x1.own=own:=Bp.own.trans YU;have owy:y1.own=jw:=Bq.own.trans Vs;have ou:aJ (out ρ1 H1) (out (uA 3 ρ1) H1):=aae;have Vv:=U7 (k:=3) hx (by decide);have hyu:=U7 (k:=3) hy (by decide);have hbu:=Xh (k:=3) hb (by decide);have um:=Gf hd.cm;have uo:=Gf hd.co;have uk:=Gf hd.ck;have om:=hd.om;have oo:=hd.oo;have ok:=hd.ok;rw[show(dD (bz (cA jw) nL)).own=jw from Vs]at oo;have aei:=CZ (k:=3) Nu;have aej:=CZ (k:=3) Ny;have fOu:=fO.go ou;generalize uA 3 ρ1=ρu at *;clear hx hy hb hd fS fO fN Nu Ny ou EW Vr;refine⟨_,Z,_,Z,⟨⟨4,ρu,zo,z1,own,v1,pF,Z,Vv.g,fOu,(λρ' H' s=>(aG.of (K:=K) hz1).outs aei s),I0,Nv,jV,by omega,by omega,Bo,by omega,λρ2 E2 H2 Vw _ _ _ _ F2=>?_⟩⟩⟩;refine⟨⟨4,ρ2,E2,_,Z,Vw,by omega,λral kal H3 YY amv F3 Dal=>?_⟩⟩;have o3:aJ (out ρu H1) (out ρ2 H3):=F2.out.trans F3.out;have Vt:=(Vv.other F2 Vw.g (by decide)).other F3 YY.g (by decide);have Vu:=(hyu.other F2 Vw.g (by decide)).other F3 YY.g (by decide);have Bm:=(hbu.other F2 Vv.g (by decide)).other F3 Vw.g (by decide);obtain⟨YZ,um3⟩:=bF (o3 _ _ (cD om um));obtain⟨oo3,uo3⟩:=bF (o3 _ _ (cD oo uo));obtain⟨ok3,uk3⟩:=bF (o3 _ _ (cD ok uk));obtain⟨NB,aen⟩:=bF (o3 _ _ (cD hz2 aej));have aeo:=I_.mono (fE Vv.g o3);have IZ:=fOu.go o3;have G3:=YY.g;rw[ed]at YZ um3;clear Vv hyu hbu om oo ok um uo uk hz1 hz2 aei aej I0 I_ fOu F2 F3 o3 Vw YY;refine⟨_,Z,DA.m,_,Z,dS.k (k:=Sum.inr "owners") YZ,_,Z,⟨⟨5,ρ2,D1.lo,z2,jw,v2,nL,Z,G3,(λρ' H' s=>(aG.of (K:=K) oo3).outs uo3 s),(λρ' H' s=>(aG.of (K:=K) NB).outs aen s),aeo,Nz,o2N,o2p,by omega,o2I,by omega,λρ5 E4 H4 Vx _ _ _ _ F4=>?_⟩⟩⟩;refine⟨⟨5,ρ5,E4,_,Z,Vx,by omega,λrap kap H5 Y0 amw F5 Dap=>?_⟩⟩;have oZ:aJ (out ρ2 H3) (out ρ5 H5):=F4.out.trans F5.out;have oY:aJ (out ρ5 H5) (out ρ5 H5):=aJ.refl _;have Np:=(Vt.other F4 Vx.g (by decide)).other F5 Y0.g (by decide);have YV:=(Vu.other F4 Vx.g (by decide)).other F5 Y0.g (by decide);have YW:=(Bm.other F4 G3 (by decide)).other F5 Vx.g (by decide);have om5:=bF (oZ _ _ (cD YZ um3));have ok5:=bF (oZ _ _ (cD ok3 uk3));have YX:=IZ.go oZ;have G5:=Y0.g;clear Vt Vu Bm YZ um3 oo3 uo3 ok3 uk3 NB aen aeo IZ G3 F4 F5 Vx Y0;have ekX:=Bp;have ekY:=Bq;generalize exX:x1=xX at *;generalize eyY:y1=yY at *;have kX0:xX.kn<=2000:=by omega
 have kY0:yY.kn<=2000:=by omega
 have pX:xX.ai.length<=20:=by rw[px1];omega
 have pY:yY.ai.length<=20:=by rw[py1];omega
 refine⟨_,Z,⟨⟨0,ρ5,A1,xX,by rw[ea];rfl,Np,by omega,λrX kX H6 xB hkX F6 DX=>⟨_,Z,?_⟩⟩⟩⟩;have Bf:=YV.other F6 xB.g (by decide);refine ne_data (n:=8) (DX ρ5 H6 (aJ.refl _)) (by rw[pD ekX];exact Dal ρ5 H6 (oZ.trans F6.out)) (by rw[pD ekX];exact pd1) (by decide) ⟨_,Z,bw ?_⟩;refine⟨_,Z,⟨⟨2,ρ5,C1,yY,by rw[ec];rfl,Bf,by omega,λrY kY H7 E5 hkY F7 DY=>⟨_,Z,?_⟩⟩⟩⟩;have Vy:=xB.other F7 E5.g (by decide);refine ne_data (n:=8) (DY ρ5 H7 (aJ.refl _)) (by rw[pD ekY];exact Dap ρ5 H7 ((oY.trans F6.out).trans F7.out)) (by rw[pD ekY];exact QJ) (by decide) ⟨_,Z,bw ?_⟩;have o7:aJ (out ρ5 H5) (out ρ5 H7):=F6.out.trans F7.out;have Nr:=(YW.other F6 G5 (by decide)).other F7 xB.g (by decide);clear Np YV YW xB Bf F6 F7 DX DY;refine⟨_,Z,⟨⟨0,ρ5,A1,_,by rw[ea];rfl,Vy,by show kX+100*xX.ai.length<=_;omega,λkE HE Y3 hkE FE=>?_⟩⟩⟩;have hkE:kE<=kX+100*xX.ai.length:=hkE;have hyE:=E5.other FE Y3.g (by decide);refine⟨_,Z,⟨⟨2,ρ5,C1,_,by rw[ec];rfl,hyE,by show kY+100*yY.ai.length<=_;omega,λkF HF Y4 hkF FF=>?_⟩⟩⟩;have hkF:kF<=kY+100*yY.ai.length:=hkF;have hxF:=Y3.other FF Y4.g (by decide);have oF:aJ (out ρ5 H7) (out ρ5 HF):=FE.out.trans FF.out;have hbF:=(Nr.other FE Vy.g (by decide)).other FF Y3.g (by decide);have oZ2:=(oZ.trans o7).trans oF;have Vz:aJ (out ρ5 H5) (out ρ5 HF):=o7.trans oF;have Vl:=bF (Vz _ _ (cD om5.1 om5.2));have ok6:=bF (Vz _ _ (cD ok5.1 ok5.2));have Vp:=YX.go Vz;have aev:iZ { xX with kn:=kE } (bz (cA own) pF):=ekX.set kE;have aew:iZ { yY with kn:=kF } (bz (cA jw) nL):=ekY.set kF;have GF:=Y4.g;clear Vy E5 Nr Y3 hyE FE FF oF o7 oZ oY om5 ok5 YX G5;refine⟨_,Z,⟨⟨0,ρ5,A1,_,by rw[ea];rfl,hxF,by show kE+100*xX.ai.length<=_;omega,λrX kX2 H6 xB amx F6 DX=>⟨_,Z,?_⟩⟩⟩⟩;have Bf:=Y4.other F6 xB.g (by decide);refine ne_data (n:=8) (DX ρ5 H6 (aJ.refl _)) (by rw[pD aev];exact Dal ρ5 H6 (oZ2.trans F6.out)) (by rw[pD aev];exact pd1) (by decide) ⟨_,Z,bw ?_⟩;refine⟨_,Z,⟨⟨2,ρ5,C1,_,by rw[ec];rfl,Bf,by show kF+100*yY.ai.length<=_;omega,λrY kY2 H7 E5 amy F7 DY=>⟨_,Z,?_⟩⟩⟩⟩;have Vy:=xB.other F7 E5.g (by decide);refine ne_data (n:=8) (DY ρ5 H7 (aJ.refl _)) (by rw[pD aew];exact Dap ρ5 H7 ((Vz.trans F6.out).trans F7.out)) (by rw[pD aew];exact QJ) (by decide) ⟨_,Z,bw ?_⟩;have o7:aJ (out ρ5 HF) (out ρ5 H7):=F6.out.trans F7.out;have Nr:=(hbF.other F6 GF (by decide)).other F7 xB.g (by decide);have om7:=bF (o7 _ _ (cD Vl.1 Vl.2));have ok7:=bF (o7 _ _ (cD ok6.1 ok6.2));have Q5:=Vp.go o7;clear hxF Y4 hbF xB Bf F6 F7 DX DY Dal Dap Vl ok6 Vp oZ2 Vz;have ow0:own[0]?=some (own[0]'(by omega)):=bu _;generalize own[0]'(by omega)=w0 at ow0;have w0m:w0∈own:=bQ ow0;have aey:(own.map V.str)[0]?=some (.str w0):=by rw[cu,ow0];rfl
 refine⟨_,Z,_,Z,DA.m,_,Z,dS.k (k:=Sum.inr "known") om7.1,_,Z,zo,_,_,_,Z,Z,Q5 _ _ (aJ.refl _),aN aey,⟨⟨2,ρ5,C1,_,D1.lk,(bz (cA jw) nL).nms,w0,by rw[ec];rfl,E5,aG.of ok7.1,λz hz=>⟨nk2 z hz,by show z∈yY.nms;rw[aeh];exact hz⟩,by show w0∈yY.own;rw[owy];exact o2s w0 w0m,by show yY.nms.length<1000;rw[aeh];omega,by show yY.ai.length<1000;omega,λH8 g8=>⟨_,Z,bw ?_⟩⟩⟩⟩;have hx8:=Vy.mono g8;have YN:=Nr.mono g8;have YO:=Q5.go (vg (ρ:=ρ5) g8);refine⟨_,Z,A8.a,A1.dx,_,Z,by rw[<-ea];exact hx8.h.oa,Z,⟨⟨0,6,ρ5,A1,_,by rw[ea];rfl,by decide,hx8,λρ9 A9 H9 h9 k9=>?_⟩⟩⟩;have EI:=YN.other (k9.fr (n:=6)) hx8.g (by decide);have fO9:=YO.go (k9.fr (n:=6)).out;refine⟨A9.a,A9.dx,_,Z,h9.h.oa,Z,⟨⟨6,7,ρ9,A9,_,Z,by decide,h9,λρ10 A10 DZ uy k10=>?_⟩⟩⟩;have aeA:=EI.other (k10.fr (n:=7)) h9.g (by decide);have ajy:=fO9.go (k10.fr (n:=7)).out;have ajz:DZ B3.m=some (.dK (fQ B1)):=by rw[<-em];exact aeA.om
 exact⟨_,Z,B3.m,_,Z,dS.k (k:=Sum.inr "known") ajz,_,Z,zo,_,_,_,Z,Z,ajy _ _ (aJ.refl _),aN aey,⟨⟨7,ρ10,A10,_,B1.lk,(bz (cA own) pF).nms,w0,Z,uy,aG.of aeA.ok,λz hz=>⟨nk1 z hz,by show z∈xX.nms;rw[aeg];exact hz⟩,by show w0∈xX.own;rw[owx];exact w0m,by show xX.nms.length<1000;rw[aeg];omega,by show xX.ai.length<1000;omega,λIG Ys=>q IG⟩⟩⟩
end
def all_mk{l:PySem.W.OpenLaw}{w:World}{K:Fg}{h:Heap}{mg:SO}{fa:Addr}(X:K.In h)(G:h.Ns mainGlobals mg)(hfa:mg "law"=some (.ref fa)){f:Addr}{od an:Option Addr}{sl:Array (Option Value)}{oc kV dc pm cd ct:Value}(a:PySem.W.nsIn K mainGlobals "law"=some (some (.ref f)))(l1:K.lookup f=some ⟨oc,od,.func (PySem.W.fnOf "law" "law" (fj qH) (cV qH) (aD qH) .none kV dc pm an cd ct),sl⟩)(c:PySem.W.codeIn K cd "law"=true)(k:PySem.W.keepIn K (.ref f)=true)(E6:eG K "common_factor" oJ)(VA:eG K "made_of" zJ)(VB:eG K "is_name" zK)(GS:eG K "check_amount" qf)(NC:eG K "check_loss" tV)(ND:eG K "amounts_of" tW)(E7:eG K "factor_of_all" oK)(OQ:eG K "_law_draw" v7)(OR:eG K "_law_name" v9)(NF:eG K "_law_names" uh)(OS:eG K "_law_lite" v_)(OT:eG K "_law_much" wg)(OU:eG K "_law_rows" wk)(OV:eG K "_law_flat" wm)(Dl:eG K "_law_part_deed" ny)(OW:eG K "_law_deed" wu)(VC:eG K "_law_at" zO)(E8:eG K "_law_lite_one" oR)(GU:eG K "_law_lite_do" qA)(NG:eG K "_law_deeds" ur)(GV:eG K "_law_hold_do" qD)(JI:eG K "_law_behind" rJ)(OX:eG K "_law_snap" wC)(B9:eG K "_law_model_twin" mS)(GX:eG K "_law_emptied" qF)(Dm:eG K "_law_all_known" nC)(afM:PySem.W.nsIn K mainGlobals "len"=some none)(aaf:PySem.W.nsIn K mainGlobals "range"=some none)(afN:PySem.W.nsIn K mainGlobals "sum"=some none)(aeB:PySem.W.nsIn K mainGlobals "list"=some none)(afO:PySem.W.nsIn K mainGlobals "zip"=some none)(afP:PySem.W.nsIn K mainGlobals "all"=some none)(afQ:PySem.W.nsIn K mainGlobals "int"=some none)(aeC:PySem.W.nsIn K mainGlobals "bool"=some none)(afR:PySem.W.nsIn K mainGlobals "str"=some none)(aag:PySem.W.nsIn K mainGlobals "tuple"=some none)(afS:PySem.W.nsIn K mainGlobals "abs"=some none)(NH:PySem.W.nsIn K mainGlobals "isinstance"=some none)(afT:PySem.W.nsIn K mainGlobals "min"=some none)(aeD:PySem.W.nsIn K mainGlobals "dict"=some none){SJ:Tok}(VD:PySem.W.nsIn K mainGlobals "LETTERS"=some (some (.str "abcdefghijklmnopqrstuvwxyz" SJ))){cg:Addr}(aah:PySem.W.nsIn K mainGlobals "Hold"=some (some (.ref cg)))(aai:PySem.W.plainGet K cg Str.empty=true)(aaj:PySem.W.hasDictIn K cg=true)(aak:PySem.W.plainOver K cg=true)(aal:PySem.W.findIn K (.ref cg) "__setattr__"=some (some (.builtin "object.__setattr__")))(aam:PySem.W.makesIn K cg=true)(aan:PySem.W.keepIn K (.ref cg)=true)(OY:c_ K cg "__init__" "Hold.__init__" vR)(E9:c_ K cg "place_of" "Hold.place_of" oN)(GY:c_ K cg "part_of" "Hold.part_of" qh)(Dp:c_ K cg "check_new" "Hold.check_new" nu)(NI:c_ K cg "parts" "Hold.parts" tY)(NJ:c_ K cg "whole" "Hold.whole" tZ)(zP:c_ K cg "beyond_common" "Hold.beyond_common" ku)(GZ:c_ K cg "tops_of" "Hold.tops_of" qi)(OZ:c_ K cg "stow" "Hold.stow" vM)(O0:c_ K cg "sign" "Hold.sign" vN)(O1:c_ K cg "load" "Hold.load" vO)(JJ:c_ K cg "shares" "Hold.shares" rB)(JK:c_ K cg "landed" "Hold.landed" rF)(E_:c_ K cg "given_up" "Hold.given_up" oO)(JL:c_ K cg "lessen" "Hold.lessen" rj)(NK:c_ K cg "blend" "Hold.blend" t_)(O2:c_ K cg "cast" "Hold.cast" vS)(NL:c_ K cg "award" "Hold.award" uc)(JM:c_ K cg "mishap" "Hold.mishap" rD)(O3:c_ K cg "rise" "Hold.rise" vV)(O4:c_ K cg "hand" "Hold.hand" vW)(O5:c_ K cg "land" "Hold.land" vX)(NN:c_ K cg "sever" "Hold.sever" ud)(NO:c_ K cg "purse" "Hold.purse" ue)(JN:c_ K cg "roster" "Hold.roster" rE)(O6:c_ K cg "twin" "Hold.twin" v5)(JO:PySem.W.findIn K (.ref cg) "places"=some none)(JP:PySem.W.findIn K (.ref cg) "aboard"=some none)(JQ:PySem.W.findIn K (.ref cg) "ashore"=some none)(NP:PySem.W.findIn K (.ref cg) "names"=some none)(JR:PySem.W.findIn K (.ref cg) "bottom"=some none)(JS:PySem.W.findIn K (.ref cg) "common"=some none)(JT:PySem.W.findIn K (.ref cg) "purses"=some none){i6:Addr}(aao:PySem.W.nsIn K mainGlobals "Part"=some (some (.ref i6)))(Q6:PySem.W.plainGet K i6 Str.empty=true)(Q7:PySem.W.hasDictIn K i6=true)(Q8:PySem.W.plainOver K i6=true)(Q9:PySem.W.findIn K (.ref i6) "__setattr__"=some (some (.builtin "object.__setattr__")))(aap:PySem.W.makesIn K i6=true)(aaq:PySem.W.keepIn K (.ref i6)=true)(O7:c_ K i6 "__init__" "Part.__init__" vL)(O8:c_ K i6 "twin" "Part.twin" vZ)(O9:PySem.W.findIn K (.ref i6) "name"=some none)(NQ:PySem.W.findIn K (.ref i6) "owner"=some none)(NR:PySem.W.findIn K (.ref i6) "worth"=some none)(JU:PySem.W.findIn K (.ref i6) "weight"=some none)(NS:PySem.W.findIn K (.ref i6) "scale"=some none)(SK:PySem.W.findIn K (.ref i6) "row"=some none){fH:Addr}(VE:PySem.W.nsIn K mainGlobals "Bottom"=some (some (.ref fH)))(VF:PySem.W.plainGet K fH Str.empty=true)(VG:PySem.W.hasDictIn K fH=true)(VH:PySem.W.plainOver K fH=true)(VI:PySem.W.findIn K (.ref fH) "__setattr__"=some (some (.builtin "object.__setattr__")))(VJ:PySem.W.makesIn K fH=true)(VL:PySem.W.keepIn K (.ref fH)=true)(JV:c_ K fH "__init__" "Bottom.__init__" qY)(JW:c_ K fH "over" "Bottom.over" rA)(G_:c_ K fH "share" "Bottom.share" qt)(JX:c_ K fH "grow" "Bottom.grow" qZ)(JY:c_ K fH "twin" "Bottom.twin" rG)(Hf:PySem.W.findIn K (.ref fH) "steps"=some none)(Dq:PySem.W.findIn K (.ref fH) "product"=some none)(Hg:PySem.W.findIn K (.ref fH) "known"=some none){gj ie eW:Addr}(SM:PySem.W.nsIn K mainGlobals "BadName"=some (some (.ref gj)))(Xv:PySem.W.nsIn K mainGlobals "Twice"=some (some (.ref ie)))(NT:PySem.W.nsIn K mainGlobals "BadNumber"=some (some (.ref eW)))(SN:PySem.W.excIn K gj [.type "ValueError",.type "Exception",.type "BaseException",.type "object"] "ValueError.__new__"=true)(Xw:PySem.W.excIn K ie [.type "ValueError",.type "Exception",.type "BaseException",.type "object"] "ValueError.__new__"=true)(NU:PySem.W.excIn K eW [.type "ValueError",.type "Exception",.type "BaseException",.type "object"] "ValueError.__new__"=true)(Xx:PySem.W.exmOne K (.ref ie) (.ref ie)=some true)
  :∃fd:FuncData,(∀(s:Shared)(v:Value),BindsTo s fd ⟨[v],[]⟩ [("_law_script",v)])/\∀base:Heap,K.In base->base.Ns mainGlobals mg->ja l.prog w K mg base uw 8 fa fd ["_law_script"] (Kq K):=by
 have e:=hfa.symm.trans (yD X G a)
 cases e
 have afU:=XZ (st:=qH) X G a l1 c k
 have tL:pR K fH:=⟨VF,VG,VH,VI⟩
 have dH:pR K cg:=⟨aai,aaj,aak,aal⟩
 obtain⟨_,_,Fb⟩:=E6.at X G
 obtain⟨_,_,VM⟩:=VA.at X G
 obtain⟨_,_,VN⟩:=VB.at X G
 obtain⟨_,_,Hh⟩:=GS.at X G
 obtain⟨_,_,NV⟩:=NC.at X G
 obtain⟨_,_,NW⟩:=ND.at X G
 obtain⟨_,_,Fc⟩:=E7.at X G
 obtain⟨_,_,O_⟩:=OQ.at X G
 obtain⟨_,_,Pa⟩:=OR.at X G
 obtain⟨_,_,NX⟩:=NF.at X G
 obtain⟨_,_,Pb⟩:=OS.at X G
 obtain⟨_,_,Pc⟩:=OT.at X G
 obtain⟨_,_,Pe⟩:=OU.at X G
 obtain⟨_,_,Pf⟩:=OV.at X G
 obtain⟨_,_,Dr⟩:=Dl.at X G
 obtain⟨_,_,Pg⟩:=OW.at X G
 obtain⟨_,_,VO⟩:=VC.at X G
 obtain⟨_,_,Fd⟩:=E8.at X G
 obtain⟨_,_,Hi⟩:=GU.at X G
 obtain⟨_,_,NY⟩:=NG.at X G
 obtain⟨_,_,Hj⟩:=GV.at X G
 obtain⟨_,_,JZ⟩:=JI.at X G
 obtain⟨_,_,Ph⟩:=OX.at X G
 obtain⟨_,_,B_⟩:=B9.at X G
 obtain⟨_,_,Hl⟩:=GX.at X G
 obtain⟨_,_,Ds⟩:=Dm.at X G
 have cE:=pI X G afM
 have dj:=pI X G aaf
 have kR:=pI X G afN
 have dI:=pI X G aeB
 have jc:=pI X G afO
 have Sv:=pI X G afP
 have amd:=pI X G afQ
 have amb:=pI X G aeC
 have ame:=pI X G afR
 have GN:=pI X G aag
 have amf:=pI X G afS
 have aeE:=pI X G NH
 have xx:=pI X G afT
 have ER:=pI X G aeD
 have A_:=yD X G VD
 obtain⟨_,_,Pj⟩:=OY.made X G aah aam aan
 obtain⟨_,_,Fe⟩:=E9.at dH
 obtain⟨_,_,Ho⟩:=GY.at dH
 obtain⟨_,_,Du⟩:=Dp.at dH
 obtain⟨_,_,NZ⟩:=NI.at dH
 obtain⟨_,_,N1⟩:=NJ.at dH
 obtain⟨_,_,zQ⟩:=zP.at dH
 obtain⟨_,_,Hq⟩:=GZ.at dH
 obtain⟨_,_,Pk⟩:=OZ.at dH
 obtain⟨_,_,Pn⟩:=O0.at dH
 obtain⟨_,_,Po⟩:=O1.at dH
 obtain⟨_,_,J0⟩:=JJ.at dH
 obtain⟨_,_,J1⟩:=JK.at dH
 obtain⟨_,_,Ff⟩:=E_.at dH
 obtain⟨_,_,J3⟩:=JL.at dH
 obtain⟨_,_,N3⟩:=NK.at dH
 obtain⟨_,_,Pp⟩:=O2.at dH
 obtain⟨_,_,N4⟩:=NL.at dH
 obtain⟨_,_,J4⟩:=JM.at dH
 obtain⟨_,_,Pq⟩:=O3.at dH
 obtain⟨_,_,Pr⟩:=O4.at dH
 obtain⟨_,_,Pu⟩:=O5.at dH
 obtain⟨_,_,N5⟩:=NN.at dH
 obtain⟨_,_,N6⟩:=NO.at dH
 obtain⟨_,_,J5⟩:=JN.at dH
 obtain⟨_,_,Pw⟩:=O6.at dH
 obtain⟨_,_,Px⟩:=O7.made X G aao aap aaq
 obtain⟨_,_,Py⟩:=O8.at ⟨Q6,Q7,Q8,Q9⟩
 obtain⟨_,_,J6⟩:=JV.made X G VE VJ VL
 obtain⟨_,_,J7⟩:=JW.at tL
 obtain⟨_,_,Hr⟩:=G_.at tL
 obtain⟨_,_,J8⟩:=JX.at tL
 obtain⟨_,_,J9⟩:=JY.at tL
 have TX:Txt K ⟨cg,i6,fH⟩:=⟨dH,⟨Q6,Q7,Q8,Q9⟩,tL,JO,JP,JQ,NP,JR,JS,JT,O9,NQ,NR,JU,NS,SK,Hf,Dq,Hg⟩
 have Bb:=yD X G SM
 have uU:=yD X G Xv
 have xN:=yD X G NT
 have zL:=qb.of SN
 have De:=qb.of Xw
 have vQ:=qb.of NU
 refine⟨PySem.W.fnOf "law" "law" (fj qH) (cV qH) (aD qH) .none kV dc pm an cd ct,λs v=> .of_eq rfl,λbase _ _=>?_⟩
 have iO:=C3 (P:=l.prog) (w:=w) (base:=base) (mg:=mg) Fb
 have A3:=Su (P:=l.prog) (w:=w) (base:=base) (mg:=mg) VM Sv
 have pG:=Sx VN A3 cE A_
 have l_:=C4 (P:=l.prog) (w:=w) (base:=base) (mg:=mg) (e:=⟨gj,ie,0,0,0,eW,0,0,0,0,0⟩) Hh
 have z_:=Gi NV l_
 have jh:=acC l_
 have mO:=acD z_
 have vU:=Jh (P:=l.prog) (w:=w) (base:=base) (mg:=mg) NW cE
 have qm:=C5 Fc iO
 have q_:=Gk (P:=l.prog) (w:=w) (base:=base) (mg:=mg) J6 TX
 have qj:=MB (P:=l.prog) (w:=w) (base:=base) (mg:=mg) Px TX dI
 have yu:=MJ Pj TX q_
 have ua:=Gn (P:=l.prog) (w:=w) (base:=base) (mg:=mg) J8 TX
 have jI:=Gw J7 TX iO
 have rC:=EN Hr TX jI
 have oS:=BY (P:=l.prog) (w:=w) (base:=base) (mg:=mg) (e:=⟨gj,ie,0,0,0,eW,0,0,0,0,0⟩) Fe TX
 have cQ:=Xc oS
 have iP:=C_ (P:=l.prog) (w:=w) (base:=base) (mg:=mg) (e:=⟨gj,ie,0,0,0,eW,0,0,0,0,0⟩) Ho TX
 have cL:=UZ iP
 have j6:=Ba (e:=⟨gj,ie,0,0,0,eW,0,0,0,0,0⟩) Du TX pG zL Bb De uU
 have Ca:=j6.n
 have jy:=Jl (P:=l.prog) (w:=w) (base:=base) (mg:=mg) NZ TX
 have gW:=Jp (P:=l.prog) (w:=w) (base:=base) (mg:=mg) N1 TX kR
 have fR:=yp (P:=l.prog) (w:=w) (base:=base) (mg:=mg) zQ TX jc
 have fT:=EH (P:=l.prog) (w:=w) (base:=base) (mg:=mg) Hq TX jc
 have lG:=MF (P:=l.prog) (w:=w) (base:=base) (mg:=mg) Pk TX
 have iz:=MG Pn TX pG cE
 have qG:=Jq (e:=⟨gj,ie,0,0,0,eW,0,0,0,0,0⟩) Po TX j6 cQ fR lG qj cE vQ xN
 have xV:=Xe qG
 have qo:=Df (P:=l.prog) (w:=w) (base:=base) (mg:=mg) Ff TX kR jc
 have jH:=Gv (P:=l.prog) (w:=w) (base:=base) (mg:=mg) J3 TX
 have kC:=Js N3 TX qm ua jc
 have xW:=MO Pp TX vU mO cL gW kC qo jH kR
 have rK:=Gy J0 TX cL fT rC jc
 have J_:=GB (e:=⟨gj,ie,0,0,0,eW,0,0,0,0,0⟩) N4 TX oS l_ gW kC cE
 have Hs:=EO (e:=⟨gj,ie,0,0,0,eW,0,0,0,0,0⟩) J4 TX iP z_ jH
 have N7:=Jw (e:=⟨gj,ie,0,0,0,eW,0,0,0,0,0⟩) Pq TX iP l_
 have N8:=Jx (e:=⟨gj,ie,0,0,0,eW,0,0,0,0,0⟩) Pr TX iP oS fT fR
 have N9:=Jy (e:=⟨gj,ie,0,0,0,eW,0,0,0,0,0⟩) Pu TX iP cQ fT rK jc
 have Ka:=GG (e:=⟨gj,ie,0,0,0,eW,0,0,0,0,0⟩) N5 TX iP Ca lG qj
 have wD:=JA N6 TX jI cQ
 have iU:=GI (P:=l.prog) (w:=w) (base:=base) (mg:=mg) J5 TX dI
 have fK:=GK (P:=l.prog) (w:=w) (base:=base) (mg:=mg) J1 TX dI
 have xQ:=MY Py TX qj
 have ug:=GL J9 TX q_ dI
 have nP:=MZ Pw TX yu xQ ug fK dI ER
 have Ht:=UT fK
 have aW:=M5 (P:=l.prog) (w:=w) (base:=base) (mg:=mg) O_ cE dj
 have sy:=M7 (P:=l.prog) (w:=w) (base:=base) (mg:=mg) Pa dj
 have qI:=JE NX aW sy dj
 have xY:=Nb (P:=l.prog) (w:=w) (base:=base) (mg:=mg) Pb dI
 have lI:=Nd Pc aW
 have xR:=Nf Pe aW cE dj dI kR xx
 have xS:=Ng (P:=l.prog) (w:=w) (base:=base) (mg:=mg) Pf GN
 have oQ:=B0 Dr aW lI xR xS cE kR xx
 have xU:=Ni Pg aW lI oQ cE
 have xA:=SG (P:=l.prog) (w:=w) (base:=base) (mg:=mg) VO cE dj
 have qB:=Dj (P:=l.prog) (w:=w) (base:=base) (mg:=mg) Fd
 have rH:=EV Hi xA qB cE dj
 have mT:=JF NY xU rH dj
 have ia:=EY Hj iz xV xW J_ Hs N7 N8 N9 Ka cE dj
 have lD:=GQ JZ yu iz ia
 have je:=Nm Ph jy rK wD iU Ht gW
 have nD:=Bl (P:=l.prog) (w:=w) (base:=base) (mg:=mg) B_ dI
 have m8:=EZ Hl iU jy fK rK
 have kW:=B8 Ds qG Xx uU
 exact adC afU aW qI xY mT lD nP nD iz ia je m8 kW dI dj
def walk{l:PySem.W.OpenLaw}{q:Program}{loose:Da Str}{XP:(Str->Option Value)->Heap->Prop}{YP:World->Heap->Prop}{d:DefRec}{K:Params->Fg}(hn:l.most=some 63)(hdf:d.params.defaults=[])(hY:∀(w:World) (h:Heap),YP w h->(K w.params).In h)(F:∀(w:World) (mg:SO) (fa:Addr) (h:Heap),(K w.params).In h->h.Ns mainGlobals mg->mg d.name=some (.ref fa)->
    ∃fd:FuncData,(∀(s:Shared) (u:Value),BindsTo s fd ⟨[u],[]⟩ [("_law_script",u)])/\∀base:Heap,(K w.params).In base->base.Ns mainGlobals mg->ja l.prog w (K w.params) mg base uw 8 fa fd ["_law_script"] (Kq (K w.params))):
  PySem.W.WalkO q loose XP YP l.row.toRowW d [] (λf vs=>PySem.call f vs):=
 L2.Zn (n:=63) (k:=8) (x:="_law_script") (CX:=λ_=>uw) (sp:=λw=>Kq (K w.params)) hn (by decide) hdf ⟨Z,by decide,by decide⟩ hY F (λ_ _ a ns hl _ hS=>⟨a,ns,Z,hS,hl,λ_=>rfl⟩) λ_ _ _ _ _ z=>z
end Law
end
namespace PySem.W
set_option genInjectivity false
structure Fast:Prop where(tw16454475883058193239 tw15881466094832833909 tw16459306630717741073 tw16871579185659662388 tw5503025022837251472 tw5847174331196042910 tw2911247735143260639 tw12608646807175964531 tw14998843853850912183 tw17861059015485639906 tw14440300630475450518 tw12108008096986301638 tw8437029347997860935 tw13905258592405241320 tw11574212632893122806 tw17160025827154994035 tw7863140799584548387 tw1713194272228645774 tw1027308555242060320 tw3837261181502741702 tw3925636031712706482 tw13956840496261239336 tw15881655309371380230 tw8536387856168729741 tw10126227062101876521 tw5846909236549631063 tw16956219311115396005 tw3301710295489952343 tw12505004285165396513 tw2306180382645938440 tw14690693326178554312 tw13854998457487058680 tw9159177128250500274 tw1439514581937290184 tw5958134813685085024 tw11342567244005288296 tw1934747241531087342 tw14784991325405495129 tw13437527209648718058 tw4567748771177014858 tw14068662850311819865 tw14820890195262078852 tw11633468767574444883 tw15800617590164386526 tw16184205698372673663 tw3514551563869180352 tw5605159006028467195 tw14670376235545363404 tw6309229959204280425 tw14706990258051523366 tw576871207093456489 tw10019514862426084890 tw4985687601685908084 tw15937241632161844112 tw12328252126773441909 tw12109307081868659947 tw16256582146057953487 tw18135966688054578547 tw8414110215214077664 tw8267049276744322136 tw8241725341988634116 tw9255796757179634815 tw3665287287646634528 tw14090818127075048498 tw270882087620704452 tw15593444215651123551 tw1583547942117566865 tw8834364579379046267 tw12707906984349929015 tw1073900510533093866 tw7613373265190235631 tw12216465536237757401 tw547928703181844651 tw7474623460008556328 tw6002151312333828709 tw5582601648667405803 tw11933823108493204729 tw1914002772422162947 tw1432576302491594986 tw6669428673889827758 tw13217397588047406086 tw17013989659457433610 tw7937080369390605480 tw7229010501589362159 tw10571994698488134822 tw17455280254542423354 tw3076195600657813383 tw5914088389778966952 tw11379164005856475045 tw4867768334916767543 tw987928763336498511 tw6308626922073954816 tw17797194614271765794 tw2157348084353594380 tw4937489453582707305 tw13603934739245569620 tw2534103821595193470 tw9693962332025951139 tw9795623881539709960 tw4843236074463527271 tw8811995817017447119 tw18399481002841140487 tw232087067109232438 tw10031532433708920373 tw11124013796030647904 tw16076256792861022411 tw7495524506525936633 tw3119385343193205991 tw15561870664355619036 tw15371909532428244665 tw11445481471987518552 tw2177879686635281896 tw2206287876693751966 tw27108025568534675 tw8865985562933864055 tw16941334408571417399 tw14865428048833988261 tw12269395114771349868 tw5238823654778751576 tw3860526567585177235 tw7098031893956302828 tw6120349076378687570 tw2835331358413296853 tw17507004939108973829 tw4662610797601121677 tw4510160791469281013 tw595694349093692684 tw13373525918121223326 tw17443394596846878701 tw14874010304373196978 tw2310371771056400606 tw11237201031136600335 tw4566594589624465034 tw9521689401279058837 tw15895387894590389177 tw193743699642371394 tw11377945147917461886 tw5395966972866630073 tw6272327975244556354 tw7832486521035099125 tw161920267444489102 tw1418412677779942803 tw15520566302330138777 tw7486903214302703800 tw17323838114814031055 tw18161935754132464485 tw1995007742215403557 tw1576790967035970529 tw16081141718329917061 tw14823997792668535942 tw11797567766106435831 tw5813335995784302016 tw1825554063211922663 tw764893187342099861 tw2572975920823934369 tw773324164183354985 tw5580998938996548935 tw15755829331688050551 tw14856824505454545495 tw17799964285647417439 tw9355429499128757707 tw14485854288074958187 tw10375867876301843084 tw7816183663423997108 tw17820178513008826241 tw17280240036640092251 tw11997077960709748483 tw12858535301982759300 tw14069663277441027680 tw4920747636747204931 tw11548958343757470277 tw1163448886314271887 tw15289772988903261132 tw13400268304535369248 tw4015252270795735614 tw16808589497471598763 tw5654303983240491 tw17648793757930514472 tw16073681578588219880 tw9942182513550234812 tw7654166697263408521 tw9327994465895938864 tw6334060232389669905 tw9694258036349039589 tw16506396619422522744 tw15379124687718738298 tw13296142604812057476 tw2713298604335967454 tw13095806586103311537 tw8850225375122027730 tw7334056787621000086 tw13883115566295771340 tw17876129899417776366 tw9017007980820391258 tw5441322596845116329 tw16681461975076527788 tw18044721921112740511 tw14419609565603887537 tw16218750161201518192 tw3939665593947696974 tw11561171393202022615 tw1353993180126452213 tw14237809912537911254 tw16556559025529831180 tw6506250968337227056 tw5169152797352053153 tw5116971265850102411 tw1442259330027073364 tw8313028014837510985 tw6670617699520179815 tw2838134477935427227 tw13788471052730051656 tw16851122645240050132 tw5464914599259339255 tw2814095533386399767 tw7603524249453584037 tw17787617269959965992 tw15709856605868155169 tw17102544225240696435 tw1316995637006362518 tw10835617916280390505 tw9574336236895048198 tw4314838183783374183 tw4491482007892858742 tw12042928863136750009 tw2488560356907889212 tw5047965533363126416 tw11982102193344041104 tw8451074812629341338 tw13802937027319300496 tw14262629835922258849 tw7883945761699167615 tw13075559153196696243 tw14702586403104626348 tw16570120787247776975 tw12310574612849524979 tw16626961166257589572 tw17689033189997743067 tw6525053169785796273 tw16627420953831727997 tw17456931384589268652 tw18093708453168358912 tw14696084902511250157 tw914559953834655575 tw5540983266593051047 tw1082711616331110562 tw11289150000071822278 tw4748640219727776685 tw2990297593296496648 tw9018480622476934099 tw2056557606766473604 tw3497049796174698661 tw8553046902208769357 tw14852648656230525480 tw10074832845919896115 tw3009648988000208318 tw1891119583722470985 tw10832534766581910333 tw11157355094978155698 tw6213089622530861949 tw10926949725042311505 tw2542889313253654159 tw8507791981004084628 tw6707373910031331096 tw4160458898512415917 tw14117883529529407045 tw1216368064356010989 tw7728950812180918432 tw17660094852844081652 tw15004905446897969717 tw8556257968610210067 tw4855834302116942680 tw14820856144285173360 tw15632227866262423140 tw3102515248660703851 tw15079257858660483028 tw1982060641726610481 tw748335749928523830 tw14260721866452914621 tw3227854186292849518 tw14490174197652286021 tw9900075202108947430 tw7894162997564179651 tw15490615725369727524 tw10586011556280788015 tw13197073541016890511 tw10117584676784650066 tw7987831143256581013 tw17219887656584465652 tw1491299949278655323 tw9684959530389501417 tw13883707784906319953 tw5855544328645975817 tw13366797850752998870 tw18183565608258346583 tw9992590081842469044 tw3944528681543336308 tw16727855740392749212 tw13288157927965008457 tw4112132972653447409 tw5859325631392396193 tw13030639413935163760 tw11434346432295561204 tw3577405995205121271 tw16937836589451450165 tw8948892396907509112 tw12856209419620104885 tw6467511890590029510 tw14763749505000745599 tw4409607125276220177 tw12932840793084121902 tw9702880351936541357 tw15099616748633447458 tw9116550395189674561 tw5306252496986861620 tw126965803175044977 tw18042732857108267971 tw5419951568257092064 tw13394466368531862841 tw4088007819354642718 tw12530201927405437164 tw5475022490876143480 tw5242543254196720058 tw2452517334150358383 tw18050014037686330777 tw17503621869078072232 tw8190031449156496711 tw13830417595095877738 tw14650661083990416193 tw12008215942922329186 tw6480476040801520943 tw10655262461605385255 tw18424198658316936000 tw9226695308564147939 tw11378691259444275696 tw7321599517751706846 tw9457757142537313934 tw117954598534864900 tw5701812887340732757 tw15314358577297146826 tw10718855302560444866 tw1027803688875401668 tw11817107292511586277 tw16635852322046310455 tw4716532165661698974 tw15172704415240194967 tw222965558628049244 tw15928732220650681217 tw12516745276602045663 tw7677920573354144951 tw14579352191576112362 tw3422479010762307030 tw4733397939358261067 tw18273010517538296448 tw13425835236525361362 tw11979983504330237352 tw15269139754459492852 tw11899452741256220162 tw13545042792928793365 tw4147227782371179746 tw10707899910556866816 tw2889539861609409596 tw2261580574863302486 tw1754116039585177642 tw5001372073422993050 tw1061828801956172002 tw374582801411707088 tw6820963614639936250 tw6873012994613146577 tw1809864036075483587 tw5646473788844878869 tw9012096138974875907 tw3754380355076850770 tw9522282044700825808 tw13599508572017481959 tw7181930663224195825 tw5118499385406040275 tw17928278989168257034 tw15353209990483583040 tw7924461025402582094 tw6392758864047217117 tw90616584264773634 tw11194247411543475512 tw1322362133575585455 tw1794910475196000759 tw9741092887958107535 tw1245191573881033773 tw18236097079374343133 tw13681869381788679520 tw7963662755869662790 tw17527280193365367850 tw5456807658504363265 tw3363769477780720345 tw6247018227198134007 tw17790705978945270563 tw11516353716496379519 tw7789320391258664445 tw8057035179322550365 tw14209298985446305774 tw17675073479004160947 tw9513616970996100312 tw3821839476700851463 tw12188148466786895790 tw15317476180968315498 tw225018758273157806 tw6922884272481234537 tw13272153942801842494 tw464713492225208098 tw5655225980775359410 tw12941372713916105887 tw13081254974350281426 tw13201568421527948987 tw13457890852563650769 tw6733360589233878750 tw7189761789320898202 tw15915708110313355721 tw7889500080971413966 tw11068650969680092536 tw2812398078674279272 tw12648950389605384485 tw4112718946810386528 tw11043178503748857085 tw16380374818759955090 tw15598982515509489901 tw5503729743024932504 tw15926279437273065955 tw3503844413192334110 tw1442804059590062965 tw8795940042233653164 tw16360249943557519167 tw14581620696062569371 tw8113127489307703812 tw8628970713848841641 tw15129353583783446148 tw17634074671515543829 tw2608044466283767409 tw5741192361957896559 tw10997931425476412994 tw17374672223118690633 tw2994081770044678350 tw11998159527840669031 tw14765392937682436928 tw9141005640185312126 tw8424596696098596741 tw11524893166143710594 tw4696317514876627719 tw7075915588545109541 tw14600518253351075133 tw2574248946360191515 tw15909001249123024564 tw574641868717227374 tw17329011420782268521 tw17394074323487127676 tw11237862748138080725 tw15167612888046393753 tw17583832460148504724 tw10484443924191063040 tw9038680970100862387 tw17027187230364340901 tw9118792565358380461 tw15543702885413970460 tw12475175846969148741 tw13334627078686271565 tw11121073318226197548 tw8243221126783499639 tw5194365695436412644 tw16011828744166259730 tw17811395840123564226 tw14116711385415696584 tw15307147655344033622 tw12498261575638416881 tw6744841593232026561 tw9822700033137307769 tw17570348359829254435 tw11075124082839452256 tw15667702701766820550 tw1440241928241154816 tw6098422946009527427 tw17937390097030833062 tw9822923095520821558 tw10235065846495627247 tw16789368043041021881 tw333733974762105118 tw7140249414989349482 tw4024460523329927479 tw18014775938404479059 tw10372177448527819625 tw3765387439851991391 tw5071380912950250432 tw1424937814816544554 tw10263418593284780108 tw15764117668147712465 tw14546062130505223093 tw8229776157694988565 tw16041782154450392641 tw10380527762429052745 tw13706865348283243977 tw5309139159839028847 tw2704383779164124788 tw3813643027303650087 tw10014693212027213216 tw3871722395493849455 tw18277649922033630634 tw7696255937698340421 tw3592275289019375638 tw988227331294610398 tw14016865230988568276 tw17515639902415477512 tw7522629893753694979 tw13977638125610532839 tw16056546940063476811 tw12991973167902980501 tw1369127392390394676 tw5939269201482518190 tw15576072182507686879 tw8786856595715538819 tw5327492542815047316 tw1652550648107231479 tw4325327408876241631 tw18341831882444170581 tw1527669615607077742 tw11158806207275366088 tw3678118286914558560 tw7790081572742300632 tw1866224950922305771 tw15813094574214891853 tw6999216809698234779 tw5145678134021400640 tw2875459313624649448 tw15853827718558870141 tw12846528328354451355 tw6342261256667793269 tw10534197464153876389 tw8969190181849973396 tw1294996727011672258 tw17376327351321368937 tw8345263212313372602 tw13930688331132300165 tw15135267680793454817 tw5039472601920410131 tw12485436911054430283 tw1426522052572308062 tw7482757816249676773 tw8424241518868477269 tw16138839048865159282 tw15519039227795613496 tw5950542684962201657 tw2933313064188278955 tw15446436458249215580 tw1406772031705597628 tw6493246863740893420 tw12290256027204922209 tw7824398046464565597 tw708944691593213400 tw1707852159480247215 tw13472302992081584049 tw9227120848793677867 tw16600721945790145094 tw12597553653351064013 tw10233170830654886746 tw9126428047344664167 tw3031379770057514514 tw341738442297505478 tw13273556782096750417 tw10914764715753195147 tw6543729096950583047 tw16463475028987488762 tw8953721762212541843 tw14859424176669686774 tw2218746848062193336 tw18082545502251557185 tw15181390523281469524 tw9033767281451223683 tw15387231898128371438 tw6359803400190240197 tw4744063866654886706 tw5567101533174700544 tw14956723464642161692 tw3732982435514978092 tw990376085631668489 tw9980149052896537160 tw9135286813237640935 tw4575750580704125152 tw3449023651815297774 tw2335179938142354954 tw11961566128855115661 tw10538404925366744472 tw7102620120213859811 tw7021983728511056267 tw3090428528266959212 tw12699464144086050849 tw6625035061855916544 tw16383574359517409296 tw11898857599884492882 tw465308063578494179 tw7213998582576619601 tw783860324484248698 tw728964518226043542 tw12903684417635477108 tw3741170901277340193 tw14587554705010611592 tw396137893960330678 tw210993446915194390 tw10301691893974073824 tw5476828587779242991 tw5766271697802800813 tw11968071618030240635 tw8841703153305096684 tw4645971398834747518 tw8122290251357768061 tw15669101327486428253 tw2214867456967286781 tw9187909432433277296 tw3529707320938138274 tw10080982419448821838 tw3399559369554684285 tw17397502492418054133 tw9541679565408297725 tw13766442901266673741 tw3160924686544377592 tw5771535722884688942 tw17357183892116913123 tw8166170526571886840 tw7067372869718573104 tw3106789165392057007 tw16065011621944551264 tw6355334915921036254 tw5666389946006943196 tw16932626610325544043 tw1737188105031213733 tw17093352103953901474 tw7445841707690054616 tw2931602085149630814 tw9017268548352748588 tw13711489301240045788 tw5821318735559286505 tw16341762569560260982 tw11113083371765864061 tw429318987363688107 tw12385833325515018485 tw2621108102281983234 tw1408362787251799627 tw6544944037673838809 tw11109831876701864306 tw13741956399366162239 tw10109190984061926559 tw1884034559746007303 tw13680443780347503100 tw5529075513482504707 tw2562148297017952245 tw1508120730255454814 tw16025466311394033852 tw16770272443448945683 tw17335341318353955466 tw5724164818717894425 tw12278972066602459571 tw5652328469891709412 tw8833294446227216138 tw15730092194795810250 tw4173206110382259606 tw7589627023031787725 tw15099903407334934220 tw5960461311559938330 tw15756154012552031108 tw4123381539688162553 tw16354716849735252788 tw17044079045215028262 tw7479876787161265792 tw930407232648449800 tw10774368713133527427 tw10758004243497302074 tw10339241775717127014 tw1786948907328221978:True)
end PySem.W
open PySem PySem.W PyProof.Rows
set_option maxRecDepth 100000 in
set_option maxHeartbeats 0 in
theorem PySem.Challenge.cw_jettison_k29_twins_go_apart_holds : PySem.Challenge.rw_jettison_k29_twins_go_apart.Holds := by
 w_on;o_law;k_head;(case hw=>w_witness2)
 k_fill
 refine Law.walk (l:=PySem.Challenge.rw_jettison_k29_twins_go_apart) rfl rfl (fun w h Y=>PySem.W.kIn_of Y) ?F
 case F=>
  intro w mg fa h KX G hmg
  refine' Law.all_mk KX G hmg ?_ ?_ ?_ ?_ ?_ ?_ ?_ ?_ ?_ ?_ ?_ ?_ ?_ ?_ ?_ ?_ ?_ ?_ ?_ ?_ ?_ ?_ ?_ ?_ ?_ ?_ ?_ ?_ ?_ ?_ ?_ ?_ ?_ ?_ ?_ ?_ ?_ ?_ ?_ ?_ ?_ ?_ ?_ ?_ ?_ ?_ ?_ ?_ ?_ ?_ ?_ ?_ ?_ ?_ ?_ ?_ ?_ ?_ ?_ ?_ ?_ ?_ ?_ ?_ ?_ ?_ ?_ ?_ ?_ ?_ ?_ ?_ ?_ ?_ ?_ ?_ ?_ ?_ ?_ ?_ ?_ ?_ ?_ ?_ ?_ ?_ ?_ ?_ ?_ ?_ ?_ ?_ ?_ ?_ ?_ ?_ ?_ ?_ ?_ ?_ ?_ ?_ ?_ ?_ ?_ ?_ ?_ ?_ ?_ ?_ ?_ ?_ ?_ ?_ ?_ ?_ ?_ ?_ ?_ ?_ ?_ ?_
  any_goals first|(refine' L2.eG.of ?a ?l ?c ?k;(case a=>k_is);(case l=>k_is);(case c=>k_is);(case k=>k_is))|(refine' L2.c_.of ?a ?i ?l ?c ?k;(case a=>k_is);(case i=>k_is);(case l=>k_is);(case c=>k_is);(case k=>k_is))|k_is|k_exc|kts_exm
