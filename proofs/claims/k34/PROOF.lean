import PyProof.Rows.All
import Wide.All
import OpenK.AllK
import Wide.FinOn
import Lean
import PyProof.EqAt
import PyProof.EqKinds
import PyProof.TupleCall
import PySem.Challenge.RW_jettison_k34_whole_casts_as_one
set_option Elab.async false
set_option bootstrap.genMatcherCode false
set_option genSizeOf false
set_option genSizeOfSpec false
set_option linter.all false
set_option maxRecDepth 100000
local macro_rules|`(tactic|omega)=>`(tactic|lia)
abbrev Fg:=PySem.W.Frag
abbrev VS:=PySem.Value->PySem.Shared->Prop
abbrev AO:=List (PySem.Addr×PySem.Obj)
abbrev SO:=PySem.Str->Option PySem.Value
set_option autoImplicit true
def VQ:=@PySem.F.slot_dict_valueiterator_next
def Jq:=@Int.mul_le_mul_of_nonneg_left
def VR:=@PySem.wpAny_typeNameOfWhole_keyiter
def VT:=@PySem.wpAny_typeNameOfWhole_valiter
def VU:=@PySem.F.slot_dict_keyiterator_next
def Rj:=@PyProof.Rows.callWith_type1
def uu:=@List.idxOf_lt_length_of_mem
def VW:=@Int.ediv_eq_of_eq_mul_right
def CL:=@List.getElem?_append_right
def kK:=@List.getD_eq_getElem?_getD
def Px:=@PySem.F.slot_tuple_iterator_next
def Py:=@List.length_eraseIdx_of_lt
def ee:=@List.getElem?_eq_some_iff
def zP:=@List.getElem?_append_left
def Pz:=@List.mem_or_eq_of_mem_set
def BL:=@Int.eq_of_mul_eq_mul_left
def bK:=@List.getElem?_eq_getElem
def PB:=@PySem.wpAny_comprehension_free
def PD:=@PySem.wpAny_typeNameOf_keyiter
def PF:=@PySem.wpAny_typeNameOf_valiter
def EA:=@Int.mul_ediv_cancel_left
def nG:=@PySem.F.slot_list_append
def nH:=@PySem.F.type_list_append
def PJ:=@List.getElem?_replicate
def zQ:=@PySem.wpAny_callSpecial?_slot
def lQ:=@PySem.F.plainAttrs_list
def qO:=@List.getElem?_set_self
def cy:=@PySem.Heap.get?_push_of_some
def Jr:=@PySem.Heap.get?_update_other
def nI:=@Option.map_eq_some_iff
def EB:=@List.zipWith_cons_cons
def PK:=@PySem.Calls.callWith_builtin
def zR:=@PyProof.Rows.boot_list
def gv:=@List.mem_append_right
def jW:=@List.length_replicate
def BN:=@PySem.Heap.get?_update_self
def BO:=@List.getElem?_eq_none
def PL:=@PySem.wpAny_isOneOf_valiter
def PM:=@List.getElem?_zipWith
def Js:=@PyProof.Rows.boot_sum
def PN:=@PyProof.Rows.boot_min
def b7:=@List.mem_cons_of_mem
def uS:=@List.mem_append_left
def zS:=@List.getElem?_set_ne
def cC:=@List.mem_of_getElem?
def nJ:=@Bool.and_eq_true_iff
def PO:=@PySem.intBits_le_iff
def zT:=@beq_eq_false_iff_ne
def BP:=@List.filterMap_cons
def eU:=@PySem.Heap.get?_push_size
def yr:=@PySem.mem_of_lookup
def BQ:=@List.replicate_succ
def Jt:=@Bool.or_eq_true_iff
def EC:=@PySem.Heap.SameBut.update
def lR:=@List.length_zipWith
def ED:=@List.filter_eq_self
def pI:=@List.map_congr_left
def xy:=@List.getElem_of_mem
def PR:=@List.flatten_append
def lS:=@Nat.lt_of_lt_of_le
def cN:=@List.mem_cons_self
def PU:=@List.mem_filterMap
def iH:=@Bool.false_ne_true
def Ju:=@PySem.wpAny_Call_Name_kw
def c7:=@List.length_append
def PV:=@Option.isSome_some
def PX:=@PySem.tupleKind_room_in1
def Jv:=@Nat.lt_of_le_of_lt
def eO:=@List.mem_singleton
def zU:=@Int.emod_lt_of_pos
def EE:=@Bool.false_eq_true
def EF:=@PySem.Obj.data_mapFields
def EG:=@PySem.wpAny_setField_rec
def Jw:=@List.set_cons_succ
def PY:=@List.set_cons_zero
def PZ:=@PySem.F.slot_dict_values
def Jx:=@List.zip_cons_cons
def uT:=@of_decide_eq_false
def pJ:=@PySem.W.mg_none_of
def P_:=@PySem.wpAny_pyIter_list
def cK:=@List.getElem?_map
def Qa:=@List.take_sublist
def iI:=@List.size_toArray
def Jy:=@List.flatten_cons
def Jz:=@List.append_assoc
def eF:=@of_decide_eq_true
def JA:=@Nat.lt_succ_of_lt
def xA:=@PySem.wpAny_newObj_type
def EH:=@PySem.wpAny_truthy_bool
def Qc:=@PySem.wpAny_dictEntries
def uU:=@Int.toNat_natCast
def BR:=@List.foldl_append
def JB:=@List.nodup_append
def Qd:=@List.getElem?_inj
def qP:=@Bool.eq_false_iff
def kg:=@List.length_cons
def nK:=@List.length_take
def Qe:=@List.cons_append
def gC:=@List.filter_cons
def xB:=@Nat.le_add_right
def CM:=@beq_self_eq_true
def lW:=@List.lookup_cons
def pK:=@List.all_eq_true
def CN:=@List.getElem_mem
def wm:=@PySem.wpAny_call_entry
def cM:=@List.take_length
def dG:=@decide_eq_false
def fm:=@Option.some.inj
def m7:=@List.mem_filter
def fq:=@List.mem_append
def AV:=@Bool.eq_iff_iff
def aG:=@List.length_map
def AW:=@List.append_nil
def fU:=@List.nodup_cons
def CO:=@List.of_mem_zip
def iA:=@List.length_set
def j7:=@List.foldl_cons
def CP:=@List.nil_append
def uA:=@List.find?_cons
def I_:=@Option.map_some
def bX:=@List.map_append
def pM:=@Int.emod_nonneg
def Ja:=@Int.ediv_nonneg
def Jb:=@List.forIn_cons
def CQ:=@PySem.pushCells_keeps
def Jc:=@PySem.wpAny_dictEpoch
def Jd:=@PySem.F.slot_zip_next
def yt:=@PySem.wpAny_passesOwn
def Je:=@PySem.wpAny_execs_nil
def Jf:=@List.sum_append
def fV:=@PySem.PassesOwn.never
def yu:=@List.mem_range
def kP:=@PySem.Heap.size_push
def bq:=@decide_eq_true
def CS:=@Int.natAbs_mul
def yv:=@List.forIn_nil
def wu:=@PySem.wpAny_fieldsOf
def AX:=@PySem.wpAny_setField
def uB:=@PySem.wpAny_seqItems
def uC:=@List.nodup_nil
def rR:=@Int.mul_nonneg
def fW:=@PySem.boot_len
def i7:=@Nat.lt_irrefl
def b8:=@List.mem_cons
def bz:=@List.map_cons
def CT:=@List.any_cons
def dg:=@List.sum_cons
def yw:=@PySem.wpAny_standAt
def wC:=@PySem.wpAny_holding
def iB:=@Int.mul_assoc
def CU:=@List.map_take
def bR:=@PySem.Heap.lt_size
def d7:=@Nat.ne_of_lt
def f_:=@Nat.le_trans
def CV:=@Nat.le_of_lt
def wD:=@Nat.ne_of_gt
def aZ:=@List.mem_map
def CW:=@Int.ediv_one
def wF:=@List.set_set
def yx:=@Nat.min_self
def gr:=@List.map_map
def AY:=@Nat.sub_self
def pN:=@Int.mul_comm
def wG:=@Int.zero_add
def pO:=@Int.zero_mul
def AZ:=@Int.sub_zero
def uD:=@List.map_set
def rS:=@Sum.inr.inj
def uE:=@Int.mul_one
def aO:=@Nat.le_refl
def fH:=@Nat.zero_le
def j8:=@PySem.sizeLine_eq
def A0:=@Nat.le_succ
def n_:=@PySem.wpAny_field
def kQ:=@Int.le_refl
def wH:=@Int.mul_pos
def wI:=@Int.mul_add
def j9:=@Int.add_mul
def gG:=@PySem.wpAny_mono
def aU:=@PySem.wpAny_pure
def aA:=@PySem.wpAny_bind
def uF:=@beq_iff_eq
def eV:=@congrArg
def pP:=@if_false
def bY:=@Ne.symm
def aC:=@if_pos
def aB:=@if_neg
theorem Z{α:Sort _}{a:α}:a=a:=rfl
namespace L2
open PySem PySem.Spec PyProof.Rows
abbrev Key:=Sum Int Str
def yy:Key->Value->Bool
 | .inl k,v=>Value.isInt k v
 | .inr x,v=>Value.isStrOf x v
def afV(w:World):Key->Int
 | .inl k=>hashInt k
 | .inr x=>hashStr w x
theorem gF:∀{k:Key}{v:Value},yy k v=true->(∃i t,k=Sum.inl i/\v=Value.int i t)\/(∃x t,k=Sum.inr x/\v=Value.str x t)
 | .inl i,v,h=>by obtain⟨t,e⟩:=Value.isInt_shape (k:=i) (v:=v) h;exact .inl ⟨i,t,Z,e⟩
 | .inr x,v,h=>by obtain⟨t,e⟩:=Value.isStrOf_shape (x:=x) (v:=v) h;exact .inr ⟨x,t,Z,e⟩
theorem Rk(i:Int)(t:Tok):yy (.inl i) (.int i t)=true:=by simp[yy,Value.isInt]
theorem Rl(x:Str)(t:Tok):yy (.inr x) (.str x t)=true:=by simp[yy,Value.isStrOf]
theorem YR(a b:Int):decide ((Sum.inl a:Key)=Sum.inl b)=(a==b):=by
 by_cases e:a=b
 .subst e;simp
 .have h:¬ (Sum.inl a:Key)=Sum.inl b:=λq=>e (Sum.inl.inj q);rw[dG h];exact(zT.mpr e).symm
theorem YS(a b:Str):decide ((Sum.inr a:Key)=Sum.inr b)=decide (a=b):=by
 by_cases e:a=b
 .subst e;simp
 .have h:¬ (Sum.inr a:Key)=Sum.inr b:=λq=>e (rS q);rw[dG h,dG e]
theorem YT(a:Int)(b:Str):decide ((Sum.inl a:Key)=Sum.inr b)=false:=dG (λq=>nomatch q)
theorem YU(a:Str)(b:Int):decide ((Sum.inr a:Key)=Sum.inl b)=false:=dG (λq=>nomatch q)
def dj(prog:Program)(w:World):PySem.KeyKind prog w Key where
 is:=yy
 hash:=afV w
 inj:=λv a b ha hb=>by
  rcases gF ha with⟨i,t,rfl,rfl⟩|⟨x,t,rfl,rfl⟩
  .rcases gF hb with⟨j,u,rfl,e⟩|⟨y,u,rfl,e⟩
   .injection e with e1 _;rw[e1]
   .exact nomatch e
  .rcases gF hb with⟨j,u,rfl,e⟩|⟨y,u,rfl,e⟩
   .exact nomatch e
   .injection e with e1 _;rw[e1]
 byValue:=λk v h=>by rcases gF h with⟨i,t,rfl,rfl⟩|⟨x,t,rfl,rfl⟩ <;> rfl
 pyHash:=λhv h=>by
  rcases gF hv with⟨i,t,rfl,rfl⟩|⟨x,t,rfl,rfl⟩
  .exact wpAny_pyHash_int h
  .exact wpAny_pyHash_str h
 eqBool:=λhu hv h=>by
  rcases gF hu with⟨i,t,rfl,rfl⟩|⟨x,t,rfl,rfl⟩
  .rcases gF hv with⟨j,u,rfl,rfl⟩|⟨y,u,rfl,rfl⟩
   .rw [YR]at h;exact wpAny_eqBool_int h
   .rw [YT]at h;exact SeqAt.EqAt.int_str i t y u _ _ _ _ h
  .rcases gF hv with⟨j,u,rfl,rfl⟩|⟨y,u,rfl,rfl⟩
   .rw [YU]at h;exact SeqAt.EqAt.str_int x t j u _ _ _ _ h
   .rw [YS]at h;exact wpAny_eqBool_str h
 «strs»:=λk x t v h=>by
  rcases gF h with⟨i,u,rfl,e⟩|⟨y,u,rfl,e⟩
  .exact nomatch e
  .injection e with e1 _;subst e1;cases v <;> rfl
theorem Qf(prog:Program)(w:World)(k:Key)(v:Value):(dj prog w).is k v=yy k v:=rfl
theorem MK(prog:Program)(w:World)(i:Int)(t:Tok):(dj prog w).is (.inl i) (.int i t)=true:=Rk i t
theorem ML(prog:Program)(w:World)(x:Str)(t:Tok):(dj prog w).is (.inr x) (.str x t)=true:=Rl x t
inductive V where
 | cT|bl (b:Bool)|int (i:Int)|str (x:Str)|Bu (b:Array UInt8)|VX (b:UInt64)|ref (a:Addr)|ty (n:String)
 deriving DecidableEq
def RelV:V->Value->Prop
 | .cT,u=>u=Value.none
 | .bl b,u=>u=Value.bool b
 | .int i,u=>∃t,u=Value.int i t
 | .str x,u=>∃t,u=Value.str x t
 | .Bu b,u=>∃t,u=Value.bytes b t
 | .VX b,u=>∃t,u=Value.float b t
 | .ref a,u=>u=Value.ref a
 | .ty n,u=>u=Value.type n
abbrev Vals:List V->List Value->Prop:=Paired RelV
variable {xs:List V}{us:List Value}
theorem Vals.length(r:Vals xs us):xs.length=us.length:=Paired.length r
theorem Vals.get:∀{xs:List V}{us:List Value}{i:Nat}{x:V},Vals xs us->xs[i]?=some x->∃u,us[i]?=some u/\RelV x u
 | _,_,_,_,.nil,e=>by simp at e
 | _,_,0,_,.cons r _,e=>by simp at e;subst e;exact⟨_,Z,r⟩
 | _,_,i+1,x,.cons _ t,e=>by obtain⟨u,h1,h2⟩:=Vals.get (i:=i) (x:=x) t (by simpa using e);exact⟨u,by simpa using h1,h2⟩
theorem Vals.set{x:V}{u:Value}(r:RelV x u):∀{xs:List V}{us:List Value}(i:Nat),Vals xs us->Vals (xs.set i x) (us.set i u)
 | _,_,_,.nil=> .nil
 | _,_,0,.cons _ t=> .cons r t
 | _,_,i+1,.cons q t=> .cons q (Vals.set r i t)
theorem Vals.append:∀{xs ys:List V}{us ws:List Value},Vals xs us->Vals ys ws->Vals (xs++ys) (us++ws)
 | _,_,_,_,.nil,s=>s
 | _,_,_,_,.cons r t,s=> .cons r (Vals.append t s)
def nL:Option V->Option Value->Prop
 | some v,some u=>RelV v u
 | none,none=>True
 | _,_=>False
def KV{κ:Type}:List (κ×V)->List (κ×Value)->Prop:=Paired λ(p:κ×V)(q:κ×Value)=>p.1=q.1/\RelV p.2 q.2
def kV:Key->V
 | .inl i=> .int i
 | .inr x=> .str x
inductive HO where
 | lst (xs:List V)
 | tup (xs:List V)
 | dK (kvs:List (Key×V))|dT (kvs:List (List Key×V))
 | set (S:Int->Bool) (n:Nat)
 | ins (C dx:Addr) (fs:List (Str×V))
 | own (x:Addr)
 | xd (fs:List (Str×V))
 | met (f x:Addr)
 | xV (lo hi:Int)
 | fu (o:Obj) (u:HO)
 | JC (ps:Array Value)
 | ext (φ:Heap->Prop)
abbrev Hp:=Addr->Option HO
def upd(H:Hp)(a:Addr)(o:HO):Hp:=λb=>if b=a then some o else H b
variable {H:Hp}{a:Addr}{o:HO}
theorem ai:upd H a o a=some o:=by unfold upd;rw[aC rfl]
variable {b:Addr}
theorem ay(h:b≠a):upd H a o b=H b:=by unfold upd;rw[aB h]
theorem lG{u:HO}:upd (upd H a o) a u=upd H a u:=by funext b;unfold upd;split <;> rfl
theorem i8{u:HO}(h:H a=some o)(h':H b=some u)(d:o≠u):a≠b:=by intro e;subst e;rw[h]at h';exact d (fm h')
theorem aD(h:H a=some o)(h':H b=none):a≠b:=by intro e;subst e;rw[h]at h';cases h'
section
variable (P:Program)(w:World)
def fJ(H:Hp)(h:Heap)(a:Addr):HO->Prop
 | .lst xs=>xs.length<=sizeLine/\∃(its:List Value)(n:Nat),Vals xs its/\h.get? a=some { cls:=.type "list",data:=.seq its.toArray n }
 | .tup xs=>xs.length<=sizeLine/\∃its:List Value,Vals xs its/\IsTup h a its.toArray
 | .dK kvs=>kvs.length<=sizeLine/\(a==sysModules)=false/\∃vs,KV kvs vs/\h.DictOf (dj P w) a vs
 | .dT kvs=>kvs.length<=sizeLine/\(a==sysModules)=false/\∃xs:List (List Key×Addr×Value),
     Paired (λ(p:List Key×V)(q:List Key×Addr×Value)=>p.1=q.1/\H q.2.1=some (.tup (p.1.map kV))/\RelV p.2 q.2.2) kvs xs/\
     ∃o es ep,h.get? a=some o/\o.ExactDict/\o.data =.dict es ep/\es.toList=xs.map (entryOfKey (tupleKind (dj P w)))/\(xs.map (·.1)).Nodup
 | .set S n=>h.SetOf (intKind P w) a S n
 | .ins C dx fs=>H dx=some (.own a)/\fs.length<=1000/\dx≠a/\h.get? a=some (PySem.W.instObj C dx)/\
     ∃mA,h.Ns1 dx mA/\(∀f,nL (fs.lookup f) (mA f))/\PySem.Within mA (fs.map (·.1))
 | .own _=>∃o,h.get? a=some o
 | .xd fs=>∃mA,h.Ns1 a mA/\∀f,nL (fs.lookup f) (mA f)
 | .xV lo hi=>∃t u v,h.get? a=some { cls:=.type "range",data:=.fields #[.int lo t,.int hi u,.int 1 v] }
 | .fu o u=>h.get? a=some o/\fJ H h a u
 | .JC ps=>h.get? a=some { cls:=.none,data:=.fields ps }
 | .met f x=>h.get? a=some (PySem.W.methodObj (.ref f) (.ref x))
 | .ext φ=>φ h/\(∃o,h.get? a=some o)/\∀h1 h2:Heap,φ h1->(∀o,h1.get? a=some o->h2.get? a=some o)->φ h2
def ji(H:Hp)(h:Heap):Prop:=∀a o,H a=some o->fJ P w H h a o
end
section
variable {P:Program}{w:World}{H H':Hp}{h h':Heap}{a:Addr}{o:HO}
theorem fJ.lt(x:fJ P w H h a o):a<h.objs.size:=by
 cases o with
 | lst xs=>obtain⟨_,_,_,_,e⟩:=x;exact bR e
 | tup xs=>obtain⟨_,_,_,p⟩:=x;exact p.lt
 | dK kvs=>obtain⟨_,_,_,_,o,_,_,e,_⟩:=x;exact bR e
 | dT kvs=>obtain⟨_,_,_,_,o,_,_,e,_⟩:=x;exact bR e
 | set S n=>obtain⟨o,_,_,_,e,_⟩:=x;exact bR e
 | ins C dx fs=>obtain⟨_,_,_,e,_⟩:=x;exact bR e
 | own y=>obtain⟨_,e⟩:=x;exact bR e
 | xd fs=>obtain⟨_,⟨_,_,_,e,_⟩,_⟩:=x;exact bR e
 | xV lo hi=>obtain⟨_,_,_,e⟩:=x;exact bR e
 | fu ob u=>obtain⟨e,_⟩:=x;exact bR e
 | JC ps=>exact bR (show h.get? a=some _ from x)
 | met f y=>exact bR (show h.get? a=some _ from x)
 | ext φ=>obtain⟨_,⟨_,e⟩,_⟩:=x;exact bR e
theorem Paired.Ub{α β:Type}{F G:α->β->Prop}:∀{l₁:List α}{l₂:List β},Paired F l₁ l₂->(∀a b,F a b->G a b)->Paired G l₁ l₂
 | _,_,.nil,_=> .nil
 | _,_,.cons r t,f=> .cons (f _ _ r) (Paired.Ub t f)
theorem fJ.stay(x:fJ P w H h a o)(k:∀b u,(b=a\/H b=some (.own a))->h.get? b=some u->h'.get? b=some u)(ho:∀b,H b=some (.own a)->H' b=some (.own a))(ht:∀b xs,H b=some (.tup xs)->H' b=some (.tup xs)):fJ P w H' h' a o:=by
 induction o with
 | lst xs=>obtain⟨z,its,n,r,e⟩:=x;exact⟨z,its,n,r,k _ _ (.inl rfl) e⟩
 | tup xs=>obtain⟨z,its,r,ob,e,c⟩:=x;exact⟨z,its,r,ob,k _ _ (.inl rfl) e,c⟩
 | dK kvs=>obtain⟨z,y,vs,r,ob,es,ep,e,c⟩:=x;exact⟨z,y,vs,r,ob,es,ep,k _ _ (.inl rfl) e,c⟩
 | dT kvs=>
   obtain⟨z,y,xs,r,ob,es,ep,e,c⟩:=x
   exact⟨z,y,xs,Paired.Ub r λp q z=>⟨z.1,ht _ _ z.2.1,z.2.2⟩,ob,es,ep,k _ _ (.inl rfl) e,c⟩
 | set S n=>obtain⟨ob,es,ep,t,e,c⟩:=x;exact⟨ob,es,ep,t,k _ _ (.inl rfl) e,c⟩
 | ins C dx fs=>
   obtain⟨d,z,ne,e,mA,⟨od,es,ep,e2,c⟩,r⟩:=x
   exact⟨ho _ d,z,ne,k _ _ (.inl rfl) e,mA,⟨od,es,ep,k _ _ (.inr d) e2,c⟩,r⟩
 | own y=>obtain⟨ob,e⟩:=x;exact⟨ob,k _ _ (.inl rfl) e⟩
 | xd fs=>obtain⟨mA,⟨od,es,ep,e,c⟩,r⟩:=x;exact⟨mA,⟨od,es,ep,k _ _ (.inl rfl) e,c⟩,r⟩
 | xV lo hi=>obtain⟨t,u,v,e⟩:=x;exact⟨t,u,v,k _ _ (.inl rfl) e⟩
 | fu ob u ih=>obtain⟨e,q⟩:=x;exact⟨k _ _ (.inl rfl) e,ih q⟩
 | JC ps=>
   have e:h.get? a=some { cls:=.none,data:=.fields ps }:=x
   show h'.get? a=some { cls:=.none,data:=.fields ps }
   exact k a _ (.inl rfl) e
 | met f y=>
   have e:h.get? a=some (PySem.W.methodObj (.ref f) (.ref y)):=x
   show h'.get? a=some (PySem.W.methodObj (.ref f) (.ref y))
   exact k a _ (.inl rfl) e
 | ext φ=>obtain⟨p,⟨o,e⟩,st⟩:=x;exact⟨st _ _ p λo q=>k _ _ (.inl rfl) q,⟨o,k _ _ (.inl rfl) e⟩,st⟩
theorem ji.lt(x:ji P w H h)(e:H a=some o):a<h.objs.size:=(x a o e).lt
theorem ji.fresh(x:ji P w H h)(e:h.objs.size<=a):H a=none:=by
 cases q:H a with
 | none=>rfl
 | some u=>exact absurd (lS (x.lt q) e) (i7 _)
theorem ji.kept(x:ji P w H h)(k:∀b u,h.get? b=some u->h'.get? b=some u):ji P w H h':=λa o e=>
 (x a o e).stay (λb u _ q=>k b u q) (λ_ q=>q) λ_ _ q=>q
theorem ji.laid(x:ji P w H h)(k:∀b u,h.get? b=some u->h'.get? b=some u)(hp:h.objs.size<=a)(new:fJ P w (upd H a o) h' a o):ji P w (upd H a o) h':=λb u e=>by
 have hn:=x.fresh hp;by_cases hb:b=a
 .subst hb;rw[ai]at e;cases e;exact new
 .rw [ay hb]at e;exact(x b u e).stay (λc v _ q=>k c v q) (λc q=>by rw[ay (aD q hn)];exact q) λc xs q=>by rw[ay (aD q hn)];exact q
end
def Rd(H:Hp)(a:Addr)(u:HO):Prop:=H a=some u\/∃o,H a=some (.fu o u)
variable {P:Program}{h:Heap}
theorem Rd.ok{w:World}{u:HO}(r:Rd H a u)(x:ji P w H h):fJ P w H h a u:=by
 rcases r with r|⟨o,r⟩
 .exact x a u r
 .obtain ⟨_,q⟩:=x a _ r;exact q
def Rm:Option HO->Prop
 | some (.lst _)=>True
 | some (.dK _)=>True
 | some (.dT _)=>True
 | some (.set _ _)=>True
 | some (.ins _ _ _)=>True
 | some (.ext _)=>True
 | _=>False
section
variable {P:Program}{w:World}{H:Hp}{h h':Heap}{x e:Addr}{o':HO}
theorem ji.write(ok:ji P w H h)(mu:Rm (H x))(he:e=x\/H e=some (.own x))(k:∀b u,b≠e->h.get? b=some u->h'.get? b=some u)(Og:∃u,h'.get? e=some u)(new:fJ P w (upd H x o') h' x o'):ji P w (upd H x o') h':=λb u q=>by
 have YV:∀c y,H c=some (.own y)->c≠x:=λc y r z=>by subst z;rw[r]at mu;exact mu
 have afW:∀c xs,H c=some (.tup xs)->c≠x:=λc xs r z=>by subst z;rw[r]at mu;exact mu
 by_cases hb:b=x
 . subst hb;rw[ai]at q;cases q;exact new
 . rw[ay hb]at q
   by_cases JD:b=e
   . have q':H b=some (.own x):=by
      rcases he with z|z
      . exact absurd (JD.trans z) hb
      . rw[JD];exact z
     rw[q]at q';cases q'
     obtain⟨v,hv⟩:=Og
     exact⟨v,by rw[JD];exact hv⟩
   . refine(ok b u q).stay (λc v hc r=>k c v ?_ r) (λc r=>by rw[ay (YV c b r)];exact r) λc xs r=>by rw[ay (afW c xs r)];exact r
     rcases hc with rfl|hc
     . exact JD
     . rintro rfl
       rcases he with z|z
       . exact YV c b hc z
       . rw[hc]at z;cases z;exact hb rfl
end
structure Un(fs ex:List Addr)(H H':Hp)(h h':Heap):Prop where
 keep:∀b o,h.get? b=some o->H b=none->b∉fs->b∉ex->h'.get? b=some o
 slot:∀b o,h.get? b=some o->H b=none->b∈fs->b∉ex->∃sl,h'.get? b=some { o with slots:=sl }
 free:∀b o,h.get? b=some o->H b=none->b∉ex->H' b=none
 there:∀b o,h.get? b=some o->b∉ex->∃o',h'.get? b=some o'
 tups:∀b xs,H b=some (.tup xs)->H' b=some (.tup xs)
 tK:∀b o u,H b=some (.fu o u)->H' b=some (.fu o u)
 xC:∀b ps,H b=some (.JC ps)->∃more,H' b=some (.JC (ps++more))
section
variable {fs fs' ex ex':List Addr}{H H1 H2:Hp}{h h1 h2 h':Heap}{a x e:Addr}{o:HO}
theorem Un.any(u:Un fs ex H H1 h h1)(q:h.get? b=some ob)(n:H b=none)(hx:b∉ex):∃sl,h1.get? b=some { ob with slots:=sl }:=by
 by_cases hb:b∈fs
 .exact u.slot b ob q n hb hx
 .exact ⟨ob.slots,u.keep b ob q n hb hx⟩
theorem Un.kept(k:∀b u,h.get? b=some u->h'.get? b=some u):Un fs ex H H h h':=⟨λb ob q _ _ _=>k b ob q,λb ob q _ _ _=>⟨ob.slots,k b ob q⟩,λ_ _ _ n _=>n,λb ob q _=>⟨ob,k b ob q⟩,λ_ _ q=>q,λ_ _ _ q=>q,λ_ ps q=>⟨#[],by rw[q];simp⟩⟩
theorem Un.refl:Un fs ex H H h h:=Un.kept λ_ _ q=>q
theorem Un.laid(k:∀b u,h.get? b=some u->h'.get? b=some u)(hp:h.objs.size<=a)(hn:H a=none):Un fs ex H (upd H a o) h h' where
 keep:=λb u q _ _ _=>k b u q
 slot:=λb u q _ _ _=>⟨u.slots,k b u q⟩
 free:=λb u q n _=>by rw[ay (d7 (lS (bR q) hp))];exact n
 there:=λb u q _=>⟨u,k b u q⟩
 tups:=λb xs q=>by rw[ay (aD q hn)];exact q
 tK:=λb u xs q=>by rw[ay (aD q hn)];exact q
 xC:=λb ps q=>⟨#[],by rw[ay (aD q hn),q];simp⟩
theorem Un.write(mu:Rm (H x))(he:e=x\/H e=some (.own x))(k:∀b u,b≠e->h.get? b=some u->h'.get? b=some u)(Og:∃u,h'.get? e=some u):Un fs ex H (upd H x o) h h':=by
 have hx:∀b,H b=none->b≠x:=λb n z=>by subst z;rw[n]at mu;exact mu
 have hb:∀b,H b=none->b≠e:=λb n z=>by
  subst z;rcases he with r|r
  .exact hx b n r
  .rw [n]at r;cases r
 have hm:∀b u,H b=some u->¬ Rm (some u)->b≠x:=λb u q nm z=>by subst z;rw[q]at mu;exact nm mu
 refine⟨λb u q n _ _=>k b u (hb b n) q,λb u q n _ _=>⟨u.slots,k b u (hb b n) q⟩,λb u q n _=>by rw[ay (hx b n)];exact n,λb u q _=>?_,
  λb xs q=>by rw[ay (hm b _ q λz=>z)];exact q,λb u xs q=>by rw[ay (hm b _ q λz=>z)];exact q,λb ps q=>⟨#[],by rw[ay (hm b _ q λz=>z),q];simp⟩⟩
 by_cases JD:b=e
 .subst JD;exact Og
 .exact ⟨u,k b u JD q⟩
end
def VY(h:Heap)(H:Hp):List Addr:=(List.range h.objs.size).filter λa=>(H a).isSome
def yz(h:Heap)(H:Hp):Heap:=PySem.W.hideAll h (VY h H)
theorem Rn(h:Heap)(H:Hp):(yz h H).objs.size=h.objs.size:=PySem.W.hideAll_size _ _
theorem Uc{o:Obj}(e:h.get? b=some o)(n:H b=none):(yz h H).get? b=some o:=PySem.W.hideAll_get _ e λhm=>by have q:(H b).isSome=true:=(m7.mp hm).2;rw[n]at q;simp at q
theorem Xc{o:Obj}(e:(yz h H).get? b=some o):h.get? b=some o/\H b=none:=by
 have e':h.get? b=some o:=PySem.W.of_hideAll (VY h H) e;refine⟨e',?_⟩;cases q:H b with
 | none=>rfl
 | some x=>have hm:b∈VY h H:=m7.mpr ⟨yu.mpr (bR e'),by simp[q]⟩;have z:(yz h H).get? b=none:=PySem.W.hideAll_none (VY h H) hm;rw[z]at e;cases e
structure Mod(K:Fg)(mg:SO)(base:Heap):Prop where
 Ro:K.In base
 glob:base.Ns mainGlobals mg
 blt:∃mb,base.Ns builtinsNs mb/\∀x:Str,x ≠ "__name__"->mb x=bootBuiltins x
 nolimit:base.NoLimit
structure Cx where
 prog:Program
 w:World
 K:Fg
 mg:Str->Option Value
 base:Heap
 A:Around
 N:List Str
 s₀:Shared
 H₀:Hp
 env:Env
 outer:List Env
 stack:List Env
 ex:List Addr
 fn:Str->Bool
 calm:Bool
 pn:List (Addr×Obj)
 xe:Value->Shared->Prop
def frs(l:List Env):List Addr:=l.filterMap (·.frame)
abbrev Cx.fs(X:Cx):List Addr:=frs X.outer
def VZ(sc:Scope)(x:Str):Prop:=sc.names.lookup x=some .local\/sc.names.lookup x=some .cell\/sc.names.lookup x=some .free
def Loc(sc:Scope)(x:Str):Prop:=sc.names.lookup x=some .local\/sc.names.lookup x=some .cell
def Look(env:Env)(h:Heap)(m:SO)(x:Str)(u:Value):Prop:=(env.kindOf x=some .local/\m x=some u)\/((env.kindOf x=some .cell\/env.kindOf x=some .free)/\∃c,env.cells.lookup x=some c/\h.IsCell c (some u))
structure Cx.Ok(X:Cx):Prop where
 mod:Mod X.K X.mg X.base
 kind:X.env.scope.kind =.function
 glob:X.env.globals=mainGlobals
 blt:X.env.builtins=builtinsNs
 above:X.s₀.heap.objs.size<=X.env.locals
 inj:∀x y c,X.env.cells.lookup x=some c->X.env.cells.lookup y=some c->x=y
 has:∀x,(X.env.kindOf x=some .cell\/X.env.kindOf x=some .free)->∃c,X.env.cells.lookup x=some c
 fC:∀x c,X.fn x=true->X.env.cells.lookup x=some c->X.s₀.heap.objs.size<=c
 hd:X.calm=true->X.A.handled=none
 frames:X.A.frames=some X.stack
 stk:X.stack=X.outer\/(X.stack=X.env::X.outer/\X.env.frame=some X.env.locals)
 Gf:∀b∈X.ex,b≠X.env.locals/\∀x c,X.env.cells.lookup x=some c->c≠b
 bs:∀b o,X.base.get? b=some o->X.s₀.heap.get? b=some o/\X.H₀ b=none
 Gg:X.base.objs.size<=X.s₀.heap.objs.size
 JE:∀b o,X.base.get? b=some o->b∉X.ex
 BS:∀b∈X.ex,b∉X.fs
 tL:X.s₀.heap.FunFrames X.base X.outer
 JF:∀b∈X.fs,X.H₀ b=none
structure Inv(X:Cx)(pins:AO)(σ:List (Option V))(H:Hp)(s:Shared):Prop where
 ok:X.Ok
 os:s.os=X.s₀.os
 bare:AllBare s.gens
 base:Un X.fs X.ex X.H₀ H X.s₀.heap s.heap
 loc:∃m,s.heap.Ns X.env.locals m/\∀(i:Nat)(x:Str)(v:V),X.N[i]?=some x->σ[i]?=some (some v)->VZ X.env.scope x->∃u,RelV v u/\Look X.env s.heap m x u
 cell:∀x c,X.env.cells.lookup x=some c->∃v,s.heap.IsCell c v
 free:H X.env.locals=none
 oh:∀x c,X.env.cells.lookup x=some c->H c=none
 pin:∀p∈X.pn++pins,s.heap.get? p.1=some p.2/\H p.1=none/\p.1≠X.env.locals/\p.1∉X.fs/\∀v,p.2.data ≠ .cell v
 hok:ji X.prog X.w H s.heap
 len:σ.length=X.N.length
variable {g':Array GenState}{t' i j:Nat}{ch:List Addr}{it:Addr}{N:List Str}{x:Str}{M:Model}{E:VS}{u:Value}{Q:Unit->Shared->Prop}
section
variable {X:Cx}{pins:AO}{σ:List (Option V)}{H H':Hp}{s:Shared}{h':Heap}
theorem Cx.Ok.afX(ok:X.Ok){o:Obj}(e:X.base.get? b=some o):b∉X.fs:=λhb=>by have:=(ok.tL.mem hb).1;rw[e]at this;cases this
theorem Inv.bs(I:Inv X pins σ H s):∀b o,X.base.get? b=some o->s.heap.get? b=some o/\H b=none:=λb o e=>
 ⟨I.base.keep b o (I.ok.bs b o e).1 (I.ok.bs b o e).2 (I.ok.afX e) (I.ok.JE b o e),I.base.free b o (I.ok.bs b o e).1 (I.ok.bs b o e).2 (I.ok.JE b o e)⟩
theorem Inv.bk(I:Inv X pins σ H s):∀b o,X.base.get? b=some o->s.heap.get? b=some o:=λb o e=>(I.bs b o e).1
theorem Inv.mod(I:Inv X pins σ H s):Mod X.K X.mg X.base:=I.ok.mod
theorem Inv.uV(I:Inv X pins σ H s):X.K.In s.heap:=I.ok.mod.Ro.keeps I.bk
theorem Inv.lt(I:Inv X pins σ H s):X.env.locals<s.heap.objs.size:=let⟨_,hn,_⟩:=I.loc;hn.lt
theorem Inv.sz(I:Inv X pins σ H s):X.s₀.heap.objs.size<=s.heap.objs.size:=f_ I.ok.above (CV I.lt)
theorem Inv.afY(I:Inv X pins σ H s)(h:s.heap.objs.size<=a):a∉X.fs:=λhb=>by obtain⟨_,o,ho,_⟩:=I.ok.tL.mem hb;exact absurd (lS (bR ho) (f_ I.sz h)) (i7 _)
theorem Inv.JG(I:Inv X pins σ H s):∀x c,X.env.cells.lookup x=some c->c≠X.env.locals:=λx c e z=>by obtain⟨v,o,ho,hd⟩:=I.cell x c e;obtain⟨m,⟨o',es,ep,ho',hd',_⟩,_⟩:=I.loc;rw[z,ho']at ho;cases ho;rw[hd']at hd;cases hd
theorem Inv.tL(I:Inv X pins σ H s):s.heap.FunFrames X.base X.outer:=by
 have all:∀(l:List Env),(∀b∈frs l,b∈X.fs)->X.s₀.heap.FunFrames X.base l->s.heap.FunFrames X.base l:=by
  intro l
  induction l with
  | nil=>intro _ _;trivial
  | cons env r ih=>intro hs hl;obtain⟨hk,⟨L,o,hf,hn,ho,hd⟩,hr⟩:=hl;have hL:L∈X.fs:=hs L (by unfold frs;rw[BP,hf];exact cN);obtain⟨sl,e⟩:=I.base.slot L o ho (I.ok.JF L hL) hL λz=>I.ok.BS L z hL;exact⟨hk,⟨L,_,hf,hn,e,hd⟩,ih (λb hb=>hs b (by unfold frs;rw[BP,hf];exact b7 _ hb)) hr⟩
 exact all X.outer (λ_ hb=>hb) I.ok.tL
theorem Inv.stack(I:Inv X pins σ H s):s.heap.FunFrames X.base X.stack:=by
 rcases I.ok.stk with e|⟨e,hf⟩
 .rw [e];exact I.tL
 .rw [e];obtain⟨m,hn,_⟩:=I.loc;refine .cons (by rw[I.ok.kind];decide) hf hn ?_ I.tL;exact Heap.get?_none_of_le (f_ I.ok.Gg I.ok.above)
theorem Inv.JH(I:Inv X pins σ H s):∀b∈frs X.stack,b∈X.env.locals::X.fs:=λb hb=>by
 rcases I.ok.stk with e|⟨e,hf⟩
 .rw [e]at hb;exact b7 _ hb
 .rw [e]at hb;unfold frs at hb;rw[BP,hf]at hb;exact hb
theorem Inv.Oh(I:Inv X pins σ H s):∀b∈frs X.stack,H b=none:=λb hb=>by
 rcases b8.mp (I.JH b hb)with e|hb
 .rw [e];exact I.free
 .obtain ⟨_,o,ho,_⟩:=I.ok.tL.mem hb;exact I.base.free b o ho (I.ok.JF b hb) λz=>I.ok.BS b z hb
theorem Inv.step{d':Drawn}(I:Inv X pins σ H s)(hch:∀b∈ch,(b∈X.ex\/X.s₀.heap.objs.size<=b)/\b≠X.env.locals/\(∀x c,X.env.cells.lookup x=some c->c≠b)/\∀p∈X.pn++pins,p.1≠b)(keep:∀b o,b≠X.env.locals->b∉X.fs->b∉ch->s.heap.get? b=some o->H b=none->h'.get? b=some o)(slot:∀b o,b≠X.env.locals->b∈X.fs->b∉ch->s.heap.get? b=some o->H b=none->∃sl,h'.get? b=some { o with slots:=sl })(free:∀b o,b∉ch->s.heap.get? b=some o->H b=none->H' b=none)(there:∀b o,b∉ch->s.heap.get? b=some o->∃o',h'.get? b=some o')(tups:∀b xs,H b=some (.tup xs)->H' b=some (.tup xs))(tK:∀b o u,H b=some (.fu o u)->H' b=some (.fu o u))(xC:∀b ps,H b=some (.JC ps)->∃more,H' b=some (.JC (ps++more)))(ns:∀m,s.heap.Ns X.env.locals m->h'.Ns X.env.locals m)(hok:ji X.prog X.w H' h')(hg:AllBare g'):
  Inv X pins σ H' { s with heap:=h',gens:=g',drawn:=d',toks:=t' }:=by
 have neL:∀b o,X.s₀.heap.get? b=some o->b≠X.env.locals:=λb o e=>d7 (lS (bR e) I.ok.above)
 have V0:∀b o,X.s₀.heap.get? b=some o->b∉X.ex->b∉ch:=λb o e hx hb=>by
  rcases(hch b hb).1 with z|z
  .exact hx z
  .exact absurd (lS (bR e) z) (i7 _)
 have cellK:∀x c,X.env.cells.lookup x=some c->∀v,s.heap.IsCell c v->h'.IsCell c v:=λx c e v ⟨o,ho,hd⟩=>by
  have xW:c∉ch:=λz=>(hch c z).2.2.1 x c e rfl;by_cases hc:c∈X.fs
  .obtain ⟨sl,q⟩:=slot c o (I.JG x c e) hc xW ho (I.oh x c e);exact⟨_,q,hd⟩
  .exact ⟨o,keep c o (I.JG x c e) hc xW ho (I.oh x c e),hd⟩
 refine⟨I.ok,I.os,hg,⟨λb o e n hb hx=>?_,λb o e n hb hx=>?_,λb o e n hx=>?_,λb o e hx=>?_,λb xs e=>tups b xs (I.base.tups b xs e),λb o xs e=>tK b o xs (I.base.tK b o xs e),λb ps e=>?_⟩,?_,λx c e=>?_,?_,λx c e=>?_,λp hp=>?_,hok,I.len⟩
 . exact keep b o (neL b o e) hb (V0 b o e hx) (I.base.keep b o e n hb hx) (I.base.free b o e n hx)
 . obtain⟨sl,e1⟩:=I.base.slot b o e n hb hx
   obtain⟨sl',e2⟩:=slot b _ (neL b o e) hb (V0 b o e hx) e1 (I.base.free b o e n hx)
   exact⟨sl',e2⟩
 . obtain⟨o',e1⟩:=I.base.there b o e hx
   exact free b o' (V0 b o e hx) e1 (I.base.free b o e n hx)
 . obtain⟨o',e1⟩:=I.base.there b o e hx
   exact there b o' (V0 b o e hx) e1
 . obtain⟨m1,e1⟩:=I.base.xC b ps e
   obtain⟨m2,e2⟩:=xC b _ e1
   exact⟨m1++m2,by rw[e2,Array.append_assoc]⟩
 . obtain⟨m,hn,hl⟩:=I.loc
   refine⟨m,ns m hn,λi x v e1 e2 e3=>?_⟩
   obtain⟨u,r,l⟩:=hl i x v e1 e2 e3
   refine⟨u,r,?_⟩
   rcases l with l|⟨k,c,e,z⟩
   . exact .inl l
   . exact .inr ⟨k,c,e,cellK x c e _ z⟩
 . obtain⟨v,z⟩:=I.cell x c e
   exact⟨v,cellK x c e v z⟩
 . obtain⟨m,⟨o,_,_,ho,_⟩,_⟩:=I.loc
   exact free _ o (λz=>(hch _ z).2.1 rfl) ho I.free
 . obtain⟨v,o,ho,hd⟩:=I.cell x c e
   exact free c o (λz=>(hch c z).2.2.1 x c e rfl) ho (I.oh x c e)
 . obtain⟨e,n,ne,nf,d⟩:=I.pin p hp
   have xW:p.1∉ch:=λz=>(hch p.1 z).2.2.2 p hp rfl
   exact⟨keep p.1 p.2 ne nf xW e n,free p.1 p.2 xW e n,ne,nf,d⟩
theorem Inv.un(I:Inv X pins σ H s)(u:Un X.fs [] H H' s.heap h')(hok:ji X.prog X.w H' h'):Inv X pins σ H' { s with heap:=h',toks:=t' }:=by obtain⟨m,⟨o,es,ep,ho,r⟩,_⟩:=id I.loc;obtain⟨sl,hL⟩:=u.any ho I.free (by simp);exact I.step (g':=s.gens) (d':=s.drawn) (ch:=[]) (λ_ z=>nomatch z) (λb o _ hb _ e n=>u.keep b o e n hb (by simp)) (λb o _ hb _ e n=>u.slot b o e n hb (by simp)) (λb o _ e n=>u.free b o e n (by simp)) (λb o _ e=>u.there b o e (by simp)) u.tups u.tK u.xC (λm' hm=>by obtain⟨o',es',xX,ho',r'⟩:=hm;rw[ho]at ho';cases ho';exact⟨_,es',xX,hL,r'⟩) hok I.bare
theorem Inv.call{d':Drawn}(I:Inv X pins σ H s)(u:Un (frs X.stack) ch H H' s.heap h')(hok:ji X.prog X.w H' h')(hg:AllBare g')(hch:∀b∈ch,(b∈X.ex\/X.s₀.heap.objs.size<=b)/\b≠X.env.locals/\(∀x c,X.env.cells.lookup x=some c->c≠b)/\∀p∈X.pn++pins,p.1≠b):
  Inv X pins σ H' { s with heap:=h',gens:=g',drawn:=d',toks:=t' }:=by
 obtain⟨m,⟨o,es,ep,ho,r⟩,_⟩:=id I.loc
 obtain⟨sl,hL⟩:=u.any ho I.free λz=>(hch _ z).2.1 rfl
 exact I.step (ch:=ch) hch (λb o hL hb hc e n=>u.keep b o e n (λz=>(b8.mp (I.JH b z)).elim hL hb) hc) (λb o _ _ hc e n=>u.any e n hc) (λb o hc e n=>u.free b o e n hc) (λb o hc e=>u.there b o e hc) u.tups u.tK u.xC (λm' hm=>by obtain⟨o',es',xX,ho',r'⟩:=hm;rw[ho]at ho';cases ho';exact⟨_,es',xX,hL,r'⟩) hok hg
theorem Inv.turned(I:Inv X pins σ H s)(k:∀b o,b≠it->s.heap.get? b=some o->h'.get? b=some o)(hn:H it=none)(hL:it≠X.env.locals)(h1:it∈X.ex\/X.s₀.heap.objs.size<=it)(h2:∀x c,X.env.cells.lookup x=some c->c≠it)(h3:∀p∈X.pn++pins,p.1≠it):Inv X pins σ H { s with heap:=h',toks:=t' }:=by
 have nit:∀b u,H b=some u->b≠it:=λb u e z=>by rw[z,hn]at e;cases e
 refine I.step (g':=s.gens) (d':=s.drawn) (ch:=[it]) (λb hb=>?_) (λb o _ _ hc e _=>k b o (λz=>hc (by simp[z])) e) (λb o _ _ hc e _=>⟨o.slots,k b o (λz=>hc (by simp[z])) e⟩) (λ_ _ _ _ n=>n)
  (λb o hc e=>⟨o,k b o (λz=>hc (by simp[z])) e⟩) (λ_ _ e=>e) (λ_ _ _ e=>e) (λb ps e=>⟨#[],by rw[e];simp⟩) (λm hm=>?_) (λb u e=>?_) I.bare
 . have e:b=it:=by simpa using hb
   subst e
   exact⟨h1,hL,h2,h3⟩
 . obtain⟨o,es,ep,ho,r⟩:=hm
   exact⟨o,es,ep,k _ o (bY hL) ho,r⟩
 . refine(I.hok b u e).stay (λc v hc q=>k c v ?_ q) (λ_ q=>q) λ_ _ q=>q
   rcases hc with z|z
   . rw[z];exact nit b u e
   . exact nit c _ z
theorem Inv.tok(I:Inv X pins σ H s)(t:Nat):Inv X pins σ H { s with toks:=t }:=I.un (h':=s.heap) (t':=t) Un.refl I.hok
theorem Inv.kept(I:Inv X pins σ H s)(k:∀b u,s.heap.get? b=some u->h'.get? b=some u):Inv X pins σ H { s with heap:=h',toks:=t' }:=I.un (Un.kept k) (I.hok.kept k)
theorem Inv.laid(I:Inv X pins σ H s)(k:∀b u,s.heap.get? b=some u->h'.get? b=some u)(hp:s.heap.objs.size<=a)(new:fJ X.prog X.w (upd H a o) h' a o):Inv X pins σ (upd H a o) { s with heap:=h',toks:=t' }:=I.un (Un.laid k hp (I.hok.fresh hp)) (I.hok.laid k hp new)
theorem Inv.write{x e:Addr}(I:Inv X pins σ H s)(mu:Rm (H x))(he:e=x\/H e=some (.own x))(k:∀b u,b≠e->s.heap.get? b=some u->h'.get? b=some u)(Og:∃u,h'.get? e=some u)(new:fJ X.prog X.w (upd H x o) h' x o):Inv X pins σ (upd H x o) { s with heap:=h',toks:=t' }:=I.un (Un.write mu he k Og) (I.hok.write mu he k Og new)
theorem Inv.Oi{V1:AO}(I:Inv X pins σ H s)(h:∀p∈V1,s.heap.get? p.1=some p.2/\H p.1=none/\p.1≠X.env.locals/\p.1∉X.fs/\∀v,p.2.data ≠ .cell v):Inv X V1 σ H s:=⟨I.ok,I.os,I.bare,I.base,I.loc,I.cell,I.free,I.oh,λp hp=>(fq.mp hp).elim (λz=>I.pin p (uS _ z)) (h p),I.hok,I.len⟩
theorem BU(hN:N.Nodup)(a:N[i]?=some x)(b:N[j]?=some x):i=j:=by obtain⟨h1,e1⟩:=ee.mp a;obtain⟨h2,e2⟩:=ee.mp b;exact(List.getElem_inj hN).mp (e1.trans e2.symm)
theorem Gi{A:Around}{v:V}(I:Inv X pins σ H s)(hN:X.N.Nodup)(hi:X.N[i]?=some x)(hx:Loc X.env.scope x)(r:RelV v u)(h:∀s',Inv X pins (σ.set i (some v)) H s'->(∃a,Heap.SameBut a s.heap s'.heap/\(a=X.env.locals\/X.env.cells.lookup x=some a))->Q () s')(hf:X.fn x=true\/X.env.scope.names.lookup x=some .local:=by first|exact .inl rfl|exact .inr rfl|assumption):wpAny M A (storeName X.env x u) Q E s:=by
 obtain⟨m,hn,hl⟩:=id I.loc
 have hcls:(X.env.scope.kind ==.class || (X.env.scope.kind ==.module && X.env.locals != X.env.globals))=false:=by rw[I.ok.kind];rfl
 have hiσ:i<σ.length:=by rw[I.len];exact(ee.mp hi).1
 have JG:=I.JG
 have tracked:∀{a:Addr}{h':Heap},(∃o,s.heap.get? a=some o/\H a=none)->Heap.SameBut a s.heap h'->ji X.prog X.w H h':=λ{a h'} ha hs b ob e=>by
  obtain⟨_,_,hfree⟩:=ha;refine(I.hok b ob e).stay (λc w' hc q=>(hs.2 c ?_).trans q) (λ_ q=>q) λ_ _ q=>q;rintro rfl;rcases hc with rfl|hc
  .rw [hfree]at e;cases e
  .rw [hfree]at hc;cases hc
 rcases hx with hk|hk
 . refine wpAny_storeName_local hk hn (λh' hn' hs=>?_) hcls
   obtain⟨oL,_,_,hoL,_⟩:=id hn
   refine h _ ⟨I.ok,I.os,I.bare,⟨λb o e n hb hx=>?_,λb o e n hb hx=>?_,I.base.free,λb o e hx=>?_,I.base.tups,I.base.tK,I.base.xC⟩,⟨_,hn',λj y v' e1 e2 e3=>?_⟩,λy c e=>?_,I.free,I.oh,λp hp=>?_,tracked ⟨oL,hoL,I.free⟩ hs,by simpa using I.len⟩ ⟨_,hs,.inl rfl⟩
   . exact(hs.2 b (d7 (lS (bR e) I.ok.above))).trans (I.base.keep b o e n hb hx)
   . obtain⟨sl,e1⟩:=I.base.slot b o e n hb hx
     exact⟨sl,(hs.2 b (d7 (lS (bR e) I.ok.above))).trans e1⟩
   . obtain⟨o',e1⟩:=I.base.there b o e hx
     exact⟨o',(hs.2 b (d7 (lS (bR e) I.ok.above))).trans e1⟩
   . by_cases hj:j=i
     . subst hj
       rw[hi]at e1;cases e1
       rw[qO hiσ]at e2
       cases e2
       exact⟨u,r,.inl ⟨hk,by simp⟩⟩
     . rw[zS (bY hj)]at e2
       obtain⟨u',r',q⟩:=hl j y v' e1 e2 e3
       refine⟨u',r',?_⟩
       rcases q with⟨k,e⟩|⟨k,c,e,z⟩
       . refine .inl ⟨k,?_⟩
         have:y≠x:=λe=>hj (BU hN e1 (e▸hi))
         simp[this,e]
       . exact .inr ⟨k,c,e,z.sameBut hs (JG y c e)⟩
   . obtain⟨w',z⟩:=I.cell y c e
     exact⟨w',z.sameBut hs (JG y c e)⟩
   . obtain⟨e,n,ne,nf,d⟩:=I.pin p hp
     exact⟨(hs.2 p.1 ne).trans e,n,ne,nf,d⟩
 . have hfn:X.fn x=true:=by
    rcases hf with z|z
    . exact z
    . rw[z]at hk;cases hk
   obtain⟨c,hc⟩:=I.ok.has x (.inl hk)
   obtain⟨w',z⟩:=I.cell x c hc
   refine wpAny_storeName_cell I.ok.kind hk hc z (λh' hc' hs=>?_)
   obtain⟨oc,hoc,afZ⟩:=id z
   refine h { s with heap:=h' } ⟨I.ok,I.os,I.bare,⟨λb o e n hb hx=>?_,λb o e n hb hx=>?_,I.base.free,λb o e hx=>?_,I.base.tups,I.base.tK,I.base.xC⟩,⟨m,hn.sameBut hs (bY (JG x c hc)),λj y v' e1 e2 e3=>?_⟩,λy c' e=>?_,I.free,I.oh,λp hp=>?_,tracked ⟨oc,hoc,I.oh x c hc⟩ hs,by simpa using I.len⟩ ⟨c,hs,.inr hc⟩
   . exact(hs.2 b (d7 (lS (bR e) (I.ok.fC x c hfn hc)))).trans (I.base.keep b o e n hb hx)
   . obtain⟨sl,e1⟩:=I.base.slot b o e n hb hx
     exact⟨sl,(hs.2 b (d7 (lS (bR e) (I.ok.fC x c hfn hc)))).trans e1⟩
   . obtain⟨o',e1⟩:=I.base.there b o e hx
     exact⟨o',(hs.2 b (d7 (lS (bR e) (I.ok.fC x c hfn hc)))).trans e1⟩
   . by_cases hj:j=i
     . subst hj
       rw[hi]at e1;cases e1
       rw[qO hiσ]at e2
       cases e2
       exact⟨u,r,.inr ⟨.inl hk,c,hc,hc'⟩⟩
     . rw[zS (bY hj)]at e2
       obtain⟨u',r',q⟩:=hl j y v' e1 e2 e3
       refine⟨u',r',?_⟩
       rcases q with q|⟨k,c',e,z'⟩
       . exact .inl q
       . refine .inr ⟨k,c',e,z'.sameBut hs ?_⟩
         rintro rfl
         exact hj (BU hN e1 (I.ok.inj _ _ _ e hc▸hi))
   . by_cases hcc:c'=c
     . subst hcc;exact⟨_,hc'⟩
     . obtain⟨w2,z2⟩:=I.cell y c' e
       exact⟨w2,z2.sameBut hs hcc⟩
   . obtain⟨e,n,ne,nf,d⟩:=I.pin p hp
     refine⟨(hs.2 p.1 ?_).trans e,n,ne,nf,d⟩
     intro q
     rw[q,hoc]at e
     have q':oc=p.2:=fm e
     exact d w' (by rw[<-q'];exact afZ)
theorem yC{A:Around}{v:V}(I:Inv X pins σ H s)(hN:X.N.Nodup)(hi:X.N[i]?=some x)(hx:Loc X.env.scope x)(r:RelV v u)(h:∀s',Inv X pins (σ.set i (some v)) H s'->Q () s')(hf:X.fn x=true\/X.env.scope.names.lookup x=some .local:=by first|exact .inl rfl|exact .inr rfl|assumption):wpAny M A (storeName X.env x u) Q E s:=
 Gi I hN hi hx r (λs' I' _=>h s' I') hf
theorem Inv.Qg{s':Shared}(I:Inv X pins σ H s)(ho:s'.os=s.os)(u:Un (frs X.stack) ch H H' s.heap s'.heap)(hok:ji X.prog X.w H' s'.heap)(hg:AllBare s'.gens)(hch:∀b∈ch,(b∈X.ex\/X.s₀.heap.objs.size<=b)/\b≠X.env.locals/\(∀x c,X.env.cells.lookup x=some c->c≠b)/\∀p∈X.pn++pins,p.1≠b):Inv X pins σ H' s':=by
 obtain⟨h',g',d',t',o'⟩:=s'
 have e:o'=s.os:=ho
 subst e
 exact I.call (g':=g') (t':=t') (d':=d') u hok hg hch
end
abbrev XK:=Value->Option Addr->Hp->Prop
abbrev St:=List (Option V)
abbrev VK:=V->Hp->Prop
abbrev TE:=St->Hp->VK->Prop
abbrev TT:=St->Hp->(Bool->Hp->Prop)->Prop
abbrev TA:=St->Hp->(List V->Hp->Prop)->Prop
structure Ends where
 nx:St->Hp->Prop
 rt:VK
 bk:St->Hp->Prop:=λ_ _=>False
 ct:St->Hp->Prop:=λ_ _=>False
abbrev TS:=Ends->St->Hp->Prop
def EP(X:Cx)(pins:AO)(σ:St)(Q:VK)(u:Value)(s':Shared):Prop:=∃v H',Inv X pins σ H' s'/\RelV v u/\Q v H'
def TP(X:Cx)(pins:AO)(σ:St)(Q:Bool->Hp->Prop)(b:Bool)(s':Shared):Prop:=∃H',Inv X pins σ H' s'/\Q b H'
def AP(X:Cx)(pins:AO)(σ:St)(Q:List V->Hp->Prop)(us:List Value)(s':Shared):Prop:=∃vs H',Inv X pins σ H' s'/\Vals vs us/\Q vs H'
def SP(X:Cx)(pins:AO)(D:Ends)(f:Flow)(s':Shared):Prop:=match f with
 | .next=>∃σ' H',Inv X pins σ' H' s'/\D.nx σ' H'
 | .brk=>∃σ' H',Inv X pins σ' H' s'/\D.bk σ' H'
 | .cont=>∃σ' H',Inv X pins σ' H' s'/\D.ct σ' H'
 | .ret u=>∃v σ' H',Inv X pins σ' H' s'/\RelV v u/\D.rt v H'
def PE(X:Cx)(e:Expr)(t:TE):Prop:=∀(pins:AO)(s:Shared)(σ:St)(H:Hp)(Q:VK),Inv X pins σ H s->t σ H Q->wpAny (model X.prog X.w) X.A (eval e X.env) (EP X pins σ Q) X.xe s
def PT(X:Cx)(e:Expr)(t:TT):Prop:=∀(pins:AO)(s:Shared)(σ:St)(H:Hp)(Q:Bool->Hp->Prop),Inv X pins σ H s->t σ H Q->wpAny (model X.prog X.w) X.A (isTrue e X.env (eval e X.env)) (TP X pins σ Q) X.xe s
def PW(X:Cx)(e:Expr)(t:TT):Prop:=∀(whole:Sem Value)(pins:AO)(s:Shared)(σ:St)(H:Hp)(Q:Bool->Hp->Prop),Inv X pins σ H s->t σ H Q->wpAny (model X.prog X.w) X.A (isTrue e X.env whole) (TP X pins σ Q) X.xe s
variable {X:Cx}{e:Expr}
theorem PW.pt{t:TT}(h:PW X e t):PT X e t:=h _
def PA(X:Cx)(es:List Expr)(t:TA):Prop:=∀(pos:Pos)(pins:AO)(s:Shared)(σ:St)(H:Hp)(Q:List V->Hp->Prop),Inv X pins σ H s->t σ H Q->wpAny (model X.prog X.w) X.A (spliced (backTo pos (starEach es X.env))) (AP X pins σ Q) X.xe s
def PS(X:Cx)(st:Stmt)(t:TS):Prop:=∀(pins:AO)(s:Shared)(σ:St)(H:Hp)(D:Ends),Inv X pins σ H s->t D σ H->wpAny (model X.prog X.w) X.A (exec st X.env) (SP X pins D) X.xe s
def wJ(X:Cx)(st:List Stmt)(t:TS):Prop:=∀(pins:AO)(s:Shared)(σ:St)(H:Hp)(D:Ends),Inv X pins σ H s->t D σ H->wpAny (model X.prog X.w) X.A (execs st X.env) (SP X pins D) X.xe s
variable {s:Shared}
theorem br{α:Type}{t:Sem α}{Q Q':α->Shared->Prop}{A:Around}(h:wpAny M A t Q E s)(hQ:∀a s,Q a s->Q' a s):wpAny M A t Q' E s:=gG h hQ λ_ _ x=>x
variable {pos:Pos}{pins:AO}{σ:St}
section
variable {X:Cx}
inductive BV(i:Nat)(σ:St)(H:Hp)(Q:VK):Prop
 |mk(v:_)(_:σ[i]?=some (some v))(_:Q v H)
def tC(v:V):TE:=λ_ H Q=>Q v H
theorem YW(hN:X.N[i]?=some x)(hv:VZ X.env.scope x)(hd:(x==("__debug__":Str))=false:=by decide)(hcd:(x==("__classdict__":Str))=false:=by decide):PE X (.Name x pos) (BV i):=by
 intro pins s σ H Q I h;obtain⟨v,e,h⟩:=h;obtain⟨m,hn,hl⟩:=I.loc;obtain⟨u,r,l⟩:=hl i x v hN e hv;have fin:EP X pins σ Q u s:=⟨v,H,I,r,h⟩
 rcases l with⟨hk,hm⟩|⟨hk,c,hc,hcell⟩
 .exact wpAny_Name (wpAny_loadName_local I.ok.kind hk hn hm fin) hd
 .rcases hk with hk|hk
  .exact wpAny_Name (wpAny_loadName_cell I.ok.kind hk hc hcell fin) hd
  .exact wpAny_Name (wpAny_loadName_free I.ok.kind hk hc hcell fin hcd) hd
def Gl(X:Cx)(x:Str):Prop:=X.env.kindOf x=some .globalImplicit
theorem A1{Q:VS}(I:Inv X pins σ H s)(hg:Gl X x)(hm:X.mg x=some u)(h:Q u s)(hd:(x==("__debug__":Str))=false:=by decide):wpAny (model X.prog X.w) X.A (eval (.Name x pos) X.env) Q E s:=
 Calls.Name_function_global I.ok.kind hg (Calls.loadGlobal_global (by rw[I.ok.glob];exact I.mod.glob.keeps I.bk) hm h) hd
theorem xY{Q:VS}(I:Inv X pins σ H s)(hg:Gl X x)(hm:X.mg x=none)(hv:bootBuiltins x=some u)(h:Q u s)(hn:x ≠ "__name__":=by decide)(hd:(x==("__debug__":Str))=false:=by decide):wpAny (model X.prog X.w) X.A (eval (.Name x pos) X.env) Q E s:=by
 obtain⟨mb,h1,h2⟩:=I.mod.blt
 exact Calls.Name_function_global I.ok.kind hg (Calls.loadGlobal_builtin (by rw[I.ok.glob];exact I.mod.glob.keeps I.bk) hm (by rw[I.ok.blt];exact h1.keeps I.bk) ((h2 x hn).trans hv) h) hd
variable {a b:Expr}{ta tb:TE}{pos:Pos}
def PC(X:Cx)(op:CmpOp)(a b:Expr)(t:TE):Prop:=∀(pins:AO)(s:Shared)(σ:St)(H:Hp)(Q:VK),Inv X pins σ H s->t σ H Q->wpAny (model X.prog X.w) X.A (eval a X.env) (λv s₁=>wpAny (model X.prog X.w) X.A (eval b X.env) (λu s₂=>wpAny (model X.prog X.w) X.A (compareOp op v u) (EP X pins σ Q) X.xe s₂) X.xe s₁) X.xe s
inductive yTB(Q:Bool->Hp->Prop)(x:V)(H1:Hp):Prop
 |mk(c:_)(_:x =.bl c)(_:Q c H1)
def tB(t:TE):TT:=λσ H Q=>t σ H (yTB Q)
variable {tA V2:TT}{rest:List Expr}
def aco(u:TT)(σ:St)(Q:Bool->Hp->Prop):Bool->Hp->Prop:=λc H1=>if c=true then u σ H1 Q else Q false H1
def af0(t u:TT):TT:=λσ H Q=>t σ H (aco u σ Q)
def af1(u:TT)(σ:St)(Q:Bool->Hp->Prop):Bool->Hp->Prop:=λc H1=>if c=true then Q true H1 else u σ H1 Q
def tOr(t u:TT):TT:=λσ H Q=>t σ H (af1 u σ Q)
abbrev acp(Q:Bool->Hp->Prop):Bool->Hp->Prop:=λc H1=>Q (!c) H1
def af2(t:TT):TT:=λσ H Q=>t σ H (acp Q)
inductive YX(tb:TE)(σ:St)(Q:VK)(x:V)(H1:Hp):Prop
 |mk(c:_)(_:x =.bl c)(_:if c=true then tb σ H1 Q else Q (.bl false) H1)
def acq(ta tb:TE):TE:=λσ H Q=>ta σ H (YX tb σ Q)
end
def aI(K:Fg)(H:Hp)(a:Addr)(xs:List V):Prop:=Rd H a (.lst xs)\/
  ∃(o:Obj)(its:Array Value)(n:Nat),K.lookup a=some o/\o.cls =.type "list"/\o.dict=none/\o.data =.seq its n/\its.size<=sizeLine/\Vals xs its.toList
def dz(K:Fg)(H:Hp)(a:Addr)(xs:List V):Prop:=Rd H a (.tup xs)\/
  ∃(o:Obj)(its:Array Value)(n:Nat),K.lookup a=some o/\o.cls =.type "tuple"/\o.data =.seq its n/\its.size<=sizeLine/\Vals xs its.toList
def af3:Value->Option V
 | .none=>some .cT
 | .bool b=>some (.bl b)
 | .int i _=>some (.int i)
 | .str x _=>some (.str x)
 | .bytes b _=>some (.Bu b)
 | .float b _=>some (.VX b)
 | .ref a=>some (.ref a)
 | .type n=>some (.ty n)
 | _=>none
theorem RelV.abs{x:V}(r:RelV x u):af3 u=some x:=by
 cases x with
 | cT=>cases r;rfl
 | bl _=>cases r;rfl
 | int _=>obtain⟨t,rfl⟩:=r;rfl
 | str _=>obtain⟨t,rfl⟩:=r;rfl
 | Bu _=>obtain⟨t,rfl⟩:=r;rfl
 | VX _=>obtain⟨t,rfl⟩:=r;rfl
 | ref _=>cases r;rfl
 | ty _=>cases r;rfl
variable {y:V}
theorem RelV.inj{x:V}(r:RelV x u)(q:RelV y u):x=y:=fm (r.abs.symm.trans q.abs)
theorem Vals.inj:∀{xs ys:List V}{us:List Value},Vals xs us->Vals ys us->xs=ys
 | _,_,_,.nil,.nil=>rfl
 | _,_,_,.cons r t,.cons r' t'=>by rw[r.inj r',Vals.inj t t']
variable {K:Fg}
section
variable {X:Cx}{pins:AO}{σ:St}{H:Hp}{s:Shared}{a:Addr}{xs ys:List V}
theorem aI.of(h:H a=some (.lst xs)):aI K H a xs:=.inl (.inl h)
theorem dz.of(h:H a=some (.tup xs)):dz K H a xs:=.inl (.inl h)
theorem Inv.list(I:Inv X pins σ H s)(h:aI X.K H a xs):∃its:List Value,Vals xs its/\PlainL s.heap a its.toArray/\xs.length<=sizeLine:=by
 rcases h with h|⟨o,its,n,hk,hc,hd,hs,hz,r⟩
 .obtain ⟨z,its,n,r,e⟩:=h.ok I.hok;exact⟨its,r,⟨_,n,e,Z,Z,Z⟩,z⟩
 .refine ⟨its.toList,r,⟨o,n,I.uV a o hk,hc,hd,by simpa using hs⟩,?_⟩;have e:=r.length;simp only[Array.length_toList]at e;omega
theorem Inv.tuple(I:Inv X pins σ H s)(h:dz X.K H a xs):∃its:List Value,Vals xs its/\IsTup s.heap a its.toArray/\xs.length<=sizeLine:=by
 rcases h with h|⟨o,its,n,hk,hc,hs,hz,r⟩
 .obtain ⟨z,its,r,p⟩:=h.ok I.hok;exact⟨its,r,p,z⟩
 .refine ⟨its.toList,r,⟨o,I.uV a o hk,hc,n,by simpa using hs⟩,?_⟩;have e:=r.length;simp only[Array.length_toList]at e;omega
theorem Inv.Ud(I:Inv X pins σ H s)(h:aI X.K H a xs)(h':aI X.K H a ys):xs=ys:=by
 obtain⟨its,r,⟨o,n,e,_,_,d⟩,_⟩:=I.list h;obtain⟨its',r',⟨o',n',e',_,_,d'⟩,_⟩:=I.list h';rw[e]at e';cases e';rw[d]at d';injection d' with d1 _;have:its=its':=by simpa using eV Array.toList d1
 subst this;exact r.inj r'
end
abbrev Cx.xD(X:Cx)(E:VS):Cx:={ X with xe:=E }
abbrev Cx.Bv(X:Cx):Cx:=X.xD λ_ _=>False
theorem Cx.Ok.xD(ok:X.Ok)(E:VS):(X.xD E).Ok:=⟨ok.mod,ok.kind,ok.glob,ok.blt,ok.above,ok.inj,ok.has,ok.fC,ok.hd,ok.frames,ok.stk,ok.Gf,ok.bs,ok.Gg,ok.JE,ok.BS,ok.tL,ok.JF⟩
theorem Cx.Ok.sM(ok:(X.xD E).Ok):X.Ok:=⟨ok.mod,ok.kind,ok.glob,ok.blt,ok.above,ok.inj,ok.has,ok.fC,ok.hd,ok.frames,ok.stk,ok.Gf,ok.bs,ok.Gg,ok.JE,ok.BS,ok.tL,ok.JF⟩
variable {D:Ends}
section
variable {X:Cx}{pins:AO}{σ:St}{H:Hp}{s:Shared}{E:VS}
theorem Inv.xD(I:Inv X pins σ H s)(E:VS):Inv (X.xD E) pins σ H s:=⟨I.ok.xD E,I.os,I.bare,I.base,I.loc,I.cell,I.free,I.oh,I.pin,I.hok,I.len⟩
theorem Inv.sM(I:Inv (X.xD E) pins σ H s):Inv X pins σ H s:=⟨I.ok.sM,I.os,I.bare,I.base,I.loc,I.cell,I.free,I.oh,I.pin,I.hok,I.len⟩
theorem SP.sM{f:Flow}{s':Shared}(h:SP (X.xD E) pins D f s'):SP X pins D f s':=by
 cases f with
 | next=>obtain⟨σ',H',I,q⟩:=h;exact⟨σ',H',I.sM,q⟩
 | brk=>obtain⟨σ',H',I,q⟩:=h;exact⟨σ',H',I.sM,q⟩
 | cont=>obtain⟨σ',H',I,q⟩:=h;exact⟨σ',H',I.sM,q⟩
 | ret u=>obtain⟨v,σ',H',I,r,q⟩:=h;exact⟨v,σ',H',I.sM,r,q⟩
theorem wJ.Bv{st:List Stmt}{t:TS}(h:wJ X.Bv st t):wJ X st t:=λpins s σ H D I hw=>
 gG (h pins s σ H D (I.xD _) hw) (λ_ _ q=>q.sM) λ_ _ z=>False.elim z
end
variable {tc:TT}
section
variable {X:Cx}{st:Stmt}{rest:List Stmt}{t u:TS}{e:Expr}{te:TE}{pos:Pos}
def acr:TS:=λD σ H=>D.nx σ H
def Ends.sq(D:Ends)(u:TS):Ends:={ D with nx:=u D }
def Ends.lp(D:Ends)(N:St->Hp->Prop):Ends:={ D with nx:=N,ct:=N,bk:=D.nx }
def iU(t u:TS):TS:=λD σ H=>t (D.sq u) σ H
theorem Inv.quiet(I:Inv X pins σ H s):interactive X.env=false:=by simp[interactive,I.ok.kind]
def Rp(D:Ends)(σ:St):V->Hp->Prop:=λ_ H1=>D.nx σ H1
def acs(te:TE):TS:=λD σ H=>te σ H (Rp D σ)
def af4(te:TE):TS:=λD σ H=>te σ H D.rt
def acu:TS:=λD _ H=>D.rt .cT H
def acv(t:TS)(u:TS)(D:Ends)(σ:St):Bool->Hp->Prop:=λb H1=>if b=true then t D σ H1 else u D σ H1
def YY(c:TT)(t u:TS):TS:=λD σ H=>c σ H (acv t u D σ)
theorem V3{c:Expr}{a b:List Stmt}(hc:PT X c tc)(ha:wJ X a t)(hb:wJ X b u):PS X (.If c a b pos) (YY tc t u):=by
 intro pins s σ H D I h;refine wpAny_If (br (hc pins s σ H _ I h) λd s1 ⟨H1,I1,q1⟩=>?_);cases d with
 | true=>exact ha pins s1 σ H1 D I1 q1
 | false=>exact hb pins s1 σ H1 D I1 q1
def YZ:TS:=λ_ _ _=>False
end
abbrev TG:=V->St->Hp->(St->Hp->Prop)->Prop
abbrev CY:=List V->St->Hp->(St->Hp->Prop)->Prop
def PG(X:Cx)(target:Expr)(t:TG):Prop:=∀(pins:AO)(s:Shared)(σ:St)(H:Hp)(v:V)(u:Value)(Q:St->Hp->Prop),Inv X pins σ H s->RelV v u->t v σ H Q->wpAny (model X.prog X.w) X.A (assign target X.env u) (λ_ s'=>∃σ' H',Inv X pins σ' H' s'/\Q σ' H') X.xe s
def PGs(X:Cx)(ts:List Expr)(t:CY):Prop:=∀(pins:AO)(s:Shared)(σ:St)(H:Hp)(vs:List V)(us:List Value)(Q:St->Hp->Prop),Inv X pins σ H s->Vals vs us->t vs σ H Q->wpAny (model X.prog X.w) X.A (assignInOrder ((assignEach ts X.env).map (·.2)) us) (λ_ s'=>∃σ' H',Inv X pins σ' H' s'/\Q σ' H') X.xe s
abbrev tM:=V->V->V->Hp->(Hp->Prop)->Prop
def Ue(X:Cx)(t:tM):Prop:=∀(pins:AO)(s:Shared)(σ:St)(H:Hp)(o i v:V)(ov iv u:Value)(Q:Hp->Prop),Inv X pins σ H s->RelV o ov->RelV i iv->RelV v u->t o i v H Q->wpAny (model X.prog X.w) X.A (setItem ov iv u) (λ_ s'=>∃H',Inv X pins σ H' s'/\Q H') X.xe s
abbrev JI:=V->V->Hp->VK->Prop
def Y0(X:Cx)(op:Operator)(t:JI):Prop:=∀(pins:AO)(s:Shared)(σ:St)(H:Hp)(x y:V)(v u:Value)(Q:VK),Inv X pins σ H s->RelV x v->RelV y u->t x y H Q->wpAny (model X.prog X.w) X.A (inplaceOp op v u) (EP X pins σ Q) X.xe s
variable {n:Nat}
section
variable {X:Cx}{pos:Pos}
def uG(i:Nat):TG:=λv σ H Q=>Q (σ.set i (some v)) H
inductive Y3(vs:List V)(σ:St)(H:Hp)(Q:St->Hp->Prop):Prop
 |mk(_:vs=[])(_:Q σ H)
def Y4(u:CY)(Q:St->Hp->Prop)(r:List V):St->Hp->Prop:=λσ' H'=>u r σ' H' Q
inductive V4(t:TG)(u:CY)(vs:List V)(σ:St)(H:Hp)(Q:St->Hp->Prop):Prop
 |mk(v r:_)(_:vs=v::r)(_:t v σ H (Y4 u Q r))
inductive zV(K:Fg)(n:Nat)(t:CY)(v:V)(σ:St)(H:Hp)(Q:St->Hp->Prop):Prop
 |mk(a xs:_)(_:v =.ref a)(_:dz K H a xs)(_:xs.length=n)(_:t xs σ H Q)
theorem Y5{es:List Expr}{k:Nat}{t:CY}(hc:X.calm=true)(h:PGs X es t)(hn:(assignEach es X.env).length=n:=by rfl)(hst:(assignEach es X.env).findIdx? (·.1)=none:=by rfl):PG X (.Tuple es k pos) (zV X.K n t):=by
 intro pins s σ H v u Q I r hw
 obtain⟨a,xs,e1,hq,hl,hw⟩:=hw
 subst e1
 cases r
 obtain⟨its,rv,ht,hz⟩:=I.tuple hq
 refine assign_Tuple_tuple (I.ok.hd hc) ht (by simp[hn,<-hl,rv.length]) hst λh' hx=>?_
 have I1:Inv X pins σ H { s with heap:=h' }:=I.kept (t':=s.toks) λb o e=>hx b o (d7 (bR e)) e
 exact h pins _ σ H xs _ Q I1 (by simpa using rv) hw
def Xd(σ:St)(Q:St->Hp->Prop):Hp->Prop:=λH3=>Q σ H3
def Xe(t:tM)(v:V)(σ:St)(Q:St->Hp->Prop)(o:V):V->Hp->Prop:=λi H2=>t o i v H2 (Xd σ Q)
def acw(ti:TE)(t:tM)(v:V)(σ:St)(Q:St->Hp->Prop):V->Hp->Prop:=λo H1=>ti σ H1 (Xe t v σ Q o)
def af5(to ti:TE)(t:tM):TG:=λv σ H Q=>to σ H (acw ti t v σ Q)
def acy(g:TG)(D:Ends)(σ:St):V->Hp->Prop:=λx H1=>g x σ H1 D.nx
def Ug(te:TE)(g:TG):TS:=λD σ H=>te σ H (acy g D σ)
inductive acz(i:Nat)(j:Nat)(D:Ends)(σ:St)(vs:List V)(H1:Hp):Prop
 |mk(v w:_)(_:vs=[v,w])(_:D.nx ((σ.set i (some v)).set j (some w)) H1)
def af6(i j:Nat)(ta:TA):TS:=λD σ H=>ta σ H (acz i j D σ)
def Uh(D:Ends)(σ:St):Hp->Prop:=λH6=>D.nx σ H6
def Ui(pQ:tM)(D:Ends)(σ:St)(o:V)(i:V):V->Hp->Prop:=λz H5=>pQ o i z H5 (Uh D σ)
def Uj(zu:JI)(pQ:tM)(D:Ends)(σ:St)(o:V)(i:V)(x:V):V->Hp->Prop:=λy H4=>zu x y H4 (Ui pQ D σ o i)
def Uk(te:TE)(zu:JI)(pQ:tM)(D:Ends)(σ:St)(o:V)(i:V):V->Hp->Prop:=λx H3=>te σ H3 (Uj zu pQ D σ o i x)
def Ul(te:TE)(zW:V->V->Hp->VK->Prop)(zu:JI)(pQ:tM)(D:Ends)(σ:St)(o:V):V->Hp->Prop:=λi H2=>zW o i H2 (Uk te zu pQ D σ o i)
def Y6(ti:TE)(te:TE)(zW:V->V->Hp->VK->Prop)(zu:JI)(pQ:tM)(D:Ends)(σ:St):V->Hp->Prop:=λo H1=>ti σ H1 (Ul te zW zu pQ D σ o)
def acA(to ti te:TE)(zW:V->V->Hp->VK->Prop)(zu:JI)(pQ:tM):TS:=λD σ H=>to σ H (Y6 ti te zW zu pQ D σ)
def Y7(X:Cx)(t:V->V->Hp->VK->Prop):Prop:=∀(pins:AO)(s:Shared)(σ:St)(H:Hp)(o i:V)(ov iv:Value)(Q:VK),Inv X pins σ H s->RelV o ov->RelV i iv->t o i H Q->wpAny (model X.prog X.w) X.A (getItem ov iv) (EP X pins σ Q) X.xe s
inductive ipI(f:Int->Int->Int)(x:V)(y:V)(H:Hp)(Q:VK):Prop
 |mk(i j:_)(_:x =.int i)(_:y =.int j)(_:Q (.int (f i j)) H)
theorem Y8:Y0 X .Add (ipI λi j=>i+j):=by intro pins s σ H x y v u Q I r1 r2 h;obtain⟨i,j,e1,e2,q⟩:=h;subst e1;subst e2;obtain⟨t,rfl⟩:=r1;obtain⟨t',rfl⟩:=r2;exact iadd_int ⟨.int _,H,I.tok _,⟨_,Z⟩,q⟩
theorem Y9:Y0 X .Sub (ipI λi j=>i-j):=by intro pins s σ H x y v u Q I r1 r2 h;obtain⟨i,j,e1,e2,q⟩:=h;subst e1;subst e2;obtain⟨t,rfl⟩:=r1;obtain⟨t',rfl⟩:=r2;exact isub_int ⟨.int _,H,I.tok _,⟨_,Z⟩,q⟩
end
section
variable {X:Cx}{pos:Pos}
def Y_(c:TT)(tb:TS):TS:=λD σ H=>∃W:Nat->St->Hp->Prop,(∃m,W m σ H)/\∀m σ H,W m σ H->c σ H λb H1=>if b=true then ∃N:St->Hp->Prop,(∀σ' H',N σ' H'->∃m',m'<m/\W m' σ' H')/\tb { D with nx:=N,ct:=N,bk:=D.nx } σ H1 else D.nx σ H1
end
structure It where
 go:Nat->Hp->Prop
 zX:Nat->Hp->V->Hp->Prop
 stop:Nat->Hp->Prop
def mC(X:Cx)(pins:AO)(H:Hp)(b:Addr):Prop:=H b=none/\b≠X.env.locals/\b∉X.fs/\(b∈X.ex\/X.s₀.heap.objs.size<=b)/\(∀x c,X.env.cells.lookup x=some c->c≠b)/\∀p∈X.pn++pins,p.1≠b
variable {H':Hp}
theorem Inv.BW(I:Inv X pins σ H s)(hb:s.heap.objs.size<=b)(hn:H' b=none):mC X pins H' b:=by
 refine⟨hn,wD (lS I.lt hb),I.afY hb,.inr (f_ I.sz hb),λx c e z=>?_,λp hp z=>?_⟩
 .obtain ⟨v,q⟩:=I.cell x c e;exact absurd (lS q.lt (by rw[z];exact hb)) (i7 _)
 .exact absurd (lS (bR (I.pin p hp).1) (by rw[z];exact hb)) (i7 _)
structure Turn(P:Program)(w:World)(K:Fg)(tg:Expr)(J:It)(fp:List Addr)(it:Addr)(tn:Nat->Heap->Prop):Prop where
 mem:it∈fp
 obj:∀i h,tn i h->∀b∈fp,∃o,h.get? b=some o/\∀v,o.data ≠ .cell v
 keep:∀i h h',tn i h->(∀b∈fp,∀o,h.get? b=some o->h'.get? b=some o)->tn i h'
 item:∀(X:Cx),X.prog=P->X.w=w->X.K=K->X.calm=true->∀(i:Nat)(pins:AO)(s:Shared)(σ:St)(H:Hp)(E:VS),Inv X pins σ H s->(∀b∈fp,mC X pins H b)->tn i s.heap->J.go i H->
  wpAny (model P w) X.A (pyNext (.ref it)) (λr s1=>∃u,r=some u/\
   wpAny (model P w) X.A (letOwnedTupleGo tg (.ref it) u) (λ_ s2=>∃x H',Inv X pins σ H' s2/\RelV x u/\J.zX i H x H'/\tn (i+1) s2.heap/\∀b∈fp,H' b=none) E s1) E s
 done:∀(X:Cx),X.prog=P->X.w=w->X.K=K->X.calm=true->∀(i:Nat)(pins:AO)(s:Shared)(σ:St)(H:Hp)(E:VS),Inv X pins σ H s->(∀b∈fp,mC X pins H b)->tn i s.heap->J.stop i H->
  wpAny (model P w) X.A (pyNext (.ref it)) (λr s1=>r=none/\Inv X pins σ H s1) E s
 self:∀(A:Around)(i:Nat)(s:Shared)(Q:VS)(E:VS),tn i s.heap->Q (.ref it) s->wpAny (model P w) A (pyIter (.ref it)) Q E s
abbrev TI:=St->Hp->(It->Hp->Prop)->Prop
def PIE(X:Cx)(pins:AO)(σ:St)(tg:Expr)(R:It->Hp->Prop)(itv:Value)(s2:Shared):Prop:=∃(it:Addr)(fp:List Addr)(tn:Nat->Heap->Prop)(J:It)(H':Hp),itv =.ref it/\Inv X pins σ H' s2/\Turn X.prog X.w X.K tg J fp it tn/\tn 0 s2.heap/\(∀b∈fp,mC X pins H' b)/\R J H'
def PI(X:Cx)(tg iter:Expr)(wi:TI):Prop:=∀(pins:AO)(s:Shared)(σ:St)(H:Hp)(R:It->Hp->Prop),Inv X pins σ H s->wi σ H R->wpAny (model X.prog X.w) X.A (eval iter X.env) (λv s1=>wpAny (model X.prog X.w) X.A (pyIter v) (PIE X pins σ tg R) X.xe s1) X.xe s
variable {tg:Expr}
theorem A3{A:Around}{o:Obj}{n:String}{vs:Array Value}(ho:s.heap.get? it=some o)(hc:o.cls =.type n)(hd:o.data =.fields vs)(hn:["enumerate","zip","dict_itemiterator","dict_reverseitemiterator","odict_iterator","itertools.zip_longest","itertools.pairwise"].contains n=false)(hQ:Q () s):wpAny M A (letOwnedTupleGo tg (.ref it) u) Q E s:=by
 unfold letOwnedTupleGo
 cases tg <;> first
  | exact aU hQ
  | (cases u <;> first
      | exact aU hQ
      | (refine aA (wpAny_load ho ?_)
         rw[hc,hd]
         show wpAny M A (if(["enumerate","zip","dict_itemiterator","dict_reverseitemiterator","odict_iterator","itertools.zip_longest","itertools.pairwise"].contains n && vs[0]?==some (rawInt _))=true then _ else _) Q E s
         rw[aB (by intro h;rw[hn,Bool.false_and]at h;cases h)]
         exact aU hQ))
def zx(K:Fg)(a:Addr):It:=⟨λi H=>∃xs x,aI K H a xs/\xs[i]?=some x,λi H x H'=>H'=H/\∀xs,aI K H a xs->xs[i]?=some x,λi H=>∃xs,aI K H a xs/\xs.length<=i⟩
def V5(lo:Int)(n:Nat):It:=⟨λi _=>i<n,λi H x H'=>H'=H/\x =.int (lo+i),λi _=>n<=i⟩
theorem Rq{w:World}(a it:Addr):Turn P w K tg (zx K a) [it] it (λi h=>h.IsListIter it a i) where
 mem:=by simp
 obj:=λi h st b hb=>by
  have e:b=it:=by simpa using hb
  subst e;obtain⟨o,e,c,d⟩:=st;exact⟨o,e,λv z=>by rw[d]at z;cases z⟩
 keep:=λi h h' st k=>st.at λo e=>k it (by simp) o e
 item:=by intro X hP hw hK hc i pins s σ H E I hf st hg;subst hP hw hK;obtain⟨xs,x,hq,hx⟩:=hg;obtain⟨its,rv,p,hz⟩:=I.list hq;obtain⟨u,hu,ru⟩:=rv.get hx;obtain⟨f0,f1,f2,f3,f4,f5⟩:=hf it (by simp);refine wpAny_pyNext_list_item st p.isList (x:=u) (by simpa using hu) λh' st' sb=>?_;have I1:Inv X pins σ H { s with heap:=h' }:=I.turned (t':=s.toks) (λb o hb e=>(sb.2 b hb).trans e) f0 f1 f3 f4 f5;obtain⟨o,e,c,d⟩:=id st';exact⟨u,Z,A3 (s:={ s with heap:=h' }) e c d (by decide) ⟨x,H,I1,ru,⟨Z,λys hy=>by rw[I.Ud hy hq];exact hx⟩,st',λb hb=>(hf b hb).1⟩⟩
 done:=by intro X hP hw hK hc i pins s σ H E I hf st hg;subst hP hw hK;obtain⟨xs,hq,hx⟩:=hg;obtain⟨its,rv,p,hz⟩:=I.list hq;obtain⟨f0,f1,f2,f3,f4,f5⟩:=hf it (by simp);have hl:=rv.length;exact wpAny_pyNext_list_end (I.ok.hd hc) st p.isList (by simp;omega) λh' eb=>⟨Z,I.turned (t':=s.toks) (λb o hb e=>eb b o hb e) f0 f1 f3 f4 f5⟩
 self:=λ_ _ _ _ _ st h=>wpAny_pyIter_listiter st h
theorem Qh{w:World}(it:Addr)(lo:Int)(n:Nat):Turn P w K tg (V5 lo n) [it] it (λi h=>IsRangeIter h it (lo+(i:Nat)*1) ((n:Int)-(i:Nat)) 1) where
 mem:=by simp
 obj:=λi h st b hb=>by
  have e:b=it:=by simpa using hb
  subst e;exact⟨_,st,λv z=>by have z':Data.fields _=Data.cell v:=z;cases z'⟩
 keep:=λi h h' st k=>k it (by simp) _ st
 item:=by intro X hP hw hK hc i pins s σ H E I hf st hg;subst hP hw hK;obtain⟨f0,f1,f2,f3,f4,f5⟩:=hf it (by simp);have W:=Walks.range (prog:=X.prog) (w:=X.w) (I.ok.hd hc) it lo 1 n;refine W.item i s _ _ hg st λv h' tk hv st' kk=>?_;obtain⟨t,rfl⟩:=hv;have I1:Inv X pins σ H { s with heap:=h',toks:=tk }:=I.turned (λb o hb e=>kk b o (by simpa using hb) e) f0 f1 f3 f4 f5;refine⟨_,Z,A3 (s:={ s with heap:=h',toks:=tk }) (n:="range_iterator") st' rfl rfl (by decide) ⟨.int (lo+i),H,I1,⟨t,?_⟩,⟨Z,Z⟩,st',λb hb=>(hf b hb).1⟩⟩;rw[uE]
 done:=by intro X hP hw hK hc i pins s σ H E I hf st hg;subst hP hw hK;obtain⟨f0,f1,f2,f3,f4,f5⟩:=hf it (by simp);exact wpAny_pyNext_range_end (I.ok.hd hc) st (by have:n<=i:=hg;omega) λh' eb=>⟨Z,I.turned (t':=s.toks) (λb o hb e=>eb b o hb e) f0 f1 f3 f4 f5⟩
 self:=λ_ _ _ _ _ st h=>wpAny_pyIter_rangeiter st h
variable {tl:TE}{fp:List Addr}
section
variable {X:Cx}{tg:Expr}
inductive Rr(K:Fg)(R:It->Hp->Prop)(x:V)(H1:Hp):Prop
 |mk(a:_)(_:x =.ref a)(_:(∃xs,aI K H1 a xs))(_:R (zx K a:_) H1)
def V6(K:Fg)(tl:TE):TI:=λσ H R=>tl σ H (Rr K R)
theorem Xf{l:Expr}(hl:PE X l tl):PI X tg l (V6 X.K tl):=by
 intro pins s σ H R I h;refine br (hl pins s σ H _ I h) λv s1 ⟨x,H1,I1,r1,q1⟩=>?_;obtain⟨a,e,⟨xs,hq⟩,q⟩:=q1;subst e;cases r1;obtain⟨its,rv,p,hz⟩:=I1.list hq;refine P_ p.isList ?_;refine⟨s1.heap.objs.size,[s1.heap.objs.size],_,_,H1,Z,I1.kept (t':=s1.toks) λb o e=>cy _ e,Rq a _,⟨_,eU _ rfl,Z,Z⟩,λb hb=>?_,q⟩;have e:b=s1.heap.objs.size:=by simpa using hb
 subst e;exact I1.BW (aO _) (I1.hok.fresh (aO _))
theorem Um{R:It->Hp->Prop}{lo hi:Int}{t u v:Tok}{tk:Nat}(I:Inv X pins σ H s)(h1:-(2 ^ 62)<=lo)(h2:lo<2 ^ 62)(h3:-(2 ^ 62)<=hi)(h4:hi<2 ^ 62)(q:R (V5 lo (hi-lo).toNat) H):wpAny (model X.prog X.w) X.A (pyIter (.ref s.heap.objs.size)) (PIE X pins σ tg R) E { s with heap:=s.heap.push { cls:=.type "range",data:=.fields #[.int lo t,.int hi u,.int 1 v] },toks:=tk }:=by
 refine wpAny_pyIter_range (IsRange.new ..) (small_one h1 h2 h3 h4) ?_
 have I1:Inv X pins σ H { s with heap:=s.heap.push { cls:=.type "range",data:=.fields #[.int lo t,.int hi u,.int 1 v] },toks:=tk }:=I.kept λb o e=>cy _ e
 refine⟨(s.heap.push { cls:=.type "range",data:=.fields #[.int lo t,.int hi u,.int 1 v] }).objs.size,[(s.heap.push { cls:=.type "range",data:=.fields #[.int lo t,.int hi u,.int 1 v] }).objs.size],_,_,H,Z,
  I1.kept (t':=tk) λb o e=>cy _ e,Qh _ lo (hi-lo).toNat,?_,λb hb=>?_,q⟩
 . have e1:lo+((0:Nat):Int)*1=lo:=by simp
   have e2:(((hi-lo).toNat:Nat):Int)-((0:Nat):Int)=Builtin.Range.rangeSize lo hi 1:=by rw[rangeSize_one];split <;> omega
   show IsRangeIter _ _ (lo+((0:Nat):Int)*1) ((((hi-lo).toNat:Nat):Int)-((0:Nat):Int)) 1
   rw[e1,e2]
   exact eU _ rfl
 . have e:b=(s.heap.push { cls:=.type "range",data:=.fields #[.int lo t,.int hi u,.int 1 v] }).objs.size:=by simpa using hb
   subst e
   exact I1.BW (aO _) (I1.hok.fresh (aO _))
inductive Za(R:It->Hp->Prop)(vs:List V)(H1:Hp):Prop
 |mk(j:Int)(_:vs=[.int j])(_:-(2 ^ 62)<=j)(_:j<2 ^ 62)(_:R (V5 0 j.toNat) H1)
def acB(ta:TA):TI:=λσ H R=>ta σ H (Za R)
def CZ(g:TG)(tb:TS)(D:Ends)(σ:St):It->Hp->Prop:=λJ H1=>∃W:Nat->Nat->St->Hp->Prop,(∃m,W 0 m σ H1)/\∀i m σ H,W i m σ H->(J.stop i H/\D.nx σ H)\/(J.go i H/\∃N:St->Hp->Prop,(∀σ' H',N σ' H'->∃m',m'<m/\W (i+1) m' σ' H')/\∀x H',J.zX i H x H'->g x σ H' (tb (D.lp N)))
def af7(wi:TI)(g:TG)(tb:TS):TS:=λD σ H=>wi σ H (CZ g tb D σ)
def C0(fp:List Addr)(h:Heap):List (Addr×Obj):=fp.filterMap λb=>(h.get? b).map λo=>(b,o)
theorem iC{o:Obj}(hb:b∈fp)(e:h.get? b=some o):(b,o)∈C0 fp h:=PU.mpr ⟨b,hb,by rw[e];rfl⟩
theorem Rt{p:Addr×Obj}(hp:p∈C0 fp h):p.1∈fp/\h.get? p.1=some p.2:=by
 obtain⟨b,hb,e⟩:=PU.mp hp;cases q:h.get? b with
 | none=>rw[q]at e;cases e
 | some o=>rw[q]at e;have e':(b,o)=p:=fm e;subst e';exact⟨hb,q⟩
theorem Inv.pinned(I:Inv X pins σ H s)(hf:∀b∈fp,mC X pins H b)(ho:∀b∈fp,∃o,s.heap.get? b=some o/\∀v,o.data ≠ .cell v):Inv X (pins++C0 fp s.heap) σ H s:=I.Oi λp hp=>(fq.mp hp).elim (λz=>I.pin p (gv _ z)) λz=>by obtain⟨hb,e⟩:=Rt z;obtain⟨f0,f1,f2,_⟩:=hf p.1 hb;obtain⟨o,e',d⟩:=ho p.1 hb;rw[e]at e';cases e';exact⟨e,f0,f1,f2,d⟩
theorem Inv.oJ{pl:AO}(I:Inv X (pins++pl) σ H s):Inv X pins σ H s:=I.Oi λp hp=>I.pin p (gv _ (uS _ hp))
end
variable {tb:TS}
theorem jj{g:TG}(Pv:Nat->St->Hp->Prop)(h0:Pv 0 σ H)(hl:∀i σ H,i<=xs.length->Pv i σ H->aI K H a xs)(hs:∀i x σ H,xs[i]?=some x->Pv i σ H->g x σ H (tb (D.lp (Pv (i+1)))))(hd:∀σ H,Pv xs.length σ H->D.nx σ H):
  CZ g tb D σ (zx K a) H:=by
 refine⟨λi m σ H=>m=xs.length-i/\i<=xs.length/\Pv i σ H,⟨xs.length,by simp,fH _,h0⟩,?_⟩
 rintro i m σ H ⟨rfl,hi,p⟩
 have q:=hl i σ H hi p
 by_cases hlt:i<xs.length
 . refine .inr ⟨⟨xs,xs[i],q,by simp[hlt]⟩,Pv (i+1),λσ' H' p'=>⟨xs.length-(i+1),by omega,Z,hlt,p'⟩,λx H' y=>?_⟩
   obtain⟨e,y⟩:=y
   subst e
   exact hs i x σ _ (y xs q) p
 . have e:i=xs.length:=by omega
   subst e
   exact .inl ⟨⟨xs,q,aO _⟩,hd σ H p⟩
theorem mD{lo:Int}{g:TG}(Pv:Nat->St->Hp->Prop)(h0:Pv 0 σ H)(hs:∀i σ H,i<n->Pv i σ H->g (.int (lo+i)) σ H (tb (D.lp (Pv (i+1)))))(hd:∀σ H,Pv n σ H->D.nx σ H):
  CZ g tb D σ (V5 lo n) H:=by
 refine⟨λi m σ H=>m=n-i/\i<=n/\Pv i σ H,⟨n,by simp,fH _,h0⟩,?_⟩
 rintro i m σ H ⟨rfl,hi,p⟩
 by_cases hlt:i<n
 . refine .inr ⟨hlt,Pv (i+1),λσ' H' p'=>⟨n-(i+1),by omega,Z,hlt,p'⟩,λx H' y=>?_⟩
   obtain⟨e,y⟩:=y
   subst e y
   exact hs i σ _ hlt p
 . have e:i=n:=by omega
   subst e
   exact .inl ⟨aO _,hd σ H p⟩
abbrev R2:=V->V->Hp->VK->Prop
def jA(X:Cx)(f:Value->Value->Sem Value)(r:R2):Prop:=∀(pins:AO)(s:Shared)(σ:St)(H:Hp)(x y:V)(v u:Value)(Q:VK),Inv X pins σ H s->RelV x v->RelV y u->r x y H Q->wpAny (model X.prog X.w) X.A (f v u) (EP X pins σ Q) X.xe s
def Zb(X:Cx)(f:Value->Sem Value)(r:V->Hp->VK->Prop):Prop:=∀(pins:AO)(s:Shared)(σ:St)(H:Hp)(x:V)(v:Value)(Q:VK),Inv X pins σ H s->RelV x v->r x H Q->wpAny (model X.prog X.w) X.A (f v) (EP X pins σ Q) X.xe s
def i9(X:Cx)(f:Value)(r:List V->Hp->VK->Prop):Prop:=∀(pins:AO)(s:Shared)(σ:St)(H:Hp)(xs:List V)(us:List Value)(Q:VK),Inv X pins σ H s->Vals xs us->r xs H Q->wpAny (model X.prog X.w) X.A (call f us) (EP X pins σ Q) X.xe s
def Zc(r:R2)(Q:VK)(x:V):V->Hp->Prop:=λy H2=>r x y H2 Q
def af8(r:R2)(tb:TE)(σ:St)(Q:VK):V->Hp->Prop:=λx H1=>tb σ H1 (Zc r Q x)
def Gj(r:R2)(ta tb:TE):TE:=λσ H Q=>ta σ H (af8 r tb σ Q)
def af9(r:V->Hp->VK->Prop)(Q:VK):V->Hp->Prop:=λx H1=>r x H1 Q
def tUn(r:V->Hp->VK->Prop)(ta:TE):TE:=λσ H Q=>ta σ H (af9 r Q)
inductive rI(C:Int->Int->Prop)(g:Int->Int->V)(x:V)(y:V)(H:Hp)(Q:VK):Prop
 |mk(i j:_)(_:x =.int i)(_:y =.int j)(_:C i j)(_:Q (g i j:_) H)
inductive Bw(g:Int->Int->V)(x:V)(y:V)(H:Hp)(Q:VK):Prop
 |mk(i j:_)(_:x =.int i)(_:y =.int j)(_:Q (g i j:_) H)
inductive rU(g:Int->V)(x:V)(H:Hp)(Q:VK):Prop
 |mk(i:_)(_:x =.int i)(_:Q (g i:_) H)
section
variable {X:Cx}{a b c:Expr}{ta tb tc:TE}{pos:Pos}
theorem Uo(ha:PE X a ta)(hb:PE X b tb){R:V->V->Hp->Prop}(I:Inv X pins σ H s)(h:ta σ H λx H1=>tb σ H1 λy H2=>R x y H2){Q:VS}{f:Value->Value->Sem Value}(hf:∀v u s2 x y H2,Inv X pins σ H2 s2->RelV x v->RelV y u->R x y H2->wpAny (model X.prog X.w) X.A (f v u) Q X.xe s2):
  wpAny (model X.prog X.w) X.A (eval a X.env) (λv s₁=>wpAny (model X.prog X.w) X.A (eval b X.env) (λu s₂=>wpAny (model X.prog X.w) X.A (f v u) Q X.xe s₂) X.xe s₁) X.xe s:=by
 refine br (ha pins s σ H _ I h) λv s1 ⟨x,H1,I1,r1,q1⟩=>?_
 refine br (hb pins s1 σ H1 _ I1 q1) λu s2 ⟨y,H2,I2,r2,q2⟩=>?_
 exact hf v u s2 x y H2 I2 r1 r2 q2
theorem Ru{f:Value->Value->Sem Value}{C:Int->Int->Prop}{g:Int->Int->Int}(rule:∀(i j:Int) (t u:Tok) (s:Shared) (Q:VS) (E:VS),C i j->Q (.int (g i j) s.toks) { s with toks:=s.toks+1 }->wpAny (model X.prog X.w) X.A (f (.int i t) (.int j u)) Q E s):
  jA X f (rI C λi j=> .int (g i j)):=by
 intro pins s σ H x y v u Q I rx ry h
 obtain⟨i,j,rfl,rfl,hc,q⟩:=h
 obtain⟨t,rfl⟩:=rx
 obtain⟨t',rfl⟩:=ry
 exact rule i j t t' s _ _ hc ⟨.int (g i j),H,I.tok _,⟨_,Z⟩,q⟩
theorem Zd{f:Value->Value->Sem Value}{g:Int->Int->Int}(rule:∀(i j:Int) (t u:Tok) (s:Shared) (Q:VS) (E:VS),Q (.int (g i j) s.toks) { s with toks:=s.toks+1 }->wpAny (model X.prog X.w) X.A (f (.int i t) (.int j u)) Q E s):
  jA X f (Bw λi j=> .int (g i j)):=by
 intro pins s σ H x y v u Q I rx ry h
 obtain⟨i,j,rfl,rfl,q⟩:=h
 obtain⟨t,rfl⟩:=rx
 obtain⟨t',rfl⟩:=ry
 exact rule i j t t' s _ _ ⟨.int (g i j),H,I.tok _,⟨_,Z⟩,q⟩
theorem Qi{f:Value->Value->Sem Value}{g:Int->Int->Bool}(rule:∀(i j:Int) (t u:Tok) (s:Shared) (Q:VS) (E:VS),Q (.bool (g i j)) s->wpAny (model X.prog X.w) X.A (f (.int i t) (.int j u)) Q E s):
  jA X f (Bw λi j=> .bl (g i j)):=by
 intro pins s σ H x y v u Q I rx ry h
 obtain⟨i,j,rfl,rfl,q⟩:=h
 obtain⟨t,rfl⟩:=rx
 obtain⟨t',rfl⟩:=ry
 exact rule i j t t' s _ _ ⟨.bl (g i j),H,I,Z,q⟩
def Up(i j:Int):Prop:=0<=j/\j<=1000000/\i.natAbs<2 ^ 64
def Qj(i j:Int):Prop:=(-(2 ^ 64)<i/\i<2 ^ 64)\/(-(2 ^ 64)<j/\j<2 ^ 64)
theorem Qj.ok{i j:Int}(h:Qj i j):IntMulOk i j:=by
 rcases h with⟨h1,h2⟩|⟨h1,h2⟩
 .exact .of_left (intBits_le_64 h1 h2)
 .exact .of_right (intBits_le_64 h1 h2)
theorem cU:jA X (binaryOp .Add) (Bw λi j=> .int (i+j)):=Zd λ_ _ _ _ _ _ _ q=>add_int q
theorem mE:jA X (binaryOp .Sub) (Bw λi j=> .int (i-j)):=Zd λ_ _ _ _ _ _ _ q=>sub_int q
theorem iJ:jA X (binaryOp .Mult) (rI Qj λi j=> .int (i*j)):=Ru λ_ _ _ _ _ _ _ hc q=>mul_int q hc.ok
theorem k_:jA X (binaryOp .Mod) (rI (λ_ j=>0<j) λi j=> .int (i % j)):=Ru λi j _ _ _ _ _ hc q=>by have h1:(0:Int)<j:=hc;exact mod_int' (by omega) (by rw[Int.fmod_eq_emod_of_nonneg i (by omega)];exact q)
theorem nQ:jA X (binaryOp .Pow) (rI Up λi j=> .int (i ^ j.toNat)):=Ru λ_ _ _ _ _ _ _ hc q=>pow_int_small hc.1 hc.2.1 hc.2.2 q
theorem unI{f:Value->Sem Value}{g:Int->Int}(rule:∀(i:Int) (t:Tok) (s:Shared) (Q:VS) (E:VS),Q (.int (g i) s.toks) { s with toks:=s.toks+1 }->wpAny (model X.prog X.w) X.A (f (.int i t)) Q E s):
  Zb X f (rU λi=> .int (g i)):=by
 intro pins s σ H x v Q I rx h
 obtain⟨i,rfl,q⟩:=h
 obtain⟨t,rfl⟩:=rx
 exact rule i t s _ _ ⟨.int (g i),H,I.tok _,⟨_,Z⟩,q⟩
theorem Rv:Zb X (unaryOp .USub) (rU λi=> .int (-i)):=unI λ_ _ _ _ _ q=>neg_int q
end
def af_:V->V->Bool
 | .cT,.cT=>true | .cT,.int _=>true | .int _,.cT=>true | .cT,.bl _=>true | .bl _,.cT=>true | .cT,.str _=>true | .str _,.cT=>true
 | .int _,.int _=>true | .bl _,.bl _=>true | .str _,.str _=>true | .Bu _,.Bu _=>true
 | .int _,.str _=>true | .str _,.int _=>true | .bl _,.str _=>true | .str _,.bl _=>true
 | _,_=>false
inductive rEq(x:V)(y:V)(H:Hp)(Q:VK):Prop
 |mk(_:af_ x y=true)(_:Q (.bl (decide (x=y))) H)
theorem Xg{i j:Int}:decide (V.int i=V.int j)=(i==j):=by rw[AV];simp
theorem Ze{i j:Bool}:decide (V.bl i=V.bl j)=(i==j):=by rw[AV];simp
theorem Xh{i j:Str}:decide (V.str i=V.str j)=(i==j):=by rw[AV];simp
theorem Xi{i j:Array UInt8}:decide (V.Bu i=V.Bu j)=(i.toList==j.toList):=by rw[AV];cases i;cases j;simp
variable {op:CmpOp}
section
variable {X:Cx}{a b c:Expr}{ta tb tc:TE}{pos:Pos}
theorem iY{Q:VK}{k k':Bool}(I:Inv X pins σ H s)(q:Q (.bl k) H)(e:k=k'):EP X pins σ Q (.bool k') s:=by subst e;exact⟨.bl k,H,I,Z,q⟩
theorem eY:jA X (compareOp .Eq) rEq:=by
 intro pins s σ H x y v u Q I rx ry h;obtain⟨hs,q⟩:=h;cases x with
 | cT=>
  cases rx;cases y with
  | cT=>cases ry;exact PySem.EqNone.eq_none_none (iY I q (by simp))
  | bl j=>cases ry;exact PySem.EqNone.eq_none_bool (iY I q (by simp))
  | int j=>obtain⟨t',rfl⟩:=ry;exact PySem.EqNone.eq_none_int (iY I q (by simp))
  | str j=>obtain⟨t',rfl⟩:=ry;exact PySem.EqNone.eq_none_str (iY I q (by simp))
  | _=>exact absurd (show false=true from hs) iH
 | bl i=>
  cases rx;cases y with
  | cT=>cases ry;exact PySem.EqNone.eq_bool_none (iY I q (by simp))
  | bl j=>cases ry;exact eq_bool (iY I q Ze)
  | str j=>obtain⟨t',rfl⟩:=ry;exact PySem.EqMixed.eq_bool_str (iY I q (by simp))
  | _=>exact absurd (show false=true from hs) iH
 | int i=>
  obtain⟨t,rfl⟩:=rx;cases y with
  | cT=>cases ry;exact PySem.EqNone.eq_int_none (iY I q (by simp))
  | int j=>obtain⟨t',rfl⟩:=ry;exact eq_int (iY I q Xg)
  | str j=>obtain⟨t',rfl⟩:=ry;exact PySem.EqMixed.eq_int_str (iY I q (by simp))
  | _=>exact absurd (show false=true from hs) iH
 | str i=>
  obtain⟨t,rfl⟩:=rx;cases y with
  | cT=>cases ry;exact PySem.EqNone.eq_str_none (iY I q (by simp))
  | bl j=>cases ry;exact PySem.EqMixed.eq_str_bool (iY I q (by simp))
  | int j=>obtain⟨t',rfl⟩:=ry;exact PySem.EqMixed.eq_str_int (iY I q (by simp))
  | str j=>obtain⟨t',rfl⟩:=ry;exact eq_str (iY I q Xh)
  | _=>exact absurd (show false=true from hs) iH
 | Bu i=>
  obtain⟨t,rfl⟩:=rx;cases y with
  | Bu j=>obtain⟨t',rfl⟩:=ry;exact PySem.W.eq_bytes (iY I q Xi)
  | _=>exact absurd (show false=true from hs) iH
 | _=>cases y <;> exact absurd (show false=true from hs) iH
theorem rT:jA X (compareOp .Lt) (Bw λi j=> .bl (decide (i<j))):=Qi λ_ _ _ _ _ _ _ q=>lt_int q
theorem V7:jA X (compareOp .LtE) (Bw λi j=> .bl (decide (i<=j))):=Qi λ_ _ _ _ _ _ _ q=>le_int q
theorem jJ:jA X (compareOp .Gt) (Bw λi j=> .bl (decide (j<i))):=Qi λ_ _ _ _ _ _ _ q=>gt_int q
theorem Jg:jA X (compareOp .GtE) (Bw λi j=> .bl (decide (j<=i))):=Qi λ_ _ _ _ _ _ _ q=>ge_int q
theorem Rw:jA X (compareOp .In) (λx y H Q=>∃i j,x =.str i/\y =.str j/\Q (.bl (!(Builtin.Str.occurrences j i 0 j.length 1).isEmpty)) H):=by intro pins s σ H x y v u Q I rx ry h;obtain⟨i,j,rfl,rfl,q⟩:=h;obtain⟨t,rfl⟩:=rx;obtain⟨t',rfl⟩:=ry;exact in_str (iY I q rfl)
theorem bu(b:Expr)(h:op ≠ .In:=by decide)(h2:op ≠ .NotIn:=by decide):behindInMarks op b=false:=by
 have e1:(op==CmpOp.In)=false:=by cases op <;> first|rfl|exact absurd rfl h
 have e2:(op==CmpOp.NotIn)=false:=by cases op <;> first|rfl|exact absurd rfl h2
 cases b <;> simp[behindInMarks,e1,e2]
inductive Rx(Q:Bool->Hp->Prop)(x:V)(H':Hp):Prop
 |mk(k:_)(_:x =.bl k)(_:Q k H')
def Jh(t:TE):TT:=λσ H Q=>t σ H (Rx Q)
inductive Ry(r':R2)(tc:TE)(σ:St)(Q:VK)(y:V)(z:V)(H3:Hp):Prop
 |mk(k:_)(_:z =.bl k)(_:(if k=true then tc σ H3 λw' H4=>r' y w' H4 Q else Q (.bl false) H3))
def Rz(r:R2)(r':R2)(tc:TE)(σ:St)(Q:VK)(x:V):V->Hp->Prop:=λy H2=>r x y H2 (Ry r' tc σ Q y)
def Xj(r:R2)(r':R2)(tb:TE)(tc:TE)(σ:St)(Q:VK):V->Hp->Prop:=λx H1=>tb σ H1 (Rz r r' tc σ Q x)
def Zf(r r':R2)(ta tb tc:TE):TE:=λσ H Q=>ta σ H (Xj r r' tb tc σ Q)
theorem uW:(sizeLine:Nat)<2 ^ 63:=by rw[j8];decide
theorem Qk:jA X (binaryOp .Add) (λx y H Q=>∃i j,x =.str i/\y =.str j/\i.length+j.length<=sizeLine/\Q (.str (i++j)) H):=by intro pins s σ H x y v u Q I rx ry h;obtain⟨i,j,rfl,rfl,hz,q⟩:=h;obtain⟨t,rfl⟩:=rx;obtain⟨t',rfl⟩:=ry;exact add_str (λt' tk=>⟨.str (i++j),H,I.tok _,⟨_,Z⟩,q⟩) hz
theorem vals1{x:V}(r:Vals [x] us):∃u,us=[u]/\RelV x u:=by
 cases r with
 | cons r1 r2=>cases r2;exact⟨_,Z,r1⟩
theorem vals2{x:V}(r:Vals [x,y] us):∃u w',us=[u,w']/\RelV x u/\RelV y w':=by
 cases r with
 | cons r1 r2=>
  cases r2 with
  | cons r3 r4=>cases r4;exact⟨_,_,Z,r1,r3⟩
theorem zY(hc:X.calm=true):i9 X (.builtin "min") (λxs H Q=>∃i j,xs=[.int i,.int j]/\Q (.int (if j<i then j else i)) H):=by
 intro pins s σ H xs us Q I r h;obtain⟨i,j,rfl,q⟩:=h;obtain⟨u,w',rfl,⟨t,rfl⟩,⟨t',rfl⟩⟩:=vals2 r;refine min_two_ints (I.ok.hd hc) λh' tk k=>⟨_,H,I.kept k,?_,q⟩
 by_cases hj:j<i
 .rw [aC hj,aC hj];exact⟨_,Z⟩
 .rw [aB hj,aB hj];exact⟨_,Z⟩
end
structure BX(h:Heap)(x dx C:Addr)(mA:SO):Prop where
 obj:h.get? x=some (PySem.W.instObj C dx)
 ns:h.Ns1 dx mA
 ne:dx≠x
theorem RA{mA:SO}(n:h.Ns1 dx mA):∃od,h.get? dx=some od/\∀name,PySem.W.lookIn name od=some (mA name):=by
 obtain⟨o,es,ep,ho,hd,hk,_,hm⟩:=n;refine⟨o,ho,λname=>?_⟩;have e:=hm name;unfold nsFind findBy at e;rw[<-Array.find?_toList]at e;unfold PySem.W.lookIn;rw[hd];dsimp only;split
 .rename_i y q;rw[q]at e;exact eV some e
 .rename_i q;rw[q]at e;have a:es.toList.any (·.refKey)=false:=by rw[List.any_eq_false];intro y hy;obtain⟨z,t,hkey⟩:=hk y (Array.mem_toList_iff.mp hy);simp[DictEntry.refKey,hkey]
  have a':¬ es.toList.any (·.refKey)=true:=by rw[a];exact iH
  rw[aB a'];exact eV some e
variable {C:Addr}
theorem BX.look{x dx:Addr}{mA:SO}(I:BX h x dx C mA):∃od,PySem.W.InstAt h x (PySem.W.instObj C dx) C (some od)/\∀name,PySem.W.lookIn name od=some (mA name):=
 let⟨od,ho,hl⟩:=RA I.ns
 ⟨od,⟨I.obj,Z,Z,ho⟩,hl⟩
variable {R:Result->Shared->Prop}{kw:List (Str×Value)}
section
variable {prog:Program}{w:World}{A:Around}{E:VS}{s:Shared}{K:Fg}{x dx C f:Addr}{mA:SO}{name:Str}{v:Value}
theorem get_map{expr:Bool}{Q:VS}(X:K.In s.heap)(I:BX s.heap x dx C mA)(hg:PySem.W.plainGet K C name=true)(hh:PySem.W.hasDictIn K C=true)(ha:PySem.W.findIn K (.ref C) name=some none)(hv:mA name=some v)(hv':PySem.W.handedIn v=true)(h:Q v { s with toks:=s.toks+1 }):
  wpAny (model prog w) A (getAttr (.ref x) name expr) Q E s:=by
 obtain⟨od,J,hl⟩:=I.look
 exact PySem.W.get_value X J (PySem.W.plainGet_of hg).1 (PySem.W.findObj_own hh ha rfl (by rw[hl,hv])) hv' h
theorem Uq{pl:Sem Bool}{Q:Value×List Value->Shared->Prop}(X:K.In s.heap)(I:BX s.heap x dx C mA)(hg:PySem.W.plainGet K C name=true)(hf:PySem.W.findIn K (.ref C) name=some (some (.ref f)))(ht:PySem.W.isFn K (.ref f)=true)(hv:mA name=none)(h:Q (.ref f,[.ref x]) s):
  wpAny (model prog w) A (getMethod (.ref x) name pl) Q E s:=by
 obtain⟨od,J,hl⟩:=I.look
 exact PySem.W.method_fn X J (PySem.W.plainGet_of hg).1 (PySem.W.plainGet_of hg).2 hf (uF.mp ht) (by show(PySem.W.lookIn name od).map (·.isSome)=some false;rw[hl,hv];rfl) h
theorem Xk{ns:List Str}(X:K.In s.heap)(I:BX s.heap x dx C mA)(hs:PySem.W.findIn K (.ref C) "__setattr__"=some (some (.builtin "object.__setattr__")))(hp:PySem.W.plainOver K C=true)(ht:PySem.W.takerIn K C name=some none)(hh:PySem.W.hasDictIn K C=true)(hw:PySem.Within mA ns)(hsz:ns.length<=sizeLine)(h:∀h',BX h' x dx C (λy=>if y=name then some v else mA y)->Heap.SameBut dx s.heap h'->Q () { s with heap:=h',toks:=s.toks+2 }):
  wpAny (model prog w) A (setAttr (.ref x) name v) Q E s:=by
 obtain⟨od,J,hl⟩:=I.look
 refine PySem.W.set_plain X J hs (PySem.W.osa_open (s:={ s with toks:=s.toks+1 }) (r:=none) X J hp ht λb=>?_)
 obtain⟨cd,hc,hd'⟩:=PySem.W.any_some hh
 have hx:s.heap.get? x=some ⟨.ref C,some dx,.plain,#[]⟩:=I.obj
 refine aA (aU (aA (aA (wpAny_loadPart hx (aA (PySem.W.Looks.here (s:={ s with toks:=s.toks+1 }) (PySem.W.looks_clsIn X hc) ?_))))))
 rw[hd']
 refine aU (a:=some dx) (aA (aU (aA ?_)))
 refine wpAny_nsSet1 (s:={ s with toks:=s.toks+1 }) I.ns λh' hn2 hs2=>?_
 obtain⟨oD,esD,epD,hoD,hdD,hcD⟩:=hn2.count (PySem.Within.cons name v hw)
 refine aA (wpAny_lookBehind hoD (by rw[hdD];exact pastItsLine_dict (f_ hcD (by rw[kg];omega))) ?_)
 exact aU (h _ ⟨(hs2.2 _ (bY I.ne)).trans I.obj,hn2,I.ne⟩ hs2)
theorem Ur{vs:List Value}(X:K.In s.heap)(hm:PySem.W.makesIn K C=true)(hi:PySem.W.findIn K (.ref C) "__init__"=some (some (.ref f)))(hf:PySem.W.typeIn K (.ref f)=some (.type "function"))(h:codeAny (model prog w) (A.under (.builtin "type.__call__" ⟨.ref C::vs,kw⟩)) (.call (.ref f) ⟨.ref (s.heap.objs.size+1)::vs,kw⟩) (PySem.W.InitBack (s.heap.objs.size+1) R)
    { s with heap:=(s.heap.push PySem.W.emptyDict).push (PySem.W.instObj C s.heap.objs.size) }):
  codeAny (model prog w) A (.call (.ref C) ⟨vs,kw⟩) R s:=by
 obtain⟨hh,g,d,t,os⟩:=s
 exact PySem.W.make_core (PySem.W.makes_of X hm) (PySem.W.looks_findIn X hi) (λself=>PySem.W.bind_fn X self hf) (.inl rfl) h
end
def aY(f:Str)(v:V):List (Str×V)->List (Str×V)
 | []=>[(f,v)]
 | (g,x)::r=>if g=f then(g,v)::r else(g,x)::aY f v r
theorem By(f g:Str)(v:V):∀fs:List (Str×V),(aY f v fs).lookup g=if g=f then some v else fs.lookup g
 | []=>by
  show List.lookup g [(f,v)]=_;by_cases h:g=f
  .have hb:(g==f)=true:=uF.mpr h;simp only[List.lookup,hb,aC h]
  .have hb:(g==f)=false:=zT.mpr h;simp only[List.lookup,hb,aB h]
 | (k,x)::r=>by
  have ih:=By f g v r;rw[show aY f v ((k,x)::r)=(if k=f then(k,v)::r else(k,x)::aY f v r)from rfl];by_cases hk:k=f
  .rw [aC hk];by_cases h:g=k
   .have hb:(g==k)=true:=uF.mpr h;simp only[List.lookup,hb,aC (h.trans hk)]
   .have hb:(g==k)=false:=zT.mpr h;simp only[List.lookup,hb,aB (λe:g=f=>h (e.trans hk.symm))]
  .rw [aB hk];by_cases h:g=k
   .have hb:(g==k)=true:=uF.mpr h;simp only[List.lookup,hb,aB (λe:g=f=>hk (h.symm.trans e))]
   .have hb:(g==k)=false:=zT.mpr h;simp only[List.lookup,hb];exact ih
theorem zZ(f:Str)(v:V):∀fs:List (Str×V),f∈(aY f v fs).map (·.1)/\∀g,g∈fs.map (·.1)->g∈(aY f v fs).map (·.1)
 | []=>⟨by simp[aY],λg h=>by simp at h⟩
 | (k,x)::r=>by
  obtain⟨i1,i2⟩:=zZ f v r;rw[show aY f v ((k,x)::r)=(if k=f then(k,v)::r else(k,x)::aY f v r)from rfl];by_cases hk:k=f
  .rw [aC hk];subst hk;exact⟨by simp,λg h=>by simpa using h⟩
  .rw [aB hk];refine⟨?_,λg h=>?_⟩
   .rw [bz];exact b7 _ i1
   .rw [bz]at h ⊢;rcases b8.mp h with e|e
    .exact b8.mpr (.inl e)
    .exact b7 _ (i2 g e)
theorem BA(f:Str)(v:V):∀fs:List (Str×V),(aY f v fs).length<=fs.length+1
 | []=>by simp[aY]
 | (k,x)::r=>by
  have ih:=BA f v r;rw[show aY f v ((k,x)::r)=(if k=f then(k,v)::r else(k,x)::aY f v r)from rfl];by_cases hk:k=f
  .rw [aC hk,kg,kg];omega
  .rw [aB hk,kg,kg];omega
theorem nL.some_of{v:V}{o:Option Value}(r:nL (some v) o):∃u,o=some u/\RelV v u:=by
 cases o with
 | none=>exact(show False from r).elim
 | some u=>exact⟨u,Z,r⟩
theorem nL.none_of{o:Option Value}(r:nL none o):o=none:=by
 cases o with
 | none=>rfl
 | some u=>exact(show False from r).elim
theorem RB{v:V}(r:RelV v u):PySem.W.handedIn u=true:=by
 cases v with
 | cT=>cases(show u=Value.none from r);rfl
 | bl b=>cases(show u=Value.bool b from r);rfl
 | int i=>obtain⟨t,e⟩:=(show ∃t,u=Value.int i t from r);cases e;rfl
 | str x=>obtain⟨t,e⟩:=(show ∃t,u=Value.str x t from r);cases e;rfl
 | Bu b=>obtain⟨t,e⟩:=(show ∃t,u=Value.bytes b t from r);cases e;rfl
 | VX b=>obtain⟨t,e⟩:=(show ∃t,u=Value.float b t from r);cases e;rfl
 | ref a=>cases(show u=Value.ref a from r);rfl
 | ty n=>cases(show u=Value.type n from r);rfl
section
variable {P:Program}{w:World}{H H':Hp}{h h':Heap}{a C dx:Addr}{fs fs':List (Str×V)}
theorem EI(hok:ji P w H h)(e:H a=some (.ins C dx fs)):∃mA,BX h a dx C mA/\(∀f,nL (fs.lookup f) (mA f))/\PySem.Within mA (fs.map (·.1))/\fs.length<=1000/\H dx=some (.own a):=by
 obtain⟨d,z,ne,ob,mA,n,r,q⟩:=(show fJ P w H h a (.ins C dx fs)from hok a _ e)
 exact⟨mA,⟨ob,n,ne⟩,r,q,z,d⟩
end
structure qM(K:Fg)(C:Addr):Prop where
 pg:PySem.W.plainGet K C Str.empty=true
 hd:PySem.W.hasDictIn K C=true
 po:PySem.W.plainOver K C=true
 sa:PySem.W.findIn K (.ref C) "__setattr__"=some (some (.builtin "object.__setattr__"))
theorem qM.get(c:qM K C)(f:Str):PySem.W.plainGet K C f=true:=c.pg
def fD(K:Fg)(C:Addr)(f:Str):Prop:=PySem.W.findIn K (.ref C) f=some none
theorem fD.taker{f:Str}(n:fD K C f):PySem.W.takerIn K C f=some none:=by unfold PySem.W.takerIn;rw[show PySem.W.findIn K (.ref C) f=some none from n];rfl
structure Meth(K:Fg)(C:Addr)(m:Str)(f:Addr):Prop where
 at_:PySem.W.findIn K (.ref C) m=some (some (.ref f))
 fn:PySem.W.isFn K (.ref f)=true
 kp:PySem.W.keepIn K (.ref f)=true
variable {env:Env}
section
variable {X:Cx}{pins:AO}{σ:St}{H:Hp}{s:Shared}{a C dx:Addr}{fs:List (Str×V)}{f:Str}{v:V}{A:Around}{E:VS}
theorem C4{b:Bool}{Q:VS}(I:Inv X pins σ H s)(e:H a=some (.ins C dx fs))(c:qM X.K C)(n:fD X.K C f)(l:fs.lookup f=some v)(h:∀u s',Inv X pins σ H s'->RelV v u->Q u s'):wpAny (model X.prog X.w) A (getAttr (.ref a) f b) Q E s:=by
 obtain⟨mA,O,r,_,_,_⟩:=EI I.hok e
 obtain⟨u,hu,ru⟩:=nL.some_of (v:=v) (o:=mA f) (by rw[<-l];exact r f)
 exact get_map I.uV O (c.get f) c.hd n hu (RB ru) (h u _ (I.tok _) ru)
theorem C5{m:Str}{g:Addr}{pl:Sem Bool}{Q:Value×List Value->Shared->Prop}(I:Inv X pins σ H s)(e:H a=some (.ins C dx fs))(c:qM X.K C)(k:Meth X.K C m g)(l:fs.lookup m=none)(h:Q (.ref g,[.ref a]) s):wpAny (model X.prog X.w) A (getMethod (.ref a) m pl) Q E s:=by
 obtain⟨mA,O,r,_,_,_⟩:=EI I.hok e
 have hn:mA m=none:=nL.none_of (by rw[<-l];exact r m)
 exact Uq I.uV O (c.get m) k.at_ k.fn hn h
theorem C6(I:Inv X pins σ H s)(e:H a=some (.ins C dx fs))(c:qM X.K C)(n:fD X.K C f)(hl:fs.length<1000)(ry:RelV y u)(h:∀s',Inv X pins σ (upd H a (.ins C dx (aY f y fs))) s'->Q () s'):wpAny (model X.prog X.w) A (setAttr (.ref a) f u) Q E s:=by
 obtain⟨mA,O,r,wi,_,ho⟩:=EI I.hok e
 have hz:(fs.map (·.1)).length<=sizeLine:=by rw[aG,j8];omega
 refine Xk I.uV O c.sa c.po n.taker c.hd wi hz λh' O' sb=>h _ ?_
 have hd:∃o,h'.get? dx=some o:=let⟨o,_,_,e',_⟩:=O'.ns;⟨o,e'⟩
 refine I.write (x:=a) (e:=dx) (by rw[e];exact True.intro) (.inr ho) (λb q hb z=>(sb.2 b hb).trans z) hd ?_
 refine⟨by rw[ay O.ne];exact ho,?_,O.ne,O'.obj,_,O'.ns,λg=>?_,λg hg=>?_⟩
 . have:=BA f y fs;omega
 . show nL ((aY f y fs).lookup g) (if g=f then some u else mA g)
   rw[By]
   by_cases q:g=f
   . rw[aC q,aC q];exact ry
   . rw[aB q,aB q];exact r g
 . by_cases q:g=f
   . rw[q];exact(zZ f y fs).1
   . refine(zZ f y fs).2 g (wi g λz=>hg ?_)
     show(if g=f then some u else mA g)=none
     rw[aB q];exact z
theorem Inv.made(I:Inv X pins σ H s):Inv X pins σ (upd (upd H s.heap.objs.size (.own (s.heap.objs.size+1))) (s.heap.objs.size+1) (.ins C s.heap.objs.size []))
  { s with heap:=(s.heap.push PySem.W.emptyDict).push (PySem.W.instObj C s.heap.objs.size) }:=by
 have e1:(s.heap.push PySem.W.emptyDict).get? s.heap.objs.size=some PySem.W.emptyDict:=eU s.heap rfl
 have e2:((s.heap.push PySem.W.emptyDict).push (PySem.W.instObj C s.heap.objs.size)).get? (s.heap.objs.size+1)=some (PySem.W.instObj C s.heap.objs.size):=by
  have:=eU (s.heap.push PySem.W.emptyDict) (o:=PySem.W.instObj C s.heap.objs.size) rfl
  rwa [kP]at this
 have e3:(s.heap.push PySem.W.emptyDict).Ns s.heap.objs.size (λ_=>none):=⟨PySem.W.emptyDict,#[],_,e1,Z,(λe he=>absurd he (by simp)),λ_=>rfl⟩
 have I1:=I.laid (a:=s.heap.objs.size) (o:=.own (s.heap.objs.size+1)) (h':=s.heap.push PySem.W.emptyDict) (t':=s.toks) (λb u q=>cy _ q) (aO _) ⟨_,e1⟩
 refine I1.laid (a:=s.heap.objs.size+1) (o:=.ins C s.heap.objs.size []) (t':=s.toks) (λb u q=>cy _ q) (Nat.le_of_eq (kP _ _)) ?_
 have ne:s.heap.objs.size≠s.heap.objs.size+1:=d7 (Nat.lt_succ_self _)
 refine⟨by rw[ay ne,ai],fH _,ne,e2,λ_=>none,(Heap.Ns1.of_empty e3).at λo q=>cy _ q,λ_=>True.intro,λy hy=>absurd rfl hy⟩
theorem Xl{prog:Program}{w:World}{f:Str}{s:Shared}{Q:VS}(hb:attributeBase e f env (eval e env)=eval e env)(h:wpAny (model prog w) A (eval e env) (λo s₁=>wpAny (model prog w) A (getAttr o f true) Q E s₁) E s):wpAny (model prog w) A (eval (.Attribute e f pos) env) Q E s:=
 Attribute_any_ h (by rw[arm_eval_Attribute,hb])
end
inductive acC(K:Fg)(f:Str)(Q:VK)(x:V)(H1:Hp):Prop
 |mk(a C dx fs v:_)(_:x =.ref a)(_:H1 a=some (.ins C dx fs))(_:qM K C)(_:fD K C f)(_:fs.lookup f=some v)(_:Q v H1)
def Zg(K:Fg)(ta:TE)(f:Str):TE:=λσ H Q=>ta σ H (acC K f Q)
inductive Xm(K:Fg)(f:Str)(D:Ends)(σ:St)(y:V)(x:V)(H2:Hp):Prop
 |mk(a C dx fs:_)(_:x =.ref a)(_:H2 a=some (.ins C dx fs))(_:qM K C)(_:fD K C f)(_:fs.length<1000)(_:D.nx σ (upd H2 a (.ins C dx (aY f y fs))))
def acD(K:Fg)(ta:TE)(f:Str)(D:Ends)(σ:St):V->Hp->Prop:=λy H1=>ta σ H1 (Xm K f D σ y)
def Zh(K:Fg)(ta tv:TE)(f:Str):TS:=λD σ H=>tv σ H (acD K ta f D σ)
def JJ(X:Cx)(op:Operator)(rd:V->V->Hp->VK->Prop):Prop:=∀(pins:AO)(s:Shared)(σ:St)(H:Hp)(x y:V)(u v:Value)(Q:VK),Inv X pins σ H s->RelV x u->RelV y v->rd x y H Q->wpAny (model X.prog X.w) X.A (inplaceOp op u v) (EP X pins σ Q) X.xe s
inductive Ql(f:Str)(D:Ends)(σ:St)(a:Addr)(C:Addr)(z:V)(H3:Hp):Prop
 |mk(Zi fs':_)(_:H3 a=some (.ins C Zi fs'))(_:fs'.length<1000)(_:D.nx σ (upd H3 a (.ins C Zi (aY f z fs'))))
def Qm(rd:V->V->Hp->VK->Prop)(f:Str)(D:Ends)(σ:St)(a:Addr)(C:Addr)(v:V):V->Hp->Prop:=λy H2=>rd v y H2 (Ql f D σ a C)
inductive Us(K:Fg)(tv:TE)(rd:V->V->Hp->VK->Prop)(f:Str)(D:Ends)(σ:St)(x:V)(H1:Hp):Prop
 |mk(a C dx fs v:_)(_:x =.ref a)(_:H1 a=some (.ins C dx fs))(_:qM K C)(_:fD K C f)(_:fs.lookup f=some v)(_:tv σ H1 (Qm rd f D σ a C v))
def Oj(K:Fg)(ta tv:TE)(rd:V->V->Hp->VK->Prop)(f:Str):TS:=λD σ H=>ta σ H (Us K tv rd f D σ)
variable {rd:V->V->Hp->VK->Prop}
section
variable {X:Cx}{o e value:Expr}{f:Str}{pos pos' tpos:Pos}{ta tv:TE}
theorem Zj(he:PE X e ta)(hb:attributeBase e f X.env (eval e X.env)=eval e X.env):PE X (.Attribute e f pos) (Zg X.K ta f):=by intro pins s σ H Q I h;refine Xl hb (br (he pins s σ H _ I h) λu s1 ⟨x,H1,I1,rx,a,C,dx,fs,v,ex,ea,c,n,l,q⟩=>?_);subst ex;obtain rfl:u=Value.ref a:=rx;exact C4 I1 ea c n l λu' s2 I2 ru=>⟨v,H1,I2,ru,q⟩
theorem Zk(ha:PE X o ta)(hv:PE X value tv)(hs:swapsWith value (some (.Attribute o f pos')) pos.line X.env=pure false):PS X (.Assign [.Attribute o f pos'] value pos) (Zh X.K ta tv f):=by intro pins s σ H D I h;refine plainObj_wpAny_Assign_Attribute (br (hv pins s σ H _ I h) λu s1 ⟨y,H1,I1,ry,q⟩=>br (ha pins s1 σ H1 _ I1 q) λov s2 ⟨x,H2,I2,rx,a,C,dx,fs,ex,ea,c,n,l,q2⟩=>?_) hs;subst ex;obtain rfl:ov=Value.ref a:=rx;exact C6 I2 ea c n l ry λs3 I3=>⟨σ,_,I3,q2⟩
theorem RC{op:Operator}(ha:PE X o ta)(hv:PE X value tv)(hop:JJ X op rd):PS X (.AugAssign (.Attribute o f tpos) op value pos) (Oj X.K ta tv rd f):=by intro pins s σ H D I h;refine wpAny_AugAssign_AttributeAny (br (ha pins s σ H _ I h) λov s1 ⟨x,H1,I1,rx,a,C,dx,fs,v,ex,ea,c,n,l,q⟩=>?_);subst ex;obtain rfl:ov=Value.ref a:=rx;refine C4 I1 ea c n l λu s2 I2 ru=>br (hv pins s2 σ H1 _ I2 q) λw3 s3 ⟨y,H2,I3,ry,q3⟩=>br (hop pins s3 σ H2 v y u w3 _ I3 ru ry q3) λw4 s4 ⟨z,H3,I4,rz,Zi,fs',ea',l',q4⟩=>?_;exact C6 I4 ea' c n l' rz λs5 I5=>⟨σ,_,I5,q4⟩
inductive aga(x:V)(y:V)(H:Hp)(Q:VK):Prop
 |mk(i j:_)(_:x =.int i)(_:y =.int j)(_:Q (.int (i+j)) H)
inductive agb(x:V)(y:V)(H:Hp)(Q:VK):Prop
 |mk(i j:_)(_:x =.int i)(_:y =.int j)(_:Q (.int (i-j)) H)
theorem Zl:JJ X .Add aga:=by
 rintro pins s σ H x y u v Q I rx ry ⟨i,j,rfl,rfl,q⟩;obtain⟨t,rfl⟩:=(show ∃t,u=Value.int i t from rx)
 obtain⟨t',rfl⟩:=(show ∃t',v=Value.int j t' from ry)
 exact PyProof.Rows.iadd_int ⟨.int (i+j),H,I.tok _,⟨_,Z⟩,q⟩
theorem JK:JJ X .Sub agb:=by
 rintro pins s σ H x y u v Q I rx ry ⟨i,j,rfl,rfl,q⟩;obtain⟨t,rfl⟩:=(show ∃t,u=Value.int i t from rx)
 obtain⟨t',rfl⟩:=(show ∃t',v=Value.int j t' from ry)
 exact PyProof.Rows.isub_int ⟨.int (i-j),H,I.tok _,⟨_,Z⟩,q⟩
end
section
variable {X:Cx}{pins:AO}{σ:St}{H:Hp}{s:Shared}{A:Around}{E:VS}{Q:VS}{c:Value}{b:Bool}
end
structure fj(k:Nat)(A:Around):Prop where
 hd:A.handled=none
 dp:A.depth+3*k+5<recursionLimit
 un:A.units+16*k+200<cLine
theorem fj.mono{k:Nat}{A:Around}(r:fj k A)(h:j<=k):fj j A:=⟨r.hd,by have:=r.dp;omega,by have:=r.un;omega⟩
theorem fj.deeper{k:Nat}{A:Around}(r:fj (k+1) A)(env:Env):fj k (A.deeper env):=⟨r.hd,by have:=r.dp;show A.depth+1+3*k+5<_;omega,by have:=r.un;show A.units+3+16*k+200<_;omega⟩
theorem Qn{A:Around}:(A.under (.builtin "type.__call__" ⟨.ref C::us,kw⟩)).depth=A.depth+1:=by first|rfl|simp[Around.under,Code.weight,Code.isCreation,Code.isGuard,Code.isCaller,Code.frames,Code.isFrame,guardIds]
theorem Qo{A:Around}:(A.under (.builtin "type.__call__" ⟨.ref C::us,kw⟩)).units=A.units+1:=by first|rfl|simp[Around.under,Code.cUnits,Code.frames,Code.isFrame]
theorem fj.make{k:Nat}{A:Around}(r:fj (k+1) A)(C:Addr)(us:List Value)(kw:List (Str×Value)):fj k (A.under (.builtin "type.__call__" ⟨.ref C::us,kw⟩)):=⟨r.hd,by have:=r.dp;rw[Qn];omega,by have:=r.un;rw[Qo];omega⟩
theorem fj.depth{k:Nat}{A:Around}(r:fj k A):A.depth<recursionLimit:=by have:=r.dp;omega
theorem fj.units{k:Nat}{A:Around}(r:fj k A):A.units+64<cLine:=by have:=r.un;omega
def uX:TA:=λ_ H Q=>Q [] H
def Ut(Q:List V->Hp->Prop)(x:V):List V->Hp->Prop:=λxs H2=>Q (x::xs) H2
def Zm(tr:TA)(σ:St)(Q:List V->Hp->Prop):V->Hp->Prop:=λx H1=>tr σ H1 (Ut Q x)
def Qp(ta:TE)(tr:TA):TA:=λσ H Q=>ta σ H (Zm tr σ Q)
section
variable {X:Cx}{e:Expr}{es:List Expr}{te:TE}{t:TA}{pos:Pos}
inductive acE(Q:VK)(xs:List V)(H1:Hp):Prop
 |mk(_:xs.length<=sizeLine)(_:∀p,H1 p=none->Q (.ref p) (upd H1 p (.tup xs)))
def agc(t:TA):TE:=λσ H Q=>t σ H (acE Q)
inductive acF(Q:VK)(xs:List V)(H1:Hp):Prop
 |mk(_:xs.length<=sizeLine)(_:∀p,H1 p=none->Q (.ref p) (upd H1 p (.lst xs)))
def agd(t:TA):TE:=λσ H Q=>t σ H (acF Q)
end
abbrev Sp:=List V->Hp->VK->XK->Prop
abbrev z6:=List Env->Hp->Shared->XK->Value->Shared->Prop
structure BY(P:Program)(w:World)(K:Fg)(mg:SO)(base:Heap)(A:Around)(outer:List Env)(s:Shared)(H:Hp):Prop where
 frames:A.frames=some outer
 mod:Mod K mg base
 bs:∀b o,base.get? b=some o->s.heap.get? b=some o/\H b=none
 Gg:base.objs.size<=s.heap.objs.size
 tL:s.heap.FunFrames base outer
 JF:∀b∈frs outer,H b=none
 hok:ji P w H s.heap
 bare:AllBare s.gens
def CE(outer:List Env)(P:Program)(w:World)(H:Hp)(s:Shared)(Q:VK)(u:Value)(s':Shared):Prop:=∃v H',s'.os=s.os/\AllBare s'.gens/\Un (frs outer) [] H H' s.heap s'.heap/\ji P w H' s'.heap/\RelV v u/\Q v H'
def CR(CX:z6)(outer:List Env)(P:Program)(w:World)(H:Hp)(s:Shared)(Q:VK)(E:XK)(r:Result)(s':Shared):Prop:=match r with
 | .ok (.ret u)=>CE outer P w H s Q u s'
 | .ok _=>False
 | .error e=>CX outer H s E e s'
structure kh(P:Program)(w:World)(K:Fg)(mg:SO)(base:Heap)(CX:z6)(k:Nat)(f:Addr)(fd:FuncData)(ps:List Str)(sp:Sp):Prop where
 len:∀vs H Q E,sp vs H Q E->vs.length=ps.length
 run:∀(A:Around)(outer:List Env)(s:Shared)(H:Hp)(args:Args)(us:List Value)(vs:List V)(Q:VK)(E:XK),fj k A->BY P w K mg base A outer s H->BindsTo s fd args (ps.zip us)->Vals vs us->sp vs H Q E->
  codeAny (model P w) A (.call (.ref f) args) (CR CX outer P w H s Q E) s
variable {mg:SO}{base:Heap}{CX:z6}{f:Addr}{fd:FuncData}{ps:List Str}{sp:Sp}
theorem kh.imp{w:World}{k:Nat}{RD:Sp}(F:kh P w K mg base CX k f fd ps sp)(h:∀vs H Q E,RD vs H Q E->sp vs H Q E):kh P w K mg base CX k f fd ps RD:=
 ⟨λvs H Q E q=>F.len vs H Q E (h _ _ _ _ q),λA outer s H args us vs Q E hr he hb hv hs=>F.run A outer s H args us vs Q E hr he hb hv (h _ _ _ _ hs)⟩
theorem BY.make{w:World}{A:Around}{outer:List Env}(e:BY P w K mg base A outer s H)(C:Addr)(us:List Value)(kw:List (Str×Value)):BY P w K mg base (A.under (.builtin "type.__call__" ⟨.ref C::us,kw⟩)) outer s H:=⟨by first|exact e.frames|(simpa[Around.under,Code.envs,Code.isFrame,pushEnvs]using e.frames),e.mod,e.bs,e.Gg,e.tL,e.JF,e.hok,e.bare⟩
section
variable {X:Cx}{pins:AO}{σ:St}{H:Hp}{s s':Shared}
theorem Inv.Zn(I:Inv X pins σ H s):BY X.prog X.w X.K X.mg X.base X.A X.stack s H:=⟨I.ok.frames,I.ok.mod,I.bs,f_ I.ok.Gg I.sz,I.stack,I.Oh,I.hok,I.bare⟩
theorem Inv.after{Q:VK}(I:Inv X pins σ H s)(h:CE X.stack X.prog X.w H s Q u s'):EP X pins σ Q u s':=by obtain⟨v,H',os,bare,un,hok,r,q⟩:=h;obtain⟨hh,g,d,t,os'⟩:=s';obtain rfl:os'=s.os:=os;exact⟨v,H',I.call (h':=hh) (g':=g) (d':=d) (t':=t) (ch:=[]) un hok bare (λb z=>absurd z (by simp)),r,q⟩
end
def Zo(sp:Sp)(jk:List V)(E:XK)(Q:VK):List V->Hp->Prop:=λvs H1=>sp (vs++jk) H1 Q E
def V8(sp:Sp)(jk:List V)(E:XK)(t:TA):TE:=λσ H Q=>t σ H (Zo sp jk E Q)
def Uu(sp:Sp)(jk:List V)(E:XK)(Q:VK)(x:V):List V->Hp->Prop:=λvs H2=>sp (x::(vs++jk)) H2 Q E
inductive Zp(C:Addr)(m:Str)(sp:Sp)(jk:List V)(E:XK)(t:TA)(σ:St)(Q:VK)(x:V)(H1:Hp):Prop
 |mk(a dx fs:_)(_:x =.ref a)(_:H1 a=some (.ins C dx fs))(_:fs.lookup m=none)(_:t σ H1 (Uu sp jk E Q x))
def Ji(C:Addr)(m:Str)(sp:Sp)(jk:List V)(E:XK)(ta:TE)(t:TA):TE:=λσ H Q=>ta σ H (Zp C m sp jk E t σ Q)
def Zq(C:Addr)(sp:Sp)(jk:List V)(E:XK)(Q:VK):List V->Hp->Prop:=λvs H1=>∀x dx,H1 x=none->H1 dx=none->dx≠x->sp (.ref x::(vs++jk)) (upd (upd H1 dx (.own x)) x (.ins C dx [])) (λv H2=>v =.cT/\Q (.ref x) H2) E
def Jj(C:Addr)(sp:Sp)(jk:List V)(E:XK)(t:TA):TE:=λσ H Q=>t σ H (Zq C sp jk E Q)
def Binds(K:Fg)(fd:FuncData)(ps:List Str)(ds:List Value):Prop:=∀(s:Shared)(us:List Value),K.In s.heap->(us++ds).length=ps.length->BindsTo s fd ⟨us,[]⟩ (ps.zip (us++ds))
theorem Binds.all(h:∀us:List Value,us.length=ps.length->bindArgs fd ⟨us,[]⟩=pure (ps.zip us)):Binds K fd ps [] :=λs us _ hl=>by rw[AW]at hl ⊢;exact .of_eq (h us hl)
def Passes(CX:z6)(X:Cx)(E:XK):Prop:=∀(pins:AO)(σ:St)(H:Hp)(s:Shared)(e:Value)(s':Shared),Inv X pins σ H s->CX X.stack H s E e s'->X.xe e s'
variable {vs:List V}
section
variable {X:Cx}{CX:z6}{k:Nat}{f C:Addr}{fd:FuncData}{ps:List Str}{sp:Sp}{jk:List V}{ds:List Value}{E:XK}{x m:Str}{p pos apos:Pos}{e o:Expr}{es:List Expr}{ta:TE}{t:TA}
theorem JL{Q:VK}(F:kh X.prog X.w X.K X.mg X.base CX k f fd ps sp)(hr:fj k X.A)(hb:Binds X.K fd ps ds)(hd:Vals jk ds)(hx:Passes CX X E)(I:Inv X pins σ H s)(r:Vals vs us)(h:sp (vs++jk) H Q E):wpAny (model X.prog X.w) X.A (call (.ref f) us) (EP X pins σ Q) X.xe s:=by
 have r2:Vals (vs++jk) (us++ds):=r.append hd
 have hl:(us++ds).length=ps.length:=by rw[<-r2.length];exact F.len _ _ _ _ h
 refine wpAny_call (codeAny_mono (F.run X.A X.stack s H ⟨us,[]⟩ (us++ds) (vs++jk) Q E hr I.Zn (hb s us I.uV hl) r2 h) λr s' hq=>?_)
 cases r with
 | error e=>exact hx pins σ H s e s' I hq
 | ok fl=>
   cases fl with
   | ret u=>exact I.after hq
   | next=>exact False.elim hq
   | brk=>exact False.elim hq
   | cont=>exact False.elim hq
theorem Xn(F:kh X.prog X.w X.K X.mg X.base CX k f fd ps sp)(hr:fj k X.A)(hg:Gl X x)(hm:X.mg x=some (.ref f))(hk:PySem.W.keepIn X.K (.ref f)=true)(hb:Binds X.K fd ps ds)(hd:Vals jk ds)(hx:Passes CX X E)(ha:PA X (e::es) t)(hdb:(x==("__debug__":Str))=false:=by decide)(he:starEach (e::es) X.env=(false,eval e X.env)::starEach es X.env:=by rfl)(hpl:(backTo pos (starEach es X.env)).any (·.1)=false:=by rfl):
  PE X (.Call (.Name x p) (e::es) [] pos) (V8 sp jk E t):=by
 intro pins s σ H Q I h
 refine Ju (A1 I hg hm ?_ hdb)
 refine PySem.W.callWith_K (h₀:=X.base) I.ok.mod.Ro hk (br (ha pos pins s σ H _ I h) λus s1 ⟨vs,H1,I1,r,q⟩=>⟨I1.uV,?_⟩) he hpl
 exact JL F hr hb hd hx I1 r q
theorem Xo{pl:Sem Bool}(he:PE X o ta)(c:qM X.K C)(hm:Meth X.K C m f)(F:kh X.prog X.w X.K X.mg X.base CX k f fd ps sp)(hr:fj k X.A)(hb:Binds X.K fd ps ds)(hd:Vals jk ds)(hx:Passes CX X E)(ha:PA X (e::es) t)(hst:starEach (e::es) X.env=(false,eval e X.env)::starEach es X.env:=by rfl)(hpl:(backTo pos (starEach es X.env)).any (·.1)=false:=by rfl)(ht:eval (.Call (.Attribute o m apos) (e::es) [] pos) X.env=(do
    let ov <-eval o X.env
    standAt apos.atName
    let(f,first) <-holding [ov] (getMethod ov m pl)
    callWith pos f first (backTo pos (starEach (e::es) X.env)) (backToKw pos (keywordEach [] X.env))):=by rfl):
  PE X (.Call (.Attribute o m apos) (e::es) [] pos) (Ji C m sp jk E ta t):=by
 intro pins s σ H Q I h
 refine PySem.W.methodCall_KW (pl:=pl) (br (he pins s σ H _ I h) λu s1 ⟨x,H1,I1,rx,a,dx,fs,ex,ea,l,q⟩=>?_) ht
 subst ex
 obtain rfl:u=Value.ref a:=rx
 refine C5 I1 ea c hm l ?_
 refine PySem.W.callWith_K (first:=[.ref a]) (h₀:=X.base) I.ok.mod.Ro hm.kp (br (ha pos pins s1 σ H1 _ I1 q) λus s2 ⟨vs,H2,I2,r,q2⟩=>⟨I2.uV,?_⟩) hst hpl
 exact JL (us:=.ref a::us) (vs:=.ref a::vs) F hr hb hd hx I2 (.cons rfl r) q2
theorem Uv{pl:Sem Bool}(he:PE X o ta)(c:qM X.K C)(hm:Meth X.K C m f)(F:kh X.prog X.w X.K X.mg X.base CX k f fd ps sp)(hr:fj k X.A)(hb:Binds X.K fd ps ds)(hd:Vals jk ds)(hx:Passes CX X E)(ht:eval (.Call (.Attribute o m apos) [] [] pos) X.env=(do
    let ov <-eval o X.env
    standAt apos.atName
    let(f,first) <-holding [ov] (getMethod ov m pl)
    callWith pos f first (backTo pos (starEach [] X.env)) (backToKw pos (keywordEach [] X.env))):=by rfl):
  PE X (.Call (.Attribute o m apos) [] [] pos) (Ji C m sp jk E ta uX):=by
 intro pins s σ H Q I h
 refine PySem.W.methodCall_KW (pl:=pl) (br (he pins s σ H _ I h) λu s1 ⟨x,H1,I1,rx,a,dx,fs,ex,ea,l,q⟩=>?_) ht
 subst ex
 obtain rfl:u=Value.ref a:=rx
 refine C5 I1 ea c hm l ?_
 exact PySem.W.callWith_K0 (first:=[.ref a]) I1.uV hm.kp (JL (us:=[.ref a]) (vs:=[.ref a]) F hr hb hd hx I1 (.cons rfl .nil) q)
structure Mk(K:Fg)(C f:Addr):Prop where
 makes:PySem.W.makesIn K C=true
 init:PySem.W.findIn K (.ref C) "__init__"=some (some (.ref f))
 fn:PySem.W.isFn K (.ref f)=true
 kp:PySem.W.keepIn K (.ref C)=true
theorem JM{Q:VK}(M:Mk X.K C f)(F:kh X.prog X.w X.K X.mg X.base CX k f fd ps sp)(hr:fj (k+1) X.A)(hb:Binds X.K fd ps ds)(hd:Vals jk ds)(hx:Passes CX X E)(I:Inv X pins σ H s)(r:Vals vs us)(h:∀x dx,H x=none->H dx=none->dx≠x->sp (.ref x::(vs++jk)) (upd (upd H dx (.own x)) x (.ins C dx [])) (λv H2=>v =.cT/\Q (.ref x) H2) E):
  wpAny (model X.prog X.w) X.A (call (.ref C) us) (EP X pins σ Q) X.xe s:=by
 have hq:=h (s.heap.objs.size+1) s.heap.objs.size (I.hok.fresh (A0 _)) (I.hok.fresh (aO _)) (d7 (Nat.lt_succ_self _))
 have I2:=Inv.made (C:=C) I
 have r2:Vals (V.ref (s.heap.objs.size+1)::(vs++jk)) (Value.ref (s.heap.objs.size+1)::(us++ds)):=.cons rfl (r.append hd)
 have hl:(Value.ref (s.heap.objs.size+1)::us++ds).length=ps.length:=by have e:=r2.length;rw[F.len _ _ _ _ hq]at e;exact e.symm
 refine wpAny_call (Ur (f:=f) I.uV M.makes M.init (uF.mp M.fn) (codeAny_mono (F.run _ X.stack _ _ ⟨Value.ref (s.heap.objs.size+1)::us,[]⟩ (Value.ref (s.heap.objs.size+1)::(us++ds)) _ _ E (hr.make C us [])
  (I2.Zn.make C us []) (hb _ (Value.ref (s.heap.objs.size+1)::us) I2.uV hl) r2 hq) λr s' hq'=>?_))
 cases r with
 | error e=>exact hx pins σ _ _ e s' I2 hq'
 | ok fl=>
   cases fl with
   | ret u=>
     obtain⟨v,H',I3,rv,ev,q3⟩:=I2.after hq'
     subst ev
     exact⟨rv,⟨V.ref (s.heap.objs.size+1),H',I3,Z,q3⟩⟩
   | next=>exact False.elim hq'
   | brk=>exact False.elim hq'
   | cont=>exact False.elim hq'
theorem Xp(M:Mk X.K C f)(F:kh X.prog X.w X.K X.mg X.base CX k f fd ps sp)(hr:fj (k+1) X.A)(hg:Gl X x)(hm:X.mg x=some (.ref C))(hb:Binds X.K fd ps ds)(hd:Vals jk ds)(hx:Passes CX X E)(ha:PA X (e::es) t)(hdb:(x==("__debug__":Str))=false:=by decide)(he:starEach (e::es) X.env=(false,eval e X.env)::starEach es X.env:=by rfl)(hpl:(backTo pos (starEach es X.env)).any (·.1)=false:=by rfl):
  PE X (.Call (.Name x p) (e::es) [] pos) (Jj C sp jk E t):=by
 intro pins s σ H Q I h
 refine Ju (A1 I hg hm ?_ hdb)
 refine PySem.W.callWith_K (h₀:=X.base) I.ok.mod.Ro M.kp (br (ha pos pins s σ H _ I h) λus s1 ⟨vs,H1,I1,r,q⟩=>⟨I1.uV,?_⟩) he hpl
 exact JM M F hr hb hd hx I1 r q
theorem Uw(M:Mk X.K C f)(F:kh X.prog X.w X.K X.mg X.base CX k f fd ps sp)(hr:fj (k+1) X.A)(hg:Gl X x)(hm:X.mg x=some (.ref C))(hb:Binds X.K fd ps ds)(hd:Vals jk ds)(hx:Passes CX X E)(hdb:(x==("__debug__":Str))=false:=by decide):PE X (.Call (.Name x p) [] [] pos) (Jj C sp jk E uX):=by
 intro pins s σ H Q I h
 refine Ju (A1 I hg hm ?_ hdb)
 exact PySem.W.callWith_K0 I.uV M.kp (JM (us:=[]) M F hr hb hd hx I .nil h)
end
section
variable {X:Cx}{CX:z6}{k:Nat}{f C:Addr}{fd:FuncData}{ps ks:List Str}{sp:Sp}{E:XK}{x m:Str}{p pos apos kpos:Pos}{e o:Expr}{es:List Expr}{kws:List Keyword}{te ta:TE}{t tk:TA}{nm:Option Str}
variable {g:List Value->List Value->List Value}{gV:List V->List V->List V}
end
structure aS(N P:List Str)(sc:Scope):Prop where
 kind:sc.kind =.function
 co:sc.isCoroutine=false
 gen:sc.isGenerator=false
 nd:N.Nodup
 pre:N.take P.length=P
 par:∀x∈P,sc.names.lookup x=some .local\/sc.names.lookup x=some .cell
 Zr:∀y∈sc.names,y.2 ≠ .free
theorem Gk{kindOf:Str->Option NameKind}{x:Str}:∀{binds:List (Str×Value)}{m:SO},(∀v,(x,v)∉binds)->bindL kindOf binds m x=m x
 | [],_,_=>rfl
 | (n,v)::r,m,h=>by
  unfold bindL;rw[Gk λw hw=>h w (b7 _ hw)];split
  .have:x≠n:=by rintro rfl;exact h v cN
   simp[this]
  .rfl
theorem Gm{kindOf:Str->Option NameKind}{x:Str}:∀{binds:List (Str×Value)}{m:SO},(∀v,(x,v)∉binds)->bindC kindOf binds m x=m x
 | [],_,_=>rfl
 | (n,v)::r,m,h=>by
  unfold bindC;rw[Gm λw hw=>h w (b7 _ hw)];split
  .rfl
  .have:x≠n:=by rintro rfl;exact h v cN
   simp[this]
theorem Gn{kindOf:Str->Option NameKind}{x:Str}{v:Value}:∀{P:List Str}{vs:List Value}{i:Nat}{m:SO},P.Nodup->P[i]?=some x->vs[i]?=some v->kindOf x=some .local->bindL kindOf (P.zip vs) m x=some v
 | [],_,_,_,_,h,_,_=>by simp at h
 | _::_,[],_,_,_,_,h,_=>by simp at h
 | p::P,w::vs,0,m,nd,h1,h2,hk=>by simp at h1 h2;subst h1;subst h2;show bindL kindOf ((p,w)::P.zip vs) m p=_;unfold bindL;rw[Gk λv hv=>(fU.mp nd).1 (CO hv).1,aC hk];simp
 | p::P,w::vs,i+1,m,nd,h1,h2,hk=>by show bindL kindOf ((p,w)::P.zip vs) m x=_;unfold bindL;exact Gn (i:=i) (fU.mp nd).2 (by simpa using h1) (by simpa using h2) hk
theorem Gp{kindOf:Str->Option NameKind}{x:Str}{v:Value}:∀{P:List Str}{vs:List Value}{i:Nat}{m:SO},P.Nodup->P[i]?=some x->vs[i]?=some v->kindOf x≠some .local->bindC kindOf (P.zip vs) m x=some v
 | [],_,_,_,_,h,_,_=>by simp at h
 | _::_,[],_,_,_,_,h,_=>by simp at h
 | p::P,w::vs,0,m,nd,h1,h2,hk=>by simp at h1 h2;subst h1;subst h2;show bindC kindOf ((p,w)::P.zip vs) m p=_;unfold bindC;rw[Gm λv hv=>(fU.mp nd).1 (CO hv).1,aB hk];simp
 | p::P,w::vs,i+1,m,nd,h1,h2,hk=>by show bindC kindOf ((p,w)::P.zip vs) m x=_;unfold bindC;exact Gp (i:=i) (fU.mp nd).2 (by simpa using h1) (by simpa using h2) hk
def start(N:List Str)(vs:List V):St:=vs.map some++List.replicate (N.length-vs.length) none
def tN(CX:z6)(P:Program)(w:World)(K:Fg)(mg:SO)(base:Heap)(N:List Str)(qual:Str)(scope:Scope)(f:Addr)(cd:Value)(A:Around)(outer:List Env)(s:Shared)(H:Hp)(E:XK):Cx where
 prog:=P
 w:=w
 K:=K
 mg:=mg
 base:=base
 A:=A.deeper (envOfC qual scope s.heap.objs.size f cd)
 N:=N
 s₀:=s
 H₀:=H
 env:=envOfC qual scope s.heap.objs.size f cd
 outer:=outer
 stack:=envOfC qual scope s.heap.objs.size f cd::outer
 ex:=[]
 calm:=true
 fn:=λ_=>true
 pn:=[]
 xe:=λe s'=>wpAny (model P w) (A.deeper (envOfC qual scope s.heap.objs.size f cd)) (leaving (envOfC qual scope s.heap.objs.size f cd) e) (λ_ s''=>CX outer H s E e s'') (λe' s''=>CX outer H s E e' s'') s'
theorem JN{sc:Scope}(h:sc.names.lookup x=some .cell):∃c,(cellsFrom n sc.names []).lookup x=some c:=by have q:=PySem.W.cellsFrom_some sc.names n [] (.inl h);exact Option.isSome_iff_exists.mp q
variable {qual:Str}{scope:Scope}
theorem RE{w:World}{cd:Value}{A:Around}{outer:List Env}{s1:Shared}{E:XK}(S:aS N ps scope)(hd:A.handled=none)(e0:BY P w K mg base A outer s H)(hl:vs.length=ps.length)(r:Vals vs us)(x:InCallC s s.heap.objs.size (bindL (envOfC qual scope s.heap.objs.size f cd).kindOf (ps.zip us) λ_=>none) (cellsFrom (s.heap.objs.size+1) scope.names []) (bindC (envOfC qual scope s.heap.objs.size f cd).kindOf (ps.zip us) λ_=>none) s1):
  Inv (tN CX P w K mg base N qual scope f cd A outer s H E) [] (start N vs) H s1:=by
 have hpl:ps.length<=N.length:=by have:=eV List.length S.pre;rw[nK]at this;omega
 obtain⟨h1,tk,rfl,hk⟩:=x.done
 have RG:∀b:Addr,b∉(tN CX P w K mg base N qual scope f cd A outer s H E).ex:=λb z=>absurd (show b∈([] :List Addr)from z) (by simp)
 refine⟨⟨e0.mod,S.kind,Z,Z,aO _,λy z c h1 h2=>?_,λy hy=>?_,λy c _ h=>?_,λ_=>hd,Around.frames_deeper e0.frames,.inr ⟨Z,Z⟩,λb z=>absurd z (RG b),e0.bs,e0.Gg,λb _ _=>RG b,λb z=>absurd z (RG b),e0.tL,e0.JF⟩,
  rfl,e0.bare,Un.kept hk,⟨_,x.toInCall.ns,λi y v h1 h2 h3=>?_⟩,λy c h=>⟨_,x.cell y c h⟩,e0.hok.fresh (aO _),λy c h=>?_,λp hp=>absurd (show p∈([] :AO)from hp) (by simp),e0.hok.kept hk,?_⟩
 . exact name_of_addr x.apart (yr h1) (yr h2)
 . have hy:scope.names.lookup y=some .cell\/scope.names.lookup y=some .free:=hy
   rcases hy with hy|hy
   . exact JN hy
   . exact absurd rfl (S.Zr _ (yr hy))
 . exact CV (x.above y c (yr h))
 . have hi:i<vs.length:=by
    unfold start at h2
    by_cases hi:i<vs.length
    . exact hi
    . rw[CL (by simpa using hi)]at h2
      rw[PJ]at h2
      split at h2 <;> cases h2
   have ha:vs[i]?=some v:=by
    unfold start at h2;rw[zP (by simpa using hi),cK]at h2;cases e:vs[i]? with
    | none=>rw[e]at h2;cases h2
    | some a=>rw[e]at h2;cases h2;rfl
   obtain⟨u,hu,rv⟩:=r.get ha
   have hp:ps[i]?=some y:=by rw[<-S.pre,List.getElem?_take_of_lt (by omega)];exact h1
   have ndP:ps.Nodup:=by rw[<-S.pre];exact S.nd.sublist (Qa _ _)
   refine⟨u,rv,?_⟩
   rcases S.par y (cC hp)with k|k
   . exact .inl ⟨k,Gn ndP hp hu k⟩
   . obtain⟨c,e⟩:=JN (n:=s.heap.objs.size+1) k
     refine .inr ⟨.inl k,c,e,?_⟩
     have q:=x.cell y c e
     rw[Gp ndP hp hu (by show scope.names.lookup y≠_;rw[k];decide)]at q
     exact q
 . exact e0.hok.fresh (CV (x.above y c (yr h)))
 . unfold start
   show _=N.length
   rw[c7,aG,jW]
   omega
variable {body:List Stmt}{doc pm cdv ct oc:Value}{an od:Option Addr}
theorem acG{w:World}{k:Nat}{name:Str}{params:Arguments}{dV kV:Value}{osl:Array (Option Value)}{N ps:List Str}{sp:Sp}(lk:K.lookup f=some ⟨oc,od,.func (PySem.W.fnOf name qual params body scope dV kV doc pm an cdv ct),osl⟩)(hcd:PySem.W.codeIn K cdv qual=true)(S:aS N ps scope)(len:∀vs H Q E,sp vs H Q E->vs.length=ps.length)(hbody:∀(A:Around) (outer:List Env) (s:Shared) (H:Hp) (vs:List V) (Q:VK) (E:XK),fj k (A.deeper (envOfC qual scope s.heap.objs.size f cdv))->sp vs H Q E->
    ∃t,wJ (tN CX P w K mg base N qual scope f cdv A outer s H E) body t/\t { nx:=λ_ H'=>Q .cT H',rt:=Q } (start N vs) H):
  kh P w K mg base CX (k+1) f (PySem.W.fnOf name qual params body scope dV kV doc pm an cdv ct) ps sp:=by
 refine⟨len,λA outer s H args us vs Q E hr e0 hb r uY=>?_⟩
 have hl:=len _ _ _ _ uY
 have KX:K.In s.heap:=e0.mod.Ro.keeps λb o e=>(e0.bs b o e).1
 have lim:s.heap.NoLimit:=e0.mod.nolimit.keeps λb o e=>(e0.bs b o e).1
 have hkind:∀y∈ps.zip us,scope.names.lookup y.1=some .local\/(scope.names.lookup y.1=some .cell/\((cellsFrom (s.heap.objs.size+1) scope.names []).lookup y.1).isSome=true):=λ⟨n,v⟩ hy=>by
  rcases S.par n (CO hy).1 with q|q
  .exact .inl q
  .exact .inr ⟨q,PySem.W.cellsFrom_some _ _ _ (.inl q)⟩
 refine codeAny_call_function hr.depth (KX _ _ lk) rfl S.co S.gen rfl (PySem.W.codeRec_of KX hcd) (hb _ _ _ _ ?_)
 refine wpAny_newFunctionEnv_cells S.kind hkind λenv he s1 x=>?_
 subst he
 refine⟨lim.keeps x.toInCall.keep,codeAny_func ?_⟩
 obtain⟨t,ht,hq⟩:=hbody A outer s H vs Q E (hr.deeper _) uY
 have I:Inv (tN CX P w K mg base N qual scope f cdv A outer s H E) [] (start N vs) H s1:=RE S hr.hd e0 hl r x
 refine gG (ht [] s1 (start N vs) H _ I hq) (λfl s' hs=>?_) λe s' hs=>hs
 have fin:∀{σ':St}{H':Hp}{v:V}{u:Value},Inv (tN CX P w K mg base N qual scope f cdv A outer s H E) [] σ' H' s'->RelV v u->Q v H'->CE outer P w H s Q u s':=
  λ{σ' H' v u} J rv q=>⟨v,H',J.os,J.bare,J.base,J.hok,rv,q⟩
 cases fl with
 | ret u=>
   obtain⟨v,σ',H',J,rv,q⟩:=hs
   exact fin J rv q
 | next=>
   obtain⟨σ',H',J,q⟩:=hs
   exact fin (v:=V.cT) (u:=Value.none) J rfl q
 | brk=>
   obtain⟨_,_,_,q⟩:=hs
   exact False.elim q
 | cont=>
   obtain⟨_,_,_,q⟩:=hs
   exact False.elim q
section
variable {X:Cx}{x:Str}{p pos:Pos}{e:Expr}{es:List Expr}{t:TA}{id T:String}{r:List V->Hp->VK->Prop}
def age(r:List V->Hp->VK->Prop)(Q:VK):List V->Hp->Prop:=λvs H1=>r vs H1 Q
def Zs(r:List V->Hp->VK->Prop)(t:TA):TE:=λσ H Q=>t σ H (age r Q)
end
end L2
namespace HT
open PySem PyProof.Rows
section
open PySem.SeqAt
open PySem.AutoSeq1 (wpAny_loadPart')
open PySem.MeetsSeq PySem.MeetsSeq2 PySem.MeetsSeq3
end
section
variable {prog:Program}{w:World}{A:Around}{E:VS}{s:Shared}
end
end HT
namespace L2
open PySem PySem.Spec PyProof.Rows
variable {ns:List Int}
theorem intsAre_of:∀{us:List Value},Vals (ns.map V.int) us->IntsAre us ns:=by
 induction ns with
 | nil=>intro us r;rw[List.map_nil]at r;cases r;exact .nil
 | cons n ns ih=>
  intro us r;rw[bz]at r;cases r with
  | cons r1 r2=>obtain⟨t,e⟩:=r1;subst e;exact .cons n t (ih r2)
section
variable {X:Cx}{e:Expr}{te:TE}{lo hi:Option Expr}{tl th:TO}{pos p2:Pos}
end
def C7(n:Nat)(i:Int):Option Nat:=if 0<=i then(if i<n then some i.toNat else none) else if -(n:Int)<=i then some (i+n).toNat else none
def sO{α:Type}(xs:List α)(i:Int):Option α:=(C7 xs.length i).bind λj=>xs[j]?
variable {n j:Nat}
theorem Ol{i:Int}(h:C7 n i=some j):seqIndex? i n=some j/\j<n/\-(n:Int)<=i/\i<n:=by
 unfold C7 at h;by_cases h0:0<=i
 .rw [aC h0]at h;by_cases h1:i<n
  .rw [aC h1]at h;have e:i.toNat=j:=fm h;exact⟨by rw[seqIndex_of h0 h1,e],by omega,by omega,h1⟩
  .rw [aB h1]at h;cases h
 .rw [aB h0]at h;by_cases h1:-(n:Int)<=i
  .rw [aC h1]at h;have e:(i+n).toNat=j:=fm h;exact⟨by rw[seqIndex_neg (by omega) h1,e],by omega,h1,by omega⟩
  .rw [aB h1]at h;cases h
theorem A_{α:Type}{xs:List α}{i:Int}{v:α}(h:sO xs i=some v):∃j,seqIndex? i xs.length=some j/\xs[j]?=some v/\j<xs.length/\-(xs.length:Int)<=i/\i<xs.length:=by
 unfold sO at h;cases e:C7 xs.length i with
 | none=>rw[e]at h;cases h
 | some j=>rw[e]at h;obtain⟨h1,h2,h3,h4⟩:=Ol e;exact⟨j,h1,h,h2,h3,h4⟩
theorem aM{α:Type}{xs:List α}{v:α}(h:xs[j]?=some v):sO xs (j:Int)=some v:=by
 have hj:j<xs.length:=(ee.mp h).1;have e:C7 xs.length (j:Int)=some j:=by unfold C7;rw[aC (by omega),aC (by omega)];simp
 unfold sO;rw[e];exact h
def Xq(b:Expr):Prop:=∀o i,subscripted b false o i=operate [o,i] (getItem o i)
def zy(X:Cx)(r:R2):Prop:=∀(value slice:Expr)(pins:AO)(s:Shared)(σ:St)(H:Hp)(x y:V)(v u:Value)(Q:VK),Inv X pins σ H s->RelV x v->RelV y u->r x y H Q->subscripted slice false v u=operate [v,u] (getItem v u)->wpAny (model X.prog X.w) X.A (subscriptTail value slice v u) (EP X pins σ Q) X.xe s
def MtR(X:Cx)(id:String)(r:V->List V->Hp->VK->Prop):Prop:=∀(pins:AO)(s:Shared)(σ:St)(H:Hp)(x:V)(xs:List V)(v:Value)(us:List Value)(Q:VK),Inv X pins σ H s->RelV x v->Vals xs us->r x xs H Q->wpAny (model X.prog X.w) X.A (call (.builtin id) (v::us)) (EP X pins σ Q) X.xe s
variable {pins:AO}{σ:St}{H:Hp}{s:Shared}{xs ys:List V}{its its':List Value}{y:V}{u:Value}
section
variable {X:Cx}{a b:Expr}{ta tb:TE}{pos:Pos}
theorem zy.or{r r':R2}(h:zy X r)(h':zy X r'):zy X (λx y H Q=>r x y H Q\/r' x y H Q):=by
 intro value slice pins s σ H x y v u Q I rx ry q hs;rcases q with q|q
 .exact h value slice pins s σ H x y v u Q I rx ry q hs
 .exact h' value slice pins s σ H x y v u Q I rx ry q hs
inductive Qq(K:Fg)(x:V)(y:V)(H:Hp)(Q:VK):Prop
 |mk(p xs i v:_)(_:x =.ref p)(_:y =.int i)(_:aI K H p xs)(_:sO xs i=some v)(_:Q v H)
inductive Qs(K:Fg)(x:V)(y:V)(H:Hp)(Q:VK):Prop
 |mk(p xs i v:_)(_:x =.ref p)(_:y =.int i)(_:dz K H p xs)(_:sO xs i=some v)(_:Q v H)
inductive Zt(x:V)(y:V)(H:Hp)(Q:VK):Prop
 |mk(z i c:_)(_:x =.str z)(_:y =.int i)(_:z.length<=sizeLine)(_:sO z.cps.toList i=some c)(_:Q (.str ⟨#[c]⟩) H)
theorem Om:zy X (Qq X.K):=by
 intro value slice pins s σ H x y v u Q I rx ry h hs;obtain⟨p,xs,i,z,rfl,rfl,hq,he,q⟩:=h;cases rx;obtain⟨t,rfl⟩:=ry;obtain⟨its,r,pl,hz⟩:=I.list hq;obtain⟨j,h1,h2,h3,h4,h5⟩:=A_ he;obtain⟨w,ew,rw'⟩:=r.get h2;have hl:=r.length;have hn:=uW;have fin:EP X pins σ Q w s:=⟨z,H,I,rw',q⟩
 by_cases h0:0<=i
 .have hj:i.toNat=j:=by rw[seqIndex_of h0 h5]at h1;exact fm h1
  exact item_listR pl.isList h0 (by omega) (by rw[hj];simpa using ew) fin hs
 .have hj:(i+(its.toArray.size:Int)).toNat=j:=by rw[seqIndex_neg (by omega) h4]at h1;rw[iI,<-hl];exact fm h1
  exact subscriptTail_builtinR (x:=w) pl.isList.typeIs slot_list_getitem.lookup
   (wpAny_getItem_list_neg (Q:=λr s'=>r=w/\EP X pins σ Q r s') pl.isList (by omega) (by rw[iI] <;> omega) (by omega) (by rw[hj];simpa using ew) ⟨Z,fin⟩) hs
theorem RH:zy X (Qs X.K):=by
 intro value slice pins s σ H x y v u Q I rx ry h hs;obtain⟨p,xs,i,z,rfl,rfl,hq,he,q⟩:=h;cases rx;obtain⟨t,rfl⟩:=ry;obtain⟨its,r,pl,hz⟩:=I.tuple hq;obtain⟨j,h1,h2,h3,h4,h5⟩:=A_ he;obtain⟨w,ew,rw'⟩:=r.get h2;have hl:=r.length;have hn:=uW;have fin:EP X pins σ Q w s:=⟨z,H,I,rw',q⟩
 exact subscriptTail_builtinR (x:=w) pl.typeIs slot_tuple_getitem.lookup
  (getItem_tuple (j:=j) (Q:=λr s'=>r=w/\EP X pins σ Q r s') pl (by omega) (by omega) (by rw[iI,<-hl];exact h1) (by simpa using ew) ⟨Z,fin⟩) hs
theorem RI:zy X Zt:=by
 intro value slice pins s σ H x y v u Q I rx ry h hs;obtain⟨z,i,c,rfl,rfl,hz,he,q⟩:=h;obtain⟨t,rfl⟩:=rx;obtain⟨t',rfl⟩:=ry;obtain⟨j,h1,h2,h3,h4,h5⟩:=A_ he;have hl:z.cps.toList.length=z.length:=by simp[Str.length]
 rw[hl]at h1 h4 h5;have hn:=uW;exact tail_any (typeIs_str s z t) slot_str_getitem.lookup (getItem_str (c:=c) (by have e1:decide (i < -(2 ^ 63:Int))=false:=dG (by omega);have e2:decide (i≥2 ^ 63)=false:=dG (by omega);rw[e1,e2,Bool.or_false]) (by rw[h1];simpa using h2) ⟨.str ⟨#[c]⟩,H,I.tok _,⟨_,Z⟩,q⟩) hs
def Zu(K:Fg):R2:=λx y H Q=>Qq K x y H Q\/Qs K x y H Q\/Zt x y H Q
theorem Zv:zy X (Zu X.K):=Om.or (RH.or RI)
theorem Qt(its:List Value)(n j:Nat)(u:Value):Obj.mapSeq (·.setIfInBounds j u) { cls:=.type "list",data:=.seq its.toArray n }={ cls:=.type "list",data:=.seq (its.set j u).toArray n }:=by simp[Obj.mapSeq]
theorem Inv.lst{pins:AO}{σ:St}{H:Hp}{s:Shared}{p:Addr}{xs:List V}(I:Inv X pins σ H s)(h:H p=some (.lst xs)):∃(its:List Value)(n:Nat),Vals xs its/\s.heap.get? p=some { cls:=.type "list",data:=.seq its.toArray n }/\xs.length<=sizeLine:=by obtain⟨z,its,n,r,e⟩:=I.hok p _ h;exact⟨its,n,r,e,z⟩
theorem Inv.Zw{p:Addr}{n':Nat}{f:Obj->Obj}(I:Inv X pins σ H s)(h:H p=some (.lst xs))(ho:s.heap.get? p=some { cls:=.type "list",data:=.seq its.toArray n })(hf:f { cls:=.type "list",data:=.seq its.toArray n }={ cls:=.type "list",data:=.seq its'.toArray n' })(r:Vals ys its')(hz:ys.length<=sizeLine)(t:Nat):
  Inv X pins σ (upd H p (.lst ys)) { s with heap:=s.heap.update p f,toks:=t }:=by
 have e:(s.heap.update p f).get? p=some { cls:=.type "list",data:=.seq its'.toArray n' }:=by rw[BN f ho (by rw[hf] <;> rfl),hf]
 refine I.write (x:=p) (e:=p) (by rw[h];trivial) (.inl rfl) (λb u hb q=>(Jr _ _ (bY hb)).trans q) ⟨_,e⟩ ?_
 exact⟨hz,its',n',r,e⟩
inductive acH(o:V)(i:V)(v:V)(H:Hp)(Q:Hp->Prop):Prop
 |mk(p xs k j:_)(_:o =.ref p)(_:i =.int k)(_:H p=some (.lst xs))(_:C7 xs.length k=some j)(_:Q (upd H p (.lst (xs.set j v))))
theorem set_list:Ue X acH:=by
 intro pins s σ H o i v ov iv u Q I ro ri rv h;obtain⟨p,xs,k,j,rfl,rfl,hp,hj,q⟩:=h;cases ro;obtain⟨t,rfl⟩:=ri;obtain⟨its,n,r,ho,hz⟩:=I.lst hp;obtain⟨h1,h2,h3,h4⟩:=Ol hj;have hl:=r.length;have hn:=uW;have I':Inv X pins σ (upd H p (.lst (xs.set j v))) { s with heap:=s.heap.update p (Obj.mapSeq (·.setIfInBounds j u)) }:=
  I.Zw hp ho (Qt its n j u) (r.set rv j) (by rw[iA];exact hz) s.toks
 by_cases h0:0<=k
 .have hk:k.toNat=j:=by rw[seqIndex_of h0 h4]at h1;exact fm h1
  exact PySem.W.ki_setAt ho h0 (by omega) (by rw[iI,<-hl];exact h4) (by rw[hk];exact⟨_,I',q⟩)
 .have hk:(k+(its.toArray.size:Int)).toNat=j:=by rw[seqIndex_neg (by omega) h3]at h1;rw[iI,<-hl];exact fm h1
  exact PySem.W.ki_setBack ho (by omega) (by rw[iI,<-hl];exact h3) (by omega) (by rw[hk];exact⟨_,I',q⟩)
def rV:V->Bool
 | .cT=>true
 | .bl _=>true
 | .int _=>true
 | .str _=>true
 | _=>false
def zz:V->V->Bool
 | .cT,.cT=>true
 | .bl a,.bl b=>a==b
 | .bl a,.int b=>(if a then 1 else 0)==b
 | .int a,.bl b=>a==(if b then 1 else 0)
 | .int a,.int b=>a==b
 | .str a,.str b=>a==b
 | _,_=>false
theorem Zx{A:Around}{x:V}{v:Value}(ry:RelV y u)(rx:RelV x v)(fy:rV y=true)(fx:rV x=true):SeqAt.EqAt A s u v (zz y x):=by
 cases y with
 | cT=>
  cases ry;cases x with
  | cT=>cases rx;exact SeqAt.EqAt.same _
  | bl b=>cases rx;exact SeqAt.EqAt.none_bool b
  | int b=>obtain⟨t,rfl⟩:=rx;exact SeqAt.EqAt.none_int b t
  | str b=>obtain⟨t,rfl⟩:=rx;exact SeqAt.EqAt.none_str b t
  | _=>exact absurd (show false=true from fx) iH
 | bl a=>
  cases ry;cases x with
  | cT=>cases rx;exact SeqAt.EqAt.bool_none a
  | bl b=>cases rx;exact SeqAt.EqAt.bool_bool a b
  | int b=>obtain⟨t,rfl⟩:=rx;exact SeqAt.EqAt.bool_int a b t
  | str b=>obtain⟨t,rfl⟩:=rx;exact SeqAt.EqAt.bool_str a b t
  | _=>exact absurd (show false=true from fx) iH
 | int a=>
  obtain⟨t',rfl⟩:=ry;cases x with
  | cT=>cases rx;exact SeqAt.EqAt.int_none a t'
  | bl b=>cases rx;exact SeqAt.EqAt.int_bool a t' b
  | int b=>obtain⟨t,rfl⟩:=rx;exact SeqAt.EqAt.int_int a t' b t
  | str b=>obtain⟨t,rfl⟩:=rx;exact SeqAt.EqAt.int_str a t' b t
  | _=>exact absurd (show false=true from fx) iH
 | str a=>
  obtain⟨t',rfl⟩:=ry;cases x with
  | cT=>cases rx;exact SeqAt.EqAt.str_none a t'
  | bl b=>cases rx;exact SeqAt.EqAt.str_bool a t' b
  | int b=>obtain⟨t,rfl⟩:=rx;exact SeqAt.EqAt.str_int a t' b t
  | str b=>obtain⟨t,rfl⟩:=rx;exact SeqAt.EqAt.str_str a t' b t
  | _=>exact absurd (show false=true from fx) iH
 | _=>exact absurd (show false=true from fy) iH
def uZ(x:V)(u:Value):Bool:=match u with
 | .none=>zz .cT x
 | .bool b=>zz (.bl b) x
 | .int i _=>zz (.int i) x
 | .str z _=>zz (.str z) x
 | _=>false
theorem RJ{x:V}(r:RelV y u)(f:rV y=true):uZ x u=zz y x:=by
 cases y with
 | cT=>cases r;rfl
 | bl b=>cases r;rfl
 | int i=>obtain⟨t,rfl⟩:=r;rfl
 | str z=>obtain⟨t,rfl⟩:=r;rfl
 | _=>exact absurd (show false=true from f) iH
theorem xZ{x:V}:∀{xs:List V}{us:List Value},Vals xs us->xs.all rV=true->us.any (uZ x)=xs.any λy=>zz y x
 | _,_,.nil,_=>rfl
 | y::xs,u::us,.cons r t,f=>by rw[List.all_cons,Bool.and_eq_true]at f;rw[CT,CT,RJ r f.1,xZ t f.2]
theorem u0{A:Around}{s:Shared}{x:V}{v:Value}(rx:RelV x v)(fx:rV x=true):∀{xs:List V}{us:List Value},Vals xs us->xs.all rV=true->∀u∈us,SeqAt.EqAt A s u v (uZ x u)
 | _,_,.nil,_=>λu hu=>by cases hu
 | y::xs,u::us,.cons r t,f=>λu' hu=>by
  rw[List.all_cons,Bool.and_eq_true]at f;rcases b8.mp hu with rfl|hu
  .rw [RJ r f.1];exact Zx r rx f.1 fx
  .exact u0 rx fx t f.2 u' hu
def C9(x:V)(xs:List V):Bool:=xs.any λy=>zz y x
inductive rIn(K:Fg)(neg:Bool)(x:V)(y:V)(H:Hp)(Q:VK):Prop
 |mk(p xs:_)(_:y =.ref p)(_:(aI K H p xs\/dz K H p xs))(_:rV x=true)(_:xs.all rV=true)(_:Q (.bl (if neg then !C9 x xs else C9 x xs)) H)
theorem Gq:jA X (compareOp .In) (rIn X.K false):=by
 intro pins s σ H x y v u Q I rx ry h;obtain⟨p,xs,rfl,hq,fx,fs,q⟩:=h;cases ry;rcases hq with hq|hq
 .obtain ⟨its,r,pl,hz⟩:=I.list hq;refine SeqAt.in_listAt (uZ x) pl.isList (λw hw=>u0 rx fx r fs w (by simpa using hw)) ⟨.bl _,H,I,Z,?_⟩;rw[show its.toArray.any (uZ x)=its.any (uZ x) by simp,xZ r fs];exact q
 .obtain ⟨its,r,pl,hz⟩:=I.tuple hq;refine SeqAt.in_tupleAt (uZ x) pl (λw hw=>u0 rx fx r fs w (by simpa using hw)) ⟨.bl _,H,I,Z,?_⟩;rw[show its.toArray.any (uZ x)=its.any (uZ x) by simp,xZ r fs];exact q
theorem JO:jA X (compareOp .NotIn) (rIn X.K true):=by
 intro pins s σ H x y v u Q I rx ry h;obtain⟨p,xs,rfl,hq,fx,fs,q⟩:=h;cases ry;rcases hq with hq|hq
 .obtain ⟨its,r,pl,hz⟩:=I.list hq;refine SeqAt.notIn_listAt (uZ x) pl.isList (λw hw=>u0 rx fx r fs w (by simpa using hw)) ⟨.bl _,H,I,Z,?_⟩;rw[show its.toArray.any (uZ x)=its.any (uZ x) by simp,xZ r fs];exact q
 .obtain ⟨its,r,pl,hz⟩:=I.tuple hq;refine SeqAt.notIn_tupleAt (uZ x) pl (λw hw=>u0 rx fx r fs w (by simpa using hw)) ⟨.bl _,H,I,Z,?_⟩;rw[show its.toArray.any (uZ x)=its.any (uZ x) by simp,xZ r fs];exact q
theorem JP:i9 X (.builtin "len") (λxs H Q=>∃p ys,xs=[.ref p]/\(aI X.K H p ys\/dz X.K H p ys)/\Q (.int ys.length) H):=by
 intro pins s σ H xs us Q I r h;obtain⟨p,ys,rfl,hq,q⟩:=h;obtain⟨u,rfl,rx⟩:=vals1 r;cases rx;have hn:=uW;rcases hq with hq|hq
 .obtain ⟨its,r',pl,hz⟩:=I.list hq;have hlen:=r'.length;exact Calls.call_len_list pl.isList (by simp only[iI] <;> omega) ⟨.int ys.length,H,I.tok _,⟨s.toks+1,by rw[iI,hlen]⟩,q⟩
 .obtain ⟨its,r',pl,hz⟩:=I.tuple hq;have hlen:=r'.length;exact len_tuple pl (by simp only[iI] <;> omega) ⟨.int ys.length,H,I.tok _,⟨s.toks+1,by rw[iI,hlen]⟩,q⟩
theorem JQ:i9 X (.builtin "len") (λxs H Q=>∃z,xs=[.str z]/\z.length<=sizeLine/\Q (.int z.length) H):=by intro pins s σ H xs us Q I r h;obtain⟨z,rfl,hz,q⟩:=h;obtain⟨u,rfl,t,rfl⟩:=vals1 r;have hn:=uW;exact len_str (by omega) ⟨.int z.length,H,I.tok _,⟨_,Z⟩,q⟩
theorem JR:i9 X (.type "list") (λxs H Q=>∃p ys,xs=[.ref p]/\(aI X.K H p ys\/dz X.K H p ys)/\∀l,H l=none->Q (.ref l) (upd H l (.lst ys))):=by
 intro pins s σ H xs us Q I r h;obtain⟨p,ys,rfl,hq,q⟩:=h;obtain⟨u,rfl,rx⟩:=vals1 r;cases rx;have fin:∀(its:List Value),Vals ys its->ys.length<=sizeLine->∀(h':Heap)(c':Nat),(∀b o',s.heap.get? b=some o'->h'.get? b=some o')->
   h'.get? s.heap.objs.size=some { cls:=.type "list",dict:=none,data:=.seq its.toArray c',slots:=#[] }->EP X pins σ Q (.ref s.heap.objs.size) { s with heap:=h' }:=λits r' hz h' c' kp e=>
  ⟨.ref s.heap.objs.size,_,I.laid (t':=s.toks) kp (aO _) (show fJ X.prog X.w _ h' _ (.lst ys)from⟨hz,its,c',r',e⟩),Z,q _ (I.hok.fresh (aO _))⟩
 rcases hq with hq|hq
 .obtain ⟨its,r',pl,hz⟩:=I.list hq;have hlen:=r'.length;obtain⟨o,ho,hc,n,hd⟩:=pl.isList;exact call_list_seq p (.inl rfl) ho hc hd (λh' c' kp e=>fin its r' hz h' c' kp e) (by simp only[iI] <;> omega)
 .obtain ⟨its,r',pl,hz⟩:=I.tuple hq;have hlen:=r'.length;obtain⟨o,ho,hc,n,hd⟩:=pl;exact call_list_seq p (.inr rfl) ho hc hd (λh' c' kp e=>fin its r' hz h' c' kp e) (by simp only[iI] <;> omega)
theorem HB:i9 X (.type "tuple") (λxs H Q=>∃p ys,xs=[.ref p]/\((aI X.K H p ys/\∀l,H l=none->Q (.ref l) (upd H l (.tup ys)))\/(dz X.K H p ys/\Q (.ref p) H))):=by
 intro pins s σ H xs us Q I r h;obtain⟨p,ys,rfl,h⟩:=h;obtain⟨u,rfl,rx⟩:=vals1 r;cases rx;rcases h with⟨hq,q⟩|⟨hq,q⟩
 .obtain ⟨its,r',pl,hz⟩:=I.list hq;have hlen:=r'.length;refine call_tuple_list pl.isList (λh' kp=>?_) (by simp only[iI] <;> omega);have I1:Inv X pins σ H { s with heap:=h' }:=I.kept (t':=s.toks) kp;have I2:Inv X pins σ (upd H h'.objs.size (.tup ys)) { s with heap:=h'.push { cls:=.type "tuple",data:=.seq its.toArray } }:=
   I1.laid (t':=s.toks) (λb o e=>cy _ e) (aO _) (show fJ X.prog X.w _ _ _ (.tup ys)from⟨hz,its,r',IsTup.new _ _⟩)
  exact⟨.ref h'.objs.size,_,I2,Z,q _ (I1.hok.fresh (aO _))⟩
 .obtain ⟨its,r',pl,hz⟩:=I.tuple hq;exact call_tuple_same pl ⟨.ref p,H,I,Z,q⟩
def tyV(K:Fg)(T:String)(x:V)(H:Hp):Prop:=match x with
 | .str _=>T = "str"
 | .int _=>T = "int"
 | .ref p=>(T = "list"/\∃xs,aI K H p xs)\/(T = "tuple"/\∃o,K.lookup p=some o/\o.cls =.type "tuple"/\o.dict=none)\/
     (T = "dict"/\((∃kvs,H p=some (.dK kvs))\/∃kvs,H p=some (.dT kvs)))\/(T = "set"/\∃S n,H p=some (.set S n))
 | _=>False
theorem Zy{T:String}{x:V}{v:Value}(I:Inv X pins σ H s)(r:RelV x v)(ty:tyV X.K T x H):s.TypeIs v T/\∀a,v =.ref a->∃ob,s.heap.get? a=some ob/\ob.dict=none:=by
 cases x with
 | str z=>obtain⟨t,rfl⟩:=r;cases(show T = "str" from ty);exact⟨typeIs_str s z t,λ_ e=>nomatch e⟩
 | int i=>obtain⟨t,rfl⟩:=r;cases(show T = "int" from ty);exact⟨typeIs_int s i t,λ_ e=>nomatch e⟩
 | ref p=>
  cases r;rcases ty with⟨rfl,xs,hq⟩|⟨rfl,o,hk,hc,hd⟩|⟨rfl,hk⟩|⟨rfl,S,n,hk⟩
  .obtain ⟨its,_,pl,_⟩:=I.list hq;refine⟨pl.isList.typeIs,λa e=>?_⟩;cases e;obtain⟨o,n,e,c,hd,_⟩:=pl;exact⟨o,e,hd⟩
  .refine ⟨⟨o,I.uV p o hk,hc⟩,λa e=>?_⟩;cases e;exact⟨o,I.uV _ o hk,hd⟩
  .have z:∃o,s.heap.get? p=some o/\o.ExactDict:=by
    rcases hk with⟨kvs,hk⟩|⟨kvs,hk⟩
    .obtain ⟨_,_,_,_,o,_,_,e,ex,_⟩:=I.hok p _ hk;exact⟨o,e,ex⟩
    .obtain ⟨_,_,_,_,o,_,_,e,ex,_⟩:=I.hok p _ hk;exact⟨o,e,ex⟩
   obtain⟨o,e,ex⟩:=z;refine⟨⟨o,e,ex.1⟩,λa e2=>?_⟩;cases e2;exact⟨o,e,ex.2.1⟩
  .obtain ⟨o,_,_,_,e,ex,_⟩:=I.hok p _ hk;refine⟨⟨o,e,ex.1⟩,λa e2=>?_⟩;cases e2;exact⟨o,e,ex.2.1⟩
 | _=>exact False.elim ty
def Zz(r:V->List V->Hp->VK->Prop)(Q:VK)(x:V):List V->Hp->Prop:=λxs H2=>r x xs H2 Q
inductive agf(K:Fg)(T:String)(r:V->List V->Hp->VK->Prop)(t:TA)(σ:St)(Q:VK)(x:V)(H1:Hp):Prop
 |mk(_:tyV K T x H1)(_:t σ H1 (Zz r Q x))
def tBM(K:Fg)(T:String)(r:V->List V->Hp->VK->Prop)(to:TE)(t:TA):TE:=λσ H Q=>to σ H (agf K T r t σ Q)
variable {o e:Expr}{es:List Expr}{to:TE}{t:TA}{name:Str}{apos cpos:Pos}{T id:String}{r:V->List V->Hp->VK->Prop}
end
def MtM(X:Cx)(id:String)(r:V->List V->Hp->VK->Prop):Prop:=∀(pins:AO)(s:Shared)(σ:St)(H:Hp)(x:V)(xs:List V)(v:Value)(us:List Value)(Q:VK),Inv X pins σ H s->RelV x v->Vals xs us->r x xs H Q->wpAny (model X.prog X.w) X.A (call (.builtin id) (v::us)) (EP X pins σ Q) X.xe s
theorem Vals.one:∀{x:V}{us:List Value},Vals [x] us->∃u,us=[u]/\RelV x u
 | _,_,.cons r .nil=>⟨_,Z,r⟩
variable {us:List Value}
theorem Vals.reverse(h:Vals xs us):Vals xs.reverse us.reverse:=by
 induction h with
 | nil=>exact .nil
 | cons r t ih=>rw[List.reverse_cons,List.reverse_cons];exact Vals.append ih (.cons r .nil)
theorem Vals.rep{xs:List V}{us:List Value}(h:Vals xs us):∀k:Nat,Vals (List.replicate k xs).flatten (List.replicate k us).flatten
 | 0=> .nil
 | k+1=>by rw[BQ,BQ,Jy,Jy];exact Vals.append h (Vals.rep h k)
theorem foldl_rep(its:List Value):∀(k:Nat)(acc:List Value),List.foldl (λx1 x2=>x1++x2) acc.toArray (List.replicate k its.toArray)=(acc++(List.replicate k its).flatten).toArray
 | 0,acc=>by simp
 | k+1,acc=>by
  have e:acc.toArray++its.toArray=(acc++its).toArray:=by simp
  have e2:(acc++its)++(List.replicate k its).flatten=acc++(List.replicate (k+1) its).flatten:=by rw[BQ,Jy,Jz]
  rw[<-e2,<-foldl_rep its k (acc++its),<-e,BQ,j7]
variable {t':Nat}
section
variable {X:Cx}{pins:AO}{σ:St}{H:Hp}{s:Shared}{l b:Addr}{xs ys zs:List V}
theorem Inv.agg{f:Array Value->Array Value}(I:Inv X pins σ H s)(hH:H l=some (.lst xs))(e:s.heap.get? l=some { cls:=.type "list",data:=.seq its.toArray n })(hf:f its.toArray=its'.toArray)(hv:Vals ys its')(hz:ys.length<=sizeLine):
  Inv X pins σ (upd H l (.lst ys)) { s with heap:=s.heap.update l (Obj.mapSeq f),toks:=t' }:=by
 have q:=PySem.IsL.update e f
 rw[hf]at q
 refine I.write (x:=l) (e:=l) (by rw[hH];exact trivial) (.inl rfl) (λb' u hb hu=>(Jr s.heap (Obj.mapSeq f) (bY hb)).trans hu) ⟨_,q⟩ ?_
 exact⟨hz,its',_,hv,q⟩
theorem Inv.ZA(I:Inv X pins σ H s)(hv:Vals ys its)(hz:ys.length<=sizeLine):Inv X pins σ (upd H s.heap.objs.size (.lst ys)) { s with heap:=s.heap.push { cls:=.type "list",data:=.seq its.toArray },toks:=t' }:=I.laid (λ_ _ q=>cy _ q) (aO _) ⟨hz,its,0,hv,eU _ rfl⟩
theorem Inv.fresh(I:Inv X pins σ H s):H s.heap.objs.size=none:=I.hok.fresh (aO _)
theorem Inv.Qu(I:Inv X pins σ H s)(hH:H l=some (.lst xs)):xs.length<=sizeLine/\∃(its:List Value)(n:Nat),Vals xs its/\xs.length=its.length/\s.heap.get? l=some { cls:=.type "list",data:=.seq its.toArray n }:=by obtain⟨z,its,n,r,e⟩:=I.hok l _ hH;exact⟨z,its,n,r,r.length,e⟩
theorem Ux(h:n<=sizeLine):Builtin.List.listTooLong n=false:=by unfold Builtin.List.listTooLong;exact dG (by omega)
end
section
variable {X:Cx}
inductive Xr(x:V)(vs:List V)(H:Hp)(Q:VK):Prop
 |mk(l xs y:_)(_:x =.ref l)(_:vs=[y])(_:H l=some (.lst xs))(_:xs.length<sizeLine)(_:Q .cT (upd H l (.lst (xs++[y]))))
theorem ef:MtM X "list.append" Xr:=by intro pins s σ H x vs v us Q I rx rv h;obtain⟨l,xs,y,rfl,rfl,hH,hz,q⟩:=h;cases rx;obtain⟨u,rfl,ru⟩:=rv.one;obtain⟨z,its,n,r,hl,e⟩:=I.Qu hH;refine call_meets F.slot_list_append ⟨_,e,Z⟩ F.entry_list_append (F.args_list_append_2 _ _) (PySem.list_append l its.toArray n u (by rw[iI];omega)) ⟨e,?_⟩;refine⟨.cT,_,I.agg (its':=its++[u]) hH e (by simp) (r.append (.cons ru .nil)) ?_,Z,q⟩;rw[c7,List.length_singleton];omega
inductive agh(x:V)(y:V)(H:Hp)(Q:VK):Prop
 |mk(l b xs zs:_)(_:x =.ref l)(_:y =.ref b)(_:H l=some (.lst xs))(_:H b=some (.lst zs))(_:xs.length+zs.length<=sizeLine)(_:∀p,H p=none->Q (.ref p) (upd H p (.lst (xs++zs))))
theorem ZC:jA X (binaryOp .Add) agh:=by
 intro pins s σ H x y v u Q I rx ry h;obtain⟨l,b,xs,zs,rfl,rfl,hH,hB,hz,q⟩:=h;cases rx;cases ry;obtain⟨z,its,n,r,hl,e⟩:=I.Qu hH;obtain⟨z2,its2,n2,r2,hl2,e2⟩:=I.Qu hB;refine PySem.P.add_list e e2 ?_ (by rw[iI,iI];omega);have ea:its.toArray++its2.toArray=(its++its2).toArray:=by simp
 rw[ea];exact⟨.ref _,_,I.ZA (t':=s.toks) (r.append r2) (by rw[c7];omega),Z,q _ I.fresh⟩
inductive agi(x:V)(y:V)(H:Hp)(Q:VK):Prop
 |mk(l k xs:_)(_:x =.ref l)(_:y =.int k)(_:H l=some (.lst xs))(_:-(2 ^ 63)<=k)(_:k<2 ^ 63)(_:xs.length*k.toNat<=sizeLine)(_:∀p,H p=none->Q (.ref p) (upd H p (.lst (List.replicate k.toNat xs).flatten)))
theorem len_rep{α:Type}(xs:List α)(k:Nat):(List.replicate k xs).flatten.length=k*xs.length:=by
 induction k with
 | zero=>simp
 | succ k ih=>rw[BQ,Jy,c7,ih,Nat.succ_mul,Nat.add_comm]
theorem RK:jA X (binaryOp .Mult) agi:=by
 intro pins s σ H x y v u Q I rx ry h;obtain⟨l,k,xs,rfl,rfl,hH,h1,h2,hz,q⟩:=h;cases rx;obtain⟨t,rfl⟩:=ry;obtain⟨z,its,n,r,hl,e⟩:=I.Qu hH;have hlen:its.toArray.size*k.toNat<=sizeLine:=by rw[iI,<-hl];exact hz
 have hcap:¬ its.toArray.size*k.toNat>(2 ^ 63-1) / 8:=by
  have:(sizeLine:Nat)<=(2 ^ 63-1) / 8:=by decide
  omega
 have hfit:¬ (!Builtin.List.listFitsIndex k)=true:=by rw[fitsIndex_both h1 h2];exact iH
 have acI:¬ Builtin.List.listTooLong (its.toArray.size*k.toNat)=true:=by rw[Ux hlen];exact iH
 have hnew:List.foldl (λx1 x2=>x1++x2) #[] (List.replicate (if its.toArray.isEmpty=true then 0 else k.toNat) its.toArray)=(List.replicate k.toNat its).flatten.toArray:=by
  have f0:∀m:Nat,List.foldl (λx1 x2=>x1++x2) #[] (List.replicate m its.toArray)=(List.replicate m its).flatten.toArray:=λm=>by have:=foldl_rep its m [];rw[CP]at this;exact this
  rw[f0];cases its with
  | nil=>simp
  | cons a r'=>rw[aB (by simp)]
 refine wpAny_binaryOp_repeat_ref (T:="list") (U:="int") (by decide) ⟨_,e,Z⟩ (λs'=>typeIs_int s' k t) noFill_list_mul F.fills_int_mul F.slot_int_rmul repeat_list F.slot_int_index.lookup
  (call_meets F.slot_int_rmul (typeIs_int s k t) F.entry_int_rmul (F.args_int_rmul_2 _ _) (int___rmul___int_list k t l its.toArray n)
    ⟨e,Z,⟨_,e,Z⟩,call_meets F.slot_list_mul ⟨_,e,Z⟩ F.entry_list_mul (F.args_list_mul_2 _ _) (AutoListH.list___mul___list_int_3 l its.toArray n k t hfit hcap acI) ⟨e,?_⟩⟩)
 rw[hnew];exact⟨.ref _,_,I.ZA (t':=s.toks) (r.rep k.toNat) (by rw[len_rep,Nat.mul_comm];exact hz),Z,q _ I.fresh⟩
end
section
variable {prog:Program}{w:World}{A:Around}{E:VS}{s:Shared}
set_option maxRecDepth 100000 in
end
section
variable {X:Cx}
end
section
variable {κ:Type}[DecidableEq κ]
def dY(kvs:List (κ×V))(k:κ):Option V:=(kvs.find? λkv=>decide (kv.1=k)).map (·.2)
def putK(kvs:List (κ×V))(k:κ)(v:V):List (κ×V):=if(kvs.any λkv=>decide (kv.1=k))=true then kvs.map (λkv=>if kv.1=k then(kv.1,v) else kv) else kvs++[(k,v)]
def m8(kvs:List (κ×V))(k:κ):List (κ×V):=kvs.filter λkv=>decide (kv.1≠k)
theorem gH{p:κ×V}{r:List (κ×V)}{k:κ}(e:p.1=k):dY (p::r) k=some p.2:=by simp[dY,uA,e]
theorem fk{p:κ×V}{r:List (κ×V)}{k:κ}(e:¬ p.1=k):dY (p::r) k=dY r k:=by simp[dY,uA,e]
theorem qQ(k:κ):∀kvs:List (κ×V),(kvs.any λkv=>decide (kv.1=k))=(dY kvs k).isSome
 | []=>rfl
 | p::r=>by
  rw[CT];by_cases e:p.1=k
  .simp only[gH e,bq e,Bool.true_or,PV]
  .rw [fk e,dG e,Bool.false_or];exact qQ k r
theorem JS(k j:κ)(y:V):∀kvs:List (κ×V),dY (kvs.map λkv=>if kv.1=k then(kv.1,y) else kv) j=(dY kvs j).map λx=>if j=k then y else x
 | []=>rfl
 | p::r=>by
  have ih:=JS k j y r;rw[bz];by_cases h:p.1=k
  .rw [aC h];by_cases e:p.1=j
   .rw [gH (p:=(p.1,y)) e,gH e,I_,aC (e.symm.trans h)]
   .rw [fk (p:=(p.1,y)) e,fk e,ih]
  .rw [aB h];by_cases e:p.1=j
   .rw [gH (p:=p) e,gH e,I_,aB (λz=>h (e.trans z))]
   .rw [fk (p:=p) e,fk e,ih]
theorem Gr(k j:κ)(y:V):∀kvs:List (κ×V),dY kvs k=none->dY (kvs++[(k,y)]) j=if j=k then some y else dY kvs j
 | [],_=>by
  by_cases e:k=j
  .rw [aC e.symm];exact gH (p:=(k,y)) e
  .rw [aB (λz=>e z.symm)];exact fk (p:=(k,y)) e
 | p::r,hn=>by
  rw[Qe];have hk:¬ p.1=k:=λz=>by rw[gH z]at hn;cases hn
  rw[fk hk]at hn;have ih:=Gr k j y r hn;by_cases e:p.1=j
  .rw [gH e,gH e,aB (λz=>hk (e.trans z))]
  .rw [fk e,fk e,ih]
theorem Uy(kvs:List (κ×V))(k j:κ)(y:V):dY (putK kvs k y) j=if j=k then some y else dY kvs j:=by
 unfold putK;by_cases a:(kvs.any λkv=>decide (kv.1=k))=true
 .rw [aC a,JS];rw[qQ]at a;by_cases e:j=k
  .obtain ⟨x,hx⟩:=Option.isSome_iff_exists.mp a;rw[aC e,e,hx,I_,aC rfl]
  .rw [aB e];cases dY kvs j with
   | none=>rfl
   | some x=>rw[I_,aB e]
 .rw [aB a];refine Gr k j y kvs ?_;rw[qQ]at a;cases q:dY kvs k with
  | none=>rfl
  | some x=>rw[q]at a;exact(a rfl).elim
theorem nR(kvs:List (κ×V))(k:κ)(v:V):(putK kvs k v).length<=kvs.length+1:=by
 unfold putK;split
 .rw [aG];omega
 .rw [c7,kg,List.length_nil];omega
theorem mF{kvs:List (κ×V)}{k:κ}(v:V)(h:dY kvs k=none):putK kvs k v=kvs++[(k,v)] :=by unfold putK;rw[qQ,h];exact aB (by decide)
theorem nL.o9{o:Option V}{u:Option Value}(r:nL o u):o.isSome=u.isSome:=by
 cases o with
 | none=>cases u with
   | none=>rfl
   | some _=>exact(show False from r).elim
 | some _=>cases u with
   | none=>exact(show False from r).elim
   | some _=>rfl
theorem KV.val{kvs:List (κ×V)}{vs:List (κ×Value)}(r:KV kvs vs)(k:κ):nL (dY kvs k) (valueAt vs k):=by
 unfold KV at r
 induction r with
 | nil=>exact True.intro
 | @cons p q ps qs h t ih=>
  obtain⟨h1,h2⟩:=h;by_cases e:p.1=k
  .have e':q.1=k:=h1.symm.trans e;have b:valueAt (q::qs) k=some q.2:=by simp[valueAt,uA,e']
   rw[gH e,b];exact h2
  .have e':¬ q.1=k:=λz=>e (h1.trans z);have b:valueAt (q::qs) k=valueAt qs k:=by simp[valueAt,uA,e']
   rw[fk e,b];exact ih
theorem KV.any{kvs:List (κ×V)}{vs:List (κ×Value)}(r:KV kvs vs)(k:κ):(kvs.any λkv=>decide (kv.1=k))=vs.any λkv=>decide (kv.1=k):=by
 unfold KV at r
 induction r with
 | nil=>rfl
 | cons h t ih=>rw[CT,CT,ih,h.1]
theorem KV.repl{kvs:List (κ×V)}{vs:List (κ×Value)}(r:KV kvs vs)(k:κ)(ry:RelV y u):KV (kvs.map λkv=>if kv.1=k then(kv.1,y) else kv) (vs.map λkv=>if kv.1=k then(kv.1,u) else kv):=by
 unfold KV at r ⊢
 induction r with
 | nil=>exact .nil
 | @cons p q ps qs h t ih=>
  rw[bz,bz];refine .cons ?_ ih;obtain⟨h1,h2⟩:=h;by_cases e:p.1=k
  .rw [aC e,aC (h1.symm.trans e)];exact⟨h1,ry⟩
  .rw [aB e,aB (λz=>e (h1.trans z))];exact⟨h1,h2⟩
theorem KV.put{kvs:List (κ×V)}{vs:List (κ×Value)}(r:KV kvs vs)(k:κ)(ry:RelV y u):KV (putK kvs k y) (stored vs k u):=by
 unfold putK stored;rw[r.any k];by_cases e:(vs.any λkv=>decide (kv.1=k))=true
 .rw [aC e,aC e];exact r.repl k ry
 .rw [aB e,aB e];exact Paired.snoc r ⟨Z,ry⟩
theorem KV.drop{kvs:List (κ×V)}{vs:List (κ×Value)}(r:KV kvs vs)(k:κ):KV (m8 kvs k) (without vs k):=by
 unfold KV at r ⊢;unfold m8 without
 induction r with
 | nil=>exact .nil
 | @cons p q ps qs h t ih=>
  obtain⟨h1,h2⟩:=h;rw[gC,gC];by_cases e:p.1=k
  .have a:¬ decide (p.1≠k)=true:=by simp[e]
   have b:¬ decide (q.1≠k)=true:=by simp[h1.symm.trans e]
   rw[aB a,aB b];exact ih
  .have e':¬ q.1=k:=λz=>e (h1.trans z);have a:decide (p.1≠k)=true:=by simp[e]
   have b:decide (q.1≠k)=true:=by simp[e']
   rw[aC a,aC b];exact .cons ⟨h1,h2⟩ ih
theorem KV.length{kvs:List (κ×V)}{vs:List (κ×Value)}(r:KV kvs vs):kvs.length=vs.length:=Paired.length r
theorem Uz(kvs:List (κ×V))(k:κ):(m8 kvs k).length<=kvs.length:=List.length_filter_le _ _
end
variable {P:Program}
theorem wK{w:World}{k:Key}(r:RelV (kV k) u):(dj P w).is k u=true:=by
 cases k with
 | inl i=>obtain⟨t,e⟩:=(show ∃t,u=Value.int i t from r);subst e;exact MK P w i t
 | inr x=>obtain⟨t,e⟩:=(show ∃t,u=Value.str x t from r);subst e;exact ML P w x t
theorem Gs{P:Program}{w:World}:∀{ks:List Key}{us:List Value},Vals (ks.map kV) us->ItemsAre (dj P w) ks us
 | [],_,r=>by rw[List.map_nil]at r;cases r;exact .nil
 | k::ks,_,r=>by
  rw[bz]at r;cases r with
  | cons h t=>exact .cons (wK h) (Gs t)
abbrev KT(H:Hp):List (List Key×V)->List (List Key×Addr×Value)->Prop:=Paired λp q=>p.1=q.1/\H q.2.1=some (.tup (p.1.map kV))/\RelV p.2 q.2.2
theorem KT.val{kvs:List (List Key×V)}{xs:List (List Key×Addr×Value)}(r:KT H kvs xs)(k:List Key):nL (dY kvs k) ((atKey xs k).map (·.2)):=by
 induction r with
 | nil=>exact True.intro
 | @cons p q ps qs h t ih=>
  obtain⟨h1,_,h2⟩:=h;by_cases e:p.1=k
  .have e':q.1=k:=h1.symm.trans e;have b:atKey (q::qs) k=some q.2:=by simp[atKey,uA,e']
   rw[gH e,b];exact h2
  .have e':¬ q.1=k:=λz=>e (h1.trans z);have b:atKey (q::qs) k=atKey qs k:=by simp[atKey,uA,e']
   rw[fk e,b];exact ih
theorem KT.repl{kvs:List (List Key×V)}{xs:List (List Key×Addr×Value)}(r:KT H kvs xs)(k:List Key)(ry:RelV y u):KT H (kvs.map λkv=>if kv.1=k then(kv.1,y) else kv) (xs.map (putAt k u)):=by
 induction r with
 | nil=>exact .nil
 | @cons p q ps qs h t ih=>
  rw[bz,bz];refine .cons ?_ ih;obtain⟨h1,h2,h3⟩:=h;unfold putAt;by_cases e:p.1=k
  .rw [aC e,aC (h1.symm.trans e)];exact⟨h1,h2,ry⟩
  .rw [aB e,aB (λz=>e (h1.trans z))];exact⟨h1,h2,h3⟩
variable {b:Addr}
theorem KT.put{kvs:List (List Key×V)}{xs:List (List Key×Addr×Value)}(r:KT H kvs xs)(k:List Key)(hb:H b=some (.tup (k.map kV)))(ry:RelV y u):KT H (putK kvs k y) (storedH xs k b u):=by
 have e:(kvs.any λkv=>decide (kv.1=k))=(atKey xs k).isSome:=by rw[qQ,(r.val k).o9,Option.isSome_map]
 unfold putK storedH;rw[e];by_cases q:(atKey xs k).isSome=true
 .rw [aC q,aC q];exact r.repl k ry
 .rw [aB q,aB q];exact Paired.snoc r ⟨Z,hb,ry⟩
variable {H':Hp}
theorem KT.keeps{kvs:List (List Key×V)}{xs:List (List Key×Addr×Value)}(r:KT H kvs xs)(ht:∀b ys,H b=some (.tup ys)->H' b=some (.tup ys)):KT H' kvs xs:=Paired.Ub r λ_ _ z=>⟨z.1,ht _ _ z.2.1,z.2.2⟩
variable {kvs:List (Key×V)}
section
variable {P:Program}{w:World}{H:Hp}{h:Heap}{a:Addr}
theorem V9{u:HO}(ok:ji P w H h)(e:Rd H a u):fJ P w H h a u:=e.ok ok
theorem rW(ok:ji P w H h)(e:Rd H a (.dK kvs)):kvs.length<=sizeLine/\(a==sysModules)=false/\∃vs,KV kvs vs/\h.DictOf (dj P w) a vs:=
 show fJ P w H h a (.dK kvs)from V9 ok e
theorem yD(ok:ji P w H h)(e:H a=some (.dK kvs)):kvs.length<=sizeLine/\(a==sysModules)=false/\∃vs,KV kvs vs/\h.DictOf (dj P w) a vs:=rW ok (.inl e)
theorem z7{ks:List Key}(ok:ji P w H h)(e:H a=some (.tup (ks.map kV))):(tupleKind (dj P w)).is h ks a:=by
 obtain⟨_,its,r,o,h1,h2,n,h3⟩:=(show fJ P w H h a (.tup (ks.map kV))from ok a _ e)
 exact⟨o,its.toArray,n,h1,h2,h3,by simpa using Gs r⟩
theorem Ba{kvs:List (List Key×V)}(ok:ji P w H h)(e:Rd H a (.dT kvs)):kvs.length<=sizeLine/\(a==sysModules)=false/\∃xs,KT H kvs xs/\h.DictOfH (tupleKind (dj P w)) a xs:=by
 obtain⟨z,y,xs,r,o,es,ep,h1,h2,h3,h4,h5⟩:=(show fJ P w H h a (.dT kvs)from V9 ok e)
 refine⟨z,y,xs,r,o,es,ep,h1,h2,h3,h4,λx hx=>?_,h5⟩;have all:∀{l:List (List Key×V)}{m:List (List Key×Addr×Value)},KT H l m->∀x∈m,(tupleKind (dj P w)).is h x.1 x.2.1:=by
  intro l m q
  induction q with
  | nil=>intro x hx;exact nomatch hx
  | @cons p q ps qs hq t ih=>
   intro x hx;rcases b8.mp hx with e|hx
   .subst e;exact z7 ok (by rw[<-hq.1];exact hq.2.1)
   .exact ih x hx
 exact all r x hx
theorem acJ{kvs:List (List Key×V)}(ok:ji P w H h)(e:H a=some (.dT kvs)):kvs.length<=sizeLine/\(a==sysModules)=false/\∃xs,KT H kvs xs/\h.DictOfH (tupleKind (dj P w)) a xs:=Ba ok (.inl e)
end
def eW(H:Hp)(a:Addr)(y:V)(r:Option V):Prop:=(∃kvs k,Rd H a (.dK kvs)/\y=kV k/\r=dY kvs k)\/∃kvs k b,Rd H a (.dT kvs)/\y =.ref b/\H b=some (.tup (k.map kV))/\r=dY kvs k
def xE(H:Hp)(a:Addr)(y v:V)(H':Hp):Prop:=(∃kvs k,H a=some (.dK kvs)/\y=kV k/\kvs.length<sizeLine/\H'=upd H a (.dK (putK kvs k v)))\/
 ∃kvs k b,H a=some (.dT kvs)/\y =.ref b/\H b=some (.tup (k.map kV))/\kvs.length<sizeLine/\H'=upd H a (.dT (putK kvs k v))
variable {a:Addr}
theorem eW.k{k:Key}(e:H a=some (.dK kvs)):eW H a (kV k) (dY kvs k):=.inl ⟨kvs,k,.inl e,Z,Z⟩
theorem xE.k{k:Key}{v:V}(e:H a=some (.dK kvs))(hl:kvs.length<sizeLine):xE H a (kV k) v (upd H a (.dK (putK kvs k v))):=.inl ⟨kvs,k,e,Z,hl,Z⟩
variable {Q:Unit->Shared->Prop}
section
variable {X:Cx}{pins:AO}{σ:St}{H:Hp}{s:Shared}{a:Addr}{y v:V}{u r:Value}{o:Option V}{A:Around}{E:VS}
theorem Inv.big(I:Inv X pins σ H s):sysModules<s.heap.objs.size:=by have h:mainGlobals<s.heap.objs.size:=(I.mod.glob.keeps I.bk).lt;exact Nat.lt_trans (by decide) h
theorem RL{Q:VS}(hu:A.units+1<cLine)(I:Inv X pins σ H s)(g:eW H a y (some v))(ry:RelV y u)(h:∀w' s',Inv X pins σ H s'->RelV v w'->Q w' s'):wpAny (model X.prog X.w) A (getItem (.ref a) u) Q E s:=by
 rcases g with⟨kvs,k,e,ey,l⟩|⟨kvs,k,b,e,ey,eb,l⟩
 .subst ey;obtain⟨z,hd,vs,rel,dd⟩:=rW I.hok e;obtain⟨w',hw,rw'⟩:=nL.some_of (v:=v) (o:=valueAt vs k) (by rw[l];exact rel.val k);exact wpAny_getItem_of (wK ry) dd.mapOf hw (h w' _ (I.tok _) rw')
 .subst ey;cases(show u=Value.ref b from ry);obtain⟨z,hd,xs,rel,dd⟩:=Ba I.hok e;obtain⟨w',hw,rw'⟩:=nL.some_of (v:=v) (o:=(atKey xs k).map (·.2)) (by rw[l];exact rel.val k);obtain⟨p,hp,hp2⟩:=nI.mp hw;refine wpAny_getItem_heap (PX hu) (z7 I.hok eb) dd hp ?_;rw[hp2];exact h w' _ (I.tok _) rw'
theorem agj{Q:VS}(hu:A.units+1<cLine)(I:Inv X pins σ H s)(g:eW H a y o)(ry:RelV y u)(h:∀s',Inv X pins σ H s'->Q (.bool o.isSome) s'):wpAny (model X.prog X.w) A (compareOp .In u (.ref a)) Q E s:=by
 rcases g with⟨kvs,k,e,ey,l⟩|⟨kvs,k,b,e,ey,eb,l⟩
 .subst ey;obtain⟨z,hd,vs,rel,dd⟩:=rW I.hok e;refine wpAny_in_of (wK ry) hd dd.mapOf ?_;rw[<-(rel.val k).o9,<-l];exact h _ (I.tok _)
 .subst ey;cases(show u=Value.ref b from ry);obtain⟨z,hd,xs,rel,dd⟩:=Ba I.hok e;refine wpAny_in_heap (PX hu) (z7 I.hok eb) hd dd ?_;have q:=(rel.val k).o9;rw[Option.isSome_map]at q;rw[<-q,<-l];exact h _ (I.tok _)
theorem Xs{Q:VS}(hu:A.units+1<cLine)(I:Inv X pins σ H s)(g:eW H a y o)(ry:RelV y u)(h:∀s',Inv X pins σ H s'->Q (.bool (!o.isSome)) s'):wpAny (model X.prog X.w) A (compareOp .NotIn u (.ref a)) Q E s:=by
 rcases g with⟨kvs,k,e,ey,l⟩|⟨kvs,k,b,e,ey,eb,l⟩
 .subst ey;obtain⟨z,hd,vs,rel,dd⟩:=rW I.hok e;refine wpAny_notIn_of (wK ry) hd dd.mapOf ?_;rw[<-(rel.val k).o9,<-l];exact h _ (I.tok _)
 .subst ey;cases(show u=Value.ref b from ry);obtain⟨z,hd,xs,rel,dd⟩:=Ba I.hok e;refine wpAny_notIn_heap (PX hu) (z7 I.hok eb) hd dd ?_;have q:=(rel.val k).o9;rw[Option.isSome_map]at q;rw[<-q,<-l];exact h _ (I.tok _)
theorem x6(I:Inv X pins σ H s)(mu:Rm (H a))(hs:Heap.SameBut a s.heap h')(he:∃q,h'.get? a=some q)(new:fJ X.prog X.w (upd H a ob) h' a ob):Inv X pins σ (upd H a ob) { s with heap:=h',toks:=t' }:=I.write (x:=a) (e:=a) mu (.inl rfl) (λb q hb z=>(hs.2 b hb).trans z) he new
theorem z8{w:World}{h':Heap}{vs:List (Key×Value)}(z:kvs.length<=sizeLine)(hd:(a==sysModules)=false)(rel:KV kvs vs)(dd:h'.DictOf (dj P w) a vs):fJ P w H' h' a (.dK kvs):=⟨z,hd,vs,rel,dd⟩
theorem RM(hu:A.units+1<cLine)(I:Inv X pins σ H s)(g:xE H a y v H')(ry:RelV y u)(rv:RelV v r)(h:∀s',Inv X pins σ H' s'->Q () s'):wpAny (model X.prog X.w) A (setItem (.ref a) u r) Q E s:=by
 rcases g with⟨kvs,k,e,ey,l,eH⟩|⟨kvs,k,b,e,ey,eb,l,eH⟩
 .subst ey eH;obtain⟨z,hd,vs,rel,dd⟩:=yD I.hok e;have hz:vs.length<=sizeLine:=by rw[<-rel.length];exact z
  have hl:(putK kvs k v).length<=sizeLine:=by have:=nR kvs k v;omega
  refine wpAny_setItem_pairs (hsz:=hz) (wK ry) dd λh' u6 hs=>h _ ?_;have he:∃q,h'.get? a=some q:=let⟨q,_,_,hq,_⟩:=u6;⟨q,hq⟩;exact x6 I (by rw[e];exact True.intro) hs he (z8 hl hd (rel.put k rv) u6)
 .subst ey eH;cases(show u=Value.ref b from ry);obtain⟨z,hd,xs,rel,dd⟩:=acJ I.hok e;have hz:xs.length<=sizeLine:=by rw[<-Paired.length rel];exact z
  have hl:(putK kvs k v).length<=sizeLine:=by have:=nR kvs k v;omega
  refine wpAny_setItem_heap (hsz:=hz) (PX hu) (z7 I.hok eb) dd λh' u6 hs=>h _ ?_;obtain⟨q,es,ep,hq,h2,h3,h4,_,h5⟩:=u6;refine x6 I (by rw[e];exact True.intro) hs ⟨q,hq⟩ ⟨hl,hd,_,(rel.put k eb rv).keeps λc ys ec=>?_,q,es,ep,hq,h2,h3,h4,h5⟩;rw[ay (i8 ec e (λz=>nomatch z))];exact ec
end
section
variable {X:Cx}{pins:AO}{σ:St}{H:Hp}{s:Shared}{a:Addr}{kvs:List (Key×V)}{k:Key}{u:Value}{A:Around}{E:VS}
theorem RN(I:Inv X pins σ H s)(e:H a=some (.dK kvs))(ry:RelV (kV k) u)(l:(dY kvs k).isSome=true)(h:∀s',Inv X pins σ (upd H a (.dK (m8 kvs k))) s'->Q () s'):wpAny (model X.prog X.w) A (delItem (.ref a) u) Q E s:=by
 obtain⟨z,hd,vs,rel,dd⟩:=yD I.hok e;refine wpAny_delItem_slot dd.typeIs (by decide) PySem.F.slot_dict_delitem
  (call_meetsIn PySem.F.slot_dict_delitem dd.typeIs PySem.F.entry_dict_delitem (PySem.F.args_dict_delitem_2 _ _) (meets_dict_delitem_pairs (dj X.prog X.w) a (wK ry)) ⟨vs,dd,by rw[<-rel.length];exact z,by rw[<-(rel.val k).o9];exact l,λh' u6 hs=>h _ ?_⟩)
 have he:∃q,h'.get? a=some q:=let⟨q,_,_,hq,_⟩:=u6;⟨q,hq⟩;exact x6 I (by rw[e];exact True.intro) hs he (z8 (f_ (Uz kvs k) z) hd (rel.drop k) u6)
theorem acK{Q:VS}(I:Inv X pins σ H s)(e:Rd H a (.dK kvs))(h:∀t s',Inv X pins σ H s'->Q (.int kvs.length t) s'):wpAny (model X.prog X.w) A (call (.builtin "len") [.ref a]) Q E s:=by obtain⟨z,hd,vs,rel,dd⟩:=rW I.hok e;refine call_len_dict hd dd (by rw[<-rel.length];rw[j8]at z;omega) ?_;rw[<-rel.length];exact h _ _ (I.tok _)
end
def ZD(i:Expr):Prop:=∀ov iv,subscripted i false ov iv=operate [ov,iv] (getItem ov iv)
variable {E:VS}{env:Env}{value:Expr}{pos:Pos}
theorem Xu{prog:Program}{w:World}{A:Around}{slice:Expr}{T id:String}{Q:VS}(hl:typeLookup (.type T) "__getitem__"=pure (some (.builtin id)))(hs:ZD slice)(h:wpAny (model prog w) A (eval value env) (λo s₁=>wpAny (model prog w) A (eval slice env) (λi s₂=>s₂.TypeIs o T/\wpAny (model prog w) A (getItem o i) Q E s₂) E s₁) E s):
  wpAny (model prog w) A (eval (.Subscript value slice pos) env) Q E s:=by
 refine Subscript_ (gG h (λo s₁ h₁=>gG h₁ (λi s₂ h₂=>?_) λ_ _ x=>x) λ_ _ x=>x)
 obtain⟨hT,h₂⟩:=h₂
 unfold subscriptTail
 refine aA ?_
 rw[getitemInPython_of_ne hT.not_modules]
 refine aA (wpAny_specialOf hT hl ?_)
 have fin:wpAny (model prog w) A (subscripted slice false o i) (λr s₃=>wpAny (model prog w) A (letTemporaryGo value o r >>= λ_=>pure r) Q E s₃) E s₂:=by rw[hs o i];exact wpAny_operating (gG h₂ (λr s₃ h₃=>aA (wpAny_letTemporaryGo (aU h₃))) λ_ _ x=>x)
 first
  | exact aU (aA fin)
  | exact aA (aU (aA fin))
  | exact aA fin
variable {X:Cx}
theorem MM{o:Option V}(I:Inv X pins σ H s)(g:eW H a y o):s.TypeIs (.ref a) "dict":=by
 rcases g with⟨kvs,k,e,_,_⟩|⟨kvs,k,b,e,_,_,_⟩
 .obtain ⟨_,_,vs,_,dd⟩:=rW I.hok e;exact dd.typeIs
 .obtain ⟨_,_,xs,_,dd⟩:=Ba I.hok e;exact dd.typeIs
inductive UA(Q:VK)(x:V)(y:V)(H2:Hp):Prop
 |mk(a v:_)(_:x =.ref a)(_:eW H2 a y (some v))(_:Q v H2)
def ZE(ty:TE)(σ:St)(Q:VK):V->Hp->Prop:=λx H1=>ty σ H1 (UA Q x)
def V_(td ty:TE):TE:=λσ H Q=>td σ H (ZE ty σ Q)
inductive Xv(Q:VK)(y:V)(x:V)(H2:Hp):Prop
 |mk(a o:_)(_:x =.ref a)(_:eW H2 a y o)(_:Q (.bl o.isSome) H2)
def acL(td:TE)(σ:St)(Q:VK):V->Hp->Prop:=λy H1=>td σ H1 (Xv Q y)
def agk(ty td:TE):TE:=λσ H Q=>ty σ H (acL td σ Q)
inductive Qv(Q:VK)(y:V)(x:V)(H2:Hp):Prop
 |mk(a o:_)(_:x =.ref a)(_:eW H2 a y o)(_:Q (.bl (!o.isSome)) H2)
def UB(td:TE)(σ:St)(Q:VK):V->Hp->Prop:=λy H1=>td σ H1 (Qv Q y)
def Xw(ty td:TE):TE:=λσ H Q=>ty σ H (UB td σ Q)
inductive UC(D:Ends)(σ:St)(v:V)(x:V)(y:V)(H3:Hp):Prop
 |mk(a H4:_)(_:x =.ref a)(_:xE H3 a y v H4)(_:D.nx σ H4)
def UD(ty:TE)(D:Ends)(σ:St)(v:V):V->Hp->Prop:=λx H2=>ty σ H2 (UC D σ v x)
def ZF(td:TE)(ty:TE)(D:Ends)(σ:St):V->Hp->Prop:=λv H1=>td σ H1 (UD ty D σ v)
def acM(td ty tv:TE):TS:=λD σ H=>tv σ H (ZF td ty D σ)
inductive UE(D:Ends)(σ:St)(x:V)(y:V)(H2:Hp):Prop
 |mk(a kvs k:_)(_:x =.ref a)(_:H2 a=some (.dK kvs))(_:y=kV k)(_:(dY kvs k).isSome=true)(_:D.nx σ (upd H2 a (.dK (m8 kvs k))))
def ZG(ty:TE)(D:Ends)(σ:St):V->Hp->Prop:=λx H1=>ty σ H1 (UE D σ x)
def acN(td ty:TE):TS:=λD σ H=>td σ H (ZG ty D σ)
section
variable {X:Cx}{o i e value:Expr}{pos pos' tpos:Pos}{td ty tv:TE}
end
theorem BZ{w:World}(h:Heap)(hb:sysModules<h.objs.size):fJ P w H (h.push { cls:=.type "dict",data:=.dict #[] }) h.objs.size (.dK []):=⟨fH _,zT.mpr (bY (d7 hb)),[],.nil,Heap.DictOf.new h⟩
def ZH:TE:=λ_ H Q=>∀p,H p=none->Q (.ref p) (upd H p (.dK []))
section
variable {X:Cx}{pos:Pos}
end
def C_:List (TE×TE)->St->Hp->(List (V×V)->Hp->Prop)->Prop
 | [],_,H,Q=>Q [] H
 | (tk,tv)::r,σ,H,Q=>tk σ H λx H1=>tv σ H1 λy H2=>C_ r σ H2 λps H3=>Q ((x,y)::ps) H3
abbrev VV:List (V×V)->List (Value×Value)->Prop:=Paired λp q=>RelV p.1 q.1/\RelV p.2 q.2
def PPs(X:Cx)(pos:Pos)(keys:List (Option Expr))(values:List Expr)(Dc:List (TE×TE)):Prop:=∀(pins:AO)(s:Shared)(σ:St)(H:Hp)(Q:List (V×V)->Hp->Prop),Inv X pins σ H s->C_ Dc σ H Q->wpAny (model X.prog X.w) X.A (evalPairs (pairTrees keys values X.env pos)) (λvs s'=>∃ps H',Inv X pins σ H' s'/\VV ps vs/\Q ps H') X.xe s
def x8(kvs more:List (Key×V)):List (Key×V):=more.foldl (λacc kv=>putK acc kv.1 kv.2) kvs
theorem KV.merge:∀{more:List (Key×V)}{rs:List (Key×Value)}{kvs:List (Key×V)}{vs:List (Key×Value)},KV more rs->KV kvs vs->KV (x8 kvs more) (merged vs rs):=by
 intro more rs kvs vs r;unfold KV at r
 induction r generalizing kvs vs with
 | nil=>intro q;exact q
 | @cons p q ps qs h t ih=>
  intro r0;have e:KV (putK kvs p.1 p.2) (stored vs q.1 q.2):=by have:=r0.put p.1 h.2;rw[<-h.1];exact this
  exact ih e
theorem zA:∀(more kvs:List (Key×V)),(x8 kvs more).length<=kvs.length+more.length
 | [],kvs=>by show kvs.length<=kvs.length+0;omega
 | p::r,kvs=>by have h1:=zA r (putK kvs p.1 p.2);have h2:=nR kvs p.1 p.2;show(x8 (putK kvs p.1 p.2) r).length<=_;rw[kg];omega
theorem De{P:Program}{w:World}:∀{kvs:List (Key×V)}{ws:List (Value×Value)},VV (kvs.map λkv=>(kV kv.1,kv.2)) ws->∃rs,Carries (dj P w) ws rs/\KV kvs rs
 | [],_,r=>by rw[List.map_nil]at r;cases r;exact⟨[],True.intro,.nil⟩
 | p::kvs,_,r=>by
  rw[bz]at r;cases r with
  | @cons a b as bs h t=>obtain⟨rs,c,q⟩:=De (P:=P) (w:=w) t;obtain⟨b1,b2⟩:=b;exact⟨(p.1,b2)::rs,⟨wK h.1,Z,c⟩,.cons ⟨Z,h.2⟩ q⟩
def acO(Dc:List (TE×TE)):TE:=λσ H Q=>∀p,H p=none->C_ Dc σ (upd H p (.dK [])) λps H2=>H2 p=some (.dK [])/\∃kvs:List (Key×V),ps=kvs.map (λkv=>(kV kv.1,kv.2))/\kvs.length<=15/\Q (.ref p) (upd H2 p (.dK (x8 [] kvs)))
def IsD(H:Hp)(a:Addr):Prop:=(∃kvs,Rd H a (.dK kvs))\/∃kvs,Rd H a (.dT kvs)
theorem JT(I:Inv X pins σ H s)(d:IsD H a):s.TypeIs (.ref a) "dict"/\(∀b,Value.ref a =.ref b->∃ob,s.heap.get? b=some ob/\ob.dict=none)/\(a==sysModules)=false:=by
 rcases d with⟨kvs,e⟩|⟨kvs,e⟩
 .obtain ⟨_,hd,vs,_,dd⟩:=rW I.hok e;refine⟨dd.typeIs,λb q=>?_,hd⟩;cases q;obtain⟨ob,_,_,h1,h2,_⟩:=dd;exact⟨ob,h1,h2.2.1⟩
 .obtain ⟨_,hd,xs,_,dd⟩:=Ba I.hok e;refine⟨dd.typeIs,λb q=>?_,hd⟩;cases q;obtain⟨ob,_,_,h1,h2,_⟩:=dd;exact⟨ob,h1,h2.2.1⟩
section
variable {X:Cx}{pins:AO}{σ:St}{H:Hp}{s:Shared}{a:Addr}{y d:V}{u r:Value}{o:Option V}{A:Around}{E:VS}
end
section
variable {X:Cx}{o e f:Expr}{apos cpos:Pos}{td ty tx:TE}
end
section
variable {X:Cx}{pins:AO}{σ:St}{H:Hp}{s:Shared}{a:Addr}{kvs:List (Key×V)}{A:Around}{E:VS}
end
section
variable {X:Cx}{pins:AO}{σ:St}{H:Hp}{s:Shared}{a:Addr}{y:V}{u:Value}{A:Around}{E:VS}
end
end L2
namespace Att
open PySem PySem.W PySem.Calls PyProof.Rows
theorem Df{P:Params}{h:Heap}:∀(ns:List Int)(vs:List Value),WellAll P h vs (ns.map WData.int)->IntsAre vs ns:=by
 intro ns
 induction ns with
 | nil=>intro vs w;rw[List.map_nil]at w;cases w;exact .nil
 | cons n ns ih=>
  intro vs w;rw[bz]at w;cases w with
  | cons a b=>cases a;exact .cons _ _ (ih _ b)
theorem RO{l:OpenLaw}{n:Nat}(hn:l.most=some n){P:Params}{h:Heap}{args:List WData}{vals:List Value}(hpre:l.row.toRowW.claim.pre args=true)(hwl:WellAll P h vals args):
  ∃a vs ns,vals=[Value.ref a]/\args=[WData.list (ns.map WData.int)]/\h.get? a=some { cls:=.type "list",data:=.seq vs.toArray }/\IntsAre vs ns/\ns.length<=n:=by
 have hsh:WShape.hasAll [] args [.list .int]=true:=(pre_splitW hpre).1
 have hc:l.pre.holds [] { args:=args }=true:=(pre_splitW hpre).2
 obtain⟨d,r,rfl,h1,h2⟩:=hasAllW_cons hsh
 obtain rfl:=hasAllW_nil h2
 obtain⟨xs,rfl,h3⟩:=hasW_list h1
 obtain⟨ns,rfl⟩:=items_int h3
 have hlen:ns.length<=n:=by
  unfold OpenLaw.pre at hc;have h4:(WTm.not (.lt (.lit (.int (n:Int))) (.len (.arg 0)))).holds [] { args:=[.list (ns.map .int)] }=true:=by have h4:=(holds_andW hc).1;rw[hn]at h4;exact h4
  have h5:=condW_of h4 (w_not (w_lt w_lit (w_len_list (w_arg rfl))));rw[aG]at h5;refine Nat.le_of_not_lt λq=>?_;have q':(n:Int)<((ns.length:Nat):Int):=by omega
  first
   | (rw[bq q']at h5;exact absurd h5 (by decide))
   | (simp at h5;omega)
 cases hwl with
 | cons w1 w2=>
   cases w2
   cases w1 with
   | list ho hall=>exact⟨_,_,ns,Z,Z,ho,Df ns _ hall,hlen⟩
theorem RP(l:OpenLaw)(args:List WData):l.row.toRowW.claim.post args (.bool true) args=true:=postW_of (r:=l.row.toRowW) (X:=(true==true))
  (show WShape.has [] (.bool true) .bool=true by first|rfl|decide|simp[WShape.has,WShape.arms,WShape.armsAll])
  (show(WTm.eq .res (.lit (.bool true))).value [] { args:=args,res:=some (.bool true),after:=args }=some (.bool (true==true))from w_eq_bool (w_res rfl) w_lit) rfl
theorem MN{l:OpenLaw}{n:Nat}{q:Program}{loose:List Str}{XP:(Str->Option Value)->Heap->Prop}{YP:World->Heap->Prop}{d:DefRec}(hn:l.most=some n)(hdf:d.params.defaults=[])(call:∀(w:World) (s₀ s₁:Shared) (mg mb:SO) (fa:Addr) (o:Obj) (pm cd doc:Value) (a:Addr) (vs:List Value) (ns:List Int),
    Ground q loose [] XP w s₀ mg mb s₁.heap->YP w s₁.heap->
    s₁.heap.get? fa=some o->o.data =.func (docDef d.name d.params d.body d.scope pm cd doc)->s₁.heap.CodeRec cd d.name->mg d.name=some (.ref fa)->
    s₁.heap.get? a=some { cls:=.type "list",data:=.seq vs.toArray }->IntsAre vs ns->ns.length<=n->s₁.gens=#[]->
    codeAny (model l.prog w) callerA (.call (.ref fa) ⟨[.ref a],[]⟩) (λr s'=>r =.ok (.ret (.bool true))/\OldK s₁.heap s'.heap/\s'.os=s₁.os/\AllBare s'.gens) s₁):
  WalkO q loose XP YP l.row.toRowW d [] (λf vs=>PySem.call f vs):=by
 intro w s₀ s₁ mg mb G Y fa o pm cd doc dV kV ho hd hcd hD hmg hg args vals as hpre hlay hrd hwl hlo
 obtain rfl:dV =.none:=Dflts.none hD hdf
 obtain rfl:kV =.none:=Dflts.noKw hD
 obtain⟨a,vs,ns,rfl,rfl,hobj,hints,hlen⟩:=RO hn hpre hwl
 refine enter_call (codeAny_mono (call w s₀ s₁ mg mb fa o pm cd doc a vs ns G Y ho (fd_plain hd) hcd hmg hobj hints hlen hg) λr s' hq=>?_)
 obtain⟨rfl,h2,h3,h4⟩:=hq
 exact⟨.inl ⟨.bool true,.bool true,[],Z,λ_=>rfl,.bool true,RP l _,λ_=>⟨List.Pairwise.nil,λ_ hm=>(nomatch hm)⟩⟩,h2,h3,h4⟩
section
variable {prog:Program}{w:World}{A:Around}{E:VS}{s:Shared}{K:Frag}
end
end Att
namespace L2
open PySem PySem.Spec PyProof.Rows
theorem Gu:∀{vs:List Value}{ns:List Int},IntsAre vs ns->Vals (ns.map V.int) vs
 | _,_,.nil=> .nil
 | _,_,.cons n t h=> .cons ⟨t,Z⟩ (Gu h)
def UG(H:Hp):Prop:=∀b,H b=none\/∃o xs,H b=some (.fu o (.lst xs))
variable {P:Program}{K:Fg}{mg:SO}{CX:z6}{a:Addr}{fd:FuncData}{x:Str}{sp:Sp}{ns:List Int}
theorem UH{w:World}{mb:SO}{k:Nat}{fa:Addr}{s₁:Shared}{vs:List Value}(KX:K.In s₁.heap)(hns:s₁.heap.Ns mainGlobals mg)(hb:s₁.heap.Ns builtinsNs mb)(hbb:∀x:Str,x ≠ "__name__"->mb x=bootBuiltins x)(hlim:s₁.heap.NoLimit)(hg:s₁.gens=#[])(ha:s₁.heap.get? a=some { cls:=.type "list",data:=.seq vs.toArray })(hi:IntsAre vs ns)(hl:ns.length<=sizeLine)(hr:fj k callerA)(F:∀base:Heap,K.In base->base.Ns mainGlobals mg->kh P w K mg base CX k fa fd [x] sp)(hbind:∀(s:Shared) (u:Value),BindsTo s fd ⟨[u],[]⟩ [(x,u)])(uY:∀H:Hp,UG H->aI K H a (ns.map V.int)->sp [.ref a] H (λv _=>v =.bl true) λ_ _ _=>False)(ZI:∀H e s',CX [] H s₁ (λ_ _ _=>False) e s'->False):
  codeAny (model P w) callerA (.call (.ref fa) ⟨[.ref a],[]⟩) (λr s'=>r =.ok (.ret (.bool true))/\OldK s₁.heap s'.heap/\s'.os=s₁.os/\AllBare s'.gens) s₁:=by
 have rv:=Gu hi
 have agl:=hi.length
 have core:∀H:Hp,UG H->aI K H a (ns.map V.int)->ji P w H s₁.heap->(∀b,H b≠none->b=a)->(H a≠none->K.lookup a=none)->
   codeAny (model P w) callerA (.call (.ref fa) ⟨[.ref a],[]⟩) (λr s'=>r =.ok (.ret (.bool true))/\OldK s₁.heap s'.heap/\s'.os=s₁.os/\AllBare s'.gens) s₁:=by
  intro H hO hS hok hA hK
  have Oo:∀{b:Addr}{o:Obj},s₁.heap.get? b=some o->H b=none->(yz s₁.heap H).get? b=some o:=λe n=>Uc e n
  have RG:∀{b:Addr}{o:Obj}{es:Array DictEntry}{ep:Nat},s₁.heap.get? b=some o->o.data =.dict es ep->H b=none:=λ{b o es ep} e d=>by
   cases q:H b with
   | none=>rfl
   | some u=>have e':b=a:=hA b (by rw[q];simp);subst e';rw[ha]at e;cases e;have d':Data.seq vs.toArray _=Data.dict es ep:=d;cases d'
  have Wa:∀{b:Addr}{m:SO},s₁.heap.Ns b m->(yz s₁.heap H).Ns b m:=λ{b m} ⟨o,es,ep,e,d,r⟩=>⟨o,es,ep,Oo e (RG e d),d,r⟩
  have hKb:K.In (yz s₁.heap H):=λb o e=>Oo (KX b o e) (by
   cases q:H b with
   | none=>rfl
   | some u=>have e':b=a:=hA b (by rw[q];simp);subst e';rw[hK (by rw[q];simp)]at e;cases e)
  have hM:Mod K mg (yz s₁.heap H):=⟨hKb,Wa hns,⟨mb,Wa hb,hbb⟩,let⟨mc,h1,h2⟩:=hlim;⟨mc,Wa h1,h2⟩⟩
  have e0:BY P w K mg (yz s₁.heap H) callerA [] s₁ H:=⟨Z,hM,λb o e=>Xc e,Nat.le_of_eq (Rn _ _),trivial,λb hb=>absurd (show b∈([] :List Addr)from hb) (by simp),hok,.of_eq hg⟩
  refine codeAny_mono ((F _ hKb (Wa hns)).run callerA [] s₁ H ⟨[.ref a],[]⟩ [.ref a] [.ref a] _ _ hr e0 (hbind s₁ (.ref a)) (.cons rfl .nil) (uY H hO hS)) λr s' h=>?_
  cases r with
  | error e=>exact(ZI H e s' h).elim
  | ok fl=>
    cases fl with
    | next=>exact False.elim h
    | brk=>exact False.elim h
    | cont=>exact False.elim h
    | ret u=>
      obtain⟨v,H',os,bare,un,agm,r',q⟩:=h
      have q':v =.bl true:=q
      subst q'
      obtain rfl:u=Value.bool true:=r'
      refine⟨Z,OldK.of_keep λb o e=>?_,os,bare⟩
      cases q:H b with
      | none=>exact un.keep b o e q (by intro z;exact absurd (show b∈([] :List Addr)from z) (by simp)) (by simp)
      | some u=>
        rcases hO b with z|⟨ob,xs,z⟩
        . rw[q]at z;cases z
        . have z2:=un.tK b ob _ z
          obtain⟨e1,_⟩:=hok b _ z
          obtain⟨e2,_⟩:=agm b _ z2
          rw[e]at e1;cases e1
          exact e2
 cases hk:K.lookup a with
 | some o=>
   have e:=KX a o hk
   rw[ha]at e
   cases e
   refine core (λ_=>none) (λ_=> .inl rfl) (.inr ⟨_,vs.toArray,_,hk,Z,Z,Z,by rw[iI,agl];exact hl,by simpa using rv⟩) (λb u z=>by have z':(none:Option HO)=some u:=z;cases z') (λb z=>absurd rfl z) λz=>absurd rfl z
 | none=>
   refine core (λb=>if b=a then some (.fu { cls:=.type "list",data:=.seq vs.toArray } (.lst (ns.map V.int))) else none) (λb=>?_) (.inl (.inr ⟨{ cls:=.type "list",data:=.seq vs.toArray },aC rfl⟩)) (λb u z=>?_) (λb z=>?_) λ_=>hk
   . by_cases hb:b=a
     . exact .inr ⟨_,_,aC hb⟩
     . exact .inl (aB hb)
   . by_cases hb:b=a
     . have z':=(aC hb).symm.trans z
       cases z'
       subst hb
       exact⟨ha,by rw[aG];exact hl,vs,_,rv,ha⟩
     . have z':=(aB hb).symm.trans z
       cases z'
   . by_cases hb:b=a
     . exact hb
     . exact absurd (aB hb) z
variable {n:Nat}{XP:(Str->Option Value)->Heap->Prop}{YP:World->Heap->Prop}
theorem Xx{l:PySem.W.OpenLaw}{k:Nat}{q:Program}{loose:List Str}{d:DefRec}{K:Params->Fg}{CX:World->z6}{sp:World->Sp}(hn:l.most=some n)(hn2:n<=sizeLine)(hdf:d.params.defaults=[])(hr:fj k callerA)(hY:∀(w:World) (h:Heap),YP w h->(K w.params).In h)(F:∀(w:World) (mg:SO) (fa:Addr) (h:Heap),(K w.params).In h->h.Ns mainGlobals mg->mg d.name=some (.ref fa)->
    ∃fd:FuncData,(∀(s:Shared) (u:Value),BindsTo s fd ⟨[u],[]⟩ [(x,u)])/\
     ∀base:Heap,(K w.params).In base->base.Ns mainGlobals mg->kh l.prog w (K w.params) mg base (CX w) k fa fd [x] (sp w))(uY:∀(w:World) (H:Hp) (a:Addr) (ns:List Int),ns.length<=n->UG H->aI (K w.params) H a (ns.map V.int)->sp w [.ref a] H (λv _=>v =.bl true) λ_ _ _=>False)(ZI:∀(w:World) (H:Hp) (s:Shared) (e:Value) (s':Shared),CX w [] H s (λ_ _ _=>False) e s'->False):
  PySem.W.WalkO q loose XP YP l.row.toRowW d [] (λf vs=>PySem.call f vs):=by
 refine Att.MN hn hdf λw s₀ s₁ mg mb fa o pm cd doc a vs ns G Y ho hd hcd hmg hobj hints hlen hg=>?_
 have KX:=hY w _ Y
 obtain⟨fd,hb,hF⟩:=F w mg fa _ KX G.T.g hmg
 exact UH KX G.T.g G.T.b G.T.builtins G.T.nolimit hg hobj hints (f_ hlen hn2) hr hF hb (λH hO hS=>uY w H a ns hlen hO hS) λH e s'=>ZI w H s₁ e s'
def inClass(s:Stmt)(j:Nat):Stmt:=match s with
 | .ClassDef _ _ _ body _ _ _ _ _ _ _=>body.getD j (.Pass ⟨0,0,0,0⟩)
 | _=> .Pass ⟨0,0,0,0⟩
def fY(s:Stmt):Arguments:=match s with
 | .FunctionDef _ a _ _ _ _ _ _ _ _=>a
 | _=>{ posonlyargs:=[],args:=[],vararg:=none,kwonlyargs:=[],kw_defaults:=[],kwarg:=none,defaults:=[] }
def dR(s:Stmt):List Stmt:=match s with
 | .FunctionDef _ _ b _ _ _ _ _ _ _=>b
 | _=>[]
def aF(s:Stmt):Scope:=match s with
 | .FunctionDef _ _ _ _ _ _ sc _ _ _=>sc
 | _=>{ kind:=.function,names:=[],isGenerator:=false,isCoroutine:=false }
abbrev u7:z6:=λ_ _ _ _ _ _=>False
abbrev E0:XK:=λ_ _ _=>False
structure Gv(K:Fg)(x qual:Str)(st:Stmt)(f:Addr)(fd:FuncData):Prop where
 ex:∃(oc:Value)(od:Option Addr)(kV doc pm:Value)(an:Option Addr)(cdv ct:Value)(osl:Array (Option Value)),
  fd=PySem.W.fnOf x qual (fY st) (dR st) (aF st) .none kV doc pm an cdv ct/\K.lookup f=some ⟨oc,od,.func fd,osl⟩/\PySem.W.codeIn K cdv qual=true
 kp:PySem.W.keepIn K (.ref f)=true
variable {qual:Str}{f:Addr}{N ps:List Str}{oc doc pm cdv ct:Value}{od an:Option Addr}{osl:Array (Option Value)}
section
variable {P:Program}{w:World}{K:Fg}{mg:SO}{base:Heap}
theorem Gv.ok{st:Stmt}{k:Nat}(F:Gv K x qual st f fd)(S:aS N ps (aF st))(len:∀vs H Q E,sp vs H Q E->vs.length=ps.length)(hbody:∀(cdv:Value) (A:Around) (outer:List Env) (s:Shared) (H:Hp) (vs:List V) (Q:VK) (E:XK),fj k (A.deeper (envOfC qual (aF st) s.heap.objs.size f cdv))->sp vs H Q E->
    ∃t,wJ (tN u7 P w K mg base N qual (aF st) f cdv A outer s H E).Bv (dR st) t/\t { nx:=λ_ H'=>Q .cT H',rt:=Q } (start N vs) H):kh P w K mg base u7 (k+1) f fd ps sp:=by
 obtain⟨oc,od,kV,doc,pm,an,cdv,ct,osl,rfl,lk,hcd⟩:=F.ex
 refine acG lk hcd S len λA outer s H vs Q E hr uY=>?_
 obtain⟨t,h,q⟩:=hbody cdv A outer s H vs Q E hr uY
 exact⟨t,h.Bv,q⟩
theorem Gv.binds{st:Stmt}(F:Gv K x qual st f fd)(h:∀(kV doc pm:Value) (an:Option Addr) (cdv ct:Value) (us:List Value),us.length=ps.length->bindArgs (PySem.W.fnOf x qual (fY st) (dR st) (aF st) .none kV doc pm an cdv ct) ⟨us,[]⟩=pure (ps.zip us)):Binds K fd ps [] :=by
 obtain⟨oc,od,kV,doc,pm,an,cdv,ct,osl,rfl,lk,hcd⟩:=F.ex
 exact .all (h kV doc pm an cdv ct)
theorem JU{st:Stmt}{kV:Value}(l:K.lookup f=some ⟨oc,od,.func (PySem.W.fnOf x qual (fY st) (dR st) (aF st) .none kV doc pm an cdv ct),osl⟩)(c:PySem.W.codeIn K cdv qual=true)(k:PySem.W.keepIn K (.ref f)=true):Gv K x qual st f (PySem.W.fnOf x qual (fY st) (dR st) (aF st) .none kV doc pm an cdv ct):=⟨⟨oc,od,kV,doc,pm,an,cdv,ct,osl,Z,l,c⟩,k⟩
end
theorem d8{A:Around}{k:Nat}(hr:fj k A):A.units+1<cLine:=Jv (Nat.add_le_add_left (by decide:1<=64) _) hr.units
theorem dI(h:n<=1000):n<sizeLine:=Jv h (by decide)
section
variable {X:Cx}
end
theorem bM{A B:Prop}(h:B):if false=true then A else B:=by rw[aB iH];exact h
theorem nM{A B:Prop}(h:A):if true=true then A else B:=by rw[aC rfl];exact h
theorem cI{c A B:Prop}[Decidable c](h1:c->A)(h2:¬ c->B):if c then A else B:=by
 by_cases h:c
 .rw [aC h];exact h1 h
 .rw [aB h];exact h2 h
def aR(H H':Hp):Prop:=∀b o,H b=some o->H' b=some o
theorem aR.refl(H:Hp):aR H H:=λ_ _ h=>h
variable {H H1 H2:Hp}
theorem aR.trans(a:aR H H1)(b:aR H1 H2):aR H H2:=λc o h=>b c o (a c o h)
variable {H':Hp}
theorem aR.free(e:aR H H'){l:Addr}(h:H' l=Option.none):H l=Option.none:=by
 cases q:H l with
 | none=>rfl
 | some o=>rw[e l o q]at h;cases h
variable {xs:List V}
theorem aR.seq(e:aR H H')(h:aI K H a xs):aI K H' a xs:=by
 rcases h with(h|⟨o,h⟩)|h
 .exact .inl (.inl (e _ _ h))
 .exact .inl (.inr ⟨o,e _ _ h⟩)
 .exact .inr h
section
variable {X:Cx}
theorem wL:i9 X (.builtin "len") (λxs H Q=>∃a kvs,xs=[V.ref a]/\H a=some (.dK kvs)/\Q (.int kvs.length) H):=by intro pins s σ H xs us Q I r h;obtain⟨a,kvs,rfl,ha,q⟩:=h;obtain⟨u,rfl,ru⟩:=vals1 r;cases ru;exact acK I (.inl ha) λt s' I'=>⟨.int kvs.length,H,I',⟨t,Z⟩,q⟩
end
section
variable {κ:Type}[DecidableEq κ]
theorem UI{kvs:List (κ×V)}{k:κ}(h:dY kvs k=none):¬ k∈kvs.map (·.1):=by intro m;obtain⟨p,hp,e⟩:=aZ.mp m;have q:(kvs.any λkv=>decide (kv.1=k))=true:=List.any_eq_true.mpr ⟨p,hp,bq e⟩;rw[qQ,h]at q;exact absurd q (by simp)
theorem o_:∀{l:List κ}{k:κ},l.Nodup->¬ k∈l->(l++[k]).Nodup
 | [],k,_,_=>by simp
 | a::r,k,h,hk=>by
  obtain⟨h1,h2⟩:=fU.mp h;show(a::(r++[k])).Nodup;refine fU.mpr ⟨λm=>?_,o_ h2 λm=>hk (b8.mpr (Or.inr m))⟩;rcases fq.mp m with q|q
  .exact h1 q
  .exact hk (b8.mpr (Or.inl (eO.mp q).symm))
theorem Xy{kvs:List (κ×V)}{k:κ}(v:V)(hn:(kvs.map (·.1)).Nodup)(h:dY kvs k=none):((putK kvs k v).map (·.1)).Nodup:=by rw[mF v h,bX];exact o_ hn (UI h)
end
end L2
set_option maxHeartbeats 4000000
namespace L2
open PySem PySem.Spec PyProof.Rows
variable {n:Nat}
section
variable {X:Cx}
def Dg(_ j:Int):Prop:=0<j/\j.natAbs.log2<9000
theorem jl:jA X (binaryOp .FloorDiv) (rI Dg λi j=> .int (i / j)):=Ru λi j _ _ _ _ _ hc q=>by have h1:(0:Int)<j:=hc.1;exact floordiv_int (by omega) (by rw[Int.fdiv_eq_ediv_of_nonneg i (by omega)];exact q) (.inl (PyProof.noPylong_of_log2 hc.2))
theorem z9{i j:Int}(h:(decide (0<j) && decide (j.natAbs.log2<9000))=true):Dg i j:=by obtain⟨a,b⟩:=nJ.mp h;exact⟨eF a,eF b⟩
theorem UJ{i j:Int}(h0:0<j)(h:j<2 ^ n)(hn:n<=9000):Dg i j:=by
 refine⟨h0,?_⟩;have e:(j.natAbs:Int)=j:=by omega
 have h2:j.natAbs<2 ^ n:=by
  have:(j.natAbs:Int)<((2 ^ n:Nat):Int):=by rw[e];simpa using h
  exact Int.ofNat_lt.mp this
 have:=(Nat.log2_lt (n:=j.natAbs) (k:=n) (by omega)).mpr h2;omega
def Qw(i j:Int):Prop:=∃m n:Nat,i.natAbs<2 ^ m/\j.natAbs<2 ^ n/\m+n<=134217728
theorem qR:jA X (binaryOp .Mult) (rI Qw λi j=> .int (i*j)):=Ru λ_ _ _ _ _ _ _ hc q=>by obtain⟨m,n,h1,h2,h3⟩:=hc;exact mul_int q (IntMulOk.of_le (PO.mpr h1) (PO.mpr h2) h3)
mutual
inductive Dt(K:Fg)(H:Hp):V->PyData->Prop
 | cT:Dt K H .cT .none
 | bl (b:Bool):Dt K H (.bl b) (.bool b)
 | int (i:Int):Dt K H (.int i) (.int i)
 | str (x:Str):Dt K H (.str x) (.str x)
 | lst {a:Addr} {xs:List V} {ds:List PyData}:aI K H a xs->uw K H xs ds->Dt K H (.ref a) (.list ds)
 | tup {a:Addr} {xs:List V} {ds:List PyData}:dz K H a xs->uw K H xs ds->Dt K H (.ref a) (.tuple ds)
inductive uw(K:Fg)(H:Hp):List V->List PyData->Prop
 | nil:uw K H [] []
 | cons {x:V} {xs:List V} {d:PyData} {ds:List PyData}:Dt K H x d->uw K H xs ds->uw K H (x::xs) (d::ds)
end
section
variable {pins:AO}{σ:St}{H:Hp}{s:Shared}
mutual
theorem Dt.reads(I:Inv X pins σ H s):∀{x:V}{d:PyData}{u:Value},Dt X.K H x d->RelV x u->∃as,Reads s.heap u d as
 | _,_,u,.cT,r=>by cases(show u=Value.none from r);exact⟨_,.none⟩
 | _,_,u,.bl b,r=>by cases(show u=Value.bool b from r);exact⟨_,.bool b⟩
 | _,_,u,.int i,r=>by obtain⟨t,rfl⟩:=(show ∃t,u=Value.int i t from r);exact⟨_,.int i t⟩
 | _,_,u,.str x,r=>by obtain⟨t,rfl⟩:=(show ∃t,u=Value.str x t from r);exact⟨_,.str x t⟩
 | _,_,u,@Dt.lst _ _ a xs ds h hd,r=>by cases(show u=Value.ref a from r);obtain⟨its,rv,⟨o,n,e,c,_,d⟩,hz⟩:=I.list h;obtain⟨as,ra⟩:=uw.reads I hd rv;exact⟨_,.list e c d (by simpa using ra)⟩
 | _,_,u,@Dt.tup _ _ a xs ds h hd,r=>by cases(show u=Value.ref a from r);obtain⟨its,rv,⟨o,e,c,n,d⟩,hz⟩:=I.tuple h;obtain⟨as,ra⟩:=uw.reads I hd rv;exact⟨_,.tuple e c d (by simpa using ra)⟩
theorem uw.reads(I:Inv X pins σ H s):∀{xs:List V}{ds:List PyData}{us:List Value},uw X.K H xs ds->Vals xs us->∃as,ReadsAll s.heap us ds as
 | _,_,_,.nil,.nil=>⟨_,.nil⟩
 | _,_,_,.cons h t,.cons r rs=>by obtain⟨as,ra⟩:=Dt.reads I h r;obtain⟨bs,rb⟩:=uw.reads I t rs;exact⟨_,.cons ra rb⟩
end
end
inductive ZJ(K:Fg)(x:V)(y:V)(H:Hp)(Q:VK):Prop
 |mk(d e:_)(_:Dt K H x d)(_:Dt K H y e)(_:SeqAt.shaped d=true)(_:SeqAt.shaped e=true)(_:Q (.bl (PyData.eqv d e)) H)
inductive UK(K:Fg)(x:V)(y:V)(H:Hp)(Q:VK):Prop
 |mk(d e:_)(_:Dt K H x d)(_:Dt K H y e)(_:SeqAt.shaped d=true)(_:SeqAt.shaped e=true)(_:Q (.bl (!PyData.eqv d e)) H)
theorem ZK(hu:X.A.units+64<cLine):jA X (compareOp .Eq) (ZJ X.K):=by intro pins s σ H x y v u Q I rx ry h;obtain⟨d,e,hd,he,sd,se,q⟩:=h;obtain⟨as,ra⟩:=hd.reads I rx;obtain⟨bs,rb⟩:=he.reads I ry;exact eq_dataH ra rb sd se hu ⟨.bl _,H,I,Z,q⟩
theorem ZL(hu:X.A.units+64<cLine):jA X (compareOp .NotEq) (UK X.K):=by intro pins s σ H x y v u Q I rx ry h;obtain⟨d,e,hd,he,sd,se,q⟩:=h;obtain⟨as,ra⟩:=hd.reads I rx;obtain⟨bs,rb⟩:=he.reads I ry;exact ne_dataH ra rb sd se hu ⟨.bl _,H,I,Z,q⟩
structure Bx(p:Prop):Prop where
 ex:p
def bx(f:Sp):Sp:=λvs H Q E=>Bx (f vs H Q E)
structure Dn(P:Program)(w:World)(K:Fg)(mg:SO)(base:Heap)(k:Nat)(x:Str)(ps:List Str)(sp:Sp):Prop where
 ex:∃f fd,kh P w K mg base u7 k f fd ps sp/\Binds K fd ps []/\PySem.W.keepIn K (.ref f)=true/\mg x=some (.ref f)
end
structure At(K:Fg)(mg:SO)(x:Str)(st:Stmt)(f:Addr)(fd:FuncData):Prop where
 fn:Gv K x x st f fd
 name:mg x=some (.ref f)
variable {P:Program}{K:Fg}{mg:SO}{base:Heap}{x:Str}{f:Addr}{fd:FuncData}{N ps:List Str}{sp:Sp}
theorem At.ok{w:World}{st:Stmt}{k:Nat}(F:At K mg x st f fd)(S:aS N ps (aF st))(len:∀vs H Q E,sp vs H Q E->vs.length=ps.length)(hbody:∀(cdv:Value) (A:Around) (outer:List Env) (s:Shared) (H:Hp) (vs:List V) (Q:VK) (E:XK),fj k (A.deeper (envOfC x (aF st) s.heap.objs.size f cdv))->sp vs H Q E->
    ∃t,wJ (tN u7 P w K mg base N x (aF st) f cdv A outer s H E).Bv (dR st) t/\t { nx:=λ_ H'=>Q .cT H',rt:=Q } (start N vs) H)(h:∀(kV doc pm:Value) (an:Option Addr) (cdv ct:Value) (us:List Value),us.length=ps.length->bindArgs (PySem.W.fnOf x x (fY st) (dR st) (aF st) .none kV doc pm an cdv ct) ⟨us,[]⟩=pure (ps.zip us)):
  Dn P w K mg base (k+1) x ps sp:=⟨f,fd,F.fn.ok S len hbody,F.fn.binds h,F.fn.kp,F.name⟩
variable {h:Heap}{oc doc pm cdv ct:Value}{od an:Option Addr}{osl:Array (Option Value)}
theorem Wb{st:Stmt}{kV:Value}(X:K.In h)(G:h.Ns mainGlobals mg)(a:PySem.W.nsIn K mainGlobals x=some (some (.ref f)))(l:K.lookup f=some ⟨oc,od,.func (PySem.W.fnOf x x (fY st) (dR st) (aF st) .none kV doc pm an cdv ct),osl⟩)(c:PySem.W.codeIn K cdv x=true)(k:PySem.W.keepIn K (.ref f)=true):At K mg x st f (PySem.W.fnOf x x (fY st) (dR st) (aF st) .none kV doc pm an cdv ct):=⟨JU l c k,PySem.W.mg_of X G a⟩
theorem aR.tup{H H':Hp}{K:Fg}{a:Addr}{xs:List V}(e:aR H H')(h:dz K H a xs):dz K H' a xs:=by
 rcases h with(h|⟨o,h⟩)|h
 .exact .inl (.inl (e _ _ h))
 .exact .inl (.inr ⟨o,e _ _ h⟩)
 .exact .inr h
variable {H:Hp}
theorem aH{p:Addr}(h:H p=none)(o:HO):aR H (upd H p o):=λb u q=>by rw[ay (aD q h)];exact q
theorem small(h:n<=1000):n<=sizeLine:=CV (dI h)
end L2
namespace Jm
def cf(a b:Int):Int:=(Int.gcd a b:Int)
theorem Xz(a:Int)(h:0<=a):cf a 0=a:=by unfold cf;rw[Int.gcd_zero_right];omega
theorem Oq(a b:Int)(h:0<b):cf b (a % b)=cf a b:=by unfold cf;rw[Int.emod_def,Int.gcd_sub_mul_left_right,Int.gcd_comm]
theorem JV(a b:Int)(h:0<a\/0<b):0<cf a b:=by
 unfold cf;have:0<Int.gcd a b:=by
  rcases h with h|h
  .exact Int.gcd_pos_of_ne_zero_left _ (by omega)
  .exact Int.gcd_pos_of_ne_zero_right _ (by omega)
 omega
theorem XA(a b:Int):cf a b=cf b a:=by unfold cf;rw[Int.gcd_comm]
abbrev fr(t b:Int):Rat:=Rat.divInt t b
theorem ZM(t b:Int)(h:0<b):(fr t b).num=t / cf b t:=by unfold fr cf;rw[Rat.num_divInt,Int.sign_eq_one_of_pos h,Int.one_mul]
theorem ZN(t b:Int)(h:0<b):((fr t b).den:Int)=b / cf b t:=by unfold fr cf;rw[Rat.den_divInt,aB (by omega)];rw[Int.natCast_ediv];congr 1;omega
theorem xF(a b:Int):cf a b∣a:=Int.gcd_dvd_left ..
theorem pR(a b:Int):cf a b∣b:=Int.gcd_dvd_right ..
theorem Qx{t b t' b':Int}(h:0<b)(h':0<b')(e:t*b'=t'*b):fr t b=fr t' b':=(Rat.divInt_eq_divInt_iff (by omega) (by omega)).mpr e
theorem RQ{n d:Int}(h:0<d)(c:cf n d=1):(fr n d).num=n/\((fr n d).den:Int)=d:=by rw[ZM n d h,ZN n d h,XA,c,CW,CW];exact⟨Z,Z⟩
def Sz(n:Nat)(x:Int):Prop:=x.natAbs<2 ^ n
theorem Sz.mono{m n:Nat}{x:Int}(h:Sz m x)(hn:m<=n):Sz n x:=lS h (Nat.pow_le_pow_right (by decide) hn)
theorem Sz.of_le{n:Nat}{x y:Int}(h:Sz n y)(hx:x.natAbs<=y.natAbs):Sz n x:=Jv hx h
theorem Sz.neg{n:Nat}{x:Int}(h:Sz n x):Sz n (-x):=h.of_le (by omega)
theorem Sz.mul{m n:Nat}{x y:Int}(hx:Sz m x)(hy:Sz n y):Sz (m+n) (x*y):=by unfold Sz at *;rw[CS,Nat.pow_add];exact Nat.mul_lt_mul'' hx hy
theorem Sz.add{m n:Nat}{x y:Int}(hx:Sz m x)(hy:Sz n y):Sz (max m n+1) (x+y):=by have h1:=hx.mono (Nat.le_max_left m n);have h2:=hy.mono (Nat.le_max_right m n);unfold Sz at *;rw[Nat.pow_succ];omega
theorem Sz.jX{n:Nat}{x y:Int}(hx:Sz n x)(hy:Sz n y):Sz (n+1) (x+y):=by
 have:=hx.add hy
 rwa [Nat.max_self]at this
theorem Sz.pS{n:Nat}{x B:Int}(h0:-B<=x)(h1:x<=B)(hB:Sz n B):Sz n x:=hB.of_le (by omega)
theorem Sz.ediv{n:Nat}{x y:Int}(h:Sz n x)(hy:0<y):Sz n (x / y):=by
 refine h.of_le ?_;have e:=Int.emod_add_mul_ediv x y;have m0:=pM x (b:=y) (by omega);have m1:=zU x hy;rcases Int.lt_or_le x 0 with hx|hx
 .have q0:x / y<0:=Int.ediv_neg_of_neg_of_pos hx hy;have z:y*(x / y)<=1*(x / y):=Int.mul_le_mul_of_nonpos_right (by omega) (by omega);rcases Int.lt_or_le (x / y) x with k|k
  .exfalso;have z2:y*(x / y)<=y*(x-1):=Jq (by omega) (by omega);have z3:y*(x-1)<=1*(x-1)-(y-1):=by
    have z4:(y-1)*(x-1)<=(y-1)*(-2):=Jq (by omega) (by omega);have z5:y*(x-1)=(y-1)*(x-1)+(x-1):=by grind
    omega
   omega
  .omega
 .have q0:0<=x / y:=Ja hx (by omega);have:=Int.ediv_le_self y hx;omega
theorem Sz.dvd{n:Nat}{x y:Int}(h:Sz n y)(hy:0<y)(hx:0<=x)(d:x∣y):Sz n x:=h.of_le (by have:=Int.le_of_dvd hy d;omega)
theorem RS{n:Nat}:∀{ws:List Int},(∀m∈ws,Sz n m)->Sz (n+ws.length) ws.sum
 | [],_=>by unfold Sz;show 0<_;exact Nat.two_pow_pos _
 | x::r,h=>by have h1:=RS (ws:=r) λm hm=>h m (b7 _ hm);have h2:=((h x cN).mono (xB n r.length)).jX h1;rw[dg];exact h2.mono (by rw[kg];omega)
def Dh(c:Int):Nat->Int
 | 0=>c
 | i+1=>Dh c i / 10000000000
def cellOf(ns:List Int)(k:Int):Int:=if 0<(ns.length:Int) then ns.getD (k % ns.length).toNat 0 else 0
def z_(ns:List Int)(k:Int):Int:=if 0<(ns.length:Int) then k / ns.length else 1
def mixed(c k j many:Int):Int:=
 let one:=(c*7919+k*104729+j*1299709+31) % 1000000007
 let two:=(one*48271+c / 1009) % 998244353
 let three:=(two*(one % 9973+1)+j) % 1000000009
 (one*69621+three*40692+three / 1013) % 2147483647 % many
def draw(ns:List Int)(k j many:Int):Int:=if z_ ns k=0/\1000000000000000000<=cellOf ns k/\0<Dh (cellOf ns k) j.toNat then Dh (cellOf ns k) j.toNat % 10000000000 % many
 else mixed (cellOf ns k) k j many
theorem XC(ns:List Int)(k j many:Int)(h:0<many):0<=draw ns k j many:=by
 unfold draw;split
 .exact pM _ (by omega)
 .exact pM _ (by omega)
theorem XD(ns:List Int)(k j many:Int)(h:0<many):draw ns k j many<many:=by
 unfold draw;split
 .exact zU _ h
 .exact zU _ h
end Jm
namespace L2
open PySem PySem.Spec PyProof.Rows
inductive acP(K:Fg)(vs:List V)(H:Hp)(Q:VK)(E:XK):Prop
 |mk(a:Addr)(ns:List Int)(k j many:Int)(_:vs=[.ref a,.int k,.int j,.int many])(_:aI K H a (ns.map V.int))(_:ns.length<=63)(_:0<=k)(_:0<=j)(_:j<2 ^ 62)(_:0<many)(_:Q (.int (Jm.draw ns k j many)) H)
def sP(K:Fg):Sp:=bx (acP K)
variable {K:Fg}{H:Hp}{a:Addr}{ns:List Int}
theorem c_{Q:VK}{E:XK}{k j many:Int}(hS:aI K H a (ns.map V.int))(h63:ns.length<=63)(h1:0<=k)(h2:0<=j)(h3:j<2 ^ 62)(h4:0<many)(h:∀d:Int,d=Jm.draw ns k j many->0<=d->d<many->Q (.int d) H):sP K [.ref a,.int k,.int j,.int many] H Q E:=
 ⟨a,ns,k,j,many,Z,hS,h63,h1,h2,h3,h4,h _ rfl (Jm.XC ns k j many h4) (Jm.XD ns k j many h4)⟩
def UL:Sp:=λvs H Q _=>∃a b:Int,vs=[.int a,.int b]/\0<=a/\0<=b/\Q (.int (Jm.cf a b)) H
abbrev tO(q:Rat):HO:=.tup [.int q.num,.int (q.den:Int)]
def Jk(K:Fg):Sp:=λvs H Q _=>∃(a:Addr)(ns:List Int),vs=[.ref a]/\aI K H a (ns.map V.int)/\ns.length<=63/\∀H',Q (.bl true) H'
section
variable {X:Cx}{pos:Pos}
def Ends.too(D:Ends)(J:St->Hp->Prop):Ends:={ D with nx:=J }
def acQ(t u:TS)(D:Ends)(σ:St)(J:St->Hp->Prop):Bool->Hp->Prop:=λb H1=>if b=true then t (D.too J) σ H1 else u (D.too J) σ H1
inductive ZO(c:TT)(t u:TS)(D:Ends)(σ:St)(H:Hp):Prop
 |mk(J:St->Hp->Prop)(_:c σ H (acQ t u D σ J))(_:∀σ' H',J σ' H'->D.nx σ' H')
end
theorem yE{i j:Int}(h0:0<j)(h:Jm.Sz 9000 j):Dg i j:=by refine⟨h0,?_⟩;exact(Nat.log2_lt (by omega)).mpr h
variable {m n:Nat}
theorem pe{i j:Int}(hi:Jm.Sz m i)(hj:Jm.Sz n j)(h:m+n<=134217728:=by decide):Qw i j:=⟨m,n,hi,hj,h⟩
theorem pT{x:Int}(h:decide (x.natAbs<2 ^ n)=true):Jm.Sz n x:=by unfold Jm.Sz;exact eF h
theorem XE{k:Int}(h0:0<=k)(h:k<(ns.length:Int)):sO (ns.map V.int) k=some (.int (ns.getD k.toNat 0)):=by
 have hk:k.toNat<ns.length:=by omega
 have ek:k=((k.toNat:Nat):Int):=by omega
 have q:sO (ns.map V.int) ((k.toNat:Nat):Int)=some (.int (ns.getD k.toNat 0)):=aM (by rw[cK,kK,bK hk] <;> rfl);rw[<-ek]at q;exact q
variable {elt target iter:Expr}{scope:Scope}{pos:Pos}{env:Env}
section
variable {prog:Program}{w:World}{A:Around}{R:Result->Shared->Prop}{s:Shared}
theorem JW{it acc:Value}(J:Nat->Shared->Prop)(turn:∀n s,J n s->wpAny (model prog w) A (pyNext it) (λr s₁=>match r with
    | none=>R (.ok .next) s₁
    | some v=>wpAny (model prog w) A (letOwnedTupleGo target it v) (λ_ s₂=>wpAny (model prog w) A (assign target env v) (λ_ s₃=>wpAny (model prog w) A (eval elt env) (λx s₄=>
            wpAny (model prog w) A (call (.builtin "list.append") [acc,x]) (λ_ s₅=>∃m,m<n/\J m s₅) (λ_ _=>False) s₄) (λ_ _=>False) s₃) (λ_ _=>False) s₂) (λ_ _=>False) s₁) (λ_ _=>False) s)(n:Nat)(h:J n s):codeAny (model prog w) A (.compLoop (.ListComp elt [⟨target,iter,[],0⟩] scope pos) 0 it acc env) R s:=by
 refine codeAny_loop rfl J (λn s hI=>?_) n h
 show wpAny _ A ((compTurn (.ListComp elt [⟨target,iter,[],0⟩] scope pos) 0 it acc env).onRaise (λx=>do noteFrame x env;theTreesLotGoes x)) _ _ s
 refine wpAny_noted ?_
 rw[compTurn_list1]
 refine aA (yw (aA (gG (turn n s hI) (λr s₁ h₁=>?_) λ_ _ h'=>h'.elim)))
 cases r with
 | none=>exact aU h₁
 | some v=>
   refine aA (gG h₁ (λ_ s₂ h₂=>aA (gG h₂ (λ_ s₃ h₃=>?_) λ_ _ h'=>h'.elim)) λ_ _ h'=>h'.elim)
   exact aA (aA (gG h₃ (λx s₄ h₄=>aA (gG h₄ (λ_ s₅ h₅=>aU (aU ⟨Z,h₅⟩)) λ_ _ h'=>h'.elim)) λ_ _ h'=>h'.elim))
end
theorem uH(h:∀y∈scope.names,y.2 =.free->∃c,env.cells.lookup y.1=some c):∃cl,closureFor scope env=pure cl/\(∀y c,(y,c)∈cl->env.cells.lookup y=some c/\(y,NameKind.free)∈scope.names)/\∀y,(y,NameKind.free)∈scope.names->∃c,(y,c)∈cl:=by
 have gen:∀(names:List (Str×NameKind))(acc:List (Str×Addr)),(∀y∈names,y.2 =.free->∃c,env.cells.lookup y.1=some c)->
   ∃cl,(forIn names acc λ(x:Str×NameKind)(cs:List (Str×Addr))=>(if(x.2==NameKind.free)=true then do let a <-cellOf env x.1;pure (ForInStep.yield ((x.1,a)::cs)) else pure (ForInStep.yield cs):Sem _))=pure cl/\
    (∀y c,(y,c)∈cl->(env.cells.lookup y=some c/\(y,NameKind.free)∈names)\/(y,c)∈acc)/\(∀p∈acc,p∈cl)/\∀y,(y,NameKind.free)∈names->∃c,(y,c)∈cl:=by
  intro names
  induction names with
  | nil=>intro acc _;exact⟨acc,by rw[yv],λy c m=> .inr m,λp hp=>hp,λy m=>nomatch m⟩
  | cons x r ih=>
    intro acc hc
    obtain⟨n,k⟩:=x
    by_cases hk:k =.free
    . subst hk
      obtain⟨c,ec⟩:=hc (n,.free) cN rfl
      obtain⟨cl,e,h1,h2,h3⟩:=ih ((n,c)::acc) λy hy=>hc y (b7 _ hy)
      refine⟨cl,?_,λy d m=>?_,λp hp=>h2 p (b7 _ hp),λy m=>?_⟩
      . rw[Jb,<-e]
        have acR:cellOf env n=pure c:=by unfold cellOf;rw[ec]
        simp only[CM,if_true,acR,pure_bind]
      . rcases h1 y d m with⟨a,b⟩|b
        . exact .inl ⟨a,b7 _ b⟩
        . rcases b8.mp b with z|z
          . cases z;exact .inl ⟨ec,cN⟩
          . exact .inr z
      . rcases b8.mp m with z|z
        . cases z;exact⟨c,h2 _ cN⟩
        . exact h3 y z
    . obtain⟨cl,e,h1,h2,h3⟩:=ih acc λy hy=>hc y (b7 _ hy)
      have hb:(k==NameKind.free)=false:=by simpa using hk
      refine⟨cl,?_,λy d m=>?_,h2,λy m=>?_⟩
      . rw[Jb,<-e]
        simp only[hb,EE,pP,pure_bind]
      . rcases h1 y d m with⟨a,b⟩|b
        . exact .inl ⟨a,b7 _ b⟩
        . exact .inr b
      . rcases b8.mp m with z|z
        . cases z;exact absurd rfl hk
        . exact h3 y z
 obtain⟨cl,e,h1,_,h3⟩:=gen scope.names [] h;refine⟨cl,?_,λy c m=>(h1 y c m).elim id (λz=>nomatch z),h3⟩;have e2:closureFor scope env=((forIn scope.names ([] :List (Str×Addr)) λ(x:Str×NameKind)(cs:List (Str×Addr))=>(if(x.2==NameKind.free)=true then do let a <-cellOf env x.1;pure (ForInStep.yield ((x.1,a)::cs)) else pure (ForInStep.yield cs):Sem _)) >>= λr=>pure r):=rfl;rw[e2,e];rfl
theorem lookup_mem{α:Type}{l:List (Str×α)}{y:Str}{c:α}(h:(y,c)∈l):∃d,l.lookup y=some d:=by
 induction l with
 | nil=>cases h
 | cons p r ih=>
  obtain⟨k,v⟩:=p;rw[lW];cases hb:y==k with
  | true=>exact⟨v,Z⟩
  | false=>
   rcases b8.mp h with z|z
   .cases z;simp at hb
   .exact ih z
theorem m9:∀(names:List (Str×NameKind))(n:Nat)(acc:List (Str×Addr)){x:Str}{c:Addr},(cellsFrom n names acc).lookup x=some c->n<=c\/acc.lookup x=some c
 | [],_,_,_,_,h=> .inr h
 | (name,kind)::r,n,acc,x,c,h=>by
  unfold cellsFrom at h;split at h
  .rcases m9 r (n+1) _ h with z|z
   .exact .inl (by omega)
   .rw [lW]at z;cases hb:x==name with
    | true=>rw[hb]at z;cases z;exact .inl (aO _)
    | false=>rw[hb]at z;exact .inr z
  .exact m9 r n acc h
theorem HC:∀(names:List (Str×NameKind))(n n0:Nat)(acc:List (Str×Addr)){x:Str}{c:Addr},n0<=n->(∀d,acc.lookup x=some d->n0<=d)->(cellsFrom n names acc).lookup x=some c->n0<=c:=by
 intro names n n0 acc x c hn ha h;rcases m9 names n acc h with z|z
 .omega
 .exact ha c z
theorem tP:∀(names:List (Str×NameKind))(n:Nat)(acc:List (Str×Addr)){x:Str}{c:Addr},(x,NameKind.cell)∈names->(cellsFrom n names acc).lookup x=some c->n<=c
 | [],_,_,_,_,m,_=>nomatch m
 | (name,kind)::r,n,acc,x,c,m,h=>by
  unfold cellsFrom at h;rcases b8.mp m with z|z
  .cases z;rw[aC (by rfl)]at h;refine HC r (n+1) n _ (by omega) (λd hd=>?_) h;rw[lW,CM]at hd;cases hd;exact aO _
  .split at h
   .exact f_ (A0 _) (tP r (n+1) _ z h)
   .exact tP r n acc z h
theorem m_:∀(names:List (Str×NameKind))(n:Nat)(acc:List (Str×Addr)){x:Str},(∃c,acc.lookup x=some c)->∃c,(cellsFrom n names acc).lookup x=some c
 | [],_,_,_,h=>h
 | (name,kind)::r,n,acc,x,h=>by
  unfold cellsFrom;split
  .refine m_ r (n+1) _ ?_;rw[lW];cases x==name with
   | true=>exact⟨_,Z⟩
   | false=>exact h
  .exact m_ r n acc h
theorem tQ:∀(names:List (Str×NameKind))(n:Nat)(acc:List (Str×Addr)){x:Str},(x,NameKind.cell)∈names->∃c,(cellsFrom n names acc).lookup x=some c
 | [],_,_,_,m=>nomatch m
 | (name,kind)::r,n,acc,x,m=>by
  unfold cellsFrom;rcases b8.mp m with z|z
  .cases z;rw[aC (by rfl)];refine m_ r (n+1) _ ⟨n,?_⟩;rw[lW,CM]
  .split
   .exact tQ r (n+1) _ z
   .exact tQ r n acc z
theorem tR:∀(names:List (Str×NameKind))(n:Nat)(acc:List (Str×Addr)){x:Str},(x,NameKind.cell)∉names->(cellsFrom n names acc).lookup x=acc.lookup x
 | [],_,_,_,_=>rfl
 | (name,kind)::r,n,acc,x,m=>by
  have m2:(x,NameKind.cell)∉r:=λz=>m (b7 _ z);unfold cellsFrom;split
  .rename_i hk;rw[tR r (n+1) _ m2,lW];cases hb:x==name with
   | true=>
    have e1:=uF.mp hb;have e2:kind=NameKind.cell:=by simpa using hk
    subst e1 e2;exact absurd cN m
   | false=>rfl
  .exact tR r n acc m2
theorem tS:∀(names:List (Str×NameKind))(n:Nat)(acc:List (Str×Addr)),(∀x y c,acc.lookup x=some c->acc.lookup y=some c->x=y)->(∀x c,acc.lookup x=some c->c<n)->∀x y c,(cellsFrom n names acc).lookup x=some c->(cellsFrom n names acc).lookup y=some c->x=y
 | [],_,_,h,_=>h
 | (name,kind)::r,n,acc,h,hlt=>by
  intro x y c hx hy;unfold cellsFrom at hx hy;split at hx
  .rename_i hk;rw[aC hk]at hy;refine tS r (n+1) _ (λx y c hx hy=>?_) (λx c hx=>?_) x y c hx hy
   .rw [lW]at hx hy;cases hb:x==name with
    | true=>
     cases hb2:y==name with
     | true=>rw[uF.mp hb,uF.mp hb2]
     | false=>rw[hb]at hx;rw[hb2]at hy;cases hx;exact absurd (hlt _ _ hy) (i7 _)
    | false=>
     cases hb2:y==name with
     | true=>rw[hb]at hx;rw[hb2]at hy;cases hy;exact absurd (hlt _ _ hx) (i7 _)
     | false=>rw[hb]at hx;rw[hb2]at hy;exact h x y c hx hy
   .rw [lW]at hx;cases hb:x==name with
    | true=>rw[hb]at hx;cases hx;exact Nat.lt_succ_self _
    | false=>rw[hb]at hx;exact JA (hlt _ _ hx)
  .rename_i hk;rw[aB hk]at hy;exact tS r n acc h hlt x y c hx hy
theorem xG:∀(names:List (Str×NameKind))(h:Heap)(acc:List (Str×Addr)),(∀x c,acc.lookup x=some c->∃v,h.IsCell c v)->∀x c,(cellsFrom h.objs.size names acc).lookup x=some c->∃v,(pushCells h names).IsCell c v
 | [],_,_,ha=>ha
 | (name,kind)::r,h,acc,ha=>by
  intro x c hx;unfold cellsFrom at hx;unfold pushCells;split at hx
  .rename_i hk;rw[aC hk];have q:=xG r (h.push { cls:=.type "cell",data:=.cell none }) ((name,h.objs.size)::acc) (λx c hx=>by
    rw[lW]at hx;cases hb:x==name with
    | true=>rw[hb]at hx;cases hx;exact⟨none,_,eU _ rfl,Z⟩
    | false=>rw[hb]at hx;obtain⟨v,z⟩:=ha x c hx;exact⟨v,z.keeps λb o e=>cy _ e⟩) x c
   rw[kP]at q;exact q hx
  .rename_i hk;rw[aB hk];exact xG r h acc ha x c hx
def cO(X:Cx)(N2:List Str)(scope:Scope)(cl:List (Str×Addr))(s₂:Shared)(H₂:Hp)(fp:List Addr):Cx where
 prog:=X.prog
 w:=X.w
 K:=X.K
 mg:=X.mg
 base:=X.base
 A:=X.A
 N:=N2
 s₀:=s₂
 H₀:=H₂
 env:={ scope:=relabel scope X.env,locals:=s₂.heap.objs.size,globals:=X.env.globals,cells:=cellsFrom (s₂.heap.objs.size+1) scope.names cl,qual:=X.env.qual,func:=none,code:=X.env.code,frame:=X.env.frame,builtins:=X.env.builtins }
 outer:=X.stack
 stack:=X.stack
 ex:=fp
 fn:=λx=>decide (scope.names.lookup x=some .cell)
 calm:=X.calm
 pn:=[]
 xe:=λ_ _=>False
def nS(XN:List Str)(xn sn:List (Str×NameKind))(N2:List Str)(ix:List (Option Nat)):Bool:=(ix.length==N2.length) &&
 ((ix.zip N2).all λp=>match p.1 with
   | none=>true
   | some j=>XN[j]?==some p.2 && sn.lookup p.2==some .free && (xn.lookup p.2==some .cell || xn.lookup p.2==some .free)) &&
 (sn.all λy=>y.2 !=.free || (xn.lookup y.1==some .cell || xn.lookup y.1==some .free)) &&
 (sn.all λy=>y.2 !=.local || sn.lookup y.1==some .local) &&
 (sn.all λy=>y.2 !=.free || sn.all λz=>z.2 !=.cell || z.1 != y.1)
variable {x:Str}
theorem BB{k:NameKind}(h:(relabel scope env).names.lookup x=some k)(hk:k =.cell\/k =.free):(x,NameKind.cell)∈scope.names\/(x,NameKind.free)∈scope.names:=by
 have m:=yr h;obtain⟨y,hy,e⟩:=aZ.mp m;obtain⟨n,k0⟩:=y;dsimp only at e;split at e
 .rename_i hc;cases e;have h1:k0=NameKind.free:=by have:=(nJ.mp (nJ.mp hc).1).1;simpa using this
  subst h1;exact .inr hy
 .cases e;rcases hk with rfl|rfl
  .exact .inl hy
  .exact .inr hy
theorem JX:∀{x:Str},scope.names.lookup x=some .free->(relabel scope env).names.lookup x=some .cell\/(relabel scope env).names.lookup x=some .free:=by
 intro x h;have gen:∀(l:List (Str×NameKind)),l.lookup x=some .free->(l.map λ(n,k)=>if(k==NameKind.free && env.scope.kind ==.function && env.kindOf n==some .cell) then(n,NameKind.cell) else(n,k)).lookup x=some .cell\/
   (l.map λ(n,k)=>if(k==NameKind.free && env.scope.kind ==.function && env.kindOf n==some .cell) then(n,NameKind.cell) else(n,k)).lookup x=some .free:=by
  intro l
  induction l with
  | nil=>intro h;cases h
  | cons p r ih=>
    intro h
    obtain⟨n,k⟩:=p
    rw[lW]at h
    rw[bz]
    dsimp only
    cases hb:x==n with
    | true=>
      rw[hb]at h
      cases h
      split
      . rw[lW,hb];exact .inl rfl
      . rw[lW,hb];exact .inr rfl
    | false=>
      rw[hb]at h
      split
      . rw[lW,hb];exact ih h
      . rw[lW,hb];exact ih h
 exact gen scope.names h
variable {X:Cx}{pins:AO}{σ σ2:St}{s:Shared}{N2:List Str}{cl:List (Str×Addr)}{fp:List Addr}
theorem yF(I:Inv X pins σ H s)(hk:scope.kind =.function)(B0:∀y c,(y,c)∈cl->X.env.cells.lookup y=some c)(Aa:∀y,(y,NameKind.free)∈scope.names->∃c,(y,c)∈cl)(hfp:∀b∈fp,mC X pins H b)(hfo:∀b∈fp,b<s.heap.objs.size)(hl:σ2.length=N2.length)(hσ:∀(i:Nat) (x:Str) (v:V),N2[i]?=some x->σ2[i]?=some (some v)->scope.names.lookup x=some .free/\(X.env.kindOf x=some .cell\/X.env.kindOf x=some .free)/\∃j:Nat,X.N[j]?=some x/\σ[j]?=some (some v))(hd:∀x,(x,NameKind.free)∈scope.names->(x,NameKind.cell)∉scope.names):
  Inv (cO X N2 scope cl s H fp) [] σ2 H { s with heap:=pushCells (s.heap.push { cls:=.type "dict",data:=.dict #[] }) scope.names }:=by
 have keeps:∀b o,s.heap.get? b=some o->(pushCells (s.heap.push { cls:=.type "dict",data:=.dict #[] }) scope.names).get? b=some o:=λb o e=>CQ _ _ b o (cy _ e)
 have hsz:(s.heap.push { cls:=.type "dict",data:=.dict #[] }).objs.size=s.heap.objs.size+1:=kP ..
 have Bb:∀x c,cl.lookup x=some c->X.env.cells.lookup x=some c:=λx c e=>B0 x c (yr e)
 have clt:∀x c,cl.lookup x=some c->c<s.heap.objs.size:=λx c e=>by obtain⟨v,z⟩:=I.cell x c (Bb x c e);exact z.lt
 have there:=xG scope.names (s.heap.push { cls:=.type "dict",data:=.dict #[] }) cl (λx c e=>by obtain⟨v,z⟩:=I.cell x c (Bb x c e);exact⟨v,z.keeps λb o e=>cy _ e⟩)
 rw[hsz]at there
 have cells:∀x c,(cellsFrom (s.heap.objs.size+1) scope.names cl).lookup x=some c->s.heap.objs.size+1<=c\/X.env.cells.lookup x=some c:=λx c e=>by
  rcases m9 _ _ _ e with z|z
  .exact .inl z
  .exact .inr (Bb x c z)
 have okY:(cO X N2 scope cl s H fp).Ok:=by
  refine⟨I.ok.mod,hk,I.ok.glob,I.ok.blt,aO _,?_,?_,?_,I.ok.hd,I.ok.frames,.inl rfl,?_,I.bs,f_ I.ok.Gg I.sz,?_,?_,I.stack,I.Oh⟩
  .exact tS _ _ _ (λx y c hx hy=>I.ok.inj x y c (Bb x c hx) (Bb y c hy)) λx c e=>JA (clt x c e)
  .intro x hx;have m:(x,NameKind.cell)∈scope.names\/(x,NameKind.free)∈scope.names:=by
    rcases hx with z|z
    .exact BB z (.inl rfl)
    .exact BB z (.inr rfl)
   rcases m with m|m
   .exact tQ _ _ _ m
   .obtain ⟨c,mc⟩:=Aa x m;exact m_ _ _ _ (lookup_mem mc)
  .intro x c hf e;have hf':scope.names.lookup x=some .cell:=eF hf;exact f_ (A0 _) (tP _ _ _ (yr hf') e)
  .intro b hb;refine⟨d7 (hfo b hb),λx c e z=>?_⟩;have hlt:=hfo b hb;rcases cells x c e with k|k
   .exact absurd (lS hlt (f_ (A0 _) (z▸k))) (i7 _)
   .exact (hfp b hb).2.2.2.2.1 x c k z
  .intro b o e hb;rcases(hfp b hb).2.2.2.1 with z|z
   .exact I.ok.JE b o e z
   .exact absurd (lS (bR (I.ok.bs b o e).1) z) (i7 _)
  .intro b hb hbs;rcases b8.mp (I.JH b hbs)with z|z
   .exact (hfp b hb).2.1 z
   .exact (hfp b hb).2.2.1 z
 refine⟨okY,Z,I.bare,Un.kept keeps,?_,there,I.hok.fresh (aO _),?_,(λp hp=>nomatch hp),I.hok.kept keeps,hl⟩
 . refine⟨λ_=>none,(Heap.Ns.new s.heap (.type "dict")).keeps (CQ _ _),λi x v e1 e2 _=>?_⟩
   obtain⟨hf,hx,j,j1,j2⟩:=hσ i x v e1 e2
   obtain⟨m,_,hloc⟩:=I.loc
   have hv:VZ X.env.scope x:=hx.elim (λz=> .inr (.inl z)) λz=> .inr (.inr z)
   obtain⟨u,r,lk⟩:=hloc j x v j1 j2 hv
   refine⟨u,r,.inr ⟨JX hf,?_⟩⟩
   rcases lk with⟨k,_⟩|⟨_,c,ec,ic⟩
   . rcases hx with z|z <;> rw[z]at k <;> cases k
   . refine⟨c,?_,ic.keeps keeps⟩
     have mf:=yr hf
     show(cellsFrom (s.heap.objs.size+1) scope.names cl).lookup x=some c
     rw[tR _ _ _ (hd x mf)]
     obtain⟨c',mc⟩:=Aa x mf
     obtain⟨d,ed⟩:=lookup_mem mc
     rw[ed]
     have:=Bb x d ed
     rw[ec]at this
     exact this.symm
 . intro x c e
   rcases cells x c e with k|k
   . exact I.hok.fresh (by omega)
   . exact I.oh x c k
variable {tg:Expr}{te:TE}{E:VS}
section
variable {X:Cx}
def Di(J:It)(g:TG)(te:TE)(acc:Addr)(σ₀:St)(H:Hp)(Q:VK):Prop:=∃W:Nat->Nat->St->Hp->Prop,(∃m,W 0 m σ₀ (upd H acc (.lst [])))/\∀i m σ2 H2,W i m σ2 H2->(J.stop i H2/\Q (.ref acc) H2)\/(J.go i H2/\∃(S:St->Prop)(N:V->Hp->Prop),(∀σ3 v H4,S σ3->N v H4->∃xs,H4 acc=some (.lst xs)/\xs.length<sizeLine/\∃m',m'<m/\W (i+1) m' σ3 (upd H4 acc (.lst (xs++[v]))))/\∀x H',J.zX i H2 x H'->g x σ2 H' λσ3 H3=>S σ3/\te σ3 H3 N)
inductive yG(Pv:Nat->List V->Hp->Prop)(i:Nat)(acc:Addr)(out:List V)(v:V)(H4:Hp):Prop
 |mk(_:H4 acc=some (.lst out))(_:Pv (i+1) (out++[v]) (upd H4 acc (.lst (out++[v]))))
def Wc(te:TE)(σ:St)(Pv:Nat->List V->Hp->Prop)(i:Nat)(acc:Addr)(out:List V):Bool->Hp->Prop:=λb H2=>if b=true then te σ H2 (yG Pv i acc out) else H2 acc=some (.lst out)/\Pv (i+1) out H2
def pick(ix:List (Option Nat))(σ:St):St:=ix.map λo=>o.bind λj=>(σ[j]?).join
def ZP(ix:List (Option Nat))(g:TG)(te:TE)(σ:St)(Q:VK):It->Hp->Prop:=λJ H1=>∀acc,H1 acc=none->Di J g te acc (pick ix σ) H1 Q
def Wd(wi:TI)(ix:List (Option Nat))(g:TG)(te:TE):TE:=λσ H Q=>wi σ H (ZP ix g te σ Q)
theorem kR{XN:List Str}{xn sn:List (Str×NameKind)}{ix:List (Option Nat)}(h:nS XN xn sn N2 ix=true):ix.length=N2.length/\(∀(i:Nat)(x:Str)(j:Nat),N2[i]?=some x->ix[i]?=some (some j)->XN[j]?=some x/\sn.lookup x=some .free/\(xn.lookup x=some .cell\/xn.lookup x=some .free))/\(∀y∈sn,y.2 =.free->xn.lookup y.1=some .cell\/xn.lookup y.1=some .free)/\(∀y∈sn,y.2 =.local->sn.lookup y.1=some .local)/\∀x,(x,NameKind.free)∈sn->(x,NameKind.cell)∉sn:=by
 unfold nS at h;obtain⟨h,h5⟩:=nJ.mp h;obtain⟨h,h4⟩:=nJ.mp h;obtain⟨h,h3⟩:=nJ.mp h;obtain⟨h1,h2⟩:=nJ.mp h;have e1:ix.length=N2.length:=by simpa using h1
 refine⟨e1,λi x j a b=>?_,λy hy e=>?_,λy hy e=>?_,λx m1 m2=>?_⟩
 .have m:(some j,x)∈ix.zip N2:=by refine cC (i:=i) ?_;rw[List.getElem?_zip_eq_some];exact⟨b,a⟩
  have q:=pK.mp h2 _ m;dsimp only at q;obtain⟨q,q3⟩:=nJ.mp q;obtain⟨q1,q2⟩:=nJ.mp q;exact⟨by simpa using q1,by simpa using q2,(Jt.mp q3).imp (λz=>by simpa using z) λz=>by simpa using z⟩
 .have q:=pK.mp h3 y hy;rcases Jt.mp q with z|z
  .rw [e]at z;simp at z
  .exact (Jt.mp z).imp (λz=>by simpa using z) λz=>by simpa using z
 .have q:=pK.mp h4 y hy;rcases Jt.mp q with z|z
  .rw [e]at z;simp at z
  .simpa using z
 .have q:=pK.mp h5 _ m1;rcases Jt.mp q with z|z
  .simp at z
  .have q2:=pK.mp z _ m2;simp at q2
theorem Dj{ix:List (Option Nat)}{g:TG}{Q:VK}{RR:Value->Addr->Result->Shared->Prop}(hc:X.calm=true)(hg:∀cl s₂ H₂ fp,PG (cO X N2 scope cl s₂ H₂ fp) tg g)(he:∀cl s₂ H₂ fp,PE (cO X N2 scope cl s₂ H₂ fp) elt te)(hk:scope.kind =.function)(hn:nS X.N X.env.scope.names scope.names N2 ix=true)(B0:∀y c,(y,c)∈cl->X.env.cells.lookup y=some c)(Aa:∀y,(y,NameKind.free)∈scope.names->∃c,(y,c)∈cl){it:Addr}{fp:List Addr}{tn:Nat->Heap->Prop}{J:It}(I:Inv X pins σ H s)(T:Turn X.prog X.w X.K tg J fp it tn)(st:tn 0 s.heap)(f:∀b∈fp,mC X pins H b)(h:∀acc,H acc=none->Di J g te acc (ix.map λo=>o.bind λj=>(σ[j]?).join) H Q)(hR:∀acc C H' s' m,Inv X pins σ H' s'->s'.heap.Ns C m->H' C=none->C≠X.env.locals->X.s₀.heap.objs.size<=C->(∀x c,X.env.cells.lookup x=some c->c≠C)->(∀p∈X.pn++pins,p.1≠C)->Q (.ref acc) H'->RR (.ref acc) C (.ok .next) s'):
  wpAny (model X.prog X.w) X.A (newList []) (λacc s₃=>wpAny (model X.prog X.w) X.A (newFunctionEnv scope X.env.globals cl [] X.env.qual none .none (some X.env)) (λcenv s₄=>
   codeAny (model X.prog X.w) X.A (.compStart (.ListComp elt [⟨tg,iter,[],0⟩] scope pos) 0 (.ref it) acc { cenv with scope:=relabel scope X.env }) (RR acc cenv.locals) s₄) E s₃) E s:=by
 obtain⟨k1,k2,k3,k4,k5⟩:=kR hn
 refine xA ?_
 have I3:Inv X pins σ (upd H s.heap.objs.size (.lst [])) { s with heap:=s.heap.push { cls:=.type "list",data:=.seq ([] :List Value).toArray } }:=
  I.laid (a:=s.heap.objs.size) (o:=.lst []) (t':=s.toks) (λ_ _ q=>cy _ q) (aO _) ⟨fH _,[],_,.nil,eU _ rfl⟩
 obtain⟨W,⟨m0,w0⟩,turn⟩:=h s.heap.objs.size I.fresh
 have fo:∀b∈fp,b<s.heap.objs.size:=λb hb=>by obtain⟨o,e,_⟩:=T.obj 0 _ st b hb;exact bR e
 have st3:tn 0 (s.heap.push { cls:=.type "list",data:=.seq ([] :List Value).toArray }):=T.keep _ _ _ st λb _ o e=>cy _ e
 have f3:∀b∈fp,mC X pins (upd H s.heap.objs.size (.lst [])) b:=λb hb=>⟨by rw[ay (d7 (fo b hb))];exact(f b hb).1,(f b hb).2⟩
 have Gw:∀b∈fp,b<(s.heap.push { cls:=.type "list",data:=.seq ([] :List Value).toArray }).objs.size:=λb hb=>by rw[kP];exact JA (fo b hb)
 generalize RT:({ s with heap:=s.heap.push { cls:=.type "list",data:=.seq ([] :List Value).toArray } }:Shared)=s3 at *
 have RU:s3.heap=s.heap.push { cls:=.type "list",data:=.seq ([] :List Value).toArray }:=by rw[<-RT]
 rw[<-RU]at st3 Gw
 generalize s.heap.objs.size=acc at *
 generalize eH3:upd H acc (.lst [])=H3 at *
 have IY:=yF (N2:=N2) (scope:=scope) (cl:=cl) (fp:=fp) (σ2:=ix.map λo=>o.bind λj=>(σ[j]?).join) I3 hk B0 Aa f3 Gw (by rw[aG];exact k1) (λi x v e1 e2=>by
  rw[cK]at e2;cases ei:ix[i]? with
  | none=>rw[ei]at e2;cases e2
  | some o=>
   rw[ei]at e2;cases o with
   | none=>cases e2
   | some j=>
    obtain⟨a1,a2,a3⟩:=k2 i x j e1 ei;refine⟨a2,a3,j,a1,?_⟩;have e3:(σ[j]?).join=some v:=fm e2;cases ej:σ[j]? with
    | none=>rw[ej]at e3;cases e3
    | some z=>rw[ej]at e3;exact eV some e3) k5
 have ne:wpAny (model X.prog X.w) X.A (newFunctionEnv scope X.env.globals cl [] X.env.qual none .none (some X.env)) (λcenv s₄=>
   cenv={ scope:=scope,locals:=s3.heap.objs.size,globals:=X.env.globals,cells:=cellsFrom (s3.heap.objs.size+1) scope.names cl,qual:=X.env.qual,func:=none,code:=X.env.code,frame:=X.env.frame,builtins:=X.env.builtins }/\
   s₄={ s3 with heap:=pushCells (s3.heap.push { cls:=.type "dict",data:=.dict #[] }) scope.names }) E s3:=by
  simp only[newFunctionEnv,PV,if_true]
  refine aA (wpAny_alloc ?_)
  refine aA (wpAny_layCells _ (λname kind cells=>by cases hkc:kind==NameKind.cell <;> simp[hkc]) _ _ _ _ ?_)
  rw[yv]
  refine aA (aU (aU ⟨?_,Z⟩))
  rw[show({ s3 with heap:=s3.heap.push { cls:=.type "dict",data:=.dict #[] } }:Shared).heap.objs.size=s3.heap.objs.size+1 from kP ..]
 refine br ne λcenv s4 ⟨e1,e2⟩=>?_
 subst e1 e2
 have Gx:tn 0 (pushCells (s3.heap.push { cls:=.type "dict",data:=.dict #[] }) scope.names):=T.keep _ _ _ st3 λb _ o e=>CQ _ _ b o (cy _ e)
 have x9:s3.heap.objs.size≠X.env.locals:=wD I3.lt
 have oK:∀{H':Hp},(∀b∈fp,H' b=none)->∀b∈fp,mC (cO X N2 scope cl s3 H3 fp) [] H' b:=λ{H'} hn b hb=>
  ⟨hn b hb,(IY.ok.Gf b hb).1,IY.ok.BS b hb,.inl hb,(IY.ok.Gf b hb).2,λp hp=>nomatch hp⟩
 have loop:codeAny (model X.prog X.w) X.A (.compLoop (.ListComp elt [⟨tg,iter,[],0⟩] scope pos) 0 (.ref it) (.ref acc) (cO X N2 scope cl s3 H3 fp).env) (RR (.ref acc) s3.heap.objs.size)
   { s3 with heap:=pushCells (s3.heap.push { cls:=.type "dict",data:=.dict #[] }) scope.names }:=by
  refine JW (λn s'=>∃i σ' H',Inv (cO X N2 scope cl s3 H3 fp) [] σ' H' s'/\tn i s'.heap/\(∀b∈fp,H' b=none)/\W i n σ' H') ?_ m0 ⟨0,_,H3,IY,Gx,λb hb=>(f3 b hb).1,w0⟩
  rintro n s5 ⟨i,σ5,H5,I5,zC,BC,w5⟩
  rcases turn i n σ5 H5 w5 with⟨stop,qn⟩|⟨go,S,N,RV,step⟩
  . refine br (T.done (cO X N2 scope cl s3 H3 fp) rfl rfl rfl hc i [] s5 σ5 H5 (λ_ _=>False) I5 (oK BC) zC stop) λr s6 ⟨hr,I6⟩=>?_
    subst hr
    obtain⟨m6,RW,_⟩:=id I6.loc
    have IX:Inv X pins σ H5 s6:=I3.Qg (ch:=fp) I6.os I6.base I6.hok I6.bare λb hb=>⟨(f3 b hb).2.2.2.1,(f3 b hb).2.1,(f3 b hb).2.2.2.2.1,(f3 b hb).2.2.2.2.2⟩
    refine hR acc s3.heap.objs.size H5 s6 m6 IX RW I6.free x9 I3.sz (λx c e z=>?_) (λp hp z=>?_) qn
    . obtain⟨v,q⟩:=I3.cell x c e
      exact absurd q.lt (by rw[z];exact i7 _)
    . exact absurd (bR (I3.pin p hp).1) (by rw[z];exact i7 _)
  . refine br (T.item (cO X N2 scope cl s3 H3 fp) rfl rfl rfl hc i [] s5 σ5 H5 (λ_ _=>False) I5 (oK BC) zC go) λr s6 ⟨u,hr,h6⟩=>?_
    subst hr
    refine br h6 λ_ s7 ⟨x,H7,I7,r7,y7,x_,JY⟩=>?_
    have RX:=I7.pinned (oK JY) (T.obj _ _ x_)
    refine br (hg cl s3 H3 fp _ s7 σ5 H7 x u _ RX r7 (step x H7 y7)) λ_ s8 ⟨σ8,H8,I8,Ot,q8⟩=>?_
    refine br (he cl s3 H3 fp _ s8 σ8 H8 _ I8 q8) λy s9 ⟨v,H9,I9,r9,q9⟩=>?_
    obtain⟨xs,hxs,RY,m',hm,w9⟩:=RV σ8 v H9 Ot q9
    refine br (ef _ s9 σ8 H9 (.ref acc) [v] (.ref acc) [y] (λz BD=>z =.cT/\BD=upd H9 acc (.lst (xs++[v]))) I9 rfl (.cons r9 .nil) ⟨acc,xs,v,Z,Z,hxs,RY,Z,Z⟩) λz s10 ⟨zv,BD,Ab,r10,ez,eH⟩=>?_
    subst eH
    refine⟨m',hm,i+1,σ8,_,Ab.oJ,T.keep _ _ _ x_ λb hb o e=>(Ab.pin (b,o) (gv _ (gv _ (iC hb e)))).1,λb hb=>?_,w9⟩
    obtain⟨o,e,d⟩:=T.obj _ _ x_ b hb
    exact(Ab.pin (b,o) (gv _ (gv _ (iC hb e)))).2.1
 exact codeAny_compStart_list loop (T.self _ 0 _ _ _ Gx loop)
end
variable {H':Hp}
theorem aR.c8{p:Addr}(e:aR H H')(h:H p=none)(o:HO):aR H (upd H' p o):=λb u q=>by rw[ay (aD q h)];exact e b u q
theorem RZ{p:Addr}{q:Rat}(h:H p=some (tO q)):Dt K H (.ref p) (.tuple [.int q.num,.int (q.den:Int)]):=.tup (dz.of h) (.cons (.int _) (.cons (.int _) .nil))
section
variable {X:Cx}
theorem UM(hc:X.calm=true):i9 X (.builtin "sum") (λxs H Q=>∃(a:Addr)(ns:List Int),xs=[.ref a]/\aI X.K H a (ns.map V.int)/\Q (.int ns.sum) H):=by
 intro pins s σ H xs us Q I r h;obtain⟨a,ns,rfl,hS,q⟩:=h;obtain⟨u,rfl,ru⟩:=vals1 r;cases ru;obtain⟨its,rv,p,hz⟩:=I.list hS;have hi:=intsAre_of rv;have hl:=p.isList;obtain⟨o,ho,_⟩:=id hl;have hne:a≠s.heap.objs.size:=d7 (bR ho);have W:=(Walks.list (prog:=X.prog) (w:=X.w) (A:=X.A.in1) (I.ok.hd hc) s.heap.objs.size a hne its.toArray).toS;have Dk:its.length=ns.length:=by rw[<-rv.length,aG]
 refine call_sum_walkAnyS (P_ hl ?_);refine⟨s.heap.objs.size,_,_,_,_,_,_,λi=>ns.getD i 0,Z,W,⟨⟨_,eU _ rfl,Z,Z⟩,hl.at λo e=>cy _ e⟩,λb hb=>?_,λi v hP=>?_,λs' t' hm=>?_⟩
 .rcases b8.mp hb with rfl|hb
  .exact bR (eU _ rfl)
  .obtain rfl:=eO.mp hb;exact bR (cy _ ho)
 .have R0:its[i]?=some v:=by simpa using hP
  have hil:i<ns.length:=by have:=(ee.mp R0).1;omega
  obtain⟨u,hu,ru⟩:=rv.get (i:=i) (x:=V.int ns[i]) (by rw[cK,bK hil];rfl);rw[R0]at hu;cases hu;obtain⟨t,e⟩:=ru;refine⟨t,?_⟩;rw[e];show Value.int ns[i] t=Value.int (ns.getD i 0) t;rw[kK,bK hil];rfl
 .obtain ⟨h',g',d',tk',os'⟩:=s';have e1:g'=s.gens:=hm.gens;have e2:d'=s.drawn:=hm.drawn;have e3:os'=s.os:=hm.os;subst e1 e2 e3;have hsz:its.toArray.size=ns.length:=by rw[iI,Dk]
  rw[hsz,preSum_getD,List.take_of_length_le (aO _)];exact⟨.int ns.sum,H,I.kept (h':=h') (t':=tk') λb o e=>hm.heap b o (λhb=>absurd (bR e) ((eO.mp hb)▸i7 _)) (cy _ e),⟨t',Z⟩,q⟩
theorem UN(hc:X.calm=true):i9 X (.builtin "all") (λxs H Q=>∃(a:Addr)(bs:List Bool),xs=[.ref a]/\aI X.K H a (bs.map V.bl)/\Q (.bl (bs.all id)) H):=by
 intro pins s σ H xs us Q I r h;obtain⟨a,bs,rfl,hS,q⟩:=h;obtain⟨u,rfl,ru⟩:=vals1 r;cases ru;obtain⟨its,rv,p,hz⟩:=I.list hS;have hl:=p.isList;obtain⟨o,ho,_⟩:=id hl;have hne:a≠s.heap.objs.size:=d7 (bR ho);have Dk:its.length=bs.length:=by rw[<-rv.length,aG]
 refine call_all_walk (P_ hl ?_);refine⟨s.heap.objs.size,_,_,_,_,_,λi=>bs.getD i false,Z,Walks.list (prog:=X.prog) (w:=X.w) (A:=X.A.in1) (I.ok.hd hc) s.heap.objs.size a hne its.toArray,⟨⟨_,eU _ rfl,Z,Z⟩,hl.at λo e=>cy _ e⟩,λi v s' Q' E' hP hQ=>?_,λh' tk hk=>?_⟩
 .have R0:its[i]?=some v:=by simpa using hP
  have hil:i<bs.length:=by have:=(ee.mp R0).1;omega
  obtain⟨u,hu,ru⟩:=rv.get (i:=i) (x:=V.bl bs[i]) (by rw[cK,bK hil];rfl);rw[R0]at hu;cases hu;have e:v=Value.bool bs[i] :=ru;subst e;refine EH ?_;have hQ2:Q' (bs.getD i false) s':=hQ;rw[kK,bK hil]at hQ2;exact hQ2
 .have hsz:its.toArray.size=bs.length:=by rw[iI,Dk]
  have e:(List.range its.toArray.size).all (λi=>bs.getD i false)=bs.all id:=by
   rw[hsz,AV,pK,pK];refine⟨λz x hx=>?_,λz i hi=>?_⟩
   .obtain ⟨i,hi,e⟩:=List.mem_iff_getElem.mp hx;have:=z i (yu.mpr hi);rw[kK,bK hi]at this;rw[<-e];exact this
   .have hi':=yu.mp hi;rw[kK,bK hi'];exact z _ (CN hi')
  rw[e];exact⟨.bl (bs.all id),H,I.kept (h':=h') (t':=tk) λb o e=>hk b o (λhb=>absurd (bR e) ((eO.mp hb)▸i7 _)) (cy _ e),Z,q⟩
end
section
variable {X:Cx}(K:Fg)
theorem bh(hK:X.K=K:=by rfl):zy X (Qs K):=hK▸RH
theorem dO(hK:X.K=K:=by rfl):zy X (Qq K):=hK▸Om
theorem XF(hu:X.A.units+64<cLine)(hK:X.K=K:=by rfl):jA X (compareOp .Eq) (ZJ K):=hK▸ZK hu
theorem XG(hu:X.A.units+64<cLine)(hK:X.K=K:=by rfl):jA X (compareOp .NotEq) (UK K):=hK▸ZL hu
theorem Ac(hc:X.calm=true)(hK:X.K=K:=by rfl):i9 X (.builtin "sum") (λxs H Q=>∃(a:Addr)(ns:List Int),xs=[.ref a]/\aI K H a (ns.map V.int)/\Q (.int ns.sum) H):=hK▸UM hc
theorem R1(hc:X.calm=true)(hK:X.K=K:=by rfl):i9 X (.builtin "all") (λxs H Q=>∃(a:Addr)(bs:List Bool),xs=[.ref a]/\aI K H a (bs.map V.bl)/\Q (.bl (bs.all id)) H):=hK▸UN hc
theorem dB(hK:X.K=K:=by rfl):i9 X (.builtin "len") (λxs H Q=>∃p ys,xs=[.ref p]/\(aI K H p ys\/dz K H p ys)/\Q (.int ys.length) H):=hK▸JP
theorem jD(hK:X.K=K:=by rfl):i9 X (.type "list") (λxs H Q=>∃p ys,xs=[.ref p]/\(aI K H p ys\/dz K H p ys)/\∀l,H l=none->Q (.ref l) (upd H l (.lst ys))):=hK▸JR
end
inductive lT(H:Hp):List V->List Rat->Prop
 | nil:lT H [] []
 | cons {r:Addr} {q:Rat} {vs:List V} {qs:List Rat}:H r=some (tO q)->lT H vs qs->lT H (.ref r::vs) (q::qs)
variable {vs:List V}
theorem lT.mono{qs:List Rat}(h:lT H vs qs)(g:aR H H'):lT H' vs qs:=by
 induction h with
 | nil=>exact .nil
 | cons e _ ih=>exact .cons (g _ _ e) ih
variable {xs ys:List V}
theorem lT.XH{qs:List Rat}(h:lT H vs qs)(ha:H a=some (.lst xs)):lT (upd H a (.lst ys)) vs qs:=by
 induction h with
 | nil=>exact .nil
 | cons e _ ih=>exact .cons (by rw[ay (i8 e ha (by intro z;cases z))];exact e) ih
theorem lT.snoc{qs:List Rat}{r:Addr}{q:Rat}(h:lT H vs qs)(e:H r=some (tO q)):lT H (vs++[.ref r]) (qs++[q]):=by
 induction h with
 | nil=>exact .cons e .nil
 | cons e2 _ ih=>exact .cons e2 ih
def ZQ(q:Rat):PyData:=.tuple [.int q.num,.int (q.den:Int)]
theorem lT.dt{qs:List Rat}(h:lT H vs qs):uw K H vs (qs.map ZQ):=by
 induction h with
 | nil=>exact .nil
 | cons e _ ih=>exact .cons (RZ e) ih
theorem MO{l1 l2:Nat}(h1:l1<n)(h2:l2<n):ZipApart (n+4) (n+2) (n+3) n (n+1) l1 l2:=by
 have nn:∀i j:Nat,i≠j->n+i≠n+j:=λi j h e=>h (Nat.add_left_cancel e);have ne:∀(c k:Nat),c<n->c≠n+k:=λc k h=>by omega
 exact⟨nn 2 4 (by decide),nn 3 4 (by decide),nn 0 4 (by decide),nn 1 4 (by decide),nn 2 3 (by decide),nn 2 0 (by decide),nn 2 1 (by decide),nn 3 0 (by decide),nn 3 1 (by decide),nn 0 1 (by decide),ne _ 4 h1,ne _ 3 h1,ne _ 0 h1,ne _ 1 h1,ne _ 4 h2,ne _ 3 h2,ne _ 0 h2,ne _ 1 h2⟩
section
variable {X:Cx}{elts:List Expr}{kk:Nat}{tpos:Pos}
end
inductive acS(K:Fg)(vs:List V)(H:Hp)(Q:VK)(E:XK):Prop
 |mk(a:Addr)(ns:List Int)(k j:Int)(_:vs=[.ref a,.int k,.int j])(_:aI K H a (ns.map V.int))(_:ns.length<=63)(_:0<=k)(_:0<=j)(_:j<2 ^ 61)(_:∀(m:Int) (H':Hp),1<=m->m<=1000000000->aR H H'->Q (.int m) H')
def Dl(K:Fg):Sp:=bx (acS K)
theorem JZ{Q:VK}{E:XK}{k j:Int}(hS:aI K H a (ns.map V.int))(h63:ns.length<=63)(h1:0<=k)(h2:0<=j)(h3:j<2 ^ 61)(h:∀(m:Int) (H':Hp),1<=m->m<=1000000000->aR H H'->Q (.int m) H'):Dl K [.ref a,.int k,.int j] H Q E:=⟨a,ns,k,j,Z,hS,h63,h1,h2,h3,h⟩
section
variable {X:Cx}
inductive acT(Q:VK)(vs:List V)(H1:Hp):Prop
 |mk(j:Int)(_:vs=[.int j])(_:∀p,H1 p=none->Q (.ref p) (upd H1 p (.xV 0 j)))
def agn(ta:TA):TE:=λσ H Q=>ta σ H (acT Q)
def upTo(n:Nat):List Int:=(List.range n).map λi=>((i:Nat):Int)
theorem HD(hc:X.calm=true):i9 X (.type "list") (λxs H Q=>∃(r:Addr)(n:Nat),xs=[.ref r]/\H r=some (.xV 0 (n:Int))/\n<=1000/\∀l,H l=none->Q (.ref l) (upd H l (.lst ((upTo n).map V.int)))):=by
 intro pins s σ H xs us Q I r h;obtain⟨a,n,rfl,hr,hn,q⟩:=h;obtain⟨u,rfl,ru⟩:=vals1 r;cases ru;obtain⟨t,t2,t3,e⟩:=(show fJ X.prog X.w H s.heap a (.xV 0 (n:Int))from I.hok a _ hr)
 refine call_list_range (n:=n) (I.ok.hd hc) e (small_one (by decide) (by decide) (by omega) (by omega)) (by rw[rangeSize_one];split <;> omega) (by omega) λh' tk acc' c' hk hS hI=>?_;obtain⟨hsz,hit⟩:=hI;have hv:Vals ((upTo n).map V.int) acc'.toList:=by
  have gen:∀(m:Nat)(us:List Value)(k:Nat),us.length=m->(∀(j:Nat)(v:Value),us[j]?=some v->∃t,v =.int ((0:Int)+((k+j:Nat):Int)*1) t)->Vals (((List.range' k m).map λi=>((i:Nat):Int)).map V.int) us:=by
   intro m
   induction m with
   | zero=>intro us k hl _;rw[List.length_eq_zero_iff.mp hl];exact .nil
   | succ m ih=>
    intro us k hl hu;cases us with
    | nil=>cases hl
    | cons v r=>
     obtain⟨t,e⟩:=hu 0 v rfl;refine .cons ⟨t,?_⟩ (ih r (k+1) (by simpa using hl) λj v' hj=>?_)
     .rw [e];show Value.int _ t=Value.int ((k:Nat):Int) t;congr 1;omega
     .obtain ⟨t,e⟩:=hu (j+1) v' (by simpa using hj);exact⟨t,by rw[e];congr 1;omega⟩
  have:=gen n acc'.toList 0 (by simpa using hsz) λj v hj=>by obtain⟨t,e⟩:=hit j v (by simpa using hj);exact⟨t,by rw[e];congr 1;omega⟩
  unfold upTo;rw[List.range_eq_range'];exact this
 have hlen:((upTo n).map V.int).length<=sizeLine:=by unfold upTo;simp;exact small (by omega)
 exact⟨.ref s.heap.objs.size,_,I.laid (a:=s.heap.objs.size) (o:=.lst ((upTo n).map V.int)) (h':=h') (t':=tk) hk (aO _) ⟨hlen,acc'.toList,c',hv,by simpa using hS⟩,Z,q _ I.fresh⟩
inductive XI(K:Fg)(Q:VK)(x:V)(y:V)(H2:Hp):Prop
 |mk(_:y =.int (-1))(a xs:_)(_:x =.ref a)(_:aI K H2 a xs)(_:∀p,H2 p=none->Q (.ref p) (upd H2 p (.lst xs.reverse)))
def acU(K:Fg)(ts:TE)(σ:St)(Q:VK):V->Hp->Prop:=λx H1=>ts σ H1 (XI K Q x)
def ago(K:Fg)(te ts:TE):TE:=λσ H Q=>te σ H (acU K ts σ Q)
end
theorem sum_set:∀(as:List Int)(j:Nat)(x:Int),j<as.length->(as.set j x).sum=as.sum-as.getD j 0+x
 | [],j,_,h=>absurd h (Nat.not_lt_zero _)
 | a::r,0,x,_=>by show(x::r).sum=(a::r).sum-a+x;rw[dg,dg];omega
 | a::r,j+1,x,h=>by show(a::r.set j x).sum=(a::r).sum-r.getD j 0+x;rw[dg,dg,sum_set r j x (by simpa using h)];omega
theorem UO(as:List Int)(j k:Nat)(x:Int)(h:j<as.length):(as.set j x).getD k 0=if k=j then x else as.getD k 0:=by
 rw[kK,List.getElem?_set];by_cases e:j=k
 .subst e;rw[aC rfl,aC h,aC rfl];rfl
 .rw [aB e,aB (bY e),<-kK]
theorem uK{k:Nat}(h:k<n):C7 n (k:Int)=some k:=by unfold C7;rw[aC (by omega),aC (by omega)];rfl
abbrev tx(cs:List Nat):Str:=⟨cs.toArray⟩
theorem J0(x:Str):tx x.cps.toList=x:=by cases x;rfl
theorem Ad(cs:List Nat):(tx cs).length=cs.length:=by show cs.toArray.size=_;rw[iI]
theorem ZR(a b:List Nat):(tx a++tx b:Str)=tx (a++b):=by show(⟨a.toArray++b.toArray⟩:Str)=_;simp[tx]
def We(cs:List Nat):It:=⟨λi _=>i<cs.length,λi H v H'=>H'=H/\∃c,cs[i]?=some c/\v =.str (tx [c]),λi _=>cs.length<=i⟩
theorem Qy{P:Program}{w:World}{K:Fg}{tg:Expr}(x:Str)(t:Tok)(it:Addr):Turn P w K tg (We x.cps.toList) [it] it (λi h=>h.IsStrIter it "str_ascii_iterator" x t i) where
 mem:=by simp
 obj:=λi h st b hb=>by
  have e:b=it:=by simpa using hb
  subst e;obtain⟨o,e,c,d⟩:=st;exact⟨o,e,λv z=>by rw[d]at z;cases z⟩
 keep:=λi h h' st k=>let⟨o,ho,r⟩:=st;⟨o,k it (by simp) o ho,r⟩
 item:=by
  intro X hP hw hK hc i pins s σ H E I hf st hg;subst hP hw hK;have hi:i<x.cps.size:=by have hg':i<x.cps.toList.length:=hg;simpa using hg'
  obtain⟨f0,f1,f2,f3,f4,f5⟩:=hf it (by simp);refine wpAny_pyNext_ascii_item st (c:=x.cps[i]) (by simp[hi]) λh' st' sb=>?_;have I1:Inv X pins σ H { s with heap:=h',toks:=s.toks+1 }:=I.turned (t':=s.toks+1) (λb o hb e=>sb.extBut b o hb e) f0 f1 f3 f4 f5;obtain⟨o,e,c,d⟩:=id st';exact⟨_,Z,A3 (s:={ s with heap:=h',toks:=s.toks+1 }) e c d (by decide) ⟨.str (tx [x.cps[i]]),H,I1,⟨_,Z⟩,⟨Z,x.cps[i],by simp[hi],Z⟩,st',λb hb=>(hf b hb).1⟩⟩
 done:=by
  intro X hP hw hK hc i pins s σ H E I hf st hg;subst hP hw hK;have hi:x.cps.size<=i:=by have hg':x.cps.toList.length<=i:=hg;simpa using hg'
  obtain⟨f0,f1,f2,f3,f4,f5⟩:=hf it (by simp);exact wpAny_pyNext_ascii_end (I.ok.hd hc) st (by simp;omega) λh' eb=>⟨Z,I.turned (t':=s.toks) (λb o hb e=>eb b o hb e) f0 f1 f3 f4 f5⟩
 self:=λ_ _ _ _ _ st h=>wpAny_pyIter_striter_ascii st h
theorem R6{P:Program}{w:World}{K:Fg}{tg:Expr}(x:Str)(t:Tok)(it:Addr):Turn P w K tg (We x.cps.toList) [it] it (λi h=>h.IsStrIter it "str_iterator" x t i) where
 mem:=by simp
 obj:=λi h st b hb=>by
  have e:b=it:=by simpa using hb
  subst e;obtain⟨o,e,c,d⟩:=st;exact⟨o,e,λv z=>by rw[d]at z;cases z⟩
 keep:=λi h h' st k=>let⟨o,ho,r⟩:=st;⟨o,k it (by simp) o ho,r⟩
 item:=by
  intro X hP hw hK hc i pins s σ H E I hf st hg;subst hP hw hK;have hi:i<x.cps.size:=by have hg':i<x.cps.toList.length:=hg;simpa using hg'
  obtain⟨f0,f1,f2,f3,f4,f5⟩:=hf it (by simp);refine wpAny_pyNext_wide_item st (c:=x.cps[i]) (by simp[hi]) λh' st' sb=>?_;have I1:Inv X pins σ H { s with heap:=h',toks:=s.toks+1 }:=I.turned (t':=s.toks+1) (λb o hb e=>sb.extBut b o hb e) f0 f1 f3 f4 f5;obtain⟨o,e,c,d⟩:=id st';exact⟨_,Z,A3 (s:={ s with heap:=h',toks:=s.toks+1 }) e c d (by decide) ⟨.str (tx [x.cps[i]]),H,I1,⟨_,Z⟩,⟨Z,x.cps[i],by simp[hi],Z⟩,st',λb hb=>(hf b hb).1⟩⟩
 done:=by
  intro X hP hw hK hc i pins s σ H E I hf st hg;subst hP hw hK;have hi:x.cps.size<=i:=by have hg':x.cps.toList.length<=i:=hg;simpa using hg'
  obtain⟨f0,f1,f2,f3,f4,f5⟩:=hf it (by simp);exact wpAny_pyNext_wide_end (I.ok.hd hc) st (by simp;omega) λh' eb=>⟨Z,I.turned (t':=s.toks) (λb o hb e=>eb b o hb e) f0 f1 f3 f4 f5⟩
 self:=λ_ _ _ _ _ st h=>wpAny_pyIter_striter_wide st h
variable {acc:Addr}
section
variable {X:Cx}{tg:Expr}
inductive acV(R:It->Hp->Prop)(x:V)(H1:Hp):Prop
 |mk(cs:List Nat)(_:x =.str (tx cs))(_:R (We cs:_) H1)
def ZS(te:TE):TI:=λσ H R=>te σ H (acV R)
theorem ZT{l:Expr}{tl:TE}(hl:PE X l tl):PI X tg l (ZS tl):=by
 intro pins s σ H R I h;refine br (hl pins s σ H _ I h) λv s1 ⟨x,H1,I1,r1,q1⟩=>?_;obtain⟨cs,e,q⟩:=q1;subst e;obtain⟨t,rfl⟩:=r1;have fp:∀b∈[s1.heap.objs.size],mC X pins H1 b:=λb hb=>by
  have e:b=s1.heap.objs.size:=by simpa using hb
  subst e;exact I1.BW (aO _) (I1.hok.fresh (aO _))
 have tw:=@R6 X.prog X.w X.K tg (tx cs) t s1.heap.objs.size;have ta:=@Qy X.prog X.w X.K tg (tx cs) t s1.heap.objs.size;cases ha:(tx cs).cps.all (·<128)
 .exact wpAny_pyIter_wide ha ⟨s1.heap.objs.size,[s1.heap.objs.size],_,_,H1,Z,I1.kept (t':=s1.toks) λb o e=>cy _ e,tw,⟨_,eU _ rfl,Z,Z⟩,fp,q⟩
 .exact wpAny_pyIter_ascii ha ⟨s1.heap.objs.size,[s1.heap.objs.size],_,_,H1,Z,I1.kept (t':=s1.toks) λb o e=>cy _ e,ta,⟨_,eU _ rfl,Z,Z⟩,fp,q⟩
theorem UP{cs:List Nat}{k:Nat}{Q:VK}(Pv:Nat->List V->Hp->Prop)(hn:cs.length<=100000)(h0:Pv 0 [] (upd H acc (.lst [])))(hs:∀(i:Nat) (c:Nat) (out:List V) (H1:Hp),cs[i]?=some c->out.length=i->H1 acc=some (.lst out)->Pv i out H1->te (σ2.set k (some (.str (tx [c])))) H1 (yG Pv i acc out))(hd:∀(out:List V) (H1:Hp),out.length=cs.length->H1 acc=some (.lst out)->Pv cs.length out H1->Q (.ref acc) H1):
  Di (We cs) (uG k) te acc σ2 H Q:=by
 refine⟨λi m σ' H'=>m=cs.length-i/\i<=cs.length/\(∀v,σ'.set k (some v)=σ2.set k (some v))/\∃out,out.length=i/\H' acc=some (.lst out)/\Pv i out H',⟨cs.length,by simp,fH _,λ_=>rfl,[],Z,ai,h0⟩,?_⟩
 rintro i m σ' H' ⟨rfl,hi,hσ,out,ho,ha,p⟩
 by_cases hlt:i<cs.length
 . refine .inr ⟨hlt,λσ3=>∀v,σ3.set k (some v)=σ2.set k (some v),(yG Pv i acc out),λσ3 v H4 hS ⟨a,b⟩=>?_,λx H1 y=>?_⟩
   . refine⟨out,a,?_,cs.length-(i+1),by omega,Z,hlt,hS,out++[v],by rw[c7,ho];rfl,ai,b⟩
     have:sizeLine=16777216:=j8
     omega
   . obtain⟨e,c,hc,ex⟩:=y
     subst e ex
     refine⟨λv=>by rw[wF];exact hσ v,?_⟩
     have q2:=hs i c out _ hc ho ha p
     rw[<-hσ]at q2
     exact q2
 . have e:i=cs.length:=by omega
   subst e
   exact .inl ⟨aO _,hd out H' ho ha p⟩
end
def Dm(signs:Str)(c:Nat):Bool:=!(Builtin.Str.occurrences signs (tx [c]) 0 signs.length 1).isEmpty
def lX(c:Int)(n:Nat):List Nat:=(List.range n).map λi=>97+((c / 26 ^ i) % 26).toNat
theorem yH(c:Int)(n:Nat):(lX c n).length=n:=by unfold lX;rw[aG,List.length_range]
theorem UQ(c:Int)(n:Nat):lX c (n+1)=lX c n++[97+((c / 26 ^ n) % 26).toNat] :=by unfold lX;rw[List.range_succ,bX];rfl
theorem R7{k:Int}(h0:0<=k)(h1:k<26):sO (("abcdefghijklmnopqrstuvwxyz":Str).cps.toList) k=some (97+k.toNat):=by
 have h:∀n:Nat,n<26->("abcdefghijklmnopqrstuvwxyz":Str).cps.toList[n]?=some (97+n):=by decide +kernel
 have e:k=((k.toNat:Nat):Int):=by omega
 have:=aM (h k.toNat (by omega));rw[<-e]at this;exact this
structure EJ(vs:List V)(H:Hp)(Q:VK)(E:XK):Prop where
 ex:∃(c:Int)(n:Nat),vs=[.int c,.int (n:Int)]/\0<=c/\n<=1000/\Q (.str (tx (lX c n))) H
theorem J1{Q:VK}{E:XK}{c ni:Int}(e:ni=(n:Int))(hc:0<=c)(hn:n<=1000)(q:Q (.str (tx (lX c n))) H):EJ [.int c,.int ni] H Q E:=by subst e;exact⟨c,n,Z,hc,hn,q⟩
inductive XJ(vs:List V)(H:Hp)(Q:VK)(E:XK):Prop
 |mk(cs:List Nat)(signs:Str)(_:vs=[.str (tx cs),.str signs])(_:cs.length<=100000)(_:∀H',aR H H'->Q (.bl (cs.all (Dm signs))) H')
def B4:Sp:=bx (XJ)
theorem Qz{H:Hp}{Q:VK}{E:XK}{cs:List Nat}{signs:Str}(hl:cs.length<=100000)(q:∀H',aR H H'->Q (.bl (cs.all (Dm signs))) H'):B4 [.str (tx cs),.str signs] H Q E:=⟨cs,signs,Z,hl,q⟩
def isName(cs:List Nat):Bool:=decide (1<=(cs.length:Int)) && decide ((cs.length:Int)<=8) && cs.all (Dm "abcdefghijklmnopqrstuvwxyz")
inductive XM(vs:List V)(H:Hp)(Q:VK)(E:XK):Prop
 |mk(cs:List Nat)(_:vs=[.str (tx cs)])(_:cs.length<=100000)(_:∀H',aR H H'->Q (.bl (isName cs)) H')
def yI:Sp:=bx (XM)
theorem Dp{Q:VK}{E:XK}{cs:List Nat}(hl:cs.length<=100000)(q:∀H',aR H H'->Q (.bl (isName cs)) H'):yI [.str (tx cs)] H Q E:=⟨cs,Z,hl,q⟩
theorem Dq{p q:Prop}(h:if true=true then p else q):p:=by rwa [aC rfl]at h
theorem Dr{p q:Prop}(h:if false=true then p else q):q:=by rwa [aB iH]at h
variable {cond:Expr}
section
variable {prog:Program}{w:World}{A:Around}{R:Result->Shared->Prop}{s:Shared}
theorem HE{it acc:Value}(J:Nat->Shared->Prop)(turn:∀n s,J n s->wpAny (model prog w) A (pyNext it) (λr s₁=>match r with
    | none=>R (.ok .next) s₁
    | some v=>wpAny (model prog w) A (letOwnedTupleGo target it v) (λ_ s₂=>wpAny (model prog w) A (assign target env v) (λ_ s₃=>wpAny (model prog w) A (isTrue cond env (eval cond env)) (λok ZU=>if ok=true then
       wpAny (model prog w) A (eval elt env) (λx s₄=>wpAny (model prog w) A (call (.builtin "list.append") [acc,x]) (λ_ s₅=>∃m,m<n/\J m s₅) (λ_ _=>False) s₄) (λ_ _=>False) ZU
       else ∃m,m<n/\J m ZU) (λ_ _=>False) s₃) (λ_ _=>False) s₂) (λ_ _=>False) s₁) (λ_ _=>False) s)(n:Nat)(h:J n s):codeAny (model prog w) A (.compLoop (.ListComp elt [⟨target,iter,[cond],0⟩] scope pos) 0 it acc env) R s:=by
 refine codeAny_loop rfl J (λn s hI=>?_) n h
 show wpAny _ A ((compTurn (.ListComp elt [⟨target,iter,[cond],0⟩] scope pos) 0 it acc env).onRaise (λx=>do noteFrame x env;theTreesLotGoes x)) _ _ s
 refine wpAny_noted ?_
 rw[compTurn_list]
 refine aA (yw (aA (gG (turn n s hI) (λr s₁ h₁=>?_) λ_ _ h'=>h'.elim)))
 cases r with
 | none=>exact aU h₁
 | some v=>
   refine aA (gG h₁ (λ_ s₂ h₂=>aA (gG h₂ (λ_ s₃ h₃=>?_) λ_ _ h'=>h'.elim)) λ_ _ h'=>h'.elim)
   refine aA (wpAny_tests_one (gG h₃ (λok ZU h₃'=>?_) λ_ _ h'=>h'.elim))
   cases ok with
   | false=>exact aU ⟨Z,Dr h₃'⟩
   | true=>exact aA (aA (gG (Dq h₃') (λx s₄ h₄=>aA (gG h₄ (λ_ s₅ h₅=>aU (aU ⟨Z,h₅⟩)) λ_ _ h'=>h'.elim)) λ_ _ h'=>h'.elim))
end
variable {tc:TT}{wi:TI}
section
variable {X:Cx}
def Ds(J:It)(g:TG)(tc:TT)(te:TE)(acc:Addr)(σ₀:St)(H:Hp)(Q:VK):Prop:=∃W:Nat->Nat->St->Hp->Prop,(∃m,W 0 m σ₀ (upd H acc (.lst [])))/\∀i m σ2 H2,W i m σ2 H2->(J.stop i H2/\Q (.ref acc) H2)\/(J.go i H2/\∃(S:St->Prop)(N:V->Hp->Prop)(N0:Hp->Prop),(∀σ3 v H4,S σ3->N v H4->∃xs,H4 acc=some (.lst xs)/\xs.length<sizeLine/\∃m',m'<m/\W (i+1) m' σ3 (upd H4 acc (.lst (xs++[v]))))/\(∀σ3 H4,S σ3->N0 H4->∃m',m'<m/\W (i+1) m' σ3 H4)/\∀x H',J.zX i H2 x H'->g x σ2 H' λσ3 H3=>S σ3/\tc σ3 H3 λb H4=>if b=true then te σ3 H4 N else N0 H4)
def XO(ix:List (Option Nat))(g:TG)(tc:TT)(te:TE)(σ:St)(Q:VK):It->Hp->Prop:=λJ H1=>∀acc,H1 acc=none->Ds J g tc te acc (pick ix σ) H1 Q
def R8(wi:TI)(ix:List (Option Nat))(g:TG)(tc:TT)(te:TE):TE:=λσ H Q=>wi σ H (XO ix g tc te σ Q)
theorem MP{ix:List (Option Nat)}{g:TG}{Q:VK}{RR:Value->Addr->Result->Shared->Prop}(hc:X.calm=true)(hg:∀cl s₂ H₂ fp,PG (cO X N2 scope cl s₂ H₂ fp) tg g)(he:∀cl s₂ H₂ fp,PE (cO X N2 scope cl s₂ H₂ fp) elt te)(ht:∀cl s₂ H₂ fp,PT (cO X N2 scope cl s₂ H₂ fp) cond tc)(hk:scope.kind =.function)(hn:nS X.N X.env.scope.names scope.names N2 ix=true)(B0:∀y c,(y,c)∈cl->X.env.cells.lookup y=some c)(Aa:∀y,(y,NameKind.free)∈scope.names->∃c,(y,c)∈cl){it:Addr}{fp:List Addr}{tn:Nat->Heap->Prop}{J:It}(I:Inv X pins σ H s)(T:Turn X.prog X.w X.K tg J fp it tn)(st:tn 0 s.heap)(f:∀b∈fp,mC X pins H b)(h:∀acc,H acc=none->Ds J g tc te acc (ix.map λo=>o.bind λj=>(σ[j]?).join) H Q)(hR:∀acc C H' s' m,Inv X pins σ H' s'->s'.heap.Ns C m->H' C=none->C≠X.env.locals->X.s₀.heap.objs.size<=C->(∀x c,X.env.cells.lookup x=some c->c≠C)->(∀p∈X.pn++pins,p.1≠C)->Q (.ref acc) H'->RR (.ref acc) C (.ok .next) s'):
  wpAny (model X.prog X.w) X.A (newList []) (λacc s₃=>wpAny (model X.prog X.w) X.A (newFunctionEnv scope X.env.globals cl [] X.env.qual none .none (some X.env)) (λcenv s₄=>
   codeAny (model X.prog X.w) X.A (.compStart (.ListComp elt [⟨tg,iter,[cond],0⟩] scope pos) 0 (.ref it) acc { cenv with scope:=relabel scope X.env }) (RR acc cenv.locals) s₄) E s₃) E s:=by
 obtain⟨k1,k2,k3,k4,k5⟩:=kR hn
 refine xA ?_
 have I3:Inv X pins σ (upd H s.heap.objs.size (.lst [])) { s with heap:=s.heap.push { cls:=.type "list",data:=.seq ([] :List Value).toArray } }:=
  I.laid (a:=s.heap.objs.size) (o:=.lst []) (t':=s.toks) (λ_ _ q=>cy _ q) (aO _) ⟨fH _,[],_,.nil,eU _ rfl⟩
 obtain⟨W,⟨m0,w0⟩,turn⟩:=h s.heap.objs.size I.fresh
 have fo:∀b∈fp,b<s.heap.objs.size:=λb hb=>by obtain⟨o,e,_⟩:=T.obj 0 _ st b hb;exact bR e
 have st3:tn 0 (s.heap.push { cls:=.type "list",data:=.seq ([] :List Value).toArray }):=T.keep _ _ _ st λb _ o e=>cy _ e
 have f3:∀b∈fp,mC X pins (upd H s.heap.objs.size (.lst [])) b:=λb hb=>⟨by rw[ay (d7 (fo b hb))];exact(f b hb).1,(f b hb).2⟩
 have Gw:∀b∈fp,b<(s.heap.push { cls:=.type "list",data:=.seq ([] :List Value).toArray }).objs.size:=λb hb=>by rw[kP];exact JA (fo b hb)
 generalize RT:({ s with heap:=s.heap.push { cls:=.type "list",data:=.seq ([] :List Value).toArray } }:Shared)=s3 at *
 have RU:s3.heap=s.heap.push { cls:=.type "list",data:=.seq ([] :List Value).toArray }:=by rw[<-RT]
 rw[<-RU]at st3 Gw
 generalize s.heap.objs.size=acc at *
 generalize eH3:upd H acc (.lst [])=H3 at *
 have IY:=yF (N2:=N2) (scope:=scope) (cl:=cl) (fp:=fp) (σ2:=ix.map λo=>o.bind λj=>(σ[j]?).join) I3 hk B0 Aa f3 Gw (by rw[aG];exact k1) (λi x v e1 e2=>by
  rw[cK]at e2;cases ei:ix[i]? with
  | none=>rw[ei]at e2;cases e2
  | some o=>
   rw[ei]at e2;cases o with
   | none=>cases e2
   | some j=>
    obtain⟨a1,a2,a3⟩:=k2 i x j e1 ei;refine⟨a2,a3,j,a1,?_⟩;have e3:(σ[j]?).join=some v:=fm e2;cases ej:σ[j]? with
    | none=>rw[ej]at e3;cases e3
    | some z=>rw[ej]at e3;exact eV some e3) k5
 have ne:wpAny (model X.prog X.w) X.A (newFunctionEnv scope X.env.globals cl [] X.env.qual none .none (some X.env)) (λcenv s₄=>
   cenv={ scope:=scope,locals:=s3.heap.objs.size,globals:=X.env.globals,cells:=cellsFrom (s3.heap.objs.size+1) scope.names cl,qual:=X.env.qual,func:=none,code:=X.env.code,frame:=X.env.frame,builtins:=X.env.builtins }/\
   s₄={ s3 with heap:=pushCells (s3.heap.push { cls:=.type "dict",data:=.dict #[] }) scope.names }) E s3:=by
  simp only[newFunctionEnv,PV,if_true]
  refine aA (wpAny_alloc ?_)
  refine aA (wpAny_layCells _ (λname kind cells=>by cases hkc:kind==NameKind.cell <;> simp[hkc]) _ _ _ _ ?_)
  rw[yv]
  refine aA (aU (aU ⟨?_,Z⟩))
  rw[show({ s3 with heap:=s3.heap.push { cls:=.type "dict",data:=.dict #[] } }:Shared).heap.objs.size=s3.heap.objs.size+1 from kP ..]
 refine br ne λcenv s4 ⟨e1,e2⟩=>?_
 subst e1 e2
 have Gx:tn 0 (pushCells (s3.heap.push { cls:=.type "dict",data:=.dict #[] }) scope.names):=T.keep _ _ _ st3 λb _ o e=>CQ _ _ b o (cy _ e)
 have x9:s3.heap.objs.size≠X.env.locals:=wD I3.lt
 have oK:∀{H':Hp},(∀b∈fp,H' b=none)->∀b∈fp,mC (cO X N2 scope cl s3 H3 fp) [] H' b:=λ{H'} hn b hb=>
  ⟨hn b hb,(IY.ok.Gf b hb).1,IY.ok.BS b hb,.inl hb,(IY.ok.Gf b hb).2,λp hp=>nomatch hp⟩
 have loop:codeAny (model X.prog X.w) X.A (.compLoop (.ListComp elt [⟨tg,iter,[cond],0⟩] scope pos) 0 (.ref it) (.ref acc) (cO X N2 scope cl s3 H3 fp).env) (RR (.ref acc) s3.heap.objs.size)
   { s3 with heap:=pushCells (s3.heap.push { cls:=.type "dict",data:=.dict #[] }) scope.names }:=by
  refine HE (λn s'=>∃i σ' H',Inv (cO X N2 scope cl s3 H3 fp) [] σ' H' s'/\tn i s'.heap/\(∀b∈fp,H' b=none)/\W i n σ' H') ?_ m0 ⟨0,_,H3,IY,Gx,λb hb=>(f3 b hb).1,w0⟩
  rintro n s5 ⟨i,σ5,H5,I5,zC,BC,w5⟩
  rcases turn i n σ5 H5 w5 with⟨stop,qn⟩|⟨go,S,N,N0,RV,hS0,step⟩
  . refine br (T.done (cO X N2 scope cl s3 H3 fp) rfl rfl rfl hc i [] s5 σ5 H5 (λ_ _=>False) I5 (oK BC) zC stop) λr s6 ⟨hr,I6⟩=>?_
    subst hr
    obtain⟨m6,RW,_⟩:=id I6.loc
    have IX:Inv X pins σ H5 s6:=I3.Qg (ch:=fp) I6.os I6.base I6.hok I6.bare λb hb=>⟨(f3 b hb).2.2.2.1,(f3 b hb).2.1,(f3 b hb).2.2.2.2.1,(f3 b hb).2.2.2.2.2⟩
    refine hR acc s3.heap.objs.size H5 s6 m6 IX RW I6.free x9 I3.sz (λx c e z=>?_) (λp hp z=>?_) qn
    . obtain⟨v,q⟩:=I3.cell x c e
      exact absurd q.lt (by rw[z];exact i7 _)
    . exact absurd (bR (I3.pin p hp).1) (by rw[z];exact i7 _)
  . refine br (T.item (cO X N2 scope cl s3 H3 fp) rfl rfl rfl hc i [] s5 σ5 H5 (λ_ _=>False) I5 (oK BC) zC go) λr s6 ⟨u,hr,h6⟩=>?_
    subst hr
    refine br h6 λ_ s7 ⟨x,H7,I7,r7,y7,x_,JY⟩=>?_
    have RX:=I7.pinned (oK JY) (T.obj _ _ x_)
    refine br (hg cl s3 H3 fp _ s7 σ5 H7 x u _ RX r7 (step x H7 y7)) λ_ s8 ⟨σ8,H8,I8,Ot,q8⟩=>?_
    refine br (ht cl s3 H3 fp _ s8 σ8 H8 _ I8 q8) λok s9' ⟨H9',Wg,q9'⟩=>?_
    cases ok with
    | false=>
      obtain⟨m',hm,w9⟩:=hS0 σ8 H9' Ot (Dr q9')
      refine ite_ff ⟨m',hm,i+1,σ8,_,Wg.oJ,T.keep _ _ _ x_ λb hb o e=>(Wg.pin (b,o) (gv _ (gv _ (iC hb e)))).1,λb hb=>?_,w9⟩
      obtain⟨o,e,d⟩:=T.obj _ _ x_ b hb
      exact(Wg.pin (b,o) (gv _ (gv _ (iC hb e)))).2.1
    | true=>
      refine ite_tt ?_
      refine br (he cl s3 H3 fp _ s9' σ8 H9' _ Wg (Dq q9')) λy s9 ⟨v,H9,I9,r9,q9⟩=>?_
      obtain⟨xs,hxs,RY,m',hm,w9⟩:=RV σ8 v H9 Ot q9
      refine br (ef _ s9 σ8 H9 (.ref acc) [v] (.ref acc) [y] (λz BD=>z =.cT/\BD=upd H9 acc (.lst (xs++[v]))) I9 rfl (.cons r9 .nil) ⟨acc,xs,v,Z,Z,hxs,RY,Z,Z⟩) λz s10 ⟨zv,BD,Ab,r10,ez,eH⟩=>?_
      subst eH
      refine⟨m',hm,i+1,σ8,_,Ab.oJ,T.keep _ _ _ x_ λb hb o e=>(Ab.pin (b,o) (gv _ (gv _ (iC hb e)))).1,λb hb=>?_,w9⟩
      obtain⟨o,e,d⟩:=T.obj _ _ x_ b hb
      exact(Ab.pin (b,o) (gv _ (gv _ (iC hb e)))).2.1
 exact codeAny_compStart_list loop (T.self _ 0 _ _ _ Gx loop)
theorem UR(N2:List Str)(ix:List (Option Nat)){g:TG}(hc:X.calm=true)(hi:PI X tg iter wi)(hg:∀cl s₂ H₂ fp,PG (cO X N2 scope cl s₂ H₂ fp) tg g)(he:∀cl s₂ H₂ fp,PE (cO X N2 scope cl s₂ H₂ fp) elt te)(ht:∀cl s₂ H₂ fp,PT (cO X N2 scope cl s₂ H₂ fp) cond tc)(hk:scope.kind =.function)(hn:nS X.N X.env.scope.names scope.names N2 ix=true)(hs:∀x,foldedSetIterable iter X.env x=pure x:=by intro _;rfl):
  PE X (.ListComp elt [⟨tg,iter,[cond],0⟩] scope pos) (R8 wi ix g tc te):=by
 intro pins s σ H Q I h
 obtain⟨k1,k2,k3,k4,k5⟩:=kR hn
 obtain⟨cl,J3,c1,c2⟩:=uH (scope:=scope) (env:=X.env) λy hy e=>I.ok.has y.1 (k3 y hy e)
 rw[eval_ListComp]
 refine PB (use:=none) rfl hs J3 hk k4 (br (hi pins s σ H _ I h) λv s1 h1=>br h1 λitv s2 h2=>?_)
 obtain⟨it,fp,tn,J,H2,e,I2,T,st2,f2,h2⟩:=h2
 subst e
 refine MP (RR:=λacc C=>compPost (model X.prog X.w) X.A X.xe none (EP X pins σ Q) acc C) (Q:=Q) hc hg he ht hk hn (λy c m=>(c1 y c m).1) c2 I2 T st2 f2 h2 ?_
 intro acc C H' s' m I' ns x9 hL hsz sQ yJ q
 exact⟨m,ns,λh' hs'=>⟨.ref acc,H',I'.turned (it:=C) (t':=s'.toks) (λb o hb e=>(hs'.2 b hb).trans e) x9 hL (.inr hsz) sQ yJ,Z,q⟩⟩
end
theorem u9{α:Type}[DecidableEq α] :∀{l m:List α},l.Nodup->(∀x∈l,x∈m)->l.length<=m.length
 | [],_,_,_=>fH _
 | x::r,m,h,hs=>by
  have hn:=fU.mp h;have hx:=hs x cN;have:=u9 (l:=r) (m:=m.erase x) hn.2 λy hy=>by have hne:y≠x:=λe=>hn.1 (e▸hy);exact(List.mem_erase_of_ne hne).mpr (hs y (b7 _ hy))
  rw[List.length_erase_of_mem hx]at this;have hp:0<m.length:=List.length_pos_of_mem hx;rw[kg];omega
variable {i:Nat}
theorem R9(c:Int)(h:i<n):(lX c n)[i]?=some (97+((c / 26 ^ i) % 26).toNat):=by unfold lX;rw[cK,List.getElem?_range h];rfl
theorem XQ{c c':Int}{d:Nat}(h:d<n)(e:lX c n=lX c' n):(c / 26 ^ d) % 26=(c' / 26 ^ d) % 26:=by have h1:=R9 c h;rw[e,R9 c' h]at h1;have h2:=fm h1;have a0:0<=(c / 26 ^ d) % 26:=pM _ (by decide);have b0:0<=(c' / 26 ^ d) % 26:=pM _ (by decide);omega
structure pU(x:List Nat):Prop where
 lo:1<=x.length
 hi:x.length<=8
 XR:∀c∈x,97<=c/\c<123
theorem ZV(c:Int)(h1:1<=n)(h2:n<=8):pU (lX c n):=by refine⟨by rw[yH];exact h1,by rw[yH];exact h2,λx hx=>?_⟩;obtain⟨i,_,rfl⟩:=aZ.mp hx;have a0:0<=(c / 26 ^ i) % 26:=pM _ (by decide);have a1:(c / 26 ^ i) % 26<26:=zU _ (by decide);omega
def sR(nss:List (List Nat)):List V:=nss.map λx=>V.str (tx x)
theorem US(nss:List (List Nat)):(sR nss).all rV=true:=by unfold sR;rw[List.all_map,pK];exact λ_ _=>rfl
theorem R_{a b:List Nat}(h:tx a=tx b):a=b:=by
 have:a.toArray=b.toArray:=by injection h
 simpa using this
theorem Ou(x:List Nat)(nss:List (List Nat)):C9 (.str (tx x)) (sR nss)=decide (x∈nss):=by
 unfold C9 sR;rw[List.any_map,AV,List.any_eq_true,decide_eq_true_eq];constructor
 .rintro ⟨y,hy,e⟩;have e2:zz (.str (tx y)) (.str (tx x))=true:=e;have e3:tx y=tx x:=by unfold zz at e2;simpa using e2
  rw[<-R_ e3];exact hy
 .intro h;refine⟨x,h,?_⟩;show zz (.str (tx x)) (.str (tx x))=true;unfold zz;simp
open PySem.NumText
section
variable {X:Cx}
end
def QA(lo st:Int)(n:Nat):It:=⟨λi _=>i<n,λi H x H'=>H'=H/\x =.int (lo+i*st),λi _=>n<=i⟩
variable {P:Program}
theorem MQ{w:World}(it:Addr)(lo st:Int)(n:Nat):Turn P w K tg (QA lo st n) [it] it (λi h=>IsRangeIter h it (lo+(i:Nat)*st) ((n:Int)-(i:Nat)) st) where
 mem:=by simp
 obj:=λi h st b hb=>by
  have e:b=it:=by simpa using hb
  subst e;exact⟨_,st,λv z=>by have z':Data.fields _=Data.cell v:=z;cases z'⟩
 keep:=λi h h' st k=>k it (by simp) _ st
 item:=by intro X hP hw hK hc i pins s σ H E I hf st' hg;subst hP hw hK;obtain⟨f0,f1,f2,f3,f4,f5⟩:=hf it (by simp);have W:=Walks.range (prog:=X.prog) (w:=X.w) (I.ok.hd hc) it lo st n;refine W.item i s _ _ hg st' λv h' tk hv st2 kk=>?_;obtain⟨t,rfl⟩:=hv;have I1:Inv X pins σ H { s with heap:=h',toks:=tk }:=I.turned (λb o hb e=>kk b o (by simpa using hb) e) f0 f1 f3 f4 f5;exact⟨_,Z,A3 (s:={ s with heap:=h',toks:=tk }) (n:="range_iterator") st2 rfl rfl (by decide) ⟨.int (lo+i*st),H,I1,⟨t,Z⟩,⟨Z,Z⟩,st2,λb hb=>(hf b hb).1⟩⟩
 done:=by intro X hP hw hK hc i pins s σ H E I hf st' hg;subst hP hw hK;obtain⟨f0,f1,f2,f3,f4,f5⟩:=hf it (by simp);exact wpAny_pyNext_range_end (I.ok.hd hc) st' (by have:n<=i:=hg;omega) λh' eb=>⟨Z,I.turned (t':=s.toks) (λb o hb e=>eb b o hb e) f0 f1 f3 f4 f5⟩
 self:=λ_ _ _ _ _ st h=>wpAny_pyIter_rangeiter st h
variable {tb:TS}{D:Ends}
section
variable {X:Cx}{tg:Expr}
def qS(lo hi st:Int):Nat:=(Builtin.Range.rangeSize lo hi st).toNat
inductive ZW(R:It->Hp->Prop)(vs:List V)(H1:Hp):Prop
 |mk(i j k:Int)(_:vs=[.int i,.int j,.int k])(_:(0<=i/\i<=1000000/\0<=j/\j<=1000000/\0<k/\k<=1000000))(_:R (QA i k (qS i j k)) H1)
def acW(ta:TA):TI:=λσ H R=>ta σ H (ZW R)
theorem MR{a b c:Int}(h1:0<=a)(h2:a<=1000000)(h3:0<=b)(h4:b<=1000000)(h5:0<c)(h6:c<=1000000):Builtin.Range.small a b c=true/\0<=Builtin.Range.rangeSize a b c:=by
 have hr:0<=Builtin.Range.rangeSize a b c/\Builtin.Range.rangeSize a b c<=1000001:=by
  unfold Builtin.Range.rangeSize;rw[aC (by omega)];split
  .have e0:0<=(b-a-1) / c:=Ja (by omega) (by omega);have e1:(b-a-1) / c<=b-a-1:=Int.ediv_le_self _ (by omega);omega
  .omega
 refine⟨?_,hr.1⟩;unfold Builtin.Range.small;simp only[Builtin.Range.rangeFitsLong,Bool.and_eq_true,Bool.or_eq_true,decide_eq_true_eq,uF,show c>0 from h5,if_true];omega
theorem QB{lo st:Int}{g:TG}(Pv:Nat->St->Hp->Prop)(h0:Pv 0 σ H)(hs:∀i σ H,i<n->Pv i σ H->g (.int (lo+i*st)) σ H (tb (D.lp (Pv (i+1)))))(hd:∀σ H,Pv n σ H->D.nx σ H):
  CZ g tb D σ (QA lo st n) H:=by
 refine⟨λi m σ H=>m=n-i/\i<=n/\Pv i σ H,⟨n,by simp,fH _,h0⟩,?_⟩
 rintro i m σ H ⟨rfl,hi,p⟩
 by_cases hlt:i<n
 . refine .inr ⟨hlt,λσ' H'=>Pv (i+1) σ' H',λσ' H' q=>⟨n-(i+1),by omega,Z,hlt,q⟩,?_⟩
   rintro x H' ⟨rfl,rfl⟩
   exact hs i σ _ hlt p
 . have e:i=n:=by omega
   subst e
   exact .inl ⟨aO _,hd σ H p⟩
end
theorem XS(signs:Str)(c:Nat):Dm signs c=decide (c∈signs.cps.toList):=PySem.StrLaws.found_one signs c
open Builtin Builtin.Str
section
variable {X:Cx}
end
theorem Ov(c:Int)(j d:Nat):(c+(j:Int)*26 ^ d) / 26 ^ d=c / 26 ^ d+(j:Int):=by have hp:(26:Int) ^ d≠0:=Int.ne_of_gt (Int.pow_pos (by decide));rw[Int.add_mul_ediv_right _ _ hp]
variable {nss:List (List Nat)}{t:Nat}
theorem Sa{c:Int}{d:Nat}(h2:d<n)(ht:t<=26)(h:∀j:Nat,j<t->lX (c+(j:Int)*26 ^ d) n∈nss):t<=nss.length:=by
 have hn:((List.range t).map λj=>lX (c+((j:Nat):Int)*26 ^ d) n).Nodup:=by have:(List.range t).Pairwise (λa b=>a<b):=List.pairwise_lt_range;refine List.Pairwise.map _ ?_ (List.Pairwise.and_mem.mp this);rintro a b ⟨ha,hb,hab⟩ e;have ha':=yu.mp ha;have hb':=yu.mp hb;have:=XQ h2 e;rw[Ov,Ov]at this;omega
 have:=u9 hn λx hx=>by obtain⟨j,hj,rfl⟩:=aZ.mp hx;exact h j (yu.mp hj)
 rw[aG,List.length_range]at this;exact this
inductive ZX(K:Fg)(vs:List V)(H:Hp)(Q:VK)(E:XK):Prop
 |mk(a:Addr)(ms:List Int)(k:Int)(many:Nat)(_:vs=[.ref a,.int k,.int (many:Int)])(_:aI K H a (ms.map V.int))(_:ms.length<=63)(_:0<=k)(_:many<=25)(_:∀(z:Addr) (nss:List (List Nat)) (H':Hp),aR H H'->H' z=some (.lst (sR nss))->H z=none->nss.length=many->nss.Nodup->(∀x∈nss,pU x)->Q (.ref z) H')
def EK(K:Fg):Sp:=bx (ZX K)
theorem Gy{Q:VK}{E:XK}{ms:List Int}{k mi:Int}{many:Nat}(hmi:mi=(many:Int))(hS:aI K H a (ms.map V.int))(h63:ms.length<=63)(h1:0<=k)(h2:many<=25)(h:∀(z:Addr) (nss:List (List Nat)) (H':Hp),aR H H'->H' z=some (.lst (sR nss))->H z=none->nss.length=many->nss.Nodup->(∀x∈nss,pU x)->Q (.ref z) H'):EK K [.ref a,.int k,.int mi] H Q E:=by
 subst hmi
 exact⟨a,ms,k,many,Z,hS,h63,h1,h2,h⟩
theorem ya{a:List (Key×V)}{b:List (Key×Value)}(r:KV a b):∀{j:Nat}{p:Key×V},a[j]?=some p->∃q,b[j]?=some q/\p.1=q.1/\RelV p.2 q.2:=by
 induction r with
 | nil=>intro j p z;simp at z
 | cons r1 _ ih=>
  intro j p z;cases j with
  | zero=>simp at z;subst z;exact⟨_,Z,r1⟩
  | succ j=>simp at z;obtain⟨q,a1,a2⟩:=ih z;exact⟨q,by simpa using a1,a2⟩
abbrev pA(H:Hp)(d:Addr)(o:Obj)(kvs:List (Key×V)):Prop:=H d=some (.fu o (.dK kvs))
section
variable {X:Cx}{pins:AO}{σ σ':St}{H H':Hp}{s s':Shared}{d:Addr}{kvs:List (Key×V)}{o:Obj}
theorem Inv.freeze(I:Inv X pins σ H s)(e:H d=some (.dK kvs))(ho:s.heap.get? d=some o):Inv X pins σ (upd H d (.fu o (.dK kvs))) s:=by
 have nd:∀{b:Addr},H b=none->b≠d:=λh z=>by rw[z,e]at h;cases h
 have dn:∀{b:Addr},H b=none->upd H d (.fu o (.dK kvs)) b=none:=λh=>by rw[ay (nd h)];exact h
 have un:∀{b:Addr}{u:HO},H b=some u->(∀k,u ≠ .dK k)->b≠d:=λh k z=>by rw[z,e]at h;cases h;exact k _ rfl
 refine⟨I.ok,I.os,I.bare,⟨I.base.keep,I.base.slot,λb ob q n x=>dn (I.base.free b ob q n x),I.base.there,λb xs q=>?_,λb ob u q=>?_,λb ps q=>?_⟩,I.loc,I.cell,dn I.free,λx c q=>dn (I.oh x c q),λp hp=>?_,λb ob q=>?_,I.len⟩
 .have:=I.base.tups b xs q;rw[ay (un this λk z=>by cases z)];exact this
 .have:=I.base.tK b ob u q;rw[ay (un this λk z=>by cases z)];exact this
 .obtain ⟨more,this⟩:=I.base.xC b ps q;exact⟨more,by rw[ay (un this λk z=>by cases z)];exact this⟩
 .obtain ⟨h1,h2,h3⟩:=I.pin p hp;exact⟨h1,dn h2,h3⟩
 .by_cases hb:b=d
  .subst hb;rw[ai]at q;cases q;have:=I.hok b _ e;exact⟨ho,this⟩
  .rw [ay hb]at q;refine(I.hok b ob q).stay (λc u _ z=>z) (λc z=>?_) λc xs z=>?_
   .rw [ay (un z λk z=>by cases z)];exact z
   .rw [ay (un z λk z=>by cases z)];exact z
theorem Inv.B8(I:Inv X pins σ H s)(e:pA H d o kvs)(h0:∀o u,X.H₀ d≠some (.fu o u)):Inv X pins σ (upd H d (.dK kvs)) s:=by
 have nd:∀{b:Addr},H b=none->b≠d:=λh z=>by rw[z]at h;exact absurd (h.symm.trans e) (by simp)
 have dn:∀{b:Addr},H b=none->upd H d (.dK kvs) b=none:=λh=>by rw[ay (nd h)];exact h
 have un:∀{b:Addr}{u:HO},H b=some u->(∀o k,u ≠ .fu o k)->b≠d:=λh k z=>by rw[z]at h;have:=h.symm.trans e;cases this;exact k _ _ rfl
 refine⟨I.ok,I.os,I.bare,⟨I.base.keep,I.base.slot,λb ob q n x=>dn (I.base.free b ob q n x),I.base.there,λb xs q=>?_,λb ob u q=>?_,λb ps q=>?_⟩,I.loc,I.cell,dn I.free,λx c q=>dn (I.oh x c q),λp hp=>?_,λb ob q=>?_,I.len⟩
 .have:=I.base.tups b xs q;rw[ay (un this λ_ k z=>by cases z)];exact this
 .have:=I.base.tK b ob u q;rw[ay (λ(z:b=d)=>h0 ob u (by rw[<-z];exact q))];exact this
 .obtain ⟨more,this⟩:=I.base.xC b ps q;exact⟨more,by rw[ay (un this λ_ k z=>by cases z)];exact this⟩
 .obtain ⟨h1,h2,h3⟩:=I.pin p hp;exact⟨h1,dn h2,h3⟩
 .by_cases hb:b=d
  .subst hb;rw[ai]at q;cases q;exact(I.hok b _ e).2
  .rw [ay hb]at q;refine(I.hok b ob q).stay (λc u _ z=>z) (λc z=>?_) λc xs z=>?_
   .rw [ay (un z λ_ k z=>by cases z)];exact z
   .rw [ay (un z λ_ k z=>by cases z)];exact z
theorem Inv.Sb(I:Inv X pins σ H s)(e:H d=some (.dK kvs)):∀o u,X.H₀ d≠some (.fu o u):=λo u z=>by have:=I.base.tK d o u z;rw[e]at this;cases this
theorem Inv.rX(I:Inv X pins σ H s)(e:pA H d o kvs):s.heap.get? d=some o/\kvs.length<=sizeLine/\(d==sysModules)=false/\∃vs ep,KV kvs vs/\s.heap.DictAt (dj X.prog X.w) d vs ep:=by
 obtain⟨ho,hz,hs,vs,r,dd⟩:=(show fJ X.prog X.w H s.heap d (.fu o (.dK kvs))from I.hok d _ e)
 obtain⟨ep,da⟩:=dd.dictAt;exact⟨ho,hz,hs,vs,ep,r,da⟩
end
def Ends.B8(D:Ends)(d:Addr)(o:Obj)(kvs:List (Key×V)):Ends where
 nx:=λσ H=>pA H d o kvs/\D.nx σ (upd H d (.dK kvs))
 rt:=λv H=>pA H d o kvs/\D.rt v (upd H d (.dK kvs))
 bk:=λσ H=>pA H d o kvs/\D.bk σ (upd H d (.dK kvs))
 ct:=λσ H=>pA H d o kvs/\D.ct σ (upd H d (.dK kvs))
inductive agp(t:TS)(D:Ends)(σ:St)(H:Hp):Prop
 |mk(d kvs:_)(_:H d=some (.dK kvs))(_:∀o,t (D.B8 d o kvs) σ (upd H d (.fu o (.dK kvs))))
def agq(t:TE):TE:=λσ H Q=>∃d kvs,H d=some (.dK kvs)/\∀o,t σ (upd H d (.fu o (.dK kvs))) λv H'=>pA H' d o kvs/\Q v (upd H' d (.dK kvs))
def Itv(d:Addr)(o:Obj)(kvs:List (Key×V)):It:=⟨λi H=>pA H d o kvs/\i<kvs.length,λi H x H'=>H'=H/\∃p,kvs[i]?=some p/\x=p.2,λi H=>pA H d o kvs/\kvs.length<=i⟩
def Iti(d:Addr)(o:Obj)(kvs:List (Key×V)):It:=⟨λi H=>pA H d o kvs/\i<kvs.length,λi H x H'=>∃a p,H a=none/\kvs[i]?=some p/\x =.ref a/\H'=upd H a (.tup [kV p.1,p.2]),λi H=>pA H d o kvs/\kvs.length<=i⟩
variable {h:Heap}{d:Addr}{es:Array DictEntry}
theorem Bc{w:World}{vs:List (Key×Value)}{e1 e2:Nat}{o:Obj}(da:h.DictAt (dj P w) d vs e1)(ho:h.get? d=some o)(hd:o.data =.dict es e2):e1=e2:=by obtain⟨o',es',h1,_,h2,_⟩:=da;rw[ho]at h1;cases h1;rw[hd]at h2;cases h2;rfl
theorem J4{w:World}{k:Key}{v:Value}(h:(dj P w).is k v=true):RelV (kV k) v:=by
 rw[Qf]at h;rcases gF h with⟨i,t,rfl,rfl⟩|⟨x,t,rfl,rfl⟩
 .exact ⟨t,Z⟩
 .exact ⟨t,Z⟩
variable {it:Addr}{kvs:List (Key×V)}{ep:Nat}
theorem Sd{w:World}{o:Obj}(hd:o.data =.dict es ep):Turn P w K tg (Itv d o kvs) [it] it (λi h=>h.IsValIter it d i kvs.length ep) where
 mem:=by simp
 obj:=λi h st b hb=>by
  have e:b=it:=by simpa using hb
  subst e;obtain⟨o,e,c,d⟩:=st;exact⟨o,e,λv z=>by rw[d]at z;cases z⟩
 keep:=λi h h' st k=>st.at λo e=>k it (by simp) o e
 item:=by intro X hP hw hK hc i pins s σ H E I hf st hg;subst hP hw hK;obtain⟨hz,hlt⟩:=hg;obtain⟨ho,_,_,vs,xX,r,da⟩:=I.rX hz;cases Bc da ho hd;have hl:kvs.length=vs.length:=r.length;obtain⟨q,hq,_,rq⟩:=ya r (bK hlt);obtain⟨qk,qv⟩:=q;rw[hl]at st;obtain⟨f0,f1,f2,f3,f4,f5⟩:=hf it (by simp);refine wpAny_pyNext_values_item st da hq λh' st' sb=>?_;have I1:Inv X pins σ H { s with heap:=h' }:=I.turned (t':=s.toks) (λb o hb e=>(sb.2 b hb).trans e) f0 f1 f3 f4 f5;obtain⟨oi,e,c,dd⟩:=id st';exact⟨_,Z,A3 (s:={ s with heap:=h' }) e c dd (by decide) ⟨kvs[i].2,H,I1,rq,⟨Z,kvs[i],bK hlt,Z⟩,by rw[hl];exact st',λb hb=>(hf b hb).1⟩⟩
 done:=by intro X hP hw hK hc i pins s σ H E I hf st hg;subst hP hw hK;obtain⟨hz,hle⟩:=hg;obtain⟨ho,_,_,vs,xX,r,da⟩:=I.rX hz;cases Bc da ho hd;have hl:kvs.length=vs.length:=r.length;rw[hl]at st;obtain⟨f0,f1,f2,f3,f4,f5⟩:=hf it (by simp);exact wpAny_pyNext_values_end (I.ok.hd hc) st da (by rw[BO];omega) λh' eb=>⟨Z,I.turned (t':=s.toks) (λb o hb e=>eb b o hb e) f0 f1 f3 f4 f5⟩
 self:=λ_ _ _ _ _ st h=>wpAny_pyIter_valiter st h
variable {elts:List Expr}
theorem QC{w:World}{kk:Nat}{o:Obj}(hd:o.data =.dict es ep):Turn P w K (.Tuple elts kk pos) (Iti d o kvs) [it] it (λi h=>∃ok ov,IsItemIter h it d i kvs.length ep ok ov) where
 mem:=by simp
 obj:=λi h st b hb=>by
  have e:b=it:=by simpa using hb
  subst e;obtain⟨ok,ov,e⟩:=st;exact⟨_,e,λv z=>by cases z⟩
 keep:=λi h h' ⟨ok,ov,st⟩ k=>⟨ok,ov,k it (by simp) _ st⟩
 item:=by
  intro X hP hw hK hc i pins s σ H E I hf st hg;subst hP hw hK;obtain⟨hz,hlt⟩:=hg;obtain⟨ok,ov,st⟩:=st;obtain⟨ho,_,_,vs,xX,r,da⟩:=I.rX hz;cases Bc da ho hd;have hl:kvs.length=vs.length:=r.length;obtain⟨q,hq,ek,rq⟩:=ya r (bK hlt);obtain⟨qk,qv⟩:=q;rw[hl]at st;obtain⟨f0,f1,f2,f3,f4,f5⟩:=hf it (by simp);refine wpAny_pyNext_items_item st da hq λkey h1 hk st1 ht hsz hkeep=>?_;refine⟨_,Z,wpAny_letOwnedTupleGo_items (s:={ s with heap:=h1 }) st1 λh2 st2 sb=>?_⟩;have rk:RelV (kV kvs[i].1) key:=by rw[ek];exact J4 hk
  have hil:it≠s.heap.objs.size:=d7 (bR st);have wM:∀b o,b≠it->s.heap.get? b=some o->h2.get? b=some o:=λb o hb e=>sb.extBut b o hb (hkeep b o hb e);have I1:Inv X pins σ (upd H s.heap.objs.size (.tup [kV kvs[i].1,kvs[i].2])) { s with heap:=h2 }:=by
   have J:Inv X pins σ H { s with heap:=h2 }:=I.turned (t':=s.toks) wM f0 f1 f3 f4 f5;have hn:=I.fresh;have J2:Inv X pins σ (upd H s.heap.objs.size (.tup [kV kvs[i].1,kvs[i].2])) { s with heap:=h2,gens:=s.gens,drawn:=s.drawn,toks:=s.toks }:=by
    refine I.step (ch:=[it]) (λb hb=>⟨(hf b hb).2.2.2.1,(hf b hb).2.1,(hf b hb).2.2.2.2.1,(hf b hb).2.2.2.2.2⟩) (λb o _ _ hc' e _=>wM b o (by simpa using hc') e) (λb o _ _ hc' e _=>⟨o.slots,wM b o (by simpa using hc') e⟩) (λb o _ e n=>by rw[ay (d7 (bR e))];exact n) (λb o hc' e=>⟨o,wM b o (by simpa using hc') e⟩)
     (λb zs q=>by rw[ay (aD q hn)];exact q) (λb o zs q=>by rw[ay (aD q hn)];exact q) (λb ps q=>⟨#[],by rw[ay (aD q hn),q];simp⟩) (λm hm=>?_) (λb ob e=>?_) I.bare
    .obtain ⟨o,es,ep,ho,r⟩:=hm;exact⟨o,es,ep,wM _ o (λq=>f1 q.symm) ho,r⟩
    .by_cases hb:b=s.heap.objs.size
     .subst hb;rw[ai]at e;cases e;exact⟨by show 2<=sizeLine;decide,[key,qv],.cons rk (.cons rq .nil),_,sb.extBut _ _ hil.symm ht,Z,0,Z⟩
     .rw [ay hb]at e;refine(I.hok b ob e).stay (λc v Se q=>?_) (λc q=>by rw[ay (aD q hn)];exact q) λc zs q=>by rw[ay (aD q hn)];exact q
      refine wM c v (λz=>?_) q;rcases Se with r|r
      .rw [r]at z;rw[z,f0]at e;cases e
      .rw [z,f0]at r;cases r
   exact J2
  refine⟨.ref s.heap.objs.size,_,I1,Z,⟨_,kvs[i],I.fresh,bK hlt,Z,Z⟩,⟨key,qv,by rw[hl];exact st2⟩,λb hb=>?_⟩;have eb:b=it:=by simpa using hb
  subst eb;rw[ay hil];exact f0
 done:=by intro X hP hw hK hc i pins s σ H E I hf st hg;subst hP hw hK;obtain⟨hz,hle⟩:=hg;obtain⟨ok,ov,st⟩:=st;obtain⟨ho,_,_,vs,xX,r,da⟩:=I.rX hz;cases Bc da ho hd;have hl:kvs.length=vs.length:=r.length;rw[hl]at st;obtain⟨f0,f1,f2,f3,f4,f5⟩:=hf it (by simp);exact wpAny_pyNext_items_end (I.ok.hd hc) st da (by rw[BO];omega) λh' eb=>⟨Z,I.turned (t':=s.toks) (λb o hb e=>eb b o hb e) f0 f1 f3 f4 f5⟩
 self:=λA i s Q E ⟨ok,ov,st⟩ h=>PySem.W.kcp_self st h
section
variable {X:Cx}{tg:Expr}
inductive ZY(R:It->Hp->Prop)(x:V)(H1:Hp):Prop
 |mk(d o kvs:_)(_:x =.ref d)(_:pA H1 d o kvs)(_:R (Itv d o kvs:_) H1)
def acX(td:TE):TI:=λσ H R=>td σ H (ZY R)
inductive XT(R:It->Hp->Prop)(x:V)(H1:Hp):Prop
 |mk(d o kvs:_)(_:x =.ref d)(_:pA H1 d o kvs)(_:R (Iti d o kvs:_) H1)
def ZZ(td:TE):TI:=λσ H R=>td σ H (XT R)
end
variable {J:It}
theorem u_{g:TG}(Pv:Nat->St->Hp->Prop)(h0:Pv 0 σ H)(hgo:∀i σ H,i<n->Pv i σ H->J.go i H)(hst:∀σ H,Pv n σ H->J.stop n H)(hs:∀i x σ H H',i<n->Pv i σ H->J.zX i H x H'->g x σ H' (tb (D.lp (Pv (i+1)))))(hd:∀σ H,Pv n σ H->D.nx σ H):
  CZ g tb D σ (J) H:=by
 refine⟨λi m σ H=>m=n-i/\i<=n/\Pv i σ H,⟨n,by simp,fH _,h0⟩,?_⟩
 rintro i m σ H ⟨rfl,hi,p⟩
 by_cases hlt:i<n
 . exact .inr ⟨hgo i σ H hlt p,Pv (i+1),λσ' H' p'=>⟨n-(i+1),by omega,Z,hlt,p'⟩,λx H' y=>hs i x σ H H' hlt p y⟩
 . have e:i=n:=by omega
   subst e
   exact .inl ⟨hst σ H p,hd σ H p⟩
section
variable {prog:Program}{w:World}{K:Type}[DecidableEq K]{knd:KeyKind prog w K}{A:Around}{E:VS}{s:Shared}
theorem MS{kvs:List (K×Value)}{k:K}{v:Value}{Q:VS}(hit:s.heap.IsKeyIter it d i kvs.length ep)(hm:s.heap.DictAt knd d kvs ep)(hx:kvs[i]?=some (k,v))(hQ:∀key h',knd.is k key=true->h'.IsKeyIter it d (i+1) kvs.length ep->Heap.SameBut it s.heap h'->Q key { s with heap:=h' }):
  wpAny (model prog w) A (Builtin.SmallTypes.nextOf (.ref it)) Q E s:=by
 obtain⟨o,ho,hc,hd⟩:=id hit;obtain⟨od,es,hod,hcd,Ae,hk,hp,hn⟩:=id hm
 unfold Builtin.SmallTypes.nextOf
 refine aA (zQ (name:=Str.ofString "__next__") hit.typeIs VU (wm VU hit.typeIs F.entry_dict_keyiterator_next ?_ (F.args_dict_keyiterator_next_1 _)))
 refine aA (aU ?_);refine aA (aA ?_)
 first|(refine aA (VR hit.typeIs (aU ?_));refine aA (wu ho hd ?_))|(refine aA (PD hit.typeIs (aU ?_));refine aA (wu ho hd ?_))
 have own:Builtin.Dict_items.ownsTuple "dict_keyiterator"=false:=by decide
 simp only[own,EE,pP]
 show wpAny _ _ (if(Value.ref d==Value.none)=true then _ else _) _ _ _
 rw[aB (λz=>iH z:¬ ((Value.ref d==Value.none)=true))];refine aA (aU ?_)
 have sz:es.size=kvs.length:=by have:=hp.length;simpa using this
 refine aA (Qc hod Ae ?_);rw[aB (by rw[sz];simp)]
 refine aA (aU ?_);refine aA (Jc hod Ae ?_)
 rw[aB (by simp)];refine aU ?_
 have lt:i<kvs.length:=(ee.mp hx).1
 have lt':i<es.size:=by omega
 have kv:=hp.get? (e:=es[i]) (by simp[lt']) hx
 simp only[show ¬ ((i:Int)<0)from by omega,pP,uU,Array.getElem?_eq_getElem lt'];refine aA ?_
 first|(refine aA (VR hit.typeIs (aU ?_));refine aA (wpAny_isOneOf_keyiter hit.typeIs ?_))|(refine aA (PD hit.typeIs (aU ?_));refine aA (wpAny_isOneOf_keyiter hit.typeIs ?_))
 show wpAny _ _ (setField (.ref it) 1 (rawInt ((i:Int)+1)) >>= _) _ _ _
 refine aA (AX ho hd (by simp) ?_)
 have EL:(s.heap.update it (Obj.mapFields (·.setIfInBounds 1 (rawInt ((i:Int)+1))))).IsKeyIter it d (i+1) kvs.length ep:=⟨_,BN _ ho (Obj.isFreed_of_fields (EF hd _)),(Obj.cls_mapFields ..).trans hc,by rw[EF hd];simp[rawInt]⟩
 refine aA (wC (aA (wpAny_isOneOf_keyiter (s:={ s with heap:=s.heap.update it (Obj.mapFields (·.setIfInBounds 1 (rawInt ((i:Int)+1)))) }) EL.typeIs ?_)))
 exact aU (aU ⟨_,Z,aU (hQ _ _ kv.1 EL (EC ..))⟩)
theorem QD{kvs:List (K×Value)}{Q:VS}(hh:A.handled=none)(hit:s.heap.IsKeyIter it d i kvs.length ep)(hm:s.heap.DictAt knd d kvs ep)(hx:kvs[i]?=none)(hE:∀h' e,Heap.ExtBut it s.heap h'->(∃o,h'.get? e=some o/\o.cls =.type "StopIteration")->E (.ref e) { s with heap:=h' }):
  wpAny (model prog w) A (Builtin.SmallTypes.nextOf (.ref it)) Q E s:=by
 obtain⟨o,ho,hc,hd⟩:=id hit;obtain⟨od,es,hod,hcd,Ae,hk,hp,hn⟩:=id hm
 unfold Builtin.SmallTypes.nextOf
 refine aA (zQ (name:=Str.ofString "__next__") hit.typeIs VU (wm VU hit.typeIs F.entry_dict_keyiterator_next ?_ (F.args_dict_keyiterator_next_1 _)))
 refine aA (aU ?_);refine aA (aA ?_)
 first|(refine aA (VR hit.typeIs (aU ?_));refine aA (wu ho hd ?_))|(refine aA (PD hit.typeIs (aU ?_));refine aA (wu ho hd ?_))
 have own:Builtin.Dict_items.ownsTuple "dict_keyiterator"=false:=by decide
 simp only[own,EE,pP]
 show wpAny _ _ (if(Value.ref d==Value.none)=true then _ else _) _ _ _
 rw[aB (λz=>iH z:¬ ((Value.ref d==Value.none)=true))];refine aA (aU ?_)
 have sz:es.size=kvs.length:=by have:=hp.length;simpa using this
 refine aA (Qc hod Ae ?_);rw[aB (by rw[sz];simp)]
 refine aA (aU ?_);refine aA (Jc hod Ae ?_)
 rw[aB (by simp)];refine aU ?_
 have ge:es.size<=i:=by rw[sz];simpa using hx
 simp only[show ¬ ((i:Int)<0)from by omega,pP,uU,Array.getElem?_eq_none ge];refine aA ?_
 first|(refine aA (VR hit.typeIs (aU ?_));show wpAny _ _ (setField (.ref it) 0 .none >>= _) _ _ _)|(refine aA (PD hit.typeIs (aU ?_));show wpAny _ _ (setField (.ref it) 0 .none >>= _) _ _ _)
 refine aA (AX ho hd (by simp) ?_);show wpAny _ _ (newExc (.type "StopIteration") [] >>= _) _ _ _
 refine aA ?_;simp only[newExc,newTuple]
 refine aA (xA ?_ (by size_fits));refine aA (m:=firstArgMember _ _) (wpAny_of_eq (a:=Value.none) (by first|rfl|(simp only[firstArgMember];rfl)) ?_)
 refine xA ?_ (by size_fits);simp only[raiseNew]
 refine aA (wpAny_handled ?_);rw[show A.in1.handled=none from hh]
 exact aA (aU (wpAny_throw (hE _ _ (((EC ..).extBut.push _).push _) ⟨_,eU _ rfl,Z⟩)))
theorem MT{kvs:List (K×Value)}{k:K}{v:Value}{Q:VS}(hit:s.heap.IsValIter it d i kvs.length ep)(hm:s.heap.DictAt knd d kvs ep)(hx:kvs[i]?=some (k,v))(hQ:∀h',h'.IsValIter it d (i+1) kvs.length ep->Heap.SameBut it s.heap h'->Q v { s with heap:=h' }):
  wpAny (model prog w) A (Builtin.SmallTypes.nextOf (.ref it)) Q E s:=by
 obtain⟨o,ho,hc,hd⟩:=id hit;obtain⟨od,es,hod,hcd,Ae,hk,hp,hn⟩:=id hm
 unfold Builtin.SmallTypes.nextOf
 refine aA (zQ (name:=Str.ofString "__next__") hit.typeIs VQ (wm VQ hit.typeIs F.entry_dict_valueiterator_next ?_ (F.args_dict_valueiterator_next_1 _)))
 refine aA (aU ?_);refine aA (aA ?_)
 first|(refine aA (VT hit.typeIs (aU ?_));refine aA (wu ho hd ?_))|(refine aA (PF hit.typeIs (aU ?_));refine aA (wu ho hd ?_))
 have own:Builtin.Dict_items.ownsTuple "dict_valueiterator"=false:=by decide
 simp only[own,EE,pP]
 show wpAny _ _ (if(Value.ref d==Value.none)=true then _ else _) _ _ _
 rw[aB (λz=>iH z:¬ ((Value.ref d==Value.none)=true))];refine aA (aU ?_)
 have sz:es.size=kvs.length:=by have:=hp.length;simpa using this
 refine aA (Qc hod Ae ?_);rw[aB (by rw[sz];simp)]
 refine aA (aU ?_);refine aA (Jc hod Ae ?_)
 rw[aB (by simp)];refine aU ?_
 have lt:i<kvs.length:=(ee.mp hx).1
 have lt':i<es.size:=by omega
 have kv:=hp.get? (e:=es[i]) (by simp[lt']) hx
 simp only[show ¬ ((i:Int)<0)from by omega,pP,uU,Array.getElem?_eq_getElem lt'];refine aA ?_
 first|(refine aA (VT hit.typeIs (aU ?_));refine aA (PL hit.typeIs ?_))|(refine aA (PF hit.typeIs (aU ?_));refine aA (PL hit.typeIs ?_))
 show wpAny _ _ (setField (.ref it) 1 (rawInt ((i:Int)+1)) >>= _) _ _ _
 refine aA (AX ho hd (by simp) ?_)
 have EL:(s.heap.update it (Obj.mapFields (·.setIfInBounds 1 (rawInt ((i:Int)+1))))).IsValIter it d (i+1) kvs.length ep:=⟨_,BN _ ho (Obj.isFreed_of_fields (EF hd _)),(Obj.cls_mapFields ..).trans hc,by rw[EF hd];simp[rawInt]⟩
 refine aA (wC (aA (PL (s:={ s with heap:=s.heap.update it (Obj.mapFields (·.setIfInBounds 1 (rawInt ((i:Int)+1)))) }) EL.typeIs ?_)))
 refine aA (PL (s:={ s with heap:=s.heap.update it (Obj.mapFields (·.setIfInBounds 1 (rawInt ((i:Int)+1)))) }) EL.typeIs ?_)
 exact aU (aU ⟨_,Z,aU (kv.2▸hQ _ EL (EC ..))⟩)
theorem QE{kvs:List (K×Value)}{Q:VS}(hh:A.handled=none)(hit:s.heap.IsValIter it d i kvs.length ep)(hm:s.heap.DictAt knd d kvs ep)(hx:kvs[i]?=none)(hE:∀h' e,Heap.ExtBut it s.heap h'->(∃o,h'.get? e=some o/\o.cls =.type "StopIteration")->E (.ref e) { s with heap:=h' }):
  wpAny (model prog w) A (Builtin.SmallTypes.nextOf (.ref it)) Q E s:=by
 obtain⟨o,ho,hc,hd⟩:=id hit;obtain⟨od,es,hod,hcd,Ae,hk,hp,hn⟩:=id hm
 unfold Builtin.SmallTypes.nextOf
 refine aA (zQ (name:=Str.ofString "__next__") hit.typeIs VQ (wm VQ hit.typeIs F.entry_dict_valueiterator_next ?_ (F.args_dict_valueiterator_next_1 _)))
 refine aA (aU ?_);refine aA (aA ?_)
 first|(refine aA (VT hit.typeIs (aU ?_));refine aA (wu ho hd ?_))|(refine aA (PF hit.typeIs (aU ?_));refine aA (wu ho hd ?_))
 have own:Builtin.Dict_items.ownsTuple "dict_valueiterator"=false:=by decide
 simp only[own,EE,pP]
 show wpAny _ _ (if(Value.ref d==Value.none)=true then _ else _) _ _ _
 rw[aB (λz=>iH z:¬ ((Value.ref d==Value.none)=true))];refine aA (aU ?_)
 have sz:es.size=kvs.length:=by have:=hp.length;simpa using this
 refine aA (Qc hod Ae ?_);rw[aB (by rw[sz];simp)]
 refine aA (aU ?_);refine aA (Jc hod Ae ?_)
 rw[aB (by simp)];refine aU ?_
 have ge:es.size<=i:=by rw[sz];simpa using hx
 simp only[show ¬ ((i:Int)<0)from by omega,pP,uU,Array.getElem?_eq_none ge];refine aA ?_
 first|(refine aA (VT hit.typeIs (aU ?_));show wpAny _ _ (setField (.ref it) 0 .none >>= _) _ _ _)|(refine aA (PF hit.typeIs (aU ?_));show wpAny _ _ (setField (.ref it) 0 .none >>= _) _ _ _)
 refine aA (AX ho hd (by simp) ?_);show wpAny _ _ (newExc (.type "StopIteration") [] >>= _) _ _ _
 refine aA ?_;simp only[newExc,newTuple]
 refine aA (xA ?_ (by size_fits));refine aA (m:=firstArgMember _ _) (wpAny_of_eq (a:=Value.none) (by first|rfl|(simp only[firstArgMember];rfl)) ?_)
 refine xA ?_ (by size_fits);simp only[raiseNew]
 refine aA (wpAny_handled ?_);rw[show A.in1.handled=none from hh]
 exact aA (aU (wpAny_throw (hE _ _ (((EC ..).extBut.push _).push _) ⟨_,eU _ rfl,Z⟩)))
end
structure Af(P:Program)(w:World)(K:Fg)(S:Hp->Prop)(xs:List V)(it l:Addr)(tn:Nat->Heap->Prop)(src:Heap->Prop):Prop where
 obj:∀i h,tn i h->∃o,h.get? it=some o/\∀v,o.data ≠ .cell v
 keep:∀i h h',tn i h->(∀o,h.get? it=some o->h'.get? it=some o)->tn i h'
 wN:∀h h',src h->(∀o,h.get? l=some o->h'.get? l=some o)->src h'
 Gz:∀(X:Cx),X.prog=P->X.w=w->X.K=K->∀(pins:AO)(σ:St)(H:Hp)(s:Shared),Inv X pins σ H s->S H->src s.heap
 item:∀(A:Around)(i:Nat)(x:V)(s:Shared)(Q:VS)(E:VS),tn i s.heap->src s.heap->xs[i]?=some x->(∀u h',RelV x u->tn (i+1) h'->Heap.SameBut it s.heap h'->Q u { s with heap:=h' })->wpAny (model P w) A (Builtin.SmallTypes.nextOf (.ref it)) Q E s
 done:∀(A:Around)(i:Nat)(s:Shared)(Q:VS)(E:VS),A.handled=none->tn i s.heap->src s.heap->xs.length<=i->(∀h' e,Heap.ExtBut it s.heap h'->(∃o,h'.get? e=some o/\o.cls =.type "StopIteration")->E (.ref e) { s with heap:=h' })->wpAny (model P w) A (Builtin.SmallTypes.nextOf (.ref it)) Q E s
theorem UT{w:World}{l:Addr}:Af P w K (λH=>aI K H l xs) xs it l (λi h=>h.IsListIter it l i) (λh=>∃its:List Value,Vals xs its/\h.IsList l its.toArray) where
 obj:=λi h ⟨o,e,c,d⟩=>⟨o,e,λv z=>by rw[d]at z;cases z⟩
 keep:=λi h h' st k=>st.at k
 wN:=λh h' ⟨its,r,hl⟩ k=>⟨its,r,hl.at k⟩
 Gz:=λX hP hw hK pins σ H s I h=>by subst hP hw hK;obtain⟨its,rv,p,_⟩:=I.list h;exact⟨its,rv,p.isList⟩
 item:=λA i x s Q E st ⟨its,r,hl⟩ hx hQ=>by obtain⟨u,hu,ru⟩:=r.get hx;exact wpAny_nextOf_list_item st hl (by simpa using hu) λh' st' sb=>hQ u h' ru st' sb
 done:=λA i s Q E hh st ⟨its,r,hl⟩ hx hE=>wpAny_nextOf_list_end hh st hl (by have:=r.length;simp;omega) hE
theorem UU{w:World}{o:Obj}(hd:o.data =.dict es ep):Af P w K (λH=>pA H d o kvs) (kvs.map λp=>kV p.1) it d (λi h=>h.IsKeyIter it d i kvs.length ep) (λh=>∃vs,KV kvs vs/\h.DictAt (dj P w) d vs ep) where
 obj:=λi h ⟨o,e,c,d⟩=>⟨o,e,λv z=>by rw[d]at z;cases z⟩
 keep:=λi h h' st k=>st.at k
 wN:=λh h' ⟨vs,r,hl⟩ k=>⟨vs,r,hl.at' k⟩
 Gz:=λX hP hw hK pins σ H s I h=>by subst hP hw hK;obtain⟨ho,_,_,vs,xX,r,da⟩:=I.rX h;cases Bc da ho hd;exact⟨vs,r,da⟩
 item:=λA i x s Q E st ⟨vs,r,da⟩ hx hQ=>by rw[cK]at hx;obtain⟨p,hp,rfl⟩:=nI.mp hx;obtain⟨q,hq,ek,rq⟩:=ya r hp;obtain⟨qk,qv⟩:=q;have hl:kvs.length=vs.length:=r.length;rw[hl]at st;exact MS st da hq λkey h' hk st' sb=>hQ key h' (by rw[ek];exact J4 hk) (by rw[hl];exact st') sb
 done:=λA i s Q E hh st ⟨vs,r,da⟩ hx hE=>by have hl:kvs.length=vs.length:=r.length;rw[aG]at hx;rw[hl]at st;exact QD hh st da (by rw[BO];omega) hE
theorem UW{w:World}{o:Obj}(hd:o.data =.dict es ep):Af P w K (λH=>pA H d o kvs) (kvs.map λp=>p.2) it d (λi h=>h.IsValIter it d i kvs.length ep) (λh=>∃vs,KV kvs vs/\h.DictAt (dj P w) d vs ep) where
 obj:=λi h ⟨o,e,c,d⟩=>⟨o,e,λv z=>by rw[d]at z;cases z⟩
 keep:=λi h h' st k=>st.at k
 wN:=λh h' ⟨vs,r,hl⟩ k=>⟨vs,r,hl.at' k⟩
 Gz:=λX hP hw hK pins σ H s I h=>by subst hP hw hK;obtain⟨ho,_,_,vs,xX,r,da⟩:=I.rX h;cases Bc da ho hd;exact⟨vs,r,da⟩
 item:=λA i x s Q E st ⟨vs,r,da⟩ hx hQ=>by rw[cK]at hx;obtain⟨p,hp,rfl⟩:=nI.mp hx;obtain⟨q,hq,ek,rq⟩:=ya r hp;obtain⟨qk,qv⟩:=q;have hl:kvs.length=vs.length:=r.length;rw[hl]at st;exact MT st da hq λh' st' sb=>hQ qv h' rq (by rw[hl];exact st') sb
 done:=λA i s Q E hh st ⟨vs,r,da⟩ hx hE=>by have hl:kvs.length=vs.length:=r.length;rw[aG]at hx;rw[hl]at st;exact QE hh st da (by rw[BO];omega) hE
variable {y:V}
section
variable {P:Program}{w:World}{A:Around}{E:VS}{s:Shared}{K:Fg}{S1 S2:Hp->Prop}{xs ys:List V}{z TI TO i1 i2 l1 l2:Addr}{t1 t2:Nat->Heap->Prop}{c1 c2:Heap->Prop}{i:Nat}
theorem Sf{x:V}{a b:Value}{Q:VS}(D:ZipApart z TI TO i1 i2 l1 l2)(C1:Af P w K S1 xs i1 l1 t1 c1)(C2:Af P w K S2 ys i2 l2 t2 c2)(hz:IsZip s.heap z TI TO .none)(hTI:IsPair s.heap TI (.ref i1) (.ref i2))(hTO:IsPair s.heap TO a b)(h1:t1 i s.heap)(h2:t2 i s.heap)(hc1:c1 s.heap)(hc2:c2 s.heap)(hx:xs[i]?=some x)(hy:ys[i]?=some y)(hQ:∀u v h',RelV x u->RelV y v->IsZip h' z TI TO (rawInt s.heap.objs.size)->IsPair h' TO u v->t1 (i+1) h'->t2 (i+1) h'->IsPair h' s.heap.objs.size u v->h'.objs.size=s.heap.objs.size+1->
    (∀c o,c≠z->c≠TO->c≠i1->c≠i2->s.heap.get? c=some o->h'.get? c=some o)->Q (.ref s.heap.objs.size) { s with heap:=h' }):
  wpAny (model P w) A (Builtin.«zip.__next__» ⟨[.ref z],[]⟩) (λfin s'=>∃v,fin =.done (.ret v)/\Q v s') E s:=by
 show wpAny _ _ (field (.ref z) 2 >>= _) _ _ _
 refine aA (n_ hz rfl (x:=.bool false) rfl ?_);show wpAny _ _ (field (.ref z) 3 >>= _) _ _ _
 refine aA (n_ hz rfl (x:=.ref TI) rfl ?_);refine aA (uB hTI rfl ?_)
 show wpAny _ _ (Builtin.SmallTypes.ownedTupleIsFree (.ref z) >>= _) _ _ _
 refine aA ?_;unfold Builtin.SmallTypes.ownedTupleIsFree
 refine aA (n_ hz rfl (x:=.none) rfl (aU ?_));simp only[if_true]
 refine aA (wpAny_rule ?_);refine aA (n_ hz rfl (x:=.ref TO) rfl ?_)
 refine aA (EG hz (by simp) λhA GA sA=>?_)
 replace GA:IsZip hA z TI TO .ellipsis:=GA
 refine aA ?_;simp only[List.zipIdx_cons,List.zipIdx_nil,Jb,yv]
 refine aA (aA (wpAny_onRaise ?_));show wpAny _ _ (Builtin.SmallTypes.nextOf (.ref i1) >>= _) _ _ _
 refine aA (C1.item _ i x { s with heap:=hA } _ _ (C1.keep _ _ _ h1 λo e=>sA.extBut _ _ D.i1z e) (C1.wN _ _ hc1 λo e=>sA.extBut _ _ D.l1z e) hx λu hB ru h1B sB=>aU ?_)
 have Sg:IsPair hB TO a b:=sB.extBut _ _ D.TOi1 (sA.extBut _ _ D.TOz hTO)
 refine aA (uB Sg rfl ?_);refine aA (wpAny_updateSeq_pair Sg λhC Wh sC=>?_)
 replace Wh:IsPair hC TO u b:=Wh
 refine aA (wpAny_letGo (aU ?_));refine aA (aA (wpAny_onRaise ?_))
 show wpAny _ _ (Builtin.SmallTypes.nextOf (.ref i2) >>= _) _ _ _
 refine aA (C2.item _ i y { s with heap:=hC } _ _ (C2.keep _ _ _ h2 λo e=>sC.extBut _ _ D.TOi2.symm (sB.extBut _ _ D.i12.symm (sA.extBut _ _ D.i2z e))) (C2.wN _ _ hc2 λo e=>sC.extBut _ _ D.l2TO (sB.extBut _ _ D.l2i1 (sA.extBut _ _ D.l2z e))) hy λv hD rv h2D sD=>aU ?_)
 have TOD:IsPair hD TO u b:=sD.extBut _ _ D.TOi2 Wh
 refine aA (uB TOD rfl ?_);refine aA (wpAny_updateSeq_pair TOD λhE Wi sE=>?_)
 replace Wi:IsPair hE TO u v:=Wi
 refine aA (wpAny_letGo (aU (aU ?_)));refine aA (uB Wi rfl ?_)
 refine aA (wpAny_newTuple ?_)
 have sz:hE.objs.size=s.heap.objs.size:=by rw[sE.1,sD.1,sC.1,sB.1,sA.1]
 have zE:IsZip hE z TI TO .ellipsis:=sE.extBut _ _ D.TOz.symm (sD.extBut _ _ D.i2z.symm (sC.extBut _ _ D.TOz.symm (sB.extBut _ _ D.i1z.symm GA)))
 have kE:∀c o,c≠z->c≠TO->c≠i1->c≠i2->s.heap.get? c=some o->hE.get? c=some o:=λc o c1 c2 c3 c4 e=>sE.extBut _ _ c2 (sD.extBut _ _ c4 (sC.extBut _ _ c2 (sB.extBut _ _ c3 (sA.extBut _ _ c1 e))))
 have t1E:t1 (i+1) hE:=C1.keep _ _ _ h1B λo e=>sE.extBut _ _ D.TOi1.symm (sD.extBut _ _ D.i12 (sC.extBut _ _ D.TOi1.symm e))
 have t2E:t2 (i+1) hE:=C2.keep _ _ _ h2D λo e=>sE.extBut _ _ D.TOi2.symm e
 have zlt:z<hE.objs.size:=bR zE
 show wpAny _ _ (Builtin.SmallTypes.ownedTupleHandOut (.ref z) (.ref hE.objs.size) >>= _) _ _ _
 refine aA ?_;unfold Builtin.SmallTypes.ownedTupleHandOut
 have zF:IsZip (hE.push { cls:=.type "tuple",data:=.seq #[u,v] }) z TI TO .ellipsis:=cy _ zE
 refine aA (EG zF (by simp) λhG zG sG=>?_)
 replace zG:IsZip hG z TI TO (rawInt hE.objs.size):=zG
 refine EG zG (by simp) λhI zI sI=>?_
 replace zI:IsZip hI z TI TO (rawInt hE.objs.size):=zI
 have up:∀c o,c≠z->hE.get? c=some o->hI.get? c=some o:=λc o c1 e=>sI.extBut _ _ c1 (sG.extBut _ _ c1 (cy _ e))
 have TI':IsPair hI hE.objs.size u v:=sI.extBut _ _ (wD zlt) (sG.extBut _ _ (wD zlt) (eU _ rfl))
 have szI:hI.objs.size=hE.objs.size+1:=by rw[sI.1,sG.1,kP]
 rw[sz]at zI TI' szI
 refine aU ⟨_,Z,?_⟩
 show Q (.ref hE.objs.size) _
 rw[sz]
 exact hQ u v hI ru rv zI (up _ _ D.TOz Wi) (C1.keep _ _ _ t1E λo e=>up _ o D.i1z e) (C2.keep _ _ _ t2E λo e=>up _ o D.i2z e) TI' szI λc o c1 c2 c3 c4 e=>up c o c1 (kE c o c1 c2 c3 c4 e)
theorem UX{a b:Value}{Q:Fin->Shared->Prop}(hh:A.handled=none)(D:ZipApart z TI TO i1 i2 l1 l2)(C1:Af P w K S1 xs i1 l1 t1 c1)(C2:Af P w K S2 ys i2 l2 t2 c2)(hz:IsZip s.heap z TI TO .none)(hTI:IsPair s.heap TI (.ref i1) (.ref i2))(hTO:IsPair s.heap TO a b)(h1:t1 i s.heap)(h2:t2 i s.heap)(hc1:c1 s.heap)(hc2:c2 s.heap)(hend:xs.length<=i\/ys.length<=i)(hE:∀h' e,(∀c o,c≠z->c≠TO->c≠i1->c≠i2->s.heap.get? c=some o->h'.get? c=some o)->(∃o,h'.get? e=some o/\o.cls =.type "StopIteration")->E (.ref e) { s with heap:=h' }):
  wpAny (model P w) A (Builtin.«zip.__next__» ⟨[.ref z],[]⟩) Q E s:=by
 show wpAny _ _ (field (.ref z) 2 >>= _) _ _ _
 refine aA (n_ hz rfl (x:=.bool false) rfl ?_);show wpAny _ _ (field (.ref z) 3 >>= _) _ _ _
 refine aA (n_ hz rfl (x:=.ref TI) rfl ?_);refine aA (uB hTI rfl ?_)
 show wpAny _ _ (Builtin.SmallTypes.ownedTupleIsFree (.ref z) >>= _) _ _ _
 refine aA ?_;unfold Builtin.SmallTypes.ownedTupleIsFree
 refine aA (n_ hz rfl (x:=.none) rfl (aU ?_));simp only[if_true]
 refine aA (wpAny_rule ?_);refine aA (n_ hz rfl (x:=.ref TO) rfl ?_)
 refine aA (EG hz (by simp) λhA GA sA=>?_)
 replace GA:IsZip hA z TI TO .ellipsis:=GA
 refine aA ?_;simp only[List.zipIdx_cons,List.zipIdx_nil,Jb,yv]
 refine aA (aA (wpAny_onRaise ?_));show wpAny _ _ (Builtin.SmallTypes.nextOf (.ref i1) >>= _) _ _ _
 have k1:=C1.keep _ _ _ h1 λo e=>sA.extBut _ _ D.i1z e
 have k2:=C1.wN _ _ hc1 λo e=>sA.extBut _ _ D.l1z e
 by_cases hx:xs.length<=i
 . refine aA (C1.done _ i { s with heap:=hA } _ _ hh k1 k2 hx λhB e sB he=>?_)
   obtain⟨oe,Du,hce⟩:=he
   have zB:IsZip hB z TI TO .ellipsis:=sB _ _ D.i1z.symm GA
   have ez:e≠z:=λx=>by subst x;rw[zB]at Du;cases Du;simp at hce
   exact EG zB (by simp) λhC _ sC=>hE hC e (λc o c1 _ c3 _ x=>sC.extBut _ _ c1 (sB _ _ c3 (sA.extBut _ _ c1 x))) ⟨oe,sC.extBut _ _ ez Du,hce⟩
 . have hy:ys.length<=i:=hend.resolve_left hx
   refine aA (C1.item _ i xs[i] { s with heap:=hA } _ _ k1 k2 (bK (by omega)) λu hB ru h1B sB=>aU ?_)
   have Sg:IsPair hB TO a b:=sB.extBut _ _ D.TOi1 (sA.extBut _ _ D.TOz hTO)
   refine aA (uB Sg rfl ?_);refine aA (wpAny_updateSeq_pair Sg λhC Wh sC=>?_)
   refine aA (wpAny_letGo (aU ?_));refine aA (aA (wpAny_onRaise ?_))
   show wpAny _ _ (Builtin.SmallTypes.nextOf (.ref i2) >>= _) _ _ _
   refine aA (C2.done _ i { s with heap:=hC } _ _ hh (C2.keep _ _ _ h2 λo e=>sC.extBut _ _ D.TOi2.symm (sB.extBut _ _ D.i12.symm (sA.extBut _ _ D.i2z e))) (C2.wN _ _ hc2 λo e=>sC.extBut _ _ D.l2TO (sB.extBut _ _ D.l2i1 (sA.extBut _ _ D.l2z e))) hy λhD e sD he=>?_)
   obtain⟨oe,Du,hce⟩:=he
   have zD:IsZip hD z TI TO .ellipsis:=sD _ _ D.i2z.symm (sC.extBut _ _ D.TOz.symm (sB.extBut _ _ D.i1z.symm GA))
   have ez:e≠z:=λx=>by subst x;rw[zD]at Du;cases Du;simp at hce
   exact EG zD (by simp) λhF _ sF=>hE hF e (λc o c1 c2 c3 c4 x=>sF.extBut _ _ c1 (sD _ _ c4 (sC.extBut _ _ c2 (sB.extBut _ _ c3 (sA.extBut _ _ c1 x))))) ⟨oe,sF.extBut _ _ ez Du,hce⟩
end
def Z0(S1 S2:Hp->Prop)(xs ys:List V):It:=⟨λi H=>S1 H/\S2 H/\i<xs.length/\i<ys.length,λi H v H'=>∃p x y,H p=none/\v =.ref p/\H'=upd H p (.tup [x,y])/\xs[i]?=some x/\ys[i]?=some y,λi H=>S1 H/\S2 H/\(xs.length<=i\/ys.length<=i)⟩
variable {z:Addr}
theorem Sh{w:World}{kk:Nat}{S1 S2:Hp->Prop}{TI TO i1 i2 l1 l2:Addr}{t1 t2:Nat->Heap->Prop}{c1 c2:Heap->Prop}(D:ZipApart z TI TO i1 i2 l1 l2)(C1:Af P w K S1 xs i1 l1 t1 c1)(C2:Af P w K S2 ys i2 l2 t2 c2):
  Turn P w K (.Tuple elts kk pos) (Z0 S1 S2 xs ys) [z,TI,TO,i1,i2] z (λi h=>IsZip h z TI TO .none/\IsPair h TI (.ref i1) (.ref i2)/\(∃a b,IsPair h TO a b)/\t1 i h/\t2 i h) where
 mem:=by simp
 obj:=λi h st b hb=>by
  obtain⟨hz,hTI,⟨a,b',hTO⟩,h1,h2⟩:=st;have hb':b=z\/b=TI\/b=TO\/b=i1\/b=i2:=by simpa using hb
  rcases hb' with rfl|rfl|rfl|rfl|rfl
  .exact ⟨_,hz,λv q=>by cases q⟩
  .exact ⟨_,hTI,λv q=>by cases q⟩
  .exact ⟨_,hTO,λv q=>by cases q⟩
  .exact C1.obj i h h1
  .exact C2.obj i h h2
 keep:=λi h h' st k=>by obtain⟨hz,hTI,⟨a,b',hTO⟩,h1,h2⟩:=st;exact⟨k z (by simp) _ hz,k TI (by simp) _ hTI,⟨a,b',k TO (by simp) _ hTO⟩,C1.keep _ _ _ h1 λo e=>k i1 (by simp) o e,C2.keep _ _ _ h2 λo e=>k i2 (by simp) o e⟩
 item:=by
  intro X hP hw hK hc i pins s σ H E I hf st hg;subst hP hw hK;obtain⟨hz,hTI,⟨a,b,hTO⟩,h1,h2⟩:=st;obtain⟨g1,g2,lx,ly⟩:=hg;have hT:s.TypeIs (.ref z) "zip":=⟨_,hz,Z⟩
  unfold pyNext;refine aA (wpAny_attempt (zQ (name:=Str.ofString "__next__") hT Jd (wm Jd hT F.entry_zip_next
   (Sf D C1 C2 hz hTI hTO h1 h2 (C1.Gz X rfl rfl rfl pins σ H s I g1) (C2.Gz X rfl rfl rfl pins σ H s I g2) (bK lx) (bK ly) λu u2 h' ru ru2 a1 a2 a3 a4 a5 a6 hk=>aU ?_) (F.args_zip_next_1 _))))
  refine⟨_,Z,wpAny_letOwnedTupleGo_zip (s:={ s with heap:=h' }) a1 λh'' b1 hs=>?_⟩;have hTz:s.heap.objs.size≠z:=wD (bR hz);have wM:∀c o,c≠z->c≠TO->c≠i1->c≠i2->s.heap.get? c=some o->h''.get? c=some o:=λc o c1 c2 c3 c4 e=>hs.extBut _ _ c1 (hk c o c1 c2 c3 c4 e);have hn:=I.fresh;have nf:∀b u,H b=some u->b≠z/\b≠TO/\b≠i1/\b≠i2:=λb u e=>by
   have g:∀c∈[z,TI,TO,i1,i2],b≠c:=λc hc q=>by have:=(hf c hc).1;rw[<-q,e]at this;cases this
   exact⟨g z (by simp),g TO (by simp),g i1 (by simp),g i2 (by simp)⟩
  have xW:∀c,c∉[z,TI,TO,i1,i2]->c≠z/\c≠TO/\c≠i1/\c≠i2:=λc hc=>⟨λq=>hc (by simp[q]),λq=>hc (by simp[q]),λq=>hc (by simp[q]),λq=>hc (by simp[q])⟩
  have agr:IsPair h'' s.heap.objs.size u u2:=hs.extBut _ _ hTz a5;have hok:ji X.prog X.w (upd H s.heap.objs.size (.tup [xs[i],ys[i]])) h'':=λb ob e=>by
   by_cases hb:b=s.heap.objs.size
   .subst hb;rw[ai]at e;cases e;exact⟨by show 2<=sizeLine;decide,[u,u2],.cons ru (.cons ru2 .nil),_,agr,Z,0,Z⟩
   .rw [ay hb]at e;refine(I.hok b ob e).stay (λc v Se q=>?_) (λc q=>by rw[ay (aD q hn)];exact q) λc zs q=>by rw[ay (aD q hn)];exact q
    rcases Se with r|r
    .obtain ⟨n1,n2,n3,n4⟩:=nf b ob e;rw[r];rw[r]at q;exact wM b v n1 n2 n3 n4 q
    .obtain ⟨n1,n2,n3,n4⟩:=nf c _ r;exact wM c v n1 n2 n3 n4 q
  have I2:Inv X pins σ (upd H s.heap.objs.size (.tup [xs[i],ys[i]])) { s with heap:=h'',gens:=s.gens,drawn:=s.drawn,toks:=s.toks }:=by
   refine I.step (ch:=[z,TI,TO,i1,i2]) (λb hb=>⟨(hf b hb).2.2.2.1,(hf b hb).2.1,(hf b hb).2.2.2.2.1,(hf b hb).2.2.2.2.2⟩) (λb o _ _ hc' e _=>?_) (λb o _ _ hc' e _=>?_) (λb o _ e n=>?_) (λb o hc' e=>?_)
    (λb zs q=>by rw[ay (aD q hn)];exact q) (λb o zs q=>by rw[ay (aD q hn)];exact q) (λb ps q=>⟨#[],by rw[ay (aD q hn),q];simp⟩) (λm hm=>?_) hok I.bare
   .obtain ⟨n1,n2,n3,n4⟩:=xW b hc';exact wM b o n1 n2 n3 n4 e
   .obtain ⟨n1,n2,n3,n4⟩:=xW b hc';exact⟨o.slots,wM b o n1 n2 n3 n4 e⟩
   .rw [ay (d7 (bR e))];exact n
   .obtain ⟨n1,n2,n3,n4⟩:=xW b hc';exact⟨o,wM b o n1 n2 n3 n4 e⟩
   .obtain ⟨o,es,ep,ho,r⟩:=hm;have nl:∀c∈[z,TI,TO,i1,i2],X.env.locals≠c:=λc hc' q=>(hf c hc').2.1 q.symm;exact⟨o,es,ep,wM _ o (nl z (by simp)) (nl TO (by simp)) (nl i1 (by simp)) (nl i2 (by simp)) ho,r⟩
  refine⟨.ref s.heap.objs.size,_,I2,Z,⟨s.heap.objs.size,xs[i],ys[i],hn,Z,Z,bK lx,bK ly⟩,⟨b1,?_,⟨u,u2,?_⟩,?_,?_⟩,λb hb=>?_⟩
  .exact wM _ _ D.TIz D.TITO D.TIi1 D.TIi2 hTI
  .exact hs.extBut _ _ D.TOz a2
  .exact C1.keep _ _ _ a3 λo e=>hs.extBut _ _ D.i1z e
  .exact C2.keep _ _ _ a4 λo e=>hs.extBut _ _ D.i2z e
  .have hlt:b≠s.heap.objs.size:=by
    have hb':b=z\/b=TI\/b=TO\/b=i1\/b=i2:=by simpa using hb
    obtain⟨_,e1,_⟩:=C1.obj _ _ h1;obtain⟨_,e2,_⟩:=C2.obj _ _ h2;rcases hb' with rfl|rfl|rfl|rfl|rfl
    .exact d7 (bR hz)
    .exact d7 (bR hTI)
    .exact d7 (bR hTO)
    .exact d7 (bR e1)
    .exact d7 (bR e2)
   rw[ay hlt];exact(hf b hb).1
 done:=by
  intro X hP hw hK hc i pins s σ H E I hf st hg;subst hP hw hK;obtain⟨hz,hTI,⟨a,b,hTO⟩,h1,h2⟩:=st;obtain⟨g1,g2,hend⟩:=hg;have hT:s.TypeIs (.ref z) "zip":=⟨_,hz,Z⟩
  unfold pyNext;refine aA (wpAny_attempt (zQ (name:=Str.ofString "__next__") hT Jd (wm Jd hT F.entry_zip_next
   (UX (I.ok.hd hc) D C1 C2 hz hTI hTO h1 h2 (C1.Gz X rfl rfl rfl pins σ H s I g1) (C2.Gz X rfl rfl rfl pins σ H s I g2) hend λh' e hk he=>?_) (F.args_zip_next_1 _))))
  obtain⟨oe,Du,hce⟩:=he;refine aA (wpAny_isInstance (T:="StopIteration") (b:=true) ⟨oe,Du,hce⟩ isSubtype_stop (aU ⟨Z,?_⟩));have xW:∀c,c∉[z,TI,TO,i1,i2]->c≠z/\c≠TO/\c≠i1/\c≠i2:=λc hc=>⟨λq=>hc (by simp[q]),λq=>hc (by simp[q]),λq=>hc (by simp[q]),λq=>hc (by simp[q])⟩
  have nf:∀b u,H b=some u->b≠z/\b≠TO/\b≠i1/\b≠i2:=λb u e=>by
   have g:∀c∈[z,TI,TO,i1,i2],b≠c:=λc hc q=>by have:=(hf c hc).1;rw[<-q,e]at this;cases this
   exact⟨g z (by simp),g TO (by simp),g i1 (by simp),g i2 (by simp)⟩
  have I2:Inv X pins σ H { s with heap:=h',gens:=s.gens,drawn:=s.drawn,toks:=s.toks }:=by
   refine I.step (ch:=[z,TI,TO,i1,i2]) (λb hb=>⟨(hf b hb).2.2.2.1,(hf b hb).2.1,(hf b hb).2.2.2.2.1,(hf b hb).2.2.2.2.2⟩) (λb o _ _ hc' e _=>?_) (λb o _ _ hc' e _=>?_) (λb o _ e n=>n) (λb o hc' e=>?_)
    (λb zs q=>q) (λb o zs q=>q) (λb ps q=>⟨#[],by rw[q];simp⟩) (λm hm=>?_) (λb ob e=>?_) I.bare
   .obtain ⟨n1,n2,n3,n4⟩:=xW b hc';exact hk b o n1 n2 n3 n4 e
   .obtain ⟨n1,n2,n3,n4⟩:=xW b hc';exact⟨o.slots,hk b o n1 n2 n3 n4 e⟩
   .obtain ⟨n1,n2,n3,n4⟩:=xW b hc';exact⟨o,hk b o n1 n2 n3 n4 e⟩
   .obtain ⟨o,es,ep,ho,r⟩:=hm;have nl:∀c∈[z,TI,TO,i1,i2],X.env.locals≠c:=λc hc' q=>(hf c hc').2.1 q.symm;exact⟨o,es,ep,hk _ o (nl z (by simp)) (nl TO (by simp)) (nl i1 (by simp)) (nl i2 (by simp)) ho,r⟩
   .refine (I.hok b ob e).stay (λc v Se q=>?_) (λc q=>q) λc zs q=>q;rcases Se with r|r
    .obtain ⟨n1,n2,n3,n4⟩:=nf b ob e;rw[r];rw[r]at q;exact hk b v n1 n2 n3 n4 q
    .obtain ⟨n1,n2,n3,n4⟩:=nf c _ r;exact hk c v n1 n2 n3 n4 q
  exact I2
 self:=λ_ _ _ _ _ st h=>wpAny_pyIter_zip st.1 h
def J5(P:Program)(w:World)(u:Value)(o:Obj)(pre:Heap->Prop):Prop:=∀(A:Around)(E:VS)(s:Shared)(Q:VS),pre s.heap->Q (.ref s.heap.objs.size) { s with heap:=s.heap.push o }->wpAny (model P w) A (pyIter u) Q E s
theorem QF{w:World}{p1 p2:Heap->Prop}(s1:J5 P w u1 o1 p1)(s2:J5 P w u2 o2 p2):MeetsIn P w (Builtin.«zip.__new__» ⟨[.type "zip",u1,u2],[]⟩) (λ_ R s=>p1 s.heap/\p2 (s.heap.push o1)/\R (.ok (.ret (.ref ((((s.heap.push o1).push o2).push { cls:=.type "tuple",data:=.seq #[.ref s.heap.objs.size,.ref (s.heap.push o1).objs.size] }).push { cls:=.type "tuple",data:=.seq #[.none,.none] }).objs.size)))
     { s with heap:=((((s.heap.push o1).push o2).push { cls:=.type "tuple",data:=.seq #[.ref s.heap.objs.size,.ref (s.heap.push o1).objs.size] }).push { cls:=.type "tuple",data:=.seq #[.none,.none] }).push { cls:=.type "zip",data:=.fields #[.none,.bool false,.bool false,.ref ((s.heap.push o1).push o2).objs.size,.ref (((s.heap.push o1).push o2).push { cls:=.type "tuple",data:=.seq #[.ref s.heap.objs.size,.ref (s.heap.push o1).objs.size] }).objs.size] } }):=
 .of_wp λA R s h=>by
  obtain⟨hp,g,d,tk,os⟩:=s;obtain⟨q1,q2,h⟩:=h;have hsub:=sub_zip;have i1:=λ(A:Around)(E:VS)(Q:VS)=>s1 A E ⟨hp,g,d,tk,os⟩ Q q1;have i2:=λ(A:Around)(E:VS)(Q:VS)=>s2 A E ⟨hp.push o1,g,d,tk,os⟩ Q q2
  wp_walk using i1 _ _ _,i2 _ _ _
  exact⟨_,Z,h⟩
section
variable {prog:Program}{w:World}{A:Around}{E:VS}{s:Shared}{it t:Addr}{i:Nat}{items:Array Value}{Q:VS}
theorem MU{x:Value}(hit:s.heap.IsTupleIter it t i)(ht:s.heap.IsTuple t items)(hx:items[i]?=some x)(hQ:∀h',h'.IsTupleIter it t (i+1)->Heap.SameBut it s.heap h'->Q x { s with heap:=h' }):wpAny (model prog w) A (Builtin.SmallTypes.nextOf (.ref it)) Q E s:=by obtain⟨o,ho,hc,hd⟩:=id hit;obtain⟨ol,gc,_,nl,hdl⟩:=ht;unfold Builtin.SmallTypes.nextOf;refine aA (zQ (name:=Str.ofString "__next__") hit.typeIs Px (wm Px hit.typeIs F.entry_tuple_iterator_next ?_ (F.args_tuple_iterator_next_1 _)));show wpAny _ _ (field (.ref it) 0 >>= _) _ _ s;refine aA (n_ ho hd (x:=.ref t) rfl ?_);show wpAny _ _ (if(Value.ref t==Value.none)=true then _ else _) _ _ s;rw[aB (λz=>iH z:¬ ((Value.ref t==Value.none)=true))];show wpAny _ _ (field (.ref it) 1 >>= _) _ _ s;refine aA (n_ ho hd (x:=.int i 0) rfl ?_);show wpAny _ _ (seqItems? (.ref t) >>= _) _ _ s;refine aA (uB gc hdl ?_);simp only[uU,hx];refine aA (AX ho hd (by simp) (aU ⟨x,Z,aU (hQ _ ?_ (EC ..))⟩));refine⟨_,BN _ ho (Obj.isFreed_of_fields (EF hd _)),(Obj.cls_mapFields ..).trans hc,?_⟩;rw[EF hd];simp[rawInt]
theorem QG(hh:A.handled=none)(hit:s.heap.IsTupleIter it t i)(ht:s.heap.IsTuple t items)(hx:items[i]?=none)(hE:∀h' e,Heap.ExtBut it s.heap h'->(∃o,h'.get? e=some o/\o.cls =.type "StopIteration")->E (.ref e) { s with heap:=h' }):wpAny (model prog w) A (Builtin.SmallTypes.nextOf (.ref it)) Q E s:=by
 obtain⟨o,ho,hc,hd⟩:=id hit;obtain⟨ol,gc,_,nl,hdl⟩:=ht;unfold Builtin.SmallTypes.nextOf;refine aA (zQ (name:=Str.ofString "__next__") hit.typeIs Px (wm Px hit.typeIs F.entry_tuple_iterator_next ?_ (F.args_tuple_iterator_next_1 _)));show wpAny _ _ (field (.ref it) 0 >>= _) _ _ s;refine aA (n_ ho hd (x:=.ref t) rfl ?_);show wpAny _ _ (if(Value.ref t==Value.none)=true then _ else _) _ _ s;rw[aB (λz=>iH z:¬ ((Value.ref t==Value.none)=true))];show wpAny _ _ (field (.ref it) 1 >>= _) _ _ s;refine aA (n_ ho hd (x:=.int i 0) rfl ?_);show wpAny _ _ (seqItems? (.ref t) >>= _) _ _ s;refine aA (uB gc hdl ?_);simp only[uU,hx];refine aA (wpAny_rule (aA (AX ho hd (by simp) ?_)));show wpAny _ _ (newExc (.type "StopIteration") [] >>= _) _ _ _;refine aA ?_;simp only[newExc,newTuple];refine aA (xA ?_ (by size_fits));refine aA (m:=firstArgMember _ _) (wpAny_of_eq (a:=Value.none) (by first|rfl|(simp only[firstArgMember];rfl)) ?_);refine xA ?_ (by size_fits);simp only[raiseNew];refine aA (wpAny_handled ?_);first|rw[show A.in1.handled=none from hh]|rw[hh]
 refine aA (aU (wpAny_throw ?_));exact hE _ _ (((EC ..).extBut.push _).push _) ⟨_,eU _ rfl,Z⟩
end
theorem XU{w:World}{l:Addr}:Af P w K (λH=>dz K H l xs) xs it l (λi h=>h.IsTupleIter it l i) (λh=>∃its:List Value,Vals xs its/\h.IsTuple l its.toArray) where
 obj:=λi h ⟨o,e,c,d⟩=>⟨o,e,λv z=>by rw[d]at z;cases z⟩
 keep:=λi h h' st k=>st.at k
 wN:=λh h' ⟨its,r,o,e,q⟩ k=>⟨its,r,o,k o e,q⟩
 Gz:=λX hP hw hK pins σ H s I h=>by subst hP hw hK;obtain⟨its,rv,p,_⟩:=I.tuple h;exact⟨its,rv,p⟩
 item:=λA i x s Q E st ⟨its,r,hl⟩ hx hQ=>by obtain⟨u,hu,ru⟩:=r.get hx;exact MU st hl (by simpa using hu) λh' st' sb=>hQ u h' ru st' sb
 done:=λA i s Q E hh st ⟨its,r,hl⟩ hx hE=>QG hh st hl (by have:=r.length;simp;omega) hE
theorem UY:typeLookup (.type "dict") "__len__"=pure (some (.builtin "dict.__len__")):=by rw[typeLookup_type,builtinLookup_eq_fast];kernel_rfl
variable {R:Result->Shared->Prop}
section
variable {prog:Program}{w:World}{A:Around}{E:VS}{s:Shared}{K:Type}[DecidableEq K]{knd:KeyKind prog w K}
theorem Bq(hh:A.handled=none){kvs:List (K×Value)}(hd:(d==sysModules)=false)(hm:s.heap.DictAt knd d kvs ep)(S:Addr)(hSd:S≠d)(res:Value)(c₀:Nat)(hS:s.heap.get? S=some { cls:=.type "list",data:=.seq #[] c₀ })(hR:∀h' tk acc' c',(∀b o,b≠S->s.heap.get? b=some o->h'.get? b=some o)->h'.get? S=some { cls:=.type "list",dict:=none,data:=.seq acc' c',slots:=#[] }->
    ItemsOf (λi v=>∃k x,kvs[i]?=some (k,x)/\knd.is k v=true) acc' kvs.length->R (.ok (.ret res)) { s with heap:=h',toks:=tk })(hn:kvs.length<=sizeLine):
  wpAny (model prog w) A.in1 (Builtin.List.listExtendWith (.ref S) (.ref d) res)
   (λfin s'=>match fin with | .done f=>R (.ok f) s' | .again c'=>c'.quiet=true/\codeAny (model prog w) A c' R s') (λe s'=>R (.error e) s') s:=by
 have hSI:S≠s.heap.objs.size:=d7 (bR hS)
 have hT:s.TypeIs (.ref d) "dict":=hm.dictOf.typeIs
 unfold Builtin.List.listExtendWith
 refine aA (wpAny_typeOf (T:="dict") (v:=.ref d) hT ?_)
 have h1:Builtin.List.listSameRef (.ref S) (.ref d)=false:=by show(S==d)=false;simpa using hSd
 have h2:(Value.type "dict"==Value.type "list")=false:=by decide
 have h3:(Value.type "dict"==Value.type "tuple")=false:=by decide
 simp only[h1,h2,h3,Bool.or_false,EE,pP]
 refine aA (wpAny_pyIter_dict hd hm ?_)
 refine aA (wC ?_)
 unfold Builtin.List.listLengthHint
 have hT2:({ s with heap:=s.heap.push { cls:=.type "dict_keyiterator",data:=.fields #[.ref d,.int 0 0,.int kvs.length 0,.int ep 0] } }:Shared).TypeIs (.ref d) "dict":=(hm.push _).dictOf.typeIs
 refine aA (wpAny_specialOf (T:="dict") (v:=.ref d) hT2 UY ?_)
 wp_delta
 refine aA (wpAny_isInstance (T:="dict") (v:=.ref d) (b:=true) hT2 (by rw[isSubtype_type];kernel_rfl) ?_)
 show wpAny _ _ (typeOf (Value.ref d) >>= _) _ _ _
 refine aA (wpAny_typeOf (T:="dict") (v:=.ref d) hT2 ?_)
 refine aU ?_
 have hne:d≠s.heap.objs.size:=d7 hm.lt_size
 have hSf:S∉[s.heap.objs.size,d] :=λhm'=>by
  rcases b8.mp hm' with z|z
  .exact hSI z
  .exact hSd (eO.mp z)
 show wpAny _ A.in1 (rule "list.extend.makes-room" >>= λ_=>Builtin.List.listTouch (.ref S) >>= λ_=>
  again (.builtin "list.extend.loop" ⟨[.ref S,.ref s.heap.objs.size,res],[]⟩)) _ _ _
 refine aA (wpAny_rule ?_)
 refine aA ?_
 show wpAny _ A.in1 (updateSeq S (·.push .none) >>= λ_=>updateSeq S (·.pop)) _ _ _
 have hS₁:=cy { cls:=.type "dict_keyiterator",data:=.fields #[.ref d,.int 0 0,.int kvs.length 0,.int ep 0] } hS
 refine aA (wpAny_updateSeq hS₁ rfl ?_)
 have Wj:=BN (Obj.mapSeq (·.push Value.none)) hS₁ rfl
 refine wpAny_updateSeq (hz:=by seq_fits) Wj rfl ?_
 have hS₃:=BN (Obj.mapSeq (·.pop)) Wj rfl
 have Ow:∀b o,b≠S->(s.heap.push { cls:=.type "dict_keyiterator",data:=.fields #[.ref d,.int 0 0,.int kvs.length 0,.int ep 0] }).get? b=some o->(((s.heap.push { cls:=.type "dict_keyiterator",data:=.fields #[.ref d,.int 0 0,.int kvs.length 0,.int ep 0] }).update S (Obj.mapSeq (·.push Value.none))).update S (Obj.mapSeq (·.pop))).get? b=some o:=
  λb o hb e=>(Jr _ _ (bY hb)).trans ((Jr _ _ (bY hb)).trans e)
 refine aU ⟨plainId_quiet F.plain_extend_loop _,codeAny_extend_loopS (Walks.dictKeys (prog:=prog) (w:=w) (A:=A.in1) (knd:=knd) hh s.heap.objs.size d hne kvs ep).toS hn _ hSf _ kvs.length 0 _ _ _ rfl (fH _) ⟨⟨_,Ow _ _ (bY hSI) (eU _ rfl),Z,Z⟩,(hm.push _).at' λo e=>Ow d o (bY hSd) e⟩ hS₃ (ItemsOf.nil _) λs' acc' c' hm2 hS' hacc=>?_⟩
 rw[Moved.eq_with hm2]
 refine hR s'.heap s'.toks acc' c' (λb ob hb e=>hm2.heap b ob (λhmem=>?_) (Ow b ob hb (cy _ e))) hS' hacc
 rcases b8.mp hmem with e'|hmem
 . exact hb e'
 . exact absurd (bR e) (by rw[eO.mp hmem];exact i7 _)
theorem EM{Q:VS}(hh:A.handled=none){kvs:List (K×Value)}(hd:(d==sysModules)=false)(hm:s.heap.DictAt knd d kvs ep)(hn:kvs.length<=sizeLine)(hQ:∀h' tk acc' c',(∀b o,s.heap.get? b=some o->h'.get? b=some o)->
    h'.get? s.heap.objs.size=some { cls:=.type "list",dict:=none,data:=.seq acc' c',slots:=#[] }->ItemsOf (λi v=>∃k x,kvs[i]?=some (k,x)/\knd.is k v=true) acc' kvs.length->Q (.ref s.heap.objs.size) { s with heap:=h',toks:=tk }):
  wpAny (model prog w) A (call (.type "list") [.ref d]) Q E s:=by
 refine callType_codes (Q₁:=λobj s₁=>obj =.ref s.heap.objs.size/\s₁={ s with heap:=s.heap.push { cls:=.type "list",data:=.seq #[] } }) F.called_list (F.typeCall_list_1 _) F.entry_list_init
  (code_list_new _ ⟨Z,Z⟩) λobj s₁ h₁=>?_
 obtain⟨rfl,rfl⟩:=h₁
 have hS:(s.heap.push { cls:=.type "list",data:=.seq #[] }).get? s.heap.objs.size=some { cls:=.type "list",data:=.seq #[] }:=eU _ rfl
 have hne:s.heap.objs.size≠d:=wD hm.lt_size
 refine⟨⟨_,hS,Z⟩,F.args_list_init_2 _ _,?_⟩
 show wpAny _ _ (do let old <-Builtin.List.listItems (.ref s.heap.objs.size);Builtin.List.listUpdate (.ref s.heap.objs.size) (λ_=>#[]);letGo old.toList.reverse;Builtin.List.listExtendWith (.ref s.heap.objs.size) (.ref d) .none) _ _ _
 refine aA ?_
 unfold Builtin.List.listItems
 refine aA (uB hS rfl (aU ?_))
 show wpAny _ _ (updateSeq s.heap.objs.size (λ_=>#[]) >>= λ_=>letGo (#[] :Array Value).toList.reverse >>= λ_=>Builtin.List.listExtendWith (.ref s.heap.objs.size) (.ref d) .none) _ _ _
 refine aA (wpAny_updateSeq hS rfl ?_)
 have Wj:=BN (Obj.mapSeq (λ_=>(#[] :Array Value))) hS rfl
 have Ow:∀b o,b≠s.heap.objs.size->(s.heap.push { cls:=.type "list",data:=.seq #[] }).get? b=some o->((s.heap.push { cls:=.type "list",data:=.seq #[] }).update s.heap.objs.size (Obj.mapSeq (λ_=>(#[] :Array Value)))).get? b=some o:=
  λb o hb e=>(Jr _ _ (bY hb)).trans e
 refine aA (wpAny_letGo ?_)
 refine Bq (A:=A.in1) hh hd (hm.push _ |>.at' λo e=>Ow d o hne.symm e) s.heap.objs.size hne .none _ Wj (λh' tk acc' c' hk hS' hacc=>?_) hn
 exact⟨Z,hQ h' tk acc' c' (λb o e=>hk b o (d7 (bR e)) (Ow b o (d7 (bR e)) (cy _ e))) hS' hacc⟩
end
theorem GB{α β:Type}{F:α->β->Prop}:∀{l₁:List α}{l₂:List β},l₁.length=l₂.length->(∀(i:Nat)(x:α)(y:β),l₁[i]?=some x->l₂[i]?=some y->F x y)->Paired F l₁ l₂
 | [],[],_,_=> .nil
 | x::xs,y::ys,h,f=> .cons (f 0 x y rfl rfl) (GB (by simpa using h) λi a b ha hb=>f (i+1) a b (by simpa using ha) (by simpa using hb))
def lY(v d:Addr):HO:=.ext λh=>h.IsValuesView v d
section
variable {X:Cx}
inductive Z1(Q:VK)(x:V)(H1:Hp):Prop
 |mk(d kvs:_)(_:x =.ref d)(_:Rd H1 d (.dK kvs))(_:∀v,H1 v=none->Q (.ref v) (upd H1 v (lY v d)))
def acY(td:TE):TE:=λσ H Q=>td σ H (Z1 Q)
inductive Wk(K:Fg)(H:Hp):V->(Hp->Prop)->List V->Prop
 | lst {l:Addr} {xs:List V}:aI K H l xs->Wk K H (.ref l) (λH=>aI K H l xs) xs
 | tup {l:Addr} {xs:List V}:dz K H l xs->Wk K H (.ref l) (λH=>dz K H l xs) xs
 | keys {d:Addr} {o:Obj} {kvs:List (Key×V)}:pA H d o kvs->Wk K H (.ref d) (λH=>pA H d o kvs) (kvs.map λp=>kV p.1)
 | vals {v d:Addr} {o:Obj} {kvs:List (Key×V)}:H v=some (lY v d)->pA H d o kvs->Wk K H (.ref v) (λH=>pA H d o kvs) (kvs.map λp=>p.2)
theorem Wk.ok{u:V}{S:Hp->Prop}(k:Wk X.K H u S xs)(I:Inv X pins σ H s)(r:RelV u uv):S H/\∃(l:Addr)(o:Obj)(p:Heap->Prop),l<s.heap.objs.size/\p s.heap/\(∀h (ob:Obj),p h->p (h.push ob))/\(∀h:Heap,(h.push o).get? h.objs.size=some o)/\J5 X.prog X.w uv o p/\∀it:Addr,∃tn src,Af X.prog X.w X.K S xs it l tn src/\∀h:Heap,h.get? it=some o->tn 0 h:=by
 cases k with
 | @lst l xs hS=>cases r;obtain⟨its,rv,p,_⟩:=I.list hS;obtain⟨ol,gc,_⟩:=id p.isList;refine⟨hS,l,_,λh=>h.IsList l its.toArray,bR gc,p.isList,λh ob q=>q.push ob,λh=>eU _ rfl,λA E s Q q h=>P_ q h,λit=>⟨_,_,UT,λh e=>⟨_,e,Z,Z⟩⟩⟩
 | @tup l xs hS=>cases r;obtain⟨its,rv,p,_⟩:=I.tuple hS;obtain⟨ol,gc,q0⟩:=id p;refine⟨hS,l,_,λh=>h.IsTuple l its.toArray,bR gc,p,λh ob ⟨o1,a,b⟩=>⟨o1,cy _ a,b⟩,λh=>eU _ rfl,λA E s Q q h=>wpAny_pyIter_tuple q h,λit=>⟨_,_,XU,λh e=>⟨_,e,Z,Z⟩⟩⟩
 | @keys d o kvs hz=>cases r;obtain⟨ho,hl,hsys,vs,ep,rel,da⟩:=I.rX hz;obtain⟨o',es,h1,_,h2,_⟩:=id da;rw[ho]at h1;cases h1;have el:kvs.length=vs.length:=rel.length;refine⟨hz,d,_,λh=>h.DictAt (dj X.prog X.w) d vs ep,bR ho,da,λh ob q=>q.push ob,λh=>eU _ rfl,λA E s Q q h=>wpAny_pyIter_dict hsys q h,λit=>⟨_,_,UU h2,λh e=>?_⟩⟩;rw[el];exact⟨_,e,Z,Z⟩
 | @vals v d o kvs hv hz=>
  cases r;obtain⟨ho,hl,hsys,vs,ep,rel,da⟩:=I.rX hz;obtain⟨o',es,h1,_,h2,_⟩:=id da;rw[ho]at h1;cases h1;have el:kvs.length=vs.length:=rel.length;obtain⟨hv',_⟩:=(show fJ X.prog X.w H s.heap v (lY v d)from I.hok v _ hv)
  refine⟨hz,d,_,λh=>h.IsValuesView v d/\h.DictAt (dj X.prog X.w) d vs ep,bR ho,⟨hv',da⟩,λh ob ⟨⟨o1,a,b⟩,q⟩=>⟨⟨o1,cy _ a,b⟩,q.push ob⟩,λh=>eU _ rfl,λA E s Q q h=>wpAny_pyIter_values q.1 q.2 h,λit=>⟨_,_,UW h2,λh e=>?_⟩⟩;rw[el];exact⟨_,e,Z,Z⟩
variable {elts:List Expr}{kk:Nat}{tpos:Pos}
inductive Z2(K:Fg)(R:It->Hp->Prop)(vs:List V)(H1:Hp):Prop
 |mk(u1 u2 S1 S2 xs ys:_)(_:vs=[u1,u2])(_:Wk K H1 u1 S1 xs)(_:Wk K H1 u2 S2 ys)(_:R (Z0 S1 S2 xs ys:_) H1)
def acZ(K:Fg)(ta:TA):TI:=λσ H R=>ta σ H (Z2 K R)
theorem GD(hc:X.calm=true):i9 X (.builtin "sum") (λxs H Q=>∃(v d:Addr)(kvs:List (Key×V))(ns:List Int),xs=[.ref v]/\H v=some (lY v d)/\Rd H d (.dK kvs)/\kvs.map (·.2)=ns.map V.int/\Q (.int ns.sum) H):=by
 intro pins s σ H xs us Q I r h;obtain⟨v,d,kvs,ns,rfl,hv,hz,en,q⟩:=h;obtain⟨u,rfl,ru⟩:=vals1 r;cases ru;obtain⟨_,hsys,vs,rel,dd⟩:=rW I.hok hz;obtain⟨ep,da⟩:=dd.dictAt;obtain⟨hv',_⟩:=(show fJ X.prog X.w H s.heap v (lY v d)from I.hok v _ hv)
 have hl:kvs.length=vs.length:=rel.length;have hlt:=da.lt_size;have hne:d≠s.heap.objs.size:=d7 hlt;have W:=(Walks.dictValues (prog:=X.prog) (w:=X.w) (A:=X.A.in1) (knd:=dj X.prog X.w) (I.ok.hd hc) s.heap.objs.size d hne vs ep).toS;have Dk:kvs.length=ns.length:=by have:=eV List.length en;simpa using this
 refine call_sum_walkAnyS (wpAny_pyIter_values hv' da ?_);refine⟨s.heap.objs.size,_,_,_,_,_,_,λi=>ns.getD i 0,Z,W,⟨⟨_,eU _ rfl,Z,Z⟩,da.push _⟩,λb hb=>?_,λi x hP=>?_,λs' t' hm=>?_⟩
 .rcases b8.mp hb with rfl|hb
  .exact bR (eU _ rfl)
  .obtain rfl:=eO.mp hb;exact(da.push _).lt_size
 .obtain ⟨k,hk⟩:=hP;have hil:i<ns.length:=by have:=(ee.mp hk).1;omega
  have hik:i<kvs.length:=by omega
  obtain⟨q',hq',_,rq⟩:=ya rel (bK hik);rw[hk]at hq';cases hq';have e1:kvs[i].2=V.int (ns.getD i 0):=by have:=eV (λl=>l[i]?) en;simp only[cK,bK hik,bK hil]at this;rw[kK,bK hil];exact fm this
  rw[e1]at rq;exact rq
 .obtain ⟨h',g',d',tk',os'⟩:=s';have e1:g'=s.gens:=hm.gens;have e2:d'=s.drawn:=hm.drawn;have e3:os'=s.os:=hm.os;subst e1 e2 e3;have hsz:vs.length=ns.length:=by omega
  rw[hsz,preSum_getD,List.take_of_length_le (aO _)];exact⟨.int ns.sum,H,I.kept (h':=h') (t':=tk') λb o e=>hm.heap b o (λhb=>absurd (bR e) ((eO.mp hb)▸i7 _)) (cy _ e),⟨t',Z⟩,q⟩
theorem QH(hc:X.calm=true):i9 X (.type "list") (λxs H Q=>∃(d:Addr)(kvs:List (Key×V)),xs=[.ref d]/\Rd H d (.dK kvs)/\∀l,H l=none->Q (.ref l) (upd H l (.lst (kvs.map λp=>kV p.1)))):=by
 intro pins s σ H xs us Q I r h;obtain⟨d,kvs,rfl,hz,q⟩:=h;obtain⟨u,rfl,ru⟩:=vals1 r;cases ru;obtain⟨hsz,hsys,vs,rel,dd⟩:=rW I.hok hz;obtain⟨ep,da⟩:=dd.dictAt;have hl:kvs.length=vs.length:=rel.length;refine EM (I.ok.hd hc) hsys da (by omega) λh' tk acc' c' kp e it=>?_;refine⟨.ref s.heap.objs.size,_,I.laid (t':=tk) kp (aO _) (show fJ X.prog X.w _ h' _ (.lst (kvs.map λp=>kV p.1))from⟨by rw[aG];exact hsz,acc'.toList,c',?_,by rw[e]⟩),Z,q _ I.fresh⟩;obtain⟨sz,hit⟩:=it;have hA:acc'.toList.length=acc'.size:=by simp
 have hB:(kvs.map λp=>kV p.1).length=acc'.toList.length:=by rw[aG];omega
 refine GB hB λi x y hx hy=>?_;rw[cK]at hx;obtain⟨p,hp,rfl⟩:=nI.mp hx;obtain⟨k,v,hk,hkk⟩:=hit i y (by simpa using hy);obtain⟨q',hq',ek,_⟩:=ya rel hp;rw[hk]at hq';cases hq';rw[ek];exact J4 hkk
end
def dD:St->List Nat->List V->St
 | σ,k::ks,v::vs=>dD (σ.set k (some v)) ks vs
 | σ,_,_=>σ
theorem Dv{k:Nat}{v:Option V}:∀{ks:List Nat}{vs:List V}{σ:St},k∉ks->(dD σ ks vs).set k v=dD (σ.set k v) ks vs
 | [],_,_,_=>by unfold dD;rfl
 | _::_,[],_,_=>by unfold dD;rfl
 | j::ks,w::vs,σ,h=>by have hj:k≠j:=λe=>h (by rw[e];exact cN);show(dD (σ.set j (some w)) ks vs).set k v=dD ((σ.set k v).set j (some w)) ks vs;rw[Dv (λm=>h (b7 _ m)),List.set_comm _ _ hj]
theorem pV:∀{ks:List Nat}{vs ws:List V}{σ:St},ks.Nodup->vs.length=ks.length->ws.length=ks.length->dD (dD σ ks vs) ks ws=dD σ ks ws
 | [],[],[],_,_,_,_=>rfl
 | k::ks,v::vs,w::ws,σ,nd,h1,h2=>by have nk:=(fU.mp nd).1;show dD ((dD (σ.set k (some v)) ks vs).set k (some w)) ks ws=dD (σ.set k (some w)) ks ws;rw[Dv nk,wF,pV (fU.mp nd).2 (by simpa using h1) (by simpa using h2)]
def Si:List Nat->CY
 | []=>Y3
 | k::ks=>V4 (uG k) (Si ks)
theorem Dw{Q:St->Hp->Prop}{H:Hp}:∀{ks:List Nat}{vs:List V}{σ:St},vs.length=ks.length->Q (dD σ ks vs) H->Si ks vs σ H Q
 | [],[],_,_,q=>⟨Z,q⟩
 | k::ks,v::vs,σ,h,q=>⟨v,vs,Z,Dw (by simpa using h) q⟩
theorem yb(ks:List Nat){Q:VK}(Pv:Nat->List V->Hp->Prop)(nd:ks.Nodup)(hn:n<=100000)(h0:Pv 0 [] (upd H acc (.lst [])))(hgo:∀i out H1,i<n->H1 acc=some (.lst out)->Pv i out H1->J.go i H1)(hst:∀out H1,H1 acc=some (.lst out)->Pv n out H1->J.stop n H1)(hs:∀(i:Nat) (x:V) (out:List V) (H1 H2:Hp),i<n->out.length=i->H1 acc=some (.lst out)->Pv i out H1->J.zX i H1 x H2->
    ∃t vs,x =.ref t/\dz K H2 t vs/\vs.length=ks.length/\te (dD σ2 ks vs) H2 (yG Pv i acc out))(hd:∀(out:List V) (H1:Hp),out.length=n->H1 acc=some (.lst out)->Pv n out H1->Q (.ref acc) H1):
  Di J (zV K ks.length (Si ks)) te acc σ2 H Q:=by
 refine⟨λi m σ' H'=>m=n-i/\i<=n/\(∀ws,ws.length=ks.length->dD σ' ks ws=dD σ2 ks ws)/\∃out,out.length=i/\H' acc=some (.lst out)/\Pv i out H',⟨n,by simp,fH _,λ_ _=>rfl,[],Z,ai,h0⟩,?_⟩
 rintro i m σ' H' ⟨rfl,hi,hσ,out,ho,ha,p⟩
 by_cases hlt:i<n
 . refine .inr ⟨hgo i out H' hlt ha p,λσ3=>∀ws,ws.length=ks.length->dD σ3 ks ws=dD σ2 ks ws,(yG Pv i acc out),λσ3 v H4 hS ⟨a,b⟩=>?_,λx H1 y=>?_⟩
   . refine⟨out,a,?_,n-(i+1),by omega,Z,hlt,hS,out++[v],by rw[c7,ho];rfl,ai,b⟩
     have:sizeLine=16777216:=j8
     omega
   . obtain⟨t,vs,rfl,sq,hl,q⟩:=hs i x out H' H1 hlt ho ha p y
     refine⟨t,vs,Z,sq,hl,Dw hl ⟨λws hw=>?_,?_⟩⟩
     . rw[pV nd hl hw];exact hσ ws hw
     . rw[hσ vs hl];exact q
 . have e:i=n:=by omega
   subst e
   exact .inl ⟨hst out H' ha p,hd out H' ho ha p⟩
theorem XW(ks:List Nat){Q:VK}(Pv:Nat->List V->Hp->Prop)(nd:ks.Nodup)(hn:n<=100000)(h0:Pv 0 [] (upd H acc (.lst [])))(hgo:∀i out H1,i<n->H1 acc=some (.lst out)->Pv i out H1->J.go i H1)(hst:∀out H1,H1 acc=some (.lst out)->Pv n out H1->J.stop n H1)(hs:∀(i:Nat) (x:V) (out:List V) (H1 H2:Hp),i<n->out.length<=i->H1 acc=some (.lst out)->Pv i out H1->J.zX i H1 x H2->
    ∃t vs,x =.ref t/\dz K H2 t vs/\vs.length=ks.length/\tc (dD σ2 ks vs) H2 (Wc te (dD σ2 ks vs) Pv i acc out))(hd:∀(out:List V) (H1:Hp),out.length<=n->H1 acc=some (.lst out)->Pv n out H1->Q (.ref acc) H1):
  Ds J (zV K ks.length (Si ks)) tc te acc σ2 H Q:=by
 refine⟨λi m σ' H'=>m=n-i/\i<=n/\(∀ws,ws.length=ks.length->dD σ' ks ws=dD σ2 ks ws)/\∃out,out.length<=i/\H' acc=some (.lst out)/\Pv i out H',⟨n,by simp,fH _,λ_ _=>rfl,[],aO _,ai,h0⟩,?_⟩
 rintro i m σ' H' ⟨rfl,hi,hσ,out,ho,ha,p⟩
 by_cases hlt:i<n
 . refine .inr ⟨hgo i out H' hlt ha p,λσ3=>∀ws,ws.length=ks.length->dD σ3 ks ws=dD σ2 ks ws,(yG Pv i acc out),λH3=>H3 acc=some (.lst out)/\Pv (i+1) out H3,λσ3 v H4 hS ⟨a,b⟩=>?_,λσ3 H4 hS ⟨a,b⟩=>?_,λx H1 y=>?_⟩
   . refine⟨out,a,?_,n-(i+1),by omega,Z,hlt,hS,out++[v],by rw[c7];exact Nat.succ_le_succ ho,ai,b⟩
     have:sizeLine=16777216:=j8
     omega
   . exact⟨n-(i+1),by omega,Z,hlt,hS,out,by omega,a,b⟩
   . obtain⟨t,vs,rfl,sq,hl,q⟩:=hs i x out H' H1 hlt ho ha p y
     refine⟨t,vs,Z,sq,hl,Dw hl ⟨λws hw=>?_,?_⟩⟩
     . rw[pV nd hl hw];exact hσ ws hw
     . rw[hσ vs hl];exact q
 . have e:i=n:=by omega
   subst e
   exact .inl ⟨hst out H' ha p,hd out H' ho ha p⟩
theorem lg(k:Nat){Q:VK}(Pv:Nat->List V->Hp->Prop)(hn:n<=100000)(h0:Pv 0 [] (upd H acc (.lst [])))(hgo:∀i out H1,i<n->H1 acc=some (.lst out)->Pv i out H1->J.go i H1)(hst:∀out H1,H1 acc=some (.lst out)->Pv n out H1->J.stop n H1)(hs:∀(i:Nat) (x:V) (out:List V) (H1 H2:Hp),i<n->out.length=i->H1 acc=some (.lst out)->Pv i out H1->J.zX i H1 x H2->
    te (σ2.set k (some x)) H2 (yG Pv i acc out))(hd:∀(out:List V) (H1:Hp),out.length=n->H1 acc=some (.lst out)->Pv n out H1->Q (.ref acc) H1):
  Di J (uG k) te acc σ2 H Q:=by
 refine⟨λi m σ' H'=>m=n-i/\i<=n/\(∀w:Option V,σ'.set k w=σ2.set k w)/\∃out,out.length=i/\H' acc=some (.lst out)/\Pv i out H',⟨n,by simp,fH _,λ_=>rfl,[],Z,ai,h0⟩,?_⟩
 rintro i m σ' H' ⟨rfl,hi,hσ,out,ho,ha,p⟩
 by_cases hlt:i<n
 . refine .inr ⟨hgo i out H' hlt ha p,λσ3=>∀w:Option V,σ3.set k w=σ2.set k w,(yG Pv i acc out),λσ3 v H4 hS ⟨a,b⟩=>?_,λx H1 y=>?_⟩
   . refine⟨out,a,?_,n-(i+1),by omega,Z,hlt,hS,out++[v],by rw[c7,ho];rfl,ai,b⟩
     have:sizeLine=16777216:=j8
     omega
   . refine⟨λw=>by rw[wF];exact hσ w,?_⟩
     rw[hσ]
     exact hs i x out H' H1 hlt ho ha p y
 . have e:i=n:=by omega
   subst e
   exact .inl ⟨hst out H' ha p,hd out H' ho ha p⟩
theorem XX(k:Nat){Q:VK}(Pv:Nat->List V->Hp->Prop)(hn:n<=100000)(h0:Pv 0 [] (upd H acc (.lst [])))(hgo:∀i out H1,i<n->H1 acc=some (.lst out)->Pv i out H1->J.go i H1)(hst:∀out H1,H1 acc=some (.lst out)->Pv n out H1->J.stop n H1)(hs:∀(i:Nat) (x:V) (out:List V) (H1 H2:Hp),i<n->out.length<=i->H1 acc=some (.lst out)->Pv i out H1->J.zX i H1 x H2->
    tc (σ2.set k (some x)) H2 (Wc te (σ2.set k (some x)) Pv i acc out))(hd:∀(out:List V) (H1:Hp),out.length<=n->H1 acc=some (.lst out)->Pv n out H1->Q (.ref acc) H1):
  Ds J (uG k) tc te acc σ2 H Q:=by
 refine⟨λi m σ' H'=>m=n-i/\i<=n/\(∀w:Option V,σ'.set k w=σ2.set k w)/\∃out,out.length<=i/\H' acc=some (.lst out)/\Pv i out H',⟨n,by simp,fH _,λ_=>rfl,[],aO _,ai,h0⟩,?_⟩
 rintro i m σ' H' ⟨rfl,hi,hσ,out,ho,ha,p⟩
 by_cases hlt:i<n
 . refine .inr ⟨hgo i out H' hlt ha p,λσ3=>∀w:Option V,σ3.set k w=σ2.set k w,(yG Pv i acc out),λH3=>H3 acc=some (.lst out)/\Pv (i+1) out H3,λσ3 v H4 hS ⟨a,b⟩=>?_,λσ3 H4 hS ⟨a,b⟩=>?_,λx H1 y=>?_⟩
   . refine⟨out,a,?_,n-(i+1),by omega,Z,hlt,hS,out++[v],by rw[c7];exact Nat.succ_le_succ ho,ai,b⟩
     have:sizeLine=16777216:=j8
     omega
   . exact⟨n-(i+1),by omega,Z,hlt,hS,out,by omega,a,b⟩
   . refine⟨λw=>by rw[wF];exact hσ w,?_⟩
     rw[hσ]
     exact hs i x out H' H1 hlt ho ha p y
 . have e:i=n:=by omega
   subst e
   exact .inl ⟨hst out H' ha p,hd out H' ho ha p⟩
structure Mn(P:Program)(w:World)(K:Fg)(mg:SO)(base:Heap)(k:Nat)(C:Addr)(m:Str)(ps:List Str)(sp:Sp):Prop where
 ex:∃f fd,kh P w K mg base u7 k f fd ps sp/\Binds K fd ps []/\Meth K C m f/\qM K C
structure Cn(P:Program)(w:World)(K:Fg)(mg:SO)(base:Heap)(k:Nat)(x:Str)(C:Addr)(ps:List Str)(sp:Sp):Prop where
 ex:∃f fd,kh P w K mg base u7 k f fd ps sp/\Binds K fd ps []/\Mk K C f/\mg x=some (.ref C)
section
variable {X:Cx}
inductive ac0(x:V)(y:V)(H:Hp)(Q:VK):Prop
 |mk(i j:_)(_:x =.int i)(_:y =.int j)(_:Qw i j)(_:Q (.int (i*j)) H)
theorem XY:JJ X .Mult ac0:=by
 rintro pins s σ H x y u v Q I rx ry ⟨i,j,rfl,rfl,⟨m,n,h1,h2,h3⟩,q⟩;obtain⟨t,rfl⟩:=(show ∃t,u=Value.int i t from rx)
 obtain⟨t',rfl⟩:=(show ∃t',v=Value.int j t' from ry)
 exact PyProof.Rows.imul_int ⟨.int (i*j),H,I.tok _,⟨_,Z⟩,q⟩ (IntMulOk.of_le (PO.mpr h1) (PO.mpr h2) h3)
end
structure iK(K:Fg)(C:Addr)(m qual:Str)(st:Stmt)(f:Addr)(fd:FuncData):Prop where
 fn:Gv K m qual st f fd
 me:Meth K C m f
 cl:qM K C
variable {mg:SO}{base:Heap}{C f:Addr}{qual:Str}{fd:FuncData}{N ps:List Str}{sp:Sp}
theorem iK.ok{w:World}{m:Str}{st:Stmt}{k:Nat}(F:iK K C m qual st f fd)(S:aS N ps (aF st))(len:∀vs H Q E,sp vs H Q E->vs.length=ps.length)(hbody:∀(cdv:Value) (A:Around) (outer:List Env) (s:Shared) (H:Hp) (vs:List V) (Q:VK) (E:XK),fj k (A.deeper (envOfC qual (aF st) s.heap.objs.size f cdv))->sp vs H Q E->
    ∃t,wJ (tN u7 P w K mg base N qual (aF st) f cdv A outer s H E).Bv (dR st) t/\t { nx:=λ_ H'=>Q .cT H',rt:=Q } (start N vs) H)(h:∀(kV doc pm:Value) (an:Option Addr) (cdv ct:Value) (us:List Value),us.length=ps.length->bindArgs (PySem.W.fnOf m qual (fY st) (dR st) (aF st) .none kV doc pm an cdv ct) ⟨us,[]⟩=pure (ps.zip us)):
  Mn P w K mg base (k+1) C m ps sp:=⟨f,fd,F.fn.ok S len hbody,F.fn.binds h,F.me,F.cl⟩
structure GF(K:Fg)(mg:SO)(x:Str)(C:Addr)(qual:Str)(st:Stmt)(f:Addr)(fd:FuncData):Prop where
 fn:Gv K "__init__" qual st f fd
 mks:Mk K C f
 name:mg x=some (.ref C)
theorem GF.ok{w:World}{st:Stmt}{k:Nat}(F:GF K mg x C qual st f fd)(S:aS N ps (aF st))(len:∀vs H Q E,sp vs H Q E->vs.length=ps.length)(hbody:∀(cdv:Value) (A:Around) (outer:List Env) (s:Shared) (H:Hp) (vs:List V) (Q:VK) (E:XK),fj k (A.deeper (envOfC qual (aF st) s.heap.objs.size f cdv))->sp vs H Q E->
    ∃t,wJ (tN u7 P w K mg base N qual (aF st) f cdv A outer s H E).Bv (dR st) t/\t { nx:=λ_ H'=>Q .cT H',rt:=Q } (start N vs) H)(h:∀(kV doc pm:Value) (an:Option Addr) (cdv ct:Value) (us:List Value),us.length=ps.length->bindArgs (PySem.W.fnOf "__init__" qual (fY st) (dR st) (aF st) .none kV doc pm an cdv ct) ⟨us,[]⟩=pure (ps.zip us)):
  Cn P w K mg base (k+1) x C ps sp:=⟨f,fd,F.fn.ok S len hbody,F.fn.binds h,F.mks,F.name⟩
abbrev qN:=Nat×Nat×Str
abbrev cu:=Addr->Option qN
abbrev col(n t:Nat):Option qN:=some (n,t,(⟨#[]⟩:Str))
def isTup:HO->Bool
 | .tup _=>true
 | _=>false
def Gh(ρ:cu)(H:Hp):Prop:=∀b c,ρ b=some c->∃o,H b=some o/\isTup o=false
def Fr(n:Nat)(ρ:cu)(H:Hp)(ρ':cu)(H':Hp):Prop:=∀b o,H b=some o->(∀t x,ρ b≠some (n,t,x))->H' b=some o/\ρ' b=ρ b
def cY(ρ:cu)(a:Addr)(c:qN):cu:=λb=>if b=a then some c else ρ b
variable {ρ:cu}
theorem cE{c:qN}:cY ρ a c a=some c:=aC rfl
variable {b:Addr}
theorem bB{c:qN}(h:b≠a):cY ρ a c b=ρ b:=aB h
def out(ρ:cu)(H:Hp):Hp:=λb=>if ρ b=none then H b else none
variable {o:HO}
theorem lu(h:H b=some o)(c:ρ b=none):out ρ H b=some o:=by unfold out;rw[aC c];exact h
theorem iV(h:out ρ H b=some o):H b=some o/\ρ b=none:=by
 unfold out at h;split at h
 .next c=>exact⟨h,c⟩
 .cases h
theorem Gh.none(g:Gh ρ H)(h:H b=Option.none):ρ b=Option.none:=by
 cases e:ρ b with
 | none=>rfl
 | some c=>obtain⟨o,q,_⟩:=g b c e;rw[h]at q;cases q
theorem Gh.tup{ρ:cu}{H:Hp}(g:Gh ρ H){b:Addr}{xs:List V}(h:H b=some (.tup xs)):ρ b=Option.none:=by
 cases e:ρ b with
 | none=>rfl
 | some c=>obtain⟨o,q,t⟩:=g b c e;rw[h]at q;cases q;cases t
theorem Gh.same(g:Gh ρ H)(s:aR H H'):Gh ρ H':=λb c e=>let⟨o,h,t⟩:=g b c e;⟨o,s b o h,t⟩
theorem Gh.wr(g:Gh ρ H)(t:isTup o=false):Gh ρ (upd H a o):=λb c e=>by
 by_cases h:b=a
 .rw [h,ai];exact⟨o,Z,t⟩
 .rw [ay h];exact g b c e
theorem Gh.alloc(g:Gh ρ H)(h:H a=Option.none):Gh ρ (upd H a o):=g.same (aH h o)
theorem Gh.color(g:Gh ρ H){c:qN}(h:H a=some o)(t:isTup o=false):Gh (cY ρ a c) H:=λb d e=>by
 by_cases z:b=a
 .rw [z];exact⟨o,h,t⟩
 .rw [bB z]at e;exact g b d e
theorem Fr.refl:Fr n ρ H ρ H:=λ_ _ h _=>⟨h,Z⟩
variable {ρ1:cu}{H1 H2:Hp}
theorem Fr.trans{ρ2:cu}(a:Fr n ρ H ρ1 H1)(b:Fr n ρ1 H1 ρ2 H2):Fr n ρ H ρ2 H2:=λc o h k=>by obtain⟨h1,e1⟩:=a c o h k;obtain⟨h2,e2⟩:=b c o h1 (by rw[e1];exact k);exact⟨h2,e2.trans e1⟩
theorem Fr.of_same(s:aR H H'):Fr n ρ H ρ H':=λb o h _=>⟨s b o h,Z⟩
theorem Fr.write(c:ρ a=some (n,t,x)):Fr n ρ H ρ (upd H a o):=λb u h k=>by have:b≠a:=λe=>k t x (by rw[e];exact c);rw[ay this];exact⟨h,Z⟩
theorem Fr.color{c:qN}(h:H a=none)(s:aR H H'):Fr n ρ H (cY ρ a c) H':=λb u e k=>by rw[bB (aD e h)];exact⟨s b u e,Z⟩
variable {ρ':cu}
theorem Fr.out(f:Fr n ρ H ρ' H'):aR (out ρ H) (out ρ' H'):=λb o h=>by obtain⟨h1,c⟩:=iV h;obtain⟨h2,e⟩:=f b o h1 (λt x=>by rw[c];intro z;cases z);exact lu h2 (e.trans c)
theorem UZ(s:aR H H'):aR (out ρ H) (out ρ H'):=λb o h=>by obtain⟨h1,c⟩:=iV h;exact lu (s b o h1) c
structure Pt where
 nm:Str
 ow:Str
 wo:Int
 we:Int
 sc:Int
 row:List Int
structure kL where
 nm:Str
 ow:Str
 wo:Int
 sh:List (Str×Rat)
structure HS where
 own:List Str
 aj:List Pt
 bO:List kL
 nms:List Str
 stp:List Int
 prod:Int
 kn:Nat
 bD:List Int
 bH:List Int
structure HA where
 a:Addr
 dx:Addr
 pl:Addr
 ab:Addr
 as:Addr
 nm:Addr
 bt:Addr
 db:Addr
 cm:Addr
 pu:Addr
 sp:Addr
 kn:Addr
 qs:List (Addr×Addr×Addr)
structure TC where
 hold:Addr
 part:Addr
 bot:Addr
def fP:Nat->List Str->List (Key×V)
 | _,[]=>[]
 | i,o::r=>(Sum.inr o,.int i)::fP (i+1) r
def b_(ps:List Pt)(qs:List (Addr×Addr×Addr)):List (Key×V):=List.zipWith (λp q=>((Sum.inr p.nm:Key),V.ref q.1)) ps qs
def yc(l:List Str):List (Key×V):=l.map λx=>(Sum.inr x,.bl true)
def dU(A:HA):List (Str×V):=[("places",.ref A.pl),("aboard",.ref A.ab),("ashore",.ref A.as),("names",.ref A.nm),("bottom",.ref A.bt),("common",.ref A.cm),("purses",.ref A.pu)]
def cZ(p:Pt)(r:Addr):List (Str×V):=[("name",.str p.nm),("owner",.str p.ow),("worth",.int p.wo),("weight",.int p.we),("scale",.int p.sc),("row",.ref r)]
def jY(sp:Addr)(prod:Int)(kn:Addr):List (Str×V):=[("steps",.ref sp),("product",.int prod),("known",.ref kn)]
def J6(H:Hp)(kvs:List (Key×V))(prod:Int):Prop:=∀p∈kvs,∃(t:Int)(r:Addr),p=(Sum.inl t,V.ref r)/\H r=some (tO (Jm.fr t prod))
inductive jm(H:Hp):List V->List (Str×Rat)->Prop
 | nil:jm H [] []
 | cons {r f:Addr} {x:Str} {q:Rat} {vs:List V} {l:List (Str×Rat)}:H r=some (.tup [.str x,.ref f])->H f=some (tO q)->jm H vs l->jm H (.ref r::vs) ((x,q)::l)
inductive j_(n:Nat)(ρ:cu)(H:Hp):List V->List kL->Prop
 | nil:j_ n ρ H [] []
 | cons {r l:Addr} {x:kL} {ss:List V} {vs:List V} {as:List kL}:H r=some (.tup [.str x.nm,.str x.ow,.int x.wo,.ref l])->H l=some (.lst ss)->ρ l=some (n,30,⟨#[]⟩)->jm H ss x.sh->j_ n ρ H vs as->j_ n ρ H (.ref r::vs) (x::as)
structure aL(T:TC)(n:Nat)(ρ:cu)(A:HA)(H:Hp)(st:HS):Prop where
 oa:H A.a=some (.ins T.hold A.dx (dU A))
 ca:ρ A.a=col n 0
 gY:H A.pl=some (.dK (fP 0 st.own))
 gE:ρ A.pl=col n 1
 dF:H A.ab=some (.dK (b_ st.aj A.qs))
 fC:ρ A.ab=col n 2
 nt:∃vs,H A.as=some (.lst vs)/\j_ n ρ H vs st.bO
 gI:ρ A.as=col n 3
 nu:H A.nm=some (.dK (yc st.nms))
 gJ:ρ A.nm=col n 4
 jb:H A.bt=some (.ins T.bot A.db (jY A.sp st.prod A.kn))
 gK:ρ A.bt=col n 5
 iL:H A.cm=some (.lst (st.bD.map V.int))
 gM:ρ A.cm=col n 6
 jC:H A.pu=some (.lst (st.bH.map V.int))
 cpu:ρ A.pu=col n 7
 lZ:H A.sp=some (.lst (st.stp.map V.int))
 gO:ρ A.sp=col n 8
 okn:∃kvs,H A.kn=some (.dK kvs)/\J6 H kvs st.prod/\kvs.length<=st.kn/\(kvs.map (·.1)).Nodup
 gP:ρ A.kn=col n 9
 ql:A.qs.length=st.aj.length
 opt:∀(i:Nat)(p:Pt)(q:Addr×Addr×Addr),st.aj[i]?=some p->A.qs[i]?=some q->H q.1=some (.ins T.part q.2.1 (cZ p q.2.2))/\H q.2.2=some (.lst (p.row.map V.int))/\ρ q.1=some (n,20,p.nm)/\ρ q.2.2=some (n,21,p.nm)
theorem Dy{c d:qN}(ha:ρ a=some c)(hb:ρ b=some d)(h:c≠d):a≠b:=λe=>by rw[e,hb]at ha;cases ha;exact h rfl
theorem BE{c:qN}(ha:ρ a=none)(hb:ρ b=some c):a≠b:=λe=>by rw[e,hb]at ha;cases ha
theorem jm.mono{l:List (Str×Rat)}(h:jm H vs l)(g:∀b xs,H b=some (.tup xs)->H' b=some (.tup xs)):jm H' vs l:=by
 induction h with
 | nil=>exact .nil
 | cons a b _ ih=>exact .cons (g _ _ a) (g _ _ b) ih
def Kp(n:Nat)(ρ ρ':cu)(H H':Hp)(ts:Nat->Bool):Prop:=(∀b xs,H b=some (.tup xs)->H' b=some (.tup xs))/\∀b t x o,ts t=true->ρ b=some (n,t,x)->H b=some o->H' b=some o/\ρ' b=some (n,t,x)
variable {l:List kL}{ts:Nat->Bool}
theorem j_.keep(h:j_ n ρ H vs l)(k:Kp n ρ ρ' H H' ts)(e:ts 30=true):j_ n ρ' H' vs l:=by
 induction h with
 | nil=>exact .nil
 | cons a b c d _ ih=>exact .cons (k.1 _ _ a) (k.2 _ _ _ _ e c b).1 (k.2 _ _ _ _ e c b).2 (d.mono k.1) ih
theorem dP(g:Gh ρ H)(c:ρ a=some (n,t,x)):Kp n ρ ρ H (upd H a o) (λu=>decide (u≠t)):=by
 refine⟨λb xs h=>?_,λb u y w hu hc h=>⟨?_,hc⟩⟩
 .rw [ay (BE (g.tup h) c)];exact h
 .rw [ay (Dy hc c (λe=>by cases e;exact absurd hu (by simp)))];exact h
theorem kz(k:Kp n ρ ρ' H H' ts)(c:ρ b=some (n,t,x))(e:H b=some o)(u:ts t=true:=by decide):H' b=some o:=(k.2 b t x o u c e).1
theorem Ox(s:aR H H'):Kp n ρ ρ H H' ts:=⟨λb xs h=>s _ _ h,λb u y w _ hc h=>⟨s _ _ h,hc⟩⟩
variable {T:TC}{A:HA}
theorem aL.same{st:HS}(h:aL T n ρ A H st)(k:Kp n ρ ρ' H H' λ_=>true):aL T n ρ' A H' st:=by
 have z:=λ{b:Addr}{t:Nat}{x:Str}{o:HO}(c:ρ b=some (n,t,x))(e:H b=some o)=>k.2 b t x o rfl c e;obtain⟨vs,h1,h2⟩:=h.nt;obtain⟨kvs,k1,k2,k3⟩:=h.okn;exact⟨(z h.ca h.oa).1,(z h.ca h.oa).2,(z h.gE h.gY).1,(z h.gE h.gY).2,(z h.fC h.dF).1,(z h.fC h.dF).2,⟨vs,(z h.gI h1).1,h2.keep k rfl⟩,(z h.gI h1).2,(z h.gJ h.nu).1,(z h.gJ h.nu).2,(z h.gK h.jb).1,(z h.gK h.jb).2,
  (z h.gM h.iL).1,(z h.gM h.iL).2,(z h.cpu h.jC).1,(z h.cpu h.jC).2,(z h.gO h.lZ).1,(z h.gO h.lZ).2,⟨kvs,(z h.gP k1).1,λp hp=>let⟨t,r,e,q⟩:=k2 p hp;⟨t,r,e,k.1 _ _ q⟩,k3⟩,(z h.gP k1).2,h.ql,
  λi p q e1 e2=>let⟨a,b,c,d⟩:=h.opt i p q e1 e2;⟨(z c a).1,(z d b).1,(z c a).2,(z d b).2⟩⟩
theorem aL.mono{st:HS}(h:aL T n ρ A H st)(s:aR H H'):aL T n ρ A H' st:=h.same (Ox s)
theorem aL.other{st:HS}(h:aL T m ρ A H st)(f:Fr n ρ H ρ' H')(g:Gh ρ H)(e:m≠n):aL T m ρ' A H' st:=h.same ⟨λb xs q=>(f b _ q λt x=>by rw[g.tup q];intro z;cases z).1,λb t x o _ c q=>by
 obtain⟨a,b'⟩:=f b o q λt' x'=>by rw[c];intro z;cases z;exact e rfl
 exact⟨a,b'.trans c⟩⟩
variable {ss:List V}
theorem j_.snoc{as:List kL}{r l:Addr}{x:kL}(h:j_ n ρ H vs as)(e1:H r=some (.tup [.str x.nm,.str x.ow,.int x.wo,.ref l]))(e2:H l=some (.lst ss))(e3:ρ l=some (n,30,⟨#[]⟩))(e4:jm H ss x.sh):j_ n ρ H (vs++[.ref r]) (as++[x]):=by
 induction h with
 | nil=>exact .cons e1 e2 e3 e4 .nil
 | cons a b c d _ ih=>exact .cons a b c d ih
theorem Bd{p0 p1:Pt}:∀{ps:List Pt}{qs:List (Addr×Addr×Addr)}{i:Nat},ps[i]?=some p0->p1.nm=p0.nm->b_ (ps.set i p1) qs=b_ ps qs
 | [],_,_,h,_=>by simp at h
 | _::_,[],_,_,_=>by simp[b_]
 | p::ps,q::qs,0,h,e=>by
  have:p=p0:=by simpa using h
  simp[b_,e,this]
 | p::ps,q::qs,i+1,h,e=>by have:=Bd (qs:=qs) (by simpa using h:ps[i]?=some p0) e;simp only[b_,Jw,EB]at this ⊢;rw[this]
variable {j:Nat}{p:Pt}
theorem Dz{ps:List Pt}(nd:(ps.map (·.nm)).Nodup){q:Pt}(h1:ps[i]?=some p)(h2:ps[j]?=some q)(e:p.nm=q.nm):i=j:=by
 have a:(ps.map (·.nm))[i]?=some p.nm:=by rw[cK,h1];rfl
 have b:(ps.map (·.nm))[j]?=some p.nm:=by rw[cK,h2,e];rfl
 exact BU nd a b
variable {p0 p1:Pt}{q0:Addr×Addr×Addr}
theorem XZ{st:HS}(h:aL T n ρ A H st)(k:Kp n ρ ρ H H' ts)(nd:(st.aj.map (·.nm)).Nodup)(ep:st.aj[i]?=some p0)(eq:A.qs[i]?=some q0)(e1:p1.nm=p0.nm)(hw:H' q0.1=some (.ins T.part q0.2.1 (cZ p1 q0.2.2)))(hs:∀{b:Addr} {t:Nat} {x:Str} {o:HO},ρ b=some (n,t,x)->t≠20\/x≠p0.nm->H b=some o->H' b=some o)(er:(.lst (p0.row.map V.int):HO) =.lst (p1.row.map V.int)):
  ∀(j:Nat)(p:Pt)(q:Addr×Addr×Addr),(st.aj.set i p1)[j]?=some p->A.qs[j]?=some q->H' q.1=some (.ins T.part q.2.1 (cZ p q.2.2))/\H' q.2.2=some (.lst (p.row.map V.int))/\ρ q.1=some (n,20,p.nm)/\ρ q.2.2=some (n,21,p.nm):=by
 intro j p q ej eq'
 by_cases hj:i=j
 . subst hj
   rw[eq]at eq';cases eq'
   rw[qO (ee.mp ep).1]at ej
   cases ej
   obtain⟨a,b,c,d⟩:=h.opt i p0 q0 ep eq
   exact⟨hw,by rw[<-er];exact hs d (.inl (by decide)) b,by rw[e1];exact c,by rw[e1];exact d⟩
 . rw[zS hj]at ej
   obtain⟨a,b,c,d⟩:=h.opt j p q ej eq'
   exact⟨hs c (.inr λe=>hj (Dz nd ep ej e.symm)) a,hs d (.inl (by decide)) b,c,d⟩
theorem U0{st:HS}(h:aL T n ρ A H st)(nd:(st.aj.map (·.nm)).Nodup){l:List Int}(ep:st.aj[i]?=some p0)(eq:A.qs[i]?=some q0)(hw:H' q0.2.2=some (.lst (l.map V.int)))(hs:∀{b:Addr} {t:Nat} {x:Str} {o:HO},ρ b=some (n,t,x)->t≠21\/x≠p0.nm->H b=some o->H' b=some o):
  ∀(j:Nat)(p:Pt)(q:Addr×Addr×Addr),(st.aj.set i { p0 with row:=l })[j]?=some p->A.qs[j]?=some q->H' q.1=some (.ins T.part q.2.1 (cZ p q.2.2))/\H' q.2.2=some (.lst (p.row.map V.int))/\ρ q.1=some (n,20,p.nm)/\ρ q.2.2=some (n,21,p.nm):=by
 intro j p q ej eq'
 by_cases hj:i=j
 . subst hj
   rw[eq]at eq';cases eq'
   rw[qO (ee.mp ep).1]at ej
   cases ej
   obtain⟨a,b,c,d⟩:=h.opt i p0 q0 ep eq
   exact⟨hs c (.inl (by decide)) a,hw,c,d⟩
 . rw[zS hj]at ej
   obtain⟨a,b,c,d⟩:=h.opt j p q ej eq'
   exact⟨hs c (.inl (by decide)) a,hs d (.inr λe=>hj (Dz nd ep ej e.symm)) b,c,d⟩
theorem Ag(c:ρ a=some (n,t,x)):∀{b:Addr}{u:Nat}{y:Str}{w:HO},ρ b=some (n,u,y)->u≠t\/y≠x->H b=some w->upd H a o b=some w:=λ{b u y w} hc hu h=>by rw[ay (Dy hc c (λe=>by cases e;rcases hu with z|z <;> exact z rfl))];exact h
theorem aL.Z3{st:HS}(h:aL T n ρ A H st)(g:Gh ρ H)(l:List Str):aL T n ρ A (upd H A.pl (.dK (fP 0 l))) { st with own:=l }:=by have k:=dP (o:=.dK (fP 0 l)) g h.gE;obtain⟨vs,h1,h2⟩:=h.nt;obtain⟨kvs,k1,k2,k3⟩:=h.okn;exact⟨kz k h.ca h.oa,h.ca,ai,h.gE,kz k h.fC h.dF,h.fC,⟨vs,kz k h.gI h1,h2.keep k (by decide)⟩,h.gI,kz k h.gJ h.nu,h.gJ,kz k h.gK h.jb,h.gK,kz k h.gM h.iL,h.gM,kz k h.cpu h.jC,h.cpu,kz k h.gO h.lZ,h.gO,⟨kvs,kz k h.gP k1,λp hp=>let⟨t,r,e,q⟩:=k2 p hp;⟨t,r,e,k.1 _ _ q⟩,k3⟩,h.gP,h.ql,λi p q e1 e2=>let⟨a,b,c,d⟩:=h.opt i p q e1 e2;⟨kz k c a,kz k d b,c,d⟩⟩
theorem aL.J7{st:HS}(h:aL T n ρ A H st)(g:Gh ρ H)(ps:List Pt)(qs:List (Addr×Addr×Addr))(el:qs.length=ps.length)(hp:∀(i:Nat) (p:Pt) (q:Addr×Addr×Addr),ps[i]?=some p->qs[i]?=some q->H q.1=some (.ins T.part q.2.1 (cZ p q.2.2))/\H q.2.2=some (.lst (p.row.map V.int))/\ρ q.1=some (n,20,p.nm)/\ρ q.2.2=some (n,21,p.nm)):aL T n ρ { A with qs:=qs } (upd H A.ab (.dK (b_ ps qs))) { st with aj:=ps }:=by have k:=dP (o:=.dK (b_ ps qs)) g h.fC;obtain⟨vs,h1,h2⟩:=h.nt;obtain⟨kvs,k1,k2,k3⟩:=h.okn;exact⟨kz k h.ca h.oa,h.ca,kz k h.gE h.gY,h.gE,ai,h.fC,⟨vs,kz k h.gI h1,h2.keep k (by decide)⟩,h.gI,kz k h.gJ h.nu,h.gJ,kz k h.gK h.jb,h.gK,kz k h.gM h.iL,h.gM,kz k h.cpu h.jC,h.cpu,kz k h.gO h.lZ,h.gO,⟨kvs,kz k h.gP k1,λp hp=>let⟨t,r,e,q⟩:=k2 p hp;⟨t,r,e,k.1 _ _ q⟩,k3⟩,h.gP,el,λi p q e1 e2=>let⟨a,b,c,d⟩:=hp i p q e1 e2;⟨kz k c a,kz k d b,c,d⟩⟩
theorem aL.Z4{st:HS}(h:aL T n ρ A H st)(g:Gh ρ H){r l:Addr}{x:kL}{Sj:List V}(hv:H A.as=some (.lst Sj))(e1:H r=some (.tup [.str x.nm,.str x.ow,.int x.wo,.ref l]))(e2:H l=some (.lst ss))(e3:ρ l=some (n,30,⟨#[]⟩))(e4:jm H ss x.sh):aL T n ρ A (upd H A.as (.lst (Sj++[.ref r]))) { st with bO:=st.bO++[x] }:=by have k:=dP (o:=.lst (Sj++[.ref r])) g h.gI;obtain⟨vs,h1,h2⟩:=h.nt;obtain⟨kvs,k1,k2,k3⟩:=h.okn;exact⟨kz k h.ca h.oa,h.ca,kz k h.gE h.gY,h.gE,kz k h.fC h.dF,h.fC,⟨_,ai,by rw[hv]at h1;cases h1;exact(h2.keep k (by decide)).snoc (k.1 _ _ e1) (kz k e3 e2) e3 (e4.mono k.1)⟩,h.gI,kz k h.gJ h.nu,h.gJ,kz k h.gK h.jb,h.gK,kz k h.gM h.iL,h.gM,kz k h.cpu h.jC,h.cpu,kz k h.gO h.lZ,h.gO,⟨kvs,kz k h.gP k1,λp hp=>let⟨t,r,e,q⟩:=k2 p hp;⟨t,r,e,k.1 _ _ q⟩,k3⟩,h.gP,h.ql,λi p q e1 e2=>let⟨a,b,c,d⟩:=h.opt i p q e1 e2;⟨kz k c a,kz k d b,c,d⟩⟩
theorem aL.Z5{st:HS}(h:aL T n ρ A H st)(g:Gh ρ H)(l:List Str):aL T n ρ A (upd H A.nm (.dK (yc l))) { st with nms:=l }:=by have k:=dP (o:=.dK (yc l)) g h.gJ;obtain⟨vs,h1,h2⟩:=h.nt;obtain⟨kvs,k1,k2,k3⟩:=h.okn;exact⟨kz k h.ca h.oa,h.ca,kz k h.gE h.gY,h.gE,kz k h.fC h.dF,h.fC,⟨vs,kz k h.gI h1,h2.keep k (by decide)⟩,h.gI,ai,h.gJ,kz k h.gK h.jb,h.gK,kz k h.gM h.iL,h.gM,kz k h.cpu h.jC,h.cpu,kz k h.gO h.lZ,h.gO,⟨kvs,kz k h.gP k1,λp hp=>let⟨t,r,e,q⟩:=k2 p hp;⟨t,r,e,k.1 _ _ q⟩,k3⟩,h.gP,h.ql,λi p q e1 e2=>let⟨a,b,c,d⟩:=h.opt i p q e1 e2;⟨kz k c a,kz k d b,c,d⟩⟩
theorem aL.Z6{st:HS}(h:aL T n ρ A H st)(g:Gh ρ H)(l:List Int):aL T n ρ A (upd H A.cm (.lst (l.map V.int))) { st with bD:=l }:=by have k:=dP (o:=.lst (l.map V.int)) g h.gM;obtain⟨vs,h1,h2⟩:=h.nt;obtain⟨kvs,k1,k2,k3⟩:=h.okn;exact⟨kz k h.ca h.oa,h.ca,kz k h.gE h.gY,h.gE,kz k h.fC h.dF,h.fC,⟨vs,kz k h.gI h1,h2.keep k (by decide)⟩,h.gI,kz k h.gJ h.nu,h.gJ,kz k h.gK h.jb,h.gK,ai,h.gM,kz k h.cpu h.jC,h.cpu,kz k h.gO h.lZ,h.gO,⟨kvs,kz k h.gP k1,λp hp=>let⟨t,r,e,q⟩:=k2 p hp;⟨t,r,e,k.1 _ _ q⟩,k3⟩,h.gP,h.ql,λi p q e1 e2=>let⟨a,b,c,d⟩:=h.opt i p q e1 e2;⟨kz k c a,kz k d b,c,d⟩⟩
theorem aL.Z7{st:HS}(h:aL T n ρ A H st)(g:Gh ρ H)(l:List Int):aL T n ρ A (upd H A.pu (.lst (l.map V.int))) { st with bH:=l }:=by have k:=dP (o:=.lst (l.map V.int)) g h.cpu;obtain⟨vs,h1,h2⟩:=h.nt;obtain⟨kvs,k1,k2,k3⟩:=h.okn;exact⟨kz k h.ca h.oa,h.ca,kz k h.gE h.gY,h.gE,kz k h.fC h.dF,h.fC,⟨vs,kz k h.gI h1,h2.keep k (by decide)⟩,h.gI,kz k h.gJ h.nu,h.gJ,kz k h.gK h.jb,h.gK,kz k h.gM h.iL,h.gM,ai,h.cpu,kz k h.gO h.lZ,h.gO,⟨kvs,kz k h.gP k1,λp hp=>let⟨t,r,e,q⟩:=k2 p hp;⟨t,r,e,k.1 _ _ q⟩,k3⟩,h.gP,h.ql,λi p q e1 e2=>let⟨a,b,c,d⟩:=h.opt i p q e1 e2;⟨kz k c a,kz k d b,c,d⟩⟩
theorem aL.Z8{st:HS}(h:aL T n ρ A H st)(g:Gh ρ H)(l:List Int):aL T n ρ A (upd H A.sp (.lst (l.map V.int))) { st with stp:=l }:=by have k:=dP (o:=.lst (l.map V.int)) g h.gO;obtain⟨vs,h1,h2⟩:=h.nt;obtain⟨kvs,k1,k2,k3⟩:=h.okn;exact⟨kz k h.ca h.oa,h.ca,kz k h.gE h.gY,h.gE,kz k h.fC h.dF,h.fC,⟨vs,kz k h.gI h1,h2.keep k (by decide)⟩,h.gI,kz k h.gJ h.nu,h.gJ,kz k h.gK h.jb,h.gK,kz k h.gM h.iL,h.gM,kz k h.cpu h.jC,h.cpu,ai,h.gO,⟨kvs,kz k h.gP k1,λp hp=>let⟨t,r,e,q⟩:=k2 p hp;⟨t,r,e,k.1 _ _ q⟩,k3⟩,h.gP,h.ql,λi p q e1 e2=>let⟨a,b,c,d⟩:=h.opt i p q e1 e2;⟨kz k c a,kz k d b,c,d⟩⟩
theorem aL.Sk{st:HS}(h:aL T n ρ A H st)(g:Gh ρ H)(q:Addr)(l:List Int)(e:H q=some (.lst (l.map V.int)))(c:ρ q=col n 6):aL T n ρ { A with cm:=q } (upd H A.a (.ins T.hold A.dx (dU { A with cm:=q }))) { st with bD:=l }:=by have k:=dP (o:=.ins T.hold A.dx (dU { A with cm:=q })) g h.ca;obtain⟨vs,h1,h2⟩:=h.nt;obtain⟨kvs,k1,k2,k3⟩:=h.okn;exact⟨ai,h.ca,kz k h.gE h.gY,h.gE,kz k h.fC h.dF,h.fC,⟨vs,kz k h.gI h1,h2.keep k (by decide)⟩,h.gI,kz k h.gJ h.nu,h.gJ,kz k h.gK h.jb,h.gK,kz k c e,c,kz k h.cpu h.jC,h.cpu,kz k h.gO h.lZ,h.gO,⟨kvs,kz k h.gP k1,λp hp=>let⟨t,r,e,q⟩:=k2 p hp;⟨t,r,e,k.1 _ _ q⟩,k3⟩,h.gP,h.ql,λi p q e1 e2=>let⟨a,b,c,d⟩:=h.opt i p q e1 e2;⟨kz k c a,kz k d b,c,d⟩⟩
theorem aL.J8{st:HS}(h:aL T n ρ A H st)(g:Gh ρ H)(q:Addr)(l:List Int)(e:H q=some (.lst (l.map V.int)))(c:ρ q=col n 7):aL T n ρ { A with pu:=q } (upd H A.a (.ins T.hold A.dx (dU { A with pu:=q }))) { st with bH:=l }:=by have k:=dP (o:=.ins T.hold A.dx (dU { A with pu:=q })) g h.ca;obtain⟨vs,h1,h2⟩:=h.nt;obtain⟨kvs,k1,k2,k3⟩:=h.okn;exact⟨ai,h.ca,kz k h.gE h.gY,h.gE,kz k h.fC h.dF,h.fC,⟨vs,kz k h.gI h1,h2.keep k (by decide)⟩,h.gI,kz k h.gJ h.nu,h.gJ,kz k h.gK h.jb,h.gK,kz k h.gM h.iL,h.gM,kz k c e,c,kz k h.gO h.lZ,h.gO,⟨kvs,kz k h.gP k1,λp hp=>let⟨t,r,e,q⟩:=k2 p hp;⟨t,r,e,k.1 _ _ q⟩,k3⟩,h.gP,h.ql,λi p q e1 e2=>let⟨a,b,c,d⟩:=h.opt i p q e1 e2;⟨kz k c a,kz k d b,c,d⟩⟩
theorem aL.Z9{st:HS}(h:aL T n ρ A H st)(g:Gh ρ H)(m:Int)(q:Addr)(e:H q=some (.dK []))(c:ρ q=col n 9):aL T n ρ { A with kn:=q } (upd H A.bt (.ins T.bot A.db (jY A.sp m q))) { st with prod:=m,kn:=0 }:=by have k:=dP (o:=.ins T.bot A.db (jY A.sp m q)) g h.gK;obtain⟨vs,h1,h2⟩:=h.nt;obtain⟨kvs,k1,k2,k3⟩:=h.okn;exact⟨kz k h.ca h.oa,h.ca,kz k h.gE h.gY,h.gE,kz k h.fC h.dF,h.fC,⟨vs,kz k h.gI h1,h2.keep k (by decide)⟩,h.gI,kz k h.gJ h.nu,h.gJ,ai,h.gK,kz k h.gM h.iL,h.gM,kz k h.cpu h.jC,h.cpu,kz k h.gO h.lZ,h.gO,⟨[],kz k c e,(λp hp=>absurd hp (by simp)),aO _,uC⟩,c,h.ql,λi p q e1 e2=>let⟨a,b,c,d⟩:=h.opt i p q e1 e2;⟨kz k c a,kz k d b,c,d⟩⟩
theorem aL.jn{st:HS}(h:aL T n ρ A H st)(g:Gh ρ H)(ep:st.aj[i]?=some p0)(eq:A.qs[i]?=some q0)(e1:p1.nm=p0.nm)(e2:p1.row=p0.row)(nd:(st.aj.map (·.nm)).Nodup):aL T n ρ A (upd H q0.1 (.ins T.part q0.2.1 (cZ p1 q0.2.2))) { st with aj:=st.aj.set i p1 }:=by have k:=dP (o:=.ins T.part q0.2.1 (cZ p1 q0.2.2)) g (h.opt i p0 q0 ep eq).2.2.1;obtain⟨vs,h1,h2⟩:=h.nt;obtain⟨kvs,k1,k2,k3⟩:=h.okn;exact⟨kz k h.ca h.oa,h.ca,kz k h.gE h.gY,h.gE,by rw[Bd ep e1];exact kz k h.fC h.dF,h.fC,⟨vs,kz k h.gI h1,h2.keep k (by decide)⟩,h.gI,kz k h.gJ h.nu,h.gJ,kz k h.gK h.jb,h.gK,kz k h.gM h.iL,h.gM,kz k h.cpu h.jC,h.cpu,kz k h.gO h.lZ,h.gO,⟨kvs,kz k h.gP k1,λp hp=>let⟨t,r,e,q⟩:=k2 p hp;⟨t,r,e,k.1 _ _ q⟩,k3⟩,h.gP,by rw[iA];exact h.ql,XZ h k nd ep eq e1 ai (Ag (h.opt i p0 q0 ep eq).2.2.1) (by rw[e2])⟩
theorem aL.X0{st:HS}(h:aL T n ρ A H st)(g:Gh ρ H)(l:List Int)(ep:st.aj[i]?=some p0)(eq:A.qs[i]?=some q0)(nd:(st.aj.map (·.nm)).Nodup):aL T n ρ A (upd H q0.2.2 (.lst (l.map V.int))) { st with aj:=st.aj.set i { p0 with row:=l } }:=by have k:=dP (o:=.lst (l.map V.int)) g (h.opt i p0 q0 ep eq).2.2.2;obtain⟨vs,h1,h2⟩:=h.nt;obtain⟨kvs,k1,k2,k3⟩:=h.okn;exact⟨kz k h.ca h.oa,h.ca,kz k h.gE h.gY,h.gE,by show _=some (HO.dK (b_ (st.aj.set i { p0 with row:=l }) A.qs));rw[Bd (p1:={ p0 with row:=l }) ep rfl];exact kz k h.fC h.dF,h.fC,⟨vs,kz k h.gI h1,h2.keep k (by decide)⟩,h.gI,kz k h.gJ h.nu,h.gJ,kz k h.gK h.jb,h.gK,kz k h.gM h.iL,h.gM,kz k h.cpu h.jC,h.cpu,kz k h.gO h.lZ,h.gO,⟨kvs,kz k h.gP k1,λp hp=>let⟨t,r,e,q⟩:=k2 p hp;⟨t,r,e,k.1 _ _ q⟩,k3⟩,h.gP,by rw[iA];exact h.ql,U0 h nd ep eq ai (Ag (h.opt i p0 q0 ep eq).2.2.2)⟩
structure Txt(K:Fg)(T:TC):Prop where
 cH:qM K T.hold
 cP:qM K T.part
 cB:qM K T.bot
 hpl:fD K T.hold "places"
 hab:fD K T.hold "aboard"
 has:fD K T.hold "ashore"
 hnm:fD K T.hold "names"
 wO:fD K T.hold "bottom"
 wQ:fD K T.hold "common"
 zH:fD K T.hold "purses"
 Oz:fD K T.part "name"
 pow:fD K T.part "owner"
 vc:fD K T.part "worth"
 OA:fD K T.part "weight"
 GG:fD K T.part "scale"
 J9:fD K T.part "row"
 Sl:fD K T.bot "steps"
 GH:fD K T.bot "product"
 Sm:fD K T.bot "known"
structure Wf(st:HS):Prop where
 oM:st.own.Nodup
 yK:st.nms.Nodup
 dM:(st.aj.map (·.nm)).Nodup
 sub:∀p∈st.aj,p.nm∈st.nms
 rows:∀p∈st.aj,p.row.length=st.own.length
 ow:∀p∈st.aj,p.ow∈st.own
 gD:st.bD.length=st.own.length
 mG:st.bH.length=st.own.length
 eE:1<=st.prod
 pW:st.prod=st.stp.foldl (·*·) 1
 vd:∀s∈st.stp,2<=s
 ki:st.own.length<=100
 yL:st.nms.length<=1000
 mH:st.aj.length<=1000
 Ah:st.stp.length<=100
 vf:st.bO.length<=1000
 GI:st.kn<=1000000
 big:Jm.Sz 8000 st.prod
 oN:∀c∈st.bD,0<=c/\c<=st.prod
 sS:∀p∈st.aj,1<=p.sc/\p.sc<=st.prod
 oO:∀p∈st.aj,∀r∈p.row,-st.prod<=r/\r<=st.prod
 pX:∀p∈st.aj,∀t∈List.zipWith (λr c=>p.sc*r+c) p.row st.bD,0<=t/\t<=st.prod
 jK:∀p∈st.aj,1<=p.wo/\0<=p.we
 EN:∀u∈st.bH,Jm.Sz 9000 u
structure HH(T:TC)(n:Nat)(ρ:cu)(A:HA)(H:Hp)(st:HS):Prop where
 g:Gh ρ H
 h:aL T n ρ A H st
 wf:Wf st
def wR(T:TC)(n:Nat)(ρ:cu)(A:HA)(H:Hp)(st:HS)(Q:Hp->Prop):Prop:=∀ρ' A' H',HH T n ρ' A' H' st->A'.a=A.a->Fr n ρ H ρ' H'->Q H'
def hs0:HS:=⟨[],[],[],[],[],1,0,[],[]⟩
theorem wf0:Wf hs0:=by refine⟨uC,uC,uC,?_,?_,?_,Z,Z,?_,Z,?_,?_,?_,?_,?_,?_,?_,?_,?_,?_,?_,?_,?_,?_⟩ <;> first|(intro _ h;exact absurd h (by simp[hs0]))|decide|(show Jm.Sz 8000 1;exact pT (by decide +kernel))
theorem OB:∀{l:List Str}{i:Nat}{o:Str},o∈l->dY (fP i l) (Sum.inr o)=some (.int ((i+l.idxOf o:Nat):Int))
 | [],_,_,h=>by simp at h
 | x::l,i,o,h=>by
  by_cases e:x=o
  .subst e;rw[show fP i (x::l)=(Sum.inr x,.int i)::fP (i+1) l from rfl,gH rfl];simp
  .rw [show fP i (x::l)=(Sum.inr x,.int i)::fP (i+1) l from rfl,fk (by intro z;exact e (rS z))];have hm:o∈l:=by
    rcases b8.mp h with z|z
    .exact absurd z.symm e
    .exact z
   rw[OB hm];have eb:(x==o)=false:=by simpa using e
   have:(x::l).idxOf o=l.idxOf o+1:=by rw[List.idxOf_cons,eb];rfl
   rw[this];show some (V.int ((i+1+l.idxOf o:Nat):Int))=some (V.int ((i+(l.idxOf o+1):Nat):Int));rw[show i+1+l.idxOf o=i+(l.idxOf o+1)from by omega]
theorem pY:∀{l:List Str}{i:Nat}{o:Str},o∉l->dY (fP i l) (Sum.inr o)=none
 | [],_,_,_=>rfl
 | x::l,i,o,h=>by rw[show fP i (x::l)=(Sum.inr x,.int i)::fP (i+1) l from rfl,fk (λz=>h (by rw[<-rS z];exact cN))];exact pY λm=>h (b7 _ m)
theorem pZ:∀(l:List Str)(i:Nat),(fP i l).length=l.length
 | [],_=>rfl
 | _::l,i=>by rw[show ∀x,fP i (x::l)=(Sum.inr x,.int i)::fP (i+1) l from λ_=>rfl,kg,kg,pZ l]
theorem J_:∀(l:List Str)(i:Nat)(o:Str),fP i (l++[o])=fP i l++[(Sum.inr o,.int ((i+l.length:Nat):Int))]
 | [],i,o=>rfl
 | x::l,i,o=>by
  show(Sum.inr x,V.int i)::fP (i+1) (l++[o])=_;rw[J_ l (i+1) o];show _=(Sum.inr x,V.int i)::(fP (i+1) l++_)
  rw[kg,show i+1+l.length=i+(l.length+1)from by omega]
theorem B_:∀(l:List Str)(i:Nat),(fP i l).map (λp=>kV p.1)=l.map V.str
 | [],_=>rfl
 | x::l,i=>by show kV (Sum.inr x)::(fP (i+1) l).map _=V.str x::l.map V.str;rw[B_ l];rfl
variable {qs:List (Addr×Addr×Addr)}
theorem uL{ps:List Pt}{q:Addr×Addr×Addr}(h1:ps[i]?=some p)(h2:qs[i]?=some q):(b_ ps qs)[i]?=some (Sum.inr p.nm,.ref q.1):=by unfold b_;rw[PM,h1,h2]
theorem uM{ps:List Pt}(h:qs.length=ps.length):(b_ ps qs).length=ps.length:=by unfold b_;rw[lR,h,yx]
theorem uN:∀{ps:List Pt}{qs:List (Addr×Addr×Addr)}{i:Nat}{p:Pt}{q:Addr×Addr×Addr},(ps.map (·.nm)).Nodup->ps[i]?=some p->qs[i]?=some q->dY (b_ ps qs) (Sum.inr p.nm)=some (.ref q.1)
 | [],_,_,_,_,_,h,_=>by simp at h
 | _::_,[],_,_,_,_,_,h=>by simp at h
 | a::ps,b::qs,0,p,q,_,h1,h2=>by
  have e1:a=p:=by simpa using h1
  have e2:b=q:=by simpa using h2
  subst e1 e2;exact gH rfl
 | a::ps,b::qs,i+1,p,q,nd,h1,h2=>by
  have nd':=fU.mp (show(a.nm::ps.map (·.nm)).Nodup from nd);have DA:ps[i]?=some p:=by simpa using h1
  rw[show b_ (a::ps) (b::qs)=(Sum.inr a.nm,.ref b.1)::b_ ps qs from rfl,fk (λz=>nd'.1 (aZ.mpr ⟨p,cC DA,(rS z).symm⟩))];exact uN nd'.2 DA (by simpa using h2)
theorem p5:∀{ps:List Pt}{qs:List (Addr×Addr×Addr)}{x:Str},(∀p∈ps,p.nm≠x)->dY (b_ ps qs) (Sum.inr x)=none
 | [],_,_,_=>rfl
 | _::_,[],_,_=>rfl
 | a::ps,b::qs,x,h=>by rw[show b_ (a::ps) (b::qs)=(Sum.inr a.nm,.ref b.1)::b_ ps qs from rfl,fk (λz=>h a cN (rS z))];exact p5 λp hp=>h p (b7 _ hp)
theorem Ka{ps:List Pt}(h:qs.length=ps.length)(p:Pt)(q:Addr×Addr×Addr):b_ (ps++[p]) (qs++[q])=b_ ps qs++[(Sum.inr p.nm,.ref q.1)] :=by unfold b_;rw[List.zipWith_append h.symm];rfl
theorem Ai{l:List Str}(h:x∉l):dY (yc l) (Sum.inr x)=none:=by
 unfold yc
 induction l with
 | nil=>rfl
 | cons a l ih=>rw[bz,fk (λz=>h (by rw[<-rS z];exact cN))];exact ih λm=>h (b7 _ m)
theorem Kc{l:List Str}(h:x∈l):dY (yc l) (Sum.inr x)=some (.bl true):=by
 unfold yc
 induction l with
 | nil=>simp at h
 | cons a l ih=>
  rw[bz];by_cases e:a=x
  .exact gH (by rw[e])
  .rw [fk (λz=>e (rS z))];exact ih ((b8.mp h).resolve_left λz=>e z.symm)
theorem aL.find{st:HS}(h:aL T n ρ A H st)(e:st.aj[i]?=some p):∃q,A.qs[i]?=some q/\H q.1=some (.ins T.part q.2.1 (cZ p q.2.2))/\H q.2.2=some (.lst (p.row.map V.int))/\ρ q.1=some (n,20,p.nm)/\ρ q.2.2=some (n,21,p.nm):=by
 have hi:i<A.qs.length:=by rw[h.ql];exact(ee.mp e).1
 exact⟨A.qs[i],bK hi,h.opt i p _ e (bK hi)⟩
def g_(st:HS)(o:Str):HS:={ st with own:=st.own++[o],bD:=st.bD++[0],bH:=st.bH++[0],aj:=st.aj.map λp=>{ p with row:=p.row++[0] } }
def aK(st:HS)(p:Pt):List Int:=List.zipWith (λr c=>p.sc*r+c) p.row st.bD
def lU(st:HS)(tops:List Int):List Int:=List.zipWith (λt c=>t-c) tops st.bD
def wU(st:HS)(p:Pt):HS:={ st with aj:=st.aj++[p],nms:=st.nms++[p.nm] }
def Be(st:HS)(x o:Str)(wo we:Int):HS:=wU st ⟨x,o,wo,we,1,lU st ((List.replicate st.own.length 0).set (st.own.idxOf o) st.prod)⟩
def aE(st:HS):Int:=(st.aj.map (·.wo)).sum
def gQ(st:HS)(p:Pt):List (Str×Rat):=(List.zip st.own (aK st p)).filterMap λx=>if 0<x.2 then some (x.1,Jm.fr x.2 st.prod) else none
def DB(p:Pt):HO:=.tup [.str p.nm,.str p.ow,.int p.wo,.int p.we]
inductive jw(H:Hp):List V->List Pt->Prop
 | nil:jw H [] []
 | cons {r:Addr} {p:Pt} {vs:List V} {ps:List Pt}:H r=some (DB p)->jw H vs ps->jw H (.ref r::vs) (p::ps)
def Kd(n:Nat)(q1 q2:Addr)(ρ:cu)(H:Hp)(ρ':cu)(H':Hp):Prop:=∀b o,H b=some o->(∀t x,ρ b≠some (n,t,x))->b≠q1->b≠q2->H' b=some o/\ρ' b=ρ b
theorem Kd.trans{ρ2:cu}(a:Kd n q1 q2 ρ H ρ1 H1)(b:Fr n ρ1 H1 ρ2 H2):Kd n q1 q2 ρ H ρ2 H2:=λc o h k x y=>by obtain⟨h1,e1⟩:=a c o h k x y;obtain⟨h2,e2⟩:=b c o h1 (by rw[e1];exact k);exact⟨h2,e2.trans e1⟩
theorem Kd.fr{ρ2:cu}(b:Kd n q1 q2 ρ1 H1 ρ2 H2)(a:Fr n ρ H ρ1 H1)(h1:H q1=none)(h2:H q2=none):Fr n ρ H ρ2 H2:=λc o h k=>by obtain⟨e1,e2⟩:=a c o h k;obtain⟨e3,e4⟩:=b c o e1 (by rw[e2];exact k) (aD h h1) (aD h h2);exact⟨e3,e4.trans e2⟩
def isNm(o:Str):Bool:=isName o.cps.toList
inductive Z_(T:TC)(vs:List V)(H:Hp)(Q:VK)(E:XK):Prop
 |mk(p dx:_)(_:vs=[.ref p])(_:H p=some (.ins T.bot dx []))(_:∀sp kn H',H sp=none->H kn=none->sp≠kn->(∀b o,H b=some o->b≠p->H' b=some o)->H' p=some (.ins T.bot dx (jY sp 1 kn))->H' sp=some (.lst [])->H' kn=some (.dK [])->Q .cT H')
def EO(T:TC):Sp:=bx (Z_ T)
inductive aaa(T:TC)(K:Fg)(vs:List V)(H:Hp)(Q:VK)(E:XK):Prop
 |mk(p dx l:Addr)(pt:Pt)(_:vs=[.ref p,.str pt.nm,.str pt.ow,.int pt.wo,.int pt.we,.int pt.sc,.ref l])(_:H p=some (.ins T.part dx []))(_:aI K H l (pt.row.map V.int))(_:∀r H',H r=none->(∀b o,H b=some o->b≠p->H' b=some o)->H' p=some (.ins T.part dx (cZ pt r))->H' r=some (.lst (pt.row.map V.int))->Q .cT H')
def Bf(T:TC)(K:Fg):Sp:=bx (aaa T K)
inductive aab(T:TC)(vs:List V)(H:Hp)(Q:VK)(E:XK):Prop
 |mk(p dx ρ n:_)(_:vs=[.ref p])(_:H p=some (.ins T.hold dx []))(_:Gh ρ H)(_:ρ p=none)(_:∀ρ' A H',A.a=p->HH T n ρ' A H' hs0->(∀b o,H b=some o->b≠p->H' b=some o/\ρ' b=ρ b)->Q .cT H')
def ER(T:TC):Sp:=bx (aab T)
inductive aac(T:TC)(vs:List V)(H:Hp)(Q:VK)(E:XK):Prop
 |mk(n ρ A st o:_)(_:vs=[.ref A.a,.str o])(_:aL T n ρ A H st)(_:o∈st.own)(_:Q (.int (st.own.idxOf o:Int)) H)
def Bg(T:TC):Sp:=bx (aac T)
inductive X3(T:TC)(vs:List V)(H:Hp)(Q:VK)(E:XK):Prop
 |mk(n ρ A st:_)(i:Nat)(p:Pt)(q:Addr×Addr×Addr)(_:vs=[.ref A.a,.str p.nm])(_:aL T n ρ A H st)(_:(st.aj.map (·.nm)).Nodup)(_:st.aj[i]?=some p)(_:A.qs[i]?=some q)(_:Q (.ref q.1) H)
def Ca(T:TC):Sp:=bx (X3 T)
inductive Sn(T:TC)(vs:List V)(H:Hp)(Q:VK)(E:XK):Prop
 |mk(n ρ A st x:_)(_:vs=[.ref A.a,.str x])(_:aL T n ρ A H st)(_:isNm x=true)(_:x∉st.nms)(_:∀H',aR H H'->Q .cT H')
def DC(T:TC):Sp:=bx (Sn T)
inductive ags(T:TC)(K:Fg)(vs:List V)(H:Hp)(Q:VK)(E:XK):Prop
 |mk(n ρ A st l:_)(tops:List Int)(_:vs=[.ref A.a,.ref l])(_:aL T n ρ A H st)(_:aI K H l (tops.map V.int))(_:tops.length=st.bD.length)(_:tops.length<=1000)(_:∀r H',aR H H'->H r=none->H' r=some (.lst ((lU st tops).map V.int))->Q (.ref r) H')
def QI(T:TC)(K:Fg):Sp:=bx (ags T K)
inductive aad(T:TC)(vs:List V)(H:Hp)(Q:VK)(E:XK):Prop
 |mk(n ρ A st:_)(i:Nat)(p:Pt)(q:Addr×Addr×Addr)(_:vs=[.ref A.a,.ref q.1])(_:aL T n ρ A H st)(_:Wf st)(_:st.aj[i]?=some p)(_:A.qs[i]?=some q)(_:∀r H',aR H H'->H r=none->H' r=some (.lst ((aK st p).map V.int))->Q (.ref r) H')
def Bh(T:TC):Sp:=bx (aad T)
inductive ac1(T:TC)(vs:List V)(H:Hp)(Q:VK)(E:XK):Prop
 |mk(n ρ A st:_)(q:Addr×Addr×Addr)(p:Pt)(_:vs=[.ref A.a,.ref q.1])(_:HH T n ρ A H st)(_:H q.1=some (.ins T.part q.2.1 (cZ p q.2.2)))(_:H q.2.2=some (.lst (p.row.map V.int)))(_:ρ q.1=none)(_:ρ q.2.2=none)(_:p.nm∉st.nms)(_:Wf (wU st p))(_:∀ρ' A' H',HH T n ρ' A' H' (wU st p:_)->A'.a=A.a->Kd n q.1 q.2.2 ρ H ρ' H'->Q .cT H')
def Ke(T:TC):Sp:=bx (ac1 T)
inductive aae(T:TC)(vs:List V)(H:Hp)(Q:VK)(E:XK):Prop
 |mk(n ρ A st o:_)(_:vs=[.ref A.a,.str o])(_:HH T n ρ A H st)(_:isNm o=true)(_:o∉st.own)(_:st.own.length<100)(_:wR T n ρ A H (g_ st o:_) λH'=>Q .cT H')
def ES(T:TC):Sp:=bx (aae T)
inductive ac2(T:TC)(vs:List V)(H:Hp)(Q:VK)(E:XK):Prop
 |mk(n ρ A st x o wo we:_)(_:vs=[.ref A.a,.str x,.str o,.int wo,.int we])(_:HH T n ρ A H st)(_:isNm x=true)(_:x∉st.nms)(_:o∈st.own)(_:1<=wo)(_:0<=we)(_:st.nms.length<1000)(_:st.aj.length<1000)(_:wR T n ρ A H (Be st x o wo we:_) λH'=>Q .cT H')
def So(T:TC):Sp:=bx (ac2 T)
inductive aaf(T:TC)(vs:List V)(H:Hp)(Q:VK)(E:XK):Prop
 |mk(n ρ A st:_)(_:vs=[.ref A.a])(_:aL T n ρ A H st)(_:st.aj.length<=1000)(_:∀r ws H',aR H H'->H r=none->H' r=some (.lst ws)->jw H' ws st.aj->Q (.ref r) H')
def OC(T:TC):Sp:=bx (aaf T)
inductive aag(T:TC)(vs:List V)(H:Hp)(Q:VK)(E:XK):Prop
 |mk(n ρ A st:_)(_:vs=[.ref A.a])(_:aL T n ρ A H st)(_:st.aj.length<=1000)(_:∀H',aR H H'->Q (.int (aE st)) H')
def Bj(T:TC):Sp:=bx (aag T)
inductive X4(T:TC)(vs:List V)(H:Hp)(Q:VK)(E:XK):Prop
 |mk(n ρ A st:_)(_:vs=[.ref A.a])(_:aL T n ρ A H st)(_:∀r,H r=none->Q (.ref r) (upd H r (.lst (st.own.map V.str))))
def Kf(T:TC):Sp:=bx (X4 T)
inductive aah(T:TC)(vs:List V)(H:Hp)(Q:VK)(E:XK):Prop
 |mk(bt db sp kn:Addr)(stp:List Int)(prod top:Int)(_:vs=[.ref bt,.int top])(_:H bt=some (.ins T.bot db (jY sp prod kn)))(_:H sp=some (.lst (stp.map V.int)))(_:prod=stp.foldl (·*·) 1)(_:(∀s∈stp,2<=s))(_:Jm.Sz 8000 prod)(_:∀r H',aR H H'->H' r=some (tO (Jm.fr top prod))->Q (.ref r) H')
def ET(T:TC):Sp:=bx (aah T)
inductive X5(T:TC)(vs:List V)(H:Hp)(Q:VK)(E:XK):Prop
 |mk(bt db sp kn:Addr)(stp:List Int)(prod top:Int)(kvs:List (Key×V))(_:vs=[.ref bt,.int top])(_:H bt=some (.ins T.bot db (jY sp prod kn)))(_:H sp=some (.lst (stp.map V.int)))(_:prod=stp.foldl (·*·) 1)(_:(∀s∈stp,2<=s))(_:Jm.Sz 8000 prod)(_:H kn=some (.dK kvs))(_:J6 H kvs prod)(_:kvs.length<10000000)(_:(kvs.map (·.1)).Nodup)(_:∀r H' kvs',(∀b o,H b=some o->b≠kn->H' b=some o)->H' kn=some (.dK kvs')->J6 H' kvs' prod->kvs'.length<=kvs.length+1->(kvs'.map (·.1)).Nodup->H' r=some (tO (Jm.fr top prod))->Q (.ref r) H')
def Kg(T:TC):Sp:=bx (X5 T)
inductive kj(ρ:cu)(H:Hp):List V->List kL->Prop
 | nil:kj ρ H [] []
 | cons {r l:Addr} {x:kL} {ss:List V} {vs:List V} {as:List kL}:H r=some (.tup [.str x.nm,.str x.ow,.int x.wo,.ref l])->H l=some (.lst ss)->ρ l=none->jm H ss x.sh->kj ρ H vs as->kj ρ H (.ref r::vs) (x::as)
inductive X6(T:TC)(vs:List V)(H:Hp)(Q:VK)(E:XK):Prop
 |mk(n ρ A st:_)(_:vs=[.ref A.a])(_:HH T n ρ A H st)(_:∀r ws H',aR H H'->H r=none->H' r=some (.lst ws)->kj ρ H' ws st.bO->Q (.ref r) H')
def Kh(T:TC):Sp:=bx (X6 T)
theorem jw.mono{l:List Pt}(h:jw H vs l)(g:∀b xs,H b=some (.tup xs)->H' b=some (.tup xs)):jw H' vs l:=by
 induction h with
 | nil=>exact .nil
 | cons a _ ih=>exact .cons (g _ _ a) ih
theorem jw.snoc{l:List Pt}{r:Addr}(h:jw H vs l)(e:H r=some (DB p)):jw H (vs++[.ref r]) (l++[p]):=by
 induction h with
 | nil=>exact .cons e .nil
 | cons a _ ih=>exact .cons a ih
theorem jm.snoc{l:List (Str×Rat)}{r:Addr}{q:Rat}(h:jm H vs l)(e:H r=some (.tup [.str x,.ref f]))(e2:H f=some (tO q)):jm H (vs++[.ref r]) (l++[(x,q)]):=by
 induction h with
 | nil=>exact .cons e e2 .nil
 | cons a b _ ih=>exact .cons a b ih
theorem gj{p:Addr}(h:H p=none\/∃u,H p=some u/\isTup u=false):∀b xs,H b=some (.tup xs)->upd H p o b=some (.tup xs):=λb xs e=>by
 rw[ay (λz=>?_)]
 .exact e
 .rw [z]at e;rcases h with h|⟨u,h,t⟩
  .rw [h]at e;cases e
  .rw [h]at e;cases e;cases t
theorem Kl(h:isNm x=true):x.cps.toList.length<=100000:=by unfold isNm isName at h;have:=eF (nJ.mp (nJ.mp h).1).2;omega
theorem qT{o:Obj}(e:H d=some (.dK kvs))(s:aR (upd H d (.fu o (.dK kvs))) H1):aR H (upd H1 d (.dK kvs)):=λb u q=>by
 by_cases h:b=d
 .rw [h,e]at q;cases q;rw[h];exact ai
 .rw [ay h];exact s b u (by rw[ay h];exact q)
theorem eX{o:Obj}{u:HO}(e:H d=some (.dK kvs))(q:H b=some u)(h:∀k,u ≠ .dK k):upd H d (.fu o (.dK kvs)) b=some u:=by rw[ay (λz=>by rw[z,e]at q;cases q;exact h _ rfl)];exact q
theorem jq{o:Obj}(e:H d=some (.dK kvs))(q:upd H d (.fu o (.dK kvs)) b=none):H b=none:=by
 by_cases h:b=d
 .rw [h,ai]at q;cases q
 .rw [ay h]at q;exact q
theorem aR.tups(s:aR H H'):∀b xs,H b=some (.tup xs)->H' b=some (.tup xs):=λb xs h=>s b _ h
theorem take_snoc{α:Type}{l:List α}{x:α}(h:l[i]?=some x):l.take (i+1)=l.take i++[x] :=by rw[List.take_add_one,h];rfl
theorem sU{α β γ:Type}(f:α->β->γ){xs:List α}{ys:List β}{x:α}{y:β}(h1:xs[i]?=some x)(h2:ys[i]?=some y):List.zipWith f (xs.take (i+1)) (ys.take (i+1))=List.zipWith f (xs.take i) (ys.take i)++[f x y] :=by have l1:=(ee.mp h1).1;have l2:=(ee.mp h2).1;rw[take_snoc h1,take_snoc h2,List.zipWith_append (by rw[nK,nK];omega)];rfl
theorem gq{l:List Int}{v:V}(h:(l.map V.int)[i]?=some v):∃z,v =.int z/\l[i]?=some z:=by rw[cK]at h;obtain⟨z,hz,rfl⟩:=nI.mp h;exact⟨z,Z,hz⟩
theorem HH.mono{st:HS}(h:HH T n ρ A H st)(s:aR H H'):HH T n ρ A H' st:=⟨h.g.same s,h.h.mono s,h.wf⟩
theorem sV{u:HO}(c:ρ a=none)(h:H a=some u)(t:isTup u=false):Kp n ρ ρ H (upd H a o) ts:=⟨gj (.inr ⟨u,h,t⟩),λb x y w _ hc e=>⟨by rw[ay (λz=>by rw[z,c]at hc;cases hc)];exact e,hc⟩⟩
theorem HH.DE{st:HS}{u:HO}(h:HH T n ρ A H st)(c:ρ a=none)(e:H a=some u)(t:isTup u=false)(t2:isTup o=false):HH T n ρ A (upd H a o) st:=⟨h.g.wr t2,h.h.same (sV c e t),h.wf⟩
theorem Fr.new(f:Fr n ρ H ρ' H')(h:H a=none):Fr n ρ H ρ' (upd H' a o):=λb u e k=>by rw[ay (aD e h)];exact f b u e k
theorem GJ{α β γ:Type}(f:α->β->γ){xs:List α}{ys:List β}(h:xs.length=ys.length)(x:α)(y:β):List.zipWith f (xs++[x]) (ys++[y])=List.zipWith f xs ys++[f x y] :=by rw[List.zipWith_append h];rfl
theorem EU{st:HS}(w:Wf st){o:Str}(h:o∉st.own)(hl:st.own.length<100):Wf (g_ st o):=by
 have P:∀p∈(g_ st o).aj,∃p0∈st.aj,p={ p0 with row:=p0.row++[0] }:=λp hp=>by obtain⟨p0,h0,rfl⟩:=aZ.mp (show p∈st.aj.map _ from hp);exact⟨p0,h0,Z⟩
 have p1:=w.eE;refine⟨?_,w.yK,?_,λp hp=>?_,λp hp=>?_,λp hp=>?_,?_,?_,w.eE,w.pW,w.vd,?_,w.yL,?_,w.Ah,w.vf,w.GI,w.big,λc hc=>?_,λp hp=>?_,λp hp r hr=>?_,λp hp t ht=>?_,λp hp=>?_,λu hu=>?_⟩
 .exact o_ w.oM h
 .show ((st.aj.map λp=>{ p with row:=p.row++[0] }).map (·.nm)).Nodup;rw[gr];exact w.dM
 .obtain ⟨p0,h0,rfl⟩:=P p hp;exact w.sub p0 h0
 .obtain ⟨p0,h0,rfl⟩:=P p hp;show(p0.row++[0]).length=(st.own++[o]).length;rw[c7,c7,w.rows p0 h0];rfl
 .obtain ⟨p0,h0,rfl⟩:=P p hp;exact uS _ (w.ow p0 h0)
 .show (st.bD++[0]).length=(st.own++[o]).length;rw[c7,c7,w.gD];rfl
 .show (st.bH++[0]).length=(st.own++[o]).length;rw[c7,c7,w.mG];rfl
 .show (st.own++[o]).length<=100;rw[c7];exact hl
 .show (st.aj.map _).length<=1000;rw[aG];exact w.mH
 .rcases fq.mp (show c∈st.bD++[0]from hc)with z|z
  .exact w.oN c z
  .rw [eO.mp z];exact⟨kQ _,by show(0:Int)<=st.prod;omega⟩
 .obtain ⟨p0,h0,rfl⟩:=P p hp;exact w.sS p0 h0
 .obtain ⟨p0,h0,rfl⟩:=P p hp;rcases fq.mp (show r∈p0.row++[0]from hr)with z|z
  .exact w.oO p0 h0 r z
  .rw [eO.mp z];show -st.prod<=0/\0<=st.prod;omega
 .obtain ⟨p0,h0,rfl⟩:=P p hp;have el:p0.row.length=st.bD.length:=by rw[w.rows p0 h0,w.gD]
  have ht:t∈List.zipWith (λr c=>p0.sc*r+c) (p0.row++[0]) (st.bD++[0]):=ht;rw[GJ _ el _ _]at ht;rcases fq.mp ht with z|z
  .exact w.pX p0 h0 t z
  .rw [eO.mp z];show 0<=p0.sc*0+0/\p0.sc*0+0<=st.prod;omega
 .obtain ⟨p0,h0,rfl⟩:=P p hp;exact w.jK p0 h0
 .rcases fq.mp (show u∈st.bH++[0]from hu)with z|z
  .exact w.EN u z
  .rw [eO.mp z];exact pT (by decide +kernel)
theorem OD{st:HS}(w:Wf st)(h1:p.nm∉st.nms)(h2:st.nms.length<1000)(h3:st.aj.length<1000)(h4:p.row.length=st.own.length)(h5:p.ow∈st.own)(h6:1<=p.sc/\p.sc<=st.prod)(h7:∀r∈p.row,-st.prod<=r/\r<=st.prod)(h8:∀t∈List.zipWith (λr c=>p.sc*r+c) p.row st.bD,0<=t/\t<=st.prod)(h9:1<=p.wo/\0<=p.we):Wf (wU st p):=by
 have P:∀{M:Pt->Prop},(∀x∈st.aj,M x)->M p->∀x∈st.aj++[p],M x:=λa b x hx=>by
  rcases fq.mp hx with z|z
  .exact a x z
  .rw [eO.mp z];exact b
 refine⟨w.oM,o_ w.yK h1,?_,P (λx hx=>uS _ (w.sub x hx)) (gv _ (eO.mpr rfl)),P w.rows h4,P w.ow h5,w.gD,w.mG,w.eE,w.pW,w.vd,w.ki,?_,?_,w.Ah,w.vf,w.GI,w.big,w.oN,P w.sS h6,P w.oO h7,P w.pX h8,P w.jK h9,w.EN⟩
 . show((st.aj++[p]).map (·.nm)).Nodup
   rw[bX]
   refine o_ w.dM λm=>?_
   obtain⟨x,hx,e⟩:=aZ.mp m
   have e:x.nm=p.nm:=e
   exact h1 (by rw[<-e];exact w.sub x hx)
 . show(st.nms++[p.nm]).length<=1000
   rw[c7];exact h2
 . show(st.aj++[p]).length<=1000
   rw[c7];exact h3
theorem vg{α β γ:Type}{f:α->β->γ}{t:γ}:∀{xs:List α}{ys:List β},t∈List.zipWith f xs ys->∃x∈xs,∃y∈ys,t=f x y
 | [],_,h=>by simp at h
 | _::_,[],h=>by simp at h
 | x::xs,y::ys,h=>by
  rcases b8.mp (show t∈f x y::List.zipWith f xs ys from h)with e|m
  .exact ⟨x,cN,y,cN,e⟩
  .obtain ⟨a,ha,b,hb,e⟩:=vg m;exact⟨a,b7 _ ha,b,b7 _ hb,e⟩
theorem Km:∀{ts cs:List Int},List.zipWith (λr c=>1*r+c) (List.zipWith (λt c=>t-c) ts cs) cs=ts.take cs.length
 | [],_=>by simp
 | _::_,[]=>by simp
 | t::ts,c::cs=>by show(1*(t-c)+c)::List.zipWith _ (List.zipWith _ ts cs) cs=t::ts.take cs.length;rw[Km];congr 1;omega
theorem DF{b t:Int}(h:t∈(List.replicate n 0).set i b):t=0\/t=b:=by
 rcases Pz h with z|z
 .exact .inl (List.eq_of_mem_replicate z)
 .exact .inr z
variable {wo we:Int}
theorem OE{st:HS}(w:Wf st){o:Str}(h1:x∉st.nms)(h2:st.nms.length<1000)(h3:st.aj.length<1000)(ho:o∈st.own)(h4:1<=wo)(h5:0<=we):Wf (Be st x o wo we):=by
 have p1:=w.eE;refine OD w h1 h2 h3 ?_ ho ⟨kQ 1,w.eE⟩ (λr hr=>?_) (λt ht=>?_) ⟨h4,h5⟩
 .show (List.zipWith _ ((List.replicate st.own.length 0).set _ _) st.bD).length=_;rw[lR,iA,jW,w.gD,yx]
 .obtain ⟨t,ht,c,hc,rfl⟩:=vg (show r∈List.zipWith _ _ st.bD from hr);have:=w.oN c hc;rcases DF ht with rfl|rfl <;> omega
 .have e:List.zipWith (λr c=>1*r+c) (lU st ((List.replicate st.own.length 0).set (st.own.idxOf o) st.prod)) st.bD=_:=Km;have ht:t∈List.zipWith (λr c=>1*r+c) (lU st ((List.replicate st.own.length 0).set (st.own.idxOf o) st.prod)) st.bD:=ht;rw[e]at ht;rcases DF (List.mem_of_mem_take ht)with rfl|rfl <;> omega
theorem iW{u:HO}(h:a≠b):upd (upd H a o) b u=upd (upd H b u) a o:=by
 funext c;unfold upd;by_cases e1:c=b
 .rw [aC e1,aB (λz=>h (z.symm.trans e1)),aC e1]
 .rw [aB e1];by_cases e2:c=a
  .rw [aC e2,aC e2]
  .rw [aB e2,aB e2,aB e1]
theorem qU(h:H a=some o):upd H a o=H:=by
 funext c;unfold upd;by_cases e:c=a
 .rw [aC e,e,h]
 .rw [aB e]
theorem Kn{α:Type}(g:α->α){l:List α}{p:α}(h:l[i]?=some p):((l.take i).map g++l.drop i)[i]?=some p:=by
 have hi:=(ee.mp h).1;have e:((l.take i).map g).length=i:=by rw[aG,nK];omega
 rw[CL (by omega),e,AY,List.getElem?_drop];exact h
theorem Ko{α:Type}(g:α->α){l:List α}{p:α}(h:l[i]?=some p):((l.take i).map g++l.drop i).set i (g p)=(l.take (i+1)).map g++l.drop (i+1):=by
 have hi:=(ee.mp h).1;have e:((l.take i).map g).length=i:=by rw[aG,nK];omega
 have ep:l[i]=p:=by rw[bK hi]at h;exact fm h
 rw[List.set_append_right _ _ (by omega),e,AY,List.drop_eq_getElem_cons hi,PY,take_snoc h,bX,Jz];rfl
theorem qV{α β:Type}(g:α->α)(f:α->β)(hf:∀x,f (g x)=f x)(l:List α)(i:Nat):((l.take i).map g++l.drop i).map f=l.map f:=by rw[bX,gr,show f ∘ g=f from funext hf,<-bX,List.take_append_drop]
theorem pB{ps ps':List Pt}(h:ps.map (·.nm)=ps'.map (·.nm)):b_ ps qs=b_ ps' qs:=by
 have:∀{ps:List Pt},b_ ps qs=List.zipWith (λ(x:Str) q=>((Sum.inr x:Key),V.ref q.1)) (ps.map (·.nm)) qs:=λ{ps}=>by unfold b_;rw[List.zipWith_map_left]
 rw[this,this,h]
structure jL(p:Addr)(H:Hp)(ρ:cu)(H':Hp)(ρ':cu)(l:List (Addr×HO×qN)):Prop where
 m:∀e∈l,H' e.1=some e.2.1/\ρ' e.1=some e.2.2/\e.1≠p
 k:∀b o,H b=some o->b≠p->H' b=some o/\ρ' b=ρ b
 g:Gh ρ' H'
 pp:∃u,H' p=some u
theorem jL.new{p:Addr}{l:List (Addr×HO×qN)}{c:qN}(h:jL p H ρ H' ρ' l)(ha:H' a=none)(t:isTup o=false):jL p H ρ (upd H' a o) (cY ρ' a c) ((a,o,c)::l):=by
 obtain⟨u,hu⟩:=h.pp;refine⟨λe he=>?_,λb w hb hp=>?_,(h.g.alloc ha).color ai t,u,by rw[ay (aD hu ha)];exact hu⟩
 .rcases b8.mp he with rfl|he
  .exact ⟨ai,cE,λz=>by rw[show a=p from z,hu]at ha;cases ha⟩
  .obtain ⟨x,y,z⟩:=h.m e he;have:e.1≠a:=aD x ha;rw[ay this,bB this];exact⟨x,y,z⟩
 .obtain ⟨x,y⟩:=h.k b w hb hp;have:b≠a:=aD x ha;rw[ay this,bB this];exact⟨x,y⟩
theorem jL.wr{p:Addr}{l:List (Addr×HO×qN)}{u:HO}(h:jL p H ρ H' ρ' l)(t:isTup u=false):jL p H ρ (upd H' p u) ρ' l:=by
 refine⟨λe he=>?_,λb w hb hp=>?_,h.g.wr t,u,ai⟩
 .obtain ⟨x,y,z⟩:=h.m e he;rw[ay z];exact⟨x,y,z⟩
 .obtain ⟨x,y⟩:=h.k b w hb hp;rw[ay hp];exact⟨x,y⟩
theorem jL.same{p:Addr}{zJ:Hp}{l:List (Addr×HO×qN)}(h:jL p H ρ H' ρ' l)(s:aR H' zJ):jL p H ρ zJ ρ' l:=by obtain⟨u,hu⟩:=h.pp;exact⟨λe he=>let⟨x,y,z⟩:=h.m e he;⟨s _ _ x,y,z⟩,λb w hb hp=>let⟨x,y⟩:=h.k b w hb hp;⟨s _ _ x,y⟩,h.g.same s,u,s _ _ hu⟩
theorem jL.add{p:Addr}{H0:Hp}{ρ0:cu}{l l0:List (Addr×HO×qN)}{c:qN}(h:jL p H ρ H' ρ' l)(ha:H' a=some o)(t:isTup o=false)(h0:jL p H ρ H0 ρ0 l0)(hn:H0 a=none)(hl:∀e∈l,e.1≠a):jL p H ρ H' (cY ρ' a c) ((a,o,c)::l):=by
 refine⟨λe he=>?_,λb w hb hp=>?_,h.g.color ha t,h.pp⟩
 .rcases b8.mp he with rfl|he
  .obtain ⟨u,hu⟩:=h0.pp;exact⟨ha,cE,λz=>by rw[show a=p from z,hu]at hn;cases hn⟩
  .obtain ⟨x,y,z⟩:=h.m e he;rw[bB (hl e he)];exact⟨x,y,z⟩
 .obtain ⟨x,y⟩:=h.k b w hb hp;obtain⟨x0,_⟩:=h0.k b w hb hp;rw[bB (aD x0 hn)];exact⟨x,y⟩
theorem Kq:∀(l:List Int)(a:Int),l.foldl (·*·) a=a*l.foldl (·*·) 1
 | [],a=>by simp
 | s::l,a=>by rw[j7,Kq l (a*s),j7,Kq l (1*s),Int.one_mul,iB]
theorem EV(s:Int)(l:List Int):(s::l).foldl (·*·) 1=s*l.foldl (·*·) 1:=by rw[j7,Kq,Int.one_mul]
theorem X7(s:Int)(l:List Int):(l++[s]).foldl (·*·) 1=l.foldl (·*·) 1*s:=by rw[BR];rfl
theorem Kr:∀{l:List Int},(∀s∈l,2<=s)->1<=l.foldl (·*·) 1
 | [],_=>by decide
 | s::l,h=>by rw[EV];have h1:=h s cN;have h2:=Kr (l:=l) λx hx=>h x (b7 _ hx);have:=Int.mul_le_mul (a:=1) (b:=1) (c:=s) (d:=l.foldl (·*·) 1) (by omega) h2 (by decide) (by omega);omega
theorem Wl:∀{l:List Int}{s:Int},(∀s∈l,2<=s)->s∈l->s<=l.foldl (·*·) 1
 | [],_,_,h=>by simp at h
 | a::l,s,h,m=>by
  rw[EV];have h1:=h a cN;have h2:=Kr (l:=l) λx hx=>h x (b7 _ hx);rcases b8.mp m with rfl|m
  .have:=Jq h2 (by omega:0<=s);omega
  .have h3:=Wl (λx hx=>h x (b7 _ hx)) m;have:=Int.mul_le_mul_of_nonneg_right (by omega:1<=a) (by omega:0<=l.foldl (·*·) 1);omega
theorem Ss{t d s:Int}(hd:0<d)(hs:0<s)(c:Jm.cf t d=1):Jm.cf (t / Jm.cf t s) (d*(s / Jm.cf t s))=1/\0<d*(s / Jm.cf t s):=by
 have gp:0<Jm.cf t s:=Jm.JV t s (.inr hs);obtain⟨u,hu⟩:=Jm.xF t s;obtain⟨v,hv⟩:=Jm.pR t s;generalize eg:Jm.cf t s=g at *;have e1:t / g=u:=by rw[hu,EA _ (by omega)]
 have e2:s / g=v:=by rw[hv,EA _ (by omega)]
 have vp:0<v:=by
  rcases Int.lt_or_le 0 v with z|z
  .exact z
  .have:=Jq z (by omega:0<=g);omega
 rw[e1,e2];have c0:Nat.Coprime t.natAbs d.natAbs:=by unfold Jm.cf at c;exact_mod_cast c
 have c1:Nat.Coprime u.natAbs d.natAbs:=Nat.Coprime.coprime_dvd_left ⟨g.natAbs,by rw[hu,CS,Nat.mul_comm]⟩ c0;have c2:Nat.Coprime u.natAbs v.natAbs:=by
  have hg:Int.gcd t s=g.natAbs:=by unfold Jm.cf at eg;omega
  have hg2:Nat.gcd t.natAbs s.natAbs=g.natAbs:=hg;have:=Nat.coprime_div_gcd_div_gcd (m:=t.natAbs) (n:=s.natAbs) (by rw[hg2];omega);rw[hg2]at this;have gn:0<g.natAbs:=by omega
  rw[hu,hv,CS,CS,Nat.mul_div_cancel_left _ gn,Nat.mul_div_cancel_left _ gn]at this;exact this
 refine⟨?_,wH hd vp⟩;have:=Nat.Coprime.mul_right c1 c2;rw[<-CS]at this;unfold Jm.cf;exact_mod_cast this
theorem U1{κ:Type}[DecidableEq κ]{kvs:List (κ×V)}{k:κ}{v:V}(h:dY kvs k=some v):(k,v)∈kvs:=by unfold dY at h;obtain⟨p,hp,rfl⟩:=nI.mp h;have:=List.find?_some hp;have e:p.1=k:=eF this;rw[<-e];exact List.mem_of_find?_eq_some hp
theorem aL.U3{st:HS}(h:aL T n ρ A H st)(k:∀b o,H b=some o->b≠A.kn->H' b=some o)(e1:H' A.kn=some (.dK kvs))(e2:J6 H' kvs st.prod)(e3:kvs.length<=m)(e4:(kvs.map (·.1)).Nodup):aL T n ρ A H' { st with kn:=m }:=by
 obtain⟨kv0,k0,_⟩:=h.okn;have z:=λ{b:Addr}{t:Nat}{x:Str}{o:HO}(u:t≠9)(c:ρ b=some (n,t,x))(e:H b=some o)=>k b o e (Dy c h.gP (λw=>by cases w;exact u rfl));have tp:∀b xs,H b=some (.tup xs)->H' b=some (.tup xs):=λb xs e=>k b _ e (i8 e k0 (by intro w;cases w));obtain⟨vs,h1,h2⟩:=h.nt;have kp:Kp n ρ ρ H H' λt=>decide (t≠9):=⟨tp,λb t x o u c e=>⟨z (eF u) c e,c⟩⟩
 exact⟨z (by decide) h.ca h.oa,h.ca,z (by decide) h.gE h.gY,h.gE,z (by decide) h.fC h.dF,h.fC,⟨vs,z (by decide) h.gI h1,h2.keep kp (by decide)⟩,h.gI,z (by decide) h.gJ h.nu,h.gJ,z (by decide) h.gK h.jb,h.gK,z (by decide) h.gM h.iL,h.gM,z (by decide) h.cpu h.jC,h.cpu,z (by decide) h.gO h.lZ,h.gO,⟨kvs,e1,e2,e3,e4⟩,h.gP,h.ql,
  λi p q a b=>let⟨x,y,c,d⟩:=h.opt i p q a b;⟨z (by decide) c x,z (by decide) d y,c,d⟩⟩
theorem QJ{st:HS}(w:Wf st)(h:m<=1000000):Wf { st with kn:=m }:=⟨w.oM,w.yK,w.dM,w.sub,w.rows,w.ow,w.gD,w.mG,w.eE,w.pW,w.vd,w.ki,w.yL,w.mH,w.Ah,w.vf,h,w.big,w.oN,w.sS,w.oO,w.pX,w.jK,w.EN⟩
theorem j_.length(h:j_ n ρ H vs l):vs.length=l.length:=by
 induction h with
 | nil=>rfl
 | cons _ _ _ _ _ ih=>simp[ih]
theorem j_.get(h:j_ n ρ H vs l):∀{i:Nat}{x:V},vs[i]?=some x->∃r q y ss,x =.ref r/\l[i]?=some y/\H r=some (.tup [.str y.nm,.str y.ow,.int y.wo,.ref q])/\H q=some (.lst ss)/\ρ q=some (n,30,⟨#[]⟩)/\jm H ss y.sh:=by
 induction h with
 | nil=>intro i x e;simp at e
 | @cons r q y ss vs as a b c d _ ih=>
  intro i x e;cases i with
  | zero=>simp at e;subst e;exact⟨r,q,y,ss,Z,Z,a,b,c,d⟩
  | succ i=>simp at e;obtain⟨r',q',y',ss',e1,e2,e3⟩:=ih e;exact⟨r',q',y',ss',e1,by simpa using e2,e3⟩
inductive kT(a:Addr)(ρ:cu)(H:Hp):List V->List kL->Prop
 | nil:kT a ρ H [] []
 | cons {r l:Addr} {x:kL} {ss:List V} {vs:List V} {as:List kL}:H r=some (.tup [.str x.nm,.str x.ow,.int x.wo,.ref l])->H l=some (.lst ss)->ρ l=none->l≠a->jm H ss x.sh->kT a ρ H vs as->kT a ρ H (.ref r::vs) (x::as)
theorem kT.to(h:kT a ρ H vs l):kj ρ H vs l:=by
 induction h with
 | nil=>exact .nil
 | cons x y z _ w _ ih=>exact .cons x y z w ih
theorem kT.mono(h:kT a ρ H vs l)(g:aR H H'):kT a ρ H' vs l:=by
 induction h with
 | nil=>exact .nil
 | cons x y z n w _ ih=>exact .cons (g _ _ x) (g _ _ y) z n (w.mono g.tups) ih
theorem kT.upd(h:kT a ρ H vs l)(ha:H a=some (.lst xs)):kT a ρ (L2.upd H a (.lst ys)) vs l:=by
 induction h with
 | nil=>exact .nil
 | cons x y z n w _ ih=>exact .cons (gj (.inr ⟨_,ha,Z⟩) _ _ x) (by rw[ay n];exact y) z n (w.mono (gj (.inr ⟨_,ha,Z⟩))) ih
theorem kT.snoc{as:List kL}{r l:Addr}{x:kL}(h:kT a ρ H vs as)(e1:H r=some (.tup [.str x.nm,.str x.ow,.int x.wo,.ref l]))(e2:H l=some (.lst ss))(e3:ρ l=none)(e5:l≠a)(e4:jm H ss x.sh):kT a ρ H (vs++[.ref r]) (as++[x]):=by
 induction h with
 | nil=>exact .cons e1 e2 e3 e5 e4 .nil
 | cons x y z n w _ ih=>exact .cons x y z n w ih
def Sq(K:Fg)(H:Hp)(r:Addr)(xs:List V):Prop:=aI K H r xs\/dz K H r xs
theorem aR.sq{r:Addr}(g:aR H H')(h:Sq K H r xs):Sq K H' r xs:=h.elim (λz=> .inl (g.seq z)) λz=> .inr (g.tup z)
structure vh(K:Fg)(H:Hp)(us:List V)(ps:List Pt):Prop where
 len:us.length=ps.length
 at_:∀(i:Nat)(p:Pt),ps[i]?=some p->∃r xs,us[i]?=some (.ref r)/\Sq K H r xs/\xs[0]?=some (.str p.nm)/\xs[1]?=some (.str p.ow)/\xs[2]?=some (.int p.wo)/\xs[3]?=some (.int p.we)
theorem vh.mono{us:List V}{ps:List Pt}(h:vh K H us ps)(g:aR H H'):vh K H' us ps:=⟨h.len,λi p e=>let⟨r,xs,a,b,c⟩:=h.at_ i p e;⟨r,xs,a,g.sq b,c⟩⟩
def jM(own:List Str)(tops:List Int)(b:Int):List (Str×Rat):=(List.zip own tops).filterMap λx=>if 0<x.2 then some (x.1,Jm.fr x.2 b) else none
theorem jw.length{l:List Pt}(h:jw H vs l):vs.length=l.length:=by
 induction h with
 | nil=>rfl
 | cons _ _ ih=>simp[ih]
theorem jw.get{l:List Pt}(h:jw H vs l):∀{i:Nat}{p:Pt},l[i]?=some p->∃r,vs[i]?=some (.ref r)/\H r=some (DB p):=by
 induction h with
 | nil=>intro i p e;simp at e
 | @cons r q vs ps a _ ih=>
  intro i p e;cases i with
  | zero=>simp at e;subst e;exact⟨r,Z,a⟩
  | succ i=>simp at e;obtain⟨r',e1,e2⟩:=ih e;exact⟨r',by simpa using e1,e2⟩
def U4(x:Str):Prop:=pU x.cps.toList
theorem QK:∀i:Fin 26,Dm "abcdefghijklmnopqrstuvwxyz" (97+i.val)=true:=by decide +kernel
theorem U4.isNm(h:U4 x):L2.isNm x=true:=by unfold L2.isNm isName;have h1:=h.lo;have h2:=h.hi;refine nJ.mpr ⟨nJ.mpr ⟨bq (by omega),bq (by omega)⟩,pK.mpr λc hc=>?_⟩;have h3:=h.XR c hc;have:=QK ⟨c-97,by omega⟩;rw[show 97+(c-97)=c from by omega]at this;exact this
theorem wV:∀(l:List Str)(st:HS),(l.foldl g_ st).own=st.own++l
 | [],st=>by simp
 | o::l,st=>by rw[j7,wV l];show(st.own++[o])++l=_;rw[Jz];rfl
theorem iR(K:Fg)(hK:X.K=K:=by rfl):zy X (Zu K):=hK▸Zv
theorem Sq.ix{r:Addr}{v:V}{Q:VK}(h:Sq K H r xs)(e:xs[i]?=some v)(q:Q v H):Zu K (.ref r) (.int (i:Int)) H Q:=by
 rcases h with h|h
 .exact .inl ⟨r,xs,i,v,Z,Z,h,aM e,q⟩
 .exact .inr (.inl ⟨r,xs,i,v,Z,Z,h,aM e,q⟩)
theorem Fr.at(f:Fr n ρ H ρ' H')(e:H b=some o)(c:ρ b=none):H' b=some o/\ρ' b=none:=by obtain⟨a,d⟩:=f b o e (λt x=>by rw[c];intro z;cases z);exact⟨a,d.trans c⟩
theorem Fr.seq(f:Fr n ρ H ρ' H'){l:Addr}(h:aI K H l xs)(c:ρ l=none):aI K H' l xs:=by
 rcases h with(h|⟨o,h⟩)|h
 .exact .inl (.inl (f.at h c).1)
 .exact .inl (.inr ⟨o,(f.at h c).1⟩)
 .exact .inr h
def DG(nss:List (List Nat)):List Str:=nss.map tx
theorem X8(nss:List (List Nat)):sR nss=(DG nss).map V.str:=by unfold sR DG;rw[gr];rfl
theorem GK(h:nss.Nodup):(DG nss).Nodup:=by unfold DG;exact List.Pairwise.map tx (λa b hab e=>hab (R_ e)) h
theorem Su(h:∀x∈nss,pU x):∀o∈DG nss,U4 o:=λo ho=>by obtain⟨x,hx,rfl⟩:=aZ.mp ho;show pU (tx x).cps.toList;rw[show(tx x).cps.toList=x from by simp];exact h x hx
theorem OF(nss:List (List Nat)):(DG nss).length=nss.length:=by unfold DG;rw[aG]
theorem Ks(x:Str)(l:List Str):C9 (.str x) (l.map V.str)=decide (x∈l):=by
 have:=Ou x.cps.toList (l.map λy=>y.cps.toList);rw[J0]at this;rw[show sR (l.map λy=>y.cps.toList)=l.map V.str from by unfold sR;rw[gr];congr 1;]at this;rw[this];congr 1;refine propext ⟨λm=>?_,λm=>aZ.mpr ⟨x,m,Z⟩⟩;obtain⟨y,hy,e⟩:=aZ.mp m;have:tx y.cps.toList=tx x.cps.toList:=by rw[e]
 rw[J0,J0]at this;rw[<-this];exact hy
theorem wW(l:List Str):(l.map V.str).all rV=true:=by rw[List.all_map];exact pK.mpr λ_ _=>rfl
theorem Ku{l:List Str}{d:Int}(h0:0<=d)(h1:d<(l.length:Int)):∃(j:Nat)(o:Str),d=(j:Int)/\l[j]?=some o/\sO (l.map V.str) d=some (.str o):=by
 obtain⟨j,rfl⟩:∃j:Nat,d=(j:Int):=⟨d.toNat,by omega⟩
 have hj:j<l.length:=by omega
 exact⟨j,l[j],Z,bK hj,aM (by rw[cK,bK hj];rfl)⟩
section
variable {T:TC}{n:Nat}{L H:Hp}{x lp:Addr}{st:HS}{ps:List Pt}
end
theorem qW{α:Type}{l:List α}(nd:l.Nodup){x:α}(h:l[i]?=some x):x∉l.take i:=λm=>by have h2:(l.take (i+1)).Nodup:=nd.sublist (Qa _ _);rw[take_snoc h]at h2;exact(JB.mp h2).2.2 x m x (eO.mpr rfl) rfl
abbrev Row:=Str×Int
def tT(r:Row):HO:=.tup [.str r.1,.int r.2]
inductive dH(H:Hp):List V->List Row->Prop
 | nil:dH H [] []
 | cons {a:Addr} {r:Row} {vs:List V} {rs:List Row}:H a=some (tT r)->dH H vs rs->dH H (.ref a::vs) (r::rs)
theorem dH.mono{l:List Row}(h:dH H vs l)(g:∀b xs,H b=some (.tup xs)->H' b=some (.tup xs)):dH H' vs l:=by
 induction h with
 | nil=>exact .nil
 | cons a _ ih=>exact .cons (g _ _ a) ih
theorem dH.length{l:List Row}(h:dH H vs l):vs.length=l.length:=by
 induction h with
 | nil=>rfl
 | cons _ _ ih=>simp[ih]
theorem dH.get{l:List Row}(h:dH H vs l):∀{i:Nat}{x:V},vs[i]?=some x->∃a r,x =.ref a/\l[i]?=some r/\H a=some (tT r):=by
 induction h with
 | nil=>intro i x e;simp at e
 | @cons a r vs rs e0 _ ih=>
  intro i x e;cases i with
  | zero=>simp at e;subst e;exact⟨a,r,Z,Z,e0⟩
  | succ i=>simp at e;obtain⟨a',r',e1,e2,e3⟩:=ih e;exact⟨a',r',e1,by simpa using e2,e3⟩
variable {r:Row}
theorem dH.snoc{l:List Row}(h:dH H vs l)(e:H a=some (tT r)):dH H (vs++[.ref a]) (l++[r]):=by
 induction h with
 | nil=>exact .cons e .nil
 | cons a _ ih=>exact .cons a ih
def iM(rs:List Row):List (Key×V):=rs.map λr=>((Sum.inr r.1:Key),V.int r.2)
theorem yM(rs:List Row):(iM rs).length=rs.length:=by unfold iM;rw[aG]
variable {rs:List Row}
theorem GL(h:x∉rs.map (·.1)):dY (iM rs) (Sum.inr x)=none:=by
 unfold iM
 induction rs with
 | nil=>rfl
 | cons a l ih=>rw[bz,fk (λz=>h (by rw[bz,<-rS z];exact cN))];exact ih λm=>h (by rw[bz];exact b7 _ m)
def aQ(rs:List Row):Int:=(rs.map (·.2)).sum
def bJ(st:HS)(x:Str):Pt:=(st.aj.find? λp=>decide (p.nm=x)).getD ⟨x,x,0,0,1,[]⟩
theorem OG{st:HS}(nd:(st.aj.map (·.nm)).Nodup)(h:st.aj[i]?=some p):bJ st p.nm=p:=by
 unfold bJ;have:st.aj.find? (λq=>decide (q.nm=p.nm))=some p:=by
  generalize st.aj=ps at *
  induction ps generalizing i with
  | nil=>simp at h
  | cons a ps ih=>
   obtain⟨h1,h2⟩:=fU.mp (show(a.nm::ps.map (·.nm)).Nodup from nd);cases i with
   | zero=>
    have:a=p:=by simpa using h
    subst this;rw[uA,bq rfl]
   | succ i=>
    have h':ps[i]?=some p:=by simpa using h
    rw[uA,dG (λe=>h1 (aZ.mpr ⟨p,cC h',e.symm⟩))];exact ih h2 h'
 rw[this];rfl
def jZ(st:HS)(sums:List Int)(r:Row):List Int:=List.zipWith (λold own=>old+(r.2*(bJ st r.1).sc)*own) sums (bJ st r.1).row
def dW(st:HS)(rs:List Row):List Int:=rs.foldl (jZ st) (st.bD.map λc=>aQ rs*c)
def p6(s:Int)(ts:List Int):Int:=ts.foldl (λs t=>Jm.cf t s) s
def jc(st:HS)(kept:Int):List Int:=st.aj.map λp=>p.sc*kept
def fZ(st:HS)(kept:Int)(added:List Int):List Int:=List.zipWith (λt m=>t*kept+m) st.bD added
def cA(st:HS)(kept whole:Int)(added:List Int):Int:=p6 whole (jc st kept++fZ st kept added)
def eZ(st:HS)(s:Int):HS:=if 1<s then{ st with stp:=st.stp++[s],prod:=st.prod*s,kn:=0 } else st
def aN(st:HS)(kept whole:Int)(added:List Int):HS:=eZ { st with aj:=st.aj.map (λp=>{ p with sc:=p.sc*kept / cA st kept whole added }),bD:=(fZ st kept added).map (· / cA st kept whole added),bH:=st.bH.map (·*(whole / cA st kept whole added)) } (whole / cA st kept whole added)
def jN(ps:List Pt)(x:Str)(a:Int):List Pt:=(ps.map λp=>if p.nm=x then{ p with wo:=p.wo-a } else p).filter λp=>decide (p.wo≠0)
def cS(st:HS)(r:Row):HS:={ st with aj:=jN st.aj r.1 r.2 }
def cV(st:HS)(rs:List Row):HS:=rs.foldl cS (aN st (aE st-aQ rs) (aE st) (dW st rs))
inductive agt(vs:List V)(H:Hp)(Q:VK)(E:XK):Prop
 |mk(a:Int)(_:vs=[.int a])(_:1<=a)(_:Q .cT H)
def ac3:Sp:=bx (agt)
inductive agu(vs:List V)(H:Hp)(Q:VK)(E:XK):Prop
 |mk(m a:Int)(_:vs=[.int m,.int a])(_:1<=a)(_:a<=m)(_:Q .cT H)
def Wm:Sp:=bx (agu)
inductive ac4(K:Fg)(vs:List V)(H:Hp)(Q:VK)(E:XK):Prop
 |mk(l:Addr)(us:List V)(rs:List Row)(_:vs=[.ref l])(_:aI K H l us)(_:dH H us rs)(_:(rs.map (·.1)).Nodup)(_:rs≠[])(_:rs.length<=1000)(_:∀d H',aR H H'->H d=none->H' d=some (.dK (iM rs))->Q (.ref d) H')
def Sv(K:Fg):Sp:=bx (ac4 K)
inductive ac5(K:Fg)(vs:List V)(H:Hp)(Q:VK)(E:XK):Prop
 |mk(s:Int)(l:Addr)(ts:List Int)(_:vs=[.int s,.ref l])(_:aI K H l (ts.map V.int))(_:0<=s)(_:(∀t∈ts,0<=t))(_:Q (.int (p6 s ts)) H)
def Sw(K:Fg):Sp:=bx (ac5 K)
inductive ac6(T:TC)(vs:List V)(H:Hp)(Q:VK)(E:XK):Prop
 |mk(n ρ A st s:_)(_:vs=[.ref A.bt,.int s])(_:Gh ρ H)(_:aL T n ρ A H st)(_:st.stp.length<=1000)(_:Jm.Sz 9000 st.prod)(_:Jm.Sz 9000 s)(_:∀ρ' A' H',Gh ρ' H'->aL T n ρ' A' H' (eZ st s:_)->A'.a=A.a->Fr n ρ H ρ' H'->Q .cT H')
def Sx(T:TC):Sp:=bx (ac6 T)
inductive aai(T:TC)(vs:List V)(H:Hp)(Q:VK)(E:XK):Prop
 |mk(n ρ A st:_)(d:Addr)(rs:List Row)(_:vs=[.ref A.a,.ref d])(_:aL T n ρ A H st)(_:Wf st)(_:H d=some (.dK (iM rs)))(_:ρ d=none)(_:rs.length<=1000)(_:(∀r∈rs,Jm.Sz 60 r.2/\∃p∈st.aj,p.nm=r.1))(_:∀l H',aR H H'->H l=none->H' l=some (.lst ((dW st rs).map V.int))->Q (.ref l) H')
def OH(T:TC):Sp:=bx (aai T)
inductive aaj(T:TC)(K:Fg)(vs:List V)(H:Hp)(Q:VK)(E:XK):Prop
 |mk(n ρ A st:_)(kept whole:Int)(l:Addr)(added:List Int)(_:vs=[.ref A.a,.int kept,.int whole,.ref l])(_:HH T n ρ A H st)(_:aI K H l (added.map V.int))(_:added.length=st.bD.length)(_:0<kept)(_:0<whole)(_:Jm.Sz 60 kept)(_:Jm.Sz 60 whole)(_:(∀m∈added,0<=m/\Jm.Sz 8900 m))(_:(∀u∈st.bH,Jm.Sz 8900 u))(_:st.stp.length<100)(_:Wf (aN st kept whole added))(_:wR T n ρ A H (aN st kept whole added:_) λH'=>Q .cT H')
def EW(T:TC)(K:Fg):Sp:=bx (aaj T K)
inductive ac7(T:TC)(vs:List V)(H:Hp)(Q:VK)(E:XK):Prop
 |mk(n ρ A st:_)(r:Row)(_:vs=[.ref A.a,.str r.1,.int r.2])(_:HH T n ρ A H st)(_:(∃p∈st.aj,p.nm=r.1/\r.2<=p.wo))(_:Wf (cS st r))(_:wR T n ρ A H (cS st r:_) λH'=>Q .cT H')
def Kv(T:TC):Sp:=bx (ac7 T)
structure jO(st:HS)(rs:List Row):Prop where
 nd:(rs.map (·.1)).Nodup
 ne:rs≠[]
 len:rs.length<=1000
 row:∀r∈rs,1<=r.2/\Jm.Sz 60 r.2/\∃p∈st.aj,p.nm=r.1/\r.2<=p.wo
 lost:aQ rs<aE st
 big:Jm.Sz 60 (aE st)
 prod:Jm.Sz 7900 st.prod
 bH:∀u∈st.bH,Jm.Sz 8900 u
 stp:st.stp.length<100
inductive ac8(T:TC)(K:Fg)(vs:List V)(H:Hp)(Q:VK)(E:XK):Prop
 |mk(n ρ A st:_)(l:Addr)(us:List V)(rs:List Row)(_:vs=[.ref A.a,.ref l])(_:HH T n ρ A H st)(_:aI K H l us)(_:dH H us rs)(_:jO st rs)(_:wR T n ρ A H (cV st rs:_) λH'=>Q .cT H')
def Kw(T:TC)(K:Fg):Sp:=bx (ac8 T K)
theorem Cb:∀{ps:List Pt}{qs:List (Addr×Addr×Addr)}{i:Nat}{p:Pt},(ps.map (·.nm)).Nodup->qs.length=ps.length->ps[i]?=some p->m8 (b_ ps qs) (Sum.inr p.nm)=b_ (ps.eraseIdx i) (qs.eraseIdx i)
 | [],_,_,_,_,_,h=>by simp at h
 | _::_,[],_,_,_,hl,_=>by simp at hl
 | a::ps,b::qs,0,p,nd,hl,h=>by
  have e:a=p:=by simpa using h
  subst e;obtain⟨h1,h2⟩:=fU.mp (show(a.nm::ps.map (·.nm)).Nodup from nd);show m8 ((Sum.inr a.nm,V.ref b.1)::b_ ps qs) (Sum.inr a.nm)=b_ ps qs;unfold m8;rw[gC,aB (by simp)];refine ED.mpr λkv hkv=>?_;unfold b_ at hkv;obtain⟨x,hx,y,hy,rfl⟩:=vg hkv;exact bq λz=>h1 (aZ.mpr ⟨x,hx,rS z⟩)
 | a::ps,b::qs,i+1,p,nd,hl,h=>by
  obtain⟨h1,h2⟩:=fU.mp (show(a.nm::ps.map (·.nm)).Nodup from nd);have h':ps[i]?=some p:=by simpa using h
  have ih:=Cb h2 (by simpa using hl) h';show m8 ((Sum.inr a.nm,V.ref b.1)::b_ ps qs) (Sum.inr p.nm)=(Sum.inr a.nm,V.ref b.1)::b_ (ps.eraseIdx i) (qs.eraseIdx i);rw[<-ih];unfold m8;have hne:¬ (Sum.inr a.nm:Key)=Sum.inr p.nm:=λz=>h1 (aZ.mpr ⟨p,cC h',(rS z).symm⟩);rw[gC,aC (by simpa using λe:a.nm=p.nm=>hne (by rw[e]))]
theorem Cc:∀{ps:List Pt}{i:Nat}{p:Pt}{a:Int},(ps.map (·.nm)).Nodup->(∀q∈ps,q.wo≠0)->ps[i]?=some p->jN ps p.nm a=if p.wo-a=0 then ps.eraseIdx i else ps.set i { p with wo:=p.wo-a }
 | [],_,_,_,_,_,h=>by simp at h
 | x::ps,0,p,a,nd,hw,h=>by
  have e:x=p:=by simpa using h
  subst e;obtain⟨h1,h2⟩:=fU.mp (show(x.nm::ps.map (·.nm)).Nodup from nd);have rest:jN ps x.nm a=ps:=by
   unfold jN;rw[show(ps.map λp=>if p.nm=x.nm then{ p with wo:=p.wo-a } else p)=ps from by
    conv=>rhs;rw[<-List.map_id ps]
    exact pI λy hy=>aB λz=>h1 (aZ.mpr ⟨y,hy,z⟩)]
   exact ED.mpr λy hy=>bq (hw y (b7 _ hy))
  show((x::ps).map λp=>if p.nm=x.nm then{ p with wo:=p.wo-a } else p).filter _=_;rw[bz,aC rfl,gC];by_cases c:x.wo-a=0
  .rw [aC c,aB (by simp[c])];exact rest
  .rw [aB c,aC (by simpa using c)];show _::jN ps x.nm a=_;rw[rest];rfl
 | x::ps,i+1,p,a,nd,hw,h=>by
  obtain⟨h1,h2⟩:=fU.mp (show(x.nm::ps.map (·.nm)).Nodup from nd);have h':ps[i]?=some p:=by simpa using h
  have ih:=Cc (a:=a) h2 (λq hq=>hw q (b7 _ hq)) h';have xn:¬ x.nm=p.nm:=λz=>h1 (aZ.mpr ⟨p,cC h',z.symm⟩);show((x::ps).map λq=>if q.nm=p.nm then{ q with wo:=q.wo-a } else q).filter _=_;rw[bz,aB xn,gC,aC (bq (hw x cN))];show x::jN ps p.nm a=_;rw[ih];by_cases c:p.wo-a=0
  .rw [aC c,aC c];rfl
  .rw [aB c,aB c];rfl
theorem sW{α:Type}:∀{l:List α}{i:Nat}{x:α},l[i]?=some x->l.set i x=l
 | [],_,_,h=>by simp at h
 | a::l,0,x,h=>by
  have:a=x:=by simpa using h
  rw[this];rfl
 | a::l,i+1,x,h=>by rw[Jw,sW (by simpa using h)]
theorem Aj{α β:Type}{l:List α}{m:List β}{x:α}{y:β}(h1:(l.eraseIdx i)[j]?=some x)(h2:(m.eraseIdx i)[j]?=some y):∃k:Nat,l[k]?=some x/\m[k]?=some y:=by
 rw[List.getElem?_eraseIdx]at h1 h2;by_cases c:j<i
 .rw [aC c]at h1 h2;exact⟨j,h1,h2⟩
 .rw [aB c]at h1 h2;exact⟨j+1,h1,h2⟩
theorem Ak:∀(ts:List Int)(s:Int),p6 s ts∣s/\∀t∈ts,p6 s ts∣t
 | [],s=>⟨Int.dvd_refl _,λ_ h=>absurd h (by simp)⟩
 | t::ts,s=>by
  obtain⟨h1,h2⟩:=Ak ts (Jm.cf t s);refine⟨Int.dvd_trans h1 (Jm.pR t s),λu hu=>?_⟩;rcases b8.mp hu with rfl|hu
  .exact Int.dvd_trans h1 (Jm.xF u s)
  .exact h2 u hu
theorem Al:∀(ts:List Int)(s:Int),0<s->0<p6 s ts
 | [],_,h=>h
 | t::ts,s,h=>Al ts _ (Jm.JV t s (.inr h))
theorem Am{st:HS}(h:aL T n ρ A H st)(g:Gh ρ H)(c:ρ a=none)(e:H a=some o)(ht:isTup o=false):aL T n (cY ρ a (n,t,⟨#[]⟩)) A H st/\Gh (cY ρ a (n,t,⟨#[]⟩)) H:=⟨h.same ⟨λ_ _ e=>e,λb u x w _ hc he=>⟨he,by rw[bB (λz=>by rw[z,c]at hc;cases hc)];exact hc⟩⟩,g.color e ht⟩
theorem Fr.oQ(f:Fr n ρ H ρ' H')(h:H a=none):Fr n ρ H (cY ρ' a (n,t,x)) H':=λb o e k=>by obtain⟨e1,e2⟩:=f b o e k;exact⟨e1,by rw[bB (aD e h)];exact e2⟩
theorem GN{d a b:Int}(hd:0<d)(h:a<=d*b):a / d<=b:=by
 have:=Int.ediv_le_ediv hd h
 rwa [EA _ (by omega)]at this
theorem yN{st:HS}{s:Int}(h:1<=s):(eZ st s).prod=st.prod*s:=by
 unfold eZ;by_cases c:1<s
 .rw [aC c]
 .rw [aB c,show s=1 by omega,uE]
theorem kM(st:HS)(s:Int):(eZ st s).aj=st.aj:=by unfold eZ;split <;> rfl
theorem GO(st:HS)(s:Int):(eZ st s).bD=st.bD:=by unfold eZ;split <;> rfl
theorem Ao(st:HS)(s:Int):(eZ st s).bH=st.bH:=by unfold eZ;split <;> rfl
theorem kN(st:HS)(s:Int):(eZ st s).own=st.own:=by unfold eZ;split <;> rfl
theorem mJ(st:HS)(s:Int):(eZ st s).nms=st.nms:=by unfold eZ;split <;> rfl
theorem kO(st:HS)(s:Int):(eZ st s).bO=st.bO:=by unfold eZ;split <;> rfl
theorem wX{α β γ:Type}{f:α->β->γ}{t:γ}:∀{xs:List α}{ys:List β},t∈List.zipWith f xs ys->∃(i:Nat)(x:α)(y:β),xs[i]?=some x/\ys[i]?=some y/\t=f x y:=λ{xs ys} h=>by
 obtain⟨i,hi,e⟩:=xy h;rw[lR]at hi;have h1:i<xs.length:=by omega
 have h2:i<ys.length:=by omega
 exact⟨i,xs[i],ys[i],bK h1,bK h2,by rw[<-e,List.getElem_zipWith]⟩
theorem X_{α β γ:Type}{f:α->β->γ}{xs:List α}{ys:List β}{x:α}{y:β}(h1:xs[i]?=some x)(h2:ys[i]?=some y):(List.zipWith f xs ys)[i]?=some (f x y):=by rw[PM,h1,h2]
theorem Cd{a b c:Int}(h:a<=b)(hc:0<=c):a*c<=b*c:=Int.mul_le_mul_of_nonneg_right h hc
structure jE(st:HS)(kept whole lost:Int)(added:List Int):Prop where
 k:0<kept
 l:0<=lost
 w:whole=kept+lost
 len:added.length=st.bD.length
 add:∀m∈added,0<=m/\m<=lost*st.prod
 prod:Jm.Sz 7900 st.prod
 big:Jm.Sz 60 whole
 bH:∀u∈st.bH,Jm.Sz 8900 u
 stp:st.stp.length<100
variable {lost:Int}{added:List Int}
theorem jE.dvds{st:HS}{kept whole:Int}(b:jE st kept whole lost added):0<cA st kept whole added/\cA st kept whole added∣whole/\(∀p∈st.aj,cA st kept whole added∣p.sc*kept)/\∀c∈fZ st kept added,cA st kept whole added∣c:=by
 have hw:0<whole:=by have:=b.k;have:=b.l;have:=b.w;omega
 have d:=Ak (jc st kept++fZ st kept added) whole;exact⟨Al _ _ hw,d.1,λp hp=>d.2 _ (uS _ (aZ.mpr ⟨p,hp,Z⟩)),λc hc=>d.2 _ (gv _ hc)⟩
theorem vj{st:HS}{kept whole:Int}(wf:Wf st)(b:jE st kept whole lost added):Wf (aN st kept whole added):=by
 obtain⟨hs,hsw,uY,hsc⟩:=b.dvds;have hk:=b.k;have hl:=b.l;have hw:=b.w;have p1:=wf.eE;have eB:aN st kept whole added=eZ { st with aj:=st.aj.map (λp=>{ p with sc:=p.sc*kept / cA st kept whole added }),bD:=(fZ st kept added).map (· / cA st kept whole added),bH:=st.bH.map (·*(whole / cA st kept whole added)) } (whole / cA st kept whole added):=rfl;rw[eB];generalize cA st kept whole added=d at *;obtain⟨s,es⟩:=hsw;have hs1:1<=s:=by
  rcases Int.lt_trichotomy s 0 with z|z|z
  .have:=Int.mul_neg_of_pos_of_neg hs z;omega
  .rw [z,Int.mul_zero]at es;omega
  .omega
 have ed:whole / d=s:=by rw[es,EA _ (by omega)]
 rw[ed];have ajp:s<=whole:=by rw[es];have:=Int.mul_le_mul_of_nonneg_right (show 1<=d by omega) (show 0<=s by omega);omega
 have zs:Jm.Sz 60 s:=b.big.of_le (by omega);have zp:Jm.Sz 8000 (st.prod*s):=(b.prod.mul zs).mono (by decide);have pp:st.prod<=st.prod*s:=by have:=Jq hs1 (show 0<=st.prod by omega);omega
 have U5:∀c∈(fZ st kept added).map (· / d),0<=c/\c<=st.prod*s:=λc hc=>by
  obtain⟨x,hx,rfl⟩:=aZ.mp hc;obtain⟨i,t,m,et,em,rfl⟩:=wX (show x∈List.zipWith (λt m=>t*kept+m) st.bD added from hx);have ht:=wf.oN t (cC et);have hm:=b.add m (cC em);have a1:0<=t*kept:=rR ht.1 (by omega);have a2:t*kept<=st.prod*kept:=Cd ht.2 (by omega);have a3:st.prod*kept+lost*st.prod=d*(st.prod*s):=by rw[pN lost,<-wI,<-hw,es,<-iB,<-iB,pN st.prod d]
  exact⟨Ja (by omega) (by omega),GN hs (by omega)⟩
 have sc':∀p∈st.aj,1<=p.sc*kept / d/\p.sc*kept / d<=st.prod*s/\d*(p.sc*kept / d)=p.sc*kept:=λp hp=>by
  have h0:=wf.sS p hp;obtain⟨z,ez⟩:=uY p hp;have a1:0<p.sc*kept:=wH (by omega) hk;have ez':p.sc*kept / d=z:=by rw[ez,EA _ (by omega)]
  have hz:1<=z:=by
   rcases Int.lt_trichotomy z 0 with y|y|y
   .have:=Int.mul_neg_of_pos_of_neg hs y;omega
   .rw [y,Int.mul_zero]at ez;omega
   .omega
  have a2:p.sc*kept<=st.prod*kept:=Cd h0.2 (by omega);have a3:st.prod*kept<=st.prod*whole:=Jq (by omega) (by omega);have a4:st.prod*whole=d*(st.prod*s):=by rw[es,<-iB,<-iB,pN st.prod d]
  refine⟨by rw[ez'];exact hz,GN hs (by omega),by rw[ez',ez]⟩
 have P:∀{M:Pt->Prop},(∀p∈st.aj,M { p with sc:=p.sc*kept / d })->∀p∈st.aj.map (λp=>{ p with sc:=p.sc*kept / d }),M p:=λh p hp=>by obtain⟨x,hx,rfl⟩:=aZ.mp hp;exact h x hx
 have top':∀p∈st.aj,∀t∈List.zipWith (λr c=>(p.sc*kept / d)*r+c) p.row ((fZ st kept added).map (· / d)),0<=t/\t<=st.prod*s:=λp hp t ht=>by
  obtain⟨i,r,c,er,ec,rfl⟩:=wX ht;rw[cK]at ec;obtain⟨x,ex,rfl⟩:=nI.mp ec;obtain⟨y,ey⟩:=hsc x (cC ex);have eyd:x / d=y:=by rw[ey,EA _ (by omega)]
  have ex':(List.zipWith (λt m=>t*kept+m) st.bD added)[i]?=some x:=ex;rw[PM]at ex';cases e1:st.bD[i]? with
  | none=>rw[e1]at ex';simp at ex'
  | some t0=>
   cases e2:added[i]? with
   | none=>rw[e1,e2]at ex';simp at ex'
   | some m=>
    rw[e1,e2]at ex';have ex2:t0*kept+m=x:=by simpa using ex'
    have hm:=b.add m (cC e2);have hT:=wf.pX p hp (p.sc*r+t0) (cC (X_ (f:=λr c=>p.sc*r+c) er e1));have hz:=(sc' p hp).2.2;have key:d*((p.sc*kept / d)*r+x / d)=(p.sc*r+t0)*kept+m:=by rw[wI,<-iB,hz,eyd,<-ey,<-ex2];rw[j9,iB,iB,pN kept r];omega
    have k1:0<=(p.sc*r+t0)*kept:=rR hT.1 (by omega);have k2:(p.sc*r+t0)*kept<=st.prod*kept:=Cd hT.2 (by omega);have a3:st.prod*kept+lost*st.prod=d*(st.prod*s):=by rw[pN lost,<-wI,<-hw,es,<-iB,<-iB,pN st.prod d]
    generalize (p.sc*kept / d)*r+x / d=W at *;constructor
    .rcases Int.lt_or_le W 0 with z|z
     .have:=Int.mul_neg_of_pos_of_neg hs z;omega
     .exact z
    .have:d*W<=d*(st.prod*s):=by omega
     exact Int.le_of_mul_le_mul_left this hs
 have nm':(st.aj.map (λp:Pt=>{ p with sc:=p.sc*kept / d })).map (λp:Pt=>p.nm)=st.aj.map (λp:Pt=>p.nm):=by rw[gr];rfl
 have e0:(fZ st kept added).length=st.bD.length:=by unfold fZ;rw[lR,b.len];omega
 have pu':∀u∈st.bH.map (·*s),Jm.Sz 9000 u:=λu hu=>by obtain⟨x,hx,rfl⟩:=aZ.mp hu;exact((b.bH x hx).mul zs).mono (by decide)
 have aak:∀p∈st.aj,∀r∈p.row,-(st.prod*s)<=r/\r<=st.prod*s:=λp hp r hr=>by have:=wf.oO p hp r hr;omega
 unfold eZ;by_cases c:1<s
 .rw [aC c];refine⟨wf.oM,wf.yK,by rw[nm'];exact wf.dM,P wf.sub,P wf.rows,P wf.ow,?_,?_,by show 1<=st.prod*s;omega,?_,λx hx=>?_,wf.ki,wf.yL,?_,?_,wf.vf,fH _,zp,U5,P λp hp=>⟨(sc' p hp).1,(sc' p hp).2.1⟩,P aak,P top',P wf.jK,pu'⟩
  .show (List.map _ (fZ st kept added)).length=_;rw[aG,e0,wf.gD]
  .show (List.map _ st.bH).length=_;rw[aG,wf.mG]
  .show st.prod*s=(st.stp++[s]).foldl (·*·) 1;rw[X7,<-wf.pW]
  .rcases fq.mp (show x∈st.stp++[s]from hx)with z|z
   .exact wf.vd x z
   .rw [eO.mp z];omega
  .show (List.map _ st.aj).length<=1000;rw[aG];exact wf.mH
  .show (st.stp++[s]).length<=100;rw[c7];exact b.stp
 .rw [aB c];have e1:s=1:=by omega
  subst e1;rw[uE]at U5 sc' aak top';refine⟨wf.oM,wf.yK,by rw[nm'];exact wf.dM,P wf.sub,P wf.rows,P wf.ow,?_,?_,wf.eE,wf.pW,wf.vd,wf.ki,wf.yL,?_,wf.Ah,wf.vf,wf.GI,wf.big,U5,P λp hp=>⟨(sc' p hp).1,(sc' p hp).2.1⟩,P wf.oO,P λp hp t ht=>?_,P wf.jK,pu'⟩
  .show (List.map _ (fZ st kept added)).length=_;rw[aG,e0,wf.gD]
  .show (List.map _ st.bH).length=_;rw[aG,wf.mG]
  .show (List.map _ st.aj).length<=1000;rw[aG];exact wf.mH
  .exact top' p hp t ht
def uI(st:HS)(acc:List Int)(rs:List Row):List Int:=rs.foldl (λs r=>List.zipWith (λx t=>x+r.2*t) s (aK st (bJ st r.1))) acc
theorem GP:∀(acc bD row:List Int)(a sc L:Int),List.zipWith (λold own=>old+(a*sc)*own) (List.zipWith (λs c=>s+(a+L)*c) acc bD) row=List.zipWith (λs c=>s+L*c) (List.zipWith (λx t=>x+a*t) acc (List.zipWith (λr c=>sc*r+c) row bD)) bD
 | [],_,_,_,_,_=>by simp
 | _::_,[],_,_,_,_=>by simp
 | _::_,_::_,[],_,_,_=>by simp
 | x::acc,c::bD,r::row,a,sc,L=>by
  simp only[EB];rw[GP acc bD row a sc L];congr 1
  grind
theorem Ky{st:HS}:∀(rs:List Row)(acc:List Int),rs.foldl (jZ st) (List.zipWith (λs c=>s+aQ rs*c) acc st.bD)=List.zipWith (λs c=>s+0*c) (uI st acc rs) st.bD
 | [],acc=>by show List.zipWith _ acc st.bD=_;rfl
 | r::rs,acc=>by
  rw[j7];have e:jZ st (List.zipWith (λs c=>s+aQ (r::rs)*c) acc st.bD) r=List.zipWith (λs c=>s+aQ rs*c) (List.zipWith (λx t=>x+r.2*t) acc (aK st (bJ st r.1))) st.bD:=by unfold jZ;rw[show aQ (r::rs)=r.2+aQ rs from by unfold aQ;rw[bz,dg]];exact GP acc st.bD (bJ st r.1).row r.2 (bJ st r.1).sc (aQ rs)
  rw[e,Ky rs];rfl
theorem GQ:∀(l:List Int)(L:Int),List.zipWith (λs c=>s+L*c) (List.replicate l.length 0) l=l.map λc=>L*c
 | [],_=>rfl
 | x::l,L=>by rw[kg,BQ,EB,GQ l L,wG];rfl
theorem Kz:∀(s l:List Int),s.length<=l.length->List.zipWith (λs c=>s+0*c) s l=s
 | [],_,_=>by simp
 | _::_,[],h=>by simp at h
 | x::s,c::l,h=>by rw[EB,Kz s l (by simpa using h),pO,Int.add_zero]
theorem Aq{st:HS}:∀(rs:List Row)(acc:List Int),(∀r∈rs,(aK st (bJ st r.1)).length=acc.length)->(uI st acc rs).length=acc.length
 | [],_,_=>rfl
 | r::rs,acc,h=>by
  have e:(List.zipWith (λx t=>x+r.2*t) acc (aK st (bJ st r.1))).length=acc.length:=by rw[lR,h r cN];omega
  show(uI st (List.zipWith (λx t=>x+r.2*t) acc (aK st (bJ st r.1))) rs).length=_;rw[Aq rs _ (λx hx=>by rw[e];exact h x (b7 _ hx)),e]
theorem BF{st:HS}(hP:0<=st.prod):∀(rs:List Row)(acc:List Int)(B:Int),(∀r∈rs,0<=r.2/\∀t∈aK st (bJ st r.1),0<=t/\t<=st.prod)->(∀x∈acc,0<=x/\x<=B)->∀x∈uI st acc rs,0<=x/\x<=B+aQ rs*st.prod
 | [],acc,B,_,ha,x,hx=>by have:=ha x hx;show 0<=x/\x<=B+0*st.prod;omega
 | r::rs,acc,B,h,ha,x,hx=>by
  have hr:=h r cN;have:=BF hP rs (List.zipWith (λx t=>x+r.2*t) acc (aK st (bJ st r.1))) (B+r.2*st.prod) (λy hy=>h y (b7 _ hy)) (λy hy=>by obtain⟨i,a,t,ea,et,rfl⟩:=wX hy;have h1:=ha a (cC ea);have h2:=hr.2 t (cC et);have h3:0<=r.2*t:=rR hr.1 h2.1;have h4:r.2*t<=r.2*st.prod:=Jq h2.2 hr.1;omega) x hx
  rw[show aQ (r::rs)=r.2+aQ rs from by unfold aQ;rw[bz,dg],j9];omega
theorem qX{st:HS}(wf:Wf st)(h:p∈st.aj):(aK st p).length=st.bD.length:=by unfold aK;rw[lR,wf.rows p h,wf.gD];omega
theorem bN{st:HS}(wf:Wf st)(h:p∈st.aj)(e:p.nm=x):bJ st x=p:=by obtain⟨i,hi,ei⟩:=xy h;rw[<-e];exact OG wf.dM (i:=i) (by rw[bK hi,ei])
theorem wY{st:HS}(wf:Wf st)(h:∀r∈rs,∃p∈st.aj,p.nm=r.1):dW st rs=uI st (List.replicate st.bD.length 0) rs:=by
 unfold dW;rw[<-GQ st.bD (aQ rs),Ky];refine Kz _ _ ?_;rw[Aq rs _ (λr hr=>by obtain⟨p,hp,e⟩:=h r hr;rw[bN wf hp e,jW,qX wf hp]),jW]
 exact aO _
theorem Sy{st:HS}(wf:Wf st)(h:∀r∈rs,1<=r.2/\∃p∈st.aj,p.nm=r.1):(dW st rs).length=st.bD.length/\∀m∈dW st rs,0<=m/\m<=aQ rs*st.prod:=by
 rw[wY wf (λr hr=>(h r hr).2)];have p1:=wf.eE;constructor
 .rw [Aq rs _ (λr hr=>by obtain⟨p,hp,e⟩:=(h r hr).2;rw[bN wf hp e,jW,qX wf hp]),jW]
 .intro m hm;have:=BF (st:=st) (by omega) rs (List.replicate st.bD.length 0) 0 (λr hr=>by obtain⟨h1,p,hp,e⟩:=h r hr;refine⟨by omega,?_⟩;rw[bN wf hp e];exact wf.pX p hp) (λx hx=>by rw[(List.mem_replicate.mp hx).2];omega) m hm
  omega
theorem DH{ps:List Pt}{a:Int}(h:p∈ps)(hn:p.nm≠x)(hw:p.wo≠0):p∈jN ps x a:=m7.mpr ⟨aZ.mpr ⟨p,h,by rw[aB hn]⟩,bq hw⟩
theorem qY{ps:List Pt}{a:Int}(h:p∈jN ps x a):p.wo≠0/\∃q∈ps,p=if q.nm=x then{ q with wo:=q.wo-a } else q:=by obtain⟨h1,h2⟩:=m7.mp h;obtain⟨q,hq,e⟩:=aZ.mp h1;exact⟨eF h2,q,hq,e.symm⟩
theorem uJ{ps:List Pt}{a:Int}:((jN ps x a).map (λp:Pt=>p.nm)).Sublist (ps.map (λp:Pt=>p.nm)):=by
 unfold jN;have e:(ps.map λp=>if p.nm=x then{ p with wo:=p.wo-a } else p).map (λp:Pt=>p.nm)=ps.map (λp:Pt=>p.nm):=by rw[gr];exact pI λp _=>by show(if p.nm=x then _ else p:Pt).nm=p.nm;split <;> rfl
 rw[<-e];exact List.filter_sublist.map _
theorem EX{st:HS}(wf:Wf st)(h:∀p∈st.aj,p.nm=r.1->r.2<=p.wo):Wf (cS st r):=by
 have P:∀{M:Pt->Prop},(∀p∈st.aj,M p)->(∀(p:Pt)(w:Int),M p->M { p with wo:=w })->∀p∈jN st.aj r.1 r.2,M p:=λh1 h2 p hp=>by
  obtain⟨_,q,hq,e⟩:=qY hp;rw[e];split
  .exact h2 _ _ (h1 q hq)
  .exact h1 q hq
 refine⟨wf.oM,wf.yK,wf.dM.sublist uJ,P wf.sub (λ_ _ z=>z),P wf.rows (λ_ _ z=>z),P wf.ow (λ_ _ z=>z),wf.gD,wf.mG,wf.eE,wf.pW,wf.vd,wf.ki,wf.yL,?_,wf.Ah,wf.vf,wf.GI,wf.big,wf.oN,P wf.sS (λ_ _ z=>z),P wf.oO (λ_ _ z=>z),P wf.pX (λ_ _ z=>z),λp hp=>?_,wf.EN⟩
 .have:=uJ (ps:=st.aj) (x:=r.1) (a:=r.2) |>.length_le;rw[aG,aG]at this;exact f_ this wf.mH
 .obtain ⟨h0,q,hq,e⟩:=qY hp;have:=wf.jK q hq;by_cases c:q.nm=r.1
  .rw [aC c]at e;subst e;have:=h q hq c;have h0:q.wo-r.2≠0:=h0;exact⟨by show 1<=q.wo-r.2;omega,by show 0<=q.we;omega⟩
  .rw [aB c]at e;rw[e];exact this
def Due(st:HS)(rs:List Row):Prop:=∀r∈rs,∃p∈st.aj,p.nm=r.1/\r.2<=p.wo
theorem uO{st:HS}(wf:Wf st){q:Pt}(hp:p∈st.aj)(hq:q∈st.aj)(e:p.nm=q.nm):p=q:=(bN wf hp rfl).symm.trans (by rw[e];exact bN wf hq rfl)
theorem KA{st:HS}(wf:Wf st)(d:Due st (r::rs)):Wf (cS st r):=by obtain⟨p,hp,e,hle⟩:=d r cN;exact EX wf λq hq eq=>by rw[uO wf hq hp (eq.trans e.symm)];exact hle
theorem Ce{st:HS}(wf:Wf st)(d:Due st (r::rs))(nd:((r::rs).map (λr:Row=>r.1)).Nodup):Due (cS st r) rs:=λx hx=>by obtain⟨p,hp,e,hle⟩:=d x (b7 _ hx);have hn:p.nm≠r.1:=λz=>(fU.mp nd).1 (aZ.mpr ⟨x,hx,e.symm.trans z⟩);have:=wf.jK p hp;exact⟨p,DH hp hn (by omega),e,hle⟩
theorem KC:∀{rs:List Row}{st:HS},Wf st->Due st rs->(rs.map (λr:Row=>r.1)).Nodup->Wf (rs.foldl cS st)
 | [],_,wf,_,_=>wf
 | r::rs,st,wf,d,nd=>show Wf (rs.foldl cS (cS st r))from KC (KA wf d) (Ce wf d nd) (fU.mp nd).2
theorem Ar{st:HS}{kept whole:Int}(d:Due st rs):Due (aN st kept whole added) rs:=λr hr=>by obtain⟨p,hp,e,hle⟩:=d r hr;refine⟨{ p with sc:=p.sc*kept / cA st kept whole added },?_,e,hle⟩;unfold aN;rw[kM];exact aZ.mpr ⟨p,hp,Z⟩
theorem jO.due{st:HS}(c:jO st rs):Due st rs:=λr hr=>(c.row r hr).2.2
theorem qZ:∀{rs:List Row},(∀r∈rs,1<=r.2)->0<=aQ rs
 | [],_=>kQ _
 | r::rs,h=>by have:=h r cN;have:=qZ (rs:=rs) λx hx=>h x (b7 _ hx);rw[show aQ (r::rs)=r.2+aQ rs from by unfold aQ;rw[bz,dg]];omega
theorem jO.blend{st:HS}(wf:Wf st)(c:jO st rs):jE st (aE st-aQ rs) (aE st) (aQ rs) (dW st rs):=by have g:=Sy wf (rs:=rs) (λr hr=>⟨(c.row r hr).1,by obtain⟨p,hp,e,_⟩:=(c.row r hr).2.2;exact⟨p,hp,e⟩⟩);have l0:=qZ (rs:=rs) λr hr=>(c.row r hr).1;have:=c.lost;exact⟨by omega,l0,by omega,g.1,g.2,c.prod,c.big,c.bH,c.stp⟩
theorem Yb{st:HS}(wf:Wf st)(c:jO st rs):Wf (cV st rs):=KC (vj wf (c.blend wf)) (Ar c.due) c.nd
structure QL(K:Fg)(H:Hp)(us:List V)(ws:List Row):Prop where
 len:us.length=ws.length
 at_:∀(i:Nat)(r:Row),ws[i]?=some r->∃a xs,us[i]?=some (.ref a)/\Sq K H a xs/\xs[0]?=some (.str r.1)/\xs[2]?=some (.int r.2)
theorem As:∀{l:List Str}{o:Str},o∈l->l[l.idxOf o]?=some o
 | [],_,h=>by simp at h
 | x::l,o,h=>by
  by_cases e:x=o
  .subst e;simp
  .have ho:o∈l:=by
    rcases b8.mp h with z|z
    .exact absurd z.symm e
    .exact z
   rw[List.idxOf_cons,show(x==o)=false from zT.mpr e];simpa using As ho
inductive agv(K:Fg)(vs:List V)(H:Hp)(Q:VK)(E:XK):Prop
 |mk(l:Addr)(us:List V)(ws:List Row)(i:Nat)(r:Row)(_:vs=[.ref l,.str r.1])(_:aI K H l us)(_:QL K H us ws)(_:(ws.map (λr:Row=>r.1)).Nodup)(_:ws.length<=1000)(_:ws[i]?=some r)(_:Q (.int (i:Int)) H)
def Wn(K:Fg):Sp:=bx (agv K)
structure KD(ws rs:List Row):Prop where
 nd:(rs.map (λr:Row=>r.1)).Nodup
 row:∀r∈rs,1<=r.2/\r.2<=1000000000/\∃w∈ws,w.1=r.1/\r.2<=w.2
 lost:aQ rs<aQ ws\/rs=[]
 len:rs.length<=ws.length
inductive aal(K:Fg)(vs:List V)(H:Hp)(Q:VK)(E:XK):Prop
 |mk(a l:Addr)(ns:List Int)(k:Int)(us:List V)(ws:List Row)(_:vs=[.ref a,.int k,.ref l])(_:aI K H a (ns.map V.int))(_:ns.length<=63)(_:0<=k)(_:k<=1000000)(_:aI K H l us)(_:QL K H us ws)(_:(ws.map (λr:Row=>r.1)).Nodup)(_:ws.length<=1000)(_:(∀w∈ws,1<=w.2))(_:∀z zs rs H',aR H H'->H z=none->H' z=some (.lst zs)->dH H' zs rs->KD ws rs->Q (.ref z) H')
def EY(K:Fg):Sp:=bx (aal K)
section
variable {X:Cx}
def vm(i j k:Int):Int:=if j<i then(if k<j then k else j) else(if k<i then k else i)
theorem Yc(i j k:Int):vm i j k<=i/\vm i j k<=j/\vm i j k<=k:=by unfold vm;split <;> split <;> omega
theorem Yd{i j k m:Int}(h1:m<=i)(h2:m<=j)(h3:m<=k):m<=vm i j k:=by unfold vm;split <;> split <;> omega
theorem SA(hc:X.calm=true):i9 X (.builtin "min") (λxs H Q=>∃i j k,xs=[.int i,.int j,.int k]/\Q (.int (vm i j k)) H):=by
 intro pins s σ H xs us Q I r h;obtain⟨i,j,k,rfl,q⟩:=h;obtain⟨u,us,rfl,⟨t,rfl⟩,r2⟩:∃u us',us=u::us'/\RelV (.int i) u/\Vals [.int j,.int k] us':=by cases r with|cons a b=>exact⟨_,_,rfl,a,b⟩
 obtain⟨u2,u3,rfl,⟨t',rfl⟩,⟨t'',rfl⟩⟩:=vals2 r2;refine min_three_ints (I.ok.hd hc) λh' tk kk=>⟨_,H,I.kept kk,?_,q⟩
 unfold vm;by_cases hj:j<i
 .rw [aC hj,aC hj];by_cases hk:k<j
  .rw [aC hk,aC hk];exact⟨_,Z⟩
  .rw [aB hk,aB hk];exact⟨_,Z⟩
 .rw [aB hj,aB hj];by_cases hk:k<i
  .rw [aC hk,aC hk];exact⟨_,Z⟩
  .rw [aB hk,aB hk];exact⟨_,Z⟩
end
def gR(rs:List Row)(x:Str):Int:=((rs.find? λr=>decide (r.1=x)).map (λr:Row=>r.2)).getD 0
theorem Au(x:Str):gR [] x=0:=rfl
theorem p7(r:Row)(rs:List Row)(x:Str):gR (r::rs) x=if r.1=x then r.2 else gR rs x:=by
 unfold gR;rw[uA];by_cases c:r.1=x
 .rw [bq c,aC c];rfl
 .rw [dG c,aB c]
theorem yO:∀{rs:List Row}{x:Str},x∉rs.map (λr:Row=>r.1)->gR rs x=0
 | [],_,_=>rfl
 | r::rs,x,h=>by rw[p7,aB (λe=>h (by rw[bz,e];exact cN))];exact yO λm=>h (by rw[bz];exact b7 _ m)
theorem yP:∀{rs:List Row}{r:Row}{x:Str},r.1∉rs.map (λr:Row=>r.1)->gR (rs++[r]) x=if r.1=x then r.2 else gR rs x
 | [],r,x,_=>by rw[CP,p7]
 | y::rs,r,x,h=>by
  rw[bz]at h;have h1:r.1≠y.1:=λe=>h (by rw[e];exact cN);rw[Qe,p7,yP (λm=>h (b7 _ m)),p7];by_cases c:y.1=x
  .rw [aC c,aC c,aB (λe=>h1 (e.trans c.symm))]
  .rw [aB c,aB c]
abbrev Q4:=Str×Str×Int×Int
def aV(st:HS):List Q4:=st.aj.map λp=>(p.nm,p.ow,p.wo,p.we)
def i_(qs:List Q4)(r:Row):List Q4:=(qs.map λq=>if q.1=r.1 then(q.1,q.2.1,q.2.2.1-r.2,q.2.2.2) else q).filter λq=>decide (q.2.2.1≠0)
def p8(rs:List Row)(qs:List Q4):List Q4:=(qs.map λq=>(q.1,q.2.1,q.2.2.1-gR rs q.1,q.2.2.2)).filter λq=>decide (0<q.2.2.1)
theorem Av(st:HS)(r:Row):aV (cS st r)=i_ (aV st) r:=by
 unfold aV cS jN i_;generalize st.aj=ps;show List.map _ (List.filter _ (List.map _ ps))=_
 induction ps with
 | nil=>rfl
 | cons p ps ih=>
  rw[bz,bz,bz];by_cases c:p.nm=r.1
  .rw [aC c,aC (show(p.nm,p.ow,p.wo,p.we).1=r.1 from c),gC,gC];by_cases d:p.wo-r.2=0
   .rw [aB (by simpa using d),aB (by simpa using d),ih]
   .rw [aC (by simpa using d),aC (by simpa using d),bz,ih]
  .rw [aB c,aB (show ¬ (p.nm,p.ow,p.wo,p.we).1=r.1 from c),gC,gC];by_cases d:p.wo=0
   .rw [aB (by simpa using d),aB (by simpa using d),ih]
   .rw [aC (by simpa using d),aC (by simpa using d),bz,ih]
theorem kU(st:HS)(kept whole:Int)(added:List Int):aV (aN st kept whole added)=aV st:=by unfold aV aN;rw[kM,gr];rfl
theorem p_:∀(rs:List Row)(st:HS),aV (rs.foldl cS st)=rs.foldl i_ (aV st)
 | [],_=>rfl
 | r::rs,st=>by rw[j7,j7,p_ rs,Av]
theorem DI:∀(qs:List Q4)(r:Row)(rs:List Row),r.1∉rs.map (λr:Row=>r.1)->(∀q∈qs,1<=q.2.2.1)->(∀q∈qs,q.1=r.1->r.2<=q.2.2.1)->p8 rs (i_ qs r)=p8 (r::rs) qs
 | [],_,_,_,_,_=>rfl
 | q::qs,r,rs,hn,h1,h2=>by
  have ih:=DI qs r rs hn (λx hx=>h1 x (b7 _ hx)) (λx hx=>h2 x (b7 _ hx));have w1:=h1 q cN;have e1:i_ (q::qs) r=(if q.1=r.1 then(if q.2.2.1-r.2=0 then[] else[(q.1,q.2.1,q.2.2.1-r.2,q.2.2.2)]) else[q])++i_ qs r:=by
   unfold i_;rw[bz,gC];by_cases c:q.1=r.1
   .rw [aC c,aC c];by_cases d:q.2.2.1-r.2=0
    .rw [aC d,aB (by simpa using d)];rfl
    .rw [aB d,aC (by simpa using d)];rfl
   .rw [aB c,aB c,aC (bq (show q.2.2.1≠0 by omega))];rfl
  have e2:∀(us:List Row)(x:Q4)(l:List Q4),p8 us (x::l)=(if 0<x.2.2.1-gR us x.1 then[(x.1,x.2.1,x.2.2.1-gR us x.1,x.2.2.2)] else[])++p8 us l:=λus x l=>by
   unfold p8;rw[bz,gC];by_cases c:0<x.2.2.1-gR us x.1
   .rw [aC c,aC (bq c)];rfl
   .rw [aB c,aB (by simpa using c)];rfl
  rw[e1,e2 (r::rs),p7];by_cases c:q.1=r.1
  .have am:gR rs q.1=0:=by rw[c];exact yO hn
   have le:=h2 q cN c;rw[aC c,aC c.symm];by_cases d:q.2.2.1-r.2=0
   .rw [aC d,aB (by omega),<-ih];rfl
   .rw [aB d,aC (by omega),<-ih,Qe,CP,e2 rs];show(if 0<q.2.2.1-r.2-gR rs q.1 then[(q.1,q.2.1,q.2.2.1-r.2-gR rs q.1,q.2.2.2)] else[])++_=_;rw[am,AZ,aC (by omega)]
  .rw [aB c,show(if r.1=q.1 then r.2 else gR rs q.1)=gR rs q.1 from aB (λz=>c z.symm),<-ih,Qe,CP,e2 rs]
theorem GR{qs:List Q4}{x:Q4}(h:x∈i_ qs r):x.2.2.1≠0/\∃q∈qs,x=if q.1=r.1 then(q.1,q.2.1,q.2.2.1-r.2,q.2.2.2) else q:=by obtain⟨h1,h2⟩:=m7.mp h;obtain⟨q,hq,e⟩:=aZ.mp h1;exact⟨eF h2,q,hq,e.symm⟩
theorem GS:∀(rs:List Row)(qs:List Q4),(rs.map (λr:Row=>r.1)).Nodup->(∀q∈qs,1<=q.2.2.1)->(∀r∈rs,∀q∈qs,q.1=r.1->r.2<=q.2.2.1)->rs.foldl i_ qs=p8 rs qs
 | [],qs,_,h1,_=>by
  show qs=p8 [] qs;unfold p8
  induction qs with
  | nil=>rfl
  | cons q qs ih=>have:=h1 q cN;rw[bz,gC,aC (bq (show 0<q.2.2.1-gR [] q.1 by rw[Au];omega)),<-ih (λx hx=>h1 x (b7 _ hx)) (λr hr=>absurd hr (by simp)),Au,AZ]
 | r::rs,qs,nd,h1,h2=>by
  obtain⟨n1,n2⟩:=fU.mp (show(r.1::rs.map (λr:Row=>r.1)).Nodup from nd);rw[j7,GS rs (i_ qs r) n2 ?_ ?_]
  .exact DI qs r rs n1 h1 (h2 r cN)
  .intro x hx;obtain⟨a,q,hq,e⟩:=GR hx;have:=h1 q hq;by_cases c:q.1=r.1
   .rw [aC c]at e;have:=h2 r cN q hq c;rw[e]at a ⊢;have a:q.2.2.1-r.2≠0:=a;show 1<=q.2.2.1-r.2;omega
   .rw [aB c]at e;rw[e];exact this
  .intro y hy x hx ex;obtain⟨_,q,hq,e⟩:=GR hx;by_cases c:q.1=r.1
   .rw [aC c]at e;rw[e]at ex;exact absurd (aZ.mpr ⟨y,hy,ex.symm.trans c⟩) n1
   .rw [aB c]at e;rw[e]at ex ⊢;exact h2 y (b7 _ hy) q hq ex
theorem q_(st:HS)(rs:List Row):(cV st rs).own=st.own:=by
 unfold cV;have:∀(rs:List Row)(s:HS),(rs.foldl cS s).own=s.own:=λrs=>by
  induction rs with
  | nil=>intro s;rfl
  | cons r rs ih=>intro s;rw[j7,ih];rfl
 rw[this];unfold aN;rw[kN]
theorem jP:∀(rs:List Row)(s:HS),rs.foldl cS s={ s with aj:=(rs.foldl cS s).aj }
 | [],_=>rfl
 | r::rs,s=>by rw[j7,jP rs (cS s r)];rfl
theorem oR{f:Int->Int->Int}(hf:f 0 0=0){xs ys:List Int}(h:xs.length=ys.length)(j:Nat):(List.zipWith f xs ys).getD j 0=f (xs.getD j 0) (ys.getD j 0):=by
 rw[kK,kK,kK,PM];by_cases c:j<xs.length
 .rw [bK c,bK (by omega)];rfl
 .rw [BO (by omega),BO (by omega)];exact hf.symm
def di(rs:List Row)(f:Str->Int):Int:=(rs.map λr=>r.2*f r.1).sum
theorem Cf{st:HS}:∀(rs:List Row)(acc:List Int),(∀r∈rs,(aK st (bJ st r.1)).length=acc.length)->∀j,(uI st acc rs).getD j 0=acc.getD j 0+di rs λx=>(aK st (bJ st x)).getD j 0
 | [],acc,_,j=>by show acc.getD j 0=_+0;omega
 | r::rs,acc,h,j=>by
  have hr:=h r cN;have e:(List.zipWith (λx t=>x+r.2*t) acc (aK st (bJ st r.1))).length=acc.length:=by rw[lR,hr];omega
  show(uI st (List.zipWith (λx t=>x+r.2*t) acc (aK st (bJ st r.1))) rs).getD j 0=_;rw[Cf rs _ (λx hx=>by rw[e];exact h x (b7 _ hx)),oR (f:=λx t=>x+r.2*t) (by show(0:Int)+r.2*0=0;omega) hr.symm];unfold di;rw[bz,dg];show acc.getD j 0+r.2*(aK st (bJ st r.1)).getD j 0+(rs.map λr=>r.2*(aK st (bJ st r.1)).getD j 0).sum=acc.getD j 0+(r.2*(aK st (bJ st r.1)).getD j 0+(rs.map λr=>r.2*(aK st (bJ st r.1)).getD j 0).sum)
  omega
theorem yQ:∀(rs:List Row){s:HS}{p':Pt},p'∈(rs.foldl cS s).aj->∃p∈s.aj,p'.nm=p.nm/\p'.row=p.row/\p'.sc=p.sc
 | [],_,p',h=>⟨p',h,Z,Z,Z⟩
 | r::rs,s,p',h=>by obtain⟨p,hp,e1,e2,e3⟩:=yQ rs (s:=cS s r) h;obtain⟨_,q,hq,e⟩:=qY hp;refine⟨q,hq,?_⟩;rw[e1,e2,e3,e];split <;> exact⟨Z,Z,Z⟩
theorem wZ{st st':HS}{kept whole:Int}{added:List Int}(wf:Wf st)(bl:jE st kept whole lost added)(ec:st'.bD=(aN st kept whole added).bD)(ep:st'.prod=(aN st kept whole added).prod){p':Pt}(hp:p∈st.aj)(e2:p'.row=p.row)(e3:p'.sc=p.sc*kept / cA st kept whole added){t0 gB B:Int}{j:Nat}(tj:t0*st.prod=(aK st p).getD j 0*B)(eB:gB*st.prod=added.getD j 0*B):(t0*kept+gB)*st'.prod=(aK st' p').getD j 0*(B*whole):=by
 obtain⟨hd,SD,hds,hdc⟩:=bl.dvds
 have agw:st'.bD=(fZ st kept added).map (· / cA st kept whole added):=by rw[ec];unfold aN;rw[GO]
 have s1:1<=whole / cA st kept whole added:=by
  have w1:0<whole:=by have:=bl.l;have:=bl.w;have:=bl.k;omega
  have:=Int.le_of_dvd w1 SD;exact Int.le_ediv_of_mul_le hd (by omega)
 have Wo:st'.prod=st.prod*(whole / cA st kept whole added):=by rw[ep];unfold aN;rw[yN s1]
 have hds:=hds p hp
 have hrl:=wf.rows p hp
 have hcl:=wf.gD
 have gl:=bl.len
 have ewd:cA st kept whole added*(whole / cA st kept whole added)=whole:=Int.mul_ediv_cancel' SD
 have a5:cA st kept whole added*p'.sc=p.sc*kept:=by rw[e3];exact Int.mul_ediv_cancel' hds
 rw[Wo]
 clear ec ep Wo e3 bl SD hds s1
 generalize cA st kept whole added=d at *
 have etop:d*(aK st' p').getD j 0=(aK st p).getD j 0*kept+added.getD j 0:=by
  have a1:(aK st' p').getD j 0=p'.sc*p.row.getD j 0+((fZ st kept added).map (· / d)).getD j 0:=by unfold aK;rw[agw,e2,oR (f:=λr c=>p'.sc*r+c) (by show p'.sc*0+0=0;omega)];rw[aG];unfold fZ;rw[lR,gl,hrl,hcl];omega
  have a2:(aK st p).getD j 0=p.sc*p.row.getD j 0+st.bD.getD j 0:=by unfold aK;exact oR (f:=λr c=>p.sc*r+c) (by show p.sc*0+0=0;omega) (by rw[hrl,hcl]) j
  have a3:(fZ st kept added).getD j 0=st.bD.getD j 0*kept+added.getD j 0:=by unfold fZ;exact oR (f:=λt m=>t*kept+m) (by show(0:Int)*_+0=0;omega) gl.symm j
  have a4:d*((fZ st kept added).map (· / d)).getD j 0=(fZ st kept added).getD j 0:=by
   rw[kK,kK,cK];cases ec:(fZ st kept added)[j]? with
   | none=>show _*0=(0:Int);omega
   | some x=>exact Int.mul_ediv_cancel' (hdc x (cC ec))
  rw[a1,wI,<-iB,a5,a4,a3,a2]
  grind
 generalize whole / d=SE at *
 generalize (aK st' p').getD j 0=T' at *
 generalize (aK st p).getD j 0=T at *
 generalize added.getD j 0=gS at *
 refine BL (a:=d) (by omega) ?_
 have l1:d*((t0*kept+gB)*(st.prod*SE))=(t0*st.prod*kept+gB*st.prod)*(d*SE):=by grind
 have l2:d*(T'*(B*whole))=(d*T')*(B*whole):=by grind
 rw[l1,l2,ewd,tj,eB,etop]
 grind
theorem BG{α:Type}(f:α->Int)(k:Int):∀l:List α,(l.map λx=>f x*k).sum=(l.map f).sum*k
 | []=>by simp
 | a::l=>by rw[bz,bz,dg,dg,BG f k l,j9]
theorem xH:∀{l:List Int}{i:Nat}{x:Int},i<l.length->(l.set i (l.getD i 0+x)).sum=l.sum+x
 | a::l,0,x,_=>by rw[PY,dg,dg];show a+x+_=_;omega
 | a::l,i+1,x,h=>by rw[Jw,dg,dg];have:=xH (l:=l) (i:=i) (x:=x) (by simpa using h);have e:(a::l).getD (i+1) 0=l.getD i 0:=rfl;rw[e,this];omega
 | [],_,_,h=>by simp at h
theorem OI(k:Int):∀{ts gs:List Int},ts.length=gs.length->(List.zipWith (λt g=>t*k+g) ts gs).sum=ts.sum*k+gs.sum
 | [],[],_=>by simp
 | t::ts,g::gs,h=>by have:=OI k (ts:=ts) (gs:=gs) (by simpa using h);rw[EB,dg,dg,dg,this,j9];omega
 | [],_::_,h=>by simp at h
 | _::_,[],h=>by simp at h
theorem Ye(st:HS)(rs:List Row):(cV st rs).kn<=st.kn:=by
 unfold cV;rw[jP];show(aN st (aE st-aQ rs) (aE st) (dW st rs)).kn<=st.kn;unfold aN eZ;split
 .exact fH _
 .exact aO _
theorem KG(n:Nat):(List.replicate n (0:Int)).sum=0:=by
 induction n with
 | zero=>rfl
 | succ n ih=>rw[BQ,dg,ih];rfl
theorem nc:∀(l:List Str)(st:HS),st.aj=[]->(∀u∈st.bH,u=0)->(l.foldl g_ st).aj=[]/\(l.foldl g_ st).nms=st.nms/\(l.foldl g_ st).stp=st.stp/\(l.foldl g_ st).prod=st.prod/\(l.foldl g_ st).bO=st.bO/\∀u∈(l.foldl g_ st).bH,u=0
 | [],_,h,hp=>⟨h,Z,Z,Z,Z,hp⟩
 | o::l,st,h,hp=>by
  rw[j7];exact nc l (g_ st o) (by show st.aj.map _=[];rw[h];rfl) (λu hu=>by
   rcases fq.mp (show u∈st.bH++[0]from hu)with z|z
   .exact hp u z
   .exact eO.mp z)
def yd(K:Fg)(ρ:cu)(H:Hp)(z:Addr)(xs:List V):Prop:=∀(ρ':cu)(H':Hp),aR (out ρ H) (out ρ' H')->aI K H' z xs
theorem yd.of(h:aI K H z xs):yd K (λ_=>none) H z xs:=λρ' H' s=>by
 rcases h with(h|⟨o,h⟩)|h
 .exact .inl (.inl (iV (s _ _ (lu h rfl))).1)
 .exact .inl (.inr ⟨o,(iV (s _ _ (lu h rfl))).1⟩)
 .exact .inr h
theorem yd.go(h:yd K ρ H z xs)(s:aR (out ρ H) (out ρ' H')):yd K ρ' H' z xs:=λ_ _ s'=>h _ _ (s.trans s')
theorem aI.outs(h:aI K H z xs)(c:ρ z=none)(s:aR (out ρ H) (out ρ' H')):aI K H' z xs:=by
 rcases h with(h|⟨o,h⟩)|h
 .exact .inl (.inl (iV (s _ _ (lu h c))).1)
 .exact .inl (.inr ⟨o,(iV (s _ _ (lu h c))).1⟩)
 .exact .inr h
theorem HH.other{st:HS}(h:HH T n ρ A H st)(f:Fr m ρ H ρ' H')(g:Gh ρ' H')(e:n≠m):HH T n ρ' A H' st:=⟨g,h.h.other f h.g e,h.wf⟩
theorem KH:∀(l:List Str)(st:HS),(l.foldl g_ st).kn=st.kn
 | [],_=>rfl
 | o::l,st=>by rw[j7,KH l];rfl
structure e_(K:Fg)(x:Str)(st:Stmt):Prop where
 ex:∃(f:Addr)(oc:Value)(od an:Option Addr)(sl:Array (Option Value))(kV dc pm cd ct:Value),PySem.W.nsIn K mainGlobals x=some (some (.ref f))/\K.lookup f=some ⟨oc,od,.func (PySem.W.fnOf x x (fY st) (dR st) (aF st) .none kV dc pm an cd ct),sl⟩/\PySem.W.codeIn K cd x=true/\PySem.W.keepIn K (.ref f)=true
theorem e_.at{st:Stmt}(d:e_ K x st)(X:K.In h)(G:h.Ns mainGlobals mg):∃f fd,At K mg x st f fd:=by obtain⟨f,oc,od,an,sl,kV,dc,pm,cd,ct,a,l,c,k⟩:=d.ex;exact⟨f,_,Wb X G a l c k⟩
structure dh(K:Fg)(C:Addr)(n qual:Str)(st:Stmt):Prop where
 ex:∃(f:Addr)(oc:Value)(od an:Option Addr)(sl:Array (Option Value))(kV dc pm cd ct:Value),PySem.W.findIn K (.ref C) n=some (some (.ref f))/\PySem.W.isFn K (.ref f)=true/\K.lookup f=some ⟨oc,od,.func (PySem.W.fnOf n qual (fY st) (dR st) (aF st) .none kV dc pm an cd ct),sl⟩/\PySem.W.codeIn K cd qual=true/\PySem.W.keepIn K (.ref f)=true
theorem dh.at{n:Str}{st:Stmt}(d:dh K C n qual st)(cl:qM K C):∃f fd,iK K C n qual st f fd:=by obtain⟨f,oc,od,an,sl,kV,dc,pm,cd,ct,a,i,l,c,k⟩:=d.ex;exact⟨f,_,JU l c k,⟨a,i,k⟩,cl⟩
theorem dh.made{st:Stmt}(d:dh K C "__init__" qual st)(X:K.In h)(G:h.Ns mainGlobals mg)(a0:PySem.W.nsIn K mainGlobals x=some (some (.ref C)))(m:PySem.W.makesIn K C=true)(kc:PySem.W.keepIn K (.ref C)=true):∃f fd,GF K mg x C qual st f fd:=by obtain⟨f,oc,od,an,sl,kV,dc,pm,cd,ct,a,i,l,c,k⟩:=d.ex;exact⟨f,_,JU l c k,⟨m,a,i,kc⟩,PySem.W.mg_of X G a0⟩
variable {oc pm ct:Value}{od an:Option Addr}{sl:Array (Option Value)}
theorem e_.of{st:Stmt}{kV dc cd:Value}(a:PySem.W.nsIn K mainGlobals x=some (some (.ref f)))(l:K.lookup f=some ⟨oc,od,.func (PySem.W.fnOf x x (fY st) (dR st) (aF st) .none kV dc pm an cd ct),sl⟩)(c:PySem.W.codeIn K cd x=true)(k:PySem.W.keepIn K (.ref f)=true):e_ K x st:=⟨⟨_,_,_,_,_,_,_,_,_,_,a,l,c,k⟩⟩
theorem dh.of{n:Str}{st:Stmt}{kV dc cd:Value}(a:PySem.W.findIn K (.ref C) n=some (some (.ref f)))(i:PySem.W.isFn K (.ref f)=true)(l:K.lookup f=some ⟨oc,od,.func (PySem.W.fnOf n qual (fY st) (dR st) (aF st) .none kV dc pm an cd ct),sl⟩)(c:PySem.W.codeIn K cd qual=true)(k:PySem.W.keepIn K (.ref f)=true):dh K C n qual st:=⟨⟨_,_,_,_,_,_,_,_,_,_,a,i,l,c,k⟩⟩
section
variable {X:Cx}
variable {o i:Expr}{pos:Pos}{td ty:TE}
end
section
variable {a b:List Nat}{m v:Int}(ha:pU a)(hb:pU b)(hm:1<=m)(hm2:m<=1000000000)(hv:0<=v)(hv2:v<=1000000000)
include ha hb hm hm2 hv hv2 in
end
section
variable {X:Cx}
end
section
variable {X:Cx}
end
section
variable {P:Program}{w:World}{K:Fg}{mg:SO}{base:Heap}{N:List Str}{qual:Str}{scope:Scope}{f:Addr}{cd:Value}{A:Around}{outer:List Env}{s0:Shared}{H0:Hp}{E:XK}{CX:z6}
end
section
variable {P:Program}{w:World}{K:Fg}{mg:SO}{base:Heap}{N:List Str}{qual:Str}{scope:Scope}{f:Addr}{cd:Value}{A:Around}{outer:List Env}{s0:Shared}{H0:Hp}{E:XK}
end
section
variable {X:Cx}{pins:AO}{σ:St}{Hc H:Hp}{sc s:Shared}{x C:Addr}{fl:Value}
end
section
variable {X:Cx}{pins:AO}{σ:St}{Hc H:Hp}{sc s:Shared}{x C:Addr}{fl:Value}
end
section
variable {X:Cx}{pins:AO}{σ:St}{Hc H:Hp}{sc s:Shared}{x C:Addr}{fl:Value}
end
open PySem.W PySem.Calls Builtin.ObjectAttr Builtin.Getset_descriptor
section
variable {prog:Program}{w:World}{A:Around}{E:VS}{h:Heap}{g:Array GenState}{d:Drawn}{t:Nat}{os:OsState}{x C:Addr}{o:Obj}{K:Frag}{R:Result->Shared->Prop}
end
section
variable {X:Cx}
end
structure Ec where
 (bad twice ac9 aam ac_ aan agx rows agy ada ajq:Addr)
section
end
section
variable {P:Program}{w:World}{K:Fg}{mg:SO}{base:Heap}{N:List Str}{qual:Str}{scope:Scope}{f:Addr}{cd:Value}{A:Around}{outer:List Env}{s0:Shared}{H0:Hp}{E:XK}
end
section
variable {X:Cx}
end
def Ec.at(e:Ec):Nat->Addr
 | 0=>e.bad|1=>e.twice|2=>e.ac9|3=>e.aam|4=>e.ac_|5=>e.aan|6=>e.agx|7=>e.rows|8=>e.agy|_=>e.ada
def Rf(e:Ec)(E:XK)(H:Hp)(i:Nat):Prop:=∀x H',aR H H'->E (.ref x) (some (e.at i)) H'
structure GU(T:TC)(e:Ec)(n:Nat)(ρ:cu)(A:HA)(H:Hp)(r:Option Nat)(st':HS)(Q:VK)(E:XK):Prop where
 no:∀i,r=some i->Rf e E H i
 ok:r=none->wR T n ρ A H st' λH'=>Q .cT H'
def newR(st:HS)(x:Str):Option Nat:=if isNm x=true then(if x∈st.nms then some 1 else none) else some 0
def rY(st:HS)(o:Str):Option Nat:=if isNm o=true then(if o∈st.own then some 1 else none) else some 0
def w6(st:HS)(x o:Str)(wo we:Int):Option Nat:=match newR st x with
 | some i=>some i
 | none=>if o∈st.own then(if wo<1\/we<0 then some 5 else none) else some 2
inductive Yg(T:TC)(e:Ec)(vs:List V)(H:Hp)(Q:VK)(E:XK):Prop
 |mk(n ρ A st o:_)(_:vs=[.ref A.a,.str o])(_:aL T n ρ A H st)(_:(o∉st.own->Rf e E H 2))(_:(o∈st.own->Q (.int (st.own.idxOf o:Int)) H))
def yR(T:TC)(e:Ec):Sp:=bx (Yg T e)
inductive U6(T:TC)(e:Ec)(vs:List V)(H:Hp)(Q:VK)(E:XK):Prop
 |mk(n ρ A st x:_)(_:vs=[.ref A.a,.str x])(_:aL T n ρ A H st)(_:(st.aj.map (·.nm)).Nodup)(_:((∀p∈st.aj,p.nm≠x)->Rf e E H 3))(_:∀(i:Nat) (p:Pt) (q:Addr×Addr×Addr),p.nm=x->st.aj[i]?=some p->A.qs[i]?=some q->Q (.ref q.1) H)
def mK(T:TC)(e:Ec):Sp:=bx (U6 T e)
inductive QM(T:TC)(e:Ec)(vs:List V)(H:Hp)(Q:VK)(E:XK):Prop
 |mk(n ρ A st x:_)(_:vs=[.ref A.a,.str x])(_:aL T n ρ A H st)(_:x.cps.toList.length<=100000)(_:(∀i,newR st x=some i->Rf e E H i))(_:(newR st x=none->∀H',aR H H'->Q .cT H'))
def xJ(T:TC)(e:Ec):Sp:=bx (QM T e)
theorem Aw{st:HS}(h1:isNm x=true)(h2:x∉st.nms):newR st x=none:=by unfold newR;rw[aC h1,aB h2]
theorem QN{st:HS}{o:Str}(h1:isNm x=true)(h2:x∉st.nms)(h3:o∈st.own)(h4:1<=wo)(h5:0<=we):w6 st x o wo we=none:=by unfold w6;rw[Aw h1 h2];show(if o∈st.own then _ else _)=_;rw[aC h3,aB (by omega)]
variable {st':HS}
theorem GU.of{e:Ec}{r:Option Nat}{Q:VK}(h:r=none)(q:wR T n ρ A H st' λH'=>Q .cT H'):GU T e n ρ A H r st' Q E0:=⟨(λi z=>by rw[h]at z;cases z),λ_=>q⟩
inductive Dd where
 | sign (o:Str)|load (x o:Str) (wo we:Int)|cast (rs:List Row)|award (o:Str) (a:Int)|mishap (x:Str) (a:Int)|rise (x:Str) (a:Int)|hand (x o:Str)|land (x:Str)|sever (x y:Str) (a we:Int)|still
def jQ:List Row->List V
 | []=>[]
 | r::rs=> .str r.1 :: .int r.2::jQ rs
def Dd.v:Dd->List V
 | .sign o=>[.str "sign",.str o]
 | .load x o wo we=>[.str "load",.str x,.str o,.int wo,.int we]
 | .cast rs=> .str "cast"::jQ rs
 | .award o a=>[.str "award",.str o,.int a]
 | .mishap x a=>[.str "mishap",.str x,.int a]
 | .rise x a=>[.str "rise",.str x,.int a]
 | .hand x o=>[.str "hand",.str x,.str o]
 | .land x=>[.str "land",.str x]
 | .sever x y a we=>[.str "sever",.str x,.str y,.int a,.int we]
 | .still=>[.str "still"]
def d9(st:HS):List Str:=st.aj.map λp=>p.nm
def iX(st:HS)(r:Row):Option Nat:=if r.1∈d9 st then(if r.2<1 then some 5 else if(bJ st r.1).wo<r.2 then some 6 else none) else some 3
def jR(st:HS)(rs:List Row):Option Nat:=if rs≠[]/\(rs.map λr:Row=>r.1).Nodup then(match rs.findSome? (iX st)with
 | some i=>some i
 | none=>if aE st<=aQ rs then some 6 else none) else some 7
def jS(st:HS)(o:Str)(a:Int):Option Nat:=if o∈st.own then(if a<1 then some 5 else if aE st<=a then some 6 else none) else some 2
def kW(st:HS)(x:Str)(a:Int):Option Nat:=if x∈d9 st then(if a<1 then some 5 else none) else some 3
def jx(st:HS)(x o:Str):Option Nat:=if x∈d9 st then(if o∈st.own then none else some 2) else some 3
def qa(st:HS)(x:Str):Option Nat:=if x∈d9 st then none else some 3
def iN(st:HS)(x y:Str)(a we:Int):Option Nat:=if x∈d9 st then(match newR st y with
 | some i=>some i
 | none=>if a<1\/we<0 then some 5 else if(bJ st x).wo<=a\/(bJ st x).we<we then some 6 else none) else some 3
def jr(st:HS):Dd->Option Nat
 | .sign o=>rY st o
 | .load x o wo we=>w6 st x o wo we
 | .cast rs=>jR st rs
 | .award o a=>jS st o a
 | .mishap x a=>iX st (x,a)
 | .rise x a=>kW st x a
 | .hand x o=>jx st x o
 | .land x=>qa st x
 | .sever x y a we=>iN st x y a we
 | .still=>none
def qb(st:HS)(o:Str)(a:Int):HS:=aN st (aE st-a) (aE st) ((List.replicate st.own.length 0).set (st.own.idxOf o) (a*st.prod))
def ko(st:HS)(x:Str)(f:Pt->Pt):HS:={ st with aj:=st.aj.map λp=>if p.nm=x then f p else p }
def Jl(st:HS)(x:Str)(a:Int):HS:=ko st x λp=>{ p with wo:=p.wo+a }
def ng(st:HS)(p:Pt)(o:Str):List Int:=((aK st p).set (st.own.idxOf o) ((aK st p).getD (st.own.idxOf o) 0+(aK st p).getD (st.own.idxOf p.ow) 0)).set (st.own.idxOf p.ow) 0
def ff(st:HS)(x o:Str):HS:=if st.own.idxOf o=st.own.idxOf (bJ st x).ow then st else ko st x λp=>{ p with ow:=o,sc:=1,row:=lU st (ng st p o) }
def gu(st:HS)(p:Pt):List Int:=List.zipWith (λu t=>u+p.wo*t) st.bH (aK st p)
def rZ(st:HS)(x:Str):HS:={ st with aj:=st.aj.filter (λp=>decide (p.nm≠x)),bO:=st.bO++[⟨x,(bJ st x).ow,(bJ st x).wo,gQ st (bJ st x)⟩],kn:=st.kn+100,bH:=(gu st (bJ st x)).set (st.own.idxOf (bJ st x).ow) ((gu st (bJ st x)).getD (st.own.idxOf (bJ st x).ow) 0-(bJ st x).wo*st.prod) }
def lz(st:HS)(x y:Str)(a we:Int):HS:=wU (ko st x λp=>{ p with wo:=p.wo-a,we:=p.we-we }) ⟨y,(bJ st x).ow,a,we,(bJ st x).sc,(bJ st x).row⟩
def iD(st:HS):Dd->HS
 | .sign o=>g_ st o
 | .load x o wo we=>Be st x o wo we
 | .cast rs=>cV st rs
 | .award o a=>qb st o a
 | .mishap x a=>cS st (x,a)
 | .rise x a=>Jl st x a
 | .hand x o=>ff st x o
 | .land x=>rZ st x
 | .sever x y a we=>lz st x y a we
 | .still=>st
def wl(s:Str):Nat:=s.cps.toList.length
section
variable {X:Cx}
end
theorem yS(h:isNm x=true):PyData.strOk x=true:=by
 unfold PyData.strOk;rw[Array.all_eq_true'];intro c hc;unfold isNm isName at h;have h1:=pK.mp (nJ.mp h).2 c (by simpa using hc);rw[XS]at h1;have hm:=eF h1;have:∀c∈("abcdefghijklmnopqrstuvwxyz":Str).cps.toList,c<1000:=by decide +kernel
 have:=this c hm;exact bq (by omega)
section
variable {P:Program}{w:World}{K:Fg}{mg:SO}{base:Heap}{k:Nat}{T:TC}{e:Ec}{ps:List Str}
end
def nB(i:Int):Prop:=-1000000000<=i/\i<=1000000000
def KI:Dd->Prop
 | .sign o=>wl o<=20
 | .load x o wo we=>wl x<=20/\wl o<=20/\nB wo/\nB we
 | .cast rs=>rs.length<=60/\∀r∈rs,wl r.1<=20/\nB r.2
 | .award o a=>wl o<=20/\nB a
 | .mishap x a=>wl x<=20/\nB a
 | .rise x a=>wl x<=20/\nB a
 | .hand x o=>wl x<=20/\wl o<=20
 | .land x=>wl x<=20
 | .sever x y a we=>wl x<=20/\wl y<=20/\nB a/\nB we
 | .still=>True
def Dd.k:Dd->Nat
 | .sign _=>0 | .load .. =>1 | .cast _=>2 | .award .. =>3 | .mishap .. =>4 | .rise .. =>5 | .hand .. =>6 | .land _=>7 | .sever .. =>8 | .still=>9
def QO(n:Nat):Str:=(["sign","load","cast","award","mishap","rise","hand","land","sever","still"] :List Str).getD n "still"
def Dd.w(d:Dd):Str:=QO d.k
theorem Dd.v0(d:Dd):d.v[0]?=some (.str d.w):=by cases d <;> rfl
theorem Dd.k_lt(d:Dd):d.k<10:=by cases d <;> simp[Dd.k]
theorem adb:∀m n:Fin 10,m≠n->QO m.val≠QO n.val:=by decide +kernel
theorem Dd.QS{d:Dd}(h:d.k≠n)(hn:n<10):d.w≠QO n:=adb ⟨d.k,d.k_lt⟩ ⟨n,hn⟩ λe=>h (eV Fin.val e)
theorem SG:∀{l:List Int},(∀x∈l,0<=x)->0<=l.sum
 | [],_=>kQ _
 | a::l,h=>by rw[dg];have:=h a cN;have:=SG (l:=l) λx hx=>h x (b7 _ hx);omega
theorem Ax:∀(l m:List Row),jQ (l++m)=jQ l++jQ m
 | [],_=>rfl
 | r::l,m=>by
  show V.str r.1::V.int r.2::jQ (l++m)=V.str r.1::V.int r.2::(jQ l++jQ m)
  rw[Ax l m]
theorem Ay:∀l:List Row,(jQ l).length=2*l.length
 | []=>rfl
 | r::l=>by show(jQ l).length+1+1=_;rw[Ay l,kg];omega
theorem pC(h:isNm x=true):wl x<=20:=by unfold isNm isName at h;have:=eF (nJ.mp (nJ.mp h).1).2;unfold wl;omega
theorem sX{st:HS}{o:Str}(h:w6 st x o wo we=none):isNm x=true/\x∉st.nms/\o∈st.own/\1<=wo/\0<=we:=by
 unfold w6 at h;cases hn:newR st x with
 | some j=>rw[hn]at h;cases h
 | none=>
  rw[hn]at h;have h':(if o∈st.own then(if wo<1\/we<0 then some 5 else none) else some 2)=none:=h;have hx:isNm x=true/\x∉st.nms:=by
   unfold newR at hn;by_cases c:isNm x=true
   .rw [aC c]at hn;by_cases m:x∈st.nms
    .rw [aC m]at hn;cases hn
    .exact ⟨c,m⟩
   .rw [aB c]at hn;cases hn
  by_cases ho:o∈st.own
  .rw [aC ho]at h';by_cases hb:wo<1\/we<0
   .rw [aC hb]at h';cases h'
   .exact ⟨hx.1,hx.2,ho,by omega,by omega⟩
  .rw [aB ho]at h';cases h'
end L2
set_option autoImplicit true
namespace L2
open PySem PySem.Spec PyProof.Rows
structure bE(X:Cx)(e:Expr)(t:TE):Prop where h:PE X e t
structure bT(X:Cx)(e:Expr)(t:TT):Prop where h:PT X e t
structure bW(X:Cx)(e:Expr)(t:TT):Prop where h:PW X e t
structure bA(X:Cx)(es:List Expr)(t:TA):Prop where h:PA X es t
structure bS(X:Cx)(s:Stmt)(t:TS):Prop where h:PS X s t
structure c9(X:Cx)(s:List Stmt)(t:TS):Prop where h:wJ X s t
structure bC(X:Cx)(op:CmpOp)(a b:Expr)(t:TE):Prop where h:PC X op a b t
structure bG(X:Cx)(e:Expr)(t:TG):Prop where h:PG X e t
structure Wq(X:Cx)(e:List Expr)(t:CY):Prop where h:PGs X e t
structure bI(X:Cx)(tg iter:Expr)(wi:TI):Prop where h:PI X tg iter wi
structure Wr(X:Cx)(pos:Pos)(ks:List (Option Expr))(vs:List Expr)(t:List (TE×TE)):Prop where h:PPs X pos ks vs t
theorem bW.pt{X:Cx}{e:Expr}{t:TT}(h:bW X e t):bT X e t:=⟨h.h.pt⟩
theorem aao{op}{t:TE}(h:bE X a t):bE X (.BoolOp op [a] pos) t:=by have h:=h.h;exact⟨λpins s σ H Q I hw=>BoolOp_one (h pins s σ H Q I hw)⟩
theorem Az{e:Expr}{t:TE}(h:bE X e t)(he:∀whole,isTrue e X.env whole=(do let v <-whole;standAt e.pos;holding [v] (truthy v)):=by intro _;rfl):bT X e (tB t):=by have h:=h.h;constructor;intro pins s σ H Q I hw;refine isTrue_plain (br (h pins s σ H _ I hw) λv s1 ⟨x,H1,I1,r1,q1⟩=>?_) (he _);obtain⟨d,rfl,q⟩:=q1;cases r1;exact EH ⟨H1,I1,q⟩
theorem aT{r:R2}(hr:zy X r)(ha:bE X a ta)(hb:bE X b tb)(hs:Xq b:=by exact λ_ _=>rfl):bE X (.Subscript a b pos) (Gj r ta tb):=by have ha:=ha.h;have hb:=hb.h;constructor;intro pins s σ H Q I h;exact Subscript_ (Uo ha hb I h λv u s2 x y H2 I2 rx ry q=>hr a b pins s2 σ H2 x y v u Q I2 rx ry q (hs _ _))
theorem ir:Wq X [] Y3:=by constructor;intro pins s σ H vs us Q I r h;obtain⟨e,h⟩:=h;subst e;cases r;exact assignInOrder_nil ⟨σ,H,I,h⟩
theorem aW{i:Nat}{x:Str}(hN:X.N.Nodup)(hi:X.N[i]?=some x:=by rfl)(hx:Loc X.env.scope x:=by first|exact Or.inl rfl|exact Or.inr rfl)(hf:X.fn x=true\/X.env.scope.names.lookup x=some .local:=by first|exact .inl rfl|exact .inr rfl|assumption):bG X (.Name x pos) (uG i):=by constructor;intro pins s σ H v u Q I r h;exact wpAny_assign_Name (yC I hN hi hx r (λs' I'=>⟨_,H,I',h⟩) hf)
theorem KJ{c:Expr}{body:List Stmt}{tc:TT}{tb:TS}(hp:PassesOwn (model X.prog X.w) X.A X.env X.xe)(hc:bT X c tc)(hb:c9 X body tb):bS X (.While c body [] pos) (Y_ tc tb):=by
 have hc:=hc.h;have hb:=hb.h;constructor;intro pins s σ H D I h;obtain⟨W,⟨m0,w0⟩,turn⟩:=h;refine wpAny_While (codeAny_whileLoop (λn s'=>∃σ' H',Inv X pins σ' H' s'/\W n σ' H') ?_ m0 ⟨σ,H,I,w0⟩);rintro n s1 ⟨σ1,H1,I1,w1⟩;refine yt hp (br (hc pins s1 σ1 H1 _ I1 (turn n σ1 H1 w1)) λb s2 ⟨H2,I2,q2⟩=>?_);cases b with
 | true=>
  obtain⟨N,hN,q2⟩:=q2;rw[aC rfl];refine yt hp (br (hb pins s2 σ1 H2 _ I2 q2) λf s3 q3=>?_);cases f with
  | next=>obtain⟨σ3,H3,I3,n3⟩:=q3;obtain⟨m',hm,w3⟩:=hN σ3 H3 n3;exact⟨m',hm,σ3,H3,I3,w3⟩
  | cont=>obtain⟨σ3,H3,I3,n3⟩:=q3;obtain⟨m',hm,w3⟩:=hN σ3 H3 n3;exact⟨m',hm,σ3,H3,I3,w3⟩
  | brk=>exact q3
  | ret v=>exact q3
 | false=>rw[aB iH];exact Je ⟨σ1,H2,I2,q2⟩
theorem Bk{tg:Expr}{ob:Expr}{td:TE}{apos cpos:Pos}(hob:bE X ob td)(hbase:attributeBase ob "values" X.env (eval ob X.env)=eval ob X.env:=by rfl)(hline:(apos.endLine==cpos.line)=true:=by rfl):bI X tg (.Call (.Attribute ob "values" apos) [] [] cpos) (acX td):=by
 have hob:=hob.h;constructor;intro pins s σ H R I h;refine wpAny_Call_method0_late hbase hline (br (hob pins s σ H _ I h) λv s1 ⟨x,H1,I1,r1,q1⟩=>?_);obtain⟨d,o,kvs,rfl,e,fin⟩:=q1;cases r1;obtain⟨ho,hz,hsys,vs,ep,rel,da⟩:=I1.rX e;obtain⟨t1,t2,_⟩:=JT I1 (.inl ⟨kvs,.inr ⟨o,e⟩⟩);have dd:=da.dictOf;refine⟨"dict",_,F.plainAttrs_dict,PZ,F.type_dict_values,t1,t2,PK rfl (PySem.evalArgs_none ?_)⟩;refine call_meetsIn PZ dd.typeIs F.entry_dict_values (F.args_dict_values_1 _) (meets_dict_values (dj X.prog X.w) d hsys) ⟨⟨vs,dd⟩,?_⟩;refine wpAny_pyIter_values (s:={ s1 with heap:=s1.heap.push { cls:=.type "dict_values",data:=.fields #[.ref d] } }) ⟨_,eU _ rfl,Z,Z⟩ (da.push _) ?_;have Iv:Inv X pins σ H1 { s1 with heap:=s1.heap.push { cls:=.type "dict_values",data:=.fields #[.ref d] } }:=I1.kept (t':=s1.toks) λb o e=>cy _ e;generalize ({ s1 with heap:=s1.heap.push { cls:=.type "dict_values",data:=.fields #[.ref d] } }:Shared)=sv at *;have I2:Inv X pins σ H1 { sv with heap:=sv.heap.push { cls:=.type "dict_valueiterator",data:=.fields #[.ref d,.int 0 0,.int vs.length 0,.int ep 0] } }:=Iv.kept (t':=sv.toks) λb o e=>cy _ e;have hl:kvs.length=vs.length:=rel.length;obtain⟨o',es,h1,_,h2,_⟩:=id da;rw[ho]at h1;cases h1;refine⟨sv.heap.objs.size,[sv.heap.objs.size],_,_,H1,Z,I2,Sd h2,?_,λb hb=>?_,fin⟩
 .rw [hl];exact⟨_,eU _ rfl,Z,Z⟩
 .have eb:b=sv.heap.objs.size:=by simpa using hb
  subst eb;exact Iv.BW (aO _) (Iv.hok.fresh (aO _))
theorem OJ{o i e:Expr}{to ti te:TE}{zW:V->V->Hp->VK->Prop}{zu:JI}{pQ:tM}{op:Operator}{tpos:Pos}(ho:bE X o to)(hi:bE X i ti)(hg:Y7 X zW)(he:bE X e te)(hp:Y0 X op zu)(hs:Ue X pQ)(ha:∀ov iv new,augStore i ov iv new=(do holding [new,ov,iv] (setItem ov iv new);release [new,ov,iv] [];pure .next):=by intros;rfl):bS X (.AugAssign (.Subscript o i tpos) op e pos) (acA to ti te zW zu pQ):=by have ho:=ho.h;have hi:=hi.h;have he:=he.h;constructor;intro pins s σ H D I h;refine wpAny_AugAssign_SubscriptAny (br (ho pins s σ H _ I h) λov s1 ⟨x1,H1,I1,r1,q1⟩=>?_) ha;refine br (hi pins s1 σ H1 _ I1 q1) λiv s2 ⟨x2,H2,I2,r2,q2⟩=>?_;refine br (hg pins s2 σ H2 x1 x2 ov iv _ I2 r1 r2 q2) λold s3 ⟨x3,H3,I3,r3,q3⟩=>?_;refine br (he pins s3 σ H3 _ I3 q3) λv s4 ⟨x4,H4,I4,r4,q4⟩=>?_;refine br (hp pins s4 σ H4 x3 x4 old v _ I4 r3 r4 q4) λnew s5 ⟨x5,H5,I5,r5,q5⟩=>?_;exact br (hs pins s5 σ H5 x1 x2 x5 ov iv new _ I5 r1 r2 r5 q5) λ_ s6 ⟨H6,I6,q6⟩=>⟨σ,H6,I6,q6⟩
theorem jy{id:String}(pa:PlainAttrs T)(slot:Slot T name id)(hty:typeOf (.builtin id)=pure (.type "method_descriptor"))(hm:MtR X id r)(ho:bE X o to)(ha:bA X (e::es) t)(hbase:attributeBase o name X.env (eval o X.env)=eval o X.env:=by rfl)(hfew:((backTo cpos (starEach (e::es) X.env)).all (λx=>!x.1) && (backToKw cpos (keywordEach [] X.env)).all (λx=>x.1.isSome)
   && decide ((e::es).length+([] :List Keyword).length+(if([] :List Keyword).isEmpty then 0 else 1)<30))=true:=by rfl)(hline:(apos.endLine==cpos.line)=true:=by rfl)(hs:starEach (e::es) X.env=(false,eval e X.env)::starEach es X.env:=by rfl)(hplain:(backTo cpos (starEach es X.env)).any (·.1)=false:=by rfl):bE X (.Call (.Attribute o name apos) (e::es) [] cpos) (tBM X.K T r to t):=by
 have ho:=ho.h;have ha:=ha.h;constructor
 intro pins s σ H Q I h
 refine wpAny_Call_method_late hbase hfew hline rfl (br (ho pins s σ H _ I h) λv s1 ⟨x,H1,I1,r1,ty,q1⟩=>?_)
 obtain⟨h1,h2⟩:=Zy I1 r1 ty
 refine⟨T,id,pa,slot,hty,h1,h2,?_⟩
 have hA:=ha cpos pins s1 σ H1 _ I1 q1
 rw[hs]at hA ⊢
 refine PK (by show(false || (backTo cpos (starEach es X.env)).any (·.1))=false;rw[hplain] <;> rfl) (Calls.evalArgs_plain ?_)
 exact br hA λus s2 ⟨vs,H2,I2,r2,q2⟩=>hm pins s2 σ H2 x vs v us Q I2 r1 r2 q2
theorem Yh{X:Cx}{pos:Pos}:Wr X pos [] [] [] :=by exact⟨λpins s σ H Q I h=>pairTrees_nil_walk ⟨[],H,I,.nil,h⟩⟩
theorem DJ{X:Cx}{e:Expr}{t:TE}(h:bE X e t):bE X e (agq t):=by have h:=h.h;constructor;intro pins s σ H Q I hw;obtain⟨d,kvs,e,hw⟩:=hw;obtain⟨ho,es,ep,h1,_⟩:=(yD I.hok e).2.2.choose_spec.2;have h0:=I.Sb e;exact br (h pins s σ _ _ (I.freeze e h1) (hw ho)) λu s' ⟨v,H',I',r,q1,q2⟩=>⟨v,_,I'.B8 q1 h0,r,q2⟩
theorem U7{op op':CmpOp}{r r':R2}(ho:jA X (compareOp op) r)(ho':jA X (compareOp op') r')(ha:bE X a ta)(hb:bE X b tb)(hc:bE X c tc)(hm:lastMarks [op,op'] [b,c]=false:=by with_unfolding_all rfl):bE X (.Compare a [op,op'] [b,c] pos) (Zf r r' ta tb tc):=by
 have ha:=ha.h;have hb:=hb.h;have hc:=hc.h;constructor;intro pins s σ H Q I h;refine Compare_chain (br (ha pins s σ H _ I h) λv s1 ⟨x,H1,I1,r1,q1⟩=>chain_link (br (hb pins s1 σ H1 _ I1 q1) λu s2 ⟨y,H2,I2,r2,q2⟩=>
  br (ho pins s2 σ H2 x y v u _ I2 r1 r2 q2) λd s3 ⟨z,H3,I3,r3,k,e,q3⟩=>?_)) hm
 subst e;cases r3;refine EH ?_;cases k with
 | false=>exact ite_ff ⟨.bl false,H3,I3,Z,q3⟩
 | true=>exact ite_tt (chain_last (br (hc pins s3 σ H3 _ I3 q3) λw' s4 ⟨z',H4,I4,r4,q4⟩=>ho' pins s4 σ H4 y z' u w' Q I4 r2 r4 q4))
theorem h_{x1}(h:bA X es t):bE X (.Tuple es x1 pos) (agc t):=by have h:=h.h;constructor;intro pins s σ H Q I hq;refine wpAny_Tuple_spliced (br (h pos pins s σ H _ I hq) λus s1 ⟨xs,H1,I1,r,z,q⟩=>⟨by rw[<-r.length];exact z,?_⟩);have hf:H1 s1.heap.objs.size=none:=I1.hok.fresh (aO _);refine⟨.ref s1.heap.objs.size,upd H1 s1.heap.objs.size (.tup xs),I1.laid (t':=s1.toks) (λb u e=>cy _ e) (aO _) ?_,Z,q _ hf⟩;exact⟨z,us,r,⟨_,eU _ rfl,Z,_,Z⟩⟩
theorem KL{tg iter elt cond:Expr}{scope:Scope}{pos:Pos}(N2:List Str)(ix:List (Option Nat)){wi:TI}{g:TG}{tc:TT}{te:TE}(hc:X.calm=true)(hi:bI X tg iter wi)(hg:∀cl s₂ H₂ fp,bG (cO X N2 scope cl s₂ H₂ fp) tg g)(he:∀cl s₂ H₂ fp,bE (cO X N2 scope cl s₂ H₂ fp) elt te)(ht:∀cl s₂ H₂ fp,bT (cO X N2 scope cl s₂ H₂ fp) cond tc)(hk:scope.kind =.function)(hn:nS X.N X.env.scope.names scope.names N2 ix=true)(hs:∀x,foldedSetIterable iter X.env x=pure x:=by intro _;rfl):bE X (.ListComp elt [⟨tg,iter,[cond],0⟩] scope pos) (R8 wi ix g tc te):=⟨UR N2 ix hc hi.h (λcl s₂ H₂ fp=>(hg cl s₂ H₂ fp).h) (λcl s₂ H₂ fp=>(he cl s₂ H₂ fp).h) (λcl s₂ H₂ fp=>(ht cl s₂ H₂ fp).h) hk hn hs⟩
theorem aP{op:Operator}{r:R2}(ho:jA X (binaryOp op) r)(ha:bE X a ta)(hb:bE X b tb):bE X (.BinOp a op b pos) (Gj r ta tb):=by have ha:=ha.h;have hb:=hb.h;constructor;intro pins s σ H Q I h;exact wpAny_BinOp (Uo ha hb I h λv u s2 x y H2 I2 rx ry q=>ho pins s2 σ H2 x y v u Q I2 rx ry q)
theorem ye{op:CmpOp}{t:TE}(h:bC X op a b t)(h1:behindInMarks op b=false:=by first|exact agz _ (by decide) (by decide)|rfl):bT X (.Compare a [op] [b] pos) (tB t):=by have h:=h.h;constructor;intro pins s σ H Q I hw;refine wpAny_isTrue_Compare1 (br (h pins s σ H _ I hw) λv s1 h1=>br h1 λu s2 h2=>br h2 λc s3 ⟨x,H1,I1,r1,q1⟩=>?_) h1;obtain⟨d,rfl,q⟩:=q1;cases r1;exact EH ⟨H1,I1,q⟩
theorem fB{tg:Expr}{iter:Expr}{body:List Stmt}{wi:TI}{g:TG}{tb:TS}{pos:Pos}(hp:PassesOwn (model X.prog X.w) X.A X.env X.xe)(hc:X.calm=true)(hi:bI X tg iter wi)(hg:bG X tg g)(hb:c9 X body tb)(hs:∀x,foldedSetIterable iter X.env x=pure x:=by intro _;rfl):bS X (.For tg iter body [] pos) (af7 wi g tb):=by
 have hi:=hi.h;have hg:=hg.h;have hb:=hb.h;constructor;intro pins s σ H D I h;refine wpAny_For (br (hi pins s σ H _ I h) λv s1 h1=>br h1 λitv s2 h2=>?_) hs;obtain⟨it,fp,tn,J,H2,e,I2,T,st2,f2,W,⟨m0,w0⟩,turn⟩:=h2;subst e;have oK:∀{H':Hp},(∀b∈fp,H' b=none)->∀b∈fp,mC X pins H' b:=λhn b hb=>⟨hn b hb,(f2 b hb).2⟩
 refine codeAny_forLoop_any (λn s'=>∃i σ' H',Inv X pins σ' H' s'/\tn i s'.heap/\(∀b∈fp,H' b=none)/\W i n σ' H') ?_ m0 ⟨0,σ,H2,I2,st2,λb hb=>(f2 b hb).1,w0⟩;rintro n s3 ⟨i,σ3,H3,I3,st3,Ws,w3⟩;rcases turn i n σ3 H3 w3 with⟨stop,qn⟩|⟨go,N,hN,step⟩
 .refine yt hp (br (T.done X rfl rfl rfl hc i pins s3 σ3 H3 X.xe I3 (oK Ws) st3 stop) λr s4 ⟨hr,I4⟩=>?_);subst hr;exact Je ⟨σ3,H3,I4,qn⟩
 .refine yt hp (br (T.item X rfl rfl rfl hc i pins s3 σ3 H3 X.xe I3 (oK Ws) st3 go) λr s4 ⟨u,hr,h4⟩=>?_);subst hr;refine yt hp (br h4 λ_ s5 ⟨x,H5,I5,r5,y5,zC,BC⟩=>?_);have I5':=I5.pinned (oK BC) (T.obj _ _ zC);refine yt hp (br (hg _ s5 σ3 H5 x u _ I5' r5 (step x H5 y5)) λ_ s6 ⟨σ6,H6,I6,q6⟩=>?_);refine yt hp (br (hb _ s6 σ6 H6 _ I6 q6) λf s7 q7=>?_);have again:∀{σ7:St}{H7:Hp},Inv X (pins++C0 fp s5.heap) σ7 H7 s7->N σ7 H7->∃m,m<n/\∃i σ' H',Inv X pins σ' H' s7/\tn i s7.heap/\(∀b∈fp,H' b=none)/\W i m σ' H':=λ{σ7 H7} I7 n7=>by obtain⟨m',hm,w7⟩:=hN σ7 H7 n7;refine⟨m',hm,i+1,σ7,H7,I7.oJ,T.keep _ _ _ zC λb hb o e=>(I7.pin (b,o) (gv _ (gv _ (iC hb e)))).1,λb hb=>?_,w7⟩;obtain⟨o,e,d⟩:=T.obj _ _ zC b hb;exact(I7.pin (b,o) (gv _ (gv _ (iC hb e)))).2.1
  cases f with
  | next=>obtain⟨σ7,H7,I7,n7⟩:=q7;exact again I7 n7
  | cont=>obtain⟨σ7,H7,I7,n7⟩:=q7;exact again I7 n7
  | brk=>obtain⟨σ7,H7,I7,q7⟩:=q7;exact⟨σ7,H7,I7.oJ,q7⟩
  | ret v=>obtain⟨x7,σ7,H7,I7,r7,q7⟩:=q7;exact⟨x7,σ7,H7,I7.oJ,r7,q7⟩
theorem Yi:bS X (.Return none pos) acu:=by exact⟨λ_ _ σ H _ I h=>wpAny_Return_none ⟨.cT,σ,H,I,Z,h⟩⟩
theorem kq{tg iter elt:Expr}{scope:Scope}{pos:Pos}(N2:List Str)(ix:List (Option Nat)){wi:TI}{g:TG}{te:TE}(hc:X.calm=true)(hi:bI X tg iter wi)(hg:∀cl s₂ H₂ fp,bG (cO X N2 scope cl s₂ H₂ fp) tg g)(he:∀cl s₂ H₂ fp,bE (cO X N2 scope cl s₂ H₂ fp) elt te)(hk:scope.kind =.function)(hn:nS X.N X.env.scope.names scope.names N2 ix=true)(hs:∀x,foldedSetIterable iter X.env x=pure x:=by intro _;rfl):bE X (.ListComp elt [⟨tg,iter,[],0⟩] scope pos) (Wd wi ix g te):=by have hi:=hi.h;have hg:=λcl s₂ H₂ fp=>(hg cl s₂ H₂ fp).h;have he:=λcl s₂ H₂ fp=>(he cl s₂ H₂ fp).h;constructor;intro pins s σ H Q I h;obtain⟨k1,k2,k3,k4,k5⟩:=kR hn;obtain⟨cl,J3,c1,c2⟩:=uH (scope:=scope) (env:=X.env) λy hy e=>I.ok.has y.1 (k3 y hy e);rw[eval_ListComp];refine PB (use:=none) rfl hs J3 hk k4 (br (hi pins s σ H _ I h) λv s1 h1=>br h1 λitv s2 h2=>?_);obtain⟨it,fp,tn,J,H2,e,I2,T,st2,f2,h2⟩:=h2;subst e;refine Dj (RR:=λacc C=>compPost (model X.prog X.w) X.A X.xe none (EP X pins σ Q) acc C) (Q:=Q) hc hg he hk hn (λy c m=>(c1 y c m).1) c2 I2 T st2 f2 h2 ?_;intro acc C H' s' m I' ns x9 hL hsz sQ yJ q;exact⟨m,ns,λh' hs'=>⟨.ref acc,H',I'.turned (it:=C) (t':=s'.toks) (λb o hb e=>(hs'.2 b hb).trans e) x9 hL (.inr hsz) sQ yJ,Z,q⟩⟩
theorem KN(hu:X.A.units+1<cLine)(hi:bE X i ty)(ho:bE X o td):bC X .In i o (agk ty td):=by have hi:=hi.h;have ho:=ho.h;constructor;intro pins s σ H Q I h;refine br (hi pins s σ H _ I h) λiv s1 ⟨y,H1,I1,ry,q1⟩=>br (ho pins s1 σ H1 _ I1 q1) λu s2 ⟨x,H2,I2,rx,a,ov,ex,g,q2⟩=>?_;subst ex;obtain rfl:u=Value.ref a:=rx;exact agj hu I2 g ry λs3 I3=>⟨.bl ov.isSome,H2,I3,Z,q2⟩
theorem bQ{x j pos}:bE X (.Constant (.str x) j pos) (tC (.str x)):=by exact⟨λ_ _ _ H _ I h=>Calls.Constant_str ⟨.str x,H,I.tok _,⟨_,Z⟩,h⟩⟩
theorem Wt{op:UnaryOp}{r:V->Hp->VK->Prop}(ho:Zb X (unaryOp op) r)(ha:bE X a ta):bE X (.UnaryOp op a pos) (tUn r ta):=by have ha:=ha.h;constructor;intro pins s σ H Q I h;exact UnaryOp_ (br (ha pins s σ H _ I h) λv s1 ⟨x,H1,I1,r1,q1⟩=>ho pins s1 σ H1 x v Q I1 r1 q1)
theorem rj(K:Fg){a b:Expr}{ta:TA}{p pos:Pos}(hg:Gl X "zip")(hm:X.mg "zip"=none)(ha:bA X [a,b] ta)(hK:X.K=K:=by rfl)(hs:starEach [a,b] X.env=[(false,eval a X.env),(false,eval b X.env)] :=by rfl)(hs2:starEach [b] X.env=[(false,eval b X.env)] :=by rfl):bI X (.Tuple elts kk tpos) (.Call (.Name "zip" p) [a,b] [] pos) (acZ K ta):=by
 have ha:=ha.h;constructor;subst hK;intro pins s σ H R I h;refine Call_ (xY I hg hm boot_zip (Rj (br (ha pos pins s σ H _ I h) λus s1 ⟨vs,H1,I1,r1,q1⟩=>?_) (by rw[hs,hs2]) (by rw[hs2];rfl)));obtain⟨u1,u2,S1,S2,xs,ys,e,k1,k2,q⟩:=q1;subst e;obtain⟨u,w',rfl,ru,rw'⟩:=vals2 r1;obtain⟨g1,l1,o1,p1,lt1,b1,ajl,at1,st1,c1⟩:=k1.ok I1 ru;obtain⟨g2,l2,o2,p2,lt2,b2,ade,at2,st2,c2⟩:=k2.ok I1 rw';refine callType_newIn F.called_zip (by decide) (F.typeCall_zip_2 _ _) (F.newCall_zip_2 _ _) (λobj=>F.args_object_init_3 obj _ _) F.entry_zip_new (QF st1 st2) ⟨b1,ade _ _ b2,?_⟩;have z1:(s1.heap.push o1).objs.size=s1.heap.objs.size+1:=kP ..;have z2:((s1.heap.push o1).push o2).objs.size=s1.heap.objs.size+2:=by rw[kP,z1]
 generalize e3:({ cls:=.type "tuple",data:=.seq #[.ref s1.heap.objs.size,.ref (s1.heap.push o1).objs.size] }:Obj)=o3;have z3:(((s1.heap.push o1).push o2).push o3).objs.size=s1.heap.objs.size+3:=by rw[kP,z2]
 generalize e4:({ cls:=.type "tuple",data:=.seq #[.none,.none] }:Obj)=o4;have z4:((((s1.heap.push o1).push o2).push o3).push o4).objs.size=s1.heap.objs.size+4:=by rw[kP,z3]
 generalize e5:({ cls:=.type "zip",data:=.fields #[.none,.bool false,.bool false,.ref ((s1.heap.push o1).push o2).objs.size,.ref (((s1.heap.push o1).push o2).push o3).objs.size] }:Obj)=o5;have g5:(((((s1.heap.push o1).push o2).push o3).push o4).push o5).get? ((((s1.heap.push o1).push o2).push o3).push o4).objs.size=some o5:=eU _ (by rw[<-e5];rfl);have g4:(((((s1.heap.push o1).push o2).push o3).push o4).push o5).get? (((s1.heap.push o1).push o2).push o3).objs.size=some o4:=cy _ (eU _ (by rw[<-e4];rfl));have g3:(((((s1.heap.push o1).push o2).push o3).push o4).push o5).get? ((s1.heap.push o1).push o2).objs.size=some o3:=cy _ (cy _ (eU _ (by rw[<-e3];rfl)));have g2':(((((s1.heap.push o1).push o2).push o3).push o4).push o5).get? (s1.heap.push o1).objs.size=some o2:=cy _ (cy _ (cy _ (at2 _)));have g1':(((((s1.heap.push o1).push o2).push o3).push o4).push o5).get? s1.heap.objs.size=some o1:=cy _ (cy _ (cy _ (cy _ (at1 _))));have kp:∀c o,s1.heap.get? c=some o->(((((s1.heap.push o1).push o2).push o3).push o4).push o5).get? c=some o:=λc o x=>cy _ (cy _ (cy _ (cy _ (cy _ x))));rw[z4]at g5 ⊢;rw[z3]at g4 e5;rw[z2]at g3 e5;rw[z1]at g2' e3;generalize (((((s1.heap.push o1).push o2).push o3).push o4).push o5)=hN at *;show _/\_;subst e3 e4 e5;refine⟨⟨_,g5,Z⟩,wpAny_pyIter_zip (s:={ s1 with heap:=hN }) g5 ?_⟩;have I2:Inv X pins σ H1 { s1 with heap:=hN }:=I1.kept (t':=s1.toks) kp;obtain⟨t1,ajr,C1,n1⟩:=c1 s1.heap.objs.size;obtain⟨t2,ajs,C2,n2⟩:=c2 (s1.heap.objs.size+1);refine⟨s1.heap.objs.size+4,[s1.heap.objs.size+4,s1.heap.objs.size+2,s1.heap.objs.size+3,s1.heap.objs.size,s1.heap.objs.size+1],_,_,H1,Z,I2,Sh (MO lt1 lt2) C1 C2,⟨g5,g3,⟨_,_,g4⟩,n1 _ g1',n2 _ g2'⟩,λb hb=>?_,q⟩;have hb':b=s1.heap.objs.size+4\/b=s1.heap.objs.size+2\/b=s1.heap.objs.size+3\/b=s1.heap.objs.size\/b=s1.heap.objs.size+1:=by simpa using hb
 have le:s1.heap.objs.size<=b:=by
  rcases hb' with r|r|r|r|r
  .rw [r];exact xB _ _
  .rw [r];exact xB _ _
  .rw [r];exact xB _ _
  .rw [r];exact aO _
  .rw [r];exact xB _ _
 exact I1.BW le (I1.hok.fresh le)
theorem aX{op:CmpOp}{r:R2}(ho:jA X (compareOp op) r)(ha:bE X a ta)(hb:bE X b tb)(hm:behindInMarks op b=false):bT X (.Compare a [op] [b] pos) (Jh (Gj r ta tb)):=by
 have ha:=ha.h;have hb:=hb.h;constructor;intro pins s σ H Q I h;refine wpAny_isTrue_Compare1 (br (ha pins s σ H _ I h) λv s1 ⟨x,H1,I1,r1,q1⟩=>br (hb pins s1 σ H1 _ I1 q1) λu s2 ⟨y,H2,I2,r2,q2⟩=>
  br (ho pins s2 σ H2 x y v u _ I2 r1 r2 q2) λc s3 ⟨z,H3,I3,r3,k,e,q3⟩=>?_) hm
 subst e;cases r3;exact EH ⟨H3,I3,q3⟩
theorem a_{i:Nat}{x:Str}{e:Expr}{te:TE}{pos':Pos}(hN:X.N.Nodup)(he:bE X e te)(hi:X.N[i]?=some x:=by rfl)(hx:Loc X.env.scope x:=by first|exact Or.inl rfl|exact Or.inr rfl)(hs:swapsWith e (some (.Name x pos')) pos.line X.env=pure false:=by rfl)(hf:X.fn x=true\/X.env.scope.names.lookup x=some .local:=by first|exact .inl rfl|exact .inr rfl|assumption):bS X (.Assign [.Name x pos'] e pos) (Ug te (uG i)):=by have he:=he.h;constructor;intro pins s σ H D I h;refine wpAny_Assign_Name (br (he pins s σ H _ I h) λv s1 ⟨y,H1,I1,r1,q1⟩=>?_) hs;exact yC I1 hN hi hx r1 (λs2 I2=>⟨_,H1,I2,q1⟩) hf
theorem Yj{X:Cx}{pos:Pos}{keys:List (Option Expr)}{values:List Expr}{Dc:List (TE×TE)}(h:Wr X pos keys values Dc)(hall:keys.all (·.isSome)=true)(hl:keys.length=values.length)(h0:keys≠[])(h15:keys.length<=15):bE X (.Dict keys values pos) (acO Dc):=by
 have h:=h.h;constructor;intro pins s σ H Q I q;have hn:=I.hok.fresh (aO s.heap.objs.size);have I1:=I.laid (a:=s.heap.objs.size) (o:=.dK []) (h':=s.heap.push { cls:=.type "dict",data:=.dict #[] }) (t':=s.toks) (λ_ _ q=>cy _ q) (aO _) (BZ s.heap I.big);refine wpAny_Dict_walk (knd:=dj X.prog X.w) hall hl h0 h15 (br (h pins _ σ _ _ I1 (q _ hn)) λws s2 ⟨ps,H2,I2,rel,e,kvs,ep,lk,q2⟩=>?_);subst ep;obtain⟨rs,c,rk⟩:=De (P:=X.prog) (w:=X.w) rel;obtain⟨z,hd,Sj,r0,dd⟩:=yD I2.hok e;cases r0;refine⟨rs,c,dd,λh' u6 hs=>⟨.ref s.heap.objs.size,_,?_,Z,q2⟩⟩;have hz:(x8 [] kvs).length<=sizeLine:=by have h1:=zA kvs [];rw[List.length_nil]at h1;rw[j8];omega
 have he:∃q,h'.get? s.heap.objs.size=some q:=let⟨q,_,_,hq,_⟩:=u6;⟨q,hq⟩;exact x6 I2 (by rw[e];exact True.intro) hs he (z8 hz hd (rk.merge .nil) u6)
theorem dZ(K:Fg){tg l:Expr}{tl:TE}(hl:bE X l tl)(hK:X.K=K:=by rfl):bI X tg l (V6 K tl):=by have hl:=hl.h;exact⟨hK▸Xf hl⟩
theorem lH{X:Cx}{e:Expr}{t:TT}(h:bT X e t):bT X e (λσ H Q=>∃b:Bool,t σ H (λb' H'=>b'=b/\H'=H)/\Q b H):=by have h:=h.h;constructor;intro pins s σ H Q I hw;obtain⟨b,hb,q⟩:=hw;refine br (h pins s σ H _ I hb) λb' s' ⟨H',I',e1,e2⟩=>?_;subst e1 e2;exact⟨_,I',q⟩
theorem az{st:Stmt}(h1:bS X st t):c9 X [st] t:=by
 have h1:=h1.h;constructor;intro pins s σ H D I h;refine wpAny_execs_cons (br (h1 pins s σ H D I h) λf s1 q=>?_);cases f with
 | next=>exact Je q
 | ret v=>exact q
 | brk=>exact q
 | cont=>exact q
theorem OL(ho:bE X o td)(hi:bE X i ty):bS X (.Delete [.Subscript o i tpos] pos) (acN td ty):=by have ho:=ho.h;have hi:=hi.h;constructor;intro pins s σ H D I h;refine wpAny_Delete (wpAny_deleteEach_cons (wpAny_delete_Subscript (br (ho pins s σ H _ I h) λu s1 ⟨x,H1,I1,rx,q1⟩=>br (hi pins s1 σ H1 _ I1 q1) λiv s2 ⟨y,H2,I2,ry,a,kvs,k,ex,e,ey,l,q2⟩=>?_)));subst ex ey;obtain rfl:u=Value.ref a:=rx;exact RN I2 e ry l λs3 I3=>wpAny_deleteEach_nil ⟨σ,_,I3,q2⟩
theorem KO(ha:bT X a tA):bT X (.UnaryOp .Not a pos) (af2 tA):=by have ha:=ha.h;constructor;intro pins s σ H Q I h;exact isTrue_not (ha pins s σ H (λc H1=>Q (!c) H1) I h)
theorem b9(he:bE X e te)(hs:swapsWith e none pos.line X.env=pure false:=by rfl):bS X (.Expr e pos) (acs te):=by have he:=he.h;constructor;intro pins s σ H D I h;exact wpAny_Expr_any (br (he pins s σ H _ I h) λv s1 ⟨x,H1,I1,r1,q1⟩=>⟨σ,H1,I1,q1⟩) I.quiet hs
theorem bZ{pl:Sem Bool}{j k:Nat}{C:Addr}{m:Str}{ps:List Str}{sp:Sp}{o e:Expr}{es:List Expr}{ta:TE}{t:TA}{apos pos:Pos}(D:Mn X.prog X.w X.K X.mg X.base j C m ps sp)(hr:fj k X.A)(ho:bE X o ta)(ha:bA X (e::es) t)(hj:j<=k:=by decide)(hst:starEach (e::es) X.env=(false,eval e X.env)::starEach es X.env:=by rfl)(hpl:(backTo pos (starEach es X.env)).any (·.1)=false:=by rfl)(ht:eval (.Call (.Attribute o m apos) (e::es) [] pos) X.env=(do
   let ov <-eval o X.env
   standAt apos.atName
   let(f,first) <-holding [ov] (getMethod ov m pl)
   callWith pos f first (backTo pos (starEach (e::es) X.env)) (backToKw pos (keywordEach [] X.env))):=by rfl):bE X (.Call (.Attribute o m apos) (e::es) [] pos) (Ji C m sp [] E0 ta t):=by
 have ho:=ho.h;have ha:=ha.h;constructor
 obtain⟨f,fd,F,b,hm,c⟩:=D.ex
 exact Xo (pl:=pl) ho c hm F (hr.mono hj) b .nil (λ_ _ _ _ _ _ _ h=>h.elim) ha hst hpl ht
theorem cD{e:Expr}{es:List Expr}{t:TG}{u:CY}(h1:bG X e t)(h2:Wq X es u)(hs:(assignEach (e::es) X.env).map (·.2)=assign e X.env::(assignEach es X.env).map (·.2):=by rfl):Wq X (e::es) (V4 t u):=by
 have h1:=h1.h;have h2:=h2.h;constructor;intro pins s σ H vs us Q I r h;obtain⟨v,vr,e1,h⟩:=h;subst e1;cases r with
 | cons r rr=>rw[hs];refine assignInOrder_cons (br (h1 pins s σ H _ _ _ I r h) λ_ s1 ⟨σ1,H1,I1,q1⟩=>?_);exact h2 pins s1 σ1 H1 _ _ Q I1 rr q1
theorem pD{i:Nat}{x:Str}{px pos':Pos}{tg iter elt:Expr}{scope:Scope}{pos:Pos}(N2:List Str)(ix:List (Option Nat)){wi:TI}{g:TG}{te:TE}(hN:X.N.Nodup)(hi:X.N[i]?=some x)(hx:X.env.scope.names.lookup x=some .local)(hc:X.calm=true)(hit:bI X tg iter wi)(hg:∀cl s₂ H₂ fp,bG (cO X N2 scope cl s₂ H₂ fp) tg g)(he:∀cl s₂ H₂ fp,bE (cO X N2 scope cl s₂ H₂ fp) elt te)(hk:scope.kind =.function)(hn:nS X.N X.env.scope.names scope.names N2 ix=true)(hw:swapsWith (.ListComp elt [⟨tg,iter,[],0⟩] scope pos) (some (.Name x px)) pos'.line X.env=pure true)(hs:∀x,foldedSetIterable iter X.env x=pure x:=by intro _;rfl):bS X (.Assign [.Name x px] (.ListComp elt [⟨tg,iter,[],0⟩] scope pos) pos') (Ug (Wd wi ix g te) (uG i)):=by
 have hit:=hit.h;have hg:=λcl s₂ H₂ fp=>(hg cl s₂ H₂ fp).h;have he:=λcl s₂ H₂ fp=>(he cl s₂ H₂ fp).h;constructor;intro pins s σ H D I h;obtain⟨k1,k2,k3,k4,k5⟩:=kR hn;obtain⟨cl,J3,c1,c2⟩:=uH (scope:=scope) (env:=X.env) λy hy e=>I.ok.has y.1 (k3 y hy e);rw[exec_Assign_Name_used _ _ _ _ hw];refine aA (yw (aA ?_));show wpAny _ X.A (do let _ <-comprehension (.ListComp elt [⟨tg,iter,[],0⟩] scope pos) scope X.env _ (newList []) false (eval iter X.env) (some (assign (.Name x px) X.env))) _ _ s;refine aA (br (PB (use:=some (assign (.Name x px) X.env)) (Q:=λ_ s'=>SP X pins D .next s') rfl hs J3 hk k4 (br (hit pins s σ H _ I h) λv s1 h1=>br h1 λitv s2 h2=>?_)) λ_ s' hq=>aU (aU hq));obtain⟨it,fp,tn,J,H2,e,I2,T,st2,f2,h2⟩:=h2;subst e;refine Dj (RR:=λacc C=>compPost (model X.prog X.w) X.A X.xe (some (assign (.Name x px) X.env)) (λ_ s'=>SP X pins D .next s') acc C) (Q:=λv H'=>D.nx (σ.set i (some v)) H') hc hg he hk hn (λy c m=>(c1 y c m).1) c2 I2 T st2 f2 h2 ?_;intro acc C H' s' m I' ns x9 hL hsz sQ yJ q;show wpAny _ X.A (assign (.Name x px) X.env (.ref acc)) _ _ _;refine wpAny_assign_Name (Gi I' hN hi (.inl hx) (v:=.ref acc) rfl (λs3 I3 ⟨a,sb,ha⟩=>?_) (.inr hx));have ca:C≠a:=by
  rcases ha with z|z
  .rw [z];exact hL
  .exact λe=>sQ x a z e.symm
 exact⟨m,ns.sameBut sb ca,λh' hs'=>⟨_,H',I3.turned (it:=C) (t':=s3.toks) (λb o hb e=>(hs'.2 b hb).trans e) x9 hL (.inr hsz) sQ yJ,q⟩⟩
theorem Cg{X:Cx}{pos:Pos}{k v:Expr}{ks:List (Option Expr)}{vs:List Expr}{tk tv:TE}{Dc:List (TE×TE)}(hk:bE X k tk)(hv:bE X v tv)(hr:Wr X pos ks vs Dc):Wr X pos (some k::ks) (v::vs) ((tk,tv)::Dc):=by
 have hk:=hk.h;have hv:=hv.h;have hr:=hr.h;exact⟨λpins s σ H Q I h=>
 pairTrees_cons_walk (br (hk pins s σ H _ I h) λu s1 ⟨x,H1,I1,rx,q1⟩=>br (hv pins s1 σ H1 _ I1 q1) λw2 s2 ⟨y,H2,I2,ry,q2⟩=>
  br (hr pins s2 σ H2 _ I2 q2) λws s3 ⟨ps,H3,I3,rel,q3⟩=>⟨(x,y)::ps,H3,I3,.cons ⟨rx,ry⟩ rel,q3⟩)⟩
theorem AA(hu:X.A.units+1<cLine)(hi:bE X i ty)(ho:bE X o td):bC X .NotIn i o (Xw ty td):=by have hi:=hi.h;have ho:=ho.h;constructor;intro pins s σ H Q I h;refine br (hi pins s σ H _ I h) λiv s1 ⟨y,H1,I1,ry,q1⟩=>br (ho pins s1 σ H1 _ I1 q1) λu s2 ⟨x,H2,I2,rx,a,ov,ex,g,q2⟩=>?_;subst ex;obtain rfl:u=Value.ref a:=rx;exact Xs hu I2 g ry λs3 I3=>⟨.bl (!ov.isSome),H2,I3,Z,q2⟩
theorem Wu{b j pos}:bE X (.Constant (.bool b) j pos) (tC (.bl b)):=by exact⟨λ_ _ _ H _ I h=>Constant_bool ⟨.bl b,H,I,Z,h⟩⟩
theorem kr{pl:Sem Bool}{j k:Nat}{C:Addr}{m:Str}{ps:List Str}{sp:Sp}{o:Expr}{ta:TE}{apos pos:Pos}(D:Mn X.prog X.w X.K X.mg X.base j C m ps sp)(hr:fj k X.A)(ho:bE X o ta)(hj:j<=k:=by decide)(ht:eval (.Call (.Attribute o m apos) [] [] pos) X.env=(do
   let ov <-eval o X.env
   standAt apos.atName
   let(f,first) <-holding [ov] (getMethod ov m pl)
   callWith pos f first (backTo pos (starEach [] X.env)) (backToKw pos (keywordEach [] X.env))):=by rfl):bE X (.Call (.Attribute o m apos) [] [] pos) (Ji C m sp [] E0 ta uX):=by
 have ho:=ho.h;constructor
 obtain⟨f,fd,F,b,hm,c⟩:=D.ex
 exact Uv (pl:=pl) ho c hm F (hr.mono hj) b .nil (λ_ _ _ _ _ _ _ h=>h.elim) ht
theorem bF(he:bE X e te):bS X (.Return (some e) pos) (af4 te):=by have he:=he.h;constructor;intro pins s σ H D I h;exact wpAny_Return_some (br (he pins s σ H _ I h) λv s1 ⟨x,H1,I1,r1,q1⟩=>⟨x,σ,H1,I1,r1,q1⟩)
theorem mL{tg:Expr}{a:Expr}{ta:TA}{p pos:Pos}(hg:Gl X "range")(hm:X.mg "range"=none)(ha:bA X [a] ta)(hs:starEach [a] X.env=[(false,eval a X.env)] :=by rfl):bI X tg (.Call (.Name "range" p) [a] [] pos) (acB ta):=by
 have ha:=ha.h;constructor;intro pins s σ H R I h;refine Call_ (xY I hg hm boot_range (Rj (br (ha pos pins s σ H _ I h) λus s1 ⟨vs,H1,I1,r1,q1⟩=>?_) hs rfl));obtain⟨j,e,q1,q2,q⟩:=q1;subst e;cases r1 with
 | cons r rr=>cases rr;obtain⟨t,rfl⟩:=r;exact call_range_1 (Um I1 (by omega) (by omega) q1 q2 (by simpa using q))
theorem bP:c9 X [] acr:=by exact⟨λ_ _ σ H _ I h=>Je ⟨σ,H,I,h⟩⟩
theorem cQ(K:Fg){o value:Expr}{f:Str}{ta tv:TE}{pos pos':Pos}(ha:bE X o ta)(hv:bE X value tv)(hs:swapsWith value (some (.Attribute o f pos')) pos.line X.env=pure false:=by rfl)(hK:X.K=K:=by rfl):bS X (.Assign [.Attribute o f pos'] value pos) (Zh K ta tv f):=by have ha:=ha.h;have hv:=hv.h;exact⟨hK▸Zk ha hv hs⟩
theorem GV{tg:Expr}{a b c:Expr}{ta:TA}{p pos:Pos}(hg:Gl X "range")(hm:X.mg "range"=none)(ha:bA X [a,b,c] ta)(hs:starEach [a,b,c] X.env=[(false,eval a X.env),(false,eval b X.env),(false,eval c X.env)] :=by rfl)(hs2:starEach [b,c] X.env=[(false,eval b X.env),(false,eval c X.env)] :=by rfl):bI X tg (.Call (.Name "range" p) [a,b,c] [] pos) (acW ta):=by
 have ha:=ha.h;constructor;intro pins s σ H R I h;refine Call_ (xY I hg hm boot_range (Rj (br (ha pos pins s σ H _ I h) λus s1 ⟨vs,H1,I1,r1,q1⟩=>?_) (by rw[hs,hs2]) (by rw[hs2];rfl)));obtain⟨i,j,k,e,⟨q1,q2,q3,q4,q5,q6⟩,q⟩:=q1;subst e;cases r1 with
 | cons r rr=>
  cases rr with
  | cons r' rr=>
   cases rr with
   | cons r'' rr=>
    cases rr;obtain⟨t,rfl⟩:=r;obtain⟨t',rfl⟩:=r';obtain⟨t'',rfl⟩:=r'';obtain⟨sm,sz⟩:=MR q1 q2 q3 q4 q5 q6;refine call_range_3 (by omega) ?_ (Or.inl (PyProof.noPylong_small (by omega)));refine wpAny_pyIter_range (IsRange.new ..) sm ?_;have I2:Inv X pins σ H1 { s1 with heap:=s1.heap.push { cls:=.type "range",data:=.fields #[.int i t,.int j t',.int k t''] },toks:=s1.toks }:=I1.kept λb o e=>cy _ e;refine⟨(s1.heap.push { cls:=.type "range",data:=.fields #[.int i t,.int j t',.int k t''] }).objs.size,[(s1.heap.push { cls:=.type "range",data:=.fields #[.int i t,.int j t',.int k t''] }).objs.size],_,_,H1,Z,
     I2.kept (t':=s1.toks) λb o e=>cy _ e,MQ _ i k (qS i j k),?_,λb hb=>?_,q⟩
    .have e1:i+((0:Nat):Int)*k=i:=by simp
     have e2:((qS i j k:Nat):Int)-((0:Nat):Int)=Builtin.Range.rangeSize i j k:=by unfold qS;omega
     show IsRangeIter _ _ (i+((0:Nat):Int)*k) (((qS i j k:Nat):Int)-((0:Nat):Int)) k;rw[e1,e2];exact eU _ rfl
    .have e:b=(s1.heap.push { cls:=.type "range",data:=.fields #[.int i t,.int j t',.int k t''] }).objs.size:=by simpa using hb
     subst e;exact I2.BW (aO _) (I2.hok.fresh (aO _))
theorem SH{a:Expr}{ta:TA}{p pos:Pos}(hg:Gl X "range")(hm:X.mg "range"=none)(ha:bA X [a] ta)(hs:starEach [a] X.env=[(false,eval a X.env)] :=by rfl):bE X (.Call (.Name "range" p) [a] [] pos) (agn ta):=by have ha:=ha.h;constructor;intro pins s σ H Q I h;refine Call_ (xY I hg hm boot_range (Rj (br (ha pos pins s σ H _ I h) λus s1 ⟨vs,H1,I1,r1,q1⟩=>?_) hs rfl));obtain⟨j,e,q⟩:=q1;subst e;obtain⟨u,rfl,ru⟩:=vals1 r1;obtain⟨t,rfl⟩:=ru;exact call_range_1 ⟨.ref s1.heap.objs.size,_,I1.laid (a:=s1.heap.objs.size) (o:=.xV 0 j) (λb o e=>cy _ e) (aO _) ⟨_,_,_,eU _ rfl⟩,Z,q _ I1.fresh⟩
theorem ia(h:bA X es t):bE X (.List es pos) (agd t):=by have h:=h.h;constructor;intro pins s σ H Q I hq;refine wpAny_List_spliced (br (h pos pins s σ H _ I hq) λus s1 ⟨xs,H1,I1,r,z,q⟩=>⟨by rw[<-r.length];exact z,?_⟩);have hf:H1 s1.heap.objs.size=none:=I1.hok.fresh (aO _);refine⟨.ref s1.heap.objs.size,upd H1 s1.heap.objs.size (.lst xs),I1.laid (t':=s1.toks) (λb u e=>cy _ e) (aO _) ?_,Z,q _ hf⟩;exact⟨z,us,0,r,eU _ rfl⟩
theorem qc(K:Fg){o value:Expr}{f:Str}{ta tv:TE}{pos tpos:Pos}{op:Operator}{rd:V->V->Hp->VK->Prop}(ha:bE X o ta)(hv:bE X value tv)(hop:JJ X op rd)(hK:X.K=K:=by rfl):bS X (.AugAssign (.Attribute o f tpos) op value pos) (Oj K ta tv rd f):=by have ha:=ha.h;have hv:=hv.h;exact⟨hK▸RC ha hv hop⟩
theorem aap{j pos}:bE X (.Constant .none j pos) (tC .cT):=by exact⟨λ_ _ _ H _ I h=>Constant_none ⟨.cT,H,I,Z,h⟩⟩
theorem EZ{ob:Expr}{td:TE}{apos cpos:Pos}(hob:bE X ob td)(hbase:attributeBase ob "values" X.env (eval ob X.env)=eval ob X.env:=by rfl)(hline:(apos.endLine==cpos.line)=true:=by rfl):bE X (.Call (.Attribute ob "values" apos) [] [] cpos) (acY td):=by have hob:=hob.h;constructor;intro pins s σ H Q I h;refine wpAny_Call_method0_late hbase hline (br (hob pins s σ H _ I h) λv s1 ⟨x,H1,I1,r1,q1⟩=>?_);obtain⟨d,kvs,rfl,e,fin⟩:=q1;cases r1;obtain⟨t1,t2,hsys⟩:=JT I1 (.inl ⟨kvs,e⟩);obtain⟨hz,_,vs,rel,dd⟩:=rW I1.hok e;refine⟨"dict",_,F.plainAttrs_dict,PZ,F.type_dict_values,t1,t2,PK rfl (PySem.evalArgs_none ?_)⟩;refine call_meetsIn PZ dd.typeIs F.entry_dict_values (F.args_dict_values_1 _) (meets_dict_values (dj X.prog X.w) d hsys) ⟨⟨vs,dd⟩,?_⟩;refine⟨.ref s1.heap.objs.size,_,I1.laid (t':=s1.toks) (o:=lY s1.heap.objs.size d) (λb u e=>cy _ e) (aO _) ?_,Z,fin _ I1.fresh⟩;refine⟨⟨_,eU _ rfl,Z,Z⟩,⟨_,eU _ rfl⟩,λh1 h2 ⟨o,a,b⟩ k=>⟨o,k o a,b⟩⟩
theorem QT{j k:Nat}{x:Str}{C:Addr}{ps:List Str}{sp:Sp}{e:Expr}{es:List Expr}{t:TA}{p pos:Pos}(D:Cn X.prog X.w X.K X.mg X.base j x C ps sp)(hr:fj k X.A)(ha:bA X (e::es) t)(hj:j+1<=k:=by decide)(hg:Gl X x:=by rfl)(hdb:(x==("__debug__":Str))=false:=by decide)(he:starEach (e::es) X.env=(false,eval e X.env)::starEach es X.env:=by rfl)(hpl:(backTo pos (starEach es X.env)).any (·.1)=false:=by rfl):bE X (.Call (.Name x p) (e::es) [] pos) (Jj C sp [] E0 t):=by have ha:=ha.h;constructor;obtain⟨f,fd,F,b,M,m⟩:=D.ex;exact Xp M F (hr.mono hj) hg m b .nil (λ_ _ _ _ _ _ _ h=>h.elim) ha hdb he hpl
theorem Yk{x:Str}{v:V}{u:Value}{pos:Pos}(hg:Gl X x)(hm:X.mg x=some u)(r:RelV v u)(hd:(x==("__debug__":Str))=false:=by decide):bE X (.Name x pos) (tC v):=by exact⟨λ_ _ _ H _ I h=>A1 I hg hm ⟨v,H,I,r,h⟩ hd⟩
theorem iO(hc:i9 X (.type T) r)(hg:Gl X x)(hm:X.mg x=none)(hv:bootBuiltins x=some (.type T))(ha:bA X (e::es) t)(hn:x ≠ "__name__":=by decide)(hdb:(x==("__debug__":Str))=false:=by decide)(he:starEach (e::es) X.env=(false,eval e X.env)::starEach es X.env:=by rfl)(hpl:(backTo pos (starEach es X.env)).any (·.1)=false:=by rfl):bE X (.Call (.Name x p) (e::es) [] pos) (Zs r t):=by have ha:=ha.h;constructor;intro pins s σ H Q I h;refine Ju (xY I hg hm hv ?_ hn hdb);exact Rj (br (ha pos pins s σ H _ I h) λus s1 ⟨vs,H1,I1,r1,q1⟩=>hc pins s1 σ H1 vs us Q I1 r1 q1) he hpl
theorem Jo{rest:List Expr}(ha:bT X a tA)(hb:bW X (.BoolOp .Or (b::rest) pos) V2):bW X (.BoolOp .Or (a::b::rest) pos) (tOr tA V2):=by
 have ha:=ha.h;have hb:=hb.h;constructor;intro wh pins s σ H Q I h;refine isTrue_or (br (ha pins s σ H _ I h) λc s1 ⟨H1,I1,q1⟩=>?_);cases c with
 | true=>exact⟨H1,I1,q1⟩
 | false=>exact hb wh pins s1 σ H1 Q I1 q1
theorem uP(ha:bT X a tA):bW X (.BoolOp .And [a] pos) tA:=by
 have ha:=ha.h;constructor;intro wh pins s σ H Q I h;refine isTrue_and (br (ha pins s σ H Q I h) λc s1 e=>?_);cases c with
 | true=>exact isTrue_and_nil e
 | false=>exact e
theorem cW{c:Expr}{a b:List Stmt}{tc:TT}(hc:bT X c tc)(ha:c9 X a t)(hb:c9 X b u):bS X (.If c a b pos) (YY tc t u):=⟨V3 hc.h ha.h hb.h⟩
theorem aaq{i j:Nat}{x y:Str}{a b:Expr}{ta:TA}{px py pt:Pos}{kt k2 pt2}(hc:X.calm=true)(hN:X.N.Nodup)(hi:X.N[i]?=some x)(hj:X.N[j]?=some y)(hij:i≠j)(hx:X.env.scope.names.lookup x=some .local)(hy:X.env.scope.names.lookup y=some .local)(ha:bA X [a,b] ta)(hw:swappedStores [.Tuple [.Name x px,.Name y py] kt pt] (.Tuple [a,b] k2 pt2) X.env=pure (some [x,y]))(hs:swapsWithSole [.Tuple [.Name x px,.Name y py] kt pt] (.Tuple [a,b] k2 pt2) pos.line X.env=pure false:=by rfl):bS X (.Assign [.Tuple [.Name x px,.Name y py] kt pt] (.Tuple [a,b] k2 pt2) pos) (af6 i j ta):=by
 have ha:=ha.h;constructor;intro pins s σ H D I h;rw[exec_Assign_arm];refine aA (yw ?_);rw[hs];refine aA (aU ?_);rw[aB (by decide)];refine aA (Tuple_ (br (ha _ pins s σ H _ I h) λus s1 ⟨vs,H1,I1,r1,q1⟩=>?_));obtain⟨v,w,e1,q1⟩:=q1;subst e1;obtain⟨u1,u2,rfl,rv,rw'⟩:∃u1 u2,us=[u1,u2]/\RelV v u1/\RelV w u2:=by
  cases r1 with
  | cons p q=>
   cases q with
   | cons p' q'=>cases q';exact⟨_,_,Z,p,p'⟩
 refine xA ?_ (by show 2<=sizeLine;decide);have I2:Inv X pins σ H1 { s1 with heap:=s1.heap.push { cls:=.type "tuple",data:=.seq [u1,u2].toArray } }:=I1.kept (t':=s1.toks) λb o e=>cy _ e;rw[hw];refine aA (aU ?_);show wpAny (model X.prog X.w) X.A (do rule "assign.swapped-stores";let items <-unpackItems (.ref s1.heap.objs.size) 2 none;assignInOrder [λv=>bindName X.env y v,λv=>bindName X.env x v] items.reverse;pure Flow.next) _ _ _;refine aA (wpAny_rule (aA (unpackItems_tuple (items:=#[u1,u2]) (I.ok.hd hc) (IsTup.new s1.heap _) λh' hx'=>?_)));have I3:=I2.kept (h':=h') (t':=s1.toks) λb o e=>hx' b o (d7 (bR e)) e;show wpAny _ _ (assignInOrder [λv=>bindName X.env y v,λv=>bindName X.env x v] [u2,u1] >>= λ_=>pure Flow.next) _ _ _;refine aA (assignInOrder_cons (wpAny_bindName (yC I3 hN hj (.inl hy) rw' (λs2 I4=>?_) (.inr hy))));refine assignInOrder_cons (wpAny_bindName (yC I4 hN hi (.inl hx) rv (λs3 I5=>assignInOrder_nil (aU ?_)) (.inr hx)));rw[List.set_comm _ _ (bY hij)]at I5;exact⟨_,H1,I5,q1⟩
theorem jT{c:Expr}{a b:List Stmt}{tc:TT}{t u:TS}(hc:bT X c tc)(ha:c9 X a t)(hb:c9 X b u):bS X (.If c a b pos) (ZO tc t u):=by
 have hc:=hc.h;have ha:=ha.h;have hb:=hb.h;constructor;intro pins s σ H D I h;obtain⟨J,h,hJ⟩:=h;refine br (V3 hc ha hb pins s σ H { D with nx:=J } I h) λf s' q=>?_;cases f with
 | next=>obtain⟨σ',H',I',q⟩:=q;exact⟨σ',H',I',hJ _ _ q⟩
 | cont=>exact q
 | brk=>exact q
 | ret v=>exact q
theorem ak{st:Stmt}{rest:List Stmt}(h1:bS X st t)(h2:c9 X rest u):c9 X (st::rest) (iU t u):=by
 have h1:=h1.h;have h2:=h2.h;constructor;intro pins s σ H D I h;refine wpAny_execs_cons (br (h1 pins s σ H { D with nx:=u D } I h) λf s1 q=>?_);cases f with
 | next=>obtain⟨σ',H',I',q⟩:=q;exact h2 pins s1 σ' H' D I' q
 | ret v=>exact q
 | brk=>exact q
 | cont=>exact q
theorem aas(K:Fg){e st:Expr}{te ts:TE}{pos p2:Pos}(he:bE X e te)(hst:bE X st ts)(hK:X.K=K:=by rfl):bE X (.Subscript e (.Slice none none (some st) p2) pos) (ago K te ts):=by have he:=he.h;have hst:=hst.h;constructor;subst hK;intro pins s σ H Q I h;refine Subscript_ (br (he pins s σ H _ I h) λv s1 ⟨x,H1,I1,r1,q1⟩=>?_);refine wpAny_Slice ?_;rw[evalPart_none];refine aU (aU ?_);rw[evalPart_some];refine br (hst pins s1 σ H1 _ I1 q1) λw3 s3 ⟨y,H3,I3,r3,q3⟩=>?_;obtain⟨ey,a,xs,rfl,hx,q⟩:=q3;subst ey;obtain⟨t,rfl⟩:=r3;cases r1;have I4:Inv X pins σ H3 { s3 with heap:=s3.heap.push { cls:=.type "slice",data:=.fields #[.none,.none,.int (-1) t] } }:=I3.kept (t':=s3.toks) λb ob q=>cy _ q;obtain⟨its,r,ht,hz⟩:=I4.list hx;have hlen:=r.length;refine tail_any (ops:=[.ref a,.ref s3.heap.objs.size]) ht.isList.typeIs slot_list_getitem.lookup ?_ (by with_unfolding_all rfl);refine wpAny_getItem_list_slice ht.isList (Heap.IsSliceOf.new ..) .none .none (.int (-1) t) (by decide) ?_ (by rw[iI] <;> omega);rw[PySem.W.krv_pick];refine⟨.ref _,_,I4.laid (t':=s3.toks) (o:=.lst xs.reverse) (λb ob q=>cy _ q) (aO _) ?_,Z,q _ I4.fresh⟩;exact⟨by rw[List.length_reverse];exact hz,its.reverse,0,r.reverse,eU _ rfl⟩
theorem iu(K:Fg){X:Cx}{es:List Expr}{k:Nat}{t:CY}{n:Nat}{pos:Pos}(hc:X.calm=true)(h:Wq X es t)(hK:X.K=K:=by rfl)(hn:(assignEach es X.env).length=n:=by rfl)(hst:(assignEach es X.env).findIdx? (·.1)=none:=by rfl):bG X (.Tuple es k pos) (zV K n t):=by have h:=h.h;exact⟨hK▸Y5 hc h hn hst⟩
theorem eT(hu:X.A.units+1<cLine)(ho:bE X o td)(hi:bE X i ty)(hs:ZD i:=by exact λ_ _=>rfl):bE X (.Subscript o i pos) (V_ td ty):=by have ho:=ho.h;have hi:=hi.h;constructor;intro pins s σ H Q I h;refine Xu PySem.F.slot_dict_getitem.lookup hs (br (ho pins s σ H _ I h) λu s1 ⟨x,H1,I1,rx,q1⟩=>br (hi pins s1 σ H1 _ I1 q1) λiv s2 ⟨y,H2,I2,ry,a,v,ex,g,q2⟩=>?_);subst ex;obtain rfl:u=Value.ref a:=rx;exact⟨MM I2 g,RL hu I2 g ry λw' s3 I3 rw'=>⟨v,H2,I3,rw',q2⟩⟩
theorem au:bA X [] uX:=by exact⟨λ_ _ _ _ H Q I h=>Calls.spliced_nil ⟨[],H,I,.nil,h⟩⟩
theorem aq{i j pos}:bE X (.Constant (.int i) j pos) (tC (.int i)):=by exact⟨λ_ _ _ H _ I h=>wpAny_Constant_int ⟨.int i,H,I.tok _,⟨_,Z⟩,h⟩⟩
theorem aat{rest:List Expr}(ha:bE X a ta)(hb:bE X (.BoolOp .And (b::rest) pos) tb):bE X (.BoolOp .And (a::b::rest) pos) (acq ta tb):=by
 have ha:=ha.h;have hb:=hb.h;constructor;intro pins s σ H Q I h;refine BoolOp_and (br (ha pins s σ H _ I h) λv s1 ⟨x,H1,I1,r1,q1⟩=>?_);obtain⟨c,rfl,q1⟩:=q1;cases r1;refine EH ?_;cases c with
 | true=>exact hb pins s1 σ H1 Q I1 q1
 | false=>exact⟨.bl false,H1,I1,Z,q1⟩
theorem rm:bE X (.Dict [] [] pos) ZH:=by
 exact⟨λpins s σ H Q I h=>
 wpAny_Dict_empty ⟨.ref s.heap.objs.size,_,I.laid (a:=s.heap.objs.size) (o:=.dK []) (t':=s.toks) (λ_ _ q=>cy _ q) (aO _) (BZ s.heap I.big),Z,h _ (I.hok.fresh (aO _))⟩⟩
theorem mO{tg e:Expr}{te:TE}{g:TG}(he:bE X e te)(hg:bG X tg g)(hs:swapsWithSole [tg] e pos.line X.env=pure false:=by rfl)(hw:swappedStores [tg] e X.env=pure none:=by rfl)(h1:(assignEach [tg] X.env).map (·.2)=[assign tg X.env] :=by rfl):bS X (.Assign [tg] e pos) (Ug te g):=by have he:=he.h;have hg:=hg.h;constructor;intro pins s σ H D I h;refine wpAny_Assign_stores (br (he pins s σ H _ I h) λv s1 ⟨x,H1,I1,r1,q1⟩=>?_) hs hw;rw[h1];exact br (hg pins s1 σ H1 x v _ I1 r1 q1) λ_ s2 q=>q
theorem yT{elts:List Expr}{kk:Nat}{tpos:Pos}{ob:Expr}{td:TE}{apos cpos:Pos}(hob:bE X ob td)(hbase:attributeBase ob "items" X.env (eval ob X.env)=eval ob X.env:=by rfl)(hline:(apos.endLine==cpos.line)=true:=by rfl):bI X (.Tuple elts kk tpos) (.Call (.Attribute ob "items" apos) [] [] cpos) (ZZ td):=by
 have hob:=hob.h;constructor;intro pins s σ H R I h;refine wpAny_Call_method0_late hbase hline (br (hob pins s σ H _ I h) λv s1 ⟨x,H1,I1,r1,q1⟩=>?_);obtain⟨d,o,kvs,rfl,e,fin⟩:=q1;cases r1;obtain⟨ho,hz,hsys,vs,ep,rel,da⟩:=I1.rX e;obtain⟨t1,t2,_⟩:=JT I1 (.inl ⟨kvs,.inr ⟨o,e⟩⟩);have dd:=da.dictOf;refine⟨"dict",_,F.plainAttrs_dict,F.slot_dict_items,F.type_dict_items,t1,t2,PK rfl (PySem.evalArgs_none ?_)⟩;refine call_meetsIn F.slot_dict_items dd.typeIs F.entry_dict_items (F.args_dict_items_1 _) (meets_dict_items (dj X.prog X.w) d hsys) ⟨⟨vs,dd⟩,?_⟩;refine wpAny_pyIter_items (s:={ s1 with heap:=s1.heap.push { cls:=.type "dict_items",data:=.fields #[.ref d] } }) ⟨_,eU _ rfl,Z,Z⟩ (da.push _) ?_;have Iv:Inv X pins σ H1 { s1 with heap:=s1.heap.push { cls:=.type "dict_items",data:=.fields #[.ref d] } }:=I1.kept (t':=s1.toks) λb o e=>cy _ e;generalize ({ s1 with heap:=s1.heap.push { cls:=.type "dict_items",data:=.fields #[.ref d] } }:Shared)=sv at *;have I2:Inv X pins σ H1 { sv with heap:=sv.heap.push { cls:=.type "dict_itemiterator",data:=.fields #[.none,.bool false,.ref d,.int 0 0,.int vs.length 0,.int ep 0,.none,.none] } }:=Iv.kept (t':=sv.toks) λb o e=>cy _ e;have hl:kvs.length=vs.length:=rel.length;obtain⟨o',es,h1,_,h2,_⟩:=id da;rw[ho]at h1;cases h1;refine⟨sv.heap.objs.size,[sv.heap.objs.size],_,_,H1,Z,I2,QC h2,?_,λb hb=>?_,fin⟩
 .rw [hl];exact⟨_,_,eU _ rfl⟩
 .have eb:b=sv.heap.objs.size:=by simpa using hb
  subst eb;exact Iv.BW (aO _) (Iv.hok.fresh (aO _))
theorem aau{tg:Expr}{l:Expr}{tl:TE}(hl:bE X l tl):bI X tg l (ZS tl):=⟨ZT hl.h⟩
theorem DK(ha:bT X a tA):bW X (.BoolOp .Or [a] pos) tA:=by
 have ha:=ha.h;constructor;intro wh pins s σ H Q I h;refine isTrue_or (br (ha pins s σ H Q I h) λc s1 e=>?_);cases c with
 | false=>exact isTrue_or_nil e
 | true=>exact e
theorem yf{X:Cx}{st:Stmt}{t:TS}(h:bS X st t):bS X st (agp t):=by
 have h:=h.h;constructor;intro pins s σ H D I hw;obtain⟨d,kvs,e,hw⟩:=hw;obtain⟨ho,es,ep,h1,_⟩:=(yD I.hok e).2.2.choose_spec.2;have h0:=I.Sb e;refine br (h pins s σ _ _ (I.freeze e h1) (hw ho)) λf s' q=>?_;cases f with
 | next=>obtain⟨σ',H',I',q1,q2⟩:=q;exact⟨σ',_,I'.B8 q1 h0,q2⟩
 | brk=>obtain⟨σ',H',I',q1,q2⟩:=q;exact⟨σ',_,I'.B8 q1 h0,q2⟩
 | cont=>obtain⟨σ',H',I',q1,q2⟩:=q;exact⟨σ',_,I'.B8 q1 h0,q2⟩
 | ret u=>obtain⟨v,σ',H',I',r,q1,q2⟩:=q;exact⟨v,σ',_,I'.B8 q1 h0,r,q2⟩
theorem uQ(hu:X.A.units+1<cLine)(ho:bE X o td)(hi:bE X i ty)(hv:bE X value tv)(hs:swapsWith value (some (.Subscript o i pos')) pos.line X.env=pure false):bS X (.Assign [.Subscript o i pos'] value pos) (acM td ty tv):=by have ho:=ho.h;have hi:=hi.h;have hv:=hv.h;constructor;intro pins s σ H D I h;refine wpAny_Assign_Subscript (br (hv pins s σ H _ I h) λr s1 ⟨v,H1,I1,rv,q1⟩=>br (ho pins s1 σ H1 _ I1 q1) λu s2 ⟨x,H2,I2,rx,q2⟩=>br (hi pins s2 σ H2 _ I2 q2) λiv s3 ⟨y,H3,I3,ry,a,H4,ex,g,q3⟩=>?_) hs;subst ex;obtain rfl:u=Value.ref a:=rx;exact RM hu I3 g ry rv λs4 I4=>⟨σ,H4,I4,q3⟩
theorem qv(i:Nat){x:Str}{pos:Pos}(hN:X.N[i]?=some x:=by rfl)(hv:VZ X.env.scope x:=by first|exact Or.inl rfl|exact Or.inr (Or.inl rfl)|exact Or.inr (Or.inr rfl))(hd:(x==("__debug__":Str))=false:=by decide)(hcd:(x==("__classdict__":Str))=false:=by decide):bE X (.Name x pos) (BV i):=by exact⟨YW hN hv hd hcd⟩
theorem bU{id:String}(hc:i9 X (.builtin id) r)(hg:Gl X x)(hm:X.mg x=none)(hv:bootBuiltins x=some (.builtin id))(ha:bA X (e::es) t)(hn:x ≠ "__name__":=by decide)(hdb:(x==("__debug__":Str))=false:=by decide)(he:starEach (e::es) X.env=(false,eval e X.env)::starEach es X.env:=by rfl)(hpl:(backTo pos (starEach es X.env)).any (·.1)=false:=by rfl):bE X (.Call (.Name x p) (e::es) [] pos) (Zs r t):=by have ha:=ha.h;constructor;intro pins s σ H Q I h;refine Ju (xY I hg hm hv ?_ hn hdb);exact PyProof.Rows.callWith_builtin1 (br (ha pos pins s σ H _ I h) λus s1 ⟨vs,H1,I1,r1,q1⟩=>hc pins s1 σ H1 vs us Q I1 r1 q1) he hpl
theorem mP{o i:Expr}{to ti:TE}{t:tM}(ho:bE X o to)(hi:bE X i ti)(hs:Ue X t)(ha:∀v,assign (.Subscript o i pos) X.env v=(do
   let ov <-holding [v] (eval o X.env)
   let iv <-holding [v,ov] (eval i X.env)
   standAt pos
   holding [v,ov,iv] (setItem ov iv v)
   release [v,ov,iv] []):=by intro _;rfl):bG X (.Subscript o i pos) (af5 to ti t):=by
 have ho:=ho.h;have hi:=hi.h;constructor
 intro pins s σ H v u Q I r h
 rw[ha]
 refine aA (wC (br (ho pins s σ H _ I h) λov s1 ⟨x,H1,I1,r1,q1⟩=>?_))
 refine aA (wC (br (hi pins s1 σ H1 _ I1 q1) λiv s2 ⟨y,H2,I2,r2,q2⟩=>?_))
 refine aA (yw (aA (wC (br (hs pins s2 σ H2 x y v ov iv u _ I2 r1 r2 r q2) λ_ s3 ⟨H3,I3,q3⟩=>?_))))
 exact wpAny_release ⟨σ,H3,I3,q3⟩
theorem gh{st:Stmt}:bS X st YZ:=by exact⟨λ_ _ _ _ _ _ h=>h.elim⟩
theorem DL{j k:Nat}{x:Str}{C:Addr}{ps:List Str}{sp:Sp}{p pos:Pos}(D:Cn X.prog X.w X.K X.mg X.base j x C ps sp)(hr:fj k X.A)(hj:j+1<=k:=by decide)(hg:Gl X x:=by rfl)(hdb:(x==("__debug__":Str))=false:=by decide):bE X (.Call (.Name x p) [] [] pos) (Jj C sp [] E0 uX):=by constructor;obtain⟨f,fd,F,b,M,m⟩:=D.ex;exact Uw M F (hr.mono hj) hg m b .nil (λ_ _ _ _ _ _ _ h=>h.elim) hdb
theorem ah(ha:bE X e te)(hr:bA X es t)(hs:starEach (e::es) X.env=(false,eval e X.env)::starEach es X.env:=by rfl):bA X (e::es) (Qp te t):=by have ha:=ha.h;have hr:=hr.h;constructor;intro pos pins s σ H Q I h;rw[hs];show wpAny _ _ (spliced ((false,eval e X.env)::backTo pos (starEach es X.env))) _ _ s;refine Calls.spliced_cons (br (ha pins s σ H _ I h) λu s1 ⟨x,H1,I1,r1,q1⟩=>?_);exact br (hr pos pins s1 σ H1 _ I1 q1) λus s2 ⟨xs,H2,I2,r2,q2⟩=>⟨x::xs,H2,I2,.cons r1 r2,q2⟩
theorem aJ(K:Fg){e:Expr}{f:Str}{ta:TE}{pos:Pos}(he:bE X e ta)(hb:attributeBase e f X.env (eval e X.env)=eval e X.env:=by rfl)(hK:X.K=K:=by rfl):bE X (.Attribute e f pos) (Zg K ta f):=by have he:=he.h;exact⟨hK▸Zj he hb⟩
theorem Bl{op:CmpOp}{r:R2}(ho:jA X (compareOp op) r)(ha:bE X a ta)(hb:bE X b tb)(hm:behindInMarks op b=false):bE X (.Compare a [op] [b] pos) (Gj r ta tb):=by have ha:=ha.h;have hb:=hb.h;constructor;intro pins s σ H Q I h;exact wpAny_Compare1 (Uo ha hb I h λv u s2 x y H2 I2 rx ry q=>ho pins s2 σ H2 x y v u Q I2 rx ry q) hm
theorem bL{j k:Nat}{x:Str}{ps:List Str}{sp:Sp}{e:Expr}{es:List Expr}{t:TA}{p pos:Pos}(D:Dn X.prog X.w X.K X.mg X.base j x ps sp)(hr:fj k X.A)(ha:bA X (e::es) t)(hj:j<=k:=by decide)(hg:Gl X x:=by rfl)(hdb:(x==("__debug__":Str))=false:=by decide)(he:starEach (e::es) X.env=(false,eval e X.env)::starEach es X.env:=by rfl)(hpl:(backTo pos (starEach es X.env)).any (·.1)=false:=by rfl):bE X (.Call (.Name x p) (e::es) [] pos) (V8 sp [] E0 t):=by have ha:=ha.h;constructor;obtain⟨f,fd,F,b,kp,m⟩:=D.ex;exact Xn F (hr.mono hj) hg m kp b .nil (λ_ _ _ _ _ _ _ h=>h.elim) ha hdb he hpl
theorem sY{rest:List Expr}(ha:bT X a tA)(hb:bW X (.BoolOp .And (b::rest) pos) V2):bW X (.BoolOp .And (a::b::rest) pos) (af0 tA V2):=by
 have ha:=ha.h;have hb:=hb.h;constructor;intro wh pins s σ H Q I h;refine isTrue_and (br (ha pins s σ H _ I h) λc s1 ⟨H1,I1,q1⟩=>?_);cases c with
 | true=>exact hb wh pins s1 σ H1 Q I1 q1
 | false=>exact⟨H1,I1,q1⟩
section
variable {P:Program}{w:World}{K:Fg}{mg:SO}{base:Heap}{f C:Addr}{fd:FuncData}{N ps:List Str}{k:Nat}{sp:Sp}{x m qual:Str}{st:Stmt}
theorem dX{N P:List Str}{sc:Scope}(a:sc.kind =.function:=by rfl)(b:sc.isCoroutine=false:=by rfl)(c:sc.isGenerator=false:=by rfl)(d:N.Nodup:=by decide +kernel)(e:N.take P.length=P:=by rfl)(f:∀x∈P,sc.names.lookup x=some .local\/sc.names.lookup x=some .cell:=by decide +kernel)(g:∀y∈sc.names,y.2 ≠ .free:=by decide +kernel):aS N P sc:=⟨a,b,c,d,e,f,g⟩
theorem At.oA(F:At K mg x st f fd)(S:aS N ps (aF st))(hbody:∀(cdv:Value) (A:Around) (outer:List Env) (s:Shared) (H:Hp) (vs:List V) (Q:VK) (E:XK),fj k (A.deeper (envOfC x (aF st) s.heap.objs.size f cdv))->sp vs H Q E->
    ∃t,wJ (tN u7 P w K mg base N x (aF st) f cdv A outer s H E).Bv (dR st) t/\t { nx:=λ_ H'=>Q .cT H',rt:=Q } (start N vs) H)(len:∀vs H Q E,sp vs H Q E->vs.length=ps.length:=by intro vs H Q E h;first|(cases h.ex;subst_vars;rfl)|(have h:=h.ex;(repeat first|(obtain⟨rfl,_⟩:=h;rfl)|(obtain⟨_,h⟩:=h));done)|(repeat first|(obtain⟨rfl,_⟩:=h;rfl)|(obtain⟨_,h⟩:=h)))(h:∀(kV doc pm:Value) (an:Option Addr) (cdv ct:Value) (us:List Value),us.length=ps.length->bindArgs (PySem.W.fnOf x x (fY st) (dR st) (aF st) .none kV doc pm an cdv ct) ⟨us,[]⟩=pure (ps.zip us):=by intro _ _ _ _ _ _ us hl;repeat' (first|rfl|(simp at hl;done)|(rcases us with _|⟨_,us⟩))):Dn P w K mg base (k+1) x ps sp:=F.ok S len hbody h
theorem iK.oA(F:iK K C m qual st f fd)(S:aS N ps (aF st))(hbody:∀(cdv:Value) (A:Around) (outer:List Env) (s:Shared) (H:Hp) (vs:List V) (Q:VK) (E:XK),fj k (A.deeper (envOfC qual (aF st) s.heap.objs.size f cdv))->sp vs H Q E->
    ∃t,wJ (tN u7 P w K mg base N qual (aF st) f cdv A outer s H E).Bv (dR st) t/\t { nx:=λ_ H'=>Q .cT H',rt:=Q } (start N vs) H)(len:∀vs H Q E,sp vs H Q E->vs.length=ps.length:=by intro vs H Q E h;first|(cases h.ex;subst_vars;rfl)|(have h:=h.ex;(repeat first|(obtain⟨rfl,_⟩:=h;rfl)|(obtain⟨_,h⟩:=h));done)|(repeat first|(obtain⟨rfl,_⟩:=h;rfl)|(obtain⟨_,h⟩:=h)))(h:∀(kV doc pm:Value) (an:Option Addr) (cdv ct:Value) (us:List Value),us.length=ps.length->bindArgs (PySem.W.fnOf m qual (fY st) (dR st) (aF st) .none kV doc pm an cdv ct) ⟨us,[]⟩=pure (ps.zip us):=by intro _ _ _ _ _ _ us hl;repeat' (first|rfl|(simp at hl;done)|(rcases us with _|⟨_,us⟩))):Mn P w K mg base (k+1) C m ps sp:=F.ok S len hbody h
theorem GF.oA(F:GF K mg x C qual st f fd)(S:aS N ps (aF st))(hbody:∀(cdv:Value) (A:Around) (outer:List Env) (s:Shared) (H:Hp) (vs:List V) (Q:VK) (E:XK),fj k (A.deeper (envOfC qual (aF st) s.heap.objs.size f cdv))->sp vs H Q E->
    ∃t,wJ (tN u7 P w K mg base N qual (aF st) f cdv A outer s H E).Bv (dR st) t/\t { nx:=λ_ H'=>Q .cT H',rt:=Q } (start N vs) H)(len:∀vs H Q E,sp vs H Q E->vs.length=ps.length:=by intro vs H Q E h;first|(cases h.ex;subst_vars;rfl)|(have h:=h.ex;(repeat first|(obtain⟨rfl,_⟩:=h;rfl)|(obtain⟨_,h⟩:=h));done)|(repeat first|(obtain⟨rfl,_⟩:=h;rfl)|(obtain⟨_,h⟩:=h)))(h:∀(kV doc pm:Value) (an:Option Addr) (cdv ct:Value) (us:List Value),us.length=ps.length->bindArgs (PySem.W.fnOf "__init__" qual (fY st) (dR st) (aF st) .none kV doc pm an cdv ct) ⟨us,[]⟩=pure (ps.zip us):=by intro _ _ _ _ _ _ us hl;repeat' (first|rfl|(simp at hl;done)|(rcases us with _|⟨_,us⟩))):Cn P w K mg base (k+1) x C ps sp:=F.ok S len hbody h
end
inductive adf(e:Ec)(vs:List V)(H:Hp)(Q:VK)(E:XK):Prop
 |mk(a:Int)(_:vs=[.int a])(_:(a<1->Rf e E H 5))(_:(1<=a->Q .cT H))
def AB(e:Ec):Sp:=bx (adf e)
inductive adg(e:Ec)(vs:List V)(H:Hp)(Q:VK)(E:XK):Prop
 |mk(m a:Int)(_:vs=[.int m,.int a])(_:(a<1->Rf e E H 5))(_:(1<=a->m<a->Rf e E H 6))(_:(1<=a->a<=m->Q .cT H))
def KP(e:Ec):Sp:=bx (adg e)
inductive U8(T:TC)(e:Ec)(vs:List V)(H:Hp)(Q:VK)(E:XK):Prop
 |mk(n ρ A st x a:_)(_:vs=[.ref A.a,.str x,.int a])(_:HH T n ρ A H st)(_:GU T e n ρ A H (iX st (x,a)) (cS st (x,a)) Q E)
def GX(T:TC)(e:Ec):Sp:=bx (U8 T e)
inductive aav(T:TC)(e:Ec)(vs:List V)(H:Hp)(Q:VK)(E:XK):Prop
 |mk(n ρ A st x a:_)(_:vs=[.ref A.a,.str x,.int a])(_:HH T n ρ A H st)(_:GU T e n ρ A H (kW st x a:_) (Jl st x a:_) Q E)
def OM(T:TC)(e:Ec):Sp:=bx (aav T e)
theorem Dn.imp{P:Program}{w:World}{K:Fg}{mg:SO}{base:Heap}{k:Nat}{x:Str}{ps:List Str}{sp RD:Sp}(D:Dn P w K mg base k x ps sp)(h:∀vs H Q E,RD vs H Q E->sp vs H Q E):Dn P w K mg base k x ps RD:=by obtain⟨f,fd,F,b,kp,m⟩:=D.ex;exact⟨f,fd,F.imp h,b,kp,m⟩
theorem jz{st:HS}{x:Str}(h:x∈d9 st):∃(i:Nat)(p:Pt),st.aj[i]?=some p/\p.nm=x:=by obtain⟨p,hp,e⟩:=aZ.mp h;obtain⟨i,hi,ei⟩:=xy hp;exact⟨i,p,by rw[bK hi,ei],e⟩
theorem Bm{st:HS}{i:Nat}{p:Pt}(h:st.aj[i]?=some p):p.nm∈d9 st:=aZ.mpr ⟨p,cC h,Z⟩
theorem DM{α:Type}{nm:α->Str}{f:α->α}:∀{l:List α}{i:Nat}{p:α},(l.map nm).Nodup->l[i]?=some p->(l.map λq=>if nm q=nm p then f q else q)=l.set i (f p)
 | [],_,_,_,h=>by simp at h
 | a::l,0,p,nd,h=>by
  have e:a=p:=by simpa using h
  subst e;obtain⟨h1,_⟩:=fU.mp (show(nm a::l.map nm).Nodup from nd);rw[bz,aC rfl,PY];congr 1;refine(pI (g:=id) (λq hq=>aB λz=>h1 (aZ.mpr ⟨q,hq,z⟩))).trans (List.map_id l)
 | a::l,i+1,p,nd,h=>by
  obtain⟨h1,h2⟩:=fU.mp (show(nm a::l.map nm).Nodup from nd);have h':l[i]?=some p:=by simpa using h
  rw[bz,aB (λz=>h1 (aZ.mpr ⟨p,cC h',z.symm⟩)),Jw,DM h2 h']
theorem rA{st:HS}(nd:(st.aj.map (·.nm)).Nodup){i:Nat}{p:Pt}(h:st.aj[i]?=some p)(f:Pt->Pt):ko st p.nm f={ st with aj:=st.aj.set i (f p) }:=by unfold ko;rw[DM (nm:=λp:Pt=>p.nm) nd h]
theorem AD{st:HS}(wf:Wf st){x:Str}{f:Pt->Pt}(h:∀p∈st.aj,p.nm=x->(f p).nm=p.nm/\(f p).ow=p.ow/\(f p).sc=p.sc/\(f p).row=p.row/\1<=(f p).wo/\0<=(f p).we):Wf (ko st x f):=by
 have P:∀{M:Pt->Prop},(∀p∈st.aj,p.nm=x->M (f p))->(∀p∈st.aj,M p)->∀p∈(ko st x f).aj,M p:=λa c p hp=>by
  obtain⟨q,hq,rfl⟩:=aZ.mp (show p∈st.aj.map _ from hp);by_cases e:q.nm=x
  .rw [aC e];exact a q hq e
  .rw [aB e];exact c q hq
 have en:(ko st x f).aj.map (λp:Pt=>p.nm)=st.aj.map (λp:Pt=>p.nm):=by
  show(st.aj.map _).map _=_;rw[gr];refine pI λp hp=>?_;show(if p.nm=x then f p else p).nm=p.nm;by_cases e:p.nm=x
  .rw [aC e];exact(h p hp e).1
  .rw [aB e]
 refine⟨wf.oM,wf.yK,?_,P (λp hp e=>?_) wf.sub,P (λp hp e=>?_) wf.rows,P (λp hp e=>?_) wf.ow,wf.gD,wf.mG,wf.eE,wf.pW,wf.vd,wf.ki,wf.yL,?_,wf.Ah,wf.vf,wf.GI,wf.big,wf.oN,P (λp hp e=>?_) wf.sS,P (λp hp e=>?_) wf.oO,P (λp hp e=>?_) wf.pX,P (λp hp e=>?_) wf.jK,wf.EN⟩
 .show ((ko st x f).aj.map (λp:Pt=>p.nm)).Nodup;rw[en];exact wf.dM
 .show (f p).nm∈st.nms;rw[(h p hp e).1];exact wf.sub p hp
 .rw [(h p hp e).2.2.2.1];exact wf.rows p hp
 .show (f p).ow∈st.own;rw[(h p hp e).2.1];exact wf.ow p hp
 .show (st.aj.map _).length<=1000;rw[aG];exact wf.mH
 .rw [(h p hp e).2.2.1];exact wf.sS p hp
 .rw [(h p hp e).2.2.2.1];exact wf.oO p hp
 .rw [(h p hp e).2.2.2.1,(h p hp e).2.2.1];exact wf.pX p hp
 .exact (h p hp e).2.2.2.2
theorem AE{st:HS}{x:Str}{a:Int}(h:kW st x a=none):x∈d9 st/\1<=a:=by
 unfold kW at h;by_cases hm:x∈d9 st
 .rw [aC hm]at h;by_cases c:a<1
  .rw [aC c]at h;cases h
  .exact ⟨hm,by omega⟩
 .rw [aB hm]at h;cases h
structure E1(st:HS):Prop where
 big:Jm.Sz 60 (aE st)
 prod:Jm.Sz 7900 st.prod
 bH:∀u∈st.bH,Jm.Sz 8900 u
 stp:st.stp.length<100
def jX(st:HS)(o:Str)(a:Int):List Int:=(List.replicate st.own.length 0).set (st.own.idxOf o) (a*st.prod)
inductive Yl(T:TC)(e:Ec)(vs:List V)(H:Hp)(Q:VK)(E:XK):Prop
 |mk(n ρ A st o a:_)(_:vs=[.ref A.a,.str o,.int a])(_:HH T n ρ A H st)(_:E1 st)(_:GU T e n ρ A H (jS st o a:_) (qb st o a:_) Q E)
def KQ(T:TC)(e:Ec):Sp:=bx (Yl T e)
theorem yU{st:HS}{o:Str}{a:Int}(h:jS st o a=none):o∈st.own/\1<=a/\a<aE st:=by
 unfold jS at h;split at h
 .split at h
  .cases h
  .split at h
   .cases h
   .exact ⟨by assumption,by omega,by omega⟩
 .cases h
theorem U9{st:HS}{o:Str}{a m:Int}(h:m∈jX st o a):m=0\/m=a*st.prod:=by
 rcases Pz h with z|z
 .exact .inl (List.eq_of_mem_replicate z)
 .exact .inr z
theorem U_(st:HS)(o:Str)(a:Int):(jX st o a).length=st.own.length:=by unfold jX;rw[iA,jW]
theorem E1.blend{st:HS}{o:Str}{a:Int}(w:E1 st)(wf:Wf st)(h1:1<=a)(h2:a<aE st):jE st (aE st-a) (aE st) a (jX st o a):=by have p1:=wf.eE;refine⟨by omega,by omega,by omega,by rw[U_,wf.gD],λm hm=>?_,w.prod,w.big,w.bH,w.stp⟩;have:0<=a*st.prod:=rR (by omega) (by omega);rcases U9 hm with z|z <;> omega
theorem mQ{l:List Int}{i j:Nat}{x:Int}(h:i<l.length):(l.set i x).getD j 0=if i=j then x else l.getD j 0:=by
 rw[kK,List.getElem?_set];by_cases e:i=j
 .subst e;rw[aC rfl,aC rfl,aC h];rfl
 .rw [aB e,aB e,kK]
theorem Ci(n j:Nat):(List.replicate n (0:Int)).getD j 0=0:=by rw[kK,PJ];split <;> rfl
inductive Ym(T:TC)(e:Ec)(vs:List V)(H:Hp)(Q:VK)(E:XK):Prop
 |mk(n ρ A st x y a we:_)(_:vs=[.ref A.a,.str x,.str y,.int a,.int we])(_:HH T n ρ A H st)(_:y.cps.toList.length<=100000)(_:st.nms.length<1000)(_:st.aj.length<1000)(_:GU T e n ρ A H (iN st x y a we:_) (lz st x y a we:_) Q E)
def KR(T:TC)(e:Ec):Sp:=bx (Ym T e)
theorem gT{H:Hp}{a b:Addr}{o:HO}(h:upd H a o b=none):H b=none:=by
 by_cases z:b=a
 .rw [z,ai]at h;cases h
 .rw [ay z]at h;exact h
theorem Va{st:HS}{y:Str}(h:newR st y=none):isNm y=true/\y∉st.nms:=by
 unfold newR at h;split at h
 .split at h
  .cases h
  .exact ⟨by assumption,by assumption⟩
 .cases h
theorem kX{st:HS}{x y:Str}{a we:Int}(h:iN st x y a we=none):x∈d9 st/\(isNm y=true/\y∉st.nms)/\1<=a/\0<=we/\a<(bJ st x).wo/\we<=(bJ st x).we:=by
 unfold iN at h;split at h
 .cases hf:newR st y with
  | some j=>rw[hf]at h;cases h
  | none=>
   rw[hf]at h;have h':(if a<1\/we<0 then some 5 else if(bJ st x).wo<=a\/(bJ st x).we<we then some 6 else none)=none:=h;split at h'
   .cases h'
   .split at h'
    .cases h'
    .exact ⟨by assumption,Va hf,by omega,by omega,by omega,by omega⟩
 .cases h
theorem KS{st:HS}{x y:Str}{a we:Int}(wf:Wf st)(h:iN st x y a we=none)(h2:st.nms.length<1000)(h3:st.aj.length<1000):Wf (lz st x y a we):=by
 obtain⟨hx,⟨_,hy⟩,h4,h5,h6,h7⟩:=kX h;obtain⟨i,p0,ei,e0⟩:=jz hx;have hp:=cC ei;have eg:=bN wf hp e0;have w1:Wf (ko st x λp=>{ p with wo:=p.wo-a,we:=p.we-we }):=AD wf λp dN e=>by rw[uO wf dN hp (e.trans e0.symm)];rw[eg]at h6 h7;exact⟨Z,Z,Z,Z,by show 1<=p0.wo-a;omega,by show 0<=p0.we-we;omega⟩
 unfold lz;rw[eg];exact OD w1 hy h2 (by show(st.aj.map _).length<1000;rw[aG];exact h3) (wf.rows p0 hp) (wf.ow p0 hp) (wf.sS p0 hp) (wf.oO p0 hp) (wf.pX p0 hp) ⟨h4,h5⟩
inductive aaw(T:TC)(e:Ec)(vs:List V)(H:Hp)(Q:VK)(E:XK):Prop
 |mk(n ρ A st x o:_)(_:vs=[.ref A.a,.str x,.str o])(_:HH T n ρ A H st)(_:∀p∈st.aj,(aK st p).sum=st.prod)(_:GU T e n ρ A H (jx st x o:_) (ff st x o:_) Q E)
def ON(T:TC)(e:Ec):Sp:=bx (aaw T e)
theorem w_{st:HS}{x o:Str}(h:jx st x o=none):x∈d9 st/\o∈st.own:=by
 unfold jx at h;split at h
 .split at h
  .exact ⟨by assumption,by assumption⟩
  .cases h
 .cases h
theorem SI:∀{l:List Int},(∀t∈l,0<=t)->0<=l.sum/\∀t∈l,t<=l.sum
 | [],_=>⟨kQ _,λt h=>by cases h⟩
 | a::l,h=>by
  obtain⟨h1,h2⟩:=SI (l:=l) λt ht=>h t (b7 _ ht);have h0:=h a cN;refine⟨by show 0<=a+l.sum;omega,λt ht=>?_⟩;show t<=a+l.sum;rcases b8.mp ht with rfl|ht
  .omega
  .have:=h2 t ht;omega
theorem Wv{l:List Int}{i:Nat}{v:Int}(h:∀t∈l,0<=t)(hv:0<=v):∀t∈l.set i v,0<=t:=λt ht=>by
 rcases Pz ht with z|z
 .exact h t z
 .rw [z];exact hv
theorem KU{l:List Int}(h:∀t∈l,0<=t)(i:Nat):0<=l.getD i 0:=by
 rw[kK];cases e:l[i]? with
 | none=>exact kQ _
 | some v=>exact h v (cC e)
def GY(l:List Int)(i j:Nat):List Int:=(l.set j (l.getD j 0+l.getD i 0)).set i 0
theorem E2(l:List Int)(i j:Nat):(GY l i j).length=l.length:=by unfold GY;rw[iA,iA]
theorem Yn{l:List Int}{i j:Nat}(hi:i<l.length)(hj:j<l.length)(ne:i≠j):(GY l i j).sum=l.sum:=by unfold GY;rw[sum_set _ _ _ (by rw[iA];exact hi),sum_set _ _ _ hj,UO _ _ _ _ hj,aB ne];omega
theorem Yo{l:List Int}{i j:Nat}(h:∀t∈l,0<=t):∀t∈GY l i j,0<=t:=Wv (Wv h (Int.add_nonneg (KU h _) (KU h _))) (kQ _)
theorem Cj{st:HS}{tops:List Int}(h:tops.length=st.bD.length):List.zipWith (λr c=>(1:Int)*r+c) (lU st tops) st.bD=tops:=by
 unfold lU;generalize st.bD=cs at h
 induction tops generalizing cs with
 | nil=>rfl
 | cons t ts ih=>
  cases cs with
  | nil=>cases h
  | cons c cs=>have:=ih cs (Nat.succ.inj h);show(1*(t-c)+c)::_=t::ts;rw[this];congr 1;omega
theorem xg{st:HS}(wf:Wf st){p:Pt}(hp:p∈st.aj):(aK st p).length=st.own.length:=by unfold aK;rw[lR,wf.rows p hp,wf.gD,yx]
def nh(st:HS)(o:Str)(p:Pt):Pt:={ p with ow:=o,sc:=1,row:=lU st (ng st p o) }
theorem rB(st:HS)(p:Pt)(o:Str):ng st p o=GY (aK st p) (st.own.idxOf p.ow) (st.own.idxOf o):=rfl
theorem xh{st:HS}(wf:Wf st){p:Pt}(hp:p∈st.aj)(o:Str):aK st (nh st o p)=ng st p o:=by
 have:(ng st p o).length=st.bD.length:=by rw[rB,E2,xg wf hp,wf.gD]
 exact Cj this
theorem KW{st:HS}(wf:Wf st){p:Pt}(hp:p∈st.aj){o:Str}(ho:o∈st.own)(ne:st.own.idxOf o≠st.own.idxOf p.ow)(hs:(aK st p).sum=st.prod):(∀t∈ng st p o,0<=t/\t<=st.prod)/\(ng st p o).sum=st.prod:=by
 have hl:=xg wf hp;have h1:st.own.idxOf p.ow<(aK st p).length:=by rw[hl];exact uu (wf.ow p hp)
 have h2:st.own.idxOf o<(aK st p).length:=by rw[hl];exact uu ho
 have hp0:=Yo (i:=st.own.idxOf p.ow) (j:=st.own.idxOf o) λt ht=>(wf.pX p hp t ht).1;have hsum:=(Yn h1 h2 (bY ne)).trans hs;rw[rB];exact⟨λt ht=>⟨hp0 t ht,by rw[<-hsum];exact(SI hp0).2 t ht⟩,hsum⟩
theorem OO{st:HS}{x o:Str}(wf:Wf st)(h:jx st x o=none)(hs:∀p∈st.aj,(aK st p).sum=st.prod):Wf (ff st x o):=by
 obtain⟨hx,ho⟩:=w_ h;obtain⟨i,p0,ei,e0⟩:=jz hx;have hp:=cC ei;have eg:=bN wf hp e0;unfold ff;by_cases ne:st.own.idxOf o=st.own.idxOf (bJ st x).ow
 .rw [aC ne];exact wf
 rw[aB ne];rw[eg]at ne;obtain⟨ft,_⟩:=KW wf hp ho ne (hs p0 hp);have uq:∀p∈st.aj,p.nm=x->p=p0:=λp dN e=>uO wf dN hp (e.trans e0.symm);have P:∀{M:Pt->Prop},M (nh st o p0)->(∀p∈st.aj,M p)->∀p∈(ko st x (nh st o)).aj,M p:=λa c p dN=>by
  obtain⟨q,hq,rfl⟩:=aZ.mp (show p∈st.aj.map _ from dN);by_cases e:q.nm=x
  .rw [aC e,uq q hq e];exact a
  .rw [aB e];exact c q hq
 have hl:(ng st p0 o).length=st.own.length:=by rw[rB,E2,xg wf hp]
 have en:(ko st x (nh st o)).aj.map (λp:Pt=>p.nm)=st.aj.map λp:Pt=>p.nm:=by
  show(st.aj.map _).map _=_;rw[gr];refine pI λp _=>?_;show(if p.nm=x then nh st o p else p).nm=p.nm;by_cases e:p.nm=x
  .rw [aC e];rfl
  .rw [aB e]
 have p1:=wf.eE;refine⟨wf.oM,wf.yK,?_,P (wf.sub p0 hp) wf.sub,P ?_ wf.rows,P ho wf.ow,wf.gD,wf.mG,wf.eE,wf.pW,wf.vd,wf.ki,wf.yL,?_,wf.Ah,wf.vf,wf.GI,wf.big,wf.oN,P ⟨kQ _,p1⟩ wf.sS,P ?_ wf.oO,P ?_ wf.pX,P (wf.jK p0 hp) wf.jK,wf.EN⟩
 .show ((ko st x (nh st o)).aj.map (λp:Pt=>p.nm)).Nodup;rw[en];exact wf.dM
 .show (lU st (ng st p0 o)).length=st.own.length;unfold lU;rw[lR,hl,wf.gD,yx]
 .show (st.aj.map _).length<=1000;rw[aG];exact wf.mH
 .intro r hr;obtain⟨t,ht,c,hc,rfl⟩:=vg (show r∈List.zipWith (λt c=>t-c) (ng st p0 o) st.bD from hr);have a1:=ft t ht;have a2:=wf.oN c hc;exact⟨by show -st.prod<=t-c;omega,by show t-c<=st.prod;omega⟩
 .intro t ht;have:t∈ng st p0 o:=by rw[<-xh wf hp];exact ht
  exact ft t this
theorem OP:∀{l m:List Int}{a b:Int},l.length=m.length->(∀j,l.getD j 0*a=m.getD j 0*b)->l.sum*a=m.sum*b
 | [],[],_,_,_,_=>by show(0:Int)*_=0*_;rw[pO,pO]
 | x::l,y::m,a,b,e,h=>by have h0:x*a=y*b:=h 0;have:=OP (l:=l) (m:=m) (Nat.succ.inj e) λj=>h (j+1);show(x+l.sum)*a=(y+m.sum)*b;rw[j9,j9,h0,this]
theorem KY{q0 q1:Addr×Addr×Addr}:∀{ps:List Pt}{qs:List (Addr×Addr×Addr)}{i:Nat},qs[i]?=some q0->q1.1=q0.1->b_ ps (qs.set i q1)=b_ ps qs
 | [],_,_,_,_=>by simp[b_]
 | _::_,[],_,h,_=>by simp at h
 | p::ps,q::qs,0,h,e=>by
  have:q=q0:=by simpa using h
  subst this;show(_,V.ref q1.1)::_=(_,V.ref q.1)::_;rw[e]
 | p::ps,q::qs,i+1,h,e=>by have:=KY (ps:=ps) (qs:=qs) (i:=i) (q1:=q1) (by simpa using h) e;show _::b_ ps (qs.set i q1)=_::b_ ps qs;rw[this]
theorem aL.Vb{T:TC}{n:Nat}{ρ:cu}{A:HA}{H:Hp}{st:HS}(h:aL T n ρ A H st)(g:Gh ρ H){i:Nat}{p0 p1:Pt}{q0:Addr×Addr×Addr}{r:Addr}(ep:st.aj[i]?=some p0)(eq:A.qs[i]?=some q0)(e1:p1.nm=p0.nm)(cr:ρ r=some (n,21,p0.nm))(hr:H r=some (.lst (p1.row.map V.int)))(nd:(st.aj.map (·.nm)).Nodup):aL T n ρ { A with qs:=A.qs.set i (q0.1,q0.2.1,r) } (upd H q0.1 (.ins T.part q0.2.1 (cZ p1 r))) { st with aj:=st.aj.set i p1 }:=by
 have c0:=(h.opt i p0 q0 ep eq).2.2.1;have k:=dP (o:=.ins T.part q0.2.1 (cZ p1 r)) g c0;have k2':=λ{b:Addr}{u:Nat}{y:Str}{w:HO}=>Ag (H:=H) (o:=.ins T.part q0.2.1 (cZ p1 r)) c0 (b:=b) (u:=u) (y:=y) (w:=w);obtain⟨vs,h1,h2⟩:=h.nt;obtain⟨kvs,k1,k2,k3⟩:=h.okn;refine⟨kz k h.ca h.oa,h.ca,kz k h.gE h.gY,h.gE,?_,h.fC,⟨vs,kz k h.gI h1,h2.keep k (by decide)⟩,h.gI,kz k h.gJ h.nu,h.gJ,kz k h.gK h.jb,h.gK,kz k h.gM h.iL,h.gM,kz k h.cpu h.jC,h.cpu,kz k h.gO h.lZ,h.gO,⟨kvs,kz k h.gP k1,λp hp=>let⟨t,r,e,q⟩:=k2 p hp;⟨t,r,e,k.1 _ _ q⟩,k3⟩,h.gP,?_,?_⟩
 .show _=some (HO.dK (b_ (st.aj.set i p1) (A.qs.set i (q0.1,q0.2.1,r))));rw[KY (q1:=(q0.1,q0.2.1,r)) eq rfl,Bd ep e1];exact kz k h.fC h.dF
 .show (A.qs.set i _).length=(st.aj.set i _).length;rw[iA,iA];exact h.ql
 .intro j p q hp hq;have hi:=(ee.mp ep).1;have hi':=(ee.mp eq).1;by_cases e:i=j
  .subst e;rw[show({ st with aj:=st.aj.set i p1 }:HS).aj=st.aj.set i p1 from rfl,qO hi]at hp;rw[show({ A with qs:=A.qs.set i (q0.1,q0.2.1,r) }:HA).qs=A.qs.set i (q0.1,q0.2.1,r)from rfl,qO hi']at hq;cases hp;cases hq;exact⟨ai,k2' cr (.inl (by decide)) hr,by rw[e1];exact c0,by rw[e1];exact cr⟩
  .rw [show({ st with aj:=st.aj.set i p1 }:HS).aj=st.aj.set i p1 from rfl,zS e]at hp;rw[show({ A with qs:=A.qs.set i (q0.1,q0.2.1,r) }:HA).qs=A.qs.set i (q0.1,q0.2.1,r)from rfl,zS e]at hq;obtain⟨a1,a2,a3,a4⟩:=h.opt j p q hp hq;exact⟨k2' a3 (.inr λz=>e (Dz nd ep hp z.symm)) a1,k2' a4 (.inl (by decide)) a2,a3,a4⟩
theorem KZ{X:Cx}:Y7 X (Qq X.K):=by
 intro pins s σ H x y v u Q I rx ry h;obtain⟨p,xs,i,z,rfl,rfl,hq,he,q⟩:=h;cases rx;obtain⟨t,rfl⟩:=ry;obtain⟨its,r,pl,hz⟩:=I.list hq;obtain⟨j,h1,h2,h3,h4,h5⟩:=A_ he;obtain⟨w,ew,rw'⟩:=r.get h2;have hl:=r.length;have hn:=uW;have fin:EP X pins σ Q w s:=⟨z,H,I,rw',q⟩
 by_cases h0:0<=i
 .have hj:i.toNat=j:=by rw[seqIndex_of h0 h5]at h1;exact fm h1
  exact wpAny_getItem_list pl.isList h0 (by omega) (by rw[hj];simpa using ew) fin
 .have hj:(i+(its.toArray.size:Int)).toNat=j:=by rw[seqIndex_neg (by omega) h4]at h1;rw[iI,<-hl];exact fm h1
  exact wpAny_getItem_list_neg pl.isList (by omega) (by rw[iI] <;> omega) (by omega) (by rw[hj];simpa using ew) fin
inductive SJ(T:TC)(vs:List V)(H:Hp)(Q:VK)(E:XK):Prop
 |mk(n ρ A st:_)(i:Nat)(p:Pt)(_:vs=[.ref A.a,.str p.nm])(_:HH T n ρ A H st)(_:st.aj[i]?=some p)(_:st.kn+100<=1000000)(_:∀r ws H',HH T n ρ A H' { st with kn:=st.kn+100 }->Fr n ρ H ρ H'->H r=none->H' r=some (.lst ws)->ρ r=none->jm H' ws (gQ st p:_)->Q (.ref r) H')
def yV(T:TC):Sp:=bx (SJ T)
theorem Mn.imp{P:Program}{w:World}{K:Fg}{mg:SO}{base:Heap}{k:Nat}{C:Addr}{m:Str}{ps:List Str}{sp sp0:Sp}(D:Mn P w K mg base k C m ps sp)(h:∀vs H Q E,sp0 vs H Q E->sp vs H Q E):Mn P w K mg base k C m ps sp0:=by obtain⟨f,fd,F,r⟩:=D.ex;exact⟨f,fd,F.imp h,r⟩
structure Vc(st:HS):Prop where
 kn:st.kn+100<=1000000
 bO:st.bO.length<1000
 wo:∀p∈st.aj,Jm.Sz 60 p.wo
 prod:Jm.Sz 7900 st.prod
 bH:∀u∈st.bH,Jm.Sz 8900 u
inductive aay(T:TC)(e:Ec)(vs:List V)(H:Hp)(Q:VK)(E:XK):Prop
 |mk(n ρ A st x:_)(_:vs=[.ref A.a,.str x])(_:HH T n ρ A H st)(_:Vc st)(_:GU T e n ρ A H (qa st x:_) (rZ st x:_) Q E)
def OQ(T:TC)(e:Ec):Sp:=bx (aay T e)
theorem pF{st:HS}{x:Str}(h:qa st x=none):x∈d9 st:=by
 unfold qa at h;split at h
 .assumption
 .cases h
theorem Fr.adh{n:Nat}{ρ:cu}{H H':Hp}(f:Fr n ρ H ρ H')(g:Gh ρ H'){b:Addr}(h:H' b=none):H b=none:=by
 cases e:H b with
 | none=>rfl
 | some o=>have:=(f b o e λt x z=>by rw[g.none h]at z;cases z).1;rw[h]at this;cases this
theorem vq:∀{l:List Pt}{i:Nat}{p:Pt},(l.map (·.nm)).Nodup->l[i]?=some p->l.filter (λq=>decide (q.nm≠p.nm))=l.eraseIdx i
 | [],_,_,_,h=>by simp at h
 | x::l,0,p,nd,h=>by
  obtain⟨h1,h2⟩:=fU.mp (show(x.nm::l.map (·.nm)).Nodup from nd);have e:x=p:=by simpa using h
  subst e;rw[gC,aB (by simp)];exact ED.mpr λy hy=>bq λz=>h1 (aZ.mpr ⟨y,hy,z⟩)
 | x::l,i+1,p,nd,h=>by
  obtain⟨h1,h2⟩:=fU.mp (show(x.nm::l.map (·.nm)).Nodup from nd);have h':l[i]?=some p:=by simpa using h
  rw[gC,aC (by simpa using λz:x.nm=p.nm=>h1 (aZ.mpr ⟨p,cC h',z.symm⟩)),vq h2 h'];rfl
def lV(st:HS)(p:Pt):List Int:=(gu st p).set (st.own.idxOf p.ow) ((gu st p).getD (st.own.idxOf p.ow) 0-p.wo*st.prod)
theorem Vd{st:HS}(wf:Wf st){p:Pt}(hp:p∈st.aj){m:Nat}(h1:Jm.Sz 60 p.wo)(h2:Jm.Sz m st.prod)(h3:∀u∈st.bH,Jm.Sz (m+60) u):∀u∈gu st p,Jm.Sz (m+61) u:=λu hu=>by obtain⟨i,a,t,ea,et,rfl⟩:=wX (show u∈List.zipWith (λu t=>u+p.wo*t) st.bH (aK st p)from hu);have ht:=wf.pX p hp t (cC et);have zt:Jm.Sz m t:=h2.of_le (by omega);exact(h3 a (cC ea)).jX ((h1.mul zt).mono (by omega))
theorem OR{st:HS}(wf:Wf st){p:Pt}(hp:p∈st.aj){m:Nat}(h1:Jm.Sz 60 p.wo)(h2:Jm.Sz m st.prod)(h3:∀u∈st.bH,Jm.Sz (m+60) u):∀u∈lV st p,Jm.Sz (m+62) u:=λu hu=>by
 have g:=Vd wf hp h1 h2 h3;rcases Pz (show u∈(gu st p).set _ _ from hu)with z|z
 .exact (g u z).mono (by omega)
 .rw [z];have z0:Jm.Sz (m+61) ((gu st p).getD (st.own.idxOf p.ow) 0):=by
   rw[kK];cases e:(gu st p)[st.own.idxOf p.ow]? with
   | none=>exact(by show Jm.Sz (m+61) 0;unfold Jm.Sz;exact Nat.pow_pos (by decide))
   | some y=>exact g y (cC e)
  have:=z0.jX (((h1.mul h2).mono (by omega:60+m<=m+61)).neg);rw[Int.sub_eq_add_neg];exact this
theorem sZ{st:HS}(wf:Wf st){p:Pt}(hp:p∈st.aj):(gu st p).length=st.own.length:=by unfold gu;rw[lR,xg wf hp,wf.mG,yx]
theorem oS{st:HS}(wf:Wf st){p:Pt}(hp:p∈st.aj):rZ st p.nm={ st with aj:=st.aj.filter (λq=>decide (q.nm≠p.nm)),bO:=st.bO++[⟨p.nm,p.ow,p.wo,gQ st p⟩],kn:=st.kn+100,bH:=lV st p }:=by unfold rZ lV;rw[bN wf hp rfl]
theorem OS{st:HS}{x:Str}(wf:Wf st)(h:qa st x=none)(l:Vc st):Wf (rZ st x):=by
 obtain⟨i,p,e1,rfl⟩:=jz (pF h);have hp:=cC e1;rw[oS wf hp];have S:∀{M:Pt->Prop},(∀x∈st.aj,M x)->∀x∈st.aj.filter (λq=>decide (q.nm≠p.nm)),M x:=λh x hx=>h x (m7.mp hx).1;have hf:=List.length_filter_le (λq:Pt=>decide (q.nm≠p.nm)) st.aj;refine⟨wf.oM,wf.yK,List.Nodup.sublist (List.Sublist.map _ List.filter_sublist) wf.dM,S wf.sub,S wf.rows,S wf.ow,wf.gD,?_,wf.eE,wf.pW,wf.vd,wf.ki,wf.yL,?_,wf.Ah,?_,l.kn,wf.big,wf.oN,S wf.sS,S wf.oO,S wf.pX,S wf.jK,?_⟩
 .show (lV st p).length=_;unfold lV;rw[iA,sZ wf hp]
 .have:=wf.mH;show(List.filter _ _).length<=1000;omega
 .show (st.bO++[_]).length<=1000;rw[c7];exact l.bO
 .exact λu hu=>(OR wf hp (m:=8840) (l.wo p hp) (l.prod.mono (by decide)) (λu hu=>(l.bH u hu).mono (by decide)) u hu).mono (by decide)
inductive K0(c:Nat)(own:List Str)(sh:List (Str×Rat)):Prop
 |mk(K2:List Str)(tops:List Int)(b:Int)(_:K2 <+:own)(_:K2.length=tops.length)(_:sh=jM K2 tops b)(_:∀t∈tops,0<=t)(_:tops.sum=b)(_:1<=b)(_:Jm.Sz (64*c+1) b)
theorem K0.mono{c c':Nat}{own own':List Str}{sh:List (Str×Rat)}(h:K0 c own sh)(hc:c<=c')(ho:own <+:own'):K0 c' own' sh:=by obtain⟨o0,ts,b,h1,h2,h3,h4,h5,h6,h7⟩:=h;exact⟨o0,ts,b,h1.trans ho,h2,h3,h4,h5,h6,h7.mono (by omega)⟩
structure Go(c:Nat)(st:HS):Prop where
 bH:∀u∈st.bH,Jm.Sz (64*c+61) u
 stp:st.stp.length<=c
 prod:Jm.Sz (64*c+1) st.prod
 wo:∀p∈st.aj,p.wo<=1000000000000*((c:Int)+1)
 we:∀p∈st.aj,p.we<=1000000000
 pl:st.aj.length<=c
 kl:st.nms.length<=c
 ol:0<st.own.length
 nk:∀x∈st.nms,isNm x=true
 on:∀o∈st.own,isNm o=true
 sum:∀p∈st.aj,(aK st p).sum=st.prod
 al:st.bO.length<=c
 bO:∀a∈st.bO,K0 c st.own a.sh
theorem Go.kn{c:Nat}{st:HS}(g:Go c st)(k:Nat):Go c { st with kn:=k }:=⟨g.bH,g.stp,g.prod,g.wo,g.we,g.pl,g.kl,g.ol,g.nk,g.on,g.sum,g.al,g.bO⟩
theorem Go.mono{c:Nat}{st:HS}(g:Go c st):Go (c+1) st:=⟨λu hu=>(g.bH u hu).mono (by omega),by have:=g.stp;omega,g.prod.mono (by omega),λp hp=>by have:=g.wo p hp;omega,g.we,by have:=g.pl;omega,by have:=g.kl;omega,g.ol,g.nk,g.on,g.sum,by have:=g.al;omega,λa ha=>(g.bO a ha).mono (by omega) (List.prefix_refl _)⟩
theorem OT:∀{ps:List Pt}{m:Int},(∀p∈ps,1<=p.wo/\p.wo<=m)->0<=(ps.map (·.wo)).sum/\(ps.map (·.wo)).sum<=m*(ps.length:Int)
 | [],m,_=>by show 0<=(0:Int)/\(0:Int)<=m*0;omega
 | p::ps,m,h=>by have h0:=h p cN;have ih:=OT (ps:=ps) (m:=m) λx hx=>h x (b7 _ hx);rw[bz,dg,kg,show(((ps.length+1:Nat)):Int)=(ps.length:Int)+1 from by omega,wI,uE];omega
theorem Go.whole{c:Nat}{st:HS}(g:Go c st)(wf:Wf st)(hc:c<=91):0<=aE st/\Jm.Sz 60 (aE st):=by
 have h:=OT (ps:=st.aj) (m:=92000000000000) λp hp=>⟨(wf.jK p hp).1,by have:=g.wo p hp;omega⟩
 have hl:=g.pl;have h2:(92000000000000:Int)*(st.aj.length:Int)<=92000000000000*91:=by omega
 have h3:aE st<=92000000000000*91:=Int.le_trans h.2 h2;have h1:0<=aE st:=h.1;exact⟨h1,(show Jm.Sz 60 (92000000000000*91:Int)from pT (by decide +kernel)).of_le (by omega)⟩
theorem Go.aw{c:Nat}{st:HS}(g:Go c st)(wf:Wf st)(hc:c<=91):E1 st:=⟨(g.whole wf hc).2,g.prod.mono (by omega),λu hu=>(g.bH u hu).mono (by omega),by have:=g.stp;omega⟩
theorem Go.sz{c:Nat}{st:HS}(g:Go c st)(wf:Wf st)(hc:c<=91):∀p∈st.aj,Jm.Sz 60 p.wo:=λp hp=>by have h:=g.wo p hp;have h1:=(wf.jK p hp).1;exact(show Jm.Sz 60 (92000000000000:Int)from pT (by decide +kernel)).of_le (by omega)
theorem Go.ld{c:Nat}{st:HS}(g:Go c st)(wf:Wf st)(hc:c<=91)(hk:st.kn+100<=1000000):Vc st:=⟨hk,by have:=g.al;omega,g.sz wf hc,g.prod.mono (by omega),λu hu=>(g.bH u hu).mono (by omega)⟩
theorem DN{c:Nat}{st:HS}(g:Go c st){ps:List Pt}{ns:List Str}(h:∀p∈ps,(aK st p).sum=st.prod/\p.wo<=1000000000000*((c:Int)+2)/\p.we<=1000000000)(hl:ps.length<=c+1)(hn:ns.length<=c+1)(hk:∀x∈ns,isNm x=true):Go (c+1) { st with aj:=ps,nms:=ns }:=⟨g.mono.bH,g.mono.stp,g.mono.prod,λp hp=>by have:=(h p hp).2.1;omega,λp hp=>(h p hp).2.2,hl,hn,g.ol,hk,g.on,λp hp=>(h p hp).1,g.mono.al,g.mono.bO⟩
theorem Go.same{c:Nat}{st:HS}(g:Go c st){ps:List Pt}(h:∀p'∈ps,∃p∈st.aj,p'.row=p.row/\p'.sc=p.sc/\p'.wo<=p.wo+1000000000000/\p'.we<=p.we)(hl:ps.length<=c+1):Go (c+1) { st with aj:=ps }:=DN g (ns:=st.nms) (λp' dN=>by obtain⟨p,hp,e1,e2,e3,e4⟩:=h p' dN;have w:=g.wo p hp;have v:=g.we p hp;exact⟨by have:=g.sum p hp;unfold aK at this ⊢;rw[e1,e2];exact this,by omega,by omega⟩) hl g.mono.kl g.nk
theorem K3{c:Nat}{st st':HS}{kept lost:Int}{added:List Int}(g:Go c st)(wf:Wf st)(bl:jE st kept (aE st) lost added)(hs:added.sum=lost*st.prod)(hc:c<=90)(eC:st'={ aN st kept (aE st) added with aj:=st'.aj })(hp:∀p'∈st'.aj,∃p∈st.aj,p'.row=p.row/\p'.sc=p.sc*kept / cA st kept (aE st) added/\p'.wo<=p.wo/\p'.we=p.we)(hl:st'.aj.length<=st.aj.length):Go (c+1) st':=by
 have zw:=g.whole wf (by omega)
 obtain⟨hd,hsw,_,_⟩:=bl.dvds
 have w1:0<aE st:=by have:=bl.k;have:=bl.l;have:=bl.w;omega
 have s1:1<=aE st / cA st kept (aE st) added:=by have:=Int.le_of_dvd w1 hsw;exact Int.le_ediv_of_mul_le hd (by omega)
 have s2:aE st / cA st kept (aE st) added<=aE st:=Int.ediv_le_self _ (by omega)
 have zs:Jm.Sz 60 (aE st / cA st kept (aE st) added):=zw.2.of_le (by omega)
 have ep:st'.prod=(aN st kept (aE st) added).prod:=by rw[eC]
 have ec:st'.bD=(aN st kept (aE st) added).bD:=by rw[eC]
 have epr:st'.prod=st.prod*(aE st / cA st kept (aE st) added):=by rw[ep];unfold aN;rw[yN s1]
 have en:st'.nms=st.nms:=by rw[eC];show(aN st kept (aE st) added).nms=_;unfold aN;rw[mJ]
 have eo:st'.own=st.own:=by rw[eC];show(aN st kept (aE st) added).own=_;unfold aN;rw[kN]
 have ea:st'.bO=st.bO:=by rw[eC];show(aN st kept (aE st) added).bO=_;unfold aN;rw[kO]
 have p1:=wf.eE
 have gm:=g.mono
 refine⟨λu hu=>?_,?_,?_,λp' dN=>?_,λp' dN=>?_,by have:=g.pl;omega,by rw[en];exact gm.kl,by rw[eo];exact g.ol,by rw[en];exact g.nk,by rw[eo];exact g.on,λp' dN=>?_,by rw[ea];exact gm.al,by rw[ea,eo];exact gm.bO⟩
 . rw[eC]at hu
   have hu:u∈(aN st kept (aE st) added).bH:=hu
   unfold aN at hu
   rw[Ao]at hu
   obtain⟨x,hx,rfl⟩:=aZ.mp hu
   exact((g.bH x hx).mul zs).mono (by omega)
 . rw[eC]
   show(aN st kept (aE st) added).stp.length<=c+1
   unfold aN eZ
   split
   . show(st.stp++[_]).length<=c+1
     rw[c7];have:=g.stp;show st.stp.length+1<=c+1;omega
   . exact gm.stp
 . rw[epr];exact(g.prod.mul zs).mono (by omega)
 . obtain⟨p,h0,_,_,e3,_⟩:=hp p' dN
   have:=gm.wo p h0
   omega
 . obtain⟨p,h0,_,_,_,e4⟩:=hp p' dN
   rw[e4];exact g.we p h0
 . obtain⟨p,h0,e1,e2,_,_⟩:=hp p' dN
   have tl:=qX wf h0
   have tl':(aK st' p').length=st.bD.length:=by unfold aK;rw[lR,e1,wf.rows p h0,<-wf.gD,ec];unfold aN fZ;rw[GO,aG,lR,bl.len];omega
   have r:=OP (l:=List.zipWith (λt m=>t*kept+m) (aK st p) added) (m:=aK st' p') (a:=st'.prod) (b:=st.prod*aE st) (by rw[lR,tl,tl',bl.len];omega) λj=>by rw[oR (f:=λt m=>t*kept+m) (by show(0:Int)*_+0=0;omega) (by rw[tl,bl.len])];exact wZ wf bl ec ep h0 e1 e2 (B:=st.prod) rfl rfl
   rw[OI _ (by rw[tl,bl.len]),g.sum p h0,hs,pN lost,<-wI,<-bl.w,pN _ st'.prod]at r
   exact(Int.eq_of_mul_eq_mul_right (Int.ne_of_gt (wH (by omega) w1)) r).symm
theorem GZ:∀(rs:List Row)(s:HS),(∀r∈rs,1<=r.2)->∀p'∈(rs.foldl cS s).aj,∃p∈s.aj,∃w,p'={ p with wo:=w }/\w<=p.wo
 | [],s,_,p',h=>⟨p',h,p'.wo,Z,kQ _⟩
 | r::rs,s,h1,p',h=>by
  obtain⟨p,hp,w,e,le⟩:=GZ rs (cS s r) (λx hx=>h1 x (b7 _ hx)) p' h;obtain⟨_,q,hq,e2⟩:=qY hp;have:=h1 r cN;split at e2
  .subst e2;have le:w<=q.wo-r.2:=le;exact⟨q,hq,w,e,by omega⟩
  .subst e2;exact⟨p,hq,w,e,le⟩
theorem G_:∀(rs:List Row)(s:HS),(rs.foldl cS s).aj.length<=s.aj.length
 | [],s=>aO _
 | r::rs,s=>by have:=G_ rs (cS s r);have h:=uJ (ps:=s.aj) (x:=r.1) (a:=r.2) |>.length_le;rw[aG,aG]at h;exact f_ this h
theorem Ck(k:Int):∀{xs ts:List Int},xs.length=ts.length->(List.zipWith (λx t=>x+k*t) xs ts).sum=xs.sum+k*ts.sum
 | [],[],_=>by simp
 | x::xs,t::ts,h=>by rw[EB,dg,dg,dg,Ck k (by simpa using h),wI];omega
 | [],_::_,h=>by simp at h
 | _::_,[],h=>by simp at h
theorem Hf{st:HS}:∀(rs:List Row)(acc:List Int),(∀r∈rs,(aK st (bJ st r.1)).length=acc.length/\(aK st (bJ st r.1)).sum=st.prod)->(uI st acc rs).sum=acc.sum+aQ rs*st.prod
 | [],acc,_=>by show acc.sum=acc.sum+0*_;omega
 | r::rs,acc,h=>by
  obtain⟨h1,h2⟩:=h r cN;have e:(List.zipWith (λx t=>x+r.2*t) acc (aK st (bJ st r.1))).length=acc.length:=by rw[lR,h1];omega
  show(uI st (List.zipWith (λx t=>x+r.2*t) acc (aK st (bJ st r.1))) rs).sum=_;rw[Hf rs _ (λx hx=>by rw[e];exact h x (b7 _ hx)),Ck _ h1.symm,h2,show aQ (r::rs)=r.2+aQ rs from by unfold aQ;rw[bz,dg],j9];omega
theorem j0{st:HS}{r:Row}(h:iX st r=none):r.1∈d9 st/\1<=r.2/\r.2<=(bJ st r.1).wo:=by
 unfold iX at h;split at h
 .split at h
  .cases h
  .split at h
   .cases h
   .exact ⟨by assumption,by omega,by omega⟩
 .cases h
theorem s_{st:HS}{rs:List Row}(h:jR st rs=none):rs≠[]/\(rs.map λr:Row=>r.1).Nodup/\(∀r∈rs,iX st r=none)/\aQ rs<aE st:=by
 unfold jR at h;split at h
 .next c=>
  split at h
  .cases h
  .next e=>
   split at h
   .cases h
   .exact ⟨c.1,c.2,λr hr=>List.findSome?_eq_none_iff.mp e r hr,by omega⟩
 .cases h
theorem Go.tD{c:Nat}{st:HS}(g:Go c st)(wf:Wf st)(hc:c<=91){rs:List Row}(h:jR st rs=none):jO st rs:=by
 obtain⟨h1,h2,h3,h4⟩:=s_ h;have aw:=g.aw wf hc;refine⟨h2,h1,?_,λr hr=>?_,h4,aw.big,aw.prod,aw.bH,aw.stp⟩
 .have:=u9 h2 (m:=d9 st) (λx hx=>by obtain⟨r,hr,rfl⟩:=aZ.mp hx;exact(j0 (h3 r hr)).1);rw[aG]at this;unfold d9 at this;rw[aG]at this;have:=g.pl;omega
 .obtain ⟨a1,a2,a3⟩:=j0 (h3 r hr);obtain⟨i,p,e1,e2⟩:=jz a1;have hp:=cC e1;rw[bN wf hp e2]at a3;have:=g.sz wf hc p hp;exact⟨a2,this.of_le (by omega),p,hp,e2,a3⟩
def Ww:Dd->Prop
 | .load _ _ wo we=>wo<=1000000000000/\we<=1000000000
 | .rise _ a=>a<=1000000000000
 | _=>True
theorem Hg(st:HS)(p q:Pt):aK (wU st p) q=aK st q:=rfl
theorem OU{n i:Nat}{b:Int}(h:i<n):((List.replicate n (0:Int)).set i b).sum=b:=by
 have:=xH (l:=List.replicate n (0:Int)) (x:=b) (by rw[jW];exact h)
 rwa [Ci,wG,KG,wG]at this
theorem Yp{c:Nat}{st:HS}(g:Go c st)(wf:Wf st){x o:Str}{wo we:Int}(hx:isNm x=true)(ho:o∈st.own)(h1:wo<=1000000000000)(h2:we<=1000000000):Go (c+1) (Be st x o wo we):=by
 refine DN g (λp hp=>?_) (by rw[c7];have:=g.pl;show st.aj.length+1<=_;omega) (by rw[c7];have:=g.kl;show st.nms.length+1<=_;omega) (λy hy=>?_)
 .rcases fq.mp hp with z|z
  .have:=g.wo p z;exact⟨g.sum p z,by omega,g.we p z⟩
  .rw [eO.mp z];refine⟨?_,by show wo<=_;omega,h2⟩;unfold aK;show(List.zipWith (λr c=>(1:Int)*r+c) (lU st _) st.bD).sum=_;rw[Cj (by rw[iA,jW,wf.gD])];exact OU (uu ho)
 .rcases fq.mp hy with z|z
  .exact g.nk y z
  .rw [eO.mp z];exact hx
theorem Yq{c:Nat}{st:HS}(g:Go c st)(wf:Wf st)(hc:c<=90){rs:List Row}(h:jR st rs=none):Go (c+1) (cV st rs):=by
 have ok:=g.tD wf (by omega) h;have h1:∀r∈rs,1<=r.2:=λr hr=>(ok.row r hr).1;refine K3 g wf (ok.blend wf) ?_ hc (jP rs _) (λp' dN=>?_) ?_
 .have ex:∀r∈rs,∃p∈st.aj,p.nm=r.1:=λr hr=>by obtain⟨p,hp,e,_⟩:=(ok.row r hr).2.2;exact⟨p,hp,e⟩
  rw[wY wf ex,Hf,KG,wG];intro r hr;obtain⟨p,hp,e⟩:=ex r hr;rw[bN wf hp e,jW];exact⟨qX wf hp,g.sum p hp⟩
 .obtain ⟨p1,hp1,w,rfl,le⟩:=GZ rs _ h1 p' dN;unfold aN at hp1;rw[kM]at hp1;obtain⟨p,hp,rfl⟩:=aZ.mp hp1;exact⟨p,hp,Z,Z,le,Z⟩
 .refine f_ (G_ rs _) ?_;unfold aN;rw[kM,aG];exact aO _
theorem Ve{c:Nat}{st:HS}(g:Go c st)(wf:Wf st)(hc:c<=90){o:Str}{a:Int}(h:jS st o a=none):Go (c+1) (qb st o a):=by
 obtain⟨ho,h1,h2⟩:=yU h;refine K3 g wf ((g.aw wf (by omega)).blend (o:=o) wf h1 h2) (OU (uu ho)) hc rfl (λp' dN=>?_) ?_
 .have dN:p'∈(aN st _ _ _).aj:=dN;unfold aN at dN;rw[kM]at dN;obtain⟨p,hp,rfl⟩:=aZ.mp dN;exact⟨p,hp,Z,Z,kQ _,Z⟩
 .show (aN st _ _ _).aj.length<=_;unfold aN;rw[kM,aG];exact aO _
theorem SK{st:HS}(wf:Wf st){c:Nat}(g:Go c st){p:Pt}(hp:p∈st.aj):K0 c st.own (gQ st p):=⟨st.own,aK st p,st.prod,List.prefix_refl _,(xg wf hp).symm,Z,λt ht=>(wf.pX p hp t ht).1,g.sum p hp,wf.eE,g.prod⟩
theorem Yr{c:Nat}{st:HS}(g:Go c st)(wf:Wf st)(hc:c<=91){x:Str}(h:qa st x=none):Go (c+1) (rZ st x):=by
 obtain⟨i,p,e1,rfl⟩:=jz (pF h);have hp:=cC e1;rw[oS wf hp];have S:∀{M:Pt->Prop},(∀x∈st.aj,M x)->∀x∈st.aj.filter (λq=>decide (q.nm≠p.nm)),M x:=λh x hx=>h x (m7.mp hx).1;have hf:=List.length_filter_le (λq:Pt=>decide (q.nm≠p.nm)) st.aj;have gm:=g.mono;refine⟨λu hu=>?_,gm.stp,gm.prod,S gm.wo,S g.we,f_ hf gm.pl,gm.kl,g.ol,g.nk,g.on,S g.sum,?_,λa ha=>?_⟩
 .exact (OR wf hp (m:=64*c+1) (g.sz wf hc p hp) g.prod (λu hu=>(g.bH u hu).mono (by omega)) u hu).mono (by omega)
 .show (st.bO++[_]).length<=_;rw[c7];have:=g.al;show st.bO.length+1<=_;omega
 .rcases fq.mp (show a∈st.bO++[_]from ha)with z|z
  .exact gm.bO a z
  .rw [eO.mp z];exact(SK wf g hp).mono (by omega) (List.prefix_refl _)
theorem Ys{c:Nat}{st:HS}(g:Go c st)(wf:Wf st){o:Str}(h:isNm o=true):Go (c+1) (g_ st o):=by
 have gm:=g.mono;have P:∀p∈(g_ st o).aj,∃p0∈st.aj,p={ p0 with row:=p0.row++[0] }:=λp hp=>by obtain⟨p0,h0,rfl⟩:=aZ.mp (show p∈st.aj.map _ from hp);exact⟨p0,h0,Z⟩
 refine⟨λu hu=>?_,gm.stp,gm.prod,λp hp=>?_,λp hp=>?_,?_,gm.kl,?_,g.nk,λx hx=>?_,λp hp=>?_,gm.al,λa ha=>(gm.bO a ha).mono (aO _) (List.prefix_append _ _)⟩
 .rcases fq.mp (show u∈st.bH++[0]from hu)with z|z
  .exact gm.bH u z
  .rw [eO.mp z];exact(show Jm.Sz 1 (0:Int)from pT (by decide +kernel)).mono (by omega)
 .obtain ⟨p0,h0,rfl⟩:=P p hp;exact gm.wo p0 h0
 .obtain ⟨p0,h0,rfl⟩:=P p hp;exact g.we p0 h0
 .show (st.aj.map _).length<=_;rw[aG];exact gm.pl
 .show 0<(st.own++[o]).length;rw[c7];exact lS g.ol (xB _ _)
 .rcases fq.mp (show x∈st.own++[o]from hx)with z|z
  .exact g.on x z
  .rw [eO.mp z];exact h
 .obtain ⟨p0,h0,rfl⟩:=P p hp;show(List.zipWith (λr c=>p0.sc*r+c) (p0.row++[0]) (st.bD++[0])).sum=st.prod;rw[GJ _ (by rw[wf.rows p0 h0,wf.gD]),Jf,show(List.zipWith (λr c=>p0.sc*r+c) p0.row st.bD).sum=st.prod from g.sum p0 h0];simp
theorem yW{l:List Pt}{x:Str}{f:Pt->Pt}{p':Pt}(h:p'∈l.map λp=>if p.nm=x then f p else p):∃p∈l,(p.nm=x/\p'=f p)\/p'=p:=by
 obtain⟨p,hp,e⟩:=aZ.mp h;by_cases c:p.nm=x
 .exact ⟨p,hp,.inl ⟨c,by rw[aC c]at e;exact e.symm⟩⟩
 .exact ⟨p,hp,.inr (by rw[aB c]at e;exact e.symm)⟩
theorem adi{c:Nat}{st:HS}(g:Go c st)(wf:Wf st)(hc:c<=90){d:Dd}(hr:jr st d=none)(db:Ww d):Go (c+1) (iD st d):=by
 have hl:=g.pl;cases d with
 | sign o=>
  have:rY st o=none:=hr;unfold rY at this;split at this
  .exact Ys g wf (by assumption)
  .cases this
 | load x o wo we=>obtain⟨h1,_,h3,_,_⟩:=sX hr;exact Yp g wf h1 h3 db.1 db.2
 | cast rs=>exact Yq g wf hc hr
 | award o a=>exact Ve g wf hc hr
 | mishap x a=>
  obtain⟨_,h1,_⟩:=j0 (show iX st (x,a)=none from hr);have h1:1<=a:=h1;refine g.same (ps:=jN st.aj x a) (λp' dN=>?_) ?_
  .obtain ⟨_,p,hp,e⟩:=qY dN;split at e
   .exact ⟨p,hp,by rw[e],by rw[e],by rw[e];show p.wo-a<=_;omega,by rw[e];exact kQ _⟩
   .exact ⟨p,hp,by rw[e],by rw[e],by rw[e];omega,by rw[e];exact kQ _⟩
  .have h:=uJ (ps:=st.aj) (x:=x) (a:=a) |>.length_le;rw[aG,aG]at h;omega
 | rise x a=>
  have ha:a<=1000000000000:=db;refine g.same (λp' dN=>?_) (by rw[aG];omega);obtain⟨p,hp,⟨_,e⟩|e⟩:=yW dN
  .exact ⟨p,hp,by rw[e],by rw[e],by rw[e];show p.wo+a<=_;omega,by rw[e];exact kQ _⟩
  .exact ⟨p,hp,by rw[e],by rw[e],by rw[e];omega,by rw[e];exact kQ _⟩
 | hand x o=>
  obtain⟨hx,ho⟩:=w_ hr;show Go (c+1) (ff st x o);unfold ff;split
  .exact g.mono
  .next ne=>
   refine DN g (ns:=st.nms) (λp' dN=>?_) (by rw[aG];omega) g.mono.kl g.nk;obtain⟨p,hp,⟨en,e⟩|e⟩:=yW dN
   .rw [bN wf hp en]at ne;have:=g.wo p hp;refine⟨?_,by rw[e];show p.wo<=_;omega,by rw[e];exact g.we p hp⟩;rw[e,show aK st { p with ow:=o,sc:=1,row:=lU st (ng st p o) }=_ from xh wf hp o];exact(KW wf hp ho ne (g.sum p hp)).2
   .rw [e];have:=g.wo p hp;exact⟨g.sum p hp,by omega,g.we p hp⟩
 | land x=>exact Yr g wf (by omega) hr
 | sever x y a we=>
  obtain⟨hx,hy,h1,h2,h3,h4⟩:=kX hr;obtain⟨i,p0,e1,en⟩:=jz hx;have hp0:=cC e1;have w0:=g.wo p0 hp0;have v0:=g.we p0 hp0;show Go (c+1) (lz st x y a we);unfold lz;rw[bN wf hp0 en]at h3 h4 ⊢;refine DN g (λp' dN=>?_) (by rw[c7];show(List.map _ st.aj).length+1<=_;rw[aG];omega) (by rw[c7];have:=g.kl;show st.nms.length+1<=_;omega) (λz hz=>?_)
  .rcases fq.mp dN with z|z
   .obtain ⟨p,hp,⟨_,e⟩|e⟩:=yW z
    .rw [e];have:=g.wo p hp;have:=g.we p hp;exact⟨g.sum p hp,by show p.wo-a<=_;omega,by show p.we-we<=_;omega⟩
    .rw [e];have:=g.wo p hp;exact⟨g.sum p hp,by omega,g.we p hp⟩
   .rw [eO.mp z];exact⟨g.sum p0 hp0,by show a<=_;omega,by show we<=_;omega⟩
  .rcases fq.mp hz with w|w
   .exact g.nk z w
   .rw [eO.mp w];exact hy.1
 | still=>exact g.mono
theorem adj{c:Nat}{st:HS}(g:Go c st)(wf:Wf st)(hc:c<=90)(hk:st.kn+100<=1000000)(ho:st.own.length<100){d:Dd}(hr:jr st d=none):Wf (iD st d):=by
 have hl:=g.pl;have hn:=g.kl;cases d with
 | sign o=>
  have:rY st o=none:=hr;unfold rY at this;split at this
  .split at this
   .cases this
   .exact EU wf (by assumption) ho
  .cases this
 | load x o wo we=>obtain⟨_,h2,h3,h4,h5⟩:=sX hr;exact OE wf h2 (by omega) (by omega) h3 h4 h5
 | cast rs=>exact Yb wf (g.tD wf (by omega) hr)
 | award o a=>obtain⟨h0,h1,h2⟩:=yU hr;exact vj wf ((g.aw wf (by omega)).blend (o:=o) wf h1 h2)
 | mishap x a=>obtain⟨_,_,h1⟩:=j0 (show iX st (x,a)=none from hr);exact EX wf λp hp e=>by rw[bN wf hp e]at h1;exact h1
 | rise x a=>have h1:=(AE (show kW st x a=none from hr)).2;exact AD wf λq hq _=>⟨Z,Z,Z,Z,by have:=(wf.jK q hq).1;show 1<=q.wo+a;omega,(wf.jK q hq).2⟩
 | hand x o=>exact OO wf hr g.sum
 | land x=>exact OS wf hr (g.ld wf (by omega) hk)
 | sever x y a we=>exact KS wf hr (by omega) (by omega)
 | still=>exact wf
theorem Yt(st:HS)(s:Int):(eZ st s).kn<=st.kn:=by
 unfold eZ;split
 .exact fH _
 .exact aO _
theorem adk(st:HS)(d:Dd):(iD st d).kn<=st.kn+100:=by
 cases d with
 | cast rs=>exact f_ (Ye st rs) (xB _ _)
 | award o a=>exact f_ (Yt _ _) (xB _ _)
 | hand x o=>show(ff st x o).kn<=_;unfold ff;split <;> exact xB _ _
 | land x=>exact aO _
 | _=>exact xB _ _
def nC(a b:HS):Prop:=a={ b with kn:=a.kn }
theorem nC.refl(a:HS):nC a a:=rfl
theorem nC.set{a b:HS}(h:nC a b)(k:Nat):nC { a with kn:=k } b:=by rw[h];rfl
theorem nC.ref{a b:HS}(h:nC a b)(d:Dd):jr a d=jr b d:=by rw[h];cases d <;> rfl
theorem Vf{a b:HS}(h:nC a b)(s:Int):nC (eZ a s) (eZ b s):=by unfold eZ;rw[h];split <;> rfl
theorem K4:∀(rs:List Row){a b:HS},nC a b->nC (rs.foldl cS a) (rs.foldl cS b)
 | [],_,_,h=>h
 | r::rs,a,b,h=>by rw[j7,j7];exact K4 rs (by rw[h];rfl)
theorem Hh{a b:HS}(h:nC a b)(kept whole:Int)(added:List Int):nC (aN a kept whole added) (aN b kept whole added):=by generalize ek:a.kn=k at *;unfold nC at h;rw[ek]at h;subst h;unfold aN;refine Vf ?_ _;rfl
theorem nC.do{a b:HS}(h:nC a b)(d:Dd):nC (iD a d) (iD b d):=by
 generalize ek:a.kn=k at *;unfold nC at h;rw[ek]at h;subst h;cases d with
 | cast rs=>exact K4 rs (Hh (a:={ b with kn:=k }) rfl _ _ _)
 | award o a=>exact Hh (a:={ b with kn:=k }) rfl _ _ _
 | hand x o=>show nC (ff { b with kn:=k } x o) (ff b x o);unfold ff;show nC (if b.own.idxOf o=b.own.idxOf (bJ b x).ow then _ else _) _;split <;> rfl
 | _=>rfl
structure LS where
 own:List Str
 aj:List Q4
 DO:List Str
structure LA where
 m:Addr
 lo:Addr
 lp:Addr
 lk:Addr
 qs:List Addr
def jU(B:LA):List (Key×V):=[(Sum.inr "owners",.ref B.lo),(Sum.inr "parts",.ref B.lp),(Sum.inr "known",.ref B.lk)]
def iZ(q:Q4):List V:=[.str q.1,.str q.2.1,.int q.2.2.1,.int q.2.2.2]
def nx:Str:=⟨#[]⟩
structure bV(n:Nat)(ρ:cu)(B:LA)(H:Hp)(l:LS):Prop where
 om:H B.m=some (.dK (jU B))
 cm:ρ B.m=some (n,40,nx)
 oo:H B.lo=some (.lst (l.own.map V.str))
 co:ρ B.lo=some (n,41,nx)
 op:H B.lp=some (.lst (B.qs.map V.ref))
 cp:ρ B.lp=some (n,42,nx)
 ok:H B.lk=some (.lst (l.DO.map V.str))
 ck:ρ B.lk=some (n,43,nx)
 nd:B.qs.Nodup
 ql:B.qs.length=l.aj.length
 pt:∀(i:Nat)(q:Q4)(a:Addr),l.aj[i]?=some q->B.qs[i]?=some a->H a=some (.lst (iZ q))/\ρ a=some (n,44,nx)
def d_(st:HS):LS:=⟨st.own,aV st,st.nms⟩
theorem bV.same{n:Nat}{ρ ρ':cu}{B:LA}{H H':Hp}{l:LS}(h:bV n ρ B H l)(k:Kp n ρ ρ' H H' λ_=>true):bV n ρ' B H' l:=by have z:=λ{b:Addr}{t:Nat}{x:Str}{o:HO}(c:ρ b=some (n,t,x))(e:H b=some o)=>k.2 b t x o rfl c e;exact⟨(z h.cm h.om).1,(z h.cm h.om).2,(z h.co h.oo).1,(z h.co h.oo).2,(z h.cp h.op).1,(z h.cp h.op).2,(z h.ck h.ok).1,(z h.ck h.ok).2,h.nd,h.ql,λi q a e1 e2=>let⟨x,y⟩:=h.pt i q a e1 e2;z y x⟩
theorem bV.mono{n:Nat}{ρ:cu}{B:LA}{H H':Hp}{l:LS}(h:bV n ρ B H l)(s:aR H H'):bV n ρ B H' l:=h.same (Ox s)
theorem bV.other{n m:Nat}{ρ ρ':cu}{B:LA}{H H':Hp}{l:LS}(h:bV m ρ B H l)(f:Fr n ρ H ρ' H')(g:Gh ρ H)(e:m≠n):bV m ρ' B H' l:=h.same ⟨λb xs q=>(f b _ q λt x=>by rw[g.tup q];intro z;cases z).1,λb t x o _ c q=>by
 obtain⟨a,b'⟩:=f b o q λt' x'=>by rw[c];intro z;cases z;exact e rfl
 exact⟨a,b'.trans c⟩⟩
theorem bV.col{n t:Nat}{x:Str}{ρ:cu}{B:LA}{H:Hp}{l:LS}{a:Addr}(h:bV n ρ B H l)(c:ρ a=none):bV n (cY ρ a (n,t,x)) B H l:=h.same ⟨λ_ _ e=>e,λb u y w _ hc he=>⟨he,by rw[bB (λz=>by rw[z,c]at hc;cases hc)];exact hc⟩⟩
theorem bV.find{n:Nat}{ρ:cu}{B:LA}{H:Hp}{l:LS}(h:bV n ρ B H l){i:Nat}{q:Q4}(e:l.aj[i]?=some q):∃a,B.qs[i]?=some a/\H a=some (.lst (iZ q))/\ρ a=some (n,44,nx):=by
 have hi:i<B.qs.length:=by rw[h.ql];exact(ee.mp e).1
 exact⟨B.qs[i],bK hi,h.pt i q _ e (bK hi)⟩
theorem bV.jn{n:Nat}{ρ:cu}{B:LA}{H:Hp}{l:LS}(h:bV n ρ B H l)(g:Gh ρ H){i:Nat}{a:Addr}(q1:Q4)(ea:B.qs[i]?=some a):bV n ρ B (upd H a (.lst (iZ q1))) { l with aj:=l.aj.set i q1 }:=by
 have hi:i<l.aj.length:=by rw[<-h.ql];exact(ee.mp ea).1
 obtain⟨x1,x2⟩:=h.pt i _ a (bK hi) ea;have k:=dP (o:=.lst (iZ q1)) g x2;refine⟨kz k h.cm h.om,h.cm,kz k h.co h.oo,h.co,kz k h.cp h.op,h.cp,kz k h.ck h.ok,h.ck,h.nd,by show _=(l.aj.set i q1).length;rw[iA];exact h.ql,λj q b e1 e2=>?_⟩;have e1:(l.aj.set i q1)[j]?=some q:=e1;by_cases hj:i=j
 .subst hj;rw[qO hi]at e1;rw[ea]at e2;cases e1;cases e2;exact⟨ai,x2⟩
 .rw [zS hj]at e1;obtain⟨y1,y2⟩:=h.pt j q b e1 e2;have hb:b≠a:=λe=>hj ((Qd (ee.mp ea).1 h.nd).mp (by rw[ea,e2,e]));exact⟨by rw[ay hb];exact y1,y2⟩
theorem bV.aaz{n:Nat}{ρ:cu}{B:LA}{H:Hp}{l:LS}(h:bV n ρ B H l)(g:Gh ρ H){lp:Addr}{qs:List Addr}{ps:List Q4}(e:H lp=some (.lst (qs.map V.ref)))(c:ρ lp=some (n,42,nx))(nd:qs.Nodup)(hl:qs.length=ps.length)(hp:∀(i:Nat) (q:Q4) (a:Addr),ps[i]?=some q->qs[i]?=some a->H a=some (.lst (iZ q))/\ρ a=some (n,44,nx)):bV n ρ { { B with lp:=lp }with qs:=qs } (upd H B.m (.dK (jU { B with lp:=lp }))) { l with aj:=ps }:=by
 have k:=dP (o:=.dK (jU { B with lp:=lp })) g h.cm
 exact⟨ai,h.cm,kz k h.co h.oo,h.co,kz k c e,c,kz k h.ck h.ok,h.ck,nd,hl,λi q a e1 e2=>let⟨x,y⟩:=hp i q a e1 e2;⟨kz k y x,y⟩⟩
theorem bV.SM{n:Nat}{ρ:cu}{B:LA}{H:Hp}{l:LS}(h:bV n ρ B H l)(g:Gh ρ H){q:Q4}{a:Addr}(e:H a=some (.lst (iZ q)))(c:ρ a=some (n,44,nx))(hn:a∉B.qs):bV n ρ { B with qs:=B.qs++[a] } (upd H B.lp (.lst ((B.qs++[a]).map V.ref))) { l with aj:=l.aj++[q] }:=by
 have k:=dP (o:=.lst ((B.qs++[a]).map V.ref)) g h.cp;refine⟨kz k h.cm h.om,h.cm,kz k h.co h.oo,h.co,ai,h.cp,kz k h.ck h.ok,h.ck,o_ h.nd hn,?_,λi x y ex ey=>?_⟩
 .show (B.qs++[a]).length=(l.aj++[q]).length;rw[c7,c7,h.ql];rfl
 .have ex:(l.aj++[q])[i]?=some x:=ex;have ey:(B.qs++[a])[i]?=some y:=ey;by_cases d:i<l.aj.length
  .rw [zP d]at ex;rw[zP (by rw[h.ql];exact d)]at ey;obtain⟨a1,a2⟩:=h.pt i x y ex ey;exact⟨kz k a2 a1,a2⟩
  .have hi:i=l.aj.length:=by have:=(ee.mp ex).1;rw[c7]at this;have:i<l.aj.length+1:=this;omega
   subst hi;rw[CL (aO _),AY]at ex;rw[CL (by rw[h.ql];exact aO _),h.ql,AY]at ey;cases ex;cases ey;exact⟨kz k c e,c⟩
theorem bV.OV{n:Nat}{ρ:cu}{B:LA}{H:Hp}{l:LS}(h:bV n ρ B H l)(g:Gh ρ H)(ks:List Str):bV n ρ B (upd H B.lk (.lst (ks.map V.str))) { l with DO:=ks }:=by have k:=dP (o:=.lst (ks.map V.str)) g h.ck;exact⟨kz k h.cm h.om,h.cm,kz k h.co h.oo,h.co,kz k h.cp h.op,h.cp,ai,h.ck,h.nd,h.ql,λi q a e1 e2=>let⟨x,y⟩:=h.pt i q a e1 e2;⟨kz k y x,y⟩⟩
inductive QAt(K:Fg)(H:Hp)(m:Addr)(st:HS):Prop
 |mk(kvs:List (Key×V))(lo lp lk:Addr)(us:List V)(_:H m=some (.dK kvs))(_:dY kvs (Sum.inr "owners")=some (.ref lo))(_:dY kvs (Sum.inr "parts")=some (.ref lp))(_:dY kvs (Sum.inr "known")=some (.ref lk))(_:aI K H lo (st.own.map V.str))(_:aI K H lp us)(_:vh K H us st.aj)(_:aI K H lk (st.nms.map V.str))
theorem yg{st:HS}{i:Nat}{p:Pt}(h:st.aj[i]?=some p):(aV st)[i]?=some (p.nm,p.ow,p.wo,p.we):=by unfold aV;rw[cK,h];rfl
theorem bV.rows{K:Fg}{n:Nat}{ρ:cu}{B:LA}{H:Hp}{st:HS}(h:bV n ρ B H (d_ st)):vh K H (B.qs.map V.ref) st.aj:=by refine⟨by rw[aG,h.ql];show(aV st).length=_;unfold aV;rw[aG],λi p e=>?_⟩;obtain⟨a,ea,k1,_⟩:=h.find (yg e);exact⟨a,_,by rw[cK,ea];rfl,.inl (aI.of k1),Z,Z,Z,Z⟩
theorem bV.q{K:Fg}{n:Nat}{ρ:cu}{B:LA}{H:Hp}{st:HS}(h:bV n ρ B H (d_ st)):QAt K H B.m st:=⟨_,B.lo,B.lp,B.lk,_,h.om,Z,Z,Z,aI.of h.oo,aI.of h.op,h.rows,aI.of h.ok⟩
def mR(st:HS):List Row:=st.aj.map λp=>(p.nm,p.wo)
theorem vh.nw{K:Fg}{H:Hp}{us:List V}{st:HS}(h:vh K H us st.aj):QL K H us (mR st):=by refine⟨by unfold mR;rw[aG];exact h.len,λi r e=>?_⟩;unfold mR at e;rw[cK]at e;obtain⟨p,ep,rfl⟩:=nI.mp e;obtain⟨a,xs,e1,e2,e3,_,e5,_⟩:=h.at_ i p ep;exact⟨a,xs,e1,e2,e3,e5⟩
structure Nx(nms:List Str)(st:HS):Prop where
 t:st.nms=nms.take st.nms.length
 nd:nms.Nodup
 ok:∀x∈nms,isNm x=true
theorem Nx.next{nms:List Str}{st:HS}(h:Nx nms st){x:Str}(e:nms[st.nms.length]?=some x):isNm x=true/\x∉st.nms/\∀st':HS,st'.nms=st.nms++[x]->Nx nms st':=by
 refine⟨h.ok x (cC e),?_,λst' e'=>⟨?_,h.nd,h.ok⟩⟩
 .rw [h.t];exact qW h.nd e
 .rw [e',c7,show st.nms.length+[x].length=st.nms.length+1 from rfl,take_snoc e,<-h.t]
theorem Nx.keep{nms:List Str}{st st':HS}(h:Nx nms st)(e:st'.nms=st.nms):Nx nms st':=⟨by rw[e];exact h.t,h.nd,h.ok⟩
theorem K5{st:HS}{d:Dd}(h:d.k≠1)(h':d.k≠8):(iD st d).nms=st.nms:=by
 cases d with
 | load=>exact absurd rfl h
 | sever=>exact absurd rfl h'
 | cast rs=>show(cV st rs).nms=_;unfold cV;rw[jP];show(aN st _ _ _).nms=_;unfold aN;rw[mJ]
 | award o a=>show(aN st _ _ _).nms=_;unfold aN;rw[mJ]
 | hand x o=>show(ff st x o).nms=_;unfold ff;split <;> rfl
 | _=>rfl
def Dd.pl:Dd->Bool
 | .sign _=>false | .load .. =>false | .sever .. =>false|_=>true
theorem Dd.Vg{d:Dd}(h:d.pl=true):d.k≠1/\d.k≠8/\d.k≠0:=by cases d <;> first|(exact Bool.noConfusion h)|(refine⟨?_,?_,?_⟩ <;> simp[Dd.k])
theorem DP{st:HS}(wf:Wf st){rs:List Row}(h:KD (mR st) rs)(hne:rs≠[]):jR st rs=none:=by
 have hl:aQ rs<aE st:=by
  rcases h.lost with z|z
  .have e:aQ (mR st)=aE st:=by unfold aQ mR aE;rw[gr];rfl
   rw[<-e];exact z
  .exact absurd z hne
 have hr:∀r∈rs,iX st r=none:=λr hr=>by obtain⟨r1,_,w,hw,e,le⟩:=h.row r hr;obtain⟨p,hp,rfl⟩:=aZ.mp hw;have e:p.nm=r.1:=e;have le:r.2<=p.wo:=le;unfold iX;rw[aC (show r.1∈d9 st from aZ.mpr ⟨p,hp,e⟩),aB (by omega),bN wf hp e,aB (by omega)]
 unfold jR;rw[aC ⟨hne,h.nd⟩,List.findSome?_eq_none_iff.mpr hr];exact aB (by omega)
theorem Nx.pl{nms:List Str}{st:HS}(h:Nx nms st)(wf:Wf st):st.aj.length<=nms.length:=by
 have a:=u9 (l:=st.aj.map (·.nm)) (m:=nms) wf.dM (λx hx=>by obtain⟨p,hp,rfl⟩:=aZ.mp hx;have:=wf.sub p hp;rw[h.t]at this;exact List.mem_of_mem_take this)
 rwa [aG]at a
inductive adl(K:Fg)(vs:List V)(H:Hp)(Q:VK)(E:XK):Prop
 |mk(l:Addr)(us:List V)(rs:List Row)(_:vs=[.ref l])(_:aI K H l us)(_:dH H us rs)(_:rs.length<=1000)(_:∀z H',aR H H'->H' z=some (.tup (Dd.v (.cast rs)))->Q (.ref z) H')
def K6(K:Fg):Sp:=bx (adl K)
inductive Bo(nms:List Str)(st:HS)(d:Dd):Prop
 |mk(_:jr st d=none)(_:KI d)(_:Nx nms (iD st d))(_:d.k≠0)
inductive adm(K:Fg)(vs:List V)(H:Hp)(Q:VK)(E:XK):Prop
 |mk(a m ln:Addr)(ns:List Int)(k:Int)(nms:List Str)(c:Nat)(st:HS)(_:vs=[.ref a,.int k,.ref m,.ref ln])(_:aI K H a (ns.map V.int))(_:ns.length<=63)(_:0<=k)(_:k<=1000000)(_:QAt K H m st)(_:aI K H ln (nms.map V.str))(_:Nx nms st)(_:nms.length<=50)(_:Wf st)(_:Go c st)(_:c<=90)(_:∀z d H',aR H H'->H' z=some (.tup (Dd.v d))->Bo nms st d->Q (.ref z) H')
def SN(K:Fg):Sp:=bx (adm K)
inductive SQ(K:Fg)(vs:List V)(H:Hp)(Q:VK)(E:XK):Prop
 |mk(a m ln:Addr)(ns:List Int)(k way:Int)(nms:List Str)(c:Nat)(st:HS)(_:vs=[.ref a,.int k,.ref m,.ref ln,.int way])(_:aI K H a (ns.map V.int))(_:ns.length<=63)(_:0<=k)(_:k<=1000000)(_:QAt K H m st)(_:aI K H ln (nms.map V.str))(_:Nx nms st)(_:nms.length<=50)(_:Wf st)(_:Go c st)(_:c<=90)(_:0<st.aj.length)(_:∀z d H',aR H H'->H' z=some (.tup (Dd.v d))->Bo nms st d->Q (.ref z) H')
def DQ(K:Fg):Sp:=bx (SQ K)
def ku(ps:List Q4)(qs:List Addr):List Addr:=((List.zip ps qs).filter λx=>decide (0<x.1.2.2.1)).map λx=>x.2
theorem MV{ps:List Q4}{qs:List Addr}{i:Nat}{p:Q4}{a:Addr}(h1:ps[i]?=some p)(h2:qs[i]?=some a):ku (ps.take (i+1)) (qs.take (i+1))=ku (ps.take i) (qs.take i)++if 0<p.2.2.1 then[a] else[] :=by
 have l1:=(ee.mp h1).1;have l2:=(ee.mp h2).1;unfold ku;rw[take_snoc h1,take_snoc h2,List.zip_append (by rw[nK,nK];omega),List.filter_append,bX];congr 1;show List.map _ (List.filter _ [(p,a)])=_;by_cases c:0<p.2.2.1
 .simp [c]
 .simp [c]
theorem DR:∀{ps:List Q4}{qs:List Addr},qs.length=ps.length->(ku ps qs).length=(ps.filter λp=>decide (0<p.2.2.1)).length
 | [],[],_=>rfl
 | p::ps,a::qs,h=>by
  have ih:=DR (ps:=ps) (qs:=qs) (by simpa using h);unfold ku at ih ⊢;rw[Jx,gC,gC];by_cases c:0<p.2.2.1
  .rw [aC (bq c),aC (bq c),bz,kg,kg,ih]
  .rw [aB (by simpa using c),aB (by simpa using c),ih]
 | [],_::_,h=>by simp at h
 | _::_,[],h=>by simp at h
theorem AF:∀{ps:List Q4}{qs:List Addr}{i:Nat}{q:Q4}{a:Addr},qs.length=ps.length->(ps.filter λp=>decide (0<p.2.2.1))[i]?=some q->(ku ps qs)[i]?=some a->∃j:Nat,ps[j]?=some q/\qs[j]?=some a
 | [],[],_,_,_,_,h,_=>by simp at h
 | p::ps,b::qs,i,q,a,hl,h1,h2=>by
  unfold ku at h2;rw[Jx,gC]at h2;rw[gC]at h1;by_cases c:0<p.2.2.1
  .rw [aC (bq c)]at h1 h2;rw[bz]at h2;cases i with
   | zero=>exact⟨0,by simpa using h1,by simpa using h2⟩
   | succ i=>obtain⟨j,a1,a2⟩:=AF (ps:=ps) (qs:=qs) (i:=i) (by simpa using hl) (by simpa using h1) (by simpa[ku]using h2);exact⟨j+1,by simpa using a1,by simpa using a2⟩
  .rw [aB (by simpa using c)]at h1 h2;obtain⟨j,a1,a2⟩:=AF (ps:=ps) (qs:=qs) (i:=i) (by simpa using hl) h1 h2;exact⟨j+1,by simpa using a1,by simpa using a2⟩
 | [],_::_,_,_,_,h,_,_=>by simp at h
 | _::_,[],_,_,_,h,_,_=>by simp at h
theorem yX:∀{ps:List Q4}{qs:List Addr},(ku ps qs).Sublist qs
 | [],_=>List.nil_sublist _
 | _::_,[]=>List.Sublist.refl _
 | p::ps,a::qs=>by
  unfold ku;rw[Jx,gC];by_cases c:0<p.2.2.1
  .rw [aC (bq c),bz];exact List.Sublist.cons_cons _ yX
  .rw [aB (by simpa using c)];exact List.Sublist.cons _ yX
def QU(l:LS):LS:={ l with aj:=l.aj.filter λq=>decide (0<q.2.2.1) }
def mS(rs:List Row)(qs:List Q4):List Q4:=qs.map λq=>(q.1,q.2.1,q.2.2.1-gR rs q.1,q.2.2.2)
def Vh(l:LS)(i:Nat)(p:Pt):Dd->LS
 | .mishap _ a=>{ l with aj:=l.aj.set i (p.nm,p.ow,p.wo-a,p.we) }
 | .rise _ a=>{ l with aj:=l.aj.set i (p.nm,p.ow,p.wo+a,p.we) }
 | .hand _ o=>{ l with aj:=l.aj.set i (p.nm,o,p.wo,p.we) }
 | .land _=>{ l with aj:=l.aj.set i (p.nm,p.ow,0,p.we) }
 | .sever _ y a we=>{ l with aj:=l.aj.set i (p.nm,p.ow,p.wo-a,p.we-we)++[(y,p.ow,a,we)],DO:=l.DO++[y] }
 | _=>l
def Dd.part:Dd->Option Str
 | .mishap x _=>some x
 | .rise x _=>some x
 | .hand x _=>some x
 | .land x=>some x
 | .sever x _ _ _=>some x
 | _=>none
theorem uR:∀{l:List Q4}{i:Nat}{q:Q4},(∀x∈l,0<x.2.2.1)->i<l.length->(l.set i q).filter (λq=>decide (0<q.2.2.1))=if 0<q.2.2.1 then l.set i q else l.eraseIdx i
 | [],_,_,_,h=>by simp at h
 | x::l,0,q,hp,_=>by
  rw[PY,gC,ED.mpr (λy hy=>bq (hp y (b7 _ hy)))];by_cases c:0<q.2.2.1
  .rw [aC c,aC (bq c)]
  .rw [aB c,aB (by simpa using c)];rfl
 | x::l,i+1,q,hp,h=>by
  rw[Jw,gC,aC (bq (hp x cN)),uR (λy hy=>hp y (b7 _ hy)) (by simpa using h)];by_cases c:0<q.2.2.1
  .rw [aC c,aC c]
  .rw [aB c,aB c];rfl
theorem Hi{α β:Type}(f:α->β):∀(l:List α)(i:Nat),(l.eraseIdx i).map f=(l.map f).eraseIdx i
 | [],_=>rfl
 | _::_,0=>rfl
 | x::l,i+1=>by show f x::(l.eraseIdx i).map f=f x::(l.map f).eraseIdx i;rw[Hi f l i]
theorem yY(st:HS)(i:Nat)(p:Pt):aV { st with aj:=st.aj.set i p }=(aV st).set i (p.nm,p.ow,p.wo,p.we):=uD
theorem DS(st:HS)(i:Nat):aV { st with aj:=st.aj.eraseIdx i }=(aV st).eraseIdx i:=Hi _ _ _
theorem LS.ext'{a b:LS}(h1:a.own=b.own)(h2:a.aj=b.aj)(h3:a.DO=b.DO):a=b:=by cases a;cases b;cases h1;cases h2;cases h3;rfl
theorem vt{st:HS}(wf:Wf st):∀x∈aV st,0<x.2.2.1:=λx hx=>by obtain⟨p,hp,rfl⟩:=aZ.mp hx;exact(wf.jK p hp).1
theorem Vi{st:HS}(wf:Wf st){d:Dd}{i:Nat}{p:Pt}(hr:jr st d=none)(ep:st.aj[i]?=some p)(hd:d.part=some p.nm):QU (Vh (d_ st) i p d)=d_ (iD st d):=by
 have hp:=cC ep;have hi:i<(aV st).length:=by unfold aV;rw[aG];exact(ee.mp ep).1
 have hP:=vt wf;have eg:bJ st p.nm=p:=bN wf hp rfl;have w1:=(wf.jK p hp).1;cases d with
 | mishap x a=>
  have e:x=p.nm:=fm hd;subst e;refine LS.ext' rfl ?_ rfl;show((aV st).set i _).filter _=aV { st with aj:=jN st.aj p.nm a };obtain⟨_,h1,h2⟩:=j0 (show iX st (p.nm,a)=none from hr);rw[show(bJ st (p.nm,a).1).wo=p.wo by rw[eg]]at h2;have h1:1<=a:=h1;have h2:a<=p.wo:=h2;rw[uR hP hi,Cc wf.dM (λq hq=>by have:=(wf.jK q hq).1;omega) ep];show(if 0<p.wo-a then _ else _)=_;by_cases c:p.wo-a=0
  .rw [aB (by omega),aC c,DS]
  .rw [aC (by omega),aB c,yY]
 | rise x a=>have e:x=p.nm:=fm hd;subst e;have h1:=(AE (show kW st p.nm a=none from hr)).2;refine LS.ext' rfl ?_ rfl;show((aV st).set i _).filter _=aV (ko st p.nm _);rw[uR hP hi,rA wf.dM ep,yY];exact aC (by show 0<p.wo+a;omega)
 | hand x o=>
  have e:x=p.nm:=fm hd;subst e;have e1:(ff st p.nm o).own=st.own:=by unfold ff;split <;> rfl
  have e2:(ff st p.nm o).nms=st.nms:=by unfold ff;split <;> rfl
  refine LS.ext' e1.symm ?_ e2.symm;show((aV st).set i _).filter _=aV (ff st p.nm o);rw[uR hP hi];refine(aC (by show 0<p.wo;omega)).trans ?_;unfold ff;rw[eg];split
  .next c=>
   have ho:=(w_ (show jx st p.nm o=none from hr)).2;have e3:o=p.ow:=by have a1:=As ho;have a2:=As (wf.ow p hp);rw[c,a2]at a1;exact(fm a1).symm
   rw[e3];exact sW (yg ep)
  .rw [rA wf.dM ep,yY]
 | land x=>have e:x=p.nm:=fm hd;subst e;refine LS.ext' rfl ?_ rfl;show((aV st).set i _).filter _=aV (rZ st p.nm);rw[uR hP hi,oS wf hp,vq wf.dM ep];exact(aB (by show ¬ (0:Int)<0;omega)).trans (DS st i).symm
 | sever x y a we=>
  have e:x=p.nm:=fm hd;subst e;obtain⟨_,_,h1,_,h3,_⟩:=kX (show iN st p.nm y a we=none from hr);rw[eg]at h3;refine LS.ext' rfl ?_ rfl;show((aV st).set i _++[_]).filter _=aV (lz st p.nm y a we);unfold lz;rw[eg,rA wf.dM ep,List.filter_append,uR hP hi];show(if 0<p.wo-a then _ else _)++_=List.map _ (st.aj.set i _++[_]);rw[aC (by omega),bX];congr 1
  .exact (yY st i { p with wo:=p.wo-a,we:=p.we-we }).symm
  .show List.filter _ [((y,p.ow,a,we):Q4)]=[(y,p.ow,a,we)]
   rw[gC,aC (bq (show 0<a by omega))];rfl
 | _=>exact absurd hd (by simp[Dd.part])
def agA(st:HS):Dd->LS
 | .load x o wo we=>{ d_ st with aj:=aV st++[(x,o,wo,we)],DO:=st.nms++[x] }
 | .cast rs=>{ d_ st with aj:=mS rs (aV st) }
 | _=>d_ st
theorem yZ{st:HS}(wf:Wf st){d:Dd}(hr:jr st d=none)(hd:d.part=none)(hs:d.k≠0):QU (agA st d)=d_ (iD st d):=by
 have hP:=vt wf;have all:(aV st).filter (λq=>decide (0<q.2.2.1))=aV st:=ED.mpr λx hx=>bq (hP x hx);cases d with
 | load x o wo we=>
  obtain⟨_,_,_,h4,_⟩:=sX hr;refine LS.ext' rfl ?_ rfl;show(aV st++[(x,o,wo,we)]).filter _=List.map _ (st.aj++[_]);rw[List.filter_append,all,bX];congr 1;show List.filter _ [((x,o,wo,we):Q4)]=[(x,o,wo,we)]
  rw[gC,aC (bq (show 0<wo by omega))];rfl
 | cast rs=>obtain⟨h1,h2,h3,h4⟩:=s_ hr;refine LS.ext' (q_ st rs).symm ?_ (K5 (d:=.cast rs) (by simp[Dd.k]) (by simp[Dd.k])).symm;show p8 rs (aV st)=aV (cV st rs);unfold cV;rw[p_,kU];refine(GS rs (aV st) h2 (λq hq=>hP q hq) (λx hx q hq e=>?_)).symm;obtain⟨p,hp,rfl⟩:=aZ.mp hq;have:=(j0 (h3 x hx)).2.2;rw[bN wf hp e]at this;exact this
 | award o a=>
  refine LS.ext' ?_ ?_ ?_
  .show st.own=(aN st _ _ _).own;unfold aN;rw[kN]
  .show List.filter _ (aV st)=aV (aN st _ _ _);rw[kU,all]
  .show st.nms=(aN st _ _ _).nms;unfold aN;rw[mJ]
 | still=>exact LS.ext' rfl all rfl
 | sign o=>exact absurd rfl hs
 | _=>exact absurd hd (by simp[Dd.part])
inductive adn(K:Fg)(vs:List V)(H:Hp)(Q:VK)(E:XK):Prop
 |mk(l:Addr)(own:List Str)(n:Nat)(ρ:cu)(_:vs=[.ref l])(_:aI K H l (own.map V.str))(_:Gh ρ H)(_:own.length<=1000)(_:∀ρ' B H',Gh ρ' H'->bV n ρ' B H' ⟨own,[],[]⟩->(∀b o,H b=some o->H' b=some o/\ρ' b=ρ b)->Q (.ref B.m) H')
def SR(K:Fg):Sp:=bx (adn K)
inductive Vj(K:Fg)(vs:List V)(H:Hp)(Q:VK)(E:XK):Prop
 |mk(n:Nat)(ρ:cu)(B:LA)(st:HS)(i:Nat)(p:Pt)(a z:Addr)(d:Dd)(_:vs=[.ref B.m,.ref a,.ref z])(_:H z=some (.tup d.v))(_:Gh ρ H)(_:bV n ρ B H (d_ st))(_:st.aj[i]?=some p)(_:B.qs[i]?=some a)(_:d.part=some p.nm)(_:st.aj.length<1000)(_:st.nms.length<1000)(_:∀ρ' B' H',Gh ρ' H'->bV n ρ' B' H' (Vh (d_ st:_) i p d)->B'.m=B.m->Fr n ρ H ρ' H'->Q .cT H')
def Hj(K:Fg):Sp:=bx (Vj K)
inductive Yu(K:Fg)(vs:List V)(H:Hp)(Q:VK)(E:XK):Prop
 |mk(n c:Nat)(ρ:cu)(B:LA)(st:HS)(z:Addr)(d:Dd)(_:vs=[.ref B.m,.ref z])(_:H z=some (.tup d.v))(_:Gh ρ H)(_:bV n ρ B H (d_ st))(_:Wf st)(_:Go c st)(_:c<=90)(_:jr st d=none)(_:d.k≠0)(_:∀ρ' B' H',Gh ρ' H'->bV n ρ' B' H' (d_ (iD st d))->B'.m=B.m->Fr n ρ H ρ' H'->Q .cT H')
def Cm(K:Fg):Sp:=bx (Yu K)
inductive Yv(T:TC)(K:Fg)(vs:List V)(H:Hp)(Q:VK)(E:XK):Prop
 |mk(n c:Nat)(ρ:cu)(A:HA)(st:HS)(z:Addr)(d:Dd)(_:vs=[.ref A.a,.ref z])(_:dz K H z d.v)(_:HH T n ρ A H st)(_:Go c st)(_:c<=90)(_:st.kn+100<=1000000)(_:st.own.length<100)(_:jr st d=none)(_:wR T n ρ A H (iD st d:_) λH'=>Q .cT H')
def Co(T:TC)(K:Fg):Sp:=bx (Yv T K)
theorem Vk(B:LA)(l:Addr):putK (jU B) (Sum.inr "parts") (.ref l)=jU { B with lp:=l }:=rfl
theorem OW:∀{rs:List Row}{i:Nat}{r:Row},rs[i]?=some r->(jQ rs)[2*i]?=some (.str r.1)/\(jQ rs)[2*i+1]?=some (.int r.2)
 | [],_,_,h=>by simp at h
 | x::rs,0,r,h=>by
  have e:x=r:=by simpa using h
  subst e;exact⟨Z,Z⟩
 | x::rs,i+1,r,h=>by obtain⟨a,b⟩:=OW (rs:=rs) (i:=i) (by simpa using h);rw[show 2*(i+1)=2*i+1+1 by omega];exact⟨a,b⟩
theorem OX{rs:List Row}{i:Nat}{r:Row}(h:rs[i]?=some r):(Dd.v (.cast rs))[1+2*i]?=some (.str r.1)/\(Dd.v (.cast rs))[2+2*i]?=some (.int r.2):=by obtain⟨a,b⟩:=OW h;rw[show 1+2*i=2*i+1 by omega,show 2+2*i=2*i+1+1 by omega];exact⟨a,b⟩
theorem y9(rs:List Row):(Dd.v (.cast rs)).length=2*rs.length+1:=by show(jQ rs).length+1=_;rw[Ay]
theorem SS(m:Nat):qS 1 ((2*m+1:Nat):Int) 2=m:=by unfold qS Builtin.Range.rangeSize;rw[aC (by decide)];split <;> omega
theorem SV{qs:List Q4}(nd:(qs.map λq:Q4=>q.1).Nodup){rs:List Row}{r:Row}{j:Nat}{q:Q4}(hq:qs[j]?=some q)(e:q.1=r.1)(h:r.1∉rs.map (λr:Row=>r.1)):mS (rs++[r]) qs=(mS rs qs).set j (q.1,q.2.1,q.2.2.1-r.2,q.2.2.2)/\(mS rs qs)[j]?=some q:=by
 have hj:=(ee.mp hq).1;constructor
 .refine List.ext_getElem? λk=>?_;by_cases c:j=k
  .subst c;rw[qO (by unfold mS;rw[aG];exact hj)];unfold mS;rw[cK,hq];show some (q.1,q.2.1,q.2.2.1-gR (rs++[r]) q.1,q.2.2.2)=_;rw[yP h,aC e.symm]
  .rw [zS c];unfold mS;rw[cK,cK];cases ek:qs[k]? with
   | none=>rfl
   | some x=>
    show some (x.1,x.2.1,x.2.2.1-gR (rs++[r]) x.1,x.2.2.2)=some (x.1,x.2.1,x.2.2.1-gR rs x.1,x.2.2.2);rw[yP h,aB];intro z;have r1:(qs.map λq:Q4=>q.1)[k]?=some x.1:=by rw[cK,ek];rfl
    have r2:(qs.map λq:Q4=>q.1)[j]?=some q.1:=by rw[cK,hq];rfl
    exact c ((Qd (by rw[aG];exact hj) nd).mp (r2.trans (by rw[e,z];exact r1.symm)))
 .unfold mS;rw[cK,hq];show some (q.1,q.2.1,q.2.2.1-gR rs q.1,q.2.2.2)=some q;rw[e,yO h,AZ,<-e]
theorem Vl(qs:List Q4):mS [] qs=qs:=by unfold mS;rw[show(λq:Q4=>(q.1,q.2.1,q.2.2.1-gR [] q.1,q.2.2.2))=id from funext λq=>by rw[Au,AZ];rfl,List.map_id]
theorem K7(rs:List Row)(qs:List Q4):(mS rs qs).length=qs.length:=by unfold mS;rw[aG]
theorem QV(rs:List Row)(qs:List Q4):(mS rs qs).map (λq:Q4=>q.1)=qs.map λq:Q4=>q.1:=by unfold mS;rw[gr];rfl
theorem y_(st:HS):(aV st).map (λq:Q4=>q.1)=d9 st:=by unfold aV d9;rw[gr];rfl
def yh(qs:List Q4):List Row:=qs.map λq=>(q.1,q.2.2.1)
theorem Hl(qs:List Q4):(yh qs).map (λr:Row=>r.1)=qs.map λq:Q4=>q.1:=by unfold yh;rw[gr];rfl
theorem bV.nw{K:Fg}{n:Nat}{ρ:cu}{B:LA}{H:Hp}{l:LS}(h:bV n ρ B H l):QL K H (B.qs.map V.ref) (yh l.aj):=by refine⟨by unfold yh;rw[aG,aG];exact h.ql,λi r e=>?_⟩;unfold yh at e;rw[cK]at e;obtain⟨q,eq,rfl⟩:=nI.mp e;obtain⟨a,ea,k1,_⟩:=h.find eq;exact⟨a,_,by rw[cK,ea];rfl,.inl (aI.of k1),Z,Z⟩
theorem Dd.aaB{d:Dd}{x:Str}(h:d.part=some x):d.v[1]?=some (.str x)/\d.k≠1/\d.k≠2/\d.k≠3/\d.k≠9:=by cases d <;> first|(cases h;refine⟨rfl,?_,?_,?_,?_⟩ <;> simp[Dd.k])|(cases h)
theorem Yw{st:HS}{d:Dd}{x:Str}(h:d.part=some x)(hr:jr st d=none):x∈d9 st:=by
 cases d with
 | mishap y a=>cases h;exact(j0 (show iX st (x,a)=none from hr)).1
 | rise y a=>cases h;exact(AE (show kW st x a=none from hr)).1
 | hand y o=>cases h;exact(w_ (show jx st x o=none from hr)).1
 | land y=>cases h;exact pF hr
 | sever y z a we=>cases h;exact(kX (show iN st x z a we=none from hr)).1
 | _=>cases h
theorem Vm(l:LS)(i:Nat)(p:Pt)(d:Dd):(Vh l i p d).aj.length<=l.aj.length+1:=by cases d <;> first|(show(List.set _ _ _).length<=_;rw[iA];omega)|(show(List.set _ _ _++[_]).length<=_;rw[c7,iA];exact aO _)|exact A0 _
def cL(st:HS)(ds:List Dd):HS:=ds.foldl iD st
inductive nN(H:Hp):List V->List Dd->Prop
 | nil:nN H [] []
 | cons {a:Addr} {d:Dd} {vs:List V} {ds:List Dd}:H a=some (.tup d.v)->nN H vs ds->nN H (.ref a::vs) (d::ds)
theorem nN.mono{H H':Hp}{vs:List V}{l:List Dd}(h:nN H vs l)(g:∀b xs,H b=some (.tup xs)->H' b=some (.tup xs)):nN H' vs l:=by
 induction h with
 | nil=>exact .nil
 | cons a _ ih=>exact .cons (g _ _ a) ih
theorem nN.length{H:Hp}{vs:List V}{l:List Dd}(h:nN H vs l):vs.length=l.length:=by
 induction h with
 | nil=>rfl
 | cons _ _ ih=>simp[ih]
theorem nN.get{H:Hp}{vs:List V}{l:List Dd}(h:nN H vs l):∀{i:Nat}{x:V},vs[i]?=some x->∃a d,x =.ref a/\l[i]?=some d/\H a=some (.tup d.v):=by
 induction h with
 | nil=>intro i x e;simp at e
 | @cons a r vs rs e0 _ ih=>
  intro i x e;cases i with
  | zero=>simp at e;subst e;exact⟨a,r,Z,Z,e0⟩
  | succ i=>simp at e;obtain⟨a',r',e1,e2,e3⟩:=ih e;exact⟨a',r',e1,by simpa using e2,e3⟩
theorem nN.snoc{H:Hp}{vs:List V}{l:List Dd}{a:Addr}{d:Dd}(h:nN H vs l)(e:H a=some (.tup d.v)):nN H (vs++[.ref a]) (l++[d]):=by
 induction h with
 | nil=>exact .cons e .nil
 | cons a _ ih=>exact .cons a ih
def mT(st:HS)(ds:List Dd):Prop:=∀(i:Nat)(d:Dd),ds[i]?=some d->jr (cL st (ds.take i)) d=none/\KI d/\d.k≠0
theorem mT.nil(st:HS):mT st [] :=λi d h=>by simp at h
theorem mT.snoc{st:HS}{ds:List Dd}{d:Dd}(h:mT st ds)(h1:jr (cL st ds) d=none)(h2:KI d)(h3:d.k≠0):mT st (ds++[d]):=λi x e=>by
 rcases Nat.lt_or_ge i ds.length with c|c
 .rw [zP c]at e;rw[List.take_append_of_le_length (by omega)];exact h i x e
 .have hi:i=ds.length:=by have:=(ee.mp e).1;rw[c7]at this;have:i<ds.length+1:=this;omega
  subst hi;rw[CL (aO _),AY]at e;cases e;rw[List.take_left']
  .exact ⟨h1,h2,h3⟩
  .rfl
theorem iE(st:HS)(ds:List Dd)(d:Dd):cL st (ds++[d])=iD (cL st ds) d:=by unfold cL;rw[BR];rfl
theorem KI.g{d:Dd}(h:KI d):Ww d:=by
 cases d with
 | load x o wo we=>obtain⟨_,_,⟨_,h1⟩,⟨_,h2⟩⟩:=h;exact⟨by omega,h2⟩
 | rise x a=>obtain⟨_,⟨_,h1⟩⟩:=h;show a<=_;omega
 | _=>exact True.intro
theorem K8{st:HS}{d:Dd}(h:d.k≠0):(iD st d).own=st.own:=by
 cases d with
 | sign o=>exact absurd rfl h
 | cast rs=>exact q_ st rs
 | award o a=>show(aN st _ _ _).own=_;unfold aN;rw[kN]
 | hand x o=>show(ff st x o).own=_;unfold ff;split <;> rfl
 | _=>rfl
structure GW(c m:Nat)(st:HS):Prop where
 g:Go c st
 wf:Wf st
 kn:st.kn<=m
theorem GW.do{c m:Nat}{st:HS}(h:GW c m st)(hc:c<=90)(hm:m+100<=1000000)(ho:st.own.length<100){d:Dd}(hr:jr st d=none)(hb:Ww d):GW (c+1) (m+100) (iD st d):=⟨adi h.g h.wf hc hr hb,adj h.g h.wf hc (by have:=h.kn;omega) ho hr,by have:=h.kn;have:=adk st d;omega⟩
theorem mT.go{c m:Nat}{st:HS}{ds:List Dd}(h:mT st ds)(g:GW c m st)(hc:c+ds.length<=91)(hm:m+100*ds.length<=1000000)(ho:st.own.length<100):∀i≤ds.length,GW (c+i) (m+100*i) (cL st (ds.take i))/\(cL st (ds.take i)).own=st.own:=by
 intro i
 induction i with
 | zero=>intro _;exact⟨g,Z⟩
 | succ i ih=>intro hi;obtain⟨g1,e1⟩:=ih (by omega);have ei:=bK (show i<ds.length by omega);obtain⟨h1,h2,h3⟩:=h i _ ei;rw[take_snoc ei,iE];have:=g1.do (by omega) (by omega) (by rw[e1];exact ho) h1 h2.g;exact⟨by rw[show c+(i+1)=c+i+1 by omega,show m+100*(i+1)=m+100*i+100 by omega];exact this,by rw[K8 h3,e1]⟩
inductive aaC(K:Fg)(vs:List V)(H:Hp)(Q:VK)(E:XK):Prop
 |mk(n c m:Nat)(ρ:cu)(B:LA)(st:HS)(a ln:Addr)(ns:List Int)(k:Int)(nms:List Str)(many:Nat)(_:vs=[.ref a,.int k,.ref B.m,.ref ln,.int (many:Int)])(_:Gh ρ H)(_:bV n ρ B H (d_ st))(_:GW c m st)(_:c+many<=91)(_:m+100*many<=1000000)(_:st.own.length<100)(_:yd K ρ H a (ns.map V.int))(_:ns.length<=63)(_:0<=k)(_:k<=100000)(_:yd K ρ H ln (nms.map V.str))(_:Nx nms st)(_:nms.length<=50)(_:∀l zs ds ρ' B' H',Gh ρ' H'->bV n ρ' B' H' (d_ (cL st ds))->B'.m=B.m->Fr n ρ H ρ' H'->H' l=some (.lst zs)->ρ' l=none->nN H' zs ds->mT st ds->ds.length=many->Nx nms (cL st ds)->Q (.ref l) H')
def OY(K:Fg):Sp:=bx (aaC K)
def sN(sp:Sp):Sp:=λvs H Q _=>sp vs H Q E0
theorem SW{st:HS}{o:Str}(h:rY st o=none):isNm o=true/\o∉st.own:=by
 unfold rY at h;split at h
 .split at h
  .cases h
  .exact ⟨by assumption,by assumption⟩
 .cases h
def iP(own:List Str):HS:=own.foldl g_ hs0
theorem Ho:∀(l:List Str)(st:HS),Wf st->(st.own++l).Nodup->st.own.length+l.length<=100->Wf (l.foldl g_ st)
 | [],_,w,_,_=>w
 | o::l,st,w,nd,hl=>by
  rw[j7];rw[kg]at hl;have h1:o∉st.own:=λm=>(JB.mp nd).2.2 o m o cN rfl;refine Ho l (g_ st o) (EU w h1 (by omega)) ?_ ?_
  .show ((st.own++[o])++l).Nodup;rw[Jz];exact nd
  .show (st.own++[o]).length+l.length<=100;rw[c7];show st.own.length+1+l.length<=100;omega
theorem gw0{own:List Str}(nd:own.Nodup)(h0:0<own.length)(h1:own.length<=100)(hon:∀o∈own,isNm o=true):GW 0 0 (iP own):=by
 obtain⟨k1,k2,k3,k4,k5,k6⟩:=nc own hs0 rfl (λu hu=>absurd hu (by simp[hs0]));have eo:(iP own).own=own:=by unfold iP;rw[wV];rfl
 have k1:(iP own).aj=[] :=k1;have k2:(iP own).nms=[] :=k2;have k3:(iP own).stp=[] :=k3;have k4:(iP own).prod=1:=k4;have k5:(iP own).bO=[] :=k5;have k6:∀u∈(iP own).bH,u=0:=k6;refine⟨⟨λu hu=>?_,by rw[k3];exact aO _,?_,λp hp=>?_,λp hp=>?_,by rw[k1];exact aO _,by rw[k2];exact aO _,by rw[eo];exact h0,λx hx=>?_,by rw[eo];exact hon,λp hp=>?_,by rw[k5];exact aO _,λa ha=>?_⟩,Ho own hs0 wf0 nd (by show 0+_<=_;omega),?_⟩
 .rw [k6 u hu];exact pT (by decide +kernel)
 .rw [k4];exact pT (by decide +kernel)
 .rw [k1]at hp;cases hp
 .rw [k1]at hp;cases hp
 .rw [k2]at hx;cases hx
 .rw [k1]at hp;cases hp
 .rw [k5]at ha;cases ha
 .rw [show(iP own).kn=0 from KH own hs0];exact aO _
theorem E3(own:List Str):(iP own).own=own:=by unfold iP;rw[wV];rfl
theorem Vn(own:List Str):d_ (iP own)=⟨own,[],[]⟩:=by obtain⟨k1,k2,_⟩:=nc own hs0 rfl (λu hu=>absurd hu (by simp[hs0]));have k1:(iP own).aj=[] :=k1;exact LS.ext' (E3 own) (by show List.map _ (iP own).aj=[];rw[k1];rfl) k2
theorem aaD{own nms:List Str}(nd:nms.Nodup)(h:∀x∈nms,isNm x=true):Nx nms (iP own):=by obtain⟨_,k2,_⟩:=nc own hs0 rfl (λu hu=>absurd hu (by simp[hs0]));have k2:(iP own).nms=[] :=k2;exact⟨by rw[k2];rfl,nd,h⟩
def E4(st:HS)(o:Str):Int:=((st.bO.filter λa=>decide (a.ow=o)).map λa=>a.wo).sum
def tE(st:HS)(o:Str):Rat:=Jm.fr (st.bH.getD (st.own.idxOf o) 0) st.prod
structure agB(st:HS):Prop where
 wf:Wf st
 wo:∀p∈st.aj,Jm.Sz 60 p.wo
 wh:Jm.Sz 60 (aE st)
 la:∀o,Jm.Sz 60 (E4 st o)
inductive aaE(T:TC)(vs:List V)(H:Hp)(Q:VK)(E:XK):Prop
 |mk(n ρ A st o:_)(_:vs=[.ref A.a,.str o])(_:aL T n ρ A H st)(_:Wf st)(_:o∈st.own)(_:∀r H',aR H H'->H' r=some (tO (tE st o))->Q (.ref r) H')
def OZ(T:TC):Sp:=bx (aaE T)
theorem getD_at{l:List Int}{i:Nat}(h:i<l.length):sO (l.map V.int) (i:Int)=some (.int (l.getD i 0)):=aM (by rw[cK,kK,bK h];rfl)
section
variable {X:Cx}
end
structure Mo(c:Nat)(st:HS):Prop where
 pz:st.bH.sum=0
 ao:∀a∈st.bO,a.ow∈st.own
 aw:∀a∈st.bO,1<=a.wo/\a.wo<=1000000000000*((c:Int)+1)
theorem Mo.mono{c:Nat}{st:HS}(m:Mo c st):Mo (c+1) st:=⟨m.pz,m.ao,λa ha=>by have:=m.aw a ha;omega⟩
theorem K9{c:Nat}{st:HS}(m:Mo c st)(kept whole:Int)(added:List Int):Mo (c+1) (aN st kept whole added):=by
 unfold aN;refine⟨?_,?_,?_⟩
 .rw [Ao];show(st.bH.map λx=>x*_).sum=0;rw[BG (λx=>x),List.map_id',m.pz,pO]
 .rw [kO,kN];exact m.ao
 .rw [kO];exact m.mono.aw
theorem Vo{st:HS}(wf:Wf st){p:Pt}(hp:p∈st.aj)(hs:(aK st p).sum=st.prod):(lV st p).sum=st.bH.sum:=by
 have e:=xH (l:=gu st p) (i:=st.own.idxOf p.ow) (x:=-(p.wo*st.prod)) (by rw[sZ wf hp];exact uu (wf.ow p hp));have e2:(gu st p).sum=st.bH.sum+p.wo*st.prod:=by unfold gu;rw[Ck _ (by rw[xg wf hp,wf.mG]),hs]
 unfold lV;rw[Int.sub_eq_add_neg,e,e2];omega
theorem QW{c:Nat}{st:HS}(m:Mo c st)(g:Go c st)(wf:Wf st){d:Dd}(hr:jr st d=none):Mo (c+1) (iD st d):=by
 cases d with
 | sign o=>refine⟨?_,λa ha=>uS _ (m.ao a ha),m.mono.aw⟩;show(st.bH++[0]).sum=0;rw[Jf,m.pz];rfl
 | cast rs=>show Mo (c+1) (cV st rs);unfold cV;rw[jP];have:=K9 m (aE st-aQ rs) (aE st) (dW st rs);exact⟨this.pz,this.ao,this.aw⟩
 | award o a=>exact K9 m _ _ _
 | hand x o=>show Mo (c+1) (ff st x o);unfold ff;split <;> exact⟨m.pz,m.ao,m.mono.aw⟩
 | land x=>
  obtain⟨i,p,e1,rfl⟩:=jz (pF hr);have hp:=cC e1;show Mo (c+1) (rZ st p.nm);rw[oS wf hp];have S:∀{M:kL->Prop},(∀a∈st.bO,M a)->M ⟨p.nm,p.ow,p.wo,gQ st p⟩->∀a∈st.bO++[⟨p.nm,p.ow,p.wo,gQ st p⟩],M a:=λh1 h2 a ha=>by
   rcases fq.mp ha with z|z
   .exact h1 a z
   .rw [eO.mp z];exact h2
  have w:=g.wo p hp;exact⟨by show(lV st p).sum=0;rw[Vo wf hp (g.sum p hp),m.pz],S m.ao (wf.ow p hp),S m.mono.aw ⟨(wf.jK p hp).1,by show p.wo<=_;omega⟩⟩
 | _=>exact⟨m.pz,m.ao,m.mono.aw⟩
theorem zK:∀{l:List kL}{m:Int}(f:kL->Bool),(∀a∈l,1<=a.wo/\a.wo<=m)->0<=((l.filter f).map λa=>a.wo).sum/\((l.filter f).map λa=>a.wo).sum<=m*(l.length:Int)
 | [],m,_,_=>by show 0<=(0:Int)/\(0:Int)<=m*0;omega
 | a::l,m,f,h=>by
  have h0:=h a cN;have ih:=zK (l:=l) (m:=m) f λx hx=>h x (b7 _ hx);rw[gC,kg,show(((l.length+1:Nat)):Int)=(l.length:Int)+1 from by omega,wI,uE];by_cases c:f a=true
  .rw [aC c,bz,dg];omega
  .rw [aB c];omega
theorem Go.st{c:Nat}{st:HS}(g:Go c st)(m:Mo c st)(wf:Wf st)(hc:c<=91):agB st:=by
 refine⟨wf,g.sz wf hc,(g.whole wf hc).2,λo=>?_⟩;have h:=zK (m:=92000000000000) (λa:kL=>decide (a.ow=o)) λa ha=>by have:=m.aw a ha;omega
 have hl:=g.al;have h2:(92000000000000:Int)*(st.bO.length:Int)<=92000000000000*91:=by omega
 have h3:E4 st o<=92000000000000*91:=Int.le_trans h.2 h2;have h1:0<=E4 st o:=h.1;exact(show Jm.Sz 60 (92000000000000*91:Int)from pT (by decide +kernel)).of_le (by omega)
theorem mo0{own:List Str}:Mo 0 (iP own):=by
 obtain⟨_,_,_,_,k5,k6⟩:=nc own hs0 rfl (λu hu=>absurd hu (by simp[hs0]));have k5:(iP own).bO=[] :=k5;have k6:∀u∈(iP own).bH,u=0:=k6;refine⟨?_,(λa ha=>by rw[k5]at ha;cases ha),λa ha=>by rw[k5]at ha;cases ha⟩;generalize (iP own).bH=l at *
 induction l with
 | nil=>rfl
 | cons a l ih=>rw[dg,k6 a cN,ih λu hu=>k6 u (b7 _ hu)];rfl
theorem Yx(st:HS):(aV st).map (λq:Q4=>q.2.2.1)=st.aj.map λp=>p.wo:=by unfold aV;rw[gr];rfl
section
variable {prog:Program}{w:World}{A:Around}{R:Result->Shared->Prop}{s:Shared}
theorem HF{kx vx target iter:Expr}{scope:Scope}{pos:Pos}{it:Value}{D:Addr}{env:Env}(J:Nat->Shared->Prop)(turn:∀n s,J n s->wpAny (model prog w) A (pyNext it) (λr s₁=>match r with
    | none=>R (.ok .next) s₁
    | some v=>wpAny (model prog w) A (letOwnedTupleGo target it v) (λ_ s₂=>wpAny (model prog w) A (assign target env v) (λ_ s₃=>wpAny (model prog w) A (eval kx env) (λkv s₄=>wpAny (model prog w) A (eval vx env) (λvv s₅=>
            wpAny (model prog w) A (dictSet D kv vv) (λ_ s₆=>∃m,m<n/\J m s₆) (λ_ _=>False) s₅) (λ_ _=>False) s₄) (λ_ _=>False) s₃) (λ_ _=>False) s₂) (λ_ _=>False) s₁) (λ_ _=>False) s)(n:Nat)(h:J n s):codeAny (model prog w) A (.compLoop (.DictComp kx vx [⟨target,iter,[],0⟩] scope pos) 0 it (.ref D) env) R s:=by
 refine codeAny_loop rfl J (λn s hI=>?_) n h
 show wpAny _ A ((compTurn (.DictComp kx vx [⟨target,iter,[],0⟩] scope pos) 0 it (.ref D) env).onRaise (λx=>do noteFrame x env;theTreesLotGoes x)) _ _ s
 refine wpAny_noted ?_
 rw[compTurn_dict]
 refine aA (yw (aA (gG (turn n s hI) (λr s₁ h₁=>?_) λ_ _ h'=>h'.elim)))
 cases r with
 | none=>exact aU h₁
 | some v=>
   refine aA (gG h₁ (λ_ s₂ h₂=>aA (gG h₂ (λ_ s₃ h₃=>?_) λ_ _ h'=>h'.elim)) λ_ _ h'=>h'.elim)
   simp only[yv,pure_bind,if_true]
   refine aA (aA (gG h₃ (λkv s₄ h₄=>aA (wC (gG h₄ (λvv s₅ h₅=>aA (yw (wC (gG h₅ (λ_ s₆ h₆=>?_) λ_ _ h'=>h'.elim)))) λ_ _ h'=>h'.elim))) λ_ _ h'=>h'.elim))
   exact aU ⟨Z,h₆⟩
end
section
variable {X:Cx}
theorem E5{M:Model}{A:Around}{Q:VS}{E:VS}{s:Shared}(h:Q (.ref s.heap.objs.size) { s with heap:=s.heap.push { cls:=.type "dict",data:=.dict #[] } }):wpAny M A newDict Q E s:=by unfold newDict;exact xA h
theorem aaF{pins:AO}{σ:St}{H:Hp}{s:Shared}{a:Addr}{kvs:List (Key×V)}{k:Key}{v:V}{u r:Value}{A:Around}{E:VS}{Q:Unit->Shared->Prop}(I:Inv X pins σ H s)(e:H a=some (.dK kvs))(l:kvs.length<sizeLine)(ry:RelV (kV k) u)(rv:RelV v r)(h:∀s',Inv X pins σ (upd H a (.dK (putK kvs k v))) s'->Q () s'):wpAny (model X.prog X.w) A (dictSet a u r) Q E s:=by
 obtain⟨z,hd,vs,rel,dd⟩:=yD I.hok e;have hz:vs.length<=sizeLine:=by rw[<-rel.length];exact z
 have hl:(putK kvs k v).length<=sizeLine:=by have:=nR kvs k v;omega
 refine wpAny_dictSet_pairs (hsz:=hz) (wK ry) dd λh' u6 hs=>h _ ?_;have he:∃q,h'.get? a=some q:=let⟨q,_,_,hq,_⟩:=u6;⟨q,hq⟩;exact x6 I (by rw[e];exact True.intro) hs he (z8 hl hd (rel.put k rv) u6)
def Wx(tv:TE)(σ:St)(N:Key->V->Hp->Prop)(kv:V)(H4:Hp):Prop:=∃k:Key,kv=kV k/\tv σ H4 λv H5=>N k v H5
def QX(J:It)(g:TG)(tk tv:TE)(acc:Addr)(σ₀:St)(H:Hp)(Q:VK):Prop:=∃W:Nat->Nat->St->Hp->Prop,(∃m,W 0 m σ₀ (upd H acc (.dK [])))/\∀i m σ2 H2,W i m σ2 H2->(J.stop i H2/\Q (.ref acc) H2)\/(J.go i H2/\∃(S:St->Prop)(N:Key->V->Hp->Prop),(∀σ3 k v H4,S σ3->N k v H4->∃kvs,H4 acc=some (.dK kvs)/\kvs.length<sizeLine/\∃m',m'<m/\W (i+1) m' σ3 (upd H4 acc (.dK (putK kvs k v))))/\∀x H',J.zX i H2 x H'->g x σ2 H' λσ3 H3=>S σ3/\tk σ3 H3 (Wx tv σ3 N))
def Yy(ix:List (Option Nat))(g:TG)(tk tv:TE)(σ:St)(Q:VK):It->Hp->Prop:=λJ H1=>∀acc,H1 acc=none->QX J g tk tv acc (pick ix σ) H1 Q
def aaG(wi:TI)(ix:List (Option Nat))(g:TG)(tk tv:TE):TE:=λσ H Q=>wi σ H (Yy ix g tk tv σ Q)
theorem MW{tg iter kx vx:Expr}{scope:Scope}{pos:Pos}{N2:List Str}{ix:List (Option Nat)}{g:TG}{tk tv:TE}{cl:List (Str×Addr)}{pins:AO}{σ:St}{H:Hp}{s:Shared}{E:VS}{Q:VK}{RR:Value->Addr->Result->Shared->Prop}(hc:X.calm=true)(hg:∀cl s₂ H₂ fp,PG (cO X N2 scope cl s₂ H₂ fp) tg g)(he:∀cl s₂ H₂ fp,PE (cO X N2 scope cl s₂ H₂ fp) kx tk)(hv:∀cl s₂ H₂ fp,PE (cO X N2 scope cl s₂ H₂ fp) vx tv)(hk:scope.kind =.function)(hn:nS X.N X.env.scope.names scope.names N2 ix=true)(B0:∀y c,(y,c)∈cl->X.env.cells.lookup y=some c)(Aa:∀y,(y,NameKind.free)∈scope.names->∃c,(y,c)∈cl){it:Addr}{fp:List Addr}{tn:Nat->Heap->Prop}{J:It}(I:Inv X pins σ H s)(T:Turn X.prog X.w X.K tg J fp it tn)(st:tn 0 s.heap)(f:∀b∈fp,mC X pins H b)(h:∀acc,H acc=none->QX J g tk tv acc (ix.map λo=>o.bind λj=>(σ[j]?).join) H Q)(hR:∀acc C H' s' m,Inv X pins σ H' s'->s'.heap.Ns C m->H' C=none->C≠X.env.locals->X.s₀.heap.objs.size<=C->(∀x c,X.env.cells.lookup x=some c->c≠C)->(∀p∈X.pn++pins,p.1≠C)->Q (.ref acc) H'->RR (.ref acc) C (.ok .next) s'):
  wpAny (model X.prog X.w) X.A newDict (λacc s₃=>wpAny (model X.prog X.w) X.A (newFunctionEnv scope X.env.globals cl [] X.env.qual none .none (some X.env)) (λcenv s₄=>
   codeAny (model X.prog X.w) X.A (.compStart (.DictComp kx vx [⟨tg,iter,[],0⟩] scope pos) 0 (.ref it) acc { cenv with scope:=relabel scope X.env }) (RR acc cenv.locals) s₄) E s₃) E s:=by
 obtain⟨k1,k2,k3,k4,k5⟩:=kR hn
 refine E5 ?_
 have I3:Inv X pins σ (upd H s.heap.objs.size (.dK [])) { s with heap:=s.heap.push { cls:=.type "dict",data:=.dict #[] } }:=
  I.laid (a:=s.heap.objs.size) (o:=.dK []) (t':=s.toks) (λ_ _ q=>cy _ q) (aO _) (BZ s.heap I.big)
 obtain⟨W,⟨m0,w0⟩,turn⟩:=h s.heap.objs.size I.fresh
 have fo:∀b∈fp,b<s.heap.objs.size:=λb hb=>by obtain⟨o,e,_⟩:=T.obj 0 _ st b hb;exact bR e
 have st3:tn 0 (s.heap.push { cls:=.type "dict",data:=.dict #[] }):=T.keep _ _ _ st λb _ o e=>cy _ e
 have f3:∀b∈fp,mC X pins (upd H s.heap.objs.size (.dK [])) b:=λb hb=>⟨by rw[ay (d7 (fo b hb))];exact(f b hb).1,(f b hb).2⟩
 have Gw:∀b∈fp,b<(s.heap.push { cls:=.type "dict",data:=.dict #[] }).objs.size:=λb hb=>by rw[kP];exact JA (fo b hb)
 generalize RT:({ s with heap:=s.heap.push { cls:=.type "dict",data:=.dict #[] } }:Shared)=s3 at *
 have RU:s3.heap=s.heap.push { cls:=.type "dict",data:=.dict #[] }:=by rw[<-RT]
 rw[<-RU]at st3 Gw
 generalize s.heap.objs.size=acc at *
 generalize eH3:upd H acc (.dK [])=H3 at *
 have IY:=yF (N2:=N2) (scope:=scope) (cl:=cl) (fp:=fp) (σ2:=ix.map λo=>o.bind λj=>(σ[j]?).join) I3 hk B0 Aa f3 Gw (by rw[aG];exact k1) (λi x v e1 e2=>by
  rw[cK]at e2;cases ei:ix[i]? with
  | none=>rw[ei]at e2;cases e2
  | some o=>
   rw[ei]at e2;cases o with
   | none=>cases e2
   | some j=>
    obtain⟨a1,a2,a3⟩:=k2 i x j e1 ei;refine⟨a2,a3,j,a1,?_⟩;have e3:(σ[j]?).join=some v:=fm e2;cases ej:σ[j]? with
    | none=>rw[ej]at e3;cases e3
    | some z=>rw[ej]at e3;exact eV some e3) k5
 have ne:wpAny (model X.prog X.w) X.A (newFunctionEnv scope X.env.globals cl [] X.env.qual none .none (some X.env)) (λcenv s₄=>
   cenv={ scope:=scope,locals:=s3.heap.objs.size,globals:=X.env.globals,cells:=cellsFrom (s3.heap.objs.size+1) scope.names cl,qual:=X.env.qual,func:=none,code:=X.env.code,frame:=X.env.frame,builtins:=X.env.builtins }/\
   s₄={ s3 with heap:=pushCells (s3.heap.push { cls:=.type "dict",data:=.dict #[] }) scope.names }) E s3:=by
  simp only[newFunctionEnv,PV,if_true]
  refine aA (wpAny_alloc ?_)
  refine aA (wpAny_layCells _ (λname kind cells=>by cases hkc:kind==NameKind.cell <;> simp[hkc]) _ _ _ _ ?_)
  rw[yv]
  refine aA (aU (aU ⟨?_,Z⟩))
  rw[show({ s3 with heap:=s3.heap.push { cls:=.type "dict",data:=.dict #[] } }:Shared).heap.objs.size=s3.heap.objs.size+1 from kP ..]
 refine br ne λcenv s4 ⟨e1,e2⟩=>?_
 subst e1 e2
 have Gx:tn 0 (pushCells (s3.heap.push { cls:=.type "dict",data:=.dict #[] }) scope.names):=T.keep _ _ _ st3 λb _ o e=>CQ _ _ b o (cy _ e)
 have x9:s3.heap.objs.size≠X.env.locals:=wD I3.lt
 have oK:∀{H':Hp},(∀b∈fp,H' b=none)->∀b∈fp,mC (cO X N2 scope cl s3 H3 fp) [] H' b:=λ{H'} hn b hb=>
  ⟨hn b hb,(IY.ok.Gf b hb).1,IY.ok.BS b hb,.inl hb,(IY.ok.Gf b hb).2,λp hp=>nomatch hp⟩
 have loop:codeAny (model X.prog X.w) X.A (.compLoop (.DictComp kx vx [⟨tg,iter,[],0⟩] scope pos) 0 (.ref it) (.ref acc) (cO X N2 scope cl s3 H3 fp).env) (RR (.ref acc) s3.heap.objs.size)
   { s3 with heap:=pushCells (s3.heap.push { cls:=.type "dict",data:=.dict #[] }) scope.names }:=by
  refine HF (λn s'=>∃i σ' H',Inv (cO X N2 scope cl s3 H3 fp) [] σ' H' s'/\tn i s'.heap/\(∀b∈fp,H' b=none)/\W i n σ' H') ?_ m0 ⟨0,_,H3,IY,Gx,λb hb=>(f3 b hb).1,w0⟩
  rintro n s5 ⟨i,σ5,H5,I5,zC,BC,w5⟩
  rcases turn i n σ5 H5 w5 with⟨stop,qn⟩|⟨go,S,N,RV,step⟩
  . refine br (T.done (cO X N2 scope cl s3 H3 fp) rfl rfl rfl hc i [] s5 σ5 H5 (λ_ _=>False) I5 (oK BC) zC stop) λr s6 ⟨hr,I6⟩=>?_
    subst hr
    obtain⟨m6,RW,_⟩:=id I6.loc
    have IX:Inv X pins σ H5 s6:=I3.Qg (ch:=fp) I6.os I6.base I6.hok I6.bare λb hb=>⟨(f3 b hb).2.2.2.1,(f3 b hb).2.1,(f3 b hb).2.2.2.2.1,(f3 b hb).2.2.2.2.2⟩
    refine hR acc s3.heap.objs.size H5 s6 m6 IX RW I6.free x9 I3.sz (λx c e z=>?_) (λp hp z=>?_) qn
    . obtain⟨v,q⟩:=I3.cell x c e
      exact absurd q.lt (by rw[z];exact i7 _)
    . exact absurd (bR (I3.pin p hp).1) (by rw[z];exact i7 _)
  . refine br (T.item (cO X N2 scope cl s3 H3 fp) rfl rfl rfl hc i [] s5 σ5 H5 (λ_ _=>False) I5 (oK BC) zC go) λr s6 ⟨u,hr,h6⟩=>?_
    subst hr
    refine br h6 λ_ s7 ⟨x,H7,I7,r7,y7,x_,JY⟩=>?_
    have RX:=I7.pinned (oK JY) (T.obj _ _ x_)
    refine br (hg cl s3 H3 fp _ s7 σ5 H7 x u _ RX r7 (step x H7 y7)) λ_ s8 ⟨σ8,H8,I8,Ot,q8⟩=>?_
    refine br (he cl s3 H3 fp _ s8 σ8 H8 _ I8 q8) λkk s9 ⟨kv,H9,I9,r9,k,ek,q9⟩=>?_
    subst ek
    refine br (hv cl s3 H3 fp _ s9 σ8 H9 _ I9 q9) λy s11 ⟨v,K_,I11,r11,q11⟩=>?_
    obtain⟨kvs,hxs,RY,m',hm,w9⟩:=RV σ8 k v K_ Ot q11
    refine aaF (X:=cO X N2 scope cl s3 H3 fp) I11 hxs RY r9 r11 λs10 Ab=>?_
    refine⟨m',hm,i+1,σ8,_,Ab.oJ,T.keep _ _ _ x_ λb hb o e=>(Ab.pin (b,o) (gv _ (gv _ (iC hb e)))).1,λb hb=>?_,w9⟩
    obtain⟨o,e,d⟩:=T.obj _ _ x_ b hb
    exact(Ab.pin (b,o) (gv _ (gv _ (iC hb e)))).2.1
 exact codeAny_compStart_dict loop (T.self _ 0 _ _ _ Gx loop)
inductive Wy(Pv:Nat->List (Key×V)->Hp->Prop)(i:Nat)(acc:Addr)(out:List (Key×V))(k:Key)(v:V)(H4:Hp):Prop
 |mk(_:H4 acc=some (.dK out))(_:Pv (i+1) (putK out k v:_) (upd H4 acc (.dK (putK out k v))))
theorem Yz{K:Fg}{J:It}{n:Nat}(ks:List Nat){tk tv:TE}{σ2:St}{H:Hp}{acc:Addr}{Q:VK}(Pv:Nat->List (Key×V)->Hp->Prop)(nd:ks.Nodup)(hn:n<=100000)(h0:Pv 0 [] (upd H acc (.dK [])))(hgo:∀i out H1,i<n->H1 acc=some (.dK out)->Pv i out H1->J.go i H1)(hst:∀out H1,H1 acc=some (.dK out)->Pv n out H1->J.stop n H1)(hs:∀(i:Nat) (x:V) (out:List (Key×V)) (H1 H2:Hp),i<n->out.length<=i->H1 acc=some (.dK out)->Pv i out H1->J.zX i H1 x H2->
    ∃t vs,x =.ref t/\dz K H2 t vs/\vs.length=ks.length/\tk (dD σ2 ks vs) H2 (Wx tv (dD σ2 ks vs) (Wy Pv i acc out)))(hd:∀(out:List (Key×V)) (H1:Hp),H1 acc=some (.dK out)->Pv n out H1->Q (.ref acc) H1):
  QX J (zV K ks.length (Si ks)) tk tv acc σ2 H Q:=by
 refine⟨λi m σ' H'=>m=n-i/\i<=n/\(∀ws,ws.length=ks.length->dD σ' ks ws=dD σ2 ks ws)/\∃out,out.length<=i/\H' acc=some (.dK out)/\Pv i out H',⟨n,by simp,fH _,λ_ _=>rfl,[],aO _,ai,h0⟩,?_⟩
 rintro i m σ' H' ⟨rfl,hi,hσ,out,ho,ha,p⟩
 by_cases hlt:i<n
 . refine .inr ⟨hgo i out H' hlt ha p,λσ3=>∀ws,ws.length=ks.length->dD σ3 ks ws=dD σ2 ks ws,(Wy Pv i acc out),λσ3 k v H4 hS ⟨a,b⟩=>?_,λx H1 y=>?_⟩
   . have:=nR out k v
     refine⟨out,a,?_,n-(i+1),by omega,Z,hlt,hS,putK out k v,by omega,ai,b⟩
     have:sizeLine=16777216:=j8
     omega
   . obtain⟨t,vs,rfl,sq,hl,q⟩:=hs i x out H' H1 hlt ho ha p y
     refine⟨t,vs,Z,sq,hl,Dw hl ⟨λws hw=>?_,?_⟩⟩
     . rw[pV nd hl hw];exact hσ ws hw
     . rw[hσ vs hl];exact q
 . have e:i=n:=by omega
   subst e
   exact .inl ⟨hst out H' ha p,hd out H' ha p⟩
inductive aaH(xs:List V)(H:Hp)(Q:VK):Prop
 |mk(a:Addr)(kvs:List (Key×V))(_:xs=[.ref a])(_:H a=some (.dK kvs))(_:∀l,H l=none->Q (.ref l) (upd H l (.dK kvs)))
theorem DT:i9 X (.type "dict") aaH:=by intro pins s σ H xs us Q I r h;obtain⟨a,kvs,rfl,e,q⟩:=h;obtain⟨u,rfl,ru⟩:=vals1 r;cases ru;obtain⟨z,hd,vs,rel,dd⟩:=yD I.hok e;refine kt_call_dict hd dd (by rw[<-rel.length];exact z) λh' u6 sb=>?_;have fr:=I.fresh;refine⟨.ref s.heap.objs.size,_,I.laid (a:=s.heap.objs.size) (o:=.dK kvs) (t':=s.toks) (λb o hb=>(sb.2 b (d7 (bR hb))).trans (cy _ hb)) (aO _) (z8 z (zT.mpr (bY (d7 I.big))) rel u6),Z,q _ fr⟩
end
section
variable {X:Cx}
theorem Vp{tg iter kx vx:Expr}{scope:Scope}{pos:Pos}(N2:List Str)(ix:List (Option Nat)){wi:TI}{g:TG}{tk tv:TE}(hc:X.calm=true)(hi:bI X tg iter wi)(hg:∀cl s₂ H₂ fp,bG (cO X N2 scope cl s₂ H₂ fp) tg g)(he:∀cl s₂ H₂ fp,bE (cO X N2 scope cl s₂ H₂ fp) kx tk)(hv:∀cl s₂ H₂ fp,bE (cO X N2 scope cl s₂ H₂ fp) vx tv)(hk:scope.kind =.function)(hn:nS X.N X.env.scope.names scope.names N2 ix=true)(hs:∀x,foldedSetIterable iter X.env x=pure x:=by intro _;rfl):bE X (.DictComp kx vx [⟨tg,iter,[],0⟩] scope pos) (aaG wi ix g tk tv):=by have hi:=hi.h;have hg:=λcl s₂ H₂ fp=>(hg cl s₂ H₂ fp).h;have he:=λcl s₂ H₂ fp=>(he cl s₂ H₂ fp).h;have hv:=λcl s₂ H₂ fp=>(hv cl s₂ H₂ fp).h;constructor;intro pins s σ H Q I h;obtain⟨k1,k2,k3,k4,k5⟩:=kR hn;obtain⟨cl,J3,c1,c2⟩:=uH (scope:=scope) (env:=X.env) λy hy e=>I.ok.has y.1 (k3 y hy e);rw[arm_eval_DictComp];refine PB (use:=none) rfl hs J3 hk k4 (br (hi pins s σ H _ I h) λv s1 h1=>br h1 λitv s2 h2=>?_);obtain⟨it,fp,tn,J,H2,e,I2,T,st2,f2,h2⟩:=h2;subst e;refine MW (RR:=λacc C=>compPost (model X.prog X.w) X.A X.xe none (EP X pins σ Q) acc C) (Q:=Q) hc hg he hv hk hn (λy c m=>(c1 y c m).1) c2 I2 T st2 f2 h2 ?_;intro acc C H' s' m I' ns x9 hL hsz sQ yJ q;exact⟨m,ns,λh' hs'=>⟨.ref acc,H',I'.turned (it:=C) (t':=s'.toks) (λb o hb e=>(hs'.2 b hb).trans e) x9 hL (.inr hsz) sQ yJ,Z,q⟩⟩
end
inductive aaI(T:TC)(K:Fg)(vs:List V)(H:Hp)(Q:VK)(E:XK):Prop
 |mk(a d r:Addr)(p:Pt)(_:vs=[.ref a])(_:H a=some (.ins T.part d (cZ p r)))(_:H r=some (.lst (p.row.map V.int)))(_:∀v dv rr H',aR H H'->H v=none->H rr=none->v≠rr->H' v=some (.ins T.part dv (cZ p rr))->H' rr=some (.lst (p.row.map V.int))->Q (.ref v) H')
def O0(T:TC)(K:Fg):Sp:=bx (aaI T K)
inductive aaJ(T:TC)(K:Fg)(vs:List V)(H:Hp)(Q:VK)(E:XK):Prop
 |mk(bt db sp kn:Addr)(stp:List Int)(prod:Int)(_:vs=[.ref bt])(_:H bt=some (.ins T.bot db (jY sp prod kn)))(_:H sp=some (.lst (stp.map V.int)))(_:∀b2 d2 s2 k2 H',aR H H'->H b2=none->H s2=none->H k2=none->b2≠s2->b2≠k2->s2≠k2->H' b2=some (.ins T.bot d2 (jY s2 prod k2))->H' s2=some (.lst (stp.map V.int))->H' k2=some (.dK [])->Q (.ref b2) H')
def O1(T:TC)(K:Fg):Sp:=bx (aaJ T K)
def Kept(ρ:cu)(H:Hp)(ρ':cu)(H':Hp):Prop:=∀b o,H b=some o->H' b=some o/\ρ' b=ρ b
theorem Kept.fr{n:Nat}{ρ ρ':cu}{H H':Hp}(k:Kept ρ H ρ' H'):Fr n ρ H ρ' H':=λb o e _=>k b o e
inductive aaK(T:TC)(vs:List V)(H:Hp)(Q:VK)(E:XK):Prop
 |mk(n m ρ A st:_)(_:vs=[.ref A.a])(_:n≠m)(_:HH T n ρ A H st)(_:∀ρ' A' H',HH T m ρ' A' H' { st with kn:=0 }->Kept ρ H ρ' H'->Q (.ref A'.a) H')
def O2(T:TC):Sp:=bx (aaK T)
theorem aL.aaL{T:TC}{n:Nat}{ρ:cu}{A:HA}{H:Hp}{st:HS}(h:aL T n ρ A H st)(g:Gh ρ H)(q:Addr)(l:List Str)(e:H q=some (.dK (fP 0 l)))(c:ρ q=col n 1):aL T n ρ { A with pl:=q } (upd H A.a (.ins T.hold A.dx (dU { A with pl:=q }))) { st with own:=l }:=by have k:=dP (o:=.ins T.hold A.dx (dU { A with pl:=q })) g h.ca;obtain⟨vs,h1,h2⟩:=h.nt;obtain⟨kvs,k1,k2,k3⟩:=h.okn;exact⟨ai,h.ca,kz k c e,c,kz k h.fC h.dF,h.fC,⟨vs,kz k h.gI h1,h2.keep k (by decide)⟩,h.gI,kz k h.gJ h.nu,h.gJ,kz k h.gK h.jb,h.gK,kz k h.gM h.iL,h.gM,kz k h.cpu h.jC,h.cpu,kz k h.gO h.lZ,h.gO,⟨kvs,kz k h.gP k1,λp hp=>let⟨t,r,e,q⟩:=k2 p hp;⟨t,r,e,k.1 _ _ q⟩,k3⟩,h.gP,h.ql,λi p q e1 e2=>let⟨a,b,c,d⟩:=h.opt i p q e1 e2;⟨kz k c a,kz k d b,c,d⟩⟩
theorem aL.aaM{T:TC}{n:Nat}{ρ:cu}{A:HA}{H:Hp}{st:HS}(h:aL T n ρ A H st)(g:Gh ρ H)(q:Addr)(l:List Str)(e:H q=some (.dK (yc l)))(c:ρ q=col n 4):aL T n ρ { A with nm:=q } (upd H A.a (.ins T.hold A.dx (dU { A with nm:=q }))) { st with nms:=l }:=by have k:=dP (o:=.ins T.hold A.dx (dU { A with nm:=q })) g h.ca;obtain⟨vs,h1,h2⟩:=h.nt;obtain⟨kvs,k1,k2,k3⟩:=h.okn;exact⟨ai,h.ca,kz k h.gE h.gY,h.gE,kz k h.fC h.dF,h.fC,⟨vs,kz k h.gI h1,h2.keep k (by decide)⟩,h.gI,kz k c e,c,kz k h.gK h.jb,h.gK,kz k h.gM h.iL,h.gM,kz k h.cpu h.jC,h.cpu,kz k h.gO h.lZ,h.gO,⟨kvs,kz k h.gP k1,λp hp=>let⟨t,r,e,q⟩:=k2 p hp;⟨t,r,e,k.1 _ _ q⟩,k3⟩,h.gP,h.ql,λi p q e1 e2=>let⟨a,b,c,d⟩:=h.opt i p q e1 e2;⟨kz k c a,kz k d b,c,d⟩⟩
theorem aL.aaN{T:TC}{n:Nat}{ρ:cu}{A:HA}{H:Hp}{st:HS}(h:aL T n ρ A H st)(g:Gh ρ H)(q:Addr)(l:List kL){ws:List V}(e:H q=some (.lst ws))(c:ρ q=col n 3)(ha:j_ n ρ H ws l):aL T n ρ { A with as:=q } (upd H A.a (.ins T.hold A.dx (dU { A with as:=q }))) { st with bO:=l }:=by have k:=dP (o:=.ins T.hold A.dx (dU { A with as:=q })) g h.ca;obtain⟨kvs,k1,k2,k3⟩:=h.okn;exact⟨ai,h.ca,kz k h.gE h.gY,h.gE,kz k h.fC h.dF,h.fC,⟨ws,kz k c e,ha.keep k (by decide)⟩,c,kz k h.gJ h.nu,h.gJ,kz k h.gK h.jb,h.gK,kz k h.gM h.iL,h.gM,kz k h.cpu h.jC,h.cpu,kz k h.gO h.lZ,h.gO,⟨kvs,kz k h.gP k1,λp hp=>let⟨t,r,e,q⟩:=k2 p hp;⟨t,r,e,k.1 _ _ q⟩,k3⟩,h.gP,h.ql,λi p q e1 e2=>let⟨a,b,c,d⟩:=h.opt i p q e1 e2;⟨kz k c a,kz k d b,c,d⟩⟩
theorem aL.aaO{T:TC}{n:Nat}{ρ:cu}{A:HA}{H:Hp}{st:HS}(h:aL T n ρ A H st)(g:Gh ρ H)(q:Addr)(ps:List Pt)(qs:List (Addr×Addr×Addr))(e:H q=some (.dK (b_ ps qs)))(c:ρ q=col n 2)(el:qs.length=ps.length)(hp:∀(i:Nat) (p:Pt) (q:Addr×Addr×Addr),ps[i]?=some p->qs[i]?=some q->H q.1=some (.ins T.part q.2.1 (cZ p q.2.2))/\H q.2.2=some (.lst (p.row.map V.int))/\ρ q.1=some (n,20,p.nm)/\ρ q.2.2=some (n,21,p.nm)):aL T n ρ { { A with ab:=q }with qs:=qs } (upd H A.a (.ins T.hold A.dx (dU { A with ab:=q }))) { st with aj:=ps }:=by have k:=dP (o:=.ins T.hold A.dx (dU { A with ab:=q })) g h.ca;obtain⟨vs,h1,h2⟩:=h.nt;obtain⟨kvs,k1,k2,k3⟩:=h.okn;exact⟨ai,h.ca,kz k h.gE h.gY,h.gE,kz k c e,c,⟨vs,kz k h.gI h1,h2.keep k (by decide)⟩,h.gI,kz k h.gJ h.nu,h.gJ,kz k h.gK h.jb,h.gK,kz k h.gM h.iL,h.gM,kz k h.cpu h.jC,h.cpu,kz k h.gO h.lZ,h.gO,⟨kvs,kz k h.gP k1,λp hp=>let⟨t,r,e,q⟩:=k2 p hp;⟨t,r,e,k.1 _ _ q⟩,k3⟩,h.gP,el,λi p q e1 e2=>let⟨a,b,c,d⟩:=hp i p q e1 e2;⟨kz k c a,kz k d b,c,d⟩⟩
theorem aL.aaP{T:TC}{n:Nat}{ρ:cu}{A:HA}{H:Hp}{st:HS}(h:aL T n ρ A H st)(g:Gh ρ H)(b d s k0:Addr)(stp:List Int)(m:Int)(e1:H b=some (.ins T.bot d (jY s m k0)))(e2:H s=some (.lst (stp.map V.int)))(e3:H k0=some (.dK []))(c1:ρ b=col n 5)(c2:ρ s=col n 8)(c3:ρ k0=col n 9):aL T n ρ { A with bt:=b,db:=d,sp:=s,kn:=k0 } (upd H A.a (.ins T.hold A.dx (dU { A with bt:=b }))) { st with stp:=stp,prod:=m,kn:=0 }:=by have k:=dP (o:=.ins T.hold A.dx (dU { A with bt:=b })) g h.ca;obtain⟨vs,h1,h2⟩:=h.nt;exact⟨ai,h.ca,kz k h.gE h.gY,h.gE,kz k h.fC h.dF,h.fC,⟨vs,kz k h.gI h1,h2.keep k (by decide)⟩,h.gI,kz k h.gJ h.nu,h.gJ,kz k c1 e1,c1,kz k h.gM h.iL,h.gM,kz k h.cpu h.jC,h.cpu,kz k c2 e2,c2,⟨[],kz k c3 e3,(λp hp=>absurd hp (by simp)),aO _,uC⟩,c3,h.ql,λi p q e1 e2=>let⟨a,b,c,d⟩:=h.opt i p q e1 e2;⟨kz k c a,kz k d b,c,d⟩⟩
structure kC(T:TC)(n m:Nat)(ρ:cu)(H:Hp)(A:HA)(st:HS)(x:Addr)(ρ1:cu)(H1:Hp)(B:HA)(s1:HS):Prop where
 nm:n≠m
 hx:H x=none
 hs:aL T n ρ1 A H1 st
 ht:aL T m ρ1 B H1 s1
 g:Gh ρ1 H1
 k:Kept ρ H ρ1 H1
 ea:B.a=x
section
variable {T:TC}{n m:Nat}{ρ ρ1:cu}{H H1:Hp}{A B:HA}{st s1:HS}{x:Addr}
theorem kC.free(h:kC T n m ρ H A st x ρ1 H1 B s1){b:Addr}(e:H1 b=none):H b=none:=by
 cases e2:H b with
 | none=>rfl
 | some o=>rw[(h.k b o e2).1]at e;cases e
theorem kC.same(h:kC T n m ρ H A st x ρ1 H1 B s1){H2:Hp}(s:aR H1 H2):kC T n m ρ H A st x ρ1 H2 B s1:=⟨h.nm,h.hx,h.hs.mono s,h.ht.mono s,h.g.same s,λb o e=>⟨s _ _ (h.k b o e).1,(h.k b o e).2⟩,h.ea⟩
theorem kC.col(h:kC T n m ρ H A st x ρ1 H1 B s1){l:Addr}{o:HO}{c:qN}(e:H1 l=some o)(t:isTup o=false)(cl:ρ1 l=none)(hl:H l=none):kC T n m ρ H A st x (cY ρ1 l c) H1 B s1:=by
 have z:∀{j:Nat},Kp j ρ1 (cY ρ1 l c) H1 H1 λ_=>true:=λ{j}=>⟨λ_ _ e=>e,λb u y w _ hc he=>⟨he,by rw[bB (λz=>by rw[z,cl]at hc;cases hc)];exact hc⟩⟩
 exact⟨h.nm,h.hx,h.hs.same z,h.ht.same z,h.g.color e t,λb o e=>⟨(h.k b o e).1,by rw[bB (aD e hl)];exact(h.k b o e).2⟩,h.ea⟩
theorem kC.set(h:kC T n m ρ H A st x ρ1 H1 B s1){B':HA}{s':HS}{o:HO}(t:isTup o=false)(ht:aL T m ρ1 B' (upd H1 B.a o) s')(ea:B'.a=B.a):kC T n m ρ H A st x ρ1 (upd H1 x o) B' s':=by have e:=h.ea;have hx:=h.hx;subst e;exact⟨h.nm,hx,h.hs.other (Fr.write h.ht.ca) h.g h.nm,ht,h.g.wr t,λb u e=>⟨by rw[ay (λz=>by rw[z,hx]at e;cases e)];exact(h.k b u e).1,(h.k b u e).2⟩,ea⟩
end
theorem Vq{T:TC}{n m:Nat}{ρ:cu}{H:Hp}{A B:HA}{st s1:HS}{x:Addr}{ws:List V}{l:List kL}{ρ1:cu}{H1:Hp}(h:kC T n m ρ H A st x ρ1 H1 B s1)(hL:kj ρ1 H1 ws l)(hf:∀b ss,H1 b=some (.lst ss)->ρ1 b=none->(∃w∈ws,∃r xs,w =.ref r/\H1 r=some (.tup xs)/\V.ref b∈xs)->H b=none):∃ρ2,kC T n m ρ H A st x ρ2 H1 B s1/\j_ m ρ2 H1 ws l/\∀b,ρ2 b=ρ1 b\/(ρ1 b=none/\ρ2 b=some (m,30,⟨#[]⟩)/\∃w∈ws,∃r xs,w =.ref r/\H1 r=some (.tup xs)/\V.ref b∈xs):=by
 induction hL with
 | nil=>exact⟨ρ1,h,.nil,λb=> .inl rfl⟩
 | @cons r t y ss vs as a b c d hL ih=>
  obtain⟨ρ2,h2,hA,hc⟩:=ih λb ss e1 e2 ⟨w,hw,z⟩=>hf b ss e1 e2 ⟨w,b7 _ hw,z⟩;have ht:H t=none:=hf t ss b c ⟨.ref r,cN,r,_,Z,a,by simp⟩;have up:∀b,ρ2 b=ρ1 b\/(ρ1 b=none/\ρ2 b=some (m,30,⟨#[]⟩)/\∃w∈V.ref r::vs,∃r xs,w =.ref r/\H1 r=some (.tup xs)/\V.ref b∈xs):=λb=>(hc b).imp (λz=>z) λ⟨z1,z2,w,hw,z3⟩=>⟨z1,z2,w,b7 _ hw,z3⟩
  rcases hc t with e|⟨_,e,_⟩
  .rw [c]at e;have h3:=h2.col (c:=(m,30,⟨#[]⟩)) b rfl e ht;refine⟨_,h3,.cons a b cE d ?_,λb'=>?_⟩
   .exact hA.keep (ts:=λ_=>true) ⟨λ_ _ e=>e,λb u y w _ hc he=>⟨he,by rw[bB (λz=>by rw[z,e]at hc;cases hc)];exact hc⟩⟩ rfl
   .by_cases z:b'=t
    .rw [z];exact .inr ⟨c,cE,.ref r,cN,r,_,Z,a,by simp⟩
    .rw [bB z];exact up b'
  .exact ⟨ρ2,h2,.cons a b e d hA,up⟩
section
variable {T:TC}{n m:Nat}{ρ ρ1:cu}{H H1:Hp}{A B:HA}{st s1:HS}{x:Addr}
theorem kC.wrO(h:kC T n m ρ H A st x ρ1 H1 B s1){a:Addr}{o u:HO}(c:ρ1 a=none)(e:H1 a=some u)(tu:isTup u=false)(t:isTup o=false)(ha:H a=none):kC T n m ρ H A st x ρ1 (upd H1 a o) B s1:=⟨h.nm,h.hx,h.hs.same (sV c e tu),h.ht.same (sV c e tu),h.g.wr t,λb w q=>⟨by rw[ay (aD q ha)];exact(h.k b w q).1,(h.k b w q).2⟩,h.ea⟩
theorem kC.fld(h:kC T n m ρ H A st x ρ1 H1 B s1){l:Addr}{o:HO}{k:Nat}{B':HA}{s':HS}(hl:H1 l=none)(t:isTup o=false)(hn:∀{ρ2:cu} {H2:Hp},aL T m ρ2 B H2 s1->Gh ρ2 H2->H2 l=some o->ρ2 l=L2.col m k->aL T m ρ2 B' (upd H2 B.a (.ins T.hold B.dx (dU B'))) s')(ea:B'.a=B.a):upd H1 l o x=some (.ins T.hold B.dx (dU B))/\∃ρ2,kC T n m ρ H A st x ρ2 (upd (upd H1 l o) x (.ins T.hold B.dx (dU B'))) B' s':=by have t2:=(h.same (aH hl o)).col (c:=(m,k,⟨#[]⟩)) ai t (h.g.none hl) (h.free hl);refine⟨h.ea▸t2.ht.oa,cY ρ1 l (m,k,⟨#[]⟩),?_⟩;exact t2.set (o:=.ins T.hold B.dx (dU B')) rfl (hn t2.ht t2.g ai cE) ea
end
inductive Vr(T:TC)(vs:List V)(H:Hp)(Q:VK)(E:XK):Prop
 |mk(n ρ A st:_)(_:vs=[.ref A.a])(_:HH T n ρ A H st)(_:∀r ws H',aR H H'->H r=none->H' r=some (.lst ws)->kj ρ H' ws st.bO->(∀w∈ws,∃t xs,w =.ref t/\H' t=some (.tup xs)/\∀b,V.ref b∈xs->H b=none/\b≠r)->Q (.ref r) H')
def AG(T:TC):Sp:=bx (Vr T)
theorem SX{P:Program}{w:World}{K:Fg}{mg:SO}{base:Heap}{k:Nat}{T:TC}{ps:List Str}(D:Mn P w K mg base k T.hold "landed" ps (AG T)):Mn P w K mg base k T.hold "landed" ps (Kh T):=D.imp λvs H Q E h=>by obtain⟨⟨n,ρ,A,st,rfl,hh,q⟩⟩:=h;exact⟨n,ρ,A,st,Z,hh,λr ws H' a b c d _=>q r ws H' a b c d⟩
theorem La(f:Pt->Int):∀ps:List Pt,((ps.filter λp=>decide (p.wo≠0)).map λp=>p.wo*f p).sum=(ps.map λp=>p.wo*f p).sum
 | []=>rfl
 | p::ps=>by
  rw[gC,bz,dg,<-La f ps];by_cases c:p.wo=0
  .rw [aB (by simpa using c),c,pO,wG]
  .rw [aC (by simpa using c),bz,dg]
theorem Vs(f:Pt->Int)(hf:∀(p:Pt) (w:Int),f { p with wo:=w }=f p){x:Str}{a:Int}{p0:Pt}(e:p0.nm=x):∀{ps:List Pt},(ps.map λp:Pt=>p.nm).Nodup->p0∈ps->((jN ps x a).map λp=>p.wo*f p).sum=(ps.map λp=>p.wo*f p).sum-a*f p0:=by
 intro ps nd h;unfold jN;rw[La];have out:∀{l:List Pt},(∀p∈l,p.nm≠x)->l.map (λp=>if p.nm=x then{ p with wo:=p.wo-a } else p)=l:=λ{l} h=>by refine(pI (g:=id) λp hp=>aB (h p hp)).trans (List.map_id _)
 induction ps with
 | nil=>cases h
 | cons p ps ih=>
  obtain⟨n1,n2⟩:=fU.mp nd;by_cases c:p.nm=x
  .have ep:p0=p:=by
    rcases b8.mp h with z|z
    .exact z
    .exact absurd (aZ.mpr ⟨p0,z,e.trans c.symm⟩) n1
   subst ep;rw[bz,aC c,out λq hq z=>n1 (aZ.mpr ⟨q,hq,z.trans c.symm⟩),bz,bz,dg,dg,hf];show(p0.wo-a)*f p0+_=_;rw[Int.sub_mul];omega
  .have hm:p0∈ps:=(b8.mp h).resolve_left λz=>c (by rw[<-z];exact e);rw[bz,aB c,bz,bz,dg,dg,ih n2 hm];omega
theorem Hq(f:Pt->Int)(hf:∀(p:Pt) (w:Int),f { p with wo:=w }=f p):∀(rs:List Row){st:HS},Wf st->Due st rs->(rs.map λr:Row=>r.1).Nodup->((rs.foldl cS st).aj.map λp=>p.wo*f p).sum=(st.aj.map λp=>p.wo*f p).sum-di rs λx=>f (bJ st x)
 | [],st,_,_,_=>by show _=_-(0:Int);rw[AZ];rfl
 | r::rs,st,wf,d,nd=>by
  have n2:=(fU.mp nd).2;have n1:=(fU.mp nd).1;have wf1:=KA wf d;have d1:=Ce wf d nd;obtain⟨p,hp,e,_⟩:=d r cN;show((rs.foldl cS (cS st r)).aj.map λp=>p.wo*f p).sum=_;rw[Hq f hf rs wf1 d1 n2];have h1:((cS st r).aj.map λp=>p.wo*f p).sum=(st.aj.map λp=>p.wo*f p).sum-r.2*f (bJ st r.1):=by rw[bN wf hp e];exact Vs f hf e wf.dM hp
  have h2:di rs (λx=>f (bJ (cS st r) x))=di rs λx=>f (bJ st x):=by
   unfold di;congr 1;refine pI λy hy=>?_;obtain⟨q,hq,eq,_⟩:=d y (b7 _ hy);have ny:q.nm≠r.1:=λz=>n1 (aZ.mpr ⟨y,hy,eq.symm.trans z⟩);have hw:q.wo≠0:=by have:=(wf.jK q hq).1;omega
   show y.2*f (bJ (cS st r) y.1)=y.2*f (bJ st y.1);rw[bN wf hq eq,bN wf1 (DH hq ny hw) eq]
  rw[h1,h2];unfold di;rw[bz,dg];show _=_-(r.2*f (bJ st r.1)+_);omega
theorem QY{rs:List Row}{st:HS}(wf:Wf st)(d:Due st rs)(nd:(rs.map λr:Row=>r.1).Nodup):aE (rs.foldl cS st)=aE st-aQ rs:=by have h:=Hq (λ_=>1) (λ_ _=>rfl) rs wf d nd;unfold di at h;unfold aE aQ;have z:∀{α:Type}(g:α->Int)(l:List α),l.map (λp=>g p*1)=l.map g:=λg l=>pI λp _=>uE _;rw[z,z,z]at h;exact h
theorem QZ{st:HS}{rs:List Row}(wf:Wf st)(c:jO st rs):aE (cV st rs)=aE st-aQ rs:=by unfold cV;rw[QY (vj wf (c.blend wf)) (Ar c.due) c.nd];congr 1;unfold aE aN;rw[kM];show((st.aj.map _).map _).sum=_;rw[gr];rfl
theorem Vt{st:HS}(wf:Wf st){rs:List Row}(nd:(rs.map λr:Row=>r.1).Nodup)(row:∀r∈rs,1<=r.2/\∃w∈mR st,w.1=r.1/\r.2<=w.2)(hl:aQ rs<aE st)(hne:rs≠[]):jR st rs=none:=by
 unfold jR;rw[aC ⟨hne,nd⟩];have e:rs.findSome? (iX st)=none:=List.findSome?_eq_none_iff.mpr λr hr=>by obtain⟨h1,w,hw,e1,e2⟩:=row r hr;unfold mR at hw;obtain⟨p,hp,rfl⟩:=aZ.mp hw;have e1:p.nm=r.1:=e1;have e2:r.2<=p.wo:=e2;unfold iX;rw[aC (by unfold d9;exact aZ.mpr ⟨p,hp,e1⟩),aB (by omega),bN wf hp e1,aB (by omega)]
 rw[e];show(if aE st<=aQ rs then some 6 else none)=none;rw[aB (by omega)]
theorem mT.mo{c m:Nat}{st:HS}{ds:List Dd}(h:mT st ds)(g:GW c m st)(mo:Mo c st)(hc:c+ds.length<=91)(hm:m+100*ds.length<=1000000)(ho:st.own.length<100):∀i≤ds.length,Mo (c+i) (cL st (ds.take i)):=by
 intro i
 induction i with
 | zero=>intro _;exact mo
 | succ i ih=>intro hi;have ei:=bK (show i<ds.length by omega);obtain⟨h1,h2,h3⟩:=h i _ ei;have gi:=(h.go g hc hm ho i (by omega)).1;rw[take_snoc ei,iE];exact QW (ih (by omega)) gi.g gi.wf h1
theorem lT.tups{H H':Hp}{vs:List V}{qs:List Rat}(h:lT H vs qs)(g:∀b xs,H b=some (.tup xs)->H' b=some (.tup xs)):lT H' vs qs:=by
 induction h with
 | nil=>exact .nil
 | cons a _ ih=>exact .cons (g _ _ a) ih
theorem Vu(st:HS):yh (aV st)=mR st:=by unfold yh aV mR;rw[gr];rfl
theorem zb(m:Int)(l:List Int)(i:Nat):(l.map (·*m)).getD i 0=l.getD i 0*m:=by
 rw[kK,kK,cK];cases l[i]? with
 | none=>show(0:Int)=0*m;omega
 | some x=>rfl
inductive Pd:PyData->Nat->Prop
 | str {x:Str} {n:Nat}:PyData.strOk x=true->Pd (.str x) n
 | int {i:Int} {n:Nat}:Pd (.int i) n
 | list {ds:List PyData} {n:Nat}:(∀d∈ds,Pd d n)->Pd (.list ds) (n+1)
 | tuple {ds:List PyData} {n:Nat}:(∀d∈ds,Pd d n)->Pd (.tuple ds) (n+1)
theorem Lb:∀{ds:List PyData},(∀d∈ds,PyData.canLay0 d=true)->PyData.canLayAll0 ds=true
 | [],_=>rfl
 | d::r,h=>by unfold PyData.canLayAll0;rw[h d cN,Lb λd hd=>h d (b7 _ hd)];rfl
theorem Cp{n:Nat}:∀{ds:List PyData},(∀d∈ds,PyData.depth d<=n)->PyData.depthAll ds<=n
 | [],_=>fH _
 | d::r,h=>by unfold PyData.depthAll;have h1:=h d cN;have h2:=Cp λd hd=>h d (b7 _ hd);omega
theorem Lc:∀{ds:List PyData},(∀d∈ds,PyData.eqv d d=true)->PyData.eqvAll ds ds=true
 | [],_=>rfl
 | d::r,h=>by unfold PyData.eqvAll;rw[h d cN,Lc λd hd=>h d (b7 _ hd)];rfl
theorem Pd.facts{d:PyData}{n:Nat}(h:Pd d n):PyData.canLay0 d=true/\PyData.depth d<=n/\PyData.eqv d d=true:=by
 induction h with
 | str e=>exact⟨by unfold PyData.canLay0;exact e,fH _,by unfold PyData.eqv;exact CM _⟩
 | int=>exact⟨Z,fH _,by unfold PyData.eqv;exact CM _⟩
 | list _ ih=>
  refine⟨?_,?_,?_⟩
  .unfold PyData.canLay0;exact Lb λd hd=>(ih d hd).1
  .unfold PyData.depth;have:=Cp λd hd=>(ih d hd).2.1;omega
  .unfold PyData.eqv;exact Lc λd hd=>(ih d hd).2.2
 | tuple _ ih=>
  refine⟨?_,?_,?_⟩
  .unfold PyData.canLay0;exact Lb λd hd=>(ih d hd).1
  .unfold PyData.depth;have:=Cp λd hd=>(ih d hd).2.1;omega
  .unfold PyData.eqv;exact Lc λd hd=>(ih d hd).2.2
theorem Pd.shaped{d:PyData}{n:Nat}(h:Pd d n)(hn:n<=64):SeqAt.shaped d=true:=by unfold SeqAt.shaped;rw[h.facts.1];exact bq (f_ h.facts.2.1 hn)
theorem Pd.eqv{d:PyData}{n:Nat}(h:Pd d n):PyData.eqv d d=true:=h.facts.2.2
theorem ne_data{K:Fg}{H:Hp}{x y:V}{d:PyData}{n:Nat}{Q:VK}(h1:Dt K H x d)(h2:Dt K H y d)(p:Pd d n)(hn:n<=64)(q:Q (.bl false) H):UK K x y H Q:=⟨d,d,h1,h2,p.shaped hn,p.shaped hn,by rw[p.eqv];exact q⟩
def O3(x:Str×Rat):PyData:=.tuple [.str x.1,.tuple [.int x.2.num,.int (x.2.den:Int)]]
def SY(p:Pt):PyData:=.tuple [.str p.nm,.str p.ow,.int p.wo,.int p.we]
def Vv(a:kL):PyData:=.tuple [.str a.nm,.str a.ow,.int a.wo,.list (a.sh.map O3)]
section
variable {K:Fg}{H:Hp}
theorem jm.dt{vs:List V}{l:List (Str×Rat)}(h:jm H vs l):uw K H vs (l.map O3):=by
 induction h with
 | nil=>exact .nil
 | cons a b _ ih=>exact .cons (.tup (dz.of a) (.cons (.str _) (.cons (RZ b) .nil))) ih
theorem jw.dt{vs:List V}{l:List Pt}(h:jw H vs l):uw K H vs (l.map SY):=by
 induction h with
 | nil=>exact .nil
 | cons a _ ih=>exact .cons (.tup (dz.of a) (.cons (.str _) (.cons (.str _) (.cons (.int _) (.cons (.int _) .nil))))) ih
theorem kj.dt{ρ:cu}{vs:List V}{l:List kL}(h:kj ρ H vs l):uw K H vs (l.map Vv):=by
 induction h with
 | nil=>exact .nil
 | cons a b _ d _ ih=>exact .cons (.tup (dz.of a) (.cons (.str _) (.cons (.str _) (.cons (.int _) (.cons (.lst (aI.of b) d.dt) .nil))))) ih
end
theorem pd4{a b c d:PyData}{n:Nat}(h1:Pd a n)(h2:Pd b n)(h3:Pd c n)(h4:Pd d n):Pd (.tuple [a,b,c,d]) (n+1):=.tuple λx hx=>by
 rcases b8.mp hx with rfl|hx
 .exact h1
 rcases b8.mp hx with rfl|hx
 .exact h2
 rcases b8.mp hx with rfl|hx
 .exact h3
 rcases b8.mp hx with rfl|hx
 .exact h4
 cases hx
theorem pd2{a b:PyData}{n:Nat}(h1:Pd a n)(h2:Pd b n):Pd (.tuple [a,b]) (n+1):=.tuple λx hx=>by
 rcases b8.mp hx with rfl|hx
 .exact h1
 rcases b8.mp hx with rfl|hx
 .exact h2
 cases hx
theorem vz{α:Type}{f:α->PyData}{n:Nat}{l:List α}(h:∀x∈l,Pd (f x) n):Pd (.list (l.map f)) (n+1):=.list λd hd=>by obtain⟨x,hx,rfl⟩:=aZ.mp hd;exact h x hx
theorem S0{x:Str×Rat}(h:PyData.strOk x.1=true):Pd (O3 x) 2:=pd2 (.str h) (pd2 .int .int)
theorem aaS{p:Pt}(h1:PyData.strOk p.nm=true)(h2:PyData.strOk p.ow=true):Pd (SY p) 1:=pd4 (.str h1) (.str h2) .int .int
theorem YA{a:kL}(h1:PyData.strOk a.nm=true)(h2:PyData.strOk a.ow=true)(h3:∀x∈a.sh,PyData.strOk x.1=true):Pd (Vv a) 4:=pd4 (.str h1) (.str h2) .int (vz λx hx=>S0 (h3 x hx))
theorem MX{st:HS}{p:Pt}{x:Str×Rat}(h:x∈gQ st p):x.1∈st.own:=by
 unfold gQ at h;obtain⟨y,hy,e⟩:=PU.mp h;split at e
 .cases e;exact(CO hy).1
 .cases e
theorem K0.names{c:Nat}{own:List Str}{sh:List (Str×Rat)}(h:K0 c own sh){x:Str×Rat}(hx:x∈sh):x.1∈own:=by
 obtain⟨o0,ts,b,h1,h2,rfl,_⟩:=h;unfold jM at hx;obtain⟨y,hy,e⟩:=PU.mp hx;split at e
 .cases e;exact h1.subset (CO hy).1
 .cases e
def An(st:HS):Prop:=∀a∈st.bO,isNm a.nm=true
theorem Wz{c:Nat}{st:HS}(h:An st)(g:Go c st)(wf:Wf st){d:Dd}(hr:jr st d=none):An (iD st d):=by
 cases d with
 | cast rs=>show An (cV st rs);unfold cV;rw[jP];unfold An aN;rw[kO];exact h
 | award o a=>show An (qb st o a);unfold qb An aN;rw[kO];exact h
 | hand x o=>show An (ff st x o);unfold ff;split <;> exact h
 | land x=>
  intro a ha;rcases fq.mp (show a∈st.bO++[_]from ha)with z|z
  .exact h a z
  .rw [eO.mp z];obtain⟨i,p,e1,rfl⟩:=jz (pF hr);exact g.nk _ (wf.sub p (cC e1))
 | _=>exact h
def WA(st:HS)(ds:List Dd):Prop:=∀(i:Nat)(d:Dd),ds[i]?=some d->jr (cL st (ds.take i)) d=none/\Ww d/\d.k≠0
theorem mT.toG{st:HS}{ds:List Dd}(h:mT st ds):WA st ds:=λi d e=>let⟨a,b,c⟩:=h i d e;⟨a,b.g,c⟩
theorem WA.go{c m:Nat}{st:HS}{ds:List Dd}(h:WA st ds)(g:GW c m st)(mo:Mo c st)(an:An st)(hc:c+ds.length<=91)(hm:m+100*ds.length<=1000000)(ho:st.own.length<100):∀i≤ds.length,GW (c+i) (m+100*i) (cL st (ds.take i))/\(cL st (ds.take i)).own=st.own/\Mo (c+i) (cL st (ds.take i))/\An (cL st (ds.take i)):=by
 intro i
 induction i with
 | zero=>intro _;exact⟨g,Z,mo,an⟩
 | succ i ih=>intro hi;obtain⟨g1,e1,m1,a1⟩:=ih (by omega);have ei:=bK (show i<ds.length by omega);obtain⟨h1,h2,h3⟩:=h i _ ei;rw[take_snoc ei,iE];have:=g1.do (by omega) (by omega) (by rw[e1];exact ho) h1 h2;exact⟨by rw[show c+(i+1)=c+i+1 by omega,show m+100*(i+1)=m+100*i+100 by omega];exact this,by rw[K8 h3,e1],QW m1 g1.g g1.wf h1,Wz a1 g1.g g1.wf h1⟩
inductive ado(T:TC)(K:Fg)(vs:List V)(H:Hp)(Q:VK)(E:XK):Prop
 |mk(n:Nat)(ρ:cu)(zo l:Addr)(own:List Str)(zs:List V)(ds:List Dd)(_:vs=[.ref zo,.ref l])(_:Gh ρ H)(_:yd K ρ H zo (own.map V.str))(_:yd K ρ H l zs)(_:nN H zs ds)(_:WA (iP own:_) ds)(_:own.Nodup)(_:0<own.length)(_:own.length<100)(_:∀o∈own,isNm o=true)(_:ds.length<=91)(_:∀ρ' A' H',HH T n ρ' A' H' (cL (iP own) ds)->GW ds.length (100*ds.length) (cL (iP own) ds)->(cL (iP own) ds).own=own->Mo ds.length (cL (iP own) ds)->An (cL (iP own) ds)->Fr n ρ H ρ' H'->Q (.ref A'.a) H')
def S3(T:TC)(K:Fg):Sp:=bx (ado T K)
structure VE(a b:HS):Prop where
 own:a.own=b.own
 nms:a.nms=b.nms
 bO:a.bO=b.bO
 qd:aV a=aV b
 sh:∀p∈a.aj,∀q∈b.aj,p.nm=q.nm->∀j,(aK a p).getD j 0*b.prod=(aK b q).getD j 0*a.prod
 pu:∀j,a.bH.getD j 0*b.prod=b.bH.getD j 0*a.prod
theorem VE.refl{a:HS}(wf:Wf a):VE a a:=⟨Z,Z,Z,Z,λp hp q hq e j=>by rw[<-bN wf hp rfl,<-bN wf hq rfl,e],λj=>rfl⟩
theorem VE.part{a b:HS}(h:VE a b){p:Pt}(hp:p∈a.aj):∃q∈b.aj,q.nm=p.nm/\q.ow=p.ow/\q.wo=p.wo/\q.we=p.we:=by
 have m:((p.nm,p.ow,p.wo,p.we):Q4)∈aV b:=by rw[<-h.qd];exact aZ.mpr ⟨p,hp,Z⟩
 obtain⟨q,hq,e⟩:=aZ.mp m;have e1:=eV (λz:Q4=>z.1) e;have e2:=eV (λz:Q4=>z.2.1) e;have e3:=eV (λz:Q4=>z.2.2.1) e;have e4:=eV (λz:Q4=>z.2.2.2) e;exact⟨q,hq,e1,e2,e3,e4⟩
theorem VE.names{a b:HS}(h:VE a b):d9 a=d9 b:=by rw[<-y_,<-y_,h.qd]
theorem VE.whole{a b:HS}(h:VE a b):aE a=aE b:=by have e:=eV (λl:List Q4=>(l.map λq:Q4=>q.2.2.1).sum) h.qd;simp only[Yx]at e;exact e
theorem VE.pg{a b:HS}(h:VE a b)(x:Str):(bJ a x).nm=(bJ b x).nm/\(bJ a x).ow=(bJ b x).ow/\(bJ a x).wo=(bJ b x).wo/\(bJ a x).we=(bJ b x).we:=by
 have e:=eV (List.find? λq:Q4=>decide (q.1=x)) h.qd;unfold aV at e;rw[List.find?_map,List.find?_map]at e;have e:(a.aj.find? λp=>decide (p.nm=x)).map (λp:Pt=>((p.nm,p.ow,p.wo,p.we):Q4))=(b.aj.find? λp=>decide (p.nm=x)).map (λp:Pt=>((p.nm,p.ow,p.wo,p.we):Q4)):=e;unfold bJ;cases ha:a.aj.find? (λp=>decide (p.nm=x))with
 | none=>
  rw[ha]at e;cases hb:b.aj.find? (λp=>decide (p.nm=x))with
  | none=>exact⟨Z,Z,Z,Z⟩
  | some q=>rw[hb]at e;cases e
 | some p=>
  rw[ha]at e;cases hb:b.aj.find? (λp=>decide (p.nm=x))with
  | none=>rw[hb]at e;cases e
  | some q=>rw[hb]at e;have e:=fm e;exact⟨eV (λz:Q4=>z.1) e,eV (λz:Q4=>z.2.1) e,eV (λz:Q4=>z.2.2.1) e,eV (λz:Q4=>z.2.2.2) e⟩
theorem VE.row{a b:HS}(h:VE a b)(r:Row):iX a r=iX b r:=by unfold iX;rw[h.names,(h.pg r.1).2.2.1]
theorem VE.ref{a b:HS}(h:VE a b)(d:Dd):jr a d=jr b d:=by
 cases d with
 | sign o=>show rY a o=rY b o;unfold rY;rw[h.own]
 | load x o wo we=>show w6 a x o wo we=w6 b x o wo we;unfold w6 newR;rw[h.own,h.nms]
 | cast rs=>show jR a rs=jR b rs;unfold jR;rw[h.whole,show iX a=iX b from funext h.row]
 | award o x=>show jS a o x=jS b o x;unfold jS;rw[h.own,h.whole]
 | mishap x y=>exact h.row _
 | rise x y=>show kW a x y=kW b x y;unfold kW;rw[h.names]
 | hand x o=>show jx a x o=jx b x o;unfold jx;rw[h.names,h.own]
 | land x=>show qa a x=qa b x;unfold qa;rw[h.names]
 | sever x y u we=>show iN a x y u we=iN b x y u we;unfold iN newR;rw[h.names,h.nms,(h.pg x).2.2.1,(h.pg x).2.2.2]
 | still=>rfl
theorem Hr{x y:Int}(hx:0<x)(hy:0<y):∀(own:List Str)(ts us:List Int),ts.length=us.length->(∀j,ts.getD j 0*y=us.getD j 0*x)->jM own ts x=jM own us y
 | [],_,_,_,_=>by unfold jM;simp
 | _::_,[],[],_,_=>by unfold jM;simp
 | o::own,t::ts,u::us,hl,h=>by
  have ih:=Hr hx hy own ts us (by simpa using hl) λj=>by have:=h (j+1);simpa using this
  have h0:t*y=u*x:=by have:=h 0;simpa using this
  unfold jM at ih ⊢;rw[Jx,Jx,BP,BP];have c:0<t↔0<u:=by
   constructor
   .intro z;have:=wH z hy;rw[h0,pN]at this;exact Int.pos_of_mul_pos_right this hx
   .intro z;have:=wH z hx;rw[<-h0,pN]at this;exact Int.pos_of_mul_pos_right this hy
  have e:Jm.fr t x=Jm.fr u y:=Jm.Qx hx hy h0;by_cases z:0<t
  .have z2:=c.mp z;simp only[aC z,aC z2,e];rw[ih]
  .have z2:¬ 0<u:=λw=>z (c.mpr w);simp only[aB z,aB z2];exact ih
theorem VE.share{a b:HS}(h:VE a b)(wa:Wf a)(wb:Wf b){p q:Pt}(hp:p∈a.aj)(hq:q∈b.aj)(e:p.nm=q.nm):gQ a p=gQ b q:=by have:=Hr (show 0<a.prod by have:=wa.eE;omega) (show 0<b.prod by have:=wb.eE;omega) a.own (aK a p) (aK b q) (by rw[xg wa hp,xg wb hq,h.own]) (h.sh p hp q hq e);show jM a.own (aK a p) a.prod=jM b.own (aK b q) b.prod;rw[this,h.own]
theorem VE.tE{a b:HS}(h:VE a b)(wa:Wf a)(wb:Wf b)(o:Str):L2.tE a o=L2.tE b o:=by unfold L2.tE;rw[<-h.own];exact Jm.Qx (by have:=wa.eE;omega) (by have:=wb.eE;omega) (h.pu _)
theorem VE.blend{a b:HS}(h:VE a b)(wa:Wf a)(wb:Wf b){kept whole lost:Int}{ga gb:List Int}(ba:jE a kept whole lost ga)(bb:jE b kept whole lost gb)(hg:∀j,ga.getD j 0*b.prod=gb.getD j 0*a.prod){a' b':HS}(eca:a'.bD=(aN a kept whole ga).bD)(epa:a'.prod=(aN a kept whole ga).prod)(ecb:b'.bD=(aN b kept whole gb).bD)(epb:b'.prod=(aN b kept whole gb).prod){p p' q q':Pt}(hp:p∈a.aj)(hq:q∈b.aj)(e:p.nm=q.nm)(ra:p'.row=p.row)(sa:p'.sc=p.sc*kept / cA a kept whole ga)(rb:q'.row=q.row)(sb:q'.sc=q.sc*kept / cA b kept whole gb)(j:Nat):(aK a' p').getD j 0*b'.prod=(aK b' q').getD j 0*a'.prod:=by
 have t1:=wZ wa ba eca epa hp ra sa (j:=j) (t0:=(aK b q).getD j 0) (gB:=gb.getD j 0) (B:=b.prod) (h.sh p hp q hq e j).symm (hg j).symm;have t2:=wZ wb bb ecb epb hq rb sb (j:=j) (t0:=(aK b q).getD j 0) (gB:=gb.getD j 0) (B:=b.prod) rfl rfl;have w1:0<whole:=by have:=ba.l;have:=ba.w;have:=ba.k;omega
 have b1:0<b.prod:=by have:=wb.eE;omega
 have bw:0<b.prod*whole:=wH b1 w1;refine BL (a:=b.prod*whole) (by omega) ?_;generalize (aK a' p').getD j 0=x at *;generalize (aK b' q').getD j 0=y at *;have l1:b.prod*whole*(x*b'.prod)=x*(b.prod*whole)*b'.prod:=by grind
 have l2:b.prod*whole*(y*a'.prod)=y*(b.prod*whole)*a'.prod:=by grind
 rw[l1,l2,<-t1,<-t2]
 grind
theorem Cq{a:HS}{kept whole lost:Int}{ga:List Int}(ba:jE a kept whole lost ga):(aN a kept whole ga).bH=a.bH.map (·*(whole / cA a kept whole ga))/\(aN a kept whole ga).prod=a.prod*(whole / cA a kept whole ga):=by
 obtain⟨hd,SD,_⟩:=ba.dvds;have w1:0<whole:=by have:=ba.l;have:=ba.w;have:=ba.k;omega
 have s1:1<=whole / cA a kept whole ga:=Int.le_ediv_of_mul_le hd (by have:=Int.le_of_dvd w1 SD;omega);unfold aN;rw[Ao,yN s1];exact⟨Z,Z⟩
theorem VE.S7{a b:HS}(h:VE a b){kept whole lost:Int}{ga gb:List Int}(ba:jE a kept whole lost ga)(bb:jE b kept whole lost gb)(j:Nat):(aN a kept whole ga).bH.getD j 0*(aN b kept whole gb).prod=(aN b kept whole gb).bH.getD j 0*(aN a kept whole ga).prod:=by
 obtain⟨a1,a2⟩:=Cq ba;obtain⟨b1,b2⟩:=Cq bb;rw[a1,a2,b1,b2,zb,zb];have:=h.pu j;generalize a.bH.getD j 0=x at *;generalize b.bH.getD j 0=y at *;generalize whole / cA a kept whole ga=s at *;generalize whole / cA b kept whole gb=t at *;have l1:x*s*(b.prod*t)=(x*b.prod)*(s*t):=by grind
 rw[l1,this]
 grind
theorem tF{a:HS}{kept whole:Int}{ga:List Int}{p':Pt}(h:p'∈(aN a kept whole ga).aj):∃p∈a.aj,p'.nm=p.nm/\p'.row=p.row/\p'.sc=p.sc*kept / cA a kept whole ga:=by unfold aN at h;rw[kM]at h;obtain⟨p,hp,rfl⟩:=aZ.mp h;exact⟨p,hp,Z,Z,Z⟩
theorem VE.given{a b:HS}(h:VE a b)(wa:Wf a)(wb:Wf b){rs:List Row}(ca:jO a rs)(cb:jO b rs)(j:Nat):(dW a rs).getD j 0*b.prod=(dW b rs).getD j 0*a.prod:=by
 have G:∀{s:HS},Wf s->jO s rs->(dW s rs).getD j 0=di rs λx=>(aK s (bJ s x)).getD j 0:=λ{s} wf c=>by
  have ex:∀r∈rs,∃p∈s.aj,p.nm=r.1:=λr hr=>let⟨_,_,p,hp,e,_⟩:=c.row r hr;⟨p,hp,e⟩;rw[wY wf ex,Cf rs _ (λr hr=>by obtain⟨p,hp,e⟩:=ex r hr;rw[bN wf hp e,jW,qX wf hp])]
  have:(List.replicate s.bD.length (0:Int)).getD j 0=0:=by rw[kK,PJ];split <;> rfl
  rw[this,wG]
 rw[G wa ca,G wb cb];have R:∀r∈rs,(aK a (bJ a r.1)).getD j 0*b.prod=(aK b (bJ b r.1)).getD j 0*a.prod:=λr hr=>by obtain⟨_,_,p,hp,e,_⟩:=ca.row r hr;obtain⟨_,_,q,hq,e2,_⟩:=cb.row r hr;rw[bN wa hp e,bN wb hq e2];exact h.sh p hp q hq (e.trans e2.symm) j
 unfold di;clear ca cb G
 induction rs with
 | nil=>show(0:Int)*_=0*_;omega
 | cons r rs ih=>have:=R r cN;rw[bz,bz,dg,dg,j9,j9,ih λx hx=>R x (b7 _ hx),iB,this,iB]
theorem VE.cast{a b:HS}(h:VE a b)(wa:Wf a)(wb:Wf b){rs:List Row}(ca:jO a rs)(cb:jO b rs):VE (cV a rs) (cV b rs):=by
 have ba:=ca.blend wa;have bb:=cb.blend wb;rw[<-h.whole]at bb;have eA:cV a rs={ aN a (aE a-aQ rs) (aE a) (dW a rs)with aj:=(cV a rs).aj }:=jP rs _;have eB:cV b rs={ aN b (aE a-aQ rs) (aE a) (dW b rs)with aj:=(cV b rs).aj }:=by rw[h.whole];exact jP rs _
 have bO:∀(s:HS)(k w:Int)(g:List Int),(aN s k w g).bO=s.bO/\(aN s k w g).own=s.own/\(aN s k w g).nms=s.nms:=λs k w g=>by unfold aN;rw[kO,kN,mJ];exact⟨Z,Z,Z⟩
 refine⟨by rw[q_,q_,h.own],?_,?_,?_,λp' dN q' hq' e j=>?_,λj=>?_⟩
 .rw [eA,eB];exact((bO _ _ _ _).2.2.trans h.nms).trans (bO _ _ _ _).2.2.symm
 .rw [eA,eB];exact((bO _ _ _ _).1.trans h.bO).trans (bO _ _ _ _).1.symm
 .unfold cV;rw[p_,p_,kU,kU,h.qd]
 .obtain ⟨p1,hp1,n1,r1,s1⟩:=yQ rs dN;obtain⟨p,hp,n2,r2,s2⟩:=tF hp1;obtain⟨q1,hq1,m1,u1,v1⟩:=yQ rs hq';obtain⟨q,hq,m2,u2,v2⟩:=tF hq1;rw[<-h.whole]at v2;exact h.blend wa wb ba bb (h.given wa wb ca cb) (by rw[eA]) (by rw[eA]) (by rw[eB]) (by rw[eB]) hp hq (by rw[<-n2,<-n1,e,m1,m2]) (r1.trans r2) (s1.trans s2) (u1.trans u2) (v1.trans v2) j
 .rw [show(cV a rs).bH=(aN a (aE a-aQ rs) (aE a) (dW a rs)).bH by rw[eA],show(cV b rs).prod=(aN b (aE a-aQ rs) (aE a) (dW b rs)).prod by rw[eB],show(cV b rs).bH=(aN b (aE a-aQ rs) (aE a) (dW b rs)).bH by rw[eB],show(cV a rs).prod=(aN a (aE a-aQ rs) (aE a) (dW a rs)).prod by rw[eA]];exact h.S7 ba bb j
theorem VE.award{a b:HS}(h:VE a b)(wa:Wf a)(wb:Wf b)(aa:E1 a)(ab:E1 b){o:Str}{x:Int}(ho:o∈a.own)(h1:1<=x)(h2:x<aE a):VE (qb a o x) (qb b o x):=by
 have ba:=aa.blend (o:=o) wa h1 h2;have bb:=ab.blend (o:=o) wb h1 (by rw[<-h.whole];exact h2);have eA:qb a o x=aN a (aE a-x) (aE a) (jX a o x):=rfl;have eB:qb b o x=aN b (aE b-x) (aE b) (jX b o x):=rfl;rw[<-h.whole]at bb eB;rw[eA,eB];have bO:∀(s:HS)(k w:Int)(g:List Int),(aN s k w g).bO=s.bO/\(aN s k w g).own=s.own/\(aN s k w g).nms=s.nms:=λs k w g=>by unfold aN;rw[kO,kN,mJ];exact⟨Z,Z,Z⟩
 have hi:=uu ho;have hg:∀j,(jX a o x).getD j 0*b.prod=(jX b o x).getD j 0*a.prod:=λj=>by
  unfold jX;rw[<-h.own,mQ (by rw[jW];exact hi),mQ (by rw[jW];exact hi)];split
  .grind
  .rw [Ci,pO,pO]
 refine⟨((bO _ _ _ _).2.1.trans h.own).trans (bO _ _ _ _).2.1.symm,((bO _ _ _ _).2.2.trans h.nms).trans (bO _ _ _ _).2.2.symm,((bO _ _ _ _).1.trans h.bO).trans (bO _ _ _ _).1.symm,by rw[kU,kU,h.qd],λp' dN q' hq' e j=>?_,λj=>h.S7 ba bb j⟩;obtain⟨p,hp,n2,r2,s2⟩:=tF dN;obtain⟨q,hq,m2,u2,v2⟩:=tF hq';exact h.blend wa wb ba bb hg rfl rfl rfl rfl hp hq (by rw[<-n2,e,m2]) r2 s2 u2 v2 j
theorem VE.same{a b:HS}(h:VE a b){pa pb:List Pt}(hq:(pa.map λp:Pt=>((p.nm,p.ow,p.wo,p.we):Q4))=(pb.map λp:Pt=>((p.nm,p.ow,p.wo,p.we):Q4)))(ha:∀p'∈pa,∃p∈a.aj,p'.nm=p.nm/\p'.row=p.row/\p'.sc=p.sc)(hb:∀p'∈pb,∃p∈b.aj,p'.nm=p.nm/\p'.row=p.row/\p'.sc=p.sc):VE { a with aj:=pa } { b with aj:=pb }:=by
 refine⟨h.own,h.nms,h.bO,hq,λp' dN q' hq' e j=>?_,h.pu⟩;obtain⟨p,hp,n1,r1,s1⟩:=ha p' dN;obtain⟨q,hq,n2,r2,s2⟩:=hb q' hq';have t1:aK { a with aj:=pa } p'=aK a p:=by show List.zipWith (λr c=>p'.sc*r+c) p'.row a.bD=_;rw[r1,s1];rfl
 have t2:aK { b with aj:=pb } q'=aK b q:=by show List.zipWith (λr c=>q'.sc*r+c) q'.row b.bD=_;rw[r2,s2];rfl
 rw[t1,t2];exact h.sh p hp q hq (by rw[<-n1,e,n2]) j
theorem VE.less{a b:HS}(h:VE a b)(r:Row):VE (cS a r) (cS b r):=by
 have m:∀{s:HS},∀p'∈(cS s r).aj,∃p∈s.aj,p'.nm=p.nm/\p'.row=p.row/\p'.sc=p.sc:=λ{s} p' dN=>by obtain⟨_,q,hq,e⟩:=qY (show p'∈jN s.aj r.1 r.2 from dN);refine⟨q,hq,?_⟩;rw[e];split <;> exact⟨Z,Z,Z⟩
 refine h.same (pa:=(cS a r).aj) (pb:=(cS b r).aj) ?_ m m;have:=Av a r;rw[h.qd,<-Av b r]at this;exact this
theorem ze(s:HS)(x:Str)(f:Pt->Pt)(g:Q4->Q4)(hf:∀p:Pt,((f p).nm,(f p).ow,(f p).wo,(f p).we)=g (p.nm,p.ow,p.wo,p.we)):aV (ko s x f)=(aV s).map λq=>if q.1=x then g q else q:=by
 unfold aV ko;show(s.aj.map _).map _=(s.aj.map _).map _;rw[gr,gr];refine pI λp _=>?_;show((λp:Pt=>((p.nm,p.ow,p.wo,p.we):Q4)) (if p.nm=x then f p else p))=(if p.nm=x then g (p.nm,p.ow,p.wo,p.we) else(p.nm,p.ow,p.wo,p.we))
 split
 .exact hf p
 .rfl
theorem Ld{s:HS}{x:Str}{f:Pt->Pt}(hf:∀p:Pt,(f p).nm=p.nm/\(f p).row=p.row/\(f p).sc=p.sc):∀p'∈(ko s x f).aj,∃p∈s.aj,p'.nm=p.nm/\p'.row=p.row/\p'.sc=p.sc:=λp' dN=>by
 obtain⟨p,hp,rfl⟩:=aZ.mp (show p'∈s.aj.map λp=>if p.nm=x then f p else p from dN);refine⟨p,hp,?_⟩;split
 .exact hf p
 .exact ⟨Z,Z,Z⟩
theorem VE.on{a b:HS}(h:VE a b)(x:Str)(f:Pt->Pt)(g:Q4->Q4)(hf:∀p:Pt,(f p).nm=p.nm/\(f p).row=p.row/\(f p).sc=p.sc)(hg:∀p:Pt,((f p).nm,(f p).ow,(f p).wo,(f p).we)=g (p.nm,p.ow,p.wo,p.we)):VE (ko a x f) (ko b x f):=by refine h.same (pa:=(ko a x f).aj) (pb:=(ko b x f).aj) ?_ (Ld hf) (Ld hf);have:=ze a x f g hg;rw[h.qd,<-ze b x f g hg]at this;exact this
theorem VE.stow{a b:HS}(h:VE a b)(sa:∀p∈a.aj,p.nm∈a.nms)(sb:∀p∈b.aj,p.nm∈b.nms){p q:Pt}(e1:p.nm=q.nm)(e2:p.ow=q.ow)(e3:p.wo=q.wo)(e4:p.we=q.we)(hn:p.nm∉a.nms)(ht:∀j,(aK a p).getD j 0*b.prod=(aK b q).getD j 0*a.prod):VE (wU a p) (wU b q):=by
 refine⟨h.own,by show a.nms++_=b.nms++_;rw[h.nms,e1],h.bO,?_,λp' dN q' hq' e j=>?_,h.pu⟩
 .have:=h.qd;unfold aV at this ⊢;show(a.aj++[p]).map _=(b.aj++[q]).map _;rw[bX,bX,this,bz,bz,e1,e2,e3,e4]
 .rw [Hg,Hg];show(aK a p').getD j 0*b.prod=(aK b q').getD j 0*a.prod;rcases fq.mp (show p'∈a.aj++[p]from dN)with z|z
  .rcases fq.mp (show q'∈b.aj++[q]from hq')with y|y
   .exact h.sh p' z q' y e j
   .rw [eO.mp y]at e;exact absurd (sa p' z) (by rw[e,<-e1];exact hn)
  .rcases fq.mp (show q'∈b.aj++[q]from hq')with y|y
   .rw [eO.mp z]at e;exact absurd (sb q' y) (by rw[<-e,<-h.nms];exact hn)
   .rw [eO.mp z,eO.mp y];exact ht j
theorem VE.load{a b:HS}(h:VE a b)(wa:Wf a)(wb:Wf b){x o:Str}{wo we:Int}(hn:x∉a.nms)(ho:o∈a.own):VE (Be a x o wo we) (Be b x o wo we):=by
 refine h.stow wa.sub wb.sub rfl rfl rfl rfl hn λj=>?_;have T:∀{s:HS},Wf s->aK s ⟨x,o,wo,we,1,lU s ((List.replicate s.own.length 0).set (s.own.idxOf o) s.prod)⟩=(List.replicate s.own.length 0).set (s.own.idxOf o) s.prod:=λ{s} wf=>Cj (by rw[iA,jW,wf.gD]);rw[T wa,T wb,<-h.own];have hi:=uu ho;rw[mQ (by rw[jW];exact hi),mQ (by rw[jW];exact hi)];split
 .exact pN _ _
 .rw [Ci,pO,pO]
theorem VE.sever{a b:HS}(h:VE a b)(wa:Wf a)(wb:Wf b){x y:Str}{u we:Int}(hx:x∈d9 a)(hn:y∉a.nms):VE (lz a x y u we) (lz b x y u we):=by
 obtain⟨i,p,e1,rfl⟩:=jz hx;have hp:=cC e1;obtain⟨q,hq,n1,n2,n3,n4⟩:=h.part hp;have o1:=h.on p.nm (λp=>{ p with wo:=p.wo-u,we:=p.we-we }) (λq=>(q.1,q.2.1,q.2.2.1-u,q.2.2.2-we)) (λp=>⟨Z,Z,Z⟩) (λp=>rfl);unfold lz;rw[bN wa hp rfl,bN wb hq n1];have S:∀{s:HS},Wf s->∀p'∈(ko s p.nm λp=>{ p with wo:=p.wo-u,we:=p.we-we }).aj,p'.nm∈s.nms:=λ{s} wf p' dN=>by obtain⟨z,hz,e,_⟩:=Ld (f:=λp=>{ p with wo:=p.wo-u,we:=p.we-we }) (λp=>⟨Z,Z,Z⟩) p' dN;rw[e];exact wf.sub z hz
 refine o1.stow (S wa) (S wb) rfl n2.symm rfl rfl hn λj=>?_;exact h.sh p hp q hq n1.symm j
theorem VE.land{a b:HS}(h:VE a b)(wa:Wf a)(wb:Wf b){x:Str}(hx:x∈d9 a):VE (rZ a x) (rZ b x):=by
 obtain⟨i,p,e1,rfl⟩:=jz hx;have hp:=cC e1;obtain⟨q,hq,n1,n2,n3,n4⟩:=h.part hp;have hs:=h.share wa wb hp hq n1.symm;have e2:=oS wb hq;rw[n1]at e2;rw[oS wa hp,e2];have hF:∀{l:List Pt},(l.filter λq:Pt=>decide (q.nm≠p.nm)).map (λp:Pt=>((p.nm,p.ow,p.wo,p.we):Q4))=(l.map λp:Pt=>((p.nm,p.ow,p.wo,p.we):Q4)).filter λz=>decide (z.1≠p.nm):=λ{l}=>by rw[List.filter_map];rfl
 refine⟨h.own,h.nms,?_,?_,λp' dN q' hq' e j=>?_,λj=>?_⟩
 .show a.bO++_=b.bO++_;rw[h.bO,hs,n2,n3]
 .show (a.aj.filter _).map _=(b.aj.filter _).map _;rw[hF,hF];exact eV (List.filter _) h.qd
 .exact h.sh p' ((m7.mp dN).1) q' ((m7.mp hq').1) e j
 .show (lV a p).getD j 0*b.prod=(lV b q).getD j 0*a.prod;have hi:a.own.idxOf p.ow<a.own.length:=uu (wa.ow p hp);have L:∀j,(gu a p).getD j 0*b.prod=(gu b q).getD j 0*a.prod:=λj=>by unfold gu;rw[oR (f:=λu t=>u+p.wo*t) (by show(0:Int)+p.wo*0=0;omega) (by rw[xg wa hp,wa.mG]),oR (f:=λu t=>u+q.wo*t) (by show(0:Int)+q.wo*0=0;omega) (by rw[xg wb hq,wb.mG]),n3];have x1:=h.pu j;have x2:=h.sh p hp q hq n1.symm j;rw[j9,j9,x1,iB,x2,iB]
  unfold lV;rw[n2,n3,<-h.own,mQ (by rw[sZ wa hp];exact hi),mQ (by rw[sZ wb hq,<-h.own];exact hi)];split
  .have:=L (a.own.idxOf p.ow);rw[Int.sub_mul,Int.sub_mul,this]
   grind
  .exact L j
theorem O4{l:List Int}{i j k:Nat}(hi:i<l.length)(hj:j<l.length):(GY l i j).getD k 0=if i=k then 0 else if j=k then l.getD j 0+l.getD i 0 else l.getD k 0:=by
 unfold GY;rw[mQ (by rw[iA];exact hi)];split
 .rfl
 .exact mQ hj
theorem VE.hand{a b:HS}(h:VE a b)(wa:Wf a)(wb:Wf b){x o:Str}(hx:x∈d9 a)(ho:o∈a.own):VE (ff a x o) (ff b x o):=by
 unfold ff;rw[<-h.own,<-(h.pg x).2.1];split
 .exact h
 refine⟨h.own,h.nms,h.bO,?_,λp' dN q' hq' e j=>?_,h.pu⟩
 .have:=ze a x (nh a o) (λq=>(q.1,o,q.2.2.1,q.2.2.2)) (λp=>rfl);rw[h.qd,<-ze b x (nh b o) (λq=>(q.1,o,q.2.2.1,q.2.2.2)) (λp=>rfl)]at this;exact this
 .obtain ⟨p,hp,rfl⟩:=aZ.mp (show p'∈a.aj.map λp=>if p.nm=x then nh a o p else p from dN);obtain⟨q,hq,rfl⟩:=aZ.mp (show q'∈b.aj.map λp=>if p.nm=x then nh b o p else p from hq');have nm:∀{s:HS}{p:Pt},(if p.nm=x then nh s o p else p).nm=p.nm:=λ{s p}=>by split <;> rfl
  rw[nm,nm]at e;show(aK a (if p.nm=x then nh a o p else p)).getD j 0*b.prod=(aK b (if q.nm=x then nh b o q else q)).getD j 0*a.prod;by_cases c:p.nm=x
  .rw [aC c,aC (e▸c),xh wa hp,xh wb hq,rB,rB];obtain⟨q2,hq2,n1,n2,_⟩:=h.part hp;have eq:q2=q:=by rw[<-bN wb hq2 rfl,<-bN wb hq rfl,n1,e]
   subst eq;rw[n2,<-h.own];have hi:a.own.idxOf p.ow<a.own.length:=uu (wa.ow p hp);have hj:a.own.idxOf o<a.own.length:=uu ho;have S:=h.sh p hp q2 hq e;have la:=xg wa hp;have lb:=xg wb hq;rw[<-h.own]at lb;rw[O4 (by rw[la];exact hi) (by rw[la];exact hj),O4 (by rw[lb];exact hi) (by rw[lb];exact hj)];split
   .rw [pO,pO]
   .split
    .rw [j9,j9,S,S]
    .exact S j
  .rw [aB c,aB (λz=>c (e.trans z))];exact h.sh p hp q hq e j
theorem VE.do{c c':Nat}{a b:HS}(h:VE a b)(wa:Wf a)(wb:Wf b)(ga:Go c a)(gb:Go c' b)(hc:c<=91)(hc':c'<=91){d:Dd}(hr:jr a d=none)(hk:d.k≠0):VE (iD a d) (iD b d):=by
 have hr2:jr b d=none:=(h.ref d)▸hr;cases d with
 | sign o=>exact absurd rfl hk
 | load x o wo we=>obtain⟨_,l2,l3,_⟩:=sX hr;exact h.load wa wb l2 l3
 | cast rs=>exact h.cast wa wb (ga.tD wa hc hr) (gb.tD wb hc' hr2)
 | award o x=>obtain⟨h1,h2,h3⟩:=yU hr;exact h.award wa wb (ga.aw wa hc) (gb.aw wb hc') h1 h2 h3
 | mishap x y=>exact h.less (x,y)
 | rise x y=>exact h.on x _ (λq=>(q.1,q.2.1,q.2.2.1+y,q.2.2.2)) (λp=>⟨Z,Z,Z⟩) (λp=>rfl)
 | hand x o=>
  have e:jx a x o=none:=hr;unfold jx at e;split at e
  .next hx=>
   split at e
   .next ho=>exact h.hand wa wb hx ho
   .cases e
  .cases e
 | land x=>exact h.land wa wb (pF hr)
 | sever x y u we=>obtain⟨h1,⟨_,h3⟩,_⟩:=kX hr;exact h.sever wa wb h1 h3
 | still=>exact h
def Q0(rs rs':List Row):Prop:=∀f:Str->Int,di rs f=di rs' f
theorem kY(rs rs':List Row)(f:Str->Int):di (rs++rs') f=di rs f+di rs' f:=by unfold di;rw[bX,Jf]
theorem iF(r:Row)(rs:List Row)(f:Str->Int):di (r::rs) f=r.2*f r.1+di rs f:=by unfold di;rw[bz,dg]
theorem fR(rs:List Row):aQ rs=di rs λ_=>1:=by unfold aQ di;exact eV List.sum (pI λr _=>(uE _).symm)
def gU(rs:List Row)(x:Str):Int:=di rs λy=>if y=x then 1 else 0
theorem mU(r:Row)(rs:List Row)(x:Str):gU (r::rs) x=(if r.1=x then r.2 else 0)+gU rs x:=by
 unfold gU;rw[iF];split
 .rw [uE]
 .rw [Int.mul_zero]
theorem Bp{rs:List Row}(h:∀r∈rs,1<=r.2)(x:Str):0<=gU rs x:=by
 induction rs with
 | nil=>exact kQ 0
 | cons r rs ih=>rw[mU];have:=ih λy hy=>h y (b7 _ hy);have:=h r cN;split <;> omega
theorem aaT{rs:List Row}(h:∀r∈rs,1<=r.2){r:Row}(hr:r∈rs):r.2<=gU rs r.1:=by
 induction rs with
 | nil=>cases hr
 | cons y rs ih=>
  rw[mU];have h0:=Bp (λz hz=>h z (b7 _ hz)) r.1;have hy:=h y cN;rcases b8.mp hr with z|z
  .subst z;rw[aC rfl];omega
  .have:=ih (λz hz=>h z (b7 _ hz)) z;split <;> omega
theorem E6(rs rs':List Row)(x:Str):gU (rs++rs') x=gU rs x+gU rs' x:=kY _ _ _
def AH(q:Q4):Bool:=decide (q.2.2.1≠0)
theorem Le{A B:Q4->Q4}:∀(qs:List Q4),(∀q∈qs,(A q).2.2.1=0->(B (A q)).2.2.1=0)->(((qs.map A).filter AH).map B).filter AH=(qs.map λq=>B (A q)).filter AH
 | [],_=>rfl
 | q::qs,h=>by
  have ih:=Le qs λx hx=>h x (b7 _ hx);rw[bz,bz,gC];by_cases c:(A q).2.2.1=0
  .have z:=h q cN c;rw[aB (by unfold AH;simpa using c),gC,aB (by unfold AH;simpa using z)];exact ih
  .rw [aC (by unfold AH;simpa using c),bz,gC,gC,ih]
theorem vA:∀(rs:List Row)(qs:List Q4),(∀q∈qs,0<q.2.2.1)->(∀r∈rs,1<=r.2)->(∀q∈qs,gU rs q.1<=q.2.2.1)->rs.foldl i_ qs=(qs.map λq:Q4=>((q.1,q.2.1,q.2.2.1-gU rs q.1,q.2.2.2):Q4)).filter AH
 | [],qs,h0,_,_=>by
  show qs=_;have e:qs.map (λq:Q4=>((q.1,q.2.1,q.2.2.1-gU [] q.1,q.2.2.2):Q4))=qs:=by refine(pI (g:=id) λq _=>?_).trans (List.map_id _);show(q.1,q.2.1,q.2.2.1-0,q.2.2.2)=q;rw[AZ]
  rw[e,ED.mpr λq hq=>by unfold AH;have:=h0 q hq;exact bq (by omega)]
 | r::rs,qs,h0,h1,h2=>by
  have r1:=h1 r cN;have hs:∀y∈rs,1<=y.2:=λy hy=>h1 y (b7 _ hy);have eL:i_ qs r=(qs.map λq:Q4=>if q.1=r.1 then((q.1,q.2.1,q.2.2.1-r.2,q.2.2.2):Q4) else q).filter AH:=rfl;have L:∀q'∈i_ qs r,0<q'.2.2.1/\gU rs q'.1<=q'.2.2.1:=λq' hq'=>by
   rw[eL]at hq';obtain⟨m,nz⟩:=m7.mp hq';obtain⟨q,hq,rfl⟩:=aZ.mp m;have a:=h2 q hq;have b:=h0 q hq;have t0:=Bp hs q.1;rw[mU]at a;have nz:(if q.1=r.1 then((q.1,q.2.1,q.2.2.1-r.2,q.2.2.2):Q4) else q).2.2.1≠0:=by unfold AH at nz;exact eF nz
   by_cases c:q.1=r.1
   .rw [aC c]at nz ⊢;rw[aC c.symm]at a;have nz:q.2.2.1-r.2≠0:=nz;show 0<q.2.2.1-r.2/\gU rs q.1<=q.2.2.1-r.2;omega
   .rw [aB c];rw[aB (λz=>c z.symm)]at a;omega
  show rs.foldl i_ (i_ qs r)=_;rw[vA rs _ (λq hq=>(L q hq).1) hs (λq hq=>(L q hq).2),eL,Le]
  .congr 1;refine pI λq _=>?_;rw[mU];by_cases c:q.1=r.1
   .rw [aC c,aC c.symm];show(q.1,q.2.1,q.2.2.1-r.2-gU rs q.1,q.2.2.2)=(q.1,q.2.1,q.2.2.1-(r.2+gU rs q.1),q.2.2.2)
    rw[Int.sub_sub]
   .rw [aB c,aB (λz=>c z.symm),wG]
  .intro q hq;have a:=h2 q hq;have b:=h0 q hq;have t0:=Bp hs q.1;rw[mU]at a;by_cases c:q.1=r.1
   .rw [aC c];rw[aC c.symm]at a;show q.2.2.1-r.2=0->q.2.2.1-r.2-gU rs q.1=0;omega
   .rw [aB c];intro z;omega
theorem DU{f g:Str->Int}{x y z u:Int}:∀(rs:List Row),(∀r∈rs,f r.1*x=(g r.1*y+z)*u)->di rs f*x=(di rs g*y+aQ rs*z)*u
 | [],_=>by show(0:Int)*x=(0*y+0*z)*u;grind
 | r::rs,R=>by
  have h1:=R r cN;have h2:=DU rs λw hw=>R w (b7 _ hw);rw[iF,iF,show aQ (r::rs)=r.2+aQ rs from by unfold aQ;rw[bz,dg],j9,h2,iB,h1]
  grind
structure ux(st:HS)(rs:List Row):Prop where
 row:∀r∈rs,1<=r.2/\r.1∈d9 st
 tot:∀p∈st.aj,gU rs p.nm<=p.wo
 lost:aQ rs<aE st
theorem ux.agC{st:HS}{rs rs':List Row}(h:ux st rs)(a:Q0 rs rs')(row:∀r∈rs',1<=r.2/\r.1∈d9 st):ux st rs':=⟨row,λp hp=>by unfold gU;rw[<-a];exact h.tot p hp,by rw[fR,<-a,<-fR];exact h.lost⟩
theorem ux.left{st:HS}{rs rs':List Row}(h:ux st (rs++rs')):ux st rs:=by
 have l0:0<=aQ rs':=qZ λx hx=>(h.row x (gv _ hx)).1;refine⟨λr hr=>h.row r (uS _ hr),λp hp=>?_,?_⟩
 .have:=h.tot p hp;rw[E6]at this;have:=Bp (rs:=rs') (λx hx=>(h.row x (gv _ hx)).1) p.nm;omega
 .have:=h.lost;rw[fR,kY,<-fR,<-fR]at this;omega
structure pG(st:HS)(rs:List Row)(s:HS):Prop where
 own:s.own=st.own
 nms:s.nms=st.nms
 bO:s.bO=st.bO
 qd:aV s=rs.foldl i_ (aV st)
 wh:aE s=aE st-aQ rs
 sh:∀p∈st.aj,∀p'∈s.aj,p'.nm=p.nm->∀j,(aK s p').getD j 0*(st.prod*aE st)=((aK st p).getD j 0*(aE st-aQ rs)+di rs (λx=>(aK st (bJ st x)).getD j 0))*s.prod
 pu:∀j,s.bH.getD j 0*st.prod=st.bH.getD j 0*s.prod
theorem pG.nil{st:HS}(wf:Wf st):pG st [] st:=by
 refine⟨Z,Z,Z,Z,by show _=_-(0:Int);omega,λp hp p' dN e j=>?_,λj=>rfl⟩;have:p'=p:=by rw[<-bN wf dN rfl,<-bN wf hp rfl,e]
 rw[this];show _=(_*(aE st-0)+0)*_
 grind
theorem yi:∀(rs:List Row)(qs:List Q4),∀q'∈rs.foldl i_ qs,∃q∈qs,q.1=q'.1
 | [],qs,q',h=>⟨q',h,Z⟩
 | r::rs,qs,q',h=>by obtain⟨q1,h1,e1⟩:=yi rs (i_ qs r) q' h;obtain⟨q,hq,e⟩:=aZ.mp (m7.mp h1).1;refine⟨q,hq,?_⟩;rw[<-e1,<-e];split <;> rfl
theorem pG.sub{st:HS}{rs:List Row}{s:HS}(b:pG st rs s){p':Pt}(dN:p'∈s.aj):∃p∈st.aj,p.nm=p'.nm:=by have m:((p'.nm,p'.ow,p'.wo,p'.we):Q4)∈aV s:=aZ.mpr ⟨p',dN,Z⟩;rw[b.qd]at m;obtain⟨q,hq,e⟩:=yi _ _ _ m;obtain⟨p,hp,rfl⟩:=aZ.mp hq;exact⟨p,hp,e⟩
theorem pG.cast{st:HS}{nT rs:List Row}{s:HS}(b:pG st nT s)(wf:Wf st)(ws:Wf s)(w0:0<aE st)(c:jO s rs):pG st (nT++rs) (cV s rs):=by
 have bl:=c.blend ws;have eA:cV s rs={ aN s (aE s-aQ rs) (aE s) (dW s rs)with aj:=(cV s rs).aj }:=jP rs _;have la:aQ (nT++rs)=aQ nT+aQ rs:=by rw[fR,kY,<-fR,<-fR]
 have bO:∀(s:HS)(k w:Int)(g:List Int),(aN s k w g).bO=s.bO/\(aN s k w g).own=s.own/\(aN s k w g).nms=s.nms:=λs k w g=>by unfold aN;rw[kO,kN,mJ];exact⟨Z,Z,Z⟩
 have P0:0<st.prod:=by have:=wf.eE;omega
 have P1:0<s.prod:=by have:=ws.eE;omega
 refine⟨(q_ s rs).trans b.own,?_,?_,?_,by rw[QZ ws c,b.wh,la];omega,λp hp p2 hp2 e j=>?_,λj=>?_⟩
 .rw [eA];exact(bO _ _ _ _).2.2.trans b.nms
 .rw [eA];exact(bO _ _ _ _).1.trans b.bO
 .show aV (cV s rs)=_;unfold cV;rw[p_,kU,b.qd,BR]
 .obtain ⟨pa,hpa,n1,r1,s1⟩:=yQ rs hp2;obtain⟨p1,hp1,n2,r2,s2⟩:=tF hpa;have n12:p1.nm=p.nm:=by rw[<-n2,<-n1,e]
  have t:=wZ ws bl (show(cV s rs).bD=_ by rw[eA]) (show(cV s rs).prod=_ by rw[eA]) hp1 (r1.trans r2) (s1.trans s2) (j:=j) (t0:=(aK s p1).getD j 0) (gB:=(dW s rs).getD j 0) (B:=s.prod) rfl rfl;have hs1:=b.sh p hp p1 hp1 n12 j;have ex:∀r∈rs,∃q∈s.aj,q.nm=r.1:=λr hr=>let⟨_,_,q,hq,e,_⟩:=c.row r hr;⟨q,hq,e⟩;have eG:(dW s rs).getD j 0=di rs λx=>(aK s (bJ s x)).getD j 0:=by
   rw[wY ws ex,Cf rs _ (λr hr=>by obtain⟨q,hq,e⟩:=ex r hr;rw[bN ws hq e,jW,qX ws hq])]
   have:(List.replicate s.bD.length (0:Int)).getD j 0=0:=by rw[kK,PJ];split <;> rfl
   rw[this,wG]
  have R:∀r∈rs,(aK s (bJ s r.1)).getD j 0*(st.prod*aE st)=((aK st (bJ st r.1)).getD j 0*(aE st-aQ nT)+di nT (λx=>(aK st (bJ st x)).getD j 0))*s.prod:=λr hr=>by obtain⟨q,hq,e⟩:=ex r hr;obtain⟨q0,hq0,e0⟩:=b.sub hq;rw[bN ws hq e,bN wf hq0 (e0.trans e)];exact b.sh q0 hq0 q hq e0.symm j
  have g1:(dW s rs).getD j 0*(st.prod*aE st)=(di rs (λx=>(aK st (bJ st x)).getD j 0)*(aE st-aQ nT)+aQ rs*di nT (λx=>(aK st (bJ st x)).getD j 0))*s.prod:=by rw[eG];exact DU rs R
  rw[kY,la];have wk:aE s=aE st-aQ nT:=b.wh;rw[wk]at t;have W1:0<aE st-aQ nT:=by have:=bl.k;have:=bl.l;have:=bl.w;omega
  generalize (aK (cV s rs) p2).getD j 0=T2 at *;generalize (aK s p1).getD j 0=T1 at *;generalize (aK st p).getD j 0=T0 at *;generalize (dW s rs).getD j 0=G1 at *;generalize di nT (λx=>(aK st (bJ st x)).getD j 0)=G0 at *;generalize di rs (λx=>(aK st (bJ st x)).getD j 0)=G at *;generalize (cV s rs).prod=P2 at *;have bw:0<s.prod*(aE st-aQ nT):=wH P1 W1;refine BL (a:=s.prod*(aE st-aQ nT)) (by omega) ?_;generalize aE st=W at *;generalize aQ nT=L0 at *;generalize aQ rs=L at *;have l1:s.prod*(W-L0)*(T2*(st.prod*W))=(T2*(s.prod*(W-L0)))*(st.prod*W):=by grind
  rw[l1,<-t];have l2:(T1*(W-L0-L)+G1)*P2*(st.prod*W)=((T1*(st.prod*W))*(W-L0-L)+G1*(st.prod*W))*P2:=by grind
  rw[l2,hs1,g1]
  grind
 .obtain ⟨a1,a2⟩:=Cq bl;rw[show(cV s rs).bH=(aN s (aE s-aQ rs) (aE s) (dW s rs)).bH by rw[eA],show(cV s rs).prod=(aN s (aE s-aQ rs) (aE s) (dW s rs)).prod by rw[eA],a1,a2,zb];have:=b.pu j;generalize s.bH.getD j 0=x at *;generalize st.bH.getD j 0=y at *;generalize aE s / cA s (aE s-aQ rs) (aE s) (dW s rs)=z at *;have l1:x*z*st.prod=(x*st.prod)*z:=by grind
  rw[l1,this]
  grind
theorem pG.alike{st:HS}{rs rs':List Row}{s s':HS}(b:pG st rs s)(b':pG st rs' s')(wf:Wf st)(w0:0<aE st)(f:ux st rs)(f':ux st rs')(a:Q0 rs rs'):VE s s':=by
 have P0:0<st.prod:=by have:=wf.eE;omega
 have lo:aQ rs=aQ rs':=by rw[fR,fR];exact a _
 have qp:∀q∈aV st,0<q.2.2.1:=vt wf;have T:∀{rs:List Row},ux st rs->∀q∈aV st,gU rs q.1<=q.2.2.1:=λ{rs} f q hq=>by obtain⟨p,hp,rfl⟩:=aZ.mp hq;exact f.tot p hp
 refine⟨b.own.trans b'.own.symm,b.nms.trans b'.nms.symm,b.bO.trans b'.bO.symm,?_,λp hp q hq e j=>?_,λj=>?_⟩
 .rw [b.qd,b'.qd,vA rs _ qp (λr hr=>(f.row r hr).1) (T f),vA rs' _ qp (λr hr=>(f'.row r hr).1) (T f')];congr 1;refine pI λq _=>?_;rw[show gU rs q.1=gU rs' q.1 from a _]
 .obtain ⟨p0,hp0,e0⟩:=b.sub hp;have h1:=b.sh p0 hp0 p hp e0.symm j;have h2:=b'.sh p0 hp0 q hq (e.symm.trans e0.symm) j;rw[<-lo,<-a]at h2;have bw:0<st.prod*aE st:=wH P0 w0;refine BL (a:=st.prod*aE st) (by omega) ?_;generalize (aK s p).getD j 0=x at *;generalize (aK s' q).getD j 0=y at *;have l1:st.prod*aE st*(x*s'.prod)=x*(st.prod*aE st)*s'.prod:=by grind
  have l2:st.prod*aE st*(y*s.prod)=y*(st.prod*aE st)*s.prod:=by grind
  rw[l1,l2,h1,h2]
  grind
 .have h1:=b.pu j;have h2:=b'.pu j;refine BL (a:=st.prod) (by omega) ?_;generalize s.bH.getD j 0=x at *;generalize s'.bH.getD j 0=y at *;have l1:st.prod*(x*s'.prod)=(x*st.prod)*s'.prod:=by grind
  have l2:st.prod*(y*s.prod)=(y*st.prod)*s.prod:=by grind
  rw[l1,l2,h1,h2]
  grind
theorem pG.jR{st:HS}{nT rs:List Row}{s:HS}(b:pG st nT s)(wf:Wf st)(ws:Wf s)(f:ux st (nT++rs))(nd:(rs.map λr:Row=>r.1).Nodup)(ne:rs≠[]):L2.jR s rs=none:=by
 have f0:=f.left;have r1:∀r∈rs,1<=r.2:=λr hr=>(f.row r (gv _ hr)).1;refine Vt ws nd (λr hr=>⟨r1 r hr,?_⟩) ?_ ne
 .obtain ⟨_,hm⟩:=f.row r (gv _ hr);obtain⟨i,p,e1,en⟩:=jz hm;have hp:=cC e1;have t:=f.tot p hp;rw[E6,en]at t;have g:=aaT r1 hr;have rr:=r1 r hr;have eq:=vA nT (aV st) (vt wf) (λx hx=>(f0.row x hx).1) (λq hq=>by obtain⟨z,hz,rfl⟩:=aZ.mp hq;exact f0.tot z hz);have m:((p.nm,p.ow,p.wo-gU nT p.nm,p.we):Q4)∈aV s:=by rw[b.qd,eq];refine m7.mpr ⟨aZ.mpr ⟨(p.nm,p.ow,p.wo,p.we),aZ.mpr ⟨p,hp,Z⟩,Z⟩,?_⟩;unfold AH;exact bq (by show p.wo-gU nT p.nm≠0;rw[en];omega)
  obtain⟨q,hq,e⟩:=aZ.mp m;have e3:q.nm=p.nm:=eV (λz:Q4=>z.1) e;have e4:q.wo=p.wo-gU nT p.nm:=eV (λz:Q4=>z.2.2.1) e;exact⟨(q.nm,q.wo),aZ.mpr ⟨q,hq,Z⟩,e3.trans en,by show r.2<=q.wo;rw[e4,en];omega⟩
 .have:=f.lost;rw[fR,kY,<-fR,<-fR]at this;rw[b.wh];omega
def DV(st:HS):PyData:=.list [.list (st.own.map PyData.str),.list (st.aj.map SY),.list (st.aj.map λp=> .list ((gQ st p).map O3)),.list (st.bO.map Vv),.int (aE st),.list ((st.own.map (tE st)).map ZQ)]
theorem Cr{α:Type}{f g:Pt->α}:∀{ps qs:List Pt},(ps.map λp:Pt=>((p.nm,p.ow,p.wo,p.we):Q4))=(qs.map λp:Pt=>((p.nm,p.ow,p.wo,p.we):Q4))->(∀p∈ps,∀q∈qs,p.nm=q.nm->p.ow=q.ow->p.wo=q.wo->p.we=q.we->f p=g q)->ps.map f=qs.map g
 | [],[],_,_=>rfl
 | [],_::_,h,_=>by cases h
 | _::_,[],h,_=>by cases h
 | p::ps,q::qs,h,hh=>by rw[bz,bz]at h;have h1:=List.head_eq_of_cons_eq h;have ih:=Cr (List.tail_eq_of_cons_eq h) λa ha b hb=>hh a (b7 _ ha) b (b7 _ hb);rw[bz,bz,ih,hh p cN q cN (eV (λz:Q4=>z.1) h1) (eV (λz:Q4=>z.2.1) h1) (eV (λz:Q4=>z.2.2.1) h1) (eV (λz:Q4=>z.2.2.2) h1)]
theorem VE.snap{a b:HS}(h:VE a b)(wa:Wf a)(wb:Wf b):DV a=DV b:=by unfold DV;rw[Cr (g:=SY) h.qd λp _ q _ e1 e2 e3 e4=>by unfold SY;rw[e1,e2,e3,e4],Cr (g:=λq=>PyData.list ((gQ b q).map O3)) h.qd λp hp q hq e _ _ _=>by rw[h.share wa wb hp hq e],h.own,h.bO,h.whole,pI λo _=>h.tE wa wb o]
theorem O5{c:Nat}{st:HS}(g:Go c st)(wf:Wf st)(mo:Mo c st)(an:An st):Pd (DV st) 8:=by
 have up:∀{d:PyData}{n m:Nat},Pd d n->n<=m->Pd d m:=λ{d n m} h=>by
  induction h generalizing m with
  | str e=>exact λ_=> .str e
  | int=>exact λ_=> .int
  | list _ ih=>intro hm;obtain⟨k,e⟩:∃k,m=k+1:=⟨m-1,by omega⟩;subst e;exact .list λd hd=>ih d hd (by omega)
  | tuple _ ih=>intro hm;obtain⟨k,e⟩:∃k,m=k+1:=⟨m-1,by omega⟩;subst e;exact .tuple λd hd=>ih d hd (by omega)
 have Lf:∀o∈st.own,PyData.strOk o=true:=λo ho=>yS (g.on o ho);have agD:∀p∈st.aj,PyData.strOk p.nm=true:=λp hp=>yS (g.nk _ (wf.sub p hp));refine .list λd hd=>?_;rcases b8.mp hd with rfl|hd
 .exact up (vz (n:=0) λx hx=> .str (Lf x hx)) (by omega)
 rcases b8.mp hd with rfl|hd
 .exact up (vz λp hp=>aaS (agD p hp) (Lf _ (wf.ow p hp))) (by omega)
 rcases b8.mp hd with rfl|hd
 .exact up (vz λp hp=>vz λx hx=>S0 (Lf _ (MX (st:=st) (p:=p) hx))) (by omega)
 rcases b8.mp hd with rfl|hd
 .exact up (vz λa ha=>YA (yS (an a ha)) (Lf _ (mo.ao a ha)) λz hz=>Lf _ ((g.bO a ha).names hz)) (by omega)
 rcases b8.mp hd with rfl|hd
 .exact .int
 rcases b8.mp hd with rfl|hd
 .exact up (vz λq _=>pd2 (n:=0) .int .int) (by omega)
 cases hd
theorem rC{ρ ρ':cu}{H H':Hp}(G:Gh ρ H)(s:aR (out ρ H) (out ρ' H')):∀b xs,H b=some (.tup xs)->H' b=some (.tup xs):=λb xs e=>(iV (s _ _ (lu e (G.tup e)))).1
inductive vB(a:Addr)(ρ:cu)(H:Hp)(st:HS):List V->List Pt->Prop
 | nil:vB a ρ H st [] []
 | cons {z:Addr} {us vs:List V} {p:Pt} {ps:List Pt}:H z=some (.lst us)->ρ z=none->z≠a->jm H us (gQ st p)->vB a ρ H st vs ps->vB a ρ H st (.ref z::vs) (p::ps)
theorem vB.keep{a:Addr}{ρ ρ':cu}{H H':Hp}{st:HS}{vs:List V}{ps:List Pt}(h:vB a ρ H st vs ps)(hl:∀z us,H z=some (.lst us)->ρ z=none->z≠a->H' z=some (.lst us)/\ρ' z=none)(ht:∀b xs,H b=some (.tup xs)->H' b=some (.tup xs)):vB a ρ' H' st vs ps:=by
 induction h with
 | nil=>exact .nil
 | cons e1 e2 e3 e4 _ ih=>obtain⟨x,y⟩:=hl _ _ e1 e2 e3;exact .cons x y e3 (e4.mono ht) ih
theorem vB.snoc{a:Addr}{ρ:cu}{H:Hp}{st:HS}{vs us:List V}{ps:List Pt}{z:Addr}{p:Pt}(h:vB a ρ H st vs ps)(e1:H z=some (.lst us))(e2:ρ z=none)(e3:z≠a)(e4:jm H us (gQ st p)):vB a ρ H st (vs++[.ref z]) (ps++[p]):=by
 induction h with
 | nil=>exact .cons e1 e2 e3 e4 .nil
 | cons a b c d _ ih=>exact .cons a b c d ih
theorem vB.dt{K:Fg}{a:Addr}{ρ:cu}{H:Hp}{st:HS}{vs:List V}{ps:List Pt}(h:vB a ρ H st vs ps):uw K H vs (ps.map λp=> .list ((gQ st p).map O3)):=by
 induction h with
 | nil=>exact .nil
 | cons e1 _ _ e4 _ ih=>exact .cons (.lst (aI.of e1) e4.dt) ih
theorem kj.outs{ρ ρ':cu}{H H':Hp}{vs:List V}{l:List kL}(h:kj ρ H vs l)(G:Gh ρ H)(s:aR (out ρ H) (out ρ' H')):kj ρ' H' vs l:=by
 induction h with
 | nil=>exact .nil
 | cons a b c d _ ih=>exact .cons (rC G s _ _ a) (iV (s _ _ (lu b c))).1 (iV (s _ _ (lu b c))).2 (d.mono (rC G s)) ih
theorem HH.wrO{T:TC}{n:Nat}{ρ:cu}{A:HA}{H:Hp}{st:HS}(h:HH T n ρ A H st){a:Addr}{o u:HO}(c:ρ a=none)(e:H a=some u)(tu:isTup u=false)(t:isTup o=false):HH T n ρ A (upd H a o) st:=⟨h.g.wr t,h.h.same (sV c e tu),h.wf⟩
inductive adp(T:TC)(K:Fg)(vs:List V)(H:Hp)(Q:VK)(E:XK):Prop
 |mk(n:Nat)(ρ:cu)(A:HA)(st:HS)(_:vs=[.ref A.a])(_:HH T n ρ A H st)(_:st.kn+100*st.aj.length<=1000000)(_:∀r k H',HH T n ρ A H' { st with kn:=k }->k<=st.kn+100*st.aj.length->Fr n ρ H ρ H'->(∀ρ' zJ,aR (out ρ H':_) (out ρ' zJ:_)->Dt K zJ (.ref r) (DV st))->Q (.ref r) H')
def S_(T:TC)(K:Fg):Sp:=bx (adp T K)
inductive nU(a:Addr)(ρ:cu)(H:Hp):List V->List (List Row)->Prop
 | nil:nU a ρ H [] []
 | cons {z:Addr} {zs vs:List V} {rs:List Row} {cs:List (List Row)}:H z=some (.lst zs)->ρ z=none->z≠a->dH H zs rs->nU a ρ H vs cs->nU a ρ H (.ref z::vs) (rs::cs)
theorem nU.keep{a:Addr}{ρ ρ':cu}{H H':Hp}{vs:List V}{cs:List (List Row)}(h:nU a ρ H vs cs)(hl:∀z us,H z=some (.lst us)->ρ z=none->z≠a->H' z=some (.lst us)/\ρ' z=none)(ht:∀b xs,H b=some (.tup xs)->H' b=some (.tup xs)):nU a ρ' H' vs cs:=by
 induction h with
 | nil=>exact .nil
 | cons e1 e2 e3 e4 _ ih=>obtain⟨x,y⟩:=hl _ _ e1 e2 e3;exact .cons x y e3 (e4.mono ht) ih
theorem nU.outs{a:Addr}{ρ ρ':cu}{H H':Hp}{vs:List V}{cs:List (List Row)}(h:nU a ρ H vs cs)(G:Gh ρ H)(s:aR (out ρ H) (out ρ' H')):nU a ρ' H' vs cs:=h.keep (λ_ _ e c _=>iV (s _ _ (lu e c))) (rC G s)
theorem nU.snoc{a:Addr}{ρ:cu}{H:Hp}{vs zs:List V}{cs:List (List Row)}{z:Addr}{rs:List Row}(h:nU a ρ H vs cs)(e1:H z=some (.lst zs))(e2:ρ z=none)(e3:z≠a)(e4:dH H zs rs):nU a ρ H (vs++[.ref z]) (cs++[rs]):=by
 induction h with
 | nil=>exact .cons e1 e2 e3 e4 .nil
 | cons a b c d _ ih=>exact .cons a b c d ih
theorem nU.length{a:Addr}{ρ:cu}{H:Hp}{vs:List V}{cs:List (List Row)}(h:nU a ρ H vs cs):vs.length=cs.length:=by
 induction h with
 | nil=>rfl
 | cons _ _ _ _ _ ih=>simp[ih]
theorem nU.get{a:Addr}{ρ:cu}{H:Hp}{vs:List V}{cs:List (List Row)}(h:nU a ρ H vs cs):∀{i:Nat}{x:V},vs[i]?=some x->∃z zs rs,x =.ref z/\cs[i]?=some rs/\H z=some (.lst zs)/\ρ z=none/\z≠a/\dH H zs rs:=by
 induction h with
 | nil=>intro i x e;simp at e
 | @cons z zs vs rs cs e1 e2 e3 e4 _ ih=>
  intro i x e;cases i with
  | zero=>simp at e;subst e;exact⟨z,zs,rs,Z,Z,e1,e2,e3,e4⟩
  | succ i=>simp at e;obtain⟨z',zs',rs',f1,f2,f3⟩:=ih e;exact⟨z',zs',rs',f1,by simpa using f2,f3⟩
inductive aaU(K:Fg)(vs:List V)(H:Hp)(Q:VK)(E:XK):Prop
 |mk(n c m:Nat)(ρ:cu)(B:LA)(st:HS)(a:Addr)(ns:List Int)(k:Int)(nms:List Str)(many:Nat)(_:vs=[.ref a,.int k,.ref B.m,.int (many:Int)])(_:Gh ρ H)(_:bV n ρ B H (d_ st))(_:GW c m st)(_:c+many<=91)(_:m+100*many<=1000000)(_:st.own.length<100)(_:yd K ρ H a (ns.map V.int))(_:ns.length<=63)(_:0<=k)(_:k<=100000)(_:Nx nms st)(_:nms.length<=50)(_:∀l ws cs ρ' B' H',Gh ρ' H'->bV n ρ' B' H' (d_ (cL st (cs.map Dd.cast)))->B'.m=B.m->Fr n ρ H ρ' H'->H' l=some (.lst ws)->ρ' l=none->nU l ρ' H' ws cs->mT st (cs.map Dd.cast)->cs.length<=many->Nx nms (cL st (cs.map Dd.cast))->Q (.ref l) H')
def O6(K:Fg):Sp:=bx (aaU K)
theorem Vw{c:Nat}{st:HS}(g:Go c st){rs:List Row}(h:KD (mR st) rs)(hp:st.aj.length<=50)(wf:Wf st):KI (.cast rs):=by refine⟨by have:=h.len;unfold mR at this;rw[aG]at this;omega,λr hr=>?_⟩;obtain⟨r1,r2,w,hw,e,_⟩:=h.row r hr;obtain⟨p,hp,rfl⟩:=aZ.mp hw;have e:p.nm=r.1:=e;exact⟨by rw[<-e];exact pC (g.nk _ (wf.sub p hp)),by unfold nB;omega⟩
section
variable {a:Addr}{ρ:cu}{H:Hp}
end
theorem mT.cs{st:HS}{cs:List (List Row)}(h:mT st (cs.map Dd.cast)):∀(i:Nat)(rs:List Row),cs[i]?=some rs->jR (cL st ((cs.take i).map Dd.cast)) rs=none:=λi rs e=>by have:=(h i (.cast rs) (by rw[cK,e];rfl)).1;rw[<-CU]at this;exact this
theorem aaV{rs:List Row}(nd:(rs.map λr:Row=>r.1).Nodup){r:Row}(hr:r∈rs):gU rs r.1=r.2:=by
 induction rs with
 | nil=>cases hr
 | cons y rs ih=>
  obtain⟨n1,n2⟩:=fU.mp nd;rw[mU];have z:∀{l:List Row}{x:Str},x∉(l.map λr:Row=>r.1)->gU l x=0:=λ{l x} h=>by
   induction l with
   | nil=>rfl
   | cons w l ih=>rw[mU,aB (λe=>h (by rw[bz];exact b8.mpr (.inl e.symm))),ih λe=>h (by rw[bz];exact b7 _ e)];rfl
  rcases b8.mp hr with e|e
  .subst e;rw[aC rfl,z n1];omega
  .rw [aB (λw=>n1 (by show y.1∈_;rw[w];exact aZ.mpr ⟨r,e,Z⟩)),ih n2 e];omega
theorem YB{l:List Row}{x:Str}(h:x∉(l.map λr:Row=>r.1)):gU l x=0:=by
 induction l with
 | nil=>rfl
 | cons w l ih=>rw[mU,aB (λe=>h (by rw[bz];exact b8.mpr (.inl e.symm))),ih λe=>h (by rw[bz];exact b7 _ e)];rfl
theorem Lg{c m:Nat}{st:HS}{cs:List (List Row)}(h:mT st (cs.map Dd.cast))(g:GW c m st)(hc:c+cs.length<=91)(hm:m+100*cs.length<=1000000)(ho:st.own.length<100):∀i≤cs.length,pG st (cs.take i).flatten (cL st ((cs.take i).map Dd.cast))/\(∀r∈(cs.take i).flatten,1<=r.2/\r.1∈d9 st)/\(∀p∈st.aj,gU (cs.take i).flatten p.nm<=p.wo)/\(0<i->aQ (cs.take i).flatten<aE st/\0<aE st):=by
 intro i
 induction i with
 | zero=>exact λ_=>⟨pG.nil g.wf,λr hr=>absurd hr (by simp),λp hp=>by show(0:Int)<=_;have:=(g.wf.jK p hp).1;omega,λz=>absurd z (by omega)⟩
 | succ i ih=>
  intro hi;obtain⟨b,r1,t1,l1⟩:=ih (by omega);have ei:=bK (show i<cs.length by omega);generalize cs[i]=rs at ei;have cr:=h.cs i rs ei;have gi:=(h.go g (by rw[aG];exact hc) (by rw[aG];exact hm) ho i (by rw[aG];omega)).1;rw[<-CU]at gi;have ok:=gi.g.tD gi.wf (by omega) cr;obtain⟨_,nd,rw',hl⟩:=s_ cr;have r0:∀r∈rs,1<=r.2:=λr hr=>(j0 (rw' r hr)).2.1;have lr:0<=aQ rs:=qZ r0;have l0:0<=aQ (cs.take i).flatten:=qZ λx hx=>(r1 x hx).1;have w0:0<aE st:=by rw[b.wh]at hl;omega
  have la:aQ ((cs.take i).flatten++rs)=aQ (cs.take i).flatten+aQ rs:=by rw[fR,kY,<-fR,<-fR]
  have e:(cs.take (i+1)).flatten=(cs.take i).flatten++rs:=by rw[take_snoc ei,PR];simp
  have e2:cL st ((cs.take (i+1)).map Dd.cast)=cV (cL st ((cs.take i).map Dd.cast)) rs:=by rw[take_snoc ei,bX];exact iE _ _ _
  rw[e,e2];refine⟨b.cast g.wf gi.wf w0 ok,λr hr=>?_,λp hp=>?_,λ_=>⟨?_,w0⟩⟩
  .rcases fq.mp hr with z|z
   .exact r1 r z
   .obtain ⟨_,_,q,hq,eq,_⟩:=ok.row r z;obtain⟨p,hp,ep⟩:=b.sub hq;exact⟨r0 r z,aZ.mpr ⟨p,hp,ep.trans eq⟩⟩
  .rw [E6];by_cases hx:p.nm∈rs.map λr:Row=>r.1
   .obtain ⟨r,hr,er⟩:=aZ.mp hx;have er:r.1=p.nm:=er;obtain⟨_,_,q,hq,eq,hle⟩:=ok.row r hr;have ft:=vA (cs.take i).flatten (aV st) (vt g.wf) (λx hx=>(r1 x hx).1) (λq hq=>by obtain⟨z,hz,rfl⟩:=aZ.mp hq;exact t1 z hz);have mq:((q.nm,q.ow,q.wo,q.we):Q4)∈aV (cL st ((cs.take i).map Dd.cast)):=aZ.mpr ⟨q,hq,Z⟩;rw[b.qd,ft]at mq;obtain⟨y,hy,ey⟩:=aZ.mp (m7.mp mq).1;obtain⟨p2,hp2,rfl⟩:=aZ.mp hy;have n1:p2.nm=q.nm:=eV (λz:Q4=>z.1) ey;have n3:p2.wo-gU (cs.take i).flatten p2.nm=q.wo:=eV (λz:Q4=>z.2.2.1) ey;have pp:p2=p:=by rw[<-bN g.wf hp2 rfl,<-bN g.wf hp rfl,n1,eq,er]
    subst pp;rw[<-er,aaV nd hr,er];omega
   .rw [YB hx];have:=t1 p hp;omega
  .rw [la];rw[b.wh]at hl;omega
theorem Tc{st:HS}(wf:Wf st)(h:st.aj≠[]):0<aE st:=by
 unfold aE;have w:=wf.jK;cases hp:st.aj with
 | nil=>exact absurd hp h
 | cons p ps=>
  rw[hp]at w;have a:=(w p cN).1;have b:0<=(ps.map λp=>p.wo).sum:=SG λx hx=>by obtain⟨q,hq,rfl⟩:=aZ.mp hx;have:=(w q (b7 _ hq)).1;omega
  rw[bz,dg];show 0<p.wo+_;omega
theorem Lh:∀rs:List Row,rs.foldl i_ []=[]
 | []=>rfl
 | r::rs=>Lh rs
theorem MY{st:HS}{rs rs':List Row}{s s':HS}(b:pG st rs s)(b':pG st rs' s')(wf:Wf st)(h1:st.aj≠[]->ux st rs)(h2:st.aj≠[]->ux st rs')(a:Q0 rs rs'):VE s s':=by
 by_cases e:st.aj=[]
 .have q0:aV st=[] :=by unfold aV;rw[e];rfl
  have z:∀{rs:List Row}{s:HS},pG st rs s->aV s=[]/\s.aj=[] :=λ{rs s} b=>by have:=b.qd;rw[q0,Lh]at this;exact⟨this,by unfold aV at this;exact List.map_eq_nil_iff.mp this⟩
  have P0:0<st.prod:=by have:=wf.eE;omega
  refine⟨b.own.trans b'.own.symm,b.nms.trans b'.nms.symm,b.bO.trans b'.bO.symm,by rw[(z b).1,(z b').1],λp hp=>?_,λj=>?_⟩
  .rw [(z b).2]at hp;cases hp
  .have h1:=b.pu j;have h2:=b'.pu j;refine BL (a:=st.prod) (by omega) ?_;generalize s.bH.getD j 0=x at *;generalize s'.bH.getD j 0=y at *;have l1:st.prod*(x*s'.prod)=(x*st.prod)*s'.prod:=by grind
   have l2:st.prod*(y*s.prod)=(y*st.prod)*s.prod:=by grind
   rw[l1,l2,h1,h2]
   grind
 .exact b.alike b' wf (Tc wf e) (h1 e) (h2 e) a
def agE(x:Str):Value->Bool
 | .str y _=>decide (y=x)
 | _=>false
theorem Hs{X:Cx}(K:Fg)(hK:X.K=K:=by rfl):MtR X "list.index" (λx vs H Q=>∃(a:Addr)(xs:List Str)(n:Str),x =.ref a/\vs=[.str n]/\aI K H a (xs.map V.str)/\n∈xs/\Q (.int ((xs.idxOf n:Nat):Int)) H):=by
 intro pins s σ H x vs v us Q I rx rv h;obtain⟨a,xs,n,rfl,rfl,hl,hn,q⟩:=h;cases rx;obtain⟨u,rfl,t',rfl⟩:=vals1 rv;subst hK;obtain⟨its,r,hp,hz⟩:=I.list hl;obtain⟨⟨c,d,da,sl⟩,m,hp,e1,e2,e3⟩:=hp;cases e1;cases e2;cases e3;have hlen:its.length=xs.length:=by have:=r.length;simpa using this.symm
 have hj:=uu hn;have hget:∀(i:Nat)(hi:i<its.length),∃t,its[i] =.str (xs[i]'(by omega)) t:=λi hi=>by obtain⟨w,e,t,rfl⟩:=r.get (i:=i) (x:=.str (xs[i]'(by omega))) (by rw[cK,bK (by omega)];rfl);rw[bK hi]at e;exact⟨t,fm e⟩
 rw[aG,j8]at hz;refine call_meets PySem.F.slot_list_index ⟨_,hp,Z⟩ PySem.F.entry_list_index (PySem.F.args_list_index_2 _ _) (PySem.SeqAt.list_indexAt a its.toArray m none sl (.str n t') (agE n) (xs.idxOf n) (by rw[iI];omega) (by omega) ?_ ?_) ⟨hp,?_,?_⟩
 .obtain ⟨t,e⟩:=hget (xs.idxOf n) (by omega);rw[List.getElem_toArray,e];exact bq (List.getElem_idxOf hj)
 .intro i hi hlt;rw[iI]at hi;obtain⟨t,e⟩:=hget i hi;rw[List.getElem_toArray,e];exact dG (λe=>by have:=List.not_of_lt_findIdx (xs:=xs) (p:=(·==n)) hlt;simp[e]at this)
 .intro y hy;obtain⟨i,hi,rfl⟩:=xy (by simpa using hy);obtain⟨t,e⟩:=hget i hi;rw[e];have:=PySem.SeqAt.EqAt.str_str (A:=X.A.in1) (s:=s) (xs[i]'(by omega)) t n t';exact this
 .exact ⟨.int _,H,I.tok _,⟨_,Z⟩,q⟩
def kD:List Row->Row->List Row
 | [],r=>[r]
 | x::R,r=>if x.1=r.1 then(r.1,x.2+r.2)::R else x::kD R r
def ie(R:List Row):List Str:=R.map λr:Row=>r.1
theorem O7(f:Str->Int)(r:Row):∀R:List Row,di (kD R r) f=di R f+r.2*f r.1
 | []=>by unfold kD;rw[iF];show _+0=0+_;omega
 | x::R=>by
  unfold kD;split
  .rename_i e;rw[iF,iF,e];show(x.2+r.2)*f r.1+_=_;rw[j9];omega
  .rw [iF,iF,O7 f r R];omega
theorem Td(r:Row):∀R:List Row,r.1∈ie R->R.set ((ie R).idxOf r.1) (r.1,(R.getD ((ie R).idxOf r.1) r).2+r.2)=kD R r
 | [],h=>by cases h
 | x::R,h=>by
  have h:r.1∈x.1::ie R:=h;show(x::R).set ((x.1::ie R).idxOf r.1) (r.1,((x::R).getD ((x.1::ie R).idxOf r.1) r).2+r.2)=_;unfold kD;by_cases e:x.1=r.1
  .rw [aC e,e,List.idxOf_cons_self];rfl
  .rw [aB e,List.idxOf_cons,show(x.1==r.1)=false from zT.mpr e];have:=Td r R ((b8.mp h).resolve_left λz=>e z.symm);show x::R.set ((ie R).idxOf r.1) (r.1,(R.getD ((ie R).idxOf r.1) r).2+r.2)=_;rw[this]
theorem O8(r:Row):∀R:List Row,r.1∉ie R->R++[r]=kD R r
 | [],h=>rfl
 | x::R,h=>by have h:r.1∉x.1::ie R:=h;rw[b8,not_or]at h;unfold kD;rw[aB λz=>h.1 z.symm,<-O8 r R h.2];rfl
theorem DW(r:Row):∀R:List Row,ie (kD R r)=if r.1∈ie R then ie R else ie R++[r.1]
 | []=>rfl
 | x::R=>by
  have ih:=DW r R;unfold kD;by_cases e:x.1=r.1
  .rw [aC e];show r.1::ie R=if r.1∈x.1::ie R then x.1::ie R else x.1::ie R++[r.1]
   rw[e,aC cN]
  .rw [aB e];show x.1::ie (kD R r)=if r.1∈x.1::ie R then x.1::ie R else x.1::ie R++[r.1]
   rw[ih];by_cases m:r.1∈ie R
   .rw [aC m,aC (b7 _ m)]
   .rw [aB m,aB λz=>(b8.mp z).elim (λz=>e z.symm) m];rfl
theorem O9(r:Row)(hr:1<=r.2):∀R:List Row,(∀x∈R,1<=x.2)->∀x∈kD R r,1<=x.2
 | [],_=>λx hx=>by rw[eO.mp hx];exact hr
 | y::R,h=>λx hx=>by
  unfold kD at hx;have y1:=h y cN;split at hx
  .rcases b8.mp hx with e|e
   .rw [e];show 1<=y.2+r.2;omega
   .exact h x (b7 _ e)
  .rcases b8.mp hx with e|e
   .rw [e];exact y1
   .exact O9 r hr R (λz hz=>h z (b7 _ hz)) x e
theorem YC(r:Row)(R:List Row):(kD R r).length<=R.length+1:=by
 have:=eV List.length (DW r R);unfold ie at this;rw[aG]at this;rw[this];split
 .rw [aG];omega
 .rw [c7,aG];exact aO _
theorem dH.set{H:Hp}{vs:List V}{l:List Row}(h:dH H vs l){a:Addr}{r:Row}(e:H a=some (tT r))(k:Nat):dH H (vs.set k (.ref a)) (l.set k r):=by
 induction h generalizing k with
 | nil=>exact .nil
 | cons e' h ih=>
  cases k with
  | zero=>exact .cons e h
  | succ k=>exact .cons e' (ih k)
structure Tg(l R:List Row):Prop where
 al:Q0 l R
 nd:(ie R).Nodup
 sub:∀x∈ie R,x∈ie l
 pos:(∀r∈l,1<=r.2)->∀r∈R,1<=r.2
 ne:l≠[]->R≠[]
 le:R.length<=l.length
theorem Tg.nil:Tg [] [] :=⟨λ_=>rfl,.nil,λ_ h=>h,λ_ _ h=>absurd h (by simp),id,aO _⟩
theorem Tg.snoc{l R:List Row}(h:Tg l R)(r:Row):Tg (l++[r]) (kD R r):=by
 refine⟨λf=>?_,?_,λx hx=>?_,λhp=>O9 r (hp r (by simp)) R (h.pos λz hz=>hp z (uS _ hz)),λ_=>?_,?_⟩
 .rw [O7,kY,h.al,iF];show _+(_+0)=_;omega
 .rw [DW];split
  .exact h.nd
  .rename_i m;exact JB.mpr ⟨h.nd,by simp,λa ha b hb e=>m (by rw[<-eO.mp hb,<-e];exact ha)⟩
 .unfold ie;rw[bX];rw[DW]at hx;split at hx
  .exact uS _ (h.sub x hx)
  .exact (fq.mp hx).elim (λz=>uS _ (h.sub x z)) (λz=>gv _ z)
 .cases R with
  | nil=>simp[kD]
  | cons y R=>unfold kD;split <;> simp
 .have:=YC r R;have:=h.le;rw[c7];show _<=_+1;omega
theorem Tg.ok{c m:Nat}{st:HS}{cs:List (List Row)}(h:mT st (cs.map Dd.cast))(g:GW c m st)(hc:c+cs.length<=91)(hm:m+100*cs.length<=1000000)(ho:st.own.length<100)(c0:0<cs.length){R:List Row}(t:Tg cs.flatten R){s:HS}(b:pG st [] s)(ws:Wf s):jR s R=none/\0<aE st/\ux st cs.flatten/\ux st R:=by
 obtain⟨_,r1,t1,l1⟩:=Lg h g hc hm ho cs.length (aO _);rw[cM]at r1 t1 l1;obtain⟨l2,w0⟩:=l1 c0;have f1:=ux.mk r1 t1 l2;have f2:ux st R:=f1.agC t.al λr hr=>⟨t.pos (λz hz=>(r1 z hz).1) r hr,by obtain⟨z,hz,e⟩:=aZ.mp (t.sub r.1 (aZ.mpr ⟨r,hr,Z⟩));have e:z.1=r.1:=e;rw[<-e];exact(r1 z hz).2⟩
 refine⟨b.jR g.wf ws f2 t.nd (t.ne ?_),w0,f1,f2⟩;have cr:=h.cs 0 (cs[0]) (by rw[bK c0]);obtain⟨nz,_⟩:=s_ cr;intro z;have:=List.flatten_eq_nil_iff.mp z cs[0] (CN c0);exact nz this
theorem YD{cs:List (List Row)}{i j:Nat}{rs:List Row}(e:cs[i]?=some rs):((cs.take i).flatten++rs.take j).length<=cs.flatten.length:=by
 have h:cs.flatten=((cs.take i).flatten++rs)++(cs.drop (i+1)).flatten:=by
  conv=>lhs;rw[<-List.take_append_drop (i+1) cs,take_snoc e,PR,PR]
  simp
 rw[h,c7,c7,c7,nK];omega
theorem GW.up{c m:Nat}{st:HS}(h:GW c m st)(n:Nat){m':Nat}(hm:m<=m'):GW (c+n) m' st:=by
 refine⟨?_,h.wf,by have:=h.kn;omega⟩
 induction n with
 | zero=>exact h.g
 | succ n ih=>exact ih.mono
theorem mT.flat{st:HS}{cs:List (List Row)}(h:mT st (cs.map Dd.cast)):cs.flatten.length<=60*cs.length:=by
 have:∀rs∈cs,rs.length<=60:=λrs hr=>by obtain⟨i,hi,rfl⟩:=xy hr;exact(h i (.cast cs[i]) (by rw[cK,bK hi];rfl)).2.1.1
 clear h
 induction cs with
 | nil=>exact aO _
 | cons r cs ih=>have:=ih λx hx=>this x (b7 _ hx);have:=this;have h1:=‹∀rs∈r::cs,rs.length<=60› r cN;rw[Jy,c7,kg];omega
inductive agF(K:Fg)(vs:List V)(H:Hp)(Q:VK)(E:XK):Prop
 |mk(a l:Addr)(ρ:cu)(ws:List V)(cs:List (List Row))(_:vs=[.ref l])(_:H l=some (.lst ws))(_:nU a ρ H ws cs)(_:cs.flatten.length<=1000)(_:∀p zs R H',aR H H'->H' p=some (.lst zs)->H p=none->dH H' zs R->Tg cs.flatten R->Q (.ref p) H')
def WB(K:Fg):Sp:=bx (agF K)
section
variable {P:Program}{w:World}{K:Fg}{mg:SO}{base:Heap}{k:Nat}{T:TC}{e:Ec}{ps:List Str}
theorem Vx(D:Mn P w K mg base k T.hold "place_of" ps (sN (yR T e))):Mn P w K mg base k T.hold "place_of" ps (Bg T):=D.imp λvs H Q E h=>by obtain⟨⟨n,ρ,A,st,o,rfl,hx,ho,q⟩⟩:=h;exact⟨n,ρ,A,st,o,Z,hx,λz=>absurd ho z,λ_=>q⟩
theorem Te(D:Mn P w K mg base k T.hold "part_of" ps (sN (mK T e))):Mn P w K mg base k T.hold "part_of" ps (Ca T):=D.imp λvs H Q E h=>by obtain⟨⟨n,ρ,A,st,i,p,qq,rfl,hx,nd,ep,eq,q⟩⟩:=h;refine⟨n,ρ,A,st,p.nm,Z,hx,nd,λz=>absurd rfl (z p (cC ep)),λj p' q' e1 e2 e3=>?_⟩;have:j=i:=Dz nd e2 ep e1;subst this;rw[eq]at e3;cases e3;exact q
theorem aaW(D:Mn P w K mg base k T.hold "check_new" ps (sN (xJ T e))):Mn P w K mg base k T.hold "check_new" ps (DC T):=D.imp λvs H Q E h=>by
 obtain⟨⟨n,ρ,A,st,x,rfl,h,h1,h2,q⟩⟩:=h;have hn:newR st x=none:=by unfold newR;rw[aC h1,aB h2]
 refine⟨n,ρ,A,st,x,Z,h,f_ (pC h1) (by decide),λi hi=>?_,λ_=>q⟩;rw[hn]at hi;cases hi
theorem aaX(D:Dn P w K mg base k "check_amount" ps (sN (AB e))):Dn P w K mg base k "check_amount" ps ac3:=D.imp λvs H Q E h=>by obtain⟨⟨a,rfl,h1,q⟩⟩:=h;exact⟨a,Z,λz=>absurd z (by omega),λ_=>q⟩
theorem aaY(D:Dn P w K mg base k "check_loss" ps (sN (KP e))):Dn P w K mg base k "check_loss" ps Wm:=D.imp λvs H Q E h=>by obtain⟨⟨m,a,rfl,h1,h2,q⟩⟩:=h;exact⟨m,a,Z,λz=>absurd z (by omega),λ_ z=>absurd z (by omega),λ_ _=>q⟩
end
theorem dQ{K:Fg}{σ:St}{H:Hp}{j:Nat}{z:Addr}{xs:List V}{w x:Str}{Q:Bool->Hp->Prop}(hz:dz K H z xs)(e:xs[0]?=some (.str w))(hx:w≠x)(hj:σ[j]?=some (some (.ref z)))(q:Q false H):Jh (Gj rEq (Gj (Qs K) (BV j) (tC (.int 0))) (tC (.str x))) σ H Q:=by have f:decide (V.str w=V.str x)=false:=dG λz=>hx (V.str.inj z);refine⟨_,hj,z,_,_,_,Z,Z,hz,aM (j:=0) e,Z,_,Z,?_⟩;rw[f];exact q
end L2
set_option autoImplicit false
namespace Law
open PySem L2
theorem gZ(n:Nat)(h:n<=1000:=by decide):n<=sizeLine:=by rw[j8];omega
def top(i:Nat):Stmt:=PySem.Challenge.pw_jettison_k34_whole_casts_as_one.main.body.getD i (.Pass ⟨0,0,0,0⟩)
section
variable {P:Program}{w:World}{K:Fg}{mg:SO}{base:Heap}{f:Addr}{fd:FuncData}
abbrev oU:Stmt:=top 2
abbrev jV:List Str:=["one","other"]
abbrev DX:List Str:=jV
theorem vC:aS DX jV (aF oU):=dX
theorem Cs(F:At K mg "common_factor" oU f fd):Dn P w K mg base 1 "common_factor" jV UL:=by
 refine F.oA vC λcdv A outer s H vs Q E hr h=>?_;obtain⟨a,b,rfl,ha,hb,q⟩:=h;refine⟨_,(@c9.h _ _ _ (ak (KJ fV (aX jJ (qv 1) aq (bu _)) (az (aaq (i:=0) (j:=1) rfl vC.nd rfl rfl (by decide) rfl rfl (ah (qv 1) (ah (aP k_ (qv 0) (qv 1)) au)) (by rfl))))
  (az (bF (qv 0))))),?_⟩
 refine⟨λm σ H'=>∃x y:Int,m=y.toNat/\σ=[some (.int x),some (.int y)]/\H'=H/\0<=x/\0<=y/\Jm.cf x y=Jm.cf a b,⟨_,a,b,Z,Z,Z,ha,hb,Z⟩,?_⟩;rintro m σ H' ⟨x,y,rfl,rfl,rfl,hx,hy,e⟩;refine⟨_,Z,_,_,Z,Z,_,Z,?_⟩;refine cI (λc=>?_) (λc=>?_)
 .have c':0<y:=eF c;refine⟨_,λ_ _ z=>z,?_⟩;refine⟨_,Z,_,Z,_,Z,_,_,Z,Z,c',_,_,Z,?_⟩;have h1:0<=x % y:=pM _ (by omega);have h2:x % y<y:=zU _ c';exact⟨_,(by omega:(x % y).toNat<y.toNat),y,x % y,Z,Z,Z,hy,h1,(Jm.Oq x y c').trans e⟩
 .have c':¬ 0<y:=uT (qP.mpr c);have ey:y=0:=by omega
  subst ey;rw[Jm.Xz x hx]at e;refine⟨_,Z,?_⟩;rw[e];exact q
abbrev zf:Stmt:=top 18
abbrev xj:List Str:=["text","signs"]
abbrev Tf:List Str:=xj
theorem Q2:aS Tf xj (aF zf):=dX
theorem Q3(F:At K mg "made_of" zf f fd)(Q5:mg "all"=none):Dn P w K mg base 1 "made_of" xj B4:=by
 refine F.oA Q2 λcdv A outer s H vs Q E hr h=>?_;obtain⟨⟨cs,signs,rfl,hl,q⟩⟩:=h;refine⟨_,(@c9.h _ _ _ (az (bF (bU (R1 K rfl) (by rfl) Q5 PyProof.Rows.boot_all (ah (kq ["sign","signs"] [none,some 1] rfl (aau (qv 0)) (λ_ _ _ _=>(aW (i:=0) (show List.Nodup (["sign","signs"] :List Str)from by decide +kernel))) (λ_ _ _ _=>(Bl Rw (qv 0) (qv 1) (by with_unfolding_all rfl))) rfl (by rfl)) au))))),?_⟩;refine⟨_,Z,cs,Z,λacc hacc=>?_⟩;refine UP (λi out H1=>aR H H1/\out=((cs.take i).map (Dm signs)).map V.bl) hl ⟨aH hacc _,Z⟩ ?_ ?_
 .rintro i c out H1 hx gc ha ⟨g,e⟩;refine⟨_,Z,_,Z,_,_,Z,Z,ha,g.c8 hacc _,?_⟩;rw[e,List.take_add_one,hx,bX,bX];rfl
 rintro out H1 gc ha ⟨g,e⟩;rw[cM]at e;refine⟨acc,cs.map (Dm signs),Z,aI.of (by rw[ha,e]),?_⟩;have e2:(cs.map (Dm signs)).all id=cs.all (Dm signs):=by rw[List.all_map];rfl
 rw[e2];exact q H1 g
abbrev zg:Stmt:=top 17
abbrev tG:List Str:=["text"]
abbrev Th:List Str:=tG
theorem Q6:aS Th tG (aF zg):=dX
theorem Q7{tk:Tok}(F:At K mg "is_name" zg f fd)(AI:Dn P w K mg base 1 "made_of" xj B4)(cg:mg "len"=none)(AJ:mg "LETTERS"=some (.str "abcdefghijklmnopqrstuvwxyz" tk)):Dn P w K mg base 2 "is_name" tG yI:=by
 refine F.oA Q6 λcdv A outer s H vs Q E hr h=>?_;obtain⟨⟨cs,rfl,hl,q⟩⟩:=h;refine⟨_,(@c9.h _ _ _ (az (bF (aat (U7 V7 V7 aq (bU JQ (by rfl) cg fW (ah (qv 0) au)) aq) (aao (bL AI hr (ah (qv 0) (ah (Yk (v:=.str "abcdefghijklmnopqrstuvwxyz") (by rfl) AJ ⟨_,Z⟩) au)))))))),?_⟩;have hz:(tx cs).length<=sizeLine:=by rw[Ad,j8];omega
 refine⟨_,Z,_,Z,hz,_,_,Z,Z,_,Z,?_⟩;rw[Ad];refine cI (λc=>?_) (λc=>?_)
 .refine ⟨_,_,Z,Z,_,Z,cI (λc2=>?_) (λc2=>?_)⟩
  .refine ⟨_,Z,Qz hl λH' g=>?_⟩;have:=q H' g;unfold isName at this;rw[c,c2,Bool.true_and,Bool.true_and]at this;exact this
  .have:=q H (aR.refl _);unfold isName at this;rw[c,qP.mpr c2,Bool.true_and,Bool.false_and]at this;exact this
 .have:=q H (aR.refl _);unfold isName at this;rw[qP.mpr c,Bool.false_and,Bool.false_and]at this;exact⟨_,Z,bM this⟩
abbrev qe:Stmt:=top 23
abbrev jd:List Str:=["amount"]
abbrev E7:List Str:=jd
theorem DY:aS E7 jd (aF qe):=dX
theorem Ct{e:Ec}(F:At K mg "check_amount" qe f fd):Dn P w K mg base 1 "check_amount" jd (sN (AB e)):=by refine F.oA DY λcdv A outer s H vs Q E hr h=>?_;obtain⟨⟨a,rfl,h5,q⟩⟩:=h;refine⟨_,(@c9.h _ _ _ (az (cW (aX rT (qv 0) aq (bu _)) (az gh) bP))),?_⟩;exact⟨_,Z,_,_,Z,Z,_,Z,cI (λc=>h5 (eF c) 0 H (aR.refl _)) λc=>q (by have:=uT (qP.mpr c);omega)⟩
abbrev tU:Stmt:=top 24
abbrev mV:List Str:=["most","amount"]
abbrev Li:List Str:=mV
theorem HG:aS Li mV (aF tU):=dX
theorem E8{e:Ec}(F:At K mg "check_loss" tU f fd)(je:Dn P w K mg base 1 "check_amount" jd (sN (AB e))):Dn P w K mg base 2 "check_loss" mV (sN (KP e)):=by
 refine F.oA HG λcdv A outer s H vs Q E hr h=>?_;obtain⟨⟨m,a,rfl,h5,h6,q⟩⟩:=h;refine⟨_,(@c9.h _ _ _ (ak (b9 (bL je hr (ah (qv 1) au)))
  (az (cW (aX jJ (qv 1) (qv 0) (bu _)) (az gh) bP)))),?_⟩
 exact⟨_,Z,⟨⟨a,Z,h5,λh1=>⟨_,Z,_,Z,_,_,Z,Z,_,Z,cI (λc=>h6 h1 (eF c) 0 H (aR.refl _)) λc=>q h1 (by have:=uT (qP.mpr c);omega)⟩⟩⟩⟩
abbrev tV:Stmt:=top 22
abbrev qf:List Str:=["rows"]
abbrev Lj:List Str:=qf.append ["amounts","name","amount"]
theorem oj:aS Lj qf (aF tV):=dX
theorem HJ(F:At K mg "amounts_of" tV f fd)(cg:mg "len"=none):Dn P w K mg base 1 "amounts_of" qf (Sv K):=by
 refine F.oA oj λcdv A outer s H vs Q E hr h=>?_;obtain⟨⟨l,us,rs,rfl,hl,hR,nd,hne,hle,q⟩⟩:=h;refine⟨_,(@c9.h _ _ _ (ak (a_ (i:=1) oj.nd rm)
  (ak (fB fV rfl (dZ K (qv 0)) (iu K (n:=2) rfl (cD (aW (i:=2) oj.nd) (cD (aW (i:=3) oj.nd) ir))) (ak (cW (ye (KN (d8 hr) (qv 2) (qv 1))) (az gh) bP)
  (az (uQ (d8 hr) (qv 1) (qv 2) (qv 3) rfl))))
  (ak (cW (aX eY (bU wL (by rfl) cg fW (ah (qv 1) au)) aq (bu _)) (az gh) bP)
  (az (bF (qv 1))))))),?_⟩
 intro d hd;have g0:=aH hd (.dK []);have hd0:upd H d (.dK []) d=some (.dK (iM (rs.take 0))):=ai;generalize upd H d (.dK [])=H0 at *;have hul:=hR.length;refine⟨_,Z,l,Z,⟨us,g0.seq hl⟩,?_⟩;refine jj (K:=K) (xs:=us) (λi σ H'=>aR H H'/\H' d=some (.dK (iM (rs.take i)))/\∃s2 s3,σ=[some (.ref l),some (.ref d),s2,s3]) ⟨g0,hd0,_,_,Z⟩ (λi σ H' _ hp=>hp.1.seq hl) ?_ ?_
 .rintro i x σ H' hx ⟨g,hd',s2,s3,rfl⟩;obtain⟨a,r,rfl,er,ha⟩:=hR.get hx;have hnot:r.1∉(rs.take i).map (·.1):=by rw[CU];exact qW nd (by rw[cK,er];rfl)
  have hlt:(iM (rs.take i)).length<sizeLine:=by rw[yM,nK];exact dI (by omega)
  refine⟨a,_,Z,dz.of (g _ _ ha),Z,_,_,Z,_,_,Z,Z,?_⟩;refine⟨_,Z,_,Z,d,_,Z,eW.k (k:=Sum.inr r.1) hd',_,Z,?_⟩;rw[GL hnot];refine bM ?_;refine⟨_,Z,_,Z,_,Z,d,_,Z,xE.k (k:=Sum.inr r.1) hd' hlt,g.c8 hd _,?_,_,_,Z⟩;rw[ai,mF _ (GL hnot),take_snoc er];unfold iM;rw[bX];rfl
 rintro σ H' ⟨g,hd',s2,s3,rfl⟩;rw[hul,cM]at hd';refine⟨_,Z,d,_,Z,hd',Z,_,Z,?_⟩;rw[yM];have hpos:0<rs.length:=List.length_pos_iff.mpr hne;rw[dG (λe=>by have:=V.int.inj e;omega)];exact bM ⟨_,Z,q d H' g hd hd'⟩
abbrev oV:Stmt:=top 5
abbrev l7:List Str:=["step","tops"]
abbrev DZ:List Str:=l7.append ["top"]
theorem oW:aS DZ l7 (aF oV):=dX
theorem Cu(F:At K mg "factor_of_all" oV f fd)(iS:Dn P w K mg base 1 "common_factor" jV UL):Dn P w K mg base 2 "factor_of_all" l7 (Sw K):=by
 refine F.oA oW λcdv A outer s H vs Q E hr h=>?_;obtain⟨⟨s,l,ts,rfl,hl,h0,h1,q⟩⟩:=h;refine⟨_,(@c9.h _ _ _ (ak (fB fV rfl (dZ K (qv 1)) (aW (i:=2) oW.nd) (az (a_ (i:=0) oW.nd (bL iS hr (ah (qv 2) (ah (qv 0) au))))))
  (az (bF (qv 0))))),?_⟩
 refine⟨_,Z,l,Z,⟨_,hl⟩,?_⟩;refine jj (K:=K) (xs:=ts.map V.int) (λi σ H'=>H'=H/\0<=p6 s (ts.take i)/\∃s2,σ=[some (.int (p6 s (ts.take i))),some (.ref l),s2]) ⟨Z,h0,_,Z⟩ (λi σ H' _ hp=>by rw[hp.1];exact hl) ?_ ?_
 .rintro i x σ H' hx ⟨rfl,hf,s2,rfl⟩;obtain⟨t,rfl,et⟩:=gq hx;have e1:p6 s (ts.take (i+1))=Jm.cf t (p6 s (ts.take i)):=by unfold p6;rw[take_snoc et,BR];rfl
  refine⟨_,Z,_,Z,t,_,Z,h1 t (cC et),hf,Z,?_,some (.int t),?_⟩
  .rw [e1];unfold Jm.cf;omega
  .rw [e1];rfl
 rintro σ H' ⟨rfl,hf,s2,rfl⟩;rw[aG,cM];exact⟨_,Z,q⟩
abbrev rD:Stmt:=inClass (top 4) 0
abbrev tW:List Str:=["self"]
abbrev HK:List Str:=tW
theorem E9:aS HK tW (aF rD):=dX
theorem E_{T:TC}(F:GF K mg "Bottom" T.bot "Bottom.__init__" rD f fd)(X:Txt K T):Cn P w K mg base 1 "Bottom" T.bot tW (EO T):=by
 refine F.oA E9 λcdv A outer s H vs Q E hr h=>?_;obtain⟨⟨p,dx,rfl,hp,q⟩⟩:=h;refine⟨_,(@c9.h _ _ _ (ak (cQ K (qv 0) (ia au))
  (ak (cQ K (qv 0) aq)
  (az (cQ K (qv 0) rm))))),?_⟩
 refine⟨(gZ 0),λl hl=>?_⟩;have n1:p≠l:=aD hp hl;refine⟨_,Z,p,T.bot,dx,_,Z,by rw[ay n1];exact hp,X.cB,X.Sl,by show 0<1000;decide,?_⟩;refine⟨_,Z,p,T.bot,dx,_,Z,ai,X.cB,X.GH,by show 1<1000;decide,?_⟩;intro d hd;have n2:d≠p:=λe=>by rw[e,ai]at hd;cases hd
 have n3:d≠l:=λe=>by rw[e,ay (bY n1),ay (bY n1),ai]at hd;cases hd
 have hd0:H d=none:=by rw[ay n2,ay n2,ay n3]at hd;exact hd
 refine⟨_,Z,p,T.bot,dx,_,Z,by rw[ay (bY n2)];exact ai,X.cB,X.Sm,by show 2<1000;decide,?_⟩;refine q l d _ hl hd0 (bY n3) (λb o e hb=>?_) ai ?_ ?_
 .rw [ay hb,ay (aD e hd0),ay hb,ay hb,ay (aD e hl)];exact e
 .rw [ay (bY n1),ay (bY n3),ay (bY n1),ay (bY n1)];exact ai
 .rw [ay n2];exact ai
abbrev vD:Stmt:=inClass (top 20) 0
abbrev xK:List Str:=["self","name","owner","worth","weight","scale","row"]
abbrev MZ:List Str:=xK
theorem Lk:aS MZ xK (aF vD):=dX
theorem Ll{T:TC}(F:GF K mg "Part" T.part "Part.__init__" vD f fd)(X:Txt K T)(fQ:mg "list"=none):Cn P w K mg base 1 "Part" T.part xK (Bf T K):=by
 refine F.oA Lk λcdv A outer s H vs Q E hr h=>?_;obtain⟨⟨p,dx,l,pt,rfl,hp,hl,q⟩⟩:=h;refine⟨_,(@c9.h _ _ _ (ak (cQ K (qv 0) (qv 1))
  (ak (cQ K (qv 0) (qv 2))
  (ak (cQ K (qv 0) (qv 3))
  (ak (cQ K (qv 0) (qv 4))
  (ak (cQ K (qv 0) (qv 5))
  (az (cQ K (qv 0) (iO (jD K) (by rfl) fQ zR (ah (qv 6) au)))))))))),?_⟩
 refine⟨_,Z,_,Z,p,T.part,dx,_,Z,hp,X.cP,X.Oz,by show 0<1000;decide,?_⟩;refine⟨_,Z,_,Z,p,T.part,dx,_,Z,ai,X.cP,X.pow,by show 1<1000;decide,?_⟩;refine⟨_,Z,_,Z,p,T.part,dx,_,Z,ai,X.cP,X.vc,by show 2<1000;decide,?_⟩;refine⟨_,Z,_,Z,p,T.part,dx,_,Z,ai,X.cP,X.OA,by show 3<1000;decide,?_⟩;refine⟨_,Z,_,Z,p,T.part,dx,_,Z,ai,X.cP,X.GG,by show 4<1000;decide,?_⟩;simp only[lG];have hl1:∀o,aI K (upd H p o) l (pt.row.map V.int):=λo=>by
  rcases hl with(h|⟨ob,h⟩)|h
  .exact .inl (.inl (by rw[ay (i8 h hp (by intro z;cases z))];exact h))
  .exact .inl (.inr ⟨ob,by rw[ay (i8 h hp (by intro z;cases z))];exact h⟩)
  .exact .inr h
 refine⟨_,Z,l,_,Z,.inl (hl1 _),λr hr2=>?_⟩;have n1:r≠p:=λe=>by rw[e,ai]at hr2;cases hr2
 refine⟨_,Z,p,T.part,dx,_,Z,by rw[ay (bY n1)];exact ai,X.cP,X.J9,by show 5<1000;decide,?_⟩;have hr0:H r=none:=by rw[ay n1]at hr2;exact hr2
 refine q r _ hr0 (λb o e hb=>?_) ai ?_
 .rw [ay hb,ay (aD e hr0),ay hb];exact e
 .rw [ay n1];exact ai
abbrev rE:Stmt:=inClass (top 4) 1
abbrev oq:List Str:=["self","step"]
abbrev HL:List Str:=oq
theorem Fb:aS HL oq (aF rE):=dX
theorem Fc{T:TC}(F:iK K T.bot "grow" "Bottom.grow" rE f fd)(X:Txt K T):Mn P w K mg base 1 T.bot "grow" oq (Sx T):=by
 refine F.oA Fb λcdv A outer s H vs Q E hr h=>?_;obtain⟨⟨n,ρ,A,st,s,rfl,g,h,hl,z1,z2,q⟩⟩:=h;refine⟨_,(@c9.h _ _ _ (az (jT (aX jJ (qv 1) aq (bu _)) (ak (b9 (jy lQ nG nH ef (aJ K (qv 0)) (ah (qv 1) au)))
  (ak (qc K (qv 0) (qv 1) XY)
  (az (cQ K (qv 0) rm)))) bP))),?_⟩
 refine⟨λσ' H'=>Q .cT H',⟨_,Z,_,_,Z,Z,_,Z,cI (λc=>?_) (λc=>?_)⟩,λ_ _ z=>z⟩
 .have c':1<s:=eF c;refine⟨_,Z,A.bt,T.bot,A.db,_,_,Z,h.jb,X.cB,X.Sl,Z,.inl ⟨Z,_,aI.of h.lZ⟩,_,Z,A.sp,_,_,Z,Z,h.lZ,by rw[aG];exact dI hl,?_⟩;rw[show st.stp.map V.int++[V.int s]=(st.stp++[s]).map V.int from by rw[bX];rfl];have h1:=h.Z8 g (st.stp++[s]);have g1:=g.wr (a:=A.sp) (o:=.lst ((st.stp++[s]).map V.int)) rfl;have F1:Fr n ρ H ρ (upd H A.sp (.lst ((st.stp++[s]).map V.int))):=Fr.write h.gO;generalize upd H A.sp (.lst ((st.stp++[s]).map V.int))=H1 at *;refine⟨_,Z,A.bt,T.bot,A.db,_,_,Z,h1.jb,X.cB,X.GH,Z,_,Z,_,_,Z,Z,pe z1 z2,A.db,_,h1.jb,by show 3<1000;decide,?_⟩;intro kn hkn;have nb:kn≠A.bt:=λe=>by rw[e,ai]at hkn;cases hkn
  have Cv:H1 kn=none:=by rw[ay nb]at hkn;exact hkn
  have gP:ρ kn=none:=g1.none Cv;refine⟨_,Z,A.bt,T.bot,A.db,_,Z,by rw[ay (bY nb)];exact ai,X.cB,X.Sm,by show 3<1000;decide,?_⟩;have eH:upd (upd (upd H1 A.bt (.ins T.bot A.db (aY "product" (.int (st.prod*s)) (jY A.sp st.prod A.kn)))) kn (.dK [])) A.bt (.ins T.bot A.db (aY "known" (.ref kn) (aY "product" (.int (st.prod*s)) (jY A.sp st.prod A.kn))))=upd (upd H1 kn (.dK [])) A.bt (.ins T.bot A.db (jY A.sp (st.prod*s) kn)):=by rw[iW (bY nb),lG];rfl
  have k2:Kp n ρ (cY ρ kn (n,9,⟨#[]⟩)) H1 (upd H1 kn (.dK [])) (λ_=>true):=⟨(aH Cv _).tups,λb t x o _ c e=>⟨aH Cv _ _ _ e,by rw[bB (aD e Cv)];exact c⟩⟩
  have h2:=h1.same k2;have g2:Gh (cY ρ kn (n,9,⟨#[]⟩)) (upd H1 kn (.dK [])):=(g1.alloc Cv).color ai rfl;have F2:Fr n ρ H1 (cY ρ kn (n,9,⟨#[]⟩)) (upd H1 kn (.dK [])):=Fr.color Cv (aH Cv _);have h3:=h2.Z9 g2 (st.prod*s) kn ai cE;have es:eZ st s={ { st with stp:=st.stp++[s] }with prod:=st.prod*s,kn:=0 }:=by unfold eZ;rw[aC c']
  rw[es]at q;show Q .cT _;refine(show _=_ from eH)▸?_;exact q _ _ _ (g2.wr rfl) h3 rfl (F1.trans (F2.trans (Fr.write h2.gK)))
 .have c':¬ 1<s:=uT (qP.mpr c);have es:eZ st s=st:=by unfold eZ;rw[aB c']
  rw[es]at q;exact q ρ A H g h rfl Fr.refl
abbrev oX:Stmt:=inClass (top 21) 19
abbrev fX:List Str:=["self","owner"]
abbrev D0:List Str:=fX
theorem Cw:aS D0 fX (aF oX):=dX
theorem Br{T:TC}{e:Ec}(F:iK K T.hold "place_of" "Hold.place_of" oX f fd)(X:Txt K T):Mn P w K mg base 1 T.hold "place_of" fX (sN (yR T e)):=by
 refine F.oA Cw λcdv A outer s H vs Q E hr h=>?_;obtain⟨⟨n,ρ,A,st,o,rfl,h,q2,q⟩⟩:=h;refine⟨_,(@c9.h _ _ _ (ak (cW (ye (AA (d8 hr) (qv 1) (aJ K (qv 0)))) (az gh) bP)
  (az (bF (eT (d8 hr) (aJ K (qv 0)) (qv 1)))))),?_⟩
 refine⟨_,Z,_,Z,A.a,T.hold,A.dx,_,_,Z,h.oa,X.cH,X.hpl,Z,A.pl,_,Z,eW.k (k:=Sum.inr o) h.gY,_,Z,?_⟩;by_cases ho:o∈st.own
 .have hv:=OB (i:=0) ho;rw[hv];refine bM ?_;refine⟨_,Z,A.a,T.hold,A.dx,_,_,Z,h.oa,X.cH,X.hpl,Z,_,Z,A.pl,_,Z,hv▸eW.k (k:=Sum.inr o) h.gY,?_⟩;rw[Nat.zero_add];exact q ho
 .rw [pY ho];exact nM <| q2 ho 0 H (aR.refl _)
abbrev qg:Stmt:=inClass (top 21) 20
abbrev fh:List Str:=["self","name"]
abbrev Fd:List Str:=fh
theorem D5:aS Fd fh (aF qg):=dX
theorem Cy{T:TC}{e:Ec}(F:iK K T.hold "part_of" "Hold.part_of" qg f fd)(X:Txt K T):Mn P w K mg base 1 T.hold "part_of" fh (sN (mK T e)):=by
 refine F.oA D5 λcdv A outer s H vs Q E hr h=>?_;obtain⟨⟨n,ρ,A,st,x,rfl,hA,nd,q2,k⟩⟩:=h;refine⟨_,(@c9.h _ _ _ (ak (cW (ye (AA (d8 hr) (qv 1) (aJ K (qv 0)))) (az gh) bP)
  (az (bF (eT (d8 hr) (aJ K (qv 0)) (qv 1)))))),?_⟩
 refine⟨_,Z,_,Z,A.a,T.hold,A.dx,_,_,Z,hA.oa,X.cH,X.hab,Z,A.ab,_,Z,eW.k (k:=Sum.inr x) hA.dF,_,Z,?_⟩;by_cases hx:∃p∈st.aj,p.nm=x
 .obtain ⟨p,hp,rfl⟩:=hx;obtain⟨i,hi,ep⟩:=List.mem_iff_getElem.mp hp;have xX:st.aj[i]?=some p:=by rw[bK hi,ep]
  obtain⟨qq,eq,_⟩:=hA.find xX;have hv:=uN nd xX eq;rw[hv];refine bM ?_;exact⟨_,Z,A.a,T.hold,A.dx,_,_,Z,hA.oa,X.cH,X.hab,Z,_,Z,A.ab,_,Z,hv▸eW.k (k:=Sum.inr p.nm) hA.dF,k i p qq rfl xX eq⟩
 .have hn:∀p∈st.aj,p.nm≠x:=λp hp z=>hx ⟨p,hp,z⟩;rw[p5 hn];exact nM <| q2 hn 0 H (aR.refl _)
abbrev nO:Stmt:=inClass (top 21) 21
abbrev ju:List Str:=["self","name"]
abbrev Cz:List Str:=ju
theorem Bs:aS Cz ju (aF nO):=dX
theorem AK{T:TC}{e:Ec}(F:iK K T.hold "check_new" "Hold.check_new" nO f fd)(X:Txt K T)(pH:Dn P w K mg base 2 "is_name" tG yI):Mn P w K mg base 3 T.hold "check_new" ju (sN (xJ T e)):=by
 refine F.oA Bs λcdv A outer s H vs Q E hr h=>?_;obtain⟨⟨n,ρ,A,st,x,rfl,h,hx,q2,q⟩⟩:=h;refine⟨_,(@c9.h _ _ _ (ak (cW (KO (Az (bL pH hr (ah (qv 1) au)))) (az gh) bP)
  (az (cW (ye (KN (d8 hr) (qv 1) (aJ K (qv 0)))) (az gh) bP)))),?_⟩
 refine⟨_,Z,Dp (cs:=x.cps.toList) hx λH1 g1=>⟨_,Z,?_⟩⟩;cases hn:isName x.cps.toList with
 | false=>exact nM <| q2 0 (by unfold newR isNm;rw[hn];rfl) 0 H1 g1
 | true=>
  refine bM ?_;have h1:=h.mono g1;refine⟨_,Z,_,Z,A.a,T.hold,A.dx,_,_,Z,h1.oa,X.cH,X.hnm,Z,A.nm,_,Z,eW.k (k:=Sum.inr x) h1.nu,_,Z,?_⟩;by_cases hm:x∈st.nms
  .rw [Kc hm];exact nM <| q2 1 (by unfold newR isNm;rw[hn,aC rfl,aC hm]) 0 H1 g1
  .rw [Ai hm];exact bM (q (Aw hn hm) H1 g1)
abbrev tX:Stmt:=inClass (top 21) 11
abbrev qh:List Str:=["self"]
abbrev Lm:List Str:=qh
theorem HM:aS Lm qh (aF tX):=dX
theorem HN{T:TC}(F:iK K T.hold "parts" "Hold.parts" tX f fd)(X:Txt K T):Mn P w K mg base 1 T.hold "parts" qh (OC T):=by
 refine F.oA HM λcdv A outer s H vs Q E hr h=>?_;obtain⟨⟨n,ρ,A,st,rfl,h,hl,q⟩⟩:=h;refine⟨_,(@c9.h _ _ _ (az (bF (DJ (kq ["part"] [none] rfl (Bk (aJ K (qv 0))) (λ_ _ _ _=>(aW (i:=0) (show List.Nodup (["part"] :List Str)from by decide +kernel))) (λ_ _ _ _=>(h_ (ah (aJ K (qv 0)) (ah (aJ K (qv 0)) (ah (aJ K (qv 0)) (ah (aJ K (qv 0)) au)))))) rfl (by rfl)))))),?_⟩;refine⟨A.ab,_,h.dF,λo=>?_⟩;refine⟨_,Z,A.a,T.hold,A.dx,_,_,Z,eX h.dF h.oa (λk z=>by cases z),X.cH,X.hab,Z,A.ab,o,_,Z,ai,λacc hacc=>?_⟩;have el:=uM h.ql;refine lg (n:=st.aj.length) 0 (λi out H1=>aR (upd H A.ab (.fu o (.dK (b_ st.aj A.qs)))) H1/\jw H1 out (st.aj.take i)) (by omega) ⟨aH hacc _,.nil⟩ (λi out H1 hi _ hp=>⟨hp.1 _ _ ai,by rw[el];exact hi⟩) (λout H1 _ hp=>⟨hp.1 _ _ ai,by rw[el];exact aO _⟩) ?_ ?_
 .rintro i x out H1 H2 hi gc ha ⟨g,hP⟩ ⟨rfl,kv,hkv,rfl⟩;have ep:=bK hi;obtain⟨qq,eq,h1,h2,_⟩:=h.find ep;rw[uL ep eq]at hkv;cases hkv;have hq:=g _ _ (eX h.dF h1 (λk z=>by cases z));refine⟨_,Z,qq.1,T.part,qq.2.1,_,_,Z,hq,X.cP,X.Oz,Z,_,Z,qq.1,T.part,qq.2.1,_,_,Z,hq,X.cP,X.pow,Z,_,Z,qq.1,T.part,qq.2.1,_,_,Z,hq,X.cP,X.vc,Z,_,Z,qq.1,T.part,qq.2.1,_,_,Z,hq,X.cP,X.OA,Z,(gZ 4),λt ht=>?_⟩;have g1:=aH ht (DB st.aj[i]);refine⟨g1 _ _ ha,(g.trans g1).c8 hacc _,?_⟩;rw[take_snoc ep];exact((hP.mono g1.tups).snoc ai).mono (gj (.inr ⟨_,g1 _ _ ha,Z⟩))
 rintro out H1 gc ha ⟨g,hP⟩;rw[cM]at hP;have hz:=g _ _ (ai (H:=H) (a:=A.ab) (o:=.fu o (.dK (b_ st.aj A.qs))));have na:acc≠A.ab:=λe=>by rw[e,hz]at ha;cases ha
 exact⟨hz,q acc out _ (qT h.dF g) (jq h.dF hacc) (by rw[ay na];exact ha) (hP.mono (gj (.inr ⟨_,hz,Z⟩)))⟩
abbrev tY:Stmt:=inClass (top 21) 13
abbrev kF:List Str:=["self"]
abbrev Ln:List Str:=kF
theorem HP:aS Ln kF (aF tY):=dX
theorem HQ{T:TC}(F:iK K T.hold "whole" "Hold.whole" tY f fd)(X:Txt K T)(kZ:mg "sum"=none):Mn P w K mg base 1 T.hold "whole" kF (Bj T):=by
 refine F.oA HP λcdv A outer s H vs Q E hr h=>?_;obtain⟨⟨n,ρ,A,st,rfl,h,hl,q⟩⟩:=h;refine⟨_,(@c9.h _ _ _ (az (bF (bU (Ac K rfl) (by rfl) kZ Js (ah (DJ (kq ["part"] [none] rfl (Bk (aJ K (qv 0))) (λ_ _ _ _=>(aW (i:=0) (show List.Nodup (["part"] :List Str)from by decide +kernel))) (λ_ _ _ _=>(aJ K (qv 0))) rfl (by rfl))) au))))),?_⟩;refine⟨A.ab,_,h.dF,λo=>?_⟩;refine⟨_,Z,A.a,T.hold,A.dx,_,_,Z,eX h.dF h.oa (λk z=>by cases z),X.cH,X.hab,Z,A.ab,o,_,Z,ai,λacc hacc=>?_⟩;have el:=uM h.ql;refine lg (n:=st.aj.length) 0 (λi out H1=>aR (upd H A.ab (.fu o (.dK (b_ st.aj A.qs)))) H1/\out=((st.aj.take i).map (·.wo)).map V.int) (by omega) ⟨aH hacc _,Z⟩ (λi out H1 hi _ hp=>⟨hp.1 _ _ ai,by rw[el];exact hi⟩) (λout H1 _ hp=>⟨hp.1 _ _ ai,by rw[el];exact aO _⟩) ?_ ?_
 .rintro i x out H1 H2 hi gc ha ⟨g,e⟩ ⟨rfl,kv,hkv,rfl⟩;have ep:=bK hi;obtain⟨qq,eq,h1,h2,_⟩:=h.find ep;rw[uL ep eq]at hkv;cases hkv;have hq:=g _ _ (eX h.dF h1 (λk z=>by cases z));refine⟨_,Z,qq.1,T.part,qq.2.1,_,_,Z,hq,X.cP,X.vc,Z,ha,g.c8 hacc _,?_⟩;rw[take_snoc ep,e,bX,bX];rfl
 rintro out H1 gc ha ⟨g,e⟩;rw[cM]at e;have hz:=g _ _ (ai (H:=H) (a:=A.ab) (o:=.fu o (.dK (b_ st.aj A.qs))));have na:acc≠A.ab:=λe=>by rw[e,hz]at ha;cases ha
 exact⟨hz,acc,st.aj.map (λp:Pt=>p.wo),Z,aI.of (by rw[ay na,ha,e]),q _ (qT h.dF g)⟩
abbrev kG:Stmt:=inClass (top 21) 25
abbrev gW:List Str:=["self","tops"]
abbrev zh:List Str:=gW
theorem yj:aS zh gW (aF kG):=dX
theorem yk{T:TC}(F:iK K T.hold "beyond_common" "Hold.beyond_common" kG f fd)(X:Txt K T)(ja:mg "zip"=none):Mn P w K mg base 1 T.hold "beyond_common" gW (QI T K):=by
 refine F.oA yj λcdv A outer s H vs Q E hr h=>?_;obtain⟨⟨n,ρ,A,st,l,tops,rfl,h,hS,htl,hle,q⟩⟩:=h;refine⟨_,(@c9.h _ _ _ (az (bF (kq ["top","common"] [none,none] rfl (rj K (by rfl) ja (ah (qv 1) (ah (aJ K (qv 0)) au))) (λ_ _ _ _=>(iu K (n:=2) rfl (cD (aW (i:=0) (show List.Nodup (["top","common"] :List Str)from by decide +kernel)) (cD (aW (i:=1) (show List.Nodup (["top","common"] :List Str)from by decide +kernel)) ir)))) (λ_ _ _ _=>(aP mE (qv 0) (qv 1))) rfl (by rfl))))),?_⟩;refine⟨_,Z,_,Z,A.a,T.hold,A.dx,_,_,Z,h.oa,X.cH,X.wQ,Z,_,_,_,_,_,_,Z,.lst hS,.lst (aI.of h.iL),λacc hacc=>?_⟩;refine yb (K:=K) (n:=tops.length) [0,1] (λi out H1=>aR H H1/\out=(List.zipWith (λt c=>t-c) (tops.take i) (st.bD.take i)).map V.int) (by decide) (by omega) ⟨aH hacc _,Z⟩ (λi out H1 hi _ hp=>⟨hp.1.seq hS,hp.1.seq (aI.of h.iL),by rw[aG];exact hi,by rw[aG];omega⟩)
  (λout H1 _ hp=>⟨hp.1.seq hS,hp.1.seq (aI.of h.iL),.inl (by rw[aG];exact aO _)⟩) ?_ ?_
 .rintro i x out H1 H2 hi gc ha ⟨g,e⟩ ⟨p,x1,y1,hp,rfl,rfl,e1,e2⟩;obtain⟨t,rfl,et⟩:=gq e1;obtain⟨c,rfl,ec⟩:=gq e2;have g1:=aH hp (.tup [.int t,.int c]);refine⟨p,_,Z,dz.of ai,Z,_,Z,_,Z,_,_,Z,Z,g1 _ _ ha,(g.trans g1).c8 hacc _,?_⟩;rw[sU _ et ec,e,bX];rfl
 rintro out H1 gc ha ⟨g,e⟩;rw[cM,htl,cM]at e;exact q acc H1 g hacc (by rw[ha,e];rfl)
abbrev qi:Stmt:=inClass (top 21) 24
abbrev jf:List Str:=["self","part"]
abbrev Fe:List Str:=jf
theorem D6:aS Fe jf (aF qi):=dX
theorem D7{T:TC}(F:iK K T.hold "tops_of" "Hold.tops_of" qi f fd)(X:Txt K T)(ja:mg "zip"=none):Mn P w K mg base 1 T.hold "tops_of" jf (Bh T):=by
 refine F.oA D6 λcdv A outer s H vs Q E hr h=>?_;obtain⟨⟨n,ρ,A,st,ip,pt,qq,rfl,h,wf,ep,eq,q⟩⟩:=h;obtain⟨h1,h2,_⟩:=h.opt ip pt qq ep eq;have gf:=cC ep;refine⟨_,(@c9.h _ _ _ (az (bF (kq ["own","common","part"] [none,none,some 1] rfl (rj K (by rfl) ja (ah (aJ K (qv 1)) (ah (aJ K (qv 0)) au))) (λ_ _ _ _=>(iu K (n:=2) rfl (cD (aW (i:=0) (show List.Nodup (["own","common","part"] :List Str)from by decide +kernel)) (cD (aW (i:=1) (show List.Nodup (["own","common","part"] :List Str)from by decide +kernel)) ir)))) (λ_ _ _ _=>(aP cU (aP qR (aJ K (qv 2)) (qv 0)) (qv 1))) rfl (by rfl))))),?_⟩;have erl:pt.row.length=st.bD.length:=by rw[wf.rows pt gf,wf.gD]
 have hcl:st.bD.length<=100:=by rw[wf.gD];exact wf.ki
 refine⟨_,Z,qq.1,T.part,qq.2.1,_,_,Z,h1,X.cP,X.J9,Z,_,Z,A.a,T.hold,A.dx,_,_,Z,h.oa,X.cH,X.wQ,Z,_,_,_,_,_,_,Z,.lst (aI.of h2),.lst (aI.of h.iL),λacc hacc=>?_⟩;refine yb (K:=K) (n:=pt.row.length) [0,1] (λi out H1=>aR H H1/\out=(List.zipWith (λr c=>pt.sc*r+c) (pt.row.take i) (st.bD.take i)).map V.int) (by decide) (by omega) ⟨aH hacc _,Z⟩ (λi out H1 hi _ hp=>⟨hp.1.seq (aI.of h2),hp.1.seq (aI.of h.iL),by rw[aG];exact hi,by rw[aG];omega⟩)
  (λout H1 _ hp=>⟨hp.1.seq (aI.of h2),hp.1.seq (aI.of h.iL),.inl (by rw[aG];exact aO _)⟩) ?_ ?_
 .rintro i x out H1 H2 hi gc ha ⟨g,e⟩ ⟨p,x1,y1,hp,rfl,rfl,e1,e2⟩;obtain⟨t,rfl,et⟩:=gq e1;obtain⟨c,rfl,ec⟩:=gq e2;have g1:=aH hp (.tup [.int t,.int c]);have s1:Jm.Sz 8000 pt.sc:=Jm.Sz.pS (by have:=wf.sS pt gf;have:=wf.eE;omega) (wf.sS pt gf).2 wf.big;have s2:Jm.Sz 8000 t:=Jm.Sz.pS (wf.oO pt gf t (cC et)).1 (wf.oO pt gf t (cC et)).2 wf.big;refine⟨p,_,Z,dz.of ai,Z,_,Z,qq.1,T.part,qq.2.1,_,_,Z,(g.trans g1) _ _ h1,X.cP,X.GG,Z,_,Z,_,_,Z,Z,pe s1 s2,_,Z,_,_,Z,Z,g1 _ _ ha,(g.trans g1).c8 hacc _,?_⟩;rw[sU _ et ec,e,bX];rfl
 rintro out H1 gc ha ⟨g,e⟩;rw[cM,erl,cM]at e;exact q acc H1 g hacc (by rw[ha,e];rfl)
abbrev vE:Stmt:=inClass (top 21) 22
abbrev nV:List Str:=["self","part"]
abbrev M_:List Str:=nV
theorem Lo:aS M_ nV (aF vE):=dX
theorem Lp{T:TC}(F:iK K T.hold "stow" "Hold.stow" vE f fd)(X:Txt K T):Mn P w K mg base 1 T.hold "stow" nV (Ke T):=by
 refine F.oA Lo λcdv A outer s H vs Q E hr h=>?_;obtain⟨⟨n,ρ,A,st,qq,p,rfl,hh,h1,h2,c1,c2,hn,wf',q⟩⟩:=h;have h:=hh.h;refine⟨_,(@c9.h _ _ _ (ak (uQ (d8 hr) (aJ K (qv 0)) (aJ K (qv 1)) (qv 1) rfl)
  (az (uQ (d8 hr) (aJ K (qv 0)) (aJ K (qv 1)) Wu rfl)))),?_⟩
 have AL:∀x∈st.aj,x.nm≠p.nm:=λx hx e=>hn (by rw[<-e];exact hh.wf.sub x hx);have lab:(b_ st.aj A.qs).length<sizeLine:=by rw[uM h.ql];exact dI hh.wf.mH
 refine⟨_,Z,_,Z,A.a,T.hold,A.dx,_,_,Z,h.oa,X.cH,X.hab,Z,_,Z,qq.1,T.part,qq.2.1,_,_,Z,h1,X.cP,X.Oz,Z,A.ab,_,Z,xE.k (k:=Sum.inr p.nm) h.dF lab,?_⟩;rw[mF _ (p5 AL),<-Ka h.ql p qq];have k1:qq.1≠qq.2.2:=i8 h1 h2 (by intro z;cases z);have f1:Kp n ρ (cY (cY ρ qq.1 (n,20,p.nm)) qq.2.2 (n,21,p.nm)) H H (λ_=>true):=⟨λ_ _ e=>e,λb t x o _ c e=>⟨e,by rw[bB (λz=>by rw[z,c2]at c;cases c),bB (λz=>by rw[z,c1]at c;cases c)];exact c⟩⟩
 have hc:=h.same f1;have g1:Gh (cY (cY ρ qq.1 (n,20,p.nm)) qq.2.2 (n,21,p.nm)) H:=(hh.g.color h1 rfl).color h2 rfl;have fr1:Kd n qq.1 qq.2.2 ρ H (cY (cY ρ qq.1 (n,20,p.nm)) qq.2.2 (n,21,p.nm)) H:=λb o e k n1 n2=>⟨e,by rw[bB n2,bB n1]⟩
 have hs:=hc.J7 g1 (st.aj++[p]) (A.qs++[qq]) (by rw[c7,c7,h.ql];rfl) (λi x y ex ey=>by
  by_cases hi:i<st.aj.length
  .rw [zP hi]at ex;rw[zP (by rw[h.ql];exact hi)]at ey;exact hc.opt i x y ex ey
  .rw [CL (by omega)]at ex;rw[CL (by rw[h.ql];omega),h.ql]at ey;have e0:i-st.aj.length=0:=by
    rcases Nat.eq_zero_or_pos (i-st.aj.length)with z|z
    .exact z
    .rw [BO (by show 1<=_;exact z)]at ex;cases ex
   rw[e0]at ex ey;cases ex;cases ey;exact⟨h1,h2,by rw[bB k1];exact cE,cE⟩)
 have g2:=g1.wr (a:=A.ab) (o:=.dK (b_ (st.aj++[p]) (A.qs++[qq]))) rfl;have fr2:Fr n _ H _ (upd H A.ab (.dK (b_ (st.aj++[p]) (A.qs++[qq])))):=Fr.write hc.fC;have DA:upd H A.ab (.dK (b_ (st.aj++[p]) (A.qs++[qq]))) qq.1=some (.ins T.part qq.2.1 (cZ p qq.2.2)):=by rw[ay (i8 h1 h.dF (by intro z;cases z))];exact h1
 refine⟨_,Z,A.a,T.hold,A.dx,_,_,Z,hs.oa,X.cH,X.hnm,Z,_,Z,qq.1,T.part,qq.2.1,_,_,Z,DA,X.cP,X.Oz,Z,A.nm,_,Z,xE.k (k:=Sum.inr p.nm) hs.nu (by unfold yc;rw[aG];exact dI hh.wf.yL),?_⟩;rw[mF _ (Ai hn),show yc st.nms++[(Sum.inr p.nm,V.bl true)]=yc (st.nms++[p.nm])from by unfold yc;rw[bX];rfl];have hs2:=hs.Z5 g2 (st.nms++[p.nm]);exact q _ _ _ ⟨g2.wr rfl,hs2,wf'⟩ rfl (fr1.trans (fr2.trans (Fr.write hs.gJ)))
abbrev vF:Stmt:=inClass (top 21) 1
abbrev nW:List Str:=["self","owner"]
abbrev Na:List Str:=nW.append ["part"]
theorem AM:aS Na nW (aF vF):=dX
theorem Lq{T:TC}(F:iK K T.hold "sign" "Hold.sign" vF f fd)(X:Txt K T)(pH:Dn P w K mg base 2 "is_name" tG yI)(cg:mg "len"=none):Mn P w K mg base 3 T.hold "sign" nW (ES T):=by
 refine F.oA AM λcdv A outer s H vs Q E hr h=>?_;obtain⟨⟨n,ρ,A,st,o,rfl,hh,hx,hn,hl,q⟩⟩:=h;refine⟨_,(@c9.h _ _ _ (ak (cW (KO (Az (bL pH hr (ah (qv 1) au)))) (az gh) bP)
  (ak (cW (ye (KN (d8 hr) (qv 1) (aJ K (qv 0)))) (az gh) bP)
  (ak (uQ (d8 hr) (aJ K (qv 0)) (qv 1) (bU wL (by rfl) cg fW (ah (aJ K (qv 0)) au)) rfl)
  (ak (b9 (jy lQ nG nH ef (aJ K (qv 0)) (ah aq au)))
  (ak (b9 (jy lQ nG nH ef (aJ K (qv 0)) (ah aq au)))
  (az (yf (fB fV rfl (Bk (aJ K (qv 0))) (aW (i:=2) AM.nd) (az (b9 (jy lQ nG nH ef (aJ K (qv 2)) (ah aq au))))))))))))),?_⟩
 refine⟨_,Z,Dp (cs:=o.cps.toList) (Kl hx) λH1 g1=>⟨_,Z,?_⟩⟩;rw[show isName o.cps.toList=true from hx];refine bM ?_;have iz:=hh.mono g1;have h1:=iz.h;have F1:Fr n ρ H ρ H1:=Fr.of_same g1;refine⟨_,Z,_,Z,A.a,T.hold,A.dx,_,_,Z,h1.oa,X.cH,X.hpl,Z,A.pl,_,Z,eW.k (k:=Sum.inr o) h1.gY,_,Z,?_⟩;rw[pY hn];refine bM ?_;have BH:=pZ st.own 0;refine⟨_,Z,A.a,T.hold,A.dx,_,_,Z,h1.oa,X.cH,X.hpl,Z,A.pl,_,Z,h1.gY,_,Z,A.a,T.hold,A.dx,_,_,Z,h1.oa,X.cH,X.hpl,Z,_,Z,A.pl,_,Z,xE.k (k:=Sum.inr o) h1.gY (dI (by rw[BH];omega)),?_⟩;rw[mF _ (pY hn),BH,show fP 0 st.own++[(Sum.inr o,V.int (st.own.length:Int))]=fP 0 (st.own++[o])from by rw[J_,Nat.zero_add]];have h2:=h1.Z3 iz.g (st.own++[o]);have G2:=iz.g.wr (a:=A.pl) (o:=.dK (fP 0 (st.own++[o]))) rfl;have F2:=F1.trans (Fr.write (o:=.dK (fP 0 (st.own++[o]))) h1.gE);generalize upd H1 A.pl (.dK (fP 0 (st.own++[o])))=H2 at *;have lcm:(st.bD.map V.int).length<sizeLine:=by rw[aG,hh.wf.gD];exact dI (by omega)
 refine⟨_,Z,A.a,T.hold,A.dx,_,_,Z,h2.oa,X.cH,X.wQ,Z,.inl ⟨Z,_,aI.of h2.iL⟩,A.cm,_,_,Z,Z,h2.iL,lcm,?_⟩;rw[show st.bD.map V.int++[V.int 0]=(st.bD++[0]).map V.int from by rw[bX];rfl];have h3:=h2.Z6 G2 (st.bD++[0]);have G3:=G2.wr (a:=A.cm) (o:=.lst ((st.bD++[0]).map V.int)) rfl;have F3:=F2.trans (Fr.write (o:=.lst ((st.bD++[0]).map V.int)) h2.gM);generalize upd H2 A.cm (.lst ((st.bD++[0]).map V.int))=H3 at *;have lpu:(st.bH.map V.int).length<sizeLine:=by rw[aG,hh.wf.mG];exact dI (by omega)
 refine⟨_,Z,A.a,T.hold,A.dx,_,_,Z,h3.oa,X.cH,X.zH,Z,.inl ⟨Z,_,aI.of h3.jC⟩,A.pu,_,_,Z,Z,h3.jC,lpu,?_⟩;rw[show st.bH.map V.int++[V.int 0]=(st.bH++[0]).map V.int from by rw[bX];rfl];have h4:=h3.Z7 G3 (st.bH++[0]);have G4:=G3.wr (a:=A.pu) (o:=.lst ((st.bH++[0]).map V.int)) rfl;have F4:=F3.trans (Fr.write (o:=.lst ((st.bH++[0]).map V.int)) h3.cpu);generalize upd H3 A.pu (.lst ((st.bH++[0]).map V.int))=H4 at *;clear h1 h2 h3 G2 G3 F2 F3 iz;have hpl:=hh.wf.mH;refine⟨A.ab,_,h4.dF,λob=>?_⟩;refine⟨_,Z,A.a,T.hold,A.dx,_,_,Z,eX h4.dF h4.oa (λk z=>by cases z),X.cH,X.hab,Z,A.ab,ob,_,Z,ai,?_⟩;have el:=uM h4.ql;have el0:(b_ st.aj A.qs).length=st.aj.length:=el;refine u_ (n:=st.aj.length) (λi σ H'=>(∃s2,σ=[some (.ref A.a),some (.str o),s2])/\pA H' A.ab ob (b_ st.aj A.qs)/\∃H5,H'=upd H5 A.ab (.fu ob (.dK (b_ st.aj A.qs)))/\Gh ρ H5/\Fr n ρ H ρ H5/\
   aL T n ρ A H5 { st with own:=st.own++[o],bD:=st.bD++[0],bH:=st.bH++[0],aj:=(st.aj.take i).map (λp=>{ p with row:=p.row++[0] })++st.aj.drop i })
  ⟨⟨_,Z⟩,ai,H4,Z,G4,F4,h4⟩ (λi σ H' hi hp=>⟨hp.2.1,by rw[el0];exact hi⟩) (λσ H' hp=>⟨hp.2.1,by rw[el0];exact aO _⟩) ?_ ?_
 .rintro i x σ H' zJ hi ⟨⟨s2,rfl⟩,hz,H5,rfl,G5,F5,h5⟩ ⟨rfl,kv,hkv,rfl⟩;have ep:=bK hi;have ep5:=Kn (λp:Pt=>{ p with row:=p.row++[0] }) ep;obtain⟨qq,eq,k1,k2,k3,k4⟩:=h5.find ep5;rw[uL ep eq]at hkv;cases hkv;have WC:=qV (λp:Pt=>{ p with row:=p.row++[0] }) (λp:Pt=>p.nm) (λ_=>rfl) st.aj i;have nd5:(((st.aj.take i).map (λp:Pt=>{ p with row:=p.row++[0] })++st.aj.drop i).map (λp:Pt=>p.nm)).Nodup:=by rw[WC];exact hh.wf.dM
  have z1:=eX (o:=ob) h5.dF k1 (λk z=>by cases z);have z2:=eX (o:=ob) h5.dF k2 (λk z=>by cases z);rw[show b_ ({ st with own:=st.own++[o],bD:=st.bD++[0],bH:=st.bH++[0],aj:=(st.aj.take i).map (λp:Pt=>{ p with row:=p.row++[0] })++st.aj.drop i }:HS).aj A.qs=b_ st.aj A.qs from pB WC]at z1 z2;have hrl:((st.aj[i]).row.map V.int).length<sizeLine:=by rw[aG,hh.wf.rows _ (CN hi)];exact dI (by omega)
  refine⟨_,Z,qq.1,T.part,qq.2.1,_,_,Z,z1,X.cP,X.J9,Z,.inl ⟨Z,_,aI.of z2⟩,qq.2.2,_,_,Z,Z,z2,hrl,?_⟩;have na:A.ab≠qq.2.2:=(i8 k2 h5.dF (by intro z;cases z)).symm;rw[show(st.aj[i]).row.map V.int++[V.int 0]=((st.aj[i]).row++[0]).map V.int from by rw[bX];rfl];have h6:=h5.X0 G5 ((st.aj[i]).row++[0]) ep5 eq nd5;rw[show({ st with own:=st.own++[o],bD:=st.bD++[0],bH:=st.bH++[0],aj:=(st.aj.take i).map (λp:Pt=>{ p with row:=p.row++[0] })++st.aj.drop i }:HS).aj.set i { st.aj[i]with row:=(st.aj[i]).row++[0] }=_ from Ko (λp:Pt=>{ p with row:=p.row++[0] }) ep]at h6;exact⟨⟨_,Z⟩,(ay na).trans hz,_,iW na,G5.wr rfl,F5.trans (Fr.write k4),h6⟩
 .rintro σ H' ⟨_,hz,H5,rfl,G5,F5,h5⟩;have WC:=qV (λp:Pt=>{ p with row:=p.row++[0] }) (λp:Pt=>p.nm) (λ_=>rfl) st.aj st.aj.length;have e5:b_ ({ st with own:=st.own++[o],bD:=st.bD++[0],bH:=st.bH++[0],aj:=(st.aj.take st.aj.length).map (λp:Pt=>{ p with row:=p.row++[0] })++st.aj.drop st.aj.length }:HS).aj A.qs=b_ st.aj A.qs:=pB WC;have h5':=h5.dF;rw[e5]at h5';refine⟨hz,?_⟩;rw[lG,qU h5'];have es:({ st with own:=st.own++[o],bD:=st.bD++[0],bH:=st.bH++[0],aj:=(st.aj.take st.aj.length).map (λp:Pt=>{ p with row:=p.row++[0] })++st.aj.drop st.aj.length }:HS)=g_ st o:=by unfold g_;rw[cM,List.drop_length,AW]
  rw[es]at h5;exact q ρ A H5 ⟨G5,h5,EU hh.wf hn hl⟩ rfl F5
abbrev vG:Stmt:=inClass (top 21) 2
abbrev r_:List Str:=["self","part","owner","worth","weight"]
abbrev Nb:List Str:=r_.append ["place","tops"]
theorem vH:aS Nb r_ (aF vG):=dX
theorem Lr{T:TC}(F:iK K T.hold "load" "Hold.load" vG f fd)(X:Txt K T)(jv:Mn P w K mg base 3 T.hold "check_new" ju (DC T))(cX:Mn P w K mg base 1 T.hold "place_of" fX (Bg T))(fK:Mn P w K mg base 1 T.hold "beyond_common" gW (QI T K))(lI:Mn P w K mg base 1 T.hold "stow" nV (Ke T))(qj:Cn P w K mg base 1 "Part" T.part ["self","name","owner","worth","weight","scale","row"] (Bf T K))(cg:mg "len"=none):Mn P w K mg base 4 T.hold "load" r_ (So T):=by
 refine F.oA vH λcdv A outer s H vs Q E hr h=>?_
 obtain⟨⟨n,ρ,A,st,x,o,wo,we,rfl,hh,hx,hn,ho,h4,h5,h6,h7,q⟩⟩:=h
 refine⟨_,(@c9.h _ _ _ (ak (b9 (bZ jv hr (qv 0) (ah (qv 1) au)))
  (ak (a_ (i:=5) vH.nd (bZ cX hr (qv 0) (ah (qv 2) au)))
  (ak (cW (lH (bW.pt (Jo (aX rT (qv 3) aq (bu _)) (DK (aX rT (qv 4) aq (bu _)))))) (az gh) bP)
  (ak (a_ (i:=6) vH.nd (aP RK (ia (ah aq au)) (bU wL (by rfl) cg fW (ah (aJ K (qv 0)) au))))
  (ak (mO (aJ K (aJ K (qv 0))) (mP (qv 6) (qv 5) set_list))
  (az (b9 (bZ lI hr (qv 0) (ah (QT qj hr (ah (qv 1) (ah (qv 2) (ah (qv 3) (ah (qv 4) (ah aq (ah (bZ fK hr (qv 0) (ah (qv 6) au)) au))))))) au)))))))))),?_⟩
 refine⟨_,Z,A.a,A.dx,_,Z,hh.h.oa,Z,_,Z,⟨⟨n,ρ,A,st,x,Z,hh.h,hx,hn,λH1 g1=>?_⟩⟩⟩
 have iz:=hh.mono g1
 have F1:Fr n ρ H ρ H1:=Fr.of_same g1
 clear hh
 refine⟨_,Z,A.a,A.dx,_,Z,iz.h.oa,Z,_,Z,⟨⟨n,ρ,A,st,o,Z,iz.h,ho,?_⟩⟩⟩
 refine⟨false,⟨_,Z,_,_,Z,Z,_,Z,cI (λc=>absurd (eF c) (by omega)) λ_=>⟨_,Z,_,_,Z,Z,_,Z,dG (by omega),Z⟩⟩,bM ?_⟩
 refine⟨(gZ 1),λp0 hp0=>?_⟩
 have g2:=aH hp0 (.lst [.int 0])
 have nD:=iz.mono g2
 have F2:=F1.trans (Fr.of_same (ρ:=ρ) g2)
 have Vy:upd H1 p0 (.lst [.int 0]) p0=some (.lst [.int 0]):=ai
 generalize upd H1 p0 (.lst [.int 0])=H2 at *
 clear iz F1
 have BH:=pZ st.own 0
 have gc:=nD.wf.ki
 refine⟨_,Z,A.a,T.hold,A.dx,_,_,Z,nD.h.oa,X.cH,X.hpl,Z,A.pl,_,Z,nD.h.gY,p0,_,_,Z,Z,Vy,by omega,by rw[BH];omega,by rw[BH];show 1*_<=_;rw[uU,Nat.one_mul];exact small (by omega),λp1 hp1=>?_⟩
 rw[BH,uU,show(List.replicate st.own.length [V.int 0]).flatten=(List.replicate st.own.length (0:Int)).map V.int from by rw[List.map_replicate,List.flatten_replicate_singleton]]
 have g3:=aH hp1 (.lst ((List.replicate st.own.length (0:Int)).map V.int))
 have l9:=nD.mono g3
 have F3:=F2.trans (Fr.of_same (ρ:=ρ) g3)
 have n1:H p1=none:=(g1.trans g2).free hp1
 have c1:ρ p1=none:=nD.g.none hp1
 have AN:upd H2 p1 (.lst ((List.replicate st.own.length (0:Int)).map V.int)) p1=_:=ai
 generalize upd H2 p1 (.lst ((List.replicate st.own.length (0:Int)).map V.int))=H3 at *
 have hi:=List.idxOf_lt_length_iff.mpr ho
 refine⟨_,Z,A.a,T.hold,A.dx,_,_,Z,l9.h.oa,X.cH,X.wO,Z,A.bt,T.bot,A.db,_,_,Z,l9.h.jb,X.cB,X.GH,Z,_,Z,_,Z,p1,_,_,st.own.idxOf o,Z,Z,AN,by rw[aG,jW];exact uK hi,?_⟩
 rw[show((List.replicate st.own.length (0:Int)).map V.int).set (st.own.idxOf o) (V.int st.prod)=((List.replicate st.own.length (0:Int)).set (st.own.idxOf o) st.prod).map V.int from by rw[uD]]
 have nE:=l9.DE (o:=.lst (((List.replicate st.own.length (0:Int)).set (st.own.idxOf o) st.prod).map V.int)) c1 AN rfl rfl
 have F4:=F3.new (o:=.lst (((List.replicate st.own.length (0:Int)).set (st.own.idxOf o) st.prod).map V.int)) n1
 have Vz:upd H3 p1 (.lst (((List.replicate st.own.length (0:Int)).set (st.own.idxOf o) st.prod).map V.int)) p1=_:=ai
 have s4:aR H (upd H3 p1 (.lst (((List.replicate st.own.length (0:Int)).set (st.own.idxOf o) st.prod).map V.int))):=((g1.trans g2).trans g3).c8 n1 _
 generalize upd H3 p1 (.lst (((List.replicate st.own.length (0:Int)).set (st.own.idxOf o) st.prod).map V.int))=H4 at *
 clear nD l9 F2 F3
 refine⟨_,Z,A.a,A.dx,_,Z,nE.h.oa,Z,_,Z,_,Z,_,Z,_,Z,_,Z,A.a,A.dx,_,Z,nE.h.oa,Z,_,Z,⟨⟨n,ρ,A,st,p1,_,Z,nE.h,aI.of Vz,by rw[iA,jW,nE.wf.gD],by rw[iA,jW];omega,λr H5 g5 hr5 VA=>?_⟩⟩⟩
 intro y dy hy hdy hyd
 have AQ:upd (upd H5 dy (.own y)) y (.ins T.part dy []) r=some (.lst ((lU st ((List.replicate st.own.length 0).set (st.own.idxOf o) st.prod)).map V.int)):=by rw[ay (aD VA hy),ay (aD VA hdy)];exact VA
 refine⟨⟨y,dy,r,⟨x,o,wo,we,1,lU st ((List.replicate st.own.length 0).set (st.own.idxOf o) st.prod)⟩,Z,ai,aI.of AQ,λrr H6 hrr k6 hy6 VB=>⟨Z,?_⟩⟩⟩
 have Ls:H5 rr=none:=by
  have e1:rr≠y:=λe=>by rw[e,ai]at hrr;cases hrr
  have e2:rr≠dy:=λe=>by rw[e,ay hyd,ai]at hrr;cases hrr
  rw[ay e1,ay e2]at hrr;exact hrr
 have g6:aR H5 H6:=λb u e=>k6 b u (by rw[ay (aD e hy),ay (aD e hdy)];exact e) (aD e hy)
 have vI:=nE.mono g5
 have xm:=vI.mono g6
 have F6:=F4.trans (Fr.of_same (ρ:=ρ) (g5.trans g6))
 exact⟨⟨n,ρ,A,st,(y,dy,rr),_,Z,xm,hy6,VB,vI.g.none hy,vI.g.none Ls,hn,OE nE.wf hn h6 h7 ho h4 h5,λρ' A' H' a1 a2 a3=>q ρ' A' H' a1 a2 (a3.fr F6 ((s4.trans g5).free hy) ((s4.trans g5).free Ls))⟩⟩
abbrev vJ:Stmt:=inClass (top 21) 0
abbrev xM:List Str:=["self"]
abbrev Nc:List Str:=xM
theorem Lu:aS Nc xM (aF vJ):=dX
theorem Lv{T:TC}(F:GF K mg "Hold" T.hold "Hold.__init__" vJ f fd)(X:Txt K T)(rF:Cn P w K mg base 1 "Bottom" T.bot ["self"] (EO T)):Cn P w K mg base 3 "Hold" T.hold xM (ER T):=by
 refine F.oA Lu λcdv A outer s H vs Q E hr h=>?_;obtain⟨⟨p,dx,ρ,n,rfl,hp,g,hρ,q⟩⟩:=h;refine⟨_,(@c9.h _ _ _ (ak (cQ K (qv 0) rm)
  (ak (cQ K (qv 0) rm)
  (ak (cQ K (qv 0) (ia au))
  (ak (cQ K (qv 0) rm)
  (ak (cQ K (qv 0) (DL rF hr))
  (ak (cQ K (qv 0) (ia au))
  (az (cQ K (qv 0) (ia au)))))))))),?_⟩
 have M0:jL p H ρ H ρ [] :=⟨(λ_ m=>absurd m (by simp)),λb o e _=>⟨e,Z⟩,g,_,hp⟩
 intro pl hpl;have M1:=(M0.new (o:=.dK []) (c:=(n,1,⟨#[]⟩)) hpl rfl)
 refine⟨_,Z,p,T.hold,dx,_,Z,by rw[ay (aD hp hpl)];exact hp,X.cH,X.hpl,by show 0<1000;decide,?_⟩;have M2:=M1.wr (u:=.ins T.hold dx (aY "places" (.ref pl) [])) rfl;have hp2:upd (upd H pl (.dK [])) p (.ins T.hold dx (aY "places" (.ref pl) [])) p=_:=ai;generalize upd (upd H pl (.dK [])) p (.ins T.hold dx (aY "places" (.ref pl) []))=H2 at *;clear M0 M1;intro ab hab;have M3:=(M2.new (o:=.dK []) (c:=(n,2,⟨#[]⟩)) hab rfl)
 refine⟨_,Z,p,T.hold,dx,_,Z,by rw[ay (aD hp2 hab)];exact hp2,X.cH,X.hab,by show 1<1000;decide,?_⟩;have M4:=M3.wr (u:=.ins T.hold dx (aY "aboard" (.ref ab) (aY "places" (.ref pl) []))) rfl;have Ht:upd (upd H2 ab (.dK [])) p (.ins T.hold dx (aY "aboard" (.ref ab) (aY "places" (.ref pl) []))) p=_:=ai;generalize upd (upd H2 ab (.dK [])) p (.ins T.hold dx (aY "aboard" (.ref ab) (aY "places" (.ref pl) [])))=H4 at *;clear M2 M3;refine⟨(gZ 0),λas has=>?_⟩;have M5:=(M4.new (o:=.lst []) (c:=(n,3,⟨#[]⟩)) has rfl)
 refine⟨_,Z,p,T.hold,dx,_,Z,by rw[ay (aD Ht has)];exact Ht,X.cH,X.has,by show 2<1000;decide,?_⟩;have M6:=M5.wr (u:=.ins T.hold dx (aY "ashore" (.ref as) (aY "aboard" (.ref ab) (aY "places" (.ref pl) [])))) rfl;have WD:upd (upd H4 as (.lst [])) p (.ins T.hold dx (aY "ashore" (.ref as) (aY "aboard" (.ref ab) (aY "places" (.ref pl) [])))) p=_:=ai;generalize upd (upd H4 as (.lst [])) p (.ins T.hold dx (aY "ashore" (.ref as) (aY "aboard" (.ref ab) (aY "places" (.ref pl) []))))=H6 at *;clear M4 M5;intro nm hnm;have M7:=(M6.new (o:=.dK []) (c:=(n,4,⟨#[]⟩)) hnm rfl)
 refine⟨_,Z,p,T.hold,dx,_,Z,by rw[ay (aD WD hnm)];exact WD,X.cH,X.hnm,by show 3<1000;decide,?_⟩;have M8:=M7.wr (u:=.ins T.hold dx (aY "names" (.ref nm) (aY "ashore" (.ref as) (aY "aboard" (.ref ab) (aY "places" (.ref pl) []))))) rfl;have hp8:upd (upd H6 nm (.dK [])) p (.ins T.hold dx (aY "names" (.ref nm) (aY "ashore" (.ref as) (aY "aboard" (.ref ab) (aY "places" (.ref pl) []))))) p=_:=ai;generalize upd (upd H6 nm (.dK [])) p (.ins T.hold dx (aY "names" (.ref nm) (aY "ashore" (.ref as) (aY "aboard" (.ref ab) (aY "places" (.ref pl) [])))))=H8 at *;clear M6 M7;intro bt db wO hdb hne;refine⟨⟨bt,db,Z,ai,λsp kn H9 uY hkn hsk k9 O_ hs9 hk9=>⟨Z,?_⟩⟩⟩;have s9:aR H8 H9:=λb o e=>k9 b o (by rw[ay (aD e wO),ay (aD e hdb)];exact e) (aD e wO);have fr:∀{c:Addr},upd (upd H8 db (.own bt)) bt (.ins T.bot db []) c=none->H8 c=none:=λ{c} e=>by
  have e1:c≠bt:=λz=>by rw[z,ai]at e;cases e
  have e2:c≠db:=λz=>by rw[z,ay hne,ai]at e;cases e
  rw[ay e1,ay e2]at e;exact e
 have aa8:=fr uY;have aa9:=fr hkn;have M9:=M8.same s9;have M10:=M9.add (c:=(n,5,⟨#[]⟩)) O_ rfl M8 wO (λe he=>aD (M8.m e he).1 wO);have M11:=M10.add (c:=(n,8,⟨#[]⟩)) hs9 rfl M8 aa8 (λe he=>by
  rcases b8.mp he with rfl|he
  .exact i8 O_ hs9 (by intro z;cases z)
  .exact aD (M8.m e he).1 aa8)
 have M12:=M11.add (c:=(n,9,⟨#[]⟩)) hk9 rfl M8 aa9 (λe he=>by
  rcases b8.mp he with rfl|he
  .exact i8 hs9 hk9 (by intro z;cases z)
  rcases b8.mp he with rfl|he
  .exact i8 O_ hk9 (by intro z;cases z)
  .exact aD (M8.m e he).1 aa9)
 have hp9:=s9 _ _ hp8;refine⟨_,Z,p,T.hold,dx,_,Z,hp9,X.cH,X.wO,by show 4<1000;decide,?_⟩;have M13:=M12.wr (u:=.ins T.hold dx (aY "bottom" (.ref bt) (aY "names" (.ref nm) (aY "ashore" (.ref as) (aY "aboard" (.ref ab) (aY "places" (.ref pl) [])))))) rfl;have AN:upd H9 p (.ins T.hold dx (aY "bottom" (.ref bt) (aY "names" (.ref nm) (aY "ashore" (.ref as) (aY "aboard" (.ref ab) (aY "places" (.ref pl) [])))))) p=_:=ai;generalize upd H9 p (.ins T.hold dx (aY "bottom" (.ref bt) (aY "names" (.ref nm) (aY "ashore" (.ref as) (aY "aboard" (.ref ab) (aY "places" (.ref pl) []))))))=Ti at *;clear M8 M9 M10 M11 M12;refine⟨(gZ 0),λcm wQ=>?_⟩;have M14:=(M13.new (o:=.lst []) (c:=(n,6,⟨#[]⟩)) wQ rfl)
 refine⟨_,Z,p,T.hold,dx,_,Z,by rw[ay (aD AN wQ)];exact AN,X.cH,X.wQ,by show 5<1000;decide,?_⟩;have M15:=M14.wr (u:=.ins T.hold dx (aY "common" (.ref cm) (aY "bottom" (.ref bt) (aY "names" (.ref nm) (aY "ashore" (.ref as) (aY "aboard" (.ref ab) (aY "places" (.ref pl) []))))))) rfl;have aa_:upd (upd Ti cm (.lst [])) p (.ins T.hold dx (aY "common" (.ref cm) (aY "bottom" (.ref bt) (aY "names" (.ref nm) (aY "ashore" (.ref as) (aY "aboard" (.ref ab) (aY "places" (.ref pl) []))))))) p=_:=ai;generalize upd (upd Ti cm (.lst [])) p (.ins T.hold dx (aY "common" (.ref cm) (aY "bottom" (.ref bt) (aY "names" (.ref nm) (aY "ashore" (.ref as) (aY "aboard" (.ref ab) (aY "places" (.ref pl) [])))))))=H15 at *;clear M13 M14;refine⟨(gZ 0),λpu zH=>?_⟩;have M16:=(M15.new (o:=.lst []) (c:=(n,7,⟨#[]⟩)) zH rfl)
 refine⟨_,Z,p,T.hold,dx,_,Z,by rw[ay (aD aa_ zH)];exact aa_,X.cH,X.zH,by show 6<1000;decide,?_⟩;have M17:=M16.wr (u:=.ins T.hold dx (aY "purses" (.ref pu) (aY "common" (.ref cm) (aY "bottom" (.ref bt) (aY "names" (.ref nm) (aY "ashore" (.ref as) (aY "aboard" (.ref ab) (aY "places" (.ref pl) [])))))))) rfl;have abc:upd (upd H15 pu (.lst [])) p (.ins T.hold dx (aY "purses" (.ref pu) (aY "common" (.ref cm) (aY "bottom" (.ref bt) (aY "names" (.ref nm) (aY "ashore" (.ref as) (aY "aboard" (.ref ab) (aY "places" (.ref pl) [])))))))) p=_:=ai;generalize upd (upd H15 pu (.lst [])) p (.ins T.hold dx (aY "purses" (.ref pu) (aY "common" (.ref cm) (aY "bottom" (.ref bt) (aY "names" (.ref nm) (aY "ashore" (.ref as) (aY "aboard" (.ref ab) (aY "places" (.ref pl) []))))))))=Hu at *;clear M15 M16;have m:=M17.m;have AL:∀{a:Addr}{o:HO}{c:qN}{ρ2:cu},(Hu a=some o/\ρ2 a=some c/\a≠p)->Hu a=some o/\cY ρ2 p (n,0,⟨#[]⟩) a=some c:=λh=>⟨h.1,by rw[bB h.2.2];exact h.2.1⟩
 have a1:=AL (m _ (.head _));have a2:=AL (m _ (.tail _ (.head _)));have a3:=AL (m _ (.tail _ (.tail _ (.head _))));have a4:=AL (m _ (.tail _ (.tail _ (.tail _ (.head _)))));have a5:=AL (m _ (.tail _ (.tail _ (.tail _ (.tail _ (.head _))))));have a6:=AL (m _ (.tail _ (.tail _ (.tail _ (.tail _ (.tail _ (.head _)))))));have a7:=AL (m _ (.tail _ (.tail _ (.tail _ (.tail _ (.tail _ (.tail _ (.head _))))))));have a8:=AL (m _ (.tail _ (.tail _ (.tail _ (.tail _ (.tail _ (.tail _ (.tail _ (.head _)))))))));have a9:=AL (m _ (.tail _ (.tail _ (.tail _ (.tail _ (.tail _ (.tail _ (.tail _ (.tail _ (.head _))))))))));refine q (cY _ p (n,0,⟨#[]⟩)) ⟨p,dx,pl,ab,as,nm,bt,db,cm,pu,sp,kn,[]⟩ Hu rfl ⟨M17.g.color abc rfl,⟨abc,cE,a9.1,a9.2,a8.1,a8.2,⟨[],a7.1,.nil⟩,a7.2,a6.1,a6.2,a5.1,a5.2,a2.1,a2.2,a1.1,a1.2,a4.1,a4.2,⟨[],a3.1,(λx hx=>absurd hx (by simp)),aO _,uC⟩,a3.2,Z,λi x y ex=>by simp[hs0]at ex⟩,wf0⟩ (λb o e hb=>?_);obtain⟨x,y⟩:=M17.k b o e hb;exact⟨x,by rw[bB hb];exact y⟩
abbrev oY:Stmt:=inClass (top 21) 27
abbrev l_:List Str:=["self","amounts"]
abbrev D8:List Str:=l_.append ["lost","sums","name","amount","part","many"]
theorem fE:aS D8 l_ (aF oY):=dX
theorem CA{T:TC}(F:iK K T.hold "given_up" "Hold.given_up" oY f fd)(X:Txt K T)(kZ:mg "sum"=none)(ja:mg "zip"=none):Mn P w K mg base 1 T.hold "given_up" l_ (OH T):=by
 refine F.oA fE λcdv A outer s H vs Q E hr h=>?_;obtain⟨⟨n,ρ,A,st,d,rs,rfl,h,wf,hd,cd,hle,xN,q⟩⟩:=h;refine⟨_,(@c9.h _ _ _ (ak (a_ (i:=2) fE.nd (bU (GD rfl) (by rfl) kZ Js (ah (EZ (qv 1)) au)))
  (ak (pD (i:=3) ["common","lost"] [none,some 2] fE.nd rfl rfl rfl (dZ K (aJ K (qv 0))) (λ_ _ _ _=>(aW (i:=0) (show List.Nodup (["common","lost"] :List Str)from by decide +kernel))) (λ_ _ _ _=>(aP qR (qv 1) (qv 0))) rfl (by rfl) (by rfl))
  (ak (yf (fB fV rfl (yT (qv 1)) (iu K (n:=2) rfl (cD (aW (i:=4) fE.nd) (cD (aW (i:=5) fE.nd) ir))) (ak (a_ (i:=6) fE.nd (eT (d8 hr) (aJ K (qv 0)) (qv 4)))
  (ak (a_ (i:=7) fE.nd (aP qR (qv 5) (aJ K (qv 6))))
  (az (pD (i:=3) ["old","own","many"] [none,none,some 7] fE.nd rfl rfl rfl (rj K (by rfl) ja (ah (qv 3) (ah (aJ K (qv 6)) au))) (λ_ _ _ _=>(iu K (n:=2) rfl (cD (aW (i:=0) (show List.Nodup (["old","own","many"] :List Str)from by decide +kernel)) (cD (aW (i:=1) (show List.Nodup (["old","own","many"] :List Str)from by decide +kernel)) ir)))) (λ_ _ _ _=>(aP cU (qv 0) (aP qR (qv 2) (qv 1)))) rfl (by rfl) (by rfl)))))))
  (az (bF (qv 3))))))),?_⟩
 have hcl:st.bD.length<=100:=by rw[wf.gD];exact wf.ki
 have zl:Jm.Sz 1100 (aQ rs):=by have:=Jm.RS (n:=60) (ws:=rs.map (·.2)) (λm hm=>by obtain⟨r,hr,rfl⟩:=aZ.mp hm;exact(xN r hr).1);exact this.mono (by rw[aG];omega)
 have zc:∀c∈st.bD,Jm.Sz 8000 c:=λc hc=>Jm.Sz.pS (by have:=wf.oN c hc;have:=wf.eE;omega) (wf.oN c hc).2 wf.big;refine⟨_,Z,d,_,Z,.inl hd,λv hv=>⟨v,d,_,rs.map (·.2),Z,ai,.inl (by rw[ay (aD hd hv)];exact hd),by unfold iM;rw[gr,gr];rfl,?_⟩⟩;have g1:=aH hv (lY v d);have hd1:=g1 _ _ hd;have h1:=h.mono g1;generalize upd H v (lY v d)=H1 at *;refine⟨_,Z,A.a,T.hold,A.dx,_,_,Z,h1.oa,X.cH,X.wQ,Z,A.cm,Z,⟨_,aI.of h1.iL⟩,λl0 qm=>?_⟩;refine lg (J:=zx K A.cm) (n:=(st.bD.map V.int).length) 0 (λi o H'=>aR H1 H'/\o=((st.bD.take i).map λc=>aQ rs*c).map V.int) (by rw[aG];omega) ⟨aH qm _,Z⟩ (λi o H' hi _ hp=>⟨_,_,aI.of (hp.1 _ _ h1.iL),bK hi⟩) (λo H' _ hp=>⟨_,aI.of (hp.1 _ _ h1.iL),aO _⟩) ?_ ?_
 .rintro i y o H2 H3 hi gc ha ⟨g,e⟩ ⟨rfl,hy⟩;obtain⟨c,rfl,ec⟩:=gq (hy _ (aI.of (g _ _ h1.iL)));refine⟨_,Z,_,Z,_,_,Z,Z,pe zl (zc c (cC ec)),ha,g.c8 qm _,?_⟩;subst e;rw[take_snoc ec,bX,bX];rfl
 rintro o H2 gc ha ⟨g2,e⟩;rw[aG,cM]at e;subst e;have g12:=g1.trans g2;have hd2:=g2 _ _ hd1;have h2:=h1.mono g2;have hn0:H l0=none:=g1.free qm;refine⟨d,_,hd2,λob=>⟨_,Z,d,ob,_,Z,ai,?_⟩⟩;have al:=yM rs;refine u_ (n:=(iM rs).length) (λi σ H'=>aR (upd H2 d (.fu ob (.dK (iM rs)))) H'/\∃l s4 s5 s6 s7,σ=[some (.ref A.a),some (.ref d),some (.int (aQ rs)),some (.ref l),s4,s5,s6,s7]/\H l=none/\H' l=some (.lst (((rs.take i).foldl (jZ st) (st.bD.map λc=>aQ rs*c)).map V.int))/\((rs.take i).foldl (jZ st) (st.bD.map λc=>aQ rs*c)).length=st.bD.length)
  ⟨aR.refl _,l0,_,_,_,_,Z,hn0,eX hd2 ha (λk z=>by cases z),by rw[List.take_zero,List.foldl_nil,aG]⟩ (λi σ H' hi hp=>⟨hp.1 _ _ ai,hi⟩) (λσ H' hp=>⟨hp.1 _ _ ai,aO _⟩) ?_ ?_
 .rintro i x σ H3 H4 hi ⟨g,l,s4,s5,s6,s7,rfl,Dk,hl,hsl⟩ ⟨pp,kv,hpp,hkv,rfl,rfl⟩;unfold iM at hkv;rw[cK]at hkv;obtain⟨r,er,rfl⟩:=nI.mp hkv;have hrm:=cC er;obtain⟨zr,p,gf,D9⟩:=xN r hrm;obtain⟨ip,Hv,Tj⟩:=xy gf;have ep:st.aj[ip]?=some p:=by rw[bK Hv,Tj]
  have epg:bJ st r.1=p:=by rw[<-D9];exact OG wf.dM ep
  have g4:=aH hpp (.tup [.str r.1,.int r.2]);have gg:=g.trans g4;have h2z:∀{b:Addr}{u:HO},H2 b=some u->(∀k,u ≠ .dK k)->upd H3 pp (.tup [.str r.1,.int r.2]) b=some u:=λe k=>gg _ _ (eX hd2 e k);have nab:A.ab≠d:=(BE cd h.fC).symm;obtain⟨qq,eq,k1,k2,_,_⟩:=h2.find ep;have hab:upd H3 pp (.tup [.str r.1,.int r.2]) A.ab=some (.dK (b_ st.aj A.qs)):=gg _ _ (by rw[ay nab];exact h2.dF);have hv:=uN wf.dM ep eq;have hq1:=h2z k1 (λk z=>by cases z);have hq2:=h2z k2 (λk z=>by cases z);have Lw:upd H3 pp (.tup [.str r.1,.int r.2]) pp=some (.tup [.str r.1,.int r.2]):=ai;have Hw:=g4 _ _ hl;have hno:∀{b:Addr},upd H3 pp (.tup [.str r.1,.int r.2]) b=none->H b=none:=λ{b} e=>by have e1:=jq hd2 (gg.free e);exact g12.free e1
  have Lx:upd H3 pp (.tup [.str r.1,.int r.2]) A.a=some (.ins T.hold A.dx (dU A)):=h2z h2.oa (λk z=>by cases z);show zV K 2 _ _ _ (upd H3 pp (.tup [.str r.1,.int r.2])) _;generalize upd H3 pp (.tup [.str r.1,.int r.2])=H4 at *;refine⟨pp,_,Z,dz.of Lw,Z,_,_,Z,_,_,Z,Z,?_⟩;refine⟨_,Z,A.a,T.hold,A.dx,_,_,Z,Lx,X.cH,X.hab,Z,_,Z,A.ab,_,Z,by rw[<-D9];exact hv▸eW.k (k:=Sum.inr p.nm) hab,?_⟩;have zs:Jm.Sz 8000 p.sc:=Jm.Sz.pS (by have:=wf.sS p gf;have:=wf.eE;omega) (wf.sS p gf).2 wf.big;refine⟨_,Z,_,Z,qq.1,T.part,qq.2.1,_,_,Z,hq1,X.cP,X.GG,Z,_,_,Z,Z,pe zr zs,?_⟩;have erl:p.row.length=st.bD.length:=by rw[wf.rows p gf,wf.gD]
  generalize eS:(rs.take i).foldl (jZ st) (st.bD.map λc=>aQ rs*c)=S at *;refine⟨_,Z,_,Z,qq.1,T.part,qq.2.1,_,_,Z,hq1,X.cP,X.J9,Z,_,_,_,_,_,_,Z,.lst (aI.of Hw),.lst (aI.of hq2),λacc hacc=>?_⟩;refine yb (K:=K) (n:=S.length) [0,1] (λj out H5=>aR H4 H5/\out=(List.zipWith (λold own=>old+(r.2*p.sc)*own) (S.take j) (p.row.take j)).map V.int) (by decide) (by omega) ⟨aH hacc _,Z⟩ (λj out H5 hj _ hp=>⟨aI.of (hp.1 _ _ Hw),aI.of (hp.1 _ _ hq2),by rw[aG];exact hj,by rw[aG];omega⟩)
   (λout H5 _ hp=>⟨aI.of (hp.1 _ _ Hw),aI.of (hp.1 _ _ hq2),.inl (by rw[aG];exact aO _)⟩) ?_ ?_
  .rintro j x out H5 H6 hj Ff ha2 ⟨g5,e5⟩ ⟨p2,x1,y1,hp2,rfl,rfl,e1,e2⟩;obtain⟨t,rfl,et⟩:=gq e1;obtain⟨c,rfl,ec⟩:=gq e2;have g6:=aH hp2 (.tup [.int t,.int c]);have zw:Jm.Sz 8000 c:=Jm.Sz.pS (wf.oO p gf c (cC ec)).1 (wf.oO p gf c (cC ec)).2 wf.big;refine⟨p2,_,Z,dz.of ai,Z,_,Z,_,Z,_,Z,_,_,Z,Z,pe (zr.mul zs) zw,_,_,Z,Z,g6 _ _ ha2,(g5.trans g6).c8 hacc _,?_⟩;rw[sU _ et ec,e5,bX];rfl
  rintro out H5 Ff ha2 ⟨g5,e5⟩;rw[cM,hsl,<-erl,cM]at e5;have eN:(rs.take (i+1)).foldl (jZ st) (st.bD.map λc=>aQ rs*c)=List.zipWith (λold own=>old+(r.2*p.sc)*own) S p.row:=by rw[take_snoc er,BR,eS];show jZ st S r=_;unfold jZ;rw[epg]
  refine⟨gg.trans g5,acc,_,_,_,_,Z,hno hacc,?_,?_⟩
  .rw [eN,ha2,e5]
  .rw [eN,lR];omega
 rintro σ H3 ⟨g,l,s4,s5,s6,s7,rfl,Dk,hl,hsl⟩;rw[al,cM]at hl;refine⟨g _ _ ai,_,Z,?_⟩;have nl:l≠d:=λe=>by rw[e,hd]at Dk;cases Dk
 exact q l _ (g12.trans (qT hd2 g)) Dk (by rw[ay nl];exact hl)
abbrev rG:Stmt:=inClass (top 21) 23
abbrev lC:List Str:=["self","name","amount"]
abbrev HR:List Str:=lC.append ["part"]
theorem yl:aS HR lC (aF rG):=dX
theorem Fi{T:TC}(F:iK K T.hold "lessen" "Hold.lessen" rG f fd)(X:Txt K T):Mn P w K mg base 1 T.hold "lessen" lC (Kv T):=by
 refine F.oA yl λcdv A outer s H vs Q E hr h=>?_;obtain⟨⟨n,ρ,A,st,r,rfl,hh,⟨p,gf,D9,hle⟩,wf',q⟩⟩:=h;have h:=hh.h;have nd:=hh.wf.dM;refine⟨_,(@c9.h _ _ _ (ak (a_ (i:=3) yl.nd (eT (d8 hr) (aJ K (qv 0)) (qv 1)))
  (ak (qc K (qv 3) (qv 2) JK)
  (az (jT (aX eY (aJ K (qv 3)) aq (bu _)) (az (OL (aJ K (qv 0)) (qv 1))) bP))))),?_⟩
 obtain⟨ip,Hv,Tj⟩:=xy gf;have ep:st.aj[ip]?=some p:=by rw[bK Hv,Tj]
 obtain⟨qq,eq,k1,k2,k3,k4⟩:=h.find ep;have hv:=uN nd ep eq;refine⟨_,Z,A.a,T.hold,A.dx,_,_,Z,h.oa,X.cH,X.hab,Z,_,Z,A.ab,_,Z,by rw[<-D9];exact hv▸eW.k (k:=Sum.inr p.nm) h.dF,?_⟩;refine⟨_,Z,qq.1,T.part,qq.2.1,_,_,Z,k1,X.cP,X.vc,Z,_,Z,_,_,Z,Z,qq.2.1,_,k1,by show 6<1000;decide,?_⟩;have h1:=h.jn (p1:={ p with wo:=p.wo-r.2 }) hh.g ep eq rfl rfl nd;have g1:=hh.g.wr (a:=qq.1) (o:=.ins T.part qq.2.1 (cZ { p with wo:=p.wo-r.2 } qq.2.2)) rfl;have F1:Fr n ρ H ρ (upd H qq.1 (.ins T.part qq.2.1 (cZ { p with wo:=p.wo-r.2 } qq.2.2))):=Fr.write k3;show ZO _ _ _ _ _ (upd H qq.1 (.ins T.part qq.2.1 (cZ { p with wo:=p.wo-r.2 } qq.2.2)));have Pa:upd H qq.1 (.ins T.part qq.2.1 (cZ { p with wo:=p.wo-r.2 } qq.2.2)) qq.1=some (.ins T.part qq.2.1 (cZ { p with wo:=p.wo-r.2 } qq.2.2)):=ai;generalize upd H qq.1 (.ins T.part qq.2.1 (cZ { p with wo:=p.wo-r.2 } qq.2.2))=H1 at *;have el:cS st r={ st with aj:=if p.wo-r.2=0 then st.aj.eraseIdx ip else st.aj.set ip { p with wo:=p.wo-r.2 } }:=by unfold cS;rw[<-D9,Cc nd (λx hx=>by have:=hh.wf.jK x hx;omega) ep]
 rw[el]at wf' q;refine⟨λσ' H'=>Q .cT H',?_,λ_ _ z=>z⟩;refine⟨_,Z,qq.1,T.part,qq.2.1,_,_,Z,Pa,X.cP,X.vc,Z,Z,_,Z,cI (λc=>?_) (λc=>?_)⟩
 .have c':p.wo-r.2=0:=V.int.inj (eF c);rw[aC c']at wf' q;have nd1:((st.aj.set ip { p with wo:=p.wo-r.2 }).map (λx:Pt=>x.nm)).Nodup:=by rw[uD,show({ p with wo:=p.wo-r.2 }:Pt).nm=p.nm from rfl,sW (by rw[cK,ep];rfl)];exact nd
  have ep1:(st.aj.set ip { p with wo:=p.wo-r.2 })[ip]?=some { p with wo:=p.wo-r.2 }:=qO Hv;have dk:=Cb nd1 h1.ql ep1;rw[List.eraseIdx_set_eq]at dk;have hv1:=uN nd1 ep1 eq;refine⟨_,Z,A.a,T.hold,A.dx,_,_,Z,h1.oa,X.cH,X.hab,Z,_,Z,A.ab,_,Sum.inr r.1,Z,h1.dF,Z,?_,?_⟩
  .rw [<-D9];show(dY (b_ (st.aj.set ip { p with wo:=p.wo-r.2 }) A.qs) (Sum.inr p.nm)).isSome=true;rw[show dY (b_ (st.aj.set ip { p with wo:=p.wo-r.2 }) A.qs) (Sum.inr p.nm)=_ from hv1];rfl
  .show Q .cT (upd H1 A.ab (.dK (m8 (b_ (st.aj.set ip { p with wo:=p.wo-r.2 }) A.qs) (Sum.inr r.1))));rw[<-D9,show m8 (b_ (st.aj.set ip { p with wo:=p.wo-r.2 }) A.qs) (Sum.inr p.nm)=_ from dk];have hi2:ip<A.qs.length:=by rw[h.ql];exact Hv
   have h2:=h1.J7 g1 (st.aj.eraseIdx ip) (A.qs.eraseIdx ip) (by rw[Py Hv,Py hi2,h.ql]) (λj x y ex ey=>by rw[<-List.eraseIdx_set_eq (l:=st.aj) (i:=ip) (a:={ p with wo:=p.wo-r.2 })]at ex;obtain⟨k,a1,a2⟩:=Aj ex ey;exact h1.opt k x y a1 a2)
   exact q ρ _ _ ⟨g1.wr rfl,h2,wf'⟩ rfl (F1.trans (Fr.write h1.fC))
 .have c':¬ p.wo-r.2=0:=λe=>c (bq (by rw[e]));rw[aB c']at wf' q;exact q ρ A H1 ⟨g1,h1,wf'⟩ rfl F1
abbrev tZ:Stmt:=inClass (top 21) 28
abbrev mW:List Str:=["self","kept","whole","added"]
abbrev Ly:List Str:=mW.append ["scales","common","shared","part","scale"]
theorem jF:aS Ly mW (aF tZ):=dX
theorem HU{T:TC}(F:iK K T.hold "blend" "Hold.blend" tZ f fd)(X:Txt K T)(qo:Dn P w K mg base 2 "factor_of_all" l7 (Sw K))(t_:Mn P w K mg base 1 T.bot "grow" oq (Sx T))(ja:mg "zip"=none):Mn P w K mg base 3 T.hold "blend" mW (EW T K):=by
 refine F.oA jF λcdv A outer s H vs Q E hr h=>?_;obtain⟨⟨n,ρ,A,st,kept,whole,la,added,rfl,hh,hla,hal,k0,w0,kz,wz,haz,hpz,hsl,wf',q⟩⟩:=h;refine⟨_,(@c9.h _ _ _ (ak (yf (pD (i:=4) ["part","kept"] [none,some 1] jF.nd rfl rfl rfl (Bk (aJ K (qv 0))) (λ_ _ _ _=>(aW (i:=0) (show List.Nodup (["part","kept"] :List Str)from by decide +kernel))) (λ_ _ _ _=>(aP qR (aJ K (qv 0)) (qv 1))) rfl (by rfl) (by rfl)))
  (ak (pD (i:=5) ["top","more","kept"] [none,none,some 1] jF.nd rfl rfl rfl (rj K (by rfl) ja (ah (aJ K (qv 0)) (ah (qv 3) au))) (λ_ _ _ _=>(iu K (n:=2) rfl (cD (aW (i:=0) (show List.Nodup (["top","more","kept"] :List Str)from by decide +kernel)) (cD (aW (i:=1) (show List.Nodup (["top","more","kept"] :List Str)from by decide +kernel)) ir)))) (λ_ _ _ _=>(aP cU (aP qR (qv 0) (qv 2)) (qv 1))) rfl (by rfl) (by rfl))
  (ak (a_ (i:=6) jF.nd (bL qo hr (ah (qv 2) (ah (aP ZC (qv 4) (qv 5)) au))))
  (ak (yf (fB fV rfl (rj K (by rfl) ja (ah (EZ (aJ K (qv 0))) (ah (qv 4) au))) (iu K (n:=2) rfl (cD (aW (i:=7) jF.nd) (cD (aW (i:=8) jF.nd) ir))) (az (cQ K (qv 7) (aP jl (qv 8) (qv 6))))))
  (ak (cQ K (qv 0) (kq ["top","shared"] [none,some 6] rfl (dZ K (qv 5)) (λ_ _ _ _=>(aW (i:=0) (show List.Nodup (["top","shared"] :List Str)from by decide +kernel))) (λ_ _ _ _=>(aP jl (qv 0) (qv 1))) rfl (by rfl)))
  (ak (cQ K (qv 0) (kq ["purse","whole","shared"] [none,some 2,some 6] rfl (dZ K (aJ K (qv 0))) (λ_ _ _ _=>(aW (i:=0) (show List.Nodup (["purse","whole","shared"] :List Str)from by decide +kernel))) (λ_ _ _ _=>(aP qR (qv 0) (aP jl (qv 1) (qv 2)))) rfl (by rfl)))
  (az (b9 (bZ t_ hr (aJ K (qv 0)) (ah (aP jl (qv 2) (qv 6)) au))))))))))),?_⟩
 have hpl:=hh.wf.mH;have nd:=hh.wf.dM;have hcl:st.bD.length<=100:=by rw[hh.wf.gD];exact hh.wf.ki
 have zsc:∀p∈st.aj,Jm.Sz 8000 p.sc:=λp hp=>Jm.Sz.pS (by have:=hh.wf.sS p hp;have:=hh.wf.eE;omega) (hh.wf.sS p hp).2 hh.wf.big;have zcm:∀c∈st.bD,Jm.Sz 8000 c:=λc hc=>Jm.Sz.pS (by have:=hh.wf.oN c hc;have:=hh.wf.eE;omega) (hh.wf.oN c hc).2 hh.wf.big;have h:=hh.h;refine⟨A.ab,_,h.dF,λob=>?_⟩;refine⟨_,Z,A.a,T.hold,A.dx,_,_,Z,eX h.dF h.oa (λk z=>by cases z),X.cH,X.hab,Z,A.ab,ob,_,Z,ai,λl1 hl1=>?_⟩;have el:=uM h.ql;refine lg (n:=st.aj.length) 0 (λi out H1=>aR (upd H A.ab (.fu ob (.dK (b_ st.aj A.qs)))) H1/\out=((st.aj.take i).map λp:Pt=>p.sc*kept).map V.int) (by omega) ⟨aH hl1 _,Z⟩ (λi out H1 hi _ hp=>⟨hp.1 _ _ ai,by rw[el];exact hi⟩) (λout H1 _ hp=>⟨hp.1 _ _ ai,by rw[el];exact aO _⟩) ?_ ?_
 .rintro i x out H1 H2 hi gc ha ⟨g,e⟩ ⟨rfl,kv,hkv,rfl⟩;have ep:=bK hi;obtain⟨qq,eq,k1,k2,_⟩:=h.find ep;rw[uL ep eq]at hkv;cases hkv;have hq:=g _ _ (eX h.dF k1 (λk z=>by cases z));refine⟨_,Z,qq.1,T.part,qq.2.1,_,_,Z,hq,X.cP,X.GG,Z,_,Z,_,_,Z,Z,pe (zsc _ (CN hi)) kz,ha,g.c8 hl1 _,?_⟩;subst e;rw[take_snoc ep,bX,bX];rfl
 rintro o1 H1 ajt ha1 ⟨g1,e1⟩;rw[cM]at e1;have hz1:=g1 _ _ (ai (H:=H) (a:=A.ab) (o:=.fu ob (.dK (b_ st.aj A.qs))));have na1:l1≠A.ab:=λe=>by rw[e,hz1]at ha1;cases ha1
 refine⟨hz1,?_⟩;have s2:aR H (upd H1 A.ab (.dK (b_ st.aj A.qs))):=qT h.dF g1;have aju:H l1=none:=jq h.dF hl1;have ha2:upd H1 A.ab (.dK (b_ st.aj A.qs)) l1=some (.lst ((jc st kept).map V.int)):=by rw[ay na1,ha1,e1];rfl
 generalize upd H1 A.ab (.dK (b_ st.aj A.qs))=H2 at *;clear g1 hz1 ha1 e1;have h2:=h.mono s2;have Q8:=s2.seq hla;refine⟨_,Z,A.a,T.hold,A.dx,_,_,Z,h2.oa,X.cH,X.wQ,Z,_,Z,_,_,_,_,_,_,Z,.lst (aI.of h2.iL),.lst Q8,λl2 hl2=>?_⟩;refine yb (K:=K) (n:=st.bD.length) [0,1] (λi out H3=>aR H2 H3/\out=(List.zipWith (λt m=>t*kept+m) (st.bD.take i) (added.take i)).map V.int) (by decide) (by omega) ⟨aH hl2 _,Z⟩ (λi out H3 hi _ hp=>⟨aI.of (hp.1 _ _ h2.iL),hp.1.seq Q8,by rw[aG];exact hi,by rw[aG];omega⟩)
  (λout H3 _ hp=>⟨aI.of (hp.1 _ _ h2.iL),hp.1.seq Q8,.inl (by rw[aG];exact aO _)⟩) ?_ ?_
 .rintro i x out H3 H4 hi gc ha ⟨g,e⟩ ⟨p,x1,y1,hp,rfl,rfl,e1,e2⟩;obtain⟨t,rfl,et⟩:=gq e1;obtain⟨c,rfl,ec⟩:=gq e2;have g1:=aH hp (.tup [.int t,.int c]);refine⟨p,_,Z,dz.of ai,Z,_,Z,_,Z,_,_,Z,Z,pe (zcm t (cC et)) kz,_,Z,_,_,Z,Z,g1 _ _ ha,(g.trans g1).c8 hl2 _,?_⟩;rw[sU _ et ec,e,bX];rfl
 rintro o2 H3 Ff ha3 ⟨g3,e3⟩;rw[cM,<-hal,cM]at e3;have Tn:o2=(fZ st kept added).map V.int:=e3;subst Tn;have s3:=s2.trans g3;have h3:=h.mono s3;have VC:=g3 _ _ ha2;have ajv:H l2=none:=s2.free hl2;have n12:l1≠l2:=λe=>by rw[e,hl2]at ha2;cases ha2
 clear e3 h2 Q8 g3 ha2 s2;have lsc:(jc st kept).length=st.aj.length:=by unfold jc;rw[aG]
 have lcm:(fZ st kept added).length=st.bD.length:=by unfold fZ;rw[lR,hal,yx]
 refine⟨_,Z,_,Z,_,Z,l1,l2,_,_,Z,Z,VC,ha3,by rw[aG,aG,lsc,lcm];exact f_ (Nat.add_le_add hpl hcl) (by rw[j8];decide),λp3 hp3=>?_⟩;rw[<-bX];have g4:=aH hp3 (.lst ((jc st kept++fZ st kept added).map V.int));refine⟨⟨whole,p3,_,Z,aI.of ai,by omega,?_,?_⟩⟩
 .intro t ht;rcases fq.mp ht with z|z
  .unfold jc at z;obtain⟨p,hp,rfl⟩:=aZ.mp z;exact rR (by have:=hh.wf.sS p hp;omega) (by omega)
  .obtain ⟨c,hc,m,hm,rfl⟩:=vg (show t∈List.zipWith _ st.bD added from z);have a1:=rR (hh.wf.oN c hc).1 (by omega:0<=kept);have a2:=(haz m hm).1;omega
 have s4:=s3.trans g4;have h4:=h.mono s4;have G4:=hh.g.same s4;have F4:Fr n ρ H ρ (upd H3 p3 (.lst ((jc st kept++fZ st kept added).map V.int))):=Fr.of_same s4;have b1:=g4 _ _ VC;have b2:=g4 _ _ ha3;generalize upd H3 p3 (.lst ((jc st kept++fZ st kept added).map V.int))=H4 at *;clear VC ha3 s3 h3 g4;obtain⟨sd,WE⟩:∃sd,sd=cA st kept whole added:=⟨_,rfl⟩
 rw[show p6 whole (jc st kept++fZ st kept added)=sd from WE.symm];have sp:0<sd:=by rw[WE];exact Al _ _ w0
 have SE:sd∣whole:=by rw[WE];exact(Ak _ _).1
 have sz:Jm.Sz 60 sd:=wz.dvd w0 (by omega) SE;have wq:0<whole / sd:=Int.ediv_pos_of_pos_of_dvd w0 (by omega) SE;have wqz:Jm.Sz 60 (whole / sd):=wz.ediv sp;have WG:∀{i:Int},Dg i sd:=λ{i}=>yE sp (sz.mono (by decide));refine⟨A.ab,_,h4.dF,λTo=>?_⟩;refine⟨_,Z,A.a,T.hold,A.dx,_,_,Z,eX h4.dF h4.oa (λk z=>by cases z),X.cH,X.hab,Z,A.ab,_,Z,.inr ⟨To,ai⟩,λv hv=>?_⟩;have nva:v≠A.ab:=λe=>by rw[e,ai]at hv;cases hv
 have hv4:H4 v=none:=jq h4.dF hv;have g5:=aH hv4 (lY v A.ab);have hv5:upd H4 v (lY v A.ab) v=some (lY v A.ab):=ai;rw[iW (bY nva)];have h5:=h4.mono g5;have G5:=G4.same g5;have F5:=F4.trans (Fr.of_same (ρ:=ρ) g5);have s5:=s4.trans g5;have c1:=g5 _ _ b1;have c2:=g5 _ _ b2;generalize upd H4 v (lY v A.ab)=H5 at *;clear h4 G4 F4 s4 b1 b2 g5;refine⟨_,Z,_,_,_,_,_,_,Z,.vals (eX h5.dF hv5 (λk z=>by cases z)) ai,.lst (aI.of (eX h5.dF c1 (λk z=>by cases z))),?_⟩;have exl:((b_ st.aj A.qs).map λp=>p.2).length=st.aj.length:=by rw[aG];exact el
 have eyl:((jc st kept).map V.int).length=st.aj.length:=by rw[aG];exact lsc
 refine u_ (n:=st.aj.length) (λi σ H'=>(∃s7 s8,σ=[some (.ref A.a),some (.int kept),some (.int whole),some (.ref la),some (.ref l1),some (.ref l2),some (.int sd),s7,s8])/\∃H6,H'=upd H6 A.ab (.fu To (.dK (b_ st.aj A.qs)))/\Gh ρ H6/\Fr n ρ H ρ H6/\aL T n ρ A H6 { st with aj:=(st.aj.take i).map (λp=>{ p with sc:=p.sc*kept / sd })++st.aj.drop i }/\H6 l1=some (.lst ((jc st kept).map V.int))/\H6 l2=some (.lst ((fZ st kept added).map V.int))/\(∀b,H6 b=none->H b=none))
  ⟨⟨_,_,Z⟩,H5,Z,G5,F5,h5,c1,c2,λb e=>s5.free e⟩ ?_ ?_ ?_ ?_
 .rintro i σ H' hi ⟨_,H6,rfl,G6,F6,h6,d1,d2,fr⟩;have e6:b_ ({ st with aj:=(st.aj.take i).map (λp:Pt=>{ p with sc:=p.sc*kept / sd })++st.aj.drop i }:HS).aj A.qs=b_ st.aj A.qs:=pB (qV (λp:Pt=>{ p with sc:=p.sc*kept / sd }) (λp:Pt=>p.nm) (λ_=>rfl) st.aj i);have rH:=h6.dF;rw[e6]at rH;exact⟨ai,aI.of (eX rH d1 (λk z=>by cases z)),by rw[exl];exact hi,by rw[eyl];exact hi⟩
 .rintro σ H' ⟨_,H6,rfl,G6,F6,h6,d1,d2,fr⟩;have e6:b_ ({ st with aj:=(st.aj.take st.aj.length).map (λp:Pt=>{ p with sc:=p.sc*kept / sd })++st.aj.drop st.aj.length }:HS).aj A.qs=b_ st.aj A.qs:=pB (qV (λp:Pt=>{ p with sc:=p.sc*kept / sd }) (λp:Pt=>p.nm) (λ_=>rfl) st.aj _);have rH:=h6.dF;rw[e6]at rH;exact⟨ai,aI.of (eX rH d1 (λk z=>by cases z)),.inl (by rw[exl];exact aO _)⟩
 .rintro i x σ H' zJ hi ⟨⟨s7,s8,rfl⟩,H6,rfl,G6,F6,h6,d1,d2,fr⟩ ⟨pp,x1,y1,hpp,rfl,rfl,ex,ey⟩;have ep:=bK hi;have ep6:=Kn (λp:Pt=>{ p with sc:=p.sc*kept / sd }) ep;obtain⟨qq,eq,k1,k2,k3,k4⟩:=h6.find ep6;have nm6:=qV (λp:Pt=>{ p with sc:=p.sc*kept / sd }) (λp:Pt=>p.nm) (λ_=>rfl) st.aj i;have e6:b_ ({ st with aj:=(st.aj.take i).map (λp:Pt=>{ p with sc:=p.sc*kept / sd })++st.aj.drop i }:HS).aj A.qs=b_ st.aj A.qs:=pB nm6;have rH:=h6.dF;rw[e6]at rH;rw[cK,uL ep eq]at ex;cases ex;obtain⟨sc,rfl,esc⟩:=gq ey;have agG:sc=(st.aj[i]).sc*kept:=by unfold jc at esc;rw[cK,ep]at esc;exact(fm esc).symm
  subst agG;have npa:pp≠A.ab:=λe=>by rw[e,ai]at hpp;cases hpp
  have agH:H6 pp=none:=jq rH hpp;have g7:=aH agH (.tup [.ref qq.1,.int ((st.aj[i]).sc*kept)]);rw[iW (bY npa)];have Lw:upd H6 pp (.tup [.ref qq.1,.int ((st.aj[i]).sc*kept)]) pp=some (.tup [.ref qq.1,.int ((st.aj[i]).sc*kept)]):=ai;have h7:=h6.mono g7;have G7:=G6.same g7;have F7:=F6.trans (Fr.of_same (ρ:=ρ) g7);have VD:=g7 _ _ rH;have f1:=g7 _ _ d1;have f2:=g7 _ _ d2;have JY:∀b,upd H6 pp (.tup [.ref qq.1,.int ((st.aj[i]).sc*kept)]) b=none->H b=none:=λb e=>fr b (g7.free e);have Pa:=g7 _ _ k1;generalize upd H6 pp (.tup [.ref qq.1,.int ((st.aj[i]).sc*kept)])=H7 at *;refine⟨pp,_,Z,dz.of (eX VD Lw (λk z=>by cases z)),Z,_,_,Z,_,_,Z,Z,?_⟩;refine⟨_,Z,_,Z,_,_,Z,Z,WG,_,Z,qq.1,T.part,qq.2.1,_,Z,eX VD Pa (λk z=>by cases z),X.cP,X.GG,by show 6<1000;decide,?_⟩;have nd7:(((st.aj.take i).map (λp:Pt=>{ p with sc:=p.sc*kept / sd })++st.aj.drop i).map (λp:Pt=>p.nm)).Nodup:=by rw[nm6];exact nd
  have h8:=h7.jn (p1:={ st.aj[i]with sc:=(st.aj[i]).sc*kept / sd }) G7 ep6 eq rfl rfl nd7;rw[show({ st with aj:=(st.aj.take i).map (λp:Pt=>{ p with sc:=p.sc*kept / sd })++st.aj.drop i }:HS).aj.set i { st.aj[i]with sc:=(st.aj[i]).sc*kept / sd }=_ from Ko (λp:Pt=>{ p with sc:=p.sc*kept / sd }) ep]at h8;have nqa:A.ab≠qq.1:=(i8 Pa VD (by intro z;cases z)).symm;have nq1:l1≠qq.1:=i8 f1 Pa (by intro z;cases z);have nq2:l2≠qq.1:=i8 f2 Pa (by intro z;cases z);refine⟨⟨_,_,Z⟩,_,iW nqa,G7.wr rfl,F7.trans (Fr.write k3),h8,by rw[ay nq1];exact f1,by rw[ay nq2];exact f2,λb e=>JY b ?_⟩;by_cases z:b=qq.1
  .rw [z,ai]at e;cases e
  .rw [ay z]at e;exact e
 rintro σ H' ⟨⟨s7,s8,rfl⟩,H6,rfl,G6,F6,h6,d1,d2,fr⟩;have e6:b_ ({ st with aj:=(st.aj.take st.aj.length).map (λp:Pt=>{ p with sc:=p.sc*kept / sd })++st.aj.drop st.aj.length }:HS).aj A.qs=b_ st.aj A.qs:=pB (qV (λp:Pt=>{ p with sc:=p.sc*kept / sd }) (λp:Pt=>p.nm) (λ_=>rfl) st.aj _);have rH:=h6.dF;rw[e6]at rH;refine⟨ai,?_⟩;rw[lG,qU rH];rw[show({ st with aj:=(st.aj.take st.aj.length).map (λp:Pt=>{ p with sc:=p.sc*kept / sd })++st.aj.drop st.aj.length }:HS)={ st with aj:=st.aj.map λp:Pt=>{ p with sc:=p.sc*kept / sd } }from by rw[cM,List.drop_length,AW]]at h6;clear e6 rH h5 G5 F5 s5 c1 c2 hv5;refine⟨_,Z,l2,Z,⟨_,aI.of d2⟩,λl3 hl3=>?_⟩;refine lg (J:=zx K l2) (n:=((fZ st kept added).map V.int).length) 0 (λi o H'=>aR H6 H'/\o=(((fZ st kept added).take i).map (· / sd)).map V.int) (by rw[aG];omega) ⟨aH hl3 _,Z⟩ (λi o H' hi _ hp=>⟨_,_,aI.of (hp.1 _ _ d2),bK hi⟩) (λo H' _ hp=>⟨_,aI.of (hp.1 _ _ d2),aO _⟩) ?_ ?_
 .rintro i y o Ha Hb hi gc ha ⟨g,e⟩ ⟨rfl,hy⟩;obtain⟨c,rfl,ec⟩:=gq (hy _ (aI.of (g _ _ d2)));refine⟨_,Z,_,Z,_,_,Z,Z,WG,ha,g.c8 hl3 _,?_⟩;subst e;rw[take_snoc ec,bX,bX];rfl
 rintro o3 H8 ajw Lz ⟨g8,e8⟩;rw[aG,cM]at e8;subst e8;have h8:=h6.mono g8;have G8:=G6.same g8;have F8:=F6.trans (Fr.of_same (ρ:=ρ) g8);have fr8:∀b,H8 b=none->H b=none:=λb e=>fr b (g8.free e);have c3:ρ l3=none:=G6.none hl3;have n3:H l3=none:=fr l3 hl3;refine⟨_,Z,A.a,T.hold,A.dx,_,Z,h8.oa,X.cH,X.wQ,by show 7<1000;decide,?_⟩;obtain⟨h9,G9⟩:=Am (t:=6) h8 G8 c3 Lz rfl;have F9:Fr n ρ H (cY ρ l3 (n,6,⟨#[]⟩)) H8:=F8.oQ n3;have BI:=h9.Sk G9 l3 _ Lz cE;have WH:=G9.wr (a:=A.a) (o:=.ins T.hold A.dx (dU { A with cm:=l3 })) rfl;have BJ:=F9.trans (Fr.write (o:=.ins T.hold A.dx (dU { A with cm:=l3 })) h9.ca);show iU _ _ _ _ (upd H8 A.a (.ins T.hold A.dx (dU { A with cm:=l3 })));have agI:∀b,upd H8 A.a (.ins T.hold A.dx (dU { A with cm:=l3 })) b=none->H b=none:=λb e=>fr8 b (by
  by_cases z:b=A.a
  .rw [z,ai]at e;cases e
  .rw [ay z]at e;exact e)
 generalize upd H8 A.a (.ins T.hold A.dx (dU { A with cm:=l3 }))=BD at *;clear h6 G6 F6 h8 G8 F8 h9 G9 F9 Lz g8 fr8 fr d1 d2;refine⟨_,Z,A.a,T.hold,A.dx,_,_,Z,BI.oa,X.cH,X.zH,Z,A.pu,Z,⟨_,aI.of BI.jC⟩,λl4 Hw=>?_⟩;have ajx:st.bH.length<=100:=by rw[hh.wf.mG];exact hh.wf.ki
 refine lg (J:=zx K A.pu) (n:=(st.bH.map V.int).length) 0 (λi o H'=>aR BD H'/\o=((st.bH.take i).map (·*(whole / sd))).map V.int) (by rw[aG];omega) ⟨aH Hw _,Z⟩ (λi o H' hi _ hp=>⟨_,_,aI.of (hp.1 _ _ BI.jC),bK hi⟩) (λo H' _ hp=>⟨_,aI.of (hp.1 _ _ BI.jC),aO _⟩) ?_ ?_
 .rintro i y o Ha Hb hi gc ha ⟨g,e⟩ ⟨rfl,hy⟩;obtain⟨c,rfl,ec⟩:=gq (hy _ (aI.of (g _ _ BI.jC)));refine⟨_,Z,_,Z,_,Z,_,_,Z,Z,WG,_,_,Z,Z,pe (hpz c (cC ec)) wqz,ha,g.c8 Hw _,?_⟩;subst e;rw[take_snoc ec,bX,bX];rfl
 rintro o4 K_ ajy abh ⟨Pb,e11⟩;rw[aG,cM]at e11;subst e11;have h11:=BI.mono Pb;have G11:=WH.same Pb;have F11:=BJ.trans (Fr.of_same (ρ:=cY ρ l3 (n,6,⟨#[]⟩)) Pb);have c4:cY ρ l3 (n,6,⟨#[]⟩) l4=none:=WH.none Hw;have n4:H l4=none:=agI l4 Hw;refine⟨_,Z,A.a,T.hold,A.dx,_,Z,h11.oa,X.cH,X.zH,by show 7<1000;decide,?_⟩;obtain⟨h12,G12⟩:=Am (t:=7) h11 G11 c4 abh rfl;have F12:Fr n ρ H (cY (cY ρ l3 (n,6,⟨#[]⟩)) l4 (n,7,⟨#[]⟩)) K_:=F11.oQ n4;have h13:=h12.J8 G12 l4 _ abh cE;have G13:=G12.wr (a:=A.a) (o:=.ins T.hold A.dx (dU { { A with cm:=l3 }with pu:=l4 })) rfl;have F13:=F12.trans (Fr.write (o:=.ins T.hold A.dx (dU { { A with cm:=l3 }with pu:=l4 })) h12.ca);rw[show aY "purses" (V.ref l4) (dU { A with cm:=l3 })=dU { { A with cm:=l3 }with pu:=l4 }from rfl];generalize upd K_ A.a (.ins T.hold A.dx (dU { { A with cm:=l3 }with pu:=l4 }))=Ti at *;refine⟨_,Z,A.a,T.hold,A.dx,_,_,Z,h13.oa,X.cH,X.wO,Z,A.bt,A.db,_,Z,h13.jb,Z,_,Z,_,Z,_,_,Z,Z,WG,?_⟩;refine⟨⟨n,_,{ { A with cm:=l3 }with pu:=l4 },{ st with aj:=st.aj.map (λp:Pt=>{ p with sc:=p.sc*kept / sd }),bD:=(fZ st kept added).map (· / sd),bH:=st.bH.map (·*(whole / sd)) },whole / sd,Z,G13,h13,by show st.stp.length<=1000;omega,hh.wf.big.mono (by decide),wqz.mono (by decide),λρ' A' H' a1 a2 a3 a4=>?_⟩⟩;have eb:aN st kept whole added=eZ { st with aj:=st.aj.map (λp:Pt=>{ p with sc:=p.sc*kept / sd }),bD:=(fZ st kept added).map (· / sd),bH:=st.bH.map (·*(whole / sd)) } (whole / sd):=by unfold aN;rw[WE]
 rw[eb]at wf' q;exact q ρ' A' H' ⟨a1,a2,wf'⟩ a3 (F13.trans a4)
abbrev vK:Stmt:=inClass (top 21) 3
abbrev nX:List Str:=["self","rows"]
abbrev Nd:List Str:=nX.append ["amounts","name","amount","whole","lost"]
theorem iQ:aS Nd nX (aF vK):=dX
theorem LB{T:TC}(F:iK K T.hold "cast" "Hold.cast" vK f fd)(X:Txt K T)(vL:Dn P w K mg base 1 "amounts_of" qf (Sv K))(mX:Dn P w K mg base 2 "check_loss" mV Wm)(cR:Mn P w K mg base 1 T.hold "part_of" fh (Ca T))(gX:Mn P w K mg base 1 T.hold "whole" kF (Bj T))(kH:Mn P w K mg base 3 T.hold "blend" mW (EW T K))(qt:Mn P w K mg base 1 T.hold "given_up" l_ (OH T))(jG:Mn P w K mg base 1 T.hold "lessen" lC (Kv T))(kZ:mg "sum"=none):Mn P w K mg base 4 T.hold "cast" nX (Kw T K):=by
 refine F.oA iQ λcdv A outer s H vs Q E hr h=>?_;obtain⟨⟨n,ρ,A,st,l,us,rs,rfl,hh,hl,hR,ok,q⟩⟩:=h;have wf:=hh.wf;have nd:=ok.nd;refine⟨_,(@c9.h _ _ _ (ak (a_ (i:=2) iQ.nd (bL vL hr (ah (qv 1) au)))
  (ak (yf (fB fV rfl (yT (qv 2)) (iu K (n:=2) rfl (cD (aW (i:=3) iQ.nd) (cD (aW (i:=4) iQ.nd) ir))) (az (b9 (bL mX hr (ah (aJ K (bZ cR hr (qv 0) (ah (qv 3) au))) (ah (qv 4) au)))))))
  (ak (a_ (i:=5) iQ.nd (kr gX hr (qv 0)))
  (ak (a_ (i:=6) iQ.nd (bU (GD rfl) (by rfl) kZ Js (ah (EZ (qv 2)) au)))
  (ak (cW (aX Jg (qv 6) (qv 5) (bu _)) (az gh) bP)
  (ak (b9 (bZ kH hr (qv 0) (ah (aP mE (qv 5) (qv 6)) (ah (qv 5) (ah (bZ qt hr (qv 0) (ah (qv 2) au)) au)))))
  (az (yf (fB fV rfl (yT (qv 2)) (iu K (n:=2) rfl (cD (aW (i:=3) iQ.nd) (cD (aW (i:=4) iQ.nd) ir))) (az (b9 (bZ jG hr (qv 0) (ah (qv 3) (ah (qv 4) au))))))))))))))),?_⟩
 refine⟨_,Z,⟨⟨l,us,rs,Z,hl,hR,nd,ok.ne,ok.len,λd H1 g1 hdn hd1=>?_⟩⟩⟩;have iz:=hh.mono g1;have F1:Fr n ρ H ρ H1:=Fr.of_same g1;have cd:ρ d=none:=hh.g.none hdn;have al:=yM rs;refine⟨d,_,hd1,λob=>⟨_,Z,d,ob,_,Z,ai,?_⟩⟩;refine u_ (n:=(iM rs).length) (λi σ H'=>aR (upd H1 d (.fu ob (.dK (iM rs)))) H'/\∃s3 s4 s5 s6,σ=[some (.ref A.a),some (.ref l),some (.ref d),s3,s4,s5,s6])
  ⟨aR.refl _,_,_,_,_,Z⟩ (λi σ H' hi hp=>⟨hp.1 _ _ ai,hi⟩) (λσ H' hp=>⟨hp.1 _ _ ai,aO _⟩) ?_ ?_
 .rintro i x σ H3 H4 hi ⟨g,s3,s4,s5,s6,rfl⟩ ⟨pp,kv,hpp,hkv,rfl,rfl⟩;unfold iM at hkv;rw[cK]at hkv;obtain⟨r,er,rfl⟩:=nI.mp hkv;have hrm:=cC er;obtain⟨r1,zr,p,gf,D9,hle⟩:=ok.row r hrm;obtain⟨ip,Hv,Tj⟩:=xy gf;have ep:st.aj[ip]?=some p:=by rw[bK Hv,Tj]
  have g4:=aH hpp (.tup [.str r.1,.int r.2]);have gg:=g.trans g4;have hf:HH T n ρ A (upd H1 d (.fu ob (.dK (iM rs)))) st:=iz.DE cd hd1 rfl rfl;have h4:=hf.mono gg;have Lw:upd H3 pp (.tup [.str r.1,.int r.2]) pp=some (.tup [.str r.1,.int r.2]):=ai;show zV K 2 _ _ _ (upd H3 pp (.tup [.str r.1,.int r.2])) _;generalize upd H3 pp (.tup [.str r.1,.int r.2])=H4 at *;obtain⟨qq,eq,k1,k2,_,_⟩:=h4.h.find ep;refine⟨pp,_,Z,dz.of Lw,Z,_,_,Z,_,_,Z,Z,?_⟩;refine⟨_,Z,A.a,A.dx,_,Z,h4.h.oa,Z,_,Z,⟨⟨n,ρ,A,st,ip,p,qq,by rw[<-D9];rfl,h4.h,wf.dM,ep,eq,?_⟩⟩⟩;refine⟨qq.1,T.part,qq.2.1,_,_,Z,k1,X.cP,X.vc,Z,_,Z,⟨⟨p.wo,r.2,Z,r1,hle,?_⟩⟩⟩;exact⟨gg,_,_,_,_,Z⟩
 rintro σ H2 ⟨g2,s3,s4,s5,s6,rfl⟩;refine⟨g2 _ _ ai,?_⟩;have gB:=qT hd1 g2;have nD:=iz.mono gB;have F2:Fr n ρ H ρ (upd H2 d (.dK (iM rs))):=F1.trans (Fr.of_same gB);have hd2:upd H2 d (.dK (iM rs)) d=some (.dK (iM rs)):=ai;generalize upd H2 d (.dK (iM rs))=H2' at *;refine⟨_,Z,A.a,A.dx,_,Z,nD.h.oa,Z,⟨⟨n,ρ,A,st,Z,nD.h,wf.mH,λH3 g3=>?_⟩⟩⟩;have l9:=nD.mono g3;have WI:=g3 _ _ hd2;have F3:=F2.trans (Fr.of_same (ρ:=ρ) g3);refine⟨_,Z,d,_,Z,.inl WI,λv hv=>⟨v,d,_,rs.map (·.2),Z,ai,.inl (by rw[ay (aD WI hv)];exact WI),by unfold iM;rw[gr,gr];rfl,?_⟩⟩;have g4:=aH hv (lY v d);have nE:=l9.mono g4;have hd4:=g4 _ _ WI;have F4:=F3.trans (Fr.of_same (ρ:=ρ) g4);generalize upd H3 v (lY v d)=H4 at *;have bo:=ok.blend wf;refine⟨_,Z,_,Z,_,_,Z,Z,_,Z,cI (λc=>absurd (eF c) (by have:=ok.lost;show ¬ aE st<=aQ rs;omega)) λ_=>?_⟩;refine⟨_,Z,A.a,A.dx,_,Z,nE.h.oa,Z,_,Z,_,Z,_,_,Z,Z,_,Z,_,Z,A.a,A.dx,_,Z,nE.h.oa,Z,_,Z,⟨⟨n,ρ,A,st,d,rs,Z,nE.h,wf,hd4,cd,ok.len,λr hr=>⟨(ok.row r hr).2.1,by obtain⟨p,hp,e,_⟩:=(ok.row r hr).2.2;exact⟨p,hp,e⟩⟩,λl5 H5 g5 hn5 hl5=>?_⟩⟩⟩;have vI:=nE.mono g5;have hd5:=g5 _ _ hd4;have F5:=F4.trans (Fr.of_same (ρ:=ρ) g5);have zk:Jm.Sz 60 (aE st-aQ rs):=bo.big.of_le (by have:=bo.k;have:=bo.l;omega);have zG:∀m∈dW st rs,0<=m/\Jm.Sz 8900 m:=λm hm=>by have h1:=bo.add m hm;have h2:=wf.eE;have zl:Jm.Sz 60 (aQ rs):=bo.big.of_le (by have:=bo.k;have:=bo.l;omega);exact⟨h1.1,Jm.Sz.pS (by have:=rR bo.l (show 0<=st.prod by omega);omega) h1.2 ((zl.mul bo.prod).mono (by decide))⟩
 refine⟨⟨n,ρ,A,st,aE st-aQ rs,aE st,l5,dW st rs,Z,vI,aI.of hl5,bo.len,bo.k,by have:=bo.k;have:=bo.l;omega,zk,bo.big,zG,ok.bH,ok.stp,vj wf bo,λρ6 A6 H6 xm e6 f6=>?_⟩⟩;obtain⟨hd6,cd6⟩:=f6 d _ hd5 (λt x=>by rw[cd];intro z;cases z);rw[cd]at cd6;have F6:=F5.trans f6;refine⟨d,_,hd6,λTo=>⟨_,Z,d,To,_,Z,ai,?_⟩⟩;generalize eB:aN st (aE st-aQ rs) (aE st) (dW st rs)=Pc at *;have agJ:Due Pc rs:=by rw[<-eB];exact Ar ok.due
 have adq:cV st rs=rs.foldl cS Pc:=by unfold cV;rw[eB]
 refine u_ (n:=(iM rs).length) (λi σ H'=>∃ρ' A',HH T n ρ' A' H' ((rs.take i).foldl cS Pc)/\A'.a=A.a/\H' d=some (.fu To (.dK (iM rs)))/\ρ' d=none/\Fr n ρ H ρ' H'/\Due ((rs.take i).foldl cS Pc) (rs.drop i)/\∃s3 s4 s5 s6,σ=[some (.ref A.a),some (.ref l),some (.ref d),s3,s4,s5,s6])
  ⟨ρ6,A6,xm.DE cd6 hd6 rfl rfl,e6,ai,cd6,F6.new hdn,agJ,_,_,_,_,Z⟩ (λi σ H' hi hp=>by obtain⟨_,_,_,_,e,_⟩:=hp;exact⟨e,hi⟩) (λσ H' hp=>by obtain⟨_,_,_,_,e,_⟩:=hp;exact⟨e,aO _⟩) ?_ ?_
 .rintro i x σ H7 H8 hi ⟨ρ7,A7,xo,e7,WJ,WK,F7,due,s3,s4,s5,s6,rfl⟩ ⟨pp,kv,hpp,hkv,rfl,rfl⟩;unfold iM at hkv;rw[cK]at hkv;obtain⟨r,er,rfl⟩:=nI.mp hkv;have hir:i<rs.length:=by rw[<-al];exact hi
  have edr:rs.drop i=r::rs.drop (i+1):=by rw[List.drop_eq_getElem_cons hir];rw[bK hir]at er;rw[fm er]
  rw[edr]at due;have g4:=aH hpp (.tup [.str r.1,.int r.2]);have vM:=xo.mono g4;have hd8:=g4 _ _ WJ;have F8:=F7.trans (Fr.of_same (ρ:=ρ7) g4);have Lw:upd H7 pp (.tup [.str r.1,.int r.2]) pp=some (.tup [.str r.1,.int r.2]):=ai;show zV K 2 _ _ _ (upd H7 pp (.tup [.str r.1,.int r.2])) _;generalize upd H7 pp (.tup [.str r.1,.int r.2])=H8 at *;refine⟨pp,_,Z,dz.of Lw,Z,_,_,Z,_,_,Z,Z,?_⟩;have eN:(rs.take (i+1)).foldl cS Pc=cS ((rs.take i).foldl cS Pc) r:=by rw[take_snoc er,BR];rfl
  have WL:((r::rs.drop (i+1)).map (λr:Row=>r.1)).Nodup:=by rw[<-edr,List.map_drop];exact nd.sublist (List.drop_sublist _ _)
  refine⟨_,Z,A.a,A7.dx,_,Z,by rw[<-e7];exact vM.h.oa,Z,_,Z,_,Z,⟨⟨n,ρ7,A7,_,r,by rw[e7];rfl,vM,due r cN,KA xo.wf due,λρ9 A9 H9 Tp e9 f9=>?_⟩⟩⟩;obtain⟨hd9,cd9⟩:=f9 d _ hd8 (λt x=>by rw[WK];intro z;cases z);rw[WK]at cd9;rw[<-eN]at Tp;exact⟨ρ9,A9,Tp,e9.trans e7,hd9,cd9,F8.trans f9,by rw[eN];exact Ce xo.wf due WL,_,_,_,_,Z⟩
 rintro σ H7 ⟨ρ7,A7,xo,e7,WJ,WK,F7,due,s3,s4,s5,s6,rfl⟩;rw[al,cM,<-adq]at xo;exact⟨WJ,q ρ7 A7 _ (xo.DE WK WJ rfl rfl) e7 (F7.new hdn)⟩
abbrev rJ:Stmt:=inClass (top 4) 2
abbrev lD:List Str:=["self","top"]
abbrev HV:List Str:=lD.append ["rest","step","shared"]
theorem jg:aS HV lD (aF rJ):=dX
theorem Fj{T:TC}(F:iK K T.bot "over" "Bottom.over" rJ f fd)(X:Txt K T)(iS:Dn P w K mg base 1 "common_factor" jV UL):Mn P w K mg base 2 T.bot "over" lD (ET T):=by
 refine F.oA jg λcdv A outer s H vs Q E hr h=>?_;obtain⟨⟨bt,db,sp,kn,stp,prod,top,rfl,hb,hs,ep,h2,hz,q⟩⟩:=h;refine⟨_,(@c9.h _ _ _ (ak (a_ (i:=2) jg.nd (aJ K (qv 0)))
  (ak (fB fV rfl (dZ K (aJ K (qv 0))) (aW (i:=3) jg.nd) (ak (a_ (i:=4) jg.nd (bL iS hr (ah (qv 3) (ah (aP k_ (qv 1) (qv 3)) au))))
  (az (jT (aX jJ (qv 4) aq (bu _)) (ak (a_ (i:=1) jg.nd (aP jl (qv 1) (qv 4)))
  (az (a_ (i:=2) jg.nd (aP jl (qv 2) (qv 4))))) bP))))
  (az (bF (h_ (ah (qv 1) (ah (qv 2) au)))))))),?_⟩
 have p1:1<=prod:=by rw[ep];exact Kr h2
 refine⟨_,Z,bt,T.bot,db,_,_,Z,hb,X.cB,X.GH,Z,?_⟩;refine⟨_,Z,bt,T.bot,db,_,_,Z,hb,X.cB,X.Sl,Z,sp,Z,⟨_,aI.of hs⟩,?_⟩;refine jj (K:=K) (xs:=stp.map V.int) (λi σ H'=>H'=H/\∃(t r d:Int)(s3 s4:Option V),σ=[some (.ref bt),some (.int t),some (.int r),s3,s4]/\t*prod=top*r/\r=d*(stp.drop i).foldl (·*·) 1/\0<d/\Jm.cf t d=1)
  ⟨Z,top,prod,1,none,none,Z,Z,by rw[List.drop_zero,Int.one_mul];exact ep,by decide,by unfold Jm.cf;rw[Int.gcd_one];rfl⟩ (λi σ H' _ hp=>by rw[hp.1];exact aI.of hs) ?_ ?_
 .rintro i x σ H' hx ⟨rfl,t,r,d,s3,s4,rfl,e1,e2,d0,c⟩;obtain⟨st,rfl,es⟩:=gq hx;have hm:=cC es;have s2:=h2 st hm;have hi:=(ee.mp es).1;have hdr:stp.drop i=st::stp.drop (i+1):=by rw[List.drop_eq_getElem_cons hi];congr 1;rw[bK hi]at es;exact fm es
  rw[hdr,EV]at e2;have r0:0<=t % st:=pM _ (by omega);refine⟨_,Z,_,Z,_,Z,_,_,Z,Z,(by show 0<st;omega),st,t % st,Z,by omega,r0,?_⟩;rw[Jm.Oq t st (by omega)];obtain⟨o1,o2⟩:=Ss d0 (by omega:0<st) c;have gp:0<Jm.cf t st:=Jm.JV t st (.inr (by omega));have gz:Jm.Sz 9000 (Jm.cf t st):=((hz.of_le (by have:=Wl h2 hm;rw[<-ep]at this;omega)).dvd (by omega:0<st) (by omega) (Jm.pR t st)).mono (by decide);obtain⟨u,hu⟩:=Jm.xF t st;obtain⟨v,hv⟩:=Jm.pR t st;have e3:t / Jm.cf t st*prod=top*(r / Jm.cf t st):=by
   have a1:t / Jm.cf t st=u:=by rw[VW (by omega) hu]
   have a2:r=Jm.cf t st*(d*v*(stp.drop (i+1)).foldl (·*·) 1):=by
    rw[e2]
    conv=>lhs;rw[hv]
    rw[iB (Jm.cf t st),Int.mul_left_comm,iB d]
   have a3:r / Jm.cf t st=d*v*(stp.drop (i+1)).foldl (·*·) 1:=by rw[VW (by omega) a2]
   rw[a1,a3];have e1':Jm.cf t st*(u*prod)=Jm.cf t st*(top*(d*v*(stp.drop (i+1)).foldl (·*·) 1)):=by
    rw[<-iB,<-hu,e1]
    conv=>lhs;rw[a2]
    rw[Int.mul_left_comm]
   exact BL (by omega) e1'
  have e4:r / Jm.cf t st=d*(st / Jm.cf t st)*(stp.drop (i+1)).foldl (·*·) 1:=by
   have a4:st / Jm.cf t st=v:=by rw[VW (by omega) hv]
   have a2:r=Jm.cf t st*(d*v*(stp.drop (i+1)).foldl (·*·) 1):=by
    rw[e2]
    conv=>lhs;rw[hv]
    rw[iB (Jm.cf t st),Int.mul_left_comm,iB d]
   rw[a4,VW (by omega) a2]
  refine⟨λσ' H2=>H2=H'/\σ'=[some (.ref bt),some (.int (t / Jm.cf t st)),some (.int (r / Jm.cf t st)),some (.int st),some (.int (Jm.cf t st))],?_,?_⟩
  .refine ⟨_,Z,_,_,Z,Z,_,Z,cI (λc=>?_) (λc=>?_)⟩
   .exact ⟨_,Z,_,Z,_,_,Z,Z,yE gp gz,_,Z,_,Z,_,_,Z,Z,yE gp gz,Z,Z⟩
   .have c':¬ 1<Jm.cf t st:=uT (qP.mpr c);have g1:Jm.cf t st=1:=by omega
    refine⟨Z,?_⟩;rw[g1,CW,CW];rfl
  rintro σ' H2 ⟨rfl,rfl⟩;exact⟨Z,_,_,_,_,_,Z,e3,e4,o2,o1⟩
 rintro σ H' ⟨rfl,t,r,d,s3,s4,rfl,e1,e2,d0,c⟩;rw[List.drop_of_length_le (by rw[aG];exact aO _),List.foldl_nil,uE]at e2;subst e2;refine⟨_,Z,_,Z,(gZ 2),λp hp=>?_⟩;refine q p _ (aH hp _) ?_;rw[ai];obtain⟨a1,a2⟩:=Jm.RQ d0 c;have:Jm.fr top prod=Jm.fr t r:=Jm.Qx (by omega) d0 e1.symm;unfold tO;rw[this,a1,a2]
abbrev qu:Stmt:=inClass (top 4) 3
abbrev nj:List Str:=["self","top"]
abbrev Fl:List Str:=nj
theorem D_:aS Fl nj (aF qu):=dX
theorem Ea{T:TC}(F:iK K T.bot "share" "Bottom.share" qu f fd)(X:Txt K T)(jH:Mn P w K mg base 2 T.bot "over" lD (ET T)):Mn P w K mg base 3 T.bot "share" nj (Kg T):=by
 refine F.oA D_ λcdv A outer s H vs Q E hr h=>?_;obtain⟨⟨bt,db,sp,kn,stp,prod,top,kvs,rfl,hb,hs,ep,h2,hz,hk,kat,kl,knd,q⟩⟩:=h;refine⟨_,(@c9.h _ _ _ (ak (jT (ye (AA (d8 hr) (qv 1) (aJ K (qv 0)))) (az (uQ (d8 hr) (aJ K (qv 0)) (qv 1) (bZ jH hr (qv 0) (ah (qv 1) au)) rfl)) bP)
  (az (bF (eT (d8 hr) (aJ K (qv 0)) (qv 1)))))),?_⟩
 refine⟨λσ' H'=>σ'=[some (.ref bt),some (.int top)]/\(∀b o,H b=some o->b≠kn->H' b=some o)/\∃kvs' r,H' kn=some (.dK kvs')/\J6 H' kvs' prod/\kvs'.length<=kvs.length+1/\(kvs'.map (·.1)).Nodup/\dY kvs' (Sum.inl top)=some (.ref r)/\H' r=some (tO (Jm.fr top prod)),?_,?_⟩
 .refine ⟨_,Z,_,Z,bt,T.bot,db,_,_,Z,hb,X.cB,X.Sm,Z,kn,_,Z,eW.k (k:=Sum.inl top) hk,_,Z,?_⟩;cases e:dY kvs (Sum.inl top)with
  | some v=>refine bM ⟨Z,λb o e _=>e,kvs,?_⟩;obtain⟨t,r,e2,hr2⟩:=kat _ (U1 e);cases e2;exact⟨r,hk,kat,A0 _,knd,e,hr2⟩
  | none=>
   refine nM ?_;refine⟨_,Z,bt,db,_,Z,hb,Z,_,Z,⟨⟨bt,db,sp,kn,stp,prod,top,Z,hb,hs,ep,h2,hz,λr H1 g1 hr1=>?_⟩⟩⟩;have sl:kvs.length<sizeLine:=by rw[j8];omega
   refine⟨_,Z,bt,T.bot,db,_,_,Z,g1 _ _ hb,X.cB,X.Sm,Z,_,Z,kn,_,Z,xE.k (k:=Sum.inl top) (g1 _ _ hk) sl,Z,λb o e hb=>by rw[ay hb];exact g1 _ _ e,_,r,ai,?_,?_,Xy _ knd e,by rw[Uy,aC rfl],by rw[ay (i8 hr1 (g1 _ _ hk) (by intro z;cases z))];exact hr1⟩
   .rw [mF _ e];intro p hp;rcases fq.mp hp with z|z
    .obtain ⟨t,r',e2,hr2⟩:=kat p z;exact⟨t,r',e2,by rw[ay (i8 (g1 _ _ hr2) (g1 _ _ hk) (by intro z;cases z))];exact g1 _ _ hr2⟩
    .rw [eO.mp z];exact⟨top,r,Z,by rw[ay (i8 hr1 (g1 _ _ hk) (by intro z;cases z))];exact hr1⟩
   .rw [mF _ e,c7];exact aO _
 rintro σ' H' ⟨rfl,k1,kvs',r,e1,e2,e3,e4,e5,e6⟩;exact⟨_,Z,bt,T.bot,db,_,_,Z,k1 _ _ hb (i8 hb hk (by intro z;cases z)),X.cB,X.Sm,Z,_,Z,kn,_,Z,e5▸eW.k (k:=Sum.inl top) e1,q r H' kvs' k1 e1 e2 e3 e4 e6⟩
abbrev rK:Stmt:=inClass (top 21) 12
abbrev lE:List Str:=["self","part"]
abbrev HW:List Str:=lE.append ["tops"]
theorem ym:aS HW lE (aF rK):=dX
theorem Fo{T:TC}(F:iK K T.hold "shares" "Hold.shares" rK f fd)(X:Txt K T)(cR:Mn P w K mg base 1 T.hold "part_of" fh (Ca T))(fM:Mn P w K mg base 1 T.hold "tops_of" jf (Bh T))(rL:Mn P w K mg base 3 T.bot "share" nj (Kg T))(ja:mg "zip"=none):Mn P w K mg base 4 T.hold "shares" lE (yV T):=by
 refine F.oA ym λcdv A outer s H vs Q E hr h=>?_;obtain⟨⟨n,ρ,A,st,ip,pt,rfl,hh,ep,hkn,q⟩⟩:=h;obtain⟨qq,eq,k1,k2,k3,k4⟩:=hh.h.find ep;have gf:=cC ep;refine⟨_,(@c9.h _ _ _ (ak (a_ (i:=2) ym.nd (bZ fM hr (qv 0) (ah (bZ cR hr (qv 0) (ah (qv 1) au)) au)))
  (az (bF (DJ (KL ["owner","top","self"] [none,none,some 0] rfl (rj K (by rfl) ja (ah (aJ K (qv 0)) (ah (qv 2) au))) (λ_ _ _ _=>(iu K (n:=2) rfl (cD (aW (i:=0) (show List.Nodup (["owner","top","self"] :List Str)from by decide +kernel)) (cD (aW (i:=1) (show List.Nodup (["owner","top","self"] :List Str)from by decide +kernel)) ir)))) (λ_ _ _ _=>(h_ (ah (qv 0) (ah (bZ rL hr (aJ K (qv 2)) (ah (qv 1) au)) au)))) (λ_ _ _ _=>(aX jJ (qv 1) aq (bu _))) rfl (by rfl))))))),?_⟩
 refine⟨_,Z,A.a,A.dx,_,Z,hh.h.oa,Z,_,Z,A.a,A.dx,_,Z,hh.h.oa,Z,_,Z,⟨⟨n,ρ,A,st,ip,pt,qq,Z,hh.h,hh.wf.dM,ep,eq,?_⟩⟩⟩;refine⟨⟨n,ρ,A,st,ip,pt,qq,Z,hh.h,hh.wf,ep,eq,λl H1 g1 hl hl1=>?_⟩⟩;have iz:=hh.mono g1;have cl:ρ l=none:=hh.g.none hl;have tl:(aK st pt).length=st.own.length:=by unfold aK;rw[lR,hh.wf.rows pt gf,hh.wf.gD,yx]
 have gc:=hh.wf.ki;refine⟨A.pl,_,iz.h.gY,λob=>?_⟩;have hl2:upd H1 A.pl (.fu ob (.dK (fP 0 st.own))) l=some (.lst ((aK st pt).map V.int)):=eX iz.h.gY hl1 (λk z=>by cases z);refine⟨_,Z,A.a,T.hold,A.dx,_,_,Z,eX iz.h.gY iz.h.oa (λk z=>by cases z),X.cH,X.hpl,Z,_,Z,_,_,_,_,_,_,Z,.keys ai,.lst (aI.of hl2),λacc hacc=>?_⟩;have xq:H1 acc=none:=jq iz.h.gY hacc;have ca:ρ acc=none:=iz.g.none xq;have Pe:acc≠A.pl:=λe=>by rw[e,ai]at hacc;cases hacc
 have nal:acc≠l:=λe=>by rw[e,hl1]at xq;cases xq
 refine XW (K:=K) (n:=st.own.length) [0,1] (λi out Hc=>∃H5,Hc=upd H5 A.pl (.fu ob (.dK (fP 0 st.own)))/\Gh ρ H5/\Fr n ρ H ρ H5/\aL T n ρ A H5 { st with kn:=st.kn+i }/\H5 l=some (.lst ((aK st pt).map V.int))/\jm H5 out (((List.zip st.own (aK st pt)).take i).filterMap λx=>if 0<x.2 then some (x.1,Jm.fr x.2 st.prod) else none))
  (by decide) (by omega) ⟨upd H1 acc (.lst []),iW (bY Pe),iz.g.alloc xq,(Fr.of_same (ρ:=ρ) g1).trans (Fr.of_same (aH xq _)),iz.h.mono (aH xq _),by rw[ay (bY nal)];exact hl1,.nil⟩ ?_ ?_ ?_ ?_
 .rintro i out Hc hi ha ⟨H5,rfl,G5,F5,h5,l5,S5⟩;exact⟨ai,aI.of (eX h5.gY l5 (λk z=>by cases z)),by rw[aG,pZ];exact hi,by rw[aG,tl];exact hi⟩
 .rintro out Hc ha ⟨H5,rfl,G5,F5,h5,l5,S5⟩;exact⟨ai,aI.of (eX h5.gY l5 (λk z=>by cases z)),.inr (by rw[aG,tl];exact aO _)⟩
 .rintro i x out Hc H2 hi Ff ha ⟨H5,rfl,G5,F5,h5,l5,S5⟩ ⟨pp,x1,y1,hpp,rfl,rfl,e1,e2⟩;obtain⟨t,rfl,et⟩:=gq e2;rw[B_,cK]at e1;obtain⟨o,eo,rfl⟩:=nI.mp e1;have npl:pp≠A.pl:=λe=>by rw[e,ai]at hpp;cases hpp
  have Fp:H5 pp=none:=jq h5.gY hpp;have ez:(List.zip st.own (aK st pt))[i]?=some (o,t):=by rw[List.getElem?_zip_eq_some];exact⟨eo,et⟩
  have g6:=aH Fp (.tup [.str o,.int t]);have e6:upd (upd H5 A.pl (.fu ob (.dK (fP 0 st.own)))) pp (.tup [.str o,.int t])=upd (upd H5 pp (.tup [.str o,.int t])) A.pl (.fu ob (.dK (fP 0 st.own))):=iW (bY npl);rw[e6];have G6:=G5.same g6;have F6:=F5.trans (Fr.of_same (ρ:=ρ) g6);have h6:=h5.mono g6;have l6:=g6 _ _ l5;have S6:=S5.mono g6.tups;have t6:upd H5 pp (.tup [.str o,.int t]) pp=some (.tup [.str o,.int t]):=ai;have LC:upd H5 pp (.tup [.str o,.int t]) acc=some (.lst out):=by rw[ay Pe]at ha;exact g6 _ _ ha
  generalize upd H5 pp (.tup [.str o,.int t])=H6 at *;have fz:∀{b:Addr}{u:HO},H6 b=some u->(∀k,u ≠ .dK k)->upd H6 A.pl (.fu ob (.dK (fP 0 st.own))) b=some u:=λe k=>eX h6.gY e k;refine⟨pp,_,Z,dz.of (fz t6 (λk z=>by cases z)),Z,_,Z,_,_,Z,Z,_,Z,?_⟩;refine cI (λc=>?_) (λc=>?_)
  .have c':0<t:=eF c;obtain⟨kvs,j1,j2,j3,j4⟩:=h6.okn;have WM:A.kn≠A.pl:=Dy h6.gP h6.gE (by intro z;cases z);refine⟨_,Z,_,Z,A.a,T.hold,A.dx,_,_,Z,fz h6.oa (λk z=>by cases z),X.cH,X.wO,Z,A.bt,A.db,_,Z,fz h6.jb (λk z=>by cases z),Z,_,Z,
    ⟨⟨A.bt,A.db,A.sp,A.kn,st.stp,st.prod,t,kvs,Z,fz h6.jb (λk z=>by cases z),fz h6.lZ (λk z=>by cases z),hh.wf.pW,hh.wf.vd,hh.wf.big,by rw[ay WM];exact j1,(λp hp=>let⟨t,r,e,w⟩:=j2 p hp;⟨t,r,e,fz w (λk z=>by cases z)⟩),Jv j3 (by show st.kn+i<_;omega),j4,λr H7 kvs' b1 b2 b3 b4 b5 b6=>?_⟩⟩⟩
   have Hx:H7 A.pl=some (.fu ob (.dK (fP 0 st.own))):=b1 _ _ ai (bY WM);refine⟨(gZ 2),λtt WN=>?_⟩;have ntp:tt≠A.pl:=λe=>by rw[e,Hx]at WN;cases WN
   have k8:∀b u,H6 b=some u->b≠A.kn->upd H7 A.pl (.dK (fP 0 st.own)) b=some u:=λb u e hb=>by
    by_cases z:b=A.pl
    .rw [z]at e ⊢;rw[show H6 A.pl=some (.dK (fP 0 st.own))from h6.gY]at e;cases e;exact ai
    .rw [ay z];exact b1 _ _ (by rw[ay z];exact e) hb
   have h8:=h6.U3 (m:=st.kn+i+1) k8 (by rw[ay WM];exact b2) (λp hp=>let⟨t,r,e,w⟩:=b3 p hp;⟨t,r,e,gj (.inr ⟨_,Hx,Z⟩) _ _ w⟩) (f_ b4 (Nat.succ_le_succ j3)) b5;have G8:Gh ρ (upd H7 A.pl (.dK (fP 0 st.own))):=λb cc e=>by
    by_cases z:b=A.pl
    .rw [z];exact⟨_,ai,Z⟩
    by_cases z2:b=A.kn
    .rw [z2,ay WM];exact⟨_,b2,Z⟩
    obtain⟨u,a1,a2⟩:=G6 b cc e;exact⟨u,k8 b u a1 z2,a2⟩
   have F8:Fr n ρ H6 ρ (upd H7 A.pl (.dK (fP 0 st.own))):=λb u e k=>⟨k8 b u e (λz=>k 9 ⟨#[]⟩ (by rw[z];exact h6.gP)),Z⟩
   have tp8:∀b xs,H6 b=some (.tup xs)->upd H7 A.pl (.dK (fP 0 st.own)) b=some (.tup xs):=λb xs e=>k8 b _ e (i8 e j1 (by intro z;cases z));have agK:upd H7 A.pl (.dK (fP 0 st.own)) tt=none:=by rw[ay ntp];exact WN
   have back:H7=upd (upd H7 A.pl (.dK (fP 0 st.own))) A.pl (.fu ob (.dK (fP 0 st.own))):=by rw[lG,qU Hx]
   have hr8:upd H7 A.pl (.dK (fP 0 st.own)) r=some (tO (Jm.fr t st.prod)):=gj (.inr ⟨_,Hx,Z⟩) _ _ b6;have l8:=k8 _ _ l6 (λz=>by rw[z,j1]at l6;cases l6);have Lz:=k8 _ _ LC (λz=>by rw[z,j1]at LC;cases LC);have S8:=S6.mono tp8;have F08:=F6.trans F8;rw[back]at WN ⊢;generalize upd H7 A.pl (.dK (fP 0 st.own))=H8 at *;have g9:=aH agK (.tup [.str o,.ref r]);rw[iW (bY ntp)];refine⟨by rw[ay Pe];exact g9 _ _ Lz,_,iW (bY Pe),(G8.same g9).wr rfl,(F08.trans (Fr.of_same (ρ:=ρ) g9)).new (g1.free xq),?_,?_,?_⟩
   .exact (h8.mono g9).same (sV ca (g9 _ _ Lz) rfl)
   .rw [ay (bY nal)];exact g9 _ _ l8
   .rw [take_snoc ez,List.filterMap_append,BP];simp only[c',if_true,List.filterMap_nil];exact((S8.mono g9.tups).snoc ai (g9 _ _ hr8)).mono (gj (.inr ⟨_,g9 _ _ Lz,Z⟩))
  .have c':¬ 0<t:=uT (qP.mpr c);refine⟨by rw[ay Pe];exact LC,H6,Z,G6,F6,?_,l6,?_⟩
   .obtain ⟨kvs,j1,j2,j3,j4⟩:=h6.okn;exact h6.U3 (m:=st.kn+i+1) (λb u e _=>e) j1 j2 (Nat.le_succ_of_le j3) j4
   .rw [take_snoc ez,List.filterMap_append,BP];simp only[c',pP,List.filterMap_nil,AW];exact S6
 .rintro out Hc Ff ha ⟨H5,rfl,G5,F5,h5,l5,S5⟩;rw[List.take_of_length_le (by rw[List.length_zip,tl];omega)]at S5;refine⟨ai,?_⟩;rw[lG,qU (show H5 A.pl=some (.dK (fP 0 st.own))from h5.gY)];rw[ay Pe]at ha;obtain⟨kvs,j1,j2,j3,j4⟩:=h5.okn;have h9:=h5.U3 (m:=st.kn+100) (λb u e _=>e) j1 j2 (f_ j3 (by show st.kn+st.own.length<=st.kn+100;omega)) j4;exact q acc out H5 ⟨G5,h9,QJ hh.wf hkn⟩ F5 (g1.free xq) ha ca S5
abbrev ua:Stmt:=inClass (top 21) 4
abbrev qw:List Str:=["self","owner","amount"]
abbrev LD:List Str:=qw.append ["place","whole","added"]
theorem ou:aS LD qw (aF ua):=dX
theorem Fq{T:TC}{e:Ec}(F:iK K T.hold "award" "Hold.award" ua f fd)(X:Txt K T)(cX:Mn P w K mg base 1 T.hold "place_of" fX (sN (yR T e)))(je:Dn P w K mg base 1 "check_amount" jd (sN (AB e)))(gX:Mn P w K mg base 1 T.hold "whole" kF (Bj T))(kH:Mn P w K mg base 3 T.hold "blend" mW (EW T K))(cg:mg "len"=none):Mn P w K mg base 4 T.hold "award" qw (sN (KQ T e)):=by
 refine F.oA ou λcdv A outer s H vs Q E hr h=>?_;obtain⟨⟨n,ρ,A,st,o,a,rfl,hh,aw,dq⟩⟩:=h;refine⟨_,(@c9.h _ _ _ (ak (a_ (i:=3) ou.nd (bZ cX hr (qv 0) (ah (qv 1) au)))
  (ak (b9 (bL je hr (ah (qv 2) au)))
  (ak (a_ (i:=4) ou.nd (kr gX hr (qv 0)))
  (ak (cW (aX Jg (qv 2) (qv 4) (bu _)) (az gh) bP)
  (ak (a_ (i:=5) ou.nd (aP RK (ia (ah aq au)) (bU wL (by rfl) cg fW (ah (aJ K (qv 0)) au))))
  (ak (mO (aP iJ (qv 2) (aJ K (aJ K (qv 0)))) (mP (qv 5) (qv 3) set_list))
  (az (b9 (bZ kH hr (qv 0) (ah (aP mE (qv 4) (qv 2)) (ah (qv 4) (ah (qv 5) au))))))))))))),?_⟩
 have wf:=hh.wf;refine⟨_,Z,A.a,A.dx,_,Z,hh.h.oa,Z,_,Z,⟨⟨n,ρ,A,st,o,Z,hh.h,λho=>dq.no 2 (by unfold jS;exact aB ho),λho=>?_⟩⟩⟩;refine⟨_,Z,⟨⟨a,Z,λh5=>dq.no 5 (by unfold jS;rw[aC ho,aC h5]),λh1=>?_⟩⟩⟩;refine⟨_,Z,A.a,A.dx,_,Z,hh.h.oa,Z,⟨⟨n,ρ,A,st,Z,hh.h,wf.mH,λH1 g1=>?_⟩⟩⟩;refine⟨_,Z,_,Z,_,_,Z,Z,_,Z,cI (λc=>?_) (λc=>?_)⟩
 .have c':aE st<=a:=eF c;exact dq.no 6 (by unfold jS;rw[aC ho,aB (show ¬ a<1 by omega),aC c']) 0 H1 g1
 have c':¬ aE st<=a:=uT (qP.mpr c);have q:=dq.ok (by unfold jS;rw[aC ho,aB (show ¬ a<1 by omega),aB c']);have iz:=hh.mono g1;have F1:Fr n ρ H ρ H1:=Fr.of_same g1;clear hh;refine⟨(gZ 1),λp0 hp0=>?_⟩;have g2:=aH hp0 (.lst [.int 0]);have nD:=iz.mono g2;have F2:=F1.trans (Fr.of_same (ρ:=ρ) g2);have Vy:upd H1 p0 (.lst [.int 0]) p0=some (.lst [.int 0]):=ai;generalize upd H1 p0 (.lst [.int 0])=H2 at *;clear iz F1;have BH:=pZ st.own 0;have gc:=nD.wf.ki;refine⟨_,Z,A.a,T.hold,A.dx,_,_,Z,nD.h.oa,X.cH,X.hpl,Z,A.pl,_,Z,nD.h.gY,p0,_,_,Z,Z,Vy,by omega,by rw[BH];omega,by rw[BH];show 1*_<=_;rw[uU,Nat.one_mul];exact small (by omega),λp1 hp1=>?_⟩;rw[BH,uU,show(List.replicate st.own.length [V.int 0]).flatten=(List.replicate st.own.length (0:Int)).map V.int from by rw[List.map_replicate,List.flatten_replicate_singleton]];have g3:=aH hp1 (.lst ((List.replicate st.own.length (0:Int)).map V.int));have l9:=nD.mono g3;have F3:=F2.trans (Fr.of_same (ρ:=ρ) g3);have n1:H p1=none:=(g1.trans g2).free hp1;have c1:ρ p1=none:=nD.g.none hp1;have AN:upd H2 p1 (.lst ((List.replicate st.own.length (0:Int)).map V.int)) p1=_:=ai;generalize upd H2 p1 (.lst ((List.replicate st.own.length (0:Int)).map V.int))=H3 at *;have hi:=List.idxOf_lt_length_iff.mpr ho;have bo:=aw.blend (o:=o) wf h1 (by omega);have za:Qj a st.prod:=.inl (by have:(aE st).natAbs<2 ^ 60:=aw.big;omega);refine⟨_,Z,_,Z,A.a,T.hold,A.dx,_,_,Z,l9.h.oa,X.cH,X.wO,Z,A.bt,T.bot,A.db,_,_,Z,l9.h.jb,X.cB,X.GH,Z,_,_,Z,Z,za,_,Z,_,Z,p1,_,_,st.own.idxOf o,Z,Z,AN,by rw[aG,jW];exact uK hi,?_⟩;rw[show((List.replicate st.own.length (0:Int)).map V.int).set (st.own.idxOf o) (V.int (a*st.prod))=(jX st o a).map V.int from by unfold jX;rw[uD]];have nE:=l9.DE (o:=.lst ((jX st o a).map V.int)) c1 AN rfl rfl;have F4:=F3.new (o:=.lst ((jX st o a).map V.int)) n1;have Vz:upd H3 p1 (.lst ((jX st o a).map V.int)) p1=_:=ai;generalize upd H3 p1 (.lst ((jX st o a).map V.int))=H4 at *;have zk:Jm.Sz 60 (aE st-a):=bo.big.of_le (by omega);have zG:∀m∈jX st o a,0<=m/\Jm.Sz 8900 m:=λm hm=>by have DA:=bo.add m hm;have h2:=wf.eE;have zl:Jm.Sz 60 a:=bo.big.of_le (by omega);exact⟨DA.1,Jm.Sz.pS (by have:=rR bo.l (show 0<=st.prod by omega);omega) DA.2 ((zl.mul bo.prod).mono (by decide))⟩
 exact⟨_,Z,A.a,A.dx,_,Z,nE.h.oa,Z,_,Z,_,Z,_,_,Z,Z,_,Z,_,Z,⟨⟨n,ρ,A,st,aE st-a,aE st,p1,jX st o a,Z,nE,aI.of Vz,bo.len,bo.k,by omega,zk,bo.big,zG,aw.bH,aw.stp,vj wf bo,λρ6 A6 H6 xm e6 f6=>q ρ6 A6 H6 xm e6 (F4.trans f6)⟩⟩⟩
abbrev rM:Stmt:=inClass (top 21) 5
abbrev oz:List Str:=["self","part","amount"]
abbrev HX:List Str:=oz
theorem Ft:aS HX oz (aF rM):=dX
theorem Eb{T:TC}{e:Ec}(F:iK K T.hold "mishap" "Hold.mishap" rM f fd)(X:Txt K T)(cR:Mn P w K mg base 1 T.hold "part_of" fh (sN (mK T e)))(mX:Dn P w K mg base 2 "check_loss" mV (sN (KP e)))(jG:Mn P w K mg base 1 T.hold "lessen" lC (Kv T)):Mn P w K mg base 3 T.hold "mishap" oz (sN (GX T e)):=by
 refine F.oA Ft λcdv A outer s H vs Q E hr h=>?_;obtain⟨⟨n,ρ,A,st,x,a,rfl,hh,dq⟩⟩:=h;refine⟨_,(@c9.h _ _ _ (ak (b9 (bL mX hr (ah (aJ K (bZ cR hr (qv 0) (ah (qv 1) au))) (ah (qv 2) au))))
  (az (b9 (bZ jG hr (qv 0) (ah (qv 1) (ah (qv 2) au))))))),?_⟩
 refine⟨_,Z,A.a,A.dx,_,Z,hh.h.oa,Z,_,Z,⟨⟨n,ρ,A,st,x,Z,hh.h,hh.wf.dM,λhn=>dq.no 3 ?_,λi p qq e1 e2 e3=>?_⟩⟩⟩
 .unfold iX;rw[aB (λz=>?_)];obtain⟨j,p,h1,h2⟩:=jz z;exact hn p (cC h1) h2
 obtain⟨k1,_⟩:=hh.h.opt i p qq e2 e3;have hm:x∈d9 st:=by rw[<-e1];exact Bm e2
 have gf:=cC e2;have ew:(bJ st x).wo=p.wo:=by rw[bN hh.wf gf e1]
 refine⟨qq.1,T.part,qq.2.1,_,_,Z,k1,X.cP,X.vc,Z,_,Z,⟨⟨p.wo,a,Z,λh5=>dq.no 5 ?_,λh1 h6=>dq.no 6 ?_,λh1 h2=>?_⟩⟩⟩
 .unfold iX;rw[aC hm,aC h5]
 .unfold iX;rw[aC hm,aB (show ¬ a<1 by omega)];show(if(bJ st x).wo<a then _ else _)=_;rw[ew,aC h6]
 have ho:=dq.ok (by unfold iX;rw[aC hm,aB (show ¬ a<1 by omega)];show(if(bJ st x).wo<a then _ else _)=_;rw[ew,aB (by omega)]);exact⟨_,Z,A.a,A.dx,_,Z,hh.h.oa,Z,_,Z,_,Z,⟨⟨n,ρ,A,st,(x,a),Z,hh,⟨p,gf,e1,h2⟩,EX hh.wf (λp' dN e'=>by rw[uO hh.wf dN gf (e'.trans e1.symm)];exact h2),ho⟩⟩⟩
abbrev vN:Stmt:=inClass (top 21) 6
abbrev sf:List Str:=["self","part","amount"]
abbrev Nf:List Str:=sf.append ["risen"]
theorem AR:aS Nf sf (aF vN):=dX
theorem HY{T:TC}{e:Ec}(F:iK K T.hold "rise" "Hold.rise" vN f fd)(X:Txt K T)(cR:Mn P w K mg base 1 T.hold "part_of" fh (sN (mK T e)))(je:Dn P w K mg base 1 "check_amount" jd (sN (AB e))):Mn P w K mg base 2 T.hold "rise" sf (sN (OM T e)):=by
 refine F.oA AR λcdv A outer s H vs Q E hr h=>?_;obtain⟨⟨n,ρ,A,st,x,a,rfl,hh,dq⟩⟩:=h;refine⟨_,(@c9.h _ _ _ (ak (a_ (i:=3) AR.nd (bZ cR hr (qv 0) (ah (qv 1) au)))
  (ak (b9 (bL je hr (ah (qv 2) au)))
  (az (qc K (qv 3) (qv 2) Zl))))),?_⟩
 refine⟨_,Z,A.a,A.dx,_,Z,hh.h.oa,Z,_,Z,⟨⟨n,ρ,A,st,x,Z,hh.h,hh.wf.dM,λhn=>dq.no 3 ?_,λi p qq e1 e2 e3=>?_⟩⟩⟩
 .unfold kW;rw[aB (λz=>?_)];obtain⟨j,p,h1,h2⟩:=jz z;exact hn p (cC h1) h2
 subst e1;obtain⟨k1,k2,k3,k4⟩:=hh.h.opt i p qq e2 e3;have hm:=Bm e2;refine⟨_,Z,⟨⟨a,Z,λh5=>dq.no 5 ?_,λh1=>?_⟩⟩⟩
 .unfold kW;rw[aC hm,aC h5]
 have ho:=dq.ok (by unfold kW;rw[aC hm,aB (show ¬ a<1 by omega)]);refine⟨_,Z,qq.1,T.part,qq.2.1,_,_,Z,k1,X.cP,X.vc,Z,_,Z,_,_,Z,Z,qq.2.1,_,k1,by show 6<1000;decide,?_⟩;have DA:=hh.h.jn (p1:={ p with wo:=p.wo+a }) hh.g e2 e3 rfl rfl hh.wf.dM;have hw:Wf (Jl st p.nm a):=AD hh.wf λq hq _=>⟨Z,Z,Z,Z,by have:=(hh.wf.jK q hq).1;show 1<=q.wo+a;omega,(hh.wf.jK q hq).2⟩
 have es:Jl st p.nm a={ st with aj:=st.aj.set i { p with wo:=p.wo+a } }:=rA hh.wf.dM e2 _;rw[es]at ho hw;exact ho ρ A _ ⟨hh.g.wr rfl,DA,hw⟩ rfl (Fr.write k3)
abbrev vO:Stmt:=inClass (top 21) 7
abbrev sj:List Str:=["self","part","taker"]
abbrev Ng:List Str:=sj.append ["handed","to","at","tops"]
theorem mY:aS Ng sj (aF vO):=dX
theorem HZ{T:TC}{e:Ec}(F:iK K T.hold "hand" "Hold.hand" vO f fd)(X:Txt K T)(cR:Mn P w K mg base 1 T.hold "part_of" fh (sN (mK T e)))(cX:Mn P w K mg base 1 T.hold "place_of" fX (sN (yR T e)))(fM:Mn P w K mg base 1 T.hold "tops_of" jf (Bh T))(fK:Mn P w K mg base 1 T.hold "beyond_common" gW (QI T K)):Mn P w K mg base 2 T.hold "hand" sj (sN (ON T e)):=by
 refine F.oA mY λcdv A outer s H vs Q E hr h=>?_;obtain⟨⟨n,ρ,A,st,x,o,rfl,hh,hs,dq⟩⟩:=h;refine⟨_,(@c9.h _ _ _ (ak (a_ (i:=3) mY.nd (bZ cR hr (qv 0) (ah (qv 1) au)))
  (ak (a_ (i:=4) mY.nd (bZ cX hr (qv 0) (ah (qv 2) au)))
  (ak (a_ (i:=5) mY.nd (bZ cX hr (qv 0) (ah (aJ K (qv 3)) au)))
  (ak (cW (aX eY (qv 4) (qv 5) (bu _)) (az Yi) bP)
  (ak (a_ (i:=6) mY.nd (bZ fM hr (qv 0) (ah (qv 3) au)))
  (ak (OJ (qv 6) (qv 4) KZ (aT (dO K) (qv 6) (qv 5)) Y8 set_list)
  (ak (mO aq (mP (qv 6) (qv 5) set_list))
  (ak (cQ K (qv 3) (qv 2))
  (ak (cQ K (qv 3) aq)
  (az (cQ K (qv 3) (bZ fK hr (qv 0) (ah (qv 6) au)))))))))))))),?_⟩
 have wf:=hh.wf;refine⟨_,Z,A.a,A.dx,_,Z,hh.h.oa,Z,_,Z,⟨⟨n,ρ,A,st,x,Z,hh.h,wf.dM,λhn=>dq.no 3 ?_,λi p qq e1 e2 e3=>?_⟩⟩⟩
 .unfold jx;rw[aB (λz=>?_)];obtain⟨j,p,h1,h2⟩:=jz z;exact hn p (cC h1) h2
 have gf:=cC e2;have eg:bJ st x=p:=bN wf gf e1;subst e1;have hm:=Bm e2;refine⟨_,Z,A.a,A.dx,_,Z,hh.h.oa,Z,_,Z,⟨⟨n,ρ,A,st,o,Z,hh.h,λho=>dq.no 2 (by unfold jx;rw[aC hm,aB ho]),λho=>?_⟩⟩⟩;have eR:jx st p.nm o=none:=by unfold jx;rw[aC hm,aC ho]
 have q:=dq.ok eR;have wS:=OO wf eR hs;obtain⟨k1,k2,k3,k4⟩:=hh.h.opt i p qq e2 e3;have WO:=wf.ow p gf;refine⟨_,Z,A.a,A.dx,_,Z,hh.h.oa,Z,_,Z,qq.1,T.part,qq.2.1,_,_,Z,k1,X.cP,X.pow,Z,⟨⟨n,ρ,A,st,p.ow,Z,hh.h,λz=>absurd WO z,λ_=>?_⟩⟩⟩;refine⟨_,Z,_,Z,Z,_,Z,cI (λc=>?_) (λc=>?_)⟩
 .have c':st.own.idxOf o=st.own.idxOf p.ow:=by have:=V.int.inj (eF c);omega
  unfold ff at q;rw[eg,aC c']at q;exact q ρ A H hh rfl Fr.refl
 have ne:st.own.idxOf o≠st.own.idxOf p.ow:=λz=>c (bq (by rw[z]));have hl:=xg wf gf;have ha:st.own.idxOf p.ow<(aK st p).length:=by rw[hl];exact uu WO
 have hb:st.own.idxOf o<(aK st p).length:=by rw[hl];exact uu ho
 have at':∀{l:List Int}{j:Nat},j<l.length->sO (l.map V.int) (j:Int)=some (.int (l.getD j 0)):=λ{l j} h=>aM (by rw[cK,kK,bK h];rfl);unfold ff at q wS;rw[eg,aB ne,rA wf.dM e2]at q wS;generalize hTT:ng st p o=TT at *;rw[rB]at hTT;refine⟨_,Z,A.a,A.dx,_,Z,hh.h.oa,Z,_,Z,⟨⟨n,ρ,A,st,i,p,qq,Z,hh.h,wf,e2,e3,λl H1 g1 qm hl1=>?_⟩⟩⟩;have cl:ρ l=none:=hh.g.none qm;refine⟨_,Z,_,Z,l,_,_,_,Z,Z,aI.of hl1,at' hb,_,Z,_,Z,l,_,_,_,Z,Z,aI.of hl1,at' ha,_,_,Z,Z,l,_,_,st.own.idxOf o,Z,Z,hl1,by rw[aG];exact uK hb,?_⟩;have m1:(List.map V.int (aK st p)).set (st.own.idxOf o) (.int ((aK st p).getD (st.own.idxOf o) 0+(aK st p).getD (st.own.idxOf p.ow) 0))=((aK st p).set (st.own.idxOf o) ((aK st p).getD (st.own.idxOf o) 0+(aK st p).getD (st.own.idxOf p.ow) 0)).map V.int:=uD.symm;rw[m1];refine⟨_,Z,_,Z,l,_,_,st.own.idxOf p.ow,Z,Z,ai,by rw[aG,iA];exact uK ha,?_⟩;have m2:(((aK st p).set (st.own.idxOf o) ((aK st p).getD (st.own.idxOf o) 0+(aK st p).getD (st.own.idxOf p.ow) 0)).map V.int).set (st.own.idxOf p.ow) (.int 0)=TT.map V.int:=by rw[<-hTT];exact uD.symm
 rw[m2,lG];have g3:aR H (upd H1 l (.lst (TT.map V.int))):=g1.c8 qm _;have hl3:upd H1 l (.lst (TT.map V.int)) l=some (.lst (TT.map V.int)):=ai;generalize upd H1 l (.lst (TT.map V.int))=H3 at *;have l9:=hh.mono g3;have c3:=g3 _ _ k1;have hi:i<st.aj.length:=(ee.mp e2).1;have tl:TT.length=st.own.length:=by rw[<-hTT,E2,hl]
 clear hl1 g1 m1 m2;refine⟨_,Z,_,Z,qq.1,T.part,qq.2.1,_,Z,c3,X.cP,X.pow,by show 6<1000;decide,?_⟩;have hA:=l9.h.jn (p1:={ p with ow:=o }) l9.g e2 e3 rfl rfl wf.dM;have gA:Gh ρ (upd H3 qq.1 (.ins T.part qq.2.1 (cZ { p with ow:=o } qq.2.2))):=l9.g.wr rfl;have FA:Fr n ρ H ρ (upd H3 qq.1 (.ins T.part qq.2.1 (cZ { p with ow:=o } qq.2.2))):=(Fr.of_same g3).trans (Fr.write k3);have kA:upd H3 qq.1 (.ins T.part qq.2.1 (cZ { p with ow:=o } qq.2.2)) qq.1=some (.ins T.part qq.2.1 (cZ { p with ow:=o } qq.2.2)):=ai;have nA:∀b,upd H3 qq.1 (.ins T.part qq.2.1 (cZ { p with ow:=o } qq.2.2)) b=none->H b=none:=λb h=>g3.free (gT h);have lA:upd H3 qq.1 (.ins T.part qq.2.1 (cZ { p with ow:=o } qq.2.2)) l=some (.lst (TT.map V.int)):=by rw[ay (λz=>by rw[z,k3]at cl;cases cl)];exact hl3
 show iU _ _ _ _ (upd H3 qq.1 (.ins T.part qq.2.1 (cZ { p with ow:=o } qq.2.2)));generalize upd H3 qq.1 (.ins T.part qq.2.1 (cZ { p with ow:=o } qq.2.2))=H4 at *;refine⟨_,Z,qq.1,T.part,qq.2.1,_,Z,kA,X.cP,X.GG,by show 6<1000;decide,?_⟩;have ndA:((st.aj.set i { p with ow:=o }).map (·.nm)).Nodup:=by rw[uD,sW (by rw[cK,e2];rfl)];exact wf.dM
 have hB:=hA.jn (i:=i) (p1:={ p with ow:=o,sc:=1 }) gA (qO hi) e3 rfl rfl ndA;have gB:Gh ρ (upd H4 qq.1 (.ins T.part qq.2.1 (cZ { p with ow:=o,sc:=1 } qq.2.2))):=gA.wr rfl;have FB:Fr n ρ H ρ (upd H4 qq.1 (.ins T.part qq.2.1 (cZ { p with ow:=o,sc:=1 } qq.2.2))):=FA.trans (Fr.write k3);have kB:upd H4 qq.1 (.ins T.part qq.2.1 (cZ { p with ow:=o,sc:=1 } qq.2.2)) qq.1=some (.ins T.part qq.2.1 (cZ { p with ow:=o,sc:=1 } qq.2.2)):=ai;have lB:upd H4 qq.1 (.ins T.part qq.2.1 (cZ { p with ow:=o,sc:=1 } qq.2.2)) l=some (.lst (TT.map V.int)):=by rw[ay (λz=>by rw[z,k3]at cl;cases cl)];exact lA
 have nB:∀b,upd H4 qq.1 (.ins T.part qq.2.1 (cZ { p with ow:=o,sc:=1 } qq.2.2)) b=none->H b=none:=λb h=>nA b (gT h);have WQ:(st.aj.set i { p with ow:=o }).set i { p with ow:=o,sc:=1 }=st.aj.set i { p with ow:=o,sc:=1 }:=wF ..;have hB:aL T n ρ A (upd H4 qq.1 (.ins T.part qq.2.1 (cZ { p with ow:=o,sc:=1 } qq.2.2))) { st with aj:=st.aj.set i { p with ow:=o,sc:=1 } }:=by rw[<-WQ];exact hB
 generalize hH5:upd H4 qq.1 (HO.ins T.part qq.2.1 (aY _ _ _))=H5;have agL:upd H4 qq.1 (.ins T.part qq.2.1 (cZ { p with ow:=o,sc:=1 } qq.2.2))=H5:=hH5;rw[agL]at hB gB FB kB lB nB;clear hA gA FA kA nA lA;have ol:=wf.ki;refine⟨_,Z,A.a,A.dx,_,Z,hB.oa,Z,_,Z,⟨⟨n,ρ,A,_,l,TT,Z,hB,aI.of lB,by show _=st.bD.length;rw[tl,wf.gD],by omega,λr H6 g6 hr0 hr1=>?_⟩⟩⟩;have cr:ρ r=none:=gB.none hr0;have h6:=hB.mono g6;have G6:=gB.same g6;have F6:Fr n ρ H (cY ρ r (n,21,p.nm)) H6:=(FB.trans (Fr.of_same (ρ:=ρ) g6)).oQ (nB _ hr0);have hC:aL T n (cY ρ r (n,21,p.nm)) A H6 _:=h6.same ⟨λ_ _ e=>e,λb u x w _ hc he=>⟨he,by rw[bB (λz=>by rw[z,cr]at hc;cases hc)];exact hc⟩⟩;have GC:Gh (cY ρ r (n,21,p.nm)) H6:=G6.color hr1 rfl;have ndB:((st.aj.set i { p with ow:=o,sc:=1 }).map (·.nm)).Nodup:=by rw[uD,sW (by rw[cK,e2];rfl)];exact wf.dM
 have hD:=hC.Vb (p1:={ p with ow:=o,sc:=1,row:=lU st TT }) GC (qO hi) e3 rfl cE hr1 ndB;refine⟨_,Z,qq.1,T.part,qq.2.1,_,Z,g6 _ _ kB,X.cP,X.J9,by show 6<1000;decide,?_⟩;refine q _ { A with qs:=A.qs.set i (qq.1,qq.2.1,r) } _ ⟨GC.wr rfl,?_,wS⟩ rfl (F6.trans (Fr.write (t:=20) (x:=p.nm) (by rw[bB (λz=>by rw[<-z,k3]at cr;cases cr)];exact k3)));have eS2:(st.aj.set i { p with ow:=o,sc:=1 }).set i { p with ow:=o,sc:=1,row:=lU st TT }=st.aj.set i { p with ow:=o,sc:=1,row:=lU st TT }:=wF ..;rw[<-eS2];exact hD
abbrev vP:Stmt:=inClass (top 21) 8
abbrev sr:List Str:=["self","part"]
abbrev Nh:List Str:=sr.append ["leaving","gains"]
theorem vQ:aS Nh sr (aF vP):=dX
theorem H_{T:TC}{e:Ec}(F:iK K T.hold "land" "Hold.land" vP f fd)(X:Txt K T)(cR:Mn P w K mg base 1 T.hold "part_of" fh (sN (mK T e)))(cX:Mn P w K mg base 1 T.hold "place_of" fX (Bg T))(fM:Mn P w K mg base 1 T.hold "tops_of" jf (Bh T))(uc:Mn P w K mg base 4 T.hold "shares" lE (yV T))(ja:mg "zip"=none):Mn P w K mg base 5 T.hold "land" sr (sN (OQ T e)):=by
 refine F.oA vQ λcdv A outer s H vs Q E hr h=>?_;obtain⟨⟨n,ρ,A,st,x,rfl,hh,ld,dq⟩⟩:=h;refine⟨_,(@c9.h _ _ _ (ak (a_ (i:=2) vQ.nd (bZ cR hr (qv 0) (ah (qv 1) au)))
  (ak (b9 (jy lQ nG nH ef (aJ K (qv 0)) (ah (h_ (ah (aJ K (qv 2)) (ah (aJ K (qv 2)) (ah (aJ K (qv 2)) (ah (bZ uc hr (qv 0) (ah (qv 1) au)) au))))) au)))
  (ak (pD (i:=3) ["purse","top","leaving"] [none,none,some 2] vQ.nd rfl rfl rfl (rj K (by rfl) ja (ah (aJ K (qv 0)) (ah (bZ fM hr (qv 0) (ah (qv 2) au)) au))) (λ_ _ _ _=>(iu K (n:=2) rfl (cD (aW (i:=0) (show List.Nodup (["purse","top","leaving"] :List Str)from by decide +kernel)) (cD (aW (i:=1) (show List.Nodup (["purse","top","leaving"] :List Str)from by decide +kernel)) ir)))) (λ_ _ _ _=>(aP cU (qv 0) (aP iJ (aJ K (qv 2)) (qv 1)))) rfl (by rfl) (by rfl))
  (ak (OJ (qv 3) (bZ cX hr (qv 0) (ah (aJ K (qv 2)) au)) KZ (aP iJ (aJ K (qv 2)) (aJ K (aJ K (qv 0)))) Y9 set_list)
  (ak (cQ K (qv 0) (qv 3))
  (az (OL (aJ K (qv 0)) (qv 1))))))))),?_⟩
 refine⟨_,Z,A.a,A.dx,_,Z,hh.h.oa,Z,_,Z,⟨⟨n,ρ,A,st,x,Z,hh.h,hh.wf.dM,λhn=>dq.no 3 ?_,λi p qq e1 e2 e3=>?_⟩⟩⟩
 .unfold qa;rw[aB (λz=>?_)];obtain⟨j,p,h1,h2⟩:=jz z;exact hn p (cC h1) h2
 subst e1;have wf:=hh.wf;have gf:=cC e2;have eR:qa st p.nm=none:=aC (Bm e2);have q:=dq.ok eR;have wS:=OS wf eR ld;rw[oS wf gf]at q wS;obtain⟨k1,k2,k3,k4⟩:=hh.h.opt i p qq e2 e3;obtain⟨Sj,hv0,hA0⟩:=hh.h.nt;refine⟨_,Z,A.a,T.hold,A.dx,_,_,Z,hh.h.oa,X.cH,X.has,Z,.inl ⟨Z,_,aI.of hv0⟩,_,Z,qq.1,T.part,qq.2.1,_,_,Z,k1,X.cP,X.Oz,Z,_,Z,qq.1,T.part,qq.2.1,_,_,Z,k1,X.cP,X.pow,Z,_,Z,qq.1,T.part,qq.2.1,_,_,Z,k1,X.cP,X.vc,Z,_,Z,A.a,A.dx,_,Z,hh.h.oa,Z,_,Z,⟨⟨n,ρ,A,st,i,p,Z,hh,e2,ld.kn,λr ws H1 iz F1 hr0 hr1 cr1 sh1=>?_⟩⟩⟩;have hi:i<st.aj.length:=(ee.mp e2).1;refine⟨(gZ 4),λt ht=>?_⟩;have g2:=aH ht (.tup [.str p.nm,.str p.ow,.int p.wo,.ref r]);have fr1:∀b,H1 b=none->H b=none:=λb hb=>F1.adh iz.g hb;have fr2:∀b,upd H1 t (.tup [.str p.nm,.str p.ow,.int p.wo,.ref r]) b=none->H b=none:=λb hb=>fr1 b (gT hb);have nD:=iz.mono g2;have F2:=F1.trans (Fr.of_same (ρ:=ρ) g2);have hr2:=g2 _ _ hr1;have sh2:=sh1.mono g2.tups;have ht2:upd H1 t (.tup [.str p.nm,.str p.ow,.int p.wo,.ref r]) t=some (.tup [.str p.nm,.str p.ow,.int p.wo,.ref r]):=ai;show uX _ (upd H1 t (.tup [.str p.nm,.str p.ow,.int p.wo,.ref r])) _;generalize upd H1 t (.tup [.str p.nm,.str p.ow,.int p.wo,.ref r])=H2 at *;clear g2 sh1 hr1 F1;have cH:aL T n (cY ρ r (n,30,⟨#[]⟩)) A H2 { st with kn:=st.kn+100 }:=nD.h.same ⟨λ_ _ e=>e,λb u x w _ hc he=>⟨he,by rw[bB (λz=>by rw[z,cr1]at hc;cases hc)];exact hc⟩⟩;have cG:Gh (cY ρ r (n,30,⟨#[]⟩)) H2:=nD.g.color hr2 rfl;have cF:Fr n ρ H (cY ρ r (n,30,⟨#[]⟩)) H2:=F2.oQ hr0;have cr2:cY ρ r (n,30,⟨#[]⟩) r=some (n,30,⟨#[]⟩):=cE;generalize cY ρ r (n,30,⟨#[]⟩)=ρ2 at *;clear nD F2;obtain⟨Hy,hv2,hA2⟩:=cH.nt;have hal:Hy.length<1000:=by rw[show Hy.length=st.bO.length from hA2.length];exact ld.bO
 refine⟨A.as,Hy,_,Z,Z,hv2,dI (by omega),?_⟩;have h3:aL T n ρ2 A (upd H2 A.as (.lst (Hy++[.ref t]))) { st with bO:=st.bO++[⟨p.nm,p.ow,p.wo,gQ st p⟩],kn:=st.kn+100 }:=cH.Z4 (x:=⟨p.nm,p.ow,p.wo,gQ st p⟩) cG hv2 ht2 hr2 cr2 sh2;have G3:=cG.wr (a:=A.as) (o:=.lst (Hy++[.ref t])) rfl;have F3:=cF.trans (Fr.write (o:=.lst (Hy++[.ref t])) cH.gI);have Ws:∀b,upd H2 A.as (.lst (Hy++[.ref t])) b=none->H b=none:=λb hb=>fr2 b (gT hb);have wf3:Wf { st with bO:=st.bO++[⟨p.nm,p.ow,p.wo,gQ st p⟩],kn:=st.kn+100 }:={ wf with vf:=wS.vf,GI:=wS.GI }
 generalize upd H2 A.as (.lst (Hy++[.ref t]))=H3 at *;clear cH cG cF hv2 hA2 ht2 hr2 sh2;obtain⟨j1,j2,_,_⟩:=h3.opt i p qq e2 e3;refine⟨_,Z,A.a,T.hold,A.dx,_,_,Z,h3.oa,X.cH,X.zH,Z,_,Z,A.a,A.dx,_,Z,h3.oa,Z,_,Z,⟨⟨n,ρ2,A,_,i,p,qq,Z,h3,wf3,e2,e3,λl H4 g4 qm hl1=>?_⟩⟩⟩;have hl1:H4 l=some (.lst ((aK st p).map V.int)):=hl1;have tl:=xg wf gf;have gc:=wf.ki;have mG:=wf.mG;have j4:=g4 _ _ j1;have zw:=ld.wo p gf;refine⟨_,_,_,_,_,_,Z,.lst (aI.of (g4 _ _ h3.jC)),.lst (aI.of hl1),λacc hacc=>?_⟩;refine yb (K:=K) (n:=st.bH.length) [0,1] (λi out H5=>aR H4 H5/\out=(List.zipWith (λu t=>u+p.wo*t) (st.bH.take i) ((aK st p).take i)).map V.int) (by decide) (by omega) ⟨aH hacc _,Z⟩ (λi out H5 hi _ hp=>⟨aI.of (hp.1 _ _ (g4 _ _ h3.jC)),aI.of (hp.1 _ _ hl1),by rw[aG];exact hi,by rw[aG,tl];omega⟩)
  (λout H5 _ hp=>⟨aI.of (hp.1 _ _ (g4 _ _ h3.jC)),aI.of (hp.1 _ _ hl1),.inl (by rw[aG];exact aO _)⟩) ?_ ?_
 .rintro k x out H5 H6 hk agM ha ⟨g5,e5⟩ ⟨pp,x1,y1,hpp,rfl,rfl,e6,e7⟩;obtain⟨u,rfl,eu⟩:=gq e6;obtain⟨c,rfl,ec⟩:=gq e7;have g6:=aH hpp (.tup [.int u,.int c]);refine⟨pp,_,Z,dz.of ai,Z,_,Z,_,Z,qq.1,T.part,qq.2.1,_,_,Z,(g5.trans g6) _ _ j4,X.cP,X.vc,Z,_,Z,_,_,Z,Z,.inl (by have:p.wo.natAbs<2 ^ 60:=zw;omega),_,_,Z,Z,g6 _ _ ha,(g5.trans g6).c8 hacc _,?_⟩;rw[sU _ eu ec,e5,bX];rfl
 rintro out H5 agM ha5 ⟨g5,e5⟩;rw[cM,show st.bH.length=(aK st p).length by omega,cM]at e5;have e5:out=(gu st p).map V.int:=e5;subst e5;have LF:H3 acc=none:=g4.free hacc;have g35:=g4.trans g5;have h5:=h3.mono g35;have G5:=G3.same g35;have F5:=F3.trans (Fr.of_same (ρ:=ρ2) g35);have ca:ρ2 acc=none:=G3.none LF;have j5:=g5 _ _ j4;have hown:=wf.ow p gf;have gl:=sZ wf gf;have hix:st.own.idxOf p.ow<(gu st p).length:=by rw[gl];exact uu hown
 refine⟨_,Z,_,Z,A.a,A.dx,_,Z,h5.oa,Z,_,Z,qq.1,T.part,qq.2.1,_,_,Z,j5,X.cP,X.pow,Z,⟨⟨n,ρ2,A,_,p.ow,Z,h5,hown,?_⟩⟩⟩;have at':sO ((gu st p).map V.int) ((st.own.idxOf p.ow:Nat):Int)=some (.int ((gu st p).getD (st.own.idxOf p.ow) 0)):=aM (by rw[cK,kK,bK hix];rfl);refine⟨acc,_,_,_,Z,Z,aI.of ha5,at',_,Z,qq.1,T.part,qq.2.1,_,_,Z,j5,X.cP,X.vc,Z,_,Z,A.a,T.hold,A.dx,_,_,Z,h5.oa,X.cH,X.wO,Z,A.bt,T.bot,A.db,_,_,Z,h5.jb,X.cB,X.GH,Z,_,_,Z,Z,.inl (by have:p.wo.natAbs<2 ^ 60:=zw;omega),_,_,Z,Z,acc,_,_,st.own.idxOf p.ow,Z,Z,ha5,by rw[aG];exact uK hix,?_⟩;have m1:((gu st p).map V.int).set (st.own.idxOf p.ow) (.int ((gu st p).getD (st.own.idxOf p.ow) 0-p.wo*st.prod))=(lV st p).map V.int:=uD.symm;have G6:=G5.wr (a:=acc) (o:=.lst ((lV st p).map V.int)) rfl;have h6:=h5.same (sV (o:=.lst ((lV st p).map V.int)) ca ha5 rfl);have n6:H acc=none:=Ws acc LF;have F6:=F5.new (o:=.lst ((lV st p).map V.int)) n6;show iU _ _ _ _ (upd H5 acc (.lst (((gu st p).map V.int).set (st.own.idxOf p.ow) (.int ((gu st p).getD (st.own.idxOf p.ow) 0-p.wo*st.prod)))));rw[m1];have LC:upd H5 acc (.lst ((lV st p).map V.int)) acc=some (.lst ((lV st p).map V.int)):=ai;generalize upd H5 acc (.lst ((lV st p).map V.int))=H6 at *;refine⟨_,Z,_,Z,A.a,T.hold,A.dx,_,Z,h6.oa,X.cH,X.zH,by show 7<1000;decide,?_⟩;obtain⟨h7,G7⟩:=Am (t:=7) h6 G6 ca LC rfl;have F7:Fr n ρ H (cY ρ2 acc (n,7,⟨#[]⟩)) H6:=F6.oQ n6;have h8:=h7.J8 G7 acc _ LC cE;have G8:=G7.wr (a:=A.a) (o:=.ins T.hold A.dx (dU { A with pu:=acc })) rfl;have F8:=F7.trans (Fr.write (o:=.ins T.hold A.dx (dU { A with pu:=acc })) h7.ca);rw[show aY "purses" (V.ref acc) (dU A)=dU { A with pu:=acc }from rfl];generalize upd H6 A.a (.ins T.hold A.dx (dU { A with pu:=acc }))=H8 at *;have hv8:=uN wf.dM e2 e3;have dk:=Cb wf.dM hh.h.ql e2;refine⟨_,Z,A.a,T.hold,A.dx,_,_,Z,h8.oa,X.cH,X.hab,Z,_,Z,A.ab,_,Sum.inr p.nm,Z,h8.dF,Z,?_,?_⟩
 .show (dY (b_ st.aj A.qs) (Sum.inr p.nm)).isSome=true;rw[hv8];rfl
 show Q .cT (upd H8 A.ab (.dK (m8 (b_ st.aj A.qs) (Sum.inr p.nm))));rw[dk];have hi2:i<A.qs.length:=by rw[hh.h.ql];exact hi
 have h9:=h8.J7 G8 (st.aj.eraseIdx i) (A.qs.eraseIdx i) (by rw[Py hi,Py hi2,hh.h.ql]) (λj x y ex ey=>by obtain⟨k,a1,a2⟩:=Aj ex ey;exact h8.opt k x y a1 a2)
 rw[vq wf.dM e2]at q wS;exact q _ { { A with pu:=acc }with qs:=A.qs.eraseIdx i } _ ⟨G8.wr rfl,h9,wS⟩ rfl (F8.trans (Fr.write h8.fC))
abbrev ud:Stmt:=inClass (top 21) 9
abbrev qx:List Str:=["self","part","name","amount","weight"]
abbrev LG:List Str:=qx.append ["source"]
theorem zL:aS LG qx (aF ud):=dX
theorem Fv{T:TC}{e:Ec}(F:iK K T.hold "sever" "Hold.sever" ud f fd)(X:Txt K T)(cR:Mn P w K mg base 1 T.hold "part_of" fh (sN (mK T e)))(jv:Mn P w K mg base 3 T.hold "check_new" ju (sN (xJ T e)))(lI:Mn P w K mg base 1 T.hold "stow" nV (Ke T))(qj:Cn P w K mg base 1 "Part" T.part ["self","name","owner","worth","weight","scale","row"] (Bf T K)):Mn P w K mg base 4 T.hold "sever" qx (sN (KR T e)):=by
 refine F.oA zL λcdv A outer s H vs Q E hr h=>?_;obtain⟨⟨n,ρ,A,st,x,y,a,we,rfl,LH,hy0,hl1,hl2,dq⟩⟩:=h;refine⟨_,(@c9.h _ _ _ (ak (a_ (i:=5) zL.nd (bZ cR hr (qv 0) (ah (qv 1) au)))
  (ak (b9 (bZ jv hr (qv 0) (ah (qv 2) au)))
  (ak (cW (lH (bW.pt (Jo (aX rT (qv 3) aq (bu _)) (DK (aX rT (qv 4) aq (bu _)))))) (az gh) bP)
  (ak (cW (lH (bW.pt (Jo (aX Jg (qv 3) (aJ K (qv 5)) (bu _)) (DK (aX jJ (qv 4) (aJ K (qv 5)) (bu _)))))) (az gh) bP)
  (ak (qc K (qv 5) (qv 3) JK)
  (ak (qc K (qv 5) (qv 4) JK)
  (az (b9 (bZ lI hr (qv 0) (ah (QT qj hr (ah (qv 2) (ah (aJ K (qv 5)) (ah (qv 3) (ah (qv 4) (ah (aJ K (qv 5)) (ah (aJ K (qv 5)) au))))))) au))))))))))),?_⟩
 refine⟨_,Z,A.a,A.dx,_,Z,LH.h.oa,Z,_,Z,⟨⟨n,ρ,A,st,x,Z,LH.h,LH.wf.dM,λhn=>dq.no 3 ?_,λi p qq e1 e2 e3=>?_⟩⟩⟩
 .unfold iN;rw[aB (λz=>?_)];obtain⟨j,p,h1,h2⟩:=jz z;exact hn p (cC h1) h2
 have gf:=cC e2;have eg:bJ st x=p:=bN LH.wf gf e1;subst e1;have hm:=Bm e2;have eR:iN st p.nm y a we=match newR st y with
  | some i=>some i
  | none=>if a<1\/we<0 then some 5 else if p.wo<=a\/p.we<we then some 6 else none:=by unfold iN;rw[aC hm,eg];first|done|(cases newR st y <;> rfl)
 refine⟨_,Z,A.a,A.dx,_,Z,LH.h.oa,Z,_,Z,⟨⟨n,ρ,A,st,y,Z,LH.h,hy0,λi hi=>dq.no i (by rw[eR,hi]),λhnew H1 g1=>?_⟩⟩⟩;rw[hnew]at eR;have eR:iN st p.nm y a we=if a<1\/we<0 then some 5 else if p.wo<=a\/p.we<we then some 6 else none:=eR;have hh:=LH.mono g1;obtain⟨k1,k2,k3,k4⟩:=hh.h.opt i p qq e2 e3;by_cases hb:a<1\/we<0
 .have rq:=dq.no 5 (by rw[eR,aC hb]);refine⟨true,⟨_,Z,_,_,Z,Z,_,Z,cI (λc=>⟨Z,Z⟩) λc=>⟨_,Z,_,_,Z,Z,_,Z,bq (hb.resolve_left λz=>c (bq z)),Z⟩⟩,nM (rq 0 H1 g1)⟩
 rw[aB hb]at eR;refine⟨false,⟨_,Z,_,_,Z,Z,_,Z,cI (λc=>absurd (eF c) (by omega)) λ_=>⟨_,Z,_,_,Z,Z,_,Z,dG (by omega),Z⟩⟩,bM ?_⟩;by_cases hb2:p.wo<=a\/p.we<we
 .have rq:=dq.no 6 (by rw[eR,aC hb2]);refine⟨true,⟨_,Z,_,Z,qq.1,T.part,qq.2.1,_,_,Z,k1,X.cP,X.vc,Z,_,_,Z,Z,_,Z,cI (λc=>⟨Z,Z⟩) λc=>⟨_,Z,_,Z,qq.1,T.part,qq.2.1,_,_,Z,k1,X.cP,X.OA,Z,_,_,Z,Z,_,Z,bq (hb2.resolve_left λz=>c (bq z)),Z⟩⟩,nM (rq 0 H1 g1)⟩
 rw[aB hb2]at eR;have q:=dq.ok eR;refine⟨false,⟨_,Z,_,Z,qq.1,T.part,qq.2.1,_,_,Z,k1,X.cP,X.vc,Z,_,_,Z,Z,_,Z,cI (λc=>absurd (eF c) (by show ¬ p.wo<=a;omega)) λ_=>⟨_,Z,_,Z,qq.1,T.part,qq.2.1,_,_,Z,k1,X.cP,X.OA,Z,_,_,Z,Z,_,Z,dG (by show ¬ p.we<we;omega),Z⟩⟩,bM ?_⟩;refine⟨_,Z,qq.1,T.part,qq.2.1,_,_,Z,k1,X.cP,X.vc,Z,_,Z,_,_,Z,Z,qq.2.1,_,k1,by show 6<1000;decide,?_⟩;have wA:Wf (ko st p.nm λp=>{ p with wo:=p.wo-a }):=AD hh.wf λp' dN e=>by rw[uO hh.wf dN gf e];exact⟨Z,Z,Z,Z,by show 1<=p.wo-a;omega,(hh.wf.jK p gf).2⟩
 have wB:Wf (ko st p.nm λp=>{ p with wo:=p.wo-a,we:=p.we-we }):=AD hh.wf λp' dN e=>by rw[uO hh.wf dN gf e];exact⟨Z,Z,Z,Z,by show 1<=p.wo-a;omega,by show 0<=p.we-we;omega⟩
 have wS:=KS hh.wf eR hl1 hl2;have esA:ko st p.nm (λp=>{ p with wo:=p.wo-a })={ st with aj:=st.aj.set i { p with wo:=p.wo-a } }:=rA hh.wf.dM e2 _;have esB:ko st p.nm (λp=>{ p with wo:=p.wo-a,we:=p.we-we })={ st with aj:=st.aj.set i { p with wo:=p.wo-a,we:=p.we-we } }:=rA hh.wf.dM e2 _;have hi:i<st.aj.length:=(ee.mp e2).1;have hA:=hh.h.jn (p1:={ p with wo:=p.wo-a }) hh.g e2 e3 rfl rfl hh.wf.dM;have gA:Gh ρ (upd H1 qq.1 (.ins T.part qq.2.1 (cZ { p with wo:=p.wo-a } qq.2.2))):=hh.g.wr rfl;have FA:Fr n ρ H ρ (upd H1 qq.1 (.ins T.part qq.2.1 (cZ { p with wo:=p.wo-a } qq.2.2))):=(Fr.of_same g1).trans (Fr.write k3);have kA:upd H1 qq.1 (.ins T.part qq.2.1 (cZ { p with wo:=p.wo-a } qq.2.2)) qq.1=some (.ins T.part qq.2.1 (cZ { p with wo:=p.wo-a } qq.2.2)):=ai;have nA:∀b,upd H1 qq.1 (.ins T.part qq.2.1 (cZ { p with wo:=p.wo-a } qq.2.2)) b=none->H b=none:=λb h=>g1.free (gT h);show iU _ _ _ _ (upd H1 qq.1 (.ins T.part qq.2.1 (cZ { p with wo:=p.wo-a } qq.2.2)));generalize upd H1 qq.1 (.ins T.part qq.2.1 (cZ { p with wo:=p.wo-a } qq.2.2))=H2 at *;refine⟨_,Z,qq.1,T.part,qq.2.1,_,_,Z,kA,X.cP,X.OA,Z,_,Z,_,_,Z,Z,qq.2.1,_,kA,by show 6<1000;decide,?_⟩;have hB:=hA.jn (i:=i) (p1:={ p with wo:=p.wo-a,we:=p.we-we }) gA (qO hi) e3 rfl rfl (by have:=wA.dM;rw[esA]at this;exact this);have WQ:(st.aj.set i { p with wo:=p.wo-a }).set i { p with wo:=p.wo-a,we:=p.we-we }=st.aj.set i { p with wo:=p.wo-a,we:=p.we-we }:=wF ..;have gB:Gh ρ (upd H2 qq.1 (.ins T.part qq.2.1 (cZ { p with wo:=p.wo-a,we:=p.we-we } qq.2.2))):=gA.wr rfl;have FB:Fr n ρ H ρ (upd H2 qq.1 (.ins T.part qq.2.1 (cZ { p with wo:=p.wo-a,we:=p.we-we } qq.2.2))):=FA.trans (Fr.write k3);have kB:upd H2 qq.1 (.ins T.part qq.2.1 (cZ { p with wo:=p.wo-a,we:=p.we-we } qq.2.2)) qq.1=some (.ins T.part qq.2.1 (cZ { p with wo:=p.wo-a,we:=p.we-we } qq.2.2)):=ai;generalize hH3:upd H2 qq.1 (HO.ins T.part qq.2.1 (aY _ _ _))=H3;have VF:upd H2 qq.1 (.ins T.part qq.2.1 (cZ { p with wo:=p.wo-a,we:=p.we-we } qq.2.2))=H3:=hH3;have nB:∀b,H3 b=none->H b=none:=λb h=>nA b (gT (by rw[VF];exact h));rw[VF]at hB gB FB kB;have l9:HH T n ρ A H3 (ko st p.nm λp=>{ p with wo:=p.wo-a,we:=p.we-we }):=⟨gB,by rw[esB,<-WQ];exact hB,wB⟩
 obtain⟨_,r3,_,_⟩:=hB.opt i { p with wo:=p.wo-a,we:=p.we-we } qq (by show((st.aj.set i _).set i _)[i]?=_;rw[WQ];exact qO hi) e3;clear hA hB gA FA kA hH3 VF;refine⟨_,Z,A.a,A.dx,_,Z,l9.h.oa,Z,_,Z,_,Z,qq.1,T.part,qq.2.1,_,_,Z,kB,X.cP,X.pow,Z,_,Z,_,Z,_,Z,qq.1,T.part,qq.2.1,_,_,Z,kB,X.cP,X.GG,Z,_,Z,qq.1,T.part,qq.2.1,_,_,Z,kB,X.cP,X.J9,Z,?_⟩;intro v dv hv LI hvd;have AQ:upd (upd H3 dv (.own v)) v (.ins T.part dv []) qq.2.2=some (.lst (p.row.map V.int)):=by rw[ay (aD r3 hv),ay (aD r3 LI)];exact r3
 refine⟨⟨v,dv,qq.2.2,⟨y,p.ow,a,we,p.sc,p.row⟩,Z,ai,aI.of AQ,λrr H6 hrr k6 hy6 VB=>⟨Z,?_⟩⟩⟩;have Ls:H3 rr=none:=gT (gT hrr);have g6:aR H3 H6:=λb u e=>k6 b u (by rw[ay (aD e hv),ay (aD e LI)];exact e) (aD e hv);have xm:=l9.mono g6;have F6:=FB.trans (Fr.of_same (ρ:=ρ) g6);unfold lz at wS q;rw[eg]at wS q;exact⟨⟨n,ρ,A,_,(v,dv,rr),_,Z,xm,hy6,VB,l9.g.none hv,l9.g.none Ls,(kX eR).2.1.2,wS,λρ' A' H' a1 a2 a3=>q ρ' A' H' a1 a2 (a3.fr F6 (nB _ hv) (nB _ Ls))⟩⟩
abbrev ue:Stmt:=inClass (top 21) 15
abbrev qy:List Str:=["self","owner"]
abbrev LJ:List Str:=qy
theorem Ia:aS LJ qy (aF ue):=dX
theorem Ib{T:TC}(F:iK K T.hold "purse" "Hold.purse" ue f fd)(X:Txt K T)(jH:Mn P w K mg base 2 T.bot "over" lD (ET T))(cX:Mn P w K mg base 1 T.hold "place_of" fX (Bg T)):Mn P w K mg base 3 T.hold "purse" qy (OZ T):=by
 refine F.oA Ia λcdv A outer s H vs Q E hr h=>?_;obtain⟨⟨n,ρ,A,st,o,rfl,h,wf,ho,q⟩⟩:=h;refine⟨_,(@c9.h _ _ _ (az (bF (bZ jH hr (aJ K (qv 0)) (ah (aT (dO K) (aJ K (qv 0)) (bZ cX hr (qv 0) (ah (qv 1) au))) au))))),?_⟩;have hk:st.own.idxOf o<st.bH.length:=by rw[wf.mG];exact uu ho
 refine⟨_,Z,A.a,T.hold,A.dx,_,_,Z,h.oa,X.cH,X.wO,Z,A.bt,A.db,_,Z,h.jb,Z,_,Z,A.a,T.hold,A.dx,_,_,Z,h.oa,X.cH,X.zH,Z,_,Z,A.a,A.dx,_,Z,h.oa,Z,_,Z,⟨⟨n,ρ,A,st,o,Z,h,ho,?_⟩⟩⟩;refine⟨A.pu,_,_,_,Z,Z,aI.of h.jC,getD_at hk,?_⟩;exact⟨⟨A.bt,A.db,A.sp,A.kn,st.stp,st.prod,_,Z,h.jb,h.lZ,wf.pW,wf.vd,wf.big,λr H2 g2 hr2=>q r H2 g2 hr2⟩⟩
abbrev rN:Stmt:=inClass (top 21) 10
abbrev oB:List Str:=["self"]
abbrev Ic:List Str:=oB
theorem Fw:aS Ic oB (aF rN):=dX
theorem Fx{T:TC}(F:iK K T.hold "roster" "Hold.roster" rN f fd)(X:Txt K T)(fQ:mg "list"=none):Mn P w K mg base 1 T.hold "roster" oB (Kf T):=by refine F.oA Fw λcdv A outer s H vs Q E hr h=>?_;obtain⟨⟨n,ρ,A,st,rfl,h,q⟩⟩:=h;refine⟨_,(@c9.h _ _ _ (az (bF (iO (QH rfl) (by rfl) fQ zR (ah (aJ K (qv 0)) au))))),?_⟩;refine⟨_,Z,A.a,T.hold,A.dx,_,_,Z,h.oa,X.cH,X.hpl,Z,A.pl,_,Z,.inl h.gY,λl hl=>?_⟩;rw[B_];exact q l hl
abbrev rO:Stmt:=inClass (top 21) 17
abbrev lF:List Str:=["self"]
abbrev Ie:List Str:=lF
theorem Fy:aS Ie lF (aF rO):=dX
theorem Fz{T:TC}(F:iK K T.hold "landed" "Hold.landed" rO f fd)(X:Txt K T)(fQ:mg "list"=none):Mn P w K mg base 1 T.hold "landed" lF (AG T):=by
 refine F.oA Fy λcdv A outer s H vs Q E hr h=>?_;obtain⟨⟨n,ρ,A,st,rfl,hh,q⟩⟩:=h;obtain⟨ws,hw,hA⟩:=hh.h.nt;have hl:=hA.length;have hal:=hh.wf.vf;refine⟨_,(@c9.h _ _ _ (az (bF (kq ["name","owner","worth","shares"] [none,none,none,none] rfl (dZ K (aJ K (qv 0))) (λ_ _ _ _=>(iu K (n:=4) rfl (cD (aW (i:=0) (show List.Nodup (["name","owner","worth","shares"] :List Str)from by decide +kernel)) (cD (aW (i:=1) (show List.Nodup (["name","owner","worth","shares"] :List Str)from by decide +kernel)) (cD (aW (i:=2) (show List.Nodup (["name","owner","worth","shares"] :List Str)from by decide +kernel)) (cD (aW (i:=3) (show List.Nodup (["name","owner","worth","shares"] :List Str)from by decide +kernel)) ir)))))) (λ_ _ _ _=>(h_ (ah (qv 0) (ah (qv 1) (ah (qv 2) (ah (iO (jD K) (by rfl) fQ zR (ah (qv 3) au)) au)))))) rfl (by rfl))))),?_⟩;refine⟨_,Z,A.a,T.hold,A.dx,_,_,Z,hh.h.oa,X.cH,X.has,Z,A.as,Z,⟨_,aI.of hw⟩,λacc hacc=>?_⟩;refine yb (K:=K) (n:=ws.length) [0,1,2,3] (λi out H1=>aR H H1/\kT acc ρ H1 out (st.bO.take i)/\∀w∈out,∃t xs,w =.ref t/\H1 t=some (.tup xs)/\∀b,V.ref b∈xs->H b=none/\b≠acc) (by decide) (by omega) ⟨aH hacc _,.nil,λw hw=>nomatch hw⟩ (λi out H1 hi _ hp=>⟨ws,_,aI.of (hp.1 _ _ hw),bK hi⟩) (λout H1 _ hp=>⟨ws,aI.of (hp.1 _ _ hw),aO _⟩) ?_ ?_
 .rintro i x out H1 H2 hi gc ha ⟨g,hL,hF⟩ ⟨rfl,hy⟩;have ex:=hy ws (aI.of (g _ _ hw));obtain⟨r,l,y,ss,rfl,ey,a1,a2,a3,a4⟩:=hA.get ex;refine⟨r,_,Z,dz.of (g _ _ a1),Z,_,Z,_,Z,_,Z,_,Z,l,ss,Z,.inl (aI.of (g _ _ a2)),λl2 hl2=>⟨(gZ 4),λt ht=>?_⟩⟩;have g2:=aH hl2 (.lst ss);have g3:=aH ht (.tup [.str y.nm,.str y.ow,.int y.wo,.ref l2]);have hl3:upd H2 l2 (.lst ss) l2=some (.lst ss):=ai;have c2:ρ l2=none:=hh.g.none (g.free hl2);have tu:=gj (o:=.lst (out++[.ref t])) (.inr ⟨_,(g2.trans g3) _ _ ha,Z⟩);refine⟨(g2.trans g3) _ _ ha,((g.trans g2).trans g3).c8 hacc _,?_,λw hw=>?_⟩;rotate_left
  .rcases fq.mp hw with z|z
   .obtain ⟨t',xs,e1,e2,e3⟩:=hF w z;exact⟨t',xs,e1,tu _ _ ((g2.trans g3) _ _ e2),e3⟩
   .rw [eO.mp z];refine⟨t,_,Z,tu _ _ ai,λb hb=>?_⟩;have:b=l2:=by simpa using hb
    rw[this];exact⟨g.free hl2,λe=>by rw[e,ha]at hl2;cases hl2⟩
  rw[take_snoc ey];have n1:l2≠acc:=λe=>by rw[e,ha]at hl2;cases hl2
  exact((hL.mono (g2.trans g3)).snoc (x:=y) ai (g3 _ _ hl3) c2 n1 (a4.mono ((g.trans g2).trans g3).tups)).upd ((g2.trans g3) _ _ ha)
 rintro out H1 gc ha ⟨g,hL,hF⟩;rw[hl,cM]at hL;exact q acc out H1 g hacc ha hL.to hF
abbrev vR:Stmt:=inClass (top 20) 1
abbrev xO:List Str:=["self"]
abbrev Ni:List Str:=xO
theorem LK:aS Ni xO (aF vR):=dX
theorem LL{T:TC}(F:iK K T.part "twin" "Part.twin" vR f fd)(X:Txt K T)(qj:Cn P w K mg base 1 "Part" T.part ["self","name","owner","worth","weight","scale","row"] (Bf T K)):Mn P w K mg base 3 T.part "twin" xO (O0 T K):=by
 refine F.oA LK λcdv A outer s H vs Q E hr h=>?_;obtain⟨⟨a,d,r,p,rfl,ha,hr1,q⟩⟩:=h;refine⟨_,(@c9.h _ _ _ (az (bF (QT qj hr (ah (aJ K (qv 0)) (ah (aJ K (qv 0)) (ah (aJ K (qv 0)) (ah (aJ K (qv 0)) (ah (aJ K (qv 0)) (ah (aJ K (qv 0)) au)))))))))),?_⟩;refine⟨_,Z,a,T.part,d,_,_,Z,ha,X.cP,X.Oz,Z,_,Z,a,T.part,d,_,_,Z,ha,X.cP,X.pow,Z,_,Z,a,T.part,d,_,_,Z,ha,X.cP,X.vc,Z,_,Z,a,T.part,d,_,_,Z,ha,X.cP,X.OA,Z,_,Z,a,T.part,d,_,_,Z,ha,X.cP,X.GG,Z,_,Z,a,T.part,d,_,_,Z,ha,X.cP,X.J9,Z,?_⟩;intro v dv hv LI hvd;have hr2:upd (upd H dv (.own v)) v (.ins T.part dv []) r=some (.lst (p.row.map V.int)):=by rw[ay (aD hr1 hv),ay (aD hr1 LI)];exact hr1
 refine⟨⟨v,dv,r,p,Z,ai,aI.of hr2,λrr H2 hrr k2 hv2 agN=>⟨Z,?_⟩⟩⟩;have hrv:v≠rr:=λe=>by rw[<-e,ai]at hrr;cases hrr
 exact q v dv rr H2 (λb u e=>k2 b u (by rw[ay (aD e hv),ay (aD e LI)];exact e) (aD e hv)) hv (gT (gT hrr)) hrv hv2 agN
abbrev rP:Stmt:=inClass (top 4) 4
abbrev uf:List Str:=["self"]
abbrev Ig:List Str:=uf.append ["other"]
theorem yo:aS Ig uf (aF rP):=dX
theorem FD{T:TC}(F:iK K T.bot "twin" "Bottom.twin" rP f fd)(X:Txt K T)(rF:Cn P w K mg base 1 "Bottom" T.bot ["self"] (EO T))(fQ:mg "list"=none):Mn P w K mg base 3 T.bot "twin" uf (O1 T K):=by
 refine F.oA yo λcdv A outer s H vs Q E hr h=>?_;obtain⟨⟨bt,db,sp,kn,stp,prod,rfl,hb,hs,q⟩⟩:=h;refine⟨_,(@c9.h _ _ _ (ak (a_ (i:=1) yo.nd (DL rF hr))
  (ak (cQ K (qv 1) (iO (jD K) (by rfl) fQ zR (ah (aJ K (qv 0)) au)))
  (ak (cQ K (qv 1) (aJ K (qv 0)))
  (az (bF (qv 1))))))),?_⟩
 intro v dv hv LI hvd;refine⟨⟨v,dv,Z,ai,λs0 k0 H1 hs0 hk0 hsk k1 hv1 hs1 hk1=>⟨Z,?_⟩⟩⟩;have g1:aR H H1:=λb u e=>k1 b u (by rw[ay (aD e hv),ay (aD e LI)];exact e) (aD e hv);have kv:k0≠v:=λe=>by rw[e,ai]at hk0;cases hk0
 refine⟨_,Z,bt,T.bot,db,_,_,Z,g1 _ _ hb,X.cB,X.Sl,Z,sp,_,Z,.inl (aI.of (g1 _ _ hs)),λs2 hs2=>?_⟩;have g2:=aH hs2 (.lst (stp.map V.int));have s2v:upd H1 s2 (.lst (stp.map V.int)) s2=some (.lst (stp.map V.int)):=ai;have v2:=g2 _ _ hv1;have k2:=g2 _ _ hk1;have b2:=g2 _ _ (g1 _ _ hb);have n1:s2≠v:=λe=>by rw[e,hv1]at hs2;cases hs2
 have n2:s2≠k0:=λe=>by rw[e,hk1]at hs2;cases hs2
 have nb:bt≠v:=aD hb hv;generalize upd H1 s2 (.lst (stp.map V.int))=H2 at *;refine⟨_,Z,v,T.bot,dv,_,Z,v2,X.cB,X.Sl,by show 3<1000;decide,?_⟩;have b3:upd H2 v (.ins T.bot dv (jY s2 1 k0)) bt=some (.ins T.bot db (jY sp prod kn)):=by rw[ay nb];exact b2
 have v3:upd H2 v (.ins T.bot dv (jY s2 1 k0)) v=some (.ins T.bot dv (jY s2 1 k0)):=ai;have g3:aR H (upd H2 v (.ins T.bot dv (jY s2 1 k0))):=(g1.trans g2).c8 hv _;have s3:upd H2 v (.ins T.bot dv (jY s2 1 k0)) s2=some (.lst (stp.map V.int)):=by rw[ay n1];exact s2v
 have k3:upd H2 v (.ins T.bot dv (jY s2 1 k0)) k0=some (.dK []):=by rw[ay kv];exact k2
 show iU _ _ _ _ (upd H2 v (.ins T.bot dv (jY s2 1 k0)));generalize upd H2 v (.ins T.bot dv (jY s2 1 k0))=H3 at *;refine⟨_,Z,bt,T.bot,db,_,_,Z,b3,X.cB,X.GH,Z,_,Z,v,T.bot,dv,_,Z,v3,X.cB,X.GH,by show 3<1000;decide,?_⟩;exact⟨_,Z,q v dv s2 k0 _ (g3.c8 hv _) hv (g1.free hs2) (gT (gT hk0)) (bY n1) (bY kv) n2 ai (by rw[ay n1];exact s3) (by rw[ay kv];exact k3)⟩
abbrev vS:Stmt:=inClass (top 21) 18
abbrev lJ:List Str:=["self"]
abbrev Nj:List Str:=lJ.append ["other"]
theorem AS:aS Nj lJ (aF vS):=dX
theorem LM{T:TC}(F:iK K T.hold "twin" "Hold.twin" vS f fd)(X:Txt K T)(yp:Cn P w K mg base 3 "Hold" T.hold ["self"] (ER T))(xP:Mn P w K mg base 3 T.part "twin" lJ (O0 T K))(ug:Mn P w K mg base 3 T.bot "twin" lJ (O1 T K))(jI:Mn P w K mg base 1 T.hold "landed" lF (AG T))(fQ:mg "list"=none)(Ed:mg "dict"=none):Mn P w K mg base 5 T.hold "twin" lJ (O2 T):=by
 refine F.oA AS λcdv A outer s H vs Q E hr h=>?_;obtain⟨⟨n,m,ρ,A,st,rfl,hnm,hh,q⟩⟩:=h;refine⟨_,(@c9.h _ _ _ (ak (a_ (i:=1) AS.nd (DL yp hr))
  (ak (cQ K (qv 1) (iO DT (by rfl) Ed PyProof.Rows.boot_dict (ah (aJ K (qv 0)) au)))
  (ak (cQ K (qv 1) (DJ (Vp ["name","part"] [none,none] rfl (yT (aJ K (qv 0))) (λ_ _ _ _=>(iu K (n:=2) rfl (cD (aW (i:=0) (show List.Nodup (["name","part"] :List Str)from by decide +kernel)) (cD (aW (i:=1) (show List.Nodup (["name","part"] :List Str)from by decide +kernel)) ir)))) (λ_ _ _ _=>(qv 0)) (λ_ _ _ _=>(kr xP hr (qv 1))) rfl (by rfl))))
  (ak (cQ K (qv 1) (kr jI hr (qv 0)))
  (ak (cQ K (qv 1) (iO DT (by rfl) Ed PyProof.Rows.boot_dict (ah (aJ K (qv 0)) au)))
  (ak (cQ K (qv 1) (kr ug hr (aJ K (qv 0))))
  (ak (cQ K (qv 1) (iO (jD K) (by rfl) fQ zR (ah (aJ K (qv 0)) au)))
  (ak (cQ K (qv 1) (iO (jD K) (by rfl) fQ zR (ah (aJ K (qv 0)) au)))
  (az (bF (qv 1)))))))))))),?_⟩
 intro x dx hx hdx hne;refine⟨⟨x,dx,ρ,m,Z,ai,(hh.g.alloc hdx).alloc (by rw[ay (bY hne)];exact hx),hh.g.none hx,λρ1 B1 H1 ea1 iz k1=>⟨Z,?_⟩⟩⟩;have K1:Kept ρ H ρ1 H1:=λb o e=>k1 b o (by rw[ay (aD e hx),ay (aD e hdx)];exact e) (aD e hx);have t1:kC T n m ρ H A st x ρ1 H1 B1 hs0:=⟨hnm,hx,hh.h.same ⟨λb xs e=>(K1 b _ e).1,λb t y o _ c e=>⟨(K1 b o e).1,(K1 b o e).2.trans c⟩⟩,iz.h,iz.g,K1,ea1⟩
 clear iz k1 K1 ea1 hdx hne;refine⟨_,Z,A.a,T.hold,A.dx,_,_,Z,t1.hs.oa,X.cH,X.hpl,Z,A.pl,_,Z,t1.hs.gY,λl hl=>?_⟩;obtain⟨e2,ρ2,t2⟩:=t1.fld (k:=1) (B':={ B1 with pl:=l }) hl rfl (λh g e c=>h.aaL g l st.own e c) rfl;refine⟨_,Z,x,T.hold,B1.dx,_,Z,e2,X.cH,X.hpl,by show 7<1000;decide,?_⟩;show iU _ _ _ _ (upd (upd H1 l (.dK (fP 0 st.own))) x (.ins T.hold B1.dx (dU { B1 with pl:=l })));refine(λ(k:∀(r2:cu) (h2:Hp) (b2:HA),kC T n m ρ H A st x r2 h2 b2 ⟨st.own,[],[],[],[],1,0,[],[]⟩->iU _ _ _ _ h2)=>k _ _ _ t2) ?_;clear t2;intro ρ2 H2 B2 t2;clear t1 e2 hl;have hpl:=hh.wf.mH;have nd:=hh.wf.dM;refine⟨A.ab,_,t2.hs.dF,λob=>?_⟩;refine⟨_,Z,A.a,T.hold,A.dx,_,_,Z,eX t2.hs.dF t2.hs.oa (λk z=>by cases z),X.cH,X.hab,Z,A.ab,ob,_,Z,ai,λacc hacc=>?_⟩;have Jp:H2 acc=none:=jq t2.hs.dF hacc;have LF:H acc=none:=t2.free Jp;have nab:acc≠A.ab:=λe=>by rw[e,ai]at hacc;cases hacc
 have el:=uM t2.hs.ql;refine Yz (K:=K) (n:=st.aj.length) [0,1] (λi out Hc=>∃H5 ρ5 qs,Hc=upd H5 A.ab (.fu ob (.dK (b_ st.aj A.qs)))/\kC T n m ρ H A st x ρ5 H5 B2 ⟨st.own,[],[],[],[],1,0,[],[]⟩/\ρ5 acc=none/\H5 acc=some (.dK out)/\out=b_ (st.aj.take i) qs/\qs.length=i/\∀(j:Nat)(p:Pt)(y:Addr×Addr×Addr),(st.aj.take i)[j]?=some p->qs[j]?=some y->H5 y.1=some (.ins T.part y.2.1 (cZ p y.2.2))/\H5 y.2.2=some (.lst (p.row.map V.int))/\ρ5 y.1=some (m,20,p.nm)/\ρ5 y.2.2=some (m,21,p.nm))
  (by decide) (by omega) ⟨upd H2 acc (.dK []),ρ2,[],iW (bY nab),t2.same (aH Jp _),t2.g.none Jp,ai,Z,Z,λj p y e=>by simp at e⟩ ?_ ?_ ?_ ?_
 .rintro i out Hc hi ha ⟨H5,ρ5,qs,rfl,_⟩;exact⟨ai,by rw[el];exact hi⟩
 .rintro out Hc ha ⟨H5,ρ5,qs,rfl,_⟩;exact⟨ai,by rw[el];exact aO _⟩
 .rintro i y out Hc H6 hi gc ha ⟨H5,ρ5,qs,rfl,t5,Hz,a5,eo,ql,hq⟩ ⟨pp,kv,hpp,hkv,rfl,rfl⟩;have ep:=bK hi;generalize st.aj[i]=p at ep;obtain⟨qq,eq,k1,k2,k3,k4⟩:=t5.hs.find ep;rw[uL ep eq]at hkv;cases hkv;have npl:pp≠A.ab:=λe=>by rw[e,ai]at hpp;cases hpp
  have Fp:H5 pp=none:=jq t5.hs.dF hpp;have e6:upd (upd H5 A.ab (.fu ob (.dK (b_ st.aj A.qs)))) pp (.tup [.str p.nm,.ref qq.1])=upd (upd H5 pp (.tup [.str p.nm,.ref qq.1])) A.ab (.fu ob (.dK (b_ st.aj A.qs))):=iW (bY npl);show ∃t vs,V.ref pp =.ref t/\dz K (upd (upd H5 A.ab (.fu ob (.dK (b_ st.aj A.qs)))) pp (.tup [.str p.nm,.ref qq.1])) t vs/\vs.length=2/\BV 0 (dD _ [0,1] vs) (upd (upd H5 A.ab (.fu ob (.dK (b_ st.aj A.qs)))) pp (.tup [.str p.nm,.ref qq.1])) _;rw[e6];have t6:=t5.same (aH Fp (.tup [.str p.nm,.ref qq.1]));have g6:=aH Fp (.tup [.str p.nm,.ref qq.1]);have tt6:upd H5 pp (.tup [.str p.nm,.ref qq.1]) pp=some (.tup [.str p.nm,.ref qq.1]):=ai;have a6:=g6 _ _ a5;have k16:=g6 _ _ k1;have k26:=g6 _ _ k2;have WR:∀(j:Nat)(u:Pt)(y:Addr×Addr×Addr),(st.aj.take i)[j]?=some u->qs[j]?=some y->upd H5 pp (.tup [.str p.nm,.ref qq.1]) y.1=some (.ins T.part y.2.1 (cZ u y.2.2))/\upd H5 pp (.tup [.str p.nm,.ref qq.1]) y.2.2=some (.lst (u.row.map V.int))/\ρ5 y.1=some (m,20,u.nm)/\ρ5 y.2.2=some (m,21,u.nm):=λj p' y' e1 e2=>by obtain⟨z1,z2,z3,z4⟩:=hq j p' y' e1 e2;exact⟨by rw[ay (aD z1 Fp)];exact z1,by rw[ay (aD z2 Fp)];exact z2,z3,z4⟩
  clear e6 k1 k2 hq a5 hpp;generalize upd H5 pp (.tup [.str p.nm,.ref qq.1])=H6 at t6 g6 tt6 a6 k16 k26 WR ⊢;have fz:∀{b:Addr}{u:HO},H6 b=some u->(∀k,u ≠ .dK k)->upd H6 A.ab (.fu ob (.dK (b_ st.aj A.qs))) b=some u:=λe k=>eX t6.hs.dF e k;refine⟨pp,_,Z,dz.of (fz tt6 (λk z=>by cases z)),Z,_,Z,Sum.inr p.nm,Z,?_⟩;refine⟨_,Z,qq.1,qq.2.1,_,Z,fz k16 (λk z=>by cases z),Z,⟨⟨qq.1,qq.2.1,qq.2.2,p,Z,fz k16 (λk z=>by cases z),fz k26 (λk z=>by cases z),λv dv rr H7 g7 hv hrr hvr hv7 agO=>?_⟩⟩⟩;have Hx:H7 A.ab=some (.fu ob (.dK (b_ st.aj A.qs))):=g7 _ _ ai;have bk:=qT t6.hs.dF g7;have Tq:H6 v=none:=jq t6.hs.dF hv;have AQ:H6 rr=none:=jq t6.hs.dF hrr;have nv:v≠A.ab:=λe=>by rw[e,ai]at hv;cases hv
  have nr:rr≠A.ab:=λe=>by rw[e,ai]at hrr;cases hrr
  have av:acc≠v:=aD a6 Tq;have ar:acc≠rr:=aD a6 AQ;have ha7:H7 acc=some (.dK out):=g7 _ _ (by rw[ay nab];exact a6);have e7:H7=upd (upd H7 A.ab (.dK (b_ st.aj A.qs))) A.ab (.fu ob (.dK (b_ st.aj A.qs))):=by rw[lG,qU Hx]
  have v8:upd H7 A.ab (.dK (b_ st.aj A.qs)) v=some (.ins T.part dv (cZ p rr)):=by rw[ay nv];exact hv7
  have r8:upd H7 A.ab (.dK (b_ st.aj A.qs)) rr=some (.lst (p.row.map V.int)):=by rw[ay nr];exact agO
  have a8:upd H7 A.ab (.dK (b_ st.aj A.qs)) acc=some (.dK out):=by rw[ay nab];exact ha7
  have t8:=t6.same bk;refine⟨ha7,?_⟩;rw[e7];generalize upd H7 A.ab (.dK (b_ st.aj A.qs))=H8 at v8 r8 a8 t8 bk ⊢;have t9:=t8.col (c:=(m,20,p.nm)) v8 rfl (t6.g.none Tq) (t6.free Tq);have Pf:=t9.col (c:=(m,21,p.nm)) r8 rfl (by rw[bB (bY hvr)];exact t6.g.none AQ) (t6.free AQ);have ca:cY (cY ρ5 v (m,20,p.nm)) rr (m,21,p.nm) acc=none:=by rw[bB ar,bB av];exact Hz
  have vn:dY out (Sum.inr p.nm)=none:=by rw[eo];refine p5 λp' dN e=>?_;have h2:((st.aj.take (i+1)).map (·.nm)).Nodup:=nd.sublist ((Qa _ _).map _);rw[take_snoc ep,bX]at h2;exact(JB.mp h2).2.2 p.nm (aZ.mpr ⟨p',dN,e⟩) p.nm (eO.mpr rfl) rfl
  have el2:qs.length=(st.aj.take i).length:=by rw[nK];omega
  have WS:putK out (Sum.inr p.nm) (.ref v)=b_ (st.aj.take (i+1)) (qs++[(v,dv,rr)]):=by rw[mF _ vn,take_snoc ep,Ka el2,eo]
  rw[iW (bY nab)];refine⟨upd H8 acc (.dK (putK out (Sum.inr p.nm) (.ref v))),_,qs++[(v,dv,rr)],Z,Pf.wrO ca a8 rfl rfl LF,ca,ai,WS,by rw[c7,ql];rfl,λj p' y' e1 e2=>?_⟩;have wr:∀{b:Addr}{u:HO},H8 b=some u->b≠acc->upd H8 acc (.dK (putK out (Sum.inr p.nm) (.ref v))) b=some u:=λe z=>by rw[ay z];exact e
  rw[take_snoc ep]at e1;by_cases cj:j<i
  .rw [zP (by rw[nK];omega)]at e1;rw[zP (by omega)]at e2;obtain⟨z1,z2,z3,z4⟩:=WR j p' y' e1 e2;have y1:y'.1≠acc:=λe=>by rw[e,Hz]at z3;cases z3
   have y2:y'.2.2≠acc:=λe=>by rw[e,Hz]at z4;cases z4
   exact⟨wr (bk _ _ z1) y1,wr (bk _ _ z2) y2,by rw[bB (aD z1 AQ),bB (aD z1 Tq)];exact z3,by rw[bB (aD z2 AQ),bB (aD z2 Tq)];exact z4⟩
  .have hj:j=i:=by have:=(ee.mp e2).1;rw[c7,ql]at this;have:j<i+1:=this;omega
   subst hj;rw[CL (by rw[nK];omega),nK,show j-min j st.aj.length=0 by omega]at e1;rw[CL (by omega),ql,AY]at e2;cases e1;cases e2;exact⟨wr v8 (bY av),wr r8 (bY ar),by rw[bB hvr,cE],cE⟩
 rintro out Hc ha ⟨H5,ρ5,qs,rfl,t5,Hz,a5,eo,ql,hq⟩;rw[cM]at eo hq;subst eo;refine⟨ai,?_⟩;rw[lG,qU t5.hs.dF];have t6:=t5.col (c:=(m,2,⟨#[]⟩)) a5 rfl Hz LF;have t7:=t6.set (o:=.ins T.hold B2.dx (dU { B2 with ab:=acc })) rfl (t6.ht.aaO t6.g acc st.aj qs a5 cE ql (λi p y e1 e2=>by obtain⟨z1,z2,z3,z4⟩:=hq i p y e1 e2;exact⟨z1,z2,by rw[bB (λe=>by rw[e,Hz]at z3;cases z3)];exact z3,by rw[bB (λe=>by rw[e,Hz]at z4;cases z4)];exact z4⟩)) rfl
 refine⟨_,Z,x,T.hold,B2.dx,_,Z,t5.ea▸t5.ht.oa,X.cH,X.hab,by show 7<1000;decide,?_⟩;show iU _ _ _ _ (upd H5 x (.ins T.hold B2.dx (dU { B2 with ab:=acc })));refine(λ(k:∀(r2:cu) (h2:Hp) (b2:HA),kC T n m ρ H A st x r2 h2 b2 ⟨st.own,st.aj,[],[],[],1,0,[],[]⟩->iU _ _ _ _ h2)=>k _ _ _ t7) ?_;clear t7;intro ρ7 H7 B7 t7;clear t2 t5 t6 hq a5 Hz hacc Jp ha;refine⟨_,Z,A.a,A.dx,_,Z,t7.hs.oa,Z,⟨⟨n,ρ7,A,st,Z,⟨t7.g,t7.hs,hh.wf⟩,λr ws H8 g8 hr0 hr1 hL hF=>?_⟩⟩⟩;have t8:=t7.same g8;obtain⟨ρ9,t9,hA9,Tr⟩:=Vq t8 hL (λb ss _ _ ⟨w,hw,t,xs,e1,e2,e3⟩=>by obtain⟨t',xs',f1,f2,f3⟩:=hF w hw;rw[e1]at f1;cases f1;rw[e2]at f2;cases f2;exact t7.free (f3 b e3).1)
 have cr:ρ9 r=none:=by
  rcases Tr r with z|⟨_,_,w,hw,t,xs,e1,e2,e3⟩
  .rw [z];exact t7.g.none hr0
  .obtain ⟨t',xs',f1,f2,f3⟩:=hF w hw;rw[e1]at f1;cases f1;rw[e2]at f2;cases f2;exact absurd rfl (f3 r e3).2
 have Pf:=t9.col (c:=(m,3,⟨#[]⟩)) hr1 rfl cr (t7.free hr0);have LN:=Pf.set (o:=.ins T.hold B7.dx (dU { B7 with as:=r })) rfl (Pf.ht.aaN Pf.g r st.bO hr1 cE (hA9.keep (ts:=λ_=>true) ⟨λ_ _ e=>e,λb u y w _ hc he=>⟨he,by rw[bB (λz=>by rw[z,cr]at hc;cases hc)];exact hc⟩⟩ rfl)) rfl;refine⟨_,Z,x,T.hold,B7.dx,_,Z,t7.ea▸t8.ht.oa,X.cH,X.has,by show 7<1000;decide,?_⟩;show iU _ _ _ _ (upd H8 x (.ins T.hold B7.dx (dU { B7 with as:=r })));refine(λ(k:∀(r2:cu) (h2:Hp) (b2:HA),kC T n m ρ H A st x r2 h2 b2 ⟨st.own,st.aj,st.bO,[],[],1,0,[],[]⟩->iU _ _ _ _ h2)=>k _ _ _ LN) ?_;clear LN;intro ρ11 K_ WT LN;clear t7 t8 t9 Pf hA9 Tr hL hF hr0 hr1 g8 cr;refine⟨_,Z,A.a,T.hold,A.dx,_,_,Z,LN.hs.oa,X.cH,X.hnm,Z,A.nm,_,Z,LN.hs.nu,λl hl=>?_⟩;obtain⟨e2,ρ12,uy⟩:=LN.fld (k:=4) (B':={ WT with nm:=l }) hl rfl (λh g e c=>h.aaM g l st.nms e c) rfl;refine⟨_,Z,x,T.hold,WT.dx,_,Z,e2,X.cH,X.hnm,by show 7<1000;decide,?_⟩;show iU _ _ _ _ (upd (upd K_ l (.dK (yc st.nms))) x (.ins T.hold WT.dx (dU { WT with nm:=l })));refine(λ(k:∀(r2:cu) (h2:Hp) (b2:HA),kC T n m ρ H A st x r2 h2 b2 ⟨st.own,st.aj,st.bO,st.nms,[],1,0,[],[]⟩->iU _ _ _ _ h2)=>k _ _ _ uy) ?_;clear uy;intro ρ12 H12 Tt uy;clear LN e2 hl;refine⟨_,Z,A.a,T.hold,A.dx,_,_,Z,uy.hs.oa,X.cH,X.wO,Z,A.bt,A.db,_,Z,uy.hs.jb,Z,⟨⟨A.bt,A.db,A.sp,A.kn,st.stp,st.prod,Z,uy.hs.jb,uy.hs.lZ,λb2 d2 s2 k2 Ti g13 hb hs hk n1 n2 n3 e1 e2 e3=>?_⟩⟩⟩;have t13:=uy.same g13;have t14:=t13.col (c:=(m,5,⟨#[]⟩)) e1 rfl (uy.g.none hb) (uy.free hb);have t15:=t14.col (c:=(m,8,⟨#[]⟩)) e2 rfl (by rw[bB (bY n1)];exact uy.g.none hs) (uy.free hs);have WU:=t15.col (c:=(m,9,⟨#[]⟩)) e3 rfl (by rw[bB (bY n3),bB (bY n2)];exact uy.g.none hk) (uy.free hk);have LO:=WU.set (o:=.ins T.hold Tt.dx (dU { Tt with bt:=b2 })) rfl (WU.ht.aaP WU.g b2 d2 s2 k2 st.stp st.prod e1 e2 e3 (by rw[bB n2,bB n1,cE]) (by rw[bB n3,cE]) cE) rfl;refine⟨_,Z,x,T.hold,Tt.dx,_,Z,uy.ea▸t13.ht.oa,X.cH,X.wO,by show 7<1000;decide,?_⟩;show iU _ _ _ _ (upd Ti x (.ins T.hold Tt.dx (dU { Tt with bt:=b2 })));refine(λ(k:∀(r2:cu) (h2:Hp) (b2:HA),kC T n m ρ H A st x r2 h2 b2 ⟨st.own,st.aj,st.bO,st.nms,st.stp,st.prod,0,[],[]⟩->iU _ _ _ _ h2)=>k _ _ _ LO) ?_;clear LO;intro ρ17 Hu WV LO;clear uy t13 t14 t15 WU;refine⟨_,Z,A.a,T.hold,A.dx,_,_,Z,LO.hs.oa,X.cH,X.wQ,Z,A.cm,_,Z,.inl (aI.of LO.hs.iL),λl hl=>?_⟩;obtain⟨f2,WW,Pg⟩:=LO.fld (k:=6) (B':={ WV with cm:=l }) hl rfl (λh g e c=>h.Sk g l st.bD e c) rfl;refine⟨_,Z,x,T.hold,WV.dx,_,Z,f2,X.cH,X.wQ,by show 7<1000;decide,?_⟩;show iU _ _ _ _ (upd (upd Hu l (.lst (st.bD.map V.int))) x (.ins T.hold WV.dx (dU { WV with cm:=l })));refine(λ(k:∀(r2:cu) (h2:Hp) (b2:HA),kC T n m ρ H A st x r2 h2 b2 ⟨st.own,st.aj,st.bO,st.nms,st.stp,st.prod,0,st.bD,[]⟩->iU _ _ _ _ h2)=>k _ _ _ Pg) ?_;clear Pg;intro WW H18 B18 Pg;clear LO f2 hl;refine⟨_,Z,A.a,T.hold,A.dx,_,_,Z,Pg.hs.oa,X.cH,X.zH,Z,A.pu,_,Z,.inl (aI.of Pg.hs.jC),λl hl=>?_⟩;obtain⟨f2,Ph,WX⟩:=Pg.fld (k:=7) (B':={ B18 with pu:=l }) hl rfl (λh g e c=>h.J8 g l st.bH e c) rfl;refine⟨_,Z,x,T.hold,B18.dx,_,Z,f2,X.cH,X.zH,by show 7<1000;decide,_,Z,?_⟩;have:=q Ph _ _ ⟨WX.g,WX.ht,QJ hh.wf (fH _)⟩ WX.k;rw[WX.ea]at this;exact this
abbrev vU:Stmt:=top 26
abbrev iG:List Str:=["_law_script","_law_k","_law_j","_law_many"]
abbrev Nk:List Str:=iG.append ["_law_cell","_law_turn","_law_rest","_law_step","_law_one","_law_two"]
theorem fF:aS Nk iG (aF vU):=dX
theorem LP(F:At K mg "_law_draw" vU f fd)(cg:mg "len"=none)(dw:mg "range"=none):Dn P w K mg base 1 "_law_draw" iG (sP K):=by
 refine F.oA fF λcdv A outer s H vs Q E hr h=>?_;obtain⟨⟨a,ns,k,j,many,rfl,hS,h63,hk,hj,hj2,hm,q⟩⟩:=h;refine⟨_,(@c9.h _ _ _ (ak (a_ (i:=4) fF.nd aq)
  (ak (a_ (i:=5) fF.nd aq)
  (ak (jT (aX jJ (bU (dB K) (by rfl) cg fW (ah (qv 0) au)) aq (bu _)) (ak (a_ (i:=4) fF.nd (aT (dO K) (qv 0) (aP k_ (qv 1) (bU (dB K) (by rfl) cg fW (ah (qv 0) au)))))
  (az (a_ (i:=5) fF.nd (aP jl (qv 1) (bU (dB K) (by rfl) cg fW (ah (qv 0) au)))))) bP)
  (ak (a_ (i:=6) fF.nd (qv 4))
  (ak (fB fV rfl (mL (by rfl) dw (ah (qv 2) au)) (aW (i:=7) fF.nd) (az (a_ (i:=6) fF.nd (aP jl (qv 6) (aP nQ aq aq)))))
  (ak (cW (lH (bW.pt (sY (aX eY (qv 5) aq (bu _)) (sY (aX Jg (qv 4) (aP nQ aq aq) (bu _)) (uP (aX jJ (qv 6) aq (bu _))))))) (az (bF (aP k_ (aP k_ (qv 6) (aP nQ aq aq)) (qv 3)))) bP)
  (ak (a_ (i:=8) fF.nd (aP k_ (aP cU (aP cU (aP cU (aP iJ (qv 4) aq) (aP iJ (qv 1) aq)) (aP iJ (qv 2) aq)) aq) aq))
  (ak (a_ (i:=9) fF.nd (aP k_ (aP cU (aP iJ (qv 8) aq) (aP jl (qv 4) aq)) aq))
  (ak (a_ (i:=9) fF.nd (aP k_ (aP cU (aP iJ (qv 9) (aP cU (aP k_ (qv 8) aq) aq)) (qv 2)) aq))
  (az (bF (aP k_ (aP k_ (aP cU (aP cU (aP iJ (qv 8) aq) (aP iJ (qv 9) aq)) (aP jl (qv 9) aq)) aq) (qv 3)))))))))))))),?_⟩
 have hl:(ns.map V.int).length=ns.length:=aG _;refine⟨λσ H'=>H'=H/\σ=[some (.ref a),some (.int k),some (.int j),some (.int many),some (.int (Jm.cellOf ns k)),some (.int (Jm.z_ ns k)),none,none,none,none],?_,?_⟩
 .refine ⟨_,Z,a,_,Z,.inl hS,_,_,Z,Z,_,Z,?_⟩;refine cI (λc=>?_) (λc=>?_)
  .have c':0<(((ns.map V.int).length:Nat):Int):=eF c;rw[hl]at c';have i0:0<=k % (ns.length:Int):=pM _ (by omega);have i1:k % (ns.length:Int)<(ns.length:Int):=zU _ c';refine⟨_,Z,_,Z,_,Z,a,_,Z,.inl hS,_,_,Z,Z,(by show(0:Int)<_;rw[hl];exact c'),a,_,_,.int (ns.getD (k % ns.length).toNat 0),Z,Z,hS,?_,?_⟩
   .rw [hl];exact XE i0 i1
   refine⟨_,Z,_,Z,a,_,Z,.inl hS,_,_,Z,Z,UJ (n:=10) (by rw[hl];exact c') (by rw[hl];omega) (by decide),Z,?_⟩;unfold Jm.cellOf Jm.z_;rw[aC c',aC c',hl];rfl
  .have c':¬ 0<(((ns.map V.int).length:Nat):Int):=uT (qP.mpr c);rw[hl]at c';refine⟨Z,?_⟩;unfold Jm.cellOf Jm.z_;rw[aB c',aB c'];rfl
 rintro σ H' ⟨rfl,rfl⟩;generalize ec:Jm.cellOf ns k=cell at *;generalize et:Jm.z_ ns k=turn at *;refine⟨_,Z,_,Z,j,Z,by omega,hj2,?_⟩;refine mD (lo:=0) (n:=j.toNat) (λi σ zJ=>zJ=H'/\∃st:Option V,σ=[some (.ref a),some (.int k),some (.int j),some (.int many),some (.int cell),some (.int turn),some (.int (Jm.Dh cell i)),st,none,none]) ⟨Z,none,Z⟩ ?_ ?_
 .rintro i σ zJ hi ⟨rfl,st,rfl⟩;refine⟨_,Z,_,_,Z,Z,⟨by decide,by decide,by decide⟩,_,_,Z,Z,z9 (by decide +kernel),Z,?_⟩;exact⟨_,Z⟩
 rintro σ zJ ⟨rfl,st,rfl⟩;have full:Q (.int (Jm.draw ns k j many)) zJ:=q;unfold Jm.draw at full;rw[ec,et]at full;generalize er:Jm.Dh cell j.toNat=rest at *;refine⟨decide (turn=0/\1000000000000000000<=cell/\0<rest),?_,?_⟩
 .refine ⟨_,Z,Z,_,Z,?_⟩;by_cases h1:turn=0
  .rw [bq (by rw[h1] :V.int turn=V.int 0)];refine nM ⟨_,Z,_,_,Z,Z,⟨by decide,by decide,by decide⟩,_,_,Z,Z,_,Z,?_⟩;by_cases h2:1000000000000000000<=cell
   .rw [bq (show(10:Int) ^ (18:Int).toNat<=cell from h2)];refine nM ⟨_,Z,_,_,Z,Z,_,Z,?_,Z⟩;by_cases h3:0<rest
    .rw [bq h3,bq ⟨h1,h2,h3⟩]
    .rw [dG h3,dG λz=>h3 z.2.2]
   .rw [dG (show ¬ (10:Int) ^ (18:Int).toNat<=cell from h2)];exact bM ⟨(dG λz=>h2 z.2.1).symm,Z⟩
  .rw [dG (λz=>h1 (V.int.inj z))];exact bM ⟨(dG λz=>h1 z.1).symm,Z⟩
 by_cases h:turn=0/\1000000000000000000<=cell/\0<rest
 .rw [bq h];rw[aC h]at full;refine nM ⟨_,Z,_,_,Z,Z,⟨by decide,by decide,by decide⟩,_,_,Z,Z,(by show(0:Int)<_;decide),_,Z,_,_,Z,Z,hm,?_⟩;exact full
 .rw [dG h];rw[aB h]at full;refine bM ?_;refine⟨_,Z,_,_,Z,Z,.inr ⟨by decide,by decide⟩,_,Z,_,_,Z,Z,.inr ⟨by decide,by decide⟩,_,_,Z,Z,_,Z,_,_,Z,Z,.inr ⟨by decide,by decide⟩,_,_,Z,Z,_,_,Z,Z,_,_,Z,Z,(by show(0:Int)<_;decide),?_⟩;refine⟨_,Z,_,_,Z,Z,.inr ⟨by decide,by decide⟩,_,Z,_,_,Z,Z,z9 (by decide +kernel),_,_,Z,Z,_,_,Z,Z,(by show(0:Int)<_;decide),?_⟩;unfold Jm.mixed at full;dsimp only at full ⊢;generalize e1:(cell*7919+k*104729+j*1299709+31) % 1000000007=one at *;generalize e2:(one*48271+cell / 1009) % 998244353=two at *;have b1:0<=one % 9973:=pM _ (by decide);have b2:one % 9973<9973:=zU _ (by decide);refine⟨_,Z,_,Z,_,_,Z,Z,(by show(0:Int)<_;decide),_,_,Z,Z,_,_,Z,Z,.inr ⟨by omega,by omega⟩,_,Z,_,_,Z,Z,_,_,Z,Z,(by show(0:Int)<_;decide),?_⟩;refine⟨_,Z,_,_,Z,Z,.inr ⟨by decide,by decide⟩,_,Z,_,_,Z,Z,.inr ⟨by decide,by decide⟩,_,_,Z,Z,_,Z,_,_,Z,Z,z9 (by decide +kernel),_,_,Z,Z,_,_,Z,Z,(by show(0:Int)<_;decide),_,Z,_,_,Z,Z,hm,?_⟩;exact full
abbrev vV:Stmt:=top 27
abbrev su:List Str:=["_law_code","_law_size"]
abbrev Nl:List Str:=su.append ["_law_word","_law_at_here"]
theorem mZ:aS Nl su (aF vV):=dX
theorem LQ(F:At K mg "_law_name" vV f fd)(dw:mg "range"=none):Dn P w K mg base 1 "_law_name" su EJ:=by
 refine F.oA mZ λcdv A outer s H vs Q E hr h=>?_;obtain⟨⟨c,n,rfl,hc,hn,q⟩⟩:=h;refine⟨_,(@c9.h _ _ _ (ak (a_ (i:=2) mZ.nd bQ)
  (ak (fB fV rfl (mL (by rfl) dw (ah (qv 1) au)) (aW (i:=3) mZ.nd) (ak (a_ (i:=2) mZ.nd (aP Qk (qv 2) (aT RI bQ (aP k_ (qv 0) aq))))
  (az (a_ (i:=0) mZ.nd (aP jl (qv 0) aq)))))
  (az (bF (qv 2)))))),?_⟩
 refine⟨_,Z,_,Z,by omega,by omega,?_⟩;refine mD (lo:=0) (n:=(n:Int).toNat) (λi σ H'=>H'=H/\∃(s1:Option V),σ=[some (.int (c / 26 ^ i)),some (.int n),some (.str (tx (lX c i))),s1]) ⟨Z,none,by rw[Int.pow_zero,CW];rfl⟩ ?_ ?_
 .rintro i σ H' hi ⟨rfl,s1,rfl⟩;have hp:(0:Int)<26 ^ i:=Int.pow_pos (by decide);have hd0:0<=c / 26 ^ i:=Ja hc (Int.le_of_lt hp);have hm0:0<=c / 26 ^ i % 26:=pM _ (by decide);have hm1:c / 26 ^ i % 26<26:=zU _ (by decide);refine⟨_,Z,_,Z,_,_,Z,Z,(by show(0:Int)<26;decide),_,_,_,Z,Z,(by decide +kernel),R7 hm0 hm1,?_⟩;refine⟨_,_,Z,Z,?_,?_⟩
  .rw [Ad,yH];show i+1<=sizeLine;exact CV (dI (by omega))
  refine⟨_,Z,_,_,Z,Z,yE (by decide) (pT (by decide +kernel)),Z,some (.int ((0:Int)+(i:Int))),?_⟩;have e1:c / 26 ^ i / 26=c / 26 ^ (i+1):=by rw[Int.ediv_ediv_of_nonneg (Int.le_of_lt hp),Int.pow_succ]
  have e2:(tx (lX c i)++tx [97+(c / 26 ^ i % 26).toNat] :Str)=tx (lX c (i+1)):=by rw[ZR,UQ]
  rw[<-e1,<-e2];rfl
 rintro σ H' ⟨rfl,s1,rfl⟩;refine⟨_,Z,?_⟩;rw[uU];exact q
abbrev uh:Stmt:=top 28
abbrev qz:List Str:=["_law_script","_law_k","_law_many"]
abbrev LR:List Str:=qz.append ["_law_alike","_law_size","_law_first","_law_shift","_law_at_here","_law_names_here","_law_code"]
theorem dS:aS LR qz (aF uh):=dX
theorem Ih(F:At K mg "_law_names" uh f fd)(bg:Dn P w K mg base 1 "_law_draw" iG (sP K))(sy:Dn P w K mg base 1 "_law_name" su EJ)(dw:mg "range"=none):Dn P w K mg base 2 "_law_names" qz (EK K):=by
 refine F.oA dS λcdv A outer s H vs Q E hr h=>?_;obtain⟨⟨a,ms,k,many,rfl,hS,h63,hk,hm,q⟩⟩:=h;refine⟨_,(@c9.h _ _ _ (ak (a_ (i:=3) dS.nd (Bl eY (bL bg hr (ah (qv 0) (ah (qv 1) (ah aq (ah aq au))))) aq (bu _)))
  (ak (a_ (i:=4) dS.nd (aP cU aq (bL bg hr (ah (qv 0) (ah (qv 1) (ah aq (ah aq au)))))))
  (ak (a_ (i:=5) dS.nd (bL bg hr (ah (qv 0) (ah (qv 1) (ah aq (ah (aP nQ aq aq) au))))))
  (ak (a_ (i:=6) dS.nd aq)
  (ak (jT (Az (qv 3)) (az (fB fV rfl (mL (by rfl) dw (ah (bL bg hr (ah (qv 0) (ah (qv 1) (ah aq (ah (qv 4) au))))) au)) (aW (i:=7) dS.nd) (az (a_ (i:=6) dS.nd (aP iJ (qv 6) aq))))) bP)
  (ak (a_ (i:=8) dS.nd (ia au))
  (ak (fB fV rfl (mL (by rfl) dw (ah (qv 2) au)) (aW (i:=7) dS.nd) (ak (a_ (i:=9) dS.nd (aP cU (qv 5) (aP iJ (qv 6) (bL bg hr (ah (qv 0) (ah (qv 1) (ah (aP cU aq (aP iJ aq (qv 7))) (ah aq au))))))))
  (ak (jT (KO (Az (qv 3))) (ak (a_ (i:=4) dS.nd (aP cU aq (bL bg hr (ah (qv 0) (ah (qv 1) (ah (aP cU aq (aP iJ aq (qv 7))) (ah aq au)))))))
  (az (a_ (i:=9) dS.nd (bL bg hr (ah (qv 0) (ah (qv 1) (ah (aP cU aq (aP iJ aq (qv 7))) (ah (aP nQ aq aq) au)))))))) bP)
  (ak (KJ fV (aX Gq (bL sy hr (ah (qv 9) (ah (qv 4) au))) (qv 8) (by with_unfolding_all rfl)) (az (a_ (i:=9) dS.nd (aP cU (qv 9) (qv 6)))))
  (az (b9 (jy lQ nG nH ef (qv 8) (ah (bL sy hr (ah (qv 9) (ah (qv 4) au))) au))))))))
  (az (bF (qv 8))))))))))),?_⟩
 have P10:Up 10 10:=⟨by decide,by decide,by decide +kernel⟩
 refine⟨_,Z,_,Z,c_ hS h63 hk (by decide) (by decide) (by decide) λal _ _ _=>⟨Z,?_⟩⟩;refine⟨_,Z,_,Z,c_ hS h63 hk (by decide) (by decide) (by decide) λsd _ s0 s1=>⟨_,_,Z,Z,?_⟩⟩;refine⟨_,Z,_,Z,_,_,Z,Z,P10,c_ hS h63 hk (by decide) (by decide) (by decide +kernel) λfc _ f0 f1=>?_⟩;generalize hal:decide (V.int al=V.int 0)=alike;obtain⟨n0,en0⟩:∃n:Nat,1+sd=(n:Int):=⟨(1+sd).toNat,by omega⟩
 refine⟨λσ H'=>H'=H/\∃(d:Nat)(s7:Option V),(alike=true->d<n0)/\(alike=false->d=0)/\d<8/\σ=[some (.ref a),some (.int k),some (.int many),some (.bl alike),some (.int (1+sd)),some (.int fc),some (.int ((26:Int) ^ d)),s7,none,none],?_,?_⟩
 .refine ⟨_,Z,_,Z,cI (λc=>?_) (λc=>?_)⟩
  .refine ⟨_,Z,_,Z,_,Z,c_ hS h63 hk (by decide) (by decide) (by omega) λdd _ d0 d1=>⟨dd,Z,by omega,by omega,?_⟩⟩;refine mD (lo:=0) (n:=dd.toNat) (λi σ H'=>H'=H/\∃s7:Option V,σ=[some (.ref a),some (.int k),some (.int many),some (.bl alike),some (.int (1+sd)),some (.int fc),some (.int ((26:Int) ^ i)),s7,none,none]) ⟨Z,none,Z⟩ ?_ ?_
   .rintro i σ H' hi ⟨rfl,s7,rfl⟩;refine⟨_,Z,_,_,Z,Z,.inr ⟨by decide,by decide⟩,Z,some (.int ((0:Int)+(i:Int))),?_⟩;rw[Int.pow_succ];rfl
   .rintro σ H' ⟨rfl,s7,rfl⟩;exact⟨Z,dd.toNat,s7,λ_=>by omega,λz=>absurd c (by rw[z];exact iH),by omega,Z⟩
  .exact ⟨Z,0,none,λz=>absurd z c,λ_=>rfl,by decide,Z⟩
 rintro σ H' ⟨rfl,d,s7,hd1,hd2,hd8,rfl⟩;refine⟨(gZ 0),λpn hpn=>?_⟩;have g0:=aH hpn (.lst []);refine⟨_,Z,(many:Int),Z,by omega,by omega,?_⟩;refine mD (lo:=0) (n:=(many:Int).toNat) (λi σ H2=>aR H' H2/\∃(nss:List (List Nat))(n:Nat)(s1 s2:Option V),d<n/\n<=8/\σ=[some (.ref a),some (.int k),some (.int many),some (.bl alike),some (.int (n:Int)),some (.int fc),some (.int ((26:Int) ^ d)),s1,some (.ref pn),s2]/\H2 pn=some (.lst (sR nss))/\nss.length=i/\nss.Nodup/\∀x∈nss,pU x)
  ⟨g0,[],n0,s7,none,?_,by omega,by rw[<-en0];rfl,ai,Z,uC,λ_ m=>nomatch m⟩ ?_ ?_
 .cases alike with
  | true=>exact hd1 rfl
  | false=>rw[hd2 rfl];omega
 .rintro i σ H2 hi ⟨g,nss,n,s1,s2,hdn,Pj,rfl,hn,hnl,hnd,hok⟩;have hsl:(sR nss).length=i:=by unfold sR;rw[aG];exact hnl
  have hSg:=g.seq hS;have hp:(0:Int)<26 ^ d:=Int.pow_pos (by decide);have hp8:(26:Int) ^ d<2 ^ 64:=by rcases(by omega:d=0\/d=1\/d=2\/d=3\/d=4\/d=5\/d=6\/d=7)with e|e|e|e|e|e|e|e <;> (rw[e];decide +kernel)
  refine⟨_,Z,_,Z,_,Z,_,Z,_,Z,_,_,Z,Z,.inl ⟨by decide,by decide⟩,_,_,Z,Z,c_ hSg h63 hk (by omega) (by omega) (by decide) λcd _ c0 c1=>⟨_,_,Z,Z,.inl ⟨by omega,hp8⟩,_,_,Z,Z,?_⟩⟩;have hcode:0<=fc+26 ^ d*cd:=Int.add_nonneg f0 (rR (Int.le_of_lt hp) c0);refine⟨λσ H3=>H3=H2/\∃(n:Nat)(c:Int),0<=c/\d<n/\n<=8/\σ=[some (.ref a),some (.int k),some (.int many),some (.bl alike),some (.int (n:Int)),some (.int fc),some (.int ((26:Int) ^ d)),some (.int ((0:Int)+(i:Int))),some (.ref pn),some (.int c)],?_,?_⟩
  .refine ⟨_,Z,_,Z,?_⟩;cases hb:alike with
   | true=>exact bM ⟨Z,n,_,hcode,hdn,Pj,Z⟩
   | false=>refine nM ?_;have hd0:=hd2 hb;refine⟨_,Z,_,Z,_,Z,_,_,Z,Z,.inl ⟨by decide,by decide⟩,_,_,Z,Z,c_ hSg h63 hk (by omega) (by omega) (by decide) λzd _ z0 z1=>⟨_,_,Z,Z,?_⟩⟩;refine⟨_,Z,_,Z,_,Z,_,_,Z,Z,.inl ⟨by decide,by decide⟩,_,_,Z,Z,_,_,Z,Z,P10,c_ hSg h63 hk (by omega) (by omega) (by decide +kernel) λcd2 _ e0 _=>?_⟩;refine⟨Z,(1+zd).toNat,cd2,e0,by omega,by omega,?_⟩;rw[show(((1+zd).toNat:Nat):Int)=1+zd from by omega];rfl
  clear hdn Pj hcode;rintro σ H3 ⟨rfl,n,xr,cc0,hdn,Pj,rfl⟩;refine⟨λm σ H4=>H4=H3/\∃t:Nat,m=nss.length+1-t/\t<=nss.length/\σ=[some (.ref a),some (.int k),some (.int many),some (.bl alike),some (.int (n:Int)),some (.int fc),some (.int ((26:Int) ^ d)),some (.int ((0:Int)+(i:Int))),some (.ref pn),some (.int (xr+(t:Int)*26 ^ d))]/\∀j:Nat,j<t->lX (xr+(j:Int)*26 ^ d) n∈nss,
   ⟨_,Z,0,Z,fH _,by rw[show xr+((0:Nat):Int)*26 ^ d=xr from by simp],λj hj=>absurd hj (Nat.not_lt_zero _)⟩,?_⟩
  rintro m σ H4 ⟨rfl,t,rfl,ht,rfl,htr⟩;have hct:0<=xr+(t:Int)*26 ^ d:=Int.add_nonneg cc0 (rR (by omega) (Int.le_of_lt hp));refine⟨_,Z,_,Z,J1 rfl hct (by omega) ?_⟩;refine⟨_,Z,pn,_,Z,.inl (aI.of hn),Z,US nss,?_⟩;show Rx _ (V.bl (if false=true then !C9 (.str (tx (lX (xr+(t:Int)*26 ^ d) n))) (sR nss) else C9 (.str (tx (lX (xr+(t:Int)*26 ^ d) n))) (sR nss))) _;rw[aB iH,Ou];refine⟨_,Z,cI (λc=>?_) (λc=>?_)⟩
  .have hmem:lX (xr+(t:Int)*26 ^ d) n∈nss:=eF c;have abw:∀j:Nat,j<t+1->lX (xr+(j:Int)*26 ^ d) n∈nss:=λj hj=>by
    rcases Nat.lt_succ_iff_lt_or_eq.mp hj with z|z
    .exact htr j z
    .rw [z];exact hmem
   have hle:=Sa (c:=xr) (n:=n) (t:=t+1) hdn (by omega) abw;refine⟨_,λ_ _ z=>z,?_⟩;refine⟨_,Z,_,Z,_,_,Z,Z,?_⟩;refine⟨_,(by omega:nss.length+1-(t+1)<nss.length+1-t),Z,t+1,Z,hle,?_,abw⟩;rw[show xr+((t+1:Nat):Int)*26 ^ d=xr+(t:Int)*26 ^ d+26 ^ d from by rw[Int.natCast_add,j9];show _+(_+1*_)=_;rw[Int.one_mul,Int.add_assoc]];rfl
  .have hnm:lX (xr+(t:Int)*26 ^ d) n∉nss:=uT (qP.mpr c);refine⟨_,Z,.inl ⟨Z,_,aI.of hn⟩,?_⟩;refine⟨_,Z,_,Z,J1 rfl hct (by omega) ?_⟩;refine⟨pn,sR nss,_,Z,Z,hn,dI (by omega),g.c8 hpn _,nss++[lX (xr+(t:Int)*26 ^ d) n],n,_,_,hdn,Pj,Z,?_,?_,o_ hnd hnm,λx hx=>?_⟩
   .rw [ai];unfold sR;rw[bX];rfl
   .rw [c7,hnl];rfl
   .rcases fq.mp hx with z|z
    .exact hok x z
    .rw [eO.mp z];exact ZV _ (by omega) Pj
 rintro σ H2 ⟨g,nss,n,s1,s2,hdn,Pj,rfl,hn,hnl,hnd,hok⟩;exact⟨_,Z,q pn nss H2 g hn hpn (by omega) hnd hok⟩
abbrev vW:Stmt:=top 29
abbrev sH:List Str:=["_law_owners"]
abbrev Nm:List Str:=sH
theorem LU:aS Nm sH (aF vW):=dX
theorem LV(F:At K mg "_law_lite" vW f fd)(fQ:mg "list"=none):Dn P w K mg base 1 "_law_lite" sH (SR K):=by
 refine F.oA LU λcdv A outer s H vs Q E hr h=>?_;obtain⟨⟨l,own,n,ρ,rfl,hl,G,hle,q⟩⟩:=h;refine⟨_,(@c9.h _ _ _ (az (bF (Yj (Cg bQ (iO (jD K) (by rfl) fQ zR (ah (qv 0) au)) (Cg bQ (ia au) (Cg bQ (ia au) Yh))) (by rfl) (by rfl) (λz=>nomatch z) (by with_unfolding_all decide))))),?_⟩;intro m hm;have g0:=aH hm (.dK []);have em0:upd H m (.dK []) m=some (.dK []):=ai;have qm:=g0.seq hl;generalize upd H m (.dK [])=H0 at *;refine⟨_,Z,l,_,Z,.inl qm,λlo hlo=>?_⟩;have g1:=aH hlo (.lst (own.map V.str));have eo1:upd H0 lo (.lst (own.map V.str)) lo=some (.lst (own.map V.str)):=ai;have em1:=g1 _ _ em0;generalize upd H0 lo (.lst (own.map V.str))=H1 at *;refine⟨(gZ 0),λlp vX=>?_⟩;have g2:=aH vX (.lst []);have ep2:upd H1 lp (.lst []) lp=some (.lst []):=ai;have WS:=g2 _ _ eo1;have em2:=g2 _ _ em1;show C_ _ _ (upd H1 lp (.lst [])) _;generalize upd H1 lp (.lst [])=H2 at *;refine⟨(gZ 0),λlk hlk=>?_⟩;have g4:=aH hlk (.lst []);have ek4:upd H2 lk (.lst []) lk=some (.lst []):=ai;have ep4:=g4 _ _ ep2;have eo4:=g4 _ _ WS;have em4:=g4 _ _ em2;show upd H2 lk (.lst []) m=_/\_;generalize upd H2 lk (.lst [])=H4 at *;have gA:=((g0.trans g1).trans g2).trans g4;have n1:lo≠m:=λe=>by rw[e,em0]at hlo;cases hlo
 have n2:lp≠m:=λe=>by rw[e,em1]at vX;cases vX
 have n3:lp≠lo:=λe=>by rw[e,eo1]at vX;cases vX
 have n7:lk≠m:=λe=>by rw[e,em2]at hlk;cases hlk
 have n8:lk≠lo:=λe=>by rw[e,WS]at hlk;cases hlk
 have n9:lk≠lp:=λe=>by rw[e,ep2]at hlk;cases hlk
 refine⟨em4,[(Sum.inr "owners",.ref lo),(Sum.inr "parts",.ref lp),(Sum.inr "known",.ref lk)],Z,by show 3<=15;decide,?_⟩;have eK:x8 [] [(Sum.inr "owners",.ref lo),(Sum.inr "parts",.ref lp),(Sum.inr "known",.ref lk)]=jU ⟨m,lo,lp,lk,[]⟩:=rfl;rw[eK];have u1:upd H4 m (.dK (jU ⟨m,lo,lp,lk,[]⟩)) m=some (.dK (jU ⟨m,lo,lp,lk,[]⟩)):=ai;have u2:upd H4 m (.dK (jU ⟨m,lo,lp,lk,[]⟩)) lo=some (.lst (own.map V.str)):=by rw[ay n1];exact eo4
 have u3:upd H4 m (.dK (jU ⟨m,lo,lp,lk,[]⟩)) lp=some (.lst []):=by rw[ay n2];exact ep4
 have u5:upd H4 m (.dK (jU ⟨m,lo,lp,lk,[]⟩)) lk=some (.lst []):=by rw[ay n7];exact ek4
 have G4:=(G.same gA).wr (a:=m) (o:=.dK (jU ⟨m,lo,lp,lk,[]⟩)) rfl;have hz:∀b o,H b=some o->upd H4 m (.dK (jU ⟨m,lo,lp,lk,[]⟩)) b=some o:=λb o e=>by rw[ay (λz=>by rw[z,hm]at e;cases e)];exact gA _ _ e
 have y1:H lo=none:=g0.free hlo;have y2:H lp=none:=(g0.trans g1).free vX;have y4:H lk=none:=((g0.trans g1).trans g2).free hlk;generalize upd H4 m (.dK (jU ⟨m,lo,lp,lk,[]⟩))=H5 at *;refine q (cY (cY (cY (cY ρ m (n,40,nx)) lo (n,41,nx)) lp (n,42,nx)) lk (n,43,nx)) ⟨m,lo,lp,lk,[]⟩ H5 ((((G4.color u1 rfl).color u2 rfl).color u3 rfl).color u5 rfl) ⟨u1,?_,u2,?_,u3,?_,u5,cE,uC,Z,λi p q e=>by simp at e⟩ (λb o e=>⟨hz b o e,?_⟩)
 .show cY _ lk _ m=_;rw[bB (bY n7),bB (bY n2),bB (bY n1),cE]
 .show cY _ lk _ lo=_;rw[bB (bY n8),bB (bY n3),cE]
 .show cY _ lk _ lp=_;rw[bB (bY n9),cE]
 .rw [bB (aD e y4),bB (aD e y2),bB (aD e y1),bB (aD e hm)]
abbrev vY:Stmt:=top 30
abbrev nY:List Str:=["_law_script","_law_k","_law_j"]
abbrev Nn:List Str:=nY.append ["_law_size"]
theorem AU:aS Nn nY (aF vY):=dX
theorem LW(F:At K mg "_law_much" vY f fd)(bg:Dn P w K mg base 1 "_law_draw" iG (sP K)):Dn P w K mg base 2 "_law_much" nY (Dl K):=by
 refine F.oA AU λcdv A outer s H vs Q E hr h=>?_;obtain⟨⟨a,ns,k,j,rfl,hS,h63,hk,hj,hj2,q⟩⟩:=h;refine⟨_,(@c9.h _ _ _ (ak (a_ (i:=3) AU.nd (aT (dO K) (ia (ah aq (ah aq (ah aq (ah (aP nQ aq aq) au))))) (bL bg hr (ah (qv 0) (ah (qv 1) (ah (qv 2) (ah aq au)))))))
  (az (bF (aP cU aq (bL bg hr (ah (qv 0) (ah (qv 1) (ah (aP cU (qv 2) aq) (ah (qv 3) au)))))))))),?_⟩
 refine⟨_,_,Z,Z,⟨by decide,by decide,by decide⟩,(gZ 4),λp1 hp1=>?_⟩;have g1:=aH hp1 (.lst [V.int 9,V.int 40,V.int 1000,V.int (10 ^ (9:Int).toNat)]);refine⟨_,Z,_,Z,_,Z,c_ (g1.seq hS) h63 hk hj (by omega) (by decide) λd _ d0 d1=>?_⟩;obtain⟨B,hB,hB0,hB1⟩:∃B:Int,sO [V.int 9,V.int 40,V.int 1000,V.int (10 ^ (9:Int).toNat)] d=some (.int B)/\0<B/\B<=1000000000:=by
  rcases(by omega:d=0\/d=1\/d=2\/d=3)with e|e|e|e
  .exact ⟨9,by rw[e];rfl,by decide,by decide⟩
  .exact ⟨40,by rw[e];rfl,by decide,by decide⟩
  .exact ⟨1000,by rw[e];rfl,by decide,by decide⟩
  .exact ⟨10 ^ (9:Int).toNat,by rw[e];rfl,by decide,by decide⟩
 refine⟨p1,_,_,_,Z,Z,aI.of ai,hB,?_⟩;refine⟨_,Z,_,Z,_,Z,_,_,Z,Z,_,Z,c_ (g1.seq hS) h63 hk (by omega) (by omega) hB0 λe _ e0 e1=>⟨_,_,Z,Z,?_⟩⟩;exact q (1+e) _ (by omega) (by omega) g1
abbrev vZ:Stmt:=top 31
abbrev nZ:List Str:=["_law_script","_law_k","_law_parts"]
abbrev Np:List Str:=nZ.append ["_law_spare","_law_order","_law_rows_here","_law_at_here","_law_way","_law_amount"]
theorem f7:aS Np nZ (aF vZ):=dX
theorem LX(F:At K mg "_law_rows" vZ f fd)(bg:Dn P w K mg base 1 "_law_draw" iG (sP K))(cg:mg "len"=none)(dw:mg "range"=none)(fQ:mg "list"=none)(kZ:mg "sum"=none)(xu:mg "min"=none):Dn P w K mg base 2 "_law_rows" nZ (EY K):=by
 refine F.oA f7 λcdv A outer s H vs Q E hr h=>?_;obtain⟨⟨a,l,ns,k,us,ws,rfl,hS,h63,hk0,hk1,hl,hW,nd,hle,hw1,q⟩⟩:=h;refine⟨_,(@c9.h _ _ _ (ak (a_ (i:=3) f7.nd (aP mE (bU (Ac K rfl) (by rfl) kZ Js (ah (kq ["_law_part"] [none] rfl (dZ K (qv 2)) (λ_ _ _ _=>(aW (i:=0) (show List.Nodup (["_law_part"] :List Str)from by decide +kernel))) (λ_ _ _ _=>(aT (iR K) (qv 0) aq)) rfl (by rfl)) au)) aq))
  (ak (a_ (i:=4) f7.nd (iO (HD rfl) (by rfl) fQ zR (ah (SH (by rfl) dw (ah (bU (dB K) (by rfl) cg fW (ah (qv 2) au)) au)) au)))
  (ak (jT (aX eY (bL bg hr (ah (qv 0) (ah (qv 1) (ah aq (ah aq au))))) aq (bu _)) (az (a_ (i:=4) f7.nd (aas K (qv 4) (Wt Rv aq)))) bP)
  (ak (a_ (i:=5) f7.nd (ia au))
  (ak (fB fV rfl (dZ K (qv 4)) (aW (i:=6) f7.nd) (ak (a_ (i:=7) f7.nd (bL bg hr (ah (qv 0) (ah (qv 1) (ah (aP cU aq (aP iJ aq (qv 6))) (ah aq au))))))
  (ak (a_ (i:=8) f7.nd (bU (SA rfl) (by rfl) xu PN (ah (aT (iR K) (aT (dO K) (qv 2) (qv 6)) aq) (ah (qv 3) (ah (aP nQ aq aq) au)))))
  (ak (jT (lH (bW.pt (sY (aX eY (qv 7) aq (bu _)) (uP (aX jJ (qv 8) aq (bu _)))))) (az (a_ (i:=8) f7.nd (aP cU aq (bL bg hr (ah (qv 0) (ah (qv 1) (ah (aP cU aq (aP iJ aq (qv 6))) (ah (qv 8) au)))))))) bP)
  (az (jT (lH (bW.pt (sY (aX jJ (qv 7) aq (bu _)) (uP (aX jJ (qv 8) aq (bu _)))))) (ak (b9 (jy lQ nG nH ef (qv 5) (ah (h_ (ah (aT (iR K) (aT (dO K) (qv 2) (qv 6)) aq) (ah (qv 8) au))) au)))
  (az (a_ (i:=3) f7.nd (aP mE (qv 3) (qv 8))))) bP))))))
  (az (bF (qv 5))))))))),?_⟩
 have ll:=hW.len;refine⟨_,Z,l,Z,⟨_,hl⟩,λl0 qm=>?_⟩;refine lg (J:=zx K l) (n:=us.length) 0 (λi o H'=>aR H H'/\o=((ws.take i).map (λr:Row=>r.2)).map V.int) (by omega) ⟨aH qm _,Z⟩ (λi o H' hi _ hp=>⟨_,_,hp.1.seq hl,bK hi⟩) (λo H' _ hp=>⟨_,hp.1.seq hl,aO _⟩) ?_ ?_
 .rintro i y o H2 H3 hi gc ha ⟨g,e⟩ ⟨rfl,hy⟩;have hiw:i<ws.length:=by omega
  have ei:=bK hiw;obtain⟨ar,xs,ea,BK,x0,x2⟩:=hW.at_ i _ ei;have ey:=hy _ (g.seq hl);rw[ea]at ey;cases ey;refine⟨_,Z,(g.sq BK).ix (i:=2) x2 ?_⟩;refine⟨ha,g.c8 qm _,?_⟩;subst e;rw[take_snoc ei,bX,bX];rfl
 rintro o1 H1 _ ha ⟨g1,e⟩;rw[ll,cM]at e;subst e;refine⟨l0,ws.map (λr:Row=>r.2),Z,aI.of ha,_,_,Z,Z,?_⟩;show uG 3 (.int (aQ ws-1)) _ _ _;refine⟨_,Z,l,_,Z,.inl (g1.seq hl),_,Z,λpr hpr=>?_⟩;refine⟨pr,ws.length,Z,?_,by omega,λpo WO=>?_⟩
 .rw [ai,ll]
 have gA:=(aH hpr (.xV 0 ((us.length:Nat):Int))).trans (aH WO (.lst ((L2.upTo ws.length).map V.int)));have gB:=g1.trans gA;have hord:upd (upd H1 pr (.xV 0 ((us.length:Nat):Int))) po (.lst ((L2.upTo ws.length).map V.int)) po=some (.lst ((L2.upTo ws.length).map V.int)):=ai;generalize upd (upd H1 pr (.xV 0 ((us.length:Nat):Int))) po (.lst ((L2.upTo ws.length).map V.int))=H2 at *;have ndo:(L2.upTo ws.length).Nodup:=by unfold L2.upTo;refine List.Pairwise.map _ (λx y h e=>h (by omega)) List.nodup_range
 have xV:∀x∈L2.upTo ws.length,0<=x/\x<(ws.length:Int):=λx hx=>by unfold L2.upTo at hx;obtain⟨i,hi,rfl⟩:=aZ.mp hx;have:=yu.mp hi;omega
 have lup:(L2.upTo ws.length).length=ws.length:=by unfold L2.upTo;rw[aG,List.length_range]
 refine⟨λσ H3=>aR H H3/\∃(pq:Addr)(os:List Int),σ=[some (.ref a),some (.int k),some (.ref l),some (.int (aQ ws-1)),some (.ref pq),none,none,none,none]/\H3 pq=some (.lst (os.map V.int))/\os.Nodup/\os.length=ws.length/\∀x∈os,0<=x/\x<(ws.length:Int),?_,?_⟩
 .refine ⟨_,Z,_,Z,c_ (gB.seq hS) h63 hk0 (by decide) (by decide) (by decide) λd _ d0 d1=>⟨Z,_,Z,cI (λc=>?_) (λc=>?_)⟩⟩
  .refine ⟨_,Z,_,Z,Z,po,_,Z,aI.of hord,λpz hpz=>?_⟩;have g3:=aH hpz (.lst ((L2.upTo ws.length).map V.int).reverse);exact⟨gB.trans g3,pz,(L2.upTo ws.length).reverse,Z,by rw[ai,List.map_reverse],List.pairwise_reverse.mpr (List.Pairwise.imp (λh=>bY h) ndo),by rw[List.length_reverse,lup],λx hx=>xV x (List.mem_reverse.mp hx)⟩
  .exact ⟨gB,po,L2.upTo ws.length,Z,hord,ndo,lup,xV⟩
 rintro σ H3 ⟨g3,pq,os,rfl,hos,hnd,gc,hrg⟩;refine⟨(gZ 0),λz hz=>?_⟩;have g4:=aH hz (.lst []);have hzz:upd H3 z (.lst []) z=some (.lst []):=ai;have aby:=g4 _ _ hos;have nz:pq≠z:=λe=>by rw[e,hz]at hos;cases hos
 have hzH:H z=none:=g3.free hz;have g34:=g3.trans g4;show iU _ _ _ _ (upd H3 z (.lst []));generalize upd H3 z (.lst [])=H4 at *;have w1:ws≠[]->1<=aQ ws:=λhne=>by
  cases ws with
  | nil=>exact absurd rfl hne
  | cons r rs=>have h1:=hw1 r cN;have h2:=qZ (rs:=rs) λx hx=>hw1 x (b7 _ hx);rw[show aQ (r::rs)=r.2+aQ rs from by unfold aQ;rw[bz,dg]];omega
 refine⟨_,Z,pq,Z,⟨_,aI.of aby⟩,?_⟩;refine jj (K:=K) (xs:=os.map V.int) (λi σ H'=>aR H H'/\H' pq=some (.lst (os.map V.int))/\∃(zs:List V)(rs:List Row)(sp:Int)(s6 s7 s8:Option V),σ=[some (.ref a),some (.int k),some (.ref l),some (.int sp),some (.ref pq),some (.ref z),s6,s7,s8]/\H' z=some (.lst zs)/\dH H' zs rs/\rs.length<=i/\(rs.map (λr:Row=>r.1)).Nodup/\
   sp=aQ ws-1-aQ rs/\(ws≠[]->0<=sp)/\∀r∈rs,1<=r.2/\r.2<=1000000000/\∃j:Nat,((j:Nat):Int)∈os.take i/\∃w,ws[j]?=some w/\w.1=r.1/\r.2<=w.2)
  ⟨g34,aby,[],[],aQ ws-1,none,none,none,Z,hzz,.nil,aO _,uC,by show _=aQ ws-1-0;omega,λhne=>by have:=w1 hne;omega,λr hr=>absurd hr (by simp)⟩ ?_ ?_ ?_
 .rintro i σ H' _ ⟨_,h,_⟩;exact aI.of h
 .rintro i x σ H5 hx ⟨g5,hq5,zs,rs,sp,s6,s7,s8,rfl,Pk,hR,hrl,WY,uY,Q9,xN⟩;rw[cK]at hx;obtain⟨at',hat,rfl⟩:=nI.mp hx;have hio:=(ee.mp hat).1;obtain⟨t0,t1⟩:=hrg at' (cC hat);obtain⟨jt,hjt⟩:∃jt:Nat,((jt:Nat):Int)=at':=⟨at'.toNat,by omega⟩
  subst hjt;have hjl:jt<ws.length:=by omega
  have hne:ws≠[] :=λe=>by rw[e]at hjl;simp at hjl
  have agP:=Q9 hne;have hnot:((jt:Nat):Int)∉os.take i:=λm=>by obtain⟨j,hj,ej⟩:=List.mem_iff_getElem.mp m;rw[List.getElem_take]at ej;rw[nK]at hj;have e2:=(ee.mp hat).2;have:=(List.getElem_inj hnd).mp (ej.trans e2.symm);omega
  have ej:=bK hjl;have hwj:=hw1 _ (cC ej);generalize ws[jt]=wj at *;obtain⟨ar,xs,ea,BK,x0,x2⟩:=hW.at_ jt _ ej;refine⟨_,Z,_,Z,_,Z,_,_,Z,Z,.inl ⟨by decide,by decide⟩,_,_,Z,Z,c_ (g5.seq hS) h63 hk0 (by omega) (by omega) (by decide) λway _ v0 v1=>?_⟩;refine⟨_,Z,_,Z,l,_,_,_,Z,Z,g5.seq hl,aM ea,(g5.sq BK).ix (i:=2) x2 ?_⟩;refine⟨_,Z,_,_,Z,Z,⟨by decide,by decide,by decide⟩,_,_,_,Z,?_⟩;obtain⟨m1,m2,m3⟩:=Yc wj.2 sp ((10:Int) ^ (9:Int).toNat);have m0:0<=vm wj.2 sp ((10:Int) ^ (9:Int).toNat):=Yd (by omega) agP (by decide);have m3:vm wj.2 sp ((10:Int) ^ (9:Int).toNat)<=1000000000:=m3;generalize vm wj.2 sp ((10:Int) ^ (9:Int).toNat)=m at *;refine⟨λσ H6=>H5=H6/\∃m:Int,0<=m/\m<=sp/\m<=wj.2/\m<=1000000000/\σ=[some (.ref a),some (.int k),some (.ref l),some (.int sp),some (.ref pq),some (.ref z),some (.int (jt:Int)),some (.int way),some (.int m)],?_,?_⟩
  .refine ⟨decide (way=2/\0<m),?_,?_⟩
   .refine ⟨_,Z,Z,_,Z,?_⟩;by_cases h1:way=2
    .rw [bq (by rw[h1] :V.int way=V.int 2)];refine nM ⟨_,Z,_,_,Z,Z,_,Z,?_,Z⟩;by_cases h2:0<m
     .rw [bq h2,bq ⟨h1,h2⟩]
     .rw [dG h2,dG λz=>h2 z.2]
    .rw [dG (λz=>h1 (V.int.inj z))];exact bM ⟨(dG λz=>h1 z.1).symm,Z⟩
   refine cI (λc=>?_) (λc=>?_)
   .obtain ⟨_,c2⟩:=eF c;refine⟨_,Z,_,Z,_,Z,_,_,Z,Z,.inl ⟨by decide,by decide⟩,_,_,Z,Z,_,Z,c_ (g5.seq hS) h63 hk0 (by omega) (by omega) c2 λd _ d0 d1=>⟨_,_,Z,Z,Z,1+d,by omega,by omega,by omega,by omega,Z⟩⟩
   .exact ⟨Z,m,m0,m2,m1,m3,Z⟩
  rintro σ H6 ⟨rfl,o,o0,o1,o2,o3,rfl⟩;have grow:∀r∈rs,1<=r.2/\r.2<=1000000000/\∃j:Nat,((j:Nat):Int)∈os.take (i+1)/\∃w,ws[j]?=some w/\w.1=r.1/\r.2<=w.2:=λr hr=>by obtain⟨a1,a2,j,a3,a4⟩:=xN r hr;exact⟨a1,a2,j,by rw[take_snoc hat];exact uS _ a3,a4⟩
  refine⟨λσ H6=>aR H H6/\H6 pq=some (.lst (os.map V.int))/\∃(zs:List V)(rs:List Row)(sp:Int)(s6 s7 s8:Option V),σ=[some (.ref a),some (.int k),some (.ref l),some (.int sp),some (.ref pq),some (.ref z),s6,s7,s8]/\H6 z=some (.lst zs)/\dH H6 zs rs/\rs.length<=i+1/\(rs.map (λr:Row=>r.1)).Nodup/\
   sp=aQ ws-1-aQ rs/\(ws≠[]->0<=sp)/\∀r∈rs,1<=r.2/\r.2<=1000000000/\∃j:Nat,((j:Nat):Int)∈os.take (i+1)/\∃w,ws[j]?=some w/\w.1=r.1/\r.2<=w.2,?_,λ_ _ h=>h⟩
  refine⟨decide (0<way/\0<o),?_,?_⟩
  .refine ⟨_,Z,_,_,Z,Z,_,Z,?_⟩;by_cases h1:0<way
   .rw [bq h1];refine nM ⟨_,Z,_,_,Z,Z,_,Z,?_,Z⟩;by_cases h2:0<o
    .rw [bq h2,bq ⟨h1,h2⟩]
    .rw [dG h2,dG λz=>h2 z.2]
   .rw [dG h1];exact bM ⟨(dG λz=>h1 z.1).symm,Z⟩
  refine cI (λc=>?_) (λc=>?_)
  .obtain ⟨_,c2⟩:=eF c;refine⟨_,Z,.inl ⟨Z,_,aI.of Pk⟩,_,Z,_,Z,l,_,_,_,Z,Z,g5.seq hl,aM ea,(g5.sq BK).ix (i:=0) x0 ?_⟩;refine⟨_,Z,(gZ 2),λp hp=>?_⟩;have g6:=aH hp (tT (wj.1,o));have hz6:=g6 _ _ Pk;have WR:=g6 _ _ hq5;have WD:upd H5 p (tT (wj.1,o)) p=some (tT (wj.1,o)):=ai;have agQ:=hR.length;show uX _ (upd H5 p (tT (wj.1,o))) _;generalize upd H5 p (tT (wj.1,o))=H6 at *;refine⟨z,_,_,Z,Z,hz6,by rw[agQ];exact dI (by omega),?_⟩;have np:p≠z:=λe=>by rw[e,Pk]at hp;cases hp
   have tu:∀b ys,H6 b=some (.tup ys)->upd H6 z (.lst (zs++[.ref p])) b=some (.tup ys):=gj (.inr ⟨_,hz6,Z⟩);refine⟨_,Z,_,Z,_,_,Z,Z,(g5.trans g6).c8 hzH _,by rw[ay nz];exact WR,zs++[.ref p],rs++[(wj.1,o)],sp-o,_,_,_,Z,ai,((hR.mono g6.tups).snoc WD).mono tu,by rw[c7];show rs.length+1<=i+1;omega,?_,?_,λ_=>by omega,?_⟩
   .rw [bX];refine o_ WY λhm=>?_;obtain⟨r,hr,er⟩:=aZ.mp hm;obtain⟨_,_,j,hj,w,abA,e1,_⟩:=xN r hr;have hj2:j<ws.length:=(ee.mp abA).1;have r1:(ws.map (λr:Row=>r.1))[j]?=some w.1:=by rw[cK,abA];rfl
    have r2:(ws.map (λr:Row=>r.1))[jt]?=some wj.1:=by rw[cK,ej];rfl
    have er:r.1=wj.1:=er;have:j=jt:=(Qd (by rw[aG];exact hj2) nd).mp (r1.trans (by rw[e1,er];exact r2.symm));rw[this]at hj;exact hnot hj
   .rw [show aQ (rs++[(wj.1,o)])=aQ rs+o from by unfold aQ;rw[bX,Jf];simp];omega
   .intro r hr;rcases fq.mp hr with h1|h1
    .exact grow r h1
    .rw [eO.mp h1];exact⟨by show 1<=o;omega,o3,jt,by rw[take_snoc hat];exact gv _ (eO.mpr rfl),wj,ej,Z,o2⟩
  .exact ⟨g5,hq5,zs,rs,sp,_,_,_,Z,Pk,hR,by omega,WY,uY,Q9,grow⟩
 rintro σ H5 ⟨g5,hq5,zs,rs,sp,s6,s7,s8,rfl,Pk,hR,hrl,WY,uY,Q9,xN⟩;rw[aG,gc]at hrl;refine⟨_,Z,q z zs rs H5 g5 hzH Pk hR ⟨WY,λr hr=>?_,?_,hrl⟩⟩
 .obtain ⟨a1,a2,j,_,w,hw,e1,e2⟩:=xN r hr;exact⟨a1,a2,w,cC hw,e1,e2⟩
 .by_cases c:ws=[]
  .right;rw[c]at hrl;exact List.length_eq_zero_iff.mp (by simpa using hrl)
  .left;have:=Q9 c;omega
abbrev v5:Stmt:=top 32
abbrev n5:List Str:=["_law_rows_here"]
abbrev Nq:List Str:=n5.append ["_law_things","_law_name_here","_law_amount"]
theorem qA:aS Nq n5 (aF v5):=dX
theorem LY(F:At K mg "_law_flat" v5 f fd)(FE:mg "tuple"=none):Dn P w K mg base 1 "_law_flat" n5 (K6 K):=by
 refine F.oA qA λcdv A outer s H vs Q E hr h=>?_;obtain⟨⟨l,us,rs,rfl,hl,hR,hle,q⟩⟩:=h;refine⟨_,(@c9.h _ _ _ (ak (a_ (i:=1) qA.nd (ia (ah bQ au)))
  (ak (fB fV rfl (dZ K (qv 0)) (iu K (n:=2) rfl (cD (aW (i:=2) qA.nd) (cD (aW (i:=3) qA.nd) ir))) (ak (b9 (jy lQ nG nH ef (qv 1) (ah (qv 2) au)))
  (az (b9 (jy lQ nG nH ef (qv 1) (ah (qv 3) au))))))
  (az (bF (iO HB (by rfl) FE PyProof.Rows.boot_tuple (ah (qv 1) au))))))),?_⟩
 have hul:=hR.length;refine⟨(gZ 1),λt ht=>?_⟩;have g0:=aH ht (.lst [.str "cast"]);have h0:upd H t (.lst [.str "cast"]) t=some (.lst (Dd.v (.cast (rs.take 0)))):=ai;show iU _ _ _ _ (upd H t (.lst [.str "cast"]));generalize upd H t (.lst [.str "cast"])=H0 at *;refine⟨_,Z,l,Z,⟨us,g0.seq hl⟩,?_⟩;refine jj (K:=K) (xs:=us) (λi σ H'=>aR H H'/\H' t=some (.lst (Dd.v (.cast (rs.take i))))/\∃s2 s3,σ=[some (.ref l),some (.ref t),s2,s3]) ⟨g0,h0,_,_,Z⟩ (λi σ H' _ hp=>hp.1.seq hl) ?_ ?_
 .rintro i x σ H' hx ⟨g,hd',s2,s3,rfl⟩;obtain⟨a,r,rfl,er,ha⟩:=hR.get hx;have hlt:(Dd.v (.cast (rs.take i))).length+1<sizeLine:=by show(jQ (rs.take i)).length+1+1<_;rw[Ay,nK,j8];exact Jv (show _<=3000 by omega) (by decide)
  refine⟨a,_,Z,dz.of (g _ _ ha),Z,_,_,Z,_,_,Z,Z,?_⟩;refine⟨_,Z,.inl ⟨Z,_,aI.of hd'⟩,_,Z,t,_,_,Z,Z,hd',by omega,?_⟩;refine⟨_,Z,.inl ⟨Z,_,aI.of ai⟩,_,Z,t,_,_,Z,Z,ai,by rw[c7];exact hlt,?_⟩;refine⟨?_,?_,_,_,Z⟩
  .rw [lG];exact g.c8 ht _
  .rw [ai,take_snoc er];show some (HO.lst ((V.str "cast"::jQ (rs.take i)++[V.str r.1])++[V.int r.2]))=some (HO.lst (V.str "cast"::jQ (rs.take i++[r])));rw[Ax];simp[jQ]
 rintro σ H' ⟨g,hd',s2,s3,rfl⟩;rw[hul,cM]at hd';refine⟨_,Z,t,_,Z,.inl ⟨aI.of hd',λz hz=>q z _ (g.trans (aH hz _)) ai⟩⟩
abbrev nP:Stmt:=top 33
abbrev k7:List Str:=["_law_script","_law_k","_law_model","_law_names_here","_law_way"]
abbrev CB:List Str:=k7.append ["_law_parts","_law_part","_law_owner","_law_whole","_law_rows_here","_law_amount"]
theorem fT:aS CB k7 (aF nP):=dX
theorem Bt(F:At K mg "_law_part_deed" nP f fd)(bg:Dn P w K mg base 1 "_law_draw" iG (sP K))(lK:Dn P w K mg base 2 "_law_much" nY (Dl K))(lM:Dn P w K mg base 2 "_law_rows" nZ (EY K))(lN:Dn P w K mg base 1 "_law_flat" n5 (K6 K))(cg:mg "len"=none)(kZ:mg "sum"=none)(xu:mg "min"=none):Dn P w K mg base 3 "_law_part_deed" k7 (DQ K):=by
 refine F.oA fT λcdv A outer s H vs Q E hr h=>?_;obtain⟨⟨a,m,ln,ns,k,way,nms,c,st,rfl,hS,h63,hk0,hk1,hq,hN,nx,hnl,wf,g,hc,hp0,q⟩⟩:=h;refine⟨_,(@c9.h _ _ _ (ak (a_ (i:=5) fT.nd (eT (d8 hr) (qv 2) bQ))
  (ak (a_ (i:=6) fT.nd (aT (dO K) (qv 5) (bL bg hr (ah (qv 0) (ah (qv 1) (ah aq (ah (bU (dB K) (by rfl) cg fW (ah (qv 5) au)) au)))))))
  (ak (a_ (i:=7) fT.nd (aT (dO K) (eT (d8 hr) (qv 2) bQ) (bL bg hr (ah (qv 0) (ah (qv 1) (ah aq (ah (bU (dB K) (by rfl) cg fW (ah (eT (d8 hr) (qv 2) bQ) au)) au)))))))
  (ak (a_ (i:=8) fT.nd (bU (Ac K rfl) (by rfl) kZ Js (ah (kq ["_law_one"] [none] rfl (dZ K (qv 5)) (λ_ _ _ _=>(aW (i:=0) (show List.Nodup (["_law_one"] :List Str)from by decide +kernel))) (λ_ _ _ _=>(aT (iR K) (qv 0) aq)) rfl (by rfl)) au)))
  (ak (jT (aX rT (qv 4) aq (bu _)) (ak (a_ (i:=9) fT.nd (bL lM hr (ah (qv 0) (ah (qv 1) (ah (qv 5) au)))))
  (az (cW (aX jJ (bU (dB K) (by rfl) cg fW (ah (qv 9) au)) aq (bu _)) (az (bF (bL lN hr (ah (qv 9) au)))) bP))) bP)
  (ak (cW (aX eY (qv 4) aq (bu _)) (az (bF (h_ (ah bQ (ah (aT (iR K) (qv 6) aq) (ah (qv 7) au)))))) bP)
  (ak (cW (aX eY (qv 4) aq (bu _)) (az (bF (h_ (ah bQ (ah (aT (iR K) (qv 6) aq) au))))) bP)
  (ak (cW (lH (bW.pt (sY (aX eY (qv 4) aq (bu _)) (uP (aX jJ (qv 8) aq (bu _)))))) (az (bF (h_ (ah bQ (ah (qv 7) (ah (aP cU aq (bL bg hr (ah (qv 0) (ah (qv 1) (ah aq (ah (bU (zY rfl) (by rfl) xu PN (ah (aP mE (qv 8) aq) (ah (aP nQ aq aq) au))) au)))))) au)))))) bP)
  (ak (cW (lH (bW.pt (sY (aX eY (qv 4) aq (bu _)) (sY (aX jJ (aT (iR K) (qv 6) aq) aq (bu _)) (uP (aX rT (bU (dB K) (by rfl) cg fW (ah (eT (d8 hr) (qv 2) bQ) au)) (bU (dB K) (by rfl) cg fW (ah (qv 3) au)) (bu _))))))) (ak (a_ (i:=10) fT.nd (aP cU aq (bL bg hr (ah (qv 0) (ah (qv 1) (ah aq (ah (bU (zY rfl) (by rfl) xu PN (ah (aP mE (aT (iR K) (qv 6) aq) aq) (ah (aP nQ aq aq) au))) au)))))))
  (az (bF (h_ (ah bQ (ah (aT (iR K) (qv 6) aq) (ah (aT (dO K) (qv 3) (bU (dB K) (by rfl) cg fW (ah (eT (d8 hr) (qv 2) bQ) au))) (ah (qv 10) (ah (bL bg hr (ah (qv 0) (ah (qv 1) (ah aq (ah (aP cU (aT (iR K) (qv 6) aq) aq) au))))) au))))))))) bP)
  (ak (cW (aX eY (qv 4) aq (bu _)) (az (bF (h_ (ah bQ (ah (aT (iR K) (qv 6) aq) (ah (aP cU aq (bL bg hr (ah (qv 0) (ah (qv 1) (ah aq (ah (bU (zY rfl) (by rfl) xu PN (ah (aT (iR K) (qv 6) aq) (ah (aP nQ aq aq) au))) au)))))) au)))))) bP)
  (az (bF (h_ (ah bQ (ah (aT (iR K) (qv 6) aq) (ah (bL lK hr (ah (qv 0) (ah (qv 1) (ah aq au)))) au))))))))))))))))),?_⟩
 obtain⟨kvs,lo,lp,lk,us,om,vo,vp,vk,oo,op,rw',ok⟩:=hq;have ll:=rw'.len;have hpl:=g.pl;have gc:=wf.ki;have agR:=g.ol;refine⟨_,Z,m,_,Z,vp▸eW.k (k:=Sum.inr "parts") om,?_⟩;refine⟨_,Z,_,Z,_,Z,_,Z,_,us,Z,.inl op,c_ hS h63 hk0 (by decide) (by decide) (by omega) λd _ d0 d1=>?_⟩;obtain⟨j,rfl⟩:∃j:Nat,d=(j:Int):=⟨d.toNat,by omega⟩
 have hj:j<st.aj.length:=by omega
 have ep:=bK hj;have gf:=CN hj;generalize st.aj[j]=p at *;obtain⟨ap,xs,ea,BK,x0,x1,x2,x3⟩:=rw'.at_ j p ep;refine⟨lp,_,_,_,Z,Z,op,aM ea,?_⟩;refine⟨_,Z,m,_,Z,vo▸eW.k (k:=Sum.inr "owners") om,_,Z,_,Z,_,Z,m,_,Z,vo▸eW.k (k:=Sum.inr "owners") om,lo,_,Z,.inl oo,c_ hS h63 hk0 (by decide) (by decide) (by rw[aG];omega) λwd _ w0 w1=>?_⟩;rw[aG]at w1;obtain⟨jo,o,ejo,eo,eat⟩:=Ku (l:=st.own) (d:=wd) w0 w1;refine⟨lo,_,_,_,Z,Z,oo,eat,?_⟩;have how:=cC eo;have wol:wl o<=20:=pC (g.on o how);have Tu:wl p.nm<=20:=pC (g.nk _ (wf.sub p gf));have hw0:=wf.jK p gf;have eg:bJ st p.nm=p:=bN wf gf rfl;have hin:p.nm∈d9 st:=Bm ep;refine⟨_,Z,lp,Z,⟨_,op⟩,λl0 qm=>?_⟩;refine lg (J:=zx K lp) (n:=us.length) 0 (λi o H'=>aR H H'/\o=((st.aj.take i).map (λp:Pt=>p.wo)).map V.int) (by omega) ⟨aH qm _,Z⟩ (λi o H' hi _ hp=>⟨_,_,hp.1.seq op,bK hi⟩) (λo H' _ hp=>⟨_,hp.1.seq op,aO _⟩) ?_ ?_
 .rintro i y o H2 H3 hi gc ha ⟨g,e⟩ ⟨rfl,hy⟩;have hiw:i<st.aj.length:=by omega
  have ei:=bK hiw;obtain⟨ar,xs,ea,BK,_,_,x2,_⟩:=rw'.at_ i _ ei;have ey:=hy _ (g.seq op);rw[ea]at ey;cases ey;refine⟨_,Z,(g.sq BK).ix (i:=2) x2 ?_⟩;refine⟨ha,g.c8 qm _,?_⟩;subst e;rw[take_snoc ei,bX,bX];rfl
 rintro o1 H1 _ ha ⟨g1,e⟩;rw[ll,cM]at e;subst e;refine⟨l0,st.aj.map (λp:Pt=>p.wo),Z,aI.of ha,?_⟩;show uG 8 (.int (aE st)) _ _ _;have ret:∀(t:Addr)(d:Dd)(H2:Hp),aR H H2->H2 t=none->Bo nms st d->Q (.ref t) (upd H2 t (.tup (Dd.v d))):=λt d H2 g2 ht hd=>q t d _ (g2.trans (aH ht _)) ai hd;have keep:∀d:Dd,jr st d=none->KI d->d.pl=true->Bo nms st d:=λd h1 h2 h3=>⟨h1,h2,nx.keep (K5 (Dd.Vg h3).1 (Dd.Vg h3).2.1),(Dd.Vg h3).2.2⟩
 refine⟨λσ' H'=>aR H H'/\∃s9,σ'=[some (.ref a),some (.int k),some (.ref m),some (.ref ln),some (.int way),some (.ref lp),some (.ref ap),some (.str o),some (.int (aE st)),s9,none],?_,?_⟩
 .refine ⟨_,Z,_,_,Z,Z,_,Z,cI (λ_=>?_) (λ_=>⟨g1,_,Z⟩)⟩;have hw1:∀w∈mR st,1<=w.2:=λw hw=>by obtain⟨p,hp,rfl⟩:=aZ.mp hw;exact(wf.jK p hp).1
  have nwN:((mR st).map (λr:Row=>r.1)).Nodup:=by unfold mR;rw[gr];exact wf.dM
  have nwL:(mR st).length=st.aj.length:=by unfold mR;rw[aG]
  refine⟨_,Z,_,Z,_,Z,⟨⟨a,lp,ns,k,us,mR st,Z,g1.seq hS,h63,hk0,hk1,g1.seq op,(rw'.mono g1).nw,nwN,by omega,hw1,λz zs rs H2 g2 hz0 hz1 hR hro=>?_⟩⟩⟩;have zl:=hR.length;refine⟨_,Z,z,zs,Z,.inl (aI.of hz1),_,_,Z,Z,_,Z,cI (λc=>?_) (λc=>⟨g1.trans g2,_,Z⟩)⟩;have c':(0:Int)<(zs.length:Int):=eF c;have hne:rs≠[] :=λe=>by rw[zl,e]at c';simp at c'
  have rl:=hro.len;have:=nx.pl wf;refine⟨_,Z,⟨⟨z,zs,rs,Z,aI.of hz1,hR,by omega,λt H3 g3 ht=>q t (.cast rs) H3 ((g1.trans g2).trans g3) ht (keep _ (DP wf hro hne) ⟨by omega,λr hr=>?_⟩ rfl)⟩⟩⟩;obtain⟨r1,r2,w,hw,e,_⟩:=hro.row r hr;obtain⟨p',dN,rfl⟩:=aZ.mp hw;have e:p'.nm=r.1:=e;exact⟨by rw[<-e];exact pC (g.nk _ (wf.sub p' dN)),by omega,r2⟩
 rintro σ H2 ⟨g2,s9,rfl⟩;have xQ:=g2.sq BK;have LZ:=g2.seq hS;have P9:Up 10 9:=⟨by decide,by decide,by decide +kernel⟩
 have p9:(10:Int) ^ (9:Int).toNat=1000000000:=by decide +kernel
 have mn:∀w:Int,0<w->0<(if(10:Int) ^ (9:Int).toNat<w then(10:Int) ^ (9:Int).toNat else w)/\(if(10:Int) ^ (9:Int).toNat<w then(10:Int) ^ (9:Int).toNat else w)<=w/\(if(10:Int) ^ (9:Int).toNat<w then(10:Int) ^ (9:Int).toNat else w)<=1000000000:=λw h=>by rw[p9];split <;> omega
 refine⟨_,Z,Z,_,Z,cI (λ_=>?_) (λ_=>?_)⟩
 .exact ⟨_,Z,xQ.ix (i:=0) x0 ⟨_,Z,(gZ 3),λt ht=>ret t (.hand p.nm o) H2 g2 ht (keep _ (by show jx st p.nm o=none;unfold jx;rw[aC hin,aC how]) ⟨Tu,wol⟩ rfl)⟩⟩
 refine⟨_,Z,Z,_,Z,cI (λ_=>?_) (λ_=>?_)⟩
 .exact ⟨_,Z,xQ.ix (i:=0) x0 ⟨(gZ 2),λt ht=>ret t (.land p.nm) H2 g2 ht (keep _ (aC hin) Tu rfl)⟩⟩
 by_cases BI:way=10/\1<aE st
 .refine ⟨true,⟨_,Z,Z,_,Z,cI (λ_=>⟨_,Z,_,_,Z,Z,_,Z,bq BI.2,Z⟩) (λc=>absurd (bq (by rw[BI.1])) c)⟩,nM ?_⟩;obtain⟨m0,m1,m2⟩:=mn (aE st-1) (by omega);refine⟨_,Z,_,Z,_,Z,_,Z,_,_,Z,Z,_,_,Z,Z,P9,_,_,Z,c_ LZ h63 hk0 (by decide) (by decide) m0 λd _ d0 d1=>⟨_,_,Z,Z,(gZ 3),λt ht=>ret t (.award o (1+d)) H2 g2 ht (keep _ ?_ ⟨wol,by omega,by omega⟩ rfl)⟩⟩;show jS st o (1+d)=none;unfold jS;rw[aC how,aB (by omega),aB (by omega)]
 refine⟨false,⟨_,Z,Z,_,Z,cI (λc=>⟨_,Z,_,_,Z,Z,_,Z,dG (λz=>BI ⟨V.int.inj (eF c),z⟩),Z⟩) (λc=>⟨Z,Z⟩)⟩,bM ?_⟩;have Q_:((nms.map V.str).length:Int)=(nms.length:Int):=by rw[aG]
 have Ra:((st.nms.map V.str).length:Int)=(st.nms.length:Int):=by rw[aG]
 by_cases h11:way=11/\1<p.wo/\st.nms.length<nms.length
 .refine ⟨true,⟨_,Z,Z,_,Z,cI (λ_=>⟨_,Z,xQ.ix (i:=2) x2 ⟨_,_,Z,Z,_,Z,cI (λ_=>⟨_,Z,m,_,Z,vk▸eW.k (k:=Sum.inr "known") (g2 _ _ om),lk,_,Z,.inl (g2.seq ok),_,Z,ln,_,Z,.inl (g2.seq hN),_,_,Z,Z,_,Z,bq (by rw[Q_,Ra];omega),Z⟩) (λc=>absurd (bq h11.2.1) c)⟩⟩) (λc=>absurd (bq (by rw[h11.1])) c)⟩,nM ?_⟩;obtain⟨m0,m1,m2⟩:=mn (p.wo-1) (by omega);have ey:=bK h11.2.2;obtain⟨y1,y2,y3⟩:=nx.next ey;generalize nms[st.nms.length]=y at *;have eyv:sO (nms.map V.str) ((st.nms.length:Nat):Int)=some (.str y):=aM (by rw[cK,ey];rfl);refine⟨_,Z,_,Z,_,Z,xQ.ix (i:=2) x2 ⟨_,_,Z,Z,_,_,Z,Z,P9,_,_,Z,c_ LZ h63 hk0 (by decide) (by decide) m0 λd _ d0 d1=>⟨_,_,Z,Z,?_⟩⟩⟩;refine⟨_,Z,xQ.ix (i:=0) x0 ⟨_,Z,_,Z,m,_,Z,vk▸eW.k (k:=Sum.inr "known") (g2 _ _ om),lk,_,Z,.inl (g2.seq ok),ln,_,_,_,Z,Z,g2.seq hN,by rw[aG];exact eyv,_,Z,_,Z,_,Z,_,Z,xQ.ix (i:=3) x3 ⟨_,_,Z,Z,c_ LZ h63 hk0 (by decide) (by decide) (by omega) λv _ v0 v1=>⟨(gZ 5),λt ht=>ret t (.sever p.nm y (1+d) v) H2 g2 ht ⟨?_,⟨Tu,pC y1,⟨by omega,by omega⟩,⟨by omega,?_⟩⟩,y3 _ rfl,by show(8:Nat)≠0;decide⟩⟩⟩⟩⟩
  .show iN st p.nm y (1+d) v=none;unfold iN;rw[aC hin,Aw y1 y2,eg];show(if _ then _ else _)=none;rw[aB (by omega),aB (by omega)]
  .have:=g.we p gf;omega
 refine⟨false,⟨_,Z,Z,_,Z,cI (λc=>⟨_,Z,xQ.ix (i:=2) x2 ⟨_,_,Z,Z,_,Z,cI (λc2=>⟨_,Z,m,_,Z,vk▸eW.k (k:=Sum.inr "known") (g2 _ _ om),lk,_,Z,.inl (g2.seq ok),_,Z,ln,_,Z,.inl (g2.seq hN),_,_,Z,Z,_,Z,dG (λz=>h11 ⟨V.int.inj (eF c),eF c2,by rw[Q_,Ra]at z;omega⟩),Z⟩) (λc=>⟨Z,Z⟩)⟩⟩) (λc=>⟨Z,Z⟩)⟩,bM ?_⟩;refine⟨_,Z,Z,_,Z,cI (λ_=>?_) (λ_=>?_)⟩
 .obtain ⟨m0,m1,m2⟩:=mn p.wo (by omega);refine⟨_,Z,xQ.ix (i:=0) x0 ⟨_,Z,_,Z,_,Z,xQ.ix (i:=2) x2 ⟨_,_,Z,Z,P9,_,_,Z,c_ LZ h63 hk0 (by decide) (by decide) m0 λd _ d0 d1=>⟨_,_,Z,Z,(gZ 3),λt ht=>ret t (.mishap p.nm (1+d)) H2 g2 ht (keep _ ?_ ⟨Tu,by omega,by omega⟩ rfl)⟩⟩⟩⟩;show iX st (p.nm,1+d)=none;unfold iX;show(if p.nm∈d9 st then(if 1+d<1 then _ else if(bJ st p.nm).wo<1+d then _ else _) else _)=none;rw[aC hin,aB (by omega),eg,aB (by omega)]
 refine⟨_,Z,xQ.ix (i:=0) x0 ⟨_,Z,_,Z,JZ LZ h63 hk0 (by decide) (by decide) λw H3 w1 w2 g3=>⟨(gZ 3),λt ht=>ret t (.rise p.nm w) H3 (g2.trans g3) ht (keep _ ?_ ⟨Tu,by omega,by omega⟩ rfl)⟩⟩⟩;show kW st p.nm w=none;unfold kW;rw[aC hin,aB (by omega)]
abbrev v7:Stmt:=top 34
abbrev sJ:List Str:=["_law_script","_law_k","_law_model","_law_names_here"]
abbrev Nr:List Str:=sJ.append ["_law_way","_law_more","_law_owner","_law_worth"]
theorem m5:aS Nr sJ (aF v7):=dX
theorem L1(F:At K mg "_law_deed" v7 f fd)(bg:Dn P w K mg base 1 "_law_draw" iG (sP K))(lK:Dn P w K mg base 2 "_law_much" nY (Dl K))(oZ:Dn P w K mg base 3 "_law_part_deed" k7 (DQ K))(cg:mg "len"=none):Dn P w K mg base 4 "_law_deed" sJ (SN K):=by
 refine F.oA m5 λcdv A outer s H vs Q E hr h=>?_;obtain⟨⟨a,m,ln,ns,k,nms,c,st,rfl,hS,h63,hk0,hk1,hq,hN,nx,hnl,wf,g,hc,q⟩⟩:=h;refine⟨_,(@c9.h _ _ _ (ak (a_ (i:=4) m5.nd (bL bg hr (ah (qv 0) (ah (qv 1) (ah aq (ah aq au))))))
  (ak (a_ (i:=5) m5.nd (Bl rT (bU (dB K) (by rfl) cg fW (ah (eT (d8 hr) (qv 2) bQ) au)) (bU (dB K) (by rfl) cg fW (ah (qv 3) au)) (bu _)))
  (ak (cW (lH (bW.pt (sY (Az (qv 5)) (uP (lH (bW.pt (Jo (aX rT (qv 4) aq (bu _)) (DK (aX rT (bU (dB K) (by rfl) cg fW (ah (eT (d8 hr) (qv 2) bQ) au)) aq (bu _)))))))))) (ak (a_ (i:=6) m5.nd (aT (dO K) (eT (d8 hr) (qv 2) bQ) (bL bg hr (ah (qv 0) (ah (qv 1) (ah aq (ah (bU (dB K) (by rfl) cg fW (ah (eT (d8 hr) (qv 2) bQ) au)) au)))))))
  (ak (a_ (i:=7) m5.nd (bL lK hr (ah (qv 0) (ah (qv 1) (ah aq au)))))
  (az (bF (h_ (ah bQ (ah (aT (dO K) (qv 3) (bU (dB K) (by rfl) cg fW (ah (eT (d8 hr) (qv 2) bQ) au))) (ah (qv 6) (ah (qv 7) (ah (bL bg hr (ah (qv 0) (ah (qv 1) (ah aq (ah aq au))))) au)))))))))) bP)
  (ak (cW (aX eY (bU (dB K) (by rfl) cg fW (ah (eT (d8 hr) (qv 2) bQ) au)) aq (bu _)) (az (bF (h_ (ah bQ au)))) bP)
  (az (bF (bL oZ hr (ah (qv 0) (ah (qv 1) (ah (qv 2) (ah (qv 3) (ah (qv 4) au))))))))))))),?_⟩
 obtain⟨kvs,lo,lp,lk,us,om,vo,vp,vk,oo,op,rw',ok⟩:=id hq;have ll:=rw'.len;have hpl:=g.pl;have gc:=wf.ki;have agR:=g.ol;have Q_:((nms.map V.str).length:Int)=(nms.length:Int):=by rw[aG]
 have Ra:((st.nms.map V.str).length:Int)=(st.nms.length:Int):=by rw[aG]
 refine⟨_,Z,_,Z,c_ hS h63 hk0 (by decide) (by decide) (by decide) λway _ v0 v1=>?_⟩;refine⟨_,Z,m,_,Z,vk▸eW.k (k:=Sum.inr "known") om,lk,_,Z,.inl ok,_,Z,ln,_,Z,.inl hN,_,_,Z,Z,?_⟩;rw[Q_,Ra];have orR:∀b:Bool,b=decide (way<3\/st.aj.length<2)->(tOr (Jh (Gj (Bw λi j=>V.bl (decide (i<j))) (BV 4) (tC (V.int 3)))) (Jh (Gj (Bw λi j=>V.bl (decide (i<j))) (Zs (λxs H Q=>∃p ys,xs=[V.ref p]/\(aI K H p ys\/dz K H p ys)/\Q (V.int ↑ys.length) H) (Qp (V_ (BV 2) (tC (V.str "parts"))) uX)) (tC (V.int 2))))) [some (.ref a),some (.int k),some (.ref m),some (.ref ln),some (.int way),some (.bl (decide ((st.nms.length:Int)<(nms.length:Int)))),none,none] H (λb' H'=>b'=b/\H'=H):=λb eb=>by
  refine⟨_,Z,_,_,Z,Z,_,Z,cI (λc=>⟨?_,Z⟩) (λc=>⟨_,Z,m,_,Z,vp▸eW.k (k:=Sum.inr "parts") om,lp,_,Z,.inl op,_,_,Z,Z,_,Z,?_,Z⟩)⟩
  .rw [eb];exact(bq (.inl (eF c))).symm
  .have c':¬ way<3:=uT (qP.mpr c);rw[eb];by_cases h2:st.aj.length<2
   .rw [bq (.inr h2:way<3\/st.aj.length<2)];exact bq (by omega)
   .rw [dG (λz=>z.elim c' h2:¬ (way<3\/st.aj.length<2))];exact dG (by omega)
 by_cases hL:st.nms.length<nms.length/\(way<3\/st.aj.length<2)
 .refine ⟨true,⟨_,Z,_,Z,cI (λ_=>⟨true,orR true (bq hL.2).symm,Z,Z⟩) (λc=>absurd (bq (by omega)) c)⟩,nM ?_⟩;have ey:=bK hL.1;obtain⟨y1,y2,y3⟩:=nx.next ey;generalize nms[st.nms.length]=y at *;have eyv:sO (nms.map V.str) ((st.nms.length:Nat):Int)=some (.str y):=aM (by rw[cK,ey];rfl);refine⟨_,Z,m,_,Z,vo▸eW.k (k:=Sum.inr "owners") om,_,Z,_,Z,_,Z,m,_,Z,vo▸eW.k (k:=Sum.inr "owners") om,lo,_,Z,.inl oo,c_ hS h63 hk0 (by decide) (by decide) (by rw[aG];omega) λwd _ w0 w1=>?_⟩;rw[aG]at w1;obtain⟨jo,o,ejo,eo,eat⟩:=Ku (l:=st.own) (d:=wd) w0 w1;have how:=cC eo;refine⟨lo,_,_,_,Z,Z,oo,eat,?_⟩;refine⟨_,Z,_,Z,JZ hS h63 hk0 (by decide) (by decide) λw H1 w1 w2 g1=>?_⟩;refine⟨_,Z,_,Z,m,_,Z,vk▸eW.k (k:=Sum.inr "known") (g1 _ _ om),lk,_,Z,.inl (g1.seq ok),ln,_,_,_,Z,Z,g1.seq hN,by rw[aG];exact eyv,_,Z,_,Z,_,Z,_,Z,c_ (g1.seq hS) h63 hk0 (by decide) (by decide) (by decide) λv _ v0 v1=>⟨(gZ 5),λt ht=>q t (.load y o w v) _ (g1.trans (aH ht _)) ai ⟨QN y1 y2 how w1 v0,⟨pC y1,pC (g.on o how),⟨by omega,by omega⟩,⟨by omega,by omega⟩⟩,y3 _ rfl,by show(1:Nat)≠0;decide⟩⟩⟩
 refine⟨false,⟨_,Z,_,Z,cI (λc=>⟨false,orR false (dG (λz=>hL ⟨by have:=eF c;omega,z⟩)).symm,Z,Z⟩) (λc=>⟨Z,Z⟩)⟩,bM ?_⟩;refine⟨_,Z,m,_,Z,vp▸eW.k (k:=Sum.inr "parts") om,lp,_,Z,.inl op,Z,_,Z,cI (λc=>?_) (λcz=>?_)⟩
 .exact ⟨(gZ 1),λt ht=>q t .still _ (aH ht _) ai ⟨Z,True.intro,nx,by show(9:Nat)≠0;decide⟩⟩
 have c':0<st.aj.length:=Nat.pos_of_ne_zero λz=>cz (bq (by rw[ll,z];rfl));exact⟨_,Z,_,Z,_,Z,_,Z,_,Z,⟨⟨a,m,ln,ns,k,way,nms,c,st,Z,hS,h63,hk0,hk1,hq,hN,nx,hnl,wf,g,hc,c',q⟩⟩⟩
abbrev zj:Stmt:=top 35
abbrev xw:List Str:=["_law_parts","_law_name_here"]
abbrev Tv:List Str:=xw.append ["_law_at_here"]
theorem Ef:aS Tv xw (aF zj):=dX
theorem Rb(F:At K mg "_law_at" zj f fd)(cg:mg "len"=none)(dw:mg "range"=none):Dn P w K mg base 1 "_law_at" xw (Wn K):=by
 refine F.oA Ef λcdv A outer s H vs Q E hr h=>?_;obtain⟨⟨l,us,ws,j,r,rfl,hl,hW,nd,hle,ej,q⟩⟩:=h;refine⟨_,(@c9.h _ _ _ (ak (fB fV rfl (mL (by rfl) dw (ah (bU (dB K) (by rfl) cg fW (ah (qv 0) au)) au)) (aW (i:=2) Ef.nd) (az (cW (aX eY (aT (iR K) (aT (dO K) (qv 0) (qv 2)) aq) (qv 1) (bu _)) (az (bF (qv 2))) bP)))
  (az (bF (Wt Rv aq))))),?_⟩
 have ll:=hW.len;have hj:j<ws.length:=(ee.mp ej).1;refine⟨_,Z,l,_,Z,.inl hl,_,Z,by omega,by omega,?_⟩;refine mD (lo:=0) (n:=((us.length:Nat):Int).toNat) (λi σ H'=>H'=H/\i<=j/\∃s2,σ=[some (.ref l),some (.str r.1),s2]) ⟨Z,fH _,_,Z⟩ ?_ ?_
 .rintro i σ H' hi ⟨rfl,hn,s2,rfl⟩;have e0:(0:Int)+(i:Int)=((i:Nat):Int):=by omega
  rw[e0];have hio:i<ws.length:=by omega
  have ei:=bK hio;obtain⟨a,xs,ea,BK,x0,_⟩:=hW.at_ i _ ei;refine⟨_,Z,_,Z,l,_,_,_,Z,Z,hl,aM ea,BK.ix (i:=0) x0 ?_⟩;refine⟨_,Z,Z,_,Z,cI (λc=>?_) (λc=>?_)⟩
  .have c':(ws[i]).1=r.1:=V.str.inj (eF c);have:i=j:=by
    have r1:(ws.map (λr:Row=>r.1))[i]?=some (ws[i]).1:=by rw[cK,ei];rfl
    have r2:(ws.map (λr:Row=>r.1))[j]?=some r.1:=by rw[cK,ej];rfl
    exact(Qd (by rw[aG];exact hio) nd).mp (r1.trans (by rw[c'];exact r2.symm))
   subst this;exact⟨_,Z,q⟩
  .refine ⟨Z,?_,_,Z⟩;rcases Nat.lt_or_ge i j with z|z
   .exact z
   .have:i=j:=by omega
    subst this;rw[ei]at ej;cases ej;exact absurd (bq rfl) c
 rintro σ H' ⟨rfl,hn,s2,rfl⟩;omega
abbrev o6:Stmt:=top 36
abbrev mh:List Str:=["_law_model","_law_part","_law_deed_here"]
abbrev Eg:List Str:=mh
theorem CC:aS Eg mh (aF o6):=dX
theorem CD(F:At K mg "_law_lite_one" o6 f fd):Dn P w K mg base 1 "_law_lite_one" mh (Hj K):=by
 refine F.oA CC λcdv A outer s H vs Q E hr h=>?_;obtain⟨⟨n,ρ,B,st,i,p,a,z,d,rfl,hz,G,hb,ep,ea,hd,hpl,hkl,q⟩⟩:=h;refine⟨_,(@c9.h _ _ _ (az (cW (aX eY (aT (bh K) (qv 2) aq) bQ (bu _)) (az (mO (aP mE (aT (dO K) (qv 1) aq) (aT (bh K) (qv 2) aq)) (mP (qv 1) aq set_list))) (az (cW (aX eY (aT (bh K) (qv 2) aq) bQ (bu _)) (az (mO (aP cU (aT (dO K) (qv 1) aq) (aT (bh K) (qv 2) aq)) (mP (qv 1) aq set_list))) (az (cW (aX eY (aT (bh K) (qv 2) aq) bQ (bu _)) (az (mO (aT (bh K) (qv 2) aq) (mP (qv 1) aq set_list))) (az (cW (aX eY (aT (bh K) (qv 2) aq) bQ (bu _)) (az (mO aq (mP (qv 1) aq set_list))) (az (cW (aX eY (aT (bh K) (qv 2) aq) bQ (bu _)) (ak (mO (aP mE (aT (dO K) (qv 1) aq) (aT (bh K) (qv 2) aq)) (mP (qv 1) aq set_list))
  (ak (mO (aP mE (aT (dO K) (qv 1) aq) (aT (bh K) (qv 2) aq)) (mP (qv 1) aq set_list))
  (ak (b9 (jy lQ nG nH ef (eT (d8 hr) (qv 0) bQ) (ah (ia (ah (aT (bh K) (qv 2) aq) (ah (aT (dO K) (qv 1) aq) (ah (aT (bh K) (qv 2) aq) (ah (aT (bh K) (qv 2) aq) au))))) au)))
  (az (b9 (jy lQ nG nH ef (eT (d8 hr) (qv 0) bQ) (ah (aT (bh K) (qv 2) aq) au))))))) bP))))))))))),?_⟩
 obtain⟨ha,ca⟩:=hb.pt i _ a (yg ep) ea;have ha:H a=some (.lst [.str p.nm,.str p.ow,.int p.wo,.int p.we]):=ha;have ig:dz K H z d.v:=dz.of hz;have za:z≠a:=λe=>by rw[e,ha]at hz;cases hz
 cases d with
 | mishap x m=>refine⟨_,Z,z,_,_,_,Z,Z,ig,aM (j:=0) rfl,Z,_,Z,cI (λ_=>?_) (λc=>absurd (bq rfl) c)⟩;refine⟨_,Z,a,_,_,_,Z,Z,aI.of ha,aM (j:=2) rfl,_,Z,z,_,_,_,Z,Z,ig,aM (j:=2) rfl,_,_,Z,Z,_,Z,a,_,_,2,Z,Z,ha,Z,?_⟩;exact q _ _ _ (G.wr rfl) (hb.jn G (p.nm,p.ow,p.wo-m,p.we) ea) rfl (Fr.write ca)
 | rise x m=>refine dQ ig rfl (by decide) rfl (bM ?_);refine⟨_,Z,z,_,_,_,Z,Z,ig,aM (j:=0) rfl,Z,_,Z,cI (λ_=>?_) (λc=>absurd (bq rfl) c)⟩;refine⟨_,Z,a,_,_,_,Z,Z,aI.of ha,aM (j:=2) rfl,_,Z,z,_,_,_,Z,Z,ig,aM (j:=2) rfl,_,_,Z,Z,_,Z,a,_,_,2,Z,Z,ha,Z,?_⟩;exact q _ _ _ (G.wr rfl) (hb.jn G (p.nm,p.ow,p.wo+m,p.we) ea) rfl (Fr.write ca)
 | hand x o=>refine dQ ig rfl (by decide) rfl (bM ?_);refine dQ ig rfl (by decide) rfl (bM ?_);refine⟨_,Z,z,_,_,_,Z,Z,ig,aM (j:=0) rfl,Z,_,Z,cI (λ_=>?_) (λc=>absurd (bq rfl) c)⟩;refine⟨_,Z,z,_,_,_,Z,Z,ig,aM (j:=2) rfl,_,Z,a,_,_,1,Z,Z,ha,Z,?_⟩;exact q _ _ _ (G.wr rfl) (hb.jn G (p.nm,o,p.wo,p.we) ea) rfl (Fr.write ca)
 | land x=>refine dQ ig rfl (by decide) rfl (bM ?_);refine dQ ig rfl (by decide) rfl (bM ?_);refine dQ ig rfl (by decide) rfl (bM ?_);refine⟨_,Z,z,_,_,_,Z,Z,ig,aM (j:=0) rfl,Z,_,Z,cI (λ_=>?_) (λc=>absurd (bq rfl) c)⟩;refine⟨_,Z,a,_,_,2,Z,Z,ha,Z,?_⟩;exact q _ _ _ (G.wr rfl) (hb.jn G (p.nm,p.ow,0,p.we) ea) rfl (Fr.write ca)
 | sever x y m we=>
  refine dQ ig rfl (by decide) rfl (bM ?_);refine dQ ig rfl (by decide) rfl (bM ?_);refine dQ ig rfl (by decide) rfl (bM ?_);refine dQ ig rfl (by decide) rfl (bM ?_);refine⟨_,Z,z,_,_,_,Z,Z,ig,aM (j:=0) rfl,Z,_,Z,cI (λ_=>?_) (λc=>absurd (bq rfl) c)⟩;refine⟨_,Z,a,_,_,_,Z,Z,aI.of ha,aM (j:=2) rfl,_,Z,z,_,_,_,Z,Z,ig,aM (j:=3) rfl,_,_,Z,Z,_,Z,a,_,_,2,Z,Z,ha,Z,?_⟩;have h1:=hb.jn G (p.nm,p.ow,p.wo-m,p.we) ea;have G1:=G.wr (a:=a) (o:=.lst (iZ (p.nm,p.ow,p.wo-m,p.we))) rfl;have F1:Fr n ρ H ρ (upd H a (.lst (iZ (p.nm,p.ow,p.wo-m,p.we)))):=Fr.write ca;have z1:upd H a (.lst (iZ (p.nm,p.ow,p.wo-m,p.we))) z=some (.tup (Dd.v (.sever x y m we))):=by rw[ay za];exact hz
  have a1:upd H a (.lst (iZ (p.nm,p.ow,p.wo-m,p.we))) a=some (.lst (iZ (p.nm,p.ow,p.wo-m,p.we))):=ai;have n1:∀b,upd H a (.lst (iZ (p.nm,p.ow,p.wo-m,p.we))) b=none->H b=none:=λb=>gT;show iU _ _ _ _ (upd H a (.lst (iZ (p.nm,p.ow,p.wo-m,p.we))));generalize upd H a (.lst (iZ (p.nm,p.ow,p.wo-m,p.we)))=H1 at *;refine⟨_,Z,a,_,_,_,Z,Z,aI.of a1,aM (j:=3) rfl,_,Z,z,_,_,_,Z,Z,dz.of z1,aM (j:=4) rfl,_,_,Z,Z,_,Z,a,_,_,3,Z,Z,a1,Z,?_⟩;have h2:bV n ρ B (upd H1 a (.lst (iZ (p.nm,p.ow,p.wo-m,p.we-we)))) { d_ st with aj:=(aV st).set i (p.nm,p.ow,p.wo-m,p.we-we) }:=by have:=h1.jn G1 (p.nm,p.ow,p.wo-m,p.we-we) ea;have e:((aV st).set i (p.nm,p.ow,p.wo-m,p.we)).set i (p.nm,p.ow,p.wo-m,p.we-we)=(aV st).set i (p.nm,p.ow,p.wo-m,p.we-we):=wF ..;rw[<-e];exact this
  have G2:=G1.wr (a:=a) (o:=.lst (iZ (p.nm,p.ow,p.wo-m,p.we-we))) rfl;have F2:=F1.trans (Fr.write (o:=.lst (iZ (p.nm,p.ow,p.wo-m,p.we-we))) ca);have z2:upd H1 a (.lst (iZ (p.nm,p.ow,p.wo-m,p.we-we))) z=some (.tup (Dd.v (.sever x y m we))):=by rw[ay za];exact z1
  have a2:upd H1 a (.lst (iZ (p.nm,p.ow,p.wo-m,p.we-we))) a=some (.lst (iZ (p.nm,p.ow,p.wo-m,p.we-we))):=ai;have n2:∀b,upd H1 a (.lst (iZ (p.nm,p.ow,p.wo-m,p.we-we))) b=none->H b=none:=λb h=>n1 b (gT h);show iU _ _ _ _ (upd H1 a (.lst (iZ (p.nm,p.ow,p.wo-m,p.we-we))));generalize upd H1 a (.lst (iZ (p.nm,p.ow,p.wo-m,p.we-we)))=H2 at *;refine⟨_,Z,B.m,_,Z,eW.k (k:=Sum.inr "parts") h2.om,.inl ⟨Z,_,aI.of h2.op⟩,_,Z,z,_,_,_,Z,Z,dz.of z2,aM (j:=2) rfl,_,Z,a,_,_,_,Z,Z,aI.of a2,aM (j:=1) rfl,_,Z,z,_,_,_,Z,Z,dz.of z2,aM (j:=3) rfl,_,Z,z,_,_,_,Z,Z,dz.of z2,aM (j:=4) rfl,(gZ 4),λt ht=>?_⟩;have g3:=aH ht (.lst (iZ (y,p.ow,m,we)));have t3:upd H2 t (.lst (iZ (y,p.ow,m,we))) t=some (.lst (iZ (y,p.ow,m,we))):=ai;show uX _ (upd H2 t (.lst (iZ (y,p.ow,m,we)))) _;generalize upd H2 t (.lst (iZ (y,p.ow,m,we)))=H3 at *;have tn:H t=none:=n2 t ht;have ct:ρ t=none:=G2.none ht;have h3:=(h2.mono g3).col (t:=44) (x:=nx) ct;have G3:Gh (cY ρ t (n,44,nx)) H3:=(G2.same g3).color t3 rfl;have F3:Fr n ρ H (cY ρ t (n,44,nx)) H3:=(F2.trans (Fr.of_same (ρ:=ρ) g3)).oQ tn;have tq:t∉B.qs:=λmem=>by
   obtain⟨j,hj,ej⟩:=xy mem;have hj2:j<((aV st).set i (p.nm,p.ow,p.wo-m,p.we-we)).length:=by rw[iA,<-show B.qs.length=(aV st).length from hb.ql];exact hj
   have:=(h2.pt j _ t (bK hj2) (by rw[bK hj,ej])).1;rw[ht]at this;cases this
  have ql:(aV st).length=st.aj.length:=by unfold aV;rw[aG]
  have lq:(B.qs.map V.ref).length<1000:=by rw[aG,hb.ql];show(aV st).length<1000;rw[ql];exact hpl
  refine⟨B.lp,_,_,Z,Z,h3.op,dI (by omega),?_⟩;rw[show B.qs.map V.ref++[V.ref t]=(B.qs++[t]).map V.ref from by rw[bX];rfl];have h4:=h3.SM G3 (q:=(y,p.ow,m,we)) t3 cE tq;have G4:=G3.wr (a:=B.lp) (o:=.lst ((B.qs++[t]).map V.ref)) rfl;have F4:=F3.trans (Fr.write (o:=.lst ((B.qs++[t]).map V.ref)) h3.cp);have nz:z≠B.lp:=λe=>by have:=h3.op;rw[<-e,g3 _ _ z2]at this;cases this
  have z4:upd H3 B.lp (.lst ((B.qs++[t]).map V.ref)) z=some (.tup (Dd.v (.sever x y m we))):=by rw[ay nz];exact g3 _ _ z2
  generalize upd H3 B.lp (.lst ((B.qs++[t]).map V.ref))=H4 at *;refine⟨_,Z,B.m,_,Z,eW.k (k:=Sum.inr "known") h4.om,.inl ⟨Z,_,aI.of h4.ok⟩,_,Z,z,_,_,_,Z,Z,dz.of z4,aM (j:=2) rfl,B.lk,_,_,Z,Z,h4.ok,by rw[aG];exact dI (by show st.nms.length<=1000;omega),?_⟩;rw[show List.map V.str (d_ st).DO++[V.str y]=(st.nms++[y]).map V.str from by rw[bX];rfl];exact q _ _ _ (G4.wr rfl) (h4.OV G4 (st.nms++[y])) rfl (F4.trans (Fr.write h4.ck))
 | _=>exact absurd hd (by simp[Dd.part])
abbrev qB:Stmt:=top 37
abbrev kI:List Str:=["_law_model","_law_deed_here"]
abbrev FF:List Str:=kI.append ["_law_parts","_law_k","_law_part"]
theorem mj:aS FF kI (aF qB):=dX
theorem Eh(F:At K mg "_law_lite_do" qB f fd)(xx:Dn P w K mg base 1 "_law_at" xw (Wn K))(qC:Dn P w K mg base 1 "_law_lite_one" mh (Hj K))(cg:mg "len"=none)(dw:mg "range"=none):Dn P w K mg base 2 "_law_lite_do" kI (Cm K):=by
 refine F.oA mj λcdv A outer s H vs Q E hr h=>?_;obtain⟨⟨n,c,ρ,B,st,z,d,rfl,hz,G,hb,wf,g,hc,hr0,hk,q⟩⟩:=h;refine⟨_,(@c9.h _ _ _ (ak (a_ (i:=2) mj.nd (eT (d8 hr) (qv 0) bQ))
  (ak (jT (aX eY (aT (bh K) (qv 1) aq) bQ (bu _)) (ak (b9 (jy lQ nG nH ef (qv 2) (ah (ia (ah (aT (bh K) (qv 1) aq) (ah (aT (bh K) (qv 1) aq) (ah (aT (bh K) (qv 1) aq) (ah (aT (bh K) (qv 1) aq) au))))) au)))
  (az (b9 (jy lQ nG nH ef (eT (d8 hr) (qv 0) bQ) (ah (aT (bh K) (qv 1) aq) au))))) (az (cW (aX eY (aT (bh K) (qv 1) aq) bQ (bu _)) (az (fB fV rfl (GV (by rfl) dw (ah aq (ah (bU (dB K) (by rfl) cg fW (ah (qv 1) au)) (ah aq au)))) (aW (i:=3) mj.nd) (ak (a_ (i:=4) mj.nd (aT (dO K) (qv 2) (bL xx hr (ah (qv 2) (ah (aT (bh K) (qv 1) (qv 3)) au)))))
  (az (mO (aP mE (aT (dO K) (qv 4) aq) (aT (bh K) (qv 1) (aP cU (qv 3) aq))) (mP (qv 4) aq set_list)))))) (az (cW (aX JO (aT (bh K) (qv 1) aq) (h_ (ah bQ (ah bQ au))) (by with_unfolding_all rfl)) (az (b9 (bL qC hr (ah (qv 0) (ah (aT (dO K) (qv 2) (bL xx hr (ah (qv 2) (ah (aT (bh K) (qv 1) aq) au)))) (ah (qv 1) au)))))) bP)))))
  (az (uQ (d8 hr) (qv 0) bQ (KL ["_law_part"] [none] rfl (dZ K (eT (d8 hr) (qv 0) bQ)) (λ_ _ _ _=>(aW (i:=0) (show List.Nodup (["_law_part"] :List Str)from by decide +kernel))) (λ_ _ _ _=>(qv 0)) (λ_ _ _ _=>(aX jJ (aT (dO K) (qv 0) aq) aq (bu _))) rfl (by rfl)) rfl))))),?_⟩
 have ig:dz K H z d.v:=dz.of hz;have hpl:=g.pl;have hkl:=g.kl;refine⟨_,Z,B.m,_,Z,eW.k (k:=Sum.inr "parts") hb.om,?_⟩;refine⟨λσ' H'=>∃ρ5 B5 l5 s2 s3 s4,σ'=[some (.ref B.m),some (.ref z),s2,s3,s4]/\Gh ρ5 H'/\bV n ρ5 B5 H' l5/\l5.aj.length<=1000/\QU l5=d_ (iD st d)/\B5.m=B.m/\Fr n ρ H ρ5 H',?_,?_⟩
 .have ql:(aV st).length=st.aj.length:=by unfold aV;rw[aG]
  have bql:B.qs.length=st.aj.length:=by rw[<-ql];exact hb.ql
  have ndQ:((aV st).map λq:Q4=>q.1).Nodup:=by rw[y_];exact wf.dM
  have lq:(B.qs.map V.ref).length<1000:=by rw[aG];omega
  by_cases hp:d.part=none;rotate_left
  ·
   obtain⟨x,hx⟩:=Option.ne_none_iff_exists'.mp hp
   obtain⟨e1,k1,k2,k3,k9⟩:=Dd.aaB hx
   obtain⟨j,p,ep,en⟩:=jz (Yw hx hr0)
   subst en
   refine⟨_,Z,z,_,_,_,Z,Z,ig,aM d.v0,Z,_,Z,cI (λc=>absurd (V.str.inj (eF c)) (d.QS k1 (by decide))) (λ_=>?_)⟩
   refine⟨_,Z,z,_,_,_,Z,Z,ig,aM d.v0,Z,_,Z,cI (λc=>absurd (V.str.inj (eF c)) (d.QS k2 (by decide))) (λ_=>?_)⟩
   have hin:(!C9 (.str d.w) ((["award","still"] :List Str).map V.str))=true:=by rw[Ks,dG (λm=>by rcases b8.mp m with w|w;exact d.QS k3 (by decide) w;exact d.QS k9 (by decide) (eO.mp w))];rfl
   refine⟨_,Z,z,_,_,_,Z,Z,ig,aM d.v0,(gZ 2),λt ht=>⟨t,_,Z,.inr (dz.of ai),Z,wW ["award","still"],_,Z,cI (λ_=>?_) (λc=>absurd hin c)⟩⟩
   have g1:=aH ht (.tup [.str "award",.str "still"])
   have G1:=G.same g1
   have h1:=hb.mono g1
   have z1:=g1 _ _ hz
   generalize upd H t (.tup [.str "award",.str "still"])=H1 at *
   have jB:j<B.qs.length:=by rw[bql];exact(ee.mp ep).1
   have ea:=bK jB
   generalize B.qs[j]=a at *
   refine⟨_,Z,_,Z,_,Z,_,Z,z,_,_,_,Z,Z,dz.of z1,aM e1,⟨⟨B.lp,_,yh (aV st),j,(p.nm,p.wo),Z,aI.of h1.op,h1.nw,by rw[Hl];exact ndQ,by unfold yh;rw[aG];omega,by unfold yh;rw[cK,yg ep];rfl,?_⟩⟩⟩
   refine⟨B.lp,_,_,_,Z,Z,aI.of h1.op,aM (by rw[cK,ea];rfl),_,Z,⟨⟨n,ρ,B,st,j,p,a,z,d,Z,z1,G1,h1,ep,ea,hx,by omega,by omega,λρ' B' H' G' h' em F'=>?_⟩⟩⟩
   exact⟨ρ',B',_,_,_,_,Z,G',h',f_ (Vm _ _ _ _) (by show(aV st).length+1<=1000;omega),Vi wf hr0 ep hx,em,(Fr.of_same g1).trans F'⟩
  cases d with
  | load x o wo we=>
   refine⟨_,Z,z,_,_,_,Z,Z,ig,aM (j:=0) rfl,Z,_,Z,cI (λ_=>?_) (λc=>absurd (bq rfl) c)⟩;refine⟨_,Z,.inl ⟨Z,_,aI.of hb.op⟩,_,Z,z,_,_,_,Z,Z,ig,aM (j:=1) rfl,_,Z,z,_,_,_,Z,Z,ig,aM (j:=2) rfl,_,Z,z,_,_,_,Z,Z,ig,aM (j:=3) rfl,_,Z,z,_,_,_,Z,Z,ig,aM (j:=4) rfl,(gZ 4),λt ht=>?_⟩;have g3:=aH ht (.lst (iZ (x,o,wo,we)));have t3:upd H t (.lst (iZ (x,o,wo,we))) t=some (.lst (iZ (x,o,wo,we))):=ai;show uX _ (upd H t (.lst (iZ (x,o,wo,we)))) _;generalize upd H t (.lst (iZ (x,o,wo,we)))=H3 at *;have ct:ρ t=none:=G.none ht;have h3:=(hb.mono g3).col (t:=44) (x:=nx) ct;have G3:Gh (cY ρ t (n,44,nx)) H3:=(G.same g3).color t3 rfl;have F3:Fr n ρ H (cY ρ t (n,44,nx)) H3:=(Fr.of_same (ρ:=ρ) g3).oQ ht;have tq:t∉B.qs:=λmem=>by
    obtain⟨j,hj,ej⟩:=xy mem;have hj2:j<(aV st).length:=by omega
    have:=(hb.pt j _ t (bK hj2) (by rw[bK hj,ej])).1;rw[ht]at this;cases this
   refine⟨B.lp,_,_,Z,Z,h3.op,dI (by omega),?_⟩;rw[show B.qs.map V.ref++[V.ref t]=(B.qs++[t]).map V.ref from by rw[bX];rfl];have h4:=h3.SM G3 (q:=(x,o,wo,we)) t3 cE tq;have G4:=G3.wr (a:=B.lp) (o:=.lst ((B.qs++[t]).map V.ref)) rfl;have F4:=F3.trans (Fr.write (o:=.lst ((B.qs++[t]).map V.ref)) h3.cp);have nz:z≠B.lp:=λe=>by have:=h3.op;rw[<-e,g3 _ _ hz]at this;cases this
   have z4:upd H3 B.lp (.lst ((B.qs++[t]).map V.ref)) z=some (.tup (Dd.v (.load x o wo we))):=by rw[ay nz];exact g3 _ _ hz
   generalize upd H3 B.lp (.lst ((B.qs++[t]).map V.ref))=H4 at *;refine⟨_,Z,B.m,_,Z,eW.k (k:=Sum.inr "known") h4.om,.inl ⟨Z,_,aI.of h4.ok⟩,_,Z,z,_,_,_,Z,Z,dz.of z4,aM (j:=1) rfl,B.lk,_,_,Z,Z,h4.ok,by rw[aG];exact dI (by show st.nms.length<=1000;omega),?_⟩;rw[show List.map V.str (d_ st).DO++[V.str x]=(st.nms++[x]).map V.str from by rw[bX];rfl];exact⟨_,_,_,_,_,_,Z,G4.wr rfl,h4.OV G4 (st.nms++[x]),by show(aV st++[_]).length<=1000;rw[c7];show(aV st).length+1<=1000;omega,yZ (d:=.load x o wo we) wf hr0 rfl hk,Z,F4.trans (Fr.write h4.ck)⟩
  | cast rs=>
   refine dQ ig rfl (by decide) rfl (bM ?_);refine⟨_,Z,z,_,_,_,Z,Z,ig,aM (j:=0) rfl,Z,_,Z,cI (λ_=>?_) (λc=>absurd (bq rfl) c)⟩;obtain⟨_,WL,xN,_⟩:=s_ hr0;have hrl:rs.length<=st.aj.length:=by
    have:=u9 (l:=rs.map λr:Row=>r.1) (m:=d9 st) WL (λx hx=>by obtain⟨r,hr,rfl⟩:=aZ.mp hx;exact(j0 (xN r hr)).1)
    rwa [aG,show(d9 st).length=st.aj.length by unfold d9;rw[aG]]at this
   refine⟨_,Z,z,_,Z,.inr ig,_,_,_,Z,⟨by decide,by decide,by omega,by rw[y9];omega,by decide,by decide⟩,?_⟩;rw[y9,SS];refine QB (lo:=1) (st:=2) (n:=rs.length) (λi σ H'=>∃s3 s4,σ=[some (.ref B.m),some (.ref z),some (.ref B.lp),s3,s4]/\Gh ρ H'/\bV n ρ B H' { d_ st with aj:=mS (rs.take i) (aV st) }/\Fr n ρ H ρ H'/\H' z=some (.tup (Dd.v (.cast rs)))) ⟨_,_,Z,G,by rw[List.take_zero,Vl];exact hb,Fr.refl,hz⟩ ?_ ?_
   .rintro i σ H' hi ⟨s3,s4,rfl,G',h',F',z'⟩;have ei:=bK hi;generalize rs[i]=r at *;obtain⟨c1,c2⟩:=OX ei;obtain⟨j,p,ep,en⟩:=jz (j0 (xN r (cC ei))).1;have jB:j<B.qs.length:=by rw[bql];exact(ee.mp ep).1
    have ea:=bK jB;generalize B.qs[j]=a at *;have hn:r.1∉(rs.take i).map (λr:Row=>r.1):=by rw[CU];exact qW WL (by rw[cK,ei];rfl)
    obtain⟨m1,m2⟩:=SV (rs:=rs.take i) (r:=r) ndQ (yg ep) en hn;obtain⟨ha,ca⟩:=h'.pt j _ a m2 ea;have ha:H' a=some (.lst [.str p.nm,.str p.ow,.int p.wo,.int p.we]):=ha;have e1:(1:Int)+(i:Int)*2=((1+2*i:Nat):Int):=by omega
    have e2:((1+2*i:Nat):Int)+1=((2+2*i:Nat):Int):=by omega
    rw[e1];refine⟨_,Z,_,Z,_,Z,_,Z,z,_,_,_,Z,Z,dz.of z',aM c1,⟨⟨B.lp,_,yh (mS (rs.take i) (aV st)),j,(r.1,p.wo),Z,aI.of h'.op,h'.nw,by rw[Hl,QV];exact ndQ,by unfold yh;rw[aG,K7];omega,by unfold yh;rw[cK,m2,<-en];rfl,?_⟩⟩⟩;refine⟨B.lp,_,_,_,Z,Z,aI.of h'.op,aM (by rw[cK,ea];rfl),?_⟩;refine⟨_,Z,a,_,_,_,Z,Z,aI.of ha,aM (j:=2) rfl,_,Z,_,Z,_,_,Z,Z,z,_,_,_,Z,Z,dz.of z',by rw[e2];exact aM c2,_,_,Z,Z,_,Z,a,_,_,2,Z,Z,ha,Z,?_⟩;have za:z≠a:=λe=>by rw[e,ha]at z';cases z'
    refine⟨_,_,Z,G'.wr rfl,?_,F'.trans (Fr.write ca),by rw[ay za];exact z'⟩;rw[take_snoc ei,m1];exact h'.jn G' (p.nm,p.ow,p.wo-r.2,p.we) ea
   rintro σ H' ⟨s3,s4,rfl,G',h',F',z'⟩;rw[cM]at h';exact⟨ρ,B,_,_,_,_,Z,G',h',by show(mS rs (aV st)).length<=1000;rw[K7];omega,yZ (d:=.cast rs) wf hr0 rfl hk,Z,F'⟩
  | award o a=>refine dQ ig rfl (by decide) rfl (bM ?_);refine dQ ig rfl (by decide) rfl (bM ?_);exact⟨_,Z,z,_,_,_,Z,Z,ig,aM (j:=0) rfl,(gZ 2),λt ht=>⟨t,_,Z,.inr (dz.of ai),Z,wW ["award","still"],_,Z,cI (λc=>absurd c (by decide +kernel)) (λ_=>⟨ρ,B,d_ st,_,_,_,Z,G.same (aH ht _),hb.mono (aH ht _),by show(aV st).length<=1000;omega,yZ (d:=.award o a) wf hr0 rfl hk,Z,Fr.of_same (aH ht _)⟩)⟩⟩
  | still=>refine dQ ig rfl (by decide) rfl (bM ?_);refine dQ ig rfl (by decide) rfl (bM ?_);exact⟨_,Z,z,_,_,_,Z,Z,ig,aM (j:=0) rfl,(gZ 2),λt ht=>⟨t,_,Z,.inr (dz.of ai),Z,wW ["award","still"],_,Z,cI (λc=>absurd c (by decide +kernel)) (λ_=>⟨ρ,B,d_ st,_,_,_,Z,G.same (aH ht _),hb.mono (aH ht _),by show(aV st).length<=1000;omega,yZ (d:=.still) wf hr0 rfl hk,Z,Fr.of_same (aH ht _)⟩)⟩⟩
  | sign o=>exact absurd rfl hk
  | _=>exact absurd hp (by simp[Dd.part])
 rintro σ H5 ⟨ρ5,B5,l5,s2,s3,s4,rfl,G5,h5,pl5,el5,Tw,F5⟩;have WZ:=h5.ql;have qml:(B5.qs.map V.ref).length=l5.aj.length:=by rw[aG];exact WZ
 have om6:H5 B.m=some (.dK (jU B5)):=by rw[<-Tw];exact h5.om
 refine⟨_,Z,B.m,_,Z,eW.k (k:=Sum.inr "parts") om6,B5.lp,Z,⟨_,aI.of h5.op⟩,λlp vX=>?_⟩;refine XX (J:=zx K B5.lp) (n:=l5.aj.length) 0 (λi o H'=>aR H5 H'/\o=(ku (l5.aj.take i) (B5.qs.take i)).map V.ref) (by omega) ⟨aH vX _,Z⟩ (λi o H' hi _ hp=>⟨_,_,aI.of (hp.1 _ _ h5.op),bK (by rw[qml];exact hi)⟩) (λo H' _ hp=>⟨_,aI.of (hp.1 _ _ h5.op),by rw[qml];exact aO _⟩) ?_ ?_
 .rintro i y o H7 H8 hi gc ha ⟨g,e⟩ ⟨rfl,hy⟩;have ei:=bK hi;obtain⟨qq,eq,k1,_⟩:=h5.find ei;have ey:=hy _ (aI.of (g _ _ h5.op));rw[cK,eq]at ey;cases ey;have es:=MV ei eq;refine⟨_,Z,qq,_,_,_,Z,Z,aI.of (g _ _ k1),aM (j:=2) rfl,_,_,Z,Z,_,Z,cI (λc=>?_) (λc=>?_)⟩
  .rw [aC (eF c)]at es;refine⟨_,Z,ha,g.c8 vX _,?_⟩;rw[es,e,bX];rfl
  .rw [aB (uT (qP.mpr c))]at es;exact⟨ha,g,by rw[es,e,AW]⟩
 rintro o H7 _ ha ⟨g7,e⟩;rw[cM,<-WZ,cM]at e;subst e;have h7:=h5.mono g7;have G7:=G5.same g7;have clp:ρ5 lp=none:=G5.none vX;have h8:=h7.col (t:=42) (x:=nx) clp;have G8:Gh (cY ρ5 lp (n,42,nx)) H7:=G7.color ha rfl;have F8:Fr n ρ H (cY ρ5 lp (n,42,nx)) H7:=F5.trans (Fr.color vX g7);have h9:bV n (cY ρ5 lp (n,42,nx)) { { B5 with lp:=lp }with qs:=ku l5.aj B5.qs } (upd H7 B5.m (.dK (jU { B5 with lp:=lp }))) (QU l5):=h8.aaz G8 (lp:=lp) (qs:=ku l5.aj B5.qs) (ps:=l5.aj.filter λp=>decide (0<p.2.2.1)) ha cE (h5.nd.sublist yX) (DR WZ) (λi x y ex ey=>by obtain⟨j,a1,a2⟩:=AF WZ ex ey;exact h8.pt j x y a1 a2)
 have cm8:=h8.cm;rw[Tw]at h9 cm8;refine⟨_,Z,B.m,_,Z,xE.k (k:=Sum.inr "parts") (by rw[<-Tw];exact h7.om) (by show 3<sizeLine;decide),?_⟩;rw[Vk];rw[el5]at h9;exact q _ _ _ (G8.wr rfl) h9 rfl (F8.trans (Fr.write cm8))
abbrev um:Stmt:=top 38
abbrev qD:List Str:=["_law_script","_law_k","_law_model","_law_names_here","_law_many"]
abbrev L3:List Str:=qD.append ["_law_deeds_here","_law_at_here","_law_deed_here"]
theorem oE:aS L3 qD (aF um):=dX
theorem Ii(F:At K mg "_law_deeds" um f fd)(xR:Dn P w K mg base 4 "_law_deed" sJ (SN K))(jh:Dn P w K mg base 2 "_law_lite_do" kI (Cm K))(dw:mg "range"=none):Dn P w K mg base 5 "_law_deeds" qD (OY K):=by
 refine F.oA oE λcdv A outer s H vs Q E hr h=>?_;obtain⟨⟨n,c,m,ρ,B,st,a,ln,ns,k,nms,many,rfl,G,hb,gw,hc,hm,ho,fS,h63,hk0,hk1,fN,nx,hnl,q⟩⟩:=h;refine⟨_,(@c9.h _ _ _ (ak (a_ (i:=5) oE.nd (ia au))
  (ak (fB fV rfl (mL (by rfl) dw (ah (qv 4) au)) (aW (i:=6) oE.nd) (ak (a_ (i:=7) oE.nd (bL xR hr (ah (qv 0) (ah (aP cU (qv 1) (qv 6)) (ah (qv 2) (ah (qv 3) au))))))
  (ak (b9 (bL jh hr (ah (qv 2) (ah (qv 7) au))))
  (az (b9 (jy lQ nG nH ef (qv 5) (ah (qv 7) au)))))))
  (az (bF (qv 5)))))),?_⟩
 refine⟨(gZ 0),λl hl=>?_⟩;have g0:=aH hl (.lst []);have qm:upd H l (.lst []) l=some (.lst []):=ai;show iU _ _ _ _ (upd H l (.lst []));have F0:Fr n ρ H ρ (upd H l (.lst [])):=Fr.of_same g0;have cl0:ρ l=none:=G.none hl;have G0:=G.same g0;have hb0:=hb.mono g0;generalize upd H l (.lst [])=H0 at *;refine⟨_,Z,_,Z,by omega,by omega,?_⟩;refine mD (lo:=0) (n:=((many:Nat):Int).toNat) (λi σ H'=>∃ρ' B' zs ds s6 s7,σ=[some (.ref a),some (.int k),some (.ref B.m),some (.ref ln),some (.int (many:Int)),some (.ref l),s6,s7]/\Gh ρ' H'/\bV n ρ' B' H' (d_ (cL st ds))/\B'.m=B.m/\Fr n ρ H ρ' H'/\H' l=some (.lst zs)/\ρ' l=none/\nN H' zs ds/\mT st ds/\ds.length=i/\Nx nms (cL st ds))
  ⟨ρ,B,[],[],_,_,Z,G0,hb0,Z,F0,qm,cl0,.nil,mT.nil st,Z,nx⟩ ?_ ?_
 .rintro i σ H1 hi ⟨ρ1,B1,zs,ds,s6,s7,rfl,G1,h1,em,F1,hl1,zM,hD,hC,hdl,Ei⟩;have hi:i<many:=by omega
  have e0:(0:Int)+(i:Int)=((i:Nat):Int):=by omega
  rw[e0];obtain⟨nF,eo⟩:=hC.go gw (by omega) (by omega) ho ds.length (aO _);rw[cM]at nF eo;have o1:=F1.out;have W0:=fS _ _ o1;have hN1:=fN _ _ o1;refine⟨_,Z,_,Z,_,Z,_,_,Z,Z,_,Z,_,Z,⟨⟨a,B.m,ln,ns,k+i,nms,c+ds.length,cL st ds,Z,W0,h63,by omega,by omega,by rw[<-em];exact h1.q,hN1,Ei,hnl,nF.wf,nF.g,by omega,λz d H2 g2 hz hd=>?_⟩⟩⟩;obtain⟨d1,d2,d3,d4⟩:=hd;have G2:=G1.same g2;refine⟨_,Z,_,Z,⟨⟨n,c+ds.length,ρ1,B1,cL st ds,z,d,by rw[em];rfl,hz,G2,h1.mono g2,nF.wf,nF.g,by omega,d1,d4,λρ3 B3 H3 G3 h3 em3 F3=>?_⟩⟩⟩;obtain⟨hl3,cl3⟩:=F3 l _ (g2 _ _ hl1) (λt x e=>by rw[zM]at e;cases e);have tu:∀b xs,H2 b=some (.tup xs)->H3 b=some (.tup xs):=λb xs e=>(F3 b _ e (λt x z=>by rw[G2.tup e]at z;cases z)).1;have zl:=hD.length;refine⟨_,Z,.inl ⟨Z,_,aI.of hl3⟩,_,Z,l,_,_,Z,Z,hl3,dI (by omega),?_⟩;have F13:=(F1.trans (Fr.of_same (ρ:=ρ1) g2)).trans F3;have tl:∀b xs,H3 b=some (.tup xs)->upd H3 l (.lst (zs++[.ref z])) b=some (.tup xs):=gj (.inr ⟨_,hl3,Z⟩);have abH:ρ3 l=none:=cl3.trans zM;refine⟨ρ3,B3,zs++[.ref z],ds++[d],_,_,Z,G3.wr rfl,?_,em3.trans em,F13.new hl,ai,abH,((((hD.mono g2.tups).mono tu).snoc (tu _ _ hz)).mono tl),hC.snoc d1 d2 d4,by rw[c7];show ds.length+1=i+1;omega,by rw[iE];exact d3⟩;rw[iE];exact h3.same (sV abH hl3 rfl)
 rintro σ H1 ⟨ρ1,B1,zs,ds,s6,s7,rfl,G1,h1,em,F1,hl1,zM,hD,hC,hdl,Ei⟩;exact⟨_,Z,q l zs ds ρ1 B1 H1 G1 h1 em F1 hl1 zM hD hC (by omega) Ei⟩
abbrev qE:Stmt:=top 39
abbrev kJ:List Str:=["_law_hold","_law_deed_here"]
abbrev FG:List Str:=kJ
theorem Ej:aS FG kJ (aF qE):=dX
theorem Ek{T:TC}{e:Ec}(F:At K mg "_law_hold_do" qE f fd)(lO:Mn P w K mg base 3 T.hold "sign" nW (ES T))(xS:Mn P w K mg base 4 T.hold "load" r_ (So T))(j6:Mn P w K mg base 4 T.hold "cast" nX (Kw T K))(L4:Mn P w K mg base 4 T.hold "award" qw (sN (KQ T e)))(Ij:Mn P w K mg base 3 T.hold "mishap" oz (sN (GX T e)))(Nt:Mn P w K mg base 2 T.hold "rise" sf (sN (OM T e)))(Nu:Mn P w K mg base 2 T.hold "hand" sj (sN (ON T e)))(Nv:Mn P w K mg base 5 T.hold "land" sr (sN (OQ T e)))(L5:Mn P w K mg base 4 T.hold "sever" qx (sN (KR T e)))(cg:mg "len"=none)(dw:mg "range"=none):Dn P w K mg base 6 "_law_hold_do" kJ (Co T K):=by
 refine F.oA Ej λcdv A outer s H vs Q E hr h=>?_;obtain⟨⟨n,c,ρ,A,st,z,d,rfl,hz,hh,gg,hc,hk,ho,hr0,q⟩⟩:=h;refine⟨_,(@c9.h _ _ _ (ak (cW (aX eY (aT (bh K) (qv 1) aq) bQ (bu _)) (az (bF (bZ lO hr (qv 0) (ah (aT (bh K) (qv 1) aq) au)))) (az (cW (aX eY (aT (bh K) (qv 1) aq) bQ (bu _)) (az (bF (bZ xS hr (qv 0) (ah (aT (bh K) (qv 1) aq) (ah (aT (bh K) (qv 1) aq) (ah (aT (bh K) (qv 1) aq) (ah (aT (bh K) (qv 1) aq) au))))))) (az (cW (aX eY (aT (bh K) (qv 1) aq) bQ (bu _)) (az (bF (bZ j6 hr (qv 0) (ah (kq ["_law_k","_law_deed_here"] [none,some 1] rfl (GV (by rfl) dw (ah aq (ah (bU (dB K) (by rfl) cg fW (ah (qv 1) au)) (ah aq au)))) (λ_ _ _ _=>(aW (i:=0) (show List.Nodup (["_law_k","_law_deed_here"] :List Str)from by decide +kernel))) (λ_ _ _ _=>(h_ (ah (aT (bh K) (qv 1) (qv 0)) (ah (aT (bh K) (qv 1) (aP cU (qv 0) aq)) au)))) rfl (by rfl)) au)))) (az (cW (aX eY (aT (bh K) (qv 1) aq) bQ (bu _)) (az (bF (bZ L4 hr (qv 0) (ah (aT (bh K) (qv 1) aq) (ah (aT (bh K) (qv 1) aq) au))))) (az (cW (aX eY (aT (bh K) (qv 1) aq) bQ (bu _)) (az (bF (bZ Ij hr (qv 0) (ah (aT (bh K) (qv 1) aq) (ah (aT (bh K) (qv 1) aq) au))))) (az (cW (aX eY (aT (bh K) (qv 1) aq) bQ (bu _)) (az (bF (bZ Nt hr (qv 0) (ah (aT (bh K) (qv 1) aq) (ah (aT (bh K) (qv 1) aq) au))))) (az (cW (aX eY (aT (bh K) (qv 1) aq) bQ (bu _)) (az (bF (bZ Nu hr (qv 0) (ah (aT (bh K) (qv 1) aq) (ah (aT (bh K) (qv 1) aq) au))))) (az (cW (aX eY (aT (bh K) (qv 1) aq) bQ (bu _)) (az (bF (bZ Nv hr (qv 0) (ah (aT (bh K) (qv 1) aq) au)))) (az (cW (aX eY (aT (bh K) (qv 1) aq) bQ (bu _)) (az (bF (bZ L5 hr (qv 0) (ah (aT (bh K) (qv 1) aq) (ah (aT (bh K) (qv 1) aq) (ah (aT (bh K) (qv 1) aq) (ah (aT (bh K) (qv 1) aq) au))))))) bP)))))))))))))))))
  (az (bF aap)))),?_⟩
 have wf:=hh.wf;have hpl:=gg.pl;have hkl:=gg.kl;cases d with
 | sign o=>obtain⟨s1,s2⟩:=SW hr0;refine⟨_,Z,z,_,_,_,Z,Z,hz,aM (j:=0) rfl,Z,_,Z,cI (λ_=>?_) (λc=>absurd (bq rfl) c)⟩;refine⟨_,Z,A.a,A.dx,_,Z,hh.h.oa,Z,_,Z,z,_,_,_,Z,Z,hz,aM (j:=1) rfl,⟨⟨n,ρ,A,st,o,Z,hh,s1,s2,ho,q⟩⟩⟩
 | load x o wo we=>obtain⟨l1,l2,l3,l4,l5⟩:=sX hr0;refine dQ hz rfl (by decide) rfl (bM ?_);refine⟨_,Z,z,_,_,_,Z,Z,hz,aM (j:=0) rfl,Z,_,Z,cI (λ_=>?_) (λc=>absurd (bq rfl) c)⟩;refine⟨_,Z,A.a,A.dx,_,Z,hh.h.oa,Z,_,Z,z,_,_,_,Z,Z,hz,aM (j:=1) rfl,_,Z,z,_,_,_,Z,Z,hz,aM (j:=2) rfl,_,Z,z,_,_,_,Z,Z,hz,aM (j:=3) rfl,_,Z,z,_,_,_,Z,Z,hz,aM (j:=4) rfl,⟨⟨n,ρ,A,st,x,o,wo,we,Z,hh,l1,l2,l3,l4,l5,by omega,by omega,q⟩⟩⟩
 | cast rs=>
  refine dQ hz rfl (by decide) rfl (bM ?_);refine dQ hz rfl (by decide) rfl (bM ?_);refine⟨_,Z,z,_,_,_,Z,Z,hz,aM (j:=0) rfl,Z,_,Z,cI (λ_=>?_) (λc=>absurd (bq rfl) c)⟩;have ok:=gg.tD wf (by omega) hr0;have hrl:rs.length<=1000:=ok.len;refine⟨_,Z,A.a,A.dx,_,Z,hh.h.oa,Z,_,Z,z,_,Z,.inr hz,_,_,_,Z,⟨by decide,by decide,by omega,by rw[y9];omega,by decide,by decide⟩,?_⟩;rw[y9,SS];intro acc hacc;refine lg (J:=QA 1 2 rs.length) (n:=rs.length) 0 (λi out H1=>aR H H1/\dH H1 out (rs.take i)) (by omega) ⟨aH hacc _,.nil⟩ (λi o H' hi _ _=>hi) (λo H' _ _=>aO _) ?_ ?_
  .rintro i x out H1 H2 hi gc ha ⟨g,R⟩ ⟨rfl,rfl⟩;have ei:=bK hi;generalize rs[i]=r at *;obtain⟨c1,c2⟩:=OX ei;have e1:(1:Int)+(i:Int)*2=((1+2*i:Nat):Int):=by omega
   have e2:((1+2*i:Nat):Int)+1=((2+2*i:Nat):Int):=by omega
   rw[e1];refine⟨_,Z,_,Z,z,_,_,_,Z,Z,g.tup hz,aM c1,_,Z,_,Z,_,_,Z,Z,z,_,_,_,Z,Z,g.tup hz,by rw[e2];exact aM c2,(gZ 2),λp hp=>?_⟩;have g6:=aH hp (tT r);refine⟨g6 _ _ ha,(g.trans g6).c8 hacc _,?_⟩;rw[take_snoc ei];exact((R.mono g6.tups).snoc ai).mono (gj (.inr ⟨_,g6 _ _ ha,Z⟩))
  rintro out H1 gc ha ⟨g,R⟩;rw[cM]at R;exact⟨⟨n,ρ,A,st,acc,out,rs,Z,hh.mono g,aI.of ha,R,ok,λρ' A' H' a1 a2 a3=>q ρ' A' H' a1 a2 ((Fr.of_same g).trans a3)⟩⟩
 | award o a=>refine dQ hz rfl (by decide) rfl (bM ?_);refine dQ hz rfl (by decide) rfl (bM ?_);refine dQ hz rfl (by decide) rfl (bM ?_);refine⟨_,Z,z,_,_,_,Z,Z,hz,aM (j:=0) rfl,Z,_,Z,cI (λ_=>?_) (λc=>absurd (bq rfl) c)⟩;refine⟨_,Z,A.a,A.dx,_,Z,hh.h.oa,Z,_,Z,z,_,_,_,Z,Z,hz,aM (j:=1) rfl,_,Z,z,_,_,_,Z,Z,hz,aM (j:=2) rfl,⟨⟨n,ρ,A,st,o,a,Z,hh,gg.aw wf (by omega),.of hr0 q⟩⟩⟩
 | mishap x a=>refine dQ hz rfl (by decide) rfl (bM ?_);refine dQ hz rfl (by decide) rfl (bM ?_);refine dQ hz rfl (by decide) rfl (bM ?_);refine dQ hz rfl (by decide) rfl (bM ?_);refine⟨_,Z,z,_,_,_,Z,Z,hz,aM (j:=0) rfl,Z,_,Z,cI (λ_=>?_) (λc=>absurd (bq rfl) c)⟩;refine⟨_,Z,A.a,A.dx,_,Z,hh.h.oa,Z,_,Z,z,_,_,_,Z,Z,hz,aM (j:=1) rfl,_,Z,z,_,_,_,Z,Z,hz,aM (j:=2) rfl,⟨⟨n,ρ,A,st,x,a,Z,hh,.of hr0 q⟩⟩⟩
 | rise x a=>refine dQ hz rfl (by decide) rfl (bM ?_);refine dQ hz rfl (by decide) rfl (bM ?_);refine dQ hz rfl (by decide) rfl (bM ?_);refine dQ hz rfl (by decide) rfl (bM ?_);refine dQ hz rfl (by decide) rfl (bM ?_);refine⟨_,Z,z,_,_,_,Z,Z,hz,aM (j:=0) rfl,Z,_,Z,cI (λ_=>?_) (λc=>absurd (bq rfl) c)⟩;refine⟨_,Z,A.a,A.dx,_,Z,hh.h.oa,Z,_,Z,z,_,_,_,Z,Z,hz,aM (j:=1) rfl,_,Z,z,_,_,_,Z,Z,hz,aM (j:=2) rfl,⟨⟨n,ρ,A,st,x,a,Z,hh,.of hr0 q⟩⟩⟩
 | hand x o=>refine dQ hz rfl (by decide) rfl (bM ?_);refine dQ hz rfl (by decide) rfl (bM ?_);refine dQ hz rfl (by decide) rfl (bM ?_);refine dQ hz rfl (by decide) rfl (bM ?_);refine dQ hz rfl (by decide) rfl (bM ?_);refine dQ hz rfl (by decide) rfl (bM ?_);refine⟨_,Z,z,_,_,_,Z,Z,hz,aM (j:=0) rfl,Z,_,Z,cI (λ_=>?_) (λc=>absurd (bq rfl) c)⟩;refine⟨_,Z,A.a,A.dx,_,Z,hh.h.oa,Z,_,Z,z,_,_,_,Z,Z,hz,aM (j:=1) rfl,_,Z,z,_,_,_,Z,Z,hz,aM (j:=2) rfl,⟨⟨n,ρ,A,st,x,o,Z,hh,gg.sum,.of hr0 q⟩⟩⟩
 | land x=>refine dQ hz rfl (by decide) rfl (bM ?_);refine dQ hz rfl (by decide) rfl (bM ?_);refine dQ hz rfl (by decide) rfl (bM ?_);refine dQ hz rfl (by decide) rfl (bM ?_);refine dQ hz rfl (by decide) rfl (bM ?_);refine dQ hz rfl (by decide) rfl (bM ?_);refine dQ hz rfl (by decide) rfl (bM ?_);refine⟨_,Z,z,_,_,_,Z,Z,hz,aM (j:=0) rfl,Z,_,Z,cI (λ_=>?_) (λc=>absurd (bq rfl) c)⟩;refine⟨_,Z,A.a,A.dx,_,Z,hh.h.oa,Z,_,Z,z,_,_,_,Z,Z,hz,aM (j:=1) rfl,⟨⟨n,ρ,A,st,x,Z,hh,gg.ld wf (by omega) hk,.of hr0 q⟩⟩⟩
 | sever x y a we=>refine dQ hz rfl (by decide) rfl (bM ?_);refine dQ hz rfl (by decide) rfl (bM ?_);refine dQ hz rfl (by decide) rfl (bM ?_);refine dQ hz rfl (by decide) rfl (bM ?_);refine dQ hz rfl (by decide) rfl (bM ?_);refine dQ hz rfl (by decide) rfl (bM ?_);refine dQ hz rfl (by decide) rfl (bM ?_);refine dQ hz rfl (by decide) rfl (bM ?_);refine⟨_,Z,z,_,_,_,Z,Z,hz,aM (j:=0) rfl,Z,_,Z,cI (λ_=>?_) (λc=>absurd (bq rfl) c)⟩;refine⟨_,Z,A.a,A.dx,_,Z,hh.h.oa,Z,_,Z,z,_,_,_,Z,Z,hz,aM (j:=1) rfl,_,Z,z,_,_,_,Z,Z,hz,aM (j:=2) rfl,_,Z,z,_,_,_,Z,Z,hz,aM (j:=3) rfl,_,Z,z,_,_,_,Z,Z,hz,aM (j:=4) rfl,⟨⟨n,ρ,A,st,x,y,a,we,Z,hh,Kl (kX (show iN st x y a we=none from hr0)).2.1.1,by omega,by omega,.of hr0 q⟩⟩⟩
 | still=>refine dQ hz rfl (by decide) rfl (bM ?_);refine dQ hz rfl (by decide) rfl (bM ?_);refine dQ hz rfl (by decide) rfl (bM ?_);refine dQ hz rfl (by decide) rfl (bM ?_);refine dQ hz rfl (by decide) rfl (bM ?_);refine dQ hz rfl (by decide) rfl (bM ?_);refine dQ hz rfl (by decide) rfl (bM ?_);refine dQ hz rfl (by decide) rfl (bM ?_);refine dQ hz rfl (by decide) rfl (bM ?_);exact q ρ A H hh rfl Fr.refl
abbrev rQ:Stmt:=top 40
abbrev oF:List Str:=["_law_owners","_law_deeds_here"]
abbrev Ik:List Str:=oF.append ["_law_hold","_law_owner","_law_deed_here"]
theorem nq:aS Ik oF (aF rQ):=dX
theorem FH{T:TC}(F:At K mg "_law_behind" rQ f fd)(yp:Cn P w K mg base 3 "Hold" T.hold ["self"] (ER T))(lO:Mn P w K mg base 3 T.hold "sign" nW (ES T))(iw:Dn P w K mg base 6 "_law_hold_do" kJ (Co T K)):Dn P w K mg base 7 "_law_behind" oF (S3 T K):=by
 refine F.oA nq λcdv A outer s H vs Q E hr h=>?_;obtain⟨⟨n,ρ,zo,l,own,zs,ds,rfl,G,fO,fL,hD,hC,oM,K2,ajz,L6,hdl,q⟩⟩:=h;refine⟨_,(@c9.h _ _ _ (ak (a_ (i:=2) nq.nd (DL yp hr))
  (ak (fB fV rfl (dZ K (qv 0)) (aW (i:=3) nq.nd) (az (b9 (bZ lO hr (qv 2) (ah (qv 3) au)))))
  (ak (fB fV rfl (dZ K (qv 1)) (aW (i:=4) nq.nd) (az (b9 (bL iw hr (ah (qv 2) (ah (qv 4) au))))))
  (az (bF (qv 2))))))),?_⟩
 intro x dx hx hdx hne;refine⟨⟨x,dx,ρ,n,Z,ai,(G.alloc hdx).alloc (by rw[ay (bY hne)];exact hx),G.none hx,λρ4 A4 H4 ea4 nE k4=>⟨Z,?_⟩⟩⟩;have F4:Fr n ρ H ρ4 H4:=λb o e _=>k4 b o (by rw[ay (aD e hx),ay (aD e hdx)];exact e) (aD e hx);refine⟨_,Z,zo,Z,⟨_,fO _ _ F4.out⟩,?_⟩;refine jj (K:=K) (xs:=own.map V.str) (λi σ H'=>∃ρ' A' s5,σ=[some (.ref zo),some (.ref l),some (.ref x),s5,none]/\A'.a=x/\HH T n ρ' A' H' ((own.take i).foldl g_ hs0)/\Fr n ρ H ρ' H')
  ⟨ρ4,A4,none,Z,ea4,nE,F4⟩ (λi σ H' _ hp=>by obtain⟨_,_,_,_,_,_,f⟩:=hp;exact fO _ _ f.out) ?_ ?_
 .rintro i y σ H' hy ⟨ρ',A',s2,rfl,ea',Tz,F'⟩;rw[cK]at hy;obtain⟨o,eo,rfl⟩:=nI.mp hy;have hi:=(ee.mp eo).1;have abI:((own.take i).foldl g_ hs0).own=own.take i:=by rw[wV];rfl
  refine⟨_,Z,x,A'.dx,_,Z,ea'▸Tz.h.oa,Z,_,Z,⟨⟨n,ρ',A',_,o,by rw[ea'];rfl,Tz,L6 o (cC eo),?_,?_,λρ2 A2 H2 h2 e2 F2=>?_⟩⟩⟩
  .rw [abI];intro m;have h2:(own.take (i+1)).Nodup:=oM.sublist (Qa _ _);rw[take_snoc eo]at h2;exact(JB.mp h2).2.2 o m o (eO.mpr rfl) rfl
  .rw [abI,nK];omega
  .rw [take_snoc eo,BR];exact⟨ρ2,A2,_,Z,e2.trans ea',h2,F'.trans F2⟩
 rintro σ H5 ⟨ρ5,A5,s5,rfl,ea5,vI,F5⟩;rw[aG,cM]at vI;have vI:HH T n ρ5 A5 H5 (iP own):=vI;clear nE k4 F4;have gw:=gw0 oM K2 (by omega) L6;have Pn:=E3 own;have an0:An (iP own):=λx hx=>by rw[show(iP own).bO=[]from(nc own hs0 rfl (λu hu=>absurd hu (by simp[hs0]))).2.2.2.2.1]at hx;cases hx
 have chg:=hC.go gw mo0 an0 (by omega) (by omega) (by rw[Pn];omega);have zl:=hD.length;refine⟨_,Z,l,Z,⟨zs,fL _ _ F5.out⟩,?_⟩;refine jj (K:=K) (xs:=zs) (λi σ H'=>∃ρ' A' s3 s4,σ=[some (.ref zo),some (.ref l),some (.ref x),s3,s4]/\HH T n ρ' A' H' (cL (iP own) (ds.take i))/\A'.a=x/\Fr n ρ H ρ' H')
  ⟨ρ5,A5,_,_,Z,vI,ea5,F5⟩ (λi σ H' _ hp=>by obtain⟨_,_,_,_,_,_,_,f⟩:=hp;exact fL _ _ f.out) ?_ ?_
 .rintro i y σ H7 hy ⟨ρ7,A7,s3,s4,rfl,xo,ea7,F7⟩;obtain⟨z,d,rfl,ed,hz⟩:=hD.get hy;have hi:=(ee.mp ed).1;obtain⟨zN,eo7,_⟩:=chg i (by omega);obtain⟨d1,d2,d3⟩:=hC i d ed;rw[Pn]at eo7;have Hx:H7 z=some (.tup d.v):=(iV (F7.out _ _ (lu hz (G.tup hz)))).1;have kn7:=zN.kn;refine⟨_,Z,_,Z,⟨⟨n,0+i,ρ7,A7,_,z,d,by rw[ea7];rfl,dz.of Hx,xo,zN.g,by omega,by omega,by rw[eo7];omega,d1,λρ8 A8 H8 vM ea8 F8=>?_⟩⟩⟩;rw[<-iE,<-take_snoc ed]at vM;exact⟨ρ8,A8,_,_,Z,vM,ea8.trans ea7,F7.trans F8⟩
 rintro σ H8 ⟨ρ8,A8,s3,s4,rfl,vM,ea8,F8⟩;rw[zl,cM]at vM;have ch:=chg ds.length (aO _);rw[cM]at ch;refine⟨_,Z,?_⟩;rw[Nat.zero_add,Nat.zero_add]at ch;have:=q ρ8 A8 H8 vM ch.1 (ch.2.1.trans Pn) ch.2.2.1 ch.2.2.2 F8;rw[ea8]at this;exact this
abbrev uo:Stmt:=top 41
abbrev qF:List Str:=["_law_script","_law_k","_law_model","_law_many"]
abbrev L7:List Str:=qF.append ["_law_casts_here","_law_at_here","_law_rows_here"]
theorem oG:aS L7 qF (aF uo):=dX
theorem Il(F:At K mg "_law_casts" uo f fd)(lM:Dn P w K mg base 2 "_law_rows" nZ (EY K))(lN:Dn P w K mg base 1 "_law_flat" n5 (K6 K))(jh:Dn P w K mg base 2 "_law_lite_do" kI (Cm K))(cg:mg "len"=none)(dw:mg "range"=none):Dn P w K mg base 3 "_law_casts" qF (O6 K):=by
 refine F.oA oG λcdv A outer s H vs Q E hr h=>?_;obtain⟨⟨n,c,m,ρ,B,st,a,ns,k,nms,many,rfl,G,hb,gw,hc,hm,ho,fS,h63,hk0,hk1,nx,hnl,q⟩⟩:=h;refine⟨_,(@c9.h _ _ _ (ak (a_ (i:=4) oG.nd (ia au))
  (ak (fB fV rfl (mL (by rfl) dw (ah (qv 3) au)) (aW (i:=5) oG.nd) (ak (a_ (i:=6) oG.nd (bL lM hr (ah (qv 0) (ah (aP cU (qv 1) (qv 5)) (ah (eT (d8 hr) (qv 2) bQ) au)))))
  (az (cW (aX jJ (bU (dB K) (by rfl) cg fW (ah (qv 6) au)) aq (bu _)) (ak (b9 (jy lQ nG nH ef (qv 4) (ah (qv 6) au)))
  (az (b9 (bL jh hr (ah (qv 2) (ah (bL lN hr (ah (qv 6) au)) au)))))) bP))))
  (az (bF (qv 4)))))),?_⟩
 refine⟨(gZ 0),λl hl=>?_⟩;have g0:=aH hl (.lst []);have qm:upd H l (.lst []) l=some (.lst []):=ai;show iU _ _ _ _ (upd H l (.lst []));have F0:Fr n ρ H ρ (upd H l (.lst [])):=Fr.of_same g0;have cl0:ρ l=none:=G.none hl;have G0:=G.same g0;have hb0:=hb.mono g0;generalize upd H l (.lst [])=H0 at *;refine⟨_,Z,_,Z,by omega,by omega,?_⟩;refine mD (lo:=0) (n:=((many:Nat):Int).toNat) (λi σ H'=>∃(ρ':cu)(B':LA)(ws:List V)(cs:List (List Row))(s5 s6:Option V),σ=[some (.ref a),some (.int k),some (.ref B.m),some (.int (many:Int)),some (.ref l),s5,s6]/\Gh ρ' H'/\bV n ρ' B' H' (d_ (cL st (cs.map Dd.cast)))/\B'.m=B.m/\Fr n ρ H ρ' H'/\H' l=some (.lst ws)/\ρ' l=none/\nU l ρ' H' ws cs/\mT st (cs.map Dd.cast)/\cs.length<=i/\Nx nms (cL st (cs.map Dd.cast)))
  ⟨ρ,B,[],[],_,_,Z,G0,hb0,Z,F0,qm,cl0,.nil,mT.nil st,aO _,nx⟩ ?_ ?_
 .rintro i σ H1 hi ⟨ρ1,B1,ws,cs,s5,s6,rfl,G1,h1,em,F1,hl1,zM,hD,hC,hdl,Ei⟩;have e0:(0:Int)+(i:Int)=((i:Nat):Int):=by omega
  rw[e0];have gwi:=hC.go gw (by rw[aG];omega) (by rw[aG];omega) ho cs.length (by rw[aG];exact aO _);rw[show(cs.map Dd.cast).take cs.length=cs.map Dd.cast by rw[<-aG (f:=Dd.cast)];exact cM]at gwi;obtain⟨nF,ow1⟩:=gwi;have om1:H1 B.m=some (.dK (jU B1)):=by rw[<-em];exact h1.om
  have nw1:=h1.nw (K:=K);rw[show(d_ (cL st (cs.map Dd.cast))).aj=aV (cL st (cs.map Dd.cast))from rfl,Vu]at nw1;have pl1:=Ei.pl nF.wf;have nwl:(mR (cL st (cs.map Dd.cast))).length<=1000:=by unfold mR;rw[aG];omega
  have fS1:=fS.go F1.out;refine⟨_,Z,_,Z,_,Z,_,_,Z,Z,_,Z,B.m,_,Z,eW.k (k:=Sum.inr "parts") om1,⟨⟨a,B1.lp,ns,k+i,_,mR (cL st (cs.map Dd.cast)),Z,fS1 _ _ (aR.refl _),h63,by omega,by omega,aI.of h1.op,nw1,by unfold mR;rw[gr];exact nF.wf.dM,nwl,(λw hw=>by unfold mR at hw;obtain⟨p,hp,rfl⟩:=aZ.mp hw;exact(nF.wf.jK p hp).1),λz zs rs H2 g2 hz0 hz2 hR rok=>?_⟩⟩⟩;have FI:=g2 _ _ hl1;have nzl:z≠l:=λe=>by rw[e,hl1]at hz0;cases hz0
  have zl:=hR.length;have h2:=h1.mono g2;have G2:=G1.same g2;have F2:=F1.trans (Fr.of_same (ρ:=ρ1) g2);have D2:nU l ρ1 H2 ws cs:=hD.keep (λz us e c _=>⟨g2 _ _ e,c⟩) g2.tups;have wl:=hD.length;refine⟨_,Z,z,_,Z,.inl (aI.of hz2),_,_,Z,Z,_,Z,cI (λcc=>?_) (λcc=>?_)⟩
  .have hne:rs≠[] :=λe=>by have:=eF cc;rw[zl,e]at this;exact absurd this (by decide)
   have r1:=DP nF.wf rok hne;refine⟨_,Z,.inl ⟨Z,_,aI.of FI⟩,_,Z,l,_,_,Z,Z,FI,by rw[wl];exact dI (by omega),?_⟩;have h3:=h2.same (sV (o:=.lst (ws++[.ref z])) zM FI rfl);have G3:=G2.wr (a:=l) (o:=.lst (ws++[.ref z])) rfl;have D3:nU l ρ1 (upd H2 l (.lst (ws++[.ref z]))) (ws++[.ref z]) (cs++[rs]):=(D2.snoc hz2 (G1.none hz0) nzl hR).keep (λz us e c n=>⟨by rw[ay n];exact e,c⟩) (gj (.inr ⟨_,FI,Z⟩));have hl3:upd H2 l (.lst (ws++[.ref z])) l=some (.lst (ws++[.ref z])):=ai;have hz3:upd H2 l (.lst (ws++[.ref z])) z=some (.lst zs):=by rw[ay nzl];exact hz2
   have R3:dH (upd H2 l (.lst (ws++[.ref z]))) zs rs:=hR.mono (gj (.inr ⟨_,FI,Z⟩));have F3:Fr n ρ H ρ1 (upd H2 l (.lst (ws++[.ref z]))):=λb o e hb=>let⟨x,y⟩:=F2 b o e hb;⟨by rw[ay (aD e hl)];exact x,y⟩;show Rp _ _ _ (upd H2 l (.lst (ws++[.ref z])));generalize upd H2 l (.lst (ws++[.ref z]))=H3 at *;refine⟨_,Z,_,Z,⟨⟨z,zs,rs,Z,aI.of hz3,R3,by have:=rok.len;omega,λt H4 g4 ht=>⟨⟨n,c+cs.length,ρ1,B1,cL st (cs.map Dd.cast),t,.cast rs,by rw[em];rfl,ht,G3.same g4,h3.mono g4,nF.wf,nF.g,by omega,r1,(λz=>nomatch z),λρ5 B5 H5 G5 h5 Tw F5=>?_⟩⟩⟩⟩⟩;have W2:Fr n ρ1 H3 ρ5 H5:=(Fr.of_same (ρ:=ρ1) g4).trans F5;have eC:cL st ((cs++[rs]).map Dd.cast)=iD (cL st (cs.map Dd.cast)) (.cast rs):=by rw[bX];exact iE _ _ _
   refine⟨ρ5,B5,ws++[.ref z],cs++[rs],_,_,Z,G5,by rw[eC];exact h5,Tw.trans em,F3.trans W2,?_,?_,D3.outs G3 W2.out,?_,by rw[c7];show cs.length+1<=i+1;omega,?_⟩
   .exact (W2 l _ hl3 (λt y e=>by rw[zM]at e;cases e)).1
   .exact (W2 l _ hl3 (λt y e=>by rw[zM]at e;cases e)).2.trans zM
   .rw [bX];exact hC.snoc r1 (Vw nF.g rok (by omega) nF.wf) (λz=>nomatch z)
   .rw [eC];exact Ei.keep (K5 (d:=.cast rs) (λz=>nomatch z) (λz=>nomatch z))
  .exact ⟨ρ1,B1,ws,cs,_,_,Z,G2,h2,em,F2,FI,zM,D2,hC,by omega,Ei⟩
 rintro σ H1 ⟨ρ1,B1,ws,cs,s5,s6,rfl,G1,h1,em,F1,hl1,zM,hD,hC,hdl,Ei⟩;exact⟨_,Z,q l ws cs ρ1 B1 H1 G1 h1 em F1 hl1 zM hD hC (by omega) Ei⟩
abbrev v9:Stmt:=top 42
abbrev sL:List Str:=["_law_hold"]
abbrev Ny:List Str:=sL.append ["_law_parts","_law_shares","_law_purses"]
theorem qG:aS Ny sL (aF v9):=dX
theorem L_{T:TC}(F:At K mg "_law_snap" v9 f fd)(v_:Mn P w K mg base 1 T.hold "parts" qh (OC T))(uc:Mn P w K mg base 4 T.hold "shares" lE (yV T))(wc:Mn P w K mg base 3 T.hold "purse" qy (OZ T))(oH:Mn P w K mg base 1 T.hold "roster" oB (Kf T))(jI:Mn P w K mg base 1 T.hold "landed" lF (Kh T))(gX:Mn P w K mg base 1 T.hold "whole" kF (Bj T)):Dn P w K mg base 5 "_law_snap" sL (S_ T K):=by
 refine F.oA qG λcdv A outer s H vs Q E hr h=>?_;obtain⟨⟨n,ρ,A,st,rfl,hh,hk,q⟩⟩:=h;refine⟨_,(@c9.h _ _ _ (ak (a_ (i:=1) qG.nd (kr v_ hr (qv 0)))
  (ak (pD (i:=2) ["_law_part","_law_hold"] [none,some 0] qG.nd rfl rfl rfl (dZ K (qv 1)) (λ_ _ _ _=>(aW (i:=0) (show List.Nodup (["_law_part","_law_hold"] :List Str)from by decide +kernel))) (λ_ _ _ _=>(bZ uc hr (qv 1) (ah (aT (bh K) (qv 0) aq) au))) rfl (by rfl) (by rfl))
  (ak (pD (i:=3) ["_law_owner","_law_hold"] [none,some 0] qG.nd rfl rfl rfl (dZ K (kr oH hr (qv 0))) (λ_ _ _ _=>(aW (i:=0) (show List.Nodup (["_law_owner","_law_hold"] :List Str)from by decide +kernel))) (λ_ _ _ _=>(bZ wc hr (qv 1) (ah (qv 0) au))) rfl (by rfl) (by rfl))
  (az (bF (ia (ah (kr oH hr (qv 0)) (ah (qv 1) (ah (qv 2) (ah (kr jI hr (qv 0)) (ah (kr gX hr (qv 0)) (ah (qv 3) au))))))))))))),?_⟩
 have wf:=hh.wf;have pL:=wf.mH;refine⟨_,Z,A.a,A.dx,_,Z,hh.h.oa,Z,⟨⟨n,ρ,A,st,Z,hh.h,wf.mH,λr0 ws0 H1 g1 hr0 hr1 hP=>?_⟩⟩⟩;have iz:=hh.mono g1;have c0:ρ r0=none:=hh.g.none hr0;have wl:=hP.length;refine⟨_,Z,r0,Z,⟨_,aI.of hr1⟩,λla hla=>?_⟩;have cla:ρ la=none:=iz.g.none hla;refine lg (J:=zx K r0) (n:=st.aj.length) 0 (λi out H'=>∃k,HH T n ρ A H' { st with kn:=k }/\k<=st.kn+100*i/\Fr n ρ H1 ρ H'/\vB la ρ H' st out (st.aj.take i)) (by omega) ⟨st.kn,iz.mono (aH hla _),aO _,Fr.of_same (aH hla _),.nil⟩ (λi o H' hi _ hp=>by obtain⟨_,_,_,f,_⟩:=hp;exact⟨_,_,f.seq (aI.of hr1) c0,bK (by omega)⟩) (λo H' _ hp=>by obtain⟨_,_,_,f,_⟩:=hp;exact⟨_,f.seq (aI.of hr1) c0,by omega⟩) ?_ ?_
 .rintro j y out H2 H3 hj Ff ha ⟨k,h2,hk2,F2,S⟩ ⟨rfl,hy⟩;have ep:=bK hj;generalize st.aj[j]=p at ep;obtain⟨t,et,ht⟩:=hP.get ep;have ey:=hy _ (F2.seq (aI.of hr1) c0);rw[et]at ey;cases ey;have ht':H3 t=some (DB p):=(F2 t _ ht (λt' x' z'=>by rw[iz.g.tup ht]at z';cases z')).1;refine⟨_,Z,A.a,A.dx,_,Z,h2.h.oa,Z,_,Z,t,_,_,_,Z,Z,dz.of ht',aM (j:=0) rfl,⟨⟨n,ρ,A,_,j,p,Z,h2,ep,by show k+100<=1000000;omega,λz us H4 h4 F4 hz0 hz cz hsh=>?_⟩⟩⟩;have Lx:H4 la=some (.lst out):=(F4 la _ ha (λt y e=>by rw[cla]at e;cases e)).1;have nz:z≠la:=λe=>by rw[e,ha]at hz0;cases hz0
  have hsh:jm H4 us (gQ st p):=hsh;refine⟨Lx,k+100,h4.wrO cla Lx rfl rfl,by omega,?_,?_⟩
  .exact λb o e hb=>let⟨x,y⟩:=(F2.trans F4) b o e hb;⟨by rw[ay (aD e hla)];exact x,y⟩
  .rw [take_snoc ep];have S4:vB la ρ H4 st out (st.aj.take j):=S.keep (λz us e c _=>⟨(F4 z _ e (λt y e=>by rw[c]at e;cases e)).1,c⟩) λb xs e=>(F4 b _ e (λt y z=>by rw[h2.g.tup e]at z;cases z)).1;exact(S4.snoc hz cz nz hsh).keep (λz us e c n=>⟨by rw[ay n];exact e,c⟩) (gj (.inr ⟨_,Lx,Z⟩))
 rintro wa H2 wal ha2 ⟨k,h2,hk2,F2,S2⟩;rw[cM]at S2;refine⟨_,Z,A.a,A.dx,_,Z,h2.h.oa,Z,⟨⟨n,ρ,A,_,Z,h2.h,λr1 abO=>?_⟩⟩⟩;have g3:=aH abO (.lst (st.own.map V.str));have W3:upd H2 r1 (.lst (st.own.map V.str)) r1=some (.lst (st.own.map V.str)):=ai;have l9:=h2.mono g3;have cr1:ρ r1=none:=h2.g.none abO;show Rr K _ (.ref r1) (upd H2 r1 (.lst (st.own.map V.str)));generalize upd H2 r1 (.lst (st.own.map V.str))=H3 at *;refine⟨r1,Z,⟨_,aI.of W3⟩,λlp vX=>?_⟩;have oL:=wf.ki;refine lg (J:=zx K r1) (n:=st.own.length) 0 (λi out H'=>aR H3 H'/\lT H' out ((st.own.take i).map (tE st))) (by omega) ⟨aH vX _,.nil⟩ (λi o H' hi _ hp=>⟨_,_,aI.of (hp.1 _ _ W3),by rw[cK,bK hi];rfl⟩) (λo H' _ hp=>⟨_,aI.of (hp.1 _ _ W3),by rw[aG];exact aO _⟩) ?_ ?_
 .rintro j y out H5 H6 hj Ff ha ⟨g,R⟩ ⟨rfl,hy⟩;have ey:=hy _ (aI.of (g _ _ W3));rw[cK]at ey;obtain⟨o,eo,rfl⟩:=nI.mp ey;have h5:=l9.h.mono g;refine⟨_,Z,A.a,A.dx,_,Z,h5.oa,Z,_,Z,⟨⟨n,ρ,A,_,o,Z,h5,l9.wf,cC eo,λr H7 g7 hr7=>⟨g7 _ _ ha,(g.trans g7).c8 vX _,?_⟩⟩⟩⟩;rw[take_snoc eo,bX];exact((R.mono g7).snoc hr7).XH (g7 _ _ ha)
 rintro wp H4 _ Lx ⟨g4,R4⟩;rw[cM]at R4;have nE:=l9.mono g4;have clp:ρ lp=none:=l9.g.none vX;refine⟨_,Z,A.a,A.dx,_,Z,nE.h.oa,Z,⟨⟨n,ρ,A,_,Z,nE.h,λr5 abP=>?_⟩⟩⟩;have g5:=aH abP (.lst (st.own.map V.str));have hr5:upd H4 r5 (.lst (st.own.map V.str)) r5=some (.lst (st.own.map V.str)):=ai;have vI:=nE.mono g5;have c5:ρ r5=none:=nE.g.none abP;show Qp _ _ _ (upd H4 r5 (.lst (st.own.map V.str))) _;generalize upd H4 r5 (.lst (st.own.map V.str))=H5 at *;refine⟨_,Z,_,Z,_,Z,A.a,A.dx,_,Z,vI.h.oa,Z,⟨⟨n,ρ,A,_,Z,vI,λr6 ws6 H6 g6 agS AQ hL=>?_⟩⟩⟩;have xm:=vI.mono g6;have c6:ρ r6=none:=vI.g.none agS;refine⟨_,Z,A.a,A.dx,_,Z,xm.h.oa,Z,⟨⟨n,ρ,A,_,Z,xm.h,xm.wf.mH,λH7 g7=>⟨_,Z,(gZ 6),λr hr=>?_⟩⟩⟩⟩;have g8:=aH hr (.lst [.ref r5,.ref r0,.ref la,.ref r6,.int (aE st),.ref lp]);have hr8:upd H7 r (.lst [.ref r5,.ref r0,.ref la,.ref r6,.int (aE st),.ref lp]) r=some (.lst [.ref r5,.ref r0,.ref la,.ref r6,.int (aE st),.ref lp]):=ai;have vM:=(xm.mono g7).mono g8;have cr:ρ r=none:=(xm.mono g7).g.none hr;show Q (.ref r) (upd H7 r (.lst [.ref r5,.ref r0,.ref la,.ref r6,.int (aE st),.ref lp]));generalize upd H7 r (.lst [.ref r5,.ref r0,.ref la,.ref r6,.int (aE st),.ref lp])=H8 at *;have W4:aR H2 H8:=((((g3.trans g4).trans g5).trans g6).trans g7).trans g8;have s58:aR H5 H8:=(g6.trans g7).trans g8;have s68:aR H6 H8:=g7.trans g8;have s48:aR H4 H8:=g5.trans s58;have F8:Fr n ρ H1 ρ H8:=F2.trans (Fr.of_same W4);refine q r k H8 vM hk2 ((Fr.of_same g1).trans F8) λρ' H9 s9=>?_;have tu:=rC vM.g s9;have li:∀{z:Addr}{xs:List V},H8 z=some (.lst xs)->ρ z=none->aI K H9 z xs:=λe c=>(aI.of (K:=K) e).outs c s9;have h0:H8 r0=some (.lst ws0):=(F8 r0 _ hr1 (λt y e=>by rw[c0]at e;cases e)).1;have P8:jw H8 ws0 st.aj:=hP.mono λb xs e=>(F8 b _ e (λt y z=>by rw[iz.g.tup e]at z;cases z)).1;have S8:vB la ρ H8 st wa st.aj:=S2.keep (λz us e c _=>⟨W4 _ _ e,c⟩) W4.tups;have S9:vB la ρ' H9 st wa st.aj:=S8.keep (λz us e c _=>iV (s9 _ _ (lu e c))) tu;have L8:kj ρ H8 ws6 st.bO:=hL.outs xm.g (UZ s68);have L9:=L8.outs vM.g s9;have str:∀(l:List Str),uw K H9 (l.map V.str) (l.map PyData.str):=λl=>by
  induction l with
  | nil=>exact .nil
  | cons o l ih=>exact .cons (.str _) ih
 exact .lst (li hr8 cr) (.cons (.lst (li (s58 _ _ hr5) c5) (str _)) (.cons (.lst (li h0 c0) (P8.mono tu).dt) (.cons (.lst (li (W4 _ _ ha2) cla) S9.dt) (.cons (.lst (li (s68 _ _ AQ) c6) L9.dt) (.cons (.int _) (.cons (.lst (li (s48 _ _ Lx) clp) ((R4.mono s48).tups tu).dt) .nil))))))
abbrev o7:Stmt:=top 43
abbrev mw:List Str:=["_law_casts_here"]
abbrev El:List Str:=mw.append ["_law_rows_here","_law_cast","_law_name_here","_law_amount","_law_named"]
theorem iy:aS El mw (aF o7):=dX
theorem CF(F:At K mg "_law_together" o7 f fd):Dn P w K mg base 1 "_law_together" mw (WB K):=by
 refine F.oA iy λcdv A outer s H vs Q E hr h=>?_;obtain⟨⟨a,l,ρ,ws,cs,rfl,hl,hC,hle,q⟩⟩:=h;refine⟨_,(@c9.h _ _ _ (ak (a_ (i:=1) iy.nd (ia au))
  (ak (fB fV rfl (dZ K (qv 0)) (aW (i:=2) iy.nd) (az (fB fV rfl (dZ K (qv 2)) (iu K (n:=2) rfl (cD (aW (i:=3) iy.nd) (cD (aW (i:=4) iy.nd) ir))) (ak (pD (i:=5) ["_law_row"] [none] iy.nd rfl rfl rfl (dZ K (qv 1)) (λ_ _ _ _=>(aW (i:=0) (show List.Nodup (["_law_row"] :List Str)from by decide +kernel))) (λ_ _ _ _=>(aT (bh K) (qv 0) aq)) rfl (by rfl) (by rfl))
  (az (jT (aX Gq (qv 3) (qv 5) (by with_unfolding_all rfl)) (az (mO (h_ (ah (qv 3) (ah (aP cU (aT (bh K) (aT (dO K) (qv 1) (jy lQ PySem.F.slot_list_index PySem.F.type_list_index (Hs K) (qv 5) (ah (qv 3) au))) aq) (qv 4)) au))) (mP (qv 1) (jy lQ PySem.F.slot_list_index PySem.F.type_list_index (Hs K) (qv 5) (ah (qv 3) au)) set_list))) (az (b9 (jy lQ nG nH ef (qv 1) (ah (h_ (ah (qv 3) (ah (qv 4) au))) au))))))))))
  (az (bF (qv 1)))))),?_⟩
 refine⟨(gZ 0),λp hp=>?_⟩;have g0:=aH hp (.lst []);have hp0:upd H p (.lst []) p=some (.lst []):=ai;show iU _ _ _ _ (upd H p (.lst []));generalize upd H p (.lst [])=H0 at *;refine⟨_,Z,l,Z,⟨ws,aI.of (g0 _ _ hl)⟩,?_⟩;have wl:=hC.length;refine jj (K:=K) (xs:=ws) (λi σ H'=>aR H H'/\∃zs R s2 s3 s4 s5,σ=[some (.ref l),some (.ref p),s2,s3,s4,s5]/\H' p=some (.lst zs)/\dH H' zs R/\Tg (cs.take i).flatten R) ⟨g0,[],[],_,_,_,_,Z,hp0,.nil,Tg.nil⟩ (λi σ H' _ hp=>aI.of (hp.1 _ _ hl)) ?_ ?_
 .rintro i x σ H1 hx ⟨g1,zs,R,s2,s3,s4,s5,rfl,hp1,hR,tg⟩;obtain⟨z,us,rs,rfl,er,hz,_,_,hU⟩:=hC.get hx;have ul:=hU.length;refine⟨_,Z,z,Z,⟨us,aI.of (g1 _ _ hz)⟩,?_⟩;refine jj (K:=K) (xs:=us) (λj σ H'=>aR H H'/\∃zs R s3 s4 s5,σ=[some (.ref l),some (.ref p),some (.ref z),s3,s4,s5]/\H' p=some (.lst zs)/\dH H' zs R/\Tg ((cs.take i).flatten++rs.take j) R) ⟨g1,zs,R,_,_,_,Z,hp1,hR,by rw[List.take_zero,AW];exact tg⟩ (λi σ H' _ hp=>aI.of (hp.1 _ _ hz)) ?_ ?_
  .rintro j x σ H2 hx ⟨g2,zs,R,s3,s4,s5,rfl,hp2,hR,tg⟩;obtain⟨b,r,rfl,ej,hb⟩:=hU.get hx;have hb2:=g2 _ _ hb;have zl:=hR.length;have fl:=f_ (YD (j:=j) er) hle;have tl:=tg.le;refine⟨b,_,Z,dz.of hb2,Z,_,_,Z,_,_,Z,Z,?_⟩;refine⟨_,Z,p,Z,⟨_,aI.of hp2⟩,λacc hacc=>?_⟩;refine lg (J:=zx K p) (n:=zs.length) 0 (λi o H'=>aR H2 H'/\o=((R.take i).map λr:Row=>r.1).map V.str) (by omega) ⟨aH hacc _,Z⟩ (λi o H' hi _ hp=>⟨_,_,aI.of (hp.1 _ _ hp2),bK hi⟩) (λo H' _ hp=>⟨_,aI.of (hp.1 _ _ hp2),aO _⟩) ?_ ?_
   .rintro k y o H3 H4 hi gc ha ⟨g,e⟩ ⟨rfl,hy⟩;obtain⟨a2,r2,rfl,e2,h2⟩:=hR.get (hy _ (aI.of (g _ _ hp2)));refine⟨_,Z,a2,_,_,_,Z,Z,dz.of (g _ _ h2),Z,ha,g.c8 hacc _,?_⟩;rw[e,take_snoc e2,bX,bX];rfl
   rintro o H3 gc ha ⟨g3,e⟩;rw[zl,cM]at e;have e:o=(ie R).map V.str:=e;subst e;have hp3:=g3 _ _ hp2;have g23:=g2.trans g3;have R3:=hR.mono g3.tups;have tg2:Tg ((cs.take i).flatten++rs.take (j+1)) (kD R r):=by rw[take_snoc ej,<-Jz];exact tg.snoc r
   refine⟨λσ H'=>aR H H'/\∃zs s5,σ=[some (.ref l),some (.ref p),some (.ref z),some (.str r.1),some (.int r.2),s5]/\H' p=some (.lst zs)/\dH H' zs (kD R r),?_,?_⟩
   .refine ⟨_,Z,_,Z,acc,_,Z,.inl (aI.of ha),Z,wW _,?_⟩;refine⟨_,Z,?_⟩;show if C9 (.str r.1) ((ie R).map V.str)=true then _ else _;rw[Ks];refine cI (λcc=>?_) (λcc=>?_)
    .have hm:=eF cc;have hk:(ie R).idxOf r.1<R.length:=by have:=uu hm;unfold ie at this ⊢;rw[aG]at this;exact this
     have ez:=bK (show(ie R).idxOf r.1<zs.length by omega);obtain⟨a3,r3,e3,er3,h3⟩:=R3.get ez;rw[e3]at ez;have eg:(R.getD ((ie R).idxOf r.1) r)=r3:=by rw[kK,er3];rfl
     have et:=Td r R hm;rw[eg]at et;refine⟨_,Z,_,Z,_,Z,.inl ⟨Z,_,aI.of ha⟩,_,Z,acc,ie R,r.1,Z,Z,aI.of ha,hm,p,_,_,_,Z,Z,aI.of hp3,aM ez,a3,_,_,_,Z,Z,dz.of h3,Z,_,Z,_,_,Z,Z,(gZ 2),λt ht=>?_⟩;have g4:=aH ht (.tup [.str r.1,.int (r3.2+r.2)]);have h4:upd H3 t (.tup [.str r.1,.int (r3.2+r.2)]) t=some (tT (r.1,r3.2+r.2)):=ai;show BV 1 _ (upd H3 t (.tup [.str r.1,.int (r3.2+r.2)])) _;generalize upd H3 t (.tup [.str r.1,.int (r3.2+r.2)])=H4 at *;have Ht:=g4 _ _ hp3;refine⟨_,Z,_,Z,.inl ⟨Z,_,aI.of (g4 _ _ ha)⟩,_,Z,acc,ie R,r.1,Z,Z,aI.of (g4 _ _ ha),hm,p,_,_,_,Z,Z,Ht,uK (by omega),(g23.trans g4).c8 hp _,_,_,Z,ai,?_⟩;rw[<-et];exact((R3.mono g4.tups).set h4 _).mono (gj (.inr ⟨_,Ht,Z⟩))
    .have hm:r.1∉ie R:=λm=>cc (bq m);refine⟨_,Z,.inl ⟨Z,_,aI.of hp3⟩,_,Z,_,Z,(gZ 2),λt ht=>?_⟩;have g4:=aH ht (.tup [.str r.1,.int r.2]);have h4:upd H3 t (.tup [.str r.1,.int r.2]) t=some (tT r):=ai;show uX _ (upd H3 t (.tup [.str r.1,.int r.2])) _;generalize upd H3 t (.tup [.str r.1,.int r.2])=H4 at *;have Ht:=g4 _ _ hp3;refine⟨p,_,_,Z,Z,Ht,by rw[zl];exact dI (by omega),(g23.trans g4).c8 hp _,_,_,Z,ai,?_⟩;rw[<-O8 r R hm];exact((R3.mono g4.tups).snoc h4).mono (gj (.inr ⟨_,Ht,Z⟩))
   rintro σ H5 ⟨g5,zs5,s5,rfl,h5,R5⟩;exact⟨g5,zs5,kD R r,_,_,_,Z,h5,R5,tg2⟩
  rintro σ H2 ⟨g2,zs,R,s3,s4,s5,rfl,hp2,hR,tg⟩;refine⟨g2,zs,R,_,_,_,_,Z,hp2,hR,?_⟩;rw[ul,cM]at tg;rw[take_snoc er,PR];simpa using tg
 rintro σ H1 ⟨g1,zs,R,s2,s3,s4,s5,rfl,hp1,hR,tg⟩;rw[wl,cM]at tg;exact⟨_,Z,q p zs R H1 g1 hp1 hp hR tg⟩
abbrev qH:Stmt:=top 44
abbrev Rc:List Str:=["_law_script"]
abbrev ads:List Str:=Rc.append ["_law_owners","_law_names_here","_law_model","_law_one","_law_other","_law_casts_here","_law_rows_here","_law_deed_here"]
theorem qI:aS ads Rc (aF qH):=dX
theorem abQ{T:TC}(F:At K mg "law" qH f fd)(bg:Dn P w K mg base 1 "_law_draw" iG (sP K))(qJ:Dn P w K mg base 2 "_law_names" qz (EK K))(xT:Dn P w K mg base 1 "_law_lite" sH (SR K))(qK:Dn P w K mg base 5 "_law_deeds" qD (OY K))(ur:Dn P w K mg base 7 "_law_behind" oF (S3 T K))(xU:Mn P w K mg base 5 T.hold "twin" lJ (O2 T))(wg:Dn P w K mg base 3 "_law_casts" qF (O6 K))(j6:Mn P w K mg base 4 T.hold "cast" nX (Kw T K))(qL:Dn P w K mg base 1 "_law_together" mw (WB K))(lP:Dn P w K mg base 5 "_law_snap" sL (S_ T K))(iw:Dn P w K mg base 6 "_law_hold_do" kJ (Co T K))(cg:mg "len"=none):kh P w K mg base u7 8 f fd Rc (Jk K):=by
 refine F.fn.ok qI (λvs H Q E h=>?_) (λcdv A outer s H vs Q E hr h=>?_)
 .obtain ⟨a,ns,rfl,_⟩:=h;rfl
 obtain⟨a,ns,rfl,hS,h63,q⟩:=h;refine⟨_,(@c9.h _ _ _ (ak (a_ (i:=1) qI.nd (bL qJ hr (ah (qv 0) (ah aq (ah (aP cU aq (bL bg hr (ah (qv 0) (ah aq (ah aq (ah aq au)))))) au)))))
  (ak (a_ (i:=2) qI.nd (bL qJ hr (ah (qv 0) (ah aq (ah aq au)))))
  (ak (a_ (i:=3) qI.nd (bL xT hr (ah (qv 1) au)))
  (ak (a_ (i:=4) qI.nd (bL ur hr (ah (qv 1) (ah (bL qK hr (ah (qv 0) (ah aq (ah (qv 3) (ah (qv 2) (ah (aP cU aq (bL bg hr (ah (qv 0) (ah aq (ah aq (ah aq au)))))) au)))))) au))))
  (ak (a_ (i:=5) qI.nd (kr xU hr (qv 4)))
  (ak (a_ (i:=6) qI.nd (bL wg hr (ah (qv 0) (ah aq (ah (qv 3) (ah (aP cU aq (bL bg hr (ah (qv 0) (ah aq (ah aq (ah aq au)))))) au))))))
  (ak (fB fV rfl (dZ K (qv 6)) (aW (i:=7) qI.nd) (az (b9 (bZ j6 hr (qv 4) (ah (qv 7) au)))))
  (ak (jT (aX jJ (bU (dB K) (by rfl) cg fW (ah (qv 6) au)) aq (bu _)) (az (b9 (bZ j6 hr (qv 5) (ah (bL qL hr (ah (qv 6) au)) au)))) bP)
  (ak (cW (aX (XG K hr.units) (bL lP hr (ah (qv 4) au)) (bL lP hr (ah (qv 5) au)) (bu _)) (az (bF Wu)) bP)
  (ak (fB fV rfl (dZ K (bL qK hr (ah (qv 0) (ah aq (ah (qv 3) (ah (qv 2) (ah (bL bg hr (ah (qv 0) (ah aq (ah aq (ah aq au))))) au))))))) (aW (i:=8) qI.nd) (ak (b9 (bL iw hr (ah (qv 4) (ah (qv 8) au))))
  (az (b9 (bL iw hr (ah (qv 5) (ah (qv 8) au)))))))
  (az (bF (Bl (XF K hr.units) (bL lP hr (ah (qv 4) au)) (bL lP hr (ah (qv 5) au)) (bu _))))))))))))))),?_⟩
 refine⟨_,Z,_,Z,c_ hS h63 (by decide) (by decide) (by decide) (by decide) λod _ o0 o1=>⟨_,_,Z,Z,?_⟩⟩;obtain⟨no,hno⟩:∃no:Nat,1+od=(no:Int):=⟨(1+od).toNat,by omega⟩
 refine Gy hno hS h63 (by decide) (by omega) λzo nso H1 g1 hzo _ ajA abR abS=>?_;have W0:=g1.seq hS;refine⟨_,Z,Gy (show(6:Int)=((6:Nat):Int)from rfl) W0 h63 (by decide) (by decide) λzn nsn H2 g2 hzn _ ajB abT abU=>?_⟩;have LZ:=g2.seq W0;have VG:=g2 _ _ hzo;rw[X8]at VG hzn;have gc:=OF nso;have hnl:=OF nsn;have oM:=GK abR;have L6:=Su abS;have nmN:=GK abT;have agT:=Su abU;generalize DG nso=own at *;generalize DG nsn=nms at *;clear abR abS abT abU hzo;have fS0:=yd.of LZ;have fN0:=yd.of (aI.of (K:=K) hzn);have fO0:=yd.of (aI.of (K:=K) VG);refine⟨_,Z,⟨⟨zo,own,1,λ_=>none,Z,aI.of VG,(λb c e=>by cases e),by omega,λρ3 B3 H3 G3 TF k3=>?_⟩⟩⟩;have F3:Fr 1 (λ_=>none) H2 ρ3 H3:=λb o e _=>k3 b o e;have W5:=fS0.go F3.out;have fN3:=fN0.go F3.out;have fO3:=fO0.go F3.out;have gw:=gw0 oM (by omega) (by omega) (λo ho=>(L6 o ho).isNm);have Pn:=E3 own;have nx0:Nx nms (iP own):=aaD nmN (λx hx=>(agT x hx).isNm);rw[<-Vn]at TF;have TF:bV 1 ρ3 B3 H3 (d_ (iP own)):=TF;refine⟨_,Z,_,Z,_,Z,_,Z,_,Z,c_ (W5 _ _ (aR.refl _)) h63 (by decide) (by decide) (by decide) (by decide) λmd _ m0 m1=>⟨_,_,Z,Z,?_⟩⟩;obtain⟨many,adt⟩:∃many:Nat,2+md=(many:Int):=⟨(2+md).toNat,by omega⟩
 rw[adt];refine⟨⟨1,0,0,ρ3,B3,iP own,a,zn,ns,4,nms,many,Z,G3,TF,gw,by omega,by omega,by rw[Pn];omega,W5,h63,by decide,by decide,fN3,nx0,by omega,λl zs ds ρ6 B6 H6 G6 hb6 em6 F6 hl6 cl6 hD hC hdl nx6=>?_⟩⟩;have fS6:=W5.go F6.out;have fO6:=fO3.go F6.out;have fN6:=fN3.go F6.out;refine⟨⟨0,ρ6,zo,l,own,zs,ds,Z,G6,fO6,(λρ' H' s=>(aI.of (K:=K) hl6).outs cl6 s),hD,hC.toG,oM,by omega,by omega,(λo ho=>(L6 o ho).isNm),by omega,λρ7 A7 H7 xo zN ow7 mo6 an6 F7=>?_⟩⟩;have hb7:=hb6.other F7 G6 (by decide);have fS7:=fS6.go F7.out;have fO7:=fO6.go F7.out;have fN7:=fN6.go F7.out;clear hD hC hl6 cl6 fS6 fO6 W5 fN3 fO3 TF hb6 gw nx0 F6 F7 k3 F3 fS0 fN0 fO0 Pn;have hc7:ds.length<=10:=by omega
 generalize ds.length=c at *;generalize cL (iP own) ds=st at *;subst ow7;refine⟨_,Z,A7.a,A7.dx,_,Z,xo.h.oa,Z,⟨⟨0,2,ρ7,A7,st,Z,by decide,xo,λρ8 C8 H8 W6 k8=>?_⟩⟩⟩;have vM:=xo.other (k8.fr (n:=2)) W6.g (by decide);have hb8:=hb7.other (k8.fr (n:=2)) xo.g (by decide);have W7:aR (out ρ7 H7) (out ρ8 H8):=(k8.fr (n:=2)).out;have W8:=fS7.go W7;have fO8:=fO7.go W7;have fN8:=fN7.go W7;clear xo hb7 fS7 fO7 k8 W7;have ok:=zN.g.st mo6 zN.wf (by omega);have G8:=W6.g;have wf:=zN.wf;have ol:st.own.length<=10:=by omega
 refine⟨_,Z,_,Z,_,Z,c_ (W8 _ _ (aR.refl _)) h63 (by decide) (by decide) (by decide) (by decide) λcd _ cd0 cd1=>⟨_,_,Z,Z,?_⟩⟩;obtain⟨cm,wQ⟩:∃cm:Nat,2+cd=(cm:Int):=⟨(2+cd).toNat,by omega⟩
 rw[wQ];refine⟨⟨1,c,100*c,ρ8,B6,st,a,ns,12,nms,cm,by rw[em6];rfl,G8,hb8,zN,by omega,by omega,by omega,W8,h63,by decide,by decide,nx6,by omega,λlc ws cs ρ9 B9 H9 G9 O_ em9 F9 TH W9 W_ Ma hcl nx9=>?_⟩⟩;have Tp:=vM.other F9 G9 (by decide);have Tr:=W6.other F9 G9 (by decide);have fS9:=W8.go F9.out;have fN9:=fN8.go F9.out;have wl:=W_.length;have bf:=Lg Ma zN (by omega) (by omega) (by omega);have chg:=Ma.go zN (by rw[aG];omega) (by rw[aG];omega) (by omega);clear vM W6 hb8 W8 fO8 fN8 F9 G8;refine⟨_,Z,lc,Z,⟨_,aI.of TH⟩,?_⟩;refine jj (K:=K) (xs:=ws) (λi σ H'=>∃ρ' A' s7,σ=[some (.ref a),some (.ref zo),some (.ref zn),some (.ref B3.m),some (.ref A'.a),some (.ref C8.a),some (.ref lc),s7,none]/\HH T 0 ρ' A' H' (cL st ((cs.take i).map Dd.cast))/\Fr 0 ρ9 H9 ρ' H') ⟨ρ9,A7,_,Z,Tp,Fr.refl⟩ (λi σ H' _ hp=>by obtain⟨_,_,_,_,_,f⟩:=hp;exact(aI.of (K:=K) TH).outs W9 f.out) ?_ ?_
 .rintro i x σ H' hx ⟨ρ',A',s7,rfl,Tz,F'⟩;obtain⟨z,zs,rs,rfl,er,hz,cz,_,hR⟩:=W_.get hx;have hi:=(ee.mp er).1;have gi:=(chg i (by rw[aG];omega)).1;rw[<-CU]at gi;have ok:=gi.g.tD gi.wf (by omega) (Ma.cs i rs er);refine⟨_,Z,A'.a,A'.dx,_,Z,Tz.h.oa,Z,_,Z,⟨⟨0,ρ',A',_,z,zs,rs,Z,Tz,(aI.of hz).outs cz F'.out,hR.mono (rC G9 F'.out),ok,λρ2 A2 H2 nD ea2 F2=>?_⟩⟩⟩;refine⟨ρ2,A2,_,by rw[ea2];rfl,?_,F'.trans F2⟩;rw[take_snoc er,bX];rw[show cL st ((cs.take i).map Dd.cast++[rs].map Dd.cast)=cV (cL st ((cs.take i).map Dd.cast)) rs from iE _ _ _];exact nD
 rintro σ BD ⟨Po,A10,s7,rfl,Mb,BJ⟩;rw[wl,cM]at Mb;have Rg:=Tr.other BJ Mb.g (by decide);have abZ:=O_.other BJ G9 (by decide);have ab0:=fS9.go BJ.out;have ab1:=fN9.go BJ.out;have ab2:=W_.outs G9 BJ.out;have VH:BD lc=some (.lst ws):=(BJ lc _ TH (λt y e=>by rw[W9]at e;cases e)).1;have ajC:Po lc=none:=(BJ lc _ TH (λt y e=>by rw[W9]at e;cases e)).2.trans W9;clear Tp Tr O_ fS9 fN9 W_ TH BJ;have gwl:=chg cs.length (by rw[aG];exact aO _);rw[show(cs.map Dd.cast).take cs.length=cs.map Dd.cast by rw[<-aG (f:=Dd.cast)];exact cM]at gwl;obtain⟨nF,ow1⟩:=gwl;have TJ:=Ma.mo zN mo6 (by rw[aG];omega) (by rw[aG];omega) (by omega) (cs.map Dd.cast).length (aO _);rw[cM,aG]at TJ;have an1:An (cL st (cs.map Dd.cast)):=λx hx=>by have e:=(bf cs.length (aO _)).1.bO;rw[cM]at e;rw[e]at hx;exact an6 x hx
 have WH:=Mb.g;have gk:GW c (100*c) { st with kn:=0 }:=⟨zN.g.kn 0,QJ wf (fH _),fH _⟩
 have b0:pG st [] { st with kn:=0 }:=(let b:=pG.nil wf;⟨b.own,b.nms,b.bO,b.qd,b.wh,b.sh,b.pu⟩)
 have b1:=(bf cs.length (aO _)).1;rw[cM]at b1;have fl:=Ma.flat
 refine⟨λσ H'=>∃ρ' C' s',σ=[some (.ref a),some (.ref zo),some (.ref zn),some (.ref B3.m),some (.ref A10.a),some (.ref C'.a),some (.ref lc),s7,none]/\HH T 2 ρ' C' H' s'/\GW (c+cs.length) (100*c+100) s'/\s'.own=st.own/\VE (cL st (cs.map Dd.cast)) s'/\Fr 2 Po BD ρ' H',?_,?_⟩
 .refine ⟨_,Z,lc,_,Z,.inl (aI.of VH),_,_,Z,Z,_,Z,cI (λcc=>?_) (λcc=>?_)⟩
  .have c0:0<cs.length:=by have:=eF cc;rw[wl]at this;omega
   refine⟨_,Z,C8.a,C8.dx,_,Z,Rg.h.oa,Z,_,Z,⟨⟨lc,lc,Po,ws,cs,Z,VH,ab2,by omega,λp zs R K_ Pb agU hp0 hR tg=>?_⟩⟩⟩;obtain⟨cr,w0,f1,f2⟩:=tg.ok Ma zN (by omega) (by omega) (by omega) c0 b0 gk.wf;have ok:=gk.g.tD gk.wf (by omega) cr;refine⟨⟨2,Po,C8,_,p,zs,R,Z,Rg.mono Pb,aI.of agU,hR,ok,λρ3 C3 H3 hc3 Tn F3=>?_⟩⟩;have gd:=gk.do (d:=.cast R) (by omega) (by omega) (by show st.own.length<100;omega) cr True.intro;have b3:=b0.cast wf gk.wf w0 ok;rw[CP]at b3;exact⟨ρ3,C3,_,by rw[Tn],hc3,(by have:=gd.up (cs.length-1) (aO _);rwa [show c+1+(cs.length-1)=c+cs.length by omega]at this),q_ _ _,MY b1 b3 wf (λ_=>f1) (λ_=>f2) tg.al,(Fr.of_same (ρ:=Po) Pb).trans F3⟩
  .have c0:cs=[] :=List.length_eq_zero_iff.mp (by have:¬ (0:Int)<_:=λz=>cc (bq z);rw[wl]at this;omega);refine⟨Po,C8,_,Z,Rg,gk.up _ (by omega),Z,?_,Fr.refl⟩;rw[c0];exact⟨Z,Z,Z,Z,(VE.refl wf).sh,(VE.refl wf).pu⟩
 rintro σ H15 ⟨TL,C15,s2,rfl,VI,Xa,ow2,ve,TM⟩;have VJ:=Mb.other TM VI.g (by decide);have ab3:=abZ.other TM WH (by decide);have ab4:=ab0.go TM.out;have ab5:=ab1.go TM.out;clear Mb Rg abZ ab0 ab1 TM ab2 VH b1 bf chg Ma b0;generalize cL st (cs.map Dd.cast)=s1 at *;have pl1:=nF.g.pl;have pl2:=Xa.g.pl;have kn1:=nF.kn;have kn2:=Xa.kn;have pd1:=(O5 nF.g nF.wf TJ an1)
 refine⟨_,Z,⟨⟨0,TL,A10,s1,Z,VJ,by omega,λr1 k1 H16 VL hk1 Xb D1=>?_⟩⟩⟩;have VM:=VI.other Xb VL.g (by decide);have ab6:=ab3.other Xb VJ.g (by decide);refine⟨_,Z,⟨⟨2,TL,C15,s2,Z,VM,by omega,λr2 k2 Hu VN hk2 TN D2=>?_⟩⟩⟩;have VO:=VL.other TN VN.g (by decide);have ab7:=ab6.other TN VM.g (by decide);have o17:=Xb.out.trans TN.out;have VP:=ab4.go o17;have ab9:=ab5.go o17;refine ne_data (n:=8) (D1 TL Hu TN.out) (by rw[ve.snap nF.wf Xa.wf];exact D2 TL Hu (aR.refl _)) pd1 (by decide) ⟨_,Z,bM ?_⟩;clear VJ VI ab3 VL VM ab6 ab4 ab5 D1 D2 Xb TN o17;refine⟨_,Z,_,Z,_,Z,_,Z,c_ (VP _ _ (aR.refl _)) h63 (by decide) (by decide) (by decide) (by decide) λdd _ dd0 dd1=>?_⟩;obtain⟨dm,hdm⟩:∃dm:Nat,dd=(dm:Int):=⟨dd.toNat,by omega⟩
 subst hdm;have G17:=VO.g;refine⟨⟨1,c+cs.length,100*c+100*cs.length,TL,B9,s1,a,zn,ns,20,nms,dm,by rw[em9,em6];rfl,G17,ab7,nF,by omega,by omega,by rw[ow1];omega,VP,h63,by decide,by decide,ab9,nx9,by omega,λld zd dds WW B18 H18 G18 agV ajD F18 ace agW hD hC ajE ajF=>?_⟩⟩;have acf:=VO.other F18 G18 (by decide);have acg:=VN.other F18 G18 (by decide);have zdl:=hD.length;have ve0:VE { s1 with kn:=k1 } { s2 with kn:=k2 }:=⟨ve.own,ve.nms,ve.bO,ve.qd,ve.sh,ve.pu⟩
 have ga0:GW (c+cs.length) 5000 { s1 with kn:=k1 }:=⟨nF.g.kn k1,acf.wf,by show k1<=5000;omega⟩
 have gb0:GW (c+cs.length) 5000 { s2 with kn:=k2 }:=⟨Xa.g.kn k2,acg.wf,by show k2<=5000;omega⟩
 have agX:Mo (c+cs.length) { s1 with kn:=k1 }:=⟨TJ.pz,TJ.ao,TJ.aw⟩
 clear VO VN ab7 agV VP ab9 F18 G17;refine⟨ld,Z,⟨_,aI.of ace⟩,?_⟩;refine jj (K:=K) (xs:=zd) (λi σ H'=>∃ρ' A' C' x y s9,σ=[some (.ref a),some (.ref zo),some (.ref zn),some (.ref B3.m),some (.ref A'.a),some (.ref C'.a),some (.ref lc),s7,s9]/\HH T 0 ρ' A' H' x/\HH T 2 ρ' C' H' y/\VE x y/\nC x (cL s1 (dds.take i))/\GW (c+cs.length+i) (5000+100*i) x/\GW (c+cs.length+i) (5000+100*i) y/\Mo (c+cs.length+i) x/\An x/\x.own=st.own/\aR (out WW H18) (out ρ' H')) ⟨WW,A10,C15,_,_,_,Z,acf,acg,ve0,(nC.refl s1).set k1,ga0,gb0,agX,an1,ow1,aR.refl _⟩ (λi σ H' _ hp=>by obtain⟨_,_,_,_,_,_,_,_,_,_,_,_,_,_,_,_,s⟩:=hp;exact(aI.of (K:=K) ace).outs agW s) ?_ ?_
 .rintro i v σ H' hv ⟨ρ',A',C',x,y,s9,rfl,hx,hy,Pp,ek,gx,gy,mx,ax,TQ,so⟩;obtain⟨z,d,rfl,ed,hz⟩:=hD.get hv;have hi:=(ee.mp ed).1;obtain⟨d1,d2,d3⟩:=hC i d ed;have rx:jr x d=none:=by rw[ek.ref];exact d1
  have ry:jr y d=none:=by rw[<-Pp.ref];exact rx
  have hz':H' z=some (.tup d.v):=rC G18 so _ _ hz;have knx:=gx.kn;have kny:=gy.kn;have owy:y.own=st.own:=Pp.own.symm.trans TQ;refine⟨_,Z,_,Z,⟨⟨0,c+cs.length+i,ρ',A',x,z,d,Z,dz.of hz',hx,gx.g,by omega,by omega,by rw[TQ];omega,rx,λρ2 A2 H2 h2 ea2 F2=>?_⟩⟩⟩;have hy2:=hy.other F2 h2.g (by decide);have hz2:H2 z=some (.tup d.v):=(F2 z _ hz' (λt w e=>by rw[hx.g.tup hz']at e;cases e)).1;refine⟨_,Z,_,Z,⟨⟨2,c+cs.length+i,ρ2,C',y,z,d,Z,dz.of hz2,hy2,gy.g,by omega,by omega,by rw[owy];omega,ry,λρ3 C3 H3 h3 Tn F3=>?_⟩⟩⟩;have h23:=h2.other F3 h3.g (by decide);have ek2:=ek.do d;rw[<-iE,<-take_snoc ed]at ek2;exact⟨ρ3,A2,C3,_,_,_,by rw[ea2,Tn];rfl,h23,h3,Pp.do gx.wf gy.wf gx.g gy.g (by omega) (by omega) rx d3,ek2,gx.do (by omega) (by omega) (by rw[TQ];omega) rx d2.g,gy.do (by omega) (by omega) (by rw[owy];omega) ry d2.g,QW mx gx.g gx.wf rx,Wz ax gx.g gx.wf rx,(K8 d3).trans TQ,(so.trans F2.out).trans F3.out⟩
 rintro σ H19 ⟨Ph,A19,C19,x,y,s9,rfl,hx,hy,Pp,ek,gx,gy,mx,ax,TQ,so⟩;have knx:=gx.kn;have kny:=gy.kn;have plx:=gx.g.pl;have ply:=gy.g.pl;refine⟨_,Z,⟨⟨0,Ph,A19,x,Z,hx,by omega,λr3 k3 H20 agY hk3 F20 D3=>?_⟩⟩⟩;have agZ:=hy.other F20 agY.g (by decide);refine⟨_,Z,⟨⟨2,Ph,C19,y,Z,agZ,by omega,λr4 k4 H21 ajG hk4 F21 D4=>?_⟩⟩⟩;have pdx:=O5 gx.g gx.wf mx ax;refine⟨_,_,D3 Ph H21 F21.out,D4 Ph H21 (aR.refl _),pdx.shaped (by decide),by rw[<-Pp.snap gx.wf gy.wf];exact pdx.shaped (by decide),?_⟩;rw[<-Pp.snap gx.wf gy.wf,pdx.eqv];exact q H21
end
theorem all_mk{l:PySem.W.OpenLaw}{w:World}{K:Fg}{h:Heap}{mg:SO}{fa:Addr}(X:K.In h)(G:h.Ns mainGlobals mg)(hfa:mg "law"=some (.ref fa)){f:Addr}{od an:Option Addr}{sl:Array (Option Value)}{oc kV dc pm cd ct:Value}(a:PySem.W.nsIn K mainGlobals "law"=some (some (.ref f)))(l1:K.lookup f=some ⟨oc,od,.func (PySem.W.fnOf "law" "law" (fY qH) (dR qH) (aF qH) .none kV dc pm an cd ct),sl⟩)(c:PySem.W.codeIn K cd "law"=true)(k:PySem.W.keepIn K (.ref f)=true)(Em:e_ K "common_factor" oU)(TR:e_ K "made_of" zf)(TU:e_ K "is_name" zg)(FJ:e_ K "check_amount" qe)(Mc:e_ K "check_loss" tU)(Me:e_ K "amounts_of" tV)(En:e_ K "factor_of_all" oV)(Nz:e_ K "_law_draw" vU)(NB:e_ K "_law_name" vV)(Mf:e_ K "_law_names" uh)(NC:e_ K "_law_lite" vW)(ND:e_ K "_law_much" vY)(NF:e_ K "_law_rows" vZ)(NG:e_ K "_law_flat" v5)(CG:e_ K "_law_part_deed" nP)(NH:e_ K "_law_deed" v7)(TV:e_ K "_law_at" zj)(Eo:e_ K "_law_lite_one" o6)(FL:e_ K "_law_lite_do" qB)(Mg:e_ K "_law_deeds" um)(FN:e_ K "_law_hold_do" qE)(Im:e_ K "_law_behind" rQ)(Mh:e_ K "_law_casts" uo)(NI:e_ K "_law_snap" v9)(Ep:e_ K "_law_together" o7)(adu:PySem.W.nsIn K mainGlobals "len"=some none)(YE:PySem.W.nsIn K mainGlobals "range"=some none)(adv:PySem.W.nsIn K mainGlobals "sum"=some none)(acj:PySem.W.nsIn K mainGlobals "list"=some none)(adw:PySem.W.nsIn K mainGlobals "zip"=some none)(adx:PySem.W.nsIn K mainGlobals "all"=some none)(ady:PySem.W.nsIn K mainGlobals "int"=some none)(ack:PySem.W.nsIn K mainGlobals "bool"=some none)(adz:PySem.W.nsIn K mainGlobals "str"=some none)(YF:PySem.W.nsIn K mainGlobals "tuple"=some none)(adA:PySem.W.nsIn K mainGlobals "abs"=some none)(Mi:PySem.W.nsIn K mainGlobals "isinstance"=some none)(adB:PySem.W.nsIn K mainGlobals "min"=some none)(acm:PySem.W.nsIn K mainGlobals "dict"=some none){Rh:Tok}(TY:PySem.W.nsIn K mainGlobals "LETTERS"=some (some (.str "abcdefghijklmnopqrstuvwxyz" Rh))){cJ:Addr}(YG:PySem.W.nsIn K mainGlobals "Hold"=some (some (.ref cJ)))(YH:PySem.W.plainGet K cJ Str.empty=true)(YI:PySem.W.hasDictIn K cJ=true)(YJ:PySem.W.plainOver K cJ=true)(YK:PySem.W.findIn K (.ref cJ) "__setattr__"=some (some (.builtin "object.__setattr__")))(YL:PySem.W.makesIn K cJ=true)(YM:PySem.W.keepIn K (.ref cJ)=true)(NJ:dh K cJ "__init__" "Hold.__init__" vJ)(Er:dh K cJ "place_of" "Hold.place_of" oX)(FO:dh K cJ "part_of" "Hold.part_of" qg)(CH:dh K cJ "check_new" "Hold.check_new" nO)(Mj:dh K cJ "parts" "Hold.parts" tX)(Ml:dh K cJ "whole" "Hold.whole" tY)(zm:dh K cJ "beyond_common" "Hold.beyond_common" kG)(FP:dh K cJ "tops_of" "Hold.tops_of" qi)(NK:dh K cJ "stow" "Hold.stow" vE)(NL:dh K cJ "sign" "Hold.sign" vF)(NN:dh K cJ "load" "Hold.load" vG)(Io:dh K cJ "shares" "Hold.shares" rK)(Ip:dh K cJ "landed" "Hold.landed" rO)(Es:dh K cJ "given_up" "Hold.given_up" oY)(Iq:dh K cJ "lessen" "Hold.lessen" rG)(Mm:dh K cJ "blend" "Hold.blend" tZ)(NO:dh K cJ "cast" "Hold.cast" vK)(Mp:dh K cJ "award" "Hold.award" ua)(Ir:dh K cJ "mishap" "Hold.mishap" rM)(NP:dh K cJ "rise" "Hold.rise" vN)(NQ:dh K cJ "hand" "Hold.hand" vO)(NR:dh K cJ "land" "Hold.land" vP)(Mq:dh K cJ "sever" "Hold.sever" ud)(Mr:dh K cJ "purse" "Hold.purse" ue)(Iu:dh K cJ "roster" "Hold.roster" rN)(NS:dh K cJ "twin" "Hold.twin" vS)(Iw:PySem.W.findIn K (.ref cJ) "places"=some none)(Iz:PySem.W.findIn K (.ref cJ) "aboard"=some none)(IA:PySem.W.findIn K (.ref cJ) "ashore"=some none)(Ms:PySem.W.findIn K (.ref cJ) "names"=some none)(IB:PySem.W.findIn K (.ref cJ) "bottom"=some none)(IC:PySem.W.findIn K (.ref cJ) "common"=some none)(ID:PySem.W.findIn K (.ref cJ) "purses"=some none){i6:Addr}(YN:PySem.W.nsIn K mainGlobals "Part"=some (some (.ref i6)))(Pq:PySem.W.plainGet K i6 Str.empty=true)(Pr:PySem.W.hasDictIn K i6=true)(Pu:PySem.W.plainOver K i6=true)(Pw:PySem.W.findIn K (.ref i6) "__setattr__"=some (some (.builtin "object.__setattr__")))(YO:PySem.W.makesIn K i6=true)(YQ:PySem.W.keepIn K (.ref i6)=true)(NT:dh K i6 "__init__" "Part.__init__" vD)(NU:dh K i6 "twin" "Part.twin" vR)(NV:PySem.W.findIn K (.ref i6) "name"=some none)(Mt:PySem.W.findIn K (.ref i6) "owner"=some none)(Mu:PySem.W.findIn K (.ref i6) "worth"=some none)(IE:PySem.W.findIn K (.ref i6) "weight"=some none)(Mv:PySem.W.findIn K (.ref i6) "scale"=some none)(Ri:PySem.W.findIn K (.ref i6) "row"=some none){fG:Addr}(TZ:PySem.W.nsIn K mainGlobals "Bottom"=some (some (.ref fG)))(T3:PySem.W.plainGet K fG Str.empty=true)(T4:PySem.W.hasDictIn K fG=true)(T5:PySem.W.plainOver K fG=true)(T6:PySem.W.findIn K (.ref fG) "__setattr__"=some (some (.builtin "object.__setattr__")))(T7:PySem.W.makesIn K fG=true)(T8:PySem.W.keepIn K (.ref fG)=true)(IF:dh K fG "__init__" "Bottom.__init__" rD)(IG:dh K fG "over" "Bottom.over" rJ)(FQ:dh K fG "share" "Bottom.share" qu)(II:dh K fG "grow" "Bottom.grow" rE)(IJ:dh K fG "twin" "Bottom.twin" rP)(FT:PySem.W.findIn K (.ref fG) "steps"=some none)(CI:PySem.W.findIn K (.ref fG) "product"=some none)(FU:PySem.W.findIn K (.ref fG) "known"=some none)
  :∃fd:FuncData,(∀(s:Shared)(v:Value),BindsTo s fd ⟨[v],[]⟩ [("_law_script",v)])/\∀base:Heap,K.In base->base.Ns mainGlobals mg->kh l.prog w K mg base u7 8 fa fd ["_law_script"] (Jk K):=by
 have e:=hfa.symm.trans (PySem.W.mg_of X G a)
 cases e
 have adC:=Wb (st:=qH) X G a l1 c k
 have tH:qM K fG:=⟨T3,T4,T5,T6⟩
 have dJ:qM K cJ:=⟨YH,YI,YJ,YK⟩
 obtain⟨_,_,Et⟩:=Em.at X G
 obtain⟨_,_,T9⟩:=TR.at X G
 obtain⟨_,_,T_⟩:=TU.at X G
 obtain⟨_,_,FW⟩:=FJ.at X G
 obtain⟨_,_,Mw⟩:=Mc.at X G
 obtain⟨_,_,Mx⟩:=Me.at X G
 obtain⟨_,_,Eu⟩:=En.at X G
 obtain⟨_,_,NW⟩:=Nz.at X G
 obtain⟨_,_,NX⟩:=NB.at X G
 obtain⟨_,_,My⟩:=Mf.at X G
 obtain⟨_,_,NY⟩:=NC.at X G
 obtain⟨_,_,NZ⟩:=ND.at X G
 obtain⟨_,_,N1⟩:=NF.at X G
 obtain⟨_,_,N3⟩:=NG.at X G
 obtain⟨_,_,CJ⟩:=CG.at X G
 obtain⟨_,_,N4⟩:=NH.at X G
 obtain⟨_,_,Ua⟩:=TV.at X G
 obtain⟨_,_,Ew⟩:=Eo.at X G
 obtain⟨_,_,FY⟩:=FL.at X G
 obtain⟨_,_,Mz⟩:=Mg.at X G
 obtain⟨_,_,FZ⟩:=FN.at X G
 obtain⟨_,_,IK⟩:=Im.at X G
 obtain⟨_,_,MA⟩:=Mh.at X G
 obtain⟨_,_,N5⟩:=NI.at X G
 obtain⟨_,_,Ex⟩:=Ep.at X G
 have cg:=pJ X G adu
 have dw:=pJ X G YE
 have kZ:=pJ X G adv
 have fQ:=pJ X G acj
 have ja:=pJ X G adw
 have Q5:=pJ X G adx
 have ajm:=pJ X G ady
 have ajk:=pJ X G ack
 have ajn:=pJ X G adz
 have FE:=pJ X G YF
 have ajo:=pJ X G adA
 have acn:=pJ X G Mi
 have xu:=pJ X G adB
 have Ed:=pJ X G acm
 have AJ:=PySem.W.mg_of X G TY
 obtain⟨_,_,N6⟩:=NJ.made X G YG YL YM
 obtain⟨_,_,Ey⟩:=Er.at dJ
 obtain⟨_,_,F_⟩:=FO.at dJ
 obtain⟨_,_,CK⟩:=CH.at dJ
 obtain⟨_,_,MB⟩:=Mj.at dJ
 obtain⟨_,_,MC⟩:=Ml.at dJ
 obtain⟨_,_,zq⟩:=zm.at dJ
 obtain⟨_,_,Ga⟩:=FP.at dJ
 obtain⟨_,_,N7⟩:=NK.at dJ
 obtain⟨_,_,N8⟩:=NL.at dJ
 obtain⟨_,_,N9⟩:=NN.at dJ
 obtain⟨_,_,IL⟩:=Io.at dJ
 obtain⟨_,_,IM⟩:=Ip.at dJ
 obtain⟨_,_,Ez⟩:=Es.at dJ
 obtain⟨_,_,IP⟩:=Iq.at dJ
 obtain⟨_,_,MD⟩:=Mm.at dJ
 obtain⟨_,_,N_⟩:=NO.at dJ
 obtain⟨_,_,ME⟩:=Mp.at dJ
 obtain⟨_,_,IQ⟩:=Ir.at dJ
 obtain⟨_,_,Oa⟩:=NP.at dJ
 obtain⟨_,_,Ob⟩:=NQ.at dJ
 obtain⟨_,_,Oc⟩:=NR.at dJ
 obtain⟨_,_,MF⟩:=Mq.at dJ
 obtain⟨_,_,MG⟩:=Mr.at dJ
 obtain⟨_,_,IS⟩:=Iu.at dJ
 obtain⟨_,_,Od⟩:=NS.at dJ
 obtain⟨_,_,Oe⟩:=NT.made X G YN YO YQ
 obtain⟨_,_,Of⟩:=NU.at ⟨Pq,Pr,Pu,Pw⟩
 obtain⟨_,_,IT⟩:=IF.made X G TZ T7 T8
 obtain⟨_,_,IU⟩:=IG.at tH
 obtain⟨_,_,Gb⟩:=FQ.at tH
 obtain⟨_,_,IV⟩:=II.at tH
 obtain⟨_,_,IW⟩:=IJ.at tH
 have TX:Txt K ⟨cJ,i6,fG⟩:=⟨dJ,⟨Pq,Pr,Pu,Pw⟩,tH,Iw,Iz,IA,Ms,IB,IC,ID,NV,Mt,Mu,IE,Mv,Ri,FT,CI,FU⟩
 refine⟨PySem.W.fnOf "law" "law" (fY qH) (dR qH) (aF qH) .none kV dc pm an cd ct,λs v=> .of_eq rfl,λbase _ _=>?_⟩
 have iS:=Cs (P:=l.prog) (w:=w) (base:=base) (mg:=mg) Et
 have AI:=Q3 (P:=l.prog) (w:=w) (base:=base) (mg:=mg) T9 Q5
 have pH:=Q7 T_ AI cg AJ
 have mz:=Ct (P:=l.prog) (w:=w) (base:=base) (mg:=mg) (e:=⟨0,0,0,0,0,0,0,0,0,0,0⟩) FW
 have zO:=E8 Mw mz
 have je:=aaX mz
 have mX:=aaY zO
 have vL:=HJ (P:=l.prog) (w:=w) (base:=base) (mg:=mg) Mx cg
 have qo:=Cu Eu iS
 have rF:=E_ (P:=l.prog) (w:=w) (base:=base) (mg:=mg) IT TX
 have qj:=Ll (P:=l.prog) (w:=w) (base:=base) (mg:=mg) Oe TX fQ
 have yp:=Lv N6 TX rF
 have t_:=Fc (P:=l.prog) (w:=w) (base:=base) (mg:=mg) IV TX
 have jH:=Fj IU TX iS
 have rL:=Ea Gb TX jH
 have o8:=Br (P:=l.prog) (w:=w) (base:=base) (mg:=mg) (e:=⟨0,0,0,0,0,0,0,0,0,0,0⟩) Ey TX
 have cX:=Vx o8
 have iT:=Cy (P:=l.prog) (w:=w) (base:=base) (mg:=mg) (e:=⟨0,0,0,0,0,0,0,0,0,0,0⟩) F_ TX
 have cR:=Te iT
 have uz:=AK (e:=⟨0,0,0,0,0,0,0,0,0,0,0⟩) CK TX pH
 have jv:=aaW uz
 have v_:=HN (P:=l.prog) (w:=w) (base:=base) (mg:=mg) MB TX
 have gX:=HQ (P:=l.prog) (w:=w) (base:=base) (mg:=mg) MC TX kZ
 have fK:=yk (P:=l.prog) (w:=w) (base:=base) (mg:=mg) zq TX ja
 have fM:=D7 (P:=l.prog) (w:=w) (base:=base) (mg:=mg) Ga TX ja
 have lI:=Lp (P:=l.prog) (w:=w) (base:=base) (mg:=mg) N7 TX
 have lO:=Lq N8 TX pH cg
 have xS:=Lr N9 TX jv cX fK lI qj cg
 have qt:=CA (P:=l.prog) (w:=w) (base:=base) (mg:=mg) Ez TX kZ ja
 have jG:=Fi (P:=l.prog) (w:=w) (base:=base) (mg:=mg) IP TX
 have kH:=HU MD TX qo t_ ja
 have j6:=LB N_ TX vL mX cR gX kH qt jG kZ
 have yq:=Fo IL TX cR fM rL ja
 have IZ:=Fq (e:=⟨0,0,0,0,0,0,0,0,0,0,0⟩) ME TX o8 mz gX kH cg
 have Gd:=Eb (e:=⟨0,0,0,0,0,0,0,0,0,0,0⟩) IQ TX iT zO jG
 have MH:=HY (e:=⟨0,0,0,0,0,0,0,0,0,0,0⟩) Oa TX iT mz
 have MI:=HZ (e:=⟨0,0,0,0,0,0,0,0,0,0,0⟩) Ob TX iT o8 fM fK
 have MJ:=H_ (e:=⟨0,0,0,0,0,0,0,0,0,0,0⟩) Oc TX iT cX fM yq ja
 have I0:=Fv (e:=⟨0,0,0,0,0,0,0,0,0,0,0⟩) MF TX iT uz lI qj
 have wc:=Ib MG TX jH cX
 have oH:=Fx (P:=l.prog) (w:=w) (base:=base) (mg:=mg) IS TX fQ
 have jI:=Fz (P:=l.prog) (w:=w) (base:=base) (mg:=mg) IM TX fQ
 have xP:=LL Of TX qj
 have ug:=FD IW TX rF fQ
 have xU:=LM Od TX yp xP ug jI fQ Ed
 have Ge:=SX jI
 have bg:=LP (P:=l.prog) (w:=w) (base:=base) (mg:=mg) NW cg dw
 have sy:=LQ (P:=l.prog) (w:=w) (base:=base) (mg:=mg) NX dw
 have qJ:=Ih My bg sy dw
 have xT:=LV (P:=l.prog) (w:=w) (base:=base) (mg:=mg) NY fQ
 have lK:=LW NZ bg
 have lM:=LX N1 bg cg dw fQ kZ xu
 have lN:=LY (P:=l.prog) (w:=w) (base:=base) (mg:=mg) N3 FE
 have oZ:=Bt CJ bg lK lM lN cg kZ xu
 have xR:=L1 N4 bg lK oZ cg
 have xx:=Rb (P:=l.prog) (w:=w) (base:=base) (mg:=mg) Ua cg dw
 have qC:=CD (P:=l.prog) (w:=w) (base:=base) (mg:=mg) Ew
 have jh:=Eh FY xx qC cg dw
 have qK:=Ii Mz xR jh dw
 have iw:=Ek FZ lO xS j6 IZ Gd MH MI MJ I0 cg dw
 have ur:=FH IK yp lO iw
 have wg:=Il MA lM lN jh cg dw
 have lP:=L_ N5 v_ yq wc oH Ge gX
 have qL:=CF (P:=l.prog) (w:=w) (base:=base) (mg:=mg) Ex
 exact abQ adC bg qJ xT qK ur xU wg j6 qL lP iw cg
theorem walk{l:PySem.W.OpenLaw}{q:Program}{loose:List Str}{XP:(Str->Option Value)->Heap->Prop}{YP:World->Heap->Prop}{d:DefRec}{K:Params->Fg}(hn:l.most=some 63)(hdf:d.params.defaults=[])(hY:∀(w:World) (h:Heap),YP w h->(K w.params).In h)(F:∀(w:World) (mg:SO) (fa:Addr) (h:Heap),(K w.params).In h->h.Ns mainGlobals mg->mg d.name=some (.ref fa)->
    ∃fd:FuncData,(∀(s:Shared) (u:Value),BindsTo s fd ⟨[u],[]⟩ [("_law_script",u)])/\∀base:Heap,(K w.params).In base->base.Ns mainGlobals mg->kh l.prog w (K w.params) mg base u7 8 fa fd ["_law_script"] (Jk (K w.params))):
  PySem.W.WalkO q loose XP YP l.row.toRowW d [] (λf vs=>PySem.call f vs):=
 L2.Xx (n:=63) (k:=8) (x:="_law_script") (CX:=λ_=>u7) (sp:=λw=>Jk (K w.params)) hn (by decide) hdf ⟨Z,by decide,by decide⟩ hY F (λ_ _ a ns hl _ hS=>⟨a,ns,Z,hS,hl,λ_=>rfl⟩) λ_ _ _ _ _ z=>z
end Law
namespace PySem.W.Fast
abbrev A:=True
theorem a:A:=⟨⟩
theorem tw16050679938210945466:A:=a
theorem tw7832457426300585173:A:=a
theorem tw2428329294426365302:A:=a
theorem tw1964716433205745578:A:=a
theorem tw12790470221152411184:A:=a
theorem tw11934890074073492990:A:=a
theorem tw6700316995338502463:A:=a
theorem tw17028369701922165459:A:=a
theorem tw15176658859074487895:A:=a
theorem tw12878457732978868610:A:=a
theorem tw4814959422644103158:A:=a
theorem tw7742535997111632934:A:=a
theorem tw14163047444111212455:A:=a
theorem tw1546634213565538952:A:=a
theorem tw14599542882660215190:A:=a
theorem tw8567212754942312147:A:=a
theorem tw5844521438598349512:A:=a
theorem tw12083003552363130367:A:=a
theorem tw17836642393663856525:A:=a
theorem tw8761229037343730655:A:=a
theorem tw2522212119590861042:A:=a
theorem tw13089306441400919169:A:=a
theorem tw17476647489998993088:A:=a
theorem tw10270690868892172646:A:=a
theorem tw7156761170997377429:A:=a
theorem tw10221513585038801741:A:=a
theorem tw11645738677671829805:A:=a
theorem tw7551215594801175653:A:=a
theorem tw2000345984199229290:A:=a
theorem tw15291345559873415237:A:=a
theorem tw2128355079928497559:A:=a
theorem tw17615530266129044161:A:=a
theorem tw6028530163118550085:A:=a
theorem tw8142411823404888360:A:=a
theorem tw14402589042497555632:A:=a
theorem tw3097710863769756690:A:=a
theorem tw9880997720413768895:A:=a
theorem tw4135624361369178816:A:=a
theorem tw9956146258585957710:A:=a
theorem tw9844136086453718536:A:=a
theorem tw6026178274572023491:A:=a
theorem tw12176576494968905039:A:=a
theorem tw468347250959765930:A:=a
theorem tw4997595090444521913:A:=a
theorem tw15248273951491202788:A:=a
theorem tw1709884759271513662:A:=a
theorem tw5114554796562525171:A:=a
theorem tw5944559832920880415:A:=a
theorem tw17813563121763344992:A:=a
theorem tw17475550646480411803:A:=a
theorem tw13742068240578144364:A:=a
theorem tw11361022278980609990:A:=a
theorem tw1700531186586556681:A:=a
theorem tw13811398331189789050:A:=a
theorem tw835951956849500937:A:=a
theorem tw774278898427008468:A:=a
theorem tw671418090668011568:A:=a
theorem tw9478649073730610389:A:=a
theorem tw6662777848837360715:A:=a
theorem tw13143609511471852755:A:=a
theorem tw4429991718908137839:A:=a
theorem tw13924073401573743544:A:=a
theorem tw1243583299311055424:A:=a
theorem tw7306360092318784868:A:=a
theorem tw1674371414241384735:A:=a
theorem tw8693135473465882514:A:=a
theorem tw17653826833212281216:A:=a
theorem tw182674026540046372:A:=a
theorem tw6497700570327514082:A:=a
theorem tw17457863927860416049:A:=a
theorem tw2511525663589264411:A:=a
theorem tw99089496783712983:A:=a
theorem tw1203800350637275786:A:=a
theorem tw3891422593979158210:A:=a
theorem tw10945336307586095276:A:=a
theorem tw9709494783929707717:A:=a
theorem tw17656127277549486905:A:=a
theorem tw18389034212711292939:A:=a
theorem tw10709760887930857221:A:=a
theorem tw4507784599407315912:A:=a
theorem tw3898071159885090242:A:=a
theorem tw15784569309252161945:A:=a
theorem tw13070043515178132835:A:=a
theorem tw5514948024410041707:A:=a
theorem tw17345780301816484234:A:=a
theorem tw10648393581355342606:A:=a
theorem tw15618301903824058201:A:=a
theorem tw16017929921793961291:A:=a
theorem tw2890965185954623915:A:=a
theorem tw15324280179348101448:A:=a
theorem tw11029921608121033030:A:=a
theorem tw6447597204105651535:A:=a
theorem tw15392194826785454554:A:=a
theorem tw6607206553343954504:A:=a
theorem tw4066033734271860455:A:=a
theorem tw17788235628738430760:A:=a
theorem tw15608114796206776279:A:=a
theorem tw5200635650219224559:A:=a
theorem tw1097681083775384224:A:=a
theorem tw17182443266232598978:A:=a
theorem tw14527055369696135924:A:=a
theorem tw17163229137016112195:A:=a
theorem tw15380493860552622366:A:=a
theorem tw10644003403651418984:A:=a
theorem tw3411215028132734471:A:=a
theorem tw9299591568479450991:A:=a
theorem tw9582457238318736342:A:=a
theorem tw5337949348613262439:A:=a
theorem tw2913671404268031424:A:=a
theorem tw9619471917485162601:A:=a
theorem tw7286642388170853436:A:=a
theorem tw3230899816986018183:A:=a
theorem tw8259514351247383480:A:=a
theorem tw1166187899879506568:A:=a
theorem tw10687018564543980542:A:=a
theorem tw5350496212316037427:A:=a
theorem tw12967908773044484887:A:=a
theorem tw4561746926668587991:A:=a
theorem tw3462819387762449221:A:=a
theorem tw12997933751500767436:A:=a
theorem tw17235787085203694387:A:=a
theorem tw1696768450329212344:A:=a
theorem tw13583541832619026252:A:=a
theorem tw7720913038561443512:A:=a
theorem tw15011542125424625013:A:=a
theorem tw11511051841380191825:A:=a
theorem tw6140256732373448237:A:=a
theorem tw7576587214271171157:A:=a
theorem tw13391572724888821758:A:=a
theorem tw7991371766495623596:A:=a
theorem tw4491279204621494290:A:=a
theorem tw2098746719236761662:A:=a
theorem tw131461406947570095:A:=a
theorem tw10337178956157916213:A:=a
theorem tw14478315915913000426:A:=a
theorem tw5402396640723175351:A:=a
theorem tw125227846768359586:A:=a
theorem tw17270223465198916185:A:=a
theorem tw11397711874474057246:A:=a
theorem tw11476769392450548642:A:=a
theorem tw14749566313789946709:A:=a
theorem tw1664869560862761006:A:=a
theorem tw2375333524742193715:A:=a
theorem tw9619147101988847609:A:=a
theorem tw13969754185384091992:A:=a
theorem tw7495307228193894675:A:=a
theorem tw16921154481937306991:A:=a
theorem tw7788372608322614277:A:=a
theorem tw2455487030640713673:A:=a
theorem tw8690095896768572901:A:=a
theorem tw12546843176437324774:A:=a
theorem tw7171713437757153033:A:=a
theorem tw11517381164879744608:A:=a
theorem tw6367290033193945479:A:=a
theorem tw142706467094981173:A:=a
theorem tw8882186650999456321:A:=a
theorem tw3249941548021760777:A:=a
theorem tw110407507656406183:A:=a
theorem tw10538904226104293815:A:=a
theorem tw1096026870620345367:A:=a
theorem tw15166159569657524159:A:=a
theorem tw5821518844716577387:A:=a
theorem tw10196774652474122443:A:=a
theorem tw5856249732548452140:A:=a
theorem tw14264391256325514260:A:=a
theorem tw3154110050493797089:A:=a
theorem tw16263102166901779387:A:=a
theorem tw2047739047019075171:A:=a
theorem tw3074732451561829604:A:=a
theorem tw11013115320167155875:A:=a
theorem tw14018477862521310656:A:=a
theorem tw3237661762661779877:A:=a
theorem tw11734235758170880303:A:=a
theorem tw11520875170209975192:A:=a
theorem tw6368365542141818590:A:=a
theorem tw9614727536580920704:A:=a
theorem tw195831842300612619:A:=a
theorem tw14040268692636339848:A:=a
theorem tw2409645781497212104:A:=a
theorem tw3150638331492901097:A:=a
theorem tw10974654318255359324:A:=a
theorem tw17908720986598053520:A:=a
theorem tw1241506796843407537:A:=a
theorem tw6596139316907604101:A:=a
theorem tw2255483095310746136:A:=a
theorem tw8868073097209245210:A:=a
theorem tw12258417123283979326:A:=a
theorem tw10251944495349779172:A:=a
theorem tw9687627929708775441:A:=a
theorem tw13775162003529845106:A:=a
theorem tw10129246522356686582:A:=a
theorem tw579052801083087212:A:=a
theorem tw13128975768757579854:A:=a
theorem tw4498763757911860410:A:=a
theorem tw1219959766030999625:A:=a
theorem tw4800998057348705804:A:=a
theorem tw7194700804535118097:A:=a
theorem tw3959467191010739664:A:=a
theorem tw18355984632343811636:A:=a
theorem tw14447289919459287022:A:=a
theorem tw17131038656966363958:A:=a
theorem tw15417157115375818069:A:=a
theorem tw16099250063482968119:A:=a
theorem tw1174403943127785388:A:=a
theorem tw17666266096687160464:A:=a
theorem tw2612265060843257409:A:=a
theorem tw8882737569899991851:A:=a
theorem tw15894077335182486566:A:=a
theorem tw4192801154555806090:A:=a
theorem tw2168266747256021767:A:=a
theorem tw16265699354329180667:A:=a
theorem tw8495594737787382696:A:=a
theorem tw15712846438495046519:A:=a
theorem tw17247784567280359028:A:=a
theorem tw16563681613491284631:A:=a
theorem tw5842574065306878789:A:=a
theorem tw10620843891950120392:A:=a
theorem tw12830295263901028801:A:=a
theorem tw3303881258811639251:A:=a
theorem tw14335662239966511193:A:=a
theorem tw16951055945132933478:A:=a
theorem tw15222527522305348342:A:=a
theorem tw13743777992308365321:A:=a
theorem tw16788200602366702087:A:=a
theorem tw5139724156443216473:A:=a
theorem tw12268620502809246742:A:=a
theorem tw7834511261577367856:A:=a
theorem tw11662889879192343260:A:=a
theorem tw17668500609552187696:A:=a
theorem tw7641580654261633018:A:=a
theorem tw6570445906646000176:A:=a
theorem tw2537114978125171777:A:=a
theorem tw10664998110946656799:A:=a
theorem tw6313893221903434259:A:=a
theorem tw1329482874918024716:A:=a
theorem tw1558422599384389796:A:=a
theorem tw2026163046405580603:A:=a
theorem tw10251575680051758447:A:=a
theorem tw10930954883130084435:A:=a
theorem tw9896231883091777041:A:=a
theorem tw3401297999800854557:A:=a
theorem tw10698623858298705420:A:=a
theorem tw12731888206916900512:A:=a
theorem tw10511261851690195533:A:=a
theorem tw7455690423527922359:A:=a
theorem tw12707080802258285127:A:=a
theorem tw10160483832265223490:A:=a
theorem tw1589315622620817190:A:=a
theorem tw6729856786252162829:A:=a
theorem tw10589381245196924776:A:=a
theorem tw7402884480506335347:A:=a
theorem tw14984686992889383237:A:=a
theorem tw17493339724567801060:A:=a
theorem tw4231510546634935789:A:=a
theorem tw14598456663311985352:A:=a
theorem tw18317602256695553427:A:=a
theorem tw18018197877713270366:A:=a
theorem tw13915136798251409373:A:=a
theorem tw5962738108077407657:A:=a
theorem tw10145215213714502674:A:=a
theorem tw10541651829256511517:A:=a
theorem tw8640125504139875825:A:=a
theorem tw1852171005233751144:A:=a
theorem tw9496565168585010808:A:=a
theorem tw8512707361250901005:A:=a
theorem tw11027097747269768613:A:=a
theorem tw17958205798110480205:A:=a
theorem tw519583710706132373:A:=a
theorem tw11157635253904133120:A:=a
theorem tw13204128960160112980:A:=a
theorem tw2456425166582349496:A:=a
theorem tw4405233964940186035:A:=a
theorem tw4212085092616059793:A:=a
theorem tw8980098440243421300:A:=a
theorem tw13910747816081118672:A:=a
theorem tw17873125838315411204:A:=a
theorem tw2008758392894883275:A:=a
theorem tw7337458716040319011:A:=a
theorem tw15619583131209280646:A:=a
theorem tw843246451825457573:A:=a
theorem tw6350165766266547414:A:=a
theorem tw67039692405003869:A:=a
theorem tw2390397853745936078:A:=a
theorem tw13732356396880167823:A:=a
theorem tw1579929577330134724:A:=a
theorem tw18248076565250382834:A:=a
theorem tw4718662635917644079:A:=a
theorem tw14785755641556280969:A:=a
theorem tw13127228818621600443:A:=a
theorem tw3144616458050485332:A:=a
theorem tw16827939131992720437:A:=a
theorem tw7374070127891810743:A:=a
theorem tw15003875488738503273:A:=a
theorem tw18281827071592500663:A:=a
theorem tw12297644745225764150:A:=a
theorem tw1456275635063269396:A:=a
theorem tw16764340964505230548:A:=a
theorem tw4100587534332187644:A:=a
theorem tw11294430760920347049:A:=a
theorem tw7214217210946720833:A:=a
theorem tw2759913294366778449:A:=a
theorem tw4516097404722832592:A:=a
theorem tw1944467819163935572:A:=a
theorem tw8797716180644182423:A:=a
theorem tw14240286664245306005:A:=a
theorem tw14577652435487353368:A:=a
theorem tw6640007445384589862:A:=a
theorem tw13675506656480340501:A:=a
theorem tw13774491231902232206:A:=a
theorem tw3977116161959374769:A:=a
theorem tw17398571396904430367:A:=a
theorem tw4307986102771801505:A:=a
theorem tw15137938869277638157:A:=a
theorem tw13685329213691444418:A:=a
theorem tw16558690571442193105:A:=a
theorem tw2325294498060581780:A:=a
theorem tw11854495971861133785:A:=a
theorem tw1467666938680169792:A:=a
theorem tw13230005391636535422:A:=a
theorem tw17607753548196598563:A:=a
theorem tw6606764851948727372:A:=a
theorem tw6208349125624395800:A:=a
theorem tw6694109729186309722:A:=a
theorem tw5510346067751838927:A:=a
theorem tw461593761003129928:A:=a
theorem tw12608299256302477561:A:=a
theorem tw5278139886576643239:A:=a
theorem tw939064733499075737:A:=a
theorem tw11422507060644018462:A:=a
theorem tw10593778818964053250:A:=a
theorem tw17980446760019036303:A:=a
theorem tw16097252493423363271:A:=a
theorem tw5277382276997936190:A:=a
theorem tw11521929440619209696:A:=a
theorem tw4456200705444416227:A:=a
theorem tw385893331883359076:A:=a
theorem tw4672093148235468864:A:=a
theorem tw4346850504708300863:A:=a
theorem tw3536385704006998400:A:=a
theorem tw1937212927481409828:A:=a
theorem tw2821739729234164869:A:=a
theorem tw11681415546853525719:A:=a
theorem tw12614198119966211494:A:=a
theorem tw13765558578230993710:A:=a
theorem tw12988099663447406069:A:=a
theorem tw8594279507895279804:A:=a
theorem tw15519691879518707425:A:=a
theorem tw3126753541733307640:A:=a
theorem tw14593352002467913904:A:=a
theorem tw9763662953412893034:A:=a
theorem tw11282865817287170496:A:=a
theorem tw7723378361318859755:A:=a
theorem tw2846695746983253792:A:=a
theorem tw5114693041977435479:A:=a
theorem tw4983795698845342280:A:=a
theorem tw16820185261377274196:A:=a
theorem tw16695995059686396853:A:=a
theorem tw9874580021724982626:A:=a
theorem tw1136863866646450562:A:=a
theorem tw16010597903456797898:A:=a
theorem tw15166870959416806816:A:=a
theorem tw9009361290111599952:A:=a
theorem tw17541450441797516982:A:=a
theorem tw11465979482337654266:A:=a
theorem tw3846277037629166978:A:=a
theorem tw4000450335815791984:A:=a
theorem tw893072814349408154:A:=a
theorem tw18100411919168545905:A:=a
theorem tw15923913532351630627:A:=a
theorem tw10610808949283650659:A:=a
theorem tw15636896855567700149:A:=a
theorem tw1749347289294464242:A:=a
theorem tw7095041489251526764:A:=a
theorem tw14117957708308778375:A:=a
theorem tw8211001180086046393:A:=a
theorem tw14108876452782881139:A:=a
theorem tw17142334785681835882:A:=a
theorem tw16049508357708370144:A:=a
theorem tw11439820295386347837:A:=a
theorem tw12187607273015184226:A:=a
theorem tw10165769108487103960:A:=a
theorem tw17985605821108328975:A:=a
theorem tw8821153121692285591:A:=a
theorem tw16307706218359982639:A:=a
theorem tw4187210301424592701:A:=a
theorem tw5705285632410486976:A:=a
theorem tw7666599553170616522:A:=a
theorem tw10773702501532330406:A:=a
theorem tw2379437421666754382:A:=a
theorem tw10406711495144654393:A:=a
theorem tw4278632570310461335:A:=a
theorem tw13195589418794624782:A:=a
theorem tw9723414354688284605:A:=a
theorem tw14312925730691098680:A:=a
theorem tw4720230305785429791:A:=a
theorem tw12058077085180273603:A:=a
theorem tw3249689146896857185:A:=a
theorem tw8911078658368350986:A:=a
theorem tw4758190270636293907:A:=a
theorem tw225730022571035751:A:=a
theorem tw11592345936413029021:A:=a
theorem tw15111097420059296521:A:=a
theorem tw16902850046084463118:A:=a
theorem tw12553308408256677370:A:=a
theorem tw6842294829221330882:A:=a
theorem tw9038174741918475026:A:=a
theorem tw720867802657538622:A:=a
theorem tw13263395414622812529:A:=a
theorem tw6894853525020595199:A:=a
theorem tw17181045182006333275:A:=a
theorem tw8408917121005935474:A:=a
theorem tw18098280449421796830:A:=a
theorem tw17174186595493583880:A:=a
theorem tw16515740506541311273:A:=a
theorem tw6439145520179443141:A:=a
theorem tw1588581525911939694:A:=a
theorem tw13005392633894437400:A:=a
theorem tw938255746046909853:A:=a
theorem tw15508521138189087538:A:=a
theorem tw4972959042956231616:A:=a
theorem tw1898381093184932941:A:=a
theorem tw6198798526412767736:A:=a
theorem tw3134794840847010435:A:=a
theorem tw15769306819975841406:A:=a
theorem tw9622943617990475477:A:=a
theorem tw8850215099552855820:A:=a
theorem tw4600957603885677307:A:=a
theorem tw12553491671295163829:A:=a
theorem tw14187828138168858185:A:=a
theorem tw1050893064211593572:A:=a
theorem tw13923098016991707620:A:=a
theorem tw10482248070674022607:A:=a
theorem tw10502160981347807697:A:=a
theorem tw11780389583187957154:A:=a
theorem tw7787795183230465193:A:=a
theorem tw11968342307682856413:A:=a
theorem tw3434915545541067118:A:=a
theorem tw1899890942271155909:A:=a
theorem tw5645921003410014434:A:=a
theorem tw7998064901359434958:A:=a
theorem tw7086768094330401509:A:=a
theorem tw1083414983276712990:A:=a
theorem tw9635279428273670523:A:=a
theorem tw12979435847731717735:A:=a
theorem tw12008751640322927124:A:=a
theorem tw14240970312563557344:A:=a
theorem tw1392498468361613831:A:=a
theorem tw9321916238034988307:A:=a
theorem tw5661519149868094733:A:=a
theorem tw3018114517000508665:A:=a
theorem tw12371885465089420668:A:=a
theorem tw6308606841506015516:A:=a
theorem tw10409374651679536293:A:=a
theorem tw18440577497819602228:A:=a
theorem tw5085035630737286981:A:=a
theorem tw18296396255961551008:A:=a
theorem tw50872115127630453:A:=a
theorem tw5013246724657291529:A:=a
theorem tw2124932266196221165:A:=a
theorem tw15711545312932302359:A:=a
theorem tw10136639461673764740:A:=a
theorem tw10368780175473626290:A:=a
theorem tw14855407382245174312:A:=a
theorem tw3465462805005204364:A:=a
theorem tw12286152339905134626:A:=a
theorem tw12200439118164102838:A:=a
theorem tw14589347148323136963:A:=a
theorem tw7033643444847149337:A:=a
theorem tw10415005685039040289:A:=a
theorem tw13651866488742674403:A:=a
theorem tw11352778510841190737:A:=a
theorem tw17482690301103070758:A:=a
theorem tw10755516663656506438:A:=a
theorem tw16799969198743845312:A:=a
theorem tw8233570944737952591:A:=a
theorem tw15756238244578980310:A:=a
theorem tw3090212604643941280:A:=a
theorem tw10923177369916474122:A:=a
theorem tw7290718252163466478:A:=a
theorem tw13431304370951571243:A:=a
theorem tw6758355121532668874:A:=a
theorem tw17566152350399950694:A:=a
theorem tw5847843080075573811:A:=a
theorem tw6659589941946364007:A:=a
theorem tw240384491783110835:A:=a
theorem tw8762954467747842833:A:=a
theorem tw9609318681787166064:A:=a
theorem tw10352373690064489355:A:=a
theorem tw14696440961776581016:A:=a
theorem tw3336731290441535108:A:=a
theorem tw3678022136006319000:A:=a
theorem tw7976388554898950685:A:=a
theorem tw16016095225768454129:A:=a
theorem tw5306870229460240510:A:=a
theorem tw13924228548239224043:A:=a
theorem tw7090878776170451105:A:=a
theorem tw14790359880104760938:A:=a
theorem tw8380953540752747111:A:=a
theorem tw2091846741382657232:A:=a
theorem tw6603257498748223279:A:=a
theorem tw17863865029185218389:A:=a
theorem tw7848904557901788103:A:=a
theorem tw3343212828786443197:A:=a
theorem tw17651773721970831777:A:=a
theorem tw16282192594731462159:A:=a
theorem tw1402161900951411454:A:=a
theorem tw7898540614243455218:A:=a
theorem tw11544426881792073833:A:=a
theorem tw16802262281609980663:A:=a
theorem tw7324088649227628990:A:=a
theorem tw5462860462792027387:A:=a
theorem tw866956878035254108:A:=a
theorem tw6228499472628403898:A:=a
theorem tw14962592301629500918:A:=a
theorem tw6146542205380046389:A:=a
theorem tw13749093683274712782:A:=a
theorem tw16630651912150488901:A:=a
theorem tw14272648887266565514:A:=a
theorem tw927011763615135032:A:=a
theorem tw18336651367554984140:A:=a
theorem tw11941165875002301205:A:=a
theorem tw131297342789685127:A:=a
theorem tw6733538557659787454:A:=a
theorem tw15451533706325621394:A:=a
theorem tw8451875867130753058:A:=a
theorem tw15100233677718297567:A:=a
theorem tw14249180045607862940:A:=a
theorem tw2134129720947686666:A:=a
theorem tw1944345354520397425:A:=a
theorem tw13740855211737066646:A:=a
theorem tw6102855863428974189:A:=a
theorem tw12660259702310190149:A:=a
theorem tw7732216779830049420:A:=a
theorem tw2310205132087011385:A:=a
theorem tw18415693920825548247:A:=a
theorem tw17123388190720819000:A:=a
theorem tw2834709257186056078:A:=a
theorem tw304318864528040766:A:=a
theorem tw14337062777724270120:A:=a
theorem tw15390955152597017044:A:=a
theorem tw11103043274777988686:A:=a
theorem tw16218397026929914431:A:=a
theorem tw2587333574417112874:A:=a
theorem tw11294045242729729084:A:=a
theorem tw8356035999643881547:A:=a
theorem tw2939498547235285475:A:=a
theorem tw16904562079824812555:A:=a
theorem tw622177588497735299:A:=a
theorem tw12340350834144628536:A:=a
theorem tw14227140295274101648:A:=a
theorem tw11227138353222152883:A:=a
theorem tw17160989570959779849:A:=a
theorem tw10357995841754973282:A:=a
theorem tw3935704849696109225:A:=a
theorem tw13796286055678745066:A:=a
theorem tw3327725580791826925:A:=a
theorem tw17343445523652754806:A:=a
theorem tw14069636843158157339:A:=a
theorem tw6431753994179595037:A:=a
theorem tw5531672354152002435:A:=a
theorem tw11457312638631389931:A:=a
theorem tw6394217374759526675:A:=a
theorem tw11303793766652775617:A:=a
theorem tw18243448764446779630:A:=a
theorem tw3008465320513982720:A:=a
theorem tw10765528563549983445:A:=a
theorem tw16510229471971992530:A:=a
theorem tw6172414003214054476:A:=a
theorem tw8234629406911206232:A:=a
theorem tw5129200871193989583:A:=a
theorem tw1764704786577730520:A:=a
theorem tw968475947623085297:A:=a
theorem tw14769086796437797365:A:=a
theorem tw17884152122747687043:A:=a
theorem tw7954591719098247069:A:=a
theorem tw1102658406452649026:A:=a
theorem tw13749271939513471211:A:=a
theorem tw12259054261393366386:A:=a
theorem tw11645082414580542106:A:=a
theorem tw5775531906030204585:A:=a
theorem tw9724479366974774463:A:=a
theorem tw10856515350243330956:A:=a
theorem tw1819196081758954302:A:=a
theorem tw8842175949810698464:A:=a
theorem tw14108980200928679336:A:=a
theorem tw14104672208389190265:A:=a
theorem tw1042797116101242097:A:=a
theorem tw5708564636604048020:A:=a
theorem tw6040153652654749519:A:=a
theorem tw15292821733245745285:A:=a
theorem tw9645778736486980105:A:=a
theorem tw15865174243880872477:A:=a
theorem tw8019951918710877947:A:=a
theorem tw10754842745358118309:A:=a
theorem tw5603205499866266434:A:=a
theorem tw4591792237720057187:A:=a
theorem tw3476881598078349108:A:=a
theorem tw9734904665170365884:A:=a
theorem tw5264298100445839958:A:=a
theorem tw15821028782115217493:A:=a
theorem tw10476738423338175786:A:=a
theorem tw13737632078732734681:A:=a
theorem tw5907523580616463156:A:=a
theorem tw18083386096802093942:A:=a
theorem tw11196043562448492555:A:=a
theorem tw13493252239533314634:A:=a
theorem tw7444852721701475079:A:=a
theorem tw17228663719974827395:A:=a
theorem tw15615375498272798810:A:=a
theorem tw14136321988028684495:A:=a
theorem tw7237704909587191615:A:=a
theorem tw17183600912179528028:A:=a
theorem tw6094318686108520916:A:=a
theorem tw3842076967425247843:A:=a
theorem tw12412216196183386497:A:=a
theorem tw2021322195753130600:A:=a
theorem tw10686280330581962996:A:=a
theorem tw79228057530755662:A:=a
theorem tw2330774978932212724:A:=a
theorem tw1744191245892286746:A:=a
theorem tw7089645824382870764:A:=a
theorem tw15510107356913687741:A:=a
theorem tw12034205554852650767:A:=a
theorem tw2323139784992703136:A:=a
theorem tw2796313979892190253:A:=a
theorem tw14959309173029272523:A:=a
theorem tw4369757465306779031:A:=a
theorem tw6690558973968586469:A:=a
theorem tw11977441704187999469:A:=a
theorem tw11447499625122880511:A:=a
theorem tw10036268718729968641:A:=a
theorem tw16059007627669487497:A:=a
theorem tw4952741821548363933:A:=a
theorem tw13906403881309358377:A:=a
theorem tw13202227090791404424:A:=a
theorem tw17538310559122801753:A:=a
theorem tw10121802835115297269:A:=a
theorem tw1053418438970827068:A:=a
theorem tw17033464117972630176:A:=a
theorem tw13286337908212306016:A:=a
theorem tw10108392495870760609:A:=a
theorem tw11536442903378046284:A:=a
theorem tw10895251424395874597:A:=a
theorem tw14204478593701854498:A:=a
theorem tw12526091811153403406:A:=a
theorem tw5104859822539109608:A:=a
theorem tw12021621393128200021:A:=a
theorem tw3026393666893749568:A:=a
theorem tw16837406062349226518:A:=a
theorem tw14689456597937216081:A:=a
theorem tw9081585159629220395:A:=a
theorem tw5706544669034903412:A:=a
theorem tw1733986571938239925:A:=a
end PySem.W.Fast
open PySem PySem.W PyProof.Rows
set_option maxRecDepth 100000 in
set_option maxHeartbeats 0 in
theorem PySem.Challenge.cw_jettison_k34_whole_casts_as_one_holds : PySem.Challenge.rw_jettison_k34_whole_casts_as_one.Holds := by
 w_on;o_law;k_head;(case hw=>w_witness2)
 k_fill
 refine Law.walk (l:=PySem.Challenge.rw_jettison_k34_whole_casts_as_one) rfl rfl (fun w h Y=>PySem.W.kIn_of Y) ?F
 case F=>
  intro w mg fa h KX G hmg
  refine' Law.all_mk KX G hmg ?_ ?_ ?_ ?_ ?_ ?_ ?_ ?_ ?_ ?_ ?_ ?_ ?_ ?_ ?_ ?_ ?_ ?_ ?_ ?_ ?_ ?_ ?_ ?_ ?_ ?_ ?_ ?_ ?_ ?_ ?_ ?_ ?_ ?_ ?_ ?_ ?_ ?_ ?_ ?_ ?_ ?_ ?_ ?_ ?_ ?_ ?_ ?_ ?_ ?_ ?_ ?_ ?_ ?_ ?_ ?_ ?_ ?_ ?_ ?_ ?_ ?_ ?_ ?_ ?_ ?_ ?_ ?_ ?_ ?_ ?_ ?_ ?_ ?_ ?_ ?_ ?_ ?_ ?_ ?_ ?_ ?_ ?_ ?_ ?_ ?_ ?_ ?_ ?_ ?_ ?_ ?_ ?_ ?_ ?_ ?_ ?_ ?_ ?_ ?_ ?_ ?_ ?_ ?_ ?_ ?_ ?_ ?_ ?_ ?_ ?_ ?_ ?_ ?_
  any_goals first|(refine' L2.e_.of ?a ?l ?c ?k;(case a=>k_is);(case l=>k_is);(case c=>k_is);(case k=>k_is))|(refine' L2.dh.of ?a ?i ?l ?c ?k;(case a=>k_is);(case i=>k_is);(case l=>k_is);(case c=>k_is);(case k=>k_is))|k_is
