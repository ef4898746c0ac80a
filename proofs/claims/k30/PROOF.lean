import PyProof.Rows.All
import Wide.All
import OpenK.AllK
import Wide.FinOn
import Lean
import PyProof.EqAt
import PyProof.EqKinds
import PyProof.TupleCall
import PySem.Challenge.RW_jettison_k30_whole_hold_by_a_plain_book
set_option Elab.async false
set_option bootstrap.genMatcherCode false
set_option genSizeOf false
set_option genSizeOfSpec false
set_option linter.all false
set_option maxRecDepth 100000
local macro_rules|`(tactic|omega)=>`(tactic|lia)
abbrev Fg:=PySem.W.Frag
abbrev VS:=PySem.Value->PySem.Shared->Prop
abbrev AO:=List (PySem.Addr×PySem.Obj)
abbrev SO:=PySem.Str->Option PySem.Value
set_option autoImplicit true
def Ww:=@PySem.F.slot_dict_valueiterator_next
def RW:=@Int.mul_le_mul_of_nonneg_right
def Hr:=@Int.mul_le_mul_of_nonneg_left
def Wx:=@PySem.wpAny_typeNameOfWhole_keyiter
def Wy:=@PySem.wpAny_typeNameOfWhole_valiter
def Wz:=@PySem.F.slot_dict_keyiterator_next
def u6:=@PyProof.Rows.boot_isinstance
def RX:=@PyProof.Rows.callWith_type1
def wF:=@List.idxOf_lt_length_of_mem
def WA:=@Int.ediv_eq_of_eq_mul_right
def z6:=@List.getElem?_append_right
def fH:=@List.getD_eq_getElem?_getD
def Qt:=@PySem.F.slot_tuple_iterator_next
def Qu:=@List.length_eraseIdx_of_lt
def di:=@List.getElem?_eq_some_iff
def FF:=@List.getElem?_append_left
def J6:=@List.mem_or_eq_of_mem_set
def Qv:=@List.drop_eq_getElem_cons
def bq:=@List.getElem?_eq_getElem
def Qw:=@PySem.wpAny_comprehension_free
def Qx:=@PySem.wpAny_typeNameOf_keyiter
def Qy:=@PySem.wpAny_typeNameOf_valiter
def J7:=@List.eq_of_mem_replicate
def FG:=@Int.mul_ediv_cancel_left
def J8:=@List.idxOf_lt_length_iff
def mK:=@PySem.F.slot_list_append
def mL:=@PySem.F.type_list_append
def Qz:=@List.getElem?_replicate
def z7:=@PySem.wpAny_callSpecial?_slot
def mO:=@PySem.F.plainAttrs_list
def J9:=@PyProof.Rows.boot_tuple
def iB:=@List.getElem?_set_self
def cK:=@PySem.Heap.get?_push_of_some
def J_:=@PySem.Heap.get?_update_other
def lQ:=@Option.map_eq_some_iff
def Ka:=@List.take_of_length_le
def tS:=@List.zipWith_cons_cons
def QA:=@PySem.Calls.callWith_builtin
def u7:=@PyProof.Rows.boot_list
def j9:=@List.mem_append_right
def i8:=@List.length_replicate
def CN:=@PySem.Heap.get?_update_self
def FH:=@List.length_filter_le
def q_:=@List.getElem?_eq_none
def QB:=@PySem.wpAny_isOneOf_valiter
def QC:=@List.getElem?_zipWith
def yj:=@PyProof.Rows.boot_sum
def Kc:=@PyProof.Rows.boot_str
def QD:=@PyProof.Rows.boot_min
def cW:=@List.mem_cons_of_mem
def FI:=@List.mem_append_left
def yk:=@List.getElem?_set_ne
def bw:=@List.mem_of_getElem?
def mP:=@Bool.and_eq_true_iff
def QE:=@PySem.intBits_le_iff
def FJ:=@beq_eq_false_iff_ne
def z8:=@List.filterMap_cons
def eY:=@PySem.Heap.get?_push_size
def yl:=@PySem.mem_of_lookup
def ym:=@List.replicate_succ
def Kd:=@Bool.or_eq_true_iff
def FL:=@PySem.Heap.SameBut.update
def kq:=@List.length_zipWith
def z9:=@List.filter_eq_self
def tT:=@List.map_congr_left
def oV:=@List.getElem_of_mem
def Ke:=@List.filter_sublist
def kP:=@Nat.lt_of_lt_of_le
def cT:=@List.mem_cons_self
def gk:=@Bool.false_ne_true
def Kf:=@PySem.wpAny_Call_Name_kw
def cZ:=@List.length_append
def QF:=@PySem.tupleKind_room_in1
def FN:=@Nat.lt_of_le_of_lt
def dj:=@List.mem_singleton
def yo:=@Int.emod_lt_of_pos
def FO:=@Bool.false_eq_true
def FP:=@PySem.Obj.data_mapFields
def FQ:=@PySem.wpAny_setField_rec
def Kg:=@List.set_cons_succ
def Kh:=@List.set_cons_zero
def QG:=@PySem.F.slot_dict_values
def oW:=@of_decide_eq_false
def rj:=@PySem.W.mg_none_of
def QH:=@PySem.wpAny_pyIter_list
def bO:=@List.getElem?_map
def i9:=@List.size_toArray
def QI:=@List.flatten_cons
def Kl:=@List.append_assoc
def dY:=@of_decide_eq_true
def QJ:=@Nat.lt_succ_of_lt
def yp:=@PySem.wpAny_newObj_type
def CO:=@PySem.wpAny_truthy_bool
def QK:=@List.getElem?_set
def FT:=@List.length_range
def QL:=@PySem.wpAny_dictEntries
def tU:=@Int.toNat_natCast
def Km:=@List.foldl_append
def FU:=@List.getElem?_inj
def nM:=@Bool.eq_false_iff
def iF:=@List.length_cons
def nu:=@List.length_take
def JP:=@List.cons_append
def gQ:=@List.filter_cons
def yq:=@beq_self_eq_true
def DI:=@Int.ediv_le_self
def p5:=@Nat.le_add_right
def lX:=@List.lookup_cons
def p6:=@List.all_eq_true
def Br:=@List.getElem_mem
def wG:=@PySem.wpAny_call_entry
def DJ:=@List.drop_length
def cJ:=@List.take_length
def c9:=@decide_eq_false
def gJ:=@Option.some.inj
def iG:=@List.mem_filter
def dD:=@List.mem_append
def Bs:=@Bool.eq_iff_iff
def aE:=@List.length_map
def p7:=@PySem.W.kia_one
def sf:=@List.append_nil
def gK:=@List.nodup_cons
def eZ:=@List.length_set
def lY:=@List.foldl_cons
def JQ:=@List.nil_append
def p8:=@List.find?_cons
def JR:=@Option.map_some
def bP:=@List.map_append
def oz:=@Int.emod_nonneg
def JS:=@Int.ediv_nonneg
def JT:=@List.forIn_cons
def JU:=@PySem.pushCells_keeps
def JV:=@PySem.wpAny_dictEpoch
def JW:=@PySem.F.slot_zip_next
def DK:=@List.sum_append
def yr:=@PySem.wpAny_passesOwn
def JX:=@PySem.wpAny_execs_nil
def fC:=@PySem.PassesOwn.never
def yt:=@List.mem_range
def nv:=@PySem.Heap.size_push
def bh:=@decide_eq_true
def DL:=@Int.natAbs_mul
def DM:=@List.forIn_nil
def wH:=@PySem.wpAny_fieldsOf
def Bt:=@PySem.wpAny_setField
def uL:=@PySem.wpAny_seqItems
def wI:=@List.nodup_nil
def lZ:=@Int.mul_nonneg
def c5:=@PySem.boot_len
def jM:=@Nat.lt_irrefl
def dS:=@List.mem_cons
def bN:=@List.map_cons
def DN:=@List.any_cons
def cQ:=@List.sum_cons
def Bu:=@PySem.wpAny_standAt
def Bv:=@PySem.wpAny_holding
def jC:=@Int.mul_assoc
def Bw:=@List.map_take
def cg:=@PySem.Heap.lt_size
def e_:=@Nat.ne_of_lt
def fD:=@Nat.le_trans
def DO:=@Nat.le_of_lt
def yu:=@Nat.ne_of_gt
def a_:=@List.mem_map
def DP:=@Int.ediv_one
def yv:=@Int.le_of_lt
def DQ:=@Int.lt_or_le
def oB:=@List.set_set
def yw:=@Nat.min_self
def d7:=@List.map_map
def By:=@Nat.sub_self
def l7:=@Int.mul_comm
def wJ:=@Int.zero_add
def yx:=@Int.zero_mul
def jN:=@List.map_set
def DR:=@Int.sub_zero
def DS:=@Int.le_trans
def sj:=@Sum.inr.inj
def BB:=@Int.mul_one
def aQ:=@Nat.le_refl
def gh:=@Nat.zero_le
def l9:=@PySem.sizeLine_eq
def oE:=@PySem.wpAny_field
def ff:=@Int.le_refl
def l_:=@Int.mul_add
def p_:=@Int.add_mul
def jO:=@PySem.wpAny_mono
def bg:=@PySem.wpAny_pure
def ay:=@PySem.wpAny_bind
def uM:=@beq_iff_eq
def gR:=@congrArg
def qa:=@if_false
def cu:=@Ne.symm
def av:=@if_pos
def au:=@if_neg
theorem Z{α:Sort _}{a:α}:a=a:=rfl
namespace L2
open PySem PySem.Spec PyProof.Rows
abbrev Key:=Sum Int Str
def yy:Key->Value->Bool
 | .inl k,v=>Value.isInt k v
 | .inr x,v=>Value.isStrOf x v
def af5(w:World):Key->Int
 | .inl k=>hashInt k
 | .inr x=>hashStr w x
theorem gO:∀{k:Key}{v:Value},yy k v=true->(∃i t,k=Sum.inl i/\v=Value.int i t)\/(∃x t,k=Sum.inr x/\v=Value.str x t)
 | .inl i,v,h=>by obtain⟨t,e⟩:=Value.isInt_shape (k:=i) (v:=v) h;exact .inl ⟨i,t,Z,e⟩
 | .inr x,v,h=>by obtain⟨t,e⟩:=Value.isStrOf_shape (x:=x) (v:=v) h;exact .inr ⟨x,t,Z,e⟩
theorem RY(i:Int)(t:Tok):yy (.inl i) (.int i t)=true:=by simp[yy,Value.isInt]
theorem RZ(x:Str)(t:Tok):yy (.inr x) (.str x t)=true:=by simp[yy,Value.isStrOf]
theorem Zs(a b:Int):decide ((Sum.inl a:Key)=Sum.inl b)=(a==b):=by
 by_cases e:a=b
 .subst e;simp
 .have h:¬ (Sum.inl a:Key)=Sum.inl b:=λq=>e (Sum.inl.inj q);rw[c9 h];exact(FJ.mpr e).symm
theorem Zt(a b:Str):decide ((Sum.inr a:Key)=Sum.inr b)=decide (a=b):=by
 by_cases e:a=b
 .subst e;simp
 .have h:¬ (Sum.inr a:Key)=Sum.inr b:=λq=>e (sj q);rw[c9 h,c9 e]
theorem Zu(a:Int)(b:Str):decide ((Sum.inl a:Key)=Sum.inr b)=false:=c9 (λq=>nomatch q)
theorem Zv(a:Str)(b:Int):decide ((Sum.inr a:Key)=Sum.inl b)=false:=c9 (λq=>nomatch q)
def dh(prog:Program)(w:World):PySem.KeyKind prog w Key where
 is:=yy
 hash:=af5 w
 inj:=λv a b ha hb=>by
  rcases gO ha with⟨i,t,rfl,rfl⟩|⟨x,t,rfl,rfl⟩
  .rcases gO hb with⟨j,u,rfl,e⟩|⟨y,u,rfl,e⟩
   .injection e with e1 _;rw[e1]
   .exact nomatch e
  .rcases gO hb with⟨j,u,rfl,e⟩|⟨y,u,rfl,e⟩
   .exact nomatch e
   .injection e with e1 _;rw[e1]
 byValue:=λk v h=>by rcases gO h with⟨i,t,rfl,rfl⟩|⟨x,t,rfl,rfl⟩ <;> rfl
 pyHash:=λhv h=>by
  rcases gO hv with⟨i,t,rfl,rfl⟩|⟨x,t,rfl,rfl⟩
  .exact wpAny_pyHash_int h
  .exact wpAny_pyHash_str h
 eqBool:=λhu hv h=>by
  rcases gO hu with⟨i,t,rfl,rfl⟩|⟨x,t,rfl,rfl⟩
  .rcases gO hv with⟨j,u,rfl,rfl⟩|⟨y,u,rfl,rfl⟩
   .rw [Zs]at h;exact wpAny_eqBool_int h
   .rw [Zu]at h;exact SeqAt.EqAt.int_str i t y u _ _ _ _ h
  .rcases gO hv with⟨j,u,rfl,rfl⟩|⟨y,u,rfl,rfl⟩
   .rw [Zv]at h;exact SeqAt.EqAt.str_int x t j u _ _ _ _ h
   .rw [Zt]at h;exact wpAny_eqBool_str h
 «strs»:=λk x t v h=>by
  rcases gO h with⟨i,u,rfl,e⟩|⟨y,u,rfl,e⟩
  .exact nomatch e
  .injection e with e1 _;subst e1;cases v <;> rfl
theorem QM(prog:Program)(w:World)(k:Key)(v:Value):(dh prog w).is k v=yy k v:=rfl
theorem NG(prog:Program)(w:World)(i:Int)(t:Tok):(dh prog w).is (.inl i) (.int i t)=true:=RY i t
theorem NH(prog:Program)(w:World)(x:Str)(t:Tok):(dh prog w).is (.inr x) (.str x t)=true:=RZ x t
inductive V where
 | cy|bl (b:Bool)|int (i:Int)|str (x:Str)|zH (b:Array UInt8)|Kn (b:UInt64)|ref (a:Addr)|ty (n:String)
 deriving DecidableEq
def RelV:V->Value->Prop
 | .cy,u=>u=Value.none
 | .bl b,u=>u=Value.bool b
 | .int i,u=>∃t,u=Value.int i t
 | .str x,u=>∃t,u=Value.str x t
 | .zH b,u=>∃t,u=Value.bytes b t
 | .Kn b,u=>∃t,u=Value.float b t
 | .ref a,u=>u=Value.ref a
 | .ty n,u=>u=Value.type n
abbrev Vals:List V->List Value->Prop:=Paired RelV
variable {xs:List V}{us:List Value}
theorem Vals.length(r:Vals xs us):xs.length=us.length:=Paired.length r
theorem Vals.get:∀{xs:List V}{us:List Value}{i:Nat}{x:V},Vals xs us->xs[i]?=some x->∃u,us[i]?=some u/\RelV x u
 | _,_,_,_,.nil,e=>by simp at e
 | _,_,0,_,.cons r _,e=>by simp at e;subst e;exact⟨_,Z,r⟩
 | _,_,i+1,x,.cons _ t,e=>by obtain⟨u,h1,h2⟩:=Vals.get (i:=i) (x:=x) t (by simpa using e);exact⟨u,by simpa using h1,h2⟩
theorem Vals.set{x:V}{u:Value}(r:RelV x u):∀{xs:List V}{us:List Value}(i:Nat),Vals xs us->Vals (xs.set i x) (us.set i u)
 | _,_,_,.nil=> .nil
 | _,_,0,.cons _ t=> .cons r t
 | _,_,i+1,.cons q t=> .cons q (Vals.set r i t)
theorem Vals.append:∀{xs ys:List V}{us ws:List Value},Vals xs us->Vals ys ws->Vals (xs++ys) (us++ws)
 | _,_,_,_,.nil,s=>s
 | _,_,_,_,.cons r t,s=> .cons r (Vals.append t s)
def nN:Option V->Option Value->Prop
 | some v,some u=>RelV v u
 | none,none=>True
 | _,_=>False
def KV{κ:Type}:List (κ×V)->List (κ×Value)->Prop:=Paired λ(p:κ×V)(q:κ×Value)=>p.1=q.1/\RelV p.2 q.2
def kV:Key->V
 | .inl i=> .int i
 | .inr x=> .str x
inductive HO where
 | lst (xs:List V)
 | tup (xs:List V)
 | dK (kvs:List (Key×V))|dT (kvs:List (List Key×V))
 | set (S:Int->Bool) (n:Nat)
 | ins (C dx:Addr) (fs:List (Str×V))
 | own (x:Addr)
 | xd (fs:List (Str×V))
 | met (f x:Addr)
 | xT (lo hi:Int)
 | fZ (o:Obj) (u:HO)
 | Ko (ps:Array Value)
 | ext (φ:Heap->Prop)
abbrev Hp:=Addr->Option HO
def upd(H:Hp)(a:Addr)(o:HO):Hp:=λb=>if b=a then some o else H b
variable {H:Hp}{a:Addr}{o:HO}
theorem ao:upd H a o a=some o:=by unfold upd;rw[av rfl]
theorem az{b:Addr}(h:b≠a):upd H a o b=H b:=by unfold upd;rw[au h]
theorem pR{u:HO}:upd (upd H a o) a u=upd H a u:=by funext b;unfold upd;split <;> rfl
theorem jD{b:Addr}{u:HO}(h:H a=some o)(h':H b=some u)(d:o≠u):a≠b:=by intro e;subst e;rw[h]at h';exact d (gJ h')
theorem aG{b:Addr}(h:H a=some o)(h':H b=none):a≠b:=by intro e;subst e;rw[h]at h';cases h'
section
variable (P:Program)(w:World)
def eV(H:Hp)(h:Heap)(a:Addr):HO->Prop
 | .lst xs=>xs.length<=sizeLine/\∃(its:List Value)(n:Nat),Vals xs its/\h.get? a=some { cls:=.type "list",data:=.seq its.toArray n }
 | .tup xs=>xs.length<=sizeLine/\∃its:List Value,Vals xs its/\IsTup h a its.toArray
 | .dK kvs=>kvs.length<=sizeLine/\(a==sysModules)=false/\∃vs,KV kvs vs/\h.DictOf (dh P w) a vs
 | .dT kvs=>kvs.length<=sizeLine/\(a==sysModules)=false/\∃xs:List (List Key×Addr×Value),
     Paired (λ(p:List Key×V)(q:List Key×Addr×Value)=>p.1=q.1/\H q.2.1=some (.tup (p.1.map kV))/\RelV p.2 q.2.2) kvs xs/\
     ∃o es ep,h.get? a=some o/\o.ExactDict/\o.data =.dict es ep/\es.toList=xs.map (entryOfKey (tupleKind (dh P w)))/\(xs.map (·.1)).Nodup
 | .set S n=>h.SetOf (intKind P w) a S n
 | .ins C dx fs=>H dx=some (.own a)/\fs.length<=1000/\dx≠a/\h.get? a=some (PySem.W.instObj C dx)/\
     ∃mA,h.Ns1 dx mA/\(∀f,nN (fs.lookup f) (mA f))/\PySem.Within mA (fs.map (·.1))
 | .own _=>∃o,h.get? a=some o
 | .xd fs=>∃mA,h.Ns1 a mA/\∀f,nN (fs.lookup f) (mA f)
 | .xT lo hi=>∃t u v,h.get? a=some { cls:=.type "range",data:=.fields #[.int lo t,.int hi u,.int 1 v] }
 | .fZ o u=>h.get? a=some o/\eV H h a u
 | .Ko ps=>h.get? a=some { cls:=.none,data:=.fields ps }
 | .met f x=>h.get? a=some (PySem.W.methodObj (.ref f) (.ref x))
 | .ext φ=>φ h/\(∃o,h.get? a=some o)/\∀h1 h2:Heap,φ h1->(∀o,h1.get? a=some o->h2.get? a=some o)->φ h2
def jl(H:Hp)(h:Heap):Prop:=∀a o,H a=some o->eV P w H h a o
end
section
variable {P:Program}{w:World}{H H':Hp}{h h':Heap}{a:Addr}{o:HO}
theorem eV.lt(x:eV P w H h a o):a<h.objs.size:=by
 cases o with
 | lst xs=>obtain⟨_,_,_,_,e⟩:=x;exact cg e
 | tup xs=>obtain⟨_,_,_,p⟩:=x;exact p.lt
 | dK kvs=>obtain⟨_,_,_,_,o,_,_,e,_⟩:=x;exact cg e
 | dT kvs=>obtain⟨_,_,_,_,o,_,_,e,_⟩:=x;exact cg e
 | set S n=>obtain⟨o,_,_,_,e,_⟩:=x;exact cg e
 | ins C dx fs=>obtain⟨_,_,_,e,_⟩:=x;exact cg e
 | own y=>obtain⟨_,e⟩:=x;exact cg e
 | xd fs=>obtain⟨_,⟨_,_,_,e,_⟩,_⟩:=x;exact cg e
 | xT lo hi=>obtain⟨_,_,_,e⟩:=x;exact cg e
 | fZ ob u=>obtain⟨e,_⟩:=x;exact cg e
 | Ko ps=>exact cg (show h.get? a=some _ from x)
 | met f y=>exact cg (show h.get? a=some _ from x)
 | ext φ=>obtain⟨_,⟨_,e⟩,_⟩:=x;exact cg e
theorem Paired.UY{α β:Type}{F G:α->β->Prop}:∀{l₁:List α}{l₂:List β},Paired F l₁ l₂->(∀a b,F a b->G a b)->Paired G l₁ l₂
 | _,_,.nil,_=> .nil
 | _,_,.cons r t,f=> .cons (f _ _ r) (Paired.UY t f)
theorem eV.stay(x:eV P w H h a o)(k:∀b u,(b=a\/H b=some (.own a))->h.get? b=some u->h'.get? b=some u)(ho:∀b,H b=some (.own a)->H' b=some (.own a))(ht:∀b xs,H b=some (.tup xs)->H' b=some (.tup xs)):eV P w H' h' a o:=by
 induction o with
 | lst xs=>obtain⟨z,its,n,r,e⟩:=x;exact⟨z,its,n,r,k _ _ (.inl rfl) e⟩
 | tup xs=>obtain⟨z,its,r,ob,e,c⟩:=x;exact⟨z,its,r,ob,k _ _ (.inl rfl) e,c⟩
 | dK kvs=>obtain⟨z,y,vs,r,ob,es,ep,e,c⟩:=x;exact⟨z,y,vs,r,ob,es,ep,k _ _ (.inl rfl) e,c⟩
 | dT kvs=>
   obtain⟨z,y,xs,r,ob,es,ep,e,c⟩:=x
   exact⟨z,y,xs,Paired.UY r λp q z=>⟨z.1,ht _ _ z.2.1,z.2.2⟩,ob,es,ep,k _ _ (.inl rfl) e,c⟩
 | set S n=>obtain⟨ob,es,ep,t,e,c⟩:=x;exact⟨ob,es,ep,t,k _ _ (.inl rfl) e,c⟩
 | ins C dx fs=>
   obtain⟨d,z,ne,e,mA,⟨od,es,ep,e2,c⟩,r⟩:=x
   exact⟨ho _ d,z,ne,k _ _ (.inl rfl) e,mA,⟨od,es,ep,k _ _ (.inr d) e2,c⟩,r⟩
 | own y=>obtain⟨ob,e⟩:=x;exact⟨ob,k _ _ (.inl rfl) e⟩
 | xd fs=>obtain⟨mA,⟨od,es,ep,e,c⟩,r⟩:=x;exact⟨mA,⟨od,es,ep,k _ _ (.inl rfl) e,c⟩,r⟩
 | xT lo hi=>obtain⟨t,u,v,e⟩:=x;exact⟨t,u,v,k _ _ (.inl rfl) e⟩
 | fZ ob u ih=>obtain⟨e,q⟩:=x;exact⟨k _ _ (.inl rfl) e,ih q⟩
 | Ko ps=>
   have e:h.get? a=some { cls:=.none,data:=.fields ps }:=x
   show h'.get? a=some { cls:=.none,data:=.fields ps }
   exact k a _ (.inl rfl) e
 | met f y=>
   have e:h.get? a=some (PySem.W.methodObj (.ref f) (.ref y)):=x
   show h'.get? a=some (PySem.W.methodObj (.ref f) (.ref y))
   exact k a _ (.inl rfl) e
 | ext φ=>obtain⟨p,⟨o,e⟩,st⟩:=x;exact⟨st _ _ p λo q=>k _ _ (.inl rfl) q,⟨o,k _ _ (.inl rfl) e⟩,st⟩
theorem jl.lt(x:jl P w H h)(e:H a=some o):a<h.objs.size:=(x a o e).lt
theorem jl.fresh(x:jl P w H h)(e:h.objs.size<=a):H a=none:=by
 cases q:H a with
 | none=>rfl
 | some u=>exact absurd (kP (x.lt q) e) (jM _)
theorem jl.kept(x:jl P w H h)(k:∀b u,h.get? b=some u->h'.get? b=some u):jl P w H h':=λa o e=>
 (x a o e).stay (λb u _ q=>k b u q) (λ_ q=>q) λ_ _ q=>q
theorem jl.laid(x:jl P w H h)(k:∀b u,h.get? b=some u->h'.get? b=some u)(hp:h.objs.size<=a)(new:eV P w (upd H a o) h' a o):jl P w (upd H a o) h':=λb u e=>by
 have hn:=x.fresh hp;by_cases hb:b=a
 .subst hb;rw[ao]at e;cases e;exact new
 .rw [az hb]at e;exact(x b u e).stay (λc v _ q=>k c v q) (λc q=>by rw[az (aG q hn)];exact q) λc xs q=>by rw[az (aG q hn)];exact q
end
def Rd(H:Hp)(a:Addr)(u:HO):Prop:=H a=some u\/∃o,H a=some (.fZ o u)
variable {P:Program}{w:World}{h:Heap}
theorem Rd.ok{u:HO}(r:Rd H a u)(x:jl P w H h):eV P w H h a u:=by
 rcases r with r|⟨o,r⟩
 .exact x a u r
 .obtain ⟨_,q⟩:=x a _ r;exact q
def R0:Option HO->Prop
 | some (.lst _)=>True
 | some (.dK _)=>True
 | some (.dT _)=>True
 | some (.set _ _)=>True
 | some (.ins _ _ _)=>True
 | some (.ext _)=>True
 | _=>False
section
variable {P:Program}{w:World}{H:Hp}{h h':Heap}{x e:Addr}{o':HO}
theorem jl.write(ok:jl P w H h)(mu:R0 (H x))(he:e=x\/H e=some (.own x))(k:∀b u,b≠e->h.get? b=some u->h'.get? b=some u)(OX:∃u,h'.get? e=some u)(new:eV P w (upd H x o') h' x o'):jl P w (upd H x o') h':=λb u q=>by
 have Zw:∀c y,H c=some (.own y)->c≠x:=λc y r z=>by subst z;rw[r]at mu;exact mu
 have af6:∀c xs,H c=some (.tup xs)->c≠x:=λc xs r z=>by subst z;rw[r]at mu;exact mu
 by_cases hb:b=x
 . subst hb;rw[ao]at q;cases q;exact new
 . rw[az hb]at q
   by_cases Kq:b=e
   . have q':H b=some (.own x):=by
      rcases he with z|z
      . exact absurd (Kq.trans z) hb
      . rw[Kq];exact z
     rw[q]at q';cases q'
     obtain⟨v,hv⟩:=OX
     exact⟨v,by rw[Kq];exact hv⟩
   . refine(ok b u q).stay (λc v hc r=>k c v ?_ r) (λc r=>by rw[az (Zw c b r)];exact r) λc xs r=>by rw[az (af6 c xs r)];exact r
     rcases hc with rfl|hc
     . exact Kq
     . rintro rfl
       rcases he with z|z
       . exact Zw c b hc z
       . rw[hc]at z;cases z;exact hb rfl
end
structure Un(fs ex:List Addr)(H H':Hp)(h h':Heap):Prop where
 keep:∀b o,h.get? b=some o->H b=none->b∉fs->b∉ex->h'.get? b=some o
 slot:∀b o,h.get? b=some o->H b=none->b∈fs->b∉ex->∃sl,h'.get? b=some { o with slots:=sl }
 free:∀b o,h.get? b=some o->H b=none->b∉ex->H' b=none
 there:∀b o,h.get? b=some o->b∉ex->∃o',h'.get? b=some o'
 tups:∀b xs,H b=some (.tup xs)->H' b=some (.tup xs)
 tV:∀b o u,H b=some (.fZ o u)->H' b=some (.fZ o u)
 xx:∀b ps,H b=some (.Ko ps)->∃more,H' b=some (.Ko (ps++more))
section
variable {fs fs' ex ex':List Addr}{H H1 H2:Hp}{h h1 h2 h':Heap}{a x e:Addr}{o:HO}
theorem Un.any(u:Un fs ex H H1 h h1){b:Addr}(q:h.get? b=some ob)(n:H b=none)(hx:b∉ex):∃sl,h1.get? b=some { ob with slots:=sl }:=by
 by_cases hb:b∈fs
 .exact u.slot b ob q n hb hx
 .exact ⟨ob.slots,u.keep b ob q n hb hx⟩
theorem Un.kept(k:∀b u,h.get? b=some u->h'.get? b=some u):Un fs ex H H h h':=⟨λb ob q _ _ _=>k b ob q,λb ob q _ _ _=>⟨ob.slots,k b ob q⟩,λ_ _ _ n _=>n,λb ob q _=>⟨ob,k b ob q⟩,λ_ _ q=>q,λ_ _ _ q=>q,λ_ ps q=>⟨#[],by rw[q];simp⟩⟩
theorem Un.refl:Un fs ex H H h h:=Un.kept λ_ _ q=>q
theorem Un.laid(k:∀b u,h.get? b=some u->h'.get? b=some u)(hp:h.objs.size<=a)(hn:H a=none):Un fs ex H (upd H a o) h h' where
 keep:=λb u q _ _ _=>k b u q
 slot:=λb u q _ _ _=>⟨u.slots,k b u q⟩
 free:=λb u q n _=>by rw[az (e_ (kP (cg q) hp))];exact n
 there:=λb u q _=>⟨u,k b u q⟩
 tups:=λb xs q=>by rw[az (aG q hn)];exact q
 tV:=λb u xs q=>by rw[az (aG q hn)];exact q
 xx:=λb ps q=>⟨#[],by rw[az (aG q hn),q];simp⟩
theorem Un.write(mu:R0 (H x))(he:e=x\/H e=some (.own x))(k:∀b u,b≠e->h.get? b=some u->h'.get? b=some u)(OX:∃u,h'.get? e=some u):Un fs ex H (upd H x o) h h':=by
 have hx:∀b,H b=none->b≠x:=λb n z=>by subst z;rw[n]at mu;exact mu
 have hb:∀b,H b=none->b≠e:=λb n z=>by
  subst z;rcases he with r|r
  .exact hx b n r
  .rw [n]at r;cases r
 have hm:∀b u,H b=some u->¬ R0 (some u)->b≠x:=λb u q nm z=>by subst z;rw[q]at mu;exact nm mu
 refine⟨λb u q n _ _=>k b u (hb b n) q,λb u q n _ _=>⟨u.slots,k b u (hb b n) q⟩,λb u q n _=>by rw[az (hx b n)];exact n,λb u q _=>?_,
  λb xs q=>by rw[az (hm b _ q λz=>z)];exact q,λb u xs q=>by rw[az (hm b _ q λz=>z)];exact q,λb ps q=>⟨#[],by rw[az (hm b _ q λz=>z),q];simp⟩⟩
 by_cases Kq:b=e
 .subst Kq;exact OX
 .exact ⟨u,k b u Kq q⟩
end
def WB(h:Heap)(H:Hp):List Addr:=(List.range h.objs.size).filter λa=>(H a).isSome
def yz(h:Heap)(H:Hp):Heap:=PySem.W.hideAll h (WB h H)
theorem R1(h:Heap)(H:Hp):(yz h H).objs.size=h.objs.size:=PySem.W.hideAll_size _ _
theorem UZ{b:Addr}{o:Obj}(e:h.get? b=some o)(n:H b=none):(yz h H).get? b=some o:=PySem.W.hideAll_get _ e λhm=>by have q:(H b).isSome=true:=(iG.mp hm).2;rw[n]at q;simp at q
theorem XG{b:Addr}{o:Obj}(e:(yz h H).get? b=some o):h.get? b=some o/\H b=none:=by
 have e':h.get? b=some o:=PySem.W.of_hideAll (WB h H) e;refine⟨e',?_⟩;cases q:H b with
 | none=>rfl
 | some x=>have hm:b∈WB h H:=iG.mpr ⟨yt.mpr (cg e'),by simp[q]⟩;have z:(yz h H).get? b=none:=PySem.W.hideAll_none (WB h H) hm;rw[z]at e;cases e
structure Mod(K:Fg)(mg:SO)(base:Heap):Prop where
 R3:K.In base
 glob:base.Ns mainGlobals mg
 blt:∃mb,base.Ns builtinsNs mb/\∀x:Str,x ≠ "__name__"->mb x=bootBuiltins x
 nolimit:base.NoLimit
structure Cx where
 prog:Program
 w:World
 K:Fg
 mg:Str->Option Value
 base:Heap
 A:Around
 N:List Str
 s₀:Shared
 H₀:Hp
 env:Env
 outer:List Env
 stack:List Env
 ex:List Addr
 fn:Str->Bool
 calm:Bool
 pn:List (Addr×Obj)
 xe:Value->Shared->Prop
def frs(l:List Env):List Addr:=l.filterMap (·.frame)
abbrev Cx.fs(X:Cx):List Addr:=frs X.outer
def WC(sc:Scope)(x:Str):Prop:=sc.names.lookup x=some .local\/sc.names.lookup x=some .cell\/sc.names.lookup x=some .free
def Loc(sc:Scope)(x:Str):Prop:=sc.names.lookup x=some .local\/sc.names.lookup x=some .cell
def Look(env:Env)(h:Heap)(m:SO)(x:Str)(u:Value):Prop:=(env.kindOf x=some .local/\m x=some u)\/((env.kindOf x=some .cell\/env.kindOf x=some .free)/\∃c,env.cells.lookup x=some c/\h.IsCell c (some u))
structure Cx.Ok(X:Cx):Prop where
 mod:Mod X.K X.mg X.base
 kind:X.env.scope.kind =.function
 glob:X.env.globals=mainGlobals
 blt:X.env.builtins=builtinsNs
 above:X.s₀.heap.objs.size<=X.env.locals
 inj:∀x y c,X.env.cells.lookup x=some c->X.env.cells.lookup y=some c->x=y
 has:∀x,(X.env.kindOf x=some .cell\/X.env.kindOf x=some .free)->∃c,X.env.cells.lookup x=some c
 gM:∀x c,X.fn x=true->X.env.cells.lookup x=some c->X.s₀.heap.objs.size<=c
 hd:X.calm=true->X.A.handled=none
 frames:X.A.frames=some X.stack
 stk:X.stack=X.outer\/(X.stack=X.env::X.outer/\X.env.frame=some X.env.locals)
 OY:∀b∈X.ex,b≠X.env.locals/\∀x c,X.env.cells.lookup x=some c->c≠b
 bs:∀b o,X.base.get? b=some o->X.s₀.heap.get? b=some o/\X.H₀ b=none
 Hs:X.base.objs.size<=X.s₀.heap.objs.size
 Kr:∀b o,X.base.get? b=some o->b∉X.ex
 FW:∀b∈X.ex,b∉X.fs
 tW:X.s₀.heap.FunFrames X.base X.outer
 Ks:∀b∈X.fs,X.H₀ b=none
structure Inv(X:Cx)(pins:AO)(σ:List (Option V))(H:Hp)(s:Shared):Prop where
 ok:X.Ok
 os:s.os=X.s₀.os
 bare:AllBare s.gens
 base:Un X.fs X.ex X.H₀ H X.s₀.heap s.heap
 loc:∃m,s.heap.Ns X.env.locals m/\∀(i:Nat)(x:Str)(v:V),X.N[i]?=some x->σ[i]?=some (some v)->WC X.env.scope x->∃u,RelV v u/\Look X.env s.heap m x u
 cell:∀x c,X.env.cells.lookup x=some c->∃v,s.heap.IsCell c v
 free:H X.env.locals=none
 oF:∀x c,X.env.cells.lookup x=some c->H c=none
 pin:∀p∈X.pn++pins,s.heap.get? p.1=some p.2/\H p.1=none/\p.1≠X.env.locals/\p.1∉X.fs/\∀v,p.2.data ≠ .cell v
 hok:jl X.prog X.w H s.heap
 len:σ.length=X.N.length
variable {g':Array GenState}{t' i j:Nat}{ch:List Addr}{it:Addr}{N:List Str}{x:Str}{M:Model}{E:VS}{u:Value}
section
variable {X:Cx}{pins:AO}{σ:List (Option V)}{H H':Hp}{s:Shared}{h':Heap}
theorem Cx.Ok.af7(ok:X.Ok){b:Addr}{o:Obj}(e:X.base.get? b=some o):b∉X.fs:=λhb=>by have:=(ok.tW.mem hb).1;rw[e]at this;cases this
theorem Inv.bs(I:Inv X pins σ H s):∀b o,X.base.get? b=some o->s.heap.get? b=some o/\H b=none:=λb o e=>
 ⟨I.base.keep b o (I.ok.bs b o e).1 (I.ok.bs b o e).2 (I.ok.af7 e) (I.ok.Kr b o e),I.base.free b o (I.ok.bs b o e).1 (I.ok.bs b o e).2 (I.ok.Kr b o e)⟩
theorem Inv.bk(I:Inv X pins σ H s):∀b o,X.base.get? b=some o->s.heap.get? b=some o:=λb o e=>(I.bs b o e).1
theorem Inv.mod(I:Inv X pins σ H s):Mod X.K X.mg X.base:=I.ok.mod
theorem Inv.kM(I:Inv X pins σ H s):X.K.In s.heap:=I.ok.mod.R3.keeps I.bk
theorem Inv.lt(I:Inv X pins σ H s):X.env.locals<s.heap.objs.size:=let⟨_,hn,_⟩:=I.loc;hn.lt
theorem Inv.sz(I:Inv X pins σ H s):X.s₀.heap.objs.size<=s.heap.objs.size:=fD I.ok.above (DO I.lt)
theorem Inv.af8(I:Inv X pins σ H s)(h:s.heap.objs.size<=a):a∉X.fs:=λhb=>by obtain⟨_,o,ho,_⟩:=I.ok.tW.mem hb;exact absurd (kP (cg ho) (fD I.sz h)) (jM _)
theorem Inv.Ku(I:Inv X pins σ H s):∀x c,X.env.cells.lookup x=some c->c≠X.env.locals:=λx c e z=>by obtain⟨v,o,ho,hd⟩:=I.cell x c e;obtain⟨m,⟨o',es,ep,ho',hd',_⟩,_⟩:=I.loc;rw[z,ho']at ho;cases ho;rw[hd']at hd;cases hd
theorem Inv.tW(I:Inv X pins σ H s):s.heap.FunFrames X.base X.outer:=by
 have all:∀(l:List Env),(∀b∈frs l,b∈X.fs)->X.s₀.heap.FunFrames X.base l->s.heap.FunFrames X.base l:=by
  intro l
  induction l with
  | nil=>intro _ _;trivial
  | cons env r ih=>intro hs hl;obtain⟨hk,⟨L,o,hf,hn,ho,hd⟩,hr⟩:=hl;have hL:L∈X.fs:=hs L (by unfold frs;rw[z8,hf];exact cT);obtain⟨sl,e⟩:=I.base.slot L o ho (I.ok.Ks L hL) hL λz=>I.ok.FW L z hL;exact⟨hk,⟨L,_,hf,hn,e,hd⟩,ih (λb hb=>hs b (by unfold frs;rw[z8,hf];exact cW _ hb)) hr⟩
 exact all X.outer (λ_ hb=>hb) I.ok.tW
theorem Inv.stack(I:Inv X pins σ H s):s.heap.FunFrames X.base X.stack:=by
 rcases I.ok.stk with e|⟨e,hf⟩
 .rw [e];exact I.tW
 .rw [e];obtain⟨m,hn,_⟩:=I.loc;refine .cons (by rw[I.ok.kind];decide) hf hn ?_ I.tW;exact Heap.get?_none_of_le (fD I.ok.Hs I.ok.above)
theorem Inv.Kv(I:Inv X pins σ H s):∀b∈frs X.stack,b∈X.env.locals::X.fs:=λb hb=>by
 rcases I.ok.stk with e|⟨e,hf⟩
 .rw [e]at hb;exact cW _ hb
 .rw [e]at hb;unfold frs at hb;rw[z8,hf]at hb;exact hb
theorem Inv.OZ(I:Inv X pins σ H s):∀b∈frs X.stack,H b=none:=λb hb=>by
 rcases dS.mp (I.Kv b hb)with e|hb
 .rw [e];exact I.free
 .obtain ⟨_,o,ho,_⟩:=I.ok.tW.mem hb;exact I.base.free b o ho (I.ok.Ks b hb) λz=>I.ok.FW b z hb
theorem Inv.step{d':Drawn}(I:Inv X pins σ H s)(hch:∀b∈ch,(b∈X.ex\/X.s₀.heap.objs.size<=b)/\b≠X.env.locals/\(∀x c,X.env.cells.lookup x=some c->c≠b)/\∀p∈X.pn++pins,p.1≠b)(keep:∀b o,b≠X.env.locals->b∉X.fs->b∉ch->s.heap.get? b=some o->H b=none->h'.get? b=some o)(slot:∀b o,b≠X.env.locals->b∈X.fs->b∉ch->s.heap.get? b=some o->H b=none->∃sl,h'.get? b=some { o with slots:=sl })(free:∀b o,b∉ch->s.heap.get? b=some o->H b=none->H' b=none)(there:∀b o,b∉ch->s.heap.get? b=some o->∃o',h'.get? b=some o')(tups:∀b xs,H b=some (.tup xs)->H' b=some (.tup xs))(tV:∀b o u,H b=some (.fZ o u)->H' b=some (.fZ o u))(xx:∀b ps,H b=some (.Ko ps)->∃more,H' b=some (.Ko (ps++more)))(ns:∀m,s.heap.Ns X.env.locals m->h'.Ns X.env.locals m)(hok:jl X.prog X.w H' h')(hg:AllBare g'):
  Inv X pins σ H' { s with heap:=h',gens:=g',drawn:=d',toks:=t' }:=by
 have neL:∀b o,X.s₀.heap.get? b=some o->b≠X.env.locals:=λb o e=>e_ (kP (cg e) I.ok.above)
 have WD:∀b o,X.s₀.heap.get? b=some o->b∉X.ex->b∉ch:=λb o e hx hb=>by
  rcases(hch b hb).1 with z|z
  .exact hx z
  .exact absurd (kP (cg e) z) (jM _)
 have cellK:∀x c,X.env.cells.lookup x=some c->∀v,s.heap.IsCell c v->h'.IsCell c v:=λx c e v ⟨o,ho,hd⟩=>by
  have xU:c∉ch:=λz=>(hch c z).2.2.1 x c e rfl;by_cases hc:c∈X.fs
  .obtain ⟨sl,q⟩:=slot c o (I.Ku x c e) hc xU ho (I.oF x c e);exact⟨_,q,hd⟩
  .exact ⟨o,keep c o (I.Ku x c e) hc xU ho (I.oF x c e),hd⟩
 refine⟨I.ok,I.os,hg,⟨λb o e n hb hx=>?_,λb o e n hb hx=>?_,λb o e n hx=>?_,λb o e hx=>?_,λb xs e=>tups b xs (I.base.tups b xs e),λb o xs e=>tV b o xs (I.base.tV b o xs e),λb ps e=>?_⟩,?_,λx c e=>?_,?_,λx c e=>?_,λp hp=>?_,hok,I.len⟩
 . exact keep b o (neL b o e) hb (WD b o e hx) (I.base.keep b o e n hb hx) (I.base.free b o e n hx)
 . obtain⟨sl,e1⟩:=I.base.slot b o e n hb hx
   obtain⟨sl',e2⟩:=slot b _ (neL b o e) hb (WD b o e hx) e1 (I.base.free b o e n hx)
   exact⟨sl',e2⟩
 . obtain⟨o',e1⟩:=I.base.there b o e hx
   exact free b o' (WD b o e hx) e1 (I.base.free b o e n hx)
 . obtain⟨o',e1⟩:=I.base.there b o e hx
   exact there b o' (WD b o e hx) e1
 . obtain⟨m1,e1⟩:=I.base.xx b ps e
   obtain⟨m2,e2⟩:=xx b _ e1
   exact⟨m1++m2,by rw[e2,Array.append_assoc]⟩
 . obtain⟨m,hn,hl⟩:=I.loc
   refine⟨m,ns m hn,λi x v e1 e2 e3=>?_⟩
   obtain⟨u,r,l⟩:=hl i x v e1 e2 e3
   refine⟨u,r,?_⟩
   rcases l with l|⟨k,c,e,z⟩
   . exact .inl l
   . exact .inr ⟨k,c,e,cellK x c e _ z⟩
 . obtain⟨v,z⟩:=I.cell x c e
   exact⟨v,cellK x c e v z⟩
 . obtain⟨m,⟨o,_,_,ho,_⟩,_⟩:=I.loc
   exact free _ o (λz=>(hch _ z).2.1 rfl) ho I.free
 . obtain⟨v,o,ho,hd⟩:=I.cell x c e
   exact free c o (λz=>(hch c z).2.2.1 x c e rfl) ho (I.oF x c e)
 . obtain⟨e,n,ne,nf,d⟩:=I.pin p hp
   have xU:p.1∉ch:=λz=>(hch p.1 z).2.2.2 p hp rfl
   exact⟨keep p.1 p.2 ne nf xU e n,free p.1 p.2 xU e n,ne,nf,d⟩
theorem Inv.un(I:Inv X pins σ H s)(u:Un X.fs [] H H' s.heap h')(hok:jl X.prog X.w H' h'):Inv X pins σ H' { s with heap:=h',toks:=t' }:=by obtain⟨m,⟨o,es,ep,ho,r⟩,_⟩:=id I.loc;obtain⟨sl,hL⟩:=u.any ho I.free (by simp);exact I.step (g':=s.gens) (d':=s.drawn) (ch:=[]) (λ_ z=>nomatch z) (λb o _ hb _ e n=>u.keep b o e n hb (by simp)) (λb o _ hb _ e n=>u.slot b o e n hb (by simp)) (λb o _ e n=>u.free b o e n (by simp)) (λb o _ e=>u.there b o e (by simp)) u.tups u.tV u.xx (λm' hm=>by obtain⟨o',es',xV,ho',r'⟩:=hm;rw[ho]at ho';cases ho';exact⟨_,es',xV,hL,r'⟩) hok I.bare
theorem Inv.call{d':Drawn}(I:Inv X pins σ H s)(u:Un (frs X.stack) ch H H' s.heap h')(hok:jl X.prog X.w H' h')(hg:AllBare g')(hch:∀b∈ch,(b∈X.ex\/X.s₀.heap.objs.size<=b)/\b≠X.env.locals/\(∀x c,X.env.cells.lookup x=some c->c≠b)/\∀p∈X.pn++pins,p.1≠b):
  Inv X pins σ H' { s with heap:=h',gens:=g',drawn:=d',toks:=t' }:=by
 obtain⟨m,⟨o,es,ep,ho,r⟩,_⟩:=id I.loc
 obtain⟨sl,hL⟩:=u.any ho I.free λz=>(hch _ z).2.1 rfl
 exact I.step (ch:=ch) hch (λb o hL hb hc e n=>u.keep b o e n (λz=>(dS.mp (I.Kv b z)).elim hL hb) hc) (λb o _ _ hc e n=>u.any e n hc) (λb o hc e n=>u.free b o e n hc) (λb o hc e=>u.there b o e hc) u.tups u.tV u.xx (λm' hm=>by obtain⟨o',es',xV,ho',r'⟩:=hm;rw[ho]at ho';cases ho';exact⟨_,es',xV,hL,r'⟩) hok hg
theorem Inv.turned(I:Inv X pins σ H s)(k:∀b o,b≠it->s.heap.get? b=some o->h'.get? b=some o)(hn:H it=none)(hL:it≠X.env.locals)(h1:it∈X.ex\/X.s₀.heap.objs.size<=it)(h2:∀x c,X.env.cells.lookup x=some c->c≠it)(h3:∀p∈X.pn++pins,p.1≠it):Inv X pins σ H { s with heap:=h',toks:=t' }:=by
 have nit:∀b u,H b=some u->b≠it:=λb u e z=>by rw[z,hn]at e;cases e
 refine I.step (g':=s.gens) (d':=s.drawn) (ch:=[it]) (λb hb=>?_) (λb o _ _ hc e _=>k b o (λz=>hc (by simp[z])) e) (λb o _ _ hc e _=>⟨o.slots,k b o (λz=>hc (by simp[z])) e⟩) (λ_ _ _ _ n=>n)
  (λb o hc e=>⟨o,k b o (λz=>hc (by simp[z])) e⟩) (λ_ _ e=>e) (λ_ _ _ e=>e) (λb ps e=>⟨#[],by rw[e];simp⟩) (λm hm=>?_) (λb u e=>?_) I.bare
 . have e:b=it:=by simpa using hb
   subst e
   exact⟨h1,hL,h2,h3⟩
 . obtain⟨o,es,ep,ho,r⟩:=hm
   exact⟨o,es,ep,k _ o (cu hL) ho,r⟩
 . refine(I.hok b u e).stay (λc v hc q=>k c v ?_ q) (λ_ q=>q) λ_ _ q=>q
   rcases hc with z|z
   . rw[z];exact nit b u e
   . exact nit c _ z
theorem Inv.tok(I:Inv X pins σ H s)(t:Nat):Inv X pins σ H { s with toks:=t }:=I.un (h':=s.heap) (t':=t) Un.refl I.hok
theorem Inv.kept(I:Inv X pins σ H s)(k:∀b u,s.heap.get? b=some u->h'.get? b=some u):Inv X pins σ H { s with heap:=h',toks:=t' }:=I.un (Un.kept k) (I.hok.kept k)
theorem Inv.laid(I:Inv X pins σ H s)(k:∀b u,s.heap.get? b=some u->h'.get? b=some u)(hp:s.heap.objs.size<=a)(new:eV X.prog X.w (upd H a o) h' a o):Inv X pins σ (upd H a o) { s with heap:=h',toks:=t' }:=I.un (Un.laid k hp (I.hok.fresh hp)) (I.hok.laid k hp new)
theorem Inv.write{x e:Addr}(I:Inv X pins σ H s)(mu:R0 (H x))(he:e=x\/H e=some (.own x))(k:∀b u,b≠e->s.heap.get? b=some u->h'.get? b=some u)(OX:∃u,h'.get? e=some u)(new:eV X.prog X.w (upd H x o) h' x o):Inv X pins σ (upd H x o) { s with heap:=h',toks:=t' }:=I.un (Un.write mu he k OX) (I.hok.write mu he k OX new)
theorem Inv.O0{WE:AO}(I:Inv X pins σ H s)(h:∀p∈WE,s.heap.get? p.1=some p.2/\H p.1=none/\p.1≠X.env.locals/\p.1∉X.fs/\∀v,p.2.data ≠ .cell v):Inv X WE σ H s:=⟨I.ok,I.os,I.bare,I.base,I.loc,I.cell,I.free,I.oF,λp hp=>(dD.mp hp).elim (λz=>I.pin p (FI _ z)) (h p),I.hok,I.len⟩
theorem CP(hN:N.Nodup)(a:N[i]?=some x)(b:N[j]?=some x):i=j:=by obtain⟨h1,e1⟩:=di.mp a;obtain⟨h2,e2⟩:=di.mp b;exact(List.getElem_inj hN).mp (e1.trans e2.symm)
theorem z_{A:Around}{v:V}{Q:Unit->Shared->Prop}(I:Inv X pins σ H s)(hN:X.N.Nodup)(hi:X.N[i]?=some x)(hx:Loc X.env.scope x)(r:RelV v u)(h:∀s',Inv X pins (σ.set i (some v)) H s'->(∃a,Heap.SameBut a s.heap s'.heap/\(a=X.env.locals\/X.env.cells.lookup x=some a))->Q () s')(hf:X.fn x=true\/X.env.scope.names.lookup x=some .local:=by first|exact .inl rfl|exact .inr rfl|assumption):wpAny M A (storeName X.env x u) Q E s:=by
 obtain⟨m,hn,hl⟩:=id I.loc
 have hcls:(X.env.scope.kind ==.class || (X.env.scope.kind ==.module && X.env.locals != X.env.globals))=false:=by rw[I.ok.kind];rfl
 have hiσ:i<σ.length:=by rw[I.len];exact(di.mp hi).1
 have Ku:=I.Ku
 have tracked:∀{a:Addr}{h':Heap},(∃o,s.heap.get? a=some o/\H a=none)->Heap.SameBut a s.heap h'->jl X.prog X.w H h':=λ{a h'} ha hs b ob e=>by
  obtain⟨_,_,hfree⟩:=ha;refine(I.hok b ob e).stay (λc w' hc q=>(hs.2 c ?_).trans q) (λ_ q=>q) λ_ _ q=>q;rintro rfl;rcases hc with rfl|hc
  .rw [hfree]at e;cases e
  .rw [hfree]at hc;cases hc
 rcases hx with hk|hk
 . refine wpAny_storeName_local hk hn (λh' hn' hs=>?_) hcls
   obtain⟨oL,_,_,hoL,_⟩:=id hn
   refine h _ ⟨I.ok,I.os,I.bare,⟨λb o e n hb hx=>?_,λb o e n hb hx=>?_,I.base.free,λb o e hx=>?_,I.base.tups,I.base.tV,I.base.xx⟩,⟨_,hn',λj y v' e1 e2 e3=>?_⟩,λy c e=>?_,I.free,I.oF,λp hp=>?_,tracked ⟨oL,hoL,I.free⟩ hs,by simpa using I.len⟩ ⟨_,hs,.inl rfl⟩
   . exact(hs.2 b (e_ (kP (cg e) I.ok.above))).trans (I.base.keep b o e n hb hx)
   . obtain⟨sl,e1⟩:=I.base.slot b o e n hb hx
     exact⟨sl,(hs.2 b (e_ (kP (cg e) I.ok.above))).trans e1⟩
   . obtain⟨o',e1⟩:=I.base.there b o e hx
     exact⟨o',(hs.2 b (e_ (kP (cg e) I.ok.above))).trans e1⟩
   . by_cases hj:j=i
     . subst hj
       rw[hi]at e1;cases e1
       rw[iB hiσ]at e2
       cases e2
       exact⟨u,r,.inl ⟨hk,by simp⟩⟩
     . rw[yk (cu hj)]at e2
       obtain⟨u',r',q⟩:=hl j y v' e1 e2 e3
       refine⟨u',r',?_⟩
       rcases q with⟨k,e⟩|⟨k,c,e,z⟩
       . refine .inl ⟨k,?_⟩
         have:y≠x:=λe=>hj (CP hN e1 (e▸hi))
         simp[this,e]
       . exact .inr ⟨k,c,e,z.sameBut hs (Ku y c e)⟩
   . obtain⟨w',z⟩:=I.cell y c e
     exact⟨w',z.sameBut hs (Ku y c e)⟩
   . obtain⟨e,n,ne,nf,d⟩:=I.pin p hp
     exact⟨(hs.2 p.1 ne).trans e,n,ne,nf,d⟩
 . have hfn:X.fn x=true:=by
    rcases hf with z|z
    . exact z
    . rw[z]at hk;cases hk
   obtain⟨c,hc⟩:=I.ok.has x (.inl hk)
   obtain⟨w',z⟩:=I.cell x c hc
   refine wpAny_storeName_cell I.ok.kind hk hc z (λh' hc' hs=>?_)
   obtain⟨oc,hoc,af9⟩:=id z
   refine h { s with heap:=h' } ⟨I.ok,I.os,I.bare,⟨λb o e n hb hx=>?_,λb o e n hb hx=>?_,I.base.free,λb o e hx=>?_,I.base.tups,I.base.tV,I.base.xx⟩,⟨m,hn.sameBut hs (cu (Ku x c hc)),λj y v' e1 e2 e3=>?_⟩,λy c' e=>?_,I.free,I.oF,λp hp=>?_,tracked ⟨oc,hoc,I.oF x c hc⟩ hs,by simpa using I.len⟩ ⟨c,hs,.inr hc⟩
   . exact(hs.2 b (e_ (kP (cg e) (I.ok.gM x c hfn hc)))).trans (I.base.keep b o e n hb hx)
   . obtain⟨sl,e1⟩:=I.base.slot b o e n hb hx
     exact⟨sl,(hs.2 b (e_ (kP (cg e) (I.ok.gM x c hfn hc)))).trans e1⟩
   . obtain⟨o',e1⟩:=I.base.there b o e hx
     exact⟨o',(hs.2 b (e_ (kP (cg e) (I.ok.gM x c hfn hc)))).trans e1⟩
   . by_cases hj:j=i
     . subst hj
       rw[hi]at e1;cases e1
       rw[iB hiσ]at e2
       cases e2
       exact⟨u,r,.inr ⟨.inl hk,c,hc,hc'⟩⟩
     . rw[yk (cu hj)]at e2
       obtain⟨u',r',q⟩:=hl j y v' e1 e2 e3
       refine⟨u',r',?_⟩
       rcases q with q|⟨k,c',e,z'⟩
       . exact .inl q
       . refine .inr ⟨k,c',e,z'.sameBut hs ?_⟩
         rintro rfl
         exact hj (CP hN e1 (I.ok.inj _ _ _ e hc▸hi))
   . by_cases hcc:c'=c
     . subst hcc;exact⟨_,hc'⟩
     . obtain⟨w2,z2⟩:=I.cell y c' e
       exact⟨w2,z2.sameBut hs hcc⟩
   . obtain⟨e,n,ne,nf,d⟩:=I.pin p hp
     refine⟨(hs.2 p.1 ?_).trans e,n,ne,nf,d⟩
     intro q
     rw[q,hoc]at e
     have q':oc=p.2:=gJ e
     exact d w' (by rw[<-q'];exact af9)
theorem yC{A:Around}{v:V}{Q:Unit->Shared->Prop}(I:Inv X pins σ H s)(hN:X.N.Nodup)(hi:X.N[i]?=some x)(hx:Loc X.env.scope x)(r:RelV v u)(h:∀s',Inv X pins (σ.set i (some v)) H s'->Q () s')(hf:X.fn x=true\/X.env.scope.names.lookup x=some .local:=by first|exact .inl rfl|exact .inr rfl|assumption):wpAny M A (storeName X.env x u) Q E s:=
 z_ I hN hi hx r (λs' I' _=>h s' I') hf
theorem Inv.WG{s':Shared}(I:Inv X pins σ H s)(ho:s'.os=s.os)(u:Un (frs X.stack) ch H H' s.heap s'.heap)(hok:jl X.prog X.w H' s'.heap)(hg:AllBare s'.gens)(hch:∀b∈ch,(b∈X.ex\/X.s₀.heap.objs.size<=b)/\b≠X.env.locals/\(∀x c,X.env.cells.lookup x=some c->c≠b)/\∀p∈X.pn++pins,p.1≠b):Inv X pins σ H' s':=by
 obtain⟨h',g',d',t',o'⟩:=s'
 have e:o'=s.os:=ho
 subst e
 exact I.call (g':=g') (t':=t') (d':=d') u hok hg hch
end
abbrev XK:=Value->Option Addr->Hp->Prop
abbrev St:=List (Option V)
abbrev VK:=V->Hp->Prop
abbrev TE:=St->Hp->VK->Prop
abbrev TT:=St->Hp->(Bool->Hp->Prop)->Prop
abbrev TA:=St->Hp->(List V->Hp->Prop)->Prop
structure Ends where
 nx:St->Hp->Prop
 rt:VK
 bk:St->Hp->Prop:=λ_ _=>False
 ct:St->Hp->Prop:=λ_ _=>False
abbrev TS:=Ends->St->Hp->Prop
def EP(X:Cx)(pins:AO)(σ:St)(Q:VK)(u:Value)(s':Shared):Prop:=∃v H',Inv X pins σ H' s'/\RelV v u/\Q v H'
def TP(X:Cx)(pins:AO)(σ:St)(Q:Bool->Hp->Prop)(b:Bool)(s':Shared):Prop:=∃H',Inv X pins σ H' s'/\Q b H'
def AP(X:Cx)(pins:AO)(σ:St)(Q:List V->Hp->Prop)(us:List Value)(s':Shared):Prop:=∃vs H',Inv X pins σ H' s'/\Vals vs us/\Q vs H'
def SP(X:Cx)(pins:AO)(D:Ends)(f:Flow)(s':Shared):Prop:=match f with
 | .next=>∃σ' H',Inv X pins σ' H' s'/\D.nx σ' H'
 | .brk=>∃σ' H',Inv X pins σ' H' s'/\D.bk σ' H'
 | .cont=>∃σ' H',Inv X pins σ' H' s'/\D.ct σ' H'
 | .ret u=>∃v σ' H',Inv X pins σ' H' s'/\RelV v u/\D.rt v H'
def PE(X:Cx)(e:Expr)(t:TE):Prop:=∀(pins:AO)(s:Shared)(σ:St)(H:Hp)(Q:VK),Inv X pins σ H s->t σ H Q->wpAny (model X.prog X.w) X.A (eval e X.env) (EP X pins σ Q) X.xe s
def PT(X:Cx)(e:Expr)(t:TT):Prop:=∀(pins:AO)(s:Shared)(σ:St)(H:Hp)(Q:Bool->Hp->Prop),Inv X pins σ H s->t σ H Q->wpAny (model X.prog X.w) X.A (isTrue e X.env (eval e X.env)) (TP X pins σ Q) X.xe s
def PW(X:Cx)(e:Expr)(t:TT):Prop:=∀(whole:Sem Value)(pins:AO)(s:Shared)(σ:St)(H:Hp)(Q:Bool->Hp->Prop),Inv X pins σ H s->t σ H Q->wpAny (model X.prog X.w) X.A (isTrue e X.env whole) (TP X pins σ Q) X.xe s
variable {X:Cx}{e:Expr}
theorem PW.pt{t:TT}(h:PW X e t):PT X e t:=h _
def PA(X:Cx)(es:List Expr)(t:TA):Prop:=∀(pos:Pos)(pins:AO)(s:Shared)(σ:St)(H:Hp)(Q:List V->Hp->Prop),Inv X pins σ H s->t σ H Q->wpAny (model X.prog X.w) X.A (spliced (backTo pos (starEach es X.env))) (AP X pins σ Q) X.xe s
def PS(X:Cx)(st:Stmt)(t:TS):Prop:=∀(pins:AO)(s:Shared)(σ:St)(H:Hp)(D:Ends),Inv X pins σ H s->t D σ H->wpAny (model X.prog X.w) X.A (exec st X.env) (SP X pins D) X.xe s
def wK(X:Cx)(st:List Stmt)(t:TS):Prop:=∀(pins:AO)(s:Shared)(σ:St)(H:Hp)(D:Ends),Inv X pins σ H s->t D σ H->wpAny (model X.prog X.w) X.A (execs st X.env) (SP X pins D) X.xe s
variable {s:Shared}
theorem bH{α:Type}{t:Sem α}{Q Q':α->Shared->Prop}{A:Around}(h:wpAny M A t Q E s)(hQ:∀a s,Q a s->Q' a s):wpAny M A t Q' E s:=jO h hQ λ_ _ x=>x
variable {pos:Pos}{pins:AO}{σ:St}
section
variable {X:Cx}
inductive FY(i:Nat)(σ:St)(H:Hp)(Q:VK):Prop
 |mk(v:_)(_:σ[i]?=some (some v))(_:Q v H)
def tC(v:V):TE:=λ_ H Q=>Q v H
theorem Zx(hN:X.N[i]?=some x)(hv:WC X.env.scope x)(hd:(x==("__debug__":Str))=false:=by decide)(hcd:(x==("__classdict__":Str))=false:=by decide):PE X (.Name x pos) (FY i):=by
 intro pins s σ H Q I h;obtain⟨v,e,h⟩:=h;obtain⟨m,hn,hl⟩:=I.loc;obtain⟨u,r,l⟩:=hl i x v hN e hv;have fin:EP X pins σ Q u s:=⟨v,H,I,r,h⟩
 rcases l with⟨hk,hm⟩|⟨hk,c,hc,hcell⟩
 .exact wpAny_Name (wpAny_loadName_local I.ok.kind hk hn hm fin) hd
 .rcases hk with hk|hk
  .exact wpAny_Name (wpAny_loadName_cell I.ok.kind hk hc hcell fin) hd
  .exact wpAny_Name (wpAny_loadName_free I.ok.kind hk hc hcell fin hcd) hd
def Gl(X:Cx)(x:Str):Prop:=X.env.kindOf x=some .globalImplicit
theorem BC{Q:VS}(I:Inv X pins σ H s)(hg:Gl X x)(hm:X.mg x=some u)(h:Q u s)(hd:(x==("__debug__":Str))=false:=by decide):wpAny (model X.prog X.w) X.A (eval (.Name x pos) X.env) Q E s:=
 Calls.Name_function_global I.ok.kind hg (Calls.loadGlobal_global (by rw[I.ok.glob];exact I.mod.glob.keeps I.bk) hm h) hd
theorem u9{Q:VS}(I:Inv X pins σ H s)(hg:Gl X x)(hm:X.mg x=none)(hv:bootBuiltins x=some u)(h:Q u s)(hn:x ≠ "__name__":=by decide)(hd:(x==("__debug__":Str))=false:=by decide):wpAny (model X.prog X.w) X.A (eval (.Name x pos) X.env) Q E s:=by
 obtain⟨mb,h1,h2⟩:=I.mod.blt
 exact Calls.Name_function_global I.ok.kind hg (Calls.loadGlobal_builtin (by rw[I.ok.glob];exact I.mod.glob.keeps I.bk) hm (by rw[I.ok.blt];exact h1.keeps I.bk) ((h2 x hn).trans hv) h) hd
theorem XH{v:V}(hg:Gl X x)(hm:X.mg x=none)(hv:bootBuiltins x=some u)(r:RelV v u)(hn:x ≠ "__name__":=by decide)(hd:(x==("__debug__":Str))=false:=by decide):PE X (.Name x pos) (tC v):=λ_ _ _ H _ I h=>u9 I hg hm hv ⟨v,H,I,r,h⟩ hn hd
variable {a b:Expr}{ta tb:TE}{pos:Pos}
def PC(X:Cx)(op:CmpOp)(a b:Expr)(t:TE):Prop:=∀(pins:AO)(s:Shared)(σ:St)(H:Hp)(Q:VK),Inv X pins σ H s->t σ H Q->wpAny (model X.prog X.w) X.A (eval a X.env) (λv s₁=>wpAny (model X.prog X.w) X.A (eval b X.env) (λu s₂=>wpAny (model X.prog X.w) X.A (compareOp op v u) (EP X pins σ Q) X.xe s₂) X.xe s₁) X.xe s
inductive yTB(Q:Bool->Hp->Prop)(x:V)(H1:Hp):Prop
 |mk(c:_)(_:x =.bl c)(_:Q c H1)
def tB(t:TE):TT:=λσ H Q=>t σ H (yTB Q)
variable {tA WH:TT}{rest:List Expr}
def acQ(u:TT)(σ:St)(Q:Bool->Hp->Prop):Bool->Hp->Prop:=λc H1=>if c=true then u σ H1 Q else Q false H1
def af_(t u:TT):TT:=λσ H Q=>t σ H (acQ u σ Q)
def aga(u:TT)(σ:St)(Q:Bool->Hp->Prop):Bool->Hp->Prop:=λc H1=>if c=true then Q true H1 else u σ H1 Q
def tOr(t u:TT):TT:=λσ H Q=>t σ H (aga u σ Q)
abbrev acR(Q:Bool->Hp->Prop):Bool->Hp->Prop:=λc H1=>Q (!c) H1
def agb(t:TT):TT:=λσ H Q=>t σ H (acR Q)
inductive Zy(tb:TE)(σ:St)(Q:VK)(x:V)(H1:Hp):Prop
 |mk(c:_)(_:x =.bl c)(_:if c=true then tb σ H1 Q else Q (.bl false) H1)
def acS(ta tb:TE):TE:=λσ H Q=>ta σ H (Zy tb σ Q)
inductive Zz(Q:VK)(x:V)(H1:Hp):Prop
 |mk(c:_)(_:x =.bl c)(_:Q (.bl (!c)) H1)
def acT(ta:TE):TE:=λσ H Q=>ta σ H (Zz Q)
end
def aB(K:Fg)(H:Hp)(a:Addr)(xs:List V):Prop:=Rd H a (.lst xs)\/
  ∃(o:Obj)(its:Array Value)(n:Nat),K.lookup a=some o/\o.cls =.type "list"/\o.dict=none/\o.data =.seq its n/\its.size<=sizeLine/\Vals xs its.toList
def cS(K:Fg)(H:Hp)(a:Addr)(xs:List V):Prop:=Rd H a (.tup xs)\/
  ∃(o:Obj)(its:Array Value)(n:Nat),K.lookup a=some o/\o.cls =.type "tuple"/\o.data =.seq its n/\its.size<=sizeLine/\Vals xs its.toList
def agc:Value->Option V
 | .none=>some .cy
 | .bool b=>some (.bl b)
 | .int i _=>some (.int i)
 | .str x _=>some (.str x)
 | .bytes b _=>some (.zH b)
 | .float b _=>some (.Kn b)
 | .ref a=>some (.ref a)
 | .type n=>some (.ty n)
 | _=>none
theorem RelV.abs{x:V}(r:RelV x u):agc u=some x:=by
 cases x with
 | cy=>cases r;rfl
 | bl _=>cases r;rfl
 | int _=>obtain⟨t,rfl⟩:=r;rfl
 | str _=>obtain⟨t,rfl⟩:=r;rfl
 | zH _=>obtain⟨t,rfl⟩:=r;rfl
 | Kn _=>obtain⟨t,rfl⟩:=r;rfl
 | ref _=>cases r;rfl
 | ty _=>cases r;rfl
variable {y:V}
theorem RelV.inj{x:V}(r:RelV x u)(q:RelV y u):x=y:=gJ (r.abs.symm.trans q.abs)
theorem Vals.inj:∀{xs ys:List V}{us:List Value},Vals xs us->Vals ys us->xs=ys
 | _,_,_,.nil,.nil=>rfl
 | _,_,_,.cons r t,.cons r' t'=>by rw[r.inj r',Vals.inj t t']
variable {K:Fg}
section
variable {X:Cx}{pins:AO}{σ:St}{H:Hp}{s:Shared}{a:Addr}{xs ys:List V}
theorem aB.of(h:H a=some (.lst xs)):aB K H a xs:=.inl (.inl h)
theorem cS.of(h:H a=some (.tup xs)):cS K H a xs:=.inl (.inl h)
theorem Inv.list(I:Inv X pins σ H s)(h:aB X.K H a xs):∃its:List Value,Vals xs its/\PlainL s.heap a its.toArray/\xs.length<=sizeLine:=by
 rcases h with h|⟨o,its,n,hk,hc,hd,hs,hz,r⟩
 .obtain ⟨z,its,n,r,e⟩:=h.ok I.hok;exact⟨its,r,⟨_,n,e,Z,Z,Z⟩,z⟩
 .refine ⟨its.toList,r,⟨o,n,I.kM a o hk,hc,hd,by simpa using hs⟩,?_⟩;have e:=r.length;simp only[Array.length_toList]at e;omega
theorem Inv.tuple(I:Inv X pins σ H s)(h:cS X.K H a xs):∃its:List Value,Vals xs its/\IsTup s.heap a its.toArray/\xs.length<=sizeLine:=by
 rcases h with h|⟨o,its,n,hk,hc,hs,hz,r⟩
 .obtain ⟨z,its,r,p⟩:=h.ok I.hok;exact⟨its,r,p,z⟩
 .refine ⟨its.toList,r,⟨o,I.kM a o hk,hc,n,by simpa using hs⟩,?_⟩;have e:=r.length;simp only[Array.length_toList]at e;omega
theorem Inv.U0(I:Inv X pins σ H s)(h:aB X.K H a xs)(h':aB X.K H a ys):xs=ys:=by
 obtain⟨its,r,⟨o,n,e,_,_,d⟩,_⟩:=I.list h;obtain⟨its',r',⟨o',n',e',_,_,d'⟩,_⟩:=I.list h';rw[e]at e';cases e';rw[d]at d';injection d' with d1 _;have:its=its':=by simpa using gR Array.toList d1
 subst this;exact r.inj r'
end
abbrev Cx.xy(X:Cx)(E:VS):Cx:={ X with xe:=E }
abbrev Cx.Cq(X:Cx):Cx:=X.xy λ_ _=>False
theorem Cx.Ok.xy(ok:X.Ok)(E:VS):(X.xy E).Ok:=⟨ok.mod,ok.kind,ok.glob,ok.blt,ok.above,ok.inj,ok.has,ok.gM,ok.hd,ok.frames,ok.stk,ok.OY,ok.bs,ok.Hs,ok.Kr,ok.FW,ok.tW,ok.Ks⟩
theorem Cx.Ok.tD(ok:(X.xy E).Ok):X.Ok:=⟨ok.mod,ok.kind,ok.glob,ok.blt,ok.above,ok.inj,ok.has,ok.gM,ok.hd,ok.frames,ok.stk,ok.OY,ok.bs,ok.Hs,ok.Kr,ok.FW,ok.tW,ok.Ks⟩
variable {D:Ends}
section
variable {X:Cx}{pins:AO}{σ:St}{H:Hp}{s:Shared}{E:VS}
theorem Inv.xy(I:Inv X pins σ H s)(E:VS):Inv (X.xy E) pins σ H s:=⟨I.ok.xy E,I.os,I.bare,I.base,I.loc,I.cell,I.free,I.oF,I.pin,I.hok,I.len⟩
theorem Inv.tD(I:Inv (X.xy E) pins σ H s):Inv X pins σ H s:=⟨I.ok.tD,I.os,I.bare,I.base,I.loc,I.cell,I.free,I.oF,I.pin,I.hok,I.len⟩
theorem SP.tD{f:Flow}(h:SP (X.xy E) pins D f s'):SP X pins D f s':=by
 cases f with
 | next=>obtain⟨σ',H',I,q⟩:=h;exact⟨σ',H',I.tD,q⟩
 | brk=>obtain⟨σ',H',I,q⟩:=h;exact⟨σ',H',I.tD,q⟩
 | cont=>obtain⟨σ',H',I,q⟩:=h;exact⟨σ',H',I.tD,q⟩
 | ret u=>obtain⟨v,σ',H',I,r,q⟩:=h;exact⟨v,σ',H',I.tD,r,q⟩
theorem wK.Cq{st:List Stmt}{t:TS}(h:wK X.Cq st t):wK X st t:=λpins s σ H D I hw=>
 jO (h pins s σ H D (I.xy _) hw) (λ_ _ q=>q.tD) λ_ _ z=>False.elim z
end
variable {tc:TT}
section
variable {X:Cx}{st:Stmt}{rest:List Stmt}{t u:TS}{e:Expr}{te:TE}{pos:Pos}
def acU:TS:=λD σ H=>D.nx σ H
def Ends.sq(D:Ends)(u:TS):Ends:={ D with nx:=u D }
def Ends.lp(D:Ends)(N:St->Hp->Prop):Ends:={ D with nx:=N,ct:=N,bk:=D.nx }
def u_(t u:TS):TS:=λD σ H=>t (D.sq u) σ H
theorem Inv.quiet(I:Inv X pins σ H s):interactive X.env=false:=by simp[interactive,I.ok.kind]
def R4(D:Ends)(σ:St):V->Hp->Prop:=λ_ H1=>D.nx σ H1
def acV(te:TE):TS:=λD σ H=>te σ H (R4 D σ)
def agd(te:TE):TS:=λD σ H=>te σ H D.rt
def acW:TS:=λD _ H=>D.rt .cy H
def acX(t:TS)(u:TS)(D:Ends)(σ:St):Bool->Hp->Prop:=λb H1=>if b=true then t D σ H1 else u D σ H1
def ZA(c:TT)(t u:TS):TS:=λD σ H=>c σ H (acX t u D σ)
theorem WI{c:Expr}{a b:List Stmt}(hc:PT X c tc)(ha:wK X a t)(hb:wK X b u):PS X (.If c a b pos) (ZA tc t u):=by
 intro pins s σ H D I h;refine wpAny_If (bH (hc pins s σ H _ I h) λd s1 ⟨H1,I1,q1⟩=>?_);cases d with
 | true=>exact ha pins s1 σ H1 D I1 q1
 | false=>exact hb pins s1 σ H1 D I1 q1
def ZC:TS:=λ_ _ _=>False
end
abbrev TG:=V->St->Hp->(St->Hp->Prop)->Prop
abbrev DT:=List V->St->Hp->(St->Hp->Prop)->Prop
def PG(X:Cx)(target:Expr)(t:TG):Prop:=∀(pins:AO)(s:Shared)(σ:St)(H:Hp)(v:V)(u:Value)(Q:St->Hp->Prop),Inv X pins σ H s->RelV v u->t v σ H Q->wpAny (model X.prog X.w) X.A (assign target X.env u) (λ_ s'=>∃σ' H',Inv X pins σ' H' s'/\Q σ' H') X.xe s
def PGs(X:Cx)(ts:List Expr)(t:DT):Prop:=∀(pins:AO)(s:Shared)(σ:St)(H:Hp)(vs:List V)(us:List Value)(Q:St->Hp->Prop),Inv X pins σ H s->Vals vs us->t vs σ H Q->wpAny (model X.prog X.w) X.A (assignInOrder ((assignEach ts X.env).map (·.2)) us) (λ_ s'=>∃σ' H',Inv X pins σ' H' s'/\Q σ' H') X.xe s
abbrev tX:=V->V->V->Hp->(Hp->Prop)->Prop
def U1(X:Cx)(t:tX):Prop:=∀(pins:AO)(s:Shared)(σ:St)(H:Hp)(o i v:V)(ov iv u:Value)(Q:Hp->Prop),Inv X pins σ H s->RelV o ov->RelV i iv->RelV v u->t o i v H Q->wpAny (model X.prog X.w) X.A (setItem ov iv u) (λ_ s'=>∃H',Inv X pins σ H' s'/\Q H') X.xe s
abbrev Kw:=V->V->Hp->VK->Prop
def ZD(X:Cx)(op:Operator)(t:Kw):Prop:=∀(pins:AO)(s:Shared)(σ:St)(H:Hp)(x y:V)(v u:Value)(Q:VK),Inv X pins σ H s->RelV x v->RelV y u->t x y H Q->wpAny (model X.prog X.w) X.A (inplaceOp op v u) (EP X pins σ Q) X.xe s
variable {n:Nat}
section
variable {X:Cx}{pos:Pos}
def mh(i:Nat):TG:=λv σ H Q=>Q (σ.set i (some v)) H
inductive ZE(vs:List V)(σ:St)(H:Hp)(Q:St->Hp->Prop):Prop
 |mk(_:vs=[])(_:Q σ H)
def ZF(u:DT)(Q:St->Hp->Prop)(r:List V):St->Hp->Prop:=λσ' H'=>u r σ' H' Q
inductive WJ(t:TG)(u:DT)(vs:List V)(σ:St)(H:Hp)(Q:St->Hp->Prop):Prop
 |mk(v r:_)(_:vs=v::r)(_:t v σ H (ZF u Q r))
inductive CQ(K:Fg)(n:Nat)(t:DT)(v:V)(σ:St)(H:Hp)(Q:St->Hp->Prop):Prop
 |mk(a xs:_)(_:v =.ref a)(_:cS K H a xs)(_:xs.length=n)(_:t xs σ H Q)
theorem ZG{es:List Expr}{k:Nat}{t:DT}(hc:X.calm=true)(h:PGs X es t)(hn:(assignEach es X.env).length=n:=by rfl)(hst:(assignEach es X.env).findIdx? (·.1)=none:=by rfl):PG X (.Tuple es k pos) (CQ X.K n t):=by
 intro pins s σ H v u Q I r hw
 obtain⟨a,xs,e1,hq,hl,hw⟩:=hw
 subst e1
 cases r
 obtain⟨its,rv,ht,hz⟩:=I.tuple hq
 refine assign_Tuple_tuple (I.ok.hd hc) ht (by simp[hn,<-hl,rv.length]) hst λh' hx=>?_
 have I1:Inv X pins σ H { s with heap:=h' }:=I.kept (t':=s.toks) λb o e=>hx b o (e_ (cg e)) e
 exact h pins _ σ H xs _ Q I1 (by simpa using rv) hw
def XI(σ:St)(Q:St->Hp->Prop):Hp->Prop:=λH3=>Q σ H3
def XJ(t:tX)(v:V)(σ:St)(Q:St->Hp->Prop)(o:V):V->Hp->Prop:=λi H2=>t o i v H2 (XI σ Q)
def acY(ti:TE)(t:tX)(v:V)(σ:St)(Q:St->Hp->Prop):V->Hp->Prop:=λo H1=>ti σ H1 (XJ t v σ Q o)
def age(to ti:TE)(t:tX):TG:=λv σ H Q=>to σ H (acY ti t v σ Q)
def acZ(g:TG)(D:Ends)(σ:St):V->Hp->Prop:=λx H1=>g x σ H1 D.nx
def Ky(te:TE)(g:TG):TS:=λD σ H=>te σ H (acZ g D σ)
inductive ac0(i:Nat)(j:Nat)(D:Ends)(σ:St)(vs:List V)(H1:Hp):Prop
 |mk(v w:_)(_:vs=[v,w])(_:D.nx ((σ.set i (some v)).set j (some w)) H1)
def agf(i j:Nat)(ta:TA):TS:=λD σ H=>ta σ H (ac0 i j D σ)
def U3(D:Ends)(σ:St):Hp->Prop:=λH6=>D.nx σ H6
def U4(qb:tX)(D:Ends)(σ:St)(o:V)(i:V):V->Hp->Prop:=λz H5=>qb o i z H5 (U3 D σ)
def U5(zJ:Kw)(qb:tX)(D:Ends)(σ:St)(o:V)(i:V)(x:V):V->Hp->Prop:=λy H4=>zJ x y H4 (U4 qb D σ o i)
def U6(te:TE)(zJ:Kw)(qb:tX)(D:Ends)(σ:St)(o:V)(i:V):V->Hp->Prop:=λx H3=>te σ H3 (U5 zJ qb D σ o i x)
def U7(te:TE)(Aa:V->V->Hp->VK->Prop)(zJ:Kw)(qb:tX)(D:Ends)(σ:St)(o:V):V->Hp->Prop:=λi H2=>Aa o i H2 (U6 te zJ qb D σ o i)
def ZH(ti:TE)(te:TE)(Aa:V->V->Hp->VK->Prop)(zJ:Kw)(qb:tX)(D:Ends)(σ:St):V->Hp->Prop:=λo H1=>ti σ H1 (U7 te Aa zJ qb D σ o)
def ac1(to ti te:TE)(Aa:V->V->Hp->VK->Prop)(zJ:Kw)(qb:tX):TS:=λD σ H=>to σ H (ZH ti te Aa zJ qb D σ)
def ZI(X:Cx)(t:V->V->Hp->VK->Prop):Prop:=∀(pins:AO)(s:Shared)(σ:St)(H:Hp)(o i:V)(ov iv:Value)(Q:VK),Inv X pins σ H s->RelV o ov->RelV i iv->t o i H Q->wpAny (model X.prog X.w) X.A (getItem ov iv) (EP X pins σ Q) X.xe s
inductive ipI(f:Int->Int->Int)(x:V)(y:V)(H:Hp)(Q:VK):Prop
 |mk(i j:_)(_:x =.int i)(_:y =.int j)(_:Q (.int (f i j)) H)
theorem ZJ:ZD X .Add (ipI λi j=>i+j):=by intro pins s σ H x y v u Q I r1 r2 h;obtain⟨i,j,e1,e2,q⟩:=h;subst e1;subst e2;obtain⟨t,rfl⟩:=r1;obtain⟨t',rfl⟩:=r2;exact iadd_int ⟨.int _,H,I.tok _,⟨_,Z⟩,q⟩
theorem ZK:ZD X .Sub (ipI λi j=>i-j):=by intro pins s σ H x y v u Q I r1 r2 h;obtain⟨i,j,e1,e2,q⟩:=h;subst e1;subst e2;obtain⟨t,rfl⟩:=r1;obtain⟨t',rfl⟩:=r2;exact isub_int ⟨.int _,H,I.tok _,⟨_,Z⟩,q⟩
end
section
variable {X:Cx}{pos:Pos}
def ZL(c:TT)(tb:TS):TS:=λD σ H=>∃W:Nat->St->Hp->Prop,(∃m,W m σ H)/\∀m σ H,W m σ H->c σ H λb H1=>if b=true then ∃N:St->Hp->Prop,(∀σ' H',N σ' H'->∃m',m'<m/\W m' σ' H')/\tb { D with nx:=N,ct:=N,bk:=D.nx } σ H1 else D.nx σ H1
end
structure It where
 go:Nat->Hp->Prop
 DU:Nat->Hp->V->Hp->Prop
 stop:Nat->Hp->Prop
def qc(X:Cx)(pins:AO)(H:Hp)(b:Addr):Prop:=H b=none/\b≠X.env.locals/\b∉X.fs/\(b∈X.ex\/X.s₀.heap.objs.size<=b)/\(∀x c,X.env.cells.lookup x=some c->c≠b)/\∀p∈X.pn++pins,p.1≠b
variable {H':Hp}
theorem Inv.CS{b:Addr}(I:Inv X pins σ H s)(hb:s.heap.objs.size<=b)(hn:H' b=none):qc X pins H' b:=by
 refine⟨hn,yu (kP I.lt hb),I.af8 hb,.inr (fD I.sz hb),λx c e z=>?_,λp hp z=>?_⟩
 .obtain ⟨v,q⟩:=I.cell x c e;exact absurd (kP q.lt (by rw[z];exact hb)) (jM _)
 .exact absurd (kP (cg (I.pin p hp).1) (by rw[z];exact hb)) (jM _)
structure Turn(P:Program)(w:World)(K:Fg)(tg:Expr)(J:It)(fp:List Addr)(it:Addr)(tn:Nat->Heap->Prop):Prop where
 mem:it∈fp
 obj:∀i h,tn i h->∀b∈fp,∃o,h.get? b=some o/\∀v,o.data ≠ .cell v
 keep:∀i h h',tn i h->(∀b∈fp,∀o,h.get? b=some o->h'.get? b=some o)->tn i h'
 item:∀(X:Cx),X.prog=P->X.w=w->X.K=K->X.calm=true->∀(i:Nat)(pins:AO)(s:Shared)(σ:St)(H:Hp)(E:VS),Inv X pins σ H s->(∀b∈fp,qc X pins H b)->tn i s.heap->J.go i H->
  wpAny (model P w) X.A (pyNext (.ref it)) (λr s1=>∃u,r=some u/\
   wpAny (model P w) X.A (letOwnedTupleGo tg (.ref it) u) (λ_ s2=>∃x H',Inv X pins σ H' s2/\RelV x u/\J.DU i H x H'/\tn (i+1) s2.heap/\∀b∈fp,H' b=none) E s1) E s
 done:∀(X:Cx),X.prog=P->X.w=w->X.K=K->X.calm=true->∀(i:Nat)(pins:AO)(s:Shared)(σ:St)(H:Hp)(E:VS),Inv X pins σ H s->(∀b∈fp,qc X pins H b)->tn i s.heap->J.stop i H->
  wpAny (model P w) X.A (pyNext (.ref it)) (λr s1=>r=none/\Inv X pins σ H s1) E s
 self:∀(A:Around)(i:Nat)(s:Shared)(Q:VS)(E:VS),tn i s.heap->Q (.ref it) s->wpAny (model P w) A (pyIter (.ref it)) Q E s
abbrev TI:=St->Hp->(It->Hp->Prop)->Prop
def PIE(X:Cx)(pins:AO)(σ:St)(tg:Expr)(R:It->Hp->Prop)(itv:Value)(s2:Shared):Prop:=∃(it:Addr)(fp:List Addr)(tn:Nat->Heap->Prop)(J:It)(H':Hp),itv =.ref it/\Inv X pins σ H' s2/\Turn X.prog X.w X.K tg J fp it tn/\tn 0 s2.heap/\(∀b∈fp,qc X pins H' b)/\R J H'
def PI(X:Cx)(tg iter:Expr)(wi:TI):Prop:=∀(pins:AO)(s:Shared)(σ:St)(H:Hp)(R:It->Hp->Prop),Inv X pins σ H s->wi σ H R->wpAny (model X.prog X.w) X.A (eval iter X.env) (λv s1=>wpAny (model X.prog X.w) X.A (pyIter v) (PIE X pins σ tg R) X.xe s1) X.xe s
variable {tg:Expr}
theorem BD{A:Around}{o:Obj}{n:String}{vs:Array Value}{Q:Unit->Shared->Prop}(ho:s.heap.get? it=some o)(hc:o.cls =.type n)(hd:o.data =.fields vs)(hn:["enumerate","zip","dict_itemiterator","dict_reverseitemiterator","odict_iterator","itertools.zip_longest","itertools.pairwise"].contains n=false)(hQ:Q () s):wpAny M A (letOwnedTupleGo tg (.ref it) u) Q E s:=by
 unfold letOwnedTupleGo
 cases tg <;> first
  | exact bg hQ
  | (cases u <;> first
      | exact bg hQ
      | (refine ay (wpAny_load ho ?_)
         rw[hc,hd]
         show wpAny M A (if(["enumerate","zip","dict_itemiterator","dict_reverseitemiterator","odict_iterator","itertools.zip_longest","itertools.pairwise"].contains n && vs[0]?==some (rawInt _))=true then _ else _) Q E s
         rw[au (by intro h;rw[hn,Bool.false_and]at h;cases h)]
         exact bg hQ))
def vc(K:Fg)(a:Addr):It:=⟨λi H=>∃xs x,aB K H a xs/\xs[i]?=some x,λi H x H'=>H'=H/\∀xs,aB K H a xs->xs[i]?=some x,λi H=>∃xs,aB K H a xs/\xs.length<=i⟩
def Kz(lo:Int)(n:Nat):It:=⟨λi _=>i<n,λi H x H'=>H'=H/\x =.int (lo+i),λi _=>n<=i⟩
theorem R5(a it:Addr):Turn P w K tg (vc K a) [it] it (λi h=>h.IsListIter it a i) where
 mem:=by simp
 obj:=λi h st b hb=>by
  have e:b=it:=by simpa using hb
  subst e;obtain⟨o,e,c,d⟩:=st;exact⟨o,e,λv z=>by rw[d]at z;cases z⟩
 keep:=λi h h' st k=>st.at λo e=>k it (by simp) o e
 item:=by intro X hP hw hK hc i pins s σ H E I hf st hg;subst hP hw hK;obtain⟨xs,x,hq,hx⟩:=hg;obtain⟨its,rv,p,hz⟩:=I.list hq;obtain⟨u,hu,ru⟩:=rv.get hx;obtain⟨f0,f1,f2,f3,f4,f5⟩:=hf it (by simp);refine wpAny_pyNext_list_item st p.isList (x:=u) (by simpa using hu) λh' st' sb=>?_;have I1:Inv X pins σ H { s with heap:=h' }:=I.turned (t':=s.toks) (λb o hb e=>(sb.2 b hb).trans e) f0 f1 f3 f4 f5;obtain⟨o,e,c,d⟩:=id st';exact⟨u,Z,BD (s:={ s with heap:=h' }) e c d (by decide) ⟨x,H,I1,ru,⟨Z,λys hy=>by rw[I.U0 hy hq];exact hx⟩,st',λb hb=>(hf b hb).1⟩⟩
 done:=by intro X hP hw hK hc i pins s σ H E I hf st hg;subst hP hw hK;obtain⟨xs,hq,hx⟩:=hg;obtain⟨its,rv,p,hz⟩:=I.list hq;obtain⟨f0,f1,f2,f3,f4,f5⟩:=hf it (by simp);have hl:=rv.length;exact wpAny_pyNext_list_end (I.ok.hd hc) st p.isList (by simp;omega) λh' eb=>⟨Z,I.turned (t':=s.toks) (λb o hb e=>eb b o hb e) f0 f1 f3 f4 f5⟩
 self:=λ_ _ _ _ _ st h=>wpAny_pyIter_listiter st h
theorem QN(it:Addr)(lo:Int)(n:Nat):Turn P w K tg (Kz lo n) [it] it (λi h=>IsRangeIter h it (lo+(i:Nat)*1) ((n:Int)-(i:Nat)) 1) where
 mem:=by simp
 obj:=λi h st b hb=>by
  have e:b=it:=by simpa using hb
  subst e;exact⟨_,st,λv z=>by have z':Data.fields _=Data.cell v:=z;cases z'⟩
 keep:=λi h h' st k=>k it (by simp) _ st
 item:=by intro X hP hw hK hc i pins s σ H E I hf st hg;subst hP hw hK;obtain⟨f0,f1,f2,f3,f4,f5⟩:=hf it (by simp);have W:=Walks.range (prog:=X.prog) (w:=X.w) (I.ok.hd hc) it lo 1 n;refine W.item i s _ _ hg st λv h' tk hv st' kk=>?_;obtain⟨t,rfl⟩:=hv;have I1:Inv X pins σ H { s with heap:=h',toks:=tk }:=I.turned (λb o hb e=>kk b o (by simpa using hb) e) f0 f1 f3 f4 f5;refine⟨_,Z,BD (s:={ s with heap:=h',toks:=tk }) (n:="range_iterator") st' rfl rfl (by decide) ⟨.int (lo+i),H,I1,⟨t,?_⟩,⟨Z,Z⟩,st',λb hb=>(hf b hb).1⟩⟩;rw[BB]
 done:=by intro X hP hw hK hc i pins s σ H E I hf st hg;subst hP hw hK;obtain⟨f0,f1,f2,f3,f4,f5⟩:=hf it (by simp);exact wpAny_pyNext_range_end (I.ok.hd hc) st (by have:n<=i:=hg;omega) λh' eb=>⟨Z,I.turned (t':=s.toks) (λb o hb e=>eb b o hb e) f0 f1 f3 f4 f5⟩
 self:=λ_ _ _ _ _ st h=>wpAny_pyIter_rangeiter st h
variable {tl:TE}{fp:List Addr}
section
variable {X:Cx}{tg:Expr}
inductive ZM(K:Fg)(R:It->Hp->Prop)(x:V)(H1:Hp):Prop
 |mk(a:_)(_:x =.ref a)(_:(∃xs,aB K H1 a xs))(_:R (vc K a:_) H1)
def WK(K:Fg)(tl:TE):TI:=λσ H R=>tl σ H (ZM K R)
theorem XM{l:Expr}(hl:PE X l tl):PI X tg l (WK X.K tl):=by
 intro pins s σ H R I h;refine bH (hl pins s σ H _ I h) λv s1 ⟨x,H1,I1,r1,q1⟩=>?_;obtain⟨a,e,⟨xs,hq⟩,q⟩:=q1;subst e;cases r1;obtain⟨its,rv,p,hz⟩:=I1.list hq;refine QH p.isList ?_;refine⟨s1.heap.objs.size,[s1.heap.objs.size],_,_,H1,Z,I1.kept (t':=s1.toks) λb o e=>cK _ e,R5 a _,⟨_,eY _ rfl,Z,Z⟩,λb hb=>?_,q⟩;have e:b=s1.heap.objs.size:=by simpa using hb
 subst e;exact I1.CS (aQ _) (I1.hok.fresh (aQ _))
theorem U8{R:It->Hp->Prop}{lo hi:Int}{t u v:Tok}{tk:Nat}(I:Inv X pins σ H s)(h1:-(2 ^ 62)<=lo)(h2:lo<2 ^ 62)(h3:-(2 ^ 62)<=hi)(h4:hi<2 ^ 62)(q:R (Kz lo (hi-lo).toNat) H):wpAny (model X.prog X.w) X.A (pyIter (.ref s.heap.objs.size)) (PIE X pins σ tg R) E { s with heap:=s.heap.push { cls:=.type "range",data:=.fields #[.int lo t,.int hi u,.int 1 v] },toks:=tk }:=by
 refine wpAny_pyIter_range (IsRange.new ..) (small_one h1 h2 h3 h4) ?_
 have I1:Inv X pins σ H { s with heap:=s.heap.push { cls:=.type "range",data:=.fields #[.int lo t,.int hi u,.int 1 v] },toks:=tk }:=I.kept λb o e=>cK _ e
 refine⟨(s.heap.push { cls:=.type "range",data:=.fields #[.int lo t,.int hi u,.int 1 v] }).objs.size,[(s.heap.push { cls:=.type "range",data:=.fields #[.int lo t,.int hi u,.int 1 v] }).objs.size],_,_,H,Z,
  I1.kept (t':=tk) λb o e=>cK _ e,QN _ lo (hi-lo).toNat,?_,λb hb=>?_,q⟩
 . have e1:lo+((0:Nat):Int)*1=lo:=by simp
   have e2:(((hi-lo).toNat:Nat):Int)-((0:Nat):Int)=Builtin.Range.rangeSize lo hi 1:=by rw[rangeSize_one];split <;> omega
   show IsRangeIter _ _ (lo+((0:Nat):Int)*1) ((((hi-lo).toNat:Nat):Int)-((0:Nat):Int)) 1
   rw[e1,e2]
   exact eY _ rfl
 . have e:b=(s.heap.push { cls:=.type "range",data:=.fields #[.int lo t,.int hi u,.int 1 v] }).objs.size:=by simpa using hb
   subst e
   exact I1.CS (aQ _) (I1.hok.fresh (aQ _))
inductive ZN(R:It->Hp->Prop)(vs:List V)(H1:Hp):Prop
 |mk(j:Int)(_:vs=[.int j])(_:-(2 ^ 62)<=j)(_:j<2 ^ 62)(_:R (Kz 0 j.toNat) H1)
def ac2(ta:TA):TI:=λσ H R=>ta σ H (ZN R)
def JY(g:TG)(tb:TS)(D:Ends)(σ:St):It->Hp->Prop:=λJ H1=>∃W:Nat->Nat->St->Hp->Prop,(∃m,W 0 m σ H1)/\∀i m σ H,W i m σ H->(J.stop i H/\D.nx σ H)\/(J.go i H/\∃N:St->Hp->Prop,(∀σ' H',N σ' H'->∃m',m'<m/\W (i+1) m' σ' H')/\∀x H',J.DU i H x H'->g x σ H' (tb (D.lp N)))
def agg(wi:TI)(g:TG)(tb:TS):TS:=λD σ H=>wi σ H (JY g tb D σ)
def DV(fp:List Addr)(h:Heap):List (Addr×Obj):=fp.filterMap λb=>(h.get? b).map λo=>(b,o)
theorem jP{b:Addr}{o:Obj}(hb:b∈fp)(e:h.get? b=some o):(b,o)∈DV fp h:=List.mem_filterMap.mpr ⟨b,hb,by rw[e];rfl⟩
theorem R6{p:Addr×Obj}(hp:p∈DV fp h):p.1∈fp/\h.get? p.1=some p.2:=by
 obtain⟨b,hb,e⟩:=List.mem_filterMap.mp hp;cases q:h.get? b with
 | none=>rw[q]at e;cases e
 | some o=>rw[q]at e;have e':(b,o)=p:=gJ e;subst e';exact⟨hb,q⟩
theorem Inv.pinned(I:Inv X pins σ H s)(hf:∀b∈fp,qc X pins H b)(ho:∀b∈fp,∃o,s.heap.get? b=some o/\∀v,o.data ≠ .cell v):Inv X (pins++DV fp s.heap) σ H s:=I.O0 λp hp=>(dD.mp hp).elim (λz=>I.pin p (j9 _ z)) λz=>by obtain⟨hb,e⟩:=R6 z;obtain⟨f0,f1,f2,_⟩:=hf p.1 hb;obtain⟨o,e',d⟩:=ho p.1 hb;rw[e]at e';cases e';exact⟨e,f0,f1,f2,d⟩
theorem Inv.rm{pl:AO}(I:Inv X (pins++pl) σ H s):Inv X pins σ H s:=I.O0 λp hp=>I.pin p (j9 _ (FI _ hp))
end
variable {tb:TS}
theorem kQ{g:TG}(Pv:Nat->St->Hp->Prop)(h0:Pv 0 σ H)(hl:∀i σ H,i<=xs.length->Pv i σ H->aB K H a xs)(hs:∀i x σ H,xs[i]?=some x->Pv i σ H->g x σ H (tb (D.lp (Pv (i+1)))))(hd:∀σ H,Pv xs.length σ H->D.nx σ H):
  JY g tb D σ (vc K a) H:=by
 refine⟨λi m σ H=>m=xs.length-i/\i<=xs.length/\Pv i σ H,⟨xs.length,by simp,gh _,h0⟩,?_⟩
 rintro i m σ H ⟨rfl,hi,p⟩
 have q:=hl i σ H hi p
 by_cases hlt:i<xs.length
 . refine .inr ⟨⟨xs,xs[i],q,by simp[hlt]⟩,Pv (i+1),λσ' H' p'=>⟨xs.length-(i+1),by omega,Z,hlt,p'⟩,λx H' y=>?_⟩
   obtain⟨e,y⟩:=y
   subst e
   exact hs i x σ _ (y xs q) p
 . have e:i=xs.length:=by omega
   subst e
   exact .inl ⟨⟨xs,q,aQ _⟩,hd σ H p⟩
theorem iw{lo:Int}{g:TG}(Pv:Nat->St->Hp->Prop)(h0:Pv 0 σ H)(hs:∀i σ H,i<n->Pv i σ H->g (.int (lo+i)) σ H (tb (D.lp (Pv (i+1)))))(hd:∀σ H,Pv n σ H->D.nx σ H):
  JY g tb D σ (Kz lo n) H:=by
 refine⟨λi m σ H=>m=n-i/\i<=n/\Pv i σ H,⟨n,by simp,gh _,h0⟩,?_⟩
 rintro i m σ H ⟨rfl,hi,p⟩
 by_cases hlt:i<n
 . refine .inr ⟨hlt,Pv (i+1),λσ' H' p'=>⟨n-(i+1),by omega,Z,hlt,p'⟩,λx H' y=>?_⟩
   obtain⟨e,y⟩:=y
   subst e y
   exact hs i σ _ hlt p
 . have e:i=n:=by omega
   subst e
   exact .inl ⟨aQ _,hd σ H p⟩
abbrev R2:=V->V->Hp->VK->Prop
def jm(X:Cx)(f:Value->Value->Sem Value)(r:R2):Prop:=∀(pins:AO)(s:Shared)(σ:St)(H:Hp)(x y:V)(v u:Value)(Q:VK),Inv X pins σ H s->RelV x v->RelV y u->r x y H Q->wpAny (model X.prog X.w) X.A (f v u) (EP X pins σ Q) X.xe s
def ZO(X:Cx)(f:Value->Sem Value)(r:V->Hp->VK->Prop):Prop:=∀(pins:AO)(s:Shared)(σ:St)(H:Hp)(x:V)(v:Value)(Q:VK),Inv X pins σ H s->RelV x v->r x H Q->wpAny (model X.prog X.w) X.A (f v) (EP X pins σ Q) X.xe s
def iH(X:Cx)(f:Value)(r:List V->Hp->VK->Prop):Prop:=∀(pins:AO)(s:Shared)(σ:St)(H:Hp)(xs:List V)(us:List Value)(Q:VK),Inv X pins σ H s->Vals xs us->r xs H Q->wpAny (model X.prog X.w) X.A (call f us) (EP X pins σ Q) X.xe s
def ZP(r:R2)(Q:VK)(x:V):V->Hp->Prop:=λy H2=>r x y H2 Q
def agh(r:R2)(tb:TE)(σ:St)(Q:VK):V->Hp->Prop:=λx H1=>tb σ H1 (ZP r Q x)
def Ht(r:R2)(ta tb:TE):TE:=λσ H Q=>ta σ H (agh r tb σ Q)
def agi(r:V->Hp->VK->Prop)(Q:VK):V->Hp->Prop:=λx H1=>r x H1 Q
def tUn(r:V->Hp->VK->Prop)(ta:TE):TE:=λσ H Q=>ta σ H (agi r Q)
inductive rI(C:Int->Int->Prop)(g:Int->Int->V)(x:V)(y:V)(H:Hp)(Q:VK):Prop
 |mk(i j:_)(_:x =.int i)(_:y =.int j)(_:C i j)(_:Q (g i j:_) H)
inductive Cr(g:Int->Int->V)(x:V)(y:V)(H:Hp)(Q:VK):Prop
 |mk(i j:_)(_:x =.int i)(_:y =.int j)(_:Q (g i j:_) H)
inductive rU(g:Int->V)(x:V)(H:Hp)(Q:VK):Prop
 |mk(i:_)(_:x =.int i)(_:Q (g i:_) H)
section
variable {X:Cx}{a b c:Expr}{ta tb tc:TE}{pos:Pos}
theorem U9(ha:PE X a ta)(hb:PE X b tb){R:V->V->Hp->Prop}(I:Inv X pins σ H s)(h:ta σ H λx H1=>tb σ H1 λy H2=>R x y H2){Q:VS}{f:Value->Value->Sem Value}(hf:∀v u s2 x y H2,Inv X pins σ H2 s2->RelV x v->RelV y u->R x y H2->wpAny (model X.prog X.w) X.A (f v u) Q X.xe s2):
  wpAny (model X.prog X.w) X.A (eval a X.env) (λv s₁=>wpAny (model X.prog X.w) X.A (eval b X.env) (λu s₂=>wpAny (model X.prog X.w) X.A (f v u) Q X.xe s₂) X.xe s₁) X.xe s:=by
 refine bH (ha pins s σ H _ I h) λv s1 ⟨x,H1,I1,r1,q1⟩=>?_
 refine bH (hb pins s1 σ H1 _ I1 q1) λu s2 ⟨y,H2,I2,r2,q2⟩=>?_
 exact hf v u s2 x y H2 I2 r1 r2 q2
theorem R7{f:Value->Value->Sem Value}{C:Int->Int->Prop}{g:Int->Int->Int}(rule:∀(i j:Int) (t u:Tok) (s:Shared) (Q:VS) (E:VS),C i j->Q (.int (g i j) s.toks) { s with toks:=s.toks+1 }->wpAny (model X.prog X.w) X.A (f (.int i t) (.int j u)) Q E s):
  jm X f (rI C λi j=> .int (g i j)):=by
 intro pins s σ H x y v u Q I rx ry h
 obtain⟨i,j,rfl,rfl,hc,q⟩:=h
 obtain⟨t,rfl⟩:=rx
 obtain⟨t',rfl⟩:=ry
 exact rule i j t t' s _ _ hc ⟨.int (g i j),H,I.tok _,⟨_,Z⟩,q⟩
theorem ZQ{f:Value->Value->Sem Value}{g:Int->Int->Int}(rule:∀(i j:Int) (t u:Tok) (s:Shared) (Q:VS) (E:VS),Q (.int (g i j) s.toks) { s with toks:=s.toks+1 }->wpAny (model X.prog X.w) X.A (f (.int i t) (.int j u)) Q E s):
  jm X f (Cr λi j=> .int (g i j)):=by
 intro pins s σ H x y v u Q I rx ry h
 obtain⟨i,j,rfl,rfl,q⟩:=h
 obtain⟨t,rfl⟩:=rx
 obtain⟨t',rfl⟩:=ry
 exact rule i j t t' s _ _ ⟨.int (g i j),H,I.tok _,⟨_,Z⟩,q⟩
theorem QO{f:Value->Value->Sem Value}{g:Int->Int->Bool}(rule:∀(i j:Int) (t u:Tok) (s:Shared) (Q:VS) (E:VS),Q (.bool (g i j)) s->wpAny (model X.prog X.w) X.A (f (.int i t) (.int j u)) Q E s):
  jm X f (Cr λi j=> .bl (g i j)):=by
 intro pins s σ H x y v u Q I rx ry h
 obtain⟨i,j,rfl,rfl,q⟩:=h
 obtain⟨t,rfl⟩:=rx
 obtain⟨t',rfl⟩:=ry
 exact rule i j t t' s _ _ ⟨.bl (g i j),H,I,Z,q⟩
def U_(i j:Int):Prop:=0<=j/\j<=1000000/\i.natAbs<2 ^ 64
def QS(i j:Int):Prop:=(-(2 ^ 64)<i/\i<2 ^ 64)\/(-(2 ^ 64)<j/\j<2 ^ 64)
theorem QS.ok{i j:Int}(h:QS i j):IntMulOk i j:=by
 rcases h with⟨h1,h2⟩|⟨h1,h2⟩
 .exact .of_left (intBits_le_64 h1 h2)
 .exact .of_right (intBits_le_64 h1 h2)
theorem cU:jm X (binaryOp .Add) (Cr λi j=> .int (i+j)):=ZQ λ_ _ _ _ _ _ _ q=>add_int q
theorem jQ:jm X (binaryOp .Sub) (Cr λi j=> .int (i-j)):=ZQ λ_ _ _ _ _ _ _ q=>sub_int q
theorem iK:jm X (binaryOp .Mult) (rI QS λi j=> .int (i*j)):=R7 λ_ _ _ _ _ _ _ hc q=>mul_int q hc.ok
theorem kr:jm X (binaryOp .Mod) (rI (λ_ j=>0<j) λi j=> .int (i % j)):=R7 λi j _ _ _ _ _ hc q=>by have h1:(0:Int)<j:=hc;exact mod_int' (by omega) (by rw[Int.fmod_eq_emod_of_nonneg i (by omega)];exact q)
theorem nV:jm X (binaryOp .Pow) (rI U_ λi j=> .int (i ^ j.toNat)):=R7 λ_ _ _ _ _ _ _ hc q=>pow_int_small hc.1 hc.2.1 hc.2.2 q
theorem unI{f:Value->Sem Value}{g:Int->Int}(rule:∀(i:Int) (t:Tok) (s:Shared) (Q:VS) (E:VS),Q (.int (g i) s.toks) { s with toks:=s.toks+1 }->wpAny (model X.prog X.w) X.A (f (.int i t)) Q E s):
  ZO X f (rU λi=> .int (g i)):=by
 intro pins s σ H x v Q I rx h
 obtain⟨i,rfl,q⟩:=h
 obtain⟨t,rfl⟩:=rx
 exact rule i t s _ _ ⟨.int (g i),H,I.tok _,⟨_,Z⟩,q⟩
theorem KA:ZO X (unaryOp .USub) (rU λi=> .int (-i)):=unI λ_ _ _ _ _ q=>neg_int q
end
def ZR:V->V->Bool
 | .cy,.cy=>true | .cy,.int _=>true | .int _,.cy=>true | .cy,.bl _=>true | .bl _,.cy=>true | .cy,.str _=>true | .str _,.cy=>true
 | .int _,.int _=>true | .bl _,.bl _=>true | .str _,.str _=>true | .zH _,.zH _=>true
 | .int _,.str _=>true | .str _,.int _=>true | .bl _,.str _=>true | .str _,.bl _=>true
 | _,_=>false
inductive rEq(x:V)(y:V)(H:Hp)(Q:VK):Prop
 |mk(_:ZR x y=true)(_:Q (.bl (decide (x=y))) H)
inductive rNe(x:V)(y:V)(H:Hp)(Q:VK):Prop
 |mk(_:ZR x y=true)(_:Q (.bl (!decide (x=y))) H)
theorem O1{i j:Int}:decide (V.int i=V.int j)=(i==j):=by rw[Bs];simp
theorem R8{i j:Bool}:decide (V.bl i=V.bl j)=(i==j):=by rw[Bs];simp
theorem O2{i j:Str}:decide (V.str i=V.str j)=(i==j):=by rw[Bs];simp
theorem O3{i j:Array UInt8}:decide (V.zH i=V.zH j)=(i.toList==j.toList):=by rw[Bs];cases i;cases j;simp
variable {Q:VK}{op:CmpOp}
section
variable {X:Cx}{a b c:Expr}{ta tb tc:TE}{pos:Pos}
theorem dG{k k':Bool}(I:Inv X pins σ H s)(q:Q (.bl k) H)(e:k=k'):EP X pins σ Q (.bool k') s:=by subst e;exact⟨.bl k,H,I,Z,q⟩
theorem d8:jm X (compareOp .Eq) rEq:=by
 intro pins s σ H x y v u Q I rx ry h;obtain⟨hs,q⟩:=h;cases x with
 | cy=>
  cases rx;cases y with
  | cy=>cases ry;exact PySem.EqNone.eq_none_none (dG I q (by simp))
  | bl j=>cases ry;exact PySem.EqNone.eq_none_bool (dG I q (by simp))
  | int j=>obtain⟨t',rfl⟩:=ry;exact PySem.EqNone.eq_none_int (dG I q (by simp))
  | str j=>obtain⟨t',rfl⟩:=ry;exact PySem.EqNone.eq_none_str (dG I q (by simp))
  | _=>exact absurd (show false=true from hs) gk
 | bl i=>
  cases rx;cases y with
  | cy=>cases ry;exact PySem.EqNone.eq_bool_none (dG I q (by simp))
  | bl j=>cases ry;exact eq_bool (dG I q R8)
  | str j=>obtain⟨t',rfl⟩:=ry;exact PySem.EqMixed.eq_bool_str (dG I q (by simp))
  | _=>exact absurd (show false=true from hs) gk
 | int i=>
  obtain⟨t,rfl⟩:=rx;cases y with
  | cy=>cases ry;exact PySem.EqNone.eq_int_none (dG I q (by simp))
  | int j=>obtain⟨t',rfl⟩:=ry;exact eq_int (dG I q O1)
  | str j=>obtain⟨t',rfl⟩:=ry;exact PySem.EqMixed.eq_int_str (dG I q (by simp))
  | _=>exact absurd (show false=true from hs) gk
 | str i=>
  obtain⟨t,rfl⟩:=rx;cases y with
  | cy=>cases ry;exact PySem.EqNone.eq_str_none (dG I q (by simp))
  | bl j=>cases ry;exact PySem.EqMixed.eq_str_bool (dG I q (by simp))
  | int j=>obtain⟨t',rfl⟩:=ry;exact PySem.EqMixed.eq_str_int (dG I q (by simp))
  | str j=>obtain⟨t',rfl⟩:=ry;exact eq_str (dG I q O2)
  | _=>exact absurd (show false=true from hs) gk
 | zH i=>
  obtain⟨t,rfl⟩:=rx;cases y with
  | zH j=>obtain⟨t',rfl⟩:=ry;exact PySem.W.eq_bytes (dG I q O3)
  | _=>exact absurd (show false=true from hs) gk
 | _=>cases y <;> exact absurd (show false=true from hs) gk
theorem sr:jm X (compareOp .NotEq) rNe:=by
 intro pins s σ H x y v u Q I rx ry h;obtain⟨hs,q⟩:=h;cases x with
 | cy=>
  cases rx;cases y with
  | cy=>cases ry;exact PySem.EqNone.ne_none_none (dG I q (by simp))
  | bl j=>cases ry;exact PySem.EqNone.ne_none_bool (dG I q (by simp))
  | int j=>obtain⟨t',rfl⟩:=ry;exact PySem.EqNone.ne_none_int (dG I q (by simp))
  | str j=>obtain⟨t',rfl⟩:=ry;exact PySem.EqNone.ne_none_str (dG I q (by simp))
  | _=>exact absurd (show false=true from hs) gk
 | bl i=>
  cases rx;cases y with
  | cy=>cases ry;exact PySem.EqNone.ne_bool_none (dG I q (by simp))
  | bl j=>cases ry;exact ne_bool (dG I q (gR not R8))
  | str j=>obtain⟨t',rfl⟩:=ry;exact PySem.EqMixed.ne_bool_str (dG I q (by simp))
  | _=>exact absurd (show false=true from hs) gk
 | int i=>
  obtain⟨t,rfl⟩:=rx;cases y with
  | cy=>cases ry;exact PySem.EqNone.ne_int_none (dG I q (by simp))
  | int j=>obtain⟨t',rfl⟩:=ry;exact ne_int (dG I q (gR not O1))
  | str j=>obtain⟨t',rfl⟩:=ry;exact PySem.EqMixed.ne_int_str (dG I q (by simp))
  | _=>exact absurd (show false=true from hs) gk
 | str i=>
  obtain⟨t,rfl⟩:=rx;cases y with
  | cy=>cases ry;exact PySem.EqNone.ne_str_none (dG I q (by simp))
  | bl j=>cases ry;exact PySem.EqMixed.ne_str_bool (dG I q (by simp))
  | int j=>obtain⟨t',rfl⟩:=ry;exact PySem.EqMixed.ne_str_int (dG I q (by simp))
  | str j=>obtain⟨t',rfl⟩:=ry;exact ne_str (dG I q (gR not O2))
  | _=>exact absurd (show false=true from hs) gk
 | zH i=>
  obtain⟨t,rfl⟩:=rx;cases y with
  | zH j=>obtain⟨t',rfl⟩:=ry;exact PySem.W.ne_bytes (dG I q (gR not O3))
  | _=>exact absurd (show false=true from hs) gk
 | _=>cases y <;> exact absurd (show false=true from hs) gk
theorem su:jm X (compareOp .Lt) (Cr λi j=> .bl (decide (i<j))):=QO λ_ _ _ _ _ _ _ q=>lt_int q
theorem WL:jm X (compareOp .LtE) (Cr λi j=> .bl (decide (i<=j))):=QO λ_ _ _ _ _ _ _ q=>le_int q
theorem jE:jm X (compareOp .Gt) (Cr λi j=> .bl (decide (j<i))):=QO λ_ _ _ _ _ _ _ q=>gt_int q
theorem JZ:jm X (compareOp .GtE) (Cr λi j=> .bl (decide (j<=i))):=QO λ_ _ _ _ _ _ _ q=>ge_int q
theorem R9:jm X (compareOp .In) (λx y H Q=>∃i j,x =.str i/\y =.str j/\Q (.bl (!(Builtin.Str.occurrences j i 0 j.length 1).isEmpty)) H):=by intro pins s σ H x y v u Q I rx ry h;obtain⟨i,j,rfl,rfl,q⟩:=h;obtain⟨t,rfl⟩:=rx;obtain⟨t',rfl⟩:=ry;exact in_str (dG I q rfl)
theorem aU(b:Expr)(h:op ≠ .In:=by decide)(h2:op ≠ .NotIn:=by decide):behindInMarks op b=false:=by
 have e1:(op==CmpOp.In)=false:=by cases op <;> first|rfl|exact absurd rfl h
 have e2:(op==CmpOp.NotIn)=false:=by cases op <;> first|rfl|exact absurd rfl h2
 cases b <;> simp[behindInMarks,e1,e2]
inductive R_(Q:Bool->Hp->Prop)(x:V)(H':Hp):Prop
 |mk(k:_)(_:x =.bl k)(_:Q k H')
def J0(t:TE):TT:=λσ H Q=>t σ H (R_ Q)
inductive Sa(r':R2)(tc:TE)(σ:St)(Q:VK)(y:V)(z:V)(H3:Hp):Prop
 |mk(k:_)(_:z =.bl k)(_:(if k=true then tc σ H3 λw' H4=>r' y w' H4 Q else Q (.bl false) H3))
def Sb(r:R2)(r':R2)(tc:TE)(σ:St)(Q:VK)(x:V):V->Hp->Prop:=λy H2=>r x y H2 (Sa r' tc σ Q y)
def XO(r:R2)(r':R2)(tb:TE)(tc:TE)(σ:St)(Q:VK):V->Hp->Prop:=λx H1=>tb σ H1 (Sb r r' tc σ Q x)
def ZS(r r':R2)(ta tb tc:TE):TE:=λσ H Q=>ta σ H (XO r r' tb tc σ Q)
theorem vd:(sizeLine:Nat)<2 ^ 63:=by rw[l9];decide
theorem QT:jm X (binaryOp .Add) (λx y H Q=>∃i j,x =.str i/\y =.str j/\i.length+j.length<=sizeLine/\Q (.str (i++j)) H):=by intro pins s σ H x y v u Q I rx ry h;obtain⟨i,j,rfl,rfl,hz,q⟩:=h;obtain⟨t,rfl⟩:=rx;obtain⟨t',rfl⟩:=ry;exact add_str (λt' tk=>⟨.str (i++j),H,I.tok _,⟨_,Z⟩,q⟩) hz
theorem vals1{x:V}(r:Vals [x] us):∃u,us=[u]/\RelV x u:=by
 cases r with
 | cons r1 r2=>cases r2;exact⟨_,Z,r1⟩
theorem vals2{x:V}(r:Vals [x,y] us):∃u w',us=[u,w']/\RelV x u/\RelV y w':=by
 cases r with
 | cons r1 r2=>
  cases r2 with
  | cons r3 r4=>cases r4;exact⟨_,_,Z,r1,r3⟩
theorem Va:iH X (.builtin "abs") (λxs H Q=>∃i,xs=[.int i]/\Q (.int (if i<0 then -i else i)) H):=by intro pins s σ H xs us Q I r h;obtain⟨i,rfl,q⟩:=h;obtain⟨u,rfl,t,rfl⟩:=vals1 r;exact call_abs_int λu tk=>⟨.int (if i<0 then -i else i),H,I.tok _,⟨_,Z⟩,q⟩
theorem Ab(hc:X.calm=true):iH X (.builtin "min") (λxs H Q=>∃i j,xs=[.int i,.int j]/\Q (.int (if j<i then j else i)) H):=by
 intro pins s σ H xs us Q I r h;obtain⟨i,j,rfl,q⟩:=h;obtain⟨u,w',rfl,⟨t,rfl⟩,⟨t',rfl⟩⟩:=vals2 r;refine min_two_ints (I.ok.hd hc) λh' tk k=>⟨_,H,I.kept k,?_,q⟩
 by_cases hj:j<i
 .rw [av hj,av hj];exact⟨_,Z⟩
 .rw [au hj,au hj];exact⟨_,Z⟩
end
structure CT(h:Heap)(x dx C:Addr)(mA:SO):Prop where
 obj:h.get? x=some (PySem.W.instObj C dx)
 ns:h.Ns1 dx mA
 ne:dx≠x
theorem Sd{mA:SO}(n:h.Ns1 dx mA):∃od,h.get? dx=some od/\∀name,PySem.W.lookIn name od=some (mA name):=by
 obtain⟨o,es,ep,ho,hd,hk,_,hm⟩:=n;refine⟨o,ho,λname=>?_⟩;have e:=hm name;unfold nsFind findBy at e;rw[<-Array.find?_toList]at e;unfold PySem.W.lookIn;rw[hd];dsimp only;split
 .rename_i y q;rw[q]at e;exact gR some e
 .rename_i q;rw[q]at e;have a:es.toList.any (·.refKey)=false:=by rw[List.any_eq_false];intro y hy;obtain⟨z,t,hkey⟩:=hk y (Array.mem_toList_iff.mp hy);simp[DictEntry.refKey,hkey]
  have a':¬ es.toList.any (·.refKey)=true:=by rw[a];exact gk
  rw[au a'];exact gR some e
variable {C:Addr}
theorem CT.look{x dx:Addr}{mA:SO}(I:CT h x dx C mA):∃od,PySem.W.InstAt h x (PySem.W.instObj C dx) C (some od)/\∀name,PySem.W.lookIn name od=some (mA name):=
 let⟨od,ho,hl⟩:=Sd I.ns
 ⟨od,⟨I.obj,Z,Z,ho⟩,hl⟩
variable {R:Result->Shared->Prop}{kw:List (Str×Value)}
section
variable {prog:Program}{w:World}{A:Around}{E:VS}{s:Shared}{K:Fg}{x dx C f:Addr}{mA:SO}{name:Str}{v:Value}
theorem get_map{expr:Bool}{Q:VS}(X:K.In s.heap)(I:CT s.heap x dx C mA)(hg:PySem.W.plainGet K C name=true)(hh:PySem.W.hasDictIn K C=true)(ha:PySem.W.findIn K (.ref C) name=some none)(hv:mA name=some v)(hv':PySem.W.handedIn v=true)(h:Q v { s with toks:=s.toks+1 }):
  wpAny (model prog w) A (getAttr (.ref x) name expr) Q E s:=by
 obtain⟨od,J,hl⟩:=I.look
 exact PySem.W.get_value X J (PySem.W.plainGet_of hg).1 (PySem.W.findObj_own hh ha rfl (by rw[hl,hv])) hv' h
theorem Vb{pl:Sem Bool}{Q:Value×List Value->Shared->Prop}(X:K.In s.heap)(I:CT s.heap x dx C mA)(hg:PySem.W.plainGet K C name=true)(hf:PySem.W.findIn K (.ref C) name=some (some (.ref f)))(ht:PySem.W.isFn K (.ref f)=true)(hv:mA name=none)(h:Q (.ref f,[.ref x]) s):
  wpAny (model prog w) A (getMethod (.ref x) name pl) Q E s:=by
 obtain⟨od,J,hl⟩:=I.look
 exact PySem.W.method_fn X J (PySem.W.plainGet_of hg).1 (PySem.W.plainGet_of hg).2 hf (uM.mp ht) (by show(PySem.W.lookIn name od).map (·.isSome)=some false;rw[hl,hv];rfl) h
theorem XQ{ns:List Str}{Q:Unit->Shared->Prop}(X:K.In s.heap)(I:CT s.heap x dx C mA)(hs:PySem.W.findIn K (.ref C) "__setattr__"=some (some (.builtin "object.__setattr__")))(hp:PySem.W.plainOver K C=true)(ht:PySem.W.takerIn K C name=some none)(hh:PySem.W.hasDictIn K C=true)(hw:PySem.Within mA ns)(hsz:ns.length<=sizeLine)(h:∀h',CT h' x dx C (λy=>if y=name then some v else mA y)->Heap.SameBut dx s.heap h'->Q () { s with heap:=h',toks:=s.toks+2 }):
  wpAny (model prog w) A (setAttr (.ref x) name v) Q E s:=by
 obtain⟨od,J,hl⟩:=I.look
 refine PySem.W.set_plain X J hs (PySem.W.osa_open (s:={ s with toks:=s.toks+1 }) (r:=none) X J hp ht λb=>?_)
 obtain⟨cd,hc,hd'⟩:=PySem.W.any_some hh
 have hx:s.heap.get? x=some ⟨.ref C,some dx,.plain,#[]⟩:=I.obj
 refine ay (bg (ay (ay (wpAny_loadPart hx (ay (PySem.W.Looks.here (s:={ s with toks:=s.toks+1 }) (PySem.W.looks_clsIn X hc) ?_))))))
 rw[hd']
 refine bg (a:=some dx) (ay (bg (ay ?_)))
 refine wpAny_nsSet1 (s:={ s with toks:=s.toks+1 }) I.ns λh' hn2 hs2=>?_
 obtain⟨oD,esD,epD,hoD,hdD,hcD⟩:=hn2.count (PySem.Within.cons name v hw)
 refine ay (wpAny_lookBehind hoD (by rw[hdD];exact pastItsLine_dict (fD hcD (by rw[iF];omega))) ?_)
 exact bg (h _ ⟨(hs2.2 _ (cu I.ne)).trans I.obj,hn2,I.ne⟩ hs2)
theorem Vc{vs:List Value}(X:K.In s.heap)(hm:PySem.W.makesIn K C=true)(hi:PySem.W.findIn K (.ref C) "__init__"=some (some (.ref f)))(hf:PySem.W.typeIn K (.ref f)=some (.type "function"))(h:codeAny (model prog w) (A.under (.builtin "type.__call__" ⟨.ref C::vs,kw⟩)) (.call (.ref f) ⟨.ref (s.heap.objs.size+1)::vs,kw⟩) (PySem.W.InitBack (s.heap.objs.size+1) R)
    { s with heap:=(s.heap.push PySem.W.emptyDict).push (PySem.W.instObj C s.heap.objs.size) }):
  codeAny (model prog w) A (.call (.ref C) ⟨vs,kw⟩) R s:=by
 obtain⟨hh,g,d,t,os⟩:=s
 exact PySem.W.make_core (PySem.W.makes_of X hm) (PySem.W.looks_findIn X hi) (λself=>PySem.W.bind_fn X self hf) (.inl rfl) h
end
def br(f:Str)(v:V):List (Str×V)->List (Str×V)
 | []=>[(f,v)]
 | (g,x)::r=>if g=f then(g,v)::r else(g,x)::br f v r
theorem Cs(f g:Str)(v:V):∀fs:List (Str×V),(br f v fs).lookup g=if g=f then some v else fs.lookup g
 | []=>by
  show List.lookup g [(f,v)]=_;by_cases h:g=f
  .have hb:(g==f)=true:=uM.mpr h;simp only[List.lookup,hb,av h]
  .have hb:(g==f)=false:=FJ.mpr h;simp only[List.lookup,hb,au h]
 | (k,x)::r=>by
  have ih:=Cs f g v r;rw[show br f v ((k,x)::r)=(if k=f then(k,v)::r else(k,x)::br f v r)from rfl];by_cases hk:k=f
  .rw [av hk];by_cases h:g=k
   .have hb:(g==k)=true:=uM.mpr h;simp only[List.lookup,hb,av (h.trans hk)]
   .have hb:(g==k)=false:=FJ.mpr h;simp only[List.lookup,hb,au (λe:g=f=>h (e.trans hk.symm))]
  .rw [au hk];by_cases h:g=k
   .have hb:(g==k)=true:=uM.mpr h;simp only[List.lookup,hb,au (λe:g=f=>hk (h.symm.trans e))]
   .have hb:(g==k)=false:=FJ.mpr h;simp only[List.lookup,hb];exact ih
theorem Ac(f:Str)(v:V):∀fs:List (Str×V),f∈(br f v fs).map (·.1)/\∀g,g∈fs.map (·.1)->g∈(br f v fs).map (·.1)
 | []=>⟨by simp[br],λg h=>by simp at h⟩
 | (k,x)::r=>by
  obtain⟨i1,i2⟩:=Ac f v r;rw[show br f v ((k,x)::r)=(if k=f then(k,v)::r else(k,x)::br f v r)from rfl];by_cases hk:k=f
  .rw [av hk];subst hk;exact⟨by simp,λg h=>by simpa using h⟩
  .rw [au hk];refine⟨?_,λg h=>?_⟩
   .rw [bN];exact cW _ i1
   .rw [bN]at h ⊢;rcases dS.mp h with e|e
    .exact dS.mpr (.inl e)
    .exact cW _ (i2 g e)
theorem Ct(f:Str)(v:V):∀fs:List (Str×V),(br f v fs).length<=fs.length+1
 | []=>by simp[br]
 | (k,x)::r=>by
  have ih:=Ct f v r;rw[show br f v ((k,x)::r)=(if k=f then(k,v)::r else(k,x)::br f v r)from rfl];by_cases hk:k=f
  .rw [av hk,iF,iF];omega
  .rw [au hk,iF,iF];omega
theorem nN.some_of{v:V}{o:Option Value}(r:nN (some v) o):∃u,o=some u/\RelV v u:=by
 cases o with
 | none=>exact(show False from r).elim
 | some u=>exact⟨u,Z,r⟩
theorem nN.none_of{o:Option Value}(r:nN none o):o=none:=by
 cases o with
 | none=>rfl
 | some u=>exact(show False from r).elim
theorem Se{v:V}(r:RelV v u):PySem.W.handedIn u=true:=by
 cases v with
 | cy=>cases(show u=Value.none from r);rfl
 | bl b=>cases(show u=Value.bool b from r);rfl
 | int i=>obtain⟨t,e⟩:=(show ∃t,u=Value.int i t from r);cases e;rfl
 | str x=>obtain⟨t,e⟩:=(show ∃t,u=Value.str x t from r);cases e;rfl
 | zH b=>obtain⟨t,e⟩:=(show ∃t,u=Value.bytes b t from r);cases e;rfl
 | Kn b=>obtain⟨t,e⟩:=(show ∃t,u=Value.float b t from r);cases e;rfl
 | ref a=>cases(show u=Value.ref a from r);rfl
 | ty n=>cases(show u=Value.type n from r);rfl
section
variable {P:Program}{w:World}{H H':Hp}{h h':Heap}{a C dx:Addr}{fs fs':List (Str×V)}
theorem BF(hok:jl P w H h)(e:H a=some (.ins C dx fs)):∃mA,CT h a dx C mA/\(∀f,nN (fs.lookup f) (mA f))/\PySem.Within mA (fs.map (·.1))/\fs.length<=1000/\H dx=some (.own a):=by
 obtain⟨d,z,ne,ob,mA,n,r,q⟩:=(show eV P w H h a (.ins C dx fs)from hok a _ e)
 exact⟨mA,⟨ob,n,ne⟩,r,q,z,d⟩
end
structure qe(K:Fg)(C:Addr):Prop where
 pg:PySem.W.plainGet K C Str.empty=true
 hd:PySem.W.hasDictIn K C=true
 po:PySem.W.plainOver K C=true
 sa:PySem.W.findIn K (.ref C) "__setattr__"=some (some (.builtin "object.__setattr__"))
theorem qe.get(c:qe K C)(f:Str):PySem.W.plainGet K C f=true:=c.pg
def fP(K:Fg)(C:Addr)(f:Str):Prop:=PySem.W.findIn K (.ref C) f=some none
theorem fP.taker{f:Str}(n:fP K C f):PySem.W.takerIn K C f=some none:=by unfold PySem.W.takerIn;rw[show PySem.W.findIn K (.ref C) f=some none from n];rfl
structure Meth(K:Fg)(C:Addr)(m:Str)(f:Addr):Prop where
 at_:PySem.W.findIn K (.ref C) m=some (some (.ref f))
 fn:PySem.W.isFn K (.ref f)=true
 kp:PySem.W.keepIn K (.ref f)=true
variable {env:Env}
section
variable {X:Cx}{pins:AO}{σ:St}{H:Hp}{s:Shared}{a C dx:Addr}{fs:List (Str×V)}{f:Str}{v:V}{A:Around}{E:VS}
theorem DW{b:Bool}{Q:VS}(I:Inv X pins σ H s)(e:H a=some (.ins C dx fs))(c:qe X.K C)(n:fP X.K C f)(l:fs.lookup f=some v)(h:∀u s',Inv X pins σ H s'->RelV v u->Q u s'):wpAny (model X.prog X.w) A (getAttr (.ref a) f b) Q E s:=by
 obtain⟨mA,O,r,_,_,_⟩:=BF I.hok e
 obtain⟨u,hu,ru⟩:=nN.some_of (v:=v) (o:=mA f) (by rw[<-l];exact r f)
 exact get_map I.kM O (c.get f) c.hd n hu (Se ru) (h u _ (I.tok _) ru)
theorem DX{m:Str}{g:Addr}{pl:Sem Bool}{Q:Value×List Value->Shared->Prop}(I:Inv X pins σ H s)(e:H a=some (.ins C dx fs))(c:qe X.K C)(k:Meth X.K C m g)(l:fs.lookup m=none)(h:Q (.ref g,[.ref a]) s):wpAny (model X.prog X.w) A (getMethod (.ref a) m pl) Q E s:=by
 obtain⟨mA,O,r,_,_,_⟩:=BF I.hok e
 have hn:mA m=none:=nN.none_of (by rw[<-l];exact r m)
 exact Vb I.kM O (c.get m) k.at_ k.fn hn h
theorem DY{Q:Unit->Shared->Prop}(I:Inv X pins σ H s)(e:H a=some (.ins C dx fs))(c:qe X.K C)(n:fP X.K C f)(hl:fs.length<1000)(ry:RelV y u)(h:∀s',Inv X pins σ (upd H a (.ins C dx (br f y fs))) s'->Q () s'):wpAny (model X.prog X.w) A (setAttr (.ref a) f u) Q E s:=by
 obtain⟨mA,O,r,wi,_,ho⟩:=BF I.hok e
 have hz:(fs.map (·.1)).length<=sizeLine:=by rw[aE,l9];omega
 refine XQ I.kM O c.sa c.po n.taker c.hd wi hz λh' O' sb=>h _ ?_
 have hd:∃o,h'.get? dx=some o:=let⟨o,_,_,e',_⟩:=O'.ns;⟨o,e'⟩
 refine I.write (x:=a) (e:=dx) (by rw[e];exact True.intro) (.inr ho) (λb q hb z=>(sb.2 b hb).trans z) hd ?_
 refine⟨by rw[az O.ne];exact ho,?_,O.ne,O'.obj,_,O'.ns,λg=>?_,λg hg=>?_⟩
 . have:=Ct f y fs;omega
 . show nN ((br f y fs).lookup g) (if g=f then some u else mA g)
   rw[Cs]
   by_cases q:g=f
   . rw[av q,av q];exact ry
   . rw[au q,au q];exact r g
 . by_cases q:g=f
   . rw[q];exact(Ac f y fs).1
   . refine(Ac f y fs).2 g (wi g λz=>hg ?_)
     show(if g=f then some u else mA g)=none
     rw[au q];exact z
theorem Inv.made(I:Inv X pins σ H s):Inv X pins σ (upd (upd H s.heap.objs.size (.own (s.heap.objs.size+1))) (s.heap.objs.size+1) (.ins C s.heap.objs.size []))
  { s with heap:=(s.heap.push PySem.W.emptyDict).push (PySem.W.instObj C s.heap.objs.size) }:=by
 have e1:(s.heap.push PySem.W.emptyDict).get? s.heap.objs.size=some PySem.W.emptyDict:=eY s.heap rfl
 have e2:((s.heap.push PySem.W.emptyDict).push (PySem.W.instObj C s.heap.objs.size)).get? (s.heap.objs.size+1)=some (PySem.W.instObj C s.heap.objs.size):=by
  have:=eY (s.heap.push PySem.W.emptyDict) (o:=PySem.W.instObj C s.heap.objs.size) rfl
  rwa [nv]at this
 have e3:(s.heap.push PySem.W.emptyDict).Ns s.heap.objs.size (λ_=>none):=⟨PySem.W.emptyDict,#[],_,e1,Z,(λe he=>absurd he (by simp)),λ_=>rfl⟩
 have I1:=I.laid (a:=s.heap.objs.size) (o:=.own (s.heap.objs.size+1)) (h':=s.heap.push PySem.W.emptyDict) (t':=s.toks) (λb u q=>cK _ q) (aQ _) ⟨_,e1⟩
 refine I1.laid (a:=s.heap.objs.size+1) (o:=.ins C s.heap.objs.size []) (t':=s.toks) (λb u q=>cK _ q) (Nat.le_of_eq (nv _ _)) ?_
 have ne:s.heap.objs.size≠s.heap.objs.size+1:=e_ (Nat.lt_succ_self _)
 refine⟨by rw[az ne,ao],gh _,ne,e2,λ_=>none,(Heap.Ns1.of_empty e3).at λo q=>cK _ q,λ_=>True.intro,λy hy=>absurd rfl hy⟩
theorem XR{prog:Program}{f:Str}{s:Shared}{Q:VS}(hb:attributeBase e f env (eval e env)=eval e env)(h:wpAny (model prog w) A (eval e env) (λo s₁=>wpAny (model prog w) A (getAttr o f true) Q E s₁) E s):wpAny (model prog w) A (eval (.Attribute e f pos) env) Q E s:=
 Attribute_any_ h (by rw[arm_eval_Attribute,hb])
end
inductive ac3(K:Fg)(f:Str)(Q:VK)(x:V)(H1:Hp):Prop
 |mk(a C dx fs v:_)(_:x =.ref a)(_:H1 a=some (.ins C dx fs))(_:qe K C)(_:fP K C f)(_:fs.lookup f=some v)(_:Q v H1)
def ZT(K:Fg)(ta:TE)(f:Str):TE:=λσ H Q=>ta σ H (ac3 K f Q)
inductive XS(K:Fg)(f:Str)(D:Ends)(σ:St)(y:V)(x:V)(H2:Hp):Prop
 |mk(a C dx fs:_)(_:x =.ref a)(_:H2 a=some (.ins C dx fs))(_:qe K C)(_:fP K C f)(_:fs.length<1000)(_:D.nx σ (upd H2 a (.ins C dx (br f y fs))))
def ac4(K:Fg)(ta:TE)(f:Str)(D:Ends)(σ:St):V->Hp->Prop:=λy H1=>ta σ H1 (XS K f D σ y)
def ZU(K:Fg)(ta tv:TE)(f:Str):TS:=λD σ H=>tv σ H (ac4 K ta f D σ)
def KC(X:Cx)(op:Operator)(rd:V->V->Hp->VK->Prop):Prop:=∀(pins:AO)(s:Shared)(σ:St)(H:Hp)(x y:V)(u v:Value)(Q:VK),Inv X pins σ H s->RelV x u->RelV y v->rd x y H Q->wpAny (model X.prog X.w) X.A (inplaceOp op u v) (EP X pins σ Q) X.xe s
inductive QU(f:Str)(D:Ends)(σ:St)(a:Addr)(C:Addr)(z:V)(H3:Hp):Prop
 |mk(ZV fs':_)(_:H3 a=some (.ins C ZV fs'))(_:fs'.length<1000)(_:D.nx σ (upd H3 a (.ins C ZV (br f z fs'))))
def QV(rd:V->V->Hp->VK->Prop)(f:Str)(D:Ends)(σ:St)(a:Addr)(C:Addr)(v:V):V->Hp->Prop:=λy H2=>rd v y H2 (QU f D σ a C)
inductive Vd(K:Fg)(tv:TE)(rd:V->V->Hp->VK->Prop)(f:Str)(D:Ends)(σ:St)(x:V)(H1:Hp):Prop
 |mk(a C dx fs v:_)(_:x =.ref a)(_:H1 a=some (.ins C dx fs))(_:qe K C)(_:fP K C f)(_:fs.lookup f=some v)(_:tv σ H1 (QV rd f D σ a C v))
def O4(K:Fg)(ta tv:TE)(rd:V->V->Hp->VK->Prop)(f:Str):TS:=λD σ H=>ta σ H (Vd K tv rd f D σ)
variable {rd:V->V->Hp->VK->Prop}
section
variable {X:Cx}{o e value:Expr}{f:Str}{pos pos' tpos:Pos}{ta tv:TE}
theorem ZW(he:PE X e ta)(hb:attributeBase e f X.env (eval e X.env)=eval e X.env):PE X (.Attribute e f pos) (ZT X.K ta f):=by intro pins s σ H Q I h;refine XR hb (bH (he pins s σ H _ I h) λu s1 ⟨x,H1,I1,rx,a,C,dx,fs,v,ex,ea,c,n,l,q⟩=>?_);subst ex;obtain rfl:u=Value.ref a:=rx;exact DW I1 ea c n l λu' s2 I2 ru=>⟨v,H1,I2,ru,q⟩
theorem ZX(ha:PE X o ta)(hv:PE X value tv)(hs:swapsWith value (some (.Attribute o f pos')) pos.line X.env=pure false):PS X (.Assign [.Attribute o f pos'] value pos) (ZU X.K ta tv f):=by intro pins s σ H D I h;refine plainObj_wpAny_Assign_Attribute (bH (hv pins s σ H _ I h) λu s1 ⟨y,H1,I1,ry,q⟩=>bH (ha pins s1 σ H1 _ I1 q) λov s2 ⟨x,H2,I2,rx,a,C,dx,fs,ex,ea,c,n,l,q2⟩=>?_) hs;subst ex;obtain rfl:ov=Value.ref a:=rx;exact DY I2 ea c n l ry λs3 I3=>⟨σ,_,I3,q2⟩
theorem Sf{op:Operator}(ha:PE X o ta)(hv:PE X value tv)(hop:KC X op rd):PS X (.AugAssign (.Attribute o f tpos) op value pos) (O4 X.K ta tv rd f):=by intro pins s σ H D I h;refine wpAny_AugAssign_AttributeAny (bH (ha pins s σ H _ I h) λov s1 ⟨x,H1,I1,rx,a,C,dx,fs,v,ex,ea,c,n,l,q⟩=>?_);subst ex;obtain rfl:ov=Value.ref a:=rx;refine DW I1 ea c n l λu s2 I2 ru=>bH (hv pins s2 σ H1 _ I2 q) λw3 s3 ⟨y,H2,I3,ry,q3⟩=>bH (hop pins s3 σ H2 v y u w3 _ I3 ru ry q3) λw4 s4 ⟨z,H3,I4,rz,ZV,fs',ea',l',q4⟩=>?_;exact DY I4 ea' c n l' rz λs5 I5=>⟨σ,_,I5,q4⟩
inductive agj(x:V)(y:V)(H:Hp)(Q:VK):Prop
 |mk(i j:_)(_:x =.int i)(_:y =.int j)(_:Q (.int (i+j)) H)
inductive agk(x:V)(y:V)(H:Hp)(Q:VK):Prop
 |mk(i j:_)(_:x =.int i)(_:y =.int j)(_:Q (.int (i-j)) H)
theorem ZY:KC X .Add agj:=by
 rintro pins s σ H x y u v Q I rx ry ⟨i,j,rfl,rfl,q⟩;obtain⟨t,rfl⟩:=(show ∃t,u=Value.int i t from rx)
 obtain⟨t',rfl⟩:=(show ∃t',v=Value.int j t' from ry)
 exact PyProof.Rows.iadd_int ⟨.int (i+j),H,I.tok _,⟨_,Z⟩,q⟩
theorem KD:KC X .Sub agk:=by
 rintro pins s σ H x y u v Q I rx ry ⟨i,j,rfl,rfl,q⟩;obtain⟨t,rfl⟩:=(show ∃t,u=Value.int i t from rx)
 obtain⟨t',rfl⟩:=(show ∃t',v=Value.int j t' from ry)
 exact PyProof.Rows.isub_int ⟨.int (i-j),H,I.tok _,⟨_,Z⟩,q⟩
end
section
variable {X:Cx}{pins:AO}{σ:St}{H:Hp}{s:Shared}{A:Around}{E:VS}{Q:VS}{c:Value}{b:Bool}
inductive gT(K:Fg)(H:Hp):V->Value->Prop where
 | cy:gT K H .cy (.type "NoneType")
 | bl (x:Bool):gT K H (.bl x) (.type "bool")
 | int (i:Int):gT K H (.int i) (.type "int")
 | str (x:Str):gT K H (.str x) (.type "str")
 | Kn (x:UInt64):gT K H (.Kn x) (.type "float")
 | lst {a:Addr} {xs:List V} (e:H a=some (.lst xs)):gT K H (.ref a) (.type "list")
 | fZ {a:Addr} {o:Obj} {xs:List V} (e:H a=some (.fZ o (.lst xs))):gT K H (.ref a) (.type "list")
 | tup {a:Addr} {xs:List V} (e:H a=some (.tup xs)):gT K H (.ref a) (.type "tuple")
 | dK {a:Addr} {kvs:List (Key×V)} (e:H a=some (.dK kvs)):gT K H (.ref a) (.type "dict")
 | dT {a:Addr} {kvs:List (List Key×V)} (e:H a=some (.dT kvs)):gT K H (.ref a) (.type "dict")
 | ins {a C dx:Addr} {fs:List (Str×V)} (e:H a=some (.ins C dx fs)) (cl:qe K C) (ha:PySem.W.findIn K (.ref C) "__class__"=some (some (.builtin "object.__class__")))
    (hn:PySem.W.specialIn K (.builtin "object.__class__") "__get__"=some (some (.builtin "getset_descriptor.__get__"))) (htk:PySem.W.takesIn K (.builtin "object.__class__")=some true)
    (hm:PySem.W.mroIn K C (.type "object")=some true):gT K H (.ref a) (.ref C)
theorem Sg{x:V}{t:Value}(I:Inv X pins σ H s)(rx:RelV x u)(ty:gT X.K H x t)(e:PySem.W.kitOne X.K t c=some b)(h:∀tk,Q (.bool b) { s with toks:=tk }):wpAny (model X.prog X.w) A (call (.builtin "isinstance") [u,c]) Q E s:=by
 cases ty with
 | cy=>cases(show u=Value.none from rx);exact p7 PySem.W.kitx_none I.kM True.intro e (λz=>nomatch z) h
 | bl y=>cases(show u=Value.bool y from rx);exact p7 PySem.W.kitx_bool I.kM True.intro e (λz=>nomatch z) h
 | int i=>obtain⟨t,q⟩:=(show ∃t,u=Value.int i t from rx);cases q;exact p7 PySem.W.kitx_int I.kM True.intro e (λz=>nomatch z) h
 | str y=>obtain⟨t,q⟩:=(show ∃t,u=Value.str y t from rx);cases q;exact p7 PySem.W.kitx_str I.kM True.intro e (λz=>nomatch z) h
 | Kn y=>obtain⟨t,q⟩:=(show ∃t,u=Value.float y t from rx);cases q;exact p7 PySem.W.kitx_float I.kM True.intro e (λz=>nomatch z) h
 | @lst a xs ea=>
  cases(show u=Value.ref a from rx);obtain⟨_,_,n,_,h1⟩:=(show eV X.prog X.w H s.heap a (.lst xs)from I.hok a _ ea)
  exact p7 PySem.W.kitx_list I.kM ⟨_,h1,Z⟩ e (λz=>nomatch z) h
 | @fZ a ob xs ea=>
  cases(show u=Value.ref a from rx);obtain⟨_,_,_,n,_,h1⟩:=(show eV X.prog X.w H s.heap a (.fZ ob (.lst xs))from I.hok a _ ea)
  exact p7 PySem.W.kitx_list I.kM ⟨_,h1,Z⟩ e (λz=>nomatch z) h
 | @tup a xs ea=>
  cases(show u=Value.ref a from rx);obtain⟨_,_,_,p⟩:=(show eV X.prog X.w H s.heap a (.tup xs)from I.hok a _ ea)
  obtain⟨o,h1,h2,_⟩:=p;exact p7 PySem.W.kitx_tuple I.kM ⟨o,h1,h2⟩ e (λz=>nomatch z) h
 | @dK a kvs ea=>
  cases(show u=Value.ref a from rx);obtain⟨_,_,vs,_,p⟩:=(show eV X.prog X.w H s.heap a (.dK kvs)from I.hok a _ ea)
  obtain⟨o,es,ep,h1,h2,_⟩:=p;exact p7 PySem.W.kitx_dict I.kM ⟨o,h1,h2.1⟩ e (λz=>nomatch z) h
 | @dT a kvs ea=>
  cases(show u=Value.ref a from rx);obtain⟨_,_,xs,_,o,es,ep,h1,h2,_⟩:=(show eV X.prog X.w H s.heap a (.dT kvs)from I.hok a _ ea)
  exact p7 PySem.W.kitx_dict I.kM ⟨o,h1,h2.1⟩ e (λz=>nomatch z) h
 | @ins a C dx fs ea cl ha hn htk hm=>cases(show u=Value.ref a from rx);obtain⟨mA,O,_⟩:=BF I.hok ea;obtain⟨od,J,_⟩:=O.look;exact p7 (PySem.W.kitx_own (cl.get _) cl.hd ha hn htk hm) I.kM J e (λz=>nomatch z) h
end
structure fq(k:Nat)(A:Around):Prop where
 hd:A.handled=none
 dp:A.depth+3*k+5<recursionLimit
 un:A.units+16*k+200<cLine
theorem fq.mono{k:Nat}{A:Around}(r:fq k A)(h:j<=k):fq j A:=⟨r.hd,by have:=r.dp;omega,by have:=r.un;omega⟩
theorem fq.deeper{k:Nat}{A:Around}(r:fq (k+1) A)(env:Env):fq k (A.deeper env):=⟨r.hd,by have:=r.dp;show A.depth+1+3*k+5<_;omega,by have:=r.un;show A.units+3+16*k+200<_;omega⟩
theorem QW{A:Around}:(A.under (.builtin "type.__call__" ⟨.ref C::us,kw⟩)).depth=A.depth+1:=by first|rfl|simp[Around.under,Code.weight,Code.isCreation,Code.isGuard,Code.isCaller,Code.frames,Code.isFrame,guardIds]
theorem QX{A:Around}:(A.under (.builtin "type.__call__" ⟨.ref C::us,kw⟩)).units=A.units+1:=by first|rfl|simp[Around.under,Code.cUnits,Code.frames,Code.isFrame]
theorem fq.make{k:Nat}{A:Around}(r:fq (k+1) A)(C:Addr)(us:List Value)(kw:List (Str×Value)):fq k (A.under (.builtin "type.__call__" ⟨.ref C::us,kw⟩)):=⟨r.hd,by have:=r.dp;rw[QW];omega,by have:=r.un;rw[QX];omega⟩
theorem fq.depth{k:Nat}{A:Around}(r:fq k A):A.depth<recursionLimit:=by have:=r.dp;omega
theorem fq.units{k:Nat}{A:Around}(r:fq k A):A.units+64<cLine:=by have:=r.un;omega
def rA:TA:=λ_ H Q=>Q [] H
def Ve(Q:List V->Hp->Prop)(x:V):List V->Hp->Prop:=λxs H2=>Q (x::xs) H2
def ZZ(tr:TA)(σ:St)(Q:List V->Hp->Prop):V->Hp->Prop:=λx H1=>tr σ H1 (Ve Q x)
def QY(ta:TE)(tr:TA):TA:=λσ H Q=>ta σ H (ZZ tr σ Q)
section
variable {X:Cx}{e:Expr}{es:List Expr}{te:TE}{t:TA}{pos:Pos}
inductive ac5(Q:VK)(xs:List V)(H1:Hp):Prop
 |mk(_:xs.length<=sizeLine)(_:∀p,H1 p=none->Q (.ref p) (upd H1 p (.tup xs)))
def Z0(t:TA):TE:=λσ H Q=>t σ H (ac5 Q)
inductive ac6(Q:VK)(xs:List V)(H1:Hp):Prop
 |mk(_:xs.length<=sizeLine)(_:∀p,H1 p=none->Q (.ref p) (upd H1 p (.lst xs)))
def agl(t:TA):TE:=λσ H Q=>t σ H (ac6 Q)
end
abbrev Sp:=List V->Hp->VK->XK->Prop
abbrev Ad:=List Env->Hp->Shared->XK->Value->Shared->Prop
structure CU(P:Program)(w:World)(K:Fg)(mg:SO)(base:Heap)(A:Around)(outer:List Env)(s:Shared)(H:Hp):Prop where
 frames:A.frames=some outer
 mod:Mod K mg base
 bs:∀b o,base.get? b=some o->s.heap.get? b=some o/\H b=none
 Hs:base.objs.size<=s.heap.objs.size
 tW:s.heap.FunFrames base outer
 Ks:∀b∈frs outer,H b=none
 hok:jl P w H s.heap
 bare:AllBare s.gens
def CE(outer:List Env)(P:Program)(w:World)(H:Hp)(s:Shared)(Q:VK)(u:Value)(s':Shared):Prop:=∃v H',s'.os=s.os/\AllBare s'.gens/\Un (frs outer) [] H H' s.heap s'.heap/\jl P w H' s'.heap/\RelV v u/\Q v H'
def CR(CX:Ad)(outer:List Env)(P:Program)(w:World)(H:Hp)(s:Shared)(Q:VK)(E:XK)(r:Result)(s':Shared):Prop:=match r with
 | .ok (.ret u)=>CE outer P w H s Q u s'
 | .ok _=>False
 | .error e=>CX outer H s E e s'
structure ku(P:Program)(w:World)(K:Fg)(mg:SO)(base:Heap)(CX:Ad)(k:Nat)(f:Addr)(fd:FuncData)(ps:List Str)(sp:Sp):Prop where
 len:∀vs H Q E,sp vs H Q E->vs.length=ps.length
 run:∀(A:Around)(outer:List Env)(s:Shared)(H:Hp)(args:Args)(us:List Value)(vs:List V)(Q:VK)(E:XK),fq k A->CU P w K mg base A outer s H->BindsTo s fd args (ps.zip us)->Vals vs us->sp vs H Q E->
  codeAny (model P w) A (.call (.ref f) args) (CR CX outer P w H s Q E) s
variable {mg:SO}{base:Heap}{CX:Ad}{f:Addr}{fd:FuncData}{ps:List Str}{sp:Sp}
theorem ku.imp{k:Nat}{Sh:Sp}(F:ku P w K mg base CX k f fd ps sp)(h:∀vs H Q E,Sh vs H Q E->sp vs H Q E):ku P w K mg base CX k f fd ps Sh:=
 ⟨λvs H Q E q=>F.len vs H Q E (h _ _ _ _ q),λA outer s H args us vs Q E hr he hb hv hs=>F.run A outer s H args us vs Q E hr he hb hv (h _ _ _ _ hs)⟩
theorem CU.make{A:Around}{outer:List Env}(e:CU P w K mg base A outer s H)(C:Addr)(us:List Value)(kw:List (Str×Value)):CU P w K mg base (A.under (.builtin "type.__call__" ⟨.ref C::us,kw⟩)) outer s H:=⟨by first|exact e.frames|(simpa[Around.under,Code.envs,Code.isFrame,pushEnvs]using e.frames),e.mod,e.bs,e.Hs,e.tW,e.Ks,e.hok,e.bare⟩
section
variable {X:Cx}{pins:AO}{σ:St}{H:Hp}{s s':Shared}
theorem Inv.Z1(I:Inv X pins σ H s):CU X.prog X.w X.K X.mg X.base X.A X.stack s H:=⟨I.ok.frames,I.ok.mod,I.bs,fD I.ok.Hs I.sz,I.stack,I.OZ,I.hok,I.bare⟩
theorem Inv.after(I:Inv X pins σ H s)(h:CE X.stack X.prog X.w H s Q u s'):EP X pins σ Q u s':=by obtain⟨v,H',os,bare,un,hok,r,q⟩:=h;obtain⟨hh,g,d,t,os'⟩:=s';obtain rfl:os'=s.os:=os;exact⟨v,H',I.call (h':=hh) (g':=g) (d':=d) (t':=t) (ch:=[]) un hok bare (λb z=>absurd z (by simp)),r,q⟩
end
def Z2(sp:Sp)(jn:List V)(E:XK)(Q:VK):List V->Hp->Prop:=λvs H1=>sp (vs++jn) H1 Q E
def WM(sp:Sp)(jn:List V)(E:XK)(t:TA):TE:=λσ H Q=>t σ H (Z2 sp jn E Q)
def Vf(sp:Sp)(jn:List V)(E:XK)(Q:VK)(x:V):List V->Hp->Prop:=λvs H2=>sp (x::(vs++jn)) H2 Q E
inductive Z3(C:Addr)(m:Str)(sp:Sp)(jn:List V)(E:XK)(t:TA)(σ:St)(Q:VK)(x:V)(H1:Hp):Prop
 |mk(a dx fs:_)(_:x =.ref a)(_:H1 a=some (.ins C dx fs))(_:fs.lookup m=none)(_:t σ H1 (Vf sp jn E Q x))
def J1(C:Addr)(m:Str)(sp:Sp)(jn:List V)(E:XK)(ta:TE)(t:TA):TE:=λσ H Q=>ta σ H (Z3 C m sp jn E t σ Q)
def Z4(C:Addr)(sp:Sp)(jn:List V)(E:XK)(Q:VK):List V->Hp->Prop:=λvs H1=>∀x dx,H1 x=none->H1 dx=none->dx≠x->sp (.ref x::(vs++jn)) (upd (upd H1 dx (.own x)) x (.ins C dx [])) (λv H2=>v =.cy/\Q (.ref x) H2) E
def J3(C:Addr)(sp:Sp)(jn:List V)(E:XK)(t:TA):TE:=λσ H Q=>t σ H (Z4 C sp jn E Q)
def Binds(K:Fg)(fd:FuncData)(ps:List Str)(ds:List Value):Prop:=∀(s:Shared)(us:List Value),K.In s.heap->(us++ds).length=ps.length->BindsTo s fd ⟨us,[]⟩ (ps.zip (us++ds))
theorem Binds.all(h:∀us:List Value,us.length=ps.length->bindArgs fd ⟨us,[]⟩=pure (ps.zip us)):Binds K fd ps [] :=λs us _ hl=>by rw[sf]at hl ⊢;exact .of_eq (h us hl)
def Passes(CX:Ad)(X:Cx)(E:XK):Prop:=∀(pins:AO)(σ:St)(H:Hp)(s:Shared)(e:Value)(s':Shared),Inv X pins σ H s->CX X.stack H s E e s'->X.xe e s'
variable {vs:List V}
section
variable {X:Cx}{CX:Ad}{k:Nat}{f C:Addr}{fd:FuncData}{ps:List Str}{sp:Sp}{jn:List V}{ds:List Value}{E:XK}{x m:Str}{p pos apos:Pos}{e o:Expr}{es:List Expr}{ta:TE}{t:TA}
theorem KG(F:ku X.prog X.w X.K X.mg X.base CX k f fd ps sp)(hr:fq k X.A)(hb:Binds X.K fd ps ds)(hd:Vals jn ds)(hx:Passes CX X E)(I:Inv X pins σ H s)(r:Vals vs us)(h:sp (vs++jn) H Q E):wpAny (model X.prog X.w) X.A (call (.ref f) us) (EP X pins σ Q) X.xe s:=by
 have r2:Vals (vs++jn) (us++ds):=r.append hd
 have hl:(us++ds).length=ps.length:=by rw[<-r2.length];exact F.len _ _ _ _ h
 refine wpAny_call (codeAny_mono (F.run X.A X.stack s H ⟨us,[]⟩ (us++ds) (vs++jn) Q E hr I.Z1 (hb s us I.kM hl) r2 h) λr s' hq=>?_)
 cases r with
 | error e=>exact hx pins σ H s e s' I hq
 | ok fl=>
   cases fl with
   | ret u=>exact I.after hq
   | next=>exact False.elim hq
   | brk=>exact False.elim hq
   | cont=>exact False.elim hq
theorem XT(F:ku X.prog X.w X.K X.mg X.base CX k f fd ps sp)(hr:fq k X.A)(hg:Gl X x)(hm:X.mg x=some (.ref f))(hk:PySem.W.keepIn X.K (.ref f)=true)(hb:Binds X.K fd ps ds)(hd:Vals jn ds)(hx:Passes CX X E)(ha:PA X (e::es) t)(hdb:(x==("__debug__":Str))=false:=by decide)(he:starEach (e::es) X.env=(false,eval e X.env)::starEach es X.env:=by rfl)(hpl:(backTo pos (starEach es X.env)).any (·.1)=false:=by rfl):
  PE X (.Call (.Name x p) (e::es) [] pos) (WM sp jn E t):=by
 intro pins s σ H Q I h
 refine Kf (BC I hg hm ?_ hdb)
 refine PySem.W.callWith_K (h₀:=X.base) I.ok.mod.R3 hk (bH (ha pos pins s σ H _ I h) λus s1 ⟨vs,H1,I1,r,q⟩=>⟨I1.kM,?_⟩) he hpl
 exact KG F hr hb hd hx I1 r q
theorem XU{pl:Sem Bool}(he:PE X o ta)(c:qe X.K C)(hm:Meth X.K C m f)(F:ku X.prog X.w X.K X.mg X.base CX k f fd ps sp)(hr:fq k X.A)(hb:Binds X.K fd ps ds)(hd:Vals jn ds)(hx:Passes CX X E)(ha:PA X (e::es) t)(hst:starEach (e::es) X.env=(false,eval e X.env)::starEach es X.env:=by rfl)(hpl:(backTo pos (starEach es X.env)).any (·.1)=false:=by rfl)(ht:eval (.Call (.Attribute o m apos) (e::es) [] pos) X.env=(do
    let ov <-eval o X.env
    standAt apos.atName
    let(f,first) <-holding [ov] (getMethod ov m pl)
    callWith pos f first (backTo pos (starEach (e::es) X.env)) (backToKw pos (keywordEach [] X.env))):=by rfl):
  PE X (.Call (.Attribute o m apos) (e::es) [] pos) (J1 C m sp jn E ta t):=by
 intro pins s σ H Q I h
 refine PySem.W.methodCall_KW (pl:=pl) (bH (he pins s σ H _ I h) λu s1 ⟨x,H1,I1,rx,a,dx,fs,ex,ea,l,q⟩=>?_) ht
 subst ex
 obtain rfl:u=Value.ref a:=rx
 refine DX I1 ea c hm l ?_
 refine PySem.W.callWith_K (first:=[.ref a]) (h₀:=X.base) I.ok.mod.R3 hm.kp (bH (ha pos pins s1 σ H1 _ I1 q) λus s2 ⟨vs,H2,I2,r,q2⟩=>⟨I2.kM,?_⟩) hst hpl
 exact KG (us:=.ref a::us) (vs:=.ref a::vs) F hr hb hd hx I2 (.cons rfl r) q2
theorem Vg{pl:Sem Bool}(he:PE X o ta)(c:qe X.K C)(hm:Meth X.K C m f)(F:ku X.prog X.w X.K X.mg X.base CX k f fd ps sp)(hr:fq k X.A)(hb:Binds X.K fd ps ds)(hd:Vals jn ds)(hx:Passes CX X E)(ht:eval (.Call (.Attribute o m apos) [] [] pos) X.env=(do
    let ov <-eval o X.env
    standAt apos.atName
    let(f,first) <-holding [ov] (getMethod ov m pl)
    callWith pos f first (backTo pos (starEach [] X.env)) (backToKw pos (keywordEach [] X.env))):=by rfl):
  PE X (.Call (.Attribute o m apos) [] [] pos) (J1 C m sp jn E ta rA):=by
 intro pins s σ H Q I h
 refine PySem.W.methodCall_KW (pl:=pl) (bH (he pins s σ H _ I h) λu s1 ⟨x,H1,I1,rx,a,dx,fs,ex,ea,l,q⟩=>?_) ht
 subst ex
 obtain rfl:u=Value.ref a:=rx
 refine DX I1 ea c hm l ?_
 exact PySem.W.callWith_K0 (first:=[.ref a]) I1.kM hm.kp (KG (us:=[.ref a]) (vs:=[.ref a]) F hr hb hd hx I1 (.cons rfl .nil) q)
structure Mk(K:Fg)(C f:Addr):Prop where
 makes:PySem.W.makesIn K C=true
 init:PySem.W.findIn K (.ref C) "__init__"=some (some (.ref f))
 fn:PySem.W.isFn K (.ref f)=true
 kp:PySem.W.keepIn K (.ref C)=true
theorem KH(M:Mk X.K C f)(F:ku X.prog X.w X.K X.mg X.base CX k f fd ps sp)(hr:fq (k+1) X.A)(hb:Binds X.K fd ps ds)(hd:Vals jn ds)(hx:Passes CX X E)(I:Inv X pins σ H s)(r:Vals vs us)(h:∀x dx,H x=none->H dx=none->dx≠x->sp (.ref x::(vs++jn)) (upd (upd H dx (.own x)) x (.ins C dx [])) (λv H2=>v =.cy/\Q (.ref x) H2) E):
  wpAny (model X.prog X.w) X.A (call (.ref C) us) (EP X pins σ Q) X.xe s:=by
 have hq:=h (s.heap.objs.size+1) s.heap.objs.size (I.hok.fresh (Nat.le_succ _)) (I.hok.fresh (aQ _)) (e_ (Nat.lt_succ_self _))
 have I2:=Inv.made (C:=C) I
 have r2:Vals (V.ref (s.heap.objs.size+1)::(vs++jn)) (Value.ref (s.heap.objs.size+1)::(us++ds)):=.cons rfl (r.append hd)
 have hl:(Value.ref (s.heap.objs.size+1)::us++ds).length=ps.length:=by have e:=r2.length;rw[F.len _ _ _ _ hq]at e;exact e.symm
 refine wpAny_call (Vc (f:=f) I.kM M.makes M.init (uM.mp M.fn) (codeAny_mono (F.run _ X.stack _ _ ⟨Value.ref (s.heap.objs.size+1)::us,[]⟩ (Value.ref (s.heap.objs.size+1)::(us++ds)) _ _ E (hr.make C us [])
  (I2.Z1.make C us []) (hb _ (Value.ref (s.heap.objs.size+1)::us) I2.kM hl) r2 hq) λr s' hq'=>?_))
 cases r with
 | error e=>exact hx pins σ _ _ e s' I2 hq'
 | ok fl=>
   cases fl with
   | ret u=>
     obtain⟨v,H',I3,rv,ev,q3⟩:=I2.after hq'
     subst ev
     exact⟨rv,⟨V.ref (s.heap.objs.size+1),H',I3,Z,q3⟩⟩
   | next=>exact False.elim hq'
   | brk=>exact False.elim hq'
   | cont=>exact False.elim hq'
theorem XW(M:Mk X.K C f)(F:ku X.prog X.w X.K X.mg X.base CX k f fd ps sp)(hr:fq (k+1) X.A)(hg:Gl X x)(hm:X.mg x=some (.ref C))(hb:Binds X.K fd ps ds)(hd:Vals jn ds)(hx:Passes CX X E)(ha:PA X (e::es) t)(hdb:(x==("__debug__":Str))=false:=by decide)(he:starEach (e::es) X.env=(false,eval e X.env)::starEach es X.env:=by rfl)(hpl:(backTo pos (starEach es X.env)).any (·.1)=false:=by rfl):
  PE X (.Call (.Name x p) (e::es) [] pos) (J3 C sp jn E t):=by
 intro pins s σ H Q I h
 refine Kf (BC I hg hm ?_ hdb)
 refine PySem.W.callWith_K (h₀:=X.base) I.ok.mod.R3 M.kp (bH (ha pos pins s σ H _ I h) λus s1 ⟨vs,H1,I1,r,q⟩=>⟨I1.kM,?_⟩) he hpl
 exact KH M F hr hb hd hx I1 r q
theorem Vh(M:Mk X.K C f)(F:ku X.prog X.w X.K X.mg X.base CX k f fd ps sp)(hr:fq (k+1) X.A)(hg:Gl X x)(hm:X.mg x=some (.ref C))(hb:Binds X.K fd ps ds)(hd:Vals jn ds)(hx:Passes CX X E)(hdb:(x==("__debug__":Str))=false:=by decide):PE X (.Call (.Name x p) [] [] pos) (J3 C sp jn E rA):=by
 intro pins s σ H Q I h
 refine Kf (BC I hg hm ?_ hdb)
 exact PySem.W.callWith_K0 I.kM M.kp (KH (us:=[]) M F hr hb hd hx I .nil h)
end
section
variable {X:Cx}{CX:Ad}{k:Nat}{f C:Addr}{fd:FuncData}{ps ks:List Str}{sp:Sp}{E:XK}{x m:Str}{p pos apos kpos:Pos}{e o:Expr}{es:List Expr}{kws:List Keyword}{te ta:TE}{t tk:TA}{nm:Option Str}
variable {g:List Value->List Value->List Value}{gV:List V->List V->List V}
end
structure aR(N P:List Str)(sc:Scope):Prop where
 kind:sc.kind =.function
 co:sc.isCoroutine=false
 gen:sc.isGenerator=false
 nd:N.Nodup
 pre:N.take P.length=P
 par:∀x∈P,sc.names.lookup x=some .local\/sc.names.lookup x=some .cell
 Z5:∀y∈sc.names,y.2 ≠ .free
theorem Hu{kindOf:Str->Option NameKind}{x:Str}:∀{binds:List (Str×Value)}{m:SO},(∀v,(x,v)∉binds)->bindL kindOf binds m x=m x
 | [],_,_=>rfl
 | (n,v)::r,m,h=>by
  unfold bindL;rw[Hu λw hw=>h w (cW _ hw)];split
  .have:x≠n:=by rintro rfl;exact h v cT
   simp[this]
  .rfl
theorem Hv{kindOf:Str->Option NameKind}{x:Str}:∀{binds:List (Str×Value)}{m:SO},(∀v,(x,v)∉binds)->bindC kindOf binds m x=m x
 | [],_,_=>rfl
 | (n,v)::r,m,h=>by
  unfold bindC;rw[Hv λw hw=>h w (cW _ hw)];split
  .rfl
  .have:x≠n:=by rintro rfl;exact h v cT
   simp[this]
theorem Hw{kindOf:Str->Option NameKind}{x:Str}{v:Value}:∀{P:List Str}{vs:List Value}{i:Nat}{m:SO},P.Nodup->P[i]?=some x->vs[i]?=some v->kindOf x=some .local->bindL kindOf (P.zip vs) m x=some v
 | [],_,_,_,_,h,_,_=>by simp at h
 | _::_,[],_,_,_,_,h,_=>by simp at h
 | p::P,w::vs,0,m,nd,h1,h2,hk=>by simp at h1 h2;subst h1;subst h2;show bindL kindOf ((p,w)::P.zip vs) m p=_;unfold bindL;rw[Hu λv hv=>(gK.mp nd).1 (List.of_mem_zip hv).1,av hk];simp
 | p::P,w::vs,i+1,m,nd,h1,h2,hk=>by show bindL kindOf ((p,w)::P.zip vs) m x=_;unfold bindL;exact Hw (i:=i) (gK.mp nd).2 (by simpa using h1) (by simpa using h2) hk
theorem Hx{kindOf:Str->Option NameKind}{x:Str}{v:Value}:∀{P:List Str}{vs:List Value}{i:Nat}{m:SO},P.Nodup->P[i]?=some x->vs[i]?=some v->kindOf x≠some .local->bindC kindOf (P.zip vs) m x=some v
 | [],_,_,_,_,h,_,_=>by simp at h
 | _::_,[],_,_,_,_,h,_=>by simp at h
 | p::P,w::vs,0,m,nd,h1,h2,hk=>by simp at h1 h2;subst h1;subst h2;show bindC kindOf ((p,w)::P.zip vs) m p=_;unfold bindC;rw[Hv λv hv=>(gK.mp nd).1 (List.of_mem_zip hv).1,au hk];simp
 | p::P,w::vs,i+1,m,nd,h1,h2,hk=>by show bindC kindOf ((p,w)::P.zip vs) m x=_;unfold bindC;exact Hx (i:=i) (gK.mp nd).2 (by simpa using h1) (by simpa using h2) hk
def start(N:List Str)(vs:List V):St:=vs.map some++List.replicate (N.length-vs.length) none
def tY(CX:Ad)(P:Program)(w:World)(K:Fg)(mg:SO)(base:Heap)(N:List Str)(qual:Str)(scope:Scope)(f:Addr)(cd:Value)(A:Around)(outer:List Env)(s:Shared)(H:Hp)(E:XK):Cx where
 prog:=P
 w:=w
 K:=K
 mg:=mg
 base:=base
 A:=A.deeper (envOfC qual scope s.heap.objs.size f cd)
 N:=N
 s₀:=s
 H₀:=H
 env:=envOfC qual scope s.heap.objs.size f cd
 outer:=outer
 stack:=envOfC qual scope s.heap.objs.size f cd::outer
 ex:=[]
 calm:=true
 fn:=λ_=>true
 pn:=[]
 xe:=λe s'=>wpAny (model P w) (A.deeper (envOfC qual scope s.heap.objs.size f cd)) (leaving (envOfC qual scope s.heap.objs.size f cd) e) (λ_ s''=>CX outer H s E e s'') (λe' s''=>CX outer H s E e' s'') s'
theorem KI{sc:Scope}(h:sc.names.lookup x=some .cell):∃c,(cellsFrom n sc.names []).lookup x=some c:=by have q:=PySem.W.cellsFrom_some sc.names n [] (.inl h);exact Option.isSome_iff_exists.mp q
variable {qual:Str}{scope:Scope}
theorem Si{cd:Value}{A:Around}{outer:List Env}{s1:Shared}{E:XK}(S:aR N ps scope)(hd:A.handled=none)(e0:CU P w K mg base A outer s H)(hl:vs.length=ps.length)(r:Vals vs us)(x:InCallC s s.heap.objs.size (bindL (envOfC qual scope s.heap.objs.size f cd).kindOf (ps.zip us) λ_=>none) (cellsFrom (s.heap.objs.size+1) scope.names []) (bindC (envOfC qual scope s.heap.objs.size f cd).kindOf (ps.zip us) λ_=>none) s1):
  Inv (tY CX P w K mg base N qual scope f cd A outer s H E) [] (start N vs) H s1:=by
 have hpl:ps.length<=N.length:=by have:=gR List.length S.pre;rw[nu]at this;omega
 obtain⟨h1,tk,rfl,hk⟩:=x.done
 have Sj:∀b:Addr,b∉(tY CX P w K mg base N qual scope f cd A outer s H E).ex:=λb z=>absurd (show b∈([] :List Addr)from z) (by simp)
 refine⟨⟨e0.mod,S.kind,Z,Z,aQ _,λy z c h1 h2=>?_,λy hy=>?_,λy c _ h=>?_,λ_=>hd,Around.frames_deeper e0.frames,.inr ⟨Z,Z⟩,λb z=>absurd z (Sj b),e0.bs,e0.Hs,λb _ _=>Sj b,λb z=>absurd z (Sj b),e0.tW,e0.Ks⟩,
  rfl,e0.bare,Un.kept hk,⟨_,x.toInCall.ns,λi y v h1 h2 h3=>?_⟩,λy c h=>⟨_,x.cell y c h⟩,e0.hok.fresh (aQ _),λy c h=>?_,λp hp=>absurd (show p∈([] :AO)from hp) (by simp),e0.hok.kept hk,?_⟩
 . exact name_of_addr x.apart (yl h1) (yl h2)
 . have hy:scope.names.lookup y=some .cell\/scope.names.lookup y=some .free:=hy
   rcases hy with hy|hy
   . exact KI hy
   . exact absurd rfl (S.Z5 _ (yl hy))
 . exact DO (x.above y c (yl h))
 . have hi:i<vs.length:=by
    unfold start at h2
    by_cases hi:i<vs.length
    . exact hi
    . rw[z6 (by simpa using hi)]at h2
      rw[Qz]at h2
      split at h2 <;> cases h2
   have ha:vs[i]?=some v:=by
    unfold start at h2;rw[FF (by simpa using hi),bO]at h2;cases e:vs[i]? with
    | none=>rw[e]at h2;cases h2
    | some a=>rw[e]at h2;cases h2;rfl
   obtain⟨u,hu,rv⟩:=r.get ha
   have hp:ps[i]?=some y:=by rw[<-S.pre,List.getElem?_take_of_lt (by omega)];exact h1
   have ndP:ps.Nodup:=by rw[<-S.pre];exact S.nd.sublist (List.take_sublist _ _)
   refine⟨u,rv,?_⟩
   rcases S.par y (bw hp)with k|k
   . exact .inl ⟨k,Hw ndP hp hu k⟩
   . obtain⟨c,e⟩:=KI (n:=s.heap.objs.size+1) k
     refine .inr ⟨.inl k,c,e,?_⟩
     have q:=x.cell y c e
     rw[Hx ndP hp hu (by show scope.names.lookup y≠_;rw[k];decide)]at q
     exact q
 . exact e0.hok.fresh (DO (x.above y c (yl h)))
 . unfold start
   show _=N.length
   rw[cZ,aE,i8]
   omega
variable {body:List Stmt}{doc pm cdv ct oc:Value}{an od:Option Addr}
theorem ac7{k:Nat}{name:Str}{params:Arguments}{dV kV:Value}{osl:Array (Option Value)}{N ps:List Str}{sp:Sp}(lk:K.lookup f=some ⟨oc,od,.func (PySem.W.fnOf name qual params body scope dV kV doc pm an cdv ct),osl⟩)(hcd:PySem.W.codeIn K cdv qual=true)(S:aR N ps scope)(len:∀vs H Q E,sp vs H Q E->vs.length=ps.length)(hbody:∀(A:Around) (outer:List Env) (s:Shared) (H:Hp) (vs:List V) (Q:VK) (E:XK),fq k (A.deeper (envOfC qual scope s.heap.objs.size f cdv))->sp vs H Q E->
    ∃t,wK (tY CX P w K mg base N qual scope f cdv A outer s H E) body t/\t { nx:=λ_ H'=>Q .cy H',rt:=Q } (start N vs) H):
  ku P w K mg base CX (k+1) f (PySem.W.fnOf name qual params body scope dV kV doc pm an cdv ct) ps sp:=by
 refine⟨len,λA outer s H args us vs Q E hr e0 hb r ve=>?_⟩
 have hl:=len _ _ _ _ ve
 have KX:K.In s.heap:=e0.mod.R3.keeps λb o e=>(e0.bs b o e).1
 have lim:s.heap.NoLimit:=e0.mod.nolimit.keeps λb o e=>(e0.bs b o e).1
 have hkind:∀y∈ps.zip us,scope.names.lookup y.1=some .local\/(scope.names.lookup y.1=some .cell/\((cellsFrom (s.heap.objs.size+1) scope.names []).lookup y.1).isSome=true):=λ⟨n,v⟩ hy=>by
  rcases S.par n (List.of_mem_zip hy).1 with q|q
  .exact .inl q
  .exact .inr ⟨q,PySem.W.cellsFrom_some _ _ _ (.inl q)⟩
 refine codeAny_call_function hr.depth (KX _ _ lk) rfl S.co S.gen rfl (PySem.W.codeRec_of KX hcd) (hb _ _ _ _ ?_)
 refine wpAny_newFunctionEnv_cells S.kind hkind λenv he s1 x=>?_
 subst he
 refine⟨lim.keeps x.toInCall.keep,codeAny_func ?_⟩
 obtain⟨t,ht,hq⟩:=hbody A outer s H vs Q E (hr.deeper _) ve
 have I:Inv (tY CX P w K mg base N qual scope f cdv A outer s H E) [] (start N vs) H s1:=Si S hr.hd e0 hl r x
 refine jO (ht [] s1 (start N vs) H _ I hq) (λfl s' hs=>?_) λe s' hs=>hs
 have fin:∀{σ':St}{H':Hp}{v:V}{u:Value},Inv (tY CX P w K mg base N qual scope f cdv A outer s H E) [] σ' H' s'->RelV v u->Q v H'->CE outer P w H s Q u s':=
  λ{σ' H' v u} J rv q=>⟨v,H',J.os,J.bare,J.base,J.hok,rv,q⟩
 cases fl with
 | ret u=>
   obtain⟨v,σ',H',J,rv,q⟩:=hs
   exact fin J rv q
 | next=>
   obtain⟨σ',H',J,q⟩:=hs
   exact fin (v:=V.cy) (u:=Value.none) J rfl q
 | brk=>
   obtain⟨_,_,_,q⟩:=hs
   exact False.elim q
 | cont=>
   obtain⟨_,_,_,q⟩:=hs
   exact False.elim q
section
variable {X:Cx}{x:Str}{p pos:Pos}{e:Expr}{es:List Expr}{t:TA}{id T:String}{r:List V->Hp->VK->Prop}
def agm(r:List V->Hp->VK->Prop)(Q:VK):List V->Hp->Prop:=λvs H1=>r vs H1 Q
def Z6(r:List V->Hp->VK->Prop)(t:TA):TE:=λσ H Q=>t σ H (agm r Q)
end
end L2
namespace HT
open PySem PyProof.Rows
section
open PySem.SeqAt
open PySem.AutoSeq1 (wpAny_loadPart')
open PySem.MeetsSeq PySem.MeetsSeq2 PySem.MeetsSeq3
end
section
variable {prog:Program}{w:World}{A:Around}{E:VS}{s:Shared}
end
end HT
namespace L2
open PySem PySem.Spec PyProof.Rows
variable {ns:List Int}
theorem intsAre_of:∀{us:List Value},Vals (ns.map V.int) us->IntsAre us ns:=by
 induction ns with
 | nil=>intro us r;rw[List.map_nil]at r;cases r;exact .nil
 | cons n ns ih=>
  intro us r;rw[bN]at r;cases r with
  | cons r1 r2=>obtain⟨t,e⟩:=r1;subst e;exact .cons n t (ih r2)
section
variable {X:Cx}{e:Expr}{te:TE}{lo hi:Option Expr}{tl th:TO}{pos p2:Pos}
end
def DZ(n:Nat)(i:Int):Option Nat:=if 0<=i then(if i<n then some i.toNat else none) else if -(n:Int)<=i then some (i+n).toNat else none
def lC{α:Type}(xs:List α)(i:Int):Option α:=(DZ xs.length i).bind λj=>xs[j]?
variable {n j:Nat}
theorem O5{i:Int}(h:DZ n i=some j):seqIndex? i n=some j/\j<n/\-(n:Int)<=i/\i<n:=by
 unfold DZ at h;by_cases h0:0<=i
 .rw [av h0]at h;by_cases h1:i<n
  .rw [av h1]at h;have e:i.toNat=j:=gJ h;exact⟨by rw[seqIndex_of h0 h1,e],by omega,by omega,h1⟩
  .rw [au h1]at h;cases h
 .rw [au h0]at h;by_cases h1:-(n:Int)<=i
  .rw [av h1]at h;have e:(i+n).toNat=j:=gJ h;exact⟨by rw[seqIndex_neg (by omega) h1,e],by omega,h1,by omega⟩
  .rw [au h1]at h;cases h
theorem BG{α:Type}{xs:List α}{i:Int}{v:α}(h:lC xs i=some v):∃j,seqIndex? i xs.length=some j/\xs[j]?=some v/\j<xs.length/\-(xs.length:Int)<=i/\i<xs.length:=by
 unfold lC at h;cases e:DZ xs.length i with
 | none=>rw[e]at h;cases h
 | some j=>rw[e]at h;obtain⟨h1,h2,h3,h4⟩:=O5 e;exact⟨j,h1,h,h2,h3,h4⟩
theorem aA{α:Type}{xs:List α}{v:α}(h:xs[j]?=some v):lC xs (j:Int)=some v:=by
 have hj:j<xs.length:=(di.mp h).1;have e:DZ xs.length (j:Int)=some j:=by unfold DZ;rw[av (by omega),av (by omega)];simp
 unfold lC;rw[e];exact h
def XX(b:Expr):Prop:=∀o i,subscripted b false o i=operate [o,i] (getItem o i)
def zK(X:Cx)(r:R2):Prop:=∀(value slice:Expr)(pins:AO)(s:Shared)(σ:St)(H:Hp)(x y:V)(v u:Value)(Q:VK),Inv X pins σ H s->RelV x v->RelV y u->r x y H Q->subscripted slice false v u=operate [v,u] (getItem v u)->wpAny (model X.prog X.w) X.A (subscriptTail value slice v u) (EP X pins σ Q) X.xe s
def MtR(X:Cx)(id:String)(r:V->List V->Hp->VK->Prop):Prop:=∀(pins:AO)(s:Shared)(σ:St)(H:Hp)(x:V)(xs:List V)(v:Value)(us:List Value)(Q:VK),Inv X pins σ H s->RelV x v->Vals xs us->r x xs H Q->wpAny (model X.prog X.w) X.A (call (.builtin id) (v::us)) (EP X pins σ Q) X.xe s
variable {pins:AO}{σ:St}{H:Hp}{s:Shared}{xs ys:List V}{its its':List Value}{y:V}{u:Value}
section
variable {X:Cx}{a b:Expr}{ta tb:TE}{pos:Pos}
theorem zK.or{r r':R2}(h:zK X r)(h':zK X r'):zK X (λx y H Q=>r x y H Q\/r' x y H Q):=by
 intro value slice pins s σ H x y v u Q I rx ry q hs;rcases q with q|q
 .exact h value slice pins s σ H x y v u Q I rx ry q hs
 .exact h' value slice pins s σ H x y v u Q I rx ry q hs
inductive QZ(K:Fg)(x:V)(y:V)(H:Hp)(Q:VK):Prop
 |mk(p xs i v:_)(_:x =.ref p)(_:y =.int i)(_:aB K H p xs)(_:lC xs i=some v)(_:Q v H)
inductive Q0(K:Fg)(x:V)(y:V)(H:Hp)(Q:VK):Prop
 |mk(p xs i v:_)(_:x =.ref p)(_:y =.int i)(_:cS K H p xs)(_:lC xs i=some v)(_:Q v H)
inductive Z7(x:V)(y:V)(H:Hp)(Q:VK):Prop
 |mk(z i c:_)(_:x =.str z)(_:y =.int i)(_:z.length<=sizeLine)(_:lC z.cps.toList i=some c)(_:Q (.str ⟨#[c]⟩) H)
theorem O6:zK X (QZ X.K):=by
 intro value slice pins s σ H x y v u Q I rx ry h hs;obtain⟨p,xs,i,z,rfl,rfl,hq,he,q⟩:=h;cases rx;obtain⟨t,rfl⟩:=ry;obtain⟨its,r,pl,hz⟩:=I.list hq;obtain⟨j,h1,h2,h3,h4,h5⟩:=BG he;obtain⟨w,ew,rw'⟩:=r.get h2;have hl:=r.length;have hn:=vd;have fin:EP X pins σ Q w s:=⟨z,H,I,rw',q⟩
 by_cases h0:0<=i
 .have hj:i.toNat=j:=by rw[seqIndex_of h0 h5]at h1;exact gJ h1
  exact item_listR pl.isList h0 (by omega) (by rw[hj];simpa using ew) fin hs
 .have hj:(i+(its.toArray.size:Int)).toNat=j:=by rw[seqIndex_neg (by omega) h4]at h1;rw[i9,<-hl];exact gJ h1
  exact subscriptTail_builtinR (x:=w) pl.isList.typeIs slot_list_getitem.lookup
   (wpAny_getItem_list_neg (Q:=λr s'=>r=w/\EP X pins σ Q r s') pl.isList (by omega) (by rw[i9] <;> omega) (by omega) (by rw[hj];simpa using ew) ⟨Z,fin⟩) hs
theorem Sk:zK X (Q0 X.K):=by
 intro value slice pins s σ H x y v u Q I rx ry h hs;obtain⟨p,xs,i,z,rfl,rfl,hq,he,q⟩:=h;cases rx;obtain⟨t,rfl⟩:=ry;obtain⟨its,r,pl,hz⟩:=I.tuple hq;obtain⟨j,h1,h2,h3,h4,h5⟩:=BG he;obtain⟨w,ew,rw'⟩:=r.get h2;have hl:=r.length;have hn:=vd;have fin:EP X pins σ Q w s:=⟨z,H,I,rw',q⟩
 exact subscriptTail_builtinR (x:=w) pl.typeIs slot_tuple_getitem.lookup
  (getItem_tuple (j:=j) (Q:=λr s'=>r=w/\EP X pins σ Q r s') pl (by omega) (by omega) (by rw[i9,<-hl];exact h1) (by simpa using ew) ⟨Z,fin⟩) hs
theorem Sl:zK X Z7:=by
 intro value slice pins s σ H x y v u Q I rx ry h hs;obtain⟨z,i,c,rfl,rfl,hz,he,q⟩:=h;obtain⟨t,rfl⟩:=rx;obtain⟨t',rfl⟩:=ry;obtain⟨j,h1,h2,h3,h4,h5⟩:=BG he;have hl:z.cps.toList.length=z.length:=by simp[Str.length]
 rw[hl]at h1 h4 h5;have hn:=vd;exact tail_any (typeIs_str s z t) slot_str_getitem.lookup (getItem_str (c:=c) (by have e1:decide (i < -(2 ^ 63:Int))=false:=c9 (by omega);have e2:decide (i≥2 ^ 63)=false:=c9 (by omega);rw[e1,e2,Bool.or_false]) (by rw[h1];simpa using h2) ⟨.str ⟨#[c]⟩,H,I.tok _,⟨_,Z⟩,q⟩) hs
def Z8(K:Fg):R2:=λx y H Q=>QZ K x y H Q\/Q0 K x y H Q\/Z7 x y H Q
theorem Z9:zK X (Z8 X.K):=O6.or (Sk.or Sl)
theorem Q2(its:List Value)(n j:Nat)(u:Value):Obj.mapSeq (·.setIfInBounds j u) { cls:=.type "list",data:=.seq its.toArray n }={ cls:=.type "list",data:=.seq (its.set j u).toArray n }:=by simp[Obj.mapSeq]
theorem Inv.lst{pins:AO}{σ:St}{H:Hp}{s:Shared}{p:Addr}{xs:List V}(I:Inv X pins σ H s)(h:H p=some (.lst xs)):∃(its:List Value)(n:Nat),Vals xs its/\s.heap.get? p=some { cls:=.type "list",data:=.seq its.toArray n }/\xs.length<=sizeLine:=by obtain⟨z,its,n,r,e⟩:=I.hok p _ h;exact⟨its,n,r,e,z⟩
theorem Inv.Z_{p:Addr}{n':Nat}{f:Obj->Obj}(I:Inv X pins σ H s)(h:H p=some (.lst xs))(ho:s.heap.get? p=some { cls:=.type "list",data:=.seq its.toArray n })(hf:f { cls:=.type "list",data:=.seq its.toArray n }={ cls:=.type "list",data:=.seq its'.toArray n' })(r:Vals ys its')(hz:ys.length<=sizeLine)(t:Nat):
  Inv X pins σ (upd H p (.lst ys)) { s with heap:=s.heap.update p f,toks:=t }:=by
 have e:(s.heap.update p f).get? p=some { cls:=.type "list",data:=.seq its'.toArray n' }:=by rw[CN f ho (by rw[hf] <;> rfl),hf]
 refine I.write (x:=p) (e:=p) (by rw[h];trivial) (.inl rfl) (λb u hb q=>(J_ _ _ (cu hb)).trans q) ⟨_,e⟩ ?_
 exact⟨hz,its',n',r,e⟩
inductive ac8(o:V)(i:V)(v:V)(H:Hp)(Q:Hp->Prop):Prop
 |mk(p xs k j:_)(_:o =.ref p)(_:i =.int k)(_:H p=some (.lst xs))(_:DZ xs.length k=some j)(_:Q (upd H p (.lst (xs.set j v))))
theorem set_list:U1 X ac8:=by
 intro pins s σ H o i v ov iv u Q I ro ri rv h;obtain⟨p,xs,k,j,rfl,rfl,hp,hj,q⟩:=h;cases ro;obtain⟨t,rfl⟩:=ri;obtain⟨its,n,r,ho,hz⟩:=I.lst hp;obtain⟨h1,h2,h3,h4⟩:=O5 hj;have hl:=r.length;have hn:=vd;have I':Inv X pins σ (upd H p (.lst (xs.set j v))) { s with heap:=s.heap.update p (Obj.mapSeq (·.setIfInBounds j u)) }:=
  I.Z_ hp ho (Q2 its n j u) (r.set rv j) (by rw[eZ];exact hz) s.toks
 by_cases h0:0<=k
 .have hk:k.toNat=j:=by rw[seqIndex_of h0 h4]at h1;exact gJ h1
  exact PySem.W.ki_setAt ho h0 (by omega) (by rw[i9,<-hl];exact h4) (by rw[hk];exact⟨_,I',q⟩)
 .have hk:(k+(its.toArray.size:Int)).toNat=j:=by rw[seqIndex_neg (by omega) h3]at h1;rw[i9,<-hl];exact gJ h1
  exact PySem.W.ki_setBack ho (by omega) (by rw[i9,<-hl];exact h3) (by omega) (by rw[hk];exact⟨_,I',q⟩)
def sy:V->Bool
 | .cy=>true
 | .bl _=>true
 | .int _=>true
 | .str _=>true
 | _=>false
def zL:V->V->Bool
 | .cy,.cy=>true
 | .bl a,.bl b=>a==b
 | .bl a,.int b=>(if a then 1 else 0)==b
 | .int a,.bl b=>a==(if b then 1 else 0)
 | .int a,.int b=>a==b
 | .str a,.str b=>a==b
 | _,_=>false
theorem aaa{A:Around}{x:V}{v:Value}(ry:RelV y u)(rx:RelV x v)(fy:sy y=true)(fx:sy x=true):SeqAt.EqAt A s u v (zL y x):=by
 cases y with
 | cy=>
  cases ry;cases x with
  | cy=>cases rx;exact SeqAt.EqAt.same _
  | bl b=>cases rx;exact SeqAt.EqAt.none_bool b
  | int b=>obtain⟨t,rfl⟩:=rx;exact SeqAt.EqAt.none_int b t
  | str b=>obtain⟨t,rfl⟩:=rx;exact SeqAt.EqAt.none_str b t
  | _=>exact absurd (show false=true from fx) gk
 | bl a=>
  cases ry;cases x with
  | cy=>cases rx;exact SeqAt.EqAt.bool_none a
  | bl b=>cases rx;exact SeqAt.EqAt.bool_bool a b
  | int b=>obtain⟨t,rfl⟩:=rx;exact SeqAt.EqAt.bool_int a b t
  | str b=>obtain⟨t,rfl⟩:=rx;exact SeqAt.EqAt.bool_str a b t
  | _=>exact absurd (show false=true from fx) gk
 | int a=>
  obtain⟨t',rfl⟩:=ry;cases x with
  | cy=>cases rx;exact SeqAt.EqAt.int_none a t'
  | bl b=>cases rx;exact SeqAt.EqAt.int_bool a t' b
  | int b=>obtain⟨t,rfl⟩:=rx;exact SeqAt.EqAt.int_int a t' b t
  | str b=>obtain⟨t,rfl⟩:=rx;exact SeqAt.EqAt.int_str a t' b t
  | _=>exact absurd (show false=true from fx) gk
 | str a=>
  obtain⟨t',rfl⟩:=ry;cases x with
  | cy=>cases rx;exact SeqAt.EqAt.str_none a t'
  | bl b=>cases rx;exact SeqAt.EqAt.str_bool a t' b
  | int b=>obtain⟨t,rfl⟩:=rx;exact SeqAt.EqAt.str_int a t' b t
  | str b=>obtain⟨t,rfl⟩:=rx;exact SeqAt.EqAt.str_str a t' b t
  | _=>exact absurd (show false=true from fx) gk
 | _=>exact absurd (show false=true from fy) gk
def vf(x:V)(u:Value):Bool:=match u with
 | .none=>zL .cy x
 | .bool b=>zL (.bl b) x
 | .int i _=>zL (.int i) x
 | .str z _=>zL (.str z) x
 | _=>false
theorem Sm{x:V}(r:RelV y u)(f:sy y=true):vf x u=zL y x:=by
 cases y with
 | cy=>cases r;rfl
 | bl b=>cases r;rfl
 | int i=>obtain⟨t,rfl⟩:=r;rfl
 | str z=>obtain⟨t,rfl⟩:=r;rfl
 | _=>exact absurd (show false=true from f) gk
theorem xW{x:V}:∀{xs:List V}{us:List Value},Vals xs us->xs.all sy=true->us.any (vf x)=xs.any λy=>zL y x
 | _,_,.nil,_=>rfl
 | y::xs,u::us,.cons r t,f=>by rw[List.all_cons,Bool.and_eq_true]at f;rw[DN,DN,Sm r f.1,xW t f.2]
theorem vg{A:Around}{s:Shared}{x:V}{v:Value}(rx:RelV x v)(fx:sy x=true):∀{xs:List V}{us:List Value},Vals xs us->xs.all sy=true->∀u∈us,SeqAt.EqAt A s u v (vf x u)
 | _,_,.nil,_=>λu hu=>by cases hu
 | y::xs,u::us,.cons r t,f=>λu' hu=>by
  rw[List.all_cons,Bool.and_eq_true]at f;rcases dS.mp hu with rfl|hu
  .rw [Sm r f.1];exact aaa r rx f.1 fx
  .exact vg rx fx t f.2 u' hu
def Hy(x:V)(xs:List V):Bool:=xs.any λy=>zL y x
inductive rIn(K:Fg)(neg:Bool)(x:V)(y:V)(H:Hp)(Q:VK):Prop
 |mk(p xs:_)(_:y =.ref p)(_:(aB K H p xs\/cS K H p xs))(_:sy x=true)(_:xs.all sy=true)(_:Q (.bl (if neg then !Hy x xs else Hy x xs)) H)
theorem Sn:jm X (compareOp .In) (rIn X.K false):=by
 intro pins s σ H x y v u Q I rx ry h;obtain⟨p,xs,rfl,hq,fx,fs,q⟩:=h;cases ry;rcases hq with hq|hq
 .obtain ⟨its,r,pl,hz⟩:=I.list hq;refine SeqAt.in_listAt (vf x) pl.isList (λw hw=>vg rx fx r fs w (by simpa using hw)) ⟨.bl _,H,I,Z,?_⟩;rw[show its.toArray.any (vf x)=its.any (vf x) by simp,xW r fs];exact q
 .obtain ⟨its,r,pl,hz⟩:=I.tuple hq;refine SeqAt.in_tupleAt (vf x) pl (λw hw=>vg rx fx r fs w (by simpa using hw)) ⟨.bl _,H,I,Z,?_⟩;rw[show its.toArray.any (vf x)=its.any (vf x) by simp,xW r fs];exact q
theorem KJ:jm X (compareOp .NotIn) (rIn X.K true):=by
 intro pins s σ H x y v u Q I rx ry h;obtain⟨p,xs,rfl,hq,fx,fs,q⟩:=h;cases ry;rcases hq with hq|hq
 .obtain ⟨its,r,pl,hz⟩:=I.list hq;refine SeqAt.notIn_listAt (vf x) pl.isList (λw hw=>vg rx fx r fs w (by simpa using hw)) ⟨.bl _,H,I,Z,?_⟩;rw[show its.toArray.any (vf x)=its.any (vf x) by simp,xW r fs];exact q
 .obtain ⟨its,r,pl,hz⟩:=I.tuple hq;refine SeqAt.notIn_tupleAt (vf x) pl (λw hw=>vg rx fx r fs w (by simpa using hw)) ⟨.bl _,H,I,Z,?_⟩;rw[show its.toArray.any (vf x)=its.any (vf x) by simp,xW r fs];exact q
theorem KL:iH X (.builtin "len") (λxs H Q=>∃p ys,xs=[.ref p]/\(aB X.K H p ys\/cS X.K H p ys)/\Q (.int ys.length) H):=by
 intro pins s σ H xs us Q I r h;obtain⟨p,ys,rfl,hq,q⟩:=h;obtain⟨u,rfl,rx⟩:=vals1 r;cases rx;have hn:=vd;rcases hq with hq|hq
 .obtain ⟨its,r',pl,hz⟩:=I.list hq;have hlen:=r'.length;exact Calls.call_len_list pl.isList (by simp only[i9] <;> omega) ⟨.int ys.length,H,I.tok _,⟨s.toks+1,by rw[i9,hlen]⟩,q⟩
 .obtain ⟨its,r',pl,hz⟩:=I.tuple hq;have hlen:=r'.length;exact len_tuple pl (by simp only[i9] <;> omega) ⟨.int ys.length,H,I.tok _,⟨s.toks+1,by rw[i9,hlen]⟩,q⟩
theorem KN:iH X (.builtin "len") (λxs H Q=>∃z,xs=[.str z]/\z.length<=sizeLine/\Q (.int z.length) H):=by intro pins s σ H xs us Q I r h;obtain⟨z,rfl,hz,q⟩:=h;obtain⟨u,rfl,t,rfl⟩:=vals1 r;have hn:=vd;exact len_str (by omega) ⟨.int z.length,H,I.tok _,⟨_,Z⟩,q⟩
theorem KO:iH X (.type "list") (λxs H Q=>∃p ys,xs=[.ref p]/\(aB X.K H p ys\/cS X.K H p ys)/\∀l,H l=none->Q (.ref l) (upd H l (.lst ys))):=by
 intro pins s σ H xs us Q I r h;obtain⟨p,ys,rfl,hq,q⟩:=h;obtain⟨u,rfl,rx⟩:=vals1 r;cases rx;have fin:∀(its:List Value),Vals ys its->ys.length<=sizeLine->∀(h':Heap)(c':Nat),(∀b o',s.heap.get? b=some o'->h'.get? b=some o')->
   h'.get? s.heap.objs.size=some { cls:=.type "list",dict:=none,data:=.seq its.toArray c',slots:=#[] }->EP X pins σ Q (.ref s.heap.objs.size) { s with heap:=h' }:=λits r' hz h' c' kp e=>
  ⟨.ref s.heap.objs.size,_,I.laid (t':=s.toks) kp (aQ _) (show eV X.prog X.w _ h' _ (.lst ys)from⟨hz,its,c',r',e⟩),Z,q _ (I.hok.fresh (aQ _))⟩
 rcases hq with hq|hq
 .obtain ⟨its,r',pl,hz⟩:=I.list hq;have hlen:=r'.length;obtain⟨o,ho,hc,n,hd⟩:=pl.isList;exact call_list_seq p (.inl rfl) ho hc hd (λh' c' kp e=>fin its r' hz h' c' kp e) (by simp only[i9] <;> omega)
 .obtain ⟨its,r',pl,hz⟩:=I.tuple hq;have hlen:=r'.length;obtain⟨o,ho,hc,n,hd⟩:=pl;exact call_list_seq p (.inr rfl) ho hc hd (λh' c' kp e=>fin its r' hz h' c' kp e) (by simp only[i9] <;> omega)
theorem IG:iH X (.type "tuple") (λxs H Q=>∃p ys,xs=[.ref p]/\((aB X.K H p ys/\∀l,H l=none->Q (.ref l) (upd H l (.tup ys)))\/(cS X.K H p ys/\Q (.ref p) H))):=by
 intro pins s σ H xs us Q I r h;obtain⟨p,ys,rfl,h⟩:=h;obtain⟨u,rfl,rx⟩:=vals1 r;cases rx;rcases h with⟨hq,q⟩|⟨hq,q⟩
 .obtain ⟨its,r',pl,hz⟩:=I.list hq;have hlen:=r'.length;refine call_tuple_list pl.isList (λh' kp=>?_) (by simp only[i9] <;> omega);have I1:Inv X pins σ H { s with heap:=h' }:=I.kept (t':=s.toks) kp;have I2:Inv X pins σ (upd H h'.objs.size (.tup ys)) { s with heap:=h'.push { cls:=.type "tuple",data:=.seq its.toArray } }:=
   I1.laid (t':=s.toks) (λb o e=>cK _ e) (aQ _) (show eV X.prog X.w _ _ _ (.tup ys)from⟨hz,its,r',IsTup.new _ _⟩)
  exact⟨.ref h'.objs.size,_,I2,Z,q _ (I1.hok.fresh (aQ _))⟩
 .obtain ⟨its,r',pl,hz⟩:=I.tuple hq;exact call_tuple_same pl ⟨.ref p,H,I,Z,q⟩
def tyV(K:Fg)(T:String)(x:V)(H:Hp):Prop:=match x with
 | .str _=>T = "str"
 | .int _=>T = "int"
 | .ref p=>(T = "list"/\∃xs,aB K H p xs)\/(T = "tuple"/\∃o,K.lookup p=some o/\o.cls =.type "tuple"/\o.dict=none)\/
     (T = "dict"/\((∃kvs,H p=some (.dK kvs))\/∃kvs,H p=some (.dT kvs)))\/(T = "set"/\∃S n,H p=some (.set S n))
 | _=>False
theorem aab{T:String}{x:V}{v:Value}(I:Inv X pins σ H s)(r:RelV x v)(ty:tyV X.K T x H):s.TypeIs v T/\∀a,v =.ref a->∃ob,s.heap.get? a=some ob/\ob.dict=none:=by
 cases x with
 | str z=>obtain⟨t,rfl⟩:=r;cases(show T = "str" from ty);exact⟨typeIs_str s z t,λ_ e=>nomatch e⟩
 | int i=>obtain⟨t,rfl⟩:=r;cases(show T = "int" from ty);exact⟨typeIs_int s i t,λ_ e=>nomatch e⟩
 | ref p=>
  cases r;rcases ty with⟨rfl,xs,hq⟩|⟨rfl,o,hk,hc,hd⟩|⟨rfl,hk⟩|⟨rfl,S,n,hk⟩
  .obtain ⟨its,_,pl,_⟩:=I.list hq;refine⟨pl.isList.typeIs,λa e=>?_⟩;cases e;obtain⟨o,n,e,c,hd,_⟩:=pl;exact⟨o,e,hd⟩
  .refine ⟨⟨o,I.kM p o hk,hc⟩,λa e=>?_⟩;cases e;exact⟨o,I.kM _ o hk,hd⟩
  .have z:∃o,s.heap.get? p=some o/\o.ExactDict:=by
    rcases hk with⟨kvs,hk⟩|⟨kvs,hk⟩
    .obtain ⟨_,_,_,_,o,_,_,e,ex,_⟩:=I.hok p _ hk;exact⟨o,e,ex⟩
    .obtain ⟨_,_,_,_,o,_,_,e,ex,_⟩:=I.hok p _ hk;exact⟨o,e,ex⟩
   obtain⟨o,e,ex⟩:=z;refine⟨⟨o,e,ex.1⟩,λa e2=>?_⟩;cases e2;exact⟨o,e,ex.2.1⟩
  .obtain ⟨o,_,_,_,e,ex,_⟩:=I.hok p _ hk;refine⟨⟨o,e,ex.1⟩,λa e2=>?_⟩;cases e2;exact⟨o,e,ex.2.1⟩
 | _=>exact False.elim ty
def aac(r:V->List V->Hp->VK->Prop)(Q:VK)(x:V):List V->Hp->Prop:=λxs H2=>r x xs H2 Q
inductive agn(K:Fg)(T:String)(r:V->List V->Hp->VK->Prop)(t:TA)(σ:St)(Q:VK)(x:V)(H1:Hp):Prop
 |mk(_:tyV K T x H1)(_:t σ H1 (aac r Q x))
def tBM(K:Fg)(T:String)(r:V->List V->Hp->VK->Prop)(to:TE)(t:TA):TE:=λσ H Q=>to σ H (agn K T r t σ Q)
variable {o e:Expr}{es:List Expr}{to:TE}{t:TA}{name:Str}{apos cpos:Pos}{T id:String}{r:V->List V->Hp->VK->Prop}
end
def MtM(X:Cx)(id:String)(r:V->List V->Hp->VK->Prop):Prop:=∀(pins:AO)(s:Shared)(σ:St)(H:Hp)(x:V)(xs:List V)(v:Value)(us:List Value)(Q:VK),Inv X pins σ H s->RelV x v->Vals xs us->r x xs H Q->wpAny (model X.prog X.w) X.A (call (.builtin id) (v::us)) (EP X pins σ Q) X.xe s
theorem Vals.one:∀{x:V}{us:List Value},Vals [x] us->∃u,us=[u]/\RelV x u
 | _,_,.cons r .nil=>⟨_,Z,r⟩
variable {us:List Value}
theorem Vals.reverse(h:Vals xs us):Vals xs.reverse us.reverse:=by
 induction h with
 | nil=>exact .nil
 | cons r t ih=>rw[List.reverse_cons,List.reverse_cons];exact Vals.append ih (.cons r .nil)
theorem Vals.rep{xs:List V}{us:List Value}(h:Vals xs us):∀k:Nat,Vals (List.replicate k xs).flatten (List.replicate k us).flatten
 | 0=> .nil
 | k+1=>by rw[ym,ym,QI,QI];exact Vals.append h (Vals.rep h k)
theorem foldl_rep(its:List Value):∀(k:Nat)(acc:List Value),List.foldl (λx1 x2=>x1++x2) acc.toArray (List.replicate k its.toArray)=(acc++(List.replicate k its).flatten).toArray
 | 0,acc=>by simp
 | k+1,acc=>by
  have e:acc.toArray++its.toArray=(acc++its).toArray:=by simp
  have e2:(acc++its)++(List.replicate k its).flatten=acc++(List.replicate (k+1) its).flatten:=by rw[ym,QI,Kl]
  rw[<-e2,<-foldl_rep its k (acc++its),<-e,ym,lY]
variable {t':Nat}
section
variable {X:Cx}{pins:AO}{σ:St}{H:Hp}{s:Shared}{l b:Addr}{xs ys zs:List V}
theorem Inv.ago{f:Array Value->Array Value}(I:Inv X pins σ H s)(hH:H l=some (.lst xs))(e:s.heap.get? l=some { cls:=.type "list",data:=.seq its.toArray n })(hf:f its.toArray=its'.toArray)(hv:Vals ys its')(hz:ys.length<=sizeLine):
  Inv X pins σ (upd H l (.lst ys)) { s with heap:=s.heap.update l (Obj.mapSeq f),toks:=t' }:=by
 have q:=PySem.IsL.update e f
 rw[hf]at q
 refine I.write (x:=l) (e:=l) (by rw[hH];exact trivial) (.inl rfl) (λb' u hb hu=>(J_ s.heap (Obj.mapSeq f) (cu hb)).trans hu) ⟨_,q⟩ ?_
 exact⟨hz,its',_,hv,q⟩
theorem Inv.aad(I:Inv X pins σ H s)(hv:Vals ys its)(hz:ys.length<=sizeLine):Inv X pins σ (upd H s.heap.objs.size (.lst ys)) { s with heap:=s.heap.push { cls:=.type "list",data:=.seq its.toArray },toks:=t' }:=I.laid (λ_ _ q=>cK _ q) (aQ _) ⟨hz,its,0,hv,eY _ rfl⟩
theorem Inv.fresh(I:Inv X pins σ H s):H s.heap.objs.size=none:=I.hok.fresh (aQ _)
theorem Inv.Q3(I:Inv X pins σ H s)(hH:H l=some (.lst xs)):xs.length<=sizeLine/\∃(its:List Value)(n:Nat),Vals xs its/\xs.length=its.length/\s.heap.get? l=some { cls:=.type "list",data:=.seq its.toArray n }:=by obtain⟨z,its,n,r,e⟩:=I.hok l _ hH;exact⟨z,its,n,r,r.length,e⟩
theorem Vi(h:n<=sizeLine):Builtin.List.listTooLong n=false:=by unfold Builtin.List.listTooLong;exact c9 (by omega)
end
section
variable {X:Cx}
inductive XY(x:V)(vs:List V)(H:Hp)(Q:VK):Prop
 |mk(l xs y:_)(_:x =.ref l)(_:vs=[y])(_:H l=some (.lst xs))(_:xs.length<sizeLine)(_:Q .cy (upd H l (.lst (xs++[y]))))
theorem dU:MtM X "list.append" XY:=by intro pins s σ H x vs v us Q I rx rv h;obtain⟨l,xs,y,rfl,rfl,hH,hz,q⟩:=h;cases rx;obtain⟨u,rfl,ru⟩:=rv.one;obtain⟨z,its,n,r,hl,e⟩:=I.Q3 hH;refine call_meets F.slot_list_append ⟨_,e,Z⟩ F.entry_list_append (F.args_list_append_2 _ _) (PySem.list_append l its.toArray n u (by rw[i9];omega)) ⟨e,?_⟩;refine⟨.cy,_,I.ago (its':=its++[u]) hH e (by simp) (r.append (.cons ru .nil)) ?_,Z,q⟩;rw[cZ,List.length_singleton];omega
inductive agp(x:V)(y:V)(H:Hp)(Q:VK):Prop
 |mk(l b xs zs:_)(_:x =.ref l)(_:y =.ref b)(_:H l=some (.lst xs))(_:H b=some (.lst zs))(_:xs.length+zs.length<=sizeLine)(_:∀p,H p=none->Q (.ref p) (upd H p (.lst (xs++zs))))
theorem aae:jm X (binaryOp .Add) agp:=by
 intro pins s σ H x y v u Q I rx ry h;obtain⟨l,b,xs,zs,rfl,rfl,hH,hB,hz,q⟩:=h;cases rx;cases ry;obtain⟨z,its,n,r,hl,e⟩:=I.Q3 hH;obtain⟨z2,its2,n2,r2,hl2,e2⟩:=I.Q3 hB;refine PySem.P.add_list e e2 ?_ (by rw[i9,i9];omega);have ea:its.toArray++its2.toArray=(its++its2).toArray:=by simp
 rw[ea];exact⟨.ref _,_,I.aad (t':=s.toks) (r.append r2) (by rw[cZ];omega),Z,q _ I.fresh⟩
inductive agq(x:V)(y:V)(H:Hp)(Q:VK):Prop
 |mk(l k xs:_)(_:x =.ref l)(_:y =.int k)(_:H l=some (.lst xs))(_:-(2 ^ 63)<=k)(_:k<2 ^ 63)(_:xs.length*k.toNat<=sizeLine)(_:∀p,H p=none->Q (.ref p) (upd H p (.lst (List.replicate k.toNat xs).flatten)))
theorem len_rep{α:Type}(xs:List α)(k:Nat):(List.replicate k xs).flatten.length=k*xs.length:=by
 induction k with
 | zero=>simp
 | succ k ih=>rw[ym,QI,cZ,ih,Nat.succ_mul,Nat.add_comm]
theorem So:jm X (binaryOp .Mult) agq:=by
 intro pins s σ H x y v u Q I rx ry h;obtain⟨l,k,xs,rfl,rfl,hH,h1,h2,hz,q⟩:=h;cases rx;obtain⟨t,rfl⟩:=ry;obtain⟨z,its,n,r,hl,e⟩:=I.Q3 hH;have hlen:its.toArray.size*k.toNat<=sizeLine:=by rw[i9,<-hl];exact hz
 have hcap:¬ its.toArray.size*k.toNat>(2 ^ 63-1) / 8:=by
  have:(sizeLine:Nat)<=(2 ^ 63-1) / 8:=by decide
  omega
 have hfit:¬ (!Builtin.List.listFitsIndex k)=true:=by rw[fitsIndex_both h1 h2];exact gk
 have ac9:¬ Builtin.List.listTooLong (its.toArray.size*k.toNat)=true:=by rw[Vi hlen];exact gk
 have hnew:List.foldl (λx1 x2=>x1++x2) #[] (List.replicate (if its.toArray.isEmpty=true then 0 else k.toNat) its.toArray)=(List.replicate k.toNat its).flatten.toArray:=by
  have f0:∀m:Nat,List.foldl (λx1 x2=>x1++x2) #[] (List.replicate m its.toArray)=(List.replicate m its).flatten.toArray:=λm=>by have:=foldl_rep its m [];rw[JQ]at this;exact this
  rw[f0];cases its with
  | nil=>simp
  | cons a r'=>rw[au (by simp)]
 refine wpAny_binaryOp_repeat_ref (T:="list") (U:="int") (by decide) ⟨_,e,Z⟩ (λs'=>typeIs_int s' k t) noFill_list_mul F.fills_int_mul F.slot_int_rmul repeat_list F.slot_int_index.lookup
  (call_meets F.slot_int_rmul (typeIs_int s k t) F.entry_int_rmul (F.args_int_rmul_2 _ _) (int___rmul___int_list k t l its.toArray n)
    ⟨e,Z,⟨_,e,Z⟩,call_meets F.slot_list_mul ⟨_,e,Z⟩ F.entry_list_mul (F.args_list_mul_2 _ _) (AutoListH.list___mul___list_int_3 l its.toArray n k t hfit hcap ac9) ⟨e,?_⟩⟩)
 rw[hnew];exact⟨.ref _,_,I.aad (t':=s.toks) (r.rep k.toNat) (by rw[len_rep,Nat.mul_comm];exact hz),Z,q _ I.fresh⟩
end
section
variable {prog:Program}{w:World}{A:Around}{E:VS}{s:Shared}
set_option maxRecDepth 100000 in
end
section
variable {X:Cx}
end
section
variable {κ:Type}[DecidableEq κ]
def eE(kvs:List (κ×V))(k:κ):Option V:=(kvs.find? λkv=>decide (kv.1=k)).map (·.2)
def putK(kvs:List (κ×V))(k:κ)(v:V):List (κ×V):=if(kvs.any λkv=>decide (kv.1=k))=true then kvs.map (λkv=>if kv.1=k then(kv.1,v) else kv) else kvs++[(k,v)]
def ny(kvs:List (κ×V))(k:κ):List (κ×V):=kvs.filter λkv=>decide (kv.1≠k)
theorem gU{p:κ×V}{r:List (κ×V)}{k:κ}(e:p.1=k):eE (p::r) k=some p.2:=by simp[eE,p8,e]
theorem fu{p:κ×V}{r:List (κ×V)}{k:κ}(e:¬ p.1=k):eE (p::r) k=eE r k:=by simp[eE,p8,e]
theorem rB(k:κ):∀kvs:List (κ×V),(kvs.any λkv=>decide (kv.1=k))=(eE kvs k).isSome
 | []=>rfl
 | p::r=>by
  rw[DN];by_cases e:p.1=k
  .simp only[gU e,bh e,Bool.true_or,Option.isSome_some]
  .rw [fu e,c9 e,Bool.false_or];exact rB k r
theorem KP(k j:κ)(y:V):∀kvs:List (κ×V),eE (kvs.map λkv=>if kv.1=k then(kv.1,y) else kv) j=(eE kvs j).map λx=>if j=k then y else x
 | []=>rfl
 | p::r=>by
  have ih:=KP k j y r;rw[bN];by_cases h:p.1=k
  .rw [av h];by_cases e:p.1=j
   .rw [gU (p:=(p.1,y)) e,gU e,JR,av (e.symm.trans h)]
   .rw [fu (p:=(p.1,y)) e,fu e,ih]
  .rw [au h];by_cases e:p.1=j
   .rw [gU (p:=p) e,gU e,JR,au (λz=>h (e.trans z))]
   .rw [fu (p:=p) e,fu e,ih]
theorem Hz(k j:κ)(y:V):∀kvs:List (κ×V),eE kvs k=none->eE (kvs++[(k,y)]) j=if j=k then some y else eE kvs j
 | [],_=>by
  by_cases e:k=j
  .rw [av e.symm];exact gU (p:=(k,y)) e
  .rw [au (λz=>e z.symm)];exact fu (p:=(k,y)) e
 | p::r,hn=>by
  rw[JP];have hk:¬ p.1=k:=λz=>by rw[gU z]at hn;cases hn
  rw[fu hk]at hn;have ih:=Hz k j y r hn;by_cases e:p.1=j
  .rw [gU e,gU e,au (λz=>hk (e.trans z))]
  .rw [fu e,fu e,ih]
theorem Vj(kvs:List (κ×V))(k j:κ)(y:V):eE (putK kvs k y) j=if j=k then some y else eE kvs j:=by
 unfold putK;by_cases a:(kvs.any λkv=>decide (kv.1=k))=true
 .rw [av a,KP];rw[rB]at a;by_cases e:j=k
  .obtain ⟨x,hx⟩:=Option.isSome_iff_exists.mp a;rw[av e,e,hx,JR,av rfl]
  .rw [au e];cases eE kvs j with
   | none=>rfl
   | some x=>rw[JR,au e]
 .rw [au a];refine Hz k j y kvs ?_;rw[rB]at a;cases q:eE kvs k with
  | none=>rfl
  | some x=>rw[q]at a;exact(a rfl).elim
theorem xA(kvs:List (κ×V))(k:κ)(v:V):(putK kvs k v).length<=kvs.length+1:=by
 unfold putK;split
 .rw [aE];omega
 .rw [cZ,iF,List.length_nil];omega
theorem oX{kvs:List (κ×V)}{k:κ}(v:V)(h:eE kvs k=none):putK kvs k v=kvs++[(k,v)] :=by unfold putK;rw[rB,h];exact au (by decide)
theorem nN.pS{o:Option V}{u:Option Value}(r:nN o u):o.isSome=u.isSome:=by
 cases o with
 | none=>cases u with
   | none=>rfl
   | some _=>exact(show False from r).elim
 | some _=>cases u with
   | none=>exact(show False from r).elim
   | some _=>rfl
theorem KV.val{kvs:List (κ×V)}{vs:List (κ×Value)}(r:KV kvs vs)(k:κ):nN (eE kvs k) (valueAt vs k):=by
 unfold KV at r
 induction r with
 | nil=>exact True.intro
 | @cons p q ps qs h t ih=>
  obtain⟨h1,h2⟩:=h;by_cases e:p.1=k
  .have e':q.1=k:=h1.symm.trans e;have b:valueAt (q::qs) k=some q.2:=by simp[valueAt,p8,e']
   rw[gU e,b];exact h2
  .have e':¬ q.1=k:=λz=>e (h1.trans z);have b:valueAt (q::qs) k=valueAt qs k:=by simp[valueAt,p8,e']
   rw[fu e,b];exact ih
theorem KV.any{kvs:List (κ×V)}{vs:List (κ×Value)}(r:KV kvs vs)(k:κ):(kvs.any λkv=>decide (kv.1=k))=vs.any λkv=>decide (kv.1=k):=by
 unfold KV at r
 induction r with
 | nil=>rfl
 | cons h t ih=>rw[DN,DN,ih,h.1]
theorem KV.repl{kvs:List (κ×V)}{vs:List (κ×Value)}(r:KV kvs vs)(k:κ)(ry:RelV y u):KV (kvs.map λkv=>if kv.1=k then(kv.1,y) else kv) (vs.map λkv=>if kv.1=k then(kv.1,u) else kv):=by
 unfold KV at r ⊢
 induction r with
 | nil=>exact .nil
 | @cons p q ps qs h t ih=>
  rw[bN,bN];refine .cons ?_ ih;obtain⟨h1,h2⟩:=h;by_cases e:p.1=k
  .rw [av e,av (h1.symm.trans e)];exact⟨h1,ry⟩
  .rw [au e,au (λz=>e (h1.trans z))];exact⟨h1,h2⟩
theorem KV.put{kvs:List (κ×V)}{vs:List (κ×Value)}(r:KV kvs vs)(k:κ)(ry:RelV y u):KV (putK kvs k y) (stored vs k u):=by
 unfold putK stored;rw[r.any k];by_cases e:(vs.any λkv=>decide (kv.1=k))=true
 .rw [av e,av e];exact r.repl k ry
 .rw [au e,au e];exact Paired.snoc r ⟨Z,ry⟩
theorem KV.drop{kvs:List (κ×V)}{vs:List (κ×Value)}(r:KV kvs vs)(k:κ):KV (ny kvs k) (without vs k):=by
 unfold KV at r ⊢;unfold ny without
 induction r with
 | nil=>exact .nil
 | @cons p q ps qs h t ih=>
  obtain⟨h1,h2⟩:=h;rw[gQ,gQ];by_cases e:p.1=k
  .have a:¬ decide (p.1≠k)=true:=by simp[e]
   have b:¬ decide (q.1≠k)=true:=by simp[h1.symm.trans e]
   rw[au a,au b];exact ih
  .have e':¬ q.1=k:=λz=>e (h1.trans z);have a:decide (p.1≠k)=true:=by simp[e]
   have b:decide (q.1≠k)=true:=by simp[e']
   rw[av a,av b];exact .cons ⟨h1,h2⟩ ih
theorem KV.length{kvs:List (κ×V)}{vs:List (κ×Value)}(r:KV kvs vs):kvs.length=vs.length:=Paired.length r
theorem Vk(kvs:List (κ×V))(k:κ):(ny kvs k).length<=kvs.length:=FH _ _
end
variable {P:Program}{w:World}
theorem yD{k:Key}(r:RelV (kV k) u):(dh P w).is k u=true:=by
 cases k with
 | inl i=>obtain⟨t,e⟩:=(show ∃t,u=Value.int i t from r);subst e;exact NG P w i t
 | inr x=>obtain⟨t,e⟩:=(show ∃t,u=Value.str x t from r);subst e;exact NH P w x t
theorem HB{P:Program}{w:World}:∀{ks:List Key}{us:List Value},Vals (ks.map kV) us->ItemsAre (dh P w) ks us
 | [],_,r=>by rw[List.map_nil]at r;cases r;exact .nil
 | k::ks,_,r=>by
  rw[bN]at r;cases r with
  | cons h t=>exact .cons (yD h) (HB t)
abbrev KT(H:Hp):List (List Key×V)->List (List Key×Addr×Value)->Prop:=Paired λp q=>p.1=q.1/\H q.2.1=some (.tup (p.1.map kV))/\RelV p.2 q.2.2
theorem KT.val{kvs:List (List Key×V)}{xs:List (List Key×Addr×Value)}(r:KT H kvs xs)(k:List Key):nN (eE kvs k) ((atKey xs k).map (·.2)):=by
 induction r with
 | nil=>exact True.intro
 | @cons p q ps qs h t ih=>
  obtain⟨h1,_,h2⟩:=h;by_cases e:p.1=k
  .have e':q.1=k:=h1.symm.trans e;have b:atKey (q::qs) k=some q.2:=by simp[atKey,p8,e']
   rw[gU e,b];exact h2
  .have e':¬ q.1=k:=λz=>e (h1.trans z);have b:atKey (q::qs) k=atKey qs k:=by simp[atKey,p8,e']
   rw[fu e,b];exact ih
theorem KT.repl{kvs:List (List Key×V)}{xs:List (List Key×Addr×Value)}(r:KT H kvs xs)(k:List Key)(ry:RelV y u):KT H (kvs.map λkv=>if kv.1=k then(kv.1,y) else kv) (xs.map (putAt k u)):=by
 induction r with
 | nil=>exact .nil
 | @cons p q ps qs h t ih=>
  rw[bN,bN];refine .cons ?_ ih;obtain⟨h1,h2,h3⟩:=h;unfold putAt;by_cases e:p.1=k
  .rw [av e,av (h1.symm.trans e)];exact⟨h1,h2,ry⟩
  .rw [au e,au (λz=>e (h1.trans z))];exact⟨h1,h2,h3⟩
theorem KT.put{kvs:List (List Key×V)}{xs:List (List Key×Addr×Value)}(r:KT H kvs xs)(k:List Key){b:Addr}(hb:H b=some (.tup (k.map kV)))(ry:RelV y u):KT H (putK kvs k y) (storedH xs k b u):=by
 have e:(kvs.any λkv=>decide (kv.1=k))=(atKey xs k).isSome:=by rw[rB,(r.val k).pS,Option.isSome_map]
 unfold putK storedH;rw[e];by_cases q:(atKey xs k).isSome=true
 .rw [av q,av q];exact r.repl k ry
 .rw [au q,au q];exact Paired.snoc r ⟨Z,hb,ry⟩
variable {H':Hp}
theorem KT.keeps{kvs:List (List Key×V)}{xs:List (List Key×Addr×Value)}(r:KT H kvs xs)(ht:∀b ys,H b=some (.tup ys)->H' b=some (.tup ys)):KT H' kvs xs:=Paired.UY r λ_ _ z=>⟨z.1,ht _ _ z.2.1,z.2.2⟩
variable {kvs:List (Key×V)}
section
variable {P:Program}{w:World}{H:Hp}{h:Heap}{a:Addr}
theorem WN{u:HO}(ok:jl P w H h)(e:Rd H a u):eV P w H h a u:=e.ok ok
theorem sH(ok:jl P w H h)(e:Rd H a (.dK kvs)):kvs.length<=sizeLine/\(a==sysModules)=false/\∃vs,KV kvs vs/\h.DictOf (dh P w) a vs:=
 show eV P w H h a (.dK kvs)from WN ok e
theorem D0(ok:jl P w H h)(e:H a=some (.dK kvs)):kvs.length<=sizeLine/\(a==sysModules)=false/\∃vs,KV kvs vs/\h.DictOf (dh P w) a vs:=sH ok (.inl e)
theorem Ae{ks:List Key}(ok:jl P w H h)(e:H a=some (.tup (ks.map kV))):(tupleKind (dh P w)).is h ks a:=by
 obtain⟨_,its,r,o,h1,h2,n,h3⟩:=(show eV P w H h a (.tup (ks.map kV))from ok a _ e)
 exact⟨o,its.toArray,n,h1,h2,h3,by simpa using HB r⟩
theorem BH{kvs:List (List Key×V)}(ok:jl P w H h)(e:Rd H a (.dT kvs)):kvs.length<=sizeLine/\(a==sysModules)=false/\∃xs,KT H kvs xs/\h.DictOfH (tupleKind (dh P w)) a xs:=by
 obtain⟨z,y,xs,r,o,es,ep,h1,h2,h3,h4,h5⟩:=(show eV P w H h a (.dT kvs)from WN ok e)
 refine⟨z,y,xs,r,o,es,ep,h1,h2,h3,h4,λx hx=>?_,h5⟩;have all:∀{l:List (List Key×V)}{m:List (List Key×Addr×Value)},KT H l m->∀x∈m,(tupleKind (dh P w)).is h x.1 x.2.1:=by
  intro l m q
  induction q with
  | nil=>intro x hx;exact nomatch hx
  | @cons p q ps qs hq t ih=>
   intro x hx;rcases dS.mp hx with e|hx
   .subst e;exact Ae ok (by rw[<-hq.1];exact hq.2.1)
   .exact ih x hx
 exact all r x hx
theorem ac_{kvs:List (List Key×V)}(ok:jl P w H h)(e:H a=some (.dT kvs)):kvs.length<=sizeLine/\(a==sysModules)=false/\∃xs,KT H kvs xs/\h.DictOfH (tupleKind (dh P w)) a xs:=BH ok (.inl e)
end
def cC(H:Hp)(a:Addr)(y:V)(r:Option V):Prop:=(∃kvs k,Rd H a (.dK kvs)/\y=kV k/\r=eE kvs k)\/∃kvs k b,Rd H a (.dT kvs)/\y =.ref b/\H b=some (.tup (k.map kV))/\r=eE kvs k
def tZ(H:Hp)(a:Addr)(y v:V)(H':Hp):Prop:=(∃kvs k,H a=some (.dK kvs)/\y=kV k/\kvs.length<sizeLine/\H'=upd H a (.dK (putK kvs k v)))\/
 ∃kvs k b,H a=some (.dT kvs)/\y =.ref b/\H b=some (.tup (k.map kV))/\kvs.length<sizeLine/\H'=upd H a (.dT (putK kvs k v))
variable {a:Addr}
theorem cC.k{k:Key}(e:H a=some (.dK kvs)):cC H a (kV k) (eE kvs k):=.inl ⟨kvs,k,.inl e,Z,Z⟩
theorem tZ.k{k:Key}{v:V}(e:H a=some (.dK kvs))(hl:kvs.length<sizeLine):tZ H a (kV k) v (upd H a (.dK (putK kvs k v))):=.inl ⟨kvs,k,e,Z,hl,Z⟩
section
variable {X:Cx}{pins:AO}{σ:St}{H:Hp}{s:Shared}{a:Addr}{y v:V}{u r:Value}{o:Option V}{A:Around}{E:VS}
theorem Inv.big(I:Inv X pins σ H s):sysModules<s.heap.objs.size:=by have h:mainGlobals<s.heap.objs.size:=(I.mod.glob.keeps I.bk).lt;exact Nat.lt_trans (by decide) h
theorem Ss{Q:VS}(hu:A.units+1<cLine)(I:Inv X pins σ H s)(g:cC H a y (some v))(ry:RelV y u)(h:∀w' s',Inv X pins σ H s'->RelV v w'->Q w' s'):wpAny (model X.prog X.w) A (getItem (.ref a) u) Q E s:=by
 rcases g with⟨kvs,k,e,ey,l⟩|⟨kvs,k,b,e,ey,eb,l⟩
 .subst ey;obtain⟨z,hd,vs,rel,dd⟩:=sH I.hok e;obtain⟨w',hw,rw'⟩:=nN.some_of (v:=v) (o:=valueAt vs k) (by rw[l];exact rel.val k);exact wpAny_getItem_of (yD ry) dd.mapOf hw (h w' _ (I.tok _) rw')
 .subst ey;cases(show u=Value.ref b from ry);obtain⟨z,hd,xs,rel,dd⟩:=BH I.hok e;obtain⟨w',hw,rw'⟩:=nN.some_of (v:=v) (o:=(atKey xs k).map (·.2)) (by rw[l];exact rel.val k);obtain⟨p,hp,hp2⟩:=lQ.mp hw;refine wpAny_getItem_heap (QF hu) (Ae I.hok eb) dd hp ?_;rw[hp2];exact h w' _ (I.tok _) rw'
theorem agr{Q:VS}(hu:A.units+1<cLine)(I:Inv X pins σ H s)(g:cC H a y o)(ry:RelV y u)(h:∀s',Inv X pins σ H s'->Q (.bool o.isSome) s'):wpAny (model X.prog X.w) A (compareOp .In u (.ref a)) Q E s:=by
 rcases g with⟨kvs,k,e,ey,l⟩|⟨kvs,k,b,e,ey,eb,l⟩
 .subst ey;obtain⟨z,hd,vs,rel,dd⟩:=sH I.hok e;refine wpAny_in_of (yD ry) hd dd.mapOf ?_;rw[<-(rel.val k).pS,<-l];exact h _ (I.tok _)
 .subst ey;cases(show u=Value.ref b from ry);obtain⟨z,hd,xs,rel,dd⟩:=BH I.hok e;refine wpAny_in_heap (QF hu) (Ae I.hok eb) hd dd ?_;have q:=(rel.val k).pS;rw[Option.isSome_map]at q;rw[<-q,<-l];exact h _ (I.tok _)
theorem XZ{Q:VS}(hu:A.units+1<cLine)(I:Inv X pins σ H s)(g:cC H a y o)(ry:RelV y u)(h:∀s',Inv X pins σ H s'->Q (.bool (!o.isSome)) s'):wpAny (model X.prog X.w) A (compareOp .NotIn u (.ref a)) Q E s:=by
 rcases g with⟨kvs,k,e,ey,l⟩|⟨kvs,k,b,e,ey,eb,l⟩
 .subst ey;obtain⟨z,hd,vs,rel,dd⟩:=sH I.hok e;refine wpAny_notIn_of (yD ry) hd dd.mapOf ?_;rw[<-(rel.val k).pS,<-l];exact h _ (I.tok _)
 .subst ey;cases(show u=Value.ref b from ry);obtain⟨z,hd,xs,rel,dd⟩:=BH I.hok e;refine wpAny_notIn_heap (QF hu) (Ae I.hok eb) hd dd ?_;have q:=(rel.val k).pS;rw[Option.isSome_map]at q;rw[<-q,<-l];exact h _ (I.tok _)
theorem BI(I:Inv X pins σ H s)(mu:R0 (H a))(hs:Heap.SameBut a s.heap h')(he:∃q,h'.get? a=some q)(new:eV X.prog X.w (upd H a ob) h' a ob):Inv X pins σ (upd H a ob) { s with heap:=h',toks:=t' }:=I.write (x:=a) (e:=a) mu (.inl rfl) (λb q hb z=>(hs.2 b hb).trans z) he new
theorem KQ{h':Heap}{vs:List (Key×Value)}(z:kvs.length<=sizeLine)(hd:(a==sysModules)=false)(rel:KV kvs vs)(dd:h'.DictOf (dh P w) a vs):eV P w H' h' a (.dK kvs):=⟨z,hd,vs,rel,dd⟩
theorem Su{Q:Unit->Shared->Prop}(hu:A.units+1<cLine)(I:Inv X pins σ H s)(g:tZ H a y v H')(ry:RelV y u)(rv:RelV v r)(h:∀s',Inv X pins σ H' s'->Q () s'):wpAny (model X.prog X.w) A (setItem (.ref a) u r) Q E s:=by
 rcases g with⟨kvs,k,e,ey,l,eH⟩|⟨kvs,k,b,e,ey,eb,l,eH⟩
 .subst ey eH;obtain⟨z,hd,vs,rel,dd⟩:=D0 I.hok e;have hz:vs.length<=sizeLine:=by rw[<-rel.length];exact z
  have hl:(putK kvs k v).length<=sizeLine:=by have:=xA kvs k v;omega
  refine wpAny_setItem_pairs (hsz:=hz) (yD ry) dd λh' Cu hs=>h _ ?_;have he:∃q,h'.get? a=some q:=let⟨q,_,_,hq,_⟩:=Cu;⟨q,hq⟩;exact BI I (by rw[e];exact True.intro) hs he (KQ hl hd (rel.put k rv) Cu)
 .subst ey eH;cases(show u=Value.ref b from ry);obtain⟨z,hd,xs,rel,dd⟩:=ac_ I.hok e;have hz:xs.length<=sizeLine:=by rw[<-Paired.length rel];exact z
  have hl:(putK kvs k v).length<=sizeLine:=by have:=xA kvs k v;omega
  refine wpAny_setItem_heap (hsz:=hz) (QF hu) (Ae I.hok eb) dd λh' Cu hs=>h _ ?_;obtain⟨q,es,ep,hq,h2,h3,h4,_,h5⟩:=Cu;refine BI I (by rw[e];exact True.intro) hs ⟨q,hq⟩ ⟨hl,hd,_,(rel.put k eb rv).keeps λc ys ec=>?_,q,es,ep,hq,h2,h3,h4,h5⟩;rw[az (jD ec e (λz=>nomatch z))];exact ec
end
section
variable {X:Cx}{pins:AO}{σ:St}{H:Hp}{s:Shared}{a:Addr}{kvs:List (Key×V)}{k:Key}{u:Value}{A:Around}{E:VS}
theorem Sv{Q:Unit->Shared->Prop}(I:Inv X pins σ H s)(e:H a=some (.dK kvs))(ry:RelV (kV k) u)(l:(eE kvs k).isSome=true)(h:∀s',Inv X pins σ (upd H a (.dK (ny kvs k))) s'->Q () s'):wpAny (model X.prog X.w) A (delItem (.ref a) u) Q E s:=by
 obtain⟨z,hd,vs,rel,dd⟩:=D0 I.hok e;refine wpAny_delItem_slot dd.typeIs (by decide) PySem.F.slot_dict_delitem
  (call_meetsIn PySem.F.slot_dict_delitem dd.typeIs PySem.F.entry_dict_delitem (PySem.F.args_dict_delitem_2 _ _) (meets_dict_delitem_pairs (dh X.prog X.w) a (yD ry)) ⟨vs,dd,by rw[<-rel.length];exact z,by rw[<-(rel.val k).pS];exact l,λh' Cu hs=>h _ ?_⟩)
 have he:∃q,h'.get? a=some q:=let⟨q,_,_,hq,_⟩:=Cu;⟨q,hq⟩;exact BI I (by rw[e];exact True.intro) hs he (KQ (fD (Vk kvs k) z) hd (rel.drop k) Cu)
theorem ada{Q:VS}(I:Inv X pins σ H s)(e:Rd H a (.dK kvs))(h:∀t s',Inv X pins σ H s'->Q (.int kvs.length t) s'):wpAny (model X.prog X.w) A (call (.builtin "len") [.ref a]) Q E s:=by obtain⟨z,hd,vs,rel,dd⟩:=sH I.hok e;refine call_len_dict hd dd (by rw[<-rel.length];rw[l9]at z;omega) ?_;rw[<-rel.length];exact h _ _ (I.tok _)
end
def aaf(i:Expr):Prop:=∀ov iv,subscripted i false ov iv=operate [ov,iv] (getItem ov iv)
variable {E:VS}{env:Env}{value:Expr}{pos:Pos}
theorem X0{prog:Program}{A:Around}{slice:Expr}{T id:String}{Q:VS}(hl:typeLookup (.type T) "__getitem__"=pure (some (.builtin id)))(hs:aaf slice)(h:wpAny (model prog w) A (eval value env) (λo s₁=>wpAny (model prog w) A (eval slice env) (λi s₂=>s₂.TypeIs o T/\wpAny (model prog w) A (getItem o i) Q E s₂) E s₁) E s):
  wpAny (model prog w) A (eval (.Subscript value slice pos) env) Q E s:=by
 refine Subscript_ (jO h (λo s₁ h₁=>jO h₁ (λi s₂ h₂=>?_) λ_ _ x=>x) λ_ _ x=>x)
 obtain⟨hT,h₂⟩:=h₂
 unfold subscriptTail
 refine ay ?_
 rw[getitemInPython_of_ne hT.not_modules]
 refine ay (wpAny_specialOf hT hl ?_)
 have fin:wpAny (model prog w) A (subscripted slice false o i) (λr s₃=>wpAny (model prog w) A (letTemporaryGo value o r >>= λ_=>pure r) Q E s₃) E s₂:=by rw[hs o i];exact wpAny_operating (jO h₂ (λr s₃ h₃=>ay (wpAny_letTemporaryGo (bg h₃))) λ_ _ x=>x)
 first
  | exact bg (ay fin)
  | exact ay (bg (ay fin))
  | exact ay fin
variable {X:Cx}
theorem NI{o:Option V}(I:Inv X pins σ H s)(g:cC H a y o):s.TypeIs (.ref a) "dict":=by
 rcases g with⟨kvs,k,e,_,_⟩|⟨kvs,k,b,e,_,_,_⟩
 .obtain ⟨_,_,vs,_,dd⟩:=sH I.hok e;exact dd.typeIs
 .obtain ⟨_,_,xs,_,dd⟩:=BH I.hok e;exact dd.typeIs
inductive Vl(Q:VK)(x:V)(y:V)(H2:Hp):Prop
 |mk(a v:_)(_:x =.ref a)(_:cC H2 a y (some v))(_:Q v H2)
def aag(ty:TE)(σ:St)(Q:VK):V->Hp->Prop:=λx H1=>ty σ H1 (Vl Q x)
def Q5(td ty:TE):TE:=λσ H Q=>td σ H (aag ty σ Q)
inductive X3(Q:VK)(y:V)(x:V)(H2:Hp):Prop
 |mk(a o:_)(_:x =.ref a)(_:cC H2 a y o)(_:Q (.bl o.isSome) H2)
def adb(td:TE)(σ:St)(Q:VK):V->Hp->Prop:=λy H1=>td σ H1 (X3 Q y)
def ags(ty td:TE):TE:=λσ H Q=>ty σ H (adb td σ Q)
inductive Q6(Q:VK)(y:V)(x:V)(H2:Hp):Prop
 |mk(a o:_)(_:x =.ref a)(_:cC H2 a y o)(_:Q (.bl (!o.isSome)) H2)
def Vm(td:TE)(σ:St)(Q:VK):V->Hp->Prop:=λy H1=>td σ H1 (Q6 Q y)
def X4(ty td:TE):TE:=λσ H Q=>ty σ H (Vm td σ Q)
inductive Vn(D:Ends)(σ:St)(v:V)(x:V)(y:V)(H3:Hp):Prop
 |mk(a H4:_)(_:x =.ref a)(_:tZ H3 a y v H4)(_:D.nx σ H4)
def Vo(ty:TE)(D:Ends)(σ:St)(v:V):V->Hp->Prop:=λx H2=>ty σ H2 (Vn D σ v x)
def aah(td:TE)(ty:TE)(D:Ends)(σ:St):V->Hp->Prop:=λv H1=>td σ H1 (Vo ty D σ v)
def ade(td ty tv:TE):TS:=λD σ H=>tv σ H (aah td ty D σ)
inductive Vp(D:Ends)(σ:St)(x:V)(y:V)(H2:Hp):Prop
 |mk(a kvs k:_)(_:x =.ref a)(_:H2 a=some (.dK kvs))(_:y=kV k)(_:(eE kvs k).isSome=true)(_:D.nx σ (upd H2 a (.dK (ny kvs k))))
def aai(ty:TE)(D:Ends)(σ:St):V->Hp->Prop:=λx H1=>ty σ H1 (Vp D σ x)
def adf(td ty:TE):TS:=λD σ H=>td σ H (aai ty D σ)
section
variable {X:Cx}{o i e value:Expr}{pos pos' tpos:Pos}{td ty tv:TE}
end
theorem KR(h:Heap)(hb:sysModules<h.objs.size):eV P w H (h.push { cls:=.type "dict",data:=.dict #[] }) h.objs.size (.dK []):=⟨gh _,FJ.mpr (cu (e_ hb)),[],.nil,Heap.DictOf.new h⟩
def aaj:TE:=λ_ H Q=>∀p,H p=none->Q (.ref p) (upd H p (.dK []))
section
variable {X:Cx}{pos:Pos}
end
def Af:List (TE×TE)->St->Hp->(List (V×V)->Hp->Prop)->Prop
 | [],_,H,Q=>Q [] H
 | (tk,tv)::r,σ,H,Q=>tk σ H λx H1=>tv σ H1 λy H2=>Af r σ H2 λps H3=>Q ((x,y)::ps) H3
abbrev VV:List (V×V)->List (Value×Value)->Prop:=Paired λp q=>RelV p.1 q.1/\RelV p.2 q.2
def PPs(X:Cx)(pos:Pos)(keys:List (Option Expr))(values:List Expr)(D3:List (TE×TE)):Prop:=∀(pins:AO)(s:Shared)(σ:St)(H:Hp)(Q:List (V×V)->Hp->Prop),Inv X pins σ H s->Af D3 σ H Q->wpAny (model X.prog X.w) X.A (evalPairs (pairTrees keys values X.env pos)) (λvs s'=>∃ps H',Inv X pins σ H' s'/\VV ps vs/\Q ps H') X.xe s
def xX(kvs more:List (Key×V)):List (Key×V):=more.foldl (λacc kv=>putK acc kv.1 kv.2) kvs
theorem KV.merge:∀{more:List (Key×V)}{rs:List (Key×Value)}{kvs:List (Key×V)}{vs:List (Key×Value)},KV more rs->KV kvs vs->KV (xX kvs more) (merged vs rs):=by
 intro more rs kvs vs r;unfold KV at r
 induction r generalizing kvs vs with
 | nil=>intro q;exact q
 | @cons p q ps qs h t ih=>
  intro r0;have e:KV (putK kvs p.1 p.2) (stored vs q.1 q.2):=by have:=r0.put p.1 h.2;rw[<-h.1];exact this
  exact ih e
theorem zM:∀(more kvs:List (Key×V)),(xX kvs more).length<=kvs.length+more.length
 | [],kvs=>by show kvs.length<=kvs.length+0;omega
 | p::r,kvs=>by have h1:=zM r (putK kvs p.1 p.2);have h2:=xA kvs p.1 p.2;show(xX (putK kvs p.1 p.2) r).length<=_;rw[iF];omega
theorem D4{P:Program}{w:World}:∀{kvs:List (Key×V)}{ws:List (Value×Value)},VV (kvs.map λkv=>(kV kv.1,kv.2)) ws->∃rs,Carries (dh P w) ws rs/\KV kvs rs
 | [],_,r=>by rw[List.map_nil]at r;cases r;exact⟨[],True.intro,.nil⟩
 | p::kvs,_,r=>by
  rw[bN]at r;cases r with
  | @cons a b as bs h t=>obtain⟨rs,c,q⟩:=D4 (P:=P) (w:=w) t;obtain⟨b1,b2⟩:=b;exact⟨(p.1,b2)::rs,⟨yD h.1,Z,c⟩,.cons ⟨Z,h.2⟩ q⟩
def adg(D3:List (TE×TE)):TE:=λσ H Q=>∀p,H p=none->Af D3 σ (upd H p (.dK [])) λps H2=>H2 p=some (.dK [])/\∃kvs:List (Key×V),ps=kvs.map (λkv=>(kV kv.1,kv.2))/\kvs.length<=15/\Q (.ref p) (upd H2 p (.dK (xX [] kvs)))
def IsD(H:Hp)(a:Addr):Prop:=(∃kvs,Rd H a (.dK kvs))\/∃kvs,Rd H a (.dT kvs)
theorem KS(I:Inv X pins σ H s)(d:IsD H a):s.TypeIs (.ref a) "dict"/\(∀b,Value.ref a =.ref b->∃ob,s.heap.get? b=some ob/\ob.dict=none)/\(a==sysModules)=false:=by
 rcases d with⟨kvs,e⟩|⟨kvs,e⟩
 .obtain ⟨_,hd,vs,_,dd⟩:=sH I.hok e;refine⟨dd.typeIs,λb q=>?_,hd⟩;cases q;obtain⟨ob,_,_,h1,h2,_⟩:=dd;exact⟨ob,h1,h2.2.1⟩
 .obtain ⟨_,hd,xs,_,dd⟩:=BH I.hok e;refine⟨dd.typeIs,λb q=>?_,hd⟩;cases q;obtain⟨ob,_,_,h1,h2,_⟩:=dd;exact⟨ob,h1,h2.2.1⟩
section
variable {X:Cx}{pins:AO}{σ:St}{H:Hp}{s:Shared}{a:Addr}{y d:V}{u r:Value}{o:Option V}{A:Around}{E:VS}
end
section
variable {X:Cx}{o e f:Expr}{apos cpos:Pos}{td ty tx:TE}
end
section
variable {X:Cx}{pins:AO}{σ:St}{H:Hp}{s:Shared}{a:Addr}{kvs:List (Key×V)}{A:Around}{E:VS}
end
section
variable {X:Cx}{pins:AO}{σ:St}{H:Hp}{s:Shared}{a:Addr}{y:V}{u:Value}{A:Around}{E:VS}
end
end L2
namespace Att
open PySem PySem.W PySem.Calls PyProof.Rows
theorem D5{P:Params}{h:Heap}:∀(ns:List Int)(vs:List Value),WellAll P h vs (ns.map WData.int)->IntsAre vs ns:=by
 intro ns
 induction ns with
 | nil=>intro vs w;rw[List.map_nil]at w;cases w;exact .nil
 | cons n ns ih=>
  intro vs w;rw[bN]at w;cases w with
  | cons a b=>cases a;exact .cons _ _ (ih _ b)
theorem Sw{l:OpenLaw}{n:Nat}(hn:l.most=some n){P:Params}{h:Heap}{args:List WData}{vals:List Value}(hpre:l.row.toRowW.claim.pre args=true)(hwl:WellAll P h vals args):
  ∃a vs ns,vals=[Value.ref a]/\args=[WData.list (ns.map WData.int)]/\h.get? a=some { cls:=.type "list",data:=.seq vs.toArray }/\IntsAre vs ns/\ns.length<=n:=by
 have hsh:WShape.hasAll [] args [.list .int]=true:=(pre_splitW hpre).1
 have hc:l.pre.holds [] { args:=args }=true:=(pre_splitW hpre).2
 obtain⟨d,r,rfl,h1,h2⟩:=hasAllW_cons hsh
 obtain rfl:=hasAllW_nil h2
 obtain⟨xs,rfl,h3⟩:=hasW_list h1
 obtain⟨ns,rfl⟩:=items_int h3
 have hlen:ns.length<=n:=by
  unfold OpenLaw.pre at hc;have h4:(WTm.not (.lt (.lit (.int (n:Int))) (.len (.arg 0)))).holds [] { args:=[.list (ns.map .int)] }=true:=by have h4:=(holds_andW hc).1;rw[hn]at h4;exact h4
  have h5:=condW_of h4 (w_not (w_lt w_lit (w_len_list (w_arg rfl))));rw[aE]at h5;refine Nat.le_of_not_lt λq=>?_;have q':(n:Int)<((ns.length:Nat):Int):=by omega
  first
   | (rw[bh q']at h5;exact absurd h5 (by decide))
   | (simp at h5;omega)
 cases hwl with
 | cons w1 w2=>
   cases w2
   cases w1 with
   | list ho hall=>exact⟨_,_,ns,Z,Z,ho,D5 ns _ hall,hlen⟩
theorem Sx(l:OpenLaw)(args:List WData):l.row.toRowW.claim.post args (.bool true) args=true:=postW_of (r:=l.row.toRowW) (X:=(true==true))
  (show WShape.has [] (.bool true) .bool=true by first|rfl|decide|simp[WShape.has,WShape.arms,WShape.armsAll])
  (show(WTm.eq .res (.lit (.bool true))).value [] { args:=args,res:=some (.bool true),after:=args }=some (.bool (true==true))from w_eq_bool (w_res rfl) w_lit) rfl
theorem NJ{l:OpenLaw}{n:Nat}{q:Program}{loose:List Str}{XP:(Str->Option Value)->Heap->Prop}{YP:World->Heap->Prop}{d:DefRec}(hn:l.most=some n)(hdf:d.params.defaults=[])(call:∀(w:World) (s₀ s₁:Shared) (mg mb:SO) (fa:Addr) (o:Obj) (pm cd doc:Value) (a:Addr) (vs:List Value) (ns:List Int),
    Ground q loose [] XP w s₀ mg mb s₁.heap->YP w s₁.heap->
    s₁.heap.get? fa=some o->o.data =.func (docDef d.name d.params d.body d.scope pm cd doc)->s₁.heap.CodeRec cd d.name->mg d.name=some (.ref fa)->
    s₁.heap.get? a=some { cls:=.type "list",data:=.seq vs.toArray }->IntsAre vs ns->ns.length<=n->s₁.gens=#[]->
    codeAny (model l.prog w) callerA (.call (.ref fa) ⟨[.ref a],[]⟩) (λr s'=>r =.ok (.ret (.bool true))/\OldK s₁.heap s'.heap/\s'.os=s₁.os/\AllBare s'.gens) s₁):
  WalkO q loose XP YP l.row.toRowW d [] (λf vs=>PySem.call f vs):=by
 intro w s₀ s₁ mg mb G Y fa o pm cd doc dV kV ho hd hcd hD hmg hg args vals as hpre hlay hrd hwl hlo
 obtain rfl:dV =.none:=Dflts.none hD hdf
 obtain rfl:kV =.none:=Dflts.noKw hD
 obtain⟨a,vs,ns,rfl,rfl,hobj,hints,hlen⟩:=Sw hn hpre hwl
 refine enter_call (codeAny_mono (call w s₀ s₁ mg mb fa o pm cd doc a vs ns G Y ho (fd_plain hd) hcd hmg hobj hints hlen hg) λr s' hq=>?_)
 obtain⟨rfl,h2,h3,h4⟩:=hq
 exact⟨.inl ⟨.bool true,.bool true,[],Z,λ_=>rfl,.bool true,Sx l _,λ_=>⟨List.Pairwise.nil,λ_ hm=>(nomatch hm)⟩⟩,h2,h3,h4⟩
section
variable {prog:Program}{w:World}{A:Around}{E:VS}{s:Shared}{K:Frag}
end
end Att
namespace L2
open PySem PySem.Spec PyProof.Rows
theorem HC:∀{vs:List Value}{ns:List Int},IntsAre vs ns->Vals (ns.map V.int) vs
 | _,_,.nil=> .nil
 | _,_,.cons n t h=> .cons ⟨t,Z⟩ (HC h)
def Vq(H:Hp):Prop:=∀b,H b=none\/∃o xs,H b=some (.fZ o (.lst xs))
variable {P:Program}{w:World}{K:Fg}{mg:SO}{CX:Ad}{a:Addr}{fd:FuncData}{x:Str}{sp:Sp}{ns:List Int}
theorem Vr{mb:SO}{k:Nat}{fa:Addr}{s₁:Shared}{vs:List Value}(KX:K.In s₁.heap)(hns:s₁.heap.Ns mainGlobals mg)(hb:s₁.heap.Ns builtinsNs mb)(hbb:∀x:Str,x ≠ "__name__"->mb x=bootBuiltins x)(hlim:s₁.heap.NoLimit)(hg:s₁.gens=#[])(ha:s₁.heap.get? a=some { cls:=.type "list",data:=.seq vs.toArray })(hi:IntsAre vs ns)(hl:ns.length<=sizeLine)(hr:fq k callerA)(F:∀base:Heap,K.In base->base.Ns mainGlobals mg->ku P w K mg base CX k fa fd [x] sp)(hbind:∀(s:Shared) (u:Value),BindsTo s fd ⟨[u],[]⟩ [(x,u)])(ve:∀H:Hp,Vq H->aB K H a (ns.map V.int)->sp [.ref a] H (λv _=>v =.bl true) λ_ _ _=>False)(hCX:∀H e s',CX [] H s₁ (λ_ _ _=>False) e s'->False):
  codeAny (model P w) callerA (.call (.ref fa) ⟨[.ref a],[]⟩) (λr s'=>r =.ok (.ret (.bool true))/\OldK s₁.heap s'.heap/\s'.os=s₁.os/\AllBare s'.gens) s₁:=by
 have rv:=HC hi
 have agt:=hi.length
 have core:∀H:Hp,Vq H->aB K H a (ns.map V.int)->jl P w H s₁.heap->(∀b,H b≠none->b=a)->(H a≠none->K.lookup a=none)->
   codeAny (model P w) callerA (.call (.ref fa) ⟨[.ref a],[]⟩) (λr s'=>r =.ok (.ret (.bool true))/\OldK s₁.heap s'.heap/\s'.os=s₁.os/\AllBare s'.gens) s₁:=by
  intro H hO hS hok hA hK
  have O7:∀{b:Addr}{o:Obj},s₁.heap.get? b=some o->H b=none->(yz s₁.heap H).get? b=some o:=λe n=>UZ e n
  have Sj:∀{b:Addr}{o:Obj}{es:Array DictEntry}{ep:Nat},s₁.heap.get? b=some o->o.data =.dict es ep->H b=none:=λ{b o es ep} e d=>by
   cases q:H b with
   | none=>rfl
   | some u=>have e':b=a:=hA b (by rw[q];simp);subst e';rw[ha]at e;cases e;have d':Data.seq vs.toArray _=Data.dict es ep:=d;cases d'
  have WO:∀{b:Addr}{m:SO},s₁.heap.Ns b m->(yz s₁.heap H).Ns b m:=λ{b m} ⟨o,es,ep,e,d,r⟩=>⟨o,es,ep,O7 e (Sj e d),d,r⟩
  have hKb:K.In (yz s₁.heap H):=λb o e=>O7 (KX b o e) (by
   cases q:H b with
   | none=>rfl
   | some u=>have e':b=a:=hA b (by rw[q];simp);subst e';rw[hK (by rw[q];simp)]at e;cases e)
  have hM:Mod K mg (yz s₁.heap H):=⟨hKb,WO hns,⟨mb,WO hb,hbb⟩,let⟨mc,h1,h2⟩:=hlim;⟨mc,WO h1,h2⟩⟩
  have e0:CU P w K mg (yz s₁.heap H) callerA [] s₁ H:=⟨Z,hM,λb o e=>XG e,Nat.le_of_eq (R1 _ _),trivial,λb hb=>absurd (show b∈([] :List Addr)from hb) (by simp),hok,.of_eq hg⟩
  refine codeAny_mono ((F _ hKb (WO hns)).run callerA [] s₁ H ⟨[.ref a],[]⟩ [.ref a] [.ref a] _ _ hr e0 (hbind s₁ (.ref a)) (.cons rfl .nil) (ve H hO hS)) λr s' h=>?_
  cases r with
  | error e=>exact(hCX H e s' h).elim
  | ok fl=>
    cases fl with
    | next=>exact False.elim h
    | brk=>exact False.elim h
    | cont=>exact False.elim h
    | ret u=>
      obtain⟨v,H',os,bare,un,agu,r',q⟩:=h
      have q':v =.bl true:=q
      subst q'
      obtain rfl:u=Value.bool true:=r'
      refine⟨Z,OldK.of_keep λb o e=>?_,os,bare⟩
      cases q:H b with
      | none=>exact un.keep b o e q (by intro z;exact absurd (show b∈([] :List Addr)from z) (by simp)) (by simp)
      | some u=>
        rcases hO b with z|⟨ob,xs,z⟩
        . rw[q]at z;cases z
        . have z2:=un.tV b ob _ z
          obtain⟨e1,_⟩:=hok b _ z
          obtain⟨e2,_⟩:=agu b _ z2
          rw[e]at e1;cases e1
          exact e2
 cases hk:K.lookup a with
 | some o=>
   have e:=KX a o hk
   rw[ha]at e
   cases e
   refine core (λ_=>none) (λ_=> .inl rfl) (.inr ⟨_,vs.toArray,_,hk,Z,Z,Z,by rw[i9,agt];exact hl,by simpa using rv⟩) (λb u z=>by have z':(none:Option HO)=some u:=z;cases z') (λb z=>absurd rfl z) λz=>absurd rfl z
 | none=>
   refine core (λb=>if b=a then some (.fZ { cls:=.type "list",data:=.seq vs.toArray } (.lst (ns.map V.int))) else none) (λb=>?_) (.inl (.inr ⟨{ cls:=.type "list",data:=.seq vs.toArray },av rfl⟩)) (λb u z=>?_) (λb z=>?_) λ_=>hk
   . by_cases hb:b=a
     . exact .inr ⟨_,_,av hb⟩
     . exact .inl (au hb)
   . by_cases hb:b=a
     . have z':=(av hb).symm.trans z
       cases z'
       subst hb
       exact⟨ha,by rw[aE];exact hl,vs,_,rv,ha⟩
     . have z':=(au hb).symm.trans z
       cases z'
   . by_cases hb:b=a
     . exact hb
     . exact absurd (au hb) z
variable {n:Nat}{XP:(Str->Option Value)->Heap->Prop}{YP:World->Heap->Prop}
theorem X5{l:PySem.W.OpenLaw}{k:Nat}{q:Program}{loose:List Str}{d:DefRec}{K:Params->Fg}{CX:World->Ad}{sp:World->Sp}(hn:l.most=some n)(hn2:n<=sizeLine)(hdf:d.params.defaults=[])(hr:fq k callerA)(hY:∀(w:World) (h:Heap),YP w h->(K w.params).In h)(F:∀(w:World) (mg:SO) (fa:Addr) (h:Heap),(K w.params).In h->h.Ns mainGlobals mg->mg d.name=some (.ref fa)->
    ∃fd:FuncData,(∀(s:Shared) (u:Value),BindsTo s fd ⟨[u],[]⟩ [(x,u)])/\
     ∀base:Heap,(K w.params).In base->base.Ns mainGlobals mg->ku l.prog w (K w.params) mg base (CX w) k fa fd [x] (sp w))(ve:∀(w:World) (H:Hp) (a:Addr) (ns:List Int),ns.length<=n->Vq H->aB (K w.params) H a (ns.map V.int)->sp w [.ref a] H (λv _=>v =.bl true) λ_ _ _=>False)(hCX:∀(w:World) (H:Hp) (s:Shared) (e:Value) (s':Shared),CX w [] H s (λ_ _ _=>False) e s'->False):
  PySem.W.WalkO q loose XP YP l.row.toRowW d [] (λf vs=>PySem.call f vs):=by
 refine Att.NJ hn hdf λw s₀ s₁ mg mb fa o pm cd doc a vs ns G Y ho hd hcd hmg hobj hints hlen hg=>?_
 have KX:=hY w _ Y
 obtain⟨fd,hb,hF⟩:=F w mg fa _ KX G.T.g hmg
 exact Vr KX G.T.g G.T.b G.T.builtins G.T.nolimit hg hobj hints (fD hlen hn2) hr hF hb (λH hO hS=>ve w H a ns hlen hO hS) λH e s'=>hCX w H s₁ e s'
def inClass(s:Stmt)(j:Nat):Stmt:=match s with
 | .ClassDef _ _ _ body _ _ _ _ _ _ _=>body.getD j (.Pass ⟨0,0,0,0⟩)
 | _=> .Pass ⟨0,0,0,0⟩
def gi(s:Stmt):Arguments:=match s with
 | .FunctionDef _ a _ _ _ _ _ _ _ _=>a
 | _=>{ posonlyargs:=[],args:=[],vararg:=none,kwonlyargs:=[],kw_defaults:=[],kwarg:=none,defaults:=[] }
def dQ(s:Stmt):List Stmt:=match s with
 | .FunctionDef _ _ b _ _ _ _ _ _ _=>b
 | _=>[]
def aD(s:Stmt):Scope:=match s with
 | .FunctionDef _ _ _ _ _ _ sc _ _ _=>sc
 | _=>{ kind:=.function,names:=[],isGenerator:=false,isCoroutine:=false }
abbrev vh:Ad:=λ_ _ _ _ _ _=>False
abbrev E0:XK:=λ_ _ _=>False
structure HD(K:Fg)(x qual:Str)(st:Stmt)(f:Addr)(fd:FuncData):Prop where
 ex:∃(oc:Value)(od:Option Addr)(kV doc pm:Value)(an:Option Addr)(cdv ct:Value)(osl:Array (Option Value)),
  fd=PySem.W.fnOf x qual (gi st) (dQ st) (aD st) .none kV doc pm an cdv ct/\K.lookup f=some ⟨oc,od,.func fd,osl⟩/\PySem.W.codeIn K cdv qual=true
 kp:PySem.W.keepIn K (.ref f)=true
variable {qual:Str}{f:Addr}{N ps:List Str}{oc doc pm cdv ct:Value}{od an:Option Addr}{osl:Array (Option Value)}
section
variable {P:Program}{w:World}{K:Fg}{mg:SO}{base:Heap}
theorem HD.ok{st:Stmt}{k:Nat}(F:HD K x qual st f fd)(S:aR N ps (aD st))(len:∀vs H Q E,sp vs H Q E->vs.length=ps.length)(hbody:∀(cdv:Value) (A:Around) (outer:List Env) (s:Shared) (H:Hp) (vs:List V) (Q:VK) (E:XK),fq k (A.deeper (envOfC qual (aD st) s.heap.objs.size f cdv))->sp vs H Q E->
    ∃t,wK (tY vh P w K mg base N qual (aD st) f cdv A outer s H E).Cq (dQ st) t/\t { nx:=λ_ H'=>Q .cy H',rt:=Q } (start N vs) H):ku P w K mg base vh (k+1) f fd ps sp:=by
 obtain⟨oc,od,kV,doc,pm,an,cdv,ct,osl,rfl,lk,hcd⟩:=F.ex
 refine ac7 lk hcd S len λA outer s H vs Q E hr ve=>?_
 obtain⟨t,h,q⟩:=hbody cdv A outer s H vs Q E hr ve
 exact⟨t,h.Cq,q⟩
theorem HD.binds{st:Stmt}(F:HD K x qual st f fd)(h:∀(kV doc pm:Value) (an:Option Addr) (cdv ct:Value) (us:List Value),us.length=ps.length->bindArgs (PySem.W.fnOf x qual (gi st) (dQ st) (aD st) .none kV doc pm an cdv ct) ⟨us,[]⟩=pure (ps.zip us)):Binds K fd ps [] :=by
 obtain⟨oc,od,kV,doc,pm,an,cdv,ct,osl,rfl,lk,hcd⟩:=F.ex
 exact .all (h kV doc pm an cdv ct)
theorem KU{st:Stmt}{kV:Value}(l:K.lookup f=some ⟨oc,od,.func (PySem.W.fnOf x qual (gi st) (dQ st) (aD st) .none kV doc pm an cdv ct),osl⟩)(c:PySem.W.codeIn K cdv qual=true)(k:PySem.W.keepIn K (.ref f)=true):HD K x qual st f (PySem.W.fnOf x qual (gi st) (dQ st) (aD st) .none kV doc pm an cdv ct):=⟨⟨oc,od,kV,doc,pm,an,cdv,ct,osl,Z,l,c⟩,k⟩
end
theorem bV{A:Around}{k:Nat}(hr:fq k A):A.units+1<cLine:=FN (Nat.add_le_add_left (by decide:1<=64) _) hr.units
theorem dz(h:n<=1000):n<sizeLine:=FN h (by decide)
section
variable {X:Cx}
end
theorem aL{A B:Prop}(h:B):if false=true then A else B:=by rw[au gk];exact h
theorem lR{A B:Prop}(h:A):if true=true then A else B:=by rw[av rfl];exact h
theorem cD{c A B:Prop}[Decidable c](h1:c->A)(h2:¬ c->B):if c then A else B:=by
 by_cases h:c
 .rw [av h];exact h1 h
 .rw [au h];exact h2 h
def aM(H H':Hp):Prop:=∀b o,H b=some o->H' b=some o
theorem aM.refl(H:Hp):aM H H:=λ_ _ h=>h
variable {H H1 H2:Hp}
theorem aM.trans(a:aM H H1)(b:aM H1 H2):aM H H2:=λc o h=>b c o (a c o h)
variable {H':Hp}
theorem aM.free(e:aM H H'){l:Addr}(h:H' l=Option.none):H l=Option.none:=by
 cases q:H l with
 | none=>rfl
 | some o=>rw[e l o q]at h;cases h
variable {xs:List V}
theorem aM.seq(e:aM H H')(h:aB K H a xs):aB K H' a xs:=by
 rcases h with(h|⟨o,h⟩)|h
 .exact .inl (.inl (e _ _ h))
 .exact .inl (.inr ⟨o,e _ _ h⟩)
 .exact .inr h
section
variable {X:Cx}
theorem wL:iH X (.builtin "len") (λxs H Q=>∃a kvs,xs=[V.ref a]/\H a=some (.dK kvs)/\Q (.int kvs.length) H):=by intro pins s σ H xs us Q I r h;obtain⟨a,kvs,rfl,ha,q⟩:=h;obtain⟨u,rfl,ru⟩:=vals1 r;cases ru;exact ada I (.inl ha) λt s' I'=>⟨.int kvs.length,H,I',⟨t,Z⟩,q⟩
end
section
variable {κ:Type}[DecidableEq κ]
theorem Vs{kvs:List (κ×V)}{k:κ}(h:eE kvs k=none):¬ k∈kvs.map (·.1):=by intro m;obtain⟨p,hp,e⟩:=a_.mp m;have q:(kvs.any λkv=>decide (kv.1=k))=true:=List.any_eq_true.mpr ⟨p,hp,bh e⟩;rw[rB,h]at q;exact absurd q (by simp)
theorem nC:∀{l:List κ}{k:κ},l.Nodup->¬ k∈l->(l++[k]).Nodup
 | [],k,_,_=>by simp
 | a::r,k,h,hk=>by
  obtain⟨h1,h2⟩:=gK.mp h;show(a::(r++[k])).Nodup;refine gK.mpr ⟨λm=>?_,nC h2 λm=>hk (dS.mpr (Or.inr m))⟩;rcases dD.mp m with q|q
  .exact h1 q
  .exact hk (dS.mpr (Or.inl (dj.mp q).symm))
theorem X6{kvs:List (κ×V)}{k:κ}(v:V)(hn:(kvs.map (·.1)).Nodup)(h:eE kvs k=none):((putK kvs k v).map (·.1)).Nodup:=by rw[oX v h,bP];exact nC hn (Vs h)
end
end L2
set_option maxHeartbeats 4000000
namespace L2
open PySem PySem.Spec PyProof.Rows
variable {n:Nat}{K:Fg}
section
variable {X:Cx}
def BJ(_ j:Int):Prop:=0<j/\j.natAbs.log2<9000
theorem iC:jm X (binaryOp .FloorDiv) (rI BJ λi j=> .int (i / j)):=R7 λi j _ _ _ _ _ hc q=>by have h1:(0:Int)<j:=hc.1;exact floordiv_int (by omega) (by rw[Int.fdiv_eq_ediv_of_nonneg i (by omega)];exact q) (.inl (PyProof.noPylong_of_log2 hc.2))
theorem Ag{i j:Int}(h:(decide (0<j) && decide (j.natAbs.log2<9000))=true):BJ i j:=by obtain⟨a,b⟩:=mP.mp h;exact⟨dY a,dY b⟩
theorem Vt{i j:Int}(h0:0<j)(h:j<2 ^ n)(hn:n<=9000):BJ i j:=by
 refine⟨h0,?_⟩;have e:(j.natAbs:Int)=j:=by omega
 have h2:j.natAbs<2 ^ n:=by
  have:(j.natAbs:Int)<((2 ^ n:Nat):Int):=by rw[e];simpa using h
  exact Int.ofNat_lt.mp this
 have:=(Nat.log2_lt (n:=j.natAbs) (k:=n) (by omega)).mpr h2;omega
def Q7(i j:Int):Prop:=∃m n:Nat,i.natAbs<2 ^ m/\j.natAbs<2 ^ n/\m+n<=134217728
theorem kC:jm X (binaryOp .Mult) (rI Q7 λi j=> .int (i*j)):=R7 λ_ _ _ _ _ _ _ hc q=>by obtain⟨m,n,h1,h2,h3⟩:=hc;exact mul_int q (IntMulOk.of_le (QE.mpr h1) (QE.mpr h2) h3)
theorem NK:iH X (.builtin "isinstance") (λxs H Q=>∃x n t b,xs=[x,.ty n]/\gT X.K H x t/\PySem.W.kitOne X.K t (.type n)=some b/\Q (.bl b) H):=by intro pins s σ H xs us Q I r h;obtain⟨x,n,t,b,rfl,ty,e,q⟩:=h;obtain⟨u,w',rfl,ru,rw'⟩:=vals2 r;have rw2:w'=Value.type n:=rw';subst rw2;exact Sg I ru ty e λtk=>⟨.bl b,H,I.tok _,Z,q⟩
theorem gW{n:String}:PySem.W.kitOne K (.type n) (.type n)=some true:=by unfold PySem.W.kitOne;rw[av (yq _)]
theorem KW:PySem.W.kitOne K (.type "int") (.type "bool")=some false:=by rfl
mutual
inductive Dt(K:Fg)(H:Hp):V->PyData->Prop
 | cy:Dt K H .cy .none
 | bl (b:Bool):Dt K H (.bl b) (.bool b)
 | int (i:Int):Dt K H (.int i) (.int i)
 | str (x:Str):Dt K H (.str x) (.str x)
 | lst {a:Addr} {xs:List V} {ds:List PyData}:aB K H a xs->Ah K H xs ds->Dt K H (.ref a) (.list ds)
 | tup {a:Addr} {xs:List V} {ds:List PyData}:cS K H a xs->Ah K H xs ds->Dt K H (.ref a) (.tuple ds)
inductive Ah(K:Fg)(H:Hp):List V->List PyData->Prop
 | nil:Ah K H [] []
 | cons {x:V} {xs:List V} {d:PyData} {ds:List PyData}:Dt K H x d->Ah K H xs ds->Ah K H (x::xs) (d::ds)
end
section
variable {pins:AO}{σ:St}{H:Hp}{s:Shared}
mutual
theorem Dt.reads(I:Inv X pins σ H s):∀{x:V}{d:PyData}{u:Value},Dt X.K H x d->RelV x u->∃as,Reads s.heap u d as
 | _,_,u,.cy,r=>by cases(show u=Value.none from r);exact⟨_,.none⟩
 | _,_,u,.bl b,r=>by cases(show u=Value.bool b from r);exact⟨_,.bool b⟩
 | _,_,u,.int i,r=>by obtain⟨t,rfl⟩:=(show ∃t,u=Value.int i t from r);exact⟨_,.int i t⟩
 | _,_,u,.str x,r=>by obtain⟨t,rfl⟩:=(show ∃t,u=Value.str x t from r);exact⟨_,.str x t⟩
 | _,_,u,@Dt.lst _ _ a xs ds h hd,r=>by cases(show u=Value.ref a from r);obtain⟨its,rv,⟨o,n,e,c,_,d⟩,hz⟩:=I.list h;obtain⟨as,ra⟩:=Ah.reads I hd rv;exact⟨_,.list e c d (by simpa using ra)⟩
 | _,_,u,@Dt.tup _ _ a xs ds h hd,r=>by cases(show u=Value.ref a from r);obtain⟨its,rv,⟨o,e,c,n,d⟩,hz⟩:=I.tuple h;obtain⟨as,ra⟩:=Ah.reads I hd rv;exact⟨_,.tuple e c d (by simpa using ra)⟩
theorem Ah.reads(I:Inv X pins σ H s):∀{xs:List V}{ds:List PyData}{us:List Value},Ah X.K H xs ds->Vals xs us->∃as,ReadsAll s.heap us ds as
 | _,_,_,.nil,.nil=>⟨_,.nil⟩
 | _,_,_,.cons h t,.cons r rs=>by obtain⟨as,ra⟩:=Dt.reads I h r;obtain⟨bs,rb⟩:=Ah.reads I t rs;exact⟨_,.cons ra rb⟩
end
end
inductive aal(K:Fg)(x:V)(y:V)(H:Hp)(Q:VK):Prop
 |mk(d e:_)(_:Dt K H x d)(_:Dt K H y e)(_:SeqAt.shaped d=true)(_:SeqAt.shaped e=true)(_:Q (.bl (PyData.eqv d e)) H)
inductive Q8(K:Fg)(x:V)(y:V)(H:Hp)(Q:VK):Prop
 |mk(d e:_)(_:Dt K H x d)(_:Dt K H y e)(_:SeqAt.shaped d=true)(_:SeqAt.shaped e=true)(_:Q (.bl (!PyData.eqv d e)) H)
theorem aam(hu:X.A.units+64<cLine):jm X (compareOp .Eq) (aal X.K):=by intro pins s σ H x y v u Q I rx ry h;obtain⟨d,e,hd,he,sd,se,q⟩:=h;obtain⟨as,ra⟩:=hd.reads I rx;obtain⟨bs,rb⟩:=he.reads I ry;exact eq_dataH ra rb sd se hu ⟨.bl _,H,I,Z,q⟩
theorem aan(hu:X.A.units+64<cLine):jm X (compareOp .NotEq) (Q8 X.K):=by intro pins s σ H x y v u Q I rx ry h;obtain⟨d,e,hd,he,sd,se,q⟩:=h;obtain⟨as,ra⟩:=hd.reads I rx;obtain⟨bs,rb⟩:=he.reads I ry;exact ne_dataH ra rb sd se hu ⟨.bl _,H,I,Z,q⟩
structure Bx(p:Prop):Prop where
 ex:p
def bx(f:Sp):Sp:=λvs H Q E=>Bx (f vs H Q E)
structure Dn(P:Program)(w:World)(K:Fg)(mg:SO)(base:Heap)(k:Nat)(x:Str)(ps:List Str)(sp:Sp):Prop where
 ex:∃f fd,ku P w K mg base vh k f fd ps sp/\Binds K fd ps []/\PySem.W.keepIn K (.ref f)=true/\mg x=some (.ref f)
end
structure At(K:Fg)(mg:SO)(x:Str)(st:Stmt)(f:Addr)(fd:FuncData):Prop where
 fn:HD K x x st f fd
 name:mg x=some (.ref f)
variable {P:Program}{w:World}{mg:SO}{base:Heap}{x:Str}{f:Addr}{fd:FuncData}{N ps:List Str}{sp:Sp}
theorem At.ok{st:Stmt}{k:Nat}(F:At K mg x st f fd)(S:aR N ps (aD st))(len:∀vs H Q E,sp vs H Q E->vs.length=ps.length)(hbody:∀(cdv:Value) (A:Around) (outer:List Env) (s:Shared) (H:Hp) (vs:List V) (Q:VK) (E:XK),fq k (A.deeper (envOfC x (aD st) s.heap.objs.size f cdv))->sp vs H Q E->
    ∃t,wK (tY vh P w K mg base N x (aD st) f cdv A outer s H E).Cq (dQ st) t/\t { nx:=λ_ H'=>Q .cy H',rt:=Q } (start N vs) H)(h:∀(kV doc pm:Value) (an:Option Addr) (cdv ct:Value) (us:List Value),us.length=ps.length->bindArgs (PySem.W.fnOf x x (gi st) (dQ st) (aD st) .none kV doc pm an cdv ct) ⟨us,[]⟩=pure (ps.zip us)):
  Dn P w K mg base (k+1) x ps sp:=⟨f,fd,F.fn.ok S len hbody,F.fn.binds h,F.fn.kp,F.name⟩
variable {h:Heap}{oc doc pm cdv ct:Value}{od an:Option Addr}{osl:Array (Option Value)}
theorem WQ{st:Stmt}{kV:Value}(X:K.In h)(G:h.Ns mainGlobals mg)(a:PySem.W.nsIn K mainGlobals x=some (some (.ref f)))(l:K.lookup f=some ⟨oc,od,.func (PySem.W.fnOf x x (gi st) (dQ st) (aD st) .none kV doc pm an cdv ct),osl⟩)(c:PySem.W.codeIn K cdv x=true)(k:PySem.W.keepIn K (.ref f)=true):At K mg x st f (PySem.W.fnOf x x (gi st) (dQ st) (aD st) .none kV doc pm an cdv ct):=⟨KU l c k,PySem.W.mg_of X G a⟩
theorem aM.tup{H H':Hp}{K:Fg}{a:Addr}{xs:List V}(e:aM H H')(h:cS K H a xs):cS K H' a xs:=by
 rcases h with(h|⟨o,h⟩)|h
 .exact .inl (.inl (e _ _ h))
 .exact .inl (.inr ⟨o,e _ _ h⟩)
 .exact .inr h
variable {H:Hp}
theorem aF{p:Addr}(h:H p=none)(o:HO):aM H (upd H p o):=λb u q=>by rw[az (aG q h)];exact q
theorem small(h:n<=1000):n<=sizeLine:=DO (dz h)
end L2
namespace Jm
def cf(a b:Int):Int:=(Int.gcd a b:Int)
theorem O8(a:Int)(h:0<=a):cf a 0=a:=by unfold cf;rw[Int.gcd_zero_right];omega
theorem FZ(a b:Int)(h:0<b):cf b (a % b)=cf a b:=by unfold cf;rw[Int.emod_def,Int.gcd_sub_mul_left_right,Int.gcd_comm]
theorem D6(a b:Int)(h:0<a\/0<b):0<cf a b:=by
 unfold cf;have:0<Int.gcd a b:=by
  rcases h with h|h
  .exact Int.gcd_pos_of_ne_zero_left _ (by omega)
  .exact Int.gcd_pos_of_ne_zero_right _ (by omega)
 omega
theorem O9(a b:Int):cf a b=cf b a:=by unfold cf;rw[Int.gcd_comm]
theorem aao(a b:Int):cf a (if b<0 then -b else b)=cf a b:=by
 unfold cf;split
 .rw [Int.gcd_neg]
 .rfl
abbrev fr(t b:Int):Rat:=Rat.divInt t b
theorem Sy(t b:Int)(h:0<b):(fr t b).num=t / cf b t:=by unfold fr cf;rw[Rat.num_divInt,Int.sign_eq_one_of_pos h,Int.one_mul]
theorem KY(t b:Int)(h:0<b):((fr t b).den:Int)=b / cf b t:=by unfold fr cf;rw[Rat.den_divInt,au (by omega)];rw[Int.natCast_ediv];congr 1;omega
theorem sJ(a b:Int):cf a b∣a:=Int.gcd_dvd_left ..
theorem qf(a b:Int):cf a b∣b:=Int.gcd_dvd_right ..
theorem den_pos(q:Rat):(0:Int)<q.den:=by have:=q.den_pos;omega
theorem X7(q:Rat):fr q.num q.den=q:=Rat.num_divInt_den q
theorem WR{t b t' b':Int}(h:0<b)(h':0<b')(e:t*b'=t'*b):fr t b=fr t' b':=(Rat.divInt_eq_divInt_iff (by omega) (by omega)).mpr e
theorem SA{n d:Int}(h:0<d)(c:cf n d=1):(fr n d).num=n/\((fr n d).den:Int)=d:=by rw[Sy n d h,KY n d h,O9,c,DP,DP];exact⟨Z,Z⟩
theorem SD(t b:Int)(h:0<b):((fr t b).den:Int)<=b:=by rw[KY t b h];exact DI _ (yv h)
def Sz(n:Nat)(x:Int):Prop:=x.natAbs<2 ^ n
theorem Sz.mono{m n:Nat}{x:Int}(h:Sz m x)(hn:m<=n):Sz n x:=kP h (Nat.pow_le_pow_right (by decide) hn)
theorem Sz.of_le{n:Nat}{x y:Int}(h:Sz n y)(hx:x.natAbs<=y.natAbs):Sz n x:=FN hx h
theorem Sz.neg{n:Nat}{x:Int}(h:Sz n x):Sz n (-x):=h.of_le (by omega)
theorem Sz.mul{m n:Nat}{x y:Int}(hx:Sz m x)(hy:Sz n y):Sz (m+n) (x*y):=by unfold Sz at *;rw[DL,Nat.pow_add];exact Nat.mul_lt_mul'' hx hy
theorem Sz.add{m n:Nat}{x y:Int}(hx:Sz m x)(hy:Sz n y):Sz (max m n+1) (x+y):=by have h1:=hx.mono (Nat.le_max_left m n);have h2:=hy.mono (Nat.le_max_right m n);unfold Sz at *;rw[Nat.pow_succ];omega
theorem Sz.kD{n:Nat}{x y:Int}(hx:Sz n x)(hy:Sz n y):Sz (n+1) (x+y):=by
 have:=hx.add hy
 rwa [Nat.max_self]at this
theorem Sz.nW{n:Nat}{x B:Int}(h0:-B<=x)(h1:x<=B)(hB:Sz n B):Sz n x:=hB.of_le (by omega)
theorem Sz.ediv{n:Nat}{x y:Int}(h:Sz n x)(hy:0<y):Sz n (x / y):=by
 refine h.of_le ?_;have e:=Int.emod_add_mul_ediv x y;have m0:=oz x (b:=y) (by omega);have m1:=yo x hy;rcases DQ x 0 with hx|hx
 .have q0:x / y<0:=Int.ediv_neg_of_neg_of_pos hx hy;have z:y*(x / y)<=1*(x / y):=Int.mul_le_mul_of_nonpos_right (by omega) (by omega);rcases DQ (x / y) x with k|k
  .exfalso;have z2:y*(x / y)<=y*(x-1):=Hr (by omega) (by omega);have z3:y*(x-1)<=1*(x-1)-(y-1):=by
    have z4:(y-1)*(x-1)<=(y-1)*(-2):=Hr (by omega) (by omega);have z5:y*(x-1)=(y-1)*(x-1)+(x-1):=by grind
    omega
   omega
  .omega
 .have q0:0<=x / y:=JS hx (by omega);have:=DI y hx;omega
theorem Sz.dvd{n:Nat}{x y:Int}(h:Sz n y)(hy:0<y)(hx:0<=x)(d:x∣y):Sz n x:=h.of_le (by have:=Int.le_of_dvd hy d;omega)
theorem SE{n:Nat}:∀{ws:List Int},(∀m∈ws,Sz n m)->Sz (n+ws.length) ws.sum
 | [],_=>by unfold Sz;show 0<_;exact Nat.two_pow_pos _
 | x::r,h=>by have h1:=SE (ws:=r) λm hm=>h m (cW _ hm);have h2:=((h x cT).mono (p5 n r.length)).kD h1;rw[cQ];exact h2.mono (by rw[iF];omega)
def D7(c:Int):Nat->Int
 | 0=>c
 | i+1=>D7 c i / 10000000000
def cellOf(ns:List Int)(k:Int):Int:=if 0<(ns.length:Int) then ns.getD (k % ns.length).toNat 0 else 0
def Ai(ns:List Int)(k:Int):Int:=if 0<(ns.length:Int) then k / ns.length else 1
def mixed(c k j many:Int):Int:=
 let one:=(c*7919+k*104729+j*1299709+31) % 1000000007
 let two:=(one*48271+c / 1009) % 998244353
 let three:=(two*(one % 9973+1)+j) % 1000000009
 (one*69621+three*40692+three / 1013) % 2147483647 % many
def draw(ns:List Int)(k j many:Int):Int:=if Ai ns k=0/\1000000000000000000<=cellOf ns k/\0<D7 (cellOf ns k) j.toNat then D7 (cellOf ns k) j.toNat % 10000000000 % many
 else mixed (cellOf ns k) k j many
theorem X8(ns:List Int)(k j many:Int)(h:0<many):0<=draw ns k j many:=by
 unfold draw;split
 .exact oz _ (by omega)
 .exact oz _ (by omega)
theorem X_(ns:List Int)(k j many:Int)(h:0<many):draw ns k j many<many:=by
 unfold draw;split
 .exact yo _ h
 .exact yo _ h
end Jm
namespace L2
open PySem PySem.Spec PyProof.Rows
inductive adh(K:Fg)(vs:List V)(H:Hp)(Q:VK)(E:XK):Prop
 |mk(a:Addr)(ns:List Int)(k j many:Int)(_:vs=[.ref a,.int k,.int j,.int many])(_:aB K H a (ns.map V.int))(_:ns.length<=63)(_:0<=k)(_:0<=j)(_:j<2 ^ 62)(_:0<many)(_:Q (.int (Jm.draw ns k j many)) H)
def tE(K:Fg):Sp:=bx (adh K)
variable {K:Fg}{H:Hp}{Q:VK}{a:Addr}{ns:List Int}
theorem c7{E:XK}{k j many:Int}(hS:aB K H a (ns.map V.int))(h63:ns.length<=63)(h1:0<=k)(h2:0<=j)(h3:j<2 ^ 62)(h4:0<many)(h:∀d:Int,d=Jm.draw ns k j many->0<=d->d<many->Q (.int d) H):tE K [.ref a,.int k,.int j,.int many] H Q E:=
 ⟨a,ns,k,j,many,Z,hS,h63,h1,h2,h3,h4,h _ rfl (Jm.X8 ns k j many h4) (Jm.X_ ns k j many h4)⟩
def Vu:Sp:=λvs H Q _=>∃a b:Int,vs=[.int a,.int b]/\0<=a/\0<=b/\Q (.int (Jm.cf a b)) H
abbrev qg(q:Rat):HO:=.tup [.int q.num,.int (q.den:Int)]
def D8:Sp:=λvs H Q _=>∃i:Int,vs=[.int i]/\Q (.bl true) H
def J4(K:Fg):Sp:=λvs H Q _=>∃(a:Addr)(ns:List Int),vs=[.ref a]/\aB K H a (ns.map V.int)/\ns.length<=63/\∀H',Q (.bl true) H'
section
variable {X:Cx}{pos:Pos}
def Ends.too(D:Ends)(J:St->Hp->Prop):Ends:={ D with nx:=J }
def adi(t u:TS)(D:Ends)(σ:St)(J:St->Hp->Prop):Bool->Hp->Prop:=λb H1=>if b=true then t (D.too J) σ H1 else u (D.too J) σ H1
inductive aap(c:TT)(t u:TS)(D:Ends)(σ:St)(H:Hp):Prop
 |mk(J:St->Hp->Prop)(_:c σ H (adi t u D σ J))(_:∀σ' H',J σ' H'->D.nx σ' H')
end
theorem vj{i j:Int}(h0:0<j)(h:Jm.Sz 9000 j):BJ i j:=by refine⟨h0,?_⟩;exact(Nat.log2_lt (by omega)).mpr h
variable {m n:Nat}
theorem jI{i j:Int}(hi:Jm.Sz m i)(hj:Jm.Sz n j)(h:m+n<=134217728:=by decide):Q7 i j:=⟨m,n,hi,hj,h⟩
theorem jR{x:Int}(h:decide (x.natAbs<2 ^ n)=true):Jm.Sz n x:=by unfold Jm.Sz;exact dY h
theorem Yb{k:Int}(h0:0<=k)(h:k<(ns.length:Int)):lC (ns.map V.int) k=some (.int (ns.getD k.toNat 0)):=by
 have hk:k.toNat<ns.length:=by omega
 have ek:k=((k.toNat:Nat):Int):=by omega
 have q:lC (ns.map V.int) ((k.toNat:Nat):Int)=some (.int (ns.getD k.toNat 0)):=aA (by rw[bO,fH,bq hk] <;> rfl);rw[<-ek]at q;exact q
variable {elt iter:Expr}{scope:Scope}{pos:Pos}{env:Env}
section
variable {prog:Program}{w:World}{A:Around}{R:Result->Shared->Prop}{s:Shared}
theorem KZ{target:Expr}{it acc:Value}(J:Nat->Shared->Prop)(turn:∀n s,J n s->wpAny (model prog w) A (pyNext it) (λr s₁=>match r with
    | none=>R (.ok .next) s₁
    | some v=>wpAny (model prog w) A (letOwnedTupleGo target it v) (λ_ s₂=>wpAny (model prog w) A (assign target env v) (λ_ s₃=>wpAny (model prog w) A (eval elt env) (λx s₄=>
            wpAny (model prog w) A (call (.builtin "list.append") [acc,x]) (λ_ s₅=>∃m,m<n/\J m s₅) (λ_ _=>False) s₄) (λ_ _=>False) s₃) (λ_ _=>False) s₂) (λ_ _=>False) s₁) (λ_ _=>False) s)(n:Nat)(h:J n s):codeAny (model prog w) A (.compLoop (.ListComp elt [⟨target,iter,[],0⟩] scope pos) 0 it acc env) R s:=by
 refine codeAny_loop rfl J (λn s hI=>?_) n h
 show wpAny _ A ((compTurn (.ListComp elt [⟨target,iter,[],0⟩] scope pos) 0 it acc env).onRaise (λx=>do noteFrame x env;theTreesLotGoes x)) _ _ s
 refine wpAny_noted ?_
 rw[compTurn_list1]
 refine ay (Bu (ay (jO (turn n s hI) (λr s₁ h₁=>?_) λ_ _ h'=>h'.elim)))
 cases r with
 | none=>exact bg h₁
 | some v=>
   refine ay (jO h₁ (λ_ s₂ h₂=>ay (jO h₂ (λ_ s₃ h₃=>?_) λ_ _ h'=>h'.elim)) λ_ _ h'=>h'.elim)
   exact ay (ay (jO h₃ (λx s₄ h₄=>ay (jO h₄ (λ_ s₅ h₅=>bg (bg ⟨Z,h₅⟩)) λ_ _ h'=>h'.elim)) λ_ _ h'=>h'.elim))
end
theorem uN(h:∀y∈scope.names,y.2 =.free->∃c,env.cells.lookup y.1=some c):∃cl,closureFor scope env=pure cl/\(∀y c,(y,c)∈cl->env.cells.lookup y=some c/\(y,NameKind.free)∈scope.names)/\∀y,(y,NameKind.free)∈scope.names->∃c,(y,c)∈cl:=by
 have gen:∀(names:List (Str×NameKind))(acc:List (Str×Addr)),(∀y∈names,y.2 =.free->∃c,env.cells.lookup y.1=some c)->
   ∃cl,(forIn names acc λ(x:Str×NameKind)(cs:List (Str×Addr))=>(if(x.2==NameKind.free)=true then do let a <-cellOf env x.1;pure (ForInStep.yield ((x.1,a)::cs)) else pure (ForInStep.yield cs):Sem _))=pure cl/\
    (∀y c,(y,c)∈cl->(env.cells.lookup y=some c/\(y,NameKind.free)∈names)\/(y,c)∈acc)/\(∀p∈acc,p∈cl)/\∀y,(y,NameKind.free)∈names->∃c,(y,c)∈cl:=by
  intro names
  induction names with
  | nil=>intro acc _;exact⟨acc,by rw[DM],λy c m=> .inr m,λp hp=>hp,λy m=>nomatch m⟩
  | cons x r ih=>
    intro acc hc
    obtain⟨n,k⟩:=x
    by_cases hk:k =.free
    . subst hk
      obtain⟨c,ec⟩:=hc (n,.free) cT rfl
      obtain⟨cl,e,h1,h2,h3⟩:=ih ((n,c)::acc) λy hy=>hc y (cW _ hy)
      refine⟨cl,?_,λy d m=>?_,λp hp=>h2 p (cW _ hp),λy m=>?_⟩
      . rw[JT,<-e]
        have adj:cellOf env n=pure c:=by unfold cellOf;rw[ec]
        simp only[yq,if_true,adj,pure_bind]
      . rcases h1 y d m with⟨a,b⟩|b
        . exact .inl ⟨a,cW _ b⟩
        . rcases dS.mp b with z|z
          . cases z;exact .inl ⟨ec,cT⟩
          . exact .inr z
      . rcases dS.mp m with z|z
        . cases z;exact⟨c,h2 _ cT⟩
        . exact h3 y z
    . obtain⟨cl,e,h1,h2,h3⟩:=ih acc λy hy=>hc y (cW _ hy)
      have hb:(k==NameKind.free)=false:=by simpa using hk
      refine⟨cl,?_,λy d m=>?_,h2,λy m=>?_⟩
      . rw[JT,<-e]
        simp only[hb,FO,qa,pure_bind]
      . rcases h1 y d m with⟨a,b⟩|b
        . exact .inl ⟨a,cW _ b⟩
        . exact .inr b
      . rcases dS.mp m with z|z
        . cases z;exact absurd rfl hk
        . exact h3 y z
 obtain⟨cl,e,h1,_,h3⟩:=gen scope.names [] h;refine⟨cl,?_,λy c m=>(h1 y c m).elim id (λz=>nomatch z),h3⟩;have e2:closureFor scope env=((forIn scope.names ([] :List (Str×Addr)) λ(x:Str×NameKind)(cs:List (Str×Addr))=>(if(x.2==NameKind.free)=true then do let a <-cellOf env x.1;pure (ForInStep.yield ((x.1,a)::cs)) else pure (ForInStep.yield cs):Sem _)) >>= λr=>pure r):=rfl;rw[e2,e];rfl
theorem lookup_mem{α:Type}{l:List (Str×α)}{y:Str}{c:α}(h:(y,c)∈l):∃d,l.lookup y=some d:=by
 induction l with
 | nil=>cases h
 | cons p r ih=>
  obtain⟨k,v⟩:=p;rw[lX];cases hb:y==k with
  | true=>exact⟨v,Z⟩
  | false=>
   rcases dS.mp h with z|z
   .cases z;simp at hb
   .exact ih z
theorem nD:∀(names:List (Str×NameKind))(n:Nat)(acc:List (Str×Addr)){x:Str}{c:Addr},(cellsFrom n names acc).lookup x=some c->n<=c\/acc.lookup x=some c
 | [],_,_,_,_,h=> .inr h
 | (name,kind)::r,n,acc,x,c,h=>by
  unfold cellsFrom at h;split at h
  .rcases nD r (n+1) _ h with z|z
   .exact .inl (by omega)
   .rw [lX]at z;cases hb:x==name with
    | true=>rw[hb]at z;cases z;exact .inl (aQ _)
    | false=>rw[hb]at z;exact .inr z
  .exact nD r n acc h
theorem II:∀(names:List (Str×NameKind))(n n0:Nat)(acc:List (Str×Addr)){x:Str}{c:Addr},n0<=n->(∀d,acc.lookup x=some d->n0<=d)->(cellsFrom n names acc).lookup x=some c->n0<=c:=by
 intro names n n0 acc x c hn ha h;rcases nD names n acc h with z|z
 .omega
 .exact ha c z
theorem t7:∀(names:List (Str×NameKind))(n:Nat)(acc:List (Str×Addr)){x:Str}{c:Addr},(x,NameKind.cell)∈names->(cellsFrom n names acc).lookup x=some c->n<=c
 | [],_,_,_,_,m,_=>nomatch m
 | (name,kind)::r,n,acc,x,c,m,h=>by
  unfold cellsFrom at h;rcases dS.mp m with z|z
  .cases z;rw[av (by rfl)]at h;refine II r (n+1) n _ (by omega) (λd hd=>?_) h;rw[lX,yq]at hd;cases hd;exact aQ _
  .split at h
   .exact fD (Nat.le_succ _) (t7 r (n+1) _ z h)
   .exact t7 r n acc z h
theorem nE:∀(names:List (Str×NameKind))(n:Nat)(acc:List (Str×Addr)){x:Str},(∃c,acc.lookup x=some c)->∃c,(cellsFrom n names acc).lookup x=some c
 | [],_,_,_,h=>h
 | (name,kind)::r,n,acc,x,h=>by
  unfold cellsFrom;split
  .refine nE r (n+1) _ ?_;rw[lX];cases x==name with
   | true=>exact⟨_,Z⟩
   | false=>exact h
  .exact nE r n acc h
theorem t8:∀(names:List (Str×NameKind))(n:Nat)(acc:List (Str×Addr)){x:Str},(x,NameKind.cell)∈names->∃c,(cellsFrom n names acc).lookup x=some c
 | [],_,_,_,m=>nomatch m
 | (name,kind)::r,n,acc,x,m=>by
  unfold cellsFrom;rcases dS.mp m with z|z
  .cases z;rw[av (by rfl)];refine nE r (n+1) _ ⟨n,?_⟩;rw[lX,yq]
  .split
   .exact t8 r (n+1) _ z
   .exact t8 r n acc z
theorem t9:∀(names:List (Str×NameKind))(n:Nat)(acc:List (Str×Addr)){x:Str},(x,NameKind.cell)∉names->(cellsFrom n names acc).lookup x=acc.lookup x
 | [],_,_,_,_=>rfl
 | (name,kind)::r,n,acc,x,m=>by
  have m2:(x,NameKind.cell)∉r:=λz=>m (cW _ z);unfold cellsFrom;split
  .rename_i hk;rw[t9 r (n+1) _ m2,lX];cases hb:x==name with
   | true=>
    have e1:=uM.mp hb;have e2:kind=NameKind.cell:=by simpa using hk
    subst e1 e2;exact absurd cT m
   | false=>rfl
  .exact t9 r n acc m2
theorem t_:∀(names:List (Str×NameKind))(n:Nat)(acc:List (Str×Addr)),(∀x y c,acc.lookup x=some c->acc.lookup y=some c->x=y)->(∀x c,acc.lookup x=some c->c<n)->∀x y c,(cellsFrom n names acc).lookup x=some c->(cellsFrom n names acc).lookup y=some c->x=y
 | [],_,_,h,_=>h
 | (name,kind)::r,n,acc,h,hlt=>by
  intro x y c hx hy;unfold cellsFrom at hx hy;split at hx
  .rename_i hk;rw[av hk]at hy;refine t_ r (n+1) _ (λx y c hx hy=>?_) (λx c hx=>?_) x y c hx hy
   .rw [lX]at hx hy;cases hb:x==name with
    | true=>
     cases hb2:y==name with
     | true=>rw[uM.mp hb,uM.mp hb2]
     | false=>rw[hb]at hx;rw[hb2]at hy;cases hx;exact absurd (hlt _ _ hy) (jM _)
    | false=>
     cases hb2:y==name with
     | true=>rw[hb]at hx;rw[hb2]at hy;cases hy;exact absurd (hlt _ _ hx) (jM _)
     | false=>rw[hb]at hx;rw[hb2]at hy;exact h x y c hx hy
   .rw [lX]at hx;cases hb:x==name with
    | true=>rw[hb]at hx;cases hx;exact Nat.lt_succ_self _
    | false=>rw[hb]at hx;exact QJ (hlt _ _ hx)
  .rename_i hk;rw[au hk]at hy;exact t_ r n acc h hlt x y c hx hy
theorem xB:∀(names:List (Str×NameKind))(h:Heap)(acc:List (Str×Addr)),(∀x c,acc.lookup x=some c->∃v,h.IsCell c v)->∀x c,(cellsFrom h.objs.size names acc).lookup x=some c->∃v,(pushCells h names).IsCell c v
 | [],_,_,ha=>ha
 | (name,kind)::r,h,acc,ha=>by
  intro x c hx;unfold cellsFrom at hx;unfold pushCells;split at hx
  .rename_i hk;rw[av hk];have q:=xB r (h.push { cls:=.type "cell",data:=.cell none }) ((name,h.objs.size)::acc) (λx c hx=>by
    rw[lX]at hx;cases hb:x==name with
    | true=>rw[hb]at hx;cases hx;exact⟨none,_,eY _ rfl,Z⟩
    | false=>rw[hb]at hx;obtain⟨v,z⟩:=ha x c hx;exact⟨v,z.keeps λb o e=>cK _ e⟩) x c
   rw[nv]at q;exact q hx
  .rename_i hk;rw[au hk];exact xB r h acc ha x c hx
def dg(X:Cx)(N2:List Str)(scope:Scope)(cl:List (Str×Addr))(s₂:Shared)(H₂:Hp)(fp:List Addr):Cx where
 prog:=X.prog
 w:=X.w
 K:=X.K
 mg:=X.mg
 base:=X.base
 A:=X.A
 N:=N2
 s₀:=s₂
 H₀:=H₂
 env:={ scope:=relabel scope X.env,locals:=s₂.heap.objs.size,globals:=X.env.globals,cells:=cellsFrom (s₂.heap.objs.size+1) scope.names cl,qual:=X.env.qual,func:=none,code:=X.env.code,frame:=X.env.frame,builtins:=X.env.builtins }
 outer:=X.stack
 stack:=X.stack
 ex:=fp
 fn:=λx=>decide (scope.names.lookup x=some .cell)
 calm:=X.calm
 pn:=[]
 xe:=λ_ _=>False
def nX(XN:List Str)(xn sn:List (Str×NameKind))(N2:List Str)(ix:List (Option Nat)):Bool:=(ix.length==N2.length) &&
 ((ix.zip N2).all λp=>match p.1 with
   | none=>true
   | some j=>XN[j]?==some p.2 && sn.lookup p.2==some .free && (xn.lookup p.2==some .cell || xn.lookup p.2==some .free)) &&
 (sn.all λy=>y.2 !=.free || (xn.lookup y.1==some .cell || xn.lookup y.1==some .free)) &&
 (sn.all λy=>y.2 !=.local || sn.lookup y.1==some .local) &&
 (sn.all λy=>y.2 !=.free || sn.all λz=>z.2 !=.cell || z.1 != y.1)
variable {x:Str}
theorem Cv{k:NameKind}(h:(relabel scope env).names.lookup x=some k)(hk:k =.cell\/k =.free):(x,NameKind.cell)∈scope.names\/(x,NameKind.free)∈scope.names:=by
 have m:=yl h;obtain⟨y,hy,e⟩:=a_.mp m;obtain⟨n,k0⟩:=y;dsimp only at e;split at e
 .rename_i hc;cases e;have h1:k0=NameKind.free:=by have:=(mP.mp (mP.mp hc).1).1;simpa using this
  subst h1;exact .inr hy
 .cases e;rcases hk with rfl|rfl
  .exact .inl hy
  .exact .inr hy
theorem K0:∀{x:Str},scope.names.lookup x=some .free->(relabel scope env).names.lookup x=some .cell\/(relabel scope env).names.lookup x=some .free:=by
 intro x h;have gen:∀(l:List (Str×NameKind)),l.lookup x=some .free->(l.map λ(n,k)=>if(k==NameKind.free && env.scope.kind ==.function && env.kindOf n==some .cell) then(n,NameKind.cell) else(n,k)).lookup x=some .cell\/
   (l.map λ(n,k)=>if(k==NameKind.free && env.scope.kind ==.function && env.kindOf n==some .cell) then(n,NameKind.cell) else(n,k)).lookup x=some .free:=by
  intro l
  induction l with
  | nil=>intro h;cases h
  | cons p r ih=>
    intro h
    obtain⟨n,k⟩:=p
    rw[lX]at h
    rw[bN]
    dsimp only
    cases hb:x==n with
    | true=>
      rw[hb]at h
      cases h
      split
      . rw[lX,hb];exact .inl rfl
      . rw[lX,hb];exact .inr rfl
    | false=>
      rw[hb]at h
      split
      . rw[lX,hb];exact ih h
      . rw[lX,hb];exact ih h
 exact gen scope.names h
variable {X:Cx}{pins:AO}{σ σ2:St}{s:Shared}{N2:List Str}{cl:List (Str×Addr)}{fp:List Addr}
theorem D9(I:Inv X pins σ H s)(hk:scope.kind =.function)(K1:∀y c,(y,c)∈cl->X.env.cells.lookup y=some c)(F0:∀y,(y,NameKind.free)∈scope.names->∃c,(y,c)∈cl)(hfp:∀b∈fp,qc X pins H b)(hfo:∀b∈fp,b<s.heap.objs.size)(hl:σ2.length=N2.length)(hσ:∀(i:Nat) (x:Str) (v:V),N2[i]?=some x->σ2[i]?=some (some v)->scope.names.lookup x=some .free/\(X.env.kindOf x=some .cell\/X.env.kindOf x=some .free)/\∃j:Nat,X.N[j]?=some x/\σ[j]?=some (some v))(hd:∀x,(x,NameKind.free)∈scope.names->(x,NameKind.cell)∉scope.names):
  Inv (dg X N2 scope cl s H fp) [] σ2 H { s with heap:=pushCells (s.heap.push { cls:=.type "dict",data:=.dict #[] }) scope.names }:=by
 have keeps:∀b o,s.heap.get? b=some o->(pushCells (s.heap.push { cls:=.type "dict",data:=.dict #[] }) scope.names).get? b=some o:=λb o e=>JU _ _ b o (cK _ e)
 have hsz:(s.heap.push { cls:=.type "dict",data:=.dict #[] }).objs.size=s.heap.objs.size+1:=nv ..
 have BK:∀x c,cl.lookup x=some c->X.env.cells.lookup x=some c:=λx c e=>K1 x c (yl e)
 have clt:∀x c,cl.lookup x=some c->c<s.heap.objs.size:=λx c e=>by obtain⟨v,z⟩:=I.cell x c (BK x c e);exact z.lt
 have there:=xB scope.names (s.heap.push { cls:=.type "dict",data:=.dict #[] }) cl (λx c e=>by obtain⟨v,z⟩:=I.cell x c (BK x c e);exact⟨v,z.keeps λb o e=>cK _ e⟩)
 rw[hsz]at there
 have cells:∀x c,(cellsFrom (s.heap.objs.size+1) scope.names cl).lookup x=some c->s.heap.objs.size+1<=c\/X.env.cells.lookup x=some c:=λx c e=>by
  rcases nD _ _ _ e with z|z
  .exact .inl z
  .exact .inr (BK x c z)
 have okY:(dg X N2 scope cl s H fp).Ok:=by
  refine⟨I.ok.mod,hk,I.ok.glob,I.ok.blt,aQ _,?_,?_,?_,I.ok.hd,I.ok.frames,.inl rfl,?_,I.bs,fD I.ok.Hs I.sz,?_,?_,I.stack,I.OZ⟩
  .exact t_ _ _ _ (λx y c hx hy=>I.ok.inj x y c (BK x c hx) (BK y c hy)) λx c e=>QJ (clt x c e)
  .intro x hx;have m:(x,NameKind.cell)∈scope.names\/(x,NameKind.free)∈scope.names:=by
    rcases hx with z|z
    .exact Cv z (.inl rfl)
    .exact Cv z (.inr rfl)
   rcases m with m|m
   .exact t8 _ _ _ m
   .obtain ⟨c,mc⟩:=F0 x m;exact nE _ _ _ (lookup_mem mc)
  .intro x c hf e;have hf':scope.names.lookup x=some .cell:=dY hf;exact fD (Nat.le_succ _) (t7 _ _ _ (yl hf') e)
  .intro b hb;refine⟨e_ (hfo b hb),λx c e z=>?_⟩;have hlt:=hfo b hb;rcases cells x c e with k|k
   .exact absurd (kP hlt (fD (Nat.le_succ _) (z▸k))) (jM _)
   .exact (hfp b hb).2.2.2.2.1 x c k z
  .intro b o e hb;rcases(hfp b hb).2.2.2.1 with z|z
   .exact I.ok.Kr b o e z
   .exact absurd (kP (cg (I.ok.bs b o e).1) z) (jM _)
  .intro b hb hbs;rcases dS.mp (I.Kv b hbs)with z|z
   .exact (hfp b hb).2.1 z
   .exact (hfp b hb).2.2.1 z
 refine⟨okY,Z,I.bare,Un.kept keeps,?_,there,I.hok.fresh (aQ _),?_,(λp hp=>nomatch hp),I.hok.kept keeps,hl⟩
 . refine⟨λ_=>none,(Heap.Ns.new s.heap (.type "dict")).keeps (JU _ _),λi x v e1 e2 _=>?_⟩
   obtain⟨hf,hx,j,j1,j2⟩:=hσ i x v e1 e2
   obtain⟨m,_,hloc⟩:=I.loc
   have hv:WC X.env.scope x:=hx.elim (λz=> .inr (.inl z)) λz=> .inr (.inr z)
   obtain⟨u,r,lk⟩:=hloc j x v j1 j2 hv
   refine⟨u,r,.inr ⟨K0 hf,?_⟩⟩
   rcases lk with⟨k,_⟩|⟨_,c,ec,ic⟩
   . rcases hx with z|z <;> rw[z]at k <;> cases k
   . refine⟨c,?_,ic.keeps keeps⟩
     have mf:=yl hf
     show(cellsFrom (s.heap.objs.size+1) scope.names cl).lookup x=some c
     rw[t9 _ _ _ (hd x mf)]
     obtain⟨c',mc⟩:=F0 x mf
     obtain⟨d,ed⟩:=lookup_mem mc
     rw[ed]
     have:=BK x d ed
     rw[ec]at this
     exact this.symm
 . intro x c e
   rcases cells x c e with k|k
   . exact I.hok.fresh (by omega)
   . exact I.oF x c k
variable {tg:Expr}{te:TE}{E:VS}
section
variable {X:Cx}
def D_(J:It)(g:TG)(te:TE)(acc:Addr)(σ₀:St)(H:Hp)(Q:VK):Prop:=∃W:Nat->Nat->St->Hp->Prop,(∃m,W 0 m σ₀ (upd H acc (.lst [])))/\∀i m σ2 H2,W i m σ2 H2->(J.stop i H2/\Q (.ref acc) H2)\/(J.go i H2/\∃(S:St->Prop)(N:V->Hp->Prop),(∀σ3 v H4,S σ3->N v H4->∃xs,H4 acc=some (.lst xs)/\xs.length<sizeLine/\∃m',m'<m/\W (i+1) m' σ3 (upd H4 acc (.lst (xs++[v]))))/\∀x H',J.DU i H2 x H'->g x σ2 H' λσ3 H3=>S σ3/\te σ3 H3 N)
inductive yE(Pv:Nat->List V->Hp->Prop)(i:Nat)(acc:Addr)(out:List V)(v:V)(H4:Hp):Prop
 |mk(_:H4 acc=some (.lst out))(_:Pv (i+1) (out++[v]) (upd H4 acc (.lst (out++[v]))))
def WS(te:TE)(σ:St)(Pv:Nat->List V->Hp->Prop)(i:Nat)(acc:Addr)(out:List V):Bool->Hp->Prop:=λb H2=>if b=true then te σ H2 (yE Pv i acc out) else H2 acc=some (.lst out)/\Pv (i+1) out H2
def pick(ix:List (Option Nat))(σ:St):St:=ix.map λo=>o.bind λj=>(σ[j]?).join
def aaq(ix:List (Option Nat))(g:TG)(te:TE)(σ:St)(Q:VK):It->Hp->Prop:=λJ H1=>∀acc,H1 acc=none->D_ J g te acc (pick ix σ) H1 Q
def WT(wi:TI)(ix:List (Option Nat))(g:TG)(te:TE):TE:=λσ H Q=>wi σ H (aaq ix g te σ Q)
theorem nF{XN:List Str}{xn sn:List (Str×NameKind)}{ix:List (Option Nat)}(h:nX XN xn sn N2 ix=true):ix.length=N2.length/\(∀(i:Nat)(x:Str)(j:Nat),N2[i]?=some x->ix[i]?=some (some j)->XN[j]?=some x/\sn.lookup x=some .free/\(xn.lookup x=some .cell\/xn.lookup x=some .free))/\(∀y∈sn,y.2 =.free->xn.lookup y.1=some .cell\/xn.lookup y.1=some .free)/\(∀y∈sn,y.2 =.local->sn.lookup y.1=some .local)/\∀x,(x,NameKind.free)∈sn->(x,NameKind.cell)∉sn:=by
 unfold nX at h;obtain⟨h,h5⟩:=mP.mp h;obtain⟨h,h4⟩:=mP.mp h;obtain⟨h,h3⟩:=mP.mp h;obtain⟨h1,h2⟩:=mP.mp h;have e1:ix.length=N2.length:=by simpa using h1
 refine⟨e1,λi x j a b=>?_,λy hy e=>?_,λy hy e=>?_,λx m1 m2=>?_⟩
 .have m:(some j,x)∈ix.zip N2:=by refine bw (i:=i) ?_;rw[List.getElem?_zip_eq_some];exact⟨b,a⟩
  have q:=p6.mp h2 _ m;dsimp only at q;obtain⟨q,q3⟩:=mP.mp q;obtain⟨q1,q2⟩:=mP.mp q;exact⟨by simpa using q1,by simpa using q2,(Kd.mp q3).imp (λz=>by simpa using z) λz=>by simpa using z⟩
 .have q:=p6.mp h3 y hy;rcases Kd.mp q with z|z
  .rw [e]at z;simp at z
  .exact (Kd.mp z).imp (λz=>by simpa using z) λz=>by simpa using z
 .have q:=p6.mp h4 y hy;rcases Kd.mp q with z|z
  .rw [e]at z;simp at z
  .simpa using z
 .have q:=p6.mp h5 _ m1;rcases Kd.mp q with z|z
  .simp at z
  .have q2:=p6.mp z _ m2;simp at q2
theorem Ea{ix:List (Option Nat)}{g:TG}{RR:Value->Addr->Result->Shared->Prop}(hc:X.calm=true)(hg:∀cl s₂ H₂ fp,PG (dg X N2 scope cl s₂ H₂ fp) tg g)(he:∀cl s₂ H₂ fp,PE (dg X N2 scope cl s₂ H₂ fp) elt te)(hk:scope.kind =.function)(hn:nX X.N X.env.scope.names scope.names N2 ix=true)(K1:∀y c,(y,c)∈cl->X.env.cells.lookup y=some c)(F0:∀y,(y,NameKind.free)∈scope.names->∃c,(y,c)∈cl){it:Addr}{fp:List Addr}{tn:Nat->Heap->Prop}{J:It}(I:Inv X pins σ H s)(T:Turn X.prog X.w X.K tg J fp it tn)(st:tn 0 s.heap)(f:∀b∈fp,qc X pins H b)(h:∀acc,H acc=none->D_ J g te acc (ix.map λo=>o.bind λj=>(σ[j]?).join) H Q)(hR:∀acc C H' s' m,Inv X pins σ H' s'->s'.heap.Ns C m->H' C=none->C≠X.env.locals->X.s₀.heap.objs.size<=C->(∀x c,X.env.cells.lookup x=some c->c≠C)->(∀p∈X.pn++pins,p.1≠C)->Q (.ref acc) H'->RR (.ref acc) C (.ok .next) s'):
  wpAny (model X.prog X.w) X.A (newList []) (λacc s₃=>wpAny (model X.prog X.w) X.A (newFunctionEnv scope X.env.globals cl [] X.env.qual none .none (some X.env)) (λcenv s₄=>
   codeAny (model X.prog X.w) X.A (.compStart (.ListComp elt [⟨tg,iter,[],0⟩] scope pos) 0 (.ref it) acc { cenv with scope:=relabel scope X.env }) (RR acc cenv.locals) s₄) E s₃) E s:=by
 obtain⟨k1,k2,k3,k4,k5⟩:=nF hn
 refine yp ?_
 have I3:Inv X pins σ (upd H s.heap.objs.size (.lst [])) { s with heap:=s.heap.push { cls:=.type "list",data:=.seq ([] :List Value).toArray } }:=
  I.laid (a:=s.heap.objs.size) (o:=.lst []) (t':=s.toks) (λ_ _ q=>cK _ q) (aQ _) ⟨gh _,[],_,.nil,eY _ rfl⟩
 obtain⟨W,⟨m0,w0⟩,turn⟩:=h s.heap.objs.size I.fresh
 have fo:∀b∈fp,b<s.heap.objs.size:=λb hb=>by obtain⟨o,e,_⟩:=T.obj 0 _ st b hb;exact cg e
 have st3:tn 0 (s.heap.push { cls:=.type "list",data:=.seq ([] :List Value).toArray }):=T.keep _ _ _ st λb _ o e=>cK _ e
 have f3:∀b∈fp,qc X pins (upd H s.heap.objs.size (.lst [])) b:=λb hb=>⟨by rw[az (e_ (fo b hb))];exact(f b hb).1,(f b hb).2⟩
 have SG:∀b∈fp,b<(s.heap.push { cls:=.type "list",data:=.seq ([] :List Value).toArray }).objs.size:=λb hb=>by rw[nv];exact QJ (fo b hb)
 generalize es3:({ s with heap:=s.heap.push { cls:=.type "list",data:=.seq ([] :List Value).toArray } }:Shared)=s3 at *
 have eh3:s3.heap=s.heap.push { cls:=.type "list",data:=.seq ([] :List Value).toArray }:=by rw[<-es3]
 rw[<-eh3]at st3 SG
 generalize s.heap.objs.size=acc at *
 generalize eH3:upd H acc (.lst [])=H3 at *
 have IY:=D9 (N2:=N2) (scope:=scope) (cl:=cl) (fp:=fp) (σ2:=ix.map λo=>o.bind λj=>(σ[j]?).join) I3 hk K1 F0 f3 SG (by rw[aE];exact k1) (λi x v e1 e2=>by
  rw[bO]at e2;cases ei:ix[i]? with
  | none=>rw[ei]at e2;cases e2
  | some o=>
   rw[ei]at e2;cases o with
   | none=>cases e2
   | some j=>
    obtain⟨a1,a2,a3⟩:=k2 i x j e1 ei;refine⟨a2,a3,j,a1,?_⟩;have e3:(σ[j]?).join=some v:=gJ e2;cases ej:σ[j]? with
    | none=>rw[ej]at e3;cases e3
    | some z=>rw[ej]at e3;exact gR some e3) k5
 have ne:wpAny (model X.prog X.w) X.A (newFunctionEnv scope X.env.globals cl [] X.env.qual none .none (some X.env)) (λcenv s₄=>
   cenv={ scope:=scope,locals:=s3.heap.objs.size,globals:=X.env.globals,cells:=cellsFrom (s3.heap.objs.size+1) scope.names cl,qual:=X.env.qual,func:=none,code:=X.env.code,frame:=X.env.frame,builtins:=X.env.builtins }/\
   s₄={ s3 with heap:=pushCells (s3.heap.push { cls:=.type "dict",data:=.dict #[] }) scope.names }) E s3:=by
  simp only[newFunctionEnv,Option.isSome_some,if_true]
  refine ay (wpAny_alloc ?_)
  refine ay (wpAny_layCells _ (λname kind cells=>by cases hkc:kind==NameKind.cell <;> simp[hkc]) _ _ _ _ ?_)
  rw[DM]
  refine ay (bg (bg ⟨?_,Z⟩))
  rw[show({ s3 with heap:=s3.heap.push { cls:=.type "dict",data:=.dict #[] } }:Shared).heap.objs.size=s3.heap.objs.size+1 from nv ..]
 refine bH ne λcenv s4 ⟨e1,e2⟩=>?_
 subst e1 e2
 have SH:tn 0 (pushCells (s3.heap.push { cls:=.type "dict",data:=.dict #[] }) scope.names):=T.keep _ _ _ st3 λb _ o e=>JU _ _ b o (cK _ e)
 have Aj:s3.heap.objs.size≠X.env.locals:=yu I3.lt
 have vm:∀{H':Hp},(∀b∈fp,H' b=none)->∀b∈fp,qc (dg X N2 scope cl s3 H3 fp) [] H' b:=λ{H'} hn b hb=>
  ⟨hn b hb,(IY.ok.OY b hb).1,IY.ok.FW b hb,.inl hb,(IY.ok.OY b hb).2,λp hp=>nomatch hp⟩
 have loop:codeAny (model X.prog X.w) X.A (.compLoop (.ListComp elt [⟨tg,iter,[],0⟩] scope pos) 0 (.ref it) (.ref acc) (dg X N2 scope cl s3 H3 fp).env) (RR (.ref acc) s3.heap.objs.size)
   { s3 with heap:=pushCells (s3.heap.push { cls:=.type "dict",data:=.dict #[] }) scope.names }:=by
  refine KZ (λn s'=>∃i σ' H',Inv (dg X N2 scope cl s3 H3 fp) [] σ' H' s'/\tn i s'.heap/\(∀b∈fp,H' b=none)/\W i n σ' H') ?_ m0 ⟨0,_,H3,IY,SH,λb hb=>(f3 b hb).1,w0⟩
  rintro n s5 ⟨i,σ5,H5,I5,uG,K2,w5⟩
  rcases turn i n σ5 H5 w5 with⟨stop,qn⟩|⟨go,S,N,hSN,step⟩
  . refine bH (T.done (dg X N2 scope cl s3 H3 fp) rfl rfl rfl hc i [] s5 σ5 H5 (λ_ _=>False) I5 (vm K2) uG stop) λr s6 ⟨hr,I6⟩=>?_
    subst hr
    obtain⟨m6,O_,_⟩:=id I6.loc
    have IX:Inv X pins σ H5 s6:=I3.WG (ch:=fp) I6.os I6.base I6.hok I6.bare λb hb=>⟨(f3 b hb).2.2.2.1,(f3 b hb).2.1,(f3 b hb).2.2.2.2.1,(f3 b hb).2.2.2.2.2⟩
    refine hR acc s3.heap.objs.size H5 s6 m6 IX O_ I6.free Aj I3.sz (λx c e z=>?_) (λp hp z=>?_) qn
    . obtain⟨v,q⟩:=I3.cell x c e
      exact absurd q.lt (by rw[z];exact jM _)
    . exact absurd (cg (I3.pin p hp).1) (by rw[z];exact jM _)
  . refine bH (T.item (dg X N2 scope cl s3 H3 fp) rfl rfl rfl hc i [] s5 σ5 H5 (λ_ _=>False) I5 (vm K2) uG go) λr s6 ⟨u,hr,h6⟩=>?_
    subst hr
    refine bH h6 λ_ s7 ⟨x,H7,I7,r7,y7,Ak,SI⟩=>?_
    have I7':=I7.pinned (vm SI) (T.obj _ _ Ak)
    refine bH (hg cl s3 H3 fp _ s7 σ5 H7 x u _ I7' r7 (step x H7 y7)) λ_ s8 ⟨σ8,H8,I8,WU,q8⟩=>?_
    refine bH (he cl s3 H3 fp _ s8 σ8 H8 _ I8 q8) λy s9 ⟨v,H9,I9,r9,q9⟩=>?_
    obtain⟨xs,hxs,hxl,m',hm,w9⟩:=hSN σ8 v H9 WU q9
    refine bH (dU _ s9 σ8 H9 (.ref acc) [v] (.ref acc) [y] (λz K3=>z =.cy/\K3=upd H9 acc (.lst (xs++[v]))) I9 rfl (.cons r9 .nil) ⟨acc,xs,v,Z,Z,hxs,hxl,Z,Z⟩) λz s10 ⟨zv,K3,K4,r10,ez,eH⟩=>?_
    subst eH
    refine⟨m',hm,i+1,σ8,_,K4.rm,T.keep _ _ _ Ak λb hb o e=>(K4.pin (b,o) (j9 _ (j9 _ (jP hb e)))).1,λb hb=>?_,w9⟩
    obtain⟨o,e,d⟩:=T.obj _ _ Ak b hb
    exact(K4.pin (b,o) (j9 _ (j9 _ (jP hb e)))).2.1
 exact codeAny_compStart_list loop (T.self _ 0 _ _ _ SH loop)
end
variable {H':Hp}
theorem aM.cA{p:Addr}(e:aM H H')(h:H p=none)(o:HO):aM H (upd H' p o):=λb u q=>by rw[az (aG q h)];exact e b u q
theorem Cw(n d:Int):SeqAt.shaped (.tuple [.int n,.int d])=true:=rfl
theorem Vv(n d:Int):PyData.eqv (.tuple [.int n,.int d]) (.tuple [.int n,.int d])=true:=by simp[PyData.eqv,PyData.eqvAll]
theorem SJ{p:Addr}{q:Rat}(h:H p=some (qg q)):Dt K H (.ref p) (.tuple [.int q.num,.int (q.den:Int)]):=.tup (cS.of h) (.cons (.int _) (.cons (.int _) .nil))
inductive aaw(vs:List V)(H:Hp)(Q:VK)(E:XK):Prop
 |mk(t b:Int)(_:vs=[.int t,.int b])(_:0<b)(_:Jm.Sz 9000 b)(_:∀(r:Addr) (H':Hp),aM H H'->H' r=some (qg (Jm.fr t b))->Q (.ref r) H')
def BL:Sp:=bx (aaw)
theorem HE{E:XK}{t b:Int}(h0:0<b)(h1:Jm.Sz 9000 b)(h:∀(r:Addr) (H':Hp),aM H H'->H' r=some (qg (Jm.fr t b))->Q (.ref r) H'):BL [.int t,.int b] H Q E:=⟨t,b,Z,h0,h1,h⟩
inductive xIs(vs:List V)(H:Hp)(Q:VK)(E:XK):Prop
 |mk(p:Addr)(q:Rat)(t b:Int)(_:vs=[.ref p,.int t,.int b])(_:H p=some (qg q))(_:0<b)(_:Jm.Sz 9000 b)(_:q=Jm.fr t b)(_:∀H',aM H H'->Q (.bl true) H')
def Vw:Sp:=bx (xIs)
theorem aax{E:XK}{p:Addr}{q:Rat}{t b:Int}(hp:H p=some (qg q))(h0:0<b)(h1:Jm.Sz 9000 b)(e:q=Jm.fr t b)(h:∀H',aM H H'->Q (.bl true) H'):Vw [.ref p,.int t,.int b] H Q E:=⟨p,q,t,b,Z,hp,h0,h1,e,h⟩
section
variable {X:Cx}
theorem Vx(hc:X.calm=true):iH X (.builtin "sum") (λxs H Q=>∃(a:Addr)(ns:List Int),xs=[.ref a]/\aB X.K H a (ns.map V.int)/\Q (.int ns.sum) H):=by
 intro pins s σ H xs us Q I r h;obtain⟨a,ns,rfl,hS,q⟩:=h;obtain⟨u,rfl,ru⟩:=vals1 r;cases ru;obtain⟨its,rv,p,hz⟩:=I.list hS;have hi:=intsAre_of rv;have hl:=p.isList;obtain⟨o,ho,_⟩:=id hl;have hne:a≠s.heap.objs.size:=e_ (cg ho);have W:=(Walks.list (prog:=X.prog) (w:=X.w) (A:=X.A.in1) (I.ok.hd hc) s.heap.objs.size a hne its.toArray).toS;have Eb:its.length=ns.length:=by rw[<-rv.length,aE]
 refine call_sum_walkAnyS (QH hl ?_);refine⟨s.heap.objs.size,_,_,_,_,_,_,λi=>ns.getD i 0,Z,W,⟨⟨_,eY _ rfl,Z,Z⟩,hl.at λo e=>cK _ e⟩,λb hb=>?_,λi v hP=>?_,λs' t' hm=>?_⟩
 .rcases dS.mp hb with rfl|hb
  .exact cg (eY _ rfl)
  .obtain rfl:=dj.mp hb;exact cg (cK _ ho)
 .have SK:its[i]?=some v:=by simpa using hP
  have hil:i<ns.length:=by have:=(di.mp SK).1;omega
  obtain⟨u,hu,ru⟩:=rv.get (i:=i) (x:=V.int ns[i]) (by rw[bO,bq hil];rfl);rw[SK]at hu;cases hu;obtain⟨t,e⟩:=ru;refine⟨t,?_⟩;rw[e];show Value.int ns[i] t=Value.int (ns.getD i 0) t;rw[fH,bq hil];rfl
 .obtain ⟨h',g',d',tk',os'⟩:=s';have e1:g'=s.gens:=hm.gens;have e2:d'=s.drawn:=hm.drawn;have e3:os'=s.os:=hm.os;subst e1 e2 e3;have hsz:its.toArray.size=ns.length:=by rw[i9,Eb]
  rw[hsz,preSum_getD,Ka (aQ _)];exact⟨.int ns.sum,H,I.kept (h':=h') (t':=tk') λb o e=>hm.heap b o (λhb=>absurd (cg e) ((dj.mp hb)▸jM _)) (cK _ e),⟨t',Z⟩,q⟩
theorem Vy(hc:X.calm=true):iH X (.builtin "all") (λxs H Q=>∃(a:Addr)(bs:List Bool),xs=[.ref a]/\aB X.K H a (bs.map V.bl)/\Q (.bl (bs.all id)) H):=by
 intro pins s σ H xs us Q I r h;obtain⟨a,bs,rfl,hS,q⟩:=h;obtain⟨u,rfl,ru⟩:=vals1 r;cases ru;obtain⟨its,rv,p,hz⟩:=I.list hS;have hl:=p.isList;obtain⟨o,ho,_⟩:=id hl;have hne:a≠s.heap.objs.size:=e_ (cg ho);have Eb:its.length=bs.length:=by rw[<-rv.length,aE]
 refine call_all_walk (QH hl ?_);refine⟨s.heap.objs.size,_,_,_,_,_,λi=>bs.getD i false,Z,Walks.list (prog:=X.prog) (w:=X.w) (A:=X.A.in1) (I.ok.hd hc) s.heap.objs.size a hne its.toArray,⟨⟨_,eY _ rfl,Z,Z⟩,hl.at λo e=>cK _ e⟩,λi v s' Q' E' hP hQ=>?_,λh' tk hk=>?_⟩
 .have SK:its[i]?=some v:=by simpa using hP
  have hil:i<bs.length:=by have:=(di.mp SK).1;omega
  obtain⟨u,hu,ru⟩:=rv.get (i:=i) (x:=V.bl bs[i]) (by rw[bO,bq hil];rfl);rw[SK]at hu;cases hu;have e:v=Value.bool bs[i] :=ru;subst e;refine CO ?_;have hQ2:Q' (bs.getD i false) s':=hQ;rw[fH,bq hil]at hQ2;exact hQ2
 .have hsz:its.toArray.size=bs.length:=by rw[i9,Eb]
  have e:(List.range its.toArray.size).all (λi=>bs.getD i false)=bs.all id:=by
   rw[hsz,Bs,p6,p6];refine⟨λz x hx=>?_,λz i hi=>?_⟩
   .obtain ⟨i,hi,e⟩:=List.mem_iff_getElem.mp hx;have:=z i (yt.mpr hi);rw[fH,bq hi]at this;rw[<-e];exact this
   .have hi':=yt.mp hi;rw[fH,bq hi'];exact z _ (Br hi')
  rw[e];exact⟨.bl (bs.all id),H,I.kept (h':=h') (t':=tk) λb o e=>hk b o (λhb=>absurd (cg e) ((dj.mp hb)▸jM _)) (cK _ e),Z,q⟩
end
section
variable {X:Cx}(K:Fg)
theorem aO(hK:X.K=K:=by rfl):zK X (Q0 K):=hK▸Sk
theorem aK(hK:X.K=K:=by rfl):zK X (QZ K):=hK▸O6
theorem Yc(hu:X.A.units+64<cLine)(hK:X.K=K:=by rfl):jm X (compareOp .Eq) (aal K):=hK▸aam hu
theorem F_(hu:X.A.units+64<cLine)(hK:X.K=K:=by rfl):jm X (compareOp .NotEq) (Q8 K):=hK▸aan hu
theorem mQ(hc:X.calm=true)(hK:X.K=K:=by rfl):iH X (.builtin "sum") (λxs H Q=>∃(a:Addr)(ns:List Int),xs=[.ref a]/\aB K H a (ns.map V.int)/\Q (.int ns.sum) H):=hK▸Vx hc
theorem SM(hc:X.calm=true)(hK:X.K=K:=by rfl):iH X (.builtin "all") (λxs H Q=>∃(a:Addr)(bs:List Bool),xs=[.ref a]/\aB K H a (bs.map V.bl)/\Q (.bl (bs.all id)) H):=hK▸Vy hc
theorem bL(hK:X.K=K:=by rfl):iH X (.builtin "len") (λxs H Q=>∃p ys,xs=[.ref p]/\(aB K H p ys\/cS K H p ys)/\Q (.int ys.length) H):=hK▸KL
theorem lD(hK:X.K=K:=by rfl):iH X (.type "list") (λxs H Q=>∃p ys,xs=[.ref p]/\(aB K H p ys\/cS K H p ys)/\∀l,H l=none->Q (.ref l) (upd H l (.lst ys))):=hK▸KO
theorem dH(hK:X.K=K:=by rfl):iH X (.builtin "isinstance") (λxs H Q=>∃x n t b,xs=[x,.ty n]/\gT K H x t/\PySem.W.kitOne K t (.type n)=some b/\Q (.bl b) H):=hK▸NK
end
theorem NL{l1 l2:Nat}(h1:l1<n)(h2:l2<n):ZipApart (n+4) (n+2) (n+3) n (n+1) l1 l2:=by
 have nn:∀i j:Nat,i≠j->n+i≠n+j:=λi j h e=>h (Nat.add_left_cancel e);have ne:∀(c k:Nat),c<n->c≠n+k:=λc k h=>by omega
 exact⟨nn 2 4 (by decide),nn 3 4 (by decide),nn 0 4 (by decide),nn 1 4 (by decide),nn 2 3 (by decide),nn 2 0 (by decide),nn 2 1 (by decide),nn 3 0 (by decide),nn 3 1 (by decide),nn 0 1 (by decide),ne _ 4 h1,ne _ 3 h1,ne _ 0 h1,ne _ 1 h1,ne _ 4 h2,ne _ 3 h2,ne _ 0 h2,ne _ 1 h2⟩
section
variable {X:Cx}{elts:List Expr}{kk:Nat}{tpos:Pos}
end
inductive adk(K:Fg)(vs:List V)(H:Hp)(Q:VK)(E:XK):Prop
 |mk(a:Addr)(ns:List Int)(k j:Int)(_:vs=[.ref a,.int k,.int j])(_:aB K H a (ns.map V.int))(_:ns.length<=63)(_:0<=k)(_:0<=j)(_:j<2 ^ 61)(_:∀(m:Int) (H':Hp),1<=m->m<=1000000000->aM H H'->Q (.int m) H')
def Ed(K:Fg):Sp:=bx (adk K)
theorem K5{E:XK}{k j:Int}(hS:aB K H a (ns.map V.int))(h63:ns.length<=63)(h1:0<=k)(h2:0<=j)(h3:j<2 ^ 61)(h:∀(m:Int) (H':Hp),1<=m->m<=1000000000->aM H H'->Q (.int m) H'):Ed K [.ref a,.int k,.int j] H Q E:=⟨a,ns,k,j,Z,hS,h63,h1,h2,h3,h⟩
variable {xs:List V}{i:Nat}
theorem iQ{v:V}(h:xs[i]?=some v):lC xs (i:Int)=some v:=aA h
section
variable {X:Cx}
inductive adl(Q:VK)(vs:List V)(H1:Hp):Prop
 |mk(j:Int)(_:vs=[.int j])(_:∀p,H1 p=none->Q (.ref p) (upd H1 p (.xT 0 j)))
def agv(ta:TA):TE:=λσ H Q=>ta σ H (adl Q)
def upTo(n:Nat):List Int:=(List.range n).map λi=>((i:Nat):Int)
theorem IJ(hc:X.calm=true):iH X (.type "list") (λxs H Q=>∃(r:Addr)(n:Nat),xs=[.ref r]/\H r=some (.xT 0 (n:Int))/\n<=1000/\∀l,H l=none->Q (.ref l) (upd H l (.lst ((upTo n).map V.int)))):=by
 intro pins s σ H xs us Q I r h;obtain⟨a,n,rfl,hr,hn,q⟩:=h;obtain⟨u,rfl,ru⟩:=vals1 r;cases ru;obtain⟨t,t2,t3,e⟩:=(show eV X.prog X.w H s.heap a (.xT 0 (n:Int))from I.hok a _ hr)
 refine call_list_range (n:=n) (I.ok.hd hc) e (small_one (by decide) (by decide) (by omega) (by omega)) (by rw[rangeSize_one];split <;> omega) (by omega) λh' tk acc' c' hk hS hI=>?_;obtain⟨hsz,hit⟩:=hI;have hv:Vals ((upTo n).map V.int) acc'.toList:=by
  have gen:∀(m:Nat)(us:List Value)(k:Nat),us.length=m->(∀(j:Nat)(v:Value),us[j]?=some v->∃t,v =.int ((0:Int)+((k+j:Nat):Int)*1) t)->Vals (((List.range' k m).map λi=>((i:Nat):Int)).map V.int) us:=by
   intro m
   induction m with
   | zero=>intro us k hl _;rw[List.length_eq_zero_iff.mp hl];exact .nil
   | succ m ih=>
    intro us k hl hu;cases us with
    | nil=>cases hl
    | cons v r=>
     obtain⟨t,e⟩:=hu 0 v rfl;refine .cons ⟨t,?_⟩ (ih r (k+1) (by simpa using hl) λj v' hj=>?_)
     .rw [e];show Value.int _ t=Value.int ((k:Nat):Int) t;congr 1;omega
     .obtain ⟨t,e⟩:=hu (j+1) v' (by simpa using hj);exact⟨t,by rw[e];congr 1;omega⟩
  have:=gen n acc'.toList 0 (by simpa using hsz) λj v hj=>by obtain⟨t,e⟩:=hit j v (by simpa using hj);exact⟨t,by rw[e];congr 1;omega⟩
  unfold upTo;rw[List.range_eq_range'];exact this
 have hlen:((upTo n).map V.int).length<=sizeLine:=by unfold upTo;simp;exact small (by omega)
 exact⟨.ref s.heap.objs.size,_,I.laid (a:=s.heap.objs.size) (o:=.lst ((upTo n).map V.int)) (h':=h') (t':=tk) hk (aQ _) ⟨hlen,acc'.toList,c',hv,by simpa using hS⟩,Z,q _ I.fresh⟩
inductive Yd(K:Fg)(Q:VK)(x:V)(y:V)(H2:Hp):Prop
 |mk(_:y =.int (-1))(a xs:_)(_:x =.ref a)(_:aB K H2 a xs)(_:∀p,H2 p=none->Q (.ref p) (upd H2 p (.lst xs.reverse)))
def adm(K:Fg)(ts:TE)(σ:St)(Q:VK):V->Hp->Prop:=λx H1=>ts σ H1 (Yd K Q x)
def agw(K:Fg)(te ts:TE):TE:=λσ H Q=>te σ H (adm K ts σ Q)
end
theorem sum_set:∀(as:List Int)(j:Nat)(x:Int),j<as.length->(as.set j x).sum=as.sum-as.getD j 0+x
 | [],j,_,h=>absurd h (Nat.not_lt_zero _)
 | a::r,0,x,_=>by show(x::r).sum=(a::r).sum-a+x;rw[cQ,cQ];omega
 | a::r,j+1,x,h=>by show(a::r.set j x).sum=(a::r).sum-r.getD j 0+x;rw[cQ,cQ,sum_set r j x (by simpa using h)];omega
theorem oY(as:List Int)(j k:Nat)(x:Int)(h:j<as.length):(as.set j x).getD k 0=if k=j then x else as.getD k 0:=by
 rw[fH,QK];by_cases e:j=k
 .subst e;rw[av rfl,av h,av rfl];rfl
 .rw [au e,au (cu e),<-fH]
theorem lJ{k:Nat}(h:k<n):DZ n (k:Int)=some k:=by unfold DZ;rw[av (by omega),av (by omega)];rfl
abbrev tx(cs:List Nat):Str:=⟨cs.toArray⟩
theorem K6(x:Str):tx x.cps.toList=x:=by cases x;rfl
theorem Al(cs:List Nat):(tx cs).length=cs.length:=by show cs.toArray.size=_;rw[i9]
theorem aay(a b:List Nat):(tx a++tx b:Str)=tx (a++b):=by show(⟨a.toArray++b.toArray⟩:Str)=_;simp[tx]
def WV(cs:List Nat):It:=⟨λi _=>i<cs.length,λi H v H'=>H'=H/\∃c,cs[i]?=some c/\v =.str (tx [c]),λi _=>cs.length<=i⟩
theorem Q9{P:Program}{w:World}{K:Fg}{tg:Expr}(x:Str)(t:Tok)(it:Addr):Turn P w K tg (WV x.cps.toList) [it] it (λi h=>h.IsStrIter it "str_ascii_iterator" x t i) where
 mem:=by simp
 obj:=λi h st b hb=>by
  have e:b=it:=by simpa using hb
  subst e;obtain⟨o,e,c,d⟩:=st;exact⟨o,e,λv z=>by rw[d]at z;cases z⟩
 keep:=λi h h' st k=>let⟨o,ho,r⟩:=st;⟨o,k it (by simp) o ho,r⟩
 item:=by
  intro X hP hw hK hc i pins s σ H E I hf st hg;subst hP hw hK;have hi:i<x.cps.size:=by have hg':i<x.cps.toList.length:=hg;simpa using hg'
  obtain⟨f0,f1,f2,f3,f4,f5⟩:=hf it (by simp);refine wpAny_pyNext_ascii_item st (c:=x.cps[i]) (by simp[hi]) λh' st' sb=>?_;have I1:Inv X pins σ H { s with heap:=h',toks:=s.toks+1 }:=I.turned (t':=s.toks+1) (λb o hb e=>sb.extBut b o hb e) f0 f1 f3 f4 f5;obtain⟨o,e,c,d⟩:=id st';exact⟨_,Z,BD (s:={ s with heap:=h',toks:=s.toks+1 }) e c d (by decide) ⟨.str (tx [x.cps[i]]),H,I1,⟨_,Z⟩,⟨Z,x.cps[i],by simp[hi],Z⟩,st',λb hb=>(hf b hb).1⟩⟩
 done:=by
  intro X hP hw hK hc i pins s σ H E I hf st hg;subst hP hw hK;have hi:x.cps.size<=i:=by have hg':x.cps.toList.length<=i:=hg;simpa using hg'
  obtain⟨f0,f1,f2,f3,f4,f5⟩:=hf it (by simp);exact wpAny_pyNext_ascii_end (I.ok.hd hc) st (by simp;omega) λh' eb=>⟨Z,I.turned (t':=s.toks) (λb o hb e=>eb b o hb e) f0 f1 f3 f4 f5⟩
 self:=λ_ _ _ _ _ st h=>wpAny_pyIter_striter_ascii st h
theorem SN{P:Program}{w:World}{K:Fg}{tg:Expr}(x:Str)(t:Tok)(it:Addr):Turn P w K tg (WV x.cps.toList) [it] it (λi h=>h.IsStrIter it "str_iterator" x t i) where
 mem:=by simp
 obj:=λi h st b hb=>by
  have e:b=it:=by simpa using hb
  subst e;obtain⟨o,e,c,d⟩:=st;exact⟨o,e,λv z=>by rw[d]at z;cases z⟩
 keep:=λi h h' st k=>let⟨o,ho,r⟩:=st;⟨o,k it (by simp) o ho,r⟩
 item:=by
  intro X hP hw hK hc i pins s σ H E I hf st hg;subst hP hw hK;have hi:i<x.cps.size:=by have hg':i<x.cps.toList.length:=hg;simpa using hg'
  obtain⟨f0,f1,f2,f3,f4,f5⟩:=hf it (by simp);refine wpAny_pyNext_wide_item st (c:=x.cps[i]) (by simp[hi]) λh' st' sb=>?_;have I1:Inv X pins σ H { s with heap:=h',toks:=s.toks+1 }:=I.turned (t':=s.toks+1) (λb o hb e=>sb.extBut b o hb e) f0 f1 f3 f4 f5;obtain⟨o,e,c,d⟩:=id st';exact⟨_,Z,BD (s:={ s with heap:=h',toks:=s.toks+1 }) e c d (by decide) ⟨.str (tx [x.cps[i]]),H,I1,⟨_,Z⟩,⟨Z,x.cps[i],by simp[hi],Z⟩,st',λb hb=>(hf b hb).1⟩⟩
 done:=by
  intro X hP hw hK hc i pins s σ H E I hf st hg;subst hP hw hK;have hi:x.cps.size<=i:=by have hg':x.cps.toList.length<=i:=hg;simpa using hg'
  obtain⟨f0,f1,f2,f3,f4,f5⟩:=hf it (by simp);exact wpAny_pyNext_wide_end (I.ok.hd hc) st (by simp;omega) λh' eb=>⟨Z,I.turned (t':=s.toks) (λb o hb e=>eb b o hb e) f0 f1 f3 f4 f5⟩
 self:=λ_ _ _ _ _ st h=>wpAny_pyIter_striter_wide st h
variable {cs:List Nat}{acc:Addr}
section
variable {X:Cx}{tg:Expr}
inductive adn(R:It->Hp->Prop)(x:V)(H1:Hp):Prop
 |mk(cs:List Nat)(_:x =.str (tx cs))(_:R (WV cs:_) H1)
def aaz(te:TE):TI:=λσ H R=>te σ H (adn R)
theorem aaA{l:Expr}{tl:TE}(hl:PE X l tl):PI X tg l (aaz tl):=by
 intro pins s σ H R I h;refine bH (hl pins s σ H _ I h) λv s1 ⟨x,H1,I1,r1,q1⟩=>?_;obtain⟨cs,e,q⟩:=q1;subst e;obtain⟨t,rfl⟩:=r1;have fp:∀b∈[s1.heap.objs.size],qc X pins H1 b:=λb hb=>by
  have e:b=s1.heap.objs.size:=by simpa using hb
  subst e;exact I1.CS (aQ _) (I1.hok.fresh (aQ _))
 have tw:=@SN X.prog X.w X.K tg (tx cs) t s1.heap.objs.size;have ta:=@Q9 X.prog X.w X.K tg (tx cs) t s1.heap.objs.size;cases ha:(tx cs).cps.all (·<128)
 .exact wpAny_pyIter_wide ha ⟨s1.heap.objs.size,[s1.heap.objs.size],_,_,H1,Z,I1.kept (t':=s1.toks) λb o e=>cK _ e,tw,⟨_,eY _ rfl,Z,Z⟩,fp,q⟩
 .exact wpAny_pyIter_ascii ha ⟨s1.heap.objs.size,[s1.heap.objs.size],_,_,H1,Z,I1.kept (t':=s1.toks) λb o e=>cK _ e,ta,⟨_,eY _ rfl,Z,Z⟩,fp,q⟩
theorem Vz{k:Nat}(Pv:Nat->List V->Hp->Prop)(hn:cs.length<=100000)(h0:Pv 0 [] (upd H acc (.lst [])))(hs:∀(i:Nat) (c:Nat) (out:List V) (H1:Hp),cs[i]?=some c->out.length=i->H1 acc=some (.lst out)->Pv i out H1->te (σ2.set k (some (.str (tx [c])))) H1 (yE Pv i acc out))(hd:∀(out:List V) (H1:Hp),out.length=cs.length->H1 acc=some (.lst out)->Pv cs.length out H1->Q (.ref acc) H1):
  D_ (WV cs) (mh k) te acc σ2 H Q:=by
 refine⟨λi m σ' H'=>m=cs.length-i/\i<=cs.length/\(∀v,σ'.set k (some v)=σ2.set k (some v))/\∃out,out.length=i/\H' acc=some (.lst out)/\Pv i out H',⟨cs.length,by simp,gh _,λ_=>rfl,[],Z,ao,h0⟩,?_⟩
 rintro i m σ' H' ⟨rfl,hi,hσ,out,ho,ha,p⟩
 by_cases hlt:i<cs.length
 . refine .inr ⟨hlt,λσ3=>∀v,σ3.set k (some v)=σ2.set k (some v),(yE Pv i acc out),λσ3 v H4 hS ⟨a,b⟩=>?_,λx H1 y=>?_⟩
   . refine⟨out,a,?_,cs.length-(i+1),by omega,Z,hlt,hS,out++[v],by rw[cZ,ho];rfl,ao,b⟩
     have:sizeLine=16777216:=l9
     omega
   . obtain⟨e,c,hc,ex⟩:=y
     subst e ex
     refine⟨λv=>by rw[oB];exact hσ v,?_⟩
     have q2:=hs i c out _ hc ho ha p
     rw[<-hσ]at q2
     exact q2
 . have e:i=cs.length:=by omega
   subst e
   exact .inl ⟨aQ _,hd out H' ho ha p⟩
end
def Ef(signs:Str)(c:Nat):Bool:=!(Builtin.Str.occurrences signs (tx [c]) 0 signs.length 1).isEmpty
def mj(c:Int)(n:Nat):List Nat:=(List.range n).map λi=>97+((c / 26 ^ i) % 26).toNat
theorem yF(c:Int)(n:Nat):(mj c n).length=n:=by unfold mj;rw[aE,FT]
theorem VA(c:Int)(n:Nat):mj c (n+1)=mj c n++[97+((c / 26 ^ n) % 26).toNat] :=by unfold mj;rw[List.range_succ,bP];rfl
theorem SQ{k:Int}(h0:0<=k)(h1:k<26):lC (("abcdefghijklmnopqrstuvwxyz":Str).cps.toList) k=some (97+k.toNat):=by
 have h:∀n:Nat,n<26->("abcdefghijklmnopqrstuvwxyz":Str).cps.toList[n]?=some (97+n):=by decide +kernel
 have e:k=((k.toNat:Nat):Int):=by omega
 have:=aA (h k.toNat (by omega));rw[<-e]at this;exact this
structure Ga(vs:List V)(H:Hp)(Q:VK)(E:XK):Prop where
 ex:∃(c:Int)(n:Nat),vs=[.int c,.int (n:Int)]/\0<=c/\n<=1000/\Q (.str (tx (mj c n))) H
theorem K7{E:XK}{c ni:Int}(e:ni=(n:Int))(hc:0<=c)(hn:n<=1000)(q:Q (.str (tx (mj c n))) H):Ga [.int c,.int ni] H Q E:=by subst e;exact⟨c,n,Z,hc,hn,q⟩
inductive Ye(vs:List V)(H:Hp)(Q:VK)(E:XK):Prop
 |mk(cs:List Nat)(signs:Str)(_:vs=[.str (tx cs),.str signs])(_:cs.length<=100000)(_:∀H',aM H H'->Q (.bl (cs.all (Ef signs))) H')
def CV:Sp:=bx (Ye)
theorem Q_{H:Hp}{Q:VK}{E:XK}{cs:List Nat}{signs:Str}(hl:cs.length<=100000)(q:∀H',aM H H'->Q (.bl (cs.all (Ef signs))) H'):CV [.str (tx cs),.str signs] H Q E:=⟨cs,signs,Z,hl,q⟩
def isName(cs:List Nat):Bool:=decide (1<=(cs.length:Int)) && decide ((cs.length:Int)<=8) && cs.all (Ef "abcdefghijklmnopqrstuvwxyz")
inductive Yg(vs:List V)(H:Hp)(Q:VK)(E:XK):Prop
 |mk(cs:List Nat)(_:vs=[.str (tx cs)])(_:cs.length<=100000)(_:∀H',aM H H'->Q (.bl (isName cs)) H')
def yG:Sp:=bx (Yg)
theorem Eg{E:XK}(hl:cs.length<=100000)(q:∀H',aM H H'->Q (.bl (isName cs)) H'):yG [.str (tx cs)] H Q E:=⟨cs,Z,hl,q⟩
theorem Eh{p q:Prop}(h:if true=true then p else q):p:=by rwa [av rfl]at h
theorem Ei{p q:Prop}(h:if false=true then p else q):q:=by rwa [au gk]at h
variable {cond:Expr}
section
variable {prog:Program}{w:World}{A:Around}{R:Result->Shared->Prop}{s:Shared}
theorem IK{target:Expr}{it acc:Value}(J:Nat->Shared->Prop)(turn:∀n s,J n s->wpAny (model prog w) A (pyNext it) (λr s₁=>match r with
    | none=>R (.ok .next) s₁
    | some v=>wpAny (model prog w) A (letOwnedTupleGo target it v) (λ_ s₂=>wpAny (model prog w) A (assign target env v) (λ_ s₃=>wpAny (model prog w) A (isTrue cond env (eval cond env)) (λok s₃'=>if ok=true then
       wpAny (model prog w) A (eval elt env) (λx s₄=>wpAny (model prog w) A (call (.builtin "list.append") [acc,x]) (λ_ s₅=>∃m,m<n/\J m s₅) (λ_ _=>False) s₄) (λ_ _=>False) s₃'
       else ∃m,m<n/\J m s₃') (λ_ _=>False) s₃) (λ_ _=>False) s₂) (λ_ _=>False) s₁) (λ_ _=>False) s)(n:Nat)(h:J n s):codeAny (model prog w) A (.compLoop (.ListComp elt [⟨target,iter,[cond],0⟩] scope pos) 0 it acc env) R s:=by
 refine codeAny_loop rfl J (λn s hI=>?_) n h
 show wpAny _ A ((compTurn (.ListComp elt [⟨target,iter,[cond],0⟩] scope pos) 0 it acc env).onRaise (λx=>do noteFrame x env;theTreesLotGoes x)) _ _ s
 refine wpAny_noted ?_
 rw[compTurn_list]
 refine ay (Bu (ay (jO (turn n s hI) (λr s₁ h₁=>?_) λ_ _ h'=>h'.elim)))
 cases r with
 | none=>exact bg h₁
 | some v=>
   refine ay (jO h₁ (λ_ s₂ h₂=>ay (jO h₂ (λ_ s₃ h₃=>?_) λ_ _ h'=>h'.elim)) λ_ _ h'=>h'.elim)
   refine ay (wpAny_tests_one (jO h₃ (λok s₃' h₃'=>?_) λ_ _ h'=>h'.elim))
   cases ok with
   | false=>exact bg ⟨Z,Ei h₃'⟩
   | true=>exact ay (ay (jO (Eh h₃') (λx s₄ h₄=>ay (jO h₄ (λ_ s₅ h₅=>bg (bg ⟨Z,h₅⟩)) λ_ _ h'=>h'.elim)) λ_ _ h'=>h'.elim))
end
variable {tc:TT}{wi:TI}{px pos':Pos}
section
variable {X:Cx}
def Ej(J:It)(g:TG)(tc:TT)(te:TE)(acc:Addr)(σ₀:St)(H:Hp)(Q:VK):Prop:=∃W:Nat->Nat->St->Hp->Prop,(∃m,W 0 m σ₀ (upd H acc (.lst [])))/\∀i m σ2 H2,W i m σ2 H2->(J.stop i H2/\Q (.ref acc) H2)\/(J.go i H2/\∃(S:St->Prop)(N:V->Hp->Prop)(N0:Hp->Prop),(∀σ3 v H4,S σ3->N v H4->∃xs,H4 acc=some (.lst xs)/\xs.length<sizeLine/\∃m',m'<m/\W (i+1) m' σ3 (upd H4 acc (.lst (xs++[v]))))/\(∀σ3 H4,S σ3->N0 H4->∃m',m'<m/\W (i+1) m' σ3 H4)/\∀x H',J.DU i H2 x H'->g x σ2 H' λσ3 H3=>S σ3/\tc σ3 H3 λb H4=>if b=true then te σ3 H4 N else N0 H4)
def Yh(ix:List (Option Nat))(g:TG)(tc:TT)(te:TE)(σ:St)(Q:VK):It->Hp->Prop:=λJ H1=>∀acc,H1 acc=none->Ej J g tc te acc (pick ix σ) H1 Q
def Ek(wi:TI)(ix:List (Option Nat))(g:TG)(tc:TT)(te:TE):TE:=λσ H Q=>wi σ H (Yh ix g tc te σ Q)
theorem Cy{ix:List (Option Nat)}{g:TG}{RR:Value->Addr->Result->Shared->Prop}(hc:X.calm=true)(hg:∀cl s₂ H₂ fp,PG (dg X N2 scope cl s₂ H₂ fp) tg g)(he:∀cl s₂ H₂ fp,PE (dg X N2 scope cl s₂ H₂ fp) elt te)(ht:∀cl s₂ H₂ fp,PT (dg X N2 scope cl s₂ H₂ fp) cond tc)(hk:scope.kind =.function)(hn:nX X.N X.env.scope.names scope.names N2 ix=true)(K1:∀y c,(y,c)∈cl->X.env.cells.lookup y=some c)(F0:∀y,(y,NameKind.free)∈scope.names->∃c,(y,c)∈cl){it:Addr}{fp:List Addr}{tn:Nat->Heap->Prop}{J:It}(I:Inv X pins σ H s)(T:Turn X.prog X.w X.K tg J fp it tn)(st:tn 0 s.heap)(f:∀b∈fp,qc X pins H b)(h:∀acc,H acc=none->Ej J g tc te acc (ix.map λo=>o.bind λj=>(σ[j]?).join) H Q)(hR:∀acc C H' s' m,Inv X pins σ H' s'->s'.heap.Ns C m->H' C=none->C≠X.env.locals->X.s₀.heap.objs.size<=C->(∀x c,X.env.cells.lookup x=some c->c≠C)->(∀p∈X.pn++pins,p.1≠C)->Q (.ref acc) H'->RR (.ref acc) C (.ok .next) s'):
  wpAny (model X.prog X.w) X.A (newList []) (λacc s₃=>wpAny (model X.prog X.w) X.A (newFunctionEnv scope X.env.globals cl [] X.env.qual none .none (some X.env)) (λcenv s₄=>
   codeAny (model X.prog X.w) X.A (.compStart (.ListComp elt [⟨tg,iter,[cond],0⟩] scope pos) 0 (.ref it) acc { cenv with scope:=relabel scope X.env }) (RR acc cenv.locals) s₄) E s₃) E s:=by
 obtain⟨k1,k2,k3,k4,k5⟩:=nF hn
 refine yp ?_
 have I3:Inv X pins σ (upd H s.heap.objs.size (.lst [])) { s with heap:=s.heap.push { cls:=.type "list",data:=.seq ([] :List Value).toArray } }:=
  I.laid (a:=s.heap.objs.size) (o:=.lst []) (t':=s.toks) (λ_ _ q=>cK _ q) (aQ _) ⟨gh _,[],_,.nil,eY _ rfl⟩
 obtain⟨W,⟨m0,w0⟩,turn⟩:=h s.heap.objs.size I.fresh
 have fo:∀b∈fp,b<s.heap.objs.size:=λb hb=>by obtain⟨o,e,_⟩:=T.obj 0 _ st b hb;exact cg e
 have st3:tn 0 (s.heap.push { cls:=.type "list",data:=.seq ([] :List Value).toArray }):=T.keep _ _ _ st λb _ o e=>cK _ e
 have f3:∀b∈fp,qc X pins (upd H s.heap.objs.size (.lst [])) b:=λb hb=>⟨by rw[az (e_ (fo b hb))];exact(f b hb).1,(f b hb).2⟩
 have SG:∀b∈fp,b<(s.heap.push { cls:=.type "list",data:=.seq ([] :List Value).toArray }).objs.size:=λb hb=>by rw[nv];exact QJ (fo b hb)
 generalize es3:({ s with heap:=s.heap.push { cls:=.type "list",data:=.seq ([] :List Value).toArray } }:Shared)=s3 at *
 have eh3:s3.heap=s.heap.push { cls:=.type "list",data:=.seq ([] :List Value).toArray }:=by rw[<-es3]
 rw[<-eh3]at st3 SG
 generalize s.heap.objs.size=acc at *
 generalize eH3:upd H acc (.lst [])=H3 at *
 have IY:=D9 (N2:=N2) (scope:=scope) (cl:=cl) (fp:=fp) (σ2:=ix.map λo=>o.bind λj=>(σ[j]?).join) I3 hk K1 F0 f3 SG (by rw[aE];exact k1) (λi x v e1 e2=>by
  rw[bO]at e2;cases ei:ix[i]? with
  | none=>rw[ei]at e2;cases e2
  | some o=>
   rw[ei]at e2;cases o with
   | none=>cases e2
   | some j=>
    obtain⟨a1,a2,a3⟩:=k2 i x j e1 ei;refine⟨a2,a3,j,a1,?_⟩;have e3:(σ[j]?).join=some v:=gJ e2;cases ej:σ[j]? with
    | none=>rw[ej]at e3;cases e3
    | some z=>rw[ej]at e3;exact gR some e3) k5
 have ne:wpAny (model X.prog X.w) X.A (newFunctionEnv scope X.env.globals cl [] X.env.qual none .none (some X.env)) (λcenv s₄=>
   cenv={ scope:=scope,locals:=s3.heap.objs.size,globals:=X.env.globals,cells:=cellsFrom (s3.heap.objs.size+1) scope.names cl,qual:=X.env.qual,func:=none,code:=X.env.code,frame:=X.env.frame,builtins:=X.env.builtins }/\
   s₄={ s3 with heap:=pushCells (s3.heap.push { cls:=.type "dict",data:=.dict #[] }) scope.names }) E s3:=by
  simp only[newFunctionEnv,Option.isSome_some,if_true]
  refine ay (wpAny_alloc ?_)
  refine ay (wpAny_layCells _ (λname kind cells=>by cases hkc:kind==NameKind.cell <;> simp[hkc]) _ _ _ _ ?_)
  rw[DM]
  refine ay (bg (bg ⟨?_,Z⟩))
  rw[show({ s3 with heap:=s3.heap.push { cls:=.type "dict",data:=.dict #[] } }:Shared).heap.objs.size=s3.heap.objs.size+1 from nv ..]
 refine bH ne λcenv s4 ⟨e1,e2⟩=>?_
 subst e1 e2
 have SH:tn 0 (pushCells (s3.heap.push { cls:=.type "dict",data:=.dict #[] }) scope.names):=T.keep _ _ _ st3 λb _ o e=>JU _ _ b o (cK _ e)
 have Aj:s3.heap.objs.size≠X.env.locals:=yu I3.lt
 have vm:∀{H':Hp},(∀b∈fp,H' b=none)->∀b∈fp,qc (dg X N2 scope cl s3 H3 fp) [] H' b:=λ{H'} hn b hb=>
  ⟨hn b hb,(IY.ok.OY b hb).1,IY.ok.FW b hb,.inl hb,(IY.ok.OY b hb).2,λp hp=>nomatch hp⟩
 have loop:codeAny (model X.prog X.w) X.A (.compLoop (.ListComp elt [⟨tg,iter,[cond],0⟩] scope pos) 0 (.ref it) (.ref acc) (dg X N2 scope cl s3 H3 fp).env) (RR (.ref acc) s3.heap.objs.size)
   { s3 with heap:=pushCells (s3.heap.push { cls:=.type "dict",data:=.dict #[] }) scope.names }:=by
  refine IK (λn s'=>∃i σ' H',Inv (dg X N2 scope cl s3 H3 fp) [] σ' H' s'/\tn i s'.heap/\(∀b∈fp,H' b=none)/\W i n σ' H') ?_ m0 ⟨0,_,H3,IY,SH,λb hb=>(f3 b hb).1,w0⟩
  rintro n s5 ⟨i,σ5,H5,I5,uG,K2,w5⟩
  rcases turn i n σ5 H5 w5 with⟨stop,qn⟩|⟨go,S,N,N0,hSN,hS0,step⟩
  . refine bH (T.done (dg X N2 scope cl s3 H3 fp) rfl rfl rfl hc i [] s5 σ5 H5 (λ_ _=>False) I5 (vm K2) uG stop) λr s6 ⟨hr,I6⟩=>?_
    subst hr
    obtain⟨m6,O_,_⟩:=id I6.loc
    have IX:Inv X pins σ H5 s6:=I3.WG (ch:=fp) I6.os I6.base I6.hok I6.bare λb hb=>⟨(f3 b hb).2.2.2.1,(f3 b hb).2.1,(f3 b hb).2.2.2.2.1,(f3 b hb).2.2.2.2.2⟩
    refine hR acc s3.heap.objs.size H5 s6 m6 IX O_ I6.free Aj I3.sz (λx c e z=>?_) (λp hp z=>?_) qn
    . obtain⟨v,q⟩:=I3.cell x c e
      exact absurd q.lt (by rw[z];exact jM _)
    . exact absurd (cg (I3.pin p hp).1) (by rw[z];exact jM _)
  . refine bH (T.item (dg X N2 scope cl s3 H3 fp) rfl rfl rfl hc i [] s5 σ5 H5 (λ_ _=>False) I5 (vm K2) uG go) λr s6 ⟨u,hr,h6⟩=>?_
    subst hr
    refine bH h6 λ_ s7 ⟨x,H7,I7,r7,y7,Ak,SI⟩=>?_
    have I7':=I7.pinned (vm SI) (T.obj _ _ Ak)
    refine bH (hg cl s3 H3 fp _ s7 σ5 H7 x u _ I7' r7 (step x H7 y7)) λ_ s8 ⟨σ8,H8,I8,WU,q8⟩=>?_
    refine bH (ht cl s3 H3 fp _ s8 σ8 H8 _ I8 q8) λok s9' ⟨H9',WW,q9'⟩=>?_
    cases ok with
    | false=>
      obtain⟨m',hm,w9⟩:=hS0 σ8 H9' WU (Ei q9')
      refine ite_ff ⟨m',hm,i+1,σ8,_,WW.rm,T.keep _ _ _ Ak λb hb o e=>(WW.pin (b,o) (j9 _ (j9 _ (jP hb e)))).1,λb hb=>?_,w9⟩
      obtain⟨o,e,d⟩:=T.obj _ _ Ak b hb
      exact(WW.pin (b,o) (j9 _ (j9 _ (jP hb e)))).2.1
    | true=>
      refine ite_tt ?_
      refine bH (he cl s3 H3 fp _ s9' σ8 H9' _ WW (Eh q9')) λy s9 ⟨v,H9,I9,r9,q9⟩=>?_
      obtain⟨xs,hxs,hxl,m',hm,w9⟩:=hSN σ8 v H9 WU q9
      refine bH (dU _ s9 σ8 H9 (.ref acc) [v] (.ref acc) [y] (λz K3=>z =.cy/\K3=upd H9 acc (.lst (xs++[v]))) I9 rfl (.cons r9 .nil) ⟨acc,xs,v,Z,Z,hxs,hxl,Z,Z⟩) λz s10 ⟨zv,K3,K4,r10,ez,eH⟩=>?_
      subst eH
      refine⟨m',hm,i+1,σ8,_,K4.rm,T.keep _ _ _ Ak λb hb o e=>(K4.pin (b,o) (j9 _ (j9 _ (jP hb e)))).1,λb hb=>?_,w9⟩
      obtain⟨o,e,d⟩:=T.obj _ _ Ak b hb
      exact(K4.pin (b,o) (j9 _ (j9 _ (jP hb e)))).2.1
 exact codeAny_compStart_list loop (T.self _ 0 _ _ _ SH loop)
theorem VB(N2:List Str)(ix:List (Option Nat)){g:TG}(hc:X.calm=true)(hi:PI X tg iter wi)(hg:∀cl s₂ H₂ fp,PG (dg X N2 scope cl s₂ H₂ fp) tg g)(he:∀cl s₂ H₂ fp,PE (dg X N2 scope cl s₂ H₂ fp) elt te)(ht:∀cl s₂ H₂ fp,PT (dg X N2 scope cl s₂ H₂ fp) cond tc)(hk:scope.kind =.function)(hn:nX X.N X.env.scope.names scope.names N2 ix=true)(hs:∀x,foldedSetIterable iter X.env x=pure x:=by intro _;rfl):
  PE X (.ListComp elt [⟨tg,iter,[cond],0⟩] scope pos) (Ek wi ix g tc te):=by
 intro pins s σ H Q I h
 obtain⟨k1,k2,k3,k4,k5⟩:=nF hn
 obtain⟨cl,K8,c1,c2⟩:=uN (scope:=scope) (env:=X.env) λy hy e=>I.ok.has y.1 (k3 y hy e)
 rw[eval_ListComp]
 refine Qw (use:=none) rfl hs K8 hk k4 (bH (hi pins s σ H _ I h) λv s1 h1=>bH h1 λitv s2 h2=>?_)
 obtain⟨it,fp,tn,J,H2,e,I2,T,st2,f2,h2⟩:=h2
 subst e
 refine Cy (RR:=λacc C=>compPost (model X.prog X.w) X.A X.xe none (EP X pins σ Q) acc C) (Q:=Q) hc hg he ht hk hn (λy c m=>(c1 y c m).1) c2 I2 T st2 f2 h2 ?_
 intro acc C H' s' m I' ns Aj hL hsz qh yH q
 exact⟨m,ns,λh' hs'=>⟨.ref acc,H',I'.turned (it:=C) (t':=s'.toks) (λb o hb e=>(hs'.2 b hb).trans e) Aj hL (.inr hsz) qh yH,Z,q⟩⟩
theorem VC(N2:List Str)(ix:List (Option Nat)){g:TG}(hN:X.N.Nodup)(hi:X.N[i]?=some x)(hx:X.env.scope.names.lookup x=some .local)(hc:X.calm=true)(hit:PI X tg iter wi)(hg:∀cl s₂ H₂ fp,PG (dg X N2 scope cl s₂ H₂ fp) tg g)(he:∀cl s₂ H₂ fp,PE (dg X N2 scope cl s₂ H₂ fp) elt te)(ht:∀cl s₂ H₂ fp,PT (dg X N2 scope cl s₂ H₂ fp) cond tc)(hk:scope.kind =.function)(hn:nX X.N X.env.scope.names scope.names N2 ix=true)(hw:swapsWith (.ListComp elt [⟨tg,iter,[cond],0⟩] scope pos) (some (.Name x px)) pos'.line X.env=pure true)(hs:∀x,foldedSetIterable iter X.env x=pure x:=by intro _;rfl):
  PS X (.Assign [.Name x px] (.ListComp elt [⟨tg,iter,[cond],0⟩] scope pos) pos') (Ky (Ek wi ix g tc te) (mh i)):=by
 intro pins s σ H D I h
 obtain⟨k1,k2,k3,k4,k5⟩:=nF hn
 obtain⟨cl,K8,c1,c2⟩:=uN (scope:=scope) (env:=X.env) λy hy e=>I.ok.has y.1 (k3 y hy e)
 rw[exec_Assign_Name_used _ _ _ _ hw]
 refine ay (Bu (ay ?_))
 show wpAny _ X.A (do let _ <-comprehension (.ListComp elt [⟨tg,iter,[cond],0⟩] scope pos) scope X.env _ (newList []) false (eval iter X.env) (some (assign (.Name x px) X.env))) _ _ s
 refine ay (bH (Qw (use:=some (assign (.Name x px) X.env)) (Q:=λ_ s'=>SP X pins D .next s') rfl hs K8 hk k4 (bH (hit pins s σ H _ I h) λv s1 h1=>bH h1 λitv s2 h2=>?_)) λ_ s' hq=>bg (bg hq))
 obtain⟨it,fp,tn,J,H2,e,I2,T,st2,f2,h2⟩:=h2
 subst e
 refine Cy (RR:=λacc C=>compPost (model X.prog X.w) X.A X.xe (some (assign (.Name x px) X.env)) (λ_ s'=>SP X pins D .next s') acc C) (Q:=λv H'=>D.nx (σ.set i (some v)) H') hc hg he ht hk hn (λy c m=>(c1 y c m).1) c2 I2 T st2 f2 h2 ?_
 intro acc C H' s' m I' ns Aj hL hsz qh yH q
 show wpAny _ X.A (assign (.Name x px) X.env (.ref acc)) _ _ _
 refine wpAny_assign_Name (z_ I' hN hi (.inl hx) (v:=.ref acc) rfl (λs3 I3 ⟨a,sb,ha⟩=>?_) (.inr hx))
 have ca:C≠a:=by
  rcases ha with z|z
  .rw [z];exact hL
  .exact λe=>qh x a z e.symm
 exact⟨m,ns.sameBut sb ca,λh' hs'=>⟨_,H',I3.turned (it:=C) (t':=s3.toks) (λb o hb e=>(hs'.2 b hb).trans e) Aj hL (.inr hsz) qh yH,q⟩⟩
end
theorem yI{α:Type}[DecidableEq α] :∀{l m:List α},l.Nodup->(∀x∈l,x∈m)->l.length<=m.length
 | [],_,_,_=>gh _
 | x::r,m,h,hs=>by
  have hn:=gK.mp h;have hx:=hs x cT;have:=yI (l:=r) (m:=m.erase x) hn.2 λy hy=>by have hne:y≠x:=λe=>hn.1 (e▸hy);exact(List.mem_erase_of_ne hne).mpr (hs y (cW _ hy))
  rw[List.length_erase_of_mem hx]at this;have hp:0<m.length:=List.length_pos_of_mem hx;rw[iF];omega
theorem SR(c:Int)(h:i<n):(mj c n)[i]?=some (97+((c / 26 ^ i) % 26).toNat):=by unfold mj;rw[bO,List.getElem?_range h];rfl
theorem Yi{c c':Int}{d:Nat}(h:d<n)(e:mj c n=mj c' n):(c / 26 ^ d) % 26=(c' / 26 ^ d) % 26:=by have h1:=SR c h;rw[e,SR c' h]at h1;have h2:=gJ h1;have a0:0<=(c / 26 ^ d) % 26:=oz _ (by decide);have b0:0<=(c' / 26 ^ d) % 26:=oz _ (by decide);omega
structure qi(x:List Nat):Prop where
 lo:1<=x.length
 hi:x.length<=8
 Yj:∀c∈x,97<=c/\c<123
theorem aaC(c:Int)(h1:1<=n)(h2:n<=8):qi (mj c n):=by refine⟨by rw[yF];exact h1,by rw[yF];exact h2,λx hx=>?_⟩;obtain⟨i,_,rfl⟩:=a_.mp hx;have a0:0<=(c / 26 ^ i) % 26:=oz _ (by decide);have a1:(c / 26 ^ i) % 26<26:=yo _ (by decide);omega
def tF(nss:List (List Nat)):List V:=nss.map λx=>V.str (tx x)
theorem VD(nss:List (List Nat)):(tF nss).all sy=true:=by unfold tF;rw[List.all_map,p6];exact λ_ _=>rfl
theorem SS{a b:List Nat}(h:tx a=tx b):a=b:=by
 have:a.toArray=b.toArray:=by injection h
 simpa using this
theorem Pa(x:List Nat)(nss:List (List Nat)):Hy (.str (tx x)) (tF nss)=decide (x∈nss):=by
 unfold Hy tF;rw[List.any_map,Bs,List.any_eq_true,decide_eq_true_eq];constructor
 .rintro ⟨y,hy,e⟩;have e2:zL (.str (tx y)) (.str (tx x))=true:=e;have e3:tx y=tx x:=by unfold zL at e2;simpa using e2
  rw[<-SS e3];exact hy
 .intro h;refine⟨x,h,?_⟩;show zL (.str (tx x)) (.str (tx x))=true;unfold zL;simp
theorem Yk(x:Str):PyData.eqv (.str x) (.str x)=true:=by unfold PyData.eqv;exact yq x
open PySem.NumText
section
variable {X:Cx}
end
def Ra(lo st:Int)(n:Nat):It:=⟨λi _=>i<n,λi H x H'=>H'=H/\x =.int (lo+i*st),λi _=>n<=i⟩
variable {P:Program}{w:World}
theorem NN(it:Addr)(lo st:Int)(n:Nat):Turn P w K tg (Ra lo st n) [it] it (λi h=>IsRangeIter h it (lo+(i:Nat)*st) ((n:Int)-(i:Nat)) st) where
 mem:=by simp
 obj:=λi h st b hb=>by
  have e:b=it:=by simpa using hb
  subst e;exact⟨_,st,λv z=>by have z':Data.fields _=Data.cell v:=z;cases z'⟩
 keep:=λi h h' st k=>k it (by simp) _ st
 item:=by intro X hP hw hK hc i pins s σ H E I hf st' hg;subst hP hw hK;obtain⟨f0,f1,f2,f3,f4,f5⟩:=hf it (by simp);have W:=Walks.range (prog:=X.prog) (w:=X.w) (I.ok.hd hc) it lo st n;refine W.item i s _ _ hg st' λv h' tk hv st2 kk=>?_;obtain⟨t,rfl⟩:=hv;have I1:Inv X pins σ H { s with heap:=h',toks:=tk }:=I.turned (λb o hb e=>kk b o (by simpa using hb) e) f0 f1 f3 f4 f5;exact⟨_,Z,BD (s:={ s with heap:=h',toks:=tk }) (n:="range_iterator") st2 rfl rfl (by decide) ⟨.int (lo+i*st),H,I1,⟨t,Z⟩,⟨Z,Z⟩,st2,λb hb=>(hf b hb).1⟩⟩
 done:=by intro X hP hw hK hc i pins s σ H E I hf st' hg;subst hP hw hK;obtain⟨f0,f1,f2,f3,f4,f5⟩:=hf it (by simp);exact wpAny_pyNext_range_end (I.ok.hd hc) st' (by have:n<=i:=hg;omega) λh' eb=>⟨Z,I.turned (t':=s.toks) (λb o hb e=>eb b o hb e) f0 f1 f3 f4 f5⟩
 self:=λ_ _ _ _ _ st h=>wpAny_pyIter_rangeiter st h
section
variable {X:Cx}{tg:Expr}
def rC(lo hi st:Int):Nat:=(Builtin.Range.rangeSize lo hi st).toNat
inductive aaD(R:It->Hp->Prop)(vs:List V)(H1:Hp):Prop
 |mk(i j k:Int)(_:vs=[.int i,.int j,.int k])(_:(0<=i/\i<=1000000/\0<=j/\j<=1000000/\0<k/\k<=1000000))(_:R (Ra i k (rC i j k)) H1)
def ado(ta:TA):TI:=λσ H R=>ta σ H (aaD R)
theorem NO{a b c:Int}(h1:0<=a)(h2:a<=1000000)(h3:0<=b)(h4:b<=1000000)(h5:0<c)(h6:c<=1000000):Builtin.Range.small a b c=true/\0<=Builtin.Range.rangeSize a b c:=by
 have hr:0<=Builtin.Range.rangeSize a b c/\Builtin.Range.rangeSize a b c<=1000001:=by
  unfold Builtin.Range.rangeSize;rw[av (by omega)];split
  .have e0:0<=(b-a-1) / c:=JS (by omega) (by omega);have e1:(b-a-1) / c<=b-a-1:=DI _ (by omega);omega
  .omega
 refine⟨?_,hr.1⟩;unfold Builtin.Range.small;simp only[Builtin.Range.rangeFitsLong,Bool.and_eq_true,Bool.or_eq_true,decide_eq_true_eq,uM,show c>0 from h5,if_true];omega
end
theorem Yl(signs:Str)(c:Nat):Ef signs c=decide (c∈signs.cps.toList):=PySem.StrLaws.found_one signs c
open Builtin Builtin.Str
section
variable {X:Cx}
end
theorem Pb(c:Int)(j d:Nat):(c+(j:Int)*26 ^ d) / 26 ^ d=c / 26 ^ d+(j:Int):=by have hp:(26:Int) ^ d≠0:=Int.ne_of_gt (Int.pow_pos (by decide));rw[Int.add_mul_ediv_right _ _ hp]
variable {nss:List (List Nat)}{t:Nat}
theorem SV{c:Int}{d:Nat}(h2:d<n)(ht:t<=26)(h:∀j:Nat,j<t->mj (c+(j:Int)*26 ^ d) n∈nss):t<=nss.length:=by
 have hn:((List.range t).map λj=>mj (c+((j:Nat):Int)*26 ^ d) n).Nodup:=by have:(List.range t).Pairwise (λa b=>a<b):=List.pairwise_lt_range;refine List.Pairwise.map _ ?_ (List.Pairwise.and_mem.mp this);rintro a b ⟨ha,hb,hab⟩ e;have ha':=yt.mp ha;have hb':=yt.mp hb;have:=Yi h2 e;rw[Pb,Pb]at this;omega
 have:=yI hn λx hx=>by obtain⟨j,hj,rfl⟩:=a_.mp hx;exact h j (yt.mp hj)
 rw[aE,FT]at this;exact this
inductive aaE(K:Fg)(vs:List V)(H:Hp)(Q:VK)(E:XK):Prop
 |mk(a:Addr)(ms:List Int)(k:Int)(many:Nat)(_:vs=[.ref a,.int k,.int (many:Int)])(_:aB K H a (ms.map V.int))(_:ms.length<=63)(_:0<=k)(_:many<=25)(_:∀(z:Addr) (nss:List (List Nat)) (H':Hp),aM H H'->H' z=some (.lst (tF nss))->H z=none->nss.length=many->nss.Nodup->(∀x∈nss,qi x)->Q (.ref z) H')
def Gb(K:Fg):Sp:=bx (aaE K)
theorem HF{E:XK}{ms:List Int}{k mi:Int}{many:Nat}(hmi:mi=(many:Int))(hS:aB K H a (ms.map V.int))(h63:ms.length<=63)(h1:0<=k)(h2:many<=25)(h:∀(z:Addr) (nss:List (List Nat)) (H':Hp),aM H H'->H' z=some (.lst (tF nss))->H z=none->nss.length=many->nss.Nodup->(∀x∈nss,qi x)->Q (.ref z) H'):Gb K [.ref a,.int k,.int mi] H Q E:=by
 subst hmi
 exact⟨a,ms,k,many,Z,hS,h63,h1,h2,h⟩
theorem xY{a:List (Key×V)}{b:List (Key×Value)}(r:KV a b):∀{j:Nat}{p:Key×V},a[j]?=some p->∃q,b[j]?=some q/\p.1=q.1/\RelV p.2 q.2:=by
 induction r with
 | nil=>intro j p z;simp at z
 | cons r1 _ ih=>
  intro j p z;cases j with
  | zero=>simp at z;subst z;exact⟨_,Z,r1⟩
  | succ j=>simp at z;obtain⟨q,a1,a2⟩:=ih z;exact⟨q,by simpa using a1,a2⟩
abbrev pT(H:Hp)(d:Addr)(o:Obj)(kvs:List (Key×V)):Prop:=H d=some (.fZ o (.dK kvs))
section
variable {X:Cx}{pins:AO}{σ σ':St}{H H':Hp}{s s':Shared}{d:Addr}{kvs:List (Key×V)}{o:Obj}
theorem Inv.freeze(I:Inv X pins σ H s)(e:H d=some (.dK kvs))(ho:s.heap.get? d=some o):Inv X pins σ (upd H d (.fZ o (.dK kvs))) s:=by
 have nd:∀{b:Addr},H b=none->b≠d:=λh z=>by rw[z,e]at h;cases h
 have dn:∀{b:Addr},H b=none->upd H d (.fZ o (.dK kvs)) b=none:=λh=>by rw[az (nd h)];exact h
 have un:∀{b:Addr}{u:HO},H b=some u->(∀k,u ≠ .dK k)->b≠d:=λh k z=>by rw[z,e]at h;cases h;exact k _ rfl
 refine⟨I.ok,I.os,I.bare,⟨I.base.keep,I.base.slot,λb ob q n x=>dn (I.base.free b ob q n x),I.base.there,λb xs q=>?_,λb ob u q=>?_,λb ps q=>?_⟩,I.loc,I.cell,dn I.free,λx c q=>dn (I.oF x c q),λp hp=>?_,λb ob q=>?_,I.len⟩
 .have:=I.base.tups b xs q;rw[az (un this λk z=>by cases z)];exact this
 .have:=I.base.tV b ob u q;rw[az (un this λk z=>by cases z)];exact this
 .obtain ⟨more,this⟩:=I.base.xx b ps q;exact⟨more,by rw[az (un this λk z=>by cases z)];exact this⟩
 .obtain ⟨h1,h2,h3⟩:=I.pin p hp;exact⟨h1,dn h2,h3⟩
 .by_cases hb:b=d
  .subst hb;rw[ao]at q;cases q;have:=I.hok b _ e;exact⟨ho,this⟩
  .rw [az hb]at q;refine(I.hok b ob q).stay (λc u _ z=>z) (λc z=>?_) λc xs z=>?_
   .rw [az (un z λk z=>by cases z)];exact z
   .rw [az (un z λk z=>by cases z)];exact z
theorem Inv.CW(I:Inv X pins σ H s)(e:pT H d o kvs)(h0:∀o u,X.H₀ d≠some (.fZ o u)):Inv X pins σ (upd H d (.dK kvs)) s:=by
 have nd:∀{b:Addr},H b=none->b≠d:=λh z=>by rw[z]at h;exact absurd (h.symm.trans e) (by simp)
 have dn:∀{b:Addr},H b=none->upd H d (.dK kvs) b=none:=λh=>by rw[az (nd h)];exact h
 have un:∀{b:Addr}{u:HO},H b=some u->(∀o k,u ≠ .fZ o k)->b≠d:=λh k z=>by rw[z]at h;have:=h.symm.trans e;cases this;exact k _ _ rfl
 refine⟨I.ok,I.os,I.bare,⟨I.base.keep,I.base.slot,λb ob q n x=>dn (I.base.free b ob q n x),I.base.there,λb xs q=>?_,λb ob u q=>?_,λb ps q=>?_⟩,I.loc,I.cell,dn I.free,λx c q=>dn (I.oF x c q),λp hp=>?_,λb ob q=>?_,I.len⟩
 .have:=I.base.tups b xs q;rw[az (un this λ_ k z=>by cases z)];exact this
 .have:=I.base.tV b ob u q;rw[az (λ(z:b=d)=>h0 ob u (by rw[<-z];exact q))];exact this
 .obtain ⟨more,this⟩:=I.base.xx b ps q;exact⟨more,by rw[az (un this λ_ k z=>by cases z)];exact this⟩
 .obtain ⟨h1,h2,h3⟩:=I.pin p hp;exact⟨h1,dn h2,h3⟩
 .by_cases hb:b=d
  .subst hb;rw[ao]at q;cases q;exact(I.hok b _ e).2
  .rw [az hb]at q;refine(I.hok b ob q).stay (λc u _ z=>z) (λc z=>?_) λc xs z=>?_
   .rw [az (un z λ_ k z=>by cases z)];exact z
   .rw [az (un z λ_ k z=>by cases z)];exact z
theorem Inv.SW(I:Inv X pins σ H s)(e:H d=some (.dK kvs)):∀o u,X.H₀ d≠some (.fZ o u):=λo u z=>by have:=I.base.tV d o u z;rw[e]at this;cases this
theorem Inv.sL(I:Inv X pins σ H s)(e:pT H d o kvs):s.heap.get? d=some o/\kvs.length<=sizeLine/\(d==sysModules)=false/\∃vs ep,KV kvs vs/\s.heap.DictAt (dh X.prog X.w) d vs ep:=by
 obtain⟨ho,hz,hs,vs,r,dd⟩:=(show eV X.prog X.w H s.heap d (.fZ o (.dK kvs))from I.hok d _ e)
 obtain⟨ep,da⟩:=dd.dictAt;exact⟨ho,hz,hs,vs,ep,r,da⟩
end
def Ends.CW(D:Ends)(d:Addr)(o:Obj)(kvs:List (Key×V)):Ends where
 nx:=λσ H=>pT H d o kvs/\D.nx σ (upd H d (.dK kvs))
 rt:=λv H=>pT H d o kvs/\D.rt v (upd H d (.dK kvs))
 bk:=λσ H=>pT H d o kvs/\D.bk σ (upd H d (.dK kvs))
 ct:=λσ H=>pT H d o kvs/\D.ct σ (upd H d (.dK kvs))
inductive agx(t:TS)(D:Ends)(σ:St)(H:Hp):Prop
 |mk(d kvs:_)(_:H d=some (.dK kvs))(_:∀o,t (D.CW d o kvs) σ (upd H d (.fZ o (.dK kvs))))
def agy(t:TE):TE:=λσ H Q=>∃d kvs,H d=some (.dK kvs)/\∀o,t σ (upd H d (.fZ o (.dK kvs))) λv H'=>pT H' d o kvs/\Q v (upd H' d (.dK kvs))
def Itv(d:Addr)(o:Obj)(kvs:List (Key×V)):It:=⟨λi H=>pT H d o kvs/\i<kvs.length,λi H x H'=>H'=H/\∃p,kvs[i]?=some p/\x=p.2,λi H=>pT H d o kvs/\kvs.length<=i⟩
def Iti(d:Addr)(o:Obj)(kvs:List (Key×V)):It:=⟨λi H=>pT H d o kvs/\i<kvs.length,λi H x H'=>∃a p,H a=none/\kvs[i]?=some p/\x =.ref a/\H'=upd H a (.tup [kV p.1,p.2]),λi H=>pT H d o kvs/\kvs.length<=i⟩
variable {h:Heap}{d:Addr}{es:Array DictEntry}
theorem BN{vs:List (Key×Value)}{e1 e2:Nat}{o:Obj}(da:h.DictAt (dh P w) d vs e1)(ho:h.get? d=some o)(hd:o.data =.dict es e2):e1=e2:=by obtain⟨o',es',h1,_,h2,_⟩:=da;rw[ho]at h1;cases h1;rw[hd]at h2;cases h2;rfl
theorem K9{k:Key}{v:Value}(h:(dh P w).is k v=true):RelV (kV k) v:=by
 rw[QM]at h;rcases gO h with⟨i,t,rfl,rfl⟩|⟨x,t,rfl,rfl⟩
 .exact ⟨t,Z⟩
 .exact ⟨t,Z⟩
variable {it:Addr}{kvs:List (Key×V)}{ep:Nat}
theorem SX{o:Obj}(hd:o.data =.dict es ep):Turn P w K tg (Itv d o kvs) [it] it (λi h=>h.IsValIter it d i kvs.length ep) where
 mem:=by simp
 obj:=λi h st b hb=>by
  have e:b=it:=by simpa using hb
  subst e;obtain⟨o,e,c,d⟩:=st;exact⟨o,e,λv z=>by rw[d]at z;cases z⟩
 keep:=λi h h' st k=>st.at λo e=>k it (by simp) o e
 item:=by intro X hP hw hK hc i pins s σ H E I hf st hg;subst hP hw hK;obtain⟨hz,hlt⟩:=hg;obtain⟨ho,_,_,vs,xV,r,da⟩:=I.sL hz;cases BN da ho hd;have hl:kvs.length=vs.length:=r.length;obtain⟨q,hq,_,rq⟩:=xY r (bq hlt);obtain⟨qk,qv⟩:=q;rw[hl]at st;obtain⟨f0,f1,f2,f3,f4,f5⟩:=hf it (by simp);refine wpAny_pyNext_values_item st da hq λh' st' sb=>?_;have I1:Inv X pins σ H { s with heap:=h' }:=I.turned (t':=s.toks) (λb o hb e=>(sb.2 b hb).trans e) f0 f1 f3 f4 f5;obtain⟨oi,e,c,dd⟩:=id st';exact⟨_,Z,BD (s:={ s with heap:=h' }) e c dd (by decide) ⟨kvs[i].2,H,I1,rq,⟨Z,kvs[i],bq hlt,Z⟩,by rw[hl];exact st',λb hb=>(hf b hb).1⟩⟩
 done:=by intro X hP hw hK hc i pins s σ H E I hf st hg;subst hP hw hK;obtain⟨hz,hle⟩:=hg;obtain⟨ho,_,_,vs,xV,r,da⟩:=I.sL hz;cases BN da ho hd;have hl:kvs.length=vs.length:=r.length;rw[hl]at st;obtain⟨f0,f1,f2,f3,f4,f5⟩:=hf it (by simp);exact wpAny_pyNext_values_end (I.ok.hd hc) st da (by rw[q_];omega) λh' eb=>⟨Z,I.turned (t':=s.toks) (λb o hb e=>eb b o hb e) f0 f1 f3 f4 f5⟩
 self:=λ_ _ _ _ _ st h=>wpAny_pyIter_valiter st h
variable {elts:List Expr}
theorem Rb{kk:Nat}{o:Obj}(hd:o.data =.dict es ep):Turn P w K (.Tuple elts kk pos) (Iti d o kvs) [it] it (λi h=>∃ok ov,IsItemIter h it d i kvs.length ep ok ov) where
 mem:=by simp
 obj:=λi h st b hb=>by
  have e:b=it:=by simpa using hb
  subst e;obtain⟨ok,ov,e⟩:=st;exact⟨_,e,λv z=>by cases z⟩
 keep:=λi h h' ⟨ok,ov,st⟩ k=>⟨ok,ov,k it (by simp) _ st⟩
 item:=by
  intro X hP hw hK hc i pins s σ H E I hf st hg;subst hP hw hK;obtain⟨hz,hlt⟩:=hg;obtain⟨ok,ov,st⟩:=st;obtain⟨ho,_,_,vs,xV,r,da⟩:=I.sL hz;cases BN da ho hd;have hl:kvs.length=vs.length:=r.length;obtain⟨q,hq,ek,rq⟩:=xY r (bq hlt);obtain⟨qk,qv⟩:=q;rw[hl]at st;obtain⟨f0,f1,f2,f3,f4,f5⟩:=hf it (by simp);refine wpAny_pyNext_items_item st da hq λkey h1 hk st1 ht hsz hkeep=>?_;refine⟨_,Z,wpAny_letOwnedTupleGo_items (s:={ s with heap:=h1 }) st1 λh2 st2 sb=>?_⟩;have rk:RelV (kV kvs[i].1) key:=by rw[ek];exact K9 hk
  have hil:it≠s.heap.objs.size:=e_ (cg st);have wM:∀b o,b≠it->s.heap.get? b=some o->h2.get? b=some o:=λb o hb e=>sb.extBut b o hb (hkeep b o hb e);have I1:Inv X pins σ (upd H s.heap.objs.size (.tup [kV kvs[i].1,kvs[i].2])) { s with heap:=h2 }:=by
   have J:Inv X pins σ H { s with heap:=h2 }:=I.turned (t':=s.toks) wM f0 f1 f3 f4 f5;have hn:=I.fresh;have J2:Inv X pins σ (upd H s.heap.objs.size (.tup [kV kvs[i].1,kvs[i].2])) { s with heap:=h2,gens:=s.gens,drawn:=s.drawn,toks:=s.toks }:=by
    refine I.step (ch:=[it]) (λb hb=>⟨(hf b hb).2.2.2.1,(hf b hb).2.1,(hf b hb).2.2.2.2.1,(hf b hb).2.2.2.2.2⟩) (λb o _ _ hc' e _=>wM b o (by simpa using hc') e) (λb o _ _ hc' e _=>⟨o.slots,wM b o (by simpa using hc') e⟩) (λb o _ e n=>by rw[az (e_ (cg e))];exact n) (λb o hc' e=>⟨o,wM b o (by simpa using hc') e⟩)
     (λb zs q=>by rw[az (aG q hn)];exact q) (λb o zs q=>by rw[az (aG q hn)];exact q) (λb ps q=>⟨#[],by rw[az (aG q hn),q];simp⟩) (λm hm=>?_) (λb ob e=>?_) I.bare
    .obtain ⟨o,es,ep,ho,r⟩:=hm;exact⟨o,es,ep,wM _ o (λq=>f1 q.symm) ho,r⟩
    .by_cases hb:b=s.heap.objs.size
     .subst hb;rw[ao]at e;cases e;exact⟨by show 2<=sizeLine;decide,[key,qv],.cons rk (.cons rq .nil),_,sb.extBut _ _ hil.symm ht,Z,0,Z⟩
     .rw [az hb]at e;refine(I.hok b ob e).stay (λc v SY q=>?_) (λc q=>by rw[az (aG q hn)];exact q) λc zs q=>by rw[az (aG q hn)];exact q
      refine wM c v (λz=>?_) q;rcases SY with r|r
      .rw [r]at z;rw[z,f0]at e;cases e
      .rw [z,f0]at r;cases r
   exact J2
  refine⟨.ref s.heap.objs.size,_,I1,Z,⟨_,kvs[i],I.fresh,bq hlt,Z,Z⟩,⟨key,qv,by rw[hl];exact st2⟩,λb hb=>?_⟩;have eb:b=it:=by simpa using hb
  subst eb;rw[az hil];exact f0
 done:=by intro X hP hw hK hc i pins s σ H E I hf st hg;subst hP hw hK;obtain⟨hz,hle⟩:=hg;obtain⟨ok,ov,st⟩:=st;obtain⟨ho,_,_,vs,xV,r,da⟩:=I.sL hz;cases BN da ho hd;have hl:kvs.length=vs.length:=r.length;rw[hl]at st;obtain⟨f0,f1,f2,f3,f4,f5⟩:=hf it (by simp);exact wpAny_pyNext_items_end (I.ok.hd hc) st da (by rw[q_];omega) λh' eb=>⟨Z,I.turned (t':=s.toks) (λb o hb e=>eb b o hb e) f0 f1 f3 f4 f5⟩
 self:=λA i s Q E ⟨ok,ov,st⟩ h=>PySem.W.kcp_self st h
section
variable {X:Cx}{tg:Expr}
inductive aaF(R:It->Hp->Prop)(x:V)(H1:Hp):Prop
 |mk(d o kvs:_)(_:x =.ref d)(_:pT H1 d o kvs)(_:R (Itv d o kvs:_) H1)
def adp(td:TE):TI:=λσ H R=>td σ H (aaF R)
inductive Ym(R:It->Hp->Prop)(x:V)(H1:Hp):Prop
 |mk(d o kvs:_)(_:x =.ref d)(_:pT H1 d o kvs)(_:R (Iti d o kvs:_) H1)
def aaG(td:TE):TI:=λσ H R=>td σ H (Ym R)
end
variable {J:It}{tb:TS}{D:Ends}
theorem vn{g:TG}(Pv:Nat->St->Hp->Prop)(h0:Pv 0 σ H)(hgo:∀i σ H,i<n->Pv i σ H->J.go i H)(hst:∀σ H,Pv n σ H->J.stop n H)(hs:∀i x σ H H',i<n->Pv i σ H->J.DU i H x H'->g x σ H' (tb (D.lp (Pv (i+1)))))(hd:∀σ H,Pv n σ H->D.nx σ H):
  JY g tb D σ (J) H:=by
 refine⟨λi m σ H=>m=n-i/\i<=n/\Pv i σ H,⟨n,by simp,gh _,h0⟩,?_⟩
 rintro i m σ H ⟨rfl,hi,p⟩
 by_cases hlt:i<n
 . exact .inr ⟨hgo i σ H hlt p,Pv (i+1),λσ' H' p'=>⟨n-(i+1),by omega,Z,hlt,p'⟩,λx H' y=>hs i x σ H H' hlt p y⟩
 . have e:i=n:=by omega
   subst e
   exact .inl ⟨hst σ H p,hd σ H p⟩
section
variable {prog:Program}{w:World}{K:Type}[DecidableEq K]{knd:KeyKind prog w K}{A:Around}{E:VS}{s:Shared}
theorem NP{kvs:List (K×Value)}{k:K}{v:Value}{Q:VS}(hit:s.heap.IsKeyIter it d i kvs.length ep)(hm:s.heap.DictAt knd d kvs ep)(hx:kvs[i]?=some (k,v))(hQ:∀key h',knd.is k key=true->h'.IsKeyIter it d (i+1) kvs.length ep->Heap.SameBut it s.heap h'->Q key { s with heap:=h' }):
  wpAny (model prog w) A (Builtin.SmallTypes.nextOf (.ref it)) Q E s:=by
 obtain⟨o,ho,hc,hd⟩:=id hit;obtain⟨od,es,hod,hcd,Am,hk,hp,hn⟩:=id hm
 unfold Builtin.SmallTypes.nextOf
 refine ay (z7 (name:=Str.ofString "__next__") hit.typeIs Wz (wG Wz hit.typeIs F.entry_dict_keyiterator_next ?_ (F.args_dict_keyiterator_next_1 _)))
 refine ay (bg ?_);refine ay (ay ?_)
 first|(refine ay (Wx hit.typeIs (bg ?_));refine ay (wH ho hd ?_))|(refine ay (Qx hit.typeIs (bg ?_));refine ay (wH ho hd ?_))
 have own:Builtin.Dict_items.ownsTuple "dict_keyiterator"=false:=by decide
 simp only[own,FO,qa]
 show wpAny _ _ (if(Value.ref d==Value.none)=true then _ else _) _ _ _
 rw[au (λz=>gk z:¬ ((Value.ref d==Value.none)=true))];refine ay (bg ?_)
 have sz:es.size=kvs.length:=by have:=hp.length;simpa using this
 refine ay (QL hod Am ?_);rw[au (by rw[sz];simp)]
 refine ay (bg ?_);refine ay (JV hod Am ?_)
 rw[au (by simp)];refine bg ?_
 have lt:i<kvs.length:=(di.mp hx).1
 have lt':i<es.size:=by omega
 have kv:=hp.get? (e:=es[i]) (by simp[lt']) hx
 simp only[show ¬ ((i:Int)<0)from by omega,qa,tU,Array.getElem?_eq_getElem lt'];refine ay ?_
 first|(refine ay (Wx hit.typeIs (bg ?_));refine ay (wpAny_isOneOf_keyiter hit.typeIs ?_))|(refine ay (Qx hit.typeIs (bg ?_));refine ay (wpAny_isOneOf_keyiter hit.typeIs ?_))
 show wpAny _ _ (setField (.ref it) 1 (rawInt ((i:Int)+1)) >>= _) _ _ _
 refine ay (Bt ho hd (by simp) ?_)
 have Gd:(s.heap.update it (Obj.mapFields (·.setIfInBounds 1 (rawInt ((i:Int)+1))))).IsKeyIter it d (i+1) kvs.length ep:=⟨_,CN _ ho (Obj.isFreed_of_fields (FP hd _)),(Obj.cls_mapFields ..).trans hc,by rw[FP hd];simp[rawInt]⟩
 refine ay (Bv (ay (wpAny_isOneOf_keyiter (s:={ s with heap:=s.heap.update it (Obj.mapFields (·.setIfInBounds 1 (rawInt ((i:Int)+1)))) }) Gd.typeIs ?_)))
 exact bg (bg ⟨_,Z,bg (hQ _ _ kv.1 Gd (FL ..))⟩)
theorem Rc{kvs:List (K×Value)}{Q:VS}(hh:A.handled=none)(hit:s.heap.IsKeyIter it d i kvs.length ep)(hm:s.heap.DictAt knd d kvs ep)(hx:kvs[i]?=none)(hE:∀h' e,Heap.ExtBut it s.heap h'->(∃o,h'.get? e=some o/\o.cls =.type "StopIteration")->E (.ref e) { s with heap:=h' }):
  wpAny (model prog w) A (Builtin.SmallTypes.nextOf (.ref it)) Q E s:=by
 obtain⟨o,ho,hc,hd⟩:=id hit;obtain⟨od,es,hod,hcd,Am,hk,hp,hn⟩:=id hm
 unfold Builtin.SmallTypes.nextOf
 refine ay (z7 (name:=Str.ofString "__next__") hit.typeIs Wz (wG Wz hit.typeIs F.entry_dict_keyiterator_next ?_ (F.args_dict_keyiterator_next_1 _)))
 refine ay (bg ?_);refine ay (ay ?_)
 first|(refine ay (Wx hit.typeIs (bg ?_));refine ay (wH ho hd ?_))|(refine ay (Qx hit.typeIs (bg ?_));refine ay (wH ho hd ?_))
 have own:Builtin.Dict_items.ownsTuple "dict_keyiterator"=false:=by decide
 simp only[own,FO,qa]
 show wpAny _ _ (if(Value.ref d==Value.none)=true then _ else _) _ _ _
 rw[au (λz=>gk z:¬ ((Value.ref d==Value.none)=true))];refine ay (bg ?_)
 have sz:es.size=kvs.length:=by have:=hp.length;simpa using this
 refine ay (QL hod Am ?_);rw[au (by rw[sz];simp)]
 refine ay (bg ?_);refine ay (JV hod Am ?_)
 rw[au (by simp)];refine bg ?_
 have ge:es.size<=i:=by rw[sz];simpa using hx
 simp only[show ¬ ((i:Int)<0)from by omega,qa,tU,Array.getElem?_eq_none ge];refine ay ?_
 first|(refine ay (Wx hit.typeIs (bg ?_));show wpAny _ _ (setField (.ref it) 0 .none >>= _) _ _ _)|(refine ay (Qx hit.typeIs (bg ?_));show wpAny _ _ (setField (.ref it) 0 .none >>= _) _ _ _)
 refine ay (Bt ho hd (by simp) ?_);show wpAny _ _ (newExc (.type "StopIteration") [] >>= _) _ _ _
 refine ay ?_;simp only[newExc,newTuple]
 refine ay (yp ?_ (by size_fits));refine ay (m:=firstArgMember _ _) (wpAny_of_eq (a:=Value.none) (by first|rfl|(simp only[firstArgMember];rfl)) ?_)
 refine yp ?_ (by size_fits);simp only[raiseNew]
 refine ay (wpAny_handled ?_);rw[show A.in1.handled=none from hh]
 exact ay (bg (wpAny_throw (hE _ _ (((FL ..).extBut.push _).push _) ⟨_,eY _ rfl,Z⟩)))
theorem NQ{kvs:List (K×Value)}{k:K}{v:Value}{Q:VS}(hit:s.heap.IsValIter it d i kvs.length ep)(hm:s.heap.DictAt knd d kvs ep)(hx:kvs[i]?=some (k,v))(hQ:∀h',h'.IsValIter it d (i+1) kvs.length ep->Heap.SameBut it s.heap h'->Q v { s with heap:=h' }):
  wpAny (model prog w) A (Builtin.SmallTypes.nextOf (.ref it)) Q E s:=by
 obtain⟨o,ho,hc,hd⟩:=id hit;obtain⟨od,es,hod,hcd,Am,hk,hp,hn⟩:=id hm
 unfold Builtin.SmallTypes.nextOf
 refine ay (z7 (name:=Str.ofString "__next__") hit.typeIs Ww (wG Ww hit.typeIs F.entry_dict_valueiterator_next ?_ (F.args_dict_valueiterator_next_1 _)))
 refine ay (bg ?_);refine ay (ay ?_)
 first|(refine ay (Wy hit.typeIs (bg ?_));refine ay (wH ho hd ?_))|(refine ay (Qy hit.typeIs (bg ?_));refine ay (wH ho hd ?_))
 have own:Builtin.Dict_items.ownsTuple "dict_valueiterator"=false:=by decide
 simp only[own,FO,qa]
 show wpAny _ _ (if(Value.ref d==Value.none)=true then _ else _) _ _ _
 rw[au (λz=>gk z:¬ ((Value.ref d==Value.none)=true))];refine ay (bg ?_)
 have sz:es.size=kvs.length:=by have:=hp.length;simpa using this
 refine ay (QL hod Am ?_);rw[au (by rw[sz];simp)]
 refine ay (bg ?_);refine ay (JV hod Am ?_)
 rw[au (by simp)];refine bg ?_
 have lt:i<kvs.length:=(di.mp hx).1
 have lt':i<es.size:=by omega
 have kv:=hp.get? (e:=es[i]) (by simp[lt']) hx
 simp only[show ¬ ((i:Int)<0)from by omega,qa,tU,Array.getElem?_eq_getElem lt'];refine ay ?_
 first|(refine ay (Wy hit.typeIs (bg ?_));refine ay (QB hit.typeIs ?_))|(refine ay (Qy hit.typeIs (bg ?_));refine ay (QB hit.typeIs ?_))
 show wpAny _ _ (setField (.ref it) 1 (rawInt ((i:Int)+1)) >>= _) _ _ _
 refine ay (Bt ho hd (by simp) ?_)
 have Gd:(s.heap.update it (Obj.mapFields (·.setIfInBounds 1 (rawInt ((i:Int)+1))))).IsValIter it d (i+1) kvs.length ep:=⟨_,CN _ ho (Obj.isFreed_of_fields (FP hd _)),(Obj.cls_mapFields ..).trans hc,by rw[FP hd];simp[rawInt]⟩
 refine ay (Bv (ay (QB (s:={ s with heap:=s.heap.update it (Obj.mapFields (·.setIfInBounds 1 (rawInt ((i:Int)+1)))) }) Gd.typeIs ?_)))
 refine ay (QB (s:={ s with heap:=s.heap.update it (Obj.mapFields (·.setIfInBounds 1 (rawInt ((i:Int)+1)))) }) Gd.typeIs ?_)
 exact bg (bg ⟨_,Z,bg (kv.2▸hQ _ Gd (FL ..))⟩)
theorem Rg{kvs:List (K×Value)}{Q:VS}(hh:A.handled=none)(hit:s.heap.IsValIter it d i kvs.length ep)(hm:s.heap.DictAt knd d kvs ep)(hx:kvs[i]?=none)(hE:∀h' e,Heap.ExtBut it s.heap h'->(∃o,h'.get? e=some o/\o.cls =.type "StopIteration")->E (.ref e) { s with heap:=h' }):
  wpAny (model prog w) A (Builtin.SmallTypes.nextOf (.ref it)) Q E s:=by
 obtain⟨o,ho,hc,hd⟩:=id hit;obtain⟨od,es,hod,hcd,Am,hk,hp,hn⟩:=id hm
 unfold Builtin.SmallTypes.nextOf
 refine ay (z7 (name:=Str.ofString "__next__") hit.typeIs Ww (wG Ww hit.typeIs F.entry_dict_valueiterator_next ?_ (F.args_dict_valueiterator_next_1 _)))
 refine ay (bg ?_);refine ay (ay ?_)
 first|(refine ay (Wy hit.typeIs (bg ?_));refine ay (wH ho hd ?_))|(refine ay (Qy hit.typeIs (bg ?_));refine ay (wH ho hd ?_))
 have own:Builtin.Dict_items.ownsTuple "dict_valueiterator"=false:=by decide
 simp only[own,FO,qa]
 show wpAny _ _ (if(Value.ref d==Value.none)=true then _ else _) _ _ _
 rw[au (λz=>gk z:¬ ((Value.ref d==Value.none)=true))];refine ay (bg ?_)
 have sz:es.size=kvs.length:=by have:=hp.length;simpa using this
 refine ay (QL hod Am ?_);rw[au (by rw[sz];simp)]
 refine ay (bg ?_);refine ay (JV hod Am ?_)
 rw[au (by simp)];refine bg ?_
 have ge:es.size<=i:=by rw[sz];simpa using hx
 simp only[show ¬ ((i:Int)<0)from by omega,qa,tU,Array.getElem?_eq_none ge];refine ay ?_
 first|(refine ay (Wy hit.typeIs (bg ?_));show wpAny _ _ (setField (.ref it) 0 .none >>= _) _ _ _)|(refine ay (Qy hit.typeIs (bg ?_));show wpAny _ _ (setField (.ref it) 0 .none >>= _) _ _ _)
 refine ay (Bt ho hd (by simp) ?_);show wpAny _ _ (newExc (.type "StopIteration") [] >>= _) _ _ _
 refine ay ?_;simp only[newExc,newTuple]
 refine ay (yp ?_ (by size_fits));refine ay (m:=firstArgMember _ _) (wpAny_of_eq (a:=Value.none) (by first|rfl|(simp only[firstArgMember];rfl)) ?_)
 refine yp ?_ (by size_fits);simp only[raiseNew]
 refine ay (wpAny_handled ?_);rw[show A.in1.handled=none from hh]
 exact ay (bg (wpAny_throw (hE _ _ (((FL ..).extBut.push _).push _) ⟨_,eY _ rfl,Z⟩)))
end
structure An(P:Program)(w:World)(K:Fg)(S:Hp->Prop)(xs:List V)(it l:Addr)(tn:Nat->Heap->Prop)(src:Heap->Prop):Prop where
 obj:∀i h,tn i h->∃o,h.get? it=some o/\∀v,o.data ≠ .cell v
 keep:∀i h h',tn i h->(∀o,h.get? it=some o->h'.get? it=some o)->tn i h'
 wN:∀h h',src h->(∀o,h.get? l=some o->h'.get? l=some o)->src h'
 HG:∀(X:Cx),X.prog=P->X.w=w->X.K=K->∀(pins:AO)(σ:St)(H:Hp)(s:Shared),Inv X pins σ H s->S H->src s.heap
 item:∀(A:Around)(i:Nat)(x:V)(s:Shared)(Q:VS)(E:VS),tn i s.heap->src s.heap->xs[i]?=some x->(∀u h',RelV x u->tn (i+1) h'->Heap.SameBut it s.heap h'->Q u { s with heap:=h' })->wpAny (model P w) A (Builtin.SmallTypes.nextOf (.ref it)) Q E s
 done:∀(A:Around)(i:Nat)(s:Shared)(Q:VS)(E:VS),A.handled=none->tn i s.heap->src s.heap->xs.length<=i->(∀h' e,Heap.ExtBut it s.heap h'->(∃o,h'.get? e=some o/\o.cls =.type "StopIteration")->E (.ref e) { s with heap:=h' })->wpAny (model P w) A (Builtin.SmallTypes.nextOf (.ref it)) Q E s
theorem VE{l:Addr}:An P w K (λH=>aB K H l xs) xs it l (λi h=>h.IsListIter it l i) (λh=>∃its:List Value,Vals xs its/\h.IsList l its.toArray) where
 obj:=λi h ⟨o,e,c,d⟩=>⟨o,e,λv z=>by rw[d]at z;cases z⟩
 keep:=λi h h' st k=>st.at k
 wN:=λh h' ⟨its,r,hl⟩ k=>⟨its,r,hl.at k⟩
 HG:=λX hP hw hK pins σ H s I h=>by subst hP hw hK;obtain⟨its,rv,p,_⟩:=I.list h;exact⟨its,rv,p.isList⟩
 item:=λA i x s Q E st ⟨its,r,hl⟩ hx hQ=>by obtain⟨u,hu,ru⟩:=r.get hx;exact wpAny_nextOf_list_item st hl (by simpa using hu) λh' st' sb=>hQ u h' ru st' sb
 done:=λA i s Q E hh st ⟨its,r,hl⟩ hx hE=>wpAny_nextOf_list_end hh st hl (by have:=r.length;simp;omega) hE
theorem VF{o:Obj}(hd:o.data =.dict es ep):An P w K (λH=>pT H d o kvs) (kvs.map λp=>kV p.1) it d (λi h=>h.IsKeyIter it d i kvs.length ep) (λh=>∃vs,KV kvs vs/\h.DictAt (dh P w) d vs ep) where
 obj:=λi h ⟨o,e,c,d⟩=>⟨o,e,λv z=>by rw[d]at z;cases z⟩
 keep:=λi h h' st k=>st.at k
 wN:=λh h' ⟨vs,r,hl⟩ k=>⟨vs,r,hl.at' k⟩
 HG:=λX hP hw hK pins σ H s I h=>by subst hP hw hK;obtain⟨ho,_,_,vs,xV,r,da⟩:=I.sL h;cases BN da ho hd;exact⟨vs,r,da⟩
 item:=λA i x s Q E st ⟨vs,r,da⟩ hx hQ=>by rw[bO]at hx;obtain⟨p,hp,rfl⟩:=lQ.mp hx;obtain⟨q,hq,ek,rq⟩:=xY r hp;obtain⟨qk,qv⟩:=q;have hl:kvs.length=vs.length:=r.length;rw[hl]at st;exact NP st da hq λkey h' hk st' sb=>hQ key h' (by rw[ek];exact K9 hk) (by rw[hl];exact st') sb
 done:=λA i s Q E hh st ⟨vs,r,da⟩ hx hE=>by have hl:kvs.length=vs.length:=r.length;rw[aE]at hx;rw[hl]at st;exact Rc hh st da (by rw[q_];omega) hE
theorem VG{o:Obj}(hd:o.data =.dict es ep):An P w K (λH=>pT H d o kvs) (kvs.map λp=>p.2) it d (λi h=>h.IsValIter it d i kvs.length ep) (λh=>∃vs,KV kvs vs/\h.DictAt (dh P w) d vs ep) where
 obj:=λi h ⟨o,e,c,d⟩=>⟨o,e,λv z=>by rw[d]at z;cases z⟩
 keep:=λi h h' st k=>st.at k
 wN:=λh h' ⟨vs,r,hl⟩ k=>⟨vs,r,hl.at' k⟩
 HG:=λX hP hw hK pins σ H s I h=>by subst hP hw hK;obtain⟨ho,_,_,vs,xV,r,da⟩:=I.sL h;cases BN da ho hd;exact⟨vs,r,da⟩
 item:=λA i x s Q E st ⟨vs,r,da⟩ hx hQ=>by rw[bO]at hx;obtain⟨p,hp,rfl⟩:=lQ.mp hx;obtain⟨q,hq,ek,rq⟩:=xY r hp;obtain⟨qk,qv⟩:=q;have hl:kvs.length=vs.length:=r.length;rw[hl]at st;exact NQ st da hq λh' st' sb=>hQ qv h' rq (by rw[hl];exact st') sb
 done:=λA i s Q E hh st ⟨vs,r,da⟩ hx hE=>by have hl:kvs.length=vs.length:=r.length;rw[aE]at hx;rw[hl]at st;exact Rg hh st da (by rw[q_];omega) hE
variable {y:V}
section
variable {P:Program}{w:World}{A:Around}{E:VS}{s:Shared}{K:Fg}{S1 S2:Hp->Prop}{xs ys:List V}{z TI TO i1 i2 l1 l2:Addr}{t1 t2:Nat->Heap->Prop}{c1 c2:Heap->Prop}{i:Nat}
theorem S0{x:V}{a b:Value}{Q:VS}(D:ZipApart z TI TO i1 i2 l1 l2)(C1:An P w K S1 xs i1 l1 t1 c1)(C2:An P w K S2 ys i2 l2 t2 c2)(hz:IsZip s.heap z TI TO .none)(hTI:IsPair s.heap TI (.ref i1) (.ref i2))(hTO:IsPair s.heap TO a b)(h1:t1 i s.heap)(h2:t2 i s.heap)(hc1:c1 s.heap)(hc2:c2 s.heap)(hx:xs[i]?=some x)(hy:ys[i]?=some y)(hQ:∀u v h',RelV x u->RelV y v->IsZip h' z TI TO (rawInt s.heap.objs.size)->IsPair h' TO u v->t1 (i+1) h'->t2 (i+1) h'->IsPair h' s.heap.objs.size u v->h'.objs.size=s.heap.objs.size+1->
    (∀c o,c≠z->c≠TO->c≠i1->c≠i2->s.heap.get? c=some o->h'.get? c=some o)->Q (.ref s.heap.objs.size) { s with heap:=h' }):
  wpAny (model P w) A (Builtin.«zip.__next__» ⟨[.ref z],[]⟩) (λfin s'=>∃v,fin =.done (.ret v)/\Q v s') E s:=by
 show wpAny _ _ (field (.ref z) 2 >>= _) _ _ _
 refine ay (oE hz rfl (x:=.bool false) rfl ?_);show wpAny _ _ (field (.ref z) 3 >>= _) _ _ _
 refine ay (oE hz rfl (x:=.ref TI) rfl ?_);refine ay (uL hTI rfl ?_)
 show wpAny _ _ (Builtin.SmallTypes.ownedTupleIsFree (.ref z) >>= _) _ _ _
 refine ay ?_;unfold Builtin.SmallTypes.ownedTupleIsFree
 refine ay (oE hz rfl (x:=.none) rfl (bg ?_));simp only[if_true]
 refine ay (wpAny_rule ?_);refine ay (oE hz rfl (x:=.ref TO) rfl ?_)
 refine ay (FQ hz (by simp) λhA HJ sA=>?_)
 replace HJ:IsZip hA z TI TO .ellipsis:=HJ
 refine ay ?_;simp only[List.zipIdx_cons,List.zipIdx_nil,JT,DM]
 refine ay (ay (wpAny_onRaise ?_));show wpAny _ _ (Builtin.SmallTypes.nextOf (.ref i1) >>= _) _ _ _
 refine ay (C1.item _ i x { s with heap:=hA } _ _ (C1.keep _ _ _ h1 λo e=>sA.extBut _ _ D.i1z e) (C1.wN _ _ hc1 λo e=>sA.extBut _ _ D.l1z e) hx λu hB ru h1B sB=>bg ?_)
 have S3:IsPair hB TO a b:=sB.extBut _ _ D.TOi1 (sA.extBut _ _ D.TOz hTO)
 refine ay (uL S3 rfl ?_);refine ay (wpAny_updateSeq_pair S3 λhC WX sC=>?_)
 replace WX:IsPair hC TO u b:=WX
 refine ay (wpAny_letGo (bg ?_));refine ay (ay (wpAny_onRaise ?_))
 show wpAny _ _ (Builtin.SmallTypes.nextOf (.ref i2) >>= _) _ _ _
 refine ay (C2.item _ i y { s with heap:=hC } _ _ (C2.keep _ _ _ h2 λo e=>sC.extBut _ _ D.TOi2.symm (sB.extBut _ _ D.i12.symm (sA.extBut _ _ D.i2z e))) (C2.wN _ _ hc2 λo e=>sC.extBut _ _ D.l2TO (sB.extBut _ _ D.l2i1 (sA.extBut _ _ D.l2z e))) hy λv hD rv h2D sD=>bg ?_)
 have TOD:IsPair hD TO u b:=sD.extBut _ _ D.TOi2 WX
 refine ay (uL TOD rfl ?_);refine ay (wpAny_updateSeq_pair TOD λhE WY sE=>?_)
 replace WY:IsPair hE TO u v:=WY
 refine ay (wpAny_letGo (bg (bg ?_)));refine ay (uL WY rfl ?_)
 refine ay (wpAny_newTuple ?_)
 have sz:hE.objs.size=s.heap.objs.size:=by rw[sE.1,sD.1,sC.1,sB.1,sA.1]
 have zE:IsZip hE z TI TO .ellipsis:=sE.extBut _ _ D.TOz.symm (sD.extBut _ _ D.i2z.symm (sC.extBut _ _ D.TOz.symm (sB.extBut _ _ D.i1z.symm HJ)))
 have kE:∀c o,c≠z->c≠TO->c≠i1->c≠i2->s.heap.get? c=some o->hE.get? c=some o:=λc o c1 c2 c3 c4 e=>sE.extBut _ _ c2 (sD.extBut _ _ c4 (sC.extBut _ _ c2 (sB.extBut _ _ c3 (sA.extBut _ _ c1 e))))
 have t1E:t1 (i+1) hE:=C1.keep _ _ _ h1B λo e=>sE.extBut _ _ D.TOi1.symm (sD.extBut _ _ D.i12 (sC.extBut _ _ D.TOi1.symm e))
 have t2E:t2 (i+1) hE:=C2.keep _ _ _ h2D λo e=>sE.extBut _ _ D.TOi2.symm e
 have zlt:z<hE.objs.size:=cg zE
 show wpAny _ _ (Builtin.SmallTypes.ownedTupleHandOut (.ref z) (.ref hE.objs.size) >>= _) _ _ _
 refine ay ?_;unfold Builtin.SmallTypes.ownedTupleHandOut
 have zF:IsZip (hE.push { cls:=.type "tuple",data:=.seq #[u,v] }) z TI TO .ellipsis:=cK _ zE
 refine ay (FQ zF (by simp) λhG zG sG=>?_)
 replace zG:IsZip hG z TI TO (rawInt hE.objs.size):=zG
 refine FQ zG (by simp) λhI zI sI=>?_
 replace zI:IsZip hI z TI TO (rawInt hE.objs.size):=zI
 have up:∀c o,c≠z->hE.get? c=some o->hI.get? c=some o:=λc o c1 e=>sI.extBut _ _ c1 (sG.extBut _ _ c1 (cK _ e))
 have TI':IsPair hI hE.objs.size u v:=sI.extBut _ _ (yu zlt) (sG.extBut _ _ (yu zlt) (eY _ rfl))
 have szI:hI.objs.size=hE.objs.size+1:=by rw[sI.1,sG.1,nv]
 rw[sz]at zI TI' szI
 refine bg ⟨_,Z,?_⟩
 show Q (.ref hE.objs.size) _
 rw[sz]
 exact hQ u v hI ru rv zI (up _ _ D.TOz WY) (C1.keep _ _ _ t1E λo e=>up _ o D.i1z e) (C2.keep _ _ _ t2E λo e=>up _ o D.i2z e) TI' szI λc o c1 c2 c3 c4 e=>up c o c1 (kE c o c1 c2 c3 c4 e)
theorem VH{a b:Value}{Q:Fin->Shared->Prop}(hh:A.handled=none)(D:ZipApart z TI TO i1 i2 l1 l2)(C1:An P w K S1 xs i1 l1 t1 c1)(C2:An P w K S2 ys i2 l2 t2 c2)(hz:IsZip s.heap z TI TO .none)(hTI:IsPair s.heap TI (.ref i1) (.ref i2))(hTO:IsPair s.heap TO a b)(h1:t1 i s.heap)(h2:t2 i s.heap)(hc1:c1 s.heap)(hc2:c2 s.heap)(hend:xs.length<=i\/ys.length<=i)(hE:∀h' e,(∀c o,c≠z->c≠TO->c≠i1->c≠i2->s.heap.get? c=some o->h'.get? c=some o)->(∃o,h'.get? e=some o/\o.cls =.type "StopIteration")->E (.ref e) { s with heap:=h' }):
  wpAny (model P w) A (Builtin.«zip.__next__» ⟨[.ref z],[]⟩) Q E s:=by
 show wpAny _ _ (field (.ref z) 2 >>= _) _ _ _
 refine ay (oE hz rfl (x:=.bool false) rfl ?_);show wpAny _ _ (field (.ref z) 3 >>= _) _ _ _
 refine ay (oE hz rfl (x:=.ref TI) rfl ?_);refine ay (uL hTI rfl ?_)
 show wpAny _ _ (Builtin.SmallTypes.ownedTupleIsFree (.ref z) >>= _) _ _ _
 refine ay ?_;unfold Builtin.SmallTypes.ownedTupleIsFree
 refine ay (oE hz rfl (x:=.none) rfl (bg ?_));simp only[if_true]
 refine ay (wpAny_rule ?_);refine ay (oE hz rfl (x:=.ref TO) rfl ?_)
 refine ay (FQ hz (by simp) λhA HJ sA=>?_)
 replace HJ:IsZip hA z TI TO .ellipsis:=HJ
 refine ay ?_;simp only[List.zipIdx_cons,List.zipIdx_nil,JT,DM]
 refine ay (ay (wpAny_onRaise ?_));show wpAny _ _ (Builtin.SmallTypes.nextOf (.ref i1) >>= _) _ _ _
 have k1:=C1.keep _ _ _ h1 λo e=>sA.extBut _ _ D.i1z e
 have k2:=C1.wN _ _ hc1 λo e=>sA.extBut _ _ D.l1z e
 by_cases hx:xs.length<=i
 . refine ay (C1.done _ i { s with heap:=hA } _ _ hh k1 k2 hx λhB e sB he=>?_)
   obtain⟨oe,El,hce⟩:=he
   have zB:IsZip hB z TI TO .ellipsis:=sB _ _ D.i1z.symm HJ
   have ez:e≠z:=λx=>by subst x;rw[zB]at El;cases El;simp at hce
   exact FQ zB (by simp) λhC _ sC=>hE hC e (λc o c1 _ c3 _ x=>sC.extBut _ _ c1 (sB _ _ c3 (sA.extBut _ _ c1 x))) ⟨oe,sC.extBut _ _ ez El,hce⟩
 . have hy:ys.length<=i:=hend.resolve_left hx
   refine ay (C1.item _ i xs[i] { s with heap:=hA } _ _ k1 k2 (bq (by omega)) λu hB ru h1B sB=>bg ?_)
   have S3:IsPair hB TO a b:=sB.extBut _ _ D.TOi1 (sA.extBut _ _ D.TOz hTO)
   refine ay (uL S3 rfl ?_);refine ay (wpAny_updateSeq_pair S3 λhC WX sC=>?_)
   refine ay (wpAny_letGo (bg ?_));refine ay (ay (wpAny_onRaise ?_))
   show wpAny _ _ (Builtin.SmallTypes.nextOf (.ref i2) >>= _) _ _ _
   refine ay (C2.done _ i { s with heap:=hC } _ _ hh (C2.keep _ _ _ h2 λo e=>sC.extBut _ _ D.TOi2.symm (sB.extBut _ _ D.i12.symm (sA.extBut _ _ D.i2z e))) (C2.wN _ _ hc2 λo e=>sC.extBut _ _ D.l2TO (sB.extBut _ _ D.l2i1 (sA.extBut _ _ D.l2z e))) hy λhD e sD he=>?_)
   obtain⟨oe,El,hce⟩:=he
   have zD:IsZip hD z TI TO .ellipsis:=sD _ _ D.i2z.symm (sC.extBut _ _ D.TOz.symm (sB.extBut _ _ D.i1z.symm HJ))
   have ez:e≠z:=λx=>by subst x;rw[zD]at El;cases El;simp at hce
   exact FQ zD (by simp) λhF _ sF=>hE hF e (λc o c1 c2 c3 c4 x=>sF.extBut _ _ c1 (sD _ _ c4 (sC.extBut _ _ c2 (sB.extBut _ _ c3 (sA.extBut _ _ c1 x))))) ⟨oe,sF.extBut _ _ ez El,hce⟩
end
def aaH(S1 S2:Hp->Prop)(xs ys:List V):It:=⟨λi H=>S1 H/\S2 H/\i<xs.length/\i<ys.length,λi H v H'=>∃p x y,H p=none/\v =.ref p/\H'=upd H p (.tup [x,y])/\xs[i]?=some x/\ys[i]?=some y,λi H=>S1 H/\S2 H/\(xs.length<=i\/ys.length<=i)⟩
variable {ys:List V}{z:Addr}
theorem S4{kk:Nat}{S1 S2:Hp->Prop}{TI TO i1 i2 l1 l2:Addr}{t1 t2:Nat->Heap->Prop}{c1 c2:Heap->Prop}(D:ZipApart z TI TO i1 i2 l1 l2)(C1:An P w K S1 xs i1 l1 t1 c1)(C2:An P w K S2 ys i2 l2 t2 c2):
  Turn P w K (.Tuple elts kk pos) (aaH S1 S2 xs ys) [z,TI,TO,i1,i2] z (λi h=>IsZip h z TI TO .none/\IsPair h TI (.ref i1) (.ref i2)/\(∃a b,IsPair h TO a b)/\t1 i h/\t2 i h) where
 mem:=by simp
 obj:=λi h st b hb=>by
  obtain⟨hz,hTI,⟨a,b',hTO⟩,h1,h2⟩:=st;have hb':b=z\/b=TI\/b=TO\/b=i1\/b=i2:=by simpa using hb
  rcases hb' with rfl|rfl|rfl|rfl|rfl
  .exact ⟨_,hz,λv q=>by cases q⟩
  .exact ⟨_,hTI,λv q=>by cases q⟩
  .exact ⟨_,hTO,λv q=>by cases q⟩
  .exact C1.obj i h h1
  .exact C2.obj i h h2
 keep:=λi h h' st k=>by obtain⟨hz,hTI,⟨a,b',hTO⟩,h1,h2⟩:=st;exact⟨k z (by simp) _ hz,k TI (by simp) _ hTI,⟨a,b',k TO (by simp) _ hTO⟩,C1.keep _ _ _ h1 λo e=>k i1 (by simp) o e,C2.keep _ _ _ h2 λo e=>k i2 (by simp) o e⟩
 item:=by
  intro X hP hw hK hc i pins s σ H E I hf st hg;subst hP hw hK;obtain⟨hz,hTI,⟨a,b,hTO⟩,h1,h2⟩:=st;obtain⟨g1,g2,lx,ly⟩:=hg;have hT:s.TypeIs (.ref z) "zip":=⟨_,hz,Z⟩
  unfold pyNext;refine ay (wpAny_attempt (z7 (name:=Str.ofString "__next__") hT JW (wG JW hT F.entry_zip_next
   (S0 D C1 C2 hz hTI hTO h1 h2 (C1.HG X rfl rfl rfl pins σ H s I g1) (C2.HG X rfl rfl rfl pins σ H s I g2) (bq lx) (bq ly) λu u2 h' ru ru2 a1 a2 a3 a4 a5 a6 hk=>bg ?_) (F.args_zip_next_1 _))))
  refine⟨_,Z,wpAny_letOwnedTupleGo_zip (s:={ s with heap:=h' }) a1 λh'' b1 hs=>?_⟩;have hTz:s.heap.objs.size≠z:=yu (cg hz);have wM:∀c o,c≠z->c≠TO->c≠i1->c≠i2->s.heap.get? c=some o->h''.get? c=some o:=λc o c1 c2 c3 c4 e=>hs.extBut _ _ c1 (hk c o c1 c2 c3 c4 e);have hn:=I.fresh;have nf:∀b u,H b=some u->b≠z/\b≠TO/\b≠i1/\b≠i2:=λb u e=>by
   have g:∀c∈[z,TI,TO,i1,i2],b≠c:=λc hc q=>by have:=(hf c hc).1;rw[<-q,e]at this;cases this
   exact⟨g z (by simp),g TO (by simp),g i1 (by simp),g i2 (by simp)⟩
  have xU:∀c,c∉[z,TI,TO,i1,i2]->c≠z/\c≠TO/\c≠i1/\c≠i2:=λc hc=>⟨λq=>hc (by simp[q]),λq=>hc (by simp[q]),λq=>hc (by simp[q]),λq=>hc (by simp[q])⟩
  have agz:IsPair h'' s.heap.objs.size u u2:=hs.extBut _ _ hTz a5;have hok:jl X.prog X.w (upd H s.heap.objs.size (.tup [xs[i],ys[i]])) h'':=λb ob e=>by
   by_cases hb:b=s.heap.objs.size
   .subst hb;rw[ao]at e;cases e;exact⟨by show 2<=sizeLine;decide,[u,u2],.cons ru (.cons ru2 .nil),_,agz,Z,0,Z⟩
   .rw [az hb]at e;refine(I.hok b ob e).stay (λc v SY q=>?_) (λc q=>by rw[az (aG q hn)];exact q) λc zs q=>by rw[az (aG q hn)];exact q
    rcases SY with r|r
    .obtain ⟨n1,n2,n3,n4⟩:=nf b ob e;rw[r];rw[r]at q;exact wM b v n1 n2 n3 n4 q
    .obtain ⟨n1,n2,n3,n4⟩:=nf c _ r;exact wM c v n1 n2 n3 n4 q
  have I2:Inv X pins σ (upd H s.heap.objs.size (.tup [xs[i],ys[i]])) { s with heap:=h'',gens:=s.gens,drawn:=s.drawn,toks:=s.toks }:=by
   refine I.step (ch:=[z,TI,TO,i1,i2]) (λb hb=>⟨(hf b hb).2.2.2.1,(hf b hb).2.1,(hf b hb).2.2.2.2.1,(hf b hb).2.2.2.2.2⟩) (λb o _ _ hc' e _=>?_) (λb o _ _ hc' e _=>?_) (λb o _ e n=>?_) (λb o hc' e=>?_)
    (λb zs q=>by rw[az (aG q hn)];exact q) (λb o zs q=>by rw[az (aG q hn)];exact q) (λb ps q=>⟨#[],by rw[az (aG q hn),q];simp⟩) (λm hm=>?_) hok I.bare
   .obtain ⟨n1,n2,n3,n4⟩:=xU b hc';exact wM b o n1 n2 n3 n4 e
   .obtain ⟨n1,n2,n3,n4⟩:=xU b hc';exact⟨o.slots,wM b o n1 n2 n3 n4 e⟩
   .rw [az (e_ (cg e))];exact n
   .obtain ⟨n1,n2,n3,n4⟩:=xU b hc';exact⟨o,wM b o n1 n2 n3 n4 e⟩
   .obtain ⟨o,es,ep,ho,r⟩:=hm;have nl:∀c∈[z,TI,TO,i1,i2],X.env.locals≠c:=λc hc' q=>(hf c hc').2.1 q.symm;exact⟨o,es,ep,wM _ o (nl z (by simp)) (nl TO (by simp)) (nl i1 (by simp)) (nl i2 (by simp)) ho,r⟩
  refine⟨.ref s.heap.objs.size,_,I2,Z,⟨s.heap.objs.size,xs[i],ys[i],hn,Z,Z,bq lx,bq ly⟩,⟨b1,?_,⟨u,u2,?_⟩,?_,?_⟩,λb hb=>?_⟩
  .exact wM _ _ D.TIz D.TITO D.TIi1 D.TIi2 hTI
  .exact hs.extBut _ _ D.TOz a2
  .exact C1.keep _ _ _ a3 λo e=>hs.extBut _ _ D.i1z e
  .exact C2.keep _ _ _ a4 λo e=>hs.extBut _ _ D.i2z e
  .have hlt:b≠s.heap.objs.size:=by
    have hb':b=z\/b=TI\/b=TO\/b=i1\/b=i2:=by simpa using hb
    obtain⟨_,e1,_⟩:=C1.obj _ _ h1;obtain⟨_,e2,_⟩:=C2.obj _ _ h2;rcases hb' with rfl|rfl|rfl|rfl|rfl
    .exact e_ (cg hz)
    .exact e_ (cg hTI)
    .exact e_ (cg hTO)
    .exact e_ (cg e1)
    .exact e_ (cg e2)
   rw[az hlt];exact(hf b hb).1
 done:=by
  intro X hP hw hK hc i pins s σ H E I hf st hg;subst hP hw hK;obtain⟨hz,hTI,⟨a,b,hTO⟩,h1,h2⟩:=st;obtain⟨g1,g2,hend⟩:=hg;have hT:s.TypeIs (.ref z) "zip":=⟨_,hz,Z⟩
  unfold pyNext;refine ay (wpAny_attempt (z7 (name:=Str.ofString "__next__") hT JW (wG JW hT F.entry_zip_next
   (VH (I.ok.hd hc) D C1 C2 hz hTI hTO h1 h2 (C1.HG X rfl rfl rfl pins σ H s I g1) (C2.HG X rfl rfl rfl pins σ H s I g2) hend λh' e hk he=>?_) (F.args_zip_next_1 _))))
  obtain⟨oe,El,hce⟩:=he;refine ay (wpAny_isInstance (T:="StopIteration") (b:=true) ⟨oe,El,hce⟩ isSubtype_stop (bg ⟨Z,?_⟩));have xU:∀c,c∉[z,TI,TO,i1,i2]->c≠z/\c≠TO/\c≠i1/\c≠i2:=λc hc=>⟨λq=>hc (by simp[q]),λq=>hc (by simp[q]),λq=>hc (by simp[q]),λq=>hc (by simp[q])⟩
  have nf:∀b u,H b=some u->b≠z/\b≠TO/\b≠i1/\b≠i2:=λb u e=>by
   have g:∀c∈[z,TI,TO,i1,i2],b≠c:=λc hc q=>by have:=(hf c hc).1;rw[<-q,e]at this;cases this
   exact⟨g z (by simp),g TO (by simp),g i1 (by simp),g i2 (by simp)⟩
  have I2:Inv X pins σ H { s with heap:=h',gens:=s.gens,drawn:=s.drawn,toks:=s.toks }:=by
   refine I.step (ch:=[z,TI,TO,i1,i2]) (λb hb=>⟨(hf b hb).2.2.2.1,(hf b hb).2.1,(hf b hb).2.2.2.2.1,(hf b hb).2.2.2.2.2⟩) (λb o _ _ hc' e _=>?_) (λb o _ _ hc' e _=>?_) (λb o _ e n=>n) (λb o hc' e=>?_)
    (λb zs q=>q) (λb o zs q=>q) (λb ps q=>⟨#[],by rw[q];simp⟩) (λm hm=>?_) (λb ob e=>?_) I.bare
   .obtain ⟨n1,n2,n3,n4⟩:=xU b hc';exact hk b o n1 n2 n3 n4 e
   .obtain ⟨n1,n2,n3,n4⟩:=xU b hc';exact⟨o.slots,hk b o n1 n2 n3 n4 e⟩
   .obtain ⟨n1,n2,n3,n4⟩:=xU b hc';exact⟨o,hk b o n1 n2 n3 n4 e⟩
   .obtain ⟨o,es,ep,ho,r⟩:=hm;have nl:∀c∈[z,TI,TO,i1,i2],X.env.locals≠c:=λc hc' q=>(hf c hc').2.1 q.symm;exact⟨o,es,ep,hk _ o (nl z (by simp)) (nl TO (by simp)) (nl i1 (by simp)) (nl i2 (by simp)) ho,r⟩
   .refine (I.hok b ob e).stay (λc v SY q=>?_) (λc q=>q) λc zs q=>q;rcases SY with r|r
    .obtain ⟨n1,n2,n3,n4⟩:=nf b ob e;rw[r];rw[r]at q;exact hk b v n1 n2 n3 n4 q
    .obtain ⟨n1,n2,n3,n4⟩:=nf c _ r;exact hk c v n1 n2 n3 n4 q
  exact I2
 self:=λ_ _ _ _ _ st h=>wpAny_pyIter_zip st.1 h
def K_(P:Program)(w:World)(u:Value)(o:Obj)(pre:Heap->Prop):Prop:=∀(A:Around)(E:VS)(s:Shared)(Q:VS),pre s.heap->Q (.ref s.heap.objs.size) { s with heap:=s.heap.push o }->wpAny (model P w) A (pyIter u) Q E s
theorem Rh{p1 p2:Heap->Prop}(s1:K_ P w u1 o1 p1)(s2:K_ P w u2 o2 p2):MeetsIn P w (Builtin.«zip.__new__» ⟨[.type "zip",u1,u2],[]⟩) (λ_ R s=>p1 s.heap/\p2 (s.heap.push o1)/\R (.ok (.ret (.ref ((((s.heap.push o1).push o2).push { cls:=.type "tuple",data:=.seq #[.ref s.heap.objs.size,.ref (s.heap.push o1).objs.size] }).push { cls:=.type "tuple",data:=.seq #[.none,.none] }).objs.size)))
     { s with heap:=((((s.heap.push o1).push o2).push { cls:=.type "tuple",data:=.seq #[.ref s.heap.objs.size,.ref (s.heap.push o1).objs.size] }).push { cls:=.type "tuple",data:=.seq #[.none,.none] }).push { cls:=.type "zip",data:=.fields #[.none,.bool false,.bool false,.ref ((s.heap.push o1).push o2).objs.size,.ref (((s.heap.push o1).push o2).push { cls:=.type "tuple",data:=.seq #[.ref s.heap.objs.size,.ref (s.heap.push o1).objs.size] }).objs.size] } }):=
 .of_wp λA R s h=>by
  obtain⟨hp,g,d,tk,os⟩:=s;obtain⟨q1,q2,h⟩:=h;have hsub:=sub_zip;have i1:=λ(A:Around)(E:VS)(Q:VS)=>s1 A E ⟨hp,g,d,tk,os⟩ Q q1;have i2:=λ(A:Around)(E:VS)(Q:VS)=>s2 A E ⟨hp.push o1,g,d,tk,os⟩ Q q2
  wp_walk using i1 _ _ _,i2 _ _ _
  exact⟨_,Z,h⟩
section
variable {prog:Program}{w:World}{A:Around}{E:VS}{s:Shared}{it t:Addr}{i:Nat}{items:Array Value}{Q:VS}
theorem NR{x:Value}(hit:s.heap.IsTupleIter it t i)(ht:s.heap.IsTuple t items)(hx:items[i]?=some x)(hQ:∀h',h'.IsTupleIter it t (i+1)->Heap.SameBut it s.heap h'->Q x { s with heap:=h' }):wpAny (model prog w) A (Builtin.SmallTypes.nextOf (.ref it)) Q E s:=by obtain⟨o,ho,hc,hd⟩:=id hit;obtain⟨ol,eW,_,nl,hdl⟩:=ht;unfold Builtin.SmallTypes.nextOf;refine ay (z7 (name:=Str.ofString "__next__") hit.typeIs Qt (wG Qt hit.typeIs F.entry_tuple_iterator_next ?_ (F.args_tuple_iterator_next_1 _)));show wpAny _ _ (field (.ref it) 0 >>= _) _ _ s;refine ay (oE ho hd (x:=.ref t) rfl ?_);show wpAny _ _ (if(Value.ref t==Value.none)=true then _ else _) _ _ s;rw[au (λz=>gk z:¬ ((Value.ref t==Value.none)=true))];show wpAny _ _ (field (.ref it) 1 >>= _) _ _ s;refine ay (oE ho hd (x:=.int i 0) rfl ?_);show wpAny _ _ (seqItems? (.ref t) >>= _) _ _ s;refine ay (uL eW hdl ?_);simp only[tU,hx];refine ay (Bt ho hd (by simp) (bg ⟨x,Z,bg (hQ _ ?_ (FL ..))⟩));refine⟨_,CN _ ho (Obj.isFreed_of_fields (FP hd _)),(Obj.cls_mapFields ..).trans hc,?_⟩;rw[FP hd];simp[rawInt]
theorem Ri(hh:A.handled=none)(hit:s.heap.IsTupleIter it t i)(ht:s.heap.IsTuple t items)(hx:items[i]?=none)(hE:∀h' e,Heap.ExtBut it s.heap h'->(∃o,h'.get? e=some o/\o.cls =.type "StopIteration")->E (.ref e) { s with heap:=h' }):wpAny (model prog w) A (Builtin.SmallTypes.nextOf (.ref it)) Q E s:=by
 obtain⟨o,ho,hc,hd⟩:=id hit;obtain⟨ol,eW,_,nl,hdl⟩:=ht;unfold Builtin.SmallTypes.nextOf;refine ay (z7 (name:=Str.ofString "__next__") hit.typeIs Qt (wG Qt hit.typeIs F.entry_tuple_iterator_next ?_ (F.args_tuple_iterator_next_1 _)));show wpAny _ _ (field (.ref it) 0 >>= _) _ _ s;refine ay (oE ho hd (x:=.ref t) rfl ?_);show wpAny _ _ (if(Value.ref t==Value.none)=true then _ else _) _ _ s;rw[au (λz=>gk z:¬ ((Value.ref t==Value.none)=true))];show wpAny _ _ (field (.ref it) 1 >>= _) _ _ s;refine ay (oE ho hd (x:=.int i 0) rfl ?_);show wpAny _ _ (seqItems? (.ref t) >>= _) _ _ s;refine ay (uL eW hdl ?_);simp only[tU,hx];refine ay (wpAny_rule (ay (Bt ho hd (by simp) ?_)));show wpAny _ _ (newExc (.type "StopIteration") [] >>= _) _ _ _;refine ay ?_;simp only[newExc,newTuple];refine ay (yp ?_ (by size_fits));refine ay (m:=firstArgMember _ _) (wpAny_of_eq (a:=Value.none) (by first|rfl|(simp only[firstArgMember];rfl)) ?_);refine yp ?_ (by size_fits);simp only[raiseNew];refine ay (wpAny_handled ?_);first|rw[show A.in1.handled=none from hh]|rw[hh]
 refine ay (bg (wpAny_throw ?_));exact hE _ _ (((FL ..).extBut.push _).push _) ⟨_,eY _ rfl,Z⟩
end
theorem Yn{l:Addr}:An P w K (λH=>cS K H l xs) xs it l (λi h=>h.IsTupleIter it l i) (λh=>∃its:List Value,Vals xs its/\h.IsTuple l its.toArray) where
 obj:=λi h ⟨o,e,c,d⟩=>⟨o,e,λv z=>by rw[d]at z;cases z⟩
 keep:=λi h h' st k=>st.at k
 wN:=λh h' ⟨its,r,o,e,q⟩ k=>⟨its,r,o,k o e,q⟩
 HG:=λX hP hw hK pins σ H s I h=>by subst hP hw hK;obtain⟨its,rv,p,_⟩:=I.tuple h;exact⟨its,rv,p⟩
 item:=λA i x s Q E st ⟨its,r,hl⟩ hx hQ=>by obtain⟨u,hu,ru⟩:=r.get hx;exact NR st hl (by simpa using hu) λh' st' sb=>hQ u h' ru st' sb
 done:=λA i s Q E hh st ⟨its,r,hl⟩ hx hE=>Ri hh st hl (by have:=r.length;simp;omega) hE
theorem VI:typeLookup (.type "dict") "__len__"=pure (some (.builtin "dict.__len__")):=by rw[typeLookup_type,builtinLookup_eq_fast];kernel_rfl
variable {R:Result->Shared->Prop}
section
variable {prog:Program}{w:World}{A:Around}{E:VS}{s:Shared}{K:Type}[DecidableEq K]{knd:KeyKind prog w K}
theorem Cb(hh:A.handled=none){kvs:List (K×Value)}(hd:(d==sysModules)=false)(hm:s.heap.DictAt knd d kvs ep)(S:Addr)(hSd:S≠d)(res:Value)(c₀:Nat)(hS:s.heap.get? S=some { cls:=.type "list",data:=.seq #[] c₀ })(hR:∀h' tk acc' c',(∀b o,b≠S->s.heap.get? b=some o->h'.get? b=some o)->h'.get? S=some { cls:=.type "list",dict:=none,data:=.seq acc' c',slots:=#[] }->
    ItemsOf (λi v=>∃k x,kvs[i]?=some (k,x)/\knd.is k v=true) acc' kvs.length->R (.ok (.ret res)) { s with heap:=h',toks:=tk })(hn:kvs.length<=sizeLine):
  wpAny (model prog w) A.in1 (Builtin.List.listExtendWith (.ref S) (.ref d) res)
   (λfin s'=>match fin with | .done f=>R (.ok f) s' | .again c'=>c'.quiet=true/\codeAny (model prog w) A c' R s') (λe s'=>R (.error e) s') s:=by
 have hSI:S≠s.heap.objs.size:=e_ (cg hS)
 have hT:s.TypeIs (.ref d) "dict":=hm.dictOf.typeIs
 unfold Builtin.List.listExtendWith
 refine ay (wpAny_typeOf (T:="dict") (v:=.ref d) hT ?_)
 have h1:Builtin.List.listSameRef (.ref S) (.ref d)=false:=by show(S==d)=false;simpa using hSd
 have h2:(Value.type "dict"==Value.type "list")=false:=by decide
 have h3:(Value.type "dict"==Value.type "tuple")=false:=by decide
 simp only[h1,h2,h3,Bool.or_false,FO,qa]
 refine ay (wpAny_pyIter_dict hd hm ?_)
 refine ay (Bv ?_)
 unfold Builtin.List.listLengthHint
 have hT2:({ s with heap:=s.heap.push { cls:=.type "dict_keyiterator",data:=.fields #[.ref d,.int 0 0,.int kvs.length 0,.int ep 0] } }:Shared).TypeIs (.ref d) "dict":=(hm.push _).dictOf.typeIs
 refine ay (wpAny_specialOf (T:="dict") (v:=.ref d) hT2 VI ?_)
 wp_delta
 refine ay (wpAny_isInstance (T:="dict") (v:=.ref d) (b:=true) hT2 (by rw[isSubtype_type];kernel_rfl) ?_)
 show wpAny _ _ (typeOf (Value.ref d) >>= _) _ _ _
 refine ay (wpAny_typeOf (T:="dict") (v:=.ref d) hT2 ?_)
 refine bg ?_
 have hne:d≠s.heap.objs.size:=e_ hm.lt_size
 have hSf:S∉[s.heap.objs.size,d] :=λhm'=>by
  rcases dS.mp hm' with z|z
  .exact hSI z
  .exact hSd (dj.mp z)
 show wpAny _ A.in1 (rule "list.extend.makes-room" >>= λ_=>Builtin.List.listTouch (.ref S) >>= λ_=>
  again (.builtin "list.extend.loop" ⟨[.ref S,.ref s.heap.objs.size,res],[]⟩)) _ _ _
 refine ay (wpAny_rule ?_)
 refine ay ?_
 show wpAny _ A.in1 (updateSeq S (·.push .none) >>= λ_=>updateSeq S (·.pop)) _ _ _
 have hS₁:=cK { cls:=.type "dict_keyiterator",data:=.fields #[.ref d,.int 0 0,.int kvs.length 0,.int ep 0] } hS
 refine ay (wpAny_updateSeq hS₁ rfl ?_)
 have WZ:=CN (Obj.mapSeq (·.push Value.none)) hS₁ rfl
 refine wpAny_updateSeq (hz:=by seq_fits) WZ rfl ?_
 have hS₃:=CN (Obj.mapSeq (·.pop)) WZ rfl
 have Pc:∀b o,b≠S->(s.heap.push { cls:=.type "dict_keyiterator",data:=.fields #[.ref d,.int 0 0,.int kvs.length 0,.int ep 0] }).get? b=some o->(((s.heap.push { cls:=.type "dict_keyiterator",data:=.fields #[.ref d,.int 0 0,.int kvs.length 0,.int ep 0] }).update S (Obj.mapSeq (·.push Value.none))).update S (Obj.mapSeq (·.pop))).get? b=some o:=
  λb o hb e=>(J_ _ _ (cu hb)).trans ((J_ _ _ (cu hb)).trans e)
 refine bg ⟨plainId_quiet F.plain_extend_loop _,codeAny_extend_loopS (Walks.dictKeys (prog:=prog) (w:=w) (A:=A.in1) (knd:=knd) hh s.heap.objs.size d hne kvs ep).toS hn _ hSf _ kvs.length 0 _ _ _ rfl (gh _) ⟨⟨_,Pc _ _ (cu hSI) (eY _ rfl),Z,Z⟩,(hm.push _).at' λo e=>Pc d o (cu hSd) e⟩ hS₃ (ItemsOf.nil _) λs' acc' c' hm2 hS' hacc=>?_⟩
 rw[Moved.eq_with hm2]
 refine hR s'.heap s'.toks acc' c' (λb ob hb e=>hm2.heap b ob (λhmem=>?_) (Pc b ob hb (cK _ e))) hS' hacc
 rcases dS.mp hmem with e'|hmem
 . exact hb e'
 . exact absurd (cg e) (by rw[dj.mp hmem];exact jM _)
theorem Ge{Q:VS}(hh:A.handled=none){kvs:List (K×Value)}(hd:(d==sysModules)=false)(hm:s.heap.DictAt knd d kvs ep)(hn:kvs.length<=sizeLine)(hQ:∀h' tk acc' c',(∀b o,s.heap.get? b=some o->h'.get? b=some o)->
    h'.get? s.heap.objs.size=some { cls:=.type "list",dict:=none,data:=.seq acc' c',slots:=#[] }->ItemsOf (λi v=>∃k x,kvs[i]?=some (k,x)/\knd.is k v=true) acc' kvs.length->Q (.ref s.heap.objs.size) { s with heap:=h',toks:=tk }):
  wpAny (model prog w) A (call (.type "list") [.ref d]) Q E s:=by
 refine callType_codes (Q₁:=λobj s₁=>obj =.ref s.heap.objs.size/\s₁={ s with heap:=s.heap.push { cls:=.type "list",data:=.seq #[] } }) F.called_list (F.typeCall_list_1 _) F.entry_list_init
  (code_list_new _ ⟨Z,Z⟩) λobj s₁ h₁=>?_
 obtain⟨rfl,rfl⟩:=h₁
 have hS:(s.heap.push { cls:=.type "list",data:=.seq #[] }).get? s.heap.objs.size=some { cls:=.type "list",data:=.seq #[] }:=eY _ rfl
 have hne:s.heap.objs.size≠d:=yu hm.lt_size
 refine⟨⟨_,hS,Z⟩,F.args_list_init_2 _ _,?_⟩
 show wpAny _ _ (do let old <-Builtin.List.listItems (.ref s.heap.objs.size);Builtin.List.listUpdate (.ref s.heap.objs.size) (λ_=>#[]);letGo old.toList.reverse;Builtin.List.listExtendWith (.ref s.heap.objs.size) (.ref d) .none) _ _ _
 refine ay ?_
 unfold Builtin.List.listItems
 refine ay (uL hS rfl (bg ?_))
 show wpAny _ _ (updateSeq s.heap.objs.size (λ_=>#[]) >>= λ_=>letGo (#[] :Array Value).toList.reverse >>= λ_=>Builtin.List.listExtendWith (.ref s.heap.objs.size) (.ref d) .none) _ _ _
 refine ay (wpAny_updateSeq hS rfl ?_)
 have WZ:=CN (Obj.mapSeq (λ_=>(#[] :Array Value))) hS rfl
 have Pc:∀b o,b≠s.heap.objs.size->(s.heap.push { cls:=.type "list",data:=.seq #[] }).get? b=some o->((s.heap.push { cls:=.type "list",data:=.seq #[] }).update s.heap.objs.size (Obj.mapSeq (λ_=>(#[] :Array Value)))).get? b=some o:=
  λb o hb e=>(J_ _ _ (cu hb)).trans e
 refine ay (wpAny_letGo ?_)
 refine Cb (A:=A.in1) hh hd (hm.push _ |>.at' λo e=>Pc d o hne.symm e) s.heap.objs.size hne .none _ WZ (λh' tk acc' c' hk hS' hacc=>?_) hn
 exact⟨Z,hQ h' tk acc' c' (λb o e=>hk b o (e_ (cg e)) (Pc b o (e_ (cg e)) (cK _ e))) hS' hacc⟩
end
theorem HK{α β:Type}{F:α->β->Prop}:∀{l₁:List α}{l₂:List β},l₁.length=l₂.length->(∀(i:Nat)(x:α)(y:β),l₁[i]?=some x->l₂[i]?=some y->F x y)->Paired F l₁ l₂
 | [],[],_,_=> .nil
 | x::xs,y::ys,h,f=> .cons (f 0 x y rfl rfl) (HK (by simpa using h) λi a b ha hb=>f (i+1) a b (by simpa using ha) (by simpa using hb))
def mq(v d:Addr):HO:=.ext λh=>h.IsValuesView v d
section
variable {X:Cx}
inductive aaI(Q:VK)(x:V)(H1:Hp):Prop
 |mk(d kvs:_)(_:x =.ref d)(_:Rd H1 d (.dK kvs))(_:∀v,H1 v=none->Q (.ref v) (upd H1 v (mq v d)))
def adq(td:TE):TE:=λσ H Q=>td σ H (aaI Q)
inductive Wk(K:Fg)(H:Hp):V->(Hp->Prop)->List V->Prop
 | lst {l:Addr} {xs:List V}:aB K H l xs->Wk K H (.ref l) (λH=>aB K H l xs) xs
 | tup {l:Addr} {xs:List V}:cS K H l xs->Wk K H (.ref l) (λH=>cS K H l xs) xs
 | keys {d:Addr} {o:Obj} {kvs:List (Key×V)}:pT H d o kvs->Wk K H (.ref d) (λH=>pT H d o kvs) (kvs.map λp=>kV p.1)
 | vals {v d:Addr} {o:Obj} {kvs:List (Key×V)}:H v=some (mq v d)->pT H d o kvs->Wk K H (.ref v) (λH=>pT H d o kvs) (kvs.map λp=>p.2)
theorem Wk.ok{u:V}{S:Hp->Prop}(k:Wk X.K H u S xs)(I:Inv X pins σ H s)(r:RelV u uv):S H/\∃(l:Addr)(o:Obj)(p:Heap->Prop),l<s.heap.objs.size/\p s.heap/\(∀h (ob:Obj),p h->p (h.push ob))/\(∀h:Heap,(h.push o).get? h.objs.size=some o)/\K_ X.prog X.w uv o p/\∀it:Addr,∃tn src,An X.prog X.w X.K S xs it l tn src/\∀h:Heap,h.get? it=some o->tn 0 h:=by
 cases k with
 | @lst l xs hS=>cases r;obtain⟨its,rv,p,_⟩:=I.list hS;obtain⟨ol,eW,_⟩:=id p.isList;refine⟨hS,l,_,λh=>h.IsList l its.toArray,cg eW,p.isList,λh ob q=>q.push ob,λh=>eY _ rfl,λA E s Q q h=>QH q h,λit=>⟨_,_,VE,λh e=>⟨_,e,Z,Z⟩⟩⟩
 | @tup l xs hS=>cases r;obtain⟨its,rv,p,_⟩:=I.tuple hS;obtain⟨ol,eW,q0⟩:=id p;refine⟨hS,l,_,λh=>h.IsTuple l its.toArray,cg eW,p,λh ob ⟨o1,a,b⟩=>⟨o1,cK _ a,b⟩,λh=>eY _ rfl,λA E s Q q h=>wpAny_pyIter_tuple q h,λit=>⟨_,_,Yn,λh e=>⟨_,e,Z,Z⟩⟩⟩
 | @keys d o kvs hz=>cases r;obtain⟨ho,hl,hsys,vs,ep,rel,da⟩:=I.sL hz;obtain⟨o',es,h1,_,h2,_⟩:=id da;rw[ho]at h1;cases h1;have el:kvs.length=vs.length:=rel.length;refine⟨hz,d,_,λh=>h.DictAt (dh X.prog X.w) d vs ep,cg ho,da,λh ob q=>q.push ob,λh=>eY _ rfl,λA E s Q q h=>wpAny_pyIter_dict hsys q h,λit=>⟨_,_,VF h2,λh e=>?_⟩⟩;rw[el];exact⟨_,e,Z,Z⟩
 | @vals v d o kvs hv hz=>
  cases r;obtain⟨ho,hl,hsys,vs,ep,rel,da⟩:=I.sL hz;obtain⟨o',es,h1,_,h2,_⟩:=id da;rw[ho]at h1;cases h1;have el:kvs.length=vs.length:=rel.length;obtain⟨hv',_⟩:=(show eV X.prog X.w H s.heap v (mq v d)from I.hok v _ hv)
  refine⟨hz,d,_,λh=>h.IsValuesView v d/\h.DictAt (dh X.prog X.w) d vs ep,cg ho,⟨hv',da⟩,λh ob ⟨⟨o1,a,b⟩,q⟩=>⟨⟨o1,cK _ a,b⟩,q.push ob⟩,λh=>eY _ rfl,λA E s Q q h=>wpAny_pyIter_values q.1 q.2 h,λit=>⟨_,_,VG h2,λh e=>?_⟩⟩;rw[el];exact⟨_,e,Z,Z⟩
variable {elts:List Expr}{kk:Nat}{tpos:Pos}
inductive aaJ(K:Fg)(R:It->Hp->Prop)(vs:List V)(H1:Hp):Prop
 |mk(u1 u2 S1 S2 xs ys:_)(_:vs=[u1,u2])(_:Wk K H1 u1 S1 xs)(_:Wk K H1 u2 S2 ys)(_:R (aaH S1 S2 xs ys:_) H1)
def ads(K:Fg)(ta:TA):TI:=λσ H R=>ta σ H (aaJ K R)
theorem HL(hc:X.calm=true):iH X (.builtin "sum") (λxs H Q=>∃(v d:Addr)(kvs:List (Key×V))(ns:List Int),xs=[.ref v]/\H v=some (mq v d)/\Rd H d (.dK kvs)/\kvs.map (·.2)=ns.map V.int/\Q (.int ns.sum) H):=by
 intro pins s σ H xs us Q I r h;obtain⟨v,d,kvs,ns,rfl,hv,hz,en,q⟩:=h;obtain⟨u,rfl,ru⟩:=vals1 r;cases ru;obtain⟨_,hsys,vs,rel,dd⟩:=sH I.hok hz;obtain⟨ep,da⟩:=dd.dictAt;obtain⟨hv',_⟩:=(show eV X.prog X.w H s.heap v (mq v d)from I.hok v _ hv)
 have hl:kvs.length=vs.length:=rel.length;have hlt:=da.lt_size;have hne:d≠s.heap.objs.size:=e_ hlt;have W:=(Walks.dictValues (prog:=X.prog) (w:=X.w) (A:=X.A.in1) (knd:=dh X.prog X.w) (I.ok.hd hc) s.heap.objs.size d hne vs ep).toS;have Eb:kvs.length=ns.length:=by have:=gR List.length en;simpa using this
 refine call_sum_walkAnyS (wpAny_pyIter_values hv' da ?_);refine⟨s.heap.objs.size,_,_,_,_,_,_,λi=>ns.getD i 0,Z,W,⟨⟨_,eY _ rfl,Z,Z⟩,da.push _⟩,λb hb=>?_,λi x hP=>?_,λs' t' hm=>?_⟩
 .rcases dS.mp hb with rfl|hb
  .exact cg (eY _ rfl)
  .obtain rfl:=dj.mp hb;exact(da.push _).lt_size
 .obtain ⟨k,hk⟩:=hP;have hil:i<ns.length:=by have:=(di.mp hk).1;omega
  have hik:i<kvs.length:=by omega
  obtain⟨q',hq',_,rq⟩:=xY rel (bq hik);rw[hk]at hq';cases hq';have e1:kvs[i].2=V.int (ns.getD i 0):=by have:=gR (λl=>l[i]?) en;simp only[bO,bq hik,bq hil]at this;rw[fH,bq hil];exact gJ this
  rw[e1]at rq;exact rq
 .obtain ⟨h',g',d',tk',os'⟩:=s';have e1:g'=s.gens:=hm.gens;have e2:d'=s.drawn:=hm.drawn;have e3:os'=s.os:=hm.os;subst e1 e2 e3;have hsz:vs.length=ns.length:=by omega
  rw[hsz,preSum_getD,Ka (aQ _)];exact⟨.int ns.sum,H,I.kept (h':=h') (t':=tk') λb o e=>hm.heap b o (λhb=>absurd (cg e) ((dj.mp hb)▸jM _)) (cK _ e),⟨t',Z⟩,q⟩
theorem Rj(hc:X.calm=true):iH X (.type "list") (λxs H Q=>∃(d:Addr)(kvs:List (Key×V)),xs=[.ref d]/\Rd H d (.dK kvs)/\∀l,H l=none->Q (.ref l) (upd H l (.lst (kvs.map λp=>kV p.1)))):=by
 intro pins s σ H xs us Q I r h;obtain⟨d,kvs,rfl,hz,q⟩:=h;obtain⟨u,rfl,ru⟩:=vals1 r;cases ru;obtain⟨hsz,hsys,vs,rel,dd⟩:=sH I.hok hz;obtain⟨ep,da⟩:=dd.dictAt;have hl:kvs.length=vs.length:=rel.length;refine Ge (I.ok.hd hc) hsys da (by omega) λh' tk acc' c' kp e it=>?_;refine⟨.ref s.heap.objs.size,_,I.laid (t':=tk) kp (aQ _) (show eV X.prog X.w _ h' _ (.lst (kvs.map λp=>kV p.1))from⟨by rw[aE];exact hsz,acc'.toList,c',?_,by rw[e]⟩),Z,q _ I.fresh⟩;obtain⟨sz,hit⟩:=it;have hA:acc'.toList.length=acc'.size:=by simp
 have hB:(kvs.map λp=>kV p.1).length=acc'.toList.length:=by rw[aE];omega
 refine HK hB λi x y hx hy=>?_;rw[bO]at hx;obtain⟨p,hp,rfl⟩:=lQ.mp hx;obtain⟨k,v,hk,hkk⟩:=hit i y (by simpa using hy);obtain⟨q',hq',ek,_⟩:=xY rel hp;rw[hk]at hq';cases hq';rw[ek];exact K9 hkk
end
def fk:St->List Nat->List V->St
 | σ,k::ks,v::vs=>fk (σ.set k (some v)) ks vs
 | σ,_,_=>σ
theorem Em{k:Nat}{v:Option V}:∀{ks:List Nat}{vs:List V}{σ:St},k∉ks->(fk σ ks vs).set k v=fk (σ.set k v) ks vs
 | [],_,_,_=>by unfold fk;rfl
 | _::_,[],_,_=>by unfold fk;rfl
 | j::ks,w::vs,σ,h=>by have hj:k≠j:=λe=>h (by rw[e];exact cT);show(fk (σ.set j (some w)) ks vs).set k v=fk ((σ.set k v).set j (some w)) ks vs;rw[Em (λm=>h (cW _ m)),List.set_comm _ _ hj]
theorem vq:∀{ks:List Nat}{vs ws:List V}{σ:St},ks.Nodup->vs.length=ks.length->ws.length=ks.length->fk (fk σ ks vs) ks ws=fk σ ks ws
 | [],[],[],_,_,_,_=>rfl
 | k::ks,v::vs,w::ws,σ,nd,h1,h2=>by have nk:=(gK.mp nd).1;show fk ((fk (σ.set k (some v)) ks vs).set k (some w)) ks ws=fk (σ.set k (some w)) ks ws;rw[Em nk,oB,vq (gK.mp nd).2 (by simpa using h1) (by simpa using h2)]
def W0:List Nat->DT
 | []=>ZE
 | k::ks=>WJ (mh k) (W0 ks)
theorem La{Q:St->Hp->Prop}{H:Hp}:∀{ks:List Nat}{vs:List V}{σ:St},vs.length=ks.length->Q (fk σ ks vs) H->W0 ks vs σ H Q
 | [],[],_,_,q=>⟨Z,q⟩
 | k::ks,v::vs,σ,h,q=>⟨v,vs,Z,La (by simpa using h) q⟩
theorem xZ(ks:List Nat)(Pv:Nat->List V->Hp->Prop)(nd:ks.Nodup)(hn:n<=100000)(h0:Pv 0 [] (upd H acc (.lst [])))(hgo:∀i out H1,i<n->H1 acc=some (.lst out)->Pv i out H1->J.go i H1)(hst:∀out H1,H1 acc=some (.lst out)->Pv n out H1->J.stop n H1)(hs:∀(i:Nat) (x:V) (out:List V) (H1 H2:Hp),i<n->out.length=i->H1 acc=some (.lst out)->Pv i out H1->J.DU i H1 x H2->
    ∃t vs,x =.ref t/\cS K H2 t vs/\vs.length=ks.length/\te (fk σ2 ks vs) H2 (yE Pv i acc out))(hd:∀(out:List V) (H1:Hp),out.length=n->H1 acc=some (.lst out)->Pv n out H1->Q (.ref acc) H1):
  D_ J (CQ K ks.length (W0 ks)) te acc σ2 H Q:=by
 refine⟨λi m σ' H'=>m=n-i/\i<=n/\(∀ws,ws.length=ks.length->fk σ' ks ws=fk σ2 ks ws)/\∃out,out.length=i/\H' acc=some (.lst out)/\Pv i out H',⟨n,by simp,gh _,λ_ _=>rfl,[],Z,ao,h0⟩,?_⟩
 rintro i m σ' H' ⟨rfl,hi,hσ,out,ho,ha,p⟩
 by_cases hlt:i<n
 . refine .inr ⟨hgo i out H' hlt ha p,λσ3=>∀ws,ws.length=ks.length->fk σ3 ks ws=fk σ2 ks ws,(yE Pv i acc out),λσ3 v H4 hS ⟨a,b⟩=>?_,λx H1 y=>?_⟩
   . refine⟨out,a,?_,n-(i+1),by omega,Z,hlt,hS,out++[v],by rw[cZ,ho];rfl,ao,b⟩
     have:sizeLine=16777216:=l9
     omega
   . obtain⟨t,vs,rfl,sq,hl,q⟩:=hs i x out H' H1 hlt ho ha p y
     refine⟨t,vs,Z,sq,hl,La hl ⟨λws hw=>?_,?_⟩⟩
     . rw[vq nd hl hw];exact hσ ws hw
     . rw[hσ vs hl];exact q
 . have e:i=n:=by omega
   subst e
   exact .inl ⟨hst out H' ha p,hd out H' ho ha p⟩
theorem Yo(ks:List Nat)(Pv:Nat->List V->Hp->Prop)(nd:ks.Nodup)(hn:n<=100000)(h0:Pv 0 [] (upd H acc (.lst [])))(hgo:∀i out H1,i<n->H1 acc=some (.lst out)->Pv i out H1->J.go i H1)(hst:∀out H1,H1 acc=some (.lst out)->Pv n out H1->J.stop n H1)(hs:∀(i:Nat) (x:V) (out:List V) (H1 H2:Hp),i<n->out.length<=i->H1 acc=some (.lst out)->Pv i out H1->J.DU i H1 x H2->
    ∃t vs,x =.ref t/\cS K H2 t vs/\vs.length=ks.length/\tc (fk σ2 ks vs) H2 (WS te (fk σ2 ks vs) Pv i acc out))(hd:∀(out:List V) (H1:Hp),out.length<=n->H1 acc=some (.lst out)->Pv n out H1->Q (.ref acc) H1):
  Ej J (CQ K ks.length (W0 ks)) tc te acc σ2 H Q:=by
 refine⟨λi m σ' H'=>m=n-i/\i<=n/\(∀ws,ws.length=ks.length->fk σ' ks ws=fk σ2 ks ws)/\∃out,out.length<=i/\H' acc=some (.lst out)/\Pv i out H',⟨n,by simp,gh _,λ_ _=>rfl,[],aQ _,ao,h0⟩,?_⟩
 rintro i m σ' H' ⟨rfl,hi,hσ,out,ho,ha,p⟩
 by_cases hlt:i<n
 . refine .inr ⟨hgo i out H' hlt ha p,λσ3=>∀ws,ws.length=ks.length->fk σ3 ks ws=fk σ2 ks ws,(yE Pv i acc out),λH3=>H3 acc=some (.lst out)/\Pv (i+1) out H3,λσ3 v H4 hS ⟨a,b⟩=>?_,λσ3 H4 hS ⟨a,b⟩=>?_,λx H1 y=>?_⟩
   . refine⟨out,a,?_,n-(i+1),by omega,Z,hlt,hS,out++[v],by rw[cZ];exact Nat.succ_le_succ ho,ao,b⟩
     have:sizeLine=16777216:=l9
     omega
   . exact⟨n-(i+1),by omega,Z,hlt,hS,out,by omega,a,b⟩
   . obtain⟨t,vs,rfl,sq,hl,q⟩:=hs i x out H' H1 hlt ho ha p y
     refine⟨t,vs,Z,sq,hl,La hl ⟨λws hw=>?_,?_⟩⟩
     . rw[vq nd hl hw];exact hσ ws hw
     . rw[hσ vs hl];exact q
 . have e:i=n:=by omega
   subst e
   exact .inl ⟨hst out H' ha p,hd out H' ho ha p⟩
theorem iL(k:Nat)(Pv:Nat->List V->Hp->Prop)(hn:n<=100000)(h0:Pv 0 [] (upd H acc (.lst [])))(hgo:∀i out H1,i<n->H1 acc=some (.lst out)->Pv i out H1->J.go i H1)(hst:∀out H1,H1 acc=some (.lst out)->Pv n out H1->J.stop n H1)(hs:∀(i:Nat) (x:V) (out:List V) (H1 H2:Hp),i<n->out.length=i->H1 acc=some (.lst out)->Pv i out H1->J.DU i H1 x H2->
    te (σ2.set k (some x)) H2 (yE Pv i acc out))(hd:∀(out:List V) (H1:Hp),out.length=n->H1 acc=some (.lst out)->Pv n out H1->Q (.ref acc) H1):
  D_ J (mh k) te acc σ2 H Q:=by
 refine⟨λi m σ' H'=>m=n-i/\i<=n/\(∀w:Option V,σ'.set k w=σ2.set k w)/\∃out,out.length=i/\H' acc=some (.lst out)/\Pv i out H',⟨n,by simp,gh _,λ_=>rfl,[],Z,ao,h0⟩,?_⟩
 rintro i m σ' H' ⟨rfl,hi,hσ,out,ho,ha,p⟩
 by_cases hlt:i<n
 . refine .inr ⟨hgo i out H' hlt ha p,λσ3=>∀w:Option V,σ3.set k w=σ2.set k w,(yE Pv i acc out),λσ3 v H4 hS ⟨a,b⟩=>?_,λx H1 y=>?_⟩
   . refine⟨out,a,?_,n-(i+1),by omega,Z,hlt,hS,out++[v],by rw[cZ,ho];rfl,ao,b⟩
     have:sizeLine=16777216:=l9
     omega
   . refine⟨λw=>by rw[oB];exact hσ w,?_⟩
     rw[hσ]
     exact hs i x out H' H1 hlt ho ha p y
 . have e:i=n:=by omega
   subst e
   exact .inl ⟨hst out H' ha p,hd out H' ho ha p⟩
theorem Gf(k:Nat)(Pv:Nat->List V->Hp->Prop)(hn:n<=100000)(h0:Pv 0 [] (upd H acc (.lst [])))(hgo:∀i out H1,i<n->H1 acc=some (.lst out)->Pv i out H1->J.go i H1)(hst:∀out H1,H1 acc=some (.lst out)->Pv n out H1->J.stop n H1)(hs:∀(i:Nat) (x:V) (out:List V) (H1 H2:Hp),i<n->out.length<=i->H1 acc=some (.lst out)->Pv i out H1->J.DU i H1 x H2->
    tc (σ2.set k (some x)) H2 (WS te (σ2.set k (some x)) Pv i acc out))(hd:∀(out:List V) (H1:Hp),out.length<=n->H1 acc=some (.lst out)->Pv n out H1->Q (.ref acc) H1):
  Ej J (mh k) tc te acc σ2 H Q:=by
 refine⟨λi m σ' H'=>m=n-i/\i<=n/\(∀w:Option V,σ'.set k w=σ2.set k w)/\∃out,out.length<=i/\H' acc=some (.lst out)/\Pv i out H',⟨n,by simp,gh _,λ_=>rfl,[],aQ _,ao,h0⟩,?_⟩
 rintro i m σ' H' ⟨rfl,hi,hσ,out,ho,ha,p⟩
 by_cases hlt:i<n
 . refine .inr ⟨hgo i out H' hlt ha p,λσ3=>∀w:Option V,σ3.set k w=σ2.set k w,(yE Pv i acc out),λH3=>H3 acc=some (.lst out)/\Pv (i+1) out H3,λσ3 v H4 hS ⟨a,b⟩=>?_,λσ3 H4 hS ⟨a,b⟩=>?_,λx H1 y=>?_⟩
   . refine⟨out,a,?_,n-(i+1),by omega,Z,hlt,hS,out++[v],by rw[cZ];exact Nat.succ_le_succ ho,ao,b⟩
     have:sizeLine=16777216:=l9
     omega
   . exact⟨n-(i+1),by omega,Z,hlt,hS,out,by omega,a,b⟩
   . refine⟨λw=>by rw[oB];exact hσ w,?_⟩
     rw[hσ]
     exact hs i x out H' H1 hlt ho ha p y
 . have e:i=n:=by omega
   subst e
   exact .inl ⟨hst out H' ha p,hd out H' ho ha p⟩
structure Mn(P:Program)(w:World)(K:Fg)(mg:SO)(base:Heap)(k:Nat)(C:Addr)(m:Str)(ps:List Str)(sp:Sp):Prop where
 ex:∃f fd,ku P w K mg base vh k f fd ps sp/\Binds K fd ps []/\Meth K C m f/\qe K C
structure Cn(P:Program)(w:World)(K:Fg)(mg:SO)(base:Heap)(k:Nat)(x:Str)(C:Addr)(ps:List Str)(sp:Sp):Prop where
 ex:∃f fd,ku P w K mg base vh k f fd ps sp/\Binds K fd ps []/\Mk K C f/\mg x=some (.ref C)
section
variable {X:Cx}
inductive adt(x:V)(y:V)(H:Hp)(Q:VK):Prop
 |mk(i j:_)(_:x =.int i)(_:y =.int j)(_:Q7 i j)(_:Q (.int (i*j)) H)
theorem Yp:KC X .Mult adt:=by
 rintro pins s σ H x y u v Q I rx ry ⟨i,j,rfl,rfl,⟨m,n,h1,h2,h3⟩,q⟩;obtain⟨t,rfl⟩:=(show ∃t,u=Value.int i t from rx)
 obtain⟨t',rfl⟩:=(show ∃t',v=Value.int j t' from ry)
 exact PyProof.Rows.imul_int ⟨.int (i*j),H,I.tok _,⟨_,Z⟩,q⟩ (IntMulOk.of_le (QE.mpr h1) (QE.mpr h2) h3)
end
structure jq(K:Fg)(C:Addr)(m qual:Str)(st:Stmt)(f:Addr)(fd:FuncData):Prop where
 fn:HD K m qual st f fd
 me:Meth K C m f
 cl:qe K C
variable {mg:SO}{base:Heap}{C f:Addr}{qual:Str}{fd:FuncData}{N ps:List Str}{sp:Sp}
theorem jq.ok{m:Str}{st:Stmt}{k:Nat}(F:jq K C m qual st f fd)(S:aR N ps (aD st))(len:∀vs H Q E,sp vs H Q E->vs.length=ps.length)(hbody:∀(cdv:Value) (A:Around) (outer:List Env) (s:Shared) (H:Hp) (vs:List V) (Q:VK) (E:XK),fq k (A.deeper (envOfC qual (aD st) s.heap.objs.size f cdv))->sp vs H Q E->
    ∃t,wK (tY vh P w K mg base N qual (aD st) f cdv A outer s H E).Cq (dQ st) t/\t { nx:=λ_ H'=>Q .cy H',rt:=Q } (start N vs) H)(h:∀(kV doc pm:Value) (an:Option Addr) (cdv ct:Value) (us:List Value),us.length=ps.length->bindArgs (PySem.W.fnOf m qual (gi st) (dQ st) (aD st) .none kV doc pm an cdv ct) ⟨us,[]⟩=pure (ps.zip us)):
  Mn P w K mg base (k+1) C m ps sp:=⟨f,fd,F.fn.ok S len hbody,F.fn.binds h,F.me,F.cl⟩
structure HM(K:Fg)(mg:SO)(x:Str)(C:Addr)(qual:Str)(st:Stmt)(f:Addr)(fd:FuncData):Prop where
 fn:HD K "__init__" qual st f fd
 mks:Mk K C f
 name:mg x=some (.ref C)
theorem HM.ok{st:Stmt}{k:Nat}(F:HM K mg x C qual st f fd)(S:aR N ps (aD st))(len:∀vs H Q E,sp vs H Q E->vs.length=ps.length)(hbody:∀(cdv:Value) (A:Around) (outer:List Env) (s:Shared) (H:Hp) (vs:List V) (Q:VK) (E:XK),fq k (A.deeper (envOfC qual (aD st) s.heap.objs.size f cdv))->sp vs H Q E->
    ∃t,wK (tY vh P w K mg base N qual (aD st) f cdv A outer s H E).Cq (dQ st) t/\t { nx:=λ_ H'=>Q .cy H',rt:=Q } (start N vs) H)(h:∀(kV doc pm:Value) (an:Option Addr) (cdv ct:Value) (us:List Value),us.length=ps.length->bindArgs (PySem.W.fnOf "__init__" qual (gi st) (dQ st) (aD st) .none kV doc pm an cdv ct) ⟨us,[]⟩=pure (ps.zip us)):
  Cn P w K mg base (k+1) x C ps sp:=⟨f,fd,F.fn.ok S len hbody,F.fn.binds h,F.mks,F.name⟩
abbrev qj:=Nat×Nat×Str
abbrev fE:=Addr->Option qj
abbrev col(n t:Nat):Option qj:=some (n,t,(⟨#[]⟩:Str))
def isTup:HO->Bool
 | .tup _=>true
 | _=>false
def Gh(ρ:fE)(H:Hp):Prop:=∀b c,ρ b=some c->∃o,H b=some o/\isTup o=false
def Fr(n:Nat)(ρ:fE)(H:Hp)(ρ':fE)(H':Hp):Prop:=∀b o,H b=some o->(∀t x,ρ b≠some (n,t,x))->H' b=some o/\ρ' b=ρ b
def bK(ρ:fE)(a:Addr)(c:qj):fE:=λb=>if b=a then some c else ρ b
variable {ρ:fE}
theorem cV{c:qj}:bK ρ a c a=some c:=av rfl
theorem bY{b:Addr}{c:qj}(h:b≠a):bK ρ a c b=ρ b:=au h
def out(ρ:fE)(H:Hp):Hp:=λb=>if ρ b=none then H b else none
variable {o:HO}
theorem En{b:Addr}(h:H b=some o)(c:ρ b=none):out ρ H b=some o:=by unfold out;rw[av c];exact h
theorem yJ{b:Addr}(h:out ρ H b=some o):H b=some o/\ρ b=none:=by
 unfold out at h;split at h
 .next c=>exact⟨h,c⟩
 .cases h
theorem Gh.none(g:Gh ρ H){b:Addr}(h:H b=Option.none):ρ b=Option.none:=by
 cases e:ρ b with
 | none=>rfl
 | some c=>obtain⟨o,q,_⟩:=g b c e;rw[h]at q;cases q
theorem Gh.tup{ρ:fE}{H:Hp}(g:Gh ρ H){b:Addr}{xs:List V}(h:H b=some (.tup xs)):ρ b=Option.none:=by
 cases e:ρ b with
 | none=>rfl
 | some c=>obtain⟨o,q,t⟩:=g b c e;rw[h]at q;cases q;cases t
theorem Gh.same(g:Gh ρ H)(s:aM H H'):Gh ρ H':=λb c e=>let⟨o,h,t⟩:=g b c e;⟨o,s b o h,t⟩
theorem Gh.wr(g:Gh ρ H)(t:isTup o=false):Gh ρ (upd H a o):=λb c e=>by
 by_cases h:b=a
 .rw [h,ao];exact⟨o,Z,t⟩
 .rw [az h];exact g b c e
theorem Gh.alloc(g:Gh ρ H)(h:H a=Option.none):Gh ρ (upd H a o):=g.same (aF h o)
theorem Gh.color(g:Gh ρ H){c:qj}(h:H a=some o)(t:isTup o=false):Gh (bK ρ a c) H:=λb d e=>by
 by_cases z:b=a
 .rw [z];exact⟨o,h,t⟩
 .rw [bY z]at e;exact g b d e
theorem Fr.refl:Fr n ρ H ρ H:=λ_ _ h _=>⟨h,Z⟩
variable {H1 H2:Hp}
theorem Fr.trans{ρ1 ρ2:fE}(a:Fr n ρ H ρ1 H1)(b:Fr n ρ1 H1 ρ2 H2):Fr n ρ H ρ2 H2:=λc o h k=>by obtain⟨h1,e1⟩:=a c o h k;obtain⟨h2,e2⟩:=b c o h1 (by rw[e1];exact k);exact⟨h2,e2.trans e1⟩
theorem Fr.of_same(s:aM H H'):Fr n ρ H ρ H':=λb o h _=>⟨s b o h,Z⟩
theorem Fr.write(c:ρ a=some (n,t,x)):Fr n ρ H ρ (upd H a o):=λb u h k=>by have:b≠a:=λe=>k t x (by rw[e];exact c);rw[az this];exact⟨h,Z⟩
theorem Fr.color{c:qj}(h:H a=none)(s:aM H H'):Fr n ρ H (bK ρ a c) H':=λb u e k=>by rw[bY (aG e h)];exact⟨s b u e,Z⟩
variable {ρ':fE}
theorem Fr.out(f:Fr n ρ H ρ' H'):aM (out ρ H) (out ρ' H'):=λb o h=>by obtain⟨h1,c⟩:=yJ h;obtain⟨h2,e⟩:=f b o h1 (λt x=>by rw[c];intro z;cases z);exact En h2 (e.trans c)
theorem vt(s:aM H H'):aM (out ρ H) (out ρ H'):=λb o h=>by obtain⟨h1,c⟩:=yJ h;exact En (s b o h1) c
structure Pt where
 nm:Str
 ow:Str
 wo:Int
 we:Int
 sc:Int
 row:List Int
structure jd where
 nm:Str
 ow:Str
 wo:Int
 sh:List (Str×Rat)
structure HS where
 own:List Str
 ah:List Pt
 c6:List jd
 nms:List Str
 stp:List Int
 prod:Int
 kn:Nat
 bU:List Int
 b_:List Int
structure HA where
 a:Addr
 dx:Addr
 pl:Addr
 ab:Addr
 as:Addr
 nm:Addr
 bt:Addr
 db:Addr
 cm:Addr
 pu:Addr
 sp:Addr
 kn:Addr
 qs:List (Addr×Addr×Addr)
structure TC where
 hold:Addr
 part:Addr
 bot:Addr
def gq:Nat->List Str->List (Key×V)
 | _,[]=>[]
 | i,o::r=>(Sum.inr o,.int i)::gq (i+1) r
def cX(ps:List Pt)(qs:List (Addr×Addr×Addr)):List (Key×V):=List.zipWith (λp q=>((Sum.inr p.nm:Key),V.ref q.1)) ps qs
def Ao(l:List Str):List (Key×V):=l.map λx=>(Sum.inr x,.bl true)
def j_(A:HA):List (Str×V):=[("places",.ref A.pl),("aboard",.ref A.ab),("ashore",.ref A.as),("names",.ref A.nm),("bottom",.ref A.bt),("common",.ref A.cm),("purses",.ref A.pu)]
def dB(p:Pt)(r:Addr):List (Str×V):=[("name",.str p.nm),("owner",.str p.ow),("worth",.int p.wo),("weight",.int p.we),("scale",.int p.sc),("row",.ref r)]
def yK(sp:Addr)(prod:Int)(kn:Addr):List (Str×V):=[("steps",.ref sp),("product",.int prod),("known",.ref kn)]
def Lb(H:Hp)(kvs:List (Key×V))(prod:Int):Prop:=∀p∈kvs,∃(t:Int)(r:Addr),p=(Sum.inl t,V.ref r)/\H r=some (qg (Jm.fr t prod))
inductive iM(H:Hp):List V->List (Str×Rat)->Prop
 | nil:iM H [] []
 | cons {r f:Addr} {x:Str} {q:Rat} {vs:List V} {l:List (Str×Rat)}:H r=some (.tup [.str x,.ref f])->H f=some (qg q)->iM H vs l->iM H (.ref r::vs) ((x,q)::l)
inductive mw(n:Nat)(ρ:fE)(H:Hp):List V->List jd->Prop
 | nil:mw n ρ H [] []
 | cons {r l:Addr} {x:jd} {ss:List V} {vs:List V} {as:List jd}:H r=some (.tup [.str x.nm,.str x.ow,.int x.wo,.ref l])->H l=some (.lst ss)->ρ l=some (n,30,⟨#[]⟩)->iM H ss x.sh->mw n ρ H vs as->mw n ρ H (.ref r::vs) (x::as)
structure aW(T:TC)(n:Nat)(ρ:fE)(A:HA)(H:Hp)(st:HS):Prop where
 oa:H A.a=some (.ins T.hold A.dx (j_ A))
 ca:ρ A.a=col n 0
 iW:H A.pl=some (.dK (gq 0 st.own))
 je:ρ A.pl=col n 1
 fh:H A.ab=some (.dK (cX st.ah A.qs))
 gM:ρ A.ab=col n 2
 qX:∃vs,H A.as=some (.lst vs)/\mw n ρ H vs st.c6
 jr:ρ A.as=col n 3
 tG:H A.nm=some (.dK (Ao st.nms))
 ju:ρ A.nm=col n 4
 mz:H A.bt=some (.ins T.bot A.db (yK A.sp st.prod A.kn))
 jv:ρ A.bt=col n 5
 jS:H A.cm=some (.lst (st.bU.map V.int))
 jT:ρ A.cm=col n 6
 mR:H A.pu=some (.lst (st.b_.map V.int))
 cpu:ρ A.pu=col n 7
 qY:H A.sp=some (.lst (st.stp.map V.int))
 jw:ρ A.sp=col n 8
 okn:∃kvs,H A.kn=some (.dK kvs)/\Lb H kvs st.prod/\kvs.length<=st.kn/\(kvs.map (·.1)).Nodup
 jx:ρ A.kn=col n 9
 ql:A.qs.length=st.ah.length
 opt:∀(i:Nat)(p:Pt)(q:Addr×Addr×Addr),st.ah[i]?=some p->A.qs[i]?=some q->H q.1=some (.ins T.part q.2.1 (dB p q.2.2))/\H q.2.2=some (.lst (p.row.map V.int))/\ρ q.1=some (n,20,p.nm)/\ρ q.2.2=some (n,21,p.nm)
theorem Eo{b:Addr}{c d:qj}(ha:ρ a=some c)(hb:ρ b=some d)(h:c≠d):a≠b:=λe=>by rw[e,hb]at ha;cases ha;exact h rfl
theorem Cz{b:Addr}{c:qj}(ha:ρ a=none)(hb:ρ b=some c):a≠b:=λe=>by rw[e,hb]at ha;cases ha
variable {vs:List V}
theorem iM.mono{l:List (Str×Rat)}(h:iM H vs l)(g:∀b xs,H b=some (.tup xs)->H' b=some (.tup xs)):iM H' vs l:=by
 induction h with
 | nil=>exact .nil
 | cons a b _ ih=>exact .cons (g _ _ a) (g _ _ b) ih
def Kp(n:Nat)(ρ ρ':fE)(H H':Hp)(ts:Nat->Bool):Prop:=(∀b xs,H b=some (.tup xs)->H' b=some (.tup xs))/\∀b t x o,ts t=true->ρ b=some (n,t,x)->H b=some o->H' b=some o/\ρ' b=some (n,t,x)
variable {ts:Nat->Bool}
theorem mw.keep{l:List jd}(h:mw n ρ H vs l)(k:Kp n ρ ρ' H H' ts)(e:ts 30=true):mw n ρ' H' vs l:=by
 induction h with
 | nil=>exact .nil
 | cons a b c d _ ih=>exact .cons (k.1 _ _ a) (k.2 _ _ _ _ e c b).1 (k.2 _ _ _ _ e c b).2 (d.mono k.1) ih
theorem dZ(g:Gh ρ H)(c:ρ a=some (n,t,x)):Kp n ρ ρ H (upd H a o) (λu=>decide (u≠t)):=by
 refine⟨λb xs h=>?_,λb u y w hu hc h=>⟨?_,hc⟩⟩
 .rw [az (Cz (g.tup h) c)];exact h
 .rw [az (Eo hc c (λe=>by cases e;exact absurd hu (by simp)))];exact h
theorem kz(k:Kp n ρ ρ' H H' ts){b:Addr}(c:ρ b=some (n,t,x))(e:H b=some o)(u:ts t=true:=by decide):H' b=some o:=(k.2 b t x o u c e).1
theorem Pe(s:aM H H'):Kp n ρ ρ H H' ts:=⟨λb xs h=>s _ _ h,λb u y w _ hc h=>⟨s _ _ h,hc⟩⟩
variable {T:TC}{A:HA}{st:HS}
theorem aW.same(h:aW T n ρ A H st)(k:Kp n ρ ρ' H H' λ_=>true):aW T n ρ' A H' st:=by
 have z:=λ{b:Addr}{t:Nat}{x:Str}{o:HO}(c:ρ b=some (n,t,x))(e:H b=some o)=>k.2 b t x o rfl c e;obtain⟨vs,h1,h2⟩:=h.qX;obtain⟨kvs,k1,k2,k3⟩:=h.okn;exact⟨(z h.ca h.oa).1,(z h.ca h.oa).2,(z h.je h.iW).1,(z h.je h.iW).2,(z h.gM h.fh).1,(z h.gM h.fh).2,⟨vs,(z h.jr h1).1,h2.keep k rfl⟩,(z h.jr h1).2,(z h.ju h.tG).1,(z h.ju h.tG).2,(z h.jv h.mz).1,(z h.jv h.mz).2,
  (z h.jT h.jS).1,(z h.jT h.jS).2,(z h.cpu h.mR).1,(z h.cpu h.mR).2,(z h.jw h.qY).1,(z h.jw h.qY).2,⟨kvs,(z h.jx k1).1,λp hp=>let⟨t,r,e,q⟩:=k2 p hp;⟨t,r,e,k.1 _ _ q⟩,k3⟩,(z h.jx k1).2,h.ql,
  λi p q e1 e2=>let⟨a,b,c,d⟩:=h.opt i p q e1 e2;⟨(z c a).1,(z d b).1,(z c a).2,(z d b).2⟩⟩
theorem aW.mono(h:aW T n ρ A H st)(s:aM H H'):aW T n ρ A H' st:=h.same (Pe s)
theorem aW.other(h:aW T m ρ A H st)(f:Fr n ρ H ρ' H')(g:Gh ρ H)(e:m≠n):aW T m ρ' A H' st:=h.same ⟨λb xs q=>(f b _ q λt x=>by rw[g.tup q];intro z;cases z).1,λb t x o _ c q=>by
 obtain⟨a,b'⟩:=f b o q λt' x'=>by rw[c];intro z;cases z;exact e rfl
 exact⟨a,b'.trans c⟩⟩
variable {r:Addr}{ss:List V}
theorem mw.snoc{as:List jd}{l:Addr}{x:jd}(h:mw n ρ H vs as)(e1:H r=some (.tup [.str x.nm,.str x.ow,.int x.wo,.ref l]))(e2:H l=some (.lst ss))(e3:ρ l=some (n,30,⟨#[]⟩))(e4:iM H ss x.sh):mw n ρ H (vs++[.ref r]) (as++[x]):=by
 induction h with
 | nil=>exact .cons e1 e2 e3 e4 .nil
 | cons a b c d _ ih=>exact .cons a b c d ih
theorem BO{p0 p1:Pt}:∀{ps:List Pt}{qs:List (Addr×Addr×Addr)}{i:Nat},ps[i]?=some p0->p1.nm=p0.nm->cX (ps.set i p1) qs=cX ps qs
 | [],_,_,h,_=>by simp at h
 | _::_,[],_,_,_=>by simp[cX]
 | p::ps,q::qs,0,h,e=>by
  have:p=p0:=by simpa using h
  simp[cX,e,this]
 | p::ps,q::qs,i+1,h,e=>by have:=BO (qs:=qs) (by simpa using h:ps[i]?=some p0) e;simp only[cX,Kg,tS]at this ⊢;rw[this]
variable {j:Nat}{p:Pt}
theorem Ep{ps:List Pt}(nd:(ps.map (·.nm)).Nodup){q:Pt}(h1:ps[i]?=some p)(h2:ps[j]?=some q)(e:p.nm=q.nm):i=j:=by
 have a:(ps.map (·.nm))[i]?=some p.nm:=by rw[bO,h1];rfl
 have b:(ps.map (·.nm))[j]?=some p.nm:=by rw[bO,h2,e];rfl
 exact CP nd a b
variable {p0 p1:Pt}{q0:Addr×Addr×Addr}
theorem Yq(h:aW T n ρ A H st)(k:Kp n ρ ρ H H' ts)(nd:(st.ah.map (·.nm)).Nodup)(ep:st.ah[i]?=some p0)(eq:A.qs[i]?=some q0)(e1:p1.nm=p0.nm)(hw:H' q0.1=some (.ins T.part q0.2.1 (dB p1 q0.2.2)))(hs:∀{b:Addr} {t:Nat} {x:Str} {o:HO},ρ b=some (n,t,x)->t≠20\/x≠p0.nm->H b=some o->H' b=some o)(er:(.lst (p0.row.map V.int):HO) =.lst (p1.row.map V.int)):
  ∀(j:Nat)(p:Pt)(q:Addr×Addr×Addr),(st.ah.set i p1)[j]?=some p->A.qs[j]?=some q->H' q.1=some (.ins T.part q.2.1 (dB p q.2.2))/\H' q.2.2=some (.lst (p.row.map V.int))/\ρ q.1=some (n,20,p.nm)/\ρ q.2.2=some (n,21,p.nm):=by
 intro j p q ej eq'
 by_cases hj:i=j
 . subst hj
   rw[eq]at eq';cases eq'
   rw[iB (di.mp ep).1]at ej
   cases ej
   obtain⟨a,b,c,d⟩:=h.opt i p0 q0 ep eq
   exact⟨hw,by rw[<-er];exact hs d (.inl (by decide)) b,by rw[e1];exact c,by rw[e1];exact d⟩
 . rw[yk hj]at ej
   obtain⟨a,b,c,d⟩:=h.opt j p q ej eq'
   exact⟨hs c (.inr λe=>hj (Ep nd ep ej e.symm)) a,hs d (.inl (by decide)) b,c,d⟩
variable {l:List Int}
theorem VJ(h:aW T n ρ A H st)(nd:(st.ah.map (·.nm)).Nodup)(ep:st.ah[i]?=some p0)(eq:A.qs[i]?=some q0)(hw:H' q0.2.2=some (.lst (l.map V.int)))(hs:∀{b:Addr} {t:Nat} {x:Str} {o:HO},ρ b=some (n,t,x)->t≠21\/x≠p0.nm->H b=some o->H' b=some o):
  ∀(j:Nat)(p:Pt)(q:Addr×Addr×Addr),(st.ah.set i { p0 with row:=l })[j]?=some p->A.qs[j]?=some q->H' q.1=some (.ins T.part q.2.1 (dB p q.2.2))/\H' q.2.2=some (.lst (p.row.map V.int))/\ρ q.1=some (n,20,p.nm)/\ρ q.2.2=some (n,21,p.nm):=by
 intro j p q ej eq'
 by_cases hj:i=j
 . subst hj
   rw[eq]at eq';cases eq'
   rw[iB (di.mp ep).1]at ej
   cases ej
   obtain⟨a,b,c,d⟩:=h.opt i p0 q0 ep eq
   exact⟨hs c (.inl (by decide)) a,hw,c,d⟩
 . rw[yk hj]at ej
   obtain⟨a,b,c,d⟩:=h.opt j p q ej eq'
   exact⟨hs c (.inl (by decide)) a,hs d (.inr λe=>hj (Ep nd ep ej e.symm)) b,c,d⟩
theorem Aq(c:ρ a=some (n,t,x)):∀{b:Addr}{u:Nat}{y:Str}{w:HO},ρ b=some (n,u,y)->u≠t\/y≠x->H b=some w->upd H a o b=some w:=λ{b u y w} hc hu h=>by rw[az (Eo hc c (λe=>by cases e;rcases hu with z|z <;> exact z rfl))];exact h
theorem aW.aaK(h:aW T n ρ A H st)(g:Gh ρ H)(l:List Str):aW T n ρ A (upd H A.pl (.dK (gq 0 l))) { st with own:=l }:=by have k:=dZ (o:=.dK (gq 0 l)) g h.je;obtain⟨vs,h1,h2⟩:=h.qX;obtain⟨kvs,k1,k2,k3⟩:=h.okn;exact⟨kz k h.ca h.oa,h.ca,ao,h.je,kz k h.gM h.fh,h.gM,⟨vs,kz k h.jr h1,h2.keep k (by decide)⟩,h.jr,kz k h.ju h.tG,h.ju,kz k h.jv h.mz,h.jv,kz k h.jT h.jS,h.jT,kz k h.cpu h.mR,h.cpu,kz k h.jw h.qY,h.jw,⟨kvs,kz k h.jx k1,λp hp=>let⟨t,r,e,q⟩:=k2 p hp;⟨t,r,e,k.1 _ _ q⟩,k3⟩,h.jx,h.ql,λi p q e1 e2=>let⟨a,b,c,d⟩:=h.opt i p q e1 e2;⟨kz k c a,kz k d b,c,d⟩⟩
theorem aW.Lc(h:aW T n ρ A H st)(g:Gh ρ H)(ps:List Pt)(qs:List (Addr×Addr×Addr))(el:qs.length=ps.length)(hp:∀(i:Nat) (p:Pt) (q:Addr×Addr×Addr),ps[i]?=some p->qs[i]?=some q->H q.1=some (.ins T.part q.2.1 (dB p q.2.2))/\H q.2.2=some (.lst (p.row.map V.int))/\ρ q.1=some (n,20,p.nm)/\ρ q.2.2=some (n,21,p.nm)):aW T n ρ { A with qs:=qs } (upd H A.ab (.dK (cX ps qs))) { st with ah:=ps }:=by have k:=dZ (o:=.dK (cX ps qs)) g h.gM;obtain⟨vs,h1,h2⟩:=h.qX;obtain⟨kvs,k1,k2,k3⟩:=h.okn;exact⟨kz k h.ca h.oa,h.ca,kz k h.je h.iW,h.je,ao,h.gM,⟨vs,kz k h.jr h1,h2.keep k (by decide)⟩,h.jr,kz k h.ju h.tG,h.ju,kz k h.jv h.mz,h.jv,kz k h.jT h.jS,h.jT,kz k h.cpu h.mR,h.cpu,kz k h.jw h.qY,h.jw,⟨kvs,kz k h.jx k1,λp hp=>let⟨t,r,e,q⟩:=k2 p hp;⟨t,r,e,k.1 _ _ q⟩,k3⟩,h.jx,el,λi p q e1 e2=>let⟨a,b,c,d⟩:=hp i p q e1 e2;⟨kz k c a,kz k d b,c,d⟩⟩
theorem aW.aaL(h:aW T n ρ A H st)(g:Gh ρ H){l:Addr}{x:jd}{S7:List V}(hv:H A.as=some (.lst S7))(e1:H r=some (.tup [.str x.nm,.str x.ow,.int x.wo,.ref l]))(e2:H l=some (.lst ss))(e3:ρ l=some (n,30,⟨#[]⟩))(e4:iM H ss x.sh):aW T n ρ A (upd H A.as (.lst (S7++[.ref r]))) { st with c6:=st.c6++[x] }:=by have k:=dZ (o:=.lst (S7++[.ref r])) g h.jr;obtain⟨vs,h1,h2⟩:=h.qX;obtain⟨kvs,k1,k2,k3⟩:=h.okn;exact⟨kz k h.ca h.oa,h.ca,kz k h.je h.iW,h.je,kz k h.gM h.fh,h.gM,⟨_,ao,by rw[hv]at h1;cases h1;exact(h2.keep k (by decide)).snoc (k.1 _ _ e1) (kz k e3 e2) e3 (e4.mono k.1)⟩,h.jr,kz k h.ju h.tG,h.ju,kz k h.jv h.mz,h.jv,kz k h.jT h.jS,h.jT,kz k h.cpu h.mR,h.cpu,kz k h.jw h.qY,h.jw,⟨kvs,kz k h.jx k1,λp hp=>let⟨t,r,e,q⟩:=k2 p hp;⟨t,r,e,k.1 _ _ q⟩,k3⟩,h.jx,h.ql,λi p q e1 e2=>let⟨a,b,c,d⟩:=h.opt i p q e1 e2;⟨kz k c a,kz k d b,c,d⟩⟩
theorem aW.aaM(h:aW T n ρ A H st)(g:Gh ρ H)(l:List Str):aW T n ρ A (upd H A.nm (.dK (Ao l))) { st with nms:=l }:=by have k:=dZ (o:=.dK (Ao l)) g h.ju;obtain⟨vs,h1,h2⟩:=h.qX;obtain⟨kvs,k1,k2,k3⟩:=h.okn;exact⟨kz k h.ca h.oa,h.ca,kz k h.je h.iW,h.je,kz k h.gM h.fh,h.gM,⟨vs,kz k h.jr h1,h2.keep k (by decide)⟩,h.jr,ao,h.ju,kz k h.jv h.mz,h.jv,kz k h.jT h.jS,h.jT,kz k h.cpu h.mR,h.cpu,kz k h.jw h.qY,h.jw,⟨kvs,kz k h.jx k1,λp hp=>let⟨t,r,e,q⟩:=k2 p hp;⟨t,r,e,k.1 _ _ q⟩,k3⟩,h.jx,h.ql,λi p q e1 e2=>let⟨a,b,c,d⟩:=h.opt i p q e1 e2;⟨kz k c a,kz k d b,c,d⟩⟩
theorem aW.aaN(h:aW T n ρ A H st)(g:Gh ρ H)(l:List Int):aW T n ρ A (upd H A.cm (.lst (l.map V.int))) { st with bU:=l }:=by have k:=dZ (o:=.lst (l.map V.int)) g h.jT;obtain⟨vs,h1,h2⟩:=h.qX;obtain⟨kvs,k1,k2,k3⟩:=h.okn;exact⟨kz k h.ca h.oa,h.ca,kz k h.je h.iW,h.je,kz k h.gM h.fh,h.gM,⟨vs,kz k h.jr h1,h2.keep k (by decide)⟩,h.jr,kz k h.ju h.tG,h.ju,kz k h.jv h.mz,h.jv,ao,h.jT,kz k h.cpu h.mR,h.cpu,kz k h.jw h.qY,h.jw,⟨kvs,kz k h.jx k1,λp hp=>let⟨t,r,e,q⟩:=k2 p hp;⟨t,r,e,k.1 _ _ q⟩,k3⟩,h.jx,h.ql,λi p q e1 e2=>let⟨a,b,c,d⟩:=h.opt i p q e1 e2;⟨kz k c a,kz k d b,c,d⟩⟩
theorem aW.aaO(h:aW T n ρ A H st)(g:Gh ρ H)(l:List Int):aW T n ρ A (upd H A.pu (.lst (l.map V.int))) { st with b_:=l }:=by have k:=dZ (o:=.lst (l.map V.int)) g h.cpu;obtain⟨vs,h1,h2⟩:=h.qX;obtain⟨kvs,k1,k2,k3⟩:=h.okn;exact⟨kz k h.ca h.oa,h.ca,kz k h.je h.iW,h.je,kz k h.gM h.fh,h.gM,⟨vs,kz k h.jr h1,h2.keep k (by decide)⟩,h.jr,kz k h.ju h.tG,h.ju,kz k h.jv h.mz,h.jv,kz k h.jT h.jS,h.jT,ao,h.cpu,kz k h.jw h.qY,h.jw,⟨kvs,kz k h.jx k1,λp hp=>let⟨t,r,e,q⟩:=k2 p hp;⟨t,r,e,k.1 _ _ q⟩,k3⟩,h.jx,h.ql,λi p q e1 e2=>let⟨a,b,c,d⟩:=h.opt i p q e1 e2;⟨kz k c a,kz k d b,c,d⟩⟩
theorem aW.aaP(h:aW T n ρ A H st)(g:Gh ρ H)(l:List Int):aW T n ρ A (upd H A.sp (.lst (l.map V.int))) { st with stp:=l }:=by have k:=dZ (o:=.lst (l.map V.int)) g h.jw;obtain⟨vs,h1,h2⟩:=h.qX;obtain⟨kvs,k1,k2,k3⟩:=h.okn;exact⟨kz k h.ca h.oa,h.ca,kz k h.je h.iW,h.je,kz k h.gM h.fh,h.gM,⟨vs,kz k h.jr h1,h2.keep k (by decide)⟩,h.jr,kz k h.ju h.tG,h.ju,kz k h.jv h.mz,h.jv,kz k h.jT h.jS,h.jT,kz k h.cpu h.mR,h.cpu,ao,h.jw,⟨kvs,kz k h.jx k1,λp hp=>let⟨t,r,e,q⟩:=k2 p hp;⟨t,r,e,k.1 _ _ q⟩,k3⟩,h.jx,h.ql,λi p q e1 e2=>let⟨a,b,c,d⟩:=h.opt i p q e1 e2;⟨kz k c a,kz k d b,c,d⟩⟩
theorem aW.aaQ(h:aW T n ρ A H st)(g:Gh ρ H)(q:Addr)(l:List Int)(e:H q=some (.lst (l.map V.int)))(c:ρ q=col n 6):aW T n ρ { A with cm:=q } (upd H A.a (.ins T.hold A.dx (j_ { A with cm:=q }))) { st with bU:=l }:=by have k:=dZ (o:=.ins T.hold A.dx (j_ { A with cm:=q })) g h.ca;obtain⟨vs,h1,h2⟩:=h.qX;obtain⟨kvs,k1,k2,k3⟩:=h.okn;exact⟨ao,h.ca,kz k h.je h.iW,h.je,kz k h.gM h.fh,h.gM,⟨vs,kz k h.jr h1,h2.keep k (by decide)⟩,h.jr,kz k h.ju h.tG,h.ju,kz k h.jv h.mz,h.jv,kz k c e,c,kz k h.cpu h.mR,h.cpu,kz k h.jw h.qY,h.jw,⟨kvs,kz k h.jx k1,λp hp=>let⟨t,r,e,q⟩:=k2 p hp;⟨t,r,e,k.1 _ _ q⟩,k3⟩,h.jx,h.ql,λi p q e1 e2=>let⟨a,b,c,d⟩:=h.opt i p q e1 e2;⟨kz k c a,kz k d b,c,d⟩⟩
theorem aW.S9(h:aW T n ρ A H st)(g:Gh ρ H)(q:Addr)(l:List Int)(e:H q=some (.lst (l.map V.int)))(c:ρ q=col n 7):aW T n ρ { A with pu:=q } (upd H A.a (.ins T.hold A.dx (j_ { A with pu:=q }))) { st with b_:=l }:=by have k:=dZ (o:=.ins T.hold A.dx (j_ { A with pu:=q })) g h.ca;obtain⟨vs,h1,h2⟩:=h.qX;obtain⟨kvs,k1,k2,k3⟩:=h.okn;exact⟨ao,h.ca,kz k h.je h.iW,h.je,kz k h.gM h.fh,h.gM,⟨vs,kz k h.jr h1,h2.keep k (by decide)⟩,h.jr,kz k h.ju h.tG,h.ju,kz k h.jv h.mz,h.jv,kz k h.jT h.jS,h.jT,kz k c e,c,kz k h.jw h.qY,h.jw,⟨kvs,kz k h.jx k1,λp hp=>let⟨t,r,e,q⟩:=k2 p hp;⟨t,r,e,k.1 _ _ q⟩,k3⟩,h.jx,h.ql,λi p q e1 e2=>let⟨a,b,c,d⟩:=h.opt i p q e1 e2;⟨kz k c a,kz k d b,c,d⟩⟩
theorem aW.aaR(h:aW T n ρ A H st)(g:Gh ρ H)(m:Int)(q:Addr)(e:H q=some (.dK []))(c:ρ q=col n 9):aW T n ρ { A with kn:=q } (upd H A.bt (.ins T.bot A.db (yK A.sp m q))) { st with prod:=m,kn:=0 }:=by have k:=dZ (o:=.ins T.bot A.db (yK A.sp m q)) g h.jv;obtain⟨vs,h1,h2⟩:=h.qX;obtain⟨kvs,k1,k2,k3⟩:=h.okn;exact⟨kz k h.ca h.oa,h.ca,kz k h.je h.iW,h.je,kz k h.gM h.fh,h.gM,⟨vs,kz k h.jr h1,h2.keep k (by decide)⟩,h.jr,kz k h.ju h.tG,h.ju,ao,h.jv,kz k h.jT h.jS,h.jT,kz k h.cpu h.mR,h.cpu,kz k h.jw h.qY,h.jw,⟨[],kz k c e,(λp hp=>absurd hp (by simp)),aQ _,wI⟩,c,h.ql,λi p q e1 e2=>let⟨a,b,c,d⟩:=h.opt i p q e1 e2;⟨kz k c a,kz k d b,c,d⟩⟩
theorem aW.iX(h:aW T n ρ A H st)(g:Gh ρ H)(ep:st.ah[i]?=some p0)(eq:A.qs[i]?=some q0)(e1:p1.nm=p0.nm)(e2:p1.row=p0.row)(nd:(st.ah.map (·.nm)).Nodup):aW T n ρ A (upd H q0.1 (.ins T.part q0.2.1 (dB p1 q0.2.2))) { st with ah:=st.ah.set i p1 }:=by have k:=dZ (o:=.ins T.part q0.2.1 (dB p1 q0.2.2)) g (h.opt i p0 q0 ep eq).2.2.1;obtain⟨vs,h1,h2⟩:=h.qX;obtain⟨kvs,k1,k2,k3⟩:=h.okn;exact⟨kz k h.ca h.oa,h.ca,kz k h.je h.iW,h.je,by rw[BO ep e1];exact kz k h.gM h.fh,h.gM,⟨vs,kz k h.jr h1,h2.keep k (by decide)⟩,h.jr,kz k h.ju h.tG,h.ju,kz k h.jv h.mz,h.jv,kz k h.jT h.jS,h.jT,kz k h.cpu h.mR,h.cpu,kz k h.jw h.qY,h.jw,⟨kvs,kz k h.jx k1,λp hp=>let⟨t,r,e,q⟩:=k2 p hp;⟨t,r,e,k.1 _ _ q⟩,k3⟩,h.jx,by rw[eZ];exact h.ql,Yq h k nd ep eq e1 ao (Aq (h.opt i p0 q0 ep eq).2.2.1) (by rw[e2])⟩
theorem aW.Yr(h:aW T n ρ A H st)(g:Gh ρ H)(l:List Int)(ep:st.ah[i]?=some p0)(eq:A.qs[i]?=some q0)(nd:(st.ah.map (·.nm)).Nodup):aW T n ρ A (upd H q0.2.2 (.lst (l.map V.int))) { st with ah:=st.ah.set i { p0 with row:=l } }:=by have k:=dZ (o:=.lst (l.map V.int)) g (h.opt i p0 q0 ep eq).2.2.2;obtain⟨vs,h1,h2⟩:=h.qX;obtain⟨kvs,k1,k2,k3⟩:=h.okn;exact⟨kz k h.ca h.oa,h.ca,kz k h.je h.iW,h.je,by show _=some (HO.dK (cX (st.ah.set i { p0 with row:=l }) A.qs));rw[BO (p1:={ p0 with row:=l }) ep rfl];exact kz k h.gM h.fh,h.gM,⟨vs,kz k h.jr h1,h2.keep k (by decide)⟩,h.jr,kz k h.ju h.tG,h.ju,kz k h.jv h.mz,h.jv,kz k h.jT h.jS,h.jT,kz k h.cpu h.mR,h.cpu,kz k h.jw h.qY,h.jw,⟨kvs,kz k h.jx k1,λp hp=>let⟨t,r,e,q⟩:=k2 p hp;⟨t,r,e,k.1 _ _ q⟩,k3⟩,h.jx,by rw[eZ];exact h.ql,VJ h nd ep eq ao (Aq (h.opt i p0 q0 ep eq).2.2.2)⟩
structure Txt(K:Fg)(T:TC):Prop where
 cH:qe K T.hold
 cP:qe K T.part
 cB:qe K T.bot
 hpl:fP K T.hold "places"
 hab:fP K T.hold "aboard"
 has:fP K T.hold "ashore"
 hnm:fP K T.hold "names"
 Ar:fP K T.hold "bottom"
 CA:fP K T.hold "common"
 Er:fP K T.hold "purses"
 S_:fP K T.part "name"
 pow:fP K T.part "owner"
 wO:fP K T.part "worth"
 Tc:fP K T.part "weight"
 Ld:fP K T.part "scale"
 Pf:fP K T.part "row"
 bst:fP K T.bot "steps"
 Pg:fP K T.bot "product"
 Td:fP K T.bot "known"
structure Wf(st:HS):Prop where
 ua:st.own.Nodup
 yL:st.nms.Nodup
 fB:(st.ah.map (·.nm)).Nodup
 sub:∀p∈st.ah,p.nm∈st.nms
 rows:∀p∈st.ah,p.row.length=st.own.length
 ow:∀p∈st.ah,p.ow∈st.own
 gc:st.bU.length=st.own.length
 rD:st.b_.length=st.own.length
 gC:1<=st.prod
 sM:st.prod=st.stp.foldl (·*·) 1
 xC:∀s∈st.stp,2<=s
 kR:st.own.length<=100
 yM:st.nms.length<=1000
 rE:st.ah.length<=1000
 As:st.stp.length<=100
 uc:st.c6.length<=1000
 HN:st.kn<=1000000
 big:Jm.Sz 8000 st.prod
 oZ:∀c∈st.bU,0<=c/\c<=st.prod
 tH:∀p∈st.ah,1<=p.sc/\p.sc<=st.prod
 o9:∀p∈st.ah,∀r∈p.row,-st.prod<=r/\r<=st.prod
 qm:∀p∈st.ah,∀t∈List.zipWith (λr c=>p.sc*r+c) p.row st.bU,0<=t/\t<=st.prod
 ki:∀p∈st.ah,1<=p.wo/\0<=p.we
 Gg:∀u∈st.b_,Jm.Sz 9000 u
structure HH(T:TC)(n:Nat)(ρ:fE)(A:HA)(H:Hp)(st:HS):Prop where
 g:Gh ρ H
 h:aW T n ρ A H st
 wf:Wf st
def wQ(T:TC)(n:Nat)(ρ:fE)(A:HA)(H:Hp)(st:HS)(Q:Hp->Prop):Prop:=∀ρ' A' H',HH T n ρ' A' H' st->A'.a=A.a->Fr n ρ H ρ' H'->Q H'
def hs0:HS:=⟨[],[],[],[],[],1,0,[],[]⟩
theorem wf0:Wf hs0:=by refine⟨wI,wI,wI,?_,?_,?_,Z,Z,?_,Z,?_,?_,?_,?_,?_,?_,?_,?_,?_,?_,?_,?_,?_,?_⟩ <;> first|(intro _ h;exact absurd h (by simp[hs0]))|decide|(show Jm.Sz 8000 1;exact jR (by decide +kernel))
theorem Ph:∀{l:List Str}{i:Nat}{o:Str},o∈l->eE (gq i l) (Sum.inr o)=some (.int ((i+l.idxOf o:Nat):Int))
 | [],_,_,h=>by simp at h
 | x::l,i,o,h=>by
  by_cases e:x=o
  .subst e;rw[show gq i (x::l)=(Sum.inr x,.int i)::gq (i+1) l from rfl,gU rfl];simp
  .rw [show gq i (x::l)=(Sum.inr x,.int i)::gq (i+1) l from rfl,fu (by intro z;exact e (sj z))];have hm:o∈l:=by
    rcases dS.mp h with z|z
    .exact absurd z.symm e
    .exact z
   rw[Ph hm];have eb:(x==o)=false:=by simpa using e
   have:(x::l).idxOf o=l.idxOf o+1:=by rw[List.idxOf_cons,eb];rfl
   rw[this];show some (V.int ((i+1+l.idxOf o:Nat):Int))=some (V.int ((i+(l.idxOf o+1):Nat):Int));rw[show i+1+l.idxOf o=i+(l.idxOf o+1)from by omega]
theorem qo:∀{l:List Str}{i:Nat}{o:Str},o∉l->eE (gq i l) (Sum.inr o)=none
 | [],_,_,_=>rfl
 | x::l,i,o,h=>by rw[show gq i (x::l)=(Sum.inr x,.int i)::gq (i+1) l from rfl,fu (λz=>h (by rw[<-sj z];exact cT))];exact qo λm=>h (cW _ m)
theorem qp:∀(l:List Str)(i:Nat),(gq i l).length=l.length
 | [],_=>rfl
 | _::l,i=>by rw[show ∀x,gq i (x::l)=(Sum.inr x,.int i)::gq (i+1) l from λ_=>rfl,iF,iF,qp l]
theorem Le:∀(l:List Str)(i:Nat)(o:Str),gq i (l++[o])=gq i l++[(Sum.inr o,.int ((i+l.length:Nat):Int))]
 | [],i,o=>rfl
 | x::l,i,o=>by
  show(Sum.inr x,V.int i)::gq (i+1) (l++[o])=_;rw[Le l (i+1) o];show _=(Sum.inr x,V.int i)::(gq (i+1) l++_)
  rw[iF,show i+1+l.length=i+(l.length+1)from by omega]
theorem CY:∀(l:List Str)(i:Nat),(gq i l).map (λp=>kV p.1)=l.map V.str
 | [],_=>rfl
 | x::l,i=>by show kV (Sum.inr x)::(gq (i+1) l).map _=V.str x::l.map V.str;rw[CY l];rfl
variable {qs:List (Addr×Addr×Addr)}
theorem x6{ps:List Pt}{q:Addr×Addr×Addr}(h1:ps[i]?=some p)(h2:qs[i]?=some q):(cX ps qs)[i]?=some (Sum.inr p.nm,.ref q.1):=by unfold cX;rw[QC,h1,h2]
theorem x8{ps:List Pt}(h:qs.length=ps.length):(cX ps qs).length=ps.length:=by unfold cX;rw[kq,h,yw]
theorem uX:∀{ps:List Pt}{qs:List (Addr×Addr×Addr)}{i:Nat}{p:Pt}{q:Addr×Addr×Addr},(ps.map (·.nm)).Nodup->ps[i]?=some p->qs[i]?=some q->eE (cX ps qs) (Sum.inr p.nm)=some (.ref q.1)
 | [],_,_,_,_,_,h,_=>by simp at h
 | _::_,[],_,_,_,_,_,h=>by simp at h
 | a::ps,b::qs,0,p,q,_,h1,h2=>by
  have e1:a=p:=by simpa using h1
  have e2:b=q:=by simpa using h2
  subst e1 e2;exact gU rfl
 | a::ps,b::qs,i+1,p,q,nd,h1,h2=>by
  have nd':=gK.mp (show(a.nm::ps.map (·.nm)).Nodup from nd);have Es:ps[i]?=some p:=by simpa using h1
  rw[show cX (a::ps) (b::qs)=(Sum.inr a.nm,.ref b.1)::cX ps qs from rfl,fu (λz=>nd'.1 (a_.mpr ⟨p,bw Es,(sj z).symm⟩))];exact uX nd'.2 Es (by simpa using h2)
theorem vv:∀{ps:List Pt}{qs:List (Addr×Addr×Addr)}{x:Str},(∀p∈ps,p.nm≠x)->eE (cX ps qs) (Sum.inr x)=none
 | [],_,_,_=>rfl
 | _::_,[],_,_=>rfl
 | a::ps,b::qs,x,h=>by rw[show cX (a::ps) (b::qs)=(Sum.inr a.nm,.ref b.1)::cX ps qs from rfl,fu (λz=>h a cT (sj z))];exact vv λp hp=>h p (cW _ hp)
theorem VL{ps:List Pt}(h:qs.length=ps.length)(p:Pt)(q:Addr×Addr×Addr):cX (ps++[p]) (qs++[q])=cX ps qs++[(Sum.inr p.nm,.ref q.1)] :=by unfold cX;rw[List.zipWith_append h.symm];rfl
theorem Au{l:List Str}(h:x∉l):eE (Ao l) (Sum.inr x)=none:=by
 unfold Ao
 induction l with
 | nil=>rfl
 | cons a l ih=>rw[bN,fu (λz=>h (by rw[<-sj z];exact cT))];exact ih λm=>h (cW _ m)
theorem Lf{l:List Str}(h:x∈l):eE (Ao l) (Sum.inr x)=some (.bl true):=by
 unfold Ao
 induction l with
 | nil=>simp at h
 | cons a l ih=>
  rw[bN];by_cases e:a=x
  .exact gU (by rw[e])
  .rw [fu (λz=>e (sj z))];exact ih ((dS.mp h).resolve_left λz=>e z.symm)
theorem aW.find(h:aW T n ρ A H st)(e:st.ah[i]?=some p):∃q,A.qs[i]?=some q/\H q.1=some (.ins T.part q.2.1 (dB p q.2.2))/\H q.2.2=some (.lst (p.row.map V.int))/\ρ q.1=some (n,20,p.nm)/\ρ q.2.2=some (n,21,p.nm):=by
 have hi:i<A.qs.length:=by rw[h.ql];exact(di.mp e).1
 exact⟨A.qs[i],bq hi,h.opt i p _ e (bq hi)⟩
def fF(st:HS)(o:Str):HS:={ st with own:=st.own++[o],bU:=st.bU++[0],b_:=st.b_++[0],ah:=st.ah.map λp=>{ p with row:=p.row++[0] } }
def aV(st:HS)(p:Pt):List Int:=List.zipWith (λr c=>p.sc*r+c) p.row st.bU
def lS(st:HS)(tops:List Int):List Int:=List.zipWith (λt c=>t-c) tops st.bU
def yN(st:HS)(p:Pt):HS:={ st with ah:=st.ah++[p],nms:=st.nms++[p.nm] }
def wR(st:HS)(x o:Str)(wo we:Int):HS:=yN st ⟨x,o,wo,we,1,lS st ((List.replicate st.own.length 0).set (st.own.idxOf o) st.prod)⟩
def aH(st:HS):Int:=(st.ah.map (·.wo)).sum
def mS(st:HS)(p:Pt):List (Str×Rat):=(List.zip st.own (aV st p)).filterMap λx=>if 0<x.2 then some (x.1,Jm.fr x.2 st.prod) else none
def BQ(p:Pt):HO:=.tup [.str p.nm,.str p.ow,.int p.wo,.int p.we]
inductive kj(H:Hp):List V->List Pt->Prop
 | nil:kj H [] []
 | cons {r:Addr} {p:Pt} {vs:List V} {ps:List Pt}:H r=some (BQ p)->kj H vs ps->kj H (.ref r::vs) (p::ps)
def Lg(n:Nat)(q1 q2:Addr)(ρ:fE)(H:Hp)(ρ':fE)(H':Hp):Prop:=∀b o,H b=some o->(∀t x,ρ b≠some (n,t,x))->b≠q1->b≠q2->H' b=some o/\ρ' b=ρ b
theorem Lg.trans{ρ1 ρ2:fE}(a:Lg n q1 q2 ρ H ρ1 H1)(b:Fr n ρ1 H1 ρ2 H2):Lg n q1 q2 ρ H ρ2 H2:=λc o h k x y=>by obtain⟨h1,e1⟩:=a c o h k x y;obtain⟨h2,e2⟩:=b c o h1 (by rw[e1];exact k);exact⟨h2,e2.trans e1⟩
theorem Lg.fr{ρ1 ρ2:fE}(b:Lg n q1 q2 ρ1 H1 ρ2 H2)(a:Fr n ρ H ρ1 H1)(h1:H q1=none)(h2:H q2=none):Fr n ρ H ρ2 H2:=λc o h k=>by obtain⟨e1,e2⟩:=a c o h k;obtain⟨e3,e4⟩:=b c o e1 (by rw[e2];exact k) (aG h h1) (aG h h2);exact⟨e3,e4.trans e2⟩
def isNm(o:Str):Bool:=isName o.cps.toList
inductive aaT(T:TC)(vs:List V)(H:Hp)(Q:VK)(E:XK):Prop
 |mk(p dx:_)(_:vs=[.ref p])(_:H p=some (.ins T.bot dx []))(_:∀sp kn H',H sp=none->H kn=none->sp≠kn->(∀b o,H b=some o->b≠p->H' b=some o)->H' p=some (.ins T.bot dx (yK sp 1 kn))->H' sp=some (.lst [])->H' kn=some (.dK [])->Q .cy H')
def Pj(T:TC):Sp:=bx (aaT T)
inductive aaU(T:TC)(K:Fg)(vs:List V)(H:Hp)(Q:VK)(E:XK):Prop
 |mk(p dx l:Addr)(pt:Pt)(_:vs=[.ref p,.str pt.nm,.str pt.ow,.int pt.wo,.int pt.we,.int pt.sc,.ref l])(_:H p=some (.ins T.part dx []))(_:aB K H l (pt.row.map V.int))(_:∀r H',H r=none->(∀b o,H b=some o->b≠p->H' b=some o)->H' p=some (.ins T.part dx (dB pt r))->H' r=some (.lst (pt.row.map V.int))->Q .cy H')
def Gi(T:TC)(K:Fg):Sp:=bx (aaU T K)
inductive aaV(T:TC)(vs:List V)(H:Hp)(Q:VK)(E:XK):Prop
 |mk(p dx ρ n:_)(_:vs=[.ref p])(_:H p=some (.ins T.hold dx []))(_:Gh ρ H)(_:ρ p=none)(_:∀ρ' A H',A.a=p->HH T n ρ' A H' hs0->(∀b o,H b=some o->b≠p->H' b=some o/\ρ' b=ρ b)->Q .cy H')
def Pk(T:TC):Sp:=bx (aaV T)
inductive aaW(T:TC)(vs:List V)(H:Hp)(Q:VK)(E:XK):Prop
 |mk(n ρ A st o:_)(_:vs=[.ref A.a,.str o])(_:aW T n ρ A H st)(_:o∈st.own)(_:Q (.int (st.own.idxOf o:Int)) H)
def Gj(T:TC):Sp:=bx (aaW T)
inductive Ys(T:TC)(vs:List V)(H:Hp)(Q:VK)(E:XK):Prop
 |mk(n ρ A st:_)(i:Nat)(p:Pt)(q:Addr×Addr×Addr)(_:vs=[.ref A.a,.str p.nm])(_:aW T n ρ A H st)(_:(st.ah.map (·.nm)).Nodup)(_:st.ah[i]?=some p)(_:A.qs[i]?=some q)(_:Q (.ref q.1) H)
def CZ(T:TC):Sp:=bx (Ys T)
inductive Te(T:TC)(vs:List V)(H:Hp)(Q:VK)(E:XK):Prop
 |mk(n ρ A st x:_)(_:vs=[.ref A.a,.str x])(_:aW T n ρ A H st)(_:isNm x=true)(_:x∉st.nms)(_:∀H',aM H H'->Q .cy H')
def Et(T:TC):Sp:=bx (Te T)
inductive agA(T:TC)(K:Fg)(vs:List V)(H:Hp)(Q:VK)(E:XK):Prop
 |mk(n ρ A st l:_)(tops:List Int)(_:vs=[.ref A.a,.ref l])(_:aW T n ρ A H st)(_:aB K H l (tops.map V.int))(_:tops.length=st.bU.length)(_:tops.length<=1000)(_:∀r H',aM H H'->H r=none->H' r=some (.lst ((lS st tops).map V.int))->Q (.ref r) H')
def Rk(T:TC)(K:Fg):Sp:=bx (agA T K)
inductive aaX(T:TC)(vs:List V)(H:Hp)(Q:VK)(E:XK):Prop
 |mk(n ρ A st:_)(i:Nat)(p:Pt)(q:Addr×Addr×Addr)(_:vs=[.ref A.a,.ref q.1])(_:aW T n ρ A H st)(_:Wf st)(_:st.ah[i]?=some p)(_:A.qs[i]?=some q)(_:∀r H',aM H H'->H r=none->H' r=some (.lst ((aV st p).map V.int))->Q (.ref r) H')
def BR(T:TC):Sp:=bx (aaX T)
inductive adu(T:TC)(vs:List V)(H:Hp)(Q:VK)(E:XK):Prop
 |mk(n ρ A st:_)(q:Addr×Addr×Addr)(p:Pt)(_:vs=[.ref A.a,.ref q.1])(_:HH T n ρ A H st)(_:H q.1=some (.ins T.part q.2.1 (dB p q.2.2)))(_:H q.2.2=some (.lst (p.row.map V.int)))(_:ρ q.1=none)(_:ρ q.2.2=none)(_:p.nm∉st.nms)(_:Wf (yN st p))(_:∀ρ' A' H',HH T n ρ' A' H' (yN st p:_)->A'.a=A.a->Lg n q.1 q.2.2 ρ H ρ' H'->Q .cy H')
def Lh(T:TC):Sp:=bx (adu T)
inductive aaY(T:TC)(vs:List V)(H:Hp)(Q:VK)(E:XK):Prop
 |mk(n ρ A st o:_)(_:vs=[.ref A.a,.str o])(_:HH T n ρ A H st)(_:isNm o=true)(_:o∉st.own)(_:st.own.length<100)(_:wQ T n ρ A H (fF st o:_) λH'=>Q .cy H')
def BU(T:TC):Sp:=bx (aaY T)
inductive adv(T:TC)(vs:List V)(H:Hp)(Q:VK)(E:XK):Prop
 |mk(n ρ A st x o wo we:_)(_:vs=[.ref A.a,.str x,.str o,.int wo,.int we])(_:HH T n ρ A H st)(_:isNm x=true)(_:x∉st.nms)(_:o∈st.own)(_:1<=wo)(_:0<=we)(_:st.nms.length<1000)(_:st.ah.length<1000)(_:wQ T n ρ A H (wR st x o wo we:_) λH'=>Q .cy H')
def Tf(T:TC):Sp:=bx (adv T)
inductive aaZ(T:TC)(vs:List V)(H:Hp)(Q:VK)(E:XK):Prop
 |mk(n ρ A st:_)(_:vs=[.ref A.a])(_:aW T n ρ A H st)(_:st.ah.length<=1000)(_:∀r ws H',aM H H'->H r=none->H' r=some (.lst ws)->kj H' ws st.ah->Q (.ref r) H')
def Pn(T:TC):Sp:=bx (aaZ T)
inductive aa0(T:TC)(vs:List V)(H:Hp)(Q:VK)(E:XK):Prop
 |mk(n ρ A st:_)(_:vs=[.ref A.a])(_:aW T n ρ A H st)(_:st.ah.length<=1000)(_:∀H',aM H H'->Q (.int (aH st)) H')
def BV(T:TC):Sp:=bx (aa0 T)
inductive Yt(T:TC)(vs:List V)(H:Hp)(Q:VK)(E:XK):Prop
 |mk(n ρ A st:_)(_:vs=[.ref A.a])(_:aW T n ρ A H st)(_:∀r,H r=none->Q (.ref r) (upd H r (.lst (st.own.map V.str))))
def Li(T:TC):Sp:=bx (Yt T)
inductive aa1(T:TC)(vs:List V)(H:Hp)(Q:VK)(E:XK):Prop
 |mk(bt db sp kn:Addr)(stp:List Int)(prod top:Int)(_:vs=[.ref bt,.int top])(_:H bt=some (.ins T.bot db (yK sp prod kn)))(_:H sp=some (.lst (stp.map V.int)))(_:prod=stp.foldl (·*·) 1)(_:(∀s∈stp,2<=s))(_:Jm.Sz 8000 prod)(_:∀r H',aM H H'->H' r=some (qg (Jm.fr top prod))->Q (.ref r) H')
def Po(T:TC):Sp:=bx (aa1 T)
inductive Yu(T:TC)(vs:List V)(H:Hp)(Q:VK)(E:XK):Prop
 |mk(bt db sp kn:Addr)(stp:List Int)(prod top:Int)(kvs:List (Key×V))(_:vs=[.ref bt,.int top])(_:H bt=some (.ins T.bot db (yK sp prod kn)))(_:H sp=some (.lst (stp.map V.int)))(_:prod=stp.foldl (·*·) 1)(_:(∀s∈stp,2<=s))(_:Jm.Sz 8000 prod)(_:H kn=some (.dK kvs))(_:Lb H kvs prod)(_:kvs.length<10000000)(_:(kvs.map (·.1)).Nodup)(_:∀r H' kvs',(∀b o,H b=some o->b≠kn->H' b=some o)->H' kn=some (.dK kvs')->Lb H' kvs' prod->kvs'.length<=kvs.length+1->(kvs'.map (·.1)).Nodup->H' r=some (qg (Jm.fr top prod))->Q (.ref r) H')
def Lj(T:TC):Sp:=bx (Yu T)
inductive VM(T:TC)(vs:List V)(H:Hp)(Q:VK)(E:XK):Prop
 |mk(n ρ A st:_)(i:Nat)(p:Pt)(_:vs=[.ref A.a,.str p.nm])(_:HH T n ρ A H st)(_:st.ah[i]?=some p)(_:st.kn+100<=1000000)(_:∀r ws ρ' A' H',HH T n ρ' A' H' { st with kn:=st.kn+100 }->A'.a=A.a->Fr n ρ H ρ' H'->H r=none->H' r=some (.lst ws)->ρ' r=none->iM H' ws (mS st p:_)->Q (.ref r) H')
def HP(T:TC):Sp:=bx (VM T)
inductive qt(ρ:fE)(H:Hp):List V->List jd->Prop
 | nil:qt ρ H [] []
 | cons {r l:Addr} {x:jd} {ss:List V} {vs:List V} {as:List jd}:H r=some (.tup [.str x.nm,.str x.ow,.int x.wo,.ref l])->H l=some (.lst ss)->ρ l=none->iM H ss x.sh->qt ρ H vs as->qt ρ H (.ref r::vs) (x::as)
inductive Yv(T:TC)(vs:List V)(H:Hp)(Q:VK)(E:XK):Prop
 |mk(n ρ A st:_)(_:vs=[.ref A.a])(_:HH T n ρ A H st)(_:∀r ws H',aM H H'->H r=none->H' r=some (.lst ws)->qt ρ H' ws st.c6->Q (.ref r) H')
def Lk(T:TC):Sp:=bx (Yv T)
theorem kj.mono{l:List Pt}(h:kj H vs l)(g:∀b xs,H b=some (.tup xs)->H' b=some (.tup xs)):kj H' vs l:=by
 induction h with
 | nil=>exact .nil
 | cons a _ ih=>exact .cons (g _ _ a) ih
theorem kj.snoc{l:List Pt}(h:kj H vs l)(e:H r=some (BQ p)):kj H (vs++[.ref r]) (l++[p]):=by
 induction h with
 | nil=>exact .cons e .nil
 | cons a _ ih=>exact .cons a ih
theorem iM.snoc{l:List (Str×Rat)}{q:Rat}(h:iM H vs l)(e:H r=some (.tup [.str x,.ref f]))(e2:H f=some (qg q)):iM H (vs++[.ref r]) (l++[(x,q)]):=by
 induction h with
 | nil=>exact .cons e e2 .nil
 | cons a b _ ih=>exact .cons a b ih
theorem jJ{p:Addr}(h:H p=none\/∃u,H p=some u/\isTup u=false):∀b xs,H b=some (.tup xs)->upd H p o b=some (.tup xs):=λb xs e=>by
 rw[az (λz=>?_)]
 .exact e
 .rw [z]at e;rcases h with h|⟨u,h,t⟩
  .rw [h]at e;cases e
  .rw [h]at e;cases e;cases t
theorem Ll(h:isNm x=true):x.cps.toList.length<=100000:=by unfold isNm isName at h;have:=dY (mP.mp (mP.mp h).1).2;omega
theorem vz{o:Obj}(e:H d=some (.dK kvs))(s:aM (upd H d (.fZ o (.dK kvs))) H1):aM H (upd H1 d (.dK kvs)):=λb u q=>by
 by_cases h:b=d
 .rw [h,e]at q;cases q;rw[h];exact ao
 .rw [az h];exact s b u (by rw[az h];exact q)
theorem fQ{b:Addr}{o:Obj}{u:HO}(e:H d=some (.dK kvs))(q:H b=some u)(h:∀k,u ≠ .dK k):upd H d (.fZ o (.dK kvs)) b=some u:=by rw[az (λz=>by rw[z,e]at q;cases q;exact h _ rfl)];exact q
theorem o_{b:Addr}{o:Obj}(e:H d=some (.dK kvs))(q:upd H d (.fZ o (.dK kvs)) b=none):H b=none:=by
 by_cases h:b=d
 .rw [h,ao]at q;cases q
 .rw [az h]at q;exact q
theorem aM.tups(s:aM H H'):∀b xs,H b=some (.tup xs)->H' b=some (.tup xs):=λb xs h=>s b _ h
theorem take_snoc{α:Type}{l:List α}{x:α}(h:l[i]?=some x):l.take (i+1)=l.take i++[x] :=by rw[List.take_add_one,h];rfl
theorem mT{α β γ:Type}(f:α->β->γ){xs:List α}{ys:List β}{x:α}{y:β}(h1:xs[i]?=some x)(h2:ys[i]?=some y):List.zipWith f (xs.take (i+1)) (ys.take (i+1))=List.zipWith f (xs.take i) (ys.take i)++[f x y] :=by have l1:=(di.mp h1).1;have l2:=(di.mp h2).1;rw[take_snoc h1,take_snoc h2,List.zipWith_append (by rw[nu,nu];omega)];rfl
theorem gG{v:V}(h:(l.map V.int)[i]?=some v):∃z,v =.int z/\l[i]?=some z:=by rw[bO]at h;obtain⟨z,hz,rfl⟩:=lQ.mp h;exact⟨z,Z,hz⟩
theorem HH.mono(h:HH T n ρ A H st)(s:aM H H'):HH T n ρ A H' st:=⟨h.g.same s,h.h.mono s,h.wf⟩
theorem Lm{u:HO}(c:ρ a=none)(h:H a=some u)(t:isTup u=false):Kp n ρ ρ H (upd H a o) ts:=⟨jJ (.inr ⟨u,h,t⟩),λb x y w _ hc e=>⟨by rw[az (λz=>by rw[z,c]at hc;cases hc)];exact e,hc⟩⟩
theorem HH.Eu{u:HO}(h:HH T n ρ A H st)(c:ρ a=none)(e:H a=some u)(t:isTup u=false)(t2:isTup o=false):HH T n ρ A (upd H a o) st:=⟨h.g.wr t2,h.h.same (Lm c e t),h.wf⟩
theorem Fr.new(f:Fr n ρ H ρ' H')(h:H a=none):Fr n ρ H ρ' (upd H' a o):=λb u e k=>by rw[az (aG e h)];exact f b u e k
theorem Av{α β γ:Type}(f:α->β->γ){xs:List α}{ys:List β}(h:xs.length=ys.length)(x:α)(y:β):List.zipWith f (xs++[x]) (ys++[y])=List.zipWith f xs ys++[f x y] :=by rw[List.zipWith_append h];rfl
theorem BW(w:Wf st){o:Str}(h:o∉st.own)(hl:st.own.length<100):Wf (fF st o):=by
 have P:∀p∈(fF st o).ah,∃p0∈st.ah,p={ p0 with row:=p0.row++[0] }:=λp hp=>by obtain⟨p0,h0,rfl⟩:=a_.mp (show p∈st.ah.map _ from hp);exact⟨p0,h0,Z⟩
 have p1:=w.gC;refine⟨?_,w.yL,?_,λp hp=>?_,λp hp=>?_,λp hp=>?_,?_,?_,w.gC,w.sM,w.xC,?_,w.yM,?_,w.As,w.uc,w.HN,w.big,λc hc=>?_,λp hp=>?_,λp hp r hr=>?_,λp hp t ht=>?_,λp hp=>?_,λu hu=>?_⟩
 .exact nC w.ua h
 .show ((st.ah.map λp=>{ p with row:=p.row++[0] }).map (·.nm)).Nodup;rw[d7];exact w.fB
 .obtain ⟨p0,h0,rfl⟩:=P p hp;exact w.sub p0 h0
 .obtain ⟨p0,h0,rfl⟩:=P p hp;show(p0.row++[0]).length=(st.own++[o]).length;rw[cZ,cZ,w.rows p0 h0];rfl
 .obtain ⟨p0,h0,rfl⟩:=P p hp;exact FI _ (w.ow p0 h0)
 .show (st.bU++[0]).length=(st.own++[o]).length;rw[cZ,cZ,w.gc];rfl
 .show (st.b_++[0]).length=(st.own++[o]).length;rw[cZ,cZ,w.rD];rfl
 .show (st.own++[o]).length<=100;rw[cZ];exact hl
 .show (st.ah.map _).length<=1000;rw[aE];exact w.rE
 .rcases dD.mp (show c∈st.bU++[0]from hc)with z|z
  .exact w.oZ c z
  .rw [dj.mp z];exact⟨ff _,by show(0:Int)<=st.prod;omega⟩
 .obtain ⟨p0,h0,rfl⟩:=P p hp;exact w.tH p0 h0
 .obtain ⟨p0,h0,rfl⟩:=P p hp;rcases dD.mp (show r∈p0.row++[0]from hr)with z|z
  .exact w.o9 p0 h0 r z
  .rw [dj.mp z];show -st.prod<=0/\0<=st.prod;omega
 .obtain ⟨p0,h0,rfl⟩:=P p hp;have el:p0.row.length=st.bU.length:=by rw[w.rows p0 h0,w.gc]
  have ht:t∈List.zipWith (λr c=>p0.sc*r+c) (p0.row++[0]) (st.bU++[0]):=ht;rw[Av _ el _ _]at ht;rcases dD.mp ht with z|z
  .exact w.qm p0 h0 t z
  .rw [dj.mp z];show 0<=p0.sc*0+0/\p0.sc*0+0<=st.prod;omega
 .obtain ⟨p0,h0,rfl⟩:=P p hp;exact w.ki p0 h0
 .rcases dD.mp (show u∈st.b_++[0]from hu)with z|z
  .exact w.Gg u z
  .rw [dj.mp z];exact jR (by decide +kernel)
theorem Pp(w:Wf st)(h1:p.nm∉st.nms)(h2:st.nms.length<1000)(h3:st.ah.length<1000)(h4:p.row.length=st.own.length)(h5:p.ow∈st.own)(h6:1<=p.sc/\p.sc<=st.prod)(h7:∀r∈p.row,-st.prod<=r/\r<=st.prod)(h8:∀t∈List.zipWith (λr c=>p.sc*r+c) p.row st.bU,0<=t/\t<=st.prod)(h9:1<=p.wo/\0<=p.we):Wf (yN st p):=by
 have P:∀{M:Pt->Prop},(∀x∈st.ah,M x)->M p->∀x∈st.ah++[p],M x:=λa b x hx=>by
  rcases dD.mp hx with z|z
  .exact a x z
  .rw [dj.mp z];exact b
 refine⟨w.ua,nC w.yL h1,?_,P (λx hx=>FI _ (w.sub x hx)) (j9 _ (dj.mpr rfl)),P w.rows h4,P w.ow h5,w.gc,w.rD,w.gC,w.sM,w.xC,w.kR,?_,?_,w.As,w.uc,w.HN,w.big,w.oZ,P w.tH h6,P w.o9 h7,P w.qm h8,P w.ki h9,w.Gg⟩
 . show((st.ah++[p]).map (·.nm)).Nodup
   rw[bP]
   refine nC w.fB λm=>?_
   obtain⟨x,hx,e⟩:=a_.mp m
   have e:x.nm=p.nm:=e
   exact h1 (by rw[<-e];exact w.sub x hx)
 . show(st.nms++[p.nm]).length<=1000
   rw[cZ];exact h2
 . show(st.ah++[p]).length<=1000
   rw[cZ];exact h3
theorem vA{α β γ:Type}{f:α->β->γ}{t:γ}:∀{xs:List α}{ys:List β},t∈List.zipWith f xs ys->∃x∈xs,∃y∈ys,t=f x y
 | [],_,h=>by simp at h
 | _::_,[],h=>by simp at h
 | x::xs,y::ys,h=>by
  rcases dS.mp (show t∈f x y::List.zipWith f xs ys from h)with e|m
  .exact ⟨x,cT,y,cT,e⟩
  .obtain ⟨a,ha,b,hb,e⟩:=vA m;exact⟨a,cW _ ha,b,cW _ hb,e⟩
theorem C0:∀{ts cs:List Int},List.zipWith (λr c=>1*r+c) (List.zipWith (λt c=>t-c) ts cs) cs=ts.take cs.length
 | [],_=>by simp
 | _::_,[]=>by simp
 | t::ts,c::cs=>by show(1*(t-c)+c)::List.zipWith _ (List.zipWith _ ts cs) cs=t::ts.take cs.length;rw[C0];congr 1;omega
theorem yO{b t:Int}(h:t∈(List.replicate n 0).set i b):t=0\/t=b:=by
 rcases J6 h with z|z
 .exact .inl (J7 z)
 .exact .inr z
variable {wo we:Int}
theorem Pq(w:Wf st){o:Str}(h1:x∉st.nms)(h2:st.nms.length<1000)(h3:st.ah.length<1000)(ho:o∈st.own)(h4:1<=wo)(h5:0<=we):Wf (wR st x o wo we):=by
 have p1:=w.gC;refine Pp w h1 h2 h3 ?_ ho ⟨ff 1,w.gC⟩ (λr hr=>?_) (λt ht=>?_) ⟨h4,h5⟩
 .show (List.zipWith _ ((List.replicate st.own.length 0).set _ _) st.bU).length=_;rw[kq,eZ,i8,w.gc,yw]
 .obtain ⟨t,ht,c,hc,rfl⟩:=vA (show r∈List.zipWith _ _ st.bU from hr);have:=w.oZ c hc;rcases yO ht with rfl|rfl <;> omega
 .have e:List.zipWith (λr c=>1*r+c) (lS st ((List.replicate st.own.length 0).set (st.own.idxOf o) st.prod)) st.bU=_:=C0;have ht:t∈List.zipWith (λr c=>1*r+c) (lS st ((List.replicate st.own.length 0).set (st.own.idxOf o) st.prod)) st.bU:=ht;rw[e]at ht;rcases yO (List.mem_of_mem_take ht)with rfl|rfl <;> omega
theorem kT{b:Addr}{u:HO}(h:a≠b):upd (upd H a o) b u=upd (upd H b u) a o:=by
 funext c;unfold upd;by_cases e1:c=b
 .rw [av e1,au (λz=>h (z.symm.trans e1)),av e1]
 .rw [au e1];by_cases e2:c=a
  .rw [av e2,av e2]
  .rw [au e2,au e2,au e1]
theorem yP(h:H a=some o):upd H a o=H:=by
 funext c;unfold upd;by_cases e:c=a
 .rw [av e,e,h]
 .rw [au e]
theorem Ln{α:Type}(g:α->α){l:List α}{p:α}(h:l[i]?=some p):((l.take i).map g++l.drop i)[i]?=some p:=by
 have hi:=(di.mp h).1;have e:((l.take i).map g).length=i:=by rw[aE,nu];omega
 rw[z6 (by omega),e,By,List.getElem?_drop];exact h
theorem Lo{α:Type}(g:α->α){l:List α}{p:α}(h:l[i]?=some p):((l.take i).map g++l.drop i).set i (g p)=(l.take (i+1)).map g++l.drop (i+1):=by
 have hi:=(di.mp h).1;have e:((l.take i).map g).length=i:=by rw[aE,nu];omega
 have ep:l[i]=p:=by rw[bq hi]at h;exact gJ h
 rw[List.set_append_right _ _ (by omega),e,By,Qv hi,Kh,take_snoc h,bP,Kl];rfl
theorem rF{α β:Type}(g:α->α)(f:α->β)(hf:∀x,f (g x)=f x)(l:List α)(i:Nat):((l.take i).map g++l.drop i).map f=l.map f:=by rw[bP,d7,show f ∘ g=f from funext hf,<-bP,List.take_append_drop]
theorem pU{ps ps':List Pt}(h:ps.map (·.nm)=ps'.map (·.nm)):cX ps qs=cX ps' qs:=by
 have:∀{ps:List Pt},cX ps qs=List.zipWith (λ(x:Str) q=>((Sum.inr x:Key),V.ref q.1)) (ps.map (·.nm)) qs:=λ{ps}=>by unfold cX;rw[List.zipWith_map_left]
 rw[this,this,h]
structure jU(p:Addr)(H:Hp)(ρ:fE)(H':Hp)(ρ':fE)(l:List (Addr×HO×qj)):Prop where
 m:∀e∈l,H' e.1=some e.2.1/\ρ' e.1=some e.2.2/\e.1≠p
 k:∀b o,H b=some o->b≠p->H' b=some o/\ρ' b=ρ b
 g:Gh ρ' H'
 pp:∃u,H' p=some u
theorem jU.new{p:Addr}{l:List (Addr×HO×qj)}{c:qj}(h:jU p H ρ H' ρ' l)(ha:H' a=none)(t:isTup o=false):jU p H ρ (upd H' a o) (bK ρ' a c) ((a,o,c)::l):=by
 obtain⟨u,hu⟩:=h.pp;refine⟨λe he=>?_,λb w hb hp=>?_,(h.g.alloc ha).color ao t,u,by rw[az (aG hu ha)];exact hu⟩
 .rcases dS.mp he with rfl|he
  .exact ⟨ao,cV,λz=>by rw[show a=p from z,hu]at ha;cases ha⟩
  .obtain ⟨x,y,z⟩:=h.m e he;have:e.1≠a:=aG x ha;rw[az this,bY this];exact⟨x,y,z⟩
 .obtain ⟨x,y⟩:=h.k b w hb hp;have:b≠a:=aG x ha;rw[az this,bY this];exact⟨x,y⟩
theorem jU.wr{p:Addr}{l:List (Addr×HO×qj)}{u:HO}(h:jU p H ρ H' ρ' l)(t:isTup u=false):jU p H ρ (upd H' p u) ρ' l:=by
 refine⟨λe he=>?_,λb w hb hp=>?_,h.g.wr t,u,ao⟩
 .obtain ⟨x,y,z⟩:=h.m e he;rw[az z];exact⟨x,y,z⟩
 .obtain ⟨x,y⟩:=h.k b w hb hp;rw[az hp];exact⟨x,y⟩
theorem jU.same{p:Addr}{Ew:Hp}{l:List (Addr×HO×qj)}(h:jU p H ρ H' ρ' l)(s:aM H' Ew):jU p H ρ Ew ρ' l:=by obtain⟨u,hu⟩:=h.pp;exact⟨λe he=>let⟨x,y,z⟩:=h.m e he;⟨s _ _ x,y,z⟩,λb w hb hp=>let⟨x,y⟩:=h.k b w hb hp;⟨s _ _ x,y⟩,h.g.same s,u,s _ _ hu⟩
theorem jU.add{p:Addr}{H0:Hp}{ρ0:fE}{l l0:List (Addr×HO×qj)}{c:qj}(h:jU p H ρ H' ρ' l)(ha:H' a=some o)(t:isTup o=false)(h0:jU p H ρ H0 ρ0 l0)(hn:H0 a=none)(hl:∀e∈l,e.1≠a):jU p H ρ H' (bK ρ' a c) ((a,o,c)::l):=by
 refine⟨λe he=>?_,λb w hb hp=>?_,h.g.color ha t,h.pp⟩
 .rcases dS.mp he with rfl|he
  .obtain ⟨u,hu⟩:=h0.pp;exact⟨ha,cV,λz=>by rw[show a=p from z,hu]at hn;cases hn⟩
  .obtain ⟨x,y,z⟩:=h.m e he;rw[bY (hl e he)];exact⟨x,y,z⟩
 .obtain ⟨x,y⟩:=h.k b w hb hp;obtain⟨x0,_⟩:=h0.k b w hb hp;rw[bY (aG x0 hn)];exact⟨x,y⟩
theorem Lp:∀(l:List Int)(a:Int),l.foldl (·*·) a=a*l.foldl (·*·) 1
 | [],a=>by simp
 | s::l,a=>by rw[lY,Lp l (a*s),lY,Lp l (1*s),Int.one_mul,jC]
theorem Gk(s:Int)(l:List Int):(s::l).foldl (·*·) 1=s*l.foldl (·*·) 1:=by rw[lY,Lp,Int.one_mul]
theorem Yw(s:Int)(l:List Int):(l++[s]).foldl (·*·) 1=l.foldl (·*·) 1*s:=by rw[Km];rfl
theorem Lq:∀{l:List Int},(∀s∈l,2<=s)->1<=l.foldl (·*·) 1
 | [],_=>by decide
 | s::l,h=>by rw[Gk];have h1:=h s cT;have h2:=Lq (l:=l) λx hx=>h x (cW _ hx);have:=Int.mul_le_mul (a:=1) (b:=1) (c:=s) (d:=l.foldl (·*·) 1) (by omega) h2 (by decide) (by omega);omega
theorem W2:∀{l:List Int}{s:Int},(∀s∈l,2<=s)->s∈l->s<=l.foldl (·*·) 1
 | [],_,_,h=>by simp at h
 | a::l,s,h,m=>by
  rw[Gk];have h1:=h a cT;have h2:=Lq (l:=l) λx hx=>h x (cW _ hx);rcases dS.mp m with rfl|m
  .have:=Hr h2 (by omega:0<=s);omega
  .have h3:=W2 (λx hx=>h x (cW _ hx)) m;have:=RW (by omega:1<=a) (by omega:0<=l.foldl (·*·) 1);omega
theorem Tg{t d s:Int}(hd:0<d)(hs:0<s)(c:Jm.cf t d=1):Jm.cf (t / Jm.cf t s) (d*(s / Jm.cf t s))=1/\0<d*(s / Jm.cf t s):=by
 have gp:0<Jm.cf t s:=Jm.D6 t s (.inr hs);obtain⟨u,hu⟩:=Jm.sJ t s;obtain⟨v,hv⟩:=Jm.qf t s;generalize eg:Jm.cf t s=g at *;have e1:t / g=u:=by rw[hu,FG _ (by omega)]
 have e2:s / g=v:=by rw[hv,FG _ (by omega)]
 have vp:0<v:=by
  rcases DQ 0 v with z|z
  .exact z
  .have:=Hr z (by omega:0<=g);omega
 rw[e1,e2];have c0:Nat.Coprime t.natAbs d.natAbs:=by unfold Jm.cf at c;exact_mod_cast c
 have c1:Nat.Coprime u.natAbs d.natAbs:=Nat.Coprime.coprime_dvd_left ⟨g.natAbs,by rw[hu,DL,Nat.mul_comm]⟩ c0;have c2:Nat.Coprime u.natAbs v.natAbs:=by
  have hg:Int.gcd t s=g.natAbs:=by unfold Jm.cf at eg;omega
  have W3:Nat.gcd t.natAbs s.natAbs=g.natAbs:=hg;have:=Nat.coprime_div_gcd_div_gcd (m:=t.natAbs) (n:=s.natAbs) (by rw[W3];omega);rw[W3]at this;have gn:0<g.natAbs:=by omega
  rw[hu,hv,DL,DL,Nat.mul_div_cancel_left _ gn,Nat.mul_div_cancel_left _ gn]at this;exact this
 refine⟨?_,Int.mul_pos hd vp⟩;have:=Nat.Coprime.mul_right c1 c2;rw[<-DL]at this;unfold Jm.cf;exact_mod_cast this
theorem VN{κ:Type}[DecidableEq κ]{kvs:List (κ×V)}{k:κ}{v:V}(h:eE kvs k=some v):(k,v)∈kvs:=by unfold eE at h;obtain⟨p,hp,rfl⟩:=lQ.mp h;have:=List.find?_some hp;have e:p.1=k:=dY this;rw[<-e];exact List.mem_of_find?_eq_some hp
theorem aW.VO(h:aW T n ρ A H st)(k:∀b o,H b=some o->b≠A.kn->H' b=some o)(e1:H' A.kn=some (.dK kvs))(e2:Lb H' kvs st.prod)(e3:kvs.length<=m)(e4:(kvs.map (·.1)).Nodup):aW T n ρ A H' { st with kn:=m }:=by
 obtain⟨kv0,k0,_⟩:=h.okn;have z:=λ{b:Addr}{t:Nat}{x:Str}{o:HO}(u:t≠9)(c:ρ b=some (n,t,x))(e:H b=some o)=>k b o e (Eo c h.jx (λw=>by cases w;exact u rfl));have tp:∀b xs,H b=some (.tup xs)->H' b=some (.tup xs):=λb xs e=>k b _ e (jD e k0 (by intro w;cases w));obtain⟨vs,h1,h2⟩:=h.qX;have kp:Kp n ρ ρ H H' λt=>decide (t≠9):=⟨tp,λb t x o u c e=>⟨z (dY u) c e,c⟩⟩
 exact⟨z (by decide) h.ca h.oa,h.ca,z (by decide) h.je h.iW,h.je,z (by decide) h.gM h.fh,h.gM,⟨vs,z (by decide) h.jr h1,h2.keep kp (by decide)⟩,h.jr,z (by decide) h.ju h.tG,h.ju,z (by decide) h.jv h.mz,h.jv,z (by decide) h.jT h.jS,h.jT,z (by decide) h.cpu h.mR,h.cpu,z (by decide) h.jw h.qY,h.jw,⟨kvs,e1,e2,e3,e4⟩,h.jx,h.ql,
  λi p q a b=>let⟨x,y,c,d⟩:=h.opt i p q a b;⟨z (by decide) c x,z (by decide) d y,c,d⟩⟩
theorem adw(w:Wf st)(h:m<=1000000):Wf { st with kn:=m }:=⟨w.ua,w.yL,w.fB,w.sub,w.rows,w.ow,w.gc,w.rD,w.gC,w.sM,w.xC,w.kR,w.yM,w.rE,w.As,w.uc,h,w.big,w.oZ,w.tH,w.o9,w.qm,w.ki,w.Gg⟩
theorem mw.length{l:List jd}(h:mw n ρ H vs l):vs.length=l.length:=by
 induction h with
 | nil=>rfl
 | cons _ _ _ _ _ ih=>simp[ih]
theorem mw.get{l:List jd}(h:mw n ρ H vs l):∀{i:Nat}{x:V},vs[i]?=some x->∃r q y ss,x =.ref r/\l[i]?=some y/\H r=some (.tup [.str y.nm,.str y.ow,.int y.wo,.ref q])/\H q=some (.lst ss)/\ρ q=some (n,30,⟨#[]⟩)/\iM H ss y.sh:=by
 induction h with
 | nil=>intro i x e;simp at e
 | @cons r q y ss vs as a b c d _ ih=>
  intro i x e;cases i with
  | zero=>simp at e;subst e;exact⟨r,q,y,ss,Z,Z,a,b,c,d⟩
  | succ i=>simp at e;obtain⟨r',q',y',ss',e1,e2,e3⟩:=ih e;exact⟨r',q',y',ss',e1,by simpa using e2,e3⟩
inductive kU(a:Addr)(ρ:fE)(H:Hp):List V->List jd->Prop
 | nil:kU a ρ H [] []
 | cons {r l:Addr} {x:jd} {ss:List V} {vs:List V} {as:List jd}:H r=some (.tup [.str x.nm,.str x.ow,.int x.wo,.ref l])->H l=some (.lst ss)->ρ l=none->l≠a->iM H ss x.sh->kU a ρ H vs as->kU a ρ H (.ref r::vs) (x::as)
theorem kU.to{l:List jd}(h:kU a ρ H vs l):qt ρ H vs l:=by
 induction h with
 | nil=>exact .nil
 | cons x y z _ w _ ih=>exact .cons x y z w ih
theorem kU.mono{l:List jd}(h:kU a ρ H vs l)(g:aM H H'):kU a ρ H' vs l:=by
 induction h with
 | nil=>exact .nil
 | cons x y z n w _ ih=>exact .cons (g _ _ x) (g _ _ y) z n (w.mono g.tups) ih
theorem kU.upd{l:List jd}(h:kU a ρ H vs l)(ha:H a=some (.lst xs)):kU a ρ (L2.upd H a (.lst ys)) vs l:=by
 induction h with
 | nil=>exact .nil
 | cons x y z n w _ ih=>exact .cons (jJ (.inr ⟨_,ha,Z⟩) _ _ x) (by rw[az n];exact y) z n (w.mono (jJ (.inr ⟨_,ha,Z⟩))) ih
theorem kU.snoc{as:List jd}{l:Addr}{x:jd}(h:kU a ρ H vs as)(e1:H r=some (.tup [.str x.nm,.str x.ow,.int x.wo,.ref l]))(e2:H l=some (.lst ss))(e3:ρ l=none)(e5:l≠a)(e4:iM H ss x.sh):kU a ρ H (vs++[.ref r]) (as++[x]):=by
 induction h with
 | nil=>exact .cons e1 e2 e3 e5 e4 .nil
 | cons x y z n w _ ih=>exact .cons x y z n w ih
theorem qt.length{l:List jd}(h:qt ρ H vs l):vs.length=l.length:=by
 induction h with
 | nil=>rfl
 | cons _ _ _ _ _ ih=>simp[ih]
def Sq(K:Fg)(H:Hp)(r:Addr)(xs:List V):Prop:=aB K H r xs\/cS K H r xs
theorem aM.sq(g:aM H H')(h:Sq K H r xs):Sq K H' r xs:=h.elim (λz=> .inl (g.seq z)) λz=> .inr (g.tup z)
structure tK(K:Fg)(H:Hp)(us:List V)(ps:List Pt):Prop where
 len:us.length=ps.length
 at_:∀(i:Nat)(p:Pt),ps[i]?=some p->∃r xs,us[i]?=some (.ref r)/\Sq K H r xs/\xs[0]?=some (.str p.nm)/\xs[1]?=some (.str p.ow)/\xs[2]?=some (.int p.wo)/\xs[3]?=some (.int p.we)
theorem tK.mono{us:List V}{ps:List Pt}(h:tK K H us ps)(g:aM H H'):tK K H' us ps:=⟨h.len,λi p e=>let⟨r,xs,a,b,c⟩:=h.at_ i p e;⟨r,xs,a,g.sq b,c⟩⟩
def aa2(ps:List Pt):Prop:=∀p∈ps,PyData.strOk p.nm=true/\PyData.strOk p.ow=true
inductive Th(K:Fg)(vs:List V)(H:Hp)(Q:VK)(E:XK):Prop
 |mk(r l:Addr)(ws us:List V)(ps:List Pt)(_:vs=[.ref r,.ref l])(_:H r=some (.lst ws))(_:kj H ws ps)(_:aB K H l us)(_:tK K H us ps)(_:aa2 ps)(_:ps.length<=1000)(_:∀H',aM H H'->Q (.bl true) H')
def Ex(K:Fg):Sp:=bx (Th K)
def c8(own:List Str)(tops:List Int)(b:Int):List (Str×Rat):=(List.zip own tops).filterMap λx=>if 0<x.2 then some (x.1,Jm.fr x.2 b) else none
theorem kj.length{l:List Pt}(h:kj H vs l):vs.length=l.length:=by
 induction h with
 | nil=>rfl
 | cons _ _ ih=>simp[ih]
theorem kj.get{l:List Pt}(h:kj H vs l):∀{i:Nat}{p:Pt},l[i]?=some p->∃r,vs[i]?=some (.ref r)/\H r=some (BQ p):=by
 induction h with
 | nil=>intro i p e;simp at e
 | @cons r q vs ps a _ ih=>
  intro i p e;cases i with
  | zero=>simp at e;subst e;exact⟨r,Z,a⟩
  | succ i=>simp at e;obtain⟨r',e1,e2⟩:=ih e;exact⟨r',by simpa using e1,e2⟩
theorem iM.length{l:List (Str×Rat)}(h:iM H vs l):vs.length=l.length:=by
 induction h with
 | nil=>rfl
 | cons _ _ _ ih=>simp[ih]
theorem iM.get{l:List (Str×Rat)}(h:iM H vs l):∀{i:Nat}{x:Str}{q:Rat},l[i]?=some (x,q)->∃r f,vs[i]?=some (.ref r)/\H r=some (.tup [.str x,.ref f])/\H f=some (qg q):=by
 induction h with
 | nil=>intro i x q e;simp at e
 | @cons r f x q vs l a b _ ih=>
  intro i y p e;cases i with
  | zero=>simp at e;obtain⟨rfl,rfl⟩:=e;exact⟨r,f,Z,a,b⟩
  | succ i=>simp at e;obtain⟨r',f',e1,e2⟩:=ih e;exact⟨r',f',by simpa using e1,e2⟩
def BX(p:Pt):PyData:=.tuple [.str p.nm,.str p.ow,.int p.wo,.int p.we]
theorem Pr(h:H r=some (BQ p)):Dt K H (.ref r) (BX p):=.tup (cS.of h) (.cons (.str _) (.cons (.str _) (.cons (.int _) (.cons (.int _) .nil))))
theorem CB(h1:PyData.strOk p.nm=true)(h2:PyData.strOk p.ow=true):SeqAt.shaped (BX p)=true:=by unfold BX SeqAt.shaped;refine mP.mpr ⟨?_,Z⟩;simp[PyData.canLay0,PyData.canLayAll0,h1,h2]
theorem VP(p:Pt):PyData.eqv (BX p) (BX p)=true:=by unfold BX;simp[PyData.eqv,PyData.eqvAll]
def VQ(x:Str):Prop:=qi x.cps.toList
theorem Rl:∀i:Fin 26,Ef "abcdefghijklmnopqrstuvwxyz" (97+i.val)=true:=by decide +kernel
theorem VQ.isNm(h:VQ x):L2.isNm x=true:=by unfold L2.isNm isName;have h1:=h.lo;have h2:=h.hi;refine mP.mpr ⟨mP.mpr ⟨bh (by omega),bh (by omega)⟩,p6.mpr λc hc=>?_⟩;have h3:=h.Yj c hc;have:=Rl ⟨c-97,by omega⟩;rw[show 97+(c-97)=c from by omega]at this;exact this
inductive aa3(T:TC)(K:Fg)(vs:List V)(H:Hp)(Q:VK)(E:XK):Prop
 |mk(l:Addr)(own:List Str)(n:Nat)(ρ:fE)(_:vs=[.ref l])(_:aB K H l (own.map V.str))(_:ρ l=none)(_:own.Nodup)(_:(∀o∈own,isNm o=true))(_:own.length<=100)(_:Gh ρ H)(_:∀ρ' A H',HH T n ρ' A H' (own.foldl fF hs0)->Fr n ρ H ρ' H'->Q (.ref A.a) H')
def Pu(T:TC)(K:Fg):Sp:=bx (aa3 T K)
theorem tL:∀(l:List Str)(st:HS),(l.foldl fF st).own=st.own++l
 | [],st=>by simp
 | o::l,st=>by rw[lY,tL l];show(st.own++[o])++l=_;rw[Kl];rfl
theorem gj(K:Fg)(hK:X.K=K:=by rfl):zK X (Z8 K):=hK▸Z9
theorem Sq.ix{v:V}(h:Sq K H r xs)(e:xs[i]?=some v)(q:Q v H):Z8 K (.ref r) (.int (i:Int)) H Q:=by
 rcases h with h|h
 .exact .inl ⟨r,xs,i,v,Z,Z,h,aA e,q⟩
 .exact .inr (.inl ⟨r,xs,i,v,Z,Z,h,aA e,q⟩)
variable {own:List Str}{tops:List Int}
theorem IL{b:Int}(hb:0<b)(hz:Jm.Sz m b){q:Rat}(h:(x,q)∈c8 own tops b):Jm.Sz m (q.den:Int):=by
 unfold c8 at h;obtain⟨y,_,e⟩:=List.mem_filterMap.mp h;by_cases c:0<y.2
 .rw [av c]at e;cases e;refine hz.of_le ?_;have:=Jm.SD y.2 b hb;omega
 .rw [au c]at e;cases e
theorem Fr.at(f:Fr n ρ H ρ' H'){b:Addr}(e:H b=some o)(c:ρ b=none):H' b=some o/\ρ' b=none:=by obtain⟨a,d⟩:=f b o e (λt x=>by rw[c];intro z;cases z);exact⟨a,d.trans c⟩
theorem Fr.seq(f:Fr n ρ H ρ' H'){l:Addr}(h:aB K H l xs)(c:ρ l=none):aB K H' l xs:=by
 rcases h with(h|⟨o,h⟩)|h
 .exact .inl (.inl (f.at h c).1)
 .exact .inl (.inr ⟨o,(f.at h c).1⟩)
 .exact .inr h
def Ey(nss:List (List Nat)):List Str:=nss.map tx
theorem Yx(nss:List (List Nat)):tF nss=(Ey nss).map V.str:=by unfold tF Ey;rw[d7];rfl
theorem HQ(h:nss.Nodup):(Ey nss).Nodup:=by unfold Ey;exact List.Pairwise.map tx (λa b hab e=>hab (SS e)) h
theorem Ti(h:∀x∈nss,qi x):∀o∈Ey nss,VQ o:=λo ho=>by obtain⟨x,hx,rfl⟩:=a_.mp ho;show qi (tx x).cps.toList;rw[show(tx x).cps.toList=x from by simp];exact h x hx
theorem Pw(nss:List (List Nat)):(Ey nss).length=nss.length:=by unfold Ey;rw[aE]
theorem VR(x:Str)(l:List Str):Hy (.str x) (l.map V.str)=decide (x∈l):=by
 have:=Pa x.cps.toList (l.map λy=>y.cps.toList);rw[K6]at this;rw[show tF (l.map λy=>y.cps.toList)=l.map V.str from by unfold tF;rw[d7];congr 1;]at this;rw[this];congr 1;refine propext ⟨λm=>?_,λm=>a_.mpr ⟨x,m,Z⟩⟩;obtain⟨y,hy,e⟩:=a_.mp m;have:tx y.cps.toList=tx x.cps.toList:=by rw[e]
 rw[K6,K6]at this;rw[<-this];exact hy
theorem Tj(l:List Str):(l.map V.str).all sy=true:=by rw[List.all_map];exact p6.mpr λ_ _=>rfl
theorem Lr{l:List Str}{d:Int}(h0:0<=d)(h1:d<(l.length:Int)):∃(j:Nat)(o:Str),d=(j:Int)/\l[j]?=some o/\lC (l.map V.str) d=some (.str o):=by
 obtain⟨j,rfl⟩:∃j:Nat,d=(j:Int):=⟨d.toNat,by omega⟩
 have hj:j<l.length:=by omega
 exact⟨j,l[j],Z,bq hj,aA (by rw[bO,bq hj];rfl)⟩
section
variable {T:TC}{n:Nat}{L H:Hp}{x lp:Addr}{st:HS}{ps:List Pt}
end
theorem kF{α:Type}{l:List α}(nd:l.Nodup){x:α}(h:l[i]?=some x):x∉l.take i:=λm=>by have h2:(l.take (i+1)).Nodup:=nd.sublist (List.take_sublist _ _);rw[take_snoc h]at h2;exact(List.nodup_append.mp h2).2.2 x m x (dj.mpr rfl) rfl
abbrev Row:=Str×Int
def xD(r:Row):HO:=.tup [.str r.1,.int r.2]
inductive f7(H:Hp):List V->List Row->Prop
 | nil:f7 H [] []
 | cons {a:Addr} {r:Row} {vs:List V} {rs:List Row}:H a=some (xD r)->f7 H vs rs->f7 H (.ref a::vs) (r::rs)
theorem f7.mono{l:List Row}(h:f7 H vs l)(g:∀b xs,H b=some (.tup xs)->H' b=some (.tup xs)):f7 H' vs l:=by
 induction h with
 | nil=>exact .nil
 | cons a _ ih=>exact .cons (g _ _ a) ih
theorem f7.length{l:List Row}(h:f7 H vs l):vs.length=l.length:=by
 induction h with
 | nil=>rfl
 | cons _ _ ih=>simp[ih]
theorem f7.get{l:List Row}(h:f7 H vs l):∀{i:Nat}{x:V},vs[i]?=some x->∃a r,x =.ref a/\l[i]?=some r/\H a=some (xD r):=by
 induction h with
 | nil=>intro i x e;simp at e
 | @cons a r vs rs e0 _ ih=>
  intro i x e;cases i with
  | zero=>simp at e;subst e;exact⟨a,r,Z,Z,e0⟩
  | succ i=>simp at e;obtain⟨a',r',e1,e2,e3⟩:=ih e;exact⟨a',r',e1,by simpa using e2,e3⟩
theorem f7.snoc{l:List Row}{r:Row}(h:f7 H vs l)(e:H a=some (xD r)):f7 H (vs++[.ref a]) (l++[r]):=by
 induction h with
 | nil=>exact .cons e .nil
 | cons a _ ih=>exact .cons a ih
def iN(rs:List Row):List (Key×V):=rs.map λr=>((Sum.inr r.1:Key),V.int r.2)
theorem yQ(rs:List Row):(iN rs).length=rs.length:=by unfold iN;rw[aE]
variable {rs:List Row}
theorem HR(h:x∉rs.map (·.1)):eE (iN rs) (Sum.inr x)=none:=by
 unfold iN
 induction rs with
 | nil=>rfl
 | cons a l ih=>rw[bN,fu (λz=>h (by rw[bN,<-sj z];exact cT))];exact ih λm=>h (by rw[bN];exact cW _ m)
def bJ(rs:List Row):Int:=(rs.map (·.2)).sum
def cI(st:HS)(x:Str):Pt:=(st.ah.find? λp=>decide (p.nm=x)).getD ⟨x,x,0,0,1,[]⟩
theorem Px(nd:(st.ah.map (·.nm)).Nodup)(h:st.ah[i]?=some p):cI st p.nm=p:=by
 unfold cI;have:st.ah.find? (λq=>decide (q.nm=p.nm))=some p:=by
  generalize st.ah=ps at *
  induction ps generalizing i with
  | nil=>simp at h
  | cons a ps ih=>
   obtain⟨h1,h2⟩:=gK.mp (show(a.nm::ps.map (·.nm)).Nodup from nd);cases i with
   | zero=>
    have:a=p:=by simpa using h
    subst this;rw[p8,bh rfl]
   | succ i=>
    have h':ps[i]?=some p:=by simpa using h
    rw[p8,c9 (λe=>h1 (a_.mpr ⟨p,bw h',e.symm⟩))];exact ih h2 h'
 rw[this];rfl
def kg(st:HS)(sums:List Int)(r:Row):List Int:=List.zipWith (λold own=>old+(r.2*(cI st r.1).sc)*own) sums (cI st r.1).row
def gH(st:HS)(rs:List Row):List Int:=rs.foldl (kg st) (st.bU.map λc=>bJ rs*c)
def qu(s:Int)(ts:List Int):Int:=ts.foldl (λs t=>Jm.cf t s) s
def jg(st:HS)(kept:Int):List Int:=st.ah.map λp=>p.sc*kept
def gr(st:HS)(kept:Int)(added:List Int):List Int:=List.zipWith (λt m=>t*kept+m) st.bU added
def cL(st:HS)(kept whole:Int)(added:List Int):Int:=qu whole (jg st kept++gr st kept added)
def fK(st:HS)(s:Int):HS:=if 1<s then{ st with stp:=st.stp++[s],prod:=st.prod*s,kn:=0 } else st
def bF(st:HS)(kept whole:Int)(added:List Int):HS:=fK { st with ah:=st.ah.map (λp=>{ p with sc:=p.sc*kept / cL st kept whole added }),bU:=(gr st kept added).map (· / cL st kept whole added),b_:=st.b_.map (·*(whole / cL st kept whole added)) } (whole / cL st kept whole added)
def jV(ps:List Pt)(x:Str)(a:Int):List Pt:=(ps.map λp=>if p.nm=x then{ p with wo:=p.wo-a } else p).filter λp=>decide (p.wo≠0)
def eF(st:HS)(r:Row):HS:={ st with ah:=jV st.ah r.1 r.2 }
def i_(st:HS)(rs:List Row):HS:=rs.foldl eF (bF st (aH st-bJ rs) (aH st) (gH st rs))
inductive agB(vs:List V)(H:Hp)(Q:VK)(E:XK):Prop
 |mk(a:Int)(_:vs=[.int a])(_:1<=a)(_:Q .cy H)
def adx:Sp:=bx (agB)
inductive agC(vs:List V)(H:Hp)(Q:VK)(E:XK):Prop
 |mk(m a:Int)(_:vs=[.int m,.int a])(_:1<=a)(_:a<=m)(_:Q .cy H)
def W4:Sp:=bx (agC)
inductive ady(K:Fg)(vs:List V)(H:Hp)(Q:VK)(E:XK):Prop
 |mk(l:Addr)(us:List V)(rs:List Row)(_:vs=[.ref l])(_:aB K H l us)(_:f7 H us rs)(_:(rs.map (·.1)).Nodup)(_:rs≠[])(_:rs.length<=1000)(_:∀d H',aM H H'->H d=none->H' d=some (.dK (iN rs))->Q (.ref d) H')
def Tn(K:Fg):Sp:=bx (ady K)
inductive adz(K:Fg)(vs:List V)(H:Hp)(Q:VK)(E:XK):Prop
 |mk(s:Int)(l:Addr)(ts:List Int)(_:vs=[.int s,.ref l])(_:aB K H l (ts.map V.int))(_:0<=s)(_:(∀t∈ts,0<=t))(_:Q (.int (qu s ts)) H)
def To(K:Fg):Sp:=bx (adz K)
inductive adA(T:TC)(vs:List V)(H:Hp)(Q:VK)(E:XK):Prop
 |mk(n ρ A st s:_)(_:vs=[.ref A.bt,.int s])(_:Gh ρ H)(_:aW T n ρ A H st)(_:st.stp.length<=1000)(_:Jm.Sz 9000 st.prod)(_:Jm.Sz 9000 s)(_:∀ρ' A' H',Gh ρ' H'->aW T n ρ' A' H' (fK st s:_)->A'.a=A.a->Fr n ρ H ρ' H'->Q .cy H')
def Tp(T:TC):Sp:=bx (adA T)
inductive aa4(T:TC)(vs:List V)(H:Hp)(Q:VK)(E:XK):Prop
 |mk(n ρ A st:_)(d:Addr)(rs:List Row)(_:vs=[.ref A.a,.ref d])(_:aW T n ρ A H st)(_:Wf st)(_:H d=some (.dK (iN rs)))(_:ρ d=none)(_:rs.length<=1000)(_:(∀r∈rs,Jm.Sz 60 r.2/\∃p∈st.ah,p.nm=r.1))(_:∀l H',aM H H'->H l=none->H' l=some (.lst ((gH st rs).map V.int))->Q (.ref l) H')
def Py(T:TC):Sp:=bx (aa4 T)
inductive aa5(T:TC)(K:Fg)(vs:List V)(H:Hp)(Q:VK)(E:XK):Prop
 |mk(n ρ A st:_)(kept whole:Int)(l:Addr)(added:List Int)(_:vs=[.ref A.a,.int kept,.int whole,.ref l])(_:HH T n ρ A H st)(_:aB K H l (added.map V.int))(_:added.length=st.bU.length)(_:0<kept)(_:0<whole)(_:Jm.Sz 60 kept)(_:Jm.Sz 60 whole)(_:(∀m∈added,0<=m/\Jm.Sz 8900 m))(_:(∀u∈st.b_,Jm.Sz 8900 u))(_:st.stp.length<100)(_:Wf (bF st kept whole added))(_:wQ T n ρ A H (bF st kept whole added:_) λH'=>Q .cy H')
def Gm(T:TC)(K:Fg):Sp:=bx (aa5 T K)
inductive adB(T:TC)(vs:List V)(H:Hp)(Q:VK)(E:XK):Prop
 |mk(n ρ A st:_)(r:Row)(_:vs=[.ref A.a,.str r.1,.int r.2])(_:HH T n ρ A H st)(_:(∃p∈st.ah,p.nm=r.1/\r.2<=p.wo))(_:Wf (eF st r))(_:wQ T n ρ A H (eF st r:_) λH'=>Q .cy H')
def Ls(T:TC):Sp:=bx (adB T)
structure nY(st:HS)(rs:List Row):Prop where
 nd:(rs.map (·.1)).Nodup
 ne:rs≠[]
 len:rs.length<=1000
 row:∀r∈rs,1<=r.2/\Jm.Sz 60 r.2/\∃p∈st.ah,p.nm=r.1/\r.2<=p.wo
 lost:bJ rs<aH st
 big:Jm.Sz 60 (aH st)
 prod:Jm.Sz 7900 st.prod
 b_:∀u∈st.b_,Jm.Sz 8900 u
 stp:st.stp.length<100
inductive adC(T:TC)(K:Fg)(vs:List V)(H:Hp)(Q:VK)(E:XK):Prop
 |mk(n ρ A st:_)(l:Addr)(us:List V)(rs:List Row)(_:vs=[.ref A.a,.ref l])(_:HH T n ρ A H st)(_:aB K H l us)(_:f7 H us rs)(_:nY st rs)(_:wQ T n ρ A H (i_ st rs:_) λH'=>Q .cy H')
def Tq(T:TC)(K:Fg):Sp:=bx (adC T K)
theorem C3:∀{ps:List Pt}{qs:List (Addr×Addr×Addr)}{i:Nat}{p:Pt},(ps.map (·.nm)).Nodup->qs.length=ps.length->ps[i]?=some p->ny (cX ps qs) (Sum.inr p.nm)=cX (ps.eraseIdx i) (qs.eraseIdx i)
 | [],_,_,_,_,_,h=>by simp at h
 | _::_,[],_,_,_,hl,_=>by simp at hl
 | a::ps,b::qs,0,p,nd,hl,h=>by
  have e:a=p:=by simpa using h
  subst e;obtain⟨h1,h2⟩:=gK.mp (show(a.nm::ps.map (·.nm)).Nodup from nd);show ny ((Sum.inr a.nm,V.ref b.1)::cX ps qs) (Sum.inr a.nm)=cX ps qs;unfold ny;rw[gQ,au (by simp)];refine z9.mpr λkv hkv=>?_;unfold cX at hkv;obtain⟨x,hx,y,hy,rfl⟩:=vA hkv;exact bh λz=>h1 (a_.mpr ⟨x,hx,sj z⟩)
 | a::ps,b::qs,i+1,p,nd,hl,h=>by
  obtain⟨h1,h2⟩:=gK.mp (show(a.nm::ps.map (·.nm)).Nodup from nd);have h':ps[i]?=some p:=by simpa using h
  have ih:=C3 h2 (by simpa using hl) h';show ny ((Sum.inr a.nm,V.ref b.1)::cX ps qs) (Sum.inr p.nm)=(Sum.inr a.nm,V.ref b.1)::cX (ps.eraseIdx i) (qs.eraseIdx i);rw[<-ih];unfold ny;have hne:¬ (Sum.inr a.nm:Key)=Sum.inr p.nm:=λz=>h1 (a_.mpr ⟨p,bw h',(sj z).symm⟩);rw[gQ,av (by simpa using λe:a.nm=p.nm=>hne (by rw[e]))]
theorem Lu:∀{ps:List Pt}{i:Nat}{p:Pt}{a:Int},(ps.map (·.nm)).Nodup->(∀q∈ps,q.wo≠0)->ps[i]?=some p->jV ps p.nm a=if p.wo-a=0 then ps.eraseIdx i else ps.set i { p with wo:=p.wo-a }
 | [],_,_,_,_,_,h=>by simp at h
 | x::ps,0,p,a,nd,hw,h=>by
  have e:x=p:=by simpa using h
  subst e;obtain⟨h1,h2⟩:=gK.mp (show(x.nm::ps.map (·.nm)).Nodup from nd);have rest:jV ps x.nm a=ps:=by
   unfold jV;rw[show(ps.map λp=>if p.nm=x.nm then{ p with wo:=p.wo-a } else p)=ps from by
    conv=>rhs;rw[<-List.map_id ps]
    exact tT λy hy=>au λz=>h1 (a_.mpr ⟨y,hy,z⟩)]
   exact z9.mpr λy hy=>bh (hw y (cW _ hy))
  show((x::ps).map λp=>if p.nm=x.nm then{ p with wo:=p.wo-a } else p).filter _=_;rw[bN,av rfl,gQ];by_cases c:x.wo-a=0
  .rw [av c,au (by simp[c])];exact rest
  .rw [au c,av (by simpa using c)];show _::jV ps x.nm a=_;rw[rest];rfl
 | x::ps,i+1,p,a,nd,hw,h=>by
  obtain⟨h1,h2⟩:=gK.mp (show(x.nm::ps.map (·.nm)).Nodup from nd);have h':ps[i]?=some p:=by simpa using h
  have ih:=Lu (a:=a) h2 (λq hq=>hw q (cW _ hq)) h';have xn:¬ x.nm=p.nm:=λz=>h1 (a_.mpr ⟨p,bw h',z.symm⟩);show((x::ps).map λq=>if q.nm=p.nm then{ q with wo:=q.wo-a } else q).filter _=_;rw[bN,au xn,gQ,av (bh (hw x cT))];show x::jV ps p.nm a=_;rw[ih];by_cases c:p.wo-a=0
  .rw [av c,av c];rfl
  .rw [au c,au c];rfl
theorem mU{α:Type}:∀{l:List α}{i:Nat}{x:α},l[i]?=some x->l.set i x=l
 | [],_,_,h=>by simp at h
 | a::l,0,x,h=>by
  have:a=x:=by simpa using h
  rw[this];rfl
 | a::l,i+1,x,h=>by rw[Kg,mU (by simpa using h)]
theorem Aw{α β:Type}{l:List α}{m:List β}{x:α}{y:β}(h1:(l.eraseIdx i)[j]?=some x)(h2:(m.eraseIdx i)[j]?=some y):∃k:Nat,l[k]?=some x/\m[k]?=some y:=by
 rw[List.getElem?_eraseIdx]at h1 h2;by_cases c:j<i
 .rw [av c]at h1 h2;exact⟨j,h1,h2⟩
 .rw [au c]at h1 h2;exact⟨j+1,h1,h2⟩
theorem Ax:∀(ts:List Int)(s:Int),qu s ts∣s/\∀t∈ts,qu s ts∣t
 | [],s=>⟨Int.dvd_refl _,λ_ h=>absurd h (by simp)⟩
 | t::ts,s=>by
  obtain⟨h1,h2⟩:=Ax ts (Jm.cf t s);refine⟨Int.dvd_trans h1 (Jm.qf t s),λu hu=>?_⟩;rcases dS.mp hu with rfl|hu
  .exact Int.dvd_trans h1 (Jm.sJ u s)
  .exact h2 u hu
theorem Ay:∀(ts:List Int)(s:Int),0<s->0<qu s ts
 | [],_,h=>h
 | t::ts,s,h=>Ay ts _ (Jm.D6 t s (.inr h))
theorem Az(h:aW T n ρ A H st)(g:Gh ρ H)(c:ρ a=none)(e:H a=some o)(ht:isTup o=false):aW T n (bK ρ a (n,t,⟨#[]⟩)) A H st/\Gh (bK ρ a (n,t,⟨#[]⟩)) H:=⟨h.same ⟨λ_ _ e=>e,λb u x w _ hc he=>⟨he,by rw[bY (λz=>by rw[z,c]at hc;cases hc)];exact hc⟩⟩,g.color e ht⟩
theorem Fr.jy(f:Fr n ρ H ρ' H')(h:H a=none):Fr n ρ H (bK ρ' a (n,t,x)) H':=λb o e k=>by obtain⟨e1,e2⟩:=f b o e k;exact⟨e1,by rw[bY (aG e h)];exact e2⟩
theorem HU{d a b:Int}(hd:0<d)(h:a<=d*b):a / d<=b:=by
 have:=Int.ediv_le_ediv hd h
 rwa [FG _ (by omega)]at this
theorem yR{s:Int}(h:1<=s):(fK st s).prod=st.prod*s:=by
 unfold fK;by_cases c:1<s
 .rw [av c]
 .rw [au c,show s=1 by omega,BB]
theorem kN(st:HS)(s:Int):(fK st s).ah=st.ah:=by unfold fK;split <;> rfl
theorem HV(st:HS)(s:Int):(fK st s).bU=st.bU:=by unfold fK;split <;> rfl
theorem HW(st:HS)(s:Int):(fK st s).b_=st.b_:=by unfold fK;split <;> rfl
theorem AA(st:HS)(s:Int):(fK st s).own=st.own:=by unfold fK;split <;> rfl
theorem wU(st:HS)(s:Int):(fK st s).nms=st.nms:=by unfold fK;split <;> rfl
theorem HX(st:HS)(s:Int):(fK st s).c6=st.c6:=by unfold fK;split <;> rfl
theorem jf{α β γ:Type}{f:α->β->γ}{t:γ}:∀{xs:List α}{ys:List β},t∈List.zipWith f xs ys->∃(i:Nat)(x:α)(y:β),xs[i]?=some x/\ys[i]?=some y/\t=f x y:=λ{xs ys} h=>by
 obtain⟨i,hi,e⟩:=oV h;rw[kq]at hi;have h1:i<xs.length:=by omega
 have h2:i<ys.length:=by omega
 exact⟨i,xs[i],ys[i],bq h1,bq h2,by rw[<-e,List.getElem_zipWith]⟩
theorem Pz{α β γ:Type}{f:α->β->γ}{xs:List α}{ys:List β}{x:α}{y:β}(h1:xs[i]?=some x)(h2:ys[i]?=some y):(List.zipWith f xs ys)[i]?=some (f x y):=by rw[QC,h1,h2]
theorem C4{a b c:Int}(h:a<=b)(hc:0<=c):a*c<=b*c:=RW h hc
structure pV(st:HS)(kept whole lost:Int)(added:List Int):Prop where
 k:0<kept
 l:0<=lost
 w:whole=kept+lost
 len:added.length=st.bU.length
 add:∀m∈added,0<=m/\m<=lost*st.prod
 prod:Jm.Sz 7900 st.prod
 big:Jm.Sz 60 whole
 b_:∀u∈st.b_,Jm.Sz 8900 u
 stp:st.stp.length<100
variable {lost:Int}{added:List Int}
theorem pV.dvds{kept whole:Int}(b:pV st kept whole lost added):0<cL st kept whole added/\cL st kept whole added∣whole/\(∀p∈st.ah,cL st kept whole added∣p.sc*kept)/\∀c∈gr st kept added,cL st kept whole added∣c:=by
 have hw:0<whole:=by have:=b.k;have:=b.l;have:=b.w;omega
 have d:=Ax (jg st kept++gr st kept added) whole;exact⟨Ay _ _ hw,d.1,λp hp=>d.2 _ (FI _ (a_.mpr ⟨p,hp,Z⟩)),λc hc=>d.2 _ (j9 _ hc)⟩
theorem yS{kept whole:Int}(wf:Wf st)(b:pV st kept whole lost added):Wf (bF st kept whole added):=by
 obtain⟨hs,hsw,ve,hsc⟩:=b.dvds;have hk:=b.k;have hl:=b.l;have hw:=b.w;have p1:=wf.gC;have eB:bF st kept whole added=fK { st with ah:=st.ah.map (λp=>{ p with sc:=p.sc*kept / cL st kept whole added }),bU:=(gr st kept added).map (· / cL st kept whole added),b_:=st.b_.map (·*(whole / cL st kept whole added)) } (whole / cL st kept whole added):=rfl;rw[eB];generalize cL st kept whole added=d at *;obtain⟨s,es⟩:=hsw;have hs1:1<=s:=by
  rcases Int.lt_trichotomy s 0 with z|z|z
  .have:=Int.mul_neg_of_pos_of_neg hs z;omega
  .rw [z,Int.mul_zero]at es;omega
  .omega
 have ed:whole / d=s:=by rw[es,FG _ (by omega)]
 rw[ed];have ajr:s<=whole:=by rw[es];have:=RW (show 1<=d by omega) (show 0<=s by omega);omega
 have zs:Jm.Sz 60 s:=b.big.of_le (by omega);have zp:Jm.Sz 8000 (st.prod*s):=(b.prod.mul zs).mono (by decide);have pp:st.prod<=st.prod*s:=by have:=Hr hs1 (show 0<=st.prod by omega);omega
 have VT:∀c∈(gr st kept added).map (· / d),0<=c/\c<=st.prod*s:=λc hc=>by
  obtain⟨x,hx,rfl⟩:=a_.mp hc;obtain⟨i,t,m,et,em,rfl⟩:=jf (show x∈List.zipWith (λt m=>t*kept+m) st.bU added from hx);have ht:=wf.oZ t (bw et);have hm:=b.add m (bw em);have a1:0<=t*kept:=lZ ht.1 (by omega);have a2:t*kept<=st.prod*kept:=C4 ht.2 (by omega);have a3:st.prod*kept+lost*st.prod=d*(st.prod*s):=by rw[l7 lost,<-l_,<-hw,es,<-jC,<-jC,l7 st.prod d]
  exact⟨JS (by omega) (by omega),HU hs (by omega)⟩
 have sc':∀p∈st.ah,1<=p.sc*kept / d/\p.sc*kept / d<=st.prod*s/\d*(p.sc*kept / d)=p.sc*kept:=λp hp=>by
  have h0:=wf.tH p hp;obtain⟨z,ez⟩:=ve p hp;have a1:0<p.sc*kept:=Int.mul_pos (by omega) hk;have ez':p.sc*kept / d=z:=by rw[ez,FG _ (by omega)]
  have hz:1<=z:=by
   rcases Int.lt_trichotomy z 0 with y|y|y
   .have:=Int.mul_neg_of_pos_of_neg hs y;omega
   .rw [y,Int.mul_zero]at ez;omega
   .omega
  have a2:p.sc*kept<=st.prod*kept:=C4 h0.2 (by omega);have a3:st.prod*kept<=st.prod*whole:=Hr (by omega) (by omega);have a4:st.prod*whole=d*(st.prod*s):=by rw[es,<-jC,<-jC,l7 st.prod d]
  refine⟨by rw[ez'];exact hz,HU hs (by omega),by rw[ez',ez]⟩
 have P:∀{M:Pt->Prop},(∀p∈st.ah,M { p with sc:=p.sc*kept / d })->∀p∈st.ah.map (λp=>{ p with sc:=p.sc*kept / d }),M p:=λh p hp=>by obtain⟨x,hx,rfl⟩:=a_.mp hp;exact h x hx
 have top':∀p∈st.ah,∀t∈List.zipWith (λr c=>(p.sc*kept / d)*r+c) p.row ((gr st kept added).map (· / d)),0<=t/\t<=st.prod*s:=λp hp t ht=>by
  obtain⟨i,r,c,er,ec,rfl⟩:=jf ht;rw[bO]at ec;obtain⟨x,ex,rfl⟩:=lQ.mp ec;obtain⟨y,ey⟩:=hsc x (bw ex);have eyd:x / d=y:=by rw[ey,FG _ (by omega)]
  have ex':(List.zipWith (λt m=>t*kept+m) st.bU added)[i]?=some x:=ex;rw[QC]at ex';cases e1:st.bU[i]? with
  | none=>rw[e1]at ex';simp at ex'
  | some t0=>
   cases e2:added[i]? with
   | none=>rw[e1,e2]at ex';simp at ex'
   | some m=>
    rw[e1,e2]at ex';have ex2:t0*kept+m=x:=by simpa using ex'
    have hm:=b.add m (bw e2);have hT:=wf.qm p hp (p.sc*r+t0) (bw (Pz (f:=λr c=>p.sc*r+c) er e1));have hz:=(sc' p hp).2.2;have key:d*((p.sc*kept / d)*r+x / d)=(p.sc*r+t0)*kept+m:=by rw[l_,<-jC,hz,eyd,<-ey,<-ex2];rw[p_,jC,jC,l7 kept r];omega
    have k1:0<=(p.sc*r+t0)*kept:=lZ hT.1 (by omega);have k2:(p.sc*r+t0)*kept<=st.prod*kept:=C4 hT.2 (by omega);have a3:st.prod*kept+lost*st.prod=d*(st.prod*s):=by rw[l7 lost,<-l_,<-hw,es,<-jC,<-jC,l7 st.prod d]
    generalize (p.sc*kept / d)*r+x / d=W at *;constructor
    .rcases DQ W 0 with z|z
     .have:=Int.mul_neg_of_pos_of_neg hs z;omega
     .exact z
    .have:d*W<=d*(st.prod*s):=by omega
     exact Int.le_of_mul_le_mul_left this hs
 have nm':(st.ah.map (λp:Pt=>{ p with sc:=p.sc*kept / d })).map (λp:Pt=>p.nm)=st.ah.map (λp:Pt=>p.nm):=by rw[d7];rfl
 have e0:(gr st kept added).length=st.bU.length:=by unfold gr;rw[kq,b.len];omega
 have pu':∀u∈st.b_.map (·*s),Jm.Sz 9000 u:=λu hu=>by obtain⟨x,hx,rfl⟩:=a_.mp hu;exact((b.b_ x hx).mul zs).mono (by decide)
 have aa6:∀p∈st.ah,∀r∈p.row,-(st.prod*s)<=r/\r<=st.prod*s:=λp hp r hr=>by have:=wf.o9 p hp r hr;omega
 unfold fK;by_cases c:1<s
 .rw [av c];refine⟨wf.ua,wf.yL,by rw[nm'];exact wf.fB,P wf.sub,P wf.rows,P wf.ow,?_,?_,by show 1<=st.prod*s;omega,?_,λx hx=>?_,wf.kR,wf.yM,?_,?_,wf.uc,gh _,zp,VT,P λp hp=>⟨(sc' p hp).1,(sc' p hp).2.1⟩,P aa6,P top',P wf.ki,pu'⟩
  .show (List.map _ (gr st kept added)).length=_;rw[aE,e0,wf.gc]
  .show (List.map _ st.b_).length=_;rw[aE,wf.rD]
  .show st.prod*s=(st.stp++[s]).foldl (·*·) 1;rw[Yw,<-wf.sM]
  .rcases dD.mp (show x∈st.stp++[s]from hx)with z|z
   .exact wf.xC x z
   .rw [dj.mp z];omega
  .show (List.map _ st.ah).length<=1000;rw[aE];exact wf.rE
  .show (st.stp++[s]).length<=100;rw[cZ];exact b.stp
 .rw [au c];have e1:s=1:=by omega
  subst e1;rw[BB]at VT sc' aa6 top';refine⟨wf.ua,wf.yL,by rw[nm'];exact wf.fB,P wf.sub,P wf.rows,P wf.ow,?_,?_,wf.gC,wf.sM,wf.xC,wf.kR,wf.yM,?_,wf.As,wf.uc,wf.HN,wf.big,VT,P λp hp=>⟨(sc' p hp).1,(sc' p hp).2.1⟩,P wf.o9,P λp hp t ht=>?_,P wf.ki,pu'⟩
  .show (List.map _ (gr st kept added)).length=_;rw[aE,e0,wf.gc]
  .show (List.map _ st.b_).length=_;rw[aE,wf.rD]
  .show (List.map _ st.ah).length<=1000;rw[aE];exact wf.rE
  .exact top' p hp t ht
def uO(st:HS)(acc:List Int)(rs:List Row):List Int:=rs.foldl (λs r=>List.zipWith (λx t=>x+r.2*t) s (aV st (cI st r.1))) acc
theorem HY:∀(acc bU row:List Int)(a sc L:Int),List.zipWith (λold own=>old+(a*sc)*own) (List.zipWith (λs c=>s+(a+L)*c) acc bU) row=List.zipWith (λs c=>s+L*c) (List.zipWith (λx t=>x+a*t) acc (List.zipWith (λr c=>sc*r+c) row bU)) bU
 | [],_,_,_,_,_=>by simp
 | _::_,[],_,_,_,_=>by simp
 | _::_,_::_,[],_,_,_=>by simp
 | x::acc,c::bU,r::row,a,sc,L=>by
  simp only[tS];rw[HY acc bU row a sc L];congr 1
  grind
theorem Lv{st:HS}:∀(rs:List Row)(acc:List Int),rs.foldl (kg st) (List.zipWith (λs c=>s+bJ rs*c) acc st.bU)=List.zipWith (λs c=>s+0*c) (uO st acc rs) st.bU
 | [],acc=>by show List.zipWith _ acc st.bU=_;rfl
 | r::rs,acc=>by
  rw[lY];have e:kg st (List.zipWith (λs c=>s+bJ (r::rs)*c) acc st.bU) r=List.zipWith (λs c=>s+bJ rs*c) (List.zipWith (λx t=>x+r.2*t) acc (aV st (cI st r.1))) st.bU:=by unfold kg;rw[show bJ (r::rs)=r.2+bJ rs from by unfold bJ;rw[bN,cQ]];exact HY acc st.bU (cI st r.1).row r.2 (cI st r.1).sc (bJ rs)
  rw[e,Lv rs];rfl
theorem HZ:∀(l:List Int)(L:Int),List.zipWith (λs c=>s+L*c) (List.replicate l.length 0) l=l.map λc=>L*c
 | [],_=>rfl
 | x::l,L=>by rw[iF,ym,tS,HZ l L,wJ];rfl
theorem Lw:∀(s l:List Int),s.length<=l.length->List.zipWith (λs c=>s+0*c) s l=s
 | [],_,_=>by simp
 | _::_,[],h=>by simp at h
 | x::s,c::l,h=>by rw[tS,Lw s l (by simpa using h),yx,Int.add_zero]
theorem AB{st:HS}:∀(rs:List Row)(acc:List Int),(∀r∈rs,(aV st (cI st r.1)).length=acc.length)->(uO st acc rs).length=acc.length
 | [],_,_=>rfl
 | r::rs,acc,h=>by
  have e:(List.zipWith (λx t=>x+r.2*t) acc (aV st (cI st r.1))).length=acc.length:=by rw[kq,h r cT];omega
  show(uO st (List.zipWith (λx t=>x+r.2*t) acc (aV st (cI st r.1))) rs).length=_;rw[AB rs _ (λx hx=>by rw[e];exact h x (cW _ hx)),e]
theorem CC{st:HS}(hP:0<=st.prod):∀(rs:List Row)(acc:List Int)(B:Int),(∀r∈rs,0<=r.2/\∀t∈aV st (cI st r.1),0<=t/\t<=st.prod)->(∀x∈acc,0<=x/\x<=B)->∀x∈uO st acc rs,0<=x/\x<=B+bJ rs*st.prod
 | [],acc,B,_,ha,x,hx=>by have:=ha x hx;show 0<=x/\x<=B+0*st.prod;omega
 | r::rs,acc,B,h,ha,x,hx=>by
  have hr:=h r cT;have:=CC hP rs (List.zipWith (λx t=>x+r.2*t) acc (aV st (cI st r.1))) (B+r.2*st.prod) (λy hy=>h y (cW _ hy)) (λy hy=>by obtain⟨i,a,t,ea,et,rfl⟩:=jf hy;have h1:=ha a (bw ea);have h2:=hr.2 t (bw et);have h3:0<=r.2*t:=lZ hr.1 h2.1;have h4:r.2*t<=r.2*st.prod:=Hr h2.2 hr.1;omega) x hx
  rw[show bJ (r::rs)=r.2+bJ rs from by unfold bJ;rw[bN,cQ],p_];omega
theorem rG(wf:Wf st)(h:p∈st.ah):(aV st p).length=st.bU.length:=by unfold aV;rw[kq,wf.rows p h,wf.gc];omega
theorem dN(wf:Wf st)(h:p∈st.ah)(e:p.nm=x):cI st x=p:=by obtain⟨i,hi,ei⟩:=oV h;rw[<-e];exact Px wf.fB (i:=i) (by rw[bq hi,ei])
theorem AD(wf:Wf st)(h:∀r∈rs,∃p∈st.ah,p.nm=r.1):gH st rs=uO st (List.replicate st.bU.length 0) rs:=by
 unfold gH;rw[<-HZ st.bU (bJ rs),Lv];refine Lw _ _ ?_;rw[AB rs _ (λr hr=>by obtain⟨p,hp,e⟩:=h r hr;rw[dN wf hp e,i8,rG wf hp]),i8]
 exact aQ _
theorem Tr(wf:Wf st)(h:∀r∈rs,1<=r.2/\∃p∈st.ah,p.nm=r.1):(gH st rs).length=st.bU.length/\∀m∈gH st rs,0<=m/\m<=bJ rs*st.prod:=by
 rw[AD wf (λr hr=>(h r hr).2)];have p1:=wf.gC;constructor
 .rw [AB rs _ (λr hr=>by obtain⟨p,hp,e⟩:=(h r hr).2;rw[dN wf hp e,i8,rG wf hp]),i8]
 .intro m hm;have:=CC (st:=st) (by omega) rs (List.replicate st.bU.length 0) 0 (λr hr=>by obtain⟨h1,p,hp,e⟩:=h r hr;refine⟨by omega,?_⟩;rw[dN wf hp e];exact wf.qm p hp) (λx hx=>by rw[(List.mem_replicate.mp hx).2];omega) m hm
  omega
theorem Rm{ps:List Pt}{a:Int}(h:p∈ps)(hn:p.nm≠x)(hw:p.wo≠0):p∈jV ps x a:=iG.mpr ⟨a_.mpr ⟨p,h,by rw[au hn]⟩,bh hw⟩
theorem rH{ps:List Pt}{a:Int}(h:p∈jV ps x a):p.wo≠0/\∃q∈ps,p=if q.nm=x then{ q with wo:=q.wo-a } else q:=by obtain⟨h1,h2⟩:=iG.mp h;obtain⟨q,hq,e⟩:=a_.mp h1;exact⟨dY h2,q,hq,e.symm⟩
theorem uP{ps:List Pt}{a:Int}:((jV ps x a).map (λp:Pt=>p.nm)).Sublist (ps.map (λp:Pt=>p.nm)):=by
 unfold jV;have e:(ps.map λp=>if p.nm=x then{ p with wo:=p.wo-a } else p).map (λp:Pt=>p.nm)=ps.map (λp:Pt=>p.nm):=by rw[d7];exact tT λp _=>by show(if p.nm=x then _ else p:Pt).nm=p.nm;split <;> rfl
 rw[<-e];exact Ke.map _
theorem Gn(wf:Wf st){r:Row}(h:∀p∈st.ah,p.nm=r.1->r.2<=p.wo):Wf (eF st r):=by
 have P:∀{M:Pt->Prop},(∀p∈st.ah,M p)->(∀(p:Pt)(w:Int),M p->M { p with wo:=w })->∀p∈jV st.ah r.1 r.2,M p:=λh1 h2 p hp=>by
  obtain⟨_,q,hq,e⟩:=rH hp;rw[e];split
  .exact h2 _ _ (h1 q hq)
  .exact h1 q hq
 refine⟨wf.ua,wf.yL,wf.fB.sublist uP,P wf.sub (λ_ _ z=>z),P wf.rows (λ_ _ z=>z),P wf.ow (λ_ _ z=>z),wf.gc,wf.rD,wf.gC,wf.sM,wf.xC,wf.kR,wf.yM,?_,wf.As,wf.uc,wf.HN,wf.big,wf.oZ,P wf.tH (λ_ _ z=>z),P wf.o9 (λ_ _ z=>z),P wf.qm (λ_ _ z=>z),λp hp=>?_,wf.Gg⟩
 .have:=uP (ps:=st.ah) (x:=r.1) (a:=r.2) |>.length_le;rw[aE,aE]at this;exact fD this wf.rE
 .obtain ⟨h0,q,hq,e⟩:=rH hp;have:=wf.ki q hq;by_cases c:q.nm=r.1
  .rw [av c]at e;subst e;have:=h q hq c;have h0:q.wo-r.2≠0:=h0;exact⟨by show 1<=q.wo-r.2;omega,by show 0<=q.we;omega⟩
  .rw [au c]at e;rw[e];exact this
def Due(st:HS)(rs:List Row):Prop:=∀r∈rs,∃p∈st.ah,p.nm=r.1/\r.2<=p.wo
theorem nG(wf:Wf st){q:Pt}(hp:p∈st.ah)(hq:q∈st.ah)(e:p.nm=q.nm):p=q:=(dN wf hp rfl).symm.trans (by rw[e];exact dN wf hq rfl)
theorem Tt(wf:Wf st){r:Row}(d:Due st (r::rs)):Wf (eF st r):=by obtain⟨p,hp,e,hle⟩:=d r cT;exact Gn wf λq hq eq=>by rw[nG wf hq hp (eq.trans e.symm)];exact hle
theorem Lx(wf:Wf st){r:Row}(d:Due st (r::rs))(nd:((r::rs).map (λr:Row=>r.1)).Nodup):Due (eF st r) rs:=λx hx=>by obtain⟨p,hp,e,hle⟩:=d x (cW _ hx);have hn:p.nm≠r.1:=λz=>(gK.mp nd).1 (a_.mpr ⟨x,hx,e.symm.trans z⟩);have:=wf.ki p hp;exact⟨p,Rm hp hn (by omega),e,hle⟩
theorem Ly:∀{rs:List Row}{st:HS},Wf st->Due st rs->(rs.map (λr:Row=>r.1)).Nodup->Wf (rs.foldl eF st)
 | [],_,wf,_,_=>wf
 | r::rs,st,wf,d,nd=>show Wf (rs.foldl eF (eF st r))from Ly (Tt wf d) (Lx wf d nd) (gK.mp nd).2
theorem H_{kept whole:Int}(d:Due st rs):Due (bF st kept whole added) rs:=λr hr=>by obtain⟨p,hp,e,hle⟩:=d r hr;refine⟨{ p with sc:=p.sc*kept / cL st kept whole added },?_,e,hle⟩;unfold bF;rw[kN];exact a_.mpr ⟨p,hp,Z⟩
theorem nY.due(c:nY st rs):Due st rs:=λr hr=>(c.row r hr).2.2
theorem C5:∀{rs:List Row},(∀r∈rs,1<=r.2)->0<=bJ rs
 | [],_=>ff _
 | r::rs,h=>by have:=h r cT;have:=C5 (rs:=rs) λx hx=>h x (cW _ hx);rw[show bJ (r::rs)=r.2+bJ rs from by unfold bJ;rw[bN,cQ]];omega
theorem nY.blend(wf:Wf st)(c:nY st rs):pV st (aH st-bJ rs) (aH st) (bJ rs) (gH st rs):=by have g:=Tr wf (rs:=rs) (λr hr=>⟨(c.row r hr).1,by obtain⟨p,hp,e,_⟩:=(c.row r hr).2.2;exact⟨p,hp,e⟩⟩);have l0:=C5 (rs:=rs) λr hr=>(c.row r hr).1;have:=c.lost;exact⟨by omega,l0,by omega,g.1,g.2,c.prod,c.big,c.b_,c.stp⟩
theorem Yy(wf:Wf st)(c:nY st rs):Wf (i_ st rs):=Ly (yS wf (c.blend wf)) (H_ c.due) c.nd
structure BP where
 nm:Str
 ow:Str
 wo:Int
 we:Int
 tops:List Int
structure BE where
 nm:Str
 ow:Str
 wo:Int
 tops:List Int
 bot:Int
structure BS where
 own:List Str
 ah:List BP
 bot:Int
 c6:List BE
 ef:List Str
structure BA where
 m:Addr
 lo:Addr
 lp:Addr
 la:Addr
 lk:Addr
 qs:List (Addr×Addr)
def fL(B:BA)(bot:Int):List (Key×V):=[(Sum.inr "owners",.ref B.lo),(Sum.inr "parts",.ref B.lp),(Sum.inr "bottom",.int bot),(Sum.inr "ashore",.ref B.la),(Sum.inr "known",.ref B.lk)]
def f_(p:BP)(t:Addr):HO:=.lst [.str p.nm,.str p.ow,.int p.wo,.int p.we,.ref t]
inductive pe(n:Nat)(ρ:fE)(H:Hp):List V->List BE->Prop
 | nil:pe n ρ H [] []
 | cons {r t:Addr} {e:BE} {vs:List V} {es:List BE}:H r=some (.lst [.str e.nm,.str e.ow,.int e.wo,.ref t,.int e.bot])->ρ r=some (n,27,e.nm)->H t=some (.lst (e.tops.map V.int))->ρ t=some (n,28,e.nm)->pe n ρ H vs es->pe n ρ H (.ref r::vs) (e::es)
structure aZ(n:Nat)(ρ:fE)(B:BA)(H:Hp)(b:BS):Prop where
 om:H B.m=some (.dK (fL B b.bot))
 cm:ρ B.m=some (n,20,⟨#[]⟩)
 oo:H B.lo=some (.lst (b.own.map V.str))
 co:ρ B.lo=some (n,21,⟨#[]⟩)
 op:H B.lp=some (.lst (B.qs.map λq=>V.ref q.1))
 cp:ρ B.lp=some (n,22,⟨#[]⟩)
 oa:∃vs,H B.la=some (.lst vs)/\pe n ρ H vs b.c6
 ca:ρ B.la=some (n,25,⟨#[]⟩)
 ok:H B.lk=some (.lst (b.ef.map V.str))
 ck:ρ B.lk=some (n,26,⟨#[]⟩)
 ql:B.qs.length=b.ah.length
 pt:∀(i:Nat)(p:BP)(q:Addr×Addr),b.ah[i]?=some p->B.qs[i]?=some q->H q.1=some (f_ p q.2)/\H q.2=some (.lst (p.tops.map V.int))/\ρ q.1=some (n,23,p.nm)/\ρ q.2=some (n,24,p.nm)
theorem pe.keep{l:List BE}(h:pe n ρ H vs l)(k:Kp n ρ ρ' H H' ts)(e1:ts 27=true)(e2:ts 28=true):pe n ρ' H' vs l:=by
 induction h with
 | nil=>exact .nil
 | cons a b c d _ ih=>exact .cons (k.2 _ _ _ _ e1 b a).1 (k.2 _ _ _ _ e1 b a).2 (k.2 _ _ _ _ e2 d c).1 (k.2 _ _ _ _ e2 d c).2 ih
variable {B:BA}{b:BS}
theorem aZ.same(h:aZ n ρ B H b)(k:Kp n ρ ρ' H H' λ_=>true):aZ n ρ' B H' b:=by
 have z:=λ{b:Addr}{t:Nat}{x:Str}{o:HO}(c:ρ b=some (n,t,x))(e:H b=some o)=>k.2 b t x o rfl c e;obtain⟨vs,h1,h2⟩:=h.oa;exact⟨(z h.cm h.om).1,(z h.cm h.om).2,(z h.co h.oo).1,(z h.co h.oo).2,(z h.cp h.op).1,(z h.cp h.op).2,⟨vs,(z h.ca h1).1,h2.keep k rfl rfl⟩,(z h.ca h1).2,(z h.ck h.ok).1,(z h.ck h.ok).2,h.ql,
  λi p q e1 e2=>let⟨a,b,c,d⟩:=h.pt i p q e1 e2;⟨(z c a).1,(z d b).1,(z c a).2,(z d b).2⟩⟩
theorem aZ.mono(h:aZ n ρ B H b)(s:aM H H'):aZ n ρ B H' b:=h.same (Pe s)
theorem aZ.other(h:aZ m ρ B H b)(f:Fr n ρ H ρ' H')(g:Gh ρ H)(e:m≠n):aZ m ρ' B H' b:=h.same ⟨λb xs q=>(f b _ q λt x=>by rw[g.tup q];intro z;cases z).1,λb t x o _ c q=>by
 obtain⟨a,b'⟩:=f b o q λt' x'=>by rw[c];intro z;cases z;exact e rfl
 exact⟨a,b'.trans c⟩⟩
theorem aZ.col(h:aZ n ρ B H b)(c:ρ a=none):aZ n (bK ρ a (n,t,x)) B H b:=h.same ⟨λ_ _ e=>e,λb u y w _ hc he=>⟨he,by rw[bY (λz=>by rw[z,c]at hc;cases hc)];exact hc⟩⟩
theorem aZ.find(h:aZ n ρ B H b){p:BP}(e:b.ah[i]?=some p):∃q,B.qs[i]?=some q/\H q.1=some (f_ p q.2)/\H q.2=some (.lst (p.tops.map V.int))/\ρ q.1=some (n,23,p.nm)/\ρ q.2=some (n,24,p.nm):=by
 have hi:i<B.qs.length:=by rw[h.ql];exact(di.mp e).1
 exact⟨B.qs[i],bq hi,h.pt i p _ e (bq hi)⟩
theorem aZ.Yz(h:aZ n ρ B H b)(g:Gh ρ H)(x:Int):aZ n ρ B (upd H B.m (.dK (fL B x))) { b with bot:=x }:=by
 have k:=dZ (o:=.dK (fL B x)) g h.cm;obtain⟨vs,h1,h2⟩:=h.oa;exact⟨ao,h.cm,kz k h.co h.oo,h.co,kz k h.cp h.op,h.cp,⟨vs,kz k h.ca h1,h2.keep k (by decide) (by decide)⟩,h.ca,kz k h.ck h.ok,h.ck,h.ql,
  λi p q e1 e2=>let⟨a,b,c,d⟩:=h.pt i p q e1 e2;⟨kz k c a,kz k d b,c,d⟩⟩
theorem aZ.iX(h:aZ n ρ B H b)(g:Gh ρ H){p0 p1:BP}{q0:Addr×Addr}{t1:Addr}(ep:b.ah[i]?=some p0)(eq:B.qs[i]?=some q0)(e1:p1.nm=p0.nm)(nd:(b.ah.map (λp:BP=>p.nm)).Nodup)(ht:H t1=some (.lst (p1.tops.map V.int)))(ct:ρ t1=some (n,24,p1.nm)):aZ n ρ { B with qs:=B.qs.set i (q0.1,t1) } (upd H q0.1 (f_ p1 t1)) { b with ah:=b.ah.set i p1 }:=by
 obtain⟨x1,x2,x3,x4⟩:=h.pt i p0 q0 ep eq
 have k:=dZ (o:=f_ p1 t1) g x3
 obtain⟨vs,h1,h2⟩:=h.oa
 have hi:i<B.qs.length:=(di.mp eq).1
 have hi2:i<b.ah.length:=(di.mp ep).1
 have em:(B.qs.set i (q0.1,t1)).map (λq=>V.ref q.1)=B.qs.map λq=>V.ref q.1:=by rw[jN];exact mU (by rw[bO,eq];rfl)
 refine⟨kz k h.cm h.om,h.cm,kz k h.co h.oo,h.co,?_,h.cp,⟨vs,kz k h.ca h1,h2.keep k (by decide) (by decide)⟩,h.ca,kz k h.ck h.ok,h.ck,?_,λj p q qw CD=>?_⟩
 . show upd H q0.1 _ B.lp=some (.lst ((B.qs.set i (q0.1,t1)).map _))
   rw[em];exact kz k h.cp h.op
 . show(B.qs.set i (q0.1,t1)).length=(b.ah.set i p1).length
   rw[eZ,eZ];exact h.ql
 . have qw:(b.ah.set i p1)[j]?=some p:=qw
   have CD:(B.qs.set i (q0.1,t1))[j]?=some q:=CD
   by_cases hj:i=j
   . subst hj
     rw[iB hi2]at qw
     rw[iB hi]at CD
     cases qw;cases CD
     exact⟨ao,kz k ct ht,by rw[e1];exact x3,ct⟩
   . rw[yk hj]at qw CD
     obtain⟨a1,a2,a3,a4⟩:=h.pt j p q qw CD
     have hnm:p.nm≠p0.nm:=λe=>by
      have hj2:j<b.ah.length:=(di.mp qw).1;have r1:(b.ah.map (λp:BP=>p.nm))[j]?=some p.nm:=by rw[bO,qw];rfl
      have r2:(b.ah.map (λp:BP=>p.nm))[i]?=some p0.nm:=by rw[bO,ep];rfl
      have hj3:j<(b.ah.map (λp:BP=>p.nm)).length:=by rw[aE];exact hj2
      exact hj ((FU hj3 nd).mp (r1.trans (by rw[e];exact r2.symm))).symm
     have hq:q.1≠q0.1:=λe=>by rw[e,x3]at a3;exact hnm (gR (λc:qj=>c.2.2) (gJ a3)).symm
     exact⟨by rw[az hq];exact a1,kz k a4 a2,a3,a4⟩
theorem aZ.Tu(h:aZ n ρ B H b)(g:Gh ρ H){lp:Addr}{qs:List (Addr×Addr)}{ps:List BP}(e:H lp=some (.lst (qs.map λq=>V.ref q.1)))(c:ρ lp=some (n,22,⟨#[]⟩))(hl:qs.length=ps.length)(hp:∀(i:Nat) (p:BP) (q:Addr×Addr),ps[i]?=some p->qs[i]?=some q->H q.1=some (f_ p q.2)/\H q.2=some (.lst (p.tops.map V.int))/\ρ q.1=some (n,23,p.nm)/\ρ q.2=some (n,24,p.nm)):
  aZ n ρ { { B with lp:=lp }with qs:=qs } (upd H B.m (.dK (fL { B with lp:=lp } b.bot))) { b with ah:=ps }:=by
 have k:=dZ (o:=.dK (fL { B with lp:=lp } b.bot)) g h.cm
 obtain⟨vs,h1,h2⟩:=h.oa
 exact⟨ao,h.cm,kz k h.co h.oo,h.co,kz k c e,c,⟨vs,kz k h.ca h1,h2.keep k (by decide) (by decide)⟩,h.ca,kz k h.ck h.ok,h.ck,hl,
  λi p q e1 e2=>let⟨a,b,c,d⟩:=hp i p q e1 e2;⟨kz k c a,kz k d b,c,d⟩⟩
theorem aZ.Tv(h:aZ n ρ B H b)(g:Gh ρ H){p:BP}{q:Addr×Addr}(e1:H q.1=some (f_ p q.2))(e2:H q.2=some (.lst (p.tops.map V.int)))(c1:ρ q.1=some (n,23,p.nm))(c2:ρ q.2=some (n,24,p.nm)):aZ n ρ { B with qs:=B.qs++[q] } (upd H B.lp (.lst ((B.qs++[q]).map λq=>V.ref q.1))) { b with ah:=b.ah++[p] }:=by
 have k:=dZ (o:=.lst ((B.qs++[q]).map λq=>V.ref q.1)) g h.cp;obtain⟨vs,h1,h2⟩:=h.oa;refine⟨kz k h.cm h.om,h.cm,kz k h.co h.oo,h.co,ao,h.cp,⟨vs,kz k h.ca h1,h2.keep k (by decide) (by decide)⟩,h.ca,kz k h.ck h.ok,h.ck,?_,λi x y ex ey=>?_⟩
 .show (B.qs++[q]).length=(b.ah++[p]).length;rw[cZ,cZ,h.ql];rfl
 .have ex:(b.ah++[p])[i]?=some x:=ex;have ey:(B.qs++[q])[i]?=some y:=ey;by_cases c:i<b.ah.length
  .rw [FF c]at ex;rw[FF (by rw[h.ql];exact c)]at ey;obtain⟨a1,a2,a3,a4⟩:=h.pt i x y ex ey;exact⟨kz k a3 a1,kz k a4 a2,a3,a4⟩
  .have hi:i=b.ah.length:=by have:=(di.mp ex).1;rw[cZ]at this;have:i<b.ah.length+1:=this;omega
   subst hi;rw[z6 (aQ _),By]at ex;rw[z6 (by rw[h.ql];exact aQ _),h.ql,By]at ey;cases ex;cases ey;exact⟨kz k c1 e1,kz k c2 e2,c1,c2⟩
theorem aZ.PD(h:aZ n ρ B H b)(g:Gh ρ H)(l:List Str):aZ n ρ B (upd H B.lk (.lst (l.map V.str))) { b with ef:=l }:=by
 have k:=dZ (o:=.lst (l.map V.str)) g h.ck;obtain⟨vs,h1,h2⟩:=h.oa;exact⟨kz k h.cm h.om,h.cm,kz k h.co h.oo,h.co,kz k h.cp h.op,h.cp,⟨vs,kz k h.ca h1,h2.keep k (by decide) (by decide)⟩,h.ca,ao,h.ck,h.ql,
  λi p q e1 e2=>let⟨a,b,c,d⟩:=h.pt i p q e1 e2;⟨kz k c a,kz k d b,c,d⟩⟩
structure Lz(K:Fg)(H:Hp)(us:List V)(ws:List Row):Prop where
 len:us.length=ws.length
 at_:∀(i:Nat)(r:Row),ws[i]?=some r->∃a xs,us[i]?=some (.ref a)/\Sq K H a xs/\xs[0]?=some (.str r.1)/\xs[2]?=some (.int r.2)
def uH(b:BS):List Row:=b.ah.map λp=>(p.nm,p.wo)
theorem aZ.nw(h:aZ n ρ B H b):Lz K H (B.qs.map λq=>V.ref q.1) (uH b):=by refine⟨by unfold uH;rw[aE,aE];exact h.ql,λi r e=>?_⟩;unfold uH at e;rw[bO]at e;obtain⟨p,ep,rfl⟩:=lQ.mp e;obtain⟨q,eq,a1,_⟩:=h.find ep;exact⟨q.1,_,by rw[bO,eq];rfl,.inl (aB.of a1),Z,Z⟩
def bQ(b:BS):Int:=(b.ah.map λp=>p.wo).sum
theorem wV:∀{l:List Str}{o:Str},o∈l->l[l.idxOf o]?=some o
 | [],_,h=>by simp at h
 | x::l,o,h=>by
  by_cases e:x=o
  .subst e;simp
  .have ho:o∈l:=by
    rcases dS.mp h with z|z
    .exact absurd z.symm e
    .exact z
   rw[List.idxOf_cons,show(x==o)=false from FJ.mpr e];simpa using wV ho
inductive aa8(K:Fg)(vs:List V)(H:Hp)(Q:VK)(E:XK):Prop
 |mk(l:Addr)(own:List Str)(n:Nat)(ρ:fE)(_:vs=[.ref l])(_:aB K H l (own.map V.str))(_:Gh ρ H)(_:own.length<=1000)(_:∀ρ' B H',Gh ρ' H'->aZ n ρ' B H' ⟨own,[],1,[],[]⟩->(∀b o,H b=some o->H' b=some o/\ρ' b=ρ b)->Q (.ref B.m) H')
def PF(K:Fg):Sp:=bx (aa8 K)
inductive adD(K:Fg)(vs:List V)(H:Hp)(Q:VK)(E:XK):Prop
 |mk(l:Addr)(own:List Str)(o:Str)(_:vs=[.ref l,.str o])(_:aB K H l (own.map V.str))(_:o∈own)(_:own.length<=1000)(_:Q (.int (own.idxOf o:Int)) H)
def Ez(K:Fg):Sp:=bx (adD K)
def yT(b:BS)(x o:Str)(wo we:Int):BS:={ b with ah:=b.ah++[⟨x,o,wo,we,(List.replicate b.own.length 0).set (b.own.idxOf o) b.bot⟩],ef:=b.ef++[x] }
inductive VU(vs:List V)(H:Hp)(Q:VK)(E:XK):Prop
 |mk(n ρ B b:_)(x o:Str)(wo we:Int)(_:vs=[.ref B.m,.str x,.str o,.int wo,.int we])(_:Gh ρ H)(_:aZ n ρ B H b)(_:o∈b.own)(_:b.own.length<=1000)(_:b.ah.length<=1000)(_:b.ef.length<=1000)(_:∀ρ' B' H',Gh ρ' H'->aZ n ρ' B' H' (yT b x o wo we:_)->B'.m=B.m->Fr n ρ H ρ' H'->Q .cy H')
def Ia:Sp:=bx (VU)
inductive agD(K:Fg)(vs:List V)(H:Hp)(Q:VK)(E:XK):Prop
 |mk(l:Addr)(us:List V)(ws:List Row)(i:Nat)(r:Row)(_:vs=[.ref l,.str r.1])(_:aB K H l us)(_:Lz K H us ws)(_:(ws.map (λr:Row=>r.1)).Nodup)(_:ws.length<=1000)(_:ws[i]?=some r)(_:Q (.int (i:Int)) H)
def W5(K:Fg):Sp:=bx (agD K)
structure Tw(ws rs:List Row):Prop where
 nd:(rs.map (λr:Row=>r.1)).Nodup
 row:∀r∈rs,1<=r.2/\r.2<=1000000000/\∃w∈ws,w.1=r.1/\r.2<=w.2
 lost:bJ rs<bJ ws\/rs=[]
 len:rs.length<=ws.length
inductive aa9(K:Fg)(vs:List V)(H:Hp)(Q:VK)(E:XK):Prop
 |mk(a l:Addr)(ns:List Int)(k:Int)(us:List V)(ws:List Row)(_:vs=[.ref a,.int k,.ref l])(_:aB K H a (ns.map V.int))(_:ns.length<=63)(_:0<=k)(_:k<=1000000)(_:aB K H l us)(_:Lz K H us ws)(_:(ws.map (λr:Row=>r.1)).Nodup)(_:ws.length<=1000)(_:(∀w∈ws,1<=w.2))(_:∀z zs rs H',aM H H'->H z=none->H' z=some (.lst zs)->f7 H' zs rs->Tw ws rs->Q (.ref z) H')
def PJ(K:Fg):Sp:=bx (aa9 K)
section
variable {X:Cx}
def vB(i j k:Int):Int:=if j<i then(if k<j then k else j) else(if k<i then k else i)
theorem YA(i j k:Int):vB i j k<=i/\vB i j k<=j/\vB i j k<=k:=by unfold vB;split <;> split <;> omega
theorem YB{i j k m:Int}(h1:m<=i)(h2:m<=j)(h3:m<=k):m<=vB i j k:=by unfold vB;split <;> split <;> omega
theorem Tz(hc:X.calm=true):iH X (.builtin "min") (λxs H Q=>∃i j k,xs=[.int i,.int j,.int k]/\Q (.int (vB i j k)) H):=by
 intro pins s σ H xs us Q I r h;obtain⟨i,j,k,rfl,q⟩:=h;obtain⟨u,us,rfl,⟨t,rfl⟩,r2⟩:∃u us',us=u::us'/\RelV (.int i) u/\Vals [.int j,.int k] us':=by cases r with|cons a b=>exact⟨_,_,rfl,a,b⟩
 obtain⟨u2,u3,rfl,⟨t',rfl⟩,⟨t'',rfl⟩⟩:=vals2 r2;refine min_three_ints (I.ok.hd hc) λh' tk kk=>⟨_,H,I.kept kk,?_,q⟩
 unfold vB;by_cases hj:j<i
 .rw [av hj,av hj];by_cases hk:k<j
  .rw [av hk,av hk];exact⟨_,Z⟩
  .rw [au hk,au hk];exact⟨_,Z⟩
 .rw [au hj,au hj];by_cases hk:k<i
  .rw [av hk,av hk];exact⟨_,Z⟩
  .rw [au hk,au hk];exact⟨_,Z⟩
end
def mV(given:List Int)(kept:Int)(p:BP)(a:Int):BP:={ p with tops:=List.zipWith (λt g=>t*kept+g) p.tops given,wo:=p.wo-a }
def iD(ps:List BP)(as:List Int)(i:Nat):Int:=(List.zipWith (λ(p:BP)(a:Int)=>p.tops.getD i 0*a) ps as).sum
def gu(b:BS)(as:List Int):List Int:=(List.range b.own.length).map (iD b.ah as)
def gX(b:BS)(as:List Int)(seat:Nat)(aw:Int):List Int:=if 0<aw then(gu b as).set seat ((gu b as).getD seat 0+aw*b.bot) else gu b as
def c_(b:BS)(as:List Int)(seat:Nat)(aw:Int):List BP:=List.zipWith (mV (gX b as seat aw) (bQ b-aw-as.sum)) b.ah as
def ja(b:BS)(as:List Int)(seat:Nat)(aw:Int):BS:={ b with bot:=b.bot*bQ b,ah:=(c_ b as seat aw).filter λp=>decide (0<p.wo) }
structure wW(b:BS):Prop where
 nd:(b.ah.map (λp:BP=>p.nm)).Nodup
 tl:∀p∈b.ah,p.tops.length=b.own.length
 t0:∀p∈b.ah,∀t∈p.tops,0<=t/\t<=b.bot
 b1:1<=b.bot
 bz:Jm.Sz 7000 b.bot
 w1:∀p∈b.ah,1<=p.wo
 ol:b.own.length<=100
 pl:b.ah.length<=1000
 kl:b.ef.length<=1000
structure lE(b:BS)(as:List Int)(seat:Nat)(aw:Int):Prop where
 len:as.length=b.ah.length
 a0:∀a∈as,0<=a
 seat:seat<b.own.length
 EA:0<=aw
 kept:0<bQ b-aw-as.sum
 big:Jm.Sz 60 (bQ b)
inductive adE(K:Fg)(vs:List V)(H:Hp)(Q:VK)(E:XK):Prop
 |mk(n ρ B b:_)(l:Addr)(as:List Int)(seat:Nat)(aw:Int)(_:vs=[.ref B.m,.ref l,.int (seat:Int),.int aw])(_:Gh ρ H)(_:aZ n ρ B H b)(_:wW b)(_:aB K H l (as.map V.int))(_:ρ l=none)(_:lE b as seat aw)(_:∀ρ' B' H',Gh ρ' H'->aZ n ρ' B' H' (ja b as seat aw:_)->B'.m=B.m->Fr n ρ H ρ' H'->Q .cy H')
def LA(K:Fg):Sp:=bx (adE K)
variable {as:List Int}{seat:Nat}
theorem wX{aw:Int}(h:as.length=b.ah.length):(c_ b as seat aw).length=b.ah.length:=by unfold c_;rw[kq,h];omega
theorem VW{aw:Int}{p:BP}{a:Int}(h1:b.ah[i]?=some p)(h2:as[i]?=some a):(c_ b as seat aw)[i]?=some (mV (gX b as seat aw) (bQ b-aw-as.sum) p a):=Pz h1 h2
theorem wY(h:∀a∈as,0<=a):∀{x:Int},x∈as->x<=as.sum:=by
 induction as with
 | nil=>intro x hx;simp at hx
 | cons a l ih=>
  intro x hx;have h0:=h a cT;have hl:0<=l.sum:=by
   clear ih hx;have:∀(l:List Int),(∀a∈l,0<=a)->0<=l.sum:=λl=>by
    induction l with
    | nil=>intro _;exact ff _
    | cons a l ih=>intro h;rw[cQ];have:=h a cT;have:=ih λx hx=>h x (cW _ hx);omega
   exact this l λx hx=>h x (cW _ hx)
  rw[cQ];rcases dS.mp hx with e|e
  .omega
  .have:=ih (λy hy=>h y (cW _ hy)) e;omega
theorem kW(b:BS)(as:List Int):(gu b as).length=b.own.length:=by unfold gu;rw[aE,FT]
theorem vC(b:BS)(as:List Int)(seat:Nat)(aw:Int):(gX b as seat aw).length=b.own.length:=by
 unfold gX;split
 .rw [eZ,kW]
 .exact kW b as
theorem LB{ps:List BP}{p:BP}{a:Int}(h1:ps[j]?=some p)(h2:as[j]?=some a):(List.zipWith (λ(p:BP)(a:Int)=>p.tops.getD i 0*a) (ps.take (j+1)) (as.take (j+1)))=List.zipWith (λ(p:BP)(a:Int)=>p.tops.getD i 0*a) (ps.take j) (as.take j)++[p.tops.getD i 0*a] :=mT _ h1 h2
theorem YC{α:Type}{xs ys:List α}{p:α}(hx:i<=xs.length)(h:ys[i]?=some p):(xs.take i++ys.drop i)[i]?=some p:=by
 have hl:(xs.take i).length=i:=by rw[nu];omega
 rw[z6 (by omega),hl,By,List.getElem?_drop];exact h
theorem YD{α:Type}{xs ys:List α}{x:α}(hx:xs[i]?=some x)(hy:i<ys.length):(xs.take i++ys.drop i).set i x=xs.take (i+1)++ys.drop (i+1):=by
 have hi:=(di.mp hx).1;have hl:(xs.take i).length=i:=by rw[nu];omega
 rw[List.set_append_right _ _ (by omega),hl,By,Qv hy,Kh,take_snoc hx,Kl];rfl
theorem TF{b:BS}{as:List Int}{aw:Int}(h:as.length=b.ah.length)(i:Nat):((c_ b as seat aw).take i++b.ah.drop i).map (λp:BP=>p.nm)=b.ah.map (λp:BP=>p.nm):=by
 have e:(c_ b as seat aw).map (λp:BP=>p.nm)=b.ah.map (λp:BP=>p.nm):=by
  unfold c_;generalize gX b as seat aw=g;generalize bQ b-aw-as.sum=k;generalize b.ah=ps at *;clear b
  induction ps generalizing as with
  | nil=>rfl
  | cons p ps ih=>
   cases as with
   | nil=>simp at h
   | cons a as=>rw[tS,bN,bN,ih (by simpa using h)];rfl
 rw[bP,Bw,e,<-Bw,<-bP,List.take_append_drop]
theorem TH(B:BA)(x y:Int):putK (fL B x) (Sum.inr "bottom") (.int y)=fL B y:=rfl
theorem LC(B:BA)(x:Int)(l:Addr):putK (fL B x) (Sum.inr "parts") (.ref l)=fL { B with lp:=l } x:=rfl
def jW:List BP->List (Addr×Addr)->List (Addr×Addr)
 | p::ps,q::qs=>if 0<p.wo then q::jW ps qs else jW ps qs
 | _,_=>[]
theorem AE:∀{ps:List BP}{qs:List (Addr×Addr)},qs.length=ps.length->(jW ps qs).length=(ps.filter λp=>decide (0<p.wo)).length
 | [],[],_=>rfl
 | [],_::_,h=>by simp at h
 | _::_,[],h=>by simp at h
 | p::ps,q::qs,h=>by
  have ih:=AE (ps:=ps) (qs:=qs) (by simpa using h);unfold jW;by_cases c:0<p.wo
  .rw [av c,gQ,av (bh c),iF,iF,ih]
  .rw [au c,gQ,au (by simpa using c),ih]
theorem yU:∀{ps:List BP}{qs:List (Addr×Addr)}{i:Nat}{p:BP}{q:Addr×Addr},(ps.filter λp=>decide (0<p.wo))[i]?=some p->(jW ps qs)[i]?=some q->qs.length=ps.length->∃j:Nat,ps[j]?=some p/\qs[j]?=some q
 | [],_,_,_,_,h,_,_=>by simp at h
 | _::_,[],_,_,_,_,_,h=>by simp at h
 | x::ps,y::qs,i,p,q,h1,h2,hl=>by
  unfold jW at h2;by_cases c:0<x.wo
  .rw [av c]at h2;rw[gQ,av (bh c)]at h1;cases i with
   | zero=>simp at h1 h2;exact⟨0,by simpa using h1,by simpa using h2⟩
   | succ i=>obtain⟨j,a,b⟩:=yU (ps:=ps) (qs:=qs) (i:=i) (by simpa using h1) (by simpa using h2) (by simpa using hl);exact⟨j+1,by simpa using a,by simpa using b⟩
  .rw [au c]at h2;rw[gQ,au (by simpa using c)]at h1;obtain⟨j,a,b⟩:=yU (ps:=ps) (qs:=qs) (i:=i) h1 h2 (by simpa using hl);exact⟨j+1,by simpa using a,by simpa using b⟩
theorem yV:∀{ps:List BP}{qs:List (Addr×Addr)}{j:Nat}{p:BP}{q:Addr×Addr},ps[j]?=some p->qs[j]?=some q->jW (ps.take (j+1)) (qs.take (j+1))=jW (ps.take j) (qs.take j)++(if 0<p.wo then[q] else[])
 | [],_,_,_,_,h,_=>by simp at h
 | _::_,[],_,_,_,_,h=>by simp at h
 | x::ps,y::qs,0,p,q,h1,h2=>by
  have e1:x=p:=by simpa using h1
  have e2:y=q:=by simpa using h2
  subst e1 e2;show jW (x::ps.take 0) (y::qs.take 0)=[]++_;unfold jW;split <;> rfl
 | x::ps,y::qs,j+1,p,q,h1,h2=>by have ih:=yV (ps:=ps) (qs:=qs) (j:=j) (by simpa using h1) (by simpa using h2);show jW (x::ps.take (j+1)) (y::qs.take (j+1))=jW (x::ps.take j) (y::qs.take j)++_;unfold jW;rw[ih];split <;> rfl
def dJ(rs:List Row)(x:Str):Int:=((rs.find? λr=>decide (r.1=x)).map (λr:Row=>r.2)).getD 0
theorem Ib(x:Str):dJ [] x=0:=rfl
theorem nH(r:Row)(rs:List Row)(x:Str):dJ (r::rs) x=if r.1=x then r.2 else dJ rs x:=by
 unfold dJ;rw[p8];by_cases c:r.1=x
 .rw [bh c,av c];rfl
 .rw [c9 c,au c]
theorem uQ:∀{rs:List Row}{x:Str},x∉rs.map (λr:Row=>r.1)->dJ rs x=0
 | [],_,_=>rfl
 | r::rs,x,h=>by rw[nH,au (λe=>h (by rw[bN,e];exact cT))];exact uQ λm=>h (by rw[bN];exact cW _ m)
theorem nI:∀{rs:List Row}{r:Row}{x:Str},r.1∉rs.map (λr:Row=>r.1)->dJ (rs++[r]) x=if r.1=x then r.2 else dJ rs x
 | [],r,x,_=>by rw[JQ,nH]
 | y::rs,r,x,h=>by
  rw[bN]at h;have h1:r.1≠y.1:=λe=>h (by rw[e];exact cT);rw[JP,nH,nI (λm=>h (cW _ m)),nH];by_cases c:y.1=x
  .rw [av c,av c,au (λe=>h1 (e.trans c.symm))]
  .rw [au c,au c]
theorem VX(h:∀r∈rs,1<=r.2)(x:Str):0<=dJ rs x:=by
 induction rs with
 | nil=>exact ff _
 | cons r rs ih=>
  rw[nH];split
  .have:=h r cT;omega
  .exact ih λy hy=>h y (cW _ hy)
def dm(b:BS)(rs:List Row):List Int:=b.ah.map λp=>dJ rs p.nm
theorem AF(b:BS)(rs:List Row):(dm b rs).length=b.ah.length:=by unfold dm;rw[aE]
theorem EB(nd:(b.ah.map (λp:BP=>p.nm)).Nodup){r:Row}{p:BP}(hp:b.ah[j]?=some p)(e:p.nm=r.1)(h:r.1∉rs.map (λr:Row=>r.1)):dm b (rs++[r])=(dm b rs).set j r.2/\(dm b rs)[j]?=some 0:=by
 have hj:=(di.mp hp).1;constructor
 .refine List.ext_getElem? λk=>?_;by_cases c:j=k
  .subst c;rw[iB (by rw[AF];exact hj)];unfold dm;rw[bO,hp];show some (dJ (rs++[r]) p.nm)=_;rw[nI h,av e.symm]
  .rw [yk c];unfold dm;rw[bO,bO];cases ek:b.ah[k]? with
   | none=>rfl
   | some x=>
    show some (dJ (rs++[r]) x.nm)=some (dJ rs x.nm);rw[nI h,au];intro z;have r1:(b.ah.map (λp:BP=>p.nm))[k]?=some x.nm:=by rw[bO,ek];rfl
    have r2:(b.ah.map (λp:BP=>p.nm))[j]?=some p.nm:=by rw[bO,hp];rfl
    exact c ((FU (by rw[aE];exact hj) nd).mp (r2.trans (by rw[e,z];exact r1.symm)))
 .unfold dm;rw[bO,hp];show some (dJ rs p.nm)=_;rw[e,uQ h]
theorem LD:∀{l:List Int}{j:Nat}{x:Int},l[j]?=some 0->(l.set j x).sum=l.sum+x
 | [],_,_,h=>by simp at h
 | a::l,0,x,h=>by
  have:a=0:=by simpa using h
  rw[Kh,cQ,cQ];omega
 | a::l,j+1,x,h=>by rw[Kg,cQ,cQ,LD (by simpa using h)];omega
structure uR(b:BS)(rs:List Row):Prop where
 nd:(rs.map (λr:Row=>r.1)).Nodup
 row:∀r∈rs,1<=r.2/\∃(j:Nat)(p:BP),b.ah[j]?=some p/\p.nm=r.1/\r.2<=p.wo
theorem Ic(nd:(b.ah.map (λp:BP=>p.nm)).Nodup)(h:uR b rs):∀i≤rs.length,(dm b (rs.take i)).sum=bJ (rs.take i):=by
 intro i
 induction i with
 | zero=>
  intro _;rw[List.take_zero];unfold dm;show(b.ah.map λp=>(0:Int)).sum=0;clear nd h;generalize b.ah=ps
  induction ps with
  | nil=>rfl
  | cons p ps ih=>rw[bN,cQ,ih];rfl
 | succ i ih=>
  intro hi;have ei:=bq (show i<rs.length by omega);rw[take_snoc ei];obtain⟨_,j,p,hp,e,_⟩:=h.row _ (bw ei);have hn:(rs[i]).1∉(rs.take i).map (λr:Row=>r.1):=by rw[Bw];exact kF h.nd (by rw[bO,ei];rfl)
  obtain⟨s1,s2⟩:=EB nd hp e hn;rw[s1,LD s2,ih (by omega)];unfold bJ;rw[bP,DK];simp
abbrev Q4:=Str×Str×Int×Int
def gY(st:HS):List Q4:=st.ah.map λp=>(p.nm,p.ow,p.wo,p.we)
def mC(b:BS):List Q4:=b.ah.map λp=>(p.nm,p.ow,p.wo,p.we)
def oG(qs:List Q4)(r:Row):List Q4:=(qs.map λq=>if q.1=r.1 then(q.1,q.2.1,q.2.2.1-r.2,q.2.2.2) else q).filter λq=>decide (q.2.2.1≠0)
def nZ(rs:List Row)(qs:List Q4):List Q4:=(qs.map λq=>(q.1,q.2.1,q.2.2.1-dJ rs q.1,q.2.2.2)).filter λq=>decide (0<q.2.2.1)
theorem Ie(st:HS)(r:Row):gY (eF st r)=oG (gY st) r:=by
 unfold gY eF jV oG;generalize st.ah=ps;show List.map _ (List.filter _ (List.map _ ps))=_
 induction ps with
 | nil=>rfl
 | cons p ps ih=>
  rw[bN,bN,bN];by_cases c:p.nm=r.1
  .rw [av c,av (show(p.nm,p.ow,p.wo,p.we).1=r.1 from c),gQ,gQ];by_cases d:p.wo-r.2=0
   .rw [au (by simpa using d),au (by simpa using d),ih]
   .rw [av (by simpa using d),av (by simpa using d),bN,ih]
  .rw [au c,au (show ¬ (p.nm,p.ow,p.wo,p.we).1=r.1 from c),gQ,gQ];by_cases d:p.wo=0
   .rw [au (by simpa using d),au (by simpa using d),ih]
   .rw [av (by simpa using d),av (by simpa using d),bN,ih]
theorem EC(st:HS)(kept whole:Int)(added:List Int):gY (bF st kept whole added)=gY st:=by unfold gY bF;rw[kN,d7];rfl
theorem ED:∀(rs:List Row)(st:HS),gY (rs.foldl eF st)=rs.foldl oG (gY st)
 | [],_=>rfl
 | r::rs,st=>by rw[lY,lY,ED rs,Ie]
theorem EE:∀(qs:List Q4)(r:Row)(rs:List Row),r.1∉rs.map (λr:Row=>r.1)->(∀q∈qs,1<=q.2.2.1)->(∀q∈qs,q.1=r.1->r.2<=q.2.2.1)->nZ rs (oG qs r)=nZ (r::rs) qs
 | [],_,_,_,_,_=>rfl
 | q::qs,r,rs,hn,h1,h2=>by
  have ih:=EE qs r rs hn (λx hx=>h1 x (cW _ hx)) (λx hx=>h2 x (cW _ hx));have w1:=h1 q cT;have e1:oG (q::qs) r=(if q.1=r.1 then(if q.2.2.1-r.2=0 then[] else[(q.1,q.2.1,q.2.2.1-r.2,q.2.2.2)]) else[q])++oG qs r:=by
   unfold oG;rw[bN,gQ];by_cases c:q.1=r.1
   .rw [av c,av c];by_cases d:q.2.2.1-r.2=0
    .rw [av d,au (by simpa using d)];rfl
    .rw [au d,av (by simpa using d)];rfl
   .rw [au c,au c,av (bh (show q.2.2.1≠0 by omega))];rfl
  have e2:∀(us:List Row)(x:Q4)(l:List Q4),nZ us (x::l)=(if 0<x.2.2.1-dJ us x.1 then[(x.1,x.2.1,x.2.2.1-dJ us x.1,x.2.2.2)] else[])++nZ us l:=λus x l=>by
   unfold nZ;rw[bN,gQ];by_cases c:0<x.2.2.1-dJ us x.1
   .rw [av c,av (bh c)];rfl
   .rw [au c,au (by simpa using c)];rfl
  rw[e1,e2 (r::rs),nH];by_cases c:q.1=r.1
  .have am:dJ rs q.1=0:=by rw[c];exact uQ hn
   have le:=h2 q cT c;rw[av c,av c.symm];by_cases d:q.2.2.1-r.2=0
   .rw [av d,au (by omega),<-ih];rfl
   .rw [au d,av (by omega),<-ih,JP,JQ,e2 rs];show(if 0<q.2.2.1-r.2-dJ rs q.1 then[(q.1,q.2.1,q.2.2.1-r.2-dJ rs q.1,q.2.2.2)] else[])++_=_;rw[am,DR,av (by omega)]
  .rw [au c,show(if r.1=q.1 then r.2 else dJ rs q.1)=dJ rs q.1 from au (λz=>c z.symm),<-ih,JP,JQ,e2 rs]
theorem Ig{qs:List Q4}{r:Row}{x:Q4}(h:x∈oG qs r):x.2.2.1≠0/\∃q∈qs,x=if q.1=r.1 then(q.1,q.2.1,q.2.2.1-r.2,q.2.2.2) else q:=by obtain⟨h1,h2⟩:=iG.mp h;obtain⟨q,hq,e⟩:=a_.mp h1;exact⟨dY h2,q,hq,e.symm⟩
theorem Ih:∀(rs:List Row)(qs:List Q4),(rs.map (λr:Row=>r.1)).Nodup->(∀q∈qs,1<=q.2.2.1)->(∀r∈rs,∀q∈qs,q.1=r.1->r.2<=q.2.2.1)->rs.foldl oG qs=nZ rs qs
 | [],qs,_,h1,_=>by
  show qs=nZ [] qs;unfold nZ
  induction qs with
  | nil=>rfl
  | cons q qs ih=>have:=h1 q cT;rw[bN,gQ,av (bh (show 0<q.2.2.1-dJ [] q.1 by rw[Ib];omega)),<-ih (λx hx=>h1 x (cW _ hx)) (λr hr=>absurd hr (by simp)),Ib,DR]
 | r::rs,qs,nd,h1,h2=>by
  obtain⟨n1,n2⟩:=gK.mp (show(r.1::rs.map (λr:Row=>r.1)).Nodup from nd);rw[lY,Ih rs (oG qs r) n2 ?_ ?_]
  .exact EE qs r rs n1 h1 (h2 r cT)
  .intro x hx;obtain⟨a,q,hq,e⟩:=Ig hx;have:=h1 q hq;by_cases c:q.1=r.1
   .rw [av c]at e;have:=h2 r cT q hq c;rw[e]at a ⊢;have a:q.2.2.1-r.2≠0:=a;show 1<=q.2.2.1-r.2;omega
   .rw [au c]at e;rw[e];exact this
  .intro y hy x hx ex;obtain⟨_,q,hq,e⟩:=Ig hx;by_cases c:q.1=r.1
   .rw [av c]at e;rw[e]at ex;exact absurd (a_.mpr ⟨y,hy,ex.symm.trans c⟩) n1
   .rw [au c]at e;rw[e]at ex ⊢;exact h2 y (cW _ hy) q hq ex
theorem TJ(b:BS)(rs:List Row)(seat:Nat)(aw:Int):mC (ja b (dm b rs) seat aw)=nZ rs (mC b):=by
 unfold mC ja c_ nZ;show List.map _ (List.filter _ (List.zipWith (mV (gX b (dm b rs) seat aw) (bQ b-aw-(dm b rs).sum)) b.ah (dm b rs)))=_;generalize gX b (dm b rs) seat aw=g;generalize bQ b-aw-(dm b rs).sum=k;unfold dm;generalize b.ah=ps
 induction ps with
 | nil=>rfl
 | cons p ps ih=>
  rw[bN,tS,bN,bN,gQ,gQ];by_cases c:0<p.wo-dJ rs p.nm
  .rw [av (bh (show 0<(mV g k p (dJ rs p.nm)).wo from c)),av (bh (show 0<p.wo-dJ rs p.nm from c)),bN,ih];rfl
  .rw [au (by simpa using(show ¬ 0<(mV g k p (dJ rs p.nm)).wo from c)),au (by simpa using c),ih]
structure jH(st:HS)(b:BS):Prop where
 own:st.own=b.own
 qd:gY st=mC b
theorem VY(st:HS)(rs:List Row):(i_ st rs).own=st.own:=by
 unfold i_;have:∀(rs:List Row)(s:HS),(rs.foldl eF s).own=s.own:=λrs=>by
  induction rs with
  | nil=>intro s;rfl
  | cons r rs ih=>intro s;rw[lY,ih];rfl
 rw[this];unfold bF;rw[AA]
theorem TL(r:jH st b)(wf:Wf st)(c:nY st rs):jH (i_ st rs) (ja b (dm b rs) 0 0):=by
 refine⟨by rw[VY,r.own];rfl,?_⟩;rw[TJ,<-r.qd];unfold i_;rw[ED,EC];refine Ih rs (gY st) c.nd (λq hq=>?_) (λx hx q hq e=>?_)
 .obtain ⟨p,hp,rfl⟩:=a_.mp hq;exact(wf.ki p hp).1
 .obtain ⟨p,hp,rfl⟩:=a_.mp hq;obtain⟨_,_,p',eL,e',le⟩:=c.row x hx;have:p=p':=nG wf hp eL (e.trans e'.symm);rw[this];exact le
theorem TM(r:jH st b)(x o:Str)(wo we:Int):jH (wR st x o wo we) (yT b x o wo we):=by refine⟨r.own,?_⟩;unfold gY mC wR yN yT;show List.map _ (st.ah++[_])=List.map _ (b.ah++[_]);rw[bP,bP,show st.ah.map (λp=>(p.nm,p.ow,p.wo,p.we))=b.ah.map (λp=>(p.nm,p.ow,p.wo,p.we))from r.qd];rfl
theorem jH.whole(r:jH st b):aH st=bQ b:=by unfold aH bQ;have:=gR (List.map λq:Q4=>q.2.2.1) r.qd;unfold gY mC at this;rw[d7,d7]at this;exact gR List.sum this
theorem jH.len(r:jH st b):st.ah.length=b.ah.length:=by have:=gR List.length r.qd;unfold gY mC at this;rw[aE,aE]at this;exact this
theorem jH.at(r:jH st b){q:BP}(h:b.ah[i]?=some q):∃p,st.ah[i]?=some p/\p.nm=q.nm/\p.ow=q.ow/\p.wo=q.wo/\p.we=q.we:=by have e:=gR (λl:List Q4=>l[i]?) r.qd;unfold gY mC at e;have e:(st.ah.map λp=>(p.nm,p.ow,p.wo,p.we))[i]?=(b.ah.map λp=>(p.nm,p.ow,p.wo,p.we))[i]?:=e;rw[bO,bO,h]at e;obtain⟨p,ep,e2⟩:=lQ.mp e;have e2:(p.nm,p.ow,p.wo,p.we)=(q.nm,q.ow,q.wo,q.we):=e2;simp only[Prod.mk.injEq]at e2;exact⟨p,ep,e2⟩
theorem jH.at'(r:jH st b)(h:st.ah[i]?=some p):∃q,b.ah[i]?=some q/\p.nm=q.nm/\p.ow=q.ow/\p.wo=q.wo/\p.we=q.we:=by
 have hi:i<b.ah.length:=by rw[<-r.len];exact(di.mp h).1
 have eq:=bq hi;obtain⟨p',e',z⟩:=r.at eq;rw[h]at e';cases e';exact⟨_,eq,z⟩
theorem jH.rows(r:jH st b)(h:aZ n ρ B H b):tK K H (B.qs.map λq=>V.ref q.1) st.ah:=by
 refine⟨by rw[aE,h.ql,r.len],λi p e=>?_⟩;obtain⟨q,eq,e1,e2,e3,e4⟩:=r.at' e;obtain⟨a,ea,k1,_⟩:=h.find eq;refine⟨a.1,_,by rw[bO,ea];rfl,.inl (aB.of k1),?_,?_,?_,?_⟩
 .rw [e1];rfl
 .rw [e2];rfl
 .rw [e3];rfl
 .rw [e4];rfl
theorem Ii{B:Int}(hB:0<=B):∀{ps:List BP}{as:List Int},(∀p∈ps,∀t∈p.tops,0<=t/\t<=B)->(∀a∈as,0<=a)->∀i,0<=iD ps as i/\iD ps as i<=B*as.sum
 | [],as,_,ha,i=>by
  have:0<=as.sum:=by
   cases as with
   | nil=>exact ff _
   | cons a l=>exact DS (ha a cT) (wY ha cT)
  exact⟨by show(0:Int)<=0;omega,lZ hB this⟩
 | _::_,[],_,_,i=>by show 0<=(0:Int)/\(0:Int)<=B*0;omega
 | p::ps,a::as,h,ha,i=>by
  have ih:=Ii hB (ps:=ps) (as:=as) (λx hx=>h x (cW _ hx)) (λx hx=>ha x (cW _ hx)) i;have a0:=ha a cT;have ht:0<=p.tops.getD i 0/\p.tops.getD i 0<=B:=by
   rw[fH];cases e:p.tops[i]? with
   | none=>exact⟨ff _,hB⟩
   | some t=>exact h p cT t (bw e)
  have e:iD (p::ps) (a::as) i=p.tops.getD i 0*a+iD ps as i:=by unfold iD;rw[tS,cQ]
  have k1:0<=p.tops.getD i 0*a:=lZ ht.1 a0;have k2:p.tops.getD i 0*a<=B*a:=RW ht.2 a0;rw[e,cQ,l_];omega
theorem TN(wf:wW b){aw:Int}(ok:lE b as seat aw):∀g∈gX b as seat aw,0<=g/\g<=b.bot*(as.sum+aw):=by
 have b1:=wf.b1;have cb:=Ii (B:=b.bot) (by omega) wf.t0 ok.a0;have EA:=ok.EA;have m0:0<=b.bot*aw:=lZ (by omega) EA;have hg:∀g∈gu b as,0<=g/\g<=b.bot*as.sum:=λg h=>by obtain⟨i,_,rfl⟩:=a_.mp h;exact cb i
 intro g h;rw[l_];unfold gX at h;split at h
 .rcases J6 h with z|z
  .have:=hg g z;omega
  .have hs:seat<(gu b as).length:=by rw[kW];exact ok.seat
   have e:(gu b as).getD seat 0=(gu b as)[seat] :=by rw[fH,bq hs];rfl
   have:=hg _ (Br hs);rw[z,e,l7 aw];omega
 .have:=hg g h;omega
theorem VZ(wf:wW b){aw:Int}(ok:lE b as seat aw)(hz:Jm.Sz 7000 (b.bot*bQ b)):wW (ja b as seat aw):=by
 have b1:=wf.b1;have gb:=TN wf ok;have kp:=ok.kept;have as0:0<=as.sum:=by
  cases has:as with
  | nil=>exact ff _
  | cons a l=>exact DS (ok.a0 a (by rw[has];exact cT)) (by rw[<-has];exact wY ok.a0 (by rw[has];exact cT))
 have EA:=ok.EA;have C6:∀p∈(c_ b as seat aw).filter (λp=>decide (0<p.wo)),0<p.wo/\∃p0∈b.ah,∃a,p=mV (gX b as seat aw) (bQ b-aw-as.sum) p0 a:=λp hp=>by obtain⟨h1,h2⟩:=iG.mp hp;obtain⟨i,x,a,ex,_,e⟩:=jf (show p∈List.zipWith (mV (gX b as seat aw) (bQ b-aw-as.sum)) b.ah as from h1);exact⟨dY h2,x,bw ex,a,e⟩
 have nmE:(c_ b as seat aw).map (λp:BP=>p.nm)=b.ah.map (λp:BP=>p.nm):=by have:=TF (seat:=seat) (aw:=aw) ok.len b.ah.length;rw[DJ,sf,show(c_ b as seat aw).take b.ah.length=c_ b as seat aw from by rw[<-wX ok.len];exact cJ]at this;exact this
 refine⟨?_,λp hp=>?_,λp hp t ht=>?_,?_,hz,λp hp=>?_,wf.ol,?_,wf.kl⟩
 .have:(((c_ b as seat aw).filter λp=>decide (0<p.wo)).map (λp:BP=>p.nm)).Sublist ((c_ b as seat aw).map (λp:BP=>p.nm)):=Ke.map _;rw[nmE]at this;exact wf.nd.sublist this
 .obtain ⟨_,p0,h0,a,rfl⟩:=C6 p hp;show(List.zipWith _ p0.tops (gX b as seat aw)).length=b.own.length;rw[kq,wf.tl p0 h0,vC];omega
 .obtain ⟨_,p0,h0,a,rfl⟩:=C6 p hp;obtain⟨i,x,g,ex,eg,rfl⟩:=jf (show t∈List.zipWith (λt g=>t*(bQ b-aw-as.sum)+g) p0.tops (gX b as seat aw)from ht);have hx:=wf.t0 p0 h0 x (bw ex);have hg:=gb g (bw eg);have k1:0<=x*(bQ b-aw-as.sum):=lZ hx.1 (by omega);have k2:x*(bQ b-aw-as.sum)<=b.bot*(bQ b-aw-as.sum):=RW hx.2 (by omega);have k3:b.bot*(bQ b-aw-as.sum)+b.bot*(as.sum+aw)=b.bot*bQ b:=by rw[<-l_];congr 1;omega
  exact⟨by omega,by show _<=b.bot*bQ b;omega⟩
 .show 1<=b.bot*bQ b;have:b.bot*1<=b.bot*bQ b:=Hr (by omega) (by omega);omega
 .exact (C6 p hp).1
 .have:=FH (λp:BP=>decide (0<p.wo)) (c_ b as seat aw);rw[wX ok.len]at this;exact fD this wf.pl
theorem PK(wf:wW b)(h:uR b rs)(hl:bJ rs<bQ b)(ho:0<b.own.length)(hz:Jm.Sz 60 (bQ b)):lE b (dm b rs) 0 0:=by have hs:=Ic wf.nd h rs.length (aQ _);rw[cJ]at hs;refine⟨AF b rs,λa ha=>?_,ho,ff _,by rw[hs];omega,hz⟩;obtain⟨p,_,rfl⟩:=a_.mp ha;exact VX (λr hr=>(h.row r hr).1) p.nm
inductive aba(K:Fg)(vs:List V)(H:Hp)(Q:VK)(E:XK):Prop
 |mk(n ρ B b:_)(l:Addr)(us:List V)(rs:List Row)(_:vs=[.ref B.m,.ref l])(_:Gh ρ H)(_:aZ n ρ B H b)(_:wW b)(_:aB K H l us)(_:f7 H us rs)(_:ρ l=none)(_:uR b rs)(_:rs.length<=1000)(_:lE b (dm b rs:_) 0 0)(_:∀ρ' B' H',Gh ρ' H'->aZ n ρ' B' H' (ja b (dm b rs:_) 0 0)->B'.m=B.m->Fr n ρ H ρ' H'->Q .cy H')
def PL(K:Fg):Sp:=bx (aba K)
theorem YE(wf:wW b){o:Str}(h1:x∉b.ah.map (λp:BP=>p.nm))(h2:1<=wo)(h3:b.ah.length<1000)(h4:b.ef.length<1000):wW (yT b x o wo we):=by
 have P:∀{M:BP->Prop},(∀p∈b.ah,M p)->M ⟨x,o,wo,we,(List.replicate b.own.length 0).set (b.own.idxOf o) b.bot⟩->∀p∈(yT b x o wo we).ah,M p:=λa c p hp=>by
  rcases dD.mp (show p∈b.ah++[_]from hp)with z|z
  .exact a p z
  .rw [dj.mp z];exact c
 have b1:=wf.b1;refine⟨?_,P wf.tl (by show((List.replicate b.own.length (0:Int)).set _ _).length=_;rw[eZ,i8];rfl),P wf.t0 (λt ht=>?_),wf.b1,wf.bz,P wf.w1 h2,wf.ol,?_,?_⟩
 .show ((b.ah++[_]).map (λp:BP=>p.nm)).Nodup;rw[bP];exact nC wf.nd h1
 .rcases yO ht with z|z
  .rw [z];show 0<=0/\0<=b.bot;omega
  .rw [z];show 0<=b.bot/\b.bot<=b.bot;omega
 .show (b.ah++[_]).length<=1000;rw[cZ];show b.ah.length+1<=1000;omega
 .show (b.ef++[_]).length<=1000;rw[cZ];show b.ef.length+1<=1000;omega
theorem pW:∀(rs:List Row)(s:HS),rs.foldl eF s={ s with ah:=(rs.foldl eF s).ah }
 | [],_=>rfl
 | r::rs,s=>by rw[lY,pW rs (eF s r)];rfl
def C7(st:HS)(b:BS):Prop:=∀p∈st.ah,∀q∈b.ah,p.nm=q.nm->∀j,q.tops.getD j 0*st.prod=(aV st p).getD j 0*b.bot
theorem pA{f:Int->Int->Int}(hf:f 0 0=0){xs ys:List Int}(h:xs.length=ys.length)(j:Nat):(List.zipWith f xs ys).getD j 0=f (xs.getD j 0) (ys.getD j 0):=by
 rw[fH,fH,fH,QC];by_cases c:j<xs.length
 .rw [bq c,bq (by omega)];rfl
 .rw [q_ (by omega),q_ (by omega)];exact hf.symm
def vD(rs:List Row)(f:Str->Int):Int:=(rs.map λr=>r.2*f r.1).sum
theorem LF{st:HS}:∀(rs:List Row)(acc:List Int),(∀r∈rs,(aV st (cI st r.1)).length=acc.length)->∀j,(uO st acc rs).getD j 0=acc.getD j 0+vD rs λx=>(aV st (cI st x)).getD j 0
 | [],acc,_,j=>by show acc.getD j 0=_+0;omega
 | r::rs,acc,h,j=>by
  have hr:=h r cT;have e:(List.zipWith (λx t=>x+r.2*t) acc (aV st (cI st r.1))).length=acc.length:=by rw[kq,hr];omega
  show(uO st (List.zipWith (λx t=>x+r.2*t) acc (aV st (cI st r.1))) rs).getD j 0=_;rw[LF rs _ (λx hx=>by rw[e];exact h x (cW _ hx)),pA (f:=λx t=>x+r.2*t) (by show(0:Int)+r.2*0=0;omega) hr.symm];unfold vD;rw[bN,cQ];show acc.getD j 0+r.2*(aV st (cI st r.1)).getD j 0+(rs.map λr=>r.2*(aV st (cI st r.1)).getD j 0).sum=acc.getD j 0+(r.2*(aV st (cI st r.1)).getD j 0+(rs.map λr=>r.2*(aV st (cI st r.1)).getD j 0).sum)
  omega
theorem Rn(nd:(b.ah.map (λp:BP=>p.nm)).Nodup)(h:uR b rs)(f:Str->Int):∀i≤rs.length,(b.ah.map λp=>f p.nm*dJ (rs.take i) p.nm).sum=vD (rs.take i) f:=by
 intro i
 induction i with
 | zero=>
  intro _;rw[List.take_zero];show(b.ah.map λp=>f p.nm*0).sum=0;clear nd h;generalize b.ah=ps
  induction ps with
  | nil=>rfl
  | cons p ps ih=>rw[bN,cQ,ih];omega
 | succ i ih=>
  intro hi;have ei:=bq (show i<rs.length by omega);obtain⟨_,j,p,hp,e,_⟩:=h.row _ (bw ei);have hn:(rs[i]).1∉(rs.take i).map (λr:Row=>r.1):=by rw[Bw];exact kF h.nd (by rw[bO,ei];rfl)
  rw[take_snoc ei];generalize rs[i]=r at *;replace ih:=ih (by omega);generalize rs.take i=us at *;have:vD (us++[r]) f=vD us f+r.2*f r.1:=by unfold vD;rw[bP,DK];simp
  rw[this,<-ih];clear this ih hi ei;have hm:=bw hp;clear hp;generalize b.ah=ps at *;clear h
  induction ps with
  | nil=>simp at hm
  | cons x ps ihp=>
   obtain⟨n1,n2⟩:=gK.mp (show(x.nm::ps.map (λp:BP=>p.nm)).Nodup from nd);rw[bN,bN,cQ,cQ];rcases dS.mp hm with z|z
   .subst z;have rest:(ps.map λp=>f p.nm*dJ (us++[r]) p.nm)=ps.map λp=>f p.nm*dJ us p.nm:=tT λy hy=>by rw[nI hn,au (λz=>n1 (a_.mpr ⟨y,hy,z.symm.trans e.symm⟩))]
    rw[rest,nI hn,av e.symm,e,uQ hn,Int.mul_zero,l7 r.2];omega
   .have ne:x.nm≠r.1:=λz'=>n1 (a_.mpr ⟨p,z,e.trans z'.symm⟩);rw[ihp n2 z,nI hn,au (λz=>ne z.symm)];omega
theorem LG:∀(rs:List Row){s:HS}{p':Pt},p'∈(rs.foldl eF s).ah->∃p∈s.ah,p'.nm=p.nm/\p'.row=p.row/\p'.sc=p.sc
 | [],_,p',h=>⟨p',h,Z,Z,Z⟩
 | r::rs,s,p',h=>by obtain⟨p,hp,e1,e2,e3⟩:=LG rs (s:=eF s r) h;obtain⟨_,q,hq,e⟩:=rH hp;refine⟨q,hq,?_⟩;rw[e1,e2,e3,e];split <;> exact⟨Z,Z,Z⟩
theorem YF{ps:List BP}(j:Nat):iD ps (ps.map λp=>dJ rs p.nm) j=(ps.map λp=>p.tops.getD j 0*dJ rs p.nm).sum:=by
 unfold iD
 induction ps with
 | nil=>rfl
 | cons p ps ih=>rw[bN,tS,cQ,bN,cQ,ih]
theorem Ij(k:Int){α:Type}(l:List α)(f g:α->Int)(h:∀x∈l,f x*k=g x):(l.map f).sum*k=(l.map g).sum:=by
 induction l with
 | nil=>show(0:Int)*k=0;omega
 | cons x l ih=>rw[bN,bN,cQ,cQ,p_,ih λy hy=>h y (cW _ hy),h x cT]
theorem AG{st st':HS}{kept whole:Int}{added:List Int}(wf:Wf st)(bl:pV st kept whole lost added)(ec:st'.bU=(bF st kept whole added).bU)(ep:st'.prod=(bF st kept whole added).prod){p':Pt}(hp:p∈st.ah)(e2:p'.row=p.row)(e3:p'.sc=p.sc*kept / cL st kept whole added){t0 gB B:Int}{j:Nat}(tj:t0*st.prod=(aV st p).getD j 0*B)(eB:gB*st.prod=added.getD j 0*B):(t0*kept+gB)*st'.prod=(aV st' p').getD j 0*(B*whole):=by
 obtain⟨hd,hdw,hds,hdc⟩:=bl.dvds
 have agE:st'.bU=(gr st kept added).map (· / cL st kept whole added):=by rw[ec];unfold bF;rw[HV]
 have s1:1<=whole / cL st kept whole added:=by
  have w1:0<whole:=by have:=bl.l;have:=bl.w;have:=bl.k;omega
  have:=Int.le_of_dvd w1 hdw;exact Int.le_ediv_of_mul_le hd (by omega)
 have W6:st'.prod=st.prod*(whole / cL st kept whole added):=by rw[ep];unfold bF;rw[yR s1]
 have hds:=hds p hp
 have hrl:=wf.rows p hp
 have hcl:=wf.gc
 have gl:=bl.len
 have ewd:cL st kept whole added*(whole / cL st kept whole added)=whole:=Int.mul_ediv_cancel' hdw
 have a5:cL st kept whole added*p'.sc=p.sc*kept:=by rw[e3];exact Int.mul_ediv_cancel' hds
 rw[W6]
 clear ec ep W6 e3 bl hdw hds s1
 generalize cL st kept whole added=d at *
 have etop:d*(aV st' p').getD j 0=(aV st p).getD j 0*kept+added.getD j 0:=by
  have a1:(aV st' p').getD j 0=p'.sc*p.row.getD j 0+((gr st kept added).map (· / d)).getD j 0:=by unfold aV;rw[agE,e2,pA (f:=λr c=>p'.sc*r+c) (by show p'.sc*0+0=0;omega)];rw[aE];unfold gr;rw[kq,gl,hrl,hcl];omega
  have a2:(aV st p).getD j 0=p.sc*p.row.getD j 0+st.bU.getD j 0:=by unfold aV;exact pA (f:=λr c=>p.sc*r+c) (by show p.sc*0+0=0;omega) (by rw[hrl,hcl]) j
  have a3:(gr st kept added).getD j 0=st.bU.getD j 0*kept+added.getD j 0:=by unfold gr;exact pA (f:=λt m=>t*kept+m) (by show(0:Int)*_+0=0;omega) gl.symm j
  have a4:d*((gr st kept added).map (· / d)).getD j 0=(gr st kept added).getD j 0:=by
   rw[fH,fH,bO];cases ec:(gr st kept added)[j]? with
   | none=>show _*0=(0:Int);omega
   | some x=>exact Int.mul_ediv_cancel' (hdc x (bw ec))
  rw[a1,l_,<-jC,a5,a4,a3,a2]
  grind
 generalize whole / d=TQ at *
 generalize (aV st' p').getD j 0=T' at *
 generalize (aV st p).getD j 0=T at *
 generalize added.getD j 0=gS at *
 refine Int.eq_of_mul_eq_mul_left (a:=d) (by omega) ?_
 have l1:d*((t0*kept+gB)*(st.prod*TQ))=(t0*st.prod*kept+gB*st.prod)*(d*TQ):=by grind
 have l2:d*(T'*(B*whole))=(d*T')*(B*whole):=by grind
 rw[l1,l2,ewd,tj,eB,etop]
 grind
theorem TR(t:C7 st b)(rl:jH st b)(wf:Wf st)(wb:wW b)(c:nY st rs)(rb:uR b rs)(bo:lE b (dm b rs) 0 0):C7 (i_ st rs) (ja b (dm b rs) 0 0):=by
 intro p' eL q' hq' en j;have bl:=c.blend wf;have ew:=rl.whole;have vE:∀r∈rs,∃p∈st.ah,p.nm=r.1:=λr hr=>by obtain⟨p,hp,e,_⟩:=(c.row r hr).2.2;exact⟨p,hp,e⟩
 have eG:=AD wf vE;have gl:(gH st rs).length=st.bU.length:=bl.len;obtain⟨p1,hp1,e1,e2,e3⟩:=LG rs (s:=bF st (aH st-bJ rs) (aH st) (gH st rs)) eL;have eK:=pW rs (bF st (aH st-bJ rs) (aH st) (gH st rs));have agF:p1∈st.ah.map (λp:Pt=>{ p with sc:=p.sc*(aH st-bJ rs) / cL st (aH st-bJ rs) (aH st) (gH st rs) }):=by have h:=hp1;unfold bF at h;rw[kN]at h;exact h
 obtain⟨p,hp,rfl⟩:=a_.mp agF;have e1:p'.nm=p.nm:=e1;have e2:p'.row=p.row:=e2;have e3:p'.sc=p.sc*(aH st-bJ rs) / cL st (aH st-bJ rs) (aH st) (gH st rs):=e3;have hcl:=wf.gc;obtain⟨h1,_⟩:=iG.mp (show q'∈(c_ b (dm b rs) 0 0).filter _ from hq');obtain⟨k,q,a,eq,_,qx⟩:=jf (show q'∈List.zipWith (mV (gX b (dm b rs) 0 0) (bQ b-0-(dm b rs).sum)) b.ah (dm b rs)from h1);have hq:=bw eq;have enq:p.nm=q.nm:=by rw[<-e1,en,qx];rfl
 have tj:=t p hp q hq enq j;have hs:=Ic wb.nd rb rs.length (aQ _);rw[cJ]at hs;have eqt:q'.tops.getD j 0=q.tops.getD j 0*(bQ b-bJ rs)+(gu b (dm b rs)).getD j 0:=by rw[qx];show(List.zipWith _ q.tops (gX b (dm b rs) 0 0)).getD j 0=_;rw[pA (f:=λt g=>t*(bQ b-0-(dm b rs).sum)+g) (by show(0:Int)*_+0=0;omega) (by rw[wb.tl q hq,vC]),hs,DR];rfl
 have eGj:(gH st rs).getD j 0=vD rs λx=>(aV st (cI st x)).getD j 0:=by
  rw[eG,LF rs _ (λr hr=>by obtain⟨x,hx,e⟩:=vE r hr;rw[dN wf hx e,i8,rG wf hx])]
  have:(List.replicate st.bU.length (0:Int)).getD j 0=0:=by rw[fH,Qz];split <;> rfl
  omega
 have eBj:(gu b (dm b rs)).getD j 0*st.prod=(gH st rs).getD j 0*b.bot:=by
  have pr:=Rn wb.nd rb (λx=>(aV st (cI st x)).getD j 0) rs.length (aQ _);rw[cJ]at pr;rw[eGj,<-pr];by_cases cj:j<b.own.length
  .have e:(gu b (dm b rs)).getD j 0=(b.ah.map λp=>p.tops.getD j 0*dJ rs p.nm).sum:=by unfold gu;rw[fH,bO,List.getElem?_range cj];exact YF j
   rw[e,Ij st.prod b.ah (λp=>p.tops.getD j 0*dJ rs p.nm) (λp=>((aV st (cI st p.nm)).getD j 0*dJ rs p.nm)*b.bot) (λx hx=>?_)]
   .exact (Ij b.bot b.ah (λp=>(aV st (cI st p.nm)).getD j 0*dJ rs p.nm) _ λx _=>rfl).symm
   .obtain ⟨i,hi,ei⟩:=oV hx;obtain⟨y,hy,ey,_⟩:=rl.at (i:=i) (q:=x) (by rw[bq hi,ei])
    have hy:=bw hy;have:=t y hy x hx ey j;rw[dN wf hy ey,Int.mul_right_comm,this,Int.mul_right_comm]
  .have z1:(gu b (dm b rs)).getD j 0=0:=by rw[fH,q_ (by rw[kW];omega)];rfl
   have z2:(gH st rs).getD j 0=0:=by rw[fH,q_ (by rw[gl,hcl,rl.own];omega)];rfl
   rw[z1,pr,<-eGj,z2];omega
 rw[eqt,<-ew];show _=(aV (i_ st rs) p').getD j 0*(b.bot*bQ b);rw[<-ew];exact AG wf bl (by unfold i_;rw[eK]) (by unfold i_;rw[eK]) hp e2 e3 tj eBj
theorem TU(t:C7 st b)(rl:jH st b)(wf:Wf st)(wb:wW b){o:Str}(h1:x∉b.ah.map (λp:BP=>p.nm)):C7 (wR st x o wo we) (yT b x o wo we):=by
 intro p hp q hq en j;have nmE:∀y∈st.ah,y.nm∈b.ah.map (λp:BP=>p.nm):=λy hy=>by obtain⟨i,hi,ei⟩:=oV hy;obtain⟨z,hz,ez,_⟩:=rl.at' (i:=i) (p:=y) (by rw[bq hi,ei]);rw[ez];exact a_.mpr ⟨z,bw hz,Z⟩
 show q.tops.getD j 0*st.prod=(aV st p).getD j 0*b.bot;rcases dD.mp (show p∈st.ah++[_]from hp)with zp|zp
 .rcases dD.mp (show q∈b.ah++[_]from hq)with zq|zq
  .exact t p zp q zq en j
  .rw [dj.mp zq]at en;have en:p.nm=x:=en;exact absurd (by rw[<-en];exact nmE p zp) h1
 .rcases dD.mp (show q∈b.ah++[_]from hq)with zq|zq
  .rw [dj.mp zp]at en;have en:x=q.nm:=en;exact absurd (by rw[en];exact a_.mpr ⟨q,zq,Z⟩) h1
  .rw [dj.mp zp,dj.mp zq];have e1:aV st ⟨x,o,wo,we,1,lS st ((List.replicate st.own.length 0).set (st.own.idxOf o) st.prod)⟩=(List.replicate st.own.length 0).set (st.own.idxOf o) st.prod:=by show List.zipWith (λr c=>1*r+c) (List.zipWith (λt c=>t-c) ((List.replicate st.own.length 0).set (st.own.idxOf o) st.prod) st.bU) st.bU=_;rw[C0,wf.gc];exact Ka (by rw[eZ,i8];exact aQ _)
   rw[e1,rl.own];show((List.replicate b.own.length 0).set (b.own.idxOf o) b.bot).getD j 0*st.prod=((List.replicate b.own.length 0).set (b.own.idxOf o) st.prod).getD j 0*b.bot;have key:∀v:Int,((List.replicate b.own.length 0).set (b.own.idxOf o) v).getD j 0=if b.own.idxOf o=j/\j<b.own.length then v else 0:=λv=>by
    rw[fH,QK];by_cases c:b.own.idxOf o=j
    .rw [av c];by_cases d:b.own.idxOf o<(List.replicate b.own.length (0:Int)).length
     .rw [av d,av ⟨c,by rw[i8]at d;omega⟩];rfl
     .rw [au d,au (λz=>d (by rw[i8];omega))];rfl
    .rw [au c,au (λz=>c z.1),Qz];split <;> rfl
   rw[key,key];split
   .exact l7 _ _
   .omega
theorem EF{st:HS}{b:BS}(t:C7 st b)(rl:jH st b)(wf:Wf st)(wb:wW b){p:Pt}{q:BP}(hp:p∈st.ah)(hq:q∈b.ah)(e:p.nm=q.nm):mS st p=c8 b.own q.tops b.bot:=by
 have p1:=wf.gC;have b1:=wb.b1;have l1:(aV st p).length=b.own.length:=by rw[rG wf hp,wf.gc,rl.own]
 have l2:q.tops.length=b.own.length:=wb.tl q hq;have tj:=t p hp q hq e;unfold mS c8;rw[rl.own];generalize aV st p=xs at *;generalize q.tops=ys at *;generalize b.own=own at *;have step:∀(own:List Str)(xs ys:List Int),xs.length=own.length->ys.length=own.length->(∀j,ys.getD j 0*st.prod=xs.getD j 0*b.bot)->(List.zip own xs).filterMap (λx=>if 0<x.2 then some (x.1,Jm.fr x.2 st.prod) else none)=(List.zip own ys).filterMap λx=>if 0<x.2 then some (x.1,Jm.fr x.2 b.bot) else none:=by
  intro own
  induction own with
  | nil=>intro xs ys _ _ _;simp
  | cons o own ih=>
   intro xs ys h1 h2 h3;cases xs with
   | nil=>simp at h1
   | cons x xs=>
    cases ys with
    | nil=>simp at h2
    | cons y ys=>
     have h0:y*st.prod=x*b.bot:=by simpa using h3 0
     have ih:=ih xs ys (by simpa using h1) (by simpa using h2) (λj=>by simpa using h3 (j+1));rw[List.zip_cons_cons,List.zip_cons_cons,z8,z8,ih];by_cases c:0<x
     .have c2:0<y:=by
       rcases DQ 0 y with z|z
       .exact z
       .have k1:y*st.prod<=0:=Int.mul_nonpos_of_nonpos_of_nonneg z (by omega);have k2:0<x*b.bot:=Int.mul_pos c (by omega);omega
      simp only[av c,av c2];rw[Jm.WR (t:=x) (b:=st.prod) (t':=y) (b':=b.bot) (by omega) (by omega) h0.symm]
     .have c2:¬ 0<y:=λz=>by have k1:0<y*st.prod:=Int.mul_pos z (by omega);have k2:x*b.bot<=0:=Int.mul_nonpos_of_nonpos_of_nonneg (by omega) (by omega);omega
      simp only[au c,au c2]
 exact step own xs ys l1 l2 tj
theorem CF{α:Type}(f g:α->Int):∀l:List α,(l.map λx=>f x+g x).sum=(l.map f).sum+(l.map g).sum
 | []=>rfl
 | a::l=>by rw[bN,bN,bN,cQ,cQ,cQ,CF f g l];omega
theorem xE{α:Type}(f:α->Int)(k:Int):∀l:List α,(l.map λx=>f x*k).sum=(l.map f).sum*k
 | []=>by simp
 | a::l=>by rw[bN,bN,cQ,cQ,xE f k l,p_]
theorem NS:∀(l:List Int)(n:Nat),l.length=n->(List.range n).map (λi=>l.getD i 0)=l:=λl n h=>by
 refine List.ext_getElem? λi=>?_;rw[bO];by_cases hi:i<n
 .rw [List.getElem?_range hi,bq (by omega)];show some (l.getD i 0)=_;rw[fH,bq (by omega)];rfl
 .rw [q_ (by rw[FT];omega),q_ (by omega)];rfl
theorem Ik{B:Int}{n:Nat}:∀(ps:List BP)(as:List Int),(∀p∈ps,p.tops.length=n/\p.tops.sum=B)->as.length=ps.length->((List.range n).map (iD ps as)).sum=B*as.sum
 | [],[],_,_=>by
  have:(List.range n).map (iD [] [])=(List.range n).map λ_=>(0:Int)*0:=by congr 1
  rw[this,xE];simp
 | [],_::_,_,h=>by simp at h
 | _::_,[],_,h=>by simp at h
 | p::ps,a::as,hp,hl=>by
  have e:(List.range n).map (iD (p::ps) (a::as))=(List.range n).map λi=>p.tops.getD i 0*a+iD ps as i:=by congr 1
  obtain⟨h1,h2⟩:=hp p cT;have ih:=Ik ps as (λx hx=>hp x (cW _ hx)) (by simpa using hl);rw[e,CF,xE,NS _ _ h1,ih,h2,cQ,l_]
theorem sO:∀{l:List Int}{i:Nat}{x:Int},i<l.length->(l.set i (l.getD i 0+x)).sum=l.sum+x
 | a::l,0,x,_=>by rw[Kh,cQ,cQ];show a+x+_=_;omega
 | a::l,i+1,x,h=>by rw[Kg,cQ,cQ];have:=sO (l:=l) (i:=i) (x:=x) (by simpa using h);have e:(a::l).getD (i+1) 0=l.getD i 0:=rfl;rw[e,this];omega
 | [],_,_,h=>by simp at h
theorem Gp(k:Int):∀{ts gs:List Int},ts.length=gs.length->(List.zipWith (λt g=>t*k+g) ts gs).sum=ts.sum*k+gs.sum
 | [],[],_=>by simp
 | t::ts,g::gs,h=>by have:=Gp k (ts:=ts) (gs:=gs) (by simpa using h);rw[tS,cQ,cQ,cQ,this,p_];omega
 | [],_::_,h=>by simp at h
 | _::_,[],h=>by simp at h
theorem V0(wf:wW b){aw:Int}(ok:lE b as seat aw)(hs:∀p∈b.ah,p.tops.sum=b.bot):∀p∈(ja b as seat aw).ah,p.tops.sum=(ja b as seat aw).bot:=λp hp=>by
 obtain⟨h1,_⟩:=iG.mp (show p∈(c_ b as seat aw).filter _ from hp);obtain⟨i,x,a,ex,ea,rfl⟩:=jf (show p∈List.zipWith (mV (gX b as seat aw) (bQ b-aw-as.sum)) b.ah as from h1);have hx:=bw ex;show(List.zipWith (λt g=>t*(bQ b-aw-as.sum)+g) x.tops (gX b as seat aw)).sum=b.bot*bQ b;rw[Gp _ (by rw[wf.tl x hx,vC]),hs x hx];have eg:(gu b as).sum=b.bot*as.sum:=Ik b.ah as (λp hp=>⟨wf.tl p hp,hs p hp⟩) ok.len;have e2:(gX b as seat aw).sum=b.bot*(as.sum+aw):=by
  unfold gX;by_cases h:0<aw
  .rw [av h,sO (by rw[kW];exact ok.seat),eg,l_,l7 aw]
  .have:aw=0:=by have:=ok.EA;omega
   rw[au h,eg,this,Int.add_zero]
 rw[e2,<-l_];congr 1;omega
inductive pB(own:List Str):List jd->List BE->Prop
 | nil:pB own [] []
 | cons {a:jd} {e:BE} {as:List jd} {es:List BE}:a.nm=e.nm->a.ow=e.ow->a.wo=e.wo->a.sh=c8 own e.tops e.bot->e.tops.length<=own.length->0<e.bot->Jm.Sz 9000 e.bot->PyData.strOk e.nm=true->PyData.strOk e.ow=true->pB own as es->pB own (a::as) (e::es)
theorem pB.snoc{as:List jd}{es:List BE}(h:pB own as es){a:jd}{e:BE}(h1:a.nm=e.nm)(h2:a.ow=e.ow)(h3:a.wo=e.wo)(h4:a.sh=c8 own e.tops e.bot)(h5:e.tops.length<=own.length)(h6:0<e.bot)(h7:Jm.Sz 9000 e.bot)(h8:PyData.strOk e.nm=true)(h9:PyData.strOk e.ow=true):pB own (as++[a]) (es++[e]):=by
 induction h with
 | nil=>exact .cons h1 h2 h3 h4 h5 h6 h7 h8 h9 .nil
 | cons a1 a2 a3 a4 a5 a6 a7 a8 a9 _ ih=>exact .cons a1 a2 a3 a4 a5 a6 a7 a8 a9 ih
theorem YG{o:Str}:∀{tops:List Int},tops.length<=own.length->List.zip (own++[o]) tops=List.zip own tops:=by
 induction own with
 | nil=>intro tops h;cases tops with
   | nil=>rfl
   | cons t ts=>exact absurd h (by simp)
 | cons x own ih=>intro tops h;cases tops with
   | nil=>rfl
   | cons t ts=>exact gR _ (ih (by simpa using h))
theorem pB.sign{as:List jd}{es:List BE}(h:pB own as es)(o:Str):pB (own++[o]) as es:=by
 induction h with
 | nil=>exact .nil
 | cons a1 a2 a3 a4 a5 a6 a7 a8 a9 _ ih=>exact .cons a1 a2 a3 (by rw[a4];unfold c8;rw[YG a5]) (by rw[cZ];omega) a6 a7 a8 a9 ih
structure fj(c:Nat)(st:HS)(b:BS):Prop where
 fJ:wW b
 rel:jH st b
 pC:C7 st b
 b_:∀u∈st.b_,Jm.Sz (60*c+60) u
 stp:st.stp.length<=c
 prod:Jm.Sz (60*c+1) st.prod
 bot:Jm.Sz (60*c+1) b.bot
 wo:∀p∈b.ah,p.wo<=1000000000*((c:Int)+1)
 we:∀p∈b.ah,p.we<=1000000000
 pl:b.ah.length<=50+c
 kl:b.ef.length<=900+c
 own:0<b.own.length
 nm:∀p∈b.ah,PyData.strOk p.nm=true/\PyData.strOk p.ow=true
 c6:pB b.own st.c6 b.c6
 ef:st.nms=b.ef
 nk:∀x∈b.ef,isNm x=true
 on:∀o∈b.own,isNm o=true
 sum:∀p∈b.ah,p.tops.sum=b.bot
variable {c:Nat}
theorem fj.mono(g:fj c st b):fj (c+1) st b:=⟨g.fJ,g.rel,g.pC,λu hu=>(g.b_ u hu).mono (by omega),by have:=g.stp;omega,g.prod.mono (by omega),g.bot.mono (by omega),λp hp=>by have:=g.wo p hp;omega,g.we,by have:=g.pl;omega,by have:=g.kl;omega,g.own,g.nm,g.c6,g.ef,g.nk,g.on,g.sum⟩
theorem fj.nms(g:fj c st b):aa2 st.ah:=λp hp=>by obtain⟨i,hi,e⟩:=oV hp;obtain⟨q,eq,e1,e2,_⟩:=g.rel.at' (i:=i) (p:=p) (by rw[bq hi,e]);rw[e1,e2];exact g.nm q (bw eq)
theorem CG:∀{ps:List BP}{m:Int},(∀p∈ps,1<=p.wo/\p.wo<=m)->0<=(ps.map λp=>p.wo).sum/\(ps.map λp=>p.wo).sum<=m*(ps.length:Int)
 | [],m,_=>by show 0<=(0:Int)/\(0:Int)<=m*0;omega
 | p::ps,m,h=>by have h0:=h p cT;have ih:=CG (ps:=ps) (m:=m) λx hx=>h x (cW _ hx);rw[bN,cQ,iF,show(((ps.length+1:Nat)):Int)=(ps.length:Int)+1 from by omega,l_,BB];omega
theorem fj.whole(g:fj c st b)(hc:c<=100):0<=bQ b/\Jm.Sz 60 (bQ b):=by
 have h:=CG (ps:=b.ah) (m:=101000000000) λp hp=>⟨g.fJ.w1 p hp,by have:=g.wo p hp;omega⟩
 refine⟨h.1,?_⟩;have hl:=g.pl;have h2:(101000000000:Int)*(b.ah.length:Int)<=15150000000000:=by omega
 have h3:bQ b<=15150000000000:=DS h.2 h2;have h1:0<=bQ b:=h.1;have:Jm.Sz 60 (15150000000000:Int):=jR (by decide +kernel);exact this.of_le (by omega)
variable {st':HS}
theorem PM{aw kept:Int}(g:fj c st b)(bl:pV st kept (aH st) lost added)(bo:lE b as seat aw)(hc:c<=90)(eC:st'={ bF st kept (aH st) added with ah:=st'.ah })(rw':jH st' (ja b as seat aw))(rt:C7 st' (ja b as seat aw)):fj (c+1) st' (ja b as seat aw):=by
 have zw:=g.whole (by omega);have ew:=g.rel.whole;obtain⟨hs,hsw,_,_⟩:=bl.dvds;have w1:0<aH st:=by have:=bl.k;have:=bl.l;have:=bl.w;omega
 have s1:1<=aH st / cL st kept (aH st) added:=by have:=Int.le_of_dvd w1 hsw;exact Int.le_ediv_of_mul_le hs (by omega)
 have s2:aH st / cL st kept (aH st) added<=aH st:=DI _ (by omega);have zs:Jm.Sz 60 (aH st / cL st kept (aH st) added):=by have:=zw.2;rw[<-ew]at this;exact this.of_le (by omega)
 have C6:∀p∈(ja b as seat aw).ah,∃p0∈b.ah,∃a,a∈as/\p=mV (gX b as seat aw) (bQ b-aw-as.sum) p0 a:=λp hp=>by obtain⟨h1,_⟩:=iG.mp (show p∈(c_ b as seat aw).filter _ from hp);obtain⟨i,x,a,ex,ea,e⟩:=jf (show p∈List.zipWith (mV (gX b as seat aw) (bQ b-aw-as.sum)) b.ah as from h1);exact⟨x,bw ex,a,bw ea,e⟩
 have zb:Jm.Sz (60*(c+1)+1) (b.bot*bQ b):=(g.bot.mul zw.2).mono (by omega);refine⟨VZ g.fJ bo (zb.mono (by omega)),rw',rt,λu hu=>?_,?_,?_,zb,λp hp=>?_,(λp hp=>by obtain⟨p0,h0,a,_,rfl⟩:=C6 p hp;exact g.we p0 h0),?_,(by show b.ef.length<=_;have:=g.kl;omega),g.own,λp hp=>?_,?_,?_,g.nk,g.on,V0 g.fJ bo g.sum⟩
 .rw [eC]at hu;have hu:u∈(bF st kept (aH st) added).b_:=hu;unfold bF at hu;rw[HW]at hu;obtain⟨x,hx,rfl⟩:=a_.mp hu;exact((g.b_ x hx).mul zs).mono (by omega)
 .rw [eC];show(bF st kept (aH st) added).stp.length<=c+1;unfold bF fK;split
  .show (st.stp++[_]).length<=c+1;rw[cZ];have:=g.stp;show st.stp.length+1<=c+1;omega
  .show st.stp.length<=c+1;have:=g.stp;omega
 .rw [eC];show Jm.Sz _ (bF st kept (aH st) added).prod;unfold bF;rw[yR s1];exact(g.prod.mul zs).mono (by omega)
 .obtain ⟨p0,h0,a,ha,rfl⟩:=C6 p hp;have:=g.wo p0 h0;have:=bo.a0 a ha;show p0.wo-a<=1000000000*(((c+1:Nat):Int)+1);omega
 .have:=FH (λp:BP=>decide (0<p.wo)) (c_ b as seat aw);rw[wX bo.len]at this;have:=g.pl;show(List.filter _ _).length<=_;omega
 .obtain ⟨p0,h0,a,_,rfl⟩:=C6 p hp;exact g.nm p0 h0
 .rw [eC];show pB b.own (bF st kept (aH st) added).c6 b.c6;unfold bF;rw[HX];exact g.c6
 .rw [eC];show(bF st kept (aH st) added).nms=b.ef;unfold bF;rw[wU];exact g.ef
theorem YH(g:fj c st b)(wf:Wf st)(ok:nY st rs)(rb:uR b rs)(bo:lE b (dm b rs) 0 0)(hc:c<=90):fj (c+1) (i_ st rs) (ja b (dm b rs) 0 0):=PM g (ok.blend wf) bo hc (pW rs (bF st (aH st-bJ rs) (aH st) (gH st rs))) (TL g.rel wf ok) (TR g.pC g.rel wf g.fJ ok rb bo)
theorem YI(st:HS)(rs:List Row):(i_ st rs).kn<=st.kn:=by
 unfold i_;rw[pW];show(bF st (aH st-bJ rs) (aH st) (gH st rs)).kn<=st.kn;unfold bF fK;split
 .exact gh _
 .exact aQ _
theorem uY(h:isNm x=true):PyData.strOk x=true:=by
 unfold PyData.strOk;rw[Array.all_eq_true'];intro c hc;unfold isNm isName at h;have h1:=p6.mp (mP.mp h).2 c (by simpa using hc);rw[Yl]at h1;have hm:=dY h1;have:∀c∈("abcdefghijklmnopqrstuvwxyz":Str).cps.toList,c<1000:=by decide +kernel
 have:=this c hm;exact bh (by omega)
theorem rJ(n:Nat):(List.replicate n (0:Int)).sum=0:=by
 induction n with
 | zero=>rfl
 | succ n ih=>rw[ym,cQ,ih];rfl
theorem YJ(g:fj c st b)(wf:Wf st){o:Str}(h1:x∉b.ah.map (λp:BP=>p.nm))(h2:1<=wo)(h2':wo<=1000000000)(h3:b.ah.length<50)(h4:b.ef.length<900)(hx:isNm x=true)(ho:o∈b.own)(h5:we<=1000000000):fj c (wR st x o wo we) (yT b x o wo we):=by
 have P:∀{M:BP->Prop},(∀p∈b.ah,M p)->M ⟨x,o,wo,we,(List.replicate b.own.length 0).set (b.own.idxOf o) b.bot⟩->∀p∈(yT b x o wo we).ah,M p:=λa c p hp=>by
  rcases dD.mp (show p∈b.ah++[_]from hp)with z|z
  .exact a p z
  .rw [dj.mp z];exact c
 refine⟨YE g.fJ h1 h2 (by omega) (by omega),TM g.rel x o wo we,TU g.pC g.rel wf g.fJ h1,g.b_,g.stp,g.prod,g.bot,P g.wo (by show wo<=_;omega),P g.we h5,by show(b.ah++[_]).length<=50+c;rw[cZ];show b.ah.length+1<=50+c;omega,by show(b.ef++[_]).length<=900+c;rw[cZ];show b.ef.length+1<=900+c;omega,g.own,P g.nm ⟨uY hx,uY (g.on o ho)⟩,g.c6,?_,?_,g.on,P g.sum ?_⟩
 .show st.nms++[x]=b.ef++[x];rw[g.ef]
 .intro y hy;rcases dD.mp (show y∈b.ef++[x]from hy)with z|z
  .exact g.nk y z
  .rw [dj.mp z];exact hx
 .show ((List.replicate b.own.length 0).set (b.own.idxOf o) b.bot).sum=b.bot;have hi:b.own.idxOf o<(List.replicate b.own.length (0:Int)).length:=by rw[i8];exact J8.mpr ho
  have:=sO (x:=b.bot) hi;rw[show(List.replicate b.own.length (0:Int)).getD (b.own.idxOf o) 0=0 from by rw[fH,bq hi,List.getElem_replicate];rfl,wJ,rJ,wJ]at this;exact this
theorem uS:∀(l:List Str)(st:HS),st.ah=[]->(∀u∈st.b_,u=0)->(l.foldl fF st).ah=[]/\(l.foldl fF st).nms=st.nms/\(l.foldl fF st).stp=st.stp/\(l.foldl fF st).prod=st.prod/\(l.foldl fF st).c6=st.c6/\∀u∈(l.foldl fF st).b_,u=0
 | [],_,h,hp=>⟨h,Z,Z,Z,Z,hp⟩
 | o::l,st,h,hp=>by
  rw[lY];exact uS l (fF st o) (by show st.ah.map _=[];rw[h];rfl) (λu hu=>by
   rcases dD.mp (show u∈st.b_++[0]from hu)with z|z
   .exact hp u z
   .exact dj.mp z)
theorem gd0(h0:0<own.length)(h1:own.length<=100)(hon:∀o∈own,isNm o=true):fj 0 (own.foldl fF hs0) ⟨own,[],1,[],[]⟩/\(own.foldl fF hs0).nms=[] :=by obtain⟨k1,k2,k3,k4,k5,k6⟩:=uS own hs0 rfl (λu hu=>absurd hu (by simp[hs0]));refine⟨⟨⟨wI,λp hp=>absurd hp (by simp),λp hp=>absurd hp (by simp),ff _,(by show Jm.Sz 7000 1;exact jR (by decide +kernel)),λp hp=>absurd hp (by simp),h1,gh _,gh _⟩,⟨by rw[tL];rfl,by unfold gY mC;rw[k1];rfl⟩,(λp hp=>by rw[k1]at hp;exact absurd hp (by simp)),(λu hu=>by rw[k6 u hu];exact jR (by decide +kernel)),by rw[k3];exact aQ _,(by rw[k4];show Jm.Sz (60*0+1) 1;exact jR (by decide +kernel)),(by show Jm.Sz (60*0+1) 1;exact jR (by decide +kernel)),λp hp=>absurd hp (by simp),λp hp=>absurd hp (by simp),gh _,gh _,h0,λp hp=>absurd hp (by simp),(by rw[k5];exact .nil),k2,(λx hx=>nomatch hx),hon,λp hp=>absurd hp (by simp)⟩,k2⟩
def CH(K:Fg)(ρ:fE)(H:Hp)(z:Addr)(xs:List V):Prop:=∀(ρ':fE)(H':Hp),aM (out ρ H) (out ρ' H')->aB K H' z xs
theorem CH.of(h:aB K H z xs):CH K (λ_=>none) H z xs:=λρ' H' s=>by
 rcases h with(h|⟨o,h⟩)|h
 .exact .inl (.inl (yJ (s _ _ (En h rfl))).1)
 .exact .inl (.inr ⟨o,(yJ (s _ _ (En h rfl))).1⟩)
 .exact .inr h
theorem CH.go(h:CH K ρ H z xs)(s:aM (out ρ H) (out ρ' H')):CH K ρ' H' z xs:=λ_ _ s'=>h _ _ (s.trans s')
theorem HH.other(h:HH T n ρ A H st)(f:Fr m ρ H ρ' H')(g:Gh ρ' H')(e:n≠m):HH T n ρ' A H' st:=⟨g,h.h.other f h.g e,h.wf⟩
theorem W7(g:fj c st b)(k:Nat):fj c { st with kn:=k } b:=⟨g.fJ,⟨g.rel.own,g.rel.qd⟩,g.pC,g.b_,g.stp,g.prod,g.bot,g.wo,g.we,g.pl,g.kl,g.own,g.nm,g.c6,g.ef,g.nk,g.on,g.sum⟩
theorem LH:∀(l:List Str)(st:HS),(l.foldl fF st).kn=st.kn
 | [],_=>rfl
 | o::l,st=>by rw[lY,LH l];rfl
theorem V1(ps:List Str)(hk:∀r∈ps,PyData.strOk r=true):PyData.canLayAll0 (ps.map PyData.str)=true:=by
 induction ps with
 | nil=>rfl
 | cons q r ih=>rw[bN];unfold PyData.canLayAll0;rw[ih λp hp=>hk p (cW _ hp),Bool.and_true];unfold PyData.canLay0;exact hk q cT
theorem Ro(ps:List Str):PyData.depthAll (ps.map PyData.str)<=1:=by
 induction ps with
 | nil=>exact gh _
 | cons q r ih=>rw[bN];unfold PyData.depthAll;have:PyData.depth (.str q)<=1:=Nat.le_of_ble_eq_true rfl;omega
theorem CI(ps:List Str)(hk:∀r∈ps,PyData.strOk r=true):SeqAt.shaped (.list (ps.map PyData.str))=true:=by unfold SeqAt.shaped PyData.canLay0 PyData.depth;rw[V1 ps hk];have:=Ro ps;simp only[Bool.true_and,decide_eq_true_eq];omega
theorem V2(ps:List Str):PyData.eqv (.list (ps.map PyData.str)) (.list (ps.map PyData.str))=true:=by
 unfold PyData.eqv
 induction ps with
 | nil=>rfl
 | cons q r ih=>rw[bN];unfold PyData.eqvAll;rw[ih,Bool.and_true];exact Yk q
theorem Gq{K:Fg}{H:Hp}:∀(l:List Str),Ah K H (l.map V.str) (l.map PyData.str)
 | []=> .nil
 | x::l=> .cons (.str x) (Gq l)
inductive abd(d:Nat)(T:TC)(K:Fg)(vs:List V)(H:Hp)(Q:VK)(E:XK):Prop
 |mk(n m ρ A B st b:_)(c:Nat)(_:vs=[.ref A.a,.ref B.m])(_:n≠m)(_:HH T n ρ A H st)(_:aZ m ρ B H b)(_:fj c st b)(_:c<=100)(_:(∀o∈b.own,PyData.strOk o=true))(_:st.kn+15000*d<=1000000)(_:∀ρ' A' H' k,HH T n ρ' A' H' { st with kn:=k }->k<=st.kn+15000*d->aZ m ρ' B H' b->A'.a=A.a->aM (out ρ H:_) (out ρ' H':_)->Q (.bl true) H')
def uZ(d:Nat)(T:TC)(K:Fg):Sp:=bx (abd d T K)
structure dw(K:Fg)(x:Str)(st:Stmt):Prop where
 ex:∃(f:Addr)(oc:Value)(od an:Option Addr)(sl:Array (Option Value))(kV dc pm cd ct:Value),PySem.W.nsIn K mainGlobals x=some (some (.ref f))/\K.lookup f=some ⟨oc,od,.func (PySem.W.fnOf x x (gi st) (dQ st) (aD st) .none kV dc pm an cd ct),sl⟩/\PySem.W.codeIn K cd x=true/\PySem.W.keepIn K (.ref f)=true
theorem dw.at{st:Stmt}(d:dw K x st)(X:K.In h)(G:h.Ns mainGlobals mg):∃f fd,At K mg x st f fd:=by obtain⟨f,oc,od,an,sl,kV,dc,pm,cd,ct,a,l,c,k⟩:=d.ex;exact⟨f,_,WQ X G a l c k⟩
structure dM(K:Fg)(C:Addr)(n qual:Str)(st:Stmt):Prop where
 ex:∃(f:Addr)(oc:Value)(od an:Option Addr)(sl:Array (Option Value))(kV dc pm cd ct:Value),PySem.W.findIn K (.ref C) n=some (some (.ref f))/\PySem.W.isFn K (.ref f)=true/\K.lookup f=some ⟨oc,od,.func (PySem.W.fnOf n qual (gi st) (dQ st) (aD st) .none kV dc pm an cd ct),sl⟩/\PySem.W.codeIn K cd qual=true/\PySem.W.keepIn K (.ref f)=true
theorem dM.at{n:Str}{st:Stmt}(d:dM K C n qual st)(cl:qe K C):∃f fd,jq K C n qual st f fd:=by obtain⟨f,oc,od,an,sl,kV,dc,pm,cd,ct,a,i,l,c,k⟩:=d.ex;exact⟨f,_,KU l c k,⟨a,i,k⟩,cl⟩
theorem dM.made{st:Stmt}(d:dM K C "__init__" qual st)(X:K.In h)(G:h.Ns mainGlobals mg)(a0:PySem.W.nsIn K mainGlobals x=some (some (.ref C)))(m:PySem.W.makesIn K C=true)(kc:PySem.W.keepIn K (.ref C)=true):∃f fd,HM K mg x C qual st f fd:=by obtain⟨f,oc,od,an,sl,kV,dc,pm,cd,ct,a,i,l,c,k⟩:=d.ex;exact⟨f,_,KU l c k,⟨m,a,i,kc⟩,PySem.W.mg_of X G a0⟩
variable {oc pm ct:Value}{od an:Option Addr}{sl:Array (Option Value)}
theorem dw.of{st:Stmt}{kV dc cd:Value}(a:PySem.W.nsIn K mainGlobals x=some (some (.ref f)))(l:K.lookup f=some ⟨oc,od,.func (PySem.W.fnOf x x (gi st) (dQ st) (aD st) .none kV dc pm an cd ct),sl⟩)(c:PySem.W.codeIn K cd x=true)(k:PySem.W.keepIn K (.ref f)=true):dw K x st:=⟨⟨_,_,_,_,_,_,_,_,_,_,a,l,c,k⟩⟩
theorem dM.of{n:Str}{st:Stmt}{kV dc cd:Value}(a:PySem.W.findIn K (.ref C) n=some (some (.ref f)))(i:PySem.W.isFn K (.ref f)=true)(l:K.lookup f=some ⟨oc,od,.func (PySem.W.fnOf n qual (gi st) (dQ st) (aD st) .none kV dc pm an cd ct),sl⟩)(c:PySem.W.codeIn K cd qual=true)(k:PySem.W.keepIn K (.ref f)=true):dM K C n qual st:=⟨⟨_,_,_,_,_,_,_,_,_,_,a,i,l,c,k⟩⟩
section
variable {X:Cx}
variable {o i:Expr}{pos:Pos}{td ty:TE}
end
section
variable {a b:List Nat}{m v:Int}(ha:qi a)(hb:qi b)(hm:1<=m)(hm2:m<=1000000000)(hv:0<=v)(hv2:v<=1000000000)
include ha hb hm hm2 hv hv2 in
end
section
variable {X:Cx}
end
section
variable {X:Cx}
end
section
variable {P:Program}{w:World}{K:Fg}{mg:SO}{base:Heap}{N:List Str}{qual:Str}{scope:Scope}{f:Addr}{cd:Value}{A:Around}{outer:List Env}{s0:Shared}{H0:Hp}{E:XK}{CX:Ad}
end
section
variable {P:Program}{w:World}{K:Fg}{mg:SO}{base:Heap}{N:List Str}{qual:Str}{scope:Scope}{f:Addr}{cd:Value}{A:Around}{outer:List Env}{s0:Shared}{H0:Hp}{E:XK}
end
section
variable {X:Cx}{pins:AO}{σ:St}{Hc H:Hp}{sc s:Shared}{x C:Addr}{fl:Value}
end
section
variable {X:Cx}{pins:AO}{σ:St}{Hc H:Hp}{sc s:Shared}{x C:Addr}{fl:Value}
end
section
variable {X:Cx}{pins:AO}{σ:St}{Hc H:Hp}{sc s:Shared}{x C:Addr}{fl:Value}
end
open PySem.W PySem.Calls Builtin.ObjectAttr Builtin.Getset_descriptor
section
variable {prog:Program}{w:World}{A:Around}{E:VS}{h:Heap}{g:Array GenState}{d:Drawn}{t:Nat}{os:OsState}{x C:Addr}{o:Obj}{K:Frag}{R:Result->Shared->Prop}
end
section
variable {X:Cx}
end
structure Ec where
 (bad twice adF abe adG abf agG rows agH adH ajs:Addr)
section
end
section
variable {P:Program}{w:World}{K:Fg}{mg:SO}{base:Heap}{N:List Str}{qual:Str}{scope:Scope}{f:Addr}{cd:Value}{A:Around}{outer:List Env}{s0:Shared}{H0:Hp}{E:XK}
end
section
variable {X:Cx}
end
def Ec.at(e:Ec):Nat->Addr
 | 0=>e.bad|1=>e.twice|2=>e.adF|3=>e.abe|4=>e.adG|5=>e.abf|6=>e.agG|7=>e.rows|8=>e.agH|_=>e.adH
def Rf(e:Ec)(E:XK)(H:Hp)(i:Nat):Prop:=∀x H',aM H H'->E (.ref x) (some (e.at i)) H'
structure Il(T:TC)(e:Ec)(n:Nat)(ρ:fE)(A:HA)(H:Hp)(r:Option Nat)(st':HS)(Q:VK)(E:XK):Prop where
 no:∀i,r=some i->Rf e E H i
 ok:r=none->wQ T n ρ A H st' λH'=>Q .cy H'
def newR(st:HS)(x:Str):Option Nat:=if isNm x=true then(if x∈st.nms then some 1 else none) else some 0
def yW(st:HS)(o:Str):Option Nat:=if isNm o=true then(if o∈st.own then some 1 else none) else some 0
def EG(st:HS)(x o:Str)(wo we:Int):Option Nat:=match newR st x with
 | some i=>some i
 | none=>if o∈st.own then(if wo<1\/we<0 then some 5 else none) else some 2
inductive YK(T:TC)(e:Ec)(vs:List V)(H:Hp)(Q:VK)(E:XK):Prop
 |mk(n ρ A st o:_)(_:vs=[.ref A.a,.str o])(_:aW T n ρ A H st)(_:(o∉st.own->Rf e E H 2))(_:(o∈st.own->Q (.int (st.own.idxOf o:Int)) H))
def yX(T:TC)(e:Ec):Sp:=bx (YK T e)
inductive V3(T:TC)(e:Ec)(vs:List V)(H:Hp)(Q:VK)(E:XK):Prop
 |mk(n ρ A st x:_)(_:vs=[.ref A.a,.str x])(_:aW T n ρ A H st)(_:(st.ah.map (·.nm)).Nodup)(_:((∀p∈st.ah,p.nm≠x)->Rf e E H 3))(_:∀(i:Nat) (p:Pt) (q:Addr×Addr×Addr),p.nm=x->st.ah[i]?=some p->A.qs[i]?=some q->Q (.ref q.1) H)
def mW(T:TC)(e:Ec):Sp:=bx (V3 T e)
inductive Rp(T:TC)(e:Ec)(vs:List V)(H:Hp)(Q:VK)(E:XK):Prop
 |mk(n ρ A st x:_)(_:vs=[.ref A.a,.str x])(_:aW T n ρ A H st)(_:x.cps.toList.length<=100000)(_:(∀i,newR st x=some i->Rf e E H i))(_:(newR st x=none->∀H',aM H H'->Q .cy H'))
def xF(T:TC)(e:Ec):Sp:=bx (Rp T e)
theorem AH(h1:isNm x=true)(h2:x∉st.nms):newR st x=none:=by unfold newR;rw[av h1,au h2]
theorem Rq{o:Str}(h1:isNm x=true)(h2:x∉st.nms)(h3:o∈st.own)(h4:1<=wo)(h5:0<=we):EG st x o wo we=none:=by unfold EG;rw[AH h1 h2];show(if o∈st.own then _ else _)=_;rw[av h3,au (by omega)]
theorem Il.of{e:Ec}{r:Option Nat}(h:r=none)(q:wQ T n ρ A H st' λH'=>Q .cy H'):Il T e n ρ A H r st' Q E0:=⟨(λi z=>by rw[h]at z;cases z),λ_=>q⟩
inductive Dd where
 | sign (o:Str)|load (x o:Str) (wo we:Int)|cast (rs:List Row)|award (o:Str) (a:Int)|mishap (x:Str) (a:Int)|rise (x:Str) (a:Int)|hand (x o:Str)|land (x:Str)|sever (x y:Str) (a we:Int)|still
def jX:List Row->List V
 | []=>[]
 | r::rs=> .str r.1 :: .int r.2::jX rs
def Dd.v:Dd->List V
 | .sign o=>[.str "sign",.str o]
 | .load x o wo we=>[.str "load",.str x,.str o,.int wo,.int we]
 | .cast rs=> .str "cast"::jX rs
 | .award o a=>[.str "award",.str o,.int a]
 | .mishap x a=>[.str "mishap",.str x,.int a]
 | .rise x a=>[.str "rise",.str x,.int a]
 | .hand x o=>[.str "hand",.str x,.str o]
 | .land x=>[.str "land",.str x]
 | .sever x y a we=>[.str "sever",.str x,.str y,.int a,.int we]
 | .still=>[.str "still"]
def fM(st:HS):List Str:=st.ah.map λp=>p.nm
def lT(st:HS)(r:Row):Option Nat:=if r.1∈fM st then(if r.2<1 then some 5 else if(cI st r.1).wo<r.2 then some 6 else none) else some 3
def wZ(st:HS)(rs:List Row):Option Nat:=if rs≠[]/\(rs.map λr:Row=>r.1).Nodup then(match rs.findSome? (lT st)with
 | some i=>some i
 | none=>if aH st<=bJ rs then some 6 else none) else some 7
def mX(st:HS)(o:Str)(a:Int):Option Nat:=if o∈st.own then(if a<1 then some 5 else if aH st<=a then some 6 else none) else some 2
def sP(st:HS)(x:Str)(a:Int):Option Nat:=if x∈fM st then(if a<1 then some 5 else none) else some 3
def oH(st:HS)(x o:Str):Option Nat:=if x∈fM st then(if o∈st.own then none else some 2) else some 3
def uT(st:HS)(x:Str):Option Nat:=if x∈fM st then none else some 3
def kG(st:HS)(x y:Str)(a we:Int):Option Nat:=if x∈fM st then(match newR st y with
 | some i=>some i
 | none=>if a<1\/we<0 then some 5 else if(cI st x).wo<=a\/(cI st x).we<we then some 6 else none) else some 3
def AI(st:HS):Dd->Option Nat
 | .sign o=>yW st o
 | .load x o wo we=>EG st x o wo we
 | .cast rs=>wZ st rs
 | .award o a=>mX st o a
 | .mishap x a=>lT st (x,a)
 | .rise x a=>sP st x a
 | .hand x o=>oH st x o
 | .land x=>uT st x
 | .sever x y a we=>kG st x y a we
 | .still=>none
def AJ(st:HS)(o:Str)(a:Int):HS:=bF st (aH st-a) (aH st) ((List.replicate st.own.length 0).set (st.own.idxOf o) (a*st.prod))
def n_(st:HS)(x:Str)(f:Pt->Pt):HS:={ st with ah:=st.ah.map λp=>if p.nm=x then f p else p }
def EH(st:HS)(x:Str)(a:Int):HS:=n_ st x λp=>{ p with wo:=p.wo+a }
def nJ(st:HS)(p:Pt)(o:Str):List Int:=((aV st p).set (st.own.idxOf o) ((aV st p).getD (st.own.idxOf o) 0+(aV st p).getD (st.own.idxOf p.ow) 0)).set (st.own.idxOf p.ow) 0
def mD(st:HS)(x o:Str):HS:=if st.own.idxOf o=st.own.idxOf (cI st x).ow then st else n_ st x λp=>{ p with ow:=o,sc:=1,row:=lS st (nJ st p o) }
def jF(st:HS)(p:Pt):List Int:=List.zipWith (λu t=>u+p.wo*t) st.b_ (aV st p)
def yY(st:HS)(x:Str):HS:={ st with ah:=st.ah.filter (λp=>decide (p.nm≠x)),c6:=st.c6++[⟨x,(cI st x).ow,(cI st x).wo,mS st (cI st x)⟩],kn:=st.kn+100,b_:=(jF st (cI st x)).set (st.own.idxOf (cI st x).ow) ((jF st (cI st x)).getD (st.own.idxOf (cI st x).ow) 0-(cI st x).wo*st.prod) }
def qy(st:HS)(x y:Str)(a we:Int):HS:=yN (n_ st x λp=>{ p with wo:=p.wo-a,we:=p.we-we }) ⟨y,(cI st x).ow,a,we,(cI st x).sc,(cI st x).row⟩
def w6(st:HS):Dd->HS
 | .sign o=>fF st o
 | .load x o wo we=>wR st x o wo we
 | .cast rs=>i_ st rs
 | .award o a=>AJ st o a
 | .mishap x a=>eF st (x,a)
 | .rise x a=>EH st x a
 | .hand x o=>mD st x o
 | .land x=>yY st x
 | .sever x y a we=>qy st x y a we
 | .still=>st
def wl(s:Str):Nat:=s.cps.toList.length
section
variable {X:Cx}
end
section
variable {P:Program}{w:World}{K:Fg}{mg:SO}{base:Heap}{k:Nat}{T:TC}{e:Ec}{ps:List Str}
end
def nB(i:Int):Prop:=-1000000000<=i/\i<=1000000000
def PN:Dd->Prop
 | .sign o=>wl o<=20
 | .load x o wo we=>wl x<=20/\wl o<=20/\nB wo/\nB we
 | .cast rs=>rs.length<=60/\∀r∈rs,wl r.1<=20/\nB r.2
 | .award o a=>wl o<=20/\nB a
 | .mishap x a=>wl x<=20/\nB a
 | .rise x a=>wl x<=20/\nB a
 | .hand x o=>wl x<=20/\wl o<=20
 | .land x=>wl x<=20
 | .sever x y a we=>wl x<=20/\wl y<=20/\nB a/\nB we
 | .still=>True
def Dd.k:Dd->Nat
 | .sign _=>0 | .load .. =>1 | .cast _=>2 | .award .. =>3 | .mishap .. =>4 | .rise .. =>5 | .hand .. =>6 | .land _=>7 | .sever .. =>8 | .still=>9
theorem AK:∀(l m:List Row),jX (l++m)=jX l++jX m
 | [],_=>rfl
 | r::l,m=>by
  show V.str r.1::V.int r.2::jX (l++m)=V.str r.1::V.int r.2::(jX l++jX m)
  rw[AK l m]
theorem AL:∀l:List Row,(jX l).length=2*l.length
 | []=>rfl
 | r::l=>by show(jX l).length+1+1=_;rw[AL l,iF];omega
theorem rK(h:isNm x=true):wl x<=20:=by unfold isNm isName at h;have:=dY (mP.mp (mP.mp h).1).2;unfold wl;omega
theorem tM{o:Str}(h:EG st x o wo we=none):isNm x=true/\x∉st.nms/\o∈st.own/\1<=wo/\0<=we:=by
 unfold EG at h;cases hn:newR st x with
 | some j=>rw[hn]at h;cases h
 | none=>
  rw[hn]at h;have h':(if o∈st.own then(if wo<1\/we<0 then some 5 else none) else some 2)=none:=h;have hx:isNm x=true/\x∉st.nms:=by
   unfold newR at hn;by_cases c:isNm x=true
   .rw [av c]at hn;by_cases m:x∈st.nms
    .rw [av m]at hn;cases hn
    .exact ⟨c,m⟩
   .rw [au c]at hn;cases hn
  by_cases ho:o∈st.own
  .rw [av ho]at h';by_cases hb:wo<1\/we<0
   .rw [av hb]at h';cases h'
   .exact ⟨hx.1,hx.2,ho,by omega,by omega⟩
  .rw [au ho]at h';cases h'
end L2
set_option autoImplicit true
namespace L2
open PySem PySem.Spec PyProof.Rows
structure bE(X:Cx)(e:Expr)(t:TE):Prop where h:PE X e t
structure bT(X:Cx)(e:Expr)(t:TT):Prop where h:PT X e t
structure bW(X:Cx)(e:Expr)(t:TT):Prop where h:PW X e t
structure bA(X:Cx)(es:List Expr)(t:TA):Prop where h:PA X es t
structure bS(X:Cx)(s:Stmt)(t:TS):Prop where h:PS X s t
structure cY(X:Cx)(s:List Stmt)(t:TS):Prop where h:wK X s t
structure bC(X:Cx)(op:CmpOp)(a b:Expr)(t:TE):Prop where h:PC X op a b t
structure bG(X:Cx)(e:Expr)(t:TG):Prop where h:PG X e t
structure W8(X:Cx)(e:List Expr)(t:DT):Prop where h:PGs X e t
structure bI(X:Cx)(tg iter:Expr)(wi:TI):Prop where h:PI X tg iter wi
structure W9(X:Cx)(pos:Pos)(ks:List (Option Expr))(vs:List Expr)(t:List (TE×TE)):Prop where h:PPs X pos ks vs t
theorem bW.pt{X:Cx}{e:Expr}{t:TT}(h:bW X e t):bT X e t:=⟨h.h.pt⟩
theorem LI{op}{t:TE}(h:bE X a t):bE X (.BoolOp op [a] pos) t:=by have h:=h.h;exact⟨λpins s σ H Q I hw=>BoolOp_one (h pins s σ H Q I hw)⟩
theorem dW{e:Expr}{t:TE}(h:bE X e t)(he:∀whole,isTrue e X.env whole=(do let v <-whole;standAt e.pos;holding [v] (truthy v)):=by intro _;rfl):bT X e (tB t):=by have h:=h.h;constructor;intro pins s σ H Q I hw;refine isTrue_plain (bH (h pins s σ H _ I hw) λv s1 ⟨x,H1,I1,r1,q1⟩=>?_) (he _);obtain⟨d,rfl,q⟩:=q1;cases r1;exact CO ⟨H1,I1,q⟩
theorem aC{r:R2}(hr:zK X r)(ha:bE X a ta)(hb:bE X b tb)(hs:XX b:=by exact λ_ _=>rfl):bE X (.Subscript a b pos) (Ht r ta tb):=by have ha:=ha.h;have hb:=hb.h;constructor;intro pins s σ H Q I h;exact Subscript_ (U9 ha hb I h λv u s2 x y H2 I2 rx ry q=>hr a b pins s2 σ H2 x y v u Q I2 rx ry q (hs _ _))
theorem iR:W8 X [] ZE:=by constructor;intro pins s σ H vs us Q I r h;obtain⟨e,h⟩:=h;subst e;cases r;exact assignInOrder_nil ⟨σ,H,I,h⟩
theorem kX{x:Str}{n:String}{pos:Pos}(hv:bootBuiltins x=some (.type n))(hg:Gl X x)(hm:X.mg x=none)(hn:x ≠ "__name__":=by decide)(hd:(x==("__debug__":Str))=false:=by decide):bE X (.Name x pos) (tC (.ty n)):=by exact⟨XH hg hm hv rfl hn hd⟩
theorem aT{i:Nat}{x:Str}(hN:X.N.Nodup)(hi:X.N[i]?=some x:=by rfl)(hx:Loc X.env.scope x:=by first|exact Or.inl rfl|exact Or.inr rfl)(hf:X.fn x=true\/X.env.scope.names.lookup x=some .local:=by first|exact .inl rfl|exact .inr rfl|assumption):bG X (.Name x pos) (mh i):=by constructor;intro pins s σ H v u Q I r h;exact wpAny_assign_Name (yC I hN hi hx r (λs' I'=>⟨_,H,I',h⟩) hf)
theorem C8{c:Expr}{body:List Stmt}{tc:TT}{tb:TS}(hp:PassesOwn (model X.prog X.w) X.A X.env X.xe)(hc:bT X c tc)(hb:cY X body tb):bS X (.While c body [] pos) (ZL tc tb):=by
 have hc:=hc.h;have hb:=hb.h;constructor;intro pins s σ H D I h;obtain⟨W,⟨m0,w0⟩,turn⟩:=h;refine wpAny_While (codeAny_whileLoop (λn s'=>∃σ' H',Inv X pins σ' H' s'/\W n σ' H') ?_ m0 ⟨σ,H,I,w0⟩);rintro n s1 ⟨σ1,H1,I1,w1⟩;refine yr hp (bH (hc pins s1 σ1 H1 _ I1 (turn n σ1 H1 w1)) λb s2 ⟨H2,I2,q2⟩=>?_);cases b with
 | true=>
  obtain⟨N,hN,q2⟩:=q2;rw[av rfl];refine yr hp (bH (hb pins s2 σ1 H2 _ I2 q2) λf s3 q3=>?_);cases f with
  | next=>obtain⟨σ3,H3,I3,n3⟩:=q3;obtain⟨m',hm,w3⟩:=hN σ3 H3 n3;exact⟨m',hm,σ3,H3,I3,w3⟩
  | cont=>obtain⟨σ3,H3,I3,n3⟩:=q3;obtain⟨m',hm,w3⟩:=hN σ3 H3 n3;exact⟨m',hm,σ3,H3,I3,w3⟩
  | brk=>exact q3
  | ret v=>exact q3
 | false=>rw[au gk];exact JX ⟨σ1,H2,I2,q2⟩
theorem BY{tg:Expr}{ob:Expr}{td:TE}{apos cpos:Pos}(hob:bE X ob td)(hbase:attributeBase ob "values" X.env (eval ob X.env)=eval ob X.env:=by rfl)(hline:(apos.endLine==cpos.line)=true:=by rfl):bI X tg (.Call (.Attribute ob "values" apos) [] [] cpos) (adp td):=by
 have hob:=hob.h;constructor;intro pins s σ H R I h;refine wpAny_Call_method0_late hbase hline (bH (hob pins s σ H _ I h) λv s1 ⟨x,H1,I1,r1,q1⟩=>?_);obtain⟨d,o,kvs,rfl,e,fin⟩:=q1;cases r1;obtain⟨ho,hz,hsys,vs,ep,rel,da⟩:=I1.sL e;obtain⟨t1,t2,_⟩:=KS I1 (.inl ⟨kvs,.inr ⟨o,e⟩⟩);have dd:=da.dictOf;refine⟨"dict",_,F.plainAttrs_dict,QG,F.type_dict_values,t1,t2,QA rfl (PySem.evalArgs_none ?_)⟩;refine call_meetsIn QG dd.typeIs F.entry_dict_values (F.args_dict_values_1 _) (meets_dict_values (dh X.prog X.w) d hsys) ⟨⟨vs,dd⟩,?_⟩;refine wpAny_pyIter_values (s:={ s1 with heap:=s1.heap.push { cls:=.type "dict_values",data:=.fields #[.ref d] } }) ⟨_,eY _ rfl,Z,Z⟩ (da.push _) ?_;have Iv:Inv X pins σ H1 { s1 with heap:=s1.heap.push { cls:=.type "dict_values",data:=.fields #[.ref d] } }:=I1.kept (t':=s1.toks) λb o e=>cK _ e;generalize ({ s1 with heap:=s1.heap.push { cls:=.type "dict_values",data:=.fields #[.ref d] } }:Shared)=sv at *;have I2:Inv X pins σ H1 { sv with heap:=sv.heap.push { cls:=.type "dict_valueiterator",data:=.fields #[.ref d,.int 0 0,.int vs.length 0,.int ep 0] } }:=Iv.kept (t':=sv.toks) λb o e=>cK _ e;have hl:kvs.length=vs.length:=rel.length;obtain⟨o',es,h1,_,h2,_⟩:=id da;rw[ho]at h1;cases h1;refine⟨sv.heap.objs.size,[sv.heap.objs.size],_,_,H1,Z,I2,SX h2,?_,λb hb=>?_,fin⟩
 .rw [hl];exact⟨_,eY _ rfl,Z,Z⟩
 .have eb:b=sv.heap.objs.size:=by simpa using hb
  subst eb;exact Iv.CS (aQ _) (Iv.hok.fresh (aQ _))
theorem PO{o i e:Expr}{to ti te:TE}{Aa:V->V->Hp->VK->Prop}{zJ:Kw}{qb:tX}{op:Operator}{tpos:Pos}(ho:bE X o to)(hi:bE X i ti)(hg:ZI X Aa)(he:bE X e te)(hp:ZD X op zJ)(hs:U1 X qb)(ha:∀ov iv new,augStore i ov iv new=(do holding [new,ov,iv] (setItem ov iv new);release [new,ov,iv] [];pure .next):=by intros;rfl):bS X (.AugAssign (.Subscript o i tpos) op e pos) (ac1 to ti te Aa zJ qb):=by have ho:=ho.h;have hi:=hi.h;have he:=he.h;constructor;intro pins s σ H D I h;refine wpAny_AugAssign_SubscriptAny (bH (ho pins s σ H _ I h) λov s1 ⟨x1,H1,I1,r1,q1⟩=>?_) ha;refine bH (hi pins s1 σ H1 _ I1 q1) λiv s2 ⟨x2,H2,I2,r2,q2⟩=>?_;refine bH (hg pins s2 σ H2 x1 x2 ov iv _ I2 r1 r2 q2) λold s3 ⟨x3,H3,I3,r3,q3⟩=>?_;refine bH (he pins s3 σ H3 _ I3 q3) λv s4 ⟨x4,H4,I4,r4,q4⟩=>?_;refine bH (hp pins s4 σ H4 x3 x4 old v _ I4 r3 r4 q4) λnew s5 ⟨x5,H5,I5,r5,q5⟩=>?_;exact bH (hs pins s5 σ H5 x1 x2 x5 ov iv new _ I5 r1 r2 r5 q5) λ_ s6 ⟨H6,I6,q6⟩=>⟨σ,H6,I6,q6⟩
theorem jY{id:String}(pa:PlainAttrs T)(slot:Slot T name id)(hty:typeOf (.builtin id)=pure (.type "method_descriptor"))(hm:MtR X id r)(ho:bE X o to)(ha:bA X (e::es) t)(hbase:attributeBase o name X.env (eval o X.env)=eval o X.env:=by rfl)(hfew:((backTo cpos (starEach (e::es) X.env)).all (λx=>!x.1) && (backToKw cpos (keywordEach [] X.env)).all (λx=>x.1.isSome)
   && decide ((e::es).length+([] :List Keyword).length+(if([] :List Keyword).isEmpty then 0 else 1)<30))=true:=by rfl)(hline:(apos.endLine==cpos.line)=true:=by rfl)(hs:starEach (e::es) X.env=(false,eval e X.env)::starEach es X.env:=by rfl)(hplain:(backTo cpos (starEach es X.env)).any (·.1)=false:=by rfl):bE X (.Call (.Attribute o name apos) (e::es) [] cpos) (tBM X.K T r to t):=by
 have ho:=ho.h;have ha:=ha.h;constructor
 intro pins s σ H Q I h
 refine wpAny_Call_method_late hbase hfew hline rfl (bH (ho pins s σ H _ I h) λv s1 ⟨x,H1,I1,r1,ty,q1⟩=>?_)
 obtain⟨h1,h2⟩:=aab I1 r1 ty
 refine⟨T,id,pa,slot,hty,h1,h2,?_⟩
 have hA:=ha cpos pins s1 σ H1 _ I1 q1
 rw[hs]at hA ⊢
 refine QA (by show(false || (backTo cpos (starEach es X.env)).any (·.1))=false;rw[hplain] <;> rfl) (Calls.evalArgs_plain ?_)
 exact bH hA λus s2 ⟨vs,H2,I2,r2,q2⟩=>hm pins s2 σ H2 x vs v us Q I2 r1 r2 q2
theorem YL{X:Cx}{pos:Pos}:W9 X pos [] [] [] :=by exact⟨λpins s σ H Q I h=>pairTrees_nil_walk ⟨[],H,I,.nil,h⟩⟩
theorem LJ{X:Cx}{e:Expr}{t:TE}(h:bE X e t):bE X e (agy t):=by have h:=h.h;constructor;intro pins s σ H Q I hw;obtain⟨d,kvs,e,hw⟩:=hw;obtain⟨ho,es,ep,h1,_⟩:=(D0 I.hok e).2.2.choose_spec.2;have h0:=I.SW e;exact bH (h pins s σ _ _ (I.freeze e h1) (hw ho)) λu s' ⟨v,H',I',r,q1,q2⟩=>⟨v,_,I'.CW q1 h0,r,q2⟩
theorem V4{op op':CmpOp}{r r':R2}(ho:jm X (compareOp op) r)(ho':jm X (compareOp op') r')(ha:bE X a ta)(hb:bE X b tb)(hc:bE X c tc)(hm:lastMarks [op,op'] [b,c]=false:=by with_unfolding_all rfl):bE X (.Compare a [op,op'] [b,c] pos) (ZS r r' ta tb tc):=by
 have ha:=ha.h;have hb:=hb.h;have hc:=hc.h;constructor;intro pins s σ H Q I h;refine Compare_chain (bH (ha pins s σ H _ I h) λv s1 ⟨x,H1,I1,r1,q1⟩=>chain_link (bH (hb pins s1 σ H1 _ I1 q1) λu s2 ⟨y,H2,I2,r2,q2⟩=>
  bH (ho pins s2 σ H2 x y v u _ I2 r1 r2 q2) λd s3 ⟨z,H3,I3,r3,k,e,q3⟩=>?_)) hm
 subst e;cases r3;refine CO ?_;cases k with
 | false=>exact ite_ff ⟨.bl false,H3,I3,Z,q3⟩
 | true=>exact ite_tt (chain_last (bH (hc pins s3 σ H3 _ I3 q3) λw' s4 ⟨z',H4,I4,r4,q4⟩=>ho' pins s4 σ H4 y z' u w' Q I4 r2 r4 q4))
theorem gx{x1}(h:bA X es t):bE X (.Tuple es x1 pos) (Z0 t):=by have h:=h.h;constructor;intro pins s σ H Q I hq;refine wpAny_Tuple_spliced (bH (h pos pins s σ H _ I hq) λus s1 ⟨xs,H1,I1,r,z,q⟩=>⟨by rw[<-r.length];exact z,?_⟩);have hf:H1 s1.heap.objs.size=none:=I1.hok.fresh (aQ _);refine⟨.ref s1.heap.objs.size,upd H1 s1.heap.objs.size (.tup xs),I1.laid (t':=s1.toks) (λb u e=>cK _ e) (aQ _) ?_,Z,q _ hf⟩;exact⟨z,us,r,⟨_,eY _ rfl,Z,_,Z⟩⟩
theorem C9{tg iter elt cond:Expr}{scope:Scope}{pos:Pos}(N2:List Str)(ix:List (Option Nat)){wi:TI}{g:TG}{tc:TT}{te:TE}(hc:X.calm=true)(hi:bI X tg iter wi)(hg:∀cl s₂ H₂ fp,bG (dg X N2 scope cl s₂ H₂ fp) tg g)(he:∀cl s₂ H₂ fp,bE (dg X N2 scope cl s₂ H₂ fp) elt te)(ht:∀cl s₂ H₂ fp,bT (dg X N2 scope cl s₂ H₂ fp) cond tc)(hk:scope.kind =.function)(hn:nX X.N X.env.scope.names scope.names N2 ix=true)(hs:∀x,foldedSetIterable iter X.env x=pure x:=by intro _;rfl):bE X (.ListComp elt [⟨tg,iter,[cond],0⟩] scope pos) (Ek wi ix g tc te):=⟨VB N2 ix hc hi.h (λcl s₂ H₂ fp=>(hg cl s₂ H₂ fp).h) (λcl s₂ H₂ fp=>(he cl s₂ H₂ fp).h) (λcl s₂ H₂ fp=>(ht cl s₂ H₂ fp).h) hk hn hs⟩
theorem aI{op:Operator}{r:R2}(ho:jm X (binaryOp op) r)(ha:bE X a ta)(hb:bE X b tb):bE X (.BinOp a op b pos) (Ht r ta tb):=by have ha:=ha.h;have hb:=hb.h;constructor;intro pins s σ H Q I h;exact wpAny_BinOp (U9 ha hb I h λv u s2 x y H2 I2 rx ry q=>ho pins s2 σ H2 x y v u Q I2 rx ry q)
theorem x9{op:CmpOp}{t:TE}(h:bC X op a b t)(h1:behindInMarks op b=false:=by first|exact agI _ (by decide) (by decide)|rfl):bT X (.Compare a [op] [b] pos) (tB t):=by have h:=h.h;constructor;intro pins s σ H Q I hw;refine wpAny_isTrue_Compare1 (bH (h pins s σ H _ I hw) λv s1 h1=>bH h1 λu s2 h2=>bH h2 λc s3 ⟨x,H1,I1,r1,q1⟩=>?_) h1;obtain⟨d,rfl,q⟩:=q1;cases r1;exact CO ⟨H1,I1,q⟩
theorem eX{tg:Expr}{iter:Expr}{body:List Stmt}{wi:TI}{g:TG}{tb:TS}{pos:Pos}(hp:PassesOwn (model X.prog X.w) X.A X.env X.xe)(hc:X.calm=true)(hi:bI X tg iter wi)(hg:bG X tg g)(hb:cY X body tb)(hs:∀x,foldedSetIterable iter X.env x=pure x:=by intro _;rfl):bS X (.For tg iter body [] pos) (agg wi g tb):=by
 have hi:=hi.h;have hg:=hg.h;have hb:=hb.h;constructor;intro pins s σ H D I h;refine wpAny_For (bH (hi pins s σ H _ I h) λv s1 h1=>bH h1 λitv s2 h2=>?_) hs;obtain⟨it,fp,tn,J,H2,e,I2,T,st2,f2,W,⟨m0,w0⟩,turn⟩:=h2;subst e;have vm:∀{H':Hp},(∀b∈fp,H' b=none)->∀b∈fp,qc X pins H' b:=λhn b hb=>⟨hn b hb,(f2 b hb).2⟩
 refine codeAny_forLoop_any (λn s'=>∃i σ' H',Inv X pins σ' H' s'/\tn i s'.heap/\(∀b∈fp,H' b=none)/\W i n σ' H') ?_ m0 ⟨0,σ,H2,I2,st2,λb hb=>(f2 b hb).1,w0⟩;rintro n s3 ⟨i,σ3,H3,I3,st3,W_,w3⟩;rcases turn i n σ3 H3 w3 with⟨stop,qn⟩|⟨go,N,hN,step⟩
 .refine yr hp (bH (T.done X rfl rfl rfl hc i pins s3 σ3 H3 X.xe I3 (vm W_) st3 stop) λr s4 ⟨hr,I4⟩=>?_);subst hr;exact JX ⟨σ3,H3,I4,qn⟩
 .refine yr hp (bH (T.item X rfl rfl rfl hc i pins s3 σ3 H3 X.xe I3 (vm W_) st3 go) λr s4 ⟨u,hr,h4⟩=>?_);subst hr;refine yr hp (bH h4 λ_ s5 ⟨x,H5,I5,r5,y5,uG,K2⟩=>?_);have I5':=I5.pinned (vm K2) (T.obj _ _ uG);refine yr hp (bH (hg _ s5 σ3 H5 x u _ I5' r5 (step x H5 y5)) λ_ s6 ⟨σ6,H6,I6,q6⟩=>?_);refine yr hp (bH (hb _ s6 σ6 H6 _ I6 q6) λf s7 q7=>?_);have again:∀{σ7:St}{H7:Hp},Inv X (pins++DV fp s5.heap) σ7 H7 s7->N σ7 H7->∃m,m<n/\∃i σ' H',Inv X pins σ' H' s7/\tn i s7.heap/\(∀b∈fp,H' b=none)/\W i m σ' H':=λ{σ7 H7} I7 n7=>by obtain⟨m',hm,w7⟩:=hN σ7 H7 n7;refine⟨m',hm,i+1,σ7,H7,I7.rm,T.keep _ _ _ uG λb hb o e=>(I7.pin (b,o) (j9 _ (j9 _ (jP hb e)))).1,λb hb=>?_,w7⟩;obtain⟨o,e,d⟩:=T.obj _ _ uG b hb;exact(I7.pin (b,o) (j9 _ (j9 _ (jP hb e)))).2.1
  cases f with
  | next=>obtain⟨σ7,H7,I7,n7⟩:=q7;exact again I7 n7
  | cont=>obtain⟨σ7,H7,I7,n7⟩:=q7;exact again I7 n7
  | brk=>obtain⟨σ7,H7,I7,q7⟩:=q7;exact⟨σ7,H7,I7.rm,q7⟩
  | ret v=>obtain⟨x7,σ7,H7,I7,r7,q7⟩:=q7;exact⟨x7,σ7,H7,I7.rm,r7,q7⟩
theorem PR:bS X (.Return none pos) acW:=by exact⟨λ_ _ σ H _ I h=>wpAny_Return_none ⟨.cy,σ,H,I,Z,h⟩⟩
theorem ig{tg iter elt:Expr}{scope:Scope}{pos:Pos}(N2:List Str)(ix:List (Option Nat)){wi:TI}{g:TG}{te:TE}(hc:X.calm=true)(hi:bI X tg iter wi)(hg:∀cl s₂ H₂ fp,bG (dg X N2 scope cl s₂ H₂ fp) tg g)(he:∀cl s₂ H₂ fp,bE (dg X N2 scope cl s₂ H₂ fp) elt te)(hk:scope.kind =.function)(hn:nX X.N X.env.scope.names scope.names N2 ix=true)(hs:∀x,foldedSetIterable iter X.env x=pure x:=by intro _;rfl):bE X (.ListComp elt [⟨tg,iter,[],0⟩] scope pos) (WT wi ix g te):=by have hi:=hi.h;have hg:=λcl s₂ H₂ fp=>(hg cl s₂ H₂ fp).h;have he:=λcl s₂ H₂ fp=>(he cl s₂ H₂ fp).h;constructor;intro pins s σ H Q I h;obtain⟨k1,k2,k3,k4,k5⟩:=nF hn;obtain⟨cl,K8,c1,c2⟩:=uN (scope:=scope) (env:=X.env) λy hy e=>I.ok.has y.1 (k3 y hy e);rw[eval_ListComp];refine Qw (use:=none) rfl hs K8 hk k4 (bH (hi pins s σ H _ I h) λv s1 h1=>bH h1 λitv s2 h2=>?_);obtain⟨it,fp,tn,J,H2,e,I2,T,st2,f2,h2⟩:=h2;subst e;refine Ea (RR:=λacc C=>compPost (model X.prog X.w) X.A X.xe none (EP X pins σ Q) acc C) (Q:=Q) hc hg he hk hn (λy c m=>(c1 y c m).1) c2 I2 T st2 f2 h2 ?_;intro acc C H' s' m I' ns Aj hL hsz qh yH q;exact⟨m,ns,λh' hs'=>⟨.ref acc,H',I'.turned (it:=C) (t':=s'.toks) (λb o hb e=>(hs'.2 b hb).trans e) Aj hL (.inr hsz) qh yH,Z,q⟩⟩
theorem LK(hu:X.A.units+1<cLine)(hi:bE X i ty)(ho:bE X o td):bC X .In i o (ags ty td):=by have hi:=hi.h;have ho:=ho.h;constructor;intro pins s σ H Q I h;refine bH (hi pins s σ H _ I h) λiv s1 ⟨y,H1,I1,ry,q1⟩=>bH (ho pins s1 σ H1 _ I1 q1) λu s2 ⟨x,H2,I2,rx,a,ov,ex,g,q2⟩=>?_;subst ex;obtain rfl:u=Value.ref a:=rx;exact agr hu I2 g ry λs3 I3=>⟨.bl ov.isSome,H2,I3,Z,q2⟩
theorem abg(ha:bE X a ta):bE X (.UnaryOp .Not a pos) (acT ta):=by have ha:=ha.h;constructor;intro pins s σ H Q I h;refine UnaryOp_ (bH (ha pins s σ H _ I h) λv s1 ⟨x,H1,I1,r1,q1⟩=>?_);obtain⟨c,rfl,q1⟩:=q1;cases r1;exact not_of (CO ⟨.bl (!c),H1,I1,Z,q1⟩)
theorem aS{x j pos}:bE X (.Constant (.str x) j pos) (tC (.str x)):=by exact⟨λ_ _ _ H _ I h=>Calls.Constant_str ⟨.str x,H,I.tok _,⟨_,Z⟩,h⟩⟩
theorem Rr{op:UnaryOp}{r:V->Hp->VK->Prop}(ho:ZO X (unaryOp op) r)(ha:bE X a ta):bE X (.UnaryOp op a pos) (tUn r ta):=by have ha:=ha.h;constructor;intro pins s σ H Q I h;exact UnaryOp_ (bH (ha pins s σ H _ I h) λv s1 ⟨x,H1,I1,r1,q1⟩=>ho pins s1 σ H1 x v Q I1 r1 q1)
theorem rL(K:Fg){a b:Expr}{ta:TA}{p pos:Pos}(hg:Gl X "zip")(hm:X.mg "zip"=none)(ha:bA X [a,b] ta)(hK:X.K=K:=by rfl)(hs:starEach [a,b] X.env=[(false,eval a X.env),(false,eval b X.env)] :=by rfl)(hs2:starEach [b] X.env=[(false,eval b X.env)] :=by rfl):bI X (.Tuple elts kk tpos) (.Call (.Name "zip" p) [a,b] [] pos) (ads K ta):=by
 have ha:=ha.h;constructor;subst hK;intro pins s σ H R I h;refine Call_ (u9 I hg hm boot_zip (RX (bH (ha pos pins s σ H _ I h) λus s1 ⟨vs,H1,I1,r1,q1⟩=>?_) (by rw[hs,hs2]) (by rw[hs2];rfl)));obtain⟨u1,u2,S1,S2,xs,ys,e,k1,k2,q⟩:=q1;subst e;obtain⟨u,w',rfl,ru,rw'⟩:=vals2 r1;obtain⟨g1,l1,o1,p1,lt1,b1,ajq,at1,st1,c1⟩:=k1.ok I1 ru;obtain⟨g2,l2,o2,p2,lt2,b2,adI,at2,st2,c2⟩:=k2.ok I1 rw';refine callType_newIn F.called_zip (by decide) (F.typeCall_zip_2 _ _) (F.newCall_zip_2 _ _) (λobj=>F.args_object_init_3 obj _ _) F.entry_zip_new (Rh st1 st2) ⟨b1,adI _ _ b2,?_⟩;have z1:(s1.heap.push o1).objs.size=s1.heap.objs.size+1:=nv ..;have z2:((s1.heap.push o1).push o2).objs.size=s1.heap.objs.size+2:=by rw[nv,z1]
 generalize e3:({ cls:=.type "tuple",data:=.seq #[.ref s1.heap.objs.size,.ref (s1.heap.push o1).objs.size] }:Obj)=o3;have z3:(((s1.heap.push o1).push o2).push o3).objs.size=s1.heap.objs.size+3:=by rw[nv,z2]
 generalize e4:({ cls:=.type "tuple",data:=.seq #[.none,.none] }:Obj)=o4;have z4:((((s1.heap.push o1).push o2).push o3).push o4).objs.size=s1.heap.objs.size+4:=by rw[nv,z3]
 generalize e5:({ cls:=.type "zip",data:=.fields #[.none,.bool false,.bool false,.ref ((s1.heap.push o1).push o2).objs.size,.ref (((s1.heap.push o1).push o2).push o3).objs.size] }:Obj)=o5;have g5:(((((s1.heap.push o1).push o2).push o3).push o4).push o5).get? ((((s1.heap.push o1).push o2).push o3).push o4).objs.size=some o5:=eY _ (by rw[<-e5];rfl);have g4:(((((s1.heap.push o1).push o2).push o3).push o4).push o5).get? (((s1.heap.push o1).push o2).push o3).objs.size=some o4:=cK _ (eY _ (by rw[<-e4];rfl));have g3:(((((s1.heap.push o1).push o2).push o3).push o4).push o5).get? ((s1.heap.push o1).push o2).objs.size=some o3:=cK _ (cK _ (eY _ (by rw[<-e3];rfl)));have g2':(((((s1.heap.push o1).push o2).push o3).push o4).push o5).get? (s1.heap.push o1).objs.size=some o2:=cK _ (cK _ (cK _ (at2 _)));have g1':(((((s1.heap.push o1).push o2).push o3).push o4).push o5).get? s1.heap.objs.size=some o1:=cK _ (cK _ (cK _ (cK _ (at1 _))));have kp:∀c o,s1.heap.get? c=some o->(((((s1.heap.push o1).push o2).push o3).push o4).push o5).get? c=some o:=λc o x=>cK _ (cK _ (cK _ (cK _ (cK _ x))));rw[z4]at g5 ⊢;rw[z3]at g4 e5;rw[z2]at g3 e5;rw[z1]at g2' e3;generalize (((((s1.heap.push o1).push o2).push o3).push o4).push o5)=hN at *;show _/\_;subst e3 e4 e5;refine⟨⟨_,g5,Z⟩,wpAny_pyIter_zip (s:={ s1 with heap:=hN }) g5 ?_⟩;have I2:Inv X pins σ H1 { s1 with heap:=hN }:=I1.kept (t':=s1.toks) kp;obtain⟨t1,ajt,C1,n1⟩:=c1 s1.heap.objs.size;obtain⟨t2,aju,C2,n2⟩:=c2 (s1.heap.objs.size+1);refine⟨s1.heap.objs.size+4,[s1.heap.objs.size+4,s1.heap.objs.size+2,s1.heap.objs.size+3,s1.heap.objs.size,s1.heap.objs.size+1],_,_,H1,Z,I2,S4 (NL lt1 lt2) C1 C2,⟨g5,g3,⟨_,_,g4⟩,n1 _ g1',n2 _ g2'⟩,λb hb=>?_,q⟩;have hb':b=s1.heap.objs.size+4\/b=s1.heap.objs.size+2\/b=s1.heap.objs.size+3\/b=s1.heap.objs.size\/b=s1.heap.objs.size+1:=by simpa using hb
 have le:s1.heap.objs.size<=b:=by
  rcases hb' with r|r|r|r|r
  .rw [r];exact p5 _ _
  .rw [r];exact p5 _ _
  .rw [r];exact p5 _ _
  .rw [r];exact aQ _
  .rw [r];exact p5 _ _
 exact I1.CS le (I1.hok.fresh le)
theorem aN{op:CmpOp}{r:R2}(ho:jm X (compareOp op) r)(ha:bE X a ta)(hb:bE X b tb)(hm:behindInMarks op b=false):bT X (.Compare a [op] [b] pos) (J0 (Ht r ta tb)):=by
 have ha:=ha.h;have hb:=hb.h;constructor;intro pins s σ H Q I h;refine wpAny_isTrue_Compare1 (bH (ha pins s σ H _ I h) λv s1 ⟨x,H1,I1,r1,q1⟩=>bH (hb pins s1 σ H1 _ I1 q1) λu s2 ⟨y,H2,I2,r2,q2⟩=>
  bH (ho pins s2 σ H2 x y v u _ I2 r1 r2 q2) λc s3 ⟨z,H3,I3,r3,k,e,q3⟩=>?_) hm
 subst e;cases r3;exact CO ⟨H3,I3,q3⟩
theorem aX{i:Nat}{x:Str}{e:Expr}{te:TE}{pos':Pos}(hN:X.N.Nodup)(he:bE X e te)(hi:X.N[i]?=some x:=by rfl)(hx:Loc X.env.scope x:=by first|exact Or.inl rfl|exact Or.inr rfl)(hs:swapsWith e (some (.Name x pos')) pos.line X.env=pure false:=by rfl)(hf:X.fn x=true\/X.env.scope.names.lookup x=some .local:=by first|exact .inl rfl|exact .inr rfl|assumption):bS X (.Assign [.Name x pos'] e pos) (Ky te (mh i)):=by have he:=he.h;constructor;intro pins s σ H D I h;refine wpAny_Assign_Name (bH (he pins s σ H _ I h) λv s1 ⟨y,H1,I1,r1,q1⟩=>?_) hs;exact yC I1 hN hi hx r1 (λs2 I2=>⟨_,H1,I2,q1⟩) hf
theorem YM{X:Cx}{pos:Pos}{keys:List (Option Expr)}{values:List Expr}{D3:List (TE×TE)}(h:W9 X pos keys values D3)(hall:keys.all (·.isSome)=true)(hl:keys.length=values.length)(h0:keys≠[])(h15:keys.length<=15):bE X (.Dict keys values pos) (adg D3):=by
 have h:=h.h;constructor;intro pins s σ H Q I q;have hn:=I.hok.fresh (aQ s.heap.objs.size);have I1:=I.laid (a:=s.heap.objs.size) (o:=.dK []) (h':=s.heap.push { cls:=.type "dict",data:=.dict #[] }) (t':=s.toks) (λ_ _ q=>cK _ q) (aQ _) (KR s.heap I.big);refine wpAny_Dict_walk (knd:=dh X.prog X.w) hall hl h0 h15 (bH (h pins _ σ _ _ I1 (q _ hn)) λws s2 ⟨ps,H2,I2,rel,e,kvs,ep,lk,q2⟩=>?_);subst ep;obtain⟨rs,c,rk⟩:=D4 (P:=X.prog) (w:=X.w) rel;obtain⟨z,hd,S7,r0,dd⟩:=D0 I2.hok e;cases r0;refine⟨rs,c,dd,λh' Cu hs=>⟨.ref s.heap.objs.size,_,?_,Z,q2⟩⟩;have hz:(xX [] kvs).length<=sizeLine:=by have h1:=zM kvs [];rw[List.length_nil]at h1;rw[l9];omega
 have he:∃q,h'.get? s.heap.objs.size=some q:=let⟨q,_,_,hq,_⟩:=Cu;⟨q,hq⟩;exact BI I2 (by rw[e];exact True.intro) hs he (KQ hz hd (rk.merge .nil) Cu)
theorem dO(K:Fg){tg l:Expr}{tl:TE}(hl:bE X l tl)(hK:X.K=K:=by rfl):bI X tg l (WK K tl):=by have hl:=hl.h;exact⟨hK▸XM hl⟩
theorem eO{X:Cx}{e:Expr}{t:TT}(h:bT X e t):bT X e (λσ H Q=>∃b:Bool,t σ H (λb' H'=>b'=b/\H'=H)/\Q b H):=by have h:=h.h;constructor;intro pins s σ H Q I hw;obtain⟨b,hb,q⟩:=hw;refine bH (h pins s σ H _ I hb) λb' s' ⟨H',I',e1,e2⟩=>?_;subst e1 e2;exact⟨_,I',q⟩
theorem aq{st:Stmt}(h1:bS X st t):cY X [st] t:=by
 have h1:=h1.h;constructor;intro pins s σ H D I h;refine wpAny_execs_cons (bH (h1 pins s σ H D I h) λf s1 q=>?_);cases f with
 | next=>exact JX q
 | ret v=>exact q
 | brk=>exact q
 | cont=>exact q
theorem PU(ho:bE X o td)(hi:bE X i ty):bS X (.Delete [.Subscript o i tpos] pos) (adf td ty):=by have ho:=ho.h;have hi:=hi.h;constructor;intro pins s σ H D I h;refine wpAny_Delete (wpAny_deleteEach_cons (wpAny_delete_Subscript (bH (ho pins s σ H _ I h) λu s1 ⟨x,H1,I1,rx,q1⟩=>bH (hi pins s1 σ H1 _ I1 q1) λiv s2 ⟨y,H2,I2,ry,a,kvs,k,ex,e,ey,l,q2⟩=>?_)));subst ex ey;obtain rfl:u=Value.ref a:=rx;exact Sv I2 e ry l λs3 I3=>wpAny_deleteEach_nil ⟨σ,_,I3,q2⟩
theorem eU(ha:bT X a tA):bT X (.UnaryOp .Not a pos) (agb tA):=by have ha:=ha.h;constructor;intro pins s σ H Q I h;exact isTrue_not (ha pins s σ H (λc H1=>Q (!c) H1) I h)
theorem b9(he:bE X e te)(hs:swapsWith e none pos.line X.env=pure false:=by rfl):bS X (.Expr e pos) (acV te):=by have he:=he.h;constructor;intro pins s σ H D I h;exact wpAny_Expr_any (bH (he pins s σ H _ I h) λv s1 ⟨x,H1,I1,r1,q1⟩=>⟨σ,H1,I1,q1⟩) I.quiet hs
theorem cE{pl:Sem Bool}{j k:Nat}{C:Addr}{m:Str}{ps:List Str}{sp:Sp}{o e:Expr}{es:List Expr}{ta:TE}{t:TA}{apos pos:Pos}(D:Mn X.prog X.w X.K X.mg X.base j C m ps sp)(hr:fq k X.A)(ho:bE X o ta)(ha:bA X (e::es) t)(hj:j<=k:=by decide)(hst:starEach (e::es) X.env=(false,eval e X.env)::starEach es X.env:=by rfl)(hpl:(backTo pos (starEach es X.env)).any (·.1)=false:=by rfl)(ht:eval (.Call (.Attribute o m apos) (e::es) [] pos) X.env=(do
   let ov <-eval o X.env
   standAt apos.atName
   let(f,first) <-holding [ov] (getMethod ov m pl)
   callWith pos f first (backTo pos (starEach (e::es) X.env)) (backToKw pos (keywordEach [] X.env))):=by rfl):bE X (.Call (.Attribute o m apos) (e::es) [] pos) (J1 C m sp [] E0 ta t):=by
 have ho:=ho.h;have ha:=ha.h;constructor
 obtain⟨f,fd,F,b,hm,c⟩:=D.ex
 exact XU (pl:=pl) ho c hm F (hr.mono hj) b .nil (λ_ _ _ _ _ _ _ h=>h.elim) ha hst hpl ht
theorem cN{e:Expr}{es:List Expr}{t:TG}{u:DT}(h1:bG X e t)(h2:W8 X es u)(hs:(assignEach (e::es) X.env).map (·.2)=assign e X.env::(assignEach es X.env).map (·.2):=by rfl):W8 X (e::es) (WJ t u):=by
 have h1:=h1.h;have h2:=h2.h;constructor;intro pins s σ H vs us Q I r h;obtain⟨v,vr,e1,h⟩:=h;subst e1;cases r with
 | cons r rr=>rw[hs];refine assignInOrder_cons (bH (h1 pins s σ H _ _ _ I r h) λ_ s1 ⟨σ1,H1,I1,q1⟩=>?_);exact h2 pins s1 σ1 H1 _ _ Q I1 rr q1
theorem pX{i:Nat}{x:Str}{px pos':Pos}{tg iter elt:Expr}{scope:Scope}{pos:Pos}(N2:List Str)(ix:List (Option Nat)){wi:TI}{g:TG}{te:TE}(hN:X.N.Nodup)(hi:X.N[i]?=some x)(hx:X.env.scope.names.lookup x=some .local)(hc:X.calm=true)(hit:bI X tg iter wi)(hg:∀cl s₂ H₂ fp,bG (dg X N2 scope cl s₂ H₂ fp) tg g)(he:∀cl s₂ H₂ fp,bE (dg X N2 scope cl s₂ H₂ fp) elt te)(hk:scope.kind =.function)(hn:nX X.N X.env.scope.names scope.names N2 ix=true)(hw:swapsWith (.ListComp elt [⟨tg,iter,[],0⟩] scope pos) (some (.Name x px)) pos'.line X.env=pure true)(hs:∀x,foldedSetIterable iter X.env x=pure x:=by intro _;rfl):bS X (.Assign [.Name x px] (.ListComp elt [⟨tg,iter,[],0⟩] scope pos) pos') (Ky (WT wi ix g te) (mh i)):=by
 have hit:=hit.h;have hg:=λcl s₂ H₂ fp=>(hg cl s₂ H₂ fp).h;have he:=λcl s₂ H₂ fp=>(he cl s₂ H₂ fp).h;constructor;intro pins s σ H D I h;obtain⟨k1,k2,k3,k4,k5⟩:=nF hn;obtain⟨cl,K8,c1,c2⟩:=uN (scope:=scope) (env:=X.env) λy hy e=>I.ok.has y.1 (k3 y hy e);rw[exec_Assign_Name_used _ _ _ _ hw];refine ay (Bu (ay ?_));show wpAny _ X.A (do let _ <-comprehension (.ListComp elt [⟨tg,iter,[],0⟩] scope pos) scope X.env _ (newList []) false (eval iter X.env) (some (assign (.Name x px) X.env))) _ _ s;refine ay (bH (Qw (use:=some (assign (.Name x px) X.env)) (Q:=λ_ s'=>SP X pins D .next s') rfl hs K8 hk k4 (bH (hit pins s σ H _ I h) λv s1 h1=>bH h1 λitv s2 h2=>?_)) λ_ s' hq=>bg (bg hq));obtain⟨it,fp,tn,J,H2,e,I2,T,st2,f2,h2⟩:=h2;subst e;refine Ea (RR:=λacc C=>compPost (model X.prog X.w) X.A X.xe (some (assign (.Name x px) X.env)) (λ_ s'=>SP X pins D .next s') acc C) (Q:=λv H'=>D.nx (σ.set i (some v)) H') hc hg he hk hn (λy c m=>(c1 y c m).1) c2 I2 T st2 f2 h2 ?_;intro acc C H' s' m I' ns Aj hL hsz qh yH q;show wpAny _ X.A (assign (.Name x px) X.env (.ref acc)) _ _ _;refine wpAny_assign_Name (z_ I' hN hi (.inl hx) (v:=.ref acc) rfl (λs3 I3 ⟨a,sb,ha⟩=>?_) (.inr hx));have ca:C≠a:=by
  rcases ha with z|z
  .rw [z];exact hL
  .exact λe=>qh x a z e.symm
 exact⟨m,ns.sameBut sb ca,λh' hs'=>⟨_,H',I3.turned (it:=C) (t':=s3.toks) (λb o hb e=>(hs'.2 b hb).trans e) Aj hL (.inr hsz) qh yH,q⟩⟩
theorem vF{X:Cx}{pos:Pos}{k v:Expr}{ks:List (Option Expr)}{vs:List Expr}{tk tv:TE}{D3:List (TE×TE)}(hk:bE X k tk)(hv:bE X v tv)(hr:W9 X pos ks vs D3):W9 X pos (some k::ks) (v::vs) ((tk,tv)::D3):=by
 have hk:=hk.h;have hv:=hv.h;have hr:=hr.h;exact⟨λpins s σ H Q I h=>
 pairTrees_cons_walk (bH (hk pins s σ H _ I h) λu s1 ⟨x,H1,I1,rx,q1⟩=>bH (hv pins s1 σ H1 _ I1 q1) λw2 s2 ⟨y,H2,I2,ry,q2⟩=>
  bH (hr pins s2 σ H2 _ I2 q2) λws s3 ⟨ps,H3,I3,rel,q3⟩=>⟨(x,y)::ps,H3,I3,.cons ⟨rx,ry⟩ rel,q3⟩)⟩
theorem AM(hu:X.A.units+1<cLine)(hi:bE X i ty)(ho:bE X o td):bC X .NotIn i o (X4 ty td):=by have hi:=hi.h;have ho:=ho.h;constructor;intro pins s σ H Q I h;refine bH (hi pins s σ H _ I h) λiv s1 ⟨y,H1,I1,ry,q1⟩=>bH (ho pins s1 σ H1 _ I1 q1) λu s2 ⟨x,H2,I2,rx,a,ov,ex,g,q2⟩=>?_;subst ex;obtain rfl:u=Value.ref a:=rx;exact XZ hu I2 g ry λs3 I3=>⟨.bl (!ov.isSome),H2,I3,Z,q2⟩
theorem gD{b j pos}:bE X (.Constant (.bool b) j pos) (tC (.bl b)):=by exact⟨λ_ _ _ H _ I h=>Constant_bool ⟨.bl b,H,I,Z,h⟩⟩
theorem u0{pl:Sem Bool}{j k:Nat}{C:Addr}{m:Str}{ps:List Str}{sp:Sp}{o:Expr}{ta:TE}{apos pos:Pos}(D:Mn X.prog X.w X.K X.mg X.base j C m ps sp)(hr:fq k X.A)(ho:bE X o ta)(hj:j<=k:=by decide)(ht:eval (.Call (.Attribute o m apos) [] [] pos) X.env=(do
   let ov <-eval o X.env
   standAt apos.atName
   let(f,first) <-holding [ov] (getMethod ov m pl)
   callWith pos f first (backTo pos (starEach [] X.env)) (backToKw pos (keywordEach [] X.env))):=by rfl):bE X (.Call (.Attribute o m apos) [] [] pos) (J1 C m sp [] E0 ta rA):=by
 have ho:=ho.h;constructor
 obtain⟨f,fd,F,b,hm,c⟩:=D.ex
 exact Vg (pl:=pl) ho c hm F (hr.mono hj) b .nil (λ_ _ _ _ _ _ _ h=>h.elim) ht
theorem aY(he:bE X e te):bS X (.Return (some e) pos) (agd te):=by have he:=he.h;constructor;intro pins s σ H D I h;exact wpAny_Return_some (bH (he pins s σ H _ I h) λv s1 ⟨x,H1,I1,r1,q1⟩=>⟨x,σ,H1,I1,r1,q1⟩)
theorem fR{tg:Expr}{a:Expr}{ta:TA}{p pos:Pos}(hg:Gl X "range")(hm:X.mg "range"=none)(ha:bA X [a] ta)(hs:starEach [a] X.env=[(false,eval a X.env)] :=by rfl):bI X tg (.Call (.Name "range" p) [a] [] pos) (ac2 ta):=by
 have ha:=ha.h;constructor;intro pins s σ H R I h;refine Call_ (u9 I hg hm boot_range (RX (bH (ha pos pins s σ H _ I h) λus s1 ⟨vs,H1,I1,r1,q1⟩=>?_) hs rfl));obtain⟨j,e,q1,q2,q⟩:=q1;subst e;cases r1 with
 | cons r rr=>cases rr;obtain⟨t,rfl⟩:=r;exact call_range_1 (U8 I1 (by omega) (by omega) q1 q2 (by simpa using q))
theorem bf:cY X [] acU:=by exact⟨λ_ _ σ H _ I h=>JX ⟨σ,H,I,h⟩⟩
theorem d9(K:Fg){o value:Expr}{f:Str}{ta tv:TE}{pos pos':Pos}(ha:bE X o ta)(hv:bE X value tv)(hs:swapsWith value (some (.Attribute o f pos')) pos.line X.env=pure false:=by rfl)(hK:X.K=K:=by rfl):bS X (.Assign [.Attribute o f pos'] value pos) (ZU K ta tv f):=by have ha:=ha.h;have hv:=hv.h;exact⟨hK▸ZX ha hv hs⟩
theorem Im{tg:Expr}{a b c:Expr}{ta:TA}{p pos:Pos}(hg:Gl X "range")(hm:X.mg "range"=none)(ha:bA X [a,b,c] ta)(hs:starEach [a,b,c] X.env=[(false,eval a X.env),(false,eval b X.env),(false,eval c X.env)] :=by rfl)(hs2:starEach [b,c] X.env=[(false,eval b X.env),(false,eval c X.env)] :=by rfl):bI X tg (.Call (.Name "range" p) [a,b,c] [] pos) (ado ta):=by
 have ha:=ha.h;constructor;intro pins s σ H R I h;refine Call_ (u9 I hg hm boot_range (RX (bH (ha pos pins s σ H _ I h) λus s1 ⟨vs,H1,I1,r1,q1⟩=>?_) (by rw[hs,hs2]) (by rw[hs2];rfl)));obtain⟨i,j,k,e,⟨q1,q2,q3,q4,q5,q6⟩,q⟩:=q1;subst e;cases r1 with
 | cons r rr=>
  cases rr with
  | cons r' rr=>
   cases rr with
   | cons r'' rr=>
    cases rr;obtain⟨t,rfl⟩:=r;obtain⟨t',rfl⟩:=r';obtain⟨t'',rfl⟩:=r'';obtain⟨sm,sz⟩:=NO q1 q2 q3 q4 q5 q6;refine call_range_3 (by omega) ?_ (Or.inl (PyProof.noPylong_small (by omega)));refine wpAny_pyIter_range (IsRange.new ..) sm ?_;have I2:Inv X pins σ H1 { s1 with heap:=s1.heap.push { cls:=.type "range",data:=.fields #[.int i t,.int j t',.int k t''] },toks:=s1.toks }:=I1.kept λb o e=>cK _ e;refine⟨(s1.heap.push { cls:=.type "range",data:=.fields #[.int i t,.int j t',.int k t''] }).objs.size,[(s1.heap.push { cls:=.type "range",data:=.fields #[.int i t,.int j t',.int k t''] }).objs.size],_,_,H1,Z,
     I2.kept (t':=s1.toks) λb o e=>cK _ e,NN _ i k (rC i j k),?_,λb hb=>?_,q⟩
    .have e1:i+((0:Nat):Int)*k=i:=by simp
     have e2:((rC i j k:Nat):Int)-((0:Nat):Int)=Builtin.Range.rangeSize i j k:=by unfold rC;omega
     show IsRangeIter _ _ (i+((0:Nat):Int)*k) (((rC i j k:Nat):Int)-((0:Nat):Int)) k;rw[e1,e2];exact eY _ rfl
    .have e:b=(s1.heap.push { cls:=.type "range",data:=.fields #[.int i t,.int j t',.int k t''] }).objs.size:=by simpa using hb
     subst e;exact I2.CS (aQ _) (I2.hok.fresh (aQ _))
theorem TV{a:Expr}{ta:TA}{p pos:Pos}(hg:Gl X "range")(hm:X.mg "range"=none)(ha:bA X [a] ta)(hs:starEach [a] X.env=[(false,eval a X.env)] :=by rfl):bE X (.Call (.Name "range" p) [a] [] pos) (agv ta):=by have ha:=ha.h;constructor;intro pins s σ H Q I h;refine Call_ (u9 I hg hm boot_range (RX (bH (ha pos pins s σ H _ I h) λus s1 ⟨vs,H1,I1,r1,q1⟩=>?_) hs rfl));obtain⟨j,e,q⟩:=q1;subst e;obtain⟨u,rfl,ru⟩:=vals1 r1;obtain⟨t,rfl⟩:=ru;exact call_range_1 ⟨.ref s1.heap.objs.size,_,I1.laid (a:=s1.heap.objs.size) (o:=.xT 0 j) (λb o e=>cK _ e) (aQ _) ⟨_,_,_,eY _ rfl⟩,Z,q _ I1.fresh⟩
theorem iO(h:bA X es t):bE X (.List es pos) (agl t):=by have h:=h.h;constructor;intro pins s σ H Q I hq;refine wpAny_List_spliced (bH (h pos pins s σ H _ I hq) λus s1 ⟨xs,H1,I1,r,z,q⟩=>⟨by rw[<-r.length];exact z,?_⟩);have hf:H1 s1.heap.objs.size=none:=I1.hok.fresh (aQ _);refine⟨.ref s1.heap.objs.size,upd H1 s1.heap.objs.size (.lst xs),I1.laid (t':=s1.toks) (λb u e=>cK _ e) (aQ _) ?_,Z,q _ hf⟩;exact⟨z,us,0,r,eY _ rfl⟩
theorem qz(K:Fg){o value:Expr}{f:Str}{ta tv:TE}{pos tpos:Pos}{op:Operator}{rd:V->V->Hp->VK->Prop}(ha:bE X o ta)(hv:bE X value tv)(hop:KC X op rd)(hK:X.K=K:=by rfl):bS X (.AugAssign (.Attribute o f tpos) op value pos) (O4 K ta tv rd f):=by have ha:=ha.h;have hv:=hv.h;exact⟨hK▸Sf ha hv hop⟩
theorem abh{j pos}:bE X (.Constant .none j pos) (tC .cy):=by exact⟨λ_ _ _ H _ I h=>Constant_none ⟨.cy,H,I,Z,h⟩⟩
theorem V5{i:Nat}{x:Str}{px pos':Pos}{tg iter elt cond:Expr}{scope:Scope}{pos:Pos}(N2:List Str)(ix:List (Option Nat)){wi:TI}{g:TG}{tc:TT}{te:TE}(hN:X.N.Nodup)(hi:X.N[i]?=some x)(hx:X.env.scope.names.lookup x=some .local)(hc:X.calm=true)(hit:bI X tg iter wi)(hg:∀cl s₂ H₂ fp,bG (dg X N2 scope cl s₂ H₂ fp) tg g)(he:∀cl s₂ H₂ fp,bE (dg X N2 scope cl s₂ H₂ fp) elt te)(ht:∀cl s₂ H₂ fp,bT (dg X N2 scope cl s₂ H₂ fp) cond tc)(hk:scope.kind =.function)(hn:nX X.N X.env.scope.names scope.names N2 ix=true)(hw:swapsWith (.ListComp elt [⟨tg,iter,[cond],0⟩] scope pos) (some (.Name x px)) pos'.line X.env=pure true)(hs:∀x,foldedSetIterable iter X.env x=pure x:=by intro _;rfl):bS X (.Assign [.Name x px] (.ListComp elt [⟨tg,iter,[cond],0⟩] scope pos) pos') (Ky (Ek wi ix g tc te) (mh i)):=⟨VC N2 ix hN hi hx hc hit.h (λcl s₂ H₂ fp=>(hg cl s₂ H₂ fp).h) (λcl s₂ H₂ fp=>(he cl s₂ H₂ fp).h) (λcl s₂ H₂ fp=>(ht cl s₂ H₂ fp).h) hk hn hw hs⟩
theorem Gr{ob:Expr}{td:TE}{apos cpos:Pos}(hob:bE X ob td)(hbase:attributeBase ob "values" X.env (eval ob X.env)=eval ob X.env:=by rfl)(hline:(apos.endLine==cpos.line)=true:=by rfl):bE X (.Call (.Attribute ob "values" apos) [] [] cpos) (adq td):=by have hob:=hob.h;constructor;intro pins s σ H Q I h;refine wpAny_Call_method0_late hbase hline (bH (hob pins s σ H _ I h) λv s1 ⟨x,H1,I1,r1,q1⟩=>?_);obtain⟨d,kvs,rfl,e,fin⟩:=q1;cases r1;obtain⟨t1,t2,hsys⟩:=KS I1 (.inl ⟨kvs,e⟩);obtain⟨hz,_,vs,rel,dd⟩:=sH I1.hok e;refine⟨"dict",_,F.plainAttrs_dict,QG,F.type_dict_values,t1,t2,QA rfl (PySem.evalArgs_none ?_)⟩;refine call_meetsIn QG dd.typeIs F.entry_dict_values (F.args_dict_values_1 _) (meets_dict_values (dh X.prog X.w) d hsys) ⟨⟨vs,dd⟩,?_⟩;refine⟨.ref s1.heap.objs.size,_,I1.laid (t':=s1.toks) (o:=mq s1.heap.objs.size d) (λb u e=>cK _ e) (aQ _) ?_,Z,fin _ I1.fresh⟩;refine⟨⟨_,eY _ rfl,Z,Z⟩,⟨_,eY _ rfl⟩,λh1 h2 ⟨o,a,b⟩ k=>⟨o,k o a,b⟩⟩
theorem Xa{j k:Nat}{x:Str}{C:Addr}{ps:List Str}{sp:Sp}{e:Expr}{es:List Expr}{t:TA}{p pos:Pos}(D:Cn X.prog X.w X.K X.mg X.base j x C ps sp)(hr:fq k X.A)(ha:bA X (e::es) t)(hj:j+1<=k:=by decide)(hg:Gl X x:=by rfl)(hdb:(x==("__debug__":Str))=false:=by decide)(he:starEach (e::es) X.env=(false,eval e X.env)::starEach es X.env:=by rfl)(hpl:(backTo pos (starEach es X.env)).any (·.1)=false:=by rfl):bE X (.Call (.Name x p) (e::es) [] pos) (J3 C sp [] E0 t):=by have ha:=ha.h;constructor;obtain⟨f,fd,F,b,M,m⟩:=D.ex;exact XW M F (hr.mono hj) hg m b .nil (λ_ _ _ _ _ _ _ h=>h.elim) ha hdb he hpl
theorem YN{x:Str}{v:V}{u:Value}{pos:Pos}(hg:Gl X x)(hm:X.mg x=some u)(r:RelV v u)(hd:(x==("__debug__":Str))=false:=by decide):bE X (.Name x pos) (tC v):=by exact⟨λ_ _ _ H _ I h=>BC I hg hm ⟨v,H,I,r,h⟩ hd⟩
theorem kO(hc:iH X (.type T) r)(hg:Gl X x)(hm:X.mg x=none)(hv:bootBuiltins x=some (.type T))(ha:bA X (e::es) t)(hn:x ≠ "__name__":=by decide)(hdb:(x==("__debug__":Str))=false:=by decide)(he:starEach (e::es) X.env=(false,eval e X.env)::starEach es X.env:=by rfl)(hpl:(backTo pos (starEach es X.env)).any (·.1)=false:=by rfl):bE X (.Call (.Name x p) (e::es) [] pos) (Z6 r t):=by have ha:=ha.h;constructor;intro pins s σ H Q I h;refine Kf (u9 I hg hm hv ?_ hn hdb);exact RX (bH (ha pos pins s σ H _ I h) λus s1 ⟨vs,H1,I1,r1,q1⟩=>hc pins s1 σ H1 vs us Q I1 r1 q1) he hpl
theorem iS{rest:List Expr}(ha:bT X a tA)(hb:bW X (.BoolOp .Or (b::rest) pos) WH):bW X (.BoolOp .Or (a::b::rest) pos) (tOr tA WH):=by
 have ha:=ha.h;have hb:=hb.h;constructor;intro wh pins s σ H Q I h;refine isTrue_or (bH (ha pins s σ H _ I h) λc s1 ⟨H1,I1,q1⟩=>?_);cases c with
 | true=>exact⟨H1,I1,q1⟩
 | false=>exact hb wh pins s1 σ H1 Q I1 q1
theorem rM(ha:bT X a tA):bW X (.BoolOp .And [a] pos) tA:=by
 have ha:=ha.h;constructor;intro wh pins s σ H Q I h;refine isTrue_and (bH (ha pins s σ H Q I h) λc s1 e=>?_);cases c with
 | true=>exact isTrue_and_nil e
 | false=>exact e
theorem bZ{c:Expr}{a b:List Stmt}{tc:TT}(hc:bT X c tc)(ha:cY X a t)(hb:cY X b u):bS X (.If c a b pos) (ZA tc t u):=⟨WI hc.h ha.h hb.h⟩
theorem TY{i j:Nat}{x y:Str}{a b:Expr}{ta:TA}{px py pt:Pos}{kt k2 pt2}(hc:X.calm=true)(hN:X.N.Nodup)(hi:X.N[i]?=some x)(hj:X.N[j]?=some y)(hij:i≠j)(hx:X.env.scope.names.lookup x=some .local)(hy:X.env.scope.names.lookup y=some .local)(ha:bA X [a,b] ta)(hw:swappedStores [.Tuple [.Name x px,.Name y py] kt pt] (.Tuple [a,b] k2 pt2) X.env=pure (some [x,y]))(hs:swapsWithSole [.Tuple [.Name x px,.Name y py] kt pt] (.Tuple [a,b] k2 pt2) pos.line X.env=pure false:=by rfl):bS X (.Assign [.Tuple [.Name x px,.Name y py] kt pt] (.Tuple [a,b] k2 pt2) pos) (agf i j ta):=by
 have ha:=ha.h;constructor;intro pins s σ H D I h;rw[exec_Assign_arm];refine ay (Bu ?_);rw[hs];refine ay (bg ?_);rw[au (by decide)];refine ay (Tuple_ (bH (ha _ pins s σ H _ I h) λus s1 ⟨vs,H1,I1,r1,q1⟩=>?_));obtain⟨v,w,e1,q1⟩:=q1;subst e1;obtain⟨u1,u2,rfl,rv,rw'⟩:∃u1 u2,us=[u1,u2]/\RelV v u1/\RelV w u2:=by
  cases r1 with
  | cons p q=>
   cases q with
   | cons p' q'=>cases q';exact⟨_,_,Z,p,p'⟩
 refine yp ?_ (by show 2<=sizeLine;decide);have I2:Inv X pins σ H1 { s1 with heap:=s1.heap.push { cls:=.type "tuple",data:=.seq [u1,u2].toArray } }:=I1.kept (t':=s1.toks) λb o e=>cK _ e;rw[hw];refine ay (bg ?_);show wpAny (model X.prog X.w) X.A (do rule "assign.swapped-stores";let items <-unpackItems (.ref s1.heap.objs.size) 2 none;assignInOrder [λv=>bindName X.env y v,λv=>bindName X.env x v] items.reverse;pure Flow.next) _ _ _;refine ay (wpAny_rule (ay (unpackItems_tuple (items:=#[u1,u2]) (I.ok.hd hc) (IsTup.new s1.heap _) λh' hx'=>?_)));have I3:=I2.kept (h':=h') (t':=s1.toks) λb o e=>hx' b o (e_ (cg e)) e;show wpAny _ _ (assignInOrder [λv=>bindName X.env y v,λv=>bindName X.env x v] [u2,u1] >>= λ_=>pure Flow.next) _ _ _;refine ay (assignInOrder_cons (wpAny_bindName (yC I3 hN hj (.inl hy) rw' (λs2 I4=>?_) (.inr hy))));refine assignInOrder_cons (wpAny_bindName (yC I4 hN hi (.inl hx) rv (λs3 I5=>assignInOrder_nil (bg ?_)) (.inr hx)));rw[List.set_comm _ _ (cu hij)]at I5;exact⟨_,H1,I5,q1⟩
theorem iz{c:Expr}{a b:List Stmt}{tc:TT}{t u:TS}(hc:bT X c tc)(ha:cY X a t)(hb:cY X b u):bS X (.If c a b pos) (aap tc t u):=by
 have hc:=hc.h;have ha:=ha.h;have hb:=hb.h;constructor;intro pins s σ H D I h;obtain⟨J,h,hJ⟩:=h;refine bH (WI hc ha hb pins s σ H { D with nx:=J } I h) λf s' q=>?_;cases f with
 | next=>obtain⟨σ',H',I',q⟩:=q;exact⟨σ',H',I',hJ _ _ q⟩
 | cont=>exact q
 | brk=>exact q
 | ret v=>exact q
theorem aj{st:Stmt}{rest:List Stmt}(h1:bS X st t)(h2:cY X rest u):cY X (st::rest) (u_ t u):=by
 have h1:=h1.h;have h2:=h2.h;constructor;intro pins s σ H D I h;refine wpAny_execs_cons (bH (h1 pins s σ H { D with nx:=u D } I h) λf s1 q=>?_);cases f with
 | next=>obtain⟨σ',H',I',q⟩:=q;exact h2 pins s1 σ' H' D I' q
 | ret v=>exact q
 | brk=>exact q
 | cont=>exact q
theorem abj(K:Fg){e st:Expr}{te ts:TE}{pos p2:Pos}(he:bE X e te)(hst:bE X st ts)(hK:X.K=K:=by rfl):bE X (.Subscript e (.Slice none none (some st) p2) pos) (agw K te ts):=by have he:=he.h;have hst:=hst.h;constructor;subst hK;intro pins s σ H Q I h;refine Subscript_ (bH (he pins s σ H _ I h) λv s1 ⟨x,H1,I1,r1,q1⟩=>?_);refine wpAny_Slice ?_;rw[evalPart_none];refine bg (bg ?_);rw[evalPart_some];refine bH (hst pins s1 σ H1 _ I1 q1) λw3 s3 ⟨y,H3,I3,r3,q3⟩=>?_;obtain⟨ey,a,xs,rfl,hx,q⟩:=q3;subst ey;obtain⟨t,rfl⟩:=r3;cases r1;have I4:Inv X pins σ H3 { s3 with heap:=s3.heap.push { cls:=.type "slice",data:=.fields #[.none,.none,.int (-1) t] } }:=I3.kept (t':=s3.toks) λb ob q=>cK _ q;obtain⟨its,r,ht,hz⟩:=I4.list hx;have hlen:=r.length;refine tail_any (ops:=[.ref a,.ref s3.heap.objs.size]) ht.isList.typeIs slot_list_getitem.lookup ?_ (by with_unfolding_all rfl);refine wpAny_getItem_list_slice ht.isList (Heap.IsSliceOf.new ..) .none .none (.int (-1) t) (by decide) ?_ (by rw[i9] <;> omega);rw[PySem.W.krv_pick];refine⟨.ref _,_,I4.laid (t':=s3.toks) (o:=.lst xs.reverse) (λb ob q=>cK _ q) (aQ _) ?_,Z,q _ I4.fresh⟩;exact⟨by rw[List.length_reverse];exact hz,its.reverse,0,r.reverse,eY _ rfl⟩
theorem iT(K:Fg){X:Cx}{es:List Expr}{k:Nat}{t:DT}{n:Nat}{pos:Pos}(hc:X.calm=true)(h:W8 X es t)(hK:X.K=K:=by rfl)(hn:(assignEach es X.env).length=n:=by rfl)(hst:(assignEach es X.env).findIdx? (·.1)=none:=by rfl):bG X (.Tuple es k pos) (CQ K n t):=by have h:=h.h;exact⟨hK▸ZG hc h hn hst⟩
theorem bM(hu:X.A.units+1<cLine)(ho:bE X o td)(hi:bE X i ty)(hs:aaf i:=by exact λ_ _=>rfl):bE X (.Subscript o i pos) (Q5 td ty):=by have ho:=ho.h;have hi:=hi.h;constructor;intro pins s σ H Q I h;refine X0 PySem.F.slot_dict_getitem.lookup hs (bH (ho pins s σ H _ I h) λu s1 ⟨x,H1,I1,rx,q1⟩=>bH (hi pins s1 σ H1 _ I1 q1) λiv s2 ⟨y,H2,I2,ry,a,v,ex,g,q2⟩=>?_);subst ex;obtain rfl:u=Value.ref a:=rx;exact⟨NI I2 g,Ss hu I2 g ry λw' s3 I3 rw'=>⟨v,H2,I3,rw',q2⟩⟩
theorem ak:bA X [] rA:=by exact⟨λ_ _ _ _ H Q I h=>Calls.spliced_nil ⟨[],H,I,.nil,h⟩⟩
theorem ai{i j pos}:bE X (.Constant (.int i) j pos) (tC (.int i)):=by exact⟨λ_ _ _ H _ I h=>wpAny_Constant_int ⟨.int i,H,I.tok _,⟨_,Z⟩,h⟩⟩
theorem LL{rest:List Expr}(ha:bE X a ta)(hb:bE X (.BoolOp .And (b::rest) pos) tb):bE X (.BoolOp .And (a::b::rest) pos) (acS ta tb):=by
 have ha:=ha.h;have hb:=hb.h;constructor;intro pins s σ H Q I h;refine BoolOp_and (bH (ha pins s σ H _ I h) λv s1 ⟨x,H1,I1,r1,q1⟩=>?_);obtain⟨c,rfl,q1⟩:=q1;cases r1;refine CO ?_;cases c with
 | true=>exact hb pins s1 σ H1 Q I1 q1
 | false=>exact⟨.bl false,H1,I1,Z,q1⟩
theorem rN:bE X (.Dict [] [] pos) aaj:=by
 exact⟨λpins s σ H Q I h=>
 wpAny_Dict_empty ⟨.ref s.heap.objs.size,_,I.laid (a:=s.heap.objs.size) (o:=.dK []) (t':=s.toks) (λ_ _ q=>cK _ q) (aQ _) (KR s.heap I.big),Z,h _ (I.hok.fresh (aQ _))⟩⟩
theorem iY{tg e:Expr}{te:TE}{g:TG}(he:bE X e te)(hg:bG X tg g)(hs:swapsWithSole [tg] e pos.line X.env=pure false:=by rfl)(hw:swappedStores [tg] e X.env=pure none:=by rfl)(h1:(assignEach [tg] X.env).map (·.2)=[assign tg X.env] :=by rfl):bS X (.Assign [tg] e pos) (Ky te g):=by have he:=he.h;have hg:=hg.h;constructor;intro pins s σ H D I h;refine wpAny_Assign_stores (bH (he pins s σ H _ I h) λv s1 ⟨x,H1,I1,r1,q1⟩=>?_) hs hw;rw[h1];exact bH (hg pins s1 σ H1 x v _ I1 r1 q1) λ_ s2 q=>q
theorem C_{elts:List Expr}{kk:Nat}{tpos:Pos}{ob:Expr}{td:TE}{apos cpos:Pos}(hob:bE X ob td)(hbase:attributeBase ob "items" X.env (eval ob X.env)=eval ob X.env:=by rfl)(hline:(apos.endLine==cpos.line)=true:=by rfl):bI X (.Tuple elts kk tpos) (.Call (.Attribute ob "items" apos) [] [] cpos) (aaG td):=by
 have hob:=hob.h;constructor;intro pins s σ H R I h;refine wpAny_Call_method0_late hbase hline (bH (hob pins s σ H _ I h) λv s1 ⟨x,H1,I1,r1,q1⟩=>?_);obtain⟨d,o,kvs,rfl,e,fin⟩:=q1;cases r1;obtain⟨ho,hz,hsys,vs,ep,rel,da⟩:=I1.sL e;obtain⟨t1,t2,_⟩:=KS I1 (.inl ⟨kvs,.inr ⟨o,e⟩⟩);have dd:=da.dictOf;refine⟨"dict",_,F.plainAttrs_dict,F.slot_dict_items,F.type_dict_items,t1,t2,QA rfl (PySem.evalArgs_none ?_)⟩;refine call_meetsIn F.slot_dict_items dd.typeIs F.entry_dict_items (F.args_dict_items_1 _) (meets_dict_items (dh X.prog X.w) d hsys) ⟨⟨vs,dd⟩,?_⟩;refine wpAny_pyIter_items (s:={ s1 with heap:=s1.heap.push { cls:=.type "dict_items",data:=.fields #[.ref d] } }) ⟨_,eY _ rfl,Z,Z⟩ (da.push _) ?_;have Iv:Inv X pins σ H1 { s1 with heap:=s1.heap.push { cls:=.type "dict_items",data:=.fields #[.ref d] } }:=I1.kept (t':=s1.toks) λb o e=>cK _ e;generalize ({ s1 with heap:=s1.heap.push { cls:=.type "dict_items",data:=.fields #[.ref d] } }:Shared)=sv at *;have I2:Inv X pins σ H1 { sv with heap:=sv.heap.push { cls:=.type "dict_itemiterator",data:=.fields #[.none,.bool false,.ref d,.int 0 0,.int vs.length 0,.int ep 0,.none,.none] } }:=Iv.kept (t':=sv.toks) λb o e=>cK _ e;have hl:kvs.length=vs.length:=rel.length;obtain⟨o',es,h1,_,h2,_⟩:=id da;rw[ho]at h1;cases h1;refine⟨sv.heap.objs.size,[sv.heap.objs.size],_,_,H1,Z,I2,Rb h2,?_,λb hb=>?_,fin⟩
 .rw [hl];exact⟨_,_,eY _ rfl⟩
 .have eb:b=sv.heap.objs.size:=by simpa using hb
  subst eb;exact Iv.CS (aQ _) (Iv.hok.fresh (aQ _))
theorem abk{tg:Expr}{l:Expr}{tl:TE}(hl:bE X l tl):bI X tg l (aaz tl):=⟨aaA hl.h⟩
theorem iA(ha:bT X a tA):bW X (.BoolOp .Or [a] pos) tA:=by
 have ha:=ha.h;constructor;intro wh pins s σ H Q I h;refine isTrue_or (bH (ha pins s σ H Q I h) λc s1 e=>?_);cases c with
 | false=>exact isTrue_or_nil e
 | true=>exact e
theorem x_{X:Cx}{st:Stmt}{t:TS}(h:bS X st t):bS X st (agx t):=by
 have h:=h.h;constructor;intro pins s σ H D I hw;obtain⟨d,kvs,e,hw⟩:=hw;obtain⟨ho,es,ep,h1,_⟩:=(D0 I.hok e).2.2.choose_spec.2;have h0:=I.SW e;refine bH (h pins s σ _ _ (I.freeze e h1) (hw ho)) λf s' q=>?_;cases f with
 | next=>obtain⟨σ',H',I',q1,q2⟩:=q;exact⟨σ',_,I'.CW q1 h0,q2⟩
 | brk=>obtain⟨σ',H',I',q1,q2⟩:=q;exact⟨σ',_,I'.CW q1 h0,q2⟩
 | cont=>obtain⟨σ',H',I',q1,q2⟩:=q;exact⟨σ',_,I'.CW q1 h0,q2⟩
 | ret u=>obtain⟨v,σ',H',I',r,q1,q2⟩:=q;exact⟨v,σ',_,I'.CW q1 h0,r,q2⟩
theorem pY(hu:X.A.units+1<cLine)(ho:bE X o td)(hi:bE X i ty)(hv:bE X value tv)(hs:swapsWith value (some (.Subscript o i pos')) pos.line X.env=pure false):bS X (.Assign [.Subscript o i pos'] value pos) (ade td ty tv):=by have ho:=ho.h;have hi:=hi.h;have hv:=hv.h;constructor;intro pins s σ H D I h;refine wpAny_Assign_Subscript (bH (hv pins s σ H _ I h) λr s1 ⟨v,H1,I1,rv,q1⟩=>bH (ho pins s1 σ H1 _ I1 q1) λu s2 ⟨x,H2,I2,rx,q2⟩=>bH (hi pins s2 σ H2 _ I2 q2) λiv s3 ⟨y,H3,I3,ry,a,H4,ex,g,q3⟩=>?_) hs;subst ex;obtain rfl:u=Value.ref a:=rx;exact Su hu I3 g ry rv λs4 I4=>⟨σ,H4,I4,q3⟩
theorem qv(i:Nat){x:Str}{pos:Pos}(hN:X.N[i]?=some x:=by rfl)(hv:WC X.env.scope x:=by first|exact Or.inl rfl|exact Or.inr (Or.inl rfl)|exact Or.inr (Or.inr rfl))(hd:(x==("__debug__":Str))=false:=by decide)(hcd:(x==("__classdict__":Str))=false:=by decide):bE X (.Name x pos) (FY i):=by exact⟨Zx hN hv hd hcd⟩
theorem aJ{id:String}(hc:iH X (.builtin id) r)(hg:Gl X x)(hm:X.mg x=none)(hv:bootBuiltins x=some (.builtin id))(ha:bA X (e::es) t)(hn:x ≠ "__name__":=by decide)(hdb:(x==("__debug__":Str))=false:=by decide)(he:starEach (e::es) X.env=(false,eval e X.env)::starEach es X.env:=by rfl)(hpl:(backTo pos (starEach es X.env)).any (·.1)=false:=by rfl):bE X (.Call (.Name x p) (e::es) [] pos) (Z6 r t):=by have ha:=ha.h;constructor;intro pins s σ H Q I h;refine Kf (u9 I hg hm hv ?_ hn hdb);exact PyProof.Rows.callWith_builtin1 (bH (ha pos pins s σ H _ I h) λus s1 ⟨vs,H1,I1,r1,q1⟩=>hc pins s1 σ H1 vs us Q I1 r1 q1) he hpl
theorem iZ{o i:Expr}{to ti:TE}{t:tX}(ho:bE X o to)(hi:bE X i ti)(hs:U1 X t)(ha:∀v,assign (.Subscript o i pos) X.env v=(do
   let ov <-holding [v] (eval o X.env)
   let iv <-holding [v,ov] (eval i X.env)
   standAt pos
   holding [v,ov,iv] (setItem ov iv v)
   release [v,ov,iv] []):=by intro _;rfl):bG X (.Subscript o i pos) (age to ti t):=by
 have ho:=ho.h;have hi:=hi.h;constructor
 intro pins s σ H v u Q I r h
 rw[ha]
 refine ay (Bv (bH (ho pins s σ H _ I h) λov s1 ⟨x,H1,I1,r1,q1⟩=>?_))
 refine ay (Bv (bH (hi pins s1 σ H1 _ I1 q1) λiv s2 ⟨y,H2,I2,r2,q2⟩=>?_))
 refine ay (Bu (ay (Bv (bH (hs pins s2 σ H2 x y v ov iv u _ I2 r1 r2 r q2) λ_ s3 ⟨H3,I3,q3⟩=>?_))))
 exact wpAny_release ⟨σ,H3,I3,q3⟩
theorem gF{st:Stmt}:bS X st ZC:=by exact⟨λ_ _ _ _ _ _ h=>h.elim⟩
theorem TZ{j k:Nat}{x:Str}{C:Addr}{ps:List Str}{sp:Sp}{p pos:Pos}(D:Cn X.prog X.w X.K X.mg X.base j x C ps sp)(hr:fq k X.A)(hj:j+1<=k:=by decide)(hg:Gl X x:=by rfl)(hdb:(x==("__debug__":Str))=false:=by decide):bE X (.Call (.Name x p) [] [] pos) (J3 C sp [] E0 rA):=by constructor;obtain⟨f,fd,F,b,M,m⟩:=D.ex;exact Vh M F (hr.mono hj) hg m b .nil (λ_ _ _ _ _ _ _ h=>h.elim) hdb
theorem af(ha:bE X e te)(hr:bA X es t)(hs:starEach (e::es) X.env=(false,eval e X.env)::starEach es X.env:=by rfl):bA X (e::es) (QY te t):=by have ha:=ha.h;have hr:=hr.h;constructor;intro pos pins s σ H Q I h;rw[hs];show wpAny _ _ (spliced ((false,eval e X.env)::backTo pos (starEach es X.env))) _ _ s;refine Calls.spliced_cons (bH (ha pins s σ H _ I h) λu s1 ⟨x,H1,I1,r1,q1⟩=>?_);exact bH (hr pos pins s1 σ H1 _ I1 q1) λus s2 ⟨xs,H2,I2,r2,q2⟩=>⟨x::xs,H2,I2,.cons r1 r2,q2⟩
theorem aP(K:Fg){e:Expr}{f:Str}{ta:TE}{pos:Pos}(he:bE X e ta)(hb:attributeBase e f X.env (eval e X.env)=eval e X.env:=by rfl)(hK:X.K=K:=by rfl):bE X (.Attribute e f pos) (ZT K ta f):=by have he:=he.h;exact⟨hK▸ZW he hb⟩
theorem BZ{op:CmpOp}{r:R2}(ho:jm X (compareOp op) r)(ha:bE X a ta)(hb:bE X b tb)(hm:behindInMarks op b=false):bE X (.Compare a [op] [b] pos) (Ht r ta tb):=by have ha:=ha.h;have hb:=hb.h;constructor;intro pins s σ H Q I h;exact wpAny_Compare1 (U9 ha hb I h λv u s2 x y H2 I2 rx ry q=>ho pins s2 σ H2 x y v u Q I2 rx ry q) hm
theorem bB{j k:Nat}{x:Str}{ps:List Str}{sp:Sp}{e:Expr}{es:List Expr}{t:TA}{p pos:Pos}(D:Dn X.prog X.w X.K X.mg X.base j x ps sp)(hr:fq k X.A)(ha:bA X (e::es) t)(hj:j<=k:=by decide)(hg:Gl X x:=by rfl)(hdb:(x==("__debug__":Str))=false:=by decide)(he:starEach (e::es) X.env=(false,eval e X.env)::starEach es X.env:=by rfl)(hpl:(backTo pos (starEach es X.env)).any (·.1)=false:=by rfl):bE X (.Call (.Name x p) (e::es) [] pos) (WM sp [] E0 t):=by have ha:=ha.h;constructor;obtain⟨f,fd,F,b,kp,m⟩:=D.ex;exact XT F (hr.mono hj) hg m kp b .nil (λ_ _ _ _ _ _ _ h=>h.elim) ha hdb he hpl
theorem qA{rest:List Expr}(ha:bT X a tA)(hb:bW X (.BoolOp .And (b::rest) pos) WH):bW X (.BoolOp .And (a::b::rest) pos) (af_ tA WH):=by
 have ha:=ha.h;have hb:=hb.h;constructor;intro wh pins s σ H Q I h;refine isTrue_and (bH (ha pins s σ H _ I h) λc s1 ⟨H1,I1,q1⟩=>?_);cases c with
 | true=>exact hb wh pins s1 σ H1 Q I1 q1
 | false=>exact⟨H1,I1,q1⟩
section
variable {P:Program}{w:World}{K:Fg}{mg:SO}{base:Heap}{f C:Addr}{fd:FuncData}{N ps:List Str}{k:Nat}{sp:Sp}{x m qual:Str}{st:Stmt}
theorem dF{N P:List Str}{sc:Scope}(a:sc.kind =.function:=by rfl)(b:sc.isCoroutine=false:=by rfl)(c:sc.isGenerator=false:=by rfl)(d:N.Nodup:=by decide +kernel)(e:N.take P.length=P:=by rfl)(f:∀x∈P,sc.names.lookup x=some .local\/sc.names.lookup x=some .cell:=by decide +kernel)(g:∀y∈sc.names,y.2 ≠ .free:=by decide +kernel):aR N P sc:=⟨a,b,c,d,e,f,g⟩
theorem At.oA(F:At K mg x st f fd)(S:aR N ps (aD st))(hbody:∀(cdv:Value) (A:Around) (outer:List Env) (s:Shared) (H:Hp) (vs:List V) (Q:VK) (E:XK),fq k (A.deeper (envOfC x (aD st) s.heap.objs.size f cdv))->sp vs H Q E->
    ∃t,wK (tY vh P w K mg base N x (aD st) f cdv A outer s H E).Cq (dQ st) t/\t { nx:=λ_ H'=>Q .cy H',rt:=Q } (start N vs) H)(len:∀vs H Q E,sp vs H Q E->vs.length=ps.length:=by intro vs H Q E h;first|(cases h.ex;subst_vars;rfl)|(have h:=h.ex;(repeat first|(obtain⟨rfl,_⟩:=h;rfl)|(obtain⟨_,h⟩:=h));done)|(repeat first|(obtain⟨rfl,_⟩:=h;rfl)|(obtain⟨_,h⟩:=h)))(h:∀(kV doc pm:Value) (an:Option Addr) (cdv ct:Value) (us:List Value),us.length=ps.length->bindArgs (PySem.W.fnOf x x (gi st) (dQ st) (aD st) .none kV doc pm an cdv ct) ⟨us,[]⟩=pure (ps.zip us):=by intro _ _ _ _ _ _ us hl;repeat' (first|rfl|(simp at hl;done)|(rcases us with _|⟨_,us⟩))):Dn P w K mg base (k+1) x ps sp:=F.ok S len hbody h
theorem jq.oA(F:jq K C m qual st f fd)(S:aR N ps (aD st))(hbody:∀(cdv:Value) (A:Around) (outer:List Env) (s:Shared) (H:Hp) (vs:List V) (Q:VK) (E:XK),fq k (A.deeper (envOfC qual (aD st) s.heap.objs.size f cdv))->sp vs H Q E->
    ∃t,wK (tY vh P w K mg base N qual (aD st) f cdv A outer s H E).Cq (dQ st) t/\t { nx:=λ_ H'=>Q .cy H',rt:=Q } (start N vs) H)(len:∀vs H Q E,sp vs H Q E->vs.length=ps.length:=by intro vs H Q E h;first|(cases h.ex;subst_vars;rfl)|(have h:=h.ex;(repeat first|(obtain⟨rfl,_⟩:=h;rfl)|(obtain⟨_,h⟩:=h));done)|(repeat first|(obtain⟨rfl,_⟩:=h;rfl)|(obtain⟨_,h⟩:=h)))(h:∀(kV doc pm:Value) (an:Option Addr) (cdv ct:Value) (us:List Value),us.length=ps.length->bindArgs (PySem.W.fnOf m qual (gi st) (dQ st) (aD st) .none kV doc pm an cdv ct) ⟨us,[]⟩=pure (ps.zip us):=by intro _ _ _ _ _ _ us hl;repeat' (first|rfl|(simp at hl;done)|(rcases us with _|⟨_,us⟩))):Mn P w K mg base (k+1) C m ps sp:=F.ok S len hbody h
theorem HM.oA(F:HM K mg x C qual st f fd)(S:aR N ps (aD st))(hbody:∀(cdv:Value) (A:Around) (outer:List Env) (s:Shared) (H:Hp) (vs:List V) (Q:VK) (E:XK),fq k (A.deeper (envOfC qual (aD st) s.heap.objs.size f cdv))->sp vs H Q E->
    ∃t,wK (tY vh P w K mg base N qual (aD st) f cdv A outer s H E).Cq (dQ st) t/\t { nx:=λ_ H'=>Q .cy H',rt:=Q } (start N vs) H)(len:∀vs H Q E,sp vs H Q E->vs.length=ps.length:=by intro vs H Q E h;first|(cases h.ex;subst_vars;rfl)|(have h:=h.ex;(repeat first|(obtain⟨rfl,_⟩:=h;rfl)|(obtain⟨_,h⟩:=h));done)|(repeat first|(obtain⟨rfl,_⟩:=h;rfl)|(obtain⟨_,h⟩:=h)))(h:∀(kV doc pm:Value) (an:Option Addr) (cdv ct:Value) (us:List Value),us.length=ps.length->bindArgs (PySem.W.fnOf "__init__" qual (gi st) (dQ st) (aD st) .none kV doc pm an cdv ct) ⟨us,[]⟩=pure (ps.zip us):=by intro _ _ _ _ _ _ us hl;repeat' (first|rfl|(simp at hl;done)|(rcases us with _|⟨_,us⟩))):Cn P w K mg base (k+1) x C ps sp:=F.ok S len hbody h
end
def mY(b:BS)(x:Str)(F:BP->BP):BS:={ b with ah:=(b.ah.map λp=>if p.nm=x then F p else p).filter λp=>decide (0<p.wo) }
def rO(b:BS)(x:Str):BP:=(b.ah.find? λp=>decide (p.nm=x)).getD ⟨x,x,0,0,[]⟩
def jb(b:BS)(o:Str)(p:BP):BP:={ p with ow:=o,tops:=(p.tops.set (b.own.idxOf p.ow) 0).set (b.own.idxOf o) ((p.tops.set (b.own.idxOf p.ow) 0).getD (b.own.idxOf o) 0+p.tops.getD (b.own.idxOf p.ow) 0) }
def AN(b:BS)(x y:Str)(a we:Int):BS:={ b with
 ah:=((b.ah.map λp:BP=>if p.nm=x then{ p with wo:=p.wo-a,we:=p.we-we } else p)++[BP.mk y (rO b x).ow a we (rO b x).tops]).filter λp=>decide (0<p.wo)
 ef:=b.ef++[y] }
def B0(b:BS)(x:Str):BS:={ mY b x λp=>{ p with wo:=0 }with c6:=b.c6++[⟨x,(rO b x).ow,(rO b x).wo,(rO b x).tops,b.bot⟩] }
def yZ(b:BS):Dd->BS
 | .sign _=>b
 | .load x o wo we=>yT b x o wo we
 | .cast rs=>ja b (dm b rs) 0 0
 | .award o a=>ja b (List.replicate b.ah.length 0) (b.own.idxOf o) a
 | .mishap x a=>mY b x λp=>{ p with wo:=p.wo-a }
 | .rise x a=>mY b x λp=>{ p with wo:=p.wo+a }
 | .hand x o=>mY b x (jb b o)
 | .land x=>B0 b x
 | .sever x y a we=>AN b x y a we
 | .still=>b
theorem T3(b:BS)(d:Dd):(yZ b d).own=b.own:=by cases d <;> rfl
inductive adJ(e:Ec)(vs:List V)(H:Hp)(Q:VK)(E:XK):Prop
 |mk(a:Int)(_:vs=[.int a])(_:(a<1->Rf e E H 5))(_:(1<=a->Q .cy H))
def AQ(e:Ec):Sp:=bx (adJ e)
inductive adK(e:Ec)(vs:List V)(H:Hp)(Q:VK)(E:XK):Prop
 |mk(m a:Int)(_:vs=[.int m,.int a])(_:(a<1->Rf e E H 5))(_:(1<=a->m<a->Rf e E H 6))(_:(1<=a->a<=m->Q .cy H))
def LM(e:Ec):Sp:=bx (adK e)
inductive V6(T:TC)(e:Ec)(vs:List V)(H:Hp)(Q:VK)(E:XK):Prop
 |mk(n ρ A st x a:_)(_:vs=[.ref A.a,.str x,.int a])(_:HH T n ρ A H st)(_:Il T e n ρ A H (lT st (x,a)) (eF st (x,a)) Q E)
def Io(T:TC)(e:Ec):Sp:=bx (V6 T e)
inductive abl(T:TC)(e:Ec)(vs:List V)(H:Hp)(Q:VK)(E:XK):Prop
 |mk(n ρ A st x a:_)(_:vs=[.ref A.a,.str x,.int a])(_:HH T n ρ A H st)(_:Il T e n ρ A H (sP st x a:_) (EH st x a:_) Q E)
def PV(T:TC)(e:Ec):Sp:=bx (abl T e)
inductive adL(K:Fg)(vs:List V)(H:Hp)(Q:VK)(E:XK):Prop
 |mk(l:Addr)(us:List V)(ws:List Row)(x:Str)(_:vs=[.ref l,.str x])(_:aB K H l us)(_:Lz K H us ws)(_:(ws.map (λr:Row=>r.1)).Nodup)(_:ws.length<=1000)(_:(∀(i:Nat) (r:Row),ws[i]?=some r->r.1=x->Q (.int (i:Int)) H))(_:((∀r∈ws,r.1≠x)->Q (.int (-1)) H))
def EI(K:Fg):Sp:=bx (adL K)
inductive LN(al:HS->Dd->Prop)(K:Fg)(vs:List V)(H:Hp)(Q:VK)(E:XK):Prop
 |mk(n c:Nat)(ρ:fE)(B:BA)(b:BS)(st:HS)(z:Addr)(d:Dd)(_:vs=[.ref B.m,.ref z])(_:H z=some (.tup d.v))(_:Gh ρ H)(_:aZ n ρ B H b)(_:fj c st b)(_:c<=90)(_:Wf st)(_:al st d)(_:PN d)(_:AI st d=none)(_:∀ρ' B' H',Gh ρ' H'->aZ n ρ' B' H' (yZ b d:_)->B'.m=B.m->Fr n ρ H ρ' H'->Q .cy H')
def w_(al:HS->Dd->Prop)(K:Fg):Sp:=bx (LN al K)
theorem Dn.imp{P:Program}{w:World}{K:Fg}{mg:SO}{base:Heap}{k:Nat}{x:Str}{ps:List Str}{sp Sh:Sp}(D:Dn P w K mg base k x ps sp)(h:∀vs H Q E,Sh vs H Q E->sp vs H Q E):Dn P w K mg base k x ps Sh:=by obtain⟨f,fd,F,b,kp,m⟩:=D.ex;exact⟨f,fd,F.imp h,b,kp,m⟩
theorem abm{P:Program}{w:World}{K:Fg}{mg:SO}{base:Heap}{k:Nat}{ps:List Str}(D:Dn P w K mg base k "_law_at" ps (EI K)):Dn P w K mg base k "_law_at" ps (W5 K):=D.imp λvs H Q E h=>by
 obtain⟨⟨l,us,ws,j,r,rfl,hl,hW,nd,hle,ej,q⟩⟩:=h;refine⟨l,us,ws,r.1,Z,hl,hW,nd,hle,λi r' e1 e2=>?_,λz=>absurd rfl (z r (bw ej))⟩;have hi:i<ws.length:=(di.mp e1).1;have r1:(ws.map (λr:Row=>r.1))[i]?=some r'.1:=by rw[bO,e1];rfl
 have r2:(ws.map (λr:Row=>r.1))[j]?=some r.1:=by rw[bO,ej];rfl
 have:i=j:=(FU (by rw[aE];exact hi) nd).mp (r1.trans (by rw[e2];exact r2.symm));rw[this];exact q
theorem oJ{st:HS}{x:Str}(h:x∈fM st):∃(i:Nat)(p:Pt),st.ah[i]?=some p/\p.nm=x:=by obtain⟨p,hp,e⟩:=a_.mp h;obtain⟨i,hi,ei⟩:=oV hp;exact⟨i,p,by rw[bq hi,ei],e⟩
theorem B3{st:HS}{i:Nat}{p:Pt}(h:st.ah[i]?=some p):p.nm∈fM st:=a_.mpr ⟨p,bw h,Z⟩
theorem kY{α:Type}{nm:α->Str}{f:α->α}:∀{l:List α}{i:Nat}{p:α},(l.map nm).Nodup->l[i]?=some p->(l.map λq=>if nm q=nm p then f q else q)=l.set i (f p)
 | [],_,_,_,h=>by simp at h
 | a::l,0,p,nd,h=>by
  have e:a=p:=by simpa using h
  subst e;obtain⟨h1,_⟩:=gK.mp (show(nm a::l.map nm).Nodup from nd);rw[bN,av rfl,Kh];congr 1;refine(tT (g:=id) (λq hq=>au λz=>h1 (a_.mpr ⟨q,hq,z⟩))).trans (List.map_id l)
 | a::l,i+1,p,nd,h=>by
  obtain⟨h1,h2⟩:=gK.mp (show(nm a::l.map nm).Nodup from nd);have h':l[i]?=some p:=by simpa using h
  rw[bN,au (λz=>h1 (a_.mpr ⟨p,bw h',z.symm⟩)),Kg,kY h2 h']
theorem B6{st:HS}(nd:(st.ah.map (·.nm)).Nodup){i:Nat}{p:Pt}(h:st.ah[i]?=some p)(f:Pt->Pt):n_ st p.nm f={ st with ah:=st.ah.set i (f p) }:=by unfold n_;rw[kY (nm:=λp:Pt=>p.nm) nd h]
theorem ya{st:HS}(wf:Wf st){x:Str}{f:Pt->Pt}(h:∀p∈st.ah,p.nm=x->(f p).nm=p.nm/\(f p).ow=p.ow/\(f p).sc=p.sc/\(f p).row=p.row/\1<=(f p).wo/\0<=(f p).we):Wf (n_ st x f):=by
 have P:∀{M:Pt->Prop},(∀p∈st.ah,p.nm=x->M (f p))->(∀p∈st.ah,M p)->∀p∈(n_ st x f).ah,M p:=λa c p hp=>by
  obtain⟨q,hq,rfl⟩:=a_.mp (show p∈st.ah.map _ from hp);by_cases e:q.nm=x
  .rw [av e];exact a q hq e
  .rw [au e];exact c q hq
 have en:(n_ st x f).ah.map (λp:Pt=>p.nm)=st.ah.map (λp:Pt=>p.nm):=by
  show(st.ah.map _).map _=_;rw[d7];refine tT λp hp=>?_;show(if p.nm=x then f p else p).nm=p.nm;by_cases e:p.nm=x
  .rw [av e];exact(h p hp e).1
  .rw [au e]
 refine⟨wf.ua,wf.yL,?_,P (λp hp e=>?_) wf.sub,P (λp hp e=>?_) wf.rows,P (λp hp e=>?_) wf.ow,wf.gc,wf.rD,wf.gC,wf.sM,wf.xC,wf.kR,wf.yM,?_,wf.As,wf.uc,wf.HN,wf.big,wf.oZ,P (λp hp e=>?_) wf.tH,P (λp hp e=>?_) wf.o9,P (λp hp e=>?_) wf.qm,P (λp hp e=>?_) wf.ki,wf.Gg⟩
 .show ((n_ st x f).ah.map (λp:Pt=>p.nm)).Nodup;rw[en];exact wf.fB
 .show (f p).nm∈st.nms;rw[(h p hp e).1];exact wf.sub p hp
 .rw [(h p hp e).2.2.2.1];exact wf.rows p hp
 .show (f p).ow∈st.own;rw[(h p hp e).2.1];exact wf.ow p hp
 .show (st.ah.map _).length<=1000;rw[aE];exact wf.rE
 .rw [(h p hp e).2.2.1];exact wf.tH p hp
 .rw [(h p hp e).2.2.2.1];exact wf.o9 p hp
 .rw [(h p hp e).2.2.2.1,(h p hp e).2.2.1];exact wf.qm p hp
 .exact (h p hp e).2.2.2.2
def pD(p:BP):Q4:=(p.nm,p.ow,p.wo,p.we)
theorem B9{l:List BP}{F:BP->BP}{f:Q4->Q4}(h:∀p∈l,pD (F p)=f (pD p)):((l.map F).filter λp=>decide (0<p.wo)).map pD=((l.map pD).map f).filter λq=>decide (0<q.2.2.1):=by
 induction l with
 | nil=>rfl
 | cons p l ih=>
  have ih:=ih λq hq=>h q (cW _ hq);have e:=h p cT;rw[bN,bN,bN,<-e];by_cases c:0<(F p).wo
  .rw [List.filter_cons_of_pos (p:=λp:BP=>decide (0<p.wo)) (bh c),List.filter_cons_of_pos (p:=λq:Q4=>decide (0<q.2.2.1)) (bh (show 0<(pD (F p)).2.2.1 from c)),bN,ih]
  .rw [List.filter_cons_of_neg (p:=λp:BP=>decide (0<p.wo)) (by simpa using c),List.filter_cons_of_neg (p:=λq:Q4=>decide (0<q.2.2.1)) (by simpa using(show ¬ 0<(pD (F p)).2.2.1 from c)),ih]
theorem J5{c:Nat}{st:HS}{b:BS}(g:fj c st b){ps:List Pt}{bs:List BP}(qd:gY { st with ah:=ps }=mC { b with ah:=bs })(hp:∀p'∈ps,∃p∈st.ah,p'.nm=p.nm/\p'.sc=p.sc/\p'.row=p.row)(hb:∀q'∈bs,∃q∈b.ah,q'.nm=q.nm/\q'.ow=q.ow/\q'.tops=q.tops/\1<=q'.wo/\q'.wo<=q.wo+1000000000/\q'.we<=q.we)(sb:(bs.map λp:BP=>p.nm).Sublist (b.ah.map λp:BP=>p.nm)):fj (c+1) { st with ah:=ps } { b with ah:=bs }:=by
 have hl:bs.length<=b.ah.length:=by have:=sb.length_le;rwa [aE,aE]at this
 have wb:=g.fJ
 refine⟨⟨wb.nd.sublist sb,λq hq=>?_,λq hq=>?_,wb.b1,wb.bz,λq hq=>?_,wb.ol,fD hl wb.pl,wb.kl⟩,⟨g.rel.own,qd⟩,λp eL q hq e j=>?_,λu hu=>(g.b_ u hu).mono (by omega),fD g.stp (by omega),g.prod.mono (by omega),g.bot.mono (by omega),λq hq=>?_,(λq hq=>by obtain⟨q0,h0,e1,e2,e3,e4,e5,e6⟩:=hb q hq;have:=g.we q0 h0;omega),(by have:=g.pl;show bs.length<=_;omega),(by have:=g.kl;show b.ef.length<=_;omega),g.own,λq hq=>?_,g.c6,g.ef,g.nk,g.on,λq hq=>?_⟩
 . obtain⟨q0,h0,e1,e2,e3,e4,e5⟩:=hb q hq;rw[e3];exact wb.tl q0 h0
 . obtain⟨q0,h0,e1,e2,e3,e4,e5⟩:=hb q hq;rw[e3];exact wb.t0 q0 h0
 . obtain⟨q0,h0,e1,e2,e3,e4,e5⟩:=hb q hq;exact e4
 . obtain⟨q0,h0,e1,e2,e3,e4,e5⟩:=hb q hq
   obtain⟨p0,k0,k1,k2,k3⟩:=hp p eL
   have:=g.pC p0 k0 q0 h0 (by rw[<-k1,<-e1];exact e) j
   rw[e3]
   show _=(aV { st with ah:=ps } p).getD j 0*b.bot
   have et:aV { st with ah:=ps } p=aV st p0:=by unfold aV;rw[k2,k3]
   rw[et];exact this
 . obtain⟨q0,h0,e1,e2,e3,e4,e5⟩:=hb q hq
   have:=g.wo q0 h0
   omega
 . obtain⟨q0,h0,e1,e2,e3,e4,e5⟩:=hb q hq;rw[e1,e2];exact g.nm q0 h0
 . obtain⟨q0,h0,e1,e2,e3,e4,e5⟩:=hb q hq;rw[e3];exact g.sum q0 h0
theorem B_(b:BS)(x:Str)(F:BP->BP)(h:∀p∈b.ah,(F p).nm=p.nm):(((b.ah.map λp=>if p.nm=x then F p else p).filter λp=>decide (0<p.wo)).map λp:BP=>p.nm).Sublist (b.ah.map λp:BP=>p.nm):=by
 have e:(b.ah.map λp=>if p.nm=x then F p else p).map (λp:BP=>p.nm)=b.ah.map λp:BP=>p.nm:=by
  rw[d7];refine tT λp hp=>?_;show(if p.nm=x then F p else p).nm=p.nm;by_cases c:p.nm=x
  .rw [av c];exact h p hp
  .rw [au c]
 rw[<-e];exact(Ke).map _
theorem vG{c:Nat}{st:HS}{b:BS}(g:fj c st b):st.ah.map (λp=>((p.nm,p.ow,p.wo,p.we):Q4))=b.ah.map pD:=g.rel.qd
theorem T4{c:Nat}{st:HS}{b:BS}{x:Str}{a:Int}(g:fj c st b)(wf:Wf st)(h:lT st (x,a)=none):fj (c+1) (eF st (x,a)) (mY b x λp=>{ p with wo:=p.wo-a }):=by
 have hr:x∈fM st/\1<=a/\a<=(cI st x).wo:=by
  unfold lT at h;by_cases c1:x∈fM st
  .rw [av c1]at h;by_cases c2:a<1
   .rw [av c2]at h;cases h
   .rw [au c2]at h;by_cases c3:(cI st x).wo<a
    .rw [av c3]at h;cases h
    .exact ⟨c1,by omega,by omega⟩
  .rw [au c1]at h;cases h
 obtain⟨hm,h1,h2⟩:=hr;have le:∀p∈st.ah,p.nm=x->a<=p.wo:=λp hp e=>by rw[dN wf hp e]at h2;exact h2
 have leB:∀q∈b.ah,q.nm=x->a<=q.wo:=λq hq e=>by
  obtain⟨j,hj,ej⟩:=oV hq;obtain⟨p,hp,k1,_,k3,_⟩:=g.rel.at (i:=j) (q:=q) (by rw[bq hj,ej])
  rw[<-k3];exact le p (bw hp) (k1.trans e)
 refine J5 g ?_ (λp hp=>?_) (λq hq=>?_) (B_ b x _ λ_ _=>rfl)
 .show (jV st.ah x a).map _=List.map pD ((b.ah.map _).filter _);rw[B9 (f:=λq:Q4=>if q.1=x then(q.1,q.2.1,q.2.2.1-a,q.2.2.2) else q) (λp hp=>by
   show pD (if p.nm=x then _ else _)=if p.nm=x then _ else _;by_cases e:p.nm=x
   .rw [av e,av e];rfl
   .rw [au e,au e]),<-vG g]
  show(jV st.ah x a).map _=_;have:=Ie st (x,a);rw[show(jV st.ah x a).map (λp:Pt=>((p.nm,p.ow,p.wo,p.we):Q4))=oG (gY st) (x,a)from this];unfold oG gY;refine List.filter_congr λq hq=>decide_eq_decide.mpr ?_;obtain⟨q0,mZ,rfl⟩:=a_.mp hq;obtain⟨p,hp,rfl⟩:=a_.mp mZ;have w1:=(wf.ki p hp).1;show(if p.nm=x then _ else _:Q4).2.2.1≠0↔0<(if p.nm=x then _ else _:Q4).2.2.1;by_cases e:p.nm=x
  .have:=le p hp e;rw[av e];show p.wo-a≠0↔0<p.wo-a;omega
  .rw [au e];show p.wo≠0↔0<p.wo;omega
 .obtain ⟨_,q,hq,rfl⟩:=rH (show p∈jV st.ah x a from hp);refine⟨q,hq,?_⟩;by_cases e:q.nm=x
  .rw [av e];exact⟨Z,Z,Z⟩
  .rw [au e];exact⟨Z,Z,Z⟩
 .obtain ⟨h3,h4⟩:=iG.mp hq;obtain⟨q0,mZ,rfl⟩:=a_.mp h3;have w1:=g.fJ.w1 q0 mZ;have h4:=dY h4;refine⟨q0,mZ,?_⟩;by_cases e:q0.nm=x
  .rw [av e]at h4 ⊢;have h4:0<q0.wo-a:=h4;exact⟨Z,Z,Z,by show 1<=q0.wo-a;omega,by show q0.wo-a<=_;omega,ff _⟩
  .rw [au e];exact⟨Z,Z,Z,w1,by omega,ff _⟩
theorem YO{c:Nat}{st:HS}{b:BS}{x:Str}{a:Int}(g:fj c st b)(wf:Wf st)(h1:1<=a)(h2:a<=1000000000):fj (c+1) (EH st x a) (mY b x λp=>{ p with wo:=p.wo+a }):=by
 refine J5 g ?_ (λp hp=>?_) (λq hq=>?_) (B_ b x _ λ_ _=>rfl)
 .show (st.ah.map _).map _=List.map pD ((b.ah.map _).filter _);rw[B9 (f:=λq:Q4=>if q.1=x then(q.1,q.2.1,q.2.2.1+a,q.2.2.2) else q) (λp hp=>by
   show pD (if p.nm=x then _ else _)=if p.nm=x then _ else _;by_cases e:p.nm=x
   .rw [av e,av e];rfl
   .rw [au e,au e]),<-vG g,z9.mpr (λq hq=>by
    obtain⟨q0,mZ,rfl⟩:=a_.mp hq;obtain⟨p,hp,rfl⟩:=a_.mp mZ;have w1:=(wf.ki p hp).1;refine bh ?_;show 0<(if p.nm=x then _ else _:Q4).2.2.1;by_cases e:p.nm=x
    .rw [av e];show 0<p.wo+a;omega
    .rw [au e];show 0<p.wo;omega),d7,d7]
  refine tT λp hp=>?_;show(λp:Pt=>((p.nm,p.ow,p.wo,p.we):Q4)) (if p.nm=x then _ else _)=if p.nm=x then _ else _;by_cases e:p.nm=x
  .rw [av e,av e]
  .rw [au e,au e]
 .obtain ⟨q,hq,rfl⟩:=a_.mp hp;refine⟨q,hq,?_⟩;by_cases e:q.nm=x
  .rw [av e];exact⟨Z,Z,Z⟩
  .rw [au e];exact⟨Z,Z,Z⟩
 .obtain ⟨h3,h4⟩:=iG.mp hq;obtain⟨q0,mZ,rfl⟩:=a_.mp h3;have w1:=g.fJ.w1 q0 mZ;refine⟨q0,mZ,?_⟩;by_cases e:q0.nm=x
  .rw [av e];exact⟨Z,Z,Z,by show 1<=q0.wo+a;omega,by show q0.wo+a<=_;omega,ff _⟩
  .rw [au e];exact⟨Z,Z,Z,w1,by omega,ff _⟩
theorem rP{st:HS}{b:BS}(r:jH st b)(wf:Wf st){x:Str}(h:x∈fM st):∃(i:Nat)(p:Pt)(q:BP),st.ah[i]?=some p/\b.ah[i]?=some q/\p.nm=x/\q.nm=x/\q.ow=p.ow/\q.wo=p.wo/\q.we=p.we/\cI st x=p:=by obtain⟨i,p,h1,h2⟩:=oJ h;obtain⟨q,k1,k2,k3,k4,k5⟩:=r.at' h1;exact⟨i,p,q,h1,k1,h2,k2.symm.trans h2,k3.symm,k4.symm,k5.symm,dN wf (bw h1) h2⟩
theorem LO{st:HS}{b:BS}(r:jH st b):(uH b).map (λr:Row=>r.1)=fM st:=by
 have:(gY st).map (λq:Q4=>q.1)=(mC b).map (λq:Q4=>q.1):=by rw[r.qd]
 unfold gY mC at this;rw[d7,d7]at this;unfold uH fM;rw[d7];exact this.symm
theorem YQ{K:Fg}{H:Hp}{Q:VK}{E:XK}{n:Nat}{ρ:fE}{B:BA}{b:BS}{st:HS}{x:Str}(hb:aZ n ρ B H b)(r:jH st b)(wf:Wf st)(wb:wW b)(q:∀(i:Nat) (p:Pt) (q:BP),st.ah[i]?=some p->b.ah[i]?=some q->p.nm=x->q.nm=x->q.ow=p.ow->q.wo=p.wo->q.we=p.we->cI st x=p->x∈fM st->Q (.int (i:Int)) H)(q2:x∉fM st->Q (.int (-1)) H):EI K [.ref B.lp,.str x] H Q E:=by
 have nd:((uH b).map (λr:Row=>r.1)).Nodup:=by unfold uH;rw[d7];exact wb.nd
 refine⟨B.lp,_,uH b,x,Z,aB.of hb.op,hb.nw,nd,by unfold uH;rw[aE];exact wb.pl,λi r' e1 e2=>?_,λh=>q2 λz=>?_⟩
 . have hm:x∈fM st:=by rw[<-LO r];exact a_.mpr ⟨r',bw e1,e2⟩
   obtain⟨j,p,q',k1,k2,k3,k4,k5,k6,k7,k8⟩:=rP r wf hm
   have r1:((uH b).map (λr:Row=>r.1))[i]?=some x:=by rw[bO,e1];show some r'.1=_;rw[e2]
   have r2:((uH b).map (λr:Row=>r.1))[j]?=some x:=by unfold uH;rw[d7,bO,k2];show some q'.nm=_;rw[k4]
   have:i=j:=(FU (di.mp r1).1 nd).mp (r1.trans r2.symm)
   subst this
   exact q i p q' k1 k2 k3 k4 k5 k6 k7 k8 hm
 . rw[<-LO r]at z
   obtain⟨r',hr',e⟩:=a_.mp z
   exact h r' hr' e
theorem AR{st:HS}{x:Str}{a:Int}(h:sP st x a=none):x∈fM st/\1<=a:=by
 unfold sP at h;by_cases hm:x∈fM st
 .rw [av hm]at h;by_cases c:a<1
  .rw [av c]at h;cases h
  .exact ⟨hm,by omega⟩
 .rw [au hm]at h;cases h
structure Gs(st:HS):Prop where
 big:Jm.Sz 60 (aH st)
 prod:Jm.Sz 7900 st.prod
 b_:∀u∈st.b_,Jm.Sz 8900 u
 stp:st.stp.length<100
def kD(st:HS)(o:Str)(a:Int):List Int:=(List.replicate st.own.length 0).set (st.own.idxOf o) (a*st.prod)
inductive YR(T:TC)(e:Ec)(vs:List V)(H:Hp)(Q:VK)(E:XK):Prop
 |mk(n ρ A st o a:_)(_:vs=[.ref A.a,.str o,.int a])(_:HH T n ρ A H st)(_:Gs st)(_:Il T e n ρ A H (mX st o a:_) (AJ st o a:_) Q E)
def LP(T:TC)(e:Ec):Sp:=bx (YR T e)
theorem uU{st:HS}{o:Str}{a:Int}(h:mX st o a=none):o∈st.own/\1<=a/\a<aH st:=by
 unfold mX at h;split at h
 .split at h
  .cases h
  .split at h
   .cases h
   .exact ⟨by assumption,by omega,by omega⟩
 .cases h
theorem V7{st:HS}{o:Str}{a m:Int}(h:m∈kD st o a):m=0\/m=a*st.prod:=by
 rcases J6 h with z|z
 .exact .inl (J7 z)
 .exact .inr z
theorem V8(st:HS)(o:Str)(a:Int):(kD st o a).length=st.own.length:=by unfold kD;rw[eZ,i8]
theorem Gs.blend{st:HS}{o:Str}{a:Int}(w:Gs st)(wf:Wf st)(h1:1<=a)(h2:a<aH st):pV st (aH st-a) (aH st) a (kD st o a):=by have p1:=wf.gC;refine⟨by omega,by omega,by omega,by rw[V8,wf.gc],λm hm=>?_,w.prod,w.big,w.b_,w.stp⟩;have:0<=a*st.prod:=lZ (by omega) (by omega);rcases V7 hm with z|z <;> omega
theorem LQ{l:List Int}{i j:Nat}{x:Int}(h:i<l.length):(l.set i x).getD j 0=if i=j then x else l.getD j 0:=by
 rw[fH,QK];by_cases e:i=j
 .subst e;rw[av rfl,av rfl,av h];rfl
 .rw [au e,au e,fH]
theorem LR(n j:Nat):(List.replicate n (0:Int)).getD j 0=0:=by rw[fH,Qz];split <;> rfl
theorem LS:∀(ps:List BP)(i:Nat),iD ps (List.replicate ps.length 0) i=0
 | [],_=>rfl
 | p::ps,i=>by have:=LS ps i;unfold iD at this ⊢;rw[iF,ym,tS,cQ,this,Int.mul_zero];rfl
theorem EJ(b:BS)(j:Nat):(gu b (List.replicate b.ah.length 0)).getD j 0=0:=by
 unfold gu;rw[fH,bO];cases(List.range b.own.length)[j]? with
 | none=>rfl
 | some i=>exact LS b.ah i
theorem abn{b:BS}{seat:Nat}{a:Int}{p:BP}(h:p∈(ja b (List.replicate b.ah.length 0) seat a).ah):∃q∈b.ah,p=mV (gX b (List.replicate b.ah.length 0) seat a) (bQ b-a) q 0:=by obtain⟨h1,_⟩:=iG.mp (show p∈(c_ b (List.replicate b.ah.length 0) seat a).filter _ from h);obtain⟨i,x,y,ex,ey,e⟩:=jf (show p∈List.zipWith (mV (gX b (List.replicate b.ah.length 0) seat a) (bQ b-a-(List.replicate b.ah.length (0:Int)).sum)) b.ah (List.replicate b.ah.length 0)from h1);rw[rJ,DR,J7 (bw ey)]at e;exact⟨x,bw ex,e⟩
theorem PX{k:BP->Int->BP}:∀(ps:List BP),List.zipWith k ps (List.replicate ps.length 0)=ps.map λp=>k p 0
 | []=>rfl
 | p::ps=>by rw[iF,ym,tS,bN,PX ps]
theorem V9{c:Nat}{st:HS}{b:BS}{o:Str}{a:Int}(g:fj c st b)(wf:Wf st)(w:Gs st)(hc:c<=90)(ho:o∈st.own)(h1:1<=a)(h2:a<aH st):fj (c+1) (AJ st o a) (ja b (List.replicate b.ah.length 0) (b.own.idxOf o) a):=by
 have ew:=g.rel.whole;have eo:=g.rel.own;have bl:=w.blend (o:=o) wf h1 h2;have hi:b.own.idxOf o<b.own.length:=J8.mpr (by rw[<-eo];exact ho);have bo:lE b (List.replicate b.ah.length 0) (b.own.idxOf o) a:=⟨i8,λx hx=>by rw[J7 hx];exact ff _,hi,by omega,by rw[rJ];omega,by rw[<-ew];exact w.big⟩
 refine PM g bl bo hc rfl ⟨?_,?_⟩ ?_
 .show (bF st _ _ _).own=b.own;unfold bF;rw[AA];exact eo
 .rw [show gY (AJ st o a)=gY st from EC _ _ _ _,g.rel.qd];unfold mC ja c_;rw[PX];show _=List.map _ (List.filter _ (List.map _ b.ah));rw[z9.mpr (λq hq=>by obtain⟨p,hp,rfl⟩:=a_.mp hq;exact bh (by show 0<p.wo-0;have:=g.fJ.w1 p hp;omega)),d7]
  refine tT λp _=>?_;show(p.nm,p.ow,p.wo,p.we)=(p.nm,p.ow,p.wo-0,p.we)
  rw[DR]
 .intro p' eL q' hq' en j;obtain⟨q,hq,rfl⟩:=abn hq';have hp1:p'∈st.ah.map (λp:Pt=>{ p with sc:=p.sc*(aH st-a) / cL st (aH st-a) (aH st) (kD st o a) }):=by have h:p'∈(bF st (aH st-a) (aH st) (kD st o a)).ah:=eL;unfold bF at h;rw[kN]at h;exact h
  obtain⟨p,hp,rfl⟩:=a_.mp hp1;have tj:=g.pC p hp q hq en j;show(List.zipWith _ q.tops (gX b _ _ a)).getD j 0*_=_*(b.bot*bQ b);rw[pA (f:=λt g=>t*(bQ b-a)+g) (by show(0:Int)*_+0=0;omega) (by rw[g.fJ.tl q hq,vC]),<-ew];refine AG (p':={ p with sc:=p.sc*(aH st-a) / cL st (aH st-a) (aH st) (kD st o a) }) wf bl rfl rfl hp rfl rfl tj ?_;unfold gX kD;rw[av (by omega),LQ (by rw[kW];exact hi),LQ (by rw[i8,eo];exact hi),EJ,EJ,LR,eo];by_cases e:b.own.idxOf o=j
  .rw [av e,av e,wJ,jC,jC,l7 b.bot]
  .rw [au e,au e,yx,yx]
inductive YS(T:TC)(e:Ec)(vs:List V)(H:Hp)(Q:VK)(E:XK):Prop
 |mk(n ρ A st x y a we:_)(_:vs=[.ref A.a,.str x,.str y,.int a,.int we])(_:HH T n ρ A H st)(_:y.cps.toList.length<=100000)(_:st.nms.length<1000)(_:st.ah.length<1000)(_:Il T e n ρ A H (kG st x y a we:_) (qy st x y a we:_) Q E)
def LU(T:TC)(e:Ec):Sp:=bx (YS T e)
theorem kh{H:Hp}{a b:Addr}{o:HO}(h:upd H a o b=none):H b=none:=by
 by_cases z:b=a
 .rw [z,ao]at h;cases h
 .rw [az z]at h;exact h
theorem V_{st:HS}{y:Str}(h:newR st y=none):isNm y=true/\y∉st.nms:=by
 unfold newR at h;split at h
 .split at h
  .cases h
  .exact ⟨by assumption,by assumption⟩
 .cases h
theorem kZ{st:HS}{x y:Str}{a we:Int}(h:kG st x y a we=none):x∈fM st/\(isNm y=true/\y∉st.nms)/\1<=a/\0<=we/\a<(cI st x).wo/\we<=(cI st x).we:=by
 unfold kG at h;split at h
 .cases hf:newR st y with
  | some j=>rw[hf]at h;cases h
  | none=>
   rw[hf]at h;have h':(if a<1\/we<0 then some 5 else if(cI st x).wo<=a\/(cI st x).we<we then some 6 else none)=none:=h;split at h'
   .cases h'
   .split at h'
    .cases h'
    .exact ⟨by assumption,V_ hf,by omega,by omega,by omega,by omega⟩
 .cases h
theorem LV{st:HS}{x y:Str}{a we:Int}(wf:Wf st)(h:kG st x y a we=none)(h2:st.nms.length<1000)(h3:st.ah.length<1000):Wf (qy st x y a we):=by
 obtain⟨hx,⟨_,hy⟩,h4,h5,h6,h7⟩:=kZ h;obtain⟨i,p0,ei,e0⟩:=oJ hx;have hp:=bw ei;have eg:=dN wf hp e0;have w1:Wf (n_ st x λp=>{ p with wo:=p.wo-a,we:=p.we-we }):=ya wf λp eL e=>by rw[nG wf eL hp (e.trans e0.symm)];rw[eg]at h6 h7;exact⟨Z,Z,Z,Z,by show 1<=p0.wo-a;omega,by show 0<=p0.we-we;omega⟩
 unfold qy;rw[eg];exact Pp w1 hy h2 (by show(st.ah.map _).length<1000;rw[aE];exact h3) (wf.rows p0 hp) (wf.ow p0 hp) (wf.tH p0 hp) (wf.o9 p0 hp) (wf.qm p0 hp) ⟨h4,h5⟩
theorem abo{c:Nat}{st:HS}{b:BS}(g:fj c st b)(wf:Wf st){p0:Pt}{q0:BP}(hp0:p0∈st.ah)(mZ:q0∈b.ah)(en:p0.nm=q0.nm)(eo:p0.ow=q0.ow){y:Str}{a we:Int}(hy:y∉st.nms)(hn:isNm y=true)(h1:1<=a)(h2:a<=1000000000)(h2w:we<=1000000000)(h3:b.ah.length<50+c)(h4:b.ef.length<900+c)(hc:c<=91):fj c (yN st ⟨y,p0.ow,a,we,p0.sc,p0.row⟩) { b with ah:=b.ah++[⟨y,q0.ow,a,we,q0.tops⟩],ef:=b.ef++[y] }:=by
 have wb:=g.fJ;have P:∀{M:BP->Prop},(∀p∈b.ah,M p)->M ⟨y,q0.ow,a,we,q0.tops⟩->∀p∈b.ah++[BP.mk y q0.ow a we q0.tops],M p:=λa c p hp=>by
  rcases dD.mp hp with z|z
  .exact a p z
  .rw [dj.mp z];exact c
 have nB:∀q∈b.ah,q.nm≠y:=λq hq e=>by
  obtain⟨i,hi,ei⟩:=oV hq;obtain⟨p,hp,k1,_⟩:=g.rel.at (i:=i) (q:=q) (by rw[bq hi,ei])
  exact hy (by rw[<-e,<-k1];exact wf.sub p (bw hp))
 have nS:∀p∈st.ah,p.nm≠y:=λp hp e=>hy (by rw[<-e];exact wf.sub p hp);refine⟨⟨?_,P wb.tl (wb.tl q0 mZ),P wb.t0 (wb.t0 q0 mZ),wb.b1,wb.bz,P wb.w1 h1,wb.ol,?_,?_⟩,⟨g.rel.own,?_⟩,?_,g.b_,g.stp,g.prod,g.bot,P g.wo (by show a<=_;omega),P g.we h2w,?_,?_,g.own,P g.nm ⟨uY hn,(g.nm q0 mZ).2⟩,g.c6,?_,?_,g.on,P g.sum (g.sum q0 mZ)⟩
 .show ((b.ah++[_]).map (λp:BP=>p.nm)).Nodup;rw[bP];refine nC wb.nd λm=>?_;obtain⟨q,hq,e⟩:=a_.mp m;exact nB q hq e
 .show (b.ah++[_]).length<=1000;rw[cZ];show b.ah.length+1<=1000;omega
 .show (b.ef++[_]).length<=1000;rw[cZ];show b.ef.length+1<=1000;omega
 .show (st.ah++[_]).map _=(b.ah++[_]).map _;rw[bP,bP,show st.ah.map (λp=>((p.nm,p.ow,p.wo,p.we):Q4))=b.ah.map (λp=>((p.nm,p.ow,p.wo,p.we):Q4))from g.rel.qd];show _++[((y,p0.ow,a,we):Q4)]=_++[((y,q0.ow,a,we):Q4)]
  rw[eo]
 .intro p hp q hq e j;show q.tops.getD j 0*st.prod=(aV st p).getD j 0*b.bot;rcases dD.mp (show p∈st.ah++[_]from hp)with zp|zp
  .rcases dD.mp (show q∈b.ah++[_]from hq)with zq|zq
   .exact g.pC p zp q zq e j
   .rw [dj.mp zq]at e;exact absurd e (nS p zp)
  .rcases dD.mp (show q∈b.ah++[_]from hq)with zq|zq
   .rw [dj.mp zp]at e;exact absurd e.symm (nB q zq)
   .rw [dj.mp zp,dj.mp zq];exact g.pC p0 hp0 q0 mZ en j
 .show (b.ah++[_]).length<=50+c;rw[cZ];show b.ah.length+1<=50+c;omega
 .show (b.ef++[_]).length<=900+c;rw[cZ];show b.ef.length+1<=900+c;omega
 .show st.nms++[y]=b.ef++[y];rw[g.ef]
 .intro z hz;rcases dD.mp (show z∈b.ef++[y]from hz)with k|k
  .exact g.nk z k
  .rw [dj.mp k];exact hn
theorem abp{c:Nat}{st:HS}{b:BS}{x:Str}{a we:Int}(g:fj c st b)(wf:Wf st)(h0:1<=a)(h00:0<=we)(le:∀p∈st.ah,p.nm=x->a<p.wo):fj (c+1) (n_ st x λp=>{ p with wo:=p.wo-a,we:=p.we-we }) (mY b x λp=>{ p with wo:=p.wo-a,we:=p.we-we }):=by
 have leB:∀q∈b.ah,q.nm=x->a<q.wo:=λq hq e=>by
  obtain⟨j,hj,ej⟩:=oV hq;obtain⟨p,hp,k1,_,k3,_⟩:=g.rel.at (i:=j) (q:=q) (by rw[bq hj,ej])
  rw[<-k3];exact le p (bw hp) (k1.trans e)
 refine J5 g ?_ (λp hp=>?_) (λq hq=>?_) (B_ b x _ λ_ _=>rfl)
 .show (st.ah.map _).map _=List.map pD ((b.ah.map _).filter _);rw[B9 (f:=λq:Q4=>if q.1=x then(q.1,q.2.1,q.2.2.1-a,q.2.2.2-we) else q) (λp hp=>by
   show pD (if p.nm=x then _ else _)=if p.nm=x then _ else _;by_cases e:p.nm=x
   .rw [av e,av e];rfl
   .rw [au e,au e]),<-vG g,z9.mpr (λq hq=>by
    obtain⟨q0,mZ,rfl⟩:=a_.mp hq;obtain⟨p,hp,rfl⟩:=a_.mp mZ;have w1:=(wf.ki p hp).1;refine bh ?_;show 0<(if p.nm=x then _ else _:Q4).2.2.1;by_cases e:p.nm=x
    .have:=le p hp e;rw[av e];show 0<p.wo-a;omega
    .rw [au e];show 0<p.wo;omega),d7,d7]
  refine tT λp hp=>?_;show(λp:Pt=>((p.nm,p.ow,p.wo,p.we):Q4)) (if p.nm=x then _ else _)=if p.nm=x then _ else _;by_cases e:p.nm=x
  .rw [av e,av e]
  .rw [au e,au e]
 .obtain ⟨q,hq,rfl⟩:=a_.mp hp;refine⟨q,hq,?_⟩;by_cases e:q.nm=x
  .rw [av e];exact⟨Z,Z,Z⟩
  .rw [au e];exact⟨Z,Z,Z⟩
 .obtain ⟨h3,h4⟩:=iG.mp hq;obtain⟨q0,mZ,rfl⟩:=a_.mp h3;have w1:=g.fJ.w1 q0 mZ;refine⟨q0,mZ,?_⟩;by_cases e:q0.nm=x
  .have:=leB q0 mZ e;rw[av e];exact⟨Z,Z,Z,by show 1<=q0.wo-a;omega,by show q0.wo-a<=_;omega,by show q0.we-we<=_;omega⟩
  .rw [au e];exact⟨Z,Z,Z,w1,by omega,ff _⟩
theorem rQ:∀{l:List BP}{i:Nat}{q:BP},(l.map λp:BP=>p.nm).Nodup->l[i]?=some q->(l.find? λp=>decide (p.nm=q.nm))=some q
 | [],_,_,_,h=>by simp at h
 | p::l,0,q,_,h=>by
  have e:p=q:=by simpa using h
  subst e;rw[p8,bh rfl]
 | p::l,i+1,q,nd,h=>by
  obtain⟨h1,h2⟩:=gK.mp (show(p.nm::l.map λp:BP=>p.nm).Nodup from nd);have h':l[i]?=some q:=by simpa using h
  rw[p8,c9 (λe=>h1 (a_.mpr ⟨q,bw h',e.symm⟩))];exact rQ h2 h'
theorem Wa{c:Nat}{st:HS}{b:BS}{x y:Str}{a we:Int}(g:fj c st b)(wf:Wf st)(hc:c<=90)(h:kG st x y a we=none)(h9:a<=1000000000)(zN:we<=1000000000)(h3:st.ah.length<1000):fj (c+1) (qy st x y a we) (AN b x y a we):=by
 obtain⟨hx,⟨hn,hy⟩,h4,h5,h6,h7⟩:=kZ h;obtain⟨i,p0,q0,e1,e2,k1,k2,k3,k4,k5,k6⟩:=rP g.rel wf hx;have hp:=bw e1;have hq:=bw e2;rw[k6]at h6 h7;have uq:∀p∈st.ah,p.nm=x->p=p0:=λp eL e=>nG wf eL hp (e.trans k1.symm);have g1:=abp (we:=we) g wf h4 h5 λp eL e=>by rw[uq p eL e];exact h6
 have w1:Wf (n_ st x λp=>{ p with wo:=p.wo-a,we:=p.we-we }):=ya wf λp eL e=>by rw[uq p eL e];exact⟨Z,Z,Z,Z,by show 1<=p0.wo-a;omega,by show 0<=p0.we-we;omega⟩
 have hp1:({ p0 with wo:=p0.wo-a,we:=p0.we-we }:Pt)∈(n_ st x λp=>{ p with wo:=p.wo-a,we:=p.we-we }).ah:=a_.mpr ⟨p0,hp,av k1⟩;have hq1:({ q0 with wo:=q0.wo-a,we:=q0.we-we }:BP)∈(mY b x λp=>{ p with wo:=p.wo-a,we:=p.we-we }).ah:=iG.mpr ⟨a_.mpr ⟨q0,hq,av k2⟩,bh (by show 0<q0.wo-a;omega)⟩;have pl:=g.pl;have kl:=g.kl;have l1:=(FH (λp:BP=>decide (0<p.wo)) (b.ah.map λp=>if p.nm=x then{ p with wo:=p.wo-a,we:=p.we-we } else p))
 rw[aE]at l1;have g2:=abo g1 w1 (y:=y) (a:=a) (we:=we) hp1 hq1 (k1.trans k2.symm) k3.symm hy hn h4 h9 zN (FN l1 (by omega)) (by show b.ef.length<_;omega) (by omega);have eb:rO b x=q0:=by unfold rO;rw[<-k2,rQ g.fJ.nd e2];rfl
 unfold qy AN;rw[k6,eb,List.filter_append,List.filter_cons_of_pos (p:=λp:BP=>decide (0<p.wo)) (bh (by show 0<a;omega)),List.filter_nil];exact g2
theorem AS{α β:Type}{f:α->β}{l:List α}{i:Nat}{x:α}(h:l[i]?=some x):(l.map f).set i (f x)=l.map f:=mU (by rw[bO,h];rfl)
inductive abq(T:TC)(e:Ec)(vs:List V)(H:Hp)(Q:VK)(E:XK):Prop
 |mk(n ρ A st x o:_)(_:vs=[.ref A.a,.str x,.str o])(_:HH T n ρ A H st)(_:∀p∈st.ah,(aV st p).sum=st.prod)(_:Il T e n ρ A H (oH st x o:_) (mD st x o:_) Q E)
def PY(T:TC)(e:Ec):Sp:=bx (abq T e)
theorem tN{st:HS}{x o:Str}(h:oH st x o=none):x∈fM st/\o∈st.own:=by
 unfold oH at h;split at h
 .split at h
  .exact ⟨by assumption,by assumption⟩
  .cases h
 .cases h
theorem EK:∀{l:List Int},(∀t∈l,0<=t)->0<=l.sum/\∀t∈l,t<=l.sum
 | [],_=>⟨ff _,λt h=>by cases h⟩
 | a::l,h=>by
  obtain⟨h1,h2⟩:=EK (l:=l) λt ht=>h t (cW _ ht);have h0:=h a cT;refine⟨by show 0<=a+l.sum;omega,λt ht=>?_⟩;show t<=a+l.sum;rcases dS.mp ht with rfl|ht
  .omega
  .have:=h2 t ht;omega
theorem EL{l:List Int}{i:Nat}{v:Int}(h:∀t∈l,0<=t)(hv:0<=v):∀t∈l.set i v,0<=t:=λt ht=>by
 rcases J6 ht with z|z
 .exact h t z
 .rw [z];exact hv
theorem y9{l:List Int}(h:∀t∈l,0<=t)(i:Nat):0<=l.getD i 0:=by
 rw[fH];cases e:l[i]? with
 | none=>exact ff _
 | some v=>exact h v (bw e)
def Ip(l:List Int)(i j:Nat):List Int:=(l.set j (l.getD j 0+l.getD i 0)).set i 0
def lF(l:List Int)(i j:Nat):List Int:=(l.set i 0).set j ((l.set i 0).getD j 0+l.getD i 0)
theorem YT(l:List Int)(i j:Nat):(lF l i j).length=l.length:=by unfold lF;rw[eZ,eZ]
theorem Gu(l:List Int)(i j:Nat):(Ip l i j).length=l.length:=by unfold Ip;rw[eZ,eZ]
theorem abr{l:List Int}{i j:Nat}(hi:i<l.length)(hj:j<l.length)(k:Nat):(Ip l i j).getD k 0=if k=i then 0 else if k=j then l.getD j 0+l.getD i 0 else l.getD k 0:=by unfold Ip;rw[oY _ _ _ _ (by rw[eZ];exact hi),oY _ _ _ _ hj]
theorem abt{l:List Int}{i j:Nat}(hi:i<l.length)(hj:j<l.length)(ne:i≠j)(k:Nat):(lF l i j).getD k 0=if k=i then 0 else if k=j then l.getD j 0+l.getD i 0 else l.getD k 0:=by
 unfold lF;rw[oY _ _ _ _ (by rw[eZ];exact hj),oY _ _ _ _ hi,oY _ _ _ _ hi,au (cu ne)];by_cases e:k=j
 .rw [av e,av e,au (by rw[e];exact cu ne)]
 .rw [au e,au e]
theorem YU{l:List Int}{i j:Nat}(hi:i<l.length)(hj:j<l.length):(lF l i j).sum=l.sum:=by unfold lF;rw[sum_set _ _ _ (by rw[eZ];exact hj),sum_set _ _ _ hi];omega
theorem YV{l:List Int}{i j:Nat}(hi:i<l.length)(hj:j<l.length)(ne:i≠j):(Ip l i j).sum=l.sum:=by unfold Ip;rw[sum_set _ _ _ (by rw[eZ];exact hi),sum_set _ _ _ hj,oY _ _ _ _ hj,au ne];omega
theorem YW{l:List Int}{i j:Nat}(h:∀t∈l,0<=t):∀t∈lF l i j,0<=t:=EL (EL h (ff _)) (Int.add_nonneg (y9 (EL h (ff _)) _) (y9 h _))
theorem YX{l:List Int}{i j:Nat}(h:∀t∈l,0<=t):∀t∈Ip l i j,0<=t:=EL (EL h (Int.add_nonneg (y9 h _) (y9 h _))) (ff _)
theorem Wb{l:List Int}{i:Nat}(hi:i<l.length):lF l i i=l:=by
 unfold lF;rw[oY _ _ _ _ hi,av rfl,wJ,oB];apply List.ext_getElem?;intro k;rw[QK];by_cases e:i=k
 .subst e;rw[av rfl,av hi,fH,bq hi];rfl
 .rw [au e]
theorem LW{st:HS}{tops:List Int}(h:tops.length=st.bU.length):List.zipWith (λr c=>(1:Int)*r+c) (lS st tops) st.bU=tops:=by
 unfold lS;generalize st.bU=cs at h
 induction tops generalizing cs with
 | nil=>rfl
 | cons t ts ih=>
  cases cs with
  | nil=>cases h
  | cons c cs=>have:=ih cs (Nat.succ.inj h);show(1*(t-c)+c)::_=t::ts;rw[this];congr 1;omega
theorem EM{st:HS}(wf:Wf st){p:Pt}(hp:p∈st.ah):(aV st p).length=st.own.length:=by unfold aV;rw[kq,wf.rows p hp,wf.gc,yw]
def y_(st:HS)(o:Str)(p:Pt):Pt:={ p with ow:=o,sc:=1,row:=lS st (nJ st p o) }
theorem vH(st:HS)(p:Pt)(o:Str):nJ st p o=Ip (aV st p) (st.own.idxOf p.ow) (st.own.idxOf o):=rfl
theorem AU{st:HS}(wf:Wf st){p:Pt}(hp:p∈st.ah)(o:Str):aV st (y_ st o p)=nJ st p o:=by
 have:(nJ st p o).length=st.bU.length:=by rw[vH,Gu,EM wf hp,wf.gc]
 exact LW this
theorem LX{st:HS}(wf:Wf st){p:Pt}(hp:p∈st.ah){o:Str}(ho:o∈st.own)(ne:st.own.idxOf o≠st.own.idxOf p.ow)(hs:(aV st p).sum=st.prod):(∀t∈nJ st p o,0<=t/\t<=st.prod)/\(nJ st p o).sum=st.prod:=by
 have hl:=EM wf hp;have h1:st.own.idxOf p.ow<(aV st p).length:=by rw[hl];exact wF (wf.ow p hp)
 have h2:st.own.idxOf o<(aV st p).length:=by rw[hl];exact wF ho
 have hp0:=YX (i:=st.own.idxOf p.ow) (j:=st.own.idxOf o) λt ht=>(wf.qm p hp t ht).1;have hsum:=(YV h1 h2 (cu ne)).trans hs;rw[vH];exact⟨λt ht=>⟨hp0 t ht,by rw[<-hsum];exact(EK hp0).2 t ht⟩,hsum⟩
theorem PZ{st:HS}{x o:Str}(wf:Wf st)(h:oH st x o=none)(hs:∀p∈st.ah,(aV st p).sum=st.prod):Wf (mD st x o):=by
 obtain⟨hx,ho⟩:=tN h;obtain⟨i,p0,ei,e0⟩:=oJ hx;have hp:=bw ei;have eg:=dN wf hp e0;unfold mD;by_cases ne:st.own.idxOf o=st.own.idxOf (cI st x).ow
 .rw [av ne];exact wf
 rw[au ne];rw[eg]at ne;obtain⟨ft,_⟩:=LX wf hp ho ne (hs p0 hp);have uq:∀p∈st.ah,p.nm=x->p=p0:=λp eL e=>nG wf eL hp (e.trans e0.symm);have P:∀{M:Pt->Prop},M (y_ st o p0)->(∀p∈st.ah,M p)->∀p∈(n_ st x (y_ st o)).ah,M p:=λa c p eL=>by
  obtain⟨q,hq,rfl⟩:=a_.mp (show p∈st.ah.map _ from eL);by_cases e:q.nm=x
  .rw [av e,uq q hq e];exact a
  .rw [au e];exact c q hq
 have hl:(nJ st p0 o).length=st.own.length:=by rw[vH,Gu,EM wf hp]
 have en:(n_ st x (y_ st o)).ah.map (λp:Pt=>p.nm)=st.ah.map λp:Pt=>p.nm:=by
  show(st.ah.map _).map _=_;rw[d7];refine tT λp _=>?_;show(if p.nm=x then y_ st o p else p).nm=p.nm;by_cases e:p.nm=x
  .rw [av e];rfl
  .rw [au e]
 have p1:=wf.gC;refine⟨wf.ua,wf.yL,?_,P (wf.sub p0 hp) wf.sub,P ?_ wf.rows,P ho wf.ow,wf.gc,wf.rD,wf.gC,wf.sM,wf.xC,wf.kR,wf.yM,?_,wf.As,wf.uc,wf.HN,wf.big,wf.oZ,P ⟨ff _,p1⟩ wf.tH,P ?_ wf.o9,P ?_ wf.qm,P (wf.ki p0 hp) wf.ki,wf.Gg⟩
 .show ((n_ st x (y_ st o)).ah.map (λp:Pt=>p.nm)).Nodup;rw[en];exact wf.fB
 .show (lS st (nJ st p0 o)).length=st.own.length;unfold lS;rw[kq,hl,wf.gc,yw]
 .show (st.ah.map _).length<=1000;rw[aE];exact wf.rE
 .intro r hr;obtain⟨t,ht,c,hc,rfl⟩:=vA (show r∈List.zipWith (λt c=>t-c) (nJ st p0 o) st.bU from hr);have a1:=ft t ht;have a2:=wf.oZ c hc;exact⟨by show -st.prod<=t-c;omega,by show t-c<=st.prod;omega⟩
 .intro t ht;have:t∈nJ st p0 o:=by rw[<-AU wf hp];exact ht
  exact ft t this
theorem Gv:∀{l m:List Int}{a b:Int},l.length=m.length->(∀j,l.getD j 0*a=m.getD j 0*b)->l.sum*a=m.sum*b
 | [],[],_,_,_,_=>by show(0:Int)*_=0*_;rw[yx,yx]
 | x::l,y::m,a,b,e,h=>by have h0:x*a=y*b:=h 0;have:=Gv (l:=l) (m:=m) (Nat.succ.inj e) λj=>h (j+1);show(x+l.sum)*a=(y+m.sum)*b;rw[p_,p_,h0,this]
theorem abu{c:Nat}{st:HS}{b:BS}(g:fj c st b)(wf:Wf st):∀p∈st.ah,(aV st p).sum=st.prod:=λp hp=>by obtain⟨i,hi,e⟩:=oV hp;obtain⟨q,eq,e1,_⟩:=g.rel.at' (i:=i) (p:=p) (by rw[bq hi,e]);have hq:=bw eq;have h:=Gv (l:=q.tops) (m:=aV st p) (by rw[g.fJ.tl q hq,EM wf hp,g.rel.own]) (g.pC p hp q hq e1);rw[g.sum q hq,l7]at h;exact(Int.eq_of_mul_eq_mul_right (by have:=g.fJ.b1;omega) h).symm
theorem YY{c:Nat}{st:HS}{b:BS}{x o:Str}(g:fj c st b)(wf:Wf st)(h:oH st x o=none)(hs:∀p∈st.ah,(aV st p).sum=st.prod):fj (c+1) (mD st x o) (mY b x (jb b o)):=by
 obtain⟨hx,ho⟩:=tN h;obtain⟨i,p0,q0,e1,e2,k1,k2,k3,k4,k5,k6⟩:=rP g.rel wf hx;have hp:=bw e1;have hq:=bw e2;have eo:=g.rel.own;have wb:=g.fJ;have uq:∀q∈b.ah,q.nm=x->q=q0:=λq hq' e=>by
  obtain⟨j,hj,ej⟩:=oV hq';have hj':b.ah[j]?=some q:=by rw[bq hj,ej]
  have:=rQ wb.nd hj';rw[e,<-k2,rQ wb.nd e2]at this;exact(gJ this).symm
 have up:∀p∈st.ah,p.nm=x->p=p0:=λp eL e=>nG wf eL hp (e.trans k1.symm);have hl:=wb.tl q0 hq;have hiB:b.own.idxOf q0.ow<q0.tops.length:=by rw[hl,k3,<-eo];exact wF (wf.ow p0 hp)
 have hjB:b.own.idxOf o<q0.tops.length:=by rw[hl,<-eo];exact wF ho
 have PB:∀{M:BP->Prop},M (jb b o q0)->(∀q∈b.ah,M q)->∀q∈(mY b x (jb b o)).ah,M q:=λa c q hq'=>by
  obtain⟨h3,_⟩:=iG.mp (show q∈List.filter _ _ from hq');obtain⟨q1,hq1,rfl⟩:=a_.mp h3;by_cases e:q1.nm=x
  .rw [av e,uq q1 hq1 e];exact a
  .rw [au e];exact c q1 hq1
 unfold mD;rw[k6];by_cases ne:st.own.idxOf o=st.own.idxOf p0.ow
 .rw [av ne];have oo:o=p0.ow:=by have a1:=wV ho;rw[ne,wV (wf.ow p0 hp)]at a1;exact(gJ a1).symm
  have hb:jb b o q0=q0:=by
   have:lF q0.tops (b.own.idxOf q0.ow) (b.own.idxOf o)=q0.tops:=by rw[oo,<-k3];exact Wb hiB
   show BP.mk q0.nm o q0.wo q0.we (lF q0.tops (b.own.idxOf q0.ow) (b.own.idxOf o))=q0;rw[this,oo,<-k3]
  have:mY b x (jb b o)=b:=by
   have e3:(b.ah.map λp=>if p.nm=x then jb b o p else p)=b.ah:=by
    refine(tT λq hq'=>?_).trans (List.map_id' _);by_cases e:q.nm=x
    .rw [av e,uq q hq' e];exact hb
    .rw [au e]
   unfold mY;rw[e3,z9.mpr λq hq'=>bh (by have:=wb.w1 q hq';omega)]
  rw[this];exact g.mono
 rw[au ne];have nb:b.own.idxOf q0.ow≠b.own.idxOf o:=by rw[<-eo,k3];exact cu ne
 have t0:=YW (i:=b.own.idxOf q0.ow) (j:=b.own.idxOf o) λt ht=>(wb.t0 q0 hq t ht).1;have sm:(lF q0.tops (b.own.idxOf q0.ow) (b.own.idxOf o)).sum=b.bot:=(YU hiB hjB).trans (g.sum q0 hq);have sb:=B_ b x (jb b o) λ_ _=>rfl;have hlB:(mY b x (jb b o)).ah.length<=b.ah.length:=by have:=sb.length_le;rwa [aE,aE]at this
 refine⟨⟨wb.nd.sublist sb,PB ?_ wb.tl,PB ?_ wb.t0,wb.b1,wb.bz,PB (wb.w1 q0 hq) wb.w1,wb.ol,fD hlB wb.pl,wb.kl⟩,⟨eo,?_⟩,?_,λu hu=>(g.b_ u hu).mono (by omega),fD g.stp (by omega),g.prod.mono (by omega),g.bot.mono (by omega),PB ?_ ?_,PB (g.we q0 hq) g.we,?_,?_,g.own,PB ⟨(g.nm q0 hq).1,uY (g.on o (by rw[<-eo];exact ho))⟩ g.nm,g.c6,g.ef,g.nk,g.on,PB sm g.sum⟩
 .show (lF _ _ _).length=_;rw[YT];exact hl
 .intro t ht;exact⟨t0 t ht,by rw[show(mY b x (jb b o)).bot=b.bot from rfl,<-sm];exact(EK t0).2 t ht⟩
 .show (st.ah.map _).map _=List.map pD ((b.ah.map _).filter _);rw[B9 (f:=λq:Q4=>if q.1=x then(q.1,o,q.2.2.1,q.2.2.2) else q) (λp hp=>by
   show pD (if p.nm=x then _ else _)=if p.nm=x then _ else _;by_cases e:p.nm=x
   .rw [av e,av e];rfl
   .rw [au e,au e]),<-vG g,z9.mpr (λq hq=>by
    obtain⟨q0,mZ,rfl⟩:=a_.mp hq;obtain⟨p,hp,rfl⟩:=a_.mp mZ;have w1:=(wf.ki p hp).1;refine bh ?_;show 0<(if p.nm=x then _ else _:Q4).2.2.1;by_cases e:p.nm=x
    .rw [av e];show 0<p.wo;omega
    .rw [au e];show 0<p.wo;omega),d7,d7]
  refine tT λp hp=>?_;show(λp:Pt=>((p.nm,p.ow,p.wo,p.we):Q4)) (if p.nm=x then _ else _)=if p.nm=x then _ else _;by_cases e:p.nm=x
  .rw [av e,av e]
  .rw [au e,au e]
 .intro p eL q hq' e j;obtain⟨p1,hp1,rfl⟩:=a_.mp (show p∈st.ah.map _ from eL);obtain⟨h3,_⟩:=iG.mp (show q∈List.filter _ _ from hq');obtain⟨q1,hq1,rfl⟩:=a_.mp h3;by_cases ep:p1.nm=x
  .have eq:q1.nm=x:=by
    rw[av ep]at e;by_cases z:q1.nm=x
    .exact z
    .rw [au z]at e;exact e.symm.trans ep
   rw[av ep,av eq,uq q1 hq1 eq,up p1 hp1 ep];have et:=AU wf hp o;show(lF q0.tops (b.own.idxOf q0.ow) (b.own.idxOf o)).getD j 0*st.prod=(aV st (y_ st o p0)).getD j 0*b.bot;have hl2:=EM wf hp;rw[et,vH,abt hiB hjB nb,abr (by rw[hl2];exact wF (wf.ow p0 hp)) (by rw[hl2];exact wF ho),<-eo,k3];have r:=g.pC p0 hp q0 hq (k1.trans k2.symm);by_cases z1:j=st.own.idxOf p0.ow
   .rw [av z1,av z1,yx,yx]
   rw[au z1,au z1];by_cases z2:j=st.own.idxOf o
   .rw [av z2,av z2,p_,p_,r,r]
   rw[au z2,au z2];exact r j
  .have eq:q1.nm≠x:=λz=>by rw[au ep,av z]at e;exact ep (e.trans z)
   rw[au ep,au eq]at e;rw[au ep,au eq];exact g.pC p1 hp1 q1 hq1 e j
 .have:=g.wo q0 hq;show q0.wo<=_;omega
 .intro q hq';have:=g.wo q hq';omega
 .have:=g.pl;omega
 .have:=g.kl;show b.ef.length<=_;omega
theorem LY{q0 q1:Addr×Addr×Addr}:∀{ps:List Pt}{qs:List (Addr×Addr×Addr)}{i:Nat},qs[i]?=some q0->q1.1=q0.1->cX ps (qs.set i q1)=cX ps qs
 | [],_,_,_,_=>by simp[cX]
 | _::_,[],_,h,_=>by simp at h
 | p::ps,q::qs,0,h,e=>by
  have:q=q0:=by simpa using h
  subst this;show(_,V.ref q1.1)::_=(_,V.ref q.1)::_;rw[e]
 | p::ps,q::qs,i+1,h,e=>by have:=LY (ps:=ps) (qs:=qs) (i:=i) (q1:=q1) (by simpa using h) e;show _::cX ps (qs.set i q1)=_::cX ps qs;rw[this]
theorem aW.Wc{T:TC}{n:Nat}{ρ:fE}{A:HA}{H:Hp}{st:HS}(h:aW T n ρ A H st)(g:Gh ρ H){i:Nat}{p0 p1:Pt}{q0:Addr×Addr×Addr}{r:Addr}(ep:st.ah[i]?=some p0)(eq:A.qs[i]?=some q0)(e1:p1.nm=p0.nm)(cr:ρ r=some (n,21,p0.nm))(hr:H r=some (.lst (p1.row.map V.int)))(nd:(st.ah.map (·.nm)).Nodup):aW T n ρ { A with qs:=A.qs.set i (q0.1,q0.2.1,r) } (upd H q0.1 (.ins T.part q0.2.1 (dB p1 r))) { st with ah:=st.ah.set i p1 }:=by
 have c0:=(h.opt i p0 q0 ep eq).2.2.1;have k:=dZ (o:=.ins T.part q0.2.1 (dB p1 r)) g c0;have k2':=λ{b:Addr}{u:Nat}{y:Str}{w:HO}=>Aq (H:=H) (o:=.ins T.part q0.2.1 (dB p1 r)) c0 (b:=b) (u:=u) (y:=y) (w:=w);obtain⟨vs,h1,h2⟩:=h.qX;obtain⟨kvs,k1,k2,k3⟩:=h.okn;refine⟨kz k h.ca h.oa,h.ca,kz k h.je h.iW,h.je,?_,h.gM,⟨vs,kz k h.jr h1,h2.keep k (by decide)⟩,h.jr,kz k h.ju h.tG,h.ju,kz k h.jv h.mz,h.jv,kz k h.jT h.jS,h.jT,kz k h.cpu h.mR,h.cpu,kz k h.jw h.qY,h.jw,⟨kvs,kz k h.jx k1,λp hp=>let⟨t,r,e,q⟩:=k2 p hp;⟨t,r,e,k.1 _ _ q⟩,k3⟩,h.jx,?_,?_⟩
 .show _=some (HO.dK (cX (st.ah.set i p1) (A.qs.set i (q0.1,q0.2.1,r))));rw[LY (q1:=(q0.1,q0.2.1,r)) eq rfl,BO ep e1];exact kz k h.gM h.fh
 .show (A.qs.set i _).length=(st.ah.set i _).length;rw[eZ,eZ];exact h.ql
 .intro j p q hp hq;have hi:=(di.mp ep).1;have hi':=(di.mp eq).1;by_cases e:i=j
  .subst e;rw[show({ st with ah:=st.ah.set i p1 }:HS).ah=st.ah.set i p1 from rfl,iB hi]at hp;rw[show({ A with qs:=A.qs.set i (q0.1,q0.2.1,r) }:HA).qs=A.qs.set i (q0.1,q0.2.1,r)from rfl,iB hi']at hq;cases hp;cases hq;exact⟨ao,k2' cr (.inl (by decide)) hr,by rw[e1];exact c0,by rw[e1];exact cr⟩
  .rw [show({ st with ah:=st.ah.set i p1 }:HS).ah=st.ah.set i p1 from rfl,yk e]at hp;rw[show({ A with qs:=A.qs.set i (q0.1,q0.2.1,r) }:HA).qs=A.qs.set i (q0.1,q0.2.1,r)from rfl,yk e]at hq;obtain⟨a1,a2,a3,a4⟩:=h.opt j p q hp hq;exact⟨k2' a3 (.inr λz=>e (Ep nd ep hp z.symm)) a1,k2' a4 (.inl (by decide)) a2,a3,a4⟩
theorem LZ{X:Cx}:ZI X (QZ X.K):=by
 intro pins s σ H x y v u Q I rx ry h;obtain⟨p,xs,i,z,rfl,rfl,hq,he,q⟩:=h;cases rx;obtain⟨t,rfl⟩:=ry;obtain⟨its,r,pl,hz⟩:=I.list hq;obtain⟨j,h1,h2,h3,h4,h5⟩:=BG he;obtain⟨w,ew,rw'⟩:=r.get h2;have hl:=r.length;have hn:=vd;have fin:EP X pins σ Q w s:=⟨z,H,I,rw',q⟩
 by_cases h0:0<=i
 .have hj:i.toNat=j:=by rw[seqIndex_of h0 h5]at h1;exact gJ h1
  exact wpAny_getItem_list pl.isList h0 (by omega) (by rw[hj];simpa using ew) fin
 .have hj:(i+(its.toArray.size:Int)).toNat=j:=by rw[seqIndex_neg (by omega) h4]at h1;rw[i9,<-hl];exact gJ h1
  exact wpAny_getItem_list_neg pl.isList (by omega) (by rw[i9] <;> omega) (by omega) (by rw[hj];simpa using ew) fin
theorem aZ.Dc{n:Nat}{ρ:fE}{B:BA}{H:Hp}{b:BS}(h:aZ n ρ B H b)(g:Gh ρ H){i:Nat}{p0:BP}{q0:Addr×Addr}(l:List Int)(ep:b.ah[i]?=some p0)(eq:B.qs[i]?=some q0)(nd:(b.ah.map (λp:BP=>p.nm)).Nodup):aZ n ρ B (upd H q0.2 (.lst (l.map V.int))) { b with ah:=b.ah.set i { p0 with tops:=l } }:=by
 obtain⟨x1,x2,x3,x4⟩:=h.pt i p0 q0 ep eq;have k:=dZ (o:=.lst (l.map V.int)) g x4;obtain⟨vs,h1,h2⟩:=h.oa;have hi2:i<b.ah.length:=(di.mp ep).1;refine⟨kz k h.cm h.om,h.cm,kz k h.co h.oo,h.co,kz k h.cp h.op,h.cp,⟨vs,kz k h.ca h1,h2.keep k (by decide) (by decide)⟩,h.ca,kz k h.ck h.ok,h.ck,?_,λj p q qw CD=>?_⟩
 .show B.qs.length=(b.ah.set i _).length;rw[eZ];exact h.ql
 .have qw:(b.ah.set i { p0 with tops:=l })[j]?=some p:=qw;by_cases hj:i=j
  .subst hj;rw[iB hi2]at qw;rw[eq]at CD;cases qw;cases CD;exact⟨kz k x3 x1,ao,x3,x4⟩
  .rw [yk hj]at qw;obtain⟨a1,a2,a3,a4⟩:=h.pt j p q qw CD;have hnm:p.nm≠p0.nm:=λe=>by
    have hj2:j<b.ah.length:=(di.mp qw).1;have r1:(b.ah.map (λp:BP=>p.nm))[j]?=some p.nm:=by rw[bO,qw];rfl
    have r2:(b.ah.map (λp:BP=>p.nm))[i]?=some p0.nm:=by rw[bO,ep];rfl
    have hj3:j<(b.ah.map (λp:BP=>p.nm)).length:=by rw[aE];exact hj2
    exact hj ((FU hj3 nd).mp (r1.trans (by rw[e];exact r2.symm))).symm
   have hq:q.2≠q0.2:=λe=>by rw[e,x4]at a4;exact hnm (gR (λc:qj=>c.2.2) (gJ a4)).symm
   exact⟨kz k a3 a1,by rw[az hq];exact a2,a3,a4⟩
inductive T5(T:TC)(vs:List V)(H:Hp)(Q:VK)(E:XK):Prop
 |mk(n ρ A st:_)(i:Nat)(p:Pt)(_:vs=[.ref A.a,.str p.nm])(_:HH T n ρ A H st)(_:st.ah[i]?=some p)(_:st.kn+100<=1000000)(_:∀r ws H',HH T n ρ A H' { st with kn:=st.kn+100 }->Fr n ρ H ρ H'->H r=none->H' r=some (.lst ws)->ρ r=none->iM H' ws (mS st p:_)->Q (.ref r) H')
def ze(T:TC):Sp:=bx (T5 T)
theorem Mn.imp{P:Program}{w:World}{K:Fg}{mg:SO}{base:Heap}{k:Nat}{C:Addr}{m:Str}{ps:List Str}{sp sp0:Sp}(D:Mn P w K mg base k C m ps sp)(h:∀vs H Q E,sp0 vs H Q E->sp vs H Q E):Mn P w K mg base k C m ps sp0:=by obtain⟨f,fd,F,r⟩:=D.ex;exact⟨f,fd,F.imp h,r⟩
theorem T6{P:Program}{w:World}{K:Fg}{mg:SO}{base:Heap}{k:Nat}{T:TC}{ps:List Str}(D:Mn P w K mg base k T.hold "shares" ps (ze T)):Mn P w K mg base k T.hold "shares" ps (HP T):=D.imp λvs H Q E h=>by obtain⟨⟨n,ρ,A,st,i,p,rfl,hh,ep,hk,q⟩⟩:=h;exact⟨n,ρ,A,st,i,p,Z,hh,ep,hk,λr ws H' a b c d e f=>q r ws ρ A H' a rfl b c d e f⟩
structure Wd(st:HS):Prop where
 kn:st.kn+100<=1000000
 c6:st.c6.length<1000
 wo:∀p∈st.ah,Jm.Sz 60 p.wo
 prod:Jm.Sz 7900 st.prod
 b_:∀u∈st.b_,Jm.Sz 8900 u
inductive abx(T:TC)(e:Ec)(vs:List V)(H:Hp)(Q:VK)(E:XK):Prop
 |mk(n ρ A st x:_)(_:vs=[.ref A.a,.str x])(_:HH T n ρ A H st)(_:Wd st)(_:Il T e n ρ A H (uT st x:_) (yY st x:_) Q E)
def P0(T:TC)(e:Ec):Sp:=bx (abx T e)
theorem xg{st:HS}{x:Str}(h:uT st x=none):x∈fM st:=by
 unfold uT at h;split at h
 .assumption
 .cases h
theorem Fr.adM{n:Nat}{ρ:fE}{H H':Hp}(f:Fr n ρ H ρ H')(g:Gh ρ H'){b:Addr}(h:H' b=none):H b=none:=by
 cases e:H b with
 | none=>rfl
 | some o=>have:=(f b o e λt x z=>by rw[g.none h]at z;cases z).1;rw[h]at this;cases this
theorem AV:∀{l:List Pt}{i:Nat}{p:Pt},(l.map (·.nm)).Nodup->l[i]?=some p->l.filter (λq=>decide (q.nm≠p.nm))=l.eraseIdx i
 | [],_,_,_,h=>by simp at h
 | x::l,0,p,nd,h=>by
  obtain⟨h1,h2⟩:=gK.mp (show(x.nm::l.map (·.nm)).Nodup from nd);have e:x=p:=by simpa using h
  subst e;rw[gQ,au (by simp)];exact z9.mpr λy hy=>bh λz=>h1 (a_.mpr ⟨y,hy,z⟩)
 | x::l,i+1,p,nd,h=>by
  obtain⟨h1,h2⟩:=gK.mp (show(x.nm::l.map (·.nm)).Nodup from nd);have h':l[i]?=some p:=by simpa using h
  rw[gQ,av (by simpa using λz:x.nm=p.nm=>h1 (a_.mpr ⟨p,bw h',z.symm⟩)),AV h2 h'];rfl
def ud(st:HS)(p:Pt):List Int:=(jF st p).set (st.own.idxOf p.ow) ((jF st p).getD (st.own.idxOf p.ow) 0-p.wo*st.prod)
theorem We{st:HS}(wf:Wf st){p:Pt}(hp:p∈st.ah){m:Nat}(h1:Jm.Sz 60 p.wo)(h2:Jm.Sz m st.prod)(h3:∀u∈st.b_,Jm.Sz (m+60) u):∀u∈jF st p,Jm.Sz (m+61) u:=λu hu=>by obtain⟨i,a,t,ea,et,rfl⟩:=jf (show u∈List.zipWith (λu t=>u+p.wo*t) st.b_ (aV st p)from hu);have ht:=wf.qm p hp t (bw et);have zt:Jm.Sz m t:=h2.of_le (by omega);exact(h3 a (bw ea)).kD ((h1.mul zt).mono (by omega))
theorem Gw{st:HS}(wf:Wf st){p:Pt}(hp:p∈st.ah){m:Nat}(h1:Jm.Sz 60 p.wo)(h2:Jm.Sz m st.prod)(h3:∀u∈st.b_,Jm.Sz (m+60) u):∀u∈ud st p,Jm.Sz (m+62) u:=λu hu=>by
 have g:=We wf hp h1 h2 h3;rcases J6 (show u∈(jF st p).set _ _ from hu)with z|z
 .exact (g u z).mono (by omega)
 .rw [z];have z0:Jm.Sz (m+61) ((jF st p).getD (st.own.idxOf p.ow) 0):=by
   rw[fH];cases e:(jF st p)[st.own.idxOf p.ow]? with
   | none=>exact(by show Jm.Sz (m+61) 0;unfold Jm.Sz;exact Nat.pow_pos (by decide))
   | some y=>exact g y (bw e)
  have:=z0.kD (((h1.mul h2).mono (by omega:60+m<=m+61)).neg);rw[Int.sub_eq_add_neg];exact this
theorem Iq{st:HS}(wf:Wf st){p:Pt}(hp:p∈st.ah):(jF st p).length=st.own.length:=by unfold jF;rw[kq,EM wf hp,wf.rD,yw]
theorem zf{st:HS}(wf:Wf st){p:Pt}(hp:p∈st.ah):yY st p.nm={ st with ah:=st.ah.filter (λq=>decide (q.nm≠p.nm)),c6:=st.c6++[⟨p.nm,p.ow,p.wo,mS st p⟩],kn:=st.kn+100,b_:=ud st p }:=by unfold yY ud;rw[dN wf hp rfl]
theorem P_{st:HS}{x:Str}(wf:Wf st)(h:uT st x=none)(l:Wd st):Wf (yY st x):=by
 obtain⟨i,p,e1,rfl⟩:=oJ (xg h);have hp:=bw e1;rw[zf wf hp];have S:∀{M:Pt->Prop},(∀x∈st.ah,M x)->∀x∈st.ah.filter (λq=>decide (q.nm≠p.nm)),M x:=λh x hx=>h x (iG.mp hx).1;have hf:=FH (λq:Pt=>decide (q.nm≠p.nm)) st.ah;refine⟨wf.ua,wf.yL,List.Nodup.sublist (List.Sublist.map _ Ke) wf.fB,S wf.sub,S wf.rows,S wf.ow,wf.gc,?_,wf.gC,wf.sM,wf.xC,wf.kR,wf.yM,?_,wf.As,?_,l.kn,wf.big,wf.oZ,S wf.tH,S wf.o9,S wf.qm,S wf.ki,?_⟩
 .show (ud st p).length=_;unfold ud;rw[eZ,Iq wf hp]
 .have:=wf.rE;show(List.filter _ _).length<=1000;omega
 .show (st.c6++[_]).length<=1000;rw[cZ];exact l.c6
 .exact λu hu=>(Gw wf hp (m:=8840) (l.wo p hp) (l.prod.mono (by decide)) (λu hu=>(l.b_ u hu).mono (by decide)) u hu).mono (by decide)
inductive T7(c:Nat)(own:List Str)(sh:List (Str×Rat)):Prop
 |mk(Wg:List Str)(tops:List Int)(b:Int)(_:Wg <+:own)(_:Wg.length=tops.length)(_:sh=c8 Wg tops b)(_:∀t∈tops,0<=t)(_:tops.sum=b)(_:1<=b)(_:Jm.Sz (64*c+1) b)
theorem T7.mono{c c':Nat}{own own':List Str}{sh:List (Str×Rat)}(h:T7 c own sh)(hc:c<=c')(ho:own <+:own'):T7 c' own' sh:=by obtain⟨o0,ts,b,h1,h2,h3,h4,h5,h6,h7⟩:=h;exact⟨o0,ts,b,h1.trans ho,h2,h3,h4,h5,h6,h7.mono (by omega)⟩
structure Go(c:Nat)(st:HS):Prop where
 b_:∀u∈st.b_,Jm.Sz (64*c+61) u
 stp:st.stp.length<=c
 prod:Jm.Sz (64*c+1) st.prod
 wo:∀p∈st.ah,p.wo<=1000000000000*((c:Int)+1)
 we:∀p∈st.ah,p.we<=1000000000
 pl:st.ah.length<=c
 kl:st.nms.length<=c
 ol:0<st.own.length
 nk:∀x∈st.nms,isNm x=true
 on:∀o∈st.own,isNm o=true
 sum:∀p∈st.ah,(aV st p).sum=st.prod
 al:st.c6.length<=c
 c6:∀a∈st.c6,T7 c st.own a.sh
theorem Go.kn{c:Nat}{st:HS}(g:Go c st)(k:Nat):Go c { st with kn:=k }:=⟨g.b_,g.stp,g.prod,g.wo,g.we,g.pl,g.kl,g.ol,g.nk,g.on,g.sum,g.al,g.c6⟩
theorem Go.mono{c:Nat}{st:HS}(g:Go c st):Go (c+1) st:=⟨λu hu=>(g.b_ u hu).mono (by omega),by have:=g.stp;omega,g.prod.mono (by omega),λp hp=>by have:=g.wo p hp;omega,g.we,by have:=g.pl;omega,by have:=g.kl;omega,g.ol,g.nk,g.on,g.sum,by have:=g.al;omega,λa ha=>(g.c6 a ha).mono (by omega) (List.prefix_refl _)⟩
theorem Qa:∀{ps:List Pt}{m:Int},(∀p∈ps,1<=p.wo/\p.wo<=m)->0<=(ps.map (·.wo)).sum/\(ps.map (·.wo)).sum<=m*(ps.length:Int)
 | [],m,_=>by show 0<=(0:Int)/\(0:Int)<=m*0;omega
 | p::ps,m,h=>by have h0:=h p cT;have ih:=Qa (ps:=ps) (m:=m) λx hx=>h x (cW _ hx);rw[bN,cQ,iF,show(((ps.length+1:Nat)):Int)=(ps.length:Int)+1 from by omega,l_,BB];omega
theorem Go.whole{c:Nat}{st:HS}(g:Go c st)(wf:Wf st)(hc:c<=91):0<=aH st/\Jm.Sz 60 (aH st):=by
 have h:=Qa (ps:=st.ah) (m:=92000000000000) λp hp=>⟨(wf.ki p hp).1,by have:=g.wo p hp;omega⟩
 have hl:=g.pl;have h2:(92000000000000:Int)*(st.ah.length:Int)<=92000000000000*91:=by omega
 have h3:aH st<=92000000000000*91:=DS h.2 h2;have h1:0<=aH st:=h.1;exact⟨h1,(show Jm.Sz 60 (92000000000000*91:Int)from jR (by decide +kernel)).of_le (by omega)⟩
theorem Go.aw{c:Nat}{st:HS}(g:Go c st)(wf:Wf st)(hc:c<=91):Gs st:=⟨(g.whole wf hc).2,g.prod.mono (by omega),λu hu=>(g.b_ u hu).mono (by omega),by have:=g.stp;omega⟩
theorem Go.sz{c:Nat}{st:HS}(g:Go c st)(wf:Wf st)(hc:c<=91):∀p∈st.ah,Jm.Sz 60 p.wo:=λp hp=>by have h:=g.wo p hp;have h1:=(wf.ki p hp).1;exact(show Jm.Sz 60 (92000000000000:Int)from jR (by decide +kernel)).of_le (by omega)
theorem Go.ld{c:Nat}{st:HS}(g:Go c st)(wf:Wf st)(hc:c<=91)(hk:st.kn+100<=1000000):Wd st:=⟨hk,by have:=g.al;omega,g.sz wf hc,g.prod.mono (by omega),λu hu=>(g.b_ u hu).mono (by omega)⟩
theorem EN{c:Nat}{st:HS}(g:Go c st){ps:List Pt}{ns:List Str}(h:∀p∈ps,(aV st p).sum=st.prod/\p.wo<=1000000000000*((c:Int)+2)/\p.we<=1000000000)(hl:ps.length<=c+1)(hn:ns.length<=c+1)(hk:∀x∈ns,isNm x=true):Go (c+1) { st with ah:=ps,nms:=ns }:=⟨g.mono.b_,g.mono.stp,g.mono.prod,λp hp=>by have:=(h p hp).2.1;omega,λp hp=>(h p hp).2.2,hl,hn,g.ol,hk,g.on,λp hp=>(h p hp).1,g.mono.al,g.mono.c6⟩
theorem Go.same{c:Nat}{st:HS}(g:Go c st){ps:List Pt}(h:∀p'∈ps,∃p∈st.ah,p'.row=p.row/\p'.sc=p.sc/\p'.wo<=p.wo+1000000000000/\p'.we<=p.we)(hl:ps.length<=c+1):Go (c+1) { st with ah:=ps }:=EN g (ns:=st.nms) (λp' eL=>by obtain⟨p,hp,e1,e2,e3,e4⟩:=h p' eL;have w:=g.wo p hp;have v:=g.we p hp;exact⟨by have:=g.sum p hp;unfold aV at this ⊢;rw[e1,e2];exact this,by omega,by omega⟩) hl g.mono.kl g.nk
theorem L0{c:Nat}{st st':HS}{kept lost:Int}{added:List Int}(g:Go c st)(wf:Wf st)(bl:pV st kept (aH st) lost added)(hs:added.sum=lost*st.prod)(hc:c<=90)(eC:st'={ bF st kept (aH st) added with ah:=st'.ah })(hp:∀p'∈st'.ah,∃p∈st.ah,p'.row=p.row/\p'.sc=p.sc*kept / cL st kept (aH st) added/\p'.wo<=p.wo/\p'.we=p.we)(hl:st'.ah.length<=st.ah.length):Go (c+1) st':=by
 have zw:=g.whole wf (by omega)
 obtain⟨hd,hsw,_,_⟩:=bl.dvds
 have w1:0<aH st:=by have:=bl.k;have:=bl.l;have:=bl.w;omega
 have s1:1<=aH st / cL st kept (aH st) added:=by have:=Int.le_of_dvd w1 hsw;exact Int.le_ediv_of_mul_le hd (by omega)
 have s2:aH st / cL st kept (aH st) added<=aH st:=DI _ (by omega)
 have zs:Jm.Sz 60 (aH st / cL st kept (aH st) added):=zw.2.of_le (by omega)
 have ep:st'.prod=(bF st kept (aH st) added).prod:=by rw[eC]
 have ec:st'.bU=(bF st kept (aH st) added).bU:=by rw[eC]
 have epr:st'.prod=st.prod*(aH st / cL st kept (aH st) added):=by rw[ep];unfold bF;rw[yR s1]
 have en:st'.nms=st.nms:=by rw[eC];show(bF st kept (aH st) added).nms=_;unfold bF;rw[wU]
 have eo:st'.own=st.own:=by rw[eC];show(bF st kept (aH st) added).own=_;unfold bF;rw[AA]
 have ea:st'.c6=st.c6:=by rw[eC];show(bF st kept (aH st) added).c6=_;unfold bF;rw[HX]
 have p1:=wf.gC
 have gm:=g.mono
 refine⟨λu hu=>?_,?_,?_,λp' eL=>?_,λp' eL=>?_,by have:=g.pl;omega,by rw[en];exact gm.kl,by rw[eo];exact g.ol,by rw[en];exact g.nk,by rw[eo];exact g.on,λp' eL=>?_,by rw[ea];exact gm.al,by rw[ea,eo];exact gm.c6⟩
 . rw[eC]at hu
   have hu:u∈(bF st kept (aH st) added).b_:=hu
   unfold bF at hu
   rw[HW]at hu
   obtain⟨x,hx,rfl⟩:=a_.mp hu
   exact((g.b_ x hx).mul zs).mono (by omega)
 . rw[eC]
   show(bF st kept (aH st) added).stp.length<=c+1
   unfold bF fK
   split
   . show(st.stp++[_]).length<=c+1
     rw[cZ];have:=g.stp;show st.stp.length+1<=c+1;omega
   . exact gm.stp
 . rw[epr];exact(g.prod.mul zs).mono (by omega)
 . obtain⟨p,h0,_,_,e3,_⟩:=hp p' eL
   have:=gm.wo p h0
   omega
 . obtain⟨p,h0,_,_,_,e4⟩:=hp p' eL
   rw[e4];exact g.we p h0
 . obtain⟨p,h0,e1,e2,_,_⟩:=hp p' eL
   have tl:=rG wf h0
   have tl':(aV st' p').length=st.bU.length:=by unfold aV;rw[kq,e1,wf.rows p h0,<-wf.gc,ec];unfold bF gr;rw[HV,aE,kq,bl.len];omega
   have r:=Gv (l:=List.zipWith (λt m=>t*kept+m) (aV st p) added) (m:=aV st' p') (a:=st'.prod) (b:=st.prod*aH st) (by rw[kq,tl,tl',bl.len];omega) λj=>by rw[pA (f:=λt m=>t*kept+m) (by show(0:Int)*_+0=0;omega) (by rw[tl,bl.len])];exact AG wf bl ec ep h0 e1 e2 (B:=st.prod) rfl rfl
   rw[Gp _ (by rw[tl,bl.len]),g.sum p h0,hs,l7 lost,<-l_,<-bl.w,l7 _ st'.prod]at r
   exact(Int.eq_of_mul_eq_mul_right (Int.ne_of_gt (Int.mul_pos (by omega) w1)) r).symm
theorem Ir:∀(rs:List Row)(s:HS),(∀r∈rs,1<=r.2)->∀p'∈(rs.foldl eF s).ah,∃p∈s.ah,∃w,p'={ p with wo:=w }/\w<=p.wo
 | [],s,_,p',h=>⟨p',h,p'.wo,Z,ff _⟩
 | r::rs,s,h1,p',h=>by
  obtain⟨p,hp,w,e,le⟩:=Ir rs (eF s r) (λx hx=>h1 x (cW _ hx)) p' h;obtain⟨_,q,hq,e2⟩:=rH hp;have:=h1 r cT;split at e2
  .subst e2;have le:w<=q.wo-r.2:=le;exact⟨q,hq,w,e,by omega⟩
  .subst e2;exact⟨p,hq,w,e,le⟩
theorem Iu:∀(rs:List Row)(s:HS),(rs.foldl eF s).ah.length<=s.ah.length
 | [],s=>aQ _
 | r::rs,s=>by have:=Iu rs (eF s r);have h:=uP (ps:=s.ah) (x:=r.1) (a:=r.2) |>.length_le;rw[aE,aE]at h;exact fD this h
theorem L1(k:Int):∀{xs ts:List Int},xs.length=ts.length->(List.zipWith (λx t=>x+k*t) xs ts).sum=xs.sum+k*ts.sum
 | [],[],_=>by simp
 | x::xs,t::ts,h=>by rw[tS,cQ,cQ,cQ,L1 k (by simpa using h),l_];omega
 | [],_::_,h=>by simp at h
 | _::_,[],h=>by simp at h
theorem Iw{st:HS}:∀(rs:List Row)(acc:List Int),(∀r∈rs,(aV st (cI st r.1)).length=acc.length/\(aV st (cI st r.1)).sum=st.prod)->(uO st acc rs).sum=acc.sum+bJ rs*st.prod
 | [],acc,_=>by show acc.sum=acc.sum+0*_;omega
 | r::rs,acc,h=>by
  obtain⟨h1,h2⟩:=h r cT;have e:(List.zipWith (λx t=>x+r.2*t) acc (aV st (cI st r.1))).length=acc.length:=by rw[kq,h1];omega
  show(uO st (List.zipWith (λx t=>x+r.2*t) acc (aV st (cI st r.1))) rs).sum=_;rw[Iw rs _ (λx hx=>by rw[e];exact h x (cW _ hx)),L1 _ h1.symm,h2,show bJ (r::rs)=r.2+bJ rs from by unfold bJ;rw[bN,cQ],p_];omega
theorem pF{st:HS}{r:Row}(h:lT st r=none):r.1∈fM st/\1<=r.2/\r.2<=(cI st r.1).wo:=by
 unfold lT at h;split at h
 .split at h
  .cases h
  .split at h
   .cases h
   .exact ⟨by assumption,by omega,by omega⟩
 .cases h
theorem AW{st:HS}{rs:List Row}(h:wZ st rs=none):rs≠[]/\(rs.map λr:Row=>r.1).Nodup/\(∀r∈rs,lT st r=none)/\bJ rs<aH st:=by
 unfold wZ at h;split at h
 .next c=>
  split at h
  .cases h
  .next e=>
   split at h
   .cases h
   .exact ⟨c.1,c.2,λr hr=>List.findSome?_eq_none_iff.mp e r hr,by omega⟩
 .cases h
theorem Go.AX{c:Nat}{st:HS}(g:Go c st)(wf:Wf st)(hc:c<=91){rs:List Row}(h:wZ st rs=none):nY st rs:=by
 obtain⟨h1,h2,h3,h4⟩:=AW h;have aw:=g.aw wf hc;refine⟨h2,h1,?_,λr hr=>?_,h4,aw.big,aw.prod,aw.b_,aw.stp⟩
 .have:=yI h2 (m:=fM st) (λx hx=>by obtain⟨r,hr,rfl⟩:=a_.mp hx;exact(pF (h3 r hr)).1);rw[aE]at this;unfold fM at this;rw[aE]at this;have:=g.pl;omega
 .obtain ⟨a1,a2,a3⟩:=pF (h3 r hr);obtain⟨i,p,e1,e2⟩:=oJ a1;have hp:=bw e1;rw[dN wf hp e2]at a3;have:=g.sz wf hc p hp;exact⟨a2,this.of_le (by omega),p,hp,e2,a3⟩
def DdG:Dd->Prop
 | .load _ _ wo we=>wo<=1000000000000/\we<=1000000000
 | .rise _ a=>a<=1000000000000
 | _=>True
theorem Qc{n i:Nat}{b:Int}(h:i<n):((List.replicate n (0:Int)).set i b).sum=b:=by
 have:=sO (l:=List.replicate n (0:Int)) (x:=b) (by rw[i8];exact h)
 rwa [LR,wJ,rJ,wJ]at this
theorem YZ{c:Nat}{st:HS}(g:Go c st)(wf:Wf st){x o:Str}{wo we:Int}(hx:isNm x=true)(ho:o∈st.own)(h1:wo<=1000000000000)(h2:we<=1000000000):Go (c+1) (wR st x o wo we):=by
 refine EN g (λp hp=>?_) (by rw[cZ];have:=g.pl;show st.ah.length+1<=_;omega) (by rw[cZ];have:=g.kl;show st.nms.length+1<=_;omega) (λy hy=>?_)
 .rcases dD.mp hp with z|z
  .have:=g.wo p z;exact⟨g.sum p z,by omega,g.we p z⟩
  .rw [dj.mp z];refine⟨?_,by show wo<=_;omega,h2⟩;unfold aV;show(List.zipWith (λr c=>(1:Int)*r+c) (lS st _) st.bU).sum=_;rw[LW (by rw[eZ,i8,wf.gc])];exact Qc (wF ho)
 .rcases dD.mp hy with z|z
  .exact g.nk y z
  .rw [dj.mp z];exact hx
theorem Y0{c:Nat}{st:HS}(g:Go c st)(wf:Wf st)(hc:c<=90){rs:List Row}(h:wZ st rs=none):Go (c+1) (i_ st rs):=by
 have ok:=g.AX wf (by omega) h;have h1:∀r∈rs,1<=r.2:=λr hr=>(ok.row r hr).1;refine L0 g wf (ok.blend wf) ?_ hc (pW rs _) (λp' eL=>?_) ?_
 .have ex:∀r∈rs,∃p∈st.ah,p.nm=r.1:=λr hr=>by obtain⟨p,hp,e,_⟩:=(ok.row r hr).2.2;exact⟨p,hp,e⟩
  rw[AD wf ex,Iw,rJ,wJ];intro r hr;obtain⟨p,hp,e⟩:=ex r hr;rw[dN wf hp e,i8];exact⟨rG wf hp,g.sum p hp⟩
 .obtain ⟨p1,hp1,w,rfl,le⟩:=Ir rs _ h1 p' eL;unfold bF at hp1;rw[kN]at hp1;obtain⟨p,hp,rfl⟩:=a_.mp hp1;exact⟨p,hp,Z,Z,le,Z⟩
 .refine fD (Iu rs _) ?_;unfold bF;rw[kN,aE];exact aQ _
theorem Wh{c:Nat}{st:HS}(g:Go c st)(wf:Wf st)(hc:c<=90){o:Str}{a:Int}(h:mX st o a=none):Go (c+1) (AJ st o a):=by
 obtain⟨ho,h1,h2⟩:=uU h;refine L0 g wf ((g.aw wf (by omega)).blend (o:=o) wf h1 h2) (Qc (wF ho)) hc rfl (λp' eL=>?_) ?_
 .have eL:p'∈(bF st _ _ _).ah:=eL;unfold bF at eL;rw[kN]at eL;obtain⟨p,hp,rfl⟩:=a_.mp eL;exact⟨p,hp,Z,Z,ff _,Z⟩
 .show (bF st _ _ _).ah.length<=_;unfold bF;rw[kN,aE];exact aQ _
theorem T8{st:HS}(wf:Wf st){c:Nat}(g:Go c st){p:Pt}(hp:p∈st.ah):T7 c st.own (mS st p):=⟨st.own,aV st p,st.prod,List.prefix_refl _,(EM wf hp).symm,Z,λt ht=>(wf.qm p hp t ht).1,g.sum p hp,wf.gC,g.prod⟩
theorem Y3{c:Nat}{st:HS}(g:Go c st)(wf:Wf st)(hc:c<=91){x:Str}(h:uT st x=none):Go (c+1) (yY st x):=by
 obtain⟨i,p,e1,rfl⟩:=oJ (xg h);have hp:=bw e1;rw[zf wf hp];have S:∀{M:Pt->Prop},(∀x∈st.ah,M x)->∀x∈st.ah.filter (λq=>decide (q.nm≠p.nm)),M x:=λh x hx=>h x (iG.mp hx).1;have hf:=FH (λq:Pt=>decide (q.nm≠p.nm)) st.ah;have gm:=g.mono;refine⟨λu hu=>?_,gm.stp,gm.prod,S gm.wo,S g.we,fD hf gm.pl,gm.kl,g.ol,g.nk,g.on,S g.sum,?_,λa ha=>?_⟩
 .exact (Gw wf hp (m:=64*c+1) (g.sz wf hc p hp) g.prod (λu hu=>(g.b_ u hu).mono (by omega)) u hu).mono (by omega)
 .show (st.c6++[_]).length<=_;rw[cZ];have:=g.al;show st.c6.length+1<=_;omega
 .rcases dD.mp (show a∈st.c6++[_]from ha)with z|z
  .exact gm.c6 a z
  .rw [dj.mp z];exact(T8 wf g hp).mono (by omega) (List.prefix_refl _)
theorem Qd{c:Nat}{st:HS}(g:Go c st)(wf:Wf st){o:Str}(h:isNm o=true):Go (c+1) (fF st o):=by
 have gm:=g.mono;have P:∀p∈(fF st o).ah,∃p0∈st.ah,p={ p0 with row:=p0.row++[0] }:=λp hp=>by obtain⟨p0,h0,rfl⟩:=a_.mp (show p∈st.ah.map _ from hp);exact⟨p0,h0,Z⟩
 refine⟨λu hu=>?_,gm.stp,gm.prod,λp hp=>?_,λp hp=>?_,?_,gm.kl,?_,g.nk,λx hx=>?_,λp hp=>?_,gm.al,λa ha=>(gm.c6 a ha).mono (aQ _) (List.prefix_append _ _)⟩
 .rcases dD.mp (show u∈st.b_++[0]from hu)with z|z
  .exact gm.b_ u z
  .rw [dj.mp z];exact(show Jm.Sz 1 (0:Int)from jR (by decide +kernel)).mono (by omega)
 .obtain ⟨p0,h0,rfl⟩:=P p hp;exact gm.wo p0 h0
 .obtain ⟨p0,h0,rfl⟩:=P p hp;exact g.we p0 h0
 .show (st.ah.map _).length<=_;rw[aE];exact gm.pl
 .show 0<(st.own++[o]).length;rw[cZ];exact kP g.ol (p5 _ _)
 .rcases dD.mp (show x∈st.own++[o]from hx)with z|z
  .exact g.on x z
  .rw [dj.mp z];exact h
 .obtain ⟨p0,h0,rfl⟩:=P p hp;show(List.zipWith (λr c=>p0.sc*r+c) (p0.row++[0]) (st.bU++[0])).sum=st.prod;rw[Av _ (by rw[wf.rows p0 h0,wf.gc]),DK,show(List.zipWith (λr c=>p0.sc*r+c) p0.row st.bU).sum=st.prod from g.sum p0 h0];simp
theorem zg{l:List Pt}{x:Str}{f:Pt->Pt}{p':Pt}(h:p'∈l.map λp=>if p.nm=x then f p else p):∃p∈l,(p.nm=x/\p'=f p)\/p'=p:=by
 obtain⟨p,hp,e⟩:=a_.mp h;by_cases c:p.nm=x
 .exact ⟨p,hp,.inl ⟨c,by rw[av c]at e;exact e.symm⟩⟩
 .exact ⟨p,hp,.inr (by rw[au c]at e;exact e.symm)⟩
theorem adN{c:Nat}{st:HS}(g:Go c st)(wf:Wf st)(hc:c<=90){d:Dd}(hr:AI st d=none)(db:DdG d):Go (c+1) (w6 st d):=by
 have hl:=g.pl;cases d with
 | sign o=>
  have:yW st o=none:=hr;unfold yW at this;split at this
  .exact Qd g wf (by assumption)
  .cases this
 | load x o wo we=>obtain⟨h1,_,h3,_,_⟩:=tM hr;exact YZ g wf h1 h3 db.1 db.2
 | cast rs=>exact Y0 g wf hc hr
 | award o a=>exact Wh g wf hc hr
 | mishap x a=>
  obtain⟨_,h1,_⟩:=pF (show lT st (x,a)=none from hr);have h1:1<=a:=h1;refine g.same (ps:=jV st.ah x a) (λp' eL=>?_) ?_
  .obtain ⟨_,p,hp,e⟩:=rH eL;split at e
   .exact ⟨p,hp,by rw[e],by rw[e],by rw[e];show p.wo-a<=_;omega,by rw[e];exact ff _⟩
   .exact ⟨p,hp,by rw[e],by rw[e],by rw[e];omega,by rw[e];exact ff _⟩
  .have h:=uP (ps:=st.ah) (x:=x) (a:=a) |>.length_le;rw[aE,aE]at h;omega
 | rise x a=>
  have ha:a<=1000000000000:=db;refine g.same (λp' eL=>?_) (by rw[aE];omega);obtain⟨p,hp,⟨_,e⟩|e⟩:=zg eL
  .exact ⟨p,hp,by rw[e],by rw[e],by rw[e];show p.wo+a<=_;omega,by rw[e];exact ff _⟩
  .exact ⟨p,hp,by rw[e],by rw[e],by rw[e];omega,by rw[e];exact ff _⟩
 | hand x o=>
  obtain⟨hx,ho⟩:=tN hr;show Go (c+1) (mD st x o);unfold mD;split
  .exact g.mono
  .next ne=>
   refine EN g (ns:=st.nms) (λp' eL=>?_) (by rw[aE];omega) g.mono.kl g.nk;obtain⟨p,hp,⟨en,e⟩|e⟩:=zg eL
   .rw [dN wf hp en]at ne;have:=g.wo p hp;refine⟨?_,by rw[e];show p.wo<=_;omega,by rw[e];exact g.we p hp⟩;rw[e,show aV st { p with ow:=o,sc:=1,row:=lS st (nJ st p o) }=_ from AU wf hp o];exact(LX wf hp ho ne (g.sum p hp)).2
   .rw [e];have:=g.wo p hp;exact⟨g.sum p hp,by omega,g.we p hp⟩
 | land x=>exact Y3 g wf (by omega) hr
 | sever x y a we=>
  obtain⟨hx,hy,h1,h2,h3,h4⟩:=kZ hr;obtain⟨i,p0,e1,en⟩:=oJ hx;have hp0:=bw e1;have w0:=g.wo p0 hp0;have v0:=g.we p0 hp0;show Go (c+1) (qy st x y a we);unfold qy;rw[dN wf hp0 en]at h3 h4 ⊢;refine EN g (λp' eL=>?_) (by rw[cZ];show(List.map _ st.ah).length+1<=_;rw[aE];omega) (by rw[cZ];have:=g.kl;show st.nms.length+1<=_;omega) (λz hz=>?_)
  .rcases dD.mp eL with z|z
   .obtain ⟨p,hp,⟨_,e⟩|e⟩:=zg z
    .rw [e];have:=g.wo p hp;have:=g.we p hp;exact⟨g.sum p hp,by show p.wo-a<=_;omega,by show p.we-we<=_;omega⟩
    .rw [e];have:=g.wo p hp;exact⟨g.sum p hp,by omega,g.we p hp⟩
   .rw [dj.mp z];exact⟨g.sum p0 hp0,by show a<=_;omega,by show we<=_;omega⟩
  .rcases dD.mp hz with w|w
   .exact g.nk z w
   .rw [dj.mp w];exact hy.1
 | still=>exact g.mono
theorem adO{c:Nat}{st:HS}(g:Go c st)(wf:Wf st)(hc:c<=90)(hk:st.kn+100<=1000000)(ho:st.own.length<100){d:Dd}(hr:AI st d=none):Wf (w6 st d):=by
 have hl:=g.pl;have hn:=g.kl;cases d with
 | sign o=>
  have:yW st o=none:=hr;unfold yW at this;split at this
  .split at this
   .cases this
   .exact BW wf (by assumption) ho
  .cases this
 | load x o wo we=>obtain⟨_,h2,h3,h4,h5⟩:=tM hr;exact Pq wf h2 (by omega) (by omega) h3 h4 h5
 | cast rs=>exact Yy wf (g.AX wf (by omega) hr)
 | award o a=>obtain⟨h0,h1,h2⟩:=uU hr;exact yS wf ((g.aw wf (by omega)).blend (o:=o) wf h1 h2)
 | mishap x a=>obtain⟨_,_,h1⟩:=pF (show lT st (x,a)=none from hr);exact Gn wf λp hp e=>by rw[dN wf hp e]at h1;exact h1
 | rise x a=>have h1:=(AR (show sP st x a=none from hr)).2;exact ya wf λq hq _=>⟨Z,Z,Z,Z,by have:=(wf.ki q hq).1;show 1<=q.wo+a;omega,(wf.ki q hq).2⟩
 | hand x o=>exact PZ wf hr g.sum
 | land x=>exact P_ wf hr (g.ld wf (by omega) hk)
 | sever x y a we=>exact LV wf hr (by omega) (by omega)
 | still=>exact wf
theorem Y4(st:HS)(s:Int):(fK st s).kn<=st.kn:=by
 unfold fK;split
 .exact gh _
 .exact aQ _
theorem adP(st:HS)(d:Dd):(w6 st d).kn<=st.kn+100:=by
 cases d with
 | cast rs=>exact fD (YI st rs) (p5 _ _)
 | award o a=>exact fD (Y4 _ _) (p5 _ _)
 | hand x o=>show(mD st x o).kn<=_;unfold mD;split <;> exact p5 _ _
 | land x=>exact aQ _
 | _=>exact p5 _ _
inductive QAt(K:Fg)(H:Hp)(m:Addr)(st:HS):Prop
 |mk(kvs:List (Key×V))(lo lp lk:Addr)(us:List V)(_:H m=some (.dK kvs))(_:eE kvs (Sum.inr "owners")=some (.ref lo))(_:eE kvs (Sum.inr "parts")=some (.ref lp))(_:eE kvs (Sum.inr "known")=some (.ref lk))(_:aB K H lo (st.own.map V.str))(_:aB K H lp us)(_:tK K H us st.ah)(_:aB K H lk (st.nms.map V.str))
def zO(st:HS):List Row:=st.ah.map λp=>(p.nm,p.wo)
theorem tK.nw{K:Fg}{H:Hp}{us:List V}{st:HS}(h:tK K H us st.ah):Lz K H us (zO st):=by refine⟨by unfold zO;rw[aE];exact h.len,λi r e=>?_⟩;unfold zO at e;rw[bO]at e;obtain⟨p,ep,rfl⟩:=lQ.mp e;obtain⟨a,xs,e1,e2,e3,_,e5,_⟩:=h.at_ i p ep;exact⟨a,xs,e1,e2,e3,e5⟩
structure Nx(nms:List Str)(st:HS):Prop where
 t:st.nms=nms.take st.nms.length
 nd:nms.Nodup
 ok:∀x∈nms,isNm x=true
theorem Nx.next{nms:List Str}{st:HS}(h:Nx nms st){x:Str}(e:nms[st.nms.length]?=some x):isNm x=true/\x∉st.nms/\∀st':HS,st'.nms=st.nms++[x]->Nx nms st':=by
 refine⟨h.ok x (bw e),?_,λst' e'=>⟨?_,h.nd,h.ok⟩⟩
 .rw [h.t];exact kF h.nd e
 .rw [e',cZ,show st.nms.length+[x].length=st.nms.length+1 from rfl,take_snoc e,<-h.t]
theorem Nx.keep{nms:List Str}{st st':HS}(h:Nx nms st)(e:st'.nms=st.nms):Nx nms st':=⟨by rw[e];exact h.t,h.nd,h.ok⟩
theorem abA{st:HS}{d:Dd}(h:d.k≠1)(h':d.k≠8):(w6 st d).nms=st.nms:=by
 cases d with
 | load=>exact absurd rfl h
 | sever=>exact absurd rfl h'
 | cast rs=>show(i_ st rs).nms=_;unfold i_;rw[pW];show(bF st _ _ _).nms=_;unfold bF;rw[wU]
 | award o a=>show(bF st _ _ _).nms=_;unfold bF;rw[wU]
 | hand x o=>show(mD st x o).nms=_;unfold mD;split <;> rfl
 | _=>rfl
def Dd.pl:Dd->Bool
 | .sign _=>false | .load .. =>false | .sever .. =>false|_=>true
theorem Dd.Wi{d:Dd}(h:d.pl=true):d.k≠1/\d.k≠8/\d.k≠0:=by cases d <;> first|(exact Bool.noConfusion h)|(refine⟨?_,?_,?_⟩ <;> simp[Dd.k])
theorem Rt{st:HS}(wf:Wf st){rs:List Row}(h:Tw (zO st) rs)(hne:rs≠[]):wZ st rs=none:=by
 have hl:bJ rs<aH st:=by
  rcases h.lost with z|z
  .have e:bJ (zO st)=aH st:=by unfold bJ zO aH;rw[d7];rfl
   rw[<-e];exact z
  .exact absurd z hne
 have hr:∀r∈rs,lT st r=none:=λr hr=>by obtain⟨r1,_,w,hw,e,le⟩:=h.row r hr;obtain⟨p,hp,rfl⟩:=a_.mp hw;have e:p.nm=r.1:=e;have le:r.2<=p.wo:=le;unfold lT;rw[av (show r.1∈fM st from a_.mpr ⟨p,hp,e⟩),au (by omega),dN wf hp e,au (by omega)]
 unfold wZ;rw[av ⟨hne,h.nd⟩,List.findSome?_eq_none_iff.mpr hr];exact au (by omega)
theorem Nx.pl{nms:List Str}{st:HS}(h:Nx nms st)(wf:Wf st):st.ah.length<=nms.length:=by
 have a:=yI (l:=st.ah.map (·.nm)) (m:=nms) wf.fB (λx hx=>by obtain⟨p,hp,rfl⟩:=a_.mp hx;have:=wf.sub p hp;rw[h.t]at this;exact List.mem_of_mem_take this)
 rwa [aE]at a
inductive adQ(K:Fg)(vs:List V)(H:Hp)(Q:VK)(E:XK):Prop
 |mk(l:Addr)(us:List V)(rs:List Row)(_:vs=[.ref l])(_:aB K H l us)(_:f7 H us rs)(_:rs.length<=1000)(_:∀z H',aM H H'->H' z=some (.tup (Dd.v (.cast rs)))->Q (.ref z) H')
def T9(K:Fg):Sp:=bx (adQ K)
inductive Ca(nms:List Str)(st:HS)(d:Dd):Prop
 |mk(_:AI st d=none)(_:PN d)(_:Nx nms (w6 st d))(_:d.k≠0)
inductive adR(K:Fg)(vs:List V)(H:Hp)(Q:VK)(E:XK):Prop
 |mk(a m ln:Addr)(ns:List Int)(k:Int)(nms:List Str)(c:Nat)(st:HS)(_:vs=[.ref a,.int k,.ref m,.ref ln])(_:aB K H a (ns.map V.int))(_:ns.length<=63)(_:0<=k)(_:k<=1000000)(_:QAt K H m st)(_:aB K H ln (nms.map V.str))(_:Nx nms st)(_:nms.length<=50)(_:Wf st)(_:Go c st)(_:c<=90)(_:∀z d H',aM H H'->H' z=some (.tup (Dd.v d))->Ca nms st d->Q (.ref z) H')
def T_(K:Fg):Sp:=bx (adR K)
inductive Ua(K:Fg)(vs:List V)(H:Hp)(Q:VK)(E:XK):Prop
 |mk(a m ln:Addr)(ns:List Int)(k way:Int)(nms:List Str)(c:Nat)(st:HS)(_:vs=[.ref a,.int k,.ref m,.ref ln,.int way])(_:aB K H a (ns.map V.int))(_:ns.length<=63)(_:0<=k)(_:k<=1000000)(_:QAt K H m st)(_:aB K H ln (nms.map V.str))(_:Nx nms st)(_:nms.length<=50)(_:Wf st)(_:Go c st)(_:c<=90)(_:0<st.ah.length)(_:∀z d H',aM H H'->H' z=some (.tup (Dd.v d))->Ca nms st d->Q (.ref z) H')
def EO(K:Fg):Sp:=bx (Ua K)
inductive Y5(T:TC)(K:Fg)(vs:List V)(H:Hp)(Q:VK)(E:XK):Prop
 |mk(n c:Nat)(ρ:fE)(A:HA)(st:HS)(z:Addr)(d:Dd)(_:vs=[.ref A.a,.ref z])(_:cS K H z d.v)(_:HH T n ρ A H st)(_:Go c st)(_:c<=90)(_:st.kn+100<=1000000)(_:st.own.length<100)(_:AI st d=none)(_:wQ T n ρ A H (w6 st d:_) λH'=>Q .cy H')
def L3(T:TC)(K:Fg):Sp:=bx (Y5 T K)
theorem Qe:∀{rs:List Row}{i:Nat}{r:Row},rs[i]?=some r->(jX rs)[2*i]?=some (.str r.1)/\(jX rs)[2*i+1]?=some (.int r.2)
 | [],_,_,h=>by simp at h
 | x::rs,0,r,h=>by
  have e:x=r:=by simpa using h
  subst e;exact⟨Z,Z⟩
 | x::rs,i+1,r,h=>by obtain⟨a,b⟩:=Qe (rs:=rs) (i:=i) (by simpa using h);rw[show 2*(i+1)=2*i+1+1 by omega];exact⟨a,b⟩
theorem Qf{rs:List Row}{i:Nat}{r:Row}(h:rs[i]?=some r):(Dd.v (.cast rs))[1+2*i]?=some (.str r.1)/\(Dd.v (.cast rs))[2+2*i]?=some (.int r.2):=by obtain⟨a,b⟩:=Qe h;rw[show 1+2*i=2*i+1 by omega,show 2+2*i=2*i+1+1 by omega];exact⟨a,b⟩
theorem zh(rs:List Row):(Dd.v (.cast rs)).length=2*rs.length+1:=by show(jX rs).length+1=_;rw[AL]
theorem Ub(m:Nat):rC 1 ((2*m+1:Nat):Int) 2=m:=by unfold rC Builtin.Range.rangeSize;rw[av (by decide)];split <;> omega
theorem PN.g{d:Dd}(h:PN d):DdG d:=by
 cases d with
 | load x o wo we=>obtain⟨_,_,⟨_,h1⟩,⟨_,h2⟩⟩:=h;exact⟨by omega,h2⟩
 | rise x a=>obtain⟨_,⟨_,h1⟩⟩:=h;show a<=_;omega
 | _=>exact True.intro
structure GW(c m:Nat)(st:HS):Prop where
 g:Go c st
 wf:Wf st
 kn:st.kn<=m
theorem GW.do{c m:Nat}{st:HS}(h:GW c m st)(hc:c<=90)(hm:m+100<=1000000)(ho:st.own.length<100){d:Dd}(hr:AI st d=none)(hb:DdG d):GW (c+1) (m+100) (w6 st d):=⟨adN h.g h.wf hc hr hb,adO h.g h.wf hc (by have:=h.kn;omega) ho hr,by have:=h.kn;have:=adP st d;omega⟩
def sN(sp:Sp):Sp:=λvs H Q _=>sp vs H Q E0
theorem Uc{st:HS}{o:Str}(h:yW st o=none):isNm o=true/\o∉st.own:=by
 unfold yW at h;split at h
 .split at h
  .cases h
  .exact ⟨by assumption,by assumption⟩
 .cases h
def qZ(own:List Str):HS:=own.foldl fF hs0
theorem Iz:∀(l:List Str)(st:HS),Wf st->(st.own++l).Nodup->st.own.length+l.length<=100->Wf (l.foldl fF st)
 | [],_,w,_,_=>w
 | o::l,st,w,nd,hl=>by
  rw[lY];rw[iF]at hl;have h1:o∉st.own:=λm=>(List.nodup_append.mp nd).2.2 o m o cT rfl;refine Iz l (fF st o) (BW w h1 (by omega)) ?_ ?_
  .show ((st.own++[o])++l).Nodup;rw[Kl];exact nd
  .show (st.own++[o]).length+l.length<=100;rw[cZ];show st.own.length+1+l.length<=100;omega
theorem gw0{own:List Str}(nd:own.Nodup)(h0:0<own.length)(h1:own.length<=100)(hon:∀o∈own,isNm o=true):GW 0 0 (qZ own):=by
 obtain⟨k1,k2,k3,k4,k5,k6⟩:=uS own hs0 rfl (λu hu=>absurd hu (by simp[hs0]));have eo:(qZ own).own=own:=by unfold qZ;rw[tL];rfl
 have k1:(qZ own).ah=[] :=k1;have k2:(qZ own).nms=[] :=k2;have k3:(qZ own).stp=[] :=k3;have k4:(qZ own).prod=1:=k4;have k5:(qZ own).c6=[] :=k5;have k6:∀u∈(qZ own).b_,u=0:=k6;refine⟨⟨λu hu=>?_,by rw[k3];exact aQ _,?_,λp hp=>?_,λp hp=>?_,by rw[k1];exact aQ _,by rw[k2];exact aQ _,by rw[eo];exact h0,λx hx=>?_,by rw[eo];exact hon,λp hp=>?_,by rw[k5];exact aQ _,λa ha=>?_⟩,Iz own hs0 wf0 nd (by show 0+_<=_;omega),?_⟩
 .rw [k6 u hu];exact jR (by decide +kernel)
 .rw [k4];exact jR (by decide +kernel)
 .rw [k1]at hp;cases hp
 .rw [k1]at hp;cases hp
 .rw [k2]at hx;cases hx
 .rw [k1]at hp;cases hp
 .rw [k5]at ha;cases ha
 .rw [show(qZ own).kn=0 from LH own hs0];exact aQ _
theorem Y6(own:List Str):(qZ own).own=own:=by unfold qZ;rw[tL];rfl
theorem abB{own nms:List Str}(nd:nms.Nodup)(h:∀x∈nms,isNm x=true):Nx nms (qZ own):=by obtain⟨_,k2,_⟩:=uS own hs0 rfl (λu hu=>absurd hu (by simp[hs0]));have k2:(qZ own).nms=[] :=k2;exact⟨by rw[k2];rfl,nd,h⟩
section
variable {X:Cx}
end
section
variable {prog:Program}{w:World}{A:Around}{R:Result->Shared->Prop}{s:Shared}
end
section
variable {X:Cx}
end
section
variable {X:Cx}
end
section
variable {T:TC}{n m:Nat}{ρ ρ1:fE}{H H1:Hp}{A B:HA}{st s1:HS}{x:Addr}
end
section
variable {T:TC}{n m:Nat}{ρ ρ1:fE}{H H1:Hp}{A B:HA}{st s1:HS}{x:Addr}
end
inductive Pd:PyData->Nat->Prop
 | str {x:Str} {n:Nat}:PyData.strOk x=true->Pd (.str x) n
 | int {i:Int} {n:Nat}:Pd (.int i) n
 | list {ds:List PyData} {n:Nat}:(∀d∈ds,Pd d n)->Pd (.list ds) (n+1)
 | tuple {ds:List PyData} {n:Nat}:(∀d∈ds,Pd d n)->Pd (.tuple ds) (n+1)
theorem L4:∀{ds:List PyData},(∀d∈ds,PyData.canLay0 d=true)->PyData.canLayAll0 ds=true
 | [],_=>rfl
 | d::r,h=>by unfold PyData.canLayAll0;rw[h d cT,L4 λd hd=>h d (cW _ hd)];rfl
theorem De{n:Nat}:∀{ds:List PyData},(∀d∈ds,PyData.depth d<=n)->PyData.depthAll ds<=n
 | [],_=>gh _
 | d::r,h=>by unfold PyData.depthAll;have h1:=h d cT;have h2:=De λd hd=>h d (cW _ hd);omega
theorem L5:∀{ds:List PyData},(∀d∈ds,PyData.eqv d d=true)->PyData.eqvAll ds ds=true
 | [],_=>rfl
 | d::r,h=>by unfold PyData.eqvAll;rw[h d cT,L5 λd hd=>h d (cW _ hd)];rfl
theorem Pd.facts{d:PyData}{n:Nat}(h:Pd d n):PyData.canLay0 d=true/\PyData.depth d<=n/\PyData.eqv d d=true:=by
 induction h with
 | str e=>exact⟨by unfold PyData.canLay0;exact e,gh _,by unfold PyData.eqv;exact yq _⟩
 | int=>exact⟨Z,gh _,by unfold PyData.eqv;exact yq _⟩
 | list _ ih=>
  refine⟨?_,?_,?_⟩
  .unfold PyData.canLay0;exact L4 λd hd=>(ih d hd).1
  .unfold PyData.depth;have:=De λd hd=>(ih d hd).2.1;omega
  .unfold PyData.eqv;exact L5 λd hd=>(ih d hd).2.2
 | tuple _ ih=>
  refine⟨?_,?_,?_⟩
  .unfold PyData.canLay0;exact L4 λd hd=>(ih d hd).1
  .unfold PyData.depth;have:=De λd hd=>(ih d hd).2.1;omega
  .unfold PyData.eqv;exact L5 λd hd=>(ih d hd).2.2
theorem Pd.shaped{d:PyData}{n:Nat}(h:Pd d n)(hn:n<=64):SeqAt.shaped d=true:=by unfold SeqAt.shaped;rw[h.facts.1];exact bh (fD h.facts.2.1 hn)
theorem Pd.eqv{d:PyData}{n:Nat}(h:Pd d n):PyData.eqv d d=true:=h.facts.2.2
theorem ne_data{K:Fg}{H:Hp}{x y:V}{d:PyData}{n:Nat}{Q:VK}(h1:Dt K H x d)(h2:Dt K H y d)(p:Pd d n)(hn:n<=64)(q:Q (.bl false) H):Q8 K x y H Q:=⟨d,d,h1,h2,p.shaped hn,p.shaped hn,by rw[p.eqv];exact q⟩
section
variable {K:Fg}{H:Hp}
end
section
variable {a:Addr}{ρ:fE}{H:Hp}
end
theorem GW.up{c m:Nat}{st:HS}(h:GW c m st)(n:Nat){m':Nat}(hm:m<=m'):GW (c+n) m' st:=by
 refine⟨?_,h.wf,by have:=h.kn;omega⟩
 induction n with
 | zero=>exact h.g
 | succ n ih=>exact ih.mono
section
variable {P:Program}{w:World}{K:Fg}{mg:SO}{base:Heap}{k:Nat}{T:TC}{e:Ec}{ps:List Str}
theorem Wj(D:Mn P w K mg base k T.hold "place_of" ps (sN (yX T e))):Mn P w K mg base k T.hold "place_of" ps (Gj T):=D.imp λvs H Q E h=>by obtain⟨⟨n,ρ,A,st,o,rfl,hx,ho,q⟩⟩:=h;exact⟨n,ρ,A,st,o,Z,hx,λz=>absurd ho z,λ_=>q⟩
theorem Ud(D:Mn P w K mg base k T.hold "part_of" ps (sN (mW T e))):Mn P w K mg base k T.hold "part_of" ps (CZ T):=D.imp λvs H Q E h=>by obtain⟨⟨n,ρ,A,st,i,p,qq,rfl,hx,nd,ep,eq,q⟩⟩:=h;refine⟨n,ρ,A,st,p.nm,Z,hx,nd,λz=>absurd rfl (z p (bw ep)),λj p' q' e1 e2 e3=>?_⟩;have:j=i:=Ep nd e2 ep e1;subst this;rw[eq]at e3;cases e3;exact q
theorem abC(D:Mn P w K mg base k T.hold "check_new" ps (sN (xF T e))):Mn P w K mg base k T.hold "check_new" ps (Et T):=D.imp λvs H Q E h=>by
 obtain⟨⟨n,ρ,A,st,x,rfl,h,h1,h2,q⟩⟩:=h;have hn:newR st x=none:=by unfold newR;rw[av h1,au h2]
 refine⟨n,ρ,A,st,x,Z,h,fD (rK h1) (by decide),λi hi=>?_,λ_=>q⟩;rw[hn]at hi;cases hi
theorem abD(D:Dn P w K mg base k "check_amount" ps (sN (AQ e))):Dn P w K mg base k "check_amount" ps adx:=D.imp λvs H Q E h=>by obtain⟨⟨a,rfl,h1,q⟩⟩:=h;exact⟨a,Z,λz=>absurd z (by omega),λ_=>q⟩
theorem abE(D:Dn P w K mg base k "check_loss" ps (sN (LM e))):Dn P w K mg base k "check_loss" ps W4:=D.imp λvs H Q E h=>by obtain⟨⟨m,a,rfl,h1,h2,q⟩⟩:=h;exact⟨m,a,Z,λz=>absurd z (by omega),λ_ z=>absurd z (by omega),λ_ _=>q⟩
end
theorem cO{K:Fg}{σ:St}{H:Hp}{j:Nat}{z:Addr}{xs:List V}{w x:Str}{Q:Bool->Hp->Prop}(hz:cS K H z xs)(e:xs[0]?=some (.str w))(hx:w≠x)(hj:σ[j]?=some (some (.ref z)))(q:Q false H):J0 (Ht rEq (Ht (Q0 K) (FY j) (tC (.int 0))) (tC (.str x))) σ H Q:=by have f:decide (V.str w=V.str x)=false:=c9 λz=>hx (V.str.inj z);refine⟨_,hj,z,_,_,_,Z,Z,hz,aA (j:=0) e,Z,_,Z,?_⟩;rw[f];exact q
theorem Ue{c:Nat}{st:HS}{b:BS}(g:fj c st b)(x:Str):(mY b x λp=>{ p with wo:=0 }).ah=b.ah.filter λp=>decide (p.nm≠x):=by
 unfold mY;show List.filter _ (b.ah.map _)=_;have w:=g.fJ.w1;generalize b.ah=ps at w
 induction ps with
 | nil=>rfl
 | cons p ps ih=>
  have w1:=w p cT;have ih:=ih λq hq=>w q (cW _ hq);rw[bN,gQ,gQ,ih];by_cases e:p.nm=x
  .rw [av e];simp[e]
  .rw [au e];simp[e];omega
theorem Y7{c:Nat}{st:HS}{b:BS}{x:Str}(g:fj c st b)(wf:Wf st)(hc:c<=90)(h:uT st x=none):fj (c+1) (yY st x) (B0 b x):=by
 obtain⟨i,p0,q0,e1,e2,k1,k2,k3,k4,k5,k6⟩:=rP g.rel wf (xg h);have hp:=bw e1;have hq:=bw e2;have z0:Jm.Sz 60 p0.wo:=by
  have:=(g.whole (by omega)).2;have w0:=(wf.ki p0 hp).1;have le:p0.wo<=bQ b:=by rw[<-g.rel.whole];unfold aH;exact(EK λx hx=>by obtain⟨q,hq,rfl⟩:=a_.mp hx;have:=(wf.ki q hq).1;omega).2 _ (a_.mpr ⟨p0,hp,Z⟩)
  exact this.of_le (by omega)
 have eb:rO b x=q0:=by unfold rO;rw[<-k2,rQ g.fJ.nd e2];rfl
 have eB:B0 b x={ b with ah:=b.ah.filter (λp=>decide (p.nm≠x)),c6:=b.c6++[⟨x,q0.ow,q0.wo,q0.tops,b.bot⟩] }:=by unfold B0;rw[eb,<-Ue g x];rfl
 have eS:=zf wf hp;rw[k1]at eS;rw[eB,eS];have g1:fj (c+1) { st with ah:=st.ah.filter λq=>decide (q.nm≠x) } { b with ah:=b.ah.filter λp=>decide (p.nm≠x) }:=by refine J5 g ?_ (λp hp=>⟨p,(iG.mp hp).1,Z,Z,Z⟩) (λq hq=>⟨q,(iG.mp hq).1,Z,Z,Z,g.fJ.w1 q (iG.mp hq).1,by omega,ff _⟩) ((Ke).map _);have e:=gR (List.filter λq:Q4=>decide (q.1≠x)) (vG g);rw[List.filter_map,List.filter_map]at e;exact e
 have hs:=EF g.pC g.rel wf g.fJ hp hq (k1.trans k2.symm);have nm0:=g.nm q0 hq;rw[k2]at nm0;refine⟨⟨g1.fJ.nd,g1.fJ.tl,g1.fJ.t0,g1.fJ.b1,g1.fJ.bz,g1.fJ.w1,g1.fJ.ol,g1.fJ.pl,g1.fJ.kl⟩,⟨g1.rel.own,g1.rel.qd⟩,g1.pC,λu hu=>?_,g1.stp,g1.prod,g1.bot,g1.wo,g1.we,g1.pl,g1.kl,g1.own,g1.nm,?_,g1.ef,g1.nk,g1.on,g1.sum⟩
 .exact (Gw wf hp (m:=60*c+1) z0 g.prod (λu hu=>(g.b_ u hu).mono (by omega)) u hu).mono (by omega)
 .exact g.c6.snoc rfl k3.symm k4.symm (by rw[<-hs]) (by show q0.tops.length<=b.own.length;rw[g.fJ.tl q0 hq];exact aQ _) (by have:=g.fJ.b1;show 0<b.bot;omega) (g.fJ.bz.mono (by omega)) nm0.1 nm0.2
def ER(b:BS)(o:Str):BS:={ b with own:=b.own++[o],ah:=b.ah.map λp=>{ p with tops:=p.tops++[0] } }
theorem ES(l:List Int)(j:Nat):(l++[0]).getD j 0=l.getD j 0:=by
 rw[fH,fH];rcases Nat.lt_or_ge j l.length with c|c
 .rw [FF c]
 .rw [z6 c,q_ (l:=l) c];rcases Nat.eq_zero_or_pos (j-l.length)with z|z
  .rw [z];rfl
  .rw [q_ (by simp;omega)]
theorem Y8{c:Nat}{st:HS}{b:BS}{o:Str}(g:fj c st b)(wf:Wf st)(h:isNm o=true)(hl:b.own.length<100):fj (c+1) (fF st o) (ER b o):=by
 have gm:=g.mono;have wb:=g.fJ;have S:∀{M:Pt->Prop},(∀p∈st.ah,M { p with row:=p.row++[0] })->∀p∈(fF st o).ah,M p:=λh p hp=>by obtain⟨p0,h0,rfl⟩:=a_.mp (show p∈st.ah.map _ from hp);exact h p0 h0
 have B:∀{M:BP->Prop},(∀p∈b.ah,M { p with tops:=p.tops++[0] })->∀p∈(ER b o).ah,M p:=λh p hp=>by obtain⟨p0,h0,rfl⟩:=a_.mp (show p∈b.ah.map _ from hp);exact h p0 h0
 have ln:(ER b o).ah.length=b.ah.length:=aE ..;refine⟨⟨?_,B λp hp=>?_,B λp hp t ht=>?_,wb.b1,wb.bz,B wb.w1,?_,by rw[ln];exact wb.pl,wb.kl⟩,⟨?_,?_⟩,?_,λu hu=>?_,gm.stp,gm.prod,gm.bot,B gm.wo,B gm.we,by rw[ln];exact gm.pl,gm.kl,?_,B gm.nm,g.c6.sign o,gm.ef,gm.nk,λx hx=>?_,B λp hp=>?_⟩
 .show ((b.ah.map _).map _).Nodup;rw[d7];exact wb.nd
 .show (p.tops++[0]).length=(b.own++[o]).length;rw[cZ,cZ,wb.tl p hp];rfl
 .rcases dD.mp (show t∈p.tops++[0]from ht)with z|z
  .exact wb.t0 p hp t z
  .rw [dj.mp z];have:=wb.b1;show(0:Int)<=0/\0<=b.bot;omega
 .show (b.own++[o]).length<=100;rw[cZ];exact hl
 .show st.own++[o]=b.own++[o]
  rw[g.rel.own]
 .have:=g.rel.qd;unfold gY mC at this ⊢;show(st.ah.map _).map _=(b.ah.map _).map _;rw[d7,d7];exact this
 .intro p hp q hq e j;obtain⟨p0,h0,rfl⟩:=a_.mp (show p∈st.ah.map _ from hp);obtain⟨q0,k0,rfl⟩:=a_.mp (show q∈b.ah.map _ from hq);show(q0.tops++[0]).getD j 0*st.prod=(List.zipWith (λr c=>p0.sc*r+c) (p0.row++[0]) (st.bU++[0])).getD j 0*b.bot;rw[Av _ (by rw[wf.rows p0 h0,wf.gc]),show p0.sc*0+0=0 by omega,ES,ES];exact g.pC p0 h0 q0 k0 e j
 .rcases dD.mp (show u∈st.b_++[0]from hu)with z|z
  .exact gm.b_ u z
  .rw [dj.mp z];exact(show Jm.Sz 1 (0:Int)from jR (by decide +kernel)).mono (by omega)
 .show 0<(b.own++[o]).length;rw[cZ];exact kP g.own (p5 _ _)
 .rcases dD.mp (show x∈b.own++[o]from hx)with z|z
  .exact g.on x z
  .rw [dj.mp z];exact h
 .show (p.tops++[0]).sum=b.bot;rw[DK,g.sum p hp];simp
theorem adS{c c':Nat}{st:HS}{b:BS}{d:Dd}(g:fj c st b)(gg:Go c' st)(wf:Wf st)(hc:c<=90)(hc':c'<=90)(hr:AI st d=none)(hb:PN d)(hk:d.k≠0)(h3:b.ah.length<50)(h4:b.ef.length<900):fj (c+1) (w6 st d) (yZ b d):=by
 have eo:=g.rel.own;cases d with
 | sign o=>exact absurd rfl hk
 | load x o wo we=>
  obtain⟨l1,l2,l3,l4,l5⟩:=tM hr;refine(YJ g wf (λm=>l2 ?_) l4 hb.2.2.1.2 h3 h4 l1 (by rw[<-eo];exact l3) hb.2.2.2.2).mono;obtain⟨q,hq,e⟩:=a_.mp m;obtain⟨j,hj,ej⟩:=oV hq;obtain⟨p,hp,k1,_⟩:=g.rel.at (i:=j) (q:=q) (by rw[bq hj,ej])
  have e:q.nm=x:=e;rw[<-e,<-k1];exact wf.sub p (bw hp)
 | cast rs=>
  have ok:=gg.AX wf (by omega) hr;obtain⟨_,nd,vI,hl⟩:=AW hr;have rb:uR b rs:=⟨nd,λr hr=>by obtain⟨m,r1,r2⟩:=pF (vI r hr);obtain⟨i,p0,q0,e1,e2,k1,k2,k3,k4,k5,k6⟩:=rP g.rel wf m;exact⟨r1,i,q0,e2,k2,by rw[k4,<-k6];exact r2⟩⟩
  exact YH g wf ok rb (PK g.fJ rb (by rw[<-g.rel.whole];exact hl) g.own (g.whole (by omega)).2) hc
 | award o a=>obtain⟨ho,h1,h2⟩:=uU hr;exact V9 g wf (gg.aw wf (by omega)) hc ho h1 h2
 | mishap x a=>exact T4 g wf hr
 | rise x a=>exact YO g wf (AR hr).2 hb.2.2
 | hand x o=>exact YY g wf hr (abu g wf)
 | land x=>exact Y7 g wf hc hr
 | sever x y a we=>exact Wa g wf hc hr hb.2.2.1.2 hb.2.2.2.2 (by rw[show st.ah.length=b.ah.length from g.rel.len];omega)
 | still=>exact g.mono
theorem pe.snoc{n:Nat}{ρ:fE}{H:Hp}{vs:List V}{l:List BE}(h:pe n ρ H vs l){r t:Addr}{e:BE}(a:H r=some (.lst [.str e.nm,.str e.ow,.int e.wo,.ref t,.int e.bot]))(b:ρ r=some (n,27,e.nm))(c:H t=some (.lst (e.tops.map V.int)))(d:ρ t=some (n,28,e.nm)):pe n ρ H (vs++[.ref r]) (l++[e]):=by
 induction h with
 | nil=>exact .cons a b c d .nil
 | cons a1 a2 a3 a4 _ ih=>exact .cons a1 a2 a3 a4 ih
theorem pe.length{n:Nat}{ρ:fE}{H:Hp}{vs:List V}{l:List BE}(h:pe n ρ H vs l):vs.length=l.length:=by
 induction h with
 | nil=>rfl
 | cons _ _ _ _ _ ih=>simp[ih]
theorem pe.get{n:Nat}{ρ:fE}{H:Hp}{vs:List V}{l:List BE}(h:pe n ρ H vs l):∀{i:Nat}{v:V},vs[i]?=some v->∃r t e,v =.ref r/\l[i]?=some e/\H r=some (.lst [.str e.nm,.str e.ow,.int e.wo,.ref t,.int e.bot])/\H t=some (.lst (e.tops.map V.int)):=by
 induction h with
 | nil=>intro i v e;simp at e
 | @cons r t e vs es a1 a2 a3 a4 _ ih=>
  intro i v h;cases i with
  | zero=>simp at h;subst h;exact⟨r,t,e,Z,Z,a1,a3⟩
  | succ i=>simp at h;obtain⟨r',t',e',f1,f2,f3⟩:=ih h;exact⟨r',t',e',f1,by simpa using f2,f3⟩
theorem aZ.Y9{n:Nat}{ρ:fE}{B:BA}{H:Hp}{b:BS}{vs:List V}(h:aZ n ρ B H b)(g:Gh ρ H)(h1:H B.la=some (.lst vs))(h2:pe n ρ H vs b.c6){r t:Addr}{e:BE}(a:H r=some (.lst [.str e.nm,.str e.ow,.int e.wo,.ref t,.int e.bot]))(b':ρ r=some (n,27,e.nm))(c:H t=some (.lst (e.tops.map V.int)))(d:ρ t=some (n,28,e.nm)):aZ n ρ B (upd H B.la (.lst (vs++[.ref r]))) { b with c6:=b.c6++[e] }:=by
 have k:=dZ (o:=.lst (vs++[.ref r])) g h.ca;exact⟨kz k h.cm h.om,h.cm,kz k h.co h.oo,h.co,kz k h.cp h.op,h.cp,⟨_,ao,(h2.snoc a b' c d).keep k (by decide) (by decide)⟩,h.ca,kz k h.ck h.ok,h.ck,h.ql,
  λi p q e1 e2=>let⟨a,b,c,d⟩:=h.pt i p q e1 e2;⟨kz k c a,kz k d b,c,d⟩⟩
theorem aZ.q{K:Fg}{n:Nat}{ρ:fE}{B:BA}{H:Hp}{b:BS}{c:Nat}{st:HS}(h:aZ n ρ B H b)(g:fj c st b):QAt K H B.m st:=by
 refine⟨_,B.lo,B.lp,B.lk,_,h.om,Z,Z,Z,by rw[g.rel.own];exact aB.of h.oo,aB.of h.op,⟨?_,λi p e=>?_⟩,by rw[g.ef];exact aB.of h.ok⟩
 .rw [aE,h.ql];exact g.rel.len.symm
 .obtain ⟨q,eq,e1,e2,e3,e4⟩:=g.rel.at' e;obtain⟨qq,qx,r1,_,_,_⟩:=h.find eq;exact⟨qq.1,_,by rw[bO,qx];rfl,.inl (aB.of r1),by rw[e1];rfl,by rw[e2];rfl,by rw[e3];rfl,by rw[e4];rfl⟩
def abG:Dd->Prop
 | .mishap .. =>True
 | .rise .. =>True
 | .hand .. =>True
 | .land _=>True
 | .sever .. =>True
 | _=>False
structure AlO(st:HS)(d:Dd):Prop where
 one:abG d
 pl:st.ah.length<50
 kl:st.nms.length<900
 al:st.c6.length<900
theorem pB.length{own:List Str}{as:List jd}{es:List BE}(h:pB own as es):as.length=es.length:=by
 induction h with
 | nil=>rfl
 | cons _ _ _ _ _ _ _ _ _ _ ih=>simp[ih]
structure AlL(st:HS)(d:Dd):Prop where
 nk:d.k≠0
 go:∃c',Go c' st/\c'<=90
 pl:st.ah.length<50
 kl:st.nms.length<900
 al:st.c6.length<900
theorem Wl{c:Nat}{st:HS}{b:BS}{rs:List Row}(g:fj c st b)(wf:Wf st)(hc:c<=90)(hr:wZ st rs=none):uR b rs/\lE b (dm b rs) 0 0:=by
 obtain⟨_,nd,vI,hl⟩:=AW hr;have rb:uR b rs:=⟨nd,λr hr=>by obtain⟨m,r1,r2⟩:=pF (vI r hr);obtain⟨i,p0,q0,e1,e2,k1,k2,k3,k4,k5,k6⟩:=rP g.rel wf m;exact⟨r1,i,q0,e2,k2,by rw[k4,<-k6];exact r2⟩⟩
 exact⟨rb,PK g.fJ rb (by rw[<-g.rel.whole];exact hl) g.own (g.whole (by omega)).2⟩
inductive agJ(T:TC)(K:Fg)(vs:List V)(H:Hp)(Q:VK)(E:XK):Prop
 |mk(n m c kn:Nat)(ρ:fE)(A:HA)(B:BA)(st:HS)(b:BS)(a ln:Addr)(ns:List Int)(k:Int)(nms:List Str)(many:Nat)(_:vs=[.ref a,.int k,.ref A.a,.ref B.m,.ref ln,.int (many:Int)])(_:n≠m)(_:HH T n ρ A H st)(_:aZ m ρ B H b)(_:fj c st b)(_:GW c kn st)(_:c+many<=90)(_:kn+100*many<=900000)(_:st.own.length<100)(_:CH K ρ H a (ns.map V.int))(_:ns.length<=63)(_:0<=k)(_:k<=100000)(_:CH K ρ H ln (nms.map V.str))(_:Nx nms st)(_:nms.length<50)(_:∀ρ' A' B' st' b' H',HH T n ρ' A' H' st'->aZ m ρ' B' H' b'->fj (c+many) st' b'->GW (c+many) (kn+100*many) st'->A'.a=A.a->B'.m=B.m->b'.own=b.own->Nx nms st'->aM (out ρ H) (out ρ' H')->Q .cy H')
def Xb(T:TC)(K:Fg):Sp:=bx (agJ T K)
inductive Y_(K:Fg)(vs:List V)(H:Hp)(Q:VK)(E:XK):Prop
 |mk(r lo lt:Addr)(ws:List V)(own:List Str)(tops:List Int)(b:Int)(_:vs=[.ref r,.ref lo,.ref lt,.int b])(_:H r=some (.lst ws))(_:iM H ws (c8 own tops b))(_:aB K H lo (own.map V.str))(_:aB K H lt (tops.map V.int))(_:tops.length<=own.length)(_:own.length<=1000)(_:0<b)(_:Jm.Sz 9000 b)(_:∀H',aM H H'->Q (.bl true) H')
def Df(K:Fg):Sp:=bx (Y_ K)
theorem Wm{own:List Str}{tops:List Int}{b:Int}:c8 (own.take tops.length) tops b=c8 own tops b:=by
 unfold c8;congr 1
 induction own generalizing tops with
 | nil=>rw[List.take_nil]
 | cons x own ih=>cases tops with
   | nil=>rfl
   | cons t ts=>exact gR _ ih
theorem pB.get{own:List Str}{as:List jd}{es:List BE}(h:pB own as es):∀{i:Nat}{a:jd}{e:BE},as[i]?=some a->es[i]?=some e->a.nm=e.nm/\a.ow=e.ow/\a.wo=e.wo/\a.sh=c8 own e.tops e.bot/\e.tops.length<=own.length/\0<e.bot/\Jm.Sz 9000 e.bot/\PyData.strOk e.nm=true/\PyData.strOk e.ow=true:=by
 induction h with
 | nil=>intro i a e h1;simp at h1
 | cons a1 a2 a3 a4 a5 a6 a7 a8 a9 _ ih=>
  intro i a e h1 h2;cases i with
  | zero=>simp at h1 h2;subst h1;subst h2;exact⟨a1,a2,a3,a4,a5,a6,a7,a8,a9⟩
  | succ i=>simp at h1 h2;exact ih h1 h2
theorem qt.got{ρ:fE}{H:Hp}{vs:List V}{l:List jd}(h:qt ρ H vs l):∀{i:Nat}{v:V},vs[i]?=some v->∃r s x ss,v =.ref r/\l[i]?=some x/\H r=some (.tup [.str x.nm,.str x.ow,.int x.wo,.ref s])/\H s=some (.lst ss)/\ρ s=none/\iM H ss x.sh:=by
 induction h with
 | nil=>intro i v e;simp at e
 | @cons r s x ss vs as a1 a2 a3 a4 _ ih=>
  intro i v e;cases i with
  | zero=>simp at e;subst e;exact⟨r,s,x,ss,Z,Z,a1,a2,a3,a4⟩
  | succ i=>simp at e;obtain⟨r',s',x',ss',f1,f2,f3⟩:=ih e;exact⟨r',s',x',ss',f1,by simpa using f2,f3⟩
theorem aZ.set_own{n:Nat}{ρ:fE}{B:BA}{H:Hp}{b:BS}(h:aZ n ρ B H b)(g:Gh ρ H)(l:List Str):aZ n ρ B (upd H B.lo (.lst (l.map V.str))) { b with own:=l }:=by
 have k:=dZ (o:=.lst (l.map V.str)) g h.co;obtain⟨vs,h1,h2⟩:=h.oa;exact⟨kz k h.cm h.om,h.cm,ao,h.co,kz k h.cp h.op,h.cp,⟨vs,kz k h.ca h1,h2.keep k (by decide) (by decide)⟩,h.ca,kz k h.ck h.ok,h.ck,h.ql,
  λi p q e1 e2=>let⟨a,b,c,d⟩:=h.pt i p q e1 e2;⟨kz k c a,kz k d b,c,d⟩⟩
def IA(i:Nat)(ps:List BP):List BP:=(ps.take i).map (λp:BP=>{ p with tops:=p.tops++[0] })++ps.drop i
theorem Ug:∀{ps:List BP}{i:Nat}{p:BP},ps[i]?=some p->(IA i ps)[i]?=some p
 | [],i,p,h=>by simp at h
 | q::ps,0,p,h=>h
 | q::ps,i+1,p,h=>Ug (ps:=ps) (i:=i) (by simpa using h)
theorem Qg:∀{ps:List BP}{i:Nat}{p:BP},ps[i]?=some p->(IA i ps).set i { p with tops:=p.tops++[0] }=IA (i+1) ps
 | [],i,p,h=>by simp at h
 | q::ps,0,p,h=>by simp at h;subst h;rfl
 | q::ps,i+1,p,h=>gR _ (Qg (ps:=ps) (i:=i) (by simpa using h))
theorem Uh:∀(ps:List BP)(i:Nat),(IA i ps).map (λp:BP=>p.nm)=ps.map λp:BP=>p.nm
 | [],i=>by cases i <;> rfl
 | q::ps,0=>rfl
 | q::ps,i+1=>gR (List.cons q.nm) (Uh ps i)
theorem Za(ps:List BP):IA ps.length ps=ps.map λp:BP=>{ p with tops:=p.tops++[0] }:=by unfold IA;rw[cJ,DJ,sf]
theorem Zb{c m:Nat}{st:HS}(g:GW c m st){o:Str}(h:isNm o=true)(ho:o∉st.own)(hl:st.own.length<100):GW (c+1) m (fF st o):=⟨Qd g.g g.wf h,BW g.wf ho hl,g.kn⟩
end L2
set_option autoImplicit false
namespace Law
open PySem L2
theorem iy(n:Nat)(h:n<=1000:=by decide):n<=sizeLine:=by rw[l9];omega
def top(i:Nat):Stmt:=PySem.Challenge.pw_jettison_k30_whole_hold_by_a_plain_book.main.body.getD i (.Pass ⟨0,0,0,0⟩)
section
variable {P:Program}{w:World}{K:Fg}{mg:SO}{base:Heap}{f:Addr}{fd:FuncData}
abbrev pG:Stmt:=top 2
abbrev jZ:List Str:=["one","other"]
abbrev ET:List Str:=jZ
theorem vJ:aR ET jZ (aD pG):=dF
theorem Dg(F:At K mg "common_factor" pG f fd):Dn P w K mg base 1 "common_factor" jZ Vu:=by
 refine F.oA vJ λcdv A outer s H vs Q E hr h=>?_;obtain⟨a,b,rfl,ha,hb,q⟩:=h;refine⟨_,(@cY.h _ _ _ (aj (C8 fC (aN jE (qv 1) ai (aU _)) (aq (TY (i:=0) (j:=1) rfl vJ.nd rfl rfl (by decide) rfl rfl (af (qv 1) (af (aI kr (qv 0) (qv 1)) ak)) (by rfl))))
  (aq (aY (qv 0))))),?_⟩
 refine⟨λm σ H'=>∃x y:Int,m=y.toNat/\σ=[some (.int x),some (.int y)]/\H'=H/\0<=x/\0<=y/\Jm.cf x y=Jm.cf a b,⟨_,a,b,Z,Z,Z,ha,hb,Z⟩,?_⟩;rintro m σ H' ⟨x,y,rfl,rfl,rfl,hx,hy,e⟩;refine⟨_,Z,_,_,Z,Z,_,Z,?_⟩;refine cD (λc=>?_) (λc=>?_)
 .have c':0<y:=dY c;refine⟨_,λ_ _ z=>z,?_⟩;refine⟨_,Z,_,Z,_,Z,_,_,Z,Z,c',_,_,Z,?_⟩;have h1:0<=x % y:=oz _ (by omega);have h2:x % y<y:=yo _ c';exact⟨_,(by omega:(x % y).toNat<y.toNat),y,x % y,Z,Z,Z,hy,h1,(Jm.FZ x y c').trans e⟩
 .have c':¬ 0<y:=oW (nM.mpr c);have ey:y=0:=by omega
  subst ey;rw[Jm.O8 x hx]at e;refine⟨_,Z,?_⟩;rw[e];exact q
abbrev zj:Stmt:=top 18
abbrev xh:List Str:=["text","signs"]
abbrev Ui:List Str:=xh
theorem Ru:aR Ui xh (aD zj):=dF
theorem Rv(F:At K mg "made_of" zj f fd)(Rw:mg "all"=none):Dn P w K mg base 1 "made_of" xh CV:=by
 refine F.oA Ru λcdv A outer s H vs Q E hr h=>?_;obtain⟨⟨cs,signs,rfl,hl,q⟩⟩:=h;refine⟨_,(@cY.h _ _ _ (aq (aY (aJ (SM K rfl) (by rfl) Rw PyProof.Rows.boot_all (af (ig ["sign","signs"] [none,some 1] rfl (abk (qv 0)) (λ_ _ _ _=>(aT (i:=0) (show List.Nodup (["sign","signs"] :List Str)from by decide +kernel))) (λ_ _ _ _=>(BZ R9 (qv 0) (qv 1) (by with_unfolding_all rfl))) rfl (by rfl)) ak))))),?_⟩;refine⟨_,Z,cs,Z,λacc hacc=>?_⟩;refine Vz (λi out H1=>aM H H1/\out=((cs.take i).map (Ef signs)).map V.bl) hl ⟨aF hacc _,Z⟩ ?_ ?_
 .rintro i c out H1 hx eW ha ⟨g,e⟩;refine⟨_,Z,_,Z,_,_,Z,Z,ha,g.cA hacc _,?_⟩;rw[e,List.take_add_one,hx,bP,bP];rfl
 rintro out H1 eW ha ⟨g,e⟩;rw[cJ]at e;refine⟨acc,cs.map (Ef signs),Z,aB.of (by rw[ha,e]),?_⟩;have e2:(cs.map (Ef signs)).all id=cs.all (Ef signs):=by rw[List.all_map];rfl
 rw[e2];exact q H1 g
abbrev zm:Stmt:=top 17
abbrev tO:List Str:=["text"]
abbrev Uj:List Str:=tO
theorem Rx:aR Uj tO (aD zm):=dF
theorem Ry{tk:Tok}(F:At K mg "is_name" zm f fd)(AY:Dn P w K mg base 1 "made_of" xh CV)(bD:mg "len"=none)(AZ:mg "LETTERS"=some (.str "abcdefghijklmnopqrstuvwxyz" tk)):Dn P w K mg base 2 "is_name" tO yG:=by
 refine F.oA Rx λcdv A outer s H vs Q E hr h=>?_;obtain⟨⟨cs,rfl,hl,q⟩⟩:=h;refine⟨_,(@cY.h _ _ _ (aq (aY (LL (V4 WL WL ai (aJ KN (by rfl) bD c5 (af (qv 0) ak)) ai) (LI (bB AY hr (af (qv 0) (af (YN (v:=.str "abcdefghijklmnopqrstuvwxyz") (by rfl) AZ ⟨_,Z⟩) ak)))))))),?_⟩;have hz:(tx cs).length<=sizeLine:=by rw[Al,l9];omega
 refine⟨_,Z,_,Z,hz,_,_,Z,Z,_,Z,?_⟩;rw[Al];refine cD (λc=>?_) (λc=>?_)
 .refine ⟨_,_,Z,Z,_,Z,cD (λc2=>?_) (λc2=>?_)⟩
  .refine ⟨_,Z,Q_ hl λH' g=>?_⟩;have:=q H' g;unfold isName at this;rw[c,c2,Bool.true_and,Bool.true_and]at this;exact this
  .have:=q H (aM.refl _);unfold isName at this;rw[c,nM.mpr c2,Bool.true_and,Bool.false_and]at this;exact this
 .have:=q H (aM.refl _);unfold isName at this;rw[nM.mpr c,Bool.false_and,Bool.false_and]at this;exact⟨_,Z,aL this⟩
abbrev qB:Stmt:=top 23
abbrev jh:List Str:=["amount"]
abbrev Gx:List Str:=jh
theorem EU:aR Gx jh (aD qB):=dF
theorem Dh{e:Ec}(F:At K mg "check_amount" qB f fd):Dn P w K mg base 1 "check_amount" jh (sN (AQ e)):=by refine F.oA EU λcdv A outer s H vs Q E hr h=>?_;obtain⟨⟨a,rfl,h5,q⟩⟩:=h;refine⟨_,(@cY.h _ _ _ (aq (bZ (aN su (qv 0) ai (aU _)) (aq gF) bf))),?_⟩;exact⟨_,Z,_,_,Z,Z,_,Z,cD (λc=>h5 (dY c) 0 H (aM.refl _)) λc=>q (by have:=oW (nM.mpr c);omega)⟩
abbrev ue:Stmt:=top 24
abbrev m7:List Str:=["most","amount"]
abbrev L6:List Str:=m7
theorem IM:aR L6 m7 (aD ue):=dF
theorem Gy{e:Ec}(F:At K mg "check_loss" ue f fd)(ji:Dn P w K mg base 1 "check_amount" jh (sN (AQ e))):Dn P w K mg base 2 "check_loss" m7 (sN (LM e)):=by
 refine F.oA IM λcdv A outer s H vs Q E hr h=>?_;obtain⟨⟨m,a,rfl,h5,h6,q⟩⟩:=h;refine⟨_,(@cY.h _ _ _ (aj (b9 (bB ji hr (af (qv 1) ak)))
  (aq (bZ (aN jE (qv 1) (qv 0) (aU _)) (aq gF) bf)))),?_⟩
 exact⟨_,Z,⟨⟨a,Z,h5,λh1=>⟨_,Z,_,Z,_,_,Z,Z,_,Z,cD (λc=>h6 h1 (dY c) 0 H (aM.refl _)) λc=>q h1 (by have:=oW (nM.mpr c);omega)⟩⟩⟩⟩
abbrev uf:Stmt:=top 22
abbrev qC:List Str:=["rows"]
abbrev L7:List Str:=qC.append ["amounts","name","amount"]
theorem oK:aR L7 qC (aD uf):=dF
theorem IP(F:At K mg "amounts_of" uf f fd)(bD:mg "len"=none):Dn P w K mg base 1 "amounts_of" qC (Tn K):=by
 refine F.oA oK λcdv A outer s H vs Q E hr h=>?_;obtain⟨⟨l,us,rs,rfl,hl,hR,nd,hne,hle,q⟩⟩:=h;refine⟨_,(@cY.h _ _ _ (aj (aX (i:=1) oK.nd rN)
  (aj (eX fC rfl (dO K (qv 0)) (iT K (n:=2) rfl (cN (aT (i:=2) oK.nd) (cN (aT (i:=3) oK.nd) iR))) (aj (bZ (x9 (LK (bV hr) (qv 2) (qv 1))) (aq gF) bf)
  (aq (pY (bV hr) (qv 1) (qv 2) (qv 3) rfl))))
  (aj (bZ (aN d8 (aJ wL (by rfl) bD c5 (af (qv 1) ak)) ai (aU _)) (aq gF) bf)
  (aq (aY (qv 1))))))),?_⟩
 intro d hd;have g0:=aF hd (.dK []);have hd0:upd H d (.dK []) d=some (.dK (iN (rs.take 0))):=ao;generalize upd H d (.dK [])=H0 at *;have L8:=hR.length;refine⟨_,Z,l,Z,⟨us,g0.seq hl⟩,?_⟩;refine kQ (K:=K) (xs:=us) (λi σ H'=>aM H H'/\H' d=some (.dK (iN (rs.take i)))/\∃s2 s3,σ=[some (.ref l),some (.ref d),s2,s3]) ⟨g0,hd0,_,_,Z⟩ (λi σ H' _ hp=>hp.1.seq hl) ?_ ?_
 .rintro i x σ H' hx ⟨g,hd',s2,s3,rfl⟩;obtain⟨a,r,rfl,er,ha⟩:=hR.get hx;have hnot:r.1∉(rs.take i).map (·.1):=by rw[Bw];exact kF nd (by rw[bO,er];rfl)
  have hlt:(iN (rs.take i)).length<sizeLine:=by rw[yQ,nu];exact dz (by omega)
  refine⟨a,_,Z,cS.of (g _ _ ha),Z,_,_,Z,_,_,Z,Z,?_⟩;refine⟨_,Z,_,Z,d,_,Z,cC.k (k:=Sum.inr r.1) hd',_,Z,?_⟩;rw[HR hnot];refine aL ?_;refine⟨_,Z,_,Z,_,Z,d,_,Z,tZ.k (k:=Sum.inr r.1) hd' hlt,g.cA hd _,?_,_,_,Z⟩;rw[ao,oX _ (HR hnot),take_snoc er];unfold iN;rw[bP];rfl
 rintro σ H' ⟨g,hd',s2,s3,rfl⟩;rw[L8,cJ]at hd';refine⟨_,Z,d,_,Z,hd',Z,_,Z,?_⟩;rw[yQ];have hpos:0<rs.length:=List.length_pos_iff.mpr hne;rw[c9 (λe=>by have:=V.int.inj e;omega)];exact aL ⟨_,Z,q d H' g hd hd'⟩
abbrev pH:Stmt:=top 5
abbrev mE:List Str:=["step","tops"]
abbrev EV:List Str:=mE.append ["top"]
theorem pI:aR EV mE (aD pH):=dF
theorem Di(F:At K mg "factor_of_all" pH f fd)(iU:Dn P w K mg base 1 "common_factor" jZ Vu):Dn P w K mg base 2 "factor_of_all" mE (To K):=by
 refine F.oA pI λcdv A outer s H vs Q E hr h=>?_;obtain⟨⟨s,l,ts,rfl,hl,h0,h1,q⟩⟩:=h;refine⟨_,(@cY.h _ _ _ (aj (eX fC rfl (dO K (qv 1)) (aT (i:=2) pI.nd) (aq (aX (i:=0) pI.nd (bB iU hr (af (qv 2) (af (qv 0) ak))))))
  (aq (aY (qv 0))))),?_⟩
 refine⟨_,Z,l,Z,⟨_,hl⟩,?_⟩;refine kQ (K:=K) (xs:=ts.map V.int) (λi σ H'=>H'=H/\0<=qu s (ts.take i)/\∃s2,σ=[some (.int (qu s (ts.take i))),some (.ref l),s2]) ⟨Z,h0,_,Z⟩ (λi σ H' _ hp=>by rw[hp.1];exact hl) ?_ ?_
 .rintro i x σ H' hx ⟨rfl,hf,s2,rfl⟩;obtain⟨t,rfl,et⟩:=gG hx;have e1:qu s (ts.take (i+1))=Jm.cf t (qu s (ts.take i)):=by unfold qu;rw[take_snoc et,Km];rfl
  refine⟨_,Z,_,Z,t,_,Z,h1 t (bw et),hf,Z,?_,some (.int t),?_⟩
  .rw [e1];unfold Jm.cf;omega
  .rw [e1];rfl
 rintro σ H' ⟨rfl,hf,s2,rfl⟩;rw[aE,cJ];exact⟨_,Z,q⟩
abbrev rR:Stmt:=inClass (top 4) 0
abbrev ug:List Str:=["self"]
abbrev IQ:List Str:=ug
theorem Gz:aR IQ ug (aD rR):=dF
theorem GA{T:TC}(F:HM K mg "Bottom" T.bot "Bottom.__init__" rR f fd)(X:Txt K T):Cn P w K mg base 1 "Bottom" T.bot ug (Pj T):=by
 refine F.oA Gz λcdv A outer s H vs Q E hr h=>?_;obtain⟨⟨p,dx,rfl,hp,q⟩⟩:=h;refine⟨_,(@cY.h _ _ _ (aj (d9 K (qv 0) (iO ak))
  (aj (d9 K (qv 0) ai)
  (aq (d9 K (qv 0) rN))))),?_⟩
 refine⟨(iy 0),λl hl=>?_⟩;have n1:p≠l:=aG hp hl;refine⟨_,Z,p,T.bot,dx,_,Z,by rw[az n1];exact hp,X.cB,X.bst,by show 0<1000;decide,?_⟩;refine⟨_,Z,p,T.bot,dx,_,Z,ao,X.cB,X.Pg,by show 1<1000;decide,?_⟩;intro d hd;have n2:d≠p:=λe=>by rw[e,ao]at hd;cases hd
 have n3:d≠l:=λe=>by rw[e,az (cu n1),az (cu n1),ao]at hd;cases hd
 have hd0:H d=none:=by rw[az n2,az n2,az n3]at hd;exact hd
 refine⟨_,Z,p,T.bot,dx,_,Z,by rw[az (cu n2)];exact ao,X.cB,X.Td,by show 2<1000;decide,?_⟩;refine q l d _ hl hd0 (cu n3) (λb o e hb=>?_) ao ?_ ?_
 .rw [az hb,az (aG e hd0),az hb,az hb,az (aG e hl)];exact e
 .rw [az (cu n1),az (cu n3),az (cu n1),az (cu n1)];exact ao
 .rw [az n2];exact ao
abbrev vK:Stmt:=inClass (top 20) 0
abbrev xG:List Str:=["self","name","owner","worth","weight","scale","row"]
abbrev NT:List Str:=xG
theorem L_:aR NT xG (aD vK):=dF
theorem Ma{T:TC}(F:HM K mg "Part" T.part "Part.__init__" vK f fd)(X:Txt K T)(dI:mg "list"=none):Cn P w K mg base 1 "Part" T.part xG (Gi T K):=by
 refine F.oA L_ λcdv A outer s H vs Q E hr h=>?_;obtain⟨⟨p,dx,l,pt,rfl,hp,hl,q⟩⟩:=h;refine⟨_,(@cY.h _ _ _ (aj (d9 K (qv 0) (qv 1))
  (aj (d9 K (qv 0) (qv 2))
  (aj (d9 K (qv 0) (qv 3))
  (aj (d9 K (qv 0) (qv 4))
  (aj (d9 K (qv 0) (qv 5))
  (aq (d9 K (qv 0) (kO (lD K) (by rfl) dI u7 (af (qv 6) ak)))))))))),?_⟩
 refine⟨_,Z,_,Z,p,T.part,dx,_,Z,hp,X.cP,X.S_,by show 0<1000;decide,?_⟩;refine⟨_,Z,_,Z,p,T.part,dx,_,Z,ao,X.cP,X.pow,by show 1<1000;decide,?_⟩;refine⟨_,Z,_,Z,p,T.part,dx,_,Z,ao,X.cP,X.wO,by show 2<1000;decide,?_⟩;refine⟨_,Z,_,Z,p,T.part,dx,_,Z,ao,X.cP,X.Tc,by show 3<1000;decide,?_⟩;refine⟨_,Z,_,Z,p,T.part,dx,_,Z,ao,X.cP,X.Ld,by show 4<1000;decide,?_⟩;simp only[pR];have hl1:∀o,aB K (upd H p o) l (pt.row.map V.int):=λo=>by
  rcases hl with(h|⟨ob,h⟩)|h
  .exact .inl (.inl (by rw[az (jD h hp (by intro z;cases z))];exact h))
  .exact .inl (.inr ⟨ob,by rw[az (jD h hp (by intro z;cases z))];exact h⟩)
  .exact .inr h
 refine⟨_,Z,l,_,Z,.inl (hl1 _),λr hr2=>?_⟩;have n1:r≠p:=λe=>by rw[e,ao]at hr2;cases hr2
 refine⟨_,Z,p,T.part,dx,_,Z,by rw[az (cu n1)];exact ao,X.cP,X.Pf,by show 5<1000;decide,?_⟩;have hr0:H r=none:=by rw[az n1]at hr2;exact hr2
 refine q r _ hr0 (λb o e hb=>?_) ao ?_
 .rw [az hb,az (aG e hr0),az hb];exact e
 .rw [az n1];exact ao
abbrev rS:Stmt:=inClass (top 4) 1
abbrev oM:List Str:=["self","step"]
abbrev IS:List Str:=oM
theorem GB:aR IS oM (aD rS):=dF
theorem GD{T:TC}(F:jq K T.bot "grow" "Bottom.grow" rS f fd)(X:Txt K T):Mn P w K mg base 1 T.bot "grow" oM (Tp T):=by
 refine F.oA GB λcdv A outer s H vs Q E hr h=>?_;obtain⟨⟨n,ρ,A,st,s,rfl,g,h,hl,z1,z2,q⟩⟩:=h;refine⟨_,(@cY.h _ _ _ (aq (iz (aN jE (qv 1) ai (aU _)) (aj (b9 (jY mO mK mL dU (aP K (qv 0)) (af (qv 1) ak)))
  (aj (qz K (qv 0) (qv 1) Yp)
  (aq (d9 K (qv 0) rN)))) bf))),?_⟩
 refine⟨λσ' H'=>Q .cy H',⟨_,Z,_,_,Z,Z,_,Z,cD (λc=>?_) (λc=>?_)⟩,λ_ _ z=>z⟩
 .have c':1<s:=dY c;refine⟨_,Z,A.bt,T.bot,A.db,_,_,Z,h.mz,X.cB,X.bst,Z,.inl ⟨Z,_,aB.of h.qY⟩,_,Z,A.sp,_,_,Z,Z,h.qY,by rw[aE];exact dz hl,?_⟩;rw[show st.stp.map V.int++[V.int s]=(st.stp++[s]).map V.int from by rw[bP];rfl];have h1:=h.aaP g (st.stp++[s]);have g1:=g.wr (a:=A.sp) (o:=.lst ((st.stp++[s]).map V.int)) rfl;have F1:Fr n ρ H ρ (upd H A.sp (.lst ((st.stp++[s]).map V.int))):=Fr.write h.jw;generalize upd H A.sp (.lst ((st.stp++[s]).map V.int))=H1 at *;refine⟨_,Z,A.bt,T.bot,A.db,_,_,Z,h1.mz,X.cB,X.Pg,Z,_,Z,_,_,Z,Z,jI z1 z2,A.db,_,h1.mz,by show 3<1000;decide,?_⟩;intro kn hkn;have nb:kn≠A.bt:=λe=>by rw[e,ao]at hkn;cases hkn
  have Dj:H1 kn=none:=by rw[az nb]at hkn;exact hkn
  have jx:ρ kn=none:=g1.none Dj;refine⟨_,Z,A.bt,T.bot,A.db,_,Z,by rw[az (cu nb)];exact ao,X.cB,X.Td,by show 3<1000;decide,?_⟩;have eH:upd (upd (upd H1 A.bt (.ins T.bot A.db (br "product" (.int (st.prod*s)) (yK A.sp st.prod A.kn)))) kn (.dK [])) A.bt (.ins T.bot A.db (br "known" (.ref kn) (br "product" (.int (st.prod*s)) (yK A.sp st.prod A.kn))))=upd (upd H1 kn (.dK [])) A.bt (.ins T.bot A.db (yK A.sp (st.prod*s) kn)):=by rw[kT (cu nb),pR];rfl
  have k2:Kp n ρ (bK ρ kn (n,9,⟨#[]⟩)) H1 (upd H1 kn (.dK [])) (λ_=>true):=⟨(aF Dj _).tups,λb t x o _ c e=>⟨aF Dj _ _ _ e,by rw[bY (aG e Dj)];exact c⟩⟩
  have h2:=h1.same k2;have g2:Gh (bK ρ kn (n,9,⟨#[]⟩)) (upd H1 kn (.dK [])):=(g1.alloc Dj).color ao rfl;have F2:Fr n ρ H1 (bK ρ kn (n,9,⟨#[]⟩)) (upd H1 kn (.dK [])):=Fr.color Dj (aF Dj _);have h3:=h2.aaR g2 (st.prod*s) kn ao cV;have es:fK st s={ { st with stp:=st.stp++[s] }with prod:=st.prod*s,kn:=0 }:=by unfold fK;rw[av c']
  rw[es]at q;show Q .cy _;refine(show _=_ from eH)▸?_;exact q _ _ _ (g2.wr rfl) h3 rfl (F1.trans (F2.trans (Fr.write h2.jv)))
 .have c':¬ 1<s:=oW (nM.mpr c);have es:fK st s=st:=by unfold fK;rw[au c']
  rw[es]at q;exact q ρ A H g h rfl Fr.refl
abbrev pJ:Stmt:=inClass (top 21) 19
abbrev gZ:List Str:=["self","owner"]
abbrev EW:List Str:=gZ
theorem Dk:aR EW gZ (aD pJ):=dF
theorem Cc{T:TC}{e:Ec}(F:jq K T.hold "place_of" "Hold.place_of" pJ f fd)(X:Txt K T):Mn P w K mg base 1 T.hold "place_of" gZ (sN (yX T e)):=by
 refine F.oA Dk λcdv A outer s H vs Q E hr h=>?_;obtain⟨⟨n,ρ,A,st,o,rfl,h,q2,q⟩⟩:=h;refine⟨_,(@cY.h _ _ _ (aj (bZ (x9 (AM (bV hr) (qv 1) (aP K (qv 0)))) (aq gF) bf)
  (aq (aY (bM (bV hr) (aP K (qv 0)) (qv 1)))))),?_⟩
 refine⟨_,Z,_,Z,A.a,T.hold,A.dx,_,_,Z,h.oa,X.cH,X.hpl,Z,A.pl,_,Z,cC.k (k:=Sum.inr o) h.iW,_,Z,?_⟩;by_cases ho:o∈st.own
 .have hv:=Ph (i:=0) ho;rw[hv];refine aL ?_;refine⟨_,Z,A.a,T.hold,A.dx,_,_,Z,h.oa,X.cH,X.hpl,Z,_,Z,A.pl,_,Z,hv▸cC.k (k:=Sum.inr o) h.iW,?_⟩;rw[Nat.zero_add];exact q ho
 .rw [qo ho];exact lR <| q2 ho 0 H (aM.refl _)
abbrev qD:Stmt:=inClass (top 21) 20
abbrev fm:List Str:=["self","name"]
abbrev GF:List Str:=fm
theorem EX:aR GF fm (aD qD):=dF
theorem Dl{T:TC}{e:Ec}(F:jq K T.hold "part_of" "Hold.part_of" qD f fd)(X:Txt K T):Mn P w K mg base 1 T.hold "part_of" fm (sN (mW T e)):=by
 refine F.oA EX λcdv A outer s H vs Q E hr h=>?_;obtain⟨⟨n,ρ,A,st,x,rfl,hA,nd,q2,k⟩⟩:=h;refine⟨_,(@cY.h _ _ _ (aj (bZ (x9 (AM (bV hr) (qv 1) (aP K (qv 0)))) (aq gF) bf)
  (aq (aY (bM (bV hr) (aP K (qv 0)) (qv 1)))))),?_⟩
 refine⟨_,Z,_,Z,A.a,T.hold,A.dx,_,_,Z,hA.oa,X.cH,X.hab,Z,A.ab,_,Z,cC.k (k:=Sum.inr x) hA.fh,_,Z,?_⟩;by_cases hx:∃p∈st.ah,p.nm=x
 .obtain ⟨p,hp,rfl⟩:=hx;obtain⟨i,hi,ep⟩:=List.mem_iff_getElem.mp hp;have xV:st.ah[i]?=some p:=by rw[bq hi,ep]
  obtain⟨qq,eq,_⟩:=hA.find xV;have hv:=uX nd xV eq;rw[hv];refine aL ?_;exact⟨_,Z,A.a,T.hold,A.dx,_,_,Z,hA.oa,X.cH,X.hab,Z,_,Z,A.ab,_,Z,hv▸cC.k (k:=Sum.inr p.nm) hA.fh,k i p qq rfl xV eq⟩
 .have hn:∀p∈st.ah,p.nm≠x:=λp hp z=>hx ⟨p,hp,z⟩;rw[vv hn];exact lR <| q2 hn 0 H (aM.refl _)
abbrev nO:Stmt:=inClass (top 21) 21
abbrev jz:List Str:=["self","name"]
abbrev Dm:List Str:=jz
theorem Cd:aR Dm jz (aD nO):=dF
theorem A0{T:TC}{e:Ec}(F:jq K T.hold "check_new" "Hold.check_new" nO f fd)(X:Txt K T)(pZ:Dn P w K mg base 2 "is_name" tO yG):Mn P w K mg base 3 T.hold "check_new" jz (sN (xF T e)):=by
 refine F.oA Cd λcdv A outer s H vs Q E hr h=>?_;obtain⟨⟨n,ρ,A,st,x,rfl,h,hx,q2,q⟩⟩:=h;refine⟨_,(@cY.h _ _ _ (aj (bZ (eU (dW (bB pZ hr (af (qv 1) ak)))) (aq gF) bf)
  (aq (bZ (x9 (LK (bV hr) (qv 1) (aP K (qv 0)))) (aq gF) bf)))),?_⟩
 refine⟨_,Z,Eg (cs:=x.cps.toList) hx λH1 g1=>⟨_,Z,?_⟩⟩;cases hn:isName x.cps.toList with
 | false=>exact lR <| q2 0 (by unfold newR isNm;rw[hn];rfl) 0 H1 g1
 | true=>
  refine aL ?_;have h1:=h.mono g1;refine⟨_,Z,_,Z,A.a,T.hold,A.dx,_,_,Z,h1.oa,X.cH,X.hnm,Z,A.nm,_,Z,cC.k (k:=Sum.inr x) h1.tG,_,Z,?_⟩;by_cases hm:x∈st.nms
  .rw [Lf hm];exact lR <| q2 1 (by unfold newR isNm;rw[hn,av rfl,av hm]) 0 H1 g1
  .rw [Au hm];exact aL (q (AH hn hm) H1 g1)
abbrev uh:Stmt:=inClass (top 21) 11
abbrev qE:List Str:=["self"]
abbrev Mb:List Str:=qE
theorem IT:aR Mb qE (aD uh):=dF
theorem IU{T:TC}(F:jq K T.hold "parts" "Hold.parts" uh f fd)(X:Txt K T):Mn P w K mg base 1 T.hold "parts" qE (Pn T):=by
 refine F.oA IT λcdv A outer s H vs Q E hr h=>?_;obtain⟨⟨n,ρ,A,st,rfl,h,hl,q⟩⟩:=h;refine⟨_,(@cY.h _ _ _ (aq (aY (LJ (ig ["part"] [none] rfl (BY (aP K (qv 0))) (λ_ _ _ _=>(aT (i:=0) (show List.Nodup (["part"] :List Str)from by decide +kernel))) (λ_ _ _ _=>(gx (af (aP K (qv 0)) (af (aP K (qv 0)) (af (aP K (qv 0)) (af (aP K (qv 0)) ak)))))) rfl (by rfl)))))),?_⟩;refine⟨A.ab,_,h.fh,λo=>?_⟩;refine⟨_,Z,A.a,T.hold,A.dx,_,_,Z,fQ h.fh h.oa (λk z=>by cases z),X.cH,X.hab,Z,A.ab,o,_,Z,ao,λacc hacc=>?_⟩;have el:=x8 h.ql;refine iL (n:=st.ah.length) 0 (λi out H1=>aM (upd H A.ab (.fZ o (.dK (cX st.ah A.qs)))) H1/\kj H1 out (st.ah.take i)) (by omega) ⟨aF hacc _,.nil⟩ (λi out H1 hi _ hp=>⟨hp.1 _ _ ao,by rw[el];exact hi⟩) (λout H1 _ hp=>⟨hp.1 _ _ ao,by rw[el];exact aQ _⟩) ?_ ?_
 .rintro i x out H1 H2 hi eW ha ⟨g,hP⟩ ⟨rfl,kv,hkv,rfl⟩;have ep:=bq hi;obtain⟨qq,eq,h1,h2,_⟩:=h.find ep;rw[x6 ep eq]at hkv;cases hkv;have hq:=g _ _ (fQ h.fh h1 (λk z=>by cases z));refine⟨_,Z,qq.1,T.part,qq.2.1,_,_,Z,hq,X.cP,X.S_,Z,_,Z,qq.1,T.part,qq.2.1,_,_,Z,hq,X.cP,X.pow,Z,_,Z,qq.1,T.part,qq.2.1,_,_,Z,hq,X.cP,X.wO,Z,_,Z,qq.1,T.part,qq.2.1,_,_,Z,hq,X.cP,X.Tc,Z,(iy 4),λt ht=>?_⟩;have g1:=aF ht (BQ st.ah[i]);refine⟨g1 _ _ ha,(g.trans g1).cA hacc _,?_⟩;rw[take_snoc ep];exact((hP.mono g1.tups).snoc ao).mono (jJ (.inr ⟨_,g1 _ _ ha,Z⟩))
 rintro out H1 eW ha ⟨g,hP⟩;rw[cJ]at hP;have hz:=g _ _ (ao (H:=H) (a:=A.ab) (o:=.fZ o (.dK (cX st.ah A.qs))));have na:acc≠A.ab:=λe=>by rw[e,hz]at ha;cases ha
 exact⟨hz,q acc out _ (vz h.fh g) (o_ h.fh hacc) (by rw[az na];exact ha) (hP.mono (jJ (.inr ⟨_,hz,Z⟩)))⟩
abbrev um:Stmt:=inClass (top 21) 13
abbrev kH:List Str:=["self"]
abbrev Mc:List Str:=kH
theorem IV:aR Mc kH (aD um):=dF
theorem IW{T:TC}(F:jq K T.hold "whole" "Hold.whole" um f fd)(X:Txt K T)(g_:mg "sum"=none):Mn P w K mg base 1 T.hold "whole" kH (BV T):=by
 refine F.oA IV λcdv A outer s H vs Q E hr h=>?_;obtain⟨⟨n,ρ,A,st,rfl,h,hl,q⟩⟩:=h;refine⟨_,(@cY.h _ _ _ (aq (aY (aJ (mQ K rfl) (by rfl) g_ yj (af (LJ (ig ["part"] [none] rfl (BY (aP K (qv 0))) (λ_ _ _ _=>(aT (i:=0) (show List.Nodup (["part"] :List Str)from by decide +kernel))) (λ_ _ _ _=>(aP K (qv 0))) rfl (by rfl))) ak))))),?_⟩;refine⟨A.ab,_,h.fh,λo=>?_⟩;refine⟨_,Z,A.a,T.hold,A.dx,_,_,Z,fQ h.fh h.oa (λk z=>by cases z),X.cH,X.hab,Z,A.ab,o,_,Z,ao,λacc hacc=>?_⟩;have el:=x8 h.ql;refine iL (n:=st.ah.length) 0 (λi out H1=>aM (upd H A.ab (.fZ o (.dK (cX st.ah A.qs)))) H1/\out=((st.ah.take i).map (·.wo)).map V.int) (by omega) ⟨aF hacc _,Z⟩ (λi out H1 hi _ hp=>⟨hp.1 _ _ ao,by rw[el];exact hi⟩) (λout H1 _ hp=>⟨hp.1 _ _ ao,by rw[el];exact aQ _⟩) ?_ ?_
 .rintro i x out H1 H2 hi eW ha ⟨g,e⟩ ⟨rfl,kv,hkv,rfl⟩;have ep:=bq hi;obtain⟨qq,eq,h1,h2,_⟩:=h.find ep;rw[x6 ep eq]at hkv;cases hkv;have hq:=g _ _ (fQ h.fh h1 (λk z=>by cases z));refine⟨_,Z,qq.1,T.part,qq.2.1,_,_,Z,hq,X.cP,X.wO,Z,ha,g.cA hacc _,?_⟩;rw[take_snoc ep,e,bP,bP];rfl
 rintro out H1 eW ha ⟨g,e⟩;rw[cJ]at e;have hz:=g _ _ (ao (H:=H) (a:=A.ab) (o:=.fZ o (.dK (cX st.ah A.qs))));have na:acc≠A.ab:=λe=>by rw[e,hz]at ha;cases ha
 exact⟨hz,acc,st.ah.map (λp:Pt=>p.wo),Z,aB.of (by rw[az na,ha,e]),q _ (vz h.fh g)⟩
abbrev kI:Stmt:=inClass (top 21) 25
abbrev h_:List Str:=["self","tops"]
abbrev zu:List Str:=h_
theorem yb:aR zu h_ (aD kI):=dF
theorem yc{T:TC}(F:jq K T.hold "beyond_common" "Hold.beyond_common" kI f fd)(X:Txt K T)(jc:mg "zip"=none):Mn P w K mg base 1 T.hold "beyond_common" h_ (Rk T K):=by
 refine F.oA yb λcdv A outer s H vs Q E hr h=>?_;obtain⟨⟨n,ρ,A,st,l,tops,rfl,h,hS,Xc,hle,q⟩⟩:=h;refine⟨_,(@cY.h _ _ _ (aq (aY (ig ["top","common"] [none,none] rfl (rL K (by rfl) jc (af (qv 1) (af (aP K (qv 0)) ak))) (λ_ _ _ _=>(iT K (n:=2) rfl (cN (aT (i:=0) (show List.Nodup (["top","common"] :List Str)from by decide +kernel)) (cN (aT (i:=1) (show List.Nodup (["top","common"] :List Str)from by decide +kernel)) iR)))) (λ_ _ _ _=>(aI jQ (qv 0) (qv 1))) rfl (by rfl))))),?_⟩;refine⟨_,Z,_,Z,A.a,T.hold,A.dx,_,_,Z,h.oa,X.cH,X.CA,Z,_,_,_,_,_,_,Z,.lst hS,.lst (aB.of h.jS),λacc hacc=>?_⟩;refine xZ (K:=K) (n:=tops.length) [0,1] (λi out H1=>aM H H1/\out=(List.zipWith (λt c=>t-c) (tops.take i) (st.bU.take i)).map V.int) (by decide) (by omega) ⟨aF hacc _,Z⟩ (λi out H1 hi _ hp=>⟨hp.1.seq hS,hp.1.seq (aB.of h.jS),by rw[aE];exact hi,by rw[aE];omega⟩)
  (λout H1 _ hp=>⟨hp.1.seq hS,hp.1.seq (aB.of h.jS),.inl (by rw[aE];exact aQ _)⟩) ?_ ?_
 .rintro i x out H1 H2 hi eW ha ⟨g,e⟩ ⟨p,x1,y1,hp,rfl,rfl,e1,e2⟩;obtain⟨t,rfl,et⟩:=gG e1;obtain⟨c,rfl,ec⟩:=gG e2;have g1:=aF hp (.tup [.int t,.int c]);refine⟨p,_,Z,cS.of ao,Z,_,Z,_,Z,_,_,Z,Z,g1 _ _ ha,(g.trans g1).cA hacc _,?_⟩;rw[mT _ et ec,e,bP];rfl
 rintro out H1 eW ha ⟨g,e⟩;rw[cJ,Xc,cJ]at e;exact q acc H1 g hacc (by rw[ha,e];rfl)
abbrev qF:Stmt:=inClass (top 21) 24
abbrev jj:List Str:=["self","part"]
abbrev GG:List Str:=jj
theorem EY:aR GG jj (aD qF):=dF
theorem EZ{T:TC}(F:jq K T.hold "tops_of" "Hold.tops_of" qF f fd)(X:Txt K T)(jc:mg "zip"=none):Mn P w K mg base 1 T.hold "tops_of" jj (BR T):=by
 refine F.oA EY λcdv A outer s H vs Q E hr h=>?_;obtain⟨⟨n,ρ,A,st,ip,pt,qq,rfl,h,wf,ep,eq,q⟩⟩:=h;obtain⟨h1,h2,_⟩:=h.opt ip pt qq ep eq;have fT:=bw ep;refine⟨_,(@cY.h _ _ _ (aq (aY (ig ["own","common","part"] [none,none,some 1] rfl (rL K (by rfl) jc (af (aP K (qv 1)) (af (aP K (qv 0)) ak))) (λ_ _ _ _=>(iT K (n:=2) rfl (cN (aT (i:=0) (show List.Nodup (["own","common","part"] :List Str)from by decide +kernel)) (cN (aT (i:=1) (show List.Nodup (["own","common","part"] :List Str)from by decide +kernel)) iR)))) (λ_ _ _ _=>(aI cU (aI kC (aP K (qv 2)) (qv 0)) (qv 1))) rfl (by rfl))))),?_⟩;have erl:pt.row.length=st.bU.length:=by rw[wf.rows pt fT,wf.gc]
 have hcl:st.bU.length<=100:=by rw[wf.gc];exact wf.kR
 refine⟨_,Z,qq.1,T.part,qq.2.1,_,_,Z,h1,X.cP,X.Pf,Z,_,Z,A.a,T.hold,A.dx,_,_,Z,h.oa,X.cH,X.CA,Z,_,_,_,_,_,_,Z,.lst (aB.of h2),.lst (aB.of h.jS),λacc hacc=>?_⟩;refine xZ (K:=K) (n:=pt.row.length) [0,1] (λi out H1=>aM H H1/\out=(List.zipWith (λr c=>pt.sc*r+c) (pt.row.take i) (st.bU.take i)).map V.int) (by decide) (by omega) ⟨aF hacc _,Z⟩ (λi out H1 hi _ hp=>⟨hp.1.seq (aB.of h2),hp.1.seq (aB.of h.jS),by rw[aE];exact hi,by rw[aE];omega⟩)
  (λout H1 _ hp=>⟨hp.1.seq (aB.of h2),hp.1.seq (aB.of h.jS),.inl (by rw[aE];exact aQ _)⟩) ?_ ?_
 .rintro i x out H1 H2 hi eW ha ⟨g,e⟩ ⟨p,x1,y1,hp,rfl,rfl,e1,e2⟩;obtain⟨t,rfl,et⟩:=gG e1;obtain⟨c,rfl,ec⟩:=gG e2;have g1:=aF hp (.tup [.int t,.int c]);have s1:Jm.Sz 8000 pt.sc:=Jm.Sz.nW (by have:=wf.tH pt fT;have:=wf.gC;omega) (wf.tH pt fT).2 wf.big;have s2:Jm.Sz 8000 t:=Jm.Sz.nW (wf.o9 pt fT t (bw et)).1 (wf.o9 pt fT t (bw et)).2 wf.big;refine⟨p,_,Z,cS.of ao,Z,_,Z,qq.1,T.part,qq.2.1,_,_,Z,(g.trans g1) _ _ h1,X.cP,X.Ld,Z,_,Z,_,_,Z,Z,jI s1 s2,_,Z,_,_,Z,Z,g1 _ _ ha,(g.trans g1).cA hacc _,?_⟩;rw[mT _ et ec,e,bP];rfl
 rintro out H1 eW ha ⟨g,e⟩;rw[cJ,erl,cJ]at e;exact q acc H1 g hacc (by rw[ha,e];rfl)
abbrev vL:Stmt:=inClass (top 21) 22
abbrev oh:List Str:=["self","part"]
abbrev NU:List Str:=oh
theorem Me:aR NU oh (aD vL):=dF
theorem Mf{T:TC}(F:jq K T.hold "stow" "Hold.stow" vL f fd)(X:Txt K T):Mn P w K mg base 1 T.hold "stow" oh (Lh T):=by
 refine F.oA Me λcdv A outer s H vs Q E hr h=>?_;obtain⟨⟨n,ρ,A,st,qq,p,rfl,hh,h1,h2,c1,c2,hn,wf',q⟩⟩:=h;have h:=hh.h;refine⟨_,(@cY.h _ _ _ (aj (pY (bV hr) (aP K (qv 0)) (aP K (qv 1)) (qv 1) rfl)
  (aq (pY (bV hr) (aP K (qv 0)) (aP K (qv 1)) gD rfl)))),?_⟩
 have A4:∀x∈st.ah,x.nm≠p.nm:=λx hx e=>hn (by rw[<-e];exact hh.wf.sub x hx);have lab:(cX st.ah A.qs).length<sizeLine:=by rw[x8 h.ql];exact dz hh.wf.rE
 refine⟨_,Z,_,Z,A.a,T.hold,A.dx,_,_,Z,h.oa,X.cH,X.hab,Z,_,Z,qq.1,T.part,qq.2.1,_,_,Z,h1,X.cP,X.S_,Z,A.ab,_,Z,tZ.k (k:=Sum.inr p.nm) h.fh lab,?_⟩;rw[oX _ (vv A4),<-VL h.ql p qq];have k1:qq.1≠qq.2.2:=jD h1 h2 (by intro z;cases z);have f1:Kp n ρ (bK (bK ρ qq.1 (n,20,p.nm)) qq.2.2 (n,21,p.nm)) H H (λ_=>true):=⟨λ_ _ e=>e,λb t x o _ c e=>⟨e,by rw[bY (λz=>by rw[z,c2]at c;cases c),bY (λz=>by rw[z,c1]at c;cases c)];exact c⟩⟩
 have hc:=h.same f1;have g1:Gh (bK (bK ρ qq.1 (n,20,p.nm)) qq.2.2 (n,21,p.nm)) H:=(hh.g.color h1 rfl).color h2 rfl;have fr1:Lg n qq.1 qq.2.2 ρ H (bK (bK ρ qq.1 (n,20,p.nm)) qq.2.2 (n,21,p.nm)) H:=λb o e k n1 n2=>⟨e,by rw[bY n2,bY n1]⟩
 have hs:=hc.Lc g1 (st.ah++[p]) (A.qs++[qq]) (by rw[cZ,cZ,h.ql];rfl) (λi x y ex ey=>by
  by_cases hi:i<st.ah.length
  .rw [FF hi]at ex;rw[FF (by rw[h.ql];exact hi)]at ey;exact hc.opt i x y ex ey
  .rw [z6 (by omega)]at ex;rw[z6 (by rw[h.ql];omega),h.ql]at ey;have e0:i-st.ah.length=0:=by
    rcases Nat.eq_zero_or_pos (i-st.ah.length)with z|z
    .exact z
    .rw [q_ (by show 1<=_;exact z)]at ex;cases ex
   rw[e0]at ex ey;cases ex;cases ey;exact⟨h1,h2,by rw[bY k1];exact cV,cV⟩)
 have g2:=g1.wr (a:=A.ab) (o:=.dK (cX (st.ah++[p]) (A.qs++[qq]))) rfl;have fr2:Fr n _ H _ (upd H A.ab (.dK (cX (st.ah++[p]) (A.qs++[qq])))):=Fr.write hc.gM;have Es:upd H A.ab (.dK (cX (st.ah++[p]) (A.qs++[qq]))) qq.1=some (.ins T.part qq.2.1 (dB p qq.2.2)):=by rw[az (jD h1 h.fh (by intro z;cases z))];exact h1
 refine⟨_,Z,A.a,T.hold,A.dx,_,_,Z,hs.oa,X.cH,X.hnm,Z,_,Z,qq.1,T.part,qq.2.1,_,_,Z,Es,X.cP,X.S_,Z,A.nm,_,Z,tZ.k (k:=Sum.inr p.nm) hs.tG (by unfold Ao;rw[aE];exact dz hh.wf.yM),?_⟩;rw[oX _ (Au hn),show Ao st.nms++[(Sum.inr p.nm,V.bl true)]=Ao (st.nms++[p.nm])from by unfold Ao;rw[bP];rfl];have hs2:=hs.aaM g2 (st.nms++[p.nm]);exact q _ _ _ ⟨g2.wr rfl,hs2,wf'⟩ rfl (fr1.trans (fr2.trans (Fr.write hs.ju)))
abbrev vM:Stmt:=inClass (top 21) 1
abbrev lK:List Str:=["self","owner"]
abbrev NV:List Str:=lK.append ["part"]
theorem A_:aR NV lK (aD vM):=dF
theorem Mg{T:TC}(F:jq K T.hold "sign" "Hold.sign" vM f fd)(X:Txt K T)(pZ:Dn P w K mg base 2 "is_name" tO yG)(bD:mg "len"=none):Mn P w K mg base 3 T.hold "sign" lK (BU T):=by
 refine F.oA A_ λcdv A outer s H vs Q E hr h=>?_;obtain⟨⟨n,ρ,A,st,o,rfl,hh,hx,hn,hl,q⟩⟩:=h;refine⟨_,(@cY.h _ _ _ (aj (bZ (eU (dW (bB pZ hr (af (qv 1) ak)))) (aq gF) bf)
  (aj (bZ (x9 (LK (bV hr) (qv 1) (aP K (qv 0)))) (aq gF) bf)
  (aj (pY (bV hr) (aP K (qv 0)) (qv 1) (aJ wL (by rfl) bD c5 (af (aP K (qv 0)) ak)) rfl)
  (aj (b9 (jY mO mK mL dU (aP K (qv 0)) (af ai ak)))
  (aj (b9 (jY mO mK mL dU (aP K (qv 0)) (af ai ak)))
  (aq (x_ (eX fC rfl (BY (aP K (qv 0))) (aT (i:=2) A_.nd) (aq (b9 (jY mO mK mL dU (aP K (qv 2)) (af ai ak))))))))))))),?_⟩
 refine⟨_,Z,Eg (cs:=o.cps.toList) (Ll hx) λH1 g1=>⟨_,Z,?_⟩⟩;rw[show isName o.cps.toList=true from hx];refine aL ?_;have gE:=hh.mono g1;have h1:=gE.h;have F1:Fr n ρ H ρ H1:=Fr.of_same g1;refine⟨_,Z,_,Z,A.a,T.hold,A.dx,_,_,Z,h1.oa,X.cH,X.hpl,Z,A.pl,_,Z,cC.k (k:=Sum.inr o) h1.iW,_,Z,?_⟩;rw[qo hn];refine aL ?_;have CJ:=qp st.own 0;refine⟨_,Z,A.a,T.hold,A.dx,_,_,Z,h1.oa,X.cH,X.hpl,Z,A.pl,_,Z,h1.iW,_,Z,A.a,T.hold,A.dx,_,_,Z,h1.oa,X.cH,X.hpl,Z,_,Z,A.pl,_,Z,tZ.k (k:=Sum.inr o) h1.iW (dz (by rw[CJ];omega)),?_⟩;rw[oX _ (qo hn),CJ,show gq 0 st.own++[(Sum.inr o,V.int (st.own.length:Int))]=gq 0 (st.own++[o])from by rw[Le,Nat.zero_add]];have h2:=h1.aaK gE.g (st.own++[o]);have G2:=gE.g.wr (a:=A.pl) (o:=.dK (gq 0 (st.own++[o]))) rfl;have F2:=F1.trans (Fr.write (o:=.dK (gq 0 (st.own++[o]))) h1.je);generalize upd H1 A.pl (.dK (gq 0 (st.own++[o])))=H2 at *;have lcm:(st.bU.map V.int).length<sizeLine:=by rw[aE,hh.wf.gc];exact dz (by omega)
 refine⟨_,Z,A.a,T.hold,A.dx,_,_,Z,h2.oa,X.cH,X.CA,Z,.inl ⟨Z,_,aB.of h2.jS⟩,A.cm,_,_,Z,Z,h2.jS,lcm,?_⟩;rw[show st.bU.map V.int++[V.int 0]=(st.bU++[0]).map V.int from by rw[bP];rfl];have h3:=h2.aaN G2 (st.bU++[0]);have G3:=G2.wr (a:=A.cm) (o:=.lst ((st.bU++[0]).map V.int)) rfl;have F3:=F2.trans (Fr.write (o:=.lst ((st.bU++[0]).map V.int)) h2.jT);generalize upd H2 A.cm (.lst ((st.bU++[0]).map V.int))=H3 at *;have lpu:(st.b_.map V.int).length<sizeLine:=by rw[aE,hh.wf.rD];exact dz (by omega)
 refine⟨_,Z,A.a,T.hold,A.dx,_,_,Z,h3.oa,X.cH,X.Er,Z,.inl ⟨Z,_,aB.of h3.mR⟩,A.pu,_,_,Z,Z,h3.mR,lpu,?_⟩;rw[show st.b_.map V.int++[V.int 0]=(st.b_++[0]).map V.int from by rw[bP];rfl];have h4:=h3.aaO G3 (st.b_++[0]);have G4:=G3.wr (a:=A.pu) (o:=.lst ((st.b_++[0]).map V.int)) rfl;have F4:=F3.trans (Fr.write (o:=.lst ((st.b_++[0]).map V.int)) h3.cpu);generalize upd H3 A.pu (.lst ((st.b_++[0]).map V.int))=H4 at *;clear h1 h2 h3 G2 G3 F2 F3 gE;have hpl:=hh.wf.rE;refine⟨A.ab,_,h4.fh,λob=>?_⟩;refine⟨_,Z,A.a,T.hold,A.dx,_,_,Z,fQ h4.fh h4.oa (λk z=>by cases z),X.cH,X.hab,Z,A.ab,ob,_,Z,ao,?_⟩;have el:=x8 h4.ql;have el0:(cX st.ah A.qs).length=st.ah.length:=el;refine vn (n:=st.ah.length) (λi σ H'=>(∃s2,σ=[some (.ref A.a),some (.str o),s2])/\pT H' A.ab ob (cX st.ah A.qs)/\∃H5,H'=upd H5 A.ab (.fZ ob (.dK (cX st.ah A.qs)))/\Gh ρ H5/\Fr n ρ H ρ H5/\
   aW T n ρ A H5 { st with own:=st.own++[o],bU:=st.bU++[0],b_:=st.b_++[0],ah:=(st.ah.take i).map (λp=>{ p with row:=p.row++[0] })++st.ah.drop i })
  ⟨⟨_,Z⟩,ao,H4,Z,G4,F4,h4⟩ (λi σ H' hi hp=>⟨hp.2.1,by rw[el0];exact hi⟩) (λσ H' hp=>⟨hp.2.1,by rw[el0];exact aQ _⟩) ?_ ?_
 .rintro i x σ H' Ew hi ⟨⟨s2,rfl⟩,hz,H5,rfl,G5,F5,h5⟩ ⟨rfl,kv,hkv,rfl⟩;have ep:=bq hi;have CK:=Ln (λp:Pt=>{ p with row:=p.row++[0] }) ep;obtain⟨qq,eq,k1,k2,k3,k4⟩:=h5.find CK;rw[x6 ep eq]at hkv;cases hkv;have Xd:=rF (λp:Pt=>{ p with row:=p.row++[0] }) (λp:Pt=>p.nm) (λ_=>rfl) st.ah i;have nd5:(((st.ah.take i).map (λp:Pt=>{ p with row:=p.row++[0] })++st.ah.drop i).map (λp:Pt=>p.nm)).Nodup:=by rw[Xd];exact hh.wf.fB
  have z1:=fQ (o:=ob) h5.fh k1 (λk z=>by cases z);have z2:=fQ (o:=ob) h5.fh k2 (λk z=>by cases z);rw[show cX ({ st with own:=st.own++[o],bU:=st.bU++[0],b_:=st.b_++[0],ah:=(st.ah.take i).map (λp:Pt=>{ p with row:=p.row++[0] })++st.ah.drop i }:HS).ah A.qs=cX st.ah A.qs from pU Xd]at z1 z2;have hrl:((st.ah[i]).row.map V.int).length<sizeLine:=by rw[aE,hh.wf.rows _ (Br hi)];exact dz (by omega)
  refine⟨_,Z,qq.1,T.part,qq.2.1,_,_,Z,z1,X.cP,X.Pf,Z,.inl ⟨Z,_,aB.of z2⟩,qq.2.2,_,_,Z,Z,z2,hrl,?_⟩;have na:A.ab≠qq.2.2:=(jD k2 h5.fh (by intro z;cases z)).symm;rw[show(st.ah[i]).row.map V.int++[V.int 0]=((st.ah[i]).row++[0]).map V.int from by rw[bP];rfl];have h6:=h5.Yr G5 ((st.ah[i]).row++[0]) CK eq nd5;rw[show({ st with own:=st.own++[o],bU:=st.bU++[0],b_:=st.b_++[0],ah:=(st.ah.take i).map (λp:Pt=>{ p with row:=p.row++[0] })++st.ah.drop i }:HS).ah.set i { st.ah[i]with row:=(st.ah[i]).row++[0] }=_ from Lo (λp:Pt=>{ p with row:=p.row++[0] }) ep]at h6;exact⟨⟨_,Z⟩,(az na).trans hz,_,kT na,G5.wr rfl,F5.trans (Fr.write k4),h6⟩
 .rintro σ H' ⟨_,hz,H5,rfl,G5,F5,h5⟩;have Xd:=rF (λp:Pt=>{ p with row:=p.row++[0] }) (λp:Pt=>p.nm) (λ_=>rfl) st.ah st.ah.length;have e5:cX ({ st with own:=st.own++[o],bU:=st.bU++[0],b_:=st.b_++[0],ah:=(st.ah.take st.ah.length).map (λp:Pt=>{ p with row:=p.row++[0] })++st.ah.drop st.ah.length }:HS).ah A.qs=cX st.ah A.qs:=pU Xd;have h5':=h5.fh;rw[e5]at h5';refine⟨hz,?_⟩;rw[pR,yP h5'];have es:({ st with own:=st.own++[o],bU:=st.bU++[0],b_:=st.b_++[0],ah:=(st.ah.take st.ah.length).map (λp:Pt=>{ p with row:=p.row++[0] })++st.ah.drop st.ah.length }:HS)=fF st o:=by unfold fF;rw[cJ,DJ,sf]
  rw[es]at h5;exact q ρ A H5 ⟨G5,h5,BW hh.wf hn hl⟩ rfl F5
abbrev vN:Stmt:=inClass (top 21) 2
abbrev sQ:List Str:=["self","part","owner","worth","weight"]
abbrev NW:List Str:=sQ.append ["place","tops"]
theorem vO:aR NW sQ (aD vN):=dF
theorem Mh{T:TC}(F:jq K T.hold "load" "Hold.load" vN f fd)(X:Txt K T)(jA:Mn P w K mg base 3 T.hold "check_new" jz (Et T))(dX:Mn P w K mg base 1 T.hold "place_of" gZ (Gj T))(fX:Mn P w K mg base 1 T.hold "beyond_common" h_ (Rk T K))(lM:Mn P w K mg base 1 T.hold "stow" oh (Lh T))(yd:Cn P w K mg base 1 "Part" T.part ["self","name","owner","worth","weight","scale","row"] (Gi T K))(bD:mg "len"=none):Mn P w K mg base 4 T.hold "load" sQ (Tf T):=by
 refine F.oA vO λcdv A outer s H vs Q E hr h=>?_
 obtain⟨⟨n,ρ,A,st,x,o,wo,we,rfl,hh,hx,hn,ho,h4,h5,h6,h7,q⟩⟩:=h
 refine⟨_,(@cY.h _ _ _ (aj (b9 (cE jA hr (qv 0) (af (qv 1) ak)))
  (aj (aX (i:=5) vO.nd (cE dX hr (qv 0) (af (qv 2) ak)))
  (aj (bZ (eO (bW.pt (iS (aN su (qv 3) ai (aU _)) (iA (aN su (qv 4) ai (aU _)))))) (aq gF) bf)
  (aj (aX (i:=6) vO.nd (aI So (iO (af ai ak)) (aJ wL (by rfl) bD c5 (af (aP K (qv 0)) ak))))
  (aj (iY (aP K (aP K (qv 0))) (iZ (qv 6) (qv 5) set_list))
  (aq (b9 (cE lM hr (qv 0) (af (Xa yd hr (af (qv 1) (af (qv 2) (af (qv 3) (af (qv 4) (af ai (af (cE fX hr (qv 0) (af (qv 6) ak)) ak))))))) ak)))))))))),?_⟩
 refine⟨_,Z,A.a,A.dx,_,Z,hh.h.oa,Z,_,Z,⟨⟨n,ρ,A,st,x,Z,hh.h,hx,hn,λH1 g1=>?_⟩⟩⟩
 have gE:=hh.mono g1
 have F1:Fr n ρ H ρ H1:=Fr.of_same g1
 clear hh
 refine⟨_,Z,A.a,A.dx,_,Z,gE.h.oa,Z,_,Z,⟨⟨n,ρ,A,st,o,Z,gE.h,ho,?_⟩⟩⟩
 refine⟨false,⟨_,Z,_,_,Z,Z,_,Z,cD (λc=>absurd (dY c) (by omega)) λ_=>⟨_,Z,_,_,Z,Z,_,Z,c9 (by omega),Z⟩⟩,aL ?_⟩
 refine⟨(iy 1),λp0 hp0=>?_⟩
 have g2:=aF hp0 (.lst [.int 0])
 have kJ:=gE.mono g2
 have F2:=F1.trans (Fr.of_same (ρ:=ρ) g2)
 have Wn:upd H1 p0 (.lst [.int 0]) p0=some (.lst [.int 0]):=ao
 generalize upd H1 p0 (.lst [.int 0])=H2 at *
 clear gE F1
 have CJ:=qp st.own 0
 have eW:=kJ.wf.kR
 refine⟨_,Z,A.a,T.hold,A.dx,_,_,Z,kJ.h.oa,X.cH,X.hpl,Z,A.pl,_,Z,kJ.h.iW,p0,_,_,Z,Z,Wn,by omega,by rw[CJ];omega,by rw[CJ];show 1*_<=_;rw[tU,Nat.one_mul];exact small (by omega),λp1 hp1=>?_⟩
 rw[CJ,tU,show(List.replicate st.own.length [V.int 0]).flatten=(List.replicate st.own.length (0:Int)).map V.int from by rw[List.map_replicate,List.flatten_replicate_singleton]]
 have g3:=aF hp1 (.lst ((List.replicate st.own.length (0:Int)).map V.int))
 have j0:=kJ.mono g3
 have F3:=F2.trans (Fr.of_same (ρ:=ρ) g3)
 have n1:H p1=none:=(g1.trans g2).free hp1
 have c1:ρ p1=none:=kJ.g.none hp1
 have Ba:upd H2 p1 (.lst ((List.replicate st.own.length (0:Int)).map V.int)) p1=_:=ao
 generalize upd H2 p1 (.lst ((List.replicate st.own.length (0:Int)).map V.int))=H3 at *
 have hi:=J8.mpr ho
 refine⟨_,Z,A.a,T.hold,A.dx,_,_,Z,j0.h.oa,X.cH,X.Ar,Z,A.bt,T.bot,A.db,_,_,Z,j0.h.mz,X.cB,X.Pg,Z,_,Z,_,Z,p1,_,_,st.own.idxOf o,Z,Z,Ba,by rw[aE,i8];exact lJ hi,?_⟩
 rw[show((List.replicate st.own.length (0:Int)).map V.int).set (st.own.idxOf o) (V.int st.prod)=((List.replicate st.own.length (0:Int)).set (st.own.idxOf o) st.prod).map V.int from by rw[jN]]
 have oj:=j0.Eu (o:=.lst (((List.replicate st.own.length (0:Int)).set (st.own.idxOf o) st.prod).map V.int)) c1 Ba rfl rfl
 have F4:=F3.new (o:=.lst (((List.replicate st.own.length (0:Int)).set (st.own.idxOf o) st.prod).map V.int)) n1
 have Wo:upd H3 p1 (.lst (((List.replicate st.own.length (0:Int)).set (st.own.idxOf o) st.prod).map V.int)) p1=_:=ao
 have s4:aM H (upd H3 p1 (.lst (((List.replicate st.own.length (0:Int)).set (st.own.idxOf o) st.prod).map V.int))):=((g1.trans g2).trans g3).cA n1 _
 generalize upd H3 p1 (.lst (((List.replicate st.own.length (0:Int)).set (st.own.idxOf o) st.prod).map V.int))=H4 at *
 clear kJ j0 F2 F3
 refine⟨_,Z,A.a,A.dx,_,Z,oj.h.oa,Z,_,Z,_,Z,_,Z,_,Z,_,Z,A.a,A.dx,_,Z,oj.h.oa,Z,_,Z,⟨⟨n,ρ,A,st,p1,_,Z,oj.h,aB.of Wo,by rw[eZ,i8,oj.wf.gc],by rw[eZ,i8];omega,λr H5 g5 hr5 Wq=>?_⟩⟩⟩
 intro y dy hy hdy hyd
 have Uk:upd (upd H5 dy (.own y)) y (.ins T.part dy []) r=some (.lst ((lS st ((List.replicate st.own.length 0).set (st.own.idxOf o) st.prod)).map V.int)):=by rw[az (aG Wq hy),az (aG Wq hdy)];exact Wq
 refine⟨⟨y,dy,r,⟨x,o,wo,we,1,lS st ((List.replicate st.own.length 0).set (st.own.idxOf o) st.prod)⟩,Z,ao,aB.of Uk,λrr H6 hrr k6 hy6 Wr=>⟨Z,?_⟩⟩⟩
 have Mi:H5 rr=none:=by
  have e1:rr≠y:=λe=>by rw[e,ao]at hrr;cases hrr
  have e2:rr≠dy:=λe=>by rw[e,az hyd,ao]at hrr;cases hrr
  rw[az e1,az e2]at hrr;exact hrr
 have g6:aM H5 H6:=λb u e=>k6 b u (by rw[az (aG e hy),az (aG e hdy)];exact e) (aG e hy)
 have xj:=oj.mono g5
 have uI:=xj.mono g6
 have F6:=F4.trans (Fr.of_same (ρ:=ρ) (g5.trans g6))
 exact⟨⟨n,ρ,A,st,(y,dy,rr),_,Z,uI,hy6,Wr,xj.g.none hy,xj.g.none Mi,hn,Pq oj.wf hn h6 h7 ho h4 h5,λρ' A' H' a1 a2 a3=>q ρ' A' H' a1 a2 (a3.fr F6 ((s4.trans g5).free hy) ((s4.trans g5).free Mi))⟩⟩
abbrev vP:Stmt:=inClass (top 21) 0
abbrev xH:List Str:=["self"]
abbrev NX:List Str:=xH
theorem Mj:aR NX xH (aD vP):=dF
theorem Ml{T:TC}(F:HM K mg "Hold" T.hold "Hold.__init__" vP f fd)(X:Txt K T)(Dp:Cn P w K mg base 1 "Bottom" T.bot ["self"] (Pj T)):Cn P w K mg base 3 "Hold" T.hold xH (Pk T):=by
 refine F.oA Mj λcdv A outer s H vs Q E hr h=>?_;obtain⟨⟨p,dx,ρ,n,rfl,hp,g,hρ,q⟩⟩:=h;refine⟨_,(@cY.h _ _ _ (aj (d9 K (qv 0) rN)
  (aj (d9 K (qv 0) rN)
  (aj (d9 K (qv 0) (iO ak))
  (aj (d9 K (qv 0) rN)
  (aj (d9 K (qv 0) (TZ Dp hr))
  (aj (d9 K (qv 0) (iO ak))
  (aq (d9 K (qv 0) (iO ak)))))))))),?_⟩
 have M0:jU p H ρ H ρ [] :=⟨(λ_ m=>absurd m (by simp)),λb o e _=>⟨e,Z⟩,g,_,hp⟩
 intro pl hpl;have M1:=(M0.new (o:=.dK []) (c:=(n,1,⟨#[]⟩)) hpl rfl)
 refine⟨_,Z,p,T.hold,dx,_,Z,by rw[az (aG hp hpl)];exact hp,X.cH,X.hpl,by show 0<1000;decide,?_⟩;have M2:=M1.wr (u:=.ins T.hold dx (br "places" (.ref pl) [])) rfl;have hp2:upd (upd H pl (.dK [])) p (.ins T.hold dx (br "places" (.ref pl) [])) p=_:=ao;generalize upd (upd H pl (.dK [])) p (.ins T.hold dx (br "places" (.ref pl) []))=H2 at *;clear M0 M1;intro ab hab;have M3:=(M2.new (o:=.dK []) (c:=(n,2,⟨#[]⟩)) hab rfl)
 refine⟨_,Z,p,T.hold,dx,_,Z,by rw[az (aG hp2 hab)];exact hp2,X.cH,X.hab,by show 1<1000;decide,?_⟩;have M4:=M3.wr (u:=.ins T.hold dx (br "aboard" (.ref ab) (br "places" (.ref pl) []))) rfl;have hp4:upd (upd H2 ab (.dK [])) p (.ins T.hold dx (br "aboard" (.ref ab) (br "places" (.ref pl) []))) p=_:=ao;generalize upd (upd H2 ab (.dK [])) p (.ins T.hold dx (br "aboard" (.ref ab) (br "places" (.ref pl) [])))=H4 at *;clear M2 M3;refine⟨(iy 0),λas has=>?_⟩;have M5:=(M4.new (o:=.lst []) (c:=(n,3,⟨#[]⟩)) has rfl)
 refine⟨_,Z,p,T.hold,dx,_,Z,by rw[az (aG hp4 has)];exact hp4,X.cH,X.has,by show 2<1000;decide,?_⟩;have M6:=M5.wr (u:=.ins T.hold dx (br "ashore" (.ref as) (br "aboard" (.ref ab) (br "places" (.ref pl) [])))) rfl;have Xe:upd (upd H4 as (.lst [])) p (.ins T.hold dx (br "ashore" (.ref as) (br "aboard" (.ref ab) (br "places" (.ref pl) [])))) p=_:=ao;generalize upd (upd H4 as (.lst [])) p (.ins T.hold dx (br "ashore" (.ref as) (br "aboard" (.ref ab) (br "places" (.ref pl) []))))=H6 at *;clear M4 M5;intro nm hnm;have M7:=(M6.new (o:=.dK []) (c:=(n,4,⟨#[]⟩)) hnm rfl)
 refine⟨_,Z,p,T.hold,dx,_,Z,by rw[az (aG Xe hnm)];exact Xe,X.cH,X.hnm,by show 3<1000;decide,?_⟩;have M8:=M7.wr (u:=.ins T.hold dx (br "names" (.ref nm) (br "ashore" (.ref as) (br "aboard" (.ref ab) (br "places" (.ref pl) []))))) rfl;have hp8:upd (upd H6 nm (.dK [])) p (.ins T.hold dx (br "names" (.ref nm) (br "ashore" (.ref as) (br "aboard" (.ref ab) (br "places" (.ref pl) []))))) p=_:=ao;generalize upd (upd H6 nm (.dK [])) p (.ins T.hold dx (br "names" (.ref nm) (br "ashore" (.ref as) (br "aboard" (.ref ab) (br "places" (.ref pl) [])))))=H8 at *;clear M6 M7;intro bt db Ar hdb hne;refine⟨⟨bt,db,Z,ao,λsp kn H9 ve hkn hsk k9 Bb hs9 hk9=>⟨Z,?_⟩⟩⟩;have s9:aM H8 H9:=λb o e=>k9 b o (by rw[az (aG e Ar),az (aG e hdb)];exact e) (aG e Ar);have fr:∀{c:Addr},upd (upd H8 db (.own bt)) bt (.ins T.bot db []) c=none->H8 c=none:=λ{c} e=>by
  have e1:c≠bt:=λz=>by rw[z,ao]at e;cases e
  have e2:c≠db:=λz=>by rw[z,az hne,ao]at e;cases e
  rw[az e1,az e2]at e;exact e
 have abR:=fr ve;have abS:=fr hkn;have M9:=M8.same s9;have M10:=M9.add (c:=(n,5,⟨#[]⟩)) Bb rfl M8 Ar (λe he=>aG (M8.m e he).1 Ar);have M11:=M10.add (c:=(n,8,⟨#[]⟩)) hs9 rfl M8 abR (λe he=>by
  rcases dS.mp he with rfl|he
  .exact jD Bb hs9 (by intro z;cases z)
  .exact aG (M8.m e he).1 abR)
 have M12:=M11.add (c:=(n,9,⟨#[]⟩)) hk9 rfl M8 abS (λe he=>by
  rcases dS.mp he with rfl|he
  .exact jD hs9 hk9 (by intro z;cases z)
  rcases dS.mp he with rfl|he
  .exact jD Bb hk9 (by intro z;cases z)
  .exact aG (M8.m e he).1 abS)
 have hp9:=s9 _ _ hp8;refine⟨_,Z,p,T.hold,dx,_,Z,hp9,X.cH,X.Ar,by show 4<1000;decide,?_⟩;have M13:=M12.wr (u:=.ins T.hold dx (br "bottom" (.ref bt) (br "names" (.ref nm) (br "ashore" (.ref as) (br "aboard" (.ref ab) (br "places" (.ref pl) [])))))) rfl;have Ba:upd H9 p (.ins T.hold dx (br "bottom" (.ref bt) (br "names" (.ref nm) (br "ashore" (.ref as) (br "aboard" (.ref ab) (br "places" (.ref pl) [])))))) p=_:=ao;generalize upd H9 p (.ins T.hold dx (br "bottom" (.ref bt) (br "names" (.ref nm) (br "ashore" (.ref as) (br "aboard" (.ref ab) (br "places" (.ref pl) []))))))=H13 at *;clear M8 M9 M10 M11 M12;refine⟨(iy 0),λcm CA=>?_⟩;have M14:=(M13.new (o:=.lst []) (c:=(n,6,⟨#[]⟩)) CA rfl)
 refine⟨_,Z,p,T.hold,dx,_,Z,by rw[az (aG Ba CA)];exact Ba,X.cH,X.CA,by show 5<1000;decide,?_⟩;have M15:=M14.wr (u:=.ins T.hold dx (br "common" (.ref cm) (br "bottom" (.ref bt) (br "names" (.ref nm) (br "ashore" (.ref as) (br "aboard" (.ref ab) (br "places" (.ref pl) []))))))) rfl;have abU:upd (upd H13 cm (.lst [])) p (.ins T.hold dx (br "common" (.ref cm) (br "bottom" (.ref bt) (br "names" (.ref nm) (br "ashore" (.ref as) (br "aboard" (.ref ab) (br "places" (.ref pl) []))))))) p=_:=ao;generalize upd (upd H13 cm (.lst [])) p (.ins T.hold dx (br "common" (.ref cm) (br "bottom" (.ref bt) (br "names" (.ref nm) (br "ashore" (.ref as) (br "aboard" (.ref ab) (br "places" (.ref pl) [])))))))=H15 at *;clear M13 M14;refine⟨(iy 0),λpu Er=>?_⟩;have M16:=(M15.new (o:=.lst []) (c:=(n,7,⟨#[]⟩)) Er rfl)
 refine⟨_,Z,p,T.hold,dx,_,Z,by rw[az (aG abU Er)];exact abU,X.cH,X.Er,by show 6<1000;decide,?_⟩;have M17:=M16.wr (u:=.ins T.hold dx (br "purses" (.ref pu) (br "common" (.ref cm) (br "bottom" (.ref bt) (br "names" (.ref nm) (br "ashore" (.ref as) (br "aboard" (.ref ab) (br "places" (.ref pl) [])))))))) rfl;have abW:upd (upd H15 pu (.lst [])) p (.ins T.hold dx (br "purses" (.ref pu) (br "common" (.ref cm) (br "bottom" (.ref bt) (br "names" (.ref nm) (br "ashore" (.ref as) (br "aboard" (.ref ab) (br "places" (.ref pl) [])))))))) p=_:=ao;generalize upd (upd H15 pu (.lst [])) p (.ins T.hold dx (br "purses" (.ref pu) (br "common" (.ref cm) (br "bottom" (.ref bt) (br "names" (.ref nm) (br "ashore" (.ref as) (br "aboard" (.ref ab) (br "places" (.ref pl) []))))))))=H17 at *;clear M15 M16;have m:=M17.m;have A4:∀{a:Addr}{o:HO}{c:qj}{ρ2:fE},(H17 a=some o/\ρ2 a=some c/\a≠p)->H17 a=some o/\bK ρ2 p (n,0,⟨#[]⟩) a=some c:=λh=>⟨h.1,by rw[bY h.2.2];exact h.2.1⟩
 have a1:=A4 (m _ (.head _));have a2:=A4 (m _ (.tail _ (.head _)));have a3:=A4 (m _ (.tail _ (.tail _ (.head _))));have a4:=A4 (m _ (.tail _ (.tail _ (.tail _ (.head _)))));have a5:=A4 (m _ (.tail _ (.tail _ (.tail _ (.tail _ (.head _))))));have a6:=A4 (m _ (.tail _ (.tail _ (.tail _ (.tail _ (.tail _ (.head _)))))));have a7:=A4 (m _ (.tail _ (.tail _ (.tail _ (.tail _ (.tail _ (.tail _ (.head _))))))));have a8:=A4 (m _ (.tail _ (.tail _ (.tail _ (.tail _ (.tail _ (.tail _ (.tail _ (.head _)))))))));have a9:=A4 (m _ (.tail _ (.tail _ (.tail _ (.tail _ (.tail _ (.tail _ (.tail _ (.tail _ (.head _))))))))));refine q (bK _ p (n,0,⟨#[]⟩)) ⟨p,dx,pl,ab,as,nm,bt,db,cm,pu,sp,kn,[]⟩ H17 rfl ⟨M17.g.color abW rfl,⟨abW,cV,a9.1,a9.2,a8.1,a8.2,⟨[],a7.1,.nil⟩,a7.2,a6.1,a6.2,a5.1,a5.2,a2.1,a2.2,a1.1,a1.2,a4.1,a4.2,⟨[],a3.1,(λx hx=>absurd hx (by simp)),aQ _,wI⟩,a3.2,Z,λi x y ex=>by simp[hs0]at ex⟩,wf0⟩ (λb o e hb=>?_);obtain⟨x,y⟩:=M17.k b o e hb;exact⟨x,by rw[bY hb];exact y⟩
abbrev pK:Stmt:=inClass (top 21) 27
abbrev mF:List Str:=["self","amounts"]
abbrev E1:List Str:=mF.append ["lost","sums","name","amount","part","many"]
theorem fU:aR E1 mF (aD pK):=dF
theorem Dq{T:TC}(F:jq K T.hold "given_up" "Hold.given_up" pK f fd)(X:Txt K T)(g_:mg "sum"=none)(jc:mg "zip"=none):Mn P w K mg base 1 T.hold "given_up" mF (Py T):=by
 refine F.oA fU λcdv A outer s H vs Q E hr h=>?_;obtain⟨⟨n,ρ,A,st,d,rs,rfl,h,wf,hd,cd,hle,vI,q⟩⟩:=h;refine⟨_,(@cY.h _ _ _ (aj (aX (i:=2) fU.nd (aJ (HL rfl) (by rfl) g_ yj (af (Gr (qv 1)) ak)))
  (aj (pX (i:=3) ["common","lost"] [none,some 2] fU.nd rfl rfl rfl (dO K (aP K (qv 0))) (λ_ _ _ _=>(aT (i:=0) (show List.Nodup (["common","lost"] :List Str)from by decide +kernel))) (λ_ _ _ _=>(aI kC (qv 1) (qv 0))) rfl (by rfl) (by rfl))
  (aj (x_ (eX fC rfl (C_ (qv 1)) (iT K (n:=2) rfl (cN (aT (i:=4) fU.nd) (cN (aT (i:=5) fU.nd) iR))) (aj (aX (i:=6) fU.nd (bM (bV hr) (aP K (qv 0)) (qv 4)))
  (aj (aX (i:=7) fU.nd (aI kC (qv 5) (aP K (qv 6))))
  (aq (pX (i:=3) ["old","own","many"] [none,none,some 7] fU.nd rfl rfl rfl (rL K (by rfl) jc (af (qv 3) (af (aP K (qv 6)) ak))) (λ_ _ _ _=>(iT K (n:=2) rfl (cN (aT (i:=0) (show List.Nodup (["old","own","many"] :List Str)from by decide +kernel)) (cN (aT (i:=1) (show List.Nodup (["old","own","many"] :List Str)from by decide +kernel)) iR)))) (λ_ _ _ _=>(aI cU (qv 0) (aI kC (qv 2) (qv 1)))) rfl (by rfl) (by rfl)))))))
  (aq (aY (qv 3))))))),?_⟩
 have hcl:st.bU.length<=100:=by rw[wf.gc];exact wf.kR
 have zl:Jm.Sz 1100 (bJ rs):=by have:=Jm.SE (n:=60) (ws:=rs.map (·.2)) (λm hm=>by obtain⟨r,hr,rfl⟩:=a_.mp hm;exact(vI r hr).1);exact this.mono (by rw[aE];omega)
 have zc:∀c∈st.bU,Jm.Sz 8000 c:=λc hc=>Jm.Sz.nW (by have:=wf.oZ c hc;have:=wf.gC;omega) (wf.oZ c hc).2 wf.big;refine⟨_,Z,d,_,Z,.inl hd,λv hv=>⟨v,d,_,rs.map (·.2),Z,ao,.inl (by rw[az (aG hd hv)];exact hd),by unfold iN;rw[d7,d7];rfl,?_⟩⟩;have g1:=aF hv (mq v d);have hd1:=g1 _ _ hd;have h1:=h.mono g1;generalize upd H v (mq v d)=H1 at *;refine⟨_,Z,A.a,T.hold,A.dx,_,_,Z,h1.oa,X.cH,X.CA,Z,A.cm,Z,⟨_,aB.of h1.jS⟩,λl0 gI=>?_⟩;refine iL (J:=vc K A.cm) (n:=(st.bU.map V.int).length) 0 (λi o H'=>aM H1 H'/\o=((st.bU.take i).map λc=>bJ rs*c).map V.int) (by rw[aE];omega) ⟨aF gI _,Z⟩ (λi o H' hi _ hp=>⟨_,_,aB.of (hp.1 _ _ h1.jS),bq hi⟩) (λo H' _ hp=>⟨_,aB.of (hp.1 _ _ h1.jS),aQ _⟩) ?_ ?_
 .rintro i y o H2 H3 hi eW ha ⟨g,e⟩ ⟨rfl,hy⟩;obtain⟨c,rfl,ec⟩:=gG (hy _ (aB.of (g _ _ h1.jS)));refine⟨_,Z,_,Z,_,_,Z,Z,jI zl (zc c (bw ec)),ha,g.cA gI _,?_⟩;subst e;rw[take_snoc ec,bP,bP];rfl
 rintro o H2 eW ha ⟨g2,e⟩;rw[aE,cJ]at e;subst e;have Ul:=g1.trans g2;have hd2:=g2 _ _ hd1;have h2:=h1.mono g2;have hn0:H l0=none:=g1.free gI;refine⟨d,_,hd2,λob=>⟨_,Z,d,ob,_,Z,ao,?_⟩⟩;have al:=yQ rs;refine vn (n:=(iN rs).length) (λi σ H'=>aM (upd H2 d (.fZ ob (.dK (iN rs)))) H'/\∃l s4 s5 s6 s7,σ=[some (.ref A.a),some (.ref d),some (.int (bJ rs)),some (.ref l),s4,s5,s6,s7]/\H l=none/\H' l=some (.lst (((rs.take i).foldl (kg st) (st.bU.map λc=>bJ rs*c)).map V.int))/\((rs.take i).foldl (kg st) (st.bU.map λc=>bJ rs*c)).length=st.bU.length)
  ⟨aM.refl _,l0,_,_,_,_,Z,hn0,fQ hd2 ha (λk z=>by cases z),by rw[List.take_zero,List.foldl_nil,aE]⟩ (λi σ H' hi hp=>⟨hp.1 _ _ ao,hi⟩) (λσ H' hp=>⟨hp.1 _ _ ao,aQ _⟩) ?_ ?_
 .rintro i x σ H3 H4 hi ⟨g,l,s4,s5,s6,s7,rfl,Eb,hl,hsl⟩ ⟨pp,kv,hpp,hkv,rfl,rfl⟩;unfold iN at hkv;rw[bO]at hkv;obtain⟨r,er,rfl⟩:=lQ.mp hkv;have hrm:=bw er;obtain⟨zr,p,fT,E2⟩:=vI r hrm;obtain⟨ip,zP,Um⟩:=oV fT;have ep:st.ah[ip]?=some p:=by rw[bq zP,Um]
  have epg:cI st r.1=p:=by rw[<-E2];exact Px wf.fB ep
  have g4:=aF hpp (.tup [.str r.1,.int r.2]);have gg:=g.trans g4;have h2z:∀{b:Addr}{u:HO},H2 b=some u->(∀k,u ≠ .dK k)->upd H3 pp (.tup [.str r.1,.int r.2]) b=some u:=λe k=>gg _ _ (fQ hd2 e k);have nab:A.ab≠d:=(Cz cd h.gM).symm;obtain⟨qq,eq,k1,k2,_,_⟩:=h2.find ep;have hab:upd H3 pp (.tup [.str r.1,.int r.2]) A.ab=some (.dK (cX st.ah A.qs)):=gg _ _ (by rw[az nab];exact h2.fh);have hv:=uX wf.fB ep eq;have hq1:=h2z k1 (λk z=>by cases z);have hq2:=h2z k2 (λk z=>by cases z);have Mm:upd H3 pp (.tup [.str r.1,.int r.2]) pp=some (.tup [.str r.1,.int r.2]):=ao;have IB:=g4 _ _ hl;have hno:∀{b:Addr},upd H3 pp (.tup [.str r.1,.int r.2]) b=none->H b=none:=λ{b} e=>by have e1:=o_ hd2 (gg.free e);exact Ul.free e1
  have Uo:upd H3 pp (.tup [.str r.1,.int r.2]) A.a=some (.ins T.hold A.dx (j_ A)):=h2z h2.oa (λk z=>by cases z);show CQ K 2 _ _ _ (upd H3 pp (.tup [.str r.1,.int r.2])) _;generalize upd H3 pp (.tup [.str r.1,.int r.2])=H4 at *;refine⟨pp,_,Z,cS.of Mm,Z,_,_,Z,_,_,Z,Z,?_⟩;refine⟨_,Z,A.a,T.hold,A.dx,_,_,Z,Uo,X.cH,X.hab,Z,_,Z,A.ab,_,Z,by rw[<-E2];exact hv▸cC.k (k:=Sum.inr p.nm) hab,?_⟩;have zs:Jm.Sz 8000 p.sc:=Jm.Sz.nW (by have:=wf.tH p fT;have:=wf.gC;omega) (wf.tH p fT).2 wf.big;refine⟨_,Z,_,Z,qq.1,T.part,qq.2.1,_,_,Z,hq1,X.cP,X.Ld,Z,_,_,Z,Z,jI zr zs,?_⟩;have erl:p.row.length=st.bU.length:=by rw[wf.rows p fT,wf.gc]
  generalize eS:(rs.take i).foldl (kg st) (st.bU.map λc=>bJ rs*c)=S at *;refine⟨_,Z,_,Z,qq.1,T.part,qq.2.1,_,_,Z,hq1,X.cP,X.Pf,Z,_,_,_,_,_,_,Z,.lst (aB.of IB),.lst (aB.of hq2),λacc hacc=>?_⟩;refine xZ (K:=K) (n:=S.length) [0,1] (λj out H5=>aM H4 H5/\out=(List.zipWith (λold own=>old+(r.2*p.sc)*own) (S.take j) (p.row.take j)).map V.int) (by decide) (by omega) ⟨aF hacc _,Z⟩ (λj out H5 hj _ hp=>⟨aB.of (hp.1 _ _ IB),aB.of (hp.1 _ _ hq2),by rw[aE];exact hj,by rw[aE];omega⟩)
   (λout H5 _ hp=>⟨aB.of (hp.1 _ _ IB),aB.of (hp.1 _ _ hq2),.inl (by rw[aE];exact aQ _)⟩) ?_ ?_
  .rintro j x out H5 H6 hj GH ha2 ⟨g5,e5⟩ ⟨p2,x1,y1,hp2,rfl,rfl,e1,e2⟩;obtain⟨t,rfl,et⟩:=gG e1;obtain⟨c,rfl,ec⟩:=gG e2;have g6:=aF hp2 (.tup [.int t,.int c]);have zw:Jm.Sz 8000 c:=Jm.Sz.nW (wf.o9 p fT c (bw ec)).1 (wf.o9 p fT c (bw ec)).2 wf.big;refine⟨p2,_,Z,cS.of ao,Z,_,Z,_,Z,_,Z,_,_,Z,Z,jI (zr.mul zs) zw,_,_,Z,Z,g6 _ _ ha2,(g5.trans g6).cA hacc _,?_⟩;rw[mT _ et ec,e5,bP];rfl
  rintro out H5 GH ha2 ⟨g5,e5⟩;rw[cJ,hsl,<-erl,cJ]at e5;have eN:(rs.take (i+1)).foldl (kg st) (st.bU.map λc=>bJ rs*c)=List.zipWith (λold own=>old+(r.2*p.sc)*own) S p.row:=by rw[take_snoc er,Km,eS];show kg st S r=_;unfold kg;rw[epg]
  refine⟨gg.trans g5,acc,_,_,_,_,Z,hno hacc,?_,?_⟩
  .rw [eN,ha2,e5]
  .rw [eN,kq];omega
 rintro σ H3 ⟨g,l,s4,s5,s6,s7,rfl,Eb,hl,hsl⟩;rw[al,cJ]at hl;refine⟨g _ _ ao,_,Z,?_⟩;have nl:l≠d:=λe=>by rw[e,hd]at Eb;cases Eb
 exact q l _ (Ul.trans (vz hd2 g)) Eb (by rw[az nl];exact hl)
abbrev rT:Stmt:=inClass (top 21) 23
abbrev lG:List Str:=["self","name","amount"]
abbrev IZ:List Str:=lG.append ["part"]
theorem ye:aR IZ lG (aD rT):=dF
theorem GI{T:TC}(F:jq K T.hold "lessen" "Hold.lessen" rT f fd)(X:Txt K T):Mn P w K mg base 1 T.hold "lessen" lG (Ls T):=by
 refine F.oA ye λcdv A outer s H vs Q E hr h=>?_;obtain⟨⟨n,ρ,A,st,r,rfl,hh,⟨p,fT,E2,hle⟩,wf',q⟩⟩:=h;have h:=hh.h;have nd:=hh.wf.fB;refine⟨_,(@cY.h _ _ _ (aj (aX (i:=3) ye.nd (bM (bV hr) (aP K (qv 0)) (qv 1)))
  (aj (qz K (qv 3) (qv 2) KD)
  (aq (iz (aN d8 (aP K (qv 3)) ai (aU _)) (aq (PU (aP K (qv 0)) (qv 1))) bf))))),?_⟩
 obtain⟨ip,zP,Um⟩:=oV fT;have ep:st.ah[ip]?=some p:=by rw[bq zP,Um]
 obtain⟨qq,eq,k1,k2,k3,k4⟩:=h.find ep;have hv:=uX nd ep eq;refine⟨_,Z,A.a,T.hold,A.dx,_,_,Z,h.oa,X.cH,X.hab,Z,_,Z,A.ab,_,Z,by rw[<-E2];exact hv▸cC.k (k:=Sum.inr p.nm) h.fh,?_⟩;refine⟨_,Z,qq.1,T.part,qq.2.1,_,_,Z,k1,X.cP,X.wO,Z,_,Z,_,_,Z,Z,qq.2.1,_,k1,by show 6<1000;decide,?_⟩;have h1:=h.iX (p1:={ p with wo:=p.wo-r.2 }) hh.g ep eq rfl rfl nd;have g1:=hh.g.wr (a:=qq.1) (o:=.ins T.part qq.2.1 (dB { p with wo:=p.wo-r.2 } qq.2.2)) rfl;have F1:Fr n ρ H ρ (upd H qq.1 (.ins T.part qq.2.1 (dB { p with wo:=p.wo-r.2 } qq.2.2))):=Fr.write k3;show aap _ _ _ _ _ (upd H qq.1 (.ins T.part qq.2.1 (dB { p with wo:=p.wo-r.2 } qq.2.2)));have Qh:upd H qq.1 (.ins T.part qq.2.1 (dB { p with wo:=p.wo-r.2 } qq.2.2)) qq.1=some (.ins T.part qq.2.1 (dB { p with wo:=p.wo-r.2 } qq.2.2)):=ao;generalize upd H qq.1 (.ins T.part qq.2.1 (dB { p with wo:=p.wo-r.2 } qq.2.2))=H1 at *;have el:eF st r={ st with ah:=if p.wo-r.2=0 then st.ah.eraseIdx ip else st.ah.set ip { p with wo:=p.wo-r.2 } }:=by unfold eF;rw[<-E2,Lu nd (λx hx=>by have:=hh.wf.ki x hx;omega) ep]
 rw[el]at wf' q;refine⟨λσ' H'=>Q .cy H',?_,λ_ _ z=>z⟩;refine⟨_,Z,qq.1,T.part,qq.2.1,_,_,Z,Qh,X.cP,X.wO,Z,Z,_,Z,cD (λc=>?_) (λc=>?_)⟩
 .have c':p.wo-r.2=0:=V.int.inj (dY c);rw[av c']at wf' q;have Mp:((st.ah.set ip { p with wo:=p.wo-r.2 }).map (λx:Pt=>x.nm)).Nodup:=by rw[jN,show({ p with wo:=p.wo-r.2 }:Pt).nm=p.nm from rfl,mU (by rw[bO,ep];rfl)];exact nd
  have ep1:(st.ah.set ip { p with wo:=p.wo-r.2 })[ip]?=some { p with wo:=p.wo-r.2 }:=iB zP;have dk:=C3 Mp h1.ql ep1;rw[List.eraseIdx_set_eq]at dk;have hv1:=uX Mp ep1 eq;refine⟨_,Z,A.a,T.hold,A.dx,_,_,Z,h1.oa,X.cH,X.hab,Z,_,Z,A.ab,_,Sum.inr r.1,Z,h1.fh,Z,?_,?_⟩
  .rw [<-E2];show(eE (cX (st.ah.set ip { p with wo:=p.wo-r.2 }) A.qs) (Sum.inr p.nm)).isSome=true;rw[show eE (cX (st.ah.set ip { p with wo:=p.wo-r.2 }) A.qs) (Sum.inr p.nm)=_ from hv1];rfl
  .show Q .cy (upd H1 A.ab (.dK (ny (cX (st.ah.set ip { p with wo:=p.wo-r.2 }) A.qs) (Sum.inr r.1))));rw[<-E2,show ny (cX (st.ah.set ip { p with wo:=p.wo-r.2 }) A.qs) (Sum.inr p.nm)=_ from dk];have hi2:ip<A.qs.length:=by rw[h.ql];exact zP
   have h2:=h1.Lc g1 (st.ah.eraseIdx ip) (A.qs.eraseIdx ip) (by rw[Qu zP,Qu hi2,h.ql]) (λj x y ex ey=>by rw[<-List.eraseIdx_set_eq (l:=st.ah) (i:=ip) (a:={ p with wo:=p.wo-r.2 })]at ex;obtain⟨k,a1,a2⟩:=Aw ex ey;exact h1.opt k x y a1 a2)
   exact q ρ _ _ ⟨g1.wr rfl,h2,wf'⟩ rfl (F1.trans (Fr.write h1.gM))
 .have c':¬ p.wo-r.2=0:=λe=>c (bh (by rw[e]));rw[au c']at wf' q;exact q ρ A H1 ⟨g1,h1,wf'⟩ rfl F1
abbrev uo:Stmt:=inClass (top 21) 28
abbrev m8:List Str:=["self","kept","whole","added"]
abbrev Mq:List Str:=m8.append ["scales","common","shared","part","scale"]
theorem jK:aR Mq m8 (aD uo):=dF
theorem I0{T:TC}(F:jq K T.hold "blend" "Hold.blend" uo f fd)(X:Txt K T)(qG:Dn P w K mg base 2 "factor_of_all" mE (To K))(ur:Mn P w K mg base 1 T.bot "grow" oM (Tp T))(jc:mg "zip"=none):Mn P w K mg base 3 T.hold "blend" m8 (Gm T K):=by
 refine F.oA jK λcdv A outer s H vs Q E hr h=>?_;obtain⟨⟨n,ρ,A,st,kept,whole,la,added,rfl,hh,hla,hal,k0,w0,kz,wz,haz,hpz,hsl,wf',q⟩⟩:=h;refine⟨_,(@cY.h _ _ _ (aj (x_ (pX (i:=4) ["part","kept"] [none,some 1] jK.nd rfl rfl rfl (BY (aP K (qv 0))) (λ_ _ _ _=>(aT (i:=0) (show List.Nodup (["part","kept"] :List Str)from by decide +kernel))) (λ_ _ _ _=>(aI kC (aP K (qv 0)) (qv 1))) rfl (by rfl) (by rfl)))
  (aj (pX (i:=5) ["top","more","kept"] [none,none,some 1] jK.nd rfl rfl rfl (rL K (by rfl) jc (af (aP K (qv 0)) (af (qv 3) ak))) (λ_ _ _ _=>(iT K (n:=2) rfl (cN (aT (i:=0) (show List.Nodup (["top","more","kept"] :List Str)from by decide +kernel)) (cN (aT (i:=1) (show List.Nodup (["top","more","kept"] :List Str)from by decide +kernel)) iR)))) (λ_ _ _ _=>(aI cU (aI kC (qv 0) (qv 2)) (qv 1))) rfl (by rfl) (by rfl))
  (aj (aX (i:=6) jK.nd (bB qG hr (af (qv 2) (af (aI aae (qv 4) (qv 5)) ak))))
  (aj (x_ (eX fC rfl (rL K (by rfl) jc (af (Gr (aP K (qv 0))) (af (qv 4) ak))) (iT K (n:=2) rfl (cN (aT (i:=7) jK.nd) (cN (aT (i:=8) jK.nd) iR))) (aq (d9 K (qv 7) (aI iC (qv 8) (qv 6))))))
  (aj (d9 K (qv 0) (ig ["top","shared"] [none,some 6] rfl (dO K (qv 5)) (λ_ _ _ _=>(aT (i:=0) (show List.Nodup (["top","shared"] :List Str)from by decide +kernel))) (λ_ _ _ _=>(aI iC (qv 0) (qv 1))) rfl (by rfl)))
  (aj (d9 K (qv 0) (ig ["purse","whole","shared"] [none,some 2,some 6] rfl (dO K (aP K (qv 0))) (λ_ _ _ _=>(aT (i:=0) (show List.Nodup (["purse","whole","shared"] :List Str)from by decide +kernel))) (λ_ _ _ _=>(aI kC (qv 0) (aI iC (qv 1) (qv 2)))) rfl (by rfl)))
  (aq (b9 (cE ur hr (aP K (qv 0)) (af (aI iC (qv 2) (qv 6)) ak))))))))))),?_⟩
 have hpl:=hh.wf.rE;have nd:=hh.wf.fB;have hcl:st.bU.length<=100:=by rw[hh.wf.gc];exact hh.wf.kR
 have zsc:∀p∈st.ah,Jm.Sz 8000 p.sc:=λp hp=>Jm.Sz.nW (by have:=hh.wf.tH p hp;have:=hh.wf.gC;omega) (hh.wf.tH p hp).2 hh.wf.big;have zcm:∀c∈st.bU,Jm.Sz 8000 c:=λc hc=>Jm.Sz.nW (by have:=hh.wf.oZ c hc;have:=hh.wf.gC;omega) (hh.wf.oZ c hc).2 hh.wf.big;have h:=hh.h;refine⟨A.ab,_,h.fh,λob=>?_⟩;refine⟨_,Z,A.a,T.hold,A.dx,_,_,Z,fQ h.fh h.oa (λk z=>by cases z),X.cH,X.hab,Z,A.ab,ob,_,Z,ao,λl1 hl1=>?_⟩;have el:=x8 h.ql;refine iL (n:=st.ah.length) 0 (λi out H1=>aM (upd H A.ab (.fZ ob (.dK (cX st.ah A.qs)))) H1/\out=((st.ah.take i).map λp:Pt=>p.sc*kept).map V.int) (by omega) ⟨aF hl1 _,Z⟩ (λi out H1 hi _ hp=>⟨hp.1 _ _ ao,by rw[el];exact hi⟩) (λout H1 _ hp=>⟨hp.1 _ _ ao,by rw[el];exact aQ _⟩) ?_ ?_
 .rintro i x out H1 H2 hi eW ha ⟨g,e⟩ ⟨rfl,kv,hkv,rfl⟩;have ep:=bq hi;obtain⟨qq,eq,k1,k2,_⟩:=h.find ep;rw[x6 ep eq]at hkv;cases hkv;have hq:=g _ _ (fQ h.fh k1 (λk z=>by cases z));refine⟨_,Z,qq.1,T.part,qq.2.1,_,_,Z,hq,X.cP,X.Ld,Z,_,Z,_,_,Z,Z,jI (zsc _ (Br hi)) kz,ha,g.cA hl1 _,?_⟩;subst e;rw[take_snoc ep,bP,bP];rfl
 rintro o1 H1 ajv ha1 ⟨g1,e1⟩;rw[cJ]at e1;have hz1:=g1 _ _ (ao (H:=H) (a:=A.ab) (o:=.fZ ob (.dK (cX st.ah A.qs))));have na1:l1≠A.ab:=λe=>by rw[e,hz1]at ha1;cases ha1
 refine⟨hz1,?_⟩;have s2:aM H (upd H1 A.ab (.dK (cX st.ah A.qs))):=vz h.fh g1;have ajw:H l1=none:=o_ h.fh hl1;have ha2:upd H1 A.ab (.dK (cX st.ah A.qs)) l1=some (.lst ((jg st kept).map V.int)):=by rw[az na1,ha1,e1];rfl
 generalize upd H1 A.ab (.dK (cX st.ah A.qs))=H2 at *;clear g1 hz1 ha1 e1;have h2:=h.mono s2;have Rz:=s2.seq hla;refine⟨_,Z,A.a,T.hold,A.dx,_,_,Z,h2.oa,X.cH,X.CA,Z,_,Z,_,_,_,_,_,_,Z,.lst (aB.of h2.jS),.lst Rz,λl2 hl2=>?_⟩;refine xZ (K:=K) (n:=st.bU.length) [0,1] (λi out H3=>aM H2 H3/\out=(List.zipWith (λt m=>t*kept+m) (st.bU.take i) (added.take i)).map V.int) (by decide) (by omega) ⟨aF hl2 _,Z⟩ (λi out H3 hi _ hp=>⟨aB.of (hp.1 _ _ h2.jS),hp.1.seq Rz,by rw[aE];exact hi,by rw[aE];omega⟩)
  (λout H3 _ hp=>⟨aB.of (hp.1 _ _ h2.jS),hp.1.seq Rz,.inl (by rw[aE];exact aQ _)⟩) ?_ ?_
 .rintro i x out H3 H4 hi eW ha ⟨g,e⟩ ⟨p,x1,y1,hp,rfl,rfl,e1,e2⟩;obtain⟨t,rfl,et⟩:=gG e1;obtain⟨c,rfl,ec⟩:=gG e2;have g1:=aF hp (.tup [.int t,.int c]);refine⟨p,_,Z,cS.of ao,Z,_,Z,_,Z,_,_,Z,Z,jI (zcm t (bw et)) kz,_,Z,_,_,Z,Z,g1 _ _ ha,(g.trans g1).cA hl2 _,?_⟩;rw[mT _ et ec,e,bP];rfl
 rintro o2 H3 GH Mr ⟨g3,e3⟩;rw[cJ,<-hal,cJ]at e3;have ec3:o2=(gr st kept added).map V.int:=e3;subst ec3;have s3:=s2.trans g3;have h3:=h.mono s3;have Ws:=g3 _ _ ha2;have ajx:H l2=none:=s2.free hl2;have n12:l1≠l2:=λe=>by rw[e,hl2]at ha2;cases ha2
 clear e3 h2 Rz g3 ha2 s2;have lsc:(jg st kept).length=st.ah.length:=by unfold jg;rw[aE]
 have lcm:(gr st kept added).length=st.bU.length:=by unfold gr;rw[kq,hal,yw]
 refine⟨_,Z,_,Z,_,Z,l1,l2,_,_,Z,Z,Ws,Mr,by rw[aE,aE,lsc,lcm];exact fD (Nat.add_le_add hpl hcl) (by rw[l9];decide),λp3 hp3=>?_⟩;rw[<-bP];have g4:=aF hp3 (.lst ((jg st kept++gr st kept added).map V.int));refine⟨⟨whole,p3,_,Z,aB.of ao,by omega,?_,?_⟩⟩
 .intro t ht;rcases dD.mp ht with z|z
  .unfold jg at z;obtain⟨p,hp,rfl⟩:=a_.mp z;exact lZ (by have:=hh.wf.tH p hp;omega) (by omega)
  .obtain ⟨c,hc,m,hm,rfl⟩:=vA (show t∈List.zipWith _ st.bU added from z);have a1:=lZ (hh.wf.oZ c hc).1 (by omega:0<=kept);have a2:=(haz m hm).1;omega
 have s4:=s3.trans g4;have h4:=h.mono s4;have G4:=hh.g.same s4;have F4:Fr n ρ H ρ (upd H3 p3 (.lst ((jg st kept++gr st kept added).map V.int))):=Fr.of_same s4;have b1:=g4 _ _ Ws;have b2:=g4 _ _ Mr;generalize upd H3 p3 (.lst ((jg st kept++gr st kept added).map V.int))=H4 at *;clear Ws Mr s3 h3 g4;obtain⟨sd,Xf⟩:∃sd,sd=cL st kept whole added:=⟨_,rfl⟩
 rw[show qu whole (jg st kept++gr st kept added)=sd from Xf.symm];have sp:0<sd:=by rw[Xf];exact Ay _ _ w0
 have TQ:sd∣whole:=by rw[Xf];exact(Ax _ _).1
 have sz:Jm.Sz 60 sd:=wz.dvd w0 (by omega) TQ;have wq:0<whole / sd:=Int.ediv_pos_of_pos_of_dvd w0 (by omega) TQ;have wqz:Jm.Sz 60 (whole / sd):=wz.ediv sp;have Xg:∀{i:Int},BJ i sd:=λ{i}=>vj sp (sz.mono (by decide));refine⟨A.ab,_,h4.fh,λUp=>?_⟩;refine⟨_,Z,A.a,T.hold,A.dx,_,_,Z,fQ h4.fh h4.oa (λk z=>by cases z),X.cH,X.hab,Z,A.ab,_,Z,.inr ⟨Up,ao⟩,λv hv=>?_⟩;have nva:v≠A.ab:=λe=>by rw[e,ao]at hv;cases hv
 have Xh:H4 v=none:=o_ h4.fh hv;have g5:=aF Xh (mq v A.ab);have hv5:upd H4 v (mq v A.ab) v=some (mq v A.ab):=ao;rw[kT (cu nva)];have h5:=h4.mono g5;have G5:=G4.same g5;have F5:=F4.trans (Fr.of_same (ρ:=ρ) g5);have s5:=s4.trans g5;have c1:=g5 _ _ b1;have c2:=g5 _ _ b2;generalize upd H4 v (mq v A.ab)=H5 at *;clear h4 G4 F4 s4 b1 b2 g5;refine⟨_,Z,_,_,_,_,_,_,Z,.vals (fQ h5.fh hv5 (λk z=>by cases z)) ao,.lst (aB.of (fQ h5.fh c1 (λk z=>by cases z))),?_⟩;have exl:((cX st.ah A.qs).map λp=>p.2).length=st.ah.length:=by rw[aE];exact el
 have eyl:((jg st kept).map V.int).length=st.ah.length:=by rw[aE];exact lsc
 refine vn (n:=st.ah.length) (λi σ H'=>(∃s7 s8,σ=[some (.ref A.a),some (.int kept),some (.int whole),some (.ref la),some (.ref l1),some (.ref l2),some (.int sd),s7,s8])/\∃H6,H'=upd H6 A.ab (.fZ Up (.dK (cX st.ah A.qs)))/\Gh ρ H6/\Fr n ρ H ρ H6/\aW T n ρ A H6 { st with ah:=(st.ah.take i).map (λp=>{ p with sc:=p.sc*kept / sd })++st.ah.drop i }/\H6 l1=some (.lst ((jg st kept).map V.int))/\H6 l2=some (.lst ((gr st kept added).map V.int))/\(∀b,H6 b=none->H b=none))
  ⟨⟨_,_,Z⟩,H5,Z,G5,F5,h5,c1,c2,λb e=>s5.free e⟩ ?_ ?_ ?_ ?_
 .rintro i σ H' hi ⟨_,H6,rfl,G6,F6,h6,d1,d2,fr⟩;have e6:cX ({ st with ah:=(st.ah.take i).map (λp:Pt=>{ p with sc:=p.sc*kept / sd })++st.ah.drop i }:HS).ah A.qs=cX st.ah A.qs:=pU (rF (λp:Pt=>{ p with sc:=p.sc*kept / sd }) (λp:Pt=>p.nm) (λ_=>rfl) st.ah i);have rV:=h6.fh;rw[e6]at rV;exact⟨ao,aB.of (fQ rV d1 (λk z=>by cases z)),by rw[exl];exact hi,by rw[eyl];exact hi⟩
 .rintro σ H' ⟨_,H6,rfl,G6,F6,h6,d1,d2,fr⟩;have e6:cX ({ st with ah:=(st.ah.take st.ah.length).map (λp:Pt=>{ p with sc:=p.sc*kept / sd })++st.ah.drop st.ah.length }:HS).ah A.qs=cX st.ah A.qs:=pU (rF (λp:Pt=>{ p with sc:=p.sc*kept / sd }) (λp:Pt=>p.nm) (λ_=>rfl) st.ah _);have rV:=h6.fh;rw[e6]at rV;exact⟨ao,aB.of (fQ rV d1 (λk z=>by cases z)),.inl (by rw[exl];exact aQ _)⟩
 .rintro i x σ H' Ew hi ⟨⟨s7,s8,rfl⟩,H6,rfl,G6,F6,h6,d1,d2,fr⟩ ⟨pp,x1,y1,hpp,rfl,rfl,ex,ey⟩;have ep:=bq hi;have ep6:=Ln (λp:Pt=>{ p with sc:=p.sc*kept / sd }) ep;obtain⟨qq,eq,k1,k2,k3,k4⟩:=h6.find ep6;have nm6:=rF (λp:Pt=>{ p with sc:=p.sc*kept / sd }) (λp:Pt=>p.nm) (λ_=>rfl) st.ah i;have e6:cX ({ st with ah:=(st.ah.take i).map (λp:Pt=>{ p with sc:=p.sc*kept / sd })++st.ah.drop i }:HS).ah A.qs=cX st.ah A.qs:=pU nm6;have rV:=h6.fh;rw[e6]at rV;rw[bO,x6 ep eq]at ex;cases ex;obtain⟨sc,rfl,esc⟩:=gG ey;have agK:sc=(st.ah[i]).sc*kept:=by unfold jg at esc;rw[bO,ep]at esc;exact(gJ esc).symm
  subst agK;have npa:pp≠A.ab:=λe=>by rw[e,ao]at hpp;cases hpp
  have agL:H6 pp=none:=o_ rV hpp;have g7:=aF agL (.tup [.ref qq.1,.int ((st.ah[i]).sc*kept)]);rw[kT (cu npa)];have Mm:upd H6 pp (.tup [.ref qq.1,.int ((st.ah[i]).sc*kept)]) pp=some (.tup [.ref qq.1,.int ((st.ah[i]).sc*kept)]):=ao;have h7:=h6.mono g7;have G7:=G6.same g7;have F7:=F6.trans (Fr.of_same (ρ:=ρ) g7);have Wt:=g7 _ _ rV;have f1:=g7 _ _ d1;have f2:=g7 _ _ d2;have SI:∀b,upd H6 pp (.tup [.ref qq.1,.int ((st.ah[i]).sc*kept)]) b=none->H b=none:=λb e=>fr b (g7.free e);have Qh:=g7 _ _ k1;generalize upd H6 pp (.tup [.ref qq.1,.int ((st.ah[i]).sc*kept)])=H7 at *;refine⟨pp,_,Z,cS.of (fQ Wt Mm (λk z=>by cases z)),Z,_,_,Z,_,_,Z,Z,?_⟩;refine⟨_,Z,_,Z,_,_,Z,Z,Xg,_,Z,qq.1,T.part,qq.2.1,_,Z,fQ Wt Qh (λk z=>by cases z),X.cP,X.Ld,by show 6<1000;decide,?_⟩;have nd7:(((st.ah.take i).map (λp:Pt=>{ p with sc:=p.sc*kept / sd })++st.ah.drop i).map (λp:Pt=>p.nm)).Nodup:=by rw[nm6];exact nd
  have h8:=h7.iX (p1:={ st.ah[i]with sc:=(st.ah[i]).sc*kept / sd }) G7 ep6 eq rfl rfl nd7;rw[show({ st with ah:=(st.ah.take i).map (λp:Pt=>{ p with sc:=p.sc*kept / sd })++st.ah.drop i }:HS).ah.set i { st.ah[i]with sc:=(st.ah[i]).sc*kept / sd }=_ from Lo (λp:Pt=>{ p with sc:=p.sc*kept / sd }) ep]at h8;have nqa:A.ab≠qq.1:=(jD Qh Wt (by intro z;cases z)).symm;have nq1:l1≠qq.1:=jD f1 Qh (by intro z;cases z);have nq2:l2≠qq.1:=jD f2 Qh (by intro z;cases z);refine⟨⟨_,_,Z⟩,_,kT nqa,G7.wr rfl,F7.trans (Fr.write k3),h8,by rw[az nq1];exact f1,by rw[az nq2];exact f2,λb e=>SI b ?_⟩;by_cases z:b=qq.1
  .rw [z,ao]at e;cases e
  .rw [az z]at e;exact e
 rintro σ H' ⟨⟨s7,s8,rfl⟩,H6,rfl,G6,F6,h6,d1,d2,fr⟩;have e6:cX ({ st with ah:=(st.ah.take st.ah.length).map (λp:Pt=>{ p with sc:=p.sc*kept / sd })++st.ah.drop st.ah.length }:HS).ah A.qs=cX st.ah A.qs:=pU (rF (λp:Pt=>{ p with sc:=p.sc*kept / sd }) (λp:Pt=>p.nm) (λ_=>rfl) st.ah _);have rV:=h6.fh;rw[e6]at rV;refine⟨ao,?_⟩;rw[pR,yP rV];rw[show({ st with ah:=(st.ah.take st.ah.length).map (λp:Pt=>{ p with sc:=p.sc*kept / sd })++st.ah.drop st.ah.length }:HS)={ st with ah:=st.ah.map λp:Pt=>{ p with sc:=p.sc*kept / sd } }from by rw[cJ,DJ,sf]]at h6;clear e6 rV h5 G5 F5 s5 c1 c2 hv5;refine⟨_,Z,l2,Z,⟨_,aB.of d2⟩,λl3 hl3=>?_⟩;refine iL (J:=vc K l2) (n:=((gr st kept added).map V.int).length) 0 (λi o H'=>aM H6 H'/\o=(((gr st kept added).take i).map (· / sd)).map V.int) (by rw[aE];omega) ⟨aF hl3 _,Z⟩ (λi o H' hi _ hp=>⟨_,_,aB.of (hp.1 _ _ d2),bq hi⟩) (λo H' _ hp=>⟨_,aB.of (hp.1 _ _ d2),aQ _⟩) ?_ ?_
 .rintro i y o Ha Hb hi eW ha ⟨g,e⟩ ⟨rfl,hy⟩;obtain⟨c,rfl,ec⟩:=gG (hy _ (aB.of (g _ _ d2)));refine⟨_,Z,_,Z,_,_,Z,Z,Xg,ha,g.cA hl3 _,?_⟩;subst e;rw[take_snoc ec,bP,bP];rfl
 rintro o3 H8 ajy Ms ⟨g8,e8⟩;rw[aE,cJ]at e8;subst e8;have h8:=h6.mono g8;have G8:=G6.same g8;have F8:=F6.trans (Fr.of_same (ρ:=ρ) g8);have fr8:∀b,H8 b=none->H b=none:=λb e=>fr b (g8.free e);have c3:ρ l3=none:=G6.none hl3;have n3:H l3=none:=fr l3 hl3;refine⟨_,Z,A.a,T.hold,A.dx,_,Z,h8.oa,X.cH,X.CA,by show 7<1000;decide,?_⟩;obtain⟨h9,G9⟩:=Az (t:=6) h8 G8 c3 Ms rfl;have F9:Fr n ρ H (bK ρ l3 (n,6,⟨#[]⟩)) H8:=F8.jy n3;have zN:=h9.aaQ G9 l3 _ Ms cV;have G10:=G9.wr (a:=A.a) (o:=.ins T.hold A.dx (j_ { A with cm:=l3 })) rfl;have F10:=F9.trans (Fr.write (o:=.ins T.hold A.dx (j_ { A with cm:=l3 })) h9.ca);show u_ _ _ _ _ (upd H8 A.a (.ins T.hold A.dx (j_ { A with cm:=l3 })));have agM:∀b,upd H8 A.a (.ins T.hold A.dx (j_ { A with cm:=l3 })) b=none->H b=none:=λb e=>fr8 b (by
  by_cases z:b=A.a
  .rw [z,ao]at e;cases e
  .rw [az z]at e;exact e)
 generalize upd H8 A.a (.ins T.hold A.dx (j_ { A with cm:=l3 }))=K3 at *;clear h6 G6 F6 h8 G8 F8 h9 G9 F9 Ms g8 fr8 fr d1 d2;refine⟨_,Z,A.a,T.hold,A.dx,_,_,Z,zN.oa,X.cH,X.Er,Z,A.pu,Z,⟨_,aB.of zN.mR⟩,λl4 IB=>?_⟩;have ajz:st.b_.length<=100:=by rw[hh.wf.rD];exact hh.wf.kR
 refine iL (J:=vc K A.pu) (n:=(st.b_.map V.int).length) 0 (λi o H'=>aM K3 H'/\o=((st.b_.take i).map (·*(whole / sd))).map V.int) (by rw[aE];omega) ⟨aF IB _,Z⟩ (λi o H' hi _ hp=>⟨_,_,aB.of (hp.1 _ _ zN.mR),bq hi⟩) (λo H' _ hp=>⟨_,aB.of (hp.1 _ _ zN.mR),aQ _⟩) ?_ ?_
 .rintro i y o Ha Hb hi eW ha ⟨g,e⟩ ⟨rfl,hy⟩;obtain⟨c,rfl,ec⟩:=gG (hy _ (aB.of (g _ _ zN.mR)));refine⟨_,Z,_,Z,_,Z,_,_,Z,Z,Xg,_,_,Z,Z,jI (hpz c (bw ec)) wqz,ha,g.cA IB _,?_⟩;subst e;rw[take_snoc ec,bP,bP];rfl
 rintro o4 H11 ajA ab1 ⟨g11,e11⟩;rw[aE,cJ]at e11;subst e11;have h11:=zN.mono g11;have G11:=G10.same g11;have F11:=F10.trans (Fr.of_same (ρ:=bK ρ l3 (n,6,⟨#[]⟩)) g11);have c4:bK ρ l3 (n,6,⟨#[]⟩) l4=none:=G10.none IB;have n4:H l4=none:=agM l4 IB;refine⟨_,Z,A.a,T.hold,A.dx,_,Z,h11.oa,X.cH,X.Er,by show 7<1000;decide,?_⟩;obtain⟨h12,G12⟩:=Az (t:=7) h11 G11 c4 ab1 rfl;have F12:Fr n ρ H (bK (bK ρ l3 (n,6,⟨#[]⟩)) l4 (n,7,⟨#[]⟩)) H11:=F11.jy n4;have h13:=h12.S9 G12 l4 _ ab1 cV;have G13:=G12.wr (a:=A.a) (o:=.ins T.hold A.dx (j_ { { A with cm:=l3 }with pu:=l4 })) rfl;have F13:=F12.trans (Fr.write (o:=.ins T.hold A.dx (j_ { { A with cm:=l3 }with pu:=l4 })) h12.ca);rw[show br "purses" (V.ref l4) (j_ { A with cm:=l3 })=j_ { { A with cm:=l3 }with pu:=l4 }from rfl];generalize upd H11 A.a (.ins T.hold A.dx (j_ { { A with cm:=l3 }with pu:=l4 }))=H13 at *;refine⟨_,Z,A.a,T.hold,A.dx,_,_,Z,h13.oa,X.cH,X.Ar,Z,A.bt,A.db,_,Z,h13.mz,Z,_,Z,_,Z,_,_,Z,Z,Xg,?_⟩;refine⟨⟨n,_,{ { A with cm:=l3 }with pu:=l4 },{ st with ah:=st.ah.map (λp:Pt=>{ p with sc:=p.sc*kept / sd }),bU:=(gr st kept added).map (· / sd),b_:=st.b_.map (·*(whole / sd)) },whole / sd,Z,G13,h13,by show st.stp.length<=1000;omega,hh.wf.big.mono (by decide),wqz.mono (by decide),λρ' A' H' a1 a2 a3 a4=>?_⟩⟩;have eb:bF st kept whole added=fK { st with ah:=st.ah.map (λp:Pt=>{ p with sc:=p.sc*kept / sd }),bU:=(gr st kept added).map (· / sd),b_:=st.b_.map (·*(whole / sd)) } (whole / sd):=by unfold bF;rw[Xf]
 rw[eb]at wf' q;exact q ρ' A' H' ⟨a1,a2,wf'⟩ a3 (F13.trans a4)
abbrev vQ:Stmt:=inClass (top 21) 3
abbrev sR:List Str:=["self","rows"]
abbrev NY:List Str:=sR.append ["amounts","name","amount","whole","lost"]
theorem iP:aR NY sR (aD vQ):=dF
theorem Mt{T:TC}(F:jq K T.hold "cast" "Hold.cast" vQ f fd)(X:Txt K T)(vR:Dn P w K mg base 1 "amounts_of" qC (Tn K))(m9:Dn P w K mg base 2 "check_loss" m7 W4)(cR:Mn P w K mg base 1 T.hold "part_of" fm (CZ T))(ia:Mn P w K mg base 1 T.hold "whole" kH (BV T))(kK:Mn P w K mg base 3 T.hold "blend" m8 (Gm T K))(qH:Mn P w K mg base 1 T.hold "given_up" mF (Py T))(jL:Mn P w K mg base 1 T.hold "lessen" lG (Ls T))(g_:mg "sum"=none):Mn P w K mg base 4 T.hold "cast" sR (Tq T K):=by
 refine F.oA iP λcdv A outer s H vs Q E hr h=>?_;obtain⟨⟨n,ρ,A,st,l,us,rs,rfl,hh,hl,hR,ok,q⟩⟩:=h;have wf:=hh.wf;have nd:=ok.nd;refine⟨_,(@cY.h _ _ _ (aj (aX (i:=2) iP.nd (bB vR hr (af (qv 1) ak)))
  (aj (x_ (eX fC rfl (C_ (qv 2)) (iT K (n:=2) rfl (cN (aT (i:=3) iP.nd) (cN (aT (i:=4) iP.nd) iR))) (aq (b9 (bB m9 hr (af (aP K (cE cR hr (qv 0) (af (qv 3) ak))) (af (qv 4) ak)))))))
  (aj (aX (i:=5) iP.nd (u0 ia hr (qv 0)))
  (aj (aX (i:=6) iP.nd (aJ (HL rfl) (by rfl) g_ yj (af (Gr (qv 2)) ak)))
  (aj (bZ (aN JZ (qv 6) (qv 5) (aU _)) (aq gF) bf)
  (aj (b9 (cE kK hr (qv 0) (af (aI jQ (qv 5) (qv 6)) (af (qv 5) (af (cE qH hr (qv 0) (af (qv 2) ak)) ak)))))
  (aq (x_ (eX fC rfl (C_ (qv 2)) (iT K (n:=2) rfl (cN (aT (i:=3) iP.nd) (cN (aT (i:=4) iP.nd) iR))) (aq (b9 (cE jL hr (qv 0) (af (qv 3) (af (qv 4) ak))))))))))))))),?_⟩
 refine⟨_,Z,⟨⟨l,us,rs,Z,hl,hR,nd,ok.ne,ok.len,λd H1 g1 hdn hd1=>?_⟩⟩⟩;have gE:=hh.mono g1;have F1:Fr n ρ H ρ H1:=Fr.of_same g1;have cd:ρ d=none:=hh.g.none hdn;have al:=yQ rs;refine⟨d,_,hd1,λob=>⟨_,Z,d,ob,_,Z,ao,?_⟩⟩;refine vn (n:=(iN rs).length) (λi σ H'=>aM (upd H1 d (.fZ ob (.dK (iN rs)))) H'/\∃s3 s4 s5 s6,σ=[some (.ref A.a),some (.ref l),some (.ref d),s3,s4,s5,s6])
  ⟨aM.refl _,_,_,_,_,Z⟩ (λi σ H' hi hp=>⟨hp.1 _ _ ao,hi⟩) (λσ H' hp=>⟨hp.1 _ _ ao,aQ _⟩) ?_ ?_
 .rintro i x σ H3 H4 hi ⟨g,s3,s4,s5,s6,rfl⟩ ⟨pp,kv,hpp,hkv,rfl,rfl⟩;unfold iN at hkv;rw[bO]at hkv;obtain⟨r,er,rfl⟩:=lQ.mp hkv;have hrm:=bw er;obtain⟨r1,zr,p,fT,E2,hle⟩:=ok.row r hrm;obtain⟨ip,zP,Um⟩:=oV fT;have ep:st.ah[ip]?=some p:=by rw[bq zP,Um]
  have g4:=aF hpp (.tup [.str r.1,.int r.2]);have gg:=g.trans g4;have hf:HH T n ρ A (upd H1 d (.fZ ob (.dK (iN rs)))) st:=gE.Eu cd hd1 rfl rfl;have h4:=hf.mono gg;have Mm:upd H3 pp (.tup [.str r.1,.int r.2]) pp=some (.tup [.str r.1,.int r.2]):=ao;show CQ K 2 _ _ _ (upd H3 pp (.tup [.str r.1,.int r.2])) _;generalize upd H3 pp (.tup [.str r.1,.int r.2])=H4 at *;obtain⟨qq,eq,k1,k2,_,_⟩:=h4.h.find ep;refine⟨pp,_,Z,cS.of Mm,Z,_,_,Z,_,_,Z,Z,?_⟩;refine⟨_,Z,A.a,A.dx,_,Z,h4.h.oa,Z,_,Z,⟨⟨n,ρ,A,st,ip,p,qq,by rw[<-E2];rfl,h4.h,wf.fB,ep,eq,?_⟩⟩⟩;refine⟨qq.1,T.part,qq.2.1,_,_,Z,k1,X.cP,X.wO,Z,_,Z,⟨⟨p.wo,r.2,Z,r1,hle,?_⟩⟩⟩;exact⟨gg,_,_,_,_,Z⟩
 rintro σ H2 ⟨g2,s3,s4,s5,s6,rfl⟩;refine⟨g2 _ _ ao,?_⟩;have gB:=vz hd1 g2;have kJ:=gE.mono gB;have F2:Fr n ρ H ρ (upd H2 d (.dK (iN rs))):=F1.trans (Fr.of_same gB);have hd2:upd H2 d (.dK (iN rs)) d=some (.dK (iN rs)):=ao;generalize upd H2 d (.dK (iN rs))=H2' at *;refine⟨_,Z,A.a,A.dx,_,Z,kJ.h.oa,Z,⟨⟨n,ρ,A,st,Z,kJ.h,wf.rE,λH3 g3=>?_⟩⟩⟩;have j0:=kJ.mono g3;have Xi:=g3 _ _ hd2;have F3:=F2.trans (Fr.of_same (ρ:=ρ) g3);refine⟨_,Z,d,_,Z,.inl Xi,λv hv=>⟨v,d,_,rs.map (·.2),Z,ao,.inl (by rw[az (aG Xi hv)];exact Xi),by unfold iN;rw[d7,d7];rfl,?_⟩⟩;have g4:=aF hv (mq v d);have oj:=j0.mono g4;have hd4:=g4 _ _ Xi;have F4:=F3.trans (Fr.of_same (ρ:=ρ) g4);generalize upd H3 v (mq v d)=H4 at *;have bo:=ok.blend wf;refine⟨_,Z,_,Z,_,_,Z,Z,_,Z,cD (λc=>absurd (dY c) (by have:=ok.lost;show ¬ aH st<=bJ rs;omega)) λ_=>?_⟩;refine⟨_,Z,A.a,A.dx,_,Z,oj.h.oa,Z,_,Z,_,Z,_,_,Z,Z,_,Z,_,Z,A.a,A.dx,_,Z,oj.h.oa,Z,_,Z,⟨⟨n,ρ,A,st,d,rs,Z,oj.h,wf,hd4,cd,ok.len,λr hr=>⟨(ok.row r hr).2.1,by obtain⟨p,hp,e,_⟩:=(ok.row r hr).2.2;exact⟨p,hp,e⟩⟩,λl5 H5 g5 hn5 hl5=>?_⟩⟩⟩;have xj:=oj.mono g5;have hd5:=g5 _ _ hd4;have F5:=F4.trans (Fr.of_same (ρ:=ρ) g5);have zk:Jm.Sz 60 (aH st-bJ rs):=bo.big.of_le (by have:=bo.k;have:=bo.l;omega);have zG:∀m∈gH st rs,0<=m/\Jm.Sz 8900 m:=λm hm=>by have h1:=bo.add m hm;have h2:=wf.gC;have zl:Jm.Sz 60 (bJ rs):=bo.big.of_le (by have:=bo.k;have:=bo.l;omega);exact⟨h1.1,Jm.Sz.nW (by have:=lZ bo.l (show 0<=st.prod by omega);omega) h1.2 ((zl.mul bo.prod).mono (by decide))⟩
 refine⟨⟨n,ρ,A,st,aH st-bJ rs,aH st,l5,gH st rs,Z,xj,aB.of hl5,bo.len,bo.k,by have:=bo.k;have:=bo.l;omega,zk,bo.big,zG,ok.b_,ok.stp,yS wf bo,λρ6 A6 H6 uI e6 f6=>?_⟩⟩;obtain⟨hd6,cd6⟩:=f6 d _ hd5 (λt x=>by rw[cd];intro z;cases z);rw[cd]at cd6;have F6:=F5.trans f6;refine⟨d,_,hd6,λUp=>⟨_,Z,d,Up,_,Z,ao,?_⟩⟩;generalize eB:bF st (aH st-bJ rs) (aH st) (gH st rs)=Qi at *;have agN:Due Qi rs:=by rw[<-eB];exact H_ ok.due
 have adT:i_ st rs=rs.foldl eF Qi:=by unfold i_;rw[eB]
 refine vn (n:=(iN rs).length) (λi σ H'=>∃ρ' A',HH T n ρ' A' H' ((rs.take i).foldl eF Qi)/\A'.a=A.a/\H' d=some (.fZ Up (.dK (iN rs)))/\ρ' d=none/\Fr n ρ H ρ' H'/\Due ((rs.take i).foldl eF Qi) (rs.drop i)/\∃s3 s4 s5 s6,σ=[some (.ref A.a),some (.ref l),some (.ref d),s3,s4,s5,s6])
  ⟨ρ6,A6,uI.Eu cd6 hd6 rfl rfl,e6,ao,cd6,F6.new hdn,agN,_,_,_,_,Z⟩ (λi σ H' hi hp=>by obtain⟨_,_,_,_,e,_⟩:=hp;exact⟨e,hi⟩) (λσ H' hp=>by obtain⟨_,_,_,_,e,_⟩:=hp;exact⟨e,aQ _⟩) ?_ ?_
 .rintro i x σ H7 H8 hi ⟨ρ7,A7,zQ,e7,Xj,Xk,F7,due,s3,s4,s5,s6,rfl⟩ ⟨pp,kv,hpp,hkv,rfl,rfl⟩;unfold iN at hkv;rw[bO]at hkv;obtain⟨r,er,rfl⟩:=lQ.mp hkv;have hir:i<rs.length:=by rw[<-al];exact hi
  have edr:rs.drop i=r::rs.drop (i+1):=by rw[Qv hir];rw[bq hir]at er;rw[gJ er]
  rw[edr]at due;have g4:=aF hpp (.tup [.str r.1,.int r.2]);have Qj:=zQ.mono g4;have hd8:=g4 _ _ Xj;have F8:=F7.trans (Fr.of_same (ρ:=ρ7) g4);have Mm:upd H7 pp (.tup [.str r.1,.int r.2]) pp=some (.tup [.str r.1,.int r.2]):=ao;show CQ K 2 _ _ _ (upd H7 pp (.tup [.str r.1,.int r.2])) _;generalize upd H7 pp (.tup [.str r.1,.int r.2])=H8 at *;refine⟨pp,_,Z,cS.of Mm,Z,_,_,Z,_,_,Z,Z,?_⟩;have eN:(rs.take (i+1)).foldl eF Qi=eF ((rs.take i).foldl eF Qi) r:=by rw[take_snoc er,Km];rfl
  have ndr:((r::rs.drop (i+1)).map (λr:Row=>r.1)).Nodup:=by rw[<-edr,List.map_drop];exact nd.sublist (List.drop_sublist _ _)
  refine⟨_,Z,A.a,A7.dx,_,Z,by rw[<-e7];exact Qj.h.oa,Z,_,Z,_,Z,⟨⟨n,ρ7,A7,_,r,by rw[e7];rfl,Qj,due r cT,Tt zQ.wf due,λρ9 A9 H9 Xl e9 f9=>?_⟩⟩⟩;obtain⟨hd9,cd9⟩:=f9 d _ hd8 (λt x=>by rw[Xk];intro z;cases z);rw[Xk]at cd9;rw[<-eN]at Xl;exact⟨ρ9,A9,Xl,e9.trans e7,hd9,cd9,F8.trans f9,by rw[eN];exact Lx zQ.wf due ndr,_,_,_,_,Z⟩
 rintro σ H7 ⟨ρ7,A7,zQ,e7,Xj,Xk,F7,due,s3,s4,s5,s6,rfl⟩;rw[al,cJ,<-adT]at zQ;exact⟨Xj,q ρ7 A7 _ (zQ.Eu Xk Xj rfl rfl) e7 (F7.new hdn)⟩
abbrev rW:Stmt:=inClass (top 4) 2
abbrev oN:List Str:=["self","top"]
abbrev I_:List Str:=oN.append ["rest","step","shared"]
theorem jk:aR I_ oN (aD rW):=dF
theorem GJ{T:TC}(F:jq K T.bot "over" "Bottom.over" rW f fd)(X:Txt K T)(iU:Dn P w K mg base 1 "common_factor" jZ Vu):Mn P w K mg base 2 T.bot "over" oN (Po T):=by
 refine F.oA jk λcdv A outer s H vs Q E hr h=>?_;obtain⟨⟨bt,db,sp,kn,stp,prod,top,rfl,hb,hs,ep,h2,hz,q⟩⟩:=h;refine⟨_,(@cY.h _ _ _ (aj (aX (i:=2) jk.nd (aP K (qv 0)))
  (aj (eX fC rfl (dO K (aP K (qv 0))) (aT (i:=3) jk.nd) (aj (aX (i:=4) jk.nd (bB iU hr (af (qv 3) (af (aI kr (qv 1) (qv 3)) ak))))
  (aq (iz (aN jE (qv 4) ai (aU _)) (aj (aX (i:=1) jk.nd (aI iC (qv 1) (qv 4)))
  (aq (aX (i:=2) jk.nd (aI iC (qv 2) (qv 4))))) bf))))
  (aq (aY (gx (af (qv 1) (af (qv 2) ak)))))))),?_⟩
 have p1:1<=prod:=by rw[ep];exact Lq h2
 refine⟨_,Z,bt,T.bot,db,_,_,Z,hb,X.cB,X.Pg,Z,?_⟩;refine⟨_,Z,bt,T.bot,db,_,_,Z,hb,X.cB,X.bst,Z,sp,Z,⟨_,aB.of hs⟩,?_⟩;refine kQ (K:=K) (xs:=stp.map V.int) (λi σ H'=>H'=H/\∃(t r d:Int)(s3 s4:Option V),σ=[some (.ref bt),some (.int t),some (.int r),s3,s4]/\t*prod=top*r/\r=d*(stp.drop i).foldl (·*·) 1/\0<d/\Jm.cf t d=1)
  ⟨Z,top,prod,1,none,none,Z,Z,by rw[List.drop_zero,Int.one_mul];exact ep,by decide,by unfold Jm.cf;rw[Int.gcd_one];rfl⟩ (λi σ H' _ hp=>by rw[hp.1];exact aB.of hs) ?_ ?_
 .rintro i x σ H' hx ⟨rfl,t,r,d,s3,s4,rfl,e1,e2,d0,c⟩;obtain⟨st,rfl,es⟩:=gG hx;have hm:=bw es;have s2:=h2 st hm;have hi:=(di.mp es).1;have hdr:stp.drop i=st::stp.drop (i+1):=by rw[Qv hi];congr 1;rw[bq hi]at es;exact gJ es
  rw[hdr,Gk]at e2;have r0:0<=t % st:=oz _ (by omega);refine⟨_,Z,_,Z,_,Z,_,_,Z,Z,(by show 0<st;omega),st,t % st,Z,by omega,r0,?_⟩;rw[Jm.FZ t st (by omega)];obtain⟨o1,o2⟩:=Tg d0 (by omega:0<st) c;have gp:0<Jm.cf t st:=Jm.D6 t st (.inr (by omega));have gz:Jm.Sz 9000 (Jm.cf t st):=((hz.of_le (by have:=W2 h2 hm;rw[<-ep]at this;omega)).dvd (by omega:0<st) (by omega) (Jm.qf t st)).mono (by decide);obtain⟨u,hu⟩:=Jm.sJ t st;obtain⟨v,hv⟩:=Jm.qf t st;have e3:t / Jm.cf t st*prod=top*(r / Jm.cf t st):=by
   have a1:t / Jm.cf t st=u:=by rw[WA (by omega) hu]
   have a2:r=Jm.cf t st*(d*v*(stp.drop (i+1)).foldl (·*·) 1):=by
    rw[e2]
    conv=>lhs;rw[hv]
    rw[jC (Jm.cf t st),Int.mul_left_comm,jC d]
   have a3:r / Jm.cf t st=d*v*(stp.drop (i+1)).foldl (·*·) 1:=by rw[WA (by omega) a2]
   rw[a1,a3];have qw:Jm.cf t st*(u*prod)=Jm.cf t st*(top*(d*v*(stp.drop (i+1)).foldl (·*·) 1)):=by
    rw[<-jC,<-hu,e1]
    conv=>lhs;rw[a2]
    rw[Int.mul_left_comm]
   exact Int.eq_of_mul_eq_mul_left (by omega) qw
  have e4:r / Jm.cf t st=d*(st / Jm.cf t st)*(stp.drop (i+1)).foldl (·*·) 1:=by
   have a4:st / Jm.cf t st=v:=by rw[WA (by omega) hv]
   have a2:r=Jm.cf t st*(d*v*(stp.drop (i+1)).foldl (·*·) 1):=by
    rw[e2]
    conv=>lhs;rw[hv]
    rw[jC (Jm.cf t st),Int.mul_left_comm,jC d]
   rw[a4,WA (by omega) a2]
  refine⟨λσ' H2=>H2=H'/\σ'=[some (.ref bt),some (.int (t / Jm.cf t st)),some (.int (r / Jm.cf t st)),some (.int st),some (.int (Jm.cf t st))],?_,?_⟩
  .refine ⟨_,Z,_,_,Z,Z,_,Z,cD (λc=>?_) (λc=>?_)⟩
   .exact ⟨_,Z,_,Z,_,_,Z,Z,vj gp gz,_,Z,_,Z,_,_,Z,Z,vj gp gz,Z,Z⟩
   .have c':¬ 1<Jm.cf t st:=oW (nM.mpr c);have g1:Jm.cf t st=1:=by omega
    refine⟨Z,?_⟩;rw[g1,DP,DP];rfl
  rintro σ' H2 ⟨rfl,rfl⟩;exact⟨Z,_,_,_,_,_,Z,e3,e4,o2,o1⟩
 rintro σ H' ⟨rfl,t,r,d,s3,s4,rfl,e1,e2,d0,c⟩;rw[List.drop_of_length_le (by rw[aE];exact aQ _),List.foldl_nil,BB]at e2;subst e2;refine⟨_,Z,_,Z,(iy 2),λp hp=>?_⟩;refine q p _ (aF hp _) ?_;rw[ao];obtain⟨a1,a2⟩:=Jm.SA d0 c;have:Jm.fr top prod=Jm.fr t r:=Jm.WR (by omega) d0 e1.symm;unfold qg;rw[this,a1,a2]
abbrev qI:Stmt:=inClass (top 4) 3
abbrev nK:List Str:=["self","top"]
abbrev GK:List Str:=nK
theorem E3:aR GK nK (aD qI):=dF
theorem E4{T:TC}(F:jq K T.bot "share" "Bottom.share" qI f fd)(X:Txt K T)(uu:Mn P w K mg base 2 T.bot "over" oN (Po T)):Mn P w K mg base 3 T.bot "share" nK (Lj T):=by
 refine F.oA E3 λcdv A outer s H vs Q E hr h=>?_;obtain⟨⟨bt,db,sp,kn,stp,prod,top,kvs,rfl,hb,hs,ep,h2,hz,hk,kat,kl,knd,q⟩⟩:=h;refine⟨_,(@cY.h _ _ _ (aj (iz (x9 (AM (bV hr) (qv 1) (aP K (qv 0)))) (aq (pY (bV hr) (aP K (qv 0)) (qv 1) (cE uu hr (qv 0) (af (qv 1) ak)) rfl)) bf)
  (aq (aY (bM (bV hr) (aP K (qv 0)) (qv 1)))))),?_⟩
 refine⟨λσ' H'=>σ'=[some (.ref bt),some (.int top)]/\(∀b o,H b=some o->b≠kn->H' b=some o)/\∃kvs' r,H' kn=some (.dK kvs')/\Lb H' kvs' prod/\kvs'.length<=kvs.length+1/\(kvs'.map (·.1)).Nodup/\eE kvs' (Sum.inl top)=some (.ref r)/\H' r=some (qg (Jm.fr top prod)),?_,?_⟩
 .refine ⟨_,Z,_,Z,bt,T.bot,db,_,_,Z,hb,X.cB,X.Td,Z,kn,_,Z,cC.k (k:=Sum.inl top) hk,_,Z,?_⟩;cases e:eE kvs (Sum.inl top)with
  | some v=>refine aL ⟨Z,λb o e _=>e,kvs,?_⟩;obtain⟨t,r,e2,hr2⟩:=kat _ (VN e);cases e2;exact⟨r,hk,kat,Nat.le_succ _,knd,e,hr2⟩
  | none=>
   refine lR ?_;refine⟨_,Z,bt,db,_,Z,hb,Z,_,Z,⟨⟨bt,db,sp,kn,stp,prod,top,Z,hb,hs,ep,h2,hz,λr H1 g1 hr1=>?_⟩⟩⟩;have sl:kvs.length<sizeLine:=by rw[l9];omega
   refine⟨_,Z,bt,T.bot,db,_,_,Z,g1 _ _ hb,X.cB,X.Td,Z,_,Z,kn,_,Z,tZ.k (k:=Sum.inl top) (g1 _ _ hk) sl,Z,λb o e hb=>by rw[az hb];exact g1 _ _ e,_,r,ao,?_,?_,X6 _ knd e,by rw[Vj,av rfl],by rw[az (jD hr1 (g1 _ _ hk) (by intro z;cases z))];exact hr1⟩
   .rw [oX _ e];intro p hp;rcases dD.mp hp with z|z
    .obtain ⟨t,r',e2,hr2⟩:=kat p z;exact⟨t,r',e2,by rw[az (jD (g1 _ _ hr2) (g1 _ _ hk) (by intro z;cases z))];exact g1 _ _ hr2⟩
    .rw [dj.mp z];exact⟨top,r,Z,by rw[az (jD hr1 (g1 _ _ hk) (by intro z;cases z))];exact hr1⟩
   .rw [oX _ e,cZ];exact aQ _
 rintro σ' H' ⟨rfl,k1,kvs',r,e1,e2,e3,e4,e5,e6⟩;exact⟨_,Z,bt,T.bot,db,_,_,Z,k1 _ _ hb (jD hb hk (by intro z;cases z)),X.cB,X.Td,Z,_,Z,kn,_,Z,e5▸cC.k (k:=Sum.inl top) e1,q r H' kvs' k1 e1 e2 e3 e4 e6⟩
abbrev rX:Stmt:=inClass (top 21) 12
abbrev lH:List Str:=["self","part"]
abbrev Ja:List Str:=lH.append ["tops"]
theorem yf:aR Ja lH (aD rX):=dF
theorem GL{T:TC}(F:jq K T.hold "shares" "Hold.shares" rX f fd)(X:Txt K T)(cR:Mn P w K mg base 1 T.hold "part_of" fm (CZ T))(fY:Mn P w K mg base 1 T.hold "tops_of" jj (BR T))(rY:Mn P w K mg base 3 T.bot "share" nK (Lj T))(jc:mg "zip"=none):Mn P w K mg base 4 T.hold "shares" lH (ze T):=by
 refine F.oA yf λcdv A outer s H vs Q E hr h=>?_;obtain⟨⟨n,ρ,A,st,ip,pt,rfl,hh,ep,hkn,q⟩⟩:=h;obtain⟨qq,eq,k1,k2,k3,k4⟩:=hh.h.find ep;have fT:=bw ep;refine⟨_,(@cY.h _ _ _ (aj (aX (i:=2) yf.nd (cE fY hr (qv 0) (af (cE cR hr (qv 0) (af (qv 1) ak)) ak)))
  (aq (aY (LJ (C9 ["owner","top","self"] [none,none,some 0] rfl (rL K (by rfl) jc (af (aP K (qv 0)) (af (qv 2) ak))) (λ_ _ _ _=>(iT K (n:=2) rfl (cN (aT (i:=0) (show List.Nodup (["owner","top","self"] :List Str)from by decide +kernel)) (cN (aT (i:=1) (show List.Nodup (["owner","top","self"] :List Str)from by decide +kernel)) iR)))) (λ_ _ _ _=>(gx (af (qv 0) (af (cE rY hr (aP K (qv 2)) (af (qv 1) ak)) ak)))) (λ_ _ _ _=>(aN jE (qv 1) ai (aU _))) rfl (by rfl))))))),?_⟩
 refine⟨_,Z,A.a,A.dx,_,Z,hh.h.oa,Z,_,Z,A.a,A.dx,_,Z,hh.h.oa,Z,_,Z,⟨⟨n,ρ,A,st,ip,pt,qq,Z,hh.h,hh.wf.fB,ep,eq,?_⟩⟩⟩;refine⟨⟨n,ρ,A,st,ip,pt,qq,Z,hh.h,hh.wf,ep,eq,λl H1 g1 hl hl1=>?_⟩⟩;have gE:=hh.mono g1;have cl:ρ l=none:=hh.g.none hl;have tl:(aV st pt).length=st.own.length:=by unfold aV;rw[kq,hh.wf.rows pt fT,hh.wf.gc,yw]
 have eW:=hh.wf.kR;refine⟨A.pl,_,gE.h.iW,λob=>?_⟩;have hl2:upd H1 A.pl (.fZ ob (.dK (gq 0 st.own))) l=some (.lst ((aV st pt).map V.int)):=fQ gE.h.iW hl1 (λk z=>by cases z);refine⟨_,Z,A.a,T.hold,A.dx,_,_,Z,fQ gE.h.iW gE.h.oa (λk z=>by cases z),X.cH,X.hpl,Z,_,Z,_,_,_,_,_,_,Z,.keys ao,.lst (aB.of hl2),λacc hacc=>?_⟩;have xm:H1 acc=none:=o_ gE.h.iW hacc;have ca:ρ acc=none:=gE.g.none xm;have Qk:acc≠A.pl:=λe=>by rw[e,ao]at hacc;cases hacc
 have nal:acc≠l:=λe=>by rw[e,hl1]at xm;cases xm
 refine Yo (K:=K) (n:=st.own.length) [0,1] (λi out Hc=>∃H5,Hc=upd H5 A.pl (.fZ ob (.dK (gq 0 st.own)))/\Gh ρ H5/\Fr n ρ H ρ H5/\aW T n ρ A H5 { st with kn:=st.kn+i }/\H5 l=some (.lst ((aV st pt).map V.int))/\iM H5 out (((List.zip st.own (aV st pt)).take i).filterMap λx=>if 0<x.2 then some (x.1,Jm.fr x.2 st.prod) else none))
  (by decide) (by omega) ⟨upd H1 acc (.lst []),kT (cu Qk),gE.g.alloc xm,(Fr.of_same (ρ:=ρ) g1).trans (Fr.of_same (aF xm _)),gE.h.mono (aF xm _),by rw[az (cu nal)];exact hl1,.nil⟩ ?_ ?_ ?_ ?_
 .rintro i out Hc hi ha ⟨H5,rfl,G5,F5,h5,l5,S5⟩;exact⟨ao,aB.of (fQ h5.iW l5 (λk z=>by cases z)),by rw[aE,qp];exact hi,by rw[aE,tl];exact hi⟩
 .rintro out Hc ha ⟨H5,rfl,G5,F5,h5,l5,S5⟩;exact⟨ao,aB.of (fQ h5.iW l5 (λk z=>by cases z)),.inr (by rw[aE,tl];exact aQ _)⟩
 .rintro i x out Hc H2 hi GH ha ⟨H5,rfl,G5,F5,h5,l5,S5⟩ ⟨pp,x1,y1,hpp,rfl,rfl,e1,e2⟩;obtain⟨t,rfl,et⟩:=gG e2;rw[CY,bO]at e1;obtain⟨o,eo,rfl⟩:=lQ.mp e1;have npl:pp≠A.pl:=λe=>by rw[e,ao]at hpp;cases hpp
  have agO:H5 pp=none:=o_ h5.iW hpp;have ez:(List.zip st.own (aV st pt))[i]?=some (o,t):=by rw[List.getElem?_zip_eq_some];exact⟨eo,et⟩
  have g6:=aF agO (.tup [.str o,.int t]);have e6:upd (upd H5 A.pl (.fZ ob (.dK (gq 0 st.own)))) pp (.tup [.str o,.int t])=upd (upd H5 pp (.tup [.str o,.int t])) A.pl (.fZ ob (.dK (gq 0 st.own))):=kT (cu npl);rw[e6];have G6:=G5.same g6;have F6:=F5.trans (Fr.of_same (ρ:=ρ) g6);have h6:=h5.mono g6;have l6:=g6 _ _ l5;have S6:=S5.mono g6.tups;have t6:upd H5 pp (.tup [.str o,.int t]) pp=some (.tup [.str o,.int t]):=ao;have yg:upd H5 pp (.tup [.str o,.int t]) acc=some (.lst out):=by rw[az Qk]at ha;exact g6 _ _ ha
  generalize upd H5 pp (.tup [.str o,.int t])=H6 at *;have fz:∀{b:Addr}{u:HO},H6 b=some u->(∀k,u ≠ .dK k)->upd H6 A.pl (.fZ ob (.dK (gq 0 st.own))) b=some u:=λe k=>fQ h6.iW e k;refine⟨pp,_,Z,cS.of (fz t6 (λk z=>by cases z)),Z,_,Z,_,_,Z,Z,_,Z,?_⟩;refine cD (λc=>?_) (λc=>?_)
  .have c':0<t:=dY c;obtain⟨kvs,j1,j2,j3,j4⟩:=h6.okn;have Xm:A.kn≠A.pl:=Eo h6.jx h6.je (by intro z;cases z);refine⟨_,Z,_,Z,A.a,T.hold,A.dx,_,_,Z,fz h6.oa (λk z=>by cases z),X.cH,X.Ar,Z,A.bt,A.db,_,Z,fz h6.mz (λk z=>by cases z),Z,_,Z,
    ⟨⟨A.bt,A.db,A.sp,A.kn,st.stp,st.prod,t,kvs,Z,fz h6.mz (λk z=>by cases z),fz h6.qY (λk z=>by cases z),hh.wf.sM,hh.wf.xC,hh.wf.big,by rw[az Xm];exact j1,(λp hp=>let⟨t,r,e,w⟩:=j2 p hp;⟨t,r,e,fz w (λk z=>by cases z)⟩),FN j3 (by show st.kn+i<_;omega),j4,λr H7 kvs' b1 b2 b3 b4 b5 b6=>?_⟩⟩⟩
   have Xn:H7 A.pl=some (.fZ ob (.dK (gq 0 st.own))):=b1 _ _ ao (cu Xm);refine⟨(iy 2),λtt Xo=>?_⟩;have ntp:tt≠A.pl:=λe=>by rw[e,Xn]at Xo;cases Xo
   have k8:∀b u,H6 b=some u->b≠A.kn->upd H7 A.pl (.dK (gq 0 st.own)) b=some u:=λb u e hb=>by
    by_cases z:b=A.pl
    .rw [z]at e ⊢;rw[show H6 A.pl=some (.dK (gq 0 st.own))from h6.iW]at e;cases e;exact ao
    .rw [az z];exact b1 _ _ (by rw[az z];exact e) hb
   have h8:=h6.VO (m:=st.kn+i+1) k8 (by rw[az Xm];exact b2) (λp hp=>let⟨t,r,e,w⟩:=b3 p hp;⟨t,r,e,jJ (.inr ⟨_,Xn,Z⟩) _ _ w⟩) (fD b4 (Nat.succ_le_succ j3)) b5;have G8:Gh ρ (upd H7 A.pl (.dK (gq 0 st.own))):=λb cc e=>by
    by_cases z:b=A.pl
    .rw [z];exact⟨_,ao,Z⟩
    by_cases z2:b=A.kn
    .rw [z2,az Xm];exact⟨_,b2,Z⟩
    obtain⟨u,a1,a2⟩:=G6 b cc e;exact⟨u,k8 b u a1 z2,a2⟩
   have F8:Fr n ρ H6 ρ (upd H7 A.pl (.dK (gq 0 st.own))):=λb u e k=>⟨k8 b u e (λz=>k 9 ⟨#[]⟩ (by rw[z];exact h6.jx)),Z⟩
   have tp8:∀b xs,H6 b=some (.tup xs)->upd H7 A.pl (.dK (gq 0 st.own)) b=some (.tup xs):=λb xs e=>k8 b _ e (jD e j1 (by intro z;cases z));have agP:upd H7 A.pl (.dK (gq 0 st.own)) tt=none:=by rw[az ntp];exact Xo
   have back:H7=upd (upd H7 A.pl (.dK (gq 0 st.own))) A.pl (.fZ ob (.dK (gq 0 st.own))):=by rw[pR,yP Xn]
   have hr8:upd H7 A.pl (.dK (gq 0 st.own)) r=some (qg (Jm.fr t st.prod)):=jJ (.inr ⟨_,Xn,Z⟩) _ _ b6;have l8:=k8 _ _ l6 (λz=>by rw[z,j1]at l6;cases l6);have Ms:=k8 _ _ yg (λz=>by rw[z,j1]at yg;cases yg);have S8:=S6.mono tp8;have F08:=F6.trans F8;rw[back]at Xo ⊢;generalize upd H7 A.pl (.dK (gq 0 st.own))=H8 at *;have g9:=aF agP (.tup [.str o,.ref r]);rw[kT (cu ntp)];refine⟨by rw[az Qk];exact g9 _ _ Ms,_,kT (cu Qk),(G8.same g9).wr rfl,(F08.trans (Fr.of_same (ρ:=ρ) g9)).new (g1.free xm),?_,?_,?_⟩
   .exact (h8.mono g9).same (Lm ca (g9 _ _ Ms) rfl)
   .rw [az (cu nal)];exact g9 _ _ l8
   .rw [take_snoc ez,List.filterMap_append,z8];simp only[c',if_true,List.filterMap_nil];exact((S8.mono g9.tups).snoc ao (g9 _ _ hr8)).mono (jJ (.inr ⟨_,g9 _ _ Ms,Z⟩))
  .have c':¬ 0<t:=oW (nM.mpr c);refine⟨by rw[az Qk];exact yg,H6,Z,G6,F6,?_,l6,?_⟩
   .obtain ⟨kvs,j1,j2,j3,j4⟩:=h6.okn;exact h6.VO (m:=st.kn+i+1) (λb u e _=>e) j1 j2 (Nat.le_succ_of_le j3) j4
   .rw [take_snoc ez,List.filterMap_append,z8];simp only[c',qa,List.filterMap_nil,sf];exact S6
 .rintro out Hc GH ha ⟨H5,rfl,G5,F5,h5,l5,S5⟩;rw[Ka (by rw[List.length_zip,tl];omega)]at S5;refine⟨ao,?_⟩;rw[pR,yP (show H5 A.pl=some (.dK (gq 0 st.own))from h5.iW)];rw[az Qk]at ha;obtain⟨kvs,j1,j2,j3,j4⟩:=h5.okn;have h9:=h5.VO (m:=st.kn+100) (λb u e _=>e) j1 j2 (fD j3 (by show st.kn+st.own.length<=st.kn+100;omega)) j4;exact q acc out H5 ⟨G5,h9,adw hh.wf hkn⟩ F5 (g1.free xm) ha ca S5
abbrev rZ:Stmt:=inClass (top 21) 17
abbrev oO:List Str:=["self"]
abbrev Jb:List Str:=oO
theorem GN:aR Jb oO (aD rZ):=dF
theorem GO{T:TC}(F:jq K T.hold "landed" "Hold.landed" rZ f fd)(X:Txt K T)(dI:mg "list"=none):Mn P w K mg base 1 T.hold "landed" oO (Lk T):=by
 refine F.oA GN λcdv A outer s H vs Q E hr h=>?_;obtain⟨⟨n,ρ,A,st,rfl,hh,q⟩⟩:=h;obtain⟨ws,hw,hA⟩:=hh.h.qX;have hl:=hA.length;have hal:=hh.wf.uc;refine⟨_,(@cY.h _ _ _ (aq (aY (ig ["name","owner","worth","shares"] [none,none,none,none] rfl (dO K (aP K (qv 0))) (λ_ _ _ _=>(iT K (n:=4) rfl (cN (aT (i:=0) (show List.Nodup (["name","owner","worth","shares"] :List Str)from by decide +kernel)) (cN (aT (i:=1) (show List.Nodup (["name","owner","worth","shares"] :List Str)from by decide +kernel)) (cN (aT (i:=2) (show List.Nodup (["name","owner","worth","shares"] :List Str)from by decide +kernel)) (cN (aT (i:=3) (show List.Nodup (["name","owner","worth","shares"] :List Str)from by decide +kernel)) iR)))))) (λ_ _ _ _=>(gx (af (qv 0) (af (qv 1) (af (qv 2) (af (kO (lD K) (by rfl) dI u7 (af (qv 3) ak)) ak)))))) rfl (by rfl))))),?_⟩;refine⟨_,Z,A.a,T.hold,A.dx,_,_,Z,hh.h.oa,X.cH,X.has,Z,A.as,Z,⟨_,aB.of hw⟩,λacc hacc=>?_⟩;refine xZ (K:=K) (n:=ws.length) [0,1,2,3] (λi out H1=>aM H H1/\kU acc ρ H1 out (st.c6.take i)) (by decide) (by omega) ⟨aF hacc _,.nil⟩ (λi out H1 hi _ hp=>⟨ws,_,aB.of (hp.1 _ _ hw),bq hi⟩) (λout H1 _ hp=>⟨ws,aB.of (hp.1 _ _ hw),aQ _⟩) ?_ ?_
 .rintro i x out H1 H2 hi eW ha ⟨g,hL⟩ ⟨rfl,hy⟩;have ex:=hy ws (aB.of (g _ _ hw));obtain⟨r,l,y,ss,rfl,ey,a1,a2,a3,a4⟩:=hA.get ex;refine⟨r,_,Z,cS.of (g _ _ a1),Z,_,Z,_,Z,_,Z,_,Z,l,ss,Z,.inl (aB.of (g _ _ a2)),λl2 hl2=>⟨(iy 4),λt ht=>?_⟩⟩;have g2:=aF hl2 (.lst ss);have g3:=aF ht (.tup [.str y.nm,.str y.ow,.int y.wo,.ref l2]);have hl3:upd H2 l2 (.lst ss) l2=some (.lst ss):=ao;have c2:ρ l2=none:=hh.g.none (g.free hl2);refine⟨(g2.trans g3) _ _ ha,((g.trans g2).trans g3).cA hacc _,?_⟩;rw[take_snoc ey];have n1:l2≠acc:=λe=>by rw[e,ha]at hl2;cases hl2
  exact((hL.mono (g2.trans g3)).snoc (x:=y) ao (g3 _ _ hl3) c2 n1 (a4.mono ((g.trans g2).trans g3).tups)).upd ((g2.trans g3) _ _ ha)
 rintro out H1 eW ha ⟨g,hL⟩;rw[hl,cJ]at hL;exact q acc out H1 g hacc ha hL.to
abbrev uw:Stmt:=inClass (top 21) 4
abbrev qJ:List Str:=["self","owner","amount"]
abbrev Mu:List Str:=qJ.append ["place","whole","added"]
theorem oQ:aR Mu qJ (aD uw):=dF
theorem GP{T:TC}{e:Ec}(F:jq K T.hold "award" "Hold.award" uw f fd)(X:Txt K T)(dX:Mn P w K mg base 1 T.hold "place_of" gZ (sN (yX T e)))(ji:Dn P w K mg base 1 "check_amount" jh (sN (AQ e)))(ia:Mn P w K mg base 1 T.hold "whole" kH (BV T))(kK:Mn P w K mg base 3 T.hold "blend" m8 (Gm T K))(bD:mg "len"=none):Mn P w K mg base 4 T.hold "award" qJ (sN (LP T e)):=by
 refine F.oA oQ λcdv A outer s H vs Q E hr h=>?_;obtain⟨⟨n,ρ,A,st,o,a,rfl,hh,aw,dq⟩⟩:=h;refine⟨_,(@cY.h _ _ _ (aj (aX (i:=3) oQ.nd (cE dX hr (qv 0) (af (qv 1) ak)))
  (aj (b9 (bB ji hr (af (qv 2) ak)))
  (aj (aX (i:=4) oQ.nd (u0 ia hr (qv 0)))
  (aj (bZ (aN JZ (qv 2) (qv 4) (aU _)) (aq gF) bf)
  (aj (aX (i:=5) oQ.nd (aI So (iO (af ai ak)) (aJ wL (by rfl) bD c5 (af (aP K (qv 0)) ak))))
  (aj (iY (aI iK (qv 2) (aP K (aP K (qv 0)))) (iZ (qv 5) (qv 3) set_list))
  (aq (b9 (cE kK hr (qv 0) (af (aI jQ (qv 4) (qv 2)) (af (qv 4) (af (qv 5) ak))))))))))))),?_⟩
 have wf:=hh.wf;refine⟨_,Z,A.a,A.dx,_,Z,hh.h.oa,Z,_,Z,⟨⟨n,ρ,A,st,o,Z,hh.h,λho=>dq.no 2 (by unfold mX;exact au ho),λho=>?_⟩⟩⟩;refine⟨_,Z,⟨⟨a,Z,λh5=>dq.no 5 (by unfold mX;rw[av ho,av h5]),λh1=>?_⟩⟩⟩;refine⟨_,Z,A.a,A.dx,_,Z,hh.h.oa,Z,⟨⟨n,ρ,A,st,Z,hh.h,wf.rE,λH1 g1=>?_⟩⟩⟩;refine⟨_,Z,_,Z,_,_,Z,Z,_,Z,cD (λc=>?_) (λc=>?_)⟩
 .have c':aH st<=a:=dY c;exact dq.no 6 (by unfold mX;rw[av ho,au (show ¬ a<1 by omega),av c']) 0 H1 g1
 have c':¬ aH st<=a:=oW (nM.mpr c);have q:=dq.ok (by unfold mX;rw[av ho,au (show ¬ a<1 by omega),au c']);have gE:=hh.mono g1;have F1:Fr n ρ H ρ H1:=Fr.of_same g1;clear hh;refine⟨(iy 1),λp0 hp0=>?_⟩;have g2:=aF hp0 (.lst [.int 0]);have kJ:=gE.mono g2;have F2:=F1.trans (Fr.of_same (ρ:=ρ) g2);have Wn:upd H1 p0 (.lst [.int 0]) p0=some (.lst [.int 0]):=ao;generalize upd H1 p0 (.lst [.int 0])=H2 at *;clear gE F1;have CJ:=qp st.own 0;have eW:=kJ.wf.kR;refine⟨_,Z,A.a,T.hold,A.dx,_,_,Z,kJ.h.oa,X.cH,X.hpl,Z,A.pl,_,Z,kJ.h.iW,p0,_,_,Z,Z,Wn,by omega,by rw[CJ];omega,by rw[CJ];show 1*_<=_;rw[tU,Nat.one_mul];exact small (by omega),λp1 hp1=>?_⟩;rw[CJ,tU,show(List.replicate st.own.length [V.int 0]).flatten=(List.replicate st.own.length (0:Int)).map V.int from by rw[List.map_replicate,List.flatten_replicate_singleton]];have g3:=aF hp1 (.lst ((List.replicate st.own.length (0:Int)).map V.int));have j0:=kJ.mono g3;have F3:=F2.trans (Fr.of_same (ρ:=ρ) g3);have n1:H p1=none:=(g1.trans g2).free hp1;have c1:ρ p1=none:=kJ.g.none hp1;have Ba:upd H2 p1 (.lst ((List.replicate st.own.length (0:Int)).map V.int)) p1=_:=ao;generalize upd H2 p1 (.lst ((List.replicate st.own.length (0:Int)).map V.int))=H3 at *;have hi:=J8.mpr ho;have bo:=aw.blend (o:=o) wf h1 (by omega);have za:QS a st.prod:=.inl (by have:(aH st).natAbs<2 ^ 60:=aw.big;omega);refine⟨_,Z,_,Z,A.a,T.hold,A.dx,_,_,Z,j0.h.oa,X.cH,X.Ar,Z,A.bt,T.bot,A.db,_,_,Z,j0.h.mz,X.cB,X.Pg,Z,_,_,Z,Z,za,_,Z,_,Z,p1,_,_,st.own.idxOf o,Z,Z,Ba,by rw[aE,i8];exact lJ hi,?_⟩;rw[show((List.replicate st.own.length (0:Int)).map V.int).set (st.own.idxOf o) (V.int (a*st.prod))=(kD st o a).map V.int from by unfold kD;rw[jN]];have oj:=j0.Eu (o:=.lst ((kD st o a).map V.int)) c1 Ba rfl rfl;have F4:=F3.new (o:=.lst ((kD st o a).map V.int)) n1;have Wo:upd H3 p1 (.lst ((kD st o a).map V.int)) p1=_:=ao;generalize upd H3 p1 (.lst ((kD st o a).map V.int))=H4 at *;have zk:Jm.Sz 60 (aH st-a):=bo.big.of_le (by omega);have zG:∀m∈kD st o a,0<=m/\Jm.Sz 8900 m:=λm hm=>by have Es:=bo.add m hm;have h2:=wf.gC;have zl:Jm.Sz 60 a:=bo.big.of_le (by omega);exact⟨Es.1,Jm.Sz.nW (by have:=lZ bo.l (show 0<=st.prod by omega);omega) Es.2 ((zl.mul bo.prod).mono (by decide))⟩
 exact⟨_,Z,A.a,A.dx,_,Z,oj.h.oa,Z,_,Z,_,Z,_,_,Z,Z,_,Z,_,Z,⟨⟨n,ρ,A,st,aH st-a,aH st,p1,kD st o a,Z,oj,aB.of Wo,bo.len,bo.k,by omega,zk,bo.big,zG,aw.b_,aw.stp,yS wf bo,λρ6 A6 H6 uI e6 f6=>q ρ6 A6 H6 uI e6 (F4.trans f6)⟩⟩⟩
abbrev r6:Stmt:=inClass (top 21) 5
abbrev oR:List Str:=["self","part","amount"]
abbrev Jc:List Str:=oR
theorem GQ:aR Jc oR (aD r6):=dF
theorem E5{T:TC}{e:Ec}(F:jq K T.hold "mishap" "Hold.mishap" r6 f fd)(X:Txt K T)(cR:Mn P w K mg base 1 T.hold "part_of" fm (sN (mW T e)))(m9:Dn P w K mg base 2 "check_loss" m7 (sN (LM e)))(jL:Mn P w K mg base 1 T.hold "lessen" lG (Ls T)):Mn P w K mg base 3 T.hold "mishap" oR (sN (Io T e)):=by
 refine F.oA GQ λcdv A outer s H vs Q E hr h=>?_;obtain⟨⟨n,ρ,A,st,x,a,rfl,hh,dq⟩⟩:=h;refine⟨_,(@cY.h _ _ _ (aj (b9 (bB m9 hr (af (aP K (cE cR hr (qv 0) (af (qv 1) ak))) (af (qv 2) ak))))
  (aq (b9 (cE jL hr (qv 0) (af (qv 1) (af (qv 2) ak))))))),?_⟩
 refine⟨_,Z,A.a,A.dx,_,Z,hh.h.oa,Z,_,Z,⟨⟨n,ρ,A,st,x,Z,hh.h,hh.wf.fB,λhn=>dq.no 3 ?_,λi p qq e1 e2 e3=>?_⟩⟩⟩
 .unfold lT;rw[au (λz=>?_)];obtain⟨j,p,h1,h2⟩:=oJ z;exact hn p (bw h1) h2
 obtain⟨k1,_⟩:=hh.h.opt i p qq e2 e3;have hm:x∈fM st:=by rw[<-e1];exact B3 e2
 have fT:=bw e2;have ew:(cI st x).wo=p.wo:=by rw[dN hh.wf fT e1]
 refine⟨qq.1,T.part,qq.2.1,_,_,Z,k1,X.cP,X.wO,Z,_,Z,⟨⟨p.wo,a,Z,λh5=>dq.no 5 ?_,λh1 h6=>dq.no 6 ?_,λh1 h2=>?_⟩⟩⟩
 .unfold lT;rw[av hm,av h5]
 .unfold lT;rw[av hm,au (show ¬ a<1 by omega)];show(if(cI st x).wo<a then _ else _)=_;rw[ew,av h6]
 have ho:=dq.ok (by unfold lT;rw[av hm,au (show ¬ a<1 by omega)];show(if(cI st x).wo<a then _ else _)=_;rw[ew,au (by omega)]);exact⟨_,Z,A.a,A.dx,_,Z,hh.h.oa,Z,_,Z,_,Z,⟨⟨n,ρ,A,st,(x,a),Z,hh,⟨p,fT,e1,h2⟩,Gn hh.wf (λp' eL e'=>by rw[nG hh.wf eL fT (e'.trans e1.symm)];exact h2),ho⟩⟩⟩
abbrev vS:Stmt:=inClass (top 21) 6
abbrev sS:List Str:=["self","part","amount"]
abbrev NZ:List Str:=sS.append ["risen"]
theorem Bc:aR NZ sS (aD vS):=dF
theorem Jd{T:TC}{e:Ec}(F:jq K T.hold "rise" "Hold.rise" vS f fd)(X:Txt K T)(cR:Mn P w K mg base 1 T.hold "part_of" fm (sN (mW T e)))(ji:Dn P w K mg base 1 "check_amount" jh (sN (AQ e))):Mn P w K mg base 2 T.hold "rise" sS (sN (PV T e)):=by
 refine F.oA Bc λcdv A outer s H vs Q E hr h=>?_;obtain⟨⟨n,ρ,A,st,x,a,rfl,hh,dq⟩⟩:=h;refine⟨_,(@cY.h _ _ _ (aj (aX (i:=3) Bc.nd (cE cR hr (qv 0) (af (qv 1) ak)))
  (aj (b9 (bB ji hr (af (qv 2) ak)))
  (aq (qz K (qv 3) (qv 2) ZY))))),?_⟩
 refine⟨_,Z,A.a,A.dx,_,Z,hh.h.oa,Z,_,Z,⟨⟨n,ρ,A,st,x,Z,hh.h,hh.wf.fB,λhn=>dq.no 3 ?_,λi p qq e1 e2 e3=>?_⟩⟩⟩
 .unfold sP;rw[au (λz=>?_)];obtain⟨j,p,h1,h2⟩:=oJ z;exact hn p (bw h1) h2
 subst e1;obtain⟨k1,k2,k3,k4⟩:=hh.h.opt i p qq e2 e3;have hm:=B3 e2;refine⟨_,Z,⟨⟨a,Z,λh5=>dq.no 5 ?_,λh1=>?_⟩⟩⟩
 .unfold sP;rw[av hm,av h5]
 have ho:=dq.ok (by unfold sP;rw[av hm,au (show ¬ a<1 by omega)]);refine⟨_,Z,qq.1,T.part,qq.2.1,_,_,Z,k1,X.cP,X.wO,Z,_,Z,_,_,Z,Z,qq.2.1,_,k1,by show 6<1000;decide,?_⟩;have Es:=hh.h.iX (p1:={ p with wo:=p.wo+a }) hh.g e2 e3 rfl rfl hh.wf.fB;have hw:Wf (EH st p.nm a):=ya hh.wf λq hq _=>⟨Z,Z,Z,Z,by have:=(hh.wf.ki q hq).1;show 1<=q.wo+a;omega,(hh.wf.ki q hq).2⟩
 have es:EH st p.nm a={ st with ah:=st.ah.set i { p with wo:=p.wo+a } }:=B6 hh.wf.fB e2 _;rw[es]at ho hw;exact ho ρ A _ ⟨hh.g.wr rfl,Es,hw⟩ rfl (Fr.write k3)
abbrev vU:Stmt:=inClass (top 21) 7
abbrev sU:List Str:=["self","part","taker"]
abbrev N1:List Str:=sU.append ["handed","to","at","tops"]
theorem m_:aR N1 sU (aD vU):=dF
theorem Je{T:TC}{e:Ec}(F:jq K T.hold "hand" "Hold.hand" vU f fd)(X:Txt K T)(cR:Mn P w K mg base 1 T.hold "part_of" fm (sN (mW T e)))(dX:Mn P w K mg base 1 T.hold "place_of" gZ (sN (yX T e)))(fY:Mn P w K mg base 1 T.hold "tops_of" jj (BR T))(fX:Mn P w K mg base 1 T.hold "beyond_common" h_ (Rk T K)):Mn P w K mg base 2 T.hold "hand" sU (sN (PY T e)):=by
 refine F.oA m_ λcdv A outer s H vs Q E hr h=>?_;obtain⟨⟨n,ρ,A,st,x,o,rfl,hh,hs,dq⟩⟩:=h;refine⟨_,(@cY.h _ _ _ (aj (aX (i:=3) m_.nd (cE cR hr (qv 0) (af (qv 1) ak)))
  (aj (aX (i:=4) m_.nd (cE dX hr (qv 0) (af (qv 2) ak)))
  (aj (aX (i:=5) m_.nd (cE dX hr (qv 0) (af (aP K (qv 3)) ak)))
  (aj (bZ (aN d8 (qv 4) (qv 5) (aU _)) (aq PR) bf)
  (aj (aX (i:=6) m_.nd (cE fY hr (qv 0) (af (qv 3) ak)))
  (aj (PO (qv 6) (qv 4) LZ (aC (aK K) (qv 6) (qv 5)) ZJ set_list)
  (aj (iY ai (iZ (qv 6) (qv 5) set_list))
  (aj (d9 K (qv 3) (qv 2))
  (aj (d9 K (qv 3) ai)
  (aq (d9 K (qv 3) (cE fX hr (qv 0) (af (qv 6) ak)))))))))))))),?_⟩
 have wf:=hh.wf;refine⟨_,Z,A.a,A.dx,_,Z,hh.h.oa,Z,_,Z,⟨⟨n,ρ,A,st,x,Z,hh.h,wf.fB,λhn=>dq.no 3 ?_,λi p qq e1 e2 e3=>?_⟩⟩⟩
 .unfold oH;rw[au (λz=>?_)];obtain⟨j,p,h1,h2⟩:=oJ z;exact hn p (bw h1) h2
 have fT:=bw e2;have eg:cI st x=p:=dN wf fT e1;subst e1;have hm:=B3 e2;refine⟨_,Z,A.a,A.dx,_,Z,hh.h.oa,Z,_,Z,⟨⟨n,ρ,A,st,o,Z,hh.h,λho=>dq.no 2 (by unfold oH;rw[av hm,au ho]),λho=>?_⟩⟩⟩;have eR:oH st p.nm o=none:=by unfold oH;rw[av hm,av ho]
 have q:=dq.ok eR;have wS:=PZ wf eR hs;obtain⟨k1,k2,k3,k4⟩:=hh.h.opt i p qq e2 e3;have Xp:=wf.ow p fT;refine⟨_,Z,A.a,A.dx,_,Z,hh.h.oa,Z,_,Z,qq.1,T.part,qq.2.1,_,_,Z,k1,X.cP,X.pow,Z,⟨⟨n,ρ,A,st,p.ow,Z,hh.h,λz=>absurd Xp z,λ_=>?_⟩⟩⟩;refine⟨_,Z,_,Z,Z,_,Z,cD (λc=>?_) (λc=>?_)⟩
 .have c':st.own.idxOf o=st.own.idxOf p.ow:=by have:=V.int.inj (dY c);omega
  unfold mD at q;rw[eg,av c']at q;exact q ρ A H hh rfl Fr.refl
 have ne:st.own.idxOf o≠st.own.idxOf p.ow:=λz=>c (bh (by rw[z]));have hl:=EM wf fT;have ha:st.own.idxOf p.ow<(aV st p).length:=by rw[hl];exact wF Xp
 have hb:st.own.idxOf o<(aV st p).length:=by rw[hl];exact wF ho
 have at':∀{l:List Int}{j:Nat},j<l.length->lC (l.map V.int) (j:Int)=some (.int (l.getD j 0)):=λ{l j} h=>aA (by rw[bO,fH,bq h];rfl);unfold mD at q wS;rw[eg,au ne,B6 wf.fB e2]at q wS;generalize hTT:nJ st p o=TT at *;rw[vH]at hTT;refine⟨_,Z,A.a,A.dx,_,Z,hh.h.oa,Z,_,Z,⟨⟨n,ρ,A,st,i,p,qq,Z,hh.h,wf,e2,e3,λl H1 g1 gI hl1=>?_⟩⟩⟩;have cl:ρ l=none:=hh.g.none gI;refine⟨_,Z,_,Z,l,_,_,_,Z,Z,aB.of hl1,at' hb,_,Z,_,Z,l,_,_,_,Z,Z,aB.of hl1,at' ha,_,_,Z,Z,l,_,_,st.own.idxOf o,Z,Z,hl1,by rw[aE];exact lJ hb,?_⟩;have m1:(List.map V.int (aV st p)).set (st.own.idxOf o) (.int ((aV st p).getD (st.own.idxOf o) 0+(aV st p).getD (st.own.idxOf p.ow) 0))=((aV st p).set (st.own.idxOf o) ((aV st p).getD (st.own.idxOf o) 0+(aV st p).getD (st.own.idxOf p.ow) 0)).map V.int:=jN.symm;rw[m1];refine⟨_,Z,_,Z,l,_,_,st.own.idxOf p.ow,Z,Z,ao,by rw[aE,eZ];exact lJ ha,?_⟩;have m2:(((aV st p).set (st.own.idxOf o) ((aV st p).getD (st.own.idxOf o) 0+(aV st p).getD (st.own.idxOf p.ow) 0)).map V.int).set (st.own.idxOf p.ow) (.int 0)=TT.map V.int:=by rw[<-hTT];exact jN.symm
 rw[m2,pR];have g3:aM H (upd H1 l (.lst (TT.map V.int))):=g1.cA gI _;have hl3:upd H1 l (.lst (TT.map V.int)) l=some (.lst (TT.map V.int)):=ao;generalize upd H1 l (.lst (TT.map V.int))=H3 at *;have j0:=hh.mono g3;have c3:=g3 _ _ k1;have hi:i<st.ah.length:=(di.mp e2).1;have tl:TT.length=st.own.length:=by rw[<-hTT,Gu,hl]
 clear hl1 g1 m1 m2;refine⟨_,Z,_,Z,qq.1,T.part,qq.2.1,_,Z,c3,X.cP,X.pow,by show 6<1000;decide,?_⟩;have hA:=j0.h.iX (p1:={ p with ow:=o }) j0.g e2 e3 rfl rfl wf.fB;have gA:Gh ρ (upd H3 qq.1 (.ins T.part qq.2.1 (dB { p with ow:=o } qq.2.2))):=j0.g.wr rfl;have FA:Fr n ρ H ρ (upd H3 qq.1 (.ins T.part qq.2.1 (dB { p with ow:=o } qq.2.2))):=(Fr.of_same g3).trans (Fr.write k3);have kA:upd H3 qq.1 (.ins T.part qq.2.1 (dB { p with ow:=o } qq.2.2)) qq.1=some (.ins T.part qq.2.1 (dB { p with ow:=o } qq.2.2)):=ao;have nA:∀b,upd H3 qq.1 (.ins T.part qq.2.1 (dB { p with ow:=o } qq.2.2)) b=none->H b=none:=λb h=>g3.free (kh h);have lA:upd H3 qq.1 (.ins T.part qq.2.1 (dB { p with ow:=o } qq.2.2)) l=some (.lst (TT.map V.int)):=by rw[az (λz=>by rw[z,k3]at cl;cases cl)];exact hl3
 show u_ _ _ _ _ (upd H3 qq.1 (.ins T.part qq.2.1 (dB { p with ow:=o } qq.2.2)));generalize upd H3 qq.1 (.ins T.part qq.2.1 (dB { p with ow:=o } qq.2.2))=H4 at *;refine⟨_,Z,qq.1,T.part,qq.2.1,_,Z,kA,X.cP,X.Ld,by show 6<1000;decide,?_⟩;have ndA:((st.ah.set i { p with ow:=o }).map (·.nm)).Nodup:=by rw[jN,mU (by rw[bO,e2];rfl)];exact wf.fB
 have hB:=hA.iX (i:=i) (p1:={ p with ow:=o,sc:=1 }) gA (iB hi) e3 rfl rfl ndA;have gB:Gh ρ (upd H4 qq.1 (.ins T.part qq.2.1 (dB { p with ow:=o,sc:=1 } qq.2.2))):=gA.wr rfl;have FB:Fr n ρ H ρ (upd H4 qq.1 (.ins T.part qq.2.1 (dB { p with ow:=o,sc:=1 } qq.2.2))):=FA.trans (Fr.write k3);have kB:upd H4 qq.1 (.ins T.part qq.2.1 (dB { p with ow:=o,sc:=1 } qq.2.2)) qq.1=some (.ins T.part qq.2.1 (dB { p with ow:=o,sc:=1 } qq.2.2)):=ao;have lB:upd H4 qq.1 (.ins T.part qq.2.1 (dB { p with ow:=o,sc:=1 } qq.2.2)) l=some (.lst (TT.map V.int)):=by rw[az (λz=>by rw[z,k3]at cl;cases cl)];exact lA
 have nB:∀b,upd H4 qq.1 (.ins T.part qq.2.1 (dB { p with ow:=o,sc:=1 } qq.2.2)) b=none->H b=none:=λb h=>nA b (kh h);have Xq:(st.ah.set i { p with ow:=o }).set i { p with ow:=o,sc:=1 }=st.ah.set i { p with ow:=o,sc:=1 }:=oB ..;have hB:aW T n ρ A (upd H4 qq.1 (.ins T.part qq.2.1 (dB { p with ow:=o,sc:=1 } qq.2.2))) { st with ah:=st.ah.set i { p with ow:=o,sc:=1 } }:=by rw[<-Xq];exact hB
 generalize hH5:upd H4 qq.1 (HO.ins T.part qq.2.1 (br _ _ _))=H5;have agQ:upd H4 qq.1 (.ins T.part qq.2.1 (dB { p with ow:=o,sc:=1 } qq.2.2))=H5:=hH5;rw[agQ]at hB gB FB kB lB nB;clear hA gA FA kA nA lA;have ol:=wf.kR;refine⟨_,Z,A.a,A.dx,_,Z,hB.oa,Z,_,Z,⟨⟨n,ρ,A,_,l,TT,Z,hB,aB.of lB,by show _=st.bU.length;rw[tl,wf.gc],by omega,λr H6 g6 hr0 hr1=>?_⟩⟩⟩;have cr:ρ r=none:=gB.none hr0;have h6:=hB.mono g6;have G6:=gB.same g6;have F6:Fr n ρ H (bK ρ r (n,21,p.nm)) H6:=(FB.trans (Fr.of_same (ρ:=ρ) g6)).jy (nB _ hr0);have hC:aW T n (bK ρ r (n,21,p.nm)) A H6 _:=h6.same ⟨λ_ _ e=>e,λb u x w _ hc he=>⟨he,by rw[bY (λz=>by rw[z,cr]at hc;cases hc)];exact hc⟩⟩;have GC:Gh (bK ρ r (n,21,p.nm)) H6:=G6.color hr1 rfl;have ndB:((st.ah.set i { p with ow:=o,sc:=1 }).map (·.nm)).Nodup:=by rw[jN,mU (by rw[bO,e2];rfl)];exact wf.fB
 have hD:=hC.Wc (p1:={ p with ow:=o,sc:=1,row:=lS st TT }) GC (iB hi) e3 rfl cV hr1 ndB;refine⟨_,Z,qq.1,T.part,qq.2.1,_,Z,g6 _ _ kB,X.cP,X.Pf,by show 6<1000;decide,?_⟩;refine q _ { A with qs:=A.qs.set i (qq.1,qq.2.1,r) } _ ⟨GC.wr rfl,?_,wS⟩ rfl (F6.trans (Fr.write (t:=20) (x:=p.nm) (by rw[bY (λz=>by rw[<-z,k3]at cr;cases cr)];exact k3)));have eS2:(st.ah.set i { p with ow:=o,sc:=1 }).set i { p with ow:=o,sc:=1,row:=lS st TT }=st.ah.set i { p with ow:=o,sc:=1,row:=lS st TT }:=oB ..;rw[<-eS2];exact hD
abbrev vV:Stmt:=inClass (top 21) 8
abbrev sV:List Str:=["self","part"]
abbrev N3:List Str:=sV.append ["leaving","gains"]
theorem vW:aR N3 sV (aD vV):=dF
theorem Jf{T:TC}{e:Ec}(F:jq K T.hold "land" "Hold.land" vV f fd)(X:Txt K T)(cR:Mn P w K mg base 1 T.hold "part_of" fm (sN (mW T e)))(dX:Mn P w K mg base 1 T.hold "place_of" gZ (Gj T))(fY:Mn P w K mg base 1 T.hold "tops_of" jj (BR T))(lI:Mn P w K mg base 4 T.hold "shares" lH (ze T))(jc:mg "zip"=none):Mn P w K mg base 5 T.hold "land" sV (sN (P0 T e)):=by
 refine F.oA vW λcdv A outer s H vs Q E hr h=>?_;obtain⟨⟨n,ρ,A,st,x,rfl,hh,ld,dq⟩⟩:=h;refine⟨_,(@cY.h _ _ _ (aj (aX (i:=2) vW.nd (cE cR hr (qv 0) (af (qv 1) ak)))
  (aj (b9 (jY mO mK mL dU (aP K (qv 0)) (af (gx (af (aP K (qv 2)) (af (aP K (qv 2)) (af (aP K (qv 2)) (af (cE lI hr (qv 0) (af (qv 1) ak)) ak))))) ak)))
  (aj (pX (i:=3) ["purse","top","leaving"] [none,none,some 2] vW.nd rfl rfl rfl (rL K (by rfl) jc (af (aP K (qv 0)) (af (cE fY hr (qv 0) (af (qv 2) ak)) ak))) (λ_ _ _ _=>(iT K (n:=2) rfl (cN (aT (i:=0) (show List.Nodup (["purse","top","leaving"] :List Str)from by decide +kernel)) (cN (aT (i:=1) (show List.Nodup (["purse","top","leaving"] :List Str)from by decide +kernel)) iR)))) (λ_ _ _ _=>(aI cU (qv 0) (aI iK (aP K (qv 2)) (qv 1)))) rfl (by rfl) (by rfl))
  (aj (PO (qv 3) (cE dX hr (qv 0) (af (aP K (qv 2)) ak)) LZ (aI iK (aP K (qv 2)) (aP K (aP K (qv 0)))) ZK set_list)
  (aj (d9 K (qv 0) (qv 3))
  (aq (PU (aP K (qv 0)) (qv 1))))))))),?_⟩
 refine⟨_,Z,A.a,A.dx,_,Z,hh.h.oa,Z,_,Z,⟨⟨n,ρ,A,st,x,Z,hh.h,hh.wf.fB,λhn=>dq.no 3 ?_,λi p qq e1 e2 e3=>?_⟩⟩⟩
 .unfold uT;rw[au (λz=>?_)];obtain⟨j,p,h1,h2⟩:=oJ z;exact hn p (bw h1) h2
 subst e1;have wf:=hh.wf;have fT:=bw e2;have eR:uT st p.nm=none:=av (B3 e2);have q:=dq.ok eR;have wS:=P_ wf eR ld;rw[zf wf fT]at q wS;obtain⟨k1,k2,k3,k4⟩:=hh.h.opt i p qq e2 e3;obtain⟨S7,hv0,hA0⟩:=hh.h.qX;refine⟨_,Z,A.a,T.hold,A.dx,_,_,Z,hh.h.oa,X.cH,X.has,Z,.inl ⟨Z,_,aB.of hv0⟩,_,Z,qq.1,T.part,qq.2.1,_,_,Z,k1,X.cP,X.S_,Z,_,Z,qq.1,T.part,qq.2.1,_,_,Z,k1,X.cP,X.pow,Z,_,Z,qq.1,T.part,qq.2.1,_,_,Z,k1,X.cP,X.wO,Z,_,Z,A.a,A.dx,_,Z,hh.h.oa,Z,_,Z,⟨⟨n,ρ,A,st,i,p,Z,hh,e2,ld.kn,λr ws H1 gE F1 hr0 hr1 cr1 sh1=>?_⟩⟩⟩;have hi:i<st.ah.length:=(di.mp e2).1;refine⟨(iy 4),λt ht=>?_⟩;have g2:=aF ht (.tup [.str p.nm,.str p.ow,.int p.wo,.ref r]);have fr1:∀b,H1 b=none->H b=none:=λb hb=>F1.adM gE.g hb;have fr2:∀b,upd H1 t (.tup [.str p.nm,.str p.ow,.int p.wo,.ref r]) b=none->H b=none:=λb hb=>fr1 b (kh hb);have kJ:=gE.mono g2;have F2:=F1.trans (Fr.of_same (ρ:=ρ) g2);have hr2:=g2 _ _ hr1;have sh2:=sh1.mono g2.tups;have ht2:upd H1 t (.tup [.str p.nm,.str p.ow,.int p.wo,.ref r]) t=some (.tup [.str p.nm,.str p.ow,.int p.wo,.ref r]):=ao;show rA _ (upd H1 t (.tup [.str p.nm,.str p.ow,.int p.wo,.ref r])) _;generalize upd H1 t (.tup [.str p.nm,.str p.ow,.int p.wo,.ref r])=H2 at *;clear g2 sh1 hr1 F1;have cH:aW T n (bK ρ r (n,30,⟨#[]⟩)) A H2 { st with kn:=st.kn+100 }:=kJ.h.same ⟨λ_ _ e=>e,λb u x w _ hc he=>⟨he,by rw[bY (λz=>by rw[z,cr1]at hc;cases hc)];exact hc⟩⟩;have cG:Gh (bK ρ r (n,30,⟨#[]⟩)) H2:=kJ.g.color hr2 rfl;have cF:Fr n ρ H (bK ρ r (n,30,⟨#[]⟩)) H2:=F2.jy hr0;have cr2:bK ρ r (n,30,⟨#[]⟩) r=some (n,30,⟨#[]⟩):=cV;generalize bK ρ r (n,30,⟨#[]⟩)=ρ2 at *;clear kJ F2;obtain⟨IC,hv2,hA2⟩:=cH.qX;have hal:IC.length<1000:=by rw[show IC.length=st.c6.length from hA2.length];exact ld.c6
 refine⟨A.as,IC,_,Z,Z,hv2,dz (by omega),?_⟩;have h3:aW T n ρ2 A (upd H2 A.as (.lst (IC++[.ref t]))) { st with c6:=st.c6++[⟨p.nm,p.ow,p.wo,mS st p⟩],kn:=st.kn+100 }:=cH.aaL (x:=⟨p.nm,p.ow,p.wo,mS st p⟩) cG hv2 ht2 hr2 cr2 sh2;have G3:=cG.wr (a:=A.as) (o:=.lst (IC++[.ref t])) rfl;have F3:=cF.trans (Fr.write (o:=.lst (IC++[.ref t])) cH.jr);have W_:∀b,upd H2 A.as (.lst (IC++[.ref t])) b=none->H b=none:=λb hb=>fr2 b (kh hb);have wf3:Wf { st with c6:=st.c6++[⟨p.nm,p.ow,p.wo,mS st p⟩],kn:=st.kn+100 }:={ wf with uc:=wS.uc,HN:=wS.HN }
 generalize upd H2 A.as (.lst (IC++[.ref t]))=H3 at *;clear cH cG cF hv2 hA2 ht2 hr2 sh2;obtain⟨j1,j2,_,_⟩:=h3.opt i p qq e2 e3;refine⟨_,Z,A.a,T.hold,A.dx,_,_,Z,h3.oa,X.cH,X.Er,Z,_,Z,A.a,A.dx,_,Z,h3.oa,Z,_,Z,⟨⟨n,ρ2,A,_,i,p,qq,Z,h3,wf3,e2,e3,λl H4 g4 gI hl1=>?_⟩⟩⟩;have hl1:H4 l=some (.lst ((aV st p).map V.int)):=hl1;have tl:=EM wf fT;have eW:=wf.kR;have rD:=wf.rD;have j4:=g4 _ _ j1;have zw:=ld.wo p fT;refine⟨_,_,_,_,_,_,Z,.lst (aB.of (g4 _ _ h3.mR)),.lst (aB.of hl1),λacc hacc=>?_⟩;refine xZ (K:=K) (n:=st.b_.length) [0,1] (λi out H5=>aM H4 H5/\out=(List.zipWith (λu t=>u+p.wo*t) (st.b_.take i) ((aV st p).take i)).map V.int) (by decide) (by omega) ⟨aF hacc _,Z⟩ (λi out H5 hi _ hp=>⟨aB.of (hp.1 _ _ (g4 _ _ h3.mR)),aB.of (hp.1 _ _ hl1),by rw[aE];exact hi,by rw[aE,tl];omega⟩)
  (λout H5 _ hp=>⟨aB.of (hp.1 _ _ (g4 _ _ h3.mR)),aB.of (hp.1 _ _ hl1),.inl (by rw[aE];exact aQ _)⟩) ?_ ?_
 .rintro k x out H5 H6 hk agR ha ⟨g5,e5⟩ ⟨pp,x1,y1,hpp,rfl,rfl,e6,e7⟩;obtain⟨u,rfl,eu⟩:=gG e6;obtain⟨c,rfl,ec⟩:=gG e7;have g6:=aF hpp (.tup [.int u,.int c]);refine⟨pp,_,Z,cS.of ao,Z,_,Z,_,Z,qq.1,T.part,qq.2.1,_,_,Z,(g5.trans g6) _ _ j4,X.cP,X.wO,Z,_,Z,_,_,Z,Z,.inl (by have:p.wo.natAbs<2 ^ 60:=zw;omega),_,_,Z,Z,g6 _ _ ha,(g5.trans g6).cA hacc _,?_⟩;rw[mT _ eu ec,e5,bP];rfl
 rintro out H5 agR ha5 ⟨g5,e5⟩;rw[cJ,show st.b_.length=(aV st p).length by omega,cJ]at e5;have e5:out=(jF st p).map V.int:=e5;subst e5;have ab7:H3 acc=none:=g4.free hacc;have g35:=g4.trans g5;have h5:=h3.mono g35;have G5:=G3.same g35;have F5:=F3.trans (Fr.of_same (ρ:=ρ2) g35);have ca:ρ2 acc=none:=G3.none ab7;have j5:=g5 _ _ j4;have hown:=wf.ow p fT;have gl:=Iq wf fT;have hix:st.own.idxOf p.ow<(jF st p).length:=by rw[gl];exact wF hown
 refine⟨_,Z,_,Z,A.a,A.dx,_,Z,h5.oa,Z,_,Z,qq.1,T.part,qq.2.1,_,_,Z,j5,X.cP,X.pow,Z,⟨⟨n,ρ2,A,_,p.ow,Z,h5,hown,?_⟩⟩⟩;have at':lC ((jF st p).map V.int) ((st.own.idxOf p.ow:Nat):Int)=some (.int ((jF st p).getD (st.own.idxOf p.ow) 0)):=aA (by rw[bO,fH,bq hix];rfl);refine⟨acc,_,_,_,Z,Z,aB.of ha5,at',_,Z,qq.1,T.part,qq.2.1,_,_,Z,j5,X.cP,X.wO,Z,_,Z,A.a,T.hold,A.dx,_,_,Z,h5.oa,X.cH,X.Ar,Z,A.bt,T.bot,A.db,_,_,Z,h5.mz,X.cB,X.Pg,Z,_,_,Z,Z,.inl (by have:p.wo.natAbs<2 ^ 60:=zw;omega),_,_,Z,Z,acc,_,_,st.own.idxOf p.ow,Z,Z,ha5,by rw[aE];exact lJ hix,?_⟩;have m1:((jF st p).map V.int).set (st.own.idxOf p.ow) (.int ((jF st p).getD (st.own.idxOf p.ow) 0-p.wo*st.prod))=(ud st p).map V.int:=jN.symm;have G6:=G5.wr (a:=acc) (o:=.lst ((ud st p).map V.int)) rfl;have h6:=h5.same (Lm (o:=.lst ((ud st p).map V.int)) ca ha5 rfl);have n6:H acc=none:=W_ acc ab7;have F6:=F5.new (o:=.lst ((ud st p).map V.int)) n6;show u_ _ _ _ _ (upd H5 acc (.lst (((jF st p).map V.int).set (st.own.idxOf p.ow) (.int ((jF st p).getD (st.own.idxOf p.ow) 0-p.wo*st.prod)))));rw[m1];have yg:upd H5 acc (.lst ((ud st p).map V.int)) acc=some (.lst ((ud st p).map V.int)):=ao;generalize upd H5 acc (.lst ((ud st p).map V.int))=H6 at *;refine⟨_,Z,_,Z,A.a,T.hold,A.dx,_,Z,h6.oa,X.cH,X.Er,by show 7<1000;decide,?_⟩;obtain⟨h7,G7⟩:=Az (t:=7) h6 G6 ca yg rfl;have F7:Fr n ρ H (bK ρ2 acc (n,7,⟨#[]⟩)) H6:=F6.jy n6;have h8:=h7.S9 G7 acc _ yg cV;have G8:=G7.wr (a:=A.a) (o:=.ins T.hold A.dx (j_ { A with pu:=acc })) rfl;have F8:=F7.trans (Fr.write (o:=.ins T.hold A.dx (j_ { A with pu:=acc })) h7.ca);rw[show br "purses" (V.ref acc) (j_ A)=j_ { A with pu:=acc }from rfl];generalize upd H6 A.a (.ins T.hold A.dx (j_ { A with pu:=acc }))=H8 at *;have hv8:=uX wf.fB e2 e3;have dk:=C3 wf.fB hh.h.ql e2;refine⟨_,Z,A.a,T.hold,A.dx,_,_,Z,h8.oa,X.cH,X.hab,Z,_,Z,A.ab,_,Sum.inr p.nm,Z,h8.fh,Z,?_,?_⟩
 .show (eE (cX st.ah A.qs) (Sum.inr p.nm)).isSome=true;rw[hv8];rfl
 show Q .cy (upd H8 A.ab (.dK (ny (cX st.ah A.qs) (Sum.inr p.nm))));rw[dk];have hi2:i<A.qs.length:=by rw[hh.h.ql];exact hi
 have h9:=h8.Lc G8 (st.ah.eraseIdx i) (A.qs.eraseIdx i) (by rw[Qu hi,Qu hi2,hh.h.ql]) (λj x y ex ey=>by obtain⟨k,a1,a2⟩:=Aw ex ey;exact h8.opt k x y a1 a2)
 rw[AV wf.fB e2]at q wS;exact q _ { { A with pu:=acc }with qs:=A.qs.eraseIdx i } _ ⟨G8.wr rfl,h9,wS⟩ rfl (F8.trans (Fr.write h8.gM))
abbrev ux:Stmt:=inClass (top 21) 9
abbrev qK:List Str:=["self","part","name","amount","weight"]
abbrev Mv:List Str:=qK.append ["source"]
theorem zR:aR Mv qK (aD ux):=dF
theorem GR{T:TC}{e:Ec}(F:jq K T.hold "sever" "Hold.sever" ux f fd)(X:Txt K T)(cR:Mn P w K mg base 1 T.hold "part_of" fm (sN (mW T e)))(jA:Mn P w K mg base 3 T.hold "check_new" jz (sN (xF T e)))(lM:Mn P w K mg base 1 T.hold "stow" oh (Lh T))(yd:Cn P w K mg base 1 "Part" T.part ["self","name","owner","worth","weight","scale","row"] (Gi T K)):Mn P w K mg base 4 T.hold "sever" qK (sN (LU T e)):=by
 refine F.oA zR λcdv A outer s H vs Q E hr h=>?_;obtain⟨⟨n,ρ,A,st,x,y,a,we,rfl,Mw,hy0,hl1,hl2,dq⟩⟩:=h;refine⟨_,(@cY.h _ _ _ (aj (aX (i:=5) zR.nd (cE cR hr (qv 0) (af (qv 1) ak)))
  (aj (b9 (cE jA hr (qv 0) (af (qv 2) ak)))
  (aj (bZ (eO (bW.pt (iS (aN su (qv 3) ai (aU _)) (iA (aN su (qv 4) ai (aU _)))))) (aq gF) bf)
  (aj (bZ (eO (bW.pt (iS (aN JZ (qv 3) (aP K (qv 5)) (aU _)) (iA (aN jE (qv 4) (aP K (qv 5)) (aU _)))))) (aq gF) bf)
  (aj (qz K (qv 5) (qv 3) KD)
  (aj (qz K (qv 5) (qv 4) KD)
  (aq (b9 (cE lM hr (qv 0) (af (Xa yd hr (af (qv 2) (af (aP K (qv 5)) (af (qv 3) (af (qv 4) (af (aP K (qv 5)) (af (aP K (qv 5)) ak))))))) ak))))))))))),?_⟩
 refine⟨_,Z,A.a,A.dx,_,Z,Mw.h.oa,Z,_,Z,⟨⟨n,ρ,A,st,x,Z,Mw.h,Mw.wf.fB,λhn=>dq.no 3 ?_,λi p qq e1 e2 e3=>?_⟩⟩⟩
 .unfold kG;rw[au (λz=>?_)];obtain⟨j,p,h1,h2⟩:=oJ z;exact hn p (bw h1) h2
 have fT:=bw e2;have eg:cI st x=p:=dN Mw.wf fT e1;subst e1;have hm:=B3 e2;have eR:kG st p.nm y a we=match newR st y with
  | some i=>some i
  | none=>if a<1\/we<0 then some 5 else if p.wo<=a\/p.we<we then some 6 else none:=by unfold kG;rw[av hm,eg];first|done|(cases newR st y <;> rfl)
 refine⟨_,Z,A.a,A.dx,_,Z,Mw.h.oa,Z,_,Z,⟨⟨n,ρ,A,st,y,Z,Mw.h,hy0,λi hi=>dq.no i (by rw[eR,hi]),λhnew H1 g1=>?_⟩⟩⟩;rw[hnew]at eR;have eR:kG st p.nm y a we=if a<1\/we<0 then some 5 else if p.wo<=a\/p.we<we then some 6 else none:=eR;have hh:=Mw.mono g1;obtain⟨k1,k2,k3,k4⟩:=hh.h.opt i p qq e2 e3;by_cases hb:a<1\/we<0
 .have rq:=dq.no 5 (by rw[eR,av hb]);refine⟨true,⟨_,Z,_,_,Z,Z,_,Z,cD (λc=>⟨Z,Z⟩) λc=>⟨_,Z,_,_,Z,Z,_,Z,bh (hb.resolve_left λz=>c (bh z)),Z⟩⟩,lR (rq 0 H1 g1)⟩
 rw[au hb]at eR;refine⟨false,⟨_,Z,_,_,Z,Z,_,Z,cD (λc=>absurd (dY c) (by omega)) λ_=>⟨_,Z,_,_,Z,Z,_,Z,c9 (by omega),Z⟩⟩,aL ?_⟩;by_cases hb2:p.wo<=a\/p.we<we
 .have rq:=dq.no 6 (by rw[eR,av hb2]);refine⟨true,⟨_,Z,_,Z,qq.1,T.part,qq.2.1,_,_,Z,k1,X.cP,X.wO,Z,_,_,Z,Z,_,Z,cD (λc=>⟨Z,Z⟩) λc=>⟨_,Z,_,Z,qq.1,T.part,qq.2.1,_,_,Z,k1,X.cP,X.Tc,Z,_,_,Z,Z,_,Z,bh (hb2.resolve_left λz=>c (bh z)),Z⟩⟩,lR (rq 0 H1 g1)⟩
 rw[au hb2]at eR;have q:=dq.ok eR;refine⟨false,⟨_,Z,_,Z,qq.1,T.part,qq.2.1,_,_,Z,k1,X.cP,X.wO,Z,_,_,Z,Z,_,Z,cD (λc=>absurd (dY c) (by show ¬ p.wo<=a;omega)) λ_=>⟨_,Z,_,Z,qq.1,T.part,qq.2.1,_,_,Z,k1,X.cP,X.Tc,Z,_,_,Z,Z,_,Z,c9 (by show ¬ p.we<we;omega),Z⟩⟩,aL ?_⟩;refine⟨_,Z,qq.1,T.part,qq.2.1,_,_,Z,k1,X.cP,X.wO,Z,_,Z,_,_,Z,Z,qq.2.1,_,k1,by show 6<1000;decide,?_⟩;have wA:Wf (n_ st p.nm λp=>{ p with wo:=p.wo-a }):=ya hh.wf λp' eL e=>by rw[nG hh.wf eL fT e];exact⟨Z,Z,Z,Z,by show 1<=p.wo-a;omega,(hh.wf.ki p fT).2⟩
 have wB:Wf (n_ st p.nm λp=>{ p with wo:=p.wo-a,we:=p.we-we }):=ya hh.wf λp' eL e=>by rw[nG hh.wf eL fT e];exact⟨Z,Z,Z,Z,by show 1<=p.wo-a;omega,by show 0<=p.we-we;omega⟩
 have wS:=LV hh.wf eR hl1 hl2;have esA:n_ st p.nm (λp=>{ p with wo:=p.wo-a })={ st with ah:=st.ah.set i { p with wo:=p.wo-a } }:=B6 hh.wf.fB e2 _;have esB:n_ st p.nm (λp=>{ p with wo:=p.wo-a,we:=p.we-we })={ st with ah:=st.ah.set i { p with wo:=p.wo-a,we:=p.we-we } }:=B6 hh.wf.fB e2 _;have hi:i<st.ah.length:=(di.mp e2).1;have hA:=hh.h.iX (p1:={ p with wo:=p.wo-a }) hh.g e2 e3 rfl rfl hh.wf.fB;have gA:Gh ρ (upd H1 qq.1 (.ins T.part qq.2.1 (dB { p with wo:=p.wo-a } qq.2.2))):=hh.g.wr rfl;have FA:Fr n ρ H ρ (upd H1 qq.1 (.ins T.part qq.2.1 (dB { p with wo:=p.wo-a } qq.2.2))):=(Fr.of_same g1).trans (Fr.write k3);have kA:upd H1 qq.1 (.ins T.part qq.2.1 (dB { p with wo:=p.wo-a } qq.2.2)) qq.1=some (.ins T.part qq.2.1 (dB { p with wo:=p.wo-a } qq.2.2)):=ao;have nA:∀b,upd H1 qq.1 (.ins T.part qq.2.1 (dB { p with wo:=p.wo-a } qq.2.2)) b=none->H b=none:=λb h=>g1.free (kh h);show u_ _ _ _ _ (upd H1 qq.1 (.ins T.part qq.2.1 (dB { p with wo:=p.wo-a } qq.2.2)));generalize upd H1 qq.1 (.ins T.part qq.2.1 (dB { p with wo:=p.wo-a } qq.2.2))=H2 at *;refine⟨_,Z,qq.1,T.part,qq.2.1,_,_,Z,kA,X.cP,X.Tc,Z,_,Z,_,_,Z,Z,qq.2.1,_,kA,by show 6<1000;decide,?_⟩;have hB:=hA.iX (i:=i) (p1:={ p with wo:=p.wo-a,we:=p.we-we }) gA (iB hi) e3 rfl rfl (by have:=wA.fB;rw[esA]at this;exact this);have Xq:(st.ah.set i { p with wo:=p.wo-a }).set i { p with wo:=p.wo-a,we:=p.we-we }=st.ah.set i { p with wo:=p.wo-a,we:=p.we-we }:=oB ..;have gB:Gh ρ (upd H2 qq.1 (.ins T.part qq.2.1 (dB { p with wo:=p.wo-a,we:=p.we-we } qq.2.2))):=gA.wr rfl;have FB:Fr n ρ H ρ (upd H2 qq.1 (.ins T.part qq.2.1 (dB { p with wo:=p.wo-a,we:=p.we-we } qq.2.2))):=FA.trans (Fr.write k3);have kB:upd H2 qq.1 (.ins T.part qq.2.1 (dB { p with wo:=p.wo-a,we:=p.we-we } qq.2.2)) qq.1=some (.ins T.part qq.2.1 (dB { p with wo:=p.wo-a,we:=p.we-we } qq.2.2)):=ao;generalize hH3:upd H2 qq.1 (HO.ins T.part qq.2.1 (br _ _ _))=H3;have Wu:upd H2 qq.1 (.ins T.part qq.2.1 (dB { p with wo:=p.wo-a,we:=p.we-we } qq.2.2))=H3:=hH3;have nB:∀b,H3 b=none->H b=none:=λb h=>nA b (kh (by rw[Wu];exact h));rw[Wu]at hB gB FB kB;have j0:HH T n ρ A H3 (n_ st p.nm λp=>{ p with wo:=p.wo-a,we:=p.we-we }):=⟨gB,by rw[esB,<-Xq];exact hB,wB⟩
 obtain⟨_,r3,_,_⟩:=hB.opt i { p with wo:=p.wo-a,we:=p.we-we } qq (by show((st.ah.set i _).set i _)[i]?=_;rw[Xq];exact iB hi) e3;clear hA hB gA FA kA hH3 Wu;refine⟨_,Z,A.a,A.dx,_,Z,j0.h.oa,Z,_,Z,_,Z,qq.1,T.part,qq.2.1,_,_,Z,kB,X.cP,X.pow,Z,_,Z,_,Z,_,Z,qq.1,T.part,qq.2.1,_,_,Z,kB,X.cP,X.Ld,Z,_,Z,qq.1,T.part,qq.2.1,_,_,Z,kB,X.cP,X.Pf,Z,?_⟩;intro v dv hv hdv hvd;have Uk:upd (upd H3 dv (.own v)) v (.ins T.part dv []) qq.2.2=some (.lst (p.row.map V.int)):=by rw[az (aG r3 hv),az (aG r3 hdv)];exact r3
 refine⟨⟨v,dv,qq.2.2,⟨y,p.ow,a,we,p.sc,p.row⟩,Z,ao,aB.of Uk,λrr H6 hrr k6 hy6 Wr=>⟨Z,?_⟩⟩⟩;have Mi:H3 rr=none:=kh (kh hrr);have g6:aM H3 H6:=λb u e=>k6 b u (by rw[az (aG e hv),az (aG e hdv)];exact e) (aG e hv);have uI:=j0.mono g6;have F6:=FB.trans (Fr.of_same (ρ:=ρ) g6);unfold qy at wS q;rw[eg]at wS q;exact⟨⟨n,ρ,A,_,(v,dv,rr),_,Z,uI,hy6,Wr,j0.g.none hv,j0.g.none Mi,(kZ eR).2.1.2,wS,λρ' A' H' a1 a2 a3=>q ρ' A' H' a1 a2 (a3.fr F6 (nB _ hv) (nB _ Mi))⟩⟩
abbrev r8:Stmt:=inClass (top 21) 10
abbrev oS:List Str:=["self"]
abbrev Jg:List Str:=oS
theorem GS:aR Jg oS (aD r8):=dF
theorem GU{T:TC}(F:jq K T.hold "roster" "Hold.roster" r8 f fd)(X:Txt K T)(dI:mg "list"=none):Mn P w K mg base 1 T.hold "roster" oS (Li T):=by refine F.oA GS λcdv A outer s H vs Q E hr h=>?_;obtain⟨⟨n,ρ,A,st,rfl,h,q⟩⟩:=h;refine⟨_,(@cY.h _ _ _ (aq (aY (kO (Rj rfl) (by rfl) dI u7 (af (aP K (qv 0)) ak))))),?_⟩;refine⟨_,Z,A.a,T.hold,A.dx,_,_,Z,h.oa,X.cH,X.hpl,Z,A.pl,_,Z,.inl h.iW,λl hl=>?_⟩;rw[CY];exact q l hl
abbrev vX:Stmt:=top 26
abbrev iI:List Str:=["_law_script","_law_k","_law_j","_law_many"]
abbrev N4:List Str:=iI.append ["_law_cell","_law_turn","_law_rest","_law_step","_law_one","_law_two"]
theorem fV:aR N4 iI (aD vX):=dF
theorem Mx(F:At K mg "_law_draw" vX f fd)(bD:mg "len"=none)(bX:mg "range"=none):Dn P w K mg base 1 "_law_draw" iI (tE K):=by
 refine F.oA fV λcdv A outer s H vs Q E hr h=>?_;obtain⟨⟨a,ns,k,j,many,rfl,hS,h63,hk,hj,hj2,hm,q⟩⟩:=h;refine⟨_,(@cY.h _ _ _ (aj (aX (i:=4) fV.nd ai)
  (aj (aX (i:=5) fV.nd ai)
  (aj (iz (aN jE (aJ (bL K) (by rfl) bD c5 (af (qv 0) ak)) ai (aU _)) (aj (aX (i:=4) fV.nd (aC (aK K) (qv 0) (aI kr (qv 1) (aJ (bL K) (by rfl) bD c5 (af (qv 0) ak)))))
  (aq (aX (i:=5) fV.nd (aI iC (qv 1) (aJ (bL K) (by rfl) bD c5 (af (qv 0) ak)))))) bf)
  (aj (aX (i:=6) fV.nd (qv 4))
  (aj (eX fC rfl (fR (by rfl) bX (af (qv 2) ak)) (aT (i:=7) fV.nd) (aq (aX (i:=6) fV.nd (aI iC (qv 6) (aI nV ai ai)))))
  (aj (bZ (eO (bW.pt (qA (aN d8 (qv 5) ai (aU _)) (qA (aN JZ (qv 4) (aI nV ai ai) (aU _)) (rM (aN jE (qv 6) ai (aU _))))))) (aq (aY (aI kr (aI kr (qv 6) (aI nV ai ai)) (qv 3)))) bf)
  (aj (aX (i:=8) fV.nd (aI kr (aI cU (aI cU (aI cU (aI iK (qv 4) ai) (aI iK (qv 1) ai)) (aI iK (qv 2) ai)) ai) ai))
  (aj (aX (i:=9) fV.nd (aI kr (aI cU (aI iK (qv 8) ai) (aI iC (qv 4) ai)) ai))
  (aj (aX (i:=9) fV.nd (aI kr (aI cU (aI iK (qv 9) (aI cU (aI kr (qv 8) ai) ai)) (qv 2)) ai))
  (aq (aY (aI kr (aI kr (aI cU (aI cU (aI iK (qv 8) ai) (aI iK (qv 9) ai)) (aI iC (qv 9) ai)) ai) (qv 3)))))))))))))),?_⟩
 have hl:(ns.map V.int).length=ns.length:=aE _;refine⟨λσ H'=>H'=H/\σ=[some (.ref a),some (.int k),some (.int j),some (.int many),some (.int (Jm.cellOf ns k)),some (.int (Jm.Ai ns k)),none,none,none,none],?_,?_⟩
 .refine ⟨_,Z,a,_,Z,.inl hS,_,_,Z,Z,_,Z,?_⟩;refine cD (λc=>?_) (λc=>?_)
  .have c':0<(((ns.map V.int).length:Nat):Int):=dY c;rw[hl]at c';have i0:0<=k % (ns.length:Int):=oz _ (by omega);have i1:k % (ns.length:Int)<(ns.length:Int):=yo _ c';refine⟨_,Z,_,Z,_,Z,a,_,Z,.inl hS,_,_,Z,Z,(by show(0:Int)<_;rw[hl];exact c'),a,_,_,.int (ns.getD (k % ns.length).toNat 0),Z,Z,hS,?_,?_⟩
   .rw [hl];exact Yb i0 i1
   refine⟨_,Z,_,Z,a,_,Z,.inl hS,_,_,Z,Z,Vt (n:=10) (by rw[hl];exact c') (by rw[hl];omega) (by decide),Z,?_⟩;unfold Jm.cellOf Jm.Ai;rw[av c',av c',hl];rfl
  .have c':¬ 0<(((ns.map V.int).length:Nat):Int):=oW (nM.mpr c);rw[hl]at c';refine⟨Z,?_⟩;unfold Jm.cellOf Jm.Ai;rw[au c',au c'];rfl
 rintro σ H' ⟨rfl,rfl⟩;generalize ec:Jm.cellOf ns k=cell at *;generalize et:Jm.Ai ns k=turn at *;refine⟨_,Z,_,Z,j,Z,by omega,hj2,?_⟩;refine iw (lo:=0) (n:=j.toNat) (λi σ Ew=>Ew=H'/\∃st:Option V,σ=[some (.ref a),some (.int k),some (.int j),some (.int many),some (.int cell),some (.int turn),some (.int (Jm.D7 cell i)),st,none,none]) ⟨Z,none,Z⟩ ?_ ?_
 .rintro i σ Ew hi ⟨rfl,st,rfl⟩;refine⟨_,Z,_,_,Z,Z,⟨by decide,by decide,by decide⟩,_,_,Z,Z,Ag (by decide +kernel),Z,?_⟩;exact⟨_,Z⟩
 rintro σ Ew ⟨rfl,st,rfl⟩;have full:Q (.int (Jm.draw ns k j many)) Ew:=q;unfold Jm.draw at full;rw[ec,et]at full;generalize er:Jm.D7 cell j.toNat=rest at *;refine⟨decide (turn=0/\1000000000000000000<=cell/\0<rest),?_,?_⟩
 .refine ⟨_,Z,Z,_,Z,?_⟩;by_cases h1:turn=0
  .rw [bh (by rw[h1] :V.int turn=V.int 0)];refine lR ⟨_,Z,_,_,Z,Z,⟨by decide,by decide,by decide⟩,_,_,Z,Z,_,Z,?_⟩;by_cases h2:1000000000000000000<=cell
   .rw [bh (show(10:Int) ^ (18:Int).toNat<=cell from h2)];refine lR ⟨_,Z,_,_,Z,Z,_,Z,?_,Z⟩;by_cases h3:0<rest
    .rw [bh h3,bh ⟨h1,h2,h3⟩]
    .rw [c9 h3,c9 λz=>h3 z.2.2]
   .rw [c9 (show ¬ (10:Int) ^ (18:Int).toNat<=cell from h2)];exact aL ⟨(c9 λz=>h2 z.2.1).symm,Z⟩
  .rw [c9 (λz=>h1 (V.int.inj z))];exact aL ⟨(c9 λz=>h1 z.1).symm,Z⟩
 by_cases h:turn=0/\1000000000000000000<=cell/\0<rest
 .rw [bh h];rw[av h]at full;refine lR ⟨_,Z,_,_,Z,Z,⟨by decide,by decide,by decide⟩,_,_,Z,Z,(by show(0:Int)<_;decide),_,Z,_,_,Z,Z,hm,?_⟩;exact full
 .rw [c9 h];rw[au h]at full;refine aL ?_;refine⟨_,Z,_,_,Z,Z,.inr ⟨by decide,by decide⟩,_,Z,_,_,Z,Z,.inr ⟨by decide,by decide⟩,_,_,Z,Z,_,Z,_,_,Z,Z,.inr ⟨by decide,by decide⟩,_,_,Z,Z,_,_,Z,Z,_,_,Z,Z,(by show(0:Int)<_;decide),?_⟩;refine⟨_,Z,_,_,Z,Z,.inr ⟨by decide,by decide⟩,_,Z,_,_,Z,Z,Ag (by decide +kernel),_,_,Z,Z,_,_,Z,Z,(by show(0:Int)<_;decide),?_⟩;unfold Jm.mixed at full;dsimp only at full ⊢;generalize e1:(cell*7919+k*104729+j*1299709+31) % 1000000007=one at *;generalize e2:(one*48271+cell / 1009) % 998244353=two at *;have b1:0<=one % 9973:=oz _ (by decide);have b2:one % 9973<9973:=yo _ (by decide);refine⟨_,Z,_,Z,_,_,Z,Z,(by show(0:Int)<_;decide),_,_,Z,Z,_,_,Z,Z,.inr ⟨by omega,by omega⟩,_,Z,_,_,Z,Z,_,_,Z,Z,(by show(0:Int)<_;decide),?_⟩;refine⟨_,Z,_,_,Z,Z,.inr ⟨by decide,by decide⟩,_,Z,_,_,Z,Z,.inr ⟨by decide,by decide⟩,_,_,Z,Z,_,Z,_,_,Z,Z,Ag (by decide +kernel),_,_,Z,Z,_,_,Z,Z,(by show(0:Int)<_;decide),_,Z,_,_,Z,Z,hm,?_⟩;exact full
abbrev vY:Stmt:=top 27
abbrev sW:List Str:=["_law_code","_law_size"]
abbrev N5:List Str:=sW.append ["_law_word","_law_at_here"]
theorem nc:aR N5 sW (aD vY):=dF
theorem My(F:At K mg "_law_name" vY f fd)(bX:mg "range"=none):Dn P w K mg base 1 "_law_name" sW Ga:=by
 refine F.oA nc λcdv A outer s H vs Q E hr h=>?_;obtain⟨⟨c,n,rfl,hc,hn,q⟩⟩:=h;refine⟨_,(@cY.h _ _ _ (aj (aX (i:=2) nc.nd aS)
  (aj (eX fC rfl (fR (by rfl) bX (af (qv 1) ak)) (aT (i:=3) nc.nd) (aj (aX (i:=2) nc.nd (aI QT (qv 2) (aC Sl aS (aI kr (qv 0) ai))))
  (aq (aX (i:=0) nc.nd (aI iC (qv 0) ai)))))
  (aq (aY (qv 2)))))),?_⟩
 refine⟨_,Z,_,Z,by omega,by omega,?_⟩;refine iw (lo:=0) (n:=(n:Int).toNat) (λi σ H'=>H'=H/\∃(s1:Option V),σ=[some (.int (c / 26 ^ i)),some (.int n),some (.str (tx (mj c i))),s1]) ⟨Z,none,by rw[Int.pow_zero,DP];rfl⟩ ?_ ?_
 .rintro i σ H' hi ⟨rfl,s1,rfl⟩;have hp:(0:Int)<26 ^ i:=Int.pow_pos (by decide);have hd0:0<=c / 26 ^ i:=JS hc (yv hp);have hm0:0<=c / 26 ^ i % 26:=oz _ (by decide);have hm1:c / 26 ^ i % 26<26:=yo _ (by decide);refine⟨_,Z,_,Z,_,_,Z,Z,(by show(0:Int)<26;decide),_,_,_,Z,Z,(by decide +kernel),SQ hm0 hm1,?_⟩;refine⟨_,_,Z,Z,?_,?_⟩
  .rw [Al,yF];show i+1<=sizeLine;exact DO (dz (by omega))
  refine⟨_,Z,_,_,Z,Z,vj (by decide) (jR (by decide +kernel)),Z,some (.int ((0:Int)+(i:Int))),?_⟩;have e1:c / 26 ^ i / 26=c / 26 ^ (i+1):=by rw[Int.ediv_ediv_of_nonneg (yv hp),Int.pow_succ]
  have e2:(tx (mj c i)++tx [97+(c / 26 ^ i % 26).toNat] :Str)=tx (mj c (i+1)):=by rw[aay,VA]
  rw[<-e1,<-e2];rfl
 rintro σ H' ⟨rfl,s1,rfl⟩;refine⟨_,Z,?_⟩;rw[tU];exact q
abbrev uy:Stmt:=top 28
abbrev qL:List Str:=["_law_script","_law_k","_law_many"]
abbrev Mz:List Str:=qL.append ["_law_alike","_law_size","_law_first","_law_shift","_law_at_here","_law_names_here","_law_code"]
theorem dR:aR Mz qL (aD uy):=dF
theorem Jh(F:At K mg "_law_names" uy f fd)(bu:Dn P w K mg base 1 "_law_draw" iI (tE K))(sX:Dn P w K mg base 1 "_law_name" sW Ga)(bX:mg "range"=none):Dn P w K mg base 2 "_law_names" qL (Gb K):=by
 refine F.oA dR λcdv A outer s H vs Q E hr h=>?_;obtain⟨⟨a,ms,k,many,rfl,hS,h63,hk,hm,q⟩⟩:=h;refine⟨_,(@cY.h _ _ _ (aj (aX (i:=3) dR.nd (BZ d8 (bB bu hr (af (qv 0) (af (qv 1) (af ai (af ai ak))))) ai (aU _)))
  (aj (aX (i:=4) dR.nd (aI cU ai (bB bu hr (af (qv 0) (af (qv 1) (af ai (af ai ak)))))))
  (aj (aX (i:=5) dR.nd (bB bu hr (af (qv 0) (af (qv 1) (af ai (af (aI nV ai ai) ak))))))
  (aj (aX (i:=6) dR.nd ai)
  (aj (iz (dW (qv 3)) (aq (eX fC rfl (fR (by rfl) bX (af (bB bu hr (af (qv 0) (af (qv 1) (af ai (af (qv 4) ak))))) ak)) (aT (i:=7) dR.nd) (aq (aX (i:=6) dR.nd (aI iK (qv 6) ai))))) bf)
  (aj (aX (i:=8) dR.nd (iO ak))
  (aj (eX fC rfl (fR (by rfl) bX (af (qv 2) ak)) (aT (i:=7) dR.nd) (aj (aX (i:=9) dR.nd (aI cU (qv 5) (aI iK (qv 6) (bB bu hr (af (qv 0) (af (qv 1) (af (aI cU ai (aI iK ai (qv 7))) (af ai ak))))))))
  (aj (iz (eU (dW (qv 3))) (aj (aX (i:=4) dR.nd (aI cU ai (bB bu hr (af (qv 0) (af (qv 1) (af (aI cU ai (aI iK ai (qv 7))) (af ai ak)))))))
  (aq (aX (i:=9) dR.nd (bB bu hr (af (qv 0) (af (qv 1) (af (aI cU ai (aI iK ai (qv 7))) (af (aI nV ai ai) ak)))))))) bf)
  (aj (C8 fC (aN Sn (bB sX hr (af (qv 9) (af (qv 4) ak))) (qv 8) (by with_unfolding_all rfl)) (aq (aX (i:=9) dR.nd (aI cU (qv 9) (qv 6)))))
  (aq (b9 (jY mO mK mL dU (qv 8) (af (bB sX hr (af (qv 9) (af (qv 4) ak))) ak))))))))
  (aq (aY (qv 8))))))))))),?_⟩
 have P10:U_ 10 10:=⟨by decide,by decide,by decide +kernel⟩
 refine⟨_,Z,_,Z,c7 hS h63 hk (by decide) (by decide) (by decide) λal _ _ _=>⟨Z,?_⟩⟩;refine⟨_,Z,_,Z,c7 hS h63 hk (by decide) (by decide) (by decide) λsd _ s0 s1=>⟨_,_,Z,Z,?_⟩⟩;refine⟨_,Z,_,Z,_,_,Z,Z,P10,c7 hS h63 hk (by decide) (by decide) (by decide +kernel) λfc _ f0 f1=>?_⟩;generalize hal:decide (V.int al=V.int 0)=alike;obtain⟨n0,en0⟩:∃n:Nat,1+sd=(n:Int):=⟨(1+sd).toNat,by omega⟩
 refine⟨λσ H'=>H'=H/\∃(d:Nat)(s7:Option V),(alike=true->d<n0)/\(alike=false->d=0)/\d<8/\σ=[some (.ref a),some (.int k),some (.int many),some (.bl alike),some (.int (1+sd)),some (.int fc),some (.int ((26:Int) ^ d)),s7,none,none],?_,?_⟩
 .refine ⟨_,Z,_,Z,cD (λc=>?_) (λc=>?_)⟩
  .refine ⟨_,Z,_,Z,_,Z,c7 hS h63 hk (by decide) (by decide) (by omega) λdd _ d0 d1=>⟨dd,Z,by omega,by omega,?_⟩⟩;refine iw (lo:=0) (n:=dd.toNat) (λi σ H'=>H'=H/\∃s7:Option V,σ=[some (.ref a),some (.int k),some (.int many),some (.bl alike),some (.int (1+sd)),some (.int fc),some (.int ((26:Int) ^ i)),s7,none,none]) ⟨Z,none,Z⟩ ?_ ?_
   .rintro i σ H' hi ⟨rfl,s7,rfl⟩;refine⟨_,Z,_,_,Z,Z,.inr ⟨by decide,by decide⟩,Z,some (.int ((0:Int)+(i:Int))),?_⟩;rw[Int.pow_succ];rfl
   .rintro σ H' ⟨rfl,s7,rfl⟩;exact⟨Z,dd.toNat,s7,λ_=>by omega,λz=>absurd c (by rw[z];exact gk),by omega,Z⟩
  .exact ⟨Z,0,none,λz=>absurd z c,λ_=>rfl,by decide,Z⟩
 rintro σ H' ⟨rfl,d,s7,hd1,hd2,hd8,rfl⟩;refine⟨(iy 0),λpn vE=>?_⟩;have g0:=aF vE (.lst []);refine⟨_,Z,(many:Int),Z,by omega,by omega,?_⟩;refine iw (lo:=0) (n:=(many:Int).toNat) (λi σ H2=>aM H' H2/\∃(nss:List (List Nat))(n:Nat)(s1 s2:Option V),d<n/\n<=8/\σ=[some (.ref a),some (.int k),some (.int many),some (.bl alike),some (.int (n:Int)),some (.int fc),some (.int ((26:Int) ^ d)),s1,some (.ref pn),s2]/\H2 pn=some (.lst (tF nss))/\nss.length=i/\nss.Nodup/\∀x∈nss,qi x)
  ⟨g0,[],n0,s7,none,?_,by omega,by rw[<-en0];rfl,ao,Z,wI,λ_ m=>nomatch m⟩ ?_ ?_
 .cases alike with
  | true=>exact hd1 rfl
  | false=>rw[hd2 rfl];omega
 .rintro i σ H2 hi ⟨g,nss,n,s1,s2,hdn,Ql,rfl,hn,hnl,hnd,hok⟩;have hsl:(tF nss).length=i:=by unfold tF;rw[aE];exact hnl
  have hSg:=g.seq hS;have hp:(0:Int)<26 ^ d:=Int.pow_pos (by decide);have hp8:(26:Int) ^ d<2 ^ 64:=by rcases(by omega:d=0\/d=1\/d=2\/d=3\/d=4\/d=5\/d=6\/d=7)with e|e|e|e|e|e|e|e <;> (rw[e];decide +kernel)
  refine⟨_,Z,_,Z,_,Z,_,Z,_,Z,_,_,Z,Z,.inl ⟨by decide,by decide⟩,_,_,Z,Z,c7 hSg h63 hk (by omega) (by omega) (by decide) λcd _ c0 c1=>⟨_,_,Z,Z,.inl ⟨by omega,hp8⟩,_,_,Z,Z,?_⟩⟩;have hcode:0<=fc+26 ^ d*cd:=Int.add_nonneg f0 (lZ (yv hp) c0);refine⟨λσ H3=>H3=H2/\∃(n:Nat)(c:Int),0<=c/\d<n/\n<=8/\σ=[some (.ref a),some (.int k),some (.int many),some (.bl alike),some (.int (n:Int)),some (.int fc),some (.int ((26:Int) ^ d)),some (.int ((0:Int)+(i:Int))),some (.ref pn),some (.int c)],?_,?_⟩
  .refine ⟨_,Z,_,Z,?_⟩;cases hb:alike with
   | true=>exact aL ⟨Z,n,_,hcode,hdn,Ql,Z⟩
   | false=>refine lR ?_;have hd0:=hd2 hb;refine⟨_,Z,_,Z,_,Z,_,_,Z,Z,.inl ⟨by decide,by decide⟩,_,_,Z,Z,c7 hSg h63 hk (by omega) (by omega) (by decide) λzd _ z0 z1=>⟨_,_,Z,Z,?_⟩⟩;refine⟨_,Z,_,Z,_,Z,_,_,Z,Z,.inl ⟨by decide,by decide⟩,_,_,Z,Z,_,_,Z,Z,P10,c7 hSg h63 hk (by omega) (by omega) (by decide +kernel) λcd2 _ e0 _=>?_⟩;refine⟨Z,(1+zd).toNat,cd2,e0,by omega,by omega,?_⟩;rw[show(((1+zd).toNat:Nat):Int)=1+zd from by omega];rfl
  clear hdn Ql hcode;rintro σ H3 ⟨rfl,n,xo,cc0,hdn,Ql,rfl⟩;refine⟨λm σ H4=>H4=H3/\∃t:Nat,m=nss.length+1-t/\t<=nss.length/\σ=[some (.ref a),some (.int k),some (.int many),some (.bl alike),some (.int (n:Int)),some (.int fc),some (.int ((26:Int) ^ d)),some (.int ((0:Int)+(i:Int))),some (.ref pn),some (.int (xo+(t:Int)*26 ^ d))]/\∀j:Nat,j<t->mj (xo+(j:Int)*26 ^ d) n∈nss,
   ⟨_,Z,0,Z,gh _,by rw[show xo+((0:Nat):Int)*26 ^ d=xo from by simp],λj hj=>absurd hj (Nat.not_lt_zero _)⟩,?_⟩
  rintro m σ H4 ⟨rfl,t,rfl,ht,rfl,htr⟩;have hct:0<=xo+(t:Int)*26 ^ d:=Int.add_nonneg cc0 (lZ (by omega) (yv hp));refine⟨_,Z,_,Z,K7 rfl hct (by omega) ?_⟩;refine⟨_,Z,pn,_,Z,.inl (aB.of hn),Z,VD nss,?_⟩;show R_ _ (V.bl (if false=true then !Hy (.str (tx (mj (xo+(t:Int)*26 ^ d) n))) (tF nss) else Hy (.str (tx (mj (xo+(t:Int)*26 ^ d) n))) (tF nss))) _;rw[au gk,Pa];refine⟨_,Z,cD (λc=>?_) (λc=>?_)⟩
  .have hmem:mj (xo+(t:Int)*26 ^ d) n∈nss:=dY c;have ab_:∀j:Nat,j<t+1->mj (xo+(j:Int)*26 ^ d) n∈nss:=λj hj=>by
    rcases Nat.lt_succ_iff_lt_or_eq.mp hj with z|z
    .exact htr j z
    .rw [z];exact hmem
   have hle:=SV (c:=xo) (n:=n) (t:=t+1) hdn (by omega) ab_;refine⟨_,λ_ _ z=>z,?_⟩;refine⟨_,Z,_,Z,_,_,Z,Z,?_⟩;refine⟨_,(by omega:nss.length+1-(t+1)<nss.length+1-t),Z,t+1,Z,hle,?_,ab_⟩;rw[show xo+((t+1:Nat):Int)*26 ^ d=xo+(t:Int)*26 ^ d+26 ^ d from by rw[Int.natCast_add,p_];show _+(_+1*_)=_;rw[Int.one_mul,Int.add_assoc]];rfl
  .have hnm:mj (xo+(t:Int)*26 ^ d) n∉nss:=oW (nM.mpr c);refine⟨_,Z,.inl ⟨Z,_,aB.of hn⟩,?_⟩;refine⟨_,Z,_,Z,K7 rfl hct (by omega) ?_⟩;refine⟨pn,tF nss,_,Z,Z,hn,dz (by omega),g.cA vE _,nss++[mj (xo+(t:Int)*26 ^ d) n],n,_,_,hdn,Ql,Z,?_,?_,nC hnd hnm,λx hx=>?_⟩
   .rw [ao];unfold tF;rw[bP];rfl
   .rw [cZ,hnl];rfl
   .rcases dD.mp hx with z|z
    .exact hok x z
    .rw [dj.mp z];exact aaC _ (by omega) Ql
 rintro σ H2 ⟨g,nss,n,s1,s2,hdn,Ql,rfl,hn,hnl,hnd,hok⟩;exact⟨_,Z,q pn nss H2 g hn vE (by omega) hnd hok⟩
abbrev vZ:Stmt:=top 30
abbrev oq:List Str:=["_law_script","_law_k","_law_j"]
abbrev N6:List Str:=oq.append ["_law_size"]
theorem Bd:aR N6 oq (aD vZ):=dF
theorem MA(F:At K mg "_law_much" vZ f fd)(bu:Dn P w K mg base 1 "_law_draw" iI (tE K)):Dn P w K mg base 2 "_law_much" oq (Ed K):=by
 refine F.oA Bd λcdv A outer s H vs Q E hr h=>?_;obtain⟨⟨a,ns,k,j,rfl,hS,h63,hk,hj,hj2,q⟩⟩:=h;refine⟨_,(@cY.h _ _ _ (aj (aX (i:=3) Bd.nd (aC (aK K) (iO (af ai (af ai (af ai (af (aI nV ai ai) ak))))) (bB bu hr (af (qv 0) (af (qv 1) (af (qv 2) (af ai ak)))))))
  (aq (aY (aI cU ai (bB bu hr (af (qv 0) (af (qv 1) (af (aI cU (qv 2) ai) (af (qv 3) ak)))))))))),?_⟩
 refine⟨_,_,Z,Z,⟨by decide,by decide,by decide⟩,(iy 4),λp1 hp1=>?_⟩;have g1:=aF hp1 (.lst [V.int 9,V.int 40,V.int 1000,V.int (10 ^ (9:Int).toNat)]);refine⟨_,Z,_,Z,_,Z,c7 (g1.seq hS) h63 hk hj (by omega) (by decide) λd _ d0 d1=>?_⟩;obtain⟨B,hB,hB0,hB1⟩:∃B:Int,lC [V.int 9,V.int 40,V.int 1000,V.int (10 ^ (9:Int).toNat)] d=some (.int B)/\0<B/\B<=1000000000:=by
  rcases(by omega:d=0\/d=1\/d=2\/d=3)with e|e|e|e
  .exact ⟨9,by rw[e];rfl,by decide,by decide⟩
  .exact ⟨40,by rw[e];rfl,by decide,by decide⟩
  .exact ⟨1000,by rw[e];rfl,by decide,by decide⟩
  .exact ⟨10 ^ (9:Int).toNat,by rw[e];rfl,by decide,by decide⟩
 refine⟨p1,_,_,_,Z,Z,aB.of ao,hB,?_⟩;refine⟨_,Z,_,Z,_,Z,_,_,Z,Z,_,Z,c7 (g1.seq hS) h63 hk (by omega) (by omega) hB0 λe _ e0 e1=>⟨_,_,Z,Z,?_⟩⟩;exact q (1+e) _ (by omega) (by omega) g1
abbrev xJ:Stmt:=top 45
abbrev k_:List Str:=["_law_found"]
abbrev RA:List Str:=k_
theorem N7:aR RA k_ (aD xJ):=dF
theorem N8(F:At K mg "_law_int" xJ f fd)(bR:mg "isinstance"=none)(RB:mg "int"=none)(MB:mg "bool"=none):Dn P w K mg base 1 "_law_int" k_ D8:=by refine F.oA N7 λcdv A outer s H vs Q E hr h=>?_;obtain⟨i,rfl,q⟩:=h;refine⟨_,(@cY.h _ _ _ (aq (aY (LL (aJ (dH K) (by rfl) bR u6 (af (qv 0) (af (kX PyProof.Rows.boot_int rfl RB) ak))) (LI (abg (aJ (dH K) (by rfl) bR u6 (af (qv 0) (af (kX PyProof.Rows.boot_bool rfl MB) ak))))))))),?_⟩;refine⟨_,Z,_,_,_,_,Z,gT.int i,gW,_,Z,lR ?_⟩;refine⟨_,Z,_,_,_,_,Z,gT.int i,KW,_,Z,?_⟩;exact q
abbrev uz:Stmt:=top 47
abbrev ng:List Str:=["_law_top","_law_bottom"]
abbrev MC:List Str:=ng.append ["_law_one","_law_other"]
theorem oU:aR MC ng (aD uz):=dF
theorem Ji(F:At K mg "_law_least" uz f fd)(RC:mg "abs"=none):Dn P w K mg base 1 "_law_least" ng BL:=by
 refine F.oA oU λcdv A outer s H vs Q E hr h=>?_;obtain⟨⟨t,b,rfl,hb,hb2,q⟩⟩:=h;refine⟨_,(@cY.h _ _ _ (aj (aX (i:=2) oU.nd (aJ Va (by rfl) RC PyProof.Rows.boot_abs (af (qv 0) ak)))
  (aj (aX (i:=3) oU.nd (qv 1))
  (aj (C8 fC (aN sr (qv 3) ai (aU _)) (aq (TY (i:=2) (j:=3) rfl oU.nd rfl rfl (by decide) rfl rfl (af (qv 3) (af (aI kr (qv 2) (qv 3)) ak)) (by rfl))))
  (aq (aY (gx (af (aI iC (qv 0) (qv 2)) (af (aI iC (qv 1) (qv 2)) ak))))))))),?_⟩
 refine⟨_,Z,_,Z,_,Z,?_⟩;refine⟨λm σ H'=>∃x y:Int,m=y.toNat/\σ=[some (.int t),some (.int b),some (.int x),some (.int y)]/\H'=H/\0<=x/\0<=y/\Jm.cf x y=Jm.cf b t,
  ⟨_,(if t<0 then -t else t),b,Z,Z,Z,(by split <;> omega),yv hb,(by rw[Jm.O9,Jm.aao])⟩,?_⟩
 rintro m σ H' ⟨x,y,rfl,rfl,rfl,hx,hy,e⟩;refine⟨_,Z,Z,_,Z,cD (λc=>?_) (λc=>?_)⟩
 .have c1:¬ V.int y=V.int 0:=oW (by simpa using c);have c':0<y:=by have:y≠0:=λz=>c1 (by rw[z]);omega
  refine⟨_,λ_ _ z=>z,?_⟩;refine⟨_,Z,_,Z,_,Z,_,_,Z,Z,c',_,_,Z,?_⟩;have h1:0<=x % y:=oz _ (by omega);have h2:x % y<y:=yo _ c';exact⟨_,(by omega:(x % y).toNat<y.toNat),y,x % y,Z,Z,Z,hy,h1,(Jm.FZ x y c').trans e⟩
 .have c1:V.int y=V.int 0:=by simpa using c
  have ey:y=0:=V.int.inj c1;subst ey;rw[Jm.O8 x hx]at e;subst e;have g0:0<Jm.cf b t:=Jm.D6 _ _ (.inl hb);have g1:Jm.Sz 9000 (Jm.cf b t):=hb2.dvd hb (yv g0) (Jm.sJ b t);have gd:∀i,BJ i (Jm.cf b t):=λi=>vj g0 g1;refine⟨_,Z,_,Z,_,_,Z,Z,gd _,_,Z,_,Z,_,_,Z,Z,gd _,(iy 2),λp hp=>?_⟩;refine q p _ (aF hp _) ?_;rw[ao];show some (HO.tup [V.int (t / Jm.cf b t),V.int (b / Jm.cf b t)])=some (HO.tup [V.int (Jm.fr t b).num,V.int ((Jm.fr t b).den:Int)]);rw[Jm.Sy t b hb,Jm.KY t b hb]
abbrev zx:Stmt:=top 48
abbrev xr:List Str:=["_law_found","_law_top","_law_bottom"]
abbrev Uq:List Str:=xr
theorem RD:aR Uq xr (aD zx):=dF
theorem RE(F:At K mg "_law_is" zx f fd)(fG:Dn P w K mg base 1 "_law_int" k_ D8)(kL:Dn P w K mg base 1 "_law_least" ng BL)(bR:mg "isinstance"=none)(iE:mg "tuple"=none)(bD:mg "len"=none):Dn P w K mg base 2 "_law_is" xr Vw:=by
 refine F.oA RD λcdv A outer s H vs Q E hr h=>?_
 obtain⟨⟨p,q,t,b,rfl,hp,h0,h1,e,hq⟩⟩:=h
 refine⟨_,(@cY.h _ _ _ (aj (bZ (eO (bW.pt (iS (eU (dW (aJ (dH K) (by rfl) bR u6 (af (qv 0) (af (kX J9 rfl iE) ak))))) (iA (aN sr (aJ (bL K) (by rfl) bD c5 (af (qv 0) ak)) ai (aU _)))))) (aq (aY gD)) bf)
  (aj (bZ (eO (bW.pt (iS (eU (dW (bB fG hr (af (aC (aO K) (qv 0) ai) ak)))) (iA (eU (dW (bB fG hr (af (aC (aO K) (qv 0) ai) ak)))))))) (aq (aY gD)) bf)
  (aq (aY (BZ (Yc K hr.units) (qv 0) (bB kL hr (af (qv 1) (af (qv 2) ak))) (aU _))))))),?_⟩
 refine⟨false,?_,aL ?_⟩
 . refine⟨_,Z,_,_,_,_,Z,gT.tup hp,gW,_,Z,aL ?_⟩
   exact⟨_,Z,_,_,Z,.inr (cS.of hp),Z,_,Z,Z,Z⟩
 refine⟨false,?_,aL ?_⟩
 . refine⟨_,Z,p,_,_,_,Z,Z,cS.of hp,Z,_,Z,_,Z,aL ?_⟩
   exact⟨_,Z,p,_,_,_,Z,Z,cS.of hp,Z,_,Z,_,Z,Z,Z⟩
 refine⟨_,Z,_,Z,_,Z,HE h0 h1 λr H1 g1 hr1=>?_⟩
 rw[<-e]at hr1
 refine⟨_,_,SJ (g1 _ _ hp),SJ hr1,Cw _ _,Cw _ _,?_⟩
 rw[Vv]
 exact hq H1 g1
abbrev nP:Stmt:=top 46
abbrev lg:List Str:=["_law_found","_law_parts"]
abbrev Dr:List Str:=lg.append ["_law_at_here","_law_one"]
theorem nQ:aR Dr lg (aD nP):=dF
theorem Ce(F:At K mg "_law_part_list" nP f fd)(fG:Dn P w K mg base 1 "_law_int" k_ D8)(bR:mg "isinstance"=none)(dI:mg "list"=none)(iE:mg "tuple"=none)(qM:mg "str"=none)(bX:mg "range"=none)(bD:mg "len"=none):Dn P w K mg base 2 "_law_part_list" lg (Ex K):=by
 refine F.oA nQ λcdv A outer s H vs Q E hr h=>?_;obtain⟨⟨r,l,ws,us,ps,rfl,hr0,hP,hl,hR,hN,hle,q⟩⟩:=h;refine⟨_,(@cY.h _ _ _ (aj (bZ (eO (bW.pt (iS (eU (dW (aJ (dH K) (by rfl) bR u6 (af (qv 0) (af (kX u7 rfl dI) ak))))) (iA (aN sr (aJ (bL K) (by rfl) bD c5 (af (qv 0) ak)) (aJ (bL K) (by rfl) bD c5 (af (qv 1) ak)) (aU _)))))) (aq (aY gD)) bf)
  (aj (eX fC rfl (fR (by rfl) bX (af (aJ (bL K) (by rfl) bD c5 (af (qv 1) ak)) ak)) (aT (i:=2) nQ.nd) (aj (aX (i:=3) nQ.nd (aC (aK K) (qv 0) (qv 2)))
  (aj (bZ (eO (bW.pt (iS (eU (dW (aJ (dH K) (by rfl) bR u6 (af (qv 3) (af (kX J9 rfl iE) ak))))) (iA (aN sr (aJ (bL K) (by rfl) bD c5 (af (qv 3) ak)) ai (aU _)))))) (aq (aY gD)) bf)
  (aj (bZ (eO (bW.pt (iS (eU (dW (aJ (dH K) (by rfl) bR u6 (af (aC (aO K) (qv 3) ai) (af (kX Kc rfl qM) ak))))) (iA (eU (dW (aJ (dH K) (by rfl) bR u6 (af (aC (aO K) (qv 3) ai) (af (kX Kc rfl qM) ak))))))))) (aq (aY gD)) bf)
  (aj (bZ (eO (bW.pt (iS (eU (dW (bB fG hr (af (aC (aO K) (qv 3) ai) ak)))) (iA (eU (dW (bB fG hr (af (aC (aO K) (qv 3) ai) ak)))))))) (aq (aY gD)) bf)
  (aq (bZ (aN (F_ K hr.units) (qv 3) (gx (af (aC (gj K) (aC (aK K) (qv 1) (qv 2)) ai) (af (aC (gj K) (aC (aK K) (qv 1) (qv 2)) ai) (af (aC (gj K) (aC (aK K) (qv 1) (qv 2)) ai) (af (aC (gj K) (aC (aK K) (qv 1) (qv 2)) ai) ak))))) (aU _)) (aq (aY gD)) bf)))))))
  (aq (aY gD))))),?_⟩
 have hwl:=hP.length;have L8:=hR.len;refine⟨false,?_,aL ?_⟩
 .refine ⟨_,Z,_,_,_,_,Z,gT.lst hr0,gW,_,Z,aL ?_⟩;refine⟨_,Z,_,_,Z,.inl (aB.of hr0),_,Z,_,_,Z,.inl hl,Z,_,Z,?_,Z⟩;show(!decide (V.int (ws.length:Int)=V.int (us.length:Int)))=false;rw[bh (by rw[hwl,L8])];rfl
 refine⟨_,Z,l,us,Z,.inl hl,_,Z,by omega,by omega,?_⟩;refine iw (lo:=0) (n:=((us.length:Nat):Int).toNat) (λi σ H'=>aM H H'/\∃(s1 s2:Option V),σ=[some (.ref r),some (.ref l),s1,s2]) ⟨aM.refl _,none,none,Z⟩ ?_ ?_
 .rintro i σ H' hi ⟨g,s1,s2,rfl⟩;have e0:(0:Int)+(i:Int)=((i:Nat):Int):=by omega
  rw[e0];have hi':i<ps.length:=by omega
  have ep:=bq hi';obtain⟨t,et,ht⟩:=hP.get ep;obtain⟨u,xs,eu,hu,x0,x1,x2,x3⟩:=(hR.mono g).at_ i _ ep;have ht':=g _ _ ht;obtain⟨n1,n2⟩:=hN _ (Br hi');have hr1:=g _ _ hr0;have hl1:=g.seq hl;refine⟨_,Z,_,Z,r,ws,i,.ref t,Z,Z,aB.of hr1,iQ et,?_⟩;refine⟨false,⟨_,Z,_,_,_,_,Z,gT.tup ht',gW,_,Z,aL ⟨_,Z,_,_,Z,.inr (cS.of ht'),Z,_,Z,Z,Z⟩⟩,aL ?_⟩;refine⟨false,⟨_,Z,t,_,_,_,Z,Z,cS.of ht',Z,_,_,_,_,Z,gT.str _,gW,_,Z,aL ⟨_,Z,t,_,_,_,Z,Z,cS.of ht',Z,_,_,_,_,Z,gT.str _,gW,_,Z,Z,Z⟩⟩,aL ?_⟩;refine⟨false,⟨_,Z,t,_,_,_,Z,Z,cS.of ht',Z,_,Z,_,Z,aL ⟨_,Z,t,_,_,_,Z,Z,cS.of ht',Z,_,Z,_,Z,Z,Z⟩⟩,aL ?_⟩;refine⟨_,Z,_,Z,_,Z,l,us,i,.ref u,Z,Z,hl1,iQ eu,hu.ix (i:=0) x0 ?_⟩;refine⟨_,Z,_,Z,l,us,i,.ref u,Z,Z,hl1,iQ eu,hu.ix (i:=1) x1 ?_⟩;refine⟨_,Z,_,Z,l,us,i,.ref u,Z,Z,hl1,iQ eu,hu.ix (i:=2) x2 ?_⟩;refine⟨_,Z,_,Z,l,us,i,.ref u,Z,Z,hl1,iQ eu,hu.ix (i:=3) x3 ?_⟩;refine⟨(iy 4),λp1 hp1=>?_⟩;have g1:=aF hp1 (BQ ps[i]);refine⟨_,_,Pr (g1 _ _ ht'),Pr (p:=ps[i]) ao,CB n1 n2,CB n1 n2,_,Z,?_⟩;rw[VP];exact aL ⟨g.trans g1,_,_,Z⟩
 rintro σ H' ⟨g,s1,s2,rfl⟩;exact q H' g
abbrev nh:Stmt:=top 49
abbrev i6:List Str:=["_law_found","_law_owners","_law_tops","_law_bottom"]
abbrev Cf:List Str:=i6.append ["_law_due","_law_at_here","_law_pair"]
theorem j6:aR Cf i6 (aD nh):=dF
theorem Be(F:At K mg "_law_share_list" nh f fd)(kL:Dn P w K mg base 1 "_law_least" ng BL)(Bf:Dn P w K mg base 2 "_law_is" xr Vw)(bR:mg "isinstance"=none)(dI:mg "list"=none)(iE:mg "tuple"=none)(qM:mg "str"=none)(bX:mg "range"=none)(bD:mg "len"=none):Dn P w K mg base 3 "_law_share_list" i6 (Df K):=by
 refine F.oA j6 λcdv A outer s H vs Q E hr h=>?_;obtain⟨⟨r,lo,lt,ws,own,tops,b,rfl,hr0,hS,ho,ht,hlen,hle,b0,bz,q⟩⟩:=h;refine⟨_,(@cY.h _ _ _ (aj (V5 (i:=4) ["_law_at_here","_law_tops","_law_owners","_law_bottom"] [none,some 2,some 1,some 3] j6.nd rfl rfl rfl (fR (by rfl) bX (af (aJ (bL K) (by rfl) bD c5 (af (qv 2) ak)) ak)) (λ_ _ _ _=>(aT (i:=0) (show List.Nodup (["_law_at_here","_law_tops","_law_owners","_law_bottom"] :List Str)from by decide +kernel))) (λ_ _ _ _=>(gx (af (aC (aK K) (qv 2) (qv 0)) (af (bB kL hr (af (aC (aK K) (qv 1) (qv 0)) (af (qv 3) ak))) ak)))) (λ_ _ _ _=>(aN jE (aC (aK K) (qv 1) (qv 0)) ai (aU _))) rfl (by rfl) (by rfl))
  (aj (bZ (eO (bW.pt (iS (eU (dW (aJ (dH K) (by rfl) bR u6 (af (qv 0) (af (kX u7 rfl dI) ak))))) (iA (aN sr (aJ (bL K) (by rfl) bD c5 (af (qv 0) ak)) (aJ (bL K) (by rfl) bD c5 (af (qv 4) ak)) (aU _)))))) (aq (aY gD)) bf)
  (aj (eX fC rfl (fR (by rfl) bX (af (aJ (bL K) (by rfl) bD c5 (af (qv 4) ak)) ak)) (aT (i:=5) j6.nd) (aj (aX (i:=6) j6.nd (aC (aK K) (qv 0) (qv 5)))
  (aj (bZ (eO (bW.pt (iS (eU (dW (aJ (dH K) (by rfl) bR u6 (af (qv 6) (af (kX J9 rfl iE) ak))))) (iS (aN sr (aJ (bL K) (by rfl) bD c5 (af (qv 6) ak)) ai (aU _)) (iA (aN sr (aC (aO K) (qv 6) ai) (aC (aO K) (aC (aK K) (qv 4) (qv 5)) ai) (aU _))))))) (aq (aY gD)) bf)
  (aq (bZ (bW.pt (iS (eU (dW (aJ (dH K) (by rfl) bR u6 (af (aC (aO K) (qv 6) ai) (af (kX Kc rfl qM) ak))))) (iA (eU (dW (bB Bf hr (af (aC (aO K) (qv 6) ai) (af (aC (aO K) (aC (aO K) (aC (aK K) (qv 4) (qv 5)) ai) ai) (af (aC (aO K) (aC (aO K) (aC (aK K) (qv 4) (qv 5)) ai) ai) ak))))))))) (aq (aY gD)) bf)))))
  (aq (aY gD)))))),?_⟩
 have tml:(tops.map V.int).length=tops.length:=aE ..;have oml:(own.map V.str).length=own.length:=aE ..;refine⟨_,Z,lt,_,Z,.inl ht,_,Z,by omega,by omega,λacc hacc=>?_⟩;refine Gf (J:=Kz 0 _) (n:=tops.length) 0 (λi out H1=>aM H H1/\iM H1 out (c8 (own.take i) (tops.take i) b)) (by omega) ⟨aF hacc _,.nil⟩ (λi out H1 hi _ _=>by show i<((tops.map V.int).length:Int).toNat;omega) (λout H1 _ _=>by show((tops.map V.int).length:Int).toNat<=tops.length;omega) ?_ ?_
 .rintro i x out H1 H2 hi eW ha ⟨g,S⟩ ⟨rfl,rfl⟩;have e0:(0:Int)+(i:Int)=((i:Nat):Int):=by omega
  rw[e0];have et:=bq hi;have eo:=bq (show i<own.length from by omega);have et':(tops.map V.int)[i]?=some (.int tops[i]):=by rw[bO,et];rfl
  have eo':(own.map V.str)[i]?=some (.str own[i]):=by rw[bO,eo];rfl
  have Xr:c8 (own.take (i+1)) (tops.take (i+1)) b=c8 (own.take i) (tops.take i) b++(if 0<tops[i] then[(own[i],Jm.fr tops[i] b)] else[]):=by
   unfold c8;rw[take_snoc eo,take_snoc et,List.zip_append (by rw[nu,nu];omega),List.filterMap_append];congr 1;show List.filterMap _ [(own[i],tops[i])]=_;rw[z8];by_cases c:0<tops[i]
   .simp [c]
   .simp [c]
  refine⟨_,Z,_,Z,lt,_,i,_,Z,Z,g.seq ht,iQ et',_,_,Z,Z,_,Z,cD (λc=>?_) (λc=>?_)⟩
  .have c':0<tops[i] :=dY c;rw[av c']at Xr;refine⟨_,Z,_,Z,lo,_,i,_,Z,Z,g.seq ho,iQ eo',_,Z,_,Z,lt,_,i,_,Z,Z,g.seq ht,iQ et',_,Z,HE b0 bz λp2 H3 g3 hp2=>⟨(iy 2),λp3 hp3=>?_⟩⟩;have g4:=aF hp3 (.tup [.str own[i],.ref p2]);have v5:=g3.trans g4;refine⟨v5 _ _ ha,(g.trans v5).cA hacc _,?_⟩;rw[Xr];exact((S.mono v5.tups).snoc ao (g4 _ _ hp2)).mono (jJ (.inr ⟨_,v5 _ _ ha,Z⟩))
  .have c':¬ 0<tops[i] :=oW (nM.mpr c);rw[au c',sf]at Xr;exact⟨ha,g,by rw[Xr];exact S⟩
 rintro du H1 eW ha ⟨g1,D1⟩;rw[cJ,Wm]at D1;have hr1:=g1 _ _ hr0;have Qm:=hS.mono g1.tups;have l1:=Qm.length;have l2:=D1.length;have l3:(c8 own tops b).length<=1000:=by unfold c8;refine fD (List.length_filterMap_le _ _) ?_;rw[List.length_zip];omega
 have agS:∀x q,(x,q)∈c8 own tops b->Jm.Sz 9000 (q.den:Int):=λx q m=>IL b0 bz m;generalize c8 own tops b=sh at *;refine⟨false,?_,aL ?_⟩
 .refine ⟨_,Z,_,_,_,_,Z,gT.lst hr1,gW,_,Z,aL ?_⟩;refine⟨_,Z,_,_,Z,.inl (aB.of hr1),_,Z,_,_,Z,.inl (aB.of ha),Z,_,Z,?_,Z⟩;show(!decide (V.int (ws.length:Int)=V.int (du.length:Int)))=false;rw[bh (by rw[l1,l2])];rfl
 refine⟨_,Z,acc,du,Z,.inl (aB.of ha),_,Z,by omega,by omega,?_⟩;refine iw (lo:=0) (n:=((du.length:Nat):Int).toNat) (λi σ H'=>aM H1 H'/\∃(s1 s2:Option V),σ=[some (.ref r),some (.ref lo),some (.ref lt),some (.int b),some (.ref acc),s1,s2]) ⟨aM.refl _,none,none,Z⟩ ?_ ?_
 .rintro i σ H' hi ⟨g,s1,s2,rfl⟩;have e0:(0:Int)+(i:Int)=((i:Nat):Int):=by omega
  rw[e0];have hi':i<sh.length:=by omega
  obtain⟨xq,exq⟩:∃xq,sh[i]?=some xq:=⟨_,bq hi'⟩
  obtain⟨x,qq⟩:=xq;obtain⟨r1,f1,a1,a2,a3⟩:=Qm.get exq;obtain⟨r2,f2,b1,b2,b3⟩:=D1.get exq;have a2':=g _ _ a2;have a3':=g _ _ a3;have b2':=g _ _ b2;have b3':=g _ _ b3;have RG:=g _ _ ha;refine⟨_,Z,_,Z,r,ws,i,.ref r1,Z,Z,aB.of (g _ _ hr1),iQ a1,?_⟩;refine⟨false,⟨_,Z,_,_,_,_,Z,gT.tup a2',gW,_,Z,aL ⟨_,Z,_,_,Z,.inr (cS.of a2'),Z,_,Z,aL ?_⟩⟩,aL ?_⟩
  .refine ⟨_,Z,r1,_,_,_,Z,Z,cS.of a2',Z,_,Z,_,Z,acc,du,i,.ref r2,Z,Z,aB.of RG,iQ b1,r2,_,_,_,Z,Z,cS.of b2',Z,Z,_,Z,?_,Z⟩;show(!decide (V.str x=V.str x))=false;rw[bh rfl];rfl
  refine⟨_,Z,r1,_,_,_,Z,Z,cS.of a2',Z,_,_,_,_,Z,gT.str _,gW,_,Z,aL ?_⟩;refine⟨_,Z,r1,_,_,_,Z,Z,cS.of a2',Z,?_⟩;refine⟨_,Z,_,Z,acc,du,i,.ref r2,Z,Z,aB.of RG,iQ b1,r2,_,_,_,Z,Z,cS.of b2',Z,f2,_,_,_,Z,Z,cS.of b3',Z,?_⟩;refine⟨_,Z,_,Z,acc,du,i,.ref r2,Z,Z,aB.of RG,iQ b1,r2,_,_,_,Z,Z,cS.of b2',Z,f2,_,_,_,Z,Z,cS.of b3',Z,?_⟩;exact aax a3' (Jm.den_pos _) (agS _ _ (bw exq)) (Jm.X7 _).symm λH3 g3=>⟨_,Z,aL ⟨g.trans g3,_,_,Z⟩⟩
 rintro σ H' ⟨g,s1,s2,rfl⟩;exact q H' (g1.trans g)
abbrev lU:Stmt:=top 50
abbrev j7:List Str:=["_law_hold","_law_model_here"]
abbrev Bg:List Str:=j7.append ["_law_whole","_law_part"]
theorem lV:aR Bg j7 (aD lU):=dF
theorem zW{T:TC}(F:At K mg "_law_tells_parts" lU f fd)(fG:Dn P w K mg base 1 "_law_int" k_ D8)(pL:Dn P w K mg base 2 "_law_part_list" lg (Ex K))(ir:Dn P w K mg base 3 "_law_share_list" i6 (Df K))(v7:Mn P w K mg base 1 T.hold "parts" qE (Pn T))(ia:Mn P w K mg base 1 T.hold "whole" kH (BV T))(lI:Mn P w K mg base 4 T.hold "shares" lH (HP T))(g_:mg "sum"=none):Dn P w K mg base 5 "_law_tells_parts" j7 (uZ 1 T K):=by
 refine F.oA lV λcdv A outer s H vs Q E hr h=>?_
 obtain⟨⟨n,m,ρ,A,B,st,b,c,rfl,nm,hh,hb,gd,hc,Qn,hkn,q⟩⟩:=h
 refine⟨_,(@cY.h _ _ _ (aj (aX (i:=2) lV.nd (u0 ia hr (qv 0)))
  (aj (bZ (bW.pt (iS (eU (dW (bB fG hr (af (qv 2) ak)))) (iA (aN sr (qv 2) (aJ (mQ K rfl) (by rfl) g_ yj (af (ig ["_law_part"] [none] rfl (dO K (bM (bV hr) (qv 1) aS)) (λ_ _ _ _=>(aT (i:=0) (show List.Nodup (["_law_part"] :List Str)from by decide +kernel))) (λ_ _ _ _=>(aC (aK K) (qv 0) ai)) rfl (by rfl)) ak)) (aU _))))) (aq (aY gD)) bf)
  (aj (bZ (eU (dW (bB pL hr (af (u0 v7 hr (qv 0)) (af (bM (bV hr) (qv 1) aS) ak))))) (aq (aY gD)) bf)
  (aj (eX fC rfl (dO K (bM (bV hr) (qv 1) aS)) (aT (i:=3) lV.nd) (aq (bZ (eU (dW (bB ir hr (af (cE lI hr (qv 0) (af (aC (aK K) (qv 3) ai) ak)) (af (bM (bV hr) (qv 1) aS) (af (aC (aK K) (qv 3) ai) (af (bM (bV hr) (qv 1) aS) ak))))))) (aq (aY gD)) bf)))
  (aq (aY gD))))))),?_⟩
 have pl:=gd.pl
 have rl:=gd.rel.len
 have wl:=gd.rel.whole
 refine⟨_,Z,A.a,A.dx,_,Z,hh.h.oa,Z,⟨⟨n,ρ,A,st,Z,hh.h,by omega,λH1 g1=>?_⟩⟩⟩
 have gE:=hh.mono g1
 have hb1:=hb.mono g1
 have Ur:=hb1.op
 have zS:(B.qs.map λq=>V.ref q.1).length=b.ah.length:=by rw[aE];exact hb.ql
 refine⟨_,Z,_,Z,_,Z,aL ?_⟩
 refine⟨_,Z,_,Z,B.m,_,Z,cC.k (k:=Sum.inr "parts") hb1.om,B.lp,Z,⟨_,aB.of Ur⟩,λac hac=>?_⟩
 refine iL (J:=vc K B.lp) (n:=b.ah.length) 0 (λi o H'=>aM H1 H'/\o=((b.ah.take i).map (λp:BP=>p.wo)).map V.int) (by omega) ⟨aF hac _,Z⟩ (λi o H' hi _ hp=>⟨_,_,aB.of (hp.1 _ _ Ur),bq (by rw[zS];exact hi)⟩) (λo H' _ hp=>⟨_,aB.of (hp.1 _ _ Ur),by rw[zS];exact aQ _⟩) ?_ ?_
 . rintro j y o H2 H3 hj eW ha ⟨g,e⟩ ⟨rfl,hy⟩
   have ej:=bq hj
   obtain⟨qq,eq,k1,k2,_,_⟩:=hb1.find ej
   have ey:=hy _ (aB.of (g _ _ Ur))
   rw[bO,eq]at ey
   cases ey
   refine⟨_,Z,qq.1,_,_,_,Z,Z,aB.of (g _ _ k1),aA (j:=2) rfl,ha,g.cA hac _,?_⟩
   subst e
   rw[take_snoc ej,bP,bP]
   rfl
 rintro o H2 _ ha ⟨g2,e⟩
 rw[cJ]at e
 subst e
 refine⟨ac,b.ah.map (λp:BP=>p.wo),Z,aB.of ha,Z,_,Z,?_⟩
 have ew:aH st=(b.ah.map (λp:BP=>p.wo)).sum:=wl
 rw[show(!decide (V.int (aH st)=V.int (b.ah.map (λp:BP=>p.wo)).sum))=false from by rw[bh (by rw[ew])];rfl]
 refine aL ?_
 have kJ:=gE.mono g2
 have hb2:=hb1.mono g2
 refine⟨_,Z,A.a,A.dx,_,Z,kJ.h.oa,Z,⟨⟨n,ρ,A,st,Z,kJ.h,by omega,λr ws H3 g3 hr hw3 hP3=>?_⟩⟩⟩
 have E6:=hb2.mono g3
 refine⟨_,Z,B.m,_,Z,cC.k (k:=Sum.inr "parts") E6.om,⟨⟨r,B.lp,ws,_,st.ah,Z,hw3,hP3,aB.of E6.op,gd.rel.rows E6,gd.nms,by omega,λH4 g4=>⟨_,Z,aL ?_⟩⟩⟩⟩
 have oj:=(kJ.mono g3).mono g4
 have Bh:=E6.mono g4
 have o4:aM (out ρ H) (out ρ H4):=vt (((g1.trans g2).trans g3).trans g4)
 clear gE hb1 kJ hb2 E6 hw3 hP3 ha hac hr g1 g2 g3 g4 Ur
 refine⟨_,Z,B.m,_,Z,cC.k (k:=Sum.inr "parts") Bh.om,B.lp,Z,⟨_,aB.of Bh.op⟩,?_⟩
 refine kQ (K:=K) (xs:=B.qs.map λq=>V.ref q.1) (λi σ H'=>∃ρ' A' s3,σ=[some (.ref A.a),some (.ref B.m),some (.int (aH st)),s3]/\HH T n ρ' A' H' { st with kn:=st.kn+100*i }/\aZ m ρ' B H' b/\A'.a=A.a/\aM (out ρ H) (out ρ' H'))
  ⟨ρ,A,_,Z,oj,Bh,Z,o4⟩ (λi σ H' _ hp=>by obtain⟨_,_,_,_,_,h,_⟩:=hp;exact aB.of h.op) ?_ ?_
 . rintro i y σ H5 hy ⟨ρ5,A5,s3,rfl,xj,MD,E7,o5⟩
   rw[bO]at hy
   obtain⟨qq,eq,rfl⟩:=lQ.mp hy
   have hib:i<b.ah.length:=by rw[<-hb.ql];exact(di.mp eq).1
   have ei:=bq hib
   obtain⟨p,ep,e1,e2,_⟩:=gd.rel.at ei
   have fT:=bw ep
   have Xs:=bw ei
   obtain⟨k1,k2,_,_⟩:=MD.pt i _ qq ei eq
   refine⟨_,Z,A.a,A5.dx,_,Z,by rw[<-E7];exact xj.h.oa,Z,_,Z,qq.1,_,_,_,Z,Z,aB.of k1,aA (j:=0) rfl,⟨⟨n,ρ5,A5,_,i,p,by rw[E7,e1];rfl,xj,ep,by show st.kn+100*i+100<=1000000;omega,λr ws ρ6 A6 H6 uI ID f6 hr Uk cr hSh=>?_⟩⟩⟩
   have CL:=MD.other f6 xj.g (cu nm)
   obtain⟨k16,k26,_,_⟩:=CL.pt i _ qq ei eq
   have esh:mS { st with kn:=st.kn+100*i } p=c8 b.own (b.ah[i]).tops b.bot:=EF gd.pC gd.rel hh.wf gd.fJ fT Xs e1
   rw[esh]at hSh
   have b1:=gd.fJ.b1
   refine⟨_,Z,B.m,_,Z,cC.k (k:=Sum.inr "owners") CL.om,_,Z,qq.1,_,_,_,Z,Z,aB.of k16,aA (j:=4) rfl,_,Z,B.m,_,Z,cC.k (k:=Sum.inr "bottom") CL.om,⟨⟨r,B.lo,qq.2,ws,b.own,(b.ah[i]).tops,b.bot,Z,Uk,hSh,aB.of CL.oo,aB.of k26,Nat.le_of_eq (gd.fJ.tl _ Xs),by have:=gd.fJ.ol;omega,by omega,gd.fJ.bz.mono (by decide),λH7 g7=>⟨_,Z,aL ?_⟩⟩⟩⟩
   refine⟨ρ6,A6,_,Z,?_,CL.mono g7,ID.trans E7,(o5.trans f6.out).trans (vt g7)⟩
   have:=uI.mono g7
   rw[show st.kn+100*(i+1)=st.kn+100*i+100 by omega]
   exact this
 rintro σ H5 ⟨ρ5,A5,s3,rfl,xj,MD,E7,o5⟩
 refine q ρ5 A5 H5 _ xj ?_ MD E7 o5
 rw[zS];omega
abbrev lq:Stmt:=top 51
abbrev jG:List Str:=["_law_hold","_law_model_here"]
abbrev zX:List Str:=jG.append ["_law_found","_law_at_here","_law_one","_law_due"]
theorem ie:aR zX jG (aD lq):=dF
theorem zy{T:TC}(F:At K mg "_law_tells_landed" lq f fd)(fG:Dn P w K mg base 1 "_law_int" k_ D8)(ir:Dn P w K mg base 3 "_law_share_list" i6 (Df K))(uA:Mn P w K mg base 1 T.hold "landed" oO (Lk T))(bR:mg "isinstance"=none)(dI:mg "list"=none)(iE:mg "tuple"=none)(qM:mg "str"=none)(bX:mg "range"=none)(bD:mg "len"=none):Dn P w K mg base 4 "_law_tells_landed" jG (uZ 1 T K):=by
 refine F.oA ie λcdv A outer s H vs Q E hr h=>?_;obtain⟨⟨n,m,ρ,A,B,st,b,c,rfl,nm,hh,hb,gd,hc,Qn,hkn,q⟩⟩:=h;refine⟨_,(@cY.h _ _ _ (aj (aX (i:=2) ie.nd (u0 uA hr (qv 0)))
  (aj (bZ (eO (bW.pt (iS (eU (dW (aJ (dH K) (by rfl) bR u6 (af (qv 2) (af (kX u7 rfl dI) ak))))) (iA (aN sr (aJ (bL K) (by rfl) bD c5 (af (qv 2) ak)) (aJ (bL K) (by rfl) bD c5 (af (bM (bV hr) (qv 1) aS) ak)) (aU _)))))) (aq (aY gD)) bf)
  (aj (eX fC rfl (fR (by rfl) bX (af (aJ (bL K) (by rfl) bD c5 (af (qv 2) ak)) ak)) (aT (i:=3) ie.nd) (aj (aX (i:=4) ie.nd (aC (aK K) (qv 2) (qv 3)))
  (aj (aX (i:=5) ie.nd (aC (aK K) (bM (bV hr) (qv 1) aS) (qv 3)))
  (aj (bZ (eO (bW.pt (iS (eU (dW (aJ (dH K) (by rfl) bR u6 (af (qv 4) (af (kX J9 rfl iE) ak))))) (iS (aN sr (aJ (bL K) (by rfl) bD c5 (af (qv 4) ak)) ai (aU _)) (iA (eU (dW (bB fG hr (af (aC (aO K) (qv 4) ai) ak))))))))) (aq (aY gD)) bf)
  (aj (bZ (eO (bW.pt (iS (eU (dW (aJ (dH K) (by rfl) bR u6 (af (aC (aO K) (qv 4) ai) (af (kX Kc rfl qM) ak))))) (iA (eU (dW (aJ (dH K) (by rfl) bR u6 (af (aC (aO K) (qv 4) ai) (af (kX Kc rfl qM) ak))))))))) (aq (aY gD)) bf)
  (aj (bZ (aN (F_ K hr.units) (gx (af (aC (aO K) (qv 4) ai) (af (aC (aO K) (qv 4) ai) (af (aC (aO K) (qv 4) ai) ak)))) (gx (af (aC (aK K) (qv 5) ai) (af (aC (aK K) (qv 5) ai) (af (aC (aK K) (qv 5) ai) ak)))) (aU _)) (aq (aY gD)) bf)
  (aq (bZ (eU (dW (bB ir hr (af (aC (aO K) (qv 4) ai) (af (bM (bV hr) (qv 1) aS) (af (aC (aK K) (qv 5) ai) (af (aC (aK K) (qv 5) ai) ak))))))) (aq (aY gD)) bf))))))))
  (aq (aY gD)))))),?_⟩
 refine⟨_,Z,A.a,A.dx,_,Z,hh.h.oa,Z,⟨⟨n,ρ,A,st,Z,hh,λr ws H1 g1 hr hr1 hL=>?_⟩⟩⟩;have hb1:=hb.mono g1;obtain⟨vs,hv,hA⟩:=hb1.oa;have l1:=hL.length;have l2:=hA.length;have l3:=gd.c6.length;have l4:=hh.wf.uc;refine⟨false,?_,aL ?_⟩
 .refine ⟨_,Z,_,_,_,_,Z,gT.lst hr1,gW,_,Z,aL ?_⟩;refine⟨_,Z,_,_,Z,.inl (aB.of hr1),_,Z,B.m,_,Z,cC.k (k:=Sum.inr "ashore") hb1.om,_,_,Z,.inl (aB.of hv),Z,_,Z,?_,Z⟩;show(!decide (V.int (ws.length:Int)=V.int (vs.length:Int)))=false;rw[bh (by rw[l1,l2,l3])];rfl
 refine⟨_,Z,r,_,Z,.inl (aB.of hr1),_,Z,by omega,by omega,?_⟩;refine iw (lo:=0) (n:=((ws.length:Nat):Int).toNat) (λi σ H'=>aM H1 H'/\∃s3 s4 s5,σ=[some (.ref A.a),some (.ref B.m),some (.ref r),s3,s4,s5]) ⟨aM.refl _,_,_,_,Z⟩ ?_ ?_
 .rintro i σ H2 hi ⟨g2,s3,s4,s5,rfl⟩;have e0:(0:Int)+(i:Int)=((i:Nat):Int):=by omega
  rw[e0];have hi:i<ws.length:=by omega
  have ew:=bq hi;obtain⟨t,s,x,ss,e1,ex,t1,t2,_,t4⟩:=hL.got ew;rw[e1]at ew;have ev:=bq (show i<vs.length by omega);obtain⟨u,lt,e,e2,ee,u1,u2⟩:=hA.get ev;rw[e2]at ev;obtain⟨a1,a2,a3,a4,a5,a6,a7,a8,a9⟩:=gd.c6.get ex ee;have hb2:=hb1.mono g2;have t1:=g2 _ _ t1;have t2:=g2 _ _ t2;have t4:=t4.mono g2.tups;have u1:=g2 _ _ u1;have u2:=g2 _ _ u2;rw[a4]at t4;rw[a1,a2,a3]at t1;refine⟨_,Z,_,Z,r,ws,i,.ref t,Z,Z,aB.of (g2 _ _ hr1),iQ ew,?_⟩;refine⟨_,Z,B.m,_,Z,cC.k (k:=Sum.inr "ashore") hb2.om,_,Z,B.la,vs,i,.ref u,Z,Z,aB.of (g2 _ _ hv),iQ ev,?_⟩;refine⟨false,⟨_,Z,_,_,_,_,Z,gT.tup t1,gW,_,Z,aL ⟨_,Z,_,_,Z,.inr (cS.of t1),Z,_,Z,aL ⟨_,Z,t,_,_,_,Z,Z,cS.of t1,Z,_,Z,_,Z,Z,Z⟩⟩⟩,aL ?_⟩;refine⟨false,⟨_,Z,t,_,_,_,Z,Z,cS.of t1,Z,_,_,_,_,Z,gT.str _,gW,_,Z,aL ⟨_,Z,t,_,_,_,Z,Z,cS.of t1,Z,_,_,_,_,Z,gT.str _,gW,_,Z,Z,Z⟩⟩,aL ?_⟩;refine⟨_,Z,t,_,_,_,Z,Z,cS.of t1,Z,_,Z,t,_,_,_,Z,Z,cS.of t1,Z,_,Z,t,_,_,_,Z,Z,cS.of t1,Z,(iy 3),λp1 hp1=>?_⟩;have g3:=aF hp1 (.tup [.str e.nm,.str e.ow,.int e.wo]);have h3:upd H2 p1 (.tup [.str e.nm,.str e.ow,.int e.wo]) p1=some (.tup [.str e.nm,.str e.ow,.int e.wo]):=ao;show Z0 _ _ (upd H2 p1 (.tup [.str e.nm,.str e.ow,.int e.wo])) _;generalize upd H2 p1 (.tup [.str e.nm,.str e.ow,.int e.wo])=H3 at *;have u13:=g3 _ _ u1;refine⟨_,Z,u,_,_,_,Z,Z,aB.of u13,Z,_,Z,u,_,_,_,Z,Z,aB.of u13,Z,_,Z,u,_,_,_,Z,Z,aB.of u13,Z,(iy 3),λp2 hp2=>?_⟩;have g4:=aF hp2 (.tup [.str e.nm,.str e.ow,.int e.wo]);have h4:upd H3 p2 (.tup [.str e.nm,.str e.ow,.int e.wo]) p2=some (.tup [.str e.nm,.str e.ow,.int e.wo]):=ao;show Q8 K _ _ (upd H3 p2 (.tup [.str e.nm,.str e.ow,.int e.wo])) _;generalize upd H3 p2 (.tup [.str e.nm,.str e.ow,.int e.wo])=H4 at *;have D:∀{p:Addr},H4 p=some (.tup [.str e.nm,.str e.ow,.int e.wo])->Dt K H4 (.ref p) (.tuple [.str e.nm,.str e.ow,.int e.wo]):=λh=> .tup (cS.of h) (.cons (.str _) (.cons (.str _) (.cons (.int _) .nil)));have pd:Pd (.tuple [.str e.nm,.str e.ow,.int e.wo]) 2:=.tuple λd hd=>by
   rcases dS.mp hd with rfl|hd
   .exact .str a8
   rcases dS.mp hd with rfl|hd
   .exact .str a9
   rw[dj.mp hd];exact .int
  refine ne_data (D (g4 _ _ h3)) (D h4) pd (by decide) ⟨_,Z,aL ?_⟩;have v5:=g3.trans g4;have Bh:=hb2.mono v5;exact⟨_,Z,t,_,_,_,Z,Z,cS.of (v5 _ _ t1),Z,_,Z,B.m,_,Z,cC.k (k:=Sum.inr "owners") Bh.om,_,Z,u,_,_,_,Z,Z,aB.of (v5 _ _ u1),Z,_,Z,u,_,_,_,Z,Z,aB.of (v5 _ _ u1),Z,⟨⟨s,B.lo,lt,ss,b.own,e.tops,e.bot,Z,v5 _ _ t2,t4.mono v5.tups,aB.of Bh.oo,aB.of (v5 _ _ u2),a5,by have:=gd.fJ.ol;omega,a6,a7,λH5 g5=>⟨_,Z,aL ⟨(g2.trans v5).trans g5,_,_,_,Z⟩⟩⟩⟩⟩
 rintro σ H2 ⟨g2,s3,s4,s5,rfl⟩;exact q ρ A H2 st.kn (hh.mono (g1.trans g2)) (by omega) (hb1.mono g2) rfl (vt (g1.trans g2))
abbrev uB:Stmt:=top 52
abbrev qN:List Str:=["_law_hold","_law_model_here"]
abbrev ME:List Str:=qN.append ["_law_roster"]
theorem zT:aR ME qN (aD uB):=dF
theorem Jj{T:TC}(F:At K mg "_law_tells" uB f fd)(nj:Dn P w K mg base 5 "_law_tells_parts" j7 (uZ 1 T K))(lW:Dn P w K mg base 4 "_law_tells_landed" jG (uZ 1 T K))(uC:Mn P w K mg base 1 T.hold "roster" oS (Li T))(bR:mg "isinstance"=none)(dI:mg "list"=none):Dn P w K mg base 6 "_law_tells" qN (uZ 2 T K):=by
 refine F.oA zT λcdv A outer s H vs Q E hr h=>?_;obtain⟨⟨n,m,ρ,A,B,st,b,c,rfl,nm,hh,hb,gd,hc,Qn,hkn,q⟩⟩:=h;refine⟨_,(@cY.h _ _ _ (aj (aX (i:=2) zT.nd (u0 uC hr (qv 0)))
  (aj (bZ (eO (bW.pt (iS (eU (dW (aJ (dH K) (by rfl) bR u6 (af (qv 2) (af (kX u7 rfl dI) ak))))) (iA (aN (F_ K hr.units) (qv 2) (bM (bV hr) (qv 1) aS) (aU _)))))) (aq (aY gD)) bf)
  (aq (aY (LL (bB nj hr (af (qv 0) (af (qv 1) ak))) (LI (bB lW hr (af (qv 0) (af (qv 1) ak)))))))))),?_⟩
 refine⟨_,Z,A.a,A.dx,_,Z,hh.h.oa,Z,⟨⟨n,ρ,A,st,Z,hh.h,λr hr=>?_⟩⟩⟩;have g1:=aF hr (.lst (st.own.map V.str));have hr1:upd H r (.lst (st.own.map V.str)) r=some (.lst (st.own.map V.str)):=ao;have gE:=hh.mono g1;have hb1:=hb.mono g1;have eo:=gd.rel.own;show mh 2 (.ref r) _ (upd H r (.lst (st.own.map V.str))) _;generalize upd H r (.lst (st.own.map V.str))=H1 at *;rw[eo]at hr1;refine⟨false,?_,aL ?_⟩
 .refine ⟨_,Z,_,_,_,_,Z,gT.lst hr1,gW,_,Z,aL ?_⟩;refine⟨_,Z,_,Z,B.m,_,Z,cC.k (k:=Sum.inr "owners") hb1.om,_,_,.lst (aB.of hr1) (Gq b.own),.lst (aB.of hb1.oo) (Gq b.own),CI b.own Qn,CI b.own Qn,_,Z,?_,Z⟩;rw[V2];rfl
 refine⟨_,Z,_,Z,⟨⟨n,m,ρ,A,B,st,b,c,Z,nm,gE,hb1,gd,hc,Qn,by omega,λρ2 A2 H2 k kJ hk hb2 ea2 o2=>⟨true,Z,lR ?_⟩⟩⟩⟩;refine⟨_,Z,_,Z,⟨⟨n,m,ρ2,A2,B,_,b,c,by rw[ea2];rfl,nm,kJ,hb2,W7 gd k,hc,Qn,by show k+15000*1<=1000000;omega,λρ3 A3 H3 k3 j0 hk3 E6 Qo o3=>?_⟩⟩⟩;have hk3:k3<=k+15000*1:=hk3;exact q ρ3 A3 H3 k3 j0 (by omega) E6 (Qo.trans ea2) (((vt g1).trans o2).trans o3)
abbrev uD:Stmt:=top 29
abbrev qO:List Str:=["_law_owners"]
abbrev MF:List Str:=qO
theorem Jk:aR MF qO (aD uD):=dF
theorem Jl(F:At K mg "_law_model" uD f fd)(dI:mg "list"=none):Dn P w K mg base 1 "_law_model" qO (PF K):=by
 refine F.oA Jk λcdv A outer s H vs Q E hr h=>?_;obtain⟨⟨l,own,n,ρ,rfl,hl,G,hle,q⟩⟩:=h;refine⟨_,(@cY.h _ _ _ (aq (aY (YM (vF aS (kO (lD K) (by rfl) dI u7 (af (qv 0) ak)) (vF aS (iO ak) (vF aS ai (vF aS (iO ak) (vF aS (iO ak) YL))))) (by rfl) (by rfl) (λz=>nomatch z) (by with_unfolding_all decide))))),?_⟩;intro m hm;have g0:=aF hm (.dK []);have em0:upd H m (.dK []) m=some (.dK []):=ao;have gI:=g0.seq hl;generalize upd H m (.dK [])=H0 at *;refine⟨_,Z,l,_,Z,.inl gI,λlo hlo=>?_⟩;have g1:=aF hlo (.lst (own.map V.str));have Us:upd H0 lo (.lst (own.map V.str)) lo=some (.lst (own.map V.str)):=ao;have em1:=g1 _ _ em0;generalize upd H0 lo (.lst (own.map V.str))=H1 at *;refine⟨(iy 0),λlp uJ=>?_⟩;have g2:=aF uJ (.lst []);have ep2:upd H1 lp (.lst []) lp=some (.lst []):=ao;have eo2:=g2 _ _ Us;have Qp:=g2 _ _ em1;show Af _ _ (upd H1 lp (.lst [])) _;generalize upd H1 lp (.lst [])=H2 at *;refine⟨(iy 0),λla hla=>?_⟩;have g3:=aF hla (.lst []);have Qo:upd H2 la (.lst []) la=some (.lst []):=ao;have ep3:=g3 _ _ ep2;have eo3:=g3 _ _ eo2;have em3:=g3 _ _ Qp;show Af _ _ (upd H2 la (.lst [])) _;generalize upd H2 la (.lst [])=H3 at *;refine⟨(iy 0),λlk hlk=>?_⟩;have g4:=aF hlk (.lst []);have ek4:upd H3 lk (.lst []) lk=some (.lst []):=ao;have ea4:=g4 _ _ Qo;have ep4:=g4 _ _ ep3;have eo4:=g4 _ _ eo3;have em4:=g4 _ _ em3;show upd H3 lk (.lst []) m=_/\_;generalize upd H3 lk (.lst [])=H4 at *;have gA:=((g0.trans g1).trans g2).trans (g3.trans g4);have n1:lo≠m:=λe=>by rw[e,em0]at hlo;cases hlo
 have n2:lp≠m:=λe=>by rw[e,em1]at uJ;cases uJ
 have n3:lp≠lo:=λe=>by rw[e,Us]at uJ;cases uJ
 have n4:la≠m:=λe=>by rw[e,Qp]at hla;cases hla
 have n5:la≠lo:=λe=>by rw[e,eo2]at hla;cases hla
 have n6:la≠lp:=λe=>by rw[e,ep2]at hla;cases hla
 have n7:lk≠m:=λe=>by rw[e,em3]at hlk;cases hlk
 have n8:lk≠lo:=λe=>by rw[e,eo3]at hlk;cases hlk
 have n9:lk≠lp:=λe=>by rw[e,ep3]at hlk;cases hlk
 have nA:lk≠la:=λe=>by rw[e,Qo]at hlk;cases hlk
 refine⟨em4,[(Sum.inr "owners",.ref lo),(Sum.inr "parts",.ref lp),(Sum.inr "bottom",.int 1),(Sum.inr "ashore",.ref la),(Sum.inr "known",.ref lk)],Z,by show 5<=15;decide,?_⟩;have eK:xX [] [(Sum.inr "owners",.ref lo),(Sum.inr "parts",.ref lp),(Sum.inr "bottom",.int 1),(Sum.inr "ashore",.ref la),(Sum.inr "known",.ref lk)]=fL ⟨m,lo,lp,la,lk,[]⟩ 1:=rfl;rw[eK];have u1:upd H4 m (.dK (fL ⟨m,lo,lp,la,lk,[]⟩ 1)) m=some (.dK (fL ⟨m,lo,lp,la,lk,[]⟩ 1)):=ao;have u2:upd H4 m (.dK (fL ⟨m,lo,lp,la,lk,[]⟩ 1)) lo=some (.lst (own.map V.str)):=by rw[az n1];exact eo4
 have u3:upd H4 m (.dK (fL ⟨m,lo,lp,la,lk,[]⟩ 1)) lp=some (.lst []):=by rw[az n2];exact ep4
 have u4:upd H4 m (.dK (fL ⟨m,lo,lp,la,lk,[]⟩ 1)) la=some (.lst []):=by rw[az n4];exact ea4
 have u5:upd H4 m (.dK (fL ⟨m,lo,lp,la,lk,[]⟩ 1)) lk=some (.lst []):=by rw[az n7];exact ek4
 have G4:=(G.same gA).wr (a:=m) (o:=.dK (fL ⟨m,lo,lp,la,lk,[]⟩ 1)) rfl;have hz:∀b o,H b=some o->upd H4 m (.dK (fL ⟨m,lo,lp,la,lk,[]⟩ 1)) b=some o:=λb o e=>by rw[az (λz=>by rw[z,hm]at e;cases e)];exact gA _ _ e
 have y1:H lo=none:=g0.free hlo;have y2:H lp=none:=(g0.trans g1).free uJ;have y3:H la=none:=((g0.trans g1).trans g2).free hla;have y4:H lk=none:=(((g0.trans g1).trans g2).trans g3).free hlk;generalize upd H4 m (.dK (fL ⟨m,lo,lp,la,lk,[]⟩ 1))=H5 at *;refine q (bK (bK (bK (bK (bK ρ m (n,20,⟨#[]⟩)) lo (n,21,⟨#[]⟩)) lp (n,22,⟨#[]⟩)) la (n,25,⟨#[]⟩)) lk (n,26,⟨#[]⟩)) ⟨m,lo,lp,la,lk,[]⟩ H5 (((((G4.color u1 rfl).color u2 rfl).color u3 rfl).color u4 rfl).color u5 rfl) ⟨u1,?_,u2,?_,u3,?_,⟨[],u4,.nil⟩,?_,u5,cV,Z,λi p q e=>by simp at e⟩ (λb o e=>⟨hz b o e,?_⟩)
 .show bK _ lk _ m=_;rw[bY (cu n7),bY (cu n4),bY (cu n2),bY (cu n1),cV]
 .show bK _ lk _ lo=_;rw[bY (cu n8),bY (cu n5),bY (cu n3),cV]
 .show bK _ lk _ lp=_;rw[bY (cu n9),bY (cu n6),cV]
 .show bK _ lk _ la=_;rw[bY (cu nA),cV]
 .rw [bY (aG e y4),bY (aG e y3),bY (aG e y2),bY (aG e y1),bY (aG e hm)]
abbrev v8:Stmt:=top 36
abbrev lN:List Str:=["_law_owners","_law_name_here"]
abbrev N9:List Str:=lN.append ["_law_at_here"]
theorem Bj:aR N9 lN (aD v8):=dF
theorem MG(F:At K mg "_law_seat" v8 f fd)(bD:mg "len"=none)(bX:mg "range"=none):Dn P w K mg base 1 "_law_seat" lN (Ez K):=by
 refine F.oA Bj λcdv A outer s H vs Q E hr h=>?_;obtain⟨⟨l,own,o,rfl,hl,ho,hle,q⟩⟩:=h;refine⟨_,(@cY.h _ _ _ (aj (eX fC rfl (fR (by rfl) bX (af (aJ (bL K) (by rfl) bD c5 (af (qv 0) ak)) ak)) (aT (i:=2) Bj.nd) (aq (bZ (aN d8 (aC (aK K) (qv 0) (qv 2)) (qv 1) (aU _)) (aq (aY (qv 2))) bf)))
  (aq (aY (Rr KA ai))))),?_⟩
 have ll:(own.map V.str).length=own.length:=aE _;refine⟨_,Z,l,_,Z,.inl hl,_,Z,by omega,by omega,?_⟩;refine iw (lo:=0) (n:=(((own.map V.str).length:Nat):Int).toNat) (λi σ H'=>H'=H/\o∉own.take i/\∃s2,σ=[some (.ref l),some (.str o),s2]) ⟨Z,by simp,_,Z⟩ ?_ ?_
 .rintro i σ H' hi ⟨rfl,hn,s2,rfl⟩;have e0:(0:Int)+(i:Int)=((i:Nat):Int):=by omega
  rw[e0];have hio:i<own.length:=by omega
  have ei:=bq hio;refine⟨_,Z,_,Z,l,_,_,_,Z,Z,hl,aA (by rw[bO,ei];rfl),_,Z,Z,_,Z,cD (λc=>?_) (λc=>?_)⟩
  .have c':own[i]=o:=V.str.inj (dY c);refine⟨_,Z,?_⟩;have:own.idxOf o=i:=by
    have h1:own.idxOf o<=i:=by
     rcases Nat.lt_or_ge i (own.idxOf o)with z|z
     .exact absurd c' (by simpa using List.not_of_lt_findIdx z)
     .exact z
    rcases Nat.lt_or_ge (own.idxOf o) i with z|z
    .exact absurd (bw (i:=own.idxOf o) (by rw[List.getElem?_take,av z];exact wV ho)) hn
    .omega
   rw[<-this];exact q
  .refine ⟨Z,λm=>?_,_,Z⟩;rw[take_snoc ei]at m;rcases dD.mp m with z|z
   .exact hn z
   .exact c (bh (by rw[dj.mp z]))
 rintro σ H' ⟨rfl,hn,s2,rfl⟩;rw[show(((own.map V.str).length:Nat):Int).toNat=own.length from by omega,cJ]at hn;exact absurd ho hn
abbrev pM:Stmt:=top 37
abbrev mG:List Str:=["_law_model_here","_law_name_here","_law_owner","_law_worth","_law_weight"]
abbrev E8:List Str:=mG.append ["_law_tops"]
theorem v9:aR E8 mG (aD pM):=dF
theorem Ds(F:At K mg "_law_new_part" pM f fd)(gP:Dn P w K mg base 1 "_law_seat" lN (Ez K)):Dn P w K mg base 2 "_law_new_part" mG Ia:=by
 refine F.oA v9 λcdv A outer s H vs Q E hr h=>?_;obtain⟨⟨n,ρ,B,b,x,o,wo,we,rfl,G,h,ho,eW,hpl,hkl,q⟩⟩:=h;refine⟨_,(@cY.h _ _ _ (aj (pX (i:=5) ["_law_one"] [none] v9.nd rfl rfl rfl (dO K (bM (bV hr) (qv 0) aS)) (λ_ _ _ _=>(aT (i:=0) (show List.Nodup (["_law_one"] :List Str)from by decide +kernel))) (λ_ _ _ _=>ai) rfl (by rfl) (by rfl))
  (aj (iY (bM (bV hr) (qv 0) aS) (iZ (qv 5) (bB gP hr (af (bM (bV hr) (qv 0) aS) (af (qv 2) ak))) set_list))
  (aj (b9 (jY mO mK mL dU (bM (bV hr) (qv 0) aS) (af (iO (af (qv 1) (af (qv 2) (af (qv 3) (af (qv 4) (af (qv 5) ak)))))) ak)))
  (aq (b9 (jY mO mK mL dU (bM (bV hr) (qv 0) aS) (af (qv 1) ak)))))))),?_⟩
 refine⟨_,Z,B.m,_,Z,cC.k (k:=Sum.inr "owners") h.om,B.lo,Z,⟨_,aB.of h.oo⟩,λl0 gI=>?_⟩;have GH:(b.own.map V.str).length=b.own.length:=aE _;refine iL (J:=vc K B.lo) (n:=(b.own.map V.str).length) 0 (λi o H'=>aM H H'/\o=(List.replicate i (0:Int)).map V.int) (by omega) ⟨aF gI _,Z⟩ (λi o H' hi _ hp=>⟨_,_,aB.of (hp.1 _ _ h.oo),bq hi⟩) (λo H' _ hp=>⟨_,aB.of (hp.1 _ _ h.oo),aQ _⟩) ?_ ?_
 .rintro i y o H2 H3 hi eW ha ⟨g,e⟩ ⟨rfl,hy⟩;refine⟨ha,g.cA gI _,?_⟩;subst e;rw[List.replicate_succ',bP];rfl
 rintro o1 H1 _ ha ⟨g1,e⟩;subst e;rw[GH]at ha;have h1:=h.mono g1;have il:b.own.idxOf o<b.own.length:=wF ho;have rl:((List.replicate b.own.length (0:Int)).map V.int).length=b.own.length:=by rw[aE,i8]
 refine⟨_,Z,B.m,_,Z,cC.k (k:=Sum.inr "bottom") h1.om,_,Z,_,Z,B.m,_,Z,cC.k (k:=Sum.inr "owners") h1.om,_,Z,⟨⟨B.lo,b.own,o,Z,aB.of h1.oo,ho,eW,?_⟩⟩⟩;refine⟨l0,_,_,_,Z,Z,ha,by rw[rl];exact lJ il,?_⟩;rw[<-jN];have g2:=g1.cA gI (.lst (((List.replicate b.own.length (0:Int)).set (b.own.idxOf o) b.bot).map V.int));have ha2:upd H1 l0 (.lst (((List.replicate b.own.length (0:Int)).set (b.own.idxOf o) b.bot).map V.int)) l0=some (.lst (((List.replicate b.own.length (0:Int)).set (b.own.idxOf o) b.bot).map V.int)):=ao;show u_ _ _ _ _ (upd H1 l0 (.lst (((List.replicate b.own.length (0:Int)).set (b.own.idxOf o) b.bot).map V.int)));generalize upd H1 l0 (.lst (((List.replicate b.own.length (0:Int)).set (b.own.idxOf o) b.bot).map V.int))=H2 at *;have h2:=h.mono g2;refine⟨_,Z,B.m,_,Z,cC.k (k:=Sum.inr "parts") h2.om,.inl ⟨Z,_,aB.of h2.op⟩,_,Z,_,Z,_,Z,_,Z,_,Z,(iy 5),λp hp=>?_⟩;have g3:=aF hp (f_ ⟨x,o,wo,we,(List.replicate b.own.length (0:Int)).set (b.own.idxOf o) b.bot⟩ l0);have hp3:upd H2 p (f_ ⟨x,o,wo,we,(List.replicate b.own.length (0:Int)).set (b.own.idxOf o) b.bot⟩ l0) p=some (f_ ⟨x,o,wo,we,(List.replicate b.own.length (0:Int)).set (b.own.idxOf o) b.bot⟩ l0):=ao;show rA _ (upd H2 p (f_ ⟨x,o,wo,we,(List.replicate b.own.length (0:Int)).set (b.own.idxOf o) b.bot⟩ l0)) _;generalize upd H2 p (f_ ⟨x,o,wo,we,(List.replicate b.own.length (0:Int)).set (b.own.idxOf o) b.bot⟩ l0)=H3 at *;have vE:H p=none:=g2.free hp;have yh:=g2.trans g3;have Ut:ρ l0=none:=G.none gI;have np:p≠l0:=λe=>by rw[e,ha2]at hp;cases hp
 have cp:bK ρ l0 (n,24,x) p=none:=by rw[bY np];exact G.none vE
 have h3:aZ n (bK (bK ρ l0 (n,24,x)) p (n,23,x)) B H3 b:=((h.mono yh).col Ut).col cp;have G3:Gh (bK (bK ρ l0 (n,24,x)) p (n,23,x)) H3:=((G.same yh).color (g3 _ _ ha2) rfl).color hp3 rfl;have F3:Fr n ρ H (bK (bK ρ l0 (n,24,x)) p (n,23,x)) H3:=((Fr.of_same yh).jy gI).jy vE;have c1:bK (bK ρ l0 (n,24,x)) p (n,23,x) p=some (n,23,x):=cV;have c2:bK (bK ρ l0 (n,24,x)) p (n,23,x) l0=some (n,24,x):=by rw[bY (cu np),cV]
 have Mr:=g3 _ _ ha2;refine⟨B.lp,_,_,Z,Z,h3.op,by rw[aE,h.ql];exact dz hpl,?_⟩;rw[show B.qs.map (λq=>V.ref q.1)++[V.ref p]=(B.qs++[(p,l0)]).map (λq=>V.ref q.1)from by rw[bP];rfl];have h4:=h3.Tv G3 (p:=⟨x,o,wo,we,(List.replicate b.own.length (0:Int)).set (b.own.idxOf o) b.bot⟩) (q:=(p,l0)) hp3 Mr c1 c2;have G4:=G3.wr (a:=B.lp) (o:=.lst ((B.qs++[(p,l0)]).map λq=>V.ref q.1)) rfl;have F4:=F3.trans (Fr.write (o:=.lst ((B.qs++[(p,l0)]).map λq=>V.ref q.1)) h3.cp);generalize upd H3 B.lp (.lst ((B.qs++[(p,l0)]).map λq=>V.ref q.1))=H4 at *;refine⟨_,Z,B.m,_,Z,cC.k (k:=Sum.inr "known") h4.om,.inl ⟨Z,_,aB.of h4.ok⟩,_,Z,B.lk,_,_,Z,Z,h4.ok,by rw[aE];exact dz hkl,?_⟩;rw[show b.ef.map V.str++[V.str x]=(b.ef++[x]).map V.str from by rw[bP];rfl];exact q _ _ _ (G4.wr rfl) (h4.PD G4 (b.ef++[x])) rfl (F4.trans (Fr.write h4.ck))
abbrev uE:Stmt:=top 44
abbrev qP:List Str:=["_law_owners"]
abbrev MH:List Str:=qP.append ["_law_hold","_law_owner"]
theorem uF:aR MH qP (aD uE):=dF
theorem Jo{T:TC}(F:At K mg "_law_begin" uE f fd)(MI:Cn P w K mg base 3 "Hold" T.hold ["self"] (Pk T))(iJ:Mn P w K mg base 3 T.hold "sign" lK (BU T)):Dn P w K mg base 5 "_law_begin" qP (Pu T K):=by
 refine F.oA uF λcdv A outer s H vs Q E hr h=>?_;obtain⟨⟨l,own,n,ρ,rfl,hl,cl,nd,hnm,hle,g,q⟩⟩:=h;refine⟨_,(@cY.h _ _ _ (aj (aX (i:=1) uF.nd (TZ MI hr))
  (aj (eX fC rfl (dO K (qv 0)) (aT (i:=2) uF.nd) (aq (b9 (cE iJ hr (qv 1) (af (qv 2) ak)))))
  (aq (aY (qv 1)))))),?_⟩
 intro x dx hx hdx hne;refine⟨⟨x,dx,ρ,n,Z,ao,(g.alloc hdx).alloc (by rw[az (cu hne)];exact hx),g.none hx,λρ1 A H1 ea hh k=>⟨Z,?_⟩⟩⟩;have F1:Fr n ρ H ρ1 H1:=λb o e _=>k b o (by rw[az (aG e hx),az (aG e hdx)];exact e) (aG e hx);refine⟨_,Z,l,Z,⟨_,F1.seq hl cl⟩,?_⟩;refine kQ (K:=K) (xs:=own.map V.str) (λi σ H'=>∃ρ' A' s2,σ=[some (.ref l),some (.ref x),s2]/\A'.a=x/\HH T n ρ' A' H' ((own.take i).foldl fF hs0)/\Fr n ρ H ρ' H')
  ⟨ρ1,A,none,Z,ea,hh,F1⟩ (λi σ H' _ hp=>by obtain⟨_,_,_,_,_,_,f⟩:=hp;exact f.seq hl cl) ?_ ?_
 .rintro i y σ H' hy ⟨ρ',A',s2,rfl,ea',Uu,F'⟩;rw[bO]at hy;obtain⟨o,eo,rfl⟩:=lQ.mp hy;have hi:=(di.mp eo).1;have hos:=tL (own.take i) hs0;have acj:((own.take i).foldl fF hs0).own=own.take i:=by rw[hos];rfl
  refine⟨_,Z,x,A'.dx,_,Z,ea'▸Uu.h.oa,Z,_,Z,⟨⟨n,ρ',A',_,o,by rw[ea'];rfl,Uu,hnm o (bw eo),?_,?_,λρ2 A2 H2 h2 e2 F2=>?_⟩⟩⟩
  .rw [acj];intro m;have h2:(own.take (i+1)).Nodup:=nd.sublist (List.take_sublist _ _);rw[take_snoc eo]at h2;exact(List.nodup_append.mp h2).2.2 o m o (dj.mpr rfl) rfl
  .rw [acj,nu];omega
  .rw [take_snoc eo,Km];exact⟨ρ2,A2,_,Z,e2.trans ea',h2,F'.trans F2⟩
 rintro σ H' ⟨ρ',A',s2,rfl,ea',Uu,F'⟩;rw[aE,cJ]at Uu;have:=q ρ' A' H' Uu F';rw[ea']at this;exact⟨_,Z,this⟩
abbrev zz:Stmt:=top 38
abbrev tP:List Str:=["_law_parts","_law_name_here"]
abbrev Uv:List Str:=tP.append ["_law_at_here"]
theorem E9:aR Uv tP (aD zz):=dF
theorem RH(F:At K mg "_law_at" zz f fd)(bD:mg "len"=none)(bX:mg "range"=none):Dn P w K mg base 1 "_law_at" tP (EI K):=by
 refine F.oA E9 λcdv A outer s H vs Q E hr h=>?_;obtain⟨⟨l,us,ws,x,rfl,hl,hW,nd,hle,q,q2⟩⟩:=h;refine⟨_,(@cY.h _ _ _ (aj (eX fC rfl (fR (by rfl) bX (af (aJ (bL K) (by rfl) bD c5 (af (qv 0) ak)) ak)) (aT (i:=2) E9.nd) (aq (bZ (aN d8 (aC (gj K) (aC (aK K) (qv 0) (qv 2)) ai) (qv 1) (aU _)) (aq (aY (qv 2))) bf)))
  (aq (aY (Rr KA ai))))),?_⟩
 have ll:=hW.len;refine⟨_,Z,l,_,Z,.inl hl,_,Z,by omega,by omega,?_⟩;refine iw (lo:=0) (n:=((us.length:Nat):Int).toNat) (λi σ H'=>H'=H/\(∀r∈ws.take i,r.1≠x)/\∃s2,σ=[some (.ref l),some (.str x),s2]) ⟨Z,(λ_ m=>nomatch m),_,Z⟩ ?_ ?_
 .rintro i σ H' hi ⟨rfl,hn,s2,rfl⟩;have e0:(0:Int)+(i:Int)=((i:Nat):Int):=by omega
  rw[e0];have hio:i<ws.length:=by omega
  have ei:=bq hio;obtain⟨a,xs,ea,CM,x0,_⟩:=hW.at_ i _ ei;refine⟨_,Z,_,Z,l,_,_,_,Z,Z,hl,aA ea,CM.ix (i:=0) x0 ?_⟩;refine⟨_,Z,Z,_,Z,cD (λc=>?_) (λc=>?_)⟩
  .exact ⟨_,Z,q i _ ei (V.str.inj (dY c))⟩
  .refine ⟨Z,λr hr=>?_,_,Z⟩;rw[take_snoc ei]at hr;rcases dD.mp hr with z|z
   .exact hn r z
   .rw [dj.mp z];intro e;exact c (bh (by rw[e]))
 rintro σ H' ⟨rfl,hn,s2,rfl⟩;refine⟨1,Z,q2 λr hr=>hn r ?_⟩;rw[Ka (by omega)];exact hr
abbrev v_:Stmt:=top 31
abbrev sY:List Str:=["_law_script","_law_k","_law_parts"]
abbrev N_:List Str:=sY.append ["_law_spare","_law_order","_law_rows_here","_law_at_here","_law_way","_law_amount"]
theorem gy:aR N_ sY (aD v_):=dF
theorem MJ(F:At K mg "_law_rows" v_ f fd)(bu:Dn P w K mg base 1 "_law_draw" iI (tE K))(bD:mg "len"=none)(bX:mg "range"=none)(dI:mg "list"=none)(g_:mg "sum"=none)(xu:mg "min"=none):Dn P w K mg base 2 "_law_rows" sY (PJ K):=by
 refine F.oA gy λcdv A outer s H vs Q E hr h=>?_;obtain⟨⟨a,l,ns,k,us,ws,rfl,hS,h63,hk0,hk1,hl,hW,nd,hle,hw1,q⟩⟩:=h;refine⟨_,(@cY.h _ _ _ (aj (aX (i:=3) gy.nd (aI jQ (aJ (mQ K rfl) (by rfl) g_ yj (af (ig ["_law_part"] [none] rfl (dO K (qv 2)) (λ_ _ _ _=>(aT (i:=0) (show List.Nodup (["_law_part"] :List Str)from by decide +kernel))) (λ_ _ _ _=>(aC (gj K) (qv 0) ai)) rfl (by rfl)) ak)) ai))
  (aj (aX (i:=4) gy.nd (kO (IJ rfl) (by rfl) dI u7 (af (TV (by rfl) bX (af (aJ (bL K) (by rfl) bD c5 (af (qv 2) ak)) ak)) ak)))
  (aj (iz (aN d8 (bB bu hr (af (qv 0) (af (qv 1) (af ai (af ai ak))))) ai (aU _)) (aq (aX (i:=4) gy.nd (abj K (qv 4) (Rr KA ai)))) bf)
  (aj (aX (i:=5) gy.nd (iO ak))
  (aj (eX fC rfl (dO K (qv 4)) (aT (i:=6) gy.nd) (aj (aX (i:=7) gy.nd (bB bu hr (af (qv 0) (af (qv 1) (af (aI cU ai (aI iK ai (qv 6))) (af ai ak))))))
  (aj (aX (i:=8) gy.nd (aJ (Tz rfl) (by rfl) xu QD (af (aC (gj K) (aC (aK K) (qv 2) (qv 6)) ai) (af (qv 3) (af (aI nV ai ai) ak)))))
  (aj (iz (eO (bW.pt (qA (aN d8 (qv 7) ai (aU _)) (rM (aN jE (qv 8) ai (aU _)))))) (aq (aX (i:=8) gy.nd (aI cU ai (bB bu hr (af (qv 0) (af (qv 1) (af (aI cU ai (aI iK ai (qv 6))) (af (qv 8) ak)))))))) bf)
  (aq (iz (eO (bW.pt (qA (aN jE (qv 7) ai (aU _)) (rM (aN jE (qv 8) ai (aU _)))))) (aj (b9 (jY mO mK mL dU (qv 5) (af (gx (af (aC (gj K) (aC (aK K) (qv 2) (qv 6)) ai) (af (qv 8) ak))) ak)))
  (aq (aX (i:=3) gy.nd (aI jQ (qv 3) (qv 8))))) bf))))))
  (aq (aY (qv 5))))))))),?_⟩
 have ll:=hW.len;refine⟨_,Z,l,Z,⟨_,hl⟩,λl0 gI=>?_⟩;refine iL (J:=vc K l) (n:=us.length) 0 (λi o H'=>aM H H'/\o=((ws.take i).map (λr:Row=>r.2)).map V.int) (by omega) ⟨aF gI _,Z⟩ (λi o H' hi _ hp=>⟨_,_,hp.1.seq hl,bq hi⟩) (λo H' _ hp=>⟨_,hp.1.seq hl,aQ _⟩) ?_ ?_
 .rintro i y o H2 H3 hi eW ha ⟨g,e⟩ ⟨rfl,hy⟩;have hiw:i<ws.length:=by omega
  have ei:=bq hiw;obtain⟨ar,xs,ea,CM,x0,x2⟩:=hW.at_ i _ ei;have ey:=hy _ (g.seq hl);rw[ea]at ey;cases ey;refine⟨_,Z,(g.sq CM).ix (i:=2) x2 ?_⟩;refine⟨ha,g.cA gI _,?_⟩;subst e;rw[take_snoc ei,bP,bP];rfl
 rintro o1 H1 _ ha ⟨g1,e⟩;rw[ll,cJ]at e;subst e;refine⟨l0,ws.map (λr:Row=>r.2),Z,aB.of ha,_,_,Z,Z,?_⟩;show mh 3 (.int (bJ ws-1)) _ _ _;refine⟨_,Z,l,_,Z,.inl (g1.seq hl),_,Z,λpr hpr=>?_⟩;refine⟨pr,ws.length,Z,?_,by omega,λpo Xp=>?_⟩
 .rw [ao,ll]
 have gA:=(aF hpr (.xT 0 ((us.length:Nat):Int))).trans (aF Xp (.lst ((L2.upTo ws.length).map V.int)));have gB:=g1.trans gA;have hord:upd (upd H1 pr (.xT 0 ((us.length:Nat):Int))) po (.lst ((L2.upTo ws.length).map V.int)) po=some (.lst ((L2.upTo ws.length).map V.int)):=ao;generalize upd (upd H1 pr (.xT 0 ((us.length:Nat):Int))) po (.lst ((L2.upTo ws.length).map V.int))=H2 at *;have ndo:(L2.upTo ws.length).Nodup:=by unfold L2.upTo;refine List.Pairwise.map _ (λx y h e=>h (by omega)) List.nodup_range
 have xT:∀x∈L2.upTo ws.length,0<=x/\x<(ws.length:Int):=λx hx=>by unfold L2.upTo at hx;obtain⟨i,hi,rfl⟩:=a_.mp hx;have:=yt.mp hi;omega
 have lup:(L2.upTo ws.length).length=ws.length:=by unfold L2.upTo;rw[aE,FT]
 refine⟨λσ H3=>aM H H3/\∃(pq:Addr)(os:List Int),σ=[some (.ref a),some (.int k),some (.ref l),some (.int (bJ ws-1)),some (.ref pq),none,none,none,none]/\H3 pq=some (.lst (os.map V.int))/\os.Nodup/\os.length=ws.length/\∀x∈os,0<=x/\x<(ws.length:Int),?_,?_⟩
 .refine ⟨_,Z,_,Z,c7 (gB.seq hS) h63 hk0 (by decide) (by decide) (by decide) λd _ d0 d1=>⟨Z,_,Z,cD (λc=>?_) (λc=>?_)⟩⟩
  .refine ⟨_,Z,_,Z,Z,po,_,Z,aB.of hord,λpz hpz=>?_⟩;have g3:=aF hpz (.lst ((L2.upTo ws.length).map V.int).reverse);exact⟨gB.trans g3,pz,(L2.upTo ws.length).reverse,Z,by rw[ao,List.map_reverse],List.pairwise_reverse.mpr (List.Pairwise.imp (λh=>cu h) ndo),by rw[List.length_reverse,lup],λx hx=>xT x (List.mem_reverse.mp hx)⟩
  .exact ⟨gB,po,L2.upTo ws.length,Z,hord,ndo,lup,xT⟩
 rintro σ H3 ⟨g3,pq,os,rfl,hos,hnd,eW,hrg⟩;refine⟨(iy 0),λz hz=>?_⟩;have g4:=aF hz (.lst []);have hzz:upd H3 z (.lst []) z=some (.lst []):=ao;have acm:=g4 _ _ hos;have nz:pq≠z:=λe=>by rw[e,hz]at hos;cases hos
 have hzH:H z=none:=g3.free hz;have v5:=g3.trans g4;show u_ _ _ _ _ (upd H3 z (.lst []));generalize upd H3 z (.lst [])=H4 at *;have w1:ws≠[]->1<=bJ ws:=λhne=>by
  cases ws with
  | nil=>exact absurd rfl hne
  | cons r rs=>have h1:=hw1 r cT;have h2:=C5 (rs:=rs) λx hx=>hw1 x (cW _ hx);rw[show bJ (r::rs)=r.2+bJ rs from by unfold bJ;rw[bN,cQ]];omega
 refine⟨_,Z,pq,Z,⟨_,aB.of acm⟩,?_⟩;refine kQ (K:=K) (xs:=os.map V.int) (λi σ H'=>aM H H'/\H' pq=some (.lst (os.map V.int))/\∃(zs:List V)(rs:List Row)(sp:Int)(s6 s7 s8:Option V),σ=[some (.ref a),some (.int k),some (.ref l),some (.int sp),some (.ref pq),some (.ref z),s6,s7,s8]/\H' z=some (.lst zs)/\f7 H' zs rs/\rs.length<=i/\(rs.map (λr:Row=>r.1)).Nodup/\
   sp=bJ ws-1-bJ rs/\(ws≠[]->0<=sp)/\∀r∈rs,1<=r.2/\r.2<=1000000000/\∃j:Nat,((j:Nat):Int)∈os.take i/\∃w,ws[j]?=some w/\w.1=r.1/\r.2<=w.2)
  ⟨v5,acm,[],[],bJ ws-1,none,none,none,Z,hzz,.nil,aQ _,wI,by show _=bJ ws-1-0;omega,λhne=>by have:=w1 hne;omega,λr hr=>absurd hr (by simp)⟩ ?_ ?_ ?_
 .rintro i σ H' _ ⟨_,h,_⟩;exact aB.of h
 .rintro i x σ H5 hx ⟨g5,hq5,zs,rs,sp,s6,s7,s8,rfl,IE,hR,hrl,Xu,ve,RI,vI⟩;rw[bO]at hx;obtain⟨at',hat,rfl⟩:=lQ.mp hx;have hio:=(di.mp hat).1;obtain⟨t0,t1⟩:=hrg at' (bw hat);obtain⟨jt,hjt⟩:∃jt:Nat,((jt:Nat):Int)=at':=⟨at'.toNat,by omega⟩
  subst hjt;have hjl:jt<ws.length:=by omega
  have hne:ws≠[] :=λe=>by rw[e]at hjl;simp at hjl
  have agT:=RI hne;have hnot:((jt:Nat):Int)∉os.take i:=λm=>by obtain⟨j,hj,ej⟩:=List.mem_iff_getElem.mp m;rw[List.getElem_take]at ej;rw[nu]at hj;have e2:=(di.mp hat).2;have:=(List.getElem_inj hnd).mp (ej.trans e2.symm);omega
  have ej:=bq hjl;have hwj:=hw1 _ (bw ej);generalize ws[jt]=wj at *;obtain⟨ar,xs,ea,CM,x0,x2⟩:=hW.at_ jt _ ej;refine⟨_,Z,_,Z,_,Z,_,_,Z,Z,.inl ⟨by decide,by decide⟩,_,_,Z,Z,c7 (g5.seq hS) h63 hk0 (by omega) (by omega) (by decide) λway _ v0 v1=>?_⟩;refine⟨_,Z,_,Z,l,_,_,_,Z,Z,g5.seq hl,aA ea,(g5.sq CM).ix (i:=2) x2 ?_⟩;refine⟨_,Z,_,_,Z,Z,⟨by decide,by decide,by decide⟩,_,_,_,Z,?_⟩;obtain⟨m1,m2,m3⟩:=YA wj.2 sp ((10:Int) ^ (9:Int).toNat);have m0:0<=vB wj.2 sp ((10:Int) ^ (9:Int).toNat):=YB (by omega) agT (by decide);have m3:vB wj.2 sp ((10:Int) ^ (9:Int).toNat)<=1000000000:=m3;generalize vB wj.2 sp ((10:Int) ^ (9:Int).toNat)=m at *;refine⟨λσ H6=>H5=H6/\∃m:Int,0<=m/\m<=sp/\m<=wj.2/\m<=1000000000/\σ=[some (.ref a),some (.int k),some (.ref l),some (.int sp),some (.ref pq),some (.ref z),some (.int (jt:Int)),some (.int way),some (.int m)],?_,?_⟩
  .refine ⟨decide (way=2/\0<m),?_,?_⟩
   .refine ⟨_,Z,Z,_,Z,?_⟩;by_cases h1:way=2
    .rw [bh (by rw[h1] :V.int way=V.int 2)];refine lR ⟨_,Z,_,_,Z,Z,_,Z,?_,Z⟩;by_cases h2:0<m
     .rw [bh h2,bh ⟨h1,h2⟩]
     .rw [c9 h2,c9 λz=>h2 z.2]
    .rw [c9 (λz=>h1 (V.int.inj z))];exact aL ⟨(c9 λz=>h1 z.1).symm,Z⟩
   refine cD (λc=>?_) (λc=>?_)
   .obtain ⟨_,c2⟩:=dY c;refine⟨_,Z,_,Z,_,Z,_,_,Z,Z,.inl ⟨by decide,by decide⟩,_,_,Z,Z,_,Z,c7 (g5.seq hS) h63 hk0 (by omega) (by omega) c2 λd _ d0 d1=>⟨_,_,Z,Z,Z,1+d,by omega,by omega,by omega,by omega,Z⟩⟩
   .exact ⟨Z,m,m0,m2,m1,m3,Z⟩
  rintro σ H6 ⟨rfl,o,o0,o1,o2,o3,rfl⟩;have grow:∀r∈rs,1<=r.2/\r.2<=1000000000/\∃j:Nat,((j:Nat):Int)∈os.take (i+1)/\∃w,ws[j]?=some w/\w.1=r.1/\r.2<=w.2:=λr hr=>by obtain⟨a1,a2,j,a3,a4⟩:=vI r hr;exact⟨a1,a2,j,by rw[take_snoc hat];exact FI _ a3,a4⟩
  refine⟨λσ H6=>aM H H6/\H6 pq=some (.lst (os.map V.int))/\∃(zs:List V)(rs:List Row)(sp:Int)(s6 s7 s8:Option V),σ=[some (.ref a),some (.int k),some (.ref l),some (.int sp),some (.ref pq),some (.ref z),s6,s7,s8]/\H6 z=some (.lst zs)/\f7 H6 zs rs/\rs.length<=i+1/\(rs.map (λr:Row=>r.1)).Nodup/\
   sp=bJ ws-1-bJ rs/\(ws≠[]->0<=sp)/\∀r∈rs,1<=r.2/\r.2<=1000000000/\∃j:Nat,((j:Nat):Int)∈os.take (i+1)/\∃w,ws[j]?=some w/\w.1=r.1/\r.2<=w.2,?_,λ_ _ h=>h⟩
  refine⟨decide (0<way/\0<o),?_,?_⟩
  .refine ⟨_,Z,_,_,Z,Z,_,Z,?_⟩;by_cases h1:0<way
   .rw [bh h1];refine lR ⟨_,Z,_,_,Z,Z,_,Z,?_,Z⟩;by_cases h2:0<o
    .rw [bh h2,bh ⟨h1,h2⟩]
    .rw [c9 h2,c9 λz=>h2 z.2]
   .rw [c9 h1];exact aL ⟨(c9 λz=>h1 z.1).symm,Z⟩
  refine cD (λc=>?_) (λc=>?_)
  .obtain ⟨_,c2⟩:=dY c;refine⟨_,Z,.inl ⟨Z,_,aB.of IE⟩,_,Z,_,Z,l,_,_,_,Z,Z,g5.seq hl,aA ea,(g5.sq CM).ix (i:=0) x0 ?_⟩;refine⟨_,Z,(iy 2),λp hp=>?_⟩;have g6:=aF hp (xD (wj.1,o));have hz6:=g6 _ _ IE;have hq6:=g6 _ _ hq5;have Xe:upd H5 p (xD (wj.1,o)) p=some (xD (wj.1,o)):=ao;have agU:=hR.length;show rA _ (upd H5 p (xD (wj.1,o))) _;generalize upd H5 p (xD (wj.1,o))=H6 at *;refine⟨z,_,_,Z,Z,hz6,by rw[agU];exact dz (by omega),?_⟩;have np:p≠z:=λe=>by rw[e,IE]at hp;cases hp
   have tu:∀b ys,H6 b=some (.tup ys)->upd H6 z (.lst (zs++[.ref p])) b=some (.tup ys):=jJ (.inr ⟨_,hz6,Z⟩);refine⟨_,Z,_,Z,_,_,Z,Z,(g5.trans g6).cA hzH _,by rw[az nz];exact hq6,zs++[.ref p],rs++[(wj.1,o)],sp-o,_,_,_,Z,ao,((hR.mono g6.tups).snoc Xe).mono tu,by rw[cZ];show rs.length+1<=i+1;omega,?_,?_,λ_=>by omega,?_⟩
   .rw [bP];refine nC Xu λhm=>?_;obtain⟨r,hr,er⟩:=a_.mp hm;obtain⟨_,_,j,hj,w,aco,e1,_⟩:=vI r hr;have hj2:j<ws.length:=(di.mp aco).1;have r1:(ws.map (λr:Row=>r.1))[j]?=some w.1:=by rw[bO,aco];rfl
    have r2:(ws.map (λr:Row=>r.1))[jt]?=some wj.1:=by rw[bO,ej];rfl
    have er:r.1=wj.1:=er;have:j=jt:=(FU (by rw[aE];exact hj2) nd).mp (r1.trans (by rw[e1,er];exact r2.symm));rw[this]at hj;exact hnot hj
   .rw [show bJ (rs++[(wj.1,o)])=bJ rs+o from by unfold bJ;rw[bP,DK];simp];omega
   .intro r hr;rcases dD.mp hr with h1|h1
    .exact grow r h1
    .rw [dj.mp h1];exact⟨by show 1<=o;omega,o3,jt,by rw[take_snoc hat];exact j9 _ (dj.mpr rfl),wj,ej,Z,o2⟩
  .exact ⟨g5,hq5,zs,rs,sp,_,_,_,Z,IE,hR,by omega,Xu,ve,RI,grow⟩
 rintro σ H5 ⟨g5,hq5,zs,rs,sp,s6,s7,s8,rfl,IE,hR,hrl,Xu,ve,RI,vI⟩;rw[aE,eW]at hrl;refine⟨_,Z,q z zs rs H5 g5 hzH IE hR ⟨Xu,λr hr=>?_,?_,hrl⟩⟩
 .obtain ⟨a1,a2,j,_,w,hw,e1,e2⟩:=vI r hr;exact⟨a1,a2,w,bw hw,e1,e2⟩
 .by_cases c:ws=[]
  .right;rw[c]at hrl;exact List.length_eq_zero_iff.mp (by simpa using hrl)
  .left;have:=RI c;omega
abbrev wc:Stmt:=top 32
abbrev sZ:List Str:=["_law_rows_here"]
abbrev Oa:List Str:=sZ.append ["_law_things","_law_name_here","_law_amount"]
theorem qQ:aR Oa sZ (aD wc):=dF
theorem MK(F:At K mg "_law_flat" wc f fd)(iE:mg "tuple"=none):Dn P w K mg base 1 "_law_flat" sZ (T9 K):=by
 refine F.oA qQ λcdv A outer s H vs Q E hr h=>?_;obtain⟨⟨l,us,rs,rfl,hl,hR,hle,q⟩⟩:=h;refine⟨_,(@cY.h _ _ _ (aj (aX (i:=1) qQ.nd (iO (af aS ak)))
  (aj (eX fC rfl (dO K (qv 0)) (iT K (n:=2) rfl (cN (aT (i:=2) qQ.nd) (cN (aT (i:=3) qQ.nd) iR))) (aj (b9 (jY mO mK mL dU (qv 1) (af (qv 2) ak)))
  (aq (b9 (jY mO mK mL dU (qv 1) (af (qv 3) ak))))))
  (aq (aY (kO IG (by rfl) iE J9 (af (qv 1) ak))))))),?_⟩
 have L8:=hR.length;refine⟨(iy 1),λt ht=>?_⟩;have g0:=aF ht (.lst [.str "cast"]);have h0:upd H t (.lst [.str "cast"]) t=some (.lst (Dd.v (.cast (rs.take 0)))):=ao;show u_ _ _ _ _ (upd H t (.lst [.str "cast"]));generalize upd H t (.lst [.str "cast"])=H0 at *;refine⟨_,Z,l,Z,⟨us,g0.seq hl⟩,?_⟩;refine kQ (K:=K) (xs:=us) (λi σ H'=>aM H H'/\H' t=some (.lst (Dd.v (.cast (rs.take i))))/\∃s2 s3,σ=[some (.ref l),some (.ref t),s2,s3]) ⟨g0,h0,_,_,Z⟩ (λi σ H' _ hp=>hp.1.seq hl) ?_ ?_
 .rintro i x σ H' hx ⟨g,hd',s2,s3,rfl⟩;obtain⟨a,r,rfl,er,ha⟩:=hR.get hx;have hlt:(Dd.v (.cast (rs.take i))).length+1<sizeLine:=by show(jX (rs.take i)).length+1+1<_;rw[AL,nu,l9];exact FN (show _<=3000 by omega) (by decide)
  refine⟨a,_,Z,cS.of (g _ _ ha),Z,_,_,Z,_,_,Z,Z,?_⟩;refine⟨_,Z,.inl ⟨Z,_,aB.of hd'⟩,_,Z,t,_,_,Z,Z,hd',by omega,?_⟩;refine⟨_,Z,.inl ⟨Z,_,aB.of ao⟩,_,Z,t,_,_,Z,Z,ao,by rw[cZ];exact hlt,?_⟩;refine⟨?_,?_,_,_,Z⟩
  .rw [pR];exact g.cA ht _
  .rw [ao,take_snoc er];show some (HO.lst ((V.str "cast"::jX (rs.take i)++[V.str r.1])++[V.int r.2]))=some (HO.lst (V.str "cast"::jX (rs.take i++[r])));rw[AK];simp[jX]
 rintro σ H' ⟨g,hd',s2,s3,rfl⟩;rw[L8,cJ]at hd';refine⟨_,Z,t,_,Z,.inl ⟨aB.of hd',λz hz=>q z _ (g.trans (aF hz _)) ao⟩⟩
abbrev nR:Stmt:=top 33
abbrev lu:List Str:=["_law_script","_law_k","_law_model_here","_law_names_here","_law_way"]
abbrev Du:List Str:=lu.append ["_law_parts","_law_part","_law_owner","_law_whole","_law_rows_here","_law_amount"]
theorem gf:aR Du lu (aD nR):=dF
theorem Cg(F:At K mg "_law_part_deed" nR f fd)(bu:Dn P w K mg base 1 "_law_draw" iI (tE K))(lO:Dn P w K mg base 2 "_law_much" oq (Ed K))(xK:Dn P w K mg base 2 "_law_rows" sY (PJ K))(xM:Dn P w K mg base 1 "_law_flat" sZ (T9 K))(bD:mg "len"=none)(g_:mg "sum"=none)(xu:mg "min"=none):Dn P w K mg base 3 "_law_part_deed" lu (EO K):=by
 refine F.oA gf λcdv A outer s H vs Q E hr h=>?_;obtain⟨⟨a,m,ln,ns,k,way,nms,c,st,rfl,hS,h63,hk0,hk1,hq,hN,nx,hnl,wf,g,hc,hp0,q⟩⟩:=h;refine⟨_,(@cY.h _ _ _ (aj (aX (i:=5) gf.nd (bM (bV hr) (qv 2) aS))
  (aj (aX (i:=6) gf.nd (aC (aK K) (qv 5) (bB bu hr (af (qv 0) (af (qv 1) (af ai (af (aJ (bL K) (by rfl) bD c5 (af (qv 5) ak)) ak)))))))
  (aj (aX (i:=7) gf.nd (aC (aK K) (bM (bV hr) (qv 2) aS) (bB bu hr (af (qv 0) (af (qv 1) (af ai (af (aJ (bL K) (by rfl) bD c5 (af (bM (bV hr) (qv 2) aS) ak)) ak)))))))
  (aj (aX (i:=8) gf.nd (aJ (mQ K rfl) (by rfl) g_ yj (af (ig ["_law_one"] [none] rfl (dO K (qv 5)) (λ_ _ _ _=>(aT (i:=0) (show List.Nodup (["_law_one"] :List Str)from by decide +kernel))) (λ_ _ _ _=>(aC (gj K) (qv 0) ai)) rfl (by rfl)) ak)))
  (aj (iz (aN su (qv 4) ai (aU _)) (aj (aX (i:=9) gf.nd (bB xK hr (af (qv 0) (af (qv 1) (af (qv 5) ak)))))
  (aq (bZ (aN jE (aJ (bL K) (by rfl) bD c5 (af (qv 9) ak)) ai (aU _)) (aq (aY (bB xM hr (af (qv 9) ak)))) bf))) bf)
  (aj (bZ (aN d8 (qv 4) ai (aU _)) (aq (aY (gx (af aS (af (aC (gj K) (qv 6) ai) (af (qv 7) ak)))))) bf)
  (aj (bZ (aN d8 (qv 4) ai (aU _)) (aq (aY (gx (af aS (af (aC (gj K) (qv 6) ai) ak))))) bf)
  (aj (bZ (eO (bW.pt (qA (aN d8 (qv 4) ai (aU _)) (rM (aN jE (qv 8) ai (aU _)))))) (aq (aY (gx (af aS (af (qv 7) (af (aI cU ai (bB bu hr (af (qv 0) (af (qv 1) (af ai (af (aJ (Ab rfl) (by rfl) xu QD (af (aI jQ (qv 8) ai) (af (aI nV ai ai) ak))) ak)))))) ak)))))) bf)
  (aj (bZ (eO (bW.pt (qA (aN d8 (qv 4) ai (aU _)) (qA (aN jE (aC (gj K) (qv 6) ai) ai (aU _)) (rM (aN su (aJ (bL K) (by rfl) bD c5 (af (bM (bV hr) (qv 2) aS) ak)) (aJ (bL K) (by rfl) bD c5 (af (qv 3) ak)) (aU _))))))) (aj (aX (i:=10) gf.nd (aI cU ai (bB bu hr (af (qv 0) (af (qv 1) (af ai (af (aJ (Ab rfl) (by rfl) xu QD (af (aI jQ (aC (gj K) (qv 6) ai) ai) (af (aI nV ai ai) ak))) ak)))))))
  (aq (aY (gx (af aS (af (aC (gj K) (qv 6) ai) (af (aC (aK K) (qv 3) (aJ (bL K) (by rfl) bD c5 (af (bM (bV hr) (qv 2) aS) ak))) (af (qv 10) (af (bB bu hr (af (qv 0) (af (qv 1) (af ai (af (aI cU (aC (gj K) (qv 6) ai) ai) ak))))) ak))))))))) bf)
  (aj (bZ (aN d8 (qv 4) ai (aU _)) (aq (aY (gx (af aS (af (aC (gj K) (qv 6) ai) (af (aI cU ai (bB bu hr (af (qv 0) (af (qv 1) (af ai (af (aJ (Ab rfl) (by rfl) xu QD (af (aC (gj K) (qv 6) ai) (af (aI nV ai ai) ak))) ak)))))) ak)))))) bf)
  (aq (aY (gx (af aS (af (aC (gj K) (qv 6) ai) (af (bB lO hr (af (qv 0) (af (qv 1) (af ai ak)))) ak))))))))))))))))),?_⟩
 obtain⟨kvs,lo,lp,lk,us,om,vo,vp,vk,oo,op,rw',ok⟩:=hq;have ll:=rw'.len;have hpl:=g.pl;have eW:=wf.kR;have agV:=g.ol;refine⟨_,Z,m,_,Z,vp▸cC.k (k:=Sum.inr "parts") om,?_⟩;refine⟨_,Z,_,Z,_,Z,_,Z,_,us,Z,.inl op,c7 hS h63 hk0 (by decide) (by decide) (by omega) λd _ d0 d1=>?_⟩;obtain⟨j,rfl⟩:∃j:Nat,d=(j:Int):=⟨d.toNat,by omega⟩
 have hj:j<st.ah.length:=by omega
 have ep:=bq hj;have fT:=Br hj;generalize st.ah[j]=p at *;obtain⟨ap,xs,ea,CM,x0,x1,x2,x3⟩:=rw'.at_ j p ep;refine⟨lp,_,_,_,Z,Z,op,aA ea,?_⟩;refine⟨_,Z,m,_,Z,vo▸cC.k (k:=Sum.inr "owners") om,_,Z,_,Z,_,Z,m,_,Z,vo▸cC.k (k:=Sum.inr "owners") om,lo,_,Z,.inl oo,c7 hS h63 hk0 (by decide) (by decide) (by rw[aE];omega) λwd _ w0 w1=>?_⟩;rw[aE]at w1;obtain⟨jo,o,ejo,eo,eat⟩:=Lr (l:=st.own) (d:=wd) w0 w1;refine⟨lo,_,_,_,Z,Z,oo,eat,?_⟩;have how:=bw eo;have wol:wl o<=20:=rK (g.on o how);have Uw:wl p.nm<=20:=rK (g.nk _ (wf.sub p fT));have hw0:=wf.ki p fT;have eg:cI st p.nm=p:=dN wf fT rfl;have hin:p.nm∈fM st:=B3 ep;refine⟨_,Z,lp,Z,⟨_,op⟩,λl0 gI=>?_⟩;refine iL (J:=vc K lp) (n:=us.length) 0 (λi o H'=>aM H H'/\o=((st.ah.take i).map (λp:Pt=>p.wo)).map V.int) (by omega) ⟨aF gI _,Z⟩ (λi o H' hi _ hp=>⟨_,_,hp.1.seq op,bq hi⟩) (λo H' _ hp=>⟨_,hp.1.seq op,aQ _⟩) ?_ ?_
 .rintro i y o H2 H3 hi eW ha ⟨g,e⟩ ⟨rfl,hy⟩;have hiw:i<st.ah.length:=by omega
  have ei:=bq hiw;obtain⟨ar,xs,ea,CM,_,_,x2,_⟩:=rw'.at_ i _ ei;have ey:=hy _ (g.seq op);rw[ea]at ey;cases ey;refine⟨_,Z,(g.sq CM).ix (i:=2) x2 ?_⟩;refine⟨ha,g.cA gI _,?_⟩;subst e;rw[take_snoc ei,bP,bP];rfl
 rintro o1 H1 _ ha ⟨g1,e⟩;rw[ll,cJ]at e;subst e;refine⟨l0,st.ah.map (λp:Pt=>p.wo),Z,aB.of ha,?_⟩;show mh 8 (.int (aH st)) _ _ _;have ret:∀(t:Addr)(d:Dd)(H2:Hp),aM H H2->H2 t=none->Ca nms st d->Q (.ref t) (upd H2 t (.tup (Dd.v d))):=λt d H2 g2 ht hd=>q t d _ (g2.trans (aF ht _)) ao hd;have keep:∀d:Dd,AI st d=none->PN d->d.pl=true->Ca nms st d:=λd h1 h2 h3=>⟨h1,h2,nx.keep (abA (Dd.Wi h3).1 (Dd.Wi h3).2.1),(Dd.Wi h3).2.2⟩
 refine⟨λσ' H'=>aM H H'/\∃s9,σ'=[some (.ref a),some (.int k),some (.ref m),some (.ref ln),some (.int way),some (.ref lp),some (.ref ap),some (.str o),some (.int (aH st)),s9,none],?_,?_⟩
 .refine ⟨_,Z,_,_,Z,Z,_,Z,cD (λ_=>?_) (λ_=>⟨g1,_,Z⟩)⟩;have hw1:∀w∈zO st,1<=w.2:=λw hw=>by obtain⟨p,hp,rfl⟩:=a_.mp hw;exact(wf.ki p hp).1
  have nwN:((zO st).map (λr:Row=>r.1)).Nodup:=by unfold zO;rw[d7];exact wf.fB
  have nwL:(zO st).length=st.ah.length:=by unfold zO;rw[aE]
  refine⟨_,Z,_,Z,_,Z,⟨⟨a,lp,ns,k,us,zO st,Z,g1.seq hS,h63,hk0,hk1,g1.seq op,(rw'.mono g1).nw,nwN,by omega,hw1,λz zs rs H2 g2 hz0 hz1 hR hro=>?_⟩⟩⟩;have zl:=hR.length;refine⟨_,Z,z,zs,Z,.inl (aB.of hz1),_,_,Z,Z,_,Z,cD (λc=>?_) (λc=>⟨g1.trans g2,_,Z⟩)⟩;have c':(0:Int)<(zs.length:Int):=dY c;have hne:rs≠[] :=λe=>by rw[zl,e]at c';simp at c'
  have rl:=hro.len;have:=nx.pl wf;refine⟨_,Z,⟨⟨z,zs,rs,Z,aB.of hz1,hR,by omega,λt H3 g3 ht=>q t (.cast rs) H3 ((g1.trans g2).trans g3) ht (keep _ (Rt wf hro hne) ⟨by omega,λr hr=>?_⟩ rfl)⟩⟩⟩;obtain⟨r1,r2,w,hw,e,_⟩:=hro.row r hr;obtain⟨p',eL,rfl⟩:=a_.mp hw;have e:p'.nm=r.1:=e;exact⟨by rw[<-e];exact rK (g.nk _ (wf.sub p' eL)),by omega,r2⟩
 rintro σ H2 ⟨g2,s9,rfl⟩;have xN:=g2.sq CM;have IF:=g2.seq hS;have P9:U_ 10 9:=⟨by decide,by decide,by decide +kernel⟩
 have p9:(10:Int) ^ (9:Int).toNat=1000000000:=by decide +kernel
 have mn:∀w:Int,0<w->0<(if(10:Int) ^ (9:Int).toNat<w then(10:Int) ^ (9:Int).toNat else w)/\(if(10:Int) ^ (9:Int).toNat<w then(10:Int) ^ (9:Int).toNat else w)<=w/\(if(10:Int) ^ (9:Int).toNat<w then(10:Int) ^ (9:Int).toNat else w)<=1000000000:=λw h=>by rw[p9];split <;> omega
 refine⟨_,Z,Z,_,Z,cD (λ_=>?_) (λ_=>?_)⟩
 .exact ⟨_,Z,xN.ix (i:=0) x0 ⟨_,Z,(iy 3),λt ht=>ret t (.hand p.nm o) H2 g2 ht (keep _ (by show oH st p.nm o=none;unfold oH;rw[av hin,av how]) ⟨Uw,wol⟩ rfl)⟩⟩
 refine⟨_,Z,Z,_,Z,cD (λ_=>?_) (λ_=>?_)⟩
 .exact ⟨_,Z,xN.ix (i:=0) x0 ⟨(iy 2),λt ht=>ret t (.land p.nm) H2 g2 ht (keep _ (av hin) Uw rfl)⟩⟩
 by_cases zN:way=10/\1<aH st
 .refine ⟨true,⟨_,Z,Z,_,Z,cD (λ_=>⟨_,Z,_,_,Z,Z,_,Z,bh zN.2,Z⟩) (λc=>absurd (bh (by rw[zN.1])) c)⟩,lR ?_⟩;obtain⟨m0,m1,m2⟩:=mn (aH st-1) (by omega);refine⟨_,Z,_,Z,_,Z,_,Z,_,_,Z,Z,_,_,Z,Z,P9,_,_,Z,c7 IF h63 hk0 (by decide) (by decide) m0 λd _ d0 d1=>⟨_,_,Z,Z,(iy 3),λt ht=>ret t (.award o (1+d)) H2 g2 ht (keep _ ?_ ⟨wol,by omega,by omega⟩ rfl)⟩⟩;show mX st o (1+d)=none;unfold mX;rw[av how,au (by omega),au (by omega)]
 refine⟨false,⟨_,Z,Z,_,Z,cD (λc=>⟨_,Z,_,_,Z,Z,_,Z,c9 (λz=>zN ⟨V.int.inj (dY c),z⟩),Z⟩) (λc=>⟨Z,Z⟩)⟩,aL ?_⟩;have RJ:((nms.map V.str).length:Int)=(nms.length:Int):=by rw[aE]
 have RK:((st.nms.map V.str).length:Int)=(st.nms.length:Int):=by rw[aE]
 by_cases h11:way=11/\1<p.wo/\st.nms.length<nms.length
 .refine ⟨true,⟨_,Z,Z,_,Z,cD (λ_=>⟨_,Z,xN.ix (i:=2) x2 ⟨_,_,Z,Z,_,Z,cD (λ_=>⟨_,Z,m,_,Z,vk▸cC.k (k:=Sum.inr "known") (g2 _ _ om),lk,_,Z,.inl (g2.seq ok),_,Z,ln,_,Z,.inl (g2.seq hN),_,_,Z,Z,_,Z,bh (by rw[RJ,RK];omega),Z⟩) (λc=>absurd (bh h11.2.1) c)⟩⟩) (λc=>absurd (bh (by rw[h11.1])) c)⟩,lR ?_⟩;obtain⟨m0,m1,m2⟩:=mn (p.wo-1) (by omega);have ey:=bq h11.2.2;obtain⟨y1,y2,y3⟩:=nx.next ey;generalize nms[st.nms.length]=y at *;have eyv:lC (nms.map V.str) ((st.nms.length:Nat):Int)=some (.str y):=aA (by rw[bO,ey];rfl);refine⟨_,Z,_,Z,_,Z,xN.ix (i:=2) x2 ⟨_,_,Z,Z,_,_,Z,Z,P9,_,_,Z,c7 IF h63 hk0 (by decide) (by decide) m0 λd _ d0 d1=>⟨_,_,Z,Z,?_⟩⟩⟩;refine⟨_,Z,xN.ix (i:=0) x0 ⟨_,Z,_,Z,m,_,Z,vk▸cC.k (k:=Sum.inr "known") (g2 _ _ om),lk,_,Z,.inl (g2.seq ok),ln,_,_,_,Z,Z,g2.seq hN,by rw[aE];exact eyv,_,Z,_,Z,_,Z,_,Z,xN.ix (i:=3) x3 ⟨_,_,Z,Z,c7 IF h63 hk0 (by decide) (by decide) (by omega) λv _ v0 v1=>⟨(iy 5),λt ht=>ret t (.sever p.nm y (1+d) v) H2 g2 ht ⟨?_,⟨Uw,rK y1,⟨by omega,by omega⟩,⟨by omega,?_⟩⟩,y3 _ rfl,by show(8:Nat)≠0;decide⟩⟩⟩⟩⟩
  .show kG st p.nm y (1+d) v=none;unfold kG;rw[av hin,AH y1 y2,eg];show(if _ then _ else _)=none;rw[au (by omega),au (by omega)]
  .have:=g.we p fT;omega
 refine⟨false,⟨_,Z,Z,_,Z,cD (λc=>⟨_,Z,xN.ix (i:=2) x2 ⟨_,_,Z,Z,_,Z,cD (λc2=>⟨_,Z,m,_,Z,vk▸cC.k (k:=Sum.inr "known") (g2 _ _ om),lk,_,Z,.inl (g2.seq ok),_,Z,ln,_,Z,.inl (g2.seq hN),_,_,Z,Z,_,Z,c9 (λz=>h11 ⟨V.int.inj (dY c),dY c2,by rw[RJ,RK]at z;omega⟩),Z⟩) (λc=>⟨Z,Z⟩)⟩⟩) (λc=>⟨Z,Z⟩)⟩,aL ?_⟩;refine⟨_,Z,Z,_,Z,cD (λ_=>?_) (λ_=>?_)⟩
 .obtain ⟨m0,m1,m2⟩:=mn p.wo (by omega);refine⟨_,Z,xN.ix (i:=0) x0 ⟨_,Z,_,Z,_,Z,xN.ix (i:=2) x2 ⟨_,_,Z,Z,P9,_,_,Z,c7 IF h63 hk0 (by decide) (by decide) m0 λd _ d0 d1=>⟨_,_,Z,Z,(iy 3),λt ht=>ret t (.mishap p.nm (1+d)) H2 g2 ht (keep _ ?_ ⟨Uw,by omega,by omega⟩ rfl)⟩⟩⟩⟩;show lT st (p.nm,1+d)=none;unfold lT;show(if p.nm∈fM st then(if 1+d<1 then _ else if(cI st p.nm).wo<1+d then _ else _) else _)=none;rw[av hin,au (by omega),eg,au (by omega)]
 refine⟨_,Z,xN.ix (i:=0) x0 ⟨_,Z,_,Z,K5 IF h63 hk0 (by decide) (by decide) λw H3 w1 w2 g3=>⟨(iy 3),λt ht=>ret t (.rise p.nm w) H3 (g2.trans g3) ht (keep _ ?_ ⟨Uw,by omega,by omega⟩ rfl)⟩⟩⟩;show sP st p.nm w=none;unfold sP;rw[av hin,au (by omega)]
abbrev wg:Stmt:=top 34
abbrev s_:List Str:=["_law_script","_law_k","_law_model_here","_law_names_here"]
abbrev Ob:List Str:=s_.append ["_law_way","_law_more","_law_owner","_law_worth"]
theorem nq:aR Ob s_ (aD wg):=dF
theorem ML(F:At K mg "_law_deed" wg f fd)(bu:Dn P w K mg base 1 "_law_draw" iI (tE K))(lO:Dn P w K mg base 2 "_law_much" oq (Ed K))(pN:Dn P w K mg base 3 "_law_part_deed" lu (EO K))(bD:mg "len"=none):Dn P w K mg base 4 "_law_deed" s_ (T_ K):=by
 refine F.oA nq λcdv A outer s H vs Q E hr h=>?_;obtain⟨⟨a,m,ln,ns,k,nms,c,st,rfl,hS,h63,hk0,hk1,hq,hN,nx,hnl,wf,g,hc,q⟩⟩:=h;refine⟨_,(@cY.h _ _ _ (aj (aX (i:=4) nq.nd (bB bu hr (af (qv 0) (af (qv 1) (af ai (af ai ak))))))
  (aj (aX (i:=5) nq.nd (BZ su (aJ (bL K) (by rfl) bD c5 (af (bM (bV hr) (qv 2) aS) ak)) (aJ (bL K) (by rfl) bD c5 (af (qv 3) ak)) (aU _)))
  (aj (bZ (eO (bW.pt (qA (dW (qv 5)) (rM (eO (bW.pt (iS (aN su (qv 4) ai (aU _)) (iA (aN su (aJ (bL K) (by rfl) bD c5 (af (bM (bV hr) (qv 2) aS) ak)) ai (aU _)))))))))) (aj (aX (i:=6) nq.nd (aC (aK K) (bM (bV hr) (qv 2) aS) (bB bu hr (af (qv 0) (af (qv 1) (af ai (af (aJ (bL K) (by rfl) bD c5 (af (bM (bV hr) (qv 2) aS) ak)) ak)))))))
  (aj (aX (i:=7) nq.nd (bB lO hr (af (qv 0) (af (qv 1) (af ai ak)))))
  (aq (aY (gx (af aS (af (aC (aK K) (qv 3) (aJ (bL K) (by rfl) bD c5 (af (bM (bV hr) (qv 2) aS) ak))) (af (qv 6) (af (qv 7) (af (bB bu hr (af (qv 0) (af (qv 1) (af ai (af ai ak))))) ak)))))))))) bf)
  (aj (bZ (aN d8 (aJ (bL K) (by rfl) bD c5 (af (bM (bV hr) (qv 2) aS) ak)) ai (aU _)) (aq (aY (gx (af aS ak)))) bf)
  (aq (aY (bB pN hr (af (qv 0) (af (qv 1) (af (qv 2) (af (qv 3) (af (qv 4) ak))))))))))))),?_⟩
 obtain⟨kvs,lo,lp,lk,us,om,vo,vp,vk,oo,op,rw',ok⟩:=id hq;have ll:=rw'.len;have hpl:=g.pl;have eW:=wf.kR;have agV:=g.ol;have RJ:((nms.map V.str).length:Int)=(nms.length:Int):=by rw[aE]
 have RK:((st.nms.map V.str).length:Int)=(st.nms.length:Int):=by rw[aE]
 refine⟨_,Z,_,Z,c7 hS h63 hk0 (by decide) (by decide) (by decide) λway _ v0 v1=>?_⟩;refine⟨_,Z,m,_,Z,vk▸cC.k (k:=Sum.inr "known") om,lk,_,Z,.inl ok,_,Z,ln,_,Z,.inl hN,_,_,Z,Z,?_⟩;rw[RJ,RK];have orR:∀b:Bool,b=decide (way<3\/st.ah.length<2)->(tOr (J0 (Ht (Cr λi j=>V.bl (decide (i<j))) (FY 4) (tC (V.int 3)))) (J0 (Ht (Cr λi j=>V.bl (decide (i<j))) (Z6 (λxs H Q=>∃p ys,xs=[V.ref p]/\(aB K H p ys\/cS K H p ys)/\Q (V.int ↑ys.length) H) (QY (Q5 (FY 2) (tC (V.str "parts"))) rA)) (tC (V.int 2))))) [some (.ref a),some (.int k),some (.ref m),some (.ref ln),some (.int way),some (.bl (decide ((st.nms.length:Int)<(nms.length:Int)))),none,none] H (λb' H'=>b'=b/\H'=H):=λb eb=>by
  refine⟨_,Z,_,_,Z,Z,_,Z,cD (λc=>⟨?_,Z⟩) (λc=>⟨_,Z,m,_,Z,vp▸cC.k (k:=Sum.inr "parts") om,lp,_,Z,.inl op,_,_,Z,Z,_,Z,?_,Z⟩)⟩
  .rw [eb];exact(bh (.inl (dY c))).symm
  .have c':¬ way<3:=oW (nM.mpr c);rw[eb];by_cases h2:st.ah.length<2
   .rw [bh (.inr h2:way<3\/st.ah.length<2)];exact bh (by omega)
   .rw [c9 (λz=>z.elim c' h2:¬ (way<3\/st.ah.length<2))];exact c9 (by omega)
 by_cases hL:st.nms.length<nms.length/\(way<3\/st.ah.length<2)
 .refine ⟨true,⟨_,Z,_,Z,cD (λ_=>⟨true,orR true (bh hL.2).symm,Z,Z⟩) (λc=>absurd (bh (by omega)) c)⟩,lR ?_⟩;have ey:=bq hL.1;obtain⟨y1,y2,y3⟩:=nx.next ey;generalize nms[st.nms.length]=y at *;have eyv:lC (nms.map V.str) ((st.nms.length:Nat):Int)=some (.str y):=aA (by rw[bO,ey];rfl);refine⟨_,Z,m,_,Z,vo▸cC.k (k:=Sum.inr "owners") om,_,Z,_,Z,_,Z,m,_,Z,vo▸cC.k (k:=Sum.inr "owners") om,lo,_,Z,.inl oo,c7 hS h63 hk0 (by decide) (by decide) (by rw[aE];omega) λwd _ w0 w1=>?_⟩;rw[aE]at w1;obtain⟨jo,o,ejo,eo,eat⟩:=Lr (l:=st.own) (d:=wd) w0 w1;have how:=bw eo;refine⟨lo,_,_,_,Z,Z,oo,eat,?_⟩;refine⟨_,Z,_,Z,K5 hS h63 hk0 (by decide) (by decide) λw H1 w1 w2 g1=>?_⟩;refine⟨_,Z,_,Z,m,_,Z,vk▸cC.k (k:=Sum.inr "known") (g1 _ _ om),lk,_,Z,.inl (g1.seq ok),ln,_,_,_,Z,Z,g1.seq hN,by rw[aE];exact eyv,_,Z,_,Z,_,Z,_,Z,c7 (g1.seq hS) h63 hk0 (by decide) (by decide) (by decide) λv _ v0 v1=>⟨(iy 5),λt ht=>q t (.load y o w v) _ (g1.trans (aF ht _)) ao ⟨Rq y1 y2 how w1 v0,⟨rK y1,rK (g.on o how),⟨by omega,by omega⟩,⟨by omega,by omega⟩⟩,y3 _ rfl,by show(1:Nat)≠0;decide⟩⟩⟩
 refine⟨false,⟨_,Z,_,Z,cD (λc=>⟨false,orR false (c9 (λz=>hL ⟨by have:=dY c;omega,z⟩)).symm,Z,Z⟩) (λc=>⟨Z,Z⟩)⟩,aL ?_⟩;refine⟨_,Z,m,_,Z,vp▸cC.k (k:=Sum.inr "parts") om,lp,_,Z,.inl op,Z,_,Z,cD (λc=>?_) (λcz=>?_)⟩
 .exact ⟨(iy 1),λt ht=>q t .still _ (aF ht _) ao ⟨Z,True.intro,nx,by show(9:Nat)≠0;decide⟩⟩
 have c':0<st.ah.length:=Nat.pos_of_ne_zero λz=>cz (bh (by rw[ll,z];rfl));exact⟨_,Z,_,Z,_,Z,_,Z,_,Z,⟨⟨a,m,ln,ns,k,way,nms,c,st,Z,hS,h63,hk0,hk1,hq,hN,nx,hnl,wf,g,hc,c',q⟩⟩⟩
abbrev wk:Stmt:=top 39
abbrev ou:List Str:=["_law_model_here","_law_amounts","_law_seat_here","_law_award"]
abbrev Oc:List Str:=ou.append ["_law_parts","_law_whole","_law_kept","_law_given","_law_at_here","_law_k"]
theorem jB:aR Oc ou (aD wk):=dF
theorem MM(F:At K mg "_law_bear" wk f fd)(bD:mg "len"=none)(bX:mg "range"=none)(g_:mg "sum"=none):Dn P w K mg base 1 "_law_bear" ou (LA K):=by
 refine F.oA jB λcdv A outer s H vs Q E hr h=>?_;obtain⟨⟨n,ρ,B,b,l,as,seat,aw,rfl,G,h,wf,hl,cl,ok,q⟩⟩:=h;refine⟨_,(@cY.h _ _ _ (aj (aX (i:=4) jB.nd (bM (bV hr) (qv 0) aS))
  (aj (aX (i:=5) jB.nd (aJ (mQ K rfl) (by rfl) g_ yj (af (ig ["_law_part"] [none] rfl (dO K (qv 4)) (λ_ _ _ _=>(aT (i:=0) (show List.Nodup (["_law_part"] :List Str)from by decide +kernel))) (λ_ _ _ _=>(aC (aK K) (qv 0) ai)) rfl (by rfl)) ak)))
  (aj (aX (i:=6) jB.nd (aI jQ (aI jQ (qv 5) (qv 3)) (aJ (mQ K rfl) (by rfl) g_ yj (af (qv 1) ak))))
  (aj (aX (i:=7) jB.nd (iO ak))
  (aj (eX fC rfl (fR (by rfl) bX (af (aJ (bL K) (by rfl) bD c5 (af (bM (bV hr) (qv 0) aS) ak)) ak)) (aT (i:=8) jB.nd) (aq (b9 (jY mO mK mL dU (qv 7) (af (aJ (mQ K rfl) (by rfl) g_ yj (af (ig ["_law_k","_law_parts","_law_at_here","_law_amounts"] [none,some 4,some 8,some 1] rfl (fR (by rfl) bX (af (aJ (bL K) (by rfl) bD c5 (af (qv 4) ak)) ak)) (λ_ _ _ _=>(aT (i:=0) (show List.Nodup (["_law_k","_law_parts","_law_at_here","_law_amounts"] :List Str)from by decide +kernel))) (λ_ _ _ _=>(aI kC (aC (aK K) (aC (aK K) (aC (aK K) (qv 1) (qv 0)) ai) (qv 2)) (aC (aK K) (qv 3) (qv 0)))) rfl (by rfl)) ak)) ak)))))
  (aj (iz (aN jE (qv 3) ai (aU _)) (aq (iY (aI cU (aC (aK K) (qv 7) (qv 2)) (aI kC (qv 3) (bM (bV hr) (qv 0) aS))) (iZ (qv 7) (qv 2) set_list))) bf)
  (aj (eX fC rfl (fR (by rfl) bX (af (aJ (bL K) (by rfl) bD c5 (af (qv 4) ak)) ak)) (aT (i:=9) jB.nd) (aj (iY (ig ["_law_at_here","_law_parts","_law_k","_law_kept","_law_given"] [none,some 4,some 9,some 6,some 7] rfl (fR (by rfl) bX (af (aJ (bL K) (by rfl) bD c5 (af (qv 7) ak)) ak)) (λ_ _ _ _=>(aT (i:=0) (show List.Nodup (["_law_at_here","_law_parts","_law_k","_law_kept","_law_given"] :List Str)from by decide +kernel))) (λ_ _ _ _=>(aI cU (aI kC (aC (aK K) (aC (aK K) (aC (aK K) (qv 1) (qv 2)) ai) (qv 0)) (qv 3)) (aC (aK K) (qv 4) (qv 0)))) rfl (by rfl)) (iZ (aC (aK K) (qv 4) (qv 9)) ai set_list))
  (aq (iY (aI jQ (aC (aK K) (aC (aK K) (qv 4) (qv 9)) ai) (aC (aK K) (qv 1) (qv 9))) (iZ (aC (aK K) (qv 4) (qv 9)) ai set_list)))))
  (aj (pY (bV hr) (qv 0) aS (aI kC (bM (bV hr) (qv 0) aS) (qv 5)) rfl)
  (aq (pY (bV hr) (qv 0) aS (C9 ["_law_part"] [none] rfl (dO K (qv 4)) (λ_ _ _ _=>(aT (i:=0) (show List.Nodup (["_law_part"] :List Str)from by decide +kernel))) (λ_ _ _ _=>(qv 0)) (λ_ _ _ _=>(aN jE (aC (aK K) (qv 0) ai) ai (aU _))) rfl (by rfl)) rfl))))))))))),?_⟩
 have pl:=wf.pl;have zS:(B.qs.map λq=>V.ref q.1).length=b.ah.length:=by rw[aE];exact h.ql
 refine⟨_,Z,B.m,_,Z,cC.k (k:=Sum.inr "parts") h.om,?_⟩;refine⟨_,Z,B.lp,Z,⟨_,aB.of h.op⟩,λl0 gI=>?_⟩;refine iL (J:=vc K B.lp) (n:=b.ah.length) 0 (λi o H'=>aM H H'/\o=((b.ah.take i).map (λp:BP=>p.wo)).map V.int) (by omega) ⟨aF gI _,Z⟩ (λi o H' hi _ hp=>⟨_,_,aB.of (hp.1 _ _ h.op),bq (by rw[zS];exact hi)⟩) (λo H' _ hp=>⟨_,aB.of (hp.1 _ _ h.op),by rw[zS];exact aQ _⟩) ?_ ?_
 .rintro i y o H2 H3 hi eW ha ⟨g,e⟩ ⟨rfl,hy⟩;have ei:=bq hi;obtain⟨qq,eq,k1,k2,_,_⟩:=h.find ei;have ey:=hy _ (aB.of (g _ _ h.op));rw[bO,eq]at ey;cases ey;refine⟨_,Z,qq.1,_,_,_,Z,Z,aB.of (g _ _ k1),aA (j:=2) rfl,ha,g.cA gI _,?_⟩;subst e;rw[take_snoc ei,bP,bP];rfl
 rintro o1 H1 _ ha ⟨g1,e⟩;rw[cJ]at e;subst e;refine⟨l0,b.ah.map (λp:BP=>p.wo),Z,aB.of ha,?_⟩;show mh 5 (.int (bQ b)) _ _ _;refine⟨_,Z,_,Z,_,_,Z,Z,_,Z,l,as,Z,g1.seq hl,_,_,Z,Z,?_⟩;show mh 6 (.int (bQ b-aw-as.sum)) _ _ _;generalize ekp:bQ b-aw-as.sum=kept at *;have hkp:0<kept:=by rw[<-ekp];exact ok.kept
 have zw:=ok.big;have as0:0<=as.sum:=by
  cases has:as with
  | nil=>exact ff _
  | cons a l=>exact DS (ok.a0 a (by rw[has];exact cT)) (by rw[<-has];exact wY ok.a0 (by rw[has];exact cT))
 have zk:Jm.Sz 60 kept:=zw.of_le (by have:=ok.EA;omega);have za:∀a∈as,Jm.Sz 60 a:=λa hm=>zw.of_le (by have:=ok.a0 a hm;have:=wY ok.a0 hm;have:=ok.EA;omega);have zaw:Jm.Sz 60 aw:=zw.of_le (by have:=ok.EA;omega);have zt:∀p∈b.ah,∀t∈p.tops,Jm.Sz 7000 t:=λp hp t ht=>Jm.Sz.nW (by have:=wf.t0 p hp t ht;have:=wf.b1;omega) (wf.t0 p hp t ht).2 wf.bz;have h1:=h.mono g1;have hl1:=g1.seq hl;refine⟨(iy 0),λgv hgv=>?_⟩;have g2:=aF hgv (.lst []);have W3:upd H1 gv (.lst []) gv=some (.lst []):=ao;have Wv:H gv=none:=g1.free hgv;have Ul:=g1.trans g2;show u_ _ _ _ _ (upd H1 gv (.lst []));generalize upd H1 gv (.lst [])=H2 at *;have h2:=h.mono Ul;have ol:=wf.ol;have oml:(b.own.map V.str).length=b.own.length:=aE _;refine⟨_,Z,B.m,_,Z,cC.k (k:=Sum.inr "owners") h2.om,B.lo,_,Z,.inl (aB.of h2.oo),_,Z,by omega,by omega,?_⟩;refine iw (lo:=0) (n:=(((b.own.map V.str).length:Nat):Int).toNat) (λi σ H'=>aM H H'/\H' gv=some (.lst (((List.range i).map (iD b.ah as)).map V.int))/\∃s8,σ=[some (.ref B.m),some (.ref l),some (.int (seat:Int)),some (.int aw),some (.ref B.lp),some (.int (bQ b)),some (.int kept),some (.ref gv),s8,none])
  ⟨Ul,W3,_,Z⟩ ?_ ?_
 .rintro i σ H3 hi ⟨g3,E_,s8,rfl⟩;have e0:(0:Int)+(i:Int)=((i:Nat):Int):=by omega
  rw[e0];have hio:i<b.own.length:=by omega
  refine⟨_,Z,.inl ⟨Z,_,aB.of E_⟩,_,Z,B.lp,_,Z,.inl (aB.of (g3 _ _ h.op)),_,Z,by omega,by omega,λc hc=>?_⟩;refine iL (J:=Kz 0 _) (n:=b.ah.length) 0 (λj o H'=>aM H3 H'/\o=(List.zipWith (λ(p:BP)(a:Int)=>p.tops.getD i 0*a) (b.ah.take j) (as.take j)).map V.int) (by omega) ⟨aF hc _,Z⟩ (λj o H' hj _ _=>by show j<(((B.qs.map λq=>V.ref q.1).length:Nat):Int).toNat;omega) (λo H' _ _=>by show(((B.qs.map λq=>V.ref q.1).length:Nat):Int).toNat<=b.ah.length;omega) ?_ ?_
  .rintro j x o H4 H5 hj eW Uo ⟨g4,e4⟩ ⟨rfl,rfl⟩;have e0:(0:Int)+(j:Int)=((j:Nat):Int):=by omega
   rw[e0];have ej:=bq hj;have hja:j<as.length:=by rw[ok.len];exact hj
   have ea:=bq hja;obtain⟨qq,eq,k1,k2,_,_⟩:=h.find ej;have gg:=g3.trans g4;have hti:i<(b.ah[j]).tops.length:=by rw[wf.tl _ (bw ej)];exact hio
   have et:=bq hti;have eD:(b.ah[j]).tops.getD i 0=(b.ah[j]).tops[i] :=by rw[fH,et];rfl
   refine⟨_,Z,_,Z,B.lp,_,_,_,Z,Z,aB.of (gg _ _ h.op),aA (by rw[bO,eq];rfl),qq.1,_,_,_,Z,Z,aB.of (gg _ _ k1),aA (j:=4) rfl,_,Z,qq.2,_,_,_,Z,Z,aB.of (gg _ _ k2),aA (by rw[bO,et];rfl),?_⟩;refine⟨_,Z,_,Z,l,_,_,_,Z,Z,gg.seq hl,aA (by rw[bO,ea];rfl),_,_,Z,Z,jI (zt _ (bw ej) _ (bw et)) (za _ (bw ea)),Uo,g4.cA hc _,?_⟩;rw[LB ej ea,e4,bP,eD];rfl
  rintro o H4 _ Uo ⟨g4,e4⟩;have e5:List.zipWith (λ(p:BP)(a:Int)=>p.tops.getD i 0*a) (b.ah.take b.ah.length) (as.take b.ah.length)=List.zipWith (λ(p:BP)(a:Int)=>p.tops.getD i 0*a) b.ah as:=by rw[cJ,<-ok.len,cJ]
  rw[e5]at e4;subst e4;refine⟨c,_,Z,aB.of Uo,gv,_,_,Z,Z,g4 _ _ E_,by rw[aE,aE,FT];exact dz (by omega),(g3.trans g4).cA Wv _,?_,_,Z⟩;rw[ao,List.range_succ,bP,bP];rfl
 rintro σ H3 ⟨g3,E_,s8,rfl⟩;rw[show(((b.own.map V.str).length:Nat):Int).toNat=b.own.length from by omega]at E_;have E_:H3 gv=some (.lst ((gu b as).map V.int)):=E_;have h3:=h.mono g3;have gl:=kW b as;refine⟨λσ H'=>aM H H'/\H' gv=some (.lst ((gX b as seat aw).map V.int))/\σ=[some (.ref B.m),some (.ref l),some (.int (seat:Int)),some (.int aw),some (.ref B.lp),some (.int (bQ b)),some (.int kept),some (.ref gv),s8,none],?_,?_⟩
 .refine ⟨_,Z,_,_,Z,Z,_,Z,cD (λc=>?_) (λc=>?_)⟩
  .have c':0<aw:=dY c;have hsl:seat<(gu b as).length:=by rw[gl];exact ok.seat
   have es:=bq hsl;have eD:(gu b as).getD seat 0=(gu b as)[seat] :=by rw[fH,es];rfl
   refine⟨_,Z,_,Z,gv,_,_,_,Z,Z,aB.of E_,aA (by rw[bO,es];rfl),_,Z,_,Z,B.m,_,Z,cC.k (k:=Sum.inr "bottom") h3.om,_,_,Z,Z,jI zaw wf.bz,_,_,Z,Z,_,Z,_,Z,gv,_,_,_,Z,Z,E_,by rw[aE];exact lJ hsl,g3.cA Wv _,?_,Z⟩;rw[ao];unfold gX;rw[av c',jN,eD]
  .have c':¬ 0<aw:=oW (nM.mpr c);refine⟨g3,?_,Z⟩;unfold gX;rw[au c'];exact E_
 rintro σ H4 ⟨g4,hg4,rfl⟩;have gvl:=vC b as seat aw;generalize egv:gX b as seat aw=given at *;have h4:=h.mono g4;have gmn:(given.map V.int).length=b.own.length:=by rw[aE];exact gvl
 have cgv:ρ gv=none:=G.none Wv;have bl:(c_ b as seat aw).length=b.ah.length:=wX ok.len;refine⟨_,Z,B.lp,_,Z,.inl (aB.of h4.op),_,Z,by omega,by omega,?_⟩;refine iw (lo:=0) (n:=(((B.qs.map λq=>V.ref q.1).length:Nat):Int).toNat) (λi σ H'=>∃ρ' B' s8 s9,σ=[some (.ref B.m),some (.ref l),some (.int (seat:Int)),some (.int aw),some (.ref B.lp),some (.int (bQ b)),some (.int kept),some (.ref gv),s8,s9]/\Gh ρ' H'/\aZ n ρ' B' H' { b with ah:=(c_ b as seat aw).take i++b.ah.drop i }/\B'.m=B.m/\B'.lp=B.lp/\Fr n ρ H ρ' H'/\H' gv=some (.lst (given.map V.int))/\ρ' gv=none)
  ⟨ρ,B,_,_,Z,G.same g4,h4,Z,Z,Fr.of_same g4,hg4,cgv⟩ ?_ ?_
 .rintro i σ H5 hi ⟨ρ5,B5,s8,s9,rfl,G5,h5,wm,CK,F5,Qq,cg5⟩;have e0:(0:Int)+(i:Int)=((i:Nat):Int):=by omega
  rw[e0];have zP:i<b.ah.length:=by omega
  have ei:=bq zP;have fT:=bw ei;have hia:i<as.length:=by rw[ok.len];exact zP
  have ea:=bq hia;have em:((c_ b as seat aw).take i++b.ah.drop i)[i]?=some b.ah[i] :=YC (by omega) ei;have ebp:=VW (seat:=seat) (aw:=aw) ei ea;rw[egv,ekp]at ebp;have Xc:=wf.tl _ fT;have dP:=zt _ fT;generalize b.ah[i]=p at *;have hza:=za _ (bw ea);generalize as[i]=a at *;obtain⟨qq,eq,k1,k2,c1,c2⟩:=h5.find em;have op5:H5 B.lp=some (.lst (B5.qs.map λq=>V.ref q.1)):=by rw[<-CK];exact h5.op
  have Qs:(B5.qs.map λq=>V.ref q.1)[i]?=some (.ref qq.1):=by rw[bO,eq];rfl
  refine⟨_,Z,gv,_,Z,.inl (aB.of Qq),_,Z,by omega,by omega,λt1 ht1=>?_⟩;refine iL (J:=Kz 0 _) (n:=b.own.length) 0 (λj o H'=>aM H5 H'/\o=(List.zipWith (λt g=>t*kept+g) (p.tops.take j) (given.take j)).map V.int) (by omega) ⟨aF ht1 _,Z⟩ (λj o H' hj _ _=>by show j<(((given.map V.int).length:Nat):Int).toNat;omega) (λo H' _ _=>by show(((given.map V.int).length:Nat):Int).toNat<=b.own.length;omega) ?_ ?_
  .rintro j x o H6 H7 hj eW yg ⟨g6,e6⟩ ⟨rfl,rfl⟩;have e0:(0:Int)+(j:Int)=((j:Nat):Int):=by omega
   rw[e0];have et:=bq (show j<p.tops.length by rw[Xc];exact hj);have eg:=bq (show j<given.length by rw[gvl];exact hj);refine⟨_,Z,_,Z,B.lp,_,_,_,Z,Z,aB.of (g6 _ _ op5),aA Qs,qq.1,_,_,_,Z,Z,aB.of (g6 _ _ k1),aA (j:=4) rfl,_,Z,qq.2,_,_,_,Z,Z,aB.of (g6 _ _ k2),aA (by rw[bO,et];rfl),?_⟩;refine⟨_,Z,_,_,Z,Z,jI (dP _ (bw et)) zk,_,Z,_,Z,gv,_,_,_,Z,Z,aB.of (g6 _ _ Qq),aA (by rw[bO,eg];rfl),_,_,Z,Z,yg,g6.cA ht1 _,?_⟩;rw[mT _ et eg,e6,bP];rfl
  rintro o H6 _ yg ⟨g6,e6⟩;rw[show p.tops.take b.own.length=p.tops from by rw[<-Xc];exact cJ,show given.take b.own.length=given from by rw[<-gvl];exact cJ]at e6;subst e6;have h6:=h5.mono g6;have G6:=G5.same g6;have ct1:ρ5 t1=none:=G5.none ht1;have h7:aZ n (bK ρ5 t1 (n,24,p.nm)) B5 H6 { b with ah:=(c_ b as seat aw).take i++b.ah.drop i }:=h6.col ct1;have G7:Gh (bK ρ5 t1 (n,24,p.nm)) H6:=G6.color yg rfl;have F7:Fr n ρ H (bK ρ5 t1 (n,24,p.nm)) H6:=F5.trans (Fr.color ht1 g6);have ct:bK ρ5 t1 (n,24,p.nm) t1=some (n,24,p.nm):=cV;have cg7:bK ρ5 t1 (n,24,p.nm) gv=none:=by rw[bY (λz=>by rw[z]at Qq;rw[Qq]at ht1;cases ht1)];exact cg5
  have hg6:=g6 _ _ Qq;have zU:=g6 _ _ op5;have k16:=g6 _ _ k1;have Ux:bK ρ5 t1 (n,24,p.nm) qq.1=some (n,23,p.nm):=by rw[bY (aG k1 ht1)];exact c1
  generalize bK ρ5 t1 (n,24,p.nm)=ρ7 at *;have ndm:(((c_ b as seat aw).take i++b.ah.drop i).map (λp:BP=>p.nm)).Nodup:=by rw[TF ok.len];exact wf.nd
  have nqg:gv≠qq.1:=λz=>by rw[z,Ux]at cg7;cases cg7
  generalize eT:List.zipWith (λt g=>t*kept+g) p.tops given=T at *;refine⟨_,Z,_,Z,B.lp,_,_,_,Z,Z,aB.of zU,aA Qs,qq.1,_,_,4,Z,Z,k16,Z,?_⟩;have h8:=h7.iX G7 (p1:={ p with tops:=T }) (t1:=t1) em eq rfl ndm yg ct;have G8:=G7.wr (a:=qq.1) (o:=f_ { p with tops:=T } t1) rfl;have F8:=F7.trans (Fr.write (o:=f_ { p with tops:=T } t1) Ux);have k18:upd H6 qq.1 (f_ { p with tops:=T } t1) qq.1=some (f_ { p with tops:=T } t1):=ao;have hg8:upd H6 qq.1 (f_ { p with tops:=T } t1) gv=some (.lst (given.map V.int)):=by rw[az nqg];exact hg6
  have nlp:B.lp≠qq.1:=λz=>by have:=h7.cp;rw[CK,z,Ux]at this;cases this
  have op8:upd H6 qq.1 (f_ { p with tops:=T } t1) B.lp=some (.lst (B5.qs.map λq=>V.ref q.1)):=by rw[az nlp];exact zU
  have ntq:t1≠qq.1:=λz=>by rw[z,Ux]at ct;cases ct
  have ht8:upd H6 qq.1 (f_ { p with tops:=T } t1) t1=some (.lst (T.map V.int)):=by rw[az ntq];exact yg
  generalize hH8:upd H6 qq.1 (HO.lst _)=H8;have acy:upd H6 qq.1 (f_ { p with tops:=T } t1)=H8:=hH8;rw[acy]at h8 G8 F8 k18 hg8 op8 ht8;clear hH8 acy;refine⟨_,Z,_,Z,B.lp,_,_,_,Z,Z,aB.of op8,aA Qs,qq.1,_,_,_,Z,Z,aB.of k18,aA (j:=2) rfl,?_⟩;refine⟨_,Z,_,Z,l,_,_,_,Z,Z,F8.seq hl cl,aA (by rw[bO,ea];rfl),_,_,Z,Z,?_⟩;refine⟨_,Z,_,Z,B.lp,_,_,_,Z,Z,aB.of op8,aA Qs,qq.1,_,_,2,Z,Z,k18,Z,?_⟩;have MN:i<B5.qs.length:=(di.mp eq).1;have him:i<((c_ b as seat aw).take i++b.ah.drop i).length:=(di.mp em).1;have h9:=h8.iX G8 (i:=i) (p0:={ p with tops:=T }) (p1:=mV given kept p a) (q0:=(qq.1,t1)) (t1:=t1) (iB him) (iB MN) rfl (by show((((c_ b as seat aw).take i++b.ah.drop i).set i { p with tops:=T }).map (λp:BP=>p.nm)).Nodup;rw[jN,mU (by rw[bO,em];rfl)];exact ndm) (by show H8 t1=some (.lst ((List.zipWith (λt g=>t*kept+g) p.tops given).map V.int));rw[eT];exact ht8) ct
  have e9:(((c_ b as seat aw).take i++b.ah.drop i).set i { p with tops:=T }).set i (mV given kept p a)=(c_ b as seat aw).take (i+1)++b.ah.drop (i+1):=by rw[oB];exact YD ebp zP
  have h9':aZ n ρ7 { B5 with qs:=(B5.qs.set i (qq.1,t1)).set i (qq.1,t1) } (upd H8 qq.1 (f_ (mV given kept p a) t1)) { b with ah:=(((c_ b as seat aw).take i++b.ah.drop i).set i { p with tops:=T }).set i (mV given kept p a) }:=h9;rw[e9]at h9';exact⟨ρ7,{ B5 with qs:=(B5.qs.set i (qq.1,t1)).set i (qq.1,t1) },_,_,Z,G8.wr rfl,h9',wm,CK,F8.trans (Fr.write Ux),by rw[az nqg];exact hg8,cg7⟩
 rintro σ H5 ⟨ρ5,B5,s8,s9,rfl,G5,h5,wm,CK,F5,Qq,cg5⟩;rw[show(((B.qs.map λq=>V.ref q.1).length:Nat):Int).toNat=b.ah.length from by omega,show(c_ b as seat aw).take b.ah.length=c_ b as seat aw from by rw[<-bl];exact cJ,DJ,sf]at h5;obtain⟨m5,Uy,lp5,Uz,UA,Bk⟩:=B5;have wm:m5=B.m:=wm;have CK:lp5=B.lp:=CK;subst wm CK;refine⟨_,Z,B.m,_,Z,cC.k (k:=Sum.inr "bottom") h5.om,_,Z,_,_,Z,Z,jI wf.bz zw,_,Z,B.m,_,Z,tZ.k (k:=Sum.inr "bottom") h5.om (by show 5<sizeLine;decide),?_⟩;rw[TH];have h6:=h5.Yz G5 (b.bot*bQ b);have G6:=G5.wr (a:=B.m) (o:=.dK (fL ⟨B.m,Uy,B.lp,Uz,UA,Bk⟩ (b.bot*bQ b))) rfl;have F6:=F5.trans (Fr.write (o:=.dK (fL ⟨B.m,Uy,B.lp,Uz,UA,Bk⟩ (b.bot*bQ b))) h5.cm);generalize hH6:upd H5 B.m (HO.dK _)=H6;have acz:upd H5 B.m (.dK (fL ⟨B.m,Uy,B.lp,Uz,UA,Bk⟩ (b.bot*bQ b)))=H6:=hH6;have h6:aZ n ρ5 ⟨B.m,Uy,B.lp,Uz,UA,Bk⟩ (upd H5 B.m (.dK (fL ⟨B.m,Uy,B.lp,Uz,UA,Bk⟩ (b.bot*bQ b)))) { b with ah:=c_ b as seat aw,bot:=b.bot*bQ b }:=h6;rw[acz]at h6 G6 F6;clear hH6 acz;have Fb:Bk.length=(c_ b as seat aw).length:=h5.ql;have UB:(Bk.map λq=>V.ref q.1).length=(c_ b as seat aw).length:=by rw[aE];exact Fb
 have zU:H6 B.lp=some (.lst (Bk.map λq=>V.ref q.1)):=h6.op;refine⟨_,Z,B.lp,Z,⟨_,aB.of zU⟩,λlp uJ=>?_⟩;refine Gf (J:=vc K B.lp) (n:=(c_ b as seat aw).length) 0 (λi o H'=>aM H6 H'/\o=(jW ((c_ b as seat aw).take i) (Bk.take i)).map λq=>V.ref q.1) (by omega) ⟨aF uJ _,Z⟩ (λi o H' hi _ hp=>⟨_,_,aB.of (hp.1 _ _ zU),bq (by rw[UB];exact hi)⟩) (λo H' _ hp=>⟨_,aB.of (hp.1 _ _ zU),by rw[UB];exact aQ _⟩) ?_ ?_
 .rintro i y o H7 H8 hi eW ha ⟨g,e⟩ ⟨rfl,hy⟩;have ei:=bq hi;obtain⟨qq,eq,k1,k2,_,_⟩:=h6.find ei;have eq:Bk[i]?=some qq:=eq;have ey:=hy _ (aB.of (g _ _ zU));rw[bO,eq]at ey;cases ey;have es:=yV ei eq;refine⟨_,Z,qq.1,_,_,_,Z,Z,aB.of (g _ _ k1),aA (j:=2) rfl,_,_,Z,Z,_,Z,cD (λc=>?_) (λc=>?_)⟩
  .rw [av (dY c)]at es;refine⟨_,Z,ha,g.cA uJ _,?_⟩;rw[es,e,bP];rfl
  .rw [au (oW (nM.mpr c))]at es;exact⟨ha,g,by rw[es,e,sf]⟩
 rintro o H7 _ ha ⟨g7,e⟩;rw[cJ,<-Fb,cJ]at e;subst e;have h7:=h6.mono g7;have G7:=G6.same g7;have clp:ρ5 lp=none:=G6.none uJ;have h8:=h7.col (t:=22) (x:=⟨#[]⟩) clp;have G8:Gh (bK ρ5 lp (n,22,⟨#[]⟩)) H7:=G7.color ha rfl;have F8:Fr n ρ H (bK ρ5 lp (n,22,⟨#[]⟩)) H7:=F6.trans (Fr.color uJ g7);have h9:=h8.Tu G8 (lp:=lp) (qs:=jW (c_ b as seat aw) Bk) (ps:=(c_ b as seat aw).filter λp=>decide (0<p.wo)) ha cV (AE Fb) (λi x y ex ey=>by obtain⟨j,a1,a2⟩:=yU ex ey Fb;exact h8.pt j x y a1 a2)
 refine⟨_,Z,B.m,_,Z,tZ.k (k:=Sum.inr "parts") h7.om (by show 5<sizeLine;decide),?_⟩;rw[LC];exact q _ _ _ (G8.wr rfl) h9 rfl (F8.trans (Fr.write h8.cm))
abbrev nt:Stmt:=top 40
abbrev ko:List Str:=["_law_model_here","_law_rows_here"]
abbrev Ci:List Str:=ko.append ["_law_amounts","_law_name_here","_law_amount"]
theorem j8:aR Ci ko (aD nt):=dF
theorem Bl(F:At K mg "_law_model_cast" nt f fd)(tQ:Dn P w K mg base 1 "_law_at" tP (W5 K))(lP:Dn P w K mg base 1 "_law_bear" ou (LA K)):Dn P w K mg base 2 "_law_model_cast" ko (PL K):=by
 refine F.oA j8 λcdv A outer s H vs Q E hr h=>?_;obtain⟨⟨n,ρ,B,b,l,us,rs,rfl,G,h,wf,hl,hR,cl,rb,hle,bo,q⟩⟩:=h;refine⟨_,(@cY.h _ _ _ (aj (pX (i:=2) ["_law_part"] [none] j8.nd rfl rfl rfl (dO K (bM (bV hr) (qv 0) aS)) (λ_ _ _ _=>(aT (i:=0) (show List.Nodup (["_law_part"] :List Str)from by decide +kernel))) (λ_ _ _ _=>ai) rfl (by rfl) (by rfl))
  (aj (eX fC rfl (dO K (qv 1)) (iT K (n:=2) rfl (cN (aT (i:=3) j8.nd) (cN (aT (i:=4) j8.nd) iR))) (aq (iY (qv 4) (iZ (qv 2) (bB tQ hr (af (bM (bV hr) (qv 0) aS) (af (qv 3) ak))) set_list))))
  (aq (b9 (bB lP hr (af (qv 0) (af (qv 2) (af ai (af ai ak)))))))))),?_⟩
 have pl:=wf.pl;have zS:(B.qs.map λq=>V.ref q.1).length=b.ah.length:=by rw[aE];exact h.ql
 refine⟨_,Z,B.m,_,Z,cC.k (k:=Sum.inr "parts") h.om,B.lp,Z,⟨_,aB.of h.op⟩,λl0 gI=>?_⟩;refine iL (J:=vc K B.lp) (n:=b.ah.length) 0 (λi o H'=>aM H H'/\o=((b.ah.take i).map λ_=>(0:Int)).map V.int) (by omega) ⟨aF gI _,Z⟩ (λi o H' hi _ hp=>⟨_,_,aB.of (hp.1 _ _ h.op),bq (by rw[zS];exact hi)⟩) (λo H' _ hp=>⟨_,aB.of (hp.1 _ _ h.op),by rw[zS];exact aQ _⟩) ?_ ?_
 .rintro i y o H2 H3 hi eW ha ⟨g,e⟩ ⟨rfl,hy⟩;refine⟨ha,g.cA gI _,?_⟩;subst e;rw[take_snoc (bq hi),bP,bP];rfl
 rintro o1 H1 _ ha ⟨g1,e⟩;rw[cJ]at e;subst e;have L8:=hR.length;refine⟨_,Z,l,Z,⟨us,g1.seq hl⟩,?_⟩;refine kQ (K:=K) (xs:=us) (λi σ H'=>aM H H'/\H' l0=some (.lst ((dm b (rs.take i)).map V.int))/\∃s3 s4,σ=[some (.ref B.m),some (.ref l),some (.ref l0),s3,s4]) ⟨g1,ha,_,_,Z⟩ (λi σ H' _ hp=>hp.1.seq hl) ?_ ?_
 .rintro i x σ H2 hx ⟨g2,ha2,s3,s4,rfl⟩;obtain⟨a,r,rfl,er,har⟩:=hR.get hx;obtain⟨r1,j,p,hp,e,le⟩:=rb.row r (bw er);have hj:=(di.mp hp).1;have hn:r.1∉(rs.take i).map (λr:Row=>r.1):=by rw[Bw];exact kF rb.nd (by rw[bO,er];rfl)
  obtain⟨s1,s2⟩:=EB wf.nd hp e hn;have h2:=h.mono g2;refine⟨a,_,Z,cS.of (g2 _ _ har),Z,_,_,Z,_,_,Z,Z,?_⟩;refine⟨_,Z,_,Z,_,Z,B.m,_,Z,cC.k (k:=Sum.inr "parts") h2.om,_,Z,⟨⟨B.lp,_,uH b,j,(p.nm,p.wo),by rw[<-e];rfl,aB.of h2.op,h2.nw,?_,by unfold uH;rw[aE];exact pl,by unfold uH;rw[bO,hp];rfl,?_⟩⟩⟩
  .unfold uH;rw[d7];exact wf.nd
  .refine ⟨l0,_,_,j,Z,Z,ha2,by rw[aE,AF];exact lJ hj,g2.cA gI _,?_,_,_,Z⟩;rw[ao,take_snoc er,s1,jN]
 rintro σ H2 ⟨g2,ha2,s3,s4,rfl⟩;rw[L8,cJ]at ha2;refine⟨_,Z,_,Z,⟨⟨n,ρ,B,b,l0,dm b rs,0,0,Z,G.same g2,h.mono g2,wf,aB.of ha2,G.none gI,bo,λρ' B' H' a1 a2 a3 a4=>q ρ' B' H' a1 a2 a3 ((Fr.of_same g2).trans a4)⟩⟩⟩
abbrev nT:Stmt:=top 41
abbrev lz:List Str:=["_law_model_here","_law_deed_here"]
abbrev Dv:List Str:=lz.append ["_law_at_here","_law_part","_law_old","_law_new","_law_moved"]
theorem iu:aR Dv lz (aD nT):=dF
theorem Cj(F:At K mg "_law_model_one" nT f fd)(tQ:Dn P w K mg base 1 "_law_at" tP (EI K))(gP:Dn P w K mg base 1 "_law_seat" lN (Ez K))(dI:mg "list"=none):Dn P w K mg base 4 "_law_model_one" lz (w_ AlO K):=by
 refine F.oA iu λcdv A outer s H vs Q E hr h=>?_;obtain⟨⟨n,c,ρ,B,b,st,z,d,rfl,hz,G,hb,gd,hc,wf,al,db,hr0,q⟩⟩:=h;refine⟨_,(@cY.h _ _ _ (aj (aX (i:=2) iu.nd (bB tQ hr (af (bM (bV hr) (qv 0) aS) (af (aC (aO K) (qv 1) ai) ak))))
  (aj (aX (i:=3) iu.nd (aC (aK K) (bM (bV hr) (qv 0) aS) (qv 2)))
  (aj (iz (aN d8 (aC (aO K) (qv 1) ai) aS (aU _)) (aq (iY (aI jQ (aC (aK K) (qv 3) ai) (aC (aO K) (qv 1) ai)) (iZ (qv 3) ai set_list))) (aq (iz (aN d8 (aC (aO K) (qv 1) ai) aS (aU _)) (aq (iY (aI cU (aC (aK K) (qv 3) ai) (aC (aO K) (qv 1) ai)) (iZ (qv 3) ai set_list))) (aq (iz (aN d8 (aC (aO K) (qv 1) ai) aS (aU _)) (aj (aX (i:=4) iu.nd (bB gP hr (af (bM (bV hr) (qv 0) aS) (af (aC (aK K) (qv 3) ai) ak))))
  (aj (aX (i:=5) iu.nd (bB gP hr (af (bM (bV hr) (qv 0) aS) (af (aC (aO K) (qv 1) ai) ak))))
  (aj (aX (i:=6) iu.nd (aC (aK K) (aC (aK K) (qv 3) ai) (qv 4)))
  (aj (iY ai (iZ (aC (aK K) (qv 3) ai) (qv 4) set_list))
  (aj (iY (aI cU (aC (aK K) (aC (aK K) (qv 3) ai) (qv 5)) (qv 6)) (iZ (aC (aK K) (qv 3) ai) (qv 5) set_list))
  (aq (iY (aC (aO K) (qv 1) ai) (iZ (qv 3) ai set_list)))))))) (aq (iz (aN d8 (aC (aO K) (qv 1) ai) aS (aU _)) (aj (iY (aI jQ (aC (aK K) (qv 3) ai) (aC (aO K) (qv 1) ai)) (iZ (qv 3) ai set_list))
  (aj (iY (aI jQ (aC (aK K) (qv 3) ai) (aC (aO K) (qv 1) ai)) (iZ (qv 3) ai set_list))
  (aj (b9 (jY mO mK mL dU (bM (bV hr) (qv 0) aS) (af (iO (af (aC (aO K) (qv 1) ai) (af (aC (aK K) (qv 3) ai) (af (aC (aO K) (qv 1) ai) (af (aC (aO K) (qv 1) ai) (af (kO (lD K) (by rfl) dI u7 (af (aC (aK K) (qv 3) ai) ak)) ak)))))) ak)))
  (aq (b9 (jY mO mK mL dU (bM (bV hr) (qv 0) aS) (af (aC (aO K) (qv 1) ai) ak))))))) (aq (iz (aN d8 (aC (aO K) (qv 1) ai) aS (aU _)) (aj (b9 (jY mO mK mL dU (bM (bV hr) (qv 0) aS) (af (iO (af (aC (aK K) (qv 3) ai) (af (aC (aK K) (qv 3) ai) (af (aC (aK K) (qv 3) ai) (af (kO (lD K) (by rfl) dI u7 (af (aC (aK K) (qv 3) ai) ak)) (af (bM (bV hr) (qv 0) aS) ak)))))) ak)))
  (aq (iY ai (iZ (qv 3) ai set_list)))) bf)))))))))
  (aq (pY (bV hr) (qv 0) aS (C9 ["_law_one"] [none] rfl (dO K (bM (bV hr) (qv 0) aS)) (λ_ _ _ _=>(aT (i:=0) (show List.Nodup (["_law_one"] :List Str)from by decide +kernel))) (λ_ _ _ _=>(qv 0)) (λ_ _ _ _=>(aN jE (aC (aK K) (qv 0) ai) ai (aU _))) rfl (by rfl)) rfl)))))),?_⟩
 have rl:=gd.rel;have wb:=gd.fJ;have dP:cS K H z (Dd.v d):=cS.of hz;obtain⟨x,e1,hm⟩:∃x,lC (Dd.v d) 1=some (.str x)/\x∈fM st:=by
  have a1:=al.one;cases d with
  | mishap x a=>exact⟨x,aA (j:=1) rfl,(pF (r:=(x,a)) hr0).1⟩
  | rise x a=>exact⟨x,aA (j:=1) rfl,(AR hr0).1⟩
  | hand x o=>exact⟨x,aA (j:=1) rfl,(tN hr0).1⟩
  | land x=>exact⟨x,aA (j:=1) rfl,xg hr0⟩
  | sever x y a we=>exact⟨x,aA (j:=1) rfl,(kZ hr0).1⟩
  | _=>exact a1.elim
 refine⟨_,Z,B.m,_,Z,cC.k (k:=Sum.inr "parts") hb.om,_,Z,z,_,_,_,Z,Z,dP,e1,YQ hb rl wf wb (λi p q' k1 k2 k3 k4 k5 k6 k7 k8 _=>?_) λhn=>absurd hm hn⟩;obtain⟨qq,qx,r1,r2,c1,c2⟩:=hb.find k2;have Qs:lC (B.qs.map λq=>V.ref q.1) (i:Int)=some (.ref qq.1):=aA (by rw[bO,qx];rfl);refine⟨_,Z,B.m,_,Z,cC.k (k:=Sum.inr "parts") hb.om,_,Z,B.lp,_,_,_,Z,Z,aB.of hb.op,Qs,?_⟩;have bl:b.ah.length<50:=by rw[<-gd.rel.len];exact al.pl
 have kl:b.ef.length<900:=by rw[<-gd.ef];exact al.kl
 have UC:∀y:BP,(b.ah.set i y).length<=1000:=λy=>by rw[eZ];omega
 have hi:i<b.ah.length:=(di.mp k2).1;have MN:i<B.qs.length:=(di.mp qx).1;refine⟨λσ' H'=>∃ρ5 B5 bb s4 s5 s6,σ'=[some (.ref B.m),some (.ref z),some (.int (i:Int)),some (.ref qq.1),s4,s5,s6]/\yZ b d={ bb with ah:=bb.ah.filter λp=>decide (0<p.wo) }/\bb.ah.length<=1000/\Gh ρ5 H'/\aZ n ρ5 B5 H' bb/\B5.m=B.m/\Fr n ρ H ρ5 H',?_,?_⟩
 .cases d with
  | mishap x' a=>
   cases e1.symm.trans (show lC (Dd.v (.mishap x' a)) 1=some (.str x')from aA (j:=1) rfl);refine⟨_,Z,z,_,_,_,Z,Z,dP,aA (j:=0) rfl,Z,_,Z,cD (λ_=>?_) (λc=>absurd (bh rfl) c)⟩;have eS:(b.ah.map λp=>if p.nm=x then({ p with wo:=p.wo-a }:BP) else p)=b.ah.set i { q' with wo:=q'.wo-a }:=by rw[<-k4];exact kY (nm:=λp:BP=>p.nm) (f:=λp:BP=>{ p with wo:=p.wo-a }) wb.nd k2
   have st1:aZ n ρ { B with qs:=B.qs.set i (qq.1,qq.2) } (upd H qq.1 (f_ { q' with wo:=q'.wo-a } qq.2)) { b with ah:=b.ah.set i { q' with wo:=q'.wo-a } }:=hb.iX G k2 qx rfl wb.nd r2 c2;refine⟨_,Z,qq.1,_,_,_,Z,Z,aB.of r1,aA (j:=2) rfl,_,Z,z,_,_,_,Z,Z,dP,aA (j:=2) rfl,_,_,Z,Z,_,Z,qq.1,_,_,2,Z,Z,r1,Z,?_⟩;exact⟨ρ,_,_,_,_,_,Z,(by show mY b x _=_;unfold mY;rw[eS]),UC _,G.wr rfl,st1,Z,Fr.write c1⟩
  | rise x' a=>
   cases e1.symm.trans (show lC (Dd.v (.rise x' a)) 1=some (.str x')from aA (j:=1) rfl);refine cO dP rfl (by decide) rfl (aL ?_);refine⟨_,?_,λ_ _ y=>y⟩;refine⟨_,Z,z,_,_,_,Z,Z,dP,aA (j:=0) rfl,Z,_,Z,cD (λ_=>?_) (λc=>absurd (bh rfl) c)⟩;have eS:(b.ah.map λp=>if p.nm=x then({ p with wo:=p.wo+a }:BP) else p)=b.ah.set i { q' with wo:=q'.wo+a }:=by rw[<-k4];exact kY (nm:=λp:BP=>p.nm) (f:=λp:BP=>{ p with wo:=p.wo+a }) wb.nd k2
   have st1:aZ n ρ { B with qs:=B.qs.set i (qq.1,qq.2) } (upd H qq.1 (f_ { q' with wo:=q'.wo+a } qq.2)) { b with ah:=b.ah.set i { q' with wo:=q'.wo+a } }:=hb.iX G k2 qx rfl wb.nd r2 c2;refine⟨_,Z,qq.1,_,_,_,Z,Z,aB.of r1,aA (j:=2) rfl,_,Z,z,_,_,_,Z,Z,dP,aA (j:=2) rfl,_,_,Z,Z,_,Z,qq.1,_,_,2,Z,Z,r1,Z,?_⟩;exact⟨ρ,_,_,_,_,_,Z,(by show mY b x _=_;unfold mY;rw[eS]),UC _,G.wr rfl,st1,Z,Fr.write c1⟩
  | hand x' o=>
   cases e1.symm.trans (show lC (Dd.v (.hand x' o)) 1=some (.str x')from aA (j:=1) rfl);refine cO dP rfl (by decide) rfl (aL ?_);refine⟨_,?_,λ_ _ y=>y⟩;refine cO dP rfl (by decide) rfl (aL ?_);refine⟨_,?_,λ_ _ y=>y⟩;obtain⟨_,ho⟩:=tN hr0;have pl:=gd.pl;have hi:i<b.ah.length:=(di.mp k2).1;have MN:i<B.qs.length:=(di.mp qx).1;have Xs:=bw k2;have hto:=wb.tl q' Xs;have ol:=wb.ol;have how:q'.ow∈b.own:=by rw[<-rl.own,k5];exact wf.ow p (bw k1)
   have hoo:o∈b.own:=by rw[<-rl.own];exact ho
   have h1:b.own.idxOf q'.ow<q'.tops.length:=by rw[hto];exact wF how
   have h2:b.own.idxOf o<q'.tops.length:=by rw[hto];exact wF hoo
   obtain⟨bb,MO⟩:∃bb:BS,bb={ b with ah:=b.ah.set i (jb b o q') }:=⟨_,rfl⟩
   have eS:(b.ah.map λp=>if p.nm=x then jb b o p else p)=b.ah.set i (jb b o q'):=by rw[<-k4];exact kY (nm:=λp:BP=>p.nm) (f:=jb b o) wb.nd k2
   have MP:yZ b (.hand x o)={ bb with ah:=bb.ah.filter λp=>decide (0<p.wo) }:=by show mY b x (jb b o)=_;unfold mY;rw[eS,MO]
   have at':∀{l:List Int}{j:Nat},j<l.length->lC (l.map V.int) (j:Int)=some (.int (l.getD j 0)):=λ{l j} h=>aA (by rw[bO,fH,bq h];rfl);refine⟨_,Z,z,_,_,_,Z,Z,dP,aA (j:=0) rfl,Z,_,Z,cD (λ_=>?_) (λc=>absurd (bh rfl) c)⟩;refine⟨_,Z,B.m,_,Z,cC.k (k:=Sum.inr "owners") hb.om,_,Z,qq.1,_,_,_,Z,Z,aB.of r1,aA (j:=1) rfl,⟨⟨B.lo,b.own,q'.ow,Z,aB.of hb.oo,how,by omega,?_⟩⟩⟩;refine⟨_,Z,B.m,_,Z,cC.k (k:=Sum.inr "owners") hb.om,_,Z,z,_,_,_,Z,Z,dP,aA (j:=2) rfl,⟨⟨B.lo,b.own,o,Z,aB.of hb.oo,hoo,by omega,?_⟩⟩⟩;refine⟨_,Z,qq.1,_,_,_,Z,Z,aB.of r1,aA (j:=4) rfl,_,Z,qq.2,_,_,_,Z,Z,aB.of r2,at' h1,?_⟩;refine⟨_,Z,qq.1,_,_,_,Z,Z,aB.of r1,aA (j:=4) rfl,_,Z,qq.2,_,_,b.own.idxOf q'.ow,Z,Z,r2,by rw[aE];exact lJ h1,?_⟩;have m1:(q'.tops.map V.int).set (b.own.idxOf q'.ow) (.int 0)=(q'.tops.set (b.own.idxOf q'.ow) 0).map V.int:=jN.symm;rw[m1];have s1:=hb.Dc G (q'.tops.set (b.own.idxOf q'.ow) 0) k2 qx wb.nd;have G1:=G.wr (a:=qq.2) (o:=.lst ((q'.tops.set (b.own.idxOf q'.ow) 0).map V.int)) rfl;have F1:Fr n ρ H ρ (upd H qq.2 (.lst ((q'.tops.set (b.own.idxOf q'.ow) 0).map V.int))):=Fr.write c2;have Fc:z≠qq.2:=λe=>by rw[e,r2]at hz;cases hz
   have hz1:upd H qq.2 (.lst ((q'.tops.set (b.own.idxOf q'.ow) 0).map V.int)) z=some (.tup (Dd.v (.hand x o))):=by rw[az Fc];exact hz
   obtain⟨UD,Xv,_,_⟩:=s1.pt i _ _ (iB hi) qx;have Mp:∀y:BP,y.nm=q'.nm->((b.ah.set i y).map λp:BP=>p.nm).Nodup:=λy e=>by
    have:(b.ah.set i y).map (λp:BP=>p.nm)=b.ah.map (λp:BP=>p.nm):=by rw[jN,e];exact AS (f:=λp:BP=>p.nm) (x:=q') k2
    rw[this];exact wb.nd
   generalize upd H qq.2 (.lst ((q'.tops.set (b.own.idxOf q'.ow) 0).map V.int))=H1 at *;have h2':b.own.idxOf o<(q'.tops.set (b.own.idxOf q'.ow) 0).length:=by rw[eZ];exact h2
   refine⟨_,Z,qq.1,_,_,_,Z,Z,aB.of UD,aA (j:=4) rfl,_,Z,qq.2,_,_,_,Z,Z,aB.of Xv,at' h2',_,Z,_,_,Z,Z,_,Z,qq.1,_,_,_,Z,Z,aB.of UD,aA (j:=4) rfl,_,Z,qq.2,_,_,b.own.idxOf o,Z,Z,Xv,by rw[aE];exact lJ h2',?_⟩;have m2:((q'.tops.set (b.own.idxOf q'.ow) 0).map V.int).set (b.own.idxOf o) (.int ((q'.tops.set (b.own.idxOf q'.ow) 0).getD (b.own.idxOf o) 0+q'.tops.getD (b.own.idxOf q'.ow) 0))=(lF q'.tops (b.own.idxOf q'.ow) (b.own.idxOf o)).map V.int:=jN.symm;rw[m2];have s2:=s1.Dc G1 (lF q'.tops (b.own.idxOf q'.ow) (b.own.idxOf o)) (iB hi) qx (Mp _ rfl);have G2:=G1.wr (a:=qq.2) (o:=.lst ((lF q'.tops (b.own.idxOf q'.ow) (b.own.idxOf o)).map V.int)) rfl;have F2:Fr n ρ H ρ (upd H1 qq.2 (.lst ((lF q'.tops (b.own.idxOf q'.ow) (b.own.idxOf o)).map V.int))):=F1.trans (Fr.write c2);have hz2:upd H1 qq.2 (.lst ((lF q'.tops (b.own.idxOf q'.ow) (b.own.idxOf o)).map V.int)) z=some (.tup (Dd.v (.hand x o))):=by rw[az Fc];exact hz1
   have Xw:(b.ah.set i { q' with tops:=q'.tops.set (b.own.idxOf q'.ow) 0 }).set i { q' with tops:=lF q'.tops (b.own.idxOf q'.ow) (b.own.idxOf o) }=b.ah.set i { q' with tops:=lF q'.tops (b.own.idxOf q'.ow) (b.own.idxOf o) }:=oB ..;have s2:aZ n ρ B (upd H1 qq.2 (.lst ((lF q'.tops (b.own.idxOf q'.ow) (b.own.idxOf o)).map V.int))) { b with ah:=b.ah.set i { q' with tops:=lF q'.tops (b.own.idxOf q'.ow) (b.own.idxOf o) } }:=by rw[<-Xw];exact s2
   generalize upd H1 qq.2 (.lst ((lF q'.tops (b.own.idxOf q'.ow) (b.own.idxOf o)).map V.int))=H2 at *;obtain⟨Xx,r22,c21,c22⟩:=s2.pt i _ _ (iB hi) qx;refine⟨_,Z,z,_,_,_,Z,Z,cS.of hz2,aA (j:=2) rfl,_,Z,qq.1,_,_,1,Z,Z,Xx,Z,?_⟩;have s3:=s2.iX (i:=i) (p1:=jb b o q') (t1:=qq.2) G2 (iB hi) qx rfl (Mp _ rfl) r22 c22;have e3s:(b.ah.set i { q' with tops:=lF q'.tops (b.own.idxOf q'.ow) (b.own.idxOf o) }).set i (jb b o q')=b.ah.set i (jb b o q'):=oB ..;have s4:aZ n ρ { B with qs:=B.qs.set i (qq.1,qq.2) } (upd H2 qq.1 (f_ (jb b o q') qq.2)) bb:=by rw[MO,<-e3s];exact s3
   exact⟨_,{ B with qs:=B.qs.set i (qq.1,qq.2) },bb,_,_,_,Z,MP,(by rw[MO];exact UC _),G2.wr rfl,s4,Z,F2.trans (Fr.write c21)⟩
  | sever x' y a we=>
   cases e1.symm.trans (show lC (Dd.v (.sever x' y a we)) 1=some (.str x')from aA (j:=1) rfl);refine cO dP rfl (by decide) rfl (aL ?_);refine⟨_,?_,λ_ _ y=>y⟩;refine cO dP rfl (by decide) rfl (aL ?_);refine⟨_,?_,λ_ _ y=>y⟩;refine cO dP rfl (by decide) rfl (aL ?_);refine⟨_,?_,λ_ _ y=>y⟩;obtain⟨_,⟨_,hy⟩,s4,s5,s6,s7⟩:=kZ hr0;have pl:=gd.pl;have kl:=gd.kl;have eb:rO b x=q':=by unfold rO;rw[<-k4,rQ wb.nd k2];rfl
   have hi:i<b.ah.length:=(di.mp k2).1;have MN:i<B.qs.length:=(di.mp qx).1;obtain⟨bb,MO⟩:∃bb:BS,bb={ b with ah:=b.ah.set i { q' with wo:=q'.wo-a,we:=q'.we-we }++[⟨y,q'.ow,a,we,q'.tops⟩],ef:=b.ef++[y] }:=⟨_,rfl⟩
   have eS:(b.ah.map λp=>if p.nm=x then{ p with wo:=p.wo-a,we:=p.we-we } else p)=b.ah.set i { q' with wo:=q'.wo-a,we:=q'.we-we }:=by rw[<-k4];exact kY (nm:=λp:BP=>p.nm) (f:=λp:BP=>{ p with wo:=p.wo-a,we:=p.we-we }) wb.nd k2
   have MP:yZ b (.sever x y a we)={ bb with ah:=bb.ah.filter λp=>decide (0<p.wo) }:=by show AN b x y a we=_;unfold AN;rw[eb,eS,MO]
   refine⟨_,Z,z,_,_,_,Z,Z,dP,aA (j:=0) rfl,Z,_,Z,cD (λ_=>?_) (λc=>absurd (bh rfl) c)⟩;refine⟨_,Z,qq.1,_,_,_,Z,Z,aB.of r1,aA (j:=2) rfl,_,Z,z,_,_,_,Z,Z,dP,aA (j:=3) rfl,_,_,Z,Z,_,Z,qq.1,_,_,2,Z,Z,r1,Z,?_⟩;have st1:aZ n ρ { B with qs:=B.qs.set i (qq.1,qq.2) } (upd H qq.1 (f_ { q' with wo:=q'.wo-a } qq.2)) { b with ah:=b.ah.set i { q' with wo:=q'.wo-a } }:=hb.iX G k2 qx rfl wb.nd r2 c2;have G1:=G.wr (a:=qq.1) (o:=f_ { q' with wo:=q'.wo-a } qq.2) rfl;have F1:Fr n ρ H ρ (upd H qq.1 (f_ { q' with wo:=q'.wo-a } qq.2)):=Fr.write c1;have UD:upd H qq.1 (f_ { q' with wo:=q'.wo-a } qq.2) qq.1=some (f_ { q' with wo:=q'.wo-a } qq.2):=ao;have Fc:z≠qq.1:=λe=>by rw[e,r1]at hz;cases hz
   have hz1:upd H qq.1 (f_ { q' with wo:=q'.wo-a } qq.2) z=some (.tup (Dd.v (.sever x y a we))):=by rw[az Fc];exact hz
   have hn1:∀b,upd H qq.1 (f_ { q' with wo:=q'.wo-a } qq.2) b=none->H b=none:=λb h=>kh h;have Mp:((b.ah.set i { q' with wo:=q'.wo-a }).map λp:BP=>p.nm).Nodup:=by
    have:(b.ah.set i { q' with wo:=q'.wo-a }).map (λp:BP=>p.nm)=b.ah.map (λp:BP=>p.nm):=by rw[jN];exact AS (f:=λp:BP=>p.nm) (x:=q') k2
    rw[this];exact wb.nd
   show u_ _ _ _ _ (upd H qq.1 (f_ { q' with wo:=q'.wo-a } qq.2));generalize upd H qq.1 (f_ { q' with wo:=q'.wo-a } qq.2)=H1 at *;obtain⟨ajB,Xv,_,_⟩:=st1.pt i _ _ (iB hi) (iB MN);refine⟨_,Z,qq.1,_,_,_,Z,Z,aB.of UD,aA (j:=3) rfl,_,Z,z,_,_,_,Z,Z,cS.of hz1,aA (j:=4) rfl,_,_,Z,Z,_,Z,qq.1,_,_,3,Z,Z,UD,Z,?_⟩;have st2:=st1.iX (i:=i) (p1:={ q' with wo:=q'.wo-a,we:=q'.we-we }) (q0:=(qq.1,qq.2)) (t1:=qq.2) G1 (iB hi) (iB MN) rfl Mp Xv c2;have Xw:(b.ah.set i { q' with wo:=q'.wo-a }).set i { q' with wo:=q'.wo-a,we:=q'.we-we }=b.ah.set i { q' with wo:=q'.wo-a,we:=q'.we-we }:=oB ..;have G2:=G1.wr (a:=qq.1) (o:=f_ { q' with wo:=q'.wo-a,we:=q'.we-we } qq.2) rfl;have F2:Fr n ρ H ρ (upd H1 qq.1 (f_ { q' with wo:=q'.wo-a,we:=q'.we-we } qq.2)):=F1.trans (Fr.write c1);have Xx:upd H1 qq.1 (f_ { q' with wo:=q'.wo-a,we:=q'.we-we } qq.2) qq.1=some (f_ { q' with wo:=q'.wo-a,we:=q'.we-we } qq.2):=ao;have hz2:upd H1 qq.1 (f_ { q' with wo:=q'.wo-a,we:=q'.we-we } qq.2) z=some (.tup (Dd.v (.sever x y a we))):=by rw[az Fc];exact hz1
   have hn2:∀b,upd H1 qq.1 (f_ { q' with wo:=q'.wo-a,we:=q'.we-we } qq.2) b=none->H b=none:=λb h=>hn1 b (kh h);show u_ _ _ _ _ (upd H1 qq.1 (f_ { q' with wo:=q'.wo-a,we:=q'.we-we } qq.2));generalize upd H1 qq.1 (f_ { q' with wo:=q'.wo-a,we:=q'.we-we } qq.2)=H2 at *;obtain⟨B2,eB2⟩:∃B2:BA,B2={ B with qs:=(B.qs.set i (qq.1,qq.2)).set i (qq.1,qq.2) }:=⟨_,rfl⟩
   have h2:aZ n ρ B2 H2 { b with ah:=b.ah.set i { q' with wo:=q'.wo-a,we:=q'.we-we } }:=by rw[eB2,<-Xw];exact st2
   have Qp:B2.m=B.m:=by rw[eB2]
   have l2:(b.ah.set i { q' with wo:=q'.wo-a,we:=q'.we-we }).length=b.ah.length:=eZ;obtain⟨_,r22,_,_⟩:=st2.pt i _ _ (by show((b.ah.set i _).set i _)[i]?=_;rw[Xw];exact iB hi) (iB (by rw[eZ];exact MN));clear st1 st2 eB2 G1 F1;have RL:cS K H2 z (Dd.v (.sever x y a we)):=cS.of hz2;have om2:H2 B.m=some (.dK (fL B2 b.bot)):=by rw[<-Qp];exact h2.om
   refine⟨_,Z,B.m,_,Z,cC.k (k:=Sum.inr "parts") om2,.inl ⟨Z,_,aB.of h2.op⟩,_,Z,z,_,_,_,Z,Z,RL,aA (j:=2) rfl,_,Z,qq.1,_,_,_,Z,Z,aB.of Xx,aA (j:=1) rfl,_,Z,z,_,_,_,Z,Z,RL,aA (j:=3) rfl,_,Z,z,_,_,_,Z,Z,RL,aA (j:=4) rfl,_,Z,qq.1,_,_,_,Z,Z,aB.of Xx,aA (j:=4) rfl,qq.2,_,Z,.inl (aB.of r22),λl0 gI=>?_⟩;have g3:=aF gI (.lst (q'.tops.map V.int));have ha2:upd H2 l0 (.lst (q'.tops.map V.int)) l0=some (.lst (q'.tops.map V.int)):=ao;show rA _ (upd H2 l0 (.lst (q'.tops.map V.int))) _;generalize upd H2 l0 (.lst (q'.tops.map V.int))=H3 at *;refine⟨(iy 5),λp hp=>?_⟩;have g4:=aF hp (f_ ⟨y,q'.ow,a,we,q'.tops⟩ l0);have hp3:upd H3 p (f_ ⟨y,q'.ow,a,we,q'.tops⟩ l0) p=some (f_ ⟨y,q'.ow,a,we,q'.tops⟩ l0):=ao;show rA _ (upd H3 p (f_ ⟨y,q'.ow,a,we,q'.tops⟩ l0)) _;generalize upd H3 p (f_ ⟨y,q'.ow,a,we,q'.tops⟩ l0)=H4 at *;have vE:H2 p=none:=g3.free hp;have yh:=g3.trans g4;have Ut:ρ l0=none:=G2.none gI;have np:p≠l0:=λe=>by rw[e,ha2]at hp;cases hp
   have cp:bK ρ l0 (n,24,y) p=none:=by rw[bY np];exact G2.none vE
   have h3:aZ n (bK (bK ρ l0 (n,24,y)) p (n,23,y)) B2 H4 { b with ah:=b.ah.set i { q' with wo:=q'.wo-a,we:=q'.we-we } }:=((h2.mono yh).col Ut).col cp;have G3:Gh (bK (bK ρ l0 (n,24,y)) p (n,23,y)) H4:=((G2.same yh).color (g4 _ _ ha2) rfl).color hp3 rfl;have F3:Fr n ρ H (bK (bK ρ l0 (n,24,y)) p (n,23,y)) H4:=((F2.trans (Fr.of_same yh)).jy (hn2 _ gI)).jy (hn2 _ vE);have cc1:bK (bK ρ l0 (n,24,y)) p (n,23,y) p=some (n,23,y):=cV;have cc2:bK (bK ρ l0 (n,24,y)) p (n,23,y) l0=some (n,24,y):=by rw[bY (cu np),cV]
   have Mr:=g4 _ _ ha2;have ajC:cS K H4 z (Dd.v (.sever x y a we)):=yh.tup RL;refine⟨B2.lp,_,_,Z,Z,h3.op,by rw[aE,h3.ql];show _;exact dz (by rw[l2];omega),?_⟩;rw[show B2.qs.map (λq=>V.ref q.1)++[V.ref p]=(B2.qs++[(p,l0)]).map (λq=>V.ref q.1)from by rw[bP];rfl];have h4:=h3.Tv G3 (p:=⟨y,q'.ow,a,we,q'.tops⟩) (q:=(p,l0)) hp3 Mr cc1 cc2;have G4:=G3.wr (a:=B2.lp) (o:=.lst ((B2.qs++[(p,l0)]).map λq=>V.ref q.1)) rfl;have F4:=F3.trans (Fr.write (o:=.lst ((B2.qs++[(p,l0)]).map λq=>V.ref q.1)) h3.cp);have hz4:H4 z=some (.tup (Dd.v (.sever x y a we))):=yh _ _ hz2;have IE:upd H4 B2.lp (.lst ((B2.qs++[(p,l0)]).map λq=>V.ref q.1)) z=some (.tup (Dd.v (.sever x y a we))):=by rw[az (λe=>by rw[e,h3.op]at hz4;cases hz4)];exact hz4
   generalize upd H4 B2.lp (.lst ((B2.qs++[(p,l0)]).map λq=>V.ref q.1))=H5 at *;have om5:H5 B.m=some (.dK (fL { B2 with qs:=B2.qs++[(p,l0)] } b.bot)):=by rw[<-Qp];exact h4.om
   refine⟨_,Z,B.m,_,Z,cC.k (k:=Sum.inr "known") om5,.inl ⟨Z,_,aB.of h4.ok⟩,_,Z,z,_,_,_,Z,Z,cS.of IE,aA (j:=2) rfl,B2.lk,_,_,Z,Z,h4.ok,by rw[aE];exact dz (by show b.ef.length<=_;omega),?_⟩;rw[show b.ef.map V.str++[V.str y]=(b.ef++[y]).map V.str from by rw[bP];rfl];exact⟨_,{ B2 with qs:=B2.qs++[(p,l0)] },bb,_,_,_,Z,MP,(by rw[MO];show(b.ah.set i _++[_]).length<=1000;rw[cZ,eZ];show b.ah.length+1<=1000;omega),G4.wr rfl,by rw[MO];exact h4.PD G4 (b.ef++[y]),Qp,F4.trans (Fr.write h4.ck)⟩
  | land x'=>
   cases e1.symm.trans (show lC (Dd.v (.land x')) 1=some (.str x')from aA (j:=1) rfl);refine cO dP rfl (by decide) rfl (aL ?_);refine⟨_,?_,λ_ _ y=>y⟩;refine cO dP rfl (by decide) rfl (aL ?_);refine⟨_,?_,λ_ _ y=>y⟩;refine cO dP rfl (by decide) rfl (aL ?_);refine⟨_,?_,λ_ _ y=>y⟩;refine cO dP rfl (by decide) rfl (aL ?_);refine⟨_,?_,λ_ _ y=>y⟩;refine⟨_,Z,z,_,_,_,Z,Z,dP,aA (j:=0) rfl,Z,_,Z,cD (λ_=>?_) (λc=>absurd (bh rfl) c)⟩;have eb:rO b x=q':=by unfold rO;rw[<-k4,rQ wb.nd k2];rfl
   have eS:(b.ah.map λp=>if p.nm=x then({ p with wo:=0 }:BP) else p)=b.ah.set i { q' with wo:=0 }:=by rw[<-k4];exact kY (nm:=λp:BP=>p.nm) (f:=λp:BP=>{ p with wo:=0 }) wb.nd k2
   have MP:yZ b (.land x)={ ({ b with c6:=b.c6++[⟨q'.nm,q'.ow,q'.wo,q'.tops,b.bot⟩],ah:=b.ah.set i { q' with wo:=0 } }:BS)with ah:=(b.ah.set i { q' with wo:=0 }).filter λp=>decide (0<p.wo) }:=by show B0 b x=_;unfold B0 mY;rw[eb,eS,k4]
   obtain⟨vs,hv,hA⟩:=hb.oa;refine⟨_,Z,B.m,_,Z,cC.k (k:=Sum.inr "ashore") hb.om,.inl ⟨Z,_,aB.of hv⟩,_,Z,qq.1,_,_,_,Z,Z,aB.of r1,aA (j:=0) rfl,_,Z,qq.1,_,_,_,Z,Z,aB.of r1,aA (j:=1) rfl,_,Z,qq.1,_,_,_,Z,Z,aB.of r1,aA (j:=2) rfl,_,Z,qq.1,_,_,_,Z,Z,aB.of r1,aA (j:=4) rfl,qq.2,_,Z,.inl (aB.of r2),λl0 gI=>?_⟩;have g3:=aF gI (.lst (q'.tops.map V.int));have ha2:upd H l0 (.lst (q'.tops.map V.int)) l0=some (.lst (q'.tops.map V.int)):=ao;show QY (Q5 (FY 0) (tC (.str "bottom"))) rA _ (upd H l0 (.lst (q'.tops.map V.int))) _;generalize upd H l0 (.lst (q'.tops.map V.int))=H3 at *;refine⟨_,Z,B.m,_,Z,cC.k (k:=Sum.inr "bottom") (g3 _ _ hb.om),(iy 5),λp hp=>?_⟩;have g4:=aF hp (.lst [.str q'.nm,.str q'.ow,.int q'.wo,.ref l0,.int b.bot]);have hp3:upd H3 p (.lst [.str q'.nm,.str q'.ow,.int q'.wo,.ref l0,.int b.bot]) p=some (.lst [.str q'.nm,.str q'.ow,.int q'.wo,.ref l0,.int b.bot]):=ao;show rA _ (upd H3 p (.lst [.str q'.nm,.str q'.ow,.int q'.wo,.ref l0,.int b.bot])) _;generalize upd H3 p (.lst [.str q'.nm,.str q'.ow,.int q'.wo,.ref l0,.int b.bot])=H4 at *;have vE:H p=none:=g3.free hp;have yh:=g3.trans g4;have Ut:ρ l0=none:=G.none gI;have np:p≠l0:=λe=>by rw[e,ha2]at hp;cases hp
   have cp:bK ρ l0 (n,28,q'.nm) p=none:=by rw[bY np];exact G.none vE
   have h3:aZ n (bK (bK ρ l0 (n,28,q'.nm)) p (n,27,q'.nm)) B H4 b:=((hb.mono yh).col Ut).col cp;have G3:Gh (bK (bK ρ l0 (n,28,q'.nm)) p (n,27,q'.nm)) H4:=((G.same yh).color (g4 _ _ ha2) rfl).color hp3 rfl;have F3:Fr n ρ H (bK (bK ρ l0 (n,28,q'.nm)) p (n,27,q'.nm)) H4:=((Fr.of_same yh).jy gI).jy vE;have cc1:bK (bK ρ l0 (n,28,q'.nm)) p (n,27,q'.nm) p=some (n,27,q'.nm):=cV;have cc2:bK (bK ρ l0 (n,28,q'.nm)) p (n,27,q'.nm) l0=some (n,28,q'.nm):=by rw[bY (cu np),cV]
   obtain⟨Xy,Xh,hA4⟩:=h3.oa;have al9:Xy.length<900:=by rw[hA4.length,<-gd.c6.length];exact al.al
   refine⟨B.la,_,_,Z,Z,Xh,dz (by omega),?_⟩;have h4:=h3.Y9 G3 Xh hA4 (e:=⟨q'.nm,q'.ow,q'.wo,q'.tops,b.bot⟩) hp3 cc1 (g4 _ _ ha2) cc2;have G4:=G3.wr (a:=B.la) (o:=.lst (Xy++[.ref p])) rfl;have F4:=F3.trans (Fr.write (o:=.lst (Xy++[.ref p])) h3.ca);obtain⟨r41,r42,c41,c42⟩:=h4.pt i q' qq k2 qx;generalize upd H4 B.la (.lst (Xy++[.ref p]))=H5 at *;refine⟨_,Z,qq.1,_,_,2,Z,Z,r41,Z,?_⟩;have h5:=h4.iX (i:=i) (p1:={ q' with wo:=0 }) (t1:=qq.2) G4 k2 qx rfl wb.nd r42 c42;exact⟨_,{ B with qs:=B.qs.set i (qq.1,qq.2) },{ b with c6:=b.c6++[⟨q'.nm,q'.ow,q'.wo,q'.tops,b.bot⟩],ah:=b.ah.set i { q' with wo:=0 } },_,_,_,Z,MP,UC _,G4.wr rfl,h5,Z,F4.trans (Fr.write c41)⟩
  | _=>exact al.one.elim
 rintro σ H5 ⟨ρ5,B5,bb,s4,s5,s6,rfl,MP,UC,G5,h5,wm,F5⟩;rw[MP]at q;have Fb:B5.qs.length=bb.ah.length:=h5.ql;have UB:(B5.qs.map λq=>V.ref q.1).length=bb.ah.length:=by rw[aE];exact Fb
 have zU:H5 B5.lp=some (.lst (B5.qs.map λq=>V.ref q.1)):=h5.op;have om6:H5 B.m=some (.dK (fL B5 bb.bot)):=by rw[<-wm];exact h5.om
 refine⟨_,Z,B.m,_,Z,cC.k (k:=Sum.inr "parts") om6,B5.lp,Z,⟨_,aB.of zU⟩,λlp uJ=>?_⟩;refine Gf (J:=vc K B5.lp) (n:=bb.ah.length) 0 (λi o H'=>aM H5 H'/\o=(jW (bb.ah.take i) (B5.qs.take i)).map λq=>V.ref q.1) (by omega) ⟨aF uJ _,Z⟩ (λi o H' hi _ hp=>⟨_,_,aB.of (hp.1 _ _ zU),bq (by rw[UB];exact hi)⟩) (λo H' _ hp=>⟨_,aB.of (hp.1 _ _ zU),by rw[UB];exact aQ _⟩) ?_ ?_
 .rintro i y o H7 H8 hi eW ha ⟨g,e⟩ ⟨rfl,hy⟩;have ei:=bq hi;obtain⟨qq,eq,k1,k2,_,_⟩:=h5.find ei;have ey:=hy _ (aB.of (g _ _ zU));rw[bO,eq]at ey;cases ey;have es:=yV ei eq;refine⟨_,Z,qq.1,_,_,_,Z,Z,aB.of (g _ _ k1),aA (j:=2) rfl,_,_,Z,Z,_,Z,cD (λc=>?_) (λc=>?_)⟩
  .rw [av (dY c)]at es;refine⟨_,Z,ha,g.cA uJ _,?_⟩;rw[es,e,bP];rfl
  .rw [au (oW (nM.mpr c))]at es;exact⟨ha,g,by rw[es,e,sf]⟩
 rintro o H7 _ ha ⟨g7,e⟩;rw[cJ,<-Fb,cJ]at e;subst e;have h7:=h5.mono g7;have G7:=G5.same g7;have clp:ρ5 lp=none:=G5.none uJ;have h8:=h7.col (t:=22) (x:=⟨#[]⟩) clp;have G8:Gh (bK ρ5 lp (n,22,⟨#[]⟩)) H7:=G7.color ha rfl;have F8:Fr n ρ H (bK ρ5 lp (n,22,⟨#[]⟩)) H7:=F5.trans (Fr.color uJ g7);have h9:=h8.Tu G8 (lp:=lp) (qs:=jW bb.ah B5.qs) (ps:=bb.ah.filter λp=>decide (0<p.wo)) ha cV (AE Fb) (λi x y ex ey=>by obtain⟨j,a1,a2⟩:=yU ex ey Fb;exact h8.pt j x y a1 a2)
 have cm8:=h8.cm;rw[wm]at h9 cm8;refine⟨_,Z,B.m,_,Z,tZ.k (k:=Sum.inr "parts") (by rw[<-wm];exact h7.om) (by show 5<sizeLine;decide),?_⟩;rw[LC];exact q _ _ _ (G8.wr rfl) h9 rfl (F8.trans (Fr.write cm8))
abbrev pO:Stmt:=top 42
abbrev mH:List Str:=["_law_model_here","_law_deed_here"]
abbrev Fd:List Str:=mH.append ["_law_nought"]
theorem wu:aR Fd mH (aD pO):=dF
theorem Dw(F:At K mg "_law_model_do" pO f fd)(pP:Dn P w K mg base 4 "_law_model_one" lz (w_ AlO K))(qR:Dn P w K mg base 2 "_law_new_part" mG Ia)(nU:Dn P w K mg base 2 "_law_model_cast" ko (PL K))(lP:Dn P w K mg base 1 "_law_bear" ou (LA K))(gP:Dn P w K mg base 1 "_law_seat" lN (Ez K))(bD:mg "len"=none)(bX:mg "range"=none):Dn P w K mg base 5 "_law_model_do" mH (w_ AlL K):=by
 refine F.oA wu λcdv A outer s H vs Q E hr h=>?_;obtain⟨⟨n,c,ρ,B,b,st,z,d,rfl,hz,G,hb,gd,hc,wf,al,db,hr0,q⟩⟩:=h;refine⟨_,(@cY.h _ _ _ (aj (bZ (aN d8 (aC (aO K) (qv 1) ai) aS (aU _)) (aq PR) bf)
  (aq (bZ (aN d8 (aC (aO K) (qv 1) ai) aS (aU _)) (aq (b9 (bB qR hr (af (qv 0) (af (aC (aO K) (qv 1) ai) (af (aC (aO K) (qv 1) ai) (af (aC (aO K) (qv 1) ai) (af (aC (aO K) (qv 1) ai) ak)))))))) (aq (bZ (aN d8 (aC (aO K) (qv 1) ai) aS (aU _)) (aq (b9 (bB nU hr (af (qv 0) (af (ig ["_law_k","_law_deed_here"] [none,some 1] rfl (Im (by rfl) bX (af ai (af (aJ (bL K) (by rfl) bD c5 (af (qv 1) ak)) (af ai ak)))) (λ_ _ _ _=>(aT (i:=0) (show List.Nodup (["_law_k","_law_deed_here"] :List Str)from by decide +kernel))) (λ_ _ _ _=>(gx (af (aC (aO K) (qv 1) (qv 0)) (af (aC (aO K) (qv 1) (aI cU (qv 0) ai)) ak)))) rfl (by rfl)) ak))))) (aq (bZ (aN d8 (aC (aO K) (qv 1) ai) aS (aU _)) (aj (pX (i:=2) ["_law_part"] [none] wu.nd rfl rfl rfl (dO K (bM (bV hr) (qv 0) aS)) (λ_ _ _ _=>(aT (i:=0) (show List.Nodup (["_law_part"] :List Str)from by decide +kernel))) (λ_ _ _ _=>ai) rfl (by rfl) (by rfl))
  (aq (b9 (bB lP hr (af (qv 0) (af (qv 2) (af (bB gP hr (af (bM (bV hr) (qv 0) aS) (af (aC (aO K) (qv 1) ai) ak))) (af (aC (aO K) (qv 1) ai) ak)))))))) (aq (b9 (bB pP hr (af (qv 0) (af (qv 1) ak))))))))))))),?_⟩
 have wb:=gd.fJ;have dP:cS K H z (Dd.v d):=cS.of hz;have one:abG d->∀{Q':VK}{E':XK},(∀H',Q .cy H'->Q' .cy H')->LN AlO K [.ref B.m,.ref z] H Q' E':=λh1 Q' E' kk=>⟨n,c,ρ,B,b,st,z,d,Z,hz,G,hb,gd,hc,wf,⟨h1,al.pl,al.kl,al.al⟩,db,hr0,λρ' B' H' a1 a2 a3 a4=>kk H' (q ρ' B' H' a1 a2 a3 a4)⟩
 cases d with
 | sign o=>exact absurd rfl al.nk
 | still=>refine⟨_,Z,z,_,_,_,Z,Z,dP,aA (j:=0) rfl,Z,_,Z,cD (λ_=>?_) (λc=>absurd (bh rfl) c)⟩;exact q ρ B H G hb rfl (Fr.refl)
 | load x o wo we=>refine cO dP rfl (by decide) rfl (aL ?_);refine⟨_,Z,z,_,_,_,Z,Z,dP,aA (j:=0) rfl,Z,_,Z,cD (λ_=>?_) (λc=>absurd (bh rfl) c)⟩;obtain⟨l1,l2,l3,l4,l5⟩:=tM hr0;rw[gd.rel.own]at l3;exact⟨_,Z,_,Z,z,_,_,_,Z,Z,dP,aA (j:=1) rfl,_,Z,z,_,_,_,Z,Z,dP,aA (j:=2) rfl,_,Z,z,_,_,_,Z,Z,dP,aA (j:=3) rfl,_,Z,z,_,_,_,Z,Z,dP,aA (j:=4) rfl,⟨⟨n,ρ,B,b,x,o,wo,we,Z,G,hb,l3,by have:=wb.ol;omega,wb.pl,wb.kl,q⟩⟩⟩
 | cast rs=>
  refine cO dP rfl (by decide) rfl (aL ?_);refine cO dP rfl (by decide) rfl (aL ?_);refine⟨_,Z,z,_,_,_,Z,Z,dP,aA (j:=0) rfl,Z,_,Z,cD (λ_=>?_) (λc=>absurd (bh rfl) c)⟩;obtain⟨c',gg,hc'⟩:=al.go;have ok:=gg.AX wf (by omega) hr0;have hrl:rs.length<=1000:=ok.len;obtain⟨rb,bo⟩:=Wl gd wf hc hr0;refine⟨_,Z,_,Z,z,_,Z,.inr dP,_,_,_,Z,⟨by decide,by decide,by omega,by rw[zh];omega,by decide,by decide⟩,?_⟩;rw[zh,Ub];intro acc hacc;refine iL (J:=Ra 1 2 rs.length) (n:=rs.length) 0 (λi out H1=>aM H H1/\f7 H1 out (rs.take i)) (by omega) ⟨aF hacc _,.nil⟩ (λi o H' hi _ _=>hi) (λo H' _ _=>aQ _) ?_ ?_
  .rintro i x out H1 H2 hi eW ha ⟨g,R⟩ ⟨rfl,rfl⟩;have ei:=bq hi;generalize rs[i]=r at *;obtain⟨c1,c2⟩:=Qf ei;have e1:(1:Int)+(i:Int)*2=((1+2*i:Nat):Int):=by omega
   have e2:((1+2*i:Nat):Int)+1=((2+2*i:Nat):Int):=by omega
   rw[e1];refine⟨_,Z,_,Z,z,_,_,_,Z,Z,g.tup dP,aA c1,_,Z,_,Z,_,_,Z,Z,z,_,_,_,Z,Z,g.tup dP,by rw[e2];exact aA c2,(iy 2),λp hp=>?_⟩;have g6:=aF hp (xD r);refine⟨g6 _ _ ha,(g.trans g6).cA hacc _,?_⟩;rw[take_snoc ei];exact((R.mono g6.tups).snoc ao).mono (jJ (.inr ⟨_,g6 _ _ ha,Z⟩))
  rintro out H1 eW ha ⟨g,R⟩;rw[cJ]at R;exact⟨⟨n,ρ,B,b,acc,out,rs,Z,G.same g,hb.mono g,wb,aB.of ha,R,G.none hacc,rb,hrl,bo,λρ' B' H' a1 a2 a3 a4=>q ρ' B' H' a1 a2 a3 ((Fr.of_same g).trans a4)⟩⟩
 | award o a=>
  refine cO dP rfl (by decide) rfl (aL ?_);refine cO dP rfl (by decide) rfl (aL ?_);refine cO dP rfl (by decide) rfl (aL ?_);refine⟨_,Z,z,_,_,_,Z,Z,dP,aA (j:=0) rfl,Z,_,Z,cD (λ_=>?_) (λc=>absurd (bh rfl) c)⟩;obtain⟨ho,h1,h2⟩:=uU hr0;obtain⟨c',gg,hc'⟩:=al.go;have ha:Gs st:=gg.aw wf (by omega);have pl:=wb.pl;have ew:=gd.rel.whole;have eo:=gd.rel.own;rw[eo]at ho;have hi:b.own.idxOf o<b.own.length:=J8.mpr ho;have zS:(B.qs.map λq=>V.ref q.1).length=b.ah.length:=by rw[aE];exact hb.ql
  refine⟨_,Z,B.m,_,Z,cC.k (k:=Sum.inr "parts") hb.om,B.lp,Z,⟨_,aB.of hb.op⟩,λl0 gI=>?_⟩;refine iL (J:=vc K B.lp) (n:=b.ah.length) 0 (λi o H'=>aM H H'/\o=(List.replicate i (0:Int)).map V.int) (by omega) ⟨aF gI _,Z⟩ (λi o H' hi _ hp=>⟨_,_,aB.of (hp.1 _ _ hb.op),bq (by rw[zS];exact hi)⟩) (λo H' _ hp=>⟨_,aB.of (hp.1 _ _ hb.op),by rw[zS];exact aQ _⟩) ?_ ?_
  .rintro i y o H2 H3 hi eW ha ⟨g,e⟩ ⟨rfl,hy⟩;refine⟨ha,g.cA gI _,?_⟩;subst e;rw[List.replicate_succ',bP];rfl
  rintro o1 H1 _ ha1 ⟨g1,e⟩;subst e;have hb1:=hb.mono g1;have hz1:cS K H1 z (Dd.v (.award o a)):=cS.of (g1 _ _ hz);have bo:lE b (List.replicate b.ah.length 0) (b.own.idxOf o) a:=⟨i8,λx hx=>by rw[J7 hx];exact ff _,hi,by omega,by rw[rJ];omega,by rw[<-ew];exact ha.big⟩
  exact⟨_,Z,_,Z,_,Z,B.m,_,Z,cC.k (k:=Sum.inr "owners") hb1.om,_,Z,z,_,_,_,Z,Z,hz1,aA (j:=1) rfl,⟨⟨B.lo,b.own,o,Z,aB.of hb1.oo,ho,by have:=wb.ol;omega,_,Z,z,_,_,_,Z,Z,hz1,aA (j:=2) rfl,⟨⟨n,ρ,B,b,l0,List.replicate b.ah.length 0,b.own.idxOf o,a,Z,G.same g1,hb1,wb,aB.of ha1,G.none gI,bo,λρ' B' H' a1 a2 a3 a4=>q ρ' B' H' a1 a2 a3 ((Fr.of_same g1).trans a4)⟩⟩⟩⟩⟩
 | mishap x a=>refine cO dP rfl (by decide) rfl (aL ?_);refine cO dP rfl (by decide) rfl (aL ?_);refine cO dP rfl (by decide) rfl (aL ?_);refine cO dP rfl (by decide) rfl (aL ?_);exact⟨_,Z,_,Z,⟨one True.intro λ_ y=>y⟩⟩
 | rise x a=>refine cO dP rfl (by decide) rfl (aL ?_);refine cO dP rfl (by decide) rfl (aL ?_);refine cO dP rfl (by decide) rfl (aL ?_);refine cO dP rfl (by decide) rfl (aL ?_);exact⟨_,Z,_,Z,⟨one True.intro λ_ y=>y⟩⟩
 | hand x o=>refine cO dP rfl (by decide) rfl (aL ?_);refine cO dP rfl (by decide) rfl (aL ?_);refine cO dP rfl (by decide) rfl (aL ?_);refine cO dP rfl (by decide) rfl (aL ?_);exact⟨_,Z,_,Z,⟨one True.intro λ_ y=>y⟩⟩
 | land x=>refine cO dP rfl (by decide) rfl (aL ?_);refine cO dP rfl (by decide) rfl (aL ?_);refine cO dP rfl (by decide) rfl (aL ?_);refine cO dP rfl (by decide) rfl (aL ?_);exact⟨_,Z,_,Z,⟨one True.intro λ_ y=>y⟩⟩
 | sever x y a we=>refine cO dP rfl (by decide) rfl (aL ?_);refine cO dP rfl (by decide) rfl (aL ?_);refine cO dP rfl (by decide) rfl (aL ?_);refine cO dP rfl (by decide) rfl (aL ?_);exact⟨_,Z,_,Z,⟨one True.intro λ_ y=>y⟩⟩
abbrev qS:Stmt:=top 35
abbrev nL:List Str:=["_law_hold","_law_deed_here"]
abbrev GV:List Str:=nL
theorem Fe:aR GV nL (aD qS):=dF
theorem Ff{T:TC}{e:Ec}(F:At K mg "_law_hold_do" qS f fd)(iJ:Mn P w K mg base 3 T.hold "sign" lK (BU T))(xO:Mn P w K mg base 4 T.hold "load" sQ (Tf T))(xP:Mn P w K mg base 4 T.hold "cast" sR (Tq T K))(MQ:Mn P w K mg base 4 T.hold "award" qJ (sN (LP T e)))(Jp:Mn P w K mg base 3 T.hold "mishap" oR (sN (Io T e)))(Od:Mn P w K mg base 2 T.hold "rise" sS (sN (PV T e)))(Oe:Mn P w K mg base 2 T.hold "hand" sU (sN (PY T e)))(Of:Mn P w K mg base 5 T.hold "land" sV (sN (P0 T e)))(MR:Mn P w K mg base 4 T.hold "sever" qK (sN (LU T e)))(bD:mg "len"=none)(bX:mg "range"=none):Dn P w K mg base 6 "_law_hold_do" nL (L3 T K):=by
 refine F.oA Fe λcdv A outer s H vs Q E hr h=>?_;obtain⟨⟨n,c,ρ,A,st,z,d,rfl,hz,hh,gg,hc,hk,ho,hr0,q⟩⟩:=h;refine⟨_,(@cY.h _ _ _ (aj (bZ (aN d8 (aC (aO K) (qv 1) ai) aS (aU _)) (aq (aY (cE iJ hr (qv 0) (af (aC (aO K) (qv 1) ai) ak)))) (aq (bZ (aN d8 (aC (aO K) (qv 1) ai) aS (aU _)) (aq (aY (cE xO hr (qv 0) (af (aC (aO K) (qv 1) ai) (af (aC (aO K) (qv 1) ai) (af (aC (aO K) (qv 1) ai) (af (aC (aO K) (qv 1) ai) ak))))))) (aq (bZ (aN d8 (aC (aO K) (qv 1) ai) aS (aU _)) (aq (aY (cE xP hr (qv 0) (af (ig ["_law_k","_law_deed_here"] [none,some 1] rfl (Im (by rfl) bX (af ai (af (aJ (bL K) (by rfl) bD c5 (af (qv 1) ak)) (af ai ak)))) (λ_ _ _ _=>(aT (i:=0) (show List.Nodup (["_law_k","_law_deed_here"] :List Str)from by decide +kernel))) (λ_ _ _ _=>(gx (af (aC (aO K) (qv 1) (qv 0)) (af (aC (aO K) (qv 1) (aI cU (qv 0) ai)) ak)))) rfl (by rfl)) ak)))) (aq (bZ (aN d8 (aC (aO K) (qv 1) ai) aS (aU _)) (aq (aY (cE MQ hr (qv 0) (af (aC (aO K) (qv 1) ai) (af (aC (aO K) (qv 1) ai) ak))))) (aq (bZ (aN d8 (aC (aO K) (qv 1) ai) aS (aU _)) (aq (aY (cE Jp hr (qv 0) (af (aC (aO K) (qv 1) ai) (af (aC (aO K) (qv 1) ai) ak))))) (aq (bZ (aN d8 (aC (aO K) (qv 1) ai) aS (aU _)) (aq (aY (cE Od hr (qv 0) (af (aC (aO K) (qv 1) ai) (af (aC (aO K) (qv 1) ai) ak))))) (aq (bZ (aN d8 (aC (aO K) (qv 1) ai) aS (aU _)) (aq (aY (cE Oe hr (qv 0) (af (aC (aO K) (qv 1) ai) (af (aC (aO K) (qv 1) ai) ak))))) (aq (bZ (aN d8 (aC (aO K) (qv 1) ai) aS (aU _)) (aq (aY (cE Of hr (qv 0) (af (aC (aO K) (qv 1) ai) ak)))) (aq (bZ (aN d8 (aC (aO K) (qv 1) ai) aS (aU _)) (aq (aY (cE MR hr (qv 0) (af (aC (aO K) (qv 1) ai) (af (aC (aO K) (qv 1) ai) (af (aC (aO K) (qv 1) ai) (af (aC (aO K) (qv 1) ai) ak))))))) bf)))))))))))))))))
  (aq (aY abh)))),?_⟩
 have wf:=hh.wf;have hpl:=gg.pl;have hkl:=gg.kl;cases d with
 | sign o=>obtain⟨s1,s2⟩:=Uc hr0;refine⟨_,Z,z,_,_,_,Z,Z,hz,aA (j:=0) rfl,Z,_,Z,cD (λ_=>?_) (λc=>absurd (bh rfl) c)⟩;refine⟨_,Z,A.a,A.dx,_,Z,hh.h.oa,Z,_,Z,z,_,_,_,Z,Z,hz,aA (j:=1) rfl,⟨⟨n,ρ,A,st,o,Z,hh,s1,s2,ho,q⟩⟩⟩
 | load x o wo we=>obtain⟨l1,l2,l3,l4,l5⟩:=tM hr0;refine cO hz rfl (by decide) rfl (aL ?_);refine⟨_,Z,z,_,_,_,Z,Z,hz,aA (j:=0) rfl,Z,_,Z,cD (λ_=>?_) (λc=>absurd (bh rfl) c)⟩;refine⟨_,Z,A.a,A.dx,_,Z,hh.h.oa,Z,_,Z,z,_,_,_,Z,Z,hz,aA (j:=1) rfl,_,Z,z,_,_,_,Z,Z,hz,aA (j:=2) rfl,_,Z,z,_,_,_,Z,Z,hz,aA (j:=3) rfl,_,Z,z,_,_,_,Z,Z,hz,aA (j:=4) rfl,⟨⟨n,ρ,A,st,x,o,wo,we,Z,hh,l1,l2,l3,l4,l5,by omega,by omega,q⟩⟩⟩
 | cast rs=>
  refine cO hz rfl (by decide) rfl (aL ?_);refine cO hz rfl (by decide) rfl (aL ?_);refine⟨_,Z,z,_,_,_,Z,Z,hz,aA (j:=0) rfl,Z,_,Z,cD (λ_=>?_) (λc=>absurd (bh rfl) c)⟩;have ok:=gg.AX wf (by omega) hr0;have hrl:rs.length<=1000:=ok.len;refine⟨_,Z,A.a,A.dx,_,Z,hh.h.oa,Z,_,Z,z,_,Z,.inr hz,_,_,_,Z,⟨by decide,by decide,by omega,by rw[zh];omega,by decide,by decide⟩,?_⟩;rw[zh,Ub];intro acc hacc;refine iL (J:=Ra 1 2 rs.length) (n:=rs.length) 0 (λi out H1=>aM H H1/\f7 H1 out (rs.take i)) (by omega) ⟨aF hacc _,.nil⟩ (λi o H' hi _ _=>hi) (λo H' _ _=>aQ _) ?_ ?_
  .rintro i x out H1 H2 hi eW ha ⟨g,R⟩ ⟨rfl,rfl⟩;have ei:=bq hi;generalize rs[i]=r at *;obtain⟨c1,c2⟩:=Qf ei;have e1:(1:Int)+(i:Int)*2=((1+2*i:Nat):Int):=by omega
   have e2:((1+2*i:Nat):Int)+1=((2+2*i:Nat):Int):=by omega
   rw[e1];refine⟨_,Z,_,Z,z,_,_,_,Z,Z,g.tup hz,aA c1,_,Z,_,Z,_,_,Z,Z,z,_,_,_,Z,Z,g.tup hz,by rw[e2];exact aA c2,(iy 2),λp hp=>?_⟩;have g6:=aF hp (xD r);refine⟨g6 _ _ ha,(g.trans g6).cA hacc _,?_⟩;rw[take_snoc ei];exact((R.mono g6.tups).snoc ao).mono (jJ (.inr ⟨_,g6 _ _ ha,Z⟩))
  rintro out H1 eW ha ⟨g,R⟩;rw[cJ]at R;exact⟨⟨n,ρ,A,st,acc,out,rs,Z,hh.mono g,aB.of ha,R,ok,λρ' A' H' a1 a2 a3=>q ρ' A' H' a1 a2 ((Fr.of_same g).trans a3)⟩⟩
 | award o a=>refine cO hz rfl (by decide) rfl (aL ?_);refine cO hz rfl (by decide) rfl (aL ?_);refine cO hz rfl (by decide) rfl (aL ?_);refine⟨_,Z,z,_,_,_,Z,Z,hz,aA (j:=0) rfl,Z,_,Z,cD (λ_=>?_) (λc=>absurd (bh rfl) c)⟩;refine⟨_,Z,A.a,A.dx,_,Z,hh.h.oa,Z,_,Z,z,_,_,_,Z,Z,hz,aA (j:=1) rfl,_,Z,z,_,_,_,Z,Z,hz,aA (j:=2) rfl,⟨⟨n,ρ,A,st,o,a,Z,hh,gg.aw wf (by omega),.of hr0 q⟩⟩⟩
 | mishap x a=>refine cO hz rfl (by decide) rfl (aL ?_);refine cO hz rfl (by decide) rfl (aL ?_);refine cO hz rfl (by decide) rfl (aL ?_);refine cO hz rfl (by decide) rfl (aL ?_);refine⟨_,Z,z,_,_,_,Z,Z,hz,aA (j:=0) rfl,Z,_,Z,cD (λ_=>?_) (λc=>absurd (bh rfl) c)⟩;refine⟨_,Z,A.a,A.dx,_,Z,hh.h.oa,Z,_,Z,z,_,_,_,Z,Z,hz,aA (j:=1) rfl,_,Z,z,_,_,_,Z,Z,hz,aA (j:=2) rfl,⟨⟨n,ρ,A,st,x,a,Z,hh,.of hr0 q⟩⟩⟩
 | rise x a=>refine cO hz rfl (by decide) rfl (aL ?_);refine cO hz rfl (by decide) rfl (aL ?_);refine cO hz rfl (by decide) rfl (aL ?_);refine cO hz rfl (by decide) rfl (aL ?_);refine cO hz rfl (by decide) rfl (aL ?_);refine⟨_,Z,z,_,_,_,Z,Z,hz,aA (j:=0) rfl,Z,_,Z,cD (λ_=>?_) (λc=>absurd (bh rfl) c)⟩;refine⟨_,Z,A.a,A.dx,_,Z,hh.h.oa,Z,_,Z,z,_,_,_,Z,Z,hz,aA (j:=1) rfl,_,Z,z,_,_,_,Z,Z,hz,aA (j:=2) rfl,⟨⟨n,ρ,A,st,x,a,Z,hh,.of hr0 q⟩⟩⟩
 | hand x o=>refine cO hz rfl (by decide) rfl (aL ?_);refine cO hz rfl (by decide) rfl (aL ?_);refine cO hz rfl (by decide) rfl (aL ?_);refine cO hz rfl (by decide) rfl (aL ?_);refine cO hz rfl (by decide) rfl (aL ?_);refine cO hz rfl (by decide) rfl (aL ?_);refine⟨_,Z,z,_,_,_,Z,Z,hz,aA (j:=0) rfl,Z,_,Z,cD (λ_=>?_) (λc=>absurd (bh rfl) c)⟩;refine⟨_,Z,A.a,A.dx,_,Z,hh.h.oa,Z,_,Z,z,_,_,_,Z,Z,hz,aA (j:=1) rfl,_,Z,z,_,_,_,Z,Z,hz,aA (j:=2) rfl,⟨⟨n,ρ,A,st,x,o,Z,hh,gg.sum,.of hr0 q⟩⟩⟩
 | land x=>refine cO hz rfl (by decide) rfl (aL ?_);refine cO hz rfl (by decide) rfl (aL ?_);refine cO hz rfl (by decide) rfl (aL ?_);refine cO hz rfl (by decide) rfl (aL ?_);refine cO hz rfl (by decide) rfl (aL ?_);refine cO hz rfl (by decide) rfl (aL ?_);refine cO hz rfl (by decide) rfl (aL ?_);refine⟨_,Z,z,_,_,_,Z,Z,hz,aA (j:=0) rfl,Z,_,Z,cD (λ_=>?_) (λc=>absurd (bh rfl) c)⟩;refine⟨_,Z,A.a,A.dx,_,Z,hh.h.oa,Z,_,Z,z,_,_,_,Z,Z,hz,aA (j:=1) rfl,⟨⟨n,ρ,A,st,x,Z,hh,gg.ld wf (by omega) hk,.of hr0 q⟩⟩⟩
 | sever x y a we=>refine cO hz rfl (by decide) rfl (aL ?_);refine cO hz rfl (by decide) rfl (aL ?_);refine cO hz rfl (by decide) rfl (aL ?_);refine cO hz rfl (by decide) rfl (aL ?_);refine cO hz rfl (by decide) rfl (aL ?_);refine cO hz rfl (by decide) rfl (aL ?_);refine cO hz rfl (by decide) rfl (aL ?_);refine cO hz rfl (by decide) rfl (aL ?_);refine⟨_,Z,z,_,_,_,Z,Z,hz,aA (j:=0) rfl,Z,_,Z,cD (λ_=>?_) (λc=>absurd (bh rfl) c)⟩;refine⟨_,Z,A.a,A.dx,_,Z,hh.h.oa,Z,_,Z,z,_,_,_,Z,Z,hz,aA (j:=1) rfl,_,Z,z,_,_,_,Z,Z,hz,aA (j:=2) rfl,_,Z,z,_,_,_,Z,Z,hz,aA (j:=3) rfl,_,Z,z,_,_,_,Z,Z,hz,aA (j:=4) rfl,⟨⟨n,ρ,A,st,x,y,a,we,Z,hh,Ll (kZ (show kG st x y a we=none from hr0)).2.1.1,by omega,by omega,.of hr0 q⟩⟩⟩
 | still=>refine cO hz rfl (by decide) rfl (aL ?_);refine cO hz rfl (by decide) rfl (aL ?_);refine cO hz rfl (by decide) rfl (aL ?_);refine cO hz rfl (by decide) rfl (aL ?_);refine cO hz rfl (by decide) rfl (aL ?_);refine cO hz rfl (by decide) rfl (aL ?_);refine cO hz rfl (by decide) rfl (aL ?_);refine cO hz rfl (by decide) rfl (aL ?_);refine cO hz rfl (by decide) rfl (aL ?_);exact q ρ A H hh rfl Fr.refl
abbrev xQ:Stmt:=top 43
abbrev uV:List Str:=["_law_script","_law_k","_law_hold","_law_model_here","_law_names_here","_law_many"]
abbrev RM:List Str:=uV.append ["_law_at_here","_law_deed_here"]
theorem xR:aR RM uV (aD xQ):=dF
theorem Og{T:TC}(F:At K mg "_law_run" xQ f fd)(xS:Dn P w K mg base 4 "_law_deed" s_ (T_ K))(r_:Dn P w K mg base 6 "_law_hold_do" nL (L3 T K))(qT:Dn P w K mg base 5 "_law_model_do" mH (w_ AlL K))(bX:mg "range"=none):Dn P w K mg base 7 "_law_run" uV (Xb T K):=by
 refine F.oA xR λcdv A outer s H vs Q E hr h=>?_;obtain⟨⟨n,m,c,kn,ρ,A,B,st,b,a,ln,ns,k,nms,many,rfl,nm,hh,hb,gd,gw,hc,hm,ho,fS,h63,hk0,hk1,fN,nx,hnl,q⟩⟩:=h;refine⟨_,(@cY.h _ _ _ (aq (eX fC rfl (fR (by rfl) bX (af (qv 5) ak)) (aT (i:=6) xR.nd) (aj (aX (i:=7) xR.nd (bB xS hr (af (qv 0) (af (aI cU (qv 1) (qv 6)) (af (qv 3) (af (qv 4) ak))))))
  (aj (b9 (bB r_ hr (af (qv 2) (af (qv 7) ak))))
  (aq (b9 (bB qT hr (af (qv 3) (af (qv 7) ak)))))))))),?_⟩
 refine⟨_,Z,_,Z,by omega,by omega,?_⟩;refine iw (lo:=0) (n:=((many:Nat):Int).toNat) (λi σ H'=>∃ρ' A' B' st' b' s6 s7,σ=[some (.ref a),some (.int k),some (.ref A.a),some (.ref B.m),some (.ref ln),some (.int (many:Int)),s6,s7]/\HH T n ρ' A' H' st'/\aZ m ρ' B' H' b'/\fj (c+i) st' b'/\GW (c+i) (kn+100*i) st'/\A'.a=A.a/\B'.m=B.m/\b'.own=b.own/\Nx nms st'/\aM (out ρ H) (out ρ' H'))
  ⟨ρ,A,B,st,b,_,_,Z,hh,hb,gd,gw,Z,Z,Z,nx,aM.refl _⟩ ?_ ?_
 .rintro i σ H1 hi ⟨ρ1,A1,B1,st1,b1,s6,s7,rfl,gE,hb1,Fi,Bm,ea,em,eo,Xz,o1⟩;have hi:i<many:=by omega
  have e0:(0:Int)+(i:Int)=((i:Nat):Int):=by omega
  rw[e0];have Us:st1.own.length<100:=by rw[Fi.rel.own,eo,<-gd.rel.own];exact ho
  have kn1:=Bm.kn;have pl1:=Xz.pl gE.wf;have kl1:=Bm.g.kl;have al1:=Bm.g.al;refine⟨_,Z,_,Z,_,Z,_,_,Z,Z,_,Z,_,Z,⟨⟨a,B.m,ln,ns,k+i,nms,c+i,st1,Z,fS _ _ o1,h63,by omega,by omega,by rw[<-em];exact hb1.q Fi,fN _ _ o1,Xz,by omega,gE.wf,Bm.g,by omega,λz d H2 g2 hz hd=>?_⟩⟩⟩;obtain⟨d1,d2,d3,d4⟩:=hd;refine⟨_,Z,_,Z,⟨⟨n,c+i,ρ1,A1,st1,z,d,by rw[ea];rfl,cS.of hz,gE.mono g2,Bm.g,by omega,by omega,Us,d1,λρ3 A3 H3 j0 Qo F3=>?_⟩⟩⟩;have E6:=(hb1.mono g2).other F3 (gE.g.same g2) (cu nm);have hz3:H3 z=some (.tup d.v):=(F3 z _ hz (λt w e=>by rw[(gE.g.same g2).tup hz]at e;cases e)).1;have gd2:=adS Fi Bm.g gE.wf (by omega) (by omega) d1 d2 d4 (by rw[<-Fi.rel.len];omega) (by rw[<-Fi.ef];omega);refine⟨_,Z,_,Z,⟨⟨m,c+i,ρ3,B1,b1,st1,z,d,by rw[em];rfl,hz3,j0.g,E6,Fi,by omega,gE.wf,⟨d4,⟨c+i,Bm.g,by omega⟩,by omega,by omega,by omega⟩,d2,d1,λρ4 B4 H4 G4 Bh em4 F4=>?_⟩⟩⟩;exact⟨ρ4,A3,B4,_,_,_,_,Z,j0.other F4 G4 nm,Bh,gd2,Bm.do (by omega) (by omega) Us d1 d2.g,Qo.trans ea,em4.trans em,(T3 _ _).trans eo,d3,((o1.trans (vt g2)).trans F3.out).trans F4.out⟩
 rintro σ H1 ⟨ρ1,A1,B1,st1,b1,s6,s7,rfl,gE,hb1,Fi,Bm,ea,em,eo,Xz,o1⟩;rw[tU]at Fi Bm;exact q ρ1 A1 B1 st1 b1 H1 gE hb1 Fi Bm ea em eo Xz o1
abbrev qU:Stmt:=top 53
abbrev RN:List Str:=["_law_script"]
abbrev adU:List Str:=RN.append ["_law_owners","_law_names_here","_law_hold","_law_model_here","_law_many","_law_stop","_law_part"]
theorem tR:aR adU RN (aD qU):=dF
theorem acG{T:TC}(F:At K mg "law" qU f fd)(bu:Dn P w K mg base 1 "_law_draw" iI (tE K))(qV:Dn P w K mg base 2 "_law_names" qL (Gb K))(wC:Dn P w K mg base 5 "_law_begin" qP (Pu T K))(wD:Dn P w K mg base 1 "_law_model" qO (PF K))(uW:Dn P w K mg base 7 "_law_run" uV (Xb T K))(qW:Dn P w K mg base 6 "_law_tells" qN (uZ 2 T K))(iJ:Mn P w K mg base 3 T.hold "sign" lK (BU T)):ku P w K mg base vh 8 f fd RN (J4 K):=by
 refine F.fn.ok tR (λvs H Q E h=>?_) (λcdv A outer s H vs Q E hr h=>?_)
 .obtain ⟨a,ns,rfl,_⟩:=h;rfl
 obtain⟨a,ns,rfl,hS,h63,q⟩:=h;refine⟨_,(@cY.h _ _ _ (aj (aX (i:=1) tR.nd (bB qV hr (af (qv 0) (af ai (af (aI cU ai (bB bu hr (af (qv 0) (af ai (af ai (af ai ak)))))) ak)))))
  (aj (aX (i:=2) tR.nd (bB qV hr (af (qv 0) (af ai (af ai ak)))))
  (aj (aX (i:=3) tR.nd (bB wC hr (af (qv 1) ak)))
  (aj (aX (i:=4) tR.nd (bB wD hr (af (qv 1) ak)))
  (aj (aX (i:=5) tR.nd (aI cU ai (bB bu hr (af (qv 0) (af ai (af ai (af ai ak)))))))
  (aj (aX (i:=6) tR.nd (bB bu hr (af (qv 0) (af ai (af ai (af (qv 5) ak))))))
  (aj (b9 (bB uW hr (af (qv 0) (af ai (af (qv 3) (af (qv 4) (af (qv 2) (af (qv 6) ak))))))))
  (aj (bZ (eU (dW (bB qW hr (af (qv 3) (af (qv 4) ak))))) (aq (aY gD)) bf)
  (aj (iz (eO (bW.pt (qA (aN d8 (bB bu hr (af (qv 0) (af ai (af ai (af ai ak))))) ai (aU _)) (rM (aN KJ aS (qv 1) (by with_unfolding_all rfl)))))) (aj (b9 (cE iJ hr (qv 3) (af aS ak)))
  (aj (b9 (jY mO mK mL dU (bM (bV hr) (qv 4) aS) (af aS ak)))
  (aq (eX fC rfl (dO K (bM (bV hr) (qv 4) aS)) (aT (i:=7) tR.nd) (aq (b9 (jY mO mK mL dU (aC (aK K) (qv 7) ai) (af ai ak)))))))) bf)
  (aj (b9 (bB uW hr (af (qv 0) (af (aI cU ai (qv 6)) (af (qv 3) (af (qv 4) (af (qv 2) (af (aI jQ (qv 5) (qv 6)) ak))))))))
  (aq (aY (bB qW hr (af (qv 3) (af (qv 4) ak)))))))))))))))),?_⟩
 refine⟨_,Z,_,Z,c7 hS h63 (by decide) (by decide) (by decide) (by decide) λod _ o0 o1=>⟨_,_,Z,Z,?_⟩⟩;obtain⟨no,hno⟩:∃no:Nat,1+od=(no:Int):=⟨(1+od).toNat,by omega⟩
 refine HF hno hS h63 (by decide) (by omega) λzo nso H1 g1 hzo _ ajD acH acI=>?_;have Qm:=g1.seq hS;refine⟨_,Z,HF (show(6:Int)=((6:Nat):Int)from rfl) Qm h63 (by decide) (by decide) λzn nsn H2 g2 Fc _ ajE acJ acK=>?_⟩;have IF:=g2.seq Qm;have MS:=g2 _ _ hzo;rw[Yx]at MS Fc;have eW:=Pw nso;have hnl:=Pw nsn;have ua:=HQ acH;have RO:=Ti acI;have nmN:=HQ acJ;have agW:=Ti acK;generalize Ey nso=own at *;generalize Ey nsn=nms at *;clear acH acI acJ acK hzo;refine⟨_,Z,⟨⟨zo,own,0,λ_=>none,Z,aB.of MS,Z,ua,λo ho=>(RO o ho).isNm,by omega,(λb c e=>by cases e),λρ3 A3 H3 j0 F3=>?_⟩⟩⟩;have o3:aM (out (λ_=>none) H2) (out ρ3 H3):=F3.out;have hx3:=j0;refine⟨_,Z,⟨⟨zo,own,1,ρ3,Z,F3.seq (aB.of MS) rfl,j0.g,by omega,λρ4 B4 H4 G4 Bh k4=>?_⟩⟩⟩;have F4:Fr 1 ρ3 H3 ρ4 H4:=λb o e _=>k4 b o e;have oj:=j0.other F4 G4 (by decide);have o4:=o3.trans F4.out;have fS:=(CH.of IF).go o4;have fN:=(CH.of (aB.of (K:=K) Fc)).go o4;have hS4:=fS _ _ (aM.refl _);obtain⟨XA,en4⟩:=gd0 (own:=own) (by omega) (by omega) (λo ho=>(RO o ho).isNm);have gw4:=gw0 ua (by omega) (by omega) (λo ho=>(RO o ho).isNm);have nx4:Nx nms (qZ own):=abB nmN (λx hx=>(agW x hx).isNm);have eo4:=Y6 own;have oj:HH T 0 ρ4 A3 H4 (qZ own):=oj;have XA:fj 0 (qZ own) ⟨own,[],1,[],[]⟩:=XA;have fO:=(CH.of (aB.of (K:=K) MS)).go o4;have owS:∀o∈own,PyData.strOk o=true:=λo ho=>uY (RO o ho).isNm;generalize qZ own=st4 at *;obtain⟨x,eA⟩:∃x,A3.a=x:=⟨_,rfl⟩
 rw[eA];refine⟨_,Z,c7 hS4 h63 (by decide) (by decide) (by decide) (by decide) λmd _ m0 m1=>⟨_,_,Z,Z,?_⟩⟩;obtain⟨many,adV⟩:∃many:Nat,1+md=(many:Int):=⟨(1+md).toNat,by omega⟩
 rw[adV];refine⟨_,Z,_,Z,c7 hS4 h63 (by decide) (by decide) (by omega) (by omega) λsd _ s0 s1=>?_⟩;obtain⟨stop,hstop⟩:∃stop:Nat,sd=(stop:Int):=⟨sd.toNat,by omega⟩
 subst hstop;refine⟨_,Z,_,Z,_,Z,_,Z,_,Z,⟨⟨0,1,0,0,ρ4,A3,B4,st4,_,a,zn,ns,4,nms,stop,by rw[eA];rfl,by decide,oj,Bh,XA,gw4,by omega,by omega,by rw[eo4];omega,fS,h63,by decide,by decide,fN,nx4,by omega,λρ5 A5 B5 uG b5 H5 xj MD UE XC E7 wm Bo nx5 o5=>?_⟩⟩⟩;rw[Nat.zero_add]at UE XC;have fS5:=fS.go o5;have fN5:=fN.go o5;have fO5:=fO.go o5;have Bo:b5.own=own:=Bo;have es5:uG.own=own:=UE.rel.own.trans Bo;rw[eA]at E7;generalize B4.m=mm at *;clear oj Bh XA gw4 j0 k4 F4 F3 o3 o4 Fc MS IF Qm hS hS4 fN fS fO o5 G4 g1 g2 eA nx4;have kn5:=XC.kn;refine⟨_,Z,_,Z,⟨⟨0,1,ρ5,A5,B5,uG,b5,stop,by rw[E7,wm];rfl,by decide,xj,MD,UE,by omega,(by rw[Bo];exact owS),by omega,λρ6 A6 H6 k6 uI hk6 CL ID o6=>⟨_,Z,aL ?_⟩⟩⟩⟩;have XD:=W7 UE k6;have gw6:GW stop 100000 { uG with kn:=k6 }:=⟨XC.g.kn k6,uI.wf,by show k6<=100000;omega⟩
 have nx6:Nx nms { uG with kn:=k6 }:=nx5.keep rfl;have es6:({ uG with kn:=k6 }:HS).own=own:=es5;have fS6:=fS5.go o6;have fN6:=fN5.go o6;have fO6:=fO5.go o6;have ID:=ID.trans E7;generalize ({ uG with kn:=k6 }:HS)=XE at *;clear xj MD UE XC fS5 fN5 fO5 nx5 o6 es5 kn5 hk6;refine⟨λσ H'=>∃ρ' A' B' st' b' s7,σ=[some (.ref a),some (.ref zo),some (.ref zn),some (.ref x),some (.ref mm),some (.int (many:Int)),some (.int (stop:Int)),s7]/\HH T 0 ρ' A' H' st'/\aZ 1 ρ' B' H' b'/\fj (stop+1) st' b'/\GW (stop+1) 100000 st'/\A'.a=x/\B'.m=mm/\b'.own.length<=10/\(∀o∈b'.own,PyData.strOk o=true)/\Nx nms st'/\aM (out ρ6 H6) (out ρ' H'),?_,?_⟩
 .have skip:∃ρ' A' B' st' b' s7,[some (V.ref a),some (.ref zo),some (.ref zn),some (.ref x),some (.ref mm),some (.int (many:Int)),some (.int (stop:Int)),none]=[some (.ref a),some (.ref zo),some (.ref zn),some (.ref x),some (.ref mm),some (.int (many:Int)),some (.int (stop:Int)),s7]/\HH T 0 ρ' A' H6 st'/\aZ 1 ρ' B' H6 b'/\fj (stop+1) st' b'/\GW (stop+1) 100000 st'/\A'.a=x/\B'.m=mm/\b'.own.length<=10/\(∀o∈b'.own,PyData.strOk o=true)/\Nx nms st'/\aM (out ρ6 H6) (out ρ' H6):=
   ⟨ρ6,A6,B5,XE,b5,_,Z,uI,CL,XD.mono,gw6.up 1 (aQ _),ID,wm,by rw[Bo];omega,(by rw[Bo];exact owS),nx6,aM.refl _⟩
  refine⟨decide (Jm.draw ns 0 3 2=1/\("later":Str)∉own),⟨_,Z,c7 (fS6 _ _ (aM.refl _)) h63 (by decide) (by decide) (by decide) (by decide) λld hld l0 l1=>⟨Z,_,Z,cD (λcc=>?_) (λcc=>?_)⟩⟩,cD (λcc=>?_) (λ_=>skip)⟩
  .have e1:Jm.draw ns 0 3 2=1:=by rw[<-hld];exact V.int.inj (dY cc)
   refine⟨_,Z,zo,_,Z,.inl (fO6 _ _ (aM.refl _)),Z,Tj _,_,Z,?_,Z⟩;show(!Hy (.str "later") (own.map V.str))=_;rw[VR];by_cases h:("later":Str)∈own
   .rw [bh h,c9 (λz=>z.2 h)];rfl
   .rw [c9 h,bh ⟨e1,h⟩];rfl
  .refine ⟨?_,Z⟩;have e1:Jm.draw ns 0 3 2≠1:=λe=>cc (bh (by rw[hld,e]));exact(c9 (λz=>e1 z.1)).symm
  obtain⟨_,hno⟩:=dY cc;have late:isNm "later"=true:=by decide +kernel
  have O_:("later":Str)∉XE.own:=by rw[es6];exact hno
  refine⟨_,Z,x,A6.dx,_,Z,by rw[<-ID];exact uI.h.oa,Z,⟨⟨0,ρ6,A6,XE,"later",by rw[ID];rfl,uI,late,O_,by rw[es6];omega,λρ7 A7 H7 zQ XF F7=>?_⟩⟩⟩;have MT:=CL.other F7 uI.g (by decide);have om7:H7 mm=some (.dK (fL B5 b5.bot)):=by rw[<-wm];exact MT.om
  refine⟨_,Z,mm,_,Z,cC.k (k:=Sum.inr "owners") om7,.inl ⟨Z,_,aB.of MT.oo⟩,B5.lo,_,_,Z,Z,MT.oo,by rw[aE,Bo];exact dz (by omega),?_⟩;rw[show b5.own.map V.str++[V.str "later"]=(b5.own++[("later":Str)]).map V.str from by rw[bP];rfl];have UG:=MT.set_own zQ.g (b5.own++[("later":Str)]);have G8:=zQ.g.wr (a:=B5.lo) (o:=.lst ((b5.own++[("later":Str)]).map V.str)) rfl;have F8:Fr 1 ρ7 H7 ρ7 (upd H7 B5.lo (.lst ((b5.own++[("later":Str)]).map V.str))):=Fr.write MT.co;have Qj:=zQ.other F8 G8 (by decide);show R4 _ _ _ (upd H7 B5.lo (.lst ((b5.own++[("later":Str)]).map V.str)));generalize upd H7 B5.lo (.lst ((b5.own++[("later":Str)]).map V.str))=H8 at *;have om8:H8 mm=some (.dK (fL B5 b5.bot)):=by rw[<-wm];exact UG.om
  refine⟨_,Z,mm,_,Z,cC.k (k:=Sum.inr "parts") om8,B5.lp,Z,⟨_,aB.of UG.op⟩,?_⟩;refine kQ (K:=K) (xs:=B5.qs.map λq=>V.ref q.1) (λi σ H'=>∃s7,σ=[some (.ref a),some (.ref zo),some (.ref zn),some (.ref x),some (.ref mm),some (.int (many:Int)),some (.int (stop:Int)),s7]/\Gh ρ7 H'/\aZ 1 ρ7 B5 H' { b5 with own:=b5.own++[("later":Str)],ah:=IA i b5.ah }/\Fr 1 ρ7 H8 ρ7 H') ⟨_,Z,G8,UG,Fr.refl⟩ (λi σ H' _ hp=>by obtain⟨_,_,_,h,_⟩:=hp;exact aB.of h.op) ?_ ?_
  .rintro i y σ H9 hy ⟨s7,rfl,G9,Bb,F9⟩;rw[bO]at hy;obtain⟨qq,eq,rfl⟩:=lQ.mp hy;have hib:i<b5.ah.length:=by rw[<-CL.ql];exact(di.mp eq).1
   obtain⟨p,ei⟩:∃p,b5.ah[i]?=some p:=⟨_,bq hib⟩
   have ei':=Ug ei;obtain⟨r1,r2,c1,c2⟩:=Bb.pt i p qq ei' eq;have tl:=XD.fJ.tl p (bw ei);refine⟨_,Z,qq.1,_,_,_,Z,Z,aB.of r1,aA (j:=4) rfl,.inl ⟨Z,_,aB.of r2⟩,qq.2,_,_,Z,Z,r2,by rw[aE,tl,Bo];exact dz (by omega),?_⟩;rw[show p.tops.map V.int++[V.int 0]=(p.tops++[0]).map V.int from by rw[bP];rfl];have s:=Bb.Dc G9 (p.tops++[0]) ei' eq (by show((IA i b5.ah).map _).Nodup;rw[Uh];exact XD.fJ.nd);have es:=Qg ei;exact⟨_,Z,G9.wr rfl,by rw[<-es];exact s,F9.trans (Fr.write c2)⟩
  rintro σ H9 ⟨s7,rfl,G9,Bb,F9⟩;rw[aE,CL.ql,Za]at Bb;have Bb:aZ 1 ρ7 B5 H9 (ER b5 "later"):=Bb;have Xl:=Qj.other F9 G9 (by decide);refine⟨ρ7,A7,B5,fF XE "later",ER b5 "later",_,Z,Xl,Bb,Y8 XD uI.wf late (by rw[Bo];omega),Zb gw6 late O_ (by rw[es6];omega),XF.trans ID,wm,?_,λo ho=>?_,nx6.keep rfl,(F7.out.trans F8.out).trans F9.out⟩
  .show (b5.own++[("later":Str)]).length<=10;rw[cZ,Bo];show own.length+1<=10;omega
  .rcases dD.mp (show o∈b5.own++[("later":Str)]from ho)with z|z
   .rw [Bo]at z;exact owS o z
   .rw [dj.mp z];exact uY late
 rintro σ H7 ⟨ρ7,A7,B7,Ak,b7,s7,rfl,zQ,MT,gd7,gw7,XF,em7,ol7,ow7,nx7,o7⟩;have fS7:=fS6.go o7;have fN7:=fN6.go o7;refine⟨_,Z,_,Z,_,_,Z,Z,_,Z,_,Z,_,Z,_,Z,_,Z,_,_,Z,Z,⟨⟨0,1,stop+1,100000,ρ7,A7,B7,Ak,b7,a,zn,ns,4+stop,nms,many-stop,by rw[XF,em7,show((many:Int)-(stop:Int))=((many-stop:Nat):Int) by omega];rfl,by decide,zQ,MT,gd7,gw7,by omega,by omega,by rw[gd7.rel.own];omega,fS7,h63,by omega,by omega,fN7,nx7,by omega,λρ8 A8 B8 st8 b8 H8 Qj UG gd8 gw8 ea8 em8 eb8 nx8 o8=>?_⟩⟩⟩;have kn8:=gw8.kn;exact⟨_,Z,_,Z,⟨⟨0,1,ρ8,A8,B8,st8,b8,_,by rw[ea8,em8,XF,em7];rfl,by decide,Qj,UG,gd8,by omega,(by rw[eb8];exact ow7),by omega,λρ9 A9 H9 k9 _ _ _ _ _=>q H9⟩⟩⟩
end
theorem all_mk{l:PySem.W.OpenLaw}{w:World}{K:Fg}{h:Heap}{mg:SO}{fa:Addr}(X:K.In h)(G:h.Ns mainGlobals mg)(hfa:mg "law"=some (.ref fa)){f:Addr}{od an:Option Addr}{sl:Array (Option Value)}{oc kV dc pm cd ct:Value}(a:PySem.W.nsIn K mainGlobals "law"=some (some (.ref f)))(l1:K.lookup f=some ⟨oc,od,.func (PySem.W.fnOf "law" "law" (gi qU) (dQ qU) (aD qU) .none kV dc pm an cd ct),sl⟩)(c:PySem.W.codeIn K cd "law"=true)(k:PySem.W.keepIn K (.ref f)=true)(Fj:dw K "common_factor" pG)(UH:dw K "made_of" zj)(UI:dw K "is_name" zm)(GX:dw K "check_amount" qB)(MU:dw K "check_loss" ue)(MV:dw K "amounts_of" uf)(Fl:dw K "factor_of_all" pH)(Oh:dw K "_law_draw" vX)(Oi:dw K "_law_name" vY)(MW:dw K "_law_names" uy)(Oj:dw K "_law_much" vZ)(RP:dw K "_law_int" xJ)(MX:dw K "_law_least" uz)(UJ:dw K "_law_is" zx)(Dy:dw K "_law_part_list" nP)(Ck:dw K "_law_share_list" nh)(Bp:dw K "_law_tells_parts" lU)(zY:dw K "_law_tells_landed" lq)(MY:dw K "_law_tells" uB)(MZ:dw K "_law_model" uD)(Ol:dw K "_law_seat" v8)(Fo:dw K "_law_new_part" pM)(M_:dw K "_law_begin" uE)(UK:dw K "_law_at" zz)(Om:dw K "_law_rows" v_)(Oo:dw K "_law_flat" wc)(Dz:dw K "_law_part_deed" nR)(Oq:dw K "_law_deed" wg)(Ot:dw K "_law_bear" wk)(Cm:dw K "_law_model_cast" nt)(DA:dw K "_law_model_one" nT)(Fp:dw K "_law_model_do" pO)(GY:dw K "_law_hold_do" qS)(RQ:dw K "_law_run" xQ)(adW:PySem.W.nsIn K mainGlobals "len"=some none)(Zc:PySem.W.nsIn K mainGlobals "range"=some none)(adX:PySem.W.nsIn K mainGlobals "sum"=some none)(acO:PySem.W.nsIn K mainGlobals "list"=some none)(adY:PySem.W.nsIn K mainGlobals "zip"=some none)(adZ:PySem.W.nsIn K mainGlobals "all"=some none)(ad0:PySem.W.nsIn K mainGlobals "int"=some none)(acP:PySem.W.nsIn K mainGlobals "bool"=some none)(ad1:PySem.W.nsIn K mainGlobals "str"=some none)(Zd:PySem.W.nsIn K mainGlobals "tuple"=some none)(ad2:PySem.W.nsIn K mainGlobals "abs"=some none)(Na:PySem.W.nsIn K mainGlobals "isinstance"=some none)(ad3:PySem.W.nsIn K mainGlobals "min"=some none){RS:Tok}(UL:PySem.W.nsIn K mainGlobals "LETTERS"=some (some (.str "abcdefghijklmnopqrstuvwxyz" RS))){cM:Addr}(Ze:PySem.W.nsIn K mainGlobals "Hold"=some (some (.ref cM)))(Zf:PySem.W.plainGet K cM Str.empty=true)(Zg:PySem.W.hasDictIn K cM=true)(Zh:PySem.W.plainOver K cM=true)(Zi:PySem.W.findIn K (.ref cM) "__setattr__"=some (some (.builtin "object.__setattr__")))(Zj:PySem.W.makesIn K cM=true)(Zk:PySem.W.keepIn K (.ref cM)=true)(Ou:dM K cM "__init__" "Hold.__init__" vP)(Fq:dM K cM "place_of" "Hold.place_of" pJ)(GZ:dM K cM "part_of" "Hold.part_of" qD)(DB:dM K cM "check_new" "Hold.check_new" nO)(Nb:dM K cM "parts" "Hold.parts" uh)(Nc:dM K cM "whole" "Hold.whole" um)(zA:dM K cM "beyond_common" "Hold.beyond_common" kI)(G0:dM K cM "tops_of" "Hold.tops_of" qF)(Ov:dM K cM "stow" "Hold.stow" vL)(Ow:dM K cM "sign" "Hold.sign" vM)(Ox:dM K cM "load" "Hold.load" vN)(Jq:dM K cM "shares" "Hold.shares" rX)(Jr:dM K cM "landed" "Hold.landed" rZ)(Ft:dM K cM "given_up" "Hold.given_up" pK)(Js:dM K cM "lessen" "Hold.lessen" rT)(Nd:dM K cM "blend" "Hold.blend" uo)(Oz:dM K cM "cast" "Hold.cast" vQ)(Nf:dM K cM "award" "Hold.award" uw)(Jt:dM K cM "mishap" "Hold.mishap" r6)(OA:dM K cM "rise" "Hold.rise" vS)(OB:dM K cM "hand" "Hold.hand" vU)(OC:dM K cM "land" "Hold.land" vV)(Ng:dM K cM "sever" "Hold.sever" ux)(Ju:dM K cM "roster" "Hold.roster" r8)(Jv:PySem.W.findIn K (.ref cM) "places"=some none)(Jw:PySem.W.findIn K (.ref cM) "aboard"=some none)(Jx:PySem.W.findIn K (.ref cM) "ashore"=some none)(Nh:PySem.W.findIn K (.ref cM) "names"=some none)(Jy:PySem.W.findIn K (.ref cM) "bottom"=some none)(Jz:PySem.W.findIn K (.ref cM) "common"=some none)(JA:PySem.W.findIn K (.ref cM) "purses"=some none){i7:Addr}(Zl:PySem.W.nsIn K mainGlobals "Part"=some (some (.ref i7)))(Zm:PySem.W.plainGet K i7 Str.empty=true)(Zn:PySem.W.hasDictIn K i7=true)(Zo:PySem.W.plainOver K i7=true)(Zp:PySem.W.findIn K (.ref i7) "__setattr__"=some (some (.builtin "object.__setattr__")))(Zq:PySem.W.makesIn K i7=true)(Zr:PySem.W.keepIn K (.ref i7)=true)(OD:dM K i7 "__init__" "Part.__init__" vK)(OE:PySem.W.findIn K (.ref i7) "name"=some none)(Ni:PySem.W.findIn K (.ref i7) "owner"=some none)(Nj:PySem.W.findIn K (.ref i7) "worth"=some none)(JB:PySem.W.findIn K (.ref i7) "weight"=some none)(Nk:PySem.W.findIn K (.ref i7) "scale"=some none)(RT:PySem.W.findIn K (.ref i7) "row"=some none){fW:Addr}(UM:PySem.W.nsIn K mainGlobals "Bottom"=some (some (.ref fW)))(UN:PySem.W.plainGet K fW Str.empty=true)(UO:PySem.W.hasDictIn K fW=true)(UP:PySem.W.plainOver K fW=true)(UQ:PySem.W.findIn K (.ref fW) "__setattr__"=some (some (.builtin "object.__setattr__")))(UR:PySem.W.makesIn K fW=true)(US:PySem.W.keepIn K (.ref fW)=true)(JC:dM K fW "__init__" "Bottom.__init__" rR)(JD:dM K fW "over" "Bottom.over" rW)(G_:dM K fW "share" "Bottom.share" qI)(JE:dM K fW "grow" "Bottom.grow" rS)(Hf:PySem.W.findIn K (.ref fW) "steps"=some none)(DC:PySem.W.findIn K (.ref fW) "product"=some none)(Hg:PySem.W.findIn K (.ref fW) "known"=some none)
  :∃fd:FuncData,(∀(s:Shared)(v:Value),BindsTo s fd ⟨[v],[]⟩ [("_law_script",v)])/\∀base:Heap,K.In base->base.Ns mainGlobals mg->ku l.prog w K mg base vh 8 fa fd ["_law_script"] (J4 K):=by
 have e:=hfa.symm.trans (PySem.W.mg_of X G a)
 cases e
 have ad4:=WQ (st:=qU) X G a l1 c k
 have xw:qe K fW:=⟨UN,UO,UP,UQ⟩
 have d_:qe K cM:=⟨Zf,Zg,Zh,Zi⟩
 obtain⟨_,_,Fv⟩:=Fj.at X G
 obtain⟨_,_,UT⟩:=UH.at X G
 obtain⟨_,_,UU⟩:=UI.at X G
 obtain⟨_,_,Hh⟩:=GX.at X G
 obtain⟨_,_,Nl⟩:=MU.at X G
 obtain⟨_,_,Nm⟩:=MV.at X G
 obtain⟨_,_,Fw⟩:=Fl.at X G
 obtain⟨_,_,OF⟩:=Oh.at X G
 obtain⟨_,_,OG⟩:=Oi.at X G
 obtain⟨_,_,Nn⟩:=MW.at X G
 obtain⟨_,_,OH⟩:=Oj.at X G
 obtain⟨_,_,RU⟩:=RP.at X G
 obtain⟨_,_,Np⟩:=MX.at X G
 obtain⟨_,_,UW⟩:=UJ.at X G
 obtain⟨_,_,DE⟩:=Dy.at X G
 obtain⟨_,_,Co⟩:=Ck.at X G
 obtain⟨_,_,Bq⟩:=Bp.at X G
 obtain⟨_,_,zZ⟩:=zY.at X G
 obtain⟨_,_,Nq⟩:=MY.at X G
 obtain⟨_,_,Nr⟩:=MZ.at X G
 obtain⟨_,_,OI⟩:=Ol.at X G
 obtain⟨_,_,Fx⟩:=Fo.at X G
 obtain⟨_,_,Nt⟩:=M_.at X G
 obtain⟨_,_,UX⟩:=UK.at X G
 obtain⟨_,_,OJ⟩:=Om.at X G
 obtain⟨_,_,OL⟩:=Oo.at X G
 obtain⟨_,_,DF⟩:=Dz.at X G
 obtain⟨_,_,OM⟩:=Oq.at X G
 obtain⟨_,_,ON⟩:=Ot.at X G
 obtain⟨_,_,Cp⟩:=Cm.at X G
 obtain⟨_,_,DG⟩:=DA.at X G
 obtain⟨_,_,Fy⟩:=Fp.at X G
 obtain⟨_,_,Hi⟩:=GY.at X G
 obtain⟨_,_,RV⟩:=RQ.at X G
 have bD:=rj X G adW
 have bX:=rj X G Zc
 have g_:=rj X G adX
 have dI:=rj X G acO
 have jc:=rj X G adY
 have Rw:=rj X G adZ
 have RB:=rj X G ad0
 have MB:=rj X G acP
 have qM:=rj X G ad1
 have iE:=rj X G Zd
 have RC:=rj X G ad2
 have bR:=rj X G Na
 have xu:=rj X G ad3
 have AZ:=PySem.W.mg_of X G UL
 obtain⟨_,_,OO⟩:=Ou.made X G Ze Zj Zk
 obtain⟨_,_,Fz⟩:=Fq.at d_
 obtain⟨_,_,Hj⟩:=GZ.at d_
 obtain⟨_,_,DH⟩:=DB.at d_
 obtain⟨_,_,Nu⟩:=Nb.at d_
 obtain⟨_,_,Nv⟩:=Nc.at d_
 obtain⟨_,_,zC⟩:=zA.at d_
 obtain⟨_,_,Hl⟩:=G0.at d_
 obtain⟨_,_,OP⟩:=Ov.at d_
 obtain⟨_,_,OQ⟩:=Ow.at d_
 obtain⟨_,_,OR⟩:=Ox.at d_
 obtain⟨_,_,JF⟩:=Jq.at d_
 obtain⟨_,_,JG⟩:=Jr.at d_
 obtain⟨_,_,FD⟩:=Ft.at d_
 obtain⟨_,_,JH⟩:=Js.at d_
 obtain⟨_,_,Ny⟩:=Nd.at d_
 obtain⟨_,_,OS⟩:=Oz.at d_
 obtain⟨_,_,Nz⟩:=Nf.at d_
 obtain⟨_,_,JI⟩:=Jt.at d_
 obtain⟨_,_,OT⟩:=OA.at d_
 obtain⟨_,_,OU⟩:=OB.at d_
 obtain⟨_,_,OV⟩:=OC.at d_
 obtain⟨_,_,NB⟩:=Ng.at d_
 obtain⟨_,_,JJ⟩:=Ju.at d_
 obtain⟨_,_,OW⟩:=OD.made X G Zl Zq Zr
 obtain⟨_,_,JK⟩:=JC.made X G UM UR US
 obtain⟨_,_,JL⟩:=JD.at xw
 obtain⟨_,_,Ho⟩:=G_.at xw
 obtain⟨_,_,JM⟩:=JE.at xw
 have TX:Txt K ⟨cM,i7,fW⟩:=⟨d_,⟨Zm,Zn,Zo,Zp⟩,xw,Jv,Jw,Jx,Nh,Jy,Jz,JA,OE,Ni,Nj,JB,Nk,RT,Hf,DC,Hg⟩
 refine⟨PySem.W.fnOf "law" "law" (gi qU) (dQ qU) (aD qU) .none kV dc pm an cd ct,λs v=> .of_eq rfl,λbase _ _=>?_⟩
 have iU:=Dg (P:=l.prog) (w:=w) (base:=base) (mg:=mg) Fv
 have AY:=Rv (P:=l.prog) (w:=w) (base:=base) (mg:=mg) UT Rw
 have pZ:=Ry UU AY bD AZ
 have mJ:=Dh (P:=l.prog) (w:=w) (base:=base) (mg:=mg) (e:=⟨0,0,0,0,0,0,0,0,0,0,0⟩) Hh
 have zV:=Gy Nl mJ
 have ji:=abD mJ
 have m9:=abE zV
 have vR:=IP (P:=l.prog) (w:=w) (base:=base) (mg:=mg) Nm bD
 have qG:=Di Fw iU
 have Dp:=GA (P:=l.prog) (w:=w) (base:=base) (mg:=mg) JK TX
 have yd:=Ma (P:=l.prog) (w:=w) (base:=base) (mg:=mg) OW TX dI
 have MI:=Ml OO TX Dp
 have ur:=GD (P:=l.prog) (w:=w) (base:=base) (mg:=mg) JM TX
 have uu:=GJ JL TX iU
 have rY:=E4 Ho TX uu
 have pQ:=Cc (P:=l.prog) (w:=w) (base:=base) (mg:=mg) (e:=⟨0,0,0,0,0,0,0,0,0,0,0⟩) Fz TX
 have dX:=Wj pQ
 have iV:=Dl (P:=l.prog) (w:=w) (base:=base) (mg:=mg) (e:=⟨0,0,0,0,0,0,0,0,0,0,0⟩) Hj TX
 have cR:=Ud iV
 have uK:=A0 (e:=⟨0,0,0,0,0,0,0,0,0,0,0⟩) DH TX pZ
 have jA:=abC uK
 have v7:=IU (P:=l.prog) (w:=w) (base:=base) (mg:=mg) Nu TX
 have ia:=IW (P:=l.prog) (w:=w) (base:=base) (mg:=mg) Nv TX g_
 have fX:=yc (P:=l.prog) (w:=w) (base:=base) (mg:=mg) zC TX jc
 have fY:=EZ (P:=l.prog) (w:=w) (base:=base) (mg:=mg) Hl TX jc
 have lM:=Mf (P:=l.prog) (w:=w) (base:=base) (mg:=mg) OP TX
 have iJ:=Mg OQ TX pZ bD
 have xO:=Mh OR TX jA dX fX lM yd bD
 have qH:=Dq (P:=l.prog) (w:=w) (base:=base) (mg:=mg) FD TX g_ jc
 have jL:=GI (P:=l.prog) (w:=w) (base:=base) (mg:=mg) JH TX
 have kK:=I0 Ny TX qG ur jc
 have xP:=Mt OS TX vR m9 cR ia kK qH jL g_
 have yi:=GL JF TX cR fY rY jc
 have uA:=GO (P:=l.prog) (w:=w) (base:=base) (mg:=mg) JG TX dI
 have JN:=GP (e:=⟨0,0,0,0,0,0,0,0,0,0,0⟩) Nz TX pQ mJ ia kK bD
 have Hq:=E5 (e:=⟨0,0,0,0,0,0,0,0,0,0,0⟩) JI TX iV zV jL
 have NC:=Jd (e:=⟨0,0,0,0,0,0,0,0,0,0,0⟩) OT TX iV mJ
 have ND:=Je (e:=⟨0,0,0,0,0,0,0,0,0,0,0⟩) OU TX iV pQ fY fX
 have NF:=Jf (e:=⟨0,0,0,0,0,0,0,0,0,0,0⟩) OV TX iV dX fY yi jc
 have JO:=GR (e:=⟨0,0,0,0,0,0,0,0,0,0,0⟩) NB TX iV uK lM yd
 have lI:=T6 yi
 have uC:=GU (P:=l.prog) (w:=w) (base:=base) (mg:=mg) JJ TX dI
 have bu:=Mx (P:=l.prog) (w:=w) (base:=base) (mg:=mg) OF bD bX
 have sX:=My (P:=l.prog) (w:=w) (base:=base) (mg:=mg) OG bX
 have qV:=Jh Nn bu sX bX
 have lO:=MA OH bu
 have fG:=N8 (P:=l.prog) (w:=w) (base:=base) (mg:=mg) RU bR RB MB
 have kL:=Ji (P:=l.prog) (w:=w) (base:=base) (mg:=mg) Np RC
 have Bf:=RE UW fG kL bR iE bD
 have pL:=Ce DE fG bR dI iE qM bX bD
 have ir:=Be Co kL Bf bR dI iE qM bX bD
 have nj:=zW Bq fG pL ir v7 ia lI g_
 have lW:=zy zZ fG ir uA bR dI iE qM bX bD
 have qW:=Jj Nq nj lW uC bR dI
 have wD:=Jl (P:=l.prog) (w:=w) (base:=base) (mg:=mg) Nr dI
 have gP:=MG (P:=l.prog) (w:=w) (base:=base) (mg:=mg) OI bD bX
 have qR:=Ds Fx gP
 have wC:=Jo (T:=⟨cM,i7,fW⟩) Nt MI iJ
 have FE:=RH (P:=l.prog) (w:=w) (base:=base) (mg:=mg) UX bD bX
 have tQ:=abm FE
 have xK:=MJ OJ bu bD bX dI g_ xu
 have xM:=MK (P:=l.prog) (w:=w) (base:=base) (mg:=mg) OL iE
 have pN:=Cg DF bu lO xK xM bD g_ xu
 have xS:=ML OM bu lO pN bD
 have lP:=MM (P:=l.prog) (w:=w) (base:=base) (mg:=mg) ON bD bX g_
 have nU:=Bl Cp tQ lP
 have pP:=Cj DG FE gP dI
 have qT:=Dw Fy pP qR nU lP gP bD bX
 have r_:=Ff Hi iJ xO xP JN Hq NC ND NF JO bD bX
 have uW:=Og RV xS r_ qT bX
 exact acG ad4 bu qV wC wD uW qW iJ
theorem walk{l:PySem.W.OpenLaw}{q:Program}{loose:List Str}{XP:(Str->Option Value)->Heap->Prop}{YP:World->Heap->Prop}{d:DefRec}{K:Params->Fg}(hn:l.most=some 63)(hdf:d.params.defaults=[])(hY:∀(w:World) (h:Heap),YP w h->(K w.params).In h)(F:∀(w:World) (mg:SO) (fa:Addr) (h:Heap),(K w.params).In h->h.Ns mainGlobals mg->mg d.name=some (.ref fa)->
    ∃fd:FuncData,(∀(s:Shared) (u:Value),BindsTo s fd ⟨[u],[]⟩ [("_law_script",u)])/\∀base:Heap,(K w.params).In base->base.Ns mainGlobals mg->ku l.prog w (K w.params) mg base vh 8 fa fd ["_law_script"] (J4 (K w.params))):
  PySem.W.WalkO q loose XP YP l.row.toRowW d [] (λf vs=>PySem.call f vs):=
 L2.X5 (n:=63) (k:=8) (x:="_law_script") (CX:=λ_=>vh) (sp:=λw=>J4 (K w.params)) hn (by decide) hdf ⟨Z,by decide,by decide⟩ hY F (λ_ _ a ns hl _ hS=>⟨a,ns,Z,hS,hl,λ_=>rfl⟩) λ_ _ _ _ _ z=>z
end Law
namespace PySem.W.Fast
abbrev A:=True
theorem a:A:=⟨⟩
theorem tw6508459250494393921:A:=a
theorem tw8747234776999721074:A:=a
theorem tw10209769299361554021:A:=a
theorem tw1906419024964175920:A:=a
theorem tw17472334807997700496:A:=a
theorem tw12749216223619743671:A:=a
theorem tw2795597283885403718:A:=a
theorem tw1701351850234899092:A:=a
theorem tw5633091291554297557:A:=a
theorem tw3907184223389286288:A:=a
theorem tw5859942325339489125:A:=a
theorem tw197696033081973145:A:=a
theorem tw14372714319375709641:A:=a
theorem tw16667830426843468704:A:=a
theorem tw14266658127233305279:A:=a
theorem tw11317335192574760441:A:=a
theorem tw4984077430841363484:A:=a
theorem tw16902824583784404351:A:=a
theorem tw15308100333603011400:A:=a
theorem tw13044258494764991578:A:=a
theorem tw6693777793044053608:A:=a
theorem tw9264610099342196743:A:=a
theorem tw13145044232766258218:A:=a
theorem tw9309404116059381193:A:=a
theorem tw17867525203037116413:A:=a
theorem tw17486684527629471982:A:=a
theorem tw9607446682321687701:A:=a
theorem tw2913411502730903449:A:=a
theorem tw10877548124460113566:A:=a
theorem tw3623151700609244769:A:=a
theorem tw2298464342534219824:A:=a
theorem tw4186655279184693198:A:=a
theorem tw6572467787322764970:A:=a
theorem tw13609308079003323537:A:=a
theorem tw13842592550803797150:A:=a
theorem tw9151783624572747962:A:=a
theorem tw15161395370822656394:A:=a
theorem tw698176217638113159:A:=a
theorem tw12545268508955274329:A:=a
theorem tw8849310183856050211:A:=a
theorem tw6780129778466027997:A:=a
theorem tw1389235165896722329:A:=a
theorem tw9208160503256680919:A:=a
theorem tw4030420689164698755:A:=a
theorem tw16594015620683821051:A:=a
theorem tw9078301582906116917:A:=a
theorem tw9484713012381432613:A:=a
theorem tw14056358911254108380:A:=a
theorem tw2383647360255064742:A:=a
theorem tw279293045097193537:A:=a
theorem tw17933460181326930057:A:=a
theorem tw6357071973940059527:A:=a
theorem tw18412358478761036738:A:=a
theorem tw17370301524361916374:A:=a
theorem tw7633454819767858751:A:=a
theorem tw16252314155573316847:A:=a
theorem tw6007090802237928444:A:=a
theorem tw9716563499721073639:A:=a
theorem tw4757362238483274478:A:=a
theorem tw17648913579508702365:A:=a
theorem tw11436046987165417632:A:=a
theorem tw14517441623319715505:A:=a
theorem tw16100472770815513641:A:=a
theorem tw17059282265119902829:A:=a
theorem tw6945931606459594540:A:=a
theorem tw7182930449607026459:A:=a
theorem tw8724460941694759351:A:=a
theorem tw1000362433882266920:A:=a
theorem tw11539699441854407436:A:=a
theorem tw10971866154565611751:A:=a
theorem tw14168561757116031044:A:=a
theorem tw4754102503270235110:A:=a
theorem tw3858633172176451847:A:=a
theorem tw4389045107468432241:A:=a
theorem tw13689309519701197096:A:=a
theorem tw6616506438061010456:A:=a
theorem tw2436745017717528307:A:=a
theorem tw16776293156709029127:A:=a
theorem tw7538630643377961565:A:=a
theorem tw12365603184294623956:A:=a
theorem tw13862100505729747916:A:=a
theorem tw3140425748936640470:A:=a
theorem tw15291507591085700541:A:=a
theorem tw2874336350759780694:A:=a
theorem tw7476190599164841573:A:=a
theorem tw4239252805879160802:A:=a
theorem tw2665708171546258878:A:=a
theorem tw17906803986259649618:A:=a
theorem tw17418515897695404022:A:=a
theorem tw12465545950548028432:A:=a
theorem tw1519634195830733697:A:=a
theorem tw8049996685104291460:A:=a
theorem tw5625714761900643505:A:=a
theorem tw6120492929015393279:A:=a
theorem tw613826341823665949:A:=a
theorem tw7392637840757002904:A:=a
theorem tw6368071163286877453:A:=a
theorem tw7041887109402672849:A:=a
theorem tw17737546666983484841:A:=a
theorem tw13861691320795488511:A:=a
theorem tw2832035061209618382:A:=a
theorem tw9438194114820167952:A:=a
theorem tw10988322121650488817:A:=a
theorem tw1868565643942163960:A:=a
theorem tw8664723816247157616:A:=a
theorem tw16632006004797852116:A:=a
theorem tw12937264640206866087:A:=a
theorem tw2235964148266004005:A:=a
theorem tw373398017291382579:A:=a
theorem tw4787429757653919441:A:=a
theorem tw17901992363001829115:A:=a
theorem tw1517762457983842527:A:=a
theorem tw16394006587331908728:A:=a
theorem tw468776452338224884:A:=a
theorem tw11467772500413045945:A:=a
theorem tw18196916407224760868:A:=a
theorem tw1846586300479948217:A:=a
theorem tw3299825825817929923:A:=a
theorem tw9560181721264108679:A:=a
theorem tw17496725035062537874:A:=a
theorem tw14983107526754808800:A:=a
theorem tw14805268027798940748:A:=a
theorem tw3392391989908859183:A:=a
theorem tw2051028787190619968:A:=a
theorem tw11124548120705045436:A:=a
theorem tw11100971472002907408:A:=a
theorem tw13057162445209911134:A:=a
theorem tw10355664185588654324:A:=a
theorem tw13141308302670565529:A:=a
theorem tw10771213836416374979:A:=a
theorem tw1312325800881310432:A:=a
theorem tw15711005203257251260:A:=a
theorem tw2938552986845332494:A:=a
theorem tw6321154159153206352:A:=a
theorem tw3222789157788948503:A:=a
theorem tw17130365831111602445:A:=a
theorem tw18267995639777882304:A:=a
theorem tw2163348234602347200:A:=a
theorem tw10356153376082248163:A:=a
theorem tw8621441001988580112:A:=a
theorem tw5365865491665284917:A:=a
theorem tw14781158790325297569:A:=a
theorem tw8717694325052979113:A:=a
theorem tw16580164239993239133:A:=a
theorem tw13638858685632154064:A:=a
theorem tw166352960414961728:A:=a
theorem tw8144840847463755506:A:=a
theorem tw10501536282886916177:A:=a
theorem tw11365087703229392407:A:=a
theorem tw12594108740216787922:A:=a
theorem tw3721598106693499638:A:=a
theorem tw14786218329796203414:A:=a
theorem tw12273793794963703366:A:=a
theorem tw11350767655262345591:A:=a
theorem tw10566314959312644495:A:=a
theorem tw1054643733637704433:A:=a
theorem tw8070940698088643960:A:=a
theorem tw17234773283003556350:A:=a
theorem tw9576674239118044162:A:=a
theorem tw8976236463086446769:A:=a
theorem tw7851906495757408317:A:=a
theorem tw11543046037671088482:A:=a
theorem tw8769946256383381898:A:=a
theorem tw12414322924333455182:A:=a
theorem tw9373014339064308809:A:=a
theorem tw1341546625672666086:A:=a
theorem tw7781619327526540999:A:=a
theorem tw15463699234680675215:A:=a
theorem tw853983305926787026:A:=a
theorem tw18054324310436555574:A:=a
theorem tw5627115935424857413:A:=a
theorem tw4504569063370590051:A:=a
theorem tw10644623135256844206:A:=a
theorem tw11013619027841803640:A:=a
theorem tw14466272491573660212:A:=a
theorem tw4003903602692647971:A:=a
theorem tw4757739747332396695:A:=a
theorem tw4585147636927429547:A:=a
theorem tw9814405343262857537:A:=a
theorem tw8074668324811513829:A:=a
theorem tw14177695685997419390:A:=a
theorem tw3057061054522739640:A:=a
theorem tw7460285361802437292:A:=a
theorem tw5645778204119139090:A:=a
theorem tw2962967684898245362:A:=a
theorem tw7463166926439689860:A:=a
theorem tw15985789763177072915:A:=a
theorem tw2166994713598433031:A:=a
theorem tw7096793280711090896:A:=a
theorem tw1127358301387122770:A:=a
theorem tw2384776418315914643:A:=a
theorem tw5060435841835894944:A:=a
theorem tw5655132958863046718:A:=a
theorem tw16226958266282086754:A:=a
theorem tw129139682847372495:A:=a
theorem tw1613440832043072307:A:=a
theorem tw8403602981776241799:A:=a
theorem tw6196803388750770346:A:=a
theorem tw11514657334031199454:A:=a
theorem tw16265717307092916978:A:=a
theorem tw8445948842018960853:A:=a
theorem tw4137513624777490960:A:=a
theorem tw2284410751372026475:A:=a
theorem tw16488676634126973761:A:=a
theorem tw8142429407283085640:A:=a
theorem tw5932499738522824358:A:=a
theorem tw15811875973240111987:A:=a
theorem tw142665582423395806:A:=a
theorem tw5710429575126841937:A:=a
theorem tw7555714675615802785:A:=a
theorem tw7442950600344332530:A:=a
theorem tw406992734176122544:A:=a
theorem tw3215630706618393075:A:=a
theorem tw10529807017471618316:A:=a
theorem tw9675027481639733219:A:=a
theorem tw11789221124001934436:A:=a
theorem tw2230302748255222589:A:=a
theorem tw7066846163440595570:A:=a
theorem tw18096419872255945415:A:=a
theorem tw14161189368092686885:A:=a
theorem tw17314658541865733295:A:=a
theorem tw310428405102718951:A:=a
theorem tw12044830258247051845:A:=a
theorem tw4184551227084078653:A:=a
theorem tw1681202554802912576:A:=a
theorem tw12409044690164940276:A:=a
theorem tw8741106888702296991:A:=a
theorem tw18011975697206436475:A:=a
theorem tw14298264177692295024:A:=a
theorem tw1756359674603977040:A:=a
theorem tw8616445039318249890:A:=a
theorem tw1685957930755997823:A:=a
theorem tw14301213617130325710:A:=a
theorem tw1111674789296829212:A:=a
theorem tw11653691542723991319:A:=a
theorem tw9213704152587186406:A:=a
theorem tw14959520043815818062:A:=a
theorem tw14586172988057176896:A:=a
theorem tw296979675949032246:A:=a
theorem tw4489688306544931417:A:=a
theorem tw17378100257662997175:A:=a
theorem tw18261680649160475479:A:=a
theorem tw9903397239351814109:A:=a
theorem tw6234256101291150061:A:=a
theorem tw2697201623689799983:A:=a
theorem tw13216913608009163086:A:=a
theorem tw2536458999046646312:A:=a
theorem tw11665028930709251508:A:=a
theorem tw13046525535406531459:A:=a
theorem tw12863807391139801579:A:=a
theorem tw6825511427019340252:A:=a
theorem tw16663195352109247864:A:=a
theorem tw11582030730987919772:A:=a
theorem tw17213198511934896862:A:=a
theorem tw3296092605263519018:A:=a
theorem tw11534558809510462119:A:=a
theorem tw9679040908491239910:A:=a
theorem tw767048871025480858:A:=a
theorem tw7568181445523958973:A:=a
theorem tw3971118573207378341:A:=a
theorem tw10516425832181209392:A:=a
theorem tw9011554056583510217:A:=a
theorem tw1947305421583107966:A:=a
theorem tw11388297958254758874:A:=a
theorem tw13722675893941568735:A:=a
theorem tw6568841444955109500:A:=a
theorem tw8454315719591793579:A:=a
theorem tw6246052246107379618:A:=a
theorem tw7212183001263694586:A:=a
theorem tw17952403910662782335:A:=a
theorem tw13621122004778870108:A:=a
theorem tw11064557869081588113:A:=a
theorem tw7901684151347625282:A:=a
theorem tw10971733394450600262:A:=a
theorem tw8717018519012883253:A:=a
theorem tw6942707695177014572:A:=a
theorem tw10993030626257082482:A:=a
theorem tw9060330847770837313:A:=a
theorem tw1967668023459363356:A:=a
theorem tw14584163220449290120:A:=a
theorem tw15728875390695541502:A:=a
theorem tw17159874331576026735:A:=a
theorem tw6714405285308783590:A:=a
theorem tw14556467467618225888:A:=a
theorem tw18317724312872873148:A:=a
theorem tw12156938554147270667:A:=a
theorem tw9819727723606313152:A:=a
theorem tw5541693889584169906:A:=a
theorem tw7560017082926118165:A:=a
theorem tw5406837963800870142:A:=a
theorem tw17053997688604838991:A:=a
theorem tw15661387081346760798:A:=a
theorem tw2530280462439622298:A:=a
theorem tw11278689147578428539:A:=a
theorem tw1238148941878100836:A:=a
theorem tw9662469354862381459:A:=a
theorem tw18153252182473941441:A:=a
theorem tw11090819764390263716:A:=a
theorem tw6401118105356555754:A:=a
theorem tw4401687873492602553:A:=a
theorem tw3611254406714704194:A:=a
theorem tw4141680680102669189:A:=a
theorem tw7966679910166793832:A:=a
theorem tw16803531998563115960:A:=a
theorem tw16928271478867942091:A:=a
theorem tw16163633408202882918:A:=a
theorem tw16421732826309299611:A:=a
theorem tw14526474361883021620:A:=a
theorem tw16750631962235728253:A:=a
theorem tw13658982672743426182:A:=a
theorem tw10719293086335634671:A:=a
theorem tw12612790845289227798:A:=a
theorem tw17108580735400087472:A:=a
theorem tw14671540193022670163:A:=a
theorem tw14000496152836994181:A:=a
theorem tw6254170541190154756:A:=a
theorem tw17928686121397949325:A:=a
theorem tw7121885926930269510:A:=a
theorem tw3420528057371878486:A:=a
theorem tw14539513216255748430:A:=a
theorem tw5108097236272430750:A:=a
theorem tw9944771661954240780:A:=a
theorem tw13998054101968951731:A:=a
theorem tw13279413565665301659:A:=a
theorem tw6292747989781064262:A:=a
theorem tw8367100627504750770:A:=a
theorem tw11482842468871319358:A:=a
theorem tw6938389392625622267:A:=a
theorem tw11212255091373090866:A:=a
theorem tw15881598733805705465:A:=a
theorem tw14004458376064323329:A:=a
theorem tw17758310683664048884:A:=a
theorem tw9715978493620680686:A:=a
theorem tw12826631116255503031:A:=a
theorem tw13554421237824673496:A:=a
theorem tw7574924942752095518:A:=a
theorem tw5496892634462444551:A:=a
theorem tw10277449696504436356:A:=a
theorem tw15575538020534963267:A:=a
theorem tw3153678030164583281:A:=a
theorem tw14711327578835852458:A:=a
theorem tw6038461916137088611:A:=a
theorem tw14228816898766400207:A:=a
theorem tw3860871136013058828:A:=a
theorem tw278413988790039702:A:=a
theorem tw1147804289421260130:A:=a
theorem tw9885943544817327721:A:=a
theorem tw6449106795801950771:A:=a
theorem tw13419125224076870199:A:=a
theorem tw1475576834700787012:A:=a
theorem tw13861908125536780376:A:=a
theorem tw16409269424760812954:A:=a
theorem tw17110398702552617945:A:=a
theorem tw8834270221623961613:A:=a
theorem tw15347179150687946087:A:=a
theorem tw15774432962299217456:A:=a
theorem tw136817591430880669:A:=a
theorem tw863645097429406104:A:=a
theorem tw3023763713407080758:A:=a
theorem tw609796701894216738:A:=a
theorem tw9489313932439268976:A:=a
theorem tw4747707462502421464:A:=a
theorem tw779119749316731678:A:=a
theorem tw10460341254640789099:A:=a
theorem tw6326738542967415557:A:=a
theorem tw12379843931258959756:A:=a
theorem tw8151541537404269250:A:=a
theorem tw12574462944950150280:A:=a
theorem tw1479783453849794185:A:=a
theorem tw12123330999093396608:A:=a
theorem tw8217945073386465561:A:=a
theorem tw7302600755213578294:A:=a
theorem tw16070729391335672028:A:=a
theorem tw3002158156098200113:A:=a
theorem tw2570861855404827566:A:=a
theorem tw98677048018216501:A:=a
theorem tw11540509250084175837:A:=a
theorem tw17974723934227619546:A:=a
theorem tw10983750597790024487:A:=a
theorem tw16379381262882665124:A:=a
theorem tw10320597563372964580:A:=a
theorem tw9545673906979875716:A:=a
theorem tw750843445644603040:A:=a
theorem tw4656593177422260955:A:=a
theorem tw5592363132800021147:A:=a
theorem tw4259965021800301521:A:=a
theorem tw10198435924481384740:A:=a
theorem tw1542948440037798757:A:=a
theorem tw3347913575893303851:A:=a
theorem tw14126374697593603545:A:=a
theorem tw16472126633356118448:A:=a
theorem tw3447549427099101821:A:=a
theorem tw7367306954112860397:A:=a
theorem tw13574854356805793637:A:=a
theorem tw12433985565594747255:A:=a
theorem tw6018991529004113229:A:=a
theorem tw17018724306060269950:A:=a
theorem tw6590995380085316204:A:=a
theorem tw1704911443372616317:A:=a
theorem tw5225151519120798037:A:=a
theorem tw5069505524812007826:A:=a
theorem tw16198742607761303519:A:=a
theorem tw12159582094854522560:A:=a
theorem tw6056613210154924221:A:=a
theorem tw17482619456341352176:A:=a
theorem tw9867697261679483949:A:=a
theorem tw12053383150895610016:A:=a
theorem tw580553319911948668:A:=a
theorem tw1897610394457154623:A:=a
theorem tw381539022516187751:A:=a
theorem tw3897269092597603850:A:=a
theorem tw10446319281392439941:A:=a
theorem tw17256160589645579017:A:=a
theorem tw6542310785848151567:A:=a
theorem tw8966072472514633343:A:=a
theorem tw12396817576069954744:A:=a
theorem tw5335256464408996874:A:=a
theorem tw5496783866986986313:A:=a
theorem tw5131083366118225533:A:=a
theorem tw7722646043346595276:A:=a
theorem tw12371246511015280390:A:=a
theorem tw6389384459328043795:A:=a
theorem tw15292719712859616967:A:=a
theorem tw14662533987786247116:A:=a
theorem tw3824474195740986080:A:=a
theorem tw13191273042621122681:A:=a
theorem tw8058663466083120860:A:=a
theorem tw5210200028932203200:A:=a
theorem tw986997899556103349:A:=a
theorem tw6193488770968520577:A:=a
theorem tw8759490502323469450:A:=a
theorem tw4195036685506939457:A:=a
theorem tw15801241777459261867:A:=a
theorem tw5277554785817163244:A:=a
theorem tw7695423455137219737:A:=a
theorem tw12261590124414771889:A:=a
theorem tw11144842845051161637:A:=a
theorem tw7934955722870092013:A:=a
theorem tw15270770395206404661:A:=a
theorem tw16025191554971992337:A:=a
theorem tw15655005006186894208:A:=a
theorem tw15416502470531049620:A:=a
theorem tw3773613893752170453:A:=a
theorem tw17568913059617959969:A:=a
theorem tw12764518850871129295:A:=a
theorem tw8474068076811183138:A:=a
theorem tw4892509864998435014:A:=a
theorem tw13489785177891601363:A:=a
theorem tw12504492916276174322:A:=a
theorem tw3473759323519769011:A:=a
theorem tw15809224688137959472:A:=a
theorem tw8310940782002222783:A:=a
theorem tw5772127770913511919:A:=a
theorem tw18416198393911434508:A:=a
theorem tw916913922900865393:A:=a
theorem tw9895872882889060978:A:=a
theorem tw12512064070295416371:A:=a
theorem tw2379912198576437600:A:=a
theorem tw11887886465342553829:A:=a
theorem tw10604131009237779143:A:=a
theorem tw4760599629166389419:A:=a
theorem tw17411125447361962027:A:=a
theorem tw145444373445543078:A:=a
theorem tw16898592806045718096:A:=a
theorem tw6202206253726677368:A:=a
theorem tw3341157981512027166:A:=a
theorem tw17993692233178590482:A:=a
theorem tw2548290192675981449:A:=a
theorem tw14066788898117584709:A:=a
theorem tw15162403043802384454:A:=a
theorem tw266570089527167591:A:=a
theorem tw7819912589164088128:A:=a
theorem tw962690962458486561:A:=a
theorem tw17894226968268571872:A:=a
theorem tw5705786792910139650:A:=a
theorem tw16275531226930399169:A:=a
theorem tw6437531197241404778:A:=a
theorem tw883825790599510481:A:=a
theorem tw4547163477652022631:A:=a
theorem tw14594231497507773812:A:=a
theorem tw2406427091826086107:A:=a
theorem tw2432362521659705349:A:=a
theorem tw5192186534140044508:A:=a
theorem tw10165972591314622950:A:=a
theorem tw9689574959522588822:A:=a
theorem tw4982371395509754330:A:=a
theorem tw14978118467017073816:A:=a
theorem tw10722408349149112386:A:=a
theorem tw16727409827636321979:A:=a
theorem tw18435996839912748450:A:=a
theorem tw15380351172440492242:A:=a
theorem tw572166406083831155:A:=a
theorem tw16384785695308749991:A:=a
theorem tw13755743755538919930:A:=a
theorem tw5470849043003902211:A:=a
theorem tw9397707824794516688:A:=a
theorem tw2705296483999829653:A:=a
theorem tw12247449037477048773:A:=a
theorem tw6717140715368720651:A:=a
theorem tw291567065121846745:A:=a
theorem tw14457926295635084319:A:=a
theorem tw3778938118330168222:A:=a
theorem tw11664093434546294953:A:=a
theorem tw7588165937849528182:A:=a
theorem tw1973007670921647033:A:=a
theorem tw14251882394860967852:A:=a
theorem tw14651705027413844103:A:=a
theorem tw74661205908877257:A:=a
theorem tw15797553033416812455:A:=a
theorem tw6750926594926637208:A:=a
theorem tw2646615518033027438:A:=a
theorem tw7802912899567060329:A:=a
theorem tw10242450201812218343:A:=a
theorem tw12078060786006887705:A:=a
theorem tw14792991642013502511:A:=a
theorem tw12677070614774265885:A:=a
theorem tw16601436108663254645:A:=a
theorem tw11225684024341920551:A:=a
theorem tw5480142557713819028:A:=a
theorem tw17923334236963401497:A:=a
theorem tw15770352294402405564:A:=a
theorem tw7504976681583156159:A:=a
theorem tw2922500142798963141:A:=a
theorem tw12909146986094578516:A:=a
theorem tw14038499290221905432:A:=a
theorem tw5704067408853830638:A:=a
theorem tw17430172296267866473:A:=a
theorem tw17893470850464260695:A:=a
theorem tw5674139376804556877:A:=a
theorem tw2321588590728050619:A:=a
theorem tw4619613231702136234:A:=a
theorem tw7392389594622212355:A:=a
theorem tw15578422440202628055:A:=a
theorem tw10023252564957554768:A:=a
theorem tw12880401877933874383:A:=a
theorem tw14334333577194469384:A:=a
theorem tw2568209208375197567:A:=a
theorem tw2255322409894896172:A:=a
theorem tw11815832474236175933:A:=a
theorem tw8784811936428860843:A:=a
theorem tw10435125470211982211:A:=a
theorem tw17982150408674915626:A:=a
theorem tw3518495848792287595:A:=a
theorem tw6829032189012405663:A:=a
theorem tw97598908568273741:A:=a
theorem tw10525257012444410684:A:=a
theorem tw4559334688908508196:A:=a
theorem tw18418584412570770136:A:=a
theorem tw2549465324399690543:A:=a
theorem tw14023618933360321837:A:=a
theorem tw14328085593885353484:A:=a
theorem tw7055835803388104389:A:=a
theorem tw2382124923678547637:A:=a
theorem tw17745314351862049441:A:=a
theorem tw13979095476656273860:A:=a
theorem tw15141244342238479416:A:=a
theorem tw17623583357812262486:A:=a
theorem tw2363192134983249487:A:=a
theorem tw16865831924258348284:A:=a
theorem tw2026320460041481854:A:=a
theorem tw16727901544901290320:A:=a
theorem tw10209208245100200373:A:=a
theorem tw13741310807496088354:A:=a
theorem tw16655622855318892193:A:=a
theorem tw17876103746015158040:A:=a
theorem tw15601378019038121527:A:=a
theorem tw16199729413904042066:A:=a
theorem tw1794245615112768560:A:=a
theorem tw17987817603036911250:A:=a
theorem tw17248873541175563048:A:=a
theorem tw11391420126514585700:A:=a
theorem tw2396134122763083116:A:=a
theorem tw12721177075534418369:A:=a
end PySem.W.Fast
open PySem PySem.W PyProof.Rows
set_option maxRecDepth 100000 in
set_option maxHeartbeats 0 in
theorem PySem.Challenge.cw_jettison_k30_whole_hold_by_a_plain_book_holds : PySem.Challenge.rw_jettison_k30_whole_hold_by_a_plain_book.Holds := by
 w_on;o_law;k_head;(case hw=>w_witness2)
 k_fill
 refine Law.walk (l:=PySem.Challenge.rw_jettison_k30_whole_hold_by_a_plain_book) rfl rfl (fun w h Y=>PySem.W.kIn_of Y) ?F
 case F=>
  intro w mg fa h KX G hmg
  refine' Law.all_mk KX G hmg ?_ ?_ ?_ ?_ ?_ ?_ ?_ ?_ ?_ ?_ ?_ ?_ ?_ ?_ ?_ ?_ ?_ ?_ ?_ ?_ ?_ ?_ ?_ ?_ ?_ ?_ ?_ ?_ ?_ ?_ ?_ ?_ ?_ ?_ ?_ ?_ ?_ ?_ ?_ ?_ ?_ ?_ ?_ ?_ ?_ ?_ ?_ ?_ ?_ ?_ ?_ ?_ ?_ ?_ ?_ ?_ ?_ ?_ ?_ ?_ ?_ ?_ ?_ ?_ ?_ ?_ ?_ ?_ ?_ ?_ ?_ ?_ ?_ ?_ ?_ ?_ ?_ ?_ ?_ ?_ ?_ ?_ ?_ ?_ ?_ ?_ ?_ ?_ ?_ ?_ ?_ ?_ ?_ ?_ ?_ ?_ ?_ ?_ ?_ ?_ ?_ ?_ ?_ ?_ ?_ ?_ ?_ ?_ ?_ ?_ ?_ ?_ ?_ ?_ ?_ ?_ ?_ ?_
  any_goals first|(refine' L2.dw.of ?a ?l ?c ?k;(case a=>k_is);(case l=>k_is);(case c=>k_is);(case k=>k_is))|(refine' L2.dM.of ?a ?i ?l ?c ?k;(case a=>k_is);(case i=>k_is);(case l=>k_is);(case c=>k_is);(case k=>k_is))|k_is
