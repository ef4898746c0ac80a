import PyProof.Rows.All
import Wide.All
import OpenK.AllK
import Wide.FinOn
import Lean
import PyProof.EqAt
import PyProof.EqKinds
import PyProof.TupleCall
import PySem.Challenge.RW_jettison_k38_whole_times_so_many
set_option Elab.async false
set_option bootstrap.genMatcherCode false
set_option genSizeOf false
set_option genSizeOfSpec false
set_option linter.all false
set_option maxRecDepth 100000
local macro_rules|`(tactic|omega)=>`(tactic|lia)
abbrev Fg:=PySem.W.Frag
abbrev VS:=PySem.Value->PySem.Shared->Prop
abbrev AO:=List (PySem.Addr×PySem.Obj)
abbrev SO:=PySem.Str->Option PySem.Value
set_option autoImplicit true
def UX:=@PySem.F.slot_dict_valueiterator_next
def Qi:=@Int.mul_le_mul_of_nonneg_right
def HK:=@Int.mul_le_mul_of_nonneg_left
def UY:=@PySem.wpAny_typeNameOfWhole_keyiter
def UZ:=@PySem.wpAny_typeNameOfWhole_valiter
def U0:=@PySem.F.slot_dict_keyiterator_next
def Qj:=@PyProof.Rows.callWith_type1
def ym:=@List.idxOf_lt_length_of_mem
def U1:=@Int.ediv_eq_of_eq_mul_right
def HL:=@List.getElem?_append_right
def iK:=@List.getD_eq_getElem?_getD
def N_:=@PySem.F.slot_tuple_iterator_next
def Oa:=@List.length_eraseIdx_of_lt
def dS:=@List.getElem?_eq_some_iff
def DB:=@List.getElem?_append_left
def Ob:=@List.mem_or_eq_of_mem_set
def bu:=@List.getElem?_eq_getElem
def Oc:=@PySem.wpAny_typeNameOf_keyiter
def Od:=@PySem.wpAny_typeNameOf_valiter
def DC:=@Int.mul_ediv_cancel_left
def m7:=@PySem.F.slot_list_append
def m8:=@PySem.F.type_list_append
def wH:=@PySem.wpAny_callSpecial?_slot
def m9:=@PySem.F.plainAttrs_list
def pQ:=@List.getElem?_set_self
def b7:=@PySem.Heap.get?_push_of_some
def lW:=@Option.map_eq_some_iff
def Oe:=@List.take_of_length_le
def vj:=@List.zipWith_cons_cons
def Of:=@PySem.Calls.callWith_builtin
def Og:=@PyProof.Rows.boot_list
def jn:=@List.mem_append_right
def nX:=@List.length_replicate
def Oh:=@PySem.Heap.get?_update_self
def wI:=@List.getElem?_eq_none
def Oi:=@PySem.wpAny_isOneOf_valiter
def Oj:=@List.getElem?_zipWith
def DE:=@PyProof.Rows.boot_sum
def Ol:=@PyProof.Rows.boot_min
def cC:=@List.mem_cons_of_mem
def AD:=@List.mem_append_left
def yo:=@List.getElem?_set_ne
def bX:=@List.mem_of_getElem?
def lX:=@Bool.and_eq_true_iff
def Om:=@PySem.intBits_le_iff
def DF:=@beq_eq_false_iff_ne
def HM:=@List.filterMap_cons
def d_:=@PySem.Heap.get?_push_size
def wJ:=@PySem.mem_of_lookup
def AE:=@List.replicate_succ
def DG:=@Bool.or_eq_true_iff
def DH:=@PySem.Heap.SameBut.update
def kU:=@List.length_zipWith
def HN:=@List.filter_eq_self
def m_:=@List.map_congr_left
def wK:=@List.getElem_of_mem
def kD:=@Nat.lt_of_lt_of_le
def cL:=@List.mem_cons_self
def DI:=@List.mem_filterMap
def fM:=@Bool.false_ne_true
def HP:=@PySem.wpAny_Call_Name_kw
def dg:=@List.length_append
def Oo:=@PySem.tupleKind_room_in1
def HQ:=@Nat.lt_of_le_of_lt
def fV:=@List.mem_singleton
def yp:=@Int.emod_lt_of_pos
def HR:=@Bool.false_eq_true
def DJ:=@PySem.Obj.data_mapFields
def DK:=@PySem.wpAny_setField_rec
def HU:=@List.set_cons_succ
def Oq:=@List.set_cons_zero
def Ot:=@PySem.F.slot_dict_values
def tG:=@of_decide_eq_false
def pR:=@PySem.W.mg_none_of
def Ou:=@PySem.wpAny_pyIter_list
def cg:=@List.getElem?_map
def gH:=@List.size_toArray
def rM:=@Int.toNat_natCast
def pS:=@PySem.wpAny_newObj_type
def Ov:=@List.flatten_cons
def Ow:=@List.append_assoc
def aZ:=@of_decide_eq_true
def Ox:=@Nat.lt_succ_of_lt
def DL:=@PySem.wpAny_truthy_bool
def Oz:=@List.length_range
def OA:=@PySem.wpAny_dictEntries
def DM:=@List.foldl_append
def OB:=@List.getElem?_inj
def pT:=@Bool.eq_false_iff
def jP:=@List.length_cons
def nY:=@List.length_take
def wL:=@PySem.wpAny_call_entry
def AF:=@Bool.and_eq_true
def OC:=@List.cons_append
def ia:=@List.filter_cons
def DN:=@beq_self_eq_true
def vm:=@Nat.le_add_right
def nZ:=@List.lookup_cons
def tH:=@List.all_eq_true
def yq:=@List.getElem_mem
def cK:=@List.take_length
def cV:=@decide_eq_false
def fH:=@Option.some.inj
def wM:=@List.mem_filter
def gi:=@List.mem_append
def zK:=@Bool.eq_iff_iff
def aE:=@List.length_map
def n5:=@PySem.W.kia_one
def BA:=@List.append_nil
def gI:=@List.nodup_cons
def BB:=@List.of_mem_zip
def iw:=@List.length_set
def kH:=@List.foldl_cons
def Hs:=@List.nil_append
def sP:=@List.find?_cons
def Ht:=@Option.map_some
def bM:=@List.map_append
def n_:=@Int.emod_nonneg
def Hu:=@Int.ediv_nonneg
def Hv:=@List.forIn_cons
def Hw:=@PySem.pushCells_keeps
def Hx:=@PySem.wpAny_dictEpoch
def Hy:=@PySem.F.slot_zip_next
def wN:=@PySem.wpAny_passesOwn
def Hz:=@PySem.wpAny_execs_nil
def f_:=@PySem.PassesOwn.never
def qy:=@List.mem_range
def lH:=@PySem.Heap.size_push
def a_:=@decide_eq_true
def BC:=@Int.natAbs_mul
def BD:=@List.forIn_nil
def uK:=@PySem.wpAny_fieldsOf
def zL:=@PySem.wpAny_setField
def uL:=@PySem.wpAny_seqItems
def uM:=@List.nodup_nil
def oh:=@Int.mul_nonneg
def gb:=@PySem.boot_len
def jw:=@Nat.lt_irrefl
def bP:=@List.mem_cons
def bH:=@List.map_cons
def zM:=@PySem.wpAny_holding
def BE:=@List.any_cons
def qz:=@PySem.W.mg_of
def c5:=@List.sum_cons
def BF:=@PySem.wpAny_standAt
def gY:=@Int.mul_assoc
def bQ:=@PySem.Heap.lt_size
def fq:=@Nat.ne_of_lt
def fT:=@Nat.le_trans
def BG:=@Nat.le_of_lt
def zN:=@Nat.ne_of_gt
def BH:=@PySem.codeAny_mono
def zO:=@Int.ediv_one
def bJ:=@List.mem_map
def BI:=@Int.lt_or_le
def uN:=@List.set_set
def wO:=@Nat.min_self
def c6:=@List.map_map
def BJ:=@Nat.sub_self
def qA:=@Int.mul_comm
def uO:=@Int.zero_mul
def oj:=@List.map_set
def BK:=@Int.le_of_lt
def qB:=@Sum.inr.inj
def zP:=@Int.mul_one
def aK:=@Nat.le_refl
def gj:=@Nat.zero_le
def jQ:=@PySem.sizeLine_eq
def zQ:=@Nat.le_succ
def jR:=@PySem.wpAny_field
def kI:=@Int.le_refl
def uP:=@Int.mul_add
def oq:=@Int.add_mul
def jd:=@PySem.wpAny_mono
def aL:=@PySem.wpAny_pure
def au:=@PySem.wpAny_bind
def mK:=@beq_iff_eq
def jx:=@congrArg
def ou:=@if_false
def cO:=@Ne.symm
def aB:=@if_pos
def aA:=@if_neg
theorem Z {α:Sort _} {a:α}:a=a:=rfl
namespace L2
open PySem PySem.Spec PyProof.Rows
abbrev Key:=Sum Int Str
def wQ:Key->Value->Bool
 | .inl k,v=>Value.isInt k v
 | .inr x,v=>Value.isStrOf x v
def aeJ (w:World):Key->Int
 | .inl k=>hashInt k
 | .inr x=>hashStr w x
theorem gh:∀{k:Key} {v:Value},wQ k v=true->(∃i t,k=Sum.inl i/\v=Value.int i t)\/(∃x t,k=Sum.inr x/\v=Value.str x t)
 | .inl i,v,h=>by
   obtain ⟨t,e⟩:=Value.isInt_shape (k:=i) (v:=v) h
   exact .inl ⟨i,t,Z,e⟩
 | .inr x,v,h=>by
   obtain ⟨t,e⟩:=Value.isStrOf_shape (x:=x) (v:=v) h
   exact .inr ⟨x,t,Z,e⟩
theorem Qk (i:Int) (t:Tok):wQ (.inl i) (.int i t)=true:=by simp [wQ,Value.isInt]
theorem Ql (x:Str) (t:Tok):wQ (.inr x) (.str x t)=true:=by simp [wQ,Value.isStrOf]
theorem XH (a b:Int):decide ((Sum.inl a:Key)=Sum.inl b)=(a==b):=by
 by_cases e:a=b
 . subst e;simp
 . have h:¬ (Sum.inl a:Key)=Sum.inl b:=fun q=>e (Sum.inl.inj q)
   rw [cV h]
   exact (DF.mpr e).symm
theorem XI (a b:Str):decide ((Sum.inr a:Key)=Sum.inr b)=decide (a=b):=by
 by_cases e:a=b
 . subst e;simp
 . have h:¬ (Sum.inr a:Key)=Sum.inr b:=fun q=>e (qB q)
   rw [cV h,cV e]
theorem XJ (a:Int) (b:Str):decide ((Sum.inl a:Key)=Sum.inr b)=false:=cV (fun q=>nomatch q)
theorem XM (a:Str) (b:Int):decide ((Sum.inr a:Key)=Sum.inl b)=false:=cV (fun q=>nomatch q)
def cM (prog:Program) (w:World):PySem.KeyKind prog w Key where
 is:=wQ
 hash:=aeJ w
 inj:=fun v a b ha hb=>by
  rcases gh ha with ⟨i,t,rfl,rfl⟩|⟨x,t,rfl,rfl⟩
  . rcases gh hb with ⟨j,u,rfl,e⟩|⟨y,u,rfl,e⟩
    . injection e with e1 _;rw [e1]
    . exact nomatch e
  . rcases gh hb with ⟨j,u,rfl,e⟩|⟨y,u,rfl,e⟩
    . exact nomatch e
    . injection e with e1 _;rw [e1]
 byValue:=fun k v h=>by
  rcases gh h with ⟨i,t,rfl,rfl⟩|⟨x,t,rfl,rfl⟩ <;> rfl
 pyHash:=fun hv h=>by
  rcases gh hv with ⟨i,t,rfl,rfl⟩|⟨x,t,rfl,rfl⟩
  . exact wpAny_pyHash_int h
  . exact wpAny_pyHash_str h
 eqBool:=fun hu hv h=>by
  rcases gh hu with ⟨i,t,rfl,rfl⟩|⟨x,t,rfl,rfl⟩
  . rcases gh hv with ⟨j,u,rfl,rfl⟩|⟨y,u,rfl,rfl⟩
    . rw [XH] at h;exact wpAny_eqBool_int h
    . rw [XJ] at h;exact SeqAt.EqAt.int_str i t y u _ _ _ _ h
  . rcases gh hv with ⟨j,u,rfl,rfl⟩|⟨y,u,rfl,rfl⟩
    . rw [XM] at h;exact SeqAt.EqAt.str_int x t j u _ _ _ _ h
    . rw [XI] at h;exact wpAny_eqBool_str h
 «strs»:=fun k x t v h=>by
  rcases gh h with ⟨i,u,rfl,e⟩|⟨y,u,rfl,e⟩
  . exact nomatch e
  . injection e with e1 _
    subst e1
    cases v <;> rfl
theorem OD (prog:Program) (w:World) (k:Key) (v:Value):(cM prog w).is k v=wQ k v:=rfl
theorem Lp (prog:Program) (w:World) (i:Int) (t:Tok):(cM prog w).is (.inl i) (.int i t)=true:=Qk i t
theorem Lq (prog:Program) (w:World) (x:Str) (t:Tok):(cM prog w).is (.inr x) (.str x t)=true:=Ql x t
inductive V where
 | bU|bl (b:Bool)|int (i:Int)|str (x:Str)|x8 (b:Array UInt8)|HV (b:UInt64)|ref (a:Addr)|ty (n:String)
 deriving DecidableEq
def RelV:V->Value->Prop
 | .bU,u=>u=Value.none
 | .bl b,u=>u=Value.bool b
 | .int i,u=>∃t,u=Value.int i t
 | .str x,u=>∃t,u=Value.str x t
 | .x8 b,u=>∃t,u=Value.bytes b t
 | .HV b,u=>∃t,u=Value.float b t
 | .ref a,u=>u=Value.ref a
 | .ty n,u=>u=Value.type n
abbrev Vals:List V->List Value->Prop:=Paired RelV
variable {xs:List V} {us:List Value}
theorem Vals.length (r:Vals xs us):xs.length=us.length:=Paired.length r
theorem Vals.get:∀{xs:List V} {us:List Value} {i:Nat} {x:V},Vals xs us->xs[i]?=some x->∃u,us[i]?=some u/\RelV x u
 | _,_,_,_, .nil,e=>by simp at e
 | _,_,0,_, .cons r _,e=>by simp at e;subst e;exact ⟨_,Z,r⟩
 | _,_,i+1,x, .cons _ t,e=>by
   obtain ⟨u,h1,h2⟩:=Vals.get (i:=i) (x:=x) t (by simpa using e)
   exact ⟨u,by simpa using h1,h2⟩
theorem Vals.set {x:V} {u:Value} (r:RelV x u):∀{xs:List V} {us:List Value} (i:Nat),Vals xs us->Vals (xs.set i x) (us.set i u)
 | _,_,_, .nil=> .nil
 | _,_,0, .cons _ t=> .cons r t
 | _,_,i+1, .cons q t=> .cons q (Vals.set r i t)
theorem Vals.append:∀{xs ys:List V} {us ws:List Value},Vals xs us->Vals ys ws->Vals (xs++ys) (us++ws)
 | _,_,_,_, .nil,s=>s
 | _,_,_,_, .cons r t,s=> .cons r (Vals.append t s)
theorem Vals.take:∀{xs:List V} {us:List Value} (n:Nat),Vals xs us->Vals (xs.take n) (us.take n)
 | _,_,0,_=> .nil
 | _,_,_+1, .nil=> .nil
 | _,_,n+1, .cons r t=> .cons r (Vals.take n t)
theorem Vals.drop:∀{xs:List V} {us:List Value} (n:Nat),Vals xs us->Vals (xs.drop n) (us.drop n)
 | _,_,0,r=>r
 | _,_,_+1, .nil=> .nil
 | _,_,n+1, .cons _ t=>Vals.drop n t
def lY:Option V->Option Value->Prop
 | some v,some u=>RelV v u
 | none,none=>True
 | _,_=>False
def KV {κ:Type}:List (κ×V)->List (κ×Value)->Prop:=Paired fun (p:κ×V) (q:κ×Value)=>p.1=q.1/\RelV p.2 q.2
def kV:Key->V
 | .inl i=> .int i
 | .inr x=> .str x
inductive HO where
 | lst (xs:List V)
 | tup (xs:List V)
 | dK (kvs:List (Key×V))|dT (kvs:List (List Key×V))
 | set (S:Int->Bool) (n:Nat)
 | ins (C dx:Addr) (fs:List (Str×V))
 | own (x:Addr)
 | xd (fs:List (Str×V))
 | met (f x:Addr)
 | uQ (lo hi:Int)
 | eX (o:Obj) (u:HO)
 | EM (ps:Array Value)
 | ext (φ:Heap->Prop)
abbrev Hp:=Addr->Option HO
def upd (H:Hp) (a:Addr) (o:HO):Hp:=fun b=>if b=a then some o else H b
variable {H:Hp} {a:Addr} {o:HO}
theorem ah:upd H a o a=some o:=by unfold upd;rw [aB rfl]
variable {b:Addr}
theorem az (h:b≠a):upd H a o b=H b:=by unfold upd;rw [aA h]
theorem nK {u:HO}:upd (upd H a o) a u=upd H a u:=by
 funext b;unfold upd;split <;> rfl
theorem iX {u:HO} (h:H a=some o) (h':H b=some u) (d:o≠u):a≠b:=by
 intro e;subst e;rw [h] at h';exact d (fH h')
theorem aF (h:H a=some o) (h':H b=none):a≠b:=by
 intro e;subst e;rw [h] at h';cases h'
section
variable (P:Program) (w:World)
def dI (H:Hp) (h:Heap) (a:Addr):HO->Prop
 | .lst xs=>xs.length<=sizeLine/\∃(its:List Value) (n:Nat),Vals xs its/\h.get? a=some { cls:= .type "list",data:= .seq its.toArray n }
 | .tup xs=>xs.length<=sizeLine/\∃its:List Value,Vals xs its/\IsTup h a its.toArray
 | .dK kvs=>kvs.length<=sizeLine/\(a==sysModules)=false/\∃vs,KV kvs vs/\h.DictOf (cM P w) a vs
 | .dT kvs=>kvs.length<=sizeLine/\(a==sysModules)=false/\∃xs:List (List Key×Addr×Value),
     Paired (fun (p:List Key×V) (q:List Key×Addr×Value)=>p.1=q.1/\H q.2.1=some (.tup (p.1.map kV))/\RelV p.2 q.2.2) kvs xs/\
     ∃o es ep,h.get? a=some o/\o.ExactDict/\o.data = .dict es ep/\es.toList=xs.map (entryOfKey (tupleKind (cM P w)))/\(xs.map (·.1)).Nodup
 | .set S n=>h.SetOf (intKind P w) a S n
 | .ins C dx fs=>H dx=some (.own a)/\fs.length<=1000/\dx≠a/\h.get? a=some (PySem.W.instObj C dx)/\
     ∃mA,h.Ns1 dx mA/\(∀f,lY (fs.lookup f) (mA f))/\PySem.Within mA (fs.map (·.1))
 | .own _=>∃o,h.get? a=some o
 | .xd fs=>∃mA,h.Ns1 a mA/\∀f,lY (fs.lookup f) (mA f)
 | .uQ lo hi=>∃t u v,h.get? a=some { cls:= .type "range",data:= .fields #[.int lo t, .int hi u, .int 1 v] }
 | .eX o u=>h.get? a=some o/\dI H h a u
 | .EM ps=>h.get? a=some { cls:= .none,data:= .fields ps }
 | .met f x=>h.get? a=some (PySem.W.methodObj (.ref f) (.ref x))
 | .ext φ=>φ h/\(∃o,h.get? a=some o)/\∀h1 h2:Heap,φ h1->(∀o,h1.get? a=some o->h2.get? a=some o)->φ h2
def gU (H:Hp) (h:Heap):Prop:=∀a o,H a=some o->dI P w H h a o
end
section
variable {P:Program} {w:World} {H H':Hp} {h h':Heap} {a:Addr} {o:HO}
theorem dI.lt (x:dI P w H h a o):a<h.objs.size:=by
 cases o with
 | lst xs=>obtain ⟨_,_,_,_,e⟩:=x;exact bQ e
 | tup xs=>obtain ⟨_,_,_,p⟩:=x;exact p.lt
 | dK kvs=>obtain ⟨_,_,_,_,o,_,_,e,_⟩:=x;exact bQ e
 | dT kvs=>obtain ⟨_,_,_,_,o,_,_,e,_⟩:=x;exact bQ e
 | set S n=>obtain ⟨o,_,_,_,e,_⟩:=x;exact bQ e
 | ins C dx fs=>obtain ⟨_,_,_,e,_⟩:=x;exact bQ e
 | own y=>obtain ⟨_,e⟩:=x;exact bQ e
 | xd fs=>obtain ⟨_,⟨_,_,_,e,_⟩,_⟩:=x;exact bQ e
 | uQ lo hi=>obtain ⟨_,_,_,e⟩:=x;exact bQ e
 | eX ob u=>obtain ⟨e,_⟩:=x;exact bQ e
 | EM ps=>exact bQ (show h.get? a=some _ from x)
 | met f y=>exact bQ (show h.get? a=some _ from x)
 | ext φ=>obtain ⟨_,⟨_,e⟩,_⟩:=x;exact bQ e
theorem Paired.SM {α β:Type} {F G:α->β->Prop}:∀{l₁:List α} {l₂:List β},Paired F l₁ l₂->(∀a b,F a b->G a b)->Paired G l₁ l₂
 | _,_, .nil,_=> .nil
 | _,_, .cons r t,f=> .cons (f _ _ r) (Paired.SM t f)
theorem dI.stay (x:dI P w H h a o) (k:∀b u,(b=a\/H b=some (.own a))->h.get? b=some u->h'.get? b=some u)
  (ho:∀b,H b=some (.own a)->H' b=some (.own a)) (ht:∀b xs,H b=some (.tup xs)->H' b=some (.tup xs)):dI P w H' h' a o:=by
 induction o with
 | lst xs=>obtain ⟨z,its,n,r,e⟩:=x;exact ⟨z,its,n,r,k _ _ (.inl rfl) e⟩
 | tup xs=>obtain ⟨z,its,r,ob,e,c⟩:=x;exact ⟨z,its,r,ob,k _ _ (.inl rfl) e,c⟩
 | dK kvs=>obtain ⟨z,y,vs,r,ob,es,ep,e,c⟩:=x;exact ⟨z,y,vs,r,ob,es,ep,k _ _ (.inl rfl) e,c⟩
 | dT kvs=>
   obtain ⟨z,y,xs,r,ob,es,ep,e,c⟩:=x
   exact ⟨z,y,xs,Paired.SM r fun p q z=>⟨z.1,ht _ _ z.2.1,z.2.2⟩,ob,es,ep,k _ _ (.inl rfl) e,c⟩
 | set S n=>obtain ⟨ob,es,ep,t,e,c⟩:=x;exact ⟨ob,es,ep,t,k _ _ (.inl rfl) e,c⟩
 | ins C dx fs=>
   obtain ⟨d,z,ne,e,mA,⟨od,es,ep,e2,c⟩,r⟩:=x
   exact ⟨ho _ d,z,ne,k _ _ (.inl rfl) e,mA,⟨od,es,ep,k _ _ (.inr d) e2,c⟩,r⟩
 | own y=>obtain ⟨ob,e⟩:=x;exact ⟨ob,k _ _ (.inl rfl) e⟩
 | xd fs=>obtain ⟨mA,⟨od,es,ep,e,c⟩,r⟩:=x;exact ⟨mA,⟨od,es,ep,k _ _ (.inl rfl) e,c⟩,r⟩
 | uQ lo hi=>obtain ⟨t,u,v,e⟩:=x;exact ⟨t,u,v,k _ _ (.inl rfl) e⟩
 | eX ob u ih=>obtain ⟨e,q⟩:=x;exact ⟨k _ _ (.inl rfl) e,ih q⟩
 | EM ps=>
   have e:h.get? a=some { cls:= .none,data:= .fields ps }:=x
   show h'.get? a=some { cls:= .none,data:= .fields ps }
   exact k a _ (.inl rfl) e
 | met f y=>
   have e:h.get? a=some (PySem.W.methodObj (.ref f) (.ref y)):=x
   show h'.get? a=some (PySem.W.methodObj (.ref f) (.ref y))
   exact k a _ (.inl rfl) e
 | ext φ=>obtain ⟨p,⟨o,e⟩,st⟩:=x;exact ⟨st _ _ p fun o q=>k _ _ (.inl rfl) q,⟨o,k _ _ (.inl rfl) e⟩,st⟩
theorem gU.lt (x:gU P w H h) (e:H a=some o):a<h.objs.size:=(x a o e).lt
theorem gU.fresh (x:gU P w H h) (e:h.objs.size<=a):H a=none:=by
 cases q:H a with
 | none=>rfl
 | some u=>exact absurd (kD (x.lt q) e) (jw _)
theorem gU.kept (x:gU P w H h) (k:∀b u,h.get? b=some u->h'.get? b=some u):gU P w H h':=fun a o e=>
 (x a o e).stay (fun b u _ q=>k b u q) (fun _ q=>q) fun _ _ q=>q
theorem gU.laid (x:gU P w H h) (k:∀b u,h.get? b=some u->h'.get? b=some u) (hp:h.objs.size<=a) (new:dI P w (upd H a o) h' a o):gU P w (upd H a o) h':=fun b u e=>by
 have hn:=x.fresh hp
 by_cases hb:b=a
 . subst hb;rw [ah] at e;cases e;exact new
 . rw [az hb] at e
   exact (x b u e).stay (fun c v _ q=>k c v q) (fun c q=>by rw [az (aF q hn)];exact q) fun c xs q=>by rw [az (aF q hn)];exact q
end
def Rd (H:Hp) (a:Addr) (u:HO):Prop:=H a=some u\/∃o,H a=some (.eX o u)
variable {P:Program} {h:Heap}
theorem Rd.ok {w:World} {u:HO} (r:Rd H a u) (x:gU P w H h):dI P w H h a u:=by
 rcases r with r|⟨o,r⟩
 . exact x a u r
 . obtain ⟨_,q⟩:=x a _ r
   exact q
def Qm:Option HO->Prop
 | some (.lst _)=>True
 | some (.dK _)=>True
 | some (.dT _)=>True
 | some (.set _ _)=>True
 | some (.ins _ _ _)=>True
 | some (.ext _)=>True
 | _=>False
section
variable {P:Program} {w:World} {H:Hp} {h h':Heap} {x e:Addr} {o':HO}
theorem gU.write (ok:gU P w H h) (mu:Qm (H x)) (he:e=x\/H e=some (.own x)) (k:∀b u,b≠e->h.get? b=some u->h'.get? b=some u) (MM:∃u,h'.get? e=some u)
  (new:dI P w (upd H x o') h' x o'):gU P w (upd H x o') h':=fun b u q=>by
 have XO:∀c y,H c=some (.own y)->c≠x:=fun c y r z=>by subst z;rw [r] at mu;exact mu
 have aeK:∀c xs,H c=some (.tup xs)->c≠x:=fun c xs r z=>by subst z;rw [r] at mu;exact mu
 by_cases hb:b=x
 . subst hb;rw [ah] at q;cases q;exact new
 . rw [az hb] at q
   by_cases HW:b=e
   . have q':H b=some (.own x):=by
      rcases he with z|z
      . exact absurd (HW.trans z) hb
      . rw [HW];exact z
     rw [q] at q';cases q'
     obtain ⟨v,hv⟩:=MM
     exact ⟨v,by rw [HW];exact hv⟩
   . refine (ok b u q).stay (fun c v hc r=>k c v ?_ r) (fun c r=>by rw [az (XO c b r)];exact r) fun c xs r=>by rw [az (aeK c xs r)];exact r
     rcases hc with rfl|hc
     . exact HW
     . rintro rfl
       rcases he with z|z
       . exact XO c b hc z
       . rw [hc] at z;cases z;exact hb rfl
end
structure Un (fs ex:List Addr) (H H':Hp) (h h':Heap):Prop where
 keep:∀b o,h.get? b=some o->H b=none->b∉fs->b∉ex->h'.get? b=some o
 slot:∀b o,h.get? b=some o->H b=none->b∈fs->b∉ex->∃sl,h'.get? b=some { o with slots:=sl }
 free:∀b o,h.get? b=some o->H b=none->b∉ex->H' b=none
 there:∀b o,h.get? b=some o->b∉ex->∃o',h'.get? b=some o'
 tups:∀b xs,H b=some (.tup xs)->H' b=some (.tup xs)
 pU:∀b o u,H b=some (.eX o u)->H' b=some (.eX o u)
 tK:∀b ps,H b=some (.EM ps)->∃more,H' b=some (.EM (ps++more))
section
variable {fs fs' ex ex':List Addr} {H H1 H2:Hp} {h h1 h2 h':Heap} {a x e:Addr} {o:HO}
theorem Un.any (u:Un fs ex H H1 h h1) (q:h.get? b=some ob) (n:H b=none) (hx:b∉ex):∃sl,h1.get? b=some { ob with slots:=sl }:=by
 by_cases hb:b∈fs
 . exact u.slot b ob q n hb hx
 . exact ⟨ob.slots,u.keep b ob q n hb hx⟩
theorem Un.kept (k:∀b u,h.get? b=some u->h'.get? b=some u):Un fs ex H H h h':=
 ⟨fun b ob q _ _ _=>k b ob q,fun b ob q _ _ _=>⟨ob.slots,k b ob q⟩,fun _ _ _ n _=>n,fun b ob q _=>⟨ob,k b ob q⟩,fun _ _ q=>q,fun _ _ _ q=>q,fun _ ps q=>⟨#[],by rw [q];simp⟩⟩
theorem Un.refl:Un fs ex H H h h:=Un.kept fun _ _ q=>q
theorem Un.laid (k:∀b u,h.get? b=some u->h'.get? b=some u) (hp:h.objs.size<=a) (hn:H a=none):Un fs ex H (upd H a o) h h' where
 keep:=fun b u q _ _ _=>k b u q
 slot:=fun b u q _ _ _=>⟨u.slots,k b u q⟩
 free:=fun b u q n _=>by rw [az (fq (kD (bQ q) hp))];exact n
 there:=fun b u q _=>⟨u,k b u q⟩
 tups:=fun b xs q=>by rw [az (aF q hn)];exact q
 pU:=fun b u xs q=>by rw [az (aF q hn)];exact q
 tK:=fun b ps q=>⟨#[],by rw [az (aF q hn),q];simp⟩
theorem Un.write (mu:Qm (H x)) (he:e=x\/H e=some (.own x)) (k:∀b u,b≠e->h.get? b=some u->h'.get? b=some u) (MM:∃u,h'.get? e=some u):Un fs ex H (upd H x o) h h':=by
 have hx:∀b,H b=none->b≠x:=fun b n z=>by subst z;rw [n] at mu;exact mu
 have hb:∀b,H b=none->b≠e:=fun b n z=>by
  subst z
  rcases he with r|r
  . exact hx b n r
  . rw [n] at r;cases r
 have hm:∀b u,H b=some u->¬ Qm (some u)->b≠x:=fun b u q nm z=>by subst z;rw [q] at mu;exact nm mu
 refine ⟨fun b u q n _ _=>k b u (hb b n) q,fun b u q n _ _=>⟨u.slots,k b u (hb b n) q⟩,fun b u q n _=>by rw [az (hx b n)];exact n,fun b u q _=>?_,
  fun b xs q=>by rw [az (hm b _ q fun z=>z)];exact q,fun b u xs q=>by rw [az (hm b _ q fun z=>z)];exact q,fun b ps q=>⟨#[],by rw [az (hm b _ q fun z=>z),q];simp⟩⟩
 by_cases HW:b=e
 . subst HW;exact MM
 . exact ⟨u,k b u HW q⟩
end
def U3 (h:Heap) (H:Hp):List Addr:=(List.range h.objs.size).filter fun a=>(H a).isSome
def wR (h:Heap) (H:Hp):Heap:=PySem.W.hideAll h (U3 h H)
theorem Qn (h:Heap) (H:Hp):(wR h H).objs.size=h.objs.size:=PySem.W.hideAll_size _ _
theorem SN {o:Obj} (e:h.get? b=some o) (n:H b=none):(wR h H).get? b=some o:=
 PySem.W.hideAll_get _ e fun hm=>by
  have q:(H b).isSome=true:=(wM.mp hm).2
  rw [n] at q;simp at q
theorem V5 {o:Obj} (e:(wR h H).get? b=some o):h.get? b=some o/\H b=none:=by
 have e':h.get? b=some o:=PySem.W.of_hideAll (U3 h H) e
 refine ⟨e',?_⟩
 cases q:H b with
 | none=>rfl
 | some x=>
   have hm:b∈U3 h H:=wM.mpr ⟨qy.mpr (bQ e'),by simp [q]⟩
   have z:(wR h H).get? b=none:=PySem.W.hideAll_none (U3 h H) hm
   rw [z] at e;cases e
structure Mod (K:Fg) (mg:SO) (base:Heap):Prop where
 Qo:K.In base
 glob:base.Ns mainGlobals mg
 blt:∃mb,base.Ns builtinsNs mb/\∀x:Str,x ≠ "__name__"->mb x=bootBuiltins x
 nolimit:base.NoLimit
structure Cx where
 prog:Program
 w:World
 K:Fg
 mg:Str->Option Value
 base:Heap
 A:Around
 N:List Str
 s₀:Shared
 H₀:Hp
 env:Env
 outer:List Env
 stack:List Env
 ex:List Addr
 fn:Str->Bool
 calm:Bool
 pn:List (Addr×Obj)
 xe:Value->Shared->Prop
def frs (l:List Env):List Addr:=l.filterMap (·.frame)
abbrev Cx.fs (X:Cx):List Addr:=frs X.outer
def U4 (sc:Scope) (x:Str):Prop:=sc.names.lookup x=some .local\/sc.names.lookup x=some .cell\/sc.names.lookup x=some .free
def Loc (sc:Scope) (x:Str):Prop:=sc.names.lookup x=some .local\/sc.names.lookup x=some .cell
def Look (env:Env) (h:Heap) (m:SO) (x:Str) (u:Value):Prop:=
 (env.kindOf x=some .local/\m x=some u)\/((env.kindOf x=some .cell\/env.kindOf x=some .free)/\∃c,env.cells.lookup x=some c/\h.IsCell c (some u))
structure Cx.Ok (X:Cx):Prop where
 mod:Mod X.K X.mg X.base
 kind:X.env.scope.kind = .function
 glob:X.env.globals=mainGlobals
 blt:X.env.builtins=builtinsNs
 above:X.s₀.heap.objs.size<=X.env.locals
 inj:∀x y c,X.env.cells.lookup x=some c->X.env.cells.lookup y=some c->x=y
 has:∀x,(X.env.kindOf x=some .cell\/X.env.kindOf x=some .free)->∃c,X.env.cells.lookup x=some c
 gc:∀x c,X.fn x=true->X.env.cells.lookup x=some c->X.s₀.heap.objs.size<=c
 hd:X.calm=true->X.A.handled=none
 frames:X.A.frames=some X.stack
 stk:X.stack=X.outer\/(X.stack=X.env::X.outer/\X.env.frame=some X.env.locals)
 MN:∀b∈X.ex,b≠X.env.locals/\∀x c,X.env.cells.lookup x=some c->c≠b
 bs:∀b o,X.base.get? b=some o->X.s₀.heap.get? b=some o/\X.H₀ b=none
 EN:X.base.objs.size<=X.s₀.heap.objs.size
 HX:∀b o,X.base.get? b=some o->b∉X.ex
 DO:∀b∈X.ex,b∉X.fs
 oz:X.s₀.heap.FunFrames X.base X.outer
 HY:∀b∈X.fs,X.H₀ b=none
structure Inv (X:Cx) (pins:AO) (σ:List (Option V)) (H:Hp) (s:Shared):Prop where
 ok:X.Ok
 os:s.os=X.s₀.os
 bare:AllBare s.gens
 base:Un X.fs X.ex X.H₀ H X.s₀.heap s.heap
 loc:∃m,s.heap.Ns X.env.locals m/\∀(i:Nat) (x:Str) (v:V),X.N[i]?=some x->σ[i]?=some (some v)->U4 X.env.scope x->∃u,RelV v u/\Look X.env s.heap m x u
 cell:∀x c,X.env.cells.lookup x=some c->∃v,s.heap.IsCell c v
 free:H X.env.locals=none
 mL:∀x c,X.env.cells.lookup x=some c->H c=none
 pin:∀p∈X.pn++pins,s.heap.get? p.1=some p.2/\H p.1=none/\p.1≠X.env.locals/\p.1∉X.fs/\∀v,p.2.data ≠ .cell v
 hok:gU X.prog X.w H s.heap
 len:σ.length=X.N.length
variable {g':Array GenState} {t' i j:Nat} {ch:List Addr} {it:Addr} {N:List Str} {x:Str} {M:Model} {E:VS} {u:Value} {Q:Unit->Shared->Prop}
section
variable {X:Cx} {pins:AO} {σ:List (Option V)} {H H':Hp} {s:Shared} {h':Heap}
theorem Cx.Ok.aeL (ok:X.Ok) {o:Obj} (e:X.base.get? b=some o):b∉X.fs:=fun hb=>by
 have:=(ok.oz.mem hb).1
 rw [e] at this;cases this
theorem Inv.bs (I:Inv X pins σ H s):∀b o,X.base.get? b=some o->s.heap.get? b=some o/\H b=none:=fun b o e=>
 ⟨I.base.keep b o (I.ok.bs b o e).1 (I.ok.bs b o e).2 (I.ok.aeL e) (I.ok.HX b o e),I.base.free b o (I.ok.bs b o e).1 (I.ok.bs b o e).2 (I.ok.HX b o e)⟩
theorem Inv.bk (I:Inv X pins σ H s):∀b o,X.base.get? b=some o->s.heap.get? b=some o:=fun b o e=>(I.bs b o e).1
theorem Inv.mod (I:Inv X pins σ H s):Mod X.K X.mg X.base:=I.ok.mod
theorem Inv.jA (I:Inv X pins σ H s):X.K.In s.heap:=I.ok.mod.Qo.keeps I.bk
theorem Inv.lt (I:Inv X pins σ H s):X.env.locals<s.heap.objs.size:=let ⟨_,hn,_⟩:=I.loc;hn.lt
theorem Inv.sz (I:Inv X pins σ H s):X.s₀.heap.objs.size<=s.heap.objs.size:=fT I.ok.above (BG I.lt)
theorem Inv.aeM (I:Inv X pins σ H s) (h:s.heap.objs.size<=a):a∉X.fs:=fun hb=>by
 obtain ⟨_,o,ho,_⟩:=I.ok.oz.mem hb
 exact absurd (kD (bQ ho) (fT I.sz h)) (jw _)
theorem Inv.HZ (I:Inv X pins σ H s):∀x c,X.env.cells.lookup x=some c->c≠X.env.locals:=fun x c e z=>by
 obtain ⟨v,o,ho,hd⟩:=I.cell x c e
 obtain ⟨m,⟨o',es,ep,ho',hd',_⟩,_⟩:=I.loc
 rw [z,ho'] at ho;cases ho;rw [hd'] at hd;cases hd
theorem Inv.oz (I:Inv X pins σ H s):s.heap.FunFrames X.base X.outer:=by
 have all:∀(l:List Env),(∀b∈frs l,b∈X.fs)->X.s₀.heap.FunFrames X.base l->s.heap.FunFrames X.base l:=by
  intro l
  induction l with
  | nil=>intro _ _;trivial
  | cons env r ih=>
    intro hs hl
    obtain ⟨hk,⟨L,o,hf,hn,ho,hd⟩,hr⟩:=hl
    have hL:L∈X.fs:=hs L (by unfold frs;rw [HM,hf];exact cL)
    obtain ⟨sl,e⟩:=I.base.slot L o ho (I.ok.HY L hL) hL fun z=>I.ok.DO L z hL
    exact ⟨hk,⟨L,_,hf,hn,e,hd⟩,ih (fun b hb=>hs b (by unfold frs;rw [HM,hf];exact cC _ hb)) hr⟩
 exact all X.outer (fun _ hb=>hb) I.ok.oz
theorem Inv.stack (I:Inv X pins σ H s):s.heap.FunFrames X.base X.stack:=by
 rcases I.ok.stk with e|⟨e,hf⟩
 . rw [e];exact I.oz
 . rw [e]
   obtain ⟨m,hn,_⟩:=I.loc
   refine .cons (by rw [I.ok.kind];decide) hf hn ?_ I.oz
   exact Heap.get?_none_of_le (fT I.ok.EN I.ok.above)
theorem Inv.H_ (I:Inv X pins σ H s):∀b∈frs X.stack,b∈X.env.locals::X.fs:=fun b hb=>by
 rcases I.ok.stk with e|⟨e,hf⟩
 . rw [e] at hb;exact cC _ hb
 . rw [e] at hb
   unfold frs at hb
   rw [HM,hf] at hb
   exact hb
theorem Inv.zR (I:Inv X pins σ H s):∀b∈frs X.stack,H b=none:=fun b hb=>by
 rcases bP.mp (I.H_ b hb) with e|hb
 . rw [e];exact I.free
 . obtain ⟨_,o,ho,_⟩:=I.ok.oz.mem hb
   exact I.base.free b o ho (I.ok.HY b hb) fun z=>I.ok.DO b z hb
theorem Inv.step {d':Drawn} (I:Inv X pins σ H s)
  (hch:∀b∈ch,(b∈X.ex\/X.s₀.heap.objs.size<=b)/\b≠X.env.locals/\(∀x c,X.env.cells.lookup x=some c->c≠b)/\∀p∈X.pn++pins,p.1≠b)
  (keep:∀b o,b≠X.env.locals->b∉X.fs->b∉ch->s.heap.get? b=some o->H b=none->h'.get? b=some o)
  (slot:∀b o,b≠X.env.locals->b∈X.fs->b∉ch->s.heap.get? b=some o->H b=none->∃sl,h'.get? b=some { o with slots:=sl }) (free:∀b o,b∉ch->s.heap.get? b=some o->H b=none->H' b=none)
  (there:∀b o,b∉ch->s.heap.get? b=some o->∃o',h'.get? b=some o')
  (tups:∀b xs,H b=some (.tup xs)->H' b=some (.tup xs)) (pU:∀b o u,H b=some (.eX o u)->H' b=some (.eX o u)) (tK:∀b ps,H b=some (.EM ps)->∃more,H' b=some (.EM (ps++more)))
  (ns:∀m,s.heap.Ns X.env.locals m->h'.Ns X.env.locals m) (hok:gU X.prog X.w H' h') (hg:AllBare g'):
  Inv X pins σ H' { s with heap:=h',gens:=g',drawn:=d',toks:=t' }:=by
 have neL:∀b o,X.s₀.heap.get? b=some o->b≠X.env.locals:=fun b o e=>fq (kD (bQ e) I.ok.above)
 have U5:∀b o,X.s₀.heap.get? b=some o->b∉X.ex->b∉ch:=fun b o e hx hb=>by
  rcases (hch b hb).1 with z|z
  . exact hx z
  . exact absurd (kD (bQ e) z) (jw _)
 have cellK:∀x c,X.env.cells.lookup x=some c->∀v,s.heap.IsCell c v->h'.IsCell c v:=fun x c e v ⟨o,ho,hd⟩=>by
  have vN:c∉ch:=fun z=>(hch c z).2.2.1 x c e rfl
  by_cases hc:c∈X.fs
  . obtain ⟨sl,q⟩:=slot c o (I.HZ x c e) hc vN ho (I.mL x c e)
    exact ⟨_,q,hd⟩
  . exact ⟨o,keep c o (I.HZ x c e) hc vN ho (I.mL x c e),hd⟩
 refine ⟨I.ok,I.os,hg,⟨fun b o e n hb hx=>?_,fun b o e n hb hx=>?_,fun b o e n hx=>?_,fun b o e hx=>?_,fun b xs e=>tups b xs (I.base.tups b xs e),fun b o xs e=>pU b o xs (I.base.pU b o xs e),fun b ps e=>?_⟩,?_,fun x c e=>?_,?_,fun x c e=>?_,fun p hp=>?_,hok,I.len⟩
 . exact keep b o (neL b o e) hb (U5 b o e hx) (I.base.keep b o e n hb hx) (I.base.free b o e n hx)
 . obtain ⟨sl,e1⟩:=I.base.slot b o e n hb hx
   obtain ⟨XQ,e2⟩:=slot b _ (neL b o e) hb (U5 b o e hx) e1 (I.base.free b o e n hx)
   exact ⟨XQ,e2⟩
 . obtain ⟨o',e1⟩:=I.base.there b o e hx
   exact free b o' (U5 b o e hx) e1 (I.base.free b o e n hx)
 . obtain ⟨o',e1⟩:=I.base.there b o e hx
   exact there b o' (U5 b o e hx) e1
 . obtain ⟨m1,e1⟩:=I.base.tK b ps e
   obtain ⟨m2,e2⟩:=tK b _ e1
   exact ⟨m1++m2,by rw [e2,Array.append_assoc]⟩
 . obtain ⟨m,hn,hl⟩:=I.loc
   refine ⟨m,ns m hn,fun i x v e1 e2 e3=>?_⟩
   obtain ⟨u,r,l⟩:=hl i x v e1 e2 e3
   refine ⟨u,r,?_⟩
   rcases l with l|⟨k,c,e,z⟩
   . exact .inl l
   . exact .inr ⟨k,c,e,cellK x c e _ z⟩
 . obtain ⟨v,z⟩:=I.cell x c e
   exact ⟨v,cellK x c e v z⟩
 . obtain ⟨m,⟨o,_,_,ho,_⟩,_⟩:=I.loc
   exact free _ o (fun z=>(hch _ z).2.1 rfl) ho I.free
 . obtain ⟨v,o,ho,hd⟩:=I.cell x c e
   exact free c o (fun z=>(hch c z).2.2.1 x c e rfl) ho (I.mL x c e)
 . obtain ⟨e,n,ne,nf,d⟩:=I.pin p hp
   have vN:p.1∉ch:=fun z=>(hch p.1 z).2.2.2 p hp rfl
   exact ⟨keep p.1 p.2 ne nf vN e n,free p.1 p.2 vN e n,ne,nf,d⟩
theorem Inv.un (I:Inv X pins σ H s) (u:Un X.fs [] H H' s.heap h') (hok:gU X.prog X.w H' h'):Inv X pins σ H' { s with heap:=h',toks:=t' }:=by
 obtain ⟨m,⟨o,es,ep,ho,r⟩,_⟩:=id I.loc
 obtain ⟨sl,hL⟩:=u.any ho I.free (by simp)
 exact I.step (g':=s.gens) (d':=s.drawn) (ch:=[]) (fun _ z=>nomatch z) (fun b o _ hb _ e n=>u.keep b o e n hb (by simp)) (fun b o _ hb _ e n=>u.slot b o e n hb (by simp)) (fun b o _ e n=>u.free b o e n (by simp)) (fun b o _ e=>u.there b o e (by simp)) u.tups u.pU u.tK (fun m' hm=>by
  obtain ⟨o',es',vO,ho',r'⟩:=hm
  rw [ho] at ho';cases ho'
  exact ⟨_,es',vO,hL,r'⟩) hok I.bare
theorem Inv.call {d':Drawn} (I:Inv X pins σ H s) (u:Un (frs X.stack) ch H H' s.heap h') (hok:gU X.prog X.w H' h') (hg:AllBare g')
  (hch:∀b∈ch,(b∈X.ex\/X.s₀.heap.objs.size<=b)/\b≠X.env.locals/\(∀x c,X.env.cells.lookup x=some c->c≠b)/\∀p∈X.pn++pins,p.1≠b):
  Inv X pins σ H' { s with heap:=h',gens:=g',drawn:=d',toks:=t' }:=by
 obtain ⟨m,⟨o,es,ep,ho,r⟩,_⟩:=id I.loc
 obtain ⟨sl,hL⟩:=u.any ho I.free fun z=>(hch _ z).2.1 rfl
 exact I.step (ch:=ch) hch (fun b o hL hb hc e n=>u.keep b o e n (fun z=>(bP.mp (I.H_ b z)).elim hL hb) hc) (fun b o _ _ hc e n=>u.any e n hc) (fun b o hc e n=>u.free b o e n hc) (fun b o hc e=>u.there b o e hc) u.tups u.pU u.tK (fun m' hm=>by
  obtain ⟨o',es',vO,ho',r'⟩:=hm
  rw [ho] at ho';cases ho'
  exact ⟨_,es',vO,hL,r'⟩) hok hg
theorem Inv.turned (I:Inv X pins σ H s) (k:∀b o,b≠it->s.heap.get? b=some o->h'.get? b=some o) (hn:H it=none) (hL:it≠X.env.locals)
  (h1:it∈X.ex\/X.s₀.heap.objs.size<=it) (h2:∀x c,X.env.cells.lookup x=some c->c≠it) (h3:∀p∈X.pn++pins,p.1≠it):Inv X pins σ H { s with heap:=h',toks:=t' }:=by
 have nit:∀b u,H b=some u->b≠it:=fun b u e z=>by rw [z,hn] at e;cases e
 refine I.step (g':=s.gens) (d':=s.drawn) (ch:=[it]) (fun b hb=>?_) (fun b o _ _ hc e _=>k b o (fun z=>hc (by simp [z])) e) (fun b o _ _ hc e _=>⟨o.slots,k b o (fun z=>hc (by simp [z])) e⟩) (fun _ _ _ _ n=>n)
  (fun b o hc e=>⟨o,k b o (fun z=>hc (by simp [z])) e⟩) (fun _ _ e=>e) (fun _ _ _ e=>e) (fun b ps e=>⟨#[],by rw [e];simp⟩) (fun m hm=>?_) (fun b u e=>?_) I.bare
 . have e:b=it:=by simpa using hb
   subst e
   exact ⟨h1,hL,h2,h3⟩
 . obtain ⟨o,es,ep,ho,r⟩:=hm
   exact ⟨o,es,ep,k _ o (cO hL) ho,r⟩
 . refine (I.hok b u e).stay (fun c v hc q=>k c v ?_ q) (fun _ q=>q) fun _ _ q=>q
   rcases hc with z|z
   . rw [z];exact nit b u e
   . exact nit c _ z
theorem Inv.tok (I:Inv X pins σ H s) (t:Nat):Inv X pins σ H { s with toks:=t }:=I.un (h':=s.heap) (t':=t) Un.refl I.hok
theorem Inv.kept (I:Inv X pins σ H s) (k:∀b u,s.heap.get? b=some u->h'.get? b=some u):Inv X pins σ H { s with heap:=h',toks:=t' }:=I.un (Un.kept k) (I.hok.kept k)
theorem Inv.laid (I:Inv X pins σ H s) (k:∀b u,s.heap.get? b=some u->h'.get? b=some u) (hp:s.heap.objs.size<=a) (new:dI X.prog X.w (upd H a o) h' a o):
  Inv X pins σ (upd H a o) { s with heap:=h',toks:=t' }:=I.un (Un.laid k hp (I.hok.fresh hp)) (I.hok.laid k hp new)
theorem Inv.write {x e:Addr} (I:Inv X pins σ H s) (mu:Qm (H x)) (he:e=x\/H e=some (.own x)) (k:∀b u,b≠e->s.heap.get? b=some u->h'.get? b=some u) (MM:∃u,h'.get? e=some u)
  (new:dI X.prog X.w (upd H x o) h' x o):Inv X pins σ (upd H x o) { s with heap:=h',toks:=t' }:=I.un (Un.write mu he k MM) (I.hok.write mu he k MM new)
theorem Inv.MO {U6:AO} (I:Inv X pins σ H s) (h:∀p∈U6,s.heap.get? p.1=some p.2/\H p.1=none/\p.1≠X.env.locals/\p.1∉X.fs/\∀v,p.2.data ≠ .cell v):Inv X U6 σ H s:=
 ⟨I.ok,I.os,I.bare,I.base,I.loc,I.cell,I.free,I.mL,fun p hp=>(gi.mp hp).elim (fun z=>I.pin p (AD _ z)) (h p),I.hok,I.len⟩
theorem AG (hN:N.Nodup) (a:N[i]?=some x) (b:N[j]?=some x):i=j:=by
 obtain ⟨h1,e1⟩:=dS.mp a
 obtain ⟨h2,e2⟩:=dS.mp b
 exact (List.getElem_inj hN).mp (e1.trans e2.symm)
theorem EO {A:Around} {v:V} (I:Inv X pins σ H s) (hN:X.N.Nodup) (hi:X.N[i]?=some x) (hx:Loc X.env.scope x) (r:RelV v u)
  (h:∀s',Inv X pins (σ.set i (some v)) H s'->(∃a,Heap.SameBut a s.heap s'.heap/\(a=X.env.locals\/X.env.cells.lookup x=some a))->Q () s') (hf:X.fn x=true\/X.env.scope.names.lookup x=some .local:=by first|exact .inl rfl|exact .inr rfl|assumption):wpAny M A (storeName X.env x u) Q E s:=by
 obtain ⟨m,hn,hl⟩:=id I.loc
 have hcls:(X.env.scope.kind == .class || (X.env.scope.kind == .module && X.env.locals != X.env.globals))=false:=by rw [I.ok.kind];rfl
 have hiσ:i<σ.length:=by rw [I.len];exact (dS.mp hi).1
 have HZ:=I.HZ
 have tracked:∀{a:Addr} {h':Heap},(∃o,s.heap.get? a=some o/\H a=none)->Heap.SameBut a s.heap h'->gU X.prog X.w H h':=fun {a h'} ha hs b ob e=>by
  obtain ⟨_,_,hfree⟩:=ha
  refine (I.hok b ob e).stay (fun c w' hc q=>(hs.2 c ?_).trans q) (fun _ q=>q) fun _ _ q=>q
  rintro rfl
  rcases hc with rfl|hc
  . rw [hfree] at e;cases e
  . rw [hfree] at hc;cases hc
 rcases hx with hk|hk
 . refine wpAny_storeName_local hk hn (fun h' hn' hs=>?_) hcls
   obtain ⟨oL,_,_,hoL,_⟩:=id hn
   refine h _ ⟨I.ok,I.os,I.bare,⟨fun b o e n hb hx=>?_,fun b o e n hb hx=>?_,I.base.free,fun b o e hx=>?_,I.base.tups,I.base.pU,I.base.tK⟩,⟨_,hn',fun j y v' e1 e2 e3=>?_⟩,fun y c e=>?_,I.free,I.mL,fun p hp=>?_,tracked ⟨oL,hoL,I.free⟩ hs,by simpa using I.len⟩ ⟨_,hs, .inl rfl⟩
   . exact (hs.2 b (fq (kD (bQ e) I.ok.above))).trans (I.base.keep b o e n hb hx)
   . obtain ⟨sl,e1⟩:=I.base.slot b o e n hb hx
     exact ⟨sl,(hs.2 b (fq (kD (bQ e) I.ok.above))).trans e1⟩
   . obtain ⟨o',e1⟩:=I.base.there b o e hx
     exact ⟨o',(hs.2 b (fq (kD (bQ e) I.ok.above))).trans e1⟩
   . by_cases hj:j=i
     . subst hj
       rw [hi] at e1;cases e1
       rw [pQ hiσ] at e2
       cases e2
       exact ⟨u,r, .inl ⟨hk,by simp⟩⟩
     . rw [yo (cO hj)] at e2
       obtain ⟨u',r',q⟩:=hl j y v' e1 e2 e3
       refine ⟨u',r',?_⟩
       rcases q with ⟨k,e⟩|⟨k,c,e,z⟩
       . refine .inl ⟨k,?_⟩
         have:y≠x:=fun e=>hj (AG hN e1 (e▸hi))
         simp [this,e]
       . exact .inr ⟨k,c,e,z.sameBut hs (HZ y c e)⟩
   . obtain ⟨w',z⟩:=I.cell y c e
     exact ⟨w',z.sameBut hs (HZ y c e)⟩
   . obtain ⟨e,n,ne,nf,d⟩:=I.pin p hp
     exact ⟨(hs.2 p.1 ne).trans e,n,ne,nf,d⟩
 . have hfn:X.fn x=true:=by
    rcases hf with z|z
    . exact z
    . rw [z] at hk;cases hk
   obtain ⟨c,hc⟩:=I.ok.has x (.inl hk)
   obtain ⟨w',z⟩:=I.cell x c hc
   refine wpAny_storeName_cell I.ok.kind hk hc z (fun h' hc' hs=>?_)
   obtain ⟨oc,hoc,aeN⟩:=id z
   refine h { s with heap:=h' } ⟨I.ok,I.os,I.bare,⟨fun b o e n hb hx=>?_,fun b o e n hb hx=>?_,I.base.free,fun b o e hx=>?_,I.base.tups,I.base.pU,I.base.tK⟩,⟨m,hn.sameBut hs (cO (HZ x c hc)),fun j y v' e1 e2 e3=>?_⟩,fun y c' e=>?_,I.free,I.mL,fun p hp=>?_,tracked ⟨oc,hoc,I.mL x c hc⟩ hs,by simpa using I.len⟩ ⟨c,hs, .inr hc⟩
   . exact (hs.2 b (fq (kD (bQ e) (I.ok.gc x c hfn hc)))).trans (I.base.keep b o e n hb hx)
   . obtain ⟨sl,e1⟩:=I.base.slot b o e n hb hx
     exact ⟨sl,(hs.2 b (fq (kD (bQ e) (I.ok.gc x c hfn hc)))).trans e1⟩
   . obtain ⟨o',e1⟩:=I.base.there b o e hx
     exact ⟨o',(hs.2 b (fq (kD (bQ e) (I.ok.gc x c hfn hc)))).trans e1⟩
   . by_cases hj:j=i
     . subst hj
       rw [hi] at e1;cases e1
       rw [pQ hiσ] at e2
       cases e2
       exact ⟨u,r, .inr ⟨.inl hk,c,hc,hc'⟩⟩
     . rw [yo (cO hj)] at e2
       obtain ⟨u',r',q⟩:=hl j y v' e1 e2 e3
       refine ⟨u',r',?_⟩
       rcases q with q|⟨k,c',e,z'⟩
       . exact .inl q
       . refine .inr ⟨k,c',e,z'.sameBut hs ?_⟩
         rintro rfl
         exact hj (AG hN e1 (I.ok.inj _ _ _ e hc▸hi))
   . by_cases hcc:c'=c
     . subst hcc;exact ⟨_,hc'⟩
     . obtain ⟨w2,z2⟩:=I.cell y c' e
       exact ⟨w2,z2.sameBut hs hcc⟩
   . obtain ⟨e,n,ne,nf,d⟩:=I.pin p hp
     refine ⟨(hs.2 p.1 ?_).trans e,n,ne,nf,d⟩
     intro q
     rw [q,hoc] at e
     have q':oc=p.2:=fH e
     exact d w' (by rw [<-q'];exact aeN)
theorem wU {A:Around} {v:V} (I:Inv X pins σ H s) (hN:X.N.Nodup) (hi:X.N[i]?=some x) (hx:Loc X.env.scope x) (r:RelV v u)
  (h:∀s',Inv X pins (σ.set i (some v)) H s'->Q () s') (hf:X.fn x=true\/X.env.scope.names.lookup x=some .local:=by first|exact .inl rfl|exact .inr rfl|assumption):wpAny M A (storeName X.env x u) Q E s:=
 EO I hN hi hx r (fun s' I' _=>h s' I') hf
theorem Inv.OE {s':Shared} (I:Inv X pins σ H s) (ho:s'.os=s.os) (u:Un (frs X.stack) ch H H' s.heap s'.heap) (hok:gU X.prog X.w H' s'.heap) (hg:AllBare s'.gens)
  (hch:∀b∈ch,(b∈X.ex\/X.s₀.heap.objs.size<=b)/\b≠X.env.locals/\(∀x c,X.env.cells.lookup x=some c->c≠b)/\∀p∈X.pn++pins,p.1≠b):Inv X pins σ H' s':=by
 obtain ⟨h',g',d',t',o'⟩:=s'
 have e:o'=s.os:=ho
 subst e
 exact I.call (g':=g') (t':=t') (d':=d') u hok hg hch
end
abbrev XK:=Value->Option Addr->Hp->Prop
abbrev St:=List (Option V)
abbrev VK:=V->Hp->Prop
abbrev TE:=St->Hp->VK->Prop
abbrev TT:=St->Hp->(Bool->Hp->Prop)->Prop
abbrev TA:=St->Hp->(List V->Hp->Prop)->Prop
structure Ends where
 nx:St->Hp->Prop
 rt:VK
 bk:St->Hp->Prop:=fun _ _=>False
 ct:St->Hp->Prop:=fun _ _=>False
abbrev TS:=Ends->St->Hp->Prop
def EP (X:Cx) (pins:AO) (σ:St) (Q:VK) (u:Value) (s':Shared):Prop:=∃v H',Inv X pins σ H' s'/\RelV v u/\Q v H'
def TP (X:Cx) (pins:AO) (σ:St) (Q:Bool->Hp->Prop) (b:Bool) (s':Shared):Prop:=∃H',Inv X pins σ H' s'/\Q b H'
def AP (X:Cx) (pins:AO) (σ:St) (Q:List V->Hp->Prop) (us:List Value) (s':Shared):Prop:=∃vs H',Inv X pins σ H' s'/\Vals vs us/\Q vs H'
def SP (X:Cx) (pins:AO) (D:Ends) (f:Flow) (s':Shared):Prop:=
 match f with
 | .next=>∃σ' H',Inv X pins σ' H' s'/\D.nx σ' H'
 | .brk=>∃σ' H',Inv X pins σ' H' s'/\D.bk σ' H'
 | .cont=>∃σ' H',Inv X pins σ' H' s'/\D.ct σ' H'
 | .ret u=>∃v σ' H',Inv X pins σ' H' s'/\RelV v u/\D.rt v H'
def PE (X:Cx) (e:Expr) (t:TE):Prop:=
 ∀(pins:AO) (s:Shared) (σ:St) (H:Hp) (Q:VK),Inv X pins σ H s->t σ H Q->wpAny (model X.prog X.w) X.A (eval e X.env) (EP X pins σ Q) X.xe s
def PT (X:Cx) (e:Expr) (t:TT):Prop:=
 ∀(pins:AO) (s:Shared) (σ:St) (H:Hp) (Q:Bool->Hp->Prop),Inv X pins σ H s->t σ H Q->wpAny (model X.prog X.w) X.A (isTrue e X.env (eval e X.env)) (TP X pins σ Q) X.xe s
def PW (X:Cx) (e:Expr) (t:TT):Prop:=
 ∀(whole:Sem Value) (pins:AO) (s:Shared) (σ:St) (H:Hp) (Q:Bool->Hp->Prop),Inv X pins σ H s->t σ H Q->wpAny (model X.prog X.w) X.A (isTrue e X.env whole) (TP X pins σ Q) X.xe s
variable {X:Cx} {e:Expr}
theorem PW.pt {t:TT} (h:PW X e t):PT X e t:=h _
def PA (X:Cx) (es:List Expr) (t:TA):Prop:=
 ∀(pos:Pos) (pins:AO) (s:Shared) (σ:St) (H:Hp) (Q:List V->Hp->Prop),Inv X pins σ H s->t σ H Q->wpAny (model X.prog X.w) X.A (spliced (backTo pos (starEach es X.env))) (AP X pins σ Q) X.xe s
def PS (X:Cx) (st:Stmt) (t:TS):Prop:=
 ∀(pins:AO) (s:Shared) (σ:St) (H:Hp) (D:Ends),Inv X pins σ H s->t D σ H->wpAny (model X.prog X.w) X.A (exec st X.env) (SP X pins D) X.xe s
def pO (X:Cx) (st:List Stmt) (t:TS):Prop:=
 ∀(pins:AO) (s:Shared) (σ:St) (H:Hp) (D:Ends),Inv X pins σ H s->t D σ H->wpAny (model X.prog X.w) X.A (execs st X.env) (SP X pins D) X.xe s
variable {s:Shared}
theorem bf {α:Type} {t:Sem α} {Q Q':α->Shared->Prop} {A:Around} (h:wpAny M A t Q E s) (hQ:∀a s,Q a s->Q' a s):wpAny M A t Q' E s:=jd h hQ fun _ _ x=>x
variable {pos:Pos} {pins:AO} {σ:St}
section
variable {X:Cx}
inductive OF (i:Nat) (σ:St) (H:Hp) (Q:VK):Prop
 | mk  (v:_) (_:σ[i]?=some (some v)) (_:Q v H)
def tC (v:V):TE:=fun _ H Q=>Q v H
theorem XR (hN:X.N[i]?=some x) (hv:U4 X.env.scope x) (hd:(x==("__debug__":Str))=false:=by decide) (hcd:(x==("__classdict__":Str))=false:=by decide):PE X (.Name x pos) (OF i):=by
 intro pins s σ H Q I h
 obtain ⟨v,e,h⟩:=h
 obtain ⟨m,hn,hl⟩:=I.loc
 obtain ⟨u,r,l⟩:=hl i x v hN e hv
 have fin:EP X pins σ Q u s:=⟨v,H,I,r,h⟩
 rcases l with ⟨hk,hm⟩|⟨hk,c,hc,hcell⟩
 . exact wpAny_Name (wpAny_loadName_local I.ok.kind hk hn hm fin) hd
 . rcases hk with hk|hk
   . exact wpAny_Name (wpAny_loadName_cell I.ok.kind hk hc hcell fin) hd
   . exact wpAny_Name (wpAny_loadName_free I.ok.kind hk hc hcell fin hcd) hd
theorem Qp {x j pos}:PE X (.Constant (.str x) j pos) (tC (.str x)):=fun _ _ _ H _ I h=>Calls.Constant_str ⟨.str x,H,I.tok _,⟨_,Z⟩,h⟩
def Gl (X:Cx) (x:Str):Prop:=X.env.kindOf x=some .globalImplicit
theorem vP {Q:VS} (I:Inv X pins σ H s) (hg:Gl X x) (hm:X.mg x=some u) (h:Q u s)
  (hd:(x==("__debug__":Str))=false:=by decide):wpAny (model X.prog X.w) X.A (eval (.Name x pos) X.env) Q E s:=
 Calls.Name_function_global I.ok.kind hg (Calls.loadGlobal_global (by rw [I.ok.glob];exact I.mod.glob.keeps I.bk) hm h) hd
theorem tL {Q:VS} (I:Inv X pins σ H s) (hg:Gl X x) (hm:X.mg x=none) (hv:bootBuiltins x=some u) (h:Q u s)
  (hn:x ≠ "__name__":=by decide) (hd:(x==("__debug__":Str))=false:=by decide):wpAny (model X.prog X.w) X.A (eval (.Name x pos) X.env) Q E s:=by
 obtain ⟨mb,h1,h2⟩:=I.mod.blt
 exact Calls.Name_function_global I.ok.kind hg (Calls.loadGlobal_builtin (by rw [I.ok.glob];exact I.mod.glob.keeps I.bk) hm (by rw [I.ok.blt];exact h1.keeps I.bk) ((h2 x hn).trans hv) h) hd
theorem V6 {v:V} (hg:Gl X x) (hm:X.mg x=none) (hv:bootBuiltins x=some u) (r:RelV v u) (hn:x ≠ "__name__":=by decide) (hd:(x==("__debug__":Str))=false:=by decide):PE X (.Name x pos) (tC v):=
 fun _ _ _ H _ I h=>tL I hg hm hv ⟨v,H,I,r,h⟩ hn hd
variable {a b:Expr} {ta tb:TE} {pos:Pos}
def PC (X:Cx) (op:CmpOp) (a b:Expr) (t:TE):Prop:=
 ∀(pins:AO) (s:Shared) (σ:St) (H:Hp) (Q:VK),Inv X pins σ H s->t σ H Q->
  wpAny (model X.prog X.w) X.A (eval a X.env) (fun v s₁=>wpAny (model X.prog X.w) X.A (eval b X.env) (fun u s₂=>wpAny (model X.prog X.w) X.A (compareOp op v u) (EP X pins σ Q) X.xe s₂) X.xe s₁) X.xe s
inductive yTB (Q:Bool->Hp->Prop) (x:V) (H1:Hp):Prop
 | mk  (c:_) (_:x = .bl c) (_:Q c H1)
def tB (t:TE):TT:=fun σ H Q=>t σ H (yTB Q)
variable {tA U7:TT} {rest:List Expr}
def abf (u:TT) (σ:St) (Q:Bool->Hp->Prop):Bool->Hp->Prop:=fun c H1=>if c=true then u σ H1 Q else Q false H1
def aeO (t u:TT):TT:=fun σ H Q=>t σ H (abf u σ Q)
def aeP (u:TT) (σ:St) (Q:Bool->Hp->Prop):Bool->Hp->Prop:=fun c H1=>if c=true then Q true H1 else u σ H1 Q
def tOr (t u:TT):TT:=fun σ H Q=>t σ H (aeP u σ Q)
abbrev abg (Q:Bool->Hp->Prop):Bool->Hp->Prop:=fun c H1=>Q (!c) H1
def aeQ (t:TT):TT:=fun σ H Q=>t σ H (abg Q)
inductive XS (tb:TE) (σ:St) (Q:VK) (x:V) (H1:Hp):Prop
 | mk  (c:_) (_:x = .bl c) (_:if c=true then tb σ H1 Q else Q (.bl false) H1)
def abh (ta tb:TE):TE:=fun σ H Q=>ta σ H (XS tb σ Q)
end
def aH (K:Fg) (H:Hp) (a:Addr) (xs:List V):Prop:=
 Rd H a (.lst xs)\/
  ∃(o:Obj) (its:Array Value) (n:Nat),K.lookup a=some o/\o.cls = .type "list"/\o.dict=none/\o.data = .seq its n/\its.size<=sizeLine/\Vals xs its.toList
def bN (K:Fg) (H:Hp) (a:Addr) (xs:List V):Prop:=
 Rd H a (.tup xs)\/
  ∃(o:Obj) (its:Array Value) (n:Nat),K.lookup a=some o/\o.cls = .type "tuple"/\o.data = .seq its n/\its.size<=sizeLine/\Vals xs its.toList
def aeR:Value->Option V
 | .none=>some .bU
 | .bool b=>some (.bl b)
 | .int i _=>some (.int i)
 | .str x _=>some (.str x)
 | .bytes b _=>some (.x8 b)
 | .float b _=>some (.HV b)
 | .ref a=>some (.ref a)
 | .type n=>some (.ty n)
 | _=>none
theorem RelV.abs {x:V} (r:RelV x u):aeR u=some x:=by
 cases x with
 | bU=>cases r;rfl
 | bl _=>cases r;rfl
 | int _=>obtain ⟨t,rfl⟩:=r;rfl
 | str _=>obtain ⟨t,rfl⟩:=r;rfl
 | x8 _=>obtain ⟨t,rfl⟩:=r;rfl
 | HV _=>obtain ⟨t,rfl⟩:=r;rfl
 | ref _=>cases r;rfl
 | ty _=>cases r;rfl
variable {y:V}
theorem RelV.inj {x:V} (r:RelV x u) (q:RelV y u):x=y:=fH (r.abs.symm.trans q.abs)
theorem Vals.inj:∀{xs ys:List V} {us:List Value},Vals xs us->Vals ys us->xs=ys
 | _,_,_, .nil, .nil=>rfl
 | _,_,_, .cons r t, .cons r' t'=>by rw [r.inj r',Vals.inj t t']
variable {K:Fg}
section
variable {X:Cx} {pins:AO} {σ:St} {H:Hp} {s:Shared} {a:Addr} {xs ys:List V}
theorem aH.of (h:H a=some (.lst xs)):aH K H a xs:= .inl (.inl h)
theorem bN.of (h:H a=some (.tup xs)):bN K H a xs:= .inl (.inl h)
theorem Inv.list (I:Inv X pins σ H s) (h:aH X.K H a xs):∃its:List Value,Vals xs its/\PlainL s.heap a its.toArray/\xs.length<=sizeLine:=by
 rcases h with h|⟨o,its,n,hk,hc,hd,hs,hz,r⟩
 . obtain ⟨z,its,n,r,e⟩:=h.ok I.hok
   exact ⟨its,r,⟨_,n,e,Z,Z,Z⟩,z⟩
 . refine ⟨its.toList,r,⟨o,n,I.jA a o hk,hc,hd,by simpa using hs⟩,?_⟩
   have e:=r.length
   simp only [Array.length_toList] at e
   omega
theorem Inv.tuple (I:Inv X pins σ H s) (h:bN X.K H a xs):∃its:List Value,Vals xs its/\IsTup s.heap a its.toArray/\xs.length<=sizeLine:=by
 rcases h with h|⟨o,its,n,hk,hc,hs,hz,r⟩
 . obtain ⟨z,its,r,p⟩:=h.ok I.hok
   exact ⟨its,r,p,z⟩
 . refine ⟨its.toList,r,⟨o,I.jA a o hk,hc,n,by simpa using hs⟩,?_⟩
   have e:=r.length
   simp only [Array.length_toList] at e
   omega
theorem Inv.SQ (I:Inv X pins σ H s) (h:aH X.K H a xs) (h':aH X.K H a ys):xs=ys:=by
 obtain ⟨its,r,⟨o,n,e,_,_,d⟩,_⟩:=I.list h
 obtain ⟨its',r',⟨o',n',e',_,_,d'⟩,_⟩:=I.list h'
 rw [e] at e';cases e'
 rw [d] at d'
 injection d' with d1 _
 have:its=its':=by simpa using jx Array.toList d1
 subst this
 exact r.inj r'
theorem Inv.Qq (I:Inv X pins σ H s) (h:bN X.K H a xs) (h':bN X.K H a ys):xs=ys:=by
 obtain ⟨its,r,⟨o,e,_,n,d⟩,_⟩:=I.tuple h
 obtain ⟨its',r',⟨o',e',_,n',d'⟩,_⟩:=I.tuple h'
 rw [e] at e';cases e'
 rw [d] at d'
 injection d' with d1 _
 have:its=its':=by simpa using jx Array.toList d1
 subst this
 exact r.inj r'
end
abbrev Cx.vn (X:Cx) (E:VS):Cx:={ X with xe:=E }
abbrev Cx.Ai (X:Cx):Cx:=X.vn fun _ _=>False
theorem Cx.Ok.vn (ok:X.Ok) (E:VS):(X.vn E).Ok:=
 ⟨ok.mod,ok.kind,ok.glob,ok.blt,ok.above,ok.inj,ok.has,ok.gc,ok.hd,ok.frames,ok.stk,ok.MN,ok.bs,ok.EN,ok.HX,ok.DO,ok.oz,ok.HY⟩
theorem Cx.Ok.qU (ok:(X.vn E).Ok):X.Ok:=
 ⟨ok.mod,ok.kind,ok.glob,ok.blt,ok.above,ok.inj,ok.has,ok.gc,ok.hd,ok.frames,ok.stk,ok.MN,ok.bs,ok.EN,ok.HX,ok.DO,ok.oz,ok.HY⟩
variable {D:Ends}
section
variable {X:Cx} {pins:AO} {σ:St} {H:Hp} {s:Shared} {E:VS}
theorem Inv.vn (I:Inv X pins σ H s) (E:VS):Inv (X.vn E) pins σ H s:=⟨I.ok.vn E,I.os,I.bare,I.base,I.loc,I.cell,I.free,I.mL,I.pin,I.hok,I.len⟩
theorem Inv.qU (I:Inv (X.vn E) pins σ H s):Inv X pins σ H s:=⟨I.ok.qU,I.os,I.bare,I.base,I.loc,I.cell,I.free,I.mL,I.pin,I.hok,I.len⟩
theorem SP.qU {f:Flow} (h:SP (X.vn E) pins D f s'):SP X pins D f s':=by
 cases f with
 | next=>obtain ⟨σ',H',I,q⟩:=h;exact ⟨σ',H',I.qU,q⟩
 | brk=>obtain ⟨σ',H',I,q⟩:=h;exact ⟨σ',H',I.qU,q⟩
 | cont=>obtain ⟨σ',H',I,q⟩:=h;exact ⟨σ',H',I.qU,q⟩
 | ret u=>obtain ⟨v,σ',H',I,r,q⟩:=h;exact ⟨v,σ',H',I.qU,r,q⟩
theorem pO.Ai {st:List Stmt} {t:TS} (h:pO X.Ai st t):pO X st t:=fun pins s σ H D I hw=>
 jd (h pins s σ H D (I.vn _) hw) (fun _ _ q=>q.qU) fun _ _ z=>False.elim z
end
variable {tc:TT}
section
variable {X:Cx} {st:Stmt} {rest:List Stmt} {t u:TS} {e:Expr} {te:TE} {pos:Pos}
def abi:TS:=fun D σ H=>D.nx σ H
def Ends.sq (D:Ends) (u:TS):Ends:={ D with nx:=u D }
def Ends.lp (D:Ends) (N:St->Hp->Prop):Ends:={ D with nx:=N,ct:=N,bk:=D.nx }
def tM (t u:TS):TS:=fun D σ H=>t (D.sq u) σ H
theorem Inv.quiet (I:Inv X pins σ H s):interactive X.env=false:=by simp [interactive,I.ok.kind]
def XT (D:Ends) (σ:St):V->Hp->Prop:=fun _ H1=>D.nx σ H1
def abj (te:TE):TS:=fun D σ H=>te σ H (XT D σ)
def aeS (te:TE):TS:=fun D σ H=>te σ H D.rt
def abk:TS:=fun D _ H=>D.rt .bU H
def abl (t:TS) (u:TS) (D:Ends) (σ:St):Bool->Hp->Prop:=fun b H1=>if b=true then t D σ H1 else u D σ H1
def XU (c:TT) (t u:TS):TS:=fun D σ H=>c σ H (abl t u D σ)
theorem U8 {c:Expr} {a b:List Stmt} (hc:PT X c tc) (ha:pO X a t) (hb:pO X b u):PS X (.If c a b pos) (XU tc t u):=by
 intro pins s σ H D I h
 refine wpAny_If (bf (hc pins s σ H _ I h) fun d s1 ⟨H1,I1,q1⟩=>?_)
 cases d with
 | true=>exact ha pins s1 σ H1 D I1 q1
 | false=>exact hb pins s1 σ H1 D I1 q1
def XW:TS:=fun _ _ _=>False
end
abbrev TG:=V->St->Hp->(St->Hp->Prop)->Prop
abbrev BL:=List V->St->Hp->(St->Hp->Prop)->Prop
def PG (X:Cx) (target:Expr) (t:TG):Prop:=
 ∀(pins:AO) (s:Shared) (σ:St) (H:Hp) (v:V) (u:Value) (Q:St->Hp->Prop),Inv X pins σ H s->RelV v u->t v σ H Q->
  wpAny (model X.prog X.w) X.A (assign target X.env u) (fun _ s'=>∃σ' H',Inv X pins σ' H' s'/\Q σ' H') X.xe s
def PGs (X:Cx) (ts:List Expr) (t:BL):Prop:=
 ∀(pins:AO) (s:Shared) (σ:St) (H:Hp) (vs:List V) (us:List Value) (Q:St->Hp->Prop),Inv X pins σ H s->Vals vs us->t vs σ H Q->
  wpAny (model X.prog X.w) X.A (assignInOrder ((assignEach ts X.env).map (·.2)) us) (fun _ s'=>∃σ' H',Inv X pins σ' H' s'/\Q σ' H') X.xe s
abbrev rN:=V->V->V->Hp->(Hp->Prop)->Prop
def SR (X:Cx) (t:rN):Prop:=
 ∀(pins:AO) (s:Shared) (σ:St) (H:Hp) (o i v:V) (ov iv u:Value) (Q:Hp->Prop),Inv X pins σ H s->RelV o ov->RelV i iv->RelV v u->t o i v H Q->
  wpAny (model X.prog X.w) X.A (setItem ov iv u) (fun _ s'=>∃H',Inv X pins σ H' s'/\Q H') X.xe s
abbrev Ia:=V->V->Hp->VK->Prop
def XX (X:Cx) (op:Operator) (t:Ia):Prop:=
 ∀(pins:AO) (s:Shared) (σ:St) (H:Hp) (x y:V) (v u:Value) (Q:VK),Inv X pins σ H s->RelV x v->RelV y u->t x y H Q->
  wpAny (model X.prog X.w) X.A (inplaceOp op v u) (EP X pins σ Q) X.xe s
section
variable {X:Cx} {pos:Pos}
def sQ (i:Nat):TG:=fun v σ H Q=>Q (σ.set i (some v)) H
inductive XY (vs:List V) (σ:St) (H:Hp) (Q:St->Hp->Prop):Prop
 | mk  (_:vs=[]) (_:Q σ H)
def XZ (u:BL) (Q:St->Hp->Prop) (r:List V):St->Hp->Prop:=fun σ' H'=>u r σ' H' Q
inductive U9 (t:TG) (u:BL) (vs:List V) (σ:St) (H:Hp) (Q:St->Hp->Prop):Prop
 | mk  (v r:_) (_:vs=v::r) (_:t v σ H (XZ u Q r))
inductive AH (K:Fg) (n:Nat) (t:BL) (v:V) (σ:St) (H:Hp) (Q:St->Hp->Prop):Prop
 | mk  (a xs:_) (_:v = .ref a) (_:bN K H a xs) (_:xs.length=n) (_:t xs σ H Q)
theorem X0 {es:List Expr} {k:Nat} {t:BL} {n:Nat} (hc:X.calm=true) (h:PGs X es t)
  (hn:(assignEach es X.env).length=n:=by rfl) (hst:(assignEach es X.env).findIdx? (·.1)=none:=by rfl):PG X (.Tuple es k pos) (AH X.K n t):=by
 intro pins s σ H v u Q I r hw
 obtain ⟨a,xs,e1,hq,hl,hw⟩:=hw
 subst e1
 cases r
 obtain ⟨its,rv,ht,hz⟩:=I.tuple hq
 refine assign_Tuple_tuple (I.ok.hd hc) ht (by simp [hn,<-hl,rv.length]) hst fun h' hx=>?_
 have I1:Inv X pins σ H { s with heap:=h' }:=I.kept (t':=s.toks) fun b o e=>hx b o (fq (bQ e)) e
 exact h pins _ σ H xs _ Q I1 (by simpa using rv) hw
def V7 (σ:St) (Q:St->Hp->Prop):Hp->Prop:=fun H3=>Q σ H3
def V8 (t:rN) (v:V) (σ:St) (Q:St->Hp->Prop) (o:V):V->Hp->Prop:=fun i H2=>t o i v H2 (V7 σ Q)
def abm (ti:TE) (t:rN) (v:V) (σ:St) (Q:St->Hp->Prop):V->Hp->Prop:=fun o H1=>ti σ H1 (V8 t v σ Q o)
def aeT (to ti:TE) (t:rN):TG:=fun v σ H Q=>to σ H (abm ti t v σ Q)
def abn (g:TG) (D:Ends) (σ:St):V->Hp->Prop:=fun x H1=>g x σ H1 D.nx
def SS (te:TE) (g:TG):TS:=fun D σ H=>te σ H (abn g D σ)
inductive abo (i:Nat) (j:Nat) (D:Ends) (σ:St) (vs:List V) (H1:Hp):Prop
 | mk  (v w:_) (_:vs=[v,w]) (_:D.nx ((σ.set i (some v)).set j (some w)) H1)
def aeU (i j:Nat) (ta:TA):TS:=fun D σ H=>ta σ H (abo i j D σ)
def SV (D:Ends) (σ:St):Hp->Prop:=fun H6=>D.nx σ H6
def SW (oB:rN) (D:Ends) (σ:St) (o:V) (i:V):V->Hp->Prop:=fun z H5=>oB o i z H5 (SV D σ)
def SX (x9:Ia) (oB:rN) (D:Ends) (σ:St) (o:V) (i:V) (x:V):V->Hp->Prop:=fun y H4=>x9 x y H4 (SW oB D σ o i)
def SY (te:TE) (x9:Ia) (oB:rN) (D:Ends) (σ:St) (o:V) (i:V):V->Hp->Prop:=fun x H3=>te σ H3 (SX x9 oB D σ o i x)
def S0 (te:TE) (yr:V->V->Hp->VK->Prop) (x9:Ia) (oB:rN) (D:Ends) (σ:St) (o:V):V->Hp->Prop:=fun i H2=>yr o i H2 (SY te x9 oB D σ o i)
def X3 (ti:TE) (te:TE) (yr:V->V->Hp->VK->Prop) (x9:Ia) (oB:rN) (D:Ends) (σ:St):V->Hp->Prop:=fun o H1=>ti σ H1 (S0 te yr x9 oB D σ o)
def abp (to ti te:TE) (yr:V->V->Hp->VK->Prop) (x9:Ia) (oB:rN):TS:=fun D σ H=>to σ H (X3 ti te yr x9 oB D σ)
def X4 (X:Cx) (t:V->V->Hp->VK->Prop):Prop:=
 ∀(pins:AO) (s:Shared) (σ:St) (H:Hp) (o i:V) (ov iv:Value) (Q:VK),Inv X pins σ H s->RelV o ov->RelV i iv->t o i H Q->
  wpAny (model X.prog X.w) X.A (getItem ov iv) (EP X pins σ Q) X.xe s
inductive ipI (f:Int->Int->Int) (x:V) (y:V) (H:Hp) (Q:VK):Prop
 | mk  (i j:_) (_:x = .int i) (_:y = .int j) (_:Q (.int (f i j)) H)
theorem X5:XX X .Add (ipI fun i j=>i+j):=by
 intro pins s σ H x y v u Q I r1 r2 h
 obtain ⟨i,j,e1,e2,q⟩:=h
 subst e1;subst e2
 obtain ⟨t,rfl⟩:=r1
 obtain ⟨t',rfl⟩:=r2
 exact iadd_int ⟨.int _,H,I.tok _,⟨_,Z⟩,q⟩
theorem X6:XX X .Sub (ipI fun i j=>i-j):=by
 intro pins s σ H x y v u Q I r1 r2 h
 obtain ⟨i,j,e1,e2,q⟩:=h
 subst e1;subst e2
 obtain ⟨t,rfl⟩:=r1
 obtain ⟨t',rfl⟩:=r2
 exact isub_int ⟨.int _,H,I.tok _,⟨_,Z⟩,q⟩
end
section
variable {X:Cx} {pos:Pos}
def X7 (c:TT) (tb:TS):TS:=fun D σ H=>∃W:Nat->St->Hp->Prop,(∃m,W m σ H)/\∀m σ H,W m σ H->
 c σ H fun b H1=>if b=true then ∃N:St->Hp->Prop,(∀σ' H',N σ' H'->∃m',m'<m/\W m' σ' H')/\tb { D with nx:=N,ct:=N,bk:=D.nx } σ H1 else D.nx σ H1
end
structure It where
 go:Nat->Hp->Prop
 BN:Nat->Hp->V->Hp->Prop
 stop:Nat->Hp->Prop
def oE (X:Cx) (pins:AO) (H:Hp) (b:Addr):Prop:=
 H b=none/\b≠X.env.locals/\b∉X.fs/\(b∈X.ex\/X.s₀.heap.objs.size<=b)/\(∀x c,X.env.cells.lookup x=some c->c≠b)/\∀p∈X.pn++pins,p.1≠b
variable {H':Hp}
theorem Inv.yt (I:Inv X pins σ H s) (hb:s.heap.objs.size<=b) (hn:H' b=none):oE X pins H' b:=by
 refine ⟨hn,zN (kD I.lt hb),I.aeM hb, .inr (fT I.sz hb),fun x c e z=>?_,fun p hp z=>?_⟩
 . obtain ⟨v,q⟩:=I.cell x c e
   exact absurd (kD q.lt (by rw [z];exact hb)) (jw _)
 . exact absurd (kD (bQ (I.pin p hp).1) (by rw [z];exact hb)) (jw _)
structure Turn (P:Program) (w:World) (K:Fg) (tg:Expr) (J:It) (fp:List Addr) (it:Addr) (tn:Nat->Heap->Prop):Prop where
 mem:it∈fp
 obj:∀i h,tn i h->∀b∈fp,∃o,h.get? b=some o/\∀v,o.data ≠ .cell v
 keep:∀i h h',tn i h->(∀b∈fp,∀o,h.get? b=some o->h'.get? b=some o)->tn i h'
 item:∀(X:Cx),X.prog=P->X.w=w->X.K=K->X.calm=true->∀(i:Nat) (pins:AO) (s:Shared) (σ:St) (H:Hp) (E:VS),Inv X pins σ H s->(∀b∈fp,oE X pins H b)->tn i s.heap->J.go i H->
  wpAny (model P w) X.A (pyNext (.ref it)) (fun r s1=>∃u,r=some u/\
   wpAny (model P w) X.A (letOwnedTupleGo tg (.ref it) u) (fun _ s2=>∃x H',Inv X pins σ H' s2/\RelV x u/\J.BN i H x H'/\tn (i+1) s2.heap/\∀b∈fp,H' b=none) E s1) E s
 done:∀(X:Cx),X.prog=P->X.w=w->X.K=K->X.calm=true->∀(i:Nat) (pins:AO) (s:Shared) (σ:St) (H:Hp) (E:VS),Inv X pins σ H s->(∀b∈fp,oE X pins H b)->tn i s.heap->J.stop i H->
  wpAny (model P w) X.A (pyNext (.ref it)) (fun r s1=>r=none/\Inv X pins σ H s1) E s
 self:∀(A:Around) (i:Nat) (s:Shared) (Q:VS) (E:VS),tn i s.heap->Q (.ref it) s->wpAny (model P w) A (pyIter (.ref it)) Q E s
abbrev TI:=St->Hp->(It->Hp->Prop)->Prop
def PIE (X:Cx) (pins:AO) (σ:St) (tg:Expr) (R:It->Hp->Prop) (itv:Value) (s2:Shared):Prop:=
 ∃(it:Addr) (fp:List Addr) (tn:Nat->Heap->Prop) (J:It) (H':Hp),itv = .ref it/\Inv X pins σ H' s2/\Turn X.prog X.w X.K tg J fp it tn/\tn 0 s2.heap/\(∀b∈fp,oE X pins H' b)/\R J H'
def PI (X:Cx) (tg iter:Expr) (wi:TI):Prop:=
 ∀(pins:AO) (s:Shared) (σ:St) (H:Hp) (R:It->Hp->Prop),Inv X pins σ H s->wi σ H R->
  wpAny (model X.prog X.w) X.A (eval iter X.env) (fun v s1=>wpAny (model X.prog X.w) X.A (pyIter v) (PIE X pins σ tg R) X.xe s1) X.xe s
variable {tg:Expr}
theorem wV {A:Around} {o:Obj} {n:String} {vs:Array Value} (ho:s.heap.get? it=some o) (hc:o.cls = .type n) (hd:o.data = .fields vs)
  (hn:["enumerate","zip","dict_itemiterator","dict_reverseitemiterator","odict_iterator","itertools.zip_longest","itertools.pairwise"].contains n=false) (hQ:Q () s):wpAny M A (letOwnedTupleGo tg (.ref it) u) Q E s:=by
 unfold letOwnedTupleGo
 cases tg <;> first
  | exact aL hQ
  | (cases u <;> first
      | exact aL hQ
      | (refine au (wpAny_load ho ?_)
         rw [hc,hd]
         show wpAny M A (if (["enumerate","zip","dict_itemiterator","dict_reverseitemiterator","odict_iterator","itertools.zip_longest","itertools.pairwise"].contains n && vs[0]?==some (rawInt _))=true then _ else _) Q E s
         rw [aA (by intro h;rw [hn,Bool.false_and] at h;cases h)]
         exact aL hQ))
def x_ (K:Fg) (a:Addr):It:=
 ⟨fun i H=>∃xs x,aH K H a xs/\xs[i]?=some x,fun i H x H'=>H'=H/\∀xs,aH K H a xs->xs[i]?=some x,fun i H=>∃xs,aH K H a xs/\xs.length<=i⟩
def X8 (K:Fg) (a:Addr):It:=
 ⟨fun i H=>∃xs x,bN K H a xs/\xs[i]?=some x,fun i H x H'=>H'=H/\∀xs,bN K H a xs->xs[i]?=some x,fun i H=>∃xs,bN K H a xs/\xs.length<=i⟩
def U_ (lo:Int) (n:Nat):It:=⟨fun i _=>i<n,fun i H x H'=>H'=H/\x = .int (lo+i),fun i _=>n<=i⟩
theorem Qs {w:World} (a it:Addr):Turn P w K tg (x_ K a) [it] it (fun i h=>h.IsListIter it a i) where
 mem:=by simp
 obj:=fun i h st b hb=>by
  have e:b=it:=by simpa using hb
  subst e
  obtain ⟨o,e,c,d⟩:=st
  exact ⟨o,e,fun v z=>by rw [d] at z;cases z⟩
 keep:=fun i h h' st k=>st.at fun o e=>k it (by simp) o e
 item:=by
  intro X hP hw hK hc i pins s σ H E I hf st hg
  subst hP hw hK
  obtain ⟨xs,x,hq,hx⟩:=hg
  obtain ⟨its,rv,p,hz⟩:=I.list hq
  obtain ⟨u,hu,ru⟩:=rv.get hx
  obtain ⟨f0,f1,f2,f3,f4,f5⟩:=hf it (by simp)
  refine wpAny_pyNext_list_item st p.isList (x:=u) (by simpa using hu) fun h' st' sb=>?_
  have I1:Inv X pins σ H { s with heap:=h' }:=I.turned (t':=s.toks) (fun b o hb e=>(sb.2 b hb).trans e) f0 f1 f3 f4 f5
  obtain ⟨o,e,c,d⟩:=id st'
  exact ⟨u,Z,wV (s:={ s with heap:=h' }) e c d (by decide) ⟨x,H,I1,ru,⟨Z,fun ys hy=>by rw [I.SQ hy hq];exact hx⟩,st',fun b hb=>(hf b hb).1⟩⟩
 done:=by
  intro X hP hw hK hc i pins s σ H E I hf st hg
  subst hP hw hK
  obtain ⟨xs,hq,hx⟩:=hg
  obtain ⟨its,rv,p,hz⟩:=I.list hq
  obtain ⟨f0,f1,f2,f3,f4,f5⟩:=hf it (by simp)
  have hl:=rv.length
  exact wpAny_pyNext_list_end (I.ok.hd hc) st p.isList (by simp;omega) fun h' eb=>⟨Z,I.turned (t':=s.toks) (fun b o hb e=>eb b o hb e) f0 f1 f3 f4 f5⟩
 self:=fun _ _ _ _ _ st h=>wpAny_pyIter_listiter st h
theorem OG {w:World} (a it:Addr):Turn P w K tg (X8 K a) [it] it (fun i h=>h.IsTupleIter it a i) where
 mem:=by simp
 obj:=fun i h st b hb=>by
  have e:b=it:=by simpa using hb
  subst e
  obtain ⟨o,e,c,d⟩:=st
  exact ⟨o,e,fun v z=>by rw [d] at z;cases z⟩
 keep:=fun i h h' st k=>st.at fun o e=>k it (by simp) o e
 item:=by
  intro X hP hw hK hc i pins s σ H E I hf st hg
  subst hP hw hK
  obtain ⟨xs,x,hq,hx⟩:=hg
  obtain ⟨its,rv,p,hz⟩:=I.tuple hq
  obtain ⟨u,hu,ru⟩:=rv.get hx
  obtain ⟨f0,f1,f2,f3,f4,f5⟩:=hf it (by simp)
  refine wpAny_pyNext_tuple_item st (show s.heap.IsTuple a its.toArray from p) (x:=u) (by simpa using hu) fun h' st' sb=>?_
  have I1:Inv X pins σ H { s with heap:=h' }:=I.turned (t':=s.toks) (fun b o hb e=>(sb.2 b hb).trans e) f0 f1 f3 f4 f5
  obtain ⟨o,e,c,d⟩:=id st'
  exact ⟨u,Z,wV (s:={ s with heap:=h' }) e c d (by decide) ⟨x,H,I1,ru,⟨Z,fun ys hy=>by rw [I.Qq hy hq];exact hx⟩,st',fun b hb=>(hf b hb).1⟩⟩
 done:=by
  intro X hP hw hK hc i pins s σ H E I hf st hg
  subst hP hw hK
  obtain ⟨xs,hq,hx⟩:=hg
  obtain ⟨its,rv,p,hz⟩:=I.tuple hq
  obtain ⟨f0,f1,f2,f3,f4,f5⟩:=hf it (by simp)
  have hl:=rv.length
  exact wpAny_pyNext_tuple_end (I.ok.hd hc) st (show s.heap.IsTuple a its.toArray from p) (by simp;omega) fun h' eb=>⟨Z,I.turned (t':=s.toks) (fun b o hb e=>eb b o hb e) f0 f1 f3 f4 f5⟩
 self:=fun _ _ _ _ _ st h=>wpAny_pyIter_tupleiter st h
theorem OH {w:World} (it:Addr) (lo:Int) (n:Nat):Turn P w K tg (U_ lo n) [it] it (fun i h=>IsRangeIter h it (lo+(i:Nat)*1) ((n:Int)-(i:Nat)) 1) where
 mem:=by simp
 obj:=fun i h st b hb=>by
  have e:b=it:=by simpa using hb
  subst e
  exact ⟨_,st,fun v z=>by
   have z':Data.fields _=Data.cell v:=z
   cases z'⟩
 keep:=fun i h h' st k=>k it (by simp) _ st
 item:=by
  intro X hP hw hK hc i pins s σ H E I hf st hg
  subst hP hw hK
  obtain ⟨f0,f1,f2,f3,f4,f5⟩:=hf it (by simp)
  have W:=Walks.range (prog:=X.prog) (w:=X.w) (I.ok.hd hc) it lo 1 n
  refine W.item i s _ _ hg st fun v h' tk hv st' kk=>?_
  obtain ⟨t,rfl⟩:=hv
  have I1:Inv X pins σ H { s with heap:=h',toks:=tk }:=I.turned (fun b o hb e=>kk b o (by simpa using hb) e) f0 f1 f3 f4 f5
  refine ⟨_,Z,wV (s:={ s with heap:=h',toks:=tk }) (n:="range_iterator") st' rfl rfl (by decide) ⟨.int (lo+i),H,I1,⟨t,?_⟩,⟨Z,Z⟩,st',fun b hb=>(hf b hb).1⟩⟩
  rw [zP]
 done:=by
  intro X hP hw hK hc i pins s σ H E I hf st hg
  subst hP hw hK
  obtain ⟨f0,f1,f2,f3,f4,f5⟩:=hf it (by simp)
  exact wpAny_pyNext_range_end (I.ok.hd hc) st (by have:n<=i:=hg;omega) fun h' eb=>⟨Z,I.turned (t':=s.toks) (fun b o hb e=>eb b o hb e) f0 f1 f3 f4 f5⟩
 self:=fun _ _ _ _ _ st h=>wpAny_pyIter_rangeiter st h
variable {tl:TE} {fp:List Addr}
section
variable {X:Cx} {tg:Expr}
inductive X_ (K:Fg) (R:It->Hp->Prop) (x:V) (H1:Hp):Prop
 | mk  (a:_) (_:x = .ref a) (_:(∃xs,aH K H1 a xs)) (_:R (x_ K a:_) H1)
def Va (K:Fg) (tl:TE):TI:=fun σ H R=>tl σ H (X_ K R)
inductive abq (K:Fg) (R:It->Hp->Prop) (x:V) (H1:Hp):Prop
 | mk  (a:_) (_:x = .ref a) (_:(∃xs,bN K H1 a xs)) (_:R (X8 K a:_) H1)
def Yb (K:Fg) (tl:TE):TI:=fun σ H R=>tl σ H (abq K R)
theorem V9 {l:Expr} (hl:PE X l tl):PI X tg l (Va X.K tl):=by
 intro pins s σ H R I h
 refine bf (hl pins s σ H _ I h) fun v s1 ⟨x,H1,I1,r1,q1⟩=>?_
 obtain ⟨a,e,⟨xs,hq⟩,q⟩:=q1
 subst e
 cases r1
 obtain ⟨its,rv,p,hz⟩:=I1.list hq
 refine Ou p.isList ?_
 refine ⟨s1.heap.objs.size,[s1.heap.objs.size],_,_,H1,Z,I1.kept (t':=s1.toks) fun b o e=>b7 _ e,Qs a _,⟨_,d_ _ rfl,Z,Z⟩,fun b hb=>?_,q⟩
 have e:b=s1.heap.objs.size:=by simpa using hb
 subst e
 exact I1.yt (aK _) (I1.hok.fresh (aK _))
theorem Yc {l:Expr} (hl:PE X l tl):PI X tg l (Yb X.K tl):=by
 intro pins s σ H R I h
 refine bf (hl pins s σ H _ I h) fun v s1 ⟨x,H1,I1,r1,q1⟩=>?_
 obtain ⟨a,e,⟨xs,hq⟩,q⟩:=q1
 subst e
 cases r1
 obtain ⟨its,rv,p,hz⟩:=I1.tuple hq
 refine wpAny_pyIter_tuple (show s1.heap.IsTuple a its.toArray from p) ?_
 refine ⟨s1.heap.objs.size,[s1.heap.objs.size],_,_,H1,Z,I1.kept (t':=s1.toks) fun b o e=>b7 _ e,OG a _,⟨_,d_ _ rfl,Z,Z⟩,fun b hb=>?_,q⟩
 have e:b=s1.heap.objs.size:=by simpa using hb
 subst e
 exact I1.yt (aK _) (I1.hok.fresh (aK _))
theorem S3 {R:It->Hp->Prop} {lo hi:Int} {t u v:Tok} {tk:Nat} (I:Inv X pins σ H s) (h1:-(2 ^ 62)<=lo) (h2:lo<2 ^ 62) (h3:-(2 ^ 62)<=hi) (h4:hi<2 ^ 62)
  (q:R (U_ lo (hi-lo).toNat) H):wpAny (model X.prog X.w) X.A (pyIter (.ref s.heap.objs.size)) (PIE X pins σ tg R) E { s with heap:=s.heap.push { cls:= .type "range",data:= .fields #[.int lo t, .int hi u, .int 1 v] },toks:=tk }:=by
 refine wpAny_pyIter_range (IsRange.new ..) (small_one h1 h2 h3 h4) ?_
 have I1:Inv X pins σ H { s with heap:=s.heap.push { cls:= .type "range",data:= .fields #[.int lo t, .int hi u, .int 1 v] },toks:=tk }:=I.kept fun b o e=>b7 _ e
 refine ⟨(s.heap.push { cls:= .type "range",data:= .fields #[.int lo t, .int hi u, .int 1 v] }).objs.size,[(s.heap.push { cls:= .type "range",data:= .fields #[.int lo t, .int hi u, .int 1 v] }).objs.size],_,_,H,Z,
  I1.kept (t':=tk) fun b o e=>b7 _ e,OH _ lo (hi-lo).toNat,?_,fun b hb=>?_,q⟩
 . have e1:lo+((0:Nat):Int)*1=lo:=by simp
   have e2:(((hi-lo).toNat:Nat):Int)-((0:Nat):Int)=Builtin.Range.rangeSize lo hi 1:=by rw [rangeSize_one];split <;> omega
   show IsRangeIter _ _ (lo+((0:Nat):Int)*1) ((((hi-lo).toNat:Nat):Int)-((0:Nat):Int)) 1
   rw [e1,e2]
   exact d_ _ rfl
 . have e:b=(s.heap.push { cls:= .type "range",data:= .fields #[.int lo t, .int hi u, .int 1 v] }).objs.size:=by simpa using hb
   subst e
   exact I1.yt (aK _) (I1.hok.fresh (aK _))
inductive Yd (R:It->Hp->Prop) (vs:List V) (H1:Hp):Prop
 | mk  (j:Int) (_:vs=[.int j]) (_:-(2 ^ 62)<=j) (_:j<2 ^ 62) (_:R (U_ 0 j.toNat) H1)
def abr (ta:TA):TI:=fun σ H R=>ta σ H (Yd R)
def zS (g:TG) (tb:TS) (D:Ends) (σ:St):It->Hp->Prop:=fun J H1=>∃W:Nat->Nat->St->Hp->Prop,(∃m,W 0 m σ H1)/\∀i m σ H,W i m σ H->
 (J.stop i H/\D.nx σ H)\/(J.go i H/\∃N:St->Hp->Prop,(∀σ' H',N σ' H'->∃m',m'<m/\W (i+1) m' σ' H')/\∀x H',J.BN i H x H'->g x σ H' (tb (D.lp N)))
def aeV (wi:TI) (g:TG) (tb:TS):TS:=fun D σ H=>wi σ H (zS g tb D σ)
def BO (fp:List Addr) (h:Heap):List (Addr×Obj):=fp.filterMap fun b=>(h.get? b).map fun o=>(b,o)
theorem je {o:Obj} (hb:b∈fp) (e:h.get? b=some o):(b,o)∈BO fp h:=DI.mpr ⟨b,hb,by rw [e];rfl⟩
theorem Qt {p:Addr×Obj} (hp:p∈BO fp h):p.1∈fp/\h.get? p.1=some p.2:=by
 obtain ⟨b,hb,e⟩:=DI.mp hp
 cases q:h.get? b with
 | none=>rw [q] at e;cases e
 | some o=>
   rw [q] at e
   have e':(b,o)=p:=fH e
   subst e'
   exact ⟨hb,q⟩
theorem Inv.pinned (I:Inv X pins σ H s) (hf:∀b∈fp,oE X pins H b) (ho:∀b∈fp,∃o,s.heap.get? b=some o/\∀v,o.data ≠ .cell v):Inv X (pins++BO fp s.heap) σ H s:=
 I.MO fun p hp=>(gi.mp hp).elim (fun z=>I.pin p (jn _ z)) fun z=>by
   obtain ⟨hb,e⟩:=Qt z
   obtain ⟨f0,f1,f2,_⟩:=hf p.1 hb
   obtain ⟨o,e',d⟩:=ho p.1 hb
   rw [e] at e';cases e'
   exact ⟨e,f0,f1,f2,d⟩
theorem Inv.pV {pl:AO} (I:Inv X (pins++pl) σ H s):Inv X pins σ H s:=I.MO fun p hp=>I.pin p (jn _ (AD _ hp))
end
variable {tb:TS}
theorem jS {g:TG} (Pv:Nat->St->Hp->Prop) (h0:Pv 0 σ H) (hl:∀i σ H,i<=xs.length->Pv i σ H->aH K H a xs)
  (hs:∀i x σ H,xs[i]?=some x->Pv i σ H->g x σ H (tb (D.lp (Pv (i+1))))) (hd:∀σ H,Pv xs.length σ H->D.nx σ H):
  zS g tb D σ (x_ K a) H:=by
 refine ⟨fun i m σ H=>m=xs.length-i/\i<=xs.length/\Pv i σ H,⟨xs.length,by simp,gj _,h0⟩,?_⟩
 rintro i m σ H ⟨rfl,hi,p⟩
 have q:=hl i σ H hi p
 by_cases hlt:i<xs.length
 . refine .inr ⟨⟨xs,xs[i],q,by simp [hlt]⟩,Pv (i+1),fun σ' H' p'=>⟨xs.length-(i+1),by omega,Z,hlt,p'⟩,fun x H' y=>?_⟩
   obtain ⟨e,y⟩:=y
   subst e
   exact hs i x σ _ (y xs q) p
 . have e:i=xs.length:=by omega
   subst e
   exact .inl ⟨⟨xs,q,aK _⟩,hd σ H p⟩
theorem V_ {g:TG} (Pv:Nat->St->Hp->Prop) (h0:Pv 0 σ H) (hl:∀i σ H,i<=xs.length->Pv i σ H->bN K H a xs)
  (hs:∀i x σ H,xs[i]?=some x->Pv i σ H->g x σ H (tb (D.lp (Pv (i+1))))) (hd:∀σ H,Pv xs.length σ H->D.nx σ H):
  zS g tb D σ (X8 K a) H:=by
 refine ⟨fun i m σ H=>m=xs.length-i/\i<=xs.length/\Pv i σ H,⟨xs.length,by simp,gj _,h0⟩,?_⟩
 rintro i m σ H ⟨rfl,hi,p⟩
 have q:=hl i σ H hi p
 by_cases hlt:i<xs.length
 . refine .inr ⟨⟨xs,xs[i],q,by simp [hlt]⟩,Pv (i+1),fun σ' H' p'=>⟨xs.length-(i+1),by omega,Z,hlt,p'⟩,fun x H' y=>?_⟩
   obtain ⟨e,y⟩:=y
   subst e
   exact hs i x σ _ (y xs q) p
 . have e:i=xs.length:=by omega
   subst e
   exact .inl ⟨⟨xs,q,aK _⟩,hd σ H p⟩
theorem nL {lo:Int} {n:Nat} {g:TG} (Pv:Nat->St->Hp->Prop) (h0:Pv 0 σ H)
  (hs:∀i σ H,i<n->Pv i σ H->g (.int (lo+i)) σ H (tb (D.lp (Pv (i+1))))) (hd:∀σ H,Pv n σ H->D.nx σ H):
  zS g tb D σ (U_ lo n) H:=by
 refine ⟨fun i m σ H=>m=n-i/\i<=n/\Pv i σ H,⟨n,by simp,gj _,h0⟩,?_⟩
 rintro i m σ H ⟨rfl,hi,p⟩
 by_cases hlt:i<n
 . refine .inr ⟨hlt,Pv (i+1),fun σ' H' p'=>⟨n-(i+1),by omega,Z,hlt,p'⟩,fun x H' y=>?_⟩
   obtain ⟨e,y⟩:=y
   subst e y
   exact hs i σ _ hlt p
 . have e:i=n:=by omega
   subst e
   exact .inl ⟨aK _,hd σ H p⟩
abbrev R2:=V->V->Hp->VK->Prop
def iL (X:Cx) (f:Value->Value->Sem Value) (r:R2):Prop:=
 ∀(pins:AO) (s:Shared) (σ:St) (H:Hp) (x y:V) (v u:Value) (Q:VK),Inv X pins σ H s->RelV x v->RelV y u->r x y H Q->
  wpAny (model X.prog X.w) X.A (f v u) (EP X pins σ Q) X.xe s
def Ye (X:Cx) (f:Value->Sem Value) (r:V->Hp->VK->Prop):Prop:=
 ∀(pins:AO) (s:Shared) (σ:St) (H:Hp) (x:V) (v:Value) (Q:VK),Inv X pins σ H s->RelV x v->r x H Q->
  wpAny (model X.prog X.w) X.A (f v) (EP X pins σ Q) X.xe s
def iy (X:Cx) (f:Value) (r:List V->Hp->VK->Prop):Prop:=
 ∀(pins:AO) (s:Shared) (σ:St) (H:Hp) (xs:List V) (us:List Value) (Q:VK),Inv X pins σ H s->Vals xs us->r xs H Q->
  wpAny (model X.prog X.w) X.A (call f us) (EP X pins σ Q) X.xe s
def Yg (r:R2) (Q:VK) (x:V):V->Hp->Prop:=fun y H2=>r x y H2 Q
def aeW (r:R2) (tb:TE) (σ:St) (Q:VK):V->Hp->Prop:=fun x H1=>tb σ H1 (Yg r Q x)
def MP (r:R2) (ta tb:TE):TE:=fun σ H Q=>ta σ H (aeW r tb σ Q)
def aeX (r:V->Hp->VK->Prop) (Q:VK):V->Hp->Prop:=fun x H1=>r x H1 Q
def tUn (r:V->Hp->VK->Prop) (ta:TE):TE:=fun σ H Q=>ta σ H (aeX r Q)
inductive rI (C:Int->Int->Prop) (g:Int->Int->V) (x:V) (y:V) (H:Hp) (Q:VK):Prop
 | mk  (i j:_) (_:x = .int i) (_:y = .int j) (_:C i j) (_:Q (g i j:_) H)
inductive Aj (g:Int->Int->V) (x:V) (y:V) (H:Hp) (Q:VK):Prop
 | mk  (i j:_) (_:x = .int i) (_:y = .int j) (_:Q (g i j:_) H)
inductive rU (g:Int->V) (x:V) (H:Hp) (Q:VK):Prop
 | mk  (i:_) (_:x = .int i) (_:Q (g i:_) H)
section
variable {X:Cx} {a b c:Expr} {ta tb tc:TE} {pos:Pos}
theorem S4 (ha:PE X a ta) (hb:PE X b tb) {R:V->V->Hp->Prop} (I:Inv X pins σ H s)
  (h:ta σ H fun x H1=>tb σ H1 fun y H2=>R x y H2) {Q:VS} {f:Value->Value->Sem Value}
  (hf:∀v u s2 x y H2,Inv X pins σ H2 s2->RelV x v->RelV y u->R x y H2->wpAny (model X.prog X.w) X.A (f v u) Q X.xe s2):
  wpAny (model X.prog X.w) X.A (eval a X.env) (fun v s₁=>wpAny (model X.prog X.w) X.A (eval b X.env) (fun u s₂=>wpAny (model X.prog X.w) X.A (f v u) Q X.xe s₂) X.xe s₁) X.xe s:=by
 refine bf (ha pins s σ H _ I h) fun v s1 ⟨x,H1,I1,r1,q1⟩=>?_
 refine bf (hb pins s1 σ H1 _ I1 q1) fun u s2 ⟨y,H2,I2,r2,q2⟩=>?_
 exact hf v u s2 x y H2 I2 r1 r2 q2
theorem Qu {f:Value->Value->Sem Value} {C:Int->Int->Prop} {g:Int->Int->Int}
  (rule:∀(i j:Int) (t u:Tok) (s:Shared) (Q:VS) (E:VS),C i j->Q (.int (g i j) s.toks) { s with toks:=s.toks+1 }->wpAny (model X.prog X.w) X.A (f (.int i t) (.int j u)) Q E s):
  iL X f (rI C fun i j=> .int (g i j)):=by
 intro pins s σ H x y v u Q I rx ry h
 obtain ⟨i,j,rfl,rfl,hc,q⟩:=h
 obtain ⟨t,rfl⟩:=rx
 obtain ⟨t',rfl⟩:=ry
 exact rule i j t t' s _ _ hc ⟨.int (g i j),H,I.tok _,⟨_,Z⟩,q⟩
theorem Yh {f:Value->Value->Sem Value} {g:Int->Int->Int}
  (rule:∀(i j:Int) (t u:Tok) (s:Shared) (Q:VS) (E:VS),Q (.int (g i j) s.toks) { s with toks:=s.toks+1 }->wpAny (model X.prog X.w) X.A (f (.int i t) (.int j u)) Q E s):
  iL X f (Aj fun i j=> .int (g i j)):=by
 intro pins s σ H x y v u Q I rx ry h
 obtain ⟨i,j,rfl,rfl,q⟩:=h
 obtain ⟨t,rfl⟩:=rx
 obtain ⟨t',rfl⟩:=ry
 exact rule i j t t' s _ _ ⟨.int (g i j),H,I.tok _,⟨_,Z⟩,q⟩
theorem OI {f:Value->Value->Sem Value} {g:Int->Int->Bool}
  (rule:∀(i j:Int) (t u:Tok) (s:Shared) (Q:VS) (E:VS),Q (.bool (g i j)) s->wpAny (model X.prog X.w) X.A (f (.int i t) (.int j u)) Q E s):
  iL X f (Aj fun i j=> .bl (g i j)):=by
 intro pins s σ H x y v u Q I rx ry h
 obtain ⟨i,j,rfl,rfl,q⟩:=h
 obtain ⟨t,rfl⟩:=rx
 obtain ⟨t',rfl⟩:=ry
 exact rule i j t t' s _ _ ⟨.bl (g i j),H,I,Z,q⟩
def S7 (i j:Int):Prop:=0<=j/\j<=1000000/\i.natAbs<2 ^ 64
def Ib (i j:Int):Prop:=(-(2 ^ 64)<i/\i<2 ^ 64)\/(-(2 ^ 64)<j/\j<2 ^ 64)
theorem Ib.ok {i j:Int} (h:Ib i j):IntMulOk i j:=by
 rcases h with ⟨h1,h2⟩|⟨h1,h2⟩
 . exact .of_left (intBits_le_64 h1 h2)
 . exact .of_right (intBits_le_64 h1 h2)
theorem cI:iL X (binaryOp .Add) (Aj fun i j=> .int (i+j)):=Yh fun _ _ _ _ _ _ _ q=>add_int q
theorem kW:iL X (binaryOp .Sub) (Aj fun i j=> .int (i-j)):=Yh fun _ _ _ _ _ _ _ q=>sub_int q
theorem gk:iL X (binaryOp .Mult) (rI Ib fun i j=> .int (i*j)):=Qu fun _ _ _ _ _ _ _ hc q=>mul_int q hc.ok
theorem j_:iL X (binaryOp .Mod) (rI (fun _ j=>0<j) fun i j=> .int (i % j)):=Qu fun i j _ _ _ _ _ hc q=>by
 have h1:(0:Int)<j:=hc
 exact mod_int' (by omega) (by rw [Int.fmod_eq_emod_of_nonneg i (by omega)];exact q)
theorem mz:iL X (binaryOp .Pow) (rI S7 fun i j=> .int (i ^ j.toNat)):=Qu fun _ _ _ _ _ _ _ hc q=>pow_int_small hc.1 hc.2.1 hc.2.2 q
theorem unI {f:Value->Sem Value} {g:Int->Int}
  (rule:∀(i:Int) (t:Tok) (s:Shared) (Q:VS) (E:VS),Q (.int (g i) s.toks) { s with toks:=s.toks+1 }->wpAny (model X.prog X.w) X.A (f (.int i t)) Q E s):
  Ye X f (rU fun i=> .int (g i)):=by
 intro pins s σ H x v Q I rx h
 obtain ⟨i,rfl,q⟩:=h
 obtain ⟨t,rfl⟩:=rx
 exact rule i t s _ _ ⟨.int (g i),H,I.tok _,⟨_,Z⟩,q⟩
theorem Qv:Ye X (unaryOp .USub) (rU fun i=> .int (-i)):=unI fun _ _ _ _ _ q=>neg_int q
end
def Yi:V->V->Bool
 | .bU, .bU=>true | .bU, .int _=>true | .int _, .bU=>true | .bU, .bl _=>true | .bl _, .bU=>true | .bU, .str _=>true | .str _, .bU=>true
 | .int _, .int _=>true | .bl _, .bl _=>true | .str _, .str _=>true | .x8 _, .x8 _=>true
 | .int _, .str _=>true | .str _, .int _=>true | .bl _, .str _=>true | .str _, .bl _=>true
 | _,_=>false
inductive rEq (x:V) (y:V) (H:Hp) (Q:VK):Prop
 | mk  (_:Yi x y=true) (_:Q (.bl (decide (x=y))) H)
inductive rNe (x:V) (y:V) (H:Hp) (Q:VK):Prop
 | mk  (_:Yi x y=true) (_:Q (.bl (!decide (x=y))) H)
theorem MQ {i j:Int}:decide (V.int i=V.int j)=(i==j):=by
 rw [zK]
 simp
theorem Qw {i j:Bool}:decide (V.bl i=V.bl j)=(i==j):=by
 rw [zK]
 simp
theorem MR {i j:Str}:decide (V.str i=V.str j)=(i==j):=by
 rw [zK]
 simp
theorem MS {i j:Array UInt8}:decide (V.x8 i=V.x8 j)=(i.toList==j.toList):=by
 rw [zK]
 cases i
 cases j
 simp
variable {op:CmpOp}
section
variable {X:Cx} {a b c:Expr} {ta tb tc:TE} {pos:Pos}
theorem cY {Q:VK} {k k':Bool} (I:Inv X pins σ H s) (q:Q (.bl k) H) (e:k=k'):EP X pins σ Q (.bool k') s:=by
 subst e
 exact ⟨.bl k,H,I,Z,q⟩
theorem dP:iL X (compareOp .Eq) rEq:=by
 intro pins s σ H x y v u Q I rx ry h
 obtain ⟨hs,q⟩:=h
 cases x with
 | bU=>
   cases rx
   cases y with
   | bU=>cases ry;exact PySem.EqNone.eq_none_none (cY I q (by simp))
   | bl j=>cases ry;exact PySem.EqNone.eq_none_bool (cY I q (by simp))
   | int j=>obtain ⟨t',rfl⟩:=ry;exact PySem.EqNone.eq_none_int (cY I q (by simp))
   | str j=>obtain ⟨t',rfl⟩:=ry;exact PySem.EqNone.eq_none_str (cY I q (by simp))
   | _=>exact absurd (show false=true from hs) fM
 | bl i=>
   cases rx
   cases y with
   | bU=>cases ry;exact PySem.EqNone.eq_bool_none (cY I q (by simp))
   | bl j=>cases ry;exact eq_bool (cY I q Qw)
   | str j=>obtain ⟨t',rfl⟩:=ry;exact PySem.EqMixed.eq_bool_str (cY I q (by simp))
   | _=>exact absurd (show false=true from hs) fM
 | int i=>
   obtain ⟨t,rfl⟩:=rx
   cases y with
   | bU=>cases ry;exact PySem.EqNone.eq_int_none (cY I q (by simp))
   | int j=>obtain ⟨t',rfl⟩:=ry;exact eq_int (cY I q MQ)
   | str j=>obtain ⟨t',rfl⟩:=ry;exact PySem.EqMixed.eq_int_str (cY I q (by simp))
   | _=>exact absurd (show false=true from hs) fM
 | str i=>
   obtain ⟨t,rfl⟩:=rx
   cases y with
   | bU=>cases ry;exact PySem.EqNone.eq_str_none (cY I q (by simp))
   | bl j=>cases ry;exact PySem.EqMixed.eq_str_bool (cY I q (by simp))
   | int j=>obtain ⟨t',rfl⟩:=ry;exact PySem.EqMixed.eq_str_int (cY I q (by simp))
   | str j=>obtain ⟨t',rfl⟩:=ry;exact eq_str (cY I q MR)
   | _=>exact absurd (show false=true from hs) fM
 | x8 i=>
   obtain ⟨t,rfl⟩:=rx
   cases y with
   | x8 j=>obtain ⟨t',rfl⟩:=ry;exact PySem.W.eq_bytes (cY I q MS)
   | _=>exact absurd (show false=true from hs) fM
 | _=>cases y <;> exact absurd (show false=true from hs) fM
theorem Vb:iL X (compareOp .NotEq) rNe:=by
 intro pins s σ H x y v u Q I rx ry h
 obtain ⟨hs,q⟩:=h
 cases x with
 | bU=>
   cases rx
   cases y with
   | bU=>cases ry;exact PySem.EqNone.ne_none_none (cY I q (by simp))
   | bl j=>cases ry;exact PySem.EqNone.ne_none_bool (cY I q (by simp))
   | int j=>obtain ⟨t',rfl⟩:=ry;exact PySem.EqNone.ne_none_int (cY I q (by simp))
   | str j=>obtain ⟨t',rfl⟩:=ry;exact PySem.EqNone.ne_none_str (cY I q (by simp))
   | _=>exact absurd (show false=true from hs) fM
 | bl i=>
   cases rx
   cases y with
   | bU=>cases ry;exact PySem.EqNone.ne_bool_none (cY I q (by simp))
   | bl j=>cases ry;exact ne_bool (cY I q (jx not Qw))
   | str j=>obtain ⟨t',rfl⟩:=ry;exact PySem.EqMixed.ne_bool_str (cY I q (by simp))
   | _=>exact absurd (show false=true from hs) fM
 | int i=>
   obtain ⟨t,rfl⟩:=rx
   cases y with
   | bU=>cases ry;exact PySem.EqNone.ne_int_none (cY I q (by simp))
   | int j=>obtain ⟨t',rfl⟩:=ry;exact ne_int (cY I q (jx not MQ))
   | str j=>obtain ⟨t',rfl⟩:=ry;exact PySem.EqMixed.ne_int_str (cY I q (by simp))
   | _=>exact absurd (show false=true from hs) fM
 | str i=>
   obtain ⟨t,rfl⟩:=rx
   cases y with
   | bU=>cases ry;exact PySem.EqNone.ne_str_none (cY I q (by simp))
   | bl j=>cases ry;exact PySem.EqMixed.ne_str_bool (cY I q (by simp))
   | int j=>obtain ⟨t',rfl⟩:=ry;exact PySem.EqMixed.ne_str_int (cY I q (by simp))
   | str j=>obtain ⟨t',rfl⟩:=ry;exact ne_str (cY I q (jx not MR))
   | _=>exact absurd (show false=true from hs) fM
 | x8 i=>
   obtain ⟨t,rfl⟩:=rx
   cases y with
   | x8 j=>obtain ⟨t',rfl⟩:=ry;exact PySem.W.ne_bytes (cY I q (jx not MS))
   | _=>exact absurd (show false=true from hs) fM
 | _=>cases y <;> exact absurd (show false=true from hs) fM
theorem qC:iL X (compareOp .Lt) (Aj fun i j=> .bl (decide (i<j))):=OI fun _ _ _ _ _ _ _ q=>lt_int q
theorem Vc:iL X (compareOp .LtE) (Aj fun i j=> .bl (decide (i<=j))):=OI fun _ _ _ _ _ _ _ q=>le_int q
theorem jT:iL X (compareOp .Gt) (Aj fun i j=> .bl (decide (j<i))):=OI fun _ _ _ _ _ _ _ q=>gt_int q
theorem HB:iL X (compareOp .GtE) (Aj fun i j=> .bl (decide (j<=i))):=OI fun _ _ _ _ _ _ _ q=>ge_int q
theorem Qx:iL X (compareOp .In) (fun x y H Q=>∃i j,x = .str i/\y = .str j/\Q (.bl (!(Builtin.Str.occurrences j i 0 j.length 1).isEmpty)) H):=by
 intro pins s σ H x y v u Q I rx ry h
 obtain ⟨i,j,rfl,rfl,q⟩:=h
 obtain ⟨t,rfl⟩:=rx
 obtain ⟨t',rfl⟩:=ry
 exact in_str (cY I q rfl)
theorem aX (b:Expr) (h:op ≠ .In:=by decide) (h2:op ≠ .NotIn:=by decide):behindInMarks op b=false:=by
 have e1:(op==CmpOp.In)=false:=by cases op <;> first|rfl|exact absurd rfl h
 have e2:(op==CmpOp.NotIn)=false:=by cases op <;> first|rfl|exact absurd rfl h2
 cases b <;> simp [behindInMarks,e1,e2]
inductive Qy (Q:Bool->Hp->Prop) (x:V) (H':Hp):Prop
 | mk  (k:_) (_:x = .bl k) (_:Q k H')
def OJ (t:TE):TT:=fun σ H Q=>t σ H (Qy Q)
inductive Qz (r':R2) (tc:TE) (σ:St) (Q:VK) (y:V) (z:V) (H3:Hp):Prop
 | mk  (k:_) (_:z = .bl k) (_:(if k=true then tc σ H3 fun w' H4=>r' y w' H4 Q else Q (.bl false) H3))
def QA (r:R2) (r':R2) (tc:TE) (σ:St) (Q:VK) (x:V):V->Hp->Prop:=fun y H2=>r x y H2 (Qz r' tc σ Q y)
def Wa (r:R2) (r':R2) (tb:TE) (tc:TE) (σ:St) (Q:VK):V->Hp->Prop:=fun x H1=>tb σ H1 (QA r r' tc σ Q x)
def Yj (r r':R2) (ta tb tc:TE):TE:=fun σ H Q=>ta σ H (Wa r r' tb tc σ Q)
theorem tN:(sizeLine:Nat)<2 ^ 63:=by rw [jQ];decide
theorem OL:iL X (binaryOp .Add) (fun x y H Q=>∃i j,x = .str i/\y = .str j/\i.length+j.length<=sizeLine/\Q (.str (i++j)) H):=by
 intro pins s σ H x y v u Q I rx ry h
 obtain ⟨i,j,rfl,rfl,hz,q⟩:=h
 obtain ⟨t,rfl⟩:=rx
 obtain ⟨t',rfl⟩:=ry
 exact add_str (fun t' tk=>⟨.str (i++j),H,I.tok _,⟨_,Z⟩,q⟩) hz
theorem vals1 {x:V} (r:Vals [x] us):∃u,us=[u]/\RelV x u:=by
 cases r with
 | cons r1 r2=>cases r2;exact ⟨_,Z,r1⟩
theorem vals2 {x:V} (r:Vals [x,y] us):∃u w',us=[u,w']/\RelV x u/\RelV y w':=by
 cases r with
 | cons r1 r2=>
   cases r2 with
   | cons r3 r4=>cases r4;exact ⟨_,_,Z,r1,r3⟩
theorem yu (hc:X.calm=true):iy X (.builtin "min") (fun xs H Q=>∃i j,xs=[.int i, .int j]/\Q (.int (if j<i then j else i)) H):=by
 intro pins s σ H xs us Q I r h
 obtain ⟨i,j,rfl,q⟩:=h
 obtain ⟨u,w',rfl,⟨t,rfl⟩,⟨t',rfl⟩⟩:=vals2 r
 refine min_two_ints (I.ok.hd hc) fun h' tk k=>⟨_,H,I.kept k,?_,q⟩
 by_cases hj:j<i
 . rw [aB hj,aB hj];exact ⟨_,Z⟩
 . rw [aA hj,aA hj];exact ⟨_,Z⟩
end
structure AI (h:Heap) (x dx C:Addr) (mA:SO):Prop where
 obj:h.get? x=some (PySem.W.instObj C dx)
 ns:h.Ns1 dx mA
 ne:dx≠x
theorem QB {mA:SO} (n:h.Ns1 dx mA):∃od,h.get? dx=some od/\∀name,PySem.W.lookIn name od=some (mA name):=by
 obtain ⟨o,es,ep,ho,hd,hk,_,hm⟩:=n
 refine ⟨o,ho,fun name=>?_⟩
 have e:=hm name
 unfold nsFind findBy at e
 rw [<-Array.find?_toList] at e
 unfold PySem.W.lookIn
 rw [hd]
 dsimp only
 split
 . rename_i y q
   rw [q] at e
   exact jx some e
 . rename_i q
   rw [q] at e
   have a:es.toList.any (·.refKey)=false:=by
    rw [List.any_eq_false]
    intro y hy
    obtain ⟨z,t,hkey⟩:=hk y (Array.mem_toList_iff.mp hy)
    simp [DictEntry.refKey,hkey]
   have a':¬ es.toList.any (·.refKey)=true:=by rw [a];exact fM
   rw [aA a']
   exact jx some e
variable {C:Addr}
theorem AI.look {x dx:Addr} {mA:SO} (I:AI h x dx C mA):∃od,PySem.W.InstAt h x (PySem.W.instObj C dx) C (some od)/\∀name,PySem.W.lookIn name od=some (mA name):=
 let ⟨od,ho,hl⟩:=QB I.ns
 ⟨od,⟨I.obj,Z,Z,ho⟩,hl⟩
variable {kw:List (Str×Value)}
section
variable {prog:Program} {w:World} {A:Around} {E:VS} {s:Shared} {K:Fg} {x dx C f:Addr} {mA:SO} {name:Str} {v:Value}
theorem get_map {expr:Bool} {Q:VS} (X:K.In s.heap) (I:AI s.heap x dx C mA) (hg:PySem.W.plainGet K C name=true) (hh:PySem.W.hasDictIn K C=true)
  (ha:PySem.W.findIn K (.ref C) name=some none) (hv:mA name=some v) (hv':PySem.W.handedIn v=true) (h:Q v { s with toks:=s.toks+1 }):
  wpAny (model prog w) A (getAttr (.ref x) name expr) Q E s:=by
 obtain ⟨od,J,hl⟩:=I.look
 exact PySem.W.get_value X J (PySem.W.plainGet_of hg).1 (PySem.W.findObj_own hh ha rfl (by rw [hl,hv])) hv' h
theorem S9 {pl:Sem Bool} {Q:Value×List Value->Shared->Prop} (X:K.In s.heap) (I:AI s.heap x dx C mA) (hg:PySem.W.plainGet K C name=true)
  (hf:PySem.W.findIn K (.ref C) name=some (some (.ref f))) (ht:PySem.W.isFn K (.ref f)=true) (hv:mA name=none) (h:Q (.ref f,[.ref x]) s):
  wpAny (model prog w) A (getMethod (.ref x) name pl) Q E s:=by
 obtain ⟨od,J,hl⟩:=I.look
 exact PySem.W.method_fn X J (PySem.W.plainGet_of hg).1 (PySem.W.plainGet_of hg).2 hf (mK.mp ht) (by show (PySem.W.lookIn name od).map (·.isSome)=some false;rw [hl,hv];rfl) h
theorem Wb {ns:List Str} (X:K.In s.heap) (I:AI s.heap x dx C mA)
  (hs:PySem.W.findIn K (.ref C) "__setattr__"=some (some (.builtin "object.__setattr__"))) (hp:PySem.W.plainOver K C=true) (ht:PySem.W.takerIn K C name=some none) (hh:PySem.W.hasDictIn K C=true)
  (hw:PySem.Within mA ns) (hsz:ns.length<=sizeLine)
  (h:∀h',AI h' x dx C (fun y=>if y=name then some v else mA y)->Heap.SameBut dx s.heap h'->Q () { s with heap:=h',toks:=s.toks+2 }):
  wpAny (model prog w) A (setAttr (.ref x) name v) Q E s:=by
 obtain ⟨od,J,hl⟩:=I.look
 refine PySem.W.set_plain X J hs (PySem.W.osa_open (s:={ s with toks:=s.toks+1 }) (r:=none) X J hp ht fun b=>?_)
 obtain ⟨cd,hc,hd'⟩:=PySem.W.any_some hh
 have hx:s.heap.get? x=some ⟨.ref C,some dx, .plain,#[]⟩:=I.obj
 refine au (aL (au (au (wpAny_loadPart hx (au (PySem.W.Looks.here (s:={ s with toks:=s.toks+1 }) (PySem.W.looks_clsIn X hc) ?_))))))
 rw [hd']
 refine aL (a:=some dx) (au (aL (au ?_)))
 refine wpAny_nsSet1 (s:={ s with toks:=s.toks+1 }) I.ns fun h' hn2 hs2=>?_
 obtain ⟨oD,esD,epD,hoD,hdD,hcD⟩:=hn2.count (PySem.Within.cons name v hw)
 refine au (wpAny_lookBehind hoD (by rw [hdD];exact pastItsLine_dict (fT hcD (by rw [jP];omega))) ?_)
 exact aL (h _ ⟨(hs2.2 _ (cO I.ne)).trans I.obj,hn2,I.ne⟩ hs2)
theorem S_ {R:Result->Shared->Prop} {vs:List Value} (X:K.In s.heap) (hm:PySem.W.makesIn K C=true)
  (hi:PySem.W.findIn K (.ref C) "__init__"=some (some (.ref f))) (hf:PySem.W.typeIn K (.ref f)=some (.type "function"))
  (h:codeAny (model prog w) (A.under (.builtin "type.__call__" ⟨.ref C::vs,kw⟩)) (.call (.ref f) ⟨.ref (s.heap.objs.size+1)::vs,kw⟩) (PySem.W.InitBack (s.heap.objs.size+1) R)
    { s with heap:=(s.heap.push PySem.W.emptyDict).push (PySem.W.instObj C s.heap.objs.size) }):
  codeAny (model prog w) A (.call (.ref C) ⟨vs,kw⟩) R s:=by
 obtain ⟨hh,g,d,t,os⟩:=s
 exact PySem.W.make_core (PySem.W.makes_of X hm) (PySem.W.looks_findIn X hi) (fun self=>PySem.W.bind_fn X self hf) (.inl rfl) h
end
def aU (f:Str) (v:V):List (Str×V)->List (Str×V)
 | []=>[(f,v)]
 | (g,x)::r=>if g=f then (g,v)::r else (g,x)::aU f v r
theorem Ak (f g:Str) (v:V):∀fs:List (Str×V),(aU f v fs).lookup g=if g=f then some v else fs.lookup g
 | []=>by
   show List.lookup g [(f,v)]=_
   by_cases h:g=f
   . have hb:(g==f)=true:=mK.mpr h
     simp only [List.lookup,hb,aB h]
   . have hb:(g==f)=false:=DF.mpr h
     simp only [List.lookup,hb,aA h]
 | (k,x)::r=>by
   have ih:=Ak f g v r
   rw [show aU f v ((k,x)::r)=(if k=f then (k,v)::r else (k,x)::aU f v r) from rfl]
   by_cases hk:k=f
   . rw [aB hk]
     by_cases h:g=k
     . have hb:(g==k)=true:=mK.mpr h
       simp only [List.lookup,hb,aB (h.trans hk)]
     . have hb:(g==k)=false:=DF.mpr h
       simp only [List.lookup,hb,aA (fun e:g=f=>h (e.trans hk.symm))]
   . rw [aA hk]
     by_cases h:g=k
     . have hb:(g==k)=true:=mK.mpr h
       simp only [List.lookup,hb,aA (fun e:g=f=>hk (h.symm.trans e))]
     . have hb:(g==k)=false:=DF.mpr h
       simp only [List.lookup,hb]
       exact ih
theorem yv (f:Str) (v:V):∀fs:List (Str×V),f∈(aU f v fs).map (·.1)/\∀g,g∈fs.map (·.1)->g∈(aU f v fs).map (·.1)
 | []=>⟨by simp [aU],fun g h=>by simp at h⟩
 | (k,x)::r=>by
   obtain ⟨i1,i2⟩:=yv f v r
   rw [show aU f v ((k,x)::r)=(if k=f then (k,v)::r else (k,x)::aU f v r) from rfl]
   by_cases hk:k=f
   . rw [aB hk]
     subst hk
     exact ⟨by simp,fun g h=>by simpa using h⟩
   . rw [aA hk]
     refine ⟨?_,fun g h=>?_⟩
     . rw [bH]
       exact cC _ i1
     . rw [bH] at h ⊢
       rcases bP.mp h with e|e
       . exact bP.mpr (.inl e)
       . exact cC _ (i2 g e)
theorem Al (f:Str) (v:V):∀fs:List (Str×V),(aU f v fs).length<=fs.length+1
 | []=>by simp [aU]
 | (k,x)::r=>by
   have ih:=Al f v r
   rw [show aU f v ((k,x)::r)=(if k=f then (k,v)::r else (k,x)::aU f v r) from rfl]
   by_cases hk:k=f
   . rw [aB hk,jP,jP];omega
   . rw [aA hk,jP,jP];omega
theorem lY.some_of {v:V} {o:Option Value} (r:lY (some v) o):∃u,o=some u/\RelV v u:=by
 cases o with
 | none=>exact (show False from r).elim
 | some u=>exact ⟨u,Z,r⟩
theorem lY.none_of {o:Option Value} (r:lY none o):o=none:=by
 cases o with
 | none=>rfl
 | some u=>exact (show False from r).elim
theorem QC {v:V} (r:RelV v u):PySem.W.handedIn u=true:=by
 cases v with
 | bU=>cases (show u=Value.none from r);rfl
 | bl b=>cases (show u=Value.bool b from r);rfl
 | int i=>obtain ⟨t,e⟩:=(show ∃t,u=Value.int i t from r);cases e;rfl
 | str x=>obtain ⟨t,e⟩:=(show ∃t,u=Value.str x t from r);cases e;rfl
 | x8 b=>obtain ⟨t,e⟩:=(show ∃t,u=Value.bytes b t from r);cases e;rfl
 | HV b=>obtain ⟨t,e⟩:=(show ∃t,u=Value.float b t from r);cases e;rfl
 | ref a=>cases (show u=Value.ref a from r);rfl
 | ty n=>cases (show u=Value.type n from r);rfl
section
variable {P:Program} {w:World} {H H':Hp} {h h':Heap} {a C dx:Addr} {fs fs':List (Str×V)}
theorem zT (hok:gU P w H h) (e:H a=some (.ins C dx fs)):∃mA,AI h a dx C mA/\(∀f,lY (fs.lookup f) (mA f))/\PySem.Within mA (fs.map (·.1))/\fs.length<=1000/\H dx=some (.own a):=by
 obtain ⟨d,z,ne,ob,mA,n,r,q⟩:=(show dI P w H h a (.ins C dx fs) from hok a _ e)
 exact ⟨mA,⟨ob,n,ne⟩,r,q,z,d⟩
end
structure nM (K:Fg) (C:Addr):Prop where
 pg:PySem.W.plainGet K C Str.empty=true
 hd:PySem.W.hasDictIn K C=true
 po:PySem.W.plainOver K C=true
 sa:PySem.W.findIn K (.ref C) "__setattr__"=some (some (.builtin "object.__setattr__"))
theorem nM.get (c:nM K C) (f:Str):PySem.W.plainGet K C f=true:=c.pg
def e_ (K:Fg) (C:Addr) (f:Str):Prop:=PySem.W.findIn K (.ref C) f=some none
theorem e_.taker {f:Str} (n:e_ K C f):PySem.W.takerIn K C f=some none:=by
 unfold PySem.W.takerIn
 rw [show PySem.W.findIn K (.ref C) f=some none from n]
 rfl
structure Meth (K:Fg) (C:Addr) (m:Str) (f:Addr):Prop where
 at_:PySem.W.findIn K (.ref C) m=some (some (.ref f))
 fn:PySem.W.isFn K (.ref f)=true
 kp:PySem.W.keepIn K (.ref f)=true
variable {env:Env}
section
variable {X:Cx} {pins:AO} {σ:St} {H:Hp} {s:Shared} {a C dx:Addr} {fs:List (Str×V)} {f:Str} {v:V} {A:Around} {E:VS}
theorem BP {b:Bool} {Q:VS} (I:Inv X pins σ H s) (e:H a=some (.ins C dx fs)) (c:nM X.K C) (n:e_ X.K C f) (l:fs.lookup f=some v)
  (h:∀u s',Inv X pins σ H s'->RelV v u->Q u s'):wpAny (model X.prog X.w) A (getAttr (.ref a) f b) Q E s:=by
 obtain ⟨mA,O,r,_,_,_⟩:=zT I.hok e
 obtain ⟨u,hu,ru⟩:=lY.some_of (v:=v) (o:=mA f) (by rw [<-l];exact r f)
 exact get_map I.jA O (c.get f) c.hd n hu (QC ru) (h u _ (I.tok _) ru)
theorem BQ {m:Str} {g:Addr} {pl:Sem Bool} {Q:Value×List Value->Shared->Prop} (I:Inv X pins σ H s) (e:H a=some (.ins C dx fs)) (c:nM X.K C) (k:Meth X.K C m g) (l:fs.lookup m=none)
  (h:Q (.ref g,[.ref a]) s):wpAny (model X.prog X.w) A (getMethod (.ref a) m pl) Q E s:=by
 obtain ⟨mA,O,r,_,_,_⟩:=zT I.hok e
 have hn:mA m=none:=lY.none_of (by rw [<-l];exact r m)
 exact S9 I.jA O (c.get m) k.at_ k.fn hn h
theorem BR (I:Inv X pins σ H s) (e:H a=some (.ins C dx fs)) (c:nM X.K C) (n:e_ X.K C f) (hl:fs.length<1000) (ry:RelV y u)
  (h:∀s',Inv X pins σ (upd H a (.ins C dx (aU f y fs))) s'->Q () s'):wpAny (model X.prog X.w) A (setAttr (.ref a) f u) Q E s:=by
 obtain ⟨mA,O,r,wi,_,ho⟩:=zT I.hok e
 have hz:(fs.map (·.1)).length<=sizeLine:=by rw [aE,jQ];omega
 refine Wb I.jA O c.sa c.po n.taker c.hd wi hz fun h' O' sb=>h _ ?_
 have hd:∃o,h'.get? dx=some o:=let ⟨o,_,_,e',_⟩:=O'.ns;⟨o,e'⟩
 refine I.write (x:=a) (e:=dx) (by rw [e];exact True.intro) (.inr ho) (fun b q hb z=>(sb.2 b hb).trans z) hd ?_
 refine ⟨by rw [az O.ne];exact ho,?_,O.ne,O'.obj,_,O'.ns,fun g=>?_,fun g hg=>?_⟩
 . have:=Al f y fs;omega
 . show lY ((aU f y fs).lookup g) (if g=f then some u else mA g)
   rw [Ak]
   by_cases q:g=f
   . rw [aB q,aB q];exact ry
   . rw [aA q,aA q];exact r g
 . by_cases q:g=f
   . rw [q];exact (yv f y fs).1
   . refine (yv f y fs).2 g (wi g fun z=>hg ?_)
     show (if g=f then some u else mA g)=none
     rw [aA q];exact z
theorem Inv.made (I:Inv X pins σ H s):Inv X pins σ (upd (upd H s.heap.objs.size (.own (s.heap.objs.size+1))) (s.heap.objs.size+1) (.ins C s.heap.objs.size []))
  { s with heap:=(s.heap.push PySem.W.emptyDict).push (PySem.W.instObj C s.heap.objs.size) }:=by
 have e1:(s.heap.push PySem.W.emptyDict).get? s.heap.objs.size=some PySem.W.emptyDict:=d_ s.heap rfl
 have e2:((s.heap.push PySem.W.emptyDict).push (PySem.W.instObj C s.heap.objs.size)).get? (s.heap.objs.size+1)=some (PySem.W.instObj C s.heap.objs.size):=by
  have:=d_ (s.heap.push PySem.W.emptyDict) (o:=PySem.W.instObj C s.heap.objs.size) rfl
  rwa [lH] at this
 have e3:(s.heap.push PySem.W.emptyDict).Ns s.heap.objs.size (fun _=>none):=⟨PySem.W.emptyDict,#[],_,e1,Z,(fun e he=>absurd he (by simp)),fun _=>rfl⟩
 have I1:=I.laid (a:=s.heap.objs.size) (o:= .own (s.heap.objs.size+1)) (h':=s.heap.push PySem.W.emptyDict) (t':=s.toks) (fun b u q=>b7 _ q) (aK _) ⟨_,e1⟩
 refine I1.laid (a:=s.heap.objs.size+1) (o:= .ins C s.heap.objs.size []) (t':=s.toks) (fun b u q=>b7 _ q) (Nat.le_of_eq (lH _ _)) ?_
 have ne:s.heap.objs.size≠s.heap.objs.size+1:=fq (Nat.lt_succ_self _)
 refine ⟨by rw [az ne,ah],gj _,ne,e2,fun _=>none,(Heap.Ns1.of_empty e3).at fun o q=>b7 _ q,fun _=>True.intro,fun y hy=>absurd rfl hy⟩
theorem Wc {prog:Program} {w:World} {f:Str} {s:Shared} {Q:VS} (hb:attributeBase e f env (eval e env)=eval e env)
  (h:wpAny (model prog w) A (eval e env) (fun o s₁=>wpAny (model prog w) A (getAttr o f true) Q E s₁) E s):wpAny (model prog w) A (eval (.Attribute e f pos) env) Q E s:=
 Attribute_any_ h (by rw [arm_eval_Attribute,hb])
end
inductive abt (K:Fg) (f:Str) (Q:VK) (x:V) (H1:Hp):Prop
 | mk  (a C dx fs v:_) (_:x = .ref a) (_:H1 a=some (.ins C dx fs)) (_:nM K C) (_:e_ K C f) (_:fs.lookup f=some v) (_:Q v H1)
def Yk (K:Fg) (ta:TE) (f:Str):TE:=fun σ H Q=>ta σ H (abt K f Q)
inductive Wd (K:Fg) (f:Str) (D:Ends) (σ:St) (y:V) (x:V) (H2:Hp):Prop
 | mk  (a C dx fs:_) (_:x = .ref a) (_:H2 a=some (.ins C dx fs)) (_:nM K C) (_:e_ K C f) (_:fs.length<1000) (_:D.nx σ (upd H2 a (.ins C dx (aU f y fs))))
def abu (K:Fg) (ta:TE) (f:Str) (D:Ends) (σ:St):V->Hp->Prop:=fun y H1=>ta σ H1 (Wd K f D σ y)
def Yl (K:Fg) (ta tv:TE) (f:Str):TS:=fun D σ H=>tv σ H (abu K ta f D σ)
def Ic (X:Cx) (op:Operator) (rd:V->V->Hp->VK->Prop):Prop:=
 ∀(pins:AO) (s:Shared) (σ:St) (H:Hp) (x y:V) (u v:Value) (Q:VK),Inv X pins σ H s->RelV x u->RelV y v->rd x y H Q->wpAny (model X.prog X.w) X.A (inplaceOp op u v) (EP X pins σ Q) X.xe s
inductive OM (f:Str) (D:Ends) (σ:St) (a:Addr) (C:Addr) (z:V) (H3:Hp):Prop
 | mk  (Ym fs':_) (_:H3 a=some (.ins C Ym fs')) (_:fs'.length<1000) (_:D.nx σ (upd H3 a (.ins C Ym (aU f z fs'))))
def ON (rd:V->V->Hp->VK->Prop) (f:Str) (D:Ends) (σ:St) (a:Addr) (C:Addr) (v:V):V->Hp->Prop:=fun y H2=>rd v y H2 (OM f D σ a C)
inductive Tc (K:Fg) (tv:TE) (rd:V->V->Hp->VK->Prop) (f:Str) (D:Ends) (σ:St) (x:V) (H1:Hp):Prop
 | mk  (a C dx fs v:_) (_:x = .ref a) (_:H1 a=some (.ins C dx fs)) (_:nM K C) (_:e_ K C f) (_:fs.lookup f=some v) (_:tv σ H1 (ON rd f D σ a C v))
def MT (K:Fg) (ta tv:TE) (rd:V->V->Hp->VK->Prop) (f:Str):TS:=fun D σ H=>ta σ H (Tc K tv rd f D σ)
variable {rd:V->V->Hp->VK->Prop}
section
variable {X:Cx} {o e value:Expr} {f:Str} {pos pos' tpos:Pos} {ta tv:TE}
theorem Yn (he:PE X e ta) (hb:attributeBase e f X.env (eval e X.env)=eval e X.env):PE X (.Attribute e f pos) (Yk X.K ta f):=by
 intro pins s σ H Q I h
 refine Wc hb (bf (he pins s σ H _ I h) fun u s1 ⟨x,H1,I1,rx,a,C,dx,fs,v,ex,ea,c,n,l,q⟩=>?_)
 subst ex
 obtain rfl:u=Value.ref a:=rx
 exact BP I1 ea c n l fun u' s2 I2 ru=>⟨v,H1,I2,ru,q⟩
theorem Yo (ha:PE X o ta) (hv:PE X value tv) (hs:swapsWith value (some (.Attribute o f pos')) pos.line X.env=pure false):PS X (.Assign [.Attribute o f pos'] value pos) (Yl X.K ta tv f):=by
 intro pins s σ H D I h
 refine plainObj_wpAny_Assign_Attribute (bf (hv pins s σ H _ I h) fun u s1 ⟨y,H1,I1,ry,q⟩=>bf (ha pins s1 σ H1 _ I1 q) fun ov s2 ⟨x,H2,I2,rx,a,C,dx,fs,ex,ea,c,n,l,q2⟩=>?_) hs
 subst ex
 obtain rfl:ov=Value.ref a:=rx
 exact BR I2 ea c n l ry fun s3 I3=>⟨σ,_,I3,q2⟩
theorem QD {op:Operator} (ha:PE X o ta) (hv:PE X value tv) (hop:Ic X op rd):PS X (.AugAssign (.Attribute o f tpos) op value pos) (MT X.K ta tv rd f):=by
 intro pins s σ H D I h
 refine wpAny_AugAssign_AttributeAny (bf (ha pins s σ H _ I h) fun ov s1 ⟨x,H1,I1,rx,a,C,dx,fs,v,ex,ea,c,n,l,q⟩=>?_)
 subst ex
 obtain rfl:ov=Value.ref a:=rx
 refine BP I1 ea c n l fun u s2 I2 ru=>bf (hv pins s2 σ H1 _ I2 q) fun w3 s3 ⟨y,H2,I3,ry,q3⟩=>bf (hop pins s3 σ H2 v y u w3 _ I3 ru ry q3) fun w4 s4 ⟨z,H3,I4,rz,Ym,fs',ea',l',q4⟩=>?_
 exact BR I4 ea' c n l' rz fun s5 I5=>⟨σ,_,I5,q4⟩
inductive aeY (x:V) (y:V) (H:Hp) (Q:VK):Prop
 | mk  (i j:_) (_:x = .int i) (_:y = .int j) (_:Q (.int (i+j)) H)
inductive aeZ (x:V) (y:V) (H:Hp) (Q:VK):Prop
 | mk  (i j:_) (_:x = .int i) (_:y = .int j) (_:Q (.int (i-j)) H)
theorem Yp:Ic X .Add aeY:=by
 rintro pins s σ H x y u v Q I rx ry ⟨i,j,rfl,rfl,q⟩
 obtain ⟨t,rfl⟩:=(show ∃t,u=Value.int i t from rx)
 obtain ⟨t',rfl⟩:=(show ∃t',v=Value.int j t' from ry)
 exact PyProof.Rows.iadd_int ⟨.int (i+j),H,I.tok _,⟨_,Z⟩,q⟩
theorem Ie:Ic X .Sub aeZ:=by
 rintro pins s σ H x y u v Q I rx ry ⟨i,j,rfl,rfl,q⟩
 obtain ⟨t,rfl⟩:=(show ∃t,u=Value.int i t from rx)
 obtain ⟨t',rfl⟩:=(show ∃t',v=Value.int j t' from ry)
 exact PyProof.Rows.isub_int ⟨.int (i-j),H,I.tok _,⟨_,Z⟩,q⟩
end
section
variable {X:Cx} {pins:AO} {σ:St} {H:Hp} {s:Shared} {A:Around} {E:VS} {Q:VS} {c:Value} {b:Bool}
inductive lZ (K:Fg) (H:Hp):V->Value->Prop where
 | bU:lZ K H .bU (.type "NoneType")
 | bl (x:Bool):lZ K H (.bl x) (.type "bool")
 | int (i:Int):lZ K H (.int i) (.type "int")
 | str (x:Str):lZ K H (.str x) (.type "str")
 | HV (x:UInt64):lZ K H (.HV x) (.type "float")
 | lst {a:Addr} {xs:List V} (e:H a=some (.lst xs)):lZ K H (.ref a) (.type "list")
 | eX {a:Addr} {o:Obj} {xs:List V} (e:H a=some (.eX o (.lst xs))):lZ K H (.ref a) (.type "list")
 | tup {a:Addr} {xs:List V} (e:H a=some (.tup xs)):lZ K H (.ref a) (.type "tuple")
 | dK {a:Addr} {kvs:List (Key×V)} (e:H a=some (.dK kvs)):lZ K H (.ref a) (.type "dict")
 | dT {a:Addr} {kvs:List (List Key×V)} (e:H a=some (.dT kvs)):lZ K H (.ref a) (.type "dict")
 | ins {a C dx:Addr} {fs:List (Str×V)} (e:H a=some (.ins C dx fs)) (cl:nM K C) (ha:PySem.W.findIn K (.ref C) "__class__"=some (some (.builtin "object.__class__")))
    (hn:PySem.W.specialIn K (.builtin "object.__class__") "__get__"=some (some (.builtin "getset_descriptor.__get__"))) (htk:PySem.W.takesIn K (.builtin "object.__class__")=some true)
    (hm:PySem.W.mroIn K C (.type "object")=some true):lZ K H (.ref a) (.ref C)
theorem QE {x:V} {t:Value} (I:Inv X pins σ H s) (rx:RelV x u) (ty:lZ X.K H x t) (e:PySem.W.kitOne X.K t c=some b) (h:∀tk,Q (.bool b) { s with toks:=tk }):
  wpAny (model X.prog X.w) A (call (.builtin "isinstance") [u,c]) Q E s:=by
 cases ty with
 | bU=>cases (show u=Value.none from rx);exact n5 PySem.W.kitx_none I.jA True.intro e (fun z=>nomatch z) h
 | bl y=>cases (show u=Value.bool y from rx);exact n5 PySem.W.kitx_bool I.jA True.intro e (fun z=>nomatch z) h
 | int i=>obtain ⟨t,q⟩:=(show ∃t,u=Value.int i t from rx);cases q;exact n5 PySem.W.kitx_int I.jA True.intro e (fun z=>nomatch z) h
 | str y=>obtain ⟨t,q⟩:=(show ∃t,u=Value.str y t from rx);cases q;exact n5 PySem.W.kitx_str I.jA True.intro e (fun z=>nomatch z) h
 | HV y=>obtain ⟨t,q⟩:=(show ∃t,u=Value.float y t from rx);cases q;exact n5 PySem.W.kitx_float I.jA True.intro e (fun z=>nomatch z) h
 | @lst a xs ea=>
   cases (show u=Value.ref a from rx)
   obtain ⟨_,_,n,_,h1⟩:=(show dI X.prog X.w H s.heap a (.lst xs) from I.hok a _ ea)
   exact n5 PySem.W.kitx_list I.jA ⟨_,h1,Z⟩ e (fun z=>nomatch z) h
 | @eX a ob xs ea=>
   cases (show u=Value.ref a from rx)
   obtain ⟨_,_,_,n,_,h1⟩:=(show dI X.prog X.w H s.heap a (.eX ob (.lst xs)) from I.hok a _ ea)
   exact n5 PySem.W.kitx_list I.jA ⟨_,h1,Z⟩ e (fun z=>nomatch z) h
 | @tup a xs ea=>
   cases (show u=Value.ref a from rx)
   obtain ⟨_,_,_,p⟩:=(show dI X.prog X.w H s.heap a (.tup xs) from I.hok a _ ea)
   obtain ⟨o,h1,h2,_⟩:=p
   exact n5 PySem.W.kitx_tuple I.jA ⟨o,h1,h2⟩ e (fun z=>nomatch z) h
 | @dK a kvs ea=>
   cases (show u=Value.ref a from rx)
   obtain ⟨_,_,vs,_,p⟩:=(show dI X.prog X.w H s.heap a (.dK kvs) from I.hok a _ ea)
   obtain ⟨o,es,ep,h1,h2,_⟩:=p
   exact n5 PySem.W.kitx_dict I.jA ⟨o,h1,h2.1⟩ e (fun z=>nomatch z) h
 | @dT a kvs ea=>
   cases (show u=Value.ref a from rx)
   obtain ⟨_,_,xs,_,o,es,ep,h1,h2,_⟩:=(show dI X.prog X.w H s.heap a (.dT kvs) from I.hok a _ ea)
   exact n5 PySem.W.kitx_dict I.jA ⟨o,h1,h2.1⟩ e (fun z=>nomatch z) h
 | @ins a C dx fs ea cl ha hn htk hm=>
   cases (show u=Value.ref a from rx)
   obtain ⟨mA,O,_⟩:=zT I.hok ea
   obtain ⟨od,J,_⟩:=O.look
   exact n5 (PySem.W.kitx_own (cl.get _) cl.hd ha hn htk hm) I.jA J e (fun z=>nomatch z) h
end
structure dm (k:Nat) (A:Around):Prop where
 hd:A.handled=none
 dp:A.depth+3*k+5<recursionLimit
 un:A.units+16*k+200<cLine
theorem dm.mono {k:Nat} {A:Around} (r:dm k A) (h:j<=k):dm j A:=⟨r.hd,by have:=r.dp;omega,by have:=r.un;omega⟩
theorem dm.deeper {k:Nat} {A:Around} (r:dm (k+1) A) (env:Env):dm k (A.deeper env):=
 ⟨r.hd,by have:=r.dp;show A.depth+1+3*k+5<_;omega,by have:=r.un;show A.units+3+16*k+200<_;omega⟩
theorem OO {A:Around}:(A.under (.builtin "type.__call__" ⟨.ref C::us,kw⟩)).depth=A.depth+1:=by
 first|rfl|simp [Around.under,Code.weight,Code.isCreation,Code.isGuard,Code.isCaller,Code.frames,Code.isFrame,guardIds]
theorem OP {A:Around}:(A.under (.builtin "type.__call__" ⟨.ref C::us,kw⟩)).units=A.units+1:=by
 first|rfl|simp [Around.under,Code.cUnits,Code.frames,Code.isFrame]
theorem dm.make {k:Nat} {A:Around} (r:dm (k+1) A) (C:Addr) (us:List Value) (kw:List (Str×Value)):dm k (A.under (.builtin "type.__call__" ⟨.ref C::us,kw⟩)):=
 ⟨r.hd,by have:=r.dp;rw [OO];omega,by have:=r.un;rw [OP];omega⟩
theorem dm.depth {k:Nat} {A:Around} (r:dm k A):A.depth<recursionLimit:=by have:=r.dp;omega
theorem dm.units {k:Nat} {A:Around} (r:dm k A):A.units+64<cLine:=by have:=r.un;omega
def rO:TA:=fun _ H Q=>Q [] H
def Td (Q:List V->Hp->Prop) (x:V):List V->Hp->Prop:=fun xs H2=>Q (x::xs) H2
def Yq (tr:TA) (σ:St) (Q:List V->Hp->Prop):V->Hp->Prop:=fun x H1=>tr σ H1 (Td Q x)
def HC (ta:TE) (tr:TA):TA:=fun σ H Q=>ta σ H (Yq tr σ Q)
section
variable {X:Cx} {e:Expr} {es:List Expr} {te:TE} {t:TA} {pos:Pos}
theorem QF:PA X [] rO:=fun _ _ _ _ H Q I h=>Calls.spliced_nil ⟨[],H,I, .nil,h⟩
theorem MU (ha:PE X e te) (hr:PA X es t) (hs:starEach (e::es) X.env=(false,eval e X.env)::starEach es X.env:=by rfl):PA X (e::es) (HC te t):=by
 intro pos pins s σ H Q I h
 rw [hs]
 show wpAny _ _ (spliced ((false,eval e X.env)::backTo pos (starEach es X.env))) _ _ s
 refine Calls.spliced_cons (bf (ha pins s σ H _ I h) fun u s1 ⟨x,H1,I1,r1,q1⟩=>?_)
 exact bf (hr pos pins s1 σ H1 _ I1 q1) fun us s2 ⟨xs,H2,I2,r2,q2⟩=>⟨x::xs,H2,I2, .cons r1 r2,q2⟩
inductive abv (Q:VK) (xs:List V) (H1:Hp):Prop
 | mk  (_:xs.length<=sizeLine) (_:∀p,H1 p=none->Q (.ref p) (upd H1 p (.tup xs)))
def ae0 (t:TA):TE:=fun σ H Q=>t σ H (abv Q)
inductive abw (Q:VK) (xs:List V) (H1:Hp):Prop
 | mk  (_:xs.length<=sizeLine) (_:∀p,H1 p=none->Q (.ref p) (upd H1 p (.lst xs)))
def ae1 (t:TA):TE:=fun σ H Q=>t σ H (abw Q)
end
abbrev Sp:=List V->Hp->VK->XK->Prop
abbrev vQ:=List Env->Hp->Shared->XK->Value->Shared->Prop
structure AJ (P:Program) (w:World) (K:Fg) (mg:SO) (base:Heap) (A:Around) (outer:List Env) (s:Shared) (H:Hp):Prop where
 frames:A.frames=some outer
 mod:Mod K mg base
 bs:∀b o,base.get? b=some o->s.heap.get? b=some o/\H b=none
 EN:base.objs.size<=s.heap.objs.size
 oz:s.heap.FunFrames base outer
 HY:∀b∈frs outer,H b=none
 hok:gU P w H s.heap
 bare:AllBare s.gens
def CE (outer:List Env) (P:Program) (w:World) (H:Hp) (s:Shared) (Q:VK) (u:Value) (s':Shared):Prop:=
 ∃v H',s'.os=s.os/\AllBare s'.gens/\Un (frs outer) [] H H' s.heap s'.heap/\gU P w H' s'.heap/\RelV v u/\Q v H'
def CR (CX:vQ) (outer:List Env) (P:Program) (w:World) (H:Hp) (s:Shared) (Q:VK) (E:XK) (r:Result) (s':Shared):Prop:=
 match r with
 | .ok (.ret u)=>CE outer P w H s Q u s'
 | .ok _=>False
 | .error e=>CX outer H s E e s'
structure i7 (P:Program) (w:World) (K:Fg) (mg:SO) (base:Heap) (CX:vQ) (k:Nat) (f:Addr) (fd:FuncData) (ps:List Str) (sp:Sp):Prop where
 len:∀vs H Q E,sp vs H Q E->vs.length=ps.length
 run:∀(A:Around) (outer:List Env) (s:Shared) (H:Hp) (args:Args) (us:List Value) (vs:List V) (Q:VK) (E:XK),dm k A->AJ P w K mg base A outer s H->BindsTo s fd args (ps.zip us)->Vals vs us->sp vs H Q E->
  codeAny (model P w) A (.call (.ref f) args) (CR CX outer P w H s Q E) s
variable {mg:SO} {base:Heap}
theorem AJ.make {w:World} {A:Around} {outer:List Env} (e:AJ P w K mg base A outer s H) (C:Addr) (us:List Value) (kw:List (Str×Value)):
  AJ P w K mg base (A.under (.builtin "type.__call__" ⟨.ref C::us,kw⟩)) outer s H:=⟨by first|exact e.frames|(simpa [Around.under,Code.envs,Code.isFrame,pushEnvs] using e.frames),e.mod,e.bs,e.EN,e.oz,e.HY,e.hok,e.bare⟩
section
variable {X:Cx} {pins:AO} {σ:St} {H:Hp} {s s':Shared}
theorem Inv.Yr (I:Inv X pins σ H s):AJ X.prog X.w X.K X.mg X.base X.A X.stack s H:=
 ⟨I.ok.frames,I.ok.mod,I.bs,fT I.ok.EN I.sz,I.stack,I.zR,I.hok,I.bare⟩
theorem Inv.after {Q:VK} (I:Inv X pins σ H s) (h:CE X.stack X.prog X.w H s Q u s'):EP X pins σ Q u s':=by
 obtain ⟨v,H',os,bare,un,hok,r,q⟩:=h
 obtain ⟨hh,g,d,t,os'⟩:=s'
 obtain rfl:os'=s.os:=os
 exact ⟨v,H',I.call (h':=hh) (g':=g) (d':=d) (t':=t) (ch:=[]) un hok bare (fun b z=>absurd z (by simp)),r,q⟩
end
def Ys (sp:Sp) (iM:List V) (E:XK) (Q:VK):List V->Hp->Prop:=fun vs H1=>sp (vs++iM) H1 Q E
def OQ (sp:Sp) (iM:List V) (E:XK) (t:TA):TE:=fun σ H Q=>t σ H (Ys sp iM E Q)
def Te (sp:Sp) (iM:List V) (E:XK) (Q:VK) (x:V):List V->Hp->Prop:=fun vs H2=>sp (x::(vs++iM)) H2 Q E
inductive Yt (C:Addr) (m:Str) (sp:Sp) (iM:List V) (E:XK) (t:TA) (σ:St) (Q:VK) (x:V) (H1:Hp):Prop
 | mk  (a dx fs:_) (_:x = .ref a) (_:H1 a=some (.ins C dx fs)) (_:fs.lookup m=none) (_:t σ H1 (Te sp iM E Q x))
def BS (C:Addr) (m:Str) (sp:Sp) (iM:List V) (E:XK) (ta:TE) (t:TA):TE:=fun σ H Q=>ta σ H (Yt C m sp iM E t σ Q)
def Yu (C:Addr) (sp:Sp) (iM:List V) (E:XK) (Q:VK):List V->Hp->Prop:=fun vs H1=>∀x dx,H1 x=none->H1 dx=none->dx≠x->sp (.ref x::(vs++iM)) (upd (upd H1 dx (.own x)) x (.ins C dx [])) (fun v H2=>v = .bU/\Q (.ref x) H2) E
def HD (C:Addr) (sp:Sp) (iM:List V) (E:XK) (t:TA):TE:=fun σ H Q=>t σ H (Yu C sp iM E Q)
def Binds (K:Fg) (fd:FuncData) (ps:List Str) (ds:List Value):Prop:=
 ∀(s:Shared) (us:List Value),K.In s.heap->(us++ds).length=ps.length->BindsTo s fd ⟨us,[]⟩ (ps.zip (us++ds))
variable {fd:FuncData} {ps:List Str}
theorem Binds.all (h:∀us:List Value,us.length=ps.length->bindArgs fd ⟨us,[]⟩=pure (ps.zip us)):Binds K fd ps [] :=fun s us _ hl=>by
 rw [BA] at hl ⊢
 exact .of_eq (h us hl)
def Passes (CX:vQ) (X:Cx) (E:XK):Prop:=∀(pins:AO) (σ:St) (H:Hp) (s:Shared) (e:Value) (s':Shared),Inv X pins σ H s->CX X.stack H s E e s'->X.xe e s'
section
variable {X:Cx} {CX:vQ} {k:Nat} {f C:Addr} {fd:FuncData} {ps:List Str} {sp:Sp} {iM:List V} {ds:List Value} {E:XK} {x m:Str} {p pos apos:Pos} {e o:Expr} {es:List Expr} {ta:TE} {t:TA}
theorem Ig {Q:VK} {vs:List V} (F:i7 X.prog X.w X.K X.mg X.base CX k f fd ps sp) (hr:dm k X.A) (hb:Binds X.K fd ps ds) (hd:Vals iM ds) (hx:Passes CX X E)
  (I:Inv X pins σ H s) (r:Vals vs us) (h:sp (vs++iM) H Q E):wpAny (model X.prog X.w) X.A (call (.ref f) us) (EP X pins σ Q) X.xe s:=by
 have r2:Vals (vs++iM) (us++ds):=r.append hd
 have hl:(us++ds).length=ps.length:=by rw [<-r2.length];exact F.len _ _ _ _ h
 refine wpAny_call (BH (F.run X.A X.stack s H ⟨us,[]⟩ (us++ds) (vs++iM) Q E hr I.Yr (hb s us I.jA hl) r2 h) fun r s' hq=>?_)
 cases r with
 | error e=>exact hx pins σ H s e s' I hq
 | ok fl=>
   cases fl with
   | ret u=>exact I.after hq
   | next=>exact False.elim hq
   | brk=>exact False.elim hq
   | cont=>exact False.elim hq
theorem MV (F:i7 X.prog X.w X.K X.mg X.base CX k f fd ps sp) (hr:dm k X.A) (hg:Gl X x) (hm:X.mg x=some (.ref f)) (hk:PySem.W.keepIn X.K (.ref f)=true) (hb:Binds X.K fd ps ds) (hd:Vals iM ds) (hx:Passes CX X E)
  (ha:PA X (e::es) t) (hdb:(x==("__debug__":Str))=false:=by decide) (he:starEach (e::es) X.env=(false,eval e X.env)::starEach es X.env:=by rfl) (hpl:(backTo pos (starEach es X.env)).any (·.1)=false:=by rfl):
  PE X (.Call (.Name x p) (e::es) [] pos) (OQ sp iM E t):=by
 intro pins s σ H Q I h
 refine HP (vP I hg hm ?_ hdb)
 refine PySem.W.callWith_K (h₀:=X.base) I.ok.mod.Qo hk (bf (ha pos pins s σ H _ I h) fun us s1 ⟨vs,H1,I1,r,q⟩=>⟨I1.jA,?_⟩) he hpl
 exact Ig F hr hb hd hx I1 r q
theorem MW {pl:Sem Bool} (he:PE X o ta) (c:nM X.K C) (hm:Meth X.K C m f) (F:i7 X.prog X.w X.K X.mg X.base CX k f fd ps sp) (hr:dm k X.A) (hb:Binds X.K fd ps ds) (hd:Vals iM ds) (hx:Passes CX X E) (ha:PA X (e::es) t)
  (hst:starEach (e::es) X.env=(false,eval e X.env)::starEach es X.env:=by rfl) (hpl:(backTo pos (starEach es X.env)).any (·.1)=false:=by rfl)
  (ht:eval (.Call (.Attribute o m apos) (e::es) [] pos) X.env=(do
    let ov <-eval o X.env
    standAt apos.atName
    let (f,first) <-holding [ov] (getMethod ov m pl)
    callWith pos f first (backTo pos (starEach (e::es) X.env)) (backToKw pos (keywordEach [] X.env))):=by rfl):
  PE X (.Call (.Attribute o m apos) (e::es) [] pos) (BS C m sp iM E ta t):=by
 intro pins s σ H Q I h
 refine PySem.W.methodCall_KW (pl:=pl) (bf (he pins s σ H _ I h) fun u s1 ⟨x,H1,I1,rx,a,dx,fs,ex,ea,l,q⟩=>?_) ht
 subst ex
 obtain rfl:u=Value.ref a:=rx
 refine BQ I1 ea c hm l ?_
 refine PySem.W.callWith_K (first:=[.ref a]) (h₀:=X.base) I.ok.mod.Qo hm.kp (bf (ha pos pins s1 σ H1 _ I1 q) fun us s2 ⟨vs,H2,I2,r,q2⟩=>⟨I2.jA,?_⟩) hst hpl
 exact Ig (us:= .ref a::us) (vs:= .ref a::vs) F hr hb hd hx I2 (.cons rfl r) q2
theorem Tf {pl:Sem Bool} (he:PE X o ta) (c:nM X.K C) (hm:Meth X.K C m f) (F:i7 X.prog X.w X.K X.mg X.base CX k f fd ps sp) (hr:dm k X.A) (hb:Binds X.K fd ps ds) (hd:Vals iM ds) (hx:Passes CX X E)
  (ht:eval (.Call (.Attribute o m apos) [] [] pos) X.env=(do
    let ov <-eval o X.env
    standAt apos.atName
    let (f,first) <-holding [ov] (getMethod ov m pl)
    callWith pos f first (backTo pos (starEach [] X.env)) (backToKw pos (keywordEach [] X.env))):=by rfl):
  PE X (.Call (.Attribute o m apos) [] [] pos) (BS C m sp iM E ta rO):=by
 intro pins s σ H Q I h
 refine PySem.W.methodCall_KW (pl:=pl) (bf (he pins s σ H _ I h) fun u s1 ⟨x,H1,I1,rx,a,dx,fs,ex,ea,l,q⟩=>?_) ht
 subst ex
 obtain rfl:u=Value.ref a:=rx
 refine BQ I1 ea c hm l ?_
 exact PySem.W.callWith_K0 (first:=[.ref a]) I1.jA hm.kp (Ig (us:=[.ref a]) (vs:=[.ref a]) F hr hb hd hx I1 (.cons rfl .nil) q)
structure Mk (K:Fg) (C f:Addr):Prop where
 makes:PySem.W.makesIn K C=true
 init:PySem.W.findIn K (.ref C) "__init__"=some (some (.ref f))
 fn:PySem.W.isFn K (.ref f)=true
 kp:PySem.W.keepIn K (.ref C)=true
theorem Ih {Q:VK} {vs:List V} (M:Mk X.K C f) (F:i7 X.prog X.w X.K X.mg X.base CX k f fd ps sp) (hr:dm (k+1) X.A) (hb:Binds X.K fd ps ds) (hd:Vals iM ds)
  (hx:Passes CX X E) (I:Inv X pins σ H s) (r:Vals vs us)
  (h:∀x dx,H x=none->H dx=none->dx≠x->sp (.ref x::(vs++iM)) (upd (upd H dx (.own x)) x (.ins C dx [])) (fun v H2=>v = .bU/\Q (.ref x) H2) E):
  wpAny (model X.prog X.w) X.A (call (.ref C) us) (EP X pins σ Q) X.xe s:=by
 have hq:=h (s.heap.objs.size+1) s.heap.objs.size (I.hok.fresh (zQ _)) (I.hok.fresh (aK _)) (fq (Nat.lt_succ_self _))
 have I2:=Inv.made (C:=C) I
 have r2:Vals (V.ref (s.heap.objs.size+1)::(vs++iM)) (Value.ref (s.heap.objs.size+1)::(us++ds)):= .cons rfl (r.append hd)
 have hl:(Value.ref (s.heap.objs.size+1)::us++ds).length=ps.length:=by
  have e:=r2.length
  rw [F.len _ _ _ _ hq] at e
  exact e.symm
 refine wpAny_call (S_ (f:=f) I.jA M.makes M.init (mK.mp M.fn) (BH (F.run _ X.stack _ _ ⟨Value.ref (s.heap.objs.size+1)::us,[]⟩ (Value.ref (s.heap.objs.size+1)::(us++ds)) _ _ E (hr.make C us [])
  (I2.Yr.make C us []) (hb _ (Value.ref (s.heap.objs.size+1)::us) I2.jA hl) r2 hq) fun r s' hq'=>?_))
 cases r with
 | error e=>exact hx pins σ _ _ e s' I2 hq'
 | ok fl=>
   cases fl with
   | ret u=>
     obtain ⟨v,H',I3,rv,ev,q3⟩:=I2.after hq'
     subst ev
     exact ⟨rv,⟨V.ref (s.heap.objs.size+1),H',I3,Z,q3⟩⟩
   | next=>exact False.elim hq'
   | brk=>exact False.elim hq'
   | cont=>exact False.elim hq'
theorem We (M:Mk X.K C f) (F:i7 X.prog X.w X.K X.mg X.base CX k f fd ps sp) (hr:dm (k+1) X.A) (hg:Gl X x) (hm:X.mg x=some (.ref C)) (hb:Binds X.K fd ps ds) (hd:Vals iM ds) (hx:Passes CX X E)
  (ha:PA X (e::es) t) (hdb:(x==("__debug__":Str))=false:=by decide) (he:starEach (e::es) X.env=(false,eval e X.env)::starEach es X.env:=by rfl) (hpl:(backTo pos (starEach es X.env)).any (·.1)=false:=by rfl):
  PE X (.Call (.Name x p) (e::es) [] pos) (HD C sp iM E t):=by
 intro pins s σ H Q I h
 refine HP (vP I hg hm ?_ hdb)
 refine PySem.W.callWith_K (h₀:=X.base) I.ok.mod.Qo M.kp (bf (ha pos pins s σ H _ I h) fun us s1 ⟨vs,H1,I1,r,q⟩=>⟨I1.jA,?_⟩) he hpl
 exact Ih M F hr hb hd hx I1 r q
theorem Tg (M:Mk X.K C f) (F:i7 X.prog X.w X.K X.mg X.base CX k f fd ps sp) (hr:dm (k+1) X.A) (hg:Gl X x) (hm:X.mg x=some (.ref C)) (hb:Binds X.K fd ps ds) (hd:Vals iM ds) (hx:Passes CX X E)
  (hdb:(x==("__debug__":Str))=false:=by decide):PE X (.Call (.Name x p) [] [] pos) (HD C sp iM E rO):=by
 intro pins s σ H Q I h
 refine HP (vP I hg hm ?_ hdb)
 exact PySem.W.callWith_K0 I.jA M.kp (Ih (us:=[]) M F hr hb hd hx I .nil h)
end
section
variable {X:Cx} {CX:vQ} {k:Nat} {f C:Addr} {fd:FuncData} {ps ks:List Str} {sp:Sp} {E:XK} {x m:Str} {p pos apos kpos:Pos} {e o:Expr} {es:List Expr} {kws:List Keyword} {te ta:TE} {t tk:TA} {nm:Option Str}
variable {g:List Value->List Value->List Value} {gV:List V->List V->List V}
end
structure aO (N P:List Str) (sc:Scope):Prop where
 kind:sc.kind = .function
 co:sc.isCoroutine=false
 gen:sc.isGenerator=false
 nd:N.Nodup
 pre:N.take P.length=P
 par:∀x∈P,sc.names.lookup x=some .local\/sc.names.lookup x=some .cell
 Yv:∀y∈sc.names,y.2 ≠ .free
theorem ER {kindOf:Str->Option NameKind} {x:Str}:∀{binds:List (Str×Value)} {m:SO},(∀v,(x,v)∉binds)->bindL kindOf binds m x=m x
 | [],_,_=>rfl
 | (n,v)::r,m,h=>by
   unfold bindL
   rw [ER fun w hw=>h w (cC _ hw)]
   split
   . have:x≠n:=by rintro rfl;exact h v cL
     simp [this]
   . rfl
theorem ES {kindOf:Str->Option NameKind} {x:Str}:∀{binds:List (Str×Value)} {m:SO},(∀v,(x,v)∉binds)->bindC kindOf binds m x=m x
 | [],_,_=>rfl
 | (n,v)::r,m,h=>by
   unfold bindC
   rw [ES fun w hw=>h w (cC _ hw)]
   split
   . rfl
   . have:x≠n:=by rintro rfl;exact h v cL
     simp [this]
theorem ET {kindOf:Str->Option NameKind} {x:Str} {v:Value}:∀{P:List Str} {vs:List Value} {i:Nat} {m:SO},P.Nodup->P[i]?=some x->vs[i]?=some v->kindOf x=some .local->
  bindL kindOf (P.zip vs) m x=some v
 | [],_,_,_,_,h,_,_=>by simp at h
 | _::_,[],_,_,_,_,h,_=>by simp at h
 | p::P,w::vs,0,m,nd,h1,h2,hk=>by
   simp at h1 h2;subst h1;subst h2
   show bindL kindOf ((p,w)::P.zip vs) m p=_
   unfold bindL
   rw [ER fun v hv=>(gI.mp nd).1 (BB hv).1,aB hk]
   simp
 | p::P,w::vs,i+1,m,nd,h1,h2,hk=>by
   show bindL kindOf ((p,w)::P.zip vs) m x=_
   unfold bindL
   exact ET (i:=i) (gI.mp nd).2 (by simpa using h1) (by simpa using h2) hk
theorem EU {kindOf:Str->Option NameKind} {x:Str} {v:Value}:∀{P:List Str} {vs:List Value} {i:Nat} {m:SO},P.Nodup->P[i]?=some x->vs[i]?=some v->kindOf x≠some .local->
  bindC kindOf (P.zip vs) m x=some v
 | [],_,_,_,_,h,_,_=>by simp at h
 | _::_,[],_,_,_,_,h,_=>by simp at h
 | p::P,w::vs,0,m,nd,h1,h2,hk=>by
   simp at h1 h2;subst h1;subst h2
   show bindC kindOf ((p,w)::P.zip vs) m p=_
   unfold bindC
   rw [ES fun v hv=>(gI.mp nd).1 (BB hv).1,aA hk]
   simp
 | p::P,w::vs,i+1,m,nd,h1,h2,hk=>by
   show bindC kindOf ((p,w)::P.zip vs) m x=_
   unfold bindC
   exact EU (i:=i) (gI.mp nd).2 (by simpa using h1) (by simpa using h2) hk
def start (N:List Str) (vs:List V):St:=vs.map some++List.replicate (N.length-vs.length) none
def cD (CX:vQ) (P:Program) (w:World) (K:Fg) (mg:SO) (base:Heap) (N:List Str) (qual:Str) (scope:Scope) (f:Addr) (cd:Value) (A:Around) (outer:List Env) (s:Shared) (H:Hp) (E:XK):Cx where
 prog:=P
 w:=w
 K:=K
 mg:=mg
 base:=base
 A:=A.deeper (envOfC qual scope s.heap.objs.size f cd)
 N:=N
 s₀:=s
 H₀:=H
 env:=envOfC qual scope s.heap.objs.size f cd
 outer:=outer
 stack:=envOfC qual scope s.heap.objs.size f cd::outer
 ex:=[]
 calm:=true
 fn:=fun _=>true
 pn:=[]
 xe:=fun e s'=>wpAny (model P w) (A.deeper (envOfC qual scope s.heap.objs.size f cd)) (leaving (envOfC qual scope s.heap.objs.size f cd) e) (fun _ s''=>CX outer H s E e s'') (fun e' s''=>CX outer H s E e' s'') s'
theorem Ii {sc:Scope} {n:Nat} (h:sc.names.lookup x=some .cell):∃c,(cellsFrom n sc.names []).lookup x=some c:=by
 have q:=PySem.W.cellsFrom_some sc.names n [] (.inl h)
 exact Option.isSome_iff_exists.mp q
variable {qual:Str} {scope:Scope} {f:Addr}
theorem QG {CX:vQ} {w:World} {cd:Value} {A:Around} {outer:List Env} {s1:Shared} {E:XK} {vs:List V}
  (S:aO N ps scope) (hd:A.handled=none) (e0:AJ P w K mg base A outer s H) (hl:vs.length=ps.length) (r:Vals vs us)
  (x:InCallC s s.heap.objs.size (bindL (envOfC qual scope s.heap.objs.size f cd).kindOf (ps.zip us) fun _=>none) (cellsFrom (s.heap.objs.size+1) scope.names []) (bindC (envOfC qual scope s.heap.objs.size f cd).kindOf (ps.zip us) fun _=>none) s1):
  Inv (cD CX P w K mg base N qual scope f cd A outer s H E) [] (start N vs) H s1:=by
 have hpl:ps.length<=N.length:=by have:=jx List.length S.pre;rw [nY] at this;omega
 obtain ⟨h1,tk,rfl,hk⟩:=x.done
 have QH:∀b:Addr,b∉(cD CX P w K mg base N qual scope f cd A outer s H E).ex:=fun b z=>absurd (show b∈([] :List Addr) from z) (by simp)
 refine ⟨⟨e0.mod,S.kind,Z,Z,aK _,fun y z c h1 h2=>?_,fun y hy=>?_,fun y c _ h=>?_,fun _=>hd,Around.frames_deeper e0.frames, .inr ⟨Z,Z⟩,fun b z=>absurd z (QH b),e0.bs,e0.EN,fun b _ _=>QH b,fun b z=>absurd z (QH b),e0.oz,e0.HY⟩,
  rfl,e0.bare,Un.kept hk,⟨_,x.toInCall.ns,fun i y v h1 h2 h3=>?_⟩,fun y c h=>⟨_,x.cell y c h⟩,e0.hok.fresh (aK _),fun y c h=>?_,fun p hp=>absurd (show p∈([] :AO) from hp) (by simp),e0.hok.kept hk,?_⟩
 . exact name_of_addr x.apart (wJ h1) (wJ h2)
 . have hy:scope.names.lookup y=some .cell\/scope.names.lookup y=some .free:=hy
   rcases hy with hy|hy
   . exact Ii hy
   . exact absurd rfl (S.Yv _ (wJ hy))
 . exact BG (x.above y c (wJ h))
 . have hi:i<vs.length:=by
    unfold start at h2
    by_cases hi:i<vs.length
    . exact hi
    . rw [HL (by simpa using hi)] at h2
      rw [List.getElem?_replicate] at h2
      split at h2 <;> cases h2
   have ha:vs[i]?=some v:=by
    unfold start at h2
    rw [DB (by simpa using hi),cg] at h2
    cases e:vs[i]? with
    | none=>rw [e] at h2;cases h2
    | some a=>rw [e] at h2;cases h2;rfl
   obtain ⟨u,hu,rv⟩:=r.get ha
   have hp:ps[i]?=some y:=by
    rw [<-S.pre,List.getElem?_take_of_lt (by omega)];exact h1
   have ndP:ps.Nodup:=by rw [<-S.pre];exact S.nd.sublist (List.take_sublist _ _)
   refine ⟨u,rv,?_⟩
   rcases S.par y (bX hp) with k|k
   . exact .inl ⟨k,ET ndP hp hu k⟩
   . obtain ⟨c,e⟩:=Ii (n:=s.heap.objs.size+1) k
     refine .inr ⟨.inl k,c,e,?_⟩
     have q:=x.cell y c e
     rw [EU ndP hp hu (by show scope.names.lookup y≠_;rw [k];decide)] at q
     exact q
 . exact e0.hok.fresh (BG (x.above y c (wJ h)))
 . unfold start
   show _=N.length
   rw [dg,aE,nX]
   omega
variable {body:List Stmt} {doc pm cdv ct oc:Value} {an od:Option Addr}
theorem OR {CX:vQ} {w:World} {k:Nat} {name:Str} {params:Arguments} {dV kV:Value}
  {osl:Array (Option Value)} {N ps:List Str} {sp:Sp} (lk:K.lookup f=some ⟨oc,od, .func (PySem.W.fnOf name qual params body scope dV kV doc pm an cdv ct),osl⟩) (hcd:PySem.W.codeIn K cdv qual=true) (S:aO N ps scope)
  (len:∀vs H Q E,sp vs H Q E->vs.length=ps.length)
  (hbody:∀(A:Around) (outer:List Env) (s:Shared) (H:Hp) (vs:List V) (Q:VK) (E:XK),dm k (A.deeper (envOfC qual scope s.heap.objs.size f cdv))->sp vs H Q E->
    ∃t,pO (cD CX P w K mg base N qual scope f cdv A outer s H E) body t/\t { nx:=fun _ H'=>Q .bU H',rt:=Q } (start N vs) H):
  i7 P w K mg base CX (k+1) f (PySem.W.fnOf name qual params body scope dV kV doc pm an cdv ct) ps sp:=by
 refine ⟨len,fun A outer s H args us vs Q E hr e0 hb r oF=>?_⟩
 have hl:=len _ _ _ _ oF
 have KX:K.In s.heap:=e0.mod.Qo.keeps fun b o e=>(e0.bs b o e).1
 have lim:s.heap.NoLimit:=e0.mod.nolimit.keeps fun b o e=>(e0.bs b o e).1
 have hkind:∀y∈ps.zip us,scope.names.lookup y.1=some .local\/(scope.names.lookup y.1=some .cell/\((cellsFrom (s.heap.objs.size+1) scope.names []).lookup y.1).isSome=true):=fun ⟨n,v⟩ hy=>by
  rcases S.par n (BB hy).1 with q|q
  . exact .inl q
  . exact .inr ⟨q,PySem.W.cellsFrom_some _ _ _ (.inl q)⟩
 refine codeAny_call_function hr.depth (KX _ _ lk) rfl S.co S.gen rfl (PySem.W.codeRec_of KX hcd) (hb _ _ _ _ ?_)
 refine wpAny_newFunctionEnv_cells S.kind hkind fun env he s1 x=>?_
 subst he
 refine ⟨lim.keeps x.toInCall.keep,codeAny_func ?_⟩
 obtain ⟨t,ht,hq⟩:=hbody A outer s H vs Q E (hr.deeper _) oF
 have I:Inv (cD CX P w K mg base N qual scope f cdv A outer s H E) [] (start N vs) H s1:=QG S hr.hd e0 hl r x
 refine jd (ht [] s1 (start N vs) H _ I hq) (fun fl s' hs=>?_) fun e s' hs=>hs
 have fin:∀{σ':St} {H':Hp} {v:V} {u:Value},Inv (cD CX P w K mg base N qual scope f cdv A outer s H E) [] σ' H' s'->RelV v u->Q v H'->CE outer P w H s Q u s':=
  fun {σ' H' v u} J rv q=>⟨v,H',J.os,J.bare,J.base,J.hok,rv,q⟩
 cases fl with
 | ret u=>
   obtain ⟨v,σ',H',J,rv,q⟩:=hs
   exact fin J rv q
 | next=>
   obtain ⟨σ',H',J,q⟩:=hs
   exact fin (v:=V.bU) (u:=Value.none) J rfl q
 | brk=>
   obtain ⟨_,_,_,q⟩:=hs
   exact False.elim q
 | cont=>
   obtain ⟨_,_,_,q⟩:=hs
   exact False.elim q
section
variable {X:Cx} {x:Str} {p pos:Pos} {e:Expr} {es:List Expr} {t:TA} {id T:String} {r:List V->Hp->VK->Prop}
def ae2 (r:List V->Hp->VK->Prop) (Q:VK):List V->Hp->Prop:=fun vs H1=>r vs H1 Q
def Yw (r:List V->Hp->VK->Prop) (t:TA):TE:=fun σ H Q=>t σ H (ae2 r Q)
end
end L2
namespace HT
open PySem PyProof.Rows
section
open PySem.SeqAt
open PySem.AutoSeq1 (wpAny_loadPart')
open PySem.MeetsSeq PySem.MeetsSeq2 PySem.MeetsSeq3
end
section
variable {prog:Program} {w:World} {A:Around} {E:VS} {s:Shared}
theorem Wg {t b:Addr} {vs ws:List Value} {Q:VS} (ht:IsTup s.heap t vs.toArray) (hb:IsTup s.heap b ws.toArray) (hv:vs≠[])
  (h1:ws=[]->Q (.ref t) s) (h2:ws≠[]->Q (.ref s.heap.objs.size) { s with heap:=s.heap.push { cls:= .type "tuple",data:= .seq (vs++ws).toArray } })
  (hsz:vs.length+ws.length<=sizeLine):wpAny (model prog w) A (binaryOp .Add (.ref t) (.ref b)) Q E s:=by
 obtain ⟨⟨cls,dd,data,sl⟩,ho,hc,n,hd⟩:=id ht
 obtain ⟨⟨ae3,dd2,data2,sl2⟩,ho2,hc2,n2,hd2⟩:=id hb
 simp only at hc hd hc2 hd2
 subst hc hd hc2 hd2
 have e:vs.toArray++ws.toArray=(vs++ws).toArray:=by simp
 by_cases hw:ws=[]
 . exact concat_meets ⟨_,ho,Z⟩ ⟨_,ho2,Z⟩ noFill_tuple_add seq_tuple_add PySem.F.slot_tuple_add PySem.F.entry_tuple_add (PySem.F.args_tuple_add_2 _ _)
    (tuple_addW1 t b vs.toArray ws.toArray n n2 dd dd2 sl sl2 (by simpa using hv) (by simp [hw])) ⟨ho,ho2,h1 hw⟩
 . refine concat_meets ⟨_,ho,Z⟩ ⟨_,ho2,Z⟩ noFill_tuple_add seq_tuple_add PySem.F.slot_tuple_add PySem.F.entry_tuple_add (PySem.F.args_tuple_add_2 _ _)
    (tuple_addW2 t b vs.toArray ws.toArray n n2 dd dd2 sl sl2 (by simpa using hv) (by simpa using hw) (by rw [gH,gH];exact hsz)) ⟨ho,ho2,?_⟩
   rw [e]
   exact h2 hw
def fX (n d:Nat):Option Int->Nat
 | none=>d
 | some v=>if v<0 then (v+(n:Int)).toNat else min v.toNat n
theorem Th (n d:Nat):fX n d none=d:=rfl
theorem MX (n d k:Nat):fX n d (some (k:Int))=min k n:=by
 show (if (k:Int)<0 then ((k:Int)+(n:Int)).toNat else min (k:Int).toNat n)=min k n
 rw [aA (by omega),rM]
theorem Yx (n d:Nat) (hd:d<=n) (o:Option Int):fX n d o<=n:=by
 cases o with
 | none=>exact hd
 | some v=>
   show (if v<0 then (v+(n:Int)).toNat else min v.toNat n)<=n
   by_cases hv:v<0
   . rw [aB hv];omega
   . rw [aA hv];exact Nat.min_le_right _ _
theorem MY (v:Int) (n d:Nat):(if v<0 then max (v+(n:Int)) 0 else min v (n:Int))=((fX n d (some v):Nat):Int):=by
 show (if v<0 then max (v+(n:Int)) 0 else min v (n:Int))=(((if v<0 then (v+(n:Int)).toNat else min v.toNat n):Nat):Int)
 by_cases hv:v<0
 . simp only [aB hv];omega
 . simp only [aA hv];omega
theorem OS (lo hi:Option Int) (n:Nat):Builtin.Slice.sliceAdjust lo hi 1 (n:Int)=(((fX n 0 lo:Nat):Int),((fX n n hi:Nat):Int)):=by
 have h1:¬ ((1:Int)<0):=by omega
 unfold Builtin.Slice.sliceAdjust
 simp only [h1,ou]
 refine Prod.ext ?_ ?_
 . cases lo with
   | none=>rfl
   | some v=>exact MY v n 0
 . cases hi with
   | none=>rfl
   | some v=>exact MY v n n
theorem OT (i j:Nat):Builtin.Slice.slicePlaces (i:Int) (j:Int) 1=j-i:=by
 unfold Builtin.Slice.slicePlaces
 have h1:(1:Int)>0:=by omega
 simp only [h1,if_true,zO]
 split <;> omega
theorem BU {v:Value} {o:Option Int} {Q:Option Int->Shared->Prop} (p:IsPart v o) (h:Q o s):wpAny (model prog w) A (Builtin.Slice.slicePartIndex v) Q E s:=by
 cases p with
 | none=>exact slicePart_none h
 | int i t=>exact slicePart_int h
theorem AK {sl:Addr} {vl vu:Value} {lo hi:Option Int} {n:Nat} {Q:Int×Int×Nat->Shared->Prop} (hs:s.heap.IsSliceOf sl vl vu .none) (pl:IsPart vl lo) (pu:IsPart vu hi)
  (h:Q (((fX n 0 lo:Nat):Int),1,fX n n hi-fX n 0 lo) s):wpAny (model prog w) A (Builtin.Slice.sliceApplied (.ref sl) (pure (n:Int))) Q E s:=by
 obtain ⟨os,hos,hcs,hds⟩:=id hs
 unfold Builtin.Slice.sliceApplied Builtin.Slice.sliceFields
 refine au (au (jR hos hds (x:=vl) rfl (au (jR hos hds (x:=vu) rfl (au (jR hos hds (x:= .none) rfl (aL ?_)))))))
 refine au (slicePart_none ?_)
 show wpAny _ _ (if ((1:Int)==0)=true then _ else _) _ _ s
 rw [aA (by decide)]
 refine au (BU pl (au (BU pu (au (aL ?_)))))
 show wpAny _ _ (match Builtin.Slice.sliceAdjust lo hi 1 (n:Int) with|(lo,hi)=>pure (lo,(1:Int),Builtin.Slice.slicePlaces lo hi 1)) _ _ s
 rw [OS lo hi n]
 show wpAny _ _ (pure (((fX n 0 lo:Nat):Int),(1:Int),Builtin.Slice.slicePlaces ((fX n 0 lo:Nat):Int) ((fX n n hi:Nat):Int) 1)) _ _ s
 rw [OT]
 exact aL h
theorem Ti (xs:Array Value) (i k:Nat):((List.range k).filterMap fun (m:Nat)=>xs[((i:Int)+(m:Int)*1).toNat]?).toArray=((xs.toList.drop i).take k).toArray:=by
 have e:(fun (m:Nat)=>xs[((i:Int)+(m:Int)*1).toNat]?)=fun m=>xs[i+m]?:=by
  funext m
  have:((i:Int)+(m:Int)*1).toNat=i+m:=by omega
  rw [this]
 rw [e]
 have:=pick_run xs i k
 rw [List.filterMap_map] at this
 have e2:((fun x=>xs[x]?) ∘ fun x=>i+x)=fun m=>xs[i+m]?:=rfl
 rw [e2] at this
 rw [this]
theorem Ad {t sl:Addr} {items:Array Value} {vl vu:Value} {lo hi:Option Int} {Q:VS} (ht:IsTup s.heap t items) (hs:s.heap.IsSliceOf sl vl vu .none) (pl:IsPart vl lo) (pu:IsPart vu hi)
  (hw:¬ (fX items.size 0 lo=0/\fX items.size items.size hi=items.size))
  (h:Q (.ref s.heap.objs.size) { s with heap:=s.heap.push { cls:= .type "tuple",data:= .seq ((items.toList.drop (fX items.size 0 lo)).take (fX items.size items.size hi-fX items.size 0 lo)).toArray } })
  (hsz:items.size<=sizeLine):wpAny (model prog w) A (getItem (.ref t) (.ref sl)) Q E s:=by
 have HE:sizeOk (.seq ((items.toList.drop (fX items.size 0 lo)).take (fX items.size items.size hi-fX items.size 0 lo)).toArray):=by
  show ((items.toList.drop (fX items.size 0 lo)).take (fX items.size items.size hi-fX items.size 0 lo)).toArray.size<=sizeLine
  rw [gH,nY,List.length_drop,Array.length_toList]
  omega
 have hj:fX items.size items.size hi<=items.size:=Yx _ _ (aK _) hi
 obtain ⟨os,hos,hcs,hds⟩:=id hs
 have hTs:s.TypeIs (.ref sl) "slice":=⟨os,hos,hcs⟩
 unfold getItem
 try with_reducible refine zM ?_
 first|refine au (aL ?_)|skip
 refine au (wpAny_sequenceKey ht.typeIs (by decide) ?_)
 refine au (wH (name:=Str.ofString "__getitem__") ht.typeIs PyProof.Rows.slot_tuple_getitem
  (wL PyProof.Rows.slot_tuple_getitem ht.typeIs entry_tuple_getitem ?_ (args_tuple_getitem _ _)))
 show wpAny _ _ (Builtin.Tuple.tupleItemsOf (.ref t) >>= _) _ _ s
 refine au (tupleItemsOf_ ht ?_)
 refine au (wpAny_typeOf hTs ?_)
 rw [aB (by decide)]
 refine au (AK hs pl pu ?_)
 have hno:¬ ((((fX items.size 0 lo:Nat):Int)==0 && (1:Int)==1 && (fX items.size items.size hi-fX items.size 0 lo)==items.size)=true):=by
  intro q
  rw [AF,AF] at q
  have q1:((fX items.size 0 lo:Nat):Int)=0:=eq_of_beq q.1.1
  have q2:fX items.size items.size hi-fX items.size 0 lo=items.size:=eq_of_beq q.2
  exact hw ⟨by omega,by omega⟩
 show wpAny _ _ (if (((fX items.size 0 lo:Nat):Int)==0 && (1:Int)==1 && (fX items.size items.size hi-fX items.size 0 lo)==items.size)=true then _ else _) _ _ s
 rw [aA hno,Ti]
 first
  | exact au (m:=Builtin.Tuple.tupleExact _) (pS (aL ⟨_,Z,aL h⟩) HE)
  | exact au (m:=Builtin.Tuple.tupleExact _) (pS (au (aL (aL ⟨_,Z,aL h⟩))) HE)
  | exact au (au (m:=Builtin.Tuple.tupleExact _) (pS (aL (aL ⟨_,Z,aL h⟩)) HE))
  | exact au (au (m:=Builtin.Tuple.tupleExact _) (pS (aL ⟨_,Z,aL h⟩) HE))
end
end HT
namespace L2
open PySem PySem.Spec PyProof.Rows
abbrev TO:=St->Hp->(Option Int->Hp->Prop)->Prop
def PO (X:Cx) (e:Option Expr) (t:TO):Prop:=
 ∀(pins:AO) (s:Shared) (σ:St) (H:Hp) (Q:Option Int->Hp->Prop),Inv X pins σ H s->t σ H Q->
  wpAny (model X.prog X.w) X.A (evalPart e X.env) (fun u s'=>∃o H',Inv X pins σ H' s'/\IsPart u o/\Q o H') X.xe s
def Wh:TO:=fun _ H Q=>Q none H
inductive Yy (Q:Option Int->Hp->Prop) (x:V) (H1:Hp):Prop
 | mk  (i:_) (_:x = .int i) (_:Q (some i:_) H1)
def abx (t:TE):TO:=fun σ H Q=>t σ H (Yy Q)
variable {ns:List Int}
theorem intsAre_of:∀{us:List Value},Vals (ns.map V.int) us->IntsAre us ns:=by
 induction ns with
 | nil=>intro us r;rw [List.map_nil] at r;cases r;exact .nil
 | cons n ns ih=>
   intro us r
   rw [bH] at r
   cases r with
   | cons r1 r2=>
     obtain ⟨t,e⟩:=r1
     subst e
     exact .cons n t (ih r2)
variable {xs:List V} {us:List Value}
section
variable {X:Cx} {e:Expr} {te:TE} {lo hi:Option Expr} {tl th:TO} {pos p2:Pos}
def Yz (X:Cx) (r:V->Option Int->Option Int->Hp->VK->Prop):Prop:=
 ∀(pins:AO) (s:Shared) (σ:St) (H:Hp) (x:V) (v vl vu:Value) (lo hi:Option Int) (sl:Addr) (Q:VK),Inv X pins σ H s->RelV x v->s.heap.IsSliceOf sl vl vu .none->IsPart vl lo->IsPart vu hi->r x lo hi H Q->
  ∃T id,typeLookup (.type T) "__getitem__"=pure (some (.builtin id))/\s.TypeIs v T/\wpAny (model X.prog X.w) X.A (getItem v (.ref sl)) (EP X pins σ Q) X.xe s
def YA (r:V->Option Int->Option Int->Hp->VK->Prop) (Q:VK) (x:V) (l:Option Int):Option Int->Hp->Prop:=fun u H3=>r x l u H3 Q
def YB (r:V->Option Int->Option Int->Hp->VK->Prop) (th:TO) (σ:St) (Q:VK) (x:V):Option Int->Hp->Prop:=fun l H2=>th σ H2 (YA r Q x l)
def ae4 (r:V->Option Int->Option Int->Hp->VK->Prop) (tl:TO) (th:TO) (σ:St) (Q:VK):V->Hp->Prop:=fun x H1=>tl σ H1 (YB r th σ Q x)
def tSl (r:V->Option Int->Option Int->Hp->VK->Prop) (te:TE) (tl th:TO):TE:=fun σ H Q=>te σ H (ae4 r tl th σ Q)
def AL (xs:List V) (lo hi:Option Int):List V:=(xs.drop (HT.fX xs.length 0 lo)).take (HT.fX xs.length xs.length hi-HT.fX xs.length 0 lo)
theorem Lr (xs:List V) (lo hi:Option Int):(AL xs lo hi).length<=xs.length:=by
 unfold AL
 rw [nY,List.length_drop]
 omega
inductive YC (K:Fg) (x:V) (lo:Option Int) (hi:Option Int) (H:Hp) (Q:VK):Prop
 | mk  (a xs:_) (_:x = .ref a) (_:bN K H a xs) (_:¬ (HT.fX xs.length 0 lo=0/\HT.fX xs.length xs.length hi=xs.length)) (_:∀p,H p=none->Q (.ref p) (upd H p (.tup (AL xs lo hi))))
theorem YD:Yz X (YC X.K):=by
 intro pins s σ H x v vl vu lo hi sl Q I rx hs pl pu h
 obtain ⟨a,xs,rfl,hx,hw,q⟩:=h
 cases rx
 obtain ⟨its,r,ht,hz⟩:=I.tuple hx
 have hlen:its.toArray.size=xs.length:=by rw [gH];exact r.length.symm
 refine ⟨"tuple",_,PyProof.Rows.slot_tuple_getitem.lookup,ht.typeIs,?_⟩
 refine HT.Ad ht hs pl pu (by rw [hlen];exact hw) ?_ (by rw [hlen];exact hz)
 rw [hlen]
 refine ⟨.ref s.heap.objs.size,_,I.laid (t':=s.toks) (o:= .tup (AL xs lo hi)) (fun b ob q=>b7 _ q) (aK _) ?_,Z,q _ (I.hok.fresh (aK _))⟩
 exact ⟨fT (Lr xs lo hi) hz,_,(r.drop (HT.fX xs.length 0 lo)).take (HT.fX xs.length xs.length hi-HT.fX xs.length 0 lo),IsTup.new _ _⟩
inductive aby (K:Fg) (x:V) (y:V) (H:Hp) (Q:VK):Prop
 | mk  (a b xs ys:_) (_:x = .ref a) (_:y = .ref b) (_:bN K H a xs) (_:bN K H b ys) (_:xs≠[]) (_:xs.length+ys.length<=sizeLine) (_:(ys=[]->Q (.ref a) H)) (_:(ys≠[]->∀p,H p=none->Q (.ref p) (upd H p (.tup (xs++ys)))))
theorem Vals.zU (r:Vals xs us):us=[]↔xs=[] :=by
 cases r with
 | nil=>simp
 | cons _ _=>simp
theorem Wi:iL X (binaryOp .Add) (aby X.K):=by
 intro pins s σ H x y v u Q I rx ry h
 obtain ⟨a,b,xs,ys,rfl,rfl,ha,hb,hx,hz,q1,q2⟩:=h
 cases rx
 cases ry
 obtain ⟨its,r1,p1,_⟩:=I.tuple ha
 obtain ⟨its2,r2,p2,_⟩:=I.tuple hb
 refine HT.Wg p1 p2 (fun z=>hx (r1.zU.mp z)) (fun z=>⟨.ref a,H,I,Z,q1 (r2.zU.mp z)⟩) (fun z=>?_) (by rw [<-r1.length,<-r2.length];exact hz)
 refine ⟨.ref s.heap.objs.size,_,I.laid (t':=s.toks) (o:= .tup (xs++ys)) (fun b ob q=>b7 _ q) (aK _) ?_,Z,q2 (fun w=>z (r2.zU.mpr w)) _ (I.hok.fresh (aK _))⟩
 exact ⟨by rw [dg];exact hz,_,r1.append r2,IsTup.new _ _⟩
end
def BV (n:Nat) (i:Int):Option Nat:=if 0<=i then (if i<n then some i.toNat else none) else if -(n:Int)<=i then some (i+n).toNat else none
def qV {α:Type} (xs:List α) (i:Int):Option α:=(BV xs.length i).bind fun j=>xs[j]?
variable {j:Nat}
theorem MZ {n:Nat} {i:Int} (h:BV n i=some j):seqIndex? i n=some j/\j<n/\-(n:Int)<=i/\i<n:=by
 unfold BV at h
 by_cases h0:0<=i
 . rw [aB h0] at h
   by_cases h1:i<n
   . rw [aB h1] at h
     have e:i.toNat=j:=fH h
     exact ⟨by rw [seqIndex_of h0 h1,e],by omega,by omega,h1⟩
   . rw [aA h1] at h;cases h
 . rw [aA h0] at h
   by_cases h1:-(n:Int)<=i
   . rw [aB h1] at h
     have e:(i+n).toNat=j:=fH h
     exact ⟨by rw [seqIndex_neg (by omega) h1,e],by omega,h1,by omega⟩
   . rw [aA h1] at h;cases h
theorem zV {α:Type} {xs:List α} {i:Int} {v:α} (h:qV xs i=some v):∃j,seqIndex? i xs.length=some j/\xs[j]?=some v/\j<xs.length/\-(xs.length:Int)<=i/\i<xs.length:=by
 unfold qV at h
 cases e:BV xs.length i with
 | none=>rw [e] at h;cases h
 | some j=>
   rw [e] at h
   obtain ⟨h1,h2,h3,h4⟩:=MZ e
   exact ⟨j,h1,h,h2,h3,h4⟩
theorem ay {α:Type} {xs:List α} {v:α} (h:xs[j]?=some v):qV xs (j:Int)=some v:=by
 have hj:j<xs.length:=(dS.mp h).1
 have e:BV xs.length (j:Int)=some j:=by
  unfold BV
  rw [aB (by omega),aB (by omega)];simp
 unfold qV;rw [e];exact h
def Wj (b:Expr):Prop:=∀o i,subscripted b false o i=operate [o,i] (getItem o i)
def yb (X:Cx) (r:R2):Prop:=
 ∀(value slice:Expr) (pins:AO) (s:Shared) (σ:St) (H:Hp) (x y:V) (v u:Value) (Q:VK),Inv X pins σ H s->RelV x v->RelV y u->r x y H Q->
  subscripted slice false v u=operate [v,u] (getItem v u)->wpAny (model X.prog X.w) X.A (subscriptTail value slice v u) (EP X pins σ Q) X.xe s
def MtR (X:Cx) (id:String) (r:V->List V->Hp->VK->Prop):Prop:=
 ∀(pins:AO) (s:Shared) (σ:St) (H:Hp) (x:V) (xs:List V) (v:Value) (us:List Value) (Q:VK),Inv X pins σ H s->RelV x v->Vals xs us->r x xs H Q->
  wpAny (model X.prog X.w) X.A (call (.builtin id) (v::us)) (EP X pins σ Q) X.xe s
variable {pins:AO} {σ:St} {H:Hp} {s:Shared} {ys:List V} {its its':List Value} {y:V} {u:Value}
section
variable {X:Cx} {a b:Expr} {ta tb:TE} {pos:Pos}
theorem yb.or {r r':R2} (h:yb X r) (h':yb X r'):yb X (fun x y H Q=>r x y H Q\/r' x y H Q):=by
 intro value slice pins s σ H x y v u Q I rx ry q hs
 rcases q with q|q
 . exact h value slice pins s σ H x y v u Q I rx ry q hs
 . exact h' value slice pins s σ H x y v u Q I rx ry q hs
inductive OU (K:Fg) (x:V) (y:V) (H:Hp) (Q:VK):Prop
 | mk  (p xs i v:_) (_:x = .ref p) (_:y = .int i) (_:aH K H p xs) (_:qV xs i=some v) (_:Q v H)
inductive Tj (K:Fg) (x:V) (y:V) (H:Hp) (Q:VK):Prop
 | mk  (p xs i v:_) (_:x = .ref p) (_:y = .int i) (_:bN K H p xs) (_:qV xs i=some v) (_:Q v H)
inductive YE (x:V) (y:V) (H:Hp) (Q:VK):Prop
 | mk  (z i c:_) (_:x = .str z) (_:y = .int i) (_:z.length<=sizeLine) (_:qV z.cps.toList i=some c) (_:Q (.str ⟨#[c]⟩) H)
theorem M_:yb X (OU X.K):=by
 intro value slice pins s σ H x y v u Q I rx ry h hs
 obtain ⟨p,xs,i,z,rfl,rfl,hq,he,q⟩:=h
 cases rx
 obtain ⟨t,rfl⟩:=ry
 obtain ⟨its,r,pl,hz⟩:=I.list hq
 obtain ⟨j,h1,h2,h3,h4,h5⟩:=zV he
 obtain ⟨w,ew,rw'⟩:=r.get h2
 have hl:=r.length
 have hn:=tN
 have fin:EP X pins σ Q w s:=⟨z,H,I,rw',q⟩
 by_cases h0:0<=i
 . have hj:i.toNat=j:=by
    rw [seqIndex_of h0 h5] at h1
    exact fH h1
   exact item_listR pl.isList h0 (by omega) (by rw [hj];simpa using ew) fin hs
 . have hj:(i+(its.toArray.size:Int)).toNat=j:=by
    rw [seqIndex_neg (by omega) h4] at h1
    rw [gH,<-hl]
    exact fH h1
   exact subscriptTail_builtinR (x:=w) pl.isList.typeIs slot_list_getitem.lookup
    (wpAny_getItem_list_neg (Q:=fun r s'=>r=w/\EP X pins σ Q r s') pl.isList (by omega) (by rw [gH] <;> omega) (by omega) (by rw [hj];simpa using ew) ⟨Z,fin⟩) hs
theorem QI:yb X (Tj X.K):=by
 intro value slice pins s σ H x y v u Q I rx ry h hs
 obtain ⟨p,xs,i,z,rfl,rfl,hq,he,q⟩:=h
 cases rx
 obtain ⟨t,rfl⟩:=ry
 obtain ⟨its,r,pl,hz⟩:=I.tuple hq
 obtain ⟨j,h1,h2,h3,h4,h5⟩:=zV he
 obtain ⟨w,ew,rw'⟩:=r.get h2
 have hl:=r.length
 have hn:=tN
 have fin:EP X pins σ Q w s:=⟨z,H,I,rw',q⟩
 exact subscriptTail_builtinR (x:=w) pl.typeIs slot_tuple_getitem.lookup
  (getItem_tuple (j:=j) (Q:=fun r s'=>r=w/\EP X pins σ Q r s') pl (by omega) (by omega) (by rw [gH,<-hl];exact h1) (by simpa using ew) ⟨Z,fin⟩) hs
theorem QJ:yb X YE:=by
 intro value slice pins s σ H x y v u Q I rx ry h hs
 obtain ⟨z,i,c,rfl,rfl,hz,he,q⟩:=h
 obtain ⟨t,rfl⟩:=rx
 obtain ⟨t',rfl⟩:=ry
 obtain ⟨j,h1,h2,h3,h4,h5⟩:=zV he
 have hl:z.cps.toList.length=z.length:=by simp [Str.length]
 rw [hl] at h1 h4 h5
 have hn:=tN
 exact tail_any (typeIs_str s z t) slot_str_getitem.lookup (getItem_str (c:=c) (by
  have e1:decide (i < -(2 ^ 63:Int))=false:=cV (by omega)
  have e2:decide (i≥2 ^ 63)=false:=cV (by omega)
  rw [e1,e2,Bool.or_false]) (by rw [h1];simpa using h2) ⟨.str ⟨#[c]⟩,H,I.tok _,⟨_,Z⟩,q⟩) hs
def YF (K:Fg):R2:=fun x y H Q=>OU K x y H Q\/Tj K x y H Q\/YE x y H Q
theorem YG:yb X (YF X.K):=M_.or (QI.or QJ)
theorem OV (its:List Value) (n j:Nat) (u:Value):Obj.mapSeq (·.setIfInBounds j u) { cls:= .type "list",data:= .seq its.toArray n }={ cls:= .type "list",data:= .seq (its.set j u).toArray n }:=by
 simp [Obj.mapSeq]
theorem Inv.lst {pins:AO} {σ:St} {H:Hp} {s:Shared} {p:Addr} {xs:List V} (I:Inv X pins σ H s) (h:H p=some (.lst xs)):
  ∃(its:List Value) (n:Nat),Vals xs its/\s.heap.get? p=some { cls:= .type "list",data:= .seq its.toArray n }/\xs.length<=sizeLine:=by
 obtain ⟨z,its,n,r,e⟩:=I.hok p _ h
 exact ⟨its,n,r,e,z⟩
theorem Inv.YH {p:Addr} {n n':Nat} {f:Obj->Obj} (I:Inv X pins σ H s) (h:H p=some (.lst xs))
  (ho:s.heap.get? p=some { cls:= .type "list",data:= .seq its.toArray n }) (hf:f { cls:= .type "list",data:= .seq its.toArray n }={ cls:= .type "list",data:= .seq its'.toArray n' }) (r:Vals ys its') (hz:ys.length<=sizeLine) (t:Nat):
  Inv X pins σ (upd H p (.lst ys)) { s with heap:=s.heap.update p f,toks:=t }:=by
 have e:(s.heap.update p f).get? p=some { cls:= .type "list",data:= .seq its'.toArray n' }:=by
  rw [Oh f ho (by rw [hf] <;> rfl),hf]
 refine I.write (x:=p) (e:=p) (by rw [h];trivial) (.inl rfl) (fun b u hb q=>(Heap.get?_update_other _ _ (cO hb)).trans q) ⟨_,e⟩ ?_
 exact ⟨hz,its',n',r,e⟩
inductive abz (o:V) (i:V) (v:V) (H:Hp) (Q:Hp->Prop):Prop
 | mk  (p xs k j:_) (_:o = .ref p) (_:i = .int k) (_:H p=some (.lst xs)) (_:BV xs.length k=some j) (_:Q (upd H p (.lst (xs.set j v))))
theorem set_list:SR X abz:=by
 intro pins s σ H o i v ov iv u Q I ro ri rv h
 obtain ⟨p,xs,k,j,rfl,rfl,hp,hj,q⟩:=h
 cases ro
 obtain ⟨t,rfl⟩:=ri
 obtain ⟨its,n,r,ho,hz⟩:=I.lst hp
 obtain ⟨h1,h2,h3,h4⟩:=MZ hj
 have hl:=r.length
 have hn:=tN
 have I':Inv X pins σ (upd H p (.lst (xs.set j v))) { s with heap:=s.heap.update p (Obj.mapSeq (·.setIfInBounds j u)) }:=
  I.YH hp ho (OV its n j u) (r.set rv j) (by rw [iw];exact hz) s.toks
 by_cases h0:0<=k
 . have hk:k.toNat=j:=by
    rw [seqIndex_of h0 h4] at h1
    exact fH h1
   exact PySem.W.ki_setAt ho h0 (by omega) (by rw [gH,<-hl];exact h4) (by rw [hk];exact ⟨_,I',q⟩)
 . have hk:(k+(its.toArray.size:Int)).toNat=j:=by
    rw [seqIndex_neg (by omega) h3] at h1
    rw [gH,<-hl]
    exact fH h1
   exact PySem.W.ki_setBack ho (by omega) (by rw [gH,<-hl];exact h3) (by omega) (by rw [hk];exact ⟨_,I',q⟩)
def qD:V->Bool
 | .bU=>true
 | .bl _=>true
 | .int _=>true
 | .str _=>true
 | _=>false
def yc:V->V->Bool
 | .bU, .bU=>true
 | .bl a, .bl b=>a==b
 | .bl a, .int b=>(if a then 1 else 0)==b
 | .int a, .bl b=>a==(if b then 1 else 0)
 | .int a, .int b=>a==b
 | .str a, .str b=>a==b
 | _,_=>false
theorem YI {A:Around} {x:V} {v:Value} (ry:RelV y u) (rx:RelV x v) (fy:qD y=true) (fx:qD x=true):SeqAt.EqAt A s u v (yc y x):=by
 cases y with
 | bU=>
   cases ry
   cases x with
   | bU=>cases rx;exact SeqAt.EqAt.same _
   | bl b=>cases rx;exact SeqAt.EqAt.none_bool b
   | int b=>obtain ⟨t,rfl⟩:=rx;exact SeqAt.EqAt.none_int b t
   | str b=>obtain ⟨t,rfl⟩:=rx;exact SeqAt.EqAt.none_str b t
   | _=>exact absurd (show false=true from fx) fM
 | bl a=>
   cases ry
   cases x with
   | bU=>cases rx;exact SeqAt.EqAt.bool_none a
   | bl b=>cases rx;exact SeqAt.EqAt.bool_bool a b
   | int b=>obtain ⟨t,rfl⟩:=rx;exact SeqAt.EqAt.bool_int a b t
   | str b=>obtain ⟨t,rfl⟩:=rx;exact SeqAt.EqAt.bool_str a b t
   | _=>exact absurd (show false=true from fx) fM
 | int a=>
   obtain ⟨t',rfl⟩:=ry
   cases x with
   | bU=>cases rx;exact SeqAt.EqAt.int_none a t'
   | bl b=>cases rx;exact SeqAt.EqAt.int_bool a t' b
   | int b=>obtain ⟨t,rfl⟩:=rx;exact SeqAt.EqAt.int_int a t' b t
   | str b=>obtain ⟨t,rfl⟩:=rx;exact SeqAt.EqAt.int_str a t' b t
   | _=>exact absurd (show false=true from fx) fM
 | str a=>
   obtain ⟨t',rfl⟩:=ry
   cases x with
   | bU=>cases rx;exact SeqAt.EqAt.str_none a t'
   | bl b=>cases rx;exact SeqAt.EqAt.str_bool a t' b
   | int b=>obtain ⟨t,rfl⟩:=rx;exact SeqAt.EqAt.str_int a t' b t
   | str b=>obtain ⟨t,rfl⟩:=rx;exact SeqAt.EqAt.str_str a t' b t
   | _=>exact absurd (show false=true from fx) fM
 | _=>exact absurd (show false=true from fy) fM
def tO (x:V) (u:Value):Bool:=match u with
 | .none=>yc .bU x
 | .bool b=>yc (.bl b) x
 | .int i _=>yc (.int i) x
 | .str z _=>yc (.str z) x
 | _=>false
theorem QK {x:V} (r:RelV y u) (f:qD y=true):tO x u=yc y x:=by
 cases y with
 | bU=>cases r;rfl
 | bl b=>cases r;rfl
 | int i=>obtain ⟨t,rfl⟩:=r;rfl
 | str z=>obtain ⟨t,rfl⟩:=r;rfl
 | _=>exact absurd (show false=true from f) fM
theorem vR {x:V}:∀{xs:List V} {us:List Value},Vals xs us->xs.all qD=true->us.any (tO x)=xs.any fun y=>yc y x
 | _,_, .nil,_=>rfl
 | y::xs,u::us, .cons r t,f=>by
   rw [List.all_cons,AF] at f
   rw [BE,BE,QK r f.1,vR t f.2]
theorem tP {A:Around} {s:Shared} {x:V} {v:Value} (rx:RelV x v) (fx:qD x=true):∀{xs:List V} {us:List Value},Vals xs us->xs.all qD=true->∀u∈us,SeqAt.EqAt A s u v (tO x u)
 | _,_, .nil,_=>fun u hu=>by cases hu
 | y::xs,u::us, .cons r t,f=>fun u' hu=>by
   rw [List.all_cons,AF] at f
   rcases bP.mp hu with rfl|hu
   . rw [QK r f.1];exact YI r rx f.1 fx
   . exact tP rx fx t f.2 u' hu
def EV (x:V) (xs:List V):Bool:=xs.any fun y=>yc y x
inductive rIn (K:Fg) (neg:Bool) (x:V) (y:V) (H:Hp) (Q:VK):Prop
 | mk  (p xs:_) (_:y = .ref p) (_:(aH K H p xs\/bN K H p xs)) (_:qD x=true) (_:xs.all qD=true) (_:Q (.bl (if neg then !EV x xs else EV x xs)) H)
theorem QL:iL X (compareOp .In) (rIn X.K false):=by
 intro pins s σ H x y v u Q I rx ry h
 obtain ⟨p,xs,rfl,hq,fx,fs,q⟩:=h
 cases ry
 rcases hq with hq|hq
 . obtain ⟨its,r,pl,hz⟩:=I.list hq
   refine SeqAt.in_listAt (tO x) pl.isList (fun w hw=>tP rx fx r fs w (by simpa using hw)) ⟨.bl _,H,I,Z,?_⟩
   rw [show its.toArray.any (tO x)=its.any (tO x) by simp,vR r fs]
   exact q
 . obtain ⟨its,r,pl,hz⟩:=I.tuple hq
   refine SeqAt.in_tupleAt (tO x) pl (fun w hw=>tP rx fx r fs w (by simpa using hw)) ⟨.bl _,H,I,Z,?_⟩
   rw [show its.toArray.any (tO x)=its.any (tO x) by simp,vR r fs]
   exact q
theorem Ij:iL X (compareOp .NotIn) (rIn X.K true):=by
 intro pins s σ H x y v u Q I rx ry h
 obtain ⟨p,xs,rfl,hq,fx,fs,q⟩:=h
 cases ry
 rcases hq with hq|hq
 . obtain ⟨its,r,pl,hz⟩:=I.list hq
   refine SeqAt.notIn_listAt (tO x) pl.isList (fun w hw=>tP rx fx r fs w (by simpa using hw)) ⟨.bl _,H,I,Z,?_⟩
   rw [show its.toArray.any (tO x)=its.any (tO x) by simp,vR r fs]
   exact q
 . obtain ⟨its,r,pl,hz⟩:=I.tuple hq
   refine SeqAt.notIn_tupleAt (tO x) pl (fun w hw=>tP rx fx r fs w (by simpa using hw)) ⟨.bl _,H,I,Z,?_⟩
   rw [show its.toArray.any (tO x)=its.any (tO x) by simp,vR r fs]
   exact q
theorem Ik:iy X (.builtin "len") (fun xs H Q=>∃p ys,xs=[.ref p]/\(aH X.K H p ys\/bN X.K H p ys)/\Q (.int ys.length) H):=by
 intro pins s σ H xs us Q I r h
 obtain ⟨p,ys,rfl,hq,q⟩:=h
 obtain ⟨u,rfl,rx⟩:=vals1 r
 cases rx
 have hn:=tN
 rcases hq with hq|hq
 . obtain ⟨its,r',pl,hz⟩:=I.list hq
   have hlen:=r'.length
   exact Calls.call_len_list pl.isList (by simp only [gH] <;> omega) ⟨.int ys.length,H,I.tok _,⟨s.toks+1,by rw [gH,hlen]⟩,q⟩
 . obtain ⟨its,r',pl,hz⟩:=I.tuple hq
   have hlen:=r'.length
   exact len_tuple pl (by simp only [gH] <;> omega) ⟨.int ys.length,H,I.tok _,⟨s.toks+1,by rw [gH,hlen]⟩,q⟩
theorem Il:iy X (.builtin "len") (fun xs H Q=>∃z,xs=[.str z]/\z.length<=sizeLine/\Q (.int z.length) H):=by
 intro pins s σ H xs us Q I r h
 obtain ⟨z,rfl,hz,q⟩:=h
 obtain ⟨u,rfl,t,rfl⟩:=vals1 r
 have hn:=tN
 exact len_str (by omega) ⟨.int z.length,H,I.tok _,⟨_,Z⟩,q⟩
theorem Im:iy X (.type "list") (fun xs H Q=>∃p ys,xs=[.ref p]/\(aH X.K H p ys\/bN X.K H p ys)/\∀l,H l=none->Q (.ref l) (upd H l (.lst ys))):=by
 intro pins s σ H xs us Q I r h
 obtain ⟨p,ys,rfl,hq,q⟩:=h
 obtain ⟨u,rfl,rx⟩:=vals1 r
 cases rx
 have fin:∀(its:List Value),Vals ys its->ys.length<=sizeLine->∀(h':Heap) (c':Nat),(∀b o',s.heap.get? b=some o'->h'.get? b=some o')->
   h'.get? s.heap.objs.size=some { cls:= .type "list",dict:=none,data:= .seq its.toArray c',slots:=#[] }->EP X pins σ Q (.ref s.heap.objs.size) { s with heap:=h' }:=fun its r' hz h' c' kp e=>
  ⟨.ref s.heap.objs.size,_,I.laid (t':=s.toks) kp (aK _) (show dI X.prog X.w _ h' _ (.lst ys) from ⟨hz,its,c',r',e⟩),Z,q _ (I.hok.fresh (aK _))⟩
 rcases hq with hq|hq
 . obtain ⟨its,r',pl,hz⟩:=I.list hq
   have hlen:=r'.length
   obtain ⟨o,ho,hc,n,hd⟩:=pl.isList
   exact call_list_seq p (.inl rfl) ho hc hd (fun h' c' kp e=>fin its r' hz h' c' kp e) (by simp only [gH] <;> omega)
 . obtain ⟨its,r',pl,hz⟩:=I.tuple hq
   have hlen:=r'.length
   obtain ⟨o,ho,hc,n,hd⟩:=pl
   exact call_list_seq p (.inr rfl) ho hc hd (fun h' c' kp e=>fin its r' hz h' c' kp e) (by simp only [gH] <;> omega)
theorem yd:iy X (.type "tuple") (fun xs H Q=>∃p ys,xs=[.ref p]/\((aH X.K H p ys/\∀l,H l=none->Q (.ref l) (upd H l (.tup ys)))\/(bN X.K H p ys/\Q (.ref p) H))):=by
 intro pins s σ H xs us Q I r h
 obtain ⟨p,ys,rfl,h⟩:=h
 obtain ⟨u,rfl,rx⟩:=vals1 r
 cases rx
 rcases h with ⟨hq,q⟩|⟨hq,q⟩
 . obtain ⟨its,r',pl,hz⟩:=I.list hq
   have hlen:=r'.length
   refine call_tuple_list pl.isList (fun h' kp=>?_) (by simp only [gH] <;> omega)
   have I1:Inv X pins σ H { s with heap:=h' }:=I.kept (t':=s.toks) kp
   have I2:Inv X pins σ (upd H h'.objs.size (.tup ys)) { s with heap:=h'.push { cls:= .type "tuple",data:= .seq its.toArray } }:=
    I1.laid (t':=s.toks) (fun b o e=>b7 _ e) (aK _) (show dI X.prog X.w _ _ _ (.tup ys) from ⟨hz,its,r',IsTup.new _ _⟩)
   exact ⟨.ref h'.objs.size,_,I2,Z,q _ (I1.hok.fresh (aK _))⟩
 . obtain ⟨its,r',pl,hz⟩:=I.tuple hq
   exact call_tuple_same pl ⟨.ref p,H,I,Z,q⟩
def tyV (K:Fg) (T:String) (x:V) (H:Hp):Prop:=match x with
 | .str _=>T = "str"
 | .int _=>T = "int"
 | .ref p=>(T = "list"/\∃xs,aH K H p xs)\/(T = "tuple"/\∃o,K.lookup p=some o/\o.cls = .type "tuple"/\o.dict=none)\/
     (T = "dict"/\((∃kvs,H p=some (.dK kvs))\/∃kvs,H p=some (.dT kvs)))\/(T = "set"/\∃S n,H p=some (.set S n))
 | _=>False
theorem YJ {T:String} {x:V} {v:Value} (I:Inv X pins σ H s) (r:RelV x v) (ty:tyV X.K T x H):
  s.TypeIs v T/\∀a,v = .ref a->∃ob,s.heap.get? a=some ob/\ob.dict=none:=by
 cases x with
 | str z=>
   obtain ⟨t,rfl⟩:=r
   cases (show T = "str" from ty)
   exact ⟨typeIs_str s z t,fun _ e=>nomatch e⟩
 | int i=>
   obtain ⟨t,rfl⟩:=r
   cases (show T = "int" from ty)
   exact ⟨typeIs_int s i t,fun _ e=>nomatch e⟩
 | ref p=>
   cases r
   rcases ty with ⟨rfl,xs,hq⟩|⟨rfl,o,hk,hc,hd⟩|⟨rfl,hk⟩|⟨rfl,S,n,hk⟩
   . obtain ⟨its,_,pl,_⟩:=I.list hq
     refine ⟨pl.isList.typeIs,fun a e=>?_⟩
     cases e
     obtain ⟨o,n,e,c,hd,_⟩:=pl
     exact ⟨o,e,hd⟩
   . refine ⟨⟨o,I.jA p o hk,hc⟩,fun a e=>?_⟩
     cases e
     exact ⟨o,I.jA _ o hk,hd⟩
   . have z:∃o,s.heap.get? p=some o/\o.ExactDict:=by
      rcases hk with ⟨kvs,hk⟩|⟨kvs,hk⟩
      . obtain ⟨_,_,_,_,o,_,_,e,ex,_⟩:=I.hok p _ hk
        exact ⟨o,e,ex⟩
      . obtain ⟨_,_,_,_,o,_,_,e,ex,_⟩:=I.hok p _ hk
        exact ⟨o,e,ex⟩
     obtain ⟨o,e,ex⟩:=z
     refine ⟨⟨o,e,ex.1⟩,fun a e2=>?_⟩
     cases e2
     exact ⟨o,e,ex.2.1⟩
   . obtain ⟨o,_,_,_,e,ex,_⟩:=I.hok p _ hk
     refine ⟨⟨o,e,ex.1⟩,fun a e2=>?_⟩
     cases e2
     exact ⟨o,e,ex.2.1⟩
 | _=>exact False.elim ty
def YK (r:V->List V->Hp->VK->Prop) (Q:VK) (x:V):List V->Hp->Prop:=fun xs H2=>r x xs H2 Q
inductive ae5 (K:Fg) (T:String) (r:V->List V->Hp->VK->Prop) (t:TA) (σ:St) (Q:VK) (x:V) (H1:Hp):Prop
 | mk  (_:tyV K T x H1) (_:t σ H1 (YK r Q x))
def tBM (K:Fg) (T:String) (r:V->List V->Hp->VK->Prop) (to:TE) (t:TA):TE:=fun σ H Q=>to σ H (ae5 K T r t σ Q)
variable {o e:Expr} {es:List Expr} {to:TE} {t:TA} {name:Str} {apos cpos:Pos} {T id:String} {r:V->List V->Hp->VK->Prop}
end
def MtM (X:Cx) (id:String) (r:V->List V->Hp->VK->Prop):Prop:=
 ∀(pins:AO) (s:Shared) (σ:St) (H:Hp) (x:V) (xs:List V) (v:Value) (us:List Value) (Q:VK),Inv X pins σ H s->RelV x v->Vals xs us->r x xs H Q->
  wpAny (model X.prog X.w) X.A (call (.builtin id) (v::us)) (EP X pins σ Q) X.xe s
theorem Vals.one:∀{x:V} {us:List Value},Vals [x] us->∃u,us=[u]/\RelV x u
 | _,_, .cons r .nil=>⟨_,Z,r⟩
theorem Vals.reverse (h:Vals xs us):Vals xs.reverse us.reverse:=by
 induction h with
 | nil=>exact .nil
 | cons r t ih=>rw [List.reverse_cons,List.reverse_cons];exact Vals.append ih (.cons r .nil)
theorem Vals.rep {xs:List V} {us:List Value} (h:Vals xs us):∀k:Nat,Vals (List.replicate k xs).flatten (List.replicate k us).flatten
 | 0=> .nil
 | k+1=>by
   rw [AE,AE,Ov,Ov]
   exact Vals.append h (Vals.rep h k)
theorem foldl_rep (its:List Value):∀(k:Nat) (acc:List Value),
  List.foldl (fun x1 x2=>x1++x2) acc.toArray (List.replicate k its.toArray)=(acc++(List.replicate k its).flatten).toArray
 | 0,acc=>by simp
 | k+1,acc=>by
   have e:acc.toArray++its.toArray=(acc++its).toArray:=by simp
   have e2:(acc++its)++(List.replicate k its).flatten=acc++(List.replicate (k+1) its).flatten:=by
    rw [AE,Ov,Ow]
   rw [<-e2,<-foldl_rep its k (acc++its),<-e,AE,kH]
variable {t':Nat}
section
variable {X:Cx} {pins:AO} {σ:St} {H:Hp} {s:Shared} {l b:Addr} {xs ys zs:List V}
theorem Inv.ae6 {n:Nat} {f:Array Value->Array Value} (I:Inv X pins σ H s) (hH:H l=some (.lst xs))
  (e:s.heap.get? l=some { cls:= .type "list",data:= .seq its.toArray n }) (hf:f its.toArray=its'.toArray) (hv:Vals ys its') (hz:ys.length<=sizeLine):
  Inv X pins σ (upd H l (.lst ys)) { s with heap:=s.heap.update l (Obj.mapSeq f),toks:=t' }:=by
 have q:=PySem.IsL.update e f
 rw [hf] at q
 refine I.write (x:=l) (e:=l) (by rw [hH];exact trivial) (.inl rfl) (fun b' u hb hu=>(Heap.get?_update_other s.heap (Obj.mapSeq f) (cO hb)).trans hu) ⟨_,q⟩ ?_
 exact ⟨hz,its',_,hv,q⟩
theorem Inv.YL (I:Inv X pins σ H s) (hv:Vals ys its) (hz:ys.length<=sizeLine):
  Inv X pins σ (upd H s.heap.objs.size (.lst ys)) { s with heap:=s.heap.push { cls:= .type "list",data:= .seq its.toArray },toks:=t' }:=
 I.laid (fun _ _ q=>b7 _ q) (aK _) ⟨hz,its,0,hv,d_ _ rfl⟩
theorem Inv.fresh (I:Inv X pins σ H s):H s.heap.objs.size=none:=I.hok.fresh (aK _)
theorem Inv.OW (I:Inv X pins σ H s) (hH:H l=some (.lst xs)):xs.length<=sizeLine/\∃(its:List Value) (n:Nat),Vals xs its/\xs.length=its.length/\s.heap.get? l=some { cls:= .type "list",data:= .seq its.toArray n }:=by
 obtain ⟨z,its,n,r,e⟩:=I.hok l _ hH
 exact ⟨z,its,n,r,r.length,e⟩
theorem Tn {n:Nat} (h:n<=sizeLine):Builtin.List.listTooLong n=false:=by
 unfold Builtin.List.listTooLong
 exact cV (by omega)
end
section
variable {X:Cx}
inductive Wl (x:V) (vs:List V) (H:Hp) (Q:VK):Prop
 | mk  (l xs y:_) (_:x = .ref l) (_:vs=[y]) (_:H l=some (.lst xs)) (_:xs.length<sizeLine) (_:Q .bU (upd H l (.lst (xs++[y]))))
theorem dU:MtM X "list.append" Wl:=by
 intro pins s σ H x vs v us Q I rx rv h
 obtain ⟨l,xs,y,rfl,rfl,hH,hz,q⟩:=h
 cases rx
 obtain ⟨u,rfl,ru⟩:=rv.one
 obtain ⟨z,its,n,r,hl,e⟩:=I.OW hH
 refine call_meets F.slot_list_append ⟨_,e,Z⟩ F.entry_list_append (F.args_list_append_2 _ _) (PySem.list_append l its.toArray n u (by rw [gH];omega)) ⟨e,?_⟩
 refine ⟨.bU,_,I.ae6 (its':=its++[u]) hH e (by simp) (r.append (.cons ru .nil)) ?_,Z,q⟩
 rw [dg,List.length_singleton]
 omega
inductive ae7 (x:V) (y:V) (H:Hp) (Q:VK):Prop
 | mk  (l b xs zs:_) (_:x = .ref l) (_:y = .ref b) (_:H l=some (.lst xs)) (_:H b=some (.lst zs)) (_:xs.length+zs.length<=sizeLine) (_:∀p,H p=none->Q (.ref p) (upd H p (.lst (xs++zs))))
theorem YM:iL X (binaryOp .Add) ae7:=by
 intro pins s σ H x y v u Q I rx ry h
 obtain ⟨l,b,xs,zs,rfl,rfl,hH,hB,hz,q⟩:=h
 cases rx
 cases ry
 obtain ⟨z,its,n,r,hl,e⟩:=I.OW hH
 obtain ⟨z2,its2,n2,r2,hl2,e2⟩:=I.OW hB
 refine PySem.P.add_list e e2 ?_ (by rw [gH,gH];omega)
 have ea:its.toArray++its2.toArray=(its++its2).toArray:=by simp
 rw [ea]
 exact ⟨.ref _,_,I.YL (t':=s.toks) (r.append r2) (by rw [dg];omega),Z,q _ I.fresh⟩
inductive ae8 (x:V) (y:V) (H:Hp) (Q:VK):Prop
 | mk  (l k xs:_) (_:x = .ref l) (_:y = .int k) (_:H l=some (.lst xs)) (_:-(2 ^ 63)<=k) (_:k<2 ^ 63) (_:xs.length*k.toNat<=sizeLine) (_:∀p,H p=none->Q (.ref p) (upd H p (.lst (List.replicate k.toNat xs).flatten)))
theorem len_rep {α:Type} (xs:List α) (k:Nat):(List.replicate k xs).flatten.length=k*xs.length:=by
 induction k with
 | zero=>simp
 | succ k ih=>rw [AE,Ov,dg,ih,Nat.succ_mul,Nat.add_comm]
theorem QM:iL X (binaryOp .Mult) ae8:=by
 intro pins s σ H x y v u Q I rx ry h
 obtain ⟨l,k,xs,rfl,rfl,hH,h1,h2,hz,q⟩:=h
 cases rx
 obtain ⟨t,rfl⟩:=ry
 obtain ⟨z,its,n,r,hl,e⟩:=I.OW hH
 have hlen:its.toArray.size*k.toNat<=sizeLine:=by rw [gH,<-hl];exact hz
 have hcap:¬ its.toArray.size*k.toNat>(2 ^ 63-1) / 8:=by
  have:(sizeLine:Nat)<=(2 ^ 63-1) / 8:=by decide
  omega
 have hfit:¬ (!Builtin.List.listFitsIndex k)=true:=by
  rw [fitsIndex_both h1 h2]
  exact fM
 have abA:¬ Builtin.List.listTooLong (its.toArray.size*k.toNat)=true:=by
  rw [Tn hlen]
  exact fM
 have hnew:List.foldl (fun x1 x2=>x1++x2) #[] (List.replicate (if its.toArray.isEmpty=true then 0 else k.toNat) its.toArray)=(List.replicate k.toNat its).flatten.toArray:=by
  have f0:∀m:Nat,List.foldl (fun x1 x2=>x1++x2) #[] (List.replicate m its.toArray)=(List.replicate m its).flatten.toArray:=fun m=>by
   have:=foldl_rep its m []
   rw [Hs] at this
   exact this
  rw [f0]
  cases its with
  | nil=>simp
  | cons a r'=>rw [aA (by simp)]
 refine wpAny_binaryOp_repeat_ref (T:="list") (U:="int") (by decide) ⟨_,e,Z⟩ (fun s'=>typeIs_int s' k t) noFill_list_mul F.fills_int_mul F.slot_int_rmul repeat_list F.slot_int_index.lookup
  (call_meets F.slot_int_rmul (typeIs_int s k t) F.entry_int_rmul (F.args_int_rmul_2 _ _) (int___rmul___int_list k t l its.toArray n)
    ⟨e,Z,⟨_,e,Z⟩,call_meets F.slot_list_mul ⟨_,e,Z⟩ F.entry_list_mul (F.args_list_mul_2 _ _) (AutoListH.list___mul___list_int_3 l its.toArray n k t hfit hcap abA) ⟨e,?_⟩⟩)
 rw [hnew]
 exact ⟨.ref _,_,I.YL (t':=s.toks) (r.rep k.toNat) (by rw [len_rep,Nat.mul_comm];exact hz),Z,q _ I.fresh⟩
end
section
variable {prog:Program} {w:World} {A:Around} {E:VS} {s:Shared}
set_option maxRecDepth 100000 in
end
section
variable {X:Cx}
end
section
variable {κ:Type} [DecidableEq κ]
def dG (kvs:List (κ×V)) (k:κ):Option V:=(kvs.find? fun kv=>decide (kv.1=k)).map (·.2)
def putK (kvs:List (κ×V)) (k:κ) (v:V):List (κ×V):=
 if (kvs.any fun kv=>decide (kv.1=k))=true then kvs.map (fun kv=>if kv.1=k then (kv.1,v) else kv) else kvs++[(k,v)]
def lI (kvs:List (κ×V)) (k:κ):List (κ×V):=kvs.filter fun kv=>decide (kv.1≠k)
theorem gq {p:κ×V} {r:List (κ×V)} {k:κ} (e:p.1=k):dG (p::r) k=some p.2:=by simp [dG,sP,e]
theorem eL {p:κ×V} {r:List (κ×V)} {k:κ} (e:¬ p.1=k):dG (p::r) k=dG r k:=by simp [dG,sP,e]
theorem pW (k:κ):∀kvs:List (κ×V),(kvs.any fun kv=>decide (kv.1=k))=(dG kvs k).isSome
 | []=>rfl
 | p::r=>by
   rw [BE]
   by_cases e:p.1=k
   . simp only [gq e,a_ e,Bool.true_or,Option.isSome_some]
   . rw [eL e,cV e,Bool.false_or];exact pW k r
theorem Io (k j:κ) (y:V):∀kvs:List (κ×V),dG (kvs.map fun kv=>if kv.1=k then (kv.1,y) else kv) j=(dG kvs j).map fun x=>if j=k then y else x
 | []=>rfl
 | p::r=>by
   have ih:=Io k j y r
   rw [bH]
   by_cases h:p.1=k
   . rw [aB h]
     by_cases e:p.1=j
     . rw [gq (p:=(p.1,y)) e,gq e,Ht,aB (e.symm.trans h)]
     . rw [eL (p:=(p.1,y)) e,eL e,ih]
   . rw [aA h]
     by_cases e:p.1=j
     . rw [gq (p:=p) e,gq e,Ht,aA (fun z=>h (e.trans z))]
     . rw [eL (p:=p) e,eL e,ih]
theorem EW (k j:κ) (y:V):∀kvs:List (κ×V),dG kvs k=none->dG (kvs++[(k,y)]) j=if j=k then some y else dG kvs j
 | [],_=>by
   by_cases e:k=j
   . rw [aB e.symm];exact gq (p:=(k,y)) e
   . rw [aA (fun z=>e z.symm)];exact eL (p:=(k,y)) e
 | p::r,hn=>by
   rw [OC]
   have hk:¬ p.1=k:=fun z=>by rw [gq z] at hn;cases hn
   rw [eL hk] at hn
   have ih:=EW k j y r hn
   by_cases e:p.1=j
   . rw [gq e,gq e,aA (fun z=>hk (e.trans z))]
   . rw [eL e,eL e,ih]
theorem To (kvs:List (κ×V)) (k j:κ) (y:V):dG (putK kvs k y) j=if j=k then some y else dG kvs j:=by
 unfold putK
 by_cases a:(kvs.any fun kv=>decide (kv.1=k))=true
 . rw [aB a,Io]
   rw [pW] at a
   by_cases e:j=k
   . obtain ⟨x,hx⟩:=Option.isSome_iff_exists.mp a
     rw [aB e,e,hx,Ht,aB rfl]
   . rw [aA e]
     cases dG kvs j with
     | none=>rfl
     | some x=>rw [Ht,aA e]
 . rw [aA a]
   refine EW k j y kvs ?_
   rw [pW] at a
   cases q:dG kvs k with
   | none=>rfl
   | some x=>rw [q] at a;exact (a rfl).elim
theorem vq (kvs:List (κ×V)) (k:κ) (v:V):(putK kvs k v).length<=kvs.length+1:=by
 unfold putK
 split
 . rw [aE];omega
 . rw [dg,jP,List.length_nil];omega
theorem nc {kvs:List (κ×V)} {k:κ} (v:V) (h:dG kvs k=none):putK kvs k v=kvs++[(k,v)] :=by
 unfold putK
 rw [pW,h]
 exact aA (by decide)
theorem lY.nN {o:Option V} {u:Option Value} (r:lY o u):o.isSome=u.isSome:=by
 cases o with
 | none=>cases u with
   | none=>rfl
   | some _=>exact (show False from r).elim
 | some _=>cases u with
   | none=>exact (show False from r).elim
   | some _=>rfl
theorem KV.val {kvs:List (κ×V)} {vs:List (κ×Value)} (r:KV kvs vs) (k:κ):lY (dG kvs k) (valueAt vs k):=by
 unfold KV at r
 induction r with
 | nil=>exact True.intro
 | @cons p q ps qs h t ih=>
   obtain ⟨h1,h2⟩:=h
   by_cases e:p.1=k
   . have e':q.1=k:=h1.symm.trans e
     have b:valueAt (q::qs) k=some q.2:=by simp [valueAt,sP,e']
     rw [gq e,b];exact h2
   . have e':¬ q.1=k:=fun z=>e (h1.trans z)
     have b:valueAt (q::qs) k=valueAt qs k:=by simp [valueAt,sP,e']
     rw [eL e,b];exact ih
theorem KV.any {kvs:List (κ×V)} {vs:List (κ×Value)} (r:KV kvs vs) (k:κ):(kvs.any fun kv=>decide (kv.1=k))=vs.any fun kv=>decide (kv.1=k):=by
 unfold KV at r
 induction r with
 | nil=>rfl
 | cons h t ih=>rw [BE,BE,ih,h.1]
theorem KV.repl {kvs:List (κ×V)} {vs:List (κ×Value)} (r:KV kvs vs) (k:κ) (ry:RelV y u):
  KV (kvs.map fun kv=>if kv.1=k then (kv.1,y) else kv) (vs.map fun kv=>if kv.1=k then (kv.1,u) else kv):=by
 unfold KV at r ⊢
 induction r with
 | nil=>exact .nil
 | @cons p q ps qs h t ih=>
   rw [bH,bH]
   refine .cons ?_ ih
   obtain ⟨h1,h2⟩:=h
   by_cases e:p.1=k
   . rw [aB e,aB (h1.symm.trans e)];exact ⟨h1,ry⟩
   . rw [aA e,aA (fun z=>e (h1.trans z))];exact ⟨h1,h2⟩
theorem KV.put {kvs:List (κ×V)} {vs:List (κ×Value)} (r:KV kvs vs) (k:κ) (ry:RelV y u):KV (putK kvs k y) (stored vs k u):=by
 unfold putK stored
 rw [r.any k]
 by_cases e:(vs.any fun kv=>decide (kv.1=k))=true
 . rw [aB e,aB e];exact r.repl k ry
 . rw [aA e,aA e];exact Paired.snoc r ⟨Z,ry⟩
theorem KV.drop {kvs:List (κ×V)} {vs:List (κ×Value)} (r:KV kvs vs) (k:κ):KV (lI kvs k) (without vs k):=by
 unfold KV at r ⊢
 unfold lI without
 induction r with
 | nil=>exact .nil
 | @cons p q ps qs h t ih=>
   obtain ⟨h1,h2⟩:=h
   rw [ia,ia]
   by_cases e:p.1=k
   . have a:¬ decide (p.1≠k)=true:=by simp [e]
     have b:¬ decide (q.1≠k)=true:=by simp [h1.symm.trans e]
     rw [aA a,aA b];exact ih
   . have e':¬ q.1=k:=fun z=>e (h1.trans z)
     have a:decide (p.1≠k)=true:=by simp [e]
     have b:decide (q.1≠k)=true:=by simp [e']
     rw [aB a,aB b];exact .cons ⟨h1,h2⟩ ih
theorem KV.length {kvs:List (κ×V)} {vs:List (κ×Value)} (r:KV kvs vs):kvs.length=vs.length:=Paired.length r
theorem Tp (kvs:List (κ×V)) (k:κ):(lI kvs k).length<=kvs.length:=List.length_filter_le _ _
end
variable {P:Program}
theorem wW {w:World} {k:Key} (r:RelV (kV k) u):(cM P w).is k u=true:=by
 cases k with
 | inl i=>obtain ⟨t,e⟩:=(show ∃t,u=Value.int i t from r);subst e;exact Lp P w i t
 | inr x=>obtain ⟨t,e⟩:=(show ∃t,u=Value.str x t from r);subst e;exact Lq P w x t
theorem EX {P:Program} {w:World}:∀{ks:List Key} {us:List Value},Vals (ks.map kV) us->ItemsAre (cM P w) ks us
 | [],_,r=>by rw [List.map_nil] at r;cases r;exact .nil
 | k::ks,_,r=>by
   rw [bH] at r
   cases r with
   | cons h t=>exact .cons (wW h) (EX t)
abbrev KT (H:Hp):List (List Key×V)->List (List Key×Addr×Value)->Prop:=Paired fun p q=>p.1=q.1/\H q.2.1=some (.tup (p.1.map kV))/\RelV p.2 q.2.2
theorem KT.val {kvs:List (List Key×V)} {xs:List (List Key×Addr×Value)} (r:KT H kvs xs) (k:List Key):lY (dG kvs k) ((atKey xs k).map (·.2)):=by
 induction r with
 | nil=>exact True.intro
 | @cons p q ps qs h t ih=>
   obtain ⟨h1,_,h2⟩:=h
   by_cases e:p.1=k
   . have e':q.1=k:=h1.symm.trans e
     have b:atKey (q::qs) k=some q.2:=by simp [atKey,sP,e']
     rw [gq e,b];exact h2
   . have e':¬ q.1=k:=fun z=>e (h1.trans z)
     have b:atKey (q::qs) k=atKey qs k:=by simp [atKey,sP,e']
     rw [eL e,b];exact ih
theorem KT.repl {kvs:List (List Key×V)} {xs:List (List Key×Addr×Value)} (r:KT H kvs xs) (k:List Key) (ry:RelV y u):
  KT H (kvs.map fun kv=>if kv.1=k then (kv.1,y) else kv) (xs.map (putAt k u)):=by
 induction r with
 | nil=>exact .nil
 | @cons p q ps qs h t ih=>
   rw [bH,bH]
   refine .cons ?_ ih
   obtain ⟨h1,h2,h3⟩:=h
   unfold putAt
   by_cases e:p.1=k
   . rw [aB e,aB (h1.symm.trans e)];exact ⟨h1,h2,ry⟩
   . rw [aA e,aA (fun z=>e (h1.trans z))];exact ⟨h1,h2,h3⟩
variable {b:Addr}
theorem KT.put {kvs:List (List Key×V)} {xs:List (List Key×Addr×Value)} (r:KT H kvs xs) (k:List Key) (hb:H b=some (.tup (k.map kV))) (ry:RelV y u):
  KT H (putK kvs k y) (storedH xs k b u):=by
 have e:(kvs.any fun kv=>decide (kv.1=k))=(atKey xs k).isSome:=by
  rw [pW,(r.val k).nN,Option.isSome_map]
 unfold putK storedH
 rw [e]
 by_cases q:(atKey xs k).isSome=true
 . rw [aB q,aB q];exact r.repl k ry
 . rw [aA q,aA q];exact Paired.snoc r ⟨Z,hb,ry⟩
variable {H':Hp}
theorem KT.keeps {kvs:List (List Key×V)} {xs:List (List Key×Addr×Value)} (r:KT H kvs xs) (ht:∀b ys,H b=some (.tup ys)->H' b=some (.tup ys)):KT H' kvs xs:=
 Paired.SM r fun _ _ z=>⟨z.1,ht _ _ z.2.1,z.2.2⟩
variable {kvs:List (Key×V)}
section
variable {P:Program} {w:World} {H:Hp} {h:Heap} {a:Addr}
theorem Vd {u:HO} (ok:gU P w H h) (e:Rd H a u):dI P w H h a u:=e.ok ok
theorem sR (ok:gU P w H h) (e:Rd H a (.dK kvs)):kvs.length<=sizeLine/\(a==sysModules)=false/\∃vs,KV kvs vs/\h.DictOf (cM P w) a vs:=
 show dI P w H h a (.dK kvs) from Vd ok e
theorem BW (ok:gU P w H h) (e:H a=some (.dK kvs)):kvs.length<=sizeLine/\(a==sysModules)=false/\∃vs,KV kvs vs/\h.DictOf (cM P w) a vs:=sR ok (.inl e)
theorem yw {ks:List Key} (ok:gU P w H h) (e:H a=some (.tup (ks.map kV))):(tupleKind (cM P w)).is h ks a:=by
 obtain ⟨_,its,r,o,h1,h2,n,h3⟩:=(show dI P w H h a (.tup (ks.map kV)) from ok a _ e)
 exact ⟨o,its.toArray,n,h1,h2,h3,by simpa using EX r⟩
theorem zW {kvs:List (List Key×V)} (ok:gU P w H h) (e:Rd H a (.dT kvs)):kvs.length<=sizeLine/\(a==sysModules)=false/\
  ∃xs,KT H kvs xs/\h.DictOfH (tupleKind (cM P w)) a xs:=by
 obtain ⟨z,y,xs,r,o,es,ep,h1,h2,h3,h4,h5⟩:=(show dI P w H h a (.dT kvs) from Vd ok e)
 refine ⟨z,y,xs,r,o,es,ep,h1,h2,h3,h4,fun x hx=>?_,h5⟩
 have all:∀{l:List (List Key×V)} {m:List (List Key×Addr×Value)},KT H l m->∀x∈m,(tupleKind (cM P w)).is h x.1 x.2.1:=by
  intro l m q
  induction q with
  | nil=>intro x hx;exact nomatch hx
  | @cons p q ps qs hq t ih=>
    intro x hx
    rcases bP.mp hx with e|hx
    . subst e
      exact yw ok (by rw [<-hq.1];exact hq.2.1)
    . exact ih x hx
 exact all r x hx
theorem abB {kvs:List (List Key×V)} (ok:gU P w H h) (e:H a=some (.dT kvs)):kvs.length<=sizeLine/\(a==sysModules)=false/\
  ∃xs,KT H kvs xs/\h.DictOfH (tupleKind (cM P w)) a xs:=zW ok (.inl e)
end
def ee (H:Hp) (a:Addr) (y:V) (r:Option V):Prop:=
 (∃kvs k,Rd H a (.dK kvs)/\y=kV k/\r=dG kvs k)\/∃kvs k b,Rd H a (.dT kvs)/\y = .ref b/\H b=some (.tup (k.map kV))/\r=dG kvs k
def vt (H:Hp) (a:Addr) (y v:V) (H':Hp):Prop:=
 (∃kvs k,H a=some (.dK kvs)/\y=kV k/\kvs.length<sizeLine/\H'=upd H a (.dK (putK kvs k v)))\/
 ∃kvs k b,H a=some (.dT kvs)/\y = .ref b/\H b=some (.tup (k.map kV))/\kvs.length<sizeLine/\H'=upd H a (.dT (putK kvs k v))
variable {a:Addr}
theorem ee.k {k:Key} (e:H a=some (.dK kvs)):ee H a (kV k) (dG kvs k):= .inl ⟨kvs,k, .inl e,Z,Z⟩
theorem vt.k {k:Key} {v:V} (e:H a=some (.dK kvs)) (hl:kvs.length<sizeLine):vt H a (kV k) v (upd H a (.dK (putK kvs k v))):= .inl ⟨kvs,k,e,Z,hl,Z⟩
variable {h':Heap} {Q:Unit->Shared->Prop}
section
variable {X:Cx} {pins:AO} {σ:St} {H:Hp} {s:Shared} {a:Addr} {y v:V} {u r:Value} {o:Option V} {A:Around} {E:VS}
theorem Inv.big (I:Inv X pins σ H s):sysModules<s.heap.objs.size:=by
 have h:mainGlobals<s.heap.objs.size:=(I.mod.glob.keeps I.bk).lt
 exact Nat.lt_trans (by decide) h
theorem QN {Q:VS} (hu:A.units+1<cLine) (I:Inv X pins σ H s) (g:ee H a y (some v)) (ry:RelV y u) (h:∀w' s',Inv X pins σ H s'->RelV v w'->Q w' s'):
  wpAny (model X.prog X.w) A (getItem (.ref a) u) Q E s:=by
 rcases g with ⟨kvs,k,e,ey,l⟩|⟨kvs,k,b,e,ey,eb,l⟩
 . subst ey
   obtain ⟨z,hd,vs,rel,dd⟩:=sR I.hok e
   obtain ⟨w',hw,rw'⟩:=lY.some_of (v:=v) (o:=valueAt vs k) (by rw [l];exact rel.val k)
   exact wpAny_getItem_of (wW ry) dd.mapOf hw (h w' _ (I.tok _) rw')
 . subst ey
   cases (show u=Value.ref b from ry)
   obtain ⟨z,hd,xs,rel,dd⟩:=zW I.hok e
   obtain ⟨w',hw,rw'⟩:=lY.some_of (v:=v) (o:=(atKey xs k).map (·.2)) (by rw [l];exact rel.val k)
   obtain ⟨p,hp,hp2⟩:=lW.mp hw
   refine wpAny_getItem_heap (Oo hu) (yw I.hok eb) dd hp ?_
   rw [hp2]
   exact h w' _ (I.tok _) rw'
theorem ae9 {Q:VS} (hu:A.units+1<cLine) (I:Inv X pins σ H s) (g:ee H a y o) (ry:RelV y u) (h:∀s',Inv X pins σ H s'->Q (.bool o.isSome) s'):
  wpAny (model X.prog X.w) A (compareOp .In u (.ref a)) Q E s:=by
 rcases g with ⟨kvs,k,e,ey,l⟩|⟨kvs,k,b,e,ey,eb,l⟩
 . subst ey
   obtain ⟨z,hd,vs,rel,dd⟩:=sR I.hok e
   refine wpAny_in_of (wW ry) hd dd.mapOf ?_
   rw [<-(rel.val k).nN,<-l]
   exact h _ (I.tok _)
 . subst ey
   cases (show u=Value.ref b from ry)
   obtain ⟨z,hd,xs,rel,dd⟩:=zW I.hok e
   refine wpAny_in_heap (Oo hu) (yw I.hok eb) hd dd ?_
   have q:=(rel.val k).nN
   rw [Option.isSome_map] at q
   rw [<-q,<-l]
   exact h _ (I.tok _)
theorem Wm {Q:VS} (hu:A.units+1<cLine) (I:Inv X pins σ H s) (g:ee H a y o) (ry:RelV y u) (h:∀s',Inv X pins σ H s'->Q (.bool (!o.isSome)) s'):
  wpAny (model X.prog X.w) A (compareOp .NotIn u (.ref a)) Q E s:=by
 rcases g with ⟨kvs,k,e,ey,l⟩|⟨kvs,k,b,e,ey,eb,l⟩
 . subst ey
   obtain ⟨z,hd,vs,rel,dd⟩:=sR I.hok e
   refine wpAny_notIn_of (wW ry) hd dd.mapOf ?_
   rw [<-(rel.val k).nN,<-l]
   exact h _ (I.tok _)
 . subst ey
   cases (show u=Value.ref b from ry)
   obtain ⟨z,hd,xs,rel,dd⟩:=zW I.hok e
   refine wpAny_notIn_heap (Oo hu) (yw I.hok eb) hd dd ?_
   have q:=(rel.val k).nN
   rw [Option.isSome_map] at q
   rw [<-q,<-l]
   exact h _ (I.tok _)
theorem zX (I:Inv X pins σ H s) (mu:Qm (H a)) (hs:Heap.SameBut a s.heap h') (he:∃q,h'.get? a=some q) (new:dI X.prog X.w (upd H a ob) h' a ob):
  Inv X pins σ (upd H a ob) { s with heap:=h',toks:=t' }:=
 I.write (x:=a) (e:=a) mu (.inl rfl) (fun b q hb z=>(hs.2 b hb).trans z) he new
theorem Ip {w:World} {vs:List (Key×Value)} (z:kvs.length<=sizeLine) (hd:(a==sysModules)=false) (rel:KV kvs vs) (dd:h'.DictOf (cM P w) a vs):
  dI P w H' h' a (.dK kvs):=⟨z,hd,vs,rel,dd⟩
theorem QO (hu:A.units+1<cLine) (I:Inv X pins σ H s) (g:vt H a y v H') (ry:RelV y u) (rv:RelV v r) (h:∀s',Inv X pins σ H' s'->Q () s'):
  wpAny (model X.prog X.w) A (setItem (.ref a) u r) Q E s:=by
 rcases g with ⟨kvs,k,e,ey,l,eH⟩|⟨kvs,k,b,e,ey,eb,l,eH⟩
 . subst ey eH
   obtain ⟨z,hd,vs,rel,dd⟩:=BW I.hok e
   have hz:vs.length<=sizeLine:=by rw [<-rel.length];exact z
   have hl:(putK kvs k v).length<=sizeLine:=by have:=vq kvs k v;omega
   refine wpAny_setItem_pairs (hsz:=hz) (wW ry) dd fun h' Am hs=>h _ ?_
   have he:∃q,h'.get? a=some q:=let ⟨q,_,_,hq,_⟩:=Am;⟨q,hq⟩
   exact zX I (by rw [e];exact True.intro) hs he (Ip hl hd (rel.put k rv) Am)
 . subst ey eH
   cases (show u=Value.ref b from ry)
   obtain ⟨z,hd,xs,rel,dd⟩:=abB I.hok e
   have hz:xs.length<=sizeLine:=by rw [<-Paired.length rel];exact z
   have hl:(putK kvs k v).length<=sizeLine:=by have:=vq kvs k v;omega
   refine wpAny_setItem_heap (hsz:=hz) (Oo hu) (yw I.hok eb) dd fun h' Am hs=>h _ ?_
   obtain ⟨q,es,ep,hq,h2,h3,h4,_,h5⟩:=Am
   refine zX I (by rw [e];exact True.intro) hs ⟨q,hq⟩ ⟨hl,hd,_,(rel.put k eb rv).keeps fun c ys ec=>?_,q,es,ep,hq,h2,h3,h4,h5⟩
   rw [az (iX ec e (fun z=>nomatch z))]
   exact ec
end
section
variable {X:Cx} {pins:AO} {σ:St} {H:Hp} {s:Shared} {a:Addr} {kvs:List (Key×V)} {k:Key} {u:Value} {A:Around} {E:VS}
theorem QS (I:Inv X pins σ H s) (e:H a=some (.dK kvs)) (ry:RelV (kV k) u) (l:(dG kvs k).isSome=true) (h:∀s',Inv X pins σ (upd H a (.dK (lI kvs k))) s'->Q () s'):
  wpAny (model X.prog X.w) A (delItem (.ref a) u) Q E s:=by
 obtain ⟨z,hd,vs,rel,dd⟩:=BW I.hok e
 refine wpAny_delItem_slot dd.typeIs (by decide) PySem.F.slot_dict_delitem
  (call_meetsIn PySem.F.slot_dict_delitem dd.typeIs PySem.F.entry_dict_delitem (PySem.F.args_dict_delitem_2 _ _) (meets_dict_delitem_pairs (cM X.prog X.w) a (wW ry)) ⟨vs,dd,by rw [<-rel.length];exact z,by rw [<-(rel.val k).nN];exact l,fun h' Am hs=>h _ ?_⟩)
 have he:∃q,h'.get? a=some q:=let ⟨q,_,_,hq,_⟩:=Am;⟨q,hq⟩
 exact zX I (by rw [e];exact True.intro) hs he (Ip (fT (Tp kvs k) z) hd (rel.drop k) Am)
theorem abC {Q:VS} (I:Inv X pins σ H s) (e:Rd H a (.dK kvs)) (h:∀t s',Inv X pins σ H s'->Q (.int kvs.length t) s'):wpAny (model X.prog X.w) A (call (.builtin "len") [.ref a]) Q E s:=by
 obtain ⟨z,hd,vs,rel,dd⟩:=sR I.hok e
 refine call_len_dict hd dd (by rw [<-rel.length];rw [jQ] at z;omega) ?_
 rw [<-rel.length]
 exact h _ _ (I.tok _)
end
def YN (i:Expr):Prop:=∀ov iv,subscripted i false ov iv=operate [ov,iv] (getItem ov iv)
variable {E:VS} {env:Env} {value:Expr} {pos:Pos}
theorem Wn {prog:Program} {w:World} {A:Around} {slice:Expr} {T id:String} {Q:VS}
  (hl:typeLookup (.type T) "__getitem__"=pure (some (.builtin id))) (hs:YN slice)
  (h:wpAny (model prog w) A (eval value env) (fun o s₁=>wpAny (model prog w) A (eval slice env) (fun i s₂=>s₂.TypeIs o T/\wpAny (model prog w) A (getItem o i) Q E s₂) E s₁) E s):
  wpAny (model prog w) A (eval (.Subscript value slice pos) env) Q E s:=by
 refine Subscript_ (jd h (fun o s₁ h₁=>jd h₁ (fun i s₂ h₂=>?_) fun _ _ x=>x) fun _ _ x=>x)
 obtain ⟨hT,h₂⟩:=h₂
 unfold subscriptTail
 refine au ?_
 rw [getitemInPython_of_ne hT.not_modules]
 refine au (wpAny_specialOf hT hl ?_)
 have fin:wpAny (model prog w) A (subscripted slice false o i) (fun r s₃=>wpAny (model prog w) A (letTemporaryGo value o r >>= fun _=>pure r) Q E s₃) E s₂:=by
  rw [hs o i]
  exact wpAny_operating (jd h₂ (fun r s₃ h₃=>au (wpAny_letTemporaryGo (aL h₃))) fun _ _ x=>x)
 first
  | exact aL (au fin)
  | exact au (aL (au fin))
  | exact au fin
variable {X:Cx}
theorem Ls {o:Option V} (I:Inv X pins σ H s) (g:ee H a y o):s.TypeIs (.ref a) "dict":=by
 rcases g with ⟨kvs,k,e,_,_⟩|⟨kvs,k,b,e,_,_,_⟩
 . obtain ⟨_,_,vs,_,dd⟩:=sR I.hok e
   exact dd.typeIs
 . obtain ⟨_,_,xs,_,dd⟩:=zW I.hok e
   exact dd.typeIs
inductive Tq (Q:VK) (x:V) (y:V) (H2:Hp):Prop
 | mk  (a v:_) (_:x = .ref a) (_:ee H2 a y (some v)) (_:Q v H2)
def YO (ty:TE) (σ:St) (Q:VK):V->Hp->Prop:=fun x H1=>ty σ H1 (Tq Q x)
def Ve (td ty:TE):TE:=fun σ H Q=>td σ H (YO ty σ Q)
inductive Wo (Q:VK) (y:V) (x:V) (H2:Hp):Prop
 | mk  (a o:_) (_:x = .ref a) (_:ee H2 a y o) (_:Q (.bl o.isSome) H2)
def abD (td:TE) (σ:St) (Q:VK):V->Hp->Prop:=fun y H1=>td σ H1 (Wo Q y)
def ae_ (ty td:TE):TE:=fun σ H Q=>ty σ H (abD td σ Q)
inductive OX (Q:VK) (y:V) (x:V) (H2:Hp):Prop
 | mk  (a o:_) (_:x = .ref a) (_:ee H2 a y o) (_:Q (.bl (!o.isSome)) H2)
def Tr (td:TE) (σ:St) (Q:VK):V->Hp->Prop:=fun y H1=>td σ H1 (OX Q y)
def Wq (ty td:TE):TE:=fun σ H Q=>ty σ H (Tr td σ Q)
inductive Tt (D:Ends) (σ:St) (v:V) (x:V) (y:V) (H3:Hp):Prop
 | mk  (a H4:_) (_:x = .ref a) (_:vt H3 a y v H4) (_:D.nx σ H4)
def Tu (ty:TE) (D:Ends) (σ:St) (v:V):V->Hp->Prop:=fun x H2=>ty σ H2 (Tt D σ v x)
def YQ (td:TE) (ty:TE) (D:Ends) (σ:St):V->Hp->Prop:=fun v H1=>td σ H1 (Tu ty D σ v)
def abE (td ty tv:TE):TS:=fun D σ H=>tv σ H (YQ td ty D σ)
inductive Tv (D:Ends) (σ:St) (x:V) (y:V) (H2:Hp):Prop
 | mk  (a kvs k:_) (_:x = .ref a) (_:H2 a=some (.dK kvs)) (_:y=kV k) (_:(dG kvs k).isSome=true) (_:D.nx σ (upd H2 a (.dK (lI kvs k))))
def YR (ty:TE) (D:Ends) (σ:St):V->Hp->Prop:=fun x H1=>ty σ H1 (Tv D σ x)
def abF (td ty:TE):TS:=fun D σ H=>td σ H (YR ty D σ)
section
variable {X:Cx} {o i e value:Expr} {pos pos' tpos:Pos} {td ty tv:TE}
end
theorem Iq {w:World} (h:Heap) (hb:sysModules<h.objs.size):dI P w H (h.push { cls:= .type "dict",data:= .dict #[] }) h.objs.size (.dK []):=
 ⟨gj _,DF.mpr (cO (fq hb)),[], .nil,Heap.DictOf.new h⟩
def YS:TE:=fun _ H Q=>∀p,H p=none->Q (.ref p) (upd H p (.dK []))
section
variable {X:Cx} {pos:Pos}
end
def BX:List (TE×TE)->St->Hp->(List (V×V)->Hp->Prop)->Prop
 | [],_,H,Q=>Q [] H
 | (tk,tv)::r,σ,H,Q=>tk σ H fun x H1=>tv σ H1 fun y H2=>BX r σ H2 fun ps H3=>Q ((x,y)::ps) H3
abbrev VV:List (V×V)->List (Value×Value)->Prop:=Paired fun p q=>RelV p.1 q.1/\RelV p.2 q.2
def PPs (X:Cx) (pos:Pos) (keys:List (Option Expr)) (values:List Expr) (BY:List (TE×TE)):Prop:=
 ∀(pins:AO) (s:Shared) (σ:St) (H:Hp) (Q:List (V×V)->Hp->Prop),Inv X pins σ H s->BX BY σ H Q->
  wpAny (model X.prog X.w) X.A (evalPairs (pairTrees keys values X.env pos)) (fun vs s'=>∃ps H',Inv X pins σ H' s'/\VV ps vs/\Q ps H') X.xe s
def vS (kvs more:List (Key×V)):List (Key×V):=more.foldl (fun acc kv=>putK acc kv.1 kv.2) kvs
theorem KV.merge:∀{more:List (Key×V)} {rs:List (Key×Value)} {kvs:List (Key×V)} {vs:List (Key×Value)},KV more rs->KV kvs vs->KV (vS kvs more) (merged vs rs):=by
 intro more rs kvs vs r
 unfold KV at r
 induction r generalizing kvs vs with
 | nil=>intro q;exact q
 | @cons p q ps qs h t ih=>
   intro r0
   have e:KV (putK kvs p.1 p.2) (stored vs q.1 q.2):=by
    have:=r0.put p.1 h.2
    rw [<-h.1];exact this
   exact ih e
theorem ye:∀(more kvs:List (Key×V)),(vS kvs more).length<=kvs.length+more.length
 | [],kvs=>by show kvs.length<=kvs.length+0;omega
 | p::r,kvs=>by
   have h1:=ye r (putK kvs p.1 p.2)
   have h2:=vq kvs p.1 p.2
   show (vS (putK kvs p.1 p.2) r).length<=_
   rw [jP];omega
theorem BZ {P:Program} {w:World}:∀{kvs:List (Key×V)} {ws:List (Value×Value)},VV (kvs.map fun kv=>(kV kv.1,kv.2)) ws->∃rs,Carries (cM P w) ws rs/\KV kvs rs
 | [],_,r=>by rw [List.map_nil] at r;cases r;exact ⟨[],True.intro, .nil⟩
 | p::kvs,_,r=>by
   rw [bH] at r
   cases r with
   | @cons a b as bs h t=>
     obtain ⟨rs,c,q⟩:=BZ (P:=P) (w:=w) t
     obtain ⟨b1,b2⟩:=b
     exact ⟨(p.1,b2)::rs,⟨wW h.1,Z,c⟩, .cons ⟨Z,h.2⟩ q⟩
def abG (BY:List (TE×TE)):TE:=fun σ H Q=>∀p,H p=none->BX BY σ (upd H p (.dK [])) fun ps H2=>H2 p=some (.dK [])/\∃kvs:List (Key×V),ps=kvs.map (fun kv=>(kV kv.1,kv.2))/\kvs.length<=15/\Q (.ref p) (upd H2 p (.dK (vS [] kvs)))
def IsD (H:Hp) (a:Addr):Prop:=(∃kvs,Rd H a (.dK kvs))\/∃kvs,Rd H a (.dT kvs)
theorem Ir (I:Inv X pins σ H s) (d:IsD H a):
  s.TypeIs (.ref a) "dict"/\(∀b,Value.ref a = .ref b->∃ob,s.heap.get? b=some ob/\ob.dict=none)/\(a==sysModules)=false:=by
 rcases d with ⟨kvs,e⟩|⟨kvs,e⟩
 . obtain ⟨_,hd,vs,_,dd⟩:=sR I.hok e
   refine ⟨dd.typeIs,fun b q=>?_,hd⟩
   cases q
   obtain ⟨ob,_,_,h1,h2,_⟩:=dd
   exact ⟨ob,h1,h2.2.1⟩
 . obtain ⟨_,hd,xs,_,dd⟩:=zW I.hok e
   refine ⟨dd.typeIs,fun b q=>?_,hd⟩
   cases q
   obtain ⟨ob,_,_,h1,h2,_⟩:=dd
   exact ⟨ob,h1,h2.2.1⟩
section
variable {X:Cx} {pins:AO} {σ:St} {H:Hp} {s:Shared} {a:Addr} {y d:V} {u r:Value} {o:Option V} {A:Around} {E:VS}
end
section
variable {X:Cx} {o e f:Expr} {apos cpos:Pos} {td ty tx:TE}
end
section
variable {X:Cx} {pins:AO} {σ:St} {H:Hp} {s:Shared} {a:Addr} {kvs:List (Key×V)} {A:Around} {E:VS}
end
section
variable {X:Cx} {pins:AO} {σ:St} {H:Hp} {s:Shared} {a:Addr} {y:V} {u:Value} {A:Around} {E:VS}
end
end L2
namespace Att
open PySem PySem.W PySem.Calls PyProof.Rows
theorem B0 {P:Params} {h:Heap}:∀(ns:List Int) (vs:List Value),WellAll P h vs (ns.map WData.int)->IntsAre vs ns:=by
 intro ns
 induction ns with
 | nil=>
   intro vs w
   rw [List.map_nil] at w
   cases w
   exact .nil
 | cons n ns ih=>
   intro vs w
   rw [bH] at w
   cases w with
   | cons a b=>
     cases a
     exact .cons _ _ (ih _ b)
theorem QT {l:OpenLaw} {n:Nat} (hn:l.most=some n) {P:Params} {h:Heap} {args:List WData} {vals:List Value}
  (hpre:l.row.toRowW.claim.pre args=true) (hwl:WellAll P h vals args):
  ∃a vs ns,vals=[Value.ref a]/\args=[WData.list (ns.map WData.int)]/\h.get? a=some { cls:= .type "list",data:= .seq vs.toArray }/\IntsAre vs ns/\ns.length<=n:=by
 have hsh:WShape.hasAll [] args [.list .int]=true:=(pre_splitW hpre).1
 have hc:l.pre.holds [] { args:=args }=true:=(pre_splitW hpre).2
 obtain ⟨d,r,rfl,h1,h2⟩:=hasAllW_cons hsh
 obtain rfl:=hasAllW_nil h2
 obtain ⟨xs,rfl,h3⟩:=hasW_list h1
 obtain ⟨ns,rfl⟩:=items_int h3
 have hlen:ns.length<=n:=by
  unfold OpenLaw.pre at hc
  have h4:(WTm.not (.lt (.lit (.int (n:Int))) (.len (.arg 0)))).holds [] { args:=[.list (ns.map .int)] }=true:=by
   have h4:=(holds_andW hc).1
   rw [hn] at h4
   exact h4
  have h5:=condW_of h4 (w_not (w_lt w_lit (w_len_list (w_arg rfl))))
  rw [aE] at h5
  refine Nat.le_of_not_lt fun q=>?_
  have q':(n:Int)<((ns.length:Nat):Int):=by omega
  first
   | (rw [a_ q'] at h5;exact absurd h5 (by decide))
   | (simp at h5;omega)
 cases hwl with
 | cons w1 w2=>
   cases w2
   cases w1 with
   | list ho hall=>exact ⟨_,_,ns,Z,Z,ho,B0 ns _ hall,hlen⟩
theorem QU (l:OpenLaw) (args:List WData):l.row.toRowW.claim.post args (.bool true) args=true:=
 postW_of (r:=l.row.toRowW) (X:=(true==true))
  (show WShape.has [] (.bool true) .bool=true by first|rfl|decide|simp [WShape.has,WShape.arms,WShape.armsAll])
  (show (WTm.eq .res (.lit (.bool true))).value [] { args:=args,res:=some (.bool true),after:=args }=some (.bool (true==true)) from w_eq_bool (w_res rfl) w_lit) rfl
theorem Lu {l:OpenLaw} {n:Nat} {q:Program} {loose:List Str} {XP:(Str->Option Value)->Heap->Prop} {YP:World->Heap->Prop} {d:DefRec}
  (hn:l.most=some n) (hdf:d.params.defaults=[])
  (call:∀(w:World) (s₀ s₁:Shared) (mg mb:SO) (fa:Addr) (o:Obj) (pm cd doc:Value) (a:Addr) (vs:List Value) (ns:List Int),
    Ground q loose [] XP w s₀ mg mb s₁.heap->YP w s₁.heap->
    s₁.heap.get? fa=some o->o.data = .func (docDef d.name d.params d.body d.scope pm cd doc)->s₁.heap.CodeRec cd d.name->mg d.name=some (.ref fa)->
    s₁.heap.get? a=some { cls:= .type "list",data:= .seq vs.toArray }->IntsAre vs ns->ns.length<=n->s₁.gens=#[]->
    codeAny (model l.prog w) callerA (.call (.ref fa) ⟨[.ref a],[]⟩) (fun r s'=>r = .ok (.ret (.bool true))/\OldK s₁.heap s'.heap/\s'.os=s₁.os/\AllBare s'.gens) s₁):
  WalkO q loose XP YP l.row.toRowW d [] (fun f vs=>PySem.call f vs):=by
 intro w s₀ s₁ mg mb G Y fa o pm cd doc dV kV ho hd hcd hD hmg hg args vals as hpre hlay hrd hwl hlo
 obtain rfl:dV = .none:=Dflts.none hD hdf
 obtain rfl:kV = .none:=Dflts.noKw hD
 obtain ⟨a,vs,ns,rfl,rfl,hobj,hints,hlen⟩:=QT hn hpre hwl
 refine enter_call (BH (call w s₀ s₁ mg mb fa o pm cd doc a vs ns G Y ho (fd_plain hd) hcd hmg hobj hints hlen hg) fun r s' hq=>?_)
 obtain ⟨rfl,h2,h3,h4⟩:=hq
 exact ⟨.inl ⟨.bool true, .bool true,[],Z,fun _=>rfl, .bool true,QU l _,fun _=>⟨List.Pairwise.nil,fun _ hm=>(nomatch hm)⟩⟩,h2,h3,h4⟩
section
variable {prog:Program} {w:World} {A:Around} {E:VS} {s:Shared} {K:Frag}
end
end Att
namespace L2
open PySem PySem.Spec PyProof.Rows
theorem EY:∀{vs:List Value} {ns:List Int},IntsAre vs ns->Vals (ns.map V.int) vs
 | _,_, .nil=> .nil
 | _,_, .cons n t h=> .cons ⟨t,Z⟩ (EY h)
def Tw (H:Hp):Prop:=∀b,H b=none\/∃o xs,H b=some (.eX o (.lst xs))
variable {P:Program} {K:Fg} {mg:SO} {a:Addr} {fd:FuncData} {x:Str} {sp:Sp} {ns:List Int}
theorem Tz {w:World} {mb:SO} {CX:vQ} {k:Nat} {fa:Addr} {s₁:Shared} {vs:List Value}
  (KX:K.In s₁.heap) (hns:s₁.heap.Ns mainGlobals mg) (hb:s₁.heap.Ns builtinsNs mb) (hbb:∀x:Str,x ≠ "__name__"->mb x=bootBuiltins x) (hlim:s₁.heap.NoLimit) (hg:s₁.gens=#[])
  (ha:s₁.heap.get? a=some { cls:= .type "list",data:= .seq vs.toArray }) (hi:IntsAre vs ns) (hl:ns.length<=sizeLine) (hr:dm k callerA)
  (F:∀base:Heap,K.In base->base.Ns mainGlobals mg->i7 P w K mg base CX k fa fd [x] sp) (hbind:∀(s:Shared) (u:Value),BindsTo s fd ⟨[u],[]⟩ [(x,u)])
  (oF:∀H:Hp,Tw H->aH K H a (ns.map V.int)->sp [.ref a] H (fun v _=>v = .bl true) fun _ _ _=>False)
  (YT:∀H e s',CX [] H s₁ (fun _ _ _=>False) e s'->False):
  codeAny (model P w) callerA (.call (.ref fa) ⟨[.ref a],[]⟩) (fun r s'=>r = .ok (.ret (.bool true))/\OldK s₁.heap s'.heap/\s'.os=s₁.os/\AllBare s'.gens) s₁:=by
 have rv:=EY hi
 have afa:=hi.length
 have core:∀H:Hp,Tw H->aH K H a (ns.map V.int)->gU P w H s₁.heap->(∀b,H b≠none->b=a)->(H a≠none->K.lookup a=none)->
   codeAny (model P w) callerA (.call (.ref fa) ⟨[.ref a],[]⟩) (fun r s'=>r = .ok (.ret (.bool true))/\OldK s₁.heap s'.heap/\s'.os=s₁.os/\AllBare s'.gens) s₁:=by
  intro H hO hS hok hA hK
  have Na:∀{b:Addr} {o:Obj},s₁.heap.get? b=some o->H b=none->(wR s₁.heap H).get? b=some o:=fun e n=>SN e n
  have QH:∀{b:Addr} {o:Obj} {es:Array DictEntry} {ep:Nat},s₁.heap.get? b=some o->o.data = .dict es ep->H b=none:=fun {b o es ep} e d=>by
   cases q:H b with
   | none=>rfl
   | some u=>
     have e':b=a:=hA b (by rw [q];simp)
     subst e'
     rw [ha] at e;cases e
     have d':Data.seq vs.toArray _=Data.dict es ep:=d
     cases d'
  have Vf:∀{b:Addr} {m:SO},s₁.heap.Ns b m->(wR s₁.heap H).Ns b m:=fun {b m} ⟨o,es,ep,e,d,r⟩=>⟨o,es,ep,Na e (QH e d),d,r⟩
  have hKb:K.In (wR s₁.heap H):=fun b o e=>Na (KX b o e) (by
   cases q:H b with
   | none=>rfl
   | some u=>
     have e':b=a:=hA b (by rw [q];simp)
     subst e'
     rw [hK (by rw [q];simp)] at e;cases e)
  have hM:Mod K mg (wR s₁.heap H):=⟨hKb,Vf hns,⟨mb,Vf hb,hbb⟩,let ⟨mc,h1,h2⟩:=hlim;⟨mc,Vf h1,h2⟩⟩
  have e0:AJ P w K mg (wR s₁.heap H) callerA [] s₁ H:=⟨Z,hM,fun b o e=>V5 e,Nat.le_of_eq (Qn _ _),trivial,fun b hb=>absurd (show b∈([] :List Addr) from hb) (by simp),hok, .of_eq hg⟩
  refine BH ((F _ hKb (Vf hns)).run callerA [] s₁ H ⟨[.ref a],[]⟩ [.ref a] [.ref a] _ _ hr e0 (hbind s₁ (.ref a)) (.cons rfl .nil) (oF H hO hS)) fun r s' h=>?_
  cases r with
  | error e=>exact (YT H e s' h).elim
  | ok fl=>
    cases fl with
    | next=>exact False.elim h
    | brk=>exact False.elim h
    | cont=>exact False.elim h
    | ret u=>
      obtain ⟨v,H',os,bare,un,afb,r',q⟩:=h
      have q':v = .bl true:=q
      subst q'
      obtain rfl:u=Value.bool true:=r'
      refine ⟨Z,OldK.of_keep fun b o e=>?_,os,bare⟩
      cases q:H b with
      | none=>exact un.keep b o e q (by intro z;exact absurd (show b∈([] :List Addr) from z) (by simp)) (by simp)
      | some u=>
        rcases hO b with z|⟨ob,xs,z⟩
        . rw [q] at z;cases z
        . have z2:=un.pU b ob _ z
          obtain ⟨e1,_⟩:=hok b _ z
          obtain ⟨e2,_⟩:=afb b _ z2
          rw [e] at e1;cases e1
          exact e2
 cases hk:K.lookup a with
 | some o=>
   have e:=KX a o hk
   rw [ha] at e
   cases e
   refine core (fun _=>none) (fun _=> .inl rfl) (.inr ⟨_,vs.toArray,_,hk,Z,Z,Z,by rw [gH,afa];exact hl,by simpa using rv⟩) (fun b u z=>by have z':(none:Option HO)=some u:=z;cases z') (fun b z=>absurd rfl z) fun z=>absurd rfl z
 | none=>
   refine core (fun b=>if b=a then some (.eX { cls:= .type "list",data:= .seq vs.toArray } (.lst (ns.map V.int))) else none) (fun b=>?_) (.inl (.inr ⟨{ cls:= .type "list",data:= .seq vs.toArray },aB rfl⟩)) (fun b u z=>?_) (fun b z=>?_) fun _=>hk
   . by_cases hb:b=a
     . exact .inr ⟨_,_,aB hb⟩
     . exact .inl (aA hb)
   . by_cases hb:b=a
     . have z':=(aB hb).symm.trans z
       cases z'
       subst hb
       exact ⟨ha,by rw [aE];exact hl,vs,_,rv,ha⟩
     . have z':=(aA hb).symm.trans z
       cases z'
   . by_cases hb:b=a
     . exact hb
     . exact absurd (aA hb) z
variable {XP:(Str->Option Value)->Heap->Prop} {YP:World->Heap->Prop}
theorem Wr {l:PySem.W.OpenLaw} {n k:Nat} {q:Program} {loose:List Str} {d:DefRec} {K:Params->Fg} {CX:World->vQ} {sp:World->Sp}
  (hn:l.most=some n) (hn2:n<=sizeLine) (hdf:d.params.defaults=[]) (hr:dm k callerA)
  (hY:∀(w:World) (h:Heap),YP w h->(K w.params).In h)
  (F:∀(w:World) (mg:SO) (fa:Addr) (h:Heap),(K w.params).In h->h.Ns mainGlobals mg->mg d.name=some (.ref fa)->
    ∃fd:FuncData,(∀(s:Shared) (u:Value),BindsTo s fd ⟨[u],[]⟩ [(x,u)])/\
     ∀base:Heap,(K w.params).In base->base.Ns mainGlobals mg->i7 l.prog w (K w.params) mg base (CX w) k fa fd [x] (sp w))
  (oF:∀(w:World) (H:Hp) (a:Addr) (ns:List Int),ns.length<=n->Tw H->aH (K w.params) H a (ns.map V.int)->sp w [.ref a] H (fun v _=>v = .bl true) fun _ _ _=>False)
  (YT:∀(w:World) (H:Hp) (s:Shared) (e:Value) (s':Shared),CX w [] H s (fun _ _ _=>False) e s'->False):
  PySem.W.WalkO q loose XP YP l.row.toRowW d [] (fun f vs=>PySem.call f vs):=by
 refine Att.Lu hn hdf fun w s₀ s₁ mg mb fa o pm cd doc a vs ns G Y ho hd hcd hmg hobj hints hlen hg=>?_
 have KX:=hY w _ Y
 obtain ⟨fd,hb,hF⟩:=F w mg fa _ KX G.T.g hmg
 exact Tz KX G.T.g G.T.b G.T.builtins G.T.nolimit hg hobj hints (fT hlen hn2) hr hF hb (fun H hO hS=>oF w H a ns hlen hO hS) fun H e s'=>YT w H s₁ e s'
def inClass (s:Stmt) (j:Nat):Stmt:=match s with
 | .ClassDef _ _ _ body _ _ _ _ _ _ _=>body.getD j (.Pass ⟨0,0,0,0⟩)
 | _=> .Pass ⟨0,0,0,0⟩
def dY (s:Stmt):Arguments:=match s with
 | .FunctionDef _ a _ _ _ _ _ _ _ _=>a
 | _=>{ posonlyargs:=[],args:=[],vararg:=none,kwonlyargs:=[],kw_defaults:=[],kwarg:=none,defaults:=[] }
def cu (s:Stmt):List Stmt:=match s with
 | .FunctionDef _ _ b _ _ _ _ _ _ _=>b
 | _=>[]
def aC (s:Stmt):Scope:=match s with
 | .FunctionDef _ _ _ _ _ _ sc _ _ _=>sc
 | _=>{ kind:= .function,names:=[],isGenerator:=false,isCoroutine:=false }
abbrev sL:vQ:=fun _ _ _ _ _ _=>False
abbrev E0:XK:=fun _ _ _=>False
structure EZ (K:Fg) (x qual:Str) (st:Stmt) (f:Addr) (fd:FuncData):Prop where
 ex:∃(oc:Value) (od:Option Addr) (kV doc pm:Value) (an:Option Addr) (cdv ct:Value) (osl:Array (Option Value)),
  fd=PySem.W.fnOf x qual (dY st) (cu st) (aC st) .none kV doc pm an cdv ct/\K.lookup f=some ⟨oc,od, .func fd,osl⟩/\PySem.W.codeIn K cdv qual=true
 kp:PySem.W.keepIn K (.ref f)=true
variable {qual:Str} {f:Addr} {N ps:List Str} {oc doc pm cdv ct:Value} {od an:Option Addr} {osl:Array (Option Value)}
section
variable {P:Program} {w:World} {K:Fg} {mg:SO} {base:Heap}
theorem EZ.ok {st:Stmt} {k:Nat} (F:EZ K x qual st f fd) (S:aO N ps (aC st)) (len:∀vs H Q E,sp vs H Q E->vs.length=ps.length)
  (hbody:∀(cdv:Value) (A:Around) (outer:List Env) (s:Shared) (H:Hp) (vs:List V) (Q:VK) (E:XK),dm k (A.deeper (envOfC qual (aC st) s.heap.objs.size f cdv))->sp vs H Q E->
    ∃t,pO (cD sL P w K mg base N qual (aC st) f cdv A outer s H E).Ai (cu st) t/\t { nx:=fun _ H'=>Q .bU H',rt:=Q } (start N vs) H):i7 P w K mg base sL (k+1) f fd ps sp:=by
 obtain ⟨oc,od,kV,doc,pm,an,cdv,ct,osl,rfl,lk,hcd⟩:=F.ex
 refine OR lk hcd S len fun A outer s H vs Q E hr oF=>?_
 obtain ⟨t,h,q⟩:=hbody cdv A outer s H vs Q E hr oF
 exact ⟨t,h.Ai,q⟩
theorem EZ.binds {st:Stmt} (F:EZ K x qual st f fd)
  (h:∀(kV doc pm:Value) (an:Option Addr) (cdv ct:Value) (us:List Value),us.length=ps.length->bindArgs (PySem.W.fnOf x qual (dY st) (cu st) (aC st) .none kV doc pm an cdv ct) ⟨us,[]⟩=pure (ps.zip us)):Binds K fd ps [] :=by
 obtain ⟨oc,od,kV,doc,pm,an,cdv,ct,osl,rfl,lk,hcd⟩:=F.ex
 exact .all (h kV doc pm an cdv ct)
theorem Iu {st:Stmt} {kV:Value} (l:K.lookup f=some ⟨oc,od, .func (PySem.W.fnOf x qual (dY st) (cu st) (aC st) .none kV doc pm an cdv ct),osl⟩)
  (c:PySem.W.codeIn K cdv qual=true) (k:PySem.W.keepIn K (.ref f)=true):EZ K x qual st f (PySem.W.fnOf x qual (dY st) (cu st) (aC st) .none kV doc pm an cdv ct):=⟨⟨oc,od,kV,doc,pm,an,cdv,ct,osl,Z,l,c⟩,k⟩
end
theorem dz {A:Around} {k:Nat} (hr:dm k A):A.units+1<cLine:=HQ (Nat.add_le_add_left (by decide:1<=64) _) hr.units
theorem dh {n:Nat} (h:n<=1000):n<sizeLine:=HQ h (by decide)
section
variable {X:Cx}
end
theorem gr {A B:Prop} (h:B):if false=true then A else B:=by
 rw [aA fM]
 exact h
theorem jU {A B:Prop} (h:A):if true=true then A else B:=by
 rw [aB rfl]
 exact h
theorem aM {c A B:Prop} [Decidable c] (h1:c->A) (h2:¬ c->B):if c then A else B:=by
 by_cases h:c
 . rw [aB h]
   exact h1 h
 . rw [aA h]
   exact h2 h
def aP (H H':Hp):Prop:=∀b o,H b=some o->H' b=some o
theorem aP.refl (H:Hp):aP H H:=fun _ _ h=>h
variable {H H1 H2:Hp}
theorem aP.trans (a:aP H H1) (b:aP H1 H2):aP H H2:=fun c o h=>b c o (a c o h)
variable {H':Hp}
theorem aP.free (e:aP H H') {l:Addr} (h:H' l=Option.none):H l=Option.none:=by
 cases q:H l with
 | none=>rfl
 | some o=>
   rw [e l o q] at h
   cases h
variable {xs:List V}
theorem aP.seq (e:aP H H') (h:aH K H a xs):aH K H' a xs:=by
 rcases h with (h|⟨o,h⟩)|h
 . exact .inl (.inl (e _ _ h))
 . exact .inl (.inr ⟨o,e _ _ h⟩)
 . exact .inr h
section
variable {X:Cx}
theorem uR:iy X (.builtin "len") (fun xs H Q=>∃a kvs,xs=[V.ref a]/\H a=some (.dK kvs)/\Q (.int kvs.length) H):=by
 intro pins s σ H xs us Q I r h
 obtain ⟨a,kvs,rfl,ha,q⟩:=h
 obtain ⟨u,rfl,ru⟩:=vals1 r
 cases ru
 exact abC I (.inl ha) fun t s' I'=>⟨.int kvs.length,H,I',⟨t,Z⟩,q⟩
end
section
variable {κ:Type} [DecidableEq κ]
theorem TF {kvs:List (κ×V)} {k:κ} (h:dG kvs k=none):¬ k∈kvs.map (·.1):=by
 intro m
 obtain ⟨p,hp,e⟩:=bJ.mp m
 have q:(kvs.any fun kv=>decide (kv.1=k))=true:=List.any_eq_true.mpr ⟨p,hp,a_ e⟩
 rw [pW,h] at q
 exact absurd q (by simp)
theorem nO:∀{l:List κ} {k:κ},l.Nodup->¬ k∈l->(l++[k]).Nodup
 | [],k,_,_=>by simp
 | a::r,k,h,hk=>by
   obtain ⟨h1,h2⟩:=gI.mp h
   show (a::(r++[k])).Nodup
   refine gI.mpr ⟨fun m=>?_,nO h2 fun m=>hk (bP.mpr (Or.inr m))⟩
   rcases gi.mp m with q|q
   . exact h1 q
   . exact hk (bP.mpr (Or.inl (fV.mp q).symm))
theorem Ws {kvs:List (κ×V)} {k:κ} (v:V) (hn:(kvs.map (·.1)).Nodup) (h:dG kvs k=none):((putK kvs k v).map (·.1)).Nodup:=by
 rw [nc v h,bM]
 exact nO hn (TF h)
end
end L2
set_option maxHeartbeats 4000000
namespace L2
open PySem PySem.Spec PyProof.Rows
variable {K:Fg}
section
variable {X:Cx}
def B4 (_ j:Int):Prop:=0<j/\j.natAbs.log2<9000
theorem iN:iL X (binaryOp .FloorDiv) (rI B4 fun i j=> .int (i / j)):=Qu fun i j _ _ _ _ _ hc q=>by
 have h1:(0:Int)<j:=hc.1
 exact floordiv_int (by omega) (by rw [Int.fdiv_eq_ediv_of_nonneg i (by omega)];exact q) (.inl (PyProof.noPylong_of_log2 hc.2))
theorem yx {i j:Int} (h:(decide (0<j) && decide (j.natAbs.log2<9000))=true):B4 i j:=by
 obtain ⟨a,b⟩:=lX.mp h
 exact ⟨aZ a,aZ b⟩
theorem TH {i j:Int} {n:Nat} (h0:0<j) (h:j<2 ^ n) (hn:n<=9000):B4 i j:=by
 refine ⟨h0,?_⟩
 have e:(j.natAbs:Int)=j:=by omega
 have h2:j.natAbs<2 ^ n:=by
  have:(j.natAbs:Int)<((2 ^ n:Nat):Int):=by rw [e];simpa using h
  exact Int.ofNat_lt.mp this
 have:=(Nat.log2_lt (n:=j.natAbs) (k:=n) (by omega)).mpr h2
 omega
def OY (i j:Int):Prop:=∃m n:Nat,i.natAbs<2 ^ m/\j.natAbs<2 ^ n/\m+n<=134217728
theorem fK:iL X (binaryOp .Mult) (rI OY fun i j=> .int (i*j)):=Qu fun _ _ _ _ _ _ _ hc q=>by
 obtain ⟨m,n,h1,h2,h3⟩:=hc
 exact mul_int q (IntMulOk.of_le (Om.mpr h1) (Om.mpr h2) h3)
theorem Lv:iy X (.builtin "isinstance") (fun xs H Q=>∃x n t b,xs=[x, .ty n]/\lZ X.K H x t/\PySem.W.kitOne X.K t (.type n)=some b/\Q (.bl b) H):=by
 intro pins s σ H xs us Q I r h
 obtain ⟨x,n,t,b,rfl,ty,e,q⟩:=h
 obtain ⟨u,w',rfl,ru,rw'⟩:=vals2 r
 have rw2:w'=Value.type n:=rw'
 subst rw2
 exact QE I ru ty e fun tk=>⟨.bl b,H,I.tok _,Z,q⟩
theorem TJ {n:String}:PySem.W.kitOne K (.type n) (.type n)=some true:=by
 unfold PySem.W.kitOne
 rw [aB (DN _)]
mutual
inductive Dt (K:Fg) (H:Hp):V->PyData->Prop
 | bU:Dt K H .bU .none
 | bl (b:Bool):Dt K H (.bl b) (.bool b)
 | int (i:Int):Dt K H (.int i) (.int i)
 | str (x:Str):Dt K H (.str x) (.str x)
 | lst {a:Addr} {xs:List V} {ds:List PyData}:aH K H a xs->vU K H xs ds->Dt K H (.ref a) (.list ds)
 | tup {a:Addr} {xs:List V} {ds:List PyData}:bN K H a xs->vU K H xs ds->Dt K H (.ref a) (.tuple ds)
inductive vU (K:Fg) (H:Hp):List V->List PyData->Prop
 | nil:vU K H [] []
 | cons {x:V} {xs:List V} {d:PyData} {ds:List PyData}:Dt K H x d->vU K H xs ds->vU K H (x::xs) (d::ds)
end
section
variable {pins:AO} {σ:St} {H:Hp} {s:Shared}
mutual
theorem Dt.reads (I:Inv X pins σ H s):∀{x:V} {d:PyData} {u:Value},Dt X.K H x d->RelV x u->∃as,Reads s.heap u d as
 | _,_,u, .bU,r=>by cases (show u=Value.none from r);exact ⟨_, .none⟩
 | _,_,u, .bl b,r=>by cases (show u=Value.bool b from r);exact ⟨_, .bool b⟩
 | _,_,u, .int i,r=>by obtain ⟨t,rfl⟩:=(show ∃t,u=Value.int i t from r);exact ⟨_, .int i t⟩
 | _,_,u, .str x,r=>by obtain ⟨t,rfl⟩:=(show ∃t,u=Value.str x t from r);exact ⟨_, .str x t⟩
 | _,_,u,@Dt.lst _ _ a xs ds h hd,r=>by
   cases (show u=Value.ref a from r)
   obtain ⟨its,rv,⟨o,n,e,c,_,d⟩,hz⟩:=I.list h
   obtain ⟨as,ra⟩:=vU.reads I hd rv
   exact ⟨_, .list e c d (by simpa using ra)⟩
 | _,_,u,@Dt.tup _ _ a xs ds h hd,r=>by
   cases (show u=Value.ref a from r)
   obtain ⟨its,rv,⟨o,e,c,n,d⟩,hz⟩:=I.tuple h
   obtain ⟨as,ra⟩:=vU.reads I hd rv
   exact ⟨_, .tuple e c d (by simpa using ra)⟩
theorem vU.reads (I:Inv X pins σ H s):∀{xs:List V} {ds:List PyData} {us:List Value},vU X.K H xs ds->Vals xs us->∃as,ReadsAll s.heap us ds as
 | _,_,_, .nil, .nil=>⟨_, .nil⟩
 | _,_,_, .cons h t, .cons r rs=>by
   obtain ⟨as,ra⟩:=Dt.reads I h r
   obtain ⟨bs,rb⟩:=vU.reads I t rs
   exact ⟨_, .cons ra rb⟩
end
end
inductive TL (K:Fg) (x:V) (y:V) (H:Hp) (Q:VK):Prop
 | mk  (d e:_) (_:Dt K H x d) (_:Dt K H y e) (_:SeqAt.shaped d=true) (_:SeqAt.shaped e=true) (_:Q (.bl (!PyData.eqv d e)) H)
theorem YU (hu:X.A.units+64<cLine):iL X (compareOp .NotEq) (TL X.K):=by
 intro pins s σ H x y v u Q I rx ry h
 obtain ⟨d,e,hd,he,sd,se,q⟩:=h
 obtain ⟨as,ra⟩:=hd.reads I rx
 obtain ⟨bs,rb⟩:=he.reads I ry
 exact ne_dataH ra rb sd se hu ⟨.bl _,H,I,Z,q⟩
structure Bx (p:Prop):Prop where
 ex:p
def bx (f:Sp):Sp:=fun vs H Q E=>Bx (f vs H Q E)
structure Dn (P:Program) (w:World) (K:Fg) (mg:SO) (base:Heap) (k:Nat) (x:Str) (ps:List Str) (sp:Sp):Prop where
 ex:∃f fd,i7 P w K mg base sL k f fd ps sp/\Binds K fd ps []/\PySem.W.keepIn K (.ref f)=true/\mg x=some (.ref f)
end
structure At (K:Fg) (mg:SO) (x:Str) (st:Stmt) (f:Addr) (fd:FuncData):Prop where
 fn:EZ K x x st f fd
 name:mg x=some (.ref f)
variable {P:Program} {mg:SO} {base:Heap} {x:Str} {f:Addr} {fd:FuncData} {N ps:List Str} {sp:Sp}
theorem At.ok {w:World} {st:Stmt} {k:Nat} (F:At K mg x st f fd) (S:aO N ps (aC st)) (len:∀vs H Q E,sp vs H Q E->vs.length=ps.length)
  (hbody:∀(cdv:Value) (A:Around) (outer:List Env) (s:Shared) (H:Hp) (vs:List V) (Q:VK) (E:XK),dm k (A.deeper (envOfC x (aC st) s.heap.objs.size f cdv))->sp vs H Q E->
    ∃t,pO (cD sL P w K mg base N x (aC st) f cdv A outer s H E).Ai (cu st) t/\t { nx:=fun _ H'=>Q .bU H',rt:=Q } (start N vs) H)
  (h:∀(kV doc pm:Value) (an:Option Addr) (cdv ct:Value) (us:List Value),us.length=ps.length->bindArgs (PySem.W.fnOf x x (dY st) (cu st) (aC st) .none kV doc pm an cdv ct) ⟨us,[]⟩=pure (ps.zip us)):
  Dn P w K mg base (k+1) x ps sp:=⟨f,fd,F.fn.ok S len hbody,F.fn.binds h,F.fn.kp,F.name⟩
variable {h:Heap} {oc doc pm cdv ct:Value} {od an:Option Addr} {osl:Array (Option Value)}
theorem Vg {st:Stmt} {kV:Value} (X:K.In h) (G:h.Ns mainGlobals mg)
  (a:PySem.W.nsIn K mainGlobals x=some (some (.ref f))) (l:K.lookup f=some ⟨oc,od, .func (PySem.W.fnOf x x (dY st) (cu st) (aC st) .none kV doc pm an cdv ct),osl⟩)
  (c:PySem.W.codeIn K cdv x=true) (k:PySem.W.keepIn K (.ref f)=true):At K mg x st f (PySem.W.fnOf x x (dY st) (cu st) (aC st) .none kV doc pm an cdv ct):=⟨Iu l c k,qz X G a⟩
theorem aP.tup {H H':Hp} {K:Fg} {a:Addr} {xs:List V} (e:aP H H') (h:bN K H a xs):bN K H' a xs:=by
 rcases h with (h|⟨o,h⟩)|h
 . exact .inl (.inl (e _ _ h))
 . exact .inl (.inr ⟨o,e _ _ h⟩)
 . exact .inr h
variable {H:Hp}
theorem aD {p:Addr} (h:H p=none) (o:HO):aP H (upd H p o):=fun b u q=>by rw [az (aF q h)];exact q
theorem small {n:Nat} (h:n<=1000):n<=sizeLine:=BG (dh h)
end L2
namespace Jm
def cf (a b:Int):Int:=(Int.gcd a b:Int)
theorem Wt (a:Int) (h:0<=a):cf a 0=a:=by
 unfold cf;rw [Int.gcd_zero_right];omega
theorem Nb (a b:Int) (h:0<b):cf b (a % b)=cf a b:=by
 unfold cf
 rw [Int.emod_def,Int.gcd_sub_mul_left_right,Int.gcd_comm]
theorem B7 (a b:Int) (h:0<a\/0<b):0<cf a b:=by
 unfold cf
 have:0<Int.gcd a b:=by
  rcases h with h|h
  . exact Int.gcd_pos_of_ne_zero_left _ (by omega)
  . exact Int.gcd_pos_of_ne_zero_right _ (by omega)
 omega
theorem Wu (a b:Int):cf a b=cf b a:=by unfold cf;rw [Int.gcd_comm]
abbrev fr (t b:Int):Rat:=Rat.divInt t b
theorem QV (t b:Int) (h:0<b):(fr t b).num=t / cf b t:=by
 unfold fr cf
 rw [Rat.num_divInt,Int.sign_eq_one_of_pos h,Int.one_mul]
theorem QW (t b:Int) (h:0<b):((fr t b).den:Int)=b / cf b t:=by
 unfold fr cf
 rw [Rat.den_divInt,aA (by omega)]
 rw [Int.natCast_ediv];congr 1;omega
theorem vv (a b:Int):cf a b∣a:=Int.gcd_dvd_left ..
theorem oG (a b:Int):cf a b∣b:=Int.gcd_dvd_right ..
theorem Nc (q:Rat):fr q.num q.den=q:=Rat.num_divInt_den q
theorem abH {t b t' b':Int} (h:0<b) (h':0<b') (e:t*b'=t'*b):fr t b=fr t' b':=
 (Rat.divInt_eq_divInt_iff (by omega) (by omega)).mpr e
theorem QX {t b t' b':Int} (h:0<b) (h':0<b') (e:fr t b=fr t' b'):t*b'=t'*b:=
 (Rat.divInt_eq_divInt_iff (by omega) (by omega)).mp e
theorem QY {n d:Int} (h:0<d) (c:cf n d=1):(fr n d).num=n/\((fr n d).den:Int)=d:=by
 rw [QV n d h,QW n d h,Wu,c,zO,zO];exact ⟨Z,Z⟩
def Sz (n:Nat) (x:Int):Prop:=x.natAbs<2 ^ n
theorem Sz.mono {m n:Nat} {x:Int} (h:Sz m x) (hn:m<=n):Sz n x:=kD h (Nat.pow_le_pow_right (by decide) hn)
theorem Sz.of_le {n:Nat} {x y:Int} (h:Sz n y) (hx:x.natAbs<=y.natAbs):Sz n x:=HQ hx h
theorem Sz.neg {n:Nat} {x:Int} (h:Sz n x):Sz n (-x):=h.of_le (by omega)
theorem Sz.mul {m n:Nat} {x y:Int} (hx:Sz m x) (hy:Sz n y):Sz (m+n) (x*y):=by
 unfold Sz at *
 rw [BC,Nat.pow_add]
 exact Nat.mul_lt_mul'' hx hy
theorem Sz.add {m n:Nat} {x y:Int} (hx:Sz m x) (hy:Sz n y):Sz (max m n+1) (x+y):=by
 have h1:=hx.mono (Nat.le_max_left m n)
 have h2:=hy.mono (Nat.le_max_right m n)
 unfold Sz at *
 rw [Nat.pow_succ]
 omega
theorem Sz.kF {n:Nat} {x y:Int} (hx:Sz n x) (hy:Sz n y):Sz (n+1) (x+y):=by
 have:=hx.add hy
 rwa [Nat.max_self] at this
theorem Sz.kX {n:Nat} {x B:Int} (h0:-B<=x) (h1:x<=B) (hB:Sz n B):Sz n x:=hB.of_le (by omega)
theorem Sz.ediv {n:Nat} {x y:Int} (h:Sz n x) (hy:0<y):Sz n (x / y):=by
 refine h.of_le ?_
 have e:=Int.emod_add_mul_ediv x y
 have m0:=n_ x (b:=y) (by omega)
 have m1:=yp x hy
 rcases BI x 0 with hx|hx
 . have q0:x / y<0:=Int.ediv_neg_of_neg_of_pos hx hy
   have z:y*(x / y)<=1*(x / y):=Int.mul_le_mul_of_nonpos_right (by omega) (by omega)
   rcases BI (x / y) x with k|k
   . exfalso
     have z2:y*(x / y)<=y*(x-1):=HK (by omega) (by omega)
     have z3:y*(x-1)<=1*(x-1)-(y-1):=by
      have z4:(y-1)*(x-1)<=(y-1)*(-2):=HK (by omega) (by omega)
      have z5:y*(x-1)=(y-1)*(x-1)+(x-1):=by grind
      omega
     omega
   . omega
 . have q0:0<=x / y:=Hu hx (by omega)
   have:=Int.ediv_le_self y hx
   omega
def QZ (n:Nat) (q:Rat):Prop:=Sz n q.num/\Sz n (q.den:Int)
theorem Sz.dvd {n:Nat} {x y:Int} (h:Sz n y) (hy:0<y) (hx:0<=x) (d:x∣y):Sz n x:=h.of_le (by have:=Int.le_of_dvd hy d;omega)
theorem OZ {n:Nat} {t b:Int} (hb:0<b) (h1:Sz n t) (h2:Sz n b):QZ n (fr t b):=by
 unfold QZ
 rw [QV t b hb,QW t b hb]
 have g:=B7 b t (.inl hb)
 exact ⟨h1.ediv g,h2.ediv g⟩
theorem Q0 {n:Nat}:∀{ws:List Int},(∀m∈ws,Sz n m)->Sz (n+ws.length) ws.sum
 | [],_=>by unfold Sz;show 0<_;exact Nat.two_pow_pos _
 | x::r,h=>by
   have h1:=Q0 (ws:=r) fun m hm=>h m (cC _ hm)
   have h2:=((h x cL).mono (vm n r.length)).kF h1
   rw [c5]
   exact h2.mono (by rw [jP];omega)
def B8 (c:Int):Nat->Int
 | 0=>c
 | i+1=>B8 c i / 10000000000
def cellOf (ns:List Int) (k:Int):Int:=if 0<(ns.length:Int) then ns.getD (k % ns.length).toNat 0 else 0
def yy (ns:List Int) (k:Int):Int:=if 0<(ns.length:Int) then k / ns.length else 1
def mixed (c k j many:Int):Int:=
 let one:=(c*7919+k*104729+j*1299709+31) % 1000000007
 let two:=(one*48271+c / 1009) % 998244353
 let three:=(two*(one % 9973+1)+j) % 1000000009
 (one*69621+three*40692+three / 1013) % 2147483647 % many
def draw (ns:List Int) (k j many:Int):Int:=
 if yy ns k=0/\1000000000000000000<=cellOf ns k/\0<B8 (cellOf ns k) j.toNat then B8 (cellOf ns k) j.toNat % 10000000000 % many
 else mixed (cellOf ns k) k j many
theorem Wv (ns:List Int) (k j many:Int) (h:0<many):0<=draw ns k j many:=by
 unfold draw;split
 . exact n_ _ (by omega)
 . exact n_ _ (by omega)
theorem Ww (ns:List Int) (k j many:Int) (h:0<many):draw ns k j many<many:=by
 unfold draw;split
 . exact yp _ h
 . exact yp _ h
end Jm
namespace L2
open PySem PySem.Spec PyProof.Rows
inductive abI (K:Fg) (vs:List V) (H:Hp) (Q:VK) (E:XK):Prop
 | mk (a:Addr) (ns:List Int) (k j many:Int) (_:vs=[.ref a, .int k, .int j, .int many]) (_:aH K H a (ns.map V.int)) (_:ns.length<=63) (_:0<=k) (_:0<=j) (_:j<2 ^ 62) (_:0<many) (_:Q (.int (Jm.draw ns k j many)) H)
def qW (K:Fg):Sp:=bx (abI K)
variable {K:Fg} {H:Hp} {a:Addr} {ns:List Int}
theorem cQ {Q:VK} {E:XK} {k j many:Int} (hS:aH K H a (ns.map V.int)) (h63:ns.length<=63) (h1:0<=k) (h2:0<=j) (h3:j<2 ^ 62) (h4:0<many)
  (h:∀d:Int,d=Jm.draw ns k j many->0<=d->d<many->Q (.int d) H):qW K [.ref a, .int k, .int j, .int many] H Q E:=
 ⟨a,ns,k,j,many,Z,hS,h63,h1,h2,h3,h4,h _ rfl (Jm.Wv ns k j many h4) (Jm.Ww ns k j many h4)⟩
def TM:Sp:=fun vs H Q _=>∃a b:Int,vs=[.int a, .int b]/\0<=a/\0<=b/\Q (.int (Jm.cf a b)) H
abbrev tQ (q:Rat):HO:= .tup [.int q.num, .int (q.den:Int)]
def HF (K:Fg):Sp:=fun vs H Q _=>∃(a:Addr) (ns:List Int),vs=[.ref a]/\aH K H a (ns.map V.int)/\ns.length<=63/\∀H',Q (.bl true) H'
section
variable {X:Cx} {pos:Pos}
def Ends.too (D:Ends) (J:St->Hp->Prop):Ends:={ D with nx:=J }
def abJ (t u:TS) (D:Ends) (σ:St) (J:St->Hp->Prop):Bool->Hp->Prop:=fun b H1=>if b=true then t (D.too J) σ H1 else u (D.too J) σ H1
inductive YV (c:TT) (t u:TS) (D:Ends) (σ:St) (H:Hp):Prop
 | mk (J:St->Hp->Prop) (_:c σ H (abJ t u D σ J)) (_:∀σ' H',J σ' H'->D.nx σ' H')
end
theorem wX {i j:Int} (h0:0<j) (h:Jm.Sz 9000 j):B4 i j:=by
 refine ⟨h0,?_⟩
 exact (Nat.log2_lt (by omega)).mpr h
theorem fu {m n:Nat} {i j:Int} (hi:Jm.Sz m i) (hj:Jm.Sz n j) (h:m+n<=134217728:=by decide):OY i j:=⟨m,n,hi,hj,h⟩
theorem jC {n:Nat} {x:Int} (h:decide (x.natAbs<2 ^ n)=true):Jm.Sz n x:=by
 unfold Jm.Sz
 exact aZ h
theorem Wx {k:Int} (h0:0<=k) (h:k<(ns.length:Int)):qV (ns.map V.int) k=some (.int (ns.getD k.toNat 0)):=by
 have hk:k.toNat<ns.length:=by omega
 have ek:k=((k.toNat:Nat):Int):=by omega
 have q:qV (ns.map V.int) ((k.toNat:Nat):Int)=some (.int (ns.getD k.toNat 0)):=ay (by rw [cg,iK,bu hk] <;> rfl)
 rw [<-ek] at q
 exact q
variable {elt iter:Expr} {scope:Scope} {pos:Pos} {env:Env}
section
variable {prog:Program} {w:World} {A:Around} {R:Result->Shared->Prop} {s:Shared}
theorem Iw {target:Expr} {it acc:Value} (J:Nat->Shared->Prop)
  (turn:∀n s,J n s->wpAny (model prog w) A (pyNext it) (fun r s₁=>match r with
    | none=>R (.ok .next) s₁
    | some v=>wpAny (model prog w) A (letOwnedTupleGo target it v) (fun _ s₂=>wpAny (model prog w) A (assign target env v) (fun _ s₃=>wpAny (model prog w) A (eval elt env) (fun x s₄=>
            wpAny (model prog w) A (call (.builtin "list.append") [acc,x]) (fun _ s₅=>∃m,m<n/\J m s₅) (fun _ _=>False) s₄) (fun _ _=>False) s₃) (fun _ _=>False) s₂) (fun _ _=>False) s₁) (fun _ _=>False) s)
  (n:Nat) (h:J n s):codeAny (model prog w) A (.compLoop (.ListComp elt [⟨target,iter,[],0⟩] scope pos) 0 it acc env) R s:=by
 refine codeAny_loop rfl J (fun n s hI=>?_) n h
 show wpAny _ A ((compTurn (.ListComp elt [⟨target,iter,[],0⟩] scope pos) 0 it acc env).onRaise (fun x=>do noteFrame x env;theTreesLotGoes x)) _ _ s
 refine wpAny_noted ?_
 rw [compTurn_list1]
 refine au (BF (au (jd (turn n s hI) (fun r s₁ h₁=>?_) fun _ _ h'=>h'.elim)))
 cases r with
 | none=>exact aL h₁
 | some v=>
   refine au (jd h₁ (fun _ s₂ h₂=>au (jd h₂ (fun _ s₃ h₃=>?_) fun _ _ h'=>h'.elim)) fun _ _ h'=>h'.elim)
   exact au (au (jd h₃ (fun x s₄ h₄=>au (jd h₄ (fun _ s₅ h₅=>aL (aL ⟨Z,h₅⟩)) fun _ _ h'=>h'.elim)) fun _ _ h'=>h'.elim))
end
theorem wY (h:∀y∈scope.names,y.2 = .free->∃c,env.cells.lookup y.1=some c):
  ∃cl,closureFor scope env=pure cl/\(∀y c,(y,c)∈cl->env.cells.lookup y=some c/\(y,NameKind.free)∈scope.names)/\∀y,(y,NameKind.free)∈scope.names->∃c,(y,c)∈cl:=by
 have gen:∀(names:List (Str×NameKind)) (acc:List (Str×Addr)),(∀y∈names,y.2 = .free->∃c,env.cells.lookup y.1=some c)->
   ∃cl,(forIn names acc fun (x:Str×NameKind) (cs:List (Str×Addr))=>(if (x.2==NameKind.free)=true then do let a <-cellOf env x.1;pure (ForInStep.yield ((x.1,a)::cs)) else pure (ForInStep.yield cs):Sem _))=pure cl/\
    (∀y c,(y,c)∈cl->(env.cells.lookup y=some c/\(y,NameKind.free)∈names)\/(y,c)∈acc)/\(∀p∈acc,p∈cl)/\∀y,(y,NameKind.free)∈names->∃c,(y,c)∈cl:=by
  intro names
  induction names with
  | nil=>intro acc _;exact ⟨acc,by rw [BD],fun y c m=> .inr m,fun p hp=>hp,fun y m=>nomatch m⟩
  | cons x r ih=>
    intro acc hc
    obtain ⟨n,k⟩:=x
    by_cases hk:k = .free
    . subst hk
      obtain ⟨c,ec⟩:=hc (n, .free) cL rfl
      obtain ⟨cl,e,h1,h2,h3⟩:=ih ((n,c)::acc) fun y hy=>hc y (cC _ hy)
      refine ⟨cl,?_,fun y d m=>?_,fun p hp=>h2 p (cC _ hp),fun y m=>?_⟩
      . rw [Hv,<-e]
        have abL:cellOf env n=pure c:=by unfold cellOf;rw [ec]
        simp only [DN,if_true,abL,pure_bind]
      . rcases h1 y d m with ⟨a,b⟩|b
        . exact .inl ⟨a,cC _ b⟩
        . rcases bP.mp b with z|z
          . cases z;exact .inl ⟨ec,cL⟩
          . exact .inr z
      . rcases bP.mp m with z|z
        . cases z;exact ⟨c,h2 _ cL⟩
        . exact h3 y z
    . obtain ⟨cl,e,h1,h2,h3⟩:=ih acc fun y hy=>hc y (cC _ hy)
      have hb:(k==NameKind.free)=false:=by simpa using hk
      refine ⟨cl,?_,fun y d m=>?_,h2,fun y m=>?_⟩
      . rw [Hv,<-e]
        simp only [hb,HR,ou,pure_bind]
      . rcases h1 y d m with ⟨a,b⟩|b
        . exact .inl ⟨a,cC _ b⟩
        . exact .inr b
      . rcases bP.mp m with z|z
        . cases z;exact absurd rfl hk
        . exact h3 y z
 obtain ⟨cl,e,h1,_,h3⟩:=gen scope.names [] h
 refine ⟨cl,?_,fun y c m=>(h1 y c m).elim id (fun z=>nomatch z),h3⟩
 have e2:closureFor scope env=((forIn scope.names ([] :List (Str×Addr)) fun (x:Str×NameKind) (cs:List (Str×Addr))=>(if (x.2==NameKind.free)=true then do let a <-cellOf env x.1;pure (ForInStep.yield ((x.1,a)::cs)) else pure (ForInStep.yield cs):Sem _)) >>= fun r=>pure r):=rfl
 rw [e2,e]
 rfl
theorem lookup_mem {α:Type} {l:List (Str×α)} {y:Str} {c:α} (h:(y,c)∈l):∃d,l.lookup y=some d:=by
 induction l with
 | nil=>cases h
 | cons p r ih=>
   obtain ⟨k,v⟩:=p
   rw [nZ]
   cases hb:y==k with
   | true=>exact ⟨v,Z⟩
   | false=>
     rcases bP.mp h with z|z
     . cases z;simp at hb
     . exact ih z
theorem lJ:∀(names:List (Str×NameKind)) (n:Nat) (acc:List (Str×Addr)) {x:Str} {c:Addr},(cellsFrom n names acc).lookup x=some c->n<=c\/acc.lookup x=some c
 | [],_,_,_,_,h=> .inr h
 | (name,kind)::r,n,acc,x,c,h=>by
   unfold cellsFrom at h
   split at h
   . rcases lJ r (n+1) _ h with z|z
     . exact .inl (by omega)
     . rw [nZ] at z
       cases hb:x==name with
       | true=>rw [hb] at z;cases z;exact .inl (aK _)
       | false=>rw [hb] at z;exact .inr z
   . exact lJ r n acc h
theorem FW:∀(names:List (Str×NameKind)) (n n0:Nat) (acc:List (Str×Addr)) {x:Str} {c:Addr},n0<=n->(∀d,acc.lookup x=some d->n0<=d)->(cellsFrom n names acc).lookup x=some c->n0<=c:=by
 intro names n n0 acc x c hn ha h
 rcases lJ names n acc h with z|z
 . omega
 . exact ha c z
theorem rP:∀(names:List (Str×NameKind)) (n:Nat) (acc:List (Str×Addr)) {x:Str} {c:Addr},(x,NameKind.cell)∈names->(cellsFrom n names acc).lookup x=some c->n<=c
 | [],_,_,_,_,m,_=>nomatch m
 | (name,kind)::r,n,acc,x,c,m,h=>by
   unfold cellsFrom at h
   rcases bP.mp m with z|z
   . cases z
     rw [aB (by rfl)] at h
     refine FW r (n+1) n _ (by omega) (fun d hd=>?_) h
     rw [nZ,DN] at hd
     cases hd
     exact aK _
   . split at h
     . exact fT (zQ _) (rP r (n+1) _ z h)
     . exact rP r n acc z h
theorem lK:∀(names:List (Str×NameKind)) (n:Nat) (acc:List (Str×Addr)) {x:Str},(∃c,acc.lookup x=some c)->∃c,(cellsFrom n names acc).lookup x=some c
 | [],_,_,_,h=>h
 | (name,kind)::r,n,acc,x,h=>by
   unfold cellsFrom
   split
   . refine lK r (n+1) _ ?_
     rw [nZ]
     cases x==name with
     | true=>exact ⟨_,Z⟩
     | false=>exact h
   . exact lK r n acc h
theorem rQ:∀(names:List (Str×NameKind)) (n:Nat) (acc:List (Str×Addr)) {x:Str},(x,NameKind.cell)∈names->∃c,(cellsFrom n names acc).lookup x=some c
 | [],_,_,_,m=>nomatch m
 | (name,kind)::r,n,acc,x,m=>by
   unfold cellsFrom
   rcases bP.mp m with z|z
   . cases z
     rw [aB (by rfl)]
     refine lK r (n+1) _ ⟨n,?_⟩
     rw [nZ,DN]
   . split
     . exact rQ r (n+1) _ z
     . exact rQ r n acc z
theorem rR:∀(names:List (Str×NameKind)) (n:Nat) (acc:List (Str×Addr)) {x:Str},(x,NameKind.cell)∉names->(cellsFrom n names acc).lookup x=acc.lookup x
 | [],_,_,_,_=>rfl
 | (name,kind)::r,n,acc,x,m=>by
   have m2:(x,NameKind.cell)∉r:=fun z=>m (cC _ z)
   unfold cellsFrom
   split
   . rename_i hk
     rw [rR r (n+1) _ m2,nZ]
     cases hb:x==name with
     | true=>
       have e1:=mK.mp hb
       have e2:kind=NameKind.cell:=by simpa using hk
       subst e1 e2
       exact absurd cL m
     | false=>rfl
   . exact rR r n acc m2
theorem rS:∀(names:List (Str×NameKind)) (n:Nat) (acc:List (Str×Addr)),(∀x y c,acc.lookup x=some c->acc.lookup y=some c->x=y)->(∀x c,acc.lookup x=some c->c<n)->
  ∀x y c,(cellsFrom n names acc).lookup x=some c->(cellsFrom n names acc).lookup y=some c->x=y
 | [],_,_,h,_=>h
 | (name,kind)::r,n,acc,h,hlt=>by
   intro x y c hx hy
   unfold cellsFrom at hx hy
   split at hx
   . rename_i hk
     rw [aB hk] at hy
     refine rS r (n+1) _ (fun x y c hx hy=>?_) (fun x c hx=>?_) x y c hx hy
     . rw [nZ] at hx hy
       cases hb:x==name with
       | true=>
         cases hb2:y==name with
         | true=>rw [mK.mp hb,mK.mp hb2]
         | false=>
           rw [hb] at hx;rw [hb2] at hy
           cases hx
           exact absurd (hlt _ _ hy) (jw _)
       | false=>
         cases hb2:y==name with
         | true=>
           rw [hb] at hx;rw [hb2] at hy
           cases hy
           exact absurd (hlt _ _ hx) (jw _)
         | false=>
           rw [hb] at hx;rw [hb2] at hy
           exact h x y c hx hy
     . rw [nZ] at hx
       cases hb:x==name with
       | true=>rw [hb] at hx;cases hx;exact Nat.lt_succ_self _
       | false=>rw [hb] at hx;exact Ox (hlt _ _ hx)
   . rename_i hk
     rw [aA hk] at hy
     exact rS r n acc h hlt x y c hx hy
theorem vz:∀(names:List (Str×NameKind)) (h:Heap) (acc:List (Str×Addr)),(∀x c,acc.lookup x=some c->∃v,h.IsCell c v)->∀x c,(cellsFrom h.objs.size names acc).lookup x=some c->∃v,(pushCells h names).IsCell c v
 | [],_,_,ha=>ha
 | (name,kind)::r,h,acc,ha=>by
   intro x c hx
   unfold cellsFrom at hx
   unfold pushCells
   split at hx
   . rename_i hk
     rw [aB hk]
     have q:=vz r (h.push { cls:= .type "cell",data:= .cell none }) ((name,h.objs.size)::acc) (fun x c hx=>by
      rw [nZ] at hx
      cases hb:x==name with
      | true=>rw [hb] at hx;cases hx;exact ⟨none,_,d_ _ rfl,Z⟩
      | false=>
        rw [hb] at hx
        obtain ⟨v,z⟩:=ha x c hx
        exact ⟨v,z.keeps fun b o e=>b7 _ e⟩) x c
     rw [lH] at q
     exact q hx
   . rename_i hk
     rw [aA hk]
     exact vz r h acc ha x c hx
def dJ (X:Cx) (N2:List Str) (scope:Scope) (cl:List (Str×Addr)) (s₂:Shared) (H₂:Hp) (fp:List Addr):Cx where
 prog:=X.prog
 w:=X.w
 K:=X.K
 mg:=X.mg
 base:=X.base
 A:=X.A
 N:=N2
 s₀:=s₂
 H₀:=H₂
 env:={ scope:=relabel scope X.env,locals:=s₂.heap.objs.size,globals:=X.env.globals,cells:=cellsFrom (s₂.heap.objs.size+1) scope.names cl,qual:=X.env.qual,func:=none,code:=X.env.code,frame:=X.env.frame,builtins:=X.env.builtins }
 outer:=X.stack
 stack:=X.stack
 ex:=fp
 fn:=fun x=>decide (scope.names.lookup x=some .cell)
 calm:=X.calm
 pn:=[]
 xe:=fun _ _=>False
def qX (XN:List Str) (xn sn:List (Str×NameKind)) (N2:List Str) (ix:List (Option Nat)):Bool:=
 (ix.length==N2.length) &&
 ((ix.zip N2).all fun p=>match p.1 with
   | none=>true
   | some j=>XN[j]?==some p.2 && sn.lookup p.2==some .free && (xn.lookup p.2==some .cell || xn.lookup p.2==some .free)) &&
 (sn.all fun y=>y.2 != .free || (xn.lookup y.1==some .cell || xn.lookup y.1==some .free)) &&
 (sn.all fun y=>y.2 != .local || sn.lookup y.1==some .local) &&
 (sn.all fun y=>y.2 != .free || sn.all fun z=>z.2 != .cell || z.1 != y.1)
variable {x:Str}
theorem Ao {k:NameKind} (h:(relabel scope env).names.lookup x=some k) (hk:k = .cell\/k = .free):(x,NameKind.cell)∈scope.names\/(x,NameKind.free)∈scope.names:=by
 have m:=wJ h
 obtain ⟨y,hy,e⟩:=bJ.mp m
 obtain ⟨n,k0⟩:=y
 dsimp only at e
 split at e
 . rename_i hc
   cases e
   have h1:k0=NameKind.free:=by
    have:=(lX.mp (lX.mp hc).1).1
    simpa using this
   subst h1
   exact .inr hy
 . cases e
   rcases hk with rfl|rfl
   . exact .inl hy
   . exact .inr hy
theorem Iz:∀{x:Str},scope.names.lookup x=some .free->(relabel scope env).names.lookup x=some .cell\/(relabel scope env).names.lookup x=some .free:=by
 intro x h
 have gen:∀(l:List (Str×NameKind)),l.lookup x=some .free->(l.map fun (n,k)=>if (k==NameKind.free && env.scope.kind == .function && env.kindOf n==some .cell) then (n,NameKind.cell) else (n,k)).lookup x=some .cell\/
   (l.map fun (n,k)=>if (k==NameKind.free && env.scope.kind == .function && env.kindOf n==some .cell) then (n,NameKind.cell) else (n,k)).lookup x=some .free:=by
  intro l
  induction l with
  | nil=>intro h;cases h
  | cons p r ih=>
    intro h
    obtain ⟨n,k⟩:=p
    rw [nZ] at h
    rw [bH]
    dsimp only
    cases hb:x==n with
    | true=>
      rw [hb] at h
      cases h
      split
      . rw [nZ,hb];exact .inl rfl
      . rw [nZ,hb];exact .inr rfl
    | false=>
      rw [hb] at h
      split
      . rw [nZ,hb];exact ih h
      . rw [nZ,hb];exact ih h
 exact gen scope.names h
variable {X:Cx} {pins:AO} {σ σ2:St} {s:Shared} {N2:List Str} {cl:List (Str×Addr)} {fp:List Addr}
theorem B9 (I:Inv X pins σ H s) (hk:scope.kind = .function)
  (IA:∀y c,(y,c)∈cl->X.env.cells.lookup y=some c) (DP:∀y,(y,NameKind.free)∈scope.names->∃c,(y,c)∈cl) (hfp:∀b∈fp,oE X pins H b) (hfo:∀b∈fp,b<s.heap.objs.size) (hl:σ2.length=N2.length)
  (hσ:∀(i:Nat) (x:Str) (v:V),N2[i]?=some x->σ2[i]?=some (some v)->scope.names.lookup x=some .free/\(X.env.kindOf x=some .cell\/X.env.kindOf x=some .free)/\∃j:Nat,X.N[j]?=some x/\σ[j]?=some (some v))
  (hd:∀x,(x,NameKind.free)∈scope.names->(x,NameKind.cell)∉scope.names):
  Inv (dJ X N2 scope cl s H fp) [] σ2 H { s with heap:=pushCells (s.heap.push { cls:= .type "dict",data:= .dict #[] }) scope.names }:=by
 have keeps:∀b o,s.heap.get? b=some o->(pushCells (s.heap.push { cls:= .type "dict",data:= .dict #[] }) scope.names).get? b=some o:=fun b o e=>Hw _ _ b o (b7 _ e)
 have hsz:(s.heap.push { cls:= .type "dict",data:= .dict #[] }).objs.size=s.heap.objs.size+1:=lH ..
 have zY:∀x c,cl.lookup x=some c->X.env.cells.lookup x=some c:=fun x c e=>IA x c (wJ e)
 have clt:∀x c,cl.lookup x=some c->c<s.heap.objs.size:=fun x c e=>by
  obtain ⟨v,z⟩:=I.cell x c (zY x c e)
  exact z.lt
 have there:=vz scope.names (s.heap.push { cls:= .type "dict",data:= .dict #[] }) cl (fun x c e=>by
  obtain ⟨v,z⟩:=I.cell x c (zY x c e)
  exact ⟨v,z.keeps fun b o e=>b7 _ e⟩)
 rw [hsz] at there
 have cells:∀x c,(cellsFrom (s.heap.objs.size+1) scope.names cl).lookup x=some c->s.heap.objs.size+1<=c\/X.env.cells.lookup x=some c:=fun x c e=>by
  rcases lJ _ _ _ e with z|z
  . exact .inl z
  . exact .inr (zY x c z)
 have okY:(dJ X N2 scope cl s H fp).Ok:=by
  refine ⟨I.ok.mod,hk,I.ok.glob,I.ok.blt,aK _,?_,?_,?_,I.ok.hd,I.ok.frames, .inl rfl,?_,I.bs,fT I.ok.EN I.sz,?_,?_,I.stack,I.zR⟩
  . exact rS _ _ _ (fun x y c hx hy=>I.ok.inj x y c (zY x c hx) (zY y c hy)) fun x c e=>Ox (clt x c e)
  . intro x hx
    have m:(x,NameKind.cell)∈scope.names\/(x,NameKind.free)∈scope.names:=by
     rcases hx with z|z
     . exact Ao z (.inl rfl)
     . exact Ao z (.inr rfl)
    rcases m with m|m
    . exact rQ _ _ _ m
    . obtain ⟨c,mc⟩:=DP x m
      exact lK _ _ _ (lookup_mem mc)
  . intro x c hf e
    have hf':scope.names.lookup x=some .cell:=aZ hf
    exact fT (zQ _) (rP _ _ _ (wJ hf') e)
  . intro b hb
    refine ⟨fq (hfo b hb),fun x c e z=>?_⟩
    have hlt:=hfo b hb
    rcases cells x c e with k|k
    . exact absurd (kD hlt (fT (zQ _) (z▸k))) (jw _)
    . exact (hfp b hb).2.2.2.2.1 x c k z
  . intro b o e hb
    rcases (hfp b hb).2.2.2.1 with z|z
    . exact I.ok.HX b o e z
    . exact absurd (kD (bQ (I.ok.bs b o e).1) z) (jw _)
  . intro b hb hbs
    rcases bP.mp (I.H_ b hbs) with z|z
    . exact (hfp b hb).2.1 z
    . exact (hfp b hb).2.2.1 z
 refine ⟨okY,Z,I.bare,Un.kept keeps,?_,there,I.hok.fresh (aK _),?_,(fun p hp=>nomatch hp),I.hok.kept keeps,hl⟩
 . refine ⟨fun _=>none,(Heap.Ns.new s.heap (.type "dict")).keeps (Hw _ _),fun i x v e1 e2 _=>?_⟩
   obtain ⟨hf,hx,j,j1,j2⟩:=hσ i x v e1 e2
   obtain ⟨m,_,hloc⟩:=I.loc
   have hv:U4 X.env.scope x:=hx.elim (fun z=> .inr (.inl z)) fun z=> .inr (.inr z)
   obtain ⟨u,r,lk⟩:=hloc j x v j1 j2 hv
   refine ⟨u,r, .inr ⟨Iz hf,?_⟩⟩
   rcases lk with ⟨k,_⟩|⟨_,c,ec,ic⟩
   . rcases hx with z|z <;> rw [z] at k <;> cases k
   . refine ⟨c,?_,ic.keeps keeps⟩
     have mf:=wJ hf
     show (cellsFrom (s.heap.objs.size+1) scope.names cl).lookup x=some c
     rw [rR _ _ _ (hd x mf)]
     obtain ⟨c',mc⟩:=DP x mf
     obtain ⟨d,ed⟩:=lookup_mem mc
     rw [ed]
     have:=zY x d ed
     rw [ec] at this
     exact this.symm
 . intro x c e
   rcases cells x c e with k|k
   . exact I.hok.fresh (by omega)
   . exact I.mL x c k
variable {tg:Expr} {te:TE} {E:VS}
section
variable {X:Cx}
def B_ (J:It) (g:TG) (te:TE) (acc:Addr) (σ₀:St) (H:Hp) (Q:VK):Prop:=∃W:Nat->Nat->St->Hp->Prop,
 (∃m,W 0 m σ₀ (upd H acc (.lst [])))/\∀i m σ2 H2,W i m σ2 H2->
   (J.stop i H2/\Q (.ref acc) H2)\/(J.go i H2/\∃(S:St->Prop) (N:V->Hp->Prop),(∀σ3 v H4,S σ3->N v H4->∃xs,H4 acc=some (.lst xs)/\xs.length<sizeLine/\∃m',m'<m/\W (i+1) m' σ3 (upd H4 acc (.lst (xs++[v]))))/\∀x H',J.BN i H2 x H'->g x σ2 H' fun σ3 H3=>S σ3/\te σ3 H3 N)
inductive wZ (Pv:Nat->List V->Hp->Prop) (i:Nat) (acc:Addr) (out:List V) (v:V) (H4:Hp):Prop
 | mk (_:H4 acc=some (.lst out)) (_:Pv (i+1) (out++[v]) (upd H4 acc (.lst (out++[v]))))
def Vh (te:TE) (σ:St) (Pv:Nat->List V->Hp->Prop) (i:Nat) (acc:Addr) (out:List V):Bool->Hp->Prop:=fun b H2=>if b=true then te σ H2 (wZ Pv i acc out) else H2 acc=some (.lst out)/\Pv (i+1) out H2
def pick (ix:List (Option Nat)) (σ:St):St:=ix.map fun o=>o.bind fun j=>(σ[j]?).join
def YW (ix:List (Option Nat)) (g:TG) (te:TE) (σ:St) (Q:VK):It->Hp->Prop:=fun J H1=>∀acc,H1 acc=none->B_ J g te acc (pick ix σ) H1 Q
def Vi (wi:TI) (ix:List (Option Nat)) (g:TG) (te:TE):TE:=fun σ H Q=>wi σ H (YW ix g te σ Q)
theorem oH {XN:List Str} {xn sn:List (Str×NameKind)} {ix:List (Option Nat)} (h:qX XN xn sn N2 ix=true):
  ix.length=N2.length/\(∀(i:Nat) (x:Str) (j:Nat),N2[i]?=some x->ix[i]?=some (some j)->XN[j]?=some x/\sn.lookup x=some .free/\(xn.lookup x=some .cell\/xn.lookup x=some .free))/\
  (∀y∈sn,y.2 = .free->xn.lookup y.1=some .cell\/xn.lookup y.1=some .free)/\(∀y∈sn,y.2 = .local->sn.lookup y.1=some .local)/\∀x,(x,NameKind.free)∈sn->(x,NameKind.cell)∉sn:=by
 unfold qX at h
 obtain ⟨h,h5⟩:=lX.mp h
 obtain ⟨h,h4⟩:=lX.mp h
 obtain ⟨h,h3⟩:=lX.mp h
 obtain ⟨h1,h2⟩:=lX.mp h
 have e1:ix.length=N2.length:=by simpa using h1
 refine ⟨e1,fun i x j a b=>?_,fun y hy e=>?_,fun y hy e=>?_,fun x m1 m2=>?_⟩
 . have m:(some j,x)∈ix.zip N2:=by
    refine bX (i:=i) ?_
    rw [List.getElem?_zip_eq_some]
    exact ⟨b,a⟩
   have q:=tH.mp h2 _ m
   dsimp only at q
   obtain ⟨q,q3⟩:=lX.mp q
   obtain ⟨q1,q2⟩:=lX.mp q
   exact ⟨by simpa using q1,by simpa using q2,(DG.mp q3).imp (fun z=>by simpa using z) fun z=>by simpa using z⟩
 . have q:=tH.mp h3 y hy
   rcases DG.mp q with z|z
   . rw [e] at z;simp at z
   . exact (DG.mp z).imp (fun z=>by simpa using z) fun z=>by simpa using z
 . have q:=tH.mp h4 y hy
   rcases DG.mp q with z|z
   . rw [e] at z;simp at z
   . simpa using z
 . have q:=tH.mp h5 _ m1
   rcases DG.mp q with z|z
   . simp at z
   . have q2:=tH.mp z _ m2
     simp at q2
theorem Ca {ix:List (Option Nat)} {g:TG} {Q:VK}
  {RR:Value->Addr->Result->Shared->Prop} (hc:X.calm=true) (hg:∀cl s₂ H₂ fp,PG (dJ X N2 scope cl s₂ H₂ fp) tg g) (he:∀cl s₂ H₂ fp,PE (dJ X N2 scope cl s₂ H₂ fp) elt te)
  (hk:scope.kind = .function) (hn:qX X.N X.env.scope.names scope.names N2 ix=true)
  (IA:∀y c,(y,c)∈cl->X.env.cells.lookup y=some c) (DP:∀y,(y,NameKind.free)∈scope.names->∃c,(y,c)∈cl)
  {it:Addr} {fp:List Addr} {tn:Nat->Heap->Prop} {J:It} (I:Inv X pins σ H s) (T:Turn X.prog X.w X.K tg J fp it tn) (st:tn 0 s.heap) (f:∀b∈fp,oE X pins H b)
  (h:∀acc,H acc=none->B_ J g te acc (ix.map fun o=>o.bind fun j=>(σ[j]?).join) H Q)
  (hR:∀acc C H' s' m,Inv X pins σ H' s'->s'.heap.Ns C m->H' C=none->C≠X.env.locals->X.s₀.heap.objs.size<=C->(∀x c,X.env.cells.lookup x=some c->c≠C)->(∀p∈X.pn++pins,p.1≠C)->Q (.ref acc) H'->RR (.ref acc) C (.ok .next) s'):
  wpAny (model X.prog X.w) X.A (newList []) (fun acc s₃=>wpAny (model X.prog X.w) X.A (newFunctionEnv scope X.env.globals cl [] X.env.qual none .none (some X.env)) (fun cenv s₄=>
   codeAny (model X.prog X.w) X.A (.compStart (.ListComp elt [⟨tg,iter,[],0⟩] scope pos) 0 (.ref it) acc { cenv with scope:=relabel scope X.env }) (RR acc cenv.locals) s₄) E s₃) E s:=by
 obtain ⟨k1,k2,k3,k4,k5⟩:=oH hn
 refine pS ?_
 have I3:Inv X pins σ (upd H s.heap.objs.size (.lst [])) { s with heap:=s.heap.push { cls:= .type "list",data:= .seq ([] :List Value).toArray } }:=
  I.laid (a:=s.heap.objs.size) (o:= .lst []) (t':=s.toks) (fun _ _ q=>b7 _ q) (aK _) ⟨gj _,[],_, .nil,d_ _ rfl⟩
 obtain ⟨W,⟨m0,w0⟩,turn⟩:=h s.heap.objs.size I.fresh
 have fo:∀b∈fp,b<s.heap.objs.size:=fun b hb=>by
  obtain ⟨o,e,_⟩:=T.obj 0 _ st b hb
  exact bQ e
 have st3:tn 0 (s.heap.push { cls:= .type "list",data:= .seq ([] :List Value).toArray }):=T.keep _ _ _ st fun b _ o e=>b7 _ e
 have f3:∀b∈fp,oE X pins (upd H s.heap.objs.size (.lst [])) b:=fun b hb=>⟨by rw [az (fq (fo b hb))];exact (f b hb).1,(f b hb).2⟩
 have Q2:∀b∈fp,b<(s.heap.push { cls:= .type "list",data:= .seq ([] :List Value).toArray }).objs.size:=fun b hb=>by rw [lH];exact Ox (fo b hb)
 generalize YX:({ s with heap:=s.heap.push { cls:= .type "list",data:= .seq ([] :List Value).toArray } }:Shared)=s3 at *
 have YY:s3.heap=s.heap.push { cls:= .type "list",data:= .seq ([] :List Value).toArray }:=by rw [<-YX]
 rw [<-YY] at st3 Q2
 generalize s.heap.objs.size=acc at *
 generalize eH3:upd H acc (.lst [])=H3 at *
 have IY:=B9 (N2:=N2) (scope:=scope) (cl:=cl) (fp:=fp) (σ2:=ix.map fun o=>o.bind fun j=>(σ[j]?).join) I3 hk IA DP f3 Q2 (by rw [aE];exact k1) (fun i x v e1 e2=>by
  rw [cg] at e2
  cases ei:ix[i]? with
  | none=>rw [ei] at e2;cases e2
  | some o=>
    rw [ei] at e2
    cases o with
    | none=>cases e2
    | some j=>
      obtain ⟨a1,a2,a3⟩:=k2 i x j e1 ei
      refine ⟨a2,a3,j,a1,?_⟩
      have e3:(σ[j]?).join=some v:=fH e2
      cases ej:σ[j]? with
      | none=>rw [ej] at e3;cases e3
      | some z=>rw [ej] at e3;exact jx some e3) k5
 have ne:wpAny (model X.prog X.w) X.A (newFunctionEnv scope X.env.globals cl [] X.env.qual none .none (some X.env)) (fun cenv s₄=>
   cenv={ scope:=scope,locals:=s3.heap.objs.size,globals:=X.env.globals,cells:=cellsFrom (s3.heap.objs.size+1) scope.names cl,qual:=X.env.qual,func:=none,code:=X.env.code,frame:=X.env.frame,builtins:=X.env.builtins }/\
   s₄={ s3 with heap:=pushCells (s3.heap.push { cls:= .type "dict",data:= .dict #[] }) scope.names }) E s3:=by
  simp only [newFunctionEnv,Option.isSome_some,if_true]
  refine au (wpAny_alloc ?_)
  refine au (wpAny_layCells _ (fun name kind cells=>by cases hkc:kind==NameKind.cell <;> simp [hkc]) _ _ _ _ ?_)
  rw [BD]
  refine au (aL (aL ⟨?_,Z⟩))
  rw [show ({ s3 with heap:=s3.heap.push { cls:= .type "dict",data:= .dict #[] } }:Shared).heap.objs.size=s3.heap.objs.size+1 from lH ..]
 refine bf ne fun cenv s4 ⟨e1,e2⟩=>?_
 subst e1 e2
 have Q3:tn 0 (pushCells (s3.heap.push { cls:= .type "dict",data:= .dict #[] }) scope.names):=T.keep _ _ _ st3 fun b _ o e=>Hw _ _ b o (b7 _ e)
 have Cb:s3.heap.objs.size≠X.env.locals:=zN I3.lt
 have tR:∀{H':Hp},(∀b∈fp,H' b=none)->∀b∈fp,oE (dJ X N2 scope cl s3 H3 fp) [] H' b:=fun {H'} hn b hb=>
  ⟨hn b hb,(IY.ok.MN b hb).1,IY.ok.DO b hb, .inl hb,(IY.ok.MN b hb).2,fun p hp=>nomatch hp⟩
 have loop:codeAny (model X.prog X.w) X.A (.compLoop (.ListComp elt [⟨tg,iter,[],0⟩] scope pos) 0 (.ref it) (.ref acc) (dJ X N2 scope cl s3 H3 fp).env) (RR (.ref acc) s3.heap.objs.size)
   { s3 with heap:=pushCells (s3.heap.push { cls:= .type "dict",data:= .dict #[] }) scope.names }:=by
  refine Iw (fun n s'=>∃i σ' H',Inv (dJ X N2 scope cl s3 H3 fp) [] σ' H' s'/\tn i s'.heap/\(∀b∈fp,H' b=none)/\W i n σ' H') ?_ m0 ⟨0,_,H3,IY,Q3,fun b hb=>(f3 b hb).1,w0⟩
  rintro n s5 ⟨i,σ5,H5,I5,Cc,IB,w5⟩
  rcases turn i n σ5 H5 w5 with ⟨stop,qn⟩|⟨go,S,N,YZ,step⟩
  . refine bf (T.done (dJ X N2 scope cl s3 H3 fp) rfl rfl rfl hc i [] s5 σ5 H5 (fun _ _=>False) I5 (tR IB) Cc stop) fun r s6 ⟨hr,I6⟩=>?_
    subst hr
    obtain ⟨m6,Y0,_⟩:=id I6.loc
    have IX:Inv X pins σ H5 s6:=I3.OE (ch:=fp) I6.os I6.base I6.hok I6.bare fun b hb=>⟨(f3 b hb).2.2.2.1,(f3 b hb).2.1,(f3 b hb).2.2.2.2.1,(f3 b hb).2.2.2.2.2⟩
    refine hR acc s3.heap.objs.size H5 s6 m6 IX Y0 I6.free Cb I3.sz (fun x c e z=>?_) (fun p hp z=>?_) qn
    . obtain ⟨v,q⟩:=I3.cell x c e
      exact absurd q.lt (by rw [z];exact jw _)
    . exact absurd (bQ (I3.pin p hp).1) (by rw [z];exact jw _)
  . refine bf (T.item (dJ X N2 scope cl s3 H3 fp) rfl rfl rfl hc i [] s5 σ5 H5 (fun _ _=>False) I5 (tR IB) Cc go) fun r s6 ⟨u,hr,h6⟩=>?_
    subst hr
    refine bf h6 fun _ s7 ⟨x,H7,I7,r7,y7,Cd,Q5⟩=>?_
    have Y3:=I7.pinned (tR Q5) (T.obj _ _ Cd)
    refine bf (hg cl s3 H3 fp _ s7 σ5 H7 x u _ Y3 r7 (step x H7 y7)) fun _ s8 ⟨σ8,H8,I8,Vj,q8⟩=>?_
    refine bf (he cl s3 H3 fp _ s8 σ8 H8 _ I8 q8) fun y s9 ⟨v,H9,I9,r9,q9⟩=>?_
    obtain ⟨xs,hxs,Y4,m',hm,w9⟩:=YZ σ8 v H9 Vj q9
    refine bf (dU _ s9 σ8 H9 (.ref acc) [v] (.ref acc) [y] (fun z Aq=>z = .bU/\Aq=upd H9 acc (.lst (xs++[v]))) I9 rfl (.cons r9 .nil) ⟨acc,xs,v,Z,Z,hxs,Y4,Z,Z⟩) fun z Vk ⟨zv,Aq,IC,r10,ez,eH⟩=>?_
    subst eH
    refine ⟨m',hm,i+1,σ8,_,IC.pV,T.keep _ _ _ Cd fun b hb o e=>(IC.pin (b,o) (jn _ (jn _ (je hb e)))).1,fun b hb=>?_,w9⟩
    obtain ⟨o,e,d⟩:=T.obj _ _ Cd b hb
    exact (IC.pin (b,o) (jn _ (jn _ (je hb e)))).2.1
 exact codeAny_compStart_list loop (T.self _ 0 _ _ _ Q3 loop)
end
variable {H':Hp}
theorem aP.cN {p:Addr} (e:aP H H') (h:H p=none) (o:HO):aP H (upd H' p o):=fun b u q=>by rw [az (aF q h)];exact e b u q
theorem Y5 {p:Addr} {q:Rat} (h:H p=some (tQ q)):Dt K H (.ref p) (.tuple [.int q.num, .int (q.den:Int)]):= .tup (bN.of h) (.cons (.int _) (.cons (.int _) .nil))
section
variable {X:Cx}
theorem TN (hc:X.calm=true):iy X (.builtin "sum") (fun xs H Q=>∃(a:Addr) (ns:List Int),xs=[.ref a]/\aH X.K H a (ns.map V.int)/\Q (.int ns.sum) H):=by
 intro pins s σ H xs us Q I r h
 obtain ⟨a,ns,rfl,hS,q⟩:=h
 obtain ⟨u,rfl,ru⟩:=vals1 r
 cases ru
 obtain ⟨its,rv,p,hz⟩:=I.list hS
 have hi:=intsAre_of rv
 have hl:=p.isList
 obtain ⟨o,ho,_⟩:=id hl
 have hne:a≠s.heap.objs.size:=fq (bQ ho)
 have W:=(Walks.list (prog:=X.prog) (w:=X.w) (A:=X.A.in1) (I.ok.hd hc) s.heap.objs.size a hne its.toArray).toS
 have Ce:its.length=ns.length:=by rw [<-rv.length,aE]
 refine call_sum_walkAnyS (Ou hl ?_)
 refine ⟨s.heap.objs.size,_,_,_,_,_,_,fun i=>ns.getD i 0,Z,W,⟨⟨_,d_ _ rfl,Z,Z⟩,hl.at fun o e=>b7 _ e⟩,fun b hb=>?_,fun i v hP=>?_,fun s' t' hm=>?_⟩
 . rcases bP.mp hb with rfl|hb
   . exact bQ (d_ _ rfl)
   . obtain rfl:=fV.mp hb
     exact bQ (b7 _ ho)
 . have Q6:its[i]?=some v:=by simpa using hP
   have hil:i<ns.length:=by
    have:=(dS.mp Q6).1
    omega
   obtain ⟨u,hu,ru⟩:=rv.get (i:=i) (x:=V.int ns[i]) (by rw [cg,bu hil];rfl)
   rw [Q6] at hu
   cases hu
   obtain ⟨t,e⟩:=ru
   refine ⟨t,?_⟩
   rw [e]
   show Value.int ns[i] t=Value.int (ns.getD i 0) t
   rw [iK,bu hil]
   rfl
 . obtain ⟨h',g',d',tk',os'⟩:=s'
   have e1:g'=s.gens:=hm.gens
   have e2:d'=s.drawn:=hm.drawn
   have e3:os'=s.os:=hm.os
   subst e1 e2 e3
   have hsz:its.toArray.size=ns.length:=by rw [gH,Ce]
   rw [hsz,preSum_getD,Oe (aK _)]
   exact ⟨.int ns.sum,H,I.kept (h':=h') (t':=tk') fun b o e=>hm.heap b o (fun hb=>absurd (bQ e) ((fV.mp hb)▸jw _)) (b7 _ e),⟨t',Z⟩,q⟩
theorem TQ (hc:X.calm=true):iy X (.builtin "all") (fun xs H Q=>∃(a:Addr) (bs:List Bool),xs=[.ref a]/\aH X.K H a (bs.map V.bl)/\Q (.bl (bs.all id)) H):=by
 intro pins s σ H xs us Q I r h
 obtain ⟨a,bs,rfl,hS,q⟩:=h
 obtain ⟨u,rfl,ru⟩:=vals1 r
 cases ru
 obtain ⟨its,rv,p,hz⟩:=I.list hS
 have hl:=p.isList
 obtain ⟨o,ho,_⟩:=id hl
 have hne:a≠s.heap.objs.size:=fq (bQ ho)
 have Ce:its.length=bs.length:=by rw [<-rv.length,aE]
 refine call_all_walk (Ou hl ?_)
 refine ⟨s.heap.objs.size,_,_,_,_,_,fun i=>bs.getD i false,Z,Walks.list (prog:=X.prog) (w:=X.w) (A:=X.A.in1) (I.ok.hd hc) s.heap.objs.size a hne its.toArray,⟨⟨_,d_ _ rfl,Z,Z⟩,hl.at fun o e=>b7 _ e⟩,fun i v s' Q' E' hP hQ=>?_,fun h' tk hk=>?_⟩
 . have Q6:its[i]?=some v:=by simpa using hP
   have hil:i<bs.length:=by
    have:=(dS.mp Q6).1
    omega
   obtain ⟨u,hu,ru⟩:=rv.get (i:=i) (x:=V.bl bs[i]) (by rw [cg,bu hil];rfl)
   rw [Q6] at hu
   cases hu
   have e:v=Value.bool bs[i] :=ru
   subst e
   refine DL ?_
   have hQ2:Q' (bs.getD i false) s':=hQ
   rw [iK,bu hil] at hQ2
   exact hQ2
 . have hsz:its.toArray.size=bs.length:=by rw [gH,Ce]
   have e:(List.range its.toArray.size).all (fun i=>bs.getD i false)=bs.all id:=by
    rw [hsz,zK,tH,tH]
    refine ⟨fun z x hx=>?_,fun z i hi=>?_⟩
    . obtain ⟨i,hi,e⟩:=List.mem_iff_getElem.mp hx
      have:=z i (qy.mpr hi)
      rw [iK,bu hi] at this
      rw [<-e]
      exact this
    . have hi':=qy.mp hi
      rw [iK,bu hi']
      exact z _ (yq hi')
   rw [e]
   exact ⟨.bl (bs.all id),H,I.kept (h':=h') (t':=tk) fun b o e=>hk b o (fun hb=>absurd (bQ e) ((fV.mp hb)▸jw _)) (b7 _ e),Z,q⟩
end
section
variable {X:Cx} (K:Fg)
theorem aQ (hK:X.K=K:=by rfl):yb X (Tj K):=hK▸QI
theorem cZ (hK:X.K=K:=by rfl):yb X (OU K):=hK▸M_
theorem DQ (hu:X.A.units+64<cLine) (hK:X.K=K:=by rfl):iL X (compareOp .NotEq) (TL K):=hK▸YU hu
theorem uS (hc:X.calm=true) (hK:X.K=K:=by rfl):iy X (.builtin "sum") (fun xs H Q=>∃(a:Addr) (ns:List Int),xs=[.ref a]/\aH K H a (ns.map V.int)/\Q (.int ns.sum) H):=hK▸TN hc
theorem Q7 (hc:X.calm=true) (hK:X.K=K:=by rfl):iy X (.builtin "all") (fun xs H Q=>∃(a:Addr) (bs:List Bool),xs=[.ref a]/\aH K H a (bs.map V.bl)/\Q (.bl (bs.all id)) H):=hK▸TQ hc
theorem di (hK:X.K=K:=by rfl):iy X (.builtin "len") (fun xs H Q=>∃p ys,xs=[.ref p]/\(aH K H p ys\/bN K H p ys)/\Q (.int ys.length) H):=hK▸Ik
theorem rT (hK:X.K=K:=by rfl):iy X (.type "list") (fun xs H Q=>∃p ys,xs=[.ref p]/\(aH K H p ys\/bN K H p ys)/\∀l,H l=none->Q (.ref l) (upd H l (.lst ys))):=hK▸Im
theorem ID (hK:X.K=K:=by rfl):iy X (.builtin "isinstance") (fun xs H Q=>∃x n t b,xs=[x, .ty n]/\lZ K H x t/\PySem.W.kitOne K t (.type n)=some b/\Q (.bl b) H):=hK▸Lv
end
theorem Lw {n l1 l2:Nat} (h1:l1<n) (h2:l2<n):ZipApart (n+4) (n+2) (n+3) n (n+1) l1 l2:=by
 have nn:∀i j:Nat,i≠j->n+i≠n+j:=fun i j h e=>h (Nat.add_left_cancel e)
 have ne:∀(c k:Nat),c<n->c≠n+k:=fun c k h=>by omega
 exact ⟨nn 2 4 (by decide),nn 3 4 (by decide),nn 0 4 (by decide),nn 1 4 (by decide),nn 2 3 (by decide),nn 2 0 (by decide),nn 2 1 (by decide),nn 3 0 (by decide),nn 3 1 (by decide),nn 0 1 (by decide),ne _ 4 h1,ne _ 3 h1,ne _ 0 h1,ne _ 1 h1,ne _ 4 h2,ne _ 3 h2,ne _ 0 h2,ne _ 1 h2⟩
section
variable {X:Cx} {elts:List Expr} {kk:Nat} {tpos:Pos}
end
inductive abM (K:Fg) (vs:List V) (H:Hp) (Q:VK) (E:XK):Prop
 | mk (a:Addr) (ns:List Int) (k j:Int) (_:vs=[.ref a, .int k, .int j]) (_:aH K H a (ns.map V.int)) (_:ns.length<=63) (_:0<=k) (_:0<=j) (_:j<2 ^ 61) (_:∀(m:Int) (H':Hp),1<=m->m<=1000000000->aP H H'->Q (.int m) H')
def Cf (K:Fg):Sp:=bx (abM K)
theorem IE {Q:VK} {E:XK} {k j:Int} (hS:aH K H a (ns.map V.int)) (h63:ns.length<=63) (h1:0<=k) (h2:0<=j) (h3:j<2 ^ 61)
  (h:∀(m:Int) (H':Hp),1<=m->m<=1000000000->aP H H'->Q (.int m) H'):Cf K [.ref a, .int k, .int j] H Q E:=⟨a,ns,k,j,Z,hS,h63,h1,h2,h3,h⟩
section
variable {X:Cx}
inductive abN (Q:VK) (vs:List V) (H1:Hp):Prop
 | mk  (j:Int) (_:vs=[.int j]) (_:∀p,H1 p=none->Q (.ref p) (upd H1 p (.uQ 0 j)))
def afc (ta:TA):TE:=fun σ H Q=>ta σ H (abN Q)
def upTo (n:Nat):List Int:=(List.range n).map fun i=>((i:Nat):Int)
theorem FY (hc:X.calm=true):iy X (.type "list") (fun xs H Q=>∃(r:Addr) (n:Nat),xs=[.ref r]/\H r=some (.uQ 0 (n:Int))/\n<=1000/\∀l,H l=none->Q (.ref l) (upd H l (.lst ((upTo n).map V.int)))):=by
 intro pins s σ H xs us Q I r h
 obtain ⟨a,n,rfl,hr,hn,q⟩:=h
 obtain ⟨u,rfl,ru⟩:=vals1 r
 cases ru
 obtain ⟨t,t2,t3,e⟩:=(show dI X.prog X.w H s.heap a (.uQ 0 (n:Int)) from I.hok a _ hr)
 refine call_list_range (n:=n) (I.ok.hd hc) e (small_one (by decide) (by decide) (by omega) (by omega)) (by rw [rangeSize_one];split <;> omega) (by omega) fun h' tk acc' c' hk hS hI=>?_
 obtain ⟨hsz,hit⟩:=hI
 have hv:Vals ((upTo n).map V.int) acc'.toList:=by
  have gen:∀(m:Nat) (us:List Value) (k:Nat),us.length=m->(∀(j:Nat) (v:Value),us[j]?=some v->∃t,v = .int ((0:Int)+((k+j:Nat):Int)*1) t)->Vals (((List.range' k m).map fun i=>((i:Nat):Int)).map V.int) us:=by
   intro m
   induction m with
   | zero=>intro us k hl _;rw [List.length_eq_zero_iff.mp hl];exact .nil
   | succ m ih=>
     intro us k hl hu
     cases us with
     | nil=>cases hl
     | cons v r=>
       obtain ⟨t,e⟩:=hu 0 v rfl
       refine .cons ⟨t,?_⟩ (ih r (k+1) (by simpa using hl) fun j v' hj=>?_)
       . rw [e]
         show Value.int _ t=Value.int ((k:Nat):Int) t
         congr 1
         omega
       . obtain ⟨t,e⟩:=hu (j+1) v' (by simpa using hj)
         exact ⟨t,by rw [e];congr 1;omega⟩
  have:=gen n acc'.toList 0 (by simpa using hsz) fun j v hj=>by
   obtain ⟨t,e⟩:=hit j v (by simpa using hj)
   exact ⟨t,by rw [e];congr 1;omega⟩
  unfold upTo
  rw [List.range_eq_range']
  exact this
 have hlen:((upTo n).map V.int).length<=sizeLine:=by unfold upTo;simp;exact small (by omega)
 exact ⟨.ref s.heap.objs.size,_,I.laid (a:=s.heap.objs.size) (o:= .lst ((upTo n).map V.int)) (h':=h') (t':=tk) hk (aK _) ⟨hlen,acc'.toList,c',hv,by simpa using hS⟩,Z,q _ I.fresh⟩
inductive Wy (K:Fg) (Q:VK) (x:V) (y:V) (H2:Hp):Prop
 | mk  (_:y = .int (-1)) (a xs:_) (_:x = .ref a) (_:aH K H2 a xs) (_:∀p,H2 p=none->Q (.ref p) (upd H2 p (.lst xs.reverse)))
def abO (K:Fg) (ts:TE) (σ:St) (Q:VK):V->Hp->Prop:=fun x H1=>ts σ H1 (Wy K Q x)
def afd (K:Fg) (te ts:TE):TE:=fun σ H Q=>te σ H (abO K ts σ Q)
end
theorem sum_set:∀(as:List Int) (j:Nat) (x:Int),j<as.length->(as.set j x).sum=as.sum-as.getD j 0+x
 | [],j,_,h=>absurd h (Nat.not_lt_zero _)
 | a::r,0,x,_=>by
   show (x::r).sum=(a::r).sum-a+x
   rw [c5,c5];omega
 | a::r,j+1,x,h=>by
   show (a::r.set j x).sum=(a::r).sum-r.getD j 0+x
   rw [c5,c5,sum_set r j x (by simpa using h)];omega
theorem TR (as:List Int) (j k:Nat) (x:Int) (h:j<as.length):(as.set j x).getD k 0=if k=j then x else as.getD k 0:=by
 rw [iK,List.getElem?_set]
 by_cases e:j=k
 . subst e
   rw [aB rfl,aB h,aB rfl]
   rfl
 . rw [aA e,aA (cO e),<-iK]
theorem vV {n k:Nat} (h:k<n):BV n (k:Int)=some k:=by
 unfold BV
 rw [aB (by omega),aB (by omega)]
 rfl
abbrev tx (cs:List Nat):Str:=⟨cs.toArray⟩
theorem IF (x:Str):tx x.cps.toList=x:=by cases x;rfl
theorem yz (cs:List Nat):(tx cs).length=cs.length:=by show cs.toArray.size=_;rw [gH]
theorem Y6 (a b:List Nat):(tx a++tx b:Str)=tx (a++b):=by
 show (⟨a.toArray++b.toArray⟩:Str)=_
 simp [tx]
def Vl (cs:List Nat):It:=⟨fun i _=>i<cs.length,fun i H v H'=>H'=H/\∃c,cs[i]?=some c/\v = .str (tx [c]),fun i _=>cs.length<=i⟩
theorem O0 {P:Program} {w:World} {K:Fg} {tg:Expr} (x:Str) (t:Tok) (it:Addr):Turn P w K tg (Vl x.cps.toList) [it] it (fun i h=>h.IsStrIter it "str_ascii_iterator" x t i) where
 mem:=by simp
 obj:=fun i h st b hb=>by
  have e:b=it:=by simpa using hb
  subst e
  obtain ⟨o,e,c,d⟩:=st
  exact ⟨o,e,fun v z=>by rw [d] at z;cases z⟩
 keep:=fun i h h' st k=>let ⟨o,ho,r⟩:=st;⟨o,k it (by simp) o ho,r⟩
 item:=by
  intro X hP hw hK hc i pins s σ H E I hf st hg
  subst hP hw hK
  have hi:i<x.cps.size:=by have hg':i<x.cps.toList.length:=hg;simpa using hg'
  obtain ⟨f0,f1,f2,f3,f4,f5⟩:=hf it (by simp)
  refine wpAny_pyNext_ascii_item st (c:=x.cps[i]) (by simp [hi]) fun h' st' sb=>?_
  have I1:Inv X pins σ H { s with heap:=h',toks:=s.toks+1 }:=I.turned (t':=s.toks+1) (fun b o hb e=>sb.extBut b o hb e) f0 f1 f3 f4 f5
  obtain ⟨o,e,c,d⟩:=id st'
  exact ⟨_,Z,wV (s:={ s with heap:=h',toks:=s.toks+1 }) e c d (by decide) ⟨.str (tx [x.cps[i]]),H,I1,⟨_,Z⟩,⟨Z,x.cps[i],by simp [hi],Z⟩,st',fun b hb=>(hf b hb).1⟩⟩
 done:=by
  intro X hP hw hK hc i pins s σ H E I hf st hg
  subst hP hw hK
  have hi:x.cps.size<=i:=by have hg':x.cps.toList.length<=i:=hg;simpa using hg'
  obtain ⟨f0,f1,f2,f3,f4,f5⟩:=hf it (by simp)
  exact wpAny_pyNext_ascii_end (I.ok.hd hc) st (by simp;omega) fun h' eb=>⟨Z,I.turned (t':=s.toks) (fun b o hb e=>eb b o hb e) f0 f1 f3 f4 f5⟩
 self:=fun _ _ _ _ _ st h=>wpAny_pyIter_striter_ascii st h
theorem Q8 {P:Program} {w:World} {K:Fg} {tg:Expr} (x:Str) (t:Tok) (it:Addr):Turn P w K tg (Vl x.cps.toList) [it] it (fun i h=>h.IsStrIter it "str_iterator" x t i) where
 mem:=by simp
 obj:=fun i h st b hb=>by
  have e:b=it:=by simpa using hb
  subst e
  obtain ⟨o,e,c,d⟩:=st
  exact ⟨o,e,fun v z=>by rw [d] at z;cases z⟩
 keep:=fun i h h' st k=>let ⟨o,ho,r⟩:=st;⟨o,k it (by simp) o ho,r⟩
 item:=by
  intro X hP hw hK hc i pins s σ H E I hf st hg
  subst hP hw hK
  have hi:i<x.cps.size:=by have hg':i<x.cps.toList.length:=hg;simpa using hg'
  obtain ⟨f0,f1,f2,f3,f4,f5⟩:=hf it (by simp)
  refine wpAny_pyNext_wide_item st (c:=x.cps[i]) (by simp [hi]) fun h' st' sb=>?_
  have I1:Inv X pins σ H { s with heap:=h',toks:=s.toks+1 }:=I.turned (t':=s.toks+1) (fun b o hb e=>sb.extBut b o hb e) f0 f1 f3 f4 f5
  obtain ⟨o,e,c,d⟩:=id st'
  exact ⟨_,Z,wV (s:={ s with heap:=h',toks:=s.toks+1 }) e c d (by decide) ⟨.str (tx [x.cps[i]]),H,I1,⟨_,Z⟩,⟨Z,x.cps[i],by simp [hi],Z⟩,st',fun b hb=>(hf b hb).1⟩⟩
 done:=by
  intro X hP hw hK hc i pins s σ H E I hf st hg
  subst hP hw hK
  have hi:x.cps.size<=i:=by have hg':x.cps.toList.length<=i:=hg;simpa using hg'
  obtain ⟨f0,f1,f2,f3,f4,f5⟩:=hf it (by simp)
  exact wpAny_pyNext_wide_end (I.ok.hd hc) st (by simp;omega) fun h' eb=>⟨Z,I.turned (t':=s.toks) (fun b o hb e=>eb b o hb e) f0 f1 f3 f4 f5⟩
 self:=fun _ _ _ _ _ st h=>wpAny_pyIter_striter_wide st h
variable {cs:List Nat} {acc:Addr}
section
variable {X:Cx} {tg:Expr}
inductive abP (R:It->Hp->Prop) (x:V) (H1:Hp):Prop
 | mk  (cs:List Nat) (_:x = .str (tx cs)) (_:R (Vl cs:_) H1)
def Y7 (te:TE):TI:=fun σ H R=>te σ H (abP R)
theorem Y8 {l:Expr} {tl:TE} (hl:PE X l tl):PI X tg l (Y7 tl):=by
 intro pins s σ H R I h
 refine bf (hl pins s σ H _ I h) fun v s1 ⟨x,H1,I1,r1,q1⟩=>?_
 obtain ⟨cs,e,q⟩:=q1
 subst e
 obtain ⟨t,rfl⟩:=r1
 have fp:∀b∈[s1.heap.objs.size],oE X pins H1 b:=fun b hb=>by
  have e:b=s1.heap.objs.size:=by simpa using hb
  subst e
  exact I1.yt (aK _) (I1.hok.fresh (aK _))
 have tw:=@Q8 X.prog X.w X.K tg (tx cs) t s1.heap.objs.size
 have ta:=@O0 X.prog X.w X.K tg (tx cs) t s1.heap.objs.size
 cases ha:(tx cs).cps.all (·<128)
 . exact wpAny_pyIter_wide ha ⟨s1.heap.objs.size,[s1.heap.objs.size],_,_,H1,Z,I1.kept (t':=s1.toks) fun b o e=>b7 _ e,tw,⟨_,d_ _ rfl,Z,Z⟩,fp,q⟩
 . exact wpAny_pyIter_ascii ha ⟨s1.heap.objs.size,[s1.heap.objs.size],_,_,H1,Z,I1.kept (t':=s1.toks) fun b o e=>b7 _ e,ta,⟨_,d_ _ rfl,Z,Z⟩,fp,q⟩
theorem TU {k:Nat} {Q:VK} (Pv:Nat->List V->Hp->Prop) (hn:cs.length<=100000) (h0:Pv 0 [] (upd H acc (.lst [])))
  (hs:∀(i:Nat) (c:Nat) (out:List V) (H1:Hp),cs[i]?=some c->out.length=i->H1 acc=some (.lst out)->Pv i out H1->te (σ2.set k (some (.str (tx [c])))) H1 (wZ Pv i acc out))
  (hd:∀(out:List V) (H1:Hp),out.length=cs.length->H1 acc=some (.lst out)->Pv cs.length out H1->Q (.ref acc) H1):
  B_ (Vl cs) (sQ k) te acc σ2 H Q:=by
 refine ⟨fun i m σ' H'=>m=cs.length-i/\i<=cs.length/\(∀v,σ'.set k (some v)=σ2.set k (some v))/\∃out,out.length=i/\H' acc=some (.lst out)/\Pv i out H',⟨cs.length,by simp,gj _,fun _=>rfl,[],Z,ah,h0⟩,?_⟩
 rintro i m σ' H' ⟨rfl,hi,hσ,out,ho,ha,p⟩
 by_cases hlt:i<cs.length
 . refine .inr ⟨hlt,fun σ3=>∀v,σ3.set k (some v)=σ2.set k (some v),(wZ Pv i acc out),fun σ3 v H4 hS ⟨a,b⟩=>?_,fun x H1 y=>?_⟩
   . refine ⟨out,a,?_,cs.length-(i+1),by omega,Z,hlt,hS,out++[v],by rw [dg,ho];rfl,ah,b⟩
     have:sizeLine=16777216:=jQ
     omega
   . obtain ⟨e,c,hc,ex⟩:=y
     subst e ex
     refine ⟨fun v=>by rw [uN];exact hσ v,?_⟩
     have q2:=hs i c out _ hc ho ha p
     rw [<-hσ] at q2
     exact q2
 . have e:i=cs.length:=by omega
   subst e
   exact .inl ⟨aK _,hd out H' ho ha p⟩
end
def Cg (signs:Str) (c:Nat):Bool:=!(Builtin.Str.occurrences signs (tx [c]) 0 signs.length 1).isEmpty
def kJ (c:Int) (n:Nat):List Nat:=(List.range n).map fun i=>97+((c / 26 ^ i) % 26).toNat
theorem w6 (c:Int) (n:Nat):(kJ c n).length=n:=by unfold kJ;rw [aE,Oz]
theorem TV (c:Int) (n:Nat):kJ c (n+1)=kJ c n++[97+((c / 26 ^ n) % 26).toNat] :=by
 unfold kJ
 rw [List.range_succ,bM]
 rfl
theorem Q9 {k:Int} (h0:0<=k) (h1:k<26):qV (("abcdefghijklmnopqrstuvwxyz":Str).cps.toList) k=some (97+k.toNat):=by
 have h:∀n:Nat,n<26->("abcdefghijklmnopqrstuvwxyz":Str).cps.toList[n]?=some (97+n):=by decide +kernel
 have e:k=((k.toNat:Nat):Int):=by omega
 have:=ay (h k.toNat (by omega))
 rw [<-e] at this
 exact this
structure DR (vs:List V) (H:Hp) (Q:VK) (E:XK):Prop where
 ex:∃(c:Int) (n:Nat),vs=[.int c, .int (n:Int)]/\0<=c/\n<=1000/\Q (.str (tx (kJ c n))) H
theorem IG {Q:VK} {E:XK} {c ni:Int} {n:Nat} (e:ni=(n:Int)) (hc:0<=c) (hn:n<=1000) (q:Q (.str (tx (kJ c n))) H):DR [.int c, .int ni] H Q E:=by
 subst e
 exact ⟨c,n,Z,hc,hn,q⟩
inductive Wz (vs:List V) (H:Hp) (Q:VK) (E:XK):Prop
 | mk (cs:List Nat) (signs:Str) (_:vs=[.str (tx cs), .str signs]) (_:cs.length<=100000) (_:∀H',aP H H'->Q (.bl (cs.all (Cg signs))) H')
def AM:Sp:=bx (Wz)
theorem O1 {H:Hp} {Q:VK} {E:XK} {cs:List Nat} {signs:Str} (hl:cs.length<=100000) (q:∀H',aP H H'->Q (.bl (cs.all (Cg signs))) H'):AM [.str (tx cs), .str signs] H Q E:=⟨cs,signs,Z,hl,q⟩
def isName (cs:List Nat):Bool:=decide (1<=(cs.length:Int)) && decide ((cs.length:Int)<=8) && cs.all (Cg "abcdefghijklmnopqrstuvwxyz")
inductive WA (vs:List V) (H:Hp) (Q:VK) (E:XK):Prop
 | mk (cs:List Nat) (_:vs=[.str (tx cs)]) (_:cs.length<=100000) (_:∀H',aP H H'->Q (.bl (isName cs)) H')
def w_:Sp:=bx (WA)
theorem Ci {Q:VK} {E:XK} (hl:cs.length<=100000) (q:∀H',aP H H'->Q (.bl (isName cs)) H'):w_ [.str (tx cs)] H Q E:=⟨cs,Z,hl,q⟩
theorem Cj {p q:Prop} (h:if true=true then p else q):p:=by rwa [aB rfl] at h
theorem Ck {p q:Prop} (h:if false=true then p else q):q:=by rwa [aA fM] at h
variable {cond:Expr}
section
variable {prog:Program} {w:World} {A:Around} {R:Result->Shared->Prop} {s:Shared}
theorem FZ {target:Expr} {it acc:Value} (J:Nat->Shared->Prop)
  (turn:∀n s,J n s->wpAny (model prog w) A (pyNext it) (fun r s₁=>match r with
    | none=>R (.ok .next) s₁
    | some v=>wpAny (model prog w) A (letOwnedTupleGo target it v) (fun _ s₂=>wpAny (model prog w) A (assign target env v) (fun _ s₃=>wpAny (model prog w) A (isTrue cond env (eval cond env)) (fun ok Y9=>if ok=true then
       wpAny (model prog w) A (eval elt env) (fun x s₄=>wpAny (model prog w) A (call (.builtin "list.append") [acc,x]) (fun _ s₅=>∃m,m<n/\J m s₅) (fun _ _=>False) s₄) (fun _ _=>False) Y9
       else ∃m,m<n/\J m Y9) (fun _ _=>False) s₃) (fun _ _=>False) s₂) (fun _ _=>False) s₁) (fun _ _=>False) s)
  (n:Nat) (h:J n s):codeAny (model prog w) A (.compLoop (.ListComp elt [⟨target,iter,[cond],0⟩] scope pos) 0 it acc env) R s:=by
 refine codeAny_loop rfl J (fun n s hI=>?_) n h
 show wpAny _ A ((compTurn (.ListComp elt [⟨target,iter,[cond],0⟩] scope pos) 0 it acc env).onRaise (fun x=>do noteFrame x env;theTreesLotGoes x)) _ _ s
 refine wpAny_noted ?_
 rw [compTurn_list]
 refine au (BF (au (jd (turn n s hI) (fun r s₁ h₁=>?_) fun _ _ h'=>h'.elim)))
 cases r with
 | none=>exact aL h₁
 | some v=>
   refine au (jd h₁ (fun _ s₂ h₂=>au (jd h₂ (fun _ s₃ h₃=>?_) fun _ _ h'=>h'.elim)) fun _ _ h'=>h'.elim)
   refine au (wpAny_tests_one (jd h₃ (fun ok Y9 h₃'=>?_) fun _ _ h'=>h'.elim))
   cases ok with
   | false=>exact aL ⟨Z,Ck h₃'⟩
   | true=>exact au (au (jd (Cj h₃') (fun x s₄ h₄=>au (jd h₄ (fun _ s₅ h₅=>aL (aL ⟨Z,h₅⟩)) fun _ _ h'=>h'.elim)) fun _ _ h'=>h'.elim))
end
variable {tc:TT} {wi:TI}
section
variable {X:Cx}
def Cm (J:It) (g:TG) (tc:TT) (te:TE) (acc:Addr) (σ₀:St) (H:Hp) (Q:VK):Prop:=∃W:Nat->Nat->St->Hp->Prop,
 (∃m,W 0 m σ₀ (upd H acc (.lst [])))/\∀i m σ2 H2,W i m σ2 H2->
   (J.stop i H2/\Q (.ref acc) H2)\/(J.go i H2/\∃(S:St->Prop) (N:V->Hp->Prop) (N0:Hp->Prop),(∀σ3 v H4,S σ3->N v H4->∃xs,H4 acc=some (.lst xs)/\xs.length<sizeLine/\∃m',m'<m/\W (i+1) m' σ3 (upd H4 acc (.lst (xs++[v]))))/\
     (∀σ3 H4,S σ3->N0 H4->∃m',m'<m/\W (i+1) m' σ3 H4)/\∀x H',J.BN i H2 x H'->g x σ2 H' fun σ3 H3=>S σ3/\tc σ3 H3 fun b H4=>if b=true then te σ3 H4 N else N0 H4)
def WB (ix:List (Option Nat)) (g:TG) (tc:TT) (te:TE) (σ:St) (Q:VK):It->Hp->Prop:=fun J H1=>∀acc,H1 acc=none->Cm J g tc te acc (pick ix σ) H1 Q
def Q_ (wi:TI) (ix:List (Option Nat)) (g:TG) (tc:TT) (te:TE):TE:=fun σ H Q=>wi σ H (WB ix g tc te σ Q)
theorem Lx {ix:List (Option Nat)} {g:TG} {Q:VK}
  {RR:Value->Addr->Result->Shared->Prop} (hc:X.calm=true) (hg:∀cl s₂ H₂ fp,PG (dJ X N2 scope cl s₂ H₂ fp) tg g) (he:∀cl s₂ H₂ fp,PE (dJ X N2 scope cl s₂ H₂ fp) elt te)
  (ht:∀cl s₂ H₂ fp,PT (dJ X N2 scope cl s₂ H₂ fp) cond tc) (hk:scope.kind = .function) (hn:qX X.N X.env.scope.names scope.names N2 ix=true)
  (IA:∀y c,(y,c)∈cl->X.env.cells.lookup y=some c) (DP:∀y,(y,NameKind.free)∈scope.names->∃c,(y,c)∈cl)
  {it:Addr} {fp:List Addr} {tn:Nat->Heap->Prop} {J:It} (I:Inv X pins σ H s) (T:Turn X.prog X.w X.K tg J fp it tn) (st:tn 0 s.heap) (f:∀b∈fp,oE X pins H b)
  (h:∀acc,H acc=none->Cm J g tc te acc (ix.map fun o=>o.bind fun j=>(σ[j]?).join) H Q)
  (hR:∀acc C H' s' m,Inv X pins σ H' s'->s'.heap.Ns C m->H' C=none->C≠X.env.locals->X.s₀.heap.objs.size<=C->(∀x c,X.env.cells.lookup x=some c->c≠C)->(∀p∈X.pn++pins,p.1≠C)->Q (.ref acc) H'->RR (.ref acc) C (.ok .next) s'):
  wpAny (model X.prog X.w) X.A (newList []) (fun acc s₃=>wpAny (model X.prog X.w) X.A (newFunctionEnv scope X.env.globals cl [] X.env.qual none .none (some X.env)) (fun cenv s₄=>
   codeAny (model X.prog X.w) X.A (.compStart (.ListComp elt [⟨tg,iter,[cond],0⟩] scope pos) 0 (.ref it) acc { cenv with scope:=relabel scope X.env }) (RR acc cenv.locals) s₄) E s₃) E s:=by
 obtain ⟨k1,k2,k3,k4,k5⟩:=oH hn
 refine pS ?_
 have I3:Inv X pins σ (upd H s.heap.objs.size (.lst [])) { s with heap:=s.heap.push { cls:= .type "list",data:= .seq ([] :List Value).toArray } }:=
  I.laid (a:=s.heap.objs.size) (o:= .lst []) (t':=s.toks) (fun _ _ q=>b7 _ q) (aK _) ⟨gj _,[],_, .nil,d_ _ rfl⟩
 obtain ⟨W,⟨m0,w0⟩,turn⟩:=h s.heap.objs.size I.fresh
 have fo:∀b∈fp,b<s.heap.objs.size:=fun b hb=>by
  obtain ⟨o,e,_⟩:=T.obj 0 _ st b hb
  exact bQ e
 have st3:tn 0 (s.heap.push { cls:= .type "list",data:= .seq ([] :List Value).toArray }):=T.keep _ _ _ st fun b _ o e=>b7 _ e
 have f3:∀b∈fp,oE X pins (upd H s.heap.objs.size (.lst [])) b:=fun b hb=>⟨by rw [az (fq (fo b hb))];exact (f b hb).1,(f b hb).2⟩
 have Q2:∀b∈fp,b<(s.heap.push { cls:= .type "list",data:= .seq ([] :List Value).toArray }).objs.size:=fun b hb=>by rw [lH];exact Ox (fo b hb)
 generalize YX:({ s with heap:=s.heap.push { cls:= .type "list",data:= .seq ([] :List Value).toArray } }:Shared)=s3 at *
 have YY:s3.heap=s.heap.push { cls:= .type "list",data:= .seq ([] :List Value).toArray }:=by rw [<-YX]
 rw [<-YY] at st3 Q2
 generalize s.heap.objs.size=acc at *
 generalize eH3:upd H acc (.lst [])=H3 at *
 have IY:=B9 (N2:=N2) (scope:=scope) (cl:=cl) (fp:=fp) (σ2:=ix.map fun o=>o.bind fun j=>(σ[j]?).join) I3 hk IA DP f3 Q2 (by rw [aE];exact k1) (fun i x v e1 e2=>by
  rw [cg] at e2
  cases ei:ix[i]? with
  | none=>rw [ei] at e2;cases e2
  | some o=>
    rw [ei] at e2
    cases o with
    | none=>cases e2
    | some j=>
      obtain ⟨a1,a2,a3⟩:=k2 i x j e1 ei
      refine ⟨a2,a3,j,a1,?_⟩
      have e3:(σ[j]?).join=some v:=fH e2
      cases ej:σ[j]? with
      | none=>rw [ej] at e3;cases e3
      | some z=>rw [ej] at e3;exact jx some e3) k5
 have ne:wpAny (model X.prog X.w) X.A (newFunctionEnv scope X.env.globals cl [] X.env.qual none .none (some X.env)) (fun cenv s₄=>
   cenv={ scope:=scope,locals:=s3.heap.objs.size,globals:=X.env.globals,cells:=cellsFrom (s3.heap.objs.size+1) scope.names cl,qual:=X.env.qual,func:=none,code:=X.env.code,frame:=X.env.frame,builtins:=X.env.builtins }/\
   s₄={ s3 with heap:=pushCells (s3.heap.push { cls:= .type "dict",data:= .dict #[] }) scope.names }) E s3:=by
  simp only [newFunctionEnv,Option.isSome_some,if_true]
  refine au (wpAny_alloc ?_)
  refine au (wpAny_layCells _ (fun name kind cells=>by cases hkc:kind==NameKind.cell <;> simp [hkc]) _ _ _ _ ?_)
  rw [BD]
  refine au (aL (aL ⟨?_,Z⟩))
  rw [show ({ s3 with heap:=s3.heap.push { cls:= .type "dict",data:= .dict #[] } }:Shared).heap.objs.size=s3.heap.objs.size+1 from lH ..]
 refine bf ne fun cenv s4 ⟨e1,e2⟩=>?_
 subst e1 e2
 have Q3:tn 0 (pushCells (s3.heap.push { cls:= .type "dict",data:= .dict #[] }) scope.names):=T.keep _ _ _ st3 fun b _ o e=>Hw _ _ b o (b7 _ e)
 have Cb:s3.heap.objs.size≠X.env.locals:=zN I3.lt
 have tR:∀{H':Hp},(∀b∈fp,H' b=none)->∀b∈fp,oE (dJ X N2 scope cl s3 H3 fp) [] H' b:=fun {H'} hn b hb=>
  ⟨hn b hb,(IY.ok.MN b hb).1,IY.ok.DO b hb, .inl hb,(IY.ok.MN b hb).2,fun p hp=>nomatch hp⟩
 have loop:codeAny (model X.prog X.w) X.A (.compLoop (.ListComp elt [⟨tg,iter,[cond],0⟩] scope pos) 0 (.ref it) (.ref acc) (dJ X N2 scope cl s3 H3 fp).env) (RR (.ref acc) s3.heap.objs.size)
   { s3 with heap:=pushCells (s3.heap.push { cls:= .type "dict",data:= .dict #[] }) scope.names }:=by
  refine FZ (fun n s'=>∃i σ' H',Inv (dJ X N2 scope cl s3 H3 fp) [] σ' H' s'/\tn i s'.heap/\(∀b∈fp,H' b=none)/\W i n σ' H') ?_ m0 ⟨0,_,H3,IY,Q3,fun b hb=>(f3 b hb).1,w0⟩
  rintro n s5 ⟨i,σ5,H5,I5,Cc,IB,w5⟩
  rcases turn i n σ5 H5 w5 with ⟨stop,qn⟩|⟨go,S,N,N0,YZ,hS0,step⟩
  . refine bf (T.done (dJ X N2 scope cl s3 H3 fp) rfl rfl rfl hc i [] s5 σ5 H5 (fun _ _=>False) I5 (tR IB) Cc stop) fun r s6 ⟨hr,I6⟩=>?_
    subst hr
    obtain ⟨m6,Y0,_⟩:=id I6.loc
    have IX:Inv X pins σ H5 s6:=I3.OE (ch:=fp) I6.os I6.base I6.hok I6.bare fun b hb=>⟨(f3 b hb).2.2.2.1,(f3 b hb).2.1,(f3 b hb).2.2.2.2.1,(f3 b hb).2.2.2.2.2⟩
    refine hR acc s3.heap.objs.size H5 s6 m6 IX Y0 I6.free Cb I3.sz (fun x c e z=>?_) (fun p hp z=>?_) qn
    . obtain ⟨v,q⟩:=I3.cell x c e
      exact absurd q.lt (by rw [z];exact jw _)
    . exact absurd (bQ (I3.pin p hp).1) (by rw [z];exact jw _)
  . refine bf (T.item (dJ X N2 scope cl s3 H3 fp) rfl rfl rfl hc i [] s5 σ5 H5 (fun _ _=>False) I5 (tR IB) Cc go) fun r s6 ⟨u,hr,h6⟩=>?_
    subst hr
    refine bf h6 fun _ s7 ⟨x,H7,I7,r7,y7,Cd,Q5⟩=>?_
    have Y3:=I7.pinned (tR Q5) (T.obj _ _ Cd)
    refine bf (hg cl s3 H3 fp _ s7 σ5 H7 x u _ Y3 r7 (step x H7 y7)) fun _ s8 ⟨σ8,H8,I8,Vj,q8⟩=>?_
    refine bf (ht cl s3 H3 fp _ s8 σ8 H8 _ I8 q8) fun ok s9' ⟨H9',Vm,q9'⟩=>?_
    cases ok with
    | false=>
      obtain ⟨m',hm,w9⟩:=hS0 σ8 H9' Vj (Ck q9')
      refine ite_ff ⟨m',hm,i+1,σ8,_,Vm.pV,T.keep _ _ _ Cd fun b hb o e=>(Vm.pin (b,o) (jn _ (jn _ (je hb e)))).1,fun b hb=>?_,w9⟩
      obtain ⟨o,e,d⟩:=T.obj _ _ Cd b hb
      exact (Vm.pin (b,o) (jn _ (jn _ (je hb e)))).2.1
    | true=>
      refine ite_tt ?_
      refine bf (he cl s3 H3 fp _ s9' σ8 H9' _ Vm (Cj q9')) fun y s9 ⟨v,H9,I9,r9,q9⟩=>?_
      obtain ⟨xs,hxs,Y4,m',hm,w9⟩:=YZ σ8 v H9 Vj q9
      refine bf (dU _ s9 σ8 H9 (.ref acc) [v] (.ref acc) [y] (fun z Aq=>z = .bU/\Aq=upd H9 acc (.lst (xs++[v]))) I9 rfl (.cons r9 .nil) ⟨acc,xs,v,Z,Z,hxs,Y4,Z,Z⟩) fun z Vk ⟨zv,Aq,IC,r10,ez,eH⟩=>?_
      subst eH
      refine ⟨m',hm,i+1,σ8,_,IC.pV,T.keep _ _ _ Cd fun b hb o e=>(IC.pin (b,o) (jn _ (jn _ (je hb e)))).1,fun b hb=>?_,w9⟩
      obtain ⟨o,e,d⟩:=T.obj _ _ Cd b hb
      exact (IC.pin (b,o) (jn _ (jn _ (je hb e)))).2.1
 exact codeAny_compStart_list loop (T.self _ 0 _ _ _ Q3 loop)
theorem TY (N2:List Str) (ix:List (Option Nat)) {g:TG} (hc:X.calm=true) (hi:PI X tg iter wi)
  (hg:∀cl s₂ H₂ fp,PG (dJ X N2 scope cl s₂ H₂ fp) tg g) (he:∀cl s₂ H₂ fp,PE (dJ X N2 scope cl s₂ H₂ fp) elt te)
  (ht:∀cl s₂ H₂ fp,PT (dJ X N2 scope cl s₂ H₂ fp) cond tc) (hk:scope.kind = .function) (hn:qX X.N X.env.scope.names scope.names N2 ix=true) (hs:∀x,foldedSetIterable iter X.env x=pure x:=by intro _;rfl):
  PE X (.ListComp elt [⟨tg,iter,[cond],0⟩] scope pos) (Q_ wi ix g tc te):=by
 intro pins s σ H Q I h
 obtain ⟨k1,k2,k3,k4,k5⟩:=oH hn
 obtain ⟨cl,Ra,c1,c2⟩:=wY (scope:=scope) (env:=X.env) fun y hy e=>I.ok.has y.1 (k3 y hy e)
 rw [eval_ListComp]
 refine wpAny_comprehension_free (use:=none) rfl hs Ra hk k4 (bf (hi pins s σ H _ I h) fun v s1 h1=>bf h1 fun itv s2 h2=>?_)
 obtain ⟨it,fp,tn,J,H2,e,I2,T,st2,f2,h2⟩:=h2
 subst e
 refine Lx (RR:=fun acc C=>compPost (model X.prog X.w) X.A X.xe none (EP X pins σ Q) acc C) (Q:=Q) hc hg he ht hk hn (fun y c m=>(c1 y c m).1) c2 I2 T st2 f2 h2 ?_
 intro acc C H' s' m I' ns Cb hL hsz vW Co q
 exact ⟨m,ns,fun h' hs'=>⟨.ref acc,H',I'.turned (it:=C) (t':=s'.toks) (fun b o hb e=>(hs'.2 b hb).trans e) Cb hL (.inr hsz) vW Co,Z,q⟩⟩
end
theorem tS {α:Type} [DecidableEq α] :∀{l m:List α},l.Nodup->(∀x∈l,x∈m)->l.length<=m.length
 | [],_,_,_=>gj _
 | x::r,m,h,hs=>by
   have hn:=gI.mp h
   have hx:=hs x cL
   have:=tS (l:=r) (m:=m.erase x) hn.2 fun y hy=>by
    have hne:y≠x:=fun e=>hn.1 (e▸hy)
    exact (List.mem_erase_of_ne hne).mpr (hs y (cC _ hy))
   rw [List.length_erase_of_mem hx] at this
   have hp:0<m.length:=List.length_pos_of_mem hx
   rw [jP]
   omega
variable {i:Nat}
theorem Rb (c:Int) {n:Nat} (h:i<n):(kJ c n)[i]?=some (97+((c / 26 ^ i) % 26).toNat):=by
 unfold kJ
 rw [cg,List.getElem?_range h]
 rfl
theorem WC {c c':Int} {n d:Nat} (h:d<n) (e:kJ c n=kJ c' n):(c / 26 ^ d) % 26=(c' / 26 ^ d) % 26:=by
 have h1:=Rb c h
 rw [e,Rb c' h] at h1
 have h2:=fH h1
 have a0:0<=(c / 26 ^ d) % 26:=n_ _ (by decide)
 have b0:0<=(c' / 26 ^ d) % 26:=n_ _ (by decide)
 omega
structure oJ (x:List Nat):Prop where
 lo:1<=x.length
 hi:x.length<=8
 WD:∀c∈x,97<=c/\c<123
theorem Y_ (c:Int) {n:Nat} (h1:1<=n) (h2:n<=8):oJ (kJ c n):=by
 refine ⟨by rw [w6];exact h1,by rw [w6];exact h2,fun x hx=>?_⟩
 obtain ⟨i,_,rfl⟩:=bJ.mp hx
 have a0:0<=(c / 26 ^ i) % 26:=n_ _ (by decide)
 have a1:(c / 26 ^ i) % 26<26:=yp _ (by decide)
 omega
def qY (nss:List (List Nat)):List V:=nss.map fun x=>V.str (tx x)
theorem TZ (nss:List (List Nat)):(qY nss).all qD=true:=by
 unfold qY
 rw [List.all_map,tH]
 exact fun _ _=>rfl
theorem Rc {a b:List Nat} (h:tx a=tx b):a=b:=by
 have:a.toArray=b.toArray:=by injection h
 simpa using this
theorem Nd (x:List Nat) (nss:List (List Nat)):EV (.str (tx x)) (qY nss)=decide (x∈nss):=by
 unfold EV qY
 rw [List.any_map,zK,List.any_eq_true,decide_eq_true_eq]
 constructor
 . rintro ⟨y,hy,e⟩
   have e2:yc (.str (tx y)) (.str (tx x))=true:=e
   have e3:tx y=tx x:=by
    unfold yc at e2
    simpa using e2
   rw [<-Rc e3]
   exact hy
 . intro h
   refine ⟨x,h,?_⟩
   show yc (.str (tx x)) (.str (tx x))=true
   unfold yc
   simp
open PySem.NumText
section
variable {X:Cx}
end
def O2 (lo st:Int) (n:Nat):It:=⟨fun i _=>i<n,fun i H x H'=>H'=H/\x = .int (lo+i*st),fun i _=>n<=i⟩
variable {P:Program}
theorem Ly {w:World} (it:Addr) (lo st:Int) (n:Nat):Turn P w K tg (O2 lo st n) [it] it (fun i h=>IsRangeIter h it (lo+(i:Nat)*st) ((n:Int)-(i:Nat)) st) where
 mem:=by simp
 obj:=fun i h st b hb=>by
  have e:b=it:=by simpa using hb
  subst e
  exact ⟨_,st,fun v z=>by
   have z':Data.fields _=Data.cell v:=z
   cases z'⟩
 keep:=fun i h h' st k=>k it (by simp) _ st
 item:=by
  intro X hP hw hK hc i pins s σ H E I hf st' hg
  subst hP hw hK
  obtain ⟨f0,f1,f2,f3,f4,f5⟩:=hf it (by simp)
  have W:=Walks.range (prog:=X.prog) (w:=X.w) (I.ok.hd hc) it lo st n
  refine W.item i s _ _ hg st' fun v h' tk hv st2 kk=>?_
  obtain ⟨t,rfl⟩:=hv
  have I1:Inv X pins σ H { s with heap:=h',toks:=tk }:=I.turned (fun b o hb e=>kk b o (by simpa using hb) e) f0 f1 f3 f4 f5
  exact ⟨_,Z,wV (s:={ s with heap:=h',toks:=tk }) (n:="range_iterator") st2 rfl rfl (by decide) ⟨.int (lo+i*st),H,I1,⟨t,Z⟩,⟨Z,Z⟩,st2,fun b hb=>(hf b hb).1⟩⟩
 done:=by
  intro X hP hw hK hc i pins s σ H E I hf st' hg
  subst hP hw hK
  obtain ⟨f0,f1,f2,f3,f4,f5⟩:=hf it (by simp)
  exact wpAny_pyNext_range_end (I.ok.hd hc) st' (by have:n<=i:=hg;omega) fun h' eb=>⟨Z,I.turned (t':=s.toks) (fun b o hb e=>eb b o hb e) f0 f1 f3 f4 f5⟩
 self:=fun _ _ _ _ _ st h=>wpAny_pyIter_rangeiter st h
variable {tb:TS} {D:Ends}
section
variable {X:Cx} {tg:Expr}
def pX (lo hi st:Int):Nat:=(Builtin.Range.rangeSize lo hi st).toNat
inductive Za (R:It->Hp->Prop) (vs:List V) (H1:Hp):Prop
 | mk  (i j k:Int) (_:vs=[.int i, .int j, .int k]) (_:(0<=i/\i<=1000000/\0<=j/\j<=1000000/\0<k/\k<=1000000)) (_:R (O2 i k (pX i j k)) H1)
def abQ (ta:TA):TI:=fun σ H R=>ta σ H (Za R)
theorem Lz {a b c:Int} (h1:0<=a) (h2:a<=1000000) (h3:0<=b) (h4:b<=1000000) (h5:0<c) (h6:c<=1000000):Builtin.Range.small a b c=true/\0<=Builtin.Range.rangeSize a b c:=by
 have hr:0<=Builtin.Range.rangeSize a b c/\Builtin.Range.rangeSize a b c<=1000001:=by
  unfold Builtin.Range.rangeSize
  rw [aB (by omega)]
  split
  . have e0:0<=(b-a-1) / c:=Hu (by omega) (by omega)
    have e1:(b-a-1) / c<=b-a-1:=Int.ediv_le_self _ (by omega)
    omega
  . omega
 refine ⟨?_,hr.1⟩
 unfold Builtin.Range.small
 simp only [Builtin.Range.rangeFitsLong,AF,Bool.or_eq_true,decide_eq_true_eq,mK,show c>0 from h5,if_true]
 omega
theorem O3 {lo st:Int} {n:Nat} {g:TG} (Pv:Nat->St->Hp->Prop) (h0:Pv 0 σ H)
  (hs:∀i σ H,i<n->Pv i σ H->g (.int (lo+i*st)) σ H (tb (D.lp (Pv (i+1))))) (hd:∀σ H,Pv n σ H->D.nx σ H):
  zS g tb D σ (O2 lo st n) H:=by
 refine ⟨fun i m σ H=>m=n-i/\i<=n/\Pv i σ H,⟨n,by simp,gj _,h0⟩,?_⟩
 rintro i m σ H ⟨rfl,hi,p⟩
 by_cases hlt:i<n
 . refine .inr ⟨hlt,fun σ' H'=>Pv (i+1) σ' H',fun σ' H' q=>⟨n-(i+1),by omega,Z,hlt,q⟩,?_⟩
   rintro x H' ⟨rfl,rfl⟩
   exact hs i σ _ hlt p
 . have e:i=n:=by omega
   subst e
   exact .inl ⟨aK _,hd σ H p⟩
end
theorem WE (signs:Str) (c:Nat):Cg signs c=decide (c∈signs.cps.toList):=PySem.StrLaws.found_one signs c
open Builtin Builtin.Str
section
variable {X:Cx}
end
theorem Nf (c:Int) (j d:Nat):(c+(j:Int)*26 ^ d) / 26 ^ d=c / 26 ^ d+(j:Int):=by
 have hp:(26:Int) ^ d≠0:=Int.ne_of_gt (Int.pow_pos (by decide))
 rw [Int.add_mul_ediv_right _ _ hp]
variable {nss:List (List Nat)} {t:Nat}
theorem Rg {c:Int} {n d:Nat} (h2:d<n) (ht:t<=26) (h:∀j:Nat,j<t->kJ (c+(j:Int)*26 ^ d) n∈nss):t<=nss.length:=by
 have hn:((List.range t).map fun j=>kJ (c+((j:Nat):Int)*26 ^ d) n).Nodup:=by
  have:(List.range t).Pairwise (fun a b=>a<b):=List.pairwise_lt_range
  refine List.Pairwise.map _ ?_ (List.Pairwise.and_mem.mp this)
  rintro a b ⟨ha,hb,hab⟩ e
  have ha':=qy.mp ha
  have hb':=qy.mp hb
  have:=WC h2 e
  rw [Nf,Nf] at this
  omega
 have:=tS hn fun x hx=>by
  obtain ⟨j,hj,rfl⟩:=bJ.mp hx
  exact h j (qy.mp hj)
 rw [aE,Oz] at this
 exact this
inductive Zb (K:Fg) (vs:List V) (H:Hp) (Q:VK) (E:XK):Prop
 | mk (a:Addr) (ms:List Int) (k:Int) (many:Nat) (_:vs=[.ref a, .int k, .int (many:Int)]) (_:aH K H a (ms.map V.int)) (_:ms.length<=63) (_:0<=k) (_:many<=25) (_:∀(z:Addr) (nss:List (List Nat)) (H':Hp),aP H H'->H' z=some (.lst (qY nss))->H z=none->nss.length=many->nss.Nodup->(∀x∈nss,oJ x)->Q (.ref z) H')
def DS (K:Fg):Sp:=bx (Zb K)
theorem E1 {Q:VK} {E:XK} {ms:List Int} {k mi:Int} {many:Nat} (hmi:mi=(many:Int)) (hS:aH K H a (ms.map V.int)) (h63:ms.length<=63) (h1:0<=k) (h2:many<=25)
  (h:∀(z:Addr) (nss:List (List Nat)) (H':Hp),aP H H'->H' z=some (.lst (qY nss))->H z=none->nss.length=many->nss.Nodup->(∀x∈nss,oJ x)->Q (.ref z) H'):DS K [.ref a, .int k, .int mi] H Q E:=by
 subst hmi
 exact ⟨a,ms,k,many,Z,hS,h63,h1,h2,h⟩
theorem yC {a:List (Key×V)} {b:List (Key×Value)} (r:KV a b):∀{j:Nat} {p:Key×V},a[j]?=some p->∃q,b[j]?=some q/\p.1=q.1/\RelV p.2 q.2:=by
 induction r with
 | nil=>intro j p z;simp at z
 | cons r1 _ ih=>
   intro j p z
   cases j with
   | zero=>simp at z;subst z;exact ⟨_,Z,r1⟩
   | succ j=>simp at z;obtain ⟨q,a1,a2⟩:=ih z;exact ⟨q,by simpa using a1,a2⟩
abbrev nP (H:Hp) (d:Addr) (o:Obj) (kvs:List (Key×V)):Prop:=H d=some (.eX o (.dK kvs))
section
variable {X:Cx} {pins:AO} {σ σ':St} {H H':Hp} {s s':Shared} {d:Addr} {kvs:List (Key×V)} {o:Obj}
theorem Inv.freeze (I:Inv X pins σ H s) (e:H d=some (.dK kvs)) (ho:s.heap.get? d=some o):Inv X pins σ (upd H d (.eX o (.dK kvs))) s:=by
 have nd:∀{b:Addr},H b=none->b≠d:=fun h z=>by rw [z,e] at h;cases h
 have dn:∀{b:Addr},H b=none->upd H d (.eX o (.dK kvs)) b=none:=fun h=>by rw [az (nd h)];exact h
 have un:∀{b:Addr} {u:HO},H b=some u->(∀k,u ≠ .dK k)->b≠d:=fun h k z=>by rw [z,e] at h;cases h;exact k _ rfl
 refine ⟨I.ok,I.os,I.bare,⟨I.base.keep,I.base.slot,fun b ob q n x=>dn (I.base.free b ob q n x),I.base.there,fun b xs q=>?_,fun b ob u q=>?_,fun b ps q=>?_⟩,I.loc,I.cell,dn I.free,fun x c q=>dn (I.mL x c q),fun p hp=>?_,fun b ob q=>?_,I.len⟩
 . have:=I.base.tups b xs q
   rw [az (un this fun k z=>by cases z)];exact this
 . have:=I.base.pU b ob u q
   rw [az (un this fun k z=>by cases z)];exact this
 . obtain ⟨more,this⟩:=I.base.tK b ps q
   exact ⟨more,by rw [az (un this fun k z=>by cases z)];exact this⟩
 . obtain ⟨h1,h2,h3⟩:=I.pin p hp
   exact ⟨h1,dn h2,h3⟩
 . by_cases hb:b=d
   . subst hb
     rw [ah] at q;cases q
     have:=I.hok b _ e
     exact ⟨ho,this⟩
   . rw [az hb] at q
     refine (I.hok b ob q).stay (fun c u _ z=>z) (fun c z=>?_) fun c xs z=>?_
     . rw [az (un z fun k z=>by cases z)];exact z
     . rw [az (un z fun k z=>by cases z)];exact z
theorem Inv.AN (I:Inv X pins σ H s) (e:nP H d o kvs) (h0:∀o u,X.H₀ d≠some (.eX o u)):Inv X pins σ (upd H d (.dK kvs)) s:=by
 have nd:∀{b:Addr},H b=none->b≠d:=fun h z=>by rw [z] at h;exact absurd (h.symm.trans e) (by simp)
 have dn:∀{b:Addr},H b=none->upd H d (.dK kvs) b=none:=fun h=>by rw [az (nd h)];exact h
 have un:∀{b:Addr} {u:HO},H b=some u->(∀o k,u ≠ .eX o k)->b≠d:=fun h k z=>by rw [z] at h;have:=h.symm.trans e;cases this;exact k _ _ rfl
 refine ⟨I.ok,I.os,I.bare,⟨I.base.keep,I.base.slot,fun b ob q n x=>dn (I.base.free b ob q n x),I.base.there,fun b xs q=>?_,fun b ob u q=>?_,fun b ps q=>?_⟩,I.loc,I.cell,dn I.free,fun x c q=>dn (I.mL x c q),fun p hp=>?_,fun b ob q=>?_,I.len⟩
 . have:=I.base.tups b xs q
   rw [az (un this fun _ k z=>by cases z)];exact this
 . have:=I.base.pU b ob u q
   rw [az (fun (z:b=d)=>h0 ob u (by rw [<-z];exact q))];exact this
 . obtain ⟨more,this⟩:=I.base.tK b ps q
   exact ⟨more,by rw [az (un this fun _ k z=>by cases z)];exact this⟩
 . obtain ⟨h1,h2,h3⟩:=I.pin p hp
   exact ⟨h1,dn h2,h3⟩
 . by_cases hb:b=d
   . subst hb
     rw [ah] at q;cases q
     exact (I.hok b _ e).2
   . rw [az hb] at q
     refine (I.hok b ob q).stay (fun c u _ z=>z) (fun c z=>?_) fun c xs z=>?_
     . rw [az (un z fun _ k z=>by cases z)];exact z
     . rw [az (un z fun _ k z=>by cases z)];exact z
theorem Inv.Rh (I:Inv X pins σ H s) (e:H d=some (.dK kvs)):∀o u,X.H₀ d≠some (.eX o u):=fun o u z=>by
 have:=I.base.pU d o u z
 rw [e] at this;cases this
theorem Inv.qE (I:Inv X pins σ H s) (e:nP H d o kvs):s.heap.get? d=some o/\kvs.length<=sizeLine/\(d==sysModules)=false/\∃vs ep,KV kvs vs/\s.heap.DictAt (cM X.prog X.w) d vs ep:=by
 obtain ⟨ho,hz,hs,vs,r,dd⟩:=(show dI X.prog X.w H s.heap d (.eX o (.dK kvs)) from I.hok d _ e)
 obtain ⟨ep,da⟩:=dd.dictAt
 exact ⟨ho,hz,hs,vs,ep,r,da⟩
end
def Ends.AN (D:Ends) (d:Addr) (o:Obj) (kvs:List (Key×V)):Ends where
 nx:=fun σ H=>nP H d o kvs/\D.nx σ (upd H d (.dK kvs))
 rt:=fun v H=>nP H d o kvs/\D.rt v (upd H d (.dK kvs))
 bk:=fun σ H=>nP H d o kvs/\D.bk σ (upd H d (.dK kvs))
 ct:=fun σ H=>nP H d o kvs/\D.ct σ (upd H d (.dK kvs))
inductive afe (t:TS) (D:Ends) (σ:St) (H:Hp):Prop
 | mk  (d kvs:_) (_:H d=some (.dK kvs)) (_:∀o,t (D.AN d o kvs) σ (upd H d (.eX o (.dK kvs))))
def afg (t:TE):TE:=fun σ H Q=>∃d kvs,H d=some (.dK kvs)/\∀o,t σ (upd H d (.eX o (.dK kvs))) fun v H'=>nP H' d o kvs/\Q v (upd H' d (.dK kvs))
def Itv (d:Addr) (o:Obj) (kvs:List (Key×V)):It:=⟨fun i H=>nP H d o kvs/\i<kvs.length,fun i H x H'=>H'=H/\∃p,kvs[i]?=some p/\x=p.2,fun i H=>nP H d o kvs/\kvs.length<=i⟩
def Iti (d:Addr) (o:Obj) (kvs:List (Key×V)):It:=⟨fun i H=>nP H d o kvs/\i<kvs.length,fun i H x H'=>∃a p,H a=none/\kvs[i]?=some p/\x = .ref a/\H'=upd H a (.tup [kV p.1,p.2]),fun i H=>nP H d o kvs/\kvs.length<=i⟩
variable {h:Heap} {es:Array DictEntry}
theorem zZ {w:World} {d:Addr} {vs:List (Key×Value)} {e1 e2:Nat} {o:Obj} (da:h.DictAt (cM P w) d vs e1) (ho:h.get? d=some o) (hd:o.data = .dict es e2):e1=e2:=by
 obtain ⟨o',es',h1,_,h2,_⟩:=da
 rw [ho] at h1;cases h1
 rw [hd] at h2;cases h2;rfl
theorem Ri {w:World} {k:Key} {v:Value} (h:(cM P w).is k v=true):RelV (kV k) v:=by
 rw [OD] at h
 rcases gh h with ⟨i,t,rfl,rfl⟩|⟨x,t,rfl,rfl⟩
 . exact ⟨t,Z⟩
 . exact ⟨t,Z⟩
variable {it:Addr} {kvs:List (Key×V)} {ep:Nat}
theorem Rj {w:World} {d:Addr} {o:Obj} (hd:o.data = .dict es ep):
  Turn P w K tg (Itv d o kvs) [it] it (fun i h=>h.IsValIter it d i kvs.length ep) where
 mem:=by simp
 obj:=fun i h st b hb=>by
  have e:b=it:=by simpa using hb
  subst e
  obtain ⟨o,e,c,d⟩:=st
  exact ⟨o,e,fun v z=>by rw [d] at z;cases z⟩
 keep:=fun i h h' st k=>st.at fun o e=>k it (by simp) o e
 item:=by
  intro X hP hw hK hc i pins s σ H E I hf st hg
  subst hP hw hK
  obtain ⟨hz,hlt⟩:=hg
  obtain ⟨ho,_,_,vs,vO,r,da⟩:=I.qE hz
  cases zZ da ho hd
  have hl:kvs.length=vs.length:=r.length
  obtain ⟨q,hq,_,rq⟩:=yC r (bu hlt)
  obtain ⟨qk,qv⟩:=q
  rw [hl] at st
  obtain ⟨f0,f1,f2,f3,f4,f5⟩:=hf it (by simp)
  refine wpAny_pyNext_values_item st da hq fun h' st' sb=>?_
  have I1:Inv X pins σ H { s with heap:=h' }:=I.turned (t':=s.toks) (fun b o hb e=>(sb.2 b hb).trans e) f0 f1 f3 f4 f5
  obtain ⟨oi,e,c,dd⟩:=id st'
  exact ⟨_,Z,wV (s:={ s with heap:=h' }) e c dd (by decide) ⟨kvs[i].2,H,I1,rq,⟨Z,kvs[i],bu hlt,Z⟩,by rw [hl];exact st',fun b hb=>(hf b hb).1⟩⟩
 done:=by
  intro X hP hw hK hc i pins s σ H E I hf st hg
  subst hP hw hK
  obtain ⟨hz,hle⟩:=hg
  obtain ⟨ho,_,_,vs,vO,r,da⟩:=I.qE hz
  cases zZ da ho hd
  have hl:kvs.length=vs.length:=r.length
  rw [hl] at st
  obtain ⟨f0,f1,f2,f3,f4,f5⟩:=hf it (by simp)
  exact wpAny_pyNext_values_end (I.ok.hd hc) st da (by rw [wI];omega) fun h' eb=>⟨Z,I.turned (t':=s.toks) (fun b o hb e=>eb b o hb e) f0 f1 f3 f4 f5⟩
 self:=fun _ _ _ _ _ st h=>wpAny_pyIter_valiter st h
variable {elts:List Expr}
theorem O4 {w:World} {kk:Nat} {d:Addr} {o:Obj} (hd:o.data = .dict es ep):
  Turn P w K (.Tuple elts kk pos) (Iti d o kvs) [it] it (fun i h=>∃ok ov,IsItemIter h it d i kvs.length ep ok ov) where
 mem:=by simp
 obj:=fun i h st b hb=>by
  have e:b=it:=by simpa using hb
  subst e
  obtain ⟨ok,ov,e⟩:=st
  exact ⟨_,e,fun v z=>by cases z⟩
 keep:=fun i h h' ⟨ok,ov,st⟩ k=>⟨ok,ov,k it (by simp) _ st⟩
 item:=by
  intro X hP hw hK hc i pins s σ H E I hf st hg
  subst hP hw hK
  obtain ⟨hz,hlt⟩:=hg
  obtain ⟨ok,ov,st⟩:=st
  obtain ⟨ho,_,_,vs,vO,r,da⟩:=I.qE hz
  cases zZ da ho hd
  have hl:kvs.length=vs.length:=r.length
  obtain ⟨q,hq,ek,rq⟩:=yC r (bu hlt)
  obtain ⟨qk,qv⟩:=q
  rw [hl] at st
  obtain ⟨f0,f1,f2,f3,f4,f5⟩:=hf it (by simp)
  refine wpAny_pyNext_items_item st da hq fun key h1 hk st1 ht hsz hkeep=>?_
  refine ⟨_,Z,wpAny_letOwnedTupleGo_items (s:={ s with heap:=h1 }) st1 fun h2 st2 sb=>?_⟩
  have rk:RelV (kV kvs[i].1) key:=by rw [ek];exact Ri hk
  have hil:it≠s.heap.objs.size:=fq (bQ st)
  have uT:∀b o,b≠it->s.heap.get? b=some o->h2.get? b=some o:=fun b o hb e=>sb.extBut b o hb (hkeep b o hb e)
  have I1:Inv X pins σ (upd H s.heap.objs.size (.tup [kV kvs[i].1,kvs[i].2])) { s with heap:=h2 }:=by
   have J:Inv X pins σ H { s with heap:=h2 }:=I.turned (t':=s.toks) uT f0 f1 f3 f4 f5
   have hn:=I.fresh
   have J2:Inv X pins σ (upd H s.heap.objs.size (.tup [kV kvs[i].1,kvs[i].2])) { s with heap:=h2,gens:=s.gens,drawn:=s.drawn,toks:=s.toks }:=by
    refine I.step (ch:=[it]) (fun b hb=>⟨(hf b hb).2.2.2.1,(hf b hb).2.1,(hf b hb).2.2.2.2.1,(hf b hb).2.2.2.2.2⟩) (fun b o _ _ hc' e _=>uT b o (by simpa using hc') e) (fun b o _ _ hc' e _=>⟨o.slots,uT b o (by simpa using hc') e⟩) (fun b o _ e n=>by rw [az (fq (bQ e))];exact n) (fun b o hc' e=>⟨o,uT b o (by simpa using hc') e⟩)
     (fun b zs q=>by rw [az (aF q hn)];exact q) (fun b o zs q=>by rw [az (aF q hn)];exact q) (fun b ps q=>⟨#[],by rw [az (aF q hn),q];simp⟩) (fun m hm=>?_) (fun b ob e=>?_) I.bare
    . obtain ⟨o,es,ep,ho,r⟩:=hm
      exact ⟨o,es,ep,uT _ o (fun q=>f1 q.symm) ho,r⟩
    . by_cases hb:b=s.heap.objs.size
      . subst hb
        rw [ah] at e;cases e
        exact ⟨by show 2<=sizeLine;decide,[key,qv], .cons rk (.cons rq .nil),_,sb.extBut _ _ hil.symm ht,Z,0,Z⟩
      . rw [az hb] at e
        refine (I.hok b ob e).stay (fun c v Rk q=>?_) (fun c q=>by rw [az (aF q hn)];exact q) fun c zs q=>by rw [az (aF q hn)];exact q
        refine uT c v (fun z=>?_) q
        rcases Rk with r|r
        . rw [r] at z;rw [z,f0] at e;cases e
        . rw [z,f0] at r;cases r
   exact J2
  refine ⟨.ref s.heap.objs.size,_,I1,Z,⟨_,kvs[i],I.fresh,bu hlt,Z,Z⟩,⟨key,qv,by rw [hl];exact st2⟩,fun b hb=>?_⟩
  have eb:b=it:=by simpa using hb
  subst eb
  rw [az hil]
  exact f0
 done:=by
  intro X hP hw hK hc i pins s σ H E I hf st hg
  subst hP hw hK
  obtain ⟨hz,hle⟩:=hg
  obtain ⟨ok,ov,st⟩:=st
  obtain ⟨ho,_,_,vs,vO,r,da⟩:=I.qE hz
  cases zZ da ho hd
  have hl:kvs.length=vs.length:=r.length
  rw [hl] at st
  obtain ⟨f0,f1,f2,f3,f4,f5⟩:=hf it (by simp)
  exact wpAny_pyNext_items_end (I.ok.hd hc) st da (by rw [wI];omega) fun h' eb=>⟨Z,I.turned (t':=s.toks) (fun b o hb e=>eb b o hb e) f0 f1 f3 f4 f5⟩
 self:=fun A i s Q E ⟨ok,ov,st⟩ h=>PySem.W.kcp_self st h
section
variable {X:Cx} {tg:Expr}
inductive Zc (R:It->Hp->Prop) (x:V) (H1:Hp):Prop
 | mk  (d o kvs:_) (_:x = .ref d) (_:nP H1 d o kvs) (_:R (Itv d o kvs:_) H1)
def abR (td:TE):TI:=fun σ H R=>td σ H (Zc R)
inductive WG (R:It->Hp->Prop) (x:V) (H1:Hp):Prop
 | mk  (d o kvs:_) (_:x = .ref d) (_:nP H1 d o kvs) (_:R (Iti d o kvs:_) H1)
def Zd (td:TE):TI:=fun σ H R=>td σ H (WG R)
end
variable {J:It}
theorem tT {n:Nat} {g:TG} (Pv:Nat->St->Hp->Prop) (h0:Pv 0 σ H) (hgo:∀i σ H,i<n->Pv i σ H->J.go i H) (hst:∀σ H,Pv n σ H->J.stop n H)
  (hs:∀i x σ H H',i<n->Pv i σ H->J.BN i H x H'->g x σ H' (tb (D.lp (Pv (i+1))))) (hd:∀σ H,Pv n σ H->D.nx σ H):
  zS g tb D σ (J) H:=by
 refine ⟨fun i m σ H=>m=n-i/\i<=n/\Pv i σ H,⟨n,by simp,gj _,h0⟩,?_⟩
 rintro i m σ H ⟨rfl,hi,p⟩
 by_cases hlt:i<n
 . exact .inr ⟨hgo i σ H hlt p,Pv (i+1),fun σ' H' p'=>⟨n-(i+1),by omega,Z,hlt,p'⟩,fun x H' y=>hs i x σ H H' hlt p y⟩
 . have e:i=n:=by omega
   subst e
   exact .inl ⟨hst σ H p,hd σ H p⟩
section
variable {prog:Program} {w:World} {K:Type} [DecidableEq K] {knd:KeyKind prog w K} {A:Around} {E:VS} {s:Shared}
theorem LB {d:Addr} {kvs:List (K×Value)} {k:K} {v:Value} {Q:VS} (hit:s.heap.IsKeyIter it d i kvs.length ep)
  (hm:s.heap.DictAt knd d kvs ep) (hx:kvs[i]?=some (k,v)) (hQ:∀key h',knd.is k key=true->h'.IsKeyIter it d (i+1) kvs.length ep->Heap.SameBut it s.heap h'->Q key { s with heap:=h' }):
  wpAny (model prog w) A (Builtin.SmallTypes.nextOf (.ref it)) Q E s:=by
 obtain ⟨o,ho,hc,hd⟩:=id hit;obtain ⟨od,es,hod,hcd,yD,hk,hp,hn⟩:=id hm
 unfold Builtin.SmallTypes.nextOf
 refine au (wH (name:=Str.ofString "__next__") hit.typeIs U0 (wL U0 hit.typeIs F.entry_dict_keyiterator_next ?_ (F.args_dict_keyiterator_next_1 _)))
 refine au (aL ?_);refine au (au ?_)
 first|(refine au (UY hit.typeIs (aL ?_));refine au (uK ho hd ?_))|(refine au (Oc hit.typeIs (aL ?_));refine au (uK ho hd ?_))
 have own:Builtin.Dict_items.ownsTuple "dict_keyiterator"=false:=by decide
 simp only [own,HR,ou]
 show wpAny _ _ (if (Value.ref d==Value.none)=true then _ else _) _ _ _
 rw [aA (fun z=>fM z:¬ ((Value.ref d==Value.none)=true))];refine au (aL ?_)
 have sz:es.size=kvs.length:=by have:=hp.length;simpa using this
 refine au (OA hod yD ?_);rw [aA (by rw [sz];simp)]
 refine au (aL ?_);refine au (Hx hod yD ?_)
 rw [aA (by simp)];refine aL ?_
 have lt:i<kvs.length:=(dS.mp hx).1
 have lt':i<es.size:=by omega
 have kv:=hp.get? (e:=es[i]) (by simp [lt']) hx
 simp only [show ¬ ((i:Int)<0) from by omega,ou,rM,Array.getElem?_eq_getElem lt'];refine au ?_
 first|(refine au (UY hit.typeIs (aL ?_));refine au (wpAny_isOneOf_keyiter hit.typeIs ?_))|(refine au (Oc hit.typeIs (aL ?_));refine au (wpAny_isOneOf_keyiter hit.typeIs ?_))
 show wpAny _ _ (setField (.ref it) 1 (rawInt ((i:Int)+1)) >>= _) _ _ _
 refine au (zL ho hd (by simp) ?_)
 have DT:(s.heap.update it (Obj.mapFields (·.setIfInBounds 1 (rawInt ((i:Int)+1))))).IsKeyIter it d (i+1) kvs.length ep:=⟨_,Oh _ ho (Obj.isFreed_of_fields (DJ hd _)),(Obj.cls_mapFields ..).trans hc,by rw [DJ hd];simp [rawInt]⟩
 refine au (zM (au (wpAny_isOneOf_keyiter (s:={ s with heap:=s.heap.update it (Obj.mapFields (·.setIfInBounds 1 (rawInt ((i:Int)+1)))) }) DT.typeIs ?_)))
 exact aL (aL ⟨_,Z,aL (hQ _ _ kv.1 DT (DH ..))⟩)
theorem O5 {d:Addr} {kvs:List (K×Value)} {Q:VS} (hh:A.handled=none) (hit:s.heap.IsKeyIter it d i kvs.length ep)
  (hm:s.heap.DictAt knd d kvs ep) (hx:kvs[i]?=none) (hE:∀h' e,Heap.ExtBut it s.heap h'->(∃o,h'.get? e=some o/\o.cls = .type "StopIteration")->E (.ref e) { s with heap:=h' }):
  wpAny (model prog w) A (Builtin.SmallTypes.nextOf (.ref it)) Q E s:=by
 obtain ⟨o,ho,hc,hd⟩:=id hit;obtain ⟨od,es,hod,hcd,yD,hk,hp,hn⟩:=id hm
 unfold Builtin.SmallTypes.nextOf
 refine au (wH (name:=Str.ofString "__next__") hit.typeIs U0 (wL U0 hit.typeIs F.entry_dict_keyiterator_next ?_ (F.args_dict_keyiterator_next_1 _)))
 refine au (aL ?_);refine au (au ?_)
 first|(refine au (UY hit.typeIs (aL ?_));refine au (uK ho hd ?_))|(refine au (Oc hit.typeIs (aL ?_));refine au (uK ho hd ?_))
 have own:Builtin.Dict_items.ownsTuple "dict_keyiterator"=false:=by decide
 simp only [own,HR,ou]
 show wpAny _ _ (if (Value.ref d==Value.none)=true then _ else _) _ _ _
 rw [aA (fun z=>fM z:¬ ((Value.ref d==Value.none)=true))];refine au (aL ?_)
 have sz:es.size=kvs.length:=by have:=hp.length;simpa using this
 refine au (OA hod yD ?_);rw [aA (by rw [sz];simp)]
 refine au (aL ?_);refine au (Hx hod yD ?_)
 rw [aA (by simp)];refine aL ?_
 have ge:es.size<=i:=by rw [sz];simpa using hx
 simp only [show ¬ ((i:Int)<0) from by omega,ou,rM,Array.getElem?_eq_none ge];refine au ?_
 first|(refine au (UY hit.typeIs (aL ?_));show wpAny _ _ (setField (.ref it) 0 .none >>= _) _ _ _)|(refine au (Oc hit.typeIs (aL ?_));show wpAny _ _ (setField (.ref it) 0 .none >>= _) _ _ _)
 refine au (zL ho hd (by simp) ?_);show wpAny _ _ (newExc (.type "StopIteration") [] >>= _) _ _ _
 refine au ?_;simp only [newExc,newTuple]
 refine au (pS ?_ (by size_fits));refine au (m:=firstArgMember _ _) (wpAny_of_eq (a:=Value.none) (by first|rfl|(simp only [firstArgMember];rfl)) ?_)
 refine pS ?_ (by size_fits);simp only [raiseNew]
 refine au (wpAny_handled ?_);rw [show A.in1.handled=none from hh]
 exact au (aL (wpAny_throw (hE _ _ (((DH ..).extBut.push _).push _) ⟨_,d_ _ rfl,Z⟩)))
theorem LC {d:Addr} {kvs:List (K×Value)} {k:K} {v:Value} {Q:VS} (hit:s.heap.IsValIter it d i kvs.length ep)
  (hm:s.heap.DictAt knd d kvs ep) (hx:kvs[i]?=some (k,v)) (hQ:∀h',h'.IsValIter it d (i+1) kvs.length ep->Heap.SameBut it s.heap h'->Q v { s with heap:=h' }):
  wpAny (model prog w) A (Builtin.SmallTypes.nextOf (.ref it)) Q E s:=by
 obtain ⟨o,ho,hc,hd⟩:=id hit;obtain ⟨od,es,hod,hcd,yD,hk,hp,hn⟩:=id hm
 unfold Builtin.SmallTypes.nextOf
 refine au (wH (name:=Str.ofString "__next__") hit.typeIs UX (wL UX hit.typeIs F.entry_dict_valueiterator_next ?_ (F.args_dict_valueiterator_next_1 _)))
 refine au (aL ?_);refine au (au ?_)
 first|(refine au (UZ hit.typeIs (aL ?_));refine au (uK ho hd ?_))|(refine au (Od hit.typeIs (aL ?_));refine au (uK ho hd ?_))
 have own:Builtin.Dict_items.ownsTuple "dict_valueiterator"=false:=by decide
 simp only [own,HR,ou]
 show wpAny _ _ (if (Value.ref d==Value.none)=true then _ else _) _ _ _
 rw [aA (fun z=>fM z:¬ ((Value.ref d==Value.none)=true))];refine au (aL ?_)
 have sz:es.size=kvs.length:=by have:=hp.length;simpa using this
 refine au (OA hod yD ?_);rw [aA (by rw [sz];simp)]
 refine au (aL ?_);refine au (Hx hod yD ?_)
 rw [aA (by simp)];refine aL ?_
 have lt:i<kvs.length:=(dS.mp hx).1
 have lt':i<es.size:=by omega
 have kv:=hp.get? (e:=es[i]) (by simp [lt']) hx
 simp only [show ¬ ((i:Int)<0) from by omega,ou,rM,Array.getElem?_eq_getElem lt'];refine au ?_
 first|(refine au (UZ hit.typeIs (aL ?_));refine au (Oi hit.typeIs ?_))|(refine au (Od hit.typeIs (aL ?_));refine au (Oi hit.typeIs ?_))
 show wpAny _ _ (setField (.ref it) 1 (rawInt ((i:Int)+1)) >>= _) _ _ _
 refine au (zL ho hd (by simp) ?_)
 have DT:(s.heap.update it (Obj.mapFields (·.setIfInBounds 1 (rawInt ((i:Int)+1))))).IsValIter it d (i+1) kvs.length ep:=⟨_,Oh _ ho (Obj.isFreed_of_fields (DJ hd _)),(Obj.cls_mapFields ..).trans hc,by rw [DJ hd];simp [rawInt]⟩
 refine au (zM (au (Oi (s:={ s with heap:=s.heap.update it (Obj.mapFields (·.setIfInBounds 1 (rawInt ((i:Int)+1)))) }) DT.typeIs ?_)))
 refine au (Oi (s:={ s with heap:=s.heap.update it (Obj.mapFields (·.setIfInBounds 1 (rawInt ((i:Int)+1)))) }) DT.typeIs ?_)
 exact aL (aL ⟨_,Z,aL (kv.2▸hQ _ DT (DH ..))⟩)
theorem O6 {d:Addr} {kvs:List (K×Value)} {Q:VS} (hh:A.handled=none) (hit:s.heap.IsValIter it d i kvs.length ep)
  (hm:s.heap.DictAt knd d kvs ep) (hx:kvs[i]?=none) (hE:∀h' e,Heap.ExtBut it s.heap h'->(∃o,h'.get? e=some o/\o.cls = .type "StopIteration")->E (.ref e) { s with heap:=h' }):
  wpAny (model prog w) A (Builtin.SmallTypes.nextOf (.ref it)) Q E s:=by
 obtain ⟨o,ho,hc,hd⟩:=id hit;obtain ⟨od,es,hod,hcd,yD,hk,hp,hn⟩:=id hm
 unfold Builtin.SmallTypes.nextOf
 refine au (wH (name:=Str.ofString "__next__") hit.typeIs UX (wL UX hit.typeIs F.entry_dict_valueiterator_next ?_ (F.args_dict_valueiterator_next_1 _)))
 refine au (aL ?_);refine au (au ?_)
 first|(refine au (UZ hit.typeIs (aL ?_));refine au (uK ho hd ?_))|(refine au (Od hit.typeIs (aL ?_));refine au (uK ho hd ?_))
 have own:Builtin.Dict_items.ownsTuple "dict_valueiterator"=false:=by decide
 simp only [own,HR,ou]
 show wpAny _ _ (if (Value.ref d==Value.none)=true then _ else _) _ _ _
 rw [aA (fun z=>fM z:¬ ((Value.ref d==Value.none)=true))];refine au (aL ?_)
 have sz:es.size=kvs.length:=by have:=hp.length;simpa using this
 refine au (OA hod yD ?_);rw [aA (by rw [sz];simp)]
 refine au (aL ?_);refine au (Hx hod yD ?_)
 rw [aA (by simp)];refine aL ?_
 have ge:es.size<=i:=by rw [sz];simpa using hx
 simp only [show ¬ ((i:Int)<0) from by omega,ou,rM,Array.getElem?_eq_none ge];refine au ?_
 first|(refine au (UZ hit.typeIs (aL ?_));show wpAny _ _ (setField (.ref it) 0 .none >>= _) _ _ _)|(refine au (Od hit.typeIs (aL ?_));show wpAny _ _ (setField (.ref it) 0 .none >>= _) _ _ _)
 refine au (zL ho hd (by simp) ?_);show wpAny _ _ (newExc (.type "StopIteration") [] >>= _) _ _ _
 refine au ?_;simp only [newExc,newTuple]
 refine au (pS ?_ (by size_fits));refine au (m:=firstArgMember _ _) (wpAny_of_eq (a:=Value.none) (by first|rfl|(simp only [firstArgMember];rfl)) ?_)
 refine pS ?_ (by size_fits);simp only [raiseNew]
 refine au (wpAny_handled ?_);rw [show A.in1.handled=none from hh]
 exact au (aL (wpAny_throw (hE _ _ (((DH ..).extBut.push _).push _) ⟨_,d_ _ rfl,Z⟩)))
end
structure yE (P:Program) (w:World) (K:Fg) (S:Hp->Prop) (xs:List V) (it l:Addr) (tn:Nat->Heap->Prop) (src:Heap->Prop):Prop where
 obj:∀i h,tn i h->∃o,h.get? it=some o/\∀v,o.data ≠ .cell v
 keep:∀i h h',tn i h->(∀o,h.get? it=some o->h'.get? it=some o)->tn i h'
 uU:∀h h',src h->(∀o,h.get? l=some o->h'.get? l=some o)->src h'
 E2:∀(X:Cx),X.prog=P->X.w=w->X.K=K->∀(pins:AO) (σ:St) (H:Hp) (s:Shared),Inv X pins σ H s->S H->src s.heap
 item:∀(A:Around) (i:Nat) (x:V) (s:Shared) (Q:VS) (E:VS),tn i s.heap->src s.heap->xs[i]?=some x->(∀u h',RelV x u->tn (i+1) h'->Heap.SameBut it s.heap h'->Q u { s with heap:=h' })->wpAny (model P w) A (Builtin.SmallTypes.nextOf (.ref it)) Q E s
 done:∀(A:Around) (i:Nat) (s:Shared) (Q:VS) (E:VS),A.handled=none->tn i s.heap->src s.heap->xs.length<=i->(∀h' e,Heap.ExtBut it s.heap h'->(∃o,h'.get? e=some o/\o.cls = .type "StopIteration")->E (.ref e) { s with heap:=h' })->wpAny (model P w) A (Builtin.SmallTypes.nextOf (.ref it)) Q E s
variable {xs:List V}
theorem T3 {w:World} {l:Addr}:yE P w K (fun H=>aH K H l xs) xs it l (fun i h=>h.IsListIter it l i) (fun h=>∃its:List Value,Vals xs its/\h.IsList l its.toArray) where
 obj:=fun i h ⟨o,e,c,d⟩=>⟨o,e,fun v z=>by rw [d] at z;cases z⟩
 keep:=fun i h h' st k=>st.at k
 uU:=fun h h' ⟨its,r,hl⟩ k=>⟨its,r,hl.at k⟩
 E2:=fun X hP hw hK pins σ H s I h=>by
  subst hP hw hK
  obtain ⟨its,rv,p,_⟩:=I.list h
  exact ⟨its,rv,p.isList⟩
 item:=fun A i x s Q E st ⟨its,r,hl⟩ hx hQ=>by
  obtain ⟨u,hu,ru⟩:=r.get hx
  exact wpAny_nextOf_list_item st hl (by simpa using hu) fun h' st' sb=>hQ u h' ru st' sb
 done:=fun A i s Q E hh st ⟨its,r,hl⟩ hx hE=>wpAny_nextOf_list_end hh st hl (by have:=r.length;simp;omega) hE
theorem T4 {w:World} {d:Addr} {o:Obj} (hd:o.data = .dict es ep):
  yE P w K (fun H=>nP H d o kvs) (kvs.map fun p=>kV p.1) it d (fun i h=>h.IsKeyIter it d i kvs.length ep) (fun h=>∃vs,KV kvs vs/\h.DictAt (cM P w) d vs ep) where
 obj:=fun i h ⟨o,e,c,d⟩=>⟨o,e,fun v z=>by rw [d] at z;cases z⟩
 keep:=fun i h h' st k=>st.at k
 uU:=fun h h' ⟨vs,r,hl⟩ k=>⟨vs,r,hl.at' k⟩
 E2:=fun X hP hw hK pins σ H s I h=>by
  subst hP hw hK
  obtain ⟨ho,_,_,vs,vO,r,da⟩:=I.qE h
  cases zZ da ho hd
  exact ⟨vs,r,da⟩
 item:=fun A i x s Q E st ⟨vs,r,da⟩ hx hQ=>by
  rw [cg] at hx
  obtain ⟨p,hp,rfl⟩:=lW.mp hx
  obtain ⟨q,hq,ek,rq⟩:=yC r hp
  obtain ⟨qk,qv⟩:=q
  have hl:kvs.length=vs.length:=r.length
  rw [hl] at st
  exact LB st da hq fun key h' hk st' sb=>hQ key h' (by rw [ek];exact Ri hk) (by rw [hl];exact st') sb
 done:=fun A i s Q E hh st ⟨vs,r,da⟩ hx hE=>by
  have hl:kvs.length=vs.length:=r.length
  rw [aE] at hx
  rw [hl] at st
  exact O5 hh st da (by rw [wI];omega) hE
theorem T5 {w:World} {d:Addr} {o:Obj} (hd:o.data = .dict es ep):
  yE P w K (fun H=>nP H d o kvs) (kvs.map fun p=>p.2) it d (fun i h=>h.IsValIter it d i kvs.length ep) (fun h=>∃vs,KV kvs vs/\h.DictAt (cM P w) d vs ep) where
 obj:=fun i h ⟨o,e,c,d⟩=>⟨o,e,fun v z=>by rw [d] at z;cases z⟩
 keep:=fun i h h' st k=>st.at k
 uU:=fun h h' ⟨vs,r,hl⟩ k=>⟨vs,r,hl.at' k⟩
 E2:=fun X hP hw hK pins σ H s I h=>by
  subst hP hw hK
  obtain ⟨ho,_,_,vs,vO,r,da⟩:=I.qE h
  cases zZ da ho hd
  exact ⟨vs,r,da⟩
 item:=fun A i x s Q E st ⟨vs,r,da⟩ hx hQ=>by
  rw [cg] at hx
  obtain ⟨p,hp,rfl⟩:=lW.mp hx
  obtain ⟨q,hq,ek,rq⟩:=yC r hp
  obtain ⟨qk,qv⟩:=q
  have hl:kvs.length=vs.length:=r.length
  rw [hl] at st
  exact LC st da hq fun h' st' sb=>hQ qv h' rq (by rw [hl];exact st') sb
 done:=fun A i s Q E hh st ⟨vs,r,da⟩ hx hE=>by
  have hl:kvs.length=vs.length:=r.length
  rw [aE] at hx
  rw [hl] at st
  exact O6 hh st da (by rw [wI];omega) hE
variable {y:V}
section
variable {P:Program} {w:World} {A:Around} {E:VS} {s:Shared} {K:Fg} {S1 S2:Hp->Prop} {xs ys:List V} {z TI TO i1 i2 l1 l2:Addr} {t1 t2:Nat->Heap->Prop} {c1 c2:Heap->Prop} {i:Nat}
theorem Rl {x:V} {a b:Value} {Q:VS} (D:ZipApart z TI TO i1 i2 l1 l2) (C1:yE P w K S1 xs i1 l1 t1 c1) (C2:yE P w K S2 ys i2 l2 t2 c2)
  (hz:IsZip s.heap z TI TO .none) (hTI:IsPair s.heap TI (.ref i1) (.ref i2)) (hTO:IsPair s.heap TO a b) (h1:t1 i s.heap) (h2:t2 i s.heap) (hc1:c1 s.heap) (hc2:c2 s.heap) (hx:xs[i]?=some x) (hy:ys[i]?=some y)
  (hQ:∀u v h',RelV x u->RelV y v->IsZip h' z TI TO (rawInt s.heap.objs.size)->IsPair h' TO u v->t1 (i+1) h'->t2 (i+1) h'->IsPair h' s.heap.objs.size u v->h'.objs.size=s.heap.objs.size+1->
    (∀c o,c≠z->c≠TO->c≠i1->c≠i2->s.heap.get? c=some o->h'.get? c=some o)->Q (.ref s.heap.objs.size) { s with heap:=h' }):
  wpAny (model P w) A (Builtin.«zip.__next__» ⟨[.ref z],[]⟩) (fun fin s'=>∃v,fin = .done (.ret v)/\Q v s') E s:=by
 show wpAny _ _ (field (.ref z) 2 >>= _) _ _ _
 refine au (jR hz rfl (x:= .bool false) rfl ?_);show wpAny _ _ (field (.ref z) 3 >>= _) _ _ _
 refine au (jR hz rfl (x:= .ref TI) rfl ?_);refine au (uL hTI rfl ?_)
 show wpAny _ _ (Builtin.SmallTypes.ownedTupleIsFree (.ref z) >>= _) _ _ _
 refine au ?_;unfold Builtin.SmallTypes.ownedTupleIsFree
 refine au (jR hz rfl (x:= .none) rfl (aL ?_));simp only [if_true]
 refine au (wpAny_rule ?_);refine au (jR hz rfl (x:= .ref TO) rfl ?_)
 refine au (DK hz (by simp) fun hA E3 sA=>?_)
 replace E3:IsZip hA z TI TO .ellipsis:=E3
 refine au ?_;simp only [List.zipIdx_cons,List.zipIdx_nil,Hv,BD]
 refine au (au (wpAny_onRaise ?_));show wpAny _ _ (Builtin.SmallTypes.nextOf (.ref i1) >>= _) _ _ _
 refine au (C1.item _ i x { s with heap:=hA } _ _ (C1.keep _ _ _ h1 fun o e=>sA.extBut _ _ D.i1z e) (C1.uU _ _ hc1 fun o e=>sA.extBut _ _ D.l1z e) hx fun u hB ru h1B sB=>aL ?_)
 have Rm:IsPair hB TO a b:=sB.extBut _ _ D.TOi1 (sA.extBut _ _ D.TOz hTO)
 refine au (uL Rm rfl ?_);refine au (wpAny_updateSeq_pair Rm fun hC Vn sC=>?_)
 replace Vn:IsPair hC TO u b:=Vn
 refine au (wpAny_letGo (aL ?_));refine au (au (wpAny_onRaise ?_))
 show wpAny _ _ (Builtin.SmallTypes.nextOf (.ref i2) >>= _) _ _ _
 refine au (C2.item _ i y { s with heap:=hC } _ _ (C2.keep _ _ _ h2 fun o e=>sC.extBut _ _ D.TOi2.symm (sB.extBut _ _ D.i12.symm (sA.extBut _ _ D.i2z e))) (C2.uU _ _ hc2 fun o e=>sC.extBut _ _ D.l2TO (sB.extBut _ _ D.l2i1 (sA.extBut _ _ D.l2z e))) hy fun v hD rv h2D sD=>aL ?_)
 have TOD:IsPair hD TO u b:=sD.extBut _ _ D.TOi2 Vn
 refine au (uL TOD rfl ?_);refine au (wpAny_updateSeq_pair TOD fun hE Vo sE=>?_)
 replace Vo:IsPair hE TO u v:=Vo
 refine au (wpAny_letGo (aL (aL ?_)));refine au (uL Vo rfl ?_)
 refine au (wpAny_newTuple ?_)
 have sz:hE.objs.size=s.heap.objs.size:=by rw [sE.1,sD.1,sC.1,sB.1,sA.1]
 have zE:IsZip hE z TI TO .ellipsis:=sE.extBut _ _ D.TOz.symm (sD.extBut _ _ D.i2z.symm (sC.extBut _ _ D.TOz.symm (sB.extBut _ _ D.i1z.symm E3)))
 have kE:∀c o,c≠z->c≠TO->c≠i1->c≠i2->s.heap.get? c=some o->hE.get? c=some o:=fun c o c1 c2 c3 c4 e=>sE.extBut _ _ c2 (sD.extBut _ _ c4 (sC.extBut _ _ c2 (sB.extBut _ _ c3 (sA.extBut _ _ c1 e))))
 have t1E:t1 (i+1) hE:=C1.keep _ _ _ h1B fun o e=>sE.extBut _ _ D.TOi1.symm (sD.extBut _ _ D.i12 (sC.extBut _ _ D.TOi1.symm e))
 have t2E:t2 (i+1) hE:=C2.keep _ _ _ h2D fun o e=>sE.extBut _ _ D.TOi2.symm e
 have zlt:z<hE.objs.size:=bQ zE
 show wpAny _ _ (Builtin.SmallTypes.ownedTupleHandOut (.ref z) (.ref hE.objs.size) >>= _) _ _ _
 refine au ?_;unfold Builtin.SmallTypes.ownedTupleHandOut
 have zF:IsZip (hE.push { cls:= .type "tuple",data:= .seq #[u,v] }) z TI TO .ellipsis:=b7 _ zE
 refine au (DK zF (by simp) fun hG zG sG=>?_)
 replace zG:IsZip hG z TI TO (rawInt hE.objs.size):=zG
 refine DK zG (by simp) fun hI zI sI=>?_
 replace zI:IsZip hI z TI TO (rawInt hE.objs.size):=zI
 have up:∀c o,c≠z->hE.get? c=some o->hI.get? c=some o:=fun c o c1 e=>sI.extBut _ _ c1 (sG.extBut _ _ c1 (b7 _ e))
 have TI':IsPair hI hE.objs.size u v:=sI.extBut _ _ (zN zlt) (sG.extBut _ _ (zN zlt) (d_ _ rfl))
 have szI:hI.objs.size=hE.objs.size+1:=by rw [sI.1,sG.1,lH]
 rw [sz] at zI TI' szI
 refine aL ⟨_,Z,?_⟩
 show Q (.ref hE.objs.size) _
 rw [sz]
 exact hQ u v hI ru rv zI (up _ _ D.TOz Vo) (C1.keep _ _ _ t1E fun o e=>up _ o D.i1z e) (C2.keep _ _ _ t2E fun o e=>up _ o D.i2z e) TI' szI fun c o c1 c2 c3 c4 e=>up c o c1 (kE c o c1 c2 c3 c4 e)
theorem T6 {a b:Value} {Q:Fin->Shared->Prop} (hh:A.handled=none) (D:ZipApart z TI TO i1 i2 l1 l2) (C1:yE P w K S1 xs i1 l1 t1 c1) (C2:yE P w K S2 ys i2 l2 t2 c2)
  (hz:IsZip s.heap z TI TO .none) (hTI:IsPair s.heap TI (.ref i1) (.ref i2)) (hTO:IsPair s.heap TO a b) (h1:t1 i s.heap) (h2:t2 i s.heap) (hc1:c1 s.heap) (hc2:c2 s.heap) (hend:xs.length<=i\/ys.length<=i)
  (hE:∀h' e,(∀c o,c≠z->c≠TO->c≠i1->c≠i2->s.heap.get? c=some o->h'.get? c=some o)->(∃o,h'.get? e=some o/\o.cls = .type "StopIteration")->E (.ref e) { s with heap:=h' }):
  wpAny (model P w) A (Builtin.«zip.__next__» ⟨[.ref z],[]⟩) Q E s:=by
 show wpAny _ _ (field (.ref z) 2 >>= _) _ _ _
 refine au (jR hz rfl (x:= .bool false) rfl ?_);show wpAny _ _ (field (.ref z) 3 >>= _) _ _ _
 refine au (jR hz rfl (x:= .ref TI) rfl ?_);refine au (uL hTI rfl ?_)
 show wpAny _ _ (Builtin.SmallTypes.ownedTupleIsFree (.ref z) >>= _) _ _ _
 refine au ?_;unfold Builtin.SmallTypes.ownedTupleIsFree
 refine au (jR hz rfl (x:= .none) rfl (aL ?_));simp only [if_true]
 refine au (wpAny_rule ?_);refine au (jR hz rfl (x:= .ref TO) rfl ?_)
 refine au (DK hz (by simp) fun hA E3 sA=>?_)
 replace E3:IsZip hA z TI TO .ellipsis:=E3
 refine au ?_;simp only [List.zipIdx_cons,List.zipIdx_nil,Hv,BD]
 refine au (au (wpAny_onRaise ?_));show wpAny _ _ (Builtin.SmallTypes.nextOf (.ref i1) >>= _) _ _ _
 have k1:=C1.keep _ _ _ h1 fun o e=>sA.extBut _ _ D.i1z e
 have k2:=C1.uU _ _ hc1 fun o e=>sA.extBut _ _ D.l1z e
 by_cases hx:xs.length<=i
 . refine au (C1.done _ i { s with heap:=hA } _ _ hh k1 k2 hx fun hB e sB he=>?_)
   obtain ⟨oe,Cp,hce⟩:=he
   have zB:IsZip hB z TI TO .ellipsis:=sB _ _ D.i1z.symm E3
   have ez:e≠z:=fun x=>by subst x;rw [zB] at Cp;cases Cp;simp at hce
   exact DK zB (by simp) fun hC _ sC=>hE hC e (fun c o c1 _ c3 _ x=>sC.extBut _ _ c1 (sB _ _ c3 (sA.extBut _ _ c1 x))) ⟨oe,sC.extBut _ _ ez Cp,hce⟩
 . have hy:ys.length<=i:=hend.resolve_left hx
   refine au (C1.item _ i xs[i] { s with heap:=hA } _ _ k1 k2 (bu (by omega)) fun u hB ru h1B sB=>aL ?_)
   have Rm:IsPair hB TO a b:=sB.extBut _ _ D.TOi1 (sA.extBut _ _ D.TOz hTO)
   refine au (uL Rm rfl ?_);refine au (wpAny_updateSeq_pair Rm fun hC Vn sC=>?_)
   refine au (wpAny_letGo (aL ?_));refine au (au (wpAny_onRaise ?_))
   show wpAny _ _ (Builtin.SmallTypes.nextOf (.ref i2) >>= _) _ _ _
   refine au (C2.done _ i { s with heap:=hC } _ _ hh (C2.keep _ _ _ h2 fun o e=>sC.extBut _ _ D.TOi2.symm (sB.extBut _ _ D.i12.symm (sA.extBut _ _ D.i2z e))) (C2.uU _ _ hc2 fun o e=>sC.extBut _ _ D.l2TO (sB.extBut _ _ D.l2i1 (sA.extBut _ _ D.l2z e))) hy fun hD e sD he=>?_)
   obtain ⟨oe,Cp,hce⟩:=he
   have zD:IsZip hD z TI TO .ellipsis:=sD _ _ D.i2z.symm (sC.extBut _ _ D.TOz.symm (sB.extBut _ _ D.i1z.symm E3))
   have ez:e≠z:=fun x=>by subst x;rw [zD] at Cp;cases Cp;simp at hce
   exact DK zD (by simp) fun hF _ sF=>hE hF e (fun c o c1 c2 c3 c4 x=>sF.extBut _ _ c1 (sD _ _ c4 (sC.extBut _ _ c2 (sB.extBut _ _ c3 (sA.extBut _ _ c1 x))))) ⟨oe,sF.extBut _ _ ez Cp,hce⟩
end
def Ze (S1 S2:Hp->Prop) (xs ys:List V):It:=
 ⟨fun i H=>S1 H/\S2 H/\i<xs.length/\i<ys.length,fun i H v H'=>∃p x y,H p=none/\v = .ref p/\H'=upd H p (.tup [x,y])/\xs[i]?=some x/\ys[i]?=some y,fun i H=>S1 H/\S2 H/\(xs.length<=i\/ys.length<=i)⟩
variable {ys:List V} {z:Addr}
theorem Rn {w:World} {kk:Nat} {S1 S2:Hp->Prop} {TI TO i1 i2 l1 l2:Addr} {t1 t2:Nat->Heap->Prop} {c1 c2:Heap->Prop} (D:ZipApart z TI TO i1 i2 l1 l2)
  (C1:yE P w K S1 xs i1 l1 t1 c1) (C2:yE P w K S2 ys i2 l2 t2 c2):
  Turn P w K (.Tuple elts kk pos) (Ze S1 S2 xs ys) [z,TI,TO,i1,i2] z (fun i h=>IsZip h z TI TO .none/\IsPair h TI (.ref i1) (.ref i2)/\(∃a b,IsPair h TO a b)/\t1 i h/\t2 i h) where
 mem:=by simp
 obj:=fun i h st b hb=>by
  obtain ⟨hz,hTI,⟨a,b',hTO⟩,h1,h2⟩:=st
  have hb':b=z\/b=TI\/b=TO\/b=i1\/b=i2:=by simpa using hb
  rcases hb' with rfl|rfl|rfl|rfl|rfl
  . exact ⟨_,hz,fun v q=>by cases q⟩
  . exact ⟨_,hTI,fun v q=>by cases q⟩
  . exact ⟨_,hTO,fun v q=>by cases q⟩
  . exact C1.obj i h h1
  . exact C2.obj i h h2
 keep:=fun i h h' st k=>by
  obtain ⟨hz,hTI,⟨a,b',hTO⟩,h1,h2⟩:=st
  exact ⟨k z (by simp) _ hz,k TI (by simp) _ hTI,⟨a,b',k TO (by simp) _ hTO⟩,C1.keep _ _ _ h1 fun o e=>k i1 (by simp) o e,C2.keep _ _ _ h2 fun o e=>k i2 (by simp) o e⟩
 item:=by
  intro X hP hw hK hc i pins s σ H E I hf st hg
  subst hP hw hK
  obtain ⟨hz,hTI,⟨a,b,hTO⟩,h1,h2⟩:=st
  obtain ⟨g1,g2,lx,ly⟩:=hg
  have hT:s.TypeIs (.ref z) "zip":=⟨_,hz,Z⟩
  unfold pyNext
  refine au (wpAny_attempt (wH (name:=Str.ofString "__next__") hT Hy (wL Hy hT F.entry_zip_next
   (Rl D C1 C2 hz hTI hTO h1 h2 (C1.E2 X rfl rfl rfl pins σ H s I g1) (C2.E2 X rfl rfl rfl pins σ H s I g2) (bu lx) (bu ly) fun u u2 h' ru ru2 a1 a2 a3 a4 a5 a6 hk=>aL ?_) (F.args_zip_next_1 _))))
  refine ⟨_,Z,wpAny_letOwnedTupleGo_zip (s:={ s with heap:=h' }) a1 fun h'' b1 hs=>?_⟩
  have hTz:s.heap.objs.size≠z:=zN (bQ hz)
  have uT:∀c o,c≠z->c≠TO->c≠i1->c≠i2->s.heap.get? c=some o->h''.get? c=some o:=fun c o c1 c2 c3 c4 e=>hs.extBut _ _ c1 (hk c o c1 c2 c3 c4 e)
  have hn:=I.fresh
  have nf:∀b u,H b=some u->b≠z/\b≠TO/\b≠i1/\b≠i2:=fun b u e=>by
   have g:∀c∈[z,TI,TO,i1,i2],b≠c:=fun c hc q=>by
    have:=(hf c hc).1
    rw [<-q,e] at this
    cases this
   exact ⟨g z (by simp),g TO (by simp),g i1 (by simp),g i2 (by simp)⟩
  have vN:∀c,c∉[z,TI,TO,i1,i2]->c≠z/\c≠TO/\c≠i1/\c≠i2:=fun c hc=>⟨fun q=>hc (by simp [q]),fun q=>hc (by simp [q]),fun q=>hc (by simp [q]),fun q=>hc (by simp [q])⟩
  have afh:IsPair h'' s.heap.objs.size u u2:=hs.extBut _ _ hTz a5
  have hok:gU X.prog X.w (upd H s.heap.objs.size (.tup [xs[i],ys[i]])) h'':=fun b ob e=>by
   by_cases hb:b=s.heap.objs.size
   . subst hb
     rw [ah] at e
     cases e
     exact ⟨by show 2<=sizeLine;decide,[u,u2], .cons ru (.cons ru2 .nil),_,afh,Z,0,Z⟩
   . rw [az hb] at e
     refine (I.hok b ob e).stay (fun c v Rk q=>?_) (fun c q=>by rw [az (aF q hn)];exact q) fun c zs q=>by rw [az (aF q hn)];exact q
     rcases Rk with r|r
     . obtain ⟨n1,n2,n3,n4⟩:=nf b ob e
       rw [r]
       rw [r] at q
       exact uT b v n1 n2 n3 n4 q
     . obtain ⟨n1,n2,n3,n4⟩:=nf c _ r
       exact uT c v n1 n2 n3 n4 q
  have I2:Inv X pins σ (upd H s.heap.objs.size (.tup [xs[i],ys[i]])) { s with heap:=h'',gens:=s.gens,drawn:=s.drawn,toks:=s.toks }:=by
   refine I.step (ch:=[z,TI,TO,i1,i2]) (fun b hb=>⟨(hf b hb).2.2.2.1,(hf b hb).2.1,(hf b hb).2.2.2.2.1,(hf b hb).2.2.2.2.2⟩) (fun b o _ _ hc' e _=>?_) (fun b o _ _ hc' e _=>?_) (fun b o _ e n=>?_) (fun b o hc' e=>?_)
    (fun b zs q=>by rw [az (aF q hn)];exact q) (fun b o zs q=>by rw [az (aF q hn)];exact q) (fun b ps q=>⟨#[],by rw [az (aF q hn),q];simp⟩) (fun m hm=>?_) hok I.bare
   . obtain ⟨n1,n2,n3,n4⟩:=vN b hc'
     exact uT b o n1 n2 n3 n4 e
   . obtain ⟨n1,n2,n3,n4⟩:=vN b hc'
     exact ⟨o.slots,uT b o n1 n2 n3 n4 e⟩
   . rw [az (fq (bQ e))]
     exact n
   . obtain ⟨n1,n2,n3,n4⟩:=vN b hc'
     exact ⟨o,uT b o n1 n2 n3 n4 e⟩
   . obtain ⟨o,es,ep,ho,r⟩:=hm
     have nl:∀c∈[z,TI,TO,i1,i2],X.env.locals≠c:=fun c hc' q=>(hf c hc').2.1 q.symm
     exact ⟨o,es,ep,uT _ o (nl z (by simp)) (nl TO (by simp)) (nl i1 (by simp)) (nl i2 (by simp)) ho,r⟩
  refine ⟨.ref s.heap.objs.size,_,I2,Z,⟨s.heap.objs.size,xs[i],ys[i],hn,Z,Z,bu lx,bu ly⟩,⟨b1,?_,⟨u,u2,?_⟩,?_,?_⟩,fun b hb=>?_⟩
  . exact uT _ _ D.TIz D.TITO D.TIi1 D.TIi2 hTI
  . exact hs.extBut _ _ D.TOz a2
  . exact C1.keep _ _ _ a3 fun o e=>hs.extBut _ _ D.i1z e
  . exact C2.keep _ _ _ a4 fun o e=>hs.extBut _ _ D.i2z e
  . have hlt:b≠s.heap.objs.size:=by
     have hb':b=z\/b=TI\/b=TO\/b=i1\/b=i2:=by simpa using hb
     obtain ⟨_,e1,_⟩:=C1.obj _ _ h1
     obtain ⟨_,e2,_⟩:=C2.obj _ _ h2
     rcases hb' with rfl|rfl|rfl|rfl|rfl
     . exact fq (bQ hz)
     . exact fq (bQ hTI)
     . exact fq (bQ hTO)
     . exact fq (bQ e1)
     . exact fq (bQ e2)
    rw [az hlt]
    exact (hf b hb).1
 done:=by
  intro X hP hw hK hc i pins s σ H E I hf st hg
  subst hP hw hK
  obtain ⟨hz,hTI,⟨a,b,hTO⟩,h1,h2⟩:=st
  obtain ⟨g1,g2,hend⟩:=hg
  have hT:s.TypeIs (.ref z) "zip":=⟨_,hz,Z⟩
  unfold pyNext
  refine au (wpAny_attempt (wH (name:=Str.ofString "__next__") hT Hy (wL Hy hT F.entry_zip_next
   (T6 (I.ok.hd hc) D C1 C2 hz hTI hTO h1 h2 (C1.E2 X rfl rfl rfl pins σ H s I g1) (C2.E2 X rfl rfl rfl pins σ H s I g2) hend fun h' e hk he=>?_) (F.args_zip_next_1 _))))
  obtain ⟨oe,Cp,hce⟩:=he
  refine au (wpAny_isInstance (T:="StopIteration") (b:=true) ⟨oe,Cp,hce⟩ isSubtype_stop (aL ⟨Z,?_⟩))
  have vN:∀c,c∉[z,TI,TO,i1,i2]->c≠z/\c≠TO/\c≠i1/\c≠i2:=fun c hc=>⟨fun q=>hc (by simp [q]),fun q=>hc (by simp [q]),fun q=>hc (by simp [q]),fun q=>hc (by simp [q])⟩
  have nf:∀b u,H b=some u->b≠z/\b≠TO/\b≠i1/\b≠i2:=fun b u e=>by
   have g:∀c∈[z,TI,TO,i1,i2],b≠c:=fun c hc q=>by
    have:=(hf c hc).1
    rw [<-q,e] at this
    cases this
   exact ⟨g z (by simp),g TO (by simp),g i1 (by simp),g i2 (by simp)⟩
  have I2:Inv X pins σ H { s with heap:=h',gens:=s.gens,drawn:=s.drawn,toks:=s.toks }:=by
   refine I.step (ch:=[z,TI,TO,i1,i2]) (fun b hb=>⟨(hf b hb).2.2.2.1,(hf b hb).2.1,(hf b hb).2.2.2.2.1,(hf b hb).2.2.2.2.2⟩) (fun b o _ _ hc' e _=>?_) (fun b o _ _ hc' e _=>?_) (fun b o _ e n=>n) (fun b o hc' e=>?_)
    (fun b zs q=>q) (fun b o zs q=>q) (fun b ps q=>⟨#[],by rw [q];simp⟩) (fun m hm=>?_) (fun b ob e=>?_) I.bare
   . obtain ⟨n1,n2,n3,n4⟩:=vN b hc'
     exact hk b o n1 n2 n3 n4 e
   . obtain ⟨n1,n2,n3,n4⟩:=vN b hc'
     exact ⟨o.slots,hk b o n1 n2 n3 n4 e⟩
   . obtain ⟨n1,n2,n3,n4⟩:=vN b hc'
     exact ⟨o,hk b o n1 n2 n3 n4 e⟩
   . obtain ⟨o,es,ep,ho,r⟩:=hm
     have nl:∀c∈[z,TI,TO,i1,i2],X.env.locals≠c:=fun c hc' q=>(hf c hc').2.1 q.symm
     exact ⟨o,es,ep,hk _ o (nl z (by simp)) (nl TO (by simp)) (nl i1 (by simp)) (nl i2 (by simp)) ho,r⟩
   . refine (I.hok b ob e).stay (fun c v Rk q=>?_) (fun c q=>q) fun c zs q=>q
     rcases Rk with r|r
     . obtain ⟨n1,n2,n3,n4⟩:=nf b ob e
       rw [r]
       rw [r] at q
       exact hk b v n1 n2 n3 n4 q
     . obtain ⟨n1,n2,n3,n4⟩:=nf c _ r
       exact hk c v n1 n2 n3 n4 q
  exact I2
 self:=fun _ _ _ _ _ st h=>wpAny_pyIter_zip st.1 h
def II (P:Program) (w:World) (u:Value) (o:Obj) (pre:Heap->Prop):Prop:=∀(A:Around) (E:VS) (s:Shared) (Q:VS),pre s.heap->Q (.ref s.heap.objs.size) { s with heap:=s.heap.push o }->wpAny (model P w) A (pyIter u) Q E s
theorem O7 {w:World} {p1 p2:Heap->Prop} (s1:II P w u1 o1 p1) (s2:II P w u2 o2 p2):
  MeetsIn P w (Builtin.«zip.__new__» ⟨[.type "zip",u1,u2],[]⟩) (fun _ R s=>p1 s.heap/\p2 (s.heap.push o1)/\
   R (.ok (.ret (.ref ((((s.heap.push o1).push o2).push { cls:= .type "tuple",data:= .seq #[.ref s.heap.objs.size, .ref (s.heap.push o1).objs.size] }).push { cls:= .type "tuple",data:= .seq #[.none, .none] }).objs.size)))
     { s with heap:=((((s.heap.push o1).push o2).push { cls:= .type "tuple",data:= .seq #[.ref s.heap.objs.size, .ref (s.heap.push o1).objs.size] }).push { cls:= .type "tuple",data:= .seq #[.none, .none] }).push { cls:= .type "zip",data:= .fields #[.none, .bool false, .bool false, .ref ((s.heap.push o1).push o2).objs.size, .ref (((s.heap.push o1).push o2).push { cls:= .type "tuple",data:= .seq #[.ref s.heap.objs.size, .ref (s.heap.push o1).objs.size] }).objs.size] } }):=
 .of_wp fun A R s h=>by
   obtain ⟨hp,g,d,tk,os⟩:=s;obtain ⟨q1,q2,h⟩:=h
   have hsub:=sub_zip
   have i1:=fun (A:Around) (E:VS) (Q:VS)=>s1 A E ⟨hp,g,d,tk,os⟩ Q q1
   have i2:=fun (A:Around) (E:VS) (Q:VS)=>s2 A E ⟨hp.push o1,g,d,tk,os⟩ Q q2
   wp_walk using i1 _ _ _,i2 _ _ _
   exact ⟨_,Z,h⟩
section
variable {prog:Program} {w:World} {A:Around} {E:VS} {s:Shared} {it t:Addr} {i:Nat} {items:Array Value} {Q:VS}
theorem LD {x:Value} (hit:s.heap.IsTupleIter it t i) (ht:s.heap.IsTuple t items) (hx:items[i]?=some x) (hQ:∀h',h'.IsTupleIter it t (i+1)->Heap.SameBut it s.heap h'->Q x { s with heap:=h' }):wpAny (model prog w) A (Builtin.SmallTypes.nextOf (.ref it)) Q E s:=by
 obtain ⟨o,ho,hc,hd⟩:=id hit;obtain ⟨ol,fY,_,nl,hdl⟩:=ht;unfold Builtin.SmallTypes.nextOf
 refine au (wH (name:=Str.ofString "__next__") hit.typeIs N_ (wL N_ hit.typeIs F.entry_tuple_iterator_next ?_ (F.args_tuple_iterator_next_1 _)))
 show wpAny _ _ (field (.ref it) 0 >>= _) _ _ s;refine au (jR ho hd (x:= .ref t) rfl ?_);show wpAny _ _ (if (Value.ref t==Value.none)=true then _ else _) _ _ s
 rw [aA (fun z=>fM z:¬ ((Value.ref t==Value.none)=true))];show wpAny _ _ (field (.ref it) 1 >>= _) _ _ s
 refine au (jR ho hd (x:= .int i 0) rfl ?_);show wpAny _ _ (seqItems? (.ref t) >>= _) _ _ s;refine au (uL fY hdl ?_);simp only [rM,hx]
 refine au (zL ho hd (by simp) (aL ⟨x,Z,aL (hQ _ ?_ (DH ..))⟩));refine ⟨_,Oh _ ho (Obj.isFreed_of_fields (DJ hd _)),(Obj.cls_mapFields ..).trans hc,?_⟩;rw [DJ hd];simp [rawInt]
theorem O8 (hh:A.handled=none) (hit:s.heap.IsTupleIter it t i) (ht:s.heap.IsTuple t items) (hx:items[i]?=none) (hE:∀h' e,Heap.ExtBut it s.heap h'->(∃o,h'.get? e=some o/\o.cls = .type "StopIteration")->E (.ref e) { s with heap:=h' }):wpAny (model prog w) A (Builtin.SmallTypes.nextOf (.ref it)) Q E s:=by
 obtain ⟨o,ho,hc,hd⟩:=id hit;obtain ⟨ol,fY,_,nl,hdl⟩:=ht;unfold Builtin.SmallTypes.nextOf
 refine au (wH (name:=Str.ofString "__next__") hit.typeIs N_ (wL N_ hit.typeIs F.entry_tuple_iterator_next ?_ (F.args_tuple_iterator_next_1 _)))
 show wpAny _ _ (field (.ref it) 0 >>= _) _ _ s;refine au (jR ho hd (x:= .ref t) rfl ?_);show wpAny _ _ (if (Value.ref t==Value.none)=true then _ else _) _ _ s
 rw [aA (fun z=>fM z:¬ ((Value.ref t==Value.none)=true))];show wpAny _ _ (field (.ref it) 1 >>= _) _ _ s
 refine au (jR ho hd (x:= .int i 0) rfl ?_);show wpAny _ _ (seqItems? (.ref t) >>= _) _ _ s;refine au (uL fY hdl ?_);simp only [rM,hx]
 refine au (wpAny_rule (au (zL ho hd (by simp) ?_)));show wpAny _ _ (newExc (.type "StopIteration") [] >>= _) _ _ _;refine au ?_;simp only [newExc,newTuple]
 refine au (pS ?_ (by size_fits));refine au (m:=firstArgMember _ _) (wpAny_of_eq (a:=Value.none) (by first|rfl|(simp only [firstArgMember];rfl)) ?_);refine pS ?_ (by size_fits);simp only [raiseNew]
 refine au (wpAny_handled ?_);first|rw [show A.in1.handled=none from hh]|rw [hh]
 refine au (aL (wpAny_throw ?_));exact hE _ _ (((DH ..).extBut.push _).push _) ⟨_,d_ _ rfl,Z⟩
end
theorem WH {w:World} {l:Addr}:yE P w K (fun H=>bN K H l xs) xs it l (fun i h=>h.IsTupleIter it l i) (fun h=>∃its:List Value,Vals xs its/\h.IsTuple l its.toArray) where
 obj:=fun i h ⟨o,e,c,d⟩=>⟨o,e,fun v z=>by rw [d] at z;cases z⟩
 keep:=fun i h h' st k=>st.at k
 uU:=fun h h' ⟨its,r,o,e,q⟩ k=>⟨its,r,o,k o e,q⟩
 E2:=fun X hP hw hK pins σ H s I h=>by
  subst hP hw hK
  obtain ⟨its,rv,p,_⟩:=I.tuple h
  exact ⟨its,rv,p⟩
 item:=fun A i x s Q E st ⟨its,r,hl⟩ hx hQ=>by
  obtain ⟨u,hu,ru⟩:=r.get hx
  exact LD st hl (by simpa using hu) fun h' st' sb=>hQ u h' ru st' sb
 done:=fun A i s Q E hh st ⟨its,r,hl⟩ hx hE=>O8 hh st hl (by have:=r.length;simp;omega) hE
section
variable {prog:Program} {w:World} {A:Around} {E:VS} {s:Shared} {K:Type} [DecidableEq K] {knd:KeyKind prog w K}
end
def kK (v d:Addr):HO:= .ext fun h=>h.IsValuesView v d
section
variable {X:Cx}
inductive Zf (Q:VK) (x:V) (H1:Hp):Prop
 | mk  (d kvs:_) (_:x = .ref d) (_:Rd H1 d (.dK kvs)) (_:∀v,H1 v=none->Q (.ref v) (upd H1 v (kK v d)))
def abS (td:TE):TE:=fun σ H Q=>td σ H (Zf Q)
inductive Wk (K:Fg) (H:Hp):V->(Hp->Prop)->List V->Prop
 | lst {l:Addr} {xs:List V}:aH K H l xs->Wk K H (.ref l) (fun H=>aH K H l xs) xs
 | tup {l:Addr} {xs:List V}:bN K H l xs->Wk K H (.ref l) (fun H=>bN K H l xs) xs
 | keys {d:Addr} {o:Obj} {kvs:List (Key×V)}:nP H d o kvs->Wk K H (.ref d) (fun H=>nP H d o kvs) (kvs.map fun p=>kV p.1)
 | vals {v d:Addr} {o:Obj} {kvs:List (Key×V)}:H v=some (kK v d)->nP H d o kvs->Wk K H (.ref v) (fun H=>nP H d o kvs) (kvs.map fun p=>p.2)
theorem Wk.ok {u:V} {S:Hp->Prop} (k:Wk X.K H u S xs) (I:Inv X pins σ H s) (r:RelV u uv):
  S H/\∃(l:Addr) (o:Obj) (p:Heap->Prop),l<s.heap.objs.size/\p s.heap/\(∀h (ob:Obj),p h->p (h.push ob))/\(∀h:Heap,(h.push o).get? h.objs.size=some o)/\II X.prog X.w uv o p/\∀it:Addr,∃tn src,yE X.prog X.w X.K S xs it l tn src/\∀h:Heap,h.get? it=some o->tn 0 h:=by
 cases k with
 | @lst l xs hS=>
   cases r
   obtain ⟨its,rv,p,_⟩:=I.list hS
   obtain ⟨ol,fY,_⟩:=id p.isList
   refine ⟨hS,l,_,fun h=>h.IsList l its.toArray,bQ fY,p.isList,fun h ob q=>q.push ob,fun h=>d_ _ rfl,fun A E s Q q h=>Ou q h,fun it=>⟨_,_,T3,fun h e=>⟨_,e,Z,Z⟩⟩⟩
 | @tup l xs hS=>
   cases r
   obtain ⟨its,rv,p,_⟩:=I.tuple hS
   obtain ⟨ol,fY,q0⟩:=id p
   refine ⟨hS,l,_,fun h=>h.IsTuple l its.toArray,bQ fY,p,fun h ob ⟨o1,a,b⟩=>⟨o1,b7 _ a,b⟩,fun h=>d_ _ rfl,fun A E s Q q h=>wpAny_pyIter_tuple q h,fun it=>⟨_,_,WH,fun h e=>⟨_,e,Z,Z⟩⟩⟩
 | @keys d o kvs hz=>
   cases r
   obtain ⟨ho,hl,hsys,vs,ep,rel,da⟩:=I.qE hz
   obtain ⟨o',es,h1,_,h2,_⟩:=id da
   rw [ho] at h1;cases h1
   have el:kvs.length=vs.length:=rel.length
   refine ⟨hz,d,_,fun h=>h.DictAt (cM X.prog X.w) d vs ep,bQ ho,da,fun h ob q=>q.push ob,fun h=>d_ _ rfl,fun A E s Q q h=>wpAny_pyIter_dict hsys q h,fun it=>⟨_,_,T4 h2,fun h e=>?_⟩⟩
   rw [el]
   exact ⟨_,e,Z,Z⟩
 | @vals v d o kvs hv hz=>
   cases r
   obtain ⟨ho,hl,hsys,vs,ep,rel,da⟩:=I.qE hz
   obtain ⟨o',es,h1,_,h2,_⟩:=id da
   rw [ho] at h1;cases h1
   have el:kvs.length=vs.length:=rel.length
   obtain ⟨hv',_⟩:=(show dI X.prog X.w H s.heap v (kK v d) from I.hok v _ hv)
   refine ⟨hz,d,_,fun h=>h.IsValuesView v d/\h.DictAt (cM X.prog X.w) d vs ep,bQ ho,⟨hv',da⟩,fun h ob ⟨⟨o1,a,b⟩,q⟩=>⟨⟨o1,b7 _ a,b⟩,q.push ob⟩,fun h=>d_ _ rfl,fun A E s Q q h=>wpAny_pyIter_values q.1 q.2 h,fun it=>⟨_,_,T5 h2,fun h e=>?_⟩⟩
   rw [el]
   exact ⟨_,e,Z,Z⟩
variable {elts:List Expr} {kk:Nat} {tpos:Pos}
inductive Zg (K:Fg) (R:It->Hp->Prop) (vs:List V) (H1:Hp):Prop
 | mk  (u1 u2 S1 S2 xs ys:_) (_:vs=[u1,u2]) (_:Wk K H1 u1 S1 xs) (_:Wk K H1 u2 S2 ys) (_:R (Ze S1 S2 xs ys:_) H1)
def abT (K:Fg) (ta:TA):TI:=fun σ H R=>ta σ H (Zg K R)
theorem E4 (hc:X.calm=true):iy X (.builtin "sum") (fun xs H Q=>∃(v d:Addr) (kvs:List (Key×V)) (ns:List Int),xs=[.ref v]/\H v=some (kK v d)/\Rd H d (.dK kvs)/\kvs.map (·.2)=ns.map V.int/\Q (.int ns.sum) H):=by
 intro pins s σ H xs us Q I r h
 obtain ⟨v,d,kvs,ns,rfl,hv,hz,en,q⟩:=h
 obtain ⟨u,rfl,ru⟩:=vals1 r
 cases ru
 obtain ⟨_,hsys,vs,rel,dd⟩:=sR I.hok hz
 obtain ⟨ep,da⟩:=dd.dictAt
 obtain ⟨hv',_⟩:=(show dI X.prog X.w H s.heap v (kK v d) from I.hok v _ hv)
 have hl:kvs.length=vs.length:=rel.length
 have hlt:=da.lt_size
 have hne:d≠s.heap.objs.size:=fq hlt
 have W:=(Walks.dictValues (prog:=X.prog) (w:=X.w) (A:=X.A.in1) (knd:=cM X.prog X.w) (I.ok.hd hc) s.heap.objs.size d hne vs ep).toS
 have Ce:kvs.length=ns.length:=by have:=jx List.length en;simpa using this
 refine call_sum_walkAnyS (wpAny_pyIter_values hv' da ?_)
 refine ⟨s.heap.objs.size,_,_,_,_,_,_,fun i=>ns.getD i 0,Z,W,⟨⟨_,d_ _ rfl,Z,Z⟩,da.push _⟩,fun b hb=>?_,fun i x hP=>?_,fun s' t' hm=>?_⟩
 . rcases bP.mp hb with rfl|hb
   . exact bQ (d_ _ rfl)
   . obtain rfl:=fV.mp hb
     exact (da.push _).lt_size
 . obtain ⟨k,hk⟩:=hP
   have hil:i<ns.length:=by
    have:=(dS.mp hk).1
    omega
   have hik:i<kvs.length:=by omega
   obtain ⟨q',hq',_,rq⟩:=yC rel (bu hik)
   rw [hk] at hq'
   cases hq'
   have e1:kvs[i].2=V.int (ns.getD i 0):=by
    have:=jx (fun l=>l[i]?) en
    simp only [cg,bu hik,bu hil] at this
    rw [iK,bu hil]
    exact fH this
   rw [e1] at rq
   exact rq
 . obtain ⟨h',g',d',tk',os'⟩:=s'
   have e1:g'=s.gens:=hm.gens
   have e2:d'=s.drawn:=hm.drawn
   have e3:os'=s.os:=hm.os
   subst e1 e2 e3
   have hsz:vs.length=ns.length:=by omega
   rw [hsz,preSum_getD,Oe (aK _)]
   exact ⟨.int ns.sum,H,I.kept (h':=h') (t':=tk') fun b o e=>hm.heap b o (fun hb=>absurd (bQ e) ((fV.mp hb)▸jw _)) (b7 _ e),⟨t',Z⟩,q⟩
end
def ef:St->List Nat->List V->St
 | σ,k::ks,v::vs=>ef (σ.set k (some v)) ks vs
 | σ,_,_=>σ
theorem Cq {k:Nat} {v:Option V}:∀{ks:List Nat} {vs:List V} {σ:St},k∉ks->(ef σ ks vs).set k v=ef (σ.set k v) ks vs
 | [],_,_,_=>by unfold ef;rfl
 | _::_,[],_,_=>by unfold ef;rfl
 | j::ks,w::vs,σ,h=>by
   have hj:k≠j:=fun e=>h (by rw [e];exact cL)
   show (ef (σ.set j (some w)) ks vs).set k v=ef ((σ.set k v).set j (some w)) ks vs
   rw [Cq (fun m=>h (cC _ m)),List.set_comm _ _ hj]
theorem tU:∀{ks:List Nat} {vs ws:List V} {σ:St},ks.Nodup->vs.length=ks.length->ws.length=ks.length->ef (ef σ ks vs) ks ws=ef σ ks ws
 | [],[],[],_,_,_,_=>rfl
 | k::ks,v::vs,w::ws,σ,nd,h1,h2=>by
   have nk:=(gI.mp nd).1
   show ef ((ef (σ.set k (some v)) ks vs).set k (some w)) ks ws=ef (σ.set k (some w)) ks ws
   rw [Cq nk,uN,tU (gI.mp nd).2 (by simpa using h1) (by simpa using h2)]
def Vp:List Nat->BL
 | []=>XY
 | k::ks=>U9 (sQ k) (Vp ks)
theorem IJ {Q:St->Hp->Prop} {H:Hp}:∀{ks:List Nat} {vs:List V} {σ:St},vs.length=ks.length->Q (ef σ ks vs) H->Vp ks vs σ H Q
 | [],[],_,_,q=>⟨Z,q⟩
 | k::ks,v::vs,σ,h,q=>⟨v,vs,Z,IJ (by simpa using h) q⟩
theorem vX {n:Nat} (ks:List Nat) {Q:VK} (Pv:Nat->List V->Hp->Prop) (nd:ks.Nodup) (hn:n<=100000) (h0:Pv 0 [] (upd H acc (.lst [])))
  (hgo:∀i out H1,i<n->H1 acc=some (.lst out)->Pv i out H1->J.go i H1) (hst:∀out H1,H1 acc=some (.lst out)->Pv n out H1->J.stop n H1)
  (hs:∀(i:Nat) (x:V) (out:List V) (H1 H2:Hp),i<n->out.length=i->H1 acc=some (.lst out)->Pv i out H1->J.BN i H1 x H2->
    ∃t vs,x = .ref t/\bN K H2 t vs/\vs.length=ks.length/\te (ef σ2 ks vs) H2 (wZ Pv i acc out))
  (hd:∀(out:List V) (H1:Hp),out.length=n->H1 acc=some (.lst out)->Pv n out H1->Q (.ref acc) H1):
  B_ J (AH K ks.length (Vp ks)) te acc σ2 H Q:=by
 refine ⟨fun i m σ' H'=>m=n-i/\i<=n/\(∀ws,ws.length=ks.length->ef σ' ks ws=ef σ2 ks ws)/\∃out,out.length=i/\H' acc=some (.lst out)/\Pv i out H',⟨n,by simp,gj _,fun _ _=>rfl,[],Z,ah,h0⟩,?_⟩
 rintro i m σ' H' ⟨rfl,hi,hσ,out,ho,ha,p⟩
 by_cases hlt:i<n
 . refine .inr ⟨hgo i out H' hlt ha p,fun σ3=>∀ws,ws.length=ks.length->ef σ3 ks ws=ef σ2 ks ws,(wZ Pv i acc out),fun σ3 v H4 hS ⟨a,b⟩=>?_,fun x H1 y=>?_⟩
   . refine ⟨out,a,?_,n-(i+1),by omega,Z,hlt,hS,out++[v],by rw [dg,ho];rfl,ah,b⟩
     have:sizeLine=16777216:=jQ
     omega
   . obtain ⟨t,vs,rfl,sq,hl,q⟩:=hs i x out H' H1 hlt ho ha p y
     refine ⟨t,vs,Z,sq,hl,IJ hl ⟨fun ws hw=>?_,?_⟩⟩
     . rw [tU nd hl hw];exact hσ ws hw
     . rw [hσ vs hl];exact q
 . have e:i=n:=by omega
   subst e
   exact .inl ⟨hst out H' ha p,hd out H' ho ha p⟩
theorem WI {n:Nat} (ks:List Nat) {Q:VK} (Pv:Nat->List V->Hp->Prop) (nd:ks.Nodup) (hn:n<=100000) (h0:Pv 0 [] (upd H acc (.lst [])))
  (hgo:∀i out H1,i<n->H1 acc=some (.lst out)->Pv i out H1->J.go i H1) (hst:∀out H1,H1 acc=some (.lst out)->Pv n out H1->J.stop n H1)
  (hs:∀(i:Nat) (x:V) (out:List V) (H1 H2:Hp),i<n->out.length<=i->H1 acc=some (.lst out)->Pv i out H1->J.BN i H1 x H2->
    ∃t vs,x = .ref t/\bN K H2 t vs/\vs.length=ks.length/\tc (ef σ2 ks vs) H2 (Vh te (ef σ2 ks vs) Pv i acc out))
  (hd:∀(out:List V) (H1:Hp),out.length<=n->H1 acc=some (.lst out)->Pv n out H1->Q (.ref acc) H1):
  Cm J (AH K ks.length (Vp ks)) tc te acc σ2 H Q:=by
 refine ⟨fun i m σ' H'=>m=n-i/\i<=n/\(∀ws,ws.length=ks.length->ef σ' ks ws=ef σ2 ks ws)/\∃out,out.length<=i/\H' acc=some (.lst out)/\Pv i out H',⟨n,by simp,gj _,fun _ _=>rfl,[],aK _,ah,h0⟩,?_⟩
 rintro i m σ' H' ⟨rfl,hi,hσ,out,ho,ha,p⟩
 by_cases hlt:i<n
 . refine .inr ⟨hgo i out H' hlt ha p,fun σ3=>∀ws,ws.length=ks.length->ef σ3 ks ws=ef σ2 ks ws,(wZ Pv i acc out),fun H3=>H3 acc=some (.lst out)/\Pv (i+1) out H3,fun σ3 v H4 hS ⟨a,b⟩=>?_,fun σ3 H4 hS ⟨a,b⟩=>?_,fun x H1 y=>?_⟩
   . refine ⟨out,a,?_,n-(i+1),by omega,Z,hlt,hS,out++[v],by rw [dg];exact Nat.succ_le_succ ho,ah,b⟩
     have:sizeLine=16777216:=jQ
     omega
   . exact ⟨n-(i+1),by omega,Z,hlt,hS,out,by omega,a,b⟩
   . obtain ⟨t,vs,rfl,sq,hl,q⟩:=hs i x out H' H1 hlt ho ha p y
     refine ⟨t,vs,Z,sq,hl,IJ hl ⟨fun ws hw=>?_,?_⟩⟩
     . rw [tU nd hl hw];exact hσ ws hw
     . rw [hσ vs hl];exact q
 . have e:i=n:=by omega
   subst e
   exact .inl ⟨hst out H' ha p,hd out H' ho ha p⟩
theorem jD {n:Nat} (k:Nat) {Q:VK} (Pv:Nat->List V->Hp->Prop) (hn:n<=100000) (h0:Pv 0 [] (upd H acc (.lst [])))
  (hgo:∀i out H1,i<n->H1 acc=some (.lst out)->Pv i out H1->J.go i H1) (hst:∀out H1,H1 acc=some (.lst out)->Pv n out H1->J.stop n H1)
  (hs:∀(i:Nat) (x:V) (out:List V) (H1 H2:Hp),i<n->out.length=i->H1 acc=some (.lst out)->Pv i out H1->J.BN i H1 x H2->
    te (σ2.set k (some x)) H2 (wZ Pv i acc out))
  (hd:∀(out:List V) (H1:Hp),out.length=n->H1 acc=some (.lst out)->Pv n out H1->Q (.ref acc) H1):
  B_ J (sQ k) te acc σ2 H Q:=by
 refine ⟨fun i m σ' H'=>m=n-i/\i<=n/\(∀w:Option V,σ'.set k w=σ2.set k w)/\∃out,out.length=i/\H' acc=some (.lst out)/\Pv i out H',⟨n,by simp,gj _,fun _=>rfl,[],Z,ah,h0⟩,?_⟩
 rintro i m σ' H' ⟨rfl,hi,hσ,out,ho,ha,p⟩
 by_cases hlt:i<n
 . refine .inr ⟨hgo i out H' hlt ha p,fun σ3=>∀w:Option V,σ3.set k w=σ2.set k w,(wZ Pv i acc out),fun σ3 v H4 hS ⟨a,b⟩=>?_,fun x H1 y=>?_⟩
   . refine ⟨out,a,?_,n-(i+1),by omega,Z,hlt,hS,out++[v],by rw [dg,ho];rfl,ah,b⟩
     have:sizeLine=16777216:=jQ
     omega
   . refine ⟨fun w=>by rw [uN];exact hσ w,?_⟩
     rw [hσ]
     exact hs i x out H' H1 hlt ho ha p y
 . have e:i=n:=by omega
   subst e
   exact .inl ⟨hst out H' ha p,hd out H' ho ha p⟩
theorem WJ {n:Nat} (k:Nat) {Q:VK} (Pv:Nat->List V->Hp->Prop) (hn:n<=100000) (h0:Pv 0 [] (upd H acc (.lst [])))
  (hgo:∀i out H1,i<n->H1 acc=some (.lst out)->Pv i out H1->J.go i H1) (hst:∀out H1,H1 acc=some (.lst out)->Pv n out H1->J.stop n H1)
  (hs:∀(i:Nat) (x:V) (out:List V) (H1 H2:Hp),i<n->out.length<=i->H1 acc=some (.lst out)->Pv i out H1->J.BN i H1 x H2->
    tc (σ2.set k (some x)) H2 (Vh te (σ2.set k (some x)) Pv i acc out))
  (hd:∀(out:List V) (H1:Hp),out.length<=n->H1 acc=some (.lst out)->Pv n out H1->Q (.ref acc) H1):
  Cm J (sQ k) tc te acc σ2 H Q:=by
 refine ⟨fun i m σ' H'=>m=n-i/\i<=n/\(∀w:Option V,σ'.set k w=σ2.set k w)/\∃out,out.length<=i/\H' acc=some (.lst out)/\Pv i out H',⟨n,by simp,gj _,fun _=>rfl,[],aK _,ah,h0⟩,?_⟩
 rintro i m σ' H' ⟨rfl,hi,hσ,out,ho,ha,p⟩
 by_cases hlt:i<n
 . refine .inr ⟨hgo i out H' hlt ha p,fun σ3=>∀w:Option V,σ3.set k w=σ2.set k w,(wZ Pv i acc out),fun H3=>H3 acc=some (.lst out)/\Pv (i+1) out H3,fun σ3 v H4 hS ⟨a,b⟩=>?_,fun σ3 H4 hS ⟨a,b⟩=>?_,fun x H1 y=>?_⟩
   . refine ⟨out,a,?_,n-(i+1),by omega,Z,hlt,hS,out++[v],by rw [dg];exact Nat.succ_le_succ ho,ah,b⟩
     have:sizeLine=16777216:=jQ
     omega
   . exact ⟨n-(i+1),by omega,Z,hlt,hS,out,by omega,a,b⟩
   . refine ⟨fun w=>by rw [uN];exact hσ w,?_⟩
     rw [hσ]
     exact hs i x out H' H1 hlt ho ha p y
 . have e:i=n:=by omega
   subst e
   exact .inl ⟨hst out H' ha p,hd out H' ho ha p⟩
structure Mn (P:Program) (w:World) (K:Fg) (mg:SO) (base:Heap) (k:Nat) (C:Addr) (m:Str) (ps:List Str) (sp:Sp):Prop where
 ex:∃f fd,i7 P w K mg base sL k f fd ps sp/\Binds K fd ps []/\Meth K C m f/\nM K C
structure Cn (P:Program) (w:World) (K:Fg) (mg:SO) (base:Heap) (k:Nat) (x:Str) (C:Addr) (ps:List Str) (sp:Sp):Prop where
 ex:∃f fd,i7 P w K mg base sL k f fd ps sp/\Binds K fd ps []/\Mk K C f/\mg x=some (.ref C)
section
variable {X:Cx}
inductive abU (x:V) (y:V) (H:Hp) (Q:VK):Prop
 | mk  (i j:_) (_:x = .int i) (_:y = .int j) (_:OY i j) (_:Q (.int (i*j)) H)
theorem WK:Ic X .Mult abU:=by
 rintro pins s σ H x y u v Q I rx ry ⟨i,j,rfl,rfl,⟨m,n,h1,h2,h3⟩,q⟩
 obtain ⟨t,rfl⟩:=(show ∃t,u=Value.int i t from rx)
 obtain ⟨t',rfl⟩:=(show ∃t',v=Value.int j t' from ry)
 exact PyProof.Rows.imul_int ⟨.int (i*j),H,I.tok _,⟨_,Z⟩,q⟩ (IntMulOk.of_le (Om.mpr h1) (Om.mpr h2) h3)
end
structure gJ (K:Fg) (C:Addr) (m qual:Str) (st:Stmt) (f:Addr) (fd:FuncData):Prop where
 fn:EZ K m qual st f fd
 me:Meth K C m f
 cl:nM K C
variable {mg:SO} {base:Heap} {C f:Addr} {qual:Str} {fd:FuncData} {N ps:List Str} {sp:Sp}
theorem gJ.ok {w:World} {m:Str} {st:Stmt} {k:Nat} (F:gJ K C m qual st f fd) (S:aO N ps (aC st)) (len:∀vs H Q E,sp vs H Q E->vs.length=ps.length)
  (hbody:∀(cdv:Value) (A:Around) (outer:List Env) (s:Shared) (H:Hp) (vs:List V) (Q:VK) (E:XK),dm k (A.deeper (envOfC qual (aC st) s.heap.objs.size f cdv))->sp vs H Q E->
    ∃t,pO (cD sL P w K mg base N qual (aC st) f cdv A outer s H E).Ai (cu st) t/\t { nx:=fun _ H'=>Q .bU H',rt:=Q } (start N vs) H)
  (h:∀(kV doc pm:Value) (an:Option Addr) (cdv ct:Value) (us:List Value),us.length=ps.length->bindArgs (PySem.W.fnOf m qual (dY st) (cu st) (aC st) .none kV doc pm an cdv ct) ⟨us,[]⟩=pure (ps.zip us)):
  Mn P w K mg base (k+1) C m ps sp:=⟨f,fd,F.fn.ok S len hbody,F.fn.binds h,F.me,F.cl⟩
structure E5 (K:Fg) (mg:SO) (x:Str) (C:Addr) (qual:Str) (st:Stmt) (f:Addr) (fd:FuncData):Prop where
 fn:EZ K "__init__" qual st f fd
 mks:Mk K C f
 name:mg x=some (.ref C)
theorem E5.ok {w:World} {st:Stmt} {k:Nat} (F:E5 K mg x C qual st f fd) (S:aO N ps (aC st)) (len:∀vs H Q E,sp vs H Q E->vs.length=ps.length)
  (hbody:∀(cdv:Value) (A:Around) (outer:List Env) (s:Shared) (H:Hp) (vs:List V) (Q:VK) (E:XK),dm k (A.deeper (envOfC qual (aC st) s.heap.objs.size f cdv))->sp vs H Q E->
    ∃t,pO (cD sL P w K mg base N qual (aC st) f cdv A outer s H E).Ai (cu st) t/\t { nx:=fun _ H'=>Q .bU H',rt:=Q } (start N vs) H)
  (h:∀(kV doc pm:Value) (an:Option Addr) (cdv ct:Value) (us:List Value),us.length=ps.length->bindArgs (PySem.W.fnOf "__init__" qual (dY st) (cu st) (aC st) .none kV doc pm an cdv ct) ⟨us,[]⟩=pure (ps.zip us)):
  Cn P w K mg base (k+1) x C ps sp:=⟨f,fd,F.fn.ok S len hbody,F.fn.binds h,F.mks,F.name⟩
abbrev qZ:=Nat×Nat×Str
abbrev dW:=Addr->Option qZ
abbrev col (n t:Nat):Option qZ:=some (n,t,(⟨#[]⟩:Str))
def isTup:HO->Bool
 | .tup _=>true
 | _=>false
def Gh (ρ:dW) (H:Hp):Prop:=∀b c,ρ b=some c->∃o,H b=some o/\isTup o=false
def Fr (n:Nat) (ρ:dW) (H:Hp) (ρ':dW) (H':Hp):Prop:=∀b o,H b=some o->(∀t x,ρ b≠some (n,t,x))->H' b=some o/\ρ' b=ρ b
def cR (ρ:dW) (a:Addr) (c:qZ):dW:=fun b=>if b=a then some c else ρ b
variable {ρ:dW}
theorem dH {c:qZ}:cR ρ a c a=some c:=aB rfl
variable {b:Addr}
theorem cJ {c:qZ} (h:b≠a):cR ρ a c b=ρ b:=aA h
def out (ρ:dW) (H:Hp):Hp:=fun b=>if ρ b=none then H b else none
variable {o:HO}
theorem tV (h:H b=some o) (c:ρ b=none):out ρ H b=some o:=by
 unfold out;rw [aB c];exact h
theorem ng (h:out ρ H b=some o):H b=some o/\ρ b=none:=by
 unfold out at h
 split at h
 . next c=>exact ⟨h,c⟩
 . cases h
theorem Gh.none (g:Gh ρ H) (h:H b=Option.none):ρ b=Option.none:=by
 cases e:ρ b with
 | none=>rfl
 | some c=>obtain ⟨o,q,_⟩:=g b c e;rw [h] at q;cases q
theorem Gh.tup {ρ:dW} {H:Hp} (g:Gh ρ H) {b:Addr} {xs:List V} (h:H b=some (.tup xs)):ρ b=Option.none:=by
 cases e:ρ b with
 | none=>rfl
 | some c=>obtain ⟨o,q,t⟩:=g b c e;rw [h] at q;cases q;cases t
theorem Gh.same (g:Gh ρ H) (s:aP H H'):Gh ρ H':=fun b c e=>let ⟨o,h,t⟩:=g b c e;⟨o,s b o h,t⟩
theorem Gh.wr (g:Gh ρ H) (t:isTup o=false):Gh ρ (upd H a o):=fun b c e=>by
 by_cases h:b=a
 . rw [h,ah];exact ⟨o,Z,t⟩
 . rw [az h];exact g b c e
theorem Gh.alloc (g:Gh ρ H) (h:H a=Option.none):Gh ρ (upd H a o):=g.same (aD h o)
theorem Gh.color (g:Gh ρ H) {c:qZ} (h:H a=some o) (t:isTup o=false):Gh (cR ρ a c) H:=fun b d e=>by
 by_cases z:b=a
 . rw [z];exact ⟨o,h,t⟩
 . rw [cJ z] at e;exact g b d e
theorem Fr.refl {n:Nat}:Fr n ρ H ρ H:=fun _ _ h _=>⟨h,Z⟩
variable {H1 H2:Hp}
theorem Fr.trans {n:Nat} {ρ1 ρ2:dW} (a:Fr n ρ H ρ1 H1) (b:Fr n ρ1 H1 ρ2 H2):Fr n ρ H ρ2 H2:=fun c o h k=>by
 obtain ⟨h1,e1⟩:=a c o h k
 obtain ⟨h2,e2⟩:=b c o h1 (by rw [e1];exact k)
 exact ⟨h2,e2.trans e1⟩
theorem Fr.of_same {n:Nat} (s:aP H H'):Fr n ρ H ρ H':=fun b o h _=>⟨s b o h,Z⟩
theorem Fr.write {n:Nat} (c:ρ a=some (n,t,x)):Fr n ρ H ρ (upd H a o):=fun b u h k=>by
 have:b≠a:=fun e=>k t x (by rw [e];exact c)
 rw [az this];exact ⟨h,Z⟩
theorem Fr.color {n:Nat} {c:qZ} (h:H a=none) (s:aP H H'):Fr n ρ H (cR ρ a c) H':=fun b u e k=>by
 rw [cJ (aF e h)];exact ⟨s b u e,Z⟩
variable {ρ':dW}
theorem Fr.out {n:Nat} (f:Fr n ρ H ρ' H'):aP (out ρ H) (out ρ' H'):=fun b o h=>by
 obtain ⟨h1,c⟩:=ng h
 obtain ⟨h2,e⟩:=f b o h1 (fun t x=>by rw [c];intro z;cases z)
 exact tV h2 (e.trans c)
theorem nh (s:aP H H'):aP (out ρ H) (out ρ H'):=fun b o h=>by
 obtain ⟨h1,c⟩:=ng h
 exact tV (s b o h1) c
structure Pt where
 nm:Str
 ow:Str
 wo:Int
 we:Int
 sc:Int
 row:List Int
structure jN where
 nm:Str
 ow:Str
 wo:Int
 sh:List (Str×Rat)
structure HS where
 own:List Str
 aj:List Pt
 dj:List jN
 nms:List Str
 stp:List Int
 prod:Int
 kn:Nat
 bq:List Int
 bD:List Int
structure HA where
 a:Addr
 dx:Addr
 pl:Addr
 ab:Addr
 as:Addr
 nm:Addr
 bt:Addr
 db:Addr
 cm:Addr
 pu:Addr
 sp:Addr
 kn:Addr
 qs:List (Addr×Addr×Addr)
structure TC where
 hold:Addr
 part:Addr
 bot:Addr
def fP:Nat->List Str->List (Key×V)
 | _,[]=>[]
 | i,o::r=>(Sum.inr o, .int i)::fP (i+1) r
def cj (ps:List Pt) (qs:List (Addr×Addr×Addr)):List (Key×V):=List.zipWith (fun p q=>((Sum.inr p.nm:Key),V.ref q.1)) ps qs
def yF (l:List Str):List (Key×V):=l.map fun x=>(Sum.inr x, .bl true)
def jq (A:HA):List (Str×V):=[("places", .ref A.pl),("aboard", .ref A.ab),("ashore", .ref A.as),("names", .ref A.nm),("bottom", .ref A.bt),("common", .ref A.cm),("purses", .ref A.pu)]
def cU (p:Pt) (r:Addr):List (Str×V):=[("name", .str p.nm),("owner", .str p.ow),("worth", .int p.wo),("weight", .int p.we),("scale", .int p.sc),("row", .ref r)]
def xg (sp:Addr) (prod:Int) (kn:Addr):List (Str×V):=[("steps", .ref sp),("product", .int prod),("known", .ref kn)]
def IK (H:Hp) (kvs:List (Key×V)) (prod:Int):Prop:=∀p∈kvs,∃(t:Int) (r:Addr),p=(Sum.inl t,V.ref r)/\H r=some (tQ (Jm.fr t prod))
inductive i8 (H:Hp):List V->List (Str×Rat)->Prop
 | nil:i8 H [] []
 | cons {r f:Addr} {x:Str} {q:Rat} {vs:List V} {l:List (Str×Rat)}:H r=some (.tup [.str x, .ref f])->H f=some (tQ q)->i8 H vs l->i8 H (.ref r::vs) ((x,q)::l)
inductive kL (n:Nat) (ρ:dW) (H:Hp):List V->List jN->Prop
 | nil:kL n ρ H [] []
 | cons {r l:Addr} {x:jN} {ss:List V} {vs:List V} {as:List jN}:H r=some (.tup [.str x.nm, .str x.ow, .int x.wo, .ref l])->H l=some (.lst ss)->ρ l=some (n,30,⟨#[]⟩)->i8 H ss x.sh->kL n ρ H vs as->kL n ρ H (.ref r::vs) (x::as)
structure aN (T:TC) (n:Nat) (ρ:dW) (A:HA) (H:Hp) (st:HS):Prop where
 oa:H A.a=some (.ins T.hold A.dx (jq A))
 ca:ρ A.a=col n 0
 iB:H A.pl=some (.dK (fP 0 st.own))
 iC:ρ A.pl=col n 1
 dF:H A.ab=some (.dK (cj st.aj A.qs))
 gc:ρ A.ab=col n 2
 pP:∃vs,H A.as=some (.lst vs)/\kL n ρ H vs st.dj
 iO:ρ A.as=col n 3
 q_:H A.nm=some (.dK (yF st.nms))
 iP:ρ A.nm=col n 4
 jv:H A.bt=some (.ins T.bot A.db (xg A.sp st.prod A.kn))
 iQ:ρ A.bt=col n 5
 i6:H A.cm=some (.lst (st.bq.map V.int))
 jf:ρ A.cm=col n 6
 kM:H A.pu=some (.lst (st.bD.map V.int))
 cpu:ρ A.pu=col n 7
 nQ:H A.sp=some (.lst (st.stp.map V.int))
 iR:ρ A.sp=col n 8
 okn:∃kvs,H A.kn=some (.dK kvs)/\IK H kvs st.prod/\kvs.length<=st.kn/\(kvs.map (·.1)).Nodup
 iS:ρ A.kn=col n 9
 ql:A.qs.length=st.aj.length
 opt:∀(i:Nat) (p:Pt) (q:Addr×Addr×Addr),st.aj[i]?=some p->A.qs[i]?=some q->H q.1=some (.ins T.part q.2.1 (cU p q.2.2))/\H q.2.2=some (.lst (p.row.map V.int))/\ρ q.1=some (n,20,p.nm)/\ρ q.2.2=some (n,21,p.nm)
theorem Cr {c d:qZ} (ha:ρ a=some c) (hb:ρ b=some d) (h:c≠d):a≠b:=fun e=>by
 rw [e,hb] at ha;cases ha;exact h rfl
theorem Ar {c:qZ} (ha:ρ a=none) (hb:ρ b=some c):a≠b:=fun e=>by rw [e,hb] at ha;cases ha
theorem i8.mono {vs:List V} {l:List (Str×Rat)} (h:i8 H vs l) (g:∀b xs,H b=some (.tup xs)->H' b=some (.tup xs)):i8 H' vs l:=by
 induction h with
 | nil=>exact .nil
 | cons a b _ ih=>exact .cons (g _ _ a) (g _ _ b) ih
def Kp (n:Nat) (ρ ρ':dW) (H H':Hp) (ts:Nat->Bool):Prop:=(∀b xs,H b=some (.tup xs)->H' b=some (.tup xs))/\∀b t x o,ts t=true->ρ b=some (n,t,x)->H b=some o->H' b=some o/\ρ' b=some (n,t,x)
variable {l:List jN} {ts:Nat->Bool}
theorem kL.keep {n:Nat} {vs:List V} (h:kL n ρ H vs l) (k:Kp n ρ ρ' H H' ts) (e:ts 30=true):kL n ρ' H' vs l:=by
 induction h with
 | nil=>exact .nil
 | cons a b c d _ ih=>exact .cons (k.1 _ _ a) (k.2 _ _ _ _ e c b).1 (k.2 _ _ _ _ e c b).2 (d.mono k.1) ih
theorem ff {n:Nat} (g:Gh ρ H) (c:ρ a=some (n,t,x)):Kp n ρ ρ H (upd H a o) (fun u=>decide (u≠t)):=by
 refine ⟨fun b xs h=>?_,fun b u y w hu hc h=>⟨?_,hc⟩⟩
 . rw [az (Ar (g.tup h) c)];exact h
 . rw [az (Cr hc c (fun e=>by cases e;exact absurd hu (by simp)))];exact h
theorem kz {n:Nat} (k:Kp n ρ ρ' H H' ts) (c:ρ b=some (n,t,x)) (e:H b=some o) (u:ts t=true:=by decide):H' b=some o:=(k.2 b t x o u c e).1
theorem Ng {n:Nat} (s:aP H H'):Kp n ρ ρ H H' ts:=⟨fun b xs h=>s _ _ h,fun b u y w _ hc h=>⟨s _ _ h,hc⟩⟩
variable {T:TC} {A:HA}
theorem aN.same {n:Nat} {st:HS} (h:aN T n ρ A H st) (k:Kp n ρ ρ' H H' fun _=>true):aN T n ρ' A H' st:=by
 have z:=fun {b:Addr} {t:Nat} {x:Str} {o:HO} (c:ρ b=some (n,t,x)) (e:H b=some o)=>k.2 b t x o rfl c e
 obtain ⟨vs,h1,h2⟩:=h.pP
 obtain ⟨kvs,k1,k2,k3⟩:=h.okn
 exact ⟨(z h.ca h.oa).1,(z h.ca h.oa).2,(z h.iC h.iB).1,(z h.iC h.iB).2,(z h.gc h.dF).1,(z h.gc h.dF).2,⟨vs,(z h.iO h1).1,h2.keep k rfl⟩,(z h.iO h1).2,(z h.iP h.q_).1,(z h.iP h.q_).2,(z h.iQ h.jv).1,(z h.iQ h.jv).2,
  (z h.jf h.i6).1,(z h.jf h.i6).2,(z h.cpu h.kM).1,(z h.cpu h.kM).2,(z h.iR h.nQ).1,(z h.iR h.nQ).2,⟨kvs,(z h.iS k1).1,fun p hp=>let ⟨t,r,e,q⟩:=k2 p hp;⟨t,r,e,k.1 _ _ q⟩,k3⟩,(z h.iS k1).2,h.ql,
  fun i p q e1 e2=>let ⟨a,b,c,d⟩:=h.opt i p q e1 e2;⟨(z c a).1,(z d b).1,(z c a).2,(z d b).2⟩⟩
theorem aN.mono {n:Nat} {st:HS} (h:aN T n ρ A H st) (s:aP H H'):aN T n ρ A H' st:=h.same (Ng s)
theorem aN.other {n m:Nat} {st:HS} (h:aN T m ρ A H st) (f:Fr n ρ H ρ' H') (g:Gh ρ H) (e:m≠n):aN T m ρ' A H' st:=
 h.same ⟨fun b xs q=>(f b _ q fun t x=>by rw [g.tup q];intro z;cases z).1,fun b t x o _ c q=>by
   obtain ⟨a,b'⟩:=f b o q fun t' x'=>by rw [c];intro z;cases z;exact e rfl
   exact ⟨a,b'.trans c⟩⟩
variable {ss:List V}
theorem kL.snoc {n:Nat} {vs:List V} {as:List jN} {r l:Addr} {x:jN} (h:kL n ρ H vs as) (e1:H r=some (.tup [.str x.nm, .str x.ow, .int x.wo, .ref l])) (e2:H l=some (.lst ss)) (e3:ρ l=some (n,30,⟨#[]⟩)) (e4:i8 H ss x.sh):kL n ρ H (vs++[.ref r]) (as++[x]):=by
 induction h with
 | nil=>exact .cons e1 e2 e3 e4 .nil
 | cons a b c d _ ih=>exact .cons a b c d ih
theorem z6 {p0 p1:Pt}:∀{ps:List Pt} {qs:List (Addr×Addr×Addr)} {i:Nat},ps[i]?=some p0->p1.nm=p0.nm->cj (ps.set i p1) qs=cj ps qs
 | [],_,_,h,_=>by simp at h
 | _::_,[],_,_,_=>by simp [cj]
 | p::ps,q::qs,0,h,e=>by
   have:p=p0:=by simpa using h
   simp [cj,e,this]
 | p::ps,q::qs,i+1,h,e=>by
   have:=z6 (qs:=qs) (by simpa using h:ps[i]?=some p0) e
   simp only [cj,HU,vj] at this ⊢
   rw [this]
variable {j:Nat} {p:Pt}
theorem Cs {ps:List Pt} (nd:(ps.map (·.nm)).Nodup) {q:Pt} (h1:ps[i]?=some p) (h2:ps[j]?=some q) (e:p.nm=q.nm):i=j:=by
 have a:(ps.map (·.nm))[i]?=some p.nm:=by rw [cg,h1];rfl
 have b:(ps.map (·.nm))[j]?=some p.nm:=by rw [cg,h2,e];rfl
 exact AG nd a b
variable {p0 p1:Pt} {q0:Addr×Addr×Addr}
theorem WL {n:Nat} {st:HS} (h:aN T n ρ A H st) (k:Kp n ρ ρ H H' ts) (nd:(st.aj.map (·.nm)).Nodup) (ep:st.aj[i]?=some p0) (eq:A.qs[i]?=some q0) (e1:p1.nm=p0.nm)
  (hw:H' q0.1=some (.ins T.part q0.2.1 (cU p1 q0.2.2))) (hs:∀{b:Addr} {t:Nat} {x:Str} {o:HO},ρ b=some (n,t,x)->t≠20\/x≠p0.nm->H b=some o->H' b=some o) (er:(.lst (p0.row.map V.int):HO) = .lst (p1.row.map V.int)):
  ∀(j:Nat) (p:Pt) (q:Addr×Addr×Addr),(st.aj.set i p1)[j]?=some p->A.qs[j]?=some q->H' q.1=some (.ins T.part q.2.1 (cU p q.2.2))/\H' q.2.2=some (.lst (p.row.map V.int))/\ρ q.1=some (n,20,p.nm)/\ρ q.2.2=some (n,21,p.nm):=by
 intro j p q ej eq'
 by_cases hj:i=j
 . subst hj
   rw [eq] at eq';cases eq'
   rw [pQ (dS.mp ep).1] at ej
   cases ej
   obtain ⟨a,b,c,d⟩:=h.opt i p0 q0 ep eq
   exact ⟨hw,by rw [<-er];exact hs d (.inl (by decide)) b,by rw [e1];exact c,by rw [e1];exact d⟩
 . rw [yo hj] at ej
   obtain ⟨a,b,c,d⟩:=h.opt j p q ej eq'
   exact ⟨hs c (.inr fun e=>hj (Cs nd ep ej e.symm)) a,hs d (.inl (by decide)) b,c,d⟩
theorem T7 {n:Nat} {st:HS} (h:aN T n ρ A H st) (nd:(st.aj.map (·.nm)).Nodup) {l:List Int} (ep:st.aj[i]?=some p0) (eq:A.qs[i]?=some q0)
  (hw:H' q0.2.2=some (.lst (l.map V.int))) (hs:∀{b:Addr} {t:Nat} {x:Str} {o:HO},ρ b=some (n,t,x)->t≠21\/x≠p0.nm->H b=some o->H' b=some o):
  ∀(j:Nat) (p:Pt) (q:Addr×Addr×Addr),(st.aj.set i { p0 with row:=l })[j]?=some p->A.qs[j]?=some q->H' q.1=some (.ins T.part q.2.1 (cU p q.2.2))/\H' q.2.2=some (.lst (p.row.map V.int))/\ρ q.1=some (n,20,p.nm)/\ρ q.2.2=some (n,21,p.nm):=by
 intro j p q ej eq'
 by_cases hj:i=j
 . subst hj
   rw [eq] at eq';cases eq'
   rw [pQ (dS.mp ep).1] at ej
   cases ej
   obtain ⟨a,b,c,d⟩:=h.opt i p0 q0 ep eq
   exact ⟨hs c (.inl (by decide)) a,hw,c,d⟩
 . rw [yo hj] at ej
   obtain ⟨a,b,c,d⟩:=h.opt j p q ej eq'
   exact ⟨hs c (.inl (by decide)) a,hs d (.inr fun e=>hj (Cs nd ep ej e.symm)) b,c,d⟩
theorem yG {n:Nat} (c:ρ a=some (n,t,x)):∀{b:Addr} {u:Nat} {y:Str} {w:HO},ρ b=some (n,u,y)->u≠t\/y≠x->H b=some w->upd H a o b=some w:=fun {b u y w} hc hu h=>by
 rw [az (Cr hc c (fun e=>by cases e;rcases hu with z|z <;> exact z rfl))];exact h
theorem aN.Zh {n:Nat} {st:HS} (h:aN T n ρ A H st) (g:Gh ρ H) (l:List Str):aN T n ρ A (upd H A.pl (.dK (fP 0 l))) { st with own:=l }:=by
 have k:=ff (o:= .dK (fP 0 l)) g h.iC
 obtain ⟨vs,h1,h2⟩:=h.pP
 obtain ⟨kvs,k1,k2,k3⟩:=h.okn
 exact ⟨kz k h.ca h.oa,h.ca,ah,h.iC,kz k h.gc h.dF,h.gc,⟨vs,kz k h.iO h1,h2.keep k (by decide)⟩,h.iO,kz k h.iP h.q_,h.iP,kz k h.iQ h.jv,h.iQ,kz k h.jf h.i6,h.jf,kz k h.cpu h.kM,h.cpu,kz k h.iR h.nQ,h.iR,⟨kvs,kz k h.iS k1,fun p hp=>let ⟨t,r,e,q⟩:=k2 p hp;⟨t,r,e,k.1 _ _ q⟩,k3⟩,h.iS,h.ql,fun i p q e1 e2=>let ⟨a,b,c,d⟩:=h.opt i p q e1 e2;⟨kz k c a,kz k d b,c,d⟩⟩
theorem aN.IL {n:Nat} {st:HS} (h:aN T n ρ A H st) (g:Gh ρ H) (ps:List Pt) (qs:List (Addr×Addr×Addr)) (el:qs.length=ps.length) (hp:∀(i:Nat) (p:Pt) (q:Addr×Addr×Addr),ps[i]?=some p->qs[i]?=some q->H q.1=some (.ins T.part q.2.1 (cU p q.2.2))/\H q.2.2=some (.lst (p.row.map V.int))/\ρ q.1=some (n,20,p.nm)/\ρ q.2.2=some (n,21,p.nm)):aN T n ρ { A with qs:=qs } (upd H A.ab (.dK (cj ps qs))) { st with aj:=ps }:=by
 have k:=ff (o:= .dK (cj ps qs)) g h.gc
 obtain ⟨vs,h1,h2⟩:=h.pP
 obtain ⟨kvs,k1,k2,k3⟩:=h.okn
 exact ⟨kz k h.ca h.oa,h.ca,kz k h.iC h.iB,h.iC,ah,h.gc,⟨vs,kz k h.iO h1,h2.keep k (by decide)⟩,h.iO,kz k h.iP h.q_,h.iP,kz k h.iQ h.jv,h.iQ,kz k h.jf h.i6,h.jf,kz k h.cpu h.kM,h.cpu,kz k h.iR h.nQ,h.iR,⟨kvs,kz k h.iS k1,fun p hp=>let ⟨t,r,e,q⟩:=k2 p hp;⟨t,r,e,k.1 _ _ q⟩,k3⟩,h.iS,el,fun i p q e1 e2=>let ⟨a,b,c,d⟩:=hp i p q e1 e2;⟨kz k c a,kz k d b,c,d⟩⟩
theorem aN.Zi {n:Nat} {st:HS} (h:aN T n ρ A H st) (g:Gh ρ H) {r l:Addr} {x:jN} {Ro:List V} (hv:H A.as=some (.lst Ro)) (e1:H r=some (.tup [.str x.nm, .str x.ow, .int x.wo, .ref l])) (e2:H l=some (.lst ss)) (e3:ρ l=some (n,30,⟨#[]⟩)) (e4:i8 H ss x.sh):aN T n ρ A (upd H A.as (.lst (Ro++[.ref r]))) { st with dj:=st.dj++[x] }:=by
 have k:=ff (o:= .lst (Ro++[.ref r])) g h.iO
 obtain ⟨vs,h1,h2⟩:=h.pP
 obtain ⟨kvs,k1,k2,k3⟩:=h.okn
 exact ⟨kz k h.ca h.oa,h.ca,kz k h.iC h.iB,h.iC,kz k h.gc h.dF,h.gc,⟨_,ah,by rw [hv] at h1;cases h1;exact (h2.keep k (by decide)).snoc (k.1 _ _ e1) (kz k e3 e2) e3 (e4.mono k.1)⟩,h.iO,kz k h.iP h.q_,h.iP,kz k h.iQ h.jv,h.iQ,kz k h.jf h.i6,h.jf,kz k h.cpu h.kM,h.cpu,kz k h.iR h.nQ,h.iR,⟨kvs,kz k h.iS k1,fun p hp=>let ⟨t,r,e,q⟩:=k2 p hp;⟨t,r,e,k.1 _ _ q⟩,k3⟩,h.iS,h.ql,fun i p q e1 e2=>let ⟨a,b,c,d⟩:=h.opt i p q e1 e2;⟨kz k c a,kz k d b,c,d⟩⟩
theorem aN.Zj {n:Nat} {st:HS} (h:aN T n ρ A H st) (g:Gh ρ H) (l:List Str):aN T n ρ A (upd H A.nm (.dK (yF l))) { st with nms:=l }:=by
 have k:=ff (o:= .dK (yF l)) g h.iP
 obtain ⟨vs,h1,h2⟩:=h.pP
 obtain ⟨kvs,k1,k2,k3⟩:=h.okn
 exact ⟨kz k h.ca h.oa,h.ca,kz k h.iC h.iB,h.iC,kz k h.gc h.dF,h.gc,⟨vs,kz k h.iO h1,h2.keep k (by decide)⟩,h.iO,ah,h.iP,kz k h.iQ h.jv,h.iQ,kz k h.jf h.i6,h.jf,kz k h.cpu h.kM,h.cpu,kz k h.iR h.nQ,h.iR,⟨kvs,kz k h.iS k1,fun p hp=>let ⟨t,r,e,q⟩:=k2 p hp;⟨t,r,e,k.1 _ _ q⟩,k3⟩,h.iS,h.ql,fun i p q e1 e2=>let ⟨a,b,c,d⟩:=h.opt i p q e1 e2;⟨kz k c a,kz k d b,c,d⟩⟩
theorem aN.Zk {n:Nat} {st:HS} (h:aN T n ρ A H st) (g:Gh ρ H) (l:List Int):aN T n ρ A (upd H A.cm (.lst (l.map V.int))) { st with bq:=l }:=by
 have k:=ff (o:= .lst (l.map V.int)) g h.jf
 obtain ⟨vs,h1,h2⟩:=h.pP
 obtain ⟨kvs,k1,k2,k3⟩:=h.okn
 exact ⟨kz k h.ca h.oa,h.ca,kz k h.iC h.iB,h.iC,kz k h.gc h.dF,h.gc,⟨vs,kz k h.iO h1,h2.keep k (by decide)⟩,h.iO,kz k h.iP h.q_,h.iP,kz k h.iQ h.jv,h.iQ,ah,h.jf,kz k h.cpu h.kM,h.cpu,kz k h.iR h.nQ,h.iR,⟨kvs,kz k h.iS k1,fun p hp=>let ⟨t,r,e,q⟩:=k2 p hp;⟨t,r,e,k.1 _ _ q⟩,k3⟩,h.iS,h.ql,fun i p q e1 e2=>let ⟨a,b,c,d⟩:=h.opt i p q e1 e2;⟨kz k c a,kz k d b,c,d⟩⟩
theorem aN.Zl {n:Nat} {st:HS} (h:aN T n ρ A H st) (g:Gh ρ H) (l:List Int):aN T n ρ A (upd H A.pu (.lst (l.map V.int))) { st with bD:=l }:=by
 have k:=ff (o:= .lst (l.map V.int)) g h.cpu
 obtain ⟨vs,h1,h2⟩:=h.pP
 obtain ⟨kvs,k1,k2,k3⟩:=h.okn
 exact ⟨kz k h.ca h.oa,h.ca,kz k h.iC h.iB,h.iC,kz k h.gc h.dF,h.gc,⟨vs,kz k h.iO h1,h2.keep k (by decide)⟩,h.iO,kz k h.iP h.q_,h.iP,kz k h.iQ h.jv,h.iQ,kz k h.jf h.i6,h.jf,ah,h.cpu,kz k h.iR h.nQ,h.iR,⟨kvs,kz k h.iS k1,fun p hp=>let ⟨t,r,e,q⟩:=k2 p hp;⟨t,r,e,k.1 _ _ q⟩,k3⟩,h.iS,h.ql,fun i p q e1 e2=>let ⟨a,b,c,d⟩:=h.opt i p q e1 e2;⟨kz k c a,kz k d b,c,d⟩⟩
theorem aN.Zm {n:Nat} {st:HS} (h:aN T n ρ A H st) (g:Gh ρ H) (l:List Int):aN T n ρ A (upd H A.sp (.lst (l.map V.int))) { st with stp:=l }:=by
 have k:=ff (o:= .lst (l.map V.int)) g h.iR
 obtain ⟨vs,h1,h2⟩:=h.pP
 obtain ⟨kvs,k1,k2,k3⟩:=h.okn
 exact ⟨kz k h.ca h.oa,h.ca,kz k h.iC h.iB,h.iC,kz k h.gc h.dF,h.gc,⟨vs,kz k h.iO h1,h2.keep k (by decide)⟩,h.iO,kz k h.iP h.q_,h.iP,kz k h.iQ h.jv,h.iQ,kz k h.jf h.i6,h.jf,kz k h.cpu h.kM,h.cpu,ah,h.iR,⟨kvs,kz k h.iS k1,fun p hp=>let ⟨t,r,e,q⟩:=k2 p hp;⟨t,r,e,k.1 _ _ q⟩,k3⟩,h.iS,h.ql,fun i p q e1 e2=>let ⟨a,b,c,d⟩:=h.opt i p q e1 e2;⟨kz k c a,kz k d b,c,d⟩⟩
theorem aN.Zn {n:Nat} {st:HS} (h:aN T n ρ A H st) (g:Gh ρ H) (q:Addr) (l:List Int) (e:H q=some (.lst (l.map V.int))) (c:ρ q=col n 6):aN T n ρ { A with cm:=q } (upd H A.a (.ins T.hold A.dx (jq { A with cm:=q }))) { st with bq:=l }:=by
 have k:=ff (o:= .ins T.hold A.dx (jq { A with cm:=q })) g h.ca
 obtain ⟨vs,h1,h2⟩:=h.pP
 obtain ⟨kvs,k1,k2,k3⟩:=h.okn
 exact ⟨ah,h.ca,kz k h.iC h.iB,h.iC,kz k h.gc h.dF,h.gc,⟨vs,kz k h.iO h1,h2.keep k (by decide)⟩,h.iO,kz k h.iP h.q_,h.iP,kz k h.iQ h.jv,h.iQ,kz k c e,c,kz k h.cpu h.kM,h.cpu,kz k h.iR h.nQ,h.iR,⟨kvs,kz k h.iS k1,fun p hp=>let ⟨t,r,e,q⟩:=k2 p hp;⟨t,r,e,k.1 _ _ q⟩,k3⟩,h.iS,h.ql,fun i p q e1 e2=>let ⟨a,b,c,d⟩:=h.opt i p q e1 e2;⟨kz k c a,kz k d b,c,d⟩⟩
theorem aN.Rp {n:Nat} {st:HS} (h:aN T n ρ A H st) (g:Gh ρ H) (q:Addr) (l:List Int) (e:H q=some (.lst (l.map V.int))) (c:ρ q=col n 7):aN T n ρ { A with pu:=q } (upd H A.a (.ins T.hold A.dx (jq { A with pu:=q }))) { st with bD:=l }:=by
 have k:=ff (o:= .ins T.hold A.dx (jq { A with pu:=q })) g h.ca
 obtain ⟨vs,h1,h2⟩:=h.pP
 obtain ⟨kvs,k1,k2,k3⟩:=h.okn
 exact ⟨ah,h.ca,kz k h.iC h.iB,h.iC,kz k h.gc h.dF,h.gc,⟨vs,kz k h.iO h1,h2.keep k (by decide)⟩,h.iO,kz k h.iP h.q_,h.iP,kz k h.iQ h.jv,h.iQ,kz k h.jf h.i6,h.jf,kz k c e,c,kz k h.iR h.nQ,h.iR,⟨kvs,kz k h.iS k1,fun p hp=>let ⟨t,r,e,q⟩:=k2 p hp;⟨t,r,e,k.1 _ _ q⟩,k3⟩,h.iS,h.ql,fun i p q e1 e2=>let ⟨a,b,c,d⟩:=h.opt i p q e1 e2;⟨kz k c a,kz k d b,c,d⟩⟩
theorem aN.Zo {n:Nat} {st:HS} (h:aN T n ρ A H st) (g:Gh ρ H) (m:Int) (q:Addr) (e:H q=some (.dK [])) (c:ρ q=col n 9):aN T n ρ { A with kn:=q } (upd H A.bt (.ins T.bot A.db (xg A.sp m q))) { st with prod:=m,kn:=0 }:=by
 have k:=ff (o:= .ins T.bot A.db (xg A.sp m q)) g h.iQ
 obtain ⟨vs,h1,h2⟩:=h.pP
 obtain ⟨kvs,k1,k2,k3⟩:=h.okn
 exact ⟨kz k h.ca h.oa,h.ca,kz k h.iC h.iB,h.iC,kz k h.gc h.dF,h.gc,⟨vs,kz k h.iO h1,h2.keep k (by decide)⟩,h.iO,kz k h.iP h.q_,h.iP,ah,h.iQ,kz k h.jf h.i6,h.jf,kz k h.cpu h.kM,h.cpu,kz k h.iR h.nQ,h.iR,⟨[],kz k c e,(fun p hp=>absurd hp (by simp)),aK _,uM⟩,c,h.ql,fun i p q e1 e2=>let ⟨a,b,c,d⟩:=h.opt i p q e1 e2;⟨kz k c a,kz k d b,c,d⟩⟩
theorem aN.iT {n:Nat} {st:HS} (h:aN T n ρ A H st) (g:Gh ρ H) (ep:st.aj[i]?=some p0) (eq:A.qs[i]?=some q0) (e1:p1.nm=p0.nm) (e2:p1.row=p0.row) (nd:(st.aj.map (·.nm)).Nodup):aN T n ρ A (upd H q0.1 (.ins T.part q0.2.1 (cU p1 q0.2.2))) { st with aj:=st.aj.set i p1 }:=by
 have k:=ff (o:= .ins T.part q0.2.1 (cU p1 q0.2.2)) g (h.opt i p0 q0 ep eq).2.2.1
 obtain ⟨vs,h1,h2⟩:=h.pP
 obtain ⟨kvs,k1,k2,k3⟩:=h.okn
 exact ⟨kz k h.ca h.oa,h.ca,kz k h.iC h.iB,h.iC,by rw [z6 ep e1];exact kz k h.gc h.dF,h.gc,⟨vs,kz k h.iO h1,h2.keep k (by decide)⟩,h.iO,kz k h.iP h.q_,h.iP,kz k h.iQ h.jv,h.iQ,kz k h.jf h.i6,h.jf,kz k h.cpu h.kM,h.cpu,kz k h.iR h.nQ,h.iR,⟨kvs,kz k h.iS k1,fun p hp=>let ⟨t,r,e,q⟩:=k2 p hp;⟨t,r,e,k.1 _ _ q⟩,k3⟩,h.iS,by rw [iw];exact h.ql,WL h k nd ep eq e1 ah (yG (h.opt i p0 q0 ep eq).2.2.1) (by rw [e2])⟩
theorem aN.WM {n:Nat} {st:HS} (h:aN T n ρ A H st) (g:Gh ρ H) (l:List Int) (ep:st.aj[i]?=some p0) (eq:A.qs[i]?=some q0) (nd:(st.aj.map (·.nm)).Nodup):aN T n ρ A (upd H q0.2.2 (.lst (l.map V.int))) { st with aj:=st.aj.set i { p0 with row:=l } }:=by
 have k:=ff (o:= .lst (l.map V.int)) g (h.opt i p0 q0 ep eq).2.2.2
 obtain ⟨vs,h1,h2⟩:=h.pP
 obtain ⟨kvs,k1,k2,k3⟩:=h.okn
 exact ⟨kz k h.ca h.oa,h.ca,kz k h.iC h.iB,h.iC,by show _=some (HO.dK (cj (st.aj.set i { p0 with row:=l }) A.qs));rw [z6 (p1:={ p0 with row:=l }) ep rfl];exact kz k h.gc h.dF,h.gc,⟨vs,kz k h.iO h1,h2.keep k (by decide)⟩,h.iO,kz k h.iP h.q_,h.iP,kz k h.iQ h.jv,h.iQ,kz k h.jf h.i6,h.jf,kz k h.cpu h.kM,h.cpu,kz k h.iR h.nQ,h.iR,⟨kvs,kz k h.iS k1,fun p hp=>let ⟨t,r,e,q⟩:=k2 p hp;⟨t,r,e,k.1 _ _ q⟩,k3⟩,h.iS,by rw [iw];exact h.ql,T7 h nd ep eq ah (yG (h.opt i p0 q0 ep eq).2.2.2)⟩
structure Txt (K:Fg) (T:TC):Prop where
 cH:nM K T.hold
 cP:nM K T.part
 cB:nM K T.bot
 hpl:e_ K T.hold "places"
 hab:e_ K T.hold "aboard"
 has:e_ K T.hold "ashore"
 hnm:e_ K T.hold "names"
 vY:e_ K T.hold "bottom"
 yH:e_ K T.hold "common"
 As:e_ K T.hold "purses"
 Rq:e_ K T.part "name"
 pow:e_ K T.part "owner"
 tW:e_ K T.part "worth"
 Rr:e_ K T.part "weight"
 E6:e_ K T.part "scale"
 IM:e_ K T.part "row"
 Zp:e_ K T.bot "steps"
 Nh:e_ K T.bot "product"
 Rt:e_ K T.bot "known"
structure Wf (st:HS):Prop where
 l7:st.own.Nodup
 xh:st.nms.Nodup
 dw:(st.aj.map (·.nm)).Nodup
 sub:∀p∈st.aj,p.nm∈st.nms
 rows:∀p∈st.aj,p.row.length=st.own.length
 ow:∀p∈st.aj,p.ow∈st.own
 fW:st.bq.length=st.own.length
 l9:st.bD.length=st.own.length
 eY:1<=st.prod
 mO:st.prod=st.stp.foldl (·*·) 1
 rV:∀s∈st.stp,2<=s
 jV:st.own.length<=100
 xj:st.nms.length<=1000
 l_:st.aj.length<=1000
 yI:st.stp.length<=100
 tX:st.dj.length<=1000
 E7:st.kn<=1000000
 big:Jm.Sz 8000 st.prod
 nj:∀c∈st.bq,0<=c/\c<=st.prod
 oK:∀p∈st.aj,1<=p.sc/\p.sc<=st.prod
 mh:∀p∈st.aj,∀r∈p.row,-st.prod<=r/\r<=st.prod
 nq:∀p∈st.aj,∀t∈List.zipWith (fun r c=>p.sc*r+c) p.row st.bq,0<=t/\t<=st.prod
 jO:∀p∈st.aj,1<=p.wo/\0<=p.we
 DU:∀u∈st.bD,Jm.Sz 9000 u
structure HH (T:TC) (n:Nat) (ρ:dW) (A:HA) (H:Hp) (st:HS):Prop where
 g:Gh ρ H
 h:aN T n ρ A H st
 wf:Wf st
def uV (T:TC) (n:Nat) (ρ:dW) (A:HA) (H:Hp) (st:HS) (Q:Hp->Prop):Prop:=∀ρ' A' H',HH T n ρ' A' H' st->A'.a=A.a->Fr n ρ H ρ' H'->Q H'
def hs0:HS:=⟨[],[],[],[],[],1,0,[],[]⟩
theorem wf0:Wf hs0:=by
 refine ⟨uM,uM,uM,?_,?_,?_,Z,Z,?_,Z,?_,?_,?_,?_,?_,?_,?_,?_,?_,?_,?_,?_,?_,?_⟩ <;> first|(intro _ h;exact absurd h (by simp [hs0]))|decide|(show Jm.Sz 8000 1;exact jC (by decide +kernel))
theorem Ni:∀{l:List Str} {i:Nat} {o:Str},o∈l->dG (fP i l) (Sum.inr o)=some (.int ((i+l.idxOf o:Nat):Int))
 | [],_,_,h=>by simp at h
 | x::l,i,o,h=>by
   by_cases e:x=o
   . subst e
     rw [show fP i (x::l)=(Sum.inr x, .int i)::fP (i+1) l from rfl,gq rfl]
     simp
   . rw [show fP i (x::l)=(Sum.inr x, .int i)::fP (i+1) l from rfl,eL (by intro z;exact e (qB z))]
     have hm:o∈l:=by
      rcases bP.mp h with z|z
      . exact absurd z.symm e
      . exact z
     rw [Ni hm]
     have eb:(x==o)=false:=by simpa using e
     have:(x::l).idxOf o=l.idxOf o+1:=by rw [List.idxOf_cons,eb];rfl
     rw [this]
     show some (V.int ((i+1+l.idxOf o:Nat):Int))=some (V.int ((i+(l.idxOf o+1):Nat):Int))
     rw [show i+1+l.idxOf o=i+(l.idxOf o+1) from by omega]
theorem oM:∀{l:List Str} {i:Nat} {o:Str},o∉l->dG (fP i l) (Sum.inr o)=none
 | [],_,_,_=>rfl
 | x::l,i,o,h=>by
   rw [show fP i (x::l)=(Sum.inr x, .int i)::fP (i+1) l from rfl,eL (fun z=>h (by rw [<-qB z];exact cL))]
   exact oM fun m=>h (cC _ m)
theorem oN:∀(l:List Str) (i:Nat),(fP i l).length=l.length
 | [],_=>rfl
 | _::l,i=>by rw [show ∀x,fP i (x::l)=(Sum.inr x, .int i)::fP (i+1) l from fun _=>rfl,jP,jP,oN l]
theorem IP:∀(l:List Str) (i:Nat) (o:Str),fP i (l++[o])=fP i l++[(Sum.inr o, .int ((i+l.length:Nat):Int))]
 | [],i,o=>rfl
 | x::l,i,o=>by
   show (Sum.inr x,V.int i)::fP (i+1) (l++[o])=_
   rw [IP l (i+1) o]
   show _=(Sum.inr x,V.int i)::(fP (i+1) l++_)
   rw [jP,show i+1+l.length=i+(l.length+1) from by omega]
theorem IQ:∀(l:List Str) (i:Nat),(fP i l).map (fun p=>kV p.1)=l.map V.str
 | [],_=>rfl
 | x::l,i=>by
   show kV (Sum.inr x)::(fP (i+1) l).map _=V.str x::l.map V.str
   rw [IQ l]
   rfl
variable {qs:List (Addr×Addr×Addr)}
theorem sW {ps:List Pt} {q:Addr×Addr×Addr} (h1:ps[i]?=some p) (h2:qs[i]?=some q):(cj ps qs)[i]?=some (Sum.inr p.nm, .ref q.1):=by
 unfold cj
 rw [Oj,h1,h2]
theorem sX {ps:List Pt} (h:qs.length=ps.length):(cj ps qs).length=ps.length:=by
 unfold cj
 rw [kU,h,wO]
theorem sY:∀{ps:List Pt} {qs:List (Addr×Addr×Addr)} {i:Nat} {p:Pt} {q:Addr×Addr×Addr},(ps.map (·.nm)).Nodup->ps[i]?=some p->qs[i]?=some q->dG (cj ps qs) (Sum.inr p.nm)=some (.ref q.1)
 | [],_,_,_,_,_,h,_=>by simp at h
 | _::_,[],_,_,_,_,_,h=>by simp at h
 | a::ps,b::qs,0,p,q,_,h1,h2=>by
   have e1:a=p:=by simpa using h1
   have e2:b=q:=by simpa using h2
   subst e1 e2
   exact gq rfl
 | a::ps,b::qs,i+1,p,q,nd,h1,h2=>by
   have nd':=gI.mp (show (a.nm::ps.map (·.nm)).Nodup from nd)
   have Ct:ps[i]?=some p:=by simpa using h1
   rw [show cj (a::ps) (b::qs)=(Sum.inr a.nm, .ref b.1)::cj ps qs from rfl,eL (fun z=>nd'.1 (bJ.mpr ⟨p,bX Ct,(qB z).symm⟩))]
   exact sY nd'.2 Ct (by simpa using h2)
theorem tY:∀{ps:List Pt} {qs:List (Addr×Addr×Addr)} {x:Str},(∀p∈ps,p.nm≠x)->dG (cj ps qs) (Sum.inr x)=none
 | [],_,_,_=>rfl
 | _::_,[],_,_=>rfl
 | a::ps,b::qs,x,h=>by
   rw [show cj (a::ps) (b::qs)=(Sum.inr a.nm, .ref b.1)::cj ps qs from rfl,eL (fun z=>h a cL (qB z))]
   exact tY fun p hp=>h p (cC _ hp)
theorem T8 {ps:List Pt} (h:qs.length=ps.length) (p:Pt) (q:Addr×Addr×Addr):cj (ps++[p]) (qs++[q])=cj ps qs++[(Sum.inr p.nm, .ref q.1)] :=by
 unfold cj
 rw [List.zipWith_append h.symm]
 rfl
theorem yJ {l:List Str} (h:x∉l):dG (yF l) (Sum.inr x)=none:=by
 unfold yF
 induction l with
 | nil=>rfl
 | cons a l ih=>
   rw [bH,eL (fun z=>h (by rw [<-qB z];exact cL))]
   exact ih fun m=>h (cC _ m)
theorem IS {l:List Str} (h:x∈l):dG (yF l) (Sum.inr x)=some (.bl true):=by
 unfold yF
 induction l with
 | nil=>simp at h
 | cons a l ih=>
   rw [bH]
   by_cases e:a=x
   . exact gq (by rw [e])
   . rw [eL (fun z=>e (qB z))]
     exact ih ((bP.mp h).resolve_left fun z=>e z.symm)
theorem aN.find {n:Nat} {st:HS} (h:aN T n ρ A H st) (e:st.aj[i]?=some p):∃q,A.qs[i]?=some q/\H q.1=some (.ins T.part q.2.1 (cU p q.2.2))/\H q.2.2=some (.lst (p.row.map V.int))/\ρ q.1=some (n,20,p.nm)/\ρ q.2.2=some (n,21,p.nm):=by
 have hi:i<A.qs.length:=by rw [h.ql];exact (dS.mp e).1
 exact ⟨A.qs[i],bu hi,h.opt i p _ e (bu hi)⟩
def eO (st:HS) (o:Str):HS:={ st with own:=st.own++[o],bq:=st.bq++[0],bD:=st.bD++[0],aj:=st.aj.map fun p=>{ p with row:=p.row++[0] } }
def aY (st:HS) (p:Pt):List Int:=List.zipWith (fun r c=>p.sc*r+c) p.row st.bq
def kY (st:HS) (tops:List Int):List Int:=List.zipWith (fun t c=>t-c) tops st.bq
def qF (st:HS) (p:Pt):HS:={ st with aj:=st.aj++[p],nms:=st.nms++[p.nm] }
def HG (st:HS) (x o:Str) (wo we:Int):HS:=qF st ⟨x,o,wo,we,1,kY st ((List.replicate st.own.length 0).set (st.own.idxOf o) st.prod)⟩
def aS (st:HS):Int:=(st.aj.map (·.wo)).sum
def kg (st:HS) (p:Pt):List (Str×Rat):=(List.zip st.own (aY st p)).filterMap fun x=>if 0<x.2 then some (x.1,Jm.fr x.2 st.prod) else none
def Cu (p:Pt):HO:= .tup [.str p.nm, .str p.ow, .int p.wo, .int p.we]
inductive iY (H:Hp):List V->List Pt->Prop
 | nil:iY H [] []
 | cons {r:Addr} {p:Pt} {vs:List V} {ps:List Pt}:H r=some (Cu p)->iY H vs ps->iY H (.ref r::vs) (p::ps)
def IT (n:Nat) (q1 q2:Addr) (ρ:dW) (H:Hp) (ρ':dW) (H':Hp):Prop:=∀b o,H b=some o->(∀t x,ρ b≠some (n,t,x))->b≠q1->b≠q2->H' b=some o/\ρ' b=ρ b
theorem IT.trans {n:Nat} {ρ1 ρ2:dW} (a:IT n q1 q2 ρ H ρ1 H1) (b:Fr n ρ1 H1 ρ2 H2):IT n q1 q2 ρ H ρ2 H2:=fun c o h k x y=>by
 obtain ⟨h1,e1⟩:=a c o h k x y
 obtain ⟨h2,e2⟩:=b c o h1 (by rw [e1];exact k)
 exact ⟨h2,e2.trans e1⟩
theorem IT.fr {n:Nat} {ρ1 ρ2:dW} (b:IT n q1 q2 ρ1 H1 ρ2 H2) (a:Fr n ρ H ρ1 H1) (h1:H q1=none) (h2:H q2=none):Fr n ρ H ρ2 H2:=fun c o h k=>by
 obtain ⟨e1,e2⟩:=a c o h k
 obtain ⟨e3,e4⟩:=b c o e1 (by rw [e2];exact k) (aF h h1) (aF h h2)
 exact ⟨e3,e4.trans e2⟩
def isNm (o:Str):Bool:=isName o.cps.toList
inductive Zq (T:TC) (vs:List V) (H:Hp) (Q:VK) (E:XK):Prop
 | mk (p dx:_) (_:vs=[.ref p]) (_:H p=some (.ins T.bot dx [])) (_:∀sp kn H',H sp=none->H kn=none->sp≠kn->(∀b o,H b=some o->b≠p->H' b=some o)->H' p=some (.ins T.bot dx (xg sp 1 kn))->H' sp=some (.lst [])->H' kn=some (.dK [])->Q .bU H')
def Nj (T:TC):Sp:=bx (Zq T)
inductive Zr (T:TC) (K:Fg) (vs:List V) (H:Hp) (Q:VK) (E:XK):Prop
 | mk (p dx l:Addr) (pt:Pt) (_:vs=[.ref p, .str pt.nm, .str pt.ow, .int pt.wo, .int pt.we, .int pt.sc, .ref l]) (_:H p=some (.ins T.part dx [])) (_:aH K H l (pt.row.map V.int)) (_:∀r H',H r=none->(∀b o,H b=some o->b≠p->H' b=some o)->H' p=some (.ins T.part dx (cU pt r))->H' r=some (.lst (pt.row.map V.int))->Q .bU H')
def DV (T:TC) (K:Fg):Sp:=bx (Zr T K)
inductive Zs (T:TC) (vs:List V) (H:Hp) (Q:VK) (E:XK):Prop
 | mk (p dx ρ n:_) (_:vs=[.ref p]) (_:H p=some (.ins T.hold dx [])) (_:Gh ρ H) (_:ρ p=none) (_:∀ρ' A H',A.a=p->HH T n ρ' A H' hs0->(∀b o,H b=some o->b≠p->H' b=some o/\ρ' b=ρ b)->Q .bU H')
def Nk (T:TC):Sp:=bx (Zs T)
inductive Zt (T:TC) (vs:List V) (H:Hp) (Q:VK) (E:XK):Prop
 | mk (n ρ A st o:_) (_:vs=[.ref A.a, .str o]) (_:aN T n ρ A H st) (_:o∈st.own) (_:Q (.int (st.own.idxOf o:Int)) H)
def vZ (T:TC):Sp:=bx (Zt T)
inductive WN (T:TC) (vs:List V) (H:Hp) (Q:VK) (E:XK):Prop
 | mk (n ρ A st:_) (i:Nat) (p:Pt) (q:Addr×Addr×Addr) (_:vs=[.ref A.a, .str p.nm]) (_:aN T n ρ A H st) (_:(st.aj.map (·.nm)).Nodup) (_:st.aj[i]?=some p) (_:A.qs[i]?=some q) (_:Q (.ref q.1) H)
def AQ (T:TC):Sp:=bx (WN T)
inductive Ru (T:TC) (vs:List V) (H:Hp) (Q:VK) (E:XK):Prop
 | mk (n ρ A st x:_) (_:vs=[.ref A.a, .str x]) (_:aN T n ρ A H st) (_:isNm x=true) (_:x∉st.nms) (_:∀H',aP H H'->Q .bU H')
def Cv (T:TC):Sp:=bx (Ru T)
inductive afi (T:TC) (K:Fg) (vs:List V) (H:Hp) (Q:VK) (E:XK):Prop
 | mk (n ρ A st l:_) (tops:List Int) (_:vs=[.ref A.a, .ref l]) (_:aN T n ρ A H st) (_:aH K H l (tops.map V.int)) (_:tops.length=st.bq.length) (_:tops.length<=1000) (_:∀r H',aP H H'->H r=none->H' r=some (.lst ((kY st tops).map V.int))->Q (.ref r) H')
def O9 (T:TC) (K:Fg):Sp:=bx (afi T K)
inductive Zu (T:TC) (vs:List V) (H:Hp) (Q:VK) (E:XK):Prop
 | mk (n ρ A st:_) (i:Nat) (p:Pt) (q:Addr×Addr×Addr) (_:vs=[.ref A.a, .ref q.1]) (_:aN T n ρ A H st) (_:Wf st) (_:st.aj[i]?=some p) (_:A.qs[i]?=some q) (_:∀r H',aP H H'->H r=none->H' r=some (.lst ((aY st p).map V.int))->Q (.ref r) H')
def z7 (T:TC):Sp:=bx (Zu T)
inductive abV (T:TC) (vs:List V) (H:Hp) (Q:VK) (E:XK):Prop
 | mk (n ρ A st:_) (q:Addr×Addr×Addr) (p:Pt) (_:vs=[.ref A.a, .ref q.1]) (_:HH T n ρ A H st) (_:H q.1=some (.ins T.part q.2.1 (cU p q.2.2))) (_:H q.2.2=some (.lst (p.row.map V.int))) (_:ρ q.1=none) (_:ρ q.2.2=none) (_:p.nm∉st.nms) (_:Wf (qF st p)) (_:∀ρ' A' H',HH T n ρ' A' H' (qF st p:_)->A'.a=A.a->IT n q.1 q.2.2 ρ H ρ' H'->Q .bU H')
def IU (T:TC):Sp:=bx (abV T)
inductive Zv (T:TC) (vs:List V) (H:Hp) (Q:VK) (E:XK):Prop
 | mk (n ρ A st o:_) (_:vs=[.ref A.a, .str o]) (_:HH T n ρ A H st) (_:isNm o=true) (_:o∉st.own) (_:st.own.length<100) (_:uV T n ρ A H (eO st o:_) fun H'=>Q .bU H')
def DW (T:TC):Sp:=bx (Zv T)
inductive abW (T:TC) (vs:List V) (H:Hp) (Q:VK) (E:XK):Prop
 | mk (n ρ A st x o wo we:_) (_:vs=[.ref A.a, .str x, .str o, .int wo, .int we]) (_:HH T n ρ A H st) (_:isNm x=true) (_:x∉st.nms) (_:o∈st.own) (_:1<=wo) (_:0<=we) (_:st.nms.length<1000) (_:st.aj.length<1000) (_:uV T n ρ A H (HG st x o wo we:_) fun H'=>Q .bU H')
def Rv (T:TC):Sp:=bx (abW T)
inductive Zw (T:TC) (vs:List V) (H:Hp) (Q:VK) (E:XK):Prop
 | mk (n ρ A st:_) (_:vs=[.ref A.a]) (_:aN T n ρ A H st) (_:st.aj.length<=1000) (_:∀r ws H',aP H H'->H r=none->H' r=some (.lst ws)->iY H' ws st.aj->Q (.ref r) H')
def Nl (T:TC):Sp:=bx (Zw T)
inductive Zx (T:TC) (vs:List V) (H:Hp) (Q:VK) (E:XK):Prop
 | mk (n ρ A st:_) (_:vs=[.ref A.a]) (_:aN T n ρ A H st) (_:st.aj.length<=1000) (_:∀H',aP H H'->Q (.int (aS st)) H')
def z8 (T:TC):Sp:=bx (Zx T)
inductive Zy (T:TC) (vs:List V) (H:Hp) (Q:VK) (E:XK):Prop
 | mk (bt db sp kn:Addr) (stp:List Int) (prod top:Int) (_:vs=[.ref bt, .int top]) (_:H bt=some (.ins T.bot db (xg sp prod kn))) (_:H sp=some (.lst (stp.map V.int))) (_:prod=stp.foldl (·*·) 1) (_:(∀s∈stp,2<=s)) (_:Jm.Sz 8000 prod) (_:∀r H',aP H H'->H' r=some (tQ (Jm.fr top prod))->Q (.ref r) H')
def z9 (T:TC):Sp:=bx (Zy T)
inductive WO (T:TC) (vs:List V) (H:Hp) (Q:VK) (E:XK):Prop
 | mk (bt db sp kn:Addr) (stp:List Int) (prod top:Int) (kvs:List (Key×V)) (_:vs=[.ref bt, .int top]) (_:H bt=some (.ins T.bot db (xg sp prod kn))) (_:H sp=some (.lst (stp.map V.int))) (_:prod=stp.foldl (·*·) 1) (_:(∀s∈stp,2<=s)) (_:Jm.Sz 8000 prod) (_:H kn=some (.dK kvs)) (_:IK H kvs prod) (_:kvs.length<10000000) (_:(kvs.map (·.1)).Nodup) (_:∀r H' kvs',(∀b o,H b=some o->b≠kn->H' b=some o)->H' kn=some (.dK kvs')->IK H' kvs' prod->kvs'.length<=kvs.length+1->(kvs'.map (·.1)).Nodup->H' r=some (tQ (Jm.fr top prod))->Q (.ref r) H')
def IV (T:TC):Sp:=bx (WO T)
inductive kZ (ρ:dW) (H:Hp):List V->List jN->Prop
 | nil:kZ ρ H [] []
 | cons {r l:Addr} {x:jN} {ss:List V} {vs:List V} {as:List jN}:H r=some (.tup [.str x.nm, .str x.ow, .int x.wo, .ref l])->H l=some (.lst ss)->ρ l=none->i8 H ss x.sh->kZ ρ H vs as->kZ ρ H (.ref r::vs) (x::as)
inductive WQ (T:TC) (vs:List V) (H:Hp) (Q:VK) (E:XK):Prop
 | mk (n ρ A st:_) (_:vs=[.ref A.a]) (_:HH T n ρ A H st) (_:∀r ws H',aP H H'->H r=none->H' r=some (.lst ws)->kZ ρ H' ws st.dj->Q (.ref r) H')
def IW (T:TC):Sp:=bx (WQ T)
theorem iY.mono {vs:List V} {l:List Pt} (h:iY H vs l) (g:∀b xs,H b=some (.tup xs)->H' b=some (.tup xs)):iY H' vs l:=by
 induction h with
 | nil=>exact .nil
 | cons a _ ih=>exact .cons (g _ _ a) ih
theorem iY.snoc {vs:List V} {l:List Pt} {r:Addr} (h:iY H vs l) (e:H r=some (Cu p)):iY H (vs++[.ref r]) (l++[p]):=by
 induction h with
 | nil=>exact .cons e .nil
 | cons a _ ih=>exact .cons a ih
theorem i8.snoc {vs:List V} {l:List (Str×Rat)} {r:Addr} {q:Rat} (h:i8 H vs l) (e:H r=some (.tup [.str x, .ref f])) (e2:H f=some (tQ q)):i8 H (vs++[.ref r]) (l++[(x,q)]):=by
 induction h with
 | nil=>exact .cons e e2 .nil
 | cons a b _ ih=>exact .cons a b ih
theorem iD {p:Addr} (h:H p=none\/∃u,H p=some u/\isTup u=false):∀b xs,H b=some (.tup xs)->upd H p o b=some (.tup xs):=fun b xs e=>by
 rw [az (fun z=>?_)]
 . exact e
 . rw [z] at e
   rcases h with h|⟨u,h,t⟩
   . rw [h] at e;cases e
   . rw [h] at e;cases e;cases t
theorem IZ (h:isNm x=true):x.cps.toList.length<=100000:=by
 unfold isNm isName at h
 have:=aZ (lX.mp (lX.mp h).1).2
 omega
theorem pY {d:Addr} {o:Obj} (e:H d=some (.dK kvs)) (s:aP (upd H d (.eX o (.dK kvs))) H1):aP H (upd H1 d (.dK kvs)):=fun b u q=>by
 by_cases h:b=d
 . rw [h,e] at q;cases q;rw [h];exact ah
 . rw [az h];exact s b u (by rw [az h];exact q)
theorem dX {d:Addr} {o:Obj} {u:HO} (e:H d=some (.dK kvs)) (q:H b=some u) (h:∀k,u ≠ .dK k):upd H d (.eX o (.dK kvs)) b=some u:=by
 rw [az (fun z=>by rw [z,e] at q;cases q;exact h _ rfl)];exact q
theorem nt {d:Addr} {o:Obj} (e:H d=some (.dK kvs)) (q:upd H d (.eX o (.dK kvs)) b=none):H b=none:=by
 by_cases h:b=d
 . rw [h,ah] at q;cases q
 . rw [az h] at q;exact q
theorem aP.tups (s:aP H H'):∀b xs,H b=some (.tup xs)->H' b=some (.tup xs):=fun b xs h=>s b _ h
theorem take_snoc {α:Type} {l:List α} {x:α} (h:l[i]?=some x):l.take (i+1)=l.take i++[x] :=by rw [List.take_add_one,h];rfl
theorem rj {α β γ:Type} (f:α->β->γ) {xs:List α} {ys:List β} {x:α} {y:β} (h1:xs[i]?=some x) (h2:ys[i]?=some y):List.zipWith f (xs.take (i+1)) (ys.take (i+1))=List.zipWith f (xs.take i) (ys.take i)++[f x y] :=by
 have l1:=(dS.mp h1).1
 have l2:=(dS.mp h2).1
 rw [take_snoc h1,take_snoc h2,List.zipWith_append (by rw [nY,nY];omega)]
 rfl
theorem fZ {l:List Int} {v:V} (h:(l.map V.int)[i]?=some v):∃z,v = .int z/\l[i]?=some z:=by
 rw [cg] at h
 obtain ⟨z,hz,rfl⟩:=lW.mp h
 exact ⟨z,Z,hz⟩
theorem HH.mono {n:Nat} {st:HS} (h:HH T n ρ A H st) (s:aP H H'):HH T n ρ A H' st:=⟨h.g.same s,h.h.mono s,h.wf⟩
theorem Cw {n:Nat} {u:HO} (c:ρ a=none) (h:H a=some u) (t:isTup u=false):Kp n ρ ρ H (upd H a o) ts:=
 ⟨iD (.inr ⟨u,h,t⟩),fun b x y w _ hc e=>⟨by rw [az (fun z=>by rw [z,c] at hc;cases hc)];exact e,hc⟩⟩
theorem HH.Cy {n:Nat} {st:HS} {u:HO} (h:HH T n ρ A H st) (c:ρ a=none) (e:H a=some u) (t:isTup u=false) (t2:isTup o=false):HH T n ρ A (upd H a o) st:=⟨h.g.wr t2,h.h.same (Cw c e t),h.wf⟩
theorem Fr.new {n:Nat} (f:Fr n ρ H ρ' H') (h:H a=none):Fr n ρ H ρ' (upd H' a o):=fun b u e k=>by
 rw [az (aF e h)];exact f b u e k
theorem E8 {α β γ:Type} (f:α->β->γ) {xs:List α} {ys:List β} (h:xs.length=ys.length) (x:α) (y:β):List.zipWith f (xs++[x]) (ys++[y])=List.zipWith f xs ys++[f x y] :=by
 rw [List.zipWith_append h];rfl
theorem DX {st:HS} (w:Wf st) {o:Str} (h:o∉st.own) (hl:st.own.length<100):Wf (eO st o):=by
 have P:∀p∈(eO st o).aj,∃p0∈st.aj,p={ p0 with row:=p0.row++[0] }:=fun p hp=>by
  obtain ⟨p0,h0,rfl⟩:=bJ.mp (show p∈st.aj.map _ from hp)
  exact ⟨p0,h0,Z⟩
 have p1:=w.eY
 refine ⟨?_,w.xh,?_,fun p hp=>?_,fun p hp=>?_,fun p hp=>?_,?_,?_,w.eY,w.mO,w.rV,?_,w.xj,?_,w.yI,w.tX,w.E7,w.big,fun c hc=>?_,fun p hp=>?_,fun p hp r hr=>?_,fun p hp t ht=>?_,fun p hp=>?_,fun u hu=>?_⟩
 . exact nO w.l7 h
 . show ((st.aj.map fun p=>{ p with row:=p.row++[0] }).map (·.nm)).Nodup
   rw [c6]
   exact w.dw
 . obtain ⟨p0,h0,rfl⟩:=P p hp
   exact w.sub p0 h0
 . obtain ⟨p0,h0,rfl⟩:=P p hp
   show (p0.row++[0]).length=(st.own++[o]).length
   rw [dg,dg,w.rows p0 h0]
   rfl
 . obtain ⟨p0,h0,rfl⟩:=P p hp
   exact AD _ (w.ow p0 h0)
 . show (st.bq++[0]).length=(st.own++[o]).length
   rw [dg,dg,w.fW]
   rfl
 . show (st.bD++[0]).length=(st.own++[o]).length
   rw [dg,dg,w.l9]
   rfl
 . show (st.own++[o]).length<=100
   rw [dg]
   exact hl
 . show (st.aj.map _).length<=1000
   rw [aE]
   exact w.l_
 . rcases gi.mp (show c∈st.bq++[0] from hc) with z|z
   . exact w.nj c z
   . rw [fV.mp z];exact ⟨kI _,by show (0:Int)<=st.prod;omega⟩
 . obtain ⟨p0,h0,rfl⟩:=P p hp
   exact w.oK p0 h0
 . obtain ⟨p0,h0,rfl⟩:=P p hp
   rcases gi.mp (show r∈p0.row++[0] from hr) with z|z
   . exact w.mh p0 h0 r z
   . rw [fV.mp z];show -st.prod<=0/\0<=st.prod;omega
 . obtain ⟨p0,h0,rfl⟩:=P p hp
   have el:p0.row.length=st.bq.length:=by rw [w.rows p0 h0,w.fW]
   have ht:t∈List.zipWith (fun r c=>p0.sc*r+c) (p0.row++[0]) (st.bq++[0]):=ht
   rw [E8 _ el _ _] at ht
   rcases gi.mp ht with z|z
   . exact w.nq p0 h0 t z
   . rw [fV.mp z];show 0<=p0.sc*0+0/\p0.sc*0+0<=st.prod;omega
 . obtain ⟨p0,h0,rfl⟩:=P p hp
   exact w.jO p0 h0
 . rcases gi.mp (show u∈st.bD++[0] from hu) with z|z
   . exact w.DU u z
   . rw [fV.mp z];exact jC (by decide +kernel)
theorem Nm {st:HS} (w:Wf st) (h1:p.nm∉st.nms) (h2:st.nms.length<1000) (h3:st.aj.length<1000) (h4:p.row.length=st.own.length) (h5:p.ow∈st.own) (h6:1<=p.sc/\p.sc<=st.prod) (h7:∀r∈p.row,-st.prod<=r/\r<=st.prod)
  (h8:∀t∈List.zipWith (fun r c=>p.sc*r+c) p.row st.bq,0<=t/\t<=st.prod) (h9:1<=p.wo/\0<=p.we):Wf (qF st p):=by
 have P:∀{M:Pt->Prop},(∀x∈st.aj,M x)->M p->∀x∈st.aj++[p],M x:=fun a b x hx=>by
  rcases gi.mp hx with z|z
  . exact a x z
  . rw [fV.mp z];exact b
 refine ⟨w.l7,nO w.xh h1,?_,P (fun x hx=>AD _ (w.sub x hx)) (jn _ (fV.mpr rfl)),P w.rows h4,P w.ow h5,w.fW,w.l9,w.eY,w.mO,w.rV,w.jV,?_,?_,w.yI,w.tX,w.E7,w.big,w.nj,P w.oK h6,P w.mh h7,P w.nq h8,P w.jO h9,w.DU⟩
 . show ((st.aj++[p]).map (·.nm)).Nodup
   rw [bM]
   refine nO w.dw fun m=>?_
   obtain ⟨x,hx,e⟩:=bJ.mp m
   have e:x.nm=p.nm:=e
   exact h1 (by rw [<-e];exact w.sub x hx)
 . show (st.nms++[p.nm]).length<=1000
   rw [dg];exact h2
 . show (st.aj++[p]).length<=1000
   rw [dg];exact h3
theorem tZ {α β γ:Type} {f:α->β->γ} {t:γ}:∀{xs:List α} {ys:List β},t∈List.zipWith f xs ys->∃x∈xs,∃y∈ys,t=f x y
 | [],_,h=>by simp at h
 | _::_,[],h=>by simp at h
 | x::xs,y::ys,h=>by
   rcases bP.mp (show t∈f x y::List.zipWith f xs ys from h) with e|m
   . exact ⟨x,cL,y,cL,e⟩
   . obtain ⟨a,ha,b,hb,e⟩:=tZ m
     exact ⟨a,cC _ ha,b,cC _ hb,e⟩
theorem I0:∀{ts cs:List Int},List.zipWith (fun r c=>1*r+c) (List.zipWith (fun t c=>t-c) ts cs) cs=ts.take cs.length
 | [],_=>by simp
 | _::_,[]=>by simp
 | t::ts,c::cs=>by
   show (1*(t-c)+c)::List.zipWith _ (List.zipWith _ ts cs) cs=t::ts.take cs.length
   rw [I0]
   congr 1
   omega
theorem Cz {n:Nat} {b t:Int} (h:t∈(List.replicate n 0).set i b):t=0\/t=b:=by
 rcases Ob h with z|z
 . exact .inl (List.eq_of_mem_replicate z)
 . exact .inr z
variable {wo we:Int}
theorem Np {st:HS} (w:Wf st) {o:Str} (h1:x∉st.nms) (h2:st.nms.length<1000) (h3:st.aj.length<1000) (ho:o∈st.own) (h4:1<=wo) (h5:0<=we):Wf (HG st x o wo we):=by
 have p1:=w.eY
 refine Nm w h1 h2 h3 ?_ ho ⟨kI 1,w.eY⟩ (fun r hr=>?_) (fun t ht=>?_) ⟨h4,h5⟩
 . show (List.zipWith _ ((List.replicate st.own.length 0).set _ _) st.bq).length=_
   rw [kU,iw,nX,w.fW,wO]
 . obtain ⟨t,ht,c,hc,rfl⟩:=tZ (show r∈List.zipWith _ _ st.bq from hr)
   have:=w.nj c hc
   rcases Cz ht with rfl|rfl <;> omega
 . have e:List.zipWith (fun r c=>1*r+c) (kY st ((List.replicate st.own.length 0).set (st.own.idxOf o) st.prod)) st.bq=_:=I0
   have ht:t∈List.zipWith (fun r c=>1*r+c) (kY st ((List.replicate st.own.length 0).set (st.own.idxOf o) st.prod)) st.bq:=ht
   rw [e] at ht
   rcases Cz (List.mem_of_mem_take ht) with rfl|rfl <;> omega
theorem jW {u:HO} (h:a≠b):upd (upd H a o) b u=upd (upd H b u) a o:=by
 funext c
 unfold upd
 by_cases e1:c=b
 . rw [aB e1,aA (fun z=>h (z.symm.trans e1)),aB e1]
 . rw [aA e1]
   by_cases e2:c=a
   . rw [aB e2,aB e2]
   . rw [aA e2,aA e2,aA e1]
theorem xm (h:H a=some o):upd H a o=H:=by
 funext c
 unfold upd
 by_cases e:c=a
 . rw [aB e,e,h]
 . rw [aA e]
theorem I_ {α:Type} (g:α->α) {l:List α} {p:α} (h:l[i]?=some p):((l.take i).map g++l.drop i)[i]?=some p:=by
 have hi:=(dS.mp h).1
 have e:((l.take i).map g).length=i:=by rw [aE,nY];omega
 rw [HL (by omega),e,BJ,List.getElem?_drop]
 exact h
theorem Ja {α:Type} (g:α->α) {l:List α} {p:α} (h:l[i]?=some p):((l.take i).map g++l.drop i).set i (g p)=(l.take (i+1)).map g++l.drop (i+1):=by
 have hi:=(dS.mp h).1
 have e:((l.take i).map g).length=i:=by rw [aE,nY];omega
 have ep:l[i]=p:=by rw [bu hi] at h;exact fH h
 rw [List.set_append_right _ _ (by omega),e,BJ,List.drop_eq_getElem_cons hi,Oq,take_snoc h,bM,Ow]
 rfl
theorem pZ {α β:Type} (g:α->α) (f:α->β) (hf:∀x,f (g x)=f x) (l:List α) (i:Nat):((l.take i).map g++l.drop i).map f=l.map f:=by
 rw [bM,c6,show f ∘ g=f from funext hf,<-bM,List.take_append_drop]
theorem nR {ps ps':List Pt} (h:ps.map (·.nm)=ps'.map (·.nm)):cj ps qs=cj ps' qs:=by
 have:∀{ps:List Pt},cj ps qs=List.zipWith (fun (x:Str) q=>((Sum.inr x:Key),V.ref q.1)) (ps.map (·.nm)) qs:=fun {ps}=>by unfold cj;rw [List.zipWith_map_left]
 rw [this,this,h]
structure jg (p:Addr) (H:Hp) (ρ:dW) (H':Hp) (ρ':dW) (l:List (Addr×HO×qZ)):Prop where
 m:∀e∈l,H' e.1=some e.2.1/\ρ' e.1=some e.2.2/\e.1≠p
 k:∀b o,H b=some o->b≠p->H' b=some o/\ρ' b=ρ b
 g:Gh ρ' H'
 pp:∃u,H' p=some u
theorem jg.new {p:Addr} {l:List (Addr×HO×qZ)} {c:qZ} (h:jg p H ρ H' ρ' l) (ha:H' a=none) (t:isTup o=false):jg p H ρ (upd H' a o) (cR ρ' a c) ((a,o,c)::l):=by
 obtain ⟨u,hu⟩:=h.pp
 refine ⟨fun e he=>?_,fun b w hb hp=>?_,(h.g.alloc ha).color ah t,u,by rw [az (aF hu ha)];exact hu⟩
 . rcases bP.mp he with rfl|he
   . exact ⟨ah,dH,fun z=>by rw [show a=p from z,hu] at ha;cases ha⟩
   . obtain ⟨x,y,z⟩:=h.m e he
     have:e.1≠a:=aF x ha
     rw [az this,cJ this]
     exact ⟨x,y,z⟩
 . obtain ⟨x,y⟩:=h.k b w hb hp
   have:b≠a:=aF x ha
   rw [az this,cJ this]
   exact ⟨x,y⟩
theorem jg.wr {p:Addr} {l:List (Addr×HO×qZ)} {u:HO} (h:jg p H ρ H' ρ' l) (t:isTup u=false):jg p H ρ (upd H' p u) ρ' l:=by
 refine ⟨fun e he=>?_,fun b w hb hp=>?_,h.g.wr t,u,ah⟩
 . obtain ⟨x,y,z⟩:=h.m e he
   rw [az z];exact ⟨x,y,z⟩
 . obtain ⟨x,y⟩:=h.k b w hb hp
   rw [az hp];exact ⟨x,y⟩
theorem jg.same {p:Addr} {CA:Hp} {l:List (Addr×HO×qZ)} (h:jg p H ρ H' ρ' l) (s:aP H' CA):jg p H ρ CA ρ' l:=by
 obtain ⟨u,hu⟩:=h.pp
 exact ⟨fun e he=>let ⟨x,y,z⟩:=h.m e he;⟨s _ _ x,y,z⟩,fun b w hb hp=>let ⟨x,y⟩:=h.k b w hb hp;⟨s _ _ x,y⟩,h.g.same s,u,s _ _ hu⟩
theorem jg.add {p:Addr} {H0:Hp} {ρ0:dW} {l l0:List (Addr×HO×qZ)} {c:qZ} (h:jg p H ρ H' ρ' l) (ha:H' a=some o) (t:isTup o=false) (h0:jg p H ρ H0 ρ0 l0) (hn:H0 a=none) (hl:∀e∈l,e.1≠a):jg p H ρ H' (cR ρ' a c) ((a,o,c)::l):=by
 refine ⟨fun e he=>?_,fun b w hb hp=>?_,h.g.color ha t,h.pp⟩
 . rcases bP.mp he with rfl|he
   . obtain ⟨u,hu⟩:=h0.pp
     exact ⟨ha,dH,fun z=>by rw [show a=p from z,hu] at hn;cases hn⟩
   . obtain ⟨x,y,z⟩:=h.m e he
     rw [cJ (hl e he)]
     exact ⟨x,y,z⟩
 . obtain ⟨x,y⟩:=h.k b w hb hp
   obtain ⟨x0,_⟩:=h0.k b w hb hp
   rw [cJ (aF x0 hn)]
   exact ⟨x,y⟩
theorem Jb:∀(l:List Int) (a:Int),l.foldl (·*·) a=a*l.foldl (·*·) 1
 | [],a=>by simp
 | s::l,a=>by
   rw [kH,Jb l (a*s),kH,Jb l (1*s),Int.one_mul,gY]
theorem DY (s:Int) (l:List Int):(s::l).foldl (·*·) 1=s*l.foldl (·*·) 1:=by rw [kH,Jb,Int.one_mul]
theorem WR (s:Int) (l:List Int):(l++[s]).foldl (·*·) 1=l.foldl (·*·) 1*s:=by rw [DM];rfl
theorem Jc:∀{l:List Int},(∀s∈l,2<=s)->1<=l.foldl (·*·) 1
 | [],_=>by decide
 | s::l,h=>by
   rw [DY]
   have h1:=h s cL
   have h2:=Jc (l:=l) fun x hx=>h x (cC _ hx)
   have:=Int.mul_le_mul (a:=1) (b:=1) (c:=s) (d:=l.foldl (·*·) 1) (by omega) h2 (by decide) (by omega)
   omega
theorem Vq:∀{l:List Int} {s:Int},(∀s∈l,2<=s)->s∈l->s<=l.foldl (·*·) 1
 | [],_,_,h=>by simp at h
 | a::l,s,h,m=>by
   rw [DY]
   have h1:=h a cL
   have h2:=Jc (l:=l) fun x hx=>h x (cC _ hx)
   rcases bP.mp m with rfl|m
   . have:=HK h2 (by omega:0<=s)
     omega
   . have h3:=Vq (fun x hx=>h x (cC _ hx)) m
     have:=Qi (by omega:1<=a) (by omega:0<=l.foldl (·*·) 1)
     omega
theorem Rw {t d s:Int} (hd:0<d) (hs:0<s) (c:Jm.cf t d=1):Jm.cf (t / Jm.cf t s) (d*(s / Jm.cf t s))=1/\0<d*(s / Jm.cf t s):=by
 have gp:0<Jm.cf t s:=Jm.B7 t s (.inr hs)
 obtain ⟨u,hu⟩:=Jm.vv t s
 obtain ⟨v,hv⟩:=Jm.oG t s
 generalize eg:Jm.cf t s=g at *
 have e1:t / g=u:=by rw [hu,DC _ (by omega)]
 have e2:s / g=v:=by rw [hv,DC _ (by omega)]
 have vp:0<v:=by
  rcases BI 0 v with z|z
  . exact z
  . have:=HK z (by omega:0<=g)
    omega
 rw [e1,e2]
 have c0:Nat.Coprime t.natAbs d.natAbs:=by unfold Jm.cf at c;exact_mod_cast c
 have c1:Nat.Coprime u.natAbs d.natAbs:=Nat.Coprime.coprime_dvd_left ⟨g.natAbs,by rw [hu,BC,Nat.mul_comm]⟩ c0
 have c2:Nat.Coprime u.natAbs v.natAbs:=by
  have hg:Int.gcd t s=g.natAbs:=by unfold Jm.cf at eg;omega
  have hg2:Nat.gcd t.natAbs s.natAbs=g.natAbs:=hg
  have:=Nat.coprime_div_gcd_div_gcd (m:=t.natAbs) (n:=s.natAbs) (by rw [hg2];omega)
  rw [hg2] at this
  have gn:0<g.natAbs:=by omega
  rw [hu,hv,BC,BC,Nat.mul_div_cancel_left _ gn,Nat.mul_div_cancel_left _ gn] at this
  exact this
 refine ⟨?_,Int.mul_pos hd vp⟩
 have:=Nat.Coprime.mul_right c1 c2
 rw [<-BC] at this
 unfold Jm.cf
 exact_mod_cast this
theorem T9 {κ:Type} [DecidableEq κ] {kvs:List (κ×V)} {k:κ} {v:V} (h:dG kvs k=some v):(k,v)∈kvs:=by
 unfold dG at h
 obtain ⟨p,hp,rfl⟩:=lW.mp h
 have:=List.find?_some hp
 have e:p.1=k:=aZ this
 rw [<-e]
 exact List.mem_of_find?_eq_some hp
theorem aN.T_ {n:Nat} {st:HS} (h:aN T n ρ A H st) (k:∀b o,H b=some o->b≠A.kn->H' b=some o) {m:Nat} (e1:H' A.kn=some (.dK kvs)) (e2:IK H' kvs st.prod) (e3:kvs.length<=m) (e4:(kvs.map (·.1)).Nodup):aN T n ρ A H' { st with kn:=m }:=by
 obtain ⟨kv0,k0,_⟩:=h.okn
 have z:=fun {b:Addr} {t:Nat} {x:Str} {o:HO} (u:t≠9) (c:ρ b=some (n,t,x)) (e:H b=some o)=>k b o e (Cr c h.iS (fun w=>by cases w;exact u rfl))
 have tp:∀b xs,H b=some (.tup xs)->H' b=some (.tup xs):=fun b xs e=>k b _ e (iX e k0 (by intro w;cases w))
 obtain ⟨vs,h1,h2⟩:=h.pP
 have kp:Kp n ρ ρ H H' fun t=>decide (t≠9):=⟨tp,fun b t x o u c e=>⟨z (aZ u) c e,c⟩⟩
 exact ⟨z (by decide) h.ca h.oa,h.ca,z (by decide) h.iC h.iB,h.iC,z (by decide) h.gc h.dF,h.gc,⟨vs,z (by decide) h.iO h1,h2.keep kp (by decide)⟩,h.iO,z (by decide) h.iP h.q_,h.iP,z (by decide) h.iQ h.jv,h.iQ,z (by decide) h.jf h.i6,h.jf,z (by decide) h.cpu h.kM,h.cpu,z (by decide) h.iR h.nQ,h.iR,⟨kvs,e1,e2,e3,e4⟩,h.iS,h.ql,
  fun i p q a b=>let ⟨x,y,c,d⟩:=h.opt i p q a b;⟨z (by decide) c x,z (by decide) d y,c,d⟩⟩
theorem abX {st:HS} (w:Wf st) {m:Nat} (h:m<=1000000):Wf { st with kn:=m }:=⟨w.l7,w.xh,w.dw,w.sub,w.rows,w.ow,w.fW,w.l9,w.eY,w.mO,w.rV,w.jV,w.xj,w.l_,w.yI,w.tX,h,w.big,w.nj,w.oK,w.mh,w.nq,w.jO,w.DU⟩
theorem kL.length {n:Nat} {vs:List V} (h:kL n ρ H vs l):vs.length=l.length:=by
 induction h with
 | nil=>rfl
 | cons _ _ _ _ _ ih=>simp [ih]
theorem kL.get {n:Nat} {vs:List V} (h:kL n ρ H vs l):∀{i:Nat} {x:V},vs[i]?=some x->∃r q y ss,x = .ref r/\l[i]?=some y/\H r=some (.tup [.str y.nm, .str y.ow, .int y.wo, .ref q])/\H q=some (.lst ss)/\ρ q=some (n,30,⟨#[]⟩)/\i8 H ss y.sh:=by
 induction h with
 | nil=>intro i x e;simp at e
 | @cons r q y ss vs as a b c d _ ih=>
   intro i x e
   cases i with
   | zero=>simp at e;subst e;exact ⟨r,q,y,ss,Z,Z,a,b,c,d⟩
   | succ i=>simp at e;obtain ⟨r',q',y',ss',e1,e2,e3⟩:=ih e;exact ⟨r',q',y',ss',e1,by simpa using e2,e3⟩
inductive jy (a:Addr) (ρ:dW) (H:Hp):List V->List jN->Prop
 | nil:jy a ρ H [] []
 | cons {r l:Addr} {x:jN} {ss:List V} {vs:List V} {as:List jN}:H r=some (.tup [.str x.nm, .str x.ow, .int x.wo, .ref l])->H l=some (.lst ss)->ρ l=none->l≠a->i8 H ss x.sh->jy a ρ H vs as->jy a ρ H (.ref r::vs) (x::as)
theorem jy.to {vs:List V} (h:jy a ρ H vs l):kZ ρ H vs l:=by
 induction h with
 | nil=>exact .nil
 | cons x y z _ w _ ih=>exact .cons x y z w ih
theorem jy.mono {vs:List V} (h:jy a ρ H vs l) (g:aP H H'):jy a ρ H' vs l:=by
 induction h with
 | nil=>exact .nil
 | cons x y z n w _ ih=>exact .cons (g _ _ x) (g _ _ y) z n (w.mono g.tups) ih
theorem jy.upd {vs:List V} (h:jy a ρ H vs l) (ha:H a=some (.lst xs)):jy a ρ (L2.upd H a (.lst ys)) vs l:=by
 induction h with
 | nil=>exact .nil
 | cons x y z n w _ ih=>exact .cons (iD (.inr ⟨_,ha,Z⟩) _ _ x) (by rw [az n];exact y) z n (w.mono (iD (.inr ⟨_,ha,Z⟩))) ih
theorem jy.snoc {vs:List V} {as:List jN} {r l:Addr} {x:jN} (h:jy a ρ H vs as) (e1:H r=some (.tup [.str x.nm, .str x.ow, .int x.wo, .ref l])) (e2:H l=some (.lst ss)) (e3:ρ l=none) (e5:l≠a) (e4:i8 H ss x.sh):jy a ρ H (vs++[.ref r]) (as++[x]):=by
 induction h with
 | nil=>exact .cons e1 e2 e3 e5 e4 .nil
 | cons x y z n w _ ih=>exact .cons x y z n w ih
theorem kZ.length {vs:List V} (h:kZ ρ H vs l):vs.length=l.length:=by
 induction h with
 | nil=>rfl
 | cons _ _ _ _ _ ih=>simp [ih]
def Sq (K:Fg) (H:Hp) (r:Addr) (xs:List V):Prop:=aH K H r xs\/bN K H r xs
theorem aP.sq {r:Addr} (g:aP H H') (h:Sq K H r xs):Sq K H' r xs:=h.elim (fun z=> .inl (g.seq z)) fun z=> .inr (g.tup z)
structure t7 (K:Fg) (H:Hp) (us:List V) (ps:List Pt):Prop where
 len:us.length=ps.length
 at_:∀(i:Nat) (p:Pt),ps[i]?=some p->∃r xs,us[i]?=some (.ref r)/\Sq K H r xs/\xs[0]?=some (.str p.nm)/\xs[1]?=some (.str p.ow)/\xs[2]?=some (.int p.wo)/\xs[3]?=some (.int p.we)
theorem t7.mono {us:List V} {ps:List Pt} (h:t7 K H us ps) (g:aP H H'):t7 K H' us ps:=⟨h.len,fun i p e=>let ⟨r,xs,a,b,c⟩:=h.at_ i p e;⟨r,xs,a,g.sq b,c⟩⟩
def E9 (own:List Str) (tops:List Int) (b:Int):List (Str×Rat):=(List.zip own tops).filterMap fun x=>if 0<x.2 then some (x.1,Jm.fr x.2 b) else none
theorem iY.length {vs:List V} {l:List Pt} (h:iY H vs l):vs.length=l.length:=by
 induction h with
 | nil=>rfl
 | cons _ _ ih=>simp [ih]
theorem iY.get {vs:List V} {l:List Pt} (h:iY H vs l):∀{i:Nat} {p:Pt},l[i]?=some p->∃r,vs[i]?=some (.ref r)/\H r=some (Cu p):=by
 induction h with
 | nil=>intro i p e;simp at e
 | @cons r q vs ps a _ ih=>
   intro i p e
   cases i with
   | zero=>simp at e;subst e;exact ⟨r,Z,a⟩
   | succ i=>simp at e;obtain ⟨r',e1,e2⟩:=ih e;exact ⟨r',by simpa using e1,e2⟩
def Ua (x:Str):Prop:=oJ x.cps.toList
theorem O_:∀i:Fin 26,Cg "abcdefghijklmnopqrstuvwxyz" (97+i.val)=true:=by decide +kernel
theorem Ua.isNm (h:Ua x):L2.isNm x=true:=by
 unfold L2.isNm isName
 have h1:=h.lo
 have h2:=h.hi
 refine lX.mpr ⟨lX.mpr ⟨a_ (by omega),a_ (by omega)⟩,tH.mpr fun c hc=>?_⟩
 have h3:=h.WD c hc
 have:=O_ ⟨c-97,by omega⟩
 rw [show 97+(c-97)=c from by omega] at this
 exact this
theorem uW:∀(l:List Str) (st:HS),(l.foldl eO st).own=st.own++l
 | [],st=>by simp
 | o::l,st=>by
   rw [kH,uW l]
   show (st.own++[o])++l=_
   rw [Ow]
   rfl
theorem dB (K:Fg) (hK:X.K=K:=by rfl):yb X (YF K):=hK▸YG
theorem Sq.ix {r:Addr} {v:V} {Q:VK} (h:Sq K H r xs) (e:xs[i]?=some v) (q:Q v H):YF K (.ref r) (.int (i:Int)) H Q:=by
 rcases h with h|h
 . exact .inl ⟨r,xs,i,v,Z,Z,h,ay e,q⟩
 . exact .inr (.inl ⟨r,xs,i,v,Z,Z,h,ay e,q⟩)
def CB (nss:List (List Nat)):List Str:=nss.map tx
theorem WS (nss:List (List Nat)):qY nss=(CB nss).map V.str:=by unfold qY CB;rw [c6];rfl
theorem E_ (h:nss.Nodup):(CB nss).Nodup:=by
 unfold CB
 exact List.Pairwise.map tx (fun a b hab e=>hab (Rc e)) h
theorem Rx (h:∀x∈nss,oJ x):∀o∈CB nss,Ua o:=fun o ho=>by
 obtain ⟨x,hx,rfl⟩:=bJ.mp ho
 show oJ (tx x).cps.toList
 rw [show (tx x).cps.toList=x from by simp]
 exact h x hx
theorem Nq (nss:List (List Nat)):(CB nss).length=nss.length:=by unfold CB;rw [aE]
theorem Ub (x:Str) (l:List Str):EV (.str x) (l.map V.str)=decide (x∈l):=by
 have:=Nd x.cps.toList (l.map fun y=>y.cps.toList)
 rw [IF] at this
 rw [show qY (l.map fun y=>y.cps.toList)=l.map V.str from by unfold qY;rw [c6];congr 1;] at this
 rw [this]
 congr 1
 refine propext ⟨fun m=>?_,fun m=>bJ.mpr ⟨x,m,Z⟩⟩
 obtain ⟨y,hy,e⟩:=bJ.mp m
 have:tx y.cps.toList=tx x.cps.toList:=by rw [e]
 rw [IF,IF] at this
 rw [<-this];exact hy
theorem yK (l:List Str):(l.map V.str).all qD=true:=by
 rw [List.all_map]
 exact tH.mpr fun _ _=>rfl
theorem Jd {l:List Str} {d:Int} (h0:0<=d) (h1:d<(l.length:Int)):∃(j:Nat) (o:Str),d=(j:Int)/\l[j]?=some o/\qV (l.map V.str) d=some (.str o):=by
 obtain ⟨j,rfl⟩:∃j:Nat,d=(j:Int):=⟨d.toNat,by omega⟩
 have hj:j<l.length:=by omega
 exact ⟨j,l[j],Z,bu hj,ay (by rw [cg,bu hj];rfl)⟩
section
variable {T:TC} {n:Nat} {L H:Hp} {x lp:Addr} {st:HS} {ps:List Pt}
end
theorem p5 {α:Type} {l:List α} (nd:l.Nodup) {x:α} (h:l[i]?=some x):x∉l.take i:=fun m=>by
 have h2:(l.take (i+1)).Nodup:=nd.sublist (List.take_sublist _ _)
 rw [take_snoc h] at h2
 exact (List.nodup_append.mp h2).2.2 x m x (fV.mpr rfl) rfl
abbrev Row:=Str×Int
def xo (r:Row):HO:= .tup [.str r.1, .int r.2]
inductive f7 (H:Hp):List V->List Row->Prop
 | nil:f7 H [] []
 | cons {a:Addr} {r:Row} {vs:List V} {rs:List Row}:H a=some (xo r)->f7 H vs rs->f7 H (.ref a::vs) (r::rs)
theorem f7.mono {vs:List V} {l:List Row} (h:f7 H vs l) (g:∀b xs,H b=some (.tup xs)->H' b=some (.tup xs)):f7 H' vs l:=by
 induction h with
 | nil=>exact .nil
 | cons a _ ih=>exact .cons (g _ _ a) ih
theorem f7.length {vs:List V} {l:List Row} (h:f7 H vs l):vs.length=l.length:=by
 induction h with
 | nil=>rfl
 | cons _ _ ih=>simp [ih]
theorem f7.get {vs:List V} {l:List Row} (h:f7 H vs l):∀{i:Nat} {x:V},vs[i]?=some x->∃a r,x = .ref a/\l[i]?=some r/\H a=some (xo r):=by
 induction h with
 | nil=>intro i x e;simp at e
 | @cons a r vs rs e0 _ ih=>
   intro i x e
   cases i with
   | zero=>simp at e;subst e;exact ⟨a,r,Z,Z,e0⟩
   | succ i=>simp at e;obtain ⟨a',r',e1,e2,e3⟩:=ih e;exact ⟨a',r',e1,by simpa using e2,e3⟩
variable {r:Row}
theorem f7.snoc {vs:List V} {l:List Row} (h:f7 H vs l) (e:H a=some (xo r)):f7 H (vs++[.ref a]) (l++[r]):=by
 induction h with
 | nil=>exact .cons e .nil
 | cons a _ ih=>exact .cons a ih
def gW (rs:List Row):List (Key×V):=rs.map fun r=>((Sum.inr r.1:Key),V.int r.2)
theorem xq (rs:List Row):(gW rs).length=rs.length:=by unfold gW;rw [aE]
variable {rs:List Row}
theorem Fb (h:x∉rs.map (·.1)):dG (gW rs) (Sum.inr x)=none:=by
 unfold gW
 induction rs with
 | nil=>rfl
 | cons a l ih=>
   rw [bH,eL (fun z=>h (by rw [bH,<-qB z];exact cL))]
   exact ih fun m=>h (by rw [bH];exact cC _ m)
def br (rs:List Row):Int:=(rs.map (·.2)).sum
def bK (st:HS) (x:Str):Pt:=(st.aj.find? fun p=>decide (p.nm=x)).getD ⟨x,x,0,0,1,[]⟩
theorem Nr {st:HS} (nd:(st.aj.map (·.nm)).Nodup) (h:st.aj[i]?=some p):bK st p.nm=p:=by
 unfold bK
 have:st.aj.find? (fun q=>decide (q.nm=p.nm))=some p:=by
  generalize st.aj=ps at *
  induction ps generalizing i with
  | nil=>simp at h
  | cons a ps ih=>
    obtain ⟨h1,h2⟩:=gI.mp (show (a.nm::ps.map (·.nm)).Nodup from nd)
    cases i with
    | zero=>
      have:a=p:=by simpa using h
      subst this
      rw [sP,a_ rfl]
    | succ i=>
      have h':ps[i]?=some p:=by simpa using h
      rw [sP,cV (fun e=>h1 (bJ.mpr ⟨p,bX h',e.symm⟩))]
      exact ih h2 h'
 rw [this]
 rfl
def d7 (st:HS) (sums:List Int) (r:Row):List Int:=List.zipWith (fun old own=>old+(r.2*(bK st r.1).sc)*own) sums (bK st r.1).row
def iU (st:HS) (rs:List Row):List Int:=rs.foldl (d7 st) (st.bq.map fun c=>br rs*c)
def jX (s:Int) (ts:List Int):Int:=ts.foldl (fun s t=>Jm.cf t s) s
def gZ (st:HS) (kept:Int):List Int:=st.aj.map fun p=>p.sc*kept
def eW (st:HS) (kept:Int) (added:List Int):List Int:=List.zipWith (fun t m=>t*kept+m) st.bq added
def cE (st:HS) (kept whole:Int) (added:List Int):Int:=jX whole (gZ st kept++eW st kept added)
def eE (st:HS) (s:Int):HS:=if 1<s then { st with stp:=st.stp++[s],prod:=st.prod*s,kn:=0 } else st
def bg (st:HS) (kept whole:Int) (added:List Int):HS:=
 eE { st with aj:=st.aj.map (fun p=>{ p with sc:=p.sc*kept / cE st kept whole added }),bq:=(eW st kept added).map (· / cE st kept whole added),bD:=st.bD.map (·*(whole / cE st kept whole added)) } (whole / cE st kept whole added)
def jh (ps:List Pt) (x:Str) (a:Int):List Pt:=(ps.map fun p=>if p.nm=x then { p with wo:=p.wo-a } else p).filter fun p=>decide (p.wo≠0)
def cS (st:HS) (r:Row):HS:={ st with aj:=jh st.aj r.1 r.2 }
def gR (st:HS) (rs:List Row):HS:=rs.foldl cS (bg st (aS st-br rs) (aS st) (iU st rs))
inductive afj (vs:List V) (H:Hp) (Q:VK) (E:XK):Prop
 | mk (a:Int) (_:vs=[.int a]) (_:1<=a) (_:Q .bU H)
def abY:Sp:=bx (afj)
inductive afk (vs:List V) (H:Hp) (Q:VK) (E:XK):Prop
 | mk (m a:Int) (_:vs=[.int m, .int a]) (_:1<=a) (_:a<=m) (_:Q .bU H)
def Vr:Sp:=bx (afk)
inductive abZ (K:Fg) (vs:List V) (H:Hp) (Q:VK) (E:XK):Prop
 | mk (l:Addr) (us:List V) (rs:List Row) (_:vs=[.ref l]) (_:aH K H l us) (_:f7 H us rs) (_:(rs.map (·.1)).Nodup) (_:rs≠[]) (_:rs.length<=1000) (_:∀d H',aP H H'->H d=none->H' d=some (.dK (gW rs))->Q (.ref d) H')
def Ry (K:Fg):Sp:=bx (abZ K)
inductive ab0 (K:Fg) (vs:List V) (H:Hp) (Q:VK) (E:XK):Prop
 | mk (s:Int) (l:Addr) (ts:List Int) (_:vs=[.int s, .ref l]) (_:aH K H l (ts.map V.int)) (_:0<=s) (_:(∀t∈ts,0<=t)) (_:Q (.int (jX s ts)) H)
def Rz (K:Fg):Sp:=bx (ab0 K)
inductive ab1 (T:TC) (vs:List V) (H:Hp) (Q:VK) (E:XK):Prop
 | mk (n ρ A st s:_) (_:vs=[.ref A.bt, .int s]) (_:Gh ρ H) (_:aN T n ρ A H st) (_:st.stp.length<=1000) (_:Jm.Sz 9000 st.prod) (_:Jm.Sz 9000 s) (_:∀ρ' A' H',Gh ρ' H'->aN T n ρ' A' H' (eE st s:_)->A'.a=A.a->Fr n ρ H ρ' H'->Q .bU H')
def RA (T:TC):Sp:=bx (ab1 T)
inductive Zz (T:TC) (vs:List V) (H:Hp) (Q:VK) (E:XK):Prop
 | mk (n ρ A st:_) (d:Addr) (rs:List Row) (_:vs=[.ref A.a, .ref d]) (_:aN T n ρ A H st) (_:Wf st) (_:H d=some (.dK (gW rs))) (_:ρ d=none) (_:rs.length<=1000) (_:(∀r∈rs,Jm.Sz 60 r.2/\∃p∈st.aj,p.nm=r.1)) (_:∀l H',aP H H'->H l=none->H' l=some (.lst ((iU st rs).map V.int))->Q (.ref l) H')
def Nt (T:TC):Sp:=bx (Zz T)
inductive ZA (T:TC) (K:Fg) (vs:List V) (H:Hp) (Q:VK) (E:XK):Prop
 | mk (n ρ A st:_) (kept whole:Int) (l:Addr) (added:List Int) (_:vs=[.ref A.a, .int kept, .int whole, .ref l]) (_:HH T n ρ A H st) (_:aH K H l (added.map V.int)) (_:added.length=st.bq.length) (_:0<kept) (_:0<whole) (_:Jm.Sz 60 kept) (_:Jm.Sz 60 whole) (_:(∀m∈added,0<=m/\Jm.Sz 8900 m)) (_:(∀u∈st.bD,Jm.Sz 8900 u)) (_:st.stp.length<100) (_:Wf (bg st kept whole added)) (_:uV T n ρ A H (bg st kept whole added:_) fun H'=>Q .bU H')
def DZ (T:TC) (K:Fg):Sp:=bx (ZA T K)
inductive ab2 (T:TC) (vs:List V) (H:Hp) (Q:VK) (E:XK):Prop
 | mk (n ρ A st:_) (r:Row) (_:vs=[.ref A.a, .str r.1, .int r.2]) (_:HH T n ρ A H st) (_:(∃p∈st.aj,p.nm=r.1/\r.2<=p.wo)) (_:Wf (cS st r)) (_:uV T n ρ A H (cS st r:_) fun H'=>Q .bU H')
def Je (T:TC):Sp:=bx (ab2 T)
structure t8 (st:HS) (rs:List Row):Prop where
 nd:(rs.map (·.1)).Nodup
 ne:rs≠[]
 len:rs.length<=1000
 row:∀r∈rs,1<=r.2/\Jm.Sz 60 r.2/\∃p∈st.aj,p.nm=r.1/\r.2<=p.wo
 lost:br rs<aS st
 big:Jm.Sz 60 (aS st)
 prod:Jm.Sz 7900 st.prod
 bD:∀u∈st.bD,Jm.Sz 8900 u
 stp:st.stp.length<100
inductive ab3 (T:TC) (K:Fg) (vs:List V) (H:Hp) (Q:VK) (E:XK):Prop
 | mk (n ρ A st:_) (l:Addr) (us:List V) (rs:List Row) (_:vs=[.ref A.a, .ref l]) (_:HH T n ρ A H st) (_:aH K H l us) (_:f7 H us rs) (_:t8 st rs) (_:uV T n ρ A H (gR st rs:_) fun H'=>Q .bU H')
def RB (T:TC) (K:Fg):Sp:=bx (ab3 T K)
theorem AR:∀{ps:List Pt} {qs:List (Addr×Addr×Addr)} {i:Nat} {p:Pt},(ps.map (·.nm)).Nodup->qs.length=ps.length->ps[i]?=some p->lI (cj ps qs) (Sum.inr p.nm)=cj (ps.eraseIdx i) (qs.eraseIdx i)
 | [],_,_,_,_,_,h=>by simp at h
 | _::_,[],_,_,_,hl,_=>by simp at hl
 | a::ps,b::qs,0,p,nd,hl,h=>by
   have e:a=p:=by simpa using h
   subst e
   obtain ⟨h1,h2⟩:=gI.mp (show (a.nm::ps.map (·.nm)).Nodup from nd)
   show lI ((Sum.inr a.nm,V.ref b.1)::cj ps qs) (Sum.inr a.nm)=cj ps qs
   unfold lI
   rw [ia,aA (by simp)]
   refine HN.mpr fun kv hkv=>?_
   unfold cj at hkv
   obtain ⟨x,hx,y,hy,rfl⟩:=tZ hkv
   exact a_ fun z=>h1 (bJ.mpr ⟨x,hx,qB z⟩)
 | a::ps,b::qs,i+1,p,nd,hl,h=>by
   obtain ⟨h1,h2⟩:=gI.mp (show (a.nm::ps.map (·.nm)).Nodup from nd)
   have h':ps[i]?=some p:=by simpa using h
   have ih:=AR h2 (by simpa using hl) h'
   show lI ((Sum.inr a.nm,V.ref b.1)::cj ps qs) (Sum.inr p.nm)=(Sum.inr a.nm,V.ref b.1)::cj (ps.eraseIdx i) (qs.eraseIdx i)
   rw [<-ih]
   unfold lI
   have hne:¬ (Sum.inr a.nm:Key)=Sum.inr p.nm:=fun z=>h1 (bJ.mpr ⟨p,bX h',(qB z).symm⟩)
   rw [ia,aB (by simpa using fun e:a.nm=p.nm=>hne (by rw [e]))]
theorem AS:∀{ps:List Pt} {i:Nat} {p:Pt} {a:Int},(ps.map (·.nm)).Nodup->(∀q∈ps,q.wo≠0)->ps[i]?=some p->jh ps p.nm a=if p.wo-a=0 then ps.eraseIdx i else ps.set i { p with wo:=p.wo-a }
 | [],_,_,_,_,_,h=>by simp at h
 | x::ps,0,p,a,nd,hw,h=>by
   have e:x=p:=by simpa using h
   subst e
   obtain ⟨h1,h2⟩:=gI.mp (show (x.nm::ps.map (·.nm)).Nodup from nd)
   have rest:jh ps x.nm a=ps:=by
    unfold jh
    rw [show (ps.map fun p=>if p.nm=x.nm then { p with wo:=p.wo-a } else p)=ps from by
     conv=>rhs;rw [<-List.map_id ps]
     exact m_ fun y hy=>aA fun z=>h1 (bJ.mpr ⟨y,hy,z⟩)]
    exact HN.mpr fun y hy=>a_ (hw y (cC _ hy))
   show ((x::ps).map fun p=>if p.nm=x.nm then { p with wo:=p.wo-a } else p).filter _=_
   rw [bH,aB rfl,ia]
   by_cases c:x.wo-a=0
   . rw [aB c,aA (by simp [c])]
     exact rest
   . rw [aA c,aB (by simpa using c)]
     show _::jh ps x.nm a=_
     rw [rest]
     rfl
 | x::ps,i+1,p,a,nd,hw,h=>by
   obtain ⟨h1,h2⟩:=gI.mp (show (x.nm::ps.map (·.nm)).Nodup from nd)
   have h':ps[i]?=some p:=by simpa using h
   have ih:=AS (a:=a) h2 (fun q hq=>hw q (cC _ hq)) h'
   have xn:¬ x.nm=p.nm:=fun z=>h1 (bJ.mpr ⟨p,bX h',z.symm⟩)
   show ((x::ps).map fun q=>if q.nm=p.nm then { q with wo:=q.wo-a } else q).filter _=_
   rw [bH,aA xn,ia,aB (a_ (hw x cL))]
   show x::jh ps p.nm a=_
   rw [ih]
   by_cases c:p.wo-a=0
   . rw [aB c,aB c];rfl
   . rw [aA c,aA c];rfl
theorem rm {α:Type}:∀{l:List α} {i:Nat} {x:α},l[i]?=some x->l.set i x=l
 | [],_,_,h=>by simp at h
 | a::l,0,x,h=>by
   have:a=x:=by simpa using h
   rw [this];rfl
 | a::l,i+1,x,h=>by rw [HU,rm (by simpa using h)]
theorem yL {α β:Type} {l:List α} {m:List β} {x:α} {y:β} (h1:(l.eraseIdx i)[j]?=some x) (h2:(m.eraseIdx i)[j]?=some y):∃k:Nat,l[k]?=some x/\m[k]?=some y:=by
 rw [List.getElem?_eraseIdx] at h1 h2
 by_cases c:j<i
 . rw [aB c] at h1 h2;exact ⟨j,h1,h2⟩
 . rw [aA c] at h1 h2;exact ⟨j+1,h1,h2⟩
theorem yM:∀(ts:List Int) (s:Int),jX s ts∣s/\∀t∈ts,jX s ts∣t
 | [],s=>⟨Int.dvd_refl _,fun _ h=>absurd h (by simp)⟩
 | t::ts,s=>by
   obtain ⟨h1,h2⟩:=yM ts (Jm.cf t s)
   refine ⟨Int.dvd_trans h1 (Jm.oG t s),fun u hu=>?_⟩
   rcases bP.mp hu with rfl|hu
   . exact Int.dvd_trans h1 (Jm.vv u s)
   . exact h2 u hu
theorem yN:∀(ts:List Int) (s:Int),0<s->0<jX s ts
 | [],_,h=>h
 | t::ts,s,h=>yN ts _ (Jm.B7 t s (.inr h))
theorem yO {n:Nat} {st:HS} (h:aN T n ρ A H st) (g:Gh ρ H) (c:ρ a=none) (e:H a=some o) (ht:isTup o=false):
  aN T n (cR ρ a (n,t,⟨#[]⟩)) A H st/\Gh (cR ρ a (n,t,⟨#[]⟩)) H:=
 ⟨h.same ⟨fun _ _ e=>e,fun b u x w _ hc he=>⟨he,by rw [cJ (fun z=>by rw [z,c] at hc;cases hc)];exact hc⟩⟩,g.color e ht⟩
theorem Fr.nu {n:Nat} (f:Fr n ρ H ρ' H') (h:H a=none):Fr n ρ H (cR ρ' a (n,t,x)) H':=fun b o e k=>by
 obtain ⟨e1,e2⟩:=f b o e k
 exact ⟨e1,by rw [cJ (aF e h)];exact e2⟩
theorem Fc {d a b:Int} (hd:0<d) (h:a<=d*b):a / d<=b:=by
 have:=Int.ediv_le_ediv hd h
 rwa [DC _ (by omega)] at this
theorem CC {st:HS} {s:Int} (h:1<=s):(eE st s).prod=st.prod*s:=by
 unfold eE
 by_cases c:1<s
 . rw [aB c]
 . rw [aA c,show s=1 by omega,zP]
theorem nS (st:HS) (s:Int):(eE st s).aj=st.aj:=by unfold eE;split <;> rfl
theorem Fd (st:HS) (s:Int):(eE st s).bq=st.bq:=by unfold eE;split <;> rfl
theorem Fe (st:HS) (s:Int):(eE st s).bD=st.bD:=by unfold eE;split <;> rfl
theorem rA (st:HS) (s:Int):(eE st s).own=st.own:=by unfold eE;split <;> rfl
theorem uX (st:HS) (s:Int):(eE st s).nms=st.nms:=by unfold eE;split <;> rfl
theorem rB (st:HS) (s:Int):(eE st s).dj=st.dj:=by unfold eE;split <;> rfl
theorem uY {α β γ:Type} {f:α->β->γ} {t:γ}:∀{xs:List α} {ys:List β},t∈List.zipWith f xs ys->∃(i:Nat) (x:α) (y:β),xs[i]?=some x/\ys[i]?=some y/\t=f x y:=fun {xs ys} h=>by
 obtain ⟨i,hi,e⟩:=wK h
 rw [kU] at hi
 have h1:i<xs.length:=by omega
 have h2:i<ys.length:=by omega
 exact ⟨i,xs[i],ys[i],bu h1,bu h2,by rw [<-e,List.getElem_zipWith]⟩
theorem WT {α β γ:Type} {f:α->β->γ} {xs:List α} {ys:List β} {x:α} {y:β} (h1:xs[i]?=some x) (h2:ys[i]?=some y):(List.zipWith f xs ys)[i]?=some (f x y):=by
 rw [Oj,h1,h2]
theorem AU {a b c:Int} (h:a<=b) (hc:0<=c):a*c<=b*c:=Qi h hc
structure p6 (st:HS) (kept whole lost:Int) (added:List Int):Prop where
 k:0<kept
 l:0<=lost
 w:whole=kept+lost
 len:added.length=st.bq.length
 add:∀m∈added,0<=m/\m<=lost*st.prod
 prod:Jm.Sz 7900 st.prod
 big:Jm.Sz 60 whole
 bD:∀u∈st.bD,Jm.Sz 8900 u
 stp:st.stp.length<100
variable {lost:Int} {added:List Int}
theorem p6.dvds {st:HS} {kept whole:Int} (b:p6 st kept whole lost added):
  0<cE st kept whole added/\cE st kept whole added∣whole/\(∀p∈st.aj,cE st kept whole added∣p.sc*kept)/\∀c∈eW st kept added,cE st kept whole added∣c:=by
 have hw:0<whole:=by have:=b.k;have:=b.l;have:=b.w;omega
 have d:=yM (gZ st kept++eW st kept added) whole
 exact ⟨yN _ _ hw,d.1,fun p hp=>d.2 _ (AD _ (bJ.mpr ⟨p,hp,Z⟩)),fun c hc=>d.2 _ (jn _ hc)⟩
theorem xr {st:HS} {kept whole:Int} (wf:Wf st) (b:p6 st kept whole lost added):Wf (bg st kept whole added):=by
 obtain ⟨hs,hsw,oF,hsc⟩:=b.dvds
 have hk:=b.k
 have hl:=b.l
 have hw:=b.w
 have p1:=wf.eY
 have eB:bg st kept whole added=eE { st with aj:=st.aj.map (fun p=>{ p with sc:=p.sc*kept / cE st kept whole added }),bq:=(eW st kept added).map (· / cE st kept whole added),bD:=st.bD.map (·*(whole / cE st kept whole added)) } (whole / cE st kept whole added):=rfl
 rw [eB]
 generalize cE st kept whole added=d at *
 obtain ⟨s,es⟩:=hsw
 have hs1:1<=s:=by
  rcases Int.lt_trichotomy s 0 with z|z|z
  . have:=Int.mul_neg_of_pos_of_neg hs z;omega
  . rw [z,Int.mul_zero] at es;omega
  . omega
 have ed:whole / d=s:=by rw [es,DC _ (by omega)]
 rw [ed]
 have ahU:s<=whole:=by rw [es];have:=Qi (show 1<=d by omega) (show 0<=s by omega);omega
 have zs:Jm.Sz 60 s:=b.big.of_le (by omega)
 have zp:Jm.Sz 8000 (st.prod*s):=(b.prod.mul zs).mono (by decide)
 have pp:st.prod<=st.prod*s:=by have:=HK hs1 (show 0<=st.prod by omega);omega
 have Uc:∀c∈(eW st kept added).map (· / d),0<=c/\c<=st.prod*s:=fun c hc=>by
  obtain ⟨x,hx,rfl⟩:=bJ.mp hc
  obtain ⟨i,t,m,et,em,rfl⟩:=uY (show x∈List.zipWith (fun t m=>t*kept+m) st.bq added from hx)
  have ht:=wf.nj t (bX et)
  have hm:=b.add m (bX em)
  have a1:0<=t*kept:=oh ht.1 (by omega)
  have a2:t*kept<=st.prod*kept:=AU ht.2 (by omega)
  have a3:st.prod*kept+lost*st.prod=d*(st.prod*s):=by
   rw [qA lost,<-uP,<-hw,es,<-gY,<-gY,qA st.prod d]
  exact ⟨Hu (by omega) (by omega),Fc hs (by omega)⟩
 have sc':∀p∈st.aj,1<=p.sc*kept / d/\p.sc*kept / d<=st.prod*s/\d*(p.sc*kept / d)=p.sc*kept:=fun p hp=>by
  have h0:=wf.oK p hp
  obtain ⟨z,ez⟩:=oF p hp
  have a1:0<p.sc*kept:=Int.mul_pos (by omega) hk
  have ez':p.sc*kept / d=z:=by rw [ez,DC _ (by omega)]
  have hz:1<=z:=by
   rcases Int.lt_trichotomy z 0 with y|y|y
   . have:=Int.mul_neg_of_pos_of_neg hs y;omega
   . rw [y,Int.mul_zero] at ez;omega
   . omega
  have a2:p.sc*kept<=st.prod*kept:=AU h0.2 (by omega)
  have a3:st.prod*kept<=st.prod*whole:=HK (by omega) (by omega)
  have a4:st.prod*whole=d*(st.prod*s):=by rw [es,<-gY,<-gY,qA st.prod d]
  refine ⟨by rw [ez'];exact hz,Fc hs (by omega),by rw [ez',ez]⟩
 have P:∀{M:Pt->Prop},(∀p∈st.aj,M { p with sc:=p.sc*kept / d })->∀p∈st.aj.map (fun p=>{ p with sc:=p.sc*kept / d }),M p:=fun h p hp=>by
  obtain ⟨x,hx,rfl⟩:=bJ.mp hp
  exact h x hx
 have top':∀p∈st.aj,∀t∈List.zipWith (fun r c=>(p.sc*kept / d)*r+c) p.row ((eW st kept added).map (· / d)),0<=t/\t<=st.prod*s:=fun p hp t ht=>by
  obtain ⟨i,r,c,er,ec,rfl⟩:=uY ht
  rw [cg] at ec
  obtain ⟨x,ex,rfl⟩:=lW.mp ec
  obtain ⟨y,ey⟩:=hsc x (bX ex)
  have eyd:x / d=y:=by rw [ey,DC _ (by omega)]
  have ex':(List.zipWith (fun t m=>t*kept+m) st.bq added)[i]?=some x:=ex
  rw [Oj] at ex'
  cases e1:st.bq[i]? with
  | none=>rw [e1] at ex';simp at ex'
  | some t0=>
    cases e2:added[i]? with
    | none=>rw [e1,e2] at ex';simp at ex'
    | some m=>
      rw [e1,e2] at ex'
      have ex2:t0*kept+m=x:=by simpa using ex'
      have hm:=b.add m (bX e2)
      have hT:=wf.nq p hp (p.sc*r+t0) (bX (WT (f:=fun r c=>p.sc*r+c) er e1))
      have hz:=(sc' p hp).2.2
      have key:d*((p.sc*kept / d)*r+x / d)=(p.sc*r+t0)*kept+m:=by
       rw [uP,<-gY,hz,eyd,<-ey,<-ex2]
       rw [oq,gY,gY,qA kept r]
       omega
      have k1:0<=(p.sc*r+t0)*kept:=oh hT.1 (by omega)
      have k2:(p.sc*r+t0)*kept<=st.prod*kept:=AU hT.2 (by omega)
      have a3:st.prod*kept+lost*st.prod=d*(st.prod*s):=by
       rw [qA lost,<-uP,<-hw,es,<-gY,<-gY,qA st.prod d]
      generalize (p.sc*kept / d)*r+x / d=W at *
      constructor
      . rcases BI W 0 with z|z
        . have:=Int.mul_neg_of_pos_of_neg hs z;omega
        . exact z
      . have:d*W<=d*(st.prod*s):=by omega
        exact Int.le_of_mul_le_mul_left this hs
 have nm':(st.aj.map (fun p:Pt=>{ p with sc:=p.sc*kept / d })).map (fun p:Pt=>p.nm)=st.aj.map (fun p:Pt=>p.nm):=by rw [c6];rfl
 have e0:(eW st kept added).length=st.bq.length:=by unfold eW;rw [kU,b.len];omega
 have pu':∀u∈st.bD.map (·*s),Jm.Sz 9000 u:=fun u hu=>by
  obtain ⟨x,hx,rfl⟩:=bJ.mp hu
  exact ((b.bD x hx).mul zs).mono (by decide)
 have ZC:∀p∈st.aj,∀r∈p.row,-(st.prod*s)<=r/\r<=st.prod*s:=fun p hp r hr=>by have:=wf.mh p hp r hr;omega
 unfold eE
 by_cases c:1<s
 . rw [aB c]
   refine ⟨wf.l7,wf.xh,by rw [nm'];exact wf.dw,P wf.sub,P wf.rows,P wf.ow,?_,?_,by show 1<=st.prod*s;omega,?_,fun x hx=>?_,wf.jV,wf.xj,?_,?_,wf.tX,gj _,zp,Uc,P fun p hp=>⟨(sc' p hp).1,(sc' p hp).2.1⟩,P ZC,P top',P wf.jO,pu'⟩
   . show (List.map _ (eW st kept added)).length=_
     rw [aE,e0,wf.fW]
   . show (List.map _ st.bD).length=_
     rw [aE,wf.l9]
   . show st.prod*s=(st.stp++[s]).foldl (·*·) 1
     rw [WR,<-wf.mO]
   . rcases gi.mp (show x∈st.stp++[s] from hx) with z|z
     . exact wf.rV x z
     . rw [fV.mp z];omega
   . show (List.map _ st.aj).length<=1000
     rw [aE];exact wf.l_
   . show (st.stp++[s]).length<=100
     rw [dg];exact b.stp
 . rw [aA c]
   have e1:s=1:=by omega
   subst e1
   rw [zP] at Uc sc' ZC top'
   refine ⟨wf.l7,wf.xh,by rw [nm'];exact wf.dw,P wf.sub,P wf.rows,P wf.ow,?_,?_,wf.eY,wf.mO,wf.rV,wf.jV,wf.xj,?_,wf.yI,wf.tX,wf.E7,wf.big,Uc,P fun p hp=>⟨(sc' p hp).1,(sc' p hp).2.1⟩,P wf.mh,P fun p hp t ht=>?_,P wf.jO,pu'⟩
   . show (List.map _ (eW st kept added)).length=_
     rw [aE,e0,wf.fW]
   . show (List.map _ st.bD).length=_
     rw [aE,wf.l9]
   . show (List.map _ st.aj).length<=1000
     rw [aE];exact wf.l_
   . exact top' p hp t ht
def xu (st:HS) (acc:List Int) (rs:List Row):List Int:=rs.foldl (fun s r=>List.zipWith (fun x t=>x+r.2*t) s (aY st (bK st r.1))) acc
theorem Ff:∀(acc bq row:List Int) (a sc L:Int),List.zipWith (fun old own=>old+(a*sc)*own) (List.zipWith (fun s c=>s+(a+L)*c) acc bq) row=List.zipWith (fun s c=>s+L*c) (List.zipWith (fun x t=>x+a*t) acc (List.zipWith (fun r c=>sc*r+c) row bq)) bq
 | [],_,_,_,_,_=>by simp
 | _::_,[],_,_,_,_=>by simp
 | _::_,_::_,[],_,_,_=>by simp
 | x::acc,c::bq,r::row,a,sc,L=>by
   simp only [vj]
   rw [Ff acc bq row a sc L]
   congr 1
   grind
theorem Jf {st:HS}:∀(rs:List Row) (acc:List Int),rs.foldl (d7 st) (List.zipWith (fun s c=>s+br rs*c) acc st.bq)=List.zipWith (fun s c=>s+0*c) (xu st acc rs) st.bq
 | [],acc=>by show List.zipWith _ acc st.bq=_;rfl
 | r::rs,acc=>by
   rw [kH]
   have e:d7 st (List.zipWith (fun s c=>s+br (r::rs)*c) acc st.bq) r=List.zipWith (fun s c=>s+br rs*c) (List.zipWith (fun x t=>x+r.2*t) acc (aY st (bK st r.1))) st.bq:=by
    unfold d7
    rw [show br (r::rs)=r.2+br rs from by unfold br;rw [bH,c5]]
    exact Ff acc st.bq (bK st r.1).row r.2 (bK st r.1).sc (br rs)
   rw [e,Jf rs]
   rfl
theorem Fi:∀(l:List Int) (L:Int),List.zipWith (fun s c=>s+L*c) (List.replicate l.length 0) l=l.map fun c=>L*c
 | [],_=>rfl
 | x::l,L=>by
   rw [jP,AE,vj,Fi l L,Int.zero_add]
   rfl
theorem Jg:∀(s l:List Int),s.length<=l.length->List.zipWith (fun s c=>s+0*c) s l=s
 | [],_,_=>by simp
 | _::_,[],h=>by simp at h
 | x::s,c::l,h=>by
   rw [vj,Jg s l (by simpa using h),uO,Int.add_zero]
theorem yP {st:HS}:∀(rs:List Row) (acc:List Int),(∀r∈rs,(aY st (bK st r.1)).length=acc.length)->(xu st acc rs).length=acc.length
 | [],_,_=>rfl
 | r::rs,acc,h=>by
   have e:(List.zipWith (fun x t=>x+r.2*t) acc (aY st (bK st r.1))).length=acc.length:=by rw [kU,h r cL];omega
   show (xu st (List.zipWith (fun x t=>x+r.2*t) acc (aY st (bK st r.1))) rs).length=_
   rw [yP rs _ (fun x hx=>by rw [e];exact h x (cC _ hx)),e]
theorem Au {st:HS} (hP:0<=st.prod):∀(rs:List Row) (acc:List Int) (B:Int),(∀r∈rs,0<=r.2/\∀t∈aY st (bK st r.1),0<=t/\t<=st.prod)->(∀x∈acc,0<=x/\x<=B)->∀x∈xu st acc rs,0<=x/\x<=B+br rs*st.prod
 | [],acc,B,_,ha,x,hx=>by
   have:=ha x hx
   show 0<=x/\x<=B+0*st.prod
   omega
 | r::rs,acc,B,h,ha,x,hx=>by
   have hr:=h r cL
   have:=Au hP rs (List.zipWith (fun x t=>x+r.2*t) acc (aY st (bK st r.1))) (B+r.2*st.prod) (fun y hy=>h y (cC _ hy)) (fun y hy=>by
    obtain ⟨i,a,t,ea,et,rfl⟩:=uY hy
    have h1:=ha a (bX ea)
    have h2:=hr.2 t (bX et)
    have h3:0<=r.2*t:=oh hr.1 h2.1
    have h4:r.2*t<=r.2*st.prod:=HK h2.2 hr.1
    omega) x hx
   rw [show br (r::rs)=r.2+br rs from by unfold br;rw [bH,c5],oq]
   omega
theorem xw {st:HS} (wf:Wf st) (h:p∈st.aj):(aY st p).length=st.bq.length:=by
 unfold aY
 rw [kU,wf.rows p h,wf.fW]
 omega
theorem dM {st:HS} (wf:Wf st) (h:p∈st.aj) (e:p.nm=x):bK st x=p:=by
 obtain ⟨i,hi,ei⟩:=wK h
 rw [<-e]
 exact Nr wf.dw (i:=i) (by rw [bu hi,ei])
theorem Fj {st:HS} (wf:Wf st) (h:∀r∈rs,∃p∈st.aj,p.nm=r.1):iU st rs=xu st (List.replicate st.bq.length 0) rs:=by
 unfold iU
 rw [<-Fi st.bq (br rs),Jf]
 refine Jg _ _ ?_
 rw [yP rs _ (fun r hr=>by
  obtain ⟨p,hp,e⟩:=h r hr
  rw [dM wf hp e,nX,xw wf hp]),nX]
 exact aK _
theorem RC {st:HS} (wf:Wf st) (h:∀r∈rs,1<=r.2/\∃p∈st.aj,p.nm=r.1):(iU st rs).length=st.bq.length/\∀m∈iU st rs,0<=m/\m<=br rs*st.prod:=by
 rw [Fj wf (fun r hr=>(h r hr).2)]
 have p1:=wf.eY
 constructor
 . rw [yP rs _ (fun r hr=>by
    obtain ⟨p,hp,e⟩:=(h r hr).2
    rw [dM wf hp e,nX,xw wf hp]),nX]
 . intro m hm
   have:=Au (st:=st) (by omega) rs (List.replicate st.bq.length 0) 0 (fun r hr=>by
    obtain ⟨h1,p,hp,e⟩:=h r hr
    refine ⟨by omega,?_⟩
    rw [dM wf hp e]
    exact wf.nq p hp) (fun x hx=>by rw [(List.mem_replicate.mp hx).2];omega) m hm
   omega
theorem Pa {ps:List Pt} {a:Int} (h:p∈ps) (hn:p.nm≠x) (hw:p.wo≠0):p∈jh ps x a:=
 wM.mpr ⟨bJ.mpr ⟨p,h,by rw [aA hn]⟩,a_ hw⟩
theorem xx {ps:List Pt} {a:Int} (h:p∈jh ps x a):p.wo≠0/\∃q∈ps,p=if q.nm=x then { q with wo:=q.wo-a } else q:=by
 obtain ⟨h1,h2⟩:=wM.mp h
 obtain ⟨q,hq,e⟩:=bJ.mp h1
 exact ⟨aZ h2,q,hq,e.symm⟩
theorem sS {ps:List Pt} {a:Int}:((jh ps x a).map (fun p:Pt=>p.nm)).Sublist (ps.map (fun p:Pt=>p.nm)):=by
 unfold jh
 have e:(ps.map fun p=>if p.nm=x then { p with wo:=p.wo-a } else p).map (fun p:Pt=>p.nm)=ps.map (fun p:Pt=>p.nm):=by
  rw [c6]
  exact m_ fun p _=>by show (if p.nm=x then _ else p:Pt).nm=p.nm;split <;> rfl
 rw [<-e]
 exact List.filter_sublist.map _
theorem D0 {st:HS} (wf:Wf st) (h:∀p∈st.aj,p.nm=r.1->r.2<=p.wo):Wf (cS st r):=by
 have P:∀{M:Pt->Prop},(∀p∈st.aj,M p)->(∀(p:Pt) (w:Int),M p->M { p with wo:=w })->∀p∈jh st.aj r.1 r.2,M p:=fun h1 h2 p hp=>by
  obtain ⟨_,q,hq,e⟩:=xx hp
  rw [e]
  split
  . exact h2 _ _ (h1 q hq)
  . exact h1 q hq
 refine ⟨wf.l7,wf.xh,wf.dw.sublist sS,P wf.sub (fun _ _ z=>z),P wf.rows (fun _ _ z=>z),P wf.ow (fun _ _ z=>z),wf.fW,wf.l9,wf.eY,wf.mO,wf.rV,wf.jV,wf.xj,?_,wf.yI,wf.tX,wf.E7,wf.big,wf.nj,P wf.oK (fun _ _ z=>z),P wf.mh (fun _ _ z=>z),P wf.nq (fun _ _ z=>z),fun p hp=>?_,wf.DU⟩
 . have:=sS (ps:=st.aj) (x:=r.1) (a:=r.2) |>.length_le
   rw [aE,aE] at this
   exact fT this wf.l_
 . obtain ⟨h0,q,hq,e⟩:=xx hp
   have:=wf.jO q hq
   by_cases c:q.nm=r.1
   . rw [aB c] at e
     subst e
     have:=h q hq c
     have h0:q.wo-r.2≠0:=h0
     exact ⟨by show 1<=q.wo-r.2;omega,by show 0<=q.we;omega⟩
   . rw [aA c] at e
     rw [e];exact this
def Due (st:HS) (rs:List Row):Prop:=∀r∈rs,∃p∈st.aj,p.nm=r.1/\r.2<=p.wo
theorem sZ {st:HS} (wf:Wf st) {q:Pt} (hp:p∈st.aj) (hq:q∈st.aj) (e:p.nm=q.nm):p=q:=(dM wf hp rfl).symm.trans (by rw [e];exact dM wf hq rfl)
theorem RD {st:HS} (wf:Wf st) (d:Due st (r::rs)):Wf (cS st r):=by
 obtain ⟨p,hp,e,hle⟩:=d r cL
 exact D0 wf fun q hq eq=>by rw [sZ wf hq hp (eq.trans e.symm)];exact hle
theorem Jh {st:HS} (wf:Wf st) (d:Due st (r::rs)) (nd:((r::rs).map (fun r:Row=>r.1)).Nodup):Due (cS st r) rs:=fun x hx=>by
 obtain ⟨p,hp,e,hle⟩:=d x (cC _ hx)
 have hn:p.nm≠r.1:=fun z=>(gI.mp nd).1 (bJ.mpr ⟨x,hx,e.symm.trans z⟩)
 have:=wf.jO p hp
 exact ⟨p,Pa hp hn (by omega),e,hle⟩
theorem Ji:∀{rs:List Row} {st:HS},Wf st->Due st rs->(rs.map (fun r:Row=>r.1)).Nodup->Wf (rs.foldl cS st)
 | [],_,wf,_,_=>wf
 | r::rs,st,wf,d,nd=>show Wf (rs.foldl cS (cS st r)) from Ji (RD wf d) (Jh wf d nd) (gI.mp nd).2
theorem Fl {st:HS} {kept whole:Int} (d:Due st rs):Due (bg st kept whole added) rs:=fun r hr=>by
 obtain ⟨p,hp,e,hle⟩:=d r hr
 refine ⟨{ p with sc:=p.sc*kept / cE st kept whole added },?_,e,hle⟩
 unfold bg
 rw [nS]
 exact bJ.mpr ⟨p,hp,Z⟩
theorem t8.due {st:HS} (c:t8 st rs):Due st rs:=fun r hr=>(c.row r hr).2.2
theorem AV:∀{rs:List Row},(∀r∈rs,1<=r.2)->0<=br rs
 | [],_=>kI _
 | r::rs,h=>by
   have:=h r cL
   have:=AV (rs:=rs) fun x hx=>h x (cC _ hx)
   rw [show br (r::rs)=r.2+br rs from by unfold br;rw [bH,c5]]
   omega
theorem t8.blend {st:HS} (wf:Wf st) (c:t8 st rs):p6 st (aS st-br rs) (aS st) (br rs) (iU st rs):=by
 have g:=RC wf (rs:=rs) (fun r hr=>⟨(c.row r hr).1,by obtain ⟨p,hp,e,_⟩:=(c.row r hr).2.2;exact ⟨p,hp,e⟩⟩)
 have l0:=AV (rs:=rs) fun r hr=>(c.row r hr).1
 have:=c.lost
 exact ⟨by omega,l0,by omega,g.1,g.2,c.prod,c.big,c.bD,c.stp⟩
theorem WU {st:HS} (wf:Wf st) (c:t8 st rs):Wf (gR st rs):=Ji (xr wf (c.blend wf)) (Fl c.due) c.nd
structure Pb (K:Fg) (H:Hp) (us:List V) (ws:List Row):Prop where
 len:us.length=ws.length
 at_:∀(i:Nat) (r:Row),ws[i]?=some r->∃a xs,us[i]?=some (.ref a)/\Sq K H a xs/\xs[0]?=some (.str r.1)/\xs[2]?=some (.int r.2)
theorem yQ:∀{l:List Str} {o:Str},o∈l->l[l.idxOf o]?=some o
 | [],_,h=>by simp at h
 | x::l,o,h=>by
   by_cases e:x=o
   . subst e;simp
   . have ho:o∈l:=by
      rcases bP.mp h with z|z
      . exact absurd z.symm e
      . exact z
     rw [List.idxOf_cons,show (x==o)=false from DF.mpr e]
     simpa using yQ ho
inductive afl (K:Fg) (vs:List V) (H:Hp) (Q:VK) (E:XK):Prop
 | mk (l:Addr) (us:List V) (ws:List Row) (i:Nat) (r:Row) (_:vs=[.ref l, .str r.1]) (_:aH K H l us) (_:Pb K H us ws) (_:(ws.map (fun r:Row=>r.1)).Nodup) (_:ws.length<=1000) (_:ws[i]?=some r) (_:Q (.int (i:Int)) H)
def Vs (K:Fg):Sp:=bx (afl K)
structure RE (ws rs:List Row):Prop where
 nd:(rs.map (fun r:Row=>r.1)).Nodup
 row:∀r∈rs,1<=r.2/\r.2<=1000000000/\∃w∈ws,w.1=r.1/\r.2<=w.2
 lost:br rs<br ws\/rs=[]
 len:rs.length<=ws.length
inductive ZD (K:Fg) (vs:List V) (H:Hp) (Q:VK) (E:XK):Prop
 | mk (a l:Addr) (ns:List Int) (k:Int) (us:List V) (ws:List Row) (_:vs=[.ref a, .int k, .ref l]) (_:aH K H a (ns.map V.int)) (_:ns.length<=63) (_:0<=k) (_:k<=1000000) (_:aH K H l us) (_:Pb K H us ws) (_:(ws.map (fun r:Row=>r.1)).Nodup) (_:ws.length<=1000) (_:(∀w∈ws,1<=w.2)) (_:∀z zs rs H',aP H H'->H z=none->H' z=some (.lst zs)->f7 H' zs rs->RE ws rs->Q (.ref z) H')
def Nu (K:Fg):Sp:=bx (ZD K)
variable {m:Int}
section
variable {X:Cx}
def t9 (i j k:Int):Int:=if j<i then (if k<j then k else j) else (if k<i then k else i)
theorem WV (i j k:Int):t9 i j k<=i/\t9 i j k<=j/\t9 i j k<=k:=by unfold t9;split <;> split <;> omega
theorem WW {i j k:Int} (h1:m<=i) (h2:m<=j) (h3:m<=k):m<=t9 i j k:=by unfold t9;split <;> split <;> omega
theorem RG (hc:X.calm=true):iy X (.builtin "min") (fun xs H Q=>∃i j k,xs=[.int i, .int j, .int k]/\Q (.int (t9 i j k)) H):=by
 intro pins s σ H xs us Q I r h
 obtain ⟨i,j,k,rfl,q⟩:=h
 obtain ⟨u,us,rfl,⟨t,rfl⟩,r2⟩:∃u us',us=u::us'/\RelV (.int i) u/\Vals [.int j, .int k] us':=by cases r with|cons a b=>exact ⟨_,_,rfl,a,b⟩
 obtain ⟨u2,u3,rfl,⟨t',rfl⟩,⟨t'',rfl⟩⟩:=vals2 r2
 refine min_three_ints (I.ok.hd hc) fun h' tk kk=>⟨_,H,I.kept kk,?_,q⟩
 unfold t9
 by_cases hj:j<i
 . rw [aB hj,aB hj]
   by_cases hk:k<j
   . rw [aB hk,aB hk];exact ⟨_,Z⟩
   . rw [aA hk,aA hk];exact ⟨_,Z⟩
 . rw [aA hj,aA hj]
   by_cases hk:k<i
   . rw [aB hk,aB hk];exact ⟨_,Z⟩
   . rw [aA hk,aA hk];exact ⟨_,Z⟩
end
def gu (rs:List Row) (x:Str):Int:=((rs.find? fun r=>decide (r.1=x)).map (fun r:Row=>r.2)).getD 0
theorem yR (x:Str):gu [] x=0:=rfl
theorem oO (r:Row) (rs:List Row) (x:Str):gu (r::rs) x=if r.1=x then r.2 else gu rs x:=by
 unfold gu
 rw [sP]
 by_cases c:r.1=x
 . rw [a_ c,aB c];rfl
 . rw [cV c,aA c]
theorem xy:∀{rs:List Row} {x:Str},x∉rs.map (fun r:Row=>r.1)->gu rs x=0
 | [],_,_=>rfl
 | r::rs,x,h=>by
   rw [oO,aA (fun e=>h (by rw [bH,e];exact cL))]
   exact xy fun m=>h (by rw [bH];exact cC _ m)
theorem xA:∀{rs:List Row} {r:Row} {x:Str},r.1∉rs.map (fun r:Row=>r.1)->gu (rs++[r]) x=if r.1=x then r.2 else gu rs x
 | [],r,x,_=>by rw [Hs,oO]
 | y::rs,r,x,h=>by
   rw [bH] at h
   have h1:r.1≠y.1:=fun e=>h (by rw [e];exact cL)
   rw [OC,oO,xA (fun m=>h (cC _ m)),oO]
   by_cases c:y.1=x
   . rw [aB c,aB c,aA (fun e=>h1 (e.trans c.symm))]
   . rw [aA c,aA c]
abbrev Q4:=Str×Str×Int×Int
def bz (st:HS):List Q4:=st.aj.map fun p=>(p.nm,p.ow,p.wo,p.we)
def qG (qs:List Q4) (r:Row):List Q4:=(qs.map fun q=>if q.1=r.1 then (q.1,q.2.1,q.2.2.1-r.2,q.2.2.2) else q).filter fun q=>decide (q.2.2.1≠0)
def oQ (rs:List Row) (qs:List Q4):List Q4:=(qs.map fun q=>(q.1,q.2.1,q.2.2.1-gu rs q.1,q.2.2.2)).filter fun q=>decide (0<q.2.2.1)
theorem RH (st:HS) (r:Row):bz (cS st r)=qG (bz st) r:=by
 unfold bz cS jh qG
 generalize st.aj=ps
 show List.map _ (List.filter _ (List.map _ ps))=_
 induction ps with
 | nil=>rfl
 | cons p ps ih=>
   rw [bH,bH,bH]
   by_cases c:p.nm=r.1
   . rw [aB c,aB (show (p.nm,p.ow,p.wo,p.we).1=r.1 from c),ia,ia]
     by_cases d:p.wo-r.2=0
     . rw [aA (by simpa using d),aA (by simpa using d),ih]
     . rw [aB (by simpa using d),aB (by simpa using d),bH,ih]
   . rw [aA c,aA (show ¬ (p.nm,p.ow,p.wo,p.we).1=r.1 from c),ia,ia]
     by_cases d:p.wo=0
     . rw [aA (by simpa using d),aA (by simpa using d),ih]
     . rw [aB (by simpa using d),aB (by simpa using d),bH,ih]
theorem CD (st:HS) (kept whole:Int) (added:List Int):bz (bg st kept whole added)=bz st:=by
 unfold bz bg
 rw [nS,c6]
 rfl
theorem CF:∀(rs:List Row) (st:HS),bz (rs.foldl cS st)=rs.foldl qG (bz st)
 | [],_=>rfl
 | r::rs,st=>by rw [kH,kH,CF rs,RH]
theorem CG:∀(qs:List Q4) (r:Row) (rs:List Row),r.1∉rs.map (fun r:Row=>r.1)->(∀q∈qs,1<=q.2.2.1)->(∀q∈qs,q.1=r.1->r.2<=q.2.2.1)->oQ rs (qG qs r)=oQ (r::rs) qs
 | [],_,_,_,_,_=>rfl
 | q::qs,r,rs,hn,h1,h2=>by
   have ih:=CG qs r rs hn (fun x hx=>h1 x (cC _ hx)) (fun x hx=>h2 x (cC _ hx))
   have w1:=h1 q cL
   have e1:qG (q::qs) r=(if q.1=r.1 then (if q.2.2.1-r.2=0 then [] else [(q.1,q.2.1,q.2.2.1-r.2,q.2.2.2)]) else [q])++qG qs r:=by
    unfold qG
    rw [bH,ia]
    by_cases c:q.1=r.1
    . rw [aB c,aB c]
      by_cases d:q.2.2.1-r.2=0
      . rw [aB d,aA (by simpa using d)];rfl
      . rw [aA d,aB (by simpa using d)];rfl
    . rw [aA c,aA c,aB (a_ (show q.2.2.1≠0 by omega))];rfl
   have e2:∀(us:List Row) (x:Q4) (l:List Q4),oQ us (x::l)=(if 0<x.2.2.1-gu us x.1 then [(x.1,x.2.1,x.2.2.1-gu us x.1,x.2.2.2)] else [])++oQ us l:=fun us x l=>by
    unfold oQ
    rw [bH,ia]
    by_cases c:0<x.2.2.1-gu us x.1
    . rw [aB c,aB (a_ c)];rfl
    . rw [aA c,aA (by simpa using c)];rfl
   rw [e1,e2 (r::rs),oO]
   by_cases c:q.1=r.1
   . have am:gu rs q.1=0:=by rw [c];exact xy hn
     have le:=h2 q cL c
     rw [aB c,aB c.symm]
     by_cases d:q.2.2.1-r.2=0
     . rw [aB d,aA (by omega),<-ih];rfl
     . rw [aA d,aB (by omega),<-ih,OC,Hs,e2 rs]
       show (if 0<q.2.2.1-r.2-gu rs q.1 then [(q.1,q.2.1,q.2.2.1-r.2-gu rs q.1,q.2.2.2)] else [])++_=_
       rw [am,Int.sub_zero,aB (by omega)]
   . rw [aA c,show (if r.1=q.1 then r.2 else gu rs q.1)=gu rs q.1 from aA (fun z=>c z.symm),<-ih,OC,Hs,e2 rs]
theorem Fo {qs:List Q4} {x:Q4} (h:x∈qG qs r):x.2.2.1≠0/\∃q∈qs,x=if q.1=r.1 then (q.1,q.2.1,q.2.2.1-r.2,q.2.2.2) else q:=by
 obtain ⟨h1,h2⟩:=wM.mp h
 obtain ⟨q,hq,e⟩:=bJ.mp h1
 exact ⟨aZ h2,q,hq,e.symm⟩
theorem Fp:∀(rs:List Row) (qs:List Q4),(rs.map (fun r:Row=>r.1)).Nodup->(∀q∈qs,1<=q.2.2.1)->(∀r∈rs,∀q∈qs,q.1=r.1->r.2<=q.2.2.1)->rs.foldl qG qs=oQ rs qs
 | [],qs,_,h1,_=>by
   show qs=oQ [] qs
   unfold oQ
   induction qs with
   | nil=>rfl
   | cons q qs ih=>
     have:=h1 q cL
     rw [bH,ia,aB (a_ (show 0<q.2.2.1-gu [] q.1 by rw [yR];omega)),<-ih (fun x hx=>h1 x (cC _ hx)) (fun r hr=>absurd hr (by simp)),yR,Int.sub_zero]
 | r::rs,qs,nd,h1,h2=>by
   obtain ⟨n1,n2⟩:=gI.mp (show (r.1::rs.map (fun r:Row=>r.1)).Nodup from nd)
   rw [kH,Fp rs (qG qs r) n2 ?_ ?_]
   . exact CG qs r rs n1 h1 (h2 r cL)
   . intro x hx
     obtain ⟨a,q,hq,e⟩:=Fo hx
     have:=h1 q hq
     by_cases c:q.1=r.1
     . rw [aB c] at e
       have:=h2 r cL q hq c
       rw [e] at a ⊢
       have a:q.2.2.1-r.2≠0:=a
       show 1<=q.2.2.1-r.2
       omega
     . rw [aA c] at e;rw [e];exact this
   . intro y hy x hx ex
     obtain ⟨_,q,hq,e⟩:=Fo hx
     by_cases c:q.1=r.1
     . rw [aB c] at e
       rw [e] at ex
       exact absurd (bJ.mpr ⟨y,hy,ex.symm.trans c⟩) n1
     . rw [aA c] at e
       rw [e] at ex ⊢
       exact h2 y (cC _ hy) q hq ex
theorem Jj (st:HS) (rs:List Row):(gR st rs).own=st.own:=by
 unfold gR
 have:∀(rs:List Row) (s:HS),(rs.foldl cS s).own=s.own:=fun rs=>by
  induction rs with
  | nil=>intro s;rfl
  | cons r rs ih=>intro s;rw [kH,ih];rfl
 rw [this]
 unfold bg
 rw [rA]
theorem nT:∀(rs:List Row) (s:HS),rs.foldl cS s={ s with aj:=(rs.foldl cS s).aj }
 | [],_=>rfl
 | r::rs,s=>by
   rw [kH,nT rs (cS s r)]
   rfl
theorem t_ {f:Int->Int->Int} (hf:f 0 0=0) {xs ys:List Int} (h:xs.length=ys.length) (j:Nat):(List.zipWith f xs ys).getD j 0=f (xs.getD j 0) (ys.getD j 0):=by
 rw [iK,iK,iK,Oj]
 by_cases c:j<xs.length
 . rw [bu c,bu (by omega)];rfl
 . rw [wI (by omega),wI (by omega)];exact hf.symm
theorem RI {st st':HS} {kept whole:Int} {added:List Int} (wf:Wf st) (bl:p6 st kept whole lost added) (ec:st'.bq=(bg st kept whole added).bq) (ep:st'.prod=(bg st kept whole added).prod) {p':Pt} (hp:p∈st.aj) (e2:p'.row=p.row) (e3:p'.sc=p.sc*kept / cE st kept whole added)
  {t0 gB B:Int} {j:Nat} (tj:t0*st.prod=(aY st p).getD j 0*B) (eB:gB*st.prod=added.getD j 0*B):(t0*kept+gB)*st'.prod=(aY st' p').getD j 0*(B*whole):=by
 obtain ⟨hd,ZE,hds,hdc⟩:=bl.dvds
 have afm:st'.bq=(eW st kept added).map (· / cE st kept whole added):=by
  rw [ec];unfold bg;rw [Fd]
 have s1:1<=whole / cE st kept whole added:=by
  have w1:0<whole:=by have:=bl.l;have:=bl.w;have:=bl.k;omega
  have:=Int.le_of_dvd w1 ZE
  exact Int.le_ediv_of_mul_le hd (by omega)
 have Vt:st'.prod=st.prod*(whole / cE st kept whole added):=by
  rw [ep];unfold bg;rw [CC s1]
 have hds:=hds p hp
 have hrl:=wf.rows p hp
 have hcl:=wf.fW
 have gl:=bl.len
 have ewd:cE st kept whole added*(whole / cE st kept whole added)=whole:=Int.mul_ediv_cancel' ZE
 have a5:cE st kept whole added*p'.sc=p.sc*kept:=by rw [e3];exact Int.mul_ediv_cancel' hds
 rw [Vt]
 clear ec ep Vt e3 bl ZE hds s1
 generalize cE st kept whole added=d at *
 have etop:d*(aY st' p').getD j 0=(aY st p).getD j 0*kept+added.getD j 0:=by
  have a1:(aY st' p').getD j 0=p'.sc*p.row.getD j 0+((eW st kept added).map (· / d)).getD j 0:=by
   unfold aY
   rw [afm,e2,t_ (f:=fun r c=>p'.sc*r+c) (by show p'.sc*0+0=0;omega)]
   rw [aE]
   unfold eW
   rw [kU,gl,hrl,hcl]
   omega
  have a2:(aY st p).getD j 0=p.sc*p.row.getD j 0+st.bq.getD j 0:=by
   unfold aY
   exact t_ (f:=fun r c=>p.sc*r+c) (by show p.sc*0+0=0;omega) (by rw [hrl,hcl]) j
  have a3:(eW st kept added).getD j 0=st.bq.getD j 0*kept+added.getD j 0:=by
   unfold eW
   exact t_ (f:=fun t m=>t*kept+m) (by show (0:Int)*_+0=0;omega) gl.symm j
  have a4:d*((eW st kept added).map (· / d)).getD j 0=(eW st kept added).getD j 0:=by
   rw [iK,iK,cg]
   cases ec:(eW st kept added)[j]? with
   | none=>show _*0=(0:Int);omega
   | some x=>exact Int.mul_ediv_cancel' (hdc x (bX ec))
  rw [a1,uP,<-gY,a5,a4,a3,a2]
  grind
 generalize whole / d=RJ at *
 generalize (aY st' p').getD j 0=T' at *
 generalize (aY st p).getD j 0=T at *
 generalize added.getD j 0=gS at *
 refine Int.eq_of_mul_eq_mul_left (a:=d) (by omega) ?_
 have l1:d*((t0*kept+gB)*(st.prod*RJ))=(t0*st.prod*kept+gB*st.prod)*(d*RJ):=by grind
 have l2:d*(T'*(B*whole))=(d*T')*(B*whole):=by grind
 rw [l1,l2,ewd,tj,eB,etop]
 grind
theorem Av {α:Type} (f g:α->Int):∀l:List α,(l.map fun x=>f x+g x).sum=(l.map f).sum+(l.map g).sum
 | []=>rfl
 | a::l=>by rw [bH,bH,bH,c5,c5,c5,Av f g l];omega
theorem qH {α:Type} (f:α->Int) (k:Int):∀l:List α,(l.map fun x=>f x*k).sum=(l.map f).sum*k
 | []=>by simp
 | a::l=>by rw [bH,bH,c5,c5,qH f k l,oq]
theorem LF:∀(l:List Int) (n:Nat),l.length=n->(List.range n).map (fun i=>l.getD i 0)=l:=fun l n h=>by
 refine List.ext_getElem? fun i=>?_
 rw [cg]
 by_cases hi:i<n
 . rw [List.getElem?_range hi,bu (by omega)]
   show some (l.getD i 0)=_
   rw [iK,bu (by omega)];rfl
 . rw [wI (by rw [Oz];omega),wI (by omega)];rfl
theorem vA:∀{l:List Int} {i:Nat} {x:Int},i<l.length->(l.set i (l.getD i 0+x)).sum=l.sum+x
 | a::l,0,x,_=>by rw [Oq,c5,c5];show a+x+_=_;omega
 | a::l,i+1,x,h=>by
   rw [HU,c5,c5]
   have:=vA (l:=l) (i:=i) (x:=x) (by simpa using h)
   have e:(a::l).getD (i+1) 0=l.getD i 0:=rfl
   rw [e,this];omega
 | [],_,_,h=>by simp at h
theorem Nv (k:Int):∀{ts gs:List Int},ts.length=gs.length->(List.zipWith (fun t g=>t*k+g) ts gs).sum=ts.sum*k+gs.sum
 | [],[],_=>by simp
 | t::ts,g::gs,h=>by
   have:=Nv k (ts:=ts) (gs:=gs) (by simpa using h)
   rw [vj,c5,c5,c5,this,oq];omega
 | [],_::_,h=>by simp at h
 | _::_,[],h=>by simp at h
theorem WX (st:HS) (rs:List Row):(gR st rs).kn<=st.kn:=by
 unfold gR
 rw [nT]
 show (bg st (aS st-br rs) (aS st) (iU st rs)).kn<=st.kn
 unfold bg eE
 split
 . exact gj _
 . exact aK _
theorem Jk (n:Nat):(List.replicate n (0:Int)).sum=0:=by
 induction n with
 | zero=>rfl
 | succ n ih=>rw [AE,c5,ih];rfl
theorem lM:∀(l:List Str) (st:HS),st.aj=[]->(∀u∈st.bD,u=0)->(l.foldl eO st).aj=[]/\(l.foldl eO st).nms=st.nms/\(l.foldl eO st).stp=st.stp/\(l.foldl eO st).prod=st.prod/\(l.foldl eO st).dj=st.dj/\∀u∈(l.foldl eO st).bD,u=0
 | [],_,h,hp=>⟨h,Z,Z,Z,Z,hp⟩
 | o::l,st,h,hp=>by
   rw [kH]
   exact lM l (eO st o) (by show st.aj.map _=[];rw [h];rfl) (fun u hu=>by
    rcases gi.mp (show u∈st.bD++[0] from hu) with z|z
    . exact hp u z
    . exact fV.mp z)
def v5 (K:Fg) (ρ:dW) (H:Hp) (z:Addr) (xs:List V):Prop:=∀(ρ':dW) (H':Hp),aP (out ρ H) (out ρ' H')->aH K H' z xs
theorem v5.of (h:aH K H z xs):v5 K (fun _=>none) H z xs:=fun ρ' H' s=>by
 rcases h with (h|⟨o,h⟩)|h
 . exact .inl (.inl (ng (s _ _ (tV h rfl))).1)
 . exact .inl (.inr ⟨o,(ng (s _ _ (tV h rfl))).1⟩)
 . exact .inr h
theorem v5.go (h:v5 K ρ H z xs) (s:aP (out ρ H) (out ρ' H')):v5 K ρ' H' z xs:=fun _ _ s'=>h _ _ (s.trans s')
theorem aH.outs (h:aH K H z xs) (c:ρ z=none) (s:aP (out ρ H) (out ρ' H')):aH K H' z xs:=by
 rcases h with (h|⟨o,h⟩)|h
 . exact .inl (.inl (ng (s _ _ (tV h c))).1)
 . exact .inl (.inr ⟨o,(ng (s _ _ (tV h c))).1⟩)
 . exact .inr h
theorem HH.other {n m:Nat} {st:HS} (h:HH T n ρ A H st) (f:Fr m ρ H ρ' H') (g:Gh ρ' H') (e:n≠m):HH T n ρ' A H' st:=⟨g,h.h.other f h.g e,h.wf⟩
theorem Jl:∀(l:List Str) (st:HS),(l.foldl eO st).kn=st.kn
 | [],_=>rfl
 | o::l,st=>by rw [kH,Jl l];rfl
structure eZ (K:Fg) (x:Str) (st:Stmt):Prop where
 ex:∃(f:Addr) (oc:Value) (od an:Option Addr) (sl:Array (Option Value)) (kV dc pm cd ct:Value),PySem.W.nsIn K mainGlobals x=some (some (.ref f))/\K.lookup f=some ⟨oc,od, .func (PySem.W.fnOf x x (dY st) (cu st) (aC st) .none kV dc pm an cd ct),sl⟩/\PySem.W.codeIn K cd x=true/\PySem.W.keepIn K (.ref f)=true
theorem eZ.at {st:Stmt} (d:eZ K x st) (X:K.In h) (G:h.Ns mainGlobals mg):∃f fd,At K mg x st f fd:=by
 obtain ⟨f,oc,od,an,sl,kV,dc,pm,cd,ct,a,l,c,k⟩:=d.ex
 exact ⟨f,_,Vg X G a l c k⟩
structure cW (K:Fg) (C:Addr) (n qual:Str) (st:Stmt):Prop where
 ex:∃(f:Addr) (oc:Value) (od an:Option Addr) (sl:Array (Option Value)) (kV dc pm cd ct:Value),PySem.W.findIn K (.ref C) n=some (some (.ref f))/\PySem.W.isFn K (.ref f)=true/\K.lookup f=some ⟨oc,od, .func (PySem.W.fnOf n qual (dY st) (cu st) (aC st) .none kV dc pm an cd ct),sl⟩/\PySem.W.codeIn K cd qual=true/\PySem.W.keepIn K (.ref f)=true
theorem cW.at {n:Str} {st:Stmt} (d:cW K C n qual st) (cl:nM K C):∃f fd,gJ K C n qual st f fd:=by
 obtain ⟨f,oc,od,an,sl,kV,dc,pm,cd,ct,a,i,l,c,k⟩:=d.ex
 exact ⟨f,_,Iu l c k,⟨a,i,k⟩,cl⟩
theorem cW.made {st:Stmt} (d:cW K C "__init__" qual st) (X:K.In h) (G:h.Ns mainGlobals mg) (a0:PySem.W.nsIn K mainGlobals x=some (some (.ref C))) (m:PySem.W.makesIn K C=true) (kc:PySem.W.keepIn K (.ref C)=true):∃f fd,E5 K mg x C qual st f fd:=by
 obtain ⟨f,oc,od,an,sl,kV,dc,pm,cd,ct,a,i,l,c,k⟩:=d.ex
 exact ⟨f,_,Iu l c k,⟨m,a,i,kc⟩,qz X G a0⟩
variable {oc pm ct:Value} {od an:Option Addr} {sl:Array (Option Value)}
theorem eZ.of {st:Stmt} {kV dc cd:Value} (a:PySem.W.nsIn K mainGlobals x=some (some (.ref f))) (l:K.lookup f=some ⟨oc,od, .func (PySem.W.fnOf x x (dY st) (cu st) (aC st) .none kV dc pm an cd ct),sl⟩) (c:PySem.W.codeIn K cd x=true) (k:PySem.W.keepIn K (.ref f)=true):eZ K x st:=⟨⟨_,_,_,_,_,_,_,_,_,_,a,l,c,k⟩⟩
theorem cW.of {n:Str} {st:Stmt} {kV dc cd:Value} (a:PySem.W.findIn K (.ref C) n=some (some (.ref f))) (i:PySem.W.isFn K (.ref f)=true) (l:K.lookup f=some ⟨oc,od, .func (PySem.W.fnOf n qual (dY st) (cu st) (aC st) .none kV dc pm an cd ct),sl⟩) (c:PySem.W.codeIn K cd qual=true) (k:PySem.W.keepIn K (.ref f)=true):cW K C n qual st:=⟨⟨_,_,_,_,_,_,_,_,_,_,a,i,l,c,k⟩⟩
section
variable {X:Cx}
inductive ab4 (K:Fg) (x:V) (y:V) (H:Hp) (Q:VK):Prop
 | mk  (a b xs ys:_) (_:x = .ref a) (_:y = .ref b) (_:bN K H a xs) (_:bN K H b ys) (_:xs.length+ys.length<=sizeLine) (_:(xs=[]->Q (.ref b) H)) (_:(xs≠[]->ys=[]->Q (.ref a) H)) (_:(xs≠[]->ys≠[]->∀p,H p=none->Q (.ref p) (upd H p (.tup (xs++ys)))))
theorem WY (K:Fg) (hK:X.K=K:=by rfl):iL X (binaryOp .Add) (ab4 K):=by
 subst hK
 intro pins s σ H x y v u Q I rx ry h
 obtain ⟨a,b,xs,ys,rfl,rfl,ha,hb,hz,q0,q1,q2⟩:=h
 by_cases hx:xs=[]
 . cases rx
   cases ry
   obtain ⟨its,r1,ht,_⟩:=I.tuple ha
   obtain ⟨its2,r2,hb',_⟩:=I.tuple hb
   obtain ⟨⟨cls,dd,data,sl⟩,ho,hc,n,hd⟩:=id ht
   obtain ⟨⟨ae3,dd2,data2,sl2⟩,ho2,hc2,n2,hd2⟩:=id hb'
   simp only at hc hd hc2 hd2
   subst hc hd hc2 hd2
   exact concat_meets ⟨_,ho,Z⟩ ⟨_,ho2,Z⟩ noFill_tuple_add seq_tuple_add PySem.F.slot_tuple_add PySem.F.entry_tuple_add (PySem.F.args_tuple_add_2 _ _)
    (tuple_addW0 a b its.toArray its2.toArray n n2 dd dd2 sl sl2 (by rw [r1.zU.mpr hx];rfl)) ⟨ho,ho2,⟨.ref b,H,I,Z,q0 hx⟩⟩
 . exact Wi pins s σ H _ _ v u Q I rx ry ⟨a,b,xs,ys,Z,Z,ha,hb,hx,hz,q1 hx,q2 hx⟩
variable {o i:Expr} {pos:Pos} {td ty:TE}
end
theorem WZ (K:Fg) (hK:X.K=K:=by rfl):Yz X (YC K):=hK▸YD
theorem LG:PySem.W.kitOne K (.type "str") (.type "int")=some false:=by rfl
theorem W0 (xs:List V) (k:Nat):AL xs none (some (k:Int))=xs.take k:=by
 unfold AL
 rw [HT.Th,HT.MX,List.drop_zero,Nat.sub_zero]
 rcases Nat.le_total k xs.length with h|h
 . rw [Nat.min_eq_left h]
 . rw [Nat.min_eq_right h,cK,Oe h]
section
variable {a b:List Nat} {m v:Int} (ha:oJ a) (hb:oJ b) (hm:1<=m) (hm2:m<=1000000000) (hv:0<=v) (hv2:v<=1000000000)
include ha hb hm hm2 hv hv2 in
end
section
variable {X:Cx}
end
section
variable {X:Cx}
end
def Trc (h:Heap) (x T C:Addr):Prop:=∃oe vs a0 oT ts,h.get? x=some oe/\oe.cls = .ref C/\vs[0]?=some a0/\oe.data = .fields vs/\vs[1]?=some (.ref T)/\T≠x/\h.get? T=some oT/\oT.data = .fields ts/\ts[3]?=some .none
def gf (P:Program) (w:World):vQ:=fun outer H s E e s'=>∃(x T C:Addr) (H':Hp),e = .ref x/\s'.os=s.os/\AllBare s'.gens/\Un (frs outer) [] H H' s.heap s'.heap/\gU P w H' s'.heap/\Trc s'.heap x T C/\
 s.heap.get? x=none/\s.heap.get? T=none/\H' x=none/\H' T=none/\E e (some C) H'
variable {h':Heap}
theorem gU.ZF {w:World} (x:gU P w H h) (k:∀b o u,H b=some o->h.get? b=some u->h'.get? b=some u):gU P w H h':=fun a o e=>
 (x a o e).stay (fun b u hb q=>by
   rcases hb with rfl|hb
   . exact k _ _ _ e q
   . exact k _ _ _ hb q) (fun _ q=>q) fun _ _ q=>q
theorem dI.isAt {w:World} (x:dI P w H h a o):∃u,h.get? a=some u:=by
 cases o with
 | lst xs=>obtain ⟨_,_,_,_,e⟩:=x;exact ⟨_,e⟩
 | tup xs=>obtain ⟨_,_,_,p⟩:=x;obtain ⟨o,e,_⟩:=p;exact ⟨_,e⟩
 | dK kvs=>obtain ⟨_,_,_,_,o,_,_,e,_⟩:=x;exact ⟨_,e⟩
 | dT kvs=>obtain ⟨_,_,_,_,o,_,_,e,_⟩:=x;exact ⟨_,e⟩
 | set S n=>obtain ⟨o,_,_,_,e,_⟩:=x;exact ⟨_,e⟩
 | ins C dx fs=>obtain ⟨_,_,_,e,_⟩:=x;exact ⟨_,e⟩
 | own y=>obtain ⟨_,e⟩:=x;exact ⟨_,e⟩
 | xd fs=>obtain ⟨_,⟨_,_,_,e,_⟩,_⟩:=x;exact ⟨_,e⟩
 | uQ lo hi=>obtain ⟨_,_,_,e⟩:=x;exact ⟨_,e⟩
 | eX ob u=>obtain ⟨e,_⟩:=x;exact ⟨_,e⟩
 | EM ps=>exact ⟨_,(show h.get? a=some _ from x)⟩
 | met f y=>exact ⟨_,(show h.get? a=some _ from x)⟩
 | ext φ=>obtain ⟨_,⟨_,e⟩,_⟩:=x;exact ⟨_,e⟩
section
variable {P:Program} {w:World} {K:Fg} {mg:SO} {base:Heap} {N:List Str} {qual:Str} {scope:Scope} {f:Addr} {cd:Value} {A:Around} {outer:List Env} {s0:Shared} {H0:Hp} {E:XK} {CX:vQ}
theorem Ny {x:Addr} {a0:Value} {B:Heap} (I:Inv (cD CX P w K mg base N qual scope f cd A outer s0 H0 E) pins σ H s)
  (hB:∀b o,s.heap.get? b=some o->b∉frs (envOfC qual scope s0.heap.objs.size f cd::outer)->s0.heap.get? b≠none\/H b≠none->B.get? b=some o)
  (hfl:Heap.FlyingW B outer x (.ref C) a0 h') (hup:s.heap.UpToSlots h') (hx:s0.heap.get? x=none) (Fq:H x=none)
  (q:E (.ref x) (some C) H):gf P w outer H0 s0 E (.ref x) { s with heap:=h' }:=by
 obtain ⟨st,bx,fr,oe,vs,T,oT,ts,h1,⟨h2,h3⟩,h4,h5,h6,h7,h8,h9,yf⟩:=hfl
 have ab5:T∉frs outer:=fun m=>by
  obtain ⟨_,o,ho,hd⟩:=fr.mem m
  rw [h8] at ho;cases ho
  exact hd _ h9
 have L0:s0.heap.get? s0.heap.objs.size=none:=Heap.get?_none_of_le (aK _)
 have big:∀b o,s0.heap.get? b=some o->b∉frs outer->b∉frs (envOfC qual scope s0.heap.objs.size f cd::outer):=fun b o e n m=>by
  have m':b∈s0.heap.objs.size::frs outer:=m
  rcases bP.mp m' with z|z
  . rw [z,L0] at e;cases e
  . exact n z
 have hT0:s0.heap.get? T=none:=by
  cases e:s0.heap.get? T with
  | none=>rfl
  | some o=>
    obtain ⟨o',ho'⟩:=I.base.there T o e (by simp [cD])
    have:=hB T o' ho' (big T o e ab5) (.inl (by rw [e];exact fun z=>nomatch z))
    rw [h6] at this;cases this
 have RK:H T=none:=by
  cases e:H T with
  | none=>rfl
  | some o=>
    have lt:=I.hok.lt e
    have nst:T∉frs (envOfC qual scope s0.heap.objs.size f cd::outer):=fun m=>by
     have:=I.zR T m
     rw [e] at this;cases this
    have hob:∃u,s.heap.get? T=some u:=(I.hok T o e).isAt
    obtain ⟨u,hu⟩:=hob
    have:=hB T u hu nst (.inr (by rw [e];exact fun z=>nomatch z))
    rw [h6] at this;cases this
 refine ⟨x,T,C,H,Z,I.os,I.bare,⟨fun b o e n nf _=>?_,fun b o e n m _=>?_,fun b o e n _=>?_,fun b o e _=>?_,I.base.tups,I.base.pU,I.base.tK⟩,?_,⟨oe,vs,a0,oT,ts,h1,h2,h3,h4,h5,h7,h8,h9,yf⟩,hx,hT0,Fq,RK,q⟩
 . exact st b o (hB b o (I.base.keep b o e n nf (by simp [cD])) (big b o e nf) (.inl (by rw [e];exact fun z=>nomatch z)))
 . obtain ⟨sl,hs⟩:=I.base.slot b o e n m (by simp [cD])
   have fr0:=I.ok.oz
   obtain ⟨_,o',ho',hd'⟩:=fr0.mem m
   obtain ⟨XQ,hs'⟩:=hup b _ hs (fun vs z=>by
    have ho2:s0.heap.get? b=some o':=ho'
    rw [e] at ho2;cases ho2
    exact hd' vs z)
   exact ⟨XQ,hs'⟩
 . exact I.base.free b o e n (by simp [cD])
 . obtain ⟨o',ho'⟩:=I.base.there b o e (by simp [cD])
   by_cases m:b∈frs outer
   . have fr0:=I.ok.oz
     obtain ⟨_,o2,ho2,hd2⟩:=fr.mem m
     exact ⟨o2,ho2⟩
   . exact ⟨o',st b o' (hB b o' ho' (big b o e m) (.inl (by rw [e];exact fun z=>nomatch z)))⟩
 . exact I.hok.ZF fun b o u e hu=>st b u (hB b u hu (fun m=>by have:=I.zR b m;rw [e] at this;cases this) (.inr (by rw [e];exact fun z=>nomatch z)))
theorem Ud {x T:Addr} (I:Inv (cD (gf P w) P w K mg base N qual scope f cd A outer s0 H0 E) pins σ H s) (t:Trc s.heap x T C) (hx:s0.heap.get? x=none) (hT:s0.heap.get? T=none) (Fq:H x=none) (RK:H T=none)
  (q:E (.ref x) (some C) H):(cD (gf P w) P w K mg base N qual scope f cd A outer s0 H0 E).xe (.ref x) s:=by
 obtain ⟨oe,vs,a0,oT,ts,h1,h2,h3,h4,h5,h6,h7,h8,h9⟩:=t
 have hst:=I.stack
 have Ue:s.heap.FunFrames base (envOfC qual scope s0.heap.objs.size f cd::outer):=hst
 have hin:∀env∈(envOfC qual scope s0.heap.objs.size f cd::outer),∀b,env.frame=some b->b∈x::T::frs (envOfC qual scope s0.heap.objs.size f cd::outer):=fun env he b hb=>cC _ (cC _ (DI.mpr ⟨env,he,hb⟩))
 refine wpAny_leaves_onW (base:=PySem.W.hideAll s.heap (x::T::frs (envOfC qual scope s0.heap.objs.size f cd::outer))) (L:=s0.heap.objs.size) (cls:= .ref C) (a0:=a0) (outer:=outer) I.ok.frames rfl ⟨fun b o e=>PySem.W.of_hideAll _ e,PySem.W.hideAll_none _ cL,PySem.W.funFrames_hide Ue hin,oe,vs,T,oT,ts,h1,⟨h2,h3⟩,h4,h5,PySem.W.hideAll_none _ (cC _ cL),h6,h7,h8,h9⟩ fun h' fl up=>?_
 refine Ny I (fun b o e n hb=>PySem.W.hideAll_get _ e fun m=>?_) fl up hx Fq q
 rcases bP.mp m with z|m
 . rw [z] at hb
   rcases hb with hb|hb
   . exact hb hx
   . exact hb Fq
 . rcases bP.mp m with z|m
   . rw [z] at hb
     rcases hb with hb|hb
     . exact hb hT
     . exact hb RK
   . exact n m
theorem Vu:Passes (gf P w) (cD (gf P w) P w K mg base N qual scope f cd A outer s0 H0 E) E:=fun pins σ H s e s' I h=>by
 obtain ⟨x,T,C,H',rfl,os,bare,un,hok,t,hx,hT,Fq,RK,q⟩:=h
 have I':Inv (cD (gf P w) P w K mg base N qual scope f cd A outer s0 H0 E) pins σ H' s':=I.OE (ch:=[]) os un hok bare (fun b z=>absurd z (by simp))
 have old:∀b,s.heap.get? b=none->s0.heap.get? b=none:=fun b e=>by
  cases q:s0.heap.get? b with
  | none=>rfl
  | some o=>
    obtain ⟨o',ho'⟩:=I.base.there b o q (by simp [cD])
    rw [e] at ho';cases ho'
 exact Ud I' t (old x hx) (old T hT) Fq RK q
theorem Pc {x:Addr} {args:List Value} (I:Inv (cD (gf P w) P w K mg base N qual scope f cd A outer s0 H0 E) pins σ H s) (hm:Heap.MadeExcOf s.heap h1 x (.ref C) args)
  (q:E (.ref x) (some C) H):(cD (gf P w) P w K mg base N qual scope f cd A outer s0 H0 E).xe (.ref x) { s with heap:=h1 }:=by
 have Ue:s.heap.FunFrames base (envOfC qual scope s0.heap.objs.size f cd::outer):=I.stack
 have hin:∀env∈(envOfC qual scope s0.heap.objs.size f cd::outer),∀b,env.frame=some b->b∈frs (envOfC qual scope s0.heap.objs.size f cd::outer):=fun env he b hb=>DI.mpr ⟨env,he,hb⟩
 have I1:Inv (cD (gf P w) P w K mg base N qual scope f cd A outer s0 H0 E) pins σ H { s with heap:=h1 }:=I.kept (t':=s.toks) hm.keeps
 have Fq:H x=none:=by
  cases e:H x with
  | none=>rfl
  | some o=>
    obtain ⟨u,hu⟩:=(I.hok x o e).isAt
    rw [hm.new] at hu;cases hu
 have hx0:s0.heap.get? x=none:=by
  cases e:s0.heap.get? x with
  | none=>rfl
  | some o=>
    obtain ⟨o',ho'⟩:=I.base.there x o e (by simp [cD])
    rw [hm.new] at ho';cases ho'
 refine wpAny_leaves_madeW (base:=PySem.W.hideAll s.heap (frs (envOfC qual scope s0.heap.objs.size f cd::outer))) (h:=s.heap) (L:=s0.heap.objs.size) (outer:=outer) I.ok.frames rfl (fun b o e=>PySem.W.of_hideAll _ e) (PySem.W.funFrames_hide Ue hin) hm fun h' t fl _ _ up=>?_
 refine Ny I1 (fun b o e n hb=>PySem.W.hideAll_get _ ?_ n) fl up hx0 Fq q
 rcases hb with hb|hb
 . cases e0:s0.heap.get? b with
   | none=>exact absurd e0 hb
   | some o0=>
     obtain ⟨o',ho'⟩:=I.base.there b o0 e0 (by simp [cD])
     have e':h1.get? b=some o:=e
     have:=hm.keeps b o' ho'
     rw [e'] at this;cases this
     exact ho'
 . cases e0:H b with
   | none=>exact absurd e0 hb
   | some o0=>
     obtain ⟨o',ho'⟩:=(I.hok b o0 e0).isAt
     have e':h1.get? b=some o:=e
     have:=hm.keeps b o' ho'
     rw [e'] at this;cases this
     exact ho'
end
def ZG:List Value:=[.type "ValueError", .type "Exception", .type "BaseException", .type "object"]
structure gK (K:Fg) (C:Addr):Prop where
 ex:∃(nm q:Str) (N:Addr) (bs bm:List Value) (hdct:Bool) (sn:List Str) (sub:List Value) (ab:Bool) (col:Option Bool) (dd:Option Addr) (k0 k1 k2 k3 k5:Option Value) (mN:SO),mN "__init__"=none/\bm.contains (.type "BaseException")=true/\∀h:Heap,K.In h->
  h.get? C=some (excClassObj nm q C N bs bm hdct sn sub ab col dd k0 k1 k2 k3 k5 "ValueError.__new__")/\h.Ns N mN/\OwnTail h ZG bm
section
variable {P:Program} {w:World} {K:Fg} {mg:SO} {base:Heap} {N:List Str} {qual:Str} {scope:Scope} {f:Addr} {cd:Value} {A:Around} {outer:List Env} {s0:Shared} {H0:Hp} {E:XK}
def ZH (C:Addr) (E:XK):TS:=fun _ _ H=>∀x,E (.ref x) (some C) H
structure Dx (P:Program) (w:World) (K:Fg) (mg:SO) (base:Heap) (k:Nat) (x:Str) (ps:List Str) (sp:Sp):Prop where
 ex:∃f fd,i7 P w K mg base (gf P w) k f fd ps sp/\Binds K fd ps []/\PySem.W.keepIn K (.ref f)=true/\mg x=some (.ref f)
theorem At.ZI {st:Stmt} {f:Addr} {N:List Str} {k:Nat} (F:At K mg x st f fd) (S:aO N ps (aC st)) (len:∀vs H Q E,sp vs H Q E->vs.length=ps.length)
  (hbody:∀(cdv:Value) (A:Around) (outer:List Env) (s:Shared) (H:Hp) (vs:List V) (Q:VK) (E:XK),dm k (A.deeper (envOfC x (aC st) s.heap.objs.size f cdv))->sp vs H Q E->
    ∃t,pO (cD (gf P w) P w K mg base N x (aC st) f cdv A outer s H E) (cu st) t/\t { nx:=fun _ H'=>Q .bU H',rt:=Q } (start N vs) H)
  (h:∀(kV doc pm:Value) (an:Option Addr) (cdv ct:Value) (us:List Value),us.length=ps.length->bindArgs (PySem.W.fnOf x x (dY st) (cu st) (aC st) .none kV doc pm an cdv ct) ⟨us,[]⟩=pure (ps.zip us)):
  Dx P w K mg base (k+1) x ps sp:=by
 refine ⟨f,fd,?_,F.fn.binds h,F.fn.kp,F.name⟩
 obtain ⟨oc,od,kV,doc,pm,an,cdv,ct,osl,rfl,lk,hcd⟩:=F.fn.ex
 exact OR lk hcd S len fun A outer s H vs Q E hr oF=>hbody cdv A outer s H vs Q E hr oF
end
section
variable {X:Cx} {pins:AO} {σ:St} {Hc H:Hp} {sc s:Shared} {x C:Addr} {fl:Value}
end
section
variable {X:Cx} {pins:AO} {σ:St} {Hc H:Hp} {sc s:Shared} {x C:Addr} {fl:Value}
end
section
variable {X:Cx} {pins:AO} {σ:St} {Hc H:Hp} {sc s:Shared} {x C:Addr} {fl:Value}
end
open PySem.W PySem.Calls Builtin.ObjectAttr Builtin.Getset_descriptor
section
variable {prog:Program} {w:World} {A:Around} {E:VS} {h:Heap} {g:Array GenState} {d:Drawn} {t:Nat} {os:OsState} {x C:Addr} {o:Obj} {K:Frag} {R:Result->Shared->Prop}
end
theorem Jo {K:Frag} {bmB:List Value} {x:Value} (hb:bmB.contains x=true):∀{l:List Value},tailIn K bmB l=true->l.contains x=true
 | [],e=>by rw [mK.mp (show (bmB==[])=true from e)] at hb;exact hb
 | v::r,e=>by
   unfold tailIn at e
   rcases DG.mp e with q|q
   . rw [mK.mp q];exact hb
   . split at q
     . split at q
       . simp only [AF] at q
         rw [List.contains_cons,Jo hb q.2,Bool.or_true]
       . cases q
     . cases q
def v7 (K:Frag) (N:Addr) (x:Str):Option Value:=match K.lookup N with
 | some o=>(match o.data with | .dict es _=>nsFind es x|_=>none)
 | none=>none
theorem Pe {K:Frag} {N:Addr} (X:K.In h) (e:nsOkIn K N=true):h.nsMap N=v7 K N:=by
 unfold nsOkIn at e
 split at e
 . rename_i ho
   funext x
   unfold v7 Heap.nsMap
   rw [X _ _ ho,ho]
 . cases e
theorem Jp {K:Frag} {N:Addr} (q:nsIn K N x=some none):v7 K N x=none:=by
 unfold nsIn at q
 unfold v7
 split at q
 . rename_i c d es n sl ho
   rw [ho]
   show nsFind es x=none
   split at q
   . cases q
   . rename_i he
     unfold nsFind findBy
     rw [<-Array.find?_toList,he]
     rfl
 . cases q
theorem gK.of {K:Frag} (q:excIn K C ZG "ValueError.__new__"=true):gK K C:=by
 unfold excIn at q
 split at q
 . rename_i dd cd sl ho
   split at q
   . rename_i C' bm k0 k1 k2 k3 n k5 hm hs
     simp only [AF,mK,Bool.not_eq_true'] at q
     obtain ⟨⟨⟨⟨⟨rfl,rfl⟩,ZJ⟩,ht⟩,hok⟩,hni⟩:=q
     obtain ⟨nm,bs,mro,ns,qn,hd,sn,sub,ab,col,del⟩:=cd
     dsimp only at hm ZJ hok hni
     subst hm ZJ
     have hsl:sl=#[k0,k1,k2,k3,some (.builtin "ValueError.__new__"),k5] :=by
      obtain ⟨l⟩:=sl
      simp only at hs
      rw [hs]
     subst hsl
     refine ⟨nm,qn,ns,bs,bm,hd,sn,sub,ab,col,dd,k0,k1,k2,k3,k5,v7 K ns,Jp hni,Jo (by decide +kernel) ht,fun h X=>⟨X _ _ ho,?_,tail_of_in X ht⟩⟩
     have:=Heap.Ns.of_isNs (isNs_of_in X hok)
     rw [Pe X hok] at this
     exact this
   . cases q
 . cases q
section
variable {X:Cx}
end
structure Ec where
 (bad twice Pf Jq ab6 yS AW rows afn ab7 ahV:Addr)
section
end
structure Mx (P:Program) (w:World) (K:Fg) (mg:SO) (base:Heap) (k:Nat) (C:Addr) (m:Str) (ps:List Str) (sp:Sp):Prop where
 ex:∃f fd,i7 P w K mg base (gf P w) k f fd ps sp/\Binds K fd ps []/\Meth K C m f/\nM K C
theorem gJ.ZI {w:World} {m:Str} {st:Stmt} {k:Nat} (F:gJ K C m qual st f fd) (S:aO N ps (aC st)) (len:∀vs H Q E,sp vs H Q E->vs.length=ps.length)
  (hbody:∀(cdv:Value) (A:Around) (outer:List Env) (s:Shared) (H:Hp) (vs:List V) (Q:VK) (E:XK),dm k (A.deeper (envOfC qual (aC st) s.heap.objs.size f cdv))->sp vs H Q E->
    ∃t,pO (cD (gf P w) P w K mg base N qual (aC st) f cdv A outer s H E) (cu st) t/\t { nx:=fun _ H'=>Q .bU H',rt:=Q } (start N vs) H)
  (h:∀(kV doc pm:Value) (an:Option Addr) (cdv ct:Value) (us:List Value),us.length=ps.length->bindArgs (PySem.W.fnOf m qual (dY st) (cu st) (aC st) .none kV doc pm an cdv ct) ⟨us,[]⟩=pure (ps.zip us)):
  Mx P w K mg base (k+1) C m ps sp:=by
 refine ⟨f,fd,?_,F.fn.binds h,F.me,F.cl⟩
 obtain ⟨oc,od,kV,doc,pm,an,cdv,ct,osl,rfl,lk,hcd⟩:=F.fn.ex
 exact OR lk hcd S len fun A outer s H vs Q E hr oF=>hbody cdv A outer s H vs Q E hr oF
theorem i7.noX {w:World} {k:Nat} {Ft:Sp} (F:i7 P w K mg base (gf P w) k f fd ps sp) (h:∀vs H Q E,Ft vs H Q E->sp vs H Q E0):i7 P w K mg base sL k f fd ps Ft:=
 ⟨fun vs H Q E q=>F.len _ _ _ _ (h _ _ _ _ q),fun A outer s H args us vs Q E hr he hb hv hs=>BH (F.run A outer s H args us vs Q E0 hr he hb hv (h _ _ _ _ hs)) fun r s' q=>by
   cases r with
   | error e=>
     obtain ⟨x,T,C,H',_,_,_,_,_,_,_,_,_,_,z⟩:=(show gf P w outer H s E0 e s' from q)
     exact z.elim
   | ok fl=>cases fl <;> exact q⟩
theorem Mx.mn {w:World} {k:Nat} {m:Str} {Ft:Sp} (D:Mx P w K mg base k C m ps sp) (h:∀vs H Q E,Ft vs H Q E->sp vs H Q E0):Mn P w K mg base k C m ps Ft:=by
 obtain ⟨f,fd,F,b,me,c⟩:=D.ex
 exact ⟨f,fd,F.noX h,b,me,c⟩
theorem Dx.dn {w:World} {k:Nat} {Ft:Sp} (D:Dx P w K mg base k x ps sp) (h:∀vs H Q E,Ft vs H Q E->sp vs H Q E0):Dn P w K mg base k x ps Ft:=by
 obtain ⟨f,fd,F,b,kp,m⟩:=D.ex
 exact ⟨f,fd,F.noX h,b,kp,m⟩
section
variable {P:Program} {w:World} {K:Fg} {mg:SO} {base:Heap} {N:List Str} {qual:Str} {scope:Scope} {f:Addr} {cd:Value} {A:Around} {outer:List Env} {s0:Shared} {H0:Hp} {E:XK}
end
section
variable {X:Cx}
end
def Ec.at (e:Ec):Nat->Addr
 | 0=>e.bad|1=>e.twice|2=>e.Pf|3=>e.Jq|4=>e.ab6|5=>e.yS|6=>e.AW|7=>e.rows|8=>e.afn|_=>e.ab7
def Rf (e:Ec) (E:XK) (H:Hp) (i:Nat):Prop:=∀x H',aP H H'->E (.ref x) (some (e.at i)) H'
structure Fv (T:TC) (e:Ec) (n:Nat) (ρ:dW) (A:HA) (H:Hp) (r:Option Nat) (st':HS) (Q:VK) (E:XK):Prop where
 no:∀i,r=some i->Rf e E H i
 ok:r=none->uV T n ρ A H st' fun H'=>Q .bU H'
def newR (st:HS) (x:Str):Option Nat:=if isNm x=true then (if x∈st.nms then some 1 else none) else some 0
def xB (st:HS) (o:Str):Option Nat:=if isNm o=true then (if o∈st.own then some 1 else none) else some 0
def xC (st:HS) (x o:Str) (wo we:Int):Option Nat:=match newR st x with
 | some i=>some i
 | none=>if o∈st.own then (if wo<1\/we<0 then some 5 else none) else some 2
inductive W2 (T:TC) (e:Ec) (vs:List V) (H:Hp) (Q:VK) (E:XK):Prop
 | mk (n ρ A st o:_) (_:vs=[.ref A.a, .str o]) (_:aN T n ρ A H st) (_:(o∉st.own->Rf e E H 2)) (_:(o∈st.own->Q (.int (st.own.idxOf o:Int)) H))
def xD (T:TC) (e:Ec):Sp:=bx (W2 T e)
inductive Ug (T:TC) (e:Ec) (vs:List V) (H:Hp) (Q:VK) (E:XK):Prop
 | mk (n ρ A st x:_) (_:vs=[.ref A.a, .str x]) (_:aN T n ρ A H st) (_:(st.aj.map (·.nm)).Nodup) (_:((∀p∈st.aj,p.nm≠x)->Rf e E H 3)) (_:∀(i:Nat) (p:Pt) (q:Addr×Addr×Addr),p.nm=x->st.aj[i]?=some p->A.qs[i]?=some q->Q (.ref q.1) H)
def k7 (T:TC) (e:Ec):Sp:=bx (Ug T e)
inductive Pg (T:TC) (e:Ec) (vs:List V) (H:Hp) (Q:VK) (E:XK):Prop
 | mk (n ρ A st x:_) (_:vs=[.ref A.a, .str x]) (_:aN T n ρ A H st) (_:x.cps.toList.length<=100000) (_:(∀i,newR st x=some i->Rf e E H i)) (_:(newR st x=none->∀H',aP H H'->Q .bU H'))
def vB (T:TC) (e:Ec):Sp:=bx (Pg T e)
theorem yT {st:HS} (h1:isNm x=true) (h2:x∉st.nms):newR st x=none:=by unfold newR;rw [aB h1,aA h2]
theorem Ph {st:HS} {o:Str} (h1:isNm x=true) (h2:x∉st.nms) (h3:o∈st.own) (h4:1<=wo) (h5:0<=we):xC st x o wo we=none:=by
 unfold xC;rw [yT h1 h2];show (if o∈st.own then _ else _)=_;rw [aB h3,aA (by omega)]
variable {st':HS}
theorem Fv.of {e:Ec} {n:Nat} {r:Option Nat} {Q:VK} (h:r=none) (q:uV T n ρ A H st' fun H'=>Q .bU H'):Fv T e n ρ A H r st' Q E0:=⟨(fun i z=>by rw [h] at z;cases z),fun _=>q⟩
inductive Dd where
 | sign (o:Str)|load (x o:Str) (wo we:Int)|cast (rs:List Row)|award (o:Str) (a:Int)|mishap (x:Str) (a:Int)|rise (x:Str) (a:Int)|hand (x o:Str)|land (x:Str)|sever (x y:Str) (a we:Int)|still
def fJ:List Row->List V
 | []=>[]
 | r::rs=> .str r.1 :: .int r.2::fJ rs
def Dd.v:Dd->List V
 | .sign o=>[.str "sign", .str o]
 | .load x o wo we=>[.str "load", .str x, .str o, .int wo, .int we]
 | .cast rs=> .str "cast"::fJ rs
 | .award o a=>[.str "award", .str o, .int a]
 | .mishap x a=>[.str "mishap", .str x, .int a]
 | .rise x a=>[.str "rise", .str x, .int a]
 | .hand x o=>[.str "hand", .str x, .str o]
 | .land x=>[.str "land", .str x]
 | .sever x y a we=>[.str "sever", .str x, .str y, .int a, .int we]
 | .still=>[.str "still"]
def eT (st:HS):List Str:=st.aj.map fun p=>p.nm
def i9 (st:HS) (r:Row):Option Nat:=if r.1∈eT st then (if r.2<1 then some 5 else if (bK st r.1).wo<r.2 then some 6 else none) else some 3
def sU (st:HS) (rs:List Row):Option Nat:=if rs≠[]/\(rs.map fun r:Row=>r.1).Nodup then (match rs.findSome? (i9 st) with
 | some i=>some i
 | none=>if aS st<=br rs then some 6 else none) else some 7
def jE (st:HS) (o:Str) (a:Int):Option Nat:=if o∈st.own then (if a<1 then some 5 else if aS st<=a then some 6 else none) else some 2
def kN (st:HS) (x:Str) (a:Int):Option Nat:=if x∈eT st then (if a<1 then some 5 else none) else some 3
def jY (st:HS) (x o:Str):Option Nat:=if x∈eT st then (if o∈st.own then none else some 2) else some 3
def qI (st:HS) (x:Str):Option Nat:=if x∈eT st then none else some 3
def ig (st:HS) (x y:Str) (a we:Int):Option Nat:=if x∈eT st then (match newR st y with
 | some i=>some i
 | none=>if a<1\/we<0 then some 5 else if (bK st x).wo<=a\/(bK st x).we<we then some 6 else none) else some 3
def k_ (st:HS):Dd->Option Nat
 | .sign o=>xB st o
 | .load x o wo we=>xC st x o wo we
 | .cast rs=>sU st rs
 | .award o a=>jE st o a
 | .mishap x a=>i9 st (x,a)
 | .rise x a=>kN st x a
 | .hand x o=>jY st x o
 | .land x=>qI st x
 | .sever x y a we=>ig st x y a we
 | .still=>none
def rC (st:HS) (o:Str) (a:Int):HS:=bg st (aS st-a) (aS st) ((List.replicate st.own.length 0).set (st.own.idxOf o) (a*st.prod))
def lV (st:HS) (x:Str) (f:Pt->Pt):HS:={ st with aj:=st.aj.map fun p=>if p.nm=x then f p else p }
def HJ (st:HS) (x:Str) (a:Int):HS:=lV st x fun p=>{ p with wo:=p.wo+a }
def lN (st:HS) (p:Pt) (o:Str):List Int:=((aY st p).set (st.own.idxOf o) ((aY st p).getD (st.own.idxOf o) 0+(aY st p).getD (st.own.idxOf p.ow) 0)).set (st.own.idxOf p.ow) 0
def fB (st:HS) (x o:Str):HS:=if st.own.idxOf o=st.own.idxOf (bK st x).ow then st else lV st x fun p=>{ p with ow:=o,sc:=1,row:=kY st (lN st p o) }
def eU (st:HS) (p:Pt):List Int:=List.zipWith (fun u t=>u+p.wo*t) st.bD (aY st p)
def oR (st:HS) (x:Str):HS:=
 { st with aj:=st.aj.filter (fun p=>decide (p.nm≠x))
           dj:=st.dj++[⟨x,(bK st x).ow,(bK st x).wo,kg st (bK st x)⟩]
           kn:=st.kn+100
           bD:=(eU st (bK st x)).set (st.own.idxOf (bK st x).ow) ((eU st (bK st x)).getD (st.own.idxOf (bK st x).ow) 0-(bK st x).wo*st.prod) }
def kh (st:HS) (x y:Str) (a we:Int):HS:=qF (lV st x fun p=>{ p with wo:=p.wo-a,we:=p.we-we }) ⟨y,(bK st x).ow,a,we,(bK st x).sc,(bK st x).row⟩
def g_ (st:HS):Dd->HS
 | .sign o=>eO st o
 | .load x o wo we=>HG st x o wo we
 | .cast rs=>gR st rs
 | .award o a=>rC st o a
 | .mishap x a=>cS st (x,a)
 | .rise x a=>HJ st x a
 | .hand x o=>fB st x o
 | .land x=>oR st x
 | .sever x y a we=>kh st x y a we
 | .still=>st
def wl (s:Str):Nat:=s.cps.toList.length
section
variable {X:Cx}
end
theorem xE (h:isNm x=true):PyData.strOk x=true:=by
 unfold PyData.strOk
 rw [Array.all_eq_true']
 intro c hc
 unfold isNm isName at h
 have h1:=tH.mp (lX.mp h).2 c (by simpa using hc)
 rw [WE] at h1
 have hm:=aZ h1
 have:∀c∈("abcdefghijklmnopqrstuvwxyz":Str).cps.toList,c<1000:=by decide +kernel
 have:=this c hm
 exact a_ (by omega)
section
variable {P:Program} {w:World} {K:Fg} {mg:SO} {base:Heap} {k:Nat} {T:TC} {e:Ec} {ps:List Str}
theorem Uh (D:Mx P w K mg base k T.hold "place_of" ps (xD T e)):Mn P w K mg base k T.hold "place_of" ps (vZ T):=
 D.mn fun vs H Q E h=>by
   obtain ⟨⟨n,ρ,A,st,o,rfl,hx,ho,q⟩⟩:=h
   exact ⟨n,ρ,A,st,o,Z,hx,fun z=>absurd ho z,fun _=>q⟩
theorem RL (D:Mx P w K mg base k T.hold "part_of" ps (k7 T e)):Mn P w K mg base k T.hold "part_of" ps (AQ T):=
 D.mn fun vs H Q E h=>by
   obtain ⟨⟨n,ρ,A,st,i,p,qq,rfl,hx,nd,ep,eq,q⟩⟩:=h
   refine ⟨n,ρ,A,st,p.nm,Z,hx,nd,fun z=>absurd rfl (z p (bX ep)),fun j p' q' e1 e2 e3=>?_⟩
   have:j=i:=Cs nd e2 ep e1
   subst this
   rw [eq] at e3;cases e3
   exact q
end
def nB (i:Int):Prop:=-1000000000<=i/\i<=1000000000
def yU:Dd->Prop
 | .sign o=>wl o<=20
 | .load x o wo we=>wl x<=20/\wl o<=20/\nB wo/\nB we
 | .cast rs=>rs.length<=60/\∀r∈rs,wl r.1<=20/\nB r.2
 | .award o a=>wl o<=20/\nB a
 | .mishap x a=>wl x<=20/\nB a
 | .rise x a=>wl x<=20/\nB a
 | .hand x o=>wl x<=20/\wl o<=20
 | .land x=>wl x<=20
 | .sever x y a we=>wl x<=20/\wl y<=20/\nB a/\nB we
 | .still=>True
def Dd.k:Dd->Nat
 | .sign _=>0 | .load .. =>1 | .cast _=>2 | .award .. =>3 | .mishap .. =>4 | .rise .. =>5 | .hand .. =>6 | .land _=>7 | .sever .. =>8 | .still=>9
def Pj (n:Nat):Str:=(["sign","load","cast","award","mishap","rise","hand","land","sever","still"] :List Str).getD n "still"
def Dd.w (d:Dd):Str:=Pj d.k
theorem Dd.v0 (d:Dd):d.v[0]?=some (.str d.w):=by cases d <;> rfl
theorem Dd.k_lt (d:Dd):d.k<10:=by cases d <;> simp [Dd.k]
theorem ab8:∀m n:Fin 10,m≠n->Pj m.val≠Pj n.val:=by decide +kernel
variable {d:Dd}
theorem Dd.Pk {n:Nat} (h:d.k≠n) (hn:n<10):d.w≠Pj n:=ab8 ⟨d.k,d.k_lt⟩ ⟨n,hn⟩ fun e=>h (jx Fin.val e)
theorem RM:∀{l:List Int},(∀x∈l,0<=x)->0<=l.sum
 | [],_=>kI _
 | a::l,h=>by
   rw [c5]
   have:=h a cL
   have:=RM (l:=l) fun x hx=>h x (cC _ hx)
   omega
theorem yV:∀(l m:List Row),fJ (l++m)=fJ l++fJ m
 | [],_=>rfl
 | r::l,m=>by
   show V.str r.1::V.int r.2::fJ (l++m)=V.str r.1::V.int r.2::(fJ l++fJ m)
   rw [yV l m]
theorem uZ:∀l:List Row,(fJ l).length=2*l.length
 | []=>rfl
 | r::l=>by
   show (fJ l).length+1+1=_
   rw [uZ l,jP];omega
theorem p7 (h:isNm x=true):wl x<=20:=by
 unfold isNm isName at h
 have:=aZ (lX.mp (lX.mp h).1).2
 unfold wl
 omega
theorem rD {st:HS} {o:Str} (h:xC st x o wo we=none):isNm x=true/\x∉st.nms/\o∈st.own/\1<=wo/\0<=we:=by
 unfold xC at h
 cases hn:newR st x with
 | some j=>rw [hn] at h;cases h
 | none=>
   rw [hn] at h
   have h':(if o∈st.own then (if wo<1\/we<0 then some 5 else none) else some 2)=none:=h
   have hx:isNm x=true/\x∉st.nms:=by
    unfold newR at hn
    by_cases c:isNm x=true
    . rw [aB c] at hn
      by_cases m:x∈st.nms
      . rw [aB m] at hn;cases hn
      . exact ⟨c,m⟩
    . rw [aA c] at hn;cases hn
   by_cases ho:o∈st.own
   . rw [aB ho] at h'
     by_cases hb:wo<1\/we<0
     . rw [aB hb] at h';cases h'
     . exact ⟨hx.1,hx.2,ho,by omega,by omega⟩
   . rw [aA ho] at h';cases h'
end L2
set_option autoImplicit true
namespace L2
open PySem PySem.Spec PyProof.Rows
structure bE (X:Cx) (e:Expr) (t:TE):Prop where h:PE X e t
structure bT (X:Cx) (e:Expr) (t:TT):Prop where h:PT X e t
structure bW (X:Cx) (e:Expr) (t:TT):Prop where h:PW X e t
structure bA (X:Cx) (es:List Expr) (t:TA):Prop where h:PA X es t
structure bS (X:Cx) (s:Stmt) (t:TS):Prop where h:PS X s t
structure cT (X:Cx) (s:List Stmt) (t:TS):Prop where h:pO X s t
structure bC (X:Cx) (op:CmpOp) (a b:Expr) (t:TE):Prop where h:PC X op a b t
structure bG (X:Cx) (e:Expr) (t:TG):Prop where h:PG X e t
structure Vv (X:Cx) (e:List Expr) (t:BL):Prop where h:PGs X e t
structure bI (X:Cx) (tg iter:Expr) (wi:TI):Prop where h:PI X tg iter wi
structure bO (X:Cx) (e:Option Expr) (t:TO):Prop where h:PO X e t
structure Vw (X:Cx) (pos:Pos) (ks:List (Option Expr)) (vs:List Expr) (t:List (TE×TE)):Prop where h:PPs X pos ks vs t
theorem bW.pt {X:Cx} {e:Expr} {t:TT} (h:bW X e t):bT X e t:=⟨h.h.pt⟩
theorem ZK {op} {t:TE} (h:bE X a t):bE X (.BoolOp op [a] pos) t:=by
 have h:=h.h;exact ⟨fun pins s σ H Q I hw=>BoolOp_one (h pins s σ H Q I hw)⟩
theorem v8 {e:Expr} {t:TE} (h:bE X e t) (he:∀whole,isTrue e X.env whole=(do let v <-whole;standAt e.pos;holding [v] (truthy v)):=by intro _;rfl):bT X e (tB t):=by
 have h:=h.h;constructor
 intro pins s σ H Q I hw
 refine isTrue_plain (bf (h pins s σ H _ I hw) fun v s1 ⟨x,H1,I1,r1,q1⟩=>?_) (he _)
 obtain ⟨d,rfl,q⟩:=q1
 cases r1
 exact DL ⟨H1,I1,q⟩
theorem aJ {r:R2} (hr:yb X r) (ha:bE X a ta) (hb:bE X b tb) (hs:Wj b:=by exact fun _ _=>rfl):bE X (.Subscript a b pos) (MP r ta tb):=by
 have ha:=ha.h;have hb:=hb.h;constructor
 intro pins s σ H Q I h
 exact Subscript_ (S4 ha hb I h fun v u s2 x y H2 I2 rx ry q=>hr a b pins s2 σ H2 x y v u Q I2 rx ry q (hs _ _))
theorem W3 (h:bE X e te):bO X (some e) (abx te):=by
 have h:=h.h;constructor
 intro pins s σ H Q I hw
 rw [evalPart_some]
 refine bf (h pins s σ H _ I hw) fun u s1 ⟨x,H1,I1,r1,q1⟩=>?_
 obtain ⟨i,rfl,q⟩:=q1
 obtain ⟨t,rfl⟩:=r1
 exact ⟨some i,H1,I1, .int i t,q⟩
theorem iE:Vv X [] XY:=by
 constructor
 intro pins s σ H vs us Q I r h
 obtain ⟨e,h⟩:=h
 subst e
 cases r
 exact assignInOrder_nil ⟨σ,H,I,h⟩
theorem W4:bO X none Wh:=by
 constructor
 intro pins s σ H Q I h
 rw [evalPart_none]
 exact aL ⟨none,H,I, .none,h⟩
theorem ab9 {x:Str} {n:String} {pos:Pos} (hv:bootBuiltins x=some (.type n)) (hg:Gl X x) (hm:X.mg x=none) (hn:x ≠ "__name__":=by decide) (hd:(x==("__debug__":Str))=false:=by decide):bE X (.Name x pos) (tC (.ty n)):=by
 exact ⟨V6 hg hm hv rfl hn hd⟩
theorem aV {i:Nat} {x:Str} (hN:X.N.Nodup) (hi:X.N[i]?=some x:=by rfl) (hx:Loc X.env.scope x:=by first|exact Or.inl rfl|exact Or.inr rfl) (hf:X.fn x=true\/X.env.scope.names.lookup x=some .local:=by first|exact .inl rfl|exact .inr rfl|assumption):bG X (.Name x pos) (sQ i):=by
 constructor
 intro pins s σ H v u Q I r h
 exact wpAny_assign_Name (wU I hN hi hx r (fun s' I'=>⟨_,H,I',h⟩) hf)
theorem Jr {c:Expr} {body:List Stmt} {tc:TT} {tb:TS} (hp:PassesOwn (model X.prog X.w) X.A X.env X.xe) (hc:bT X c tc) (hb:cT X body tb):bS X (.While c body [] pos) (X7 tc tb):=by
 have hc:=hc.h;have hb:=hb.h;constructor
 intro pins s σ H D I h
 obtain ⟨W,⟨m0,w0⟩,turn⟩:=h
 refine wpAny_While (codeAny_whileLoop (fun n s'=>∃σ' H',Inv X pins σ' H' s'/\W n σ' H') ?_ m0 ⟨σ,H,I,w0⟩)
 rintro n s1 ⟨σ1,H1,I1,w1⟩
 refine wN hp (bf (hc pins s1 σ1 H1 _ I1 (turn n σ1 H1 w1)) fun b s2 ⟨H2,I2,q2⟩=>?_)
 cases b with
 | true=>
   obtain ⟨N,hN,q2⟩:=q2
   rw [aB rfl]
   refine wN hp (bf (hb pins s2 σ1 H2 _ I2 q2) fun f s3 q3=>?_)
   cases f with
   | next=>
     obtain ⟨σ3,H3,I3,n3⟩:=q3
     obtain ⟨m',hm,w3⟩:=hN σ3 H3 n3
     exact ⟨m',hm,σ3,H3,I3,w3⟩
   | cont=>
     obtain ⟨σ3,H3,I3,n3⟩:=q3
     obtain ⟨m',hm,w3⟩:=hN σ3 H3 n3
     exact ⟨m',hm,σ3,H3,I3,w3⟩
   | brk=>exact q3
   | ret v=>exact q3
 | false=>
   rw [aA fM]
   exact Hz ⟨σ1,H2,I2,q2⟩
theorem v9 {tg:Expr} {ob:Expr} {td:TE} {apos cpos:Pos} (hob:bE X ob td) (hbase:attributeBase ob "values" X.env (eval ob X.env)=eval ob X.env:=by rfl) (hline:(apos.endLine==cpos.line)=true:=by rfl):bI X tg (.Call (.Attribute ob "values" apos) [] [] cpos) (abR td):=by
 have hob:=hob.h;constructor
 intro pins s σ H R I h
 refine wpAny_Call_method0_late hbase hline (bf (hob pins s σ H _ I h) fun v s1 ⟨x,H1,I1,r1,q1⟩=>?_)
 obtain ⟨d,o,kvs,rfl,e,fin⟩:=q1
 cases r1
 obtain ⟨ho,hz,hsys,vs,ep,rel,da⟩:=I1.qE e
 obtain ⟨t1,t2,_⟩:=Ir I1 (.inl ⟨kvs, .inr ⟨o,e⟩⟩)
 have dd:=da.dictOf
 refine ⟨"dict",_,F.plainAttrs_dict,Ot,F.type_dict_values,t1,t2,Of rfl (PySem.evalArgs_none ?_)⟩
 refine call_meetsIn Ot dd.typeIs F.entry_dict_values (F.args_dict_values_1 _) (meets_dict_values (cM X.prog X.w) d hsys) ⟨⟨vs,dd⟩,?_⟩
 refine wpAny_pyIter_values (s:={ s1 with heap:=s1.heap.push { cls:= .type "dict_values",data:= .fields #[.ref d] } }) ⟨_,d_ _ rfl,Z,Z⟩ (da.push _) ?_
 have Iv:Inv X pins σ H1 { s1 with heap:=s1.heap.push { cls:= .type "dict_values",data:= .fields #[.ref d] } }:=I1.kept (t':=s1.toks) fun b o e=>b7 _ e
 generalize ({ s1 with heap:=s1.heap.push { cls:= .type "dict_values",data:= .fields #[.ref d] } }:Shared)=sv at *
 have I2:Inv X pins σ H1 { sv with heap:=sv.heap.push { cls:= .type "dict_valueiterator",data:= .fields #[.ref d, .int 0 0, .int vs.length 0, .int ep 0] } }:=Iv.kept (t':=sv.toks) fun b o e=>b7 _ e
 have hl:kvs.length=vs.length:=rel.length
 obtain ⟨o',es,h1,_,h2,_⟩:=id da
 rw [ho] at h1;cases h1
 refine ⟨sv.heap.objs.size,[sv.heap.objs.size],_,_,H1,Z,I2,Rj h2,?_,fun b hb=>?_,fin⟩
 . rw [hl];exact ⟨_,d_ _ rfl,Z,Z⟩
 . have eb:b=sv.heap.objs.size:=by simpa using hb
   subst eb
   exact Iv.yt (aK _) (Iv.hok.fresh (aK _))
theorem Nz {o i e:Expr} {to ti te:TE} {yr:V->V->Hp->VK->Prop} {x9:Ia} {oB:rN} {op:Operator} {tpos:Pos} (ho:bE X o to) (hi:bE X i ti) (hg:X4 X yr) (he:bE X e te) (hp:XX X op x9) (hs:SR X oB) (ha:∀ov iv new,augStore i ov iv new=(do holding [new,ov,iv] (setItem ov iv new);release [new,ov,iv] [];pure .next):=by intros;rfl):bS X (.AugAssign (.Subscript o i tpos) op e pos) (abp to ti te yr x9 oB):=by
 have ho:=ho.h;have hi:=hi.h;have he:=he.h;constructor
 intro pins s σ H D I h
 refine wpAny_AugAssign_SubscriptAny (bf (ho pins s σ H _ I h) fun ov s1 ⟨x1,H1,I1,r1,q1⟩=>?_) ha
 refine bf (hi pins s1 σ H1 _ I1 q1) fun iv s2 ⟨x2,H2,I2,r2,q2⟩=>?_
 refine bf (hg pins s2 σ H2 x1 x2 ov iv _ I2 r1 r2 q2) fun old s3 ⟨x3,H3,I3,r3,q3⟩=>?_
 refine bf (he pins s3 σ H3 _ I3 q3) fun v s4 ⟨x4,H4,I4,r4,q4⟩=>?_
 refine bf (hp pins s4 σ H4 x3 x4 old v _ I4 r3 r4 q4) fun new s5 ⟨x5,H5,I5,r5,q5⟩=>?_
 exact bf (hs pins s5 σ H5 x1 x2 x5 ov iv new _ I5 r1 r2 r5 q5) fun _ s6 ⟨H6,I6,q6⟩=>⟨σ,H6,I6,q6⟩
theorem jZ {id:String} (pa:PlainAttrs T) (slot:Slot T name id) (hty:typeOf (.builtin id)=pure (.type "method_descriptor")) (hm:MtR X id r) (ho:bE X o to) (ha:bA X (e::es) t) (hbase:attributeBase o name X.env (eval o X.env)=eval o X.env:=by rfl) (hfew:((backTo cpos (starEach (e::es) X.env)).all (fun x=>!x.1) && (backToKw cpos (keywordEach [] X.env)).all (fun x=>x.1.isSome)
   && decide ((e::es).length+([] :List Keyword).length+(if ([] :List Keyword).isEmpty then 0 else 1)<30))=true:=by rfl) (hline:(apos.endLine==cpos.line)=true:=by rfl) (hs:starEach (e::es) X.env=(false,eval e X.env)::starEach es X.env:=by rfl) (hplain:(backTo cpos (starEach es X.env)).any (·.1)=false:=by rfl):bE X (.Call (.Attribute o name apos) (e::es) [] cpos) (tBM X.K T r to t):=by
 have ho:=ho.h;have ha:=ha.h;constructor
 intro pins s σ H Q I h
 refine wpAny_Call_method_late hbase hfew hline rfl (bf (ho pins s σ H _ I h) fun v s1 ⟨x,H1,I1,r1,ty,q1⟩=>?_)
 obtain ⟨h1,h2⟩:=YJ I1 r1 ty
 refine ⟨T,id,pa,slot,hty,h1,h2,?_⟩
 have hA:=ha cpos pins s1 σ H1 _ I1 q1
 rw [hs] at hA ⊢
 refine Of (by show (false || (backTo cpos (starEach es X.env)).any (·.1))=false;rw [hplain] <;> rfl) (Calls.evalArgs_plain ?_)
 exact bf hA fun us s2 ⟨vs,H2,I2,r2,q2⟩=>hm pins s2 σ H2 x vs v us Q I2 r1 r2 q2
theorem W5 {X:Cx} {pos:Pos}:Vw X pos [] [] [] :=by
 exact ⟨fun pins s σ H Q I h=>pairTrees_nil_walk ⟨[],H,I, .nil,h⟩⟩
theorem CH {X:Cx} {e:Expr} {t:TE} (h:bE X e t):bE X e (afg t):=by
 have h:=h.h;constructor
 intro pins s σ H Q I hw
 obtain ⟨d,kvs,e,hw⟩:=hw
 obtain ⟨ho,es,ep,h1,_⟩:=(BW I.hok e).2.2.choose_spec.2
 have h0:=I.Rh e
 exact bf (h pins s σ _ _ (I.freeze e h1) (hw ho)) fun u s' ⟨v,H',I',r,q1,q2⟩=>⟨v,_,I'.AN q1 h0,r,q2⟩
theorem Ui {op op':CmpOp} {r r':R2} (ho:iL X (compareOp op) r) (ho':iL X (compareOp op') r') (ha:bE X a ta) (hb:bE X b tb) (hc:bE X c tc) (hm:lastMarks [op,op'] [b,c]=false:=by with_unfolding_all rfl):bE X (.Compare a [op,op'] [b,c] pos) (Yj r r' ta tb tc):=by
 have ha:=ha.h;have hb:=hb.h;have hc:=hc.h;constructor
 intro pins s σ H Q I h
 refine Compare_chain (bf (ha pins s σ H _ I h) fun v s1 ⟨x,H1,I1,r1,q1⟩=>chain_link (bf (hb pins s1 σ H1 _ I1 q1) fun u s2 ⟨y,H2,I2,r2,q2⟩=>
  bf (ho pins s2 σ H2 x y v u _ I2 r1 r2 q2) fun d s3 ⟨z,H3,I3,r3,k,e,q3⟩=>?_)) hm
 subst e
 cases r3
 refine DL ?_
 cases k with
 | false=>exact ite_ff ⟨.bl false,H3,I3,Z,q3⟩
 | true=>exact ite_tt (chain_last (bf (hc pins s3 σ H3 _ I3 q3) fun w' s4 ⟨z',H4,I4,r4,q4⟩=>ho' pins s4 σ H4 y z' u w' Q I4 r2 r4 q4))
theorem gv {x1} (h:bA X es t):bE X (.Tuple es x1 pos) (ae0 t):=by
 have h:=h.h;constructor
 intro pins s σ H Q I hq
 refine wpAny_Tuple_spliced (bf (h pos pins s σ H _ I hq) fun us s1 ⟨xs,H1,I1,r,z,q⟩=>⟨by rw [<-r.length];exact z,?_⟩)
 have hf:H1 s1.heap.objs.size=none:=I1.hok.fresh (aK _)
 refine ⟨.ref s1.heap.objs.size,upd H1 s1.heap.objs.size (.tup xs),I1.laid (t':=s1.toks) (fun b u e=>b7 _ e) (aK _) ?_,Z,q _ hf⟩
 exact ⟨z,us,r,⟨_,d_ _ rfl,Z,_,Z⟩⟩
theorem Js {tg iter elt cond:Expr} {scope:Scope} {pos:Pos} (N2:List Str) (ix:List (Option Nat)) {wi:TI} {g:TG} {tc:TT} {te:TE} (hc:X.calm=true) (hi:bI X tg iter wi) (hg:∀cl s₂ H₂ fp,bG (dJ X N2 scope cl s₂ H₂ fp) tg g) (he:∀cl s₂ H₂ fp,bE (dJ X N2 scope cl s₂ H₂ fp) elt te) (ht:∀cl s₂ H₂ fp,bT (dJ X N2 scope cl s₂ H₂ fp) cond tc) (hk:scope.kind = .function) (hn:qX X.N X.env.scope.names scope.names N2 ix=true) (hs:∀x,foldedSetIterable iter X.env x=pure x:=by intro _;rfl):bE X (.ListComp elt [⟨tg,iter,[cond],0⟩] scope pos) (Q_ wi ix g tc te):=⟨TY N2 ix hc hi.h (fun cl s₂ H₂ fp=>(hg cl s₂ H₂ fp).h) (fun cl s₂ H₂ fp=>(he cl s₂ H₂ fp).h) (fun cl s₂ H₂ fp=>(ht cl s₂ H₂ fp).h) hk hn hs⟩
theorem aG {op:Operator} {r:R2} (ho:iL X (binaryOp op) r) (ha:bE X a ta) (hb:bE X b tb):bE X (.BinOp a op b pos) (MP r ta tb):=by
 have ha:=ha.h;have hb:=hb.h;constructor
 intro pins s σ H Q I h
 exact wpAny_BinOp (S4 ha hb I h fun v u s2 x y H2 I2 rx ry q=>ho pins s2 σ H2 x y v u Q I2 rx ry q)
theorem v_ {op:CmpOp} {t:TE} (h:bC X op a b t) (h1:behindInMarks op b=false:=by first|exact afo _ (by decide) (by decide)|rfl):bT X (.Compare a [op] [b] pos) (tB t):=by
 have h:=h.h;constructor
 intro pins s σ H Q I hw
 refine wpAny_isTrue_Compare1 (bf (h pins s σ H _ I hw) fun v s1 h1=>bf h1 fun u s2 h2=>bf h2 fun c s3 ⟨x,H1,I1,r1,q1⟩=>?_) h1
 obtain ⟨d,rfl,q⟩:=q1
 cases r1
 exact DL ⟨H1,I1,q⟩
theorem fE {tg:Expr} {iter:Expr} {body:List Stmt} {wi:TI} {g:TG} {tb:TS} {pos:Pos} (hp:PassesOwn (model X.prog X.w) X.A X.env X.xe) (hc:X.calm=true) (hi:bI X tg iter wi) (hg:bG X tg g) (hb:cT X body tb) (hs:∀x,foldedSetIterable iter X.env x=pure x:=by intro _;rfl):bS X (.For tg iter body [] pos) (aeV wi g tb):=by
 have hi:=hi.h;have hg:=hg.h;have hb:=hb.h;constructor
 intro pins s σ H D I h
 refine wpAny_For (bf (hi pins s σ H _ I h) fun v s1 h1=>bf h1 fun itv s2 h2=>?_) hs
 obtain ⟨it,fp,tn,J,H2,e,I2,T,st2,f2,W,⟨m0,w0⟩,turn⟩:=h2
 subst e
 have tR:∀{H':Hp},(∀b∈fp,H' b=none)->∀b∈fp,oE X pins H' b:=fun hn b hb=>⟨hn b hb,(f2 b hb).2⟩
 refine codeAny_forLoop_any (fun n s'=>∃i σ' H',Inv X pins σ' H' s'/\tn i s'.heap/\(∀b∈fp,H' b=none)/\W i n σ' H') ?_ m0 ⟨0,σ,H2,I2,st2,fun b hb=>(f2 b hb).1,w0⟩
 rintro n s3 ⟨i,σ3,H3,I3,st3,Vx,w3⟩
 rcases turn i n σ3 H3 w3 with ⟨stop,qn⟩|⟨go,N,hN,step⟩
 . refine wN hp (bf (T.done X rfl rfl rfl hc i pins s3 σ3 H3 X.xe I3 (tR Vx) st3 stop) fun r s4 ⟨hr,I4⟩=>?_)
   subst hr
   exact Hz ⟨σ3,H3,I4,qn⟩
 . refine wN hp (bf (T.item X rfl rfl rfl hc i pins s3 σ3 H3 X.xe I3 (tR Vx) st3 go) fun r s4 ⟨u,hr,h4⟩=>?_)
   subst hr
   refine wN hp (bf h4 fun _ s5 ⟨x,H5,I5,r5,y5,Cc,IB⟩=>?_)
   have I5':=I5.pinned (tR IB) (T.obj _ _ Cc)
   refine wN hp (bf (hg _ s5 σ3 H5 x u _ I5' r5 (step x H5 y5)) fun _ s6 ⟨σ6,H6,I6,q6⟩=>?_)
   refine wN hp (bf (hb _ s6 σ6 H6 _ I6 q6) fun f s7 q7=>?_)
   have again:∀{σ7:St} {H7:Hp},Inv X (pins++BO fp s5.heap) σ7 H7 s7->N σ7 H7->∃m,m<n/\∃i σ' H',Inv X pins σ' H' s7/\tn i s7.heap/\(∀b∈fp,H' b=none)/\W i m σ' H':=fun {σ7 H7} I7 n7=>by
    obtain ⟨m',hm,w7⟩:=hN σ7 H7 n7
    refine ⟨m',hm,i+1,σ7,H7,I7.pV,T.keep _ _ _ Cc fun b hb o e=>(I7.pin (b,o) (jn _ (jn _ (je hb e)))).1,fun b hb=>?_,w7⟩
    obtain ⟨o,e,d⟩:=T.obj _ _ Cc b hb
    exact (I7.pin (b,o) (jn _ (jn _ (je hb e)))).2.1
   cases f with
   | next=>obtain ⟨σ7,H7,I7,n7⟩:=q7;exact again I7 n7
   | cont=>obtain ⟨σ7,H7,I7,n7⟩:=q7;exact again I7 n7
   | brk=>obtain ⟨σ7,H7,I7,q7⟩:=q7;exact ⟨σ7,H7,I7.pV,q7⟩
   | ret v=>obtain ⟨x7,σ7,H7,I7,r7,q7⟩:=q7;exact ⟨x7,σ7,H7,I7.pV,r7,q7⟩
theorem Uj {lo:Option Expr} {hi:Option Expr} {r:V->Option Int->Option Int->Hp->VK->Prop} (hr:Yz X r) (he:bE X e te) (hl:bO X lo tl) (hu:bO X hi th):bE X (.Subscript e (.Slice lo hi none p2) pos) (tSl r te tl th):=by
 have he:=he.h;have hl:=hl.h;have hu:=hu.h;constructor
 intro pins s σ H Q I h
 refine Subscript_ (bf (he pins s σ H _ I h) fun v s1 ⟨x,H1,I1,r1,q1⟩=>?_)
 refine wpAny_Slice (bf (hl pins s1 σ H1 _ I1 q1) fun vl s2 ⟨l,H2,I2,pl,q2⟩=>bf (hu pins s2 σ H2 _ I2 q2) fun vu s3 ⟨u,H3,I3,pu,q3⟩=>?_)
 rw [evalPart_none]
 refine aL ?_
 have I4:Inv X pins σ H3 { s3 with heap:=s3.heap.push { cls:= .type "slice",data:= .fields #[vl,vu, .none] } }:=I3.kept (t':=s3.toks) fun b ob q=>b7 _ q
 obtain ⟨T,id,hT,ht,hg⟩:=hr pins { s3 with heap:=s3.heap.push { cls:= .type "slice",data:= .fields #[vl,vu, .none] } } σ H3 x v vl vu l u s3.heap.objs.size Q I4 r1 (Heap.IsSliceOf.new ..) pl pu q3
 show wpAny (model X.prog X.w) X.A (subscriptTail e (.Slice lo hi none p2) v (.ref s3.heap.objs.size)) (EP X pins σ Q) X.xe { s3 with heap:=s3.heap.push { cls:= .type "slice",data:= .fields #[vl,vu, .none] } }
 exact tail_any (ops:=[.ref s3.heap.objs.size,v]) ht hT hg (by with_unfolding_all rfl)
theorem W6:bS X (.Return none pos) abk:=by
 exact ⟨fun _ _ σ H _ I h=>wpAny_Return_none ⟨.bU,σ,H,I,Z,h⟩⟩
theorem gP {tg iter elt:Expr} {scope:Scope} {pos:Pos} (N2:List Str) (ix:List (Option Nat)) {wi:TI} {g:TG} {te:TE} (hc:X.calm=true) (hi:bI X tg iter wi) (hg:∀cl s₂ H₂ fp,bG (dJ X N2 scope cl s₂ H₂ fp) tg g) (he:∀cl s₂ H₂ fp,bE (dJ X N2 scope cl s₂ H₂ fp) elt te) (hk:scope.kind = .function) (hn:qX X.N X.env.scope.names scope.names N2 ix=true) (hs:∀x,foldedSetIterable iter X.env x=pure x:=by intro _;rfl):bE X (.ListComp elt [⟨tg,iter,[],0⟩] scope pos) (Vi wi ix g te):=by
 have hi:=hi.h;have hg:=fun cl s₂ H₂ fp=>(hg cl s₂ H₂ fp).h;have he:=fun cl s₂ H₂ fp=>(he cl s₂ H₂ fp).h;constructor
 intro pins s σ H Q I h
 obtain ⟨k1,k2,k3,k4,k5⟩:=oH hn
 obtain ⟨cl,Ra,c1,c2⟩:=wY (scope:=scope) (env:=X.env) fun y hy e=>I.ok.has y.1 (k3 y hy e)
 rw [eval_ListComp]
 refine wpAny_comprehension_free (use:=none) rfl hs Ra hk k4 (bf (hi pins s σ H _ I h) fun v s1 h1=>bf h1 fun itv s2 h2=>?_)
 obtain ⟨it,fp,tn,J,H2,e,I2,T,st2,f2,h2⟩:=h2
 subst e
 refine Ca (RR:=fun acc C=>compPost (model X.prog X.w) X.A X.xe none (EP X pins σ Q) acc C) (Q:=Q) hc hg he hk hn (fun y c m=>(c1 y c m).1) c2 I2 T st2 f2 h2 ?_
 intro acc C H' s' m I' ns Cb hL hsz vW Co q
 exact ⟨m,ns,fun h' hs'=>⟨.ref acc,H',I'.turned (it:=C) (t':=s'.toks) (fun b o hb e=>(hs'.2 b hb).trans e) Cb hL (.inr hsz) vW Co,Z,q⟩⟩
theorem Jt (hu:X.A.units+1<cLine) (hi:bE X i ty) (ho:bE X o td):bC X .In i o (ae_ ty td):=by
 have hi:=hi.h;have ho:=ho.h;constructor
 intro pins s σ H Q I h
 refine bf (hi pins s σ H _ I h) fun iv s1 ⟨y,H1,I1,ry,q1⟩=>bf (ho pins s1 σ H1 _ I1 q1) fun u s2 ⟨x,H2,I2,rx,a,ov,ex,g,q2⟩=>?_
 subst ex
 obtain rfl:u=Value.ref a:=rx
 exact ae9 hu I2 g ry fun s3 I3=>⟨.bl ov.isSome,H2,I3,Z,q2⟩
theorem bB {x j pos}:bE X (.Constant (.str x) j pos) (tC (.str x)):=⟨Qp⟩
theorem Vy {op:UnaryOp} {r:V->Hp->VK->Prop} (ho:Ye X (unaryOp op) r) (ha:bE X a ta):bE X (.UnaryOp op a pos) (tUn r ta):=by
 have ha:=ha.h;constructor
 intro pins s σ H Q I h
 exact UnaryOp_ (bf (ha pins s σ H _ I h) fun v s1 ⟨x,H1,I1,r1,q1⟩=>ho pins s1 σ H1 x v Q I1 r1 q1)
theorem p8 (K:Fg) {a b:Expr} {ta:TA} {p pos:Pos} (hg:Gl X "zip") (hm:X.mg "zip"=none) (ha:bA X [a,b] ta) (hK:X.K=K:=by rfl) (hs:starEach [a,b] X.env=[(false,eval a X.env),(false,eval b X.env)] :=by rfl) (hs2:starEach [b] X.env=[(false,eval b X.env)] :=by rfl):bI X (.Tuple elts kk tpos) (.Call (.Name "zip" p) [a,b] [] pos) (abT K ta):=by
 have ha:=ha.h;constructor
 subst hK
 intro pins s σ H R I h
 refine Call_ (tL I hg hm boot_zip (Qj (bf (ha pos pins s σ H _ I h) fun us s1 ⟨vs,H1,I1,r1,q1⟩=>?_) (by rw [hs,hs2]) (by rw [hs2];rfl)))
 obtain ⟨u1,u2,S1,S2,xs,ys,e,k1,k2,q⟩:=q1
 subst e
 obtain ⟨u,w',rfl,ru,rw'⟩:=vals2 r1
 obtain ⟨g1,l1,o1,p1,lt1,b1,ahR,at1,st1,c1⟩:=k1.ok I1 ru
 obtain ⟨g2,l2,o2,p2,lt2,b2,ab_,at2,st2,c2⟩:=k2.ok I1 rw'
 refine callType_newIn F.called_zip (by decide) (F.typeCall_zip_2 _ _) (F.newCall_zip_2 _ _) (fun obj=>F.args_object_init_3 obj _ _) F.entry_zip_new (O7 st1 st2) ⟨b1,ab_ _ _ b2,?_⟩
 have z1:(s1.heap.push o1).objs.size=s1.heap.objs.size+1:=lH ..
 have z2:((s1.heap.push o1).push o2).objs.size=s1.heap.objs.size+2:=by rw [lH,z1]
 generalize e3:({ cls:= .type "tuple",data:= .seq #[.ref s1.heap.objs.size, .ref (s1.heap.push o1).objs.size] }:Obj)=o3
 have z3:(((s1.heap.push o1).push o2).push o3).objs.size=s1.heap.objs.size+3:=by rw [lH,z2]
 generalize e4:({ cls:= .type "tuple",data:= .seq #[.none, .none] }:Obj)=o4
 have z4:((((s1.heap.push o1).push o2).push o3).push o4).objs.size=s1.heap.objs.size+4:=by rw [lH,z3]
 generalize e5:({ cls:= .type "zip",data:= .fields #[.none, .bool false, .bool false, .ref ((s1.heap.push o1).push o2).objs.size, .ref (((s1.heap.push o1).push o2).push o3).objs.size] }:Obj)=o5
 have g5:(((((s1.heap.push o1).push o2).push o3).push o4).push o5).get? ((((s1.heap.push o1).push o2).push o3).push o4).objs.size=some o5:=d_ _ (by rw [<-e5];rfl)
 have g4:(((((s1.heap.push o1).push o2).push o3).push o4).push o5).get? (((s1.heap.push o1).push o2).push o3).objs.size=some o4:=b7 _ (d_ _ (by rw [<-e4];rfl))
 have g3:(((((s1.heap.push o1).push o2).push o3).push o4).push o5).get? ((s1.heap.push o1).push o2).objs.size=some o3:=b7 _ (b7 _ (d_ _ (by rw [<-e3];rfl)))
 have g2':(((((s1.heap.push o1).push o2).push o3).push o4).push o5).get? (s1.heap.push o1).objs.size=some o2:=b7 _ (b7 _ (b7 _ (at2 _)))
 have g1':(((((s1.heap.push o1).push o2).push o3).push o4).push o5).get? s1.heap.objs.size=some o1:=b7 _ (b7 _ (b7 _ (b7 _ (at1 _))))
 have kp:∀c o,s1.heap.get? c=some o->(((((s1.heap.push o1).push o2).push o3).push o4).push o5).get? c=some o:=fun c o x=>b7 _ (b7 _ (b7 _ (b7 _ (b7 _ x))))
 rw [z4] at g5 ⊢
 rw [z3] at g4 e5
 rw [z2] at g3 e5
 rw [z1] at g2' e3
 generalize (((((s1.heap.push o1).push o2).push o3).push o4).push o5)=hN at *
 show _/\_
 subst e3 e4 e5
 refine ⟨⟨_,g5,Z⟩,wpAny_pyIter_zip (s:={ s1 with heap:=hN }) g5 ?_⟩
 have I2:Inv X pins σ H1 { s1 with heap:=hN }:=I1.kept (t':=s1.toks) kp
 obtain ⟨t1,ahW,C1,n1⟩:=c1 s1.heap.objs.size
 obtain ⟨t2,ahX,C2,n2⟩:=c2 (s1.heap.objs.size+1)
 refine ⟨s1.heap.objs.size+4,[s1.heap.objs.size+4,s1.heap.objs.size+2,s1.heap.objs.size+3,s1.heap.objs.size,s1.heap.objs.size+1],_,_,H1,Z,I2,Rn (Lw lt1 lt2) C1 C2,⟨g5,g3,⟨_,_,g4⟩,n1 _ g1',n2 _ g2'⟩,fun b hb=>?_,q⟩
 have hb':b=s1.heap.objs.size+4\/b=s1.heap.objs.size+2\/b=s1.heap.objs.size+3\/b=s1.heap.objs.size\/b=s1.heap.objs.size+1:=by simpa using hb
 have le:s1.heap.objs.size<=b:=by
  rcases hb' with r|r|r|r|r
  . rw [r];exact vm _ _
  . rw [r];exact vm _ _
  . rw [r];exact vm _ _
  . rw [r];exact aK _
  . rw [r];exact vm _ _
 exact I1.yt le (I1.hok.fresh le)
theorem aR {op:CmpOp} {r:R2} (ho:iL X (compareOp op) r) (ha:bE X a ta) (hb:bE X b tb) (hm:behindInMarks op b=false):bT X (.Compare a [op] [b] pos) (OJ (MP r ta tb)):=by
 have ha:=ha.h;have hb:=hb.h;constructor
 intro pins s σ H Q I h
 refine wpAny_isTrue_Compare1 (bf (ha pins s σ H _ I h) fun v s1 ⟨x,H1,I1,r1,q1⟩=>bf (hb pins s1 σ H1 _ I1 q1) fun u s2 ⟨y,H2,I2,r2,q2⟩=>
  bf (ho pins s2 σ H2 x y v u _ I2 r1 r2 q2) fun c s3 ⟨z,H3,I3,r3,k,e,q3⟩=>?_) hm
 subst e
 cases r3
 exact DL ⟨H3,I3,q3⟩
theorem W7 (K:Fg) {tg l:Expr} {tl:TE} (hl:bE X l tl) (hK:X.K=K:=by rfl):bI X tg l (Yb K tl):=by
 have hl:=hl.h;exact ⟨hK▸Yc hl⟩
theorem aT {i:Nat} {x:Str} {e:Expr} {te:TE} {pos':Pos} (hN:X.N.Nodup) (he:bE X e te) (hi:X.N[i]?=some x:=by rfl) (hx:Loc X.env.scope x:=by first|exact Or.inl rfl|exact Or.inr rfl) (hs:swapsWith e (some (.Name x pos')) pos.line X.env=pure false:=by rfl) (hf:X.fn x=true\/X.env.scope.names.lookup x=some .local:=by first|exact .inl rfl|exact .inr rfl|assumption):bS X (.Assign [.Name x pos'] e pos) (SS te (sQ i)):=by
 have he:=he.h;constructor
 intro pins s σ H D I h
 refine wpAny_Assign_Name (bf (he pins s σ H _ I h) fun v s1 ⟨y,H1,I1,r1,q1⟩=>?_) hs
 exact wU I1 hN hi hx r1 (fun s2 I2=>⟨_,H1,I2,q1⟩) hf
theorem W8 {X:Cx} {pos:Pos} {keys:List (Option Expr)} {values:List Expr} {BY:List (TE×TE)} (h:Vw X pos keys values BY) (hall:keys.all (·.isSome)=true) (hl:keys.length=values.length) (h0:keys≠[]) (h15:keys.length<=15):bE X (.Dict keys values pos) (abG BY):=by
 have h:=h.h;constructor
 intro pins s σ H Q I q
 have hn:=I.hok.fresh (aK s.heap.objs.size)
 have I1:=I.laid (a:=s.heap.objs.size) (o:= .dK []) (h':=s.heap.push { cls:= .type "dict",data:= .dict #[] }) (t':=s.toks) (fun _ _ q=>b7 _ q) (aK _) (Iq s.heap I.big)
 refine wpAny_Dict_walk (knd:=cM X.prog X.w) hall hl h0 h15 (bf (h pins _ σ _ _ I1 (q _ hn)) fun ws s2 ⟨ps,H2,I2,rel,e,kvs,ep,lk,q2⟩=>?_)
 subst ep
 obtain ⟨rs,c,rk⟩:=BZ (P:=X.prog) (w:=X.w) rel
 obtain ⟨z,hd,Ro,r0,dd⟩:=BW I2.hok e
 cases r0
 refine ⟨rs,c,dd,fun h' Am hs=>⟨.ref s.heap.objs.size,_,?_,Z,q2⟩⟩
 have hz:(vS [] kvs).length<=sizeLine:=by
  have h1:=ye kvs []
  rw [List.length_nil] at h1
  rw [jQ];omega
 have he:∃q,h'.get? s.heap.objs.size=some q:=let ⟨q,_,_,hq,_⟩:=Am;⟨q,hq⟩
 exact zX I2 (by rw [e];exact True.intro) hs he (Ip hz hd (rk.merge .nil) Am)
theorem d8 (K:Fg) {tg l:Expr} {tl:TE} (hl:bE X l tl) (hK:X.K=K:=by rfl):bI X tg l (Va K tl):=by
 have hl:=hl.h;exact ⟨hK▸V9 hl⟩
theorem jF {X:Cx} {e:Expr} {t:TT} (h:bT X e t):bT X e (fun σ H Q=>∃b:Bool,t σ H (fun b' H'=>b'=b/\H'=H)/\Q b H):=by
 have h:=h.h;constructor
 intro pins s σ H Q I hw
 obtain ⟨b,hb,q⟩:=hw
 refine bf (h pins s σ H _ I hb) fun b' s' ⟨H',I',e1,e2⟩=>?_
 subst e1 e2
 exact ⟨_,I',q⟩
theorem av {st:Stmt} (h1:bS X st t):cT X [st] t:=by
 have h1:=h1.h;constructor
 intro pins s σ H D I h
 refine wpAny_execs_cons (bf (h1 pins s σ H D I h) fun f s1 q=>?_)
 cases f with
 | next=>exact Hz q
 | ret v=>exact q
 | brk=>exact q
 | cont=>exact q
theorem NB (ho:bE X o td) (hi:bE X i ty):bS X (.Delete [.Subscript o i tpos] pos) (abF td ty):=by
 have ho:=ho.h;have hi:=hi.h;constructor
 intro pins s σ H D I h
 refine wpAny_Delete (wpAny_deleteEach_cons (wpAny_delete_Subscript (bf (ho pins s σ H _ I h) fun u s1 ⟨x,H1,I1,rx,q1⟩=>bf (hi pins s1 σ H1 _ I1 q1) fun iv s2 ⟨y,H2,I2,ry,a,kvs,k,ex,e,ey,l,q2⟩=>?_)))
 subst ex ey
 obtain rfl:u=Value.ref a:=rx
 exact QS I2 e ry l fun s3 I3=>wpAny_deleteEach_nil ⟨σ,_,I3,q2⟩
theorem Ju (ha:bT X a tA):bT X (.UnaryOp .Not a pos) (aeQ tA):=by
 have ha:=ha.h;constructor
 intro pins s σ H Q I h
 exact isTrue_not (ha pins s σ H (fun c H1=>Q (!c) H1) I h)
theorem cy (he:bE X e te) (hs:swapsWith e none pos.line X.env=pure false:=by rfl):bS X (.Expr e pos) (abj te):=by
 have he:=he.h;constructor
 intro pins s σ H D I h
 exact wpAny_Expr_any (bf (he pins s σ H _ I h) fun v s1 ⟨x,H1,I1,r1,q1⟩=>⟨σ,H1,I1,q1⟩) I.quiet hs
theorem bY {pl:Sem Bool} {j k:Nat} {C:Addr} {m:Str} {ps:List Str} {sp:Sp} {o e:Expr} {es:List Expr} {ta:TE} {t:TA} {apos pos:Pos} (D:Mn X.prog X.w X.K X.mg X.base j C m ps sp) (hr:dm k X.A) (ho:bE X o ta) (ha:bA X (e::es) t) (hj:j<=k:=by decide) (hst:starEach (e::es) X.env=(false,eval e X.env)::starEach es X.env:=by rfl) (hpl:(backTo pos (starEach es X.env)).any (·.1)=false:=by rfl) (ht:eval (.Call (.Attribute o m apos) (e::es) [] pos) X.env=(do
   let ov <-eval o X.env
   standAt apos.atName
   let (f,first) <-holding [ov] (getMethod ov m pl)
   callWith pos f first (backTo pos (starEach (e::es) X.env)) (backToKw pos (keywordEach [] X.env))):=by rfl):bE X (.Call (.Attribute o m apos) (e::es) [] pos) (BS C m sp [] E0 ta t):=by
 have ho:=ho.h;have ha:=ha.h;constructor
 obtain ⟨f,fd,F,b,hm,c⟩:=D.ex
 exact MW (pl:=pl) ho c hm F (hr.mono hj) b .nil (fun _ _ _ _ _ _ _ h=>h.elim) ha hst hpl ht
theorem cA {e:Expr} {es:List Expr} {t:TG} {u:BL} (h1:bG X e t) (h2:Vv X es u) (hs:(assignEach (e::es) X.env).map (·.2)=assign e X.env::(assignEach es X.env).map (·.2):=by rfl):Vv X (e::es) (U9 t u):=by
 have h1:=h1.h;have h2:=h2.h;constructor
 intro pins s σ H vs us Q I r h
 obtain ⟨v,vr,e1,h⟩:=h
 subst e1
 cases r with
 | cons r rr=>
   rw [hs]
   refine assignInOrder_cons (bf (h1 pins s σ H _ _ _ I r h) fun _ s1 ⟨σ1,H1,I1,q1⟩=>?_)
   exact h2 pins s1 σ1 H1 _ _ Q I1 rr q1
theorem wc {i:Nat} {x:Str} {px pos':Pos} {tg iter elt:Expr} {scope:Scope} {pos:Pos} (N2:List Str) (ix:List (Option Nat)) {wi:TI} {g:TG} {te:TE} (hN:X.N.Nodup) (hi:X.N[i]?=some x) (hx:X.env.scope.names.lookup x=some .local) (hc:X.calm=true) (hit:bI X tg iter wi) (hg:∀cl s₂ H₂ fp,bG (dJ X N2 scope cl s₂ H₂ fp) tg g) (he:∀cl s₂ H₂ fp,bE (dJ X N2 scope cl s₂ H₂ fp) elt te) (hk:scope.kind = .function) (hn:qX X.N X.env.scope.names scope.names N2 ix=true) (hw:swapsWith (.ListComp elt [⟨tg,iter,[],0⟩] scope pos) (some (.Name x px)) pos'.line X.env=pure true) (hs:∀x,foldedSetIterable iter X.env x=pure x:=by intro _;rfl):bS X (.Assign [.Name x px] (.ListComp elt [⟨tg,iter,[],0⟩] scope pos) pos') (SS (Vi wi ix g te) (sQ i)):=by
 have hit:=hit.h;have hg:=fun cl s₂ H₂ fp=>(hg cl s₂ H₂ fp).h;have he:=fun cl s₂ H₂ fp=>(he cl s₂ H₂ fp).h;constructor
 intro pins s σ H D I h
 obtain ⟨k1,k2,k3,k4,k5⟩:=oH hn
 obtain ⟨cl,Ra,c1,c2⟩:=wY (scope:=scope) (env:=X.env) fun y hy e=>I.ok.has y.1 (k3 y hy e)
 rw [exec_Assign_Name_used _ _ _ _ hw]
 refine au (BF (au ?_))
 show wpAny _ X.A (do let _ <-comprehension (.ListComp elt [⟨tg,iter,[],0⟩] scope pos) scope X.env _ (newList []) false (eval iter X.env) (some (assign (.Name x px) X.env))) _ _ s
 refine au (bf (wpAny_comprehension_free (use:=some (assign (.Name x px) X.env)) (Q:=fun _ s'=>SP X pins D .next s') rfl hs Ra hk k4 (bf (hit pins s σ H _ I h) fun v s1 h1=>bf h1 fun itv s2 h2=>?_)) fun _ s' hq=>aL (aL hq))
 obtain ⟨it,fp,tn,J,H2,e,I2,T,st2,f2,h2⟩:=h2
 subst e
 refine Ca (RR:=fun acc C=>compPost (model X.prog X.w) X.A X.xe (some (assign (.Name x px) X.env)) (fun _ s'=>SP X pins D .next s') acc C) (Q:=fun v H'=>D.nx (σ.set i (some v)) H') hc hg he hk hn (fun y c m=>(c1 y c m).1) c2 I2 T st2 f2 h2 ?_
 intro acc C H' s' m I' ns Cb hL hsz vW Co q
 show wpAny _ X.A (assign (.Name x px) X.env (.ref acc)) _ _ _
 refine wpAny_assign_Name (EO I' hN hi (.inl hx) (v:= .ref acc) rfl (fun s3 I3 ⟨a,sb,ha⟩=>?_) (.inr hx))
 have ca:C≠a:=by
  rcases ha with z|z
  . rw [z];exact hL
  . exact fun e=>vW x a z e.symm
 exact ⟨m,ns.sameBut sb ca,fun h' hs'=>⟨_,H',I3.turned (it:=C) (t':=s3.toks) (fun b o hb e=>(hs'.2 b hb).trans e) Cb hL (.inr hsz) vW Co,q⟩⟩
theorem AX {X:Cx} {pos:Pos} {k v:Expr} {ks:List (Option Expr)} {vs:List Expr} {tk tv:TE} {BY:List (TE×TE)} (hk:bE X k tk) (hv:bE X v tv) (hr:Vw X pos ks vs BY):Vw X pos (some k::ks) (v::vs) ((tk,tv)::BY):=by
 have hk:=hk.h;have hv:=hv.h;have hr:=hr.h;exact ⟨fun pins s σ H Q I h=>
 pairTrees_cons_walk (bf (hk pins s σ H _ I h) fun u s1 ⟨x,H1,I1,rx,q1⟩=>bf (hv pins s1 σ H1 _ I1 q1) fun w2 s2 ⟨y,H2,I2,ry,q2⟩=>
  bf (hr pins s2 σ H2 _ I2 q2) fun ws s3 ⟨ps,H3,I3,rel,q3⟩=>⟨(x,y)::ps,H3,I3, .cons ⟨rx,ry⟩ rel,q3⟩)⟩
theorem yW (hu:X.A.units+1<cLine) (hi:bE X i ty) (ho:bE X o td):bC X .NotIn i o (Wq ty td):=by
 have hi:=hi.h;have ho:=ho.h;constructor
 intro pins s σ H Q I h
 refine bf (hi pins s σ H _ I h) fun iv s1 ⟨y,H1,I1,ry,q1⟩=>bf (ho pins s1 σ H1 _ I1 q1) fun u s2 ⟨x,H2,I2,rx,a,ov,ex,g,q2⟩=>?_
 subst ex
 obtain rfl:u=Value.ref a:=rx
 exact Wm hu I2 g ry fun s3 I3=>⟨.bl (!ov.isSome),H2,I3,Z,q2⟩
theorem xF {b j pos}:bE X (.Constant (.bool b) j pos) (tC (.bl b)):=by
 exact ⟨fun _ _ _ H _ I h=>Constant_bool ⟨.bl b,H,I,Z,h⟩⟩
theorem p_ {pl:Sem Bool} {j k:Nat} {C:Addr} {m:Str} {ps:List Str} {sp:Sp} {o:Expr} {ta:TE} {apos pos:Pos} (D:Mn X.prog X.w X.K X.mg X.base j C m ps sp) (hr:dm k X.A) (ho:bE X o ta) (hj:j<=k:=by decide) (ht:eval (.Call (.Attribute o m apos) [] [] pos) X.env=(do
   let ov <-eval o X.env
   standAt apos.atName
   let (f,first) <-holding [ov] (getMethod ov m pl)
   callWith pos f first (backTo pos (starEach [] X.env)) (backToKw pos (keywordEach [] X.env))):=by rfl):bE X (.Call (.Attribute o m apos) [] [] pos) (BS C m sp [] E0 ta rO):=by
 have ho:=ho.h;constructor
 obtain ⟨f,fd,F,b,hm,c⟩:=D.ex
 exact Tf (pl:=pl) ho c hm F (hr.mono hj) b .nil (fun _ _ _ _ _ _ _ h=>h.elim) ht
theorem bh (he:bE X e te):bS X (.Return (some e) pos) (aeS te):=by
 have he:=he.h;constructor
 intro pins s σ H D I h
 exact wpAny_Return_some (bf (he pins s σ H _ I h) fun v s1 ⟨x,H1,I1,r1,q1⟩=>⟨x,σ,H1,I1,r1,q1⟩)
theorem nU {tg:Expr} {a:Expr} {ta:TA} {p pos:Pos} (hg:Gl X "range") (hm:X.mg "range"=none) (ha:bA X [a] ta) (hs:starEach [a] X.env=[(false,eval a X.env)] :=by rfl):bI X tg (.Call (.Name "range" p) [a] [] pos) (abr ta):=by
 have ha:=ha.h;constructor
 intro pins s σ H R I h
 refine Call_ (tL I hg hm boot_range (Qj (bf (ha pos pins s σ H _ I h) fun us s1 ⟨vs,H1,I1,r1,q1⟩=>?_) hs rfl))
 obtain ⟨j,e,q1,q2,q⟩:=q1
 subst e
 cases r1 with
 | cons r rr=>
   cases rr
   obtain ⟨t,rfl⟩:=r
   exact call_range_1 (S3 I1 (by omega) (by omega) q1 q2 (by simpa using q))
theorem bw:cT X [] abi:=by
 exact ⟨fun _ _ σ H _ I h=>Hz ⟨σ,H,I,h⟩⟩
theorem dD (K:Fg) {o value:Expr} {f:Str} {ta tv:TE} {pos pos':Pos} (ha:bE X o ta) (hv:bE X value tv) (hs:swapsWith value (some (.Attribute o f pos')) pos.line X.env=pure false:=by rfl) (hK:X.K=K:=by rfl):bS X (.Assign [.Attribute o f pos'] value pos) (Yl K ta tv f):=by
 have ha:=ha.h;have hv:=hv.h;exact ⟨hK▸Yo ha hv hs⟩
theorem Fw {tg:Expr} {a b c:Expr} {ta:TA} {p pos:Pos} (hg:Gl X "range") (hm:X.mg "range"=none) (ha:bA X [a,b,c] ta) (hs:starEach [a,b,c] X.env=[(false,eval a X.env),(false,eval b X.env),(false,eval c X.env)] :=by rfl) (hs2:starEach [b,c] X.env=[(false,eval b X.env),(false,eval c X.env)] :=by rfl):bI X tg (.Call (.Name "range" p) [a,b,c] [] pos) (abQ ta):=by
 have ha:=ha.h;constructor
 intro pins s σ H R I h
 refine Call_ (tL I hg hm boot_range (Qj (bf (ha pos pins s σ H _ I h) fun us s1 ⟨vs,H1,I1,r1,q1⟩=>?_) (by rw [hs,hs2]) (by rw [hs2];rfl)))
 obtain ⟨i,j,k,e,⟨q1,q2,q3,q4,q5,q6⟩,q⟩:=q1
 subst e
 cases r1 with
 | cons r rr=>
   cases rr with
   | cons r' rr=>
     cases rr with
     | cons r'' rr=>
       cases rr
       obtain ⟨t,rfl⟩:=r
       obtain ⟨t',rfl⟩:=r'
       obtain ⟨t'',rfl⟩:=r''
       obtain ⟨sm,sz⟩:=Lz q1 q2 q3 q4 q5 q6
       refine call_range_3 (by omega) ?_ (Or.inl (PyProof.noPylong_small (by omega)))
       refine wpAny_pyIter_range (IsRange.new ..) sm ?_
       have I2:Inv X pins σ H1 { s1 with heap:=s1.heap.push { cls:= .type "range",data:= .fields #[.int i t, .int j t', .int k t''] },toks:=s1.toks }:=I1.kept fun b o e=>b7 _ e
       refine ⟨(s1.heap.push { cls:= .type "range",data:= .fields #[.int i t, .int j t', .int k t''] }).objs.size,[(s1.heap.push { cls:= .type "range",data:= .fields #[.int i t, .int j t', .int k t''] }).objs.size],_,_,H1,Z,
        I2.kept (t':=s1.toks) fun b o e=>b7 _ e,Ly _ i k (pX i j k),?_,fun b hb=>?_,q⟩
       . have e1:i+((0:Nat):Int)*k=i:=by simp
         have e2:((pX i j k:Nat):Int)-((0:Nat):Int)=Builtin.Range.rangeSize i j k:=by unfold pX;omega
         show IsRangeIter _ _ (i+((0:Nat):Int)*k) (((pX i j k:Nat):Int)-((0:Nat):Int)) k
         rw [e1,e2]
         exact d_ _ rfl
       . have e:b=(s1.heap.push { cls:= .type "range",data:= .fields #[.int i t, .int j t', .int k t''] }).objs.size:=by simpa using hb
         subst e
         exact I2.yt (aK _) (I2.hok.fresh (aK _))
theorem RN {a:Expr} {ta:TA} {p pos:Pos} (hg:Gl X "range") (hm:X.mg "range"=none) (ha:bA X [a] ta) (hs:starEach [a] X.env=[(false,eval a X.env)] :=by rfl):bE X (.Call (.Name "range" p) [a] [] pos) (afc ta):=by
 have ha:=ha.h;constructor
 intro pins s σ H Q I h
 refine Call_ (tL I hg hm boot_range (Qj (bf (ha pos pins s σ H _ I h) fun us s1 ⟨vs,H1,I1,r1,q1⟩=>?_) hs rfl))
 obtain ⟨j,e,q⟩:=q1
 subst e
 obtain ⟨u,rfl,ru⟩:=vals1 r1
 obtain ⟨t,rfl⟩:=ru
 exact call_range_1 ⟨.ref s1.heap.objs.size,_,I1.laid (a:=s1.heap.objs.size) (o:= .uQ 0 j) (fun b o e=>b7 _ e) (aK _) ⟨_,_,_,d_ _ rfl⟩,Z,q _ I1.fresh⟩
theorem ir (h:bA X es t):bE X (.List es pos) (ae1 t):=by
 have h:=h.h;constructor
 intro pins s σ H Q I hq
 refine wpAny_List_spliced (bf (h pos pins s σ H _ I hq) fun us s1 ⟨xs,H1,I1,r,z,q⟩=>⟨by rw [<-r.length];exact z,?_⟩)
 have hf:H1 s1.heap.objs.size=none:=I1.hok.fresh (aK _)
 refine ⟨.ref s1.heap.objs.size,upd H1 s1.heap.objs.size (.lst xs),I1.laid (t':=s1.toks) (fun b u e=>b7 _ e) (aK _) ?_,Z,q _ hf⟩
 exact ⟨z,us,0,r,d_ _ rfl⟩
theorem oS (K:Fg) {o value:Expr} {f:Str} {ta tv:TE} {pos tpos:Pos} {op:Operator} {rd:V->V->Hp->VK->Prop} (ha:bE X o ta) (hv:bE X value tv) (hop:Ic X op rd) (hK:X.K=K:=by rfl):bS X (.AugAssign (.Attribute o f tpos) op value pos) (MT K ta tv rd f):=by
 have ha:=ha.h;have hv:=hv.h;exact ⟨hK▸QD ha hv hop⟩
theorem ZL {j pos}:bE X (.Constant .none j pos) (tC .bU):=by
 exact ⟨fun _ _ _ H _ I h=>Constant_none ⟨.bU,H,I,Z,h⟩⟩
theorem D3 {ob:Expr} {td:TE} {apos cpos:Pos} (hob:bE X ob td) (hbase:attributeBase ob "values" X.env (eval ob X.env)=eval ob X.env:=by rfl) (hline:(apos.endLine==cpos.line)=true:=by rfl):bE X (.Call (.Attribute ob "values" apos) [] [] cpos) (abS td):=by
 have hob:=hob.h;constructor
 intro pins s σ H Q I h
 refine wpAny_Call_method0_late hbase hline (bf (hob pins s σ H _ I h) fun v s1 ⟨x,H1,I1,r1,q1⟩=>?_)
 obtain ⟨d,kvs,rfl,e,fin⟩:=q1
 cases r1
 obtain ⟨t1,t2,hsys⟩:=Ir I1 (.inl ⟨kvs,e⟩)
 obtain ⟨hz,_,vs,rel,dd⟩:=sR I1.hok e
 refine ⟨"dict",_,F.plainAttrs_dict,Ot,F.type_dict_values,t1,t2,Of rfl (PySem.evalArgs_none ?_)⟩
 refine call_meetsIn Ot dd.typeIs F.entry_dict_values (F.args_dict_values_1 _) (meets_dict_values (cM X.prog X.w) d hsys) ⟨⟨vs,dd⟩,?_⟩
 refine ⟨.ref s1.heap.objs.size,_,I1.laid (t':=s1.toks) (o:=kK s1.heap.objs.size d) (fun b u e=>b7 _ e) (aK _) ?_,Z,fin _ I1.fresh⟩
 refine ⟨⟨_,d_ _ rfl,Z,Z⟩,⟨_,d_ _ rfl⟩,fun h1 h2 ⟨o,a,b⟩ k=>⟨o,k o a,b⟩⟩
theorem Vz {j k:Nat} {x:Str} {C:Addr} {ps:List Str} {sp:Sp} {e:Expr} {es:List Expr} {t:TA} {p pos:Pos} (D:Cn X.prog X.w X.K X.mg X.base j x C ps sp) (hr:dm k X.A) (ha:bA X (e::es) t) (hj:j+1<=k:=by decide) (hg:Gl X x:=by rfl) (hdb:(x==("__debug__":Str))=false:=by decide) (he:starEach (e::es) X.env=(false,eval e X.env)::starEach es X.env:=by rfl) (hpl:(backTo pos (starEach es X.env)).any (·.1)=false:=by rfl):bE X (.Call (.Name x p) (e::es) [] pos) (HD C sp [] E0 t):=by
 have ha:=ha.h;constructor
 obtain ⟨f,fd,F,b,M,m⟩:=D.ex
 exact We M F (hr.mono hj) hg m b .nil (fun _ _ _ _ _ _ _ h=>h.elim) ha hdb he hpl
theorem W9 {x:Str} {v:V} {u:Value} {pos:Pos} (hg:Gl X x) (hm:X.mg x=some u) (r:RelV v u) (hd:(x==("__debug__":Str))=false:=by decide):bE X (.Name x pos) (tC v):=by
 exact ⟨fun _ _ _ H _ I h=>vP I hg hm ⟨v,H,I,r,h⟩ hd⟩
theorem nV (hc:iy X (.type T) r) (hg:Gl X x) (hm:X.mg x=none) (hv:bootBuiltins x=some (.type T)) (ha:bA X (e::es) t) (hn:x ≠ "__name__":=by decide) (hdb:(x==("__debug__":Str))=false:=by decide) (he:starEach (e::es) X.env=(false,eval e X.env)::starEach es X.env:=by rfl) (hpl:(backTo pos (starEach es X.env)).any (·.1)=false:=by rfl):bE X (.Call (.Name x p) (e::es) [] pos) (Yw r t):=by
 have ha:=ha.h;constructor
 intro pins s σ H Q I h
 refine HP (tL I hg hm hv ?_ hn hdb)
 exact Qj (bf (ha pos pins s σ H _ I h) fun us s1 ⟨vs,H1,I1,r1,q1⟩=>hc pins s1 σ H1 vs us Q I1 r1 q1) he hpl
theorem CI {rest:List Expr} (ha:bT X a tA) (hb:bW X (.BoolOp .Or (b::rest) pos) U7):bW X (.BoolOp .Or (a::b::rest) pos) (tOr tA U7):=by
 have ha:=ha.h;have hb:=hb.h;constructor
 intro wh pins s σ H Q I h
 refine isTrue_or (bf (ha pins s σ H _ I h) fun c s1 ⟨H1,I1,q1⟩=>?_)
 cases c with
 | true=>exact ⟨H1,I1,q1⟩
 | false=>exact hb wh pins s1 σ H1 Q I1 q1
theorem s_ (ha:bT X a tA):bW X (.BoolOp .And [a] pos) tA:=by
 have ha:=ha.h;constructor
 intro wh pins s σ H Q I h
 refine isTrue_and (bf (ha pins s σ H Q I h) fun c s1 e=>?_)
 cases c with
 | true=>exact isTrue_and_nil e
 | false=>exact e
theorem b9 {c:Expr} {a b:List Stmt} {tc:TT} (hc:bT X c tc) (ha:cT X a t) (hb:cT X b u):bS X (.If c a b pos) (XU tc t u):=⟨U8 hc.h ha.h hb.h⟩
theorem ZM {i j:Nat} {x y:Str} {a b:Expr} {ta:TA} {px py pt:Pos} {kt k2 ZN} (hc:X.calm=true) (hN:X.N.Nodup) (hi:X.N[i]?=some x) (hj:X.N[j]?=some y) (hij:i≠j) (hx:X.env.scope.names.lookup x=some .local) (hy:X.env.scope.names.lookup y=some .local) (ha:bA X [a,b] ta) (hw:swappedStores [.Tuple [.Name x px, .Name y py] kt pt] (.Tuple [a,b] k2 ZN) X.env=pure (some [x,y])) (hs:swapsWithSole [.Tuple [.Name x px, .Name y py] kt pt] (.Tuple [a,b] k2 ZN) pos.line X.env=pure false:=by rfl):bS X (.Assign [.Tuple [.Name x px, .Name y py] kt pt] (.Tuple [a,b] k2 ZN) pos) (aeU i j ta):=by
 have ha:=ha.h;constructor
 intro pins s σ H D I h
 rw [exec_Assign_arm]
 refine au (BF ?_)
 rw [hs]
 refine au (aL ?_)
 rw [aA (by decide)]
 refine au (Tuple_ (bf (ha _ pins s σ H _ I h) fun us s1 ⟨vs,H1,I1,r1,q1⟩=>?_))
 obtain ⟨v,w,e1,q1⟩:=q1
 subst e1
 obtain ⟨u1,u2,rfl,rv,rw'⟩:∃u1 u2,us=[u1,u2]/\RelV v u1/\RelV w u2:=by
  cases r1 with
  | cons p q=>
    cases q with
    | cons p' q'=>
      cases q'
      exact ⟨_,_,Z,p,p'⟩
 refine pS ?_ (by show 2<=sizeLine;decide)
 have I2:Inv X pins σ H1 { s1 with heap:=s1.heap.push { cls:= .type "tuple",data:= .seq [u1,u2].toArray } }:=I1.kept (t':=s1.toks) fun b o e=>b7 _ e
 rw [hw]
 refine au (aL ?_)
 show wpAny (model X.prog X.w) X.A (do rule "assign.swapped-stores";let items <-unpackItems (.ref s1.heap.objs.size) 2 none;assignInOrder [fun v=>bindName X.env y v,fun v=>bindName X.env x v] items.reverse;pure Flow.next) _ _ _
 refine au (wpAny_rule (au (unpackItems_tuple (items:=#[u1,u2]) (I.ok.hd hc) (IsTup.new s1.heap _) fun h' hx'=>?_)))
 have I3:=I2.kept (h':=h') (t':=s1.toks) fun b o e=>hx' b o (fq (bQ e)) e
 show wpAny _ _ (assignInOrder [fun v=>bindName X.env y v,fun v=>bindName X.env x v] [u2,u1] >>= fun _=>pure Flow.next) _ _ _
 refine au (assignInOrder_cons (wpAny_bindName (wU I3 hN hj (.inl hy) rw' (fun s2 I4=>?_) (.inr hy))))
 refine assignInOrder_cons (wpAny_bindName (wU I4 hN hi (.inl hx) rv (fun s3 I5=>assignInOrder_nil (aL ?_)) (.inr hx)))
 rw [List.set_comm _ _ (cO hij)] at I5
 exact ⟨_,H1,I5,q1⟩
theorem jG {c:Expr} {a b:List Stmt} {tc:TT} {t u:TS} (hc:bT X c tc) (ha:cT X a t) (hb:cT X b u):bS X (.If c a b pos) (YV tc t u):=by
 have hc:=hc.h;have ha:=ha.h;have hb:=hb.h;constructor
 intro pins s σ H D I h
 obtain ⟨J,h,hJ⟩:=h
 refine bf (U8 hc ha hb pins s σ H { D with nx:=J } I h) fun f s' q=>?_
 cases f with
 | next=>obtain ⟨σ',H',I',q⟩:=q;exact ⟨σ',H',I',hJ _ _ q⟩
 | cont=>exact q
 | brk=>exact q
 | ret v=>exact q
theorem ak {st:Stmt} {rest:List Stmt} (h1:bS X st t) (h2:cT X rest u):cT X (st::rest) (tM t u):=by
 have h1:=h1.h;have h2:=h2.h;constructor
 intro pins s σ H D I h
 refine wpAny_execs_cons (bf (h1 pins s σ H { D with nx:=u D } I h) fun f s1 q=>?_)
 cases f with
 | next=>
   obtain ⟨σ',H',I',q⟩:=q
   exact h2 pins s1 σ' H' D I' q
 | ret v=>exact q
 | brk=>exact q
 | cont=>exact q
theorem ZO (K:Fg) {e st:Expr} {te ts:TE} {pos p2:Pos} (he:bE X e te) (hst:bE X st ts) (hK:X.K=K:=by rfl):bE X (.Subscript e (.Slice none none (some st) p2) pos) (afd K te ts):=by
 have he:=he.h;have hst:=hst.h;constructor
 subst hK
 intro pins s σ H Q I h
 refine Subscript_ (bf (he pins s σ H _ I h) fun v s1 ⟨x,H1,I1,r1,q1⟩=>?_)
 refine wpAny_Slice ?_
 rw [evalPart_none]
 refine aL (aL ?_)
 rw [evalPart_some]
 refine bf (hst pins s1 σ H1 _ I1 q1) fun w3 s3 ⟨y,H3,I3,r3,q3⟩=>?_
 obtain ⟨ey,a,xs,rfl,hx,q⟩:=q3
 subst ey
 obtain ⟨t,rfl⟩:=r3
 cases r1
 have I4:Inv X pins σ H3 { s3 with heap:=s3.heap.push { cls:= .type "slice",data:= .fields #[.none, .none, .int (-1) t] } }:=I3.kept (t':=s3.toks) fun b ob q=>b7 _ q
 obtain ⟨its,r,ht,hz⟩:=I4.list hx
 have hlen:=r.length
 refine tail_any (ops:=[.ref a, .ref s3.heap.objs.size]) ht.isList.typeIs slot_list_getitem.lookup ?_ (by with_unfolding_all rfl)
 refine wpAny_getItem_list_slice ht.isList (Heap.IsSliceOf.new ..) .none .none (.int (-1) t) (by decide) ?_ (by rw [gH] <;> omega)
 rw [PySem.W.krv_pick]
 refine ⟨.ref _,_,I4.laid (t':=s3.toks) (o:= .lst xs.reverse) (fun b ob q=>b7 _ q) (aK _) ?_,Z,q _ I4.fresh⟩
 exact ⟨by rw [List.length_reverse];exact hz,its.reverse,0,r.reverse,d_ _ rfl⟩
theorem iF (K:Fg) {X:Cx} {es:List Expr} {k:Nat} {t:BL} {n:Nat} {pos:Pos} (hc:X.calm=true) (h:Vv X es t) (hK:X.K=K:=by rfl) (hn:(assignEach es X.env).length=n:=by rfl) (hst:(assignEach es X.env).findIdx? (·.1)=none:=by rfl):bG X (.Tuple es k pos) (AH K n t):=by
 have h:=h.h;exact ⟨hK▸X0 hc h hn hst⟩
theorem CJ {K:Fg} {j k:Nat} {x:Str} {ps:List Str} {sp:Sp} {e:Expr} {es:List Expr} {t:TA} {p pos:Pos} (D:Dx P w K mg base j x ps sp) (hr:dm k (cD (gf P w) P w K mg base N qual scope f cd A outer s0 H0 E).A) (ha:bA (cD (gf P w) P w K mg base N qual scope f cd A outer s0 H0 E) (e::es) t) (hj:j<=k:=by decide) (hg:Gl (cD (gf P w) P w K mg base N qual scope f cd A outer s0 H0 E) x:=by rfl) (hdb:(x==("__debug__":Str))=false:=by decide) (he:starEach (e::es) (cD (gf P w) P w K mg base N qual scope f cd A outer s0 H0 E).env=(false,eval e (cD (gf P w) P w K mg base N qual scope f cd A outer s0 H0 E).env)::starEach es (cD (gf P w) P w K mg base N qual scope f cd A outer s0 H0 E).env:=by rfl) (hpl:(backTo pos (starEach es (cD (gf P w) P w K mg base N qual scope f cd A outer s0 H0 E).env)).any (·.1)=false:=by rfl):bE (cD (gf P w) P w K mg base N qual scope f cd A outer s0 H0 E) (.Call (.Name x p) (e::es) [] pos) (OQ sp [] E t):=by
 have ha:=ha.h;constructor
 obtain ⟨f',fd,F,b,kp,m⟩:=D.ex
 exact MV F (hr.mono hj) hg m kp b .nil Vu ha hdb he hpl
theorem dZ (hu:X.A.units+1<cLine) (ho:bE X o td) (hi:bE X i ty) (hs:YN i:=by exact fun _ _=>rfl):bE X (.Subscript o i pos) (Ve td ty):=by
 have ho:=ho.h;have hi:=hi.h;constructor
 intro pins s σ H Q I h
 refine Wn PySem.F.slot_dict_getitem.lookup hs (bf (ho pins s σ H _ I h) fun u s1 ⟨x,H1,I1,rx,q1⟩=>bf (hi pins s1 σ H1 _ I1 q1) fun iv s2 ⟨y,H2,I2,ry,a,v,ex,g,q2⟩=>?_)
 subst ex
 obtain rfl:u=Value.ref a:=rx
 exact ⟨Ls I2 g,QN hu I2 g ry fun w' s3 I3 rw'=>⟨v,H2,I3,rw',q2⟩⟩
theorem aq:bA X [] rO:=⟨QF⟩
theorem lO {K:Fg} {pl:Sem Bool} {j k:Nat} {C:Addr} {m:Str} {ps:List Str} {sp:Sp} {o e:Expr} {es:List Expr} {ta:TE} {t:TA} {apos pos:Pos} (D:Mx P w K mg base j C m ps sp) (hr:dm k (cD (gf P w) P w K mg base N qual scope f cd A outer s0 H0 E).A) (ho:bE (cD (gf P w) P w K mg base N qual scope f cd A outer s0 H0 E) o ta) (ha:bA (cD (gf P w) P w K mg base N qual scope f cd A outer s0 H0 E) (e::es) t) (hj:j<=k:=by decide) (hst:starEach (e::es) (cD (gf P w) P w K mg base N qual scope f cd A outer s0 H0 E).env=(false,eval e (cD (gf P w) P w K mg base N qual scope f cd A outer s0 H0 E).env)::starEach es (cD (gf P w) P w K mg base N qual scope f cd A outer s0 H0 E).env:=by rfl) (hpl:(backTo pos (starEach es (cD (gf P w) P w K mg base N qual scope f cd A outer s0 H0 E).env)).any (·.1)=false:=by rfl) (ht:eval (.Call (.Attribute o m apos) (e::es) [] pos) (cD (gf P w) P w K mg base N qual scope f cd A outer s0 H0 E).env=(do
   let ov <-eval o (cD (gf P w) P w K mg base N qual scope f cd A outer s0 H0 E).env
   standAt apos.atName
   let (f2,first) <-holding [ov] (getMethod ov m pl)
   callWith pos f2 first (backTo pos (starEach (e::es) (cD (gf P w) P w K mg base N qual scope f cd A outer s0 H0 E).env)) (backToKw pos (keywordEach [] (cD (gf P w) P w K mg base N qual scope f cd A outer s0 H0 E).env))):=by rfl):bE (cD (gf P w) P w K mg base N qual scope f cd A outer s0 H0 E) (.Call (.Attribute o m apos) (e::es) [] pos) (BS C m sp [] E ta t):=by
 have ho:=ho.h;have ha:=ha.h;constructor
 obtain ⟨f',fd,F,b,hm,c⟩:=D.ex
 exact MW (pl:=pl) ho c hm F (hr.mono hj) b .nil Vu ha hst hpl ht
theorem ai {i j pos}:bE X (.Constant (.int i) j pos) (tC (.int i)):=by
 exact ⟨fun _ _ _ H _ I h=>wpAny_Constant_int ⟨.int i,H,I.tok _,⟨_,Z⟩,h⟩⟩
theorem ZP {rest:List Expr} (ha:bE X a ta) (hb:bE X (.BoolOp .And (b::rest) pos) tb):bE X (.BoolOp .And (a::b::rest) pos) (abh ta tb):=by
 have ha:=ha.h;have hb:=hb.h;constructor
 intro pins s σ H Q I h
 refine BoolOp_and (bf (ha pins s σ H _ I h) fun v s1 ⟨x,H1,I1,r1,q1⟩=>?_)
 obtain ⟨c,rfl,q1⟩:=q1
 cases r1
 refine DL ?_
 cases c with
 | true=>exact hb pins s1 σ H1 Q I1 q1
 | false=>exact ⟨.bl false,H1,I1,Z,q1⟩
theorem qa:bE X (.Dict [] [] pos) YS:=by
 exact ⟨fun pins s σ H Q I h=>
 wpAny_Dict_empty ⟨.ref s.heap.objs.size,_,I.laid (a:=s.heap.objs.size) (o:= .dK []) (t':=s.toks) (fun _ _ q=>b7 _ q) (aK _) (Iq s.heap I.big),Z,h _ (I.hok.fresh (aK _))⟩⟩
theorem mC {tg e:Expr} {te:TE} {g:TG} (he:bE X e te) (hg:bG X tg g) (hs:swapsWithSole [tg] e pos.line X.env=pure false:=by rfl) (hw:swappedStores [tg] e X.env=pure none:=by rfl) (h1:(assignEach [tg] X.env).map (·.2)=[assign tg X.env] :=by rfl):bS X (.Assign [tg] e pos) (SS te g):=by
 have he:=he.h;have hg:=hg.h;constructor
 intro pins s σ H D I h
 refine wpAny_Assign_stores (bf (he pins s σ H _ I h) fun v s1 ⟨x,H1,I1,r1,q1⟩=>?_) hs hw
 rw [h1]
 exact bf (hg pins s1 σ H1 x v _ I1 r1 q1) fun _ s2 q=>q
theorem AY {elts:List Expr} {kk:Nat} {tpos:Pos} {ob:Expr} {td:TE} {apos cpos:Pos} (hob:bE X ob td) (hbase:attributeBase ob "items" X.env (eval ob X.env)=eval ob X.env:=by rfl) (hline:(apos.endLine==cpos.line)=true:=by rfl):bI X (.Tuple elts kk tpos) (.Call (.Attribute ob "items" apos) [] [] cpos) (Zd td):=by
 have hob:=hob.h;constructor
 intro pins s σ H R I h
 refine wpAny_Call_method0_late hbase hline (bf (hob pins s σ H _ I h) fun v s1 ⟨x,H1,I1,r1,q1⟩=>?_)
 obtain ⟨d,o,kvs,rfl,e,fin⟩:=q1
 cases r1
 obtain ⟨ho,hz,hsys,vs,ep,rel,da⟩:=I1.qE e
 obtain ⟨t1,t2,_⟩:=Ir I1 (.inl ⟨kvs, .inr ⟨o,e⟩⟩)
 have dd:=da.dictOf
 refine ⟨"dict",_,F.plainAttrs_dict,F.slot_dict_items,F.type_dict_items,t1,t2,Of rfl (PySem.evalArgs_none ?_)⟩
 refine call_meetsIn F.slot_dict_items dd.typeIs F.entry_dict_items (F.args_dict_items_1 _) (meets_dict_items (cM X.prog X.w) d hsys) ⟨⟨vs,dd⟩,?_⟩
 refine wpAny_pyIter_items (s:={ s1 with heap:=s1.heap.push { cls:= .type "dict_items",data:= .fields #[.ref d] } }) ⟨_,d_ _ rfl,Z,Z⟩ (da.push _) ?_
 have Iv:Inv X pins σ H1 { s1 with heap:=s1.heap.push { cls:= .type "dict_items",data:= .fields #[.ref d] } }:=I1.kept (t':=s1.toks) fun b o e=>b7 _ e
 generalize ({ s1 with heap:=s1.heap.push { cls:= .type "dict_items",data:= .fields #[.ref d] } }:Shared)=sv at *
 have I2:Inv X pins σ H1 { sv with heap:=sv.heap.push { cls:= .type "dict_itemiterator",data:= .fields #[.none, .bool false, .ref d, .int 0 0, .int vs.length 0, .int ep 0, .none, .none] } }:=Iv.kept (t':=sv.toks) fun b o e=>b7 _ e
 have hl:kvs.length=vs.length:=rel.length
 obtain ⟨o',es,h1,_,h2,_⟩:=id da
 rw [ho] at h1;cases h1
 refine ⟨sv.heap.objs.size,[sv.heap.objs.size],_,_,H1,Z,I2,O4 h2,?_,fun b hb=>?_,fin⟩
 . rw [hl];exact ⟨_,_,d_ _ rfl⟩
 . have eb:b=sv.heap.objs.size:=by simpa using hb
   subst eb
   exact Iv.yt (aK _) (Iv.hok.fresh (aK _))
theorem ZQ {tg:Expr} {l:Expr} {tl:TE} (hl:bE X l tl):bI X tg l (Y7 tl):=⟨Y8 hl.h⟩
theorem yX (ha:bT X a tA):bW X (.BoolOp .Or [a] pos) tA:=by
 have ha:=ha.h;constructor
 intro wh pins s σ H Q I h
 refine isTrue_or (bf (ha pins s σ H Q I h) fun c s1 e=>?_)
 cases c with
 | false=>exact isTrue_or_nil e
 | true=>exact e
theorem wg {X:Cx} {st:Stmt} {t:TS} (h:bS X st t):bS X st (afe t):=by
 have h:=h.h;constructor
 intro pins s σ H D I hw
 obtain ⟨d,kvs,e,hw⟩:=hw
 obtain ⟨ho,es,ep,h1,_⟩:=(BW I.hok e).2.2.choose_spec.2
 have h0:=I.Rh e
 refine bf (h pins s σ _ _ (I.freeze e h1) (hw ho)) fun f s' q=>?_
 cases f with
 | next=>obtain ⟨σ',H',I',q1,q2⟩:=q;exact ⟨σ',_,I'.AN q1 h0,q2⟩
 | brk=>obtain ⟨σ',H',I',q1,q2⟩:=q;exact ⟨σ',_,I'.AN q1 h0,q2⟩
 | cont=>obtain ⟨σ',H',I',q1,q2⟩:=q;exact ⟨σ',_,I'.AN q1 h0,q2⟩
 | ret u=>obtain ⟨v,σ',H',I',r,q1,q2⟩:=q;exact ⟨v,σ',_,I'.AN q1 h0,r,q2⟩
theorem tD (hu:X.A.units+1<cLine) (ho:bE X o td) (hi:bE X i ty) (hv:bE X value tv) (hs:swapsWith value (some (.Subscript o i pos')) pos.line X.env=pure false):bS X (.Assign [.Subscript o i pos'] value pos) (abE td ty tv):=by
 have ho:=ho.h;have hi:=hi.h;have hv:=hv.h;constructor
 intro pins s σ H D I h
 refine wpAny_Assign_Subscript (bf (hv pins s σ H _ I h) fun r s1 ⟨v,H1,I1,rv,q1⟩=>bf (ho pins s1 σ H1 _ I1 q1) fun u s2 ⟨x,H2,I2,rx,q2⟩=>bf (hi pins s2 σ H2 _ I2 q2) fun iv s3 ⟨y,H3,I3,ry,a,H4,ex,g,q3⟩=>?_) hs
 subst ex
 obtain rfl:u=Value.ref a:=rx
 exact QO hu I3 g ry rv fun s4 I4=>⟨σ,H4,I4,q3⟩
theorem qv (i:Nat) {x:Str} {pos:Pos} (hN:X.N[i]?=some x:=by rfl) (hv:U4 X.env.scope x:=by first|exact Or.inl rfl|exact Or.inr (Or.inl rfl)|exact Or.inr (Or.inr rfl)) (hd:(x==("__debug__":Str))=false:=by decide) (hcd:(x==("__classdict__":Str))=false:=by decide):bE X (.Name x pos) (OF i):=by
 exact ⟨XR hN hv hd hcd⟩
theorem bF {id:String} (hc:iy X (.builtin id) r) (hg:Gl X x) (hm:X.mg x=none) (hv:bootBuiltins x=some (.builtin id)) (ha:bA X (e::es) t) (hn:x ≠ "__name__":=by decide) (hdb:(x==("__debug__":Str))=false:=by decide) (he:starEach (e::es) X.env=(false,eval e X.env)::starEach es X.env:=by rfl) (hpl:(backTo pos (starEach es X.env)).any (·.1)=false:=by rfl):bE X (.Call (.Name x p) (e::es) [] pos) (Yw r t):=by
 have ha:=ha.h;constructor
 intro pins s σ H Q I h
 refine HP (tL I hg hm hv ?_ hn hdb)
 exact PyProof.Rows.callWith_builtin1 (bf (ha pos pins s σ H _ I h) fun us s1 ⟨vs,H1,I1,r1,q1⟩=>hc pins s1 σ H1 vs us Q I1 r1 q1) he hpl
theorem j0 {K:Fg} {x:Str} {C:Addr} {t:Str} {kd:Nat} {p0 p1 cpos pos:Pos} (oc:gK K C) (hg:Gl (cD (gf P w) P w K mg base N qual scope f cd A outer s0 H0 E) x) (hm:mg x=some (.ref C)) (hd:(x==("__debug__":Str))=false:=by decide):bS (cD (gf P w) P w K mg base N qual scope f cd A outer s0 H0 E) (.Raise (some (.Call (.Name x p0) [.Constant (.str t) kd p1] [] cpos)) none pos) (ZH C E):=by
 constructor
 intro pins s σ H D I h
 obtain ⟨nm,q,Nn,bs,bm,hdct,sn,sub,ab,col,dd,k0,k1,k2,k3,k5,mN,hni,hb,fx⟩:=oc.ex
 refine wpAny_Raise_call_subT (bm:=bm) (C:=C) (nm:=nm) (q:=q) (N:=Nn) (bs:=bs) (hdct:=hdct) (sn:=sn) (sub:=sub) (ab:=ab) (col:=col) (dd:=dd) (k0:=k0) (k1:=k1) (k2:=k2) (k3:=k3) (k5:=k5) F.excBase_ValueError hb (I.ok.hd rfl) rfl hni ?_
 refine vP I hg hm ⟨Z,?_⟩ hd
 have pa:PA (cD (gf P w) P w K mg base N qual scope f cd A outer s0 H0 E) [.Constant (.str t) kd p1] (HC (tC (.str t)) rO):=MU Qp QF
 refine PySem.Calls.evalArgs_plain (bf (pa cpos pins s σ H (fun vs H1=>vs.length=1/\H1=H) I ⟨Z,Z⟩) fun us s1 ⟨vs,H1,I1,r,hv,e⟩=>?_)
 subst e
 obtain ⟨hC,hN,T⟩:=fx s1.heap I1.jA
 exact ⟨Z,by show us.length<=sizeLine;rw [<-r.length,hv,jQ];decide,hC,hN,T,fun h' e hm=>Pc I1 hm (h e)⟩
theorem mD {o i:Expr} {to ti:TE} {t:rN} (ho:bE X o to) (hi:bE X i ti) (hs:SR X t) (ha:∀v,assign (.Subscript o i pos) X.env v=(do
   let ov <-holding [v] (eval o X.env)
   let iv <-holding [v,ov] (eval i X.env)
   standAt pos
   holding [v,ov,iv] (setItem ov iv v)
   release [v,ov,iv] []):=by intro _;rfl):bG X (.Subscript o i pos) (aeT to ti t):=by
 have ho:=ho.h;have hi:=hi.h;constructor
 intro pins s σ H v u Q I r h
 rw [ha]
 refine au (zM (bf (ho pins s σ H _ I h) fun ov s1 ⟨x,H1,I1,r1,q1⟩=>?_))
 refine au (zM (bf (hi pins s1 σ H1 _ I1 q1) fun iv s2 ⟨y,H2,I2,r2,q2⟩=>?_))
 refine au (BF (au (zM (bf (hs pins s2 σ H2 x y v ov iv u _ I2 r1 r2 r q2) fun _ s3 ⟨H3,I3,q3⟩=>?_))))
 exact wpAny_release ⟨σ,H3,I3,q3⟩
theorem qb {st:Stmt}:bS X st XW:=by
 exact ⟨fun _ _ _ _ _ _ h=>h.elim⟩
theorem RO {j k:Nat} {x:Str} {C:Addr} {ps:List Str} {sp:Sp} {p pos:Pos} (D:Cn X.prog X.w X.K X.mg X.base j x C ps sp) (hr:dm k X.A) (hj:j+1<=k:=by decide) (hg:Gl X x:=by rfl) (hdb:(x==("__debug__":Str))=false:=by decide):bE X (.Call (.Name x p) [] [] pos) (HD C sp [] E0 rO):=by
 constructor
 obtain ⟨f,fd,F,b,M,m⟩:=D.ex
 exact Tg M F (hr.mono hj) hg m b .nil (fun _ _ _ _ _ _ _ h=>h.elim) hdb
theorem af (ha:bE X e te) (hr:bA X es t) (hs:starEach (e::es) X.env=(false,eval e X.env)::starEach es X.env:=by rfl):bA X (e::es) (HC te t):=⟨MU ha.h hr.h hs⟩
theorem aI (K:Fg) {e:Expr} {f:Str} {ta:TE} {pos:Pos} (he:bE X e ta) (hb:attributeBase e f X.env (eval e X.env)=eval e X.env:=by rfl) (hK:X.K=K:=by rfl):bE X (.Attribute e f pos) (Yk K ta f):=by
 have he:=he.h;exact ⟨hK▸Yn he hb⟩
theorem D4 {op:CmpOp} {r:R2} (ho:iL X (compareOp op) r) (ha:bE X a ta) (hb:bE X b tb) (hm:behindInMarks op b=false):bE X (.Compare a [op] [b] pos) (MP r ta tb):=by
 have ha:=ha.h;have hb:=hb.h;constructor
 intro pins s σ H Q I h
 exact wpAny_Compare1 (S4 ha hb I h fun v u s2 x y H2 I2 rx ry q=>ho pins s2 σ H2 x y v u Q I2 rx ry q) hm
theorem bR {j k:Nat} {x:Str} {ps:List Str} {sp:Sp} {e:Expr} {es:List Expr} {t:TA} {p pos:Pos} (D:Dn X.prog X.w X.K X.mg X.base j x ps sp) (hr:dm k X.A) (ha:bA X (e::es) t) (hj:j<=k:=by decide) (hg:Gl X x:=by rfl) (hdb:(x==("__debug__":Str))=false:=by decide) (he:starEach (e::es) X.env=(false,eval e X.env)::starEach es X.env:=by rfl) (hpl:(backTo pos (starEach es X.env)).any (·.1)=false:=by rfl):bE X (.Call (.Name x p) (e::es) [] pos) (OQ sp [] E0 t):=by
 have ha:=ha.h;constructor
 obtain ⟨f,fd,F,b,kp,m⟩:=D.ex
 exact MV F (hr.mono hj) hg m kp b .nil (fun _ _ _ _ _ _ _ h=>h.elim) ha hdb he hpl
theorem rE {rest:List Expr} (ha:bT X a tA) (hb:bW X (.BoolOp .And (b::rest) pos) U7):bW X (.BoolOp .And (a::b::rest) pos) (aeO tA U7):=by
 have ha:=ha.h;have hb:=hb.h;constructor
 intro wh pins s σ H Q I h
 refine isTrue_and (bf (ha pins s σ H _ I h) fun c s1 ⟨H1,I1,q1⟩=>?_)
 cases c with
 | true=>exact hb wh pins s1 σ H1 Q I1 q1
 | false=>exact ⟨H1,I1,q1⟩
section
variable {P:Program} {w:World} {K:Fg} {mg:SO} {base:Heap} {f C:Addr} {fd:FuncData} {N ps:List Str} {k:Nat} {sp:Sp} {x m qual:Str} {st:Stmt}
theorem dN {N P:List Str} {sc:Scope} (a:sc.kind = .function:=by rfl) (b:sc.isCoroutine=false:=by rfl) (c:sc.isGenerator=false:=by rfl) (d:N.Nodup:=by decide +kernel) (e:N.take P.length=P:=by rfl) (f:∀x∈P,sc.names.lookup x=some .local\/sc.names.lookup x=some .cell:=by decide +kernel) (g:∀y∈sc.names,y.2 ≠ .free:=by decide +kernel):aO N P sc:=⟨a,b,c,d,e,f,g⟩
theorem At.oA (F:At K mg x st f fd) (S:aO N ps (aC st))
  (hbody:∀(cdv:Value) (A:Around) (outer:List Env) (s:Shared) (H:Hp) (vs:List V) (Q:VK) (E:XK),dm k (A.deeper (envOfC x (aC st) s.heap.objs.size f cdv))->sp vs H Q E->
    ∃t,pO (cD sL P w K mg base N x (aC st) f cdv A outer s H E).Ai (cu st) t/\t { nx:=fun _ H'=>Q .bU H',rt:=Q } (start N vs) H)
  (len:∀vs H Q E,sp vs H Q E->vs.length=ps.length:=by intro vs H Q E h;first|(cases h.ex;subst_vars;rfl)|(have h:=h.ex;(repeat first|(obtain ⟨rfl,_⟩:=h;rfl)|(obtain ⟨_,h⟩:=h));done)|(repeat first|(obtain ⟨rfl,_⟩:=h;rfl)|(obtain ⟨_,h⟩:=h)))
  (h:∀(kV doc pm:Value) (an:Option Addr) (cdv ct:Value) (us:List Value),us.length=ps.length->bindArgs (PySem.W.fnOf x x (dY st) (cu st) (aC st) .none kV doc pm an cdv ct) ⟨us,[]⟩=pure (ps.zip us):=by intro _ _ _ _ _ _ us hl;repeat' (first|rfl|(simp at hl;done)|(rcases us with _|⟨_,us⟩))):Dn P w K mg base (k+1) x ps sp:=F.ok S len hbody h
theorem At.yg (F:At K mg x st f fd) (S:aO N ps (aC st))
  (hbody:∀(cdv:Value) (A:Around) (outer:List Env) (s:Shared) (H:Hp) (vs:List V) (Q:VK) (E:XK),dm k (A.deeper (envOfC x (aC st) s.heap.objs.size f cdv))->sp vs H Q E->
    ∃t,pO (cD (gf P w) P w K mg base N x (aC st) f cdv A outer s H E) (cu st) t/\t { nx:=fun _ H'=>Q .bU H',rt:=Q } (start N vs) H)
  (len:∀vs H Q E,sp vs H Q E->vs.length=ps.length:=by intro vs H Q E h;first|(cases h.ex;subst_vars;rfl)|(have h:=h.ex;(repeat first|(obtain ⟨rfl,_⟩:=h;rfl)|(obtain ⟨_,h⟩:=h));done)|(repeat first|(obtain ⟨rfl,_⟩:=h;rfl)|(obtain ⟨_,h⟩:=h)))
  (h:∀(kV doc pm:Value) (an:Option Addr) (cdv ct:Value) (us:List Value),us.length=ps.length->bindArgs (PySem.W.fnOf x x (dY st) (cu st) (aC st) .none kV doc pm an cdv ct) ⟨us,[]⟩=pure (ps.zip us):=by intro _ _ _ _ _ _ us hl;repeat' (first|rfl|(simp at hl;done)|(rcases us with _|⟨_,us⟩))):Dx P w K mg base (k+1) x ps sp:=F.ZI S len hbody h
theorem gJ.oA (F:gJ K C m qual st f fd) (S:aO N ps (aC st))
  (hbody:∀(cdv:Value) (A:Around) (outer:List Env) (s:Shared) (H:Hp) (vs:List V) (Q:VK) (E:XK),dm k (A.deeper (envOfC qual (aC st) s.heap.objs.size f cdv))->sp vs H Q E->
    ∃t,pO (cD sL P w K mg base N qual (aC st) f cdv A outer s H E).Ai (cu st) t/\t { nx:=fun _ H'=>Q .bU H',rt:=Q } (start N vs) H)
  (len:∀vs H Q E,sp vs H Q E->vs.length=ps.length:=by intro vs H Q E h;first|(cases h.ex;subst_vars;rfl)|(have h:=h.ex;(repeat first|(obtain ⟨rfl,_⟩:=h;rfl)|(obtain ⟨_,h⟩:=h));done)|(repeat first|(obtain ⟨rfl,_⟩:=h;rfl)|(obtain ⟨_,h⟩:=h)))
  (h:∀(kV doc pm:Value) (an:Option Addr) (cdv ct:Value) (us:List Value),us.length=ps.length->bindArgs (PySem.W.fnOf m qual (dY st) (cu st) (aC st) .none kV doc pm an cdv ct) ⟨us,[]⟩=pure (ps.zip us):=by intro _ _ _ _ _ _ us hl;repeat' (first|rfl|(simp at hl;done)|(rcases us with _|⟨_,us⟩))):Mn P w K mg base (k+1) C m ps sp:=F.ok S len hbody h
theorem gJ.yg (F:gJ K C m qual st f fd) (S:aO N ps (aC st))
  (hbody:∀(cdv:Value) (A:Around) (outer:List Env) (s:Shared) (H:Hp) (vs:List V) (Q:VK) (E:XK),dm k (A.deeper (envOfC qual (aC st) s.heap.objs.size f cdv))->sp vs H Q E->
    ∃t,pO (cD (gf P w) P w K mg base N qual (aC st) f cdv A outer s H E) (cu st) t/\t { nx:=fun _ H'=>Q .bU H',rt:=Q } (start N vs) H)
  (len:∀vs H Q E,sp vs H Q E->vs.length=ps.length:=by intro vs H Q E h;first|(cases h.ex;subst_vars;rfl)|(have h:=h.ex;(repeat first|(obtain ⟨rfl,_⟩:=h;rfl)|(obtain ⟨_,h⟩:=h));done)|(repeat first|(obtain ⟨rfl,_⟩:=h;rfl)|(obtain ⟨_,h⟩:=h)))
  (h:∀(kV doc pm:Value) (an:Option Addr) (cdv ct:Value) (us:List Value),us.length=ps.length->bindArgs (PySem.W.fnOf m qual (dY st) (cu st) (aC st) .none kV doc pm an cdv ct) ⟨us,[]⟩=pure (ps.zip us):=by intro _ _ _ _ _ _ us hl;repeat' (first|rfl|(simp at hl;done)|(rcases us with _|⟨_,us⟩))):Mx P w K mg base (k+1) C m ps sp:=F.ZI S len hbody h
theorem E5.oA (F:E5 K mg x C qual st f fd) (S:aO N ps (aC st))
  (hbody:∀(cdv:Value) (A:Around) (outer:List Env) (s:Shared) (H:Hp) (vs:List V) (Q:VK) (E:XK),dm k (A.deeper (envOfC qual (aC st) s.heap.objs.size f cdv))->sp vs H Q E->
    ∃t,pO (cD sL P w K mg base N qual (aC st) f cdv A outer s H E).Ai (cu st) t/\t { nx:=fun _ H'=>Q .bU H',rt:=Q } (start N vs) H)
  (len:∀vs H Q E,sp vs H Q E->vs.length=ps.length:=by intro vs H Q E h;first|(cases h.ex;subst_vars;rfl)|(have h:=h.ex;(repeat first|(obtain ⟨rfl,_⟩:=h;rfl)|(obtain ⟨_,h⟩:=h));done)|(repeat first|(obtain ⟨rfl,_⟩:=h;rfl)|(obtain ⟨_,h⟩:=h)))
  (h:∀(kV doc pm:Value) (an:Option Addr) (cdv ct:Value) (us:List Value),us.length=ps.length->bindArgs (PySem.W.fnOf "__init__" qual (dY st) (cu st) (aC st) .none kV doc pm an cdv ct) ⟨us,[]⟩=pure (ps.zip us):=by intro _ _ _ _ _ _ us hl;repeat' (first|rfl|(simp at hl;done)|(rcases us with _|⟨_,us⟩))):Cn P w K mg base (k+1) x C ps sp:=F.ok S len hbody h
end
inductive acd (e:Ec) (vs:List V) (H:Hp) (Q:VK) (E:XK):Prop
 | mk (a:Int) (_:vs=[.int a]) (_:(a<1->Rf e E H 5)) (_:(1<=a->Q .bU H))
def yY (e:Ec):Sp:=bx (acd e)
inductive ace (e:Ec) (vs:List V) (H:Hp) (Q:VK) (E:XK):Prop
 | mk (m a:Int) (_:vs=[.int m, .int a]) (_:(a<1->Rf e E H 5)) (_:(1<=a->m<a->Rf e E H 6)) (_:(1<=a->a<=m->Q .bU H))
def Jv (e:Ec):Sp:=bx (ace e)
inductive Uk (T:TC) (e:Ec) (vs:List V) (H:Hp) (Q:VK) (E:XK):Prop
 | mk (n ρ A st x a:_) (_:vs=[.ref A.a, .str x, .int a]) (_:HH T n ρ A H st) (_:Fv T e n ρ A H (i9 st (x,a)) (cS st (x,a)) Q E)
def Fx (T:TC) (e:Ec):Sp:=bx (Uk T e)
inductive ZR (T:TC) (e:Ec) (vs:List V) (H:Hp) (Q:VK) (E:XK):Prop
 | mk (n ρ A st x a:_) (_:vs=[.ref A.a, .str x, .int a]) (_:HH T n ρ A H st) (_:Fv T e n ρ A H (kN st x a:_) (HJ st x a:_) Q E)
def NC (T:TC) (e:Ec):Sp:=bx (ZR T e)
theorem ZS {P:Program} {w:World} {K:Fg} {mg:SO} {base:Heap} {k:Nat} {e:Ec} {ps:List Str} (D:Dx P w K mg base k "check_amount" ps (yY e)):Dn P w K mg base k "check_amount" ps abY:=
 D.dn fun vs H Q E h=>by
   obtain ⟨⟨a,rfl,h1,q⟩⟩:=h
   exact ⟨a,Z,fun z=>absurd z (by omega),fun _=>q⟩
theorem ZT {P:Program} {w:World} {K:Fg} {mg:SO} {base:Heap} {k:Nat} {e:Ec} {ps:List Str} (D:Dx P w K mg base k "check_loss" ps (Jv e)):Dn P w K mg base k "check_loss" ps Vr:=
 D.dn fun vs H Q E h=>by
   obtain ⟨⟨m,a,rfl,h1,h2,q⟩⟩:=h
   exact ⟨m,a,Z,fun z=>absurd z (by omega),fun _ z=>absurd z (by omega),fun _ _=>q⟩
theorem j6 {st:HS} {x:Str} (h:x∈eT st):∃(i:Nat) (p:Pt),st.aj[i]?=some p/\p.nm=x:=by
 obtain ⟨p,hp,e⟩:=bJ.mp h
 obtain ⟨i,hi,ei⟩:=wK hp
 exact ⟨i,p,by rw [bu hi,ei],e⟩
theorem z_ {st:HS} {i:Nat} {p:Pt} (h:st.aj[i]?=some p):p.nm∈eT st:=bJ.mpr ⟨p,bX h,Z⟩
theorem CK {α:Type} {nm:α->Str} {f:α->α}:∀{l:List α} {i:Nat} {p:α},(l.map nm).Nodup->l[i]?=some p->(l.map fun q=>if nm q=nm p then f q else q)=l.set i (f p)
 | [],_,_,_,h=>by simp at h
 | a::l,0,p,nd,h=>by
   have e:a=p:=by simpa using h
   subst e
   obtain ⟨h1,_⟩:=gI.mp (show (nm a::l.map nm).Nodup from nd)
   rw [bH,aB rfl,Oq]
   congr 1
   refine (m_ (g:=id) (fun q hq=>aA fun z=>h1 (bJ.mpr ⟨q,hq,z⟩))).trans (List.map_id l)
 | a::l,i+1,p,nd,h=>by
   obtain ⟨h1,h2⟩:=gI.mp (show (nm a::l.map nm).Nodup from nd)
   have h':l[i]?=some p:=by simpa using h
   rw [bH,aA (fun z=>h1 (bJ.mpr ⟨p,bX h',z.symm⟩)),HU,CK h2 h']
theorem qc {st:HS} (nd:(st.aj.map (·.nm)).Nodup) {i:Nat} {p:Pt} (h:st.aj[i]?=some p) (f:Pt->Pt):lV st p.nm f={ st with aj:=st.aj.set i (f p) }:=by
 unfold lV
 rw [CK (nm:=fun p:Pt=>p.nm) nd h]
theorem yZ {st:HS} (wf:Wf st) {x:Str} {f:Pt->Pt} (h:∀p∈st.aj,p.nm=x->(f p).nm=p.nm/\(f p).ow=p.ow/\(f p).sc=p.sc/\(f p).row=p.row/\1<=(f p).wo/\0<=(f p).we):Wf (lV st x f):=by
 have P:∀{M:Pt->Prop},(∀p∈st.aj,p.nm=x->M (f p))->(∀p∈st.aj,M p)->∀p∈(lV st x f).aj,M p:=fun a c p hp=>by
  obtain ⟨q,hq,rfl⟩:=bJ.mp (show p∈st.aj.map _ from hp)
  by_cases e:q.nm=x
  . rw [aB e];exact a q hq e
  . rw [aA e];exact c q hq
 have en:(lV st x f).aj.map (fun p:Pt=>p.nm)=st.aj.map (fun p:Pt=>p.nm):=by
  show (st.aj.map _).map _=_
  rw [c6]
  refine m_ fun p hp=>?_
  show (if p.nm=x then f p else p).nm=p.nm
  by_cases e:p.nm=x
  . rw [aB e];exact (h p hp e).1
  . rw [aA e]
 refine ⟨wf.l7,wf.xh,?_,P (fun p hp e=>?_) wf.sub,P (fun p hp e=>?_) wf.rows,P (fun p hp e=>?_) wf.ow,wf.fW,wf.l9,wf.eY,wf.mO,wf.rV,wf.jV,wf.xj,?_,wf.yI,wf.tX,wf.E7,wf.big,wf.nj,P (fun p hp e=>?_) wf.oK,P (fun p hp e=>?_) wf.mh,P (fun p hp e=>?_) wf.nq,P (fun p hp e=>?_) wf.jO,wf.DU⟩
 . show ((lV st x f).aj.map (fun p:Pt=>p.nm)).Nodup;rw [en];exact wf.dw
 . show (f p).nm∈st.nms;rw [(h p hp e).1];exact wf.sub p hp
 . rw [(h p hp e).2.2.2.1];exact wf.rows p hp
 . show (f p).ow∈st.own;rw [(h p hp e).2.1];exact wf.ow p hp
 . show (st.aj.map _).length<=1000;rw [aE];exact wf.l_
 . rw [(h p hp e).2.2.1];exact wf.oK p hp
 . rw [(h p hp e).2.2.2.1];exact wf.mh p hp
 . rw [(h p hp e).2.2.2.1,(h p hp e).2.2.1];exact wf.nq p hp
 . exact (h p hp e).2.2.2.2
theorem u0 {st:HS} {x:Str} {a:Int} (h:kN st x a=none):x∈eT st/\1<=a:=by
 unfold kN at h
 by_cases hm:x∈eT st
 . rw [aB hm] at h
   by_cases c:a<1
   . rw [aB c] at h;cases h
   . exact ⟨hm,by omega⟩
 . rw [aA hm] at h;cases h
structure Pn (st:HS):Prop where
 big:Jm.Sz 60 (aS st)
 prod:Jm.Sz 7900 st.prod
 bD:∀u∈st.bD,Jm.Sz 8900 u
 stp:st.stp.length<100
def kF (st:HS) (o:Str) (a:Int):List Int:=(List.replicate st.own.length 0).set (st.own.idxOf o) (a*st.prod)
inductive W_ (T:TC) (e:Ec) (vs:List V) (H:Hp) (Q:VK) (E:XK):Prop
 | mk (n ρ A st o a:_) (_:vs=[.ref A.a, .str o, .int a]) (_:HH T n ρ A H st) (_:Pn st) (_:Fv T e n ρ A H (jE st o a:_) (rC st o a:_) Q E)
def Jw (T:TC) (e:Ec):Sp:=bx (W_ T e)
theorem xG {st:HS} {o:Str} {a:Int} (h:jE st o a=none):o∈st.own/\1<=a/\a<aS st:=by
 unfold jE at h
 split at h
 . split at h
   . cases h
   . split at h
     . cases h
     . exact ⟨by assumption,by omega,by omega⟩
 . cases h
theorem Ul {st:HS} {o:Str} {a m:Int} (h:m∈kF st o a):m=0\/m=a*st.prod:=by
 rcases Ob h with z|z
 . exact .inl (List.eq_of_mem_replicate z)
 . exact .inr z
theorem Um (st:HS) (o:Str) (a:Int):(kF st o a).length=st.own.length:=by unfold kF;rw [iw,nX]
theorem Pn.blend {st:HS} {o:Str} {a:Int} (w:Pn st) (wf:Wf st) (h1:1<=a) (h2:a<aS st):p6 st (aS st-a) (aS st) a (kF st o a):=by
 have p1:=wf.eY
 refine ⟨by omega,by omega,by omega,by rw [Um,wf.fW],fun m hm=>?_,w.prod,w.big,w.bD,w.stp⟩
 have:0<=a*st.prod:=oh (by omega) (by omega)
 rcases Ul hm with z|z <;> omega
theorem Uo (n j:Nat):(List.replicate n (0:Int)).getD j 0=0:=by
 rw [iK,List.getElem?_replicate]
 split <;> rfl
inductive Xa (T:TC) (e:Ec) (vs:List V) (H:Hp) (Q:VK) (E:XK):Prop
 | mk (n ρ A st x y a we:_) (_:vs=[.ref A.a, .str x, .str y, .int a, .int we]) (_:HH T n ρ A H st) (_:y.cps.toList.length<=100000) (_:st.nms.length<1000) (_:st.aj.length<1000) (_:Fv T e n ρ A H (ig st x y a we:_) (kh st x y a we:_) Q E)
def Jx (T:TC) (e:Ec):Sp:=bx (Xa T e)
theorem jr {H:Hp} {a b:Addr} {o:HO} (h:upd H a o b=none):H b=none:=by
 by_cases z:b=a
 . rw [z,ah] at h;cases h
 . rw [az z] at h;exact h
theorem Up {st:HS} {y:Str} (h:newR st y=none):isNm y=true/\y∉st.nms:=by
 unfold newR at h
 split at h
 . split at h
   . cases h
   . exact ⟨by assumption,by assumption⟩
 . cases h
theorem j7 {st:HS} {x y:Str} {a we:Int} (h:ig st x y a we=none):x∈eT st/\(isNm y=true/\y∉st.nms)/\1<=a/\0<=we/\a<(bK st x).wo/\we<=(bK st x).we:=by
 unfold ig at h
 split at h
 . cases hf:newR st y with
   | some j=>rw [hf] at h;cases h
   | none=>
     rw [hf] at h
     have h':(if a<1\/we<0 then some 5 else if (bK st x).wo<=a\/(bK st x).we<we then some 6 else none)=none:=h
     split at h'
     . cases h'
     . split at h'
       . cases h'
       . exact ⟨by assumption,Up hf,by omega,by omega,by omega,by omega⟩
 . cases h
theorem Jy {st:HS} {x y:Str} {a we:Int} (wf:Wf st) (h:ig st x y a we=none) (h2:st.nms.length<1000) (h3:st.aj.length<1000):Wf (kh st x y a we):=by
 obtain ⟨hx,⟨_,hy⟩,h4,h5,h6,h7⟩:=j7 h
 obtain ⟨i,p0,ei,e0⟩:=j6 hx
 have hp:=bX ei
 have eg:=dM wf hp e0
 have w1:Wf (lV st x fun p=>{ p with wo:=p.wo-a,we:=p.we-we }):=yZ wf fun p gM e=>by
  rw [sZ wf gM hp (e.trans e0.symm)]
  rw [eg] at h6 h7
  exact ⟨Z,Z,Z,Z,by show 1<=p0.wo-a;omega,by show 0<=p0.we-we;omega⟩
 unfold kh
 rw [eg]
 exact Nm w1 hy h2 (by show (st.aj.map _).length<1000;rw [aE];exact h3) (wf.rows p0 hp) (wf.ow p0 hp) (wf.oK p0 hp) (wf.mh p0 hp) (wf.nq p0 hp) ⟨h4,h5⟩
theorem ZU {P:Program} {w:World} {K:Fg} {mg:SO} {base:Heap} {k:Nat} {T:TC} {e:Ec} {ps:List Str} (D:Mx P w K mg base k T.hold "check_new" ps (vB T e)):Mn P w K mg base k T.hold "check_new" ps (Cv T):=
 D.mn fun vs H Q E h=>by
   obtain ⟨⟨n,ρ,A,st,x,rfl,h,h1,h2,q⟩⟩:=h
   have hn:newR st x=none:=by unfold newR;rw [aB h1,aA h2]
   refine ⟨n,ρ,A,st,x,Z,h,fT (p7 h1) (by decide),fun i hi=>?_,fun _=>q⟩
   rw [hn] at hi;cases hi
inductive ZV (T:TC) (e:Ec) (vs:List V) (H:Hp) (Q:VK) (E:XK):Prop
 | mk (n ρ A st x o:_) (_:vs=[.ref A.a, .str x, .str o]) (_:HH T n ρ A H st) (_:∀p∈st.aj,(aY st p).sum=st.prod) (_:Fv T e n ρ A H (jY st x o:_) (fB st x o:_) Q E)
def ND (T:TC) (e:Ec):Sp:=bx (ZV T e)
theorem u6 {st:HS} {x o:Str} (h:jY st x o=none):x∈eT st/\o∈st.own:=by
 unfold jY at h
 split at h
 . split at h
   . exact ⟨by assumption,by assumption⟩
   . cases h
 . cases h
theorem Jz:∀{l:List Int},(∀t∈l,0<=t)->0<=l.sum/\∀t∈l,t<=l.sum
 | [],_=>⟨kI _,fun t h=>by cases h⟩
 | a::l,h=>by
   obtain ⟨h1,h2⟩:=Jz (l:=l) fun t ht=>h t (cC _ ht)
   have h0:=h a cL
   refine ⟨by show 0<=a+l.sum;omega,fun t ht=>?_⟩
   show t<=a+l.sum
   rcases bP.mp ht with rfl|ht
   . omega
   . have:=h2 t ht;omega
theorem VA {l:List Int} {i:Nat} {v:Int} (h:∀t∈l,0<=t) (hv:0<=v):∀t∈l.set i v,0<=t:=fun t ht=>by
 rcases Ob ht with z|z
 . exact h t z
 . rw [z];exact hv
theorem AZ {l:List Int} (h:∀t∈l,0<=t) (i:Nat):0<=l.getD i 0:=by
 rw [iK]
 cases e:l[i]? with
 | none=>exact kI _
 | some v=>exact h v (bX e)
def NF (l:List Int) (i j:Nat):List Int:=(l.set j (l.getD j 0+l.getD i 0)).set i 0
theorem D5 (l:List Int) (i j:Nat):(NF l i j).length=l.length:=by unfold NF;rw [iw,iw]
theorem Xb {l:List Int} {i j:Nat} (hi:i<l.length) (hj:j<l.length) (ne:i≠j):(NF l i j).sum=l.sum:=by
 unfold NF
 rw [sum_set _ _ _ (by rw [iw];exact hi),sum_set _ _ _ hj,TR _ _ _ _ hj,aA ne]
 omega
theorem Xc {l:List Int} {i j:Nat} (h:∀t∈l,0<=t):∀t∈NF l i j,0<=t:=
 VA (VA h (Int.add_nonneg (AZ h _) (AZ h _))) (kI _)
theorem JA {st:HS} {tops:List Int} (h:tops.length=st.bq.length):List.zipWith (fun r c=>(1:Int)*r+c) (kY st tops) st.bq=tops:=by
 unfold kY
 generalize st.bq=cs at h
 induction tops generalizing cs with
 | nil=>rfl
 | cons t ts ih=>
   cases cs with
   | nil=>cases h
   | cons c cs=>
     have:=ih cs (Nat.succ.inj h)
     show (1*(t-c)+c)::_=t::ts
     rw [this]
     congr 1
     omega
theorem CL {st:HS} (wf:Wf st) {p:Pt} (hp:p∈st.aj):(aY st p).length=st.own.length:=by
 unfold aY
 rw [kU,wf.rows p hp,wf.fW,wO]
def Aa (st:HS) (o:Str) (p:Pt):Pt:={ p with ow:=o,sc:=1,row:=kY st (lN st p o) }
theorem xH (st:HS) (p:Pt) (o:Str):lN st p o=NF (aY st p) (st.own.idxOf p.ow) (st.own.idxOf o):=rfl
theorem Fy {st:HS} (wf:Wf st) {p:Pt} (hp:p∈st.aj) (o:Str):aY st (Aa st o p)=lN st p o:=by
 have:(lN st p o).length=st.bq.length:=by rw [xH,D5,CL wf hp,wf.fW]
 exact JA this
theorem JB {st:HS} (wf:Wf st) {p:Pt} (hp:p∈st.aj) {o:Str} (ho:o∈st.own) (ne:st.own.idxOf o≠st.own.idxOf p.ow) (hs:(aY st p).sum=st.prod):(∀t∈lN st p o,0<=t/\t<=st.prod)/\(lN st p o).sum=st.prod:=by
 have hl:=CL wf hp
 have h1:st.own.idxOf p.ow<(aY st p).length:=by rw [hl];exact ym (wf.ow p hp)
 have h2:st.own.idxOf o<(aY st p).length:=by rw [hl];exact ym ho
 have hp0:=Xc (i:=st.own.idxOf p.ow) (j:=st.own.idxOf o) fun t ht=>(wf.nq p hp t ht).1
 have hsum:=(Xb h1 h2 (cO ne)).trans hs
 rw [xH]
 exact ⟨fun t ht=>⟨hp0 t ht,by rw [<-hsum];exact (Jz hp0).2 t ht⟩,hsum⟩
theorem NG {st:HS} {x o:Str} (wf:Wf st) (h:jY st x o=none) (hs:∀p∈st.aj,(aY st p).sum=st.prod):Wf (fB st x o):=by
 obtain ⟨hx,ho⟩:=u6 h
 obtain ⟨i,p0,ei,e0⟩:=j6 hx
 have hp:=bX ei
 have eg:=dM wf hp e0
 unfold fB
 by_cases ne:st.own.idxOf o=st.own.idxOf (bK st x).ow
 . rw [aB ne];exact wf
 rw [aA ne]
 rw [eg] at ne
 obtain ⟨ft,_⟩:=JB wf hp ho ne (hs p0 hp)
 have uq:∀p∈st.aj,p.nm=x->p=p0:=fun p gM e=>sZ wf gM hp (e.trans e0.symm)
 have P:∀{M:Pt->Prop},M (Aa st o p0)->(∀p∈st.aj,M p)->∀p∈(lV st x (Aa st o)).aj,M p:=fun a c p gM=>by
  obtain ⟨q,hq,rfl⟩:=bJ.mp (show p∈st.aj.map _ from gM)
  by_cases e:q.nm=x
  . rw [aB e,uq q hq e];exact a
  . rw [aA e];exact c q hq
 have hl:(lN st p0 o).length=st.own.length:=by rw [xH,D5,CL wf hp]
 have en:(lV st x (Aa st o)).aj.map (fun p:Pt=>p.nm)=st.aj.map fun p:Pt=>p.nm:=by
  show (st.aj.map _).map _=_
  rw [c6]
  refine m_ fun p _=>?_
  show (if p.nm=x then Aa st o p else p).nm=p.nm
  by_cases e:p.nm=x
  . rw [aB e];rfl
  . rw [aA e]
 have p1:=wf.eY
 refine ⟨wf.l7,wf.xh,?_,P (wf.sub p0 hp) wf.sub,P ?_ wf.rows,P ho wf.ow,wf.fW,wf.l9,wf.eY,wf.mO,wf.rV,wf.jV,wf.xj,?_,wf.yI,wf.tX,wf.E7,wf.big,wf.nj,P ⟨kI _,p1⟩ wf.oK,P ?_ wf.mh,P ?_ wf.nq,P (wf.jO p0 hp) wf.jO,wf.DU⟩
 . show ((lV st x (Aa st o)).aj.map (fun p:Pt=>p.nm)).Nodup
   rw [en];exact wf.dw
 . show (kY st (lN st p0 o)).length=st.own.length
   unfold kY;rw [kU,hl,wf.fW,wO]
 . show (st.aj.map _).length<=1000
   rw [aE];exact wf.l_
 . intro r hr
   obtain ⟨t,ht,c,hc,rfl⟩:=tZ (show r∈List.zipWith (fun t c=>t-c) (lN st p0 o) st.bq from hr)
   have a1:=ft t ht
   have a2:=wf.nj c hc
   exact ⟨by show -st.prod<=t-c;omega,by show t-c<=st.prod;omega⟩
 . intro t ht
   have:t∈lN st p0 o:=by rw [<-Fy wf hp];exact ht
   exact ft t this
theorem NH:∀{l m:List Int} {a b:Int},l.length=m.length->(∀j,l.getD j 0*a=m.getD j 0*b)->l.sum*a=m.sum*b
 | [],[],_,_,_,_=>by show (0:Int)*_=0*_;rw [uO,uO]
 | x::l,y::m,a,b,e,h=>by
   have h0:x*a=y*b:=h 0
   have:=NH (l:=l) (m:=m) (Nat.succ.inj e) fun j=>h (j+1)
   show (x+l.sum)*a=(y+m.sum)*b
   rw [oq,oq,h0,this]
theorem JC {q0 q1:Addr×Addr×Addr}:∀{ps:List Pt} {qs:List (Addr×Addr×Addr)} {i:Nat},qs[i]?=some q0->q1.1=q0.1->cj ps (qs.set i q1)=cj ps qs
 | [],_,_,_,_=>by simp [cj]
 | _::_,[],_,h,_=>by simp at h
 | p::ps,q::qs,0,h,e=>by
   have:q=q0:=by simpa using h
   subst this
   show (_,V.ref q1.1)::_=(_,V.ref q.1)::_
   rw [e]
 | p::ps,q::qs,i+1,h,e=>by
   have:=JC (ps:=ps) (qs:=qs) (i:=i) (q1:=q1) (by simpa using h) e
   show _::cj ps (qs.set i q1)=_::cj ps qs
   rw [this]
theorem aN.Uq {T:TC} {n:Nat} {ρ:dW} {A:HA} {H:Hp} {st:HS} (h:aN T n ρ A H st) (g:Gh ρ H) {i:Nat} {p0 p1:Pt} {q0:Addr×Addr×Addr} {r:Addr} (ep:st.aj[i]?=some p0) (eq:A.qs[i]?=some q0) (e1:p1.nm=p0.nm) (cr:ρ r=some (n,21,p0.nm)) (hr:H r=some (.lst (p1.row.map V.int))) (nd:(st.aj.map (·.nm)).Nodup):
  aN T n ρ { A with qs:=A.qs.set i (q0.1,q0.2.1,r) } (upd H q0.1 (.ins T.part q0.2.1 (cU p1 r))) { st with aj:=st.aj.set i p1 }:=by
 have c0:=(h.opt i p0 q0 ep eq).2.2.1
 have k:=ff (o:= .ins T.part q0.2.1 (cU p1 r)) g c0
 have ZW:=fun {b:Addr} {u:Nat} {y:Str} {w:HO}=>yG (H:=H) (o:= .ins T.part q0.2.1 (cU p1 r)) c0 (b:=b) (u:=u) (y:=y) (w:=w)
 obtain ⟨vs,h1,h2⟩:=h.pP
 obtain ⟨kvs,k1,k2,k3⟩:=h.okn
 refine ⟨kz k h.ca h.oa,h.ca,kz k h.iC h.iB,h.iC,?_,h.gc,⟨vs,kz k h.iO h1,h2.keep k (by decide)⟩,h.iO,kz k h.iP h.q_,h.iP,kz k h.iQ h.jv,h.iQ,kz k h.jf h.i6,h.jf,kz k h.cpu h.kM,h.cpu,kz k h.iR h.nQ,h.iR,⟨kvs,kz k h.iS k1,fun p hp=>let ⟨t,r,e,q⟩:=k2 p hp;⟨t,r,e,k.1 _ _ q⟩,k3⟩,h.iS,?_,?_⟩
 . show _=some (HO.dK (cj (st.aj.set i p1) (A.qs.set i (q0.1,q0.2.1,r))))
   rw [JC (q1:=(q0.1,q0.2.1,r)) eq rfl,z6 ep e1];exact kz k h.gc h.dF
 . show (A.qs.set i _).length=(st.aj.set i _).length
   rw [iw,iw];exact h.ql
 . intro j p q hp hq
   have hi:=(dS.mp ep).1
   have hi':=(dS.mp eq).1
   by_cases e:i=j
   . subst e
     rw [show ({ st with aj:=st.aj.set i p1 }:HS).aj=st.aj.set i p1 from rfl,pQ hi] at hp
     rw [show ({ A with qs:=A.qs.set i (q0.1,q0.2.1,r) }:HA).qs=A.qs.set i (q0.1,q0.2.1,r) from rfl,pQ hi'] at hq
     cases hp;cases hq
     exact ⟨ah,ZW cr (.inl (by decide)) hr,by rw [e1];exact c0,by rw [e1];exact cr⟩
   . rw [show ({ st with aj:=st.aj.set i p1 }:HS).aj=st.aj.set i p1 from rfl,yo e] at hp
     rw [show ({ A with qs:=A.qs.set i (q0.1,q0.2.1,r) }:HA).qs=A.qs.set i (q0.1,q0.2.1,r) from rfl,yo e] at hq
     obtain ⟨a1,a2,a3,a4⟩:=h.opt j p q hp hq
     exact ⟨ZW a3 (.inr fun z=>e (Cs nd ep hp z.symm)) a1,ZW a4 (.inl (by decide)) a2,a3,a4⟩
theorem JD {X:Cx}:X4 X (OU X.K):=by
 intro pins s σ H x y v u Q I rx ry h
 obtain ⟨p,xs,i,z,rfl,rfl,hq,he,q⟩:=h
 cases rx
 obtain ⟨t,rfl⟩:=ry
 obtain ⟨its,r,pl,hz⟩:=I.list hq
 obtain ⟨j,h1,h2,h3,h4,h5⟩:=zV he
 obtain ⟨w,ew,rw'⟩:=r.get h2
 have hl:=r.length
 have hn:=tN
 have fin:EP X pins σ Q w s:=⟨z,H,I,rw',q⟩
 by_cases h0:0<=i
 . have hj:i.toNat=j:=by
    rw [seqIndex_of h0 h5] at h1
    exact fH h1
   exact wpAny_getItem_list pl.isList h0 (by omega) (by rw [hj];simpa using ew) fin
 . have hj:(i+(its.toArray.size:Int)).toNat=j:=by
    rw [seqIndex_neg (by omega) h4] at h1
    rw [gH,<-hl]
    exact fH h1
   exact wpAny_getItem_list_neg pl.isList (by omega) (by rw [gH] <;> omega) (by omega) (by rw [hj];simpa using ew) fin
inductive RP (T:TC) (vs:List V) (H:Hp) (Q:VK) (E:XK):Prop
 | mk (n ρ A st:_) (i:Nat) (p:Pt) (_:vs=[.ref A.a, .str p.nm]) (_:HH T n ρ A H st) (_:st.aj[i]?=some p) (_:st.kn+100<=1000000) (_:∀r ws H',HH T n ρ A H' { st with kn:=st.kn+100 }->Fr n ρ H ρ H'->H r=none->H' r=some (.lst ws)->ρ r=none->i8 H' ws (kg st p:_)->Q (.ref r) H')
def xJ (T:TC):Sp:=bx (RP T)
structure Ur (st:HS):Prop where
 kn:st.kn+100<=1000000
 dj:st.dj.length<1000
 wo:∀p∈st.aj,Jm.Sz 60 p.wo
 prod:Jm.Sz 7900 st.prod
 bD:∀u∈st.bD,Jm.Sz 8900 u
inductive ZX (T:TC) (e:Ec) (vs:List V) (H:Hp) (Q:VK) (E:XK):Prop
 | mk (n ρ A st x:_) (_:vs=[.ref A.a, .str x]) (_:HH T n ρ A H st) (_:Ur st) (_:Fv T e n ρ A H (qI st x:_) (oR st x:_) Q E)
def NI (T:TC) (e:Ec):Sp:=bx (ZX T e)
theorem rF {st:HS} {x:Str} (h:qI st x=none):x∈eT st:=by
 unfold qI at h
 split at h
 . assumption
 . cases h
theorem Fr.acf {n:Nat} {ρ:dW} {H H':Hp} (f:Fr n ρ H ρ H') (g:Gh ρ H') {b:Addr} (h:H' b=none):H b=none:=by
 cases e:H b with
 | none=>rfl
 | some o=>
   have:=(f b o e fun t x z=>by rw [g.none h] at z;cases z).1
   rw [h] at this;cases this
theorem ua:∀{l:List Pt} {i:Nat} {p:Pt},(l.map (·.nm)).Nodup->l[i]?=some p->l.filter (fun q=>decide (q.nm≠p.nm))=l.eraseIdx i
 | [],_,_,_,h=>by simp at h
 | x::l,0,p,nd,h=>by
   obtain ⟨h1,h2⟩:=gI.mp (show (x.nm::l.map (·.nm)).Nodup from nd)
   have e:x=p:=by simpa using h
   subst e
   rw [ia,aA (by simp)]
   exact HN.mpr fun y hy=>a_ fun z=>h1 (bJ.mpr ⟨y,hy,z⟩)
 | x::l,i+1,p,nd,h=>by
   obtain ⟨h1,h2⟩:=gI.mp (show (x.nm::l.map (·.nm)).Nodup from nd)
   have h':l[i]?=some p:=by simpa using h
   rw [ia,aB (by simpa using fun z:x.nm=p.nm=>h1 (bJ.mpr ⟨p,bX h',z.symm⟩)),ua h2 h']
   rfl
def nv (st:HS) (p:Pt):List Int:=(eU st p).set (st.own.idxOf p.ow) ((eU st p).getD (st.own.idxOf p.ow) 0-p.wo*st.prod)
theorem Us {st:HS} (wf:Wf st) {p:Pt} (hp:p∈st.aj) {m:Nat} (h1:Jm.Sz 60 p.wo) (h2:Jm.Sz m st.prod) (h3:∀u∈st.bD,Jm.Sz (m+60) u):∀u∈eU st p,Jm.Sz (m+61) u:=fun u hu=>by
 obtain ⟨i,a,t,ea,et,rfl⟩:=uY (show u∈List.zipWith (fun u t=>u+p.wo*t) st.bD (aY st p) from hu)
 have ht:=wf.nq p hp t (bX et)
 have zt:Jm.Sz m t:=h2.of_le (by omega)
 exact (h3 a (bX ea)).kF ((h1.mul zt).mono (by omega))
theorem NJ {st:HS} (wf:Wf st) {p:Pt} (hp:p∈st.aj) {m:Nat} (h1:Jm.Sz 60 p.wo) (h2:Jm.Sz m st.prod) (h3:∀u∈st.bD,Jm.Sz (m+60) u):∀u∈nv st p,Jm.Sz (m+62) u:=fun u hu=>by
 have g:=Us wf hp h1 h2 h3
 rcases Ob (show u∈(eU st p).set _ _ from hu) with z|z
 . exact (g u z).mono (by omega)
 . rw [z]
   have z0:Jm.Sz (m+61) ((eU st p).getD (st.own.idxOf p.ow) 0):=by
    rw [iK]
    cases e:(eU st p)[st.own.idxOf p.ow]? with
    | none=>exact (by show Jm.Sz (m+61) 0;unfold Jm.Sz;exact Nat.pow_pos (by decide))
    | some y=>exact g y (bX e)
   have:=z0.kF (((h1.mul h2).mono (by omega:60+m<=m+61)).neg)
   rw [Int.sub_eq_add_neg]
   exact this
theorem y9 {st:HS} (wf:Wf st) {p:Pt} (hp:p∈st.aj):(eU st p).length=st.own.length:=by
 unfold eU
 rw [kU,CL wf hp,wf.l9,wO]
theorem uc {st:HS} (wf:Wf st) {p:Pt} (hp:p∈st.aj):oR st p.nm={ st with aj:=st.aj.filter (fun q=>decide (q.nm≠p.nm)),dj:=st.dj++[⟨p.nm,p.ow,p.wo,kg st p⟩],kn:=st.kn+100,bD:=nv st p }:=by
 unfold oR nv
 rw [dM wf hp rfl]
theorem NK {st:HS} {x:Str} (wf:Wf st) (h:qI st x=none) (l:Ur st):Wf (oR st x):=by
 obtain ⟨i,p,e1,rfl⟩:=j6 (rF h)
 have hp:=bX e1
 rw [uc wf hp]
 have S:∀{M:Pt->Prop},(∀x∈st.aj,M x)->∀x∈st.aj.filter (fun q=>decide (q.nm≠p.nm)),M x:=fun h x hx=>h x (wM.mp hx).1
 have hf:=List.length_filter_le (fun q:Pt=>decide (q.nm≠p.nm)) st.aj
 refine ⟨wf.l7,wf.xh,List.Nodup.sublist (List.Sublist.map _ List.filter_sublist) wf.dw,S wf.sub,S wf.rows,S wf.ow,wf.fW,?_,wf.eY,wf.mO,wf.rV,wf.jV,wf.xj,?_,wf.yI,?_,l.kn,wf.big,wf.nj,S wf.oK,S wf.mh,S wf.nq,S wf.jO,?_⟩
 . show (nv st p).length=_
   unfold nv
   rw [iw,y9 wf hp]
 . have:=wf.l_
   show (List.filter _ _).length<=1000
   omega
 . show (st.dj++[_]).length<=1000
   rw [dg]
   exact l.dj
 . exact fun u hu=>(NJ wf hp (m:=8840) (l.wo p hp) (l.prod.mono (by decide)) (fun u hu=>(l.bD u hu).mono (by decide)) u hu).mono (by decide)
inductive JE (c:Nat) (own:List Str) (sh:List (Str×Rat)):Prop
 | mk (JF:List Str) (tops:List Int) (b:Int) (_:JF <+:own) (_:JF.length=tops.length) (_:sh=E9 JF tops b) (_:∀t∈tops,0<=t) (_:tops.sum=b) (_:1<=b) (_:Jm.Sz (64*c+1) b)
theorem JE.mono {c c':Nat} {own own':List Str} {sh:List (Str×Rat)} (h:JE c own sh) (hc:c<=c') (ho:own <+:own'):JE c' own' sh:=by
 obtain ⟨o0,ts,b,h1,h2,h3,h4,h5,h6,h7⟩:=h
 exact ⟨o0,ts,b,h1.trans ho,h2,h3,h4,h5,h6,h7.mono (by omega)⟩
structure Go (c:Nat) (st:HS):Prop where
 bD:∀u∈st.bD,Jm.Sz (64*c+61) u
 stp:st.stp.length<=c
 prod:Jm.Sz (64*c+1) st.prod
 wo:∀p∈st.aj,p.wo<=1000000000000*((c:Int)+1)
 we:∀p∈st.aj,p.we<=1000000000
 pl:st.aj.length<=c
 kl:st.nms.length<=c
 ol:0<st.own.length
 nk:∀x∈st.nms,isNm x=true
 on:∀o∈st.own,isNm o=true
 sum:∀p∈st.aj,(aY st p).sum=st.prod
 al:st.dj.length<=c
 dj:∀a∈st.dj,JE c st.own a.sh
theorem Go.mono {c:Nat} {st:HS} (g:Go c st):Go (c+1) st:=
 ⟨fun u hu=>(g.bD u hu).mono (by omega),by have:=g.stp;omega,g.prod.mono (by omega),fun p hp=>by have:=g.wo p hp;omega,g.we,by have:=g.pl;omega,by have:=g.kl;omega,g.ol,g.nk,g.on,g.sum,by have:=g.al;omega,fun a ha=>(g.dj a ha).mono (by omega) (List.prefix_refl _)⟩
theorem NL:∀{ps:List Pt} {m:Int},(∀p∈ps,1<=p.wo/\p.wo<=m)->0<=(ps.map (·.wo)).sum/\(ps.map (·.wo)).sum<=m*(ps.length:Int)
 | [],m,_=>by show 0<=(0:Int)/\(0:Int)<=m*0;omega
 | p::ps,m,h=>by
   have h0:=h p cL
   have ih:=NL (ps:=ps) (m:=m) fun x hx=>h x (cC _ hx)
   rw [bH,c5,jP,show (((ps.length+1:Nat)):Int)=(ps.length:Int)+1 from by omega,uP,zP]
   omega
theorem Go.whole {c:Nat} {st:HS} (g:Go c st) (wf:Wf st) (hc:c<=91):0<=aS st/\Jm.Sz 60 (aS st):=by
 have h:=NL (ps:=st.aj) (m:=92000000000000) fun p hp=>⟨(wf.jO p hp).1,by have:=g.wo p hp;omega⟩
 have hl:=g.pl
 have h2:(92000000000000:Int)*(st.aj.length:Int)<=92000000000000*91:=by omega
 have h3:aS st<=92000000000000*91:=Int.le_trans h.2 h2
 have h1:0<=aS st:=h.1
 exact ⟨h1,(show Jm.Sz 60 (92000000000000*91:Int) from jC (by decide +kernel)).of_le (by omega)⟩
theorem Go.aw {c:Nat} {st:HS} (g:Go c st) (wf:Wf st) (hc:c<=91):Pn st:=⟨(g.whole wf hc).2,g.prod.mono (by omega),fun u hu=>(g.bD u hu).mono (by omega),by have:=g.stp;omega⟩
theorem Go.sz {c:Nat} {st:HS} (g:Go c st) (wf:Wf st) (hc:c<=91):∀p∈st.aj,Jm.Sz 60 p.wo:=fun p hp=>by
 have h:=g.wo p hp
 have h1:=(wf.jO p hp).1
 exact (show Jm.Sz 60 (92000000000000:Int) from jC (by decide +kernel)).of_le (by omega)
theorem Go.ld {c:Nat} {st:HS} (g:Go c st) (wf:Wf st) (hc:c<=91) (hk:st.kn+100<=1000000):Ur st:=
 ⟨hk,by have:=g.al;omega,g.sz wf hc,g.prod.mono (by omega),fun u hu=>(g.bD u hu).mono (by omega)⟩
theorem CM {c:Nat} {st:HS} (g:Go c st) {ps:List Pt} {ns:List Str} (h:∀p∈ps,(aY st p).sum=st.prod/\p.wo<=1000000000000*((c:Int)+2)/\p.we<=1000000000) (hl:ps.length<=c+1) (hn:ns.length<=c+1) (hk:∀x∈ns,isNm x=true):Go (c+1) { st with aj:=ps,nms:=ns }:=
 ⟨g.mono.bD,g.mono.stp,g.mono.prod,fun p hp=>by have:=(h p hp).2.1;omega,fun p hp=>(h p hp).2.2,hl,hn,g.ol,hk,g.on,fun p hp=>(h p hp).1,g.mono.al,g.mono.dj⟩
theorem Go.same {c:Nat} {st:HS} (g:Go c st) {ps:List Pt} (h:∀p'∈ps,∃p∈st.aj,p'.row=p.row/\p'.sc=p.sc/\p'.wo<=p.wo+1000000000000/\p'.we<=p.we) (hl:ps.length<=c+1):Go (c+1) { st with aj:=ps }:=
 CM g (ns:=st.nms) (fun p' gM=>by
  obtain ⟨p,hp,e1,e2,e3,e4⟩:=h p' gM
  have w:=g.wo p hp
  have v:=g.we p hp
  exact ⟨by have:=g.sum p hp;unfold aY at this ⊢;rw [e1,e2];exact this,by omega,by omega⟩) hl g.mono.kl g.nk
theorem JG {c:Nat} {st st':HS} {kept lost:Int} {added:List Int} (g:Go c st) (wf:Wf st) (bl:p6 st kept (aS st) lost added) (hs:added.sum=lost*st.prod) (hc:c<=90) (eC:st'={ bg st kept (aS st) added with aj:=st'.aj })
  (hp:∀p'∈st'.aj,∃p∈st.aj,p'.row=p.row/\p'.sc=p.sc*kept / cE st kept (aS st) added/\p'.wo<=p.wo/\p'.we=p.we) (hl:st'.aj.length<=st.aj.length):Go (c+1) st':=by
 have zw:=g.whole wf (by omega)
 obtain ⟨hd,hsw,_,_⟩:=bl.dvds
 have w1:0<aS st:=by have:=bl.k;have:=bl.l;have:=bl.w;omega
 have s1:1<=aS st / cE st kept (aS st) added:=by
  have:=Int.le_of_dvd w1 hsw
  exact Int.le_ediv_of_mul_le hd (by omega)
 have s2:aS st / cE st kept (aS st) added<=aS st:=Int.ediv_le_self _ (by omega)
 have zs:Jm.Sz 60 (aS st / cE st kept (aS st) added):=zw.2.of_le (by omega)
 have ep:st'.prod=(bg st kept (aS st) added).prod:=by rw [eC]
 have ec:st'.bq=(bg st kept (aS st) added).bq:=by rw [eC]
 have epr:st'.prod=st.prod*(aS st / cE st kept (aS st) added):=by rw [ep];unfold bg;rw [CC s1]
 have en:st'.nms=st.nms:=by rw [eC];show (bg st kept (aS st) added).nms=_;unfold bg;rw [uX]
 have eo:st'.own=st.own:=by rw [eC];show (bg st kept (aS st) added).own=_;unfold bg;rw [rA]
 have ea:st'.dj=st.dj:=by rw [eC];show (bg st kept (aS st) added).dj=_;unfold bg;rw [rB]
 have p1:=wf.eY
 have gm:=g.mono
 refine ⟨fun u hu=>?_,?_,?_,fun p' gM=>?_,fun p' gM=>?_,by have:=g.pl;omega,by rw [en];exact gm.kl,by rw [eo];exact g.ol,by rw [en];exact g.nk,by rw [eo];exact g.on,fun p' gM=>?_,by rw [ea];exact gm.al,by rw [ea,eo];exact gm.dj⟩
 . rw [eC] at hu
   have hu:u∈(bg st kept (aS st) added).bD:=hu
   unfold bg at hu
   rw [Fe] at hu
   obtain ⟨x,hx,rfl⟩:=bJ.mp hu
   exact ((g.bD x hx).mul zs).mono (by omega)
 . rw [eC]
   show (bg st kept (aS st) added).stp.length<=c+1
   unfold bg eE
   split
   . show (st.stp++[_]).length<=c+1
     rw [dg];have:=g.stp;show st.stp.length+1<=c+1;omega
   . exact gm.stp
 . rw [epr];exact (g.prod.mul zs).mono (by omega)
 . obtain ⟨p,h0,_,_,e3,_⟩:=hp p' gM
   have:=gm.wo p h0
   omega
 . obtain ⟨p,h0,_,_,_,e4⟩:=hp p' gM
   rw [e4];exact g.we p h0
 . obtain ⟨p,h0,e1,e2,_,_⟩:=hp p' gM
   have tl:=xw wf h0
   have tl':(aY st' p').length=st.bq.length:=by
    unfold aY
    rw [kU,e1,wf.rows p h0,<-wf.fW,ec]
    unfold bg eW
    rw [Fd,aE,kU,bl.len];omega
   have r:=NH (l:=List.zipWith (fun t m=>t*kept+m) (aY st p) added) (m:=aY st' p') (a:=st'.prod) (b:=st.prod*aS st) (by rw [kU,tl,tl',bl.len];omega) fun j=>by
    rw [t_ (f:=fun t m=>t*kept+m) (by show (0:Int)*_+0=0;omega) (by rw [tl,bl.len])]
    exact RI wf bl ec ep h0 e1 e2 (B:=st.prod) rfl rfl
   rw [Nv _ (by rw [tl,bl.len]),g.sum p h0,hs,qA lost,<-uP,<-bl.w,qA _ st'.prod] at r
   exact (Int.eq_of_mul_eq_mul_right (Int.ne_of_gt (Int.mul_pos (by omega) w1)) r).symm
theorem Fz:∀(rs:List Row) (s:HS),(∀r∈rs,1<=r.2)->∀p'∈(rs.foldl cS s).aj,∃p∈s.aj,∃w,p'={ p with wo:=w }/\w<=p.wo
 | [],s,_,p',h=>⟨p',h,p'.wo,Z,kI _⟩
 | r::rs,s,h1,p',h=>by
   obtain ⟨p,hp,w,e,le⟩:=Fz rs (cS s r) (fun x hx=>h1 x (cC _ hx)) p' h
   obtain ⟨_,q,hq,e2⟩:=xx hp
   have:=h1 r cL
   split at e2
   . subst e2
     have le:w<=q.wo-r.2:=le
     exact ⟨q,hq,w,e,by omega⟩
   . subst e2;exact ⟨p,hq,w,e,le⟩
theorem FD:∀(rs:List Row) (s:HS),(rs.foldl cS s).aj.length<=s.aj.length
 | [],s=>aK _
 | r::rs,s=>by
   have:=FD rs (cS s r)
   have h:=sS (ps:=s.aj) (x:=r.1) (a:=r.2) |>.length_le
   rw [aE,aE] at h
   exact fT this h
theorem A0 (k:Int):∀{xs ts:List Int},xs.length=ts.length->(List.zipWith (fun x t=>x+k*t) xs ts).sum=xs.sum+k*ts.sum
 | [],[],_=>by simp
 | x::xs,t::ts,h=>by
   rw [vj,c5,c5,c5,A0 k (by simpa using h),uP];omega
 | [],_::_,h=>by simp at h
 | _::_,[],h=>by simp at h
theorem FE {st:HS}:∀(rs:List Row) (acc:List Int),(∀r∈rs,(aY st (bK st r.1)).length=acc.length/\(aY st (bK st r.1)).sum=st.prod)->(xu st acc rs).sum=acc.sum+br rs*st.prod
 | [],acc,_=>by show acc.sum=acc.sum+0*_;omega
 | r::rs,acc,h=>by
   obtain ⟨h1,h2⟩:=h r cL
   have e:(List.zipWith (fun x t=>x+r.2*t) acc (aY st (bK st r.1))).length=acc.length:=by rw [kU,h1];omega
   show (xu st (List.zipWith (fun x t=>x+r.2*t) acc (aY st (bK st r.1))) rs).sum=_
   rw [FE rs _ (fun x hx=>by rw [e];exact h x (cC _ hx)),A0 _ h1.symm,h2,show br (r::rs)=r.2+br rs from by unfold br;rw [bH,c5],oq]
   omega
theorem ju {st:HS} {r:Row} (h:i9 st r=none):r.1∈eT st/\1<=r.2/\r.2<=(bK st r.1).wo:=by
 unfold i9 at h
 split at h
 . split at h
   . cases h
   . split at h
     . cases h
     . exact ⟨by assumption,by omega,by omega⟩
 . cases h
theorem u7 {st:HS} {rs:List Row} (h:sU st rs=none):rs≠[]/\(rs.map fun r:Row=>r.1).Nodup/\(∀r∈rs,i9 st r=none)/\br rs<aS st:=by
 unfold sU at h
 split at h
 . next c=>
   split at h
   . cases h
   . next e=>
     split at h
     . cases h
     . exact ⟨c.1,c.2,fun r hr=>List.findSome?_eq_none_iff.mp e r hr,by omega⟩
 . cases h
theorem Go.JH {c:Nat} {st:HS} (g:Go c st) (wf:Wf st) (hc:c<=91) {rs:List Row} (h:sU st rs=none):t8 st rs:=by
 obtain ⟨h1,h2,h3,h4⟩:=u7 h
 have aw:=g.aw wf hc
 refine ⟨h2,h1,?_,fun r hr=>?_,h4,aw.big,aw.prod,aw.bD,aw.stp⟩
 . have:=tS h2 (m:=eT st) (fun x hx=>by obtain ⟨r,hr,rfl⟩:=bJ.mp hx;exact (ju (h3 r hr)).1)
   rw [aE] at this
   unfold eT at this
   rw [aE] at this
   have:=g.pl
   omega
 . obtain ⟨a1,a2,a3⟩:=ju (h3 r hr)
   obtain ⟨i,p,e1,e2⟩:=j6 a1
   have hp:=bX e1
   rw [dM wf hp e2] at a3
   have:=g.sz wf hc p hp
   exact ⟨a2,this.of_le (by omega),p,hp,e2,a3⟩
def RQ:Dd->Prop
 | .load _ _ wo we=>wo<=1000000000000/\we<=1000000000
 | .rise _ a=>a<=1000000000000
 | _=>True
theorem NN {n i:Nat} {b:Int} (h:i<n):((List.replicate n (0:Int)).set i b).sum=b:=by
 have:=vA (l:=List.replicate n (0:Int)) (x:=b) (by rw [nX];exact h)
 rwa [Uo,Int.zero_add,Jk,Int.zero_add] at this
theorem Xd {c:Nat} {st:HS} (g:Go c st) (wf:Wf st) {x o:Str} {wo we:Int} (hx:isNm x=true) (ho:o∈st.own) (h1:wo<=1000000000000) (h2:we<=1000000000):Go (c+1) (HG st x o wo we):=by
 refine CM g (fun p hp=>?_) (by rw [dg];have:=g.pl;show st.aj.length+1<=_;omega) (by rw [dg];have:=g.kl;show st.nms.length+1<=_;omega) (fun y hy=>?_)
 . rcases gi.mp hp with z|z
   . have:=g.wo p z
     exact ⟨g.sum p z,by omega,g.we p z⟩
   . rw [fV.mp z]
     refine ⟨?_,by show wo<=_;omega,h2⟩
     unfold aY
     show (List.zipWith (fun r c=>(1:Int)*r+c) (kY st _) st.bq).sum=_
     rw [JA (by rw [iw,nX,wf.fW])]
     exact NN (ym ho)
 . rcases gi.mp hy with z|z
   . exact g.nk y z
   . rw [fV.mp z];exact hx
theorem Xe {c:Nat} {st:HS} (g:Go c st) (wf:Wf st) (hc:c<=90) {rs:List Row} (h:sU st rs=none):Go (c+1) (gR st rs):=by
 have ok:=g.JH wf (by omega) h
 have h1:∀r∈rs,1<=r.2:=fun r hr=>(ok.row r hr).1
 refine JG g wf (ok.blend wf) ?_ hc (nT rs _) (fun p' gM=>?_) ?_
 . have ex:∀r∈rs,∃p∈st.aj,p.nm=r.1:=fun r hr=>by obtain ⟨p,hp,e,_⟩:=(ok.row r hr).2.2;exact ⟨p,hp,e⟩
   rw [Fj wf ex,FE,Jk,Int.zero_add]
   intro r hr
   obtain ⟨p,hp,e⟩:=ex r hr
   rw [dM wf hp e,nX]
   exact ⟨xw wf hp,g.sum p hp⟩
 . obtain ⟨p1,hp1,w,rfl,le⟩:=Fz rs _ h1 p' gM
   unfold bg at hp1
   rw [nS] at hp1
   obtain ⟨p,hp,rfl⟩:=bJ.mp hp1
   exact ⟨p,hp,Z,Z,le,Z⟩
 . refine fT (FD rs _) ?_
   unfold bg
   rw [nS,aE]
   exact aK _
theorem Ut {c:Nat} {st:HS} (g:Go c st) (wf:Wf st) (hc:c<=90) {o:Str} {a:Int} (h:jE st o a=none):Go (c+1) (rC st o a):=by
 obtain ⟨ho,h1,h2⟩:=xG h
 refine JG g wf ((g.aw wf (by omega)).blend (o:=o) wf h1 h2) (NN (ym ho)) hc rfl (fun p' gM=>?_) ?_
 . have gM:p'∈(bg st _ _ _).aj:=gM
   unfold bg at gM
   rw [nS] at gM
   obtain ⟨p,hp,rfl⟩:=bJ.mp gM
   exact ⟨p,hp,Z,Z,kI _,Z⟩
 . show (bg st _ _ _).aj.length<=_
   unfold bg
   rw [nS,aE]
   exact aK _
theorem RS {st:HS} (wf:Wf st) {c:Nat} (g:Go c st) {p:Pt} (hp:p∈st.aj):JE c st.own (kg st p):=
 ⟨st.own,aY st p,st.prod,List.prefix_refl _,(CL wf hp).symm,Z,fun t ht=>(wf.nq p hp t ht).1,g.sum p hp,wf.eY,g.prod⟩
theorem Xf {c:Nat} {st:HS} (g:Go c st) (wf:Wf st) (hc:c<=91) {x:Str} (h:qI st x=none):Go (c+1) (oR st x):=by
 obtain ⟨i,p,e1,rfl⟩:=j6 (rF h)
 have hp:=bX e1
 rw [uc wf hp]
 have S:∀{M:Pt->Prop},(∀x∈st.aj,M x)->∀x∈st.aj.filter (fun q=>decide (q.nm≠p.nm)),M x:=fun h x hx=>h x (wM.mp hx).1
 have hf:=List.length_filter_le (fun q:Pt=>decide (q.nm≠p.nm)) st.aj
 have gm:=g.mono
 refine ⟨fun u hu=>?_,gm.stp,gm.prod,S gm.wo,S g.we,fT hf gm.pl,gm.kl,g.ol,g.nk,g.on,S g.sum,?_,fun a ha=>?_⟩
 . exact (NJ wf hp (m:=64*c+1) (g.sz wf hc p hp) g.prod (fun u hu=>(g.bD u hu).mono (by omega)) u hu).mono (by omega)
 . show (st.dj++[_]).length<=_
   rw [dg]
   have:=g.al
   show st.dj.length+1<=_
   omega
 . rcases gi.mp (show a∈st.dj++[_] from ha) with z|z
   . exact gm.dj a z
   . rw [fV.mp z]
     exact (RS wf g hp).mono (by omega) (List.prefix_refl _)
theorem Xg {c:Nat} {st:HS} (g:Go c st) (wf:Wf st) {o:Str} (h:isNm o=true):Go (c+1) (eO st o):=by
 have gm:=g.mono
 have P:∀p∈(eO st o).aj,∃p0∈st.aj,p={ p0 with row:=p0.row++[0] }:=fun p hp=>by
  obtain ⟨p0,h0,rfl⟩:=bJ.mp (show p∈st.aj.map _ from hp)
  exact ⟨p0,h0,Z⟩
 refine ⟨fun u hu=>?_,gm.stp,gm.prod,fun p hp=>?_,fun p hp=>?_,?_,gm.kl,?_,g.nk,fun x hx=>?_,fun p hp=>?_,gm.al,fun a ha=>(gm.dj a ha).mono (aK _) (List.prefix_append _ _)⟩
 . rcases gi.mp (show u∈st.bD++[0] from hu) with z|z
   . exact gm.bD u z
   . rw [fV.mp z]
     exact (show Jm.Sz 1 (0:Int) from jC (by decide +kernel)).mono (by omega)
 . obtain ⟨p0,h0,rfl⟩:=P p hp
   exact gm.wo p0 h0
 . obtain ⟨p0,h0,rfl⟩:=P p hp
   exact g.we p0 h0
 . show (st.aj.map _).length<=_
   rw [aE];exact gm.pl
 . show 0<(st.own++[o]).length
   rw [dg];exact kD g.ol (vm _ _)
 . rcases gi.mp (show x∈st.own++[o] from hx) with z|z
   . exact g.on x z
   . rw [fV.mp z];exact h
 . obtain ⟨p0,h0,rfl⟩:=P p hp
   show (List.zipWith (fun r c=>p0.sc*r+c) (p0.row++[0]) (st.bq++[0])).sum=st.prod
   rw [E8 _ (by rw [wf.rows p0 h0,wf.fW]),List.sum_append,show (List.zipWith (fun r c=>p0.sc*r+c) p0.row st.bq).sum=st.prod from g.sum p0 h0]
   simp
theorem xK {l:List Pt} {x:Str} {f:Pt->Pt} {p':Pt} (h:p'∈l.map fun p=>if p.nm=x then f p else p):∃p∈l,(p.nm=x/\p'=f p)\/p'=p:=by
 obtain ⟨p,hp,e⟩:=bJ.mp h
 by_cases c:p.nm=x
 . exact ⟨p,hp, .inl ⟨c,by rw [aB c] at e;exact e.symm⟩⟩
 . exact ⟨p,hp, .inr (by rw [aA c] at e;exact e.symm)⟩
theorem acg {c:Nat} {st:HS} (g:Go c st) (wf:Wf st) (hc:c<=90) {d:Dd} (hr:k_ st d=none) (db:RQ d):Go (c+1) (g_ st d):=by
 have hl:=g.pl
 cases d with
 | sign o=>
   have:xB st o=none:=hr
   unfold xB at this
   split at this
   . exact Xg g wf (by assumption)
   . cases this
 | load x o wo we=>
   obtain ⟨h1,_,h3,_,_⟩:=rD hr
   exact Xd g wf h1 h3 db.1 db.2
 | cast rs=>exact Xe g wf hc hr
 | award o a=>exact Ut g wf hc hr
 | mishap x a=>
   obtain ⟨_,h1,_⟩:=ju (show i9 st (x,a)=none from hr)
   have h1:1<=a:=h1
   refine g.same (ps:=jh st.aj x a) (fun p' gM=>?_) ?_
   . obtain ⟨_,p,hp,e⟩:=xx gM
     split at e
     . exact ⟨p,hp,by rw [e],by rw [e],by rw [e];show p.wo-a<=_;omega,by rw [e];exact kI _⟩
     . exact ⟨p,hp,by rw [e],by rw [e],by rw [e];omega,by rw [e];exact kI _⟩
   . have h:=sS (ps:=st.aj) (x:=x) (a:=a) |>.length_le
     rw [aE,aE] at h
     omega
 | rise x a=>
   have ha:a<=1000000000000:=db
   refine g.same (fun p' gM=>?_) (by rw [aE];omega)
   obtain ⟨p,hp,⟨_,e⟩|e⟩:=xK gM
   . exact ⟨p,hp,by rw [e],by rw [e],by rw [e];show p.wo+a<=_;omega,by rw [e];exact kI _⟩
   . exact ⟨p,hp,by rw [e],by rw [e],by rw [e];omega,by rw [e];exact kI _⟩
 | hand x o=>
   obtain ⟨hx,ho⟩:=u6 hr
   show Go (c+1) (fB st x o)
   unfold fB
   split
   . exact g.mono
   . next ne=>
     refine CM g (ns:=st.nms) (fun p' gM=>?_) (by rw [aE];omega) g.mono.kl g.nk
     obtain ⟨p,hp,⟨en,e⟩|e⟩:=xK gM
     . rw [dM wf hp en] at ne
       have:=g.wo p hp
       refine ⟨?_,by rw [e];show p.wo<=_;omega,by rw [e];exact g.we p hp⟩
       rw [e,show aY st { p with ow:=o,sc:=1,row:=kY st (lN st p o) }=_ from Fy wf hp o]
       exact (JB wf hp ho ne (g.sum p hp)).2
     . rw [e]
       have:=g.wo p hp
       exact ⟨g.sum p hp,by omega,g.we p hp⟩
 | land x=>exact Xf g wf (by omega) hr
 | sever x y a we=>
   obtain ⟨hx,hy,h1,h2,h3,h4⟩:=j7 hr
   obtain ⟨i,p0,e1,en⟩:=j6 hx
   have hp0:=bX e1
   have w0:=g.wo p0 hp0
   have v0:=g.we p0 hp0
   show Go (c+1) (kh st x y a we)
   unfold kh
   rw [dM wf hp0 en] at h3 h4 ⊢
   refine CM g (fun p' gM=>?_) (by rw [dg];show (List.map _ st.aj).length+1<=_;rw [aE];omega) (by rw [dg];have:=g.kl;show st.nms.length+1<=_;omega) (fun z hz=>?_)
   . rcases gi.mp gM with z|z
     . obtain ⟨p,hp,⟨_,e⟩|e⟩:=xK z
       . rw [e]
         have:=g.wo p hp
         have:=g.we p hp
         exact ⟨g.sum p hp,by show p.wo-a<=_;omega,by show p.we-we<=_;omega⟩
       . rw [e]
         have:=g.wo p hp
         exact ⟨g.sum p hp,by omega,g.we p hp⟩
     . rw [fV.mp z]
       exact ⟨g.sum p0 hp0,by show a<=_;omega,by show we<=_;omega⟩
   . rcases gi.mp hz with w|w
     . exact g.nk z w
     . rw [fV.mp w];exact hy.1
 | still=>exact g.mono
theorem ach {c:Nat} {st:HS} (g:Go c st) (wf:Wf st) (hc:c<=90) (hk:st.kn+100<=1000000) (ho:st.own.length<100) {d:Dd} (hr:k_ st d=none):Wf (g_ st d):=by
 have hl:=g.pl
 have hn:=g.kl
 cases d with
 | sign o=>
   have:xB st o=none:=hr
   unfold xB at this
   split at this
   . split at this
     . cases this
     . exact DX wf (by assumption) ho
   . cases this
 | load x o wo we=>
   obtain ⟨_,h2,h3,h4,h5⟩:=rD hr
   exact Np wf h2 (by omega) (by omega) h3 h4 h5
 | cast rs=>exact WU wf (g.JH wf (by omega) hr)
 | award o a=>
   obtain ⟨h0,h1,h2⟩:=xG hr
   exact xr wf ((g.aw wf (by omega)).blend (o:=o) wf h1 h2)
 | mishap x a=>
   obtain ⟨_,_,h1⟩:=ju (show i9 st (x,a)=none from hr)
   exact D0 wf fun p hp e=>by rw [dM wf hp e] at h1;exact h1
 | rise x a=>
   have h1:=(u0 (show kN st x a=none from hr)).2
   exact yZ wf fun q hq _=>⟨Z,Z,Z,Z,by have:=(wf.jO q hq).1;show 1<=q.wo+a;omega,(wf.jO q hq).2⟩
 | hand x o=>exact NG wf hr g.sum
 | land x=>exact NK wf hr (g.ld wf (by omega) hk)
 | sever x y a we=>exact Jy wf hr (by omega) (by omega)
 | still=>exact wf
theorem Xh (st:HS) (s:Int):(eE st s).kn<=st.kn:=by
 unfold eE
 split
 . exact gj _
 . exact aK _
theorem aci (st:HS) (d:Dd):(g_ st d).kn<=st.kn+100:=by
 cases d with
 | cast rs=>exact fT (WX st rs) (vm _ _)
 | award o a=>exact fT (Xh _ _) (vm _ _)
 | hand x o=>
   show (fB st x o).kn<=_
   unfold fB
   split <;> exact vm _ _
 | land x=>exact aK _
 | _=>exact vm _ _
structure LS where
 own:List Str
 aj:List Q4
 CN:List Str
structure LA where
 m:Addr
 lo:Addr
 lp:Addr
 lk:Addr
 qs:List Addr
def ji (B:LA):List (Key×V):=[(Sum.inr "owners", .ref B.lo),(Sum.inr "parts", .ref B.lp),(Sum.inr "known", .ref B.lk)]
def iu (q:Q4):List V:=[.str q.1, .str q.2.1, .int q.2.2.1, .int q.2.2.2]
def nx:Str:=⟨#[]⟩
structure bL (n:Nat) (ρ:dW) (B:LA) (H:Hp) (l:LS):Prop where
 om:H B.m=some (.dK (ji B))
 cm:ρ B.m=some (n,40,nx)
 oo:H B.lo=some (.lst (l.own.map V.str))
 co:ρ B.lo=some (n,41,nx)
 op:H B.lp=some (.lst (B.qs.map V.ref))
 cp:ρ B.lp=some (n,42,nx)
 ok:H B.lk=some (.lst (l.CN.map V.str))
 ck:ρ B.lk=some (n,43,nx)
 nd:B.qs.Nodup
 ql:B.qs.length=l.aj.length
 pt:∀(i:Nat) (q:Q4) (a:Addr),l.aj[i]?=some q->B.qs[i]?=some a->H a=some (.lst (iu q))/\ρ a=some (n,44,nx)
def dO (st:HS):LS:=⟨st.own,bz st,st.nms⟩
theorem bL.same {n:Nat} {ρ ρ':dW} {B:LA} {H H':Hp} {l:LS} (h:bL n ρ B H l) (k:Kp n ρ ρ' H H' fun _=>true):bL n ρ' B H' l:=by
 have z:=fun {b:Addr} {t:Nat} {x:Str} {o:HO} (c:ρ b=some (n,t,x)) (e:H b=some o)=>k.2 b t x o rfl c e
 exact ⟨(z h.cm h.om).1,(z h.cm h.om).2,(z h.co h.oo).1,(z h.co h.oo).2,(z h.cp h.op).1,(z h.cp h.op).2,(z h.ck h.ok).1,(z h.ck h.ok).2,h.nd,h.ql,fun i q a e1 e2=>let ⟨x,y⟩:=h.pt i q a e1 e2;z y x⟩
theorem bL.mono {n:Nat} {ρ:dW} {B:LA} {H H':Hp} {l:LS} (h:bL n ρ B H l) (s:aP H H'):bL n ρ B H' l:=h.same (Ng s)
theorem bL.other {n m:Nat} {ρ ρ':dW} {B:LA} {H H':Hp} {l:LS} (h:bL m ρ B H l) (f:Fr n ρ H ρ' H') (g:Gh ρ H) (e:m≠n):bL m ρ' B H' l:=
 h.same ⟨fun b xs q=>(f b _ q fun t x=>by rw [g.tup q];intro z;cases z).1,fun b t x o _ c q=>by
   obtain ⟨a,b'⟩:=f b o q fun t' x'=>by rw [c];intro z;cases z;exact e rfl
   exact ⟨a,b'.trans c⟩⟩
theorem bL.col {n t:Nat} {x:Str} {ρ:dW} {B:LA} {H:Hp} {l:LS} {a:Addr} (h:bL n ρ B H l) (c:ρ a=none):bL n (cR ρ a (n,t,x)) B H l:=
 h.same ⟨fun _ _ e=>e,fun b u y w _ hc he=>⟨he,by rw [cJ (fun z=>by rw [z,c] at hc;cases hc)];exact hc⟩⟩
theorem bL.find {n:Nat} {ρ:dW} {B:LA} {H:Hp} {l:LS} (h:bL n ρ B H l) {i:Nat} {q:Q4} (e:l.aj[i]?=some q):∃a,B.qs[i]?=some a/\H a=some (.lst (iu q))/\ρ a=some (n,44,nx):=by
 have hi:i<B.qs.length:=by rw [h.ql];exact (dS.mp e).1
 exact ⟨B.qs[i],bu hi,h.pt i q _ e (bu hi)⟩
theorem bL.iT {n:Nat} {ρ:dW} {B:LA} {H:Hp} {l:LS} (h:bL n ρ B H l) (g:Gh ρ H) {i:Nat} {a:Addr} (q1:Q4) (ea:B.qs[i]?=some a):bL n ρ B (upd H a (.lst (iu q1))) { l with aj:=l.aj.set i q1 }:=by
 have hi:i<l.aj.length:=by rw [<-h.ql];exact (dS.mp ea).1
 obtain ⟨x1,x2⟩:=h.pt i _ a (bu hi) ea
 have k:=ff (o:= .lst (iu q1)) g x2
 refine ⟨kz k h.cm h.om,h.cm,kz k h.co h.oo,h.co,kz k h.cp h.op,h.cp,kz k h.ck h.ok,h.ck,h.nd,by show _=(l.aj.set i q1).length;rw [iw];exact h.ql,fun j q b e1 e2=>?_⟩
 have e1:(l.aj.set i q1)[j]?=some q:=e1
 by_cases hj:i=j
 . subst hj
   rw [pQ hi] at e1
   rw [ea] at e2
   cases e1;cases e2
   exact ⟨ah,x2⟩
 . rw [yo hj] at e1
   obtain ⟨y1,y2⟩:=h.pt j q b e1 e2
   have hb:b≠a:=fun e=>hj ((OB (dS.mp ea).1 h.nd).mp (by rw [ea,e2,e]))
   exact ⟨by rw [az hb];exact y1,y2⟩
theorem bL.ZY {n:Nat} {ρ:dW} {B:LA} {H:Hp} {l:LS} (h:bL n ρ B H l) (g:Gh ρ H) {lp:Addr} {qs:List Addr} {ps:List Q4} (e:H lp=some (.lst (qs.map V.ref))) (c:ρ lp=some (n,42,nx)) (nd:qs.Nodup) (hl:qs.length=ps.length)
  (hp:∀(i:Nat) (q:Q4) (a:Addr),ps[i]?=some q->qs[i]?=some a->H a=some (.lst (iu q))/\ρ a=some (n,44,nx)):bL n ρ { { B with lp:=lp } with qs:=qs } (upd H B.m (.dK (ji { B with lp:=lp }))) { l with aj:=ps }:=by
 have k:=ff (o:= .dK (ji { B with lp:=lp })) g h.cm
 exact ⟨ah,h.cm,kz k h.co h.oo,h.co,kz k c e,c,kz k h.ck h.ok,h.ck,nd,hl,fun i q a e1 e2=>let ⟨x,y⟩:=hp i q a e1 e2;⟨kz k y x,y⟩⟩
theorem bL.RT {n:Nat} {ρ:dW} {B:LA} {H:Hp} {l:LS} (h:bL n ρ B H l) (g:Gh ρ H) {q:Q4} {a:Addr} (e:H a=some (.lst (iu q))) (c:ρ a=some (n,44,nx)) (hn:a∉B.qs):bL n ρ { B with qs:=B.qs++[a] } (upd H B.lp (.lst ((B.qs++[a]).map V.ref))) { l with aj:=l.aj++[q] }:=by
 have k:=ff (o:= .lst ((B.qs++[a]).map V.ref)) g h.cp
 refine ⟨kz k h.cm h.om,h.cm,kz k h.co h.oo,h.co,ah,h.cp,kz k h.ck h.ok,h.ck,nO h.nd hn,?_,fun i x y ex ey=>?_⟩
 . show (B.qs++[a]).length=(l.aj++[q]).length
   rw [dg,dg,h.ql];rfl
 . have ex:(l.aj++[q])[i]?=some x:=ex
   have ey:(B.qs++[a])[i]?=some y:=ey
   by_cases d:i<l.aj.length
   . rw [DB d] at ex
     rw [DB (by rw [h.ql];exact d)] at ey
     obtain ⟨a1,a2⟩:=h.pt i x y ex ey
     exact ⟨kz k a2 a1,a2⟩
   . have hi:i=l.aj.length:=by
      have:=(dS.mp ex).1
      rw [dg] at this
      have:i<l.aj.length+1:=this
      omega
     subst hi
     rw [HL (aK _),BJ] at ex
     rw [HL (by rw [h.ql];exact aK _),h.ql,BJ] at ey
     cases ex;cases ey
     exact ⟨kz k c e,c⟩
theorem bL.NO {n:Nat} {ρ:dW} {B:LA} {H:Hp} {l:LS} (h:bL n ρ B H l) (g:Gh ρ H) (ks:List Str):bL n ρ B (upd H B.lk (.lst (ks.map V.str))) { l with CN:=ks }:=by
 have k:=ff (o:= .lst (ks.map V.str)) g h.ck
 exact ⟨kz k h.cm h.om,h.cm,kz k h.co h.oo,h.co,kz k h.cp h.op,h.cp,ah,h.ck,h.nd,h.ql,fun i q a e1 e2=>let ⟨x,y⟩:=h.pt i q a e1 e2;⟨kz k y x,y⟩⟩
inductive ZZ (K:Fg) (H:Hp) (m:Addr) (st:HS):Prop
 | mk (kvs:List (Key×V)) (lo lp lk:Addr) (us:List V) (_:H m=some (.dK kvs)) (_:dG kvs (Sum.inr "owners")=some (.ref lo)) (_:dG kvs (Sum.inr "parts")=some (.ref lp)) (_:dG kvs (Sum.inr "known")=some (.ref lk)) (_:aH K H lo (st.own.map V.str)) (_:aH K H lp us) (_:t7 K H us st.aj) (_:aH K H lk (st.nms.map V.str))
theorem qd {st:HS} {i:Nat} {p:Pt} (h:st.aj[i]?=some p):(bz st)[i]?=some (p.nm,p.ow,p.wo,p.we):=by
 unfold bz
 rw [cg,h];rfl
theorem bL.rows {K:Fg} {n:Nat} {ρ:dW} {B:LA} {H:Hp} {st:HS} (h:bL n ρ B H (dO st)):t7 K H (B.qs.map V.ref) st.aj:=by
 refine ⟨by rw [aE,h.ql];show (bz st).length=_;unfold bz;rw [aE],fun i p e=>?_⟩
 obtain ⟨a,ea,k1,_⟩:=h.find (qd e)
 exact ⟨a,_,by rw [cg,ea];rfl, .inl (aH.of k1),Z,Z,Z,Z⟩
theorem bL.q {K:Fg} {n:Nat} {ρ:dW} {B:LA} {H:Hp} {st:HS} (h:bL n ρ B H (dO st)):ZZ K H B.m st:=
 ⟨_,B.lo,B.lp,B.lk,_,h.om,Z,Z,Z,aH.of h.oo,aH.of h.op,h.rows,aH.of h.ok⟩
def yh (st:HS):List Row:=st.aj.map fun p=>(p.nm,p.wo)
theorem t7.nw {K:Fg} {H:Hp} {us:List V} {st:HS} (h:t7 K H us st.aj):Pb K H us (yh st):=by
 refine ⟨by unfold yh;rw [aE];exact h.len,fun i r e=>?_⟩
 unfold yh at e
 rw [cg] at e
 obtain ⟨p,ep,rfl⟩:=lW.mp e
 obtain ⟨a,xs,e1,e2,e3,_,e5,_⟩:=h.at_ i p ep
 exact ⟨a,xs,e1,e2,e3,e5⟩
structure Nx (nms:List Str) (st:HS):Prop where
 t:st.nms=nms.take st.nms.length
 nd:nms.Nodup
 ok:∀x∈nms,isNm x=true
theorem Nx.next {nms:List Str} {st:HS} (h:Nx nms st) {x:Str} (e:nms[st.nms.length]?=some x):isNm x=true/\x∉st.nms/\∀st':HS,st'.nms=st.nms++[x]->Nx nms st':=by
 refine ⟨h.ok x (bX e),?_,fun st' e'=>⟨?_,h.nd,h.ok⟩⟩
 . rw [h.t]
   exact p5 h.nd e
 . rw [e',dg,show st.nms.length+[x].length=st.nms.length+1 from rfl,take_snoc e,<-h.t]
theorem Nx.keep {nms:List Str} {st st':HS} (h:Nx nms st) (e:st'.nms=st.nms):Nx nms st':=⟨by rw [e];exact h.t,h.nd,h.ok⟩
theorem RU {st:HS} {d:Dd} (h:d.k≠1) (h':d.k≠8):(g_ st d).nms=st.nms:=by
 cases d with
 | load=>exact absurd rfl h
 | sever=>exact absurd rfl h'
 | cast rs=>
   show (gR st rs).nms=_
   unfold gR
   rw [nT]
   show (bg st _ _ _).nms=_
   unfold bg
   rw [uX]
 | award o a=>
   show (bg st _ _ _).nms=_
   unfold bg
   rw [uX]
 | hand x o=>show (fB st x o).nms=_;unfold fB;split <;> rfl
 | _=>rfl
def Dd.pl:Dd->Bool
 | .sign _=>false | .load .. =>false | .sever .. =>false|_=>true
theorem Dd.Uu {d:Dd} (h:d.pl=true):d.k≠1/\d.k≠8/\d.k≠0:=by cases d <;> first|(exact Bool.noConfusion h)|(refine ⟨?_,?_,?_⟩ <;> simp [Dd.k])
theorem Po {st:HS} (wf:Wf st) {rs:List Row} (h:RE (yh st) rs) (hne:rs≠[]):sU st rs=none:=by
 have hl:br rs<aS st:=by
  rcases h.lost with z|z
  . have e:br (yh st)=aS st:=by unfold br yh aS;rw [c6];rfl
    rw [<-e];exact z
  . exact absurd z hne
 have hr:∀r∈rs,i9 st r=none:=fun r hr=>by
  obtain ⟨r1,_,w,hw,e,le⟩:=h.row r hr
  obtain ⟨p,hp,rfl⟩:=bJ.mp hw
  have e:p.nm=r.1:=e
  have le:r.2<=p.wo:=le
  unfold i9
  rw [aB (show r.1∈eT st from bJ.mpr ⟨p,hp,e⟩),aA (by omega),dM wf hp e,aA (by omega)]
 unfold sU
 rw [aB ⟨hne,h.nd⟩,List.findSome?_eq_none_iff.mpr hr]
 exact aA (by omega)
theorem Nx.pl {nms:List Str} {st:HS} (h:Nx nms st) (wf:Wf st):st.aj.length<=nms.length:=by
 have a:=tS (l:=st.aj.map (·.nm)) (m:=nms) wf.dw (fun x hx=>by
  obtain ⟨p,hp,rfl⟩:=bJ.mp hx
  have:=wf.sub p hp
  rw [h.t] at this
  exact List.mem_of_mem_take this)
 rwa [aE] at a
inductive acj (K:Fg) (vs:List V) (H:Hp) (Q:VK) (E:XK):Prop
 | mk (l:Addr) (us:List V) (rs:List Row) (_:vs=[.ref l]) (_:aH K H l us) (_:f7 H us rs) (_:rs.length<=1000) (_:∀z H',aP H H'->H' z=some (.tup (Dd.v (.cast rs)))->Q (.ref z) H')
def RV (K:Fg):Sp:=bx (acj K)
inductive Ab (nms:List Str) (st:HS) (d:Dd):Prop
 | mk (_:k_ st d=none) (_:yU d) (_:Nx nms (g_ st d)) (_:d.k≠0)
inductive ack (K:Fg) (vs:List V) (H:Hp) (Q:VK) (E:XK):Prop
 | mk (a m ln:Addr) (ns:List Int) (k:Int) (nms:List Str) (c:Nat) (st:HS) (_:vs=[.ref a, .int k, .ref m, .ref ln]) (_:aH K H a (ns.map V.int)) (_:ns.length<=63) (_:0<=k) (_:k<=1000000) (_:ZZ K H m st) (_:aH K H ln (nms.map V.str)) (_:Nx nms st) (_:nms.length<=50) (_:Wf st) (_:Go c st) (_:c<=90) (_:∀z d H',aP H H'->H' z=some (.tup (Dd.v d))->Ab nms st d->Q (.ref z) H')
def RW (K:Fg):Sp:=bx (ack K)
inductive RX (K:Fg) (vs:List V) (H:Hp) (Q:VK) (E:XK):Prop
 | mk (a m ln:Addr) (ns:List Int) (k way:Int) (nms:List Str) (c:Nat) (st:HS) (_:vs=[.ref a, .int k, .ref m, .ref ln, .int way]) (_:aH K H a (ns.map V.int)) (_:ns.length<=63) (_:0<=k) (_:k<=1000000) (_:ZZ K H m st) (_:aH K H ln (nms.map V.str)) (_:Nx nms st) (_:nms.length<=50) (_:Wf st) (_:Go c st) (_:c<=90) (_:0<st.aj.length) (_:∀z d H',aP H H'->H' z=some (.tup (Dd.v d))->Ab nms st d->Q (.ref z) H')
def CO (K:Fg):Sp:=bx (RX K)
def jH (ps:List Q4) (qs:List Addr):List Addr:=((List.zip ps qs).filter fun x=>decide (0<x.1.2.2.1)).map fun x=>x.2
theorem LH {ps:List Q4} {qs:List Addr} {i:Nat} {p:Q4} {a:Addr} (h1:ps[i]?=some p) (h2:qs[i]?=some a):jH (ps.take (i+1)) (qs.take (i+1))=jH (ps.take i) (qs.take i)++if 0<p.2.2.1 then [a] else [] :=by
 have l1:=(dS.mp h1).1
 have l2:=(dS.mp h2).1
 unfold jH
 rw [take_snoc h1,take_snoc h2,List.zip_append (by rw [nY,nY];omega),List.filter_append,bM]
 congr 1
 show List.map _ (List.filter _ [(p,a)])=_
 by_cases c:0<p.2.2.1
 . simp [c]
 . simp [c]
theorem CP:∀{ps:List Q4} {qs:List Addr},qs.length=ps.length->(jH ps qs).length=(ps.filter fun p=>decide (0<p.2.2.1)).length
 | [],[],_=>rfl
 | p::ps,a::qs,h=>by
   have ih:=CP (ps:=ps) (qs:=qs) (by simpa using h)
   unfold jH at ih ⊢
   rw [List.zip_cons_cons,ia,ia]
   by_cases c:0<p.2.2.1
   . rw [aB (a_ c),aB (a_ c),bH,jP,jP,ih]
   . rw [aA (by simpa using c),aA (by simpa using c),ih]
 | [],_::_,h=>by simp at h
 | _::_,[],h=>by simp at h
theorem y_:∀{ps:List Q4} {qs:List Addr} {i:Nat} {q:Q4} {a:Addr},qs.length=ps.length->(ps.filter fun p=>decide (0<p.2.2.1))[i]?=some q->(jH ps qs)[i]?=some a->∃j:Nat,ps[j]?=some q/\qs[j]?=some a
 | [],[],_,_,_,_,h,_=>by simp at h
 | p::ps,b::qs,i,q,a,hl,h1,h2=>by
   unfold jH at h2
   rw [List.zip_cons_cons,ia] at h2
   rw [ia] at h1
   by_cases c:0<p.2.2.1
   . rw [aB (a_ c)] at h1 h2
     rw [bH] at h2
     cases i with
     | zero=>exact ⟨0,by simpa using h1,by simpa using h2⟩
     | succ i=>
       obtain ⟨j,a1,a2⟩:=y_ (ps:=ps) (qs:=qs) (i:=i) (by simpa using hl) (by simpa using h1) (by simpa [jH] using h2)
       exact ⟨j+1,by simpa using a1,by simpa using a2⟩
   . rw [aA (by simpa using c)] at h1 h2
     obtain ⟨j,a1,a2⟩:=y_ (ps:=ps) (qs:=qs) (i:=i) (by simpa using hl) h1 h2
     exact ⟨j+1,by simpa using a1,by simpa using a2⟩
 | [],_::_,_,_,_,h,_,_=>by simp at h
 | _::_,[],_,_,_,h,_,_=>by simp at h
theorem xM:∀{ps:List Q4} {qs:List Addr},(jH ps qs).Sublist qs
 | [],_=>List.nil_sublist _
 | _::_,[]=>List.Sublist.refl _
 | p::ps,a::qs=>by
   unfold jH
   rw [List.zip_cons_cons,ia]
   by_cases c:0<p.2.2.1
   . rw [aB (a_ c),bH]
     exact List.Sublist.cons_cons _ xM
   . rw [aA (by simpa using c)]
     exact List.Sublist.cons _ xM
def Pp (l:LS):LS:={ l with aj:=l.aj.filter fun q=>decide (0<q.2.2.1) }
def lg (rs:List Row) (qs:List Q4):List Q4:=qs.map fun q=>(q.1,q.2.1,q.2.2.1-gu rs q.1,q.2.2.2)
def Uv (l:LS) (i:Nat) (p:Pt):Dd->LS
 | .mishap _ a=>{ l with aj:=l.aj.set i (p.nm,p.ow,p.wo-a,p.we) }
 | .rise _ a=>{ l with aj:=l.aj.set i (p.nm,p.ow,p.wo+a,p.we) }
 | .hand _ o=>{ l with aj:=l.aj.set i (p.nm,o,p.wo,p.we) }
 | .land _=>{ l with aj:=l.aj.set i (p.nm,p.ow,0,p.we) }
 | .sever _ y a we=>{ l with aj:=l.aj.set i (p.nm,p.ow,p.wo-a,p.we-we)++[(y,p.ow,a,we)],CN:=l.CN++[y] }
 | _=>l
def Dd.part:Dd->Option Str
 | .mishap x _=>some x
 | .rise x _=>some x
 | .hand x _=>some x
 | .land x=>some x
 | .sever x _ _ _=>some x
 | _=>none
theorem tE:∀{l:List Q4} {i:Nat} {q:Q4},(∀x∈l,0<x.2.2.1)->i<l.length->(l.set i q).filter (fun q=>decide (0<q.2.2.1))=if 0<q.2.2.1 then l.set i q else l.eraseIdx i
 | [],_,_,_,h=>by simp at h
 | x::l,0,q,hp,_=>by
   rw [Oq,ia,HN.mpr (fun y hy=>a_ (hp y (cC _ hy)))]
   by_cases c:0<q.2.2.1
   . rw [aB c,aB (a_ c)]
   . rw [aA c,aA (by simpa using c)];rfl
 | x::l,i+1,q,hp,h=>by
   rw [HU,ia,aB (a_ (hp x cL)),tE (fun y hy=>hp y (cC _ hy)) (by simpa using h)]
   by_cases c:0<q.2.2.1
   . rw [aB c,aB c]
   . rw [aA c,aA c];rfl
theorem FF {α β:Type} (f:α->β):∀(l:List α) (i:Nat),(l.eraseIdx i).map f=(l.map f).eraseIdx i
 | [],_=>rfl
 | _::_,0=>rfl
 | x::l,i+1=>by show f x::(l.eraseIdx i).map f=f x::(l.map f).eraseIdx i;rw [FF f l i]
theorem xN (st:HS) (i:Nat) (p:Pt):bz { st with aj:=st.aj.set i p }=(bz st).set i (p.nm,p.ow,p.wo,p.we):=oj
theorem CQ (st:HS) (i:Nat):bz { st with aj:=st.aj.eraseIdx i }=(bz st).eraseIdx i:=FF _ _ _
theorem LS.ext' {a b:LS} (h1:a.own=b.own) (h2:a.aj=b.aj) (h3:a.CN=b.CN):a=b:=by cases a;cases b;cases h1;cases h2;cases h3;rfl
theorem JI {st:HS} (wf:Wf st):∀x∈bz st,0<x.2.2.1:=fun x hx=>by
 obtain ⟨p,hp,rfl⟩:=bJ.mp hx
 exact (wf.jO p hp).1
theorem Uw {st:HS} (wf:Wf st) {d:Dd} {i:Nat} {p:Pt} (hr:k_ st d=none) (ep:st.aj[i]?=some p) (hd:d.part=some p.nm):Pp (Uv (dO st) i p d)=dO (g_ st d):=by
 have hp:=bX ep
 have hi:i<(bz st).length:=by unfold bz;rw [aE];exact (dS.mp ep).1
 have hP:=JI wf
 have eg:bK st p.nm=p:=dM wf hp rfl
 have w1:=(wf.jO p hp).1
 cases d with
 | mishap x a=>
   have e:x=p.nm:=fH hd
   subst e
   refine LS.ext' rfl ?_ rfl
   show ((bz st).set i _).filter _=bz { st with aj:=jh st.aj p.nm a }
   obtain ⟨_,h1,h2⟩:=ju (show i9 st (p.nm,a)=none from hr)
   rw [show (bK st (p.nm,a).1).wo=p.wo by rw [eg]] at h2
   have h1:1<=a:=h1
   have h2:a<=p.wo:=h2
   rw [tE hP hi,AS wf.dw (fun q hq=>by have:=(wf.jO q hq).1;omega) ep]
   show (if 0<p.wo-a then _ else _)=_
   by_cases c:p.wo-a=0
   . rw [aA (by omega),aB c,CQ]
   . rw [aB (by omega),aA c,xN]
 | rise x a=>
   have e:x=p.nm:=fH hd
   subst e
   have h1:=(u0 (show kN st p.nm a=none from hr)).2
   refine LS.ext' rfl ?_ rfl
   show ((bz st).set i _).filter _=bz (lV st p.nm _)
   rw [tE hP hi,qc wf.dw ep,xN]
   exact aB (by show 0<p.wo+a;omega)
 | hand x o=>
   have e:x=p.nm:=fH hd
   subst e
   have e1:(fB st p.nm o).own=st.own:=by unfold fB;split <;> rfl
   have e2:(fB st p.nm o).nms=st.nms:=by unfold fB;split <;> rfl
   refine LS.ext' e1.symm ?_ e2.symm
   show ((bz st).set i _).filter _=bz (fB st p.nm o)
   rw [tE hP hi]
   refine (aB (by show 0<p.wo;omega)).trans ?_
   unfold fB
   rw [eg]
   split
   . next c=>
     have ho:=(u6 (show jY st p.nm o=none from hr)).2
     have e3:o=p.ow:=by
      have a1:=yQ ho
      have a2:=yQ (wf.ow p hp)
      rw [c,a2] at a1
      exact (fH a1).symm
     rw [e3]
     exact rm (qd ep)
   . rw [qc wf.dw ep,xN]
 | land x=>
   have e:x=p.nm:=fH hd
   subst e
   refine LS.ext' rfl ?_ rfl
   show ((bz st).set i _).filter _=bz (oR st p.nm)
   rw [tE hP hi,uc wf hp,ua wf.dw ep]
   exact (aA (by show ¬ (0:Int)<0;omega)).trans (CQ st i).symm
 | sever x y a we=>
   have e:x=p.nm:=fH hd
   subst e
   obtain ⟨_,_,h1,_,h3,_⟩:=j7 (show ig st p.nm y a we=none from hr)
   rw [eg] at h3
   refine LS.ext' rfl ?_ rfl
   show ((bz st).set i _++[_]).filter _=bz (kh st p.nm y a we)
   unfold kh
   rw [eg,qc wf.dw ep,List.filter_append,tE hP hi]
   show (if 0<p.wo-a then _ else _)++_=List.map _ (st.aj.set i _++[_])
   rw [aB (by omega),bM]
   congr 1
   . exact (xN st i { p with wo:=p.wo-a,we:=p.we-we }).symm
   . show List.filter _ [((y,p.ow,a,we):Q4)]=[(y,p.ow,a,we)]
     rw [ia,aB (a_ (show 0<a by omega))];rfl
 | _=>exact absurd hd (by simp [Dd.part])
def afp (st:HS):Dd->LS
 | .load x o wo we=>{ dO st with aj:=bz st++[(x,o,wo,we)],CN:=st.nms++[x] }
 | .cast rs=>{ dO st with aj:=lg rs (bz st) }
 | _=>dO st
theorem xO {st:HS} (wf:Wf st) {d:Dd} (hr:k_ st d=none) (hd:d.part=none) (hs:d.k≠0):Pp (afp st d)=dO (g_ st d):=by
 have hP:=JI wf
 have all:(bz st).filter (fun q=>decide (0<q.2.2.1))=bz st:=HN.mpr fun x hx=>a_ (hP x hx)
 cases d with
 | load x o wo we=>
   obtain ⟨_,_,_,h4,_⟩:=rD hr
   refine LS.ext' rfl ?_ rfl
   show (bz st++[(x,o,wo,we)]).filter _=List.map _ (st.aj++[_])
   rw [List.filter_append,all,bM]
   congr 1
   show List.filter _ [((x,o,wo,we):Q4)]=[(x,o,wo,we)]
   rw [ia,aB (a_ (show 0<wo by omega))];rfl
 | cast rs=>
   obtain ⟨h1,h2,h3,h4⟩:=u7 hr
   refine LS.ext' (Jj st rs).symm ?_ (RU (d:= .cast rs) (by simp [Dd.k]) (by simp [Dd.k])).symm
   show oQ rs (bz st)=bz (gR st rs)
   unfold gR
   rw [CF,CD]
   refine (Fp rs (bz st) h2 (fun q hq=>hP q hq) (fun x hx q hq e=>?_)).symm
   obtain ⟨p,hp,rfl⟩:=bJ.mp hq
   have:=(ju (h3 x hx)).2.2
   rw [dM wf hp e] at this
   exact this
 | award o a=>
   refine LS.ext' ?_ ?_ ?_
   . show st.own=(bg st _ _ _).own;unfold bg;rw [rA]
   . show List.filter _ (bz st)=bz (bg st _ _ _);rw [CD,all]
   . show st.nms=(bg st _ _ _).nms;unfold bg;rw [uX]
 | still=>exact LS.ext' rfl all rfl
 | sign o=>exact absurd rfl hs
 | _=>exact absurd hd (by simp [Dd.part])
inductive acm (K:Fg) (vs:List V) (H:Hp) (Q:VK) (E:XK):Prop
 | mk (l:Addr) (own:List Str) (n:Nat) (ρ:dW) (_:vs=[.ref l]) (_:aH K H l (own.map V.str)) (_:Gh ρ H) (_:own.length<=1000) (_:∀ρ' B H',Gh ρ' H'->bL n ρ' B H' ⟨own,[],[]⟩->(∀b o,H b=some o->H' b=some o/\ρ' b=ρ b)->Q (.ref B.m) H')
def RY (K:Fg):Sp:=bx (acm K)
inductive Ux (K:Fg) (vs:List V) (H:Hp) (Q:VK) (E:XK):Prop
 | mk (n:Nat) (ρ:dW) (B:LA) (st:HS) (i:Nat) (p:Pt) (a z:Addr) (d:Dd) (_:vs=[.ref B.m, .ref a, .ref z]) (_:H z=some (.tup d.v)) (_:Gh ρ H) (_:bL n ρ B H (dO st)) (_:st.aj[i]?=some p) (_:B.qs[i]?=some a) (_:d.part=some p.nm) (_:st.aj.length<1000) (_:st.nms.length<1000) (_:∀ρ' B' H',Gh ρ' H'->bL n ρ' B' H' (Uv (dO st:_) i p d)->B'.m=B.m->Fr n ρ H ρ' H'->Q .bU H')
def FG (K:Fg):Sp:=bx (Ux K)
inductive Xi (K:Fg) (vs:List V) (H:Hp) (Q:VK) (E:XK):Prop
 | mk (n c:Nat) (ρ:dW) (B:LA) (st:HS) (z:Addr) (d:Dd) (_:vs=[.ref B.m, .ref z]) (_:H z=some (.tup d.v)) (_:Gh ρ H) (_:bL n ρ B H (dO st)) (_:Wf st) (_:Go c st) (_:c<=90) (_:k_ st d=none) (_:d.k≠0) (_:∀ρ' B' H',Gh ρ' H'->bL n ρ' B' H' (dO (g_ st d))->B'.m=B.m->Fr n ρ H ρ' H'->Q .bU H')
def JJ (K:Fg):Sp:=bx (Xi K)
inductive Xj (T:TC) (K:Fg) (vs:List V) (H:Hp) (Q:VK) (E:XK):Prop
 | mk (n c:Nat) (ρ:dW) (A:HA) (st:HS) (z:Addr) (d:Dd) (_:vs=[.ref A.a, .ref z]) (_:bN K H z d.v) (_:HH T n ρ A H st) (_:Go c st) (_:c<=90) (_:st.kn+100<=1000000) (_:st.own.length<100) (_:k_ st d=none) (_:uV T n ρ A H (g_ st d:_) fun H'=>Q .bU H')
def JK (T:TC) (K:Fg):Sp:=bx (Xj T K)
theorem Uy (B:LA) (l:Addr):putK (ji B) (Sum.inr "parts") (.ref l)=ji { B with lp:=l }:=rfl
theorem NP:∀{rs:List Row} {i:Nat} {r:Row},rs[i]?=some r->(fJ rs)[2*i]?=some (.str r.1)/\(fJ rs)[2*i+1]?=some (.int r.2)
 | [],_,_,h=>by simp at h
 | x::rs,0,r,h=>by
   have e:x=r:=by simpa using h
   subst e
   exact ⟨Z,Z⟩
 | x::rs,i+1,r,h=>by
   obtain ⟨a,b⟩:=NP (rs:=rs) (i:=i) (by simpa using h)
   rw [show 2*(i+1)=2*i+1+1 by omega]
   exact ⟨a,b⟩
theorem NQ {rs:List Row} {i:Nat} {r:Row} (h:rs[i]?=some r):(Dd.v (.cast rs))[1+2*i]?=some (.str r.1)/\(Dd.v (.cast rs))[2+2*i]?=some (.int r.2):=by
 obtain ⟨a,b⟩:=NP h
 rw [show 1+2*i=2*i+1 by omega,show 2+2*i=2*i+1+1 by omega]
 exact ⟨a,b⟩
theorem xP (rs:List Row):(Dd.v (.cast rs)).length=2*rs.length+1:=by show (fJ rs).length+1=_;rw [uZ]
theorem RZ (m:Nat):pX 1 ((2*m+1:Nat):Int) 2=m:=by
 unfold pX Builtin.Range.rangeSize
 rw [aB (by decide)]
 split <;> omega
theorem R0 {qs:List Q4} (nd:(qs.map fun q:Q4=>q.1).Nodup) {rs:List Row} {r:Row} {j:Nat} {q:Q4} (hq:qs[j]?=some q) (e:q.1=r.1) (h:r.1∉rs.map (fun r:Row=>r.1)):lg (rs++[r]) qs=(lg rs qs).set j (q.1,q.2.1,q.2.2.1-r.2,q.2.2.2)/\(lg rs qs)[j]?=some q:=by
 have hj:=(dS.mp hq).1
 constructor
 . refine List.ext_getElem? fun k=>?_
   by_cases c:j=k
   . subst c
     rw [pQ (by unfold lg;rw [aE];exact hj)]
     unfold lg
     rw [cg,hq]
     show some (q.1,q.2.1,q.2.2.1-gu (rs++[r]) q.1,q.2.2.2)=_
     rw [xA h,aB e.symm]
   . rw [yo c]
     unfold lg
     rw [cg,cg]
     cases ek:qs[k]? with
     | none=>rfl
     | some x=>
       show some (x.1,x.2.1,x.2.2.1-gu (rs++[r]) x.1,x.2.2.2)=some (x.1,x.2.1,x.2.2.1-gu rs x.1,x.2.2.2)
       rw [xA h,aA]
       intro z
       have r1:(qs.map fun q:Q4=>q.1)[k]?=some x.1:=by rw [cg,ek];rfl
       have r2:(qs.map fun q:Q4=>q.1)[j]?=some q.1:=by rw [cg,hq];rfl
       exact c ((OB (by rw [aE];exact hj) nd).mp (r2.trans (by rw [e,z];exact r1.symm)))
 . unfold lg
   rw [cg,hq]
   show some (q.1,q.2.1,q.2.2.1-gu rs q.1,q.2.2.2)=some q
   rw [e,xy h,Int.sub_zero,<-e]
theorem Uz (qs:List Q4):lg [] qs=qs:=by
 unfold lg
 rw [show (fun q:Q4=>(q.1,q.2.1,q.2.2.1-gu [] q.1,q.2.2.2))=id from funext fun q=>by rw [yR,Int.sub_zero];rfl,List.map_id]
theorem JL (rs:List Row) (qs:List Q4):(lg rs qs).length=qs.length:=by unfold lg;rw [aE]
theorem Pq (rs:List Row) (qs:List Q4):(lg rs qs).map (fun q:Q4=>q.1)=qs.map fun q:Q4=>q.1:=by unfold lg;rw [c6];rfl
theorem Pr (st:HS):(bz st).map (fun q:Q4=>q.1)=eT st:=by unfold bz eT;rw [c6];rfl
def zb (qs:List Q4):List Row:=qs.map fun q=>(q.1,q.2.2.1)
theorem FH (qs:List Q4):(zb qs).map (fun r:Row=>r.1)=qs.map fun q:Q4=>q.1:=by unfold zb;rw [c6];rfl
theorem bL.nw {K:Fg} {n:Nat} {ρ:dW} {B:LA} {H:Hp} {l:LS} (h:bL n ρ B H l):Pb K H (B.qs.map V.ref) (zb l.aj):=by
 refine ⟨by unfold zb;rw [aE,aE];exact h.ql,fun i r e=>?_⟩
 unfold zb at e
 rw [cg] at e
 obtain ⟨q,eq,rfl⟩:=lW.mp e
 obtain ⟨a,ea,k1,_⟩:=h.find eq
 exact ⟨a,_,by rw [cg,ea];rfl, .inl (aH.of k1),Z,Z⟩
theorem Dd.Z0 {d:Dd} {x:Str} (h:d.part=some x):d.v[1]?=some (.str x)/\d.k≠1/\d.k≠2/\d.k≠3/\d.k≠9:=by
 cases d <;> first|(cases h;refine ⟨rfl,?_,?_,?_,?_⟩ <;> simp [Dd.k])|(cases h)
theorem Xk {st:HS} {d:Dd} {x:Str} (h:d.part=some x) (hr:k_ st d=none):x∈eT st:=by
 cases d with
 | mishap y a=>cases h;exact (ju (show i9 st (x,a)=none from hr)).1
 | rise y a=>cases h;exact (u0 (show kN st x a=none from hr)).1
 | hand y o=>cases h;exact (u6 (show jY st x o=none from hr)).1
 | land y=>cases h;exact rF hr
 | sever y z a we=>cases h;exact (j7 (show ig st x z a we=none from hr)).1
 | _=>cases h
theorem UA (l:LS) (i:Nat) (p:Pt) (d:Dd):(Uv l i p d).aj.length<=l.aj.length+1:=by
 cases d <;> first|(show (List.set _ _ _).length<=_;rw [iw];omega)|(show (List.set _ _ _++[_]).length<=_;rw [dg,iw];exact aK _)|exact zQ _
def d9 (st:HS) (ds:List Dd):HS:=ds.foldl g_ st
inductive kG (H:Hp):List V->List Dd->Prop
 | nil:kG H [] []
 | cons {a:Addr} {d:Dd} {vs:List V} {ds:List Dd}:H a=some (.tup d.v)->kG H vs ds->kG H (.ref a::vs) (d::ds)
theorem kG.mono {H H':Hp} {vs:List V} {l:List Dd} (h:kG H vs l) (g:∀b xs,H b=some (.tup xs)->H' b=some (.tup xs)):kG H' vs l:=by
 induction h with
 | nil=>exact .nil
 | cons a _ ih=>exact .cons (g _ _ a) ih
theorem kG.length {H:Hp} {vs:List V} {l:List Dd} (h:kG H vs l):vs.length=l.length:=by
 induction h with
 | nil=>rfl
 | cons _ _ ih=>simp [ih]
theorem kG.get {H:Hp} {vs:List V} {l:List Dd} (h:kG H vs l):∀{i:Nat} {x:V},vs[i]?=some x->∃a d,x = .ref a/\l[i]?=some d/\H a=some (.tup d.v):=by
 induction h with
 | nil=>intro i x e;simp at e
 | @cons a r vs rs e0 _ ih=>
   intro i x e
   cases i with
   | zero=>simp at e;subst e;exact ⟨a,r,Z,Z,e0⟩
   | succ i=>simp at e;obtain ⟨a',r',e1,e2,e3⟩:=ih e;exact ⟨a',r',e1,by simpa using e2,e3⟩
theorem kG.snoc {H:Hp} {vs:List V} {l:List Dd} {a:Addr} {d:Dd} (h:kG H vs l) (e:H a=some (.tup d.v)):kG H (vs++[.ref a]) (l++[d]):=by
 induction h with
 | nil=>exact .cons e .nil
 | cons a _ ih=>exact .cons a ih
def sM (st:HS) (ds:List Dd):Prop:=∀(i:Nat) (d:Dd),ds[i]?=some d->k_ (d9 st (ds.take i)) d=none/\yU d/\d.k≠0
theorem sM.nil (st:HS):sM st [] :=fun i d h=>by simp at h
theorem sM.snoc {st:HS} {ds:List Dd} {d:Dd} (h:sM st ds) (h1:k_ (d9 st ds) d=none) (h2:yU d) (h3:d.k≠0):sM st (ds++[d]):=fun i x e=>by
 rcases Nat.lt_or_ge i ds.length with c|c
 . rw [DB c] at e
   rw [List.take_append_of_le_length (by omega)]
   exact h i x e
 . have hi:i=ds.length:=by
    have:=(dS.mp e).1
    rw [dg] at this
    have:i<ds.length+1:=this
    omega
   subst hi
   rw [HL (aK _),BJ] at e
   cases e
   rw [List.take_left']
   . exact ⟨h1,h2,h3⟩
   . rfl
theorem oU (st:HS) (ds:List Dd) (d:Dd):d9 st (ds++[d])=g_ (d9 st ds) d:=by unfold d9;rw [DM];rfl
theorem yU.g {d:Dd} (h:yU d):RQ d:=by
 cases d with
 | load x o wo we=>obtain ⟨_,_,⟨_,h1⟩,⟨_,h2⟩⟩:=h;exact ⟨by omega,h2⟩
 | rise x a=>obtain ⟨_,⟨_,h1⟩⟩:=h;show a<=_;omega
 | _=>exact True.intro
theorem R1 {st:HS} {d:Dd} (h:d.k≠0):(g_ st d).own=st.own:=by
 cases d with
 | sign o=>exact absurd rfl h
 | cast rs=>exact Jj st rs
 | award o a=>show (bg st _ _ _).own=_;unfold bg;rw [rA]
 | hand x o=>show (fB st x o).own=_;unfold fB;split <;> rfl
 | _=>rfl
structure GW (c m:Nat) (st:HS):Prop where
 g:Go c st
 wf:Wf st
 kn:st.kn<=m
theorem GW.do {c m:Nat} {st:HS} (h:GW c m st) (hc:c<=90) (hm:m+100<=1000000) (ho:st.own.length<100) {d:Dd} (hr:k_ st d=none) (hb:RQ d):GW (c+1) (m+100) (g_ st d):=
 ⟨acg h.g h.wf hc hr hb,ach h.g h.wf hc (by have:=h.kn;omega) ho hr,by have:=h.kn;have:=aci st d;omega⟩
theorem sM.go {c m:Nat} {st:HS} {ds:List Dd} (h:sM st ds) (g:GW c m st) (hc:c+ds.length<=91) (hm:m+100*ds.length<=1000000) (ho:st.own.length<100):∀i≤ds.length,GW (c+i) (m+100*i) (d9 st (ds.take i))/\(d9 st (ds.take i)).own=st.own:=by
 intro i
 induction i with
 | zero=>intro _;exact ⟨g,Z⟩
 | succ i ih=>
   intro hi
   obtain ⟨g1,e1⟩:=ih (by omega)
   have ei:=bu (show i<ds.length by omega)
   obtain ⟨h1,h2,h3⟩:=h i _ ei
   rw [take_snoc ei,oU]
   have:=g1.do (by omega) (by omega) (by rw [e1];exact ho) h1 h2.g
   exact ⟨by rw [show c+(i+1)=c+i+1 by omega,show m+100*(i+1)=m+100*i+100 by omega];exact this,by rw [R1 h3,e1]⟩
inductive Z1 (K:Fg) (vs:List V) (H:Hp) (Q:VK) (E:XK):Prop
 | mk (n c m:Nat) (ρ:dW) (B:LA) (st:HS) (a ln:Addr) (ns:List Int) (k:Int) (nms:List Str) (many:Nat) (_:vs=[.ref a, .int k, .ref B.m, .ref ln, .int (many:Int)]) (_:Gh ρ H) (_:bL n ρ B H (dO st)) (_:GW c m st) (_:c+many<=91) (_:m+100*many<=1000000) (_:st.own.length<100) (_:v5 K ρ H a (ns.map V.int)) (_:ns.length<=63) (_:0<=k) (_:k<=100000) (_:v5 K ρ H ln (nms.map V.str)) (_:Nx nms st) (_:nms.length<=50)
   (_:∀l zs ds ρ' B' H',Gh ρ' H'->bL n ρ' B' H' (dO (d9 st ds))->B'.m=B.m->Fr n ρ H ρ' H'->H' l=some (.lst zs)->ρ' l=none->kG H' zs ds->sM st ds->ds.length=many->Nx nms (d9 st ds)->Q (.ref l) H')
def NR (K:Fg):Sp:=bx (Z1 K)
def sN (sp:Sp):Sp:=fun vs H Q _=>sp vs H Q E0
theorem Mx.n {P:Program} {w:World} {K:Fg} {mg:SO} {base:Heap} {k:Nat} {C:Addr} {m:Str} {ps:List Str} {sp:Sp} (D:Mx P w K mg base k C m ps sp):Mn P w K mg base k C m ps (sN sp):=D.mn fun _ _ _ _ h=>h
theorem R3 {st:HS} {o:Str} (h:xB st o=none):isNm o=true/\o∉st.own:=by
 unfold xB at h
 split at h
 . split at h
   . cases h
   . exact ⟨by assumption,by assumption⟩
 . cases h
def fQ (own:List Str):HS:=own.foldl eO hs0
theorem FI:∀(l:List Str) (st:HS),Wf st->(st.own++l).Nodup->st.own.length+l.length<=100->Wf (l.foldl eO st)
 | [],_,w,_,_=>w
 | o::l,st,w,nd,hl=>by
   rw [kH]
   rw [jP] at hl
   have h1:o∉st.own:=fun m=>(List.nodup_append.mp nd).2.2 o m o cL rfl
   refine FI l (eO st o) (DX w h1 (by omega)) ?_ ?_
   . show ((st.own++[o])++l).Nodup
     rw [Ow];exact nd
   . show (st.own++[o]).length+l.length<=100
     rw [dg];show st.own.length+1+l.length<=100;omega
theorem gw0 {own:List Str} (nd:own.Nodup) (h0:0<own.length) (h1:own.length<=100) (hon:∀o∈own,isNm o=true):GW 0 0 (fQ own):=by
 obtain ⟨k1,k2,k3,k4,k5,k6⟩:=lM own hs0 rfl (fun u hu=>absurd hu (by simp [hs0]))
 have eo:(fQ own).own=own:=by unfold fQ;rw [uW];rfl
 have k1:(fQ own).aj=[] :=k1
 have k2:(fQ own).nms=[] :=k2
 have k3:(fQ own).stp=[] :=k3
 have k4:(fQ own).prod=1:=k4
 have k5:(fQ own).dj=[] :=k5
 have k6:∀u∈(fQ own).bD,u=0:=k6
 refine ⟨⟨fun u hu=>?_,by rw [k3];exact aK _,?_,fun p hp=>?_,fun p hp=>?_,by rw [k1];exact aK _,by rw [k2];exact aK _,by rw [eo];exact h0,fun x hx=>?_,by rw [eo];exact hon,fun p hp=>?_,by rw [k5];exact aK _,fun a ha=>?_⟩,FI own hs0 wf0 nd (by show 0+_<=_;omega),?_⟩
 . rw [k6 u hu];exact jC (by decide +kernel)
 . rw [k4];exact jC (by decide +kernel)
 . rw [k1] at hp;cases hp
 . rw [k1] at hp;cases hp
 . rw [k2] at hx;cases hx
 . rw [k1] at hp;cases hp
 . rw [k5] at ha;cases ha
 . rw [show (fQ own).kn=0 from Jl own hs0];exact aK _
theorem D6 (own:List Str):(fQ own).own=own:=by unfold fQ;rw [uW];rfl
theorem UB (own:List Str):dO (fQ own)=⟨own,[],[]⟩:=by
 obtain ⟨k1,k2,_⟩:=lM own hs0 rfl (fun u hu=>absurd hu (by simp [hs0]))
 have k1:(fQ own).aj=[] :=k1
 exact LS.ext' (D6 own) (by show List.map _ (fQ own).aj=[];rw [k1];rfl) k2
theorem Z2 {own nms:List Str} (nd:nms.Nodup) (h:∀x∈nms,isNm x=true):Nx nms (fQ own):=by
 obtain ⟨_,k2,_⟩:=lM own hs0 rfl (fun u hu=>absurd hu (by simp [hs0]))
 have k2:(fQ own).nms=[] :=k2
 exact ⟨by rw [k2];rfl,nd,h⟩
theorem kZ.get {ρ:dW} {H:Hp} {vs:List V} {l:List jN} (h:kZ ρ H vs l):∀{i:Nat} {x:V},vs[i]?=some x->∃r t y ss,x = .ref r/\l[i]?=some y/\H r=some (.tup [.str y.nm, .str y.ow, .int y.wo, .ref t])/\H t=some (.lst ss)/\ρ t=none/\i8 H ss y.sh:=by
 induction h with
 | nil=>intro i x e;simp at e
 | @cons r t y ss vs as a b c d _ ih=>
   intro i x e
   cases i with
   | zero=>simp at e;subst e;exact ⟨r,t,y,ss,Z,Z,a,b,c,d⟩
   | succ i=>simp at e;obtain ⟨r',t',y',ss',e1,e2,e3⟩:=ih e;exact ⟨r',t',y',ss',e1,by simpa using e2,e3⟩
def jj (st:HS) (i:Nat):Int:=(st.aj.map fun p=>p.wo*p.sc*p.row.getD i 0).sum+aS st*st.bq.getD i 0
def Ac (st:HS) (o:Str):Int:=((st.dj.filter fun a=>decide (a.ow=o)).map fun a=>a.wo).sum
def lu (st:HS) (o:Str):Rat:=Jm.fr (jj st (st.own.idxOf o)) st.prod
def lz (st:HS) (o:Str):Rat:=Jm.fr (st.bD.getD (st.own.idxOf o) 0) st.prod
def acn (st:HS) (o:Str):Rat:=Jm.fr (jj st (st.own.idxOf o)+st.bD.getD (st.own.idxOf o) 0+Ac st o*st.prod) st.prod
structure JM (st:HS):Prop where
 wf:Wf st
 wo:∀p∈st.aj,Jm.Sz 60 p.wo
 wh:Jm.Sz 60 (aS st)
 la:∀o,Jm.Sz 60 (Ac st o)
inductive R4 (T:TC) (vs:List V) (H:Hp) (Q:VK) (E:XK):Prop
 | mk (n ρ A st:_) (i:Nat) (_:vs=[.ref A.a, .int (i:Int)]) (_:aN T n ρ A H st) (_:JM st) (_:i<st.own.length) (_:∀H',aP H H'->Q (.int (jj st i)) H')
def CS (T:TC):Sp:=bx (R4 T)
inductive Xl (T:TC) (vs:List V) (H:Hp) (Q:VK) (E:XK):Prop
 | mk (n ρ A st o:_) (_:vs=[.ref A.a, .str o]) (_:aN T n ρ A H st) (_:JM st) (_:o∈st.own) (_:∀r H',aP H H'->H' r=some (tQ (lu st o))->Q (.ref r) H')
def JN (T:TC):Sp:=bx (Xl T)
inductive Z3 (T:TC) (vs:List V) (H:Hp) (Q:VK) (E:XK):Prop
 | mk (n ρ A st o:_) (_:vs=[.ref A.a, .str o]) (_:aN T n ρ A H st) (_:Wf st) (_:o∈st.own) (_:∀r H',aP H H'->H' r=some (tQ (lz st o))->Q (.ref r) H')
def NS (T:TC):Sp:=bx (Z3 T)
theorem getD_at {l:List Int} {i:Nat} (h:i<l.length):qV (l.map V.int) (i:Int)=some (.int (l.getD i 0)):=ay (by rw [cg,iK,bu h];rfl)
theorem FJ {l:List Int} {i:Nat} (h:i<l.length):l.getD i 0∈l:=by rw [iK,bu h];exact yq h
section
variable {X:Cx}
end
theorem FL {st:HS} (wf:Wf st) {i:Nat} (hi:i<st.own.length):jj st i=(st.aj.map fun p=>p.wo*(aY st p).getD i 0).sum:=by
 unfold jj aS
 have hc:=wf.fW
 have h:∀p∈st.aj,(aY st p).getD i 0=p.sc*p.row.getD i 0+st.bq.getD i 0:=fun p hp=>by
  unfold aY
  exact t_ (f:=fun r c=>p.sc*r+c) (by show p.sc*0+0=0;omega) (by rw [wf.rows p hp,hc]) i
 generalize st.bq.getD i 0=k at *
 revert h
 generalize st.aj=ps
 intro h
 induction ps with
 | nil=>show (0:Int)+0*k=0;omega
 | cons p ps ih=>
   have e:=h p cL
   have:=ih fun x hx=>h x (cC _ hx)
   rw [bH,bH,bH,c5,c5,c5,e,<-this]
   grind
theorem FN {st:HS} (wf:Wf st) {i:Nat} (hi:i<st.own.length):0<=jj st i:=by
 rw [FL wf hi]
 refine RM fun x hx=>?_
 obtain ⟨p,hp,rfl⟩:=bJ.mp hx
 have h1:=(wf.jO p hp).1
 have h2:=AZ (fun t ht=>(wf.nq p hp t ht).1) i
 exact oh (by omega) h2
theorem sum_rows {f:Pt->List Int} {n:Nat} {b:Int}:∀(ps:List Pt),(∀p∈ps,(f p).length=n/\(f p).sum=b)->((List.range n).map fun i=>(ps.map fun p=>p.wo*(f p).getD i 0).sum).sum=(ps.map fun p=>p.wo).sum*b
 | [],_=>by
   have:(List.range n).map (fun i=>(([] :List Pt).map fun p=>p.wo*(f p).getD i 0).sum)=(List.range n).map fun _=>(0:Int)*0:=by congr 1
   rw [this,qH];simp
 | p::ps,h=>by
   obtain ⟨h1,h2⟩:=h p cL
   have ih:=sum_rows ps fun x hx=>h x (cC _ hx)
   have e:(List.range n).map (fun i=>((p::ps).map fun p=>p.wo*(f p).getD i 0).sum)=(List.range n).map fun i=>(f p).getD i 0*p.wo+(ps.map fun p=>p.wo*(f p).getD i 0).sum:=by
    refine m_ fun i _=>?_
    rw [bH,c5,qA]
   rw [e,Av,qH,LF _ _ h1,ih,h2,bH,c5]
   grind
theorem R5 {st:HS} (wf:Wf st) (hs:∀p∈st.aj,(aY st p).sum=st.prod):((List.range st.own.length).map (jj st)).sum=aS st*st.prod:=by
 have e:(List.range st.own.length).map (jj st)=(List.range st.own.length).map fun i=>(st.aj.map fun p=>p.wo*(aY st p).getD i 0).sum:=m_ fun i hi=>FL wf (qy.mp hi)
 rw [e]
 exact sum_rows st.aj fun p hp=>⟨CL wf hp,hs p hp⟩
structure Mo (c:Nat) (st:HS):Prop where
 pz:st.bD.sum=0
 ao:∀a∈st.dj,a.ow∈st.own
 aw:∀a∈st.dj,1<=a.wo/\a.wo<=1000000000000*((c:Int)+1)
theorem Mo.mono {c:Nat} {st:HS} (m:Mo c st):Mo (c+1) st:=⟨m.pz,m.ao,fun a ha=>by have:=m.aw a ha;omega⟩
theorem JO {c:Nat} {st:HS} (m:Mo c st) (kept whole:Int) (added:List Int):Mo (c+1) (bg st kept whole added):=by
 unfold bg
 refine ⟨?_,?_,?_⟩
 . rw [Fe]
   show (st.bD.map fun x=>x*_).sum=0
   rw [qH (fun x=>x),List.map_id',m.pz,uO]
 . rw [rB,rA];exact m.ao
 . rw [rB];exact m.mono.aw
theorem UC {st:HS} (wf:Wf st) {p:Pt} (hp:p∈st.aj) (hs:(aY st p).sum=st.prod):(nv st p).sum=st.bD.sum:=by
 have e:=vA (l:=eU st p) (i:=st.own.idxOf p.ow) (x:=-(p.wo*st.prod)) (by rw [y9 wf hp];exact ym (wf.ow p hp))
 have e2:(eU st p).sum=st.bD.sum+p.wo*st.prod:=by
  unfold eU
  rw [A0 _ (by rw [CL wf hp,wf.l9]),hs]
 unfold nv
 rw [Int.sub_eq_add_neg,e,e2]
 omega
theorem aco {c:Nat} {st:HS} (m:Mo c st) (g:Go c st) (wf:Wf st) {d:Dd} (hr:k_ st d=none):Mo (c+1) (g_ st d):=by
 cases d with
 | sign o=>
   refine ⟨?_,fun a ha=>AD _ (m.ao a ha),m.mono.aw⟩
   show (st.bD++[0]).sum=0
   rw [List.sum_append,m.pz];rfl
 | cast rs=>
   show Mo (c+1) (gR st rs)
   unfold gR
   rw [nT]
   have:=JO m (aS st-br rs) (aS st) (iU st rs)
   exact ⟨this.pz,this.ao,this.aw⟩
 | award o a=>exact JO m _ _ _
 | hand x o=>show Mo (c+1) (fB st x o);unfold fB;split <;> exact ⟨m.pz,m.ao,m.mono.aw⟩
 | land x=>
   obtain ⟨i,p,e1,rfl⟩:=j6 (rF hr)
   have hp:=bX e1
   show Mo (c+1) (oR st p.nm)
   rw [uc wf hp]
   have S:∀{M:jN->Prop},(∀a∈st.dj,M a)->M ⟨p.nm,p.ow,p.wo,kg st p⟩->∀a∈st.dj++[⟨p.nm,p.ow,p.wo,kg st p⟩],M a:=fun h1 h2 a ha=>by
    rcases gi.mp ha with z|z
    . exact h1 a z
    . rw [fV.mp z];exact h2
   have w:=g.wo p hp
   exact ⟨by show (nv st p).sum=0;rw [UC wf hp (g.sum p hp),m.pz],S m.ao (wf.ow p hp),S m.mono.aw ⟨(wf.jO p hp).1,by show p.wo<=_;omega⟩⟩
 | _=>exact ⟨m.pz,m.ao,m.mono.aw⟩
theorem yi:∀{l:List jN} {m:Int} (f:jN->Bool),(∀a∈l,1<=a.wo/\a.wo<=m)->0<=((l.filter f).map fun a=>a.wo).sum/\((l.filter f).map fun a=>a.wo).sum<=m*(l.length:Int)
 | [],m,_,_=>by show 0<=(0:Int)/\(0:Int)<=m*0;omega
 | a::l,m,f,h=>by
   have h0:=h a cL
   have ih:=yi (l:=l) (m:=m) f fun x hx=>h x (cC _ hx)
   rw [ia,jP,show (((l.length+1:Nat)):Int)=(l.length:Int)+1 from by omega,uP,zP]
   by_cases c:f a=true
   . rw [aB c,bH,c5];omega
   . rw [aA c];omega
theorem Go.st {c:Nat} {st:HS} (g:Go c st) (m:Mo c st) (wf:Wf st) (hc:c<=91):JM st:=by
 refine ⟨wf,g.sz wf hc,(g.whole wf hc).2,fun o=>?_⟩
 have h:=yi (m:=92000000000000) (fun a:jN=>decide (a.ow=o)) fun a ha=>by have:=m.aw a ha;omega
 have hl:=g.al
 have h2:(92000000000000:Int)*(st.dj.length:Int)<=92000000000000*91:=by omega
 have h3:Ac st o<=92000000000000*91:=Int.le_trans h.2 h2
 have h1:0<=Ac st o:=h.1
 exact (show Jm.Sz 60 (92000000000000*91:Int) from jC (by decide +kernel)).of_le (by omega)
theorem UD {st:HS} (wf:Wf st) (hs:∀p∈st.aj,(aY st p).sum=st.prod) {i:Nat} (hi:i<st.own.length):jj st i<=aS st*st.prod:=by
 rw [<-R5 wf hs]
 exact (Jz (l:=(List.range st.own.length).map (jj st)) fun t ht=>by obtain ⟨j,hj,rfl⟩:=bJ.mp ht;exact FN wf (qy.mp hj)).2 _ (bJ.mpr ⟨i,qy.mpr hi,Z⟩)
theorem NT {c:Nat} {st:HS} (g:Go c st) (m:Mo c st) (wf:Wf st) (hc:c<=91) {o:Str} (ho:o∈st.own):Jm.QZ 6000 (lu st o)/\Jm.QZ 6000 (lz st o)/\Jm.QZ 6000 (acn st o):=by
 have hi:=ym ho
 have ok:=g.st m wf hc
 have p1:0<st.prod:=by have:=wf.eY;omega
 have zp:Jm.Sz 6000 st.prod:=g.prod.mono (by omega)
 have z1:Jm.Sz (60+(64*c+1)) (jj st (st.own.idxOf o)):=(ok.wh.mul g.prod).of_le (by have:=UD wf g.sum hi;have:=FN wf hi;omega)
 have z2:Jm.Sz (64*c+61) (st.bD.getD (st.own.idxOf o) 0):=g.bD _ (FJ (by rw [wf.l9];exact hi))
 have z3:=(ok.la o).mul g.prod
 have z4:=(z1.mono (show 60+(64*c+1)<=64*c+61 by omega)).kF z2
 have z5:=z4.kF (z3.mono (show 60+(64*c+1)<=64*c+61+1 by omega))
 exact ⟨Jm.OZ p1 (z1.mono (by omega)) zp,Jm.OZ p1 (z2.mono (by omega)) zp,Jm.OZ p1 (z5.mono (by omega)) zp⟩
theorem mo0 {own:List Str}:Mo 0 (fQ own):=by
 obtain ⟨_,_,_,_,k5,k6⟩:=lM own hs0 rfl (fun u hu=>absurd hu (by simp [hs0]))
 have k5:(fQ own).dj=[] :=k5
 have k6:∀u∈(fQ own).bD,u=0:=k6
 refine ⟨?_,(fun a ha=>by rw [k5] at ha;cases ha),fun a ha=>by rw [k5] at ha;cases ha⟩
 generalize (fQ own).bD=l at *
 induction l with
 | nil=>rfl
 | cons a l ih=>rw [c5,k6 a cL,ih fun u hu=>k6 u (cC _ hu)];rfl
section
variable {prog:Program} {w:World} {A:Around} {R:Result->Shared->Prop} {s:Shared}
end
section
variable {X:Cx}
end
section
variable {X:Cx}
end
section
variable {T:TC} {n m:Nat} {ρ ρ1:dW} {H H1:Hp} {A B:HA} {st s1:HS} {x:Addr}
end
section
variable {T:TC} {n m:Nat} {ρ ρ1:dW} {H H1:Hp} {A B:HA} {st s1:HS} {x:Addr}
end
def gQ (m:Int) (p:Pt):Pt:={ p with wo:=p.wo*m }
def R6 (m:Int) (a:jN):jN:={ a with wo:=a.wo*m }
def bV (m:Int) (st:HS):HS:={ st with aj:=st.aj.map (gQ m),dj:=st.dj.map (R6 m),bD:=st.bD.map (·*m) }
def oV (m:Int) (r:Row):Row:=(r.1,r.2*m)
def u9 (m:Int):Dd->Dd
 | .load x o wo we=> .load x o (wo*m) we
 | .cast rs=> .cast (rs.map (oV m))
 | .award o a=> .award o (a*m)
 | .mishap x a=> .mishap x (a*m)
 | .rise x a=> .rise x (a*m)
 | .sever x y a we=> .sever x y (a*m) we
 | d=>d
theorem UE {m:Int} (hm:0<m) (a b:Int):Jm.cf (a*m) (b*m)=Jm.cf a b*m:=by
 unfold Jm.cf
 rw [Int.gcd_mul_right,Int.natCast_mul,Int.natAbs_of_nonneg (BK hm)]
theorem CT {m:Int} (hm:0<m):∀(ts:List Int) (s:Int),jX (s*m) (ts.map (·*m))=jX s ts*m
 | [],s=>rfl
 | t::ts,s=>by
   show jX (Jm.cf (t*m) (s*m)) (ts.map (·*m))=jX (Jm.cf t s) ts*m
   rw [UE hm,CT hm ts]
theorem lP (m:Int) (st:HS) (x:Str):bK (bV m st) x=gQ m (bK st x):=by
 unfold bK
 show ((st.aj.map (gQ m)).find? _).getD _=_
 rw [List.find?_map]
 show (Option.map (gQ m) (st.aj.find? fun p=>decide (p.nm=x))).getD _=_
 cases st.aj.find? (fun p=>decide (p.nm=x)) with
 | none=>show (⟨x,x,0,0,1,[]⟩:Pt)=⟨x,x,0*m,0,1,[]⟩;rw [uO]
 | some p=>rfl
theorem sV (m:Int) {α:Type} (f:α->Int):∀l:List α,(l.map fun x=>f x*m).sum=(l.map f).sum*m
 | []=>by show (0:Int)=0*m;omega
 | a::l=>by rw [bH,bH,c5,c5,sV m f l,oq]
theorem mE (m:Int) (st:HS):aS (bV m st)=aS st*m:=by
 unfold aS
 show ((st.aj.map (gQ m)).map _).sum=_
 rw [c6]
 exact sV m (fun p:Pt=>p.wo) st.aj
theorem xQ (m:Int) (rs:List Row):br (rs.map (oV m))=br rs*m:=by
 unfold br
 rw [c6]
 exact sV m (fun r:Row=>r.2) rs
theorem Pu (m:Int) (st:HS) (p:Pt):aY (bV m st) (gQ m p)=aY st p:=rfl
theorem ze (m k:Int):∀(xs ys:List Int),List.zipWith (fun t u=>t*(k*m)+u) xs (ys.map (·*m))=(List.zipWith (fun t u=>t*k+u) xs ys).map (·*m)
 | [],_=>by simp
 | _::_,[]=>by simp
 | x::xs,y::ys=>by
   rw [bH,vj,vj,bH,ze m k xs ys]
   congr 1
   grind
theorem JP {m:Int} (hm:0<m) (st:HS) (kept whole:Int) (added:List Int):cE (bV m st) (kept*m) (whole*m) (added.map (·*m))=cE st kept whole added*m:=by
 unfold cE
 rw [<-CT hm,bM]
 congr 2
 . unfold gZ
   show (st.aj.map (gQ m)).map _=_
   rw [c6,c6]
   exact m_ fun p _=>by show p.sc*(kept*m)=p.sc*kept*m;rw [gY]
 . exact ze m kept st.bq added
theorem Pw (m:Int) (st:HS) (s:Int):eE (bV m st) s=bV m (eE st s):=by
 unfold eE
 split <;> rfl
theorem Aw {m:Int} (hm:0<m) (st:HS) (kept whole:Int) (added:List Int):bg (bV m st) (kept*m) (whole*m) (added.map (·*m))=bV m (bg st kept whole added):=by
 unfold bg
 rw [JP hm,Int.mul_ediv_mul_of_pos_left _ _ hm,<-Pw]
 congr 1
 show HS.mk _ _ _ _ _ _ _ _ _=HS.mk _ _ _ _ _ _ _ _ _
 congr 1
 . show (st.aj.map (gQ m)).map _=(st.aj.map _).map (gQ m)
   rw [c6,c6]
   refine m_ fun p _=>?_
   show Pt.mk _ _ _ _ (p.sc*(kept*m) / _) _=Pt.mk _ _ _ _ (p.sc*kept / _) _
   rw [<-gY,Int.mul_ediv_mul_of_pos_left _ _ hm]
   rfl
 . show (eW (bV m st) (kept*m) (added.map (·*m))).map _=(eW st kept added).map _
   rw [show eW (bV m st) (kept*m) (added.map (·*m))=(eW st kept added).map (·*m) from ze m kept st.bq added,c6]
   exact m_ fun c _=>Int.mul_ediv_mul_of_pos_left _ _ hm
 . show (st.bD.map (·*m)).map _=(st.bD.map _).map (·*m)
   rw [c6,c6]
   exact m_ fun u _=>by show u*m*_=u*_*m;grind
theorem LI {m:Int} (hm:0<m) (ps:List Pt) (x:Str) (a:Int):jh (ps.map (gQ m)) x (a*m)=(jh ps x a).map (gQ m):=by
 unfold jh
 have e:ps.map ((fun p:Pt=>if p.nm=x then { p with wo:=p.wo-a*m } else p) ∘ gQ m)=(ps.map fun p:Pt=>if p.nm=x then { p with wo:=p.wo-a } else p).map (gQ m):=by
  rw [c6]
  refine m_ fun p _=>?_
  show (if p.nm=x then { gQ m p with wo:=p.wo*m-a*m } else gQ m p)=gQ m (if p.nm=x then { p with wo:=p.wo-a } else p)
  by_cases c:p.nm=x
  . rw [aB c,aB c];unfold gQ;rw [Int.sub_mul]
  . rw [aA c,aA c]
 rw [c6,e,List.filter_map]
 congr 1
 refine List.filter_congr fun p _=>?_
 show decide (p.wo*m≠0)=decide (p.wo≠0)
 refine decide_eq_decide.mpr ⟨fun h z=>h (by rw [z,uO]),fun h z=>?_⟩
 rcases Int.mul_eq_zero.mp z with z|z
 . exact h z
 . omega
theorem CU {m:Int} (hm:0<m) (st:HS) (r:Row):cS (bV m st) (oV m r)=bV m (cS st r):=by
 unfold cS bV
 show HS.mk _ _ _ _ _ _ _ _ _=HS.mk _ _ _ _ _ _ _ _ _
 congr 1
 exact LI hm _ _ _
theorem CV {m:Int} (hm:0<m):∀(rs:List Row) (st:HS),(rs.map (oV m)).foldl cS (bV m st)=bV m (rs.foldl cS st)
 | [],_=>rfl
 | r::rs,st=>by
   show (rs.map (oV m)).foldl cS (cS (bV m st) (oV m r))=bV m (rs.foldl cS (cS st r))
   rw [CU hm,CV hm rs]
theorem xR (m k:Int):∀(xs ys:List Int),List.zipWith (fun old own=>old+k*m*own) (xs.map (·*m)) ys=(List.zipWith (fun old own=>old+k*own) xs ys).map (·*m)
 | [],_=>by simp
 | _::_,[]=>by simp
 | x::xs,y::ys=>by
   rw [bH,vj,vj,bH,xR m k xs ys]
   congr 1
   grind
theorem CW (m:Int) (st:HS):∀(rs:List Row) (acc:List Int),(rs.map (oV m)).foldl (d7 (bV m st)) (acc.map (·*m))=(rs.foldl (d7 st) acc).map (·*m)
 | [],_=>rfl
 | r::rs,acc=>by
   have e:d7 (bV m st) (acc.map (·*m)) (oV m r)=(d7 st acc r).map (·*m):=by
    unfold d7
    show List.zipWith (fun old own=>old+r.2*m*(bK (bV m st) r.1).sc*own) (acc.map (·*m)) (bK (bV m st) r.1).row=_
    rw [lP]
    show List.zipWith (fun old own=>old+r.2*m*(bK st r.1).sc*own) (acc.map (·*m)) (bK st r.1).row=_
    rw [<-xR]
    congr 1
    funext a b
    grind
   show (rs.map (oV m)).foldl (d7 (bV m st)) (d7 (bV m st) (acc.map (·*m)) (oV m r))=(rs.foldl (d7 st) (d7 st acc r)).map (·*m)
   rw [e,CW m st rs]
theorem LJ (m:Int) (st:HS) (rs:List Row):iU (bV m st) (rs.map (oV m))=(iU st rs).map (·*m):=by
 unfold iU
 rw [<-CW,xQ]
 congr 1
 show st.bq.map _=(st.bq.map _).map _
 rw [c6]
 exact m_ fun c _=>by show br rs*m*c=br rs*c*m;grind
theorem Px {m:Int} (hm:0<m) (st:HS) (rs:List Row):gR (bV m st) (rs.map (oV m))=bV m (gR st rs):=by
 unfold gR
 rw [mE,xQ,LJ,<-Int.sub_mul,Aw hm,CV hm]
theorem A1 (m:Int) (st:HS) (x:Str) (f g:Pt->Pt) (h:∀p,f (gQ m p)=gQ m (g p)):lV (bV m st) x f=bV m (lV st x g):=by
 unfold lV bV
 show HS.mk _ _ _ _ _ _ _ _ _=HS.mk _ _ _ _ _ _ _ _ _
 congr 1
 rw [c6,c6]
 refine m_ fun p _=>?_
 show (if p.nm=x then f (gQ m p) else gQ m p)=gQ m (if p.nm=x then g p else p)
 split
 . exact h p
 . rfl
theorem CY (m:Int) (st:HS) (p:Pt):qF (bV m st) (gQ m p)=bV m (qF st p):=by
 unfold qF bV
 show HS.mk _ _ _ _ _ _ _ _ _=HS.mk _ _ _ _ _ _ _ _ _
 congr 1
 rw [bM];rfl
theorem LK (m:Int) (st:HS) (p:Pt):eU (bV m st) (gQ m p)=(eU st p).map (·*m):=by
 unfold eU
 rw [Pu]
 show List.zipWith (fun u t=>u+p.wo*m*t) (st.bD.map (·*m)) _=_
 exact xR m p.wo _ _
theorem CZ (m:Int) (l:List Int) (i:Nat):(l.map (·*m)).getD i 0=l.getD i 0*m:=by
 rw [iK,iK,cg]
 cases l[i]? with
 | none=>show (0:Int)=0*m;omega
 | some x=>rfl
theorem Py (m:Int) (st:HS) (x:Str):oR (bV m st) x=bV m (oR st x):=by
 unfold oR
 rw [lP,LK,CZ]
 show HS.mk _ _ _ _ _ _ _ _ _=HS.mk _ _ _ _ _ _ _ _ _
 congr 1
 . show (st.aj.map (gQ m)).filter _=(st.aj.filter _).map (gQ m)
   rw [List.filter_map];rfl
 . show st.dj.map (R6 m)++[_]=(st.dj++[_]).map (R6 m)
   rw [bM];rfl
 . show ((eU st (bK st x)).map (·*m)).set _ _=((eU st (bK st x)).set _ _).map (·*m)
   rw [oj]
   congr 1
   show (eU st (bK st x)).getD (st.own.idxOf (bK st x).ow) 0*m-(bK st x).wo*m*st.prod=((eU st (bK st x)).getD (st.own.idxOf (bK st x).ow) 0-(bK st x).wo*st.prod)*m
   generalize (eU st (bK st x)).getD (st.own.idxOf (bK st x).ow) 0=g
   rw [Int.sub_mul,gY,gY,qA m]
theorem UG {m:Int} (hm:0<m) (st:HS) (d:Dd) (hd:d.k≠0):g_ (bV m st) (u9 m d)=bV m (g_ st d):=by
 cases d with
 | sign o=>exact absurd rfl hd
 | load x o wo we=>exact CY m st ⟨x,o,wo,we,1,_⟩
 | cast rs=>exact Px hm st rs
 | award o a=>
   show rC (bV m st) o (a*m)=bV m (rC st o a)
   unfold rC
   rw [mE,<-Int.sub_mul,<-Aw hm]
   congr 1
   rw [oj,List.map_replicate,uO]
   congr 1
   show a*m*st.prod=a*st.prod*m
   grind
 | mishap x a=>exact CU hm st (x,a)
 | rise x a=>exact A1 m st x _ _ fun p=>by unfold gQ;rw [oq]
 | hand x o=>
   show fB (bV m st) x o=bV m (fB st x o)
   unfold fB
   rw [lP]
   show (if st.own.idxOf o=st.own.idxOf (bK st x).ow then bV m st else _)=_
   split
   . rfl
   . exact A1 m st x _ _ fun p=>rfl
 | land x=>exact Py m st x
 | sever x y a we=>
   show kh (bV m st) x y (a*m) we=bV m (kh st x y a we)
   unfold kh
   rw [lP,<-CY]
   show qF _ _=qF _ _
   congr 1
   exact A1 m st x _ _ fun p=>by unfold gQ;rw [Int.sub_mul]
 | still=>rfl
inductive Pd:PyData->Nat->Prop
 | str {x:Str} {n:Nat}:PyData.strOk x=true->Pd (.str x) n
 | int {i:Int} {n:Nat}:Pd (.int i) n
 | list {ds:List PyData} {n:Nat}:(∀d∈ds,Pd d n)->Pd (.list ds) (n+1)
 | tuple {ds:List PyData} {n:Nat}:(∀d∈ds,Pd d n)->Pd (.tuple ds) (n+1)
theorem JQ:∀{ds:List PyData},(∀d∈ds,PyData.canLay0 d=true)->PyData.canLayAll0 ds=true
 | [],_=>rfl
 | d::r,h=>by
   unfold PyData.canLayAll0
   rw [h d cL,JQ fun d hd=>h d (cC _ hd)]
   rfl
theorem A3 {n:Nat}:∀{ds:List PyData},(∀d∈ds,PyData.depth d<=n)->PyData.depthAll ds<=n
 | [],_=>gj _
 | d::r,h=>by
   unfold PyData.depthAll
   have h1:=h d cL
   have h2:=A3 fun d hd=>h d (cC _ hd)
   omega
theorem JR:∀{ds:List PyData},(∀d∈ds,PyData.eqv d d=true)->PyData.eqvAll ds ds=true
 | [],_=>rfl
 | d::r,h=>by
   unfold PyData.eqvAll
   rw [h d cL,JR fun d hd=>h d (cC _ hd)]
   rfl
theorem Pd.facts {d:PyData} {n:Nat} (h:Pd d n):PyData.canLay0 d=true/\PyData.depth d<=n/\PyData.eqv d d=true:=by
 induction h with
 | str e=>exact ⟨by unfold PyData.canLay0;exact e,gj _,by unfold PyData.eqv;exact DN _⟩
 | int=>exact ⟨Z,gj _,by unfold PyData.eqv;exact DN _⟩
 | list _ ih=>
   refine ⟨?_,?_,?_⟩
   . unfold PyData.canLay0;exact JQ fun d hd=>(ih d hd).1
   . unfold PyData.depth
     have:=A3 fun d hd=>(ih d hd).2.1
     omega
   . unfold PyData.eqv;exact JR fun d hd=>(ih d hd).2.2
 | tuple _ ih=>
   refine ⟨?_,?_,?_⟩
   . unfold PyData.canLay0;exact JQ fun d hd=>(ih d hd).1
   . unfold PyData.depth
     have:=A3 fun d hd=>(ih d hd).2.1
     omega
   . unfold PyData.eqv;exact JR fun d hd=>(ih d hd).2.2
theorem Pd.shaped {d:PyData} {n:Nat} (h:Pd d n) (hn:n<=64):SeqAt.shaped d=true:=by
 unfold SeqAt.shaped
 rw [h.facts.1]
 exact a_ (fT h.facts.2.1 hn)
theorem Pd.eqv {d:PyData} {n:Nat} (h:Pd d n):PyData.eqv d d=true:=h.facts.2.2
theorem ne_data {K:Fg} {H:Hp} {x y:V} {d:PyData} {n:Nat} {Q:VK} (h1:Dt K H x d) (h2:Dt K H y d) (p:Pd d n) (hn:n<=64) (q:Q (.bl false) H):TL K x y H Q:=
 ⟨d,d,h1,h2,p.shaped hn,p.shaped hn,by rw [p.eqv];exact q⟩
def Z4 (x:Str×Rat):PyData:= .tuple [.str x.1, .tuple [.int x.2.num, .int (x.2.den:Int)]]
def ptD (p:Pt):PyData:= .tuple [.str p.nm, .str p.ow, .int p.wo, .int p.we]
def Z5 (a:jN):PyData:= .tuple [.str a.nm, .str a.ow, .int a.wo, .list (a.sh.map Z4)]
section
variable {K:Fg} {H:Hp}
theorem i8.dt {vs:List V} {l:List (Str×Rat)} (h:i8 H vs l):vU K H vs (l.map Z4):=by
 induction h with
 | nil=>exact .nil
 | cons a b _ ih=>exact .cons (.tup (bN.of a) (.cons (.str _) (.cons (Y5 b) .nil))) ih
theorem iY.dt {vs:List V} {l:List Pt} (h:iY H vs l):vU K H vs (l.map ptD):=by
 induction h with
 | nil=>exact .nil
 | cons a _ ih=>exact .cons (.tup (bN.of a) (.cons (.str _) (.cons (.str _) (.cons (.int _) (.cons (.int _) .nil))))) ih
theorem kZ.dt {ρ:dW} {vs:List V} {l:List jN} (h:kZ ρ H vs l):vU K H vs (l.map Z5):=by
 induction h with
 | nil=>exact .nil
 | cons a b _ d _ ih=>exact .cons (.tup (bN.of a) (.cons (.str _) (.cons (.str _) (.cons (.int _) (.cons (.lst (aH.of b) d.dt) .nil))))) ih
end
theorem pd4 {a b c d:PyData} {n:Nat} (h1:Pd a n) (h2:Pd b n) (h3:Pd c n) (h4:Pd d n):Pd (.tuple [a,b,c,d]) (n+1):= .tuple fun x hx=>by
 rcases bP.mp hx with rfl|hx
 . exact h1
 rcases bP.mp hx with rfl|hx
 . exact h2
 rcases bP.mp hx with rfl|hx
 . exact h3
 rcases bP.mp hx with rfl|hx
 . exact h4
 cases hx
theorem pd2 {a b:PyData} {n:Nat} (h1:Pd a n) (h2:Pd b n):Pd (.tuple [a,b]) (n+1):= .tuple fun x hx=>by
 rcases bP.mp hx with rfl|hx
 . exact h1
 rcases bP.mp hx with rfl|hx
 . exact h2
 cases hx
theorem C0 {α:Type} {f:α->PyData} {n:Nat} {l:List α} (h:∀x∈l,Pd (f x) n):Pd (.list (l.map f)) (n+1):= .list fun d hd=>by
 obtain ⟨x,hx,rfl⟩:=bJ.mp hd
 exact h x hx
theorem R7 {x:Str×Rat} (h:PyData.strOk x.1=true):Pd (Z4 x) 2:=pd2 (.str h) (pd2 .int .int)
theorem Z6 {p:Pt} (h1:PyData.strOk p.nm=true) (h2:PyData.strOk p.ow=true):Pd (ptD p) 1:=pd4 (.str h1) (.str h2) .int .int
theorem Xm {a:jN} (h1:PyData.strOk a.nm=true) (h2:PyData.strOk a.ow=true) (h3:∀x∈a.sh,PyData.strOk x.1=true):Pd (Z5 a) 4:=pd4 (.str h1) (.str h2) .int (C0 fun x hx=>R7 (h3 x hx))
theorem LL {st:HS} {p:Pt} {x:Str×Rat} (h:x∈kg st p):x.1∈st.own:=by
 unfold kg at h
 obtain ⟨y,hy,e⟩:=DI.mp h
 split at e
 . cases e;exact (BB hy).1
 . cases e
theorem JE.names {c:Nat} {own:List Str} {sh:List (Str×Rat)} (h:JE c own sh) {x:Str×Rat} (hx:x∈sh):x.1∈own:=by
 obtain ⟨o0,ts,b,h1,h2,rfl,_⟩:=h
 unfold E9 at hx
 obtain ⟨y,hy,e⟩:=DI.mp hx
 split at e
 . cases e;exact h1.subset (BB hy).1
 . cases e
def An (st:HS):Prop:=∀a∈st.dj,isNm a.nm=true
theorem acp {c:Nat} {st:HS} (h:An st) (g:Go c st) (wf:Wf st) {d:Dd} (hr:k_ st d=none):An (g_ st d):=by
 cases d with
 | cast rs=>show An (gR st rs);unfold gR;rw [nT];unfold An bg;rw [rB];exact h
 | award o a=>show An (rC st o a);unfold rC An bg;rw [rB];exact h
 | hand x o=>show An (fB st x o);unfold fB;split <;> exact h
 | land x=>
   intro a ha
   rcases gi.mp (show a∈st.dj++[_] from ha) with z|z
   . exact h a z
   . rw [fV.mp z]
     obtain ⟨i,p,e1,rfl⟩:=j6 (rF hr)
     exact g.nk _ (wf.sub p (bX e1))
 | _=>exact h
def R9 (st:HS) (ds:List Dd):Prop:=∀(i:Nat) (d:Dd),ds[i]?=some d->k_ (d9 st (ds.take i)) d=none/\RQ d/\d.k≠0
theorem sM.toG {st:HS} {ds:List Dd} (h:sM st ds):R9 st ds:=fun i d e=>let ⟨a,b,c⟩:=h i d e;⟨a,b.g,c⟩
theorem R9.go {c m:Nat} {st:HS} {ds:List Dd} (h:R9 st ds) (g:GW c m st) (mo:Mo c st) (an:An st) (hc:c+ds.length<=91) (hm:m+100*ds.length<=1000000) (ho:st.own.length<100):∀i≤ds.length,GW (c+i) (m+100*i) (d9 st (ds.take i))/\(d9 st (ds.take i)).own=st.own/\Mo (c+i) (d9 st (ds.take i))/\An (d9 st (ds.take i)):=by
 intro i
 induction i with
 | zero=>intro _;exact ⟨g,Z,mo,an⟩
 | succ i ih=>
   intro hi
   obtain ⟨g1,e1,m1,a1⟩:=ih (by omega)
   have ei:=bu (show i<ds.length by omega)
   obtain ⟨h1,h2,h3⟩:=h i _ ei
   rw [take_snoc ei,oU]
   have:=g1.do (by omega) (by omega) (by rw [e1];exact ho) h1 h2
   exact ⟨by rw [show c+(i+1)=c+i+1 by omega,show m+100*(i+1)=m+100*i+100 by omega];exact this,by rw [R1 h3,e1],aco m1 g1.g g1.wf h1,acp a1 g1.g g1.wf h1⟩
inductive acq (T:TC) (K:Fg) (vs:List V) (H:Hp) (Q:VK) (E:XK):Prop
 | mk (n:Nat) (ρ:dW) (zo l:Addr) (own:List Str) (zs:List V) (ds:List Dd) (_:vs=[.ref zo, .ref l]) (_:Gh ρ H) (_:v5 K ρ H zo (own.map V.str)) (_:v5 K ρ H l zs) (_:kG H zs ds) (_:R9 (fQ own:_) ds) (_:own.Nodup) (_:0<own.length) (_:own.length<100) (_:∀o∈own,isNm o=true) (_:ds.length<=91)
   (_:∀ρ' A' H',HH T n ρ' A' H' (d9 (fQ own) ds)->GW ds.length (100*ds.length) (d9 (fQ own) ds)->(d9 (fQ own) ds).own=own->Mo ds.length (d9 (fQ own) ds)->An (d9 (fQ own) ds)->Fr n ρ H ρ' H'->Q (.ref A'.a) H')
def R_ (T:TC) (K:Fg):Sp:=bx (acq T K)
theorem rG {m a:Int} (hm:0<m) (h:1<=a):1<=a*m:=by
 have:=Qi h (show 0<=m by omega)
 omega
theorem rH (m:Int) (st:HS):eT (bV m st)=eT st:=by unfold eT;show (st.aj.map (gQ m)).map _=_;rw [c6];rfl
theorem FO {m:Int} (hm:0<m) {st:HS} {r:Row} (h:i9 st r=none):i9 (bV m st) (oV m r)=none:=by
 obtain ⟨h1,h2,h3⟩:=ju h
 unfold i9
 show (if r.1∈eT (bV m st) then (if r.2*m<1 then some 5 else if (bK (bV m st) r.1).wo<r.2*m then some 6 else none) else some 3)=none
 have a:=rG hm h2
 have b:=Qi h3 (show 0<=m by omega)
 rw [rH,aB h1,aA (by omega),lP]
 exact aA (by show ¬ (bK st r.1).wo*m<r.2*m;omega)
theorem Sa {m:Int} (hm:0<m) {st:HS} {d:Dd} (h:k_ st d=none):k_ (bV m st) (u9 m d)=none:=by
 cases d with
 | load x o wo we=>
   obtain ⟨l1,l2,l3,l4,l5⟩:=rD h
   have a:=rG hm l4
   show xC (bV m st) x o (wo*m) we=none
   unfold xC newR
   rw [aB l1,aA (show x∉(bV m st).nms from l2)]
   show (if o∈st.own then (if wo*m<1\/we<0 then some 5 else none) else some 2)=none
   rw [aB l3,aA (by omega)]
 | cast rs=>
   obtain ⟨h1,h2,h3,h4⟩:=u7 h
   show sU (bV m st) (rs.map (oV m))=none
   unfold sU
   have e:(rs.map (oV m)).map (fun r:Row=>r.1)=rs.map fun r:Row=>r.1:=by rw [c6];rfl
   have f:(rs.map (oV m)).findSome? (i9 (bV m st))=none:=List.findSome?_eq_none_iff.mpr fun r hr=>by
    obtain ⟨y,hy,rfl⟩:=bJ.mp hr
    exact FO hm (h3 y hy)
   have b:=Int.mul_lt_mul_of_pos_right h4 hm
   rw [aB ⟨by simpa using h1,by rw [e];exact h2⟩,f]
   show (if aS (bV m st)<=br (rs.map (oV m)) then some 6 else none)=none
   rw [mE,xQ]
   exact aA (by omega)
 | award o a=>
   obtain ⟨h1,h2,h3⟩:=xG h
   have b:=Int.mul_lt_mul_of_pos_right h3 hm
   have c:=rG hm h2
   show jE (bV m st) o (a*m)=none
   unfold jE
   rw [aB (show o∈(bV m st).own from h1),aA (by omega),mE,aA (by omega)]
 | mishap x a=>exact FO hm h
 | rise x a=>
   obtain ⟨h1,h2⟩:=u0 h
   have c:=rG hm h2
   show kN (bV m st) x (a*m)=none
   unfold kN
   rw [rH,aB h1,aA (by omega)]
 | hand x o=>show jY (bV m st) x o=none;unfold jY;rw [rH];exact h
 | land x=>show qI (bV m st) x=none;unfold qI;rw [rH];exact h
 | sever x y a we=>
   obtain ⟨h1,⟨h2,h3⟩,h4,h5,h6,h7⟩:=j7 h
   have b:=Int.mul_lt_mul_of_pos_right h6 hm
   have c:=rG hm h4
   show ig (bV m st) x y (a*m) we=none
   unfold ig newR
   rw [rH,aB h1,aB h2,aA (show y∉(bV m st).nms from h3),lP]
   show (if a*m<1\/we<0 then some 5 else if (bK st x).wo*m<=a*m\/(bK st x).we<we then some 6 else none)=none
   rw [aA (by omega),aA (by omega)]
 | _=>exact h
theorem acr (m:Int) (d:Dd):(u9 m d).k=d.k:=by cases d <;> rfl
theorem Pz (m:Int) (st:HS) (o:Str):eO (bV m st) o=bV m (eO st o):=by
 unfold eO bV
 show HS.mk _ _ _ _ _ _ _ _ _=HS.mk _ _ _ _ _ _ _ _ _
 congr 1
 . rw [c6,c6];rfl
 . rw [bM];show _=_++[0*m];rw [uO]
theorem FP (m:Int) (own:List Str):bV m (fQ own)=fQ own:=by
 unfold fQ
 have:∀(l:List Str) (st:HS),l.foldl eO (bV m st)=bV m (l.foldl eO st):=fun l=>by
  induction l with
  | nil=>intro st;rfl
  | cons o l ih=>intro st;show l.foldl eO (eO (bV m st) o)=_;rw [Pz,ih];rfl
 rw [<-this];rfl
theorem vC {m:Int} (hm:0<m):∀(ds:List Dd) (st:HS),(∀d∈ds,d.k≠0)->d9 (bV m st) (ds.map (u9 m))=bV m (d9 st ds)
 | [],_,_=>rfl
 | d::ds,st,h=>by
   show d9 (g_ (bV m st) (u9 m d)) (ds.map (u9 m))=bV m (d9 (g_ st d) ds)
   rw [UG hm st d (h d cL),vC hm ds _ fun x hx=>h x (cC _ hx)]
theorem sM.ks {st:HS} {ds:List Dd} (h:sM st ds):∀d∈ds,d.k≠0:=fun d hd=>by
 obtain ⟨i,hi,e⟩:=wK hd
 exact (h i d (by rw [bu hi,e])).2.2
theorem yU.scale {m:Int} (h0:0<m) (h1:m<=1000) {d:Dd} (h:yU d):RQ (u9 m d):=by
 have z:∀{a:Int},a<=1000000000->a*m<=1000000000000:=fun {a} ha=>by
  rcases BI a 0 with n|n
  . have:=Int.mul_neg_of_neg_of_pos n h0;omega
  . have:=Int.mul_le_mul ha h1 (by omega) (by omega);omega
 cases d with
 | load x o wo we=>obtain ⟨_,_,⟨_,h1⟩,⟨_,h2⟩⟩:=h;exact ⟨z h1,h2⟩
 | rise x a=>obtain ⟨_,⟨_,h1⟩⟩:=h;exact z h1
 | _=>exact True.intro
theorem sM.scale {m:Int} (h0:0<m) (h1:m<=1000) {own:List Str} {ds:List Dd} (h:sM (fQ own) ds):R9 (fQ own) (ds.map (u9 m)):=fun i d e=>by
 rw [cg] at e
 obtain ⟨x,ex,rfl⟩:=lW.mp e
 obtain ⟨a,b,c⟩:=h i x ex
 rw [<-List.map_take,<-FP m,vC h0 _ _ fun d hd=>h.ks d (List.mem_of_mem_take hd)]
 exact ⟨Sa h0 a,b.scale h0 h1,by rw [acr];exact c⟩
theorem LM (m:Int) (st:HS) (i:Nat):jj (bV m st) i=jj st i*m:=by
 unfold jj
 rw [mE]
 show ((st.aj.map (gQ m)).map _).sum+_*st.bq.getD i 0=_
 rw [c6,oq,<-sV]
 congr 1
 . congr 1
   exact m_ fun p _=>by show p.wo*m*p.sc*p.row.getD i 0=p.wo*p.sc*p.row.getD i 0*m;grind
 . grind
theorem Ax {a b m:Int} (hb:0<b):(Jm.fr a b).num*m*((Jm.fr (a*m) b).den:Int)=(Jm.fr (a*m) b).num*((Jm.fr a b).den:Int):=by
 have e1:=Jm.Nc (Jm.fr a b)
 have e2:=Jm.Nc (Jm.fr (a*m) b)
 have d1:(0:Int)<((Jm.fr a b).den:Int):=by have:=(Jm.fr a b).den_pos;omega
 have d2:(0:Int)<((Jm.fr (a*m) b).den:Int):=by have:=(Jm.fr (a*m) b).den_pos;omega
 have c1:=Jm.QX d1 hb e1
 have c2:=Jm.QX d2 hb e2
 generalize ((Jm.fr a b).den:Int)=x at *
 generalize ((Jm.fr (a*m) b).den:Int)=y at *
 generalize (Jm.fr a b).num=u at *
 generalize (Jm.fr (a*m) b).num=v at *
 refine Int.eq_of_mul_eq_mul_left (a:=b) (by omega) ?_
 have l1:b*(u*m*y)=(u*b)*m*y:=by grind
 have l2:b*(v*x)=(v*b)*x:=by grind
 rw [l1,l2,c1,c2]
 grind
theorem JS {m:Int} {st:HS} (wf:Wf st) (o:Str):(lu st o).num*m*((lu (bV m st) o).den:Int)=(lu (bV m st) o).num*((lu st o).den:Int):=by
 unfold lu
 rw [LM]
 exact Ax (by have:=wf.eY;omega)
theorem JT {m:Int} {st:HS} (wf:Wf st) (o:Str):(lz st o).num*m*((lz (bV m st) o).den:Int)=(lz (bV m st) o).num*((lz st o).den:Int):=by
 unfold lz
 rw [show (bV m st).bD=st.bD.map (·*m) from rfl,CZ]
 exact Ax (by have:=wf.eY;omega)
def Sb (m:Int):V->V
 | .int i=> .int (i*m)
 | v=>v
theorem JU (m:Int):∀rs:List Row,fJ (rs.map (oV m))=(fJ rs).map (Sb m)
 | []=>rfl
 | r::rs=>by
   show V.str r.1::V.int (r.2*m)::fJ (rs.map (oV m))=V.str r.1::V.int (r.2*m)::(fJ rs).map (Sb m)
   rw [JU m rs]
theorem acs {m:Int} {d:Dd} (h1:d.k≠1) (h8:d.k≠8):(u9 m d).v=d.v.map (Sb m):=by
 cases d with
 | load=>exact absurd rfl h1
 | sever=>exact absurd rfl h8
 | cast rs=>show _::fJ _=_::_;rw [JU];rfl
 | _=>rfl
inductive Xn (K:Fg) (vs:List V) (H:Hp) (Q:VK) (E:XK):Prop
 | mk (z:Addr) (d:Dd) (m:Int) (_:vs=[.ref z, .int m]) (_:H z=some (.tup d.v)) (_:yU d) (_:0<m) (_:m<=1000) (_:∀r H',aP H H'->H r=none->H' r=some (.tup (u9 m d).v)->Q (.ref r) H')
def JV (K:Fg):Sp:=bx (Xn K)
theorem NU:∀{rs:List Row},(∀r∈rs,nB r.2)->∀v∈fJ rs,(∃x,v = .str x)\/∃i,v = .int i/\nB i
 | [],_,v,hv=>by cases hv
 | r::rs,h,v,hv=>by
   rcases bP.mp (show v∈V.str r.1::V.int r.2::fJ rs from hv) with z|z
   . exact .inl ⟨_,z⟩
   rcases bP.mp z with z|z
   . exact .inr ⟨_,z,h r cL⟩
   . exact NU (fun x hx=>h x (cC _ hx)) v z
theorem yU.vs {d:Dd} (h:yU d):(∀v∈d.v,(∃x,v = .str x)\/∃i,v = .int i/\nB i)/\d.v.length<=1000:=by
 have two:∀{a b:Str} {v:V},v∈[V.str a,V.str b]->(∃x,v = .str x)\/∃i,v = .int i/\nB i:=fun {a b v} hv=>by
  rcases bP.mp hv with z|z
  . exact .inl ⟨_,z⟩
  rcases bP.mp z with z|z
  . exact .inl ⟨_,z⟩
  cases z
 have Z7:∀{a b:Str} {i:Int} {v:V},nB i->v∈[V.str a,V.str b,V.int i]->(∃x,v = .str x)\/∃i,v = .int i/\nB i:=fun {a b i v} hi hv=>by
  rcases bP.mp hv with z|z
  . exact .inl ⟨_,z⟩
  rcases bP.mp z with z|z
  . exact .inl ⟨_,z⟩
  rcases bP.mp z with z|z
  . exact .inr ⟨_,z,hi⟩
  cases z
 have fiv:∀{a b c:Str} {i j:Int} {v:V},nB i->nB j->v∈[V.str a,V.str b,V.str c,V.int i,V.int j]->(∃x,v = .str x)\/∃i,v = .int i/\nB i:=fun {a b c i j v} hi hj hv=>by
  rcases bP.mp hv with z|z
  . exact .inl ⟨_,z⟩
  rcases bP.mp z with z|z
  . exact .inl ⟨_,z⟩
  rcases bP.mp z with z|z
  . exact .inl ⟨_,z⟩
  rcases bP.mp z with z|z
  . exact .inr ⟨_,z,hi⟩
  rcases bP.mp z with z|z
  . exact .inr ⟨_,z,hj⟩
  cases z
 cases d with
 | sign o=>exact ⟨fun v hv=>two hv,by show 2<=1000;decide⟩
 | load x o wo we=>exact ⟨fun v hv=>fiv h.2.2.1 h.2.2.2 hv,by show 5<=1000;decide⟩
 | cast rs=>
   obtain ⟨h1,h2⟩:=h
   refine ⟨fun v hv=>?_,?_⟩
   . rcases bP.mp (show v∈V.str "cast"::fJ rs from hv) with z|z
     . exact .inl ⟨_,z⟩
     . exact NU (fun r hr=>(h2 r hr).2) v z
   . show (fJ rs).length+1<=1000
     rw [uZ];omega
 | award o a=>exact ⟨fun v hv=>Z7 h.2 hv,by show 3<=1000;decide⟩
 | mishap x a=>exact ⟨fun v hv=>Z7 h.2 hv,by show 3<=1000;decide⟩
 | rise x a=>exact ⟨fun v hv=>Z7 h.2 hv,by show 3<=1000;decide⟩
 | hand x o=>
   refine ⟨fun v hv=>?_,by show 3<=1000;decide⟩
   rcases bP.mp (show v∈[V.str "hand",V.str x,V.str o] from hv) with z|z
   . exact .inl ⟨_,z⟩
   . exact two z
 | land x=>exact ⟨fun v hv=>two hv,by show 2<=1000;decide⟩
 | sever x y a we=>exact ⟨fun v hv=>fiv h.2.2.1 h.2.2.2 hv,by show 5<=1000;decide⟩
 | still=>exact ⟨fun v hv=> .inl ⟨_,fV.mp hv⟩,by show 1<=1000;decide⟩
end L2
set_option autoImplicit false
namespace Z8
open PySem L2
theorem gD (n:Nat) (h:n<=1000:=by decide):n<=sizeLine:=by rw [jQ];omega
def top (i:Nat):Stmt:=PySem.Challenge.pw_jettison_k38_whole_times_so_many.main.body.getD i (.Pass ⟨0,0,0,0⟩)
section
variable {P:Program} {w:World} {K:Fg} {mg:SO} {base:Heap} {f:Addr} {fd:FuncData}
abbrev ny:Stmt:=top 2
abbrev jk:List Str:=["one","other"]
abbrev C3:List Str:=jk
theorem ud:aO C3 jk (aC ny):=dN
theorem A_ (F:At K mg "common_factor" ny f fd):Dn P w K mg base 1 "common_factor" jk TM:=by
 refine F.oA ud fun cdv A outer s H vs Q E hr h=>?_
 obtain ⟨a,b,rfl,ha,hb,q⟩:=h
 refine ⟨_,(@cT.h _ _ _ (ak (Jr f_ (aR jT (qv 1) ai (aX _)) (av (ZM (i:=0) (j:=1) rfl ud.nd rfl rfl (by decide) rfl rfl (af (qv 1) (af (aG j_ (qv 0) (qv 1)) aq)) (by rfl))))
  (av (bh (qv 0))))),?_⟩
 refine ⟨fun m σ H'=>∃x y:Int,m=y.toNat/\σ=[some (.int x),some (.int y)]/\H'=H/\0<=x/\0<=y/\Jm.cf x y=Jm.cf a b,⟨_,a,b,Z,Z,Z,ha,hb,Z⟩,?_⟩
 rintro m σ H' ⟨x,y,rfl,rfl,rfl,hx,hy,e⟩
 refine ⟨_,Z,_,_,Z,Z,_,Z,?_⟩
 refine aM (fun c=>?_) (fun c=>?_)
 . have c':0<y:=aZ c
   refine ⟨_,fun _ _ z=>z,?_⟩
   refine ⟨_,Z,_,Z,_,Z,_,_,Z,Z,c',_,_,Z,?_⟩
   have h1:0<=x % y:=n_ _ (by omega)
   have h2:x % y<y:=yp _ c'
   exact ⟨_,(by omega:(x % y).toNat<y.toNat),y,x % y,Z,Z,Z,hy,h1,(Jm.Nb x y c').trans e⟩
 . have c':¬ 0<y:=tG (pT.mpr c)
   have ey:y=0:=by omega
   subst ey
   rw [Jm.Wt x hx] at e
   refine ⟨_,Z,?_⟩
   rw [e]
   exact q
abbrev xS:Stmt:=top 18
abbrev u_:List Str:=["text","signs"]
abbrev Sd:List Str:=u_
theorem PB:aO Sd u_ (aC xS):=dN
theorem PD (F:At K mg "made_of" xS f fd) (PF:mg "all"=none):Dn P w K mg base 1 "made_of" u_ AM:=by
 refine F.oA PB fun cdv A outer s H vs Q E hr h=>?_
 obtain ⟨⟨cs,signs,rfl,hl,q⟩⟩:=h
 refine ⟨_,(@cT.h _ _ _ (av (bh (bF (Q7 K rfl) (by rfl) PF PyProof.Rows.boot_all (af (gP ["sign","signs"] [none,some 1] rfl (ZQ (qv 0)) (fun _ _ _ _=>(aV (i:=0) (show List.Nodup (["sign","signs"] :List Str) from by decide +kernel))) (fun _ _ _ _=>(D4 Qx (qv 0) (qv 1) (by with_unfolding_all rfl))) rfl (by rfl)) aq))))),?_⟩
 refine ⟨_,Z,cs,Z,fun acc hacc=>?_⟩
 refine TU (fun i out H1=>aP H H1/\out=((cs.take i).map (Cg signs)).map V.bl) hl ⟨aD hacc _,Z⟩ ?_ ?_
 . rintro i c out H1 hx fY ha ⟨g,e⟩
   refine ⟨_,Z,_,Z,_,_,Z,Z,ha,g.cN hacc _,?_⟩
   rw [e,List.take_add_one,hx,bM,bM]
   rfl
 rintro out H1 fY ha ⟨g,e⟩
 rw [cK] at e
 refine ⟨acc,cs.map (Cg signs),Z,aH.of (by rw [ha,e]),?_⟩
 have e2:(cs.map (Cg signs)).all id=cs.all (Cg signs):=by rw [List.all_map];rfl
 rw [e2]
 exact q H1 g
abbrev xT:Stmt:=top 17
abbrev rJ:List Str:=["text"]
abbrev Se:List Str:=rJ
theorem PJ:aO Se rJ (aC xT):=dN
theorem PK {tk:Tok} (F:At K mg "is_name" xT f fd) (zf:Dn P w K mg base 1 "made_of" u_ AM) (b_:mg "len"=none) (zg:mg "LETTERS"=some (.str "abcdefghijklmnopqrstuvwxyz" tk)):Dn P w K mg base 2 "is_name" rJ w_:=by
 refine F.oA PJ fun cdv A outer s H vs Q E hr h=>?_
 obtain ⟨⟨cs,rfl,hl,q⟩⟩:=h
 refine ⟨_,(@cT.h _ _ _ (av (bh (ZP (Ui Vc Vc ai (bF Il (by rfl) b_ gb (af (qv 0) aq)) ai) (ZK (bR zf hr (af (qv 0) (af (W9 (v:= .str "abcdefghijklmnopqrstuvwxyz") (by rfl) zg ⟨_,Z⟩) aq)))))))),?_⟩
 have hz:(tx cs).length<=sizeLine:=by rw [yz,jQ];omega
 refine ⟨_,Z,_,Z,hz,_,_,Z,Z,_,Z,?_⟩
 rw [yz]
 refine aM (fun c=>?_) (fun c=>?_)
 . refine ⟨_,_,Z,Z,_,Z,aM (fun c2=>?_) (fun c2=>?_)⟩
   . refine ⟨_,Z,O1 hl fun H' g=>?_⟩
     have:=q H' g
     unfold isName at this
     rw [c,c2,Bool.true_and,Bool.true_and] at this
     exact this
   . have:=q H (aP.refl _)
     unfold isName at this
     rw [c,pT.mpr c2,Bool.true_and,Bool.false_and] at this
     exact this
 . have:=q H (aP.refl _)
   unfold isName at this
   rw [pT.mpr c,Bool.false_and,Bool.false_and] at this
   exact ⟨_,Z,gr this⟩
abbrev oW:Stmt:=top 23
abbrev iG:List Str:=["amount"]
abbrev D7:List Str:=iG
theorem C4:aO D7 iG (aC oW):=dN
theorem Ba {e:Ec} (F:At K mg "check_amount" oW f fd) (jI:gK K e.yS) (kq:mg "BadNumber"=some (.ref e.yS)):Dx P w K mg base 1 "check_amount" iG (yY e):=by
 refine F.yg C4 fun cdv A outer s H vs Q E hr h=>?_
 obtain ⟨⟨a,rfl,h5,q⟩⟩:=h
 refine ⟨_,(@cT.h _ _ _ (av (b9 (aR qC (qv 0) ai (aX _)) (av (j0 jI (by rfl) kq)) bw))),?_⟩
 exact ⟨_,Z,_,_,Z,Z,_,Z,aM (fun c=>fun x=>h5 (aZ c) x H (aP.refl _)) fun c=>q (by have:=tG (pT.mpr c);omega)⟩
abbrev rW:Stmt:=top 24
abbrev lC:List Str:=["most","amount"]
abbrev JW:List Str:=lC
theorem F_:aO JW lC (aC rW):=dN
theorem D8 {e:Ec} (F:At K mg "check_loss" rW f fd) (dQ:Dx P w K mg base 1 "check_amount" iG (yY e)) (iz:gK K e.AW) (jl:mg "TooMuch"=some (.ref e.AW)):Dx P w K mg base 2 "check_loss" lC (Jv e):=by
 refine F.yg F_ fun cdv A outer s H vs Q E hr h=>?_
 obtain ⟨⟨m,a,rfl,h5,h6,q⟩⟩:=h
 refine ⟨_,(@cT.h _ _ _ (ak (cy (CJ dQ hr (af (qv 1) aq)))
  (av (b9 (aR jT (qv 1) (qv 0) (aX _)) (av (j0 iz (by rfl) jl)) bw)))),?_⟩
 exact ⟨_,Z,⟨⟨a,Z,h5,fun h1=>⟨_,Z,_,Z,_,_,Z,Z,_,Z,aM (fun c=>fun x=>h6 h1 (aZ c) x H (aP.refl _)) fun c=>q h1 (by have:=tG (pT.mpr c);omega)⟩⟩⟩⟩
abbrev rX:Stmt:=top 22
abbrev oX:List Str:=["rows"]
abbrev JX:List Str:=oX.append ["amounts","name","amount"]
theorem mP:aO JX oX (aC rX):=dN
theorem Ga (F:At K mg "amounts_of" rX f fd) (b_:mg "len"=none):Dn P w K mg base 1 "amounts_of" oX (Ry K):=by
 refine F.oA mP fun cdv A outer s H vs Q E hr h=>?_
 obtain ⟨⟨l,us,rs,rfl,hl,hR,nd,hne,hle,q⟩⟩:=h
 refine ⟨_,(@cT.h _ _ _ (ak (aT (i:=1) mP.nd qa)
  (ak (fE f_ rfl (d8 K (qv 0)) (iF K (n:=2) rfl (cA (aV (i:=2) mP.nd) (cA (aV (i:=3) mP.nd) iE))) (ak (b9 (v_ (Jt (dz hr) (qv 2) (qv 1))) (av qb) bw)
  (av (tD (dz hr) (qv 1) (qv 2) (qv 3) rfl))))
  (ak (b9 (aR dP (bF uR (by rfl) b_ gb (af (qv 1) aq)) ai (aX _)) (av qb) bw)
  (av (bh (qv 1))))))),?_⟩
 intro d hd
 have g0:=aD hd (.dK [])
 have hd0:upd H d (.dK []) d=some (.dK (gW (rs.take 0))):=ah
 generalize upd H d (.dK [])=H0 at *
 have Z9:=hR.length
 refine ⟨_,Z,l,Z,⟨us,g0.seq hl⟩,?_⟩
 refine jS (K:=K) (xs:=us) (fun i σ H'=>aP H H'/\H' d=some (.dK (gW (rs.take i)))/\∃s2 s3,σ=[some (.ref l),some (.ref d),s2,s3]) ⟨g0,hd0,_,_,Z⟩ (fun i σ H' _ hp=>hp.1.seq hl) ?_ ?_
 . rintro i x σ H' hx ⟨g,hd',s2,s3,rfl⟩
   obtain ⟨a,r,rfl,er,ha⟩:=hR.get hx
   have hnot:r.1∉(rs.take i).map (·.1):=by
    rw [List.map_take]
    exact p5 nd (by rw [cg,er];rfl)
   have hlt:(gW (rs.take i)).length<sizeLine:=by rw [xq,nY];exact dh (by omega)
   refine ⟨a,_,Z,bN.of (g _ _ ha),Z,_,_,Z,_,_,Z,Z,?_⟩
   refine ⟨_,Z,_,Z,d,_,Z,ee.k (k:=Sum.inr r.1) hd',_,Z,?_⟩
   rw [Fb hnot]
   refine gr ?_
   refine ⟨_,Z,_,Z,_,Z,d,_,Z,vt.k (k:=Sum.inr r.1) hd' hlt,g.cN hd _,?_,_,_,Z⟩
   rw [ah,nc _ (Fb hnot),take_snoc er]
   unfold gW
   rw [bM]
   rfl
 rintro σ H' ⟨g,hd',s2,s3,rfl⟩
 rw [Z9,cK] at hd'
 refine ⟨_,Z,d,_,Z,hd',Z,_,Z,?_⟩
 rw [xq]
 have hpos:0<rs.length:=List.length_pos_iff.mpr hne
 rw [cV (fun e=>by have:=V.int.inj e;omega)]
 exact gr ⟨_,Z,q d H' g hd hd'⟩
abbrev nC:Stmt:=top 5
abbrev kO:List Str:=["step","tops"]
abbrev C5:List Str:=kO.append ["top"]
theorem nD:aO C5 kO (aC nC):=dN
theorem Bb (F:At K mg "factor_of_all" nC f fd) (h_:Dn P w K mg base 1 "common_factor" jk TM):Dn P w K mg base 2 "factor_of_all" kO (Rz K):=by
 refine F.oA nD fun cdv A outer s H vs Q E hr h=>?_
 obtain ⟨⟨s,l,ts,rfl,hl,h0,h1,q⟩⟩:=h
 refine ⟨_,(@cT.h _ _ _ (ak (fE f_ rfl (d8 K (qv 1)) (aV (i:=2) nD.nd) (av (aT (i:=0) nD.nd (bR h_ hr (af (qv 2) (af (qv 0) aq))))))
  (av (bh (qv 0))))),?_⟩
 refine ⟨_,Z,l,Z,⟨_,hl⟩,?_⟩
 refine jS (K:=K) (xs:=ts.map V.int) (fun i σ H'=>H'=H/\0<=jX s (ts.take i)/\∃s2,σ=[some (.int (jX s (ts.take i))),some (.ref l),s2]) ⟨Z,h0,_,Z⟩ (fun i σ H' _ hp=>by rw [hp.1];exact hl) ?_ ?_
 . rintro i x σ H' hx ⟨rfl,hf,s2,rfl⟩
   obtain ⟨t,rfl,et⟩:=fZ hx
   have e1:jX s (ts.take (i+1))=Jm.cf t (jX s (ts.take i)):=by
    unfold jX
    rw [take_snoc et,DM]
    rfl
   refine ⟨_,Z,_,Z,t,_,Z,h1 t (bX et),hf,Z,?_,some (.int t),?_⟩
   . rw [e1];unfold Jm.cf;omega
   . rw [e1];rfl
 rintro σ H' ⟨rfl,hf,s2,rfl⟩
 rw [aE,cK]
 exact ⟨_,Z,q⟩
abbrev qe:Stmt:=inClass (top 4) 0
abbrev rY:List Str:=["self"]
abbrev Gb:List Str:=rY
theorem D9:aO Gb rY (aC qe):=dN
theorem D_ {T:TC} (F:E5 K mg "Bottom" T.bot "Bottom.__init__" qe f fd) (X:Txt K T):Cn P w K mg base 1 "Bottom" T.bot rY (Nj T):=by
 refine F.oA D9 fun cdv A outer s H vs Q E hr h=>?_
 obtain ⟨⟨p,dx,rfl,hp,q⟩⟩:=h
 refine ⟨_,(@cT.h _ _ _ (ak (dD K (qv 0) (ir aq))
  (ak (dD K (qv 0) ai)
  (av (dD K (qv 0) qa))))),?_⟩
 refine ⟨(gD 0),fun l hl=>?_⟩
 have n1:p≠l:=aF hp hl
 refine ⟨_,Z,p,T.bot,dx,_,Z,by rw [az n1];exact hp,X.cB,X.Zp,by show 0<1000;decide,?_⟩
 refine ⟨_,Z,p,T.bot,dx,_,Z,ah,X.cB,X.Nh,by show 1<1000;decide,?_⟩
 intro d hd
 have n2:d≠p:=fun e=>by rw [e,ah] at hd;cases hd
 have n3:d≠l:=fun e=>by rw [e,az (cO n1),az (cO n1),ah] at hd;cases hd
 have hd0:H d=none:=by rw [az n2,az n2,az n3] at hd;exact hd
 refine ⟨_,Z,p,T.bot,dx,_,Z,by rw [az (cO n2)];exact ah,X.cB,X.Rt,by show 2<1000;decide,?_⟩
 refine q l d _ hl hd0 (cO n3) (fun b o e hb=>?_) ah ?_ ?_
 . rw [az hb,az (aF e hd0),az hb,az hb,az (aF e hl)];exact e
 . rw [az (cO n1),az (cO n3),az (cO n1),az (cO n1)];exact ah
 . rw [az n2];exact ah
abbrev ue:Stmt:=inClass (top 20) 0
abbrev vD:List Str:=["self","name","owner","worth","weight","scale","row"]
abbrev LN:List Str:=vD
theorem JY:aO LN vD (aC ue):=dN
theorem JZ {T:TC} (F:E5 K mg "Part" T.part "Part.__init__" ue f fd) (X:Txt K T) (ki:mg "list"=none):Cn P w K mg base 1 "Part" T.part vD (DV T K):=by
 refine F.oA JY fun cdv A outer s H vs Q E hr h=>?_
 obtain ⟨⟨p,dx,l,pt,rfl,hp,hl,q⟩⟩:=h
 refine ⟨_,(@cT.h _ _ _ (ak (dD K (qv 0) (qv 1))
  (ak (dD K (qv 0) (qv 2))
  (ak (dD K (qv 0) (qv 3))
  (ak (dD K (qv 0) (qv 4))
  (ak (dD K (qv 0) (qv 5))
  (av (dD K (qv 0) (nV (rT K) (by rfl) ki Og (af (qv 6) aq)))))))))),?_⟩
 refine ⟨_,Z,_,Z,p,T.part,dx,_,Z,hp,X.cP,X.Rq,by show 0<1000;decide,?_⟩
 refine ⟨_,Z,_,Z,p,T.part,dx,_,Z,ah,X.cP,X.pow,by show 1<1000;decide,?_⟩
 refine ⟨_,Z,_,Z,p,T.part,dx,_,Z,ah,X.cP,X.tW,by show 2<1000;decide,?_⟩
 refine ⟨_,Z,_,Z,p,T.part,dx,_,Z,ah,X.cP,X.Rr,by show 3<1000;decide,?_⟩
 refine ⟨_,Z,_,Z,p,T.part,dx,_,Z,ah,X.cP,X.E6,by show 4<1000;decide,?_⟩
 simp only [nK]
 have hl1:∀o,aH K (upd H p o) l (pt.row.map V.int):=fun o=>by
  rcases hl with (h|⟨ob,h⟩)|h
  . exact .inl (.inl (by rw [az (iX h hp (by intro z;cases z))];exact h))
  . exact .inl (.inr ⟨ob,by rw [az (iX h hp (by intro z;cases z))];exact h⟩)
  . exact .inr h
 refine ⟨_,Z,l,_,Z, .inl (hl1 _),fun r hr2=>?_⟩
 have n1:r≠p:=fun e=>by rw [e,ah] at hr2;cases hr2
 refine ⟨_,Z,p,T.part,dx,_,Z,by rw [az (cO n1)];exact ah,X.cP,X.IM,by show 5<1000;decide,?_⟩
 have hr0:H r=none:=by rw [az n1] at hr2;exact hr2
 refine q r _ hr0 (fun b o e hb=>?_) ah ?_
 . rw [az hb,az (aF e hr0),az hb];exact e
 . rw [az n1];exact ah
abbrev qf:Stmt:=inClass (top 4) 1
abbrev mQ:List Str:=["self","step"]
abbrev Gd:List Str:=mQ
theorem Ea:aO Gd mQ (aC qf):=dN
theorem Eb {T:TC} (F:gJ K T.bot "grow" "Bottom.grow" qf f fd) (X:Txt K T):Mn P w K mg base 1 T.bot "grow" mQ (RA T):=by
 refine F.oA Ea fun cdv A outer s H vs Q E hr h=>?_
 obtain ⟨⟨n,ρ,A,st,s,rfl,g,h,hl,z1,z2,q⟩⟩:=h
 refine ⟨_,(@cT.h _ _ _ (av (jG (aR jT (qv 1) ai (aX _)) (ak (cy (jZ m9 m7 m8 dU (aI K (qv 0)) (af (qv 1) aq)))
  (ak (oS K (qv 0) (qv 1) WK)
  (av (dD K (qv 0) qa)))) bw))),?_⟩
 refine ⟨fun σ' H'=>Q .bU H',⟨_,Z,_,_,Z,Z,_,Z,aM (fun c=>?_) (fun c=>?_)⟩,fun _ _ z=>z⟩
 . have c':1<s:=aZ c
   refine ⟨_,Z,A.bt,T.bot,A.db,_,_,Z,h.jv,X.cB,X.Zp,Z, .inl ⟨Z,_,aH.of h.nQ⟩,_,Z,A.sp,_,_,Z,Z,h.nQ,by rw [aE];exact dh hl,?_⟩
   rw [show st.stp.map V.int++[V.int s]=(st.stp++[s]).map V.int from by rw [bM];rfl]
   have h1:=h.Zm g (st.stp++[s])
   have g1:=g.wr (a:=A.sp) (o:= .lst ((st.stp++[s]).map V.int)) rfl
   have F1:Fr n ρ H ρ (upd H A.sp (.lst ((st.stp++[s]).map V.int))):=Fr.write h.iR
   generalize upd H A.sp (.lst ((st.stp++[s]).map V.int))=H1 at *
   refine ⟨_,Z,A.bt,T.bot,A.db,_,_,Z,h1.jv,X.cB,X.Nh,Z,_,Z,_,_,Z,Z,fu z1 z2,A.db,_,h1.jv,by show 3<1000;decide,?_⟩
   intro kn hkn
   have nb:kn≠A.bt:=fun e=>by rw [e,ah] at hkn;cases hkn
   have Bc:H1 kn=none:=by rw [az nb] at hkn;exact hkn
   have iS:ρ kn=none:=g1.none Bc
   refine ⟨_,Z,A.bt,T.bot,A.db,_,Z,by rw [az (cO nb)];exact ah,X.cB,X.Rt,by show 3<1000;decide,?_⟩
   have eH:upd (upd (upd H1 A.bt (.ins T.bot A.db (aU "product" (.int (st.prod*s)) (xg A.sp st.prod A.kn)))) kn (.dK [])) A.bt (.ins T.bot A.db (aU "known" (.ref kn) (aU "product" (.int (st.prod*s)) (xg A.sp st.prod A.kn))))=upd (upd H1 kn (.dK [])) A.bt (.ins T.bot A.db (xg A.sp (st.prod*s) kn)):=by
    rw [jW (cO nb),nK]
    rfl
   have k2:Kp n ρ (cR ρ kn (n,9,⟨#[]⟩)) H1 (upd H1 kn (.dK [])) (fun _=>true):=⟨(aD Bc _).tups,fun b t x o _ c e=>⟨aD Bc _ _ _ e,by rw [cJ (aF e Bc)];exact c⟩⟩
   have h2:=h1.same k2
   have g2:Gh (cR ρ kn (n,9,⟨#[]⟩)) (upd H1 kn (.dK [])):=(g1.alloc Bc).color ah rfl
   have F2:Fr n ρ H1 (cR ρ kn (n,9,⟨#[]⟩)) (upd H1 kn (.dK [])):=Fr.color Bc (aD Bc _)
   have h3:=h2.Zo g2 (st.prod*s) kn ah dH
   have es:eE st s={ { st with stp:=st.stp++[s] } with prod:=st.prod*s,kn:=0 }:=by
    unfold eE
    rw [aB c']
   rw [es] at q
   show Q .bU _
   refine (show _=_ from eH)▸?_
   exact q _ _ _ (g2.wr rfl) h3 rfl (F1.trans (F2.trans (Fr.write h2.iQ)))
 . have c':¬ 1<s:=tG (pT.mpr c)
   have es:eE st s=st:=by unfold eE;rw [aA c']
   rw [es] at q
   exact q ρ A H g h rfl Fr.refl
abbrev nE:Stmt:=inClass (top 21) 19
abbrev eV:List Str:=["self","owner"]
abbrev C6:List Str:=eV
theorem Bd:aO C6 eV (aC nE):=dN
theorem Ae {T:TC} {e:Ec} (F:gJ K T.hold "place_of" "Hold.place_of" nE f fd) (X:Txt K T) (xU:gK K e.Pf) (zh:mg "NoOwner"=some (.ref e.Pf)):Mx P w K mg base 1 T.hold "place_of" eV (xD T e):=by
 refine F.yg Bd fun cdv A outer s H vs Q E hr h=>?_
 obtain ⟨⟨n,ρ,A,st,o,rfl,h,q2,q⟩⟩:=h
 refine ⟨_,(@cT.h _ _ _ (ak (b9 (v_ (yW (dz hr) (qv 1) (aI K (qv 0)))) (av (j0 xU (by rfl) zh)) bw)
  (av (bh (dZ (dz hr) (aI K (qv 0)) (qv 1)))))),?_⟩
 refine ⟨_,Z,_,Z,A.a,T.hold,A.dx,_,_,Z,h.oa,X.cH,X.hpl,Z,A.pl,_,Z,ee.k (k:=Sum.inr o) h.iB,_,Z,?_⟩
 by_cases ho:o∈st.own
 . have hv:=Ni (i:=0) ho
   rw [hv]
   refine gr ?_
   refine ⟨_,Z,A.a,T.hold,A.dx,_,_,Z,h.oa,X.cH,X.hpl,Z,_,Z,A.pl,_,Z,hv▸ee.k (k:=Sum.inr o) h.iB,?_⟩
   rw [Nat.zero_add]
   exact q ho
 . rw [oM ho]
   exact jU fun x=>q2 ho x H (aP.refl _)
abbrev oY:Stmt:=inClass (top 21) 20
abbrev eG:List Str:=["self","name"]
abbrev Ed:List Str:=eG
theorem C7:aO Ed eG (aC oY):=dN
theorem Be {T:TC} {e:Ec} (F:gJ K T.hold "part_of" "Hold.part_of" oY f fd) (X:Txt K T) (zj:gK K e.Jq) (Bf:mg "NoPart"=some (.ref e.Jq)):Mx P w K mg base 1 T.hold "part_of" eG (k7 T e):=by
 refine F.yg C7 fun cdv A outer s H vs Q E hr h=>?_
 obtain ⟨⟨n,ρ,A,st,x,rfl,hA,nd,q2,k⟩⟩:=h
 refine ⟨_,(@cT.h _ _ _ (ak (b9 (v_ (yW (dz hr) (qv 1) (aI K (qv 0)))) (av (j0 zj (by rfl) Bf)) bw)
  (av (bh (dZ (dz hr) (aI K (qv 0)) (qv 1)))))),?_⟩
 refine ⟨_,Z,_,Z,A.a,T.hold,A.dx,_,_,Z,hA.oa,X.cH,X.hab,Z,A.ab,_,Z,ee.k (k:=Sum.inr x) hA.dF,_,Z,?_⟩
 by_cases hx:∃p∈st.aj,p.nm=x
 . obtain ⟨p,hp,rfl⟩:=hx
   obtain ⟨i,hi,ep⟩:=List.mem_iff_getElem.mp hp
   have vO:st.aj[i]?=some p:=by rw [bu hi,ep]
   obtain ⟨qq,eq,_⟩:=hA.find vO
   have hv:=sY nd vO eq
   rw [hv]
   refine gr ?_
   exact ⟨_,Z,A.a,T.hold,A.dx,_,_,Z,hA.oa,X.cH,X.hab,Z,_,Z,A.ab,_,Z,hv▸ee.k (k:=Sum.inr p.nm) hA.dF,k i p qq rfl vO eq⟩
 . have hn:∀p∈st.aj,p.nm≠x:=fun p hp z=>hx ⟨p,hp,z⟩
   rw [tY hn]
   exact jU fun y=>q2 hn y H (aP.refl _)
abbrev mj:Stmt:=inClass (top 21) 21
abbrev iV:List Str:=["self","name"]
abbrev Bg:List Str:=iV
theorem Af:aO Bg iV (aC mj):=dN
theorem zq {T:TC} {e:Ec} (F:gJ K T.hold "check_new" "Hold.check_new" mj f fd) (X:Txt K T) (nW:Dn P w K mg base 2 "is_name" rJ w_) (xV:gK K e.bad) (zu:mg "BadName"=some (.ref e.bad)) (Bh:gK K e.twice) (Ef:mg "Twice"=some (.ref e.twice)):Mx P w K mg base 3 T.hold "check_new" iV (vB T e):=by
 refine F.yg Af fun cdv A outer s H vs Q E hr h=>?_
 obtain ⟨⟨n,ρ,A,st,x,rfl,h,hx,q2,q⟩⟩:=h
 refine ⟨_,(@cT.h _ _ _ (ak (b9 (Ju (v8 (bR nW hr (af (qv 1) aq)))) (av (j0 xV (by rfl) zu)) bw)
  (av (b9 (v_ (Jt (dz hr) (qv 1) (aI K (qv 0)))) (av (j0 Bh (by rfl) Ef)) bw)))),?_⟩
 refine ⟨_,Z,Ci (cs:=x.cps.toList) hx fun H1 g1=>⟨_,Z,?_⟩⟩
 cases hn:isName x.cps.toList with
 | false=>exact jU fun y=>q2 0 (by unfold newR isNm;rw [hn];rfl) y H1 g1
 | true=>
   refine gr ?_
   have h1:=h.mono g1
   refine ⟨_,Z,_,Z,A.a,T.hold,A.dx,_,_,Z,h1.oa,X.cH,X.hnm,Z,A.nm,_,Z,ee.k (k:=Sum.inr x) h1.q_,_,Z,?_⟩
   by_cases hm:x∈st.nms
   . rw [IS hm]
     exact jU fun y=>q2 1 (by unfold newR isNm;rw [hn,aB rfl,aB hm]) y H1 g1
   . rw [yJ hm]
     exact gr (q (yT hn hm) H1 g1)
abbrev rZ:Stmt:=inClass (top 21) 11
abbrev oZ:List Str:=["self"]
abbrev J0:List Str:=oZ
theorem Ge:aO J0 oZ (aC rZ):=dN
theorem Gf {T:TC} (F:gJ K T.hold "parts" "Hold.parts" rZ f fd) (X:Txt K T):Mn P w K mg base 1 T.hold "parts" oZ (Nl T):=by
 refine F.oA Ge fun cdv A outer s H vs Q E hr h=>?_
 obtain ⟨⟨n,ρ,A,st,rfl,h,hl,q⟩⟩:=h
 refine ⟨_,(@cT.h _ _ _ (av (bh (CH (gP ["part"] [none] rfl (v9 (aI K (qv 0))) (fun _ _ _ _=>(aV (i:=0) (show List.Nodup (["part"] :List Str) from by decide +kernel))) (fun _ _ _ _=>(gv (af (aI K (qv 0)) (af (aI K (qv 0)) (af (aI K (qv 0)) (af (aI K (qv 0)) aq)))))) rfl (by rfl)))))),?_⟩
 refine ⟨A.ab,_,h.dF,fun o=>?_⟩
 refine ⟨_,Z,A.a,T.hold,A.dx,_,_,Z,dX h.dF h.oa (fun k z=>by cases z),X.cH,X.hab,Z,A.ab,o,_,Z,ah,fun acc hacc=>?_⟩
 have el:=sX h.ql
 refine jD (n:=st.aj.length) 0 (fun i out H1=>aP (upd H A.ab (.eX o (.dK (cj st.aj A.qs)))) H1/\iY H1 out (st.aj.take i)) (by omega) ⟨aD hacc _, .nil⟩ (fun i out H1 hi _ hp=>⟨hp.1 _ _ ah,by rw [el];exact hi⟩) (fun out H1 _ hp=>⟨hp.1 _ _ ah,by rw [el];exact aK _⟩) ?_ ?_
 . rintro i x out H1 H2 hi fY ha ⟨g,hP⟩ ⟨rfl,kv,hkv,rfl⟩
   have ep:=bu hi
   obtain ⟨qq,eq,h1,h2,_⟩:=h.find ep
   rw [sW ep eq] at hkv
   cases hkv
   have hq:=g _ _ (dX h.dF h1 (fun k z=>by cases z))
   refine ⟨_,Z,qq.1,T.part,qq.2.1,_,_,Z,hq,X.cP,X.Rq,Z,_,Z,qq.1,T.part,qq.2.1,_,_,Z,hq,X.cP,X.pow,Z,_,Z,qq.1,T.part,qq.2.1,_,_,Z,hq,X.cP,X.tW,Z,_,Z,qq.1,T.part,qq.2.1,_,_,Z,hq,X.cP,X.Rr,Z,(gD 4),fun t ht=>?_⟩
   have g1:=aD ht (Cu st.aj[i])
   refine ⟨g1 _ _ ha,(g.trans g1).cN hacc _,?_⟩
   rw [take_snoc ep]
   exact ((hP.mono g1.tups).snoc ah).mono (iD (.inr ⟨_,g1 _ _ ha,Z⟩))
 rintro out H1 fY ha ⟨g,hP⟩
 rw [cK] at hP
 have hz:=g _ _ (ah (H:=H) (a:=A.ab) (o:= .eX o (.dK (cj st.aj A.qs))))
 have na:acc≠A.ab:=fun e=>by rw [e,hz] at ha;cases ha
 exact ⟨hz,q acc out _ (pY h.dF g) (nt h.dF hacc) (by rw [az na];exact ha) (hP.mono (iD (.inr ⟨_,hz,Z⟩)))⟩
abbrev r6:Stmt:=inClass (top 21) 13
abbrev jJ:List Str:=["self"]
abbrev J1:List Str:=jJ
theorem Gg:aO J1 jJ (aC r6):=dN
theorem Gi {T:TC} (F:gJ K T.hold "whole" "Hold.whole" r6 f fd) (X:Txt K T) (iZ:mg "sum"=none):Mn P w K mg base 1 T.hold "whole" jJ (z8 T):=by
 refine F.oA Gg fun cdv A outer s H vs Q E hr h=>?_
 obtain ⟨⟨n,ρ,A,st,rfl,h,hl,q⟩⟩:=h
 refine ⟨_,(@cT.h _ _ _ (av (bh (bF (uS K rfl) (by rfl) iZ DE (af (CH (gP ["part"] [none] rfl (v9 (aI K (qv 0))) (fun _ _ _ _=>(aV (i:=0) (show List.Nodup (["part"] :List Str) from by decide +kernel))) (fun _ _ _ _=>(aI K (qv 0))) rfl (by rfl))) aq))))),?_⟩
 refine ⟨A.ab,_,h.dF,fun o=>?_⟩
 refine ⟨_,Z,A.a,T.hold,A.dx,_,_,Z,dX h.dF h.oa (fun k z=>by cases z),X.cH,X.hab,Z,A.ab,o,_,Z,ah,fun acc hacc=>?_⟩
 have el:=sX h.ql
 refine jD (n:=st.aj.length) 0 (fun i out H1=>aP (upd H A.ab (.eX o (.dK (cj st.aj A.qs)))) H1/\out=((st.aj.take i).map (·.wo)).map V.int) (by omega) ⟨aD hacc _,Z⟩ (fun i out H1 hi _ hp=>⟨hp.1 _ _ ah,by rw [el];exact hi⟩) (fun out H1 _ hp=>⟨hp.1 _ _ ah,by rw [el];exact aK _⟩) ?_ ?_
 . rintro i x out H1 H2 hi fY ha ⟨g,e⟩ ⟨rfl,kv,hkv,rfl⟩
   have ep:=bu hi
   obtain ⟨qq,eq,h1,h2,_⟩:=h.find ep
   rw [sW ep eq] at hkv
   cases hkv
   have hq:=g _ _ (dX h.dF h1 (fun k z=>by cases z))
   refine ⟨_,Z,qq.1,T.part,qq.2.1,_,_,Z,hq,X.cP,X.tW,Z,ha,g.cN hacc _,?_⟩
   rw [take_snoc ep,e,bM,bM]
   rfl
 rintro out H1 fY ha ⟨g,e⟩
 rw [cK] at e
 have hz:=g _ _ (ah (H:=H) (a:=A.ab) (o:= .eX o (.dK (cj st.aj A.qs))))
 have na:acc≠A.ab:=fun e=>by rw [e,hz] at ha;cases ha
 exact ⟨hz,acc,st.aj.map (fun p:Pt=>p.wo),Z,aH.of (by rw [az na,ha,e]),q _ (pY h.dF g)⟩
abbrev jK:Stmt:=inClass (top 21) 25
abbrev gx:List Str:=["self","tops"]
abbrev xW:List Str:=gx
theorem wk:aO xW gx (aC jK):=dN
theorem wm {T:TC} (F:gJ K T.hold "beyond_common" "Hold.beyond_common" jK f fd) (X:Txt K T) (iA:mg "zip"=none):Mn P w K mg base 1 T.hold "beyond_common" gx (O9 T K):=by
 refine F.oA wk fun cdv A outer s H vs Q E hr h=>?_
 obtain ⟨⟨n,ρ,A,st,l,tops,rfl,h,hS,htl,hle,q⟩⟩:=h
 refine ⟨_,(@cT.h _ _ _ (av (bh (gP ["top","common"] [none,none] rfl (p8 K (by rfl) iA (af (qv 1) (af (aI K (qv 0)) aq))) (fun _ _ _ _=>(iF K (n:=2) rfl (cA (aV (i:=0) (show List.Nodup (["top","common"] :List Str) from by decide +kernel)) (cA (aV (i:=1) (show List.Nodup (["top","common"] :List Str) from by decide +kernel)) iE)))) (fun _ _ _ _=>(aG kW (qv 0) (qv 1))) rfl (by rfl))))),?_⟩
 refine ⟨_,Z,_,Z,A.a,T.hold,A.dx,_,_,Z,h.oa,X.cH,X.yH,Z,_,_,_,_,_,_,Z, .lst hS, .lst (aH.of h.i6),fun acc hacc=>?_⟩
 refine vX (K:=K) (n:=tops.length) [0,1] (fun i out H1=>aP H H1/\out=(List.zipWith (fun t c=>t-c) (tops.take i) (st.bq.take i)).map V.int) (by decide) (by omega) ⟨aD hacc _,Z⟩ (fun i out H1 hi _ hp=>⟨hp.1.seq hS,hp.1.seq (aH.of h.i6),by rw [aE];exact hi,by rw [aE];omega⟩)
  (fun out H1 _ hp=>⟨hp.1.seq hS,hp.1.seq (aH.of h.i6), .inl (by rw [aE];exact aK _)⟩) ?_ ?_
 . rintro i x out H1 H2 hi fY ha ⟨g,e⟩ ⟨p,x1,y1,hp,rfl,rfl,e1,e2⟩
   obtain ⟨t,rfl,et⟩:=fZ e1
   obtain ⟨c,rfl,ec⟩:=fZ e2
   have g1:=aD hp (.tup [.int t, .int c])
   refine ⟨p,_,Z,bN.of ah,Z,_,Z,_,Z,_,_,Z,Z,g1 _ _ ha,(g.trans g1).cN hacc _,?_⟩
   rw [rj _ et ec,e,bM]
   rfl
 rintro out H1 fY ha ⟨g,e⟩
 rw [cK,htl,cK] at e
 exact q acc H1 g hacc (by rw [ha,e];rfl)
abbrev o6:Stmt:=inClass (top 21) 24
abbrev iH:List Str:=["self","part"]
abbrev Eg:List Str:=iH
theorem C8:aO Eg iH (aC o6):=dN
theorem C_ {T:TC} (F:gJ K T.hold "tops_of" "Hold.tops_of" o6 f fd) (X:Txt K T) (iA:mg "zip"=none):Mn P w K mg base 1 T.hold "tops_of" iH (z7 T):=by
 refine F.oA C8 fun cdv A outer s H vs Q E hr h=>?_
 obtain ⟨⟨n,ρ,A,st,ip,pt,qq,rfl,h,wf,ep,eq,q⟩⟩:=h
 obtain ⟨h1,h2,_⟩:=h.opt ip pt qq ep eq
 have dR:=bX ep
 refine ⟨_,(@cT.h _ _ _ (av (bh (gP ["own","common","part"] [none,none,some 1] rfl (p8 K (by rfl) iA (af (aI K (qv 1)) (af (aI K (qv 0)) aq))) (fun _ _ _ _=>(iF K (n:=2) rfl (cA (aV (i:=0) (show List.Nodup (["own","common","part"] :List Str) from by decide +kernel)) (cA (aV (i:=1) (show List.Nodup (["own","common","part"] :List Str) from by decide +kernel)) iE)))) (fun _ _ _ _=>(aG cI (aG fK (aI K (qv 2)) (qv 0)) (qv 1))) rfl (by rfl))))),?_⟩
 have Z_:pt.row.length=st.bq.length:=by rw [wf.rows pt dR,wf.fW]
 have hcl:st.bq.length<=100:=by rw [wf.fW];exact wf.jV
 refine ⟨_,Z,qq.1,T.part,qq.2.1,_,_,Z,h1,X.cP,X.IM,Z,_,Z,A.a,T.hold,A.dx,_,_,Z,h.oa,X.cH,X.yH,Z,_,_,_,_,_,_,Z, .lst (aH.of h2), .lst (aH.of h.i6),fun acc hacc=>?_⟩
 refine vX (K:=K) (n:=pt.row.length) [0,1] (fun i out H1=>aP H H1/\out=(List.zipWith (fun r c=>pt.sc*r+c) (pt.row.take i) (st.bq.take i)).map V.int) (by decide) (by omega) ⟨aD hacc _,Z⟩ (fun i out H1 hi _ hp=>⟨hp.1.seq (aH.of h2),hp.1.seq (aH.of h.i6),by rw [aE];exact hi,by rw [aE];omega⟩)
  (fun out H1 _ hp=>⟨hp.1.seq (aH.of h2),hp.1.seq (aH.of h.i6), .inl (by rw [aE];exact aK _)⟩) ?_ ?_
 . rintro i x out H1 H2 hi fY ha ⟨g,e⟩ ⟨p,x1,y1,hp,rfl,rfl,e1,e2⟩
   obtain ⟨t,rfl,et⟩:=fZ e1
   obtain ⟨c,rfl,ec⟩:=fZ e2
   have g1:=aD hp (.tup [.int t, .int c])
   have s1:Jm.Sz 8000 pt.sc:=Jm.Sz.kX (by have:=wf.oK pt dR;have:=wf.eY;omega) (wf.oK pt dR).2 wf.big
   have s2:Jm.Sz 8000 t:=Jm.Sz.kX (wf.mh pt dR t (bX et)).1 (wf.mh pt dR t (bX et)).2 wf.big
   refine ⟨p,_,Z,bN.of ah,Z,_,Z,qq.1,T.part,qq.2.1,_,_,Z,(g.trans g1) _ _ h1,X.cP,X.E6,Z,_,Z,_,_,Z,Z,fu s1 s2,_,Z,_,_,Z,Z,g1 _ _ ha,(g.trans g1).cN hacc _,?_⟩
   rw [rj _ et ec,e,bM]
   rfl
 rintro out H1 fY ha ⟨g,e⟩
 rw [cK,Z_,cK] at e
 exact q acc H1 g hacc (by rw [ha,e];rfl)
abbrev uf:Stmt:=inClass (top 21) 22
abbrev mF:List Str:=["self","part"]
abbrev LO:List Str:=mF
theorem J3:aO LO mF (aC uf):=dN
theorem J4 {T:TC} (F:gJ K T.hold "stow" "Hold.stow" uf f fd) (X:Txt K T):Mn P w K mg base 1 T.hold "stow" mF (IU T):=by
 refine F.oA J3 fun cdv A outer s H vs Q E hr h=>?_
 obtain ⟨⟨n,ρ,A,st,qq,p,rfl,hh,h1,h2,c1,c2,hn,wf',q⟩⟩:=h
 have h:=hh.h
 refine ⟨_,(@cT.h _ _ _ (ak (tD (dz hr) (aI K (qv 0)) (aI K (qv 1)) (qv 1) rfl)
  (av (tD (dz hr) (aI K (qv 0)) (aI K (qv 1)) xF rfl)))),?_⟩
 have zx:∀x∈st.aj,x.nm≠p.nm:=fun x hx e=>hn (by rw [<-e];exact hh.wf.sub x hx)
 have lab:(cj st.aj A.qs).length<sizeLine:=by rw [sX h.ql];exact dh hh.wf.l_
 refine ⟨_,Z,_,Z,A.a,T.hold,A.dx,_,_,Z,h.oa,X.cH,X.hab,Z,_,Z,qq.1,T.part,qq.2.1,_,_,Z,h1,X.cP,X.Rq,Z,A.ab,_,Z,vt.k (k:=Sum.inr p.nm) h.dF lab,?_⟩
 rw [nc _ (tY zx),<-T8 h.ql p qq]
 have k1:qq.1≠qq.2.2:=iX h1 h2 (by intro z;cases z)
 have f1:Kp n ρ (cR (cR ρ qq.1 (n,20,p.nm)) qq.2.2 (n,21,p.nm)) H H (fun _=>true):=⟨fun _ _ e=>e,fun b t x o _ c e=>⟨e,by
  rw [cJ (fun z=>by rw [z,c2] at c;cases c),cJ (fun z=>by rw [z,c1] at c;cases c)];exact c⟩⟩
 have hc:=h.same f1
 have g1:Gh (cR (cR ρ qq.1 (n,20,p.nm)) qq.2.2 (n,21,p.nm)) H:=(hh.g.color h1 rfl).color h2 rfl
 have fr1:IT n qq.1 qq.2.2 ρ H (cR (cR ρ qq.1 (n,20,p.nm)) qq.2.2 (n,21,p.nm)) H:=fun b o e k n1 n2=>⟨e,by rw [cJ n2,cJ n1]⟩
 have hs:=hc.IL g1 (st.aj++[p]) (A.qs++[qq]) (by rw [dg,dg,h.ql];rfl) (fun i x y ex ey=>by
  by_cases hi:i<st.aj.length
  . rw [DB hi] at ex
    rw [DB (by rw [h.ql];exact hi)] at ey
    exact hc.opt i x y ex ey
  . rw [HL (by omega)] at ex
    rw [HL (by rw [h.ql];omega),h.ql] at ey
    have e0:i-st.aj.length=0:=by
     rcases Nat.eq_zero_or_pos (i-st.aj.length) with z|z
     . exact z
     . rw [wI (by show 1<=_;exact z)] at ex;cases ex
    rw [e0] at ex ey
    cases ex;cases ey
    exact ⟨h1,h2,by rw [cJ k1];exact dH,dH⟩)
 have g2:=g1.wr (a:=A.ab) (o:= .dK (cj (st.aj++[p]) (A.qs++[qq]))) rfl
 have fr2:Fr n _ H _ (upd H A.ab (.dK (cj (st.aj++[p]) (A.qs++[qq])))):=Fr.write hc.gc
 have Ct:upd H A.ab (.dK (cj (st.aj++[p]) (A.qs++[qq]))) qq.1=some (.ins T.part qq.2.1 (cU p qq.2.2)):=by rw [az (iX h1 h.dF (by intro z;cases z))];exact h1
 refine ⟨_,Z,A.a,T.hold,A.dx,_,_,Z,hs.oa,X.cH,X.hnm,Z,_,Z,qq.1,T.part,qq.2.1,_,_,Z,Ct,X.cP,X.Rq,Z,A.nm,_,Z,vt.k (k:=Sum.inr p.nm) hs.q_ (by unfold yF;rw [aE];exact dh hh.wf.xj),?_⟩
 rw [nc _ (yJ hn),show yF st.nms++[(Sum.inr p.nm,V.bl true)]=yF (st.nms++[p.nm]) from by unfold yF;rw [bM];rfl]
 have hs2:=hs.Zj g2 (st.nms++[p.nm])
 exact q _ _ _ ⟨g2.wr rfl,hs2,wf'⟩ rfl (fr1.trans (fr2.trans (Fr.write hs.iP)))
abbrev ug:Stmt:=inClass (top 21) 1
abbrev mG:List Str:=["self","owner"]
abbrev LP:List Str:=mG.append ["part"]
theorem zz:aO LP mG (aC ug):=dN
theorem J5 {T:TC} (F:gJ K T.hold "sign" "Hold.sign" ug f fd) (X:Txt K T) (nW:Dn P w K mg base 2 "is_name" rJ w_) (b_:mg "len"=none):Mn P w K mg base 3 T.hold "sign" mG (DW T):=by
 refine F.oA zz fun cdv A outer s H vs Q E hr h=>?_
 obtain ⟨⟨n,ρ,A,st,o,rfl,hh,hx,hn,hl,q⟩⟩:=h
 refine ⟨_,(@cT.h _ _ _ (ak (b9 (Ju (v8 (bR nW hr (af (qv 1) aq)))) (av qb) bw)
  (ak (b9 (v_ (Jt (dz hr) (qv 1) (aI K (qv 0)))) (av qb) bw)
  (ak (tD (dz hr) (aI K (qv 0)) (qv 1) (bF uR (by rfl) b_ gb (af (aI K (qv 0)) aq)) rfl)
  (ak (cy (jZ m9 m7 m8 dU (aI K (qv 0)) (af ai aq)))
  (ak (cy (jZ m9 m7 m8 dU (aI K (qv 0)) (af ai aq)))
  (av (wg (fE f_ rfl (v9 (aI K (qv 0))) (aV (i:=2) zz.nd) (av (cy (jZ m9 m7 m8 dU (aI K (qv 2)) (af ai aq))))))))))))),?_⟩
 refine ⟨_,Z,Ci (cs:=o.cps.toList) (IZ hx) fun H1 g1=>⟨_,Z,?_⟩⟩
 rw [show isName o.cps.toList=true from hx]
 refine gr ?_
 have jL:=hh.mono g1
 have h1:=jL.h
 have F1:Fr n ρ H ρ H1:=Fr.of_same g1
 refine ⟨_,Z,_,Z,A.a,T.hold,A.dx,_,_,Z,h1.oa,X.cH,X.hpl,Z,A.pl,_,Z,ee.k (k:=Sum.inr o) h1.iB,_,Z,?_⟩
 rw [oM hn]
 refine gr ?_
 have Ay:=oN st.own 0
 refine ⟨_,Z,A.a,T.hold,A.dx,_,_,Z,h1.oa,X.cH,X.hpl,Z,A.pl,_,Z,h1.iB,_,Z,A.a,T.hold,A.dx,_,_,Z,h1.oa,X.cH,X.hpl,Z,_,Z,A.pl,_,Z,vt.k (k:=Sum.inr o) h1.iB (dh (by rw [Ay];omega)),?_⟩
 rw [nc _ (oM hn),Ay,show fP 0 st.own++[(Sum.inr o,V.int (st.own.length:Int))]=fP 0 (st.own++[o]) from by rw [IP,Nat.zero_add]]
 have h2:=h1.Zh jL.g (st.own++[o])
 have G2:=jL.g.wr (a:=A.pl) (o:= .dK (fP 0 (st.own++[o]))) rfl
 have F2:=F1.trans (Fr.write (o:= .dK (fP 0 (st.own++[o]))) h1.iC)
 generalize upd H1 A.pl (.dK (fP 0 (st.own++[o])))=H2 at *
 have lcm:(st.bq.map V.int).length<sizeLine:=by rw [aE,hh.wf.fW];exact dh (by omega)
 refine ⟨_,Z,A.a,T.hold,A.dx,_,_,Z,h2.oa,X.cH,X.yH,Z, .inl ⟨Z,_,aH.of h2.i6⟩,A.cm,_,_,Z,Z,h2.i6,lcm,?_⟩
 rw [show st.bq.map V.int++[V.int 0]=(st.bq++[0]).map V.int from by rw [bM];rfl]
 have h3:=h2.Zk G2 (st.bq++[0])
 have G3:=G2.wr (a:=A.cm) (o:= .lst ((st.bq++[0]).map V.int)) rfl
 have F3:=F2.trans (Fr.write (o:= .lst ((st.bq++[0]).map V.int)) h2.jf)
 generalize upd H2 A.cm (.lst ((st.bq++[0]).map V.int))=H3 at *
 have lpu:(st.bD.map V.int).length<sizeLine:=by rw [aE,hh.wf.l9];exact dh (by omega)
 refine ⟨_,Z,A.a,T.hold,A.dx,_,_,Z,h3.oa,X.cH,X.As,Z, .inl ⟨Z,_,aH.of h3.kM⟩,A.pu,_,_,Z,Z,h3.kM,lpu,?_⟩
 rw [show st.bD.map V.int++[V.int 0]=(st.bD++[0]).map V.int from by rw [bM];rfl]
 have h4:=h3.Zl G3 (st.bD++[0])
 have G4:=G3.wr (a:=A.pu) (o:= .lst ((st.bD++[0]).map V.int)) rfl
 have F4:=F3.trans (Fr.write (o:= .lst ((st.bD++[0]).map V.int)) h3.cpu)
 generalize upd H3 A.pu (.lst ((st.bD++[0]).map V.int))=H4 at *
 clear h1 h2 h3 G2 G3 F2 F3 jL
 have hpl:=hh.wf.l_
 refine ⟨A.ab,_,h4.dF,fun ob=>?_⟩
 refine ⟨_,Z,A.a,T.hold,A.dx,_,_,Z,dX h4.dF h4.oa (fun k z=>by cases z),X.cH,X.hab,Z,A.ab,ob,_,Z,ah,?_⟩
 have el:=sX h4.ql
 have el0:(cj st.aj A.qs).length=st.aj.length:=el
 refine tT (n:=st.aj.length) (fun i σ H'=>(∃s2,σ=[some (.ref A.a),some (.str o),s2])/\nP H' A.ab ob (cj st.aj A.qs)/\∃H5,H'=upd H5 A.ab (.eX ob (.dK (cj st.aj A.qs)))/\Gh ρ H5/\Fr n ρ H ρ H5/\
   aN T n ρ A H5 { st with own:=st.own++[o],bq:=st.bq++[0],bD:=st.bD++[0],aj:=(st.aj.take i).map (fun p=>{ p with row:=p.row++[0] })++st.aj.drop i })
  ⟨⟨_,Z⟩,ah,H4,Z,G4,F4,h4⟩ (fun i σ H' hi hp=>⟨hp.2.1,by rw [el0];exact hi⟩) (fun σ H' hp=>⟨hp.2.1,by rw [el0];exact aK _⟩) ?_ ?_
 . rintro i x σ H' CA hi ⟨⟨s2,rfl⟩,hz,H5,rfl,G5,F5,h5⟩ ⟨rfl,kv,hkv,rfl⟩
   have ep:=bu hi
   have ep5:=I_ (fun p:Pt=>{ p with row:=p.row++[0] }) ep
   obtain ⟨qq,eq,k1,k2,k3,k4⟩:=h5.find ep5
   rw [sW ep eq] at hkv
   cases hkv
   have VB:=pZ (fun p:Pt=>{ p with row:=p.row++[0] }) (fun p:Pt=>p.nm) (fun _=>rfl) st.aj i
   have nd5:(((st.aj.take i).map (fun p:Pt=>{ p with row:=p.row++[0] })++st.aj.drop i).map (fun p:Pt=>p.nm)).Nodup:=by rw [VB];exact hh.wf.dw
   have z1:=dX (o:=ob) h5.dF k1 (fun k z=>by cases z)
   have z2:=dX (o:=ob) h5.dF k2 (fun k z=>by cases z)
   rw [show cj ({ st with own:=st.own++[o],bq:=st.bq++[0],bD:=st.bD++[0],aj:=(st.aj.take i).map (fun p:Pt=>{ p with row:=p.row++[0] })++st.aj.drop i }:HS).aj A.qs=cj st.aj A.qs from nR VB] at z1 z2
   have hrl:((st.aj[i]).row.map V.int).length<sizeLine:=by rw [aE,hh.wf.rows _ (yq hi)];exact dh (by omega)
   refine ⟨_,Z,qq.1,T.part,qq.2.1,_,_,Z,z1,X.cP,X.IM,Z, .inl ⟨Z,_,aH.of z2⟩,qq.2.2,_,_,Z,Z,z2,hrl,?_⟩
   have na:A.ab≠qq.2.2:=(iX k2 h5.dF (by intro z;cases z)).symm
   rw [show (st.aj[i]).row.map V.int++[V.int 0]=((st.aj[i]).row++[0]).map V.int from by rw [bM];rfl]
   have h6:=h5.WM G5 ((st.aj[i]).row++[0]) ep5 eq nd5
   rw [show ({ st with own:=st.own++[o],bq:=st.bq++[0],bD:=st.bD++[0],aj:=(st.aj.take i).map (fun p:Pt=>{ p with row:=p.row++[0] })++st.aj.drop i }:HS).aj.set i { st.aj[i] with row:=(st.aj[i]).row++[0] }=_ from Ja (fun p:Pt=>{ p with row:=p.row++[0] }) ep] at h6
   exact ⟨⟨_,Z⟩,(az na).trans hz,_,jW na,G5.wr rfl,F5.trans (Fr.write k4),h6⟩
 . rintro σ H' ⟨_,hz,H5,rfl,G5,F5,h5⟩
   have VB:=pZ (fun p:Pt=>{ p with row:=p.row++[0] }) (fun p:Pt=>p.nm) (fun _=>rfl) st.aj st.aj.length
   have e5:cj ({ st with own:=st.own++[o],bq:=st.bq++[0],bD:=st.bD++[0],aj:=(st.aj.take st.aj.length).map (fun p:Pt=>{ p with row:=p.row++[0] })++st.aj.drop st.aj.length }:HS).aj A.qs=cj st.aj A.qs:=nR VB
   have h5':=h5.dF
   rw [e5] at h5'
   refine ⟨hz,?_⟩
   rw [nK,xm h5']
   have es:({ st with own:=st.own++[o],bq:=st.bq++[0],bD:=st.bD++[0],aj:=(st.aj.take st.aj.length).map (fun p:Pt=>{ p with row:=p.row++[0] })++st.aj.drop st.aj.length }:HS)=eO st o:=by
    unfold eO
    rw [cK,List.drop_length,BA]
   rw [es] at h5
   exact q ρ A H5 ⟨G5,h5,DX hh.wf hn hl⟩ rfl F5
abbrev uh:Stmt:=inClass (top 21) 2
abbrev qJ:List Str:=["self","part","owner","worth","weight"]
abbrev LQ:List Str:=qJ.append ["place","tops"]
theorem um:aO LQ qJ (aC uh):=dN
theorem J6 {T:TC} (F:gJ K T.hold "load" "Hold.load" uh f fd) (X:Txt K T) (nF:Mn P w K mg base 3 T.hold "check_new" iV (Cv T)) (cX:Mn P w K mg base 1 T.hold "place_of" eV (vZ T))
  (fC:Mn P w K mg base 1 T.hold "beyond_common" gx (O9 T K)) (kr:Mn P w K mg base 1 T.hold "stow" mF (IU T)) (wu:Cn P w K mg base 1 "Part" T.part ["self","name","owner","worth","weight","scale","row"] (DV T K)) (b_:mg "len"=none):Mn P w K mg base 4 T.hold "load" qJ (Rv T):=by
 refine F.oA um fun cdv A outer s H vs Q E hr h=>?_
 obtain ⟨⟨n,ρ,A,st,x,o,wo,we,rfl,hh,hx,hn,ho,h4,h5,h6,h7,q⟩⟩:=h
 refine ⟨_,(@cT.h _ _ _ (ak (cy (bY nF hr (qv 0) (af (qv 1) aq)))
  (ak (aT (i:=5) um.nd (bY cX hr (qv 0) (af (qv 2) aq)))
  (ak (b9 (jF (bW.pt (CI (aR qC (qv 3) ai (aX _)) (yX (aR qC (qv 4) ai (aX _)))))) (av qb) bw)
  (ak (aT (i:=6) um.nd (aG QM (ir (af ai aq)) (bF uR (by rfl) b_ gb (af (aI K (qv 0)) aq))))
  (ak (mC (aI K (aI K (qv 0))) (mD (qv 6) (qv 5) set_list))
  (av (cy (bY kr hr (qv 0) (af (Vz wu hr (af (qv 1) (af (qv 2) (af (qv 3) (af (qv 4) (af ai (af (bY fC hr (qv 0) (af (qv 6) aq)) aq))))))) aq)))))))))),?_⟩
 refine ⟨_,Z,A.a,A.dx,_,Z,hh.h.oa,Z,_,Z,⟨⟨n,ρ,A,st,x,Z,hh.h,hx,hn,fun H1 g1=>?_⟩⟩⟩
 have jL:=hh.mono g1
 have F1:Fr n ρ H ρ H1:=Fr.of_same g1
 clear hh
 refine ⟨_,Z,A.a,A.dx,_,Z,jL.h.oa,Z,_,Z,⟨⟨n,ρ,A,st,o,Z,jL.h,ho,?_⟩⟩⟩
 refine ⟨false,⟨_,Z,_,_,Z,Z,_,Z,aM (fun c=>absurd (aZ c) (by omega)) fun _=>⟨_,Z,_,_,Z,Z,_,Z,cV (by omega),Z⟩⟩,gr ?_⟩
 refine ⟨(gD 1),fun p0 hp0=>?_⟩
 have g2:=aD hp0 (.lst [.int 0])
 have kP:=jL.mono g2
 have F2:=F1.trans (Fr.of_same (ρ:=ρ) g2)
 have UH:upd H1 p0 (.lst [.int 0]) p0=some (.lst [.int 0]):=ah
 generalize upd H1 p0 (.lst [.int 0])=H2 at *
 clear jL F1
 have Ay:=oN st.own 0
 have fY:=kP.wf.jV
 refine ⟨_,Z,A.a,T.hold,A.dx,_,_,Z,kP.h.oa,X.cH,X.hpl,Z,A.pl,_,Z,kP.h.iB,p0,_,_,Z,Z,UH,by omega,by rw [Ay];omega,by rw [Ay];show 1*_<=_;rw [rM,Nat.one_mul];exact small (by omega),fun p1 hp1=>?_⟩
 rw [Ay,rM,show (List.replicate st.own.length [V.int 0]).flatten=(List.replicate st.own.length (0:Int)).map V.int from by rw [List.map_replicate,List.flatten_replicate_singleton]]
 have g3:=aD hp1 (.lst ((List.replicate st.own.length (0:Int)).map V.int))
 have mH:=kP.mono g3
 have F3:=F2.trans (Fr.of_same (ρ:=ρ) g3)
 have n1:H p1=none:=(g1.trans g2).free hp1
 have c1:ρ p1=none:=kP.g.none hp1
 have zA:upd H2 p1 (.lst ((List.replicate st.own.length (0:Int)).map V.int)) p1=_:=ah
 generalize upd H2 p1 (.lst ((List.replicate st.own.length (0:Int)).map V.int))=H3 at *
 have hi:=List.idxOf_lt_length_iff.mpr ho
 refine ⟨_,Z,A.a,T.hold,A.dx,_,_,Z,mH.h.oa,X.cH,X.vY,Z,A.bt,T.bot,A.db,_,_,Z,mH.h.jv,X.cB,X.Nh,Z,_,Z,_,Z,p1,_,_,st.own.idxOf o,Z,Z,zA,by rw [aE,nX];exact vV hi,?_⟩
 rw [show ((List.replicate st.own.length (0:Int)).map V.int).set (st.own.idxOf o) (V.int st.prod)=((List.replicate st.own.length (0:Int)).set (st.own.idxOf o) st.prod).map V.int from by rw [oj]]
 have rK:=mH.Cy (o:= .lst (((List.replicate st.own.length (0:Int)).set (st.own.idxOf o) st.prod).map V.int)) c1 zA rfl rfl
 have F4:=F3.new (o:= .lst (((List.replicate st.own.length (0:Int)).set (st.own.idxOf o) st.prod).map V.int)) n1
 have UI:upd H3 p1 (.lst (((List.replicate st.own.length (0:Int)).set (st.own.idxOf o) st.prod).map V.int)) p1=_:=ah
 have s4:aP H (upd H3 p1 (.lst (((List.replicate st.own.length (0:Int)).set (st.own.idxOf o) st.prod).map V.int))):=((g1.trans g2).trans g3).cN n1 _
 generalize upd H3 p1 (.lst (((List.replicate st.own.length (0:Int)).set (st.own.idxOf o) st.prod).map V.int))=H4 at *
 clear kP mH F2 F3
 refine ⟨_,Z,A.a,A.dx,_,Z,rK.h.oa,Z,_,Z,_,Z,_,Z,_,Z,_,Z,A.a,A.dx,_,Z,rK.h.oa,Z,_,Z,⟨⟨n,ρ,A,st,p1,_,Z,rK.h,aH.of UI,by rw [iw,nX,rK.wf.fW],by rw [iw,nX];omega,fun r H5 g5 hr5 UJ=>?_⟩⟩⟩
 intro y dy hy hdy hyd
 have hr6:upd (upd H5 dy (.own y)) y (.ins T.part dy []) r=some (.lst ((kY st ((List.replicate st.own.length 0).set (st.own.idxOf o) st.prod)).map V.int)):=by rw [az (aF UJ hy),az (aF UJ hdy)];exact UJ
 refine ⟨⟨y,dy,r,⟨x,o,wo,we,1,kY st ((List.replicate st.own.length 0).set (st.own.idxOf o) st.prod)⟩,Z,ah,aH.of hr6,fun rr H6 hrr k6 hy6 UK=>⟨Z,?_⟩⟩⟩
 have J7:H5 rr=none:=by
  have e1:rr≠y:=fun e=>by rw [e,ah] at hrr;cases hrr
  have e2:rr≠dy:=fun e=>by rw [e,az hyd,ah] at hrr;cases hrr
  rw [az e1,az e2] at hrr;exact hrr
 have g6:aP H5 H6:=fun b u e=>k6 b u (by rw [az (aF e hy),az (aF e hdy)];exact e) (aF e hy)
 have Az:=rK.mono g5
 have J8:=Az.mono g6
 have F6:=F4.trans (Fr.of_same (ρ:=ρ) (g5.trans g6))
 exact ⟨⟨n,ρ,A,st,(y,dy,rr),_,Z,J8,hy6,UK,Az.g.none hy,Az.g.none J7,hn,Np rK.wf hn h6 h7 ho h4 h5,fun ρ' A' H' a1 a2 a3=>q ρ' A' H' a1 a2 (a3.fr F6 ((s4.trans g5).free hy) ((s4.trans g5).free J7))⟩⟩
abbrev uo:Stmt:=inClass (top 21) 0
abbrev vE:List Str:=["self"]
abbrev LR:List Str:=vE
theorem J9:aO LR vE (aC uo):=dN
theorem J_ {T:TC} (F:E5 K mg "Hold" T.hold "Hold.__init__" uo f fd) (X:Txt K T) (Bj:Cn P w K mg base 1 "Bottom" T.bot ["self"] (Nj T)):Cn P w K mg base 3 "Hold" T.hold vE (Nk T):=by
 refine F.oA J9 fun cdv A outer s H vs Q E hr h=>?_
 obtain ⟨⟨p,dx,ρ,n,rfl,hp,g,hρ,q⟩⟩:=h
 refine ⟨_,(@cT.h _ _ _ (ak (dD K (qv 0) qa)
  (ak (dD K (qv 0) qa)
  (ak (dD K (qv 0) (ir aq))
  (ak (dD K (qv 0) qa)
  (ak (dD K (qv 0) (RO Bj hr))
  (ak (dD K (qv 0) (ir aq))
  (av (dD K (qv 0) (ir aq)))))))))),?_⟩
 have M0:jg p H ρ H ρ [] :=⟨(fun _ m=>absurd m (by simp)),fun b o e _=>⟨e,Z⟩,g,_,hp⟩
 intro pl hpl
 have M1:=(M0.new (o:= .dK []) (c:=(n,1,⟨#[]⟩)) hpl rfl)
 refine ⟨_,Z,p,T.hold,dx,_,Z,by rw [az (aF hp hpl)];exact hp,X.cH,X.hpl,by show 0<1000;decide,?_⟩
 have M2:=M1.wr (u:= .ins T.hold dx (aU "places" (.ref pl) [])) rfl
 have hp2:upd (upd H pl (.dK [])) p (.ins T.hold dx (aU "places" (.ref pl) [])) p=_:=ah
 generalize upd (upd H pl (.dK [])) p (.ins T.hold dx (aU "places" (.ref pl) []))=H2 at *
 clear M0 M1
 intro ab hab
 have M3:=(M2.new (o:= .dK []) (c:=(n,2,⟨#[]⟩)) hab rfl)
 refine ⟨_,Z,p,T.hold,dx,_,Z,by rw [az (aF hp2 hab)];exact hp2,X.cH,X.hab,by show 1<1000;decide,?_⟩
 have M4:=M3.wr (u:= .ins T.hold dx (aU "aboard" (.ref ab) (aU "places" (.ref pl) []))) rfl
 have hp4:upd (upd H2 ab (.dK [])) p (.ins T.hold dx (aU "aboard" (.ref ab) (aU "places" (.ref pl) []))) p=_:=ah
 generalize upd (upd H2 ab (.dK [])) p (.ins T.hold dx (aU "aboard" (.ref ab) (aU "places" (.ref pl) [])))=H4 at *
 clear M2 M3
 refine ⟨(gD 0),fun as has=>?_⟩
 have M5:=(M4.new (o:= .lst []) (c:=(n,3,⟨#[]⟩)) has rfl)
 refine ⟨_,Z,p,T.hold,dx,_,Z,by rw [az (aF hp4 has)];exact hp4,X.cH,X.has,by show 2<1000;decide,?_⟩
 have M6:=M5.wr (u:= .ins T.hold dx (aU "ashore" (.ref as) (aU "aboard" (.ref ab) (aU "places" (.ref pl) [])))) rfl
 have VC:upd (upd H4 as (.lst [])) p (.ins T.hold dx (aU "ashore" (.ref as) (aU "aboard" (.ref ab) (aU "places" (.ref pl) [])))) p=_:=ah
 generalize upd (upd H4 as (.lst [])) p (.ins T.hold dx (aU "ashore" (.ref as) (aU "aboard" (.ref ab) (aU "places" (.ref pl) []))))=H6 at *
 clear M4 M5
 intro nm hnm
 have M7:=(M6.new (o:= .dK []) (c:=(n,4,⟨#[]⟩)) hnm rfl)
 refine ⟨_,Z,p,T.hold,dx,_,Z,by rw [az (aF VC hnm)];exact VC,X.cH,X.hnm,by show 3<1000;decide,?_⟩
 have M8:=M7.wr (u:= .ins T.hold dx (aU "names" (.ref nm) (aU "ashore" (.ref as) (aU "aboard" (.ref ab) (aU "places" (.ref pl) []))))) rfl
 have hp8:upd (upd H6 nm (.dK [])) p (.ins T.hold dx (aU "names" (.ref nm) (aU "ashore" (.ref as) (aU "aboard" (.ref ab) (aU "places" (.ref pl) []))))) p=_:=ah
 generalize upd (upd H6 nm (.dK [])) p (.ins T.hold dx (aU "names" (.ref nm) (aU "ashore" (.ref as) (aU "aboard" (.ref ab) (aU "places" (.ref pl) [])))))=H8 at *
 clear M6 M7
 intro bt db vY hdb hne
 refine ⟨⟨bt,db,Z,ah,fun sp kn H9 oF hkn hsk k9 NV hs9 hk9=>⟨Z,?_⟩⟩⟩
 have s9:aP H8 H9:=fun b o e=>k9 b o (by rw [az (aF e vY),az (aF e hdb)];exact e) (aF e vY)
 have fr:∀{c:Addr},upd (upd H8 db (.own bt)) bt (.ins T.bot db []) c=none->H8 c=none:=fun {c} e=>by
  have e1:c≠bt:=fun z=>by rw [z,ah] at e;cases e
  have e2:c≠db:=fun z=>by rw [z,az hne,ah] at e;cases e
  rw [az e1,az e2] at e;exact e
 have aah:=fr oF
 have aai:=fr hkn
 have M9:=M8.same s9
 have M10:=M9.add (c:=(n,5,⟨#[]⟩)) NV rfl M8 vY (fun e he=>aF (M8.m e he).1 vY)
 have M11:=M10.add (c:=(n,8,⟨#[]⟩)) hs9 rfl M8 aah (fun e he=>by
  rcases bP.mp he with rfl|he
  . exact iX NV hs9 (by intro z;cases z)
  . exact aF (M8.m e he).1 aah)
 have M12:=M11.add (c:=(n,9,⟨#[]⟩)) hk9 rfl M8 aai (fun e he=>by
  rcases bP.mp he with rfl|he
  . exact iX hs9 hk9 (by intro z;cases z)
  rcases bP.mp he with rfl|he
  . exact iX NV hk9 (by intro z;cases z)
  . exact aF (M8.m e he).1 aai)
 have hp9:=s9 _ _ hp8
 refine ⟨_,Z,p,T.hold,dx,_,Z,hp9,X.cH,X.vY,by show 4<1000;decide,?_⟩
 have M13:=M12.wr (u:= .ins T.hold dx (aU "bottom" (.ref bt) (aU "names" (.ref nm) (aU "ashore" (.ref as) (aU "aboard" (.ref ab) (aU "places" (.ref pl) [])))))) rfl
 have zA:upd H9 p (.ins T.hold dx (aU "bottom" (.ref bt) (aU "names" (.ref nm) (aU "ashore" (.ref as) (aU "aboard" (.ref ab) (aU "places" (.ref pl) [])))))) p=_:=ah
 generalize upd H9 p (.ins T.hold dx (aU "bottom" (.ref bt) (aU "names" (.ref nm) (aU "ashore" (.ref as) (aU "aboard" (.ref ab) (aU "places" (.ref pl) []))))))=VD at *
 clear M8 M9 M10 M11 M12
 refine ⟨(gD 0),fun cm yH=>?_⟩
 have M14:=(M13.new (o:= .lst []) (c:=(n,6,⟨#[]⟩)) yH rfl)
 refine ⟨_,Z,p,T.hold,dx,_,Z,by rw [az (aF zA yH)];exact zA,X.cH,X.yH,by show 5<1000;decide,?_⟩
 have M15:=M14.wr (u:= .ins T.hold dx (aU "common" (.ref cm) (aU "bottom" (.ref bt) (aU "names" (.ref nm) (aU "ashore" (.ref as) (aU "aboard" (.ref ab) (aU "places" (.ref pl) []))))))) rfl
 have aaj:upd (upd VD cm (.lst [])) p (.ins T.hold dx (aU "common" (.ref cm) (aU "bottom" (.ref bt) (aU "names" (.ref nm) (aU "ashore" (.ref as) (aU "aboard" (.ref ab) (aU "places" (.ref pl) []))))))) p=_:=ah
 generalize upd (upd VD cm (.lst [])) p (.ins T.hold dx (aU "common" (.ref cm) (aU "bottom" (.ref bt) (aU "names" (.ref nm) (aU "ashore" (.ref as) (aU "aboard" (.ref ab) (aU "places" (.ref pl) [])))))))=VE at *
 clear M13 M14
 refine ⟨(gD 0),fun pu As=>?_⟩
 have M16:=(M15.new (o:= .lst []) (c:=(n,7,⟨#[]⟩)) As rfl)
 refine ⟨_,Z,p,T.hold,dx,_,Z,by rw [az (aF aaj As)];exact aaj,X.cH,X.As,by show 6<1000;decide,?_⟩
 have M17:=M16.wr (u:= .ins T.hold dx (aU "purses" (.ref pu) (aU "common" (.ref cm) (aU "bottom" (.ref bt) (aU "names" (.ref nm) (aU "ashore" (.ref as) (aU "aboard" (.ref ab) (aU "places" (.ref pl) [])))))))) rfl
 have aal:upd (upd VE pu (.lst [])) p (.ins T.hold dx (aU "purses" (.ref pu) (aU "common" (.ref cm) (aU "bottom" (.ref bt) (aU "names" (.ref nm) (aU "ashore" (.ref as) (aU "aboard" (.ref ab) (aU "places" (.ref pl) [])))))))) p=_:=ah
 generalize upd (upd VE pu (.lst [])) p (.ins T.hold dx (aU "purses" (.ref pu) (aU "common" (.ref cm) (aU "bottom" (.ref bt) (aU "names" (.ref nm) (aU "ashore" (.ref as) (aU "aboard" (.ref ab) (aU "places" (.ref pl) []))))))))=NW at *
 clear M15 M16
 have m:=M17.m
 have zx:∀{a:Addr} {o:HO} {c:qZ} {ρ2:dW},(NW a=some o/\ρ2 a=some c/\a≠p)->NW a=some o/\cR ρ2 p (n,0,⟨#[]⟩) a=some c:=fun h=>⟨h.1,by rw [cJ h.2.2];exact h.2.1⟩
 have a1:=zx (m _ (.head _))
 have a2:=zx (m _ (.tail _ (.head _)))
 have a3:=zx (m _ (.tail _ (.tail _ (.head _))))
 have a4:=zx (m _ (.tail _ (.tail _ (.tail _ (.head _)))))
 have a5:=zx (m _ (.tail _ (.tail _ (.tail _ (.tail _ (.head _))))))
 have a6:=zx (m _ (.tail _ (.tail _ (.tail _ (.tail _ (.tail _ (.head _)))))))
 have a7:=zx (m _ (.tail _ (.tail _ (.tail _ (.tail _ (.tail _ (.tail _ (.head _))))))))
 have a8:=zx (m _ (.tail _ (.tail _ (.tail _ (.tail _ (.tail _ (.tail _ (.tail _ (.head _)))))))))
 have a9:=zx (m _ (.tail _ (.tail _ (.tail _ (.tail _ (.tail _ (.tail _ (.tail _ (.tail _ (.head _))))))))))
 refine q (cR _ p (n,0,⟨#[]⟩)) ⟨p,dx,pl,ab,as,nm,bt,db,cm,pu,sp,kn,[]⟩ NW rfl ⟨M17.g.color aal rfl,⟨aal,dH,a9.1,a9.2,a8.1,a8.2,⟨[],a7.1, .nil⟩,a7.2,a6.1,a6.2,a5.1,a5.2,a2.1,a2.2,a1.1,a1.2,a4.1,a4.2,⟨[],a3.1,(fun x hx=>absurd hx (by simp)),aK _,uM⟩,a3.2,Z,fun i x y ex=>by simp [hs0] at ex⟩,wf0⟩ (fun b o e hb=>?_)
 obtain ⟨x,y⟩:=M17.k b o e hb
 exact ⟨x,by rw [cJ hb];exact y⟩
abbrev nG:Stmt:=inClass (top 21) 27
abbrev kQ:List Str:=["self","amounts"]
abbrev Dc:List Str:=kQ.append ["lost","sums","name","amount","part","many"]
theorem fh:aO Dc kQ (aC nG):=dN
theorem Bk {T:TC} (F:gJ K T.hold "given_up" "Hold.given_up" nG f fd) (X:Txt K T) (iZ:mg "sum"=none) (iA:mg "zip"=none):Mn P w K mg base 1 T.hold "given_up" kQ (Nt T):=by
 refine F.oA fh fun cdv A outer s H vs Q E hr h=>?_
 obtain ⟨⟨n,ρ,A,st,d,rs,rfl,h,wf,hd,cd,hle,vF,q⟩⟩:=h
 refine ⟨_,(@cT.h _ _ _ (ak (aT (i:=2) fh.nd (bF (E4 rfl) (by rfl) iZ DE (af (D3 (qv 1)) aq)))
  (ak (wc (i:=3) ["common","lost"] [none,some 2] fh.nd rfl rfl rfl (d8 K (aI K (qv 0))) (fun _ _ _ _=>(aV (i:=0) (show List.Nodup (["common","lost"] :List Str) from by decide +kernel))) (fun _ _ _ _=>(aG fK (qv 1) (qv 0))) rfl (by rfl) (by rfl))
  (ak (wg (fE f_ rfl (AY (qv 1)) (iF K (n:=2) rfl (cA (aV (i:=4) fh.nd) (cA (aV (i:=5) fh.nd) iE))) (ak (aT (i:=6) fh.nd (dZ (dz hr) (aI K (qv 0)) (qv 4)))
  (ak (aT (i:=7) fh.nd (aG fK (qv 5) (aI K (qv 6))))
  (av (wc (i:=3) ["old","own","many"] [none,none,some 7] fh.nd rfl rfl rfl (p8 K (by rfl) iA (af (qv 3) (af (aI K (qv 6)) aq))) (fun _ _ _ _=>(iF K (n:=2) rfl (cA (aV (i:=0) (show List.Nodup (["old","own","many"] :List Str) from by decide +kernel)) (cA (aV (i:=1) (show List.Nodup (["old","own","many"] :List Str) from by decide +kernel)) iE)))) (fun _ _ _ _=>(aG cI (qv 0) (aG fK (qv 2) (qv 1)))) rfl (by rfl) (by rfl)))))))
  (av (bh (qv 3))))))),?_⟩
 have hcl:st.bq.length<=100:=by rw [wf.fW];exact wf.jV
 have zl:Jm.Sz 1100 (br rs):=by
  have:=Jm.Q0 (n:=60) (ws:=rs.map (·.2)) (fun m hm=>by obtain ⟨r,hr,rfl⟩:=bJ.mp hm;exact (vF r hr).1)
  exact this.mono (by rw [aE];omega)
 have zc:∀c∈st.bq,Jm.Sz 8000 c:=fun c hc=>Jm.Sz.kX (by have:=wf.nj c hc;have:=wf.eY;omega) (wf.nj c hc).2 wf.big
 refine ⟨_,Z,d,_,Z, .inl hd,fun v hv=>⟨v,d,_,rs.map (·.2),Z,ah, .inl (by rw [az (aF hd hv)];exact hd),by unfold gW;rw [c6,c6];rfl,?_⟩⟩
 have g1:=aD hv (kK v d)
 have hd1:=g1 _ _ hd
 have h1:=h.mono g1
 generalize upd H v (kK v d)=H1 at *
 refine ⟨_,Z,A.a,T.hold,A.dx,_,_,Z,h1.oa,X.cH,X.yH,Z,A.cm,Z,⟨_,aH.of h1.i6⟩,fun l0 rL=>?_⟩
 refine jD (J:=x_ K A.cm) (n:=(st.bq.map V.int).length) 0 (fun i o H'=>aP H1 H'/\o=((st.bq.take i).map fun c=>br rs*c).map V.int) (by rw [aE];omega) ⟨aD rL _,Z⟩ (fun i o H' hi _ hp=>⟨_,_,aH.of (hp.1 _ _ h1.i6),bu hi⟩) (fun o H' _ hp=>⟨_,aH.of (hp.1 _ _ h1.i6),aK _⟩) ?_ ?_
 . rintro i y o H2 H3 hi fY ha ⟨g,e⟩ ⟨rfl,hy⟩
   obtain ⟨c,rfl,ec⟩:=fZ (hy _ (aH.of (g _ _ h1.i6)))
   refine ⟨_,Z,_,Z,_,_,Z,Z,fu zl (zc c (bX ec)),ha,g.cN rL _,?_⟩
   subst e
   rw [take_snoc ec,bM,bM]
   rfl
 rintro o H2 fY ha ⟨g2,e⟩
 rw [aE,cK] at e
 subst e
 have Ka:=g1.trans g2
 have hd2:=g2 _ _ hd1
 have h2:=h1.mono g2
 have hn0:H l0=none:=g1.free rL
 refine ⟨d,_,hd2,fun ob=>⟨_,Z,d,ob,_,Z,ah,?_⟩⟩
 have al:=xq rs
 refine tT (n:=(gW rs).length) (fun i σ H'=>aP (upd H2 d (.eX ob (.dK (gW rs)))) H'/\∃l s4 s5 s6 s7,σ=[some (.ref A.a),some (.ref d),some (.int (br rs)),some (.ref l),s4,s5,s6,s7]/\H l=none/\H' l=some (.lst (((rs.take i).foldl (d7 st) (st.bq.map fun c=>br rs*c)).map V.int))/\((rs.take i).foldl (d7 st) (st.bq.map fun c=>br rs*c)).length=st.bq.length)
  ⟨aP.refl _,l0,_,_,_,_,Z,hn0,dX hd2 ha (fun k z=>by cases z),by rw [List.take_zero,List.foldl_nil,aE]⟩ (fun i σ H' hi hp=>⟨hp.1 _ _ ah,hi⟩) (fun σ H' hp=>⟨hp.1 _ _ ah,aK _⟩) ?_ ?_
 . rintro i x σ H3 H4 hi ⟨g,l,s4,s5,s6,s7,rfl,Ce,hl,hsl⟩ ⟨pp,kv,hpp,hkv,rfl,rfl⟩
   unfold gW at hkv
   rw [cg] at hkv
   obtain ⟨r,er,rfl⟩:=lW.mp hkv
   have hrm:=bX er
   obtain ⟨zr,p,dR,De⟩:=vF r hrm
   obtain ⟨ip,FQ,Sf⟩:=wK dR
   have ep:st.aj[ip]?=some p:=by rw [bu FQ,Sf]
   have epg:bK st r.1=p:=by rw [<-De];exact Nr wf.dw ep
   have g4:=aD hpp (.tup [.str r.1, .int r.2])
   have gg:=g.trans g4
   have h2z:∀{b:Addr} {u:HO},H2 b=some u->(∀k,u ≠ .dK k)->upd H3 pp (.tup [.str r.1, .int r.2]) b=some u:=fun e k=>gg _ _ (dX hd2 e k)
   have nab:A.ab≠d:=(Ar cd h.gc).symm
   obtain ⟨qq,eq,k1,k2,_,_⟩:=h2.find ep
   have hab:upd H3 pp (.tup [.str r.1, .int r.2]) A.ab=some (.dK (cj st.aj A.qs)):=gg _ _ (by rw [az nab];exact h2.dF)
   have hv:=sY wf.dw ep eq
   have hq1:=h2z k1 (fun k z=>by cases z)
   have hq2:=h2z k2 (fun k z=>by cases z)
   have Kc:upd H3 pp (.tup [.str r.1, .int r.2]) pp=some (.tup [.str r.1, .int r.2]):=ah
   have FT:=g4 _ _ hl
   have hno:∀{b:Addr},upd H3 pp (.tup [.str r.1, .int r.2]) b=none->H b=none:=fun {b} e=>by
    have e1:=nt hd2 (gg.free e)
    exact Ka.free e1
   have ha4:upd H3 pp (.tup [.str r.1, .int r.2]) A.a=some (.ins T.hold A.dx (jq A)):=h2z h2.oa (fun k z=>by cases z)
   show AH K 2 _ _ _ (upd H3 pp (.tup [.str r.1, .int r.2])) _
   generalize upd H3 pp (.tup [.str r.1, .int r.2])=H4 at *
   refine ⟨pp,_,Z,bN.of Kc,Z,_,_,Z,_,_,Z,Z,?_⟩
   refine ⟨_,Z,A.a,T.hold,A.dx,_,_,Z,ha4,X.cH,X.hab,Z,_,Z,A.ab,_,Z,by rw [<-De];exact hv▸ee.k (k:=Sum.inr p.nm) hab,?_⟩
   have zs:Jm.Sz 8000 p.sc:=Jm.Sz.kX (by have:=wf.oK p dR;have:=wf.eY;omega) (wf.oK p dR).2 wf.big
   refine ⟨_,Z,_,Z,qq.1,T.part,qq.2.1,_,_,Z,hq1,X.cP,X.E6,Z,_,_,Z,Z,fu zr zs,?_⟩
   have Z_:p.row.length=st.bq.length:=by rw [wf.rows p dR,wf.fW]
   generalize eS:(rs.take i).foldl (d7 st) (st.bq.map fun c=>br rs*c)=S at *
   refine ⟨_,Z,_,Z,qq.1,T.part,qq.2.1,_,_,Z,hq1,X.cP,X.IM,Z,_,_,_,_,_,_,Z, .lst (aH.of FT), .lst (aH.of hq2),fun acc hacc=>?_⟩
   refine vX (K:=K) (n:=S.length) [0,1] (fun j out H5=>aP H4 H5/\out=(List.zipWith (fun old own=>old+(r.2*p.sc)*own) (S.take j) (p.row.take j)).map V.int) (by decide) (by omega) ⟨aD hacc _,Z⟩ (fun j out H5 hj _ hp=>⟨aH.of (hp.1 _ _ FT),aH.of (hp.1 _ _ hq2),by rw [aE];exact hj,by rw [aE];omega⟩)
    (fun out H5 _ hp=>⟨aH.of (hp.1 _ _ FT),aH.of (hp.1 _ _ hq2), .inl (by rw [aE];exact aK _)⟩) ?_ ?_
   . rintro j x out H5 H6 hj Bl ha2 ⟨g5,e5⟩ ⟨p2,x1,y1,hp2,rfl,rfl,e1,e2⟩
     obtain ⟨t,rfl,et⟩:=fZ e1
     obtain ⟨c,rfl,ec⟩:=fZ e2
     have g6:=aD hp2 (.tup [.int t, .int c])
     have zw:Jm.Sz 8000 c:=Jm.Sz.kX (wf.mh p dR c (bX ec)).1 (wf.mh p dR c (bX ec)).2 wf.big
     refine ⟨p2,_,Z,bN.of ah,Z,_,Z,_,Z,_,Z,_,_,Z,Z,fu (zr.mul zs) zw,_,_,Z,Z,g6 _ _ ha2,(g5.trans g6).cN hacc _,?_⟩
     rw [rj _ et ec,e5,bM]
     rfl
   rintro out H5 Bl ha2 ⟨g5,e5⟩
   rw [cK,hsl,<-Z_,cK] at e5
   have eN:(rs.take (i+1)).foldl (d7 st) (st.bq.map fun c=>br rs*c)=List.zipWith (fun old own=>old+(r.2*p.sc)*own) S p.row:=by
    rw [take_snoc er,DM,eS]
    show d7 st S r=_
    unfold d7
    rw [epg]
   refine ⟨gg.trans g5,acc,_,_,_,_,Z,hno hacc,?_,?_⟩
   . rw [eN,ha2,e5]
   . rw [eN,kU];omega
 rintro σ H3 ⟨g,l,s4,s5,s6,s7,rfl,Ce,hl,hsl⟩
 rw [al,cK] at hl
 refine ⟨g _ _ ah,_,Z,?_⟩
 have nl:l≠d:=fun e=>by rw [e,hd] at Ce;cases Ce
 exact q l _ (Ka.trans (pY hd2 g)) Ce (by rw [az nl];exact hl)
abbrev qg:Stmt:=inClass (top 21) 23
abbrev kj:List Str:=["self","name","amount"]
abbrev Gj:List Str:=kj.append ["part"]
theorem wC:aO Gj kj (aC qg):=dN
theorem Eh {T:TC} (F:gJ K T.hold "lessen" "Hold.lessen" qg f fd) (X:Txt K T):Mn P w K mg base 1 T.hold "lessen" kj (Je T):=by
 refine F.oA wC fun cdv A outer s H vs Q E hr h=>?_
 obtain ⟨⟨n,ρ,A,st,r,rfl,hh,⟨p,dR,De,hle⟩,wf',q⟩⟩:=h
 have h:=hh.h
 have nd:=hh.wf.dw
 refine ⟨_,(@cT.h _ _ _ (ak (aT (i:=3) wC.nd (dZ (dz hr) (aI K (qv 0)) (qv 1)))
  (ak (oS K (qv 3) (qv 2) Ie)
  (av (jG (aR dP (aI K (qv 3)) ai (aX _)) (av (NB (aI K (qv 0)) (qv 1))) bw))))),?_⟩
 obtain ⟨ip,FQ,Sf⟩:=wK dR
 have ep:st.aj[ip]?=some p:=by rw [bu FQ,Sf]
 obtain ⟨qq,eq,k1,k2,k3,k4⟩:=h.find ep
 have hv:=sY nd ep eq
 refine ⟨_,Z,A.a,T.hold,A.dx,_,_,Z,h.oa,X.cH,X.hab,Z,_,Z,A.ab,_,Z,by rw [<-De];exact hv▸ee.k (k:=Sum.inr p.nm) h.dF,?_⟩
 refine ⟨_,Z,qq.1,T.part,qq.2.1,_,_,Z,k1,X.cP,X.tW,Z,_,Z,_,_,Z,Z,qq.2.1,_,k1,by show 6<1000;decide,?_⟩
 have h1:=h.iT (p1:={ p with wo:=p.wo-r.2 }) hh.g ep eq rfl rfl nd
 have g1:=hh.g.wr (a:=qq.1) (o:= .ins T.part qq.2.1 (cU { p with wo:=p.wo-r.2 } qq.2.2)) rfl
 have F1:Fr n ρ H ρ (upd H qq.1 (.ins T.part qq.2.1 (cU { p with wo:=p.wo-r.2 } qq.2.2))):=Fr.write k3
 show YV _ _ _ _ _ (upd H qq.1 (.ins T.part qq.2.1 (cU { p with wo:=p.wo-r.2 } qq.2.2)))
 have NX:upd H qq.1 (.ins T.part qq.2.1 (cU { p with wo:=p.wo-r.2 } qq.2.2)) qq.1=some (.ins T.part qq.2.1 (cU { p with wo:=p.wo-r.2 } qq.2.2)):=ah
 generalize upd H qq.1 (.ins T.part qq.2.1 (cU { p with wo:=p.wo-r.2 } qq.2.2))=H1 at *
 have el:cS st r={ st with aj:=if p.wo-r.2=0 then st.aj.eraseIdx ip else st.aj.set ip { p with wo:=p.wo-r.2 } }:=by
  unfold cS
  rw [<-De,AS nd (fun x hx=>by have:=hh.wf.jO x hx;omega) ep]
 rw [el] at wf' q
 refine ⟨fun σ' H'=>Q .bU H',?_,fun _ _ z=>z⟩
 refine ⟨_,Z,qq.1,T.part,qq.2.1,_,_,Z,NX,X.cP,X.tW,Z,Z,_,Z,aM (fun c=>?_) (fun c=>?_)⟩
 . have c':p.wo-r.2=0:=V.int.inj (aZ c)
   rw [aB c'] at wf' q
   have nd1:((st.aj.set ip { p with wo:=p.wo-r.2 }).map (fun x:Pt=>x.nm)).Nodup:=by
    rw [oj,show ({ p with wo:=p.wo-r.2 }:Pt).nm=p.nm from rfl,rm (by rw [cg,ep];rfl)]
    exact nd
   have ep1:(st.aj.set ip { p with wo:=p.wo-r.2 })[ip]?=some { p with wo:=p.wo-r.2 }:=pQ FQ
   have dk:=AR nd1 h1.ql ep1
   rw [List.eraseIdx_set_eq] at dk
   have hv1:=sY nd1 ep1 eq
   refine ⟨_,Z,A.a,T.hold,A.dx,_,_,Z,h1.oa,X.cH,X.hab,Z,_,Z,A.ab,_,Sum.inr r.1,Z,h1.dF,Z,?_,?_⟩
   . rw [<-De]
     show (dG (cj (st.aj.set ip { p with wo:=p.wo-r.2 }) A.qs) (Sum.inr p.nm)).isSome=true
     rw [show dG (cj (st.aj.set ip { p with wo:=p.wo-r.2 }) A.qs) (Sum.inr p.nm)=_ from hv1]
     rfl
   . show Q .bU (upd H1 A.ab (.dK (lI (cj (st.aj.set ip { p with wo:=p.wo-r.2 }) A.qs) (Sum.inr r.1))))
     rw [<-De,show lI (cj (st.aj.set ip { p with wo:=p.wo-r.2 }) A.qs) (Sum.inr p.nm)=_ from dk]
     have hi2:ip<A.qs.length:=by rw [h.ql];exact FQ
     have h2:=h1.IL g1 (st.aj.eraseIdx ip) (A.qs.eraseIdx ip) (by rw [Oa FQ,Oa hi2,h.ql]) (fun j x y ex ey=>by
      rw [<-List.eraseIdx_set_eq (l:=st.aj) (i:=ip) (a:={ p with wo:=p.wo-r.2 })] at ex
      obtain ⟨k,a1,a2⟩:=yL ex ey
      exact h1.opt k x y a1 a2)
     exact q ρ _ _ ⟨g1.wr rfl,h2,wf'⟩ rfl (F1.trans (Fr.write h1.gc))
 . have c':¬ p.wo-r.2=0:=fun e=>c (a_ (by rw [e]))
   rw [aA c'] at wf' q
   exact q ρ A H1 ⟨g1,h1,wf'⟩ rfl F1
abbrev r8:Stmt:=inClass (top 21) 28
abbrev lD:List Str:=["self","kept","whole","added"]
abbrev Kd:List Str:=lD.append ["scales","common","shared","part","scale"]
theorem i_:aO Kd lD (aC r8):=dN
theorem Gk {T:TC} (F:gJ K T.hold "blend" "Hold.blend" r8 f fd) (X:Txt K T) (o7:Dn P w K mg base 2 "factor_of_all" kO (Rz K)) (r_:Mn P w K mg base 1 T.bot "grow" mQ (RA T)) (iA:mg "zip"=none):Mn P w K mg base 3 T.hold "blend" lD (DZ T K):=by
 refine F.oA i_ fun cdv A outer s H vs Q E hr h=>?_
 obtain ⟨⟨n,ρ,A,st,kept,whole,la,added,rfl,hh,hla,hal,k0,w0,kz,wz,haz,hpz,hsl,wf',q⟩⟩:=h
 refine ⟨_,(@cT.h _ _ _ (ak (wg (wc (i:=4) ["part","kept"] [none,some 1] i_.nd rfl rfl rfl (v9 (aI K (qv 0))) (fun _ _ _ _=>(aV (i:=0) (show List.Nodup (["part","kept"] :List Str) from by decide +kernel))) (fun _ _ _ _=>(aG fK (aI K (qv 0)) (qv 1))) rfl (by rfl) (by rfl)))
  (ak (wc (i:=5) ["top","more","kept"] [none,none,some 1] i_.nd rfl rfl rfl (p8 K (by rfl) iA (af (aI K (qv 0)) (af (qv 3) aq))) (fun _ _ _ _=>(iF K (n:=2) rfl (cA (aV (i:=0) (show List.Nodup (["top","more","kept"] :List Str) from by decide +kernel)) (cA (aV (i:=1) (show List.Nodup (["top","more","kept"] :List Str) from by decide +kernel)) iE)))) (fun _ _ _ _=>(aG cI (aG fK (qv 0) (qv 2)) (qv 1))) rfl (by rfl) (by rfl))
  (ak (aT (i:=6) i_.nd (bR o7 hr (af (qv 2) (af (aG YM (qv 4) (qv 5)) aq))))
  (ak (wg (fE f_ rfl (p8 K (by rfl) iA (af (D3 (aI K (qv 0))) (af (qv 4) aq))) (iF K (n:=2) rfl (cA (aV (i:=7) i_.nd) (cA (aV (i:=8) i_.nd) iE))) (av (dD K (qv 7) (aG iN (qv 8) (qv 6))))))
  (ak (dD K (qv 0) (gP ["top","shared"] [none,some 6] rfl (d8 K (qv 5)) (fun _ _ _ _=>(aV (i:=0) (show List.Nodup (["top","shared"] :List Str) from by decide +kernel))) (fun _ _ _ _=>(aG iN (qv 0) (qv 1))) rfl (by rfl)))
  (ak (dD K (qv 0) (gP ["purse","whole","shared"] [none,some 2,some 6] rfl (d8 K (aI K (qv 0))) (fun _ _ _ _=>(aV (i:=0) (show List.Nodup (["purse","whole","shared"] :List Str) from by decide +kernel))) (fun _ _ _ _=>(aG fK (qv 0) (aG iN (qv 1) (qv 2)))) rfl (by rfl)))
  (av (cy (bY r_ hr (aI K (qv 0)) (af (aG iN (qv 2) (qv 6)) aq))))))))))),?_⟩
 have hpl:=hh.wf.l_
 have nd:=hh.wf.dw
 have hcl:st.bq.length<=100:=by rw [hh.wf.fW];exact hh.wf.jV
 have zsc:∀p∈st.aj,Jm.Sz 8000 p.sc:=fun p hp=>Jm.Sz.kX (by have:=hh.wf.oK p hp;have:=hh.wf.eY;omega) (hh.wf.oK p hp).2 hh.wf.big
 have zcm:∀c∈st.bq,Jm.Sz 8000 c:=fun c hc=>Jm.Sz.kX (by have:=hh.wf.nj c hc;have:=hh.wf.eY;omega) (hh.wf.nj c hc).2 hh.wf.big
 have h:=hh.h
 refine ⟨A.ab,_,h.dF,fun ob=>?_⟩
 refine ⟨_,Z,A.a,T.hold,A.dx,_,_,Z,dX h.dF h.oa (fun k z=>by cases z),X.cH,X.hab,Z,A.ab,ob,_,Z,ah,fun l1 hl1=>?_⟩
 have el:=sX h.ql
 refine jD (n:=st.aj.length) 0 (fun i out H1=>aP (upd H A.ab (.eX ob (.dK (cj st.aj A.qs)))) H1/\out=((st.aj.take i).map fun p:Pt=>p.sc*kept).map V.int) (by omega) ⟨aD hl1 _,Z⟩ (fun i out H1 hi _ hp=>⟨hp.1 _ _ ah,by rw [el];exact hi⟩) (fun out H1 _ hp=>⟨hp.1 _ _ ah,by rw [el];exact aK _⟩) ?_ ?_
 . rintro i x out H1 H2 hi fY ha ⟨g,e⟩ ⟨rfl,kv,hkv,rfl⟩
   have ep:=bu hi
   obtain ⟨qq,eq,k1,k2,_⟩:=h.find ep
   rw [sW ep eq] at hkv
   cases hkv
   have hq:=g _ _ (dX h.dF k1 (fun k z=>by cases z))
   refine ⟨_,Z,qq.1,T.part,qq.2.1,_,_,Z,hq,X.cP,X.E6,Z,_,Z,_,_,Z,Z,fu (zsc _ (yq hi)) kz,ha,g.cN hl1 _,?_⟩
   subst e
   rw [take_snoc ep,bM,bM]
   rfl
 rintro o1 H1 ahY ha1 ⟨g1,e1⟩
 rw [cK] at e1
 have hz1:=g1 _ _ (ah (H:=H) (a:=A.ab) (o:= .eX ob (.dK (cj st.aj A.qs))))
 have na1:l1≠A.ab:=fun e=>by rw [e,hz1] at ha1;cases ha1
 refine ⟨hz1,?_⟩
 have s2:aP H (upd H1 A.ab (.dK (cj st.aj A.qs))):=pY h.dF g1
 have ahZ:H l1=none:=nt h.dF hl1
 have ha2:upd H1 A.ab (.dK (cj st.aj A.qs)) l1=some (.lst ((gZ st kept).map V.int)):=by rw [az na1,ha1,e1];rfl
 generalize upd H1 A.ab (.dK (cj st.aj A.qs))=H2 at *
 clear g1 hz1 ha1 e1
 have h2:=h.mono s2
 have xX:=s2.seq hla
 refine ⟨_,Z,A.a,T.hold,A.dx,_,_,Z,h2.oa,X.cH,X.yH,Z,_,Z,_,_,_,_,_,_,Z, .lst (aH.of h2.i6), .lst xX,fun l2 hl2=>?_⟩
 refine vX (K:=K) (n:=st.bq.length) [0,1] (fun i out H3=>aP H2 H3/\out=(List.zipWith (fun t m=>t*kept+m) (st.bq.take i) (added.take i)).map V.int) (by decide) (by omega) ⟨aD hl2 _,Z⟩ (fun i out H3 hi _ hp=>⟨aH.of (hp.1 _ _ h2.i6),hp.1.seq xX,by rw [aE];exact hi,by rw [aE];omega⟩)
  (fun out H3 _ hp=>⟨aH.of (hp.1 _ _ h2.i6),hp.1.seq xX, .inl (by rw [aE];exact aK _)⟩) ?_ ?_
 . rintro i x out H3 H4 hi fY ha ⟨g,e⟩ ⟨p,x1,y1,hp,rfl,rfl,e1,e2⟩
   obtain ⟨t,rfl,et⟩:=fZ e1
   obtain ⟨c,rfl,ec⟩:=fZ e2
   have g1:=aD hp (.tup [.int t, .int c])
   refine ⟨p,_,Z,bN.of ah,Z,_,Z,_,Z,_,_,Z,Z,fu (zcm t (bX et)) kz,_,Z,_,_,Z,Z,g1 _ _ ha,(g.trans g1).cN hl2 _,?_⟩
   rw [rj _ et ec,e,bM]
   rfl
 rintro o2 H3 Bl ha3 ⟨g3,e3⟩
 rw [cK,<-hal,cK] at e3
 have ec3:o2=(eW st kept added).map V.int:=e3
 subst ec3
 have s3:=s2.trans g3
 have h3:=h.mono s3
 have UL:=g3 _ _ ha2
 have ah0:H l2=none:=s2.free hl2
 have n12:l1≠l2:=fun e=>by rw [e,hl2] at ha2;cases ha2
 clear e3 h2 xX g3 ha2 s2
 have lsc:(gZ st kept).length=st.aj.length:=by unfold gZ;rw [aE]
 have lcm:(eW st kept added).length=st.bq.length:=by unfold eW;rw [kU,hal,wO]
 refine ⟨_,Z,_,Z,_,Z,l1,l2,_,_,Z,Z,UL,ha3,by rw [aE,aE,lsc,lcm];exact fT (Nat.add_le_add hpl hcl) (by rw [jQ];decide),fun p3 hp3=>?_⟩
 rw [<-bM]
 have g4:=aD hp3 (.lst ((gZ st kept++eW st kept added).map V.int))
 refine ⟨⟨whole,p3,_,Z,aH.of ah,by omega,?_,?_⟩⟩
 . intro t ht
   rcases gi.mp ht with z|z
   . unfold gZ at z
     obtain ⟨p,hp,rfl⟩:=bJ.mp z
     exact oh (by have:=hh.wf.oK p hp;omega) (by omega)
   . obtain ⟨c,hc,m,hm,rfl⟩:=tZ (show t∈List.zipWith _ st.bq added from z)
     have a1:=oh (hh.wf.nj c hc).1 (by omega:0<=kept)
     have a2:=(haz m hm).1
     omega
 have s4:=s3.trans g4
 have h4:=h.mono s4
 have G4:=hh.g.same s4
 have F4:Fr n ρ H ρ (upd H3 p3 (.lst ((gZ st kept++eW st kept added).map V.int))):=Fr.of_same s4
 have b1:=g4 _ _ UL
 have b2:=g4 _ _ ha3
 generalize upd H3 p3 (.lst ((gZ st kept++eW st kept added).map V.int))=H4 at *
 clear UL ha3 s3 h3 g4
 obtain ⟨sd,VF⟩:∃sd,sd=cE st kept whole added:=⟨_,rfl⟩
 rw [show jX whole (gZ st kept++eW st kept added)=sd from VF.symm]
 have sp:0<sd:=by rw [VF];exact yN _ _ w0
 have RJ:sd∣whole:=by rw [VF];exact (yM _ _).1
 have sz:Jm.Sz 60 sd:=wz.dvd w0 (by omega) RJ
 have wq:0<whole / sd:=Int.ediv_pos_of_pos_of_dvd w0 (by omega) RJ
 have wqz:Jm.Sz 60 (whole / sd):=wz.ediv sp
 have VG:∀{i:Int},B4 i sd:=fun {i}=>wX sp (sz.mono (by decide))
 refine ⟨A.ab,_,h4.dF,fun Sg=>?_⟩
 refine ⟨_,Z,A.a,T.hold,A.dx,_,_,Z,dX h4.dF h4.oa (fun k z=>by cases z),X.cH,X.hab,Z,A.ab,_,Z, .inr ⟨Sg,ah⟩,fun v hv=>?_⟩
 have nva:v≠A.ab:=fun e=>by rw [e,ah] at hv;cases hv
 have hv4:H4 v=none:=nt h4.dF hv
 have g5:=aD hv4 (kK v A.ab)
 have hv5:upd H4 v (kK v A.ab) v=some (kK v A.ab):=ah
 rw [jW (cO nva)]
 have h5:=h4.mono g5
 have G5:=G4.same g5
 have F5:=F4.trans (Fr.of_same (ρ:=ρ) g5)
 have s5:=s4.trans g5
 have c1:=g5 _ _ b1
 have c2:=g5 _ _ b2
 generalize upd H4 v (kK v A.ab)=H5 at *
 clear h4 G4 F4 s4 b1 b2 g5
 refine ⟨_,Z,_,_,_,_,_,_,Z, .vals (dX h5.dF hv5 (fun k z=>by cases z)) ah, .lst (aH.of (dX h5.dF c1 (fun k z=>by cases z))),?_⟩
 have exl:((cj st.aj A.qs).map fun p=>p.2).length=st.aj.length:=by rw [aE];exact el
 have eyl:((gZ st kept).map V.int).length=st.aj.length:=by rw [aE];exact lsc
 refine tT (n:=st.aj.length) (fun i σ H'=>(∃s7 s8,σ=[some (.ref A.a),some (.int kept),some (.int whole),some (.ref la),some (.ref l1),some (.ref l2),some (.int sd),s7,s8])/\∃H6,H'=upd H6 A.ab (.eX Sg (.dK (cj st.aj A.qs)))/\Gh ρ H6/\Fr n ρ H ρ H6/\aN T n ρ A H6 { st with aj:=(st.aj.take i).map (fun p=>{ p with sc:=p.sc*kept / sd })++st.aj.drop i }/\H6 l1=some (.lst ((gZ st kept).map V.int))/\H6 l2=some (.lst ((eW st kept added).map V.int))/\(∀b,H6 b=none->H b=none))
  ⟨⟨_,_,Z⟩,H5,Z,G5,F5,h5,c1,c2,fun b e=>s5.free e⟩ ?_ ?_ ?_ ?_
 . rintro i σ H' hi ⟨_,H6,rfl,G6,F6,h6,d1,d2,fr⟩
   have e6:cj ({ st with aj:=(st.aj.take i).map (fun p:Pt=>{ p with sc:=p.sc*kept / sd })++st.aj.drop i }:HS).aj A.qs=cj st.aj A.qs:=nR (pZ (fun p:Pt=>{ p with sc:=p.sc*kept / sd }) (fun p:Pt=>p.nm) (fun _=>rfl) st.aj i)
   have qh:=h6.dF
   rw [e6] at qh
   exact ⟨ah,aH.of (dX qh d1 (fun k z=>by cases z)),by rw [exl];exact hi,by rw [eyl];exact hi⟩
 . rintro σ H' ⟨_,H6,rfl,G6,F6,h6,d1,d2,fr⟩
   have e6:cj ({ st with aj:=(st.aj.take st.aj.length).map (fun p:Pt=>{ p with sc:=p.sc*kept / sd })++st.aj.drop st.aj.length }:HS).aj A.qs=cj st.aj A.qs:=nR (pZ (fun p:Pt=>{ p with sc:=p.sc*kept / sd }) (fun p:Pt=>p.nm) (fun _=>rfl) st.aj _)
   have qh:=h6.dF
   rw [e6] at qh
   exact ⟨ah,aH.of (dX qh d1 (fun k z=>by cases z)), .inl (by rw [exl];exact aK _)⟩
 . rintro i x σ H' CA hi ⟨⟨s7,s8,rfl⟩,H6,rfl,G6,F6,h6,d1,d2,fr⟩ ⟨pp,x1,y1,hpp,rfl,rfl,ex,ey⟩
   have ep:=bu hi
   have ep6:=I_ (fun p:Pt=>{ p with sc:=p.sc*kept / sd }) ep
   obtain ⟨qq,eq,k1,k2,k3,k4⟩:=h6.find ep6
   have nm6:=pZ (fun p:Pt=>{ p with sc:=p.sc*kept / sd }) (fun p:Pt=>p.nm) (fun _=>rfl) st.aj i
   have e6:cj ({ st with aj:=(st.aj.take i).map (fun p:Pt=>{ p with sc:=p.sc*kept / sd })++st.aj.drop i }:HS).aj A.qs=cj st.aj A.qs:=nR nm6
   have qh:=h6.dF
   rw [e6] at qh
   rw [cg,sW ep eq] at ex
   cases ex
   obtain ⟨sc,rfl,esc⟩:=fZ ey
   have afq:sc=(st.aj[i]).sc*kept:=by
    unfold gZ at esc
    rw [cg,ep] at esc
    exact (fH esc).symm
   subst afq
   have npa:pp≠A.ab:=fun e=>by rw [e,ah] at hpp;cases hpp
   have afr:H6 pp=none:=nt qh hpp
   have g7:=aD afr (.tup [.ref qq.1, .int ((st.aj[i]).sc*kept)])
   rw [jW (cO npa)]
   have Kc:upd H6 pp (.tup [.ref qq.1, .int ((st.aj[i]).sc*kept)]) pp=some (.tup [.ref qq.1, .int ((st.aj[i]).sc*kept)]):=ah
   have h7:=h6.mono g7
   have G7:=G6.same g7
   have F7:=F6.trans (Fr.of_same (ρ:=ρ) g7)
   have UM:=g7 _ _ qh
   have f1:=g7 _ _ d1
   have f2:=g7 _ _ d2
   have Q5:∀b,upd H6 pp (.tup [.ref qq.1, .int ((st.aj[i]).sc*kept)]) b=none->H b=none:=fun b e=>fr b (g7.free e)
   have NX:=g7 _ _ k1
   generalize upd H6 pp (.tup [.ref qq.1, .int ((st.aj[i]).sc*kept)])=H7 at *
   refine ⟨pp,_,Z,bN.of (dX UM Kc (fun k z=>by cases z)),Z,_,_,Z,_,_,Z,Z,?_⟩
   refine ⟨_,Z,_,Z,_,_,Z,Z,VG,_,Z,qq.1,T.part,qq.2.1,_,Z,dX UM NX (fun k z=>by cases z),X.cP,X.E6,by show 6<1000;decide,?_⟩
   have nd7:(((st.aj.take i).map (fun p:Pt=>{ p with sc:=p.sc*kept / sd })++st.aj.drop i).map (fun p:Pt=>p.nm)).Nodup:=by rw [nm6];exact nd
   have h8:=h7.iT (p1:={ st.aj[i] with sc:=(st.aj[i]).sc*kept / sd }) G7 ep6 eq rfl rfl nd7
   rw [show ({ st with aj:=(st.aj.take i).map (fun p:Pt=>{ p with sc:=p.sc*kept / sd })++st.aj.drop i }:HS).aj.set i { st.aj[i] with sc:=(st.aj[i]).sc*kept / sd }=_ from Ja (fun p:Pt=>{ p with sc:=p.sc*kept / sd }) ep] at h8
   have nqa:A.ab≠qq.1:=(iX NX UM (by intro z;cases z)).symm
   have nq1:l1≠qq.1:=iX f1 NX (by intro z;cases z)
   have nq2:l2≠qq.1:=iX f2 NX (by intro z;cases z)
   refine ⟨⟨_,_,Z⟩,_,jW nqa,G7.wr rfl,F7.trans (Fr.write k3),h8,by rw [az nq1];exact f1,by rw [az nq2];exact f2,fun b e=>Q5 b ?_⟩
   by_cases z:b=qq.1
   . rw [z,ah] at e;cases e
   . rw [az z] at e;exact e
 rintro σ H' ⟨⟨s7,s8,rfl⟩,H6,rfl,G6,F6,h6,d1,d2,fr⟩
 have e6:cj ({ st with aj:=(st.aj.take st.aj.length).map (fun p:Pt=>{ p with sc:=p.sc*kept / sd })++st.aj.drop st.aj.length }:HS).aj A.qs=cj st.aj A.qs:=nR (pZ (fun p:Pt=>{ p with sc:=p.sc*kept / sd }) (fun p:Pt=>p.nm) (fun _=>rfl) st.aj _)
 have qh:=h6.dF
 rw [e6] at qh
 refine ⟨ah,?_⟩
 rw [nK,xm qh]
 rw [show ({ st with aj:=(st.aj.take st.aj.length).map (fun p:Pt=>{ p with sc:=p.sc*kept / sd })++st.aj.drop st.aj.length }:HS)={ st with aj:=st.aj.map fun p:Pt=>{ p with sc:=p.sc*kept / sd } } from by rw [cK,List.drop_length,BA]] at h6
 clear e6 qh h5 G5 F5 s5 c1 c2 hv5
 refine ⟨_,Z,l2,Z,⟨_,aH.of d2⟩,fun l3 hl3=>?_⟩
 refine jD (J:=x_ K l2) (n:=((eW st kept added).map V.int).length) 0 (fun i o H'=>aP H6 H'/\o=(((eW st kept added).take i).map (· / sd)).map V.int) (by rw [aE];omega) ⟨aD hl3 _,Z⟩ (fun i o H' hi _ hp=>⟨_,_,aH.of (hp.1 _ _ d2),bu hi⟩) (fun o H' _ hp=>⟨_,aH.of (hp.1 _ _ d2),aK _⟩) ?_ ?_
 . rintro i y o Ha Hb hi fY ha ⟨g,e⟩ ⟨rfl,hy⟩
   obtain ⟨c,rfl,ec⟩:=fZ (hy _ (aH.of (g _ _ d2)))
   refine ⟨_,Z,_,Z,_,_,Z,Z,VG,ha,g.cN hl3 _,?_⟩
   subst e
   rw [take_snoc ec,bM,bM]
   rfl
 rintro o3 H8 ah1 AA ⟨g8,e8⟩
 rw [aE,cK] at e8
 subst e8
 have h8:=h6.mono g8
 have G8:=G6.same g8
 have F8:=F6.trans (Fr.of_same (ρ:=ρ) g8)
 have fr8:∀b,H8 b=none->H b=none:=fun b e=>fr b (g8.free e)
 have c3:ρ l3=none:=G6.none hl3
 have n3:H l3=none:=fr l3 hl3
 refine ⟨_,Z,A.a,T.hold,A.dx,_,Z,h8.oa,X.cH,X.yH,by show 7<1000;decide,?_⟩
 obtain ⟨h9,G9⟩:=yO (t:=6) h8 G8 c3 AA rfl
 have F9:Fr n ρ H (cR ρ l3 (n,6,⟨#[]⟩)) H8:=F8.nu n3
 have yf:=h9.Zn G9 l3 _ AA dH
 have G10:=G9.wr (a:=A.a) (o:= .ins T.hold A.dx (jq { A with cm:=l3 })) rfl
 have F10:=F9.trans (Fr.write (o:= .ins T.hold A.dx (jq { A with cm:=l3 })) h9.ca)
 show tM _ _ _ _ (upd H8 A.a (.ins T.hold A.dx (jq { A with cm:=l3 })))
 have afs:∀b,upd H8 A.a (.ins T.hold A.dx (jq { A with cm:=l3 })) b=none->H b=none:=fun b e=>fr8 b (by
  by_cases z:b=A.a
  . rw [z,ah] at e;cases e
  . rw [az z] at e;exact e)
 generalize upd H8 A.a (.ins T.hold A.dx (jq { A with cm:=l3 }))=Aq at *
 clear h6 G6 F6 h8 G8 F8 h9 G9 F9 AA g8 fr8 fr d1 d2
 refine ⟨_,Z,A.a,T.hold,A.dx,_,_,Z,yf.oa,X.cH,X.As,Z,A.pu,Z,⟨_,aH.of yf.kM⟩,fun l4 FT=>?_⟩
 have ah2:st.bD.length<=100:=by rw [hh.wf.l9];exact hh.wf.jV
 refine jD (J:=x_ K A.pu) (n:=(st.bD.map V.int).length) 0 (fun i o H'=>aP Aq H'/\o=((st.bD.take i).map (·*(whole / sd))).map V.int) (by rw [aE];omega) ⟨aD FT _,Z⟩ (fun i o H' hi _ hp=>⟨_,_,aH.of (hp.1 _ _ yf.kM),bu hi⟩) (fun o H' _ hp=>⟨_,aH.of (hp.1 _ _ yf.kM),aK _⟩) ?_ ?_
 . rintro i y o Ha Hb hi fY ha ⟨g,e⟩ ⟨rfl,hy⟩
   obtain ⟨c,rfl,ec⟩:=fZ (hy _ (aH.of (g _ _ yf.kM)))
   refine ⟨_,Z,_,Z,_,Z,_,_,Z,Z,VG,_,_,Z,Z,fu (hpz c (bX ec)) wqz,ha,g.cN FT _,?_⟩
   subst e
   rw [take_snoc ec,bM,bM]
   rfl
 rintro o4 VH ah3 Ke ⟨NY,e11⟩
 rw [aE,cK] at e11
 subst e11
 have h11:=yf.mono NY
 have G11:=G10.same NY
 have F11:=F10.trans (Fr.of_same (ρ:=cR ρ l3 (n,6,⟨#[]⟩)) NY)
 have c4:cR ρ l3 (n,6,⟨#[]⟩) l4=none:=G10.none FT
 have n4:H l4=none:=afs l4 FT
 refine ⟨_,Z,A.a,T.hold,A.dx,_,Z,h11.oa,X.cH,X.As,by show 7<1000;decide,?_⟩
 obtain ⟨h12,G12⟩:=yO (t:=7) h11 G11 c4 Ke rfl
 have F12:Fr n ρ H (cR (cR ρ l3 (n,6,⟨#[]⟩)) l4 (n,7,⟨#[]⟩)) VH:=F11.nu n4
 have h13:=h12.Rp G12 l4 _ Ke dH
 have G13:=G12.wr (a:=A.a) (o:= .ins T.hold A.dx (jq { { A with cm:=l3 } with pu:=l4 })) rfl
 have F13:=F12.trans (Fr.write (o:= .ins T.hold A.dx (jq { { A with cm:=l3 } with pu:=l4 })) h12.ca)
 rw [show aU "purses" (V.ref l4) (jq { A with cm:=l3 })=jq { { A with cm:=l3 } with pu:=l4 } from rfl]
 generalize upd VH A.a (.ins T.hold A.dx (jq { { A with cm:=l3 } with pu:=l4 }))=VD at *
 refine ⟨_,Z,A.a,T.hold,A.dx,_,_,Z,h13.oa,X.cH,X.vY,Z,A.bt,A.db,_,Z,h13.jv,Z,_,Z,_,Z,_,_,Z,Z,VG,?_⟩
 refine ⟨⟨n,_,{ { A with cm:=l3 } with pu:=l4 },{ st with aj:=st.aj.map (fun p:Pt=>{ p with sc:=p.sc*kept / sd }),bq:=(eW st kept added).map (· / sd),bD:=st.bD.map (·*(whole / sd)) },whole / sd,Z,G13,h13,by show st.stp.length<=1000;omega,hh.wf.big.mono (by decide),wqz.mono (by decide),fun ρ' A' H' a1 a2 a3 a4=>?_⟩⟩
 have eb:bg st kept whole added=eE { st with aj:=st.aj.map (fun p:Pt=>{ p with sc:=p.sc*kept / sd }),bq:=(eW st kept added).map (· / sd),bD:=st.bD.map (·*(whole / sd)) } (whole / sd):=by
  unfold bg
  rw [VF]
 rw [eb] at wf' q
 exact q ρ' A' H' ⟨a1,a2,wf'⟩ a3 (F13.trans a4)
abbrev ur:Stmt:=inClass (top 21) 3
abbrev qK:List Str:=["self","rows"]
abbrev LU:List Str:=qK.append ["amounts","name","amount","whole","lost"]
theorem gX:aO LU qK (aC ur):=dN
theorem Kf {T:TC} (F:gJ K T.hold "cast" "Hold.cast" ur f fd) (X:Txt K T) (uu:Dn P w K mg base 1 "amounts_of" oX (Ry K)) (uw:Dn P w K mg base 2 "check_loss" lC Vr) (iI:Mn P w K mg base 1 T.hold "part_of" eG (AQ T)) (gy:Mn P w K mg base 1 T.hold "whole" jJ (z8 T)) (jM:Mn P w K mg base 3 T.hold "blend" lD (DZ T K)) (o8:Mn P w K mg base 1 T.hold "given_up" kQ (Nt T)) (ja:Mn P w K mg base 1 T.hold "lessen" kj (Je T)) (iZ:mg "sum"=none):Mn P w K mg base 4 T.hold "cast" qK (RB T K):=by
 refine F.oA gX fun cdv A outer s H vs Q E hr h=>?_
 obtain ⟨⟨n,ρ,A,st,l,us,rs,rfl,hh,hl,hR,ok,q⟩⟩:=h
 have wf:=hh.wf
 have nd:=ok.nd
 refine ⟨_,(@cT.h _ _ _ (ak (aT (i:=2) gX.nd (bR uu hr (af (qv 1) aq)))
  (ak (wg (fE f_ rfl (AY (qv 2)) (iF K (n:=2) rfl (cA (aV (i:=3) gX.nd) (cA (aV (i:=4) gX.nd) iE))) (av (cy (bR uw hr (af (aI K (bY iI hr (qv 0) (af (qv 3) aq))) (af (qv 4) aq)))))))
  (ak (aT (i:=5) gX.nd (p_ gy hr (qv 0)))
  (ak (aT (i:=6) gX.nd (bF (E4 rfl) (by rfl) iZ DE (af (D3 (qv 2)) aq)))
  (ak (b9 (aR HB (qv 6) (qv 5) (aX _)) (av qb) bw)
  (ak (cy (bY jM hr (qv 0) (af (aG kW (qv 5) (qv 6)) (af (qv 5) (af (bY o8 hr (qv 0) (af (qv 2) aq)) aq)))))
  (av (wg (fE f_ rfl (AY (qv 2)) (iF K (n:=2) rfl (cA (aV (i:=3) gX.nd) (cA (aV (i:=4) gX.nd) iE))) (av (cy (bY ja hr (qv 0) (af (qv 3) (af (qv 4) aq))))))))))))))),?_⟩
 refine ⟨_,Z,⟨⟨l,us,rs,Z,hl,hR,nd,ok.ne,ok.len,fun d H1 g1 hdn hd1=>?_⟩⟩⟩
 have jL:=hh.mono g1
 have F1:Fr n ρ H ρ H1:=Fr.of_same g1
 have cd:ρ d=none:=hh.g.none hdn
 have al:=xq rs
 refine ⟨d,_,hd1,fun ob=>⟨_,Z,d,ob,_,Z,ah,?_⟩⟩
 refine tT (n:=(gW rs).length) (fun i σ H'=>aP (upd H1 d (.eX ob (.dK (gW rs)))) H'/\∃s3 s4 s5 s6,σ=[some (.ref A.a),some (.ref l),some (.ref d),s3,s4,s5,s6])
  ⟨aP.refl _,_,_,_,_,Z⟩ (fun i σ H' hi hp=>⟨hp.1 _ _ ah,hi⟩) (fun σ H' hp=>⟨hp.1 _ _ ah,aK _⟩) ?_ ?_
 . rintro i x σ H3 H4 hi ⟨g,s3,s4,s5,s6,rfl⟩ ⟨pp,kv,hpp,hkv,rfl,rfl⟩
   unfold gW at hkv
   rw [cg] at hkv
   obtain ⟨r,er,rfl⟩:=lW.mp hkv
   have hrm:=bX er
   obtain ⟨r1,zr,p,dR,De,hle⟩:=ok.row r hrm
   obtain ⟨ip,FQ,Sf⟩:=wK dR
   have ep:st.aj[ip]?=some p:=by rw [bu FQ,Sf]
   have g4:=aD hpp (.tup [.str r.1, .int r.2])
   have gg:=g.trans g4
   have hf:HH T n ρ A (upd H1 d (.eX ob (.dK (gW rs)))) st:=jL.Cy cd hd1 rfl rfl
   have h4:=hf.mono gg
   have Kc:upd H3 pp (.tup [.str r.1, .int r.2]) pp=some (.tup [.str r.1, .int r.2]):=ah
   show AH K 2 _ _ _ (upd H3 pp (.tup [.str r.1, .int r.2])) _
   generalize upd H3 pp (.tup [.str r.1, .int r.2])=H4 at *
   obtain ⟨qq,eq,k1,k2,_,_⟩:=h4.h.find ep
   refine ⟨pp,_,Z,bN.of Kc,Z,_,_,Z,_,_,Z,Z,?_⟩
   refine ⟨_,Z,A.a,A.dx,_,Z,h4.h.oa,Z,_,Z,⟨⟨n,ρ,A,st,ip,p,qq,by rw [<-De];rfl,h4.h,wf.dw,ep,eq,?_⟩⟩⟩
   refine ⟨qq.1,T.part,qq.2.1,_,_,Z,k1,X.cP,X.tW,Z,_,Z,⟨⟨p.wo,r.2,Z,r1,hle,?_⟩⟩⟩
   exact ⟨gg,_,_,_,_,Z⟩
 rintro σ H2 ⟨g2,s3,s4,s5,s6,rfl⟩
 refine ⟨g2 _ _ ah,?_⟩
 have gB:=pY hd1 g2
 have kP:=jL.mono gB
 have F2:Fr n ρ H ρ (upd H2 d (.dK (gW rs))):=F1.trans (Fr.of_same gB)
 have hd2:upd H2 d (.dK (gW rs)) d=some (.dK (gW rs)):=ah
 generalize upd H2 d (.dK (gW rs))=H2' at *
 refine ⟨_,Z,A.a,A.dx,_,Z,kP.h.oa,Z,⟨⟨n,ρ,A,st,Z,kP.h,wf.l_,fun H3 g3=>?_⟩⟩⟩
 have mH:=kP.mono g3
 have VI:=g3 _ _ hd2
 have F3:=F2.trans (Fr.of_same (ρ:=ρ) g3)
 refine ⟨_,Z,d,_,Z, .inl VI,fun v hv=>⟨v,d,_,rs.map (·.2),Z,ah, .inl (by rw [az (aF VI hv)];exact VI),by unfold gW;rw [c6,c6];rfl,?_⟩⟩
 have g4:=aD hv (kK v d)
 have rK:=mH.mono g4
 have hd4:=g4 _ _ VI
 have F4:=F3.trans (Fr.of_same (ρ:=ρ) g4)
 generalize upd H3 v (kK v d)=H4 at *
 have bo:=ok.blend wf
 refine ⟨_,Z,_,Z,_,_,Z,Z,_,Z,aM (fun c=>absurd (aZ c) (by have:=ok.lost;show ¬ aS st<=br rs;omega)) fun _=>?_⟩
 refine ⟨_,Z,A.a,A.dx,_,Z,rK.h.oa,Z,_,Z,_,Z,_,_,Z,Z,_,Z,_,Z,A.a,A.dx,_,Z,rK.h.oa,Z,_,Z,⟨⟨n,ρ,A,st,d,rs,Z,rK.h,wf,hd4,cd,ok.len,fun r hr=>⟨(ok.row r hr).2.1,by obtain ⟨p,hp,e,_⟩:=(ok.row r hr).2.2;exact ⟨p,hp,e⟩⟩,fun l5 H5 g5 hn5 hl5=>?_⟩⟩⟩
 have Az:=rK.mono g5
 have hd5:=g5 _ _ hd4
 have F5:=F4.trans (Fr.of_same (ρ:=ρ) g5)
 have zk:Jm.Sz 60 (aS st-br rs):=bo.big.of_le (by have:=bo.k;have:=bo.l;omega)
 have zG:∀m∈iU st rs,0<=m/\Jm.Sz 8900 m:=fun m hm=>by
  have h1:=bo.add m hm
  have h2:=wf.eY
  have zl:Jm.Sz 60 (br rs):=bo.big.of_le (by have:=bo.k;have:=bo.l;omega)
  exact ⟨h1.1,Jm.Sz.kX (by have:=oh bo.l (show 0<=st.prod by omega);omega) h1.2 ((zl.mul bo.prod).mono (by decide))⟩
 refine ⟨⟨n,ρ,A,st,aS st-br rs,aS st,l5,iU st rs,Z,Az,aH.of hl5,bo.len,bo.k,by have:=bo.k;have:=bo.l;omega,zk,bo.big,zG,ok.bD,ok.stp,xr wf bo,fun ρ6 A6 H6 J8 e6 f6=>?_⟩⟩
 obtain ⟨hd6,cd6⟩:=f6 d _ hd5 (fun t x=>by rw [cd];intro z;cases z)
 rw [cd] at cd6
 have F6:=F5.trans f6
 refine ⟨d,_,hd6,fun Sg=>⟨_,Z,d,Sg,_,Z,ah,?_⟩⟩
 generalize eB:bg st (aS st-br rs) (aS st) (iU st rs)=NZ at *
 have aft:Due NZ rs:=by rw [<-eB];exact Fl ok.due
 have acu:gR st rs=rs.foldl cS NZ:=by unfold gR;rw [eB]
 refine tT (n:=(gW rs).length) (fun i σ H'=>∃ρ' A',HH T n ρ' A' H' ((rs.take i).foldl cS NZ)/\A'.a=A.a/\H' d=some (.eX Sg (.dK (gW rs)))/\ρ' d=none/\Fr n ρ H ρ' H'/\Due ((rs.take i).foldl cS NZ) (rs.drop i)/\∃s3 s4 s5 s6,σ=[some (.ref A.a),some (.ref l),some (.ref d),s3,s4,s5,s6])
  ⟨ρ6,A6,J8.Cy cd6 hd6 rfl rfl,e6,ah,cd6,F6.new hdn,aft,_,_,_,_,Z⟩ (fun i σ H' hi hp=>by obtain ⟨_,_,_,_,e,_⟩:=hp;exact ⟨e,hi⟩) (fun σ H' hp=>by obtain ⟨_,_,_,_,e,_⟩:=hp;exact ⟨e,aK _⟩) ?_ ?_
 . rintro i x σ H7 H8 hi ⟨ρ7,A7,yj,e7,VJ,VL,F7,due,s3,s4,s5,s6,rfl⟩ ⟨pp,kv,hpp,hkv,rfl,rfl⟩
   unfold gW at hkv
   rw [cg] at hkv
   obtain ⟨r,er,rfl⟩:=lW.mp hkv
   have hir:i<rs.length:=by rw [<-al];exact hi
   have edr:rs.drop i=r::rs.drop (i+1):=by
    rw [List.drop_eq_getElem_cons hir]
    rw [bu hir] at er
    rw [fH er]
   rw [edr] at due
   have g4:=aD hpp (.tup [.str r.1, .int r.2])
   have wD:=yj.mono g4
   have hd8:=g4 _ _ VJ
   have F8:=F7.trans (Fr.of_same (ρ:=ρ7) g4)
   have Kc:upd H7 pp (.tup [.str r.1, .int r.2]) pp=some (.tup [.str r.1, .int r.2]):=ah
   show AH K 2 _ _ _ (upd H7 pp (.tup [.str r.1, .int r.2])) _
   generalize upd H7 pp (.tup [.str r.1, .int r.2])=H8 at *
   refine ⟨pp,_,Z,bN.of Kc,Z,_,_,Z,_,_,Z,Z,?_⟩
   have eN:(rs.take (i+1)).foldl cS NZ=cS ((rs.take i).foldl cS NZ) r:=by rw [take_snoc er,DM];rfl
   have VM:((r::rs.drop (i+1)).map (fun r:Row=>r.1)).Nodup:=by rw [<-edr,List.map_drop];exact nd.sublist (List.drop_sublist _ _)
   refine ⟨_,Z,A.a,A7.dx,_,Z,by rw [<-e7];exact wD.h.oa,Z,_,Z,_,Z,⟨⟨n,ρ7,A7,_,r,by rw [e7];rfl,wD,due r cL,RD yj.wf due,fun ρ9 A9 H9 Kg e9 f9=>?_⟩⟩⟩
   obtain ⟨hd9,cd9⟩:=f9 d _ hd8 (fun t x=>by rw [VL];intro z;cases z)
   rw [VL] at cd9
   rw [<-eN] at Kg
   exact ⟨ρ9,A9,Kg,e9.trans e7,hd9,cd9,F8.trans f9,by rw [eN];exact Jh yj.wf due VM,_,_,_,_,Z⟩
 rintro σ H7 ⟨ρ7,A7,yj,e7,VJ,VL,F7,due,s3,s4,s5,s6,rfl⟩
 rw [al,cK,<-acu] at yj
 exact ⟨VJ,q ρ7 A7 _ (yj.Cy VL VJ rfl rfl) e7 (F7.new hdn)⟩
abbrev qi:Stmt:=inClass (top 4) 2
abbrev jb:List Str:=["self","top"]
abbrev Gm:List Str:=jb.append ["rest","step","shared"]
theorem iJ:aO Gm jb (aC qi):=dN
theorem Ei {T:TC} (F:gJ K T.bot "over" "Bottom.over" qi f fd) (X:Txt K T) (h_:Dn P w K mg base 1 "common_factor" jk TM):Mn P w K mg base 2 T.bot "over" jb (z9 T):=by
 refine F.oA iJ fun cdv A outer s H vs Q E hr h=>?_
 obtain ⟨⟨bt,db,sp,kn,stp,prod,top,rfl,hb,hs,ep,h2,hz,q⟩⟩:=h
 refine ⟨_,(@cT.h _ _ _ (ak (aT (i:=2) iJ.nd (aI K (qv 0)))
  (ak (fE f_ rfl (d8 K (aI K (qv 0))) (aV (i:=3) iJ.nd) (ak (aT (i:=4) iJ.nd (bR h_ hr (af (qv 3) (af (aG j_ (qv 1) (qv 3)) aq))))
  (av (jG (aR jT (qv 4) ai (aX _)) (ak (aT (i:=1) iJ.nd (aG iN (qv 1) (qv 4)))
  (av (aT (i:=2) iJ.nd (aG iN (qv 2) (qv 4))))) bw))))
  (av (bh (gv (af (qv 1) (af (qv 2) aq)))))))),?_⟩
 have p1:1<=prod:=by rw [ep];exact Jc h2
 refine ⟨_,Z,bt,T.bot,db,_,_,Z,hb,X.cB,X.Nh,Z,?_⟩
 refine ⟨_,Z,bt,T.bot,db,_,_,Z,hb,X.cB,X.Zp,Z,sp,Z,⟨_,aH.of hs⟩,?_⟩
 refine jS (K:=K) (xs:=stp.map V.int) (fun i σ H'=>H'=H/\∃(t r d:Int) (s3 s4:Option V),σ=[some (.ref bt),some (.int t),some (.int r),s3,s4]/\t*prod=top*r/\r=d*(stp.drop i).foldl (·*·) 1/\0<d/\Jm.cf t d=1)
  ⟨Z,top,prod,1,none,none,Z,Z,by rw [List.drop_zero,Int.one_mul];exact ep,by decide,by unfold Jm.cf;rw [Int.gcd_one];rfl⟩ (fun i σ H' _ hp=>by rw [hp.1];exact aH.of hs) ?_ ?_
 . rintro i x σ H' hx ⟨rfl,t,r,d,s3,s4,rfl,e1,e2,d0,c⟩
   obtain ⟨st,rfl,es⟩:=fZ hx
   have hm:=bX es
   have s2:=h2 st hm
   have hi:=(dS.mp es).1
   have hdr:stp.drop i=st::stp.drop (i+1):=by
    rw [List.drop_eq_getElem_cons hi]
    congr 1
    rw [bu hi] at es
    exact fH es
   rw [hdr,DY] at e2
   have r0:0<=t % st:=n_ _ (by omega)
   refine ⟨_,Z,_,Z,_,Z,_,_,Z,Z,(by show 0<st;omega),st,t % st,Z,by omega,r0,?_⟩
   rw [Jm.Nb t st (by omega)]
   obtain ⟨o1,o2⟩:=Rw d0 (by omega:0<st) c
   have gp:0<Jm.cf t st:=Jm.B7 t st (.inr (by omega))
   have gz:Jm.Sz 9000 (Jm.cf t st):=((hz.of_le (by have:=Vq h2 hm;rw [<-ep] at this;omega)).dvd (by omega:0<st) (by omega) (Jm.oG t st)).mono (by decide)
   obtain ⟨u,hu⟩:=Jm.vv t st
   obtain ⟨v,hv⟩:=Jm.oG t st
   have e3:t / Jm.cf t st*prod=top*(r / Jm.cf t st):=by
    have a1:t / Jm.cf t st=u:=by rw [U1 (by omega) hu]
    have a2:r=Jm.cf t st*(d*v*(stp.drop (i+1)).foldl (·*·) 1):=by
     rw [e2]
     conv=>lhs;rw [hv]
     rw [gY (Jm.cf t st),Int.mul_left_comm,gY d]
    have a3:r / Jm.cf t st=d*v*(stp.drop (i+1)).foldl (·*·) 1:=by rw [U1 (by omega) a2]
    rw [a1,a3]
    have e1':Jm.cf t st*(u*prod)=Jm.cf t st*(top*(d*v*(stp.drop (i+1)).foldl (·*·) 1)):=by
     rw [<-gY,<-hu,e1]
     conv=>lhs;rw [a2]
     rw [Int.mul_left_comm]
    exact Int.eq_of_mul_eq_mul_left (by omega) e1'
   have e4:r / Jm.cf t st=d*(st / Jm.cf t st)*(stp.drop (i+1)).foldl (·*·) 1:=by
    have a4:st / Jm.cf t st=v:=by rw [U1 (by omega) hv]
    have a2:r=Jm.cf t st*(d*v*(stp.drop (i+1)).foldl (·*·) 1):=by
     rw [e2]
     conv=>lhs;rw [hv]
     rw [gY (Jm.cf t st),Int.mul_left_comm,gY d]
    rw [a4,U1 (by omega) a2]
   refine ⟨fun σ' H2=>H2=H'/\σ'=[some (.ref bt),some (.int (t / Jm.cf t st)),some (.int (r / Jm.cf t st)),some (.int st),some (.int (Jm.cf t st))],?_,?_⟩
   . refine ⟨_,Z,_,_,Z,Z,_,Z,aM (fun c=>?_) (fun c=>?_)⟩
     . exact ⟨_,Z,_,Z,_,_,Z,Z,wX gp gz,_,Z,_,Z,_,_,Z,Z,wX gp gz,Z,Z⟩
     . have c':¬ 1<Jm.cf t st:=tG (pT.mpr c)
       have g1:Jm.cf t st=1:=by omega
       refine ⟨Z,?_⟩
       rw [g1,zO,zO]
       rfl
   rintro σ' H2 ⟨rfl,rfl⟩
   exact ⟨Z,_,_,_,_,_,Z,e3,e4,o2,o1⟩
 rintro σ H' ⟨rfl,t,r,d,s3,s4,rfl,e1,e2,d0,c⟩
 rw [List.drop_of_length_le (by rw [aE];exact aK _),List.foldl_nil,zP] at e2
 subst e2
 refine ⟨_,Z,_,Z,(gD 2),fun p hp=>?_⟩
 refine q p _ (aD hp _) ?_
 rw [ah]
 obtain ⟨a1,a2⟩:=Jm.QY d0 c
 have:Jm.fr top prod=Jm.fr t r:=Jm.abH (by omega) d0 e1.symm
 unfold tQ
 rw [this,a1,a2]
abbrev o9:Stmt:=inClass (top 4) 3
abbrev lQ:List Str:=["self","top"]
abbrev Ej:List Str:=lQ
theorem Df:aO Ej lQ (aC o9):=dN
theorem Dg {T:TC} (F:gJ K T.bot "share" "Bottom.share" o9 f fd) (X:Txt K T) (fU:Mn P w K mg base 2 T.bot "over" jb (z9 T)):Mn P w K mg base 3 T.bot "share" lQ (IV T):=by
 refine F.oA Df fun cdv A outer s H vs Q E hr h=>?_
 obtain ⟨⟨bt,db,sp,kn,stp,prod,top,kvs,rfl,hb,hs,ep,h2,hz,hk,kat,kl,knd,q⟩⟩:=h
 refine ⟨_,(@cT.h _ _ _ (ak (jG (v_ (yW (dz hr) (qv 1) (aI K (qv 0)))) (av (tD (dz hr) (aI K (qv 0)) (qv 1) (bY fU hr (qv 0) (af (qv 1) aq)) rfl)) bw)
  (av (bh (dZ (dz hr) (aI K (qv 0)) (qv 1)))))),?_⟩
 refine ⟨fun σ' H'=>σ'=[some (.ref bt),some (.int top)]/\(∀b o,H b=some o->b≠kn->H' b=some o)/\∃kvs' r,H' kn=some (.dK kvs')/\IK H' kvs' prod/\kvs'.length<=kvs.length+1/\(kvs'.map (·.1)).Nodup/\dG kvs' (Sum.inl top)=some (.ref r)/\H' r=some (tQ (Jm.fr top prod)),?_,?_⟩
 . refine ⟨_,Z,_,Z,bt,T.bot,db,_,_,Z,hb,X.cB,X.Rt,Z,kn,_,Z,ee.k (k:=Sum.inl top) hk,_,Z,?_⟩
   cases e:dG kvs (Sum.inl top) with
   | some v=>
     refine gr ⟨Z,fun b o e _=>e,kvs,?_⟩
     obtain ⟨t,r,e2,hr2⟩:=kat _ (T9 e)
     cases e2
     exact ⟨r,hk,kat,zQ _,knd,e,hr2⟩
   | none=>
     refine jU ?_
     refine ⟨_,Z,bt,db,_,Z,hb,Z,_,Z,⟨⟨bt,db,sp,kn,stp,prod,top,Z,hb,hs,ep,h2,hz,fun r H1 g1 hr1=>?_⟩⟩⟩
     have sl:kvs.length<sizeLine:=by rw [jQ];omega
     refine ⟨_,Z,bt,T.bot,db,_,_,Z,g1 _ _ hb,X.cB,X.Rt,Z,_,Z,kn,_,Z,vt.k (k:=Sum.inl top) (g1 _ _ hk) sl,Z,fun b o e hb=>by rw [az hb];exact g1 _ _ e,_,r,ah,?_,?_,Ws _ knd e,by rw [To,aB rfl],by rw [az (iX hr1 (g1 _ _ hk) (by intro z;cases z))];exact hr1⟩
     . rw [nc _ e]
       intro p hp
       rcases gi.mp hp with z|z
       . obtain ⟨t,r',e2,hr2⟩:=kat p z
         exact ⟨t,r',e2,by rw [az (iX (g1 _ _ hr2) (g1 _ _ hk) (by intro z;cases z))];exact g1 _ _ hr2⟩
       . rw [fV.mp z]
         exact ⟨top,r,Z,by rw [az (iX hr1 (g1 _ _ hk) (by intro z;cases z))];exact hr1⟩
     . rw [nc _ e,dg]
       exact aK _
 rintro σ' H' ⟨rfl,k1,kvs',r,e1,e2,e3,e4,e5,e6⟩
 exact ⟨_,Z,bt,T.bot,db,_,_,Z,k1 _ _ hb (iX hb hk (by intro z;cases z)),X.cB,X.Rt,Z,_,Z,kn,_,Z,e5▸ee.k (k:=Sum.inl top) e1,q r H' kvs' k1 e1 e2 e3 e4 e6⟩
abbrev qj:Stmt:=inClass (top 21) 12
abbrev ko:List Str:=["self","part"]
abbrev Gn:List Str:=ko.append ["tops"]
theorem wF:aO Gn ko (aC qj):=dN
theorem Ek {T:TC} (F:gJ K T.hold "shares" "Hold.shares" qj f fd) (X:Txt K T) (iI:Mn P w K mg base 1 T.hold "part_of" eG (AQ T)) (fD:Mn P w K mg base 1 T.hold "tops_of" iH (z7 T)) (qm:Mn P w K mg base 3 T.bot "share" lQ (IV T)) (iA:mg "zip"=none):Mn P w K mg base 4 T.hold "shares" ko (xJ T):=by
 refine F.oA wF fun cdv A outer s H vs Q E hr h=>?_
 obtain ⟨⟨n,ρ,A,st,ip,pt,rfl,hh,ep,hkn,q⟩⟩:=h
 obtain ⟨qq,eq,k1,k2,k3,k4⟩:=hh.h.find ep
 have dR:=bX ep
 refine ⟨_,(@cT.h _ _ _ (ak (aT (i:=2) wF.nd (bY fD hr (qv 0) (af (bY iI hr (qv 0) (af (qv 1) aq)) aq)))
  (av (bh (CH (Js ["owner","top","self"] [none,none,some 0] rfl (p8 K (by rfl) iA (af (aI K (qv 0)) (af (qv 2) aq))) (fun _ _ _ _=>(iF K (n:=2) rfl (cA (aV (i:=0) (show List.Nodup (["owner","top","self"] :List Str) from by decide +kernel)) (cA (aV (i:=1) (show List.Nodup (["owner","top","self"] :List Str) from by decide +kernel)) iE)))) (fun _ _ _ _=>(gv (af (qv 0) (af (bY qm hr (aI K (qv 2)) (af (qv 1) aq)) aq)))) (fun _ _ _ _=>(aR jT (qv 1) ai (aX _))) rfl (by rfl))))))),?_⟩
 refine ⟨_,Z,A.a,A.dx,_,Z,hh.h.oa,Z,_,Z,A.a,A.dx,_,Z,hh.h.oa,Z,_,Z,⟨⟨n,ρ,A,st,ip,pt,qq,Z,hh.h,hh.wf.dw,ep,eq,?_⟩⟩⟩
 refine ⟨⟨n,ρ,A,st,ip,pt,qq,Z,hh.h,hh.wf,ep,eq,fun l H1 g1 hl hl1=>?_⟩⟩
 have jL:=hh.mono g1
 have cl:ρ l=none:=hh.g.none hl
 have tl:(aY st pt).length=st.own.length:=by
  unfold aY
  rw [kU,hh.wf.rows pt dR,hh.wf.fW,wO]
 have fY:=hh.wf.jV
 refine ⟨A.pl,_,jL.h.iB,fun ob=>?_⟩
 have hl2:upd H1 A.pl (.eX ob (.dK (fP 0 st.own))) l=some (.lst ((aY st pt).map V.int)):=dX jL.h.iB hl1 (fun k z=>by cases z)
 refine ⟨_,Z,A.a,T.hold,A.dx,_,_,Z,dX jL.h.iB jL.h.oa (fun k z=>by cases z),X.cH,X.hpl,Z,_,Z,_,_,_,_,_,_,Z, .keys ah, .lst (aH.of hl2),fun acc hacc=>?_⟩
 have vc:H1 acc=none:=nt jL.h.iB hacc
 have ca:ρ acc=none:=jL.g.none vc
 have N1:acc≠A.pl:=fun e=>by rw [e,ah] at hacc;cases hacc
 have nal:acc≠l:=fun e=>by rw [e,hl1] at vc;cases vc
 refine WI (K:=K) (n:=st.own.length) [0,1] (fun i out Hc=>∃H5,Hc=upd H5 A.pl (.eX ob (.dK (fP 0 st.own)))/\Gh ρ H5/\Fr n ρ H ρ H5/\aN T n ρ A H5 { st with kn:=st.kn+i }/\H5 l=some (.lst ((aY st pt).map V.int))/\i8 H5 out (((List.zip st.own (aY st pt)).take i).filterMap fun x=>if 0<x.2 then some (x.1,Jm.fr x.2 st.prod) else none))
  (by decide) (by omega) ⟨upd H1 acc (.lst []),jW (cO N1),jL.g.alloc vc,(Fr.of_same (ρ:=ρ) g1).trans (Fr.of_same (aD vc _)),jL.h.mono (aD vc _),by rw [az (cO nal)];exact hl1, .nil⟩ ?_ ?_ ?_ ?_
 . rintro i out Hc hi ha ⟨H5,rfl,G5,F5,h5,l5,S5⟩
   exact ⟨ah,aH.of (dX h5.iB l5 (fun k z=>by cases z)),by rw [aE,oN];exact hi,by rw [aE,tl];exact hi⟩
 . rintro out Hc ha ⟨H5,rfl,G5,F5,h5,l5,S5⟩
   exact ⟨ah,aH.of (dX h5.iB l5 (fun k z=>by cases z)), .inr (by rw [aE,tl];exact aK _)⟩
 . rintro i x out Hc H2 hi Bl ha ⟨H5,rfl,G5,F5,h5,l5,S5⟩ ⟨pp,x1,y1,hpp,rfl,rfl,e1,e2⟩
   obtain ⟨t,rfl,et⟩:=fZ e2
   rw [IQ,cg] at e1
   obtain ⟨o,eo,rfl⟩:=lW.mp e1
   have npl:pp≠A.pl:=fun e=>by rw [e,ah] at hpp;cases hpp
   have afu:H5 pp=none:=nt h5.iB hpp
   have ez:(List.zip st.own (aY st pt))[i]?=some (o,t):=by rw [List.getElem?_zip_eq_some];exact ⟨eo,et⟩
   have g6:=aD afu (.tup [.str o, .int t])
   have e6:upd (upd H5 A.pl (.eX ob (.dK (fP 0 st.own)))) pp (.tup [.str o, .int t])=upd (upd H5 pp (.tup [.str o, .int t])) A.pl (.eX ob (.dK (fP 0 st.own))):=jW (cO npl)
   rw [e6]
   have G6:=G5.same g6
   have F6:=F5.trans (Fr.of_same (ρ:=ρ) g6)
   have h6:=h5.mono g6
   have l6:=g6 _ _ l5
   have S6:=S5.mono g6.tups
   have t6:upd H5 pp (.tup [.str o, .int t]) pp=some (.tup [.str o, .int t]):=ah
   have Kh:upd H5 pp (.tup [.str o, .int t]) acc=some (.lst out):=by
    rw [az N1] at ha
    exact g6 _ _ ha
   generalize upd H5 pp (.tup [.str o, .int t])=H6 at *
   have fz:∀{b:Addr} {u:HO},H6 b=some u->(∀k,u ≠ .dK k)->upd H6 A.pl (.eX ob (.dK (fP 0 st.own))) b=some u:=fun e k=>dX h6.iB e k
   refine ⟨pp,_,Z,bN.of (fz t6 (fun k z=>by cases z)),Z,_,Z,_,_,Z,Z,_,Z,?_⟩
   refine aM (fun c=>?_) (fun c=>?_)
   . have c':0<t:=aZ c
     obtain ⟨kvs,j1,j2,j3,j4⟩:=h6.okn
     have VN:A.kn≠A.pl:=Cr h6.iS h6.iC (by intro z;cases z)
     refine ⟨_,Z,_,Z,A.a,T.hold,A.dx,_,_,Z,fz h6.oa (fun k z=>by cases z),X.cH,X.vY,Z,A.bt,A.db,_,Z,fz h6.jv (fun k z=>by cases z),Z,_,Z,
      ⟨⟨A.bt,A.db,A.sp,A.kn,st.stp,st.prod,t,kvs,Z,fz h6.jv (fun k z=>by cases z),fz h6.nQ (fun k z=>by cases z),hh.wf.mO,hh.wf.rV,hh.wf.big,by rw [az VN];exact j1,(fun p hp=>let ⟨t,r,e,w⟩:=j2 p hp;⟨t,r,e,fz w (fun k z=>by cases z)⟩),HQ j3 (by show st.kn+i<_;omega),j4,fun r H7 kvs' b1 b2 b3 b4 b5 b6=>?_⟩⟩⟩
     have N3:H7 A.pl=some (.eX ob (.dK (fP 0 st.own))):=b1 _ _ ah (cO VN)
     refine ⟨(gD 2),fun tt VO=>?_⟩
     have ntp:tt≠A.pl:=fun e=>by rw [e,N3] at VO;cases VO
     have k8:∀b u,H6 b=some u->b≠A.kn->upd H7 A.pl (.dK (fP 0 st.own)) b=some u:=fun b u e hb=>by
      by_cases z:b=A.pl
      . rw [z] at e ⊢
        rw [show H6 A.pl=some (.dK (fP 0 st.own)) from h6.iB] at e
        cases e;exact ah
      . rw [az z];exact b1 _ _ (by rw [az z];exact e) hb
     have h8:=h6.T_ (m:=st.kn+i+1) k8 (by rw [az VN];exact b2) (fun p hp=>let ⟨t,r,e,w⟩:=b3 p hp;⟨t,r,e,iD (.inr ⟨_,N3,Z⟩) _ _ w⟩) (fT b4 (Nat.succ_le_succ j3)) b5
     have G8:Gh ρ (upd H7 A.pl (.dK (fP 0 st.own))):=fun b cc e=>by
      by_cases z:b=A.pl
      . rw [z];exact ⟨_,ah,Z⟩
      by_cases z2:b=A.kn
      . rw [z2,az VN];exact ⟨_,b2,Z⟩
      obtain ⟨u,a1,a2⟩:=G6 b cc e
      exact ⟨u,k8 b u a1 z2,a2⟩
     have F8:Fr n ρ H6 ρ (upd H7 A.pl (.dK (fP 0 st.own))):=fun b u e k=>⟨k8 b u e (fun z=>k 9 ⟨#[]⟩ (by rw [z];exact h6.iS)),Z⟩
     have tp8:∀b xs,H6 b=some (.tup xs)->upd H7 A.pl (.dK (fP 0 st.own)) b=some (.tup xs):=fun b xs e=>k8 b _ e (iX e j1 (by intro z;cases z))
     have afv:upd H7 A.pl (.dK (fP 0 st.own)) tt=none:=by rw [az ntp];exact VO
     have back:H7=upd (upd H7 A.pl (.dK (fP 0 st.own))) A.pl (.eX ob (.dK (fP 0 st.own))):=by rw [nK,xm N3]
     have hr8:upd H7 A.pl (.dK (fP 0 st.own)) r=some (tQ (Jm.fr t st.prod)):=iD (.inr ⟨_,N3,Z⟩) _ _ b6
     have l8:=k8 _ _ l6 (fun z=>by rw [z,j1] at l6;cases l6)
     have AA:=k8 _ _ Kh (fun z=>by rw [z,j1] at Kh;cases Kh)
     have S8:=S6.mono tp8
     have F08:=F6.trans F8
     rw [back] at VO ⊢
     generalize upd H7 A.pl (.dK (fP 0 st.own))=H8 at *
     have g9:=aD afv (.tup [.str o, .ref r])
     rw [jW (cO ntp)]
     refine ⟨by rw [az N1];exact g9 _ _ AA,_,jW (cO N1),(G8.same g9).wr rfl,(F08.trans (Fr.of_same (ρ:=ρ) g9)).new (g1.free vc),?_,?_,?_⟩
     . exact (h8.mono g9).same (Cw ca (g9 _ _ AA) rfl)
     . rw [az (cO nal)];exact g9 _ _ l8
     . rw [take_snoc ez,List.filterMap_append,HM]
       simp only [c',if_true,List.filterMap_nil]
       exact ((S8.mono g9.tups).snoc ah (g9 _ _ hr8)).mono (iD (.inr ⟨_,g9 _ _ AA,Z⟩))
   . have c':¬ 0<t:=tG (pT.mpr c)
     refine ⟨by rw [az N1];exact Kh,H6,Z,G6,F6,?_,l6,?_⟩
     . obtain ⟨kvs,j1,j2,j3,j4⟩:=h6.okn
       exact h6.T_ (m:=st.kn+i+1) (fun b u e _=>e) j1 j2 (Nat.le_succ_of_le j3) j4
     . rw [take_snoc ez,List.filterMap_append,HM]
       simp only [c',ou,List.filterMap_nil,BA]
       exact S6
 . rintro out Hc Bl ha ⟨H5,rfl,G5,F5,h5,l5,S5⟩
   rw [Oe (by rw [List.length_zip,tl];omega)] at S5
   refine ⟨ah,?_⟩
   rw [nK,xm (show H5 A.pl=some (.dK (fP 0 st.own)) from h5.iB)]
   rw [az N1] at ha
   obtain ⟨kvs,j1,j2,j3,j4⟩:=h5.okn
   have h9:=h5.T_ (m:=st.kn+100) (fun b u e _=>e) j1 j2 (fT j3 (by show st.kn+st.own.length<=st.kn+100;omega)) j4
   exact q acc out H5 ⟨G5,h9,abX hh.wf hkn⟩ F5 (g1.free vc) ha ca S5
abbrev qo:Stmt:=inClass (top 21) 17
abbrev mR:List Str:=["self"]
abbrev Gp:List Str:=mR
theorem El:aO Gp mR (aC qo):=dN
theorem Em {T:TC} (F:gJ K T.hold "landed" "Hold.landed" qo f fd) (X:Txt K T) (ki:mg "list"=none):Mn P w K mg base 1 T.hold "landed" mR (IW T):=by
 refine F.oA El fun cdv A outer s H vs Q E hr h=>?_
 obtain ⟨⟨n,ρ,A,st,rfl,hh,q⟩⟩:=h
 obtain ⟨ws,hw,hA⟩:=hh.h.pP
 have hl:=hA.length
 have hal:=hh.wf.tX
 refine ⟨_,(@cT.h _ _ _ (av (bh (gP ["name","owner","worth","shares"] [none,none,none,none] rfl (d8 K (aI K (qv 0))) (fun _ _ _ _=>(iF K (n:=4) rfl (cA (aV (i:=0) (show List.Nodup (["name","owner","worth","shares"] :List Str) from by decide +kernel)) (cA (aV (i:=1) (show List.Nodup (["name","owner","worth","shares"] :List Str) from by decide +kernel)) (cA (aV (i:=2) (show List.Nodup (["name","owner","worth","shares"] :List Str) from by decide +kernel)) (cA (aV (i:=3) (show List.Nodup (["name","owner","worth","shares"] :List Str) from by decide +kernel)) iE)))))) (fun _ _ _ _=>(gv (af (qv 0) (af (qv 1) (af (qv 2) (af (nV (rT K) (by rfl) ki Og (af (qv 3) aq)) aq)))))) rfl (by rfl))))),?_⟩
 refine ⟨_,Z,A.a,T.hold,A.dx,_,_,Z,hh.h.oa,X.cH,X.has,Z,A.as,Z,⟨_,aH.of hw⟩,fun acc hacc=>?_⟩
 refine vX (K:=K) (n:=ws.length) [0,1,2,3] (fun i out H1=>aP H H1/\jy acc ρ H1 out (st.dj.take i)) (by decide) (by omega) ⟨aD hacc _, .nil⟩ (fun i out H1 hi _ hp=>⟨ws,_,aH.of (hp.1 _ _ hw),bu hi⟩) (fun out H1 _ hp=>⟨ws,aH.of (hp.1 _ _ hw),aK _⟩) ?_ ?_
 . rintro i x out H1 H2 hi fY ha ⟨g,hL⟩ ⟨rfl,hy⟩
   have ex:=hy ws (aH.of (g _ _ hw))
   obtain ⟨r,l,y,ss,rfl,ey,a1,a2,a3,a4⟩:=hA.get ex
   refine ⟨r,_,Z,bN.of (g _ _ a1),Z,_,Z,_,Z,_,Z,_,Z,l,ss,Z, .inl (aH.of (g _ _ a2)),fun l2 hl2=>⟨(gD 4),fun t ht=>?_⟩⟩
   have g2:=aD hl2 (.lst ss)
   have g3:=aD ht (.tup [.str y.nm, .str y.ow, .int y.wo, .ref l2])
   have hl3:upd H2 l2 (.lst ss) l2=some (.lst ss):=ah
   have c2:ρ l2=none:=hh.g.none (g.free hl2)
   refine ⟨(g2.trans g3) _ _ ha,((g.trans g2).trans g3).cN hacc _,?_⟩
   rw [take_snoc ey]
   have n1:l2≠acc:=fun e=>by rw [e,ha] at hl2;cases hl2
   exact ((hL.mono (g2.trans g3)).snoc (x:=y) ah (g3 _ _ hl3) c2 n1 (a4.mono ((g.trans g2).trans g3).tups)).upd ((g2.trans g3) _ _ ha)
 rintro out H1 fY ha ⟨g,hL⟩
 rw [hl,cK] at hL
 exact q acc out H1 g hacc ha hL.to
abbrev sf:Stmt:=inClass (top 21) 4
abbrev o_:List Str:=["self","owner","amount"]
abbrev Kl:List Str:=o_.append ["place","whole","added"]
theorem mS:aO Kl o_ (aC sf):=dN
theorem En {T:TC} {e:Ec} (F:gJ K T.hold "award" "Hold.award" sf f fd) (X:Txt K T) (fj:Mx P w K mg base 1 T.hold "place_of" eV (xD T e)) (dQ:Dx P w K mg base 1 "check_amount" iG (yY e)) (gy:Mn P w K mg base 1 T.hold "whole" jJ (z8 T)) (jM:Mn P w K mg base 3 T.hold "blend" lD (DZ T K)) (b_:mg "len"=none) (iz:gK K e.AW) (jl:mg "TooMuch"=some (.ref e.AW)):Mx P w K mg base 4 T.hold "award" o_ (Jw T e):=by
 refine F.yg mS fun cdv A outer s H vs Q E hr h=>?_
 obtain ⟨⟨n,ρ,A,st,o,a,rfl,hh,aw,dq⟩⟩:=h
 refine ⟨_,(@cT.h _ _ _ (ak (aT (i:=3) mS.nd (lO fj hr (qv 0) (af (qv 1) aq)))
  (ak (cy (CJ dQ hr (af (qv 2) aq)))
  (ak (aT (i:=4) mS.nd (p_ gy hr (qv 0)))
  (ak (b9 (aR HB (qv 2) (qv 4) (aX _)) (av (j0 iz (by rfl) jl)) bw)
  (ak (aT (i:=5) mS.nd (aG QM (ir (af ai aq)) (bF uR (by rfl) b_ gb (af (aI K (qv 0)) aq))))
  (ak (mC (aG gk (qv 2) (aI K (aI K (qv 0)))) (mD (qv 5) (qv 3) set_list))
  (av (cy (bY jM hr (qv 0) (af (aG kW (qv 4) (qv 2)) (af (qv 4) (af (qv 5) aq))))))))))))),?_⟩
 have wf:=hh.wf
 refine ⟨_,Z,A.a,A.dx,_,Z,hh.h.oa,Z,_,Z,⟨⟨n,ρ,A,st,o,Z,hh.h,fun ho=>dq.no 2 (by unfold jE;exact aA ho),fun ho=>?_⟩⟩⟩
 refine ⟨_,Z,⟨⟨a,Z,fun h5=>dq.no 5 (by unfold jE;rw [aB ho,aB h5]),fun h1=>?_⟩⟩⟩
 refine ⟨_,Z,A.a,A.dx,_,Z,hh.h.oa,Z,⟨⟨n,ρ,A,st,Z,hh.h,wf.l_,fun H1 g1=>?_⟩⟩⟩
 refine ⟨_,Z,_,Z,_,_,Z,Z,_,Z,aM (fun c=>?_) (fun c=>?_)⟩
 . have c':aS st<=a:=aZ c
   exact fun y=>dq.no 6 (by unfold jE;rw [aB ho,aA (show ¬ a<1 by omega),aB c']) y H1 g1
 have c':¬ aS st<=a:=tG (pT.mpr c)
 have q:=dq.ok (by unfold jE;rw [aB ho,aA (show ¬ a<1 by omega),aA c'])
 have jL:=hh.mono g1
 have F1:Fr n ρ H ρ H1:=Fr.of_same g1
 clear hh
 refine ⟨(gD 1),fun p0 hp0=>?_⟩
 have g2:=aD hp0 (.lst [.int 0])
 have kP:=jL.mono g2
 have F2:=F1.trans (Fr.of_same (ρ:=ρ) g2)
 have UH:upd H1 p0 (.lst [.int 0]) p0=some (.lst [.int 0]):=ah
 generalize upd H1 p0 (.lst [.int 0])=H2 at *
 clear jL F1
 have Ay:=oN st.own 0
 have fY:=kP.wf.jV
 refine ⟨_,Z,A.a,T.hold,A.dx,_,_,Z,kP.h.oa,X.cH,X.hpl,Z,A.pl,_,Z,kP.h.iB,p0,_,_,Z,Z,UH,by omega,by rw [Ay];omega,by rw [Ay];show 1*_<=_;rw [rM,Nat.one_mul];exact small (by omega),fun p1 hp1=>?_⟩
 rw [Ay,rM,show (List.replicate st.own.length [V.int 0]).flatten=(List.replicate st.own.length (0:Int)).map V.int from by rw [List.map_replicate,List.flatten_replicate_singleton]]
 have g3:=aD hp1 (.lst ((List.replicate st.own.length (0:Int)).map V.int))
 have mH:=kP.mono g3
 have F3:=F2.trans (Fr.of_same (ρ:=ρ) g3)
 have n1:H p1=none:=(g1.trans g2).free hp1
 have c1:ρ p1=none:=kP.g.none hp1
 have zA:upd H2 p1 (.lst ((List.replicate st.own.length (0:Int)).map V.int)) p1=_:=ah
 generalize upd H2 p1 (.lst ((List.replicate st.own.length (0:Int)).map V.int))=H3 at *
 have hi:=List.idxOf_lt_length_iff.mpr ho
 have bo:=aw.blend (o:=o) wf h1 (by omega)
 have za:Ib a st.prod:= .inl (by have:(aS st).natAbs<2 ^ 60:=aw.big;omega)
 refine ⟨_,Z,_,Z,A.a,T.hold,A.dx,_,_,Z,mH.h.oa,X.cH,X.vY,Z,A.bt,T.bot,A.db,_,_,Z,mH.h.jv,X.cB,X.Nh,Z,_,_,Z,Z,za,_,Z,_,Z,p1,_,_,st.own.idxOf o,Z,Z,zA,by rw [aE,nX];exact vV hi,?_⟩
 rw [show ((List.replicate st.own.length (0:Int)).map V.int).set (st.own.idxOf o) (V.int (a*st.prod))=(kF st o a).map V.int from by unfold kF;rw [oj]]
 have rK:=mH.Cy (o:= .lst ((kF st o a).map V.int)) c1 zA rfl rfl
 have F4:=F3.new (o:= .lst ((kF st o a).map V.int)) n1
 have UI:upd H3 p1 (.lst ((kF st o a).map V.int)) p1=_:=ah
 generalize upd H3 p1 (.lst ((kF st o a).map V.int))=H4 at *
 have zk:Jm.Sz 60 (aS st-a):=bo.big.of_le (by omega)
 have zG:∀m∈kF st o a,0<=m/\Jm.Sz 8900 m:=fun m hm=>by
  have Ct:=bo.add m hm
  have h2:=wf.eY
  have zl:Jm.Sz 60 a:=bo.big.of_le (by omega)
  exact ⟨Ct.1,Jm.Sz.kX (by have:=oh bo.l (show 0<=st.prod by omega);omega) Ct.2 ((zl.mul bo.prod).mono (by decide))⟩
 exact ⟨_,Z,A.a,A.dx,_,Z,rK.h.oa,Z,_,Z,_,Z,_,_,Z,Z,_,Z,_,Z,⟨⟨n,ρ,A,st,aS st-a,aS st,p1,kF st o a,Z,rK,aH.of UI,bo.len,bo.k,by omega,zk,bo.big,zG,aw.bD,aw.stp,xr wf bo,fun ρ6 A6 H6 J8 e6 f6=>q ρ6 A6 H6 J8 e6 (F4.trans f6)⟩⟩⟩
abbrev qp:Stmt:=inClass (top 21) 5
abbrev mT:List Str:=["self","part","amount"]
abbrev Gq:List Str:=mT
theorem Eo:aO Gq mT (aC qp):=dN
theorem Dh {T:TC} {e:Ec} (F:gJ K T.hold "mishap" "Hold.mishap" qp f fd) (X:Txt K T) (b8:Mx P w K mg base 1 T.hold "part_of" eG (k7 T e)) (mU:Dx P w K mg base 2 "check_loss" lC (Jv e)) (ja:Mn P w K mg base 1 T.hold "lessen" kj (Je T)):Mx P w K mg base 3 T.hold "mishap" mT (Fx T e):=by
 refine F.yg Eo fun cdv A outer s H vs Q E hr h=>?_
 obtain ⟨⟨n,ρ,A,st,x,a,rfl,hh,dq⟩⟩:=h
 refine ⟨_,(@cT.h _ _ _ (ak (cy (CJ mU hr (af (aI K (lO b8 hr (qv 0) (af (qv 1) aq))) (af (qv 2) aq))))
  (av (cy (bY ja hr (qv 0) (af (qv 1) (af (qv 2) aq))))))),?_⟩
 refine ⟨_,Z,A.a,A.dx,_,Z,hh.h.oa,Z,_,Z,⟨⟨n,ρ,A,st,x,Z,hh.h,hh.wf.dw,fun hn=>dq.no 3 ?_,fun i p qq e1 e2 e3=>?_⟩⟩⟩
 . unfold i9;rw [aA (fun z=>?_)]
   obtain ⟨j,p,h1,h2⟩:=j6 z
   exact hn p (bX h1) h2
 obtain ⟨k1,_⟩:=hh.h.opt i p qq e2 e3
 have hm:x∈eT st:=by rw [<-e1];exact z_ e2
 have dR:=bX e2
 have ew:(bK st x).wo=p.wo:=by rw [dM hh.wf dR e1]
 refine ⟨qq.1,T.part,qq.2.1,_,_,Z,k1,X.cP,X.tW,Z,_,Z,⟨⟨p.wo,a,Z,fun h5=>dq.no 5 ?_,fun h1 h6=>dq.no 6 ?_,fun h1 h2=>?_⟩⟩⟩
 . unfold i9;rw [aB hm,aB h5]
 . unfold i9;rw [aB hm,aA (show ¬ a<1 by omega)];show (if (bK st x).wo<a then _ else _)=_;rw [ew,aB h6]
 have ho:=dq.ok (by unfold i9;rw [aB hm,aA (show ¬ a<1 by omega)];show (if (bK st x).wo<a then _ else _)=_;rw [ew,aA (by omega)])
 exact ⟨_,Z,A.a,A.dx,_,Z,hh.h.oa,Z,_,Z,_,Z,⟨⟨n,ρ,A,st,(x,a),Z,hh,⟨p,dR,e1,h2⟩,D0 hh.wf (fun p' gM e'=>by rw [sZ hh.wf gM dR (e'.trans e1.symm)];exact h2),ho⟩⟩⟩
abbrev ux:Stmt:=inClass (top 21) 6
abbrev qL:List Str:=["self","part","amount"]
abbrev LV:List Str:=qL.append ["risen"]
theorem zC:aO LV qL (aC ux):=dN
theorem Gr {T:TC} {e:Ec} (F:gJ K T.hold "rise" "Hold.rise" ux f fd) (X:Txt K T) (b8:Mx P w K mg base 1 T.hold "part_of" eG (k7 T e)) (dQ:Dx P w K mg base 1 "check_amount" iG (yY e)):Mx P w K mg base 2 T.hold "rise" qL (NC T e):=by
 refine F.yg zC fun cdv A outer s H vs Q E hr h=>?_
 obtain ⟨⟨n,ρ,A,st,x,a,rfl,hh,dq⟩⟩:=h
 refine ⟨_,(@cT.h _ _ _ (ak (aT (i:=3) zC.nd (lO b8 hr (qv 0) (af (qv 1) aq)))
  (ak (cy (CJ dQ hr (af (qv 2) aq)))
  (av (oS K (qv 3) (qv 2) Yp))))),?_⟩
 refine ⟨_,Z,A.a,A.dx,_,Z,hh.h.oa,Z,_,Z,⟨⟨n,ρ,A,st,x,Z,hh.h,hh.wf.dw,fun hn=>dq.no 3 ?_,fun i p qq e1 e2 e3=>?_⟩⟩⟩
 . unfold kN;rw [aA (fun z=>?_)]
   obtain ⟨j,p,h1,h2⟩:=j6 z
   exact hn p (bX h1) h2
 subst e1
 obtain ⟨k1,k2,k3,k4⟩:=hh.h.opt i p qq e2 e3
 have hm:=z_ e2
 refine ⟨_,Z,⟨⟨a,Z,fun h5=>dq.no 5 ?_,fun h1=>?_⟩⟩⟩
 . unfold kN;rw [aB hm,aB h5]
 have ho:=dq.ok (by unfold kN;rw [aB hm,aA (show ¬ a<1 by omega)])
 refine ⟨_,Z,qq.1,T.part,qq.2.1,_,_,Z,k1,X.cP,X.tW,Z,_,Z,_,_,Z,Z,qq.2.1,_,k1,by show 6<1000;decide,?_⟩
 have Ct:=hh.h.iT (p1:={ p with wo:=p.wo+a }) hh.g e2 e3 rfl rfl hh.wf.dw
 have hw:Wf (HJ st p.nm a):=yZ hh.wf fun q hq _=>⟨Z,Z,Z,Z,by have:=(hh.wf.jO q hq).1;show 1<=q.wo+a;omega,(hh.wf.jO q hq).2⟩
 have es:HJ st p.nm a={ st with aj:=st.aj.set i { p with wo:=p.wo+a } }:=qc hh.wf.dw e2 _
 rw [es] at ho hw
 exact ho ρ A _ ⟨hh.g.wr rfl,Ct,hw⟩ rfl (Fr.write k3)
abbrev uy:Stmt:=inClass (top 21) 7
abbrev qM:List Str:=["self","part","taker"]
abbrev LW:List Str:=qM.append ["handed","to","at","tops"]
theorem lE:aO LW qM (aC uy):=dN
theorem Gs {T:TC} {e:Ec} (F:gJ K T.hold "hand" "Hold.hand" uy f fd) (X:Txt K T) (b8:Mx P w K mg base 1 T.hold "part_of" eG (k7 T e)) (fj:Mx P w K mg base 1 T.hold "place_of" eV (xD T e)) (fD:Mn P w K mg base 1 T.hold "tops_of" iH (z7 T)) (fC:Mn P w K mg base 1 T.hold "beyond_common" gx (O9 T K)):Mx P w K mg base 2 T.hold "hand" qM (ND T e):=by
 refine F.yg lE fun cdv A outer s H vs Q E hr h=>?_
 obtain ⟨⟨n,ρ,A,st,x,o,rfl,hh,hs,dq⟩⟩:=h
 refine ⟨_,(@cT.h _ _ _ (ak (aT (i:=3) lE.nd (lO b8 hr (qv 0) (af (qv 1) aq)))
  (ak (aT (i:=4) lE.nd (lO fj hr (qv 0) (af (qv 2) aq)))
  (ak (aT (i:=5) lE.nd (lO fj hr (qv 0) (af (aI K (qv 3)) aq)))
  (ak (b9 (aR dP (qv 4) (qv 5) (aX _)) (av W6) bw)
  (ak (aT (i:=6) lE.nd (bY fD hr (qv 0) (af (qv 3) aq)))
  (ak (Nz (qv 6) (qv 4) JD (aJ (cZ K) (qv 6) (qv 5)) X5 set_list)
  (ak (mC ai (mD (qv 6) (qv 5) set_list))
  (ak (dD K (qv 3) (qv 2))
  (ak (dD K (qv 3) ai)
  (av (dD K (qv 3) (bY fC hr (qv 0) (af (qv 6) aq)))))))))))))),?_⟩
 have wf:=hh.wf
 refine ⟨_,Z,A.a,A.dx,_,Z,hh.h.oa,Z,_,Z,⟨⟨n,ρ,A,st,x,Z,hh.h,wf.dw,fun hn=>dq.no 3 ?_,fun i p qq e1 e2 e3=>?_⟩⟩⟩
 . unfold jY;rw [aA (fun z=>?_)]
   obtain ⟨j,p,h1,h2⟩:=j6 z
   exact hn p (bX h1) h2
 have dR:=bX e2
 have eg:bK st x=p:=dM wf dR e1
 subst e1
 have hm:=z_ e2
 refine ⟨_,Z,A.a,A.dx,_,Z,hh.h.oa,Z,_,Z,⟨⟨n,ρ,A,st,o,Z,hh.h,fun ho=>dq.no 2 (by unfold jY;rw [aB hm,aA ho]),fun ho=>?_⟩⟩⟩
 have eR:jY st p.nm o=none:=by unfold jY;rw [aB hm,aB ho]
 have q:=dq.ok eR
 have wS:=NG wf eR hs
 obtain ⟨k1,k2,k3,k4⟩:=hh.h.opt i p qq e2 e3
 have VP:=wf.ow p dR
 refine ⟨_,Z,A.a,A.dx,_,Z,hh.h.oa,Z,_,Z,qq.1,T.part,qq.2.1,_,_,Z,k1,X.cP,X.pow,Z,⟨⟨n,ρ,A,st,p.ow,Z,hh.h,fun z=>absurd VP z,fun _=>?_⟩⟩⟩
 refine ⟨_,Z,_,Z,Z,_,Z,aM (fun c=>?_) (fun c=>?_)⟩
 . have c':st.own.idxOf o=st.own.idxOf p.ow:=by have:=V.int.inj (aZ c);omega
   unfold fB at q
   rw [eg,aB c'] at q
   exact q ρ A H hh rfl Fr.refl
 have ne:st.own.idxOf o≠st.own.idxOf p.ow:=fun z=>c (a_ (by rw [z]))
 have hl:=CL wf dR
 have ha:st.own.idxOf p.ow<(aY st p).length:=by rw [hl];exact ym VP
 have hb:st.own.idxOf o<(aY st p).length:=by rw [hl];exact ym ho
 have at':∀{l:List Int} {j:Nat},j<l.length->qV (l.map V.int) (j:Int)=some (.int (l.getD j 0)):=fun {l j} h=>ay (by rw [cg,iK,bu h];rfl)
 unfold fB at q wS
 rw [eg,aA ne,qc wf.dw e2] at q wS
 generalize hTT:lN st p o=TT at *
 rw [xH] at hTT
 refine ⟨_,Z,A.a,A.dx,_,Z,hh.h.oa,Z,_,Z,⟨⟨n,ρ,A,st,i,p,qq,Z,hh.h,wf,e2,e3,fun l H1 g1 rL hl1=>?_⟩⟩⟩
 have cl:ρ l=none:=hh.g.none rL
 refine ⟨_,Z,_,Z,l,_,_,_,Z,Z,aH.of hl1,at' hb,_,Z,_,Z,l,_,_,_,Z,Z,aH.of hl1,at' ha,_,_,Z,Z,l,_,_,st.own.idxOf o,Z,Z,hl1,by rw [aE];exact vV hb,?_⟩
 have m1:(List.map V.int (aY st p)).set (st.own.idxOf o) (.int ((aY st p).getD (st.own.idxOf o) 0+(aY st p).getD (st.own.idxOf p.ow) 0))=((aY st p).set (st.own.idxOf o) ((aY st p).getD (st.own.idxOf o) 0+(aY st p).getD (st.own.idxOf p.ow) 0)).map V.int:=oj.symm
 rw [m1]
 refine ⟨_,Z,_,Z,l,_,_,st.own.idxOf p.ow,Z,Z,ah,by rw [aE,iw];exact vV ha,?_⟩
 have m2:(((aY st p).set (st.own.idxOf o) ((aY st p).getD (st.own.idxOf o) 0+(aY st p).getD (st.own.idxOf p.ow) 0)).map V.int).set (st.own.idxOf p.ow) (.int 0)=TT.map V.int:=by rw [<-hTT];exact oj.symm
 rw [m2,nK]
 have g3:aP H (upd H1 l (.lst (TT.map V.int))):=g1.cN rL _
 have hl3:upd H1 l (.lst (TT.map V.int)) l=some (.lst (TT.map V.int)):=ah
 generalize upd H1 l (.lst (TT.map V.int))=H3 at *
 have mH:=hh.mono g3
 have c3:=g3 _ _ k1
 have hi:i<st.aj.length:=(dS.mp e2).1
 have tl:TT.length=st.own.length:=by rw [<-hTT,D5,hl]
 clear hl1 g1 m1 m2
 refine ⟨_,Z,_,Z,qq.1,T.part,qq.2.1,_,Z,c3,X.cP,X.pow,by show 6<1000;decide,?_⟩
 have hA:=mH.h.iT (p1:={ p with ow:=o }) mH.g e2 e3 rfl rfl wf.dw
 have gA:Gh ρ (upd H3 qq.1 (.ins T.part qq.2.1 (cU { p with ow:=o } qq.2.2))):=mH.g.wr rfl
 have FA:Fr n ρ H ρ (upd H3 qq.1 (.ins T.part qq.2.1 (cU { p with ow:=o } qq.2.2))):=(Fr.of_same g3).trans (Fr.write k3)
 have kA:upd H3 qq.1 (.ins T.part qq.2.1 (cU { p with ow:=o } qq.2.2)) qq.1=some (.ins T.part qq.2.1 (cU { p with ow:=o } qq.2.2)):=ah
 have nA:∀b,upd H3 qq.1 (.ins T.part qq.2.1 (cU { p with ow:=o } qq.2.2)) b=none->H b=none:=fun b h=>g3.free (jr h)
 have lA:upd H3 qq.1 (.ins T.part qq.2.1 (cU { p with ow:=o } qq.2.2)) l=some (.lst (TT.map V.int)):=by rw [az (fun z=>by rw [z,k3] at cl;cases cl)];exact hl3
 show tM _ _ _ _ (upd H3 qq.1 (.ins T.part qq.2.1 (cU { p with ow:=o } qq.2.2)))
 generalize upd H3 qq.1 (.ins T.part qq.2.1 (cU { p with ow:=o } qq.2.2))=H4 at *
 refine ⟨_,Z,qq.1,T.part,qq.2.1,_,Z,kA,X.cP,X.E6,by show 6<1000;decide,?_⟩
 have ndA:((st.aj.set i { p with ow:=o }).map (·.nm)).Nodup:=by rw [oj,rm (by rw [cg,e2];rfl)];exact wf.dw
 have hB:=hA.iT (i:=i) (p1:={ p with ow:=o,sc:=1 }) gA (pQ hi) e3 rfl rfl ndA
 have gB:Gh ρ (upd H4 qq.1 (.ins T.part qq.2.1 (cU { p with ow:=o,sc:=1 } qq.2.2))):=gA.wr rfl
 have FB:Fr n ρ H ρ (upd H4 qq.1 (.ins T.part qq.2.1 (cU { p with ow:=o,sc:=1 } qq.2.2))):=FA.trans (Fr.write k3)
 have kB:upd H4 qq.1 (.ins T.part qq.2.1 (cU { p with ow:=o,sc:=1 } qq.2.2)) qq.1=some (.ins T.part qq.2.1 (cU { p with ow:=o,sc:=1 } qq.2.2)):=ah
 have lB:upd H4 qq.1 (.ins T.part qq.2.1 (cU { p with ow:=o,sc:=1 } qq.2.2)) l=some (.lst (TT.map V.int)):=by rw [az (fun z=>by rw [z,k3] at cl;cases cl)];exact lA
 have nB:∀b,upd H4 qq.1 (.ins T.part qq.2.1 (cU { p with ow:=o,sc:=1 } qq.2.2)) b=none->H b=none:=fun b h=>nA b (jr h)
 have VQ:(st.aj.set i { p with ow:=o }).set i { p with ow:=o,sc:=1 }=st.aj.set i { p with ow:=o,sc:=1 }:=uN ..
 have hB:aN T n ρ A (upd H4 qq.1 (.ins T.part qq.2.1 (cU { p with ow:=o,sc:=1 } qq.2.2))) { st with aj:=st.aj.set i { p with ow:=o,sc:=1 } }:=by rw [<-VQ];exact hB
 generalize hH5:upd H4 qq.1 (HO.ins T.part qq.2.1 (aU _ _ _))=H5
 have afw:upd H4 qq.1 (.ins T.part qq.2.1 (cU { p with ow:=o,sc:=1 } qq.2.2))=H5:=hH5
 rw [afw] at hB gB FB kB lB nB
 clear hA gA FA kA nA lA
 have ol:=wf.jV
 refine ⟨_,Z,A.a,A.dx,_,Z,hB.oa,Z,_,Z,⟨⟨n,ρ,A,_,l,TT,Z,hB,aH.of lB,by show _=st.bq.length;rw [tl,wf.fW],by omega,fun r H6 g6 hr0 hr1=>?_⟩⟩⟩
 have cr:ρ r=none:=gB.none hr0
 have h6:=hB.mono g6
 have G6:=gB.same g6
 have F6:Fr n ρ H (cR ρ r (n,21,p.nm)) H6:=(FB.trans (Fr.of_same (ρ:=ρ) g6)).nu (nB _ hr0)
 have hC:aN T n (cR ρ r (n,21,p.nm)) A H6 _:=h6.same ⟨fun _ _ e=>e,fun b u x w _ hc he=>⟨he,by rw [cJ (fun z=>by rw [z,cr] at hc;cases hc)];exact hc⟩⟩
 have GC:Gh (cR ρ r (n,21,p.nm)) H6:=G6.color hr1 rfl
 have ndB:((st.aj.set i { p with ow:=o,sc:=1 }).map (·.nm)).Nodup:=by rw [oj,rm (by rw [cg,e2];rfl)];exact wf.dw
 have hD:=hC.Uq (p1:={ p with ow:=o,sc:=1,row:=kY st TT }) GC (pQ hi) e3 rfl dH hr1 ndB
 refine ⟨_,Z,qq.1,T.part,qq.2.1,_,Z,g6 _ _ kB,X.cP,X.IM,by show 6<1000;decide,?_⟩
 refine q _ { A with qs:=A.qs.set i (qq.1,qq.2.1,r) } _ ⟨GC.wr rfl,?_,wS⟩ rfl (F6.trans (Fr.write (t:=20) (x:=p.nm) (by rw [cJ (fun z=>by rw [<-z,k3] at cr;cases cr)];exact k3)))
 have eS2:(st.aj.set i { p with ow:=o,sc:=1 }).set i { p with ow:=o,sc:=1,row:=kY st TT }=st.aj.set i { p with ow:=o,sc:=1,row:=kY st TT }:=uN ..
 rw [<-eS2]
 exact hD
abbrev uz:Stmt:=inClass (top 21) 8
abbrev qN:List Str:=["self","part"]
abbrev LX:List Str:=qN.append ["leaving","gains"]
theorem uA:aO LX qN (aC uz):=dN
theorem Gu {T:TC} {e:Ec} (F:gJ K T.hold "land" "Hold.land" uz f fd) (X:Txt K T) (b8:Mx P w K mg base 1 T.hold "part_of" eG (k7 T e)) (cX:Mn P w K mg base 1 T.hold "place_of" eV (vZ T)) (fD:Mn P w K mg base 1 T.hold "tops_of" iH (z7 T)) (mV:Mn P w K mg base 4 T.hold "shares" ko (xJ T)) (iA:mg "zip"=none):Mx P w K mg base 5 T.hold "land" qN (NI T e):=by
 refine F.yg uA fun cdv A outer s H vs Q E hr h=>?_
 obtain ⟨⟨n,ρ,A,st,x,rfl,hh,ld,dq⟩⟩:=h
 refine ⟨_,(@cT.h _ _ _ (ak (aT (i:=2) uA.nd (lO b8 hr (qv 0) (af (qv 1) aq)))
  (ak (cy (jZ m9 m7 m8 dU (aI K (qv 0)) (af (gv (af (aI K (qv 2)) (af (aI K (qv 2)) (af (aI K (qv 2)) (af (bY mV hr (qv 0) (af (qv 1) aq)) aq))))) aq)))
  (ak (wc (i:=3) ["purse","top","leaving"] [none,none,some 2] uA.nd rfl rfl rfl (p8 K (by rfl) iA (af (aI K (qv 0)) (af (bY fD hr (qv 0) (af (qv 2) aq)) aq))) (fun _ _ _ _=>(iF K (n:=2) rfl (cA (aV (i:=0) (show List.Nodup (["purse","top","leaving"] :List Str) from by decide +kernel)) (cA (aV (i:=1) (show List.Nodup (["purse","top","leaving"] :List Str) from by decide +kernel)) iE)))) (fun _ _ _ _=>(aG cI (qv 0) (aG gk (aI K (qv 2)) (qv 1)))) rfl (by rfl) (by rfl))
  (ak (Nz (qv 3) (bY cX hr (qv 0) (af (aI K (qv 2)) aq)) JD (aG gk (aI K (qv 2)) (aI K (aI K (qv 0)))) X6 set_list)
  (ak (dD K (qv 0) (qv 3))
  (av (NB (aI K (qv 0)) (qv 1))))))))),?_⟩
 refine ⟨_,Z,A.a,A.dx,_,Z,hh.h.oa,Z,_,Z,⟨⟨n,ρ,A,st,x,Z,hh.h,hh.wf.dw,fun hn=>dq.no 3 ?_,fun i p qq e1 e2 e3=>?_⟩⟩⟩
 . unfold qI;rw [aA (fun z=>?_)]
   obtain ⟨j,p,h1,h2⟩:=j6 z
   exact hn p (bX h1) h2
 subst e1
 have wf:=hh.wf
 have dR:=bX e2
 have eR:qI st p.nm=none:=aB (z_ e2)
 have q:=dq.ok eR
 have wS:=NK wf eR ld
 rw [uc wf dR] at q wS
 obtain ⟨k1,k2,k3,k4⟩:=hh.h.opt i p qq e2 e3
 obtain ⟨Ro,hv0,hA0⟩:=hh.h.pP
 refine ⟨_,Z,A.a,T.hold,A.dx,_,_,Z,hh.h.oa,X.cH,X.has,Z, .inl ⟨Z,_,aH.of hv0⟩,_,Z,qq.1,T.part,qq.2.1,_,_,Z,k1,X.cP,X.Rq,Z,_,Z,qq.1,T.part,qq.2.1,_,_,Z,k1,X.cP,X.pow,Z,_,Z,qq.1,T.part,qq.2.1,_,_,Z,k1,X.cP,X.tW,Z,_,Z,A.a,A.dx,_,Z,hh.h.oa,Z,_,Z,⟨⟨n,ρ,A,st,i,p,Z,hh,e2,ld.kn,fun r ws H1 jL F1 hr0 hr1 cr1 sh1=>?_⟩⟩⟩
 have hi:i<st.aj.length:=(dS.mp e2).1
 refine ⟨(gD 4),fun t ht=>?_⟩
 have g2:=aD ht (.tup [.str p.nm, .str p.ow, .int p.wo, .ref r])
 have fr1:∀b,H1 b=none->H b=none:=fun b hb=>F1.acf jL.g hb
 have fr2:∀b,upd H1 t (.tup [.str p.nm, .str p.ow, .int p.wo, .ref r]) b=none->H b=none:=fun b hb=>fr1 b (jr hb)
 have kP:=jL.mono g2
 have F2:=F1.trans (Fr.of_same (ρ:=ρ) g2)
 have hr2:=g2 _ _ hr1
 have sh2:=sh1.mono g2.tups
 have N4:upd H1 t (.tup [.str p.nm, .str p.ow, .int p.wo, .ref r]) t=some (.tup [.str p.nm, .str p.ow, .int p.wo, .ref r]):=ah
 show rO _ (upd H1 t (.tup [.str p.nm, .str p.ow, .int p.wo, .ref r])) _
 generalize upd H1 t (.tup [.str p.nm, .str p.ow, .int p.wo, .ref r])=H2 at *
 clear g2 sh1 hr1 F1
 have cH:aN T n (cR ρ r (n,30,⟨#[]⟩)) A H2 { st with kn:=st.kn+100 }:=kP.h.same ⟨fun _ _ e=>e,fun b u x w _ hc he=>⟨he,by rw [cJ (fun z=>by rw [z,cr1] at hc;cases hc)];exact hc⟩⟩
 have cG:Gh (cR ρ r (n,30,⟨#[]⟩)) H2:=kP.g.color hr2 rfl
 have cF:Fr n ρ H (cR ρ r (n,30,⟨#[]⟩)) H2:=F2.nu hr0
 have cr2:cR ρ r (n,30,⟨#[]⟩) r=some (n,30,⟨#[]⟩):=dH
 generalize cR ρ r (n,30,⟨#[]⟩)=ρ2 at *
 clear kP F2
 obtain ⟨FU,hv2,hA2⟩:=cH.pP
 have hal:FU.length<1000:=by rw [show FU.length=st.dj.length from hA2.length];exact ld.dj
 refine ⟨A.as,FU,_,Z,Z,hv2,dh (by omega),?_⟩
 have h3:aN T n ρ2 A (upd H2 A.as (.lst (FU++[.ref t]))) { st with dj:=st.dj++[⟨p.nm,p.ow,p.wo,kg st p⟩],kn:=st.kn+100 }:=cH.Zi (x:=⟨p.nm,p.ow,p.wo,kg st p⟩) cG hv2 N4 hr2 cr2 sh2
 have G3:=cG.wr (a:=A.as) (o:= .lst (FU++[.ref t])) rfl
 have F3:=cF.trans (Fr.write (o:= .lst (FU++[.ref t])) cH.iO)
 have Vx:∀b,upd H2 A.as (.lst (FU++[.ref t])) b=none->H b=none:=fun b hb=>fr2 b (jr hb)
 have wf3:Wf { st with dj:=st.dj++[⟨p.nm,p.ow,p.wo,kg st p⟩],kn:=st.kn+100 }:={ wf with tX:=wS.tX,E7:=wS.E7 }
 generalize upd H2 A.as (.lst (FU++[.ref t]))=H3 at *
 clear cH cG cF hv2 hA2 N4 hr2 sh2
 obtain ⟨j1,j2,_,_⟩:=h3.opt i p qq e2 e3
 refine ⟨_,Z,A.a,T.hold,A.dx,_,_,Z,h3.oa,X.cH,X.As,Z,_,Z,A.a,A.dx,_,Z,h3.oa,Z,_,Z,⟨⟨n,ρ2,A,_,i,p,qq,Z,h3,wf3,e2,e3,fun l H4 g4 rL hl1=>?_⟩⟩⟩
 have hl1:H4 l=some (.lst ((aY st p).map V.int)):=hl1
 have tl:=CL wf dR
 have fY:=wf.jV
 have l9:=wf.l9
 have j4:=g4 _ _ j1
 have zw:=ld.wo p dR
 refine ⟨_,_,_,_,_,_,Z, .lst (aH.of (g4 _ _ h3.kM)), .lst (aH.of hl1),fun acc hacc=>?_⟩
 refine vX (K:=K) (n:=st.bD.length) [0,1] (fun i out H5=>aP H4 H5/\out=(List.zipWith (fun u t=>u+p.wo*t) (st.bD.take i) ((aY st p).take i)).map V.int) (by decide) (by omega) ⟨aD hacc _,Z⟩ (fun i out H5 hi _ hp=>⟨aH.of (hp.1 _ _ (g4 _ _ h3.kM)),aH.of (hp.1 _ _ hl1),by rw [aE];exact hi,by rw [aE,tl];omega⟩)
  (fun out H5 _ hp=>⟨aH.of (hp.1 _ _ (g4 _ _ h3.kM)),aH.of (hp.1 _ _ hl1), .inl (by rw [aE];exact aK _)⟩) ?_ ?_
 . rintro k x out H5 H6 hk afx ha ⟨g5,e5⟩ ⟨pp,x1,y1,hpp,rfl,rfl,e6,e7⟩
   obtain ⟨u,rfl,eu⟩:=fZ e6
   obtain ⟨c,rfl,ec⟩:=fZ e7
   have g6:=aD hpp (.tup [.int u, .int c])
   refine ⟨pp,_,Z,bN.of ah,Z,_,Z,_,Z,qq.1,T.part,qq.2.1,_,_,Z,(g5.trans g6) _ _ j4,X.cP,X.tW,Z,_,Z,_,_,Z,Z, .inl (by have:p.wo.natAbs<2 ^ 60:=zw;omega),_,_,Z,Z,g6 _ _ ha,(g5.trans g6).cN hacc _,?_⟩
   rw [rj _ eu ec,e5,bM]
   rfl
 rintro out H5 afx ha5 ⟨g5,e5⟩
 rw [cK,show st.bD.length=(aY st p).length by omega,cK] at e5
 have e5:out=(eU st p).map V.int:=e5
 subst e5
 have aaw:H3 acc=none:=g4.free hacc
 have g35:=g4.trans g5
 have h5:=h3.mono g35
 have G5:=G3.same g35
 have F5:=F3.trans (Fr.of_same (ρ:=ρ2) g35)
 have ca:ρ2 acc=none:=G3.none aaw
 have j5:=g5 _ _ j4
 have hown:=wf.ow p dR
 have gl:=y9 wf dR
 have hix:st.own.idxOf p.ow<(eU st p).length:=by rw [gl];exact ym hown
 refine ⟨_,Z,_,Z,A.a,A.dx,_,Z,h5.oa,Z,_,Z,qq.1,T.part,qq.2.1,_,_,Z,j5,X.cP,X.pow,Z,⟨⟨n,ρ2,A,_,p.ow,Z,h5,hown,?_⟩⟩⟩
 have at':qV ((eU st p).map V.int) ((st.own.idxOf p.ow:Nat):Int)=some (.int ((eU st p).getD (st.own.idxOf p.ow) 0)):=ay (by rw [cg,iK,bu hix];rfl)
 refine ⟨acc,_,_,_,Z,Z,aH.of ha5,at',_,Z,qq.1,T.part,qq.2.1,_,_,Z,j5,X.cP,X.tW,Z,_,Z,A.a,T.hold,A.dx,_,_,Z,h5.oa,X.cH,X.vY,Z,A.bt,T.bot,A.db,_,_,Z,h5.jv,X.cB,X.Nh,Z,_,_,Z,Z, .inl (by have:p.wo.natAbs<2 ^ 60:=zw;omega),_,_,Z,Z,acc,_,_,st.own.idxOf p.ow,Z,Z,ha5,by rw [aE];exact vV hix,?_⟩
 have m1:((eU st p).map V.int).set (st.own.idxOf p.ow) (.int ((eU st p).getD (st.own.idxOf p.ow) 0-p.wo*st.prod))=(nv st p).map V.int:=oj.symm
 have G6:=G5.wr (a:=acc) (o:= .lst ((nv st p).map V.int)) rfl
 have h6:=h5.same (Cw (o:= .lst ((nv st p).map V.int)) ca ha5 rfl)
 have n6:H acc=none:=Vx acc aaw
 have F6:=F5.new (o:= .lst ((nv st p).map V.int)) n6
 show tM _ _ _ _ (upd H5 acc (.lst (((eU st p).map V.int).set (st.own.idxOf p.ow) (.int ((eU st p).getD (st.own.idxOf p.ow) 0-p.wo*st.prod)))))
 rw [m1]
 have Kh:upd H5 acc (.lst ((nv st p).map V.int)) acc=some (.lst ((nv st p).map V.int)):=ah
 generalize upd H5 acc (.lst ((nv st p).map V.int))=H6 at *
 refine ⟨_,Z,_,Z,A.a,T.hold,A.dx,_,Z,h6.oa,X.cH,X.As,by show 7<1000;decide,?_⟩
 obtain ⟨h7,G7⟩:=yO (t:=7) h6 G6 ca Kh rfl
 have F7:Fr n ρ H (cR ρ2 acc (n,7,⟨#[]⟩)) H6:=F6.nu n6
 have h8:=h7.Rp G7 acc _ Kh dH
 have G8:=G7.wr (a:=A.a) (o:= .ins T.hold A.dx (jq { A with pu:=acc })) rfl
 have F8:=F7.trans (Fr.write (o:= .ins T.hold A.dx (jq { A with pu:=acc })) h7.ca)
 rw [show aU "purses" (V.ref acc) (jq A)=jq { A with pu:=acc } from rfl]
 generalize upd H6 A.a (.ins T.hold A.dx (jq { A with pu:=acc }))=H8 at *
 have hv8:=sY wf.dw e2 e3
 have dk:=AR wf.dw hh.h.ql e2
 refine ⟨_,Z,A.a,T.hold,A.dx,_,_,Z,h8.oa,X.cH,X.hab,Z,_,Z,A.ab,_,Sum.inr p.nm,Z,h8.dF,Z,?_,?_⟩
 . show (dG (cj st.aj A.qs) (Sum.inr p.nm)).isSome=true
   rw [hv8];rfl
 show Q .bU (upd H8 A.ab (.dK (lI (cj st.aj A.qs) (Sum.inr p.nm))))
 rw [dk]
 have hi2:i<A.qs.length:=by rw [hh.h.ql];exact hi
 have h9:=h8.IL G8 (st.aj.eraseIdx i) (A.qs.eraseIdx i) (by rw [Oa hi,Oa hi2,hh.h.ql]) (fun j x y ex ey=>by
  obtain ⟨k,a1,a2⟩:=yL ex ey
  exact h8.opt k x y a1 a2)
 rw [ua wf.dw e2] at q wS
 exact q _ { { A with pu:=acc } with qs:=A.qs.eraseIdx i } _ ⟨G8.wr rfl,h9,wS⟩ rfl (F8.trans (Fr.write h8.gc))
abbrev sj:Stmt:=inClass (top 21) 9
abbrev pe:List Str:=["self","part","name","amount","weight"]
abbrev Km:List Str:=pe.append ["source"]
theorem yk:aO Km pe (aC sj):=dN
theorem Ep {T:TC} {e:Ec} (F:gJ K T.hold "sever" "Hold.sever" sj f fd) (X:Txt K T) (b8:Mx P w K mg base 1 T.hold "part_of" eG (k7 T e)) (jz:Mx P w K mg base 3 T.hold "check_new" iV (vB T e)) (kr:Mn P w K mg base 1 T.hold "stow" mF (IU T)) (wu:Cn P w K mg base 1 "Part" T.part ["self","name","owner","worth","weight","scale","row"] (DV T K)) (jI:gK K e.yS) (kq:mg "BadNumber"=some (.ref e.yS)) (iz:gK K e.AW) (jl:mg "TooMuch"=some (.ref e.AW)):Mx P w K mg base 4 T.hold "sever" pe (Jx T e):=by
 refine F.yg yk fun cdv A outer s H vs Q E hr h=>?_
 obtain ⟨⟨n,ρ,A,st,x,y,a,we,rfl,Kn,hy0,hl1,hl2,dq⟩⟩:=h
 refine ⟨_,(@cT.h _ _ _ (ak (aT (i:=5) yk.nd (lO b8 hr (qv 0) (af (qv 1) aq)))
  (ak (cy (lO jz hr (qv 0) (af (qv 2) aq)))
  (ak (b9 (jF (bW.pt (CI (aR qC (qv 3) ai (aX _)) (yX (aR qC (qv 4) ai (aX _)))))) (av (j0 jI (by rfl) kq)) bw)
  (ak (b9 (jF (bW.pt (CI (aR HB (qv 3) (aI K (qv 5)) (aX _)) (yX (aR jT (qv 4) (aI K (qv 5)) (aX _)))))) (av (j0 iz (by rfl) jl)) bw)
  (ak (oS K (qv 5) (qv 3) Ie)
  (ak (oS K (qv 5) (qv 4) Ie)
  (av (cy (bY kr hr (qv 0) (af (Vz wu hr (af (qv 2) (af (aI K (qv 5)) (af (qv 3) (af (qv 4) (af (aI K (qv 5)) (af (aI K (qv 5)) aq))))))) aq))))))))))),?_⟩
 refine ⟨_,Z,A.a,A.dx,_,Z,Kn.h.oa,Z,_,Z,⟨⟨n,ρ,A,st,x,Z,Kn.h,Kn.wf.dw,fun hn=>dq.no 3 ?_,fun i p qq e1 e2 e3=>?_⟩⟩⟩
 . unfold ig;rw [aA (fun z=>?_)]
   obtain ⟨j,p,h1,h2⟩:=j6 z
   exact hn p (bX h1) h2
 have dR:=bX e2
 have eg:bK st x=p:=dM Kn.wf dR e1
 subst e1
 have hm:=z_ e2
 have eR:ig st p.nm y a we=match newR st y with
  | some i=>some i
  | none=>if a<1\/we<0 then some 5 else if p.wo<=a\/p.we<we then some 6 else none:=by unfold ig;rw [aB hm,eg];first|done|(cases newR st y <;> rfl)
 refine ⟨_,Z,A.a,A.dx,_,Z,Kn.h.oa,Z,_,Z,⟨⟨n,ρ,A,st,y,Z,Kn.h,hy0,fun i hi=>dq.no i (by rw [eR,hi]),fun hnew H1 g1=>?_⟩⟩⟩
 rw [hnew] at eR
 have eR:ig st p.nm y a we=if a<1\/we<0 then some 5 else if p.wo<=a\/p.we<we then some 6 else none:=eR
 have hh:=Kn.mono g1
 obtain ⟨k1,k2,k3,k4⟩:=hh.h.opt i p qq e2 e3
 by_cases hb:a<1\/we<0
 . have rq:=dq.no 5 (by rw [eR,aB hb])
   refine ⟨true,⟨_,Z,_,_,Z,Z,_,Z,aM (fun c=>⟨Z,Z⟩) fun c=>⟨_,Z,_,_,Z,Z,_,Z,a_ (hb.resolve_left fun z=>c (a_ z)),Z⟩⟩,jU fun y=>rq y H1 g1⟩
 rw [aA hb] at eR
 refine ⟨false,⟨_,Z,_,_,Z,Z,_,Z,aM (fun c=>absurd (aZ c) (by omega)) fun _=>⟨_,Z,_,_,Z,Z,_,Z,cV (by omega),Z⟩⟩,gr ?_⟩
 by_cases hb2:p.wo<=a\/p.we<we
 . have rq:=dq.no 6 (by rw [eR,aB hb2])
   refine ⟨true,⟨_,Z,_,Z,qq.1,T.part,qq.2.1,_,_,Z,k1,X.cP,X.tW,Z,_,_,Z,Z,_,Z,aM (fun c=>⟨Z,Z⟩) fun c=>⟨_,Z,_,Z,qq.1,T.part,qq.2.1,_,_,Z,k1,X.cP,X.Rr,Z,_,_,Z,Z,_,Z,a_ (hb2.resolve_left fun z=>c (a_ z)),Z⟩⟩,jU fun y=>rq y H1 g1⟩
 rw [aA hb2] at eR
 have q:=dq.ok eR
 refine ⟨false,⟨_,Z,_,Z,qq.1,T.part,qq.2.1,_,_,Z,k1,X.cP,X.tW,Z,_,_,Z,Z,_,Z,aM (fun c=>absurd (aZ c) (by show ¬ p.wo<=a;omega)) fun _=>⟨_,Z,_,Z,qq.1,T.part,qq.2.1,_,_,Z,k1,X.cP,X.Rr,Z,_,_,Z,Z,_,Z,cV (by show ¬ p.we<we;omega),Z⟩⟩,gr ?_⟩
 refine ⟨_,Z,qq.1,T.part,qq.2.1,_,_,Z,k1,X.cP,X.tW,Z,_,Z,_,_,Z,Z,qq.2.1,_,k1,by show 6<1000;decide,?_⟩
 have wA:Wf (lV st p.nm fun p=>{ p with wo:=p.wo-a }):=yZ hh.wf fun p' gM e=>by
  rw [sZ hh.wf gM dR e];exact ⟨Z,Z,Z,Z,by show 1<=p.wo-a;omega,(hh.wf.jO p dR).2⟩
 have wB:Wf (lV st p.nm fun p=>{ p with wo:=p.wo-a,we:=p.we-we }):=yZ hh.wf fun p' gM e=>by
  rw [sZ hh.wf gM dR e];exact ⟨Z,Z,Z,Z,by show 1<=p.wo-a;omega,by show 0<=p.we-we;omega⟩
 have wS:=Jy hh.wf eR hl1 hl2
 have esA:lV st p.nm (fun p=>{ p with wo:=p.wo-a })={ st with aj:=st.aj.set i { p with wo:=p.wo-a } }:=qc hh.wf.dw e2 _
 have esB:lV st p.nm (fun p=>{ p with wo:=p.wo-a,we:=p.we-we })={ st with aj:=st.aj.set i { p with wo:=p.wo-a,we:=p.we-we } }:=qc hh.wf.dw e2 _
 have hi:i<st.aj.length:=(dS.mp e2).1
 have hA:=hh.h.iT (p1:={ p with wo:=p.wo-a }) hh.g e2 e3 rfl rfl hh.wf.dw
 have gA:Gh ρ (upd H1 qq.1 (.ins T.part qq.2.1 (cU { p with wo:=p.wo-a } qq.2.2))):=hh.g.wr rfl
 have FA:Fr n ρ H ρ (upd H1 qq.1 (.ins T.part qq.2.1 (cU { p with wo:=p.wo-a } qq.2.2))):=(Fr.of_same g1).trans (Fr.write k3)
 have kA:upd H1 qq.1 (.ins T.part qq.2.1 (cU { p with wo:=p.wo-a } qq.2.2)) qq.1=some (.ins T.part qq.2.1 (cU { p with wo:=p.wo-a } qq.2.2)):=ah
 have nA:∀b,upd H1 qq.1 (.ins T.part qq.2.1 (cU { p with wo:=p.wo-a } qq.2.2)) b=none->H b=none:=fun b h=>g1.free (jr h)
 show tM _ _ _ _ (upd H1 qq.1 (.ins T.part qq.2.1 (cU { p with wo:=p.wo-a } qq.2.2)))
 generalize upd H1 qq.1 (.ins T.part qq.2.1 (cU { p with wo:=p.wo-a } qq.2.2))=H2 at *
 refine ⟨_,Z,qq.1,T.part,qq.2.1,_,_,Z,kA,X.cP,X.Rr,Z,_,Z,_,_,Z,Z,qq.2.1,_,kA,by show 6<1000;decide,?_⟩
 have hB:=hA.iT (i:=i) (p1:={ p with wo:=p.wo-a,we:=p.we-we }) gA (pQ hi) e3 rfl rfl (by have:=wA.dw;rw [esA] at this;exact this)
 have VQ:(st.aj.set i { p with wo:=p.wo-a }).set i { p with wo:=p.wo-a,we:=p.we-we }=st.aj.set i { p with wo:=p.wo-a,we:=p.we-we }:=uN ..
 have gB:Gh ρ (upd H2 qq.1 (.ins T.part qq.2.1 (cU { p with wo:=p.wo-a,we:=p.we-we } qq.2.2))):=gA.wr rfl
 have FB:Fr n ρ H ρ (upd H2 qq.1 (.ins T.part qq.2.1 (cU { p with wo:=p.wo-a,we:=p.we-we } qq.2.2))):=FA.trans (Fr.write k3)
 have kB:upd H2 qq.1 (.ins T.part qq.2.1 (cU { p with wo:=p.wo-a,we:=p.we-we } qq.2.2)) qq.1=some (.ins T.part qq.2.1 (cU { p with wo:=p.wo-a,we:=p.we-we } qq.2.2)):=ah
 generalize hH3:upd H2 qq.1 (HO.ins T.part qq.2.1 (aU _ _ _))=H3
 have UN:upd H2 qq.1 (.ins T.part qq.2.1 (cU { p with wo:=p.wo-a,we:=p.we-we } qq.2.2))=H3:=hH3
 have nB:∀b,H3 b=none->H b=none:=fun b h=>nA b (jr (by rw [UN];exact h))
 rw [UN] at hB gB FB kB
 have mH:HH T n ρ A H3 (lV st p.nm fun p=>{ p with wo:=p.wo-a,we:=p.we-we }):=⟨gB,by rw [esB,<-VQ];exact hB,wB⟩
 obtain ⟨_,r3,_,_⟩:=hB.opt i { p with wo:=p.wo-a,we:=p.we-we } qq (by show ((st.aj.set i _).set i _)[i]?=_;rw [VQ];exact pQ hi) e3
 clear hA hB gA FA kA hH3 UN
 refine ⟨_,Z,A.a,A.dx,_,Z,mH.h.oa,Z,_,Z,_,Z,qq.1,T.part,qq.2.1,_,_,Z,kB,X.cP,X.pow,Z,_,Z,_,Z,_,Z,qq.1,T.part,qq.2.1,_,_,Z,kB,X.cP,X.E6,Z,_,Z,qq.1,T.part,qq.2.1,_,_,Z,kB,X.cP,X.IM,Z,?_⟩
 intro v dv hv hdv hvd
 have hr6:upd (upd H3 dv (.own v)) v (.ins T.part dv []) qq.2.2=some (.lst (p.row.map V.int)):=by rw [az (aF r3 hv),az (aF r3 hdv)];exact r3
 refine ⟨⟨v,dv,qq.2.2,⟨y,p.ow,a,we,p.sc,p.row⟩,Z,ah,aH.of hr6,fun rr H6 hrr k6 hy6 UK=>⟨Z,?_⟩⟩⟩
 have J7:H3 rr=none:=jr (jr hrr)
 have g6:aP H3 H6:=fun b u e=>k6 b u (by rw [az (aF e hv),az (aF e hdv)];exact e) (aF e hv)
 have J8:=mH.mono g6
 have F6:=FB.trans (Fr.of_same (ρ:=ρ) g6)
 unfold kh at wS q
 rw [eg] at wS q
 exact ⟨⟨n,ρ,A,_,(v,dv,rr),_,Z,J8,hy6,UK,mH.g.none hv,mH.g.none J7,(j7 eR).2.1.2,wS,fun ρ' A' H' a1 a2 a3=>q ρ' A' H' a1 a2 (a3.fr F6 (nB _ hv) (nB _ J7))⟩⟩
abbrev mq:Stmt:=inClass (top 21) 26
abbrev j8:List Str:=["self","place"]
abbrev Bm:List Str:=j8.append ["own"]
theorem sO:aO Bm j8 (aC mq):=dN
theorem Ag {T:TC} (F:gJ K T.hold "stake_top" "Hold.stake_top" mq f fd) (X:Txt K T) (gy:Mn P w K mg base 1 T.hold "whole" jJ (z8 T)) (iZ:mg "sum"=none):Mn P w K mg base 2 T.hold "stake_top" j8 (CS T):=by
 refine F.oA sO fun cdv A outer s H vs Q E hr h=>?_
 obtain ⟨⟨n,ρ,A,st,k,rfl,h,ok,hk,q⟩⟩:=h
 refine ⟨_,(@cT.h _ _ _ (ak (aT (i:=2) sO.nd (bF (uS K rfl) (by rfl) iZ DE (af (CH (gP ["part","place"] [none,some 1] rfl (v9 (aI K (qv 0))) (fun _ _ _ _=>(aV (i:=0) (show List.Nodup (["part","place"] :List Str) from by decide +kernel))) (fun _ _ _ _=>(aG fK (aG gk (aI K (qv 0)) (aI K (qv 0))) (aJ (cZ K) (aI K (qv 0)) (qv 1)))) rfl (by rfl))) aq)))
  (av (bh (aG cI (qv 2) (aG gk (p_ gy hr (qv 0)) (aJ (cZ K) (aI K (qv 0)) (qv 1)))))))),?_⟩
 have wf:=ok.wf
 have hl:=wf.l_
 refine ⟨A.ab,_,h.dF,fun o=>?_⟩
 refine ⟨_,Z,A.a,T.hold,A.dx,_,_,Z,dX h.dF h.oa (fun k z=>by cases z),X.cH,X.hab,Z,A.ab,o,_,Z,ah,fun acc hacc=>?_⟩
 have el:=sX h.ql
 refine jD (n:=st.aj.length) 0 (fun i out H1=>aP (upd H A.ab (.eX o (.dK (cj st.aj A.qs)))) H1/\out=((st.aj.take i).map fun p:Pt=>p.wo*p.sc*p.row.getD k 0).map V.int) (by omega) ⟨aD hacc _,Z⟩ (fun i out H1 hi _ hp=>⟨hp.1 _ _ ah,by rw [el];exact hi⟩) (fun out H1 _ hp=>⟨hp.1 _ _ ah,by rw [el];exact aK _⟩) ?_ ?_
 . rintro i x out H1 H2 hi fY ha ⟨g,e⟩ ⟨rfl,kv,hkv,rfl⟩
   have ep:=bu hi
   have dR:=yq hi
   obtain ⟨qq,eq,h1,h2,_⟩:=h.find ep
   rw [sW ep eq] at hkv
   cases hkv
   generalize st.aj[i]=p at *
   have hq:=g _ _ (dX h.dF h1 (fun k z=>by cases z))
   have hrw:=g _ _ (dX h.dF h2 (fun k z=>by cases z))
   have hkr:k<p.row.length:=by rw [wf.rows p dR];exact hk
   have s1:Jm.Sz 8000 p.sc:=Jm.Sz.kX (by have:=wf.oK p dR;have:=wf.eY;omega) (wf.oK p dR).2 wf.big
   have hr0:=wf.mh p dR _ (FJ hkr)
   have s2:Jm.Sz 8000 (p.row.getD k 0):=Jm.Sz.kX hr0.1 hr0.2 wf.big
   have s3:=(ok.wo p dR).mul s1
   have cm:Ib p.wo p.sc:= .inl (by have:p.wo.natAbs<2 ^ 60:=ok.wo p dR;omega)
   refine ⟨_,Z,qq.1,T.part,qq.2.1,_,_,Z,hq,X.cP,X.tW,Z,_,Z,qq.1,T.part,qq.2.1,_,_,Z,hq,X.cP,X.E6,Z,_,_,Z,Z,cm,_,Z,qq.1,T.part,qq.2.1,_,_,Z,hq,X.cP,X.IM,Z,_,Z,qq.2.2,_,_,_,Z,Z,aH.of hrw,getD_at hkr,_,_,Z,Z,fu s3 s2,ha,g.cN hacc _,?_⟩
   rw [take_snoc ep,e,bM,bM]
   rfl
 rintro out H1 fY ha ⟨g,e⟩
 rw [cK] at e
 have hz:=g _ _ (ah (H:=H) (a:=A.ab) (o:= .eX o (.dK (cj st.aj A.qs))))
 have na:acc≠A.ab:=fun e=>by rw [e,hz] at ha;cases ha
 refine ⟨hz,acc,st.aj.map (fun p:Pt=>p.wo*p.sc*p.row.getD k 0),Z,aH.of (by rw [az na,ha,e]),?_⟩
 have g2:=pY h.dF g
 generalize upd H1 A.ab (.dK (cj st.aj A.qs))=H2 at *
 have h2:=h.mono g2
 have hkc:k<st.bq.length:=by rw [wf.fW];exact hk
 refine ⟨_,Z,_,Z,A.a,A.dx,_,Z,h2.oa,Z,⟨⟨n,ρ,A,st,Z,h2,hl,fun H3 g3=>?_⟩⟩⟩
 have h3:=h2.mono g3
 exact ⟨_,Z,A.a,T.hold,A.dx,_,_,Z,h3.oa,X.cH,X.yH,Z,_,Z,A.cm,_,_,_,Z,Z,aH.of h3.i6,getD_at hkc,_,_,Z,Z, .inl (by have:(aS st).natAbs<2 ^ 60:=ok.wh;omega),_,_,Z,Z,q H3 (g2.trans g3)⟩
abbrev sr:Stmt:=inClass (top 21) 14
abbrev pA:List Str:=["self","owner"]
abbrev Ko:List Str:=pA
theorem Gv:aO Ko pA (aC sr):=dN
theorem Gw {T:TC} (F:gJ K T.hold "stake" "Hold.stake" sr f fd) (X:Txt K T) (fU:Mn P w K mg base 2 T.bot "over" jb (z9 T)) (nH:Mn P w K mg base 2 T.hold "stake_top" j8 (CS T)) (cX:Mn P w K mg base 1 T.hold "place_of" eV (vZ T)):Mn P w K mg base 3 T.hold "stake" pA (JN T):=by
 refine F.oA Gv fun cdv A outer s H vs Q E hr h=>?_
 obtain ⟨⟨n,ρ,A,st,o,rfl,h,ok,ho,q⟩⟩:=h
 refine ⟨_,(@cT.h _ _ _ (av (bh (bY fU hr (aI K (qv 0)) (af (bY nH hr (qv 0) (af (bY cX hr (qv 0) (af (qv 1) aq)) aq)) aq))))),?_⟩
 have wf:=ok.wf
 refine ⟨_,Z,A.a,T.hold,A.dx,_,_,Z,h.oa,X.cH,X.vY,Z,A.bt,A.db,_,Z,h.jv,Z,_,Z,A.a,A.dx,_,Z,h.oa,Z,_,Z,A.a,A.dx,_,Z,h.oa,Z,_,Z,⟨⟨n,ρ,A,st,o,Z,h,ho,?_⟩⟩⟩
 refine ⟨⟨n,ρ,A,st,st.own.idxOf o,Z,h,ok,ym ho,fun H1 g1=>?_⟩⟩
 have h1:=h.mono g1
 exact ⟨⟨A.bt,A.db,A.sp,A.kn,st.stp,st.prod,_,Z,h1.jv,h1.nQ,wf.mO,wf.rV,wf.big,fun r H2 g2 hr2=>q r H2 (g1.trans g2) hr2⟩⟩
abbrev su:Stmt:=inClass (top 21) 15
abbrev pB:List Str:=["self","owner"]
abbrev Kq:List Str:=pB
theorem Gx:aO Kq pB (aC su):=dN
theorem Gy {T:TC} (F:gJ K T.hold "purse" "Hold.purse" su f fd) (X:Txt K T) (fU:Mn P w K mg base 2 T.bot "over" jb (z9 T)) (cX:Mn P w K mg base 1 T.hold "place_of" eV (vZ T)):Mn P w K mg base 3 T.hold "purse" pB (NS T):=by
 refine F.oA Gx fun cdv A outer s H vs Q E hr h=>?_
 obtain ⟨⟨n,ρ,A,st,o,rfl,h,wf,ho,q⟩⟩:=h
 refine ⟨_,(@cT.h _ _ _ (av (bh (bY fU hr (aI K (qv 0)) (af (aJ (cZ K) (aI K (qv 0)) (bY cX hr (qv 0) (af (qv 1) aq))) aq))))),?_⟩
 have hk:st.own.idxOf o<st.bD.length:=by rw [wf.l9];exact ym ho
 refine ⟨_,Z,A.a,T.hold,A.dx,_,_,Z,h.oa,X.cH,X.vY,Z,A.bt,A.db,_,Z,h.jv,Z,_,Z,A.a,T.hold,A.dx,_,_,Z,h.oa,X.cH,X.As,Z,_,Z,A.a,A.dx,_,Z,h.oa,Z,_,Z,⟨⟨n,ρ,A,st,o,Z,h,ho,?_⟩⟩⟩
 refine ⟨A.pu,_,_,_,Z,Z,aH.of h.kM,getD_at hk,?_⟩
 exact ⟨⟨A.bt,A.db,A.sp,A.kn,st.stp,st.prod,_,Z,h.jv,h.nQ,wf.mO,wf.rV,wf.big,fun r H2 g2 hr2=>q r H2 g2 hr2⟩⟩
abbrev uB:Stmt:=top 26
abbrev gT:List Str:=["_law_script","_law_k","_law_j","_law_many"]
abbrev LY:List Str:=gT.append ["_law_cell","_law_turn","_law_rest","_law_step","_law_one","_law_two"]
theorem fk:aO LY gT (aC uB):=dN
theorem Kr (F:At K mg "_law_draw" uB f fd) (b_:mg "len"=none) (c9:mg "range"=none):Dn P w K mg base 1 "_law_draw" gT (qW K):=by
 refine F.oA fk fun cdv A outer s H vs Q E hr h=>?_
 obtain ⟨⟨a,ns,k,j,many,rfl,hS,h63,hk,hj,hj2,hm,q⟩⟩:=h
 refine ⟨_,(@cT.h _ _ _ (ak (aT (i:=4) fk.nd ai)
  (ak (aT (i:=5) fk.nd ai)
  (ak (jG (aR jT (bF (di K) (by rfl) b_ gb (af (qv 0) aq)) ai (aX _)) (ak (aT (i:=4) fk.nd (aJ (cZ K) (qv 0) (aG j_ (qv 1) (bF (di K) (by rfl) b_ gb (af (qv 0) aq)))))
  (av (aT (i:=5) fk.nd (aG iN (qv 1) (bF (di K) (by rfl) b_ gb (af (qv 0) aq)))))) bw)
  (ak (aT (i:=6) fk.nd (qv 4))
  (ak (fE f_ rfl (nU (by rfl) c9 (af (qv 2) aq)) (aV (i:=7) fk.nd) (av (aT (i:=6) fk.nd (aG iN (qv 6) (aG mz ai ai)))))
  (ak (b9 (jF (bW.pt (rE (aR dP (qv 5) ai (aX _)) (rE (aR HB (qv 4) (aG mz ai ai) (aX _)) (s_ (aR jT (qv 6) ai (aX _))))))) (av (bh (aG j_ (aG j_ (qv 6) (aG mz ai ai)) (qv 3)))) bw)
  (ak (aT (i:=8) fk.nd (aG j_ (aG cI (aG cI (aG cI (aG gk (qv 4) ai) (aG gk (qv 1) ai)) (aG gk (qv 2) ai)) ai) ai))
  (ak (aT (i:=9) fk.nd (aG j_ (aG cI (aG gk (qv 8) ai) (aG iN (qv 4) ai)) ai))
  (ak (aT (i:=9) fk.nd (aG j_ (aG cI (aG gk (qv 9) (aG cI (aG j_ (qv 8) ai) ai)) (qv 2)) ai))
  (av (bh (aG j_ (aG j_ (aG cI (aG cI (aG gk (qv 8) ai) (aG gk (qv 9) ai)) (aG iN (qv 9) ai)) ai) (qv 3)))))))))))))),?_⟩
 have hl:(ns.map V.int).length=ns.length:=aE _
 refine ⟨fun σ H'=>H'=H/\σ=[some (.ref a),some (.int k),some (.int j),some (.int many),some (.int (Jm.cellOf ns k)),some (.int (Jm.yy ns k)),none,none,none,none],?_,?_⟩
 . refine ⟨_,Z,a,_,Z, .inl hS,_,_,Z,Z,_,Z,?_⟩
   refine aM (fun c=>?_) (fun c=>?_)
   . have c':0<(((ns.map V.int).length:Nat):Int):=aZ c
     rw [hl] at c'
     have i0:0<=k % (ns.length:Int):=n_ _ (by omega)
     have i1:k % (ns.length:Int)<(ns.length:Int):=yp _ c'
     refine ⟨_,Z,_,Z,_,Z,a,_,Z, .inl hS,_,_,Z,Z,(by show (0:Int)<_;rw [hl];exact c'),a,_,_, .int (ns.getD (k % ns.length).toNat 0),Z,Z,hS,?_,?_⟩
     . rw [hl]
       exact Wx i0 i1
     refine ⟨_,Z,_,Z,a,_,Z, .inl hS,_,_,Z,Z,TH (n:=10) (by rw [hl];exact c') (by rw [hl];omega) (by decide),Z,?_⟩
     unfold Jm.cellOf Jm.yy
     rw [aB c',aB c',hl]
     rfl
   . have c':¬ 0<(((ns.map V.int).length:Nat):Int):=tG (pT.mpr c)
     rw [hl] at c'
     refine ⟨Z,?_⟩
     unfold Jm.cellOf Jm.yy
     rw [aA c',aA c']
     rfl
 rintro σ H' ⟨rfl,rfl⟩
 generalize ec:Jm.cellOf ns k=cell at *
 generalize et:Jm.yy ns k=turn at *
 refine ⟨_,Z,_,Z,j,Z,by omega,hj2,?_⟩
 refine nL (lo:=0) (n:=j.toNat) (fun i σ CA=>CA=H'/\∃st:Option V,σ=[some (.ref a),some (.int k),some (.int j),some (.int many),some (.int cell),some (.int turn),some (.int (Jm.B8 cell i)),st,none,none]) ⟨Z,none,Z⟩ ?_ ?_
 . rintro i σ CA hi ⟨rfl,st,rfl⟩
   refine ⟨_,Z,_,_,Z,Z,⟨by decide,by decide,by decide⟩,_,_,Z,Z,yx (by decide +kernel),Z,?_⟩
   exact ⟨_,Z⟩
 rintro σ CA ⟨rfl,st,rfl⟩
 have full:Q (.int (Jm.draw ns k j many)) CA:=q
 unfold Jm.draw at full
 rw [ec,et] at full
 generalize er:Jm.B8 cell j.toNat=rest at *
 refine ⟨decide (turn=0/\1000000000000000000<=cell/\0<rest),?_,?_⟩
 . refine ⟨_,Z,Z,_,Z,?_⟩
   by_cases h1:turn=0
   . rw [a_ (by rw [h1] :V.int turn=V.int 0)]
     refine jU ⟨_,Z,_,_,Z,Z,⟨by decide,by decide,by decide⟩,_,_,Z,Z,_,Z,?_⟩
     by_cases h2:1000000000000000000<=cell
     . rw [a_ (show (10:Int) ^ (18:Int).toNat<=cell from h2)]
       refine jU ⟨_,Z,_,_,Z,Z,_,Z,?_,Z⟩
       by_cases h3:0<rest
       . rw [a_ h3,a_ ⟨h1,h2,h3⟩]
       . rw [cV h3,cV fun z=>h3 z.2.2]
     . rw [cV (show ¬ (10:Int) ^ (18:Int).toNat<=cell from h2)]
       exact gr ⟨(cV fun z=>h2 z.2.1).symm,Z⟩
   . rw [cV (fun z=>h1 (V.int.inj z))]
     exact gr ⟨(cV fun z=>h1 z.1).symm,Z⟩
 by_cases h:turn=0/\1000000000000000000<=cell/\0<rest
 . rw [a_ h]
   rw [aB h] at full
   refine jU ⟨_,Z,_,_,Z,Z,⟨by decide,by decide,by decide⟩,_,_,Z,Z,(by show (0:Int)<_;decide),_,Z,_,_,Z,Z,hm,?_⟩
   exact full
 . rw [cV h]
   rw [aA h] at full
   refine gr ?_
   refine ⟨_,Z,_,_,Z,Z, .inr ⟨by decide,by decide⟩,_,Z,_,_,Z,Z, .inr ⟨by decide,by decide⟩,_,_,Z,Z,_,Z,_,_,Z,Z, .inr ⟨by decide,by decide⟩,_,_,Z,Z,_,_,Z,Z,_,_,Z,Z,(by show (0:Int)<_;decide),?_⟩
   refine ⟨_,Z,_,_,Z,Z, .inr ⟨by decide,by decide⟩,_,Z,_,_,Z,Z,yx (by decide +kernel),_,_,Z,Z,_,_,Z,Z,(by show (0:Int)<_;decide),?_⟩
   unfold Jm.mixed at full
   dsimp only at full ⊢
   generalize e1:(cell*7919+k*104729+j*1299709+31) % 1000000007=one at *
   generalize e2:(one*48271+cell / 1009) % 998244353=two at *
   have b1:0<=one % 9973:=n_ _ (by decide)
   have b2:one % 9973<9973:=yp _ (by decide)
   refine ⟨_,Z,_,Z,_,_,Z,Z,(by show (0:Int)<_;decide),_,_,Z,Z,_,_,Z,Z, .inr ⟨by omega,by omega⟩,_,Z,_,_,Z,Z,_,_,Z,Z,(by show (0:Int)<_;decide),?_⟩
   refine ⟨_,Z,_,_,Z,Z, .inr ⟨by decide,by decide⟩,_,Z,_,_,Z,Z, .inr ⟨by decide,by decide⟩,_,_,Z,Z,_,Z,_,_,Z,Z,yx (by decide +kernel),_,_,Z,Z,_,_,Z,Z,(by show (0:Int)<_;decide),_,Z,_,_,Z,Z,hm,?_⟩
   exact full
abbrev uC:Stmt:=top 27
abbrev qO:List Str:=["_law_code","_law_size"]
abbrev LZ:List Str:=qO.append ["_law_word","_law_at_here"]
theorem lF:aO LZ qO (aC uC):=dN
theorem Ks (F:At K mg "_law_name" uC f fd) (c9:mg "range"=none):Dn P w K mg base 1 "_law_name" qO DR:=by
 refine F.oA lF fun cdv A outer s H vs Q E hr h=>?_
 obtain ⟨⟨c,n,rfl,hc,hn,q⟩⟩:=h
 refine ⟨_,(@cT.h _ _ _ (ak (aT (i:=2) lF.nd bB)
  (ak (fE f_ rfl (nU (by rfl) c9 (af (qv 1) aq)) (aV (i:=3) lF.nd) (ak (aT (i:=2) lF.nd (aG OL (qv 2) (aJ QJ bB (aG j_ (qv 0) ai))))
  (av (aT (i:=0) lF.nd (aG iN (qv 0) ai)))))
  (av (bh (qv 2)))))),?_⟩
 refine ⟨_,Z,_,Z,by omega,by omega,?_⟩
 refine nL (lo:=0) (n:=(n:Int).toNat) (fun i σ H'=>H'=H/\∃(s1:Option V),σ=[some (.int (c / 26 ^ i)),some (.int n),some (.str (tx (kJ c i))),s1]) ⟨Z,none,by rw [Int.pow_zero,zO];rfl⟩ ?_ ?_
 . rintro i σ H' hi ⟨rfl,s1,rfl⟩
   have hp:(0:Int)<26 ^ i:=Int.pow_pos (by decide)
   have hd0:0<=c / 26 ^ i:=Hu hc (BK hp)
   have hm0:0<=c / 26 ^ i % 26:=n_ _ (by decide)
   have hm1:c / 26 ^ i % 26<26:=yp _ (by decide)
   refine ⟨_,Z,_,Z,_,_,Z,Z,(by show (0:Int)<26;decide),_,_,_,Z,Z,(by decide +kernel),Q9 hm0 hm1,?_⟩
   refine ⟨_,_,Z,Z,?_,?_⟩
   . rw [yz,w6]
     show i+1<=sizeLine
     exact BG (dh (by omega))
   refine ⟨_,Z,_,_,Z,Z,wX (by decide) (jC (by decide +kernel)),Z,some (.int ((0:Int)+(i:Int))),?_⟩
   have e1:c / 26 ^ i / 26=c / 26 ^ (i+1):=by rw [Int.ediv_ediv_of_nonneg (BK hp),Int.pow_succ]
   have e2:(tx (kJ c i)++tx [97+(c / 26 ^ i % 26).toNat] :Str)=tx (kJ c (i+1)):=by rw [Y6,TV]
   rw [<-e1,<-e2]
   rfl
 rintro σ H' ⟨rfl,s1,rfl⟩
 refine ⟨_,Z,?_⟩
 rw [rM]
 exact q
abbrev sy:Stmt:=top 28
abbrev pC:List Str:=["_law_script","_law_k","_law_many"]
abbrev Ku:List Str:=pC.append ["_law_alike","_law_size","_law_first","_law_shift","_law_at_here","_law_names_here","_law_code"]
theorem c_:aO Ku pC (aC sy):=dN
theorem Gz (F:At K mg "_law_names" sy f fd) (aW:Dn P w K mg base 1 "_law_draw" gT (qW K)) (qP:Dn P w K mg base 1 "_law_name" qO DR) (c9:mg "range"=none):Dn P w K mg base 2 "_law_names" pC (DS K):=by
 refine F.oA c_ fun cdv A outer s H vs Q E hr h=>?_
 obtain ⟨⟨a,ms,k,many,rfl,hS,h63,hk,hm,q⟩⟩:=h
 refine ⟨_,(@cT.h _ _ _ (ak (aT (i:=3) c_.nd (D4 dP (bR aW hr (af (qv 0) (af (qv 1) (af ai (af ai aq))))) ai (aX _)))
  (ak (aT (i:=4) c_.nd (aG cI ai (bR aW hr (af (qv 0) (af (qv 1) (af ai (af ai aq)))))))
  (ak (aT (i:=5) c_.nd (bR aW hr (af (qv 0) (af (qv 1) (af ai (af (aG mz ai ai) aq))))))
  (ak (aT (i:=6) c_.nd ai)
  (ak (jG (v8 (qv 3)) (av (fE f_ rfl (nU (by rfl) c9 (af (bR aW hr (af (qv 0) (af (qv 1) (af ai (af (qv 4) aq))))) aq)) (aV (i:=7) c_.nd) (av (aT (i:=6) c_.nd (aG gk (qv 6) ai))))) bw)
  (ak (aT (i:=8) c_.nd (ir aq))
  (ak (fE f_ rfl (nU (by rfl) c9 (af (qv 2) aq)) (aV (i:=7) c_.nd) (ak (aT (i:=9) c_.nd (aG cI (qv 5) (aG gk (qv 6) (bR aW hr (af (qv 0) (af (qv 1) (af (aG cI ai (aG gk ai (qv 7))) (af ai aq))))))))
  (ak (jG (Ju (v8 (qv 3))) (ak (aT (i:=4) c_.nd (aG cI ai (bR aW hr (af (qv 0) (af (qv 1) (af (aG cI ai (aG gk ai (qv 7))) (af ai aq)))))))
  (av (aT (i:=9) c_.nd (bR aW hr (af (qv 0) (af (qv 1) (af (aG cI ai (aG gk ai (qv 7))) (af (aG mz ai ai) aq)))))))) bw)
  (ak (Jr f_ (aR QL (bR qP hr (af (qv 9) (af (qv 4) aq))) (qv 8) (by with_unfolding_all rfl)) (av (aT (i:=9) c_.nd (aG cI (qv 9) (qv 6)))))
  (av (cy (jZ m9 m7 m8 dU (qv 8) (af (bR qP hr (af (qv 9) (af (qv 4) aq))) aq))))))))
  (av (bh (qv 8))))))))))),?_⟩
 have P10:S7 10 10:=⟨by decide,by decide,by decide +kernel⟩
 refine ⟨_,Z,_,Z,cQ hS h63 hk (by decide) (by decide) (by decide) fun al _ _ _=>⟨Z,?_⟩⟩
 refine ⟨_,Z,_,Z,cQ hS h63 hk (by decide) (by decide) (by decide) fun sd _ s0 s1=>⟨_,_,Z,Z,?_⟩⟩
 refine ⟨_,Z,_,Z,_,_,Z,Z,P10,cQ hS h63 hk (by decide) (by decide) (by decide +kernel) fun fc _ f0 f1=>?_⟩
 generalize hal:decide (V.int al=V.int 0)=alike
 obtain ⟨n0,en0⟩:∃n:Nat,1+sd=(n:Int):=⟨(1+sd).toNat,by omega⟩
 refine ⟨fun σ H'=>H'=H/\∃(d:Nat) (s7:Option V),(alike=true->d<n0)/\(alike=false->d=0)/\d<8/\σ=[some (.ref a),some (.int k),some (.int many),some (.bl alike),some (.int (1+sd)),some (.int fc),some (.int ((26:Int) ^ d)),s7,none,none],?_,?_⟩
 . refine ⟨_,Z,_,Z,aM (fun c=>?_) (fun c=>?_)⟩
   . refine ⟨_,Z,_,Z,_,Z,cQ hS h63 hk (by decide) (by decide) (by omega) fun dd _ d0 d1=>⟨dd,Z,by omega,by omega,?_⟩⟩
     refine nL (lo:=0) (n:=dd.toNat) (fun i σ H'=>H'=H/\∃s7:Option V,σ=[some (.ref a),some (.int k),some (.int many),some (.bl alike),some (.int (1+sd)),some (.int fc),some (.int ((26:Int) ^ i)),s7,none,none]) ⟨Z,none,Z⟩ ?_ ?_
     . rintro i σ H' hi ⟨rfl,s7,rfl⟩
       refine ⟨_,Z,_,_,Z,Z, .inr ⟨by decide,by decide⟩,Z,some (.int ((0:Int)+(i:Int))),?_⟩
       rw [Int.pow_succ]
       rfl
     . rintro σ H' ⟨rfl,s7,rfl⟩
       exact ⟨Z,dd.toNat,s7,fun _=>by omega,fun z=>absurd c (by rw [z];exact fM),by omega,Z⟩
   . exact ⟨Z,0,none,fun z=>absurd z c,fun _=>rfl,by decide,Z⟩
 rintro σ H' ⟨rfl,d,s7,hd1,hd2,hd8,rfl⟩
 refine ⟨(gD 0),fun pn hpn=>?_⟩
 have g0:=aD hpn (.lst [])
 refine ⟨_,Z,(many:Int),Z,by omega,by omega,?_⟩
 refine nL (lo:=0) (n:=(many:Int).toNat) (fun i σ H2=>aP H' H2/\∃(nss:List (List Nat)) (n:Nat) (s1 s2:Option V),d<n/\n<=8/\σ=[some (.ref a),some (.int k),some (.int many),some (.bl alike),some (.int (n:Int)),some (.int fc),some (.int ((26:Int) ^ d)),s1,some (.ref pn),s2]/\H2 pn=some (.lst (qY nss))/\nss.length=i/\nss.Nodup/\∀x∈nss,oJ x)
  ⟨g0,[],n0,s7,none,?_,by omega,by rw [<-en0];rfl,ah,Z,uM,fun _ m=>nomatch m⟩ ?_ ?_
 . cases alike with
   | true=>exact hd1 rfl
   | false=>rw [hd2 rfl];omega
 . rintro i σ H2 hi ⟨g,nss,n,s1,s2,hdn,N5,rfl,hn,hnl,hnd,hok⟩
   have hsl:(qY nss).length=i:=by unfold qY;rw [aE];exact hnl
   have hSg:=g.seq hS
   have hp:(0:Int)<26 ^ d:=Int.pow_pos (by decide)
   have hp8:(26:Int) ^ d<2 ^ 64:=by
    rcases (by omega:d=0\/d=1\/d=2\/d=3\/d=4\/d=5\/d=6\/d=7) with e|e|e|e|e|e|e|e <;> (rw [e];decide +kernel)
   refine ⟨_,Z,_,Z,_,Z,_,Z,_,Z,_,_,Z,Z, .inl ⟨by decide,by decide⟩,_,_,Z,Z,cQ hSg h63 hk (by omega) (by omega) (by decide) fun cd _ c0 c1=>⟨_,_,Z,Z, .inl ⟨by omega,hp8⟩,_,_,Z,Z,?_⟩⟩
   have hcode:0<=fc+26 ^ d*cd:=Int.add_nonneg f0 (oh (BK hp) c0)
   refine ⟨fun σ H3=>H3=H2/\∃(n:Nat) (c:Int),0<=c/\d<n/\n<=8/\σ=[some (.ref a),some (.int k),some (.int many),some (.bl alike),some (.int (n:Int)),some (.int fc),some (.int ((26:Int) ^ d)),some (.int ((0:Int)+(i:Int))),some (.ref pn),some (.int c)],?_,?_⟩
   . refine ⟨_,Z,_,Z,?_⟩
     cases hb:alike with
     | true=>exact gr ⟨Z,n,_,hcode,hdn,N5,Z⟩
     | false=>
       refine jU ?_
       have hd0:=hd2 hb
       refine ⟨_,Z,_,Z,_,Z,_,_,Z,Z, .inl ⟨by decide,by decide⟩,_,_,Z,Z,cQ hSg h63 hk (by omega) (by omega) (by decide) fun zd _ z0 z1=>⟨_,_,Z,Z,?_⟩⟩
       refine ⟨_,Z,_,Z,_,Z,_,_,Z,Z, .inl ⟨by decide,by decide⟩,_,_,Z,Z,_,_,Z,Z,P10,cQ hSg h63 hk (by omega) (by omega) (by decide +kernel) fun cd2 _ e0 _=>?_⟩
       refine ⟨Z,(1+zd).toNat,cd2,e0,by omega,by omega,?_⟩
       rw [show (((1+zd).toNat:Nat):Int)=1+zd from by omega]
       rfl
   clear hdn N5 hcode
   rintro σ H3 ⟨rfl,n,vd,cc0,hdn,N5,rfl⟩
   refine ⟨fun m σ H4=>H4=H3/\∃t:Nat,m=nss.length+1-t/\t<=nss.length/\σ=[some (.ref a),some (.int k),some (.int many),some (.bl alike),some (.int (n:Int)),some (.int fc),some (.int ((26:Int) ^ d)),some (.int ((0:Int)+(i:Int))),some (.ref pn),some (.int (vd+(t:Int)*26 ^ d))]/\∀j:Nat,j<t->kJ (vd+(j:Int)*26 ^ d) n∈nss,
    ⟨_,Z,0,Z,gj _,by rw [show vd+((0:Nat):Int)*26 ^ d=vd from by simp],fun j hj=>absurd hj (Nat.not_lt_zero _)⟩,?_⟩
   rintro m σ H4 ⟨rfl,t,rfl,ht,rfl,htr⟩
   have hct:0<=vd+(t:Int)*26 ^ d:=Int.add_nonneg cc0 (oh (by omega) (BK hp))
   refine ⟨_,Z,_,Z,IG rfl hct (by omega) ?_⟩
   refine ⟨_,Z,pn,_,Z, .inl (aH.of hn),Z,TZ nss,?_⟩
   show Qy _ (V.bl (if false=true then !EV (.str (tx (kJ (vd+(t:Int)*26 ^ d) n))) (qY nss) else EV (.str (tx (kJ (vd+(t:Int)*26 ^ d) n))) (qY nss))) _
   rw [aA fM,Nd]
   refine ⟨_,Z,aM (fun c=>?_) (fun c=>?_)⟩
   . have hmem:kJ (vd+(t:Int)*26 ^ d) n∈nss:=aZ c
     have aaA:∀j:Nat,j<t+1->kJ (vd+(j:Int)*26 ^ d) n∈nss:=fun j hj=>by
      rcases Nat.lt_succ_iff_lt_or_eq.mp hj with z|z
      . exact htr j z
      . rw [z];exact hmem
     have hle:=Rg (c:=vd) (n:=n) (t:=t+1) hdn (by omega) aaA
     refine ⟨_,fun _ _ z=>z,?_⟩
     refine ⟨_,Z,_,Z,_,_,Z,Z,?_⟩
     refine ⟨_,(by omega:nss.length+1-(t+1)<nss.length+1-t),Z,t+1,Z,hle,?_,aaA⟩
     rw [show vd+((t+1:Nat):Int)*26 ^ d=vd+(t:Int)*26 ^ d+26 ^ d from by rw [Int.natCast_add,oq];show _+(_+1*_)=_;rw [Int.one_mul,Int.add_assoc]]
     rfl
   . have hnm:kJ (vd+(t:Int)*26 ^ d) n∉nss:=tG (pT.mpr c)
     refine ⟨_,Z, .inl ⟨Z,_,aH.of hn⟩,?_⟩
     refine ⟨_,Z,_,Z,IG rfl hct (by omega) ?_⟩
     refine ⟨pn,qY nss,_,Z,Z,hn,dh (by omega),g.cN hpn _,nss++[kJ (vd+(t:Int)*26 ^ d) n],n,_,_,hdn,N5,Z,?_,?_,nO hnd hnm,fun x hx=>?_⟩
     . rw [ah]
       unfold qY
       rw [bM]
       rfl
     . rw [dg,hnl]
       rfl
     . rcases gi.mp hx with z|z
       . exact hok x z
       . rw [fV.mp z]
         exact Y_ _ (by omega) N5
 rintro σ H2 ⟨g,nss,n,s1,s2,hdn,N5,rfl,hn,hnl,hnd,hok⟩
 exact ⟨_,Z,q pn nss H2 g hn hpn (by omega) hnd hok⟩
abbrev uD:Stmt:=top 29
abbrev qQ:List Str:=["_law_owners"]
abbrev L1:List Str:=qQ
theorem Kv:aO L1 qQ (aC uD):=dN
theorem Kw (F:At K mg "_law_lite" uD f fd) (ki:mg "list"=none):Dn P w K mg base 1 "_law_lite" qQ (RY K):=by
 refine F.oA Kv fun cdv A outer s H vs Q E hr h=>?_
 obtain ⟨⟨l,own,n,ρ,rfl,hl,G,hle,q⟩⟩:=h
 refine ⟨_,(@cT.h _ _ _ (av (bh (W8 (AX bB (nV (rT K) (by rfl) ki Og (af (qv 0) aq)) (AX bB (ir aq) (AX bB (ir aq) W5))) (by rfl) (by rfl) (fun z=>nomatch z) (by with_unfolding_all decide))))),?_⟩
 intro m hm
 have g0:=aD hm (.dK [])
 have em0:upd H m (.dK []) m=some (.dK []):=ah
 have rL:=g0.seq hl
 generalize upd H m (.dK [])=H0 at *
 refine ⟨_,Z,l,_,Z, .inl rL,fun lo hlo=>?_⟩
 have g1:=aD hlo (.lst (own.map V.str))
 have eo1:upd H0 lo (.lst (own.map V.str)) lo=some (.lst (own.map V.str)):=ah
 have em1:=g1 _ _ em0
 generalize upd H0 lo (.lst (own.map V.str))=H1 at *
 refine ⟨(gD 0),fun lp zH=>?_⟩
 have g2:=aD zH (.lst [])
 have VR:upd H1 lp (.lst []) lp=some (.lst []):=ah
 have eo2:=g2 _ _ eo1
 have em2:=g2 _ _ em1
 show BX _ _ (upd H1 lp (.lst [])) _
 generalize upd H1 lp (.lst [])=H2 at *
 refine ⟨(gD 0),fun lk hlk=>?_⟩
 have g4:=aD hlk (.lst [])
 have ek4:upd H2 lk (.lst []) lk=some (.lst []):=ah
 have ep4:=g4 _ _ VR
 have eo4:=g4 _ _ eo2
 have em4:=g4 _ _ em2
 show upd H2 lk (.lst []) m=_/\_
 generalize upd H2 lk (.lst [])=H4 at *
 have gA:=((g0.trans g1).trans g2).trans g4
 have n1:lo≠m:=fun e=>by rw [e,em0] at hlo;cases hlo
 have n2:lp≠m:=fun e=>by rw [e,em1] at zH;cases zH
 have n3:lp≠lo:=fun e=>by rw [e,eo1] at zH;cases zH
 have n7:lk≠m:=fun e=>by rw [e,em2] at hlk;cases hlk
 have n8:lk≠lo:=fun e=>by rw [e,eo2] at hlk;cases hlk
 have n9:lk≠lp:=fun e=>by rw [e,VR] at hlk;cases hlk
 refine ⟨em4,[(Sum.inr "owners", .ref lo),(Sum.inr "parts", .ref lp),(Sum.inr "known", .ref lk)],Z,by show 3<=15;decide,?_⟩
 have eK:vS [] [(Sum.inr "owners", .ref lo),(Sum.inr "parts", .ref lp),(Sum.inr "known", .ref lk)]=ji ⟨m,lo,lp,lk,[]⟩:=rfl
 rw [eK]
 have u1:upd H4 m (.dK (ji ⟨m,lo,lp,lk,[]⟩)) m=some (.dK (ji ⟨m,lo,lp,lk,[]⟩)):=ah
 have u2:upd H4 m (.dK (ji ⟨m,lo,lp,lk,[]⟩)) lo=some (.lst (own.map V.str)):=by rw [az n1];exact eo4
 have u3:upd H4 m (.dK (ji ⟨m,lo,lp,lk,[]⟩)) lp=some (.lst []):=by rw [az n2];exact ep4
 have u5:upd H4 m (.dK (ji ⟨m,lo,lp,lk,[]⟩)) lk=some (.lst []):=by rw [az n7];exact ek4
 have G4:=(G.same gA).wr (a:=m) (o:= .dK (ji ⟨m,lo,lp,lk,[]⟩)) rfl
 have hz:∀b o,H b=some o->upd H4 m (.dK (ji ⟨m,lo,lp,lk,[]⟩)) b=some o:=fun b o e=>by
  rw [az (fun z=>by rw [z,hm] at e;cases e)];exact gA _ _ e
 have y1:H lo=none:=g0.free hlo
 have y2:H lp=none:=(g0.trans g1).free zH
 have y4:H lk=none:=((g0.trans g1).trans g2).free hlk
 generalize upd H4 m (.dK (ji ⟨m,lo,lp,lk,[]⟩))=H5 at *
 refine q (cR (cR (cR (cR ρ m (n,40,nx)) lo (n,41,nx)) lp (n,42,nx)) lk (n,43,nx)) ⟨m,lo,lp,lk,[]⟩ H5 ((((G4.color u1 rfl).color u2 rfl).color u3 rfl).color u5 rfl) ⟨u1,?_,u2,?_,u3,?_,u5,dH,uM,Z,fun i p q e=>by simp at e⟩ (fun b o e=>⟨hz b o e,?_⟩)
 . show cR _ lk _ m=_
   rw [cJ (cO n7),cJ (cO n2),cJ (cO n1),dH]
 . show cR _ lk _ lo=_
   rw [cJ (cO n8),cJ (cO n3),dH]
 . show cR _ lk _ lp=_
   rw [cJ (cO n9),dH]
 . rw [cJ (aF e y4),cJ (aF e y2),cJ (aF e y1),cJ (aF e hm)]
abbrev uE:Stmt:=top 30
abbrev mJ:List Str:=["_law_script","_law_k","_law_j"]
abbrev L3:List Str:=mJ.append ["_law_size"]
theorem zJ:aO L3 mJ (aC uE):=dN
theorem Ky (F:At K mg "_law_much" uE f fd) (aW:Dn P w K mg base 1 "_law_draw" gT (qW K)):Dn P w K mg base 2 "_law_much" mJ (Cf K):=by
 refine F.oA zJ fun cdv A outer s H vs Q E hr h=>?_
 obtain ⟨⟨a,ns,k,j,rfl,hS,h63,hk,hj,hj2,q⟩⟩:=h
 refine ⟨_,(@cT.h _ _ _ (ak (aT (i:=3) zJ.nd (aJ (cZ K) (ir (af ai (af ai (af ai (af (aG mz ai ai) aq))))) (bR aW hr (af (qv 0) (af (qv 1) (af (qv 2) (af ai aq)))))))
  (av (bh (aG cI ai (bR aW hr (af (qv 0) (af (qv 1) (af (aG cI (qv 2) ai) (af (qv 3) aq)))))))))),?_⟩
 refine ⟨_,_,Z,Z,⟨by decide,by decide,by decide⟩,(gD 4),fun p1 hp1=>?_⟩
 have g1:=aD hp1 (.lst [V.int 9,V.int 40,V.int 1000,V.int (10 ^ (9:Int).toNat)])
 refine ⟨_,Z,_,Z,_,Z,cQ (g1.seq hS) h63 hk hj (by omega) (by decide) fun d _ d0 d1=>?_⟩
 obtain ⟨B,hB,hB0,hB1⟩:∃B:Int,qV [V.int 9,V.int 40,V.int 1000,V.int (10 ^ (9:Int).toNat)] d=some (.int B)/\0<B/\B<=1000000000:=by
  rcases (by omega:d=0\/d=1\/d=2\/d=3) with e|e|e|e
  . exact ⟨9,by rw [e];rfl,by decide,by decide⟩
  . exact ⟨40,by rw [e];rfl,by decide,by decide⟩
  . exact ⟨1000,by rw [e];rfl,by decide,by decide⟩
  . exact ⟨10 ^ (9:Int).toNat,by rw [e];rfl,by decide,by decide⟩
 refine ⟨p1,_,_,_,Z,Z,aH.of ah,hB,?_⟩
 refine ⟨_,Z,_,Z,_,Z,_,_,Z,Z,_,Z,cQ (g1.seq hS) h63 hk (by omega) (by omega) hB0 fun e _ e0 e1=>⟨_,_,Z,Z,?_⟩⟩
 exact q (1+e) _ (by omega) (by omega) g1
abbrev uF:Stmt:=top 31
abbrev qR:List Str:=["_law_script","_law_k","_law_parts"]
abbrev L4:List Str:=qR.append ["_law_spare","_law_order","_law_rows_here","_law_at_here","_law_way","_law_amount"]
theorem fR:aO L4 qR (aC uF):=dN
theorem Kz (F:At K mg "_law_rows" uF f fd) (aW:Dn P w K mg base 1 "_law_draw" gT (qW K)) (b_:mg "len"=none) (c9:mg "range"=none) (ki:mg "list"=none) (iZ:mg "sum"=none) (ve:mg "min"=none):Dn P w K mg base 2 "_law_rows" qR (Nu K):=by
 refine F.oA fR fun cdv A outer s H vs Q E hr h=>?_
 obtain ⟨⟨a,l,ns,k,us,ws,rfl,hS,h63,hk0,hk1,hl,hW,nd,hle,hw1,q⟩⟩:=h
 refine ⟨_,(@cT.h _ _ _ (ak (aT (i:=3) fR.nd (aG kW (bF (uS K rfl) (by rfl) iZ DE (af (gP ["_law_part"] [none] rfl (d8 K (qv 2)) (fun _ _ _ _=>(aV (i:=0) (show List.Nodup (["_law_part"] :List Str) from by decide +kernel))) (fun _ _ _ _=>(aJ (dB K) (qv 0) ai)) rfl (by rfl)) aq)) ai))
  (ak (aT (i:=4) fR.nd (nV (FY rfl) (by rfl) ki Og (af (RN (by rfl) c9 (af (bF (di K) (by rfl) b_ gb (af (qv 2) aq)) aq)) aq)))
  (ak (jG (aR dP (bR aW hr (af (qv 0) (af (qv 1) (af ai (af ai aq))))) ai (aX _)) (av (aT (i:=4) fR.nd (ZO K (qv 4) (Vy Qv ai)))) bw)
  (ak (aT (i:=5) fR.nd (ir aq))
  (ak (fE f_ rfl (d8 K (qv 4)) (aV (i:=6) fR.nd) (ak (aT (i:=7) fR.nd (bR aW hr (af (qv 0) (af (qv 1) (af (aG cI ai (aG gk ai (qv 6))) (af ai aq))))))
  (ak (aT (i:=8) fR.nd (bF (RG rfl) (by rfl) ve Ol (af (aJ (dB K) (aJ (cZ K) (qv 2) (qv 6)) ai) (af (qv 3) (af (aG mz ai ai) aq)))))
  (ak (jG (jF (bW.pt (rE (aR dP (qv 7) ai (aX _)) (s_ (aR jT (qv 8) ai (aX _)))))) (av (aT (i:=8) fR.nd (aG cI ai (bR aW hr (af (qv 0) (af (qv 1) (af (aG cI ai (aG gk ai (qv 6))) (af (qv 8) aq)))))))) bw)
  (av (jG (jF (bW.pt (rE (aR jT (qv 7) ai (aX _)) (s_ (aR jT (qv 8) ai (aX _)))))) (ak (cy (jZ m9 m7 m8 dU (qv 5) (af (gv (af (aJ (dB K) (aJ (cZ K) (qv 2) (qv 6)) ai) (af (qv 8) aq))) aq)))
  (av (aT (i:=3) fR.nd (aG kW (qv 3) (qv 8))))) bw))))))
  (av (bh (qv 5))))))))),?_⟩
 have ll:=hW.len
 refine ⟨_,Z,l,Z,⟨_,hl⟩,fun l0 rL=>?_⟩
 refine jD (J:=x_ K l) (n:=us.length) 0 (fun i o H'=>aP H H'/\o=((ws.take i).map (fun r:Row=>r.2)).map V.int) (by omega) ⟨aD rL _,Z⟩ (fun i o H' hi _ hp=>⟨_,_,hp.1.seq hl,bu hi⟩) (fun o H' _ hp=>⟨_,hp.1.seq hl,aK _⟩) ?_ ?_
 . rintro i y o H2 H3 hi fY ha ⟨g,e⟩ ⟨rfl,hy⟩
   have hiw:i<ws.length:=by omega
   have ei:=bu hiw
   obtain ⟨ar,xs,ea,AB,x0,x2⟩:=hW.at_ i _ ei
   have ey:=hy _ (g.seq hl)
   rw [ea] at ey
   cases ey
   refine ⟨_,Z,(g.sq AB).ix (i:=2) x2 ?_⟩
   refine ⟨ha,g.cN rL _,?_⟩
   subst e
   rw [take_snoc ei,bM,bM]
   rfl
 rintro o1 H1 _ ha ⟨g1,e⟩
 rw [ll,cK] at e
 subst e
 refine ⟨l0,ws.map (fun r:Row=>r.2),Z,aH.of ha,_,_,Z,Z,?_⟩
 show sQ 3 (.int (br ws-1)) _ _ _
 refine ⟨_,Z,l,_,Z, .inl (g1.seq hl),_,Z,fun pr hpr=>?_⟩
 refine ⟨pr,ws.length,Z,?_,by omega,fun po VP=>?_⟩
 . rw [ah,ll]
 have gA:=(aD hpr (.uQ 0 ((us.length:Nat):Int))).trans (aD VP (.lst ((L2.upTo ws.length).map V.int)))
 have gB:=g1.trans gA
 have hord:upd (upd H1 pr (.uQ 0 ((us.length:Nat):Int))) po (.lst ((L2.upTo ws.length).map V.int)) po=some (.lst ((L2.upTo ws.length).map V.int)):=ah
 generalize upd (upd H1 pr (.uQ 0 ((us.length:Nat):Int))) po (.lst ((L2.upTo ws.length).map V.int))=H2 at *
 have ndo:(L2.upTo ws.length).Nodup:=by
  unfold L2.upTo
  refine List.Pairwise.map _ (fun x y h e=>h (by omega)) List.nodup_range
 have uQ:∀x∈L2.upTo ws.length,0<=x/\x<(ws.length:Int):=fun x hx=>by
  unfold L2.upTo at hx
  obtain ⟨i,hi,rfl⟩:=bJ.mp hx
  have:=qy.mp hi
  omega
 have lup:(L2.upTo ws.length).length=ws.length:=by unfold L2.upTo;rw [aE,Oz]
 refine ⟨fun σ H3=>aP H H3/\∃(pq:Addr) (os:List Int),σ=[some (.ref a),some (.int k),some (.ref l),some (.int (br ws-1)),some (.ref pq),none,none,none,none]/\H3 pq=some (.lst (os.map V.int))/\os.Nodup/\os.length=ws.length/\∀x∈os,0<=x/\x<(ws.length:Int),?_,?_⟩
 . refine ⟨_,Z,_,Z,cQ (gB.seq hS) h63 hk0 (by decide) (by decide) (by decide) fun d _ d0 d1=>⟨Z,_,Z,aM (fun c=>?_) (fun c=>?_)⟩⟩
   . refine ⟨_,Z,_,Z,Z,po,_,Z,aH.of hord,fun pz hpz=>?_⟩
     have g3:=aD hpz (.lst ((L2.upTo ws.length).map V.int).reverse)
     exact ⟨gB.trans g3,pz,(L2.upTo ws.length).reverse,Z,by rw [ah,List.map_reverse],List.pairwise_reverse.mpr (List.Pairwise.imp (fun h=>cO h) ndo),by rw [List.length_reverse,lup],fun x hx=>uQ x (List.mem_reverse.mp hx)⟩
   . exact ⟨gB,po,L2.upTo ws.length,Z,hord,ndo,lup,uQ⟩
 rintro σ H3 ⟨g3,pq,os,rfl,hos,hnd,fY,hrg⟩
 refine ⟨(gD 0),fun z hz=>?_⟩
 have g4:=aD hz (.lst [])
 have hzz:upd H3 z (.lst []) z=some (.lst []):=ah
 have aaC:=g4 _ _ hos
 have nz:pq≠z:=fun e=>by rw [e,hz] at hos;cases hos
 have hzH:H z=none:=g3.free hz
 have g34:=g3.trans g4
 show tM _ _ _ _ (upd H3 z (.lst []))
 generalize upd H3 z (.lst [])=H4 at *
 have w1:ws≠[]->1<=br ws:=fun hne=>by
  cases ws with
  | nil=>exact absurd rfl hne
  | cons r rs=>
    have h1:=hw1 r cL
    have h2:=AV (rs:=rs) fun x hx=>hw1 x (cC _ hx)
    rw [show br (r::rs)=r.2+br rs from by unfold br;rw [bH,c5]]
    omega
 refine ⟨_,Z,pq,Z,⟨_,aH.of aaC⟩,?_⟩
 refine jS (K:=K) (xs:=os.map V.int) (fun i σ H'=>aP H H'/\H' pq=some (.lst (os.map V.int))/\∃(zs:List V) (rs:List Row) (sp:Int) (s6 s7 s8:Option V),σ=[some (.ref a),some (.int k),some (.ref l),some (.int sp),some (.ref pq),some (.ref z),s6,s7,s8]/\H' z=some (.lst zs)/\f7 H' zs rs/\rs.length<=i/\(rs.map (fun r:Row=>r.1)).Nodup/\
   sp=br ws-1-br rs/\(ws≠[]->0<=sp)/\∀r∈rs,1<=r.2/\r.2<=1000000000/\∃j:Nat,((j:Nat):Int)∈os.take i/\∃w,ws[j]?=some w/\w.1=r.1/\r.2<=w.2)
  ⟨g34,aaC,[],[],br ws-1,none,none,none,Z,hzz, .nil,aK _,uM,by show _=br ws-1-0;omega,fun hne=>by have:=w1 hne;omega,fun r hr=>absurd hr (by simp)⟩ ?_ ?_ ?_
 . rintro i σ H' _ ⟨_,h,_⟩
   exact aH.of h
 . rintro i x σ H5 hx ⟨g5,hq5,zs,rs,sp,s6,s7,s8,rfl,N6,hR,hrl,VT,oF,PL,vF⟩
   rw [cg] at hx
   obtain ⟨at',hat,rfl⟩:=lW.mp hx
   have hio:=(dS.mp hat).1
   obtain ⟨t0,t1⟩:=hrg at' (bX hat)
   obtain ⟨jt,hjt⟩:∃jt:Nat,((jt:Nat):Int)=at':=⟨at'.toNat,by omega⟩
   subst hjt
   have hjl:jt<ws.length:=by omega
   have hne:ws≠[] :=fun e=>by rw [e] at hjl;simp at hjl
   have afy:=PL hne
   have hnot:((jt:Nat):Int)∉os.take i:=fun m=>by
    obtain ⟨j,hj,ej⟩:=List.mem_iff_getElem.mp m
    rw [List.getElem_take] at ej
    rw [nY] at hj
    have e2:=(dS.mp hat).2
    have:=(List.getElem_inj hnd).mp (ej.trans e2.symm)
    omega
   have ej:=bu hjl
   have hwj:=hw1 _ (bX ej)
   generalize ws[jt]=wj at *
   obtain ⟨ar,xs,ea,AB,x0,x2⟩:=hW.at_ jt _ ej
   refine ⟨_,Z,_,Z,_,Z,_,_,Z,Z, .inl ⟨by decide,by decide⟩,_,_,Z,Z,cQ (g5.seq hS) h63 hk0 (by omega) (by omega) (by decide) fun way _ v0 v1=>?_⟩
   refine ⟨_,Z,_,Z,l,_,_,_,Z,Z,g5.seq hl,ay ea,(g5.sq AB).ix (i:=2) x2 ?_⟩
   refine ⟨_,Z,_,_,Z,Z,⟨by decide,by decide,by decide⟩,_,_,_,Z,?_⟩
   obtain ⟨m1,m2,m3⟩:=WV wj.2 sp ((10:Int) ^ (9:Int).toNat)
   have m0:0<=t9 wj.2 sp ((10:Int) ^ (9:Int).toNat):=WW (by omega) afy (by decide)
   have m3:t9 wj.2 sp ((10:Int) ^ (9:Int).toNat)<=1000000000:=m3
   generalize t9 wj.2 sp ((10:Int) ^ (9:Int).toNat)=m at *
   refine ⟨fun σ H6=>H5=H6/\∃m:Int,0<=m/\m<=sp/\m<=wj.2/\m<=1000000000/\σ=[some (.ref a),some (.int k),some (.ref l),some (.int sp),some (.ref pq),some (.ref z),some (.int (jt:Int)),some (.int way),some (.int m)],?_,?_⟩
   . refine ⟨decide (way=2/\0<m),?_,?_⟩
     . refine ⟨_,Z,Z,_,Z,?_⟩
       by_cases h1:way=2
       . rw [a_ (by rw [h1] :V.int way=V.int 2)]
         refine jU ⟨_,Z,_,_,Z,Z,_,Z,?_,Z⟩
         by_cases h2:0<m
         . rw [a_ h2,a_ ⟨h1,h2⟩]
         . rw [cV h2,cV fun z=>h2 z.2]
       . rw [cV (fun z=>h1 (V.int.inj z))]
         exact gr ⟨(cV fun z=>h1 z.1).symm,Z⟩
     refine aM (fun c=>?_) (fun c=>?_)
     . obtain ⟨_,c2⟩:=aZ c
       refine ⟨_,Z,_,Z,_,Z,_,_,Z,Z, .inl ⟨by decide,by decide⟩,_,_,Z,Z,_,Z,cQ (g5.seq hS) h63 hk0 (by omega) (by omega) c2 fun d _ d0 d1=>⟨_,_,Z,Z,Z,1+d,by omega,by omega,by omega,by omega,Z⟩⟩
     . exact ⟨Z,m,m0,m2,m1,m3,Z⟩
   rintro σ H6 ⟨rfl,o,o0,o1,o2,o3,rfl⟩
   have grow:∀r∈rs,1<=r.2/\r.2<=1000000000/\∃j:Nat,((j:Nat):Int)∈os.take (i+1)/\∃w,ws[j]?=some w/\w.1=r.1/\r.2<=w.2:=fun r hr=>by
    obtain ⟨a1,a2,j,a3,a4⟩:=vF r hr
    exact ⟨a1,a2,j,by rw [take_snoc hat];exact AD _ a3,a4⟩
   refine ⟨fun σ H6=>aP H H6/\H6 pq=some (.lst (os.map V.int))/\∃(zs:List V) (rs:List Row) (sp:Int) (s6 s7 s8:Option V),σ=[some (.ref a),some (.int k),some (.ref l),some (.int sp),some (.ref pq),some (.ref z),s6,s7,s8]/\H6 z=some (.lst zs)/\f7 H6 zs rs/\rs.length<=i+1/\(rs.map (fun r:Row=>r.1)).Nodup/\
    sp=br ws-1-br rs/\(ws≠[]->0<=sp)/\∀r∈rs,1<=r.2/\r.2<=1000000000/\∃j:Nat,((j:Nat):Int)∈os.take (i+1)/\∃w,ws[j]?=some w/\w.1=r.1/\r.2<=w.2,?_,fun _ _ h=>h⟩
   refine ⟨decide (0<way/\0<o),?_,?_⟩
   . refine ⟨_,Z,_,_,Z,Z,_,Z,?_⟩
     by_cases h1:0<way
     . rw [a_ h1]
       refine jU ⟨_,Z,_,_,Z,Z,_,Z,?_,Z⟩
       by_cases h2:0<o
       . rw [a_ h2,a_ ⟨h1,h2⟩]
       . rw [cV h2,cV fun z=>h2 z.2]
     . rw [cV h1]
       exact gr ⟨(cV fun z=>h1 z.1).symm,Z⟩
   refine aM (fun c=>?_) (fun c=>?_)
   . obtain ⟨_,c2⟩:=aZ c
     refine ⟨_,Z, .inl ⟨Z,_,aH.of N6⟩,_,Z,_,Z,l,_,_,_,Z,Z,g5.seq hl,ay ea,(g5.sq AB).ix (i:=0) x0 ?_⟩
     refine ⟨_,Z,(gD 2),fun p hp=>?_⟩
     have g6:=aD hp (xo (wj.1,o))
     have hz6:=g6 _ _ N6
     have hq6:=g6 _ _ hq5
     have VC:upd H5 p (xo (wj.1,o)) p=some (xo (wj.1,o)):=ah
     have afz:=hR.length
     show rO _ (upd H5 p (xo (wj.1,o))) _
     generalize upd H5 p (xo (wj.1,o))=H6 at *
     refine ⟨z,_,_,Z,Z,hz6,by rw [afz];exact dh (by omega),?_⟩
     have np:p≠z:=fun e=>by rw [e,N6] at hp;cases hp
     have tu:∀b ys,H6 b=some (.tup ys)->upd H6 z (.lst (zs++[.ref p])) b=some (.tup ys):=iD (.inr ⟨_,hz6,Z⟩)
     refine ⟨_,Z,_,Z,_,_,Z,Z,(g5.trans g6).cN hzH _,by rw [az nz];exact hq6,zs++[.ref p],rs++[(wj.1,o)],sp-o,_,_,_,Z,ah,((hR.mono g6.tups).snoc VC).mono tu,by rw [dg];show rs.length+1<=i+1;omega,?_,?_,fun _=>by omega,?_⟩
     . rw [bM]
       refine nO VT fun hm=>?_
       obtain ⟨r,hr,er⟩:=bJ.mp hm
       obtain ⟨_,_,j,hj,w,aaE,e1,_⟩:=vF r hr
       have hj2:j<ws.length:=(dS.mp aaE).1
       have r1:(ws.map (fun r:Row=>r.1))[j]?=some w.1:=by rw [cg,aaE];rfl
       have r2:(ws.map (fun r:Row=>r.1))[jt]?=some wj.1:=by rw [cg,ej];rfl
       have er:r.1=wj.1:=er
       have:j=jt:=(OB (by rw [aE];exact hj2) nd).mp (r1.trans (by rw [e1,er];exact r2.symm))
       rw [this] at hj
       exact hnot hj
     . rw [show br (rs++[(wj.1,o)])=br rs+o from by unfold br;rw [bM,List.sum_append];simp]
       omega
     . intro r hr
       rcases gi.mp hr with h1|h1
       . exact grow r h1
       . rw [fV.mp h1]
         exact ⟨by show 1<=o;omega,o3,jt,by rw [take_snoc hat];exact jn _ (fV.mpr rfl),wj,ej,Z,o2⟩
   . exact ⟨g5,hq5,zs,rs,sp,_,_,_,Z,N6,hR,by omega,VT,oF,PL,grow⟩
 rintro σ H5 ⟨g5,hq5,zs,rs,sp,s6,s7,s8,rfl,N6,hR,hrl,VT,oF,PL,vF⟩
 rw [aE,fY] at hrl
 refine ⟨_,Z,q z zs rs H5 g5 hzH N6 hR ⟨VT,fun r hr=>?_,?_,hrl⟩⟩
 . obtain ⟨a1,a2,j,_,w,hw,e1,e2⟩:=vF r hr
   exact ⟨a1,a2,w,bX hw,e1,e2⟩
 . by_cases c:ws=[]
   . right
     rw [c] at hrl
     exact List.length_eq_zero_iff.mp (by simpa using hrl)
   . left
     have:=PL c
     omega
abbrev uG:Stmt:=top 32
abbrev qS:List Str:=["_law_rows_here"]
abbrev L5:List Str:=qS.append ["_law_things","_law_name_here","_law_amount"]
theorem pD:aO L5 qS (aC uG):=dN
theorem KA (F:At K mg "_law_flat" uG f fd) (tF:mg "tuple"=none):Dn P w K mg base 1 "_law_flat" qS (RV K):=by
 refine F.oA pD fun cdv A outer s H vs Q E hr h=>?_
 obtain ⟨⟨l,us,rs,rfl,hl,hR,hle,q⟩⟩:=h
 refine ⟨_,(@cT.h _ _ _ (ak (aT (i:=1) pD.nd (ir (af bB aq)))
  (ak (fE f_ rfl (d8 K (qv 0)) (iF K (n:=2) rfl (cA (aV (i:=2) pD.nd) (cA (aV (i:=3) pD.nd) iE))) (ak (cy (jZ m9 m7 m8 dU (qv 1) (af (qv 2) aq)))
  (av (cy (jZ m9 m7 m8 dU (qv 1) (af (qv 3) aq))))))
  (av (bh (nV yd (by rfl) tF PyProof.Rows.boot_tuple (af (qv 1) aq))))))),?_⟩
 have Z9:=hR.length
 refine ⟨(gD 1),fun t ht=>?_⟩
 have g0:=aD ht (.lst [.str "cast"])
 have h0:upd H t (.lst [.str "cast"]) t=some (.lst (Dd.v (.cast (rs.take 0)))):=ah
 show tM _ _ _ _ (upd H t (.lst [.str "cast"]))
 generalize upd H t (.lst [.str "cast"])=H0 at *
 refine ⟨_,Z,l,Z,⟨us,g0.seq hl⟩,?_⟩
 refine jS (K:=K) (xs:=us) (fun i σ H'=>aP H H'/\H' t=some (.lst (Dd.v (.cast (rs.take i))))/\∃s2 s3,σ=[some (.ref l),some (.ref t),s2,s3]) ⟨g0,h0,_,_,Z⟩ (fun i σ H' _ hp=>hp.1.seq hl) ?_ ?_
 . rintro i x σ H' hx ⟨g,hd',s2,s3,rfl⟩
   obtain ⟨a,r,rfl,er,ha⟩:=hR.get hx
   have hlt:(Dd.v (.cast (rs.take i))).length+1<sizeLine:=by
    show (fJ (rs.take i)).length+1+1<_
    rw [uZ,nY,jQ];exact HQ (show _<=3000 by omega) (by decide)
   refine ⟨a,_,Z,bN.of (g _ _ ha),Z,_,_,Z,_,_,Z,Z,?_⟩
   refine ⟨_,Z, .inl ⟨Z,_,aH.of hd'⟩,_,Z,t,_,_,Z,Z,hd',by omega,?_⟩
   refine ⟨_,Z, .inl ⟨Z,_,aH.of ah⟩,_,Z,t,_,_,Z,Z,ah,by rw [dg];exact hlt,?_⟩
   refine ⟨?_,?_,_,_,Z⟩
   . rw [nK];exact g.cN ht _
   . rw [ah,take_snoc er]
     show some (HO.lst ((V.str "cast"::fJ (rs.take i)++[V.str r.1])++[V.int r.2]))=some (HO.lst (V.str "cast"::fJ (rs.take i++[r])))
     rw [yV]
     simp [fJ]
 rintro σ H' ⟨g,hd',s2,s3,rfl⟩
 rw [Z9,cK] at hd'
 refine ⟨_,Z,t,_,Z, .inl ⟨aH.of hd',fun z hz=>q z _ (g.trans (aD hz _)) ah⟩⟩
abbrev mw:Stmt:=top 33
abbrev j9:List Str:=["_law_script","_law_k","_law_model","_law_names_here","_law_way"]
abbrev Bo:List Str:=j9.append ["_law_parts","_law_part","_law_owner","_law_whole","_law_rows_here","_law_amount"]
theorem fF:aO Bo j9 (aC mw):=dN
theorem Ah (F:At K mg "_law_part_deed" mw f fd) (aW:Dn P w K mg base 1 "_law_draw" gT (qW K)) (ku:Dn P w K mg base 2 "_law_much" mJ (Cf K)) (vG:Dn P w K mg base 2 "_law_rows" qR (Nu K)) (vH:Dn P w K mg base 1 "_law_flat" qS (RV K)) (b_:mg "len"=none) (iZ:mg "sum"=none) (ve:mg "min"=none):Dn P w K mg base 3 "_law_part_deed" j9 (CO K):=by
 refine F.oA fF fun cdv A outer s H vs Q E hr h=>?_
 obtain ⟨⟨a,m,ln,ns,k,way,nms,c,st,rfl,hS,h63,hk0,hk1,hq,hN,nx,hnl,wf,g,hc,hp0,q⟩⟩:=h
 refine ⟨_,(@cT.h _ _ _ (ak (aT (i:=5) fF.nd (dZ (dz hr) (qv 2) bB))
  (ak (aT (i:=6) fF.nd (aJ (cZ K) (qv 5) (bR aW hr (af (qv 0) (af (qv 1) (af ai (af (bF (di K) (by rfl) b_ gb (af (qv 5) aq)) aq)))))))
  (ak (aT (i:=7) fF.nd (aJ (cZ K) (dZ (dz hr) (qv 2) bB) (bR aW hr (af (qv 0) (af (qv 1) (af ai (af (bF (di K) (by rfl) b_ gb (af (dZ (dz hr) (qv 2) bB) aq)) aq)))))))
  (ak (aT (i:=8) fF.nd (bF (uS K rfl) (by rfl) iZ DE (af (gP ["_law_one"] [none] rfl (d8 K (qv 5)) (fun _ _ _ _=>(aV (i:=0) (show List.Nodup (["_law_one"] :List Str) from by decide +kernel))) (fun _ _ _ _=>(aJ (dB K) (qv 0) ai)) rfl (by rfl)) aq)))
  (ak (jG (aR qC (qv 4) ai (aX _)) (ak (aT (i:=9) fF.nd (bR vG hr (af (qv 0) (af (qv 1) (af (qv 5) aq)))))
  (av (b9 (aR jT (bF (di K) (by rfl) b_ gb (af (qv 9) aq)) ai (aX _)) (av (bh (bR vH hr (af (qv 9) aq)))) bw))) bw)
  (ak (b9 (aR dP (qv 4) ai (aX _)) (av (bh (gv (af bB (af (aJ (dB K) (qv 6) ai) (af (qv 7) aq)))))) bw)
  (ak (b9 (aR dP (qv 4) ai (aX _)) (av (bh (gv (af bB (af (aJ (dB K) (qv 6) ai) aq))))) bw)
  (ak (b9 (jF (bW.pt (rE (aR dP (qv 4) ai (aX _)) (s_ (aR jT (qv 8) ai (aX _)))))) (av (bh (gv (af bB (af (qv 7) (af (aG cI ai (bR aW hr (af (qv 0) (af (qv 1) (af ai (af (bF (yu rfl) (by rfl) ve Ol (af (aG kW (qv 8) ai) (af (aG mz ai ai) aq))) aq)))))) aq)))))) bw)
  (ak (b9 (jF (bW.pt (rE (aR dP (qv 4) ai (aX _)) (rE (aR jT (aJ (dB K) (qv 6) ai) ai (aX _)) (s_ (aR qC (bF (di K) (by rfl) b_ gb (af (dZ (dz hr) (qv 2) bB) aq)) (bF (di K) (by rfl) b_ gb (af (qv 3) aq)) (aX _))))))) (ak (aT (i:=10) fF.nd (aG cI ai (bR aW hr (af (qv 0) (af (qv 1) (af ai (af (bF (yu rfl) (by rfl) ve Ol (af (aG kW (aJ (dB K) (qv 6) ai) ai) (af (aG mz ai ai) aq))) aq)))))))
  (av (bh (gv (af bB (af (aJ (dB K) (qv 6) ai) (af (aJ (cZ K) (qv 3) (bF (di K) (by rfl) b_ gb (af (dZ (dz hr) (qv 2) bB) aq))) (af (qv 10) (af (bR aW hr (af (qv 0) (af (qv 1) (af ai (af (aG cI (aJ (dB K) (qv 6) ai) ai) aq))))) aq))))))))) bw)
  (ak (b9 (aR dP (qv 4) ai (aX _)) (av (bh (gv (af bB (af (aJ (dB K) (qv 6) ai) (af (aG cI ai (bR aW hr (af (qv 0) (af (qv 1) (af ai (af (bF (yu rfl) (by rfl) ve Ol (af (aJ (dB K) (qv 6) ai) (af (aG mz ai ai) aq))) aq)))))) aq)))))) bw)
  (av (bh (gv (af bB (af (aJ (dB K) (qv 6) ai) (af (bR ku hr (af (qv 0) (af (qv 1) (af ai aq)))) aq))))))))))))))))),?_⟩
 obtain ⟨kvs,lo,lp,lk,us,om,vo,vp,vk,oo,op,rw',ok⟩:=hq
 have ll:=rw'.len
 have hpl:=g.pl
 have fY:=wf.jV
 have afA:=g.ol
 refine ⟨_,Z,m,_,Z,vp▸ee.k (k:=Sum.inr "parts") om,?_⟩
 refine ⟨_,Z,_,Z,_,Z,_,Z,_,us,Z, .inl op,cQ hS h63 hk0 (by decide) (by decide) (by omega) fun d _ d0 d1=>?_⟩
 obtain ⟨j,rfl⟩:∃j:Nat,d=(j:Int):=⟨d.toNat,by omega⟩
 have hj:j<st.aj.length:=by omega
 have ep:=bu hj
 have dR:=yq hj
 generalize st.aj[j]=p at *
 obtain ⟨ap,xs,ea,AB,x0,x1,x2,x3⟩:=rw'.at_ j p ep
 refine ⟨lp,_,_,_,Z,Z,op,ay ea,?_⟩
 refine ⟨_,Z,m,_,Z,vo▸ee.k (k:=Sum.inr "owners") om,_,Z,_,Z,_,Z,m,_,Z,vo▸ee.k (k:=Sum.inr "owners") om,lo,_,Z, .inl oo,cQ hS h63 hk0 (by decide) (by decide) (by rw [aE];omega) fun wd _ w0 w1=>?_⟩
 rw [aE] at w1
 obtain ⟨jo,o,ejo,eo,eat⟩:=Jd (l:=st.own) (d:=wd) w0 w1
 refine ⟨lo,_,_,_,Z,Z,oo,eat,?_⟩
 have how:=bX eo
 have wol:wl o<=20:=p7 (g.on o how)
 have Sh:wl p.nm<=20:=p7 (g.nk _ (wf.sub p dR))
 have hw0:=wf.jO p dR
 have eg:bK st p.nm=p:=dM wf dR rfl
 have hin:p.nm∈eT st:=z_ ep
 refine ⟨_,Z,lp,Z,⟨_,op⟩,fun l0 rL=>?_⟩
 refine jD (J:=x_ K lp) (n:=us.length) 0 (fun i o H'=>aP H H'/\o=((st.aj.take i).map (fun p:Pt=>p.wo)).map V.int) (by omega) ⟨aD rL _,Z⟩ (fun i o H' hi _ hp=>⟨_,_,hp.1.seq op,bu hi⟩) (fun o H' _ hp=>⟨_,hp.1.seq op,aK _⟩) ?_ ?_
 . rintro i y o H2 H3 hi fY ha ⟨g,e⟩ ⟨rfl,hy⟩
   have hiw:i<st.aj.length:=by omega
   have ei:=bu hiw
   obtain ⟨ar,xs,ea,AB,_,_,x2,_⟩:=rw'.at_ i _ ei
   have ey:=hy _ (g.seq op)
   rw [ea] at ey
   cases ey
   refine ⟨_,Z,(g.sq AB).ix (i:=2) x2 ?_⟩
   refine ⟨ha,g.cN rL _,?_⟩
   subst e
   rw [take_snoc ei,bM,bM]
   rfl
 rintro o1 H1 _ ha ⟨g1,e⟩
 rw [ll,cK] at e
 subst e
 refine ⟨l0,st.aj.map (fun p:Pt=>p.wo),Z,aH.of ha,?_⟩
 show sQ 8 (.int (aS st)) _ _ _
 have ret:∀(t:Addr) (d:Dd) (H2:Hp),aP H H2->H2 t=none->Ab nms st d->Q (.ref t) (upd H2 t (.tup (Dd.v d))):=fun t d H2 g2 ht hd=>q t d _ (g2.trans (aD ht _)) ah hd
 have keep:∀d:Dd,k_ st d=none->yU d->d.pl=true->Ab nms st d:=fun d h1 h2 h3=>⟨h1,h2,nx.keep (RU (Dd.Uu h3).1 (Dd.Uu h3).2.1),(Dd.Uu h3).2.2⟩
 refine ⟨fun σ' H'=>aP H H'/\∃s9,σ'=[some (.ref a),some (.int k),some (.ref m),some (.ref ln),some (.int way),some (.ref lp),some (.ref ap),some (.str o),some (.int (aS st)),s9,none],?_,?_⟩
 . refine ⟨_,Z,_,_,Z,Z,_,Z,aM (fun _=>?_) (fun _=>⟨g1,_,Z⟩)⟩
   have hw1:∀w∈yh st,1<=w.2:=fun w hw=>by obtain ⟨p,hp,rfl⟩:=bJ.mp hw;exact (wf.jO p hp).1
   have nwN:((yh st).map (fun r:Row=>r.1)).Nodup:=by unfold yh;rw [c6];exact wf.dw
   have nwL:(yh st).length=st.aj.length:=by unfold yh;rw [aE]
   refine ⟨_,Z,_,Z,_,Z,⟨⟨a,lp,ns,k,us,yh st,Z,g1.seq hS,h63,hk0,hk1,g1.seq op,(rw'.mono g1).nw,nwN,by omega,hw1,fun z zs rs H2 g2 hz0 hz1 hR hro=>?_⟩⟩⟩
   have zl:=hR.length
   refine ⟨_,Z,z,zs,Z, .inl (aH.of hz1),_,_,Z,Z,_,Z,aM (fun c=>?_) (fun c=>⟨g1.trans g2,_,Z⟩)⟩
   have c':(0:Int)<(zs.length:Int):=aZ c
   have hne:rs≠[] :=fun e=>by rw [zl,e] at c';simp at c'
   have rl:=hro.len
   have:=nx.pl wf
   refine ⟨_,Z,⟨⟨z,zs,rs,Z,aH.of hz1,hR,by omega,fun t H3 g3 ht=>q t (.cast rs) H3 ((g1.trans g2).trans g3) ht (keep _ (Po wf hro hne) ⟨by omega,fun r hr=>?_⟩ rfl)⟩⟩⟩
   obtain ⟨r1,r2,w,hw,e,_⟩:=hro.row r hr
   obtain ⟨p',gM,rfl⟩:=bJ.mp hw
   have e:p'.nm=r.1:=e
   exact ⟨by rw [<-e];exact p7 (g.nk _ (wf.sub p' gM)),by omega,r2⟩
 rintro σ H2 ⟨g2,s9,rfl⟩
 have vI:=g2.sq AB
 have KC:=g2.seq hS
 have P9:S7 10 9:=⟨by decide,by decide,by decide +kernel⟩
 have p9:(10:Int) ^ (9:Int).toNat=1000000000:=by decide +kernel
 have mn:∀w:Int,0<w->0<(if (10:Int) ^ (9:Int).toNat<w then (10:Int) ^ (9:Int).toNat else w)/\(if (10:Int) ^ (9:Int).toNat<w then (10:Int) ^ (9:Int).toNat else w)<=w/\(if (10:Int) ^ (9:Int).toNat<w then (10:Int) ^ (9:Int).toNat else w)<=1000000000:=fun w h=>by rw [p9];split <;> omega
 refine ⟨_,Z,Z,_,Z,aM (fun _=>?_) (fun _=>?_)⟩
 . exact ⟨_,Z,vI.ix (i:=0) x0 ⟨_,Z,(gD 3),fun t ht=>ret t (.hand p.nm o) H2 g2 ht (keep _ (by show jY st p.nm o=none;unfold jY;rw [aB hin,aB how]) ⟨Sh,wol⟩ rfl)⟩⟩
 refine ⟨_,Z,Z,_,Z,aM (fun _=>?_) (fun _=>?_)⟩
 . exact ⟨_,Z,vI.ix (i:=0) x0 ⟨(gD 2),fun t ht=>ret t (.land p.nm) H2 g2 ht (keep _ (aB hin) Sh rfl)⟩⟩
 by_cases yf:way=10/\1<aS st
 . refine ⟨true,⟨_,Z,Z,_,Z,aM (fun _=>⟨_,Z,_,_,Z,Z,_,Z,a_ yf.2,Z⟩) (fun c=>absurd (a_ (by rw [yf.1])) c)⟩,jU ?_⟩
   obtain ⟨m0,m1,m2⟩:=mn (aS st-1) (by omega)
   refine ⟨_,Z,_,Z,_,Z,_,Z,_,_,Z,Z,_,_,Z,Z,P9,_,_,Z,cQ KC h63 hk0 (by decide) (by decide) m0 fun d _ d0 d1=>⟨_,_,Z,Z,(gD 3),fun t ht=>ret t (.award o (1+d)) H2 g2 ht (keep _ ?_ ⟨wol,by omega,by omega⟩ rfl)⟩⟩
   show jE st o (1+d)=none
   unfold jE
   rw [aB how,aA (by omega),aA (by omega)]
 refine ⟨false,⟨_,Z,Z,_,Z,aM (fun c=>⟨_,Z,_,_,Z,Z,_,Z,cV (fun z=>yf ⟨V.int.inj (aZ c),z⟩),Z⟩) (fun c=>⟨Z,Z⟩)⟩,gr ?_⟩
 have PM:((nms.map V.str).length:Int)=(nms.length:Int):=by rw [aE]
 have PN:((st.nms.map V.str).length:Int)=(st.nms.length:Int):=by rw [aE]
 by_cases h11:way=11/\1<p.wo/\st.nms.length<nms.length
 . refine ⟨true,⟨_,Z,Z,_,Z,aM (fun _=>⟨_,Z,vI.ix (i:=2) x2 ⟨_,_,Z,Z,_,Z,aM (fun _=>⟨_,Z,m,_,Z,vk▸ee.k (k:=Sum.inr "known") (g2 _ _ om),lk,_,Z, .inl (g2.seq ok),_,Z,ln,_,Z, .inl (g2.seq hN),_,_,Z,Z,_,Z,a_ (by rw [PM,PN];omega),Z⟩) (fun c=>absurd (a_ h11.2.1) c)⟩⟩) (fun c=>absurd (a_ (by rw [h11.1])) c)⟩,jU ?_⟩
   obtain ⟨m0,m1,m2⟩:=mn (p.wo-1) (by omega)
   have ey:=bu h11.2.2
   obtain ⟨y1,y2,y3⟩:=nx.next ey
   generalize nms[st.nms.length]=y at *
   have eyv:qV (nms.map V.str) ((st.nms.length:Nat):Int)=some (.str y):=ay (by rw [cg,ey];rfl)
   refine ⟨_,Z,_,Z,_,Z,vI.ix (i:=2) x2 ⟨_,_,Z,Z,_,_,Z,Z,P9,_,_,Z,cQ KC h63 hk0 (by decide) (by decide) m0 fun d _ d0 d1=>⟨_,_,Z,Z,?_⟩⟩⟩
   refine ⟨_,Z,vI.ix (i:=0) x0 ⟨_,Z,_,Z,m,_,Z,vk▸ee.k (k:=Sum.inr "known") (g2 _ _ om),lk,_,Z, .inl (g2.seq ok),ln,_,_,_,Z,Z,g2.seq hN,by rw [aE];exact eyv,_,Z,_,Z,_,Z,_,Z,vI.ix (i:=3) x3 ⟨_,_,Z,Z,cQ KC h63 hk0 (by decide) (by decide) (by omega) fun v _ v0 v1=>⟨(gD 5),fun t ht=>ret t (.sever p.nm y (1+d) v) H2 g2 ht ⟨?_,⟨Sh,p7 y1,⟨by omega,by omega⟩,⟨by omega,?_⟩⟩,y3 _ rfl,by show (8:Nat)≠0;decide⟩⟩⟩⟩⟩
   . show ig st p.nm y (1+d) v=none
     unfold ig
     rw [aB hin,yT y1 y2,eg]
     show (if _ then _ else _)=none
     rw [aA (by omega),aA (by omega)]
   . have:=g.we p dR
     omega
 refine ⟨false,⟨_,Z,Z,_,Z,aM (fun c=>⟨_,Z,vI.ix (i:=2) x2 ⟨_,_,Z,Z,_,Z,aM (fun c2=>⟨_,Z,m,_,Z,vk▸ee.k (k:=Sum.inr "known") (g2 _ _ om),lk,_,Z, .inl (g2.seq ok),_,Z,ln,_,Z, .inl (g2.seq hN),_,_,Z,Z,_,Z,cV (fun z=>h11 ⟨V.int.inj (aZ c),aZ c2,by rw [PM,PN] at z;omega⟩),Z⟩) (fun c=>⟨Z,Z⟩)⟩⟩) (fun c=>⟨Z,Z⟩)⟩,gr ?_⟩
 refine ⟨_,Z,Z,_,Z,aM (fun _=>?_) (fun _=>?_)⟩
 . obtain ⟨m0,m1,m2⟩:=mn p.wo (by omega)
   refine ⟨_,Z,vI.ix (i:=0) x0 ⟨_,Z,_,Z,_,Z,vI.ix (i:=2) x2 ⟨_,_,Z,Z,P9,_,_,Z,cQ KC h63 hk0 (by decide) (by decide) m0 fun d _ d0 d1=>⟨_,_,Z,Z,(gD 3),fun t ht=>ret t (.mishap p.nm (1+d)) H2 g2 ht (keep _ ?_ ⟨Sh,by omega,by omega⟩ rfl)⟩⟩⟩⟩
   show i9 st (p.nm,1+d)=none
   unfold i9
   show (if p.nm∈eT st then (if 1+d<1 then _ else if (bK st p.nm).wo<1+d then _ else _) else _)=none
   rw [aB hin,aA (by omega),eg,aA (by omega)]
 refine ⟨_,Z,vI.ix (i:=0) x0 ⟨_,Z,_,Z,IE KC h63 hk0 (by decide) (by decide) fun w H3 w1 w2 g3=>⟨(gD 3),fun t ht=>ret t (.rise p.nm w) H3 (g2.trans g3) ht (keep _ ?_ ⟨Sh,by omega,by omega⟩ rfl)⟩⟩⟩
 show kN st p.nm w=none
 unfold kN
 rw [aB hin,aA (by omega)]
abbrev uH:Stmt:=top 34
abbrev qT:List Str:=["_law_script","_law_k","_law_model","_law_names_here"]
abbrev L6:List Str:=qT.append ["_law_way","_law_more","_law_owner","_law_worth"]
theorem lG:aO L6 qT (aC uH):=dN
theorem KD (F:At K mg "_law_deed" uH f fd) (aW:Dn P w K mg base 1 "_law_draw" gT (qW K)) (ku:Dn P w K mg base 2 "_law_much" mJ (Cf K)) (nI:Dn P w K mg base 3 "_law_part_deed" j9 (CO K)) (b_:mg "len"=none):Dn P w K mg base 4 "_law_deed" qT (RW K):=by
 refine F.oA lG fun cdv A outer s H vs Q E hr h=>?_
 obtain ⟨⟨a,m,ln,ns,k,nms,c,st,rfl,hS,h63,hk0,hk1,hq,hN,nx,hnl,wf,g,hc,q⟩⟩:=h
 refine ⟨_,(@cT.h _ _ _ (ak (aT (i:=4) lG.nd (bR aW hr (af (qv 0) (af (qv 1) (af ai (af ai aq))))))
  (ak (aT (i:=5) lG.nd (D4 qC (bF (di K) (by rfl) b_ gb (af (dZ (dz hr) (qv 2) bB) aq)) (bF (di K) (by rfl) b_ gb (af (qv 3) aq)) (aX _)))
  (ak (b9 (jF (bW.pt (rE (v8 (qv 5)) (s_ (jF (bW.pt (CI (aR qC (qv 4) ai (aX _)) (yX (aR qC (bF (di K) (by rfl) b_ gb (af (dZ (dz hr) (qv 2) bB) aq)) ai (aX _)))))))))) (ak (aT (i:=6) lG.nd (aJ (cZ K) (dZ (dz hr) (qv 2) bB) (bR aW hr (af (qv 0) (af (qv 1) (af ai (af (bF (di K) (by rfl) b_ gb (af (dZ (dz hr) (qv 2) bB) aq)) aq)))))))
  (ak (aT (i:=7) lG.nd (bR ku hr (af (qv 0) (af (qv 1) (af ai aq)))))
  (av (bh (gv (af bB (af (aJ (cZ K) (qv 3) (bF (di K) (by rfl) b_ gb (af (dZ (dz hr) (qv 2) bB) aq))) (af (qv 6) (af (qv 7) (af (bR aW hr (af (qv 0) (af (qv 1) (af ai (af ai aq))))) aq)))))))))) bw)
  (ak (b9 (aR dP (bF (di K) (by rfl) b_ gb (af (dZ (dz hr) (qv 2) bB) aq)) ai (aX _)) (av (bh (gv (af bB aq)))) bw)
  (av (bh (bR nI hr (af (qv 0) (af (qv 1) (af (qv 2) (af (qv 3) (af (qv 4) aq))))))))))))),?_⟩
 obtain ⟨kvs,lo,lp,lk,us,om,vo,vp,vk,oo,op,rw',ok⟩:=id hq
 have ll:=rw'.len
 have hpl:=g.pl
 have fY:=wf.jV
 have afA:=g.ol
 have PM:((nms.map V.str).length:Int)=(nms.length:Int):=by rw [aE]
 have PN:((st.nms.map V.str).length:Int)=(st.nms.length:Int):=by rw [aE]
 refine ⟨_,Z,_,Z,cQ hS h63 hk0 (by decide) (by decide) (by decide) fun way _ v0 v1=>?_⟩
 refine ⟨_,Z,m,_,Z,vk▸ee.k (k:=Sum.inr "known") om,lk,_,Z, .inl ok,_,Z,ln,_,Z, .inl hN,_,_,Z,Z,?_⟩
 rw [PM,PN]
 have orR:∀b:Bool,b=decide (way<3\/st.aj.length<2)->(tOr (OJ (MP (Aj fun i j=>V.bl (decide (i<j))) (OF 4) (tC (V.int 3)))) (OJ (MP (Aj fun i j=>V.bl (decide (i<j))) (Yw (fun xs H Q=>∃p ys,xs=[V.ref p]/\(aH K H p ys\/bN K H p ys)/\Q (V.int ↑ys.length) H) (HC (Ve (OF 2) (tC (V.str "parts"))) rO)) (tC (V.int 2))))) [some (.ref a),some (.int k),some (.ref m),some (.ref ln),some (.int way),some (.bl (decide ((st.nms.length:Int)<(nms.length:Int)))),none,none] H (fun b' H'=>b'=b/\H'=H):=fun b eb=>by
  refine ⟨_,Z,_,_,Z,Z,_,Z,aM (fun c=>⟨?_,Z⟩) (fun c=>⟨_,Z,m,_,Z,vp▸ee.k (k:=Sum.inr "parts") om,lp,_,Z, .inl op,_,_,Z,Z,_,Z,?_,Z⟩)⟩
  . rw [eb];exact (a_ (.inl (aZ c))).symm
  . have c':¬ way<3:=tG (pT.mpr c)
    rw [eb]
    by_cases h2:st.aj.length<2
    . rw [a_ (.inr h2:way<3\/st.aj.length<2)];exact a_ (by omega)
    . rw [cV (fun z=>z.elim c' h2:¬ (way<3\/st.aj.length<2))];exact cV (by omega)
 by_cases hL:st.nms.length<nms.length/\(way<3\/st.aj.length<2)
 . refine ⟨true,⟨_,Z,_,Z,aM (fun _=>⟨true,orR true (a_ hL.2).symm,Z,Z⟩) (fun c=>absurd (a_ (by omega)) c)⟩,jU ?_⟩
   have ey:=bu hL.1
   obtain ⟨y1,y2,y3⟩:=nx.next ey
   generalize nms[st.nms.length]=y at *
   have eyv:qV (nms.map V.str) ((st.nms.length:Nat):Int)=some (.str y):=ay (by rw [cg,ey];rfl)
   refine ⟨_,Z,m,_,Z,vo▸ee.k (k:=Sum.inr "owners") om,_,Z,_,Z,_,Z,m,_,Z,vo▸ee.k (k:=Sum.inr "owners") om,lo,_,Z, .inl oo,cQ hS h63 hk0 (by decide) (by decide) (by rw [aE];omega) fun wd _ w0 w1=>?_⟩
   rw [aE] at w1
   obtain ⟨jo,o,ejo,eo,eat⟩:=Jd (l:=st.own) (d:=wd) w0 w1
   have how:=bX eo
   refine ⟨lo,_,_,_,Z,Z,oo,eat,?_⟩
   refine ⟨_,Z,_,Z,IE hS h63 hk0 (by decide) (by decide) fun w H1 w1 w2 g1=>?_⟩
   refine ⟨_,Z,_,Z,m,_,Z,vk▸ee.k (k:=Sum.inr "known") (g1 _ _ om),lk,_,Z, .inl (g1.seq ok),ln,_,_,_,Z,Z,g1.seq hN,by rw [aE];exact eyv,_,Z,_,Z,_,Z,_,Z,cQ (g1.seq hS) h63 hk0 (by decide) (by decide) (by decide) fun v _ v0 v1=>⟨(gD 5),fun t ht=>q t (.load y o w v) _ (g1.trans (aD ht _)) ah ⟨Ph y1 y2 how w1 v0,⟨p7 y1,p7 (g.on o how),⟨by omega,by omega⟩,⟨by omega,by omega⟩⟩,y3 _ rfl,by show (1:Nat)≠0;decide⟩⟩⟩
 refine ⟨false,⟨_,Z,_,Z,aM (fun c=>⟨false,orR false (cV (fun z=>hL ⟨by have:=aZ c;omega,z⟩)).symm,Z,Z⟩) (fun c=>⟨Z,Z⟩)⟩,gr ?_⟩
 refine ⟨_,Z,m,_,Z,vp▸ee.k (k:=Sum.inr "parts") om,lp,_,Z, .inl op,Z,_,Z,aM (fun c=>?_) (fun cz=>?_)⟩
 . exact ⟨(gD 1),fun t ht=>q t .still _ (aD ht _) ah ⟨Z,True.intro,nx,by show (9:Nat)≠0;decide⟩⟩
 have c':0<st.aj.length:=Nat.pos_of_ne_zero fun z=>cz (a_ (by rw [ll,z];rfl))
 exact ⟨_,Z,_,Z,_,Z,_,Z,_,Z,⟨⟨a,m,ln,ns,k,way,nms,c,st,Z,hS,h63,hk0,hk1,hq,hN,nx,hnl,wf,g,hc,c',q⟩⟩⟩
abbrev xY:Stmt:=top 35
abbrev vf:List Str:=["_law_parts","_law_name_here"]
abbrev Si:List Str:=vf.append ["_law_at_here"]
theorem Di:aO Si vf (aC xY):=dN
theorem PR (F:At K mg "_law_at" xY f fd) (b_:mg "len"=none) (c9:mg "range"=none):Dn P w K mg base 1 "_law_at" vf (Vs K):=by
 refine F.oA Di fun cdv A outer s H vs Q E hr h=>?_
 obtain ⟨⟨l,us,ws,j,r,rfl,hl,hW,nd,hle,ej,q⟩⟩:=h
 refine ⟨_,(@cT.h _ _ _ (ak (fE f_ rfl (nU (by rfl) c9 (af (bF (di K) (by rfl) b_ gb (af (qv 0) aq)) aq)) (aV (i:=2) Di.nd) (av (b9 (aR dP (aJ (dB K) (aJ (cZ K) (qv 0) (qv 2)) ai) (qv 1) (aX _)) (av (bh (qv 2))) bw)))
  (av (bh (Vy Qv ai))))),?_⟩
 have ll:=hW.len
 have hj:j<ws.length:=(dS.mp ej).1
 refine ⟨_,Z,l,_,Z, .inl hl,_,Z,by omega,by omega,?_⟩
 refine nL (lo:=0) (n:=((us.length:Nat):Int).toNat) (fun i σ H'=>H'=H/\i<=j/\∃s2,σ=[some (.ref l),some (.str r.1),s2]) ⟨Z,gj _,_,Z⟩ ?_ ?_
 . rintro i σ H' hi ⟨rfl,hn,s2,rfl⟩
   have e0:(0:Int)+(i:Int)=((i:Nat):Int):=by omega
   rw [e0]
   have hio:i<ws.length:=by omega
   have ei:=bu hio
   obtain ⟨a,xs,ea,AB,x0,_⟩:=hW.at_ i _ ei
   refine ⟨_,Z,_,Z,l,_,_,_,Z,Z,hl,ay ea,AB.ix (i:=0) x0 ?_⟩
   refine ⟨_,Z,Z,_,Z,aM (fun c=>?_) (fun c=>?_)⟩
   . have c':(ws[i]).1=r.1:=V.str.inj (aZ c)
     have:i=j:=by
      have r1:(ws.map (fun r:Row=>r.1))[i]?=some (ws[i]).1:=by rw [cg,ei];rfl
      have r2:(ws.map (fun r:Row=>r.1))[j]?=some r.1:=by rw [cg,ej];rfl
      exact (OB (by rw [aE];exact hio) nd).mp (r1.trans (by rw [c'];exact r2.symm))
     subst this
     exact ⟨_,Z,q⟩
   . refine ⟨Z,?_,_,Z⟩
     rcases Nat.lt_or_ge i j with z|z
     . exact z
     . have:i=j:=by omega
       subst this
       rw [ei] at ej
       cases ej
       exact absurd (a_ rfl) c
 rintro σ H' ⟨rfl,hn,s2,rfl⟩
 omega
abbrev nJ:Stmt:=top 36
abbrev kR:List Str:=["_law_model","_law_part","_law_deed_here"]
abbrev Dj:List Str:=kR
theorem Bp:aO Dj kR (aC nJ):=dN
theorem Bq (F:At K mg "_law_lite_one" nJ f fd):Dn P w K mg base 1 "_law_lite_one" kR (FG K):=by
 refine F.oA Bp fun cdv A outer s H vs Q E hr h=>?_
 obtain ⟨⟨n,ρ,B,st,i,p,a,z,d,rfl,hz,G,hb,ep,ea,hd,hpl,hkl,q⟩⟩:=h
 refine ⟨_,(@cT.h _ _ _ (av (b9 (aR dP (aJ (aQ K) (qv 2) ai) bB (aX _)) (av (mC (aG kW (aJ (cZ K) (qv 1) ai) (aJ (aQ K) (qv 2) ai)) (mD (qv 1) ai set_list))) (av (b9 (aR dP (aJ (aQ K) (qv 2) ai) bB (aX _)) (av (mC (aG cI (aJ (cZ K) (qv 1) ai) (aJ (aQ K) (qv 2) ai)) (mD (qv 1) ai set_list))) (av (b9 (aR dP (aJ (aQ K) (qv 2) ai) bB (aX _)) (av (mC (aJ (aQ K) (qv 2) ai) (mD (qv 1) ai set_list))) (av (b9 (aR dP (aJ (aQ K) (qv 2) ai) bB (aX _)) (av (mC ai (mD (qv 1) ai set_list))) (av (b9 (aR dP (aJ (aQ K) (qv 2) ai) bB (aX _)) (ak (mC (aG kW (aJ (cZ K) (qv 1) ai) (aJ (aQ K) (qv 2) ai)) (mD (qv 1) ai set_list))
  (ak (mC (aG kW (aJ (cZ K) (qv 1) ai) (aJ (aQ K) (qv 2) ai)) (mD (qv 1) ai set_list))
  (ak (cy (jZ m9 m7 m8 dU (dZ (dz hr) (qv 0) bB) (af (ir (af (aJ (aQ K) (qv 2) ai) (af (aJ (cZ K) (qv 1) ai) (af (aJ (aQ K) (qv 2) ai) (af (aJ (aQ K) (qv 2) ai) aq))))) aq)))
  (av (cy (jZ m9 m7 m8 dU (dZ (dz hr) (qv 0) bB) (af (aJ (aQ K) (qv 2) ai) aq))))))) bw))))))))))),?_⟩
 obtain ⟨ha,ca⟩:=hb.pt i _ a (qd ep) ea
 have ha:H a=some (.lst [.str p.nm, .str p.ow, .int p.wo, .int p.we]):=ha
 have gO:bN K H z d.v:=bN.of hz
 have za:z≠a:=fun e=>by rw [e,ha] at hz;cases hz
 cases d with
 | mishap x m=>
   refine ⟨_,Z,z,_,_,_,Z,Z,gO,ay (j:=0) rfl,Z,_,Z,aM (fun _=>?_) (fun c=>absurd (a_ rfl) c)⟩
   refine ⟨_,Z,a,_,_,_,Z,Z,aH.of ha,ay (j:=2) rfl,_,Z,z,_,_,_,Z,Z,gO,ay (j:=2) rfl,_,_,Z,Z,_,Z,a,_,_,2,Z,Z,ha,Z,?_⟩
   exact q _ _ _ (G.wr rfl) (hb.iT G (p.nm,p.ow,p.wo-m,p.we) ea) rfl (Fr.write ca)
 | rise x m=>
   refine ⟨_,Z,z,_,_,_,Z,Z,gO,ay (j:=0) rfl,Z,_,Z,aM (fun c=>absurd (aZ c) (by decide)) (fun c=>?_)⟩
   refine ⟨_,Z,z,_,_,_,Z,Z,gO,ay (j:=0) rfl,Z,_,Z,aM (fun _=>?_) (fun c=>absurd (a_ rfl) c)⟩
   refine ⟨_,Z,a,_,_,_,Z,Z,aH.of ha,ay (j:=2) rfl,_,Z,z,_,_,_,Z,Z,gO,ay (j:=2) rfl,_,_,Z,Z,_,Z,a,_,_,2,Z,Z,ha,Z,?_⟩
   exact q _ _ _ (G.wr rfl) (hb.iT G (p.nm,p.ow,p.wo+m,p.we) ea) rfl (Fr.write ca)
 | hand x o=>
   refine ⟨_,Z,z,_,_,_,Z,Z,gO,ay (j:=0) rfl,Z,_,Z,aM (fun c=>absurd (aZ c) (by decide)) (fun c=>?_)⟩
   refine ⟨_,Z,z,_,_,_,Z,Z,gO,ay (j:=0) rfl,Z,_,Z,aM (fun c=>absurd (aZ c) (by decide)) (fun c=>?_)⟩
   refine ⟨_,Z,z,_,_,_,Z,Z,gO,ay (j:=0) rfl,Z,_,Z,aM (fun _=>?_) (fun c=>absurd (a_ rfl) c)⟩
   refine ⟨_,Z,z,_,_,_,Z,Z,gO,ay (j:=2) rfl,_,Z,a,_,_,1,Z,Z,ha,Z,?_⟩
   exact q _ _ _ (G.wr rfl) (hb.iT G (p.nm,o,p.wo,p.we) ea) rfl (Fr.write ca)
 | land x=>
   refine ⟨_,Z,z,_,_,_,Z,Z,gO,ay (j:=0) rfl,Z,_,Z,aM (fun c=>absurd (aZ c) (by decide)) (fun c=>?_)⟩
   refine ⟨_,Z,z,_,_,_,Z,Z,gO,ay (j:=0) rfl,Z,_,Z,aM (fun c=>absurd (aZ c) (by decide)) (fun c=>?_)⟩
   refine ⟨_,Z,z,_,_,_,Z,Z,gO,ay (j:=0) rfl,Z,_,Z,aM (fun c=>absurd (aZ c) (by decide)) (fun c=>?_)⟩
   refine ⟨_,Z,z,_,_,_,Z,Z,gO,ay (j:=0) rfl,Z,_,Z,aM (fun _=>?_) (fun c=>absurd (a_ rfl) c)⟩
   refine ⟨_,Z,a,_,_,2,Z,Z,ha,Z,?_⟩
   exact q _ _ _ (G.wr rfl) (hb.iT G (p.nm,p.ow,0,p.we) ea) rfl (Fr.write ca)
 | sever x y m we=>
   refine ⟨_,Z,z,_,_,_,Z,Z,gO,ay (j:=0) rfl,Z,_,Z,aM (fun c=>absurd (aZ c) (by decide)) (fun c=>?_)⟩
   refine ⟨_,Z,z,_,_,_,Z,Z,gO,ay (j:=0) rfl,Z,_,Z,aM (fun c=>absurd (aZ c) (by decide)) (fun c=>?_)⟩
   refine ⟨_,Z,z,_,_,_,Z,Z,gO,ay (j:=0) rfl,Z,_,Z,aM (fun c=>absurd (aZ c) (by decide)) (fun c=>?_)⟩
   refine ⟨_,Z,z,_,_,_,Z,Z,gO,ay (j:=0) rfl,Z,_,Z,aM (fun c=>absurd (aZ c) (by decide)) (fun c=>?_)⟩
   refine ⟨_,Z,z,_,_,_,Z,Z,gO,ay (j:=0) rfl,Z,_,Z,aM (fun _=>?_) (fun c=>absurd (a_ rfl) c)⟩
   refine ⟨_,Z,a,_,_,_,Z,Z,aH.of ha,ay (j:=2) rfl,_,Z,z,_,_,_,Z,Z,gO,ay (j:=3) rfl,_,_,Z,Z,_,Z,a,_,_,2,Z,Z,ha,Z,?_⟩
   have h1:=hb.iT G (p.nm,p.ow,p.wo-m,p.we) ea
   have G1:=G.wr (a:=a) (o:= .lst (iu (p.nm,p.ow,p.wo-m,p.we))) rfl
   have F1:Fr n ρ H ρ (upd H a (.lst (iu (p.nm,p.ow,p.wo-m,p.we)))):=Fr.write ca
   have z1:upd H a (.lst (iu (p.nm,p.ow,p.wo-m,p.we))) z=some (.tup (Dd.v (.sever x y m we))):=by rw [az za];exact hz
   have a1:upd H a (.lst (iu (p.nm,p.ow,p.wo-m,p.we))) a=some (.lst (iu (p.nm,p.ow,p.wo-m,p.we))):=ah
   have n1:∀b,upd H a (.lst (iu (p.nm,p.ow,p.wo-m,p.we))) b=none->H b=none:=fun b=>jr
   show tM _ _ _ _ (upd H a (.lst (iu (p.nm,p.ow,p.wo-m,p.we))))
   generalize upd H a (.lst (iu (p.nm,p.ow,p.wo-m,p.we)))=H1 at *
   refine ⟨_,Z,a,_,_,_,Z,Z,aH.of a1,ay (j:=3) rfl,_,Z,z,_,_,_,Z,Z,bN.of z1,ay (j:=4) rfl,_,_,Z,Z,_,Z,a,_,_,3,Z,Z,a1,Z,?_⟩
   have h2:bL n ρ B (upd H1 a (.lst (iu (p.nm,p.ow,p.wo-m,p.we-we)))) { dO st with aj:=(bz st).set i (p.nm,p.ow,p.wo-m,p.we-we) }:=by
    have:=h1.iT G1 (p.nm,p.ow,p.wo-m,p.we-we) ea
    have e:((bz st).set i (p.nm,p.ow,p.wo-m,p.we)).set i (p.nm,p.ow,p.wo-m,p.we-we)=(bz st).set i (p.nm,p.ow,p.wo-m,p.we-we):=uN ..
    rw [<-e];exact this
   have G2:=G1.wr (a:=a) (o:= .lst (iu (p.nm,p.ow,p.wo-m,p.we-we))) rfl
   have F2:=F1.trans (Fr.write (o:= .lst (iu (p.nm,p.ow,p.wo-m,p.we-we))) ca)
   have z2:upd H1 a (.lst (iu (p.nm,p.ow,p.wo-m,p.we-we))) z=some (.tup (Dd.v (.sever x y m we))):=by rw [az za];exact z1
   have a2:upd H1 a (.lst (iu (p.nm,p.ow,p.wo-m,p.we-we))) a=some (.lst (iu (p.nm,p.ow,p.wo-m,p.we-we))):=ah
   have n2:∀b,upd H1 a (.lst (iu (p.nm,p.ow,p.wo-m,p.we-we))) b=none->H b=none:=fun b h=>n1 b (jr h)
   show tM _ _ _ _ (upd H1 a (.lst (iu (p.nm,p.ow,p.wo-m,p.we-we))))
   generalize upd H1 a (.lst (iu (p.nm,p.ow,p.wo-m,p.we-we)))=H2 at *
   refine ⟨_,Z,B.m,_,Z,ee.k (k:=Sum.inr "parts") h2.om, .inl ⟨Z,_,aH.of h2.op⟩,_,Z,z,_,_,_,Z,Z,bN.of z2,ay (j:=2) rfl,_,Z,a,_,_,_,Z,Z,aH.of a2,ay (j:=1) rfl,_,Z,z,_,_,_,Z,Z,bN.of z2,ay (j:=3) rfl,_,Z,z,_,_,_,Z,Z,bN.of z2,ay (j:=4) rfl,(gD 4),fun t ht=>?_⟩
   have g3:=aD ht (.lst (iu (y,p.ow,m,we)))
   have t3:upd H2 t (.lst (iu (y,p.ow,m,we))) t=some (.lst (iu (y,p.ow,m,we))):=ah
   show rO _ (upd H2 t (.lst (iu (y,p.ow,m,we)))) _
   generalize upd H2 t (.lst (iu (y,p.ow,m,we)))=H3 at *
   have tn:H t=none:=n2 t ht
   have ct:ρ t=none:=G2.none ht
   have h3:=(h2.mono g3).col (t:=44) (x:=nx) ct
   have G3:Gh (cR ρ t (n,44,nx)) H3:=(G2.same g3).color t3 rfl
   have F3:Fr n ρ H (cR ρ t (n,44,nx)) H3:=(F2.trans (Fr.of_same (ρ:=ρ) g3)).nu tn
   have tq:t∉B.qs:=fun mem=>by
    obtain ⟨j,hj,ej⟩:=wK mem
    have hj2:j<((bz st).set i (p.nm,p.ow,p.wo-m,p.we-we)).length:=by rw [iw,<-show B.qs.length=(bz st).length from hb.ql];exact hj
    have:=(h2.pt j _ t (bu hj2) (by rw [bu hj,ej])).1
    rw [ht] at this;cases this
   have ql:(bz st).length=st.aj.length:=by unfold bz;rw [aE]
   have lq:(B.qs.map V.ref).length<1000:=by rw [aE,hb.ql];show (bz st).length<1000;rw [ql];exact hpl
   refine ⟨B.lp,_,_,Z,Z,h3.op,dh (by omega),?_⟩
   rw [show B.qs.map V.ref++[V.ref t]=(B.qs++[t]).map V.ref from by rw [bM];rfl]
   have h4:=h3.RT G3 (q:=(y,p.ow,m,we)) t3 dH tq
   have G4:=G3.wr (a:=B.lp) (o:= .lst ((B.qs++[t]).map V.ref)) rfl
   have F4:=F3.trans (Fr.write (o:= .lst ((B.qs++[t]).map V.ref)) h3.cp)
   have nz:z≠B.lp:=fun e=>by have:=h3.op;rw [<-e,g3 _ _ z2] at this;cases this
   have z4:upd H3 B.lp (.lst ((B.qs++[t]).map V.ref)) z=some (.tup (Dd.v (.sever x y m we))):=by rw [az nz];exact g3 _ _ z2
   generalize upd H3 B.lp (.lst ((B.qs++[t]).map V.ref))=H4 at *
   refine ⟨_,Z,B.m,_,Z,ee.k (k:=Sum.inr "known") h4.om, .inl ⟨Z,_,aH.of h4.ok⟩,_,Z,z,_,_,_,Z,Z,bN.of z4,ay (j:=2) rfl,B.lk,_,_,Z,Z,h4.ok,by rw [aE];exact dh (by show st.nms.length<=1000;omega),?_⟩
   rw [show List.map V.str (dO st).CN++[V.str y]=(st.nms++[y]).map V.str from by rw [bM];rfl]
   exact q _ _ _ (G4.wr rfl) (h4.NO G4 (st.nms++[y])) rfl (F4.trans (Fr.write h4.ck))
 | _=>exact absurd hd (by simp [Dd.part])
abbrev pF:Stmt:=top 37
abbrev lR:List Str:=["_law_model","_law_deed_here"]
abbrev Er:List Str:=lR.append ["_law_parts","_law_k","_law_part"]
theorem kT:aO Er lR (aC pF):=dN
theorem Dk (F:At K mg "_law_lite_do" pF f fd) (vg:Dn P w K mg base 1 "_law_at" vf (Vs K)) (pG:Dn P w K mg base 1 "_law_lite_one" kR (FG K)) (b_:mg "len"=none) (c9:mg "range"=none):Dn P w K mg base 2 "_law_lite_do" lR (JJ K):=by
 refine F.oA kT fun cdv A outer s H vs Q E hr h=>?_
 obtain ⟨⟨n,c,ρ,B,st,z,d,rfl,hz,G,hb,wf,g,hc,hr0,hk,q⟩⟩:=h
 refine ⟨_,(@cT.h _ _ _ (ak (aT (i:=2) kT.nd (dZ (dz hr) (qv 0) bB))
  (ak (jG (aR dP (aJ (aQ K) (qv 1) ai) bB (aX _)) (ak (cy (jZ m9 m7 m8 dU (qv 2) (af (ir (af (aJ (aQ K) (qv 1) ai) (af (aJ (aQ K) (qv 1) ai) (af (aJ (aQ K) (qv 1) ai) (af (aJ (aQ K) (qv 1) ai) aq))))) aq)))
  (av (cy (jZ m9 m7 m8 dU (dZ (dz hr) (qv 0) bB) (af (aJ (aQ K) (qv 1) ai) aq))))) (av (b9 (aR dP (aJ (aQ K) (qv 1) ai) bB (aX _)) (av (fE f_ rfl (Fw (by rfl) c9 (af ai (af (bF (di K) (by rfl) b_ gb (af (qv 1) aq)) (af ai aq)))) (aV (i:=3) kT.nd) (ak (aT (i:=4) kT.nd (aJ (cZ K) (qv 2) (bR vg hr (af (qv 2) (af (aJ (aQ K) (qv 1) (qv 3)) aq)))))
  (av (mC (aG kW (aJ (cZ K) (qv 4) ai) (aJ (aQ K) (qv 1) (aG cI (qv 3) ai))) (mD (qv 4) ai set_list)))))) (av (b9 (aR Ij (aJ (aQ K) (qv 1) ai) (gv (af bB (af bB aq))) (by with_unfolding_all rfl)) (av (cy (bR pG hr (af (qv 0) (af (aJ (cZ K) (qv 2) (bR vg hr (af (qv 2) (af (aJ (aQ K) (qv 1) ai) aq)))) (af (qv 1) aq)))))) bw)))))
  (av (tD (dz hr) (qv 0) bB (Js ["_law_part"] [none] rfl (d8 K (dZ (dz hr) (qv 0) bB)) (fun _ _ _ _=>(aV (i:=0) (show List.Nodup (["_law_part"] :List Str) from by decide +kernel))) (fun _ _ _ _=>(qv 0)) (fun _ _ _ _=>(aR jT (aJ (cZ K) (qv 0) ai) ai (aX _))) rfl (by rfl)) rfl))))),?_⟩
 have gO:bN K H z d.v:=bN.of hz
 have hpl:=g.pl
 have hkl:=g.kl
 refine ⟨_,Z,B.m,_,Z,ee.k (k:=Sum.inr "parts") hb.om,?_⟩
 refine ⟨fun σ' H'=>∃ρ5 B5 l5 s2 s3 s4,σ'=[some (.ref B.m),some (.ref z),s2,s3,s4]/\Gh ρ5 H'/\bL n ρ5 B5 H' l5/\l5.aj.length<=1000/\Pp l5=dO (g_ st d)/\B5.m=B.m/\Fr n ρ H ρ5 H',?_,?_⟩
 . have ql:(bz st).length=st.aj.length:=by unfold bz;rw [aE]
   have bql:B.qs.length=st.aj.length:=by rw [<-ql];exact hb.ql
   have ndQ:((bz st).map fun q:Q4=>q.1).Nodup:=by rw [Pr];exact wf.dw
   have lq:(B.qs.map V.ref).length<1000:=by rw [aE];omega
   by_cases hp:d.part=none
   rotate_left
   ·
    obtain ⟨x,hx⟩:=Option.ne_none_iff_exists'.mp hp
    obtain ⟨e1,k1,k2,k3,k9⟩:=Dd.Z0 hx
    obtain ⟨j,p,ep,en⟩:=j6 (Xk hx hr0)
    subst en
    refine ⟨_,Z,z,_,_,_,Z,Z,gO,ay d.v0,Z,_,Z,aM (fun c=>absurd (V.str.inj (aZ c)) (d.Pk k1 (by decide))) (fun _=>?_)⟩
    refine ⟨_,Z,z,_,_,_,Z,Z,gO,ay d.v0,Z,_,Z,aM (fun c=>absurd (V.str.inj (aZ c)) (d.Pk k2 (by decide))) (fun _=>?_)⟩
    have hin:(!EV (.str d.w) ((["award","still"] :List Str).map V.str))=true:=by rw [Ub,cV (fun m=>by rcases bP.mp m with w|w;exact d.Pk k3 (by decide) w;exact d.Pk k9 (by decide) (fV.mp w))];rfl
    refine ⟨_,Z,z,_,_,_,Z,Z,gO,ay d.v0,(gD 2),fun t ht=>⟨t,_,Z, .inr (bN.of ah),Z,yK ["award","still"],_,Z,aM (fun _=>?_) (fun c=>absurd hin c)⟩⟩
    have g1:=aD ht (.tup [.str "award", .str "still"])
    have G1:=G.same g1
    have h1:=hb.mono g1
    have z1:=g1 _ _ hz
    generalize upd H t (.tup [.str "award", .str "still"])=H1 at *
    have jB:j<B.qs.length:=by rw [bql];exact (dS.mp ep).1
    have ea:=bu jB
    generalize B.qs[j]=a at *
    refine ⟨_,Z,_,Z,_,Z,_,Z,z,_,_,_,Z,Z,bN.of z1,ay e1,⟨⟨B.lp,_,zb (bz st),j,(p.nm,p.wo),Z,aH.of h1.op,h1.nw,by rw [FH];exact ndQ,by unfold zb;rw [aE];omega,by unfold zb;rw [cg,qd ep];rfl,?_⟩⟩⟩
    refine ⟨B.lp,_,_,_,Z,Z,aH.of h1.op,ay (by rw [cg,ea];rfl),_,Z,⟨⟨n,ρ,B,st,j,p,a,z,d,Z,z1,G1,h1,ep,ea,hx,by omega,by omega,fun ρ' B' H' G' h' em F'=>?_⟩⟩⟩
    exact ⟨ρ',B',_,_,_,_,Z,G',h',fT (UA _ _ _ _) (by show (bz st).length+1<=1000;omega),Uw wf hr0 ep hx,em,(Fr.of_same g1).trans F'⟩
   cases d with
   | load x o wo we=>
     refine ⟨_,Z,z,_,_,_,Z,Z,gO,ay (j:=0) rfl,Z,_,Z,aM (fun _=>?_) (fun c=>absurd (a_ rfl) c)⟩
     refine ⟨_,Z, .inl ⟨Z,_,aH.of hb.op⟩,_,Z,z,_,_,_,Z,Z,gO,ay (j:=1) rfl,_,Z,z,_,_,_,Z,Z,gO,ay (j:=2) rfl,_,Z,z,_,_,_,Z,Z,gO,ay (j:=3) rfl,_,Z,z,_,_,_,Z,Z,gO,ay (j:=4) rfl,(gD 4),fun t ht=>?_⟩
     have g3:=aD ht (.lst (iu (x,o,wo,we)))
     have t3:upd H t (.lst (iu (x,o,wo,we))) t=some (.lst (iu (x,o,wo,we))):=ah
     show rO _ (upd H t (.lst (iu (x,o,wo,we)))) _
     generalize upd H t (.lst (iu (x,o,wo,we)))=H3 at *
     have ct:ρ t=none:=G.none ht
     have h3:=(hb.mono g3).col (t:=44) (x:=nx) ct
     have G3:Gh (cR ρ t (n,44,nx)) H3:=(G.same g3).color t3 rfl
     have F3:Fr n ρ H (cR ρ t (n,44,nx)) H3:=(Fr.of_same (ρ:=ρ) g3).nu ht
     have tq:t∉B.qs:=fun mem=>by
      obtain ⟨j,hj,ej⟩:=wK mem
      have hj2:j<(bz st).length:=by omega
      have:=(hb.pt j _ t (bu hj2) (by rw [bu hj,ej])).1
      rw [ht] at this;cases this
     refine ⟨B.lp,_,_,Z,Z,h3.op,dh (by omega),?_⟩
     rw [show B.qs.map V.ref++[V.ref t]=(B.qs++[t]).map V.ref from by rw [bM];rfl]
     have h4:=h3.RT G3 (q:=(x,o,wo,we)) t3 dH tq
     have G4:=G3.wr (a:=B.lp) (o:= .lst ((B.qs++[t]).map V.ref)) rfl
     have F4:=F3.trans (Fr.write (o:= .lst ((B.qs++[t]).map V.ref)) h3.cp)
     have nz:z≠B.lp:=fun e=>by have:=h3.op;rw [<-e,g3 _ _ hz] at this;cases this
     have z4:upd H3 B.lp (.lst ((B.qs++[t]).map V.ref)) z=some (.tup (Dd.v (.load x o wo we))):=by rw [az nz];exact g3 _ _ hz
     generalize upd H3 B.lp (.lst ((B.qs++[t]).map V.ref))=H4 at *
     refine ⟨_,Z,B.m,_,Z,ee.k (k:=Sum.inr "known") h4.om, .inl ⟨Z,_,aH.of h4.ok⟩,_,Z,z,_,_,_,Z,Z,bN.of z4,ay (j:=1) rfl,B.lk,_,_,Z,Z,h4.ok,by rw [aE];exact dh (by show st.nms.length<=1000;omega),?_⟩
     rw [show List.map V.str (dO st).CN++[V.str x]=(st.nms++[x]).map V.str from by rw [bM];rfl]
     exact ⟨_,_,_,_,_,_,Z,G4.wr rfl,h4.NO G4 (st.nms++[x]),by show (bz st++[_]).length<=1000;rw [dg];show (bz st).length+1<=1000;omega,xO (d:= .load x o wo we) wf hr0 rfl hk,Z,F4.trans (Fr.write h4.ck)⟩
   | cast rs=>
     refine ⟨_,Z,z,_,_,_,Z,Z,gO,ay (j:=0) rfl,Z,_,Z,aM (fun c=>absurd (aZ c) (by decide)) (fun c=>?_)⟩
     refine ⟨_,Z,z,_,_,_,Z,Z,gO,ay (j:=0) rfl,Z,_,Z,aM (fun _=>?_) (fun c=>absurd (a_ rfl) c)⟩
     obtain ⟨_,VM,vF,_⟩:=u7 hr0
     have hrl:rs.length<=st.aj.length:=by
      have:=tS (l:=rs.map fun r:Row=>r.1) (m:=eT st) VM (fun x hx=>by obtain ⟨r,hr,rfl⟩:=bJ.mp hx;exact (ju (vF r hr)).1)
      rwa [aE,show (eT st).length=st.aj.length by unfold eT;rw [aE]] at this
     refine ⟨_,Z,z,_,Z, .inr gO,_,_,_,Z,⟨by decide,by decide,by omega,by rw [xP];omega,by decide,by decide⟩,?_⟩
     rw [xP,RZ]
     refine O3 (lo:=1) (st:=2) (n:=rs.length) (fun i σ H'=>∃s3 s4,σ=[some (.ref B.m),some (.ref z),some (.ref B.lp),s3,s4]/\Gh ρ H'/\bL n ρ B H' { dO st with aj:=lg (rs.take i) (bz st) }/\Fr n ρ H ρ H'/\H' z=some (.tup (Dd.v (.cast rs)))) ⟨_,_,Z,G,by rw [List.take_zero,Uz];exact hb,Fr.refl,hz⟩ ?_ ?_
     . rintro i σ H' hi ⟨s3,s4,rfl,G',h',F',z'⟩
       have ei:=bu hi
       generalize rs[i]=r at *
       obtain ⟨c1,c2⟩:=NQ ei
       obtain ⟨j,p,ep,en⟩:=j6 (ju (vF r (bX ei))).1
       have jB:j<B.qs.length:=by rw [bql];exact (dS.mp ep).1
       have ea:=bu jB
       generalize B.qs[j]=a at *
       have hn:r.1∉(rs.take i).map (fun r:Row=>r.1):=by
        rw [List.map_take]
        exact p5 VM (by rw [cg,ei];rfl)
       obtain ⟨m1,m2⟩:=R0 (rs:=rs.take i) (r:=r) ndQ (qd ep) en hn
       obtain ⟨ha,ca⟩:=h'.pt j _ a m2 ea
       have ha:H' a=some (.lst [.str p.nm, .str p.ow, .int p.wo, .int p.we]):=ha
       have e1:(1:Int)+(i:Int)*2=((1+2*i:Nat):Int):=by omega
       have e2:((1+2*i:Nat):Int)+1=((2+2*i:Nat):Int):=by omega
       rw [e1]
       refine ⟨_,Z,_,Z,_,Z,_,Z,z,_,_,_,Z,Z,bN.of z',ay c1,⟨⟨B.lp,_,zb (lg (rs.take i) (bz st)),j,(r.1,p.wo),Z,aH.of h'.op,h'.nw,by rw [FH,Pq];exact ndQ,by unfold zb;rw [aE,JL];omega,by unfold zb;rw [cg,m2,<-en];rfl,?_⟩⟩⟩
       refine ⟨B.lp,_,_,_,Z,Z,aH.of h'.op,ay (by rw [cg,ea];rfl),?_⟩
       refine ⟨_,Z,a,_,_,_,Z,Z,aH.of ha,ay (j:=2) rfl,_,Z,_,Z,_,_,Z,Z,z,_,_,_,Z,Z,bN.of z',by rw [e2];exact ay c2,_,_,Z,Z,_,Z,a,_,_,2,Z,Z,ha,Z,?_⟩
       have za:z≠a:=fun e=>by rw [e,ha] at z';cases z'
       refine ⟨_,_,Z,G'.wr rfl,?_,F'.trans (Fr.write ca),by rw [az za];exact z'⟩
       rw [take_snoc ei,m1]
       exact h'.iT G' (p.nm,p.ow,p.wo-r.2,p.we) ea
     rintro σ H' ⟨s3,s4,rfl,G',h',F',z'⟩
     rw [cK] at h'
     exact ⟨ρ,B,_,_,_,_,Z,G',h',by show (lg rs (bz st)).length<=1000;rw [JL];omega,xO (d:= .cast rs) wf hr0 rfl hk,Z,F'⟩
   | award o a=>
     refine ⟨_,Z,z,_,_,_,Z,Z,gO,ay (j:=0) rfl,Z,_,Z,aM (fun c=>absurd (aZ c) (by decide)) (fun c=>?_)⟩
     refine ⟨_,Z,z,_,_,_,Z,Z,gO,ay (j:=0) rfl,Z,_,Z,aM (fun c=>absurd (aZ c) (by decide)) (fun c=>?_)⟩
     exact ⟨_,Z,z,_,_,_,Z,Z,gO,ay (j:=0) rfl,(gD 2),fun t ht=>⟨t,_,Z, .inr (bN.of ah),Z,yK ["award","still"],_,Z,aM (fun c=>absurd c (by decide +kernel)) (fun _=>⟨ρ,B,dO st,_,_,_,Z,G.same (aD ht _),hb.mono (aD ht _),by show (bz st).length<=1000;omega,xO (d:= .award o a) wf hr0 rfl hk,Z,Fr.of_same (aD ht _)⟩)⟩⟩
   | still=>
     refine ⟨_,Z,z,_,_,_,Z,Z,gO,ay (j:=0) rfl,Z,_,Z,aM (fun c=>absurd (aZ c) (by decide)) (fun c=>?_)⟩
     refine ⟨_,Z,z,_,_,_,Z,Z,gO,ay (j:=0) rfl,Z,_,Z,aM (fun c=>absurd (aZ c) (by decide)) (fun c=>?_)⟩
     exact ⟨_,Z,z,_,_,_,Z,Z,gO,ay (j:=0) rfl,(gD 2),fun t ht=>⟨t,_,Z, .inr (bN.of ah),Z,yK ["award","still"],_,Z,aM (fun c=>absurd c (by decide +kernel)) (fun _=>⟨ρ,B,dO st,_,_,_,Z,G.same (aD ht _),hb.mono (aD ht _),by show (bz st).length<=1000;omega,xO (d:= .still) wf hr0 rfl hk,Z,Fr.of_same (aD ht _)⟩)⟩⟩
   | sign o=>exact absurd rfl hk
   | _=>exact absurd hp (by simp [Dd.part])
 rintro σ H5 ⟨ρ5,B5,l5,s2,s3,s4,rfl,G5,h5,pl5,el5,em5,F5⟩
 have VU:=h5.ql
 have qml:(B5.qs.map V.ref).length=l5.aj.length:=by rw [aE];exact VU
 have om6:H5 B.m=some (.dK (ji B5)):=by rw [<-em5];exact h5.om
 refine ⟨_,Z,B.m,_,Z,ee.k (k:=Sum.inr "parts") om6,B5.lp,Z,⟨_,aH.of h5.op⟩,fun lp zH=>?_⟩
 refine WJ (J:=x_ K B5.lp) (n:=l5.aj.length) 0 (fun i o H'=>aP H5 H'/\o=(jH (l5.aj.take i) (B5.qs.take i)).map V.ref) (by omega) ⟨aD zH _,Z⟩ (fun i o H' hi _ hp=>⟨_,_,aH.of (hp.1 _ _ h5.op),bu (by rw [qml];exact hi)⟩) (fun o H' _ hp=>⟨_,aH.of (hp.1 _ _ h5.op),by rw [qml];exact aK _⟩) ?_ ?_
 . rintro i y o H7 H8 hi fY ha ⟨g,e⟩ ⟨rfl,hy⟩
   have ei:=bu hi
   obtain ⟨qq,eq,k1,_⟩:=h5.find ei
   have ey:=hy _ (aH.of (g _ _ h5.op))
   rw [cg,eq] at ey
   cases ey
   have es:=LH ei eq
   refine ⟨_,Z,qq,_,_,_,Z,Z,aH.of (g _ _ k1),ay (j:=2) rfl,_,_,Z,Z,_,Z,aM (fun c=>?_) (fun c=>?_)⟩
   . rw [aB (aZ c)] at es
     refine ⟨_,Z,ha,g.cN zH _,?_⟩
     rw [es,e,bM]
     rfl
   . rw [aA (tG (pT.mpr c))] at es
     exact ⟨ha,g,by rw [es,e,BA]⟩
 rintro o H7 _ ha ⟨g7,e⟩
 rw [cK,<-VU,cK] at e
 subst e
 have h7:=h5.mono g7
 have G7:=G5.same g7
 have clp:ρ5 lp=none:=G5.none zH
 have h8:=h7.col (t:=42) (x:=nx) clp
 have G8:Gh (cR ρ5 lp (n,42,nx)) H7:=G7.color ha rfl
 have F8:Fr n ρ H (cR ρ5 lp (n,42,nx)) H7:=F5.trans (Fr.color zH g7)
 have h9:bL n (cR ρ5 lp (n,42,nx)) { { B5 with lp:=lp } with qs:=jH l5.aj B5.qs } (upd H7 B5.m (.dK (ji { B5 with lp:=lp }))) (Pp l5):=h8.ZY G8 (lp:=lp) (qs:=jH l5.aj B5.qs) (ps:=l5.aj.filter fun p=>decide (0<p.2.2.1)) ha dH (h5.nd.sublist xM) (CP VU) (fun i x y ex ey=>by
  obtain ⟨j,a1,a2⟩:=y_ VU ex ey
  exact h8.pt j x y a1 a2)
 have cm8:=h8.cm
 rw [em5] at h9 cm8
 refine ⟨_,Z,B.m,_,Z,vt.k (k:=Sum.inr "parts") (by rw [<-em5];exact h7.om) (by show 3<sizeLine;decide),?_⟩
 rw [Uy]
 rw [el5] at h9
 exact q _ _ _ (G8.wr rfl) h9 rfl (F8.trans (Fr.write cm8))
abbrev sH:Stmt:=top 38
abbrev pH:List Str:=["_law_script","_law_k","_law_model","_law_names_here","_law_many"]
abbrev KG:List Str:=pH.append ["_law_deeds_here","_law_at_here","_law_deed_here"]
theorem mW:aO KG pH (aC sH):=dN
theorem GA (F:At K mg "_law_deeds" sH f fd) (vJ:Dn P w K mg base 4 "_law_deed" qT (RW K)) (qt:Dn P w K mg base 2 "_law_lite_do" lR (JJ K)) (c9:mg "range"=none):Dn P w K mg base 5 "_law_deeds" pH (NR K):=by
 refine F.oA mW fun cdv A outer s H vs Q E hr h=>?_
 obtain ⟨⟨n,c,m,ρ,B,st,a,ln,ns,k,nms,many,rfl,G,hb,gw,hc,hm,ho,fS,h63,hk0,hk1,fN,nx,hnl,q⟩⟩:=h
 refine ⟨_,(@cT.h _ _ _ (ak (aT (i:=5) mW.nd (ir aq))
  (ak (fE f_ rfl (nU (by rfl) c9 (af (qv 4) aq)) (aV (i:=6) mW.nd) (ak (aT (i:=7) mW.nd (bR vJ hr (af (qv 0) (af (aG cI (qv 1) (qv 6)) (af (qv 2) (af (qv 3) aq))))))
  (ak (cy (bR qt hr (af (qv 2) (af (qv 7) aq))))
  (av (cy (jZ m9 m7 m8 dU (qv 5) (af (qv 7) aq)))))))
  (av (bh (qv 5)))))),?_⟩
 refine ⟨(gD 0),fun l hl=>?_⟩
 have g0:=aD hl (.lst [])
 have rL:upd H l (.lst []) l=some (.lst []):=ah
 show tM _ _ _ _ (upd H l (.lst []))
 have F0:Fr n ρ H ρ (upd H l (.lst [])):=Fr.of_same g0
 have cl0:ρ l=none:=G.none hl
 have G0:=G.same g0
 have hb0:=hb.mono g0
 generalize upd H l (.lst [])=H0 at *
 refine ⟨_,Z,_,Z,by omega,by omega,?_⟩
 refine nL (lo:=0) (n:=((many:Nat):Int).toNat) (fun i σ H'=>∃ρ' B' zs ds s6 s7,σ=[some (.ref a),some (.int k),some (.ref B.m),some (.ref ln),some (.int (many:Int)),some (.ref l),s6,s7]/\Gh ρ' H'/\bL n ρ' B' H' (dO (d9 st ds))/\B'.m=B.m/\Fr n ρ H ρ' H'/\H' l=some (.lst zs)/\ρ' l=none/\kG H' zs ds/\sM st ds/\ds.length=i/\Nx nms (d9 st ds))
  ⟨ρ,B,[],[],_,_,Z,G0,hb0,Z,F0,rL,cl0, .nil,sM.nil st,Z,nx⟩ ?_ ?_
 . rintro i σ H1 hi ⟨ρ1,B1,zs,ds,s6,s7,rfl,G1,h1,em,F1,hl1,VW,hD,hC,hdl,nx1⟩
   have hi:i<many:=by omega
   have e0:(0:Int)+(i:Int)=((i:Nat):Int):=by omega
   rw [e0]
   obtain ⟨Sj,eo⟩:=hC.go gw (by omega) (by omega) ho ds.length (aK _)
   rw [cK] at Sj eo
   have o1:=F1.out
   have VX:=fS _ _ o1
   have hN1:=fN _ _ o1
   refine ⟨_,Z,_,Z,_,Z,_,_,Z,Z,_,Z,_,Z,⟨⟨a,B.m,ln,ns,k+i,nms,c+ds.length,d9 st ds,Z,VX,h63,by omega,by omega,by rw [<-em];exact h1.q,hN1,nx1,hnl,Sj.wf,Sj.g,by omega,fun z d H2 g2 hz hd=>?_⟩⟩⟩
   obtain ⟨d1,d2,d3,d4⟩:=hd
   have G2:=G1.same g2
   refine ⟨_,Z,_,Z,⟨⟨n,c+ds.length,ρ1,B1,d9 st ds,z,d,by rw [em];rfl,hz,G2,h1.mono g2,Sj.wf,Sj.g,by omega,d1,d4,fun ρ3 B3 H3 G3 h3 em3 F3=>?_⟩⟩⟩
   obtain ⟨hl3,cl3⟩:=F3 l _ (g2 _ _ hl1) (fun t x e=>by rw [VW] at e;cases e)
   have tu:∀b xs,H2 b=some (.tup xs)->H3 b=some (.tup xs):=fun b xs e=>(F3 b _ e (fun t x z=>by rw [G2.tup e] at z;cases z)).1
   have zl:=hD.length
   refine ⟨_,Z, .inl ⟨Z,_,aH.of hl3⟩,_,Z,l,_,_,Z,Z,hl3,dh (by omega),?_⟩
   have F13:=(F1.trans (Fr.of_same (ρ:=ρ1) g2)).trans F3
   have tl:∀b xs,H3 b=some (.tup xs)->upd H3 l (.lst (zs++[.ref z])) b=some (.tup xs):=iD (.inr ⟨_,hl3,Z⟩)
   have aaL:ρ3 l=none:=cl3.trans VW
   refine ⟨ρ3,B3,zs++[.ref z],ds++[d],_,_,Z,G3.wr rfl,?_,em3.trans em,F13.new hl,ah,aaL,((((hD.mono g2.tups).mono tu).snoc (tu _ _ hz)).mono tl),hC.snoc d1 d2 d4,by rw [dg];show ds.length+1=i+1;omega,by rw [oU];exact d3⟩
   rw [oU]
   exact h3.same (Cw aaL hl3 rfl)
 rintro σ H1 ⟨ρ1,B1,zs,ds,s6,s7,rfl,G1,h1,em,F1,hl1,VW,hD,hC,hdl,nx1⟩
 exact ⟨_,Z,q l zs ds ρ1 B1 H1 G1 h1 em F1 hl1 VW hD hC (by omega) nx1⟩
abbrev pI:Stmt:=top 39
abbrev lS:List Str:=["_law_hold","_law_deed_here"]
abbrev Es:List Str:=lS
theorem Dl:aO Es lS (aC pI):=dN
theorem Dm {T:TC} {e:Ec} (F:At K mg "_law_hold_do" pI f fd) (kC:Mn P w K mg base 3 T.hold "sign" mG (DW T)) (vK:Mn P w K mg base 4 T.hold "load" qJ (Rv T)) (vL:Mn P w K mg base 4 T.hold "cast" qK (RB T K)) (KH:Mn P w K mg base 4 T.hold "award" o_ (sN (Jw T e))) (GB:Mn P w K mg base 3 T.hold "mishap" mT (sN (Fx T e))) (L7:Mn P w K mg base 2 T.hold "rise" qL (sN (NC T e))) (L8:Mn P w K mg base 2 T.hold "hand" qM (sN (ND T e))) (L_:Mn P w K mg base 5 T.hold "land" qN (sN (NI T e))) (KI:Mn P w K mg base 4 T.hold "sever" pe (sN (Jx T e))) (b_:mg "len"=none) (c9:mg "range"=none):Dn P w K mg base 6 "_law_hold_do" lS (JK T K):=by
 refine F.oA Dl fun cdv A outer s H vs Q E hr h=>?_
 obtain ⟨⟨n,c,ρ,A,st,z,d,rfl,hz,hh,gg,hc,hk,ho,hr0,q⟩⟩:=h
 refine ⟨_,(@cT.h _ _ _ (ak (b9 (aR dP (aJ (aQ K) (qv 1) ai) bB (aX _)) (av (bh (bY kC hr (qv 0) (af (aJ (aQ K) (qv 1) ai) aq)))) (av (b9 (aR dP (aJ (aQ K) (qv 1) ai) bB (aX _)) (av (bh (bY vK hr (qv 0) (af (aJ (aQ K) (qv 1) ai) (af (aJ (aQ K) (qv 1) ai) (af (aJ (aQ K) (qv 1) ai) (af (aJ (aQ K) (qv 1) ai) aq))))))) (av (b9 (aR dP (aJ (aQ K) (qv 1) ai) bB (aX _)) (av (bh (bY vL hr (qv 0) (af (gP ["_law_k","_law_deed_here"] [none,some 1] rfl (Fw (by rfl) c9 (af ai (af (bF (di K) (by rfl) b_ gb (af (qv 1) aq)) (af ai aq)))) (fun _ _ _ _=>(aV (i:=0) (show List.Nodup (["_law_k","_law_deed_here"] :List Str) from by decide +kernel))) (fun _ _ _ _=>(gv (af (aJ (aQ K) (qv 1) (qv 0)) (af (aJ (aQ K) (qv 1) (aG cI (qv 0) ai)) aq)))) rfl (by rfl)) aq)))) (av (b9 (aR dP (aJ (aQ K) (qv 1) ai) bB (aX _)) (av (bh (bY KH hr (qv 0) (af (aJ (aQ K) (qv 1) ai) (af (aJ (aQ K) (qv 1) ai) aq))))) (av (b9 (aR dP (aJ (aQ K) (qv 1) ai) bB (aX _)) (av (bh (bY GB hr (qv 0) (af (aJ (aQ K) (qv 1) ai) (af (aJ (aQ K) (qv 1) ai) aq))))) (av (b9 (aR dP (aJ (aQ K) (qv 1) ai) bB (aX _)) (av (bh (bY L7 hr (qv 0) (af (aJ (aQ K) (qv 1) ai) (af (aJ (aQ K) (qv 1) ai) aq))))) (av (b9 (aR dP (aJ (aQ K) (qv 1) ai) bB (aX _)) (av (bh (bY L8 hr (qv 0) (af (aJ (aQ K) (qv 1) ai) (af (aJ (aQ K) (qv 1) ai) aq))))) (av (b9 (aR dP (aJ (aQ K) (qv 1) ai) bB (aX _)) (av (bh (bY L_ hr (qv 0) (af (aJ (aQ K) (qv 1) ai) aq)))) (av (b9 (aR dP (aJ (aQ K) (qv 1) ai) bB (aX _)) (av (bh (bY KI hr (qv 0) (af (aJ (aQ K) (qv 1) ai) (af (aJ (aQ K) (qv 1) ai) (af (aJ (aQ K) (qv 1) ai) (af (aJ (aQ K) (qv 1) ai) aq))))))) bw)))))))))))))))))
  (av (bh ZL)))),?_⟩
 have wf:=hh.wf
 have hpl:=gg.pl
 have hkl:=gg.kl
 cases d with
 | sign o=>
   obtain ⟨s1,s2⟩:=R3 hr0
   refine ⟨_,Z,z,_,_,_,Z,Z,hz,ay (j:=0) rfl,Z,_,Z,aM (fun _=>?_) (fun c=>absurd (a_ rfl) c)⟩
   refine ⟨_,Z,A.a,A.dx,_,Z,hh.h.oa,Z,_,Z,z,_,_,_,Z,Z,hz,ay (j:=1) rfl,⟨⟨n,ρ,A,st,o,Z,hh,s1,s2,ho,q⟩⟩⟩
 | load x o wo we=>
   obtain ⟨l1,l2,l3,l4,l5⟩:=rD hr0
   refine ⟨_,Z,z,_,_,_,Z,Z,hz,ay (j:=0) rfl,Z,_,Z,aM (fun c=>absurd (aZ c) (by decide)) (fun c=>?_)⟩
   refine ⟨_,Z,z,_,_,_,Z,Z,hz,ay (j:=0) rfl,Z,_,Z,aM (fun _=>?_) (fun c=>absurd (a_ rfl) c)⟩
   refine ⟨_,Z,A.a,A.dx,_,Z,hh.h.oa,Z,_,Z,z,_,_,_,Z,Z,hz,ay (j:=1) rfl,_,Z,z,_,_,_,Z,Z,hz,ay (j:=2) rfl,_,Z,z,_,_,_,Z,Z,hz,ay (j:=3) rfl,_,Z,z,_,_,_,Z,Z,hz,ay (j:=4) rfl,⟨⟨n,ρ,A,st,x,o,wo,we,Z,hh,l1,l2,l3,l4,l5,by omega,by omega,q⟩⟩⟩
 | cast rs=>
   refine ⟨_,Z,z,_,_,_,Z,Z,hz,ay (j:=0) rfl,Z,_,Z,aM (fun c=>absurd (aZ c) (by decide)) (fun c=>?_)⟩
   refine ⟨_,Z,z,_,_,_,Z,Z,hz,ay (j:=0) rfl,Z,_,Z,aM (fun c=>absurd (aZ c) (by decide)) (fun c=>?_)⟩
   refine ⟨_,Z,z,_,_,_,Z,Z,hz,ay (j:=0) rfl,Z,_,Z,aM (fun _=>?_) (fun c=>absurd (a_ rfl) c)⟩
   have ok:=gg.JH wf (by omega) hr0
   have hrl:rs.length<=1000:=ok.len
   refine ⟨_,Z,A.a,A.dx,_,Z,hh.h.oa,Z,_,Z,z,_,Z, .inr hz,_,_,_,Z,⟨by decide,by decide,by omega,by rw [xP];omega,by decide,by decide⟩,?_⟩
   rw [xP,RZ]
   intro acc hacc
   refine jD (J:=O2 1 2 rs.length) (n:=rs.length) 0 (fun i out H1=>aP H H1/\f7 H1 out (rs.take i)) (by omega) ⟨aD hacc _, .nil⟩ (fun i o H' hi _ _=>hi) (fun o H' _ _=>aK _) ?_ ?_
   . rintro i x out H1 H2 hi fY ha ⟨g,R⟩ ⟨rfl,rfl⟩
     have ei:=bu hi
     generalize rs[i]=r at *
     obtain ⟨c1,c2⟩:=NQ ei
     have e1:(1:Int)+(i:Int)*2=((1+2*i:Nat):Int):=by omega
     have e2:((1+2*i:Nat):Int)+1=((2+2*i:Nat):Int):=by omega
     rw [e1]
     refine ⟨_,Z,_,Z,z,_,_,_,Z,Z,g.tup hz,ay c1,_,Z,_,Z,_,_,Z,Z,z,_,_,_,Z,Z,g.tup hz,by rw [e2];exact ay c2,(gD 2),fun p hp=>?_⟩
     have g6:=aD hp (xo r)
     refine ⟨g6 _ _ ha,(g.trans g6).cN hacc _,?_⟩
     rw [take_snoc ei]
     exact ((R.mono g6.tups).snoc ah).mono (iD (.inr ⟨_,g6 _ _ ha,Z⟩))
   rintro out H1 fY ha ⟨g,R⟩
   rw [cK] at R
   exact ⟨⟨n,ρ,A,st,acc,out,rs,Z,hh.mono g,aH.of ha,R,ok,fun ρ' A' H' a1 a2 a3=>q ρ' A' H' a1 a2 ((Fr.of_same g).trans a3)⟩⟩
 | award o a=>
   refine ⟨_,Z,z,_,_,_,Z,Z,hz,ay (j:=0) rfl,Z,_,Z,aM (fun c=>absurd (aZ c) (by decide)) (fun c=>?_)⟩
   refine ⟨_,Z,z,_,_,_,Z,Z,hz,ay (j:=0) rfl,Z,_,Z,aM (fun c=>absurd (aZ c) (by decide)) (fun c=>?_)⟩
   refine ⟨_,Z,z,_,_,_,Z,Z,hz,ay (j:=0) rfl,Z,_,Z,aM (fun c=>absurd (aZ c) (by decide)) (fun c=>?_)⟩
   refine ⟨_,Z,z,_,_,_,Z,Z,hz,ay (j:=0) rfl,Z,_,Z,aM (fun _=>?_) (fun c=>absurd (a_ rfl) c)⟩
   refine ⟨_,Z,A.a,A.dx,_,Z,hh.h.oa,Z,_,Z,z,_,_,_,Z,Z,hz,ay (j:=1) rfl,_,Z,z,_,_,_,Z,Z,hz,ay (j:=2) rfl,⟨⟨n,ρ,A,st,o,a,Z,hh,gg.aw wf (by omega), .of hr0 q⟩⟩⟩
 | mishap x a=>
   refine ⟨_,Z,z,_,_,_,Z,Z,hz,ay (j:=0) rfl,Z,_,Z,aM (fun c=>absurd (aZ c) (by decide)) (fun c=>?_)⟩
   refine ⟨_,Z,z,_,_,_,Z,Z,hz,ay (j:=0) rfl,Z,_,Z,aM (fun c=>absurd (aZ c) (by decide)) (fun c=>?_)⟩
   refine ⟨_,Z,z,_,_,_,Z,Z,hz,ay (j:=0) rfl,Z,_,Z,aM (fun c=>absurd (aZ c) (by decide)) (fun c=>?_)⟩
   refine ⟨_,Z,z,_,_,_,Z,Z,hz,ay (j:=0) rfl,Z,_,Z,aM (fun c=>absurd (aZ c) (by decide)) (fun c=>?_)⟩
   refine ⟨_,Z,z,_,_,_,Z,Z,hz,ay (j:=0) rfl,Z,_,Z,aM (fun _=>?_) (fun c=>absurd (a_ rfl) c)⟩
   refine ⟨_,Z,A.a,A.dx,_,Z,hh.h.oa,Z,_,Z,z,_,_,_,Z,Z,hz,ay (j:=1) rfl,_,Z,z,_,_,_,Z,Z,hz,ay (j:=2) rfl,⟨⟨n,ρ,A,st,x,a,Z,hh, .of hr0 q⟩⟩⟩
 | rise x a=>
   refine ⟨_,Z,z,_,_,_,Z,Z,hz,ay (j:=0) rfl,Z,_,Z,aM (fun c=>absurd (aZ c) (by decide)) (fun c=>?_)⟩
   refine ⟨_,Z,z,_,_,_,Z,Z,hz,ay (j:=0) rfl,Z,_,Z,aM (fun c=>absurd (aZ c) (by decide)) (fun c=>?_)⟩
   refine ⟨_,Z,z,_,_,_,Z,Z,hz,ay (j:=0) rfl,Z,_,Z,aM (fun c=>absurd (aZ c) (by decide)) (fun c=>?_)⟩
   refine ⟨_,Z,z,_,_,_,Z,Z,hz,ay (j:=0) rfl,Z,_,Z,aM (fun c=>absurd (aZ c) (by decide)) (fun c=>?_)⟩
   refine ⟨_,Z,z,_,_,_,Z,Z,hz,ay (j:=0) rfl,Z,_,Z,aM (fun c=>absurd (aZ c) (by decide)) (fun c=>?_)⟩
   refine ⟨_,Z,z,_,_,_,Z,Z,hz,ay (j:=0) rfl,Z,_,Z,aM (fun _=>?_) (fun c=>absurd (a_ rfl) c)⟩
   refine ⟨_,Z,A.a,A.dx,_,Z,hh.h.oa,Z,_,Z,z,_,_,_,Z,Z,hz,ay (j:=1) rfl,_,Z,z,_,_,_,Z,Z,hz,ay (j:=2) rfl,⟨⟨n,ρ,A,st,x,a,Z,hh, .of hr0 q⟩⟩⟩
 | hand x o=>
   refine ⟨_,Z,z,_,_,_,Z,Z,hz,ay (j:=0) rfl,Z,_,Z,aM (fun c=>absurd (aZ c) (by decide)) (fun c=>?_)⟩
   refine ⟨_,Z,z,_,_,_,Z,Z,hz,ay (j:=0) rfl,Z,_,Z,aM (fun c=>absurd (aZ c) (by decide)) (fun c=>?_)⟩
   refine ⟨_,Z,z,_,_,_,Z,Z,hz,ay (j:=0) rfl,Z,_,Z,aM (fun c=>absurd (aZ c) (by decide)) (fun c=>?_)⟩
   refine ⟨_,Z,z,_,_,_,Z,Z,hz,ay (j:=0) rfl,Z,_,Z,aM (fun c=>absurd (aZ c) (by decide)) (fun c=>?_)⟩
   refine ⟨_,Z,z,_,_,_,Z,Z,hz,ay (j:=0) rfl,Z,_,Z,aM (fun c=>absurd (aZ c) (by decide)) (fun c=>?_)⟩
   refine ⟨_,Z,z,_,_,_,Z,Z,hz,ay (j:=0) rfl,Z,_,Z,aM (fun c=>absurd (aZ c) (by decide)) (fun c=>?_)⟩
   refine ⟨_,Z,z,_,_,_,Z,Z,hz,ay (j:=0) rfl,Z,_,Z,aM (fun _=>?_) (fun c=>absurd (a_ rfl) c)⟩
   refine ⟨_,Z,A.a,A.dx,_,Z,hh.h.oa,Z,_,Z,z,_,_,_,Z,Z,hz,ay (j:=1) rfl,_,Z,z,_,_,_,Z,Z,hz,ay (j:=2) rfl,⟨⟨n,ρ,A,st,x,o,Z,hh,gg.sum, .of hr0 q⟩⟩⟩
 | land x=>
   refine ⟨_,Z,z,_,_,_,Z,Z,hz,ay (j:=0) rfl,Z,_,Z,aM (fun c=>absurd (aZ c) (by decide)) (fun c=>?_)⟩
   refine ⟨_,Z,z,_,_,_,Z,Z,hz,ay (j:=0) rfl,Z,_,Z,aM (fun c=>absurd (aZ c) (by decide)) (fun c=>?_)⟩
   refine ⟨_,Z,z,_,_,_,Z,Z,hz,ay (j:=0) rfl,Z,_,Z,aM (fun c=>absurd (aZ c) (by decide)) (fun c=>?_)⟩
   refine ⟨_,Z,z,_,_,_,Z,Z,hz,ay (j:=0) rfl,Z,_,Z,aM (fun c=>absurd (aZ c) (by decide)) (fun c=>?_)⟩
   refine ⟨_,Z,z,_,_,_,Z,Z,hz,ay (j:=0) rfl,Z,_,Z,aM (fun c=>absurd (aZ c) (by decide)) (fun c=>?_)⟩
   refine ⟨_,Z,z,_,_,_,Z,Z,hz,ay (j:=0) rfl,Z,_,Z,aM (fun c=>absurd (aZ c) (by decide)) (fun c=>?_)⟩
   refine ⟨_,Z,z,_,_,_,Z,Z,hz,ay (j:=0) rfl,Z,_,Z,aM (fun c=>absurd (aZ c) (by decide)) (fun c=>?_)⟩
   refine ⟨_,Z,z,_,_,_,Z,Z,hz,ay (j:=0) rfl,Z,_,Z,aM (fun _=>?_) (fun c=>absurd (a_ rfl) c)⟩
   refine ⟨_,Z,A.a,A.dx,_,Z,hh.h.oa,Z,_,Z,z,_,_,_,Z,Z,hz,ay (j:=1) rfl,⟨⟨n,ρ,A,st,x,Z,hh,gg.ld wf (by omega) hk, .of hr0 q⟩⟩⟩
 | sever x y a we=>
   refine ⟨_,Z,z,_,_,_,Z,Z,hz,ay (j:=0) rfl,Z,_,Z,aM (fun c=>absurd (aZ c) (by decide)) (fun c=>?_)⟩
   refine ⟨_,Z,z,_,_,_,Z,Z,hz,ay (j:=0) rfl,Z,_,Z,aM (fun c=>absurd (aZ c) (by decide)) (fun c=>?_)⟩
   refine ⟨_,Z,z,_,_,_,Z,Z,hz,ay (j:=0) rfl,Z,_,Z,aM (fun c=>absurd (aZ c) (by decide)) (fun c=>?_)⟩
   refine ⟨_,Z,z,_,_,_,Z,Z,hz,ay (j:=0) rfl,Z,_,Z,aM (fun c=>absurd (aZ c) (by decide)) (fun c=>?_)⟩
   refine ⟨_,Z,z,_,_,_,Z,Z,hz,ay (j:=0) rfl,Z,_,Z,aM (fun c=>absurd (aZ c) (by decide)) (fun c=>?_)⟩
   refine ⟨_,Z,z,_,_,_,Z,Z,hz,ay (j:=0) rfl,Z,_,Z,aM (fun c=>absurd (aZ c) (by decide)) (fun c=>?_)⟩
   refine ⟨_,Z,z,_,_,_,Z,Z,hz,ay (j:=0) rfl,Z,_,Z,aM (fun c=>absurd (aZ c) (by decide)) (fun c=>?_)⟩
   refine ⟨_,Z,z,_,_,_,Z,Z,hz,ay (j:=0) rfl,Z,_,Z,aM (fun c=>absurd (aZ c) (by decide)) (fun c=>?_)⟩
   refine ⟨_,Z,z,_,_,_,Z,Z,hz,ay (j:=0) rfl,Z,_,Z,aM (fun _=>?_) (fun c=>absurd (a_ rfl) c)⟩
   refine ⟨_,Z,A.a,A.dx,_,Z,hh.h.oa,Z,_,Z,z,_,_,_,Z,Z,hz,ay (j:=1) rfl,_,Z,z,_,_,_,Z,Z,hz,ay (j:=2) rfl,_,Z,z,_,_,_,Z,Z,hz,ay (j:=3) rfl,_,Z,z,_,_,_,Z,Z,hz,ay (j:=4) rfl,⟨⟨n,ρ,A,st,x,y,a,we,Z,hh,IZ (j7 (show ig st x y a we=none from hr0)).2.1.1,by omega,by omega, .of hr0 q⟩⟩⟩
 | still=>
   refine ⟨_,Z,z,_,_,_,Z,Z,hz,ay (j:=0) rfl,Z,_,Z,aM (fun c=>absurd (aZ c) (by decide)) (fun c=>?_)⟩
   refine ⟨_,Z,z,_,_,_,Z,Z,hz,ay (j:=0) rfl,Z,_,Z,aM (fun c=>absurd (aZ c) (by decide)) (fun c=>?_)⟩
   refine ⟨_,Z,z,_,_,_,Z,Z,hz,ay (j:=0) rfl,Z,_,Z,aM (fun c=>absurd (aZ c) (by decide)) (fun c=>?_)⟩
   refine ⟨_,Z,z,_,_,_,Z,Z,hz,ay (j:=0) rfl,Z,_,Z,aM (fun c=>absurd (aZ c) (by decide)) (fun c=>?_)⟩
   refine ⟨_,Z,z,_,_,_,Z,Z,hz,ay (j:=0) rfl,Z,_,Z,aM (fun c=>absurd (aZ c) (by decide)) (fun c=>?_)⟩
   refine ⟨_,Z,z,_,_,_,Z,Z,hz,ay (j:=0) rfl,Z,_,Z,aM (fun c=>absurd (aZ c) (by decide)) (fun c=>?_)⟩
   refine ⟨_,Z,z,_,_,_,Z,Z,hz,ay (j:=0) rfl,Z,_,Z,aM (fun c=>absurd (aZ c) (by decide)) (fun c=>?_)⟩
   refine ⟨_,Z,z,_,_,_,Z,Z,hz,ay (j:=0) rfl,Z,_,Z,aM (fun c=>absurd (aZ c) (by decide)) (fun c=>?_)⟩
   refine ⟨_,Z,z,_,_,_,Z,Z,hz,ay (j:=0) rfl,Z,_,Z,aM (fun c=>absurd (aZ c) (by decide)) (fun c=>?_)⟩
   exact q ρ A H hh rfl Fr.refl
abbrev qu:Stmt:=top 40
abbrev mX:List Str:=["_law_owners","_law_deeds_here"]
abbrev GD:List Str:=mX.append ["_law_hold","_law_owner","_law_deed_here"]
theorem lT:aO GD mX (aC qu):=dN
theorem Et {T:TC} (F:At K mg "_law_behind" qu f fd) (KJ:Cn P w K mg base 3 "Hold" T.hold ["self"] (Nk T)) (kC:Mn P w K mg base 3 T.hold "sign" mG (DW T)) (qw:Dn P w K mg base 6 "_law_hold_do" lS (JK T K)):Dn P w K mg base 7 "_law_behind" mX (R_ T K):=by
 refine F.oA lT fun cdv A outer s H vs Q E hr h=>?_
 obtain ⟨⟨n,ρ,zo,l,own,zs,ds,rfl,G,fO,fL,hD,hC,l7,JF,ah4,Eu,hdl,q⟩⟩:=h
 refine ⟨_,(@cT.h _ _ _ (ak (aT (i:=2) lT.nd (RO KJ hr))
  (ak (fE f_ rfl (d8 K (qv 0)) (aV (i:=3) lT.nd) (av (cy (bY kC hr (qv 2) (af (qv 3) aq)))))
  (ak (fE f_ rfl (d8 K (qv 1)) (aV (i:=4) lT.nd) (av (cy (bR qw hr (af (qv 2) (af (qv 4) aq))))))
  (av (bh (qv 2))))))),?_⟩
 intro x dx hx hdx hne
 refine ⟨⟨x,dx,ρ,n,Z,ah,(G.alloc hdx).alloc (by rw [az (cO hne)];exact hx),G.none hx,fun ρ4 A4 H4 ea4 rK k4=>⟨Z,?_⟩⟩⟩
 have F4:Fr n ρ H ρ4 H4:=fun b o e _=>k4 b o (by rw [az (aF e hx),az (aF e hdx)];exact e) (aF e hx)
 refine ⟨_,Z,zo,Z,⟨_,fO _ _ F4.out⟩,?_⟩
 refine jS (K:=K) (xs:=own.map V.str) (fun i σ H'=>∃ρ' A' s5,σ=[some (.ref zo),some (.ref l),some (.ref x),s5,none]/\A'.a=x/\HH T n ρ' A' H' ((own.take i).foldl eO hs0)/\Fr n ρ H ρ' H')
  ⟨ρ4,A4,none,Z,ea4,rK,F4⟩ (fun i σ H' _ hp=>by obtain ⟨_,_,_,_,_,_,f⟩:=hp;exact fO _ _ f.out) ?_ ?_
 . rintro i y σ H' hy ⟨ρ',A',s2,rfl,ea',N7,F'⟩
   rw [cg] at hy
   obtain ⟨o,eo,rfl⟩:=lW.mp hy
   have hi:=(dS.mp eo).1
   have aaM:((own.take i).foldl eO hs0).own=own.take i:=by rw [uW];rfl
   refine ⟨_,Z,x,A'.dx,_,Z,ea'▸N7.h.oa,Z,_,Z,⟨⟨n,ρ',A',_,o,by rw [ea'];rfl,N7,Eu o (bX eo),?_,?_,fun ρ2 A2 H2 h2 e2 F2=>?_⟩⟩⟩
   . rw [aaM]
     intro m
     have h2:(own.take (i+1)).Nodup:=l7.sublist (List.take_sublist _ _)
     rw [take_snoc eo] at h2
     exact (List.nodup_append.mp h2).2.2 o m o (fV.mpr rfl) rfl
   . rw [aaM,nY]
     omega
   . rw [take_snoc eo,DM]
     exact ⟨ρ2,A2,_,Z,e2.trans ea',h2,F'.trans F2⟩
 rintro σ H5 ⟨ρ5,A5,s5,rfl,ea5,Az,F5⟩
 rw [aE,cK] at Az
 have Az:HH T n ρ5 A5 H5 (fQ own):=Az
 clear rK k4 F4
 have gw:=gw0 l7 JF (by omega) Eu
 have Sk:=D6 own
 have an0:An (fQ own):=fun x hx=>by rw [show (fQ own).dj=[] from (lM own hs0 rfl (fun u hu=>absurd hu (by simp [hs0]))).2.2.2.2.1] at hx;cases hx
 have chg:=hC.go gw mo0 an0 (by omega) (by omega) (by rw [Sk];omega)
 have zl:=hD.length
 refine ⟨_,Z,l,Z,⟨zs,fL _ _ F5.out⟩,?_⟩
 refine jS (K:=K) (xs:=zs) (fun i σ H'=>∃ρ' A' s3 s4,σ=[some (.ref zo),some (.ref l),some (.ref x),s3,s4]/\HH T n ρ' A' H' (d9 (fQ own) (ds.take i))/\A'.a=x/\Fr n ρ H ρ' H')
  ⟨ρ5,A5,_,_,Z,Az,ea5,F5⟩ (fun i σ H' _ hp=>by obtain ⟨_,_,_,_,_,_,_,f⟩:=hp;exact fL _ _ f.out) ?_ ?_
 . rintro i y σ H7 hy ⟨ρ7,A7,s3,s4,rfl,yj,ea7,F7⟩
   obtain ⟨z,d,rfl,ed,hz⟩:=hD.get hy
   have hi:=(dS.mp ed).1
   obtain ⟨yl,eo7,_⟩:=chg i (by omega)
   obtain ⟨d1,d2,d3⟩:=hC i d ed
   rw [Sk] at eo7
   have N3:H7 z=some (.tup d.v):=(ng (F7.out _ _ (tV hz (G.tup hz)))).1
   have kn7:=yl.kn
   refine ⟨_,Z,_,Z,⟨⟨n,0+i,ρ7,A7,_,z,d,by rw [ea7];rfl,bN.of N3,yj,yl.g,by omega,by omega,by rw [eo7];omega,d1,fun ρ8 A8 H8 wD ea8 F8=>?_⟩⟩⟩
   rw [<-oU,<-take_snoc ed] at wD
   exact ⟨ρ8,A8,_,_,Z,wD,ea8.trans ea7,F7.trans F8⟩
 rintro σ H8 ⟨ρ8,A8,s3,s4,rfl,wD,ea8,F8⟩
 rw [zl,cK] at wD
 have ch:=chg ds.length (aK _)
 rw [cK] at ch
 refine ⟨_,Z,?_⟩
 rw [Nat.zero_add,Nat.zero_add] at ch
 have:=q ρ8 A8 H8 wD ch.1 (ch.2.1.trans Sk) ch.2.2.1 ch.2.2.2 F8
 rw [ea8] at this
 exact this
abbrev qx:Stmt:=top 41
abbrev mY:List Str:=["_law_deed_here","_law_many"]
abbrev GF:List Str:=mY.append ["_law_raised_here","_law_thing"]
theorem lU:aO GF mY (aC qx):=dN
theorem Ew (F:At K mg "_law_raised" qx f fd) (uI:mg "isinstance"=none) (PU:mg "int"=none) (tF:mg "tuple"=none):Dn P w K mg base 1 "_law_raised" mY (JV K):=by
 refine F.oA lU fun cdv A outer s H vs Q E hr h=>?_
 obtain ⟨⟨z,d,m,rfl,hz,hb,m0,m1,q⟩⟩:=h
 refine ⟨_,(@cT.h _ _ _ (ak (b9 (jF (bW.pt (CI (aR dP (aJ (aQ K) (qv 0) ai) bB (aX _)) (yX (aR dP (aJ (aQ K) (qv 0) ai) bB (aX _)))))) (av (bh (aG (WY K) (Uj (WZ K) (qv 0) W4 (W3 ai)) (gv (af (aG fK (aJ (aQ K) (qv 0) ai) (qv 1)) (af (aJ (aQ K) (qv 0) ai) aq)))))) bw)
  (ak (aT (i:=2) lU.nd (ir aq))
  (ak (fE f_ rfl (W7 K (qv 0)) (aV (i:=3) lU.nd) (ak (jG (v8 (bF (ID K) (by rfl) uI PyProof.Rows.boot_isinstance (af (qv 3) (af (ab9 PyProof.Rows.boot_int rfl PU) aq)))) (av (aT (i:=3) lU.nd (aG fK (qv 3) (qv 1)))) bw)
  (av (cy (jZ m9 m7 m8 dU (qv 2) (af (qv 3) aq))))))
  (av (bh (nV yd (by rfl) tF PyProof.Rows.boot_tuple (af (qv 2) aq)))))))),?_⟩
 have afB:∀(a b c e f:V),AL [a,b,c,e,f] none (some (3:Int))=[a,b,c] :=fun a b c e f=>by rw [show (3:Int)=((3:Nat):Int) from rfl,W0];rfl
 have zm:Jm.Sz 62 m:=(show Jm.Sz 62 (1000:Int) from jC (by decide +kernel)).of_le (by omega)
 have zn:∀{a:Int},nB a->Jm.Sz 62 a:=fun {a} h=>(show Jm.Sz 62 (1000000000:Int) from jC (by decide +kernel)).of_le (by obtain ⟨h1,h2⟩:=h;omega)
 by_cases c:d.k=1\/d.k=8
 . obtain ⟨w,b,c',i,e,ed,hw,hi,es⟩:∃(w:Str) (b c:V) (i:Int) (e:V),d.v=[.str w,b,c, .int i,e]/\(w = "load"\/w = "sever")/\nB i/\(u9 m d).v=[.str w,b,c, .int (i*m),e] :=by
    cases d with
    | load x o wo we=>exact ⟨_,_,_,_,_,Z, .inl rfl,hb.2.2.1,Z⟩
    | sever x y a we=>exact ⟨_,_,_,_,_,Z, .inr rfl,hb.2.2.1,Z⟩
    | _=>rcases c with c|c <;> simp [Dd.k] at c
   rw [ed] at hz
   rw [es] at q
   refine ⟨true,?_,jU ?_⟩
   . rcases hw with rfl|rfl
     . exact ⟨_,Z,z,_,_,_,Z,Z,bN.of hz,ay (j:=0) rfl,Z,_,Z,jU ⟨Z,Z⟩⟩
     . exact ⟨_,Z,z,_,_,_,Z,Z,bN.of hz,ay (j:=0) rfl,Z,_,Z,gr ⟨_,Z,z,_,_,_,Z,Z,bN.of hz,ay (j:=0) rfl,Z,_,Z,Z,Z⟩⟩
   refine ⟨_,Z,_,Z,z,_,Z,bN.of hz,?_,fun p1 hp1=>?_⟩
   . rw [show (3:Int)=((3:Nat):Int) from rfl,HT.MX];show ¬ (_/\min 3 5=5);omega
   rw [afB]
   have g1:=aD hp1 (.tup [.str w,b,c'])
   have h1:upd H p1 (.tup [.str w,b,c']) p1=some (.tup [.str w,b,c']):=ah
   generalize upd H p1 (.tup [.str w,b,c'])=H1 at *
   have hz1:=g1 _ _ hz
   refine ⟨_,Z,z,_,_,_,Z,Z,bN.of hz1,ay (j:=3) rfl,_,Z,_,_,Z,Z,fu (zn hi) zm,_,Z,z,_,_,_,Z,Z,bN.of hz1,ay (j:=4) rfl,(gD 2),fun p2 hp2=>?_⟩
   have g2:=aD hp2 (.tup [.int (i*m),e])
   exact ⟨p1,p2,_,_,Z,Z,bN.of (g2 _ _ h1),bN.of ah,(gD 5),(fun z=>nomatch z),(fun _ z=>nomatch z),fun _ _ p3 hp3=>q p3 _ ((g1.trans g2).trans (aD hp3 _)) ((g1.trans g2).free hp3) ah⟩
 have c1:d.k≠1:=fun z=>c (.inl z)
 have c8:d.k≠8:=fun z=>c (.inr z)
 have es:=acs (m:=m) c1 c8
 rw [es] at q
 obtain ⟨w,tl,ed,w1,w8⟩:∃(w:Str) (tl:List V),d.v = .str w::tl/\w ≠ "load"/\w ≠ "sever":=by
  cases d with
  | load=>exact absurd rfl c1
  | sever=>exact absurd rfl c8
  | _=>exact ⟨_,_,Z,by decide,by decide⟩
 obtain ⟨zv,vl⟩:=hb.vs
 refine ⟨false,?_,gr ?_⟩
 . have f1:decide (V.str w=V.str "load")=false:=cV fun z=>w1 (V.str.inj z)
   have f8:decide (V.str w=V.str "sever")=false:=cV fun z=>w8 (V.str.inj z)
   rw [ed] at hz
   refine ⟨_,Z,z,_,_,_,Z,Z,bN.of hz,ay (j:=0) rfl,Z,_,Z,?_⟩
   rw [f1]
   refine gr ⟨_,Z,z,_,_,_,Z,Z,bN.of hz,ay (j:=0) rfl,Z,_,Z,f8,Z⟩
 refine ⟨(gD 0),fun t ht=>?_⟩
 have g0:=aD ht (.lst [])
 have h0:upd H t (.lst []) t=some (.lst []):=ah
 show tM _ _ _ _ (upd H t (.lst []))
 generalize upd H t (.lst [])=H0 at *
 refine ⟨_,Z,z,Z,⟨_,bN.of (g0 _ _ hz)⟩,?_⟩
 refine V_ (K:=K) (xs:=d.v) (fun i σ H'=>aP H H'/\H' t=some (.lst ((d.v.take i).map (Sb m)))/\∃s3,σ=[some (.ref z),some (.int m),some (.ref t),s3]) ⟨g0,h0,_,Z⟩ (fun i σ H' _ hp=>bN.of (hp.1 _ _ hz)) ?_ ?_
 . rintro i x σ H' hx ⟨g,hd',s3,rfl⟩
   refine ⟨fun σ H2=>H2=H'/\σ=[some (.ref z),some (.int m),some (.ref t),some (Sb m x)],?_,?_⟩
   . rcases zv x (bX hx) with ⟨y,rfl⟩|⟨j,rfl,hj⟩
     . exact ⟨_,Z,_,_,_,_,Z,lZ.str _,LG,_,Z,gr ⟨Z,Z⟩⟩
     . exact ⟨_,Z,_,_,_,_,Z,lZ.int _,TJ,_,Z,jU ⟨_,Z,_,Z,_,_,Z,Z,fu (zn hj) zm,Z,Z⟩⟩
   rintro σ H2 ⟨rfl,rfl⟩
   refine ⟨_,Z, .inl ⟨Z,_,aH.of hd'⟩,_,Z,t,_,_,Z,Z,hd',by rw [aE];exact dh (by rw [nY];omega),?_⟩
   refine ⟨g.cN ht _,?_,_,Z⟩
   rw [ah,take_snoc hx,bM];rfl
 rintro σ H' ⟨g,hd',s3,rfl⟩
 rw [cK] at hd'
 refine ⟨_,Z,t,_,Z, .inl ⟨aH.of hd',fun r hr0=>q r _ (g.trans (aD hr0 _)) (g.free hr0) ah⟩⟩
abbrev pJ:Stmt:=top 42
abbrev PV:List Str:=["_law_script"]
abbrev acv:List Str:=PV.append ["_law_owners","_law_names_here","_law_model","_law_deeds_here","_law_many","_law_one","_law_other","_law_part","_law_owner","_law_held","_law_told"]
theorem jm:aO acv PV (aC pJ):=dN
theorem aaO {T:TC} (F:At K mg "law" pJ f fd) (aW:Dn P w K mg base 1 "_law_draw" gT (qW K)) (pK:Dn P w K mg base 2 "_law_names" pC (DS K)) (vM:Dn P w K mg base 1 "_law_lite" qQ (RY K)) (uJ:Dn P w K mg base 5 "_law_deeds" pH (NR K)) (mZ:Dn P w K mg base 7 "_law_behind" mX (R_ T K)) (sJ:Dn P w K mg base 1 "_law_raised" mY (JV K)) (pL:Mn P w K mg base 1 T.hold "parts" oZ (Nl T)) (mV:Mn P w K mg base 4 T.hold "shares" ko (xJ T)) (m5:Mn P w K mg base 1 T.hold "landed" mR (IW T)) (pM:Mn P w K mg base 3 T.hold "stake" pA (JN T)) (pN:Mn P w K mg base 3 T.hold "purse" pB (NS T)):i7 P w K mg base sL 8 f fd PV (HF K):=by
 refine F.fn.ok jm (fun vs H Q E h=>?_) (fun cdv A outer s H vs Q E hr h=>?_)
 . obtain ⟨a,ns,rfl,_⟩:=h
   rfl
 obtain ⟨a,ns,rfl,hS,h63,q⟩:=h
 refine ⟨_,(@cT.h _ _ _ (ak (aT (i:=1) jm.nd (bR pK hr (af (qv 0) (af ai (af (aG cI ai (bR aW hr (af (qv 0) (af ai (af ai (af ai aq)))))) aq)))))
  (ak (aT (i:=2) jm.nd (bR pK hr (af (qv 0) (af ai (af ai aq)))))
  (ak (aT (i:=3) jm.nd (bR vM hr (af (qv 1) aq)))
  (ak (aT (i:=4) jm.nd (bR uJ hr (af (qv 0) (af ai (af (qv 3) (af (qv 2) (af (aG cI ai (bR aW hr (af (qv 0) (af ai (af ai (af ai aq)))))) aq)))))))
  (ak (aT (i:=5) jm.nd (aG cI ai (bR aW hr (af (qv 0) (af ai (af ai (af ai aq)))))))
  (ak (aT (i:=6) jm.nd (bR mZ hr (af (qv 1) (af (qv 4) aq))))
  (ak (aT (i:=7) jm.nd (bR mZ hr (af (qv 1) (af (gP ["_law_deed_here","_law_many"] [none,some 5] rfl (d8 K (qv 4)) (fun _ _ _ _=>(aV (i:=0) (show List.Nodup (["_law_deed_here","_law_many"] :List Str) from by decide +kernel))) (fun _ _ _ _=>(bR sJ hr (af (qv 0) (af (qv 1) aq)))) rfl (by rfl)) aq))))
  (ak (b9 (aR (DQ K hr.units) (gP ["_law_part","_law_many"] [none,some 5] rfl (d8 K (p_ pL hr (qv 6))) (fun _ _ _ _=>(aV (i:=0) (show List.Nodup (["_law_part","_law_many"] :List Str) from by decide +kernel))) (fun _ _ _ _=>(gv (af (aJ (dB K) (qv 0) ai) (af (aJ (dB K) (qv 0) ai) (af (aG fK (aJ (dB K) (qv 0) ai) (qv 1)) (af (aJ (dB K) (qv 0) ai) aq)))))) rfl (by rfl)) (p_ pL hr (qv 7)) (aX _)) (av (bh xF)) bw)
  (ak (fE f_ rfl (d8 K (dZ (dz hr) (qv 3) bB)) (aV (i:=8) jm.nd) (av (b9 (aR (DQ K hr.units) (bY mV hr (qv 6) (af (aJ (dB K) (qv 8) ai) aq)) (bY mV hr (qv 7) (af (aJ (dB K) (qv 8) ai) aq)) (aX _)) (av (bh xF)) bw)))
  (ak (b9 (aR (DQ K hr.units) (gP ["_law_part","_law_many"] [none,some 5] rfl (d8 K (p_ m5 hr (qv 6))) (fun _ _ _ _=>(aV (i:=0) (show List.Nodup (["_law_part","_law_many"] :List Str) from by decide +kernel))) (fun _ _ _ _=>(gv (af (aJ (dB K) (qv 0) ai) (af (aJ (dB K) (qv 0) ai) (af (aG fK (aJ (dB K) (qv 0) ai) (qv 1)) (af (aJ (dB K) (qv 0) ai) aq)))))) rfl (by rfl)) (p_ m5 hr (qv 7)) (aX _)) (av (bh xF)) bw)
  (ak (fE f_ rfl (d8 K (qv 1)) (aV (i:=9) jm.nd) (ak (aT (i:=10) jm.nd (bY pM hr (qv 6) (af (qv 9) aq)))
  (ak (aT (i:=11) jm.nd (bY pM hr (qv 7) (af (qv 9) aq)))
  (ak (b9 (aR Vb (aG fK (aG fK (aJ (aQ K) (qv 10) ai) (qv 5)) (aJ (aQ K) (qv 11) ai)) (aG fK (aJ (aQ K) (qv 11) ai) (aJ (aQ K) (qv 10) ai)) (aX _)) (av (bh xF)) bw)
  (ak (aT (i:=10) jm.nd (bY pN hr (qv 6) (af (qv 9) aq)))
  (ak (aT (i:=11) jm.nd (bY pN hr (qv 7) (af (qv 9) aq)))
  (av (b9 (aR Vb (aG fK (aG fK (aJ (aQ K) (qv 10) ai) (qv 5)) (aJ (aQ K) (qv 11) ai)) (aG fK (aJ (aQ K) (qv 11) ai) (aJ (aQ K) (qv 10) ai)) (aX _)) (av (bh xF)) bw))))))))
  (av (bh xF)))))))))))))),?_⟩
 refine ⟨_,Z,_,Z,cQ hS h63 (by decide) (by decide) (by decide) (by decide) fun od _ o0 o1=>⟨_,_,Z,Z,?_⟩⟩
 obtain ⟨no,hno⟩:∃no:Nat,1+od=(no:Int):=⟨(1+od).toNat,by omega⟩
 refine E1 hno hS h63 (by decide) (by omega) fun zo nso H1 g1 hzo _ ah5 aaP aaQ=>?_
 have VX:=g1.seq hS
 refine ⟨_,Z,E1 (show (6:Int)=((6:Nat):Int) from rfl) VX h63 (by decide) (by decide) fun zn nsn H2 g2 hzn _ ah6 aaR aaS=>?_⟩
 have KC:=g2.seq VX
 have UO:=g2 _ _ hzo
 rw [WS] at UO hzn
 have fY:=Nq nso
 have hnl:=Nq nsn
 have l7:=E_ aaP
 have Eu:=Rx aaQ
 have nmN:=E_ aaR
 have afC:=Rx aaS
 generalize CB nso=own at *
 generalize CB nsn=nms at *
 clear aaP aaQ aaR aaS hzo
 have fS0:=v5.of KC
 have fN0:=v5.of (aH.of (K:=K) hzn)
 have fO0:=v5.of (aH.of (K:=K) UO)
 refine ⟨_,Z,⟨⟨zo,own,1,fun _=>none,Z,aH.of UO,(fun b c e=>by cases e),by omega,fun ρ3 B3 H3 G3 KL k3=>?_⟩⟩⟩
 have F3:Fr 1 (fun _=>none) H2 ρ3 H3:=fun b o e _=>k3 b o e
 have VY:=fS0.go F3.out
 have fN3:=fN0.go F3.out
 have fO3:=fO0.go F3.out
 have gw:=gw0 l7 (by omega) (by omega) (fun o ho=>(Eu o ho).isNm)
 have Sk:=D6 own
 have nx0:Nx nms (fQ own):=Z2 nmN (fun x hx=>(afC x hx).isNm)
 rw [<-UB] at KL
 have KL:bL 1 ρ3 B3 H3 (dO (fQ own)):=KL
 refine ⟨_,Z,_,Z,_,Z,_,Z,cQ (VY _ _ (aP.refl _)) h63 (by decide) (by decide) (by decide) (by decide) fun md _ m0 m1=>⟨_,_,Z,Z,?_⟩⟩
 obtain ⟨cnt,afD⟩:∃cnt:Nat,1+md=(cnt:Int):=⟨(1+md).toNat,by omega⟩
 rw [afD]
 refine ⟨⟨1,0,0,ρ3,B3,fQ own,a,zn,ns,4,nms,cnt,Z,G3,KL,gw,by omega,by omega,by rw [Sk];omega,VY,h63,by decide,by decide,fN3,nx0,by omega,fun l zs ds ρ6 B6 H6 G6 hb6 em6 F6 hl6 cl6 hD hC hdl nx6=>?_⟩⟩
 have fS6:=VY.go F6.out
 have fO6:=fO3.go F6.out
 have fL6:v5 K ρ6 H6 l zs:=fun ρ' H' s=>(aH.of (K:=K) hl6).outs cl6 s
 have zl:=hD.length
 refine ⟨_,Z,cQ (fS6 _ _ (aP.refl _)) h63 (by decide) (by decide) (by decide) (by decide) fun mm _ mm0 mm1=>⟨_,_,Z,Z,?_⟩⟩
 have m0:0<1+mm:=by omega
 have m1:1+mm<=1000:=by omega
 generalize 1+mm=m at m0 m1 ⊢
 clear KL VY fN3 fO3 F6 k3 F3 fS0 fN0 fO0 hl6 cl6 nx6 nx0
 refine ⟨_,Z,_,Z,⟨⟨0,ρ6,zo,l,own,zs,ds,Z,G6,fO6,fL6,hD,hC.toG,l7,by omega,by omega,(fun o ho=>(Eu o ho).isNm),by omega,fun ρ7 A7 H7 yj yl ow7 VZ an7 F7=>?_⟩⟩⟩
 have hb7:=hb6.other F7 G6 (by decide)
 have fO7:=fO6.go F7.out
 have Sl:=fL6.go F7.out
 have hD7:kG H7 zs ds:=hD.mono fun b xs e=>(F7 b _ e (fun t y z=>by rw [G6.tup e] at z;cases z)).1
 have G7:=yj.g
 clear hb6 fO6 fL6 hD G6 F7 fS6
 refine ⟨_,Z,_,Z,l,Z,⟨_,Sl _ _ (aP.refl _)⟩,fun lr hlr=>?_⟩
 refine jD (J:=x_ K l) (n:=zs.length) 0 (fun i out H'=>aP H7 H'/\kG H' out ((ds.take i).map (u9 m))) (by omega) ⟨aD hlr _, .nil⟩ (fun i o H' hi _ hp=>⟨_,_,Sl _ _ (nh hp.1),bu hi⟩) (fun o H' _ hp=>⟨_,Sl _ _ (nh hp.1),aK _⟩) ?_ ?_
 . rintro j y out H8 H9 hj Bl ha ⟨g,R⟩ ⟨rfl,hy⟩
   have ey:=hy _ (Sl _ _ (nh g))
   obtain ⟨z,d,rfl,ed,hz⟩:=hD7.get ey
   refine ⟨_,Z,_,Z,⟨⟨z,d,m,Z,g _ _ hz,(hC _ _ ed).2.1,m0,m1,fun r Aq KN hr0 hr=>⟨KN _ _ ha,(g.trans KN).cN hlr _,?_⟩⟩⟩⟩
   rw [take_snoc ed,bM]
   exact ((R.mono KN.tups).snoc hr).mono (iD (.inr ⟨_,KN _ _ ha,Z⟩))
 rintro zs2 H8 zl2 AA ⟨g8,R8⟩
 rw [zl,cK] at R8
 have wD:=yj.mono g8
 have hb8:=hb7.mono g8
 have fO8:=fO7.go (nh (ρ:=ρ7) g8)
 have cl8:ρ7 lr=none:=G7.none hlr
 refine ⟨⟨2,ρ7,zo,lr,own,zs2,ds.map (u9 m),Z,wD.g,fO8,(fun ρ' H' s=>(aH.of (K:=K) AA).outs cl8 s),R8,hC.scale m0 m1,l7,by omega,by omega,(fun o ho=>(Eu o ho).isNm),by rw [aE];omega,fun ρ9 C9 H9 N8 N9 ow9 V0 an9 F9=>?_⟩⟩
 have eF:d9 (fQ own) (ds.map (u9 m))=bV m (d9 (fQ own) ds):=by
  have:=vC m0 ds (fQ own) hC.ks
  rwa [FP] at this
 rw [eF] at N8 N9 V0 an9 ow9
 rw [aE] at N9 V0
 have Kg:=wD.other F9 N8.g (by decide)
 have NV:=hb8.other F9 wD.g (by decide)
 have fO9:=fO8.go F9.out
 clear yj wD hb7 hb8 fO7 fO8 Sl hD7 R8 AA g8 hlr F9 hC eF
 have hc7:ds.length<=10:=by omega
 generalize ds.length=c at *
 generalize d9 (fQ own) ds=st at *
 subst ow7
 have G9:=N8.g
 have wf:=yl.wf
 have wf2:=N9.wf
 have V1:=yl.g.st VZ wf (by omega)
 have ok2:=N9.g.st V0 wf2 (by omega)
 have zm:Jm.Sz 62 m:=(show Jm.Sz 62 (1000:Int) from jC (by decide +kernel)).of_le (by omega)
 have afE:∀p∈st.aj,PyData.strOk p.nm=true:=fun p hp=>xE (yl.g.nk _ (wf.sub p hp))
 have PX:∀o∈st.own,PyData.strOk o=true:=fun o ho=>xE (yl.g.on o ho)
 have pl:=yl.g.pl
 refine ⟨_,Z,A7.a,A7.dx,_,Z,Kg.h.oa,Z,⟨⟨0,ρ9,A7,st,Z,Kg.h,wf.l_,fun r ws Aq KN hr0 KO UP=>?_⟩⟩⟩
 refine ⟨r,Z,⟨_,aH.of KO⟩,fun la hla=>?_⟩
 have wl:=UP.length
 refine jD (J:=x_ K r) (n:=st.aj.length) 0 (fun i out H'=>aP Aq H'/\iY H' out ((st.aj.take i).map (gQ m))) (by omega) ⟨aD hla _, .nil⟩ (fun i o H' hi _ hp=>⟨_,_,aH.of (hp.1 _ _ KO),bu (by omega)⟩) (fun o H' _ hp=>⟨_,aH.of (hp.1 _ _ KO),by omega⟩) ?_ ?_
 . rintro j y out VH Sm hj Bl ha ⟨g,R⟩ ⟨rfl,hy⟩
   have ep:=bu hj
   have dR:=yq hj
   generalize st.aj[j]=p at ep dR
   obtain ⟨t,et,ht⟩:=UP.get ep
   have ey:=hy _ (aH.of (g _ _ KO))
   rw [et] at ey
   cases ey
   have ht':Sm t=some (.tup [.str p.nm, .str p.ow, .int p.wo, .int p.we]):=g _ _ ht
   have sq:Sq K Sm t _:= .inr (bN.of ht')
   refine ⟨_,Z,sq.ix (i:=0) rfl ⟨_,Z,sq.ix (i:=1) rfl ⟨_,Z,sq.ix (i:=2) rfl ⟨_,Z,_,_,Z,Z,fu (V1.wo p dR) zm,_,Z,sq.ix (i:=3) rfl ⟨(gD 4),fun t2 N4=>?_⟩⟩⟩⟩⟩
   have g2:=aD N4 (Cu (gQ m p))
   refine ⟨g2 _ _ ha,(g.trans g2).cN hla _,?_⟩
   rw [take_snoc ep,bM]
   exact ((R.mono g2.tups).snoc (p:=gQ m p) ah).mono (iD (.inr ⟨_,g2 _ _ ha,Z⟩))
 rintro wa VH _ Ke ⟨NY,R11⟩
 rw [cK] at R11
 have gA:=KN.trans NY
 have UQ:=N8.mono gA
 refine ⟨_,Z,C9.a,C9.dx,_,Z,UQ.h.oa,Z,⟨⟨2,ρ9,C9,bV m st,Z,UQ.h,wf2.l_,fun r2 ws2 Sm Ka _ aaZ aa0=>ne_data (n:=2) (.lst (aH.of (Ka _ _ Ke)) (R11.mono Ka.tups).dt) (.lst (aH.of aaZ) aa0.dt) (C0 fun p hp=>?_) (by decide) ⟨_,Z,gr ?_⟩⟩⟩⟩
 . obtain ⟨x,hx,rfl⟩:=bJ.mp hp
   exact Z6 (afE x hx) (PX _ (wf.ow x hx))
 have gB:=gA.trans Ka
 have aa1:=Kg.mono gB
 have aa2:=N8.mono gB
 have KP:=NV.mono gB
 have aa3:=fO9.go (nh (ρ:=ρ9) gB)
 clear Kg N8 NV fO9 UP KO Ke R11 UQ aaZ aa0 hla hr0 KN NY Ka gA gB
 have aa4:Sm B3.m=some (.dK (ji B6)):=by rw [<-em6];exact KP.om
 have q8:(bz st).length=st.aj.length:=by unfold bz;rw [aE]
 have bl8:B6.qs.length=(bz st).length:=KP.ql
 have kn7:=yl.kn
 have kn9:=N9.kn
 refine ⟨_,Z,B3.m,_,Z,ee.k (k:=Sum.inr "parts") aa4,B6.lp,Z,⟨_,aH.of KP.op⟩,?_⟩
 refine jS (K:=K) (xs:=B6.qs.map V.ref) (fun j σ H'=>∃s8 k1 k2,σ=[some (.ref a),some (.ref zo),some (.ref zn),some (.ref B3.m),some (.ref l),some (.int m),some (.ref A7.a),some (.ref C9.a),s8,none,none,none]/\HH T 0 ρ9 A7 H' { st with kn:=k1 }/\HH T 2 ρ9 C9 H' { bV m st with kn:=k2 }/\k1<=st.kn+100*j/\k2<=st.kn+100*j/\bL 1 ρ9 B6 H' (dO st)/\aP (out ρ9 Sm) (out ρ9 H')) ⟨_,st.kn,st.kn,Z,aa1,aa2,aK _,aK _,KP,aP.refl _⟩ (fun j σ H' _ hp=>by obtain ⟨_,_,_,_,_,_,_,_,b,_⟩:=hp;exact aH.of b.op) ?_ ?_
 . rintro j y σ H' hy2 ⟨s8,k1,k2,rfl,N7,hc',hk1,hk2,hb',o'⟩
   have hj:j<st.aj.length:=by have:=(dS.mp hy2).1;rw [aE] at this;omega
   have ep:=bu hj
   have dR:=yq hj
   generalize st.aj[j]=p at ep dR
   obtain ⟨ap,ea,ha,_⟩:=hb'.find (l:=dO st) (qd ep)
   rw [cg,ea] at hy2
   cases hy2
   have sq:Sq K H' ap _:= .inl (aH.of ha)
   refine ⟨_,Z,A7.a,A7.dx,_,Z,N7.h.oa,Z,_,Z,sq.ix (i:=0) rfl ⟨⟨0,ρ9,A7,_,j,p,Z,N7,ep,by show k1+100<=1000000;omega,fun r1 us1 H2 kP F2 _ hr1 cr1 hs1=>?_⟩⟩⟩
   have hc2:=hc'.other F2 kP.g (by decide)
   have hb2:=hb'.other F2 N7.g (by decide)
   obtain ⟨ap2,ea2,ha2,_⟩:=hb2.find (l:=dO st) (qd ep)
   rw [ea] at ea2
   cases ea2
   have sq2:Sq K H2 ap _:= .inl (aH.of ha2)
   have VR:(bV m st).aj[j]?=some (gQ m p):=by show (st.aj.map (gQ m))[j]?=_;rw [cg,ep];rfl
   refine ⟨_,Z,C9.a,C9.dx,_,Z,hc2.h.oa,Z,_,Z,sq2.ix (i:=0) rfl ⟨⟨2,ρ9,C9,_,j,gQ m p,Z,hc2,VR,by show k2+100<=1000000;omega,fun r2 us2 H3 hc3 F3 _ hr2 _ hs2=>?_⟩⟩⟩
   have mH:=kP.other F3 hc3.g (by decide)
   have KL:=hb2.other F3 hc2.g (by decide)
   have afF:H3 r1=some (.lst us1):=(F3 r1 _ hr1 (fun t y z=>by rw [cr1] at z;cases z)).1
   have afG:i8 H3 us1 (kg st p):=hs1.mono fun b xs e=>(F3 b _ e (fun t y z=>by rw [kP.g.tup e] at z;cases z)).1
   refine ne_data (n:=3) (.lst (aH.of afF) afG.dt) (.lst (aH.of hr2) hs2.dt) (C0 fun x hx=>R7 (PX _ (LL (st:=st) (p:=p) hx))) (by decide) ⟨_,Z,gr ?_⟩
   exact ⟨_,k1+100,k2+100,Z,mH,hc3,by omega,by omega,KL,(o'.trans F2.out).trans F3.out⟩
 rintro σ VD ⟨s8,k1,k2,rfl,PY,UR,hk1,hk2,afH,o13⟩
 have aa6:=aa3.go o13
 clear aa1 aa2 KP aa3 o13 aa4
 refine ⟨_,Z,A7.a,A7.dx,_,Z,PY.h.oa,Z,⟨⟨0,ρ9,A7,_,Z,PY,fun r ws3 H14 g14 hr0 KQ US=>?_⟩⟩⟩
 refine ⟨r,Z,⟨_,aH.of KQ⟩,fun la2 xX=>?_⟩
 have ll:ws3.length=st.dj.length:=US.length
 have al:=yl.g.al
 refine jD (J:=x_ K r) (n:=st.dj.length) 0 (fun i out H'=>aP H14 H'/\jy la2 ρ9 H' out ((st.dj.take i).map (R6 m))) (by omega) ⟨aD xX _, .nil⟩ (fun i o H' hi _ hp=>⟨_,_,aH.of (hp.1 _ _ KQ),bu (by omega)⟩) (fun o H' _ hp=>⟨_,aH.of (hp.1 _ _ KQ),by omega⟩) ?_ ?_
 . rintro j y out VE H16 hj Bl ha ⟨g,R⟩ ⟨rfl,hy⟩
   have ey:=hy _ (aH.of (g _ _ KQ))
   obtain ⟨t,tl,ya,ss,rfl,ea,h1,h2,h3,h4⟩:=US.get ey
   have ea:st.dj[j]?=some ya:=ea
   have ham:=bX ea
   have sq:Sq K H16 t _:= .inr (bN.of (g _ _ h1))
   have nl:tl≠la2:=fun e=>by rw [e,xX] at h2;cases h2
   have zy:Jm.Sz 62 ya.wo:=(show Jm.Sz 62 (92000000000000:Int) from jC (by decide +kernel)).of_le (by have:=VZ.aw ya ham;omega)
   refine ⟨_,Z,sq.ix (i:=0) rfl ⟨_,Z,sq.ix (i:=1) rfl ⟨_,Z,sq.ix (i:=2) rfl ⟨_,Z,_,_,Z,Z,fu zy zm,_,Z,sq.ix (i:=3) rfl ⟨(gD 4),fun t2 N4=>?_⟩⟩⟩⟩⟩
   have g2:=aD N4 (.tup [.str ya.nm, .str ya.ow, .int (ya.wo*m), .ref tl])
   refine ⟨g2 _ _ ha,(g.trans g2).cN xX _,?_⟩
   rw [take_snoc ea,bM]
   exact ((R.mono g2).snoc (x:=R6 m ya) ah ((g.trans g2) _ _ h2) h3 nl (h4.mono (g.trans g2).tups)).upd (g2 _ _ ha)
 rintro wa2 VE _ aa8 ⟨g15,R15⟩
 rw [cK] at R15
 have gA:=g14.trans g15
 have UT:=UR.mono gA
 refine ⟨_,Z,C9.a,C9.dx,_,Z,UT.h.oa,Z,⟨⟨2,ρ9,C9,_,Z,UT,fun r2 ws2 H16 V2 _ aa_ aba=>ne_data (n:=5) (.lst (aH.of (V2 _ _ aa8)) (R15.mono V2).to.dt) (.lst (aH.of aa_) aba.dt) (C0 fun x hx=>?_) (by decide) ⟨_,Z,gr ?_⟩⟩⟩⟩
 . obtain ⟨ya,hya,rfl⟩:=bJ.mp hx
   exact Xm (xE (an7 ya hya)) (PX _ (VZ.ao ya hya)) fun z hz=>PX _ ((yl.g.dj ya hya).names hz)
 have gB:=gA.trans V2
 have PZ:=PY.mono gB
 have P0:=UR.mono gB
 have abc:=aa6.go (nh (ρ:=ρ9) gB)
 clear PY UR afH aa6 US KQ aa8 R15 UT aa_ aba xX hr0 g14 g15 V2 gA gB
 have afI:JM { st with kn:=k1 }:=⟨PZ.wf,V1.wo,V1.wh,V1.la⟩
 have afJ:JM { bV m st with kn:=k2 }:=⟨P0.wf,ok2.wo,ok2.wh,ok2.la⟩
 have sz1:=fun {o:Str} (ho:o∈st.own)=>NT yl.g VZ wf (by omega) (o:=o) ho
 have sz2:=fun {o:Str} (ho:o∈st.own)=>NT N9.g V0 wf2 (by omega) (o:=o) ho
 refine ⟨_,Z,zo,Z,⟨_,abc _ _ (aP.refl _)⟩,?_⟩
 refine jS (K:=K) (xs:=st.own.map V.str) (fun i σ H'=>∃s8 s9 Vk s11,σ=[some (.ref a),some (.ref zo),some (.ref zn),some (.ref B3.m),some (.ref l),some (.int m),some (.ref A7.a),some (.ref C9.a),s8,s9,Vk,s11]/\aP H16 H') ⟨_,_,_,_,Z,aP.refl _⟩ (fun i σ H' _ hp=>by obtain ⟨_,_,_,_,_,g⟩:=hp;exact abc _ _ (nh g)) ?_ ?_
 . rintro i y σ H' hy ⟨s8,s9,Vk,s11,rfl,g⟩
   rw [cg] at hy
   obtain ⟨o,eo,rfl⟩:=lW.mp hy
   have ho:=bX eo
   have sa:=sz1 ho
   have sb:=sz2 ho
   have h1:=PZ.h.mono g
   refine ⟨_,Z,A7.a,A7.dx,_,Z,h1.oa,Z,_,Z,⟨⟨0,ρ9,A7,_,o,Z,h1,afI,ho,fun r1 NW g17 hr1=>?_⟩⟩⟩
   have h2:=(P0.h.mono g).mono g17
   refine ⟨_,Z,C9.a,C9.dx,_,Z,h2.oa,Z,_,Z,⟨⟨2,ρ9,C9,_,o,Z,h2,afJ,ho,fun r2 H18 g18 hr2=>?_⟩⟩⟩
   have hr1:H18 r1=some (.tup [.int (lu st o).num, .int ((lu st o).den:Int)]):=g18 _ _ hr1
   have hr2:H18 r2=some (.tup [.int (lu (bV m st) o).num, .int ((lu (bV m st) o).den:Int)]):=hr2
   refine ⟨_,Z,r1,_,_,_,Z,Z,bN.of hr1,Z,_,Z,_,_,Z,Z,fu sa.1.1 zm,_,Z,r2,_,_,_,Z,Z,bN.of hr2,Z,_,_,Z,Z,fu (sa.1.1.mul zm) sb.1.2,?_⟩
   refine ⟨_,Z,r2,_,_,_,Z,Z,bN.of hr2,Z,_,Z,r1,_,_,_,Z,Z,bN.of hr1,Z,_,_,Z,Z,fu sb.1.1 sa.1.2,Z,_,Z,aM (fun c=>?_) (fun _=>?_)⟩
   . exact absurd c (by rw [show V.int _=V.int _ from jx V.int (JS (m:=m) wf o),a_ rfl];decide)
   have gC:=(g.trans g17).trans g18
   have h3:=PZ.h.mono gC
   refine ⟨_,Z,A7.a,A7.dx,_,Z,h3.oa,Z,_,Z,⟨⟨0,ρ9,A7,_,o,Z,h3,PZ.wf,ho,fun r3 H19 g19 V3=>?_⟩⟩⟩
   have h4:=(P0.h.mono gC).mono g19
   refine ⟨_,Z,C9.a,C9.dx,_,Z,h4.oa,Z,_,Z,⟨⟨2,ρ9,C9,_,o,Z,h4,P0.wf,ho,fun r4 H20 g20 V4=>?_⟩⟩⟩
   have V3:H20 r3=some (.tup [.int (lz st o).num, .int ((lz st o).den:Int)]):=g20 _ _ V3
   have V4:H20 r4=some (.tup [.int (lz (bV m st) o).num, .int ((lz (bV m st) o).den:Int)]):=V4
   refine ⟨_,Z,r3,_,_,_,Z,Z,bN.of V3,Z,_,Z,_,_,Z,Z,fu sa.2.1.1 zm,_,Z,r4,_,_,_,Z,Z,bN.of V4,Z,_,_,Z,Z,fu (sa.2.1.1.mul zm) sb.2.1.2,?_⟩
   refine ⟨_,Z,r4,_,_,_,Z,Z,bN.of V4,Z,_,Z,r3,_,_,_,Z,Z,bN.of V3,Z,_,_,Z,Z,fu sb.2.1.1 sa.2.1.2,Z,_,Z,aM (fun c=>?_) (fun _=>?_)⟩
   . exact absurd c (by rw [show V.int _=V.int _ from jx V.int (JT (m:=m) wf o),a_ rfl];decide)
   exact ⟨_,_,_,_,Z,(gC.trans g19).trans g20⟩
 rintro σ NW _
 exact q NW
end
theorem all_mk {l:PySem.W.OpenLaw} {w:World} {K:Fg} {h:Heap} {mg:SO} {fa:Addr} (X:K.In h) (G:h.Ns mainGlobals mg) (hfa:mg "law"=some (.ref fa))
  {f:Addr} {od an:Option Addr} {sl:Array (Option Value)} {oc kV dc pm cd ct:Value}
  (a:PySem.W.nsIn K mainGlobals "law"=some (some (.ref f))) (l1:K.lookup f=some ⟨oc,od, .func (PySem.W.fnOf "law" "law" (dY pJ) (cu pJ) (aC pJ) .none kV dc pm an cd ct),sl⟩) (c:PySem.W.codeIn K cd "law"=true) (k:PySem.W.keepIn K (.ref f)=true)
  (Dp:eZ K "common_factor" ny) (Sn:eZ K "made_of" xS) (So:eZ K "is_name" xT) (Ex:eZ K "check_amount" oW) (KR:eZ K "check_loss" rW) (KS:eZ K "amounts_of" rX) (Dq:eZ K "factor_of_all" nC) (Ma:eZ K "_law_draw" uB) (Mb:eZ K "_law_name" uC) (KU:eZ K "_law_names" sy) (Mc:eZ K "_law_lite" uD) (Me:eZ K "_law_much" uE) (Mf:eZ K "_law_rows" uF) (Mg:eZ K "_law_flat" uG) (Br:eZ K "_law_part_deed" mw) (Mh:eZ K "_law_deed" uH) (Ss:eZ K "_law_at" xY) (Dr:eZ K "_law_lite_one" nJ) (Ey:eZ K "_law_lite_do" pF) (KW:eZ K "_law_deeds" sH) (Ez:eZ K "_law_hold_do" pI) (GG:eZ K "_law_behind" qu) (GH:eZ K "_law_raised" qx)
  (acw:PySem.W.nsIn K mainGlobals "len"=some none)
  (Xo:PySem.W.nsIn K mainGlobals "range"=some none)
  (acy:PySem.W.nsIn K mainGlobals "sum"=some none)
  (abd:PySem.W.nsIn K mainGlobals "list"=some none)
  (acz:PySem.W.nsIn K mainGlobals "zip"=some none)
  (acA:PySem.W.nsIn K mainGlobals "all"=some none)
  (acB:PySem.W.nsIn K mainGlobals "int"=some none)
  (abe:PySem.W.nsIn K mainGlobals "bool"=some none)
  (acC:PySem.W.nsIn K mainGlobals "str"=some none)
  (Xp:PySem.W.nsIn K mainGlobals "tuple"=some none)
  (acD:PySem.W.nsIn K mainGlobals "abs"=some none)
  (KY:PySem.W.nsIn K mainGlobals "isinstance"=some none)
  (acE:PySem.W.nsIn K mainGlobals "min"=some none)
  {P_:Tok} (Su:PySem.W.nsIn K mainGlobals "LETTERS"=some (some (.str "abcdefghijklmnopqrstuvwxyz" P_)))
  {bZ:Addr} (Xq:PySem.W.nsIn K mainGlobals "Hold"=some (some (.ref bZ))) (Xr:PySem.W.plainGet K bZ Str.empty=true) (Xs:PySem.W.hasDictIn K bZ=true) (Xu:PySem.W.plainOver K bZ=true) (Xv:PySem.W.findIn K (.ref bZ) "__setattr__"=some (some (.builtin "object.__setattr__"))) (Xw:PySem.W.makesIn K bZ=true) (Xx:PySem.W.keepIn K (.ref bZ)=true)
  (Mi:cW K bZ "__init__" "Hold.__init__" uo) (Ds:cW K bZ "place_of" "Hold.place_of" nE) (EA:cW K bZ "part_of" "Hold.part_of" oY) (Bs:cW K bZ "check_new" "Hold.check_new" mj) (KZ:cW K bZ "parts" "Hold.parts" rZ) (K0:cW K bZ "whole" "Hold.whole" r6) (xZ:cW K bZ "beyond_common" "Hold.beyond_common" jK) (EB:cW K bZ "tops_of" "Hold.tops_of" o6) (Mj:cW K bZ "stow" "Hold.stow" uf) (Ml:cW K bZ "sign" "Hold.sign" ug) (Mm:cW K bZ "load" "Hold.load" uh) (GI:cW K bZ "shares" "Hold.shares" qj) (GJ:cW K bZ "landed" "Hold.landed" qo) (Du:cW K bZ "given_up" "Hold.given_up" nG) (GK:cW K bZ "lessen" "Hold.lessen" qg) (K1:cW K bZ "blend" "Hold.blend" r8) (Mp:cW K bZ "cast" "Hold.cast" ur) (K2:cW K bZ "award" "Hold.award" sf) (GL:cW K bZ "mishap" "Hold.mishap" qp) (Mq:cW K bZ "rise" "Hold.rise" ux) (Mr:cW K bZ "hand" "Hold.hand" uy) (Ms:cW K bZ "land" "Hold.land" uz) (K3:cW K bZ "sever" "Hold.sever" sj) (Bt:cW K bZ "stake_top" "Hold.stake_top" mq) (K4:cW K bZ "stake" "Hold.stake" sr) (K5:cW K bZ "purse" "Hold.purse" su)
  (GN:PySem.W.findIn K (.ref bZ) "places"=some none)
  (GO:PySem.W.findIn K (.ref bZ) "aboard"=some none)
  (GP:PySem.W.findIn K (.ref bZ) "ashore"=some none)
  (K6:PySem.W.findIn K (.ref bZ) "names"=some none)
  (GQ:PySem.W.findIn K (.ref bZ) "bottom"=some none)
  (GR:PySem.W.findIn K (.ref bZ) "common"=some none)
  (GS:PySem.W.findIn K (.ref bZ) "purses"=some none)
  {iW:Addr} (Xy:PySem.W.nsIn K mainGlobals "Part"=some (some (.ref iW))) (Xz:PySem.W.plainGet K iW Str.empty=true) (XA:PySem.W.hasDictIn K iW=true) (XC:PySem.W.plainOver K iW=true) (XD:PySem.W.findIn K (.ref iW) "__setattr__"=some (some (.builtin "object.__setattr__"))) (XE:PySem.W.makesIn K iW=true) (XF:PySem.W.keepIn K (.ref iW)=true)
  (Mt:cW K iW "__init__" "Part.__init__" ue)
  (Mu:PySem.W.findIn K (.ref iW) "name"=some none)
  (K7:PySem.W.findIn K (.ref iW) "owner"=some none)
  (K8:PySem.W.findIn K (.ref iW) "worth"=some none)
  (GU:PySem.W.findIn K (.ref iW) "weight"=some none)
  (K9:PySem.W.findIn K (.ref iW) "scale"=some none)
  (Qa:PySem.W.findIn K (.ref iW) "row"=some none)
  {fG:Addr} (Sv:PySem.W.nsIn K mainGlobals "Bottom"=some (some (.ref fG))) (Sw:PySem.W.plainGet K fG Str.empty=true) (Sx:PySem.W.hasDictIn K fG=true) (Sy:PySem.W.plainOver K fG=true) (SA:PySem.W.findIn K (.ref fG) "__setattr__"=some (some (.builtin "object.__setattr__"))) (SD:PySem.W.makesIn K fG=true) (SE:PySem.W.keepIn K (.ref fG)=true)
  (GV:cW K fG "__init__" "Bottom.__init__" qe) (GX:cW K fG "over" "Bottom.over" qi) (EC:cW K fG "share" "Bottom.share" o9) (GY:cW K fG "grow" "Bottom.grow" qf)
  (ED:PySem.W.findIn K (.ref fG) "steps"=some none)
  (Bu:PySem.W.findIn K (.ref fG) "product"=some none)
  (EE:PySem.W.findIn K (.ref fG) "known"=some none)
  {gE jc gF ie fm gG:Addr}
  (Qc:PySem.W.nsIn K mainGlobals "BadName"=some (some (.ref gE))) (UU:PySem.W.nsIn K mainGlobals "Twice"=some (some (.ref jc))) (Qd:PySem.W.nsIn K mainGlobals "NoOwner"=some (some (.ref gF))) (SG:PySem.W.nsIn K mainGlobals "NoPart"=some (some (.ref ie))) (K_:PySem.W.nsIn K mainGlobals "BadNumber"=some (some (.ref fm))) (Qe:PySem.W.nsIn K mainGlobals "TooMuch"=some (some (.ref gG)))
  (Qf:PySem.W.excIn K gE [.type "ValueError", .type "Exception", .type "BaseException", .type "object"] "ValueError.__new__"=true)
  (UW:PySem.W.excIn K jc [.type "ValueError", .type "Exception", .type "BaseException", .type "object"] "ValueError.__new__"=true)
  (Qg:PySem.W.excIn K gF [.type "ValueError", .type "Exception", .type "BaseException", .type "object"] "ValueError.__new__"=true)
  (SH:PySem.W.excIn K ie [.type "ValueError", .type "Exception", .type "BaseException", .type "object"] "ValueError.__new__"=true)
  (La:PySem.W.excIn K fm [.type "ValueError", .type "Exception", .type "BaseException", .type "object"] "ValueError.__new__"=true)
  (Qh:PySem.W.excIn K gG [.type "ValueError", .type "Exception", .type "BaseException", .type "object"] "ValueError.__new__"=true)
  :∃fd:FuncData,(∀(s:Shared) (v:Value),BindsTo s fd ⟨[v],[]⟩ [("_law_script",v)])/\∀base:Heap,K.In base->base.Ns mainGlobals mg->i7 l.prog w K mg base sL 8 fa fd ["_law_script"] (HF K):=by
 have e:=hfa.symm.trans (qz X G a)
 cases e
 have acF:=Vg (st:=pJ) X G a l1 c k
 have vh:nM K fG:=⟨Sw,Sx,Sy,SA⟩
 have c7:nM K bZ:=⟨Xr,Xs,Xu,Xv⟩
 obtain ⟨_,_,Dv⟩:=Dp.at X G
 obtain ⟨_,_,SI⟩:=Sn.at X G
 obtain ⟨_,_,SJ⟩:=So.at X G
 obtain ⟨_,_,EF⟩:=Ex.at X G
 obtain ⟨_,_,Lb⟩:=KR.at X G
 obtain ⟨_,_,Lc⟩:=KS.at X G
 obtain ⟨_,_,Dw⟩:=Dq.at X G
 obtain ⟨_,_,Mv⟩:=Ma.at X G
 obtain ⟨_,_,Mw⟩:=Mb.at X G
 obtain ⟨_,_,Ld⟩:=KU.at X G
 obtain ⟨_,_,My⟩:=Mc.at X G
 obtain ⟨_,_,Mz⟩:=Me.at X G
 obtain ⟨_,_,MA⟩:=Mf.at X G
 obtain ⟨_,_,MB⟩:=Mg.at X G
 obtain ⟨_,_,Bv⟩:=Br.at X G
 obtain ⟨_,_,MC⟩:=Mh.at X G
 obtain ⟨_,_,SK⟩:=Ss.at X G
 obtain ⟨_,_,Dy⟩:=Dr.at X G
 obtain ⟨_,_,EG⟩:=Ey.at X G
 obtain ⟨_,_,Le⟩:=KW.at X G
 obtain ⟨_,_,EH⟩:=Ez.at X G
 obtain ⟨_,_,GZ⟩:=GG.at X G
 obtain ⟨_,_,G_⟩:=GH.at X G
 have b_:=pR X G acw
 have c9:=pR X G Xo
 have iZ:=pR X G acy
 have ki:=pR X G abd
 have iA:=pR X G acz
 have PF:=pR X G acA
 have PU:=pR X G acB
 have ahQ:=pR X G abe
 have ahS:=pR X G acC
 have tF:=pR X G Xp
 have ahT:=pR X G acD
 have uI:=pR X G KY
 have ve:=pR X G acE
 have zg:=qz X G Su
 obtain ⟨_,_,MD⟩:=Mi.made X G Xq Xw Xx
 obtain ⟨_,_,Dz⟩:=Ds.at c7
 obtain ⟨_,_,EI⟩:=EA.at c7
 obtain ⟨_,_,Bw⟩:=Bs.at c7
 obtain ⟨_,_,Lf⟩:=KZ.at c7
 obtain ⟨_,_,Lg⟩:=K0.at c7
 obtain ⟨_,_,x6⟩:=xZ.at c7
 obtain ⟨_,_,EJ⟩:=EB.at c7
 obtain ⟨_,_,ME⟩:=Mj.at c7
 obtain ⟨_,_,MF⟩:=Ml.at c7
 obtain ⟨_,_,MG⟩:=Mm.at c7
 obtain ⟨_,_,Hf⟩:=GI.at c7
 obtain ⟨_,_,Hg⟩:=GJ.at c7
 obtain ⟨_,_,DA⟩:=Du.at c7
 obtain ⟨_,_,Hh⟩:=GK.at c7
 obtain ⟨_,_,Lh⟩:=K1.at c7
 obtain ⟨_,_,MH⟩:=Mp.at c7
 obtain ⟨_,_,Li⟩:=K2.at c7
 obtain ⟨_,_,Hi⟩:=GL.at c7
 obtain ⟨_,_,MI⟩:=Mq.at c7
 obtain ⟨_,_,MJ⟩:=Mr.at c7
 obtain ⟨_,_,MK⟩:=Ms.at c7
 obtain ⟨_,_,Lj⟩:=K3.at c7
 obtain ⟨_,_,By⟩:=Bt.at c7
 obtain ⟨_,_,Lk⟩:=K4.at c7
 obtain ⟨_,_,Ll⟩:=K5.at c7
 obtain ⟨_,_,ML⟩:=Mt.made X G Xy XE XF
 obtain ⟨_,_,Hj⟩:=GV.made X G Sv SD SE
 obtain ⟨_,_,Hl⟩:=GX.at vh
 obtain ⟨_,_,EK⟩:=EC.at vh
 obtain ⟨_,_,Ho⟩:=GY.at vh
 have TX:Txt K ⟨bZ,iW,fG⟩:=⟨c7,⟨Xz,XA,XC,XD⟩,vh,GN,GO,GP,K6,GQ,GR,GS,Mu,K7,K8,GU,K9,Qa,ED,Bu,EE⟩
 have zu:=qz X G Qc
 have Ef:=qz X G UU
 have zh:=qz X G Qd
 have Bf:=qz X G SG
 have kq:=qz X G K_
 have jl:=qz X G Qe
 have xV:=gK.of Qf
 have Bh:=gK.of UW
 have xU:=gK.of Qg
 have zj:=gK.of SH
 have jI:=gK.of La
 have iz:=gK.of Qh
 refine ⟨PySem.W.fnOf "law" "law" (dY pJ) (cu pJ) (aC pJ) .none kV dc pm an cd ct,fun s v=> .of_eq rfl,fun base _ _=>?_⟩
 have h_:=A_ (P:=l.prog) (w:=w) (base:=base) (mg:=mg) Dv
 have zf:=PD (P:=l.prog) (w:=w) (base:=base) (mg:=mg) SI PF
 have nW:=PK SJ zf b_ zg
 have dQ:=Ba (P:=l.prog) (w:=w) (base:=base) (mg:=mg) (e:=⟨gE,jc,gF,ie,0,fm,gG,0,0,0,0⟩) EF jI kq
 have mU:=D8 Lb dQ iz jl
 have XG:=ZS dQ
 have uw:=ZT mU
 have uu:=Ga (P:=l.prog) (w:=w) (base:=base) (mg:=mg) Lc b_
 have o7:=Bb Dw h_
 have Bj:=D_ (P:=l.prog) (w:=w) (base:=base) (mg:=mg) Hj TX
 have wu:=JZ (P:=l.prog) (w:=w) (base:=base) (mg:=mg) ML TX ki
 have KJ:=J_ MD TX Bj
 have r_:=Eb (P:=l.prog) (w:=w) (base:=base) (mg:=mg) Ho TX
 have fU:=Ei Hl TX h_
 have qm:=Dg EK TX fU
 have fj:=Ae (P:=l.prog) (w:=w) (base:=base) (mg:=mg) (e:=⟨gE,jc,gF,ie,0,fm,gG,0,0,0,0⟩) Dz TX xU zh
 have cX:=Uh fj
 have b8:=Be (P:=l.prog) (w:=w) (base:=base) (mg:=mg) (e:=⟨gE,jc,gF,ie,0,fm,gG,0,0,0,0⟩) EI TX zj Bf
 have iI:=RL b8
 have jz:=zq (e:=⟨gE,jc,gF,ie,0,fm,gG,0,0,0,0⟩) Bw TX nW xV zu Bh Ef
 have nF:=ZU jz
 have pL:=Gf (P:=l.prog) (w:=w) (base:=base) (mg:=mg) Lf TX
 have gy:=Gi (P:=l.prog) (w:=w) (base:=base) (mg:=mg) Lg TX iZ
 have fC:=wm (P:=l.prog) (w:=w) (base:=base) (mg:=mg) x6 TX iA
 have fD:=C_ (P:=l.prog) (w:=w) (base:=base) (mg:=mg) EJ TX iA
 have kr:=J4 (P:=l.prog) (w:=w) (base:=base) (mg:=mg) ME TX
 have kC:=J5 MF TX nW b_
 have vK:=J6 MG TX nF cX fC kr wu b_
 have o8:=Bk (P:=l.prog) (w:=w) (base:=base) (mg:=mg) DA TX iZ iA
 have ja:=Eh (P:=l.prog) (w:=w) (base:=base) (mg:=mg) Hh TX
 have jM:=Gk Lh TX o7 r_ iA
 have vL:=Kf MH TX uu uw iI gy jM o8 ja iZ
 have wG:=Ek Hf TX iI fD qm iA
 have m5:=Em (P:=l.prog) (w:=w) (base:=base) (mg:=mg) Hg TX ki
 have Hq:=En (e:=⟨gE,jc,gF,ie,0,fm,gG,0,0,0,0⟩) Li TX fj dQ gy jM b_ iz jl
 have EL:=Dh (e:=⟨gE,jc,gF,ie,0,fm,gG,0,0,0,0⟩) Hi TX b8 mU ja
 have Lm:=Gr (e:=⟨gE,jc,gF,ie,0,fm,gG,0,0,0,0⟩) MI TX b8 dQ
 have Ln:=Gs (e:=⟨gE,jc,gF,ie,0,fm,gG,0,0,0,0⟩) MJ TX b8 fj fD fC
 have Lo:=Gu (e:=⟨gE,jc,gF,ie,0,fm,gG,0,0,0,0⟩) MK TX b8 cX fD wG iA
 have Hr:=Ep (e:=⟨gE,jc,gF,ie,0,fm,gG,0,0,0,0⟩) Lj TX b8 jz kr wu jI kq iz jl
 have nH:=Ag By TX gy iZ
 have pM:=Gw Lk TX fU nH cX
 have pN:=Gy Ll TX fU cX
 have aW:=Kr (P:=l.prog) (w:=w) (base:=base) (mg:=mg) Mv b_ c9
 have qP:=Ks (P:=l.prog) (w:=w) (base:=base) (mg:=mg) Mw c9
 have pK:=Gz Ld aW qP c9
 have vM:=Kw (P:=l.prog) (w:=w) (base:=base) (mg:=mg) My ki
 have ku:=Ky Mz aW
 have vG:=Kz MA aW b_ c9 ki iZ ve
 have vH:=KA (P:=l.prog) (w:=w) (base:=base) (mg:=mg) MB tF
 have nI:=Ah Bv aW ku vG vH b_ iZ ve
 have vJ:=KD MC aW ku nI b_
 have vg:=PR (P:=l.prog) (w:=w) (base:=base) (mg:=mg) SK b_ c9
 have pG:=Bq (P:=l.prog) (w:=w) (base:=base) (mg:=mg) Dy
 have qt:=Dk EG vg pG b_ c9
 have uJ:=GA Le vJ qt c9
 have qw:=Dm EH kC vK vL Hq.n EL.n Lm.n Ln.n Lo.n Hr.n b_ c9
 have mZ:=Et GZ KJ kC qw
 have sJ:=Ew (P:=l.prog) (w:=w) (base:=base) (mg:=mg) G_ uI PU tF
 exact aaO acF aW pK vM uJ mZ sJ pL wG m5 pM pN
theorem walk {l:PySem.W.OpenLaw} {q:Program} {loose:List Str} {XP:(Str->Option Value)->Heap->Prop} {YP:World->Heap->Prop} {d:DefRec} {K:Params->Fg} (hn:l.most=some 63) (hdf:d.params.defaults=[])
  (hY:∀(w:World) (h:Heap),YP w h->(K w.params).In h)
  (F:∀(w:World) (mg:SO) (fa:Addr) (h:Heap),(K w.params).In h->h.Ns mainGlobals mg->mg d.name=some (.ref fa)->
    ∃fd:FuncData,(∀(s:Shared) (u:Value),BindsTo s fd ⟨[u],[]⟩ [("_law_script",u)])/\∀base:Heap,(K w.params).In base->base.Ns mainGlobals mg->i7 l.prog w (K w.params) mg base sL 8 fa fd ["_law_script"] (HF (K w.params))):
  PySem.W.WalkO q loose XP YP l.row.toRowW d [] (fun f vs=>PySem.call f vs):=
 L2.Wr (n:=63) (k:=8) (x:="_law_script") (CX:=fun _=>sL) (sp:=fun w=>HF (K w.params)) hn (by decide) hdf ⟨Z,by decide,by decide⟩ hY F (fun _ _ a ns hl _ hS=>⟨a,ns,Z,hS,hl,fun _=>rfl⟩) fun _ _ _ _ _ z=>z
end Z8
namespace PySem.W.Fast
abbrev A:=True
theorem a:A:=⟨⟩
theorem tw7840910374052303686:A:=a
theorem tw51017102528471046:A:=a
theorem tw6639213325307101404:A:=a
theorem tw7692295070654840874:A:=a
theorem tw10535237805218910027:A:=a
theorem tw1896326803991269725:A:=a
theorem tw3065677323548828901:A:=a
theorem tw18376248396527772424:A:=a
theorem tw11128883058747587748:A:=a
theorem tw14565377564097170169:A:=a
theorem tw9192825124279224837:A:=a
theorem tw14209423285247600181:A:=a
theorem tw6770023388071435060:A:=a
theorem tw16901218298314363475:A:=a
theorem tw12316625409701940837:A:=a
theorem tw17799912102168045320:A:=a
theorem tw8568138246147879571:A:=a
theorem tw14711435871918400220:A:=a
theorem tw6239545938808080750:A:=a
theorem tw12429185648799146876:A:=a
theorem tw17532318393533422865:A:=a
theorem tw12890126944004723996:A:=a
theorem tw3846771615541752852:A:=a
theorem tw17049131450166018829:A:=a
theorem tw2224629409558048795:A:=a
theorem tw3678070013611862337:A:=a
theorem tw11651877734131017166:A:=a
theorem tw200077432086765214:A:=a
theorem tw13578537508165488645:A:=a
theorem tw15990794041852845622:A:=a
theorem tw1298637521565762468:A:=a
theorem tw2491924705105431226:A:=a
theorem tw8838357863035992397:A:=a
theorem tw11925765743975614792:A:=a
theorem tw912348107727539483:A:=a
theorem tw4047808702523898569:A:=a
theorem tw8357516016372599281:A:=a
theorem tw1229685795168124708:A:=a
theorem tw3687205697483007443:A:=a
theorem tw1801121772243327149:A:=a
theorem tw9531882633543643099:A:=a
theorem tw12980252074044855270:A:=a
theorem tw17823226134116096433:A:=a
theorem tw12190909166632331415:A:=a
theorem tw8421078889645973570:A:=a
theorem tw15784725385057075613:A:=a
theorem tw17525290386882309864:A:=a
theorem tw9660071228308571324:A:=a
theorem tw10697820921847059323:A:=a
theorem tw9924913883412688448:A:=a
theorem tw7537403090196982749:A:=a
theorem tw18412094839021702293:A:=a
theorem tw2710606691882533458:A:=a
theorem tw13379782771719621714:A:=a
theorem tw8040595639120687489:A:=a
theorem tw6419225282973196167:A:=a
theorem tw3952841677527769419:A:=a
theorem tw12430962772841381894:A:=a
theorem tw14067587060280957744:A:=a
theorem tw12814899912362406083:A:=a
theorem tw16292578288991127707:A:=a
theorem tw12970369983639042775:A:=a
theorem tw12260191885965217980:A:=a
theorem tw8212529906131909079:A:=a
theorem tw904725327939985035:A:=a
theorem tw1229406921869477418:A:=a
theorem tw10729497290131537344:A:=a
theorem tw17038974813280037156:A:=a
theorem tw1632919094781052241:A:=a
theorem tw13659822295692656283:A:=a
theorem tw13973649835398478274:A:=a
theorem tw17027479983444874992:A:=a
theorem tw12507162744491582355:A:=a
theorem tw12912647929706513654:A:=a
theorem tw9846945925979655576:A:=a
theorem tw16995074151260502754:A:=a
theorem tw3246168086678083181:A:=a
theorem tw17966769460618425425:A:=a
theorem tw12665677337379068971:A:=a
theorem tw16650547710133387570:A:=a
theorem tw1670289948843159827:A:=a
theorem tw9874880777264792108:A:=a
theorem tw17513977764546305557:A:=a
theorem tw14027031112272125089:A:=a
theorem tw17007490197980574981:A:=a
theorem tw11180664779954065781:A:=a
theorem tw10231938415022319123:A:=a
theorem tw10712187077386934900:A:=a
theorem tw5305649874050315032:A:=a
theorem tw9029130803262488100:A:=a
theorem tw10744822057529329589:A:=a
theorem tw14064509631907653004:A:=a
theorem tw14678098224860588987:A:=a
theorem tw7462296439644867385:A:=a
theorem tw3430458994845183847:A:=a
theorem tw10805938662432304952:A:=a
theorem tw9909833805488553789:A:=a
theorem tw7579305215471683699:A:=a
theorem tw9430848188703759372:A:=a
theorem tw6153502424601600992:A:=a
theorem tw14997860493633390757:A:=a
theorem tw9993575581037176820:A:=a
theorem tw96088205730626587:A:=a
theorem tw6189022362179358412:A:=a
theorem tw1492201727709450484:A:=a
theorem tw15492315379000159700:A:=a
theorem tw15150939776687337667:A:=a
theorem tw12154928222471844435:A:=a
theorem tw12045419357795845204:A:=a
theorem tw13504434933047239720:A:=a
theorem tw7810272650391318884:A:=a
theorem tw14077485336043510308:A:=a
theorem tw1544100906132905239:A:=a
theorem tw11839256628552511791:A:=a
theorem tw6416294152193794859:A:=a
theorem tw3384238897086739139:A:=a
theorem tw8397328015542707752:A:=a
theorem tw4413324649738812650:A:=a
theorem tw5427278491801859371:A:=a
theorem tw16071071730701486033:A:=a
theorem tw1024132258408207519:A:=a
theorem tw7688171133000873940:A:=a
theorem tw14073853392226360157:A:=a
theorem tw16003974742299991247:A:=a
theorem tw7463469795032225481:A:=a
theorem tw349370910254844829:A:=a
theorem tw9873070504866742604:A:=a
theorem tw11068291135744471590:A:=a
theorem tw7467738773675507185:A:=a
theorem tw171950512854677309:A:=a
theorem tw8258509171666849108:A:=a
theorem tw786766574943747718:A:=a
theorem tw9013142186152643161:A:=a
theorem tw6247968741198666358:A:=a
theorem tw3393646298021051238:A:=a
theorem tw4020476967552710274:A:=a
theorem tw17654345770833875235:A:=a
theorem tw6932688788639223690:A:=a
theorem tw13162531428473448950:A:=a
theorem tw17373378473292614924:A:=a
theorem tw113570326719828483:A:=a
theorem tw14701679905634287093:A:=a
theorem tw17168285389366642966:A:=a
theorem tw10953162346038661579:A:=a
theorem tw10661504359883014863:A:=a
theorem tw14656980350132865771:A:=a
theorem tw6657387606473364102:A:=a
theorem tw9862959445780590238:A:=a
theorem tw710013499074935354:A:=a
theorem tw13724365471926784052:A:=a
theorem tw2511256789308681298:A:=a
theorem tw14824841586161669083:A:=a
theorem tw10522595897018109926:A:=a
theorem tw17078565982299405218:A:=a
theorem tw4047014980602469437:A:=a
theorem tw12106132608173474383:A:=a
theorem tw6841311408319366599:A:=a
theorem tw11375058994387791898:A:=a
theorem tw9272316692980988576:A:=a
theorem tw2608650310441506335:A:=a
theorem tw3618920692377206423:A:=a
theorem tw16119400881060321342:A:=a
theorem tw12376600894669123449:A:=a
theorem tw1035892548641179852:A:=a
theorem tw3249385588040942155:A:=a
theorem tw17660929510266904063:A:=a
theorem tw7558800101958934897:A:=a
theorem tw14262262106126557222:A:=a
theorem tw6337385253313494996:A:=a
theorem tw18013590858202433264:A:=a
theorem tw7142109181575920964:A:=a
theorem tw15661860685540160100:A:=a
theorem tw7875496410172751466:A:=a
theorem tw10392207266362126194:A:=a
theorem tw15740755095383822463:A:=a
theorem tw2070157659482591402:A:=a
theorem tw16326188497736789622:A:=a
theorem tw8890343532288612835:A:=a
theorem tw8191348924408462100:A:=a
theorem tw11281012572620864539:A:=a
theorem tw15438625742040144088:A:=a
theorem tw6482027132665396554:A:=a
theorem tw4181965340701735657:A:=a
theorem tw12141579042553056910:A:=a
theorem tw14776369992762730202:A:=a
theorem tw17351012087230999469:A:=a
theorem tw9524986778917770307:A:=a
theorem tw6677748567543024018:A:=a
theorem tw2405743350443763999:A:=a
theorem tw17804086974960862794:A:=a
theorem tw11186946732379381261:A:=a
theorem tw2173107757778136389:A:=a
theorem tw11914181581962883206:A:=a
theorem tw7105971500771308484:A:=a
theorem tw10206130458846514746:A:=a
theorem tw11210663203380798672:A:=a
theorem tw10639977515813054257:A:=a
theorem tw15870178951741539972:A:=a
theorem tw6149838536176248441:A:=a
theorem tw13464813529109485435:A:=a
theorem tw1608991537790816089:A:=a
theorem tw15808577236203033005:A:=a
theorem tw1375320197225914964:A:=a
theorem tw1858209531292917984:A:=a
theorem tw2445985949930285235:A:=a
theorem tw6745838710052980964:A:=a
theorem tw9777984289626859268:A:=a
theorem tw10744928689487106791:A:=a
theorem tw4021622836421867830:A:=a
theorem tw6703001458402450835:A:=a
theorem tw2607554066749333946:A:=a
theorem tw16803176777174429192:A:=a
theorem tw340114318512104309:A:=a
theorem tw6879259358893113682:A:=a
theorem tw17367022671301666900:A:=a
theorem tw13836849570870375330:A:=a
theorem tw3894778349878550757:A:=a
theorem tw12667421096199926347:A:=a
theorem tw9634640561385048065:A:=a
theorem tw7004242875558747194:A:=a
theorem tw9579149665029040971:A:=a
theorem tw14502764200098501052:A:=a
theorem tw8803720681868606039:A:=a
theorem tw12468875736538452552:A:=a
theorem tw8018331961509977632:A:=a
theorem tw14233365395386951279:A:=a
theorem tw7936607721389634696:A:=a
theorem tw7440267976466562316:A:=a
theorem tw8862288236897186634:A:=a
theorem tw17000742492422302910:A:=a
theorem tw2543658455996089967:A:=a
theorem tw8161575861543460795:A:=a
theorem tw5298163453299366958:A:=a
theorem tw14246577298464368788:A:=a
theorem tw3849783172791770809:A:=a
theorem tw1166664999835229764:A:=a
theorem tw160388083466127669:A:=a
theorem tw6895323173794943214:A:=a
theorem tw15112111201822297203:A:=a
theorem tw9030341034449490792:A:=a
theorem tw12175183528941155991:A:=a
theorem tw8455922745613336374:A:=a
theorem tw18224975052740979342:A:=a
theorem tw13886775987478829715:A:=a
theorem tw14299855906746416584:A:=a
theorem tw18217545393509807229:A:=a
theorem tw5169376039255608534:A:=a
theorem tw9269555300613442610:A:=a
theorem tw3591689499568809086:A:=a
theorem tw5781632825343052489:A:=a
theorem tw14341422060861990078:A:=a
theorem tw3085970561947647240:A:=a
theorem tw4812250568942379276:A:=a
theorem tw8306203557719221404:A:=a
theorem tw3207855727515733482:A:=a
theorem tw14774160395625659997:A:=a
theorem tw7796719886157726595:A:=a
theorem tw12056879014404666008:A:=a
theorem tw2606368560883414004:A:=a
theorem tw16421953513485122139:A:=a
theorem tw424578843697840326:A:=a
theorem tw1617844451687679444:A:=a
theorem tw7933706934511695850:A:=a
theorem tw9942654998052122832:A:=a
theorem tw1902807743468393424:A:=a
theorem tw11358171749568054503:A:=a
theorem tw10133067253553417644:A:=a
theorem tw12108135129597106378:A:=a
theorem tw12242467084724485296:A:=a
theorem tw6598380999431634134:A:=a
theorem tw11216220788656699480:A:=a
theorem tw10858690542228599341:A:=a
theorem tw4180521304789938942:A:=a
theorem tw10724606529740351909:A:=a
theorem tw853293171253668181:A:=a
theorem tw15993423966184186060:A:=a
theorem tw1368507126154474295:A:=a
theorem tw6555420358713604204:A:=a
theorem tw3050786845478531374:A:=a
theorem tw9823821871965539689:A:=a
theorem tw17856143730065678886:A:=a
theorem tw14331926027264794119:A:=a
theorem tw17068023774393541024:A:=a
theorem tw11028331508743147474:A:=a
theorem tw15289365617832453865:A:=a
theorem tw15413217787735138546:A:=a
theorem tw14952595105447241487:A:=a
theorem tw9222314463650316546:A:=a
theorem tw524431756379451122:A:=a
theorem tw18111636638870736319:A:=a
theorem tw13128789432101728711:A:=a
theorem tw13992375724503345202:A:=a
theorem tw3578988808913918753:A:=a
theorem tw7865120118728387515:A:=a
theorem tw8315794670536352826:A:=a
theorem tw16401944779703927178:A:=a
theorem tw13282318889904949624:A:=a
theorem tw3090103930804230116:A:=a
theorem tw17192683785010851079:A:=a
theorem tw15053186152365161926:A:=a
theorem tw1436921083667464675:A:=a
theorem tw6124138667589571637:A:=a
theorem tw11993209608091156394:A:=a
theorem tw1099574075495566298:A:=a
theorem tw12220112359696483654:A:=a
theorem tw7778786931496172220:A:=a
theorem tw11843707438513433069:A:=a
theorem tw4191641982239835705:A:=a
theorem tw3363733461226109658:A:=a
theorem tw14366134678059630574:A:=a
theorem tw11886794939165046794:A:=a
theorem tw1128395892508149063:A:=a
theorem tw12250213462194432923:A:=a
theorem tw12198760726448241629:A:=a
theorem tw11817225223840899928:A:=a
theorem tw12693532468607951650:A:=a
theorem tw14782578085640772783:A:=a
theorem tw12103647460681584611:A:=a
theorem tw16344729413017196418:A:=a
theorem tw8854853628451841043:A:=a
theorem tw7245867215183229927:A:=a
theorem tw5407865516888333944:A:=a
theorem tw11263873961963998962:A:=a
theorem tw3473438134901845185:A:=a
theorem tw14100613086818916409:A:=a
theorem tw3353092531308864876:A:=a
theorem tw3367446715687528088:A:=a
theorem tw2432574121356143867:A:=a
theorem tw6724222366829501264:A:=a
theorem tw9562283023939645196:A:=a
theorem tw4703202144187099801:A:=a
theorem tw15777933714369217129:A:=a
theorem tw14687763334170604431:A:=a
theorem tw9798756574431326127:A:=a
theorem tw15778135204626109899:A:=a
theorem tw9979902747244981811:A:=a
theorem tw6358051229079415196:A:=a
theorem tw18091405544792895345:A:=a
theorem tw4195821609745601562:A:=a
theorem tw14829851264599315395:A:=a
theorem tw12275907080517020907:A:=a
theorem tw3673350725078035338:A:=a
theorem tw10972377338364939664:A:=a
theorem tw7307355952798582843:A:=a
theorem tw11461258241559025992:A:=a
theorem tw12559116796494307222:A:=a
theorem tw15746395879947477767:A:=a
theorem tw8808540270140787219:A:=a
theorem tw17817376392929056688:A:=a
theorem tw9879960468826719248:A:=a
theorem tw9284460827699747577:A:=a
theorem tw14427464518048827589:A:=a
theorem tw4105109805344152118:A:=a
theorem tw2856531346018373521:A:=a
theorem tw10540377332767467009:A:=a
theorem tw12066304158488315641:A:=a
theorem tw5102927804858646329:A:=a
theorem tw2482185371551983243:A:=a
theorem tw16414069673674660970:A:=a
theorem tw2559602915162782305:A:=a
theorem tw4209225619020117336:A:=a
theorem tw15603387618426678950:A:=a
theorem tw8951297085084388504:A:=a
theorem tw14737393352380552809:A:=a
theorem tw18357661144668301393:A:=a
theorem tw4457575280353733588:A:=a
theorem tw8958703062070373337:A:=a
theorem tw6895590171416869992:A:=a
theorem tw12558144174568888827:A:=a
theorem tw17164330337314912113:A:=a
theorem tw12893961726099749662:A:=a
theorem tw1316136059839291929:A:=a
theorem tw7700920804041424291:A:=a
theorem tw3823830667848371948:A:=a
theorem tw4359501835475294436:A:=a
theorem tw11793765840507814348:A:=a
theorem tw5751254717467633950:A:=a
theorem tw15871551100311899061:A:=a
theorem tw387403409038751515:A:=a
theorem tw6093145052642104209:A:=a
theorem tw8837408068053702042:A:=a
theorem tw6145672634196554715:A:=a
theorem tw18073291422264000926:A:=a
theorem tw16253050500216734381:A:=a
theorem tw1786807318662597885:A:=a
theorem tw14001629339492611902:A:=a
theorem tw3046995512312837585:A:=a
theorem tw3843552779980158652:A:=a
theorem tw12257386156158865080:A:=a
theorem tw17147849474930927432:A:=a
theorem tw17863352825319548916:A:=a
theorem tw792619664959474285:A:=a
theorem tw3975466171597604765:A:=a
theorem tw8139469168142347415:A:=a
theorem tw11575214272952394749:A:=a
theorem tw10600691967971926272:A:=a
theorem tw2611357432441964857:A:=a
theorem tw9904799908375160041:A:=a
theorem tw17114118108927301554:A:=a
theorem tw16919742248545997257:A:=a
theorem tw3109397765720028673:A:=a
theorem tw2924794032132324765:A:=a
theorem tw9404461754900273635:A:=a
theorem tw867492561754766258:A:=a
theorem tw17386999115474398134:A:=a
theorem tw9073435762130482131:A:=a
theorem tw12521595627775420557:A:=a
theorem tw14615911253800560006:A:=a
theorem tw4167647336412142739:A:=a
theorem tw5657101610706358990:A:=a
theorem tw11419036785025853011:A:=a
theorem tw17554041285902292739:A:=a
theorem tw3778436082356424056:A:=a
theorem tw15712544094212401629:A:=a
theorem tw4674132544783401478:A:=a
theorem tw2444623527681244304:A:=a
theorem tw10587245867512333812:A:=a
theorem tw11421528994933155300:A:=a
theorem tw9234702345047088038:A:=a
theorem tw753344359521537802:A:=a
theorem tw15539571671527326487:A:=a
theorem tw11906211143243489170:A:=a
theorem tw10448095456773273004:A:=a
theorem tw7464137110327846875:A:=a
theorem tw15049788303412956055:A:=a
theorem tw5831014543773257:A:=a
theorem tw16415813148633017433:A:=a
theorem tw3024098762342427442:A:=a
theorem tw12561057022495034311:A:=a
theorem tw1496746270893847166:A:=a
theorem tw15105192218750166198:A:=a
theorem tw16972198496499780859:A:=a
theorem tw6723939847595958317:A:=a
theorem tw4940852447744453108:A:=a
theorem tw16943862085777700374:A:=a
theorem tw12862003673942009940:A:=a
theorem tw6879850903116699545:A:=a
theorem tw17301208214227212173:A:=a
theorem tw16674050388987744829:A:=a
theorem tw11229784006759170144:A:=a
theorem tw17483908992624064470:A:=a
theorem tw16675244809405922632:A:=a
theorem tw2266780814178653934:A:=a
theorem tw1496498569250298299:A:=a
theorem tw14162615953250585170:A:=a
theorem tw3684994161798685570:A:=a
theorem tw15667915776828966198:A:=a
theorem tw10785774778530852966:A:=a
theorem tw8661267750760087975:A:=a
theorem tw7583292624000785887:A:=a
theorem tw4313818396361346111:A:=a
theorem tw7541381088986061198:A:=a
theorem tw3728386273093370980:A:=a
theorem tw1712895903344258031:A:=a
theorem tw14888337539311167795:A:=a
theorem tw1075846725089504247:A:=a
theorem tw16060123181219502277:A:=a
theorem tw15651991806487641641:A:=a
theorem tw12520543639361017561:A:=a
theorem tw14894274570001932565:A:=a
theorem tw364189853169809034:A:=a
theorem tw4363709665667425467:A:=a
theorem tw6549276872120062136:A:=a
theorem tw12785877123671850074:A:=a
theorem tw7899202972968439835:A:=a
theorem tw11062559283084285605:A:=a
theorem tw12813603780126943285:A:=a
theorem tw3491761865648513068:A:=a
theorem tw14166393272205349474:A:=a
theorem tw3234566579455502360:A:=a
theorem tw14963170013143691686:A:=a
theorem tw14905670831830150187:A:=a
theorem tw15781381191079062834:A:=a
theorem tw1095009878635127178:A:=a
theorem tw4920161939050957014:A:=a
theorem tw6416162157541864070:A:=a
theorem tw13105996800173233091:A:=a
theorem tw8213204431680473587:A:=a
theorem tw4098837718264020480:A:=a
theorem tw963365870804075120:A:=a
theorem tw8364973713941694301:A:=a
theorem tw10706464204299584034:A:=a
theorem tw17076321897982166430:A:=a
theorem tw2601419254103835052:A:=a
theorem tw12838078179637593113:A:=a
theorem tw7003335390452260264:A:=a
theorem tw3482180736028042174:A:=a
theorem tw5506797721005372151:A:=a
theorem tw11499420684683552238:A:=a
theorem tw2430319062341764068:A:=a
theorem tw12533643217832339228:A:=a
theorem tw6638567955744707613:A:=a
theorem tw17406511660761187997:A:=a
theorem tw3588900321853385799:A:=a
theorem tw14822897782344271532:A:=a
theorem tw16419881182919765036:A:=a
theorem tw13498937923822805566:A:=a
theorem tw2344596718556439875:A:=a
theorem tw7276532081051341336:A:=a
theorem tw10689768384116358928:A:=a
theorem tw12806408328998236242:A:=a
theorem tw6043897736904189369:A:=a
theorem tw14930861530218553320:A:=a
theorem tw11827158794947942765:A:=a
theorem tw8611321691017208256:A:=a
theorem tw18104187977004995452:A:=a
theorem tw6949645520652506280:A:=a
theorem tw721414158525230963:A:=a
theorem tw3297308022691711664:A:=a
theorem tw1367247043881629921:A:=a
theorem tw6194335429923552120:A:=a
theorem tw13315657651125342546:A:=a
theorem tw1210680875849159147:A:=a
theorem tw7473200994351147337:A:=a
theorem tw12069212984831755143:A:=a
theorem tw15683560527041195094:A:=a
theorem tw755242414941857470:A:=a
theorem tw415199780598217116:A:=a
theorem tw2662403983797962744:A:=a
theorem tw13684586438683656475:A:=a
theorem tw15016420031249232924:A:=a
theorem tw10100317518860002479:A:=a
theorem tw5542015791317466281:A:=a
theorem tw4626674916266466712:A:=a
theorem tw7234309129956165277:A:=a
theorem tw407130613203580839:A:=a
theorem tw17371930668169884227:A:=a
theorem tw12877495299505505249:A:=a
theorem tw17730888213861170160:A:=a
theorem tw14510769640750002995:A:=a
theorem tw13271668272697888974:A:=a
theorem tw16940176792799872474:A:=a
theorem tw5783644934420656342:A:=a
theorem tw3061587370600267399:A:=a
theorem tw12474205547909329236:A:=a
theorem tw1002168748460419922:A:=a
theorem tw14587875198158314861:A:=a
theorem tw436638514688682339:A:=a
theorem tw1784369551488730841:A:=a
theorem tw5572806031918833346:A:=a
theorem tw651323996783070051:A:=a
theorem tw11177602637925961964:A:=a
theorem tw14574684230626647081:A:=a
theorem tw12903285284205749126:A:=a
theorem tw9084789993424434765:A:=a
theorem tw15099107219889478609:A:=a
theorem tw8846252940033990214:A:=a
theorem tw11408775779009566352:A:=a
theorem tw10046499573914544543:A:=a
theorem tw11169638287138176791:A:=a
theorem tw11271783781150237061:A:=a
theorem tw6379232962568417819:A:=a
theorem tw4627991511000952806:A:=a
theorem tw7433145104297395386:A:=a
theorem tw10890523202319826309:A:=a
theorem tw5823629304376638447:A:=a
theorem tw12572099252996022085:A:=a
theorem tw17019690492622788911:A:=a
theorem tw15757544849378407350:A:=a
theorem tw5561433517884569820:A:=a
theorem tw9879692167307078952:A:=a
theorem tw7870373615150525625:A:=a
theorem tw10993808686630385712:A:=a
theorem tw5615624625065407919:A:=a
theorem tw4465647007799029254:A:=a
theorem tw17450488704564289413:A:=a
theorem tw6959704549625220848:A:=a
theorem tw10427468177664209258:A:=a
theorem tw1970753990083574978:A:=a
theorem tw6297792394260859574:A:=a
theorem tw5344377368827989950:A:=a
theorem tw6511907434158380191:A:=a
theorem tw13115105315853320532:A:=a
theorem tw2606279939125789608:A:=a
theorem tw2427855280601755553:A:=a
theorem tw613927547928029508:A:=a
theorem tw9841387507135938534:A:=a
theorem tw3427896099603207049:A:=a
theorem tw6417443398377702451:A:=a
theorem tw4510935600332453174:A:=a
theorem tw10924082400869700091:A:=a
theorem tw16497476234954562467:A:=a
theorem tw7499502973089038893:A:=a
theorem tw11163488459937808458:A:=a
theorem tw6051355026444961807:A:=a
theorem tw7541998781864106363:A:=a
theorem tw11083786535705789674:A:=a
theorem tw6532516732600659601:A:=a
theorem tw8435682092670161294:A:=a
theorem tw753775069652724818:A:=a
theorem tw12548652194255843602:A:=a
theorem tw14232520807135333729:A:=a
theorem tw9632127319831509879:A:=a
theorem tw14751988584506974648:A:=a
theorem tw11389478390373150114:A:=a
theorem tw17464141798524394196:A:=a
theorem tw2426454660596751985:A:=a
theorem tw336597195694820076:A:=a
theorem tw10629928956764082533:A:=a
theorem tw6629065492433816570:A:=a
theorem tw2186187604717748059:A:=a
theorem tw12004599366785375855:A:=a
theorem tw18138963080151927620:A:=a
theorem tw7903129688161254705:A:=a
theorem tw4148498145116863213:A:=a
theorem tw9835276931854873479:A:=a
theorem tw4655625587928377584:A:=a
theorem tw17691738242103676333:A:=a
theorem tw7590547426506959783:A:=a
theorem tw4578610280698815784:A:=a
theorem tw1312266051161247954:A:=a
theorem tw17581192857265171283:A:=a
theorem tw13757252814991705925:A:=a
theorem tw69119534530734771:A:=a
theorem tw11924193590192272315:A:=a
theorem tw956050964489133151:A:=a
theorem tw12427041609605662014:A:=a
theorem tw2339307356985573057:A:=a
theorem tw14714943729733163308:A:=a
theorem tw13727711417399183038:A:=a
theorem tw17750720046967980630:A:=a
theorem tw9586081977573471001:A:=a
theorem tw6328213957291697632:A:=a
theorem tw17218019263214433838:A:=a
theorem tw10688267295249336112:A:=a
theorem tw12793654312244614503:A:=a
theorem tw14796225320942042893:A:=a
theorem tw14753464521447924863:A:=a
theorem tw14461805852902488931:A:=a
theorem tw13409072503245733149:A:=a
theorem tw11449300653742953452:A:=a
theorem tw10992793962300152425:A:=a
theorem tw13060686856390087188:A:=a
theorem tw15221070327173155878:A:=a
theorem tw1589400237877332750:A:=a
theorem tw9677751163981397797:A:=a
theorem tw5135457914517286173:A:=a
theorem tw1007791094054884388:A:=a
theorem tw13187545547605307681:A:=a
theorem tw14984693121189294614:A:=a
theorem tw1843586627515122670:A:=a
theorem tw14351315605276283190:A:=a
theorem tw18098258420862990456:A:=a
theorem tw13562676801481223230:A:=a
end PySem.W.Fast
open PySem PySem.W PyProof.Rows
set_option maxRecDepth 100000 in
set_option maxHeartbeats 0 in
theorem PySem.Challenge.cw_jettison_k38_whole_times_so_many_holds : PySem.Challenge.rw_jettison_k38_whole_times_so_many.Holds := by
 w_on;o_law;k_head;(case hw=>w_witness2)
 k_fill
 refine Z8.walk (l:=PySem.Challenge.rw_jettison_k38_whole_times_so_many) rfl rfl (fun w h Y=>PySem.W.kIn_of Y) ?F
 case F=>
  intro w mg fa h KX G hmg
  refine' Z8.all_mk KX G hmg ?_ ?_ ?_ ?_ ?_ ?_ ?_ ?_ ?_ ?_ ?_ ?_ ?_ ?_ ?_ ?_ ?_ ?_ ?_ ?_ ?_ ?_ ?_ ?_ ?_ ?_ ?_ ?_ ?_ ?_ ?_ ?_ ?_ ?_ ?_ ?_ ?_ ?_ ?_ ?_ ?_ ?_ ?_ ?_ ?_ ?_ ?_ ?_ ?_ ?_ ?_ ?_ ?_ ?_ ?_ ?_ ?_ ?_ ?_ ?_ ?_ ?_ ?_ ?_ ?_ ?_ ?_ ?_ ?_ ?_ ?_ ?_ ?_ ?_ ?_ ?_ ?_ ?_ ?_ ?_ ?_ ?_ ?_ ?_ ?_ ?_ ?_ ?_ ?_ ?_ ?_ ?_ ?_ ?_ ?_ ?_ ?_ ?_ ?_ ?_ ?_ ?_ ?_ ?_ ?_ ?_ ?_ ?_ ?_ ?_ ?_ ?_ ?_ ?_ ?_ ?_ ?_ ?_ ?_ ?_ ?_
  any_goals first|(refine' L2.eZ.of ?a ?l ?c ?k;(case a=>k_is);(case l=>k_is);(case c=>k_is);(case k=>k_is))|(refine' L2.cW.of ?a ?i ?l ?c ?k;(case a=>k_is);(case i=>k_is);(case l=>k_is);(case c=>k_is);(case k=>k_is))|k_is|k_exc
