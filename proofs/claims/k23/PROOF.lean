import PyProof.Rows.All
import Wide.All
import OpenK.AllK
import Wide.FinOn
import Lean
import PyProof.EqAt
import PyProof.EqKinds
import PyProof.TupleCall
import PySem.Challenge.RW_jettison_k23_parts_handed_over
set_option Elab.async false
set_option bootstrap.genMatcherCode false
set_option genSizeOf false
set_option genSizeOfSpec false
set_option linter.all false
set_option maxRecDepth 100000
local macro_rules|`(tactic|omega)=>`(tactic|lia)
abbrev Fg:=PySem.W.Frag
abbrev VS:=PySem.Value->PySem.Shared->Prop
abbrev AO:=List (PySem.Addr×PySem.Obj)
abbrev SO:=PySem.Str->Option PySem.Value
set_option autoImplicit true
def Xo:=@PySem.F.slot_dict_valueiterator_next
def Sm:=@Int.mul_le_mul_of_nonneg_right
def HG:=@Int.mul_le_mul_of_nonneg_left
def Xp:=@PySem.wpAny_typeNameOfWhole_keyiter
def Xq:=@PySem.wpAny_typeNameOfWhole_valiter
def Xr:=@PySem.F.slot_dict_keyiterator_next
def j0:=@PyProof.Rows.boot_isinstance
def Xs:=@PyProof.Rows.callWith_type1
def zV:=@List.idxOf_lt_length_of_mem
def Xu:=@Int.ediv_eq_of_eq_mul_right
def CM:=@List.getElem?_append_right
def gG:=@List.getD_eq_getElem?_getD
def Qt:=@PySem.F.slot_tuple_iterator_next
def dI:=@List.getElem?_eq_some_iff
def Ka:=@List.getElem?_append_left
def Qu:=@List.drop_eq_getElem_cons
def aW:=@List.getElem?_eq_getElem
def Qv:=@PySem.wpAny_comprehension_free
def Qw:=@PySem.wpAny_typeNameOf_keyiter
def Qx:=@PySem.wpAny_typeNameOf_valiter
def FY:=@Int.mul_ediv_cancel_left
def yc:=@PySem.F.slot_list_append
def yd:=@PySem.F.type_list_append
def ye:=@PySem.wpAny_callSpecial?_slot
def yf:=@PySem.F.plainAttrs_list
def Qy:=@PyProof.Rows.boot_tuple
def j5:=@List.getElem?_set_self
def cA:=@PySem.Heap.get?_push_of_some
def Kc:=@PySem.Heap.get?_update_other
def lR:=@Option.map_eq_some_iff
def zW:=@List.take_of_length_le
def wK:=@List.zipWith_cons_cons
def Qz:=@PySem.Calls.callWith_builtin
def wL:=@PyProof.Rows.boot_list
def jK:=@List.mem_append_right
def mW:=@List.length_replicate
def CN:=@PySem.Heap.get?_update_self
def uC:=@List.getElem?_eq_none
def QA:=@PySem.wpAny_isOneOf_valiter
def QB:=@List.getElem?_zipWith
def yg:=@PyProof.Rows.boot_sum
def FZ:=@PyProof.Rows.boot_str
def Kd:=@PySem.W.hideAll_none
def cG:=@List.mem_cons_of_mem
def F0:=@List.mem_append_left
def uD:=@List.getElem?_set_ne
def bJ:=@List.mem_of_getElem?
def kX:=@Bool.and_eq_true_iff
def QC:=@PySem.intBits_le_iff
def F_:=@beq_eq_false_iff_ne
def QD:=@PySem.W.hideAll_get
def zX:=@List.filterMap_cons
def dZ:=@PySem.Heap.get?_push_size
def yh:=@PySem.mem_of_lookup
def CO:=@List.replicate_succ
def Ga:=@Bool.or_eq_true_iff
def Gb:=@PySem.Heap.SameBut.update
def nZ:=@List.length_zipWith
def QE:=@List.filter_eq_self
def zY:=@List.map_congr_left
def pD:=@List.getElem_of_mem
def kY:=@Nat.lt_of_lt_of_le
def QF:=@PySem.W.of_hideAll
def cM:=@List.mem_cons_self
def Gd:=@List.mem_filterMap
def fM:=@Bool.false_ne_true
def Ge:=@PySem.wpAny_Call_Name_kw
def QG:=@PySem.W.callWith_K
def dh:=@List.length_append
def QH:=@PySem.tupleKind_room_in1
def QI:=@Nat.lt_of_le_of_lt
def fU:=@List.mem_singleton
def yi:=@Int.emod_lt_of_pos
def Gf:=@Bool.false_eq_true
def Gg:=@PySem.Obj.data_mapFields
def Gi:=@PySem.wpAny_setField_rec
def Ke:=@List.set_cons_succ
def Kf:=@List.set_cons_zero
def QJ:=@PySem.F.slot_dict_values
def uE:=@of_decide_eq_false
def n_:=@PySem.W.mg_none_of
def QK:=@PySem.wpAny_pyIter_list
def bF:=@List.getElem?_map
def gK:=@List.size_toArray
def wM:=@Int.toNat_natCast
def qN:=@PySem.wpAny_newObj_type
def QL:=@List.flatten_cons
def Kg:=@List.append_assoc
def eO:=@of_decide_eq_true
def QM:=@Nat.lt_succ_of_lt
def zZ:=@PySem.wpAny_truthy_bool
def CP:=@List.length_range
def QN:=@PySem.wpAny_dictEntries
def Kh:=@List.foldl_append
def Gj:=@List.getElem?_inj
def qO:=@Bool.eq_false_iff
def mX:=@List.length_cons
def kZ:=@List.length_take
def Kl:=@List.length_drop
def yj:=@PySem.wpAny_call_entry
def Bj:=@Bool.and_eq_true
def JT:=@List.cons_append
def iC:=@List.filter_cons
def DQ:=@beq_self_eq_true
def DR:=@Nat.le_add_right
def lC:=@List.lookup_cons
def pF:=@List.all_eq_true
def rN:=@List.getElem_mem
def cC:=@List.take_length
def DS:=@List.drop_length
def d8:=@decide_eq_false
def fY:=@Option.some.inj
def mG:=@List.mem_filter
def fZ:=@List.mem_append
def Bl:=@Bool.eq_iff_iff
def aE:=@List.length_map
def pG:=@PySem.W.kia_one
def rO:=@List.append_nil
def gR:=@List.nodup_cons
def fq:=@List.length_set
def mH:=@List.foldl_cons
def JU:=@List.nil_append
def pH:=@List.find?_cons
def JV:=@Option.map_some
def bN:=@List.map_append
def nJ:=@Int.emod_nonneg
def JW:=@List.forIn_cons
def JX:=@PySem.pushCells_keeps
def JY:=@PySem.wpAny_dictEpoch
def JZ:=@PySem.F.slot_zip_next
def yk:=@PySem.wpAny_passesOwn
def yl:=@PySem.wpAny_execs_nil
def eE:=@PySem.PassesOwn.never
def ym:=@List.mem_range
def mJ:=@PySem.Heap.size_push
def cy:=@decide_eq_true
def DT:=@Int.natAbs_mul
def DU:=@List.forIn_nil
def vU:=@PySem.wpAny_fieldsOf
def Bm:=@PySem.wpAny_setField
def ue:=@PySem.wpAny_seqItems
def vV:=@List.nodup_nil
def nK:=@Int.mul_nonneg
def dF:=@PySem.boot_len
def jj:=@Nat.lt_irrefl
def c6:=@List.mem_cons
def bH:=@List.map_cons
def yo:=@PySem.wpAny_holding
def DV:=@List.any_cons
def kG:=@PySem.W.mg_of
def cI:=@List.sum_cons
def Bo:=@PySem.wpAny_standAt
def jS:=@Int.mul_assoc
def Bp:=@List.map_take
def bR:=@PySem.Heap.lt_size
def dQ:=@Nat.ne_of_lt
def fu:=@Nat.le_trans
def DW:=@Nat.le_of_lt
def yp:=@Nat.ne_of_gt
def Bq:=@PySem.codeAny_mono
def Br:=@Int.ediv_one
def bQ:=@List.mem_map
def yq:=@Int.le_of_lt
def DX:=@Int.lt_or_le
def mK:=@List.set_set
def Bs:=@Nat.min_self
def fH:=@List.map_map
def Bt:=@Nat.sub_self
def pI:=@Int.mul_comm
def DY:=@Int.zero_mul
def lD:=@List.map_set
def uf:=@Sum.inr.inj
def aP:=@Nat.le_refl
def f_:=@Nat.zero_le
def fB:=@PySem.sizeLine_eq
def kH:=@PySem.wpAny_field
def iW:=@Int.le_refl
def pJ:=@Int.mul_add
def rP:=@Int.add_mul
def gT:=@PySem.wpAny_mono
def aL:=@PySem.wpAny_pure
def aq:=@PySem.wpAny_bind
def nL:=@beq_iff_eq
def gU:=@congrArg
def lE:=@if_false
def bU:=@Ne.symm
def rQ:=@if_true
def aA:=@if_pos
def az:=@if_neg
theorem Z {α:Sort _} {a:α}:a=a:=rfl
namespace L2
open PySem PySem.Spec PyProof.Rows
abbrev Key:=Sum Int Str
def yr:Key->Value->Bool
 | .inl k,v=>Value.isInt k v
 | .inr x,v=>Value.isStrOf x v
def ahc (w:World):Key->Int
 | .inl k=>hashInt k
 | .inr x=>hashStr w x
theorem gf:∀{k:Key} {v:Value},yr k v=true->(∃i t,k=Sum.inl i/\v=Value.int i t)\/(∃x t,k=Sum.inr x/\v=Value.str x t)
 | .inl i,v,h=>by
   obtain ⟨t,e⟩:=Value.isInt_shape (k:=i) (v:=v) h
   exact .inl ⟨i,t,Z,e⟩
 | .inr x,v,h=>by
   obtain ⟨t,e⟩:=Value.isStrOf_shape (x:=x) (v:=v) h
   exact .inr ⟨x,t,Z,e⟩
theorem Sn (i:Int) (t:Tok):yr (.inl i) (.int i t)=true:=by simp [yr,Value.isInt]
theorem So (x:Str) (t:Tok):yr (.inr x) (.str x t)=true:=by simp [yr,Value.isStrOf]
theorem aao (a b:Int):decide ((Sum.inl a:Key)=Sum.inl b)=(a==b):=by
 by_cases e:a=b
 . subst e;simp
 . have h:¬ (Sum.inl a:Key)=Sum.inl b:=fun q=>e (Sum.inl.inj q)
   rw [d8 h]
   exact (F_.mpr e).symm
theorem aap (a b:Str):decide ((Sum.inr a:Key)=Sum.inr b)=decide (a=b):=by
 by_cases e:a=b
 . subst e;simp
 . have h:¬ (Sum.inr a:Key)=Sum.inr b:=fun q=>e (uf q)
   rw [d8 h,d8 e]
theorem aaq (a:Int) (b:Str):decide ((Sum.inl a:Key)=Sum.inr b)=false:=d8 (fun q=>nomatch q)
theorem aar (a:Str) (b:Int):decide ((Sum.inr a:Key)=Sum.inl b)=false:=d8 (fun q=>nomatch q)
def cZ (prog:Program) (w:World):PySem.KeyKind prog w Key where
 is:=yr
 hash:=ahc w
 inj:=fun v a b ha hb=>by
  rcases gf ha with ⟨i,t,rfl,rfl⟩|⟨x,t,rfl,rfl⟩
  . rcases gf hb with ⟨j,u,rfl,e⟩|⟨y,u,rfl,e⟩
    . injection e with e1 _;rw [e1]
    . exact nomatch e
  . rcases gf hb with ⟨j,u,rfl,e⟩|⟨y,u,rfl,e⟩
    . exact nomatch e
    . injection e with e1 _;rw [e1]
 byValue:=fun k v h=>by
  rcases gf h with ⟨i,t,rfl,rfl⟩|⟨x,t,rfl,rfl⟩ <;> rfl
 pyHash:=fun hv h=>by
  rcases gf hv with ⟨i,t,rfl,rfl⟩|⟨x,t,rfl,rfl⟩
  . exact wpAny_pyHash_int h
  . exact wpAny_pyHash_str h
 eqBool:=fun hu hv h=>by
  rcases gf hu with ⟨i,t,rfl,rfl⟩|⟨x,t,rfl,rfl⟩
  . rcases gf hv with ⟨j,u,rfl,rfl⟩|⟨y,u,rfl,rfl⟩
    . rw [aao] at h;exact wpAny_eqBool_int h
    . rw [aaq] at h;exact SeqAt.EqAt.int_str i t y u _ _ _ _ h
  . rcases gf hv with ⟨j,u,rfl,rfl⟩|⟨y,u,rfl,rfl⟩
    . rw [aar] at h;exact SeqAt.EqAt.str_int x t j u _ _ _ _ h
    . rw [aap] at h;exact wpAny_eqBool_str h
 «strs»:=fun k x t v h=>by
  rcases gf h with ⟨i,u,rfl,e⟩|⟨y,u,rfl,e⟩
  . exact nomatch e
  . injection e with e1 _
    subst e1
    cases v <;> rfl
theorem QO (prog:Program) (w:World) (k:Key) (v:Value):(cZ prog w).is k v=yr k v:=rfl
theorem NB (prog:Program) (w:World) (i:Int) (t:Tok):(cZ prog w).is (.inl i) (.int i t)=true:=Sn i t
theorem NC (prog:Program) (w:World) (x:Str) (t:Tok):(cZ prog w).is (.inr x) (.str x t)=true:=So x t
inductive V where
 | b_|bl (b:Bool)|int (i:Int)|str (x:Str)|xB (b:Array UInt8)|HJ (b:UInt64)|ref (a:Addr)|ty (n:String)
 deriving DecidableEq
def RelV:V->Value->Prop
 | .b_,u=>u=Value.none
 | .bl b,u=>u=Value.bool b
 | .int i,u=>∃t,u=Value.int i t
 | .str x,u=>∃t,u=Value.str x t
 | .xB b,u=>∃t,u=Value.bytes b t
 | .HJ b,u=>∃t,u=Value.float b t
 | .ref a,u=>u=Value.ref a
 | .ty n,u=>u=Value.type n
abbrev Vals:List V->List Value->Prop:=Paired RelV
variable {xs:List V} {us:List Value}
theorem Vals.length (r:Vals xs us):xs.length=us.length:=Paired.length r
theorem Vals.get:∀{xs:List V} {us:List Value} {i:Nat} {x:V},Vals xs us->xs[i]?=some x->∃u,us[i]?=some u/\RelV x u
 | _,_,_,_, .nil,e=>by simp at e
 | _,_,0,_, .cons r _,e=>by simp at e;subst e;exact ⟨_,Z,r⟩
 | _,_,i+1,x, .cons _ t,e=>by
   obtain ⟨u,h1,h2⟩:=Vals.get (i:=i) (x:=x) t (by simpa using e)
   exact ⟨u,by simpa using h1,h2⟩
theorem Vals.set {x:V} {u:Value} (r:RelV x u):∀{xs:List V} {us:List Value} (i:Nat),Vals xs us->Vals (xs.set i x) (us.set i u)
 | _,_,_, .nil=> .nil
 | _,_,0, .cons _ t=> .cons r t
 | _,_,i+1, .cons q t=> .cons q (Vals.set r i t)
theorem Vals.append:∀{xs ys:List V} {us ws:List Value},Vals xs us->Vals ys ws->Vals (xs++ys) (us++ws)
 | _,_,_,_, .nil,s=>s
 | _,_,_,_, .cons r t,s=> .cons r (Vals.append t s)
theorem Vals.take:∀{xs:List V} {us:List Value} (n:Nat),Vals xs us->Vals (xs.take n) (us.take n)
 | _,_,0,_=> .nil
 | _,_,_+1, .nil=> .nil
 | _,_,n+1, .cons r t=> .cons r (Vals.take n t)
theorem Vals.drop:∀{xs:List V} {us:List Value} (n:Nat),Vals xs us->Vals (xs.drop n) (us.drop n)
 | _,_,0,r=>r
 | _,_,_+1, .nil=> .nil
 | _,_,n+1, .cons _ t=>Vals.drop n t
def mY:Option V->Option Value->Prop
 | some v,some u=>RelV v u
 | none,none=>True
 | _,_=>False
def KV {κ:Type}:List (κ×V)->List (κ×Value)->Prop:=Paired fun (p:κ×V) (q:κ×Value)=>p.1=q.1/\RelV p.2 q.2
def kV:Key->V
 | .inl i=> .int i
 | .inr x=> .str x
inductive HO where
 | lst (xs:List V)
 | tup (xs:List V)
 | dK (kvs:List (Key×V))|dT (kvs:List (List Key×V))
 | set (S:Int->Bool) (n:Nat)
 | ins (C dx:Addr) (fs:List (Str×V))
 | own (x:Addr)
 | xd (fs:List (Str×V))
 | met (f x:Addr)
 | vW (lo hi:Int)
 | fm (o:Obj) (u:HO)
 | HK (ps:Array Value)
 | ext (φ:Heap->Prop)
abbrev Hp:=Addr->Option HO
def upd (H:Hp) (a:Addr) (o:HO):Hp:=fun b=>if b=a then some o else H b
variable {H:Hp} {a:Addr} {o:HO}
theorem ai:upd H a o a=some o:=by unfold upd;rw [aA rfl]
theorem av {b:Addr} (h:b≠a):upd H a o b=H b:=by unfold upd;rw [az h]
theorem qP {u:HO}:upd (upd H a o) a u=upd H a u:=by
 funext b;unfold upd;split <;> rfl
theorem iX {b:Addr} {u:HO} (h:H a=some o) (h':H b=some u) (d:o≠u):a≠b:=by
 intro e;subst e;rw [h] at h';exact d (fY h')
theorem aH {b:Addr} (h:H a=some o) (h':H b=none):a≠b:=by
 intro e;subst e;rw [h] at h';cases h'
section
variable (P:Program) (w:World)
def dO (H:Hp) (h:Heap) (a:Addr):HO->Prop
 | .lst xs=>xs.length<=sizeLine/\∃(its:List Value) (n:Nat),Vals xs its/\h.get? a=some { cls:= .type "list",data:= .seq its.toArray n }
 | .tup xs=>xs.length<=sizeLine/\∃its:List Value,Vals xs its/\IsTup h a its.toArray
 | .dK kvs=>kvs.length<=sizeLine/\(a==sysModules)=false/\∃vs,KV kvs vs/\h.DictOf (cZ P w) a vs
 | .dT kvs=>kvs.length<=sizeLine/\(a==sysModules)=false/\∃xs:List (List Key×Addr×Value),
     Paired (fun (p:List Key×V) (q:List Key×Addr×Value)=>p.1=q.1/\H q.2.1=some (.tup (p.1.map kV))/\RelV p.2 q.2.2) kvs xs/\
     ∃o es ep,h.get? a=some o/\o.ExactDict/\o.data = .dict es ep/\es.toList=xs.map (entryOfKey (tupleKind (cZ P w)))/\(xs.map (·.1)).Nodup
 | .set S n=>h.SetOf (intKind P w) a S n
 | .ins C dx fs=>H dx=some (.own a)/\fs.length<=1000/\dx≠a/\h.get? a=some (PySem.W.instObj C dx)/\
     ∃mA,h.Ns1 dx mA/\(∀f,mY (fs.lookup f) (mA f))/\PySem.Within mA (fs.map (·.1))
 | .own _=>∃o,h.get? a=some o
 | .xd fs=>∃mA,h.Ns1 a mA/\∀f,mY (fs.lookup f) (mA f)
 | .vW lo hi=>∃t u v,h.get? a=some { cls:= .type "range",data:= .fields #[.int lo t, .int hi u, .int 1 v] }
 | .fm o u=>h.get? a=some o/\dO H h a u
 | .HK ps=>h.get? a=some { cls:= .none,data:= .fields ps }
 | .met f x=>h.get? a=some (PySem.W.methodObj (.ref f) (.ref x))
 | .ext φ=>φ h/\(∃o,h.get? a=some o)/\∀h1 h2:Heap,φ h1->(∀o,h1.get? a=some o->h2.get? a=some o)->φ h2
def gQ (H:Hp) (h:Heap):Prop:=∀a o,H a=some o->dO P w H h a o
end
section
variable {P:Program} {w:World} {H H':Hp} {h h':Heap} {a:Addr} {o:HO}
theorem dO.lt (x:dO P w H h a o):a<h.objs.size:=by
 cases o with
 | lst xs=>obtain ⟨_,_,_,_,e⟩:=x;exact bR e
 | tup xs=>obtain ⟨_,_,_,p⟩:=x;exact p.lt
 | dK kvs=>obtain ⟨_,_,_,_,o,_,_,e,_⟩:=x;exact bR e
 | dT kvs=>obtain ⟨_,_,_,_,o,_,_,e,_⟩:=x;exact bR e
 | set S n=>obtain ⟨o,_,_,_,e,_⟩:=x;exact bR e
 | ins C dx fs=>obtain ⟨_,_,_,e,_⟩:=x;exact bR e
 | own y=>obtain ⟨_,e⟩:=x;exact bR e
 | xd fs=>obtain ⟨_,⟨_,_,_,e,_⟩,_⟩:=x;exact bR e
 | vW lo hi=>obtain ⟨_,_,_,e⟩:=x;exact bR e
 | fm ob u=>obtain ⟨e,_⟩:=x;exact bR e
 | HK ps=>exact bR (show h.get? a=some _ from x)
 | met f y=>exact bR (show h.get? a=some _ from x)
 | ext φ=>obtain ⟨_,⟨_,e⟩,_⟩:=x;exact bR e
theorem Paired.VG {α β:Type} {F G:α->β->Prop}:∀{l₁:List α} {l₂:List β},Paired F l₁ l₂->(∀a b,F a b->G a b)->Paired G l₁ l₂
 | _,_, .nil,_=> .nil
 | _,_, .cons r t,f=> .cons (f _ _ r) (Paired.VG t f)
theorem dO.stay (x:dO P w H h a o) (k:∀b u,(b=a\/H b=some (.own a))->h.get? b=some u->h'.get? b=some u)
  (ho:∀b,H b=some (.own a)->H' b=some (.own a)) (ht:∀b xs,H b=some (.tup xs)->H' b=some (.tup xs)):dO P w H' h' a o:=by
 induction o with
 | lst xs=>obtain ⟨z,its,n,r,e⟩:=x;exact ⟨z,its,n,r,k _ _ (.inl rfl) e⟩
 | tup xs=>obtain ⟨z,its,r,ob,e,c⟩:=x;exact ⟨z,its,r,ob,k _ _ (.inl rfl) e,c⟩
 | dK kvs=>obtain ⟨z,y,vs,r,ob,es,ep,e,c⟩:=x;exact ⟨z,y,vs,r,ob,es,ep,k _ _ (.inl rfl) e,c⟩
 | dT kvs=>
   obtain ⟨z,y,xs,r,ob,es,ep,e,c⟩:=x
   exact ⟨z,y,xs,Paired.VG r fun p q z=>⟨z.1,ht _ _ z.2.1,z.2.2⟩,ob,es,ep,k _ _ (.inl rfl) e,c⟩
 | set S n=>obtain ⟨ob,es,ep,t,e,c⟩:=x;exact ⟨ob,es,ep,t,k _ _ (.inl rfl) e,c⟩
 | ins C dx fs=>
   obtain ⟨d,z,ne,e,mA,⟨od,es,ep,e2,c⟩,r⟩:=x
   exact ⟨ho _ d,z,ne,k _ _ (.inl rfl) e,mA,⟨od,es,ep,k _ _ (.inr d) e2,c⟩,r⟩
 | own y=>obtain ⟨ob,e⟩:=x;exact ⟨ob,k _ _ (.inl rfl) e⟩
 | xd fs=>obtain ⟨mA,⟨od,es,ep,e,c⟩,r⟩:=x;exact ⟨mA,⟨od,es,ep,k _ _ (.inl rfl) e,c⟩,r⟩
 | vW lo hi=>obtain ⟨t,u,v,e⟩:=x;exact ⟨t,u,v,k _ _ (.inl rfl) e⟩
 | fm ob u ih=>obtain ⟨e,q⟩:=x;exact ⟨k _ _ (.inl rfl) e,ih q⟩
 | HK ps=>
   have e:h.get? a=some { cls:= .none,data:= .fields ps }:=x
   show h'.get? a=some { cls:= .none,data:= .fields ps }
   exact k a _ (.inl rfl) e
 | met f y=>
   have e:h.get? a=some (PySem.W.methodObj (.ref f) (.ref y)):=x
   show h'.get? a=some (PySem.W.methodObj (.ref f) (.ref y))
   exact k a _ (.inl rfl) e
 | ext φ=>obtain ⟨p,⟨o,e⟩,st⟩:=x;exact ⟨st _ _ p fun o q=>k _ _ (.inl rfl) q,⟨o,k _ _ (.inl rfl) e⟩,st⟩
theorem gQ.lt (x:gQ P w H h) (e:H a=some o):a<h.objs.size:=(x a o e).lt
theorem gQ.fresh (x:gQ P w H h) (e:h.objs.size<=a):H a=none:=by
 cases q:H a with
 | none=>rfl
 | some u=>exact absurd (kY (x.lt q) e) (jj _)
theorem gQ.kept (x:gQ P w H h) (k:∀b u,h.get? b=some u->h'.get? b=some u):gQ P w H h':=fun a o e=>
 (x a o e).stay (fun b u _ q=>k b u q) (fun _ q=>q) fun _ _ q=>q
theorem gQ.laid (x:gQ P w H h) (k:∀b u,h.get? b=some u->h'.get? b=some u) (hp:h.objs.size<=a) (new:dO P w (upd H a o) h' a o):gQ P w (upd H a o) h':=fun b u e=>by
 have hn:=x.fresh hp
 by_cases hb:b=a
 . subst hb;rw [ai] at e;cases e;exact new
 . rw [av hb] at e
   exact (x b u e).stay (fun c v _ q=>k c v q) (fun c q=>by rw [av (aH q hn)];exact q) fun c xs q=>by rw [av (aH q hn)];exact q
end
def Rd (H:Hp) (a:Addr) (u:HO):Prop:=H a=some u\/∃o,H a=some (.fm o u)
variable {P:Program} {h:Heap}
theorem Rd.ok {w:World} {u:HO} (r:Rd H a u) (x:gQ P w H h):dO P w H h a u:=by
 rcases r with r|⟨o,r⟩
 . exact x a u r
 . obtain ⟨_,q⟩:=x a _ r
   exact q
def Ss:Option HO->Prop
 | some (.lst _)=>True
 | some (.dK _)=>True
 | some (.dT _)=>True
 | some (.set _ _)=>True
 | some (.ins _ _ _)=>True
 | some (.ext _)=>True
 | _=>False
section
variable {P:Program} {w:World} {H:Hp} {h h':Heap} {x e:Addr} {o':HO}
theorem gQ.write (ok:gQ P w H h) (mu:Ss (H x)) (he:e=x\/H e=some (.own x)) (k:∀b u,b≠e->h.get? b=some u->h'.get? b=some u) (OU:∃u,h'.get? e=some u)
  (new:dO P w (upd H x o') h' x o'):gQ P w (upd H x o') h':=fun b u q=>by
 have aas:∀c y,H c=some (.own y)->c≠x:=fun c y r z=>by subst z;rw [r] at mu;exact mu
 have ahd:∀c xs,H c=some (.tup xs)->c≠x:=fun c xs r z=>by subst z;rw [r] at mu;exact mu
 by_cases hb:b=x
 . subst hb;rw [ai] at q;cases q;exact new
 . rw [av hb] at q
   by_cases Km:b=e
   . have q':H b=some (.own x):=by
      rcases he with z|z
      . exact absurd (Km.trans z) hb
      . rw [Km];exact z
     rw [q] at q';cases q'
     obtain ⟨v,hv⟩:=OU
     exact ⟨v,by rw [Km];exact hv⟩
   . refine (ok b u q).stay (fun c v hc r=>k c v ?_ r) (fun c r=>by rw [av (aas c b r)];exact r) fun c xs r=>by rw [av (ahd c xs r)];exact r
     rcases hc with rfl|hc
     . exact Km
     . rintro rfl
       rcases he with z|z
       . exact aas c b hc z
       . rw [hc] at z;cases z;exact hb rfl
end
structure Un (fs ex:List Addr) (H H':Hp) (h h':Heap):Prop where
 keep:∀b o,h.get? b=some o->H b=none->b∉fs->b∉ex->h'.get? b=some o
 slot:∀b o,h.get? b=some o->H b=none->b∈fs->b∉ex->∃sl,h'.get? b=some { o with slots:=sl }
 free:∀b o,h.get? b=some o->H b=none->b∉ex->H' b=none
 there:∀b o,h.get? b=some o->b∉ex->∃o',h'.get? b=some o'
 tups:∀b xs,H b=some (.tup xs)->H' b=some (.tup xs)
 mZ:∀b o u,H b=some (.fm o u)->H' b=some (.fm o u)
 pK:∀b ps,H b=some (.HK ps)->∃more,H' b=some (.HK (ps++more))
section
variable {fs fs' ex ex':List Addr} {H H1 H2:Hp} {h h1 h2 h':Heap} {a x e:Addr} {o:HO}
theorem Un.any (u:Un fs ex H H1 h h1) {b:Addr} (q:h.get? b=some ob) (n:H b=none) (hx:b∉ex):∃sl,h1.get? b=some { ob with slots:=sl }:=by
 by_cases hb:b∈fs
 . exact u.slot b ob q n hb hx
 . exact ⟨ob.slots,u.keep b ob q n hb hx⟩
theorem Un.kept (k:∀b u,h.get? b=some u->h'.get? b=some u):Un fs ex H H h h':=
 ⟨fun b ob q _ _ _=>k b ob q,fun b ob q _ _ _=>⟨ob.slots,k b ob q⟩,fun _ _ _ n _=>n,fun b ob q _=>⟨ob,k b ob q⟩,fun _ _ q=>q,fun _ _ _ q=>q,fun _ ps q=>⟨#[],by rw [q];simp⟩⟩
theorem Un.refl:Un fs ex H H h h:=Un.kept fun _ _ q=>q
theorem Un.laid (k:∀b u,h.get? b=some u->h'.get? b=some u) (hp:h.objs.size<=a) (hn:H a=none):Un fs ex H (upd H a o) h h' where
 keep:=fun b u q _ _ _=>k b u q
 slot:=fun b u q _ _ _=>⟨u.slots,k b u q⟩
 free:=fun b u q n _=>by rw [av (dQ (kY (bR q) hp))];exact n
 there:=fun b u q _=>⟨u,k b u q⟩
 tups:=fun b xs q=>by rw [av (aH q hn)];exact q
 mZ:=fun b u xs q=>by rw [av (aH q hn)];exact q
 pK:=fun b ps q=>⟨#[],by rw [av (aH q hn),q];simp⟩
theorem Un.write (mu:Ss (H x)) (he:e=x\/H e=some (.own x)) (k:∀b u,b≠e->h.get? b=some u->h'.get? b=some u) (OU:∃u,h'.get? e=some u):Un fs ex H (upd H x o) h h':=by
 have hx:∀b,H b=none->b≠x:=fun b n z=>by subst z;rw [n] at mu;exact mu
 have hb:∀b,H b=none->b≠e:=fun b n z=>by
  subst z
  rcases he with r|r
  . exact hx b n r
  . rw [n] at r;cases r
 have hm:∀b u,H b=some u->¬ Ss (some u)->b≠x:=fun b u q nm z=>by subst z;rw [q] at mu;exact nm mu
 refine ⟨fun b u q n _ _=>k b u (hb b n) q,fun b u q n _ _=>⟨u.slots,k b u (hb b n) q⟩,fun b u q n _=>by rw [av (hx b n)];exact n,fun b u q _=>?_,
  fun b xs q=>by rw [av (hm b _ q fun z=>z)];exact q,fun b u xs q=>by rw [av (hm b _ q fun z=>z)];exact q,fun b ps q=>⟨#[],by rw [av (hm b _ q fun z=>z),q];simp⟩⟩
 by_cases Km:b=e
 . subst Km;exact OU
 . exact ⟨u,k b u Km q⟩
end
def Xv (h:Heap) (H:Hp):List Addr:=(List.range h.objs.size).filter fun a=>(H a).isSome
def yt (h:Heap) (H:Hp):Heap:=PySem.W.hideAll h (Xv h H)
theorem Su (h:Heap) (H:Hp):(yt h H).objs.size=h.objs.size:=PySem.W.hideAll_size _ _
theorem VH {b:Addr} {o:Obj} (e:h.get? b=some o) (n:H b=none):(yt h H).get? b=some o:=
 QD _ e fun hm=>by
  have q:(H b).isSome=true:=(mG.mp hm).2
  rw [n] at q;simp at q
theorem YE {b:Addr} {o:Obj} (e:(yt h H).get? b=some o):h.get? b=some o/\H b=none:=by
 have e':h.get? b=some o:=QF (Xv h H) e
 refine ⟨e',?_⟩
 cases q:H b with
 | none=>rfl
 | some x=>
   have hm:b∈Xv h H:=mG.mpr ⟨ym.mpr (bR e'),by simp [q]⟩
   have z:(yt h H).get? b=none:=Kd (Xv h H) hm
   rw [z] at e;cases e
structure Mod (K:Fg) (mg:SO) (base:Heap):Prop where
 OV:K.In base
 glob:base.Ns mainGlobals mg
 blt:∃mb,base.Ns builtinsNs mb/\∀x:Str,x ≠ "__name__"->mb x=bootBuiltins x
 nolimit:base.NoLimit
structure Cx where
 prog:Program
 w:World
 K:Fg
 mg:Str->Option Value
 base:Heap
 A:Around
 N:List Str
 s₀:Shared
 H₀:Hp
 env:Env
 outer:List Env
 stack:List Env
 ex:List Addr
 fn:Str->Bool
 calm:Bool
 pn:List (Addr×Obj)
 xe:Value->Shared->Prop
def frs (l:List Env):List Addr:=l.filterMap (·.frame)
abbrev Cx.fs (X:Cx):List Addr:=frs X.outer
def Sv (sc:Scope) (x:Str):Prop:=sc.names.lookup x=some .local\/sc.names.lookup x=some .cell\/sc.names.lookup x=some .free
def Loc (sc:Scope) (x:Str):Prop:=sc.names.lookup x=some .local\/sc.names.lookup x=some .cell
def Look (env:Env) (h:Heap) (m:SO) (x:Str) (u:Value):Prop:=
 (env.kindOf x=some .local/\m x=some u)\/((env.kindOf x=some .cell\/env.kindOf x=some .free)/\∃c,env.cells.lookup x=some c/\h.IsCell c (some u))
structure Cx.Ok (X:Cx):Prop where
 mod:Mod X.K X.mg X.base
 kind:X.env.scope.kind = .function
 glob:X.env.globals=mainGlobals
 blt:X.env.builtins=builtinsNs
 above:X.s₀.heap.objs.size<=X.env.locals
 inj:∀x y c,X.env.cells.lookup x=some c->X.env.cells.lookup y=some c->x=y
 has:∀x,(X.env.kindOf x=some .cell\/X.env.kindOf x=some .free)->∃c,X.env.cells.lookup x=some c
 gC:∀x c,X.fn x=true->X.env.cells.lookup x=some c->X.s₀.heap.objs.size<=c
 hd:X.calm=true->X.A.handled=none
 frames:X.A.frames=some X.stack
 stk:X.stack=X.outer\/(X.stack=X.env::X.outer/\X.env.frame=some X.env.locals)
 Kn:∀b∈X.ex,b≠X.env.locals/\∀x c,X.env.cells.lookup x=some c->c≠b
 bs:∀b o,X.base.get? b=some o->X.s₀.heap.get? b=some o/\X.H₀ b=none
 DZ:X.base.objs.size<=X.s₀.heap.objs.size
 Gk:∀b o,X.base.get? b=some o->b∉X.ex
 CQ:∀b∈X.ex,b∉X.fs
 oh:X.s₀.heap.FunFrames X.base X.outer
 HL:∀b∈X.fs,X.H₀ b=none
structure Inv (X:Cx) (pins:AO) (σ:List (Option V)) (H:Hp) (s:Shared):Prop where
 ok:X.Ok
 os:s.os=X.s₀.os
 bare:AllBare s.gens
 base:Un X.fs X.ex X.H₀ H X.s₀.heap s.heap
 loc:∃m,s.heap.Ns X.env.locals m/\∀(i:Nat) (x:Str) (v:V),X.N[i]?=some x->σ[i]?=some (some v)->Sv X.env.scope x->∃u,RelV v u/\Look X.env s.heap m x u
 cell:∀x c,X.env.cells.lookup x=some c->∃v,s.heap.IsCell c v
 free:H X.env.locals=none
 jT:∀x c,X.env.cells.lookup x=some c->H c=none
 pin:∀p∈X.pn++pins,s.heap.get? p.1=some p.2/\H p.1=none/\p.1≠X.env.locals/\p.1∉X.fs/\∀v,p.2.data ≠ .cell v
 hok:gQ X.prog X.w H s.heap
 len:σ.length=X.N.length
variable {g':Array GenState} {t' i j:Nat} {ch:List Addr} {it:Addr} {N:List Str} {x:Str} {M:Model} {A:Around} {E:VS} {u:Value} {Q:Unit->Shared->Prop}
section
variable {X:Cx} {pins:AO} {σ:List (Option V)} {H H':Hp} {s:Shared} {h':Heap}
theorem Cx.Ok.ahe (ok:X.Ok) {b:Addr} {o:Obj} (e:X.base.get? b=some o):b∉X.fs:=fun hb=>by
 have:=(ok.oh.mem hb).1
 rw [e] at this;cases this
theorem Inv.bs (I:Inv X pins σ H s):∀b o,X.base.get? b=some o->s.heap.get? b=some o/\H b=none:=fun b o e=>
 ⟨I.base.keep b o (I.ok.bs b o e).1 (I.ok.bs b o e).2 (I.ok.ahe e) (I.ok.Gk b o e),I.base.free b o (I.ok.bs b o e).1 (I.ok.bs b o e).2 (I.ok.Gk b o e)⟩
theorem Inv.bk (I:Inv X pins σ H s):∀b o,X.base.get? b=some o->s.heap.get? b=some o:=fun b o e=>(I.bs b o e).1
theorem Inv.mod (I:Inv X pins σ H s):Mod X.K X.mg X.base:=I.ok.mod
theorem Inv.iN (I:Inv X pins σ H s):X.K.In s.heap:=I.ok.mod.OV.keeps I.bk
theorem Inv.lt (I:Inv X pins σ H s):X.env.locals<s.heap.objs.size:=let ⟨_,hn,_⟩:=I.loc;hn.lt
theorem Inv.sz (I:Inv X pins σ H s):X.s₀.heap.objs.size<=s.heap.objs.size:=fu I.ok.above (DW I.lt)
theorem Inv.ahf (I:Inv X pins σ H s) (h:s.heap.objs.size<=a):a∉X.fs:=fun hb=>by
 obtain ⟨_,o,ho,_⟩:=I.ok.oh.mem hb
 exact absurd (kY (bR ho) (fu I.sz h)) (jj _)
theorem Inv.HM (I:Inv X pins σ H s):∀x c,X.env.cells.lookup x=some c->c≠X.env.locals:=fun x c e z=>by
 obtain ⟨v,o,ho,hd⟩:=I.cell x c e
 obtain ⟨m,⟨o',es,ep,ho',hd',_⟩,_⟩:=I.loc
 rw [z,ho'] at ho;cases ho;rw [hd'] at hd;cases hd
theorem Inv.oh (I:Inv X pins σ H s):s.heap.FunFrames X.base X.outer:=by
 have all:∀(l:List Env),(∀b∈frs l,b∈X.fs)->X.s₀.heap.FunFrames X.base l->s.heap.FunFrames X.base l:=by
  intro l
  induction l with
  | nil=>intro _ _;trivial
  | cons env r ih=>
    intro hs hl
    obtain ⟨hk,⟨L,o,hf,hn,ho,hd⟩,hr⟩:=hl
    have hL:L∈X.fs:=hs L (by unfold frs;rw [zX,hf];exact cM)
    obtain ⟨sl,e⟩:=I.base.slot L o ho (I.ok.HL L hL) hL fun z=>I.ok.CQ L z hL
    exact ⟨hk,⟨L,_,hf,hn,e,hd⟩,ih (fun b hb=>hs b (by unfold frs;rw [zX,hf];exact cG _ hb)) hr⟩
 exact all X.outer (fun _ hb=>hb) I.ok.oh
theorem Inv.stack (I:Inv X pins σ H s):s.heap.FunFrames X.base X.stack:=by
 rcases I.ok.stk with e|⟨e,hf⟩
 . rw [e];exact I.oh
 . rw [e]
   obtain ⟨m,hn,_⟩:=I.loc
   refine .cons (by rw [I.ok.kind];decide) hf hn ?_ I.oh
   exact Heap.get?_none_of_le (fu I.ok.DZ I.ok.above)
theorem Inv.Ko (I:Inv X pins σ H s):∀b∈frs X.stack,b∈X.env.locals::X.fs:=fun b hb=>by
 rcases I.ok.stk with e|⟨e,hf⟩
 . rw [e] at hb;exact cG _ hb
 . rw [e] at hb
   unfold frs at hb
   rw [zX,hf] at hb
   exact hb
theorem Inv.xC (I:Inv X pins σ H s):∀b∈frs X.stack,H b=none:=fun b hb=>by
 rcases c6.mp (I.Ko b hb) with e|hb
 . rw [e];exact I.free
 . obtain ⟨_,o,ho,_⟩:=I.ok.oh.mem hb
   exact I.base.free b o ho (I.ok.HL b hb) fun z=>I.ok.CQ b z hb
theorem Inv.step {d':Drawn} (I:Inv X pins σ H s)
  (hch:∀b∈ch,(b∈X.ex\/X.s₀.heap.objs.size<=b)/\b≠X.env.locals/\(∀x c,X.env.cells.lookup x=some c->c≠b)/\∀p∈X.pn++pins,p.1≠b)
  (keep:∀b o,b≠X.env.locals->b∉X.fs->b∉ch->s.heap.get? b=some o->H b=none->h'.get? b=some o)
  (slot:∀b o,b≠X.env.locals->b∈X.fs->b∉ch->s.heap.get? b=some o->H b=none->∃sl,h'.get? b=some { o with slots:=sl }) (free:∀b o,b∉ch->s.heap.get? b=some o->H b=none->H' b=none)
  (there:∀b o,b∉ch->s.heap.get? b=some o->∃o',h'.get? b=some o')
  (tups:∀b xs,H b=some (.tup xs)->H' b=some (.tup xs)) (mZ:∀b o u,H b=some (.fm o u)->H' b=some (.fm o u)) (pK:∀b ps,H b=some (.HK ps)->∃more,H' b=some (.HK (ps++more)))
  (ns:∀m,s.heap.Ns X.env.locals m->h'.Ns X.env.locals m) (hok:gQ X.prog X.w H' h') (hg:AllBare g'):
  Inv X pins σ H' { s with heap:=h',gens:=g',drawn:=d',toks:=t' }:=by
 have OW:∀b o,X.s₀.heap.get? b=some o->b≠X.env.locals:=fun b o e=>dQ (kY (bR e) I.ok.above)
 have Xw:∀b o,X.s₀.heap.get? b=some o->b∉X.ex->b∉ch:=fun b o e hx hb=>by
  rcases (hch b hb).1 with z|z
  . exact hx z
  . exact absurd (kY (bR e) z) (jj _)
 have cellK:∀x c,X.env.cells.lookup x=some c->∀v,s.heap.IsCell c v->h'.IsCell c v:=fun x c e v ⟨o,ho,hd⟩=>by
  have xD:c∉ch:=fun z=>(hch c z).2.2.1 x c e rfl
  by_cases hc:c∈X.fs
  . obtain ⟨sl,q⟩:=slot c o (I.HM x c e) hc xD ho (I.jT x c e)
    exact ⟨_,q,hd⟩
  . exact ⟨o,keep c o (I.HM x c e) hc xD ho (I.jT x c e),hd⟩
 refine ⟨I.ok,I.os,hg,⟨fun b o e n hb hx=>?_,fun b o e n hb hx=>?_,fun b o e n hx=>?_,fun b o e hx=>?_,fun b xs e=>tups b xs (I.base.tups b xs e),fun b o xs e=>mZ b o xs (I.base.mZ b o xs e),fun b ps e=>?_⟩,?_,fun x c e=>?_,?_,fun x c e=>?_,fun p hp=>?_,hok,I.len⟩
 . exact keep b o (OW b o e) hb (Xw b o e hx) (I.base.keep b o e n hb hx) (I.base.free b o e n hx)
 . obtain ⟨sl,e1⟩:=I.base.slot b o e n hb hx
   obtain ⟨Kq,e2⟩:=slot b _ (OW b o e) hb (Xw b o e hx) e1 (I.base.free b o e n hx)
   exact ⟨Kq,e2⟩
 . obtain ⟨o',e1⟩:=I.base.there b o e hx
   exact free b o' (Xw b o e hx) e1 (I.base.free b o e n hx)
 . obtain ⟨o',e1⟩:=I.base.there b o e hx
   exact there b o' (Xw b o e hx) e1
 . obtain ⟨m1,e1⟩:=I.base.pK b ps e
   obtain ⟨m2,e2⟩:=pK b _ e1
   exact ⟨m1++m2,by rw [e2,Array.append_assoc]⟩
 . obtain ⟨m,hn,hl⟩:=I.loc
   refine ⟨m,ns m hn,fun i x v e1 e2 e3=>?_⟩
   obtain ⟨u,r,l⟩:=hl i x v e1 e2 e3
   refine ⟨u,r,?_⟩
   rcases l with l|⟨k,c,e,z⟩
   . exact .inl l
   . exact .inr ⟨k,c,e,cellK x c e _ z⟩
 . obtain ⟨v,z⟩:=I.cell x c e
   exact ⟨v,cellK x c e v z⟩
 . obtain ⟨m,⟨o,_,_,ho,_⟩,_⟩:=I.loc
   exact free _ o (fun z=>(hch _ z).2.1 rfl) ho I.free
 . obtain ⟨v,o,ho,hd⟩:=I.cell x c e
   exact free c o (fun z=>(hch c z).2.2.1 x c e rfl) ho (I.jT x c e)
 . obtain ⟨e,n,ne,nf,d⟩:=I.pin p hp
   have xD:p.1∉ch:=fun z=>(hch p.1 z).2.2.2 p hp rfl
   exact ⟨keep p.1 p.2 ne nf xD e n,free p.1 p.2 xD e n,ne,nf,d⟩
theorem Inv.un (I:Inv X pins σ H s) (u:Un X.fs [] H H' s.heap h') (hok:gQ X.prog X.w H' h'):Inv X pins σ H' { s with heap:=h',toks:=t' }:=by
 obtain ⟨m,⟨o,es,ep,ho,r⟩,_⟩:=id I.loc
 obtain ⟨sl,hL⟩:=u.any ho I.free (by simp)
 exact I.step (g':=s.gens) (d':=s.drawn) (ch:=[]) (fun _ z=>nomatch z) (fun b o _ hb _ e n=>u.keep b o e n hb (by simp)) (fun b o _ hb _ e n=>u.slot b o e n hb (by simp)) (fun b o _ e n=>u.free b o e n (by simp)) (fun b o _ e=>u.there b o e (by simp)) u.tups u.mZ u.pK (fun m' hm=>by
  obtain ⟨o',es',xE,ho',r'⟩:=hm
  rw [ho] at ho';cases ho'
  exact ⟨_,es',xE,hL,r'⟩) hok I.bare
theorem Inv.call {d':Drawn} (I:Inv X pins σ H s) (u:Un (frs X.stack) ch H H' s.heap h') (hok:gQ X.prog X.w H' h') (hg:AllBare g')
  (hch:∀b∈ch,(b∈X.ex\/X.s₀.heap.objs.size<=b)/\b≠X.env.locals/\(∀x c,X.env.cells.lookup x=some c->c≠b)/\∀p∈X.pn++pins,p.1≠b):
  Inv X pins σ H' { s with heap:=h',gens:=g',drawn:=d',toks:=t' }:=by
 obtain ⟨m,⟨o,es,ep,ho,r⟩,_⟩:=id I.loc
 obtain ⟨sl,hL⟩:=u.any ho I.free fun z=>(hch _ z).2.1 rfl
 exact I.step (ch:=ch) hch (fun b o hL hb hc e n=>u.keep b o e n (fun z=>(c6.mp (I.Ko b z)).elim hL hb) hc) (fun b o _ _ hc e n=>u.any e n hc) (fun b o hc e n=>u.free b o e n hc) (fun b o hc e=>u.there b o e hc) u.tups u.mZ u.pK (fun m' hm=>by
  obtain ⟨o',es',xE,ho',r'⟩:=hm
  rw [ho] at ho';cases ho'
  exact ⟨_,es',xE,hL,r'⟩) hok hg
theorem Inv.turned (I:Inv X pins σ H s) (k:∀b o,b≠it->s.heap.get? b=some o->h'.get? b=some o) (hn:H it=none) (hL:it≠X.env.locals)
  (h1:it∈X.ex\/X.s₀.heap.objs.size<=it) (h2:∀x c,X.env.cells.lookup x=some c->c≠it) (h3:∀p∈X.pn++pins,p.1≠it):Inv X pins σ H { s with heap:=h',toks:=t' }:=by
 have nit:∀b u,H b=some u->b≠it:=fun b u e z=>by rw [z,hn] at e;cases e
 refine I.step (g':=s.gens) (d':=s.drawn) (ch:=[it]) (fun b hb=>?_) (fun b o _ _ hc e _=>k b o (fun z=>hc (by simp [z])) e) (fun b o _ _ hc e _=>⟨o.slots,k b o (fun z=>hc (by simp [z])) e⟩) (fun _ _ _ _ n=>n)
  (fun b o hc e=>⟨o,k b o (fun z=>hc (by simp [z])) e⟩) (fun _ _ e=>e) (fun _ _ _ e=>e) (fun b ps e=>⟨#[],by rw [e];simp⟩) (fun m hm=>?_) (fun b u e=>?_) I.bare
 . have e:b=it:=by simpa using hb
   subst e
   exact ⟨h1,hL,h2,h3⟩
 . obtain ⟨o,es,ep,ho,r⟩:=hm
   exact ⟨o,es,ep,k _ o (bU hL) ho,r⟩
 . refine (I.hok b u e).stay (fun c v hc q=>k c v ?_ q) (fun _ q=>q) fun _ _ q=>q
   rcases hc with z|z
   . rw [z];exact nit b u e
   . exact nit c _ z
theorem Inv.tok (I:Inv X pins σ H s) (t:Nat):Inv X pins σ H { s with toks:=t }:=I.un (h':=s.heap) (t':=t) Un.refl I.hok
theorem Inv.kept (I:Inv X pins σ H s) (k:∀b u,s.heap.get? b=some u->h'.get? b=some u):Inv X pins σ H { s with heap:=h',toks:=t' }:=I.un (Un.kept k) (I.hok.kept k)
theorem Inv.laid (I:Inv X pins σ H s) (k:∀b u,s.heap.get? b=some u->h'.get? b=some u) (hp:s.heap.objs.size<=a) (new:dO X.prog X.w (upd H a o) h' a o):
  Inv X pins σ (upd H a o) { s with heap:=h',toks:=t' }:=I.un (Un.laid k hp (I.hok.fresh hp)) (I.hok.laid k hp new)
theorem Inv.write {x e:Addr} (I:Inv X pins σ H s) (mu:Ss (H x)) (he:e=x\/H e=some (.own x)) (k:∀b u,b≠e->s.heap.get? b=some u->h'.get? b=some u) (OU:∃u,h'.get? e=some u)
  (new:dO X.prog X.w (upd H x o) h' x o):Inv X pins σ (upd H x o) { s with heap:=h',toks:=t' }:=I.un (Un.write mu he k OU) (I.hok.write mu he k OU new)
theorem Inv.OX {Xx:AO} (I:Inv X pins σ H s) (h:∀p∈Xx,s.heap.get? p.1=some p.2/\H p.1=none/\p.1≠X.env.locals/\p.1∉X.fs/\∀v,p.2.data ≠ .cell v):Inv X Xx σ H s:=
 ⟨I.ok,I.os,I.bare,I.base,I.loc,I.cell,I.free,I.jT,fun p hp=>(fZ.mp hp).elim (fun z=>I.pin p (F0 _ z)) (h p),I.hok,I.len⟩
theorem yu (hN:N.Nodup) (a:N[i]?=some x) (b:N[j]?=some x):i=j:=by
 obtain ⟨h1,e1⟩:=dI.mp a
 obtain ⟨h2,e2⟩:=dI.mp b
 exact (List.getElem_inj hN).mp (e1.trans e2.symm)
theorem z6 {v:V} (I:Inv X pins σ H s) (hN:X.N.Nodup) (hi:X.N[i]?=some x) (hx:Loc X.env.scope x) (r:RelV v u)
  (h:∀s',Inv X pins (σ.set i (some v)) H s'->(∃a,Heap.SameBut a s.heap s'.heap/\(a=X.env.locals\/X.env.cells.lookup x=some a))->Q () s') (hf:X.fn x=true\/X.env.scope.names.lookup x=some .local:=by first|exact .inl rfl|exact .inr rfl|assumption):wpAny M A (storeName X.env x u) Q E s:=by
 obtain ⟨m,hn,hl⟩:=id I.loc
 have hcls:(X.env.scope.kind == .class || (X.env.scope.kind == .module && X.env.locals != X.env.globals))=false:=by rw [I.ok.kind];rfl
 have hiσ:i<σ.length:=by rw [I.len];exact (dI.mp hi).1
 have HM:=I.HM
 have tracked:∀{a:Addr} {h':Heap},(∃o,s.heap.get? a=some o/\H a=none)->Heap.SameBut a s.heap h'->gQ X.prog X.w H h':=fun {a h'} ha hs b ob e=>by
  obtain ⟨_,_,hfree⟩:=ha
  refine (I.hok b ob e).stay (fun c w' hc q=>(hs.2 c ?_).trans q) (fun _ q=>q) fun _ _ q=>q
  rintro rfl
  rcases hc with rfl|hc
  . rw [hfree] at e;cases e
  . rw [hfree] at hc;cases hc
 rcases hx with hk|hk
 . refine wpAny_storeName_local hk hn (fun h' hn' hs=>?_) hcls
   obtain ⟨oL,_,_,hoL,_⟩:=id hn
   refine h _ ⟨I.ok,I.os,I.bare,⟨fun b o e n hb hx=>?_,fun b o e n hb hx=>?_,I.base.free,fun b o e hx=>?_,I.base.tups,I.base.mZ,I.base.pK⟩,⟨_,hn',fun j y v' e1 e2 e3=>?_⟩,fun y c e=>?_,I.free,I.jT,fun p hp=>?_,tracked ⟨oL,hoL,I.free⟩ hs,by simpa using I.len⟩ ⟨_,hs, .inl rfl⟩
   . exact (hs.2 b (dQ (kY (bR e) I.ok.above))).trans (I.base.keep b o e n hb hx)
   . obtain ⟨sl,e1⟩:=I.base.slot b o e n hb hx
     exact ⟨sl,(hs.2 b (dQ (kY (bR e) I.ok.above))).trans e1⟩
   . obtain ⟨o',e1⟩:=I.base.there b o e hx
     exact ⟨o',(hs.2 b (dQ (kY (bR e) I.ok.above))).trans e1⟩
   . by_cases hj:j=i
     . subst hj
       rw [hi] at e1;cases e1
       rw [j5 hiσ] at e2
       cases e2
       exact ⟨u,r, .inl ⟨hk,by simp⟩⟩
     . rw [uD (bU hj)] at e2
       obtain ⟨u',r',q⟩:=hl j y v' e1 e2 e3
       refine ⟨u',r',?_⟩
       rcases q with ⟨k,e⟩|⟨k,c,e,z⟩
       . refine .inl ⟨k,?_⟩
         have:y≠x:=fun e=>hj (yu hN e1 (e▸hi))
         simp [this,e]
       . exact .inr ⟨k,c,e,z.sameBut hs (HM y c e)⟩
   . obtain ⟨w',z⟩:=I.cell y c e
     exact ⟨w',z.sameBut hs (HM y c e)⟩
   . obtain ⟨e,n,ne,nf,d⟩:=I.pin p hp
     exact ⟨(hs.2 p.1 ne).trans e,n,ne,nf,d⟩
 . have hfn:X.fn x=true:=by
    rcases hf with z|z
    . exact z
    . rw [z] at hk;cases hk
   obtain ⟨c,hc⟩:=I.ok.has x (.inl hk)
   obtain ⟨w',z⟩:=I.cell x c hc
   refine wpAny_storeName_cell I.ok.kind hk hc z (fun h' hc' hs=>?_)
   obtain ⟨oc,hoc,ahg⟩:=id z
   refine h { s with heap:=h' } ⟨I.ok,I.os,I.bare,⟨fun b o e n hb hx=>?_,fun b o e n hb hx=>?_,I.base.free,fun b o e hx=>?_,I.base.tups,I.base.mZ,I.base.pK⟩,⟨m,hn.sameBut hs (bU (HM x c hc)),fun j y v' e1 e2 e3=>?_⟩,fun y c' e=>?_,I.free,I.jT,fun p hp=>?_,tracked ⟨oc,hoc,I.jT x c hc⟩ hs,by simpa using I.len⟩ ⟨c,hs, .inr hc⟩
   . exact (hs.2 b (dQ (kY (bR e) (I.ok.gC x c hfn hc)))).trans (I.base.keep b o e n hb hx)
   . obtain ⟨sl,e1⟩:=I.base.slot b o e n hb hx
     exact ⟨sl,(hs.2 b (dQ (kY (bR e) (I.ok.gC x c hfn hc)))).trans e1⟩
   . obtain ⟨o',e1⟩:=I.base.there b o e hx
     exact ⟨o',(hs.2 b (dQ (kY (bR e) (I.ok.gC x c hfn hc)))).trans e1⟩
   . by_cases hj:j=i
     . subst hj
       rw [hi] at e1;cases e1
       rw [j5 hiσ] at e2
       cases e2
       exact ⟨u,r, .inr ⟨.inl hk,c,hc,hc'⟩⟩
     . rw [uD (bU hj)] at e2
       obtain ⟨u',r',q⟩:=hl j y v' e1 e2 e3
       refine ⟨u',r',?_⟩
       rcases q with q|⟨k,c',e,z'⟩
       . exact .inl q
       . refine .inr ⟨k,c',e,z'.sameBut hs ?_⟩
         rintro rfl
         exact hj (yu hN e1 (I.ok.inj _ _ _ e hc▸hi))
   . by_cases hcc:c'=c
     . subst hcc;exact ⟨_,hc'⟩
     . obtain ⟨w2,z2⟩:=I.cell y c' e
       exact ⟨w2,z2.sameBut hs hcc⟩
   . obtain ⟨e,n,ne,nf,d⟩:=I.pin p hp
     refine ⟨(hs.2 p.1 ?_).trans e,n,ne,nf,d⟩
     intro q
     rw [q,hoc] at e
     have q':oc=p.2:=fY e
     exact d w' (by rw [<-q'];exact ahg)
theorem uF {v:V} (I:Inv X pins σ H s) (hN:X.N.Nodup) (hi:X.N[i]?=some x) (hx:Loc X.env.scope x) (r:RelV v u)
  (h:∀s',Inv X pins (σ.set i (some v)) H s'->Q () s') (hf:X.fn x=true\/X.env.scope.names.lookup x=some .local:=by first|exact .inl rfl|exact .inr rfl|assumption):wpAny M A (storeName X.env x u) Q E s:=
 z6 I hN hi hx r (fun s' I' _=>h s' I') hf
theorem Inv.J0 {s':Shared} (I:Inv X pins σ H s) (ho:s'.os=s.os) (u:Un (frs X.stack) ch H H' s.heap s'.heap) (hok:gQ X.prog X.w H' s'.heap) (hg:AllBare s'.gens)
  (hch:∀b∈ch,(b∈X.ex\/X.s₀.heap.objs.size<=b)/\b≠X.env.locals/\(∀x c,X.env.cells.lookup x=some c->c≠b)/\∀p∈X.pn++pins,p.1≠b):Inv X pins σ H' s':=by
 obtain ⟨h',g',d',t',o'⟩:=s'
 have e:o'=s.os:=ho
 subst e
 exact I.call (g':=g') (t':=t') (d':=d') u hok hg hch
end
abbrev XK:=Value->Option Addr->Hp->Prop
abbrev St:=List (Option V)
abbrev VK:=V->Hp->Prop
abbrev TE:=St->Hp->VK->Prop
abbrev TT:=St->Hp->(Bool->Hp->Prop)->Prop
abbrev TA:=St->Hp->(List V->Hp->Prop)->Prop
structure Ends where
 nx:St->Hp->Prop
 rt:VK
 bk:St->Hp->Prop:=fun _ _=>False
 ct:St->Hp->Prop:=fun _ _=>False
abbrev TS:=Ends->St->Hp->Prop
def EP (X:Cx) (pins:AO) (σ:St) (Q:VK) (u:Value) (s':Shared):Prop:=∃v H',Inv X pins σ H' s'/\RelV v u/\Q v H'
def TP (X:Cx) (pins:AO) (σ:St) (Q:Bool->Hp->Prop) (b:Bool) (s':Shared):Prop:=∃H',Inv X pins σ H' s'/\Q b H'
def AP (X:Cx) (pins:AO) (σ:St) (Q:List V->Hp->Prop) (us:List Value) (s':Shared):Prop:=∃vs H',Inv X pins σ H' s'/\Vals vs us/\Q vs H'
def SP (X:Cx) (pins:AO) (D:Ends) (f:Flow) (s':Shared):Prop:=
 match f with
 | .next=>∃σ' H',Inv X pins σ' H' s'/\D.nx σ' H'
 | .brk=>∃σ' H',Inv X pins σ' H' s'/\D.bk σ' H'
 | .cont=>∃σ' H',Inv X pins σ' H' s'/\D.ct σ' H'
 | .ret u=>∃v σ' H',Inv X pins σ' H' s'/\RelV v u/\D.rt v H'
def PE (X:Cx) (e:Expr) (t:TE):Prop:=
 ∀(pins:AO) (s:Shared) (σ:St) (H:Hp) (Q:VK),Inv X pins σ H s->t σ H Q->wpAny (model X.prog X.w) X.A (eval e X.env) (EP X pins σ Q) X.xe s
def PT (X:Cx) (e:Expr) (t:TT):Prop:=
 ∀(pins:AO) (s:Shared) (σ:St) (H:Hp) (Q:Bool->Hp->Prop),Inv X pins σ H s->t σ H Q->wpAny (model X.prog X.w) X.A (isTrue e X.env (eval e X.env)) (TP X pins σ Q) X.xe s
def PW (X:Cx) (e:Expr) (t:TT):Prop:=
 ∀(whole:Sem Value) (pins:AO) (s:Shared) (σ:St) (H:Hp) (Q:Bool->Hp->Prop),Inv X pins σ H s->t σ H Q->wpAny (model X.prog X.w) X.A (isTrue e X.env whole) (TP X pins σ Q) X.xe s
variable {X:Cx} {e:Expr}
theorem PW.pt {t:TT} (h:PW X e t):PT X e t:=h _
def PA (X:Cx) (es:List Expr) (t:TA):Prop:=
 ∀(pos:Pos) (pins:AO) (s:Shared) (σ:St) (H:Hp) (Q:List V->Hp->Prop),Inv X pins σ H s->t σ H Q->wpAny (model X.prog X.w) X.A (spliced (backTo pos (starEach es X.env))) (AP X pins σ Q) X.xe s
def PS (X:Cx) (st:Stmt) (t:TS):Prop:=
 ∀(pins:AO) (s:Shared) (σ:St) (H:Hp) (D:Ends),Inv X pins σ H s->t D σ H->wpAny (model X.prog X.w) X.A (exec st X.env) (SP X pins D) X.xe s
def qL (X:Cx) (st:List Stmt) (t:TS):Prop:=
 ∀(pins:AO) (s:Shared) (σ:St) (H:Hp) (D:Ends),Inv X pins σ H s->t D σ H->wpAny (model X.prog X.w) X.A (execs st X.env) (SP X pins D) X.xe s
variable {s:Shared}
theorem bg {α:Type} {t:Sem α} {Q Q':α->Shared->Prop} (h:wpAny M A t Q E s) (hQ:∀a s,Q a s->Q' a s):wpAny M A t Q' E s:=gT h hQ fun _ _ x=>x
variable {pos:Pos} {pins:AO} {σ:St} {op:CmpOp}
section
variable {X:Cx}
inductive CS (i:Nat) (σ:St) (H:Hp) (Q:VK):Prop
 | mk  (v:_) (_:σ[i]?=some (some v)) (_:Q v H)
def tC (v:V):TE:=fun _ H Q=>Q v H
theorem aat (hN:X.N[i]?=some x) (hv:Sv X.env.scope x) (hd:(x==("__debug__":Str))=false:=by decide) (hcd:(x==("__classdict__":Str))=false:=by decide):PE X (.Name x pos) (CS i):=by
 intro pins s σ H Q I h
 obtain ⟨v,e,h⟩:=h
 obtain ⟨m,hn,hl⟩:=I.loc
 obtain ⟨u,r,l⟩:=hl i x v hN e hv
 have fin:EP X pins σ Q u s:=⟨v,H,I,r,h⟩
 rcases l with ⟨hk,hm⟩|⟨hk,c,hc,hcell⟩
 . exact wpAny_Name (wpAny_loadName_local I.ok.kind hk hn hm fin) hd
 . rcases hk with hk|hk
   . exact wpAny_Name (wpAny_loadName_cell I.ok.kind hk hc hcell fin) hd
   . exact wpAny_Name (wpAny_loadName_free I.ok.kind hk hc hcell fin hcd) hd
theorem Sw {x j pos}:PE X (.Constant (.str x) j pos) (tC (.str x)):=fun _ _ _ H _ I h=>Calls.Constant_str ⟨.str x,H,I.tok _,⟨_,Z⟩,h⟩
def Gl (X:Cx) (x:Str):Prop:=X.env.kindOf x=some .globalImplicit
theorem qQ {Q:VS} (I:Inv X pins σ H s) (hg:Gl X x) (hm:X.mg x=some u) (h:Q u s)
  (hd:(x==("__debug__":Str))=false:=by decide):wpAny (model X.prog X.w) X.A (eval (.Name x pos) X.env) Q E s:=
 Calls.Name_function_global I.ok.kind hg (Calls.loadGlobal_global (by rw [I.ok.glob];exact I.mod.glob.keeps I.bk) hm h) hd
theorem xF {Q:VS} (I:Inv X pins σ H s) (hg:Gl X x) (hm:X.mg x=none) (hv:bootBuiltins x=some u) (h:Q u s)
  (hn:x ≠ "__name__":=by decide) (hd:(x==("__debug__":Str))=false:=by decide):wpAny (model X.prog X.w) X.A (eval (.Name x pos) X.env) Q E s:=by
 obtain ⟨mb,h1,h2⟩:=I.mod.blt
 exact Calls.Name_function_global I.ok.kind hg (Calls.loadGlobal_builtin (by rw [I.ok.glob];exact I.mod.glob.keeps I.bk) hm (by rw [I.ok.blt];exact h1.keeps I.bk) ((h2 x hn).trans hv) h) hd
theorem YF {v:V} (hg:Gl X x) (hm:X.mg x=none) (hv:bootBuiltins x=some u) (r:RelV v u) (hn:x ≠ "__name__":=by decide) (hd:(x==("__debug__":Str))=false:=by decide):PE X (.Name x pos) (tC v):=
 fun _ _ _ H _ I h=>xF I hg hm hv ⟨v,H,I,r,h⟩ hn hd
variable {a b:Expr} {ta tb:TE} {pos:Pos}
def PC (X:Cx) (op:CmpOp) (a b:Expr) (t:TE):Prop:=
 ∀(pins:AO) (s:Shared) (σ:St) (H:Hp) (Q:VK),Inv X pins σ H s->t σ H Q->
  wpAny (model X.prog X.w) X.A (eval a X.env) (fun v s₁=>wpAny (model X.prog X.w) X.A (eval b X.env) (fun u s₂=>wpAny (model X.prog X.w) X.A (compareOp op v u) (EP X pins σ Q) X.xe s₂) X.xe s₁) X.xe s
theorem Kr (b:Expr) (h:op ≠ .In) (h2:op ≠ .NotIn):behindInMarks op b=false:=by
 have e1:(op==CmpOp.In)=false:=by cases op <;> first|rfl|exact absurd rfl h
 have e2:(op==CmpOp.NotIn)=false:=by cases op <;> first|rfl|exact absurd rfl h2
 cases b <;> simp [behindInMarks,e1,e2]
inductive yTB (Q:Bool->Hp->Prop) (x:V) (H1:Hp):Prop
 | mk  (c:_) (_:x = .bl c) (_:Q c H1)
def tB (t:TE):TT:=fun σ H Q=>t σ H (yTB Q)
variable {tA Xy:TT} {rest:List Expr}
def adR (u:TT) (σ:St) (Q:Bool->Hp->Prop):Bool->Hp->Prop:=fun c H1=>if c=true then u σ H1 Q else Q false H1
def aau (t u:TT):TT:=fun σ H Q=>t σ H (adR u σ Q)
def ahh (u:TT) (σ:St) (Q:Bool->Hp->Prop):Bool->Hp->Prop:=fun c H1=>if c=true then Q true H1 else u σ H1 Q
def tOr (t u:TT):TT:=fun σ H Q=>t σ H (ahh u σ Q)
abbrev adS (Q:Bool->Hp->Prop):Bool->Hp->Prop:=fun c H1=>Q (!c) H1
def ahi (t:TT):TT:=fun σ H Q=>t σ H (adS Q)
inductive aav (tb:TE) (σ:St) (Q:VK) (x:V) (H1:Hp):Prop
 | mk  (c:_) (_:x = .bl c) (_:if c=true then tb σ H1 Q else Q (.bl false) H1)
def adT (ta tb:TE):TE:=fun σ H Q=>ta σ H (aav tb σ Q)
inductive aaw (Q:VK) (x:V) (H1:Hp):Prop
 | mk  (c:_) (_:x = .bl c) (_:Q (.bl (!c)) H1)
def adU (ta:TE):TE:=fun σ H Q=>ta σ H (aaw Q)
end
def aC (K:Fg) (H:Hp) (a:Addr) (xs:List V):Prop:=
 Rd H a (.lst xs)\/
  ∃(o:Obj) (its:Array Value) (n:Nat),K.lookup a=some o/\o.cls = .type "list"/\o.dict=none/\o.data = .seq its n/\its.size<=sizeLine/\Vals xs its.toList
def cS (K:Fg) (H:Hp) (a:Addr) (xs:List V):Prop:=
 Rd H a (.tup xs)\/
  ∃(o:Obj) (its:Array Value) (n:Nat),K.lookup a=some o/\o.cls = .type "tuple"/\o.data = .seq its n/\its.size<=sizeLine/\Vals xs its.toList
def ahj:Value->Option V
 | .none=>some .b_
 | .bool b=>some (.bl b)
 | .int i _=>some (.int i)
 | .str x _=>some (.str x)
 | .bytes b _=>some (.xB b)
 | .float b _=>some (.HJ b)
 | .ref a=>some (.ref a)
 | .type n=>some (.ty n)
 | _=>none
theorem RelV.abs {x:V} (r:RelV x u):ahj u=some x:=by
 cases x with
 | b_=>cases r;rfl
 | bl _=>cases r;rfl
 | int _=>obtain ⟨t,rfl⟩:=r;rfl
 | str _=>obtain ⟨t,rfl⟩:=r;rfl
 | xB _=>obtain ⟨t,rfl⟩:=r;rfl
 | HJ _=>obtain ⟨t,rfl⟩:=r;rfl
 | ref _=>cases r;rfl
 | ty _=>cases r;rfl
variable {y:V}
theorem RelV.inj {x:V} (r:RelV x u) (q:RelV y u):x=y:=fY (r.abs.symm.trans q.abs)
theorem Vals.inj:∀{xs ys:List V} {us:List Value},Vals xs us->Vals ys us->xs=ys
 | _,_,_, .nil, .nil=>rfl
 | _,_,_, .cons r t, .cons r' t'=>by rw [r.inj r',Vals.inj t t']
variable {K:Fg}
section
variable {X:Cx} {pins:AO} {σ:St} {H:Hp} {s:Shared} {a:Addr} {xs ys:List V}
theorem aC.of (h:H a=some (.lst xs)):aC K H a xs:= .inl (.inl h)
theorem cS.of (h:H a=some (.tup xs)):cS K H a xs:= .inl (.inl h)
theorem Inv.list (I:Inv X pins σ H s) (h:aC X.K H a xs):∃its:List Value,Vals xs its/\PlainL s.heap a its.toArray/\xs.length<=sizeLine:=by
 rcases h with h|⟨o,its,n,hk,hc,hd,hs,hz,r⟩
 . obtain ⟨z,its,n,r,e⟩:=h.ok I.hok
   exact ⟨its,r,⟨_,n,e,Z,Z,Z⟩,z⟩
 . refine ⟨its.toList,r,⟨o,n,I.iN a o hk,hc,hd,by simpa using hs⟩,?_⟩
   have e:=r.length
   simp only [Array.length_toList] at e
   omega
theorem Inv.tuple (I:Inv X pins σ H s) (h:cS X.K H a xs):∃its:List Value,Vals xs its/\IsTup s.heap a its.toArray/\xs.length<=sizeLine:=by
 rcases h with h|⟨o,its,n,hk,hc,hs,hz,r⟩
 . obtain ⟨z,its,r,p⟩:=h.ok I.hok
   exact ⟨its,r,p,z⟩
 . refine ⟨its.toList,r,⟨o,I.iN a o hk,hc,n,by simpa using hs⟩,?_⟩
   have e:=r.length
   simp only [Array.length_toList] at e
   omega
theorem Inv.VI (I:Inv X pins σ H s) (h:aC X.K H a xs) (h':aC X.K H a ys):xs=ys:=by
 obtain ⟨its,r,⟨o,n,e,_,_,d⟩,_⟩:=I.list h
 obtain ⟨its',r',⟨o',n',e',_,_,d'⟩,_⟩:=I.list h'
 rw [e] at e';cases e'
 rw [d] at d'
 injection d' with d1 _
 have:its=its':=by simpa using gU Array.toList d1
 subst this
 exact r.inj r'
end
abbrev Cx.wN (X:Cx) (E:VS):Cx:={ X with xe:=E }
abbrev Cx.Ci (X:Cx):Cx:=X.wN fun _ _=>False
theorem Cx.Ok.wN (ok:X.Ok) (E:VS):(X.wN E).Ok:=
 ⟨ok.mod,ok.kind,ok.glob,ok.blt,ok.above,ok.inj,ok.has,ok.gC,ok.hd,ok.frames,ok.stk,ok.Kn,ok.bs,ok.DZ,ok.Gk,ok.CQ,ok.oh,ok.HL⟩
theorem Cx.Ok.sO (ok:(X.wN E).Ok):X.Ok:=
 ⟨ok.mod,ok.kind,ok.glob,ok.blt,ok.above,ok.inj,ok.has,ok.gC,ok.hd,ok.frames,ok.stk,ok.Kn,ok.bs,ok.DZ,ok.Gk,ok.CQ,ok.oh,ok.HL⟩
variable {D:Ends}
section
variable {X:Cx} {pins:AO} {σ:St} {H:Hp} {s:Shared} {E:VS}
theorem Inv.wN (I:Inv X pins σ H s) (E:VS):Inv (X.wN E) pins σ H s:=⟨I.ok.wN E,I.os,I.bare,I.base,I.loc,I.cell,I.free,I.jT,I.pin,I.hok,I.len⟩
theorem Inv.sO (I:Inv (X.wN E) pins σ H s):Inv X pins σ H s:=⟨I.ok.sO,I.os,I.bare,I.base,I.loc,I.cell,I.free,I.jT,I.pin,I.hok,I.len⟩
theorem SP.sO {f:Flow} (h:SP (X.wN E) pins D f s'):SP X pins D f s':=by
 cases f with
 | next=>obtain ⟨σ',H',I,q⟩:=h;exact ⟨σ',H',I.sO,q⟩
 | brk=>obtain ⟨σ',H',I,q⟩:=h;exact ⟨σ',H',I.sO,q⟩
 | cont=>obtain ⟨σ',H',I,q⟩:=h;exact ⟨σ',H',I.sO,q⟩
 | ret u=>obtain ⟨v,σ',H',I,r,q⟩:=h;exact ⟨v,σ',H',I.sO,r,q⟩
theorem qL.Ci {st:List Stmt} {t:TS} (h:qL X.Ci st t):qL X st t:=fun pins s σ H D I hw=>
 gT (h pins s σ H D (I.wN _) hw) (fun _ _ q=>q.sO) fun _ _ z=>False.elim z
end
variable {tc:TT}
section
variable {X:Cx} {st:Stmt} {rest:List Stmt} {t u:TS} {e:Expr} {te:TE} {pos:Pos}
def adV:TS:=fun D σ H=>D.nx σ H
def Ends.sq (D:Ends) (u:TS):Ends:={ D with nx:=u D }
def Ends.lp (D:Ends) (N:St->Hp->Prop):Ends:={ D with nx:=N,ct:=N,bk:=D.nx }
def z7 (t u:TS):TS:=fun D σ H=>t (D.sq u) σ H
theorem Inv.quiet (I:Inv X pins σ H s):interactive X.env=false:=by simp [interactive,I.ok.kind]
def aax (D:Ends) (σ:St):V->Hp->Prop:=fun _ H1=>D.nx σ H1
def adW (te:TE):TS:=fun D σ H=>te σ H (aax D σ)
def ahk (te:TE):TS:=fun D σ H=>te σ H D.rt
def adX:TS:=fun D _ H=>D.rt .b_ H
def adY (t:TS) (u:TS) (D:Ends) (σ:St):Bool->Hp->Prop:=fun b H1=>if b=true then t D σ H1 else u D σ H1
def aay (c:TT) (t u:TS):TS:=fun D σ H=>c σ H (adY t u D σ)
theorem Xz {c:Expr} {a b:List Stmt} (hc:PT X c tc) (ha:qL X a t) (hb:qL X b u):PS X (.If c a b pos) (aay tc t u):=by
 intro pins s σ H D I h
 refine wpAny_If (bg (hc pins s σ H _ I h) fun d s1 ⟨H1,I1,q1⟩=>?_)
 cases d with
 | true=>exact ha pins s1 σ H1 D I1 q1
 | false=>exact hb pins s1 σ H1 D I1 q1
def aaz:TS:=fun _ _ _=>False
end
abbrev TG:=V->St->Hp->(St->Hp->Prop)->Prop
abbrev D0:=List V->St->Hp->(St->Hp->Prop)->Prop
def PG (X:Cx) (target:Expr) (t:TG):Prop:=
 ∀(pins:AO) (s:Shared) (σ:St) (H:Hp) (v:V) (u:Value) (Q:St->Hp->Prop),Inv X pins σ H s->RelV v u->t v σ H Q->
  wpAny (model X.prog X.w) X.A (assign target X.env u) (fun _ s'=>∃σ' H',Inv X pins σ' H' s'/\Q σ' H') X.xe s
def PGs (X:Cx) (ts:List Expr) (t:D0):Prop:=
 ∀(pins:AO) (s:Shared) (σ:St) (H:Hp) (vs:List V) (us:List Value) (Q:St->Hp->Prop),Inv X pins σ H s->Vals vs us->t vs σ H Q->
  wpAny (model X.prog X.w) X.A (assignInOrder ((assignEach ts X.env).map (·.2)) us) (fun _ s'=>∃σ' H',Inv X pins σ' H' s'/\Q σ' H') X.xe s
abbrev sY:=V->V->V->Hp->(Hp->Prop)->Prop
def VJ (X:Cx) (t:sY):Prop:=
 ∀(pins:AO) (s:Shared) (σ:St) (H:Hp) (o i v:V) (ov iv u:Value) (Q:Hp->Prop),Inv X pins σ H s->RelV o ov->RelV i iv->RelV v u->t o i v H Q->
  wpAny (model X.prog X.w) X.A (setItem ov iv u) (fun _ s'=>∃H',Inv X pins σ H' s'/\Q H') X.xe s
abbrev Ks:=V->V->Hp->VK->Prop
def PIp (X:Cx) (op:Operator) (t:Ks):Prop:=
 ∀(pins:AO) (s:Shared) (σ:St) (H:Hp) (x y:V) (v u:Value) (Q:VK),Inv X pins σ H s->RelV x v->RelV y u->t x y H Q->
  wpAny (model X.prog X.w) X.A (inplaceOp op v u) (EP X pins σ Q) X.xe s
variable {es:List Expr} {n:Nat}
section
variable {X:Cx} {pos:Pos}
def gh (i:Nat):TG:=fun v σ H Q=>Q (σ.set i (some v)) H
inductive aaA (vs:List V) (σ:St) (H:Hp) (Q:St->Hp->Prop):Prop
 | mk  (_:vs=[]) (_:Q σ H)
def aaB (u:D0) (Q:St->Hp->Prop) (r:List V):St->Hp->Prop:=fun σ' H'=>u r σ' H' Q
inductive XA (t:TG) (u:D0) (vs:List V) (σ:St) (H:Hp) (Q:St->Hp->Prop):Prop
 | mk  (v r:_) (_:vs=v::r) (_:t v σ H (aaB u Q r))
inductive CT (K:Fg) (n:Nat) (t:D0) (v:V) (σ:St) (H:Hp) (Q:St->Hp->Prop):Prop
 | mk  (a xs:_) (_:v = .ref a) (_:cS K H a xs) (_:xs.length=n) (_:t xs σ H Q)
theorem aaC {k:Nat} {t:D0} (hc:X.calm=true) (h:PGs X es t)
  (hn:(assignEach es X.env).length=n:=by rfl) (hst:(assignEach es X.env).findIdx? (·.1)=none:=by rfl):PG X (.Tuple es k pos) (CT X.K n t):=by
 intro pins s σ H v u Q I r hw
 obtain ⟨a,xs,e1,hq,hl,hw⟩:=hw
 subst e1
 cases r
 obtain ⟨its,rv,ht,hz⟩:=I.tuple hq
 refine assign_Tuple_tuple (I.ok.hd hc) ht (by simp [hn,<-hl,rv.length]) hst fun h' hx=>?_
 have I1:Inv X pins σ H { s with heap:=h' }:=I.kept (t':=s.toks) fun b o e=>hx b o (dQ (bR e)) e
 exact h pins _ σ H xs _ Q I1 (by simpa using rv) hw
def YG (σ:St) (Q:St->Hp->Prop):Hp->Prop:=fun H3=>Q σ H3
def YH (t:sY) (v:V) (σ:St) (Q:St->Hp->Prop) (o:V):V->Hp->Prop:=fun i H2=>t o i v H2 (YG σ Q)
def adZ (ti:TE) (t:sY) (v:V) (σ:St) (Q:St->Hp->Prop):V->Hp->Prop:=fun o H1=>ti σ H1 (YH t v σ Q o)
def ahl (to ti:TE) (t:sY):TG:=fun v σ H Q=>to σ H (adZ ti t v σ Q)
def ad0 (g:TG) (D:Ends) (σ:St):V->Hp->Prop:=fun x H1=>g x σ H1 D.nx
def z8 (te:TE) (g:TG):TS:=fun D σ H=>te σ H (ad0 g D σ)
inductive ad1 (i:Nat) (j:Nat) (D:Ends) (σ:St) (vs:List V) (H1:Hp):Prop
 | mk  (v w:_) (_:vs=[v,w]) (_:D.nx ((σ.set i (some v)).set j (some w)) H1)
def ahm (i j:Nat) (ta:TA):TS:=fun D σ H=>ta σ H (ad1 i j D σ)
def VL (D:Ends) (σ:St):Hp->Prop:=fun H6=>D.nx σ H6
def VM (pL:sY) (D:Ends) (σ:St) (o:V) (i:V):V->Hp->Prop:=fun z H5=>pL o i z H5 (VL D σ)
def VN (zx:Ks) (pL:sY) (D:Ends) (σ:St) (o:V) (i:V) (x:V):V->Hp->Prop:=fun y H4=>zx x y H4 (VM pL D σ o i)
def VO (te:TE) (zx:Ks) (pL:sY) (D:Ends) (σ:St) (o:V) (i:V):V->Hp->Prop:=fun x H3=>te σ H3 (VN zx pL D σ o i x)
def VP (te:TE) (z9:V->V->Hp->VK->Prop) (zx:Ks) (pL:sY) (D:Ends) (σ:St) (o:V):V->Hp->Prop:=fun i H2=>z9 o i H2 (VO te zx pL D σ o i)
def aaD (ti:TE) (te:TE) (z9:V->V->Hp->VK->Prop) (zx:Ks) (pL:sY) (D:Ends) (σ:St):V->Hp->Prop:=fun o H1=>ti σ H1 (VP te z9 zx pL D σ o)
def ad2 (to ti te:TE) (z9:V->V->Hp->VK->Prop) (zx:Ks) (pL:sY):TS:=fun D σ H=>to σ H (aaD ti te z9 zx pL D σ)
def aaE (X:Cx) (t:V->V->Hp->VK->Prop):Prop:=
 ∀(pins:AO) (s:Shared) (σ:St) (H:Hp) (o i:V) (ov iv:Value) (Q:VK),Inv X pins σ H s->RelV o ov->RelV i iv->t o i H Q->
  wpAny (model X.prog X.w) X.A (getItem ov iv) (EP X pins σ Q) X.xe s
inductive ipI (f:Int->Int->Int) (x:V) (y:V) (H:Hp) (Q:VK):Prop
 | mk  (i j:_) (_:x = .int i) (_:y = .int j) (_:Q (.int (f i j)) H)
theorem aaF:PIp X .Add (ipI fun i j=>i+j):=by
 intro pins s σ H x y v u Q I r1 r2 h
 obtain ⟨i,j,e1,e2,q⟩:=h
 subst e1;subst e2
 obtain ⟨t,rfl⟩:=r1
 obtain ⟨t',rfl⟩:=r2
 exact iadd_int ⟨.int _,H,I.tok _,⟨_,Z⟩,q⟩
end
section
variable {X:Cx} {pos:Pos}
def aaG (c:TT) (tb:TS):TS:=fun D σ H=>∃W:Nat->St->Hp->Prop,(∃m,W m σ H)/\∀m σ H,W m σ H->
 c σ H fun b H1=>if b=true then ∃N:St->Hp->Prop,(∀σ' H',N σ' H'->∃m',m'<m/\W m' σ' H')/\tb { D with nx:=N,ct:=N,bk:=D.nx } σ H1 else D.nx σ H1
end
structure It where
 go:Nat->Hp->Prop
 D3:Nat->Hp->V->Hp->Prop
 stop:Nat->Hp->Prop
def pM (X:Cx) (pins:AO) (H:Hp) (b:Addr):Prop:=
 H b=none/\b≠X.env.locals/\b∉X.fs/\(b∈X.ex\/X.s₀.heap.objs.size<=b)/\(∀x c,X.env.cells.lookup x=some c->c≠b)/\∀p∈X.pn++pins,p.1≠b
variable {H':Hp}
theorem Inv.Gm {b:Addr} (I:Inv X pins σ H s) (hb:s.heap.objs.size<=b) (hn:H' b=none):pM X pins H' b:=by
 refine ⟨hn,yp (kY I.lt hb),I.ahf hb, .inr (fu I.sz hb),fun x c e z=>?_,fun p hp z=>?_⟩
 . obtain ⟨v,q⟩:=I.cell x c e
   exact absurd (kY q.lt (by rw [z];exact hb)) (jj _)
 . exact absurd (kY (bR (I.pin p hp).1) (by rw [z];exact hb)) (jj _)
structure Turn (P:Program) (w:World) (K:Fg) (tg:Expr) (J:It) (fp:List Addr) (it:Addr) (tn:Nat->Heap->Prop):Prop where
 mem:it∈fp
 obj:∀i h,tn i h->∀b∈fp,∃o,h.get? b=some o/\∀v,o.data ≠ .cell v
 keep:∀i h h',tn i h->(∀b∈fp,∀o,h.get? b=some o->h'.get? b=some o)->tn i h'
 item:∀(X:Cx),X.prog=P->X.w=w->X.K=K->X.calm=true->∀(i:Nat) (pins:AO) (s:Shared) (σ:St) (H:Hp) (E:VS),Inv X pins σ H s->(∀b∈fp,pM X pins H b)->tn i s.heap->J.go i H->
  wpAny (model P w) X.A (pyNext (.ref it)) (fun r s1=>∃u,r=some u/\
   wpAny (model P w) X.A (letOwnedTupleGo tg (.ref it) u) (fun _ s2=>∃x H',Inv X pins σ H' s2/\RelV x u/\J.D3 i H x H'/\tn (i+1) s2.heap/\∀b∈fp,H' b=none) E s1) E s
 done:∀(X:Cx),X.prog=P->X.w=w->X.K=K->X.calm=true->∀(i:Nat) (pins:AO) (s:Shared) (σ:St) (H:Hp) (E:VS),Inv X pins σ H s->(∀b∈fp,pM X pins H b)->tn i s.heap->J.stop i H->
  wpAny (model P w) X.A (pyNext (.ref it)) (fun r s1=>r=none/\Inv X pins σ H s1) E s
 self:∀(A:Around) (i:Nat) (s:Shared) (Q:VS) (E:VS),tn i s.heap->Q (.ref it) s->wpAny (model P w) A (pyIter (.ref it)) Q E s
abbrev TI:=St->Hp->(It->Hp->Prop)->Prop
def PIE (X:Cx) (pins:AO) (σ:St) (tg:Expr) (R:It->Hp->Prop) (itv:Value) (s2:Shared):Prop:=
 ∃(it:Addr) (fp:List Addr) (tn:Nat->Heap->Prop) (J:It) (H':Hp),itv = .ref it/\Inv X pins σ H' s2/\Turn X.prog X.w X.K tg J fp it tn/\tn 0 s2.heap/\(∀b∈fp,pM X pins H' b)/\R J H'
def PI (X:Cx) (tg iter:Expr) (wi:TI):Prop:=
 ∀(pins:AO) (s:Shared) (σ:St) (H:Hp) (R:It->Hp->Prop),Inv X pins σ H s->wi σ H R->
  wpAny (model X.prog X.w) X.A (eval iter X.env) (fun v s1=>wpAny (model X.prog X.w) X.A (pyIter v) (PIE X pins σ tg R) X.xe s1) X.xe s
variable {tg:Expr}
theorem D4 {o:Obj} {n:String} {vs:Array Value} (ho:s.heap.get? it=some o) (hc:o.cls = .type n) (hd:o.data = .fields vs)
  (hn:["enumerate","zip","dict_itemiterator","dict_reverseitemiterator","odict_iterator","itertools.zip_longest","itertools.pairwise"].contains n=false) (hQ:Q () s):wpAny M A (letOwnedTupleGo tg (.ref it) u) Q E s:=by
 unfold letOwnedTupleGo
 cases tg <;> first
  | exact aL hQ
  | (cases u <;> first
      | exact aL hQ
      | (refine aq (wpAny_load ho ?_)
         rw [hc,hd]
         show wpAny M A (if (["enumerate","zip","dict_itemiterator","dict_reverseitemiterator","odict_iterator","itertools.zip_longest","itertools.pairwise"].contains n && vs[0]?==some (rawInt _))=true then _ else _) Q E s
         rw [az (by intro h;rw [hn,Bool.false_and] at h;cases h)]
         exact aL hQ))
def uG (K:Fg) (a:Addr):It:=
 ⟨fun i H=>∃xs x,aC K H a xs/\xs[i]?=some x,fun i H x H'=>H'=H/\∀xs,aC K H a xs->xs[i]?=some x,fun i H=>∃xs,aC K H a xs/\xs.length<=i⟩
def HN (lo:Int) (n:Nat):It:=⟨fun i _=>i<n,fun i H x H'=>H'=H/\x = .int (lo+i),fun i _=>n<=i⟩
theorem Sx {w:World} (a it:Addr):Turn P w K tg (uG K a) [it] it (fun i h=>h.IsListIter it a i) where
 mem:=by simp
 obj:=fun i h st b hb=>by
  have e:b=it:=by simpa using hb
  subst e
  obtain ⟨o,e,c,d⟩:=st
  exact ⟨o,e,fun v z=>by rw [d] at z;cases z⟩
 keep:=fun i h h' st k=>st.at fun o e=>k it (by simp) o e
 item:=by
  intro X hP hw hK hc i pins s σ H E I hf st hg
  subst hP hw hK
  obtain ⟨xs,x,hq,hx⟩:=hg
  obtain ⟨its,rv,p,hz⟩:=I.list hq
  obtain ⟨u,hu,ru⟩:=rv.get hx
  obtain ⟨f0,f1,f2,f3,f4,f5⟩:=hf it (by simp)
  refine wpAny_pyNext_list_item st p.isList (x:=u) (by simpa using hu) fun h' st' sb=>?_
  have I1:Inv X pins σ H { s with heap:=h' }:=I.turned (t':=s.toks) (fun b o hb e=>(sb.2 b hb).trans e) f0 f1 f3 f4 f5
  obtain ⟨o,e,c,d⟩:=id st'
  exact ⟨u,Z,D4 (s:={ s with heap:=h' }) e c d (by decide) ⟨x,H,I1,ru,⟨Z,fun ys hy=>by rw [I.VI hy hq];exact hx⟩,st',fun b hb=>(hf b hb).1⟩⟩
 done:=by
  intro X hP hw hK hc i pins s σ H E I hf st hg
  subst hP hw hK
  obtain ⟨xs,hq,hx⟩:=hg
  obtain ⟨its,rv,p,hz⟩:=I.list hq
  obtain ⟨f0,f1,f2,f3,f4,f5⟩:=hf it (by simp)
  have hl:=rv.length
  exact wpAny_pyNext_list_end (I.ok.hd hc) st p.isList (by simp;omega) fun h' eb=>⟨Z,I.turned (t':=s.toks) (fun b o hb e=>eb b o hb e) f0 f1 f3 f4 f5⟩
 self:=fun _ _ _ _ _ st h=>wpAny_pyIter_listiter st h
theorem QS {w:World} (it:Addr) (lo:Int) (n:Nat):Turn P w K tg (HN lo n) [it] it (fun i h=>IsRangeIter h it (lo+(i:Nat)*1) ((n:Int)-(i:Nat)) 1) where
 mem:=by simp
 obj:=fun i h st b hb=>by
  have e:b=it:=by simpa using hb
  subst e
  exact ⟨_,st,fun v z=>by
   have z':Data.fields _=Data.cell v:=z
   cases z'⟩
 keep:=fun i h h' st k=>k it (by simp) _ st
 item:=by
  intro X hP hw hK hc i pins s σ H E I hf st hg
  subst hP hw hK
  obtain ⟨f0,f1,f2,f3,f4,f5⟩:=hf it (by simp)
  have W:=Walks.range (prog:=X.prog) (w:=X.w) (I.ok.hd hc) it lo 1 n
  refine W.item i s _ _ hg st fun v h' tk hv st' kk=>?_
  obtain ⟨t,rfl⟩:=hv
  have I1:Inv X pins σ H { s with heap:=h',toks:=tk }:=I.turned (fun b o hb e=>kk b o (by simpa using hb) e) f0 f1 f3 f4 f5
  refine ⟨_,Z,D4 (s:={ s with heap:=h',toks:=tk }) (n:="range_iterator") st' rfl rfl (by decide) ⟨.int (lo+i),H,I1,⟨t,?_⟩,⟨Z,Z⟩,st',fun b hb=>(hf b hb).1⟩⟩
  rw [Int.mul_one]
 done:=by
  intro X hP hw hK hc i pins s σ H E I hf st hg
  subst hP hw hK
  obtain ⟨f0,f1,f2,f3,f4,f5⟩:=hf it (by simp)
  exact wpAny_pyNext_range_end (I.ok.hd hc) st (by have:n<=i:=hg;omega) fun h' eb=>⟨Z,I.turned (t':=s.toks) (fun b o hb e=>eb b o hb e) f0 f1 f3 f4 f5⟩
 self:=fun _ _ _ _ _ st h=>wpAny_pyIter_rangeiter st h
variable {tl:TE} {fp:List Addr}
section
variable {X:Cx} {tg:Expr}
inductive aaH (K:Fg) (R:It->Hp->Prop) (x:V) (H1:Hp):Prop
 | mk  (a:_) (_:x = .ref a) (_:(∃xs,aC K H1 a xs)) (_:R (uG K a:_) H1)
def XC (K:Fg) (tl:TE):TI:=fun σ H R=>tl σ H (aaH K R)
theorem YI {l:Expr} (hl:PE X l tl):PI X tg l (XC X.K tl):=by
 intro pins s σ H R I h
 refine bg (hl pins s σ H _ I h) fun v s1 ⟨x,H1,I1,r1,q1⟩=>?_
 obtain ⟨a,e,⟨xs,hq⟩,q⟩:=q1
 subst e
 cases r1
 obtain ⟨its,rv,p,hz⟩:=I1.list hq
 refine QK p.isList ?_
 refine ⟨s1.heap.objs.size,[s1.heap.objs.size],_,_,H1,Z,I1.kept (t':=s1.toks) fun b o e=>cA _ e,Sx a _,⟨_,dZ _ rfl,Z,Z⟩,fun b hb=>?_,q⟩
 have e:b=s1.heap.objs.size:=by simpa using hb
 subst e
 exact I1.Gm (aP _) (I1.hok.fresh (aP _))
theorem VQ {R:It->Hp->Prop} {lo hi:Int} {t u v:Tok} {tk:Nat} (I:Inv X pins σ H s) (h1:-(2 ^ 62)<=lo) (h2:lo<2 ^ 62) (h3:-(2 ^ 62)<=hi) (h4:hi<2 ^ 62)
  (q:R (HN lo (hi-lo).toNat) H):wpAny (model X.prog X.w) X.A (pyIter (.ref s.heap.objs.size)) (PIE X pins σ tg R) E { s with heap:=s.heap.push { cls:= .type "range",data:= .fields #[.int lo t, .int hi u, .int 1 v] },toks:=tk }:=by
 refine wpAny_pyIter_range (IsRange.new ..) (small_one h1 h2 h3 h4) ?_
 have I1:Inv X pins σ H { s with heap:=s.heap.push { cls:= .type "range",data:= .fields #[.int lo t, .int hi u, .int 1 v] },toks:=tk }:=I.kept fun b o e=>cA _ e
 refine ⟨(s.heap.push { cls:= .type "range",data:= .fields #[.int lo t, .int hi u, .int 1 v] }).objs.size,[(s.heap.push { cls:= .type "range",data:= .fields #[.int lo t, .int hi u, .int 1 v] }).objs.size],_,_,H,Z,
  I1.kept (t':=tk) fun b o e=>cA _ e,QS _ lo (hi-lo).toNat,?_,fun b hb=>?_,q⟩
 . have e1:lo+((0:Nat):Int)*1=lo:=by simp
   have e2:(((hi-lo).toNat:Nat):Int)-((0:Nat):Int)=Builtin.Range.rangeSize lo hi 1:=by rw [rangeSize_one];split <;> omega
   show IsRangeIter _ _ (lo+((0:Nat):Int)*1) ((((hi-lo).toNat:Nat):Int)-((0:Nat):Int)) 1
   rw [e1,e2]
   exact dZ _ rfl
 . have e:b=(s.heap.push { cls:= .type "range",data:= .fields #[.int lo t, .int hi u, .int 1 v] }).objs.size:=by simpa using hb
   subst e
   exact I1.Gm (aP _) (I1.hok.fresh (aP _))
inductive aaI (R:It->Hp->Prop) (vs:List V) (H1:Hp):Prop
 | mk  (j:Int) (_:vs=[.int j]) (_:-(2 ^ 62)<=j) (_:j<2 ^ 62) (_:R (HN 0 j.toNat) H1)
def ad3 (ta:TA):TI:=fun σ H R=>ta σ H (aaI R)
def J1 (g:TG) (tb:TS) (D:Ends) (σ:St):It->Hp->Prop:=fun J H1=>∃W:Nat->Nat->St->Hp->Prop,(∃m,W 0 m σ H1)/\∀i m σ H,W i m σ H->
 (J.stop i H/\D.nx σ H)\/(J.go i H/\∃N:St->Hp->Prop,(∀σ' H',N σ' H'->∃m',m'<m/\W (i+1) m' σ' H')/\∀x H',J.D3 i H x H'->g x σ H' (tb (D.lp N)))
def ahn (wi:TI) (g:TG) (tb:TS):TS:=fun D σ H=>wi σ H (J1 g tb D σ)
def D5 (fp:List Addr) (h:Heap):List (Addr×Obj):=fp.filterMap fun b=>(h.get? b).map fun o=>(b,o)
theorem jk {b:Addr} {o:Obj} (hb:b∈fp) (e:h.get? b=some o):(b,o)∈D5 fp h:=Gd.mpr ⟨b,hb,by rw [e];rfl⟩
theorem Sy {p:Addr×Obj} (hp:p∈D5 fp h):p.1∈fp/\h.get? p.1=some p.2:=by
 obtain ⟨b,hb,e⟩:=Gd.mp hp
 cases q:h.get? b with
 | none=>rw [q] at e;cases e
 | some o=>
   rw [q] at e
   have e':(b,o)=p:=fY e
   subst e'
   exact ⟨hb,q⟩
theorem Inv.pinned (I:Inv X pins σ H s) (hf:∀b∈fp,pM X pins H b) (ho:∀b∈fp,∃o,s.heap.get? b=some o/\∀v,o.data ≠ .cell v):Inv X (pins++D5 fp s.heap) σ H s:=
 I.OX fun p hp=>(fZ.mp hp).elim (fun z=>I.pin p (jK _ z)) fun z=>by
   obtain ⟨hb,e⟩:=Sy z
   obtain ⟨f0,f1,f2,_⟩:=hf p.1 hb
   obtain ⟨o,e',d⟩:=ho p.1 hb
   rw [e] at e';cases e'
   exact ⟨e,f0,f1,f2,d⟩
theorem Inv.qR {pl:AO} (I:Inv X (pins++pl) σ H s):Inv X pins σ H s:=I.OX fun p hp=>I.pin p (jK _ (F0 _ hp))
end
variable {g:TG} {tb:TS}
theorem lS (Pv:Nat->St->Hp->Prop) (h0:Pv 0 σ H) (hl:∀i σ H,i<=xs.length->Pv i σ H->aC K H a xs)
  (hs:∀i x σ H,xs[i]?=some x->Pv i σ H->g x σ H (tb (D.lp (Pv (i+1))))) (hd:∀σ H,Pv xs.length σ H->D.nx σ H):
  J1 g tb D σ (uG K a) H:=by
 refine ⟨fun i m σ H=>m=xs.length-i/\i<=xs.length/\Pv i σ H,⟨xs.length,by simp,f_ _,h0⟩,?_⟩
 rintro i m σ H ⟨rfl,hi,p⟩
 have q:=hl i σ H hi p
 by_cases hlt:i<xs.length
 . refine .inr ⟨⟨xs,xs[i],q,by simp [hlt]⟩,Pv (i+1),fun σ' H' p'=>⟨xs.length-(i+1),by omega,Z,hlt,p'⟩,fun x H' y=>?_⟩
   obtain ⟨e,y⟩:=y
   subst e
   exact hs i x σ _ (y xs q) p
 . have e:i=xs.length:=by omega
   subst e
   exact .inl ⟨⟨xs,q,aP _⟩,hd σ H p⟩
theorem fW {lo:Int} (Pv:Nat->St->Hp->Prop) (h0:Pv 0 σ H)
  (hs:∀i σ H,i<n->Pv i σ H->g (.int (lo+i)) σ H (tb (D.lp (Pv (i+1))))) (hd:∀σ H,Pv n σ H->D.nx σ H):
  J1 g tb D σ (HN lo n) H:=by
 refine ⟨fun i m σ H=>m=n-i/\i<=n/\Pv i σ H,⟨n,by simp,f_ _,h0⟩,?_⟩
 rintro i m σ H ⟨rfl,hi,p⟩
 by_cases hlt:i<n
 . refine .inr ⟨hlt,Pv (i+1),fun σ' H' p'=>⟨n-(i+1),by omega,Z,hlt,p'⟩,fun x H' y=>?_⟩
   obtain ⟨e,y⟩:=y
   subst e y
   exact hs i σ _ hlt p
 . have e:i=n:=by omega
   subst e
   exact .inl ⟨aP _,hd σ H p⟩
abbrev R2:=V->V->Hp->VK->Prop
def gY (X:Cx) (f:Value->Value->Sem Value) (r:R2):Prop:=
 ∀(pins:AO) (s:Shared) (σ:St) (H:Hp) (x y:V) (v u:Value) (Q:VK),Inv X pins σ H s->RelV x v->RelV y u->r x y H Q->
  wpAny (model X.prog X.w) X.A (f v u) (EP X pins σ Q) X.xe s
def UnR (X:Cx) (f:Value->Sem Value) (r:V->Hp->VK->Prop):Prop:=
 ∀(pins:AO) (s:Shared) (σ:St) (H:Hp) (x:V) (v:Value) (Q:VK),Inv X pins σ H s->RelV x v->r x H Q->
  wpAny (model X.prog X.w) X.A (f v) (EP X pins σ Q) X.xe s
def gW (X:Cx) (f:Value) (r:List V->Hp->VK->Prop):Prop:=
 ∀(pins:AO) (s:Shared) (σ:St) (H:Hp) (xs:List V) (us:List Value) (Q:VK),Inv X pins σ H s->Vals xs us->r xs H Q->
  wpAny (model X.prog X.w) X.A (call f us) (EP X pins σ Q) X.xe s
def aaK (r:R2) (Q:VK) (x:V):V->Hp->Prop:=fun y H2=>r x y H2 Q
def aho (r:R2) (tb:TE) (σ:St) (Q:VK):V->Hp->Prop:=fun x H1=>tb σ H1 (aaK r Q x)
def D6 (r:R2) (ta tb:TE):TE:=fun σ H Q=>ta σ H (aho r tb σ Q)
def ahp (r:V->Hp->VK->Prop) (Q:VK):V->Hp->Prop:=fun x H1=>r x H1 Q
def tUn (r:V->Hp->VK->Prop) (ta:TE):TE:=fun σ H Q=>ta σ H (ahp r Q)
inductive rI (C:Int->Int->Prop) (g:Int->Int->V) (x:V) (y:V) (H:Hp) (Q:VK):Prop
 | mk  (i j:_) (_:x = .int i) (_:y = .int j) (_:C i j) (_:Q (g i j:_) H)
inductive HP (g:Int->Int->V) (x:V) (y:V) (H:Hp) (Q:VK):Prop
 | mk  (i j:_) (_:x = .int i) (_:y = .int j) (_:Q (g i j:_) H)
inductive rU (g:Int->V) (x:V) (H:Hp) (Q:VK):Prop
 | mk  (i:_) (_:x = .int i) (_:Q (g i:_) H)
section
variable {X:Cx} {a b c:Expr} {ta tb tc:TE} {pos:Pos}
theorem VR (ha:PE X a ta) (hb:PE X b tb) {R:V->V->Hp->Prop} (I:Inv X pins σ H s)
  (h:ta σ H fun x H1=>tb σ H1 fun y H2=>R x y H2) {Q:VS} {f:Value->Value->Sem Value}
  (hf:∀v u s2 x y H2,Inv X pins σ H2 s2->RelV x v->RelV y u->R x y H2->wpAny (model X.prog X.w) X.A (f v u) Q X.xe s2):
  wpAny (model X.prog X.w) X.A (eval a X.env) (fun v s₁=>wpAny (model X.prog X.w) X.A (eval b X.env) (fun u s₂=>wpAny (model X.prog X.w) X.A (f v u) Q X.xe s₂) X.xe s₁) X.xe s:=by
 refine bg (ha pins s σ H _ I h) fun v s1 ⟨x,H1,I1,r1,q1⟩=>?_
 refine bg (hb pins s1 σ H1 _ I1 q1) fun u s2 ⟨y,H2,I2,r2,q2⟩=>?_
 exact hf v u s2 x y H2 I2 r1 r2 q2
theorem SA {f:Value->Value->Sem Value} {C:Int->Int->Prop} {g:Int->Int->Int}
  (rule:∀(i j:Int) (t u:Tok) (s:Shared) (Q:VS) (E:VS),C i j->Q (.int (g i j) s.toks) { s with toks:=s.toks+1 }->wpAny (model X.prog X.w) X.A (f (.int i t) (.int j u)) Q E s):
  gY X f (rI C fun i j=> .int (g i j)):=by
 intro pins s σ H x y v u Q I rx ry h
 obtain ⟨i,j,rfl,rfl,hc,q⟩:=h
 obtain ⟨t,rfl⟩:=rx
 obtain ⟨t',rfl⟩:=ry
 exact rule i j t t' s _ _ hc ⟨.int (g i j),H,I.tok _,⟨_,Z⟩,q⟩
theorem aaL {f:Value->Value->Sem Value} {g:Int->Int->Int}
  (rule:∀(i j:Int) (t u:Tok) (s:Shared) (Q:VS) (E:VS),Q (.int (g i j) s.toks) { s with toks:=s.toks+1 }->wpAny (model X.prog X.w) X.A (f (.int i t) (.int j u)) Q E s):
  gY X f (HP fun i j=> .int (g i j)):=by
 intro pins s σ H x y v u Q I rx ry h
 obtain ⟨i,j,rfl,rfl,q⟩:=h
 obtain ⟨t,rfl⟩:=rx
 obtain ⟨t',rfl⟩:=ry
 exact rule i j t t' s _ _ ⟨.int (g i j),H,I.tok _,⟨_,Z⟩,q⟩
theorem QT {f:Value->Value->Sem Value} {g:Int->Int->Bool}
  (rule:∀(i j:Int) (t u:Tok) (s:Shared) (Q:VS) (E:VS),Q (.bool (g i j)) s->wpAny (model X.prog X.w) X.A (f (.int i t) (.int j u)) Q E s):
  gY X f (HP fun i j=> .bl (g i j)):=by
 intro pins s σ H x y v u Q I rx ry h
 obtain ⟨i,j,rfl,rfl,q⟩:=h
 obtain ⟨t,rfl⟩:=rx
 obtain ⟨t',rfl⟩:=ry
 exact rule i j t t' s _ _ ⟨.bl (g i j),H,I,Z,q⟩
def QU (i j:Int):Prop:=0<=j/\j<=1000000/\i.natAbs<2 ^ 64
def VT (i j:Int):Prop:=(-(2 ^ 64)<i/\i<2 ^ 64)\/(-(2 ^ 64)<j/\j<2 ^ 64)
theorem VT.ok {i j:Int} (h:VT i j):IntMulOk i j:=by
 rcases h with ⟨h1,h2⟩|⟨h1,h2⟩
 . exact .of_left (intBits_le_64 h1 h2)
 . exact .of_right (intBits_le_64 h1 h2)
theorem cg:gY X (binaryOp .Add) (HP fun i j=> .int (i+j)):=aaL fun _ _ _ _ _ _ _ q=>add_int q
theorem lT:gY X (binaryOp .Sub) (HP fun i j=> .int (i-j)):=aaL fun _ _ _ _ _ _ _ q=>sub_int q
theorem jl:gY X (binaryOp .Mult) (rI VT fun i j=> .int (i*j)):=SA fun _ _ _ _ _ _ _ hc q=>mul_int q hc.ok
theorem j6:gY X (binaryOp .Mod) (rI (fun _ j=>0<j) fun i j=> .int (i % j)):=SA fun i j _ _ _ _ _ hc q=>by
 have h1:(0:Int)<j:=hc
 exact mod_int' (by omega) (by rw [Int.fmod_eq_emod_of_nonneg i (by omega)];exact q)
theorem pN:gY X (binaryOp .Pow) (rI QU fun i j=> .int (i ^ j.toNat)):=SA fun _ _ _ _ _ _ _ hc q=>pow_int_small hc.1 hc.2.1 hc.2.2 q
theorem unI {f:Value->Sem Value} {g:Int->Int}
  (rule:∀(i:Int) (t:Tok) (s:Shared) (Q:VS) (E:VS),Q (.int (g i) s.toks) { s with toks:=s.toks+1 }->wpAny (model X.prog X.w) X.A (f (.int i t)) Q E s):
  UnR X f (rU fun i=> .int (g i)):=by
 intro pins s σ H x v Q I rx h
 obtain ⟨i,rfl,q⟩:=h
 obtain ⟨t,rfl⟩:=rx
 exact rule i t s _ _ ⟨.int (g i),H,I.tok _,⟨_,Z⟩,q⟩
theorem z_:UnR X (unaryOp .USub) (rU fun i=> .int (-i)):=unI fun _ _ _ _ _ q=>neg_int q
end
def aaM:V->V->Bool
 | .b_, .b_=>true | .b_, .int _=>true | .int _, .b_=>true | .b_, .bl _=>true | .bl _, .b_=>true | .b_, .str _=>true | .str _, .b_=>true
 | .int _, .int _=>true | .bl _, .bl _=>true | .str _, .str _=>true | .xB _, .xB _=>true
 | .int _, .str _=>true | .str _, .int _=>true | .bl _, .str _=>true | .str _, .bl _=>true
 | _,_=>false
inductive rEq (x:V) (y:V) (H:Hp) (Q:VK):Prop
 | mk  (_:aaM x y=true) (_:Q (.bl (decide (x=y))) H)
inductive rNe (x:V) (y:V) (H:Hp) (Q:VK):Prop
 | mk  (_:aaM x y=true) (_:Q (.bl (!decide (x=y))) H)
theorem OY {i j:Int}:decide (V.int i=V.int j)=(i==j):=by
 rw [Bl]
 simp
theorem SD {i j:Bool}:decide (V.bl i=V.bl j)=(i==j):=by
 rw [Bl]
 simp
theorem OZ {i j:Str}:decide (V.str i=V.str j)=(i==j):=by
 rw [Bl]
 simp
theorem O0 {i j:Array UInt8}:decide (V.xB i=V.xB j)=(i.toList==j.toList):=by
 rw [Bl]
 cases i
 cases j
 simp
section
variable {X:Cx} {a b c:Expr} {ta tb tc:TE} {pos:Pos}
theorem di {Q:VK} {k k':Bool} (I:Inv X pins σ H s) (q:Q (.bl k) H) (e:k=k'):EP X pins σ Q (.bool k') s:=by
 subst e
 exact ⟨.bl k,H,I,Z,q⟩
theorem ir:gY X (compareOp .Eq) rEq:=by
 intro pins s σ H x y v u Q I rx ry h
 obtain ⟨hs,q⟩:=h
 cases x with
 | b_=>
   cases rx
   cases y with
   | b_=>cases ry;exact PySem.EqNone.eq_none_none (di I q (by simp))
   | bl j=>cases ry;exact PySem.EqNone.eq_none_bool (di I q (by simp))
   | int j=>obtain ⟨t',rfl⟩:=ry;exact PySem.EqNone.eq_none_int (di I q (by simp))
   | str j=>obtain ⟨t',rfl⟩:=ry;exact PySem.EqNone.eq_none_str (di I q (by simp))
   | _=>exact absurd (show false=true from hs) fM
 | bl i=>
   cases rx
   cases y with
   | b_=>cases ry;exact PySem.EqNone.eq_bool_none (di I q (by simp))
   | bl j=>cases ry;exact eq_bool (di I q SD)
   | str j=>obtain ⟨t',rfl⟩:=ry;exact PySem.EqMixed.eq_bool_str (di I q (by simp))
   | _=>exact absurd (show false=true from hs) fM
 | int i=>
   obtain ⟨t,rfl⟩:=rx
   cases y with
   | b_=>cases ry;exact PySem.EqNone.eq_int_none (di I q (by simp))
   | int j=>obtain ⟨t',rfl⟩:=ry;exact eq_int (di I q OY)
   | str j=>obtain ⟨t',rfl⟩:=ry;exact PySem.EqMixed.eq_int_str (di I q (by simp))
   | _=>exact absurd (show false=true from hs) fM
 | str i=>
   obtain ⟨t,rfl⟩:=rx
   cases y with
   | b_=>cases ry;exact PySem.EqNone.eq_str_none (di I q (by simp))
   | bl j=>cases ry;exact PySem.EqMixed.eq_str_bool (di I q (by simp))
   | int j=>obtain ⟨t',rfl⟩:=ry;exact PySem.EqMixed.eq_str_int (di I q (by simp))
   | str j=>obtain ⟨t',rfl⟩:=ry;exact eq_str (di I q OZ)
   | _=>exact absurd (show false=true from hs) fM
 | xB i=>
   obtain ⟨t,rfl⟩:=rx
   cases y with
   | xB j=>obtain ⟨t',rfl⟩:=ry;exact PySem.W.eq_bytes (di I q O0)
   | _=>exact absurd (show false=true from hs) fM
 | _=>cases y <;> exact absurd (show false=true from hs) fM
theorem pO:gY X (compareOp .NotEq) rNe:=by
 intro pins s σ H x y v u Q I rx ry h
 obtain ⟨hs,q⟩:=h
 cases x with
 | b_=>
   cases rx
   cases y with
   | b_=>cases ry;exact PySem.EqNone.ne_none_none (di I q (by simp))
   | bl j=>cases ry;exact PySem.EqNone.ne_none_bool (di I q (by simp))
   | int j=>obtain ⟨t',rfl⟩:=ry;exact PySem.EqNone.ne_none_int (di I q (by simp))
   | str j=>obtain ⟨t',rfl⟩:=ry;exact PySem.EqNone.ne_none_str (di I q (by simp))
   | _=>exact absurd (show false=true from hs) fM
 | bl i=>
   cases rx
   cases y with
   | b_=>cases ry;exact PySem.EqNone.ne_bool_none (di I q (by simp))
   | bl j=>cases ry;exact ne_bool (di I q (gU not SD))
   | str j=>obtain ⟨t',rfl⟩:=ry;exact PySem.EqMixed.ne_bool_str (di I q (by simp))
   | _=>exact absurd (show false=true from hs) fM
 | int i=>
   obtain ⟨t,rfl⟩:=rx
   cases y with
   | b_=>cases ry;exact PySem.EqNone.ne_int_none (di I q (by simp))
   | int j=>obtain ⟨t',rfl⟩:=ry;exact ne_int (di I q (gU not OY))
   | str j=>obtain ⟨t',rfl⟩:=ry;exact PySem.EqMixed.ne_int_str (di I q (by simp))
   | _=>exact absurd (show false=true from hs) fM
 | str i=>
   obtain ⟨t,rfl⟩:=rx
   cases y with
   | b_=>cases ry;exact PySem.EqNone.ne_str_none (di I q (by simp))
   | bl j=>cases ry;exact PySem.EqMixed.ne_str_bool (di I q (by simp))
   | int j=>obtain ⟨t',rfl⟩:=ry;exact PySem.EqMixed.ne_str_int (di I q (by simp))
   | str j=>obtain ⟨t',rfl⟩:=ry;exact ne_str (di I q (gU not OZ))
   | _=>exact absurd (show false=true from hs) fM
 | xB i=>
   obtain ⟨t,rfl⟩:=rx
   cases y with
   | xB j=>obtain ⟨t',rfl⟩:=ry;exact PySem.W.ne_bytes (di I q (gU not O0))
   | _=>exact absurd (show false=true from hs) fM
 | _=>cases y <;> exact absurd (show false=true from hs) fM
theorem J3:gY X (compareOp .Lt) (HP fun i j=> .bl (decide (i<j))):=QT fun _ _ _ _ _ _ _ q=>lt_int q
theorem XD:gY X (compareOp .LtE) (HP fun i j=> .bl (decide (i<=j))):=QT fun _ _ _ _ _ _ _ q=>le_int q
theorem jU:gY X (compareOp .Gt) (HP fun i j=> .bl (decide (j<i))):=QT fun _ _ _ _ _ _ _ q=>gt_int q
theorem QV:gY X (compareOp .GtE) (HP fun i j=> .bl (decide (j<=i))):=QT fun _ _ _ _ _ _ _ q=>ge_int q
theorem SE:gY X (compareOp .In) (fun x y H Q=>∃i j,x = .str i/\y = .str j/\Q (.bl (!(Builtin.Str.occurrences j i 0 j.length 1).isEmpty)) H):=by
 intro pins s σ H x y v u Q I rx ry h
 obtain ⟨i,j,rfl,rfl,q⟩:=h
 obtain ⟨t,rfl⟩:=rx
 obtain ⟨t',rfl⟩:=ry
 exact in_str (di I q rfl)
theorem br (b:Expr) (h:op ≠ .In:=by decide) (h2:op ≠ .NotIn:=by decide):behindInMarks op b=false:=by
 have e1:(op==CmpOp.In)=false:=by cases op <;> first|rfl|exact absurd rfl h
 have e2:(op==CmpOp.NotIn)=false:=by cases op <;> first|rfl|exact absurd rfl h2
 cases b <;> simp [behindInMarks,e1,e2]
inductive SG (Q:Bool->Hp->Prop) (x:V) (H':Hp):Prop
 | mk  (k:_) (_:x = .bl k) (_:Q k H')
def QW (t:TE):TT:=fun σ H Q=>t σ H (SG Q)
inductive SH (r':R2) (tc:TE) (σ:St) (Q:VK) (y:V) (z:V) (H3:Hp):Prop
 | mk  (k:_) (_:z = .bl k) (_:(if k=true then tc σ H3 fun w' H4=>r' y w' H4 Q else Q (.bl false) H3))
def SI (r:R2) (r':R2) (tc:TE) (σ:St) (Q:VK) (x:V):V->Hp->Prop:=fun y H2=>r x y H2 (SH r' tc σ Q y)
def YJ (r:R2) (r':R2) (tb:TE) (tc:TE) (σ:St) (Q:VK):V->Hp->Prop:=fun x H1=>tb σ H1 (SI r r' tc σ Q x)
def aaO (r r':R2) (ta tb tc:TE):TE:=fun σ H Q=>ta σ H (YJ r r' tb tc σ Q)
theorem uH:(sizeLine:Nat)<2 ^ 63:=by rw [fB];decide
theorem D7:gY X (binaryOp .Add) (fun x y H Q=>∃i j,x = .str i/\y = .str j/\i.length+j.length<=sizeLine/\Q (.str (i++j)) H):=by
 intro pins s σ H x y v u Q I rx ry h
 obtain ⟨i,j,rfl,rfl,hz,q⟩:=h
 obtain ⟨t,rfl⟩:=rx
 obtain ⟨t',rfl⟩:=ry
 exact add_str (fun t' tk=>⟨.str (i++j),H,I.tok _,⟨_,Z⟩,q⟩) hz
theorem vals1 {x:V} (r:Vals [x] us):∃u,us=[u]/\RelV x u:=by
 cases r with
 | cons r1 r2=>cases r2;exact ⟨_,Z,r1⟩
theorem vals2 {x:V} (r:Vals [x,y] us):∃u w',us=[u,w']/\RelV x u/\RelV y w':=by
 cases r with
 | cons r1 r2=>
   cases r2 with
   | cons r3 r4=>cases r4;exact ⟨_,_,Z,r1,r3⟩
theorem VU:gW X (.builtin "abs") (fun xs H Q=>∃i,xs=[.int i]/\Q (.int (if i<0 then -i else i)) H):=by
 intro pins s σ H xs us Q I r h
 obtain ⟨i,rfl,q⟩:=h
 obtain ⟨u,rfl,t,rfl⟩:=vals1 r
 exact call_abs_int fun u tk=>⟨.int (if i<0 then -i else i),H,I.tok _,⟨_,Z⟩,q⟩
theorem SJ (hc:X.calm=true):gW X (.builtin "min") (fun xs H Q=>∃i j,xs=[.int i, .int j]/\Q (.int (if j<i then j else i)) H):=by
 intro pins s σ H xs us Q I r h
 obtain ⟨i,j,rfl,q⟩:=h
 obtain ⟨u,w',rfl,⟨t,rfl⟩,⟨t',rfl⟩⟩:=vals2 r
 refine min_two_ints (I.ok.hd hc) fun h' tk k=>⟨_,H,I.kept k,?_,q⟩
 by_cases hj:j<i
 . rw [aA hj,aA hj];exact ⟨_,Z⟩
 . rw [az hj,az hj];exact ⟨_,Z⟩
end
structure CU (h:Heap) (x dx C:Addr) (mA:SO):Prop where
 obj:h.get? x=some (PySem.W.instObj C dx)
 ns:h.Ns1 dx mA
 ne:dx≠x
theorem SK {mA:SO} (n:h.Ns1 dx mA):∃od,h.get? dx=some od/\∀name,PySem.W.lookIn name od=some (mA name):=by
 obtain ⟨o,es,ep,ho,hd,hk,_,hm⟩:=n
 refine ⟨o,ho,fun name=>?_⟩
 have e:=hm name
 unfold nsFind findBy at e
 rw [<-Array.find?_toList] at e
 unfold PySem.W.lookIn
 rw [hd]
 dsimp only
 split
 . rename_i y q
   rw [q] at e
   exact gU some e
 . rename_i q
   rw [q] at e
   have a:es.toList.any (·.refKey)=false:=by
    rw [List.any_eq_false]
    intro y hy
    obtain ⟨z,t,hkey⟩:=hk y (Array.mem_toList_iff.mp hy)
    simp [DictEntry.refKey,hkey]
   have a':¬ es.toList.any (·.refKey)=true:=by rw [a];exact fM
   rw [az a']
   exact gU some e
variable {C:Addr}
theorem CU.look {x dx:Addr} {mA:SO} (I:CU h x dx C mA):∃od,PySem.W.InstAt h x (PySem.W.instObj C dx) C (some od)/\∀name,PySem.W.lookIn name od=some (mA name):=
 let ⟨od,ho,hl⟩:=SK I.ns
 ⟨od,⟨I.obj,Z,Z,ho⟩,hl⟩
variable {pl:Sem Bool} {R:Result->Shared->Prop} {kw:List (Str×Value)}
section
variable {prog:Program} {w:World} {A:Around} {E:VS} {s:Shared} {K:Fg} {x dx C f:Addr} {mA:SO} {name:Str} {v:Value}
theorem get_map {expr:Bool} {Q:VS} (X:K.In s.heap) (I:CU s.heap x dx C mA) (hg:PySem.W.plainGet K C name=true) (hh:PySem.W.hasDictIn K C=true)
  (ha:PySem.W.findIn K (.ref C) name=some none) (hv:mA name=some v) (hv':PySem.W.handedIn v=true) (h:Q v { s with toks:=s.toks+1 }):
  wpAny (model prog w) A (getAttr (.ref x) name expr) Q E s:=by
 obtain ⟨od,J,hl⟩:=I.look
 exact PySem.W.get_value X J (PySem.W.plainGet_of hg).1 (PySem.W.findObj_own hh ha rfl (by rw [hl,hv])) hv' h
theorem VW {Q:Value×List Value->Shared->Prop} (X:K.In s.heap) (I:CU s.heap x dx C mA) (hg:PySem.W.plainGet K C name=true)
  (hf:PySem.W.findIn K (.ref C) name=some (some (.ref f))) (ht:PySem.W.isFn K (.ref f)=true) (hv:mA name=none) (h:Q (.ref f,[.ref x]) s):
  wpAny (model prog w) A (getMethod (.ref x) name pl) Q E s:=by
 obtain ⟨od,J,hl⟩:=I.look
 exact PySem.W.method_fn X J (PySem.W.plainGet_of hg).1 (PySem.W.plainGet_of hg).2 hf (nL.mp ht) (by show (PySem.W.lookIn name od).map (·.isSome)=some false;rw [hl,hv];rfl) h
theorem YK {ns:List Str} (X:K.In s.heap) (I:CU s.heap x dx C mA)
  (hs:PySem.W.findIn K (.ref C) "__setattr__"=some (some (.builtin "object.__setattr__"))) (hp:PySem.W.plainOver K C=true) (ht:PySem.W.takerIn K C name=some none) (hh:PySem.W.hasDictIn K C=true)
  (hw:PySem.Within mA ns) (hsz:ns.length<=sizeLine)
  (h:∀h',CU h' x dx C (fun y=>if y=name then some v else mA y)->Heap.SameBut dx s.heap h'->Q () { s with heap:=h',toks:=s.toks+2 }):
  wpAny (model prog w) A (setAttr (.ref x) name v) Q E s:=by
 obtain ⟨od,J,hl⟩:=I.look
 refine PySem.W.set_plain X J hs (PySem.W.osa_open (s:={ s with toks:=s.toks+1 }) (r:=none) X J hp ht fun b=>?_)
 obtain ⟨cd,hc,hd'⟩:=PySem.W.any_some hh
 have hx:s.heap.get? x=some ⟨.ref C,some dx, .plain,#[]⟩:=I.obj
 refine aq (aL (aq (aq (wpAny_loadPart hx (aq (PySem.W.Looks.here (s:={ s with toks:=s.toks+1 }) (PySem.W.looks_clsIn X hc) ?_))))))
 rw [hd']
 refine aL (a:=some dx) (aq (aL (aq ?_)))
 refine wpAny_nsSet1 (s:={ s with toks:=s.toks+1 }) I.ns fun h' hn2 hs2=>?_
 obtain ⟨oD,esD,epD,hoD,hdD,hcD⟩:=hn2.count (PySem.Within.cons name v hw)
 refine aq (wpAny_lookBehind hoD (by rw [hdD];exact pastItsLine_dict (fu hcD (by rw [mX];omega))) ?_)
 exact aL (h _ ⟨(hs2.2 _ (bU I.ne)).trans I.obj,hn2,I.ne⟩ hs2)
theorem VX {vs:List Value} (X:K.In s.heap) (hm:PySem.W.makesIn K C=true)
  (hi:PySem.W.findIn K (.ref C) "__init__"=some (some (.ref f))) (hf:PySem.W.typeIn K (.ref f)=some (.type "function"))
  (h:codeAny (model prog w) (A.under (.builtin "type.__call__" ⟨.ref C::vs,kw⟩)) (.call (.ref f) ⟨.ref (s.heap.objs.size+1)::vs,kw⟩) (PySem.W.InitBack (s.heap.objs.size+1) R)
    { s with heap:=(s.heap.push PySem.W.emptyDict).push (PySem.W.instObj C s.heap.objs.size) }):
  codeAny (model prog w) A (.call (.ref C) ⟨vs,kw⟩) R s:=by
 obtain ⟨hh,g,d,t,os⟩:=s
 exact PySem.W.make_core (PySem.W.makes_of X hm) (PySem.W.looks_findIn X hi) (fun self=>PySem.W.bind_fn X self hf) (.inl rfl) h
end
def aV (f:Str) (v:V):List (Str×V)->List (Str×V)
 | []=>[(f,v)]
 | (g,x)::r=>if g=f then (g,v)::r else (g,x)::aV f v r
theorem Cj (f g:Str) (v:V):∀fs:List (Str×V),(aV f v fs).lookup g=if g=f then some v else fs.lookup g
 | []=>by
   show List.lookup g [(f,v)]=_
   by_cases h:g=f
   . have hb:(g==f)=true:=nL.mpr h
     simp only [List.lookup,hb,aA h]
   . have hb:(g==f)=false:=F_.mpr h
     simp only [List.lookup,hb,az h]
 | (k,x)::r=>by
   have ih:=Cj f g v r
   rw [show aV f v ((k,x)::r)=(if k=f then (k,v)::r else (k,x)::aV f v r) from rfl]
   by_cases hk:k=f
   . rw [aA hk]
     by_cases h:g=k
     . have hb:(g==k)=true:=nL.mpr h
       simp only [List.lookup,hb,aA (h.trans hk)]
     . have hb:(g==k)=false:=F_.mpr h
       simp only [List.lookup,hb,az (fun e:g=f=>h (e.trans hk.symm))]
   . rw [az hk]
     by_cases h:g=k
     . have hb:(g==k)=true:=nL.mpr h
       simp only [List.lookup,hb,az (fun e:g=f=>hk (h.symm.trans e))]
     . have hb:(g==k)=false:=F_.mpr h
       simp only [List.lookup,hb]
       exact ih
theorem Aa (f:Str) (v:V):∀fs:List (Str×V),f∈(aV f v fs).map (·.1)/\∀g,g∈fs.map (·.1)->g∈(aV f v fs).map (·.1)
 | []=>⟨by simp [aV],fun g h=>by simp at h⟩
 | (k,x)::r=>by
   obtain ⟨i1,i2⟩:=Aa f v r
   rw [show aV f v ((k,x)::r)=(if k=f then (k,v)::r else (k,x)::aV f v r) from rfl]
   by_cases hk:k=f
   . rw [aA hk]
     subst hk
     exact ⟨by simp,fun g h=>by simpa using h⟩
   . rw [az hk]
     refine ⟨?_,fun g h=>?_⟩
     . rw [bH]
       exact cG _ i1
     . rw [bH] at h ⊢
       rcases c6.mp h with e|e
       . exact c6.mpr (.inl e)
       . exact cG _ (i2 g e)
theorem Ck (f:Str) (v:V):∀fs:List (Str×V),(aV f v fs).length<=fs.length+1
 | []=>by simp [aV]
 | (k,x)::r=>by
   have ih:=Ck f v r
   rw [show aV f v ((k,x)::r)=(if k=f then (k,v)::r else (k,x)::aV f v r) from rfl]
   by_cases hk:k=f
   . rw [aA hk,mX,mX];omega
   . rw [az hk,mX,mX];omega
theorem mY.some_of {v:V} {o:Option Value} (r:mY (some v) o):∃u,o=some u/\RelV v u:=by
 cases o with
 | none=>exact (show False from r).elim
 | some u=>exact ⟨u,Z,r⟩
theorem mY.none_of {o:Option Value} (r:mY none o):o=none:=by
 cases o with
 | none=>rfl
 | some u=>exact (show False from r).elim
theorem SM {v:V} (r:RelV v u):PySem.W.handedIn u=true:=by
 cases v with
 | b_=>cases (show u=Value.none from r);rfl
 | bl b=>cases (show u=Value.bool b from r);rfl
 | int i=>obtain ⟨t,e⟩:=(show ∃t,u=Value.int i t from r);cases e;rfl
 | str x=>obtain ⟨t,e⟩:=(show ∃t,u=Value.str x t from r);cases e;rfl
 | xB b=>obtain ⟨t,e⟩:=(show ∃t,u=Value.bytes b t from r);cases e;rfl
 | HJ b=>obtain ⟨t,e⟩:=(show ∃t,u=Value.float b t from r);cases e;rfl
 | ref a=>cases (show u=Value.ref a from r);rfl
 | ty n=>cases (show u=Value.type n from r);rfl
section
variable {P:Program} {w:World} {H H':Hp} {h h':Heap} {a C dx:Addr} {fs fs':List (Str×V)}
theorem Bu (hok:gQ P w H h) (e:H a=some (.ins C dx fs)):∃mA,CU h a dx C mA/\(∀f,mY (fs.lookup f) (mA f))/\PySem.Within mA (fs.map (·.1))/\fs.length<=1000/\H dx=some (.own a):=by
 obtain ⟨d,z,ne,ob,mA,n,r,q⟩:=(show dO P w H h a (.ins C dx fs) from hok a _ e)
 exact ⟨mA,⟨ob,n,ne⟩,r,q,z,d⟩
end
structure oS (K:Fg) (C:Addr):Prop where
 pg:PySem.W.plainGet K C Str.empty=true
 hd:PySem.W.hasDictIn K C=true
 po:PySem.W.plainOver K C=true
 sa:PySem.W.findIn K (.ref C) "__setattr__"=some (some (.builtin "object.__setattr__"))
theorem oS.get (c:oS K C) (f:Str):PySem.W.plainGet K C f=true:=c.pg
def eX (K:Fg) (C:Addr) (f:Str):Prop:=PySem.W.findIn K (.ref C) f=some none
theorem eX.taker {f:Str} (n:eX K C f):PySem.W.takerIn K C f=some none:=by
 unfold PySem.W.takerIn
 rw [show PySem.W.findIn K (.ref C) f=some none from n]
 rfl
structure Meth (K:Fg) (C:Addr) (m:Str) (f:Addr):Prop where
 at_:PySem.W.findIn K (.ref C) m=some (some (.ref f))
 fn:PySem.W.isFn K (.ref f)=true
 kp:PySem.W.keepIn K (.ref f)=true
variable {env:Env}
section
variable {X:Cx} {pins:AO} {σ:St} {H:Hp} {s:Shared} {a C dx:Addr} {fs:List (Str×V)} {f:Str} {v:V} {A:Around} {E:VS}
theorem D8 {b:Bool} {Q:VS} (I:Inv X pins σ H s) (e:H a=some (.ins C dx fs)) (c:oS X.K C) (n:eX X.K C f) (l:fs.lookup f=some v)
  (h:∀u s',Inv X pins σ H s'->RelV v u->Q u s'):wpAny (model X.prog X.w) A (getAttr (.ref a) f b) Q E s:=by
 obtain ⟨mA,O,r,_,_,_⟩:=Bu I.hok e
 obtain ⟨u,hu,ru⟩:=mY.some_of (v:=v) (o:=mA f) (by rw [<-l];exact r f)
 exact get_map I.iN O (c.get f) c.hd n hu (SM ru) (h u _ (I.tok _) ru)
theorem D9 {m:Str} {g:Addr} {Q:Value×List Value->Shared->Prop} (I:Inv X pins σ H s) (e:H a=some (.ins C dx fs)) (c:oS X.K C) (k:Meth X.K C m g) (l:fs.lookup m=none)
  (h:Q (.ref g,[.ref a]) s):wpAny (model X.prog X.w) A (getMethod (.ref a) m pl) Q E s:=by
 obtain ⟨mA,O,r,_,_,_⟩:=Bu I.hok e
 have hn:mA m=none:=mY.none_of (by rw [<-l];exact r m)
 exact VW I.iN O (c.get m) k.at_ k.fn hn h
theorem D_ (I:Inv X pins σ H s) (e:H a=some (.ins C dx fs)) (c:oS X.K C) (n:eX X.K C f) (hl:fs.length<1000) (ry:RelV y u)
  (h:∀s',Inv X pins σ (upd H a (.ins C dx (aV f y fs))) s'->Q () s'):wpAny (model X.prog X.w) A (setAttr (.ref a) f u) Q E s:=by
 obtain ⟨mA,O,r,wi,_,ho⟩:=Bu I.hok e
 have hz:(fs.map (·.1)).length<=sizeLine:=by rw [aE,fB];omega
 refine YK I.iN O c.sa c.po n.taker c.hd wi hz fun h' O' sb=>h _ ?_
 have hd:∃o,h'.get? dx=some o:=let ⟨o,_,_,e',_⟩:=O'.ns;⟨o,e'⟩
 refine I.write (x:=a) (e:=dx) (by rw [e];exact True.intro) (.inr ho) (fun b q hb z=>(sb.2 b hb).trans z) hd ?_
 refine ⟨by rw [av O.ne];exact ho,?_,O.ne,O'.obj,_,O'.ns,fun g=>?_,fun g hg=>?_⟩
 . have:=Ck f y fs;omega
 . show mY ((aV f y fs).lookup g) (if g=f then some u else mA g)
   rw [Cj]
   by_cases q:g=f
   . rw [aA q,aA q];exact ry
   . rw [az q,az q];exact r g
 . by_cases q:g=f
   . rw [q];exact (Aa f y fs).1
   . refine (Aa f y fs).2 g (wi g fun z=>hg ?_)
     show (if g=f then some u else mA g)=none
     rw [az q];exact z
theorem Inv.made (I:Inv X pins σ H s):Inv X pins σ (upd (upd H s.heap.objs.size (.own (s.heap.objs.size+1))) (s.heap.objs.size+1) (.ins C s.heap.objs.size []))
  { s with heap:=(s.heap.push PySem.W.emptyDict).push (PySem.W.instObj C s.heap.objs.size) }:=by
 have e1:(s.heap.push PySem.W.emptyDict).get? s.heap.objs.size=some PySem.W.emptyDict:=dZ s.heap rfl
 have e2:((s.heap.push PySem.W.emptyDict).push (PySem.W.instObj C s.heap.objs.size)).get? (s.heap.objs.size+1)=some (PySem.W.instObj C s.heap.objs.size):=by
  have:=dZ (s.heap.push PySem.W.emptyDict) (o:=PySem.W.instObj C s.heap.objs.size) rfl
  rwa [mJ] at this
 have e3:(s.heap.push PySem.W.emptyDict).Ns s.heap.objs.size (fun _=>none):=⟨PySem.W.emptyDict,#[],_,e1,Z,(fun e he=>absurd he (by simp)),fun _=>rfl⟩
 have I1:=I.laid (a:=s.heap.objs.size) (o:= .own (s.heap.objs.size+1)) (h':=s.heap.push PySem.W.emptyDict) (t':=s.toks) (fun b u q=>cA _ q) (aP _) ⟨_,e1⟩
 refine I1.laid (a:=s.heap.objs.size+1) (o:= .ins C s.heap.objs.size []) (t':=s.toks) (fun b u q=>cA _ q) (Nat.le_of_eq (mJ _ _)) ?_
 have ne:s.heap.objs.size≠s.heap.objs.size+1:=dQ (Nat.lt_succ_self _)
 refine ⟨by rw [av ne,ai],f_ _,ne,e2,fun _=>none,(Heap.Ns1.of_empty e3).at fun o q=>cA _ q,fun _=>True.intro,fun y hy=>absurd rfl hy⟩
theorem YL {prog:Program} {w:World} {f:Str} {s:Shared} {Q:VS} (hb:attributeBase e f env (eval e env)=eval e env)
  (h:wpAny (model prog w) A (eval e env) (fun o s₁=>wpAny (model prog w) A (getAttr o f true) Q E s₁) E s):wpAny (model prog w) A (eval (.Attribute e f pos) env) Q E s:=
 Attribute_any_ h (by rw [arm_eval_Attribute,hb])
end
inductive ad4 (K:Fg) (f:Str) (Q:VK) (x:V) (H1:Hp):Prop
 | mk  (a C dx fs v:_) (_:x = .ref a) (_:H1 a=some (.ins C dx fs)) (_:oS K C) (_:eX K C f) (_:fs.lookup f=some v) (_:Q v H1)
def aaP (K:Fg) (ta:TE) (f:Str):TE:=fun σ H Q=>ta σ H (ad4 K f Q)
inductive YM (K:Fg) (f:Str) (D:Ends) (σ:St) (y:V) (x:V) (H2:Hp):Prop
 | mk  (a C dx fs:_) (_:x = .ref a) (_:H2 a=some (.ins C dx fs)) (_:oS K C) (_:eX K C f) (_:fs.length<1000) (_:D.nx σ (upd H2 a (.ins C dx (aV f y fs))))
def ad5 (K:Fg) (ta:TE) (f:Str) (D:Ends) (σ:St):V->Hp->Prop:=fun y H1=>ta σ H1 (YM K f D σ y)
def aaQ (K:Fg) (ta tv:TE) (f:Str):TS:=fun D σ H=>tv σ H (ad5 K ta f D σ)
def QX (X:Cx) (op:Operator) (rd:V->V->Hp->VK->Prop):Prop:=
 ∀(pins:AO) (s:Shared) (σ:St) (H:Hp) (x y:V) (u v:Value) (Q:VK),Inv X pins σ H s->RelV x u->RelV y v->rd x y H Q->wpAny (model X.prog X.w) X.A (inplaceOp op u v) (EP X pins σ Q) X.xe s
inductive QY (f:Str) (D:Ends) (σ:St) (a:Addr) (C:Addr) (z:V) (H3:Hp):Prop
 | mk  (dx' fs':_) (_:H3 a=some (.ins C dx' fs')) (_:fs'.length<1000) (_:D.nx σ (upd H3 a (.ins C dx' (aV f z fs'))))
def QZ (rd:V->V->Hp->VK->Prop) (f:Str) (D:Ends) (σ:St) (a:Addr) (C:Addr) (v:V):V->Hp->Prop:=fun y H2=>rd v y H2 (QY f D σ a C)
inductive VY (K:Fg) (tv:TE) (rd:V->V->Hp->VK->Prop) (f:Str) (D:Ends) (σ:St) (x:V) (H1:Hp):Prop
 | mk  (a C dx fs v:_) (_:x = .ref a) (_:H1 a=some (.ins C dx fs)) (_:oS K C) (_:eX K C f) (_:fs.lookup f=some v) (_:tv σ H1 (QZ rd f D σ a C v))
def O1 (K:Fg) (ta tv:TE) (rd:V->V->Hp->VK->Prop) (f:Str):TS:=fun D σ H=>ta σ H (VY K tv rd f D σ)
variable {rd:V->V->Hp->VK->Prop}
section
variable {X:Cx} {o e value:Expr} {f:Str} {pos pos' tpos:Pos} {ta tv:TE}
theorem aaS (he:PE X e ta) (hb:attributeBase e f X.env (eval e X.env)=eval e X.env):PE X (.Attribute e f pos) (aaP X.K ta f):=by
 intro pins s σ H Q I h
 refine YL hb (bg (he pins s σ H _ I h) fun u s1 ⟨x,H1,I1,rx,a,C,dx,fs,v,ex,ea,c,n,l,q⟩=>?_)
 subst ex
 obtain rfl:u=Value.ref a:=rx
 exact D8 I1 ea c n l fun u' s2 I2 ru=>⟨v,H1,I2,ru,q⟩
theorem aaT (ha:PE X o ta) (hv:PE X value tv) (hs:swapsWith value (some (.Attribute o f pos')) pos.line X.env=pure false):PS X (.Assign [.Attribute o f pos'] value pos) (aaQ X.K ta tv f):=by
 intro pins s σ H D I h
 refine plainObj_wpAny_Assign_Attribute (bg (hv pins s σ H _ I h) fun u s1 ⟨y,H1,I1,ry,q⟩=>bg (ha pins s1 σ H1 _ I1 q) fun ov s2 ⟨x,H2,I2,rx,a,C,dx,fs,ex,ea,c,n,l,q2⟩=>?_) hs
 subst ex
 obtain rfl:ov=Value.ref a:=rx
 exact D_ I2 ea c n l ry fun s3 I3=>⟨σ,_,I3,q2⟩
theorem SN {op:Operator} (ha:PE X o ta) (hv:PE X value tv) (hop:QX X op rd):PS X (.AugAssign (.Attribute o f tpos) op value pos) (O1 X.K ta tv rd f):=by
 intro pins s σ H D I h
 refine wpAny_AugAssign_AttributeAny (bg (ha pins s σ H _ I h) fun ov s1 ⟨x,H1,I1,rx,a,C,dx,fs,v,ex,ea,c,n,l,q⟩=>?_)
 subst ex
 obtain rfl:ov=Value.ref a:=rx
 refine D8 I1 ea c n l fun u s2 I2 ru=>bg (hv pins s2 σ H1 _ I2 q) fun w3 s3 ⟨y,H2,I3,ry,q3⟩=>bg (hop pins s3 σ H2 v y u w3 _ I3 ru ry q3) fun w4 s4 ⟨z,H3,I4,rz,dx',fs',ea',l',q4⟩=>?_
 exact D_ I4 ea' c n l' rz fun s5 I5=>⟨σ,_,I5,q4⟩
inductive ahq (x:V) (y:V) (H:Hp) (Q:VK):Prop
 | mk  (i j:_) (_:x = .int i) (_:y = .int j) (_:Q (.int (i-j)) H)
theorem aaU:QX X .Sub ahq:=by
 rintro pins s σ H x y u v Q I rx ry ⟨i,j,rfl,rfl,q⟩
 obtain ⟨t,rfl⟩:=(show ∃t,u=Value.int i t from rx)
 obtain ⟨t',rfl⟩:=(show ∃t',v=Value.int j t' from ry)
 exact PyProof.Rows.isub_int ⟨.int (i-j),H,I.tok _,⟨_,Z⟩,q⟩
end
section
variable {X:Cx} {pins:AO} {σ:St} {H:Hp} {s:Shared} {A:Around} {E:VS} {Q:VS} {c:Value} {b:Bool}
inductive gH (K:Fg) (H:Hp):V->Value->Prop where
 | b_:gH K H .b_ (.type "NoneType")
 | bl (x:Bool):gH K H (.bl x) (.type "bool")
 | int (i:Int):gH K H (.int i) (.type "int")
 | str (x:Str):gH K H (.str x) (.type "str")
 | HJ (x:UInt64):gH K H (.HJ x) (.type "float")
 | lst {a:Addr} {xs:List V} (e:H a=some (.lst xs)):gH K H (.ref a) (.type "list")
 | fm {a:Addr} {o:Obj} {xs:List V} (e:H a=some (.fm o (.lst xs))):gH K H (.ref a) (.type "list")
 | tup {a:Addr} {xs:List V} (e:H a=some (.tup xs)):gH K H (.ref a) (.type "tuple")
 | dK {a:Addr} {kvs:List (Key×V)} (e:H a=some (.dK kvs)):gH K H (.ref a) (.type "dict")
 | dT {a:Addr} {kvs:List (List Key×V)} (e:H a=some (.dT kvs)):gH K H (.ref a) (.type "dict")
 | ins {a C dx:Addr} {fs:List (Str×V)} (e:H a=some (.ins C dx fs)) (cl:oS K C) (ha:PySem.W.findIn K (.ref C) "__class__"=some (some (.builtin "object.__class__")))
    (hn:PySem.W.specialIn K (.builtin "object.__class__") "__get__"=some (some (.builtin "getset_descriptor.__get__"))) (htk:PySem.W.takesIn K (.builtin "object.__class__")=some true)
    (hm:PySem.W.mroIn K C (.type "object")=some true):gH K H (.ref a) (.ref C)
theorem SQ {x:V} {t:Value} (I:Inv X pins σ H s) (rx:RelV x u) (ty:gH X.K H x t) (e:PySem.W.kitOne X.K t c=some b) (h:∀tk,Q (.bool b) { s with toks:=tk }):
  wpAny (model X.prog X.w) A (call (.builtin "isinstance") [u,c]) Q E s:=by
 cases ty with
 | b_=>cases (show u=Value.none from rx);exact pG PySem.W.kitx_none I.iN True.intro e (fun z=>nomatch z) h
 | bl y=>cases (show u=Value.bool y from rx);exact pG PySem.W.kitx_bool I.iN True.intro e (fun z=>nomatch z) h
 | int i=>obtain ⟨t,q⟩:=(show ∃t,u=Value.int i t from rx);cases q;exact pG PySem.W.kitx_int I.iN True.intro e (fun z=>nomatch z) h
 | str y=>obtain ⟨t,q⟩:=(show ∃t,u=Value.str y t from rx);cases q;exact pG PySem.W.kitx_str I.iN True.intro e (fun z=>nomatch z) h
 | HJ y=>obtain ⟨t,q⟩:=(show ∃t,u=Value.float y t from rx);cases q;exact pG PySem.W.kitx_float I.iN True.intro e (fun z=>nomatch z) h
 | @lst a xs ea=>
   cases (show u=Value.ref a from rx)
   obtain ⟨_,_,n,_,h1⟩:=(show dO X.prog X.w H s.heap a (.lst xs) from I.hok a _ ea)
   exact pG PySem.W.kitx_list I.iN ⟨_,h1,Z⟩ e (fun z=>nomatch z) h
 | @fm a ob xs ea=>
   cases (show u=Value.ref a from rx)
   obtain ⟨_,_,_,n,_,h1⟩:=(show dO X.prog X.w H s.heap a (.fm ob (.lst xs)) from I.hok a _ ea)
   exact pG PySem.W.kitx_list I.iN ⟨_,h1,Z⟩ e (fun z=>nomatch z) h
 | @tup a xs ea=>
   cases (show u=Value.ref a from rx)
   obtain ⟨_,_,_,p⟩:=(show dO X.prog X.w H s.heap a (.tup xs) from I.hok a _ ea)
   obtain ⟨o,h1,h2,_⟩:=p
   exact pG PySem.W.kitx_tuple I.iN ⟨o,h1,h2⟩ e (fun z=>nomatch z) h
 | @dK a kvs ea=>
   cases (show u=Value.ref a from rx)
   obtain ⟨_,_,vs,_,p⟩:=(show dO X.prog X.w H s.heap a (.dK kvs) from I.hok a _ ea)
   obtain ⟨o,es,ep,h1,h2,_⟩:=p
   exact pG PySem.W.kitx_dict I.iN ⟨o,h1,h2.1⟩ e (fun z=>nomatch z) h
 | @dT a kvs ea=>
   cases (show u=Value.ref a from rx)
   obtain ⟨_,_,xs,_,o,es,ep,h1,h2,_⟩:=(show dO X.prog X.w H s.heap a (.dT kvs) from I.hok a _ ea)
   exact pG PySem.W.kitx_dict I.iN ⟨o,h1,h2.1⟩ e (fun z=>nomatch z) h
 | @ins a C dx fs ea cl ha hn htk hm=>
   cases (show u=Value.ref a from rx)
   obtain ⟨mA,O,_⟩:=Bu I.hok ea
   obtain ⟨od,J,_⟩:=O.look
   exact pG (PySem.W.kitx_own (cl.get _) cl.hd ha hn htk hm) I.iN J e (fun z=>nomatch z) h
end
structure dG (k:Nat) (A:Around):Prop where
 hd:A.handled=none
 dp:A.depth+3*k+5<recursionLimit
 un:A.units+16*k+200<cLine
theorem dG.mono {k:Nat} (r:dG k A) (h:j<=k):dG j A:=⟨r.hd,by have:=r.dp;omega,by have:=r.un;omega⟩
theorem dG.deeper {k:Nat} (r:dG (k+1) A) (env:Env):dG k (A.deeper env):=
 ⟨r.hd,by have:=r.dp;show A.depth+1+3*k+5<_;omega,by have:=r.un;show A.units+3+16*k+200<_;omega⟩
theorem Q0:(A.under (.builtin "type.__call__" ⟨.ref C::us,kw⟩)).depth=A.depth+1:=by
 first|rfl|simp [Around.under,Code.weight,Code.isCreation,Code.isGuard,Code.isCaller,Code.frames,Code.isFrame,guardIds]
theorem Q2:(A.under (.builtin "type.__call__" ⟨.ref C::us,kw⟩)).units=A.units+1:=by
 first|rfl|simp [Around.under,Code.cUnits,Code.frames,Code.isFrame]
theorem dG.make {k:Nat} (r:dG (k+1) A) (C:Addr) (us:List Value) (kw:List (Str×Value)):dG k (A.under (.builtin "type.__call__" ⟨.ref C::us,kw⟩)):=
 ⟨r.hd,by have:=r.dp;rw [Q0];omega,by have:=r.un;rw [Q2];omega⟩
theorem dG.depth {k:Nat} (r:dG k A):A.depth<recursionLimit:=by have:=r.dp;omega
theorem dG.units {k:Nat} (r:dG k A):A.units+64<cLine:=by have:=r.un;omega
def pP:TA:=fun _ H Q=>Q [] H
def VZ (Q:List V->Hp->Prop) (x:V):List V->Hp->Prop:=fun xs H2=>Q (x::xs) H2
def aaV (tr:TA) (σ:St) (Q:List V->Hp->Prop):V->Hp->Prop:=fun x H1=>tr σ H1 (VZ Q x)
def jV (ta:TE) (tr:TA):TA:=fun σ H Q=>ta σ H (aaV tr σ Q)
section
variable {X:Cx} {e:Expr} {es:List Expr} {te:TE} {t:TA} {pos:Pos}
theorem SR:PA X [] pP:=fun _ _ _ _ H Q I h=>Calls.spliced_nil ⟨[],H,I, .nil,h⟩
theorem O2 (ha:PE X e te) (hr:PA X es t) (hs:starEach (e::es) X.env=(false,eval e X.env)::starEach es X.env:=by rfl):PA X (e::es) (jV te t):=by
 intro pos pins s σ H Q I h
 rw [hs]
 show wpAny _ _ (spliced ((false,eval e X.env)::backTo pos (starEach es X.env))) _ _ s
 refine Calls.spliced_cons (bg (ha pins s σ H _ I h) fun u s1 ⟨x,H1,I1,r1,q1⟩=>?_)
 exact bg (hr pos pins s1 σ H1 _ I1 q1) fun us s2 ⟨xs,H2,I2,r2,q2⟩=>⟨x::xs,H2,I2, .cons r1 r2,q2⟩
inductive ad6 (Q:VK) (xs:List V) (H1:Hp):Prop
 | mk  (_:xs.length<=sizeLine) (_:∀p,H1 p=none->Q (.ref p) (upd H1 p (.tup xs)))
def ahr (t:TA):TE:=fun σ H Q=>t σ H (ad6 Q)
inductive ad7 (Q:VK) (xs:List V) (H1:Hp):Prop
 | mk  (_:xs.length<=sizeLine) (_:∀p,H1 p=none->Q (.ref p) (upd H1 p (.lst xs)))
def Q3 (t:TA):TE:=fun σ H Q=>t σ H (ad7 Q)
end
abbrev Sp:=List V->Hp->VK->XK->Prop
abbrev zy:=List Env->Hp->Shared->XK->Value->Shared->Prop
structure CV (P:Program) (w:World) (K:Fg) (mg:SO) (base:Heap) (A:Around) (outer:List Env) (s:Shared) (H:Hp):Prop where
 frames:A.frames=some outer
 mod:Mod K mg base
 bs:∀b o,base.get? b=some o->s.heap.get? b=some o/\H b=none
 DZ:base.objs.size<=s.heap.objs.size
 oh:s.heap.FunFrames base outer
 HL:∀b∈frs outer,H b=none
 hok:gQ P w H s.heap
 bare:AllBare s.gens
def CE (outer:List Env) (P:Program) (w:World) (H:Hp) (s:Shared) (Q:VK) (u:Value) (s':Shared):Prop:=
 ∃v H',s'.os=s.os/\AllBare s'.gens/\Un (frs outer) [] H H' s.heap s'.heap/\gQ P w H' s'.heap/\RelV v u/\Q v H'
def CR (CX:zy) (outer:List Env) (P:Program) (w:World) (H:Hp) (s:Shared) (Q:VK) (E:XK) (r:Result) (s':Shared):Prop:=
 match r with
 | .ok (.ret u)=>CE outer P w H s Q u s'
 | .ok _=>False
 | .error e=>CX outer H s E e s'
structure iw (P:Program) (w:World) (K:Fg) (mg:SO) (base:Heap) (CX:zy) (k:Nat) (f:Addr) (fd:FuncData) (ps:List Str) (sp:Sp):Prop where
 len:∀vs H Q E,sp vs H Q E->vs.length=ps.length
 run:∀(A:Around) (outer:List Env) (s:Shared) (H:Hp) (args:Args) (us:List Value) (vs:List V) (Q:VK) (E:XK),dG k A->CV P w K mg base A outer s H->BindsTo s fd args (ps.zip us)->Vals vs us->sp vs H Q E->
  codeAny (model P w) A (.call (.ref f) args) (CR CX outer P w H s Q E) s
variable {mg:SO} {base:Heap} {CX:zy} {f:Addr} {fd:FuncData} {ps:List Str} {sp:Sp}
theorem iw.imp {w:World} {k:Nat} {SS:Sp} (F:iw P w K mg base CX k f fd ps sp)
  (h:∀vs H Q E,SS vs H Q E->sp vs H Q E):iw P w K mg base CX k f fd ps SS:=
 ⟨fun vs H Q E q=>F.len vs H Q E (h _ _ _ _ q),fun A outer s H args us vs Q E hr he hb hv hs=>F.run A outer s H args us vs Q E hr he hb hv (h _ _ _ _ hs)⟩
theorem CV.make {w:World} {outer:List Env} (e:CV P w K mg base A outer s H) (C:Addr) (us:List Value) (kw:List (Str×Value)):
  CV P w K mg base (A.under (.builtin "type.__call__" ⟨.ref C::us,kw⟩)) outer s H:=⟨by first|exact e.frames|(simpa [Around.under,Code.envs,Code.isFrame,pushEnvs] using e.frames),e.mod,e.bs,e.DZ,e.oh,e.HL,e.hok,e.bare⟩
section
variable {X:Cx} {pins:AO} {σ:St} {H:Hp} {s s':Shared}
theorem Inv.V0 (I:Inv X pins σ H s):CV X.prog X.w X.K X.mg X.base X.A X.stack s H:=
 ⟨I.ok.frames,I.ok.mod,I.bs,fu I.ok.DZ I.sz,I.stack,I.xC,I.hok,I.bare⟩
theorem Inv.after {Q:VK} (I:Inv X pins σ H s) (h:CE X.stack X.prog X.w H s Q u s'):EP X pins σ Q u s':=by
 obtain ⟨v,H',os,bare,un,hok,r,q⟩:=h
 obtain ⟨hh,g,d,t,os'⟩:=s'
 obtain rfl:os'=s.os:=os
 exact ⟨v,H',I.call (h':=hh) (g':=g) (d':=d) (t':=t) (ch:=[]) un hok bare (fun b z=>absurd z (by simp)),r,q⟩
end
def aaW (sp:Sp) (iO:List V) (E:XK) (Q:VK):List V->Hp->Prop:=fun vs H1=>sp (vs++iO) H1 Q E
def XE (sp:Sp) (iO:List V) (E:XK) (t:TA):TE:=fun σ H Q=>t σ H (aaW sp iO E Q)
def V1 (sp:Sp) (iO:List V) (E:XK) (Q:VK) (x:V):List V->Hp->Prop:=fun vs H2=>sp (x::(vs++iO)) H2 Q E
inductive aaX (C:Addr) (m:Str) (sp:Sp) (iO:List V) (E:XK) (t:TA) (σ:St) (Q:VK) (x:V) (H1:Hp):Prop
 | mk  (a dx fs:_) (_:x = .ref a) (_:H1 a=some (.ins C dx fs)) (_:fs.lookup m=none) (_:t σ H1 (V1 sp iO E Q x))
def Ea (C:Addr) (m:Str) (sp:Sp) (iO:List V) (E:XK) (ta:TE) (t:TA):TE:=fun σ H Q=>ta σ H (aaX C m sp iO E t σ Q)
def aaY (C:Addr) (sp:Sp) (iO:List V) (E:XK) (Q:VK):List V->Hp->Prop:=fun vs H1=>∀x dx,H1 x=none->H1 dx=none->dx≠x->sp (.ref x::(vs++iO)) (upd (upd H1 dx (.own x)) x (.ins C dx [])) (fun v H2=>v = .b_/\Q (.ref x) H2) E
def J4 (C:Addr) (sp:Sp) (iO:List V) (E:XK) (t:TA):TE:=fun σ H Q=>t σ H (aaY C sp iO E Q)
def Binds (K:Fg) (fd:FuncData) (ps:List Str) (ds:List Value):Prop:=
 ∀(s:Shared) (us:List Value),K.In s.heap->(us++ds).length=ps.length->BindsTo s fd ⟨us,[]⟩ (ps.zip (us++ds))
theorem Binds.all (h:∀us:List Value,us.length=ps.length->bindArgs fd ⟨us,[]⟩=pure (ps.zip us)):Binds K fd ps [] :=fun s us _ hl=>by
 rw [rO] at hl ⊢
 exact .of_eq (h us hl)
def Passes (CX:zy) (X:Cx) (E:XK):Prop:=∀(pins:AO) (σ:St) (H:Hp) (s:Shared) (e:Value) (s':Shared),Inv X pins σ H s->CX X.stack H s E e s'->X.xe e s'
variable {vs:List V}
section
variable {X:Cx} {CX:zy} {k:Nat} {f C:Addr} {fd:FuncData} {ps:List Str} {sp:Sp} {iO:List V} {ds:List Value} {E:XK} {x m:Str} {p pos apos:Pos} {e o:Expr} {es:List Expr} {ta:TE} {t:TA}
theorem Ku {Q:VK} (F:iw X.prog X.w X.K X.mg X.base CX k f fd ps sp) (hr:dG k X.A) (hb:Binds X.K fd ps ds) (hd:Vals iO ds) (hx:Passes CX X E)
  (I:Inv X pins σ H s) (r:Vals vs us) (h:sp (vs++iO) H Q E):wpAny (model X.prog X.w) X.A (call (.ref f) us) (EP X pins σ Q) X.xe s:=by
 have r2:Vals (vs++iO) (us++ds):=r.append hd
 have hl:(us++ds).length=ps.length:=by rw [<-r2.length];exact F.len _ _ _ _ h
 refine wpAny_call (Bq (F.run X.A X.stack s H ⟨us,[]⟩ (us++ds) (vs++iO) Q E hr I.V0 (hb s us I.iN hl) r2 h) fun r s' hq=>?_)
 cases r with
 | error e=>exact hx pins σ H s e s' I hq
 | ok fl=>
   cases fl with
   | ret u=>exact I.after hq
   | next=>exact False.elim hq
   | brk=>exact False.elim hq
   | cont=>exact False.elim hq
theorem YN (F:iw X.prog X.w X.K X.mg X.base CX k f fd ps sp) (hr:dG k X.A) (hg:Gl X x) (hm:X.mg x=some (.ref f)) (hk:PySem.W.keepIn X.K (.ref f)=true) (hb:Binds X.K fd ps ds) (hd:Vals iO ds) (hx:Passes CX X E)
  (ha:PA X (e::es) t) (hdb:(x==("__debug__":Str))=false:=by decide) (he:starEach (e::es) X.env=(false,eval e X.env)::starEach es X.env:=by rfl) (hpl:(backTo pos (starEach es X.env)).any (·.1)=false:=by rfl):
  PE X (.Call (.Name x p) (e::es) [] pos) (XE sp iO E t):=by
 intro pins s σ H Q I h
 refine Ge (qQ I hg hm ?_ hdb)
 refine QG (h₀:=X.base) I.ok.mod.OV hk (bg (ha pos pins s σ H _ I h) fun us s1 ⟨vs,H1,I1,r,q⟩=>⟨I1.iN,?_⟩) he hpl
 exact Ku F hr hb hd hx I1 r q
theorem O3 (he:PE X o ta) (c:oS X.K C) (hm:Meth X.K C m f) (F:iw X.prog X.w X.K X.mg X.base CX k f fd ps sp) (hr:dG k X.A) (hb:Binds X.K fd ps ds) (hd:Vals iO ds) (hx:Passes CX X E) (ha:PA X (e::es) t)
  (hst:starEach (e::es) X.env=(false,eval e X.env)::starEach es X.env:=by rfl) (hpl:(backTo pos (starEach es X.env)).any (·.1)=false:=by rfl)
  (ht:eval (.Call (.Attribute o m apos) (e::es) [] pos) X.env=(do
    let ov <-eval o X.env
    standAt apos.atName
    let (f,first) <-holding [ov] (getMethod ov m pl)
    callWith pos f first (backTo pos (starEach (e::es) X.env)) (backToKw pos (keywordEach [] X.env))):=by rfl):
  PE X (.Call (.Attribute o m apos) (e::es) [] pos) (Ea C m sp iO E ta t):=by
 intro pins s σ H Q I h
 refine PySem.W.methodCall_KW (pl:=pl) (bg (he pins s σ H _ I h) fun u s1 ⟨x,H1,I1,rx,a,dx,fs,ex,ea,l,q⟩=>?_) ht
 subst ex
 obtain rfl:u=Value.ref a:=rx
 refine D9 I1 ea c hm l ?_
 refine QG (first:=[.ref a]) (h₀:=X.base) I.ok.mod.OV hm.kp (bg (ha pos pins s1 σ H1 _ I1 q) fun us s2 ⟨vs,H2,I2,r,q2⟩=>⟨I2.iN,?_⟩) hst hpl
 exact Ku (us:= .ref a::us) (vs:= .ref a::vs) F hr hb hd hx I2 (.cons rfl r) q2
theorem V2 (he:PE X o ta) (c:oS X.K C) (hm:Meth X.K C m f) (F:iw X.prog X.w X.K X.mg X.base CX k f fd ps sp) (hr:dG k X.A) (hb:Binds X.K fd ps ds) (hd:Vals iO ds) (hx:Passes CX X E)
  (ht:eval (.Call (.Attribute o m apos) [] [] pos) X.env=(do
    let ov <-eval o X.env
    standAt apos.atName
    let (f,first) <-holding [ov] (getMethod ov m pl)
    callWith pos f first (backTo pos (starEach [] X.env)) (backToKw pos (keywordEach [] X.env))):=by rfl):
  PE X (.Call (.Attribute o m apos) [] [] pos) (Ea C m sp iO E ta pP):=by
 intro pins s σ H Q I h
 refine PySem.W.methodCall_KW (pl:=pl) (bg (he pins s σ H _ I h) fun u s1 ⟨x,H1,I1,rx,a,dx,fs,ex,ea,l,q⟩=>?_) ht
 subst ex
 obtain rfl:u=Value.ref a:=rx
 refine D9 I1 ea c hm l ?_
 exact PySem.W.callWith_K0 (first:=[.ref a]) I1.iN hm.kp (Ku (us:=[.ref a]) (vs:=[.ref a]) F hr hb hd hx I1 (.cons rfl .nil) q)
structure Mk (K:Fg) (C f:Addr):Prop where
 makes:PySem.W.makesIn K C=true
 init:PySem.W.findIn K (.ref C) "__init__"=some (some (.ref f))
 fn:PySem.W.isFn K (.ref f)=true
 kp:PySem.W.keepIn K (.ref C)=true
theorem Kv {Q:VK} (M:Mk X.K C f) (F:iw X.prog X.w X.K X.mg X.base CX k f fd ps sp) (hr:dG (k+1) X.A) (hb:Binds X.K fd ps ds) (hd:Vals iO ds)
  (hx:Passes CX X E) (I:Inv X pins σ H s) (r:Vals vs us)
  (h:∀x dx,H x=none->H dx=none->dx≠x->sp (.ref x::(vs++iO)) (upd (upd H dx (.own x)) x (.ins C dx [])) (fun v H2=>v = .b_/\Q (.ref x) H2) E):
  wpAny (model X.prog X.w) X.A (call (.ref C) us) (EP X pins σ Q) X.xe s:=by
 have hq:=h (s.heap.objs.size+1) s.heap.objs.size (I.hok.fresh (Nat.le_succ _)) (I.hok.fresh (aP _)) (dQ (Nat.lt_succ_self _))
 have I2:=Inv.made (C:=C) I
 have r2:Vals (V.ref (s.heap.objs.size+1)::(vs++iO)) (Value.ref (s.heap.objs.size+1)::(us++ds)):= .cons rfl (r.append hd)
 have hl:(Value.ref (s.heap.objs.size+1)::us++ds).length=ps.length:=by
  have e:=r2.length
  rw [F.len _ _ _ _ hq] at e
  exact e.symm
 refine wpAny_call (VX (f:=f) I.iN M.makes M.init (nL.mp M.fn) (Bq (F.run _ X.stack _ _ ⟨Value.ref (s.heap.objs.size+1)::us,[]⟩ (Value.ref (s.heap.objs.size+1)::(us++ds)) _ _ E (hr.make C us [])
  (I2.V0.make C us []) (hb _ (Value.ref (s.heap.objs.size+1)::us) I2.iN hl) r2 hq) fun r s' hq'=>?_))
 cases r with
 | error e=>exact hx pins σ _ _ e s' I2 hq'
 | ok fl=>
   cases fl with
   | ret u=>
     obtain ⟨v,H',I3,rv,ev,q3⟩:=I2.after hq'
     subst ev
     exact ⟨rv,⟨V.ref (s.heap.objs.size+1),H',I3,Z,q3⟩⟩
   | next=>exact False.elim hq'
   | brk=>exact False.elim hq'
   | cont=>exact False.elim hq'
theorem YO (M:Mk X.K C f) (F:iw X.prog X.w X.K X.mg X.base CX k f fd ps sp) (hr:dG (k+1) X.A) (hg:Gl X x) (hm:X.mg x=some (.ref C)) (hb:Binds X.K fd ps ds) (hd:Vals iO ds) (hx:Passes CX X E)
  (ha:PA X (e::es) t) (hdb:(x==("__debug__":Str))=false:=by decide) (he:starEach (e::es) X.env=(false,eval e X.env)::starEach es X.env:=by rfl) (hpl:(backTo pos (starEach es X.env)).any (·.1)=false:=by rfl):
  PE X (.Call (.Name x p) (e::es) [] pos) (J4 C sp iO E t):=by
 intro pins s σ H Q I h
 refine Ge (qQ I hg hm ?_ hdb)
 refine QG (h₀:=X.base) I.ok.mod.OV M.kp (bg (ha pos pins s σ H _ I h) fun us s1 ⟨vs,H1,I1,r,q⟩=>⟨I1.iN,?_⟩) he hpl
 exact Kv M F hr hb hd hx I1 r q
theorem V3 (M:Mk X.K C f) (F:iw X.prog X.w X.K X.mg X.base CX k f fd ps sp) (hr:dG (k+1) X.A) (hg:Gl X x) (hm:X.mg x=some (.ref C)) (hb:Binds X.K fd ps ds) (hd:Vals iO ds) (hx:Passes CX X E)
  (hdb:(x==("__debug__":Str))=false:=by decide):PE X (.Call (.Name x p) [] [] pos) (J4 C sp iO E pP):=by
 intro pins s σ H Q I h
 refine Ge (qQ I hg hm ?_ hdb)
 exact PySem.W.callWith_K0 I.iN M.kp (Kv (us:=[]) M F hr hb hd hx I .nil h)
end
section
variable {X:Cx} {CX:zy} {k:Nat} {f C:Addr} {fd:FuncData} {ps ks:List Str} {sp:Sp} {E:XK} {x m:Str} {p pos apos kpos:Pos} {e o:Expr} {es:List Expr} {kws:List Keyword} {te ta:TE} {t tk:TA} {nm:Option Str}
variable {g:List Value->List Value->List Value} {gV:List V->List V->List V}
end
structure aJ (N P:List Str) (sc:Scope):Prop where
 kind:sc.kind = .function
 co:sc.isCoroutine=false
 gen:sc.isGenerator=false
 nd:N.Nodup
 pre:N.take P.length=P
 par:∀x∈P,sc.names.lookup x=some .local\/sc.names.lookup x=some .cell
 aaZ:∀y∈sc.names,y.2 ≠ .free
theorem HQ {kindOf:Str->Option NameKind} {x:Str}:∀{binds:List (Str×Value)} {m:SO},(∀v,(x,v)∉binds)->bindL kindOf binds m x=m x
 | [],_,_=>rfl
 | (n,v)::r,m,h=>by
   unfold bindL
   rw [HQ fun w hw=>h w (cG _ hw)]
   split
   . have:x≠n:=by rintro rfl;exact h v cM
     simp [this]
   . rfl
theorem HR {kindOf:Str->Option NameKind} {x:Str}:∀{binds:List (Str×Value)} {m:SO},(∀v,(x,v)∉binds)->bindC kindOf binds m x=m x
 | [],_,_=>rfl
 | (n,v)::r,m,h=>by
   unfold bindC
   rw [HR fun w hw=>h w (cG _ hw)]
   split
   . rfl
   . have:x≠n:=by rintro rfl;exact h v cM
     simp [this]
theorem HU {kindOf:Str->Option NameKind} {x:Str} {v:Value}:∀{P:List Str} {vs:List Value} {i:Nat} {m:SO},P.Nodup->P[i]?=some x->vs[i]?=some v->kindOf x=some .local->
  bindL kindOf (P.zip vs) m x=some v
 | [],_,_,_,_,h,_,_=>by simp at h
 | _::_,[],_,_,_,_,h,_=>by simp at h
 | p::P,w::vs,0,m,nd,h1,h2,hk=>by
   simp at h1 h2;subst h1;subst h2
   show bindL kindOf ((p,w)::P.zip vs) m p=_
   unfold bindL
   rw [HQ fun v hv=>(gR.mp nd).1 (List.of_mem_zip hv).1,aA hk]
   simp
 | p::P,w::vs,i+1,m,nd,h1,h2,hk=>by
   show bindL kindOf ((p,w)::P.zip vs) m x=_
   unfold bindL
   exact HU (i:=i) (gR.mp nd).2 (by simpa using h1) (by simpa using h2) hk
theorem HV {kindOf:Str->Option NameKind} {x:Str} {v:Value}:∀{P:List Str} {vs:List Value} {i:Nat} {m:SO},P.Nodup->P[i]?=some x->vs[i]?=some v->kindOf x≠some .local->
  bindC kindOf (P.zip vs) m x=some v
 | [],_,_,_,_,h,_,_=>by simp at h
 | _::_,[],_,_,_,_,h,_=>by simp at h
 | p::P,w::vs,0,m,nd,h1,h2,hk=>by
   simp at h1 h2;subst h1;subst h2
   show bindC kindOf ((p,w)::P.zip vs) m p=_
   unfold bindC
   rw [HR fun v hv=>(gR.mp nd).1 (List.of_mem_zip hv).1,az hk]
   simp
 | p::P,w::vs,i+1,m,nd,h1,h2,hk=>by
   show bindC kindOf ((p,w)::P.zip vs) m x=_
   unfold bindC
   exact HV (i:=i) (gR.mp nd).2 (by simpa using h1) (by simpa using h2) hk
def start (N:List Str) (vs:List V):St:=vs.map some++List.replicate (N.length-vs.length) none
def dj (CX:zy) (P:Program) (w:World) (K:Fg) (mg:SO) (base:Heap) (N:List Str) (qual:Str) (scope:Scope) (f:Addr) (cd:Value) (A:Around) (outer:List Env) (s:Shared) (H:Hp) (E:XK):Cx where
 prog:=P
 w:=w
 K:=K
 mg:=mg
 base:=base
 A:=A.deeper (envOfC qual scope s.heap.objs.size f cd)
 N:=N
 s₀:=s
 H₀:=H
 env:=envOfC qual scope s.heap.objs.size f cd
 outer:=outer
 stack:=envOfC qual scope s.heap.objs.size f cd::outer
 ex:=[]
 calm:=true
 fn:=fun _=>true
 pn:=[]
 xe:=fun e s'=>wpAny (model P w) (A.deeper (envOfC qual scope s.heap.objs.size f cd)) (leaving (envOfC qual scope s.heap.objs.size f cd) e) (fun _ s''=>CX outer H s E e s'') (fun e' s''=>CX outer H s E e' s'') s'
theorem Kw {sc:Scope} (h:sc.names.lookup x=some .cell):∃c,(cellsFrom n sc.names []).lookup x=some c:=by
 have q:=PySem.W.cellsFrom_some sc.names n [] (.inl h)
 exact Option.isSome_iff_exists.mp q
variable {qual:Str} {scope:Scope}
theorem SV {w:World} {cd:Value} {outer:List Env} {s1:Shared} {E:XK}
  (S:aJ N ps scope) (hd:A.handled=none) (e0:CV P w K mg base A outer s H) (hl:vs.length=ps.length) (r:Vals vs us)
  (x:InCallC s s.heap.objs.size (bindL (envOfC qual scope s.heap.objs.size f cd).kindOf (ps.zip us) fun _=>none) (cellsFrom (s.heap.objs.size+1) scope.names []) (bindC (envOfC qual scope s.heap.objs.size f cd).kindOf (ps.zip us) fun _=>none) s1):
  Inv (dj CX P w K mg base N qual scope f cd A outer s H E) [] (start N vs) H s1:=by
 have hpl:ps.length<=N.length:=by have:=gU List.length S.pre;rw [kZ] at this;omega
 obtain ⟨h1,tk,rfl,hk⟩:=x.done
 have SW:∀b:Addr,b∉(dj CX P w K mg base N qual scope f cd A outer s H E).ex:=fun b z=>absurd (show b∈([] :List Addr) from z) (by simp)
 refine ⟨⟨e0.mod,S.kind,Z,Z,aP _,fun y z c h1 h2=>?_,fun y hy=>?_,fun y c _ h=>?_,fun _=>hd,Around.frames_deeper e0.frames, .inr ⟨Z,Z⟩,fun b z=>absurd z (SW b),e0.bs,e0.DZ,fun b _ _=>SW b,fun b z=>absurd z (SW b),e0.oh,e0.HL⟩,
  rfl,e0.bare,Un.kept hk,⟨_,x.toInCall.ns,fun i y v h1 h2 h3=>?_⟩,fun y c h=>⟨_,x.cell y c h⟩,e0.hok.fresh (aP _),fun y c h=>?_,fun p hp=>absurd (show p∈([] :AO) from hp) (by simp),e0.hok.kept hk,?_⟩
 . exact name_of_addr x.apart (yh h1) (yh h2)
 . have hy:scope.names.lookup y=some .cell\/scope.names.lookup y=some .free:=hy
   rcases hy with hy|hy
   . exact Kw hy
   . exact absurd rfl (S.aaZ _ (yh hy))
 . exact DW (x.above y c (yh h))
 . have hi:i<vs.length:=by
    unfold start at h2
    by_cases hi:i<vs.length
    . exact hi
    . rw [CM (by simpa using hi)] at h2
      rw [List.getElem?_replicate] at h2
      split at h2 <;> cases h2
   have ha:vs[i]?=some v:=by
    unfold start at h2
    rw [Ka (by simpa using hi),bF] at h2
    cases e:vs[i]? with
    | none=>rw [e] at h2;cases h2
    | some a=>rw [e] at h2;cases h2;rfl
   obtain ⟨u,hu,rv⟩:=r.get ha
   have hp:ps[i]?=some y:=by
    rw [<-S.pre,List.getElem?_take_of_lt (by omega)];exact h1
   have ndP:ps.Nodup:=by rw [<-S.pre];exact S.nd.sublist (List.take_sublist _ _)
   refine ⟨u,rv,?_⟩
   rcases S.par y (bJ hp) with k|k
   . exact .inl ⟨k,HU ndP hp hu k⟩
   . obtain ⟨c,e⟩:=Kw (n:=s.heap.objs.size+1) k
     refine .inr ⟨.inl k,c,e,?_⟩
     have q:=x.cell y c e
     rw [HV ndP hp hu (by show scope.names.lookup y≠_;rw [k];decide)] at q
     exact q
 . exact e0.hok.fresh (DW (x.above y c (yh h)))
 . unfold start
   show _=N.length
   rw [dh,aE,mW]
   omega
variable {body:List Stmt} {doc pm cdv ct oc:Value} {an od:Option Addr}
theorem Q5 {w:World} {k:Nat} {name:Str} {params:Arguments} {dV kV:Value}
  {osl:Array (Option Value)} {N ps:List Str} {sp:Sp} (lk:K.lookup f=some ⟨oc,od, .func (PySem.W.fnOf name qual params body scope dV kV doc pm an cdv ct),osl⟩) (hcd:PySem.W.codeIn K cdv qual=true) (S:aJ N ps scope)
  (len:∀vs H Q E,sp vs H Q E->vs.length=ps.length)
  (hbody:∀(A:Around) (outer:List Env) (s:Shared) (H:Hp) (vs:List V) (Q:VK) (E:XK),dG k (A.deeper (envOfC qual scope s.heap.objs.size f cdv))->sp vs H Q E->
    ∃t,qL (dj CX P w K mg base N qual scope f cdv A outer s H E) body t/\t { nx:=fun _ H'=>Q .b_ H',rt:=Q } (start N vs) H):
  iw P w K mg base CX (k+1) f (PySem.W.fnOf name qual params body scope dV kV doc pm an cdv ct) ps sp:=by
 refine ⟨len,fun A outer s H args us vs Q E hr e0 hb r pQ=>?_⟩
 have hl:=len _ _ _ _ pQ
 have KX:K.In s.heap:=e0.mod.OV.keeps fun b o e=>(e0.bs b o e).1
 have lim:s.heap.NoLimit:=e0.mod.nolimit.keeps fun b o e=>(e0.bs b o e).1
 have hkind:∀y∈ps.zip us,scope.names.lookup y.1=some .local\/(scope.names.lookup y.1=some .cell/\((cellsFrom (s.heap.objs.size+1) scope.names []).lookup y.1).isSome=true):=fun ⟨n,v⟩ hy=>by
  rcases S.par n (List.of_mem_zip hy).1 with q|q
  . exact .inl q
  . exact .inr ⟨q,PySem.W.cellsFrom_some _ _ _ (.inl q)⟩
 refine codeAny_call_function hr.depth (KX _ _ lk) rfl S.co S.gen rfl (PySem.W.codeRec_of KX hcd) (hb _ _ _ _ ?_)
 refine wpAny_newFunctionEnv_cells S.kind hkind fun env he s1 x=>?_
 subst he
 refine ⟨lim.keeps x.toInCall.keep,codeAny_func ?_⟩
 obtain ⟨t,ht,hq⟩:=hbody A outer s H vs Q E (hr.deeper _) pQ
 have I:Inv (dj CX P w K mg base N qual scope f cdv A outer s H E) [] (start N vs) H s1:=SV S hr.hd e0 hl r x
 refine gT (ht [] s1 (start N vs) H _ I hq) (fun fl s' hs=>?_) fun e s' hs=>hs
 have fin:∀{σ':St} {H':Hp} {v:V} {u:Value},Inv (dj CX P w K mg base N qual scope f cdv A outer s H E) [] σ' H' s'->RelV v u->Q v H'->CE outer P w H s Q u s':=
  fun {σ' H' v u} J rv q=>⟨v,H',J.os,J.bare,J.base,J.hok,rv,q⟩
 cases fl with
 | ret u=>
   obtain ⟨v,σ',H',J,rv,q⟩:=hs
   exact fin J rv q
 | next=>
   obtain ⟨σ',H',J,q⟩:=hs
   exact fin (v:=V.b_) (u:=Value.none) J rfl q
 | brk=>
   obtain ⟨_,_,_,q⟩:=hs
   exact False.elim q
 | cont=>
   obtain ⟨_,_,_,q⟩:=hs
   exact False.elim q
section
variable {X:Cx} {x:Str} {p pos:Pos} {e:Expr} {es:List Expr} {t:TA} {id T:String} {r:List V->Hp->VK->Prop}
def ahs (r:List V->Hp->VK->Prop) (Q:VK):List V->Hp->Prop:=fun vs H1=>r vs H1 Q
def tCB (r:List V->Hp->VK->Prop) (t:TA):TE:=fun σ H Q=>t σ H (ahs r Q)
end
end L2
namespace HT
open PySem PyProof.Rows
section
open PySem.SeqAt
open PySem.AutoSeq1 (wpAny_loadPart')
open PySem.MeetsSeq PySem.MeetsSeq2 PySem.MeetsSeq3
end
section
variable {prog:Program} {w:World} {A:Around} {E:VS} {s:Shared}
theorem YQ {t b:Addr} {vs ws:List Value} {Q:VS} (ht:IsTup s.heap t vs.toArray) (hb:IsTup s.heap b ws.toArray) (hv:vs≠[])
  (h1:ws=[]->Q (.ref t) s) (h2:ws≠[]->Q (.ref s.heap.objs.size) { s with heap:=s.heap.push { cls:= .type "tuple",data:= .seq (vs++ws).toArray } })
  (hsz:vs.length+ws.length<=sizeLine):wpAny (model prog w) A (binaryOp .Add (.ref t) (.ref b)) Q E s:=by
 obtain ⟨⟨cls,dd,data,sl⟩,ho,hc,n,hd⟩:=id ht
 obtain ⟨⟨aht,dd2,data2,sl2⟩,ho2,hc2,n2,hd2⟩:=id hb
 simp only at hc hd hc2 hd2
 subst hc hd hc2 hd2
 have e:vs.toArray++ws.toArray=(vs++ws).toArray:=by simp
 by_cases hw:ws=[]
 . exact concat_meets ⟨_,ho,Z⟩ ⟨_,ho2,Z⟩ noFill_tuple_add seq_tuple_add PySem.F.slot_tuple_add PySem.F.entry_tuple_add (PySem.F.args_tuple_add_2 _ _)
    (tuple_addW1 t b vs.toArray ws.toArray n n2 dd dd2 sl sl2 (by simpa using hv) (by simp [hw])) ⟨ho,ho2,h1 hw⟩
 . refine concat_meets ⟨_,ho,Z⟩ ⟨_,ho2,Z⟩ noFill_tuple_add seq_tuple_add PySem.F.slot_tuple_add PySem.F.entry_tuple_add (PySem.F.args_tuple_add_2 _ _)
    (tuple_addW2 t b vs.toArray ws.toArray n n2 dd dd2 sl sl2 (by simpa using hv) (by simpa using hw) (by rw [gK,gK];exact hsz)) ⟨ho,ho2,?_⟩
   rw [e]
   exact h2 hw
def dM (n d:Nat):Option Int->Nat
 | none=>d
 | some v=>if v<0 then (v+(n:Int)).toNat else min v.toNat n
theorem CW (n d:Nat):dM n d none=d:=rfl
theorem xG (n d k:Nat):dM n d (some (k:Int))=min k n:=by
 show (if (k:Int)<0 then ((k:Int)+(n:Int)).toNat else min (k:Int).toNat n)=min k n
 rw [az (by omega),wM]
theorem SX (n d:Nat) (hd:d<=n) (o:Option Int):dM n d o<=n:=by
 cases o with
 | none=>exact hd
 | some v=>
   show (if v<0 then (v+(n:Int)).toNat else min v.toNat n)<=n
   by_cases hv:v<0
   . rw [aA hv];omega
   . rw [az hv];exact Nat.min_le_right _ _
theorem O4 (v:Int) (n d:Nat):(if v<0 then max (v+(n:Int)) 0 else min v (n:Int))=((dM n d (some v):Nat):Int):=by
 show (if v<0 then max (v+(n:Int)) 0 else min v (n:Int))=(((if v<0 then (v+(n:Int)).toNat else min v.toNat n):Nat):Int)
 by_cases hv:v<0
 . simp only [aA hv];omega
 . simp only [az hv];omega
theorem Q6 (lo hi:Option Int) (n:Nat):Builtin.Slice.sliceAdjust lo hi 1 (n:Int)=(((dM n 0 lo:Nat):Int),((dM n n hi:Nat):Int)):=by
 have h1:¬ ((1:Int)<0):=by omega
 unfold Builtin.Slice.sliceAdjust
 simp only [h1,lE]
 refine Prod.ext ?_ ?_
 . cases lo with
   | none=>rfl
   | some v=>exact O4 v n 0
 . cases hi with
   | none=>rfl
   | some v=>exact O4 v n n
theorem Q7 (i j:Nat):Builtin.Slice.slicePlaces (i:Int) (j:Int) 1=j-i:=by
 unfold Builtin.Slice.slicePlaces
 have h1:(1:Int)>0:=by omega
 simp only [h1,rQ,Br]
 split <;> omega
theorem Eb {v:Value} {o:Option Int} {Q:Option Int->Shared->Prop} (p:IsPart v o) (h:Q o s):wpAny (model prog w) A (Builtin.Slice.slicePartIndex v) Q E s:=by
 cases p with
 | none=>exact slicePart_none h
 | int i t=>exact slicePart_int h
theorem CY {sl:Addr} {vl vu:Value} {lo hi:Option Int} {n:Nat} {Q:Int×Int×Nat->Shared->Prop} (hs:s.heap.IsSliceOf sl vl vu .none) (pl:IsPart vl lo) (pu:IsPart vu hi)
  (h:Q (((dM n 0 lo:Nat):Int),1,dM n n hi-dM n 0 lo) s):wpAny (model prog w) A (Builtin.Slice.sliceApplied (.ref sl) (pure (n:Int))) Q E s:=by
 obtain ⟨os,hos,hcs,hds⟩:=id hs
 unfold Builtin.Slice.sliceApplied Builtin.Slice.sliceFields
 refine aq (aq (kH hos hds (x:=vl) rfl (aq (kH hos hds (x:=vu) rfl (aq (kH hos hds (x:= .none) rfl (aL ?_)))))))
 refine aq (slicePart_none ?_)
 show wpAny _ _ (if ((1:Int)==0)=true then _ else _) _ _ s
 rw [az (by decide)]
 refine aq (Eb pl (aq (Eb pu (aq (aL ?_)))))
 show wpAny _ _ (match Builtin.Slice.sliceAdjust lo hi 1 (n:Int) with|(lo,hi)=>pure (lo,(1:Int),Builtin.Slice.slicePlaces lo hi 1)) _ _ s
 rw [Q6 lo hi n]
 show wpAny _ _ (pure (((dM n 0 lo:Nat):Int),(1:Int),Builtin.Slice.slicePlaces ((dM n 0 lo:Nat):Int) ((dM n n hi:Nat):Int) 1)) _ _ s
 rw [Q7]
 exact aL h
theorem V4 (xs:Array Value) (i k:Nat):((List.range k).filterMap fun (m:Nat)=>xs[((i:Int)+(m:Int)*1).toNat]?).toArray=((xs.toList.drop i).take k).toArray:=by
 have e:(fun (m:Nat)=>xs[((i:Int)+(m:Int)*1).toNat]?)=fun m=>xs[i+m]?:=by
  funext m
  have:((i:Int)+(m:Int)*1).toNat=i+m:=by omega
  rw [this]
 rw [e]
 have:=pick_run xs i k
 rw [List.filterMap_map] at this
 have e2:((fun x=>xs[x]?) ∘ fun x=>i+x)=fun m=>xs[i+m]?:=rfl
 rw [e2] at this
 rw [this]
theorem BX {t sl:Addr} {items:Array Value} {vl vu:Value} {lo hi:Option Int} {Q:VS} (ht:IsTup s.heap t items) (hs:s.heap.IsSliceOf sl vl vu .none) (pl:IsPart vl lo) (pu:IsPart vu hi)
  (hw:¬ (dM items.size 0 lo=0/\dM items.size items.size hi=items.size))
  (h:Q (.ref s.heap.objs.size) { s with heap:=s.heap.push { cls:= .type "tuple",data:= .seq ((items.toList.drop (dM items.size 0 lo)).take (dM items.size items.size hi-dM items.size 0 lo)).toArray } })
  (hsz:items.size<=sizeLine):wpAny (model prog w) A (getItem (.ref t) (.ref sl)) Q E s:=by
 have J5:sizeOk (.seq ((items.toList.drop (dM items.size 0 lo)).take (dM items.size items.size hi-dM items.size 0 lo)).toArray):=by
  show ((items.toList.drop (dM items.size 0 lo)).take (dM items.size items.size hi-dM items.size 0 lo)).toArray.size<=sizeLine
  rw [gK,kZ,Kl,Array.length_toList]
  omega
 have hj:dM items.size items.size hi<=items.size:=SX _ _ (aP _) hi
 obtain ⟨os,hos,hcs,hds⟩:=id hs
 have hTs:s.TypeIs (.ref sl) "slice":=⟨os,hos,hcs⟩
 unfold getItem
 try with_reducible refine yo ?_
 first|refine aq (aL ?_)|skip
 refine aq (wpAny_sequenceKey ht.typeIs (by decide) ?_)
 refine aq (ye (name:=Str.ofString "__getitem__") ht.typeIs PyProof.Rows.slot_tuple_getitem
  (yj PyProof.Rows.slot_tuple_getitem ht.typeIs entry_tuple_getitem ?_ (args_tuple_getitem _ _)))
 show wpAny _ _ (Builtin.Tuple.tupleItemsOf (.ref t) >>= _) _ _ s
 refine aq (tupleItemsOf_ ht ?_)
 refine aq (wpAny_typeOf hTs ?_)
 rw [aA (by decide)]
 refine aq (CY hs pl pu ?_)
 have hno:¬ ((((dM items.size 0 lo:Nat):Int)==0 && (1:Int)==1 && (dM items.size items.size hi-dM items.size 0 lo)==items.size)=true):=by
  intro q
  rw [Bj,Bj] at q
  have q1:((dM items.size 0 lo:Nat):Int)=0:=eq_of_beq q.1.1
  have q2:dM items.size items.size hi-dM items.size 0 lo=items.size:=eq_of_beq q.2
  exact hw ⟨by omega,by omega⟩
 show wpAny _ _ (if (((dM items.size 0 lo:Nat):Int)==0 && (1:Int)==1 && (dM items.size items.size hi-dM items.size 0 lo)==items.size)=true then _ else _) _ _ s
 rw [az hno,V4]
 first
  | exact aq (m:=Builtin.Tuple.tupleExact _) (qN (aL ⟨_,Z,aL h⟩) J5)
  | exact aq (m:=Builtin.Tuple.tupleExact _) (qN (aq (aL (aL ⟨_,Z,aL h⟩))) J5)
  | exact aq (aq (m:=Builtin.Tuple.tupleExact _) (qN (aL (aL ⟨_,Z,aL h⟩)) J5))
  | exact aq (aq (m:=Builtin.Tuple.tupleExact _) (qN (aL ⟨_,Z,aL h⟩) J5))
end
end HT
namespace L2
open PySem PySem.Spec PyProof.Rows
abbrev TO:=St->Hp->(Option Int->Hp->Prop)->Prop
def PO (X:Cx) (e:Option Expr) (t:TO):Prop:=
 ∀(pins:AO) (s:Shared) (σ:St) (H:Hp) (Q:Option Int->Hp->Prop),Inv X pins σ H s->t σ H Q->
  wpAny (model X.prog X.w) X.A (evalPart e X.env) (fun u s'=>∃o H',Inv X pins σ H' s'/\IsPart u o/\Q o H') X.xe s
def YR:TO:=fun _ H Q=>Q none H
inductive aa1 (Q:Option Int->Hp->Prop) (x:V) (H1:Hp):Prop
 | mk  (i:_) (_:x = .int i) (_:Q (some i:_) H1)
def ad8 (t:TE):TO:=fun σ H Q=>t σ H (aa1 Q)
variable {ns:List Int}
theorem intsAre_of:∀{us:List Value},Vals (ns.map V.int) us->IntsAre us ns:=by
 induction ns with
 | nil=>intro us r;rw [List.map_nil] at r;cases r;exact .nil
 | cons n ns ih=>
   intro us r
   rw [bH] at r
   cases r with
   | cons r1 r2=>
     obtain ⟨t,e⟩:=r1
     subst e
     exact .cons n t (ih r2)
variable {xs:List V} {us:List Value}
section
variable {X:Cx} {e:Expr} {te:TE} {lo hi:Option Expr} {tl th:TO} {pos p2:Pos}
def SY (X:Cx) (r:V->Option Int->Option Int->Hp->VK->Prop):Prop:=
 ∀(pins:AO) (s:Shared) (σ:St) (H:Hp) (x:V) (v vl vu:Value) (lo hi:Option Int) (sl:Addr) (Q:VK),Inv X pins σ H s->RelV x v->s.heap.IsSliceOf sl vl vu .none->IsPart vl lo->IsPart vu hi->r x lo hi H Q->
  ∃T id,typeLookup (.type T) "__getitem__"=pure (some (.builtin id))/\s.TypeIs v T/\wpAny (model X.prog X.w) X.A (getItem v (.ref sl)) (EP X pins σ Q) X.xe s
def aa2 (r:V->Option Int->Option Int->Hp->VK->Prop) (Q:VK) (x:V) (l:Option Int):Option Int->Hp->Prop:=fun u H3=>r x l u H3 Q
def aa3 (r:V->Option Int->Option Int->Hp->VK->Prop) (th:TO) (σ:St) (Q:VK) (x:V):Option Int->Hp->Prop:=fun l H2=>th σ H2 (aa2 r Q x l)
def ahu (r:V->Option Int->Option Int->Hp->VK->Prop) (tl:TO) (th:TO) (σ:St) (Q:VK):V->Hp->Prop:=fun x H1=>tl σ H1 (aa3 r th σ Q x)
def tSl (r:V->Option Int->Option Int->Hp->VK->Prop) (te:TE) (tl th:TO):TE:=fun σ H Q=>te σ H (ahu r tl th σ Q)
def wO (xs:List V) (lo hi:Option Int):List V:=(xs.drop (HT.dM xs.length 0 lo)).take (HT.dM xs.length xs.length hi-HT.dM xs.length 0 lo)
theorem ND (xs:List V) (lo hi:Option Int):(wO xs lo hi).length<=xs.length:=by
 unfold wO
 rw [kZ,Kl]
 omega
inductive aa4 (K:Fg) (x:V) (lo:Option Int) (hi:Option Int) (H:Hp) (Q:VK):Prop
 | mk  (a xs:_) (_:x = .ref a) (_:cS K H a xs) (_:¬ (HT.dM xs.length 0 lo=0/\HT.dM xs.length xs.length hi=xs.length)) (_:∀p,H p=none->Q (.ref p) (upd H p (.tup (wO xs lo hi))))
theorem aa5:SY X (aa4 X.K):=by
 intro pins s σ H x v vl vu lo hi sl Q I rx hs pl pu h
 obtain ⟨a,xs,rfl,hx,hw,q⟩:=h
 cases rx
 obtain ⟨its,r,ht,hz⟩:=I.tuple hx
 have hlen:its.toArray.size=xs.length:=by rw [gK];exact r.length.symm
 refine ⟨"tuple",_,PyProof.Rows.slot_tuple_getitem.lookup,ht.typeIs,?_⟩
 refine HT.BX ht hs pl pu (by rw [hlen];exact hw) ?_ (by rw [hlen];exact hz)
 rw [hlen]
 refine ⟨.ref s.heap.objs.size,_,I.laid (t':=s.toks) (o:= .tup (wO xs lo hi)) (fun b ob q=>cA _ q) (aP _) ?_,Z,q _ (I.hok.fresh (aP _))⟩
 exact ⟨fu (ND xs lo hi) hz,_,(r.drop (HT.dM xs.length 0 lo)).take (HT.dM xs.length xs.length hi-HT.dM xs.length 0 lo),IsTup.new _ _⟩
inductive ad9 (K:Fg) (x:V) (y:V) (H:Hp) (Q:VK):Prop
 | mk  (a b xs ys:_) (_:x = .ref a) (_:y = .ref b) (_:cS K H a xs) (_:cS K H b ys) (_:xs≠[]) (_:xs.length+ys.length<=sizeLine) (_:(ys=[]->Q (.ref a) H)) (_:(ys≠[]->∀p,H p=none->Q (.ref p) (upd H p (.tup (xs++ys)))))
theorem Vals.Bv (r:Vals xs us):us=[]↔xs=[] :=by
 cases r with
 | nil=>simp
 | cons _ _=>simp
theorem YS:gY X (binaryOp .Add) (ad9 X.K):=by
 intro pins s σ H x y v u Q I rx ry h
 obtain ⟨a,b,xs,ys,rfl,rfl,ha,hb,hx,hz,q1,q2⟩:=h
 cases rx
 cases ry
 obtain ⟨its,r1,p1,_⟩:=I.tuple ha
 obtain ⟨its2,r2,p2,_⟩:=I.tuple hb
 refine HT.YQ p1 p2 (fun z=>hx (r1.Bv.mp z)) (fun z=>⟨.ref a,H,I,Z,q1 (r2.Bv.mp z)⟩) (fun z=>?_) (by rw [<-r1.length,<-r2.length];exact hz)
 refine ⟨.ref s.heap.objs.size,_,I.laid (t':=s.toks) (o:= .tup (xs++ys)) (fun b ob q=>cA _ q) (aP _) ?_,Z,q2 (fun w=>z (r2.Bv.mpr w)) _ (I.hok.fresh (aP _))⟩
 exact ⟨by rw [dh];exact hz,_,r1.append r2,IsTup.new _ _⟩
end
def Cm (n:Nat) (i:Int):Option Nat:=if 0<=i then (if i<n then some i.toNat else none) else if -(n:Int)<=i then some (i+n).toNat else none
def oU {α:Type} (xs:List α) (i:Int):Option α:=(Cm xs.length i).bind fun j=>xs[j]?
variable {n j:Nat}
theorem O5 {i:Int} (h:Cm n i=some j):seqIndex? i n=some j/\j<n/\-(n:Int)<=i/\i<n:=by
 unfold Cm at h
 by_cases h0:0<=i
 . rw [aA h0] at h
   by_cases h1:i<n
   . rw [aA h1] at h
     have e:i.toNat=j:=fY h
     exact ⟨by rw [seqIndex_of h0 h1,e],by omega,by omega,h1⟩
   . rw [az h1] at h;cases h
 . rw [az h0] at h
   by_cases h1:-(n:Int)<=i
   . rw [aA h1] at h
     have e:(i+n).toNat=j:=fY h
     exact ⟨by rw [seqIndex_neg (by omega) h1,e],by omega,h1,by omega⟩
   . rw [az h1] at h;cases h
theorem Bw {α:Type} {xs:List α} {i:Int} {v:α} (h:oU xs i=some v):∃j,seqIndex? i xs.length=some j/\xs[j]?=some v/\j<xs.length/\-(xs.length:Int)<=i/\i<xs.length:=by
 unfold oU at h
 cases e:Cm xs.length i with
 | none=>rw [e] at h;cases h
 | some j=>
   rw [e] at h
   obtain ⟨h1,h2,h3,h4⟩:=O5 e
   exact ⟨j,h1,h,h2,h3,h4⟩
theorem aT {α:Type} {xs:List α} {v:α} (h:xs[j]?=some v):oU xs (j:Int)=some v:=by
 have hj:j<xs.length:=(dI.mp h).1
 have e:Cm xs.length (j:Int)=some j:=by
  unfold Cm
  rw [aA (by omega),aA (by omega)];simp
 unfold oU;rw [e];exact h
def YT (b:Expr):Prop:=∀o i,subscripted b false o i=operate [o,i] (getItem o i)
def zz (X:Cx) (r:R2):Prop:=
 ∀(value slice:Expr) (pins:AO) (s:Shared) (σ:St) (H:Hp) (x y:V) (v u:Value) (Q:VK),Inv X pins σ H s->RelV x v->RelV y u->r x y H Q->
  subscripted slice false v u=operate [v,u] (getItem v u)->wpAny (model X.prog X.w) X.A (subscriptTail value slice v u) (EP X pins σ Q) X.xe s
def MtR (X:Cx) (id:String) (r:V->List V->Hp->VK->Prop):Prop:=
 ∀(pins:AO) (s:Shared) (σ:St) (H:Hp) (x:V) (xs:List V) (v:Value) (us:List Value) (Q:VK),Inv X pins σ H s->RelV x v->Vals xs us->r x xs H Q->
  wpAny (model X.prog X.w) X.A (call (.builtin id) (v::us)) (EP X pins σ Q) X.xe s
variable {pins:AO} {σ:St} {H:Hp} {s:Shared} {ys:List V} {its its':List Value} {A:Around} {y:V} {u:Value}
section
variable {X:Cx} {a b:Expr} {ta tb:TE} {pos:Pos}
theorem zz.or {r r':R2} (h:zz X r) (h':zz X r'):zz X (fun x y H Q=>r x y H Q\/r' x y H Q):=by
 intro value slice pins s σ H x y v u Q I rx ry q hs
 rcases q with q|q
 . exact h value slice pins s σ H x y v u Q I rx ry q hs
 . exact h' value slice pins s σ H x y v u Q I rx ry q hs
inductive Q8 (K:Fg) (x:V) (y:V) (H:Hp) (Q:VK):Prop
 | mk  (p xs i v:_) (_:x = .ref p) (_:y = .int i) (_:aC K H p xs) (_:oU xs i=some v) (_:Q v H)
inductive Q9 (K:Fg) (x:V) (y:V) (H:Hp) (Q:VK):Prop
 | mk  (p xs i v:_) (_:x = .ref p) (_:y = .int i) (_:cS K H p xs) (_:oU xs i=some v) (_:Q v H)
inductive aa6 (x:V) (y:V) (H:Hp) (Q:VK):Prop
 | mk  (z i c:_) (_:x = .str z) (_:y = .int i) (_:z.length<=sizeLine) (_:oU z.cps.toList i=some c) (_:Q (.str ⟨#[c]⟩) H)
theorem O6:zz X (Q8 X.K):=by
 intro value slice pins s σ H x y v u Q I rx ry h hs
 obtain ⟨p,xs,i,z,rfl,rfl,hq,he,q⟩:=h
 cases rx
 obtain ⟨t,rfl⟩:=ry
 obtain ⟨its,r,pl,hz⟩:=I.list hq
 obtain ⟨j,h1,h2,h3,h4,h5⟩:=Bw he
 obtain ⟨w,ew,rw'⟩:=r.get h2
 have hl:=r.length
 have hn:=uH
 have fin:EP X pins σ Q w s:=⟨z,H,I,rw',q⟩
 by_cases h0:0<=i
 . have hj:i.toNat=j:=by
    rw [seqIndex_of h0 h5] at h1
    exact fY h1
   exact item_listR pl.isList h0 (by omega) (by rw [hj];simpa using ew) fin hs
 . have hj:(i+(its.toArray.size:Int)).toNat=j:=by
    rw [seqIndex_neg (by omega) h4] at h1
    rw [gK,<-hl]
    exact fY h1
   exact subscriptTail_builtinR (x:=w) pl.isList.typeIs slot_list_getitem.lookup
    (wpAny_getItem_list_neg (Q:=fun r s'=>r=w/\EP X pins σ Q r s') pl.isList (by omega) (by rw [gK] <;> omega) (by omega) (by rw [hj];simpa using ew) ⟨Z,fin⟩) hs
theorem S0:zz X (Q9 X.K):=by
 intro value slice pins s σ H x y v u Q I rx ry h hs
 obtain ⟨p,xs,i,z,rfl,rfl,hq,he,q⟩:=h
 cases rx
 obtain ⟨t,rfl⟩:=ry
 obtain ⟨its,r,pl,hz⟩:=I.tuple hq
 obtain ⟨j,h1,h2,h3,h4,h5⟩:=Bw he
 obtain ⟨w,ew,rw'⟩:=r.get h2
 have hl:=r.length
 have hn:=uH
 have fin:EP X pins σ Q w s:=⟨z,H,I,rw',q⟩
 exact subscriptTail_builtinR (x:=w) pl.typeIs slot_tuple_getitem.lookup
  (getItem_tuple (j:=j) (Q:=fun r s'=>r=w/\EP X pins σ Q r s') pl (by omega) (by omega) (by rw [gK,<-hl];exact h1) (by simpa using ew) ⟨Z,fin⟩) hs
theorem S3:zz X aa6:=by
 intro value slice pins s σ H x y v u Q I rx ry h hs
 obtain ⟨z,i,c,rfl,rfl,hz,he,q⟩:=h
 obtain ⟨t,rfl⟩:=rx
 obtain ⟨t',rfl⟩:=ry
 obtain ⟨j,h1,h2,h3,h4,h5⟩:=Bw he
 have hl:z.cps.toList.length=z.length:=by simp [Str.length]
 rw [hl] at h1 h4 h5
 have hn:=uH
 exact tail_any (typeIs_str s z t) slot_str_getitem.lookup (getItem_str (c:=c) (by
  have e1:decide (i < -(2 ^ 63:Int))=false:=d8 (by omega)
  have e2:decide (i≥2 ^ 63)=false:=d8 (by omega)
  rw [e1,e2,Bool.or_false]) (by rw [h1];simpa using h2) ⟨.str ⟨#[c]⟩,H,I.tok _,⟨_,Z⟩,q⟩) hs
def rIx (K:Fg):R2:=fun x y H Q=>Q8 K x y H Q\/Q9 K x y H Q\/aa6 x y H Q
theorem aa8:zz X (rIx X.K):=O6.or (S0.or S3)
theorem Q_ (its:List Value) (n j:Nat) (u:Value):Obj.mapSeq (·.setIfInBounds j u) { cls:= .type "list",data:= .seq its.toArray n }={ cls:= .type "list",data:= .seq (its.set j u).toArray n }:=by
 simp [Obj.mapSeq]
theorem Inv.lst {pins:AO} {σ:St} {H:Hp} {s:Shared} {p:Addr} {xs:List V} (I:Inv X pins σ H s) (h:H p=some (.lst xs)):
  ∃(its:List Value) (n:Nat),Vals xs its/\s.heap.get? p=some { cls:= .type "list",data:= .seq its.toArray n }/\xs.length<=sizeLine:=by
 obtain ⟨z,its,n,r,e⟩:=I.hok p _ h
 exact ⟨its,n,r,e,z⟩
theorem Inv.aa9 {p:Addr} {n':Nat} {f:Obj->Obj} (I:Inv X pins σ H s) (h:H p=some (.lst xs))
  (ho:s.heap.get? p=some { cls:= .type "list",data:= .seq its.toArray n }) (hf:f { cls:= .type "list",data:= .seq its.toArray n }={ cls:= .type "list",data:= .seq its'.toArray n' }) (r:Vals ys its') (hz:ys.length<=sizeLine) (t:Nat):
  Inv X pins σ (upd H p (.lst ys)) { s with heap:=s.heap.update p f,toks:=t }:=by
 have e:(s.heap.update p f).get? p=some { cls:= .type "list",data:= .seq its'.toArray n' }:=by
  rw [CN f ho (by rw [hf] <;> rfl),hf]
 refine I.write (x:=p) (e:=p) (by rw [h];trivial) (.inl rfl) (fun b u hb q=>(Kc _ _ (bU hb)).trans q) ⟨_,e⟩ ?_
 exact ⟨hz,its',n',r,e⟩
inductive ad_ (o:V) (i:V) (v:V) (H:Hp) (Q:Hp->Prop):Prop
 | mk  (p xs k j:_) (_:o = .ref p) (_:i = .int k) (_:H p=some (.lst xs)) (_:Cm xs.length k=some j) (_:Q (upd H p (.lst (xs.set j v))))
theorem set_list:VJ X ad_:=by
 intro pins s σ H o i v ov iv u Q I ro ri rv h
 obtain ⟨p,xs,k,j,rfl,rfl,hp,hj,q⟩:=h
 cases ro
 obtain ⟨t,rfl⟩:=ri
 obtain ⟨its,n,r,ho,hz⟩:=I.lst hp
 obtain ⟨h1,h2,h3,h4⟩:=O5 hj
 have hl:=r.length
 have hn:=uH
 have I':Inv X pins σ (upd H p (.lst (xs.set j v))) { s with heap:=s.heap.update p (Obj.mapSeq (·.setIfInBounds j u)) }:=
  I.aa9 hp ho (Q_ its n j u) (r.set rv j) (by rw [fq];exact hz) s.toks
 by_cases h0:0<=k
 . have hk:k.toNat=j:=by
    rw [seqIndex_of h0 h4] at h1
    exact fY h1
   exact PySem.W.ki_setAt ho h0 (by omega) (by rw [gK,<-hl];exact h4) (by rw [hk];exact ⟨_,I',q⟩)
 . have hk:(k+(its.toArray.size:Int)).toNat=j:=by
    rw [seqIndex_neg (by omega) h3] at h1
    rw [gK,<-hl]
    exact fY h1
   exact PySem.W.ki_setBack ho (by omega) (by rw [gK,<-hl];exact h3) (by omega) (by rw [hk];exact ⟨_,I',q⟩)
def rR:V->Bool
 | .b_=>true
 | .bl _=>true
 | .int _=>true
 | .str _=>true
 | _=>false
def zA:V->V->Bool
 | .b_, .b_=>true
 | .bl a, .bl b=>a==b
 | .bl a, .int b=>(if a then 1 else 0)==b
 | .int a, .bl b=>a==(if b then 1 else 0)
 | .int a, .int b=>a==b
 | .str a, .str b=>a==b
 | _,_=>false
theorem aa_ {x:V} {v:Value} (ry:RelV y u) (rx:RelV x v) (fy:rR y=true) (fx:rR x=true):SeqAt.EqAt A s u v (zA y x):=by
 cases y with
 | b_=>
   cases ry
   cases x with
   | b_=>cases rx;exact SeqAt.EqAt.same _
   | bl b=>cases rx;exact SeqAt.EqAt.none_bool b
   | int b=>obtain ⟨t,rfl⟩:=rx;exact SeqAt.EqAt.none_int b t
   | str b=>obtain ⟨t,rfl⟩:=rx;exact SeqAt.EqAt.none_str b t
   | _=>exact absurd (show false=true from fx) fM
 | bl a=>
   cases ry
   cases x with
   | b_=>cases rx;exact SeqAt.EqAt.bool_none a
   | bl b=>cases rx;exact SeqAt.EqAt.bool_bool a b
   | int b=>obtain ⟨t,rfl⟩:=rx;exact SeqAt.EqAt.bool_int a b t
   | str b=>obtain ⟨t,rfl⟩:=rx;exact SeqAt.EqAt.bool_str a b t
   | _=>exact absurd (show false=true from fx) fM
 | int a=>
   obtain ⟨t',rfl⟩:=ry
   cases x with
   | b_=>cases rx;exact SeqAt.EqAt.int_none a t'
   | bl b=>cases rx;exact SeqAt.EqAt.int_bool a t' b
   | int b=>obtain ⟨t,rfl⟩:=rx;exact SeqAt.EqAt.int_int a t' b t
   | str b=>obtain ⟨t,rfl⟩:=rx;exact SeqAt.EqAt.int_str a t' b t
   | _=>exact absurd (show false=true from fx) fM
 | str a=>
   obtain ⟨t',rfl⟩:=ry
   cases x with
   | b_=>cases rx;exact SeqAt.EqAt.str_none a t'
   | bl b=>cases rx;exact SeqAt.EqAt.str_bool a t' b
   | int b=>obtain ⟨t,rfl⟩:=rx;exact SeqAt.EqAt.str_int a t' b t
   | str b=>obtain ⟨t,rfl⟩:=rx;exact SeqAt.EqAt.str_str a t' b t
   | _=>exact absurd (show false=true from fx) fM
 | _=>exact absurd (show false=true from fy) fM
def uI (x:V) (u:Value):Bool:=match u with
 | .none=>zA .b_ x
 | .bool b=>zA (.bl b) x
 | .int i _=>zA (.int i) x
 | .str z _=>zA (.str z) x
 | _=>false
theorem S4 {x:V} (r:RelV y u) (f:rR y=true):uI x u=zA y x:=by
 cases y with
 | b_=>cases r;rfl
 | bl b=>cases r;rfl
 | int i=>obtain ⟨t,rfl⟩:=r;rfl
 | str z=>obtain ⟨t,rfl⟩:=r;rfl
 | _=>exact absurd (show false=true from f) fM
theorem xH {x:V}:∀{xs:List V} {us:List Value},Vals xs us->xs.all rR=true->us.any (uI x)=xs.any fun y=>zA y x
 | _,_, .nil,_=>rfl
 | y::xs,u::us, .cons r t,f=>by
   rw [List.all_cons,Bj] at f
   rw [DV,DV,S4 r f.1,xH t f.2]
theorem uJ {A:Around} {s:Shared} {x:V} {v:Value} (rx:RelV x v) (fx:rR x=true):∀{xs:List V} {us:List Value},Vals xs us->xs.all rR=true->∀u∈us,SeqAt.EqAt A s u v (uI x u)
 | _,_, .nil,_=>fun u hu=>by cases hu
 | y::xs,u::us, .cons r t,f=>fun u' hu=>by
   rw [List.all_cons,Bj] at f
   rcases c6.mp hu with rfl|hu
   . rw [S4 r f.1];exact aa_ r rx f.1 fx
   . exact uJ rx fx t f.2 u' hu
def Ed (x:V) (xs:List V):Bool:=xs.any fun y=>zA y x
inductive rIn (K:Fg) (neg:Bool) (x:V) (y:V) (H:Hp) (Q:VK):Prop
 | mk  (p xs:_) (_:y = .ref p) (_:(aC K H p xs\/cS K H p xs)) (_:rR x=true) (_:xs.all rR=true) (_:Q (.bl (if neg then !Ed x xs else Ed x xs)) H)
theorem S7:gY X (compareOp .In) (rIn X.K false):=by
 intro pins s σ H x y v u Q I rx ry h
 obtain ⟨p,xs,rfl,hq,fx,fs,q⟩:=h
 cases ry
 rcases hq with hq|hq
 . obtain ⟨its,r,pl,hz⟩:=I.list hq
   refine SeqAt.in_listAt (uI x) pl.isList (fun w hw=>uJ rx fx r fs w (by simpa using hw)) ⟨.bl _,H,I,Z,?_⟩
   rw [show its.toArray.any (uI x)=its.any (uI x) by simp,xH r fs]
   exact q
 . obtain ⟨its,r,pl,hz⟩:=I.tuple hq
   refine SeqAt.in_tupleAt (uI x) pl (fun w hw=>uJ rx fx r fs w (by simpa using hw)) ⟨.bl _,H,I,Z,?_⟩
   rw [show its.toArray.any (uI x)=its.any (uI x) by simp,xH r fs]
   exact q
theorem Ky:gY X (compareOp .NotIn) (rIn X.K true):=by
 intro pins s σ H x y v u Q I rx ry h
 obtain ⟨p,xs,rfl,hq,fx,fs,q⟩:=h
 cases ry
 rcases hq with hq|hq
 . obtain ⟨its,r,pl,hz⟩:=I.list hq
   refine SeqAt.notIn_listAt (uI x) pl.isList (fun w hw=>uJ rx fx r fs w (by simpa using hw)) ⟨.bl _,H,I,Z,?_⟩
   rw [show its.toArray.any (uI x)=its.any (uI x) by simp,xH r fs]
   exact q
 . obtain ⟨its,r,pl,hz⟩:=I.tuple hq
   refine SeqAt.notIn_tupleAt (uI x) pl (fun w hw=>uJ rx fx r fs w (by simpa using hw)) ⟨.bl _,H,I,Z,?_⟩
   rw [show its.toArray.any (uI x)=its.any (uI x) by simp,xH r fs]
   exact q
theorem Kz:gW X (.builtin "len") (fun xs H Q=>∃p ys,xs=[.ref p]/\(aC X.K H p ys\/cS X.K H p ys)/\Q (.int ys.length) H):=by
 intro pins s σ H xs us Q I r h
 obtain ⟨p,ys,rfl,hq,q⟩:=h
 obtain ⟨u,rfl,rx⟩:=vals1 r
 cases rx
 have hn:=uH
 rcases hq with hq|hq
 . obtain ⟨its,r',pl,hz⟩:=I.list hq
   have hlen:=r'.length
   exact Calls.call_len_list pl.isList (by simp only [gK] <;> omega) ⟨.int ys.length,H,I.tok _,⟨s.toks+1,by rw [gK,hlen]⟩,q⟩
 . obtain ⟨its,r',pl,hz⟩:=I.tuple hq
   have hlen:=r'.length
   exact len_tuple pl (by simp only [gK] <;> omega) ⟨.int ys.length,H,I.tok _,⟨s.toks+1,by rw [gK,hlen]⟩,q⟩
theorem KA:gW X (.builtin "len") (fun xs H Q=>∃z,xs=[.str z]/\z.length<=sizeLine/\Q (.int z.length) H):=by
 intro pins s σ H xs us Q I r h
 obtain ⟨z,rfl,hz,q⟩:=h
 obtain ⟨u,rfl,t,rfl⟩:=vals1 r
 have hn:=uH
 exact len_str (by omega) ⟨.int z.length,H,I.tok _,⟨_,Z⟩,q⟩
theorem KC:gW X (.type "list") (fun xs H Q=>∃p ys,xs=[.ref p]/\(aC X.K H p ys\/cS X.K H p ys)/\∀l,H l=none->Q (.ref l) (upd H l (.lst ys))):=by
 intro pins s σ H xs us Q I r h
 obtain ⟨p,ys,rfl,hq,q⟩:=h
 obtain ⟨u,rfl,rx⟩:=vals1 r
 cases rx
 have fin:∀(its:List Value),Vals ys its->ys.length<=sizeLine->∀(h':Heap) (c':Nat),(∀b o',s.heap.get? b=some o'->h'.get? b=some o')->
   h'.get? s.heap.objs.size=some { cls:= .type "list",dict:=none,data:= .seq its.toArray c',slots:=#[] }->EP X pins σ Q (.ref s.heap.objs.size) { s with heap:=h' }:=fun its r' hz h' c' kp e=>
  ⟨.ref s.heap.objs.size,_,I.laid (t':=s.toks) kp (aP _) (show dO X.prog X.w _ h' _ (.lst ys) from ⟨hz,its,c',r',e⟩),Z,q _ (I.hok.fresh (aP _))⟩
 rcases hq with hq|hq
 . obtain ⟨its,r',pl,hz⟩:=I.list hq
   have hlen:=r'.length
   obtain ⟨o,ho,hc,n,hd⟩:=pl.isList
   exact call_list_seq p (.inl rfl) ho hc hd (fun h' c' kp e=>fin its r' hz h' c' kp e) (by simp only [gK] <;> omega)
 . obtain ⟨its,r',pl,hz⟩:=I.tuple hq
   have hlen:=r'.length
   obtain ⟨o,ho,hc,n,hd⟩:=pl
   exact call_list_seq p (.inr rfl) ho hc hd (fun h' c' kp e=>fin its r' hz h' c' kp e) (by simp only [gK] <;> omega)
def tyV (K:Fg) (T:String) (x:V) (H:Hp):Prop:=match x with
 | .str _=>T = "str"
 | .int _=>T = "int"
 | .ref p=>(T = "list"/\∃xs,aC K H p xs)\/(T = "tuple"/\∃o,K.lookup p=some o/\o.cls = .type "tuple"/\o.dict=none)\/
     (T = "dict"/\((∃kvs,H p=some (.dK kvs))\/∃kvs,H p=some (.dT kvs)))\/(T = "set"/\∃S n,H p=some (.set S n))
 | _=>False
theorem aba {T:String} {x:V} {v:Value} (I:Inv X pins σ H s) (r:RelV x v) (ty:tyV X.K T x H):
  s.TypeIs v T/\∀a,v = .ref a->∃ob,s.heap.get? a=some ob/\ob.dict=none:=by
 cases x with
 | str z=>
   obtain ⟨t,rfl⟩:=r
   cases (show T = "str" from ty)
   exact ⟨typeIs_str s z t,fun _ e=>nomatch e⟩
 | int i=>
   obtain ⟨t,rfl⟩:=r
   cases (show T = "int" from ty)
   exact ⟨typeIs_int s i t,fun _ e=>nomatch e⟩
 | ref p=>
   cases r
   rcases ty with ⟨rfl,xs,hq⟩|⟨rfl,o,hk,hc,hd⟩|⟨rfl,hk⟩|⟨rfl,S,n,hk⟩
   . obtain ⟨its,_,pl,_⟩:=I.list hq
     refine ⟨pl.isList.typeIs,fun a e=>?_⟩
     cases e
     obtain ⟨o,n,e,c,hd,_⟩:=pl
     exact ⟨o,e,hd⟩
   . refine ⟨⟨o,I.iN p o hk,hc⟩,fun a e=>?_⟩
     cases e
     exact ⟨o,I.iN _ o hk,hd⟩
   . have z:∃o,s.heap.get? p=some o/\o.ExactDict:=by
      rcases hk with ⟨kvs,hk⟩|⟨kvs,hk⟩
      . obtain ⟨_,_,_,_,o,_,_,e,ex,_⟩:=I.hok p _ hk
        exact ⟨o,e,ex⟩
      . obtain ⟨_,_,_,_,o,_,_,e,ex,_⟩:=I.hok p _ hk
        exact ⟨o,e,ex⟩
     obtain ⟨o,e,ex⟩:=z
     refine ⟨⟨o,e,ex.1⟩,fun a e2=>?_⟩
     cases e2
     exact ⟨o,e,ex.2.1⟩
   . obtain ⟨o,_,_,_,e,ex,_⟩:=I.hok p _ hk
     refine ⟨⟨o,e,ex.1⟩,fun a e2=>?_⟩
     cases e2
     exact ⟨o,e,ex.2.1⟩
 | _=>exact False.elim ty
def abb (r:V->List V->Hp->VK->Prop) (Q:VK) (x:V):List V->Hp->Prop:=fun xs H2=>r x xs H2 Q
inductive ahv (K:Fg) (T:String) (r:V->List V->Hp->VK->Prop) (t:TA) (σ:St) (Q:VK) (x:V) (H1:Hp):Prop
 | mk  (_:tyV K T x H1) (_:t σ H1 (abb r Q x))
def tBM (K:Fg) (T:String) (r:V->List V->Hp->VK->Prop) (to:TE) (t:TA):TE:=fun σ H Q=>to σ H (ahv K T r t σ Q)
variable {o e:Expr} {es:List Expr} {to:TE} {t:TA} {name:Str} {apos cpos:Pos} {T id:String} {r:V->List V->Hp->VK->Prop}
end
def MtM (X:Cx) (id:String) (r:V->List V->Hp->VK->Prop):Prop:=
 ∀(pins:AO) (s:Shared) (σ:St) (H:Hp) (x:V) (xs:List V) (v:Value) (us:List Value) (Q:VK),Inv X pins σ H s->RelV x v->Vals xs us->r x xs H Q->
  wpAny (model X.prog X.w) X.A (call (.builtin id) (v::us)) (EP X pins σ Q) X.xe s
theorem Vals.one:∀{x:V} {us:List Value},Vals [x] us->∃u,us=[u]/\RelV x u
 | _,_, .cons r .nil=>⟨_,Z,r⟩
theorem Vals.reverse (h:Vals xs us):Vals xs.reverse us.reverse:=by
 induction h with
 | nil=>exact .nil
 | cons r t ih=>rw [List.reverse_cons,List.reverse_cons];exact Vals.append ih (.cons r .nil)
theorem Vals.rep {xs:List V} {us:List Value} (h:Vals xs us):∀k:Nat,Vals (List.replicate k xs).flatten (List.replicate k us).flatten
 | 0=> .nil
 | k+1=>by
   rw [CO,CO,QL,QL]
   exact Vals.append h (Vals.rep h k)
theorem foldl_rep (its:List Value):∀(k:Nat) (acc:List Value),
  List.foldl (fun x1 x2=>x1++x2) acc.toArray (List.replicate k its.toArray)=(acc++(List.replicate k its).flatten).toArray
 | 0,acc=>by simp
 | k+1,acc=>by
   have e:acc.toArray++its.toArray=(acc++its).toArray:=by simp
   have e2:(acc++its)++(List.replicate k its).flatten=acc++(List.replicate (k+1) its).flatten:=by
    rw [CO,QL,Kg]
   rw [<-e2,<-foldl_rep its k (acc++its),<-e,CO,mH]
variable {t':Nat}
section
variable {X:Cx} {pins:AO} {σ:St} {H:Hp} {s:Shared} {l b:Addr} {xs ys zs:List V}
theorem Inv.ahw {f:Array Value->Array Value} (I:Inv X pins σ H s) (hH:H l=some (.lst xs))
  (e:s.heap.get? l=some { cls:= .type "list",data:= .seq its.toArray n }) (hf:f its.toArray=its'.toArray) (hv:Vals ys its') (hz:ys.length<=sizeLine):
  Inv X pins σ (upd H l (.lst ys)) { s with heap:=s.heap.update l (Obj.mapSeq f),toks:=t' }:=by
 have q:=PySem.IsL.update e f
 rw [hf] at q
 refine I.write (x:=l) (e:=l) (by rw [hH];exact trivial) (.inl rfl) (fun b' u hb hu=>(Kc s.heap (Obj.mapSeq f) (bU hb)).trans hu) ⟨_,q⟩ ?_
 exact ⟨hz,its',_,hv,q⟩
theorem Inv.abc (I:Inv X pins σ H s) (hv:Vals ys its) (hz:ys.length<=sizeLine):
  Inv X pins σ (upd H s.heap.objs.size (.lst ys)) { s with heap:=s.heap.push { cls:= .type "list",data:= .seq its.toArray },toks:=t' }:=
 I.laid (fun _ _ q=>cA _ q) (aP _) ⟨hz,its,0,hv,dZ _ rfl⟩
theorem Inv.fresh (I:Inv X pins σ H s):H s.heap.objs.size=none:=I.hok.fresh (aP _)
theorem Inv.Ra (I:Inv X pins σ H s) (hH:H l=some (.lst xs)):xs.length<=sizeLine/\∃(its:List Value) (n:Nat),Vals xs its/\xs.length=its.length/\s.heap.get? l=some { cls:= .type "list",data:= .seq its.toArray n }:=by
 obtain ⟨z,its,n,r,e⟩:=I.hok l _ hH
 exact ⟨z,its,n,r,r.length,e⟩
theorem V5 (h:n<=sizeLine):Builtin.List.listTooLong n=false:=by
 unfold Builtin.List.listTooLong
 exact d8 (by omega)
end
section
variable {X:Cx}
inductive YU (x:V) (vs:List V) (H:Hp) (Q:VK):Prop
 | mk  (l xs y:_) (_:x = .ref l) (_:vs=[y]) (_:H l=some (.lst xs)) (_:xs.length<sizeLine) (_:Q .b_ (upd H l (.lst (xs++[y]))))
theorem gZ:MtM X "list.append" YU:=by
 intro pins s σ H x vs v us Q I rx rv h
 obtain ⟨l,xs,y,rfl,rfl,hH,hz,q⟩:=h
 cases rx
 obtain ⟨u,rfl,ru⟩:=rv.one
 obtain ⟨z,its,n,r,hl,e⟩:=I.Ra hH
 refine call_meets F.slot_list_append ⟨_,e,Z⟩ F.entry_list_append (F.args_list_append_2 _ _) (PySem.list_append l its.toArray n u (by rw [gK];omega)) ⟨e,?_⟩
 refine ⟨.b_,_,I.ahw (its':=its++[u]) hH e (by simp) (r.append (.cons ru .nil)) ?_,Z,q⟩
 rw [dh,List.length_singleton]
 omega
inductive V6 (x:V) (y:V) (H:Hp) (Q:VK):Prop
 | mk  (l b xs zs:_) (_:x = .ref l) (_:y = .ref b) (_:H l=some (.lst xs)) (_:H b=some (.lst zs)) (_:xs.length+zs.length<=sizeLine) (_:∀p,H p=none->Q (.ref p) (upd H p (.lst (xs++zs))))
theorem nt:gY X (binaryOp .Add) V6:=by
 intro pins s σ H x y v u Q I rx ry h
 obtain ⟨l,b,xs,zs,rfl,rfl,hH,hB,hz,q⟩:=h
 cases rx
 cases ry
 obtain ⟨z,its,n,r,hl,e⟩:=I.Ra hH
 obtain ⟨z2,its2,n2,r2,hl2,e2⟩:=I.Ra hB
 refine PySem.P.add_list e e2 ?_ (by rw [gK,gK];omega)
 have ea:its.toArray++its2.toArray=(its++its2).toArray:=by simp
 rw [ea]
 exact ⟨.ref _,_,I.abc (t':=s.toks) (r.append r2) (by rw [dh];omega),Z,q _ I.fresh⟩
inductive ahx (x:V) (y:V) (H:Hp) (Q:VK):Prop
 | mk  (l k xs:_) (_:x = .ref l) (_:y = .int k) (_:H l=some (.lst xs)) (_:-(2 ^ 63)<=k) (_:k<2 ^ 63) (_:xs.length*k.toNat<=sizeLine) (_:∀p,H p=none->Q (.ref p) (upd H p (.lst (List.replicate k.toNat xs).flatten)))
theorem len_rep {α:Type} (xs:List α) (k:Nat):(List.replicate k xs).flatten.length=k*xs.length:=by
 induction k with
 | zero=>simp
 | succ k ih=>rw [CO,QL,dh,ih,Nat.succ_mul,Nat.add_comm]
theorem abd:gY X (binaryOp .Mult) ahx:=by
 intro pins s σ H x y v u Q I rx ry h
 obtain ⟨l,k,xs,rfl,rfl,hH,h1,h2,hz,q⟩:=h
 cases rx
 obtain ⟨t,rfl⟩:=ry
 obtain ⟨z,its,n,r,hl,e⟩:=I.Ra hH
 have hlen:its.toArray.size*k.toNat<=sizeLine:=by rw [gK,<-hl];exact hz
 have hcap:¬ its.toArray.size*k.toNat>(2 ^ 63-1) / 8:=by
  have:(sizeLine:Nat)<=(2 ^ 63-1) / 8:=by decide
  omega
 have hfit:¬ (!Builtin.List.listFitsIndex k)=true:=by
  rw [fitsIndex_both h1 h2]
  exact fM
 have aea:¬ Builtin.List.listTooLong (its.toArray.size*k.toNat)=true:=by
  rw [V5 hlen]
  exact fM
 have hnew:List.foldl (fun x1 x2=>x1++x2) #[] (List.replicate (if its.toArray.isEmpty=true then 0 else k.toNat) its.toArray)=(List.replicate k.toNat its).flatten.toArray:=by
  have f0:∀m:Nat,List.foldl (fun x1 x2=>x1++x2) #[] (List.replicate m its.toArray)=(List.replicate m its).flatten.toArray:=fun m=>by
   have:=foldl_rep its m []
   rw [JU] at this
   exact this
  rw [f0]
  cases its with
  | nil=>simp
  | cons a r'=>rw [az (by simp)]
 refine wpAny_binaryOp_repeat_ref (T:="list") (U:="int") (by decide) ⟨_,e,Z⟩ (fun s'=>typeIs_int s' k t) noFill_list_mul F.fills_int_mul F.slot_int_rmul repeat_list F.slot_int_index.lookup
  (call_meets F.slot_int_rmul (typeIs_int s k t) F.entry_int_rmul (F.args_int_rmul_2 _ _) (int___rmul___int_list k t l its.toArray n)
    ⟨e,Z,⟨_,e,Z⟩,call_meets F.slot_list_mul ⟨_,e,Z⟩ F.entry_list_mul (F.args_list_mul_2 _ _) (AutoListH.list___mul___list_int_3 l its.toArray n k t hfit hcap aea) ⟨e,?_⟩⟩)
 rw [hnew]
 exact ⟨.ref _,_,I.abc (t':=s.toks) (r.rep k.toNat) (by rw [len_rep,Nat.mul_comm];exact hz),Z,q _ I.fresh⟩
end
section
variable {prog:Program} {w:World} {A:Around} {E:VS} {s:Shared}
set_option maxRecDepth 100000 in
end
section
variable {X:Cx}
end
section
variable {κ:Type} [DecidableEq κ]
def ee (kvs:List (κ×V)) (k:κ):Option V:=(kvs.find? fun kv=>decide (kv.1=k)).map (·.2)
def putK (kvs:List (κ×V)) (k:κ) (v:V):List (κ×V):=
 if (kvs.any fun kv=>decide (kv.1=k))=true then kvs.map (fun kv=>if kv.1=k then (kv.1,v) else kv) else kvs++[(k,v)]
def nM (kvs:List (κ×V)) (k:κ):List (κ×V):=kvs.filter fun kv=>decide (kv.1≠k)
theorem gM {p:κ×V} {r:List (κ×V)} {k:κ} (e:p.1=k):ee (p::r) k=some p.2:=by simp [ee,pH,e]
theorem eY {p:κ×V} {r:List (κ×V)} {k:κ} (e:¬ p.1=k):ee (p::r) k=ee r k:=by simp [ee,pH,e]
theorem qS (k:κ):∀kvs:List (κ×V),(kvs.any fun kv=>decide (kv.1=k))=(ee kvs k).isSome
 | []=>rfl
 | p::r=>by
   rw [DV]
   by_cases e:p.1=k
   . simp only [gM e,cy e,Bool.true_or,Option.isSome_some]
   . rw [eY e,d8 e,Bool.false_or];exact qS k r
theorem KD (k j:κ) (y:V):∀kvs:List (κ×V),ee (kvs.map fun kv=>if kv.1=k then (kv.1,y) else kv) j=(ee kvs j).map fun x=>if j=k then y else x
 | []=>rfl
 | p::r=>by
   have ih:=KD k j y r
   rw [bH]
   by_cases h:p.1=k
   . rw [aA h]
     by_cases e:p.1=j
     . rw [gM (p:=(p.1,y)) e,gM e,JV,aA (e.symm.trans h)]
     . rw [eY (p:=(p.1,y)) e,eY e,ih]
   . rw [az h]
     by_cases e:p.1=j
     . rw [gM (p:=p) e,gM e,JV,az (fun z=>h (e.trans z))]
     . rw [eY (p:=p) e,eY e,ih]
theorem HW (k j:κ) (y:V):∀kvs:List (κ×V),ee kvs k=none->ee (kvs++[(k,y)]) j=if j=k then some y else ee kvs j
 | [],_=>by
   by_cases e:k=j
   . rw [aA e.symm];exact gM (p:=(k,y)) e
   . rw [az (fun z=>e z.symm)];exact eY (p:=(k,y)) e
 | p::r,hn=>by
   rw [JT]
   have hk:¬ p.1=k:=fun z=>by rw [gM z] at hn;cases hn
   rw [eY hk] at hn
   have ih:=HW k j y r hn
   by_cases e:p.1=j
   . rw [gM e,gM e,az (fun z=>hk (e.trans z))]
   . rw [eY e,eY e,ih]
theorem V7 (kvs:List (κ×V)) (k j:κ) (y:V):ee (putK kvs k y) j=if j=k then some y else ee kvs j:=by
 unfold putK
 by_cases a:(kvs.any fun kv=>decide (kv.1=k))=true
 . rw [aA a,KD]
   rw [qS] at a
   by_cases e:j=k
   . obtain ⟨x,hx⟩:=Option.isSome_iff_exists.mp a
     rw [aA e,e,hx,JV,aA rfl]
   . rw [az e]
     cases ee kvs j with
     | none=>rfl
     | some x=>rw [JV,az e]
 . rw [az a]
   refine HW k j y kvs ?_
   rw [qS] at a
   cases q:ee kvs k with
   | none=>rfl
   | some x=>rw [q] at a;exact (a rfl).elim
theorem wQ (kvs:List (κ×V)) (k:κ) (v:V):(putK kvs k v).length<=kvs.length+1:=by
 unfold putK
 split
 . rw [aE];omega
 . rw [dh,mX,List.length_nil];omega
theorem oj {kvs:List (κ×V)} {k:κ} (v:V) (h:ee kvs k=none):putK kvs k v=kvs++[(k,v)] :=by
 unfold putK
 rw [qS,h]
 exact az (by decide)
theorem mY.oV {o:Option V} {u:Option Value} (r:mY o u):o.isSome=u.isSome:=by
 cases o with
 | none=>cases u with
   | none=>rfl
   | some _=>exact (show False from r).elim
 | some _=>cases u with
   | none=>exact (show False from r).elim
   | some _=>rfl
theorem KV.val {kvs:List (κ×V)} {vs:List (κ×Value)} (r:KV kvs vs) (k:κ):mY (ee kvs k) (valueAt vs k):=by
 unfold KV at r
 induction r with
 | nil=>exact True.intro
 | @cons p q ps qs h t ih=>
   obtain ⟨h1,h2⟩:=h
   by_cases e:p.1=k
   . have e':q.1=k:=h1.symm.trans e
     have b:valueAt (q::qs) k=some q.2:=by simp [valueAt,pH,e']
     rw [gM e,b];exact h2
   . have e':¬ q.1=k:=fun z=>e (h1.trans z)
     have b:valueAt (q::qs) k=valueAt qs k:=by simp [valueAt,pH,e']
     rw [eY e,b];exact ih
theorem KV.any {kvs:List (κ×V)} {vs:List (κ×Value)} (r:KV kvs vs) (k:κ):(kvs.any fun kv=>decide (kv.1=k))=vs.any fun kv=>decide (kv.1=k):=by
 unfold KV at r
 induction r with
 | nil=>rfl
 | cons h t ih=>rw [DV,DV,ih,h.1]
theorem KV.repl {kvs:List (κ×V)} {vs:List (κ×Value)} (r:KV kvs vs) (k:κ) (ry:RelV y u):
  KV (kvs.map fun kv=>if kv.1=k then (kv.1,y) else kv) (vs.map fun kv=>if kv.1=k then (kv.1,u) else kv):=by
 unfold KV at r ⊢
 induction r with
 | nil=>exact .nil
 | @cons p q ps qs h t ih=>
   rw [bH,bH]
   refine .cons ?_ ih
   obtain ⟨h1,h2⟩:=h
   by_cases e:p.1=k
   . rw [aA e,aA (h1.symm.trans e)];exact ⟨h1,ry⟩
   . rw [az e,az (fun z=>e (h1.trans z))];exact ⟨h1,h2⟩
theorem KV.put {kvs:List (κ×V)} {vs:List (κ×Value)} (r:KV kvs vs) (k:κ) (ry:RelV y u):KV (putK kvs k y) (stored vs k u):=by
 unfold putK stored
 rw [r.any k]
 by_cases e:(vs.any fun kv=>decide (kv.1=k))=true
 . rw [aA e,aA e];exact r.repl k ry
 . rw [az e,az e];exact Paired.snoc r ⟨Z,ry⟩
theorem KV.drop {kvs:List (κ×V)} {vs:List (κ×Value)} (r:KV kvs vs) (k:κ):KV (nM kvs k) (without vs k):=by
 unfold KV at r ⊢
 unfold nM without
 induction r with
 | nil=>exact .nil
 | @cons p q ps qs h t ih=>
   obtain ⟨h1,h2⟩:=h
   rw [iC,iC]
   by_cases e:p.1=k
   . have a:¬ decide (p.1≠k)=true:=by simp [e]
     have b:¬ decide (q.1≠k)=true:=by simp [h1.symm.trans e]
     rw [az a,az b];exact ih
   . have e':¬ q.1=k:=fun z=>e (h1.trans z)
     have a:decide (p.1≠k)=true:=by simp [e]
     have b:decide (q.1≠k)=true:=by simp [e']
     rw [aA a,aA b];exact .cons ⟨h1,h2⟩ ih
theorem KV.length {kvs:List (κ×V)} {vs:List (κ×Value)} (r:KV kvs vs):kvs.length=vs.length:=Paired.length r
theorem V8 (kvs:List (κ×V)) (k:κ):(nM kvs k).length<=kvs.length:=List.length_filter_le _ _
end
variable {P:Program}
theorem yv {w:World} {k:Key} (r:RelV (kV k) u):(cZ P w).is k u=true:=by
 cases k with
 | inl i=>obtain ⟨t,e⟩:=(show ∃t,u=Value.int i t from r);subst e;exact NB P w i t
 | inr x=>obtain ⟨t,e⟩:=(show ∃t,u=Value.str x t from r);subst e;exact NC P w x t
theorem HX {P:Program} {w:World}:∀{ks:List Key} {us:List Value},Vals (ks.map kV) us->ItemsAre (cZ P w) ks us
 | [],_,r=>by rw [List.map_nil] at r;cases r;exact .nil
 | k::ks,_,r=>by
   rw [bH] at r
   cases r with
   | cons h t=>exact .cons (yv h) (HX t)
abbrev KT (H:Hp):List (List Key×V)->List (List Key×Addr×Value)->Prop:=Paired fun p q=>p.1=q.1/\H q.2.1=some (.tup (p.1.map kV))/\RelV p.2 q.2.2
theorem KT.val {kvs:List (List Key×V)} {xs:List (List Key×Addr×Value)} (r:KT H kvs xs) (k:List Key):mY (ee kvs k) ((atKey xs k).map (·.2)):=by
 induction r with
 | nil=>exact True.intro
 | @cons p q ps qs h t ih=>
   obtain ⟨h1,_,h2⟩:=h
   by_cases e:p.1=k
   . have e':q.1=k:=h1.symm.trans e
     have b:atKey (q::qs) k=some q.2:=by simp [atKey,pH,e']
     rw [gM e,b];exact h2
   . have e':¬ q.1=k:=fun z=>e (h1.trans z)
     have b:atKey (q::qs) k=atKey qs k:=by simp [atKey,pH,e']
     rw [eY e,b];exact ih
theorem KT.repl {kvs:List (List Key×V)} {xs:List (List Key×Addr×Value)} (r:KT H kvs xs) (k:List Key) (ry:RelV y u):
  KT H (kvs.map fun kv=>if kv.1=k then (kv.1,y) else kv) (xs.map (putAt k u)):=by
 induction r with
 | nil=>exact .nil
 | @cons p q ps qs h t ih=>
   rw [bH,bH]
   refine .cons ?_ ih
   obtain ⟨h1,h2,h3⟩:=h
   unfold putAt
   by_cases e:p.1=k
   . rw [aA e,aA (h1.symm.trans e)];exact ⟨h1,h2,ry⟩
   . rw [az e,az (fun z=>e (h1.trans z))];exact ⟨h1,h2,h3⟩
theorem KT.put {kvs:List (List Key×V)} {xs:List (List Key×Addr×Value)} (r:KT H kvs xs) (k:List Key) {b:Addr} (hb:H b=some (.tup (k.map kV))) (ry:RelV y u):
  KT H (putK kvs k y) (storedH xs k b u):=by
 have e:(kvs.any fun kv=>decide (kv.1=k))=(atKey xs k).isSome:=by
  rw [qS,(r.val k).oV,Option.isSome_map]
 unfold putK storedH
 rw [e]
 by_cases q:(atKey xs k).isSome=true
 . rw [aA q,aA q];exact r.repl k ry
 . rw [az q,az q];exact Paired.snoc r ⟨Z,hb,ry⟩
variable {H':Hp}
theorem KT.keeps {kvs:List (List Key×V)} {xs:List (List Key×Addr×Value)} (r:KT H kvs xs) (ht:∀b ys,H b=some (.tup ys)->H' b=some (.tup ys)):KT H' kvs xs:=
 Paired.VG r fun _ _ z=>⟨z.1,ht _ _ z.2.1,z.2.2⟩
variable {kvs:List (Key×V)}
section
variable {P:Program} {w:World} {H:Hp} {h:Heap} {a:Addr}
theorem XF {u:HO} (ok:gQ P w H h) (e:Rd H a u):dO P w H h a u:=e.ok ok
theorem rS (ok:gQ P w H h) (e:Rd H a (.dK kvs)):kvs.length<=sizeLine/\(a==sysModules)=false/\∃vs,KV kvs vs/\h.DictOf (cZ P w) a vs:=
 show dO P w H h a (.dK kvs) from XF ok e
theorem Ef (ok:gQ P w H h) (e:H a=some (.dK kvs)):kvs.length<=sizeLine/\(a==sysModules)=false/\∃vs,KV kvs vs/\h.DictOf (cZ P w) a vs:=rS ok (.inl e)
theorem Ab {ks:List Key} (ok:gQ P w H h) (e:H a=some (.tup (ks.map kV))):(tupleKind (cZ P w)).is h ks a:=by
 obtain ⟨_,its,r,o,h1,h2,n,h3⟩:=(show dO P w H h a (.tup (ks.map kV)) from ok a _ e)
 exact ⟨o,its.toArray,n,h1,h2,h3,by simpa using HX r⟩
theorem By {kvs:List (List Key×V)} (ok:gQ P w H h) (e:Rd H a (.dT kvs)):kvs.length<=sizeLine/\(a==sysModules)=false/\
  ∃xs,KT H kvs xs/\h.DictOfH (tupleKind (cZ P w)) a xs:=by
 obtain ⟨z,y,xs,r,o,es,ep,h1,h2,h3,h4,h5⟩:=(show dO P w H h a (.dT kvs) from XF ok e)
 refine ⟨z,y,xs,r,o,es,ep,h1,h2,h3,h4,fun x hx=>?_,h5⟩
 have all:∀{l:List (List Key×V)} {m:List (List Key×Addr×Value)},KT H l m->∀x∈m,(tupleKind (cZ P w)).is h x.1 x.2.1:=by
  intro l m q
  induction q with
  | nil=>intro x hx;exact nomatch hx
  | @cons p q ps qs hq t ih=>
    intro x hx
    rcases c6.mp hx with e|hx
    . subst e
      exact Ab ok (by rw [<-hq.1];exact hq.2.1)
    . exact ih x hx
 exact all r x hx
theorem aeb {kvs:List (List Key×V)} (ok:gQ P w H h) (e:H a=some (.dT kvs)):kvs.length<=sizeLine/\(a==sysModules)=false/\
  ∃xs,KT H kvs xs/\h.DictOfH (tupleKind (cZ P w)) a xs:=By ok (.inl e)
end
def cN (H:Hp) (a:Addr) (y:V) (r:Option V):Prop:=
 (∃kvs k,Rd H a (.dK kvs)/\y=kV k/\r=ee kvs k)\/∃kvs k b,Rd H a (.dT kvs)/\y = .ref b/\H b=some (.tup (k.map kV))/\r=ee kvs k
def sZ (H:Hp) (a:Addr) (y v:V) (H':Hp):Prop:=
 (∃kvs k,H a=some (.dK kvs)/\y=kV k/\kvs.length<sizeLine/\H'=upd H a (.dK (putK kvs k v)))\/
 ∃kvs k b,H a=some (.dT kvs)/\y = .ref b/\H b=some (.tup (k.map kV))/\kvs.length<sizeLine/\H'=upd H a (.dT (putK kvs k v))
variable {a:Addr}
theorem cN.k {k:Key} (e:H a=some (.dK kvs)):cN H a (kV k) (ee kvs k):= .inl ⟨kvs,k, .inl e,Z,Z⟩
theorem sZ.k {k:Key} {v:V} (e:H a=some (.dK kvs)) (hl:kvs.length<sizeLine):sZ H a (kV k) v (upd H a (.dK (putK kvs k v))):= .inl ⟨kvs,k,e,Z,hl,Z⟩
variable {h':Heap} {Q:Unit->Shared->Prop}
section
variable {X:Cx} {pins:AO} {σ:St} {H:Hp} {s:Shared} {a:Addr} {y v:V} {u r:Value} {o:Option V} {A:Around} {E:VS}
theorem Inv.big (I:Inv X pins σ H s):sysModules<s.heap.objs.size:=by
 have h:mainGlobals<s.heap.objs.size:=(I.mod.glob.keeps I.bk).lt
 exact Nat.lt_trans (by decide) h
theorem S9 {Q:VS} (hu:A.units+1<cLine) (I:Inv X pins σ H s) (g:cN H a y (some v)) (ry:RelV y u) (h:∀w' s',Inv X pins σ H s'->RelV v w'->Q w' s'):
  wpAny (model X.prog X.w) A (getItem (.ref a) u) Q E s:=by
 rcases g with ⟨kvs,k,e,ey,l⟩|⟨kvs,k,b,e,ey,eb,l⟩
 . subst ey
   obtain ⟨z,hd,vs,rel,dd⟩:=rS I.hok e
   obtain ⟨w',hw,rw'⟩:=mY.some_of (v:=v) (o:=valueAt vs k) (by rw [l];exact rel.val k)
   exact wpAny_getItem_of (yv ry) dd.mapOf hw (h w' _ (I.tok _) rw')
 . subst ey
   cases (show u=Value.ref b from ry)
   obtain ⟨z,hd,xs,rel,dd⟩:=By I.hok e
   obtain ⟨w',hw,rw'⟩:=mY.some_of (v:=v) (o:=(atKey xs k).map (·.2)) (by rw [l];exact rel.val k)
   obtain ⟨p,hp,hp2⟩:=lR.mp hw
   refine wpAny_getItem_heap (QH hu) (Ab I.hok eb) dd hp ?_
   rw [hp2]
   exact h w' _ (I.tok _) rw'
theorem ahy {Q:VS} (hu:A.units+1<cLine) (I:Inv X pins σ H s) (g:cN H a y o) (ry:RelV y u) (h:∀s',Inv X pins σ H s'->Q (.bool o.isSome) s'):
  wpAny (model X.prog X.w) A (compareOp .In u (.ref a)) Q E s:=by
 rcases g with ⟨kvs,k,e,ey,l⟩|⟨kvs,k,b,e,ey,eb,l⟩
 . subst ey
   obtain ⟨z,hd,vs,rel,dd⟩:=rS I.hok e
   refine wpAny_in_of (yv ry) hd dd.mapOf ?_
   rw [<-(rel.val k).oV,<-l]
   exact h _ (I.tok _)
 . subst ey
   cases (show u=Value.ref b from ry)
   obtain ⟨z,hd,xs,rel,dd⟩:=By I.hok e
   refine wpAny_in_heap (QH hu) (Ab I.hok eb) hd dd ?_
   have q:=(rel.val k).oV
   rw [Option.isSome_map] at q
   rw [<-q,<-l]
   exact h _ (I.tok _)
theorem YV {Q:VS} (hu:A.units+1<cLine) (I:Inv X pins σ H s) (g:cN H a y o) (ry:RelV y u) (h:∀s',Inv X pins σ H s'->Q (.bool (!o.isSome)) s'):
  wpAny (model X.prog X.w) A (compareOp .NotIn u (.ref a)) Q E s:=by
 rcases g with ⟨kvs,k,e,ey,l⟩|⟨kvs,k,b,e,ey,eb,l⟩
 . subst ey
   obtain ⟨z,hd,vs,rel,dd⟩:=rS I.hok e
   refine wpAny_notIn_of (yv ry) hd dd.mapOf ?_
   rw [<-(rel.val k).oV,<-l]
   exact h _ (I.tok _)
 . subst ey
   cases (show u=Value.ref b from ry)
   obtain ⟨z,hd,xs,rel,dd⟩:=By I.hok e
   refine wpAny_notIn_heap (QH hu) (Ab I.hok eb) hd dd ?_
   have q:=(rel.val k).oV
   rw [Option.isSome_map] at q
   rw [<-q,<-l]
   exact h _ (I.tok _)
theorem BC (I:Inv X pins σ H s) (mu:Ss (H a)) (hs:Heap.SameBut a s.heap h') (he:∃q,h'.get? a=some q) (new:dO X.prog X.w (upd H a ob) h' a ob):
  Inv X pins σ (upd H a ob) { s with heap:=h',toks:=t' }:=
 I.write (x:=a) (e:=a) mu (.inl rfl) (fun b q hb z=>(hs.2 b hb).trans z) he new
theorem KG {w:World} {vs:List (Key×Value)} (z:kvs.length<=sizeLine) (hd:(a==sysModules)=false) (rel:KV kvs vs) (dd:h'.DictOf (cZ P w) a vs):
  dO P w H' h' a (.dK kvs):=⟨z,hd,vs,rel,dd⟩
theorem S_ (hu:A.units+1<cLine) (I:Inv X pins σ H s) (g:sZ H a y v H') (ry:RelV y u) (rv:RelV v r) (h:∀s',Inv X pins σ H' s'->Q () s'):
  wpAny (model X.prog X.w) A (setItem (.ref a) u r) Q E s:=by
 rcases g with ⟨kvs,k,e,ey,l,eH⟩|⟨kvs,k,b,e,ey,eb,l,eH⟩
 . subst ey eH
   obtain ⟨z,hd,vs,rel,dd⟩:=Ef I.hok e
   have hz:vs.length<=sizeLine:=by rw [<-rel.length];exact z
   have hl:(putK kvs k v).length<=sizeLine:=by have:=wQ kvs k v;omega
   refine wpAny_setItem_pairs (hsz:=hz) (yv ry) dd fun h' Co hs=>h _ ?_
   have he:∃q,h'.get? a=some q:=let ⟨q,_,_,hq,_⟩:=Co;⟨q,hq⟩
   exact BC I (by rw [e];exact True.intro) hs he (KG hl hd (rel.put k rv) Co)
 . subst ey eH
   cases (show u=Value.ref b from ry)
   obtain ⟨z,hd,xs,rel,dd⟩:=aeb I.hok e
   have hz:xs.length<=sizeLine:=by rw [<-Paired.length rel];exact z
   have hl:(putK kvs k v).length<=sizeLine:=by have:=wQ kvs k v;omega
   refine wpAny_setItem_heap (hsz:=hz) (QH hu) (Ab I.hok eb) dd fun h' Co hs=>h _ ?_
   obtain ⟨q,es,ep,hq,h2,h3,h4,_,h5⟩:=Co
   refine BC I (by rw [e];exact True.intro) hs ⟨q,hq⟩ ⟨hl,hd,_,(rel.put k eb rv).keeps fun c ys ec=>?_,q,es,ep,hq,h2,h3,h4,h5⟩
   rw [av (iX ec e (fun z=>nomatch z))]
   exact ec
end
section
variable {X:Cx} {pins:AO} {σ:St} {H:Hp} {s:Shared} {a:Addr} {kvs:List (Key×V)} {k:Key} {u:Value} {A:Around} {E:VS}
theorem Tc (I:Inv X pins σ H s) (e:H a=some (.dK kvs)) (ry:RelV (kV k) u) (l:(ee kvs k).isSome=true) (h:∀s',Inv X pins σ (upd H a (.dK (nM kvs k))) s'->Q () s'):
  wpAny (model X.prog X.w) A (delItem (.ref a) u) Q E s:=by
 obtain ⟨z,hd,vs,rel,dd⟩:=Ef I.hok e
 refine wpAny_delItem_slot dd.typeIs (by decide) PySem.F.slot_dict_delitem
  (call_meetsIn PySem.F.slot_dict_delitem dd.typeIs PySem.F.entry_dict_delitem (PySem.F.args_dict_delitem_2 _ _) (meets_dict_delitem_pairs (cZ X.prog X.w) a (yv ry)) ⟨vs,dd,by rw [<-rel.length];exact z,by rw [<-(rel.val k).oV];exact l,fun h' Co hs=>h _ ?_⟩)
 have he:∃q,h'.get? a=some q:=let ⟨q,_,_,hq,_⟩:=Co;⟨q,hq⟩
 exact BC I (by rw [e];exact True.intro) hs he (KG (fu (V8 kvs k) z) hd (rel.drop k) Co)
theorem aec {Q:VS} (I:Inv X pins σ H s) (e:Rd H a (.dK kvs)) (h:∀t s',Inv X pins σ H s'->Q (.int kvs.length t) s'):wpAny (model X.prog X.w) A (call (.builtin "len") [.ref a]) Q E s:=by
 obtain ⟨z,hd,vs,rel,dd⟩:=rS I.hok e
 refine call_len_dict hd dd (by rw [<-rel.length];rw [fB] at z;omega) ?_
 rw [<-rel.length]
 exact h _ _ (I.tok _)
end
def abe (i:Expr):Prop:=∀ov iv,subscripted i false ov iv=operate [ov,iv] (getItem ov iv)
variable {E:VS} {env:Env} {value:Expr} {pos:Pos}
theorem YW {prog:Program} {w:World} {slice:Expr} {T id:String} {Q:VS}
  (hl:typeLookup (.type T) "__getitem__"=pure (some (.builtin id))) (hs:abe slice)
  (h:wpAny (model prog w) A (eval value env) (fun o s₁=>wpAny (model prog w) A (eval slice env) (fun i s₂=>s₂.TypeIs o T/\wpAny (model prog w) A (getItem o i) Q E s₂) E s₁) E s):
  wpAny (model prog w) A (eval (.Subscript value slice pos) env) Q E s:=by
 refine Subscript_ (gT h (fun o s₁ h₁=>gT h₁ (fun i s₂ h₂=>?_) fun _ _ x=>x) fun _ _ x=>x)
 obtain ⟨hT,h₂⟩:=h₂
 unfold subscriptTail
 refine aq ?_
 rw [getitemInPython_of_ne hT.not_modules]
 refine aq (wpAny_specialOf hT hl ?_)
 have fin:wpAny (model prog w) A (subscripted slice false o i) (fun r s₃=>wpAny (model prog w) A (letTemporaryGo value o r >>= fun _=>pure r) Q E s₃) E s₂:=by
  rw [hs o i]
  exact wpAny_operating (gT h₂ (fun r s₃ h₃=>aq (wpAny_letTemporaryGo (aL h₃))) fun _ _ x=>x)
 first
  | exact aL (aq fin)
  | exact aq (aL (aq fin))
  | exact aq fin
variable {X:Cx}
theorem NF {o:Option V} (I:Inv X pins σ H s) (g:cN H a y o):s.TypeIs (.ref a) "dict":=by
 rcases g with ⟨kvs,k,e,_,_⟩|⟨kvs,k,b,e,_,_,_⟩
 . obtain ⟨_,_,vs,_,dd⟩:=rS I.hok e
   exact dd.typeIs
 . obtain ⟨_,_,xs,_,dd⟩:=By I.hok e
   exact dd.typeIs
inductive V9 (Q:VK) (x:V) (y:V) (H2:Hp):Prop
 | mk  (a v:_) (_:x = .ref a) (_:cN H2 a y (some v)) (_:Q v H2)
def abf (ty:TE) (σ:St) (Q:VK):V->Hp->Prop:=fun x H1=>ty σ H1 (V9 Q x)
def aed (td ty:TE):TE:=fun σ H Q=>td σ H (abf ty σ Q)
inductive YX (Q:VK) (y:V) (x:V) (H2:Hp):Prop
 | mk  (a o:_) (_:x = .ref a) (_:cN H2 a y o) (_:Q (.bl o.isSome) H2)
def aee (td:TE) (σ:St) (Q:VK):V->Hp->Prop:=fun y H1=>td σ H1 (YX Q y)
def ahz (ty td:TE):TE:=fun σ H Q=>ty σ H (aee td σ Q)
inductive Rb (Q:VK) (y:V) (x:V) (H2:Hp):Prop
 | mk  (a o:_) (_:x = .ref a) (_:cN H2 a y o) (_:Q (.bl (!o.isSome)) H2)
def V_ (td:TE) (σ:St) (Q:VK):V->Hp->Prop:=fun y H1=>td σ H1 (Rb Q y)
def YY (ty td:TE):TE:=fun σ H Q=>ty σ H (V_ td σ Q)
inductive Wa (D:Ends) (σ:St) (v:V) (x:V) (y:V) (H3:Hp):Prop
 | mk  (a H4:_) (_:x = .ref a) (_:sZ H3 a y v H4) (_:D.nx σ H4)
def Wb (ty:TE) (D:Ends) (σ:St) (v:V):V->Hp->Prop:=fun x H2=>ty σ H2 (Wa D σ v x)
def abg (td:TE) (ty:TE) (D:Ends) (σ:St):V->Hp->Prop:=fun v H1=>td σ H1 (Wb ty D σ v)
def aef (td ty tv:TE):TS:=fun D σ H=>tv σ H (abg td ty D σ)
inductive Wc (D:Ends) (σ:St) (x:V) (y:V) (H2:Hp):Prop
 | mk  (a kvs k:_) (_:x = .ref a) (_:H2 a=some (.dK kvs)) (_:y=kV k) (_:(ee kvs k).isSome=true) (_:D.nx σ (upd H2 a (.dK (nM kvs k))))
def abh (ty:TE) (D:Ends) (σ:St):V->Hp->Prop:=fun x H1=>ty σ H1 (Wc D σ x)
def aeg (td ty:TE):TS:=fun D σ H=>td σ H (abh ty D σ)
section
variable {X:Cx} {o i e value:Expr} {pos pos' tpos:Pos} {td ty tv:TE}
end
theorem KH {w:World} (h:Heap) (hb:sysModules<h.objs.size):dO P w H (h.push { cls:= .type "dict",data:= .dict #[] }) h.objs.size (.dK []):=
 ⟨f_ _,F_.mpr (bU (dQ hb)),[], .nil,Heap.DictOf.new h⟩
def abi:TE:=fun _ H Q=>∀p,H p=none->Q (.ref p) (upd H p (.dK []))
section
variable {X:Cx} {pos:Pos}
end
def Ac:List (TE×TE)->St->Hp->(List (V×V)->Hp->Prop)->Prop
 | [],_,H,Q=>Q [] H
 | (tk,tv)::r,σ,H,Q=>tk σ H fun x H1=>tv σ H1 fun y H2=>Ac r σ H2 fun ps H3=>Q ((x,y)::ps) H3
abbrev VV:List (V×V)->List (Value×Value)->Prop:=Paired fun p q=>RelV p.1 q.1/\RelV p.2 q.2
def PPs (X:Cx) (pos:Pos) (keys:List (Option Expr)) (values:List Expr) (Eg:List (TE×TE)):Prop:=
 ∀(pins:AO) (s:Shared) (σ:St) (H:Hp) (Q:List (V×V)->Hp->Prop),Inv X pins σ H s->Ac Eg σ H Q->
  wpAny (model X.prog X.w) X.A (evalPairs (pairTrees keys values X.env pos)) (fun vs s'=>∃ps H',Inv X pins σ H' s'/\VV ps vs/\Q ps H') X.xe s
def xJ (kvs more:List (Key×V)):List (Key×V):=more.foldl (fun acc kv=>putK acc kv.1 kv.2) kvs
theorem KV.merge:∀{more:List (Key×V)} {rs:List (Key×Value)} {kvs:List (Key×V)} {vs:List (Key×Value)},KV more rs->KV kvs vs->KV (xJ kvs more) (merged vs rs):=by
 intro more rs kvs vs r
 unfold KV at r
 induction r generalizing kvs vs with
 | nil=>intro q;exact q
 | @cons p q ps qs h t ih=>
   intro r0
   have e:KV (putK kvs p.1 p.2) (stored vs q.1 q.2):=by
    have:=r0.put p.1 h.2
    rw [<-h.1];exact this
   exact ih e
theorem zC:∀(more kvs:List (Key×V)),(xJ kvs more).length<=kvs.length+more.length
 | [],kvs=>by show kvs.length<=kvs.length+0;omega
 | p::r,kvs=>by
   have h1:=zC r (putK kvs p.1 p.2)
   have h2:=wQ kvs p.1 p.2
   show (xJ (putK kvs p.1 p.2) r).length<=_
   rw [mX];omega
theorem Eh {P:Program} {w:World}:∀{kvs:List (Key×V)} {ws:List (Value×Value)},VV (kvs.map fun kv=>(kV kv.1,kv.2)) ws->∃rs,Carries (cZ P w) ws rs/\KV kvs rs
 | [],_,r=>by rw [List.map_nil] at r;cases r;exact ⟨[],True.intro, .nil⟩
 | p::kvs,_,r=>by
   rw [bH] at r
   cases r with
   | @cons a b as bs h t=>
     obtain ⟨rs,c,q⟩:=Eh (P:=P) (w:=w) t
     obtain ⟨b1,b2⟩:=b
     exact ⟨(p.1,b2)::rs,⟨yv h.1,Z,c⟩, .cons ⟨Z,h.2⟩ q⟩
def aeh (Eg:List (TE×TE)):TE:=fun σ H Q=>∀p,H p=none->Ac Eg σ (upd H p (.dK [])) fun ps H2=>H2 p=some (.dK [])/\∃kvs:List (Key×V),ps=kvs.map (fun kv=>(kV kv.1,kv.2))/\kvs.length<=15/\Q (.ref p) (upd H2 p (.dK (xJ [] kvs)))
def IsD (H:Hp) (a:Addr):Prop:=(∃kvs,Rd H a (.dK kvs))\/∃kvs,Rd H a (.dT kvs)
theorem KI (I:Inv X pins σ H s) (d:IsD H a):
  s.TypeIs (.ref a) "dict"/\(∀b,Value.ref a = .ref b->∃ob,s.heap.get? b=some ob/\ob.dict=none)/\(a==sysModules)=false:=by
 rcases d with ⟨kvs,e⟩|⟨kvs,e⟩
 . obtain ⟨_,hd,vs,_,dd⟩:=rS I.hok e
   refine ⟨dd.typeIs,fun b q=>?_,hd⟩
   cases q
   obtain ⟨ob,_,_,h1,h2,_⟩:=dd
   exact ⟨ob,h1,h2.2.1⟩
 . obtain ⟨_,hd,xs,_,dd⟩:=By I.hok e
   refine ⟨dd.typeIs,fun b q=>?_,hd⟩
   cases q
   obtain ⟨ob,_,_,h1,h2,_⟩:=dd
   exact ⟨ob,h1,h2.2.1⟩
section
variable {X:Cx} {pins:AO} {σ:St} {H:Hp} {s:Shared} {a:Addr} {y d:V} {u r:Value} {o:Option V} {A:Around} {E:VS}
end
section
variable {X:Cx} {o e f:Expr} {apos cpos:Pos} {td ty tx:TE}
end
section
variable {X:Cx} {pins:AO} {σ:St} {H:Hp} {s:Shared} {a:Addr} {kvs:List (Key×V)} {A:Around} {E:VS}
end
section
variable {X:Cx} {pins:AO} {σ:St} {H:Hp} {s:Shared} {a:Addr} {y:V} {u:Value} {A:Around} {E:VS}
end
end L2
namespace Att
open PySem PySem.W PySem.Calls PyProof.Rows
theorem Ei {P:Params} {h:Heap}:∀(ns:List Int) (vs:List Value),WellAll P h vs (ns.map WData.int)->IntsAre vs ns:=by
 intro ns
 induction ns with
 | nil=>
   intro vs w
   rw [List.map_nil] at w
   cases w
   exact .nil
 | cons n ns ih=>
   intro vs w
   rw [bH] at w
   cases w with
   | cons a b=>
     cases a
     exact .cons _ _ (ih _ b)
theorem Td {l:OpenLaw} {n:Nat} (hn:l.most=some n) {P:Params} {h:Heap} {args:List WData} {vals:List Value}
  (hpre:l.row.toRowW.claim.pre args=true) (hwl:WellAll P h vals args):
  ∃a vs ns,vals=[Value.ref a]/\args=[WData.list (ns.map WData.int)]/\h.get? a=some { cls:= .type "list",data:= .seq vs.toArray }/\IntsAre vs ns/\ns.length<=n:=by
 have hsh:WShape.hasAll [] args [.list .int]=true:=(pre_splitW hpre).1
 have hc:l.pre.holds [] { args:=args }=true:=(pre_splitW hpre).2
 obtain ⟨d,r,rfl,h1,h2⟩:=hasAllW_cons hsh
 obtain rfl:=hasAllW_nil h2
 obtain ⟨xs,rfl,h3⟩:=hasW_list h1
 obtain ⟨ns,rfl⟩:=items_int h3
 have hlen:ns.length<=n:=by
  unfold OpenLaw.pre at hc
  have h4:(WTm.not (.lt (.lit (.int (n:Int))) (.len (.arg 0)))).holds [] { args:=[.list (ns.map .int)] }=true:=by
   have h4:=(holds_andW hc).1
   rw [hn] at h4
   exact h4
  have h5:=condW_of h4 (w_not (w_lt w_lit (w_len_list (w_arg rfl))))
  rw [aE] at h5
  refine Nat.le_of_not_lt fun q=>?_
  have q':(n:Int)<((ns.length:Nat):Int):=by omega
  first
   | (rw [cy q'] at h5;exact absurd h5 (by decide))
   | (simp at h5;omega)
 cases hwl with
 | cons w1 w2=>
   cases w2
   cases w1 with
   | list ho hall=>exact ⟨_,_,ns,Z,Z,ho,Ei ns _ hall,hlen⟩
theorem Te (l:OpenLaw) (args:List WData):l.row.toRowW.claim.post args (.bool true) args=true:=
 postW_of (r:=l.row.toRowW) (X:=(true==true))
  (show WShape.has [] (.bool true) .bool=true by first|rfl|decide|simp [WShape.has,WShape.arms,WShape.armsAll])
  (show (WTm.eq .res (.lit (.bool true))).value [] { args:=args,res:=some (.bool true),after:=args }=some (.bool (true==true)) from w_eq_bool (w_res rfl) w_lit) rfl
theorem NG {l:OpenLaw} {n:Nat} {q:Program} {loose:List Str} {XP:(Str->Option Value)->Heap->Prop} {YP:World->Heap->Prop} {d:DefRec}
  (hn:l.most=some n) (hdf:d.params.defaults=[])
  (call:∀(w:World) (s₀ s₁:Shared) (mg mb:SO) (fa:Addr) (o:Obj) (pm cd doc:Value) (a:Addr) (vs:List Value) (ns:List Int),
    Ground q loose [] XP w s₀ mg mb s₁.heap->YP w s₁.heap->
    s₁.heap.get? fa=some o->o.data = .func (docDef d.name d.params d.body d.scope pm cd doc)->s₁.heap.CodeRec cd d.name->mg d.name=some (.ref fa)->
    s₁.heap.get? a=some { cls:= .type "list",data:= .seq vs.toArray }->IntsAre vs ns->ns.length<=n->s₁.gens=#[]->
    codeAny (model l.prog w) callerA (.call (.ref fa) ⟨[.ref a],[]⟩) (fun r s'=>r = .ok (.ret (.bool true))/\OldK s₁.heap s'.heap/\s'.os=s₁.os/\AllBare s'.gens) s₁):
  WalkO q loose XP YP l.row.toRowW d [] (fun f vs=>PySem.call f vs):=by
 intro w s₀ s₁ mg mb G Y fa o pm cd doc dV kV ho hd hcd hD hmg hg args vals as hpre hlay hrd hwl hlo
 obtain rfl:dV = .none:=Dflts.none hD hdf
 obtain rfl:kV = .none:=Dflts.noKw hD
 obtain ⟨a,vs,ns,rfl,rfl,hobj,hints,hlen⟩:=Td hn hpre hwl
 refine enter_call (Bq (call w s₀ s₁ mg mb fa o pm cd doc a vs ns G Y ho (fd_plain hd) hcd hmg hobj hints hlen hg) fun r s' hq=>?_)
 obtain ⟨rfl,h2,h3,h4⟩:=hq
 exact ⟨.inl ⟨.bool true, .bool true,[],Z,fun _=>rfl, .bool true,Te l _,fun _=>⟨List.Pairwise.nil,fun _ hm=>(nomatch hm)⟩⟩,h2,h3,h4⟩
section
variable {prog:Program} {w:World} {A:Around} {E:VS} {s:Shared} {K:Frag}
end
end Att
namespace L2
open PySem PySem.Spec PyProof.Rows
theorem HY:∀{vs:List Value} {ns:List Int},IntsAre vs ns->Vals (ns.map V.int) vs
 | _,_, .nil=> .nil
 | _,_, .cons n t h=> .cons ⟨t,Z⟩ (HY h)
def Wd (H:Hp):Prop:=∀b,H b=none\/∃o xs,H b=some (.fm o (.lst xs))
variable {P:Program} {K:Fg} {mg:SO} {CX:zy} {a:Addr} {fd:FuncData} {x:Str} {sp:Sp} {ns:List Int}
theorem We {w:World} {mb:SO} {k:Nat} {fa:Addr} {s₁:Shared} {vs:List Value}
  (KX:K.In s₁.heap) (hns:s₁.heap.Ns mainGlobals mg) (hb:s₁.heap.Ns builtinsNs mb) (hbb:∀x:Str,x ≠ "__name__"->mb x=bootBuiltins x) (hlim:s₁.heap.NoLimit) (hg:s₁.gens=#[])
  (ha:s₁.heap.get? a=some { cls:= .type "list",data:= .seq vs.toArray }) (hi:IntsAre vs ns) (hl:ns.length<=sizeLine) (hr:dG k callerA)
  (F:∀base:Heap,K.In base->base.Ns mainGlobals mg->iw P w K mg base CX k fa fd [x] sp) (hbind:∀(s:Shared) (u:Value),BindsTo s fd ⟨[u],[]⟩ [(x,u)])
  (pQ:∀H:Hp,Wd H->aC K H a (ns.map V.int)->sp [.ref a] H (fun v _=>v = .bl true) fun _ _ _=>False)
  (hCX:∀H e s',CX [] H s₁ (fun _ _ _=>False) e s'->False):
  codeAny (model P w) callerA (.call (.ref fa) ⟨[.ref a],[]⟩) (fun r s'=>r = .ok (.ret (.bool true))/\OldK s₁.heap s'.heap/\s'.os=s₁.os/\AllBare s'.gens) s₁:=by
 have rv:=HY hi
 have ahA:=hi.length
 have core:∀H:Hp,Wd H->aC K H a (ns.map V.int)->gQ P w H s₁.heap->(∀b,H b≠none->b=a)->(H a≠none->K.lookup a=none)->
   codeAny (model P w) callerA (.call (.ref fa) ⟨[.ref a],[]⟩) (fun r s'=>r = .ok (.ret (.bool true))/\OldK s₁.heap s'.heap/\s'.os=s₁.os/\AllBare s'.gens) s₁:=by
  intro H hO hS hok hA hK
  have O7:∀{b:Addr} {o:Obj},s₁.heap.get? b=some o->H b=none->(yt s₁.heap H).get? b=some o:=fun e n=>VH e n
  have SW:∀{b:Addr} {o:Obj} {es:Array DictEntry} {ep:Nat},s₁.heap.get? b=some o->o.data = .dict es ep->H b=none:=fun {b o es ep} e d=>by
   cases q:H b with
   | none=>rfl
   | some u=>
     have e':b=a:=hA b (by rw [q];simp)
     subst e'
     rw [ha] at e;cases e
     have d':Data.seq vs.toArray _=Data.dict es ep:=d
     cases d'
  have XG:∀{b:Addr} {m:SO},s₁.heap.Ns b m->(yt s₁.heap H).Ns b m:=fun {b m} ⟨o,es,ep,e,d,r⟩=>⟨o,es,ep,O7 e (SW e d),d,r⟩
  have hKb:K.In (yt s₁.heap H):=fun b o e=>O7 (KX b o e) (by
   cases q:H b with
   | none=>rfl
   | some u=>
     have e':b=a:=hA b (by rw [q];simp)
     subst e'
     rw [hK (by rw [q];simp)] at e;cases e)
  have hM:Mod K mg (yt s₁.heap H):=⟨hKb,XG hns,⟨mb,XG hb,hbb⟩,let ⟨mc,h1,h2⟩:=hlim;⟨mc,XG h1,h2⟩⟩
  have e0:CV P w K mg (yt s₁.heap H) callerA [] s₁ H:=⟨Z,hM,fun b o e=>YE e,Nat.le_of_eq (Su _ _),trivial,fun b hb=>absurd (show b∈([] :List Addr) from hb) (by simp),hok, .of_eq hg⟩
  refine Bq ((F _ hKb (XG hns)).run callerA [] s₁ H ⟨[.ref a],[]⟩ [.ref a] [.ref a] _ _ hr e0 (hbind s₁ (.ref a)) (.cons rfl .nil) (pQ H hO hS)) fun r s' h=>?_
  cases r with
  | error e=>exact (hCX H e s' h).elim
  | ok fl=>
    cases fl with
    | next=>exact False.elim h
    | brk=>exact False.elim h
    | cont=>exact False.elim h
    | ret u=>
      obtain ⟨v,H',os,bare,un,ahB,r',q⟩:=h
      have q':v = .bl true:=q
      subst q'
      obtain rfl:u=Value.bool true:=r'
      refine ⟨Z,OldK.of_keep fun b o e=>?_,os,bare⟩
      cases q:H b with
      | none=>exact un.keep b o e q (by intro z;exact absurd (show b∈([] :List Addr) from z) (by simp)) (by simp)
      | some u=>
        rcases hO b with z|⟨ob,xs,z⟩
        . rw [q] at z;cases z
        . have z2:=un.mZ b ob _ z
          obtain ⟨e1,_⟩:=hok b _ z
          obtain ⟨e2,_⟩:=ahB b _ z2
          rw [e] at e1;cases e1
          exact e2
 cases hk:K.lookup a with
 | some o=>
   have e:=KX a o hk
   rw [ha] at e
   cases e
   refine core (fun _=>none) (fun _=> .inl rfl) (.inr ⟨_,vs.toArray,_,hk,Z,Z,Z,by rw [gK,ahA];exact hl,by simpa using rv⟩) (fun b u z=>by have z':(none:Option HO)=some u:=z;cases z') (fun b z=>absurd rfl z) fun z=>absurd rfl z
 | none=>
   refine core (fun b=>if b=a then some (.fm { cls:= .type "list",data:= .seq vs.toArray } (.lst (ns.map V.int))) else none) (fun b=>?_) (.inl (.inr ⟨{ cls:= .type "list",data:= .seq vs.toArray },aA rfl⟩)) (fun b u z=>?_) (fun b z=>?_) fun _=>hk
   . by_cases hb:b=a
     . exact .inr ⟨_,_,aA hb⟩
     . exact .inl (az hb)
   . by_cases hb:b=a
     . have z':=(aA hb).symm.trans z
       cases z'
       subst hb
       exact ⟨ha,by rw [aE];exact hl,vs,_,rv,ha⟩
     . have z':=(az hb).symm.trans z
       cases z'
   . by_cases hb:b=a
     . exact hb
     . exact absurd (az hb) z
variable {n:Nat} {XP:(Str->Option Value)->Heap->Prop} {YP:World->Heap->Prop}
theorem YZ {l:PySem.W.OpenLaw} {k:Nat} {q:Program} {loose:List Str} {d:DefRec} {K:Params->Fg} {CX:World->zy} {sp:World->Sp}
  (hn:l.most=some n) (hn2:n<=sizeLine) (hdf:d.params.defaults=[]) (hr:dG k callerA)
  (hY:∀(w:World) (h:Heap),YP w h->(K w.params).In h)
  (F:∀(w:World) (mg:SO) (fa:Addr) (h:Heap),(K w.params).In h->h.Ns mainGlobals mg->mg d.name=some (.ref fa)->
    ∃fd:FuncData,(∀(s:Shared) (u:Value),BindsTo s fd ⟨[u],[]⟩ [(x,u)])/\
     ∀base:Heap,(K w.params).In base->base.Ns mainGlobals mg->iw l.prog w (K w.params) mg base (CX w) k fa fd [x] (sp w))
  (pQ:∀(w:World) (H:Hp) (a:Addr) (ns:List Int),ns.length<=n->Wd H->aC (K w.params) H a (ns.map V.int)->sp w [.ref a] H (fun v _=>v = .bl true) fun _ _ _=>False)
  (hCX:∀(w:World) (H:Hp) (s:Shared) (e:Value) (s':Shared),CX w [] H s (fun _ _ _=>False) e s'->False):
  PySem.W.WalkO q loose XP YP l.row.toRowW d [] (fun f vs=>PySem.call f vs):=by
 refine Att.NG hn hdf fun w s₀ s₁ mg mb fa o pm cd doc a vs ns G Y ho hd hcd hmg hobj hints hlen hg=>?_
 have KX:=hY w _ Y
 obtain ⟨fd,hb,hF⟩:=F w mg fa _ KX G.T.g hmg
 exact We KX G.T.g G.T.b G.T.builtins G.T.nolimit hg hobj hints (fu hlen hn2) hr hF hb (fun H hO hS=>pQ w H a ns hlen hO hS) fun H e s'=>hCX w H s₁ e s'
def inClass (s:Stmt) (j:Nat):Stmt:=match s with
 | .ClassDef _ _ _ body _ _ _ _ _ _ _=>body.getD j (.Pass ⟨0,0,0,0⟩)
 | _=> .Pass ⟨0,0,0,0⟩
def dU (s:Stmt):Arguments:=match s with
 | .FunctionDef _ a _ _ _ _ _ _ _ _=>a
 | _=>{ posonlyargs:=[],args:=[],vararg:=none,kwonlyargs:=[],kw_defaults:=[],kwarg:=none,defaults:=[] }
def cF (s:Stmt):List Stmt:=match s with
 | .FunctionDef _ _ b _ _ _ _ _ _ _=>b
 | _=>[]
def ay (s:Stmt):Scope:=match s with
 | .FunctionDef _ _ _ _ _ _ sc _ _ _=>sc
 | _=>{ kind:= .function,names:=[],isGenerator:=false,isCoroutine:=false }
abbrev t_:zy:=fun _ _ _ _ _ _=>False
abbrev E0:XK:=fun _ _ _=>False
structure HZ (K:Fg) (x qual:Str) (st:Stmt) (f:Addr) (fd:FuncData):Prop where
 ex:∃(oc:Value) (od:Option Addr) (kV doc pm:Value) (an:Option Addr) (cdv ct:Value) (osl:Array (Option Value)),
  fd=PySem.W.fnOf x qual (dU st) (cF st) (ay st) .none kV doc pm an cdv ct/\K.lookup f=some ⟨oc,od, .func fd,osl⟩/\PySem.W.codeIn K cdv qual=true
 kp:PySem.W.keepIn K (.ref f)=true
variable {qual:Str} {f:Addr} {N ps:List Str} {oc doc pm cdv ct:Value} {od an:Option Addr} {osl:Array (Option Value)}
section
variable {P:Program} {w:World} {K:Fg} {mg:SO} {base:Heap}
theorem HZ.ok {st:Stmt} {k:Nat} (F:HZ K x qual st f fd) (S:aJ N ps (ay st)) (len:∀vs H Q E,sp vs H Q E->vs.length=ps.length)
  (hbody:∀(cdv:Value) (A:Around) (outer:List Env) (s:Shared) (H:Hp) (vs:List V) (Q:VK) (E:XK),dG k (A.deeper (envOfC qual (ay st) s.heap.objs.size f cdv))->sp vs H Q E->
    ∃t,qL (dj t_ P w K mg base N qual (ay st) f cdv A outer s H E).Ci (cF st) t/\t { nx:=fun _ H'=>Q .b_ H',rt:=Q } (start N vs) H):iw P w K mg base t_ (k+1) f fd ps sp:=by
 obtain ⟨oc,od,kV,doc,pm,an,cdv,ct,osl,rfl,lk,hcd⟩:=F.ex
 refine Q5 lk hcd S len fun A outer s H vs Q E hr pQ=>?_
 obtain ⟨t,h,q⟩:=hbody cdv A outer s H vs Q E hr pQ
 exact ⟨t,h.Ci,q⟩
theorem HZ.binds {st:Stmt} (F:HZ K x qual st f fd)
  (h:∀(kV doc pm:Value) (an:Option Addr) (cdv ct:Value) (us:List Value),us.length=ps.length->bindArgs (PySem.W.fnOf x qual (dU st) (cF st) (ay st) .none kV doc pm an cdv ct) ⟨us,[]⟩=pure (ps.zip us)):Binds K fd ps [] :=by
 obtain ⟨oc,od,kV,doc,pm,an,cdv,ct,osl,rfl,lk,hcd⟩:=F.ex
 exact .all (h kV doc pm an cdv ct)
theorem KJ {st:Stmt} {kV:Value} (l:K.lookup f=some ⟨oc,od, .func (PySem.W.fnOf x qual (dU st) (cF st) (ay st) .none kV doc pm an cdv ct),osl⟩)
  (c:PySem.W.codeIn K cdv qual=true) (k:PySem.W.keepIn K (.ref f)=true):HZ K x qual st f (PySem.W.fnOf x qual (dU st) (cF st) (ay st) .none kV doc pm an cdv ct):=⟨⟨oc,od,kV,doc,pm,an,cdv,ct,osl,Z,l,c⟩,k⟩
end
variable {A:Around}
theorem bY {k:Nat} (hr:dG k A):A.units+1<cLine:=QI (Nat.add_le_add_left (by decide:1<=64) _) hr.units
theorem eZ (h:n<=1000):n<sizeLine:=QI h (by decide)
section
variable {X:Cx}
end
theorem cW {A B:Prop} (h:B):if false=true then A else B:=by
 rw [az fM]
 exact h
theorem qT {A B:Prop} (h:A):if true=true then A else B:=by
 rw [aA rfl]
 exact h
theorem dW {c A B:Prop} [Decidable c] (h1:c->A) (h2:¬ c->B):if c then A else B:=by
 by_cases h:c
 . rw [aA h]
   exact h1 h
 . rw [az h]
   exact h2 h
def aF (H H':Hp):Prop:=∀b o,H b=some o->H' b=some o
theorem aF.refl (H:Hp):aF H H:=fun _ _ h=>h
variable {H H1 H2:Hp}
theorem aF.trans (a:aF H H1) (b:aF H1 H2):aF H H2:=fun c o h=>b c o (a c o h)
variable {H':Hp}
theorem aF.free (e:aF H H') {l:Addr} (h:H' l=Option.none):H l=Option.none:=by
 cases q:H l with
 | none=>rfl
 | some o=>
   rw [e l o q] at h
   cases h
variable {xs:List V}
theorem aF.seq (e:aF H H') (h:aC K H a xs):aC K H' a xs:=by
 rcases h with (h|⟨o,h⟩)|h
 . exact .inl (.inl (e _ _ h))
 . exact .inl (.inr ⟨o,e _ _ h⟩)
 . exact .inr h
section
variable {X:Cx}
theorem Ad:gW X (.builtin "len") (fun xs H Q=>∃a kvs,xs=[V.ref a]/\H a=some (.dK kvs)/\Q (.int kvs.length) H):=by
 intro pins s σ H xs us Q I r h
 obtain ⟨a,kvs,rfl,ha,q⟩:=h
 obtain ⟨u,rfl,ru⟩:=vals1 r
 cases ru
 exact aec I (.inl ha) fun t s' I'=>⟨.int kvs.length,H,I',⟨t,Z⟩,q⟩
end
section
variable {κ:Type} [DecidableEq κ]
theorem Wg {kvs:List (κ×V)} {k:κ} (h:ee kvs k=none):¬ k∈kvs.map (·.1):=by
 intro m
 obtain ⟨p,hp,e⟩:=bQ.mp m
 have q:(kvs.any fun kv=>decide (kv.1=k))=true:=List.any_eq_true.mpr ⟨p,hp,cy e⟩
 rw [qS,h] at q
 exact absurd q (by simp)
theorem oW:∀{l:List κ} {k:κ},l.Nodup->¬ k∈l->(l++[k]).Nodup
 | [],k,_,_=>by simp
 | a::r,k,h,hk=>by
   obtain ⟨h1,h2⟩:=gR.mp h
   show (a::(r++[k])).Nodup
   refine gR.mpr ⟨fun m=>?_,oW h2 fun m=>hk (c6.mpr (Or.inr m))⟩
   rcases fZ.mp m with q|q
   . exact h1 q
   . exact hk (c6.mpr (Or.inl (fU.mp q).symm))
theorem Y0 {kvs:List (κ×V)} {k:κ} (v:V) (hn:(kvs.map (·.1)).Nodup) (h:ee kvs k=none):((putK kvs k v).map (·.1)).Nodup:=by
 rw [oj v h,bN]
 exact oW hn (Wg h)
end
end L2
set_option maxHeartbeats 4000000
namespace L2
open PySem PySem.Spec PyProof.Rows
variable {n:Nat} {K:Fg}
section
variable {X:Cx}
def BF (_ j:Int):Prop:=0<j/\j.natAbs.log2<9000
theorem gO:gY X (binaryOp .FloorDiv) (rI BF fun i j=> .int (i / j)):=SA fun i j _ _ _ _ _ hc q=>by
 have h1:(0:Int)<j:=hc.1
 exact floordiv_int (by omega) (by rw [Int.fdiv_eq_ediv_of_nonneg i (by omega)];exact q) (.inl (PyProof.noPylong_of_log2 hc.2))
theorem Ae {i j:Int} (h:(decide (0<j) && decide (j.natAbs.log2<9000))=true):BF i j:=by
 obtain ⟨a,b⟩:=kX.mp h
 exact ⟨eO a,eO b⟩
theorem Wh {i j:Int} (h0:0<j) (h:j<2 ^ n) (hn:n<=9000):BF i j:=by
 refine ⟨h0,?_⟩
 have e:(j.natAbs:Int)=j:=by omega
 have h2:j.natAbs<2 ^ n:=by
  have:(j.natAbs:Int)<((2 ^ n:Nat):Int):=by rw [e];simpa using h
  exact Int.ofNat_lt.mp this
 have:=(Nat.log2_lt (n:=j.natAbs) (k:=n) (by omega)).mpr h2
 omega
def Rc (i j:Int):Prop:=∃m n:Nat,i.natAbs<2 ^ m/\j.natAbs<2 ^ n/\m+n<=134217728
theorem j7:gY X (binaryOp .Mult) (rI Rc fun i j=> .int (i*j)):=SA fun _ _ _ _ _ _ _ hc q=>by
 obtain ⟨m,n,h1,h2,h3⟩:=hc
 exact mul_int q (IntMulOk.of_le (QC.mpr h1) (QC.mpr h2) h3)
theorem NH:gW X (.builtin "isinstance") (fun xs H Q=>∃x n t b,xs=[x, .ty n]/\gH X.K H x t/\PySem.W.kitOne X.K t (.type n)=some b/\Q (.bl b) H):=by
 intro pins s σ H xs us Q I r h
 obtain ⟨x,n,t,b,rfl,ty,e,q⟩:=h
 obtain ⟨u,w',rfl,ru,rw'⟩:=vals2 r
 have rw2:w'=Value.type n:=rw'
 subst rw2
 exact SQ I ru ty e fun tk=>⟨.bl b,H,I.tok _,Z,q⟩
theorem iy {n:String}:PySem.W.kitOne K (.type n) (.type n)=some true:=by
 unfold PySem.W.kitOne
 rw [aA (DQ _)]
theorem KL:PySem.W.kitOne K (.type "int") (.type "bool")=some false:=by rfl
mutual
inductive Dt (K:Fg) (H:Hp):V->PyData->Prop
 | b_:Dt K H .b_ .none
 | bl (b:Bool):Dt K H (.bl b) (.bool b)
 | int (i:Int):Dt K H (.int i) (.int i)
 | str (x:Str):Dt K H (.str x) (.str x)
 | lst {a:Addr} {xs:List V} {ds:List PyData}:aC K H a xs->xK K H xs ds->Dt K H (.ref a) (.list ds)
 | tup {a:Addr} {xs:List V} {ds:List PyData}:cS K H a xs->xK K H xs ds->Dt K H (.ref a) (.tuple ds)
inductive xK (K:Fg) (H:Hp):List V->List PyData->Prop
 | nil:xK K H [] []
 | cons {x:V} {xs:List V} {d:PyData} {ds:List PyData}:Dt K H x d->xK K H xs ds->xK K H (x::xs) (d::ds)
end
section
variable {pins:AO} {σ:St} {H:Hp} {s:Shared}
mutual
theorem Dt.reads (I:Inv X pins σ H s):∀{x:V} {d:PyData} {u:Value},Dt X.K H x d->RelV x u->∃as,Reads s.heap u d as
 | _,_,u, .b_,r=>by cases (show u=Value.none from r);exact ⟨_, .none⟩
 | _,_,u, .bl b,r=>by cases (show u=Value.bool b from r);exact ⟨_, .bool b⟩
 | _,_,u, .int i,r=>by obtain ⟨t,rfl⟩:=(show ∃t,u=Value.int i t from r);exact ⟨_, .int i t⟩
 | _,_,u, .str x,r=>by obtain ⟨t,rfl⟩:=(show ∃t,u=Value.str x t from r);exact ⟨_, .str x t⟩
 | _,_,u,@Dt.lst _ _ a xs ds h hd,r=>by
   cases (show u=Value.ref a from r)
   obtain ⟨its,rv,⟨o,n,e,c,_,d⟩,hz⟩:=I.list h
   obtain ⟨as,ra⟩:=xK.reads I hd rv
   exact ⟨_, .list e c d (by simpa using ra)⟩
 | _,_,u,@Dt.tup _ _ a xs ds h hd,r=>by
   cases (show u=Value.ref a from r)
   obtain ⟨its,rv,⟨o,e,c,n,d⟩,hz⟩:=I.tuple h
   obtain ⟨as,ra⟩:=xK.reads I hd rv
   exact ⟨_, .tuple e c d (by simpa using ra)⟩
theorem xK.reads (I:Inv X pins σ H s):∀{xs:List V} {ds:List PyData} {us:List Value},xK X.K H xs ds->Vals xs us->∃as,ReadsAll s.heap us ds as
 | _,_,_, .nil, .nil=>⟨_, .nil⟩
 | _,_,_, .cons h t, .cons r rs=>by
   obtain ⟨as,ra⟩:=Dt.reads I h r
   obtain ⟨bs,rb⟩:=xK.reads I t rs
   exact ⟨_, .cons ra rb⟩
end
end
inductive Wi (K:Fg) (x:V) (y:V) (H:Hp) (Q:VK):Prop
 | mk  (d e:_) (_:Dt K H x d) (_:Dt K H y e) (_:SeqAt.shaped d=true) (_:SeqAt.shaped e=true) (_:Q (.bl (PyData.eqv d e)) H)
inductive abk (K:Fg) (x:V) (y:V) (H:Hp) (Q:VK):Prop
 | mk  (d e:_) (_:Dt K H x d) (_:Dt K H y e) (_:SeqAt.shaped d=true) (_:SeqAt.shaped e=true) (_:Q (.bl (!PyData.eqv d e)) H)
theorem abl (hu:X.A.units+64<cLine):gY X (compareOp .Eq) (Wi X.K):=by
 intro pins s σ H x y v u Q I rx ry h
 obtain ⟨d,e,hd,he,sd,se,q⟩:=h
 obtain ⟨as,ra⟩:=hd.reads I rx
 obtain ⟨bs,rb⟩:=he.reads I ry
 exact eq_dataH ra rb sd se hu ⟨.bl _,H,I,Z,q⟩
theorem abm (hu:X.A.units+64<cLine):gY X (compareOp .NotEq) (abk X.K):=by
 intro pins s σ H x y v u Q I rx ry h
 obtain ⟨d,e,hd,he,sd,se,q⟩:=h
 obtain ⟨as,ra⟩:=hd.reads I rx
 obtain ⟨bs,rb⟩:=he.reads I ry
 exact ne_dataH ra rb sd se hu ⟨.bl _,H,I,Z,q⟩
structure Bx (p:Prop):Prop where
 ex:p
def bx (f:Sp):Sp:=fun vs H Q E=>Bx (f vs H Q E)
structure Dn (P:Program) (w:World) (K:Fg) (mg:SO) (base:Heap) (k:Nat) (x:Str) (ps:List Str) (sp:Sp):Prop where
 ex:∃f fd,iw P w K mg base t_ k f fd ps sp/\Binds K fd ps []/\PySem.W.keepIn K (.ref f)=true/\mg x=some (.ref f)
end
structure At (K:Fg) (mg:SO) (x:Str) (st:Stmt) (f:Addr) (fd:FuncData):Prop where
 fn:HZ K x x st f fd
 name:mg x=some (.ref f)
variable {P:Program} {mg:SO} {base:Heap} {x:Str} {f:Addr} {fd:FuncData} {N ps:List Str} {sp:Sp}
theorem At.ok {w:World} {st:Stmt} {k:Nat} (F:At K mg x st f fd) (S:aJ N ps (ay st)) (len:∀vs H Q E,sp vs H Q E->vs.length=ps.length)
  (hbody:∀(cdv:Value) (A:Around) (outer:List Env) (s:Shared) (H:Hp) (vs:List V) (Q:VK) (E:XK),dG k (A.deeper (envOfC x (ay st) s.heap.objs.size f cdv))->sp vs H Q E->
    ∃t,qL (dj t_ P w K mg base N x (ay st) f cdv A outer s H E).Ci (cF st) t/\t { nx:=fun _ H'=>Q .b_ H',rt:=Q } (start N vs) H)
  (h:∀(kV doc pm:Value) (an:Option Addr) (cdv ct:Value) (us:List Value),us.length=ps.length->bindArgs (PySem.W.fnOf x x (dU st) (cF st) (ay st) .none kV doc pm an cdv ct) ⟨us,[]⟩=pure (ps.zip us)):
  Dn P w K mg base (k+1) x ps sp:=⟨f,fd,F.fn.ok S len hbody,F.fn.binds h,F.fn.kp,F.name⟩
variable {h:Heap} {oc doc pm cdv ct:Value} {od an:Option Addr} {osl:Array (Option Value)}
theorem XH {st:Stmt} {kV:Value} (X:K.In h) (G:h.Ns mainGlobals mg)
  (a:PySem.W.nsIn K mainGlobals x=some (some (.ref f))) (l:K.lookup f=some ⟨oc,od, .func (PySem.W.fnOf x x (dU st) (cF st) (ay st) .none kV doc pm an cdv ct),osl⟩)
  (c:PySem.W.codeIn K cdv x=true) (k:PySem.W.keepIn K (.ref f)=true):At K mg x st f (PySem.W.fnOf x x (dU st) (cF st) (ay st) .none kV doc pm an cdv ct):=⟨KJ l c k,kG X G a⟩
theorem aF.tup {H H':Hp} {K:Fg} {a:Addr} {xs:List V} (e:aF H H') (h:cS K H a xs):cS K H' a xs:=by
 rcases h with (h|⟨o,h⟩)|h
 . exact .inl (.inl (e _ _ h))
 . exact .inl (.inr ⟨o,e _ _ h⟩)
 . exact .inr h
variable {H:Hp}
theorem aB {p:Addr} (h:H p=none) (o:HO):aF H (upd H p o):=fun b u q=>by rw [av (aH q h)];exact q
theorem small (h:n<=1000):n<=sizeLine:=DW (eZ h)
end L2
namespace Jm
def cf (a b:Int):Int:=(Int.gcd a b:Int)
theorem O8 (a:Int) (h:0<=a):cf a 0=a:=by
 unfold cf;rw [Int.gcd_zero_right];omega
theorem Gn (a b:Int) (h:0<b):cf b (a % b)=cf a b:=by
 unfold cf
 rw [Int.emod_def,Int.gcd_sub_mul_left_right,Int.gcd_comm]
theorem Ej (a b:Int) (h:0<a\/0<b):0<cf a b:=by
 unfold cf
 have:0<Int.gcd a b:=by
  rcases h with h|h
  . exact Int.gcd_pos_of_ne_zero_left _ (by omega)
  . exact Int.gcd_pos_of_ne_zero_right _ (by omega)
 omega
theorem O9 (a b:Int):cf a b=cf b a:=by unfold cf;rw [Int.gcd_comm]
theorem abn (a b:Int):cf a (if b<0 then -b else b)=cf a b:=by
 unfold cf;split
 . rw [Int.gcd_neg]
 . rfl
abbrev fr (t b:Int):Rat:=Rat.divInt t b
theorem Tf (t b:Int) (h:0<b):(fr t b).num=t / cf b t:=by
 unfold fr cf
 rw [Rat.num_divInt,Int.sign_eq_one_of_pos h,Int.one_mul]
theorem KN (t b:Int) (h:0<b):((fr t b).den:Int)=b / cf b t:=by
 unfold fr cf
 rw [Rat.den_divInt,az (by omega)]
 rw [Int.natCast_ediv];congr 1;omega
theorem rT (a b:Int):cf a b∣a:=Int.gcd_dvd_left ..
theorem pR (a b:Int):cf a b∣b:=Int.gcd_dvd_right ..
theorem den_pos (q:Rat):(0:Int)<q.den:=by have:=q.den_pos;omega
theorem Y3 (q:Rat):fr q.num q.den=q:=Rat.num_divInt_den q
theorem XI {t b t' b':Int} (h:0<b) (h':0<b') (e:t*b'=t'*b):fr t b=fr t' b':=
 (Rat.divInt_eq_divInt_iff (by omega) (by omega)).mpr e
theorem Tg {n d:Int} (h:0<d) (c:cf n d=1):(fr n d).num=n/\((fr n d).den:Int)=d:=by
 rw [Tf n d h,KN n d h,O9,c,Br,Br];exact ⟨Z,Z⟩
theorem Th (t b:Int) (h:0<b):((fr t b).den:Int)<=b:=by
 rw [KN t b h]
 exact Int.ediv_le_self _ (yq h)
def Sz (n:Nat) (x:Int):Prop:=x.natAbs<2 ^ n
theorem Sz.mono {m n:Nat} {x:Int} (h:Sz m x) (hn:m<=n):Sz n x:=kY h (Nat.pow_le_pow_right (by decide) hn)
theorem Sz.of_le {n:Nat} {x y:Int} (h:Sz n y) (hx:x.natAbs<=y.natAbs):Sz n x:=QI hx h
theorem Sz.mul {m n:Nat} {x y:Int} (hx:Sz m x) (hy:Sz n y):Sz (m+n) (x*y):=by
 unfold Sz at *
 rw [DT,Nat.pow_add]
 exact Nat.mul_lt_mul'' hx hy
theorem Sz.add {m n:Nat} {x y:Int} (hx:Sz m x) (hy:Sz n y):Sz (max m n+1) (x+y):=by
 have h1:=hx.mono (Nat.le_max_left m n)
 have h2:=hy.mono (Nat.le_max_right m n)
 unfold Sz at *
 rw [Nat.pow_succ]
 omega
theorem Sz.ahC {n:Nat} {x y:Int} (hx:Sz n x) (hy:Sz n y):Sz (n+1) (x+y):=by
 have:=hx.add hy
 rwa [Nat.max_self] at this
theorem Sz.pS {n:Nat} {x B:Int} (h0:-B<=x) (h1:x<=B) (hB:Sz n B):Sz n x:=hB.of_le (by omega)
theorem Sz.ediv {n:Nat} {x y:Int} (h:Sz n x) (hy:0<y):Sz n (x / y):=by
 refine h.of_le ?_
 have e:=Int.emod_add_mul_ediv x y
 have m0:=nJ x (b:=y) (by omega)
 have m1:=yi x hy
 rcases DX x 0 with hx|hx
 . have q0:x / y<0:=Int.ediv_neg_of_neg_of_pos hx hy
   have z:y*(x / y)<=1*(x / y):=Int.mul_le_mul_of_nonpos_right (by omega) (by omega)
   rcases DX (x / y) x with k|k
   . exfalso
     have z2:y*(x / y)<=y*(x-1):=HG (by omega) (by omega)
     have z3:y*(x-1)<=1*(x-1)-(y-1):=by
      have z4:(y-1)*(x-1)<=(y-1)*(-2):=HG (by omega) (by omega)
      have z5:y*(x-1)=(y-1)*(x-1)+(x-1):=by grind
      omega
     omega
   . omega
 . have q0:0<=x / y:=Int.ediv_nonneg hx (by omega)
   have:=Int.ediv_le_self y hx
   omega
theorem Sz.dvd {n:Nat} {x y:Int} (h:Sz n y) (hy:0<y) (hx:0<=x) (d:x∣y):Sz n x:=h.of_le (by have:=Int.le_of_dvd hy d;omega)
theorem Ti {n:Nat}:∀{ws:List Int},(∀m∈ws,Sz n m)->Sz (n+ws.length) ws.sum
 | [],_=>by unfold Sz;show 0<_;exact Nat.two_pow_pos _
 | x::r,h=>by
   have h1:=Ti (ws:=r) fun m hm=>h m (cG _ hm)
   have h2:=((h x cM).mono (DR n r.length)).ahC h1
   rw [cI]
   exact h2.mono (by rw [mX];omega)
def Ek (c:Int):Nat->Int
 | 0=>c
 | i+1=>Ek c i / 10000000000
def cellOf (ns:List Int) (k:Int):Int:=if 0<(ns.length:Int) then ns.getD (k % ns.length).toNat 0 else 0
def Af (ns:List Int) (k:Int):Int:=if 0<(ns.length:Int) then k / ns.length else 1
def mixed (c k j many:Int):Int:=
 let one:=(c*7919+k*104729+j*1299709+31) % 1000000007
 let two:=(one*48271+c / 1009) % 998244353
 let three:=(two*(one % 9973+1)+j) % 1000000009
 (one*69621+three*40692+three / 1013) % 2147483647 % many
def draw (ns:List Int) (k j many:Int):Int:=
 if Af ns k=0/\1000000000000000000<=cellOf ns k/\0<Ek (cellOf ns k) j.toNat then Ek (cellOf ns k) j.toNat % 10000000000 % many
 else mixed (cellOf ns k) k j many
theorem Y4 (ns:List Int) (k j many:Int) (h:0<many):0<=draw ns k j many:=by
 unfold draw;split
 . exact nJ _ (by omega)
 . exact nJ _ (by omega)
theorem Y5 (ns:List Int) (k j many:Int) (h:0<many):draw ns k j many<many:=by
 unfold draw;split
 . exact yi _ h
 . exact yi _ h
end Jm
namespace L2
open PySem PySem.Spec PyProof.Rows
inductive aei (K:Fg) (vs:List V) (H:Hp) (Q:VK) (E:XK):Prop
 | mk (a:Addr) (ns:List Int) (k j many:Int) (_:vs=[.ref a, .int k, .int j, .int many]) (_:aC K H a (ns.map V.int)) (_:ns.length<=63) (_:0<=k) (_:0<=j) (_:j<2 ^ 62) (_:0<many) (_:Q (.int (Jm.draw ns k j many)) H)
def lU (K:Fg):Sp:=bx (aei K)
variable {K:Fg} {H:Hp} {a:Addr} {ns:List Int}
theorem cT {Q:VK} {E:XK} {k j many:Int} (hS:aC K H a (ns.map V.int)) (h63:ns.length<=63) (h1:0<=k) (h2:0<=j) (h3:j<2 ^ 62) (h4:0<many)
  (h:∀d:Int,d=Jm.draw ns k j many->0<=d->d<many->Q (.int d) H):lU K [.ref a, .int k, .int j, .int many] H Q E:=
 ⟨a,ns,k,j,many,Z,hS,h63,h1,h2,h3,h4,h _ rfl (Jm.Y4 ns k j many h4) (Jm.Y5 ns k j many h4)⟩
def Wj:Sp:=fun vs H Q _=>∃a b:Int,vs=[.int a, .int b]/\0<=a/\0<=b/\Q (.int (Jm.cf a b)) H
abbrev pT (q:Rat):HO:= .tup [.int q.num, .int (q.den:Int)]
def El:Sp:=fun vs H Q _=>∃i:Int,vs=[.int i]/\Q (.bl true) H
def J6 (K:Fg):Sp:=fun vs H Q _=>∃(a:Addr) (ns:List Int),vs=[.ref a]/\aC K H a (ns.map V.int)/\ns.length<=63/\∀H',Q (.bl true) H'
section
variable {X:Cx} {pos:Pos}
def Ends.too (D:Ends) (J:St->Hp->Prop):Ends:={ D with nx:=J }
def aej (t u:TS) (D:Ends) (σ:St) (J:St->Hp->Prop):Bool->Hp->Prop:=fun b H1=>if b=true then t (D.too J) σ H1 else u (D.too J) σ H1
inductive abo (c:TT) (t u:TS) (D:Ends) (σ:St) (H:Hp):Prop
 | mk (J:St->Hp->Prop) (_:c σ H (aej t u D σ J)) (_:∀σ' H',J σ' H'->D.nx σ' H')
end
theorem uK {i j:Int} (h0:0<j) (h:Jm.Sz 9000 j):BF i j:=by
 refine ⟨h0,?_⟩
 exact (Nat.log2_lt (by omega)).mpr h
variable {m n:Nat}
theorem jb {i j:Int} (hi:Jm.Sz m i) (hj:Jm.Sz n j) (h:m+n<=134217728:=by decide):Rc i j:=⟨m,n,hi,hj,h⟩
theorem pU {x:Int} (h:decide (x.natAbs<2 ^ n)=true):Jm.Sz n x:=by
 unfold Jm.Sz
 exact eO h
theorem Y6 {k:Int} (h0:0<=k) (h:k<(ns.length:Int)):oU (ns.map V.int) k=some (.int (ns.getD k.toNat 0)):=by
 have hk:k.toNat<ns.length:=by omega
 have ek:k=((k.toNat:Nat):Int):=by omega
 have q:oU (ns.map V.int) ((k.toNat:Nat):Int)=some (.int (ns.getD k.toNat 0)):=aT (by rw [bF,gG,aW hk] <;> rfl)
 rw [<-ek] at q
 exact q
variable {elt iter:Expr} {scope:Scope} {pos:Pos} {env:Env}
section
variable {prog:Program} {w:World} {A:Around} {R:Result->Shared->Prop} {s:Shared}
theorem KO {target:Expr} {it acc:Value} (J:Nat->Shared->Prop)
  (turn:∀n s,J n s->wpAny (model prog w) A (pyNext it) (fun r s₁=>match r with
    | none=>R (.ok .next) s₁
    | some v=>wpAny (model prog w) A (letOwnedTupleGo target it v) (fun _ s₂=>wpAny (model prog w) A (assign target env v) (fun _ s₃=>wpAny (model prog w) A (eval elt env) (fun x s₄=>
            wpAny (model prog w) A (call (.builtin "list.append") [acc,x]) (fun _ s₅=>∃m,m<n/\J m s₅) (fun _ _=>False) s₄) (fun _ _=>False) s₃) (fun _ _=>False) s₂) (fun _ _=>False) s₁) (fun _ _=>False) s)
  (n:Nat) (h:J n s):codeAny (model prog w) A (.compLoop (.ListComp elt [⟨target,iter,[],0⟩] scope pos) 0 it acc env) R s:=by
 refine codeAny_loop rfl J (fun n s hI=>?_) n h
 show wpAny _ A ((compTurn (.ListComp elt [⟨target,iter,[],0⟩] scope pos) 0 it acc env).onRaise (fun x=>do noteFrame x env;theTreesLotGoes x)) _ _ s
 refine wpAny_noted ?_
 rw [compTurn_list1]
 refine aq (Bo (aq (gT (turn n s hI) (fun r s₁ h₁=>?_) fun _ _ h'=>h'.elim)))
 cases r with
 | none=>exact aL h₁
 | some v=>
   refine aq (gT h₁ (fun _ s₂ h₂=>aq (gT h₂ (fun _ s₃ h₃=>?_) fun _ _ h'=>h'.elim)) fun _ _ h'=>h'.elim)
   exact aq (aq (gT h₃ (fun x s₄ h₄=>aq (gT h₄ (fun _ s₅ h₅=>aL (aL ⟨Z,h₅⟩)) fun _ _ h'=>h'.elim)) fun _ _ h'=>h'.elim))
end
theorem ug (h:∀y∈scope.names,y.2 = .free->∃c,env.cells.lookup y.1=some c):
  ∃cl,closureFor scope env=pure cl/\(∀y c,(y,c)∈cl->env.cells.lookup y=some c/\(y,NameKind.free)∈scope.names)/\∀y,(y,NameKind.free)∈scope.names->∃c,(y,c)∈cl:=by
 have gen:∀(names:List (Str×NameKind)) (acc:List (Str×Addr)),(∀y∈names,y.2 = .free->∃c,env.cells.lookup y.1=some c)->
   ∃cl,(forIn names acc fun (x:Str×NameKind) (cs:List (Str×Addr))=>(if (x.2==NameKind.free)=true then do let a <-cellOf env x.1;pure (ForInStep.yield ((x.1,a)::cs)) else pure (ForInStep.yield cs):Sem _))=pure cl/\
    (∀y c,(y,c)∈cl->(env.cells.lookup y=some c/\(y,NameKind.free)∈names)\/(y,c)∈acc)/\(∀p∈acc,p∈cl)/\∀y,(y,NameKind.free)∈names->∃c,(y,c)∈cl:=by
  intro names
  induction names with
  | nil=>intro acc _;exact ⟨acc,by rw [DU],fun y c m=> .inr m,fun p hp=>hp,fun y m=>nomatch m⟩
  | cons x r ih=>
    intro acc hc
    obtain ⟨n,k⟩:=x
    by_cases hk:k = .free
    . subst hk
      obtain ⟨c,ec⟩:=hc (n, .free) cM rfl
      obtain ⟨cl,e,h1,h2,h3⟩:=ih ((n,c)::acc) fun y hy=>hc y (cG _ hy)
      refine ⟨cl,?_,fun y d m=>?_,fun p hp=>h2 p (cG _ hp),fun y m=>?_⟩
      . rw [JW,<-e]
        have aek:cellOf env n=pure c:=by unfold cellOf;rw [ec]
        simp only [DQ,rQ,aek,pure_bind]
      . rcases h1 y d m with ⟨a,b⟩|b
        . exact .inl ⟨a,cG _ b⟩
        . rcases c6.mp b with z|z
          . cases z;exact .inl ⟨ec,cM⟩
          . exact .inr z
      . rcases c6.mp m with z|z
        . cases z;exact ⟨c,h2 _ cM⟩
        . exact h3 y z
    . obtain ⟨cl,e,h1,h2,h3⟩:=ih acc fun y hy=>hc y (cG _ hy)
      have hb:(k==NameKind.free)=false:=by simpa using hk
      refine ⟨cl,?_,fun y d m=>?_,h2,fun y m=>?_⟩
      . rw [JW,<-e]
        simp only [hb,Gf,lE,pure_bind]
      . rcases h1 y d m with ⟨a,b⟩|b
        . exact .inl ⟨a,cG _ b⟩
        . exact .inr b
      . rcases c6.mp m with z|z
        . cases z;exact absurd rfl hk
        . exact h3 y z
 obtain ⟨cl,e,h1,_,h3⟩:=gen scope.names [] h
 refine ⟨cl,?_,fun y c m=>(h1 y c m).elim id (fun z=>nomatch z),h3⟩
 have e2:closureFor scope env=((forIn scope.names ([] :List (Str×Addr)) fun (x:Str×NameKind) (cs:List (Str×Addr))=>(if (x.2==NameKind.free)=true then do let a <-cellOf env x.1;pure (ForInStep.yield ((x.1,a)::cs)) else pure (ForInStep.yield cs):Sem _)) >>= fun r=>pure r):=rfl
 rw [e2,e]
 rfl
theorem lookup_mem {α:Type} {l:List (Str×α)} {y:Str} {c:α} (h:(y,c)∈l):∃d,l.lookup y=some d:=by
 induction l with
 | nil=>cases h
 | cons p r ih=>
   obtain ⟨k,v⟩:=p
   rw [lC]
   cases hb:y==k with
   | true=>exact ⟨v,Z⟩
   | false=>
     rcases c6.mp h with z|z
     . cases z;simp at hb
     . exact ih z
theorem mL:∀(names:List (Str×NameKind)) (n:Nat) (acc:List (Str×Addr)) {x:Str} {c:Addr},(cellsFrom n names acc).lookup x=some c->n<=c\/acc.lookup x=some c
 | [],_,_,_,_,h=> .inr h
 | (name,kind)::r,n,acc,x,c,h=>by
   unfold cellsFrom at h
   split at h
   . rcases mL r (n+1) _ h with z|z
     . exact .inl (by omega)
     . rw [lC] at z
       cases hb:x==name with
       | true=>rw [hb] at z;cases z;exact .inl (aP _)
       | false=>rw [hb] at z;exact .inr z
   . exact mL r n acc h
theorem IP:∀(names:List (Str×NameKind)) (n n0:Nat) (acc:List (Str×Addr)) {x:Str} {c:Addr},n0<=n->(∀d,acc.lookup x=some d->n0<=d)->(cellsFrom n names acc).lookup x=some c->n0<=c:=by
 intro names n n0 acc x c hn ha h
 rcases mL names n acc h with z|z
 . omega
 . exact ha c z
theorem s_:∀(names:List (Str×NameKind)) (n:Nat) (acc:List (Str×Addr)) {x:Str} {c:Addr},(x,NameKind.cell)∈names->(cellsFrom n names acc).lookup x=some c->n<=c
 | [],_,_,_,_,m,_=>nomatch m
 | (name,kind)::r,n,acc,x,c,m,h=>by
   unfold cellsFrom at h
   rcases c6.mp m with z|z
   . cases z
     rw [aA (by rfl)] at h
     refine IP r (n+1) n _ (by omega) (fun d hd=>?_) h
     rw [lC,DQ] at hd
     cases hd
     exact aP _
   . split at h
     . exact fu (Nat.le_succ _) (s_ r (n+1) _ z h)
     . exact s_ r n acc z h
theorem mO:∀(names:List (Str×NameKind)) (n:Nat) (acc:List (Str×Addr)) {x:Str},(∃c,acc.lookup x=some c)->∃c,(cellsFrom n names acc).lookup x=some c
 | [],_,_,_,h=>h
 | (name,kind)::r,n,acc,x,h=>by
   unfold cellsFrom
   split
   . refine mO r (n+1) _ ?_
     rw [lC]
     cases x==name with
     | true=>exact ⟨_,Z⟩
     | false=>exact h
   . exact mO r n acc h
theorem tD:∀(names:List (Str×NameKind)) (n:Nat) (acc:List (Str×Addr)) {x:Str},(x,NameKind.cell)∈names->∃c,(cellsFrom n names acc).lookup x=some c
 | [],_,_,_,m=>nomatch m
 | (name,kind)::r,n,acc,x,m=>by
   unfold cellsFrom
   rcases c6.mp m with z|z
   . cases z
     rw [aA (by rfl)]
     refine mO r (n+1) _ ⟨n,?_⟩
     rw [lC,DQ]
   . split
     . exact tD r (n+1) _ z
     . exact tD r n acc z
theorem tE:∀(names:List (Str×NameKind)) (n:Nat) (acc:List (Str×Addr)) {x:Str},(x,NameKind.cell)∉names->(cellsFrom n names acc).lookup x=acc.lookup x
 | [],_,_,_,_=>rfl
 | (name,kind)::r,n,acc,x,m=>by
   have m2:(x,NameKind.cell)∉r:=fun z=>m (cG _ z)
   unfold cellsFrom
   split
   . rename_i hk
     rw [tE r (n+1) _ m2,lC]
     cases hb:x==name with
     | true=>
       have e1:=nL.mp hb
       have e2:kind=NameKind.cell:=by simpa using hk
       subst e1 e2
       exact absurd cM m
     | false=>rfl
   . exact tE r n acc m2
theorem tF:∀(names:List (Str×NameKind)) (n:Nat) (acc:List (Str×Addr)),(∀x y c,acc.lookup x=some c->acc.lookup y=some c->x=y)->(∀x c,acc.lookup x=some c->c<n)->
  ∀x y c,(cellsFrom n names acc).lookup x=some c->(cellsFrom n names acc).lookup y=some c->x=y
 | [],_,_,h,_=>h
 | (name,kind)::r,n,acc,h,hlt=>by
   intro x y c hx hy
   unfold cellsFrom at hx hy
   split at hx
   . rename_i hk
     rw [aA hk] at hy
     refine tF r (n+1) _ (fun x y c hx hy=>?_) (fun x c hx=>?_) x y c hx hy
     . rw [lC] at hx hy
       cases hb:x==name with
       | true=>
         cases hb2:y==name with
         | true=>rw [nL.mp hb,nL.mp hb2]
         | false=>
           rw [hb] at hx;rw [hb2] at hy
           cases hx
           exact absurd (hlt _ _ hy) (jj _)
       | false=>
         cases hb2:y==name with
         | true=>
           rw [hb] at hx;rw [hb2] at hy
           cases hy
           exact absurd (hlt _ _ hx) (jj _)
         | false=>
           rw [hb] at hx;rw [hb2] at hy
           exact h x y c hx hy
     . rw [lC] at hx
       cases hb:x==name with
       | true=>rw [hb] at hx;cases hx;exact Nat.lt_succ_self _
       | false=>rw [hb] at hx;exact QM (hlt _ _ hx)
   . rename_i hk
     rw [az hk] at hy
     exact tF r n acc h hlt x y c hx hy
theorem wR:∀(names:List (Str×NameKind)) (h:Heap) (acc:List (Str×Addr)),(∀x c,acc.lookup x=some c->∃v,h.IsCell c v)->∀x c,(cellsFrom h.objs.size names acc).lookup x=some c->∃v,(pushCells h names).IsCell c v
 | [],_,_,ha=>ha
 | (name,kind)::r,h,acc,ha=>by
   intro x c hx
   unfold cellsFrom at hx
   unfold pushCells
   split at hx
   . rename_i hk
     rw [aA hk]
     have q:=wR r (h.push { cls:= .type "cell",data:= .cell none }) ((name,h.objs.size)::acc) (fun x c hx=>by
      rw [lC] at hx
      cases hb:x==name with
      | true=>rw [hb] at hx;cases hx;exact ⟨none,_,dZ _ rfl,Z⟩
      | false=>
        rw [hb] at hx
        obtain ⟨v,z⟩:=ha x c hx
        exact ⟨v,z.keeps fun b o e=>cA _ e⟩) x c
     rw [mJ] at q
     exact q hx
   . rename_i hk
     rw [az hk]
     exact wR r h acc ha x c hx
def cX (X:Cx) (N2:List Str) (scope:Scope) (cl:List (Str×Addr)) (s₂:Shared) (H₂:Hp) (fp:List Addr):Cx where
 prog:=X.prog
 w:=X.w
 K:=X.K
 mg:=X.mg
 base:=X.base
 A:=X.A
 N:=N2
 s₀:=s₂
 H₀:=H₂
 env:={ scope:=relabel scope X.env,locals:=s₂.heap.objs.size,globals:=X.env.globals,cells:=cellsFrom (s₂.heap.objs.size+1) scope.names cl,qual:=X.env.qual,func:=none,code:=X.env.code,frame:=X.env.frame,builtins:=X.env.builtins }
 outer:=X.stack
 stack:=X.stack
 ex:=fp
 fn:=fun x=>decide (scope.names.lookup x=some .cell)
 calm:=X.calm
 pn:=[]
 xe:=fun _ _=>False
def nu (XN:List Str) (xn sn:List (Str×NameKind)) (N2:List Str) (ix:List (Option Nat)):Bool:=
 (ix.length==N2.length) &&
 ((ix.zip N2).all fun p=>match p.1 with
   | none=>true
   | some j=>XN[j]?==some p.2 && sn.lookup p.2==some .free && (xn.lookup p.2==some .cell || xn.lookup p.2==some .free)) &&
 (sn.all fun y=>y.2 != .free || (xn.lookup y.1==some .cell || xn.lookup y.1==some .free)) &&
 (sn.all fun y=>y.2 != .local || sn.lookup y.1==some .local) &&
 (sn.all fun y=>y.2 != .free || sn.all fun z=>z.2 != .cell || z.1 != y.1)
variable {x:Str}
theorem Cp {k:NameKind} (h:(relabel scope env).names.lookup x=some k) (hk:k = .cell\/k = .free):(x,NameKind.cell)∈scope.names\/(x,NameKind.free)∈scope.names:=by
 have m:=yh h
 obtain ⟨y,hy,e⟩:=bQ.mp m
 obtain ⟨n,k0⟩:=y
 dsimp only at e
 split at e
 . rename_i hc
   cases e
   have h1:k0=NameKind.free:=by
    have:=(kX.mp (kX.mp hc).1).1
    simpa using this
   subst h1
   exact .inr hy
 . cases e
   rcases hk with rfl|rfl
   . exact .inl hy
   . exact .inr hy
theorem KP:∀{x:Str},scope.names.lookup x=some .free->(relabel scope env).names.lookup x=some .cell\/(relabel scope env).names.lookup x=some .free:=by
 intro x h
 have gen:∀(l:List (Str×NameKind)),l.lookup x=some .free->(l.map fun (n,k)=>if (k==NameKind.free && env.scope.kind == .function && env.kindOf n==some .cell) then (n,NameKind.cell) else (n,k)).lookup x=some .cell\/
   (l.map fun (n,k)=>if (k==NameKind.free && env.scope.kind == .function && env.kindOf n==some .cell) then (n,NameKind.cell) else (n,k)).lookup x=some .free:=by
  intro l
  induction l with
  | nil=>intro h;cases h
  | cons p r ih=>
    intro h
    obtain ⟨n,k⟩:=p
    rw [lC] at h
    rw [bH]
    dsimp only
    cases hb:x==n with
    | true=>
      rw [hb] at h
      cases h
      split
      . rw [lC,hb];exact .inl rfl
      . rw [lC,hb];exact .inr rfl
    | false=>
      rw [hb] at h
      split
      . rw [lC,hb];exact ih h
      . rw [lC,hb];exact ih h
 exact gen scope.names h
variable {X:Cx} {pins:AO} {σ σ2:St} {s:Shared} {N2:List Str} {cl:List (Str×Addr)} {fp:List Addr}
theorem Em (I:Inv X pins σ H s) (hk:scope.kind = .function)
  (KQ:∀y c,(y,c)∈cl->X.env.cells.lookup y=some c) (Gp:∀y,(y,NameKind.free)∈scope.names->∃c,(y,c)∈cl) (hfp:∀b∈fp,pM X pins H b) (hfo:∀b∈fp,b<s.heap.objs.size) (hl:σ2.length=N2.length)
  (hσ:∀(i:Nat) (x:Str) (v:V),N2[i]?=some x->σ2[i]?=some (some v)->scope.names.lookup x=some .free/\(X.env.kindOf x=some .cell\/X.env.kindOf x=some .free)/\∃j:Nat,X.N[j]?=some x/\σ[j]?=some (some v))
  (hd:∀x,(x,NameKind.free)∈scope.names->(x,NameKind.cell)∉scope.names):
  Inv (cX X N2 scope cl s H fp) [] σ2 H { s with heap:=pushCells (s.heap.push { cls:= .type "dict",data:= .dict #[] }) scope.names }:=by
 have keeps:∀b o,s.heap.get? b=some o->(pushCells (s.heap.push { cls:= .type "dict",data:= .dict #[] }) scope.names).get? b=some o:=fun b o e=>JX _ _ b o (cA _ e)
 have hsz:(s.heap.push { cls:= .type "dict",data:= .dict #[] }).objs.size=s.heap.objs.size+1:=mJ ..
 have BG:∀x c,cl.lookup x=some c->X.env.cells.lookup x=some c:=fun x c e=>KQ x c (yh e)
 have clt:∀x c,cl.lookup x=some c->c<s.heap.objs.size:=fun x c e=>by
  obtain ⟨v,z⟩:=I.cell x c (BG x c e)
  exact z.lt
 have there:=wR scope.names (s.heap.push { cls:= .type "dict",data:= .dict #[] }) cl (fun x c e=>by
  obtain ⟨v,z⟩:=I.cell x c (BG x c e)
  exact ⟨v,z.keeps fun b o e=>cA _ e⟩)
 rw [hsz] at there
 have cells:∀x c,(cellsFrom (s.heap.objs.size+1) scope.names cl).lookup x=some c->s.heap.objs.size+1<=c\/X.env.cells.lookup x=some c:=fun x c e=>by
  rcases mL _ _ _ e with z|z
  . exact .inl z
  . exact .inr (BG x c z)
 have okY:(cX X N2 scope cl s H fp).Ok:=by
  refine ⟨I.ok.mod,hk,I.ok.glob,I.ok.blt,aP _,?_,?_,?_,I.ok.hd,I.ok.frames, .inl rfl,?_,I.bs,fu I.ok.DZ I.sz,?_,?_,I.stack,I.xC⟩
  . exact tF _ _ _ (fun x y c hx hy=>I.ok.inj x y c (BG x c hx) (BG y c hy)) fun x c e=>QM (clt x c e)
  . intro x hx
    have m:(x,NameKind.cell)∈scope.names\/(x,NameKind.free)∈scope.names:=by
     rcases hx with z|z
     . exact Cp z (.inl rfl)
     . exact Cp z (.inr rfl)
    rcases m with m|m
    . exact tD _ _ _ m
    . obtain ⟨c,mc⟩:=Gp x m
      exact mO _ _ _ (lookup_mem mc)
  . intro x c hf e
    have hf':scope.names.lookup x=some .cell:=eO hf
    exact fu (Nat.le_succ _) (s_ _ _ _ (yh hf') e)
  . intro b hb
    refine ⟨dQ (hfo b hb),fun x c e z=>?_⟩
    have hlt:=hfo b hb
    rcases cells x c e with k|k
    . exact absurd (kY hlt (fu (Nat.le_succ _) (z▸k))) (jj _)
    . exact (hfp b hb).2.2.2.2.1 x c k z
  . intro b o e hb
    rcases (hfp b hb).2.2.2.1 with z|z
    . exact I.ok.Gk b o e z
    . exact absurd (kY (bR (I.ok.bs b o e).1) z) (jj _)
  . intro b hb hbs
    rcases c6.mp (I.Ko b hbs) with z|z
    . exact (hfp b hb).2.1 z
    . exact (hfp b hb).2.2.1 z
 refine ⟨okY,Z,I.bare,Un.kept keeps,?_,there,I.hok.fresh (aP _),?_,(fun p hp=>nomatch hp),I.hok.kept keeps,hl⟩
 . refine ⟨fun _=>none,(Heap.Ns.new s.heap (.type "dict")).keeps (JX _ _),fun i x v e1 e2 _=>?_⟩
   obtain ⟨hf,hx,j,j1,j2⟩:=hσ i x v e1 e2
   obtain ⟨m,_,hloc⟩:=I.loc
   have hv:Sv X.env.scope x:=hx.elim (fun z=> .inr (.inl z)) fun z=> .inr (.inr z)
   obtain ⟨u,r,lk⟩:=hloc j x v j1 j2 hv
   refine ⟨u,r, .inr ⟨KP hf,?_⟩⟩
   rcases lk with ⟨k,_⟩|⟨_,c,ec,ic⟩
   . rcases hx with z|z <;> rw [z] at k <;> cases k
   . refine ⟨c,?_,ic.keeps keeps⟩
     have mf:=yh hf
     show (cellsFrom (s.heap.objs.size+1) scope.names cl).lookup x=some c
     rw [tE _ _ _ (hd x mf)]
     obtain ⟨c',mc⟩:=Gp x mf
     obtain ⟨d,ed⟩:=lookup_mem mc
     rw [ed]
     have:=BG x d ed
     rw [ec] at this
     exact this.symm
 . intro x c e
   rcases cells x c e with k|k
   . exact I.hok.fresh (by omega)
   . exact I.jT x c k
variable {tg:Expr} {g:TG} {te:TE} {E:VS}
section
variable {X:Cx}
def BH (J:It) (g:TG) (te:TE) (acc:Addr) (σ₀:St) (H:Hp) (Q:VK):Prop:=∃W:Nat->Nat->St->Hp->Prop,
 (∃m,W 0 m σ₀ (upd H acc (.lst [])))/\∀i m σ2 H2,W i m σ2 H2->
   (J.stop i H2/\Q (.ref acc) H2)\/(J.go i H2/\∃(S:St->Prop) (N:V->Hp->Prop),(∀σ3 v H4,S σ3->N v H4->∃xs,H4 acc=some (.lst xs)/\xs.length<sizeLine/\∃m',m'<m/\W (i+1) m' σ3 (upd H4 acc (.lst (xs++[v]))))/\∀x H',J.D3 i H2 x H'->g x σ2 H' fun σ3 H3=>S σ3/\te σ3 H3 N)
inductive uL (Pv:Nat->List V->Hp->Prop) (i:Nat) (acc:Addr) (out:List V) (v:V) (H4:Hp):Prop
 | mk (_:H4 acc=some (.lst out)) (_:Pv (i+1) (out++[v]) (upd H4 acc (.lst (out++[v]))))
def XJ (te:TE) (σ:St) (Pv:Nat->List V->Hp->Prop) (i:Nat) (acc:Addr) (out:List V):Bool->Hp->Prop:=fun b H2=>if b=true then te σ H2 (uL Pv i acc out) else H2 acc=some (.lst out)/\Pv (i+1) out H2
def pick (ix:List (Option Nat)) (σ:St):St:=ix.map fun o=>o.bind fun j=>(σ[j]?).join
def abp (ix:List (Option Nat)) (g:TG) (te:TE) (σ:St) (Q:VK):It->Hp->Prop:=fun J H1=>∀acc,H1 acc=none->BH J g te acc (pick ix σ) H1 Q
def XM (wi:TI) (ix:List (Option Nat)) (g:TG) (te:TE):TE:=fun σ H Q=>wi σ H (abp ix g te σ Q)
theorem mP {XN:List Str} {xn sn:List (Str×NameKind)} {ix:List (Option Nat)} (h:nu XN xn sn N2 ix=true):
  ix.length=N2.length/\(∀(i:Nat) (x:Str) (j:Nat),N2[i]?=some x->ix[i]?=some (some j)->XN[j]?=some x/\sn.lookup x=some .free/\(xn.lookup x=some .cell\/xn.lookup x=some .free))/\
  (∀y∈sn,y.2 = .free->xn.lookup y.1=some .cell\/xn.lookup y.1=some .free)/\(∀y∈sn,y.2 = .local->sn.lookup y.1=some .local)/\∀x,(x,NameKind.free)∈sn->(x,NameKind.cell)∉sn:=by
 unfold nu at h
 obtain ⟨h,h5⟩:=kX.mp h
 obtain ⟨h,h4⟩:=kX.mp h
 obtain ⟨h,h3⟩:=kX.mp h
 obtain ⟨h1,h2⟩:=kX.mp h
 have e1:ix.length=N2.length:=by simpa using h1
 refine ⟨e1,fun i x j a b=>?_,fun y hy e=>?_,fun y hy e=>?_,fun x m1 m2=>?_⟩
 . have m:(some j,x)∈ix.zip N2:=by
    refine bJ (i:=i) ?_
    rw [List.getElem?_zip_eq_some]
    exact ⟨b,a⟩
   have q:=pF.mp h2 _ m
   dsimp only at q
   obtain ⟨q,q3⟩:=kX.mp q
   obtain ⟨q1,q2⟩:=kX.mp q
   exact ⟨by simpa using q1,by simpa using q2,(Ga.mp q3).imp (fun z=>by simpa using z) fun z=>by simpa using z⟩
 . have q:=pF.mp h3 y hy
   rcases Ga.mp q with z|z
   . rw [e] at z;simp at z
   . exact (Ga.mp z).imp (fun z=>by simpa using z) fun z=>by simpa using z
 . have q:=pF.mp h4 y hy
   rcases Ga.mp q with z|z
   . rw [e] at z;simp at z
   . simpa using z
 . have q:=pF.mp h5 _ m1
   rcases Ga.mp q with z|z
   . simp at z
   . have q2:=pF.mp z _ m2
     simp at q2
theorem En {ix:List (Option Nat)} {Q:VK}
  {RR:Value->Addr->Result->Shared->Prop} (hc:X.calm=true) (hg:∀cl s₂ H₂ fp,PG (cX X N2 scope cl s₂ H₂ fp) tg g) (he:∀cl s₂ H₂ fp,PE (cX X N2 scope cl s₂ H₂ fp) elt te)
  (hk:scope.kind = .function) (hn:nu X.N X.env.scope.names scope.names N2 ix=true)
  (KQ:∀y c,(y,c)∈cl->X.env.cells.lookup y=some c) (Gp:∀y,(y,NameKind.free)∈scope.names->∃c,(y,c)∈cl)
  {it:Addr} {fp:List Addr} {tn:Nat->Heap->Prop} {J:It} (I:Inv X pins σ H s) (T:Turn X.prog X.w X.K tg J fp it tn) (st:tn 0 s.heap) (f:∀b∈fp,pM X pins H b)
  (h:∀acc,H acc=none->BH J g te acc (ix.map fun o=>o.bind fun j=>(σ[j]?).join) H Q)
  (hR:∀acc C H' s' m,Inv X pins σ H' s'->s'.heap.Ns C m->H' C=none->C≠X.env.locals->X.s₀.heap.objs.size<=C->(∀x c,X.env.cells.lookup x=some c->c≠C)->(∀p∈X.pn++pins,p.1≠C)->Q (.ref acc) H'->RR (.ref acc) C (.ok .next) s'):
  wpAny (model X.prog X.w) X.A (newList []) (fun acc s₃=>wpAny (model X.prog X.w) X.A (newFunctionEnv scope X.env.globals cl [] X.env.qual none .none (some X.env)) (fun cenv s₄=>
   codeAny (model X.prog X.w) X.A (.compStart (.ListComp elt [⟨tg,iter,[],0⟩] scope pos) 0 (.ref it) acc { cenv with scope:=relabel scope X.env }) (RR acc cenv.locals) s₄) E s₃) E s:=by
 obtain ⟨k1,k2,k3,k4,k5⟩:=mP hn
 refine qN ?_
 have I3:Inv X pins σ (upd H s.heap.objs.size (.lst [])) { s with heap:=s.heap.push { cls:= .type "list",data:= .seq ([] :List Value).toArray } }:=
  I.laid (a:=s.heap.objs.size) (o:= .lst []) (t':=s.toks) (fun _ _ q=>cA _ q) (aP _) ⟨f_ _,[],_, .nil,dZ _ rfl⟩
 obtain ⟨W,⟨m0,w0⟩,turn⟩:=h s.heap.objs.size I.fresh
 have fo:∀b∈fp,b<s.heap.objs.size:=fun b hb=>by
  obtain ⟨o,e,_⟩:=T.obj 0 _ st b hb
  exact bR e
 have st3:tn 0 (s.heap.push { cls:= .type "list",data:= .seq ([] :List Value).toArray }):=T.keep _ _ _ st fun b _ o e=>cA _ e
 have f3:∀b∈fp,pM X pins (upd H s.heap.objs.size (.lst [])) b:=fun b hb=>⟨by rw [av (dQ (fo b hb))];exact (f b hb).1,(f b hb).2⟩
 have Tj:∀b∈fp,b<(s.heap.push { cls:= .type "list",data:= .seq ([] :List Value).toArray }).objs.size:=fun b hb=>by rw [mJ];exact QM (fo b hb)
 generalize es3:({ s with heap:=s.heap.push { cls:= .type "list",data:= .seq ([] :List Value).toArray } }:Shared)=s3 at *
 have eh3:s3.heap=s.heap.push { cls:= .type "list",data:= .seq ([] :List Value).toArray }:=by rw [<-es3]
 rw [<-eh3] at st3 Tj
 generalize s.heap.objs.size=acc at *
 generalize eH3:upd H acc (.lst [])=H3 at *
 have IY:=Em (N2:=N2) (scope:=scope) (cl:=cl) (fp:=fp) (σ2:=ix.map fun o=>o.bind fun j=>(σ[j]?).join) I3 hk KQ Gp f3 Tj (by rw [aE];exact k1) (fun i x v e1 e2=>by
  rw [bF] at e2
  cases ei:ix[i]? with
  | none=>rw [ei] at e2;cases e2
  | some o=>
    rw [ei] at e2
    cases o with
    | none=>cases e2
    | some j=>
      obtain ⟨a1,a2,a3⟩:=k2 i x j e1 ei
      refine ⟨a2,a3,j,a1,?_⟩
      have e3:(σ[j]?).join=some v:=fY e2
      cases ej:σ[j]? with
      | none=>rw [ej] at e3;cases e3
      | some z=>rw [ej] at e3;exact gU some e3) k5
 have ne:wpAny (model X.prog X.w) X.A (newFunctionEnv scope X.env.globals cl [] X.env.qual none .none (some X.env)) (fun cenv s₄=>
   cenv={ scope:=scope,locals:=s3.heap.objs.size,globals:=X.env.globals,cells:=cellsFrom (s3.heap.objs.size+1) scope.names cl,qual:=X.env.qual,func:=none,code:=X.env.code,frame:=X.env.frame,builtins:=X.env.builtins }/\
   s₄={ s3 with heap:=pushCells (s3.heap.push { cls:= .type "dict",data:= .dict #[] }) scope.names }) E s3:=by
  simp only [newFunctionEnv,Option.isSome_some,rQ]
  refine aq (wpAny_alloc ?_)
  refine aq (wpAny_layCells _ (fun name kind cells=>by cases hkc:kind==NameKind.cell <;> simp [hkc]) _ _ _ _ ?_)
  rw [DU]
  refine aq (aL (aL ⟨?_,Z⟩))
  rw [show ({ s3 with heap:=s3.heap.push { cls:= .type "dict",data:= .dict #[] } }:Shared).heap.objs.size=s3.heap.objs.size+1 from mJ ..]
 refine bg ne fun cenv s4 ⟨e1,e2⟩=>?_
 subst e1 e2
 have Tn:tn 0 (pushCells (s3.heap.push { cls:= .type "dict",data:= .dict #[] }) scope.names):=T.keep _ _ _ st3 fun b _ o e=>JX _ _ b o (cA _ e)
 have Ag:s3.heap.objs.size≠X.env.locals:=yp I3.lt
 have uM:∀{H':Hp},(∀b∈fp,H' b=none)->∀b∈fp,pM (cX X N2 scope cl s3 H3 fp) [] H' b:=fun {H'} hn b hb=>
  ⟨hn b hb,(IY.ok.Kn b hb).1,IY.ok.CQ b hb, .inl hb,(IY.ok.Kn b hb).2,fun p hp=>nomatch hp⟩
 have loop:codeAny (model X.prog X.w) X.A (.compLoop (.ListComp elt [⟨tg,iter,[],0⟩] scope pos) 0 (.ref it) (.ref acc) (cX X N2 scope cl s3 H3 fp).env) (RR (.ref acc) s3.heap.objs.size)
   { s3 with heap:=pushCells (s3.heap.push { cls:= .type "dict",data:= .dict #[] }) scope.names }:=by
  refine KO (fun n s'=>∃i σ' H',Inv (cX X N2 scope cl s3 H3 fp) [] σ' H' s'/\tn i s'.heap/\(∀b∈fp,H' b=none)/\W i n σ' H') ?_ m0 ⟨0,_,H3,IY,Tn,fun b hb=>(f3 b hb).1,w0⟩
  rintro n s5 ⟨i,σ5,H5,I5,Ah,KR,w5⟩
  rcases turn i n σ5 H5 w5 with ⟨stop,qn⟩|⟨go,S,N,hSN,step⟩
  . refine bg (T.done (cX X N2 scope cl s3 H3 fp) rfl rfl rfl hc i [] s5 σ5 H5 (fun _ _=>False) I5 (uM KR) Ah stop) fun r s6 ⟨hr,I6⟩=>?_
    subst hr
    obtain ⟨m6,ns6,_⟩:=id I6.loc
    have IX:Inv X pins σ H5 s6:=I3.J0 (ch:=fp) I6.os I6.base I6.hok I6.bare fun b hb=>⟨(f3 b hb).2.2.2.1,(f3 b hb).2.1,(f3 b hb).2.2.2.2.1,(f3 b hb).2.2.2.2.2⟩
    refine hR acc s3.heap.objs.size H5 s6 m6 IX ns6 I6.free Ag I3.sz (fun x c e z=>?_) (fun p hp z=>?_) qn
    . obtain ⟨v,q⟩:=I3.cell x c e
      exact absurd q.lt (by rw [z];exact jj _)
    . exact absurd (bR (I3.pin p hp).1) (by rw [z];exact jj _)
  . refine bg (T.item (cX X N2 scope cl s3 H3 fp) rfl rfl rfl hc i [] s5 σ5 H5 (fun _ _=>False) I5 (uM KR) Ah go) fun r s6 ⟨u,hr,h6⟩=>?_
    subst hr
    refine bg h6 fun _ s7 ⟨x,H7,I7,r7,y7,Eo,To⟩=>?_
    have I7':=I7.pinned (uM To) (T.obj _ _ Eo)
    refine bg (hg cl s3 H3 fp _ s7 σ5 H7 x u _ I7' r7 (step x H7 y7)) fun _ s8 ⟨σ8,H8,I8,XO,q8⟩=>?_
    refine bg (he cl s3 H3 fp _ s8 σ8 H8 _ I8 q8) fun y s9 ⟨v,H9,I9,r9,q9⟩=>?_
    obtain ⟨xs,hxs,hxl,m',hm,w9⟩:=hSN σ8 v H9 XO q9
    refine bg (gZ _ s9 σ8 H9 (.ref acc) [v] (.ref acc) [y] (fun z KS=>z = .b_/\KS=upd H9 acc (.lst (xs++[v]))) I9 rfl (.cons r9 .nil) ⟨acc,xs,v,Z,Z,hxs,hxl,Z,Z⟩) fun z s10 ⟨zv,KS,KU,r10,ez,eH⟩=>?_
    subst eH
    refine ⟨m',hm,i+1,σ8,_,KU.qR,T.keep _ _ _ Eo fun b hb o e=>(KU.pin (b,o) (jK _ (jK _ (jk hb e)))).1,fun b hb=>?_,w9⟩
    obtain ⟨o,e,d⟩:=T.obj _ _ Eo b hb
    exact (KU.pin (b,o) (jK _ (jK _ (jk hb e)))).2.1
 exact codeAny_compStart_list loop (T.self _ 0 _ _ _ Tn loop)
end
variable {acc:Addr}
theorem Rg {lo:Int} {k:Nat} {Q:VK} (Pv:Nat->List V->Hp->Prop) (hn:n<=100000) (h0:Pv 0 [] (upd H acc (.lst [])))
  (hs:∀(i:Nat) (out:List V) (H1:Hp),i<n->out.length=i->H1 acc=some (.lst out)->Pv i out H1->te (σ2.set k (some (.int (lo+i)))) H1 (uL Pv i acc out))
  (hd:∀(out:List V) (H1:Hp),out.length=n->H1 acc=some (.lst out)->Pv n out H1->Q (.ref acc) H1):
  BH (HN lo n) (gh k) te acc σ2 H Q:=by
 refine ⟨fun i m σ' H'=>m=n-i/\i<=n/\(∀v,σ'.set k (some v)=σ2.set k (some v))/\∃out,out.length=i/\H' acc=some (.lst out)/\Pv i out H',⟨n,by simp,f_ _,fun _=>rfl,[],Z,ai,h0⟩,?_⟩
 rintro i m σ' H' ⟨rfl,hi,hσ,out,ho,ha,p⟩
 by_cases hlt:i<n
 . refine .inr ⟨hlt,fun σ3=>∀v,σ3.set k (some v)=σ2.set k (some v),(uL Pv i acc out),fun σ3 v H4 hS ⟨a,b⟩=>?_,fun x H1 y=>?_⟩
   . refine ⟨out,a,?_,n-(i+1),by omega,Z,hlt,hS,out++[v],by rw [dh,ho];rfl,ai,b⟩
     have:sizeLine=16777216:=fB
     omega
   . obtain ⟨e,y⟩:=y
     subst e y
     refine ⟨fun v=>by rw [mK];exact hσ v,?_⟩
     have q:=hs i out _ hlt ho ha p
     rw [<-hσ] at q
     exact q
 . have e:i=n:=by omega
   subst e
   exact .inl ⟨aP _,hd out H' ho ha p⟩
variable {H':Hp}
theorem aF.cD {p:Addr} (e:aF H H') (h:H p=none) (o:HO):aF H (upd H' p o):=fun b u q=>by rw [av (aH q h)];exact e b u q
theorem Cq (n d:Int):SeqAt.shaped (.tuple [.int n, .int d])=true:=rfl
theorem Wl (n d:Int):PyData.eqv (.tuple [.int n, .int d]) (.tuple [.int n, .int d])=true:=by simp [PyData.eqv,PyData.eqvAll]
variable {q:Rat}
theorem Tp {p:Addr} (h:H p=some (pT q)):Dt K H (.ref p) (.tuple [.int q.num, .int (q.den:Int)]):= .tup (cS.of h) (.cons (.int _) (.cons (.int _) .nil))
inductive abx (vs:List V) (H:Hp) (Q:VK) (E:XK):Prop
 | mk (t b:Int) (_:vs=[.int t, .int b]) (_:0<b) (_:Jm.Sz 9000 b) (_:∀(r:Addr) (H':Hp),aF H H'->H' r=some (pT (Jm.fr t b))->Q (.ref r) H')
def BI:Sp:=bx (abx)
theorem H_ {Q:VK} {E:XK} {t b:Int} (h0:0<b) (h1:Jm.Sz 9000 b) (h:∀(r:Addr) (H':Hp),aF H H'->H' r=some (pT (Jm.fr t b))->Q (.ref r) H'):BI [.int t, .int b] H Q E:=⟨t,b,Z,h0,h1,h⟩
inductive xIs (vs:List V) (H:Hp) (Q:VK) (E:XK):Prop
 | mk (p:Addr) (q:Rat) (t b:Int) (_:vs=[.ref p, .int t, .int b]) (_:H p=some (pT q)) (_:0<b) (_:Jm.Sz 9000 b) (_:q=Jm.fr t b) (_:∀H',aF H H'->Q (.bl true) H')
def Wm:Sp:=bx (xIs)
theorem aby {Q:VK} {E:XK} {p:Addr} {t b:Int} (hp:H p=some (pT q)) (h0:0<b) (h1:Jm.Sz 9000 b) (e:q=Jm.fr t b) (h:∀H',aF H H'->Q (.bl true) H'):Wm [.ref p, .int t, .int b] H Q E:=⟨p,q,t,b,Z,hp,h0,h1,e,h⟩
section
variable {X:Cx}
theorem Wn (hc:X.calm=true):gW X (.builtin "sum") (fun xs H Q=>∃(a:Addr) (ns:List Int),xs=[.ref a]/\aC X.K H a (ns.map V.int)/\Q (.int ns.sum) H):=by
 intro pins s σ H xs us Q I r h
 obtain ⟨a,ns,rfl,hS,q⟩:=h
 obtain ⟨u,rfl,ru⟩:=vals1 r
 cases ru
 obtain ⟨its,rv,p,hz⟩:=I.list hS
 have hi:=intsAre_of rv
 have hl:=p.isList
 obtain ⟨o,ho,_⟩:=id hl
 have hne:a≠s.heap.objs.size:=dQ (bR ho)
 have W:=(Walks.list (prog:=X.prog) (w:=X.w) (A:=X.A.in1) (I.ok.hd hc) s.heap.objs.size a hne its.toArray).toS
 have Ep:its.length=ns.length:=by rw [<-rv.length,aE]
 refine call_sum_walkAnyS (QK hl ?_)
 refine ⟨s.heap.objs.size,_,_,_,_,_,_,fun i=>ns.getD i 0,Z,W,⟨⟨_,dZ _ rfl,Z,Z⟩,hl.at fun o e=>cA _ e⟩,fun b hb=>?_,fun i v hP=>?_,fun s' t' hm=>?_⟩
 . rcases c6.mp hb with rfl|hb
   . exact bR (dZ _ rfl)
   . obtain rfl:=fU.mp hb
     exact bR (cA _ ho)
 . have Tq:its[i]?=some v:=by simpa using hP
   have hil:i<ns.length:=by
    have:=(dI.mp Tq).1
    omega
   obtain ⟨u,hu,ru⟩:=rv.get (i:=i) (x:=V.int ns[i]) (by rw [bF,aW hil];rfl)
   rw [Tq] at hu
   cases hu
   obtain ⟨t,e⟩:=ru
   refine ⟨t,?_⟩
   rw [e]
   show Value.int ns[i] t=Value.int (ns.getD i 0) t
   rw [gG,aW hil]
   rfl
 . obtain ⟨h',g',d',tk',os'⟩:=s'
   have e1:g'=s.gens:=hm.gens
   have e2:d'=s.drawn:=hm.drawn
   have e3:os'=s.os:=hm.os
   subst e1 e2 e3
   have hsz:its.toArray.size=ns.length:=by rw [gK,Ep]
   rw [hsz,preSum_getD,zW (aP _)]
   exact ⟨.int ns.sum,H,I.kept (h':=h') (t':=tk') fun b o e=>hm.heap b o (fun hb=>absurd (bR e) ((fU.mp hb)▸jj _)) (cA _ e),⟨t',Z⟩,q⟩
theorem Wo (hc:X.calm=true):gW X (.builtin "all") (fun xs H Q=>∃(a:Addr) (bs:List Bool),xs=[.ref a]/\aC X.K H a (bs.map V.bl)/\Q (.bl (bs.all id)) H):=by
 intro pins s σ H xs us Q I r h
 obtain ⟨a,bs,rfl,hS,q⟩:=h
 obtain ⟨u,rfl,ru⟩:=vals1 r
 cases ru
 obtain ⟨its,rv,p,hz⟩:=I.list hS
 have hl:=p.isList
 obtain ⟨o,ho,_⟩:=id hl
 have hne:a≠s.heap.objs.size:=dQ (bR ho)
 have Ep:its.length=bs.length:=by rw [<-rv.length,aE]
 refine call_all_walk (QK hl ?_)
 refine ⟨s.heap.objs.size,_,_,_,_,_,fun i=>bs.getD i false,Z,Walks.list (prog:=X.prog) (w:=X.w) (A:=X.A.in1) (I.ok.hd hc) s.heap.objs.size a hne its.toArray,⟨⟨_,dZ _ rfl,Z,Z⟩,hl.at fun o e=>cA _ e⟩,fun i v s' Q' E' hP hQ=>?_,fun h' tk hk=>?_⟩
 . have Tq:its[i]?=some v:=by simpa using hP
   have hil:i<bs.length:=by
    have:=(dI.mp Tq).1
    omega
   obtain ⟨u,hu,ru⟩:=rv.get (i:=i) (x:=V.bl bs[i]) (by rw [bF,aW hil];rfl)
   rw [Tq] at hu
   cases hu
   have e:v=Value.bool bs[i] :=ru
   subst e
   refine zZ ?_
   have hQ2:Q' (bs.getD i false) s':=hQ
   rw [gG,aW hil] at hQ2
   exact hQ2
 . have hsz:its.toArray.size=bs.length:=by rw [gK,Ep]
   have e:(List.range its.toArray.size).all (fun i=>bs.getD i false)=bs.all id:=by
    rw [hsz,Bl,pF,pF]
    refine ⟨fun z x hx=>?_,fun z i hi=>?_⟩
    . obtain ⟨i,hi,e⟩:=List.mem_iff_getElem.mp hx
      have:=z i (ym.mpr hi)
      rw [gG,aW hi] at this
      rw [<-e]
      exact this
    . have hi':=ym.mp hi
      rw [gG,aW hi']
      exact z _ (rN hi')
   rw [e]
   exact ⟨.bl (bs.all id),H,I.kept (h':=h') (t':=tk) fun b o e=>hk b o (fun hb=>absurd (bR e) ((fU.mp hb)▸jj _)) (cA _ e),Z,q⟩
end
section
variable {X:Cx} (K:Fg)
theorem bZ (hK:X.K=K:=by rfl):zz X (Q9 K):=hK▸S0
theorem aK (hK:X.K=K:=by rfl):zz X (Q8 K):=hK▸O6
theorem Gq (hu:X.A.units+64<cLine) (hK:X.K=K:=by rfl):gY X (compareOp .Eq) (Wi K):=hK▸abl hu
theorem O_ (hu:X.A.units+64<cLine) (hK:X.K=K:=by rfl):gY X (compareOp .NotEq) (abk K):=hK▸abm hu
theorem lV (hc:X.calm=true) (hK:X.K=K:=by rfl):gW X (.builtin "sum") (fun xs H Q=>∃(a:Addr) (ns:List Int),xs=[.ref a]/\aC K H a (ns.map V.int)/\Q (.int ns.sum) H):=hK▸Wn hc
theorem Tr (hc:X.calm=true) (hK:X.K=K:=by rfl):gW X (.builtin "all") (fun xs H Q=>∃(a:Addr) (bs:List Bool),xs=[.ref a]/\aC K H a (bs.map V.bl)/\Q (.bl (bs.all id)) H):=hK▸Wo hc
theorem bV (hK:X.K=K:=by rfl):gW X (.builtin "len") (fun xs H Q=>∃p ys,xs=[.ref p]/\(aC K H p ys\/cS K H p ys)/\Q (.int ys.length) H):=hK▸Kz
theorem nN (hK:X.K=K:=by rfl):gW X (.type "list") (fun xs H Q=>∃p ys,xs=[.ref p]/\(aC K H p ys\/cS K H p ys)/\∀l,H l=none->Q (.ref l) (upd H l (.lst ys))):=hK▸KC
theorem cY (hK:X.K=K:=by rfl):gW X (.builtin "isinstance") (fun xs H Q=>∃x n t b,xs=[x, .ty n]/\gH K H x t/\PySem.W.kitOne K t (.type n)=some b/\Q (.bl b) H):=hK▸NH
end
theorem NI {l1 l2:Nat} (h1:l1<n) (h2:l2<n):ZipApart (n+4) (n+2) (n+3) n (n+1) l1 l2:=by
 have nn:∀i j:Nat,i≠j->n+i≠n+j:=fun i j h e=>h (Nat.add_left_cancel e)
 have ne:∀(c k:Nat),c<n->c≠n+k:=fun c k h=>by omega
 exact ⟨nn 2 4 (by decide),nn 3 4 (by decide),nn 0 4 (by decide),nn 1 4 (by decide),nn 2 3 (by decide),nn 2 0 (by decide),nn 2 1 (by decide),nn 3 0 (by decide),nn 3 1 (by decide),nn 0 1 (by decide),ne _ 4 h1,ne _ 3 h1,ne _ 0 h1,ne _ 1 h1,ne _ 4 h2,ne _ 3 h2,ne _ 0 h2,ne _ 1 h2⟩
section
variable {X:Cx} {elts:List Expr} {kk:Nat} {tpos:Pos}
end
inductive ael (K:Fg) (vs:List V) (H:Hp) (Q:VK) (E:XK):Prop
 | mk (a:Addr) (ns:List Int) (k j:Int) (_:vs=[.ref a, .int k, .int j]) (_:aC K H a (ns.map V.int)) (_:ns.length<=63) (_:0<=k) (_:0<=j) (_:j<2 ^ 61) (_:∀(m:Int) (H':Hp),1<=m->m<=1000000000->aF H H'->Q (.int m) H')
def KW (K:Fg):Sp:=bx (ael K)
theorem Wq {Q:VK} {E:XK} {k j:Int} (hS:aC K H a (ns.map V.int)) (h63:ns.length<=63) (h1:0<=k) (h2:0<=j) (h3:j<2 ^ 61)
  (h:∀(m:Int) (H':Hp),1<=m->m<=1000000000->aF H H'->Q (.int m) H'):KW K [.ref a, .int k, .int j] H Q E:=⟨a,ns,k,j,Z,hS,h63,h1,h2,h3,h⟩
variable {xs:List V} {i:Nat}
theorem jc {v:V} (h:xs[i]?=some v):oU xs (i:Int)=some v:=aT h
section
variable {X:Cx}
inductive aem (Q:VK) (vs:List V) (H1:Hp):Prop
 | mk  (j:Int) (_:vs=[.int j]) (_:∀p,H1 p=none->Q (.ref p) (upd H1 p (.vW 0 j)))
def ahD (ta:TA):TE:=fun σ H Q=>ta σ H (aem Q)
def upTo (n:Nat):List Int:=(List.range n).map fun i=>((i:Nat):Int)
theorem IQ (hc:X.calm=true):gW X (.type "list") (fun xs H Q=>∃(r:Addr) (n:Nat),xs=[.ref r]/\H r=some (.vW 0 (n:Int))/\n<=1000/\∀l,H l=none->Q (.ref l) (upd H l (.lst ((upTo n).map V.int)))):=by
 intro pins s σ H xs us Q I r h
 obtain ⟨a,n,rfl,hr,hn,q⟩:=h
 obtain ⟨u,rfl,ru⟩:=vals1 r
 cases ru
 obtain ⟨t,t2,t3,e⟩:=(show dO X.prog X.w H s.heap a (.vW 0 (n:Int)) from I.hok a _ hr)
 refine call_list_range (n:=n) (I.ok.hd hc) e (small_one (by decide) (by decide) (by omega) (by omega)) (by rw [rangeSize_one];split <;> omega) (by omega) fun h' tk acc' c' hk hS hI=>?_
 obtain ⟨hsz,hit⟩:=hI
 have hv:Vals ((upTo n).map V.int) acc'.toList:=by
  have gen:∀(m:Nat) (us:List Value) (k:Nat),us.length=m->(∀(j:Nat) (v:Value),us[j]?=some v->∃t,v = .int ((0:Int)+((k+j:Nat):Int)*1) t)->Vals (((List.range' k m).map fun i=>((i:Nat):Int)).map V.int) us:=by
   intro m
   induction m with
   | zero=>intro us k hl _;rw [List.length_eq_zero_iff.mp hl];exact .nil
   | succ m ih=>
     intro us k hl hu
     cases us with
     | nil=>cases hl
     | cons v r=>
       obtain ⟨t,e⟩:=hu 0 v rfl
       refine .cons ⟨t,?_⟩ (ih r (k+1) (by simpa using hl) fun j v' hj=>?_)
       . rw [e]
         show Value.int _ t=Value.int ((k:Nat):Int) t
         congr 1
         omega
       . obtain ⟨t,e⟩:=hu (j+1) v' (by simpa using hj)
         exact ⟨t,by rw [e];congr 1;omega⟩
  have:=gen n acc'.toList 0 (by simpa using hsz) fun j v hj=>by
   obtain ⟨t,e⟩:=hit j v (by simpa using hj)
   exact ⟨t,by rw [e];congr 1;omega⟩
  unfold upTo
  rw [List.range_eq_range']
  exact this
 have hlen:((upTo n).map V.int).length<=sizeLine:=by unfold upTo;simp;exact small (by omega)
 exact ⟨.ref s.heap.objs.size,_,I.laid (a:=s.heap.objs.size) (o:= .lst ((upTo n).map V.int)) (h':=h') (t':=tk) hk (aP _) ⟨hlen,acc'.toList,c',hv,by simpa using hS⟩,Z,q _ I.fresh⟩
inductive Y7 (K:Fg) (Q:VK) (x:V) (y:V) (H2:Hp):Prop
 | mk  (_:y = .int (-1)) (a xs:_) (_:x = .ref a) (_:aC K H2 a xs) (_:∀p,H2 p=none->Q (.ref p) (upd H2 p (.lst xs.reverse)))
def aen (K:Fg) (ts:TE) (σ:St) (Q:VK):V->Hp->Prop:=fun x H1=>ts σ H1 (Y7 K Q x)
def ahE (K:Fg) (te ts:TE):TE:=fun σ H Q=>te σ H (aen K ts σ Q)
end
theorem sum_set:∀(as:List Int) (j:Nat) (x:Int),j<as.length->(as.set j x).sum=as.sum-as.getD j 0+x
 | [],j,_,h=>absurd h (Nat.not_lt_zero _)
 | a::r,0,x,_=>by
   show (x::r).sum=(a::r).sum-a+x
   rw [cI,cI];omega
 | a::r,j+1,x,h=>by
   show (a::r.set j x).sum=(a::r).sum-r.getD j 0+x
   rw [cI,cI,sum_set r j x (by simpa using h)];omega
theorem oq (as:List Int) (j k:Nat) (x:Int) (h:j<as.length):(as.set j x).getD k 0=if k=j then x else as.getD k 0:=by
 rw [gG,List.getElem?_set]
 by_cases e:j=k
 . subst e
   rw [aA rfl,aA h,aA rfl]
   rfl
 . rw [az e,az (bU e),<-gG]
theorem oX {k:Nat} (h:k<n):Cm n (k:Int)=some k:=by
 unfold Cm
 rw [aA (by omega),aA (by omega)]
 rfl
abbrev tx (cs:List Nat):Str:=⟨cs.toArray⟩
theorem xM (x:Str):tx x.cps.toList=x:=by cases x;rfl
theorem kr (cs:List Nat):(tx cs).length=cs.length:=by show cs.toArray.size=_;rw [gK]
theorem Tt (a b:List Nat):(tx a++tx b:Str)=tx (a++b):=by
 show (⟨a.toArray++b.toArray⟩:Str)=_
 simp [tx]
def XQ (cs:List Nat):It:=⟨fun i _=>i<cs.length,fun i H v H'=>H'=H/\∃c,cs[i]?=some c/\v = .str (tx [c]),fun i _=>cs.length<=i⟩
theorem Rh {P:Program} {w:World} {K:Fg} {tg:Expr} (x:Str) (t:Tok) (it:Addr):Turn P w K tg (XQ x.cps.toList) [it] it (fun i h=>h.IsStrIter it "str_ascii_iterator" x t i) where
 mem:=by simp
 obj:=fun i h st b hb=>by
  have e:b=it:=by simpa using hb
  subst e
  obtain ⟨o,e,c,d⟩:=st
  exact ⟨o,e,fun v z=>by rw [d] at z;cases z⟩
 keep:=fun i h h' st k=>let ⟨o,ho,r⟩:=st;⟨o,k it (by simp) o ho,r⟩
 item:=by
  intro X hP hw hK hc i pins s σ H E I hf st hg
  subst hP hw hK
  have hi:i<x.cps.size:=by have hg':i<x.cps.toList.length:=hg;simpa using hg'
  obtain ⟨f0,f1,f2,f3,f4,f5⟩:=hf it (by simp)
  refine wpAny_pyNext_ascii_item st (c:=x.cps[i]) (by simp [hi]) fun h' st' sb=>?_
  have I1:Inv X pins σ H { s with heap:=h',toks:=s.toks+1 }:=I.turned (t':=s.toks+1) (fun b o hb e=>sb.extBut b o hb e) f0 f1 f3 f4 f5
  obtain ⟨o,e,c,d⟩:=id st'
  exact ⟨_,Z,D4 (s:={ s with heap:=h',toks:=s.toks+1 }) e c d (by decide) ⟨.str (tx [x.cps[i]]),H,I1,⟨_,Z⟩,⟨Z,x.cps[i],by simp [hi],Z⟩,st',fun b hb=>(hf b hb).1⟩⟩
 done:=by
  intro X hP hw hK hc i pins s σ H E I hf st hg
  subst hP hw hK
  have hi:x.cps.size<=i:=by have hg':x.cps.toList.length<=i:=hg;simpa using hg'
  obtain ⟨f0,f1,f2,f3,f4,f5⟩:=hf it (by simp)
  exact wpAny_pyNext_ascii_end (I.ok.hd hc) st (by simp;omega) fun h' eb=>⟨Z,I.turned (t':=s.toks) (fun b o hb e=>eb b o hb e) f0 f1 f3 f4 f5⟩
 self:=fun _ _ _ _ _ st h=>wpAny_pyIter_striter_ascii st h
theorem Tu {P:Program} {w:World} {K:Fg} {tg:Expr} (x:Str) (t:Tok) (it:Addr):Turn P w K tg (XQ x.cps.toList) [it] it (fun i h=>h.IsStrIter it "str_iterator" x t i) where
 mem:=by simp
 obj:=fun i h st b hb=>by
  have e:b=it:=by simpa using hb
  subst e
  obtain ⟨o,e,c,d⟩:=st
  exact ⟨o,e,fun v z=>by rw [d] at z;cases z⟩
 keep:=fun i h h' st k=>let ⟨o,ho,r⟩:=st;⟨o,k it (by simp) o ho,r⟩
 item:=by
  intro X hP hw hK hc i pins s σ H E I hf st hg
  subst hP hw hK
  have hi:i<x.cps.size:=by have hg':i<x.cps.toList.length:=hg;simpa using hg'
  obtain ⟨f0,f1,f2,f3,f4,f5⟩:=hf it (by simp)
  refine wpAny_pyNext_wide_item st (c:=x.cps[i]) (by simp [hi]) fun h' st' sb=>?_
  have I1:Inv X pins σ H { s with heap:=h',toks:=s.toks+1 }:=I.turned (t':=s.toks+1) (fun b o hb e=>sb.extBut b o hb e) f0 f1 f3 f4 f5
  obtain ⟨o,e,c,d⟩:=id st'
  exact ⟨_,Z,D4 (s:={ s with heap:=h',toks:=s.toks+1 }) e c d (by decide) ⟨.str (tx [x.cps[i]]),H,I1,⟨_,Z⟩,⟨Z,x.cps[i],by simp [hi],Z⟩,st',fun b hb=>(hf b hb).1⟩⟩
 done:=by
  intro X hP hw hK hc i pins s σ H E I hf st hg
  subst hP hw hK
  have hi:x.cps.size<=i:=by have hg':x.cps.toList.length<=i:=hg;simpa using hg'
  obtain ⟨f0,f1,f2,f3,f4,f5⟩:=hf it (by simp)
  exact wpAny_pyNext_wide_end (I.ok.hd hc) st (by simp;omega) fun h' eb=>⟨Z,I.turned (t':=s.toks) (fun b o hb e=>eb b o hb e) f0 f1 f3 f4 f5⟩
 self:=fun _ _ _ _ _ st h=>wpAny_pyIter_striter_wide st h
variable {cs:List Nat}
section
variable {X:Cx} {tg:Expr}
inductive aeo (R:It->Hp->Prop) (x:V) (H1:Hp):Prop
 | mk  (cs:List Nat) (_:x = .str (tx cs)) (_:R (XQ cs:_) H1)
def abz (te:TE):TI:=fun σ H R=>te σ H (aeo R)
theorem abA {l:Expr} {tl:TE} (hl:PE X l tl):PI X tg l (abz tl):=by
 intro pins s σ H R I h
 refine bg (hl pins s σ H _ I h) fun v s1 ⟨x,H1,I1,r1,q1⟩=>?_
 obtain ⟨cs,e,q⟩:=q1
 subst e
 obtain ⟨t,rfl⟩:=r1
 have fp:∀b∈[s1.heap.objs.size],pM X pins H1 b:=fun b hb=>by
  have e:b=s1.heap.objs.size:=by simpa using hb
  subst e
  exact I1.Gm (aP _) (I1.hok.fresh (aP _))
 have tw:=@Tu X.prog X.w X.K tg (tx cs) t s1.heap.objs.size
 have ta:=@Rh X.prog X.w X.K tg (tx cs) t s1.heap.objs.size
 cases ha:(tx cs).cps.all (·<128)
 . exact wpAny_pyIter_wide ha ⟨s1.heap.objs.size,[s1.heap.objs.size],_,_,H1,Z,I1.kept (t':=s1.toks) fun b o e=>cA _ e,tw,⟨_,dZ _ rfl,Z,Z⟩,fp,q⟩
 . exact wpAny_pyIter_ascii ha ⟨s1.heap.objs.size,[s1.heap.objs.size],_,_,H1,Z,I1.kept (t':=s1.toks) fun b o e=>cA _ e,ta,⟨_,dZ _ rfl,Z,Z⟩,fp,q⟩
theorem Wr {k:Nat} {Q:VK} (Pv:Nat->List V->Hp->Prop) (hn:cs.length<=100000) (h0:Pv 0 [] (upd H acc (.lst [])))
  (hs:∀(i:Nat) (c:Nat) (out:List V) (H1:Hp),cs[i]?=some c->out.length=i->H1 acc=some (.lst out)->Pv i out H1->te (σ2.set k (some (.str (tx [c])))) H1 (uL Pv i acc out))
  (hd:∀(out:List V) (H1:Hp),out.length=cs.length->H1 acc=some (.lst out)->Pv cs.length out H1->Q (.ref acc) H1):
  BH (XQ cs) (gh k) te acc σ2 H Q:=by
 refine ⟨fun i m σ' H'=>m=cs.length-i/\i<=cs.length/\(∀v,σ'.set k (some v)=σ2.set k (some v))/\∃out,out.length=i/\H' acc=some (.lst out)/\Pv i out H',⟨cs.length,by simp,f_ _,fun _=>rfl,[],Z,ai,h0⟩,?_⟩
 rintro i m σ' H' ⟨rfl,hi,hσ,out,ho,ha,p⟩
 by_cases hlt:i<cs.length
 . refine .inr ⟨hlt,fun σ3=>∀v,σ3.set k (some v)=σ2.set k (some v),(uL Pv i acc out),fun σ3 v H4 hS ⟨a,b⟩=>?_,fun x H1 y=>?_⟩
   . refine ⟨out,a,?_,cs.length-(i+1),by omega,Z,hlt,hS,out++[v],by rw [dh,ho];rfl,ai,b⟩
     have:sizeLine=16777216:=fB
     omega
   . obtain ⟨e,c,hc,ex⟩:=y
     subst e ex
     refine ⟨fun v=>by rw [mK];exact hσ v,?_⟩
     have q2:=hs i c out _ hc ho ha p
     rw [<-hσ] at q2
     exact q2
 . have e:i=cs.length:=by omega
   subst e
   exact .inl ⟨aP _,hd out H' ho ha p⟩
def wU (cs:List Nat) (lo hi:Option Int):List Nat:=(cs.drop (HT.dM cs.length 0 lo)).take (HT.dM cs.length cs.length hi-HT.dM cs.length 0 lo)
theorem Cr (cs:List Nat) (lo hi:Option Int):(wU cs lo hi).length<=cs.length:=by
 unfold wU
 rw [kZ,Kl]
 omega
theorem Ri (cs:List Nat) (lo hi:Option Int):Builtin.Str.strSliceIndices lo hi 1 cs.length=(List.range (HT.dM cs.length cs.length hi-HT.dM cs.length 0 lo)).map (HT.dM cs.length 0 lo+·):=by
 rw [<-sliceRange_one]
 unfold Builtin.Str.strSliceIndices
 simp only [show ((1:Int)>0)=True from by simp,rQ]
 congr 1
 . cases lo with
   | none=>rfl
   | some i=>
     simp only [HT.dM]
     by_cases h:i<0
     . simp only [h,rQ] <;> omega
     . simp only [h,lE] <;> omega
 . cases hi with
   | none=>rfl
   | some i=>
     simp only [HT.dM]
     by_cases h:i<0
     . simp only [h,rQ] <;> omega
     . simp only [h,lE] <;> omega
inductive ahF (x:V) (lo:Option Int) (hi:Option Int) (H:Hp) (Q:VK):Prop
 | mk  (cs:_) (_:x = .str (tx cs)) (_:cs.length<=sizeLine) (_:Q (.str (tx (wU cs lo hi))) H)
theorem abB:SY X ahF:=by
 intro pins s σ H x v vl vu lo hi sl Q I rx hs pl pu h
 obtain ⟨cs,rfl,hz,q⟩:=h
 obtain ⟨t,rfl⟩:=rx
 refine ⟨"str",_,F.slot_str_getitem.lookup,typeIs_str s _ t,?_⟩
 obtain ⟨l,rfl,el⟩:∃l:Option (Int×Tok),vl=partValue l/\l.map (·.1)=lo:=by
  cases pl with
  | none=>exact ⟨none,Z,Z⟩
  | int i t=>exact ⟨some (i,t),Z,Z⟩
 obtain ⟨u,rfl,eu⟩:∃u:Option (Int×Tok),vu=partValue u/\u.map (·.1)=hi:=by
  cases pu with
  | none=>exact ⟨none,Z,Z⟩
  | int i t=>exact ⟨some (i,t),Z,Z⟩
 refine wpAny_getItem_str_slice (l:=l) (u:=u) (st:=none) hs rfl ?_
 have e1:slicePicked (tx cs) l u none=(List.range (HT.dM cs.length cs.length hi-HT.dM cs.length 0 lo)).map (HT.dM cs.length 0 lo+·):=by
  unfold slicePicked
  rw [el,eu,kr]
  exact Ri cs lo hi
 have e2:(slicePicked (tx cs) l u none).filterMap ((tx cs).cps[·]?)=wU cs lo hi:=by
  rw [e1,pick_run]
  rfl
 unfold sliceMade
 split
 . rename_i hc
   have hl:(slicePicked (tx cs) l u none).length=cs.length:=by
    have:=(kX.mp hc).2
    rw [kr] at this
    simpa using this
   have ahG:wU cs lo hi=cs:=by
    rw [e1,aE,CP] at hl
    unfold wU
    have h1:=HT.SX cs.length cs.length (aP _) hi
    have h0:HT.dM cs.length 0 lo=0\/cs.length=0:=by omega
    rcases h0 with h0|h0
    . rw [h0] at hl ⊢
      rw [List.drop_zero,hl,cC]
    . have:cs=[] :=List.length_eq_zero_iff.mp h0
      subst this
      simp
   rw [ahG] at q
   exact ⟨.str (tx cs),H,I,⟨t,Z⟩,q⟩
 . show (Made.str ⟨_⟩).post _ _
   rw [e2]
   refine ⟨?_, .str (tx (wU cs lo hi)),H,I.tok _,⟨_,Z⟩,q⟩
   show (tx (wU cs lo hi)).length<=sizeLine
   rw [kr]
   exact fu (Cr cs lo hi) hz
end
theorem Y8 (cs:List Nat) (k:Nat):wU cs none (some (k:Int))=cs.take k:=by
 unfold wU
 rw [HT.CW,HT.xG,List.drop_zero,Nat.sub_zero]
 rcases Nat.le_total k cs.length with h|h
 . rw [Nat.min_eq_left h]
 . rw [Nat.min_eq_right h,cC,zW h]
def Er (signs:Str) (c:Nat):Bool:=!(Builtin.Str.occurrences signs (tx [c]) 0 signs.length 1).isEmpty
def lF (c:Int) (n:Nat):List Nat:=(List.range n).map fun i=>97+((c / 26 ^ i) % 26).toNat
theorem yw (c:Int) (n:Nat):(lF c n).length=n:=by unfold lF;rw [aE,CP]
theorem Ws (c:Int) (n:Nat):lF c (n+1)=lF c n++[97+((c / 26 ^ n) % 26).toNat] :=by
 unfold lF
 rw [List.range_succ,bN]
 rfl
theorem Tv {k:Int} (h0:0<=k) (h1:k<26):oU (("abcdefghijklmnopqrstuvwxyz":Str).cps.toList) k=some (97+k.toNat):=by
 have h:∀n:Nat,n<26->("abcdefghijklmnopqrstuvwxyz":Str).cps.toList[n]?=some (97+n):=by decide +kernel
 have e:k=((k.toNat:Nat):Int):=by omega
 have:=aT (h k.toNat (by omega))
 rw [<-e] at this
 exact this
structure Gr (vs:List V) (H:Hp) (Q:VK) (E:XK):Prop where
 ex:∃(c:Int) (n:Nat),vs=[.int c, .int (n:Int)]/\0<=c/\n<=1000/\Q (.str (tx (lF c n))) H
theorem KY {Q:VK} {E:XK} {c ni:Int} (e:ni=(n:Int)) (hc:0<=c) (hn:n<=1000) (q:Q (.str (tx (lF c n))) H):Gr [.int c, .int ni] H Q E:=by
 subst e
 exact ⟨c,n,Z,hc,hn,q⟩
inductive Y9 (vs:List V) (H:Hp) (Q:VK) (E:XK):Prop
 | mk (cs:List Nat) (signs:Str) (_:vs=[.str (tx cs), .str signs]) (_:cs.length<=100000) (_:∀H',aF H H'->Q (.bl (cs.all (Er signs))) H')
def CZ:Sp:=bx (Y9)
theorem Rj {H:Hp} {Q:VK} {E:XK} {cs:List Nat} {signs:Str} (hl:cs.length<=100000) (q:∀H',aF H H'->Q (.bl (cs.all (Er signs))) H'):CZ [.str (tx cs), .str signs] H Q E:=⟨cs,signs,Z,hl,q⟩
def isName (cs:List Nat):Bool:=decide (1<=(cs.length:Int)) && decide ((cs.length:Int)<=8) && cs.all (Er "abcdefghijklmnopqrstuvwxyz")
inductive Y_ (vs:List V) (H:Hp) (Q:VK) (E:XK):Prop
 | mk (cs:List Nat) (_:vs=[.str (tx cs)]) (_:cs.length<=100000) (_:∀H',aF H H'->Q (.bl (isName cs)) H')
def yx:Sp:=bx (Y_)
theorem Es {Q:VK} {E:XK} (hl:cs.length<=100000) (q:∀H',aF H H'->Q (.bl (isName cs)) H'):yx [.str (tx cs)] H Q E:=⟨cs,Z,hl,q⟩
theorem Et {p q:Prop} (h:if true=true then p else q):p:=by rwa [aA rfl] at h
theorem Eu {p q:Prop} (h:if false=true then p else q):q:=by rwa [az fM] at h
variable {cond:Expr}
section
variable {prog:Program} {w:World} {A:Around} {R:Result->Shared->Prop} {s:Shared}
theorem IS {target:Expr} {it acc:Value} (J:Nat->Shared->Prop)
  (turn:∀n s,J n s->wpAny (model prog w) A (pyNext it) (fun r s₁=>match r with
    | none=>R (.ok .next) s₁
    | some v=>wpAny (model prog w) A (letOwnedTupleGo target it v) (fun _ s₂=>wpAny (model prog w) A (assign target env v) (fun _ s₃=>wpAny (model prog w) A (isTrue cond env (eval cond env)) (fun ok s₃'=>if ok=true then
       wpAny (model prog w) A (eval elt env) (fun x s₄=>wpAny (model prog w) A (call (.builtin "list.append") [acc,x]) (fun _ s₅=>∃m,m<n/\J m s₅) (fun _ _=>False) s₄) (fun _ _=>False) s₃'
       else ∃m,m<n/\J m s₃') (fun _ _=>False) s₃) (fun _ _=>False) s₂) (fun _ _=>False) s₁) (fun _ _=>False) s)
  (n:Nat) (h:J n s):codeAny (model prog w) A (.compLoop (.ListComp elt [⟨target,iter,[cond],0⟩] scope pos) 0 it acc env) R s:=by
 refine codeAny_loop rfl J (fun n s hI=>?_) n h
 show wpAny _ A ((compTurn (.ListComp elt [⟨target,iter,[cond],0⟩] scope pos) 0 it acc env).onRaise (fun x=>do noteFrame x env;theTreesLotGoes x)) _ _ s
 refine wpAny_noted ?_
 rw [compTurn_list]
 refine aq (Bo (aq (gT (turn n s hI) (fun r s₁ h₁=>?_) fun _ _ h'=>h'.elim)))
 cases r with
 | none=>exact aL h₁
 | some v=>
   refine aq (gT h₁ (fun _ s₂ h₂=>aq (gT h₂ (fun _ s₃ h₃=>?_) fun _ _ h'=>h'.elim)) fun _ _ h'=>h'.elim)
   refine aq (wpAny_tests_one (gT h₃ (fun ok s₃' h₃'=>?_) fun _ _ h'=>h'.elim))
   cases ok with
   | false=>exact aL ⟨Z,Eu h₃'⟩
   | true=>exact aq (aq (gT (Et h₃') (fun x s₄ h₄=>aq (gT h₄ (fun _ s₅ h₅=>aL (aL ⟨Z,h₅⟩)) fun _ _ h'=>h'.elim)) fun _ _ h'=>h'.elim))
end
variable {tc:TT} {wi:TI} {px pos':Pos}
section
variable {X:Cx}
def Ew (J:It) (g:TG) (tc:TT) (te:TE) (acc:Addr) (σ₀:St) (H:Hp) (Q:VK):Prop:=∃W:Nat->Nat->St->Hp->Prop,
 (∃m,W 0 m σ₀ (upd H acc (.lst [])))/\∀i m σ2 H2,W i m σ2 H2->
   (J.stop i H2/\Q (.ref acc) H2)\/(J.go i H2/\∃(S:St->Prop) (N:V->Hp->Prop) (N0:Hp->Prop),(∀σ3 v H4,S σ3->N v H4->∃xs,H4 acc=some (.lst xs)/\xs.length<sizeLine/\∃m',m'<m/\W (i+1) m' σ3 (upd H4 acc (.lst (xs++[v]))))/\
     (∀σ3 H4,S σ3->N0 H4->∃m',m'<m/\W (i+1) m' σ3 H4)/\∀x H',J.D3 i H2 x H'->g x σ2 H' fun σ3 H3=>S σ3/\tc σ3 H3 fun b H4=>if b=true then te σ3 H4 N else N0 H4)
def Za (ix:List (Option Nat)) (g:TG) (tc:TT) (te:TE) (σ:St) (Q:VK):It->Hp->Prop:=fun J H1=>∀acc,H1 acc=none->Ew J g tc te acc (pick ix σ) H1 Q
def Ex (wi:TI) (ix:List (Option Nat)) (g:TG) (tc:TT) (te:TE):TE:=fun σ H Q=>wi σ H (Za ix g tc te σ Q)
theorem Cs {ix:List (Option Nat)} {Q:VK}
  {RR:Value->Addr->Result->Shared->Prop} (hc:X.calm=true) (hg:∀cl s₂ H₂ fp,PG (cX X N2 scope cl s₂ H₂ fp) tg g) (he:∀cl s₂ H₂ fp,PE (cX X N2 scope cl s₂ H₂ fp) elt te)
  (ht:∀cl s₂ H₂ fp,PT (cX X N2 scope cl s₂ H₂ fp) cond tc) (hk:scope.kind = .function) (hn:nu X.N X.env.scope.names scope.names N2 ix=true)
  (KQ:∀y c,(y,c)∈cl->X.env.cells.lookup y=some c) (Gp:∀y,(y,NameKind.free)∈scope.names->∃c,(y,c)∈cl)
  {it:Addr} {fp:List Addr} {tn:Nat->Heap->Prop} {J:It} (I:Inv X pins σ H s) (T:Turn X.prog X.w X.K tg J fp it tn) (st:tn 0 s.heap) (f:∀b∈fp,pM X pins H b)
  (h:∀acc,H acc=none->Ew J g tc te acc (ix.map fun o=>o.bind fun j=>(σ[j]?).join) H Q)
  (hR:∀acc C H' s' m,Inv X pins σ H' s'->s'.heap.Ns C m->H' C=none->C≠X.env.locals->X.s₀.heap.objs.size<=C->(∀x c,X.env.cells.lookup x=some c->c≠C)->(∀p∈X.pn++pins,p.1≠C)->Q (.ref acc) H'->RR (.ref acc) C (.ok .next) s'):
  wpAny (model X.prog X.w) X.A (newList []) (fun acc s₃=>wpAny (model X.prog X.w) X.A (newFunctionEnv scope X.env.globals cl [] X.env.qual none .none (some X.env)) (fun cenv s₄=>
   codeAny (model X.prog X.w) X.A (.compStart (.ListComp elt [⟨tg,iter,[cond],0⟩] scope pos) 0 (.ref it) acc { cenv with scope:=relabel scope X.env }) (RR acc cenv.locals) s₄) E s₃) E s:=by
 obtain ⟨k1,k2,k3,k4,k5⟩:=mP hn
 refine qN ?_
 have I3:Inv X pins σ (upd H s.heap.objs.size (.lst [])) { s with heap:=s.heap.push { cls:= .type "list",data:= .seq ([] :List Value).toArray } }:=
  I.laid (a:=s.heap.objs.size) (o:= .lst []) (t':=s.toks) (fun _ _ q=>cA _ q) (aP _) ⟨f_ _,[],_, .nil,dZ _ rfl⟩
 obtain ⟨W,⟨m0,w0⟩,turn⟩:=h s.heap.objs.size I.fresh
 have fo:∀b∈fp,b<s.heap.objs.size:=fun b hb=>by
  obtain ⟨o,e,_⟩:=T.obj 0 _ st b hb
  exact bR e
 have st3:tn 0 (s.heap.push { cls:= .type "list",data:= .seq ([] :List Value).toArray }):=T.keep _ _ _ st fun b _ o e=>cA _ e
 have f3:∀b∈fp,pM X pins (upd H s.heap.objs.size (.lst [])) b:=fun b hb=>⟨by rw [av (dQ (fo b hb))];exact (f b hb).1,(f b hb).2⟩
 have Tj:∀b∈fp,b<(s.heap.push { cls:= .type "list",data:= .seq ([] :List Value).toArray }).objs.size:=fun b hb=>by rw [mJ];exact QM (fo b hb)
 generalize es3:({ s with heap:=s.heap.push { cls:= .type "list",data:= .seq ([] :List Value).toArray } }:Shared)=s3 at *
 have eh3:s3.heap=s.heap.push { cls:= .type "list",data:= .seq ([] :List Value).toArray }:=by rw [<-es3]
 rw [<-eh3] at st3 Tj
 generalize s.heap.objs.size=acc at *
 generalize eH3:upd H acc (.lst [])=H3 at *
 have IY:=Em (N2:=N2) (scope:=scope) (cl:=cl) (fp:=fp) (σ2:=ix.map fun o=>o.bind fun j=>(σ[j]?).join) I3 hk KQ Gp f3 Tj (by rw [aE];exact k1) (fun i x v e1 e2=>by
  rw [bF] at e2
  cases ei:ix[i]? with
  | none=>rw [ei] at e2;cases e2
  | some o=>
    rw [ei] at e2
    cases o with
    | none=>cases e2
    | some j=>
      obtain ⟨a1,a2,a3⟩:=k2 i x j e1 ei
      refine ⟨a2,a3,j,a1,?_⟩
      have e3:(σ[j]?).join=some v:=fY e2
      cases ej:σ[j]? with
      | none=>rw [ej] at e3;cases e3
      | some z=>rw [ej] at e3;exact gU some e3) k5
 have ne:wpAny (model X.prog X.w) X.A (newFunctionEnv scope X.env.globals cl [] X.env.qual none .none (some X.env)) (fun cenv s₄=>
   cenv={ scope:=scope,locals:=s3.heap.objs.size,globals:=X.env.globals,cells:=cellsFrom (s3.heap.objs.size+1) scope.names cl,qual:=X.env.qual,func:=none,code:=X.env.code,frame:=X.env.frame,builtins:=X.env.builtins }/\
   s₄={ s3 with heap:=pushCells (s3.heap.push { cls:= .type "dict",data:= .dict #[] }) scope.names }) E s3:=by
  simp only [newFunctionEnv,Option.isSome_some,rQ]
  refine aq (wpAny_alloc ?_)
  refine aq (wpAny_layCells _ (fun name kind cells=>by cases hkc:kind==NameKind.cell <;> simp [hkc]) _ _ _ _ ?_)
  rw [DU]
  refine aq (aL (aL ⟨?_,Z⟩))
  rw [show ({ s3 with heap:=s3.heap.push { cls:= .type "dict",data:= .dict #[] } }:Shared).heap.objs.size=s3.heap.objs.size+1 from mJ ..]
 refine bg ne fun cenv s4 ⟨e1,e2⟩=>?_
 subst e1 e2
 have Tn:tn 0 (pushCells (s3.heap.push { cls:= .type "dict",data:= .dict #[] }) scope.names):=T.keep _ _ _ st3 fun b _ o e=>JX _ _ b o (cA _ e)
 have Ag:s3.heap.objs.size≠X.env.locals:=yp I3.lt
 have uM:∀{H':Hp},(∀b∈fp,H' b=none)->∀b∈fp,pM (cX X N2 scope cl s3 H3 fp) [] H' b:=fun {H'} hn b hb=>
  ⟨hn b hb,(IY.ok.Kn b hb).1,IY.ok.CQ b hb, .inl hb,(IY.ok.Kn b hb).2,fun p hp=>nomatch hp⟩
 have loop:codeAny (model X.prog X.w) X.A (.compLoop (.ListComp elt [⟨tg,iter,[cond],0⟩] scope pos) 0 (.ref it) (.ref acc) (cX X N2 scope cl s3 H3 fp).env) (RR (.ref acc) s3.heap.objs.size)
   { s3 with heap:=pushCells (s3.heap.push { cls:= .type "dict",data:= .dict #[] }) scope.names }:=by
  refine IS (fun n s'=>∃i σ' H',Inv (cX X N2 scope cl s3 H3 fp) [] σ' H' s'/\tn i s'.heap/\(∀b∈fp,H' b=none)/\W i n σ' H') ?_ m0 ⟨0,_,H3,IY,Tn,fun b hb=>(f3 b hb).1,w0⟩
  rintro n s5 ⟨i,σ5,H5,I5,Ah,KR,w5⟩
  rcases turn i n σ5 H5 w5 with ⟨stop,qn⟩|⟨go,S,N,N0,hSN,hS0,step⟩
  . refine bg (T.done (cX X N2 scope cl s3 H3 fp) rfl rfl rfl hc i [] s5 σ5 H5 (fun _ _=>False) I5 (uM KR) Ah stop) fun r s6 ⟨hr,I6⟩=>?_
    subst hr
    obtain ⟨m6,ns6,_⟩:=id I6.loc
    have IX:Inv X pins σ H5 s6:=I3.J0 (ch:=fp) I6.os I6.base I6.hok I6.bare fun b hb=>⟨(f3 b hb).2.2.2.1,(f3 b hb).2.1,(f3 b hb).2.2.2.2.1,(f3 b hb).2.2.2.2.2⟩
    refine hR acc s3.heap.objs.size H5 s6 m6 IX ns6 I6.free Ag I3.sz (fun x c e z=>?_) (fun p hp z=>?_) qn
    . obtain ⟨v,q⟩:=I3.cell x c e
      exact absurd q.lt (by rw [z];exact jj _)
    . exact absurd (bR (I3.pin p hp).1) (by rw [z];exact jj _)
  . refine bg (T.item (cX X N2 scope cl s3 H3 fp) rfl rfl rfl hc i [] s5 σ5 H5 (fun _ _=>False) I5 (uM KR) Ah go) fun r s6 ⟨u,hr,h6⟩=>?_
    subst hr
    refine bg h6 fun _ s7 ⟨x,H7,I7,r7,y7,Eo,To⟩=>?_
    have I7':=I7.pinned (uM To) (T.obj _ _ Eo)
    refine bg (hg cl s3 H3 fp _ s7 σ5 H7 x u _ I7' r7 (step x H7 y7)) fun _ s8 ⟨σ8,H8,I8,XO,q8⟩=>?_
    refine bg (ht cl s3 H3 fp _ s8 σ8 H8 _ I8 q8) fun ok s9' ⟨H9',XR,q9'⟩=>?_
    cases ok with
    | false=>
      obtain ⟨m',hm,w9⟩:=hS0 σ8 H9' XO (Eu q9')
      refine ite_ff ⟨m',hm,i+1,σ8,_,XR.qR,T.keep _ _ _ Eo fun b hb o e=>(XR.pin (b,o) (jK _ (jK _ (jk hb e)))).1,fun b hb=>?_,w9⟩
      obtain ⟨o,e,d⟩:=T.obj _ _ Eo b hb
      exact (XR.pin (b,o) (jK _ (jK _ (jk hb e)))).2.1
    | true=>
      refine ite_tt ?_
      refine bg (he cl s3 H3 fp _ s9' σ8 H9' _ XR (Et q9')) fun y s9 ⟨v,H9,I9,r9,q9⟩=>?_
      obtain ⟨xs,hxs,hxl,m',hm,w9⟩:=hSN σ8 v H9 XO q9
      refine bg (gZ _ s9 σ8 H9 (.ref acc) [v] (.ref acc) [y] (fun z KS=>z = .b_/\KS=upd H9 acc (.lst (xs++[v]))) I9 rfl (.cons r9 .nil) ⟨acc,xs,v,Z,Z,hxs,hxl,Z,Z⟩) fun z s10 ⟨zv,KS,KU,r10,ez,eH⟩=>?_
      subst eH
      refine ⟨m',hm,i+1,σ8,_,KU.qR,T.keep _ _ _ Eo fun b hb o e=>(KU.pin (b,o) (jK _ (jK _ (jk hb e)))).1,fun b hb=>?_,w9⟩
      obtain ⟨o,e,d⟩:=T.obj _ _ Eo b hb
      exact (KU.pin (b,o) (jK _ (jK _ (jk hb e)))).2.1
 exact codeAny_compStart_list loop (T.self _ 0 _ _ _ Tn loop)
theorem Wt (N2:List Str) (ix:List (Option Nat)) (hc:X.calm=true) (hi:PI X tg iter wi)
  (hg:∀cl s₂ H₂ fp,PG (cX X N2 scope cl s₂ H₂ fp) tg g) (he:∀cl s₂ H₂ fp,PE (cX X N2 scope cl s₂ H₂ fp) elt te)
  (ht:∀cl s₂ H₂ fp,PT (cX X N2 scope cl s₂ H₂ fp) cond tc) (hk:scope.kind = .function) (hn:nu X.N X.env.scope.names scope.names N2 ix=true) (hs:∀x,foldedSetIterable iter X.env x=pure x:=by intro _;rfl):
  PE X (.ListComp elt [⟨tg,iter,[cond],0⟩] scope pos) (Ex wi ix g tc te):=by
 intro pins s σ H Q I h
 obtain ⟨k1,k2,k3,k4,k5⟩:=mP hn
 obtain ⟨cl,KZ,c1,c2⟩:=ug (scope:=scope) (env:=X.env) fun y hy e=>I.ok.has y.1 (k3 y hy e)
 rw [eval_ListComp]
 refine Qv (use:=none) rfl hs KZ hk k4 (bg (hi pins s σ H _ I h) fun v s1 h1=>bg h1 fun itv s2 h2=>?_)
 obtain ⟨it,fp,tn,J,H2,e,I2,T,st2,f2,h2⟩:=h2
 subst e
 refine Cs (RR:=fun acc C=>compPost (model X.prog X.w) X.A X.xe none (EP X pins σ Q) acc C) (Q:=Q) hc hg he ht hk hn (fun y c m=>(c1 y c m).1) c2 I2 T st2 f2 h2 ?_
 intro acc C H' s' m I' ns Ag hL hsz pV yy q
 exact ⟨m,ns,fun h' hs'=>⟨.ref acc,H',I'.turned (it:=C) (t':=s'.toks) (fun b o hb e=>(hs'.2 b hb).trans e) Ag hL (.inr hsz) pV yy,Z,q⟩⟩
theorem Wu (N2:List Str) (ix:List (Option Nat)) (hN:X.N.Nodup) (hi:X.N[i]?=some x) (hx:X.env.scope.names.lookup x=some .local) (hc:X.calm=true) (hit:PI X tg iter wi)
  (hg:∀cl s₂ H₂ fp,PG (cX X N2 scope cl s₂ H₂ fp) tg g) (he:∀cl s₂ H₂ fp,PE (cX X N2 scope cl s₂ H₂ fp) elt te)
  (ht:∀cl s₂ H₂ fp,PT (cX X N2 scope cl s₂ H₂ fp) cond tc) (hk:scope.kind = .function) (hn:nu X.N X.env.scope.names scope.names N2 ix=true) (hw:swapsWith (.ListComp elt [⟨tg,iter,[cond],0⟩] scope pos) (some (.Name x px)) pos'.line X.env=pure true) (hs:∀x,foldedSetIterable iter X.env x=pure x:=by intro _;rfl):
  PS X (.Assign [.Name x px] (.ListComp elt [⟨tg,iter,[cond],0⟩] scope pos) pos') (z8 (Ex wi ix g tc te) (gh i)):=by
 intro pins s σ H D I h
 obtain ⟨k1,k2,k3,k4,k5⟩:=mP hn
 obtain ⟨cl,KZ,c1,c2⟩:=ug (scope:=scope) (env:=X.env) fun y hy e=>I.ok.has y.1 (k3 y hy e)
 rw [exec_Assign_Name_used _ _ _ _ hw]
 refine aq (Bo (aq ?_))
 show wpAny _ X.A (do let _ <-comprehension (.ListComp elt [⟨tg,iter,[cond],0⟩] scope pos) scope X.env _ (newList []) false (eval iter X.env) (some (assign (.Name x px) X.env))) _ _ s
 refine aq (bg (Qv (use:=some (assign (.Name x px) X.env)) (Q:=fun _ s'=>SP X pins D .next s') rfl hs KZ hk k4 (bg (hit pins s σ H _ I h) fun v s1 h1=>bg h1 fun itv s2 h2=>?_)) fun _ s' hq=>aL (aL hq))
 obtain ⟨it,fp,tn,J,H2,e,I2,T,st2,f2,h2⟩:=h2
 subst e
 refine Cs (RR:=fun acc C=>compPost (model X.prog X.w) X.A X.xe (some (assign (.Name x px) X.env)) (fun _ s'=>SP X pins D .next s') acc C) (Q:=fun v H'=>D.nx (σ.set i (some v)) H') hc hg he ht hk hn (fun y c m=>(c1 y c m).1) c2 I2 T st2 f2 h2 ?_
 intro acc C H' s' m I' ns Ag hL hsz pV yy q
 show wpAny _ X.A (assign (.Name x px) X.env (.ref acc)) _ _ _
 refine wpAny_assign_Name (z6 I' hN hi (.inl hx) (v:= .ref acc) rfl (fun s3 I3 ⟨a,sb,ha⟩=>?_) (.inr hx))
 have ca:C≠a:=by
  rcases ha with z|z
  . rw [z];exact hL
  . exact fun e=>pV x a z e.symm
 exact ⟨m,ns.sameBut sb ca,fun h' hs'=>⟨_,H',I3.turned (it:=C) (t':=s3.toks) (fun b o hb e=>(hs'.2 b hb).trans e) Ag hL (.inr hsz) pV yy,q⟩⟩
end
theorem K0 {α:Type} [DecidableEq α] :∀{l m:List α},l.Nodup->(∀x∈l,x∈m)->l.length<=m.length
 | [],_,_,_=>f_ _
 | x::r,m,h,hs=>by
   have hn:=gR.mp h
   have hx:=hs x cM
   have:=K0 (l:=r) (m:=m.erase x) hn.2 fun y hy=>by
    have hne:y≠x:=fun e=>hn.1 (e▸hy)
    exact (List.mem_erase_of_ne hne).mpr (hs y (cG _ hy))
   rw [List.length_erase_of_mem hx] at this
   have hp:0<m.length:=List.length_pos_of_mem hx
   rw [mX]
   omega
theorem Tw (c:Int) (h:i<n):(lF c n)[i]?=some (97+((c / 26 ^ i) % 26).toNat):=by
 unfold lF
 rw [bF,List.getElem?_range h]
 rfl
theorem Zb {c c':Int} {d:Nat} (h:d<n) (e:lF c n=lF c' n):(c / 26 ^ d) % 26=(c' / 26 ^ d) % 26:=by
 have h1:=Tw c h
 rw [e,Tw c' h] at h1
 have h2:=fY h1
 have a0:0<=(c / 26 ^ d) % 26:=nJ _ (by decide)
 have b0:0<=(c' / 26 ^ d) % 26:=nJ _ (by decide)
 omega
structure pW (x:List Nat):Prop where
 lo:1<=x.length
 hi:x.length<=8
 Pa:∀c∈x,97<=c/\c<123
theorem abD (c:Int) (h1:1<=n) (h2:n<=8):pW (lF c n):=by
 refine ⟨by rw [yw];exact h1,by rw [yw];exact h2,fun x hx=>?_⟩
 obtain ⟨i,_,rfl⟩:=bQ.mp hx
 have a0:0<=(c / 26 ^ i) % 26:=nJ _ (by decide)
 have a1:(c / 26 ^ i) % 26<26:=yi _ (by decide)
 omega
def sP (nss:List (List Nat)):List V:=nss.map fun x=>V.str (tx x)
theorem Wv (nss:List (List Nat)):(sP nss).all rR=true:=by
 unfold sP
 rw [List.all_map,pF]
 exact fun _ _=>rfl
theorem Tz {a b:List Nat} (h:tx a=tx b):a=b:=by
 have:a.toArray=b.toArray:=by injection h
 simpa using this
theorem Pb (x:List Nat) (nss:List (List Nat)):Ed (.str (tx x)) (sP nss)=decide (x∈nss):=by
 unfold Ed sP
 rw [List.any_map,Bl,List.any_eq_true,decide_eq_true_eq]
 constructor
 . rintro ⟨y,hy,e⟩
   have e2:zA (.str (tx y)) (.str (tx x))=true:=e
   have e3:tx y=tx x:=by
    unfold zA at e2
    simpa using e2
   rw [<-Tz e3]
   exact hy
 . intro h
   refine ⟨x,h,?_⟩
   show zA (.str (tx x)) (.str (tx x))=true
   unfold zA
   simp
theorem Zc (x:Str):PyData.eqv (.str x) (.str x)=true:=by unfold PyData.eqv;exact DQ x
open PySem.NumText
section
variable {X:Cx}
end
section
variable {X:Cx} {tg:Expr}
end
theorem Zd (signs:Str) (c:Nat):Er signs c=decide (c∈signs.cps.toList):=PySem.StrLaws.found_one signs c
open Builtin Builtin.Str
section
variable {X:Cx}
end
theorem Pc (c:Int) (j d:Nat):(c+(j:Int)*26 ^ d) / 26 ^ d=c / 26 ^ d+(j:Int):=by
 have hp:(26:Int) ^ d≠0:=Int.ne_of_gt (Int.pow_pos (by decide))
 rw [Int.add_mul_ediv_right _ _ hp]
variable {nss:List (List Nat)} {t:Nat}
theorem TF {c:Int} {d:Nat} (h2:d<n) (ht:t<=26) (h:∀j:Nat,j<t->lF (c+(j:Int)*26 ^ d) n∈nss):t<=nss.length:=by
 have hn:((List.range t).map fun j=>lF (c+((j:Nat):Int)*26 ^ d) n).Nodup:=by
  have:(List.range t).Pairwise (fun a b=>a<b):=List.pairwise_lt_range
  refine List.Pairwise.map _ ?_ (List.Pairwise.and_mem.mp this)
  rintro a b ⟨ha,hb,hab⟩ e
  have ha':=ym.mp ha
  have hb':=ym.mp hb
  have:=Zb h2 e
  rw [Pc,Pc] at this
  omega
 have:=K0 hn fun x hx=>by
  obtain ⟨j,hj,rfl⟩:=bQ.mp hx
  exact h j (ym.mp hj)
 rw [aE,CP] at this
 exact this
inductive abE (K:Fg) (vs:List V) (H:Hp) (Q:VK) (E:XK):Prop
 | mk (a:Addr) (ms:List Int) (k:Int) (many:Nat) (_:vs=[.ref a, .int k, .int (many:Int)]) (_:aC K H a (ms.map V.int)) (_:ms.length<=63) (_:0<=k) (_:many<=25) (_:∀(z:Addr) (nss:List (List Nat)) (H':Hp),aF H H'->H' z=some (.lst (sP nss))->H z=none->nss.length=many->nss.Nodup->(∀x∈nss,pW x)->Q (.ref z) H')
def Gs (K:Fg):Sp:=bx (abE K)
theorem Ia {Q:VK} {E:XK} {ms:List Int} {k mi:Int} {many:Nat} (hmi:mi=(many:Int)) (hS:aC K H a (ms.map V.int)) (h63:ms.length<=63) (h1:0<=k) (h2:many<=25)
  (h:∀(z:Addr) (nss:List (List Nat)) (H':Hp),aF H H'->H' z=some (.lst (sP nss))->H z=none->nss.length=many->nss.Nodup->(∀x∈nss,pW x)->Q (.ref z) H'):Gs K [.ref a, .int k, .int mi] H Q E:=by
 subst hmi
 exact ⟨a,ms,k,many,Z,hS,h63,h1,h2,h⟩
theorem xN {a:List (Key×V)} {b:List (Key×Value)} (r:KV a b):∀{j:Nat} {p:Key×V},a[j]?=some p->∃q,b[j]?=some q/\p.1=q.1/\RelV p.2 q.2:=by
 induction r with
 | nil=>intro j p z;simp at z
 | cons r1 _ ih=>
   intro j p z
   cases j with
   | zero=>simp at z;subst z;exact ⟨_,Z,r1⟩
   | succ j=>simp at z;obtain ⟨q,a1,a2⟩:=ih z;exact ⟨q,by simpa using a1,a2⟩
abbrev oY (H:Hp) (d:Addr) (o:Obj) (kvs:List (Key×V)):Prop:=H d=some (.fm o (.dK kvs))
section
variable {X:Cx} {pins:AO} {σ σ':St} {H H':Hp} {s s':Shared} {d:Addr} {kvs:List (Key×V)} {o:Obj}
theorem Inv.freeze (I:Inv X pins σ H s) (e:H d=some (.dK kvs)) (ho:s.heap.get? d=some o):Inv X pins σ (upd H d (.fm o (.dK kvs))) s:=by
 have nd:∀{b:Addr},H b=none->b≠d:=fun h z=>by rw [z,e] at h;cases h
 have dn:∀{b:Addr},H b=none->upd H d (.fm o (.dK kvs)) b=none:=fun h=>by rw [av (nd h)];exact h
 have un:∀{b:Addr} {u:HO},H b=some u->(∀k,u ≠ .dK k)->b≠d:=fun h k z=>by rw [z,e] at h;cases h;exact k _ rfl
 refine ⟨I.ok,I.os,I.bare,⟨I.base.keep,I.base.slot,fun b ob q n x=>dn (I.base.free b ob q n x),I.base.there,fun b xs q=>?_,fun b ob u q=>?_,fun b ps q=>?_⟩,I.loc,I.cell,dn I.free,fun x c q=>dn (I.jT x c q),fun p hp=>?_,fun b ob q=>?_,I.len⟩
 . have:=I.base.tups b xs q
   rw [av (un this fun k z=>by cases z)];exact this
 . have:=I.base.mZ b ob u q
   rw [av (un this fun k z=>by cases z)];exact this
 . obtain ⟨more,this⟩:=I.base.pK b ps q
   exact ⟨more,by rw [av (un this fun k z=>by cases z)];exact this⟩
 . obtain ⟨h1,h2,h3⟩:=I.pin p hp
   exact ⟨h1,dn h2,h3⟩
 . by_cases hb:b=d
   . subst hb
     rw [ai] at q;cases q
     have:=I.hok b _ e
     exact ⟨ho,this⟩
   . rw [av hb] at q
     refine (I.hok b ob q).stay (fun c u _ z=>z) (fun c z=>?_) fun c xs z=>?_
     . rw [av (un z fun k z=>by cases z)];exact z
     . rw [av (un z fun k z=>by cases z)];exact z
theorem Inv.C0 (I:Inv X pins σ H s) (e:oY H d o kvs) (h0:∀o u,X.H₀ d≠some (.fm o u)):Inv X pins σ (upd H d (.dK kvs)) s:=by
 have nd:∀{b:Addr},H b=none->b≠d:=fun h z=>by rw [z] at h;exact absurd (h.symm.trans e) (by simp)
 have dn:∀{b:Addr},H b=none->upd H d (.dK kvs) b=none:=fun h=>by rw [av (nd h)];exact h
 have un:∀{b:Addr} {u:HO},H b=some u->(∀o k,u ≠ .fm o k)->b≠d:=fun h k z=>by rw [z] at h;have:=h.symm.trans e;cases this;exact k _ _ rfl
 refine ⟨I.ok,I.os,I.bare,⟨I.base.keep,I.base.slot,fun b ob q n x=>dn (I.base.free b ob q n x),I.base.there,fun b xs q=>?_,fun b ob u q=>?_,fun b ps q=>?_⟩,I.loc,I.cell,dn I.free,fun x c q=>dn (I.jT x c q),fun p hp=>?_,fun b ob q=>?_,I.len⟩
 . have:=I.base.tups b xs q
   rw [av (un this fun _ k z=>by cases z)];exact this
 . have:=I.base.mZ b ob u q
   rw [av (fun (z:b=d)=>h0 ob u (by rw [<-z];exact q))];exact this
 . obtain ⟨more,this⟩:=I.base.pK b ps q
   exact ⟨more,by rw [av (un this fun _ k z=>by cases z)];exact this⟩
 . obtain ⟨h1,h2,h3⟩:=I.pin p hp
   exact ⟨h1,dn h2,h3⟩
 . by_cases hb:b=d
   . subst hb
     rw [ai] at q;cases q
     exact (I.hok b _ e).2
   . rw [av hb] at q
     refine (I.hok b ob q).stay (fun c u _ z=>z) (fun c z=>?_) fun c xs z=>?_
     . rw [av (un z fun _ k z=>by cases z)];exact z
     . rw [av (un z fun _ k z=>by cases z)];exact z
theorem Inv.TH (I:Inv X pins σ H s) (e:H d=some (.dK kvs)):∀o u,X.H₀ d≠some (.fm o u):=fun o u z=>by
 have:=I.base.mZ d o u z
 rw [e] at this;cases this
theorem Inv.rV (I:Inv X pins σ H s) (e:oY H d o kvs):s.heap.get? d=some o/\kvs.length<=sizeLine/\(d==sysModules)=false/\∃vs ep,KV kvs vs/\s.heap.DictAt (cZ X.prog X.w) d vs ep:=by
 obtain ⟨ho,hz,hs,vs,r,dd⟩:=(show dO X.prog X.w H s.heap d (.fm o (.dK kvs)) from I.hok d _ e)
 obtain ⟨ep,da⟩:=dd.dictAt
 exact ⟨ho,hz,hs,vs,ep,r,da⟩
end
def Ends.C0 (D:Ends) (d:Addr) (o:Obj) (kvs:List (Key×V)):Ends where
 nx:=fun σ H=>oY H d o kvs/\D.nx σ (upd H d (.dK kvs))
 rt:=fun v H=>oY H d o kvs/\D.rt v (upd H d (.dK kvs))
 bk:=fun σ H=>oY H d o kvs/\D.bk σ (upd H d (.dK kvs))
 ct:=fun σ H=>oY H d o kvs/\D.ct σ (upd H d (.dK kvs))
inductive ahH (t:TS) (D:Ends) (σ:St) (H:Hp):Prop
 | mk  (d kvs:_) (_:H d=some (.dK kvs)) (_:∀o,t (D.C0 d o kvs) σ (upd H d (.fm o (.dK kvs))))
def ahI (t:TE):TE:=fun σ H Q=>∃d kvs,H d=some (.dK kvs)/\∀o,t σ (upd H d (.fm o (.dK kvs))) fun v H'=>oY H' d o kvs/\Q v (upd H' d (.dK kvs))
def Itv (d:Addr) (o:Obj) (kvs:List (Key×V)):It:=⟨fun i H=>oY H d o kvs/\i<kvs.length,fun i H x H'=>H'=H/\∃p,kvs[i]?=some p/\x=p.2,fun i H=>oY H d o kvs/\kvs.length<=i⟩
def Iti (d:Addr) (o:Obj) (kvs:List (Key×V)):It:=⟨fun i H=>oY H d o kvs/\i<kvs.length,fun i H x H'=>∃a p,H a=none/\kvs[i]?=some p/\x = .ref a/\H'=upd H a (.tup [kV p.1,p.2]),fun i H=>oY H d o kvs/\kvs.length<=i⟩
variable {h:Heap} {P:Program} {d:Addr}
theorem BJ {w:World} {vs:List (Key×Value)} {e1 e2:Nat} {o:Obj} {es:Array DictEntry} (da:h.DictAt (cZ P w) d vs e1) (ho:h.get? d=some o) (hd:o.data = .dict es e2):e1=e2:=by
 obtain ⟨o',es',h1,_,h2,_⟩:=da
 rw [ho] at h1;cases h1
 rw [hd] at h2;cases h2;rfl
theorem K1 {w:World} {k:Key} {v:Value} (h:(cZ P w).is k v=true):RelV (kV k) v:=by
 rw [QO] at h
 rcases gf h with ⟨i,t,rfl,rfl⟩|⟨x,t,rfl,rfl⟩
 . exact ⟨t,Z⟩
 . exact ⟨t,Z⟩
variable {it:Addr} {kvs:List (Key×V)} {ep:Nat}
theorem TJ {w:World} {o:Obj} {es:Array DictEntry} (hd:o.data = .dict es ep):
  Turn P w K tg (Itv d o kvs) [it] it (fun i h=>h.IsValIter it d i kvs.length ep) where
 mem:=by simp
 obj:=fun i h st b hb=>by
  have e:b=it:=by simpa using hb
  subst e
  obtain ⟨o,e,c,d⟩:=st
  exact ⟨o,e,fun v z=>by rw [d] at z;cases z⟩
 keep:=fun i h h' st k=>st.at fun o e=>k it (by simp) o e
 item:=by
  intro X hP hw hK hc i pins s σ H E I hf st hg
  subst hP hw hK
  obtain ⟨hz,hlt⟩:=hg
  obtain ⟨ho,_,_,vs,xE,r,da⟩:=I.rV hz
  cases BJ da ho hd
  have hl:kvs.length=vs.length:=r.length
  obtain ⟨q,hq,_,rq⟩:=xN r (aW hlt)
  obtain ⟨qk,qv⟩:=q
  rw [hl] at st
  obtain ⟨f0,f1,f2,f3,f4,f5⟩:=hf it (by simp)
  refine wpAny_pyNext_values_item st da hq fun h' st' sb=>?_
  have I1:Inv X pins σ H { s with heap:=h' }:=I.turned (t':=s.toks) (fun b o hb e=>(sb.2 b hb).trans e) f0 f1 f3 f4 f5
  obtain ⟨oi,e,c,dd⟩:=id st'
  exact ⟨_,Z,D4 (s:={ s with heap:=h' }) e c dd (by decide) ⟨kvs[i].2,H,I1,rq,⟨Z,kvs[i],aW hlt,Z⟩,by rw [hl];exact st',fun b hb=>(hf b hb).1⟩⟩
 done:=by
  intro X hP hw hK hc i pins s σ H E I hf st hg
  subst hP hw hK
  obtain ⟨hz,hle⟩:=hg
  obtain ⟨ho,_,_,vs,xE,r,da⟩:=I.rV hz
  cases BJ da ho hd
  have hl:kvs.length=vs.length:=r.length
  rw [hl] at st
  obtain ⟨f0,f1,f2,f3,f4,f5⟩:=hf it (by simp)
  exact wpAny_pyNext_values_end (I.ok.hd hc) st da (by rw [uC];omega) fun h' eb=>⟨Z,I.turned (t':=s.toks) (fun b o hb e=>eb b o hb e) f0 f1 f3 f4 f5⟩
 self:=fun _ _ _ _ _ st h=>wpAny_pyIter_valiter st h
variable {elts:List Expr}
theorem Rk {w:World} {kk:Nat} {o:Obj} {es:Array DictEntry} (hd:o.data = .dict es ep):
  Turn P w K (.Tuple elts kk pos) (Iti d o kvs) [it] it (fun i h=>∃ok ov,IsItemIter h it d i kvs.length ep ok ov) where
 mem:=by simp
 obj:=fun i h st b hb=>by
  have e:b=it:=by simpa using hb
  subst e
  obtain ⟨ok,ov,e⟩:=st
  exact ⟨_,e,fun v z=>by cases z⟩
 keep:=fun i h h' ⟨ok,ov,st⟩ k=>⟨ok,ov,k it (by simp) _ st⟩
 item:=by
  intro X hP hw hK hc i pins s σ H E I hf st hg
  subst hP hw hK
  obtain ⟨hz,hlt⟩:=hg
  obtain ⟨ok,ov,st⟩:=st
  obtain ⟨ho,_,_,vs,xE,r,da⟩:=I.rV hz
  cases BJ da ho hd
  have hl:kvs.length=vs.length:=r.length
  obtain ⟨q,hq,ek,rq⟩:=xN r (aW hlt)
  obtain ⟨qk,qv⟩:=q
  rw [hl] at st
  obtain ⟨f0,f1,f2,f3,f4,f5⟩:=hf it (by simp)
  refine wpAny_pyNext_items_item st da hq fun key h1 hk st1 ht hsz hkeep=>?_
  refine ⟨_,Z,wpAny_letOwnedTupleGo_items (s:={ s with heap:=h1 }) st1 fun h2 st2 sb=>?_⟩
  have rk:RelV (kV kvs[i].1) key:=by rw [ek];exact K1 hk
  have hil:it≠s.heap.objs.size:=dQ (bR st)
  have vX:∀b o,b≠it->s.heap.get? b=some o->h2.get? b=some o:=fun b o hb e=>sb.extBut b o hb (hkeep b o hb e)
  have I1:Inv X pins σ (upd H s.heap.objs.size (.tup [kV kvs[i].1,kvs[i].2])) { s with heap:=h2 }:=by
   have J:Inv X pins σ H { s with heap:=h2 }:=I.turned (t':=s.toks) vX f0 f1 f3 f4 f5
   have hn:=I.fresh
   have J2:Inv X pins σ (upd H s.heap.objs.size (.tup [kV kvs[i].1,kvs[i].2])) { s with heap:=h2,gens:=s.gens,drawn:=s.drawn,toks:=s.toks }:=by
    refine I.step (ch:=[it]) (fun b hb=>⟨(hf b hb).2.2.2.1,(hf b hb).2.1,(hf b hb).2.2.2.2.1,(hf b hb).2.2.2.2.2⟩) (fun b o _ _ hc' e _=>vX b o (by simpa using hc') e) (fun b o _ _ hc' e _=>⟨o.slots,vX b o (by simpa using hc') e⟩) (fun b o _ e n=>by rw [av (dQ (bR e))];exact n) (fun b o hc' e=>⟨o,vX b o (by simpa using hc') e⟩)
     (fun b zs q=>by rw [av (aH q hn)];exact q) (fun b o zs q=>by rw [av (aH q hn)];exact q) (fun b ps q=>⟨#[],by rw [av (aH q hn),q];simp⟩) (fun m hm=>?_) (fun b ob e=>?_) I.bare
    . obtain ⟨o,es,ep,ho,r⟩:=hm
      exact ⟨o,es,ep,vX _ o (fun q=>f1 q.symm) ho,r⟩
    . by_cases hb:b=s.heap.objs.size
      . subst hb
        rw [ai] at e;cases e
        exact ⟨by show 2<=sizeLine;decide,[key,qv], .cons rk (.cons rq .nil),_,sb.extBut _ _ hil.symm ht,Z,0,Z⟩
      . rw [av hb] at e
        refine (I.hok b ob e).stay (fun c v TL q=>?_) (fun c q=>by rw [av (aH q hn)];exact q) fun c zs q=>by rw [av (aH q hn)];exact q
        refine vX c v (fun z=>?_) q
        rcases TL with r|r
        . rw [r] at z;rw [z,f0] at e;cases e
        . rw [z,f0] at r;cases r
   exact J2
  refine ⟨.ref s.heap.objs.size,_,I1,Z,⟨_,kvs[i],I.fresh,aW hlt,Z,Z⟩,⟨key,qv,by rw [hl];exact st2⟩,fun b hb=>?_⟩
  have eb:b=it:=by simpa using hb
  subst eb
  rw [av hil]
  exact f0
 done:=by
  intro X hP hw hK hc i pins s σ H E I hf st hg
  subst hP hw hK
  obtain ⟨hz,hle⟩:=hg
  obtain ⟨ok,ov,st⟩:=st
  obtain ⟨ho,_,_,vs,xE,r,da⟩:=I.rV hz
  cases BJ da ho hd
  have hl:kvs.length=vs.length:=r.length
  rw [hl] at st
  obtain ⟨f0,f1,f2,f3,f4,f5⟩:=hf it (by simp)
  exact wpAny_pyNext_items_end (I.ok.hd hc) st da (by rw [uC];omega) fun h' eb=>⟨Z,I.turned (t':=s.toks) (fun b o hb e=>eb b o hb e) f0 f1 f3 f4 f5⟩
 self:=fun A i s Q E ⟨ok,ov,st⟩ h=>PySem.W.kcp_self st h
section
variable {X:Cx} {tg:Expr}
inductive abF (R:It->Hp->Prop) (x:V) (H1:Hp):Prop
 | mk  (d o kvs:_) (_:x = .ref d) (_:oY H1 d o kvs) (_:R (Itv d o kvs:_) H1)
def aep (td:TE):TI:=fun σ H R=>td σ H (abF R)
inductive Ze (R:It->Hp->Prop) (x:V) (H1:Hp):Prop
 | mk  (d o kvs:_) (_:x = .ref d) (_:oY H1 d o kvs) (_:R (Iti d o kvs:_) H1)
def abG (td:TE):TI:=fun σ H R=>td σ H (Ze R)
end
variable {J:It} {tb:TS} {D:Ends}
theorem uN (Pv:Nat->St->Hp->Prop) (h0:Pv 0 σ H) (hgo:∀i σ H,i<n->Pv i σ H->J.go i H) (hst:∀σ H,Pv n σ H->J.stop n H)
  (hs:∀i x σ H H',i<n->Pv i σ H->J.D3 i H x H'->g x σ H' (tb (D.lp (Pv (i+1))))) (hd:∀σ H,Pv n σ H->D.nx σ H):
  J1 g tb D σ (J) H:=by
 refine ⟨fun i m σ H=>m=n-i/\i<=n/\Pv i σ H,⟨n,by simp,f_ _,h0⟩,?_⟩
 rintro i m σ H ⟨rfl,hi,p⟩
 by_cases hlt:i<n
 . exact .inr ⟨hgo i σ H hlt p,Pv (i+1),fun σ' H' p'=>⟨n-(i+1),by omega,Z,hlt,p'⟩,fun x H' y=>hs i x σ H H' hlt p y⟩
 . have e:i=n:=by omega
   subst e
   exact .inl ⟨hst σ H p,hd σ H p⟩
section
variable {prog:Program} {w:World} {K:Type} [DecidableEq K] {knd:KeyKind prog w K} {A:Around} {E:VS} {s:Shared}
theorem NJ {kvs:List (K×Value)} {k:K} {v:Value} {Q:VS} (hit:s.heap.IsKeyIter it d i kvs.length ep)
  (hm:s.heap.DictAt knd d kvs ep) (hx:kvs[i]?=some (k,v)) (hQ:∀key h',knd.is k key=true->h'.IsKeyIter it d (i+1) kvs.length ep->Heap.SameBut it s.heap h'->Q key { s with heap:=h' }):
  wpAny (model prog w) A (Builtin.SmallTypes.nextOf (.ref it)) Q E s:=by
 obtain ⟨o,ho,hc,hd⟩:=id hit;obtain ⟨od,es,hod,hcd,Ai,hk,hp,hn⟩:=id hm
 unfold Builtin.SmallTypes.nextOf
 refine aq (ye (name:=Str.ofString "__next__") hit.typeIs Xr (yj Xr hit.typeIs F.entry_dict_keyiterator_next ?_ (F.args_dict_keyiterator_next_1 _)))
 refine aq (aL ?_);refine aq (aq ?_)
 first|(refine aq (Xp hit.typeIs (aL ?_));refine aq (vU ho hd ?_))|(refine aq (Qw hit.typeIs (aL ?_));refine aq (vU ho hd ?_))
 have own:Builtin.Dict_items.ownsTuple "dict_keyiterator"=false:=by decide
 simp only [own,Gf,lE]
 show wpAny _ _ (if (Value.ref d==Value.none)=true then _ else _) _ _ _
 rw [az (fun z=>fM z:¬ ((Value.ref d==Value.none)=true))];refine aq (aL ?_)
 have sz:es.size=kvs.length:=by have:=hp.length;simpa using this
 refine aq (QN hod Ai ?_);rw [az (by rw [sz];simp)]
 refine aq (aL ?_);refine aq (JY hod Ai ?_)
 rw [az (by simp)];refine aL ?_
 have lt:i<kvs.length:=(dI.mp hx).1
 have lt':i<es.size:=by omega
 have kv:=hp.get? (e:=es[i]) (by simp [lt']) hx
 simp only [show ¬ ((i:Int)<0) from by omega,lE,wM,Array.getElem?_eq_getElem lt'];refine aq ?_
 first|(refine aq (Xp hit.typeIs (aL ?_));refine aq (wpAny_isOneOf_keyiter hit.typeIs ?_))|(refine aq (Qw hit.typeIs (aL ?_));refine aq (wpAny_isOneOf_keyiter hit.typeIs ?_))
 show wpAny _ _ (setField (.ref it) 1 (rawInt ((i:Int)+1)) >>= _) _ _ _
 refine aq (Bm ho hd (by simp) ?_)
 have Gu:(s.heap.update it (Obj.mapFields (·.setIfInBounds 1 (rawInt ((i:Int)+1))))).IsKeyIter it d (i+1) kvs.length ep:=⟨_,CN _ ho (Obj.isFreed_of_fields (Gg hd _)),(Obj.cls_mapFields ..).trans hc,by rw [Gg hd];simp [rawInt]⟩
 refine aq (yo (aq (wpAny_isOneOf_keyiter (s:={ s with heap:=s.heap.update it (Obj.mapFields (·.setIfInBounds 1 (rawInt ((i:Int)+1)))) }) Gu.typeIs ?_)))
 exact aL (aL ⟨_,Z,aL (hQ _ _ kv.1 Gu (Gb ..))⟩)
theorem Rl {kvs:List (K×Value)} {Q:VS} (hh:A.handled=none) (hit:s.heap.IsKeyIter it d i kvs.length ep)
  (hm:s.heap.DictAt knd d kvs ep) (hx:kvs[i]?=none) (hE:∀h' e,Heap.ExtBut it s.heap h'->(∃o,h'.get? e=some o/\o.cls = .type "StopIteration")->E (.ref e) { s with heap:=h' }):
  wpAny (model prog w) A (Builtin.SmallTypes.nextOf (.ref it)) Q E s:=by
 obtain ⟨o,ho,hc,hd⟩:=id hit;obtain ⟨od,es,hod,hcd,Ai,hk,hp,hn⟩:=id hm
 unfold Builtin.SmallTypes.nextOf
 refine aq (ye (name:=Str.ofString "__next__") hit.typeIs Xr (yj Xr hit.typeIs F.entry_dict_keyiterator_next ?_ (F.args_dict_keyiterator_next_1 _)))
 refine aq (aL ?_);refine aq (aq ?_)
 first|(refine aq (Xp hit.typeIs (aL ?_));refine aq (vU ho hd ?_))|(refine aq (Qw hit.typeIs (aL ?_));refine aq (vU ho hd ?_))
 have own:Builtin.Dict_items.ownsTuple "dict_keyiterator"=false:=by decide
 simp only [own,Gf,lE]
 show wpAny _ _ (if (Value.ref d==Value.none)=true then _ else _) _ _ _
 rw [az (fun z=>fM z:¬ ((Value.ref d==Value.none)=true))];refine aq (aL ?_)
 have sz:es.size=kvs.length:=by have:=hp.length;simpa using this
 refine aq (QN hod Ai ?_);rw [az (by rw [sz];simp)]
 refine aq (aL ?_);refine aq (JY hod Ai ?_)
 rw [az (by simp)];refine aL ?_
 have ge:es.size<=i:=by rw [sz];simpa using hx
 simp only [show ¬ ((i:Int)<0) from by omega,lE,wM,Array.getElem?_eq_none ge];refine aq ?_
 first|(refine aq (Xp hit.typeIs (aL ?_));show wpAny _ _ (setField (.ref it) 0 .none >>= _) _ _ _)|(refine aq (Qw hit.typeIs (aL ?_));show wpAny _ _ (setField (.ref it) 0 .none >>= _) _ _ _)
 refine aq (Bm ho hd (by simp) ?_);show wpAny _ _ (newExc (.type "StopIteration") [] >>= _) _ _ _
 refine aq ?_;simp only [newExc,newTuple]
 refine aq (qN ?_ (by size_fits));refine aq (m:=firstArgMember _ _) (wpAny_of_eq (a:=Value.none) (by first|rfl|(simp only [firstArgMember];rfl)) ?_)
 refine qN ?_ (by size_fits);simp only [raiseNew]
 refine aq (wpAny_handled ?_);rw [show A.in1.handled=none from hh]
 exact aq (aL (wpAny_throw (hE _ _ (((Gb ..).extBut.push _).push _) ⟨_,dZ _ rfl,Z⟩)))
theorem NK {kvs:List (K×Value)} {k:K} {v:Value} {Q:VS} (hit:s.heap.IsValIter it d i kvs.length ep)
  (hm:s.heap.DictAt knd d kvs ep) (hx:kvs[i]?=some (k,v)) (hQ:∀h',h'.IsValIter it d (i+1) kvs.length ep->Heap.SameBut it s.heap h'->Q v { s with heap:=h' }):
  wpAny (model prog w) A (Builtin.SmallTypes.nextOf (.ref it)) Q E s:=by
 obtain ⟨o,ho,hc,hd⟩:=id hit;obtain ⟨od,es,hod,hcd,Ai,hk,hp,hn⟩:=id hm
 unfold Builtin.SmallTypes.nextOf
 refine aq (ye (name:=Str.ofString "__next__") hit.typeIs Xo (yj Xo hit.typeIs F.entry_dict_valueiterator_next ?_ (F.args_dict_valueiterator_next_1 _)))
 refine aq (aL ?_);refine aq (aq ?_)
 first|(refine aq (Xq hit.typeIs (aL ?_));refine aq (vU ho hd ?_))|(refine aq (Qx hit.typeIs (aL ?_));refine aq (vU ho hd ?_))
 have own:Builtin.Dict_items.ownsTuple "dict_valueiterator"=false:=by decide
 simp only [own,Gf,lE]
 show wpAny _ _ (if (Value.ref d==Value.none)=true then _ else _) _ _ _
 rw [az (fun z=>fM z:¬ ((Value.ref d==Value.none)=true))];refine aq (aL ?_)
 have sz:es.size=kvs.length:=by have:=hp.length;simpa using this
 refine aq (QN hod Ai ?_);rw [az (by rw [sz];simp)]
 refine aq (aL ?_);refine aq (JY hod Ai ?_)
 rw [az (by simp)];refine aL ?_
 have lt:i<kvs.length:=(dI.mp hx).1
 have lt':i<es.size:=by omega
 have kv:=hp.get? (e:=es[i]) (by simp [lt']) hx
 simp only [show ¬ ((i:Int)<0) from by omega,lE,wM,Array.getElem?_eq_getElem lt'];refine aq ?_
 first|(refine aq (Xq hit.typeIs (aL ?_));refine aq (QA hit.typeIs ?_))|(refine aq (Qx hit.typeIs (aL ?_));refine aq (QA hit.typeIs ?_))
 show wpAny _ _ (setField (.ref it) 1 (rawInt ((i:Int)+1)) >>= _) _ _ _
 refine aq (Bm ho hd (by simp) ?_)
 have Gu:(s.heap.update it (Obj.mapFields (·.setIfInBounds 1 (rawInt ((i:Int)+1))))).IsValIter it d (i+1) kvs.length ep:=⟨_,CN _ ho (Obj.isFreed_of_fields (Gg hd _)),(Obj.cls_mapFields ..).trans hc,by rw [Gg hd];simp [rawInt]⟩
 refine aq (yo (aq (QA (s:={ s with heap:=s.heap.update it (Obj.mapFields (·.setIfInBounds 1 (rawInt ((i:Int)+1)))) }) Gu.typeIs ?_)))
 refine aq (QA (s:={ s with heap:=s.heap.update it (Obj.mapFields (·.setIfInBounds 1 (rawInt ((i:Int)+1)))) }) Gu.typeIs ?_)
 exact aL (aL ⟨_,Z,aL (kv.2▸hQ _ Gu (Gb ..))⟩)
theorem Rm {kvs:List (K×Value)} {Q:VS} (hh:A.handled=none) (hit:s.heap.IsValIter it d i kvs.length ep)
  (hm:s.heap.DictAt knd d kvs ep) (hx:kvs[i]?=none) (hE:∀h' e,Heap.ExtBut it s.heap h'->(∃o,h'.get? e=some o/\o.cls = .type "StopIteration")->E (.ref e) { s with heap:=h' }):
  wpAny (model prog w) A (Builtin.SmallTypes.nextOf (.ref it)) Q E s:=by
 obtain ⟨o,ho,hc,hd⟩:=id hit;obtain ⟨od,es,hod,hcd,Ai,hk,hp,hn⟩:=id hm
 unfold Builtin.SmallTypes.nextOf
 refine aq (ye (name:=Str.ofString "__next__") hit.typeIs Xo (yj Xo hit.typeIs F.entry_dict_valueiterator_next ?_ (F.args_dict_valueiterator_next_1 _)))
 refine aq (aL ?_);refine aq (aq ?_)
 first|(refine aq (Xq hit.typeIs (aL ?_));refine aq (vU ho hd ?_))|(refine aq (Qx hit.typeIs (aL ?_));refine aq (vU ho hd ?_))
 have own:Builtin.Dict_items.ownsTuple "dict_valueiterator"=false:=by decide
 simp only [own,Gf,lE]
 show wpAny _ _ (if (Value.ref d==Value.none)=true then _ else _) _ _ _
 rw [az (fun z=>fM z:¬ ((Value.ref d==Value.none)=true))];refine aq (aL ?_)
 have sz:es.size=kvs.length:=by have:=hp.length;simpa using this
 refine aq (QN hod Ai ?_);rw [az (by rw [sz];simp)]
 refine aq (aL ?_);refine aq (JY hod Ai ?_)
 rw [az (by simp)];refine aL ?_
 have ge:es.size<=i:=by rw [sz];simpa using hx
 simp only [show ¬ ((i:Int)<0) from by omega,lE,wM,Array.getElem?_eq_none ge];refine aq ?_
 first|(refine aq (Xq hit.typeIs (aL ?_));show wpAny _ _ (setField (.ref it) 0 .none >>= _) _ _ _)|(refine aq (Qx hit.typeIs (aL ?_));show wpAny _ _ (setField (.ref it) 0 .none >>= _) _ _ _)
 refine aq (Bm ho hd (by simp) ?_);show wpAny _ _ (newExc (.type "StopIteration") [] >>= _) _ _ _
 refine aq ?_;simp only [newExc,newTuple]
 refine aq (qN ?_ (by size_fits));refine aq (m:=firstArgMember _ _) (wpAny_of_eq (a:=Value.none) (by first|rfl|(simp only [firstArgMember];rfl)) ?_)
 refine qN ?_ (by size_fits);simp only [raiseNew]
 refine aq (wpAny_handled ?_);rw [show A.in1.handled=none from hh]
 exact aq (aL (wpAny_throw (hE _ _ (((Gb ..).extBut.push _).push _) ⟨_,dZ _ rfl,Z⟩)))
end
structure Aj (P:Program) (w:World) (K:Fg) (S:Hp->Prop) (xs:List V) (it l:Addr) (tn:Nat->Heap->Prop) (src:Heap->Prop):Prop where
 obj:∀i h,tn i h->∃o,h.get? it=some o/\∀v,o.data ≠ .cell v
 keep:∀i h h',tn i h->(∀o,h.get? it=some o->h'.get? it=some o)->tn i h'
 vY:∀h h',src h->(∀o,h.get? l=some o->h'.get? l=some o)->src h'
 Ib:∀(X:Cx),X.prog=P->X.w=w->X.K=K->∀(pins:AO) (σ:St) (H:Hp) (s:Shared),Inv X pins σ H s->S H->src s.heap
 item:∀(A:Around) (i:Nat) (x:V) (s:Shared) (Q:VS) (E:VS),tn i s.heap->src s.heap->xs[i]?=some x->(∀u h',RelV x u->tn (i+1) h'->Heap.SameBut it s.heap h'->Q u { s with heap:=h' })->wpAny (model P w) A (Builtin.SmallTypes.nextOf (.ref it)) Q E s
 done:∀(A:Around) (i:Nat) (s:Shared) (Q:VS) (E:VS),A.handled=none->tn i s.heap->src s.heap->xs.length<=i->(∀h' e,Heap.ExtBut it s.heap h'->(∃o,h'.get? e=some o/\o.cls = .type "StopIteration")->E (.ref e) { s with heap:=h' })->wpAny (model P w) A (Builtin.SmallTypes.nextOf (.ref it)) Q E s
theorem Ww {w:World} {l:Addr}:Aj P w K (fun H=>aC K H l xs) xs it l (fun i h=>h.IsListIter it l i) (fun h=>∃its:List Value,Vals xs its/\h.IsList l its.toArray) where
 obj:=fun i h ⟨o,e,c,d⟩=>⟨o,e,fun v z=>by rw [d] at z;cases z⟩
 keep:=fun i h h' st k=>st.at k
 vY:=fun h h' ⟨its,r,hl⟩ k=>⟨its,r,hl.at k⟩
 Ib:=fun X hP hw hK pins σ H s I h=>by
  subst hP hw hK
  obtain ⟨its,rv,p,_⟩:=I.list h
  exact ⟨its,rv,p.isList⟩
 item:=fun A i x s Q E st ⟨its,r,hl⟩ hx hQ=>by
  obtain ⟨u,hu,ru⟩:=r.get hx
  exact wpAny_nextOf_list_item st hl (by simpa using hu) fun h' st' sb=>hQ u h' ru st' sb
 done:=fun A i s Q E hh st ⟨its,r,hl⟩ hx hE=>wpAny_nextOf_list_end hh st hl (by have:=r.length;simp;omega) hE
theorem Wx {w:World} {o:Obj} {es:Array DictEntry} (hd:o.data = .dict es ep):
  Aj P w K (fun H=>oY H d o kvs) (kvs.map fun p=>kV p.1) it d (fun i h=>h.IsKeyIter it d i kvs.length ep) (fun h=>∃vs,KV kvs vs/\h.DictAt (cZ P w) d vs ep) where
 obj:=fun i h ⟨o,e,c,d⟩=>⟨o,e,fun v z=>by rw [d] at z;cases z⟩
 keep:=fun i h h' st k=>st.at k
 vY:=fun h h' ⟨vs,r,hl⟩ k=>⟨vs,r,hl.at' k⟩
 Ib:=fun X hP hw hK pins σ H s I h=>by
  subst hP hw hK
  obtain ⟨ho,_,_,vs,xE,r,da⟩:=I.rV h
  cases BJ da ho hd
  exact ⟨vs,r,da⟩
 item:=fun A i x s Q E st ⟨vs,r,da⟩ hx hQ=>by
  rw [bF] at hx
  obtain ⟨p,hp,rfl⟩:=lR.mp hx
  obtain ⟨q,hq,ek,rq⟩:=xN r hp
  obtain ⟨qk,qv⟩:=q
  have hl:kvs.length=vs.length:=r.length
  rw [hl] at st
  exact NJ st da hq fun key h' hk st' sb=>hQ key h' (by rw [ek];exact K1 hk) (by rw [hl];exact st') sb
 done:=fun A i s Q E hh st ⟨vs,r,da⟩ hx hE=>by
  have hl:kvs.length=vs.length:=r.length
  rw [aE] at hx
  rw [hl] at st
  exact Rl hh st da (by rw [uC];omega) hE
theorem Wy {w:World} {o:Obj} {es:Array DictEntry} (hd:o.data = .dict es ep):
  Aj P w K (fun H=>oY H d o kvs) (kvs.map fun p=>p.2) it d (fun i h=>h.IsValIter it d i kvs.length ep) (fun h=>∃vs,KV kvs vs/\h.DictAt (cZ P w) d vs ep) where
 obj:=fun i h ⟨o,e,c,d⟩=>⟨o,e,fun v z=>by rw [d] at z;cases z⟩
 keep:=fun i h h' st k=>st.at k
 vY:=fun h h' ⟨vs,r,hl⟩ k=>⟨vs,r,hl.at' k⟩
 Ib:=fun X hP hw hK pins σ H s I h=>by
  subst hP hw hK
  obtain ⟨ho,_,_,vs,xE,r,da⟩:=I.rV h
  cases BJ da ho hd
  exact ⟨vs,r,da⟩
 item:=fun A i x s Q E st ⟨vs,r,da⟩ hx hQ=>by
  rw [bF] at hx
  obtain ⟨p,hp,rfl⟩:=lR.mp hx
  obtain ⟨q,hq,ek,rq⟩:=xN r hp
  obtain ⟨qk,qv⟩:=q
  have hl:kvs.length=vs.length:=r.length
  rw [hl] at st
  exact NK st da hq fun h' st' sb=>hQ qv h' rq (by rw [hl];exact st') sb
 done:=fun A i s Q E hh st ⟨vs,r,da⟩ hx hE=>by
  have hl:kvs.length=vs.length:=r.length
  rw [aE] at hx
  rw [hl] at st
  exact Rm hh st da (by rw [uC];omega) hE
variable {y:V}
section
variable {P:Program} {w:World} {A:Around} {E:VS} {s:Shared} {K:Fg} {S1 S2:Hp->Prop} {xs ys:List V} {z TI TO i1 i2 l1 l2:Addr} {t1 t2:Nat->Heap->Prop} {c1 c2:Heap->Prop} {i:Nat}
theorem TM {x:V} {a b:Value} {Q:VS} (D:ZipApart z TI TO i1 i2 l1 l2) (C1:Aj P w K S1 xs i1 l1 t1 c1) (C2:Aj P w K S2 ys i2 l2 t2 c2)
  (hz:IsZip s.heap z TI TO .none) (hTI:IsPair s.heap TI (.ref i1) (.ref i2)) (hTO:IsPair s.heap TO a b) (h1:t1 i s.heap) (h2:t2 i s.heap) (hc1:c1 s.heap) (hc2:c2 s.heap) (hx:xs[i]?=some x) (hy:ys[i]?=some y)
  (hQ:∀u v h',RelV x u->RelV y v->IsZip h' z TI TO (rawInt s.heap.objs.size)->IsPair h' TO u v->t1 (i+1) h'->t2 (i+1) h'->IsPair h' s.heap.objs.size u v->h'.objs.size=s.heap.objs.size+1->
    (∀c o,c≠z->c≠TO->c≠i1->c≠i2->s.heap.get? c=some o->h'.get? c=some o)->Q (.ref s.heap.objs.size) { s with heap:=h' }):
  wpAny (model P w) A (Builtin.«zip.__next__» ⟨[.ref z],[]⟩) (fun fin s'=>∃v,fin = .done (.ret v)/\Q v s') E s:=by
 show wpAny _ _ (field (.ref z) 2 >>= _) _ _ _
 refine aq (kH hz rfl (x:= .bool false) rfl ?_);show wpAny _ _ (field (.ref z) 3 >>= _) _ _ _
 refine aq (kH hz rfl (x:= .ref TI) rfl ?_);refine aq (ue hTI rfl ?_)
 show wpAny _ _ (Builtin.SmallTypes.ownedTupleIsFree (.ref z) >>= _) _ _ _
 refine aq ?_;unfold Builtin.SmallTypes.ownedTupleIsFree
 refine aq (kH hz rfl (x:= .none) rfl (aL ?_));simp only [rQ]
 refine aq (wpAny_rule ?_);refine aq (kH hz rfl (x:= .ref TO) rfl ?_)
 refine aq (Gi hz (by simp) fun hA oZ sA=>?_)
 replace oZ:IsZip hA z TI TO .ellipsis:=oZ
 refine aq ?_;simp only [List.zipIdx_cons,List.zipIdx_nil,JW,DU]
 refine aq (aq (wpAny_onRaise ?_));show wpAny _ _ (Builtin.SmallTypes.nextOf (.ref i1) >>= _) _ _ _
 refine aq (C1.item _ i x { s with heap:=hA } _ _ (C1.keep _ _ _ h1 fun o e=>sA.extBut _ _ D.i1z e) (C1.vY _ _ hc1 fun o e=>sA.extBut _ _ D.l1z e) hx fun u hB ru h1B sB=>aL ?_)
 have TN:IsPair hB TO a b:=sB.extBut _ _ D.TOi1 (sA.extBut _ _ D.TOz hTO)
 refine aq (ue TN rfl ?_);refine aq (wpAny_updateSeq_pair TN fun hC XS sC=>?_)
 replace XS:IsPair hC TO u b:=XS
 refine aq (wpAny_letGo (aL ?_));refine aq (aq (wpAny_onRaise ?_))
 show wpAny _ _ (Builtin.SmallTypes.nextOf (.ref i2) >>= _) _ _ _
 refine aq (C2.item _ i y { s with heap:=hC } _ _ (C2.keep _ _ _ h2 fun o e=>sC.extBut _ _ D.TOi2.symm (sB.extBut _ _ D.i12.symm (sA.extBut _ _ D.i2z e))) (C2.vY _ _ hc2 fun o e=>sC.extBut _ _ D.l2TO (sB.extBut _ _ D.l2i1 (sA.extBut _ _ D.l2z e))) hy fun v hD rv h2D sD=>aL ?_)
 have TOD:IsPair hD TO u b:=sD.extBut _ _ D.TOi2 XS
 refine aq (ue TOD rfl ?_);refine aq (wpAny_updateSeq_pair TOD fun hE XT sE=>?_)
 replace XT:IsPair hE TO u v:=XT
 refine aq (wpAny_letGo (aL (aL ?_)));refine aq (ue XT rfl ?_)
 refine aq (wpAny_newTuple ?_)
 have sz:hE.objs.size=s.heap.objs.size:=by rw [sE.1,sD.1,sC.1,sB.1,sA.1]
 have zE:IsZip hE z TI TO .ellipsis:=sE.extBut _ _ D.TOz.symm (sD.extBut _ _ D.i2z.symm (sC.extBut _ _ D.TOz.symm (sB.extBut _ _ D.i1z.symm oZ)))
 have kE:∀c o,c≠z->c≠TO->c≠i1->c≠i2->s.heap.get? c=some o->hE.get? c=some o:=fun c o c1 c2 c3 c4 e=>sE.extBut _ _ c2 (sD.extBut _ _ c4 (sC.extBut _ _ c2 (sB.extBut _ _ c3 (sA.extBut _ _ c1 e))))
 have t1E:t1 (i+1) hE:=C1.keep _ _ _ h1B fun o e=>sE.extBut _ _ D.TOi1.symm (sD.extBut _ _ D.i12 (sC.extBut _ _ D.TOi1.symm e))
 have t2E:t2 (i+1) hE:=C2.keep _ _ _ h2D fun o e=>sE.extBut _ _ D.TOi2.symm e
 have zlt:z<hE.objs.size:=bR zE
 show wpAny _ _ (Builtin.SmallTypes.ownedTupleHandOut (.ref z) (.ref hE.objs.size) >>= _) _ _ _
 refine aq ?_;unfold Builtin.SmallTypes.ownedTupleHandOut
 have zF:IsZip (hE.push { cls:= .type "tuple",data:= .seq #[u,v] }) z TI TO .ellipsis:=cA _ zE
 refine aq (Gi zF (by simp) fun hG zG sG=>?_)
 replace zG:IsZip hG z TI TO (rawInt hE.objs.size):=zG
 refine Gi zG (by simp) fun hI zI sI=>?_
 replace zI:IsZip hI z TI TO (rawInt hE.objs.size):=zI
 have up:∀c o,c≠z->hE.get? c=some o->hI.get? c=some o:=fun c o c1 e=>sI.extBut _ _ c1 (sG.extBut _ _ c1 (cA _ e))
 have TI':IsPair hI hE.objs.size u v:=sI.extBut _ _ (yp zlt) (sG.extBut _ _ (yp zlt) (dZ _ rfl))
 have szI:hI.objs.size=hE.objs.size+1:=by rw [sI.1,sG.1,mJ]
 rw [sz] at zI TI' szI
 refine aL ⟨_,Z,?_⟩
 show Q (.ref hE.objs.size) _
 rw [sz]
 exact hQ u v hI ru rv zI (up _ _ D.TOz XT) (C1.keep _ _ _ t1E fun o e=>up _ o D.i1z e) (C2.keep _ _ _ t2E fun o e=>up _ o D.i2z e) TI' szI fun c o c1 c2 c3 c4 e=>up c o c1 (kE c o c1 c2 c3 c4 e)
theorem Wz {a b:Value} {Q:Fin->Shared->Prop} (hh:A.handled=none) (D:ZipApart z TI TO i1 i2 l1 l2) (C1:Aj P w K S1 xs i1 l1 t1 c1) (C2:Aj P w K S2 ys i2 l2 t2 c2)
  (hz:IsZip s.heap z TI TO .none) (hTI:IsPair s.heap TI (.ref i1) (.ref i2)) (hTO:IsPair s.heap TO a b) (h1:t1 i s.heap) (h2:t2 i s.heap) (hc1:c1 s.heap) (hc2:c2 s.heap) (hend:xs.length<=i\/ys.length<=i)
  (hE:∀h' e,(∀c o,c≠z->c≠TO->c≠i1->c≠i2->s.heap.get? c=some o->h'.get? c=some o)->(∃o,h'.get? e=some o/\o.cls = .type "StopIteration")->E (.ref e) { s with heap:=h' }):
  wpAny (model P w) A (Builtin.«zip.__next__» ⟨[.ref z],[]⟩) Q E s:=by
 show wpAny _ _ (field (.ref z) 2 >>= _) _ _ _
 refine aq (kH hz rfl (x:= .bool false) rfl ?_);show wpAny _ _ (field (.ref z) 3 >>= _) _ _ _
 refine aq (kH hz rfl (x:= .ref TI) rfl ?_);refine aq (ue hTI rfl ?_)
 show wpAny _ _ (Builtin.SmallTypes.ownedTupleIsFree (.ref z) >>= _) _ _ _
 refine aq ?_;unfold Builtin.SmallTypes.ownedTupleIsFree
 refine aq (kH hz rfl (x:= .none) rfl (aL ?_));simp only [rQ]
 refine aq (wpAny_rule ?_);refine aq (kH hz rfl (x:= .ref TO) rfl ?_)
 refine aq (Gi hz (by simp) fun hA oZ sA=>?_)
 replace oZ:IsZip hA z TI TO .ellipsis:=oZ
 refine aq ?_;simp only [List.zipIdx_cons,List.zipIdx_nil,JW,DU]
 refine aq (aq (wpAny_onRaise ?_));show wpAny _ _ (Builtin.SmallTypes.nextOf (.ref i1) >>= _) _ _ _
 have k1:=C1.keep _ _ _ h1 fun o e=>sA.extBut _ _ D.i1z e
 have k2:=C1.vY _ _ hc1 fun o e=>sA.extBut _ _ D.l1z e
 by_cases hx:xs.length<=i
 . refine aq (C1.done _ i { s with heap:=hA } _ _ hh k1 k2 hx fun hB e sB he=>?_)
   obtain ⟨oe,Ey,hce⟩:=he
   have zB:IsZip hB z TI TO .ellipsis:=sB _ _ D.i1z.symm oZ
   have ez:e≠z:=fun x=>by subst x;rw [zB] at Ey;cases Ey;simp at hce
   exact Gi zB (by simp) fun hC _ sC=>hE hC e (fun c o c1 _ c3 _ x=>sC.extBut _ _ c1 (sB _ _ c3 (sA.extBut _ _ c1 x))) ⟨oe,sC.extBut _ _ ez Ey,hce⟩
 . have hy:ys.length<=i:=hend.resolve_left hx
   refine aq (C1.item _ i xs[i] { s with heap:=hA } _ _ k1 k2 (aW (by omega)) fun u hB ru h1B sB=>aL ?_)
   have TN:IsPair hB TO a b:=sB.extBut _ _ D.TOi1 (sA.extBut _ _ D.TOz hTO)
   refine aq (ue TN rfl ?_);refine aq (wpAny_updateSeq_pair TN fun hC XS sC=>?_)
   refine aq (wpAny_letGo (aL ?_));refine aq (aq (wpAny_onRaise ?_))
   show wpAny _ _ (Builtin.SmallTypes.nextOf (.ref i2) >>= _) _ _ _
   refine aq (C2.done _ i { s with heap:=hC } _ _ hh (C2.keep _ _ _ h2 fun o e=>sC.extBut _ _ D.TOi2.symm (sB.extBut _ _ D.i12.symm (sA.extBut _ _ D.i2z e))) (C2.vY _ _ hc2 fun o e=>sC.extBut _ _ D.l2TO (sB.extBut _ _ D.l2i1 (sA.extBut _ _ D.l2z e))) hy fun hD e sD he=>?_)
   obtain ⟨oe,Ey,hce⟩:=he
   have zD:IsZip hD z TI TO .ellipsis:=sD _ _ D.i2z.symm (sC.extBut _ _ D.TOz.symm (sB.extBut _ _ D.i1z.symm oZ))
   have ez:e≠z:=fun x=>by subst x;rw [zD] at Ey;cases Ey;simp at hce
   exact Gi zD (by simp) fun hF _ sF=>hE hF e (fun c o c1 c2 c3 c4 x=>sF.extBut _ _ c1 (sD _ _ c4 (sC.extBut _ _ c2 (sB.extBut _ _ c3 (sA.extBut _ _ c1 x))))) ⟨oe,sF.extBut _ _ ez Ey,hce⟩
end
def abH (S1 S2:Hp->Prop) (xs ys:List V):It:=
 ⟨fun i H=>S1 H/\S2 H/\i<xs.length/\i<ys.length,fun i H v H'=>∃p x y,H p=none/\v = .ref p/\H'=upd H p (.tup [x,y])/\xs[i]?=some x/\ys[i]?=some y,fun i H=>S1 H/\S2 H/\(xs.length<=i\/ys.length<=i)⟩
variable {ys:List V} {z:Addr}
theorem TQ {w:World} {kk:Nat} {S1 S2:Hp->Prop} {TI TO i1 i2 l1 l2:Addr} {t1 t2:Nat->Heap->Prop} {c1 c2:Heap->Prop} (D:ZipApart z TI TO i1 i2 l1 l2)
  (C1:Aj P w K S1 xs i1 l1 t1 c1) (C2:Aj P w K S2 ys i2 l2 t2 c2):
  Turn P w K (.Tuple elts kk pos) (abH S1 S2 xs ys) [z,TI,TO,i1,i2] z (fun i h=>IsZip h z TI TO .none/\IsPair h TI (.ref i1) (.ref i2)/\(∃a b,IsPair h TO a b)/\t1 i h/\t2 i h) where
 mem:=by simp
 obj:=fun i h st b hb=>by
  obtain ⟨hz,hTI,⟨a,b',hTO⟩,h1,h2⟩:=st
  have hb':b=z\/b=TI\/b=TO\/b=i1\/b=i2:=by simpa using hb
  rcases hb' with rfl|rfl|rfl|rfl|rfl
  . exact ⟨_,hz,fun v q=>by cases q⟩
  . exact ⟨_,hTI,fun v q=>by cases q⟩
  . exact ⟨_,hTO,fun v q=>by cases q⟩
  . exact C1.obj i h h1
  . exact C2.obj i h h2
 keep:=fun i h h' st k=>by
  obtain ⟨hz,hTI,⟨a,b',hTO⟩,h1,h2⟩:=st
  exact ⟨k z (by simp) _ hz,k TI (by simp) _ hTI,⟨a,b',k TO (by simp) _ hTO⟩,C1.keep _ _ _ h1 fun o e=>k i1 (by simp) o e,C2.keep _ _ _ h2 fun o e=>k i2 (by simp) o e⟩
 item:=by
  intro X hP hw hK hc i pins s σ H E I hf st hg
  subst hP hw hK
  obtain ⟨hz,hTI,⟨a,b,hTO⟩,h1,h2⟩:=st
  obtain ⟨g1,g2,lx,ly⟩:=hg
  have hT:s.TypeIs (.ref z) "zip":=⟨_,hz,Z⟩
  unfold pyNext
  refine aq (wpAny_attempt (ye (name:=Str.ofString "__next__") hT JZ (yj JZ hT F.entry_zip_next
   (TM D C1 C2 hz hTI hTO h1 h2 (C1.Ib X rfl rfl rfl pins σ H s I g1) (C2.Ib X rfl rfl rfl pins σ H s I g2) (aW lx) (aW ly) fun u u2 h' ru ru2 a1 a2 a3 a4 a5 a6 hk=>aL ?_) (F.args_zip_next_1 _))))
  refine ⟨_,Z,wpAny_letOwnedTupleGo_zip (s:={ s with heap:=h' }) a1 fun h'' b1 hs=>?_⟩
  have hTz:s.heap.objs.size≠z:=yp (bR hz)
  have vX:∀c o,c≠z->c≠TO->c≠i1->c≠i2->s.heap.get? c=some o->h''.get? c=some o:=fun c o c1 c2 c3 c4 e=>hs.extBut _ _ c1 (hk c o c1 c2 c3 c4 e)
  have hn:=I.fresh
  have nf:∀b u,H b=some u->b≠z/\b≠TO/\b≠i1/\b≠i2:=fun b u e=>by
   have g:∀c∈[z,TI,TO,i1,i2],b≠c:=fun c hc q=>by
    have:=(hf c hc).1
    rw [<-q,e] at this
    cases this
   exact ⟨g z (by simp),g TO (by simp),g i1 (by simp),g i2 (by simp)⟩
  have xD:∀c,c∉[z,TI,TO,i1,i2]->c≠z/\c≠TO/\c≠i1/\c≠i2:=fun c hc=>⟨fun q=>hc (by simp [q]),fun q=>hc (by simp [q]),fun q=>hc (by simp [q]),fun q=>hc (by simp [q])⟩
  have ahJ:IsPair h'' s.heap.objs.size u u2:=hs.extBut _ _ hTz a5
  have hok:gQ X.prog X.w (upd H s.heap.objs.size (.tup [xs[i],ys[i]])) h'':=fun b ob e=>by
   by_cases hb:b=s.heap.objs.size
   . subst hb
     rw [ai] at e
     cases e
     exact ⟨by show 2<=sizeLine;decide,[u,u2], .cons ru (.cons ru2 .nil),_,ahJ,Z,0,Z⟩
   . rw [av hb] at e
     refine (I.hok b ob e).stay (fun c v TL q=>?_) (fun c q=>by rw [av (aH q hn)];exact q) fun c zs q=>by rw [av (aH q hn)];exact q
     rcases TL with r|r
     . obtain ⟨n1,n2,n3,n4⟩:=nf b ob e
       rw [r]
       rw [r] at q
       exact vX b v n1 n2 n3 n4 q
     . obtain ⟨n1,n2,n3,n4⟩:=nf c _ r
       exact vX c v n1 n2 n3 n4 q
  have I2:Inv X pins σ (upd H s.heap.objs.size (.tup [xs[i],ys[i]])) { s with heap:=h'',gens:=s.gens,drawn:=s.drawn,toks:=s.toks }:=by
   refine I.step (ch:=[z,TI,TO,i1,i2]) (fun b hb=>⟨(hf b hb).2.2.2.1,(hf b hb).2.1,(hf b hb).2.2.2.2.1,(hf b hb).2.2.2.2.2⟩) (fun b o _ _ hc' e _=>?_) (fun b o _ _ hc' e _=>?_) (fun b o _ e n=>?_) (fun b o hc' e=>?_)
    (fun b zs q=>by rw [av (aH q hn)];exact q) (fun b o zs q=>by rw [av (aH q hn)];exact q) (fun b ps q=>⟨#[],by rw [av (aH q hn),q];simp⟩) (fun m hm=>?_) hok I.bare
   . obtain ⟨n1,n2,n3,n4⟩:=xD b hc'
     exact vX b o n1 n2 n3 n4 e
   . obtain ⟨n1,n2,n3,n4⟩:=xD b hc'
     exact ⟨o.slots,vX b o n1 n2 n3 n4 e⟩
   . rw [av (dQ (bR e))]
     exact n
   . obtain ⟨n1,n2,n3,n4⟩:=xD b hc'
     exact ⟨o,vX b o n1 n2 n3 n4 e⟩
   . obtain ⟨o,es,ep,ho,r⟩:=hm
     have nl:∀c∈[z,TI,TO,i1,i2],X.env.locals≠c:=fun c hc' q=>(hf c hc').2.1 q.symm
     exact ⟨o,es,ep,vX _ o (nl z (by simp)) (nl TO (by simp)) (nl i1 (by simp)) (nl i2 (by simp)) ho,r⟩
  refine ⟨.ref s.heap.objs.size,_,I2,Z,⟨s.heap.objs.size,xs[i],ys[i],hn,Z,Z,aW lx,aW ly⟩,⟨b1,?_,⟨u,u2,?_⟩,?_,?_⟩,fun b hb=>?_⟩
  . exact vX _ _ D.TIz D.TITO D.TIi1 D.TIi2 hTI
  . exact hs.extBut _ _ D.TOz a2
  . exact C1.keep _ _ _ a3 fun o e=>hs.extBut _ _ D.i1z e
  . exact C2.keep _ _ _ a4 fun o e=>hs.extBut _ _ D.i2z e
  . have hlt:b≠s.heap.objs.size:=by
     have hb':b=z\/b=TI\/b=TO\/b=i1\/b=i2:=by simpa using hb
     obtain ⟨_,e1,_⟩:=C1.obj _ _ h1
     obtain ⟨_,e2,_⟩:=C2.obj _ _ h2
     rcases hb' with rfl|rfl|rfl|rfl|rfl
     . exact dQ (bR hz)
     . exact dQ (bR hTI)
     . exact dQ (bR hTO)
     . exact dQ (bR e1)
     . exact dQ (bR e2)
    rw [av hlt]
    exact (hf b hb).1
 done:=by
  intro X hP hw hK hc i pins s σ H E I hf st hg
  subst hP hw hK
  obtain ⟨hz,hTI,⟨a,b,hTO⟩,h1,h2⟩:=st
  obtain ⟨g1,g2,hend⟩:=hg
  have hT:s.TypeIs (.ref z) "zip":=⟨_,hz,Z⟩
  unfold pyNext
  refine aq (wpAny_attempt (ye (name:=Str.ofString "__next__") hT JZ (yj JZ hT F.entry_zip_next
   (Wz (I.ok.hd hc) D C1 C2 hz hTI hTO h1 h2 (C1.Ib X rfl rfl rfl pins σ H s I g1) (C2.Ib X rfl rfl rfl pins σ H s I g2) hend fun h' e hk he=>?_) (F.args_zip_next_1 _))))
  obtain ⟨oe,Ey,hce⟩:=he
  refine aq (wpAny_isInstance (T:="StopIteration") (b:=true) ⟨oe,Ey,hce⟩ isSubtype_stop (aL ⟨Z,?_⟩))
  have xD:∀c,c∉[z,TI,TO,i1,i2]->c≠z/\c≠TO/\c≠i1/\c≠i2:=fun c hc=>⟨fun q=>hc (by simp [q]),fun q=>hc (by simp [q]),fun q=>hc (by simp [q]),fun q=>hc (by simp [q])⟩
  have nf:∀b u,H b=some u->b≠z/\b≠TO/\b≠i1/\b≠i2:=fun b u e=>by
   have g:∀c∈[z,TI,TO,i1,i2],b≠c:=fun c hc q=>by
    have:=(hf c hc).1
    rw [<-q,e] at this
    cases this
   exact ⟨g z (by simp),g TO (by simp),g i1 (by simp),g i2 (by simp)⟩
  have I2:Inv X pins σ H { s with heap:=h',gens:=s.gens,drawn:=s.drawn,toks:=s.toks }:=by
   refine I.step (ch:=[z,TI,TO,i1,i2]) (fun b hb=>⟨(hf b hb).2.2.2.1,(hf b hb).2.1,(hf b hb).2.2.2.2.1,(hf b hb).2.2.2.2.2⟩) (fun b o _ _ hc' e _=>?_) (fun b o _ _ hc' e _=>?_) (fun b o _ e n=>n) (fun b o hc' e=>?_)
    (fun b zs q=>q) (fun b o zs q=>q) (fun b ps q=>⟨#[],by rw [q];simp⟩) (fun m hm=>?_) (fun b ob e=>?_) I.bare
   . obtain ⟨n1,n2,n3,n4⟩:=xD b hc'
     exact hk b o n1 n2 n3 n4 e
   . obtain ⟨n1,n2,n3,n4⟩:=xD b hc'
     exact ⟨o.slots,hk b o n1 n2 n3 n4 e⟩
   . obtain ⟨n1,n2,n3,n4⟩:=xD b hc'
     exact ⟨o,hk b o n1 n2 n3 n4 e⟩
   . obtain ⟨o,es,ep,ho,r⟩:=hm
     have nl:∀c∈[z,TI,TO,i1,i2],X.env.locals≠c:=fun c hc' q=>(hf c hc').2.1 q.symm
     exact ⟨o,es,ep,hk _ o (nl z (by simp)) (nl TO (by simp)) (nl i1 (by simp)) (nl i2 (by simp)) ho,r⟩
   . refine (I.hok b ob e).stay (fun c v TL q=>?_) (fun c q=>q) fun c zs q=>q
     rcases TL with r|r
     . obtain ⟨n1,n2,n3,n4⟩:=nf b ob e
       rw [r]
       rw [r] at q
       exact hk b v n1 n2 n3 n4 q
     . obtain ⟨n1,n2,n3,n4⟩:=nf c _ r
       exact hk c v n1 n2 n3 n4 q
  exact I2
 self:=fun _ _ _ _ _ st h=>wpAny_pyIter_zip st.1 h
def K2 (P:Program) (w:World) (u:Value) (o:Obj) (pre:Heap->Prop):Prop:=∀(A:Around) (E:VS) (s:Shared) (Q:VS),pre s.heap->Q (.ref s.heap.objs.size) { s with heap:=s.heap.push o }->wpAny (model P w) A (pyIter u) Q E s
theorem Rn {w:World} {p1 p2:Heap->Prop} (s1:K2 P w u1 o1 p1) (s2:K2 P w u2 o2 p2):
  MeetsIn P w (Builtin.«zip.__new__» ⟨[.type "zip",u1,u2],[]⟩) (fun _ R s=>p1 s.heap/\p2 (s.heap.push o1)/\
   R (.ok (.ret (.ref ((((s.heap.push o1).push o2).push { cls:= .type "tuple",data:= .seq #[.ref s.heap.objs.size, .ref (s.heap.push o1).objs.size] }).push { cls:= .type "tuple",data:= .seq #[.none, .none] }).objs.size)))
     { s with heap:=((((s.heap.push o1).push o2).push { cls:= .type "tuple",data:= .seq #[.ref s.heap.objs.size, .ref (s.heap.push o1).objs.size] }).push { cls:= .type "tuple",data:= .seq #[.none, .none] }).push { cls:= .type "zip",data:= .fields #[.none, .bool false, .bool false, .ref ((s.heap.push o1).push o2).objs.size, .ref (((s.heap.push o1).push o2).push { cls:= .type "tuple",data:= .seq #[.ref s.heap.objs.size, .ref (s.heap.push o1).objs.size] }).objs.size] } }):=
 .of_wp fun A R s h=>by
   obtain ⟨hp,g,d,tk,os⟩:=s;obtain ⟨q1,q2,h⟩:=h
   have hsub:=sub_zip
   have i1:=fun (A:Around) (E:VS) (Q:VS)=>s1 A E ⟨hp,g,d,tk,os⟩ Q q1
   have i2:=fun (A:Around) (E:VS) (Q:VS)=>s2 A E ⟨hp.push o1,g,d,tk,os⟩ Q q2
   wp_walk using i1 _ _ _,i2 _ _ _
   exact ⟨_,Z,h⟩
section
variable {prog:Program} {w:World} {A:Around} {E:VS} {s:Shared} {it t:Addr} {i:Nat} {items:Array Value} {Q:VS}
theorem NL {x:Value} (hit:s.heap.IsTupleIter it t i) (ht:s.heap.IsTuple t items) (hx:items[i]?=some x) (hQ:∀h',h'.IsTupleIter it t (i+1)->Heap.SameBut it s.heap h'->Q x { s with heap:=h' }):wpAny (model prog w) A (Builtin.SmallTypes.nextOf (.ref it)) Q E s:=by
 obtain ⟨o,ho,hc,hd⟩:=id hit;obtain ⟨ol,eV,_,nl,hdl⟩:=ht;unfold Builtin.SmallTypes.nextOf
 refine aq (ye (name:=Str.ofString "__next__") hit.typeIs Qt (yj Qt hit.typeIs F.entry_tuple_iterator_next ?_ (F.args_tuple_iterator_next_1 _)))
 show wpAny _ _ (field (.ref it) 0 >>= _) _ _ s;refine aq (kH ho hd (x:= .ref t) rfl ?_);show wpAny _ _ (if (Value.ref t==Value.none)=true then _ else _) _ _ s
 rw [az (fun z=>fM z:¬ ((Value.ref t==Value.none)=true))];show wpAny _ _ (field (.ref it) 1 >>= _) _ _ s
 refine aq (kH ho hd (x:= .int i 0) rfl ?_);show wpAny _ _ (seqItems? (.ref t) >>= _) _ _ s;refine aq (ue eV hdl ?_);simp only [wM,hx]
 refine aq (Bm ho hd (by simp) (aL ⟨x,Z,aL (hQ _ ?_ (Gb ..))⟩));refine ⟨_,CN _ ho (Obj.isFreed_of_fields (Gg hd _)),(Obj.cls_mapFields ..).trans hc,?_⟩;rw [Gg hd];simp [rawInt]
theorem Ro (hh:A.handled=none) (hit:s.heap.IsTupleIter it t i) (ht:s.heap.IsTuple t items) (hx:items[i]?=none) (hE:∀h' e,Heap.ExtBut it s.heap h'->(∃o,h'.get? e=some o/\o.cls = .type "StopIteration")->E (.ref e) { s with heap:=h' }):wpAny (model prog w) A (Builtin.SmallTypes.nextOf (.ref it)) Q E s:=by
 obtain ⟨o,ho,hc,hd⟩:=id hit;obtain ⟨ol,eV,_,nl,hdl⟩:=ht;unfold Builtin.SmallTypes.nextOf
 refine aq (ye (name:=Str.ofString "__next__") hit.typeIs Qt (yj Qt hit.typeIs F.entry_tuple_iterator_next ?_ (F.args_tuple_iterator_next_1 _)))
 show wpAny _ _ (field (.ref it) 0 >>= _) _ _ s;refine aq (kH ho hd (x:= .ref t) rfl ?_);show wpAny _ _ (if (Value.ref t==Value.none)=true then _ else _) _ _ s
 rw [az (fun z=>fM z:¬ ((Value.ref t==Value.none)=true))];show wpAny _ _ (field (.ref it) 1 >>= _) _ _ s
 refine aq (kH ho hd (x:= .int i 0) rfl ?_);show wpAny _ _ (seqItems? (.ref t) >>= _) _ _ s;refine aq (ue eV hdl ?_);simp only [wM,hx]
 refine aq (wpAny_rule (aq (Bm ho hd (by simp) ?_)));show wpAny _ _ (newExc (.type "StopIteration") [] >>= _) _ _ _;refine aq ?_;simp only [newExc,newTuple]
 refine aq (qN ?_ (by size_fits));refine aq (m:=firstArgMember _ _) (wpAny_of_eq (a:=Value.none) (by first|rfl|(simp only [firstArgMember];rfl)) ?_);refine qN ?_ (by size_fits);simp only [raiseNew]
 refine aq (wpAny_handled ?_);first|rw [show A.in1.handled=none from hh]|rw [hh]
 refine aq (aL (wpAny_throw ?_));exact hE _ _ (((Gb ..).extBut.push _).push _) ⟨_,dZ _ rfl,Z⟩
end
theorem Zf {w:World} {l:Addr}:Aj P w K (fun H=>cS K H l xs) xs it l (fun i h=>h.IsTupleIter it l i) (fun h=>∃its:List Value,Vals xs its/\h.IsTuple l its.toArray) where
 obj:=fun i h ⟨o,e,c,d⟩=>⟨o,e,fun v z=>by rw [d] at z;cases z⟩
 keep:=fun i h h' st k=>st.at k
 vY:=fun h h' ⟨its,r,o,e,q⟩ k=>⟨its,r,o,k o e,q⟩
 Ib:=fun X hP hw hK pins σ H s I h=>by
  subst hP hw hK
  obtain ⟨its,rv,p,_⟩:=I.tuple h
  exact ⟨its,rv,p⟩
 item:=fun A i x s Q E st ⟨its,r,hl⟩ hx hQ=>by
  obtain ⟨u,hu,ru⟩:=r.get hx
  exact NL st hl (by simpa using hu) fun h' st' sb=>hQ u h' ru st' sb
 done:=fun A i s Q E hh st ⟨its,r,hl⟩ hx hE=>Ro hh st hl (by have:=r.length;simp;omega) hE
theorem WA:typeLookup (.type "dict") "__len__"=pure (some (.builtin "dict.__len__")):=by rw [typeLookup_type,builtinLookup_eq_fast];kernel_rfl
variable {R:Result->Shared->Prop}
section
variable {prog:Program} {w:World} {A:Around} {E:VS} {s:Shared} {K:Type} [DecidableEq K] {knd:KeyKind prog w K}
theorem BY (hh:A.handled=none) {kvs:List (K×Value)} (hd:(d==sysModules)=false) (hm:s.heap.DictAt knd d kvs ep) (S:Addr) (hSd:S≠d) (res:Value) (c₀:Nat) (hS:s.heap.get? S=some { cls:= .type "list",data:= .seq #[] c₀ })
  (hR:∀h' tk acc' c',(∀b o,b≠S->s.heap.get? b=some o->h'.get? b=some o)->h'.get? S=some { cls:= .type "list",dict:=none,data:= .seq acc' c',slots:=#[] }->
    ItemsOf (fun i v=>∃k x,kvs[i]?=some (k,x)/\knd.is k v=true) acc' kvs.length->R (.ok (.ret res)) { s with heap:=h',toks:=tk }) (hn:kvs.length<=sizeLine):
  wpAny (model prog w) A.in1 (Builtin.List.listExtendWith (.ref S) (.ref d) res)
   (fun fin s'=>match fin with | .done f=>R (.ok f) s' | .again c'=>c'.quiet=true/\codeAny (model prog w) A c' R s') (fun e s'=>R (.error e) s') s:=by
 have hSI:S≠s.heap.objs.size:=dQ (bR hS)
 have hT:s.TypeIs (.ref d) "dict":=hm.dictOf.typeIs
 unfold Builtin.List.listExtendWith
 refine aq (wpAny_typeOf (T:="dict") (v:= .ref d) hT ?_)
 have h1:Builtin.List.listSameRef (.ref S) (.ref d)=false:=by
  show (S==d)=false
  simpa using hSd
 have h2:(Value.type "dict"==Value.type "list")=false:=by decide
 have h3:(Value.type "dict"==Value.type "tuple")=false:=by decide
 simp only [h1,h2,h3,Bool.or_false,Gf,lE]
 refine aq (wpAny_pyIter_dict hd hm ?_)
 refine aq (yo ?_)
 unfold Builtin.List.listLengthHint
 have hT2:({ s with heap:=s.heap.push { cls:= .type "dict_keyiterator",data:= .fields #[.ref d, .int 0 0, .int kvs.length 0, .int ep 0] } }:Shared).TypeIs (.ref d) "dict":=(hm.push _).dictOf.typeIs
 refine aq (wpAny_specialOf (T:="dict") (v:= .ref d) hT2 WA ?_)
 wp_delta
 refine aq (wpAny_isInstance (T:="dict") (v:= .ref d) (b:=true) hT2 (by rw [isSubtype_type];kernel_rfl) ?_)
 show wpAny _ _ (typeOf (Value.ref d) >>= _) _ _ _
 refine aq (wpAny_typeOf (T:="dict") (v:= .ref d) hT2 ?_)
 refine aL ?_
 have hne:d≠s.heap.objs.size:=dQ hm.lt_size
 have hSf:S∉[s.heap.objs.size,d] :=fun hm'=>by
  rcases c6.mp hm' with z|z
  . exact hSI z
  . exact hSd (fU.mp z)
 show wpAny _ A.in1 (rule "list.extend.makes-room" >>= fun _=>Builtin.List.listTouch (.ref S) >>= fun _=>
  again (.builtin "list.extend.loop" ⟨[.ref S, .ref s.heap.objs.size,res],[]⟩)) _ _ _
 refine aq (wpAny_rule ?_)
 refine aq ?_
 show wpAny _ A.in1 (updateSeq S (·.push .none) >>= fun _=>updateSeq S (·.pop)) _ _ _
 have hS₁:=cA { cls:= .type "dict_keyiterator",data:= .fields #[.ref d, .int 0 0, .int kvs.length 0, .int ep 0] } hS
 refine aq (wpAny_updateSeq hS₁ rfl ?_)
 have XU:=CN (Obj.mapSeq (·.push Value.none)) hS₁ rfl
 refine wpAny_updateSeq (hz:=by seq_fits) XU rfl ?_
 have hS₃:=CN (Obj.mapSeq (·.pop)) XU rfl
 have Pd:∀b o,b≠S->(s.heap.push { cls:= .type "dict_keyiterator",data:= .fields #[.ref d, .int 0 0, .int kvs.length 0, .int ep 0] }).get? b=some o->(((s.heap.push { cls:= .type "dict_keyiterator",data:= .fields #[.ref d, .int 0 0, .int kvs.length 0, .int ep 0] }).update S (Obj.mapSeq (·.push Value.none))).update S (Obj.mapSeq (·.pop))).get? b=some o:=
  fun b o hb e=>(Kc _ _ (bU hb)).trans ((Kc _ _ (bU hb)).trans e)
 refine aL ⟨plainId_quiet F.plain_extend_loop _,codeAny_extend_loopS (Walks.dictKeys (prog:=prog) (w:=w) (A:=A.in1) (knd:=knd) hh s.heap.objs.size d hne kvs ep).toS hn _ hSf _ kvs.length 0 _ _ _ rfl (f_ _) ⟨⟨_,Pd _ _ (bU hSI) (dZ _ rfl),Z,Z⟩,(hm.push _).at' fun o e=>Pd d o (bU hSd) e⟩ hS₃ (ItemsOf.nil _) fun s' acc' c' hm2 hS' hacc=>?_⟩
 rw [Moved.eq_with hm2]
 refine hR s'.heap s'.toks acc' c' (fun b ob hb e=>hm2.heap b ob (fun hmem=>?_) (Pd b ob hb (cA _ e))) hS' hacc
 rcases c6.mp hmem with e'|hmem
 . exact hb e'
 . exact absurd (bR e) (by rw [fU.mp hmem];exact jj _)
theorem Gv {Q:VS} (hh:A.handled=none) {kvs:List (K×Value)} (hd:(d==sysModules)=false) (hm:s.heap.DictAt knd d kvs ep) (hn:kvs.length<=sizeLine)
  (hQ:∀h' tk acc' c',(∀b o,s.heap.get? b=some o->h'.get? b=some o)->
    h'.get? s.heap.objs.size=some { cls:= .type "list",dict:=none,data:= .seq acc' c',slots:=#[] }->ItemsOf (fun i v=>∃k x,kvs[i]?=some (k,x)/\knd.is k v=true) acc' kvs.length->Q (.ref s.heap.objs.size) { s with heap:=h',toks:=tk }):
  wpAny (model prog w) A (call (.type "list") [.ref d]) Q E s:=by
 refine callType_codes (Q₁:=fun obj s₁=>obj = .ref s.heap.objs.size/\s₁={ s with heap:=s.heap.push { cls:= .type "list",data:= .seq #[] } }) F.called_list (F.typeCall_list_1 _) F.entry_list_init
  (code_list_new _ ⟨Z,Z⟩) fun obj s₁ h₁=>?_
 obtain ⟨rfl,rfl⟩:=h₁
 have hS:(s.heap.push { cls:= .type "list",data:= .seq #[] }).get? s.heap.objs.size=some { cls:= .type "list",data:= .seq #[] }:=dZ _ rfl
 have hne:s.heap.objs.size≠d:=yp hm.lt_size
 refine ⟨⟨_,hS,Z⟩,F.args_list_init_2 _ _,?_⟩
 show wpAny _ _ (do let old <-Builtin.List.listItems (.ref s.heap.objs.size);Builtin.List.listUpdate (.ref s.heap.objs.size) (fun _=>#[]);letGo old.toList.reverse;Builtin.List.listExtendWith (.ref s.heap.objs.size) (.ref d) .none) _ _ _
 refine aq ?_
 unfold Builtin.List.listItems
 refine aq (ue hS rfl (aL ?_))
 show wpAny _ _ (updateSeq s.heap.objs.size (fun _=>#[]) >>= fun _=>letGo (#[] :Array Value).toList.reverse >>= fun _=>Builtin.List.listExtendWith (.ref s.heap.objs.size) (.ref d) .none) _ _ _
 refine aq (wpAny_updateSeq hS rfl ?_)
 have XU:=CN (Obj.mapSeq (fun _=>(#[] :Array Value))) hS rfl
 have Pd:∀b o,b≠s.heap.objs.size->(s.heap.push { cls:= .type "list",data:= .seq #[] }).get? b=some o->((s.heap.push { cls:= .type "list",data:= .seq #[] }).update s.heap.objs.size (Obj.mapSeq (fun _=>(#[] :Array Value)))).get? b=some o:=
  fun b o hb e=>(Kc _ _ (bU hb)).trans e
 refine aq (wpAny_letGo ?_)
 refine BY (A:=A.in1) hh hd (hm.push _ |>.at' fun o e=>Pd d o hne.symm e) s.heap.objs.size hne .none _ XU (fun h' tk acc' c' hk hS' hacc=>?_) hn
 exact ⟨Z,hQ h' tk acc' c' (fun b o e=>hk b o (dQ (bR e)) (Pd b o (dQ (bR e)) (cA _ e))) hS' hacc⟩
end
theorem Ic {α β:Type} {F:α->β->Prop}:∀{l₁:List α} {l₂:List β},l₁.length=l₂.length->(∀(i:Nat) (x:α) (y:β),l₁[i]?=some x->l₂[i]?=some y->F x y)->Paired F l₁ l₂
 | [],[],_,_=> .nil
 | x::xs,y::ys,h,f=> .cons (f 0 x y rfl rfl) (Ic (by simpa using h) fun i a b ha hb=>f (i+1) a b (by simpa using ha) (by simpa using hb))
def lG (v d:Addr):HO:= .ext fun h=>h.IsValuesView v d
section
variable {X:Cx}
inductive abI (Q:VK) (x:V) (H1:Hp):Prop
 | mk  (d kvs:_) (_:x = .ref d) (_:Rd H1 d (.dK kvs)) (_:∀v,H1 v=none->Q (.ref v) (upd H1 v (lG v d)))
def aeq (td:TE):TE:=fun σ H Q=>td σ H (abI Q)
inductive Wk (K:Fg) (H:Hp):V->(Hp->Prop)->List V->Prop
 | lst {l:Addr} {xs:List V}:aC K H l xs->Wk K H (.ref l) (fun H=>aC K H l xs) xs
 | tup {l:Addr} {xs:List V}:cS K H l xs->Wk K H (.ref l) (fun H=>cS K H l xs) xs
 | keys {d:Addr} {o:Obj} {kvs:List (Key×V)}:oY H d o kvs->Wk K H (.ref d) (fun H=>oY H d o kvs) (kvs.map fun p=>kV p.1)
 | vals {v d:Addr} {o:Obj} {kvs:List (Key×V)}:H v=some (lG v d)->oY H d o kvs->Wk K H (.ref v) (fun H=>oY H d o kvs) (kvs.map fun p=>p.2)
theorem Wk.ok {u:V} {S:Hp->Prop} (k:Wk X.K H u S xs) (I:Inv X pins σ H s) (r:RelV u uv):
  S H/\∃(l:Addr) (o:Obj) (p:Heap->Prop),l<s.heap.objs.size/\p s.heap/\(∀h (ob:Obj),p h->p (h.push ob))/\(∀h:Heap,(h.push o).get? h.objs.size=some o)/\K2 X.prog X.w uv o p/\∀it:Addr,∃tn src,Aj X.prog X.w X.K S xs it l tn src/\∀h:Heap,h.get? it=some o->tn 0 h:=by
 cases k with
 | @lst l xs hS=>
   cases r
   obtain ⟨its,rv,p,_⟩:=I.list hS
   obtain ⟨ol,eV,_⟩:=id p.isList
   refine ⟨hS,l,_,fun h=>h.IsList l its.toArray,bR eV,p.isList,fun h ob q=>q.push ob,fun h=>dZ _ rfl,fun A E s Q q h=>QK q h,fun it=>⟨_,_,Ww,fun h e=>⟨_,e,Z,Z⟩⟩⟩
 | @tup l xs hS=>
   cases r
   obtain ⟨its,rv,p,_⟩:=I.tuple hS
   obtain ⟨ol,eV,q0⟩:=id p
   refine ⟨hS,l,_,fun h=>h.IsTuple l its.toArray,bR eV,p,fun h ob ⟨o1,a,b⟩=>⟨o1,cA _ a,b⟩,fun h=>dZ _ rfl,fun A E s Q q h=>wpAny_pyIter_tuple q h,fun it=>⟨_,_,Zf,fun h e=>⟨_,e,Z,Z⟩⟩⟩
 | @keys d o kvs hz=>
   cases r
   obtain ⟨ho,hl,hsys,vs,ep,rel,da⟩:=I.rV hz
   obtain ⟨o',es,h1,_,h2,_⟩:=id da
   rw [ho] at h1;cases h1
   have el:kvs.length=vs.length:=rel.length
   refine ⟨hz,d,_,fun h=>h.DictAt (cZ X.prog X.w) d vs ep,bR ho,da,fun h ob q=>q.push ob,fun h=>dZ _ rfl,fun A E s Q q h=>wpAny_pyIter_dict hsys q h,fun it=>⟨_,_,Wx h2,fun h e=>?_⟩⟩
   rw [el]
   exact ⟨_,e,Z,Z⟩
 | @vals v d o kvs hv hz=>
   cases r
   obtain ⟨ho,hl,hsys,vs,ep,rel,da⟩:=I.rV hz
   obtain ⟨o',es,h1,_,h2,_⟩:=id da
   rw [ho] at h1;cases h1
   have el:kvs.length=vs.length:=rel.length
   obtain ⟨hv',_⟩:=(show dO X.prog X.w H s.heap v (lG v d) from I.hok v _ hv)
   refine ⟨hz,d,_,fun h=>h.IsValuesView v d/\h.DictAt (cZ X.prog X.w) d vs ep,bR ho,⟨hv',da⟩,fun h ob ⟨⟨o1,a,b⟩,q⟩=>⟨⟨o1,cA _ a,b⟩,q.push ob⟩,fun h=>dZ _ rfl,fun A E s Q q h=>wpAny_pyIter_values q.1 q.2 h,fun it=>⟨_,_,Wy h2,fun h e=>?_⟩⟩
   rw [el]
   exact ⟨_,e,Z,Z⟩
variable {elts:List Expr} {kk:Nat} {tpos:Pos}
inductive abJ (K:Fg) (R:It->Hp->Prop) (vs:List V) (H1:Hp):Prop
 | mk  (u1 u2 S1 S2 xs ys:_) (_:vs=[u1,u2]) (_:Wk K H1 u1 S1 xs) (_:Wk K H1 u2 S2 ys) (_:R (abH S1 S2 xs ys:_) H1)
def aer (K:Fg) (ta:TA):TI:=fun σ H R=>ta σ H (abJ K R)
theorem Ie (hc:X.calm=true):gW X (.builtin "sum") (fun xs H Q=>∃(v d:Addr) (kvs:List (Key×V)) (ns:List Int),xs=[.ref v]/\H v=some (lG v d)/\Rd H d (.dK kvs)/\kvs.map (·.2)=ns.map V.int/\Q (.int ns.sum) H):=by
 intro pins s σ H xs us Q I r h
 obtain ⟨v,d,kvs,ns,rfl,hv,hz,en,q⟩:=h
 obtain ⟨u,rfl,ru⟩:=vals1 r
 cases ru
 obtain ⟨_,hsys,vs,rel,dd⟩:=rS I.hok hz
 obtain ⟨ep,da⟩:=dd.dictAt
 obtain ⟨hv',_⟩:=(show dO X.prog X.w H s.heap v (lG v d) from I.hok v _ hv)
 have hl:kvs.length=vs.length:=rel.length
 have hlt:=da.lt_size
 have hne:d≠s.heap.objs.size:=dQ hlt
 have W:=(Walks.dictValues (prog:=X.prog) (w:=X.w) (A:=X.A.in1) (knd:=cZ X.prog X.w) (I.ok.hd hc) s.heap.objs.size d hne vs ep).toS
 have Ep:kvs.length=ns.length:=by have:=gU List.length en;simpa using this
 refine call_sum_walkAnyS (wpAny_pyIter_values hv' da ?_)
 refine ⟨s.heap.objs.size,_,_,_,_,_,_,fun i=>ns.getD i 0,Z,W,⟨⟨_,dZ _ rfl,Z,Z⟩,da.push _⟩,fun b hb=>?_,fun i x hP=>?_,fun s' t' hm=>?_⟩
 . rcases c6.mp hb with rfl|hb
   . exact bR (dZ _ rfl)
   . obtain rfl:=fU.mp hb
     exact (da.push _).lt_size
 . obtain ⟨k,hk⟩:=hP
   have hil:i<ns.length:=by
    have:=(dI.mp hk).1
    omega
   have hik:i<kvs.length:=by omega
   obtain ⟨q',hq',_,rq⟩:=xN rel (aW hik)
   rw [hk] at hq'
   cases hq'
   have e1:kvs[i].2=V.int (ns.getD i 0):=by
    have:=gU (fun l=>l[i]?) en
    simp only [bF,aW hik,aW hil] at this
    rw [gG,aW hil]
    exact fY this
   rw [e1] at rq
   exact rq
 . obtain ⟨h',g',d',tk',os'⟩:=s'
   have e1:g'=s.gens:=hm.gens
   have e2:d'=s.drawn:=hm.drawn
   have e3:os'=s.os:=hm.os
   subst e1 e2 e3
   have hsz:vs.length=ns.length:=by omega
   rw [hsz,preSum_getD,zW (aP _)]
   exact ⟨.int ns.sum,H,I.kept (h':=h') (t':=tk') fun b o e=>hm.heap b o (fun hb=>absurd (bR e) ((fU.mp hb)▸jj _)) (cA _ e),⟨t',Z⟩,q⟩
theorem Rp (hc:X.calm=true):gW X (.type "list") (fun xs H Q=>∃(d:Addr) (kvs:List (Key×V)),xs=[.ref d]/\Rd H d (.dK kvs)/\∀l,H l=none->Q (.ref l) (upd H l (.lst (kvs.map fun p=>kV p.1)))):=by
 intro pins s σ H xs us Q I r h
 obtain ⟨d,kvs,rfl,hz,q⟩:=h
 obtain ⟨u,rfl,ru⟩:=vals1 r
 cases ru
 obtain ⟨hsz,hsys,vs,rel,dd⟩:=rS I.hok hz
 obtain ⟨ep,da⟩:=dd.dictAt
 have hl:kvs.length=vs.length:=rel.length
 refine Gv (I.ok.hd hc) hsys da (by omega) fun h' tk acc' c' kp e it=>?_
 refine ⟨.ref s.heap.objs.size,_,I.laid (t':=tk) kp (aP _) (show dO X.prog X.w _ h' _ (.lst (kvs.map fun p=>kV p.1)) from ⟨by rw [aE];exact hsz,acc'.toList,c',?_,by rw [e]⟩),Z,q _ I.fresh⟩
 obtain ⟨sz,hit⟩:=it
 have hA:acc'.toList.length=acc'.size:=by simp
 have hB:(kvs.map fun p=>kV p.1).length=acc'.toList.length:=by rw [aE];omega
 refine Ic hB fun i x y hx hy=>?_
 rw [bF] at hx
 obtain ⟨p,hp,rfl⟩:=lR.mp hx
 obtain ⟨k,v,hk,hkk⟩:=hit i y (by simpa using hy)
 obtain ⟨q',hq',ek,_⟩:=xN rel hp
 rw [hk] at hq'
 cases hq'
 rw [ek]
 exact K1 hkk
end
def d7:St->List Nat->List V->St
 | σ,k::ks,v::vs=>d7 (σ.set k (some v)) ks vs
 | σ,_,_=>σ
theorem Ez {k:Nat} {v:Option V}:∀{ks:List Nat} {vs:List V} {σ:St},k∉ks->(d7 σ ks vs).set k v=d7 (σ.set k v) ks vs
 | [],_,_,_=>by unfold d7;rfl
 | _::_,[],_,_=>by unfold d7;rfl
 | j::ks,w::vs,σ,h=>by
   have hj:k≠j:=fun e=>h (by rw [e];exact cM)
   show (d7 (σ.set j (some w)) ks vs).set k v=d7 ((σ.set k v).set j (some w)) ks vs
   rw [Ez (fun m=>h (cG _ m)),List.set_comm _ _ hj]
theorem uO:∀{ks:List Nat} {vs ws:List V} {σ:St},ks.Nodup->vs.length=ks.length->ws.length=ks.length->d7 (d7 σ ks vs) ks ws=d7 σ ks ws
 | [],[],[],_,_,_,_=>rfl
 | k::ks,v::vs,w::ws,σ,nd,h1,h2=>by
   have nk:=(gR.mp nd).1
   show d7 ((d7 (σ.set k (some v)) ks vs).set k (some w)) ks ws=d7 (σ.set k (some w)) ks ws
   rw [Ez nk,mK,uO (gR.mp nd).2 (by simpa using h1) (by simpa using h2)]
def XW:List Nat->D0
 | []=>aaA
 | k::ks=>XA (gh k) (XW ks)
theorem K3 {Q:St->Hp->Prop} {H:Hp}:∀{ks:List Nat} {vs:List V} {σ:St},vs.length=ks.length->Q (d7 σ ks vs) H->XW ks vs σ H Q
 | [],[],_,_,q=>⟨Z,q⟩
 | k::ks,v::vs,σ,h,q=>⟨v,vs,Z,K3 (by simpa using h) q⟩
theorem Ak (ks:List Nat) {Q:VK} (Pv:Nat->List V->Hp->Prop) (nd:ks.Nodup) (hn:n<=100000) (h0:Pv 0 [] (upd H acc (.lst [])))
  (hgo:∀i out H1,i<n->H1 acc=some (.lst out)->Pv i out H1->J.go i H1) (hst:∀out H1,H1 acc=some (.lst out)->Pv n out H1->J.stop n H1)
  (hs:∀(i:Nat) (x:V) (out:List V) (H1 H2:Hp),i<n->out.length=i->H1 acc=some (.lst out)->Pv i out H1->J.D3 i H1 x H2->
    ∃t vs,x = .ref t/\cS K H2 t vs/\vs.length=ks.length/\te (d7 σ2 ks vs) H2 (uL Pv i acc out))
  (hd:∀(out:List V) (H1:Hp),out.length=n->H1 acc=some (.lst out)->Pv n out H1->Q (.ref acc) H1):
  BH J (CT K ks.length (XW ks)) te acc σ2 H Q:=by
 refine ⟨fun i m σ' H'=>m=n-i/\i<=n/\(∀ws,ws.length=ks.length->d7 σ' ks ws=d7 σ2 ks ws)/\∃out,out.length=i/\H' acc=some (.lst out)/\Pv i out H',⟨n,by simp,f_ _,fun _ _=>rfl,[],Z,ai,h0⟩,?_⟩
 rintro i m σ' H' ⟨rfl,hi,hσ,out,ho,ha,p⟩
 by_cases hlt:i<n
 . refine .inr ⟨hgo i out H' hlt ha p,fun σ3=>∀ws,ws.length=ks.length->d7 σ3 ks ws=d7 σ2 ks ws,(uL Pv i acc out),fun σ3 v H4 hS ⟨a,b⟩=>?_,fun x H1 y=>?_⟩
   . refine ⟨out,a,?_,n-(i+1),by omega,Z,hlt,hS,out++[v],by rw [dh,ho];rfl,ai,b⟩
     have:sizeLine=16777216:=fB
     omega
   . obtain ⟨t,vs,rfl,sq,hl,q⟩:=hs i x out H' H1 hlt ho ha p y
     refine ⟨t,vs,Z,sq,hl,K3 hl ⟨fun ws hw=>?_,?_⟩⟩
     . rw [uO nd hl hw];exact hσ ws hw
     . rw [hσ vs hl];exact q
 . have e:i=n:=by omega
   subst e
   exact .inl ⟨hst out H' ha p,hd out H' ho ha p⟩
theorem Zg (ks:List Nat) {Q:VK} (Pv:Nat->List V->Hp->Prop) (nd:ks.Nodup) (hn:n<=100000) (h0:Pv 0 [] (upd H acc (.lst [])))
  (hgo:∀i out H1,i<n->H1 acc=some (.lst out)->Pv i out H1->J.go i H1) (hst:∀out H1,H1 acc=some (.lst out)->Pv n out H1->J.stop n H1)
  (hs:∀(i:Nat) (x:V) (out:List V) (H1 H2:Hp),i<n->out.length<=i->H1 acc=some (.lst out)->Pv i out H1->J.D3 i H1 x H2->
    ∃t vs,x = .ref t/\cS K H2 t vs/\vs.length=ks.length/\tc (d7 σ2 ks vs) H2 (XJ te (d7 σ2 ks vs) Pv i acc out))
  (hd:∀(out:List V) (H1:Hp),out.length<=n->H1 acc=some (.lst out)->Pv n out H1->Q (.ref acc) H1):
  Ew J (CT K ks.length (XW ks)) tc te acc σ2 H Q:=by
 refine ⟨fun i m σ' H'=>m=n-i/\i<=n/\(∀ws,ws.length=ks.length->d7 σ' ks ws=d7 σ2 ks ws)/\∃out,out.length<=i/\H' acc=some (.lst out)/\Pv i out H',⟨n,by simp,f_ _,fun _ _=>rfl,[],aP _,ai,h0⟩,?_⟩
 rintro i m σ' H' ⟨rfl,hi,hσ,out,ho,ha,p⟩
 by_cases hlt:i<n
 . refine .inr ⟨hgo i out H' hlt ha p,fun σ3=>∀ws,ws.length=ks.length->d7 σ3 ks ws=d7 σ2 ks ws,(uL Pv i acc out),fun H3=>H3 acc=some (.lst out)/\Pv (i+1) out H3,fun σ3 v H4 hS ⟨a,b⟩=>?_,fun σ3 H4 hS ⟨a,b⟩=>?_,fun x H1 y=>?_⟩
   . refine ⟨out,a,?_,n-(i+1),by omega,Z,hlt,hS,out++[v],by rw [dh];exact Nat.succ_le_succ ho,ai,b⟩
     have:sizeLine=16777216:=fB
     omega
   . exact ⟨n-(i+1),by omega,Z,hlt,hS,out,by omega,a,b⟩
   . obtain ⟨t,vs,rfl,sq,hl,q⟩:=hs i x out H' H1 hlt ho ha p y
     refine ⟨t,vs,Z,sq,hl,K3 hl ⟨fun ws hw=>?_,?_⟩⟩
     . rw [uO nd hl hw];exact hσ ws hw
     . rw [hσ vs hl];exact q
 . have e:i=n:=by omega
   subst e
   exact .inl ⟨hst out H' ha p,hd out H' ho ha p⟩
theorem iP (k:Nat) {Q:VK} (Pv:Nat->List V->Hp->Prop) (hn:n<=100000) (h0:Pv 0 [] (upd H acc (.lst [])))
  (hgo:∀i out H1,i<n->H1 acc=some (.lst out)->Pv i out H1->J.go i H1) (hst:∀out H1,H1 acc=some (.lst out)->Pv n out H1->J.stop n H1)
  (hs:∀(i:Nat) (x:V) (out:List V) (H1 H2:Hp),i<n->out.length=i->H1 acc=some (.lst out)->Pv i out H1->J.D3 i H1 x H2->
    te (σ2.set k (some x)) H2 (uL Pv i acc out))
  (hd:∀(out:List V) (H1:Hp),out.length=n->H1 acc=some (.lst out)->Pv n out H1->Q (.ref acc) H1):
  BH J (gh k) te acc σ2 H Q:=by
 refine ⟨fun i m σ' H'=>m=n-i/\i<=n/\(∀w:Option V,σ'.set k w=σ2.set k w)/\∃out,out.length=i/\H' acc=some (.lst out)/\Pv i out H',⟨n,by simp,f_ _,fun _=>rfl,[],Z,ai,h0⟩,?_⟩
 rintro i m σ' H' ⟨rfl,hi,hσ,out,ho,ha,p⟩
 by_cases hlt:i<n
 . refine .inr ⟨hgo i out H' hlt ha p,fun σ3=>∀w:Option V,σ3.set k w=σ2.set k w,(uL Pv i acc out),fun σ3 v H4 hS ⟨a,b⟩=>?_,fun x H1 y=>?_⟩
   . refine ⟨out,a,?_,n-(i+1),by omega,Z,hlt,hS,out++[v],by rw [dh,ho];rfl,ai,b⟩
     have:sizeLine=16777216:=fB
     omega
   . refine ⟨fun w=>by rw [mK];exact hσ w,?_⟩
     rw [hσ]
     exact hs i x out H' H1 hlt ho ha p y
 . have e:i=n:=by omega
   subst e
   exact .inl ⟨hst out H' ha p,hd out H' ho ha p⟩
theorem Gw (k:Nat) {Q:VK} (Pv:Nat->List V->Hp->Prop) (hn:n<=100000) (h0:Pv 0 [] (upd H acc (.lst [])))
  (hgo:∀i out H1,i<n->H1 acc=some (.lst out)->Pv i out H1->J.go i H1) (hst:∀out H1,H1 acc=some (.lst out)->Pv n out H1->J.stop n H1)
  (hs:∀(i:Nat) (x:V) (out:List V) (H1 H2:Hp),i<n->out.length<=i->H1 acc=some (.lst out)->Pv i out H1->J.D3 i H1 x H2->
    tc (σ2.set k (some x)) H2 (XJ te (σ2.set k (some x)) Pv i acc out))
  (hd:∀(out:List V) (H1:Hp),out.length<=n->H1 acc=some (.lst out)->Pv n out H1->Q (.ref acc) H1):
  Ew J (gh k) tc te acc σ2 H Q:=by
 refine ⟨fun i m σ' H'=>m=n-i/\i<=n/\(∀w:Option V,σ'.set k w=σ2.set k w)/\∃out,out.length<=i/\H' acc=some (.lst out)/\Pv i out H',⟨n,by simp,f_ _,fun _=>rfl,[],aP _,ai,h0⟩,?_⟩
 rintro i m σ' H' ⟨rfl,hi,hσ,out,ho,ha,p⟩
 by_cases hlt:i<n
 . refine .inr ⟨hgo i out H' hlt ha p,fun σ3=>∀w:Option V,σ3.set k w=σ2.set k w,(uL Pv i acc out),fun H3=>H3 acc=some (.lst out)/\Pv (i+1) out H3,fun σ3 v H4 hS ⟨a,b⟩=>?_,fun σ3 H4 hS ⟨a,b⟩=>?_,fun x H1 y=>?_⟩
   . refine ⟨out,a,?_,n-(i+1),by omega,Z,hlt,hS,out++[v],by rw [dh];exact Nat.succ_le_succ ho,ai,b⟩
     have:sizeLine=16777216:=fB
     omega
   . exact ⟨n-(i+1),by omega,Z,hlt,hS,out,by omega,a,b⟩
   . refine ⟨fun w=>by rw [mK];exact hσ w,?_⟩
     rw [hσ]
     exact hs i x out H' H1 hlt ho ha p y
 . have e:i=n:=by omega
   subst e
   exact .inl ⟨hst out H' ha p,hd out H' ho ha p⟩
structure Mn (P:Program) (w:World) (K:Fg) (mg:SO) (base:Heap) (k:Nat) (C:Addr) (m:Str) (ps:List Str) (sp:Sp):Prop where
 ex:∃f fd,iw P w K mg base t_ k f fd ps sp/\Binds K fd ps []/\Meth K C m f/\oS K C
structure Cn (P:Program) (w:World) (K:Fg) (mg:SO) (base:Heap) (k:Nat) (x:Str) (C:Addr) (ps:List Str) (sp:Sp):Prop where
 ex:∃f fd,iw P w K mg base t_ k f fd ps sp/\Binds K fd ps []/\Mk K C f/\mg x=some (.ref C)
section
variable {X:Cx}
inductive aes (x:V) (y:V) (H:Hp) (Q:VK):Prop
 | mk  (i j:_) (_:x = .int i) (_:y = .int j) (_:Rc i j) (_:Q (.int (i*j)) H)
theorem Zh:QX X .Mult aes:=by
 rintro pins s σ H x y u v Q I rx ry ⟨i,j,rfl,rfl,⟨m,n,h1,h2,h3⟩,q⟩
 obtain ⟨t,rfl⟩:=(show ∃t,u=Value.int i t from rx)
 obtain ⟨t',rfl⟩:=(show ∃t',v=Value.int j t' from ry)
 exact PyProof.Rows.imul_int ⟨.int (i*j),H,I.tok _,⟨_,Z⟩,q⟩ (IntMulOk.of_le (QC.mpr h1) (QC.mpr h2) h3)
end
structure i8 (K:Fg) (C:Addr) (m qual:Str) (st:Stmt) (f:Addr) (fd:FuncData):Prop where
 fn:HZ K m qual st f fd
 me:Meth K C m f
 cl:oS K C
variable {mg:SO} {base:Heap} {C f:Addr} {qual:Str} {fd:FuncData} {N ps:List Str} {sp:Sp}
theorem i8.ok {w:World} {m:Str} {st:Stmt} {k:Nat} (F:i8 K C m qual st f fd) (S:aJ N ps (ay st)) (len:∀vs H Q E,sp vs H Q E->vs.length=ps.length)
  (hbody:∀(cdv:Value) (A:Around) (outer:List Env) (s:Shared) (H:Hp) (vs:List V) (Q:VK) (E:XK),dG k (A.deeper (envOfC qual (ay st) s.heap.objs.size f cdv))->sp vs H Q E->
    ∃t,qL (dj t_ P w K mg base N qual (ay st) f cdv A outer s H E).Ci (cF st) t/\t { nx:=fun _ H'=>Q .b_ H',rt:=Q } (start N vs) H)
  (h:∀(kV doc pm:Value) (an:Option Addr) (cdv ct:Value) (us:List Value),us.length=ps.length->bindArgs (PySem.W.fnOf m qual (dU st) (cF st) (ay st) .none kV doc pm an cdv ct) ⟨us,[]⟩=pure (ps.zip us)):
  Mn P w K mg base (k+1) C m ps sp:=⟨f,fd,F.fn.ok S len hbody,F.fn.binds h,F.me,F.cl⟩
structure Ig (K:Fg) (mg:SO) (x:Str) (C:Addr) (qual:Str) (st:Stmt) (f:Addr) (fd:FuncData):Prop where
 fn:HZ K "__init__" qual st f fd
 mks:Mk K C f
 name:mg x=some (.ref C)
theorem Ig.ok {w:World} {st:Stmt} {k:Nat} (F:Ig K mg x C qual st f fd) (S:aJ N ps (ay st)) (len:∀vs H Q E,sp vs H Q E->vs.length=ps.length)
  (hbody:∀(cdv:Value) (A:Around) (outer:List Env) (s:Shared) (H:Hp) (vs:List V) (Q:VK) (E:XK),dG k (A.deeper (envOfC qual (ay st) s.heap.objs.size f cdv))->sp vs H Q E->
    ∃t,qL (dj t_ P w K mg base N qual (ay st) f cdv A outer s H E).Ci (cF st) t/\t { nx:=fun _ H'=>Q .b_ H',rt:=Q } (start N vs) H)
  (h:∀(kV doc pm:Value) (an:Option Addr) (cdv ct:Value) (us:List Value),us.length=ps.length->bindArgs (PySem.W.fnOf "__init__" qual (dU st) (cF st) (ay st) .none kV doc pm an cdv ct) ⟨us,[]⟩=pure (ps.zip us)):
  Cn P w K mg base (k+1) x C ps sp:=⟨f,fd,F.fn.ok S len hbody,F.fn.binds h,F.mks,F.name⟩
abbrev pX:=Nat×Nat×Str
abbrev fJ:=Addr->Option pX
abbrev col (n t:Nat):Option pX:=some (n,t,(⟨#[]⟩:Str))
def isTup:HO->Bool
 | .tup _=>true
 | _=>false
def Gh (ρ:fJ) (H:Hp):Prop:=∀b c,ρ b=some c->∃o,H b=some o/\isTup o=false
def Fr (n:Nat) (ρ:fJ) (H:Hp) (ρ':fJ) (H':Hp):Prop:=∀b o,H b=some o->(∀t x,ρ b≠some (n,t,x))->H' b=some o/\ρ' b=ρ b
def cE (ρ:fJ) (a:Addr) (c:pX):fJ:=fun b=>if b=a then some c else ρ b
variable {ρ:fJ}
theorem dH {c:pX}:cE ρ a c a=some c:=aA rfl
theorem cu {b:Addr} {c:pX} (h:b≠a):cE ρ a c b=ρ b:=az h
def out (ρ:fJ) (H:Hp):Hp:=fun b=>if ρ b=none then H b else none
variable {o:HO}
theorem EA {b:Addr} (h:H b=some o) (c:ρ b=none):out ρ H b=some o:=by
 unfold out;rw [aA c];exact h
theorem yz {b:Addr} (h:out ρ H b=some o):H b=some o/\ρ b=none:=by
 unfold out at h
 split at h
 . next c=>exact ⟨h,c⟩
 . cases h
theorem Gh.none (g:Gh ρ H) {b:Addr} (h:H b=Option.none):ρ b=Option.none:=by
 cases e:ρ b with
 | none=>rfl
 | some c=>obtain ⟨o,q,_⟩:=g b c e;rw [h] at q;cases q
theorem Gh.tup {ρ:fJ} {H:Hp} (g:Gh ρ H) {b:Addr} {xs:List V} (h:H b=some (.tup xs)):ρ b=Option.none:=by
 cases e:ρ b with
 | none=>rfl
 | some c=>obtain ⟨o,q,t⟩:=g b c e;rw [h] at q;cases q;cases t
theorem Gh.same (g:Gh ρ H) (s:aF H H'):Gh ρ H':=fun b c e=>let ⟨o,h,t⟩:=g b c e;⟨o,s b o h,t⟩
theorem Gh.wr (g:Gh ρ H) (t:isTup o=false):Gh ρ (upd H a o):=fun b c e=>by
 by_cases h:b=a
 . rw [h,ai];exact ⟨o,Z,t⟩
 . rw [av h];exact g b c e
theorem Gh.alloc (g:Gh ρ H) (h:H a=Option.none):Gh ρ (upd H a o):=g.same (aB h o)
theorem Gh.color (g:Gh ρ H) {c:pX} (h:H a=some o) (t:isTup o=false):Gh (cE ρ a c) H:=fun b d e=>by
 by_cases z:b=a
 . rw [z];exact ⟨o,h,t⟩
 . rw [cu z] at e;exact g b d e
theorem Fr.refl:Fr n ρ H ρ H:=fun _ _ h _=>⟨h,Z⟩
variable {H1 H2:Hp}
theorem Fr.trans {ρ1 ρ2:fJ} (a:Fr n ρ H ρ1 H1) (b:Fr n ρ1 H1 ρ2 H2):Fr n ρ H ρ2 H2:=fun c o h k=>by
 obtain ⟨h1,e1⟩:=a c o h k
 obtain ⟨h2,e2⟩:=b c o h1 (by rw [e1];exact k)
 exact ⟨h2,e2.trans e1⟩
theorem Fr.of_same (s:aF H H'):Fr n ρ H ρ H':=fun b o h _=>⟨s b o h,Z⟩
theorem Fr.write (c:ρ a=some (n,t,x)):Fr n ρ H ρ (upd H a o):=fun b u h k=>by
 have:b≠a:=fun e=>k t x (by rw [e];exact c)
 rw [av this];exact ⟨h,Z⟩
theorem Fr.color {c:pX} (h:H a=none) (s:aF H H'):Fr n ρ H (cE ρ a c) H':=fun b u e k=>by
 rw [cu (aH e h)];exact ⟨s b u e,Z⟩
variable {ρ':fJ}
theorem Fr.out (f:Fr n ρ H ρ' H'):aF (out ρ H) (out ρ' H'):=fun b o h=>by
 obtain ⟨h1,c⟩:=yz h
 obtain ⟨h2,e⟩:=f b o h1 (fun t x=>by rw [c];intro z;cases z)
 exact EA h2 (e.trans c)
theorem iQ (s:aF H H'):aF (out ρ H) (out ρ H'):=fun b o h=>by
 obtain ⟨h1,c⟩:=yz h
 exact EA (s b o h1) c
structure Pt where
 nm:Str
 ow:Str
 wo:Int
 we:Int
 sc:Int
 row:List Int
structure qM where
 nm:Str
 ow:Str
 wo:Int
 sh:List (Str×Rat)
structure HS where
 own:List Str
 ah:List Pt
 ku:List qM
 nms:List Str
 stp:List Int
 prod:Int
 kn:Nat
 bM:List Int
 c_:List Int
structure HA where
 a:Addr
 dx:Addr
 pl:Addr
 ab:Addr
 as:Addr
 nm:Addr
 bt:Addr
 db:Addr
 cm:Addr
 pu:Addr
 sp:Addr
 kn:Addr
 qs:List (Addr×Addr×Addr)
structure TC where
 hold:Addr
 part:Addr
 bot:Addr
def fP:Nat->List Str->List (Key×V)
 | _,[]=>[]
 | i,o::r=>(Sum.inr o, .int i)::fP (i+1) r
def cO (ps:List Pt) (qs:List (Addr×Addr×Addr)):List (Key×V):=List.zipWith (fun p q=>((Sum.inr p.nm:Key),V.ref q.1)) ps qs
def xO (l:List Str):List (Key×V):=l.map fun x=>(Sum.inr x, .bl true)
def m7 (A:HA):List (Str×V):=[("places", .ref A.pl),("aboard", .ref A.ab),("ashore", .ref A.as),("names", .ref A.nm),("bottom", .ref A.bt),("common", .ref A.cm),("purses", .ref A.pu)]
def eU (p:Pt) (r:Addr):List (Str×V):=[("name", .str p.nm),("owner", .str p.ow),("worth", .int p.wo),("weight", .int p.we),("scale", .int p.sc),("row", .ref r)]
def yC (sp:Addr) (prod:Int) (kn:Addr):List (Str×V):=[("steps", .ref sp),("product", .int prod),("known", .ref kn)]
def K4 (H:Hp) (kvs:List (Key×V)) (prod:Int):Prop:=∀p∈kvs,∃(t:Int) (r:Addr),p=(Sum.inl t,V.ref r)/\H r=some (pT (Jm.fr t prod))
inductive ja (H:Hp):List V->List (Str×Rat)->Prop
 | nil:ja H [] []
 | cons {r f:Addr} {x:Str} {q:Rat} {vs:List V} {l:List (Str×Rat)}:H r=some (.tup [.str x, .ref f])->H f=some (pT q)->ja H vs l->ja H (.ref r::vs) ((x,q)::l)
inductive pY (n:Nat) (ρ:fJ) (H:Hp):List V->List qM->Prop
 | nil:pY n ρ H [] []
 | cons {r l:Addr} {x:qM} {ss:List V} {vs:List V} {as:List qM}:H r=some (.tup [.str x.nm, .str x.ow, .int x.wo, .ref l])->H l=some (.lst ss)->ρ l=some (n,30,x.nm)->ja H ss x.sh->pY n ρ H vs as->pY n ρ H (.ref r::vs) (x::as)
structure aR (T:TC) (n:Nat) (ρ:fJ) (A:HA) (H:Hp) (st:HS):Prop where
 oa:H A.a=some (.ins T.hold A.dx (m7 A))
 ca:ρ A.a=col n 0
 iR:H A.pl=some (.dK (fP 0 st.own))
 i9:ρ A.pl=col n 1
 d9:H A.ab=some (.dK (cO st.ah A.qs))
 gC:ρ A.ab=col n 2
 uP:∃vs,H A.as=some (.lst vs)/\pY n ρ H vs st.ku
 jP:ρ A.as=col n 3
 ua:H A.nm=some (.dK (xO st.nms))
 jm:ρ A.nm=col n 4
 nv:H A.bt=some (.ins T.bot A.db (yC A.sp st.prod A.kn))
 jn:ρ A.bt=col n 5
 jQ:H A.cm=some (.lst (st.bM.map V.int))
 j8:ρ A.cm=col n 6
 pZ:H A.pu=some (.lst (st.c_.map V.int))
 cpu:ρ A.pu=col n 7
 sQ:H A.sp=some (.lst (st.stp.map V.int))
 jq:ρ A.sp=col n 8
 okn:∃kvs,H A.kn=some (.dK kvs)/\K4 H kvs st.prod/\kvs.length<=st.kn/\(kvs.map (·.1)).Nodup
 jr:ρ A.kn=col n 9
 ql:A.qs.length=st.ah.length
 opt:∀(i:Nat) (p:Pt) (q:Addr×Addr×Addr),st.ah[i]?=some p->A.qs[i]?=some q->H q.1=some (.ins T.part q.2.1 (eU p q.2.2))/\H q.2.2=some (.lst (p.row.map V.int))/\ρ q.1=some (n,20,p.nm)/\ρ q.2.2=some (n,21,p.nm)
theorem EB {b:Addr} {c d:pX} (ha:ρ a=some c) (hb:ρ b=some d) (h:c≠d):a≠b:=fun e=>by
 rw [e,hb] at ha;cases ha;exact h rfl
theorem Ct {b:Addr} {c:pX} (ha:ρ a=none) (hb:ρ b=some c):a≠b:=fun e=>by rw [e,hb] at ha;cases ha
variable {vs:List V}
theorem ja.mono {l:List (Str×Rat)} (h:ja H vs l) (g:∀b xs,H b=some (.tup xs)->H' b=some (.tup xs)):ja H' vs l:=by
 induction h with
 | nil=>exact .nil
 | cons a b _ ih=>exact .cons (g _ _ a) (g _ _ b) ih
def Kp (n:Nat) (ρ ρ':fJ) (H H':Hp) (ts:Nat->Bool):Prop:=(∀b xs,H b=some (.tup xs)->H' b=some (.tup xs))/\∀b t x o,ts t=true->ρ b=some (n,t,x)->H b=some o->H' b=some o/\ρ' b=some (n,t,x)
variable {ts:Nat->Bool}
theorem pY.keep {l:List qM} (h:pY n ρ H vs l) (k:Kp n ρ ρ' H H' ts) (e:ts 30=true):pY n ρ' H' vs l:=by
 induction h with
 | nil=>exact .nil
 | cons a b c d _ ih=>exact .cons (k.1 _ _ a) (k.2 _ _ _ _ e c b).1 (k.2 _ _ _ _ e c b).2 (d.mono k.1) ih
theorem ef (g:Gh ρ H) (c:ρ a=some (n,t,x)):Kp n ρ ρ H (upd H a o) (fun u=>decide (u≠t)):=by
 refine ⟨fun b xs h=>?_,fun b u y w hu hc h=>⟨?_,hc⟩⟩
 . rw [av (Ct (g.tup h) c)];exact h
 . rw [av (EB hc c (fun e=>by cases e;exact absurd hu (by simp)))];exact h
theorem kz (k:Kp n ρ ρ' H H' ts) {b:Addr} (c:ρ b=some (n,t,x)) (e:H b=some o) (u:ts t=true:=by decide):H' b=some o:=(k.2 b t x o u c e).1
theorem Pe (s:aF H H'):Kp n ρ ρ H H' ts:=⟨fun b xs h=>s _ _ h,fun b u y w _ hc h=>⟨s _ _ h,hc⟩⟩
variable {T:TC} {st:HS}
theorem aR.same {A:HA} (h:aR T n ρ A H st) (k:Kp n ρ ρ' H H' fun _=>true):aR T n ρ' A H' st:=by
 have z:=fun {b:Addr} {t:Nat} {x:Str} {o:HO} (c:ρ b=some (n,t,x)) (e:H b=some o)=>k.2 b t x o rfl c e
 obtain ⟨vs,h1,h2⟩:=h.uP
 obtain ⟨kvs,k1,k2,k3⟩:=h.okn
 exact ⟨(z h.ca h.oa).1,(z h.ca h.oa).2,(z h.i9 h.iR).1,(z h.i9 h.iR).2,(z h.gC h.d9).1,(z h.gC h.d9).2,⟨vs,(z h.jP h1).1,h2.keep k rfl⟩,(z h.jP h1).2,(z h.jm h.ua).1,(z h.jm h.ua).2,(z h.jn h.nv).1,(z h.jn h.nv).2,
  (z h.j8 h.jQ).1,(z h.j8 h.jQ).2,(z h.cpu h.pZ).1,(z h.cpu h.pZ).2,(z h.jq h.sQ).1,(z h.jq h.sQ).2,⟨kvs,(z h.jr k1).1,fun p hp=>let ⟨t,r,e,q⟩:=k2 p hp;⟨t,r,e,k.1 _ _ q⟩,k3⟩,(z h.jr k1).2,h.ql,
  fun i p q e1 e2=>let ⟨a,b,c,d⟩:=h.opt i p q e1 e2;⟨(z c a).1,(z d b).1,(z c a).2,(z d b).2⟩⟩
theorem aR.mono {A:HA} (h:aR T n ρ A H st) (s:aF H H'):aR T n ρ A H' st:=h.same (Pe s)
theorem aR.other {A:HA} (h:aR T m ρ A H st) (f:Fr n ρ H ρ' H') (g:Gh ρ H) (e:m≠n):aR T m ρ' A H' st:=
 h.same ⟨fun b xs q=>(f b _ q fun t x=>by rw [g.tup q];intro z;cases z).1,fun b t x o _ c q=>by
   obtain ⟨a,b'⟩:=f b o q fun t' x'=>by rw [c];intro z;cases z;exact e rfl
   exact ⟨a,b'.trans c⟩⟩
theorem BK {p0 p1:Pt}:∀{ps:List Pt} {qs:List (Addr×Addr×Addr)} {i:Nat},ps[i]?=some p0->p1.nm=p0.nm->cO (ps.set i p1) qs=cO ps qs
 | [],_,_,h,_=>by simp at h
 | _::_,[],_,_,_=>by simp [cO]
 | p::ps,q::qs,0,h,e=>by
   have:p=p0:=by simpa using h
   simp [cO,e,this]
 | p::ps,q::qs,i+1,h,e=>by
   have:=BK (qs:=qs) (by simpa using h:ps[i]?=some p0) e
   simp only [cO,Ke,wK] at this ⊢
   rw [this]
variable {j:Nat} {p:Pt}
theorem EC {ps:List Pt} (nd:(ps.map (·.nm)).Nodup) {q:Pt} (h1:ps[i]?=some p) (h2:ps[j]?=some q) (e:p.nm=q.nm):i=j:=by
 have a:(ps.map (·.nm))[i]?=some p.nm:=by rw [bF,h1];rfl
 have b:(ps.map (·.nm))[j]?=some p.nm:=by rw [bF,h2,e];rfl
 exact yu nd a b
variable {p0 p1:Pt} {q0:Addr×Addr×Addr}
theorem Zi {A:HA} (h:aR T n ρ A H st) (k:Kp n ρ ρ H H' ts) (nd:(st.ah.map (·.nm)).Nodup) (ep:st.ah[i]?=some p0) (eq:A.qs[i]?=some q0) (e1:p1.nm=p0.nm)
  (hw:H' q0.1=some (.ins T.part q0.2.1 (eU p1 q0.2.2))) (hs:∀{b:Addr} {t:Nat} {x:Str} {o:HO},ρ b=some (n,t,x)->t≠20\/x≠p0.nm->H b=some o->H' b=some o) (er:(.lst (p0.row.map V.int):HO) = .lst (p1.row.map V.int)):
  ∀(j:Nat) (p:Pt) (q:Addr×Addr×Addr),(st.ah.set i p1)[j]?=some p->A.qs[j]?=some q->H' q.1=some (.ins T.part q.2.1 (eU p q.2.2))/\H' q.2.2=some (.lst (p.row.map V.int))/\ρ q.1=some (n,20,p.nm)/\ρ q.2.2=some (n,21,p.nm):=by
 intro j p q ej eq'
 by_cases hj:i=j
 . subst hj
   rw [eq] at eq';cases eq'
   rw [j5 (dI.mp ep).1] at ej
   cases ej
   obtain ⟨a,b,c,d⟩:=h.opt i p0 q0 ep eq
   exact ⟨hw,by rw [<-er];exact hs d (.inl (by decide)) b,by rw [e1];exact c,by rw [e1];exact d⟩
 . rw [uD hj] at ej
   obtain ⟨a,b,c,d⟩:=h.opt j p q ej eq'
   exact ⟨hs c (.inr fun e=>hj (EC nd ep ej e.symm)) a,hs d (.inl (by decide)) b,c,d⟩
variable {l:List Int}
theorem WB {A:HA} (h:aR T n ρ A H st) (nd:(st.ah.map (·.nm)).Nodup) (ep:st.ah[i]?=some p0) (eq:A.qs[i]?=some q0)
  (hw:H' q0.2.2=some (.lst (l.map V.int))) (hs:∀{b:Addr} {t:Nat} {x:Str} {o:HO},ρ b=some (n,t,x)->t≠21\/x≠p0.nm->H b=some o->H' b=some o):
  ∀(j:Nat) (p:Pt) (q:Addr×Addr×Addr),(st.ah.set i { p0 with row:=l })[j]?=some p->A.qs[j]?=some q->H' q.1=some (.ins T.part q.2.1 (eU p q.2.2))/\H' q.2.2=some (.lst (p.row.map V.int))/\ρ q.1=some (n,20,p.nm)/\ρ q.2.2=some (n,21,p.nm):=by
 intro j p q ej eq'
 by_cases hj:i=j
 . subst hj
   rw [eq] at eq';cases eq'
   rw [j5 (dI.mp ep).1] at ej
   cases ej
   obtain ⟨a,b,c,d⟩:=h.opt i p0 q0 ep eq
   exact ⟨hs c (.inl (by decide)) a,hw,c,d⟩
 . rw [uD hj] at ej
   obtain ⟨a,b,c,d⟩:=h.opt j p q ej eq'
   exact ⟨hs c (.inl (by decide)) a,hs d (.inr fun e=>hj (EC nd ep ej e.symm)) b,c,d⟩
theorem Al (c:ρ a=some (n,t,x)):∀{b:Addr} {u:Nat} {y:Str} {w:HO},ρ b=some (n,u,y)->u≠t\/y≠x->H b=some w->upd H a o b=some w:=fun {b u y w} hc hu h=>by
 rw [av (EB hc c (fun e=>by cases e;rcases hu with z|z <;> exact z rfl))];exact h
theorem aR.abL {A:HA} (h:aR T n ρ A H st) (g:Gh ρ H) (l:List Str):aR T n ρ A (upd H A.pl (.dK (fP 0 l))) { st with own:=l }:=by
 have k:=ef (o:= .dK (fP 0 l)) g h.i9
 obtain ⟨vs,h1,h2⟩:=h.uP
 obtain ⟨kvs,k1,k2,k3⟩:=h.okn
 exact ⟨kz k h.ca h.oa,h.ca,ai,h.i9,kz k h.gC h.d9,h.gC,⟨vs,kz k h.jP h1,h2.keep k (by decide)⟩,h.jP,kz k h.jm h.ua,h.jm,kz k h.jn h.nv,h.jn,kz k h.j8 h.jQ,h.j8,kz k h.cpu h.pZ,h.cpu,kz k h.jq h.sQ,h.jq,⟨kvs,kz k h.jr k1,fun p hp=>let ⟨t,r,e,q⟩:=k2 p hp;⟨t,r,e,k.1 _ _ q⟩,k3⟩,h.jr,h.ql,fun i p q e1 e2=>let ⟨a,b,c,d⟩:=h.opt i p q e1 e2;⟨kz k c a,kz k d b,c,d⟩⟩
theorem aR.TR {A:HA} (h:aR T n ρ A H st) (g:Gh ρ H) (ps:List Pt) (qs:List (Addr×Addr×Addr)) (el:qs.length=ps.length) (hp:∀(i:Nat) (p:Pt) (q:Addr×Addr×Addr),ps[i]?=some p->qs[i]?=some q->H q.1=some (.ins T.part q.2.1 (eU p q.2.2))/\H q.2.2=some (.lst (p.row.map V.int))/\ρ q.1=some (n,20,p.nm)/\ρ q.2.2=some (n,21,p.nm)):aR T n ρ { A with qs:=qs } (upd H A.ab (.dK (cO ps qs))) { st with ah:=ps }:=by
 have k:=ef (o:= .dK (cO ps qs)) g h.gC
 obtain ⟨vs,h1,h2⟩:=h.uP
 obtain ⟨kvs,k1,k2,k3⟩:=h.okn
 exact ⟨kz k h.ca h.oa,h.ca,kz k h.i9 h.iR,h.i9,ai,h.gC,⟨vs,kz k h.jP h1,h2.keep k (by decide)⟩,h.jP,kz k h.jm h.ua,h.jm,kz k h.jn h.nv,h.jn,kz k h.j8 h.jQ,h.j8,kz k h.cpu h.pZ,h.cpu,kz k h.jq h.sQ,h.jq,⟨kvs,kz k h.jr k1,fun p hp=>let ⟨t,r,e,q⟩:=k2 p hp;⟨t,r,e,k.1 _ _ q⟩,k3⟩,h.jr,el,fun i p q e1 e2=>let ⟨a,b,c,d⟩:=hp i p q e1 e2;⟨kz k c a,kz k d b,c,d⟩⟩
theorem aR.abM {A:HA} (h:aR T n ρ A H st) (g:Gh ρ H) (l:List Str):aR T n ρ A (upd H A.nm (.dK (xO l))) { st with nms:=l }:=by
 have k:=ef (o:= .dK (xO l)) g h.jm
 obtain ⟨vs,h1,h2⟩:=h.uP
 obtain ⟨kvs,k1,k2,k3⟩:=h.okn
 exact ⟨kz k h.ca h.oa,h.ca,kz k h.i9 h.iR,h.i9,kz k h.gC h.d9,h.gC,⟨vs,kz k h.jP h1,h2.keep k (by decide)⟩,h.jP,ai,h.jm,kz k h.jn h.nv,h.jn,kz k h.j8 h.jQ,h.j8,kz k h.cpu h.pZ,h.cpu,kz k h.jq h.sQ,h.jq,⟨kvs,kz k h.jr k1,fun p hp=>let ⟨t,r,e,q⟩:=k2 p hp;⟨t,r,e,k.1 _ _ q⟩,k3⟩,h.jr,h.ql,fun i p q e1 e2=>let ⟨a,b,c,d⟩:=h.opt i p q e1 e2;⟨kz k c a,kz k d b,c,d⟩⟩
theorem aR.abN {A:HA} (h:aR T n ρ A H st) (g:Gh ρ H) (l:List Int):aR T n ρ A (upd H A.cm (.lst (l.map V.int))) { st with bM:=l }:=by
 have k:=ef (o:= .lst (l.map V.int)) g h.j8
 obtain ⟨vs,h1,h2⟩:=h.uP
 obtain ⟨kvs,k1,k2,k3⟩:=h.okn
 exact ⟨kz k h.ca h.oa,h.ca,kz k h.i9 h.iR,h.i9,kz k h.gC h.d9,h.gC,⟨vs,kz k h.jP h1,h2.keep k (by decide)⟩,h.jP,kz k h.jm h.ua,h.jm,kz k h.jn h.nv,h.jn,ai,h.j8,kz k h.cpu h.pZ,h.cpu,kz k h.jq h.sQ,h.jq,⟨kvs,kz k h.jr k1,fun p hp=>let ⟨t,r,e,q⟩:=k2 p hp;⟨t,r,e,k.1 _ _ q⟩,k3⟩,h.jr,h.ql,fun i p q e1 e2=>let ⟨a,b,c,d⟩:=h.opt i p q e1 e2;⟨kz k c a,kz k d b,c,d⟩⟩
theorem aR.abO {A:HA} (h:aR T n ρ A H st) (g:Gh ρ H) (l:List Int):aR T n ρ A (upd H A.pu (.lst (l.map V.int))) { st with c_:=l }:=by
 have k:=ef (o:= .lst (l.map V.int)) g h.cpu
 obtain ⟨vs,h1,h2⟩:=h.uP
 obtain ⟨kvs,k1,k2,k3⟩:=h.okn
 exact ⟨kz k h.ca h.oa,h.ca,kz k h.i9 h.iR,h.i9,kz k h.gC h.d9,h.gC,⟨vs,kz k h.jP h1,h2.keep k (by decide)⟩,h.jP,kz k h.jm h.ua,h.jm,kz k h.jn h.nv,h.jn,kz k h.j8 h.jQ,h.j8,ai,h.cpu,kz k h.jq h.sQ,h.jq,⟨kvs,kz k h.jr k1,fun p hp=>let ⟨t,r,e,q⟩:=k2 p hp;⟨t,r,e,k.1 _ _ q⟩,k3⟩,h.jr,h.ql,fun i p q e1 e2=>let ⟨a,b,c,d⟩:=h.opt i p q e1 e2;⟨kz k c a,kz k d b,c,d⟩⟩
theorem aR.abP {A:HA} (h:aR T n ρ A H st) (g:Gh ρ H) (l:List Int):aR T n ρ A (upd H A.sp (.lst (l.map V.int))) { st with stp:=l }:=by
 have k:=ef (o:= .lst (l.map V.int)) g h.jq
 obtain ⟨vs,h1,h2⟩:=h.uP
 obtain ⟨kvs,k1,k2,k3⟩:=h.okn
 exact ⟨kz k h.ca h.oa,h.ca,kz k h.i9 h.iR,h.i9,kz k h.gC h.d9,h.gC,⟨vs,kz k h.jP h1,h2.keep k (by decide)⟩,h.jP,kz k h.jm h.ua,h.jm,kz k h.jn h.nv,h.jn,kz k h.j8 h.jQ,h.j8,kz k h.cpu h.pZ,h.cpu,ai,h.jq,⟨kvs,kz k h.jr k1,fun p hp=>let ⟨t,r,e,q⟩:=k2 p hp;⟨t,r,e,k.1 _ _ q⟩,k3⟩,h.jr,h.ql,fun i p q e1 e2=>let ⟨a,b,c,d⟩:=h.opt i p q e1 e2;⟨kz k c a,kz k d b,c,d⟩⟩
theorem aR.abQ {A:HA} (h:aR T n ρ A H st) (g:Gh ρ H) (q:Addr) (l:List Int) (e:H q=some (.lst (l.map V.int))) (c:ρ q=col n 6):aR T n ρ { A with cm:=q } (upd H A.a (.ins T.hold A.dx (m7 { A with cm:=q }))) { st with bM:=l }:=by
 have k:=ef (o:= .ins T.hold A.dx (m7 { A with cm:=q })) g h.ca
 obtain ⟨vs,h1,h2⟩:=h.uP
 obtain ⟨kvs,k1,k2,k3⟩:=h.okn
 exact ⟨ai,h.ca,kz k h.i9 h.iR,h.i9,kz k h.gC h.d9,h.gC,⟨vs,kz k h.jP h1,h2.keep k (by decide)⟩,h.jP,kz k h.jm h.ua,h.jm,kz k h.jn h.nv,h.jn,kz k c e,c,kz k h.cpu h.pZ,h.cpu,kz k h.jq h.sQ,h.jq,⟨kvs,kz k h.jr k1,fun p hp=>let ⟨t,r,e,q⟩:=k2 p hp;⟨t,r,e,k.1 _ _ q⟩,k3⟩,h.jr,h.ql,fun i p q e1 e2=>let ⟨a,b,c,d⟩:=h.opt i p q e1 e2;⟨kz k c a,kz k d b,c,d⟩⟩
theorem aR.abR {A:HA} (h:aR T n ρ A H st) (g:Gh ρ H) (q:Addr) (l:List Int) (e:H q=some (.lst (l.map V.int))) (c:ρ q=col n 7):aR T n ρ { A with pu:=q } (upd H A.a (.ins T.hold A.dx (m7 { A with pu:=q }))) { st with c_:=l }:=by
 have k:=ef (o:= .ins T.hold A.dx (m7 { A with pu:=q })) g h.ca
 obtain ⟨vs,h1,h2⟩:=h.uP
 obtain ⟨kvs,k1,k2,k3⟩:=h.okn
 exact ⟨ai,h.ca,kz k h.i9 h.iR,h.i9,kz k h.gC h.d9,h.gC,⟨vs,kz k h.jP h1,h2.keep k (by decide)⟩,h.jP,kz k h.jm h.ua,h.jm,kz k h.jn h.nv,h.jn,kz k h.j8 h.jQ,h.j8,kz k c e,c,kz k h.jq h.sQ,h.jq,⟨kvs,kz k h.jr k1,fun p hp=>let ⟨t,r,e,q⟩:=k2 p hp;⟨t,r,e,k.1 _ _ q⟩,k3⟩,h.jr,h.ql,fun i p q e1 e2=>let ⟨a,b,c,d⟩:=h.opt i p q e1 e2;⟨kz k c a,kz k d b,c,d⟩⟩
theorem aR.abS {A:HA} (h:aR T n ρ A H st) (g:Gh ρ H) (m:Int) (q:Addr) (e:H q=some (.dK [])) (c:ρ q=col n 9):aR T n ρ { A with kn:=q } (upd H A.bt (.ins T.bot A.db (yC A.sp m q))) { st with prod:=m,kn:=0 }:=by
 have k:=ef (o:= .ins T.bot A.db (yC A.sp m q)) g h.jn
 obtain ⟨vs,h1,h2⟩:=h.uP
 obtain ⟨kvs,k1,k2,k3⟩:=h.okn
 exact ⟨kz k h.ca h.oa,h.ca,kz k h.i9 h.iR,h.i9,kz k h.gC h.d9,h.gC,⟨vs,kz k h.jP h1,h2.keep k (by decide)⟩,h.jP,kz k h.jm h.ua,h.jm,ai,h.jn,kz k h.j8 h.jQ,h.j8,kz k h.cpu h.pZ,h.cpu,kz k h.jq h.sQ,h.jq,⟨[],kz k c e,(fun p hp=>absurd hp (by simp)),aP _,vV⟩,c,h.ql,fun i p q e1 e2=>let ⟨a,b,c,d⟩:=h.opt i p q e1 e2;⟨kz k c a,kz k d b,c,d⟩⟩
theorem aR.sS {A:HA} (h:aR T n ρ A H st) (g:Gh ρ H) (ep:st.ah[i]?=some p0) (eq:A.qs[i]?=some q0) (e1:p1.nm=p0.nm) (e2:p1.row=p0.row) (nd:(st.ah.map (·.nm)).Nodup):aR T n ρ A (upd H q0.1 (.ins T.part q0.2.1 (eU p1 q0.2.2))) { st with ah:=st.ah.set i p1 }:=by
 have k:=ef (o:= .ins T.part q0.2.1 (eU p1 q0.2.2)) g (h.opt i p0 q0 ep eq).2.2.1
 obtain ⟨vs,h1,h2⟩:=h.uP
 obtain ⟨kvs,k1,k2,k3⟩:=h.okn
 exact ⟨kz k h.ca h.oa,h.ca,kz k h.i9 h.iR,h.i9,by rw [BK ep e1];exact kz k h.gC h.d9,h.gC,⟨vs,kz k h.jP h1,h2.keep k (by decide)⟩,h.jP,kz k h.jm h.ua,h.jm,kz k h.jn h.nv,h.jn,kz k h.j8 h.jQ,h.j8,kz k h.cpu h.pZ,h.cpu,kz k h.jq h.sQ,h.jq,⟨kvs,kz k h.jr k1,fun p hp=>let ⟨t,r,e,q⟩:=k2 p hp;⟨t,r,e,k.1 _ _ q⟩,k3⟩,h.jr,by rw [fq];exact h.ql,Zi h k nd ep eq e1 ai (Al (h.opt i p0 q0 ep eq).2.2.1) (by rw [e2])⟩
theorem aR.Zj {A:HA} (h:aR T n ρ A H st) (g:Gh ρ H) (l:List Int) (ep:st.ah[i]?=some p0) (eq:A.qs[i]?=some q0) (nd:(st.ah.map (·.nm)).Nodup):aR T n ρ A (upd H q0.2.2 (.lst (l.map V.int))) { st with ah:=st.ah.set i { p0 with row:=l } }:=by
 have k:=ef (o:= .lst (l.map V.int)) g (h.opt i p0 q0 ep eq).2.2.2
 obtain ⟨vs,h1,h2⟩:=h.uP
 obtain ⟨kvs,k1,k2,k3⟩:=h.okn
 exact ⟨kz k h.ca h.oa,h.ca,kz k h.i9 h.iR,h.i9,by show _=some (HO.dK (cO (st.ah.set i { p0 with row:=l }) A.qs));rw [BK (p1:={ p0 with row:=l }) ep rfl];exact kz k h.gC h.d9,h.gC,⟨vs,kz k h.jP h1,h2.keep k (by decide)⟩,h.jP,kz k h.jm h.ua,h.jm,kz k h.jn h.nv,h.jn,kz k h.j8 h.jQ,h.j8,kz k h.cpu h.pZ,h.cpu,kz k h.jq h.sQ,h.jq,⟨kvs,kz k h.jr k1,fun p hp=>let ⟨t,r,e,q⟩:=k2 p hp;⟨t,r,e,k.1 _ _ q⟩,k3⟩,h.jr,by rw [fq];exact h.ql,WB h nd ep eq ai (Al (h.opt i p0 q0 ep eq).2.2.2)⟩
structure Txt (K:Fg) (T:TC):Prop where
 cH:oS K T.hold
 cP:oS K T.part
 cB:oS K T.bot
 hpl:eX K T.hold "places"
 hab:eX K T.hold "aboard"
 has:eX K T.hold "ashore"
 hnm:eX K T.hold "names"
 ED:eX K T.hold "bottom"
 Cu:eX K T.hold "common"
 K5:eX K T.hold "purses"
 XX:eX K T.part "name"
 pow:eX K T.part "owner"
 Pf:eX K T.part "worth"
 pwe:eX K T.part "weight"
 Pg:eX K T.part "scale"
 TU:eX K T.part "row"
 bst:eX K T.bot "steps"
 XY:eX K T.bot "product"
 TV:eX K T.bot "known"
structure Wf (st:HS):Prop where
 yD:st.own.Nodup
 C3:st.nms.Nodup
 j9:(st.ah.map (·.nm)).Nodup
 sub:∀p∈st.ah,p.nm∈st.nms
 rows:∀p∈st.ah,p.row.length=st.own.length
 ow:∀p∈st.ah,p.ow∈st.own
 g_:st.bM.length=st.own.length
 yE:st.c_.length=st.own.length
 iD:1<=st.prod
 vZ:st.prod=st.stp.foldl (·*·) 1
 Am:∀s∈st.stp,2<=s
 qU:st.own.length<=100
 C4:st.nms.length<=1000
 wV:st.ah.length<=1000
 Gx:st.stp.length<=100
 An:st.ku.length<=1000
 TY:st.kn<=1000000
 big:Jm.Sz 8000 st.prod
 qV:∀c∈st.bM,0<=c/\c<=st.prod
 xP:∀p∈st.ah,1<=p.sc/\p.sc<=st.prod
 uQ:∀p∈st.ah,∀r∈p.row,-st.prod<=r/\r<=st.prod
 Ao:∀p∈st.ah,∀t∈List.zipWith (fun r c=>p.sc*r+c) p.row st.bM,0<=t/\t<=st.prod
 xQ:∀p∈st.ah,1<=p.wo/\0<=p.we
 K6:∀u∈st.c_,Jm.Sz 9000 u
structure HH (T:TC) (n:Nat) (ρ:fJ) (A:HA) (H:Hp) (st:HS):Prop where
 g:Gh ρ H
 h:aR T n ρ A H st
 wf:Wf st
def BL (T:TC) (n:Nat) (ρ:fJ) (A:HA) (H:Hp) (st:HS) (Q:Hp->Prop):Prop:=∀ρ' A' H',HH T n ρ' A' H' st->A'.a=A.a->Fr n ρ H ρ' H'->Q H'
def hs0:HS:=⟨[],[],[],[],[],1,0,[],[]⟩
theorem wf0:Wf hs0:=by
 refine ⟨vV,vV,vV,?_,?_,?_,Z,Z,?_,Z,?_,?_,?_,?_,?_,?_,?_,?_,?_,?_,?_,?_,?_,?_⟩ <;> first|(intro _ h;exact absurd h (by simp [hs0]))|decide|(show Jm.Sz 8000 1;exact pU (by decide +kernel))
theorem Ph:∀{l:List Str} {i:Nat} {o:Str},o∈l->ee (fP i l) (Sum.inr o)=some (.int ((i+l.idxOf o:Nat):Int))
 | [],_,_,h=>by simp at h
 | x::l,i,o,h=>by
   by_cases e:x=o
   . subst e
     rw [show fP i (x::l)=(Sum.inr x, .int i)::fP (i+1) l from rfl,gM rfl]
     simp
   . rw [show fP i (x::l)=(Sum.inr x, .int i)::fP (i+1) l from rfl,eY (by intro z;exact e (uf z))]
     have hm:o∈l:=by
      rcases c6.mp h with z|z
      . exact absurd z.symm e
      . exact z
     rw [Ph hm]
     have eb:(x==o)=false:=by simpa using e
     have:(x::l).idxOf o=l.idxOf o+1:=by rw [List.idxOf_cons,eb];rfl
     rw [this]
     show some (V.int ((i+1+l.idxOf o:Nat):Int))=some (V.int ((i+(l.idxOf o+1):Nat):Int))
     rw [show i+1+l.idxOf o=i+(l.idxOf o+1) from by omega]
theorem p_:∀{l:List Str} {i:Nat} {o:Str},o∉l->ee (fP i l) (Sum.inr o)=none
 | [],_,_,_=>rfl
 | x::l,i,o,h=>by
   rw [show fP i (x::l)=(Sum.inr x, .int i)::fP (i+1) l from rfl,eY (fun z=>h (by rw [<-uf z];exact cM))]
   exact p_ fun m=>h (cG _ m)
theorem uh:∀(l:List Str) (i:Nat),(fP i l).length=l.length
 | [],_=>rfl
 | _::l,i=>by rw [show ∀x,fP i (x::l)=(Sum.inr x, .int i)::fP (i+1) l from fun _=>rfl,mX,mX,uh l]
theorem K7:∀(l:List Str) (i:Nat) (o:Str),fP i (l++[o])=fP i l++[(Sum.inr o, .int ((i+l.length:Nat):Int))]
 | [],i,o=>rfl
 | x::l,i,o=>by
   show (Sum.inr x,V.int i)::fP (i+1) (l++[o])=_
   rw [K7 l (i+1) o]
   show _=(Sum.inr x,V.int i)::(fP (i+1) l++_)
   rw [mX,show i+1+l.length=i+(l.length+1) from by omega]
theorem C5:∀(l:List Str) (i:Nat),(fP i l).map (fun p=>kV p.1)=l.map V.str
 | [],_=>rfl
 | x::l,i=>by
   show kV (Sum.inr x)::(fP (i+1) l).map _=V.str x::l.map V.str
   rw [C5 l]
   rfl
variable {qs:List (Addr×Addr×Addr)}
theorem xR {ps:List Pt} {q:Addr×Addr×Addr} (h1:ps[i]?=some p) (h2:qs[i]?=some q):(cO ps qs)[i]?=some (Sum.inr p.nm, .ref q.1):=by
 unfold cO
 rw [QB,h1,h2]
theorem xS {ps:List Pt} (h:qs.length=ps.length):(cO ps qs).length=ps.length:=by
 unfold cO
 rw [nZ,h,Bs]
theorem xT:∀{ps:List Pt} {qs:List (Addr×Addr×Addr)} {i:Nat} {p:Pt} {q:Addr×Addr×Addr},(ps.map (·.nm)).Nodup->ps[i]?=some p->qs[i]?=some q->ee (cO ps qs) (Sum.inr p.nm)=some (.ref q.1)
 | [],_,_,_,_,_,h,_=>by simp at h
 | _::_,[],_,_,_,_,_,h=>by simp at h
 | a::ps,b::qs,0,p,q,_,h1,h2=>by
   have e1:a=p:=by simpa using h1
   have e2:b=q:=by simpa using h2
   subst e1 e2
   exact gM rfl
 | a::ps,b::qs,i+1,p,q,nd,h1,h2=>by
   have nd':=gR.mp (show (a.nm::ps.map (·.nm)).Nodup from nd)
   have XZ:ps[i]?=some p:=by simpa using h1
   rw [show cO (a::ps) (b::qs)=(Sum.inr a.nm, .ref b.1)::cO ps qs from rfl,eY (fun z=>nd'.1 (bQ.mpr ⟨p,bJ XZ,(uf z).symm⟩))]
   exact xT nd'.2 XZ (by simpa using h2)
theorem uR:∀{ps:List Pt} {qs:List (Addr×Addr×Addr)} {x:Str},(∀p∈ps,p.nm≠x)->ee (cO ps qs) (Sum.inr x)=none
 | [],_,_,_=>rfl
 | _::_,[],_,_=>rfl
 | a::ps,b::qs,x,h=>by
   rw [show cO (a::ps) (b::qs)=(Sum.inr a.nm, .ref b.1)::cO ps qs from rfl,eY (fun z=>h a cM (uf z))]
   exact uR fun p hp=>h p (cG _ hp)
theorem WC {ps:List Pt} (h:qs.length=ps.length) (p:Pt) (q:Addr×Addr×Addr):cO (ps++[p]) (qs++[q])=cO ps qs++[(Sum.inr p.nm, .ref q.1)] :=by
 unfold cO
 rw [List.zipWith_append h.symm]
 rfl
theorem Aq {l:List Str} (h:x∉l):ee (xO l) (Sum.inr x)=none:=by
 unfold xO
 induction l with
 | nil=>rfl
 | cons a l ih=>
   rw [bH,eY (fun z=>h (by rw [<-uf z];exact cM))]
   exact ih fun m=>h (cG _ m)
theorem aR.find {A:HA} (h:aR T n ρ A H st) (e:st.ah[i]?=some p):∃q,A.qs[i]?=some q/\H q.1=some (.ins T.part q.2.1 (eU p q.2.2))/\H q.2.2=some (.lst (p.row.map V.int))/\ρ q.1=some (n,20,p.nm)/\ρ q.2.2=some (n,21,p.nm):=by
 have hi:i<A.qs.length:=by rw [h.ql];exact (dI.mp e).1
 exact ⟨A.qs[i],aW hi,h.opt i p _ e (aW hi)⟩
def gI (st:HS) (o:Str):HS:={ st with own:=st.own++[o],bM:=st.bM++[0],c_:=st.c_++[0],ah:=st.ah.map fun p=>{ p with row:=p.row++[0] } }
def bh (st:HS) (p:Pt):List Int:=List.zipWith (fun r c=>p.sc*r+c) p.row st.bM
def m8 (st:HS) (tops:List Int):List Int:=List.zipWith (fun t c=>t-c) tops st.bM
def BN (st:HS) (p:Pt):HS:={ st with ah:=st.ah++[p],nms:=st.nms++[p.nm] }
def yF (st:HS) (x o:Str) (wo we:Int):HS:=BN st ⟨x,o,wo,we,1,m8 st ((List.replicate st.own.length 0).set (st.own.idxOf o) st.prod)⟩
def bK (st:HS):Int:=(st.ah.map (·.wo)).sum
def Ar (st:HS) (p:Pt):List (Str×Rat):=(List.zip st.own (bh st p)).filterMap fun x=>if 0<x.2 then some (x.1,Jm.fr x.2 st.prod) else none
def BO (p:Pt):HO:= .tup [.str p.nm, .str p.ow, .int p.wo, .int p.we]
inductive jW (H:Hp):List V->List Pt->Prop
 | nil:jW H [] []
 | cons {r:Addr} {p:Pt} {vs:List V} {ps:List Pt}:H r=some (BO p)->jW H vs ps->jW H (.ref r::vs) (p::ps)
def K8 (n:Nat) (q1 q2:Addr) (ρ:fJ) (H:Hp) (ρ':fJ) (H':Hp):Prop:=∀b o,H b=some o->(∀t x,ρ b≠some (n,t,x))->b≠q1->b≠q2->H' b=some o/\ρ' b=ρ b
theorem K8.trans {ρ1 ρ2:fJ} (a:K8 n q1 q2 ρ H ρ1 H1) (b:Fr n ρ1 H1 ρ2 H2):K8 n q1 q2 ρ H ρ2 H2:=fun c o h k x y=>by
 obtain ⟨h1,e1⟩:=a c o h k x y
 obtain ⟨h2,e2⟩:=b c o h1 (by rw [e1];exact k)
 exact ⟨h2,e2.trans e1⟩
theorem K8.fr {ρ1 ρ2:fJ} (b:K8 n q1 q2 ρ1 H1 ρ2 H2) (a:Fr n ρ H ρ1 H1) (h1:H q1=none) (h2:H q2=none):Fr n ρ H ρ2 H2:=fun c o h k=>by
 obtain ⟨e1,e2⟩:=a c o h k
 obtain ⟨e3,e4⟩:=b c o e1 (by rw [e2];exact k) (aH h h1) (aH h h2)
 exact ⟨e3,e4.trans e2⟩
def isNm (o:Str):Bool:=isName o.cps.toList
inductive abU (T:TC) (vs:List V) (H:Hp) (Q:VK) (E:XK):Prop
 | mk (p dx:_) (_:vs=[.ref p]) (_:H p=some (.ins T.bot dx [])) (_:∀sp kn H',H sp=none->H kn=none->sp≠kn->(∀b o,H b=some o->b≠p->H' b=some o)->H' p=some (.ins T.bot dx (yC sp 1 kn))->H' sp=some (.lst [])->H' kn=some (.dK [])->Q .b_ H')
def Pj (T:TC):Sp:=bx (abU T)
inductive abV (T:TC) (K:Fg) (vs:List V) (H:Hp) (Q:VK) (E:XK):Prop
 | mk (p dx l:Addr) (pt:Pt) (_:vs=[.ref p, .str pt.nm, .str pt.ow, .int pt.wo, .int pt.we, .int pt.sc, .ref l]) (_:H p=some (.ins T.part dx [])) (_:aC K H l (pt.row.map V.int)) (_:∀r H',H r=none->(∀b o,H b=some o->b≠p->H' b=some o)->H' p=some (.ins T.part dx (eU pt r))->H' r=some (.lst (pt.row.map V.int))->Q .b_ H')
def Pk (T:TC) (K:Fg):Sp:=bx (abV T K)
inductive abW (T:TC) (vs:List V) (H:Hp) (Q:VK) (E:XK):Prop
 | mk (p dx ρ n:_) (_:vs=[.ref p]) (_:H p=some (.ins T.hold dx [])) (_:Gh ρ H) (_:ρ p=none) (_:∀ρ' A H',A.a=p->HH T n ρ' A H' hs0->(∀b o,H b=some o->b≠p->H' b=some o/\ρ' b=ρ b)->Q .b_ H')
def Pn (T:TC):Sp:=bx (abW T)
inductive abX (T:TC) (vs:List V) (H:Hp) (Q:VK) (E:XK):Prop
 | mk (n ρ A st o:_) (_:vs=[.ref A.a, .str o]) (_:aR T n ρ A H st) (_:o∈st.own) (_:Q (.int (st.own.idxOf o:Int)) H)
def Po (T:TC):Sp:=bx (abX T)
inductive Zk (T:TC) (vs:List V) (H:Hp) (Q:VK) (E:XK):Prop
 | mk (n ρ A st:_) (i:Nat) (p:Pt) (q:Addr×Addr×Addr) (_:vs=[.ref A.a, .str p.nm]) (_:aR T n ρ A H st) (_:(st.ah.map (·.nm)).Nodup) (_:st.ah[i]?=some p) (_:A.qs[i]?=some q) (_:Q (.ref q.1) H)
def C6 (T:TC):Sp:=bx (Zk T)
inductive TZ (T:TC) (vs:List V) (H:Hp) (Q:VK) (E:XK):Prop
 | mk (n ρ A st x:_) (_:vs=[.ref A.a, .str x]) (_:aR T n ρ A H st) (_:isNm x=true) (_:x∉st.nms) (_:∀H',aF H H'->Q .b_ H')
def EE (T:TC):Sp:=bx (TZ T)
inductive ahK (T:TC) (K:Fg) (vs:List V) (H:Hp) (Q:VK) (E:XK):Prop
 | mk (n ρ A st l:_) (tops:List Int) (_:vs=[.ref A.a, .ref l]) (_:aR T n ρ A H st) (_:aC K H l (tops.map V.int)) (_:tops.length=st.bM.length) (_:tops.length<=1000) (_:∀r H',aF H H'->H r=none->H' r=some (.lst ((m8 st tops).map V.int))->Q (.ref r) H')
def Rq (T:TC) (K:Fg):Sp:=bx (ahK T K)
inductive abY (T:TC) (vs:List V) (H:Hp) (Q:VK) (E:XK):Prop
 | mk (n ρ A st:_) (i:Nat) (p:Pt) (q:Addr×Addr×Addr) (_:vs=[.ref A.a, .ref q.1]) (_:aR T n ρ A H st) (_:Wf st) (_:st.ah[i]?=some p) (_:A.qs[i]?=some q) (_:∀r H',aF H H'->H r=none->H' r=some (.lst ((bh st p).map V.int))->Q (.ref r) H')
def Gy (T:TC):Sp:=bx (abY T)
inductive aet (T:TC) (vs:List V) (H:Hp) (Q:VK) (E:XK):Prop
 | mk (n ρ A st:_) (q:Addr×Addr×Addr) (p:Pt) (_:vs=[.ref A.a, .ref q.1]) (_:HH T n ρ A H st) (_:H q.1=some (.ins T.part q.2.1 (eU p q.2.2))) (_:H q.2.2=some (.lst (p.row.map V.int))) (_:ρ q.1=none) (_:ρ q.2.2=none) (_:p.nm∉st.nms) (_:Wf (BN st p)) (_:∀ρ' A' H',HH T n ρ' A' H' (BN st p:_)->A'.a=A.a->K8 n q.1 q.2.2 ρ H ρ' H'->Q .b_ H')
def T3 (T:TC):Sp:=bx (aet T)
inductive abZ (T:TC) (vs:List V) (H:Hp) (Q:VK) (E:XK):Prop
 | mk (n ρ A st o:_) (_:vs=[.ref A.a, .str o]) (_:HH T n ρ A H st) (_:isNm o=true) (_:o∉st.own) (_:st.own.length<100) (_:BL T n ρ A H (gI st o:_) fun H'=>Q .b_ H')
def Pp (T:TC):Sp:=bx (abZ T)
inductive aeu (T:TC) (vs:List V) (H:Hp) (Q:VK) (E:XK):Prop
 | mk (n ρ A st x o wo we:_) (_:vs=[.ref A.a, .str x, .str o, .int wo, .int we]) (_:HH T n ρ A H st) (_:isNm x=true) (_:x∉st.nms) (_:o∈st.own) (_:1<=wo) (_:0<=we) (_:st.nms.length<1000) (_:st.ah.length<1000) (_:BL T n ρ A H (yF st x o wo we:_) fun H'=>Q .b_ H')
def T4 (T:TC):Sp:=bx (aeu T)
inductive ab0 (T:TC) (vs:List V) (H:Hp) (Q:VK) (E:XK):Prop
 | mk (n ρ A st:_) (_:vs=[.ref A.a]) (_:aR T n ρ A H st) (_:st.ah.length<=1000) (_:∀r ws H',aF H H'->H r=none->H' r=some (.lst ws)->jW H' ws st.ah->Q (.ref r) H')
def Pq (T:TC):Sp:=bx (ab0 T)
inductive ab1 (T:TC) (vs:List V) (H:Hp) (Q:VK) (E:XK):Prop
 | mk (n ρ A st:_) (_:vs=[.ref A.a]) (_:aR T n ρ A H st) (_:st.ah.length<=1000) (_:∀H',aF H H'->Q (.int (bK st)) H')
def Gz (T:TC):Sp:=bx (ab1 T)
inductive Zl (T:TC) (vs:List V) (H:Hp) (Q:VK) (E:XK):Prop
 | mk (n ρ A st:_) (_:vs=[.ref A.a]) (_:aR T n ρ A H st) (_:∀r,H r=none->Q (.ref r) (upd H r (.lst (st.own.map V.str))))
def K9 (T:TC):Sp:=bx (Zl T)
inductive ab2 (T:TC) (vs:List V) (H:Hp) (Q:VK) (E:XK):Prop
 | mk (bt db sp kn:Addr) (stp:List Int) (prod top:Int) (_:vs=[.ref bt, .int top]) (_:H bt=some (.ins T.bot db (yC sp prod kn))) (_:H sp=some (.lst (stp.map V.int))) (_:prod=stp.foldl (·*·) 1) (_:(∀s∈stp,2<=s)) (_:Jm.Sz 8000 prod) (_:∀r H',aF H H'->H' r=some (pT (Jm.fr top prod))->Q (.ref r) H')
def Pr (T:TC):Sp:=bx (ab2 T)
inductive Zm (T:TC) (vs:List V) (H:Hp) (Q:VK) (E:XK):Prop
 | mk (bt db sp kn:Addr) (stp:List Int) (prod top:Int) (kvs:List (Key×V)) (_:vs=[.ref bt, .int top]) (_:H bt=some (.ins T.bot db (yC sp prod kn))) (_:H sp=some (.lst (stp.map V.int))) (_:prod=stp.foldl (·*·) 1) (_:(∀s∈stp,2<=s)) (_:Jm.Sz 8000 prod) (_:H kn=some (.dK kvs)) (_:K4 H kvs prod) (_:kvs.length<10000000) (_:(kvs.map (·.1)).Nodup) (_:∀r H' kvs',(∀b o,H b=some o->b≠kn->H' b=some o)->H' kn=some (.dK kvs')->K4 H' kvs' prod->kvs'.length<=kvs.length+1->(kvs'.map (·.1)).Nodup->H' r=some (pT (Jm.fr top prod))->Q (.ref r) H')
def K_ (T:TC):Sp:=bx (Zm T)
inductive WD (T:TC) (vs:List V) (H:Hp) (Q:VK) (E:XK):Prop
 | mk (n ρ A st:_) (i:Nat) (p:Pt) (_:vs=[.ref A.a, .str p.nm]) (_:HH T n ρ A H st) (_:st.ah[i]?=some p) (_:st.kn+100<=1000000) (_:∀r ws ρ' A' H',HH T n ρ' A' H' { st with kn:=st.kn+100 }->A'.a=A.a->Fr n ρ H ρ' H'->H r=none->H' r=some (.lst ws)->ρ' r=none->ja H' ws (Ar st p:_)->Q (.ref r) H')
def Ih (T:TC):Sp:=bx (WD T)
inductive As (ρ:fJ) (H:Hp):List V->List qM->Prop
 | nil:As ρ H [] []
 | cons {r l:Addr} {x:qM} {ss:List V} {vs:List V} {as:List qM}:H r=some (.tup [.str x.nm, .str x.ow, .int x.wo, .ref l])->H l=some (.lst ss)->ρ l=none->ja H ss x.sh->As ρ H vs as->As ρ H (.ref r::vs) (x::as)
inductive Zn (T:TC) (vs:List V) (H:Hp) (Q:VK) (E:XK):Prop
 | mk (n ρ A st:_) (_:vs=[.ref A.a]) (_:HH T n ρ A H st) (_:∀r ws H',aF H H'->H r=none->H' r=some (.lst ws)->As ρ H' ws st.ku->Q (.ref r) H')
def La (T:TC):Sp:=bx (Zn T)
theorem jW.mono {l:List Pt} (h:jW H vs l) (g:∀b xs,H b=some (.tup xs)->H' b=some (.tup xs)):jW H' vs l:=by
 induction h with
 | nil=>exact .nil
 | cons a _ ih=>exact .cons (g _ _ a) ih
variable {r:Addr}
theorem jW.snoc {l:List Pt} (h:jW H vs l) (e:H r=some (BO p)):jW H (vs++[.ref r]) (l++[p]):=by
 induction h with
 | nil=>exact .cons e .nil
 | cons a _ ih=>exact .cons a ih
theorem ja.snoc {l:List (Str×Rat)} (h:ja H vs l) (e:H r=some (.tup [.str x, .ref f])) (e2:H f=some (pT q)):ja H (vs++[.ref r]) (l++[(x,q)]):=by
 induction h with
 | nil=>exact .cons e e2 .nil
 | cons a b _ ih=>exact .cons a b ih
theorem kW {p:Addr} (h:H p=none\/∃u,H p=some u/\isTup u=false):∀b xs,H b=some (.tup xs)->upd H p o b=some (.tup xs):=fun b xs e=>by
 rw [av (fun z=>?_)]
 . exact e
 . rw [z] at e
   rcases h with h|⟨u,h,t⟩
   . rw [h] at e;cases e
   . rw [h] at e;cases e;cases t
theorem Lb (h:isNm x=true):x.cps.toList.length<=100000:=by
 unfold isNm isName at h
 have:=eO (kX.mp (kX.mp h).1).2
 omega
theorem uS {o:Obj} (e:H d=some (.dK kvs)) (s:aF (upd H d (.fm o (.dK kvs))) H1):aF H (upd H1 d (.dK kvs)):=fun b u q=>by
 by_cases h:b=d
 . rw [h,e] at q;cases q;rw [h];exact ai
 . rw [av h];exact s b u (by rw [av h];exact q)
theorem e_ {b:Addr} {o:Obj} {u:HO} (e:H d=some (.dK kvs)) (q:H b=some u) (h:∀k,u ≠ .dK k):upd H d (.fm o (.dK kvs)) b=some u:=by
 rw [av (fun z=>by rw [z,e] at q;cases q;exact h _ rfl)];exact q
theorem ou {b:Addr} {o:Obj} (e:H d=some (.dK kvs)) (q:upd H d (.fm o (.dK kvs)) b=none):H b=none:=by
 by_cases h:b=d
 . rw [h,ai] at q;cases q
 . rw [av h] at q;exact q
theorem aF.tups (s:aF H H'):∀b xs,H b=some (.tup xs)->H' b=some (.tup xs):=fun b xs h=>s b _ h
theorem take_snoc {α:Type} {l:List α} {x:α} (h:l[i]?=some x):l.take (i+1)=l.take i++[x] :=by rw [List.take_add_one,h];rfl
theorem o6 {α β γ:Type} (f:α->β->γ) {xs:List α} {ys:List β} {x:α} {y:β} (h1:xs[i]?=some x) (h2:ys[i]?=some y):List.zipWith f (xs.take (i+1)) (ys.take (i+1))=List.zipWith f (xs.take i) (ys.take i)++[f x y] :=by
 have l1:=(dI.mp h1).1
 have l2:=(dI.mp h2).1
 rw [take_snoc h1,take_snoc h2,List.zipWith_append (by rw [kZ,kZ];omega)]
 rfl
theorem gP {v:V} (h:(l.map V.int)[i]?=some v):∃z,v = .int z/\l[i]?=some z:=by
 rw [bF] at h
 obtain ⟨z,hz,rfl⟩:=lR.mp h
 exact ⟨z,Z,hz⟩
theorem HH.mono {A:HA} (h:HH T n ρ A H st) (s:aF H H'):HH T n ρ A H' st:=⟨h.g.same s,h.h.mono s,h.wf⟩
theorem T5 {u:HO} (c:ρ a=none) (h:H a=some u) (t:isTup u=false):Kp n ρ ρ H (upd H a o) ts:=
 ⟨kW (.inr ⟨u,h,t⟩),fun b x y w _ hc e=>⟨by rw [av (fun z=>by rw [z,c] at hc;cases hc)];exact e,hc⟩⟩
theorem HH.J7 {A:HA} {u:HO} (h:HH T n ρ A H st) (c:ρ a=none) (e:H a=some u) (t:isTup u=false) (t2:isTup o=false):HH T n ρ A (upd H a o) st:=⟨h.g.wr t2,h.h.same (T5 c e t),h.wf⟩
theorem Fr.new (f:Fr n ρ H ρ' H') (h:H a=none):Fr n ρ H ρ' (upd H' a o):=fun b u e k=>by
 rw [av (aH e h)];exact f b u e k
theorem T6 {α β γ:Type} (f:α->β->γ) {xs:List α} {ys:List β} (h:xs.length=ys.length) (x:α) (y:β):List.zipWith f (xs++[x]) (ys++[y])=List.zipWith f xs ys++[f x y] :=by
 rw [List.zipWith_append h];rfl
theorem Zo (w:Wf st) {o:Str} (h:o∉st.own) (hl:st.own.length<100):Wf (gI st o):=by
 have P:∀p∈(gI st o).ah,∃p0∈st.ah,p={ p0 with row:=p0.row++[0] }:=fun p hp=>by
  obtain ⟨p0,h0,rfl⟩:=bQ.mp (show p∈st.ah.map _ from hp)
  exact ⟨p0,h0,Z⟩
 have p1:=w.iD
 refine ⟨?_,w.C3,?_,fun p hp=>?_,fun p hp=>?_,fun p hp=>?_,?_,?_,w.iD,w.vZ,w.Am,?_,w.C4,?_,w.Gx,w.An,w.TY,w.big,fun c hc=>?_,fun p hp=>?_,fun p hp r hr=>?_,fun p hp t ht=>?_,fun p hp=>?_,fun u hu=>?_⟩
 . exact oW w.yD h
 . show ((st.ah.map fun p=>{ p with row:=p.row++[0] }).map (·.nm)).Nodup
   rw [fH]
   exact w.j9
 . obtain ⟨p0,h0,rfl⟩:=P p hp
   exact w.sub p0 h0
 . obtain ⟨p0,h0,rfl⟩:=P p hp
   show (p0.row++[0]).length=(st.own++[o]).length
   rw [dh,dh,w.rows p0 h0]
   rfl
 . obtain ⟨p0,h0,rfl⟩:=P p hp
   exact F0 _ (w.ow p0 h0)
 . show (st.bM++[0]).length=(st.own++[o]).length
   rw [dh,dh,w.g_]
   rfl
 . show (st.c_++[0]).length=(st.own++[o]).length
   rw [dh,dh,w.yE]
   rfl
 . show (st.own++[o]).length<=100
   rw [dh]
   exact hl
 . show (st.ah.map _).length<=1000
   rw [aE]
   exact w.wV
 . rcases fZ.mp (show c∈st.bM++[0] from hc) with z|z
   . exact w.qV c z
   . rw [fU.mp z];exact ⟨iW _,by show (0:Int)<=st.prod;omega⟩
 . obtain ⟨p0,h0,rfl⟩:=P p hp
   exact w.xP p0 h0
 . obtain ⟨p0,h0,rfl⟩:=P p hp
   rcases fZ.mp (show r∈p0.row++[0] from hr) with z|z
   . exact w.uQ p0 h0 r z
   . rw [fU.mp z];show -st.prod<=0/\0<=st.prod;omega
 . obtain ⟨p0,h0,rfl⟩:=P p hp
   have el:p0.row.length=st.bM.length:=by rw [w.rows p0 h0,w.g_]
   have ht:t∈List.zipWith (fun r c=>p0.sc*r+c) (p0.row++[0]) (st.bM++[0]):=ht
   rw [T6 _ el _ _] at ht
   rcases fZ.mp ht with z|z
   . exact w.Ao p0 h0 t z
   . rw [fU.mp z];show 0<=p0.sc*0+0/\p0.sc*0+0<=st.prod;omega
 . obtain ⟨p0,h0,rfl⟩:=P p hp
   exact w.xQ p0 h0
 . rcases fZ.mp (show u∈st.c_++[0] from hu) with z|z
   . exact w.K6 u z
   . rw [fU.mp z];exact pU (by decide +kernel)
theorem Zp (w:Wf st) (h1:p.nm∉st.nms) (h2:st.nms.length<1000) (h3:st.ah.length<1000) (h4:p.row.length=st.own.length) (h5:p.ow∈st.own) (h6:1<=p.sc/\p.sc<=st.prod) (h7:∀r∈p.row,-st.prod<=r/\r<=st.prod)
  (h8:∀t∈List.zipWith (fun r c=>p.sc*r+c) p.row st.bM,0<=t/\t<=st.prod) (h9:1<=p.wo/\0<=p.we):Wf (BN st p):=by
 have P:∀{M:Pt->Prop},(∀x∈st.ah,M x)->M p->∀x∈st.ah++[p],M x:=fun a b x hx=>by
  rcases fZ.mp hx with z|z
  . exact a x z
  . rw [fU.mp z];exact b
 refine ⟨w.yD,oW w.C3 h1,?_,P (fun x hx=>F0 _ (w.sub x hx)) (jK _ (fU.mpr rfl)),P w.rows h4,P w.ow h5,w.g_,w.yE,w.iD,w.vZ,w.Am,w.qU,?_,?_,w.Gx,w.An,w.TY,w.big,w.qV,P w.xP h6,P w.uQ h7,P w.Ao h8,P w.xQ h9,w.K6⟩
 . show ((st.ah++[p]).map (·.nm)).Nodup
   rw [bN]
   refine oW w.j9 fun m=>?_
   obtain ⟨x,hx,e⟩:=bQ.mp m
   have e:x.nm=p.nm:=e
   exact h1 (by rw [<-e];exact w.sub x hx)
 . show (st.nms++[p.nm]).length<=1000
   rw [dh];exact h2
 . show (st.ah++[p]).length<=1000
   rw [dh];exact h3
theorem uT {α β γ:Type} {f:α->β->γ} {t:γ}:∀{xs:List α} {ys:List β},t∈List.zipWith f xs ys->∃x∈xs,∃y∈ys,t=f x y
 | [],_,h=>by simp at h
 | _::_,[],h=>by simp at h
 | x::xs,y::ys,h=>by
   rcases c6.mp (show t∈f x y::List.zipWith f xs ys from h) with e|m
   . exact ⟨x,cM,y,cM,e⟩
   . obtain ⟨a,ha,b,hb,e⟩:=uT m
     exact ⟨a,cG _ ha,b,cG _ hb,e⟩
theorem C7:∀{ts cs:List Int},List.zipWith (fun r c=>1*r+c) (List.zipWith (fun t c=>t-c) ts cs) cs=ts.take cs.length
 | [],_=>by simp
 | _::_,[]=>by simp
 | t::ts,c::cs=>by
   show (1*(t-c)+c)::List.zipWith _ (List.zipWith _ ts cs) cs=t::ts.take cs.length
   rw [C7]
   congr 1
   omega
theorem yG {b t:Int} (h:t∈(List.replicate n 0).set i b):t=0\/t=b:=by
 rcases List.mem_or_eq_of_mem_set h with z|z
 . exact .inl (List.eq_of_mem_replicate z)
 . exact .inr z
variable {wo we:Int}
theorem Zq (w:Wf st) {o:Str} (h1:x∉st.nms) (h2:st.nms.length<1000) (h3:st.ah.length<1000) (ho:o∈st.own) (h4:1<=wo) (h5:0<=we):Wf (yF st x o wo we):=by
 have p1:=w.iD
 refine Zp w h1 h2 h3 ?_ ho ⟨iW 1,w.iD⟩ (fun r hr=>?_) (fun t ht=>?_) ⟨h4,h5⟩
 . show (List.zipWith _ ((List.replicate st.own.length 0).set _ _) st.bM).length=_
   rw [nZ,fq,mW,w.g_,Bs]
 . obtain ⟨t,ht,c,hc,rfl⟩:=uT (show r∈List.zipWith _ _ st.bM from hr)
   have:=w.qV c hc
   rcases yG ht with rfl|rfl <;> omega
 . have e:List.zipWith (fun r c=>1*r+c) (m8 st ((List.replicate st.own.length 0).set (st.own.idxOf o) st.prod)) st.bM=_:=C7
   have ht:t∈List.zipWith (fun r c=>1*r+c) (m8 st ((List.replicate st.own.length 0).set (st.own.idxOf o) st.prod)) st.bM:=ht
   rw [e] at ht
   rcases yG (List.mem_of_mem_take ht) with rfl|rfl <;> omega
theorem kI {b:Addr} {u:HO} (h:a≠b):upd (upd H a o) b u=upd (upd H b u) a o:=by
 funext c
 unfold upd
 by_cases e1:c=b
 . rw [aA e1,az (fun z=>h (z.symm.trans e1)),aA e1]
 . rw [az e1]
   by_cases e2:c=a
   . rw [aA e2,aA e2]
   . rw [az e2,az e2,az e1]
theorem yH (h:H a=some o):upd H a o=H:=by
 funext c
 unfold upd
 by_cases e:c=a
 . rw [aA e,e,h]
 . rw [az e]
theorem Lc {α:Type} (g:α->α) {l:List α} {p:α} (h:l[i]?=some p):((l.take i).map g++l.drop i)[i]?=some p:=by
 have hi:=(dI.mp h).1
 have e:((l.take i).map g).length=i:=by rw [aE,kZ];omega
 rw [CM (by omega),e,Bt,List.getElem?_drop]
 exact h
theorem Ld {α:Type} (g:α->α) {l:List α} {p:α} (h:l[i]?=some p):((l.take i).map g++l.drop i).set i (g p)=(l.take (i+1)).map g++l.drop (i+1):=by
 have hi:=(dI.mp h).1
 have e:((l.take i).map g).length=i:=by rw [aE,kZ];omega
 have ep:l[i]=p:=by rw [aW hi] at h;exact fY h
 rw [List.set_append_right _ _ (by omega),e,Bt,Qu hi,Kf,take_snoc h,bN,Kg]
 rfl
theorem qW {α β:Type} (g:α->α) (f:α->β) (hf:∀x,f (g x)=f x) (l:List α) (i:Nat):((l.take i).map g++l.drop i).map f=l.map f:=by
 rw [bN,fH,show f ∘ g=f from funext hf,<-bN,List.take_append_drop]
theorem o7 {ps ps':List Pt} (h:ps.map (·.nm)=ps'.map (·.nm)):cO ps qs=cO ps' qs:=by
 have:∀{ps:List Pt},cO ps qs=List.zipWith (fun (x:Str) q=>((Sum.inr x:Key),V.ref q.1)) (ps.map (·.nm)) qs:=fun {ps}=>by unfold cO;rw [List.zipWith_map_left]
 rw [this,this,h]
structure ju (p:Addr) (H:Hp) (ρ:fJ) (H':Hp) (ρ':fJ) (l:List (Addr×HO×pX)):Prop where
 m:∀e∈l,H' e.1=some e.2.1/\ρ' e.1=some e.2.2/\e.1≠p
 k:∀b o,H b=some o->b≠p->H' b=some o/\ρ' b=ρ b
 g:Gh ρ' H'
 pp:∃u,H' p=some u
theorem ju.new {p:Addr} {l:List (Addr×HO×pX)} {c:pX} (h:ju p H ρ H' ρ' l) (ha:H' a=none) (t:isTup o=false):ju p H ρ (upd H' a o) (cE ρ' a c) ((a,o,c)::l):=by
 obtain ⟨u,hu⟩:=h.pp
 refine ⟨fun e he=>?_,fun b w hb hp=>?_,(h.g.alloc ha).color ai t,u,by rw [av (aH hu ha)];exact hu⟩
 . rcases c6.mp he with rfl|he
   . exact ⟨ai,dH,fun z=>by rw [show a=p from z,hu] at ha;cases ha⟩
   . obtain ⟨x,y,z⟩:=h.m e he
     have:e.1≠a:=aH x ha
     rw [av this,cu this]
     exact ⟨x,y,z⟩
 . obtain ⟨x,y⟩:=h.k b w hb hp
   have:b≠a:=aH x ha
   rw [av this,cu this]
   exact ⟨x,y⟩
theorem ju.wr {p:Addr} {l:List (Addr×HO×pX)} {u:HO} (h:ju p H ρ H' ρ' l) (t:isTup u=false):ju p H ρ (upd H' p u) ρ' l:=by
 refine ⟨fun e he=>?_,fun b w hb hp=>?_,h.g.wr t,u,ai⟩
 . obtain ⟨x,y,z⟩:=h.m e he
   rw [av z];exact ⟨x,y,z⟩
 . obtain ⟨x,y⟩:=h.k b w hb hp
   rw [av hp];exact ⟨x,y⟩
theorem ju.same {p:Addr} {EF:Hp} {l:List (Addr×HO×pX)} (h:ju p H ρ H' ρ' l) (s:aF H' EF):ju p H ρ EF ρ' l:=by
 obtain ⟨u,hu⟩:=h.pp
 exact ⟨fun e he=>let ⟨x,y,z⟩:=h.m e he;⟨s _ _ x,y,z⟩,fun b w hb hp=>let ⟨x,y⟩:=h.k b w hb hp;⟨s _ _ x,y⟩,h.g.same s,u,s _ _ hu⟩
theorem ju.add {p:Addr} {H0:Hp} {ρ0:fJ} {l l0:List (Addr×HO×pX)} {c:pX} (h:ju p H ρ H' ρ' l) (ha:H' a=some o) (t:isTup o=false) (h0:ju p H ρ H0 ρ0 l0) (hn:H0 a=none) (hl:∀e∈l,e.1≠a):ju p H ρ H' (cE ρ' a c) ((a,o,c)::l):=by
 refine ⟨fun e he=>?_,fun b w hb hp=>?_,h.g.color ha t,h.pp⟩
 . rcases c6.mp he with rfl|he
   . obtain ⟨u,hu⟩:=h0.pp
     exact ⟨ha,dH,fun z=>by rw [show a=p from z,hu] at hn;cases hn⟩
   . obtain ⟨x,y,z⟩:=h.m e he
     rw [cu (hl e he)]
     exact ⟨x,y,z⟩
 . obtain ⟨x,y⟩:=h.k b w hb hp
   obtain ⟨x0,_⟩:=h0.k b w hb hp
   rw [cu (aH x0 hn)]
   exact ⟨x,y⟩
theorem Le:∀(l:List Int) (a:Int),l.foldl (·*·) a=a*l.foldl (·*·) 1
 | [],a=>by simp
 | s::l,a=>by
   rw [mH,Le l (a*s),mH,Le l (1*s),Int.one_mul,jS]
theorem GA (s:Int) (l:List Int):(s::l).foldl (·*·) 1=s*l.foldl (·*·) 1:=by rw [mH,Le,Int.one_mul]
theorem Zr (s:Int) (l:List Int):(l++[s]).foldl (·*·) 1=l.foldl (·*·) 1*s:=by rw [Kh];rfl
theorem Lf:∀{l:List Int},(∀s∈l,2<=s)->1<=l.foldl (·*·) 1
 | [],_=>by decide
 | s::l,h=>by
   rw [GA]
   have h1:=h s cM
   have h2:=Lf (l:=l) fun x hx=>h x (cG _ hx)
   have:=Int.mul_le_mul (a:=1) (b:=1) (c:=s) (d:=l.foldl (·*·) 1) (by omega) h2 (by decide) (by omega)
   omega
theorem X0:∀{l:List Int} {s:Int},(∀s∈l,2<=s)->s∈l->s<=l.foldl (·*·) 1
 | [],_,_,h=>by simp at h
 | a::l,s,h,m=>by
   rw [GA]
   have h1:=h a cM
   have h2:=Lf (l:=l) fun x hx=>h x (cG _ hx)
   rcases c6.mp m with rfl|m
   . have:=HG h2 (by omega:0<=s)
     omega
   . have h3:=X0 (fun x hx=>h x (cG _ hx)) m
     have:=Sm (by omega:1<=a) (by omega:0<=l.foldl (·*·) 1)
     omega
theorem T7 {t d s:Int} (hd:0<d) (hs:0<s) (c:Jm.cf t d=1):Jm.cf (t / Jm.cf t s) (d*(s / Jm.cf t s))=1/\0<d*(s / Jm.cf t s):=by
 have gp:0<Jm.cf t s:=Jm.Ej t s (.inr hs)
 obtain ⟨u,hu⟩:=Jm.rT t s
 obtain ⟨v,hv⟩:=Jm.pR t s
 generalize eg:Jm.cf t s=g at *
 have e1:t / g=u:=by rw [hu,FY _ (by omega)]
 have e2:s / g=v:=by rw [hv,FY _ (by omega)]
 have vp:0<v:=by
  rcases DX 0 v with z|z
  . exact z
  . have:=HG z (by omega:0<=g)
    omega
 rw [e1,e2]
 have c0:Nat.Coprime t.natAbs d.natAbs:=by unfold Jm.cf at c;exact_mod_cast c
 have c1:Nat.Coprime u.natAbs d.natAbs:=Nat.Coprime.coprime_dvd_left ⟨g.natAbs,by rw [hu,DT,Nat.mul_comm]⟩ c0
 have c2:Nat.Coprime u.natAbs v.natAbs:=by
  have hg:Int.gcd t s=g.natAbs:=by unfold Jm.cf at eg;omega
  have X3:Nat.gcd t.natAbs s.natAbs=g.natAbs:=hg
  have:=Nat.coprime_div_gcd_div_gcd (m:=t.natAbs) (n:=s.natAbs) (by rw [X3];omega)
  rw [X3] at this
  have gn:0<g.natAbs:=by omega
  rw [hu,hv,DT,DT,Nat.mul_div_cancel_left _ gn,Nat.mul_div_cancel_left _ gn] at this
  exact this
 refine ⟨?_,Int.mul_pos hd vp⟩
 have:=Nat.Coprime.mul_right c1 c2
 rw [<-DT] at this
 unfold Jm.cf
 exact_mod_cast this
theorem WE {κ:Type} [DecidableEq κ] {kvs:List (κ×V)} {k:κ} {v:V} (h:ee kvs k=some v):(k,v)∈kvs:=by
 unfold ee at h
 obtain ⟨p,hp,rfl⟩:=lR.mp h
 have:=List.find?_some hp
 have e:p.1=k:=eO this
 rw [<-e]
 exact List.mem_of_find?_eq_some hp
theorem aR.WG {A:HA} (h:aR T n ρ A H st) (k:∀b o,H b=some o->b≠A.kn->H' b=some o) (e1:H' A.kn=some (.dK kvs)) (e2:K4 H' kvs st.prod) (e3:kvs.length<=m) (e4:(kvs.map (·.1)).Nodup):aR T n ρ A H' { st with kn:=m }:=by
 obtain ⟨kv0,k0,_⟩:=h.okn
 have z:=fun {b:Addr} {t:Nat} {x:Str} {o:HO} (u:t≠9) (c:ρ b=some (n,t,x)) (e:H b=some o)=>k b o e (EB c h.jr (fun w=>by cases w;exact u rfl))
 have tp:∀b xs,H b=some (.tup xs)->H' b=some (.tup xs):=fun b xs e=>k b _ e (iX e k0 (by intro w;cases w))
 obtain ⟨vs,h1,h2⟩:=h.uP
 have kp:Kp n ρ ρ H H' fun t=>decide (t≠9):=⟨tp,fun b t x o u c e=>⟨z (eO u) c e,c⟩⟩
 exact ⟨z (by decide) h.ca h.oa,h.ca,z (by decide) h.i9 h.iR,h.i9,z (by decide) h.gC h.d9,h.gC,⟨vs,z (by decide) h.jP h1,h2.keep kp (by decide)⟩,h.jP,z (by decide) h.jm h.ua,h.jm,z (by decide) h.jn h.nv,h.jn,z (by decide) h.j8 h.jQ,h.j8,z (by decide) h.cpu h.pZ,h.cpu,z (by decide) h.jq h.sQ,h.jq,⟨kvs,e1,e2,e3,e4⟩,h.jr,h.ql,
  fun i p q a b=>let ⟨x,y,c,d⟩:=h.opt i p q a b;⟨z (by decide) c x,z (by decide) d y,c,d⟩⟩
theorem aev (w:Wf st) (h:m<=1000000):Wf { st with kn:=m }:=⟨w.yD,w.C3,w.j9,w.sub,w.rows,w.ow,w.g_,w.yE,w.iD,w.vZ,w.Am,w.qU,w.C4,w.wV,w.Gx,w.An,h,w.big,w.qV,w.xP,w.uQ,w.Ao,w.xQ,w.K6⟩
theorem pY.length {l:List qM} (h:pY n ρ H vs l):vs.length=l.length:=by
 induction h with
 | nil=>rfl
 | cons _ _ _ _ _ ih=>simp [ih]
theorem pY.get {l:List qM} (h:pY n ρ H vs l):∀{i:Nat} {x:V},vs[i]?=some x->∃r q y ss,x = .ref r/\l[i]?=some y/\H r=some (.tup [.str y.nm, .str y.ow, .int y.wo, .ref q])/\H q=some (.lst ss)/\ρ q=some (n,30,y.nm)/\ja H ss y.sh:=by
 induction h with
 | nil=>intro i x e;simp at e
 | @cons r q y ss vs as a b c d _ ih=>
   intro i x e
   cases i with
   | zero=>simp at e;subst e;exact ⟨r,q,y,ss,Z,Z,a,b,c,d⟩
   | succ i=>simp at e;obtain ⟨r',q',y',ss',e1,e2,e3⟩:=ih e;exact ⟨r',q',y',ss',e1,by simpa using e2,e3⟩
inductive kJ (a:Addr) (ρ:fJ) (H:Hp):List V->List qM->Prop
 | nil:kJ a ρ H [] []
 | cons {r l:Addr} {x:qM} {ss:List V} {vs:List V} {as:List qM}:H r=some (.tup [.str x.nm, .str x.ow, .int x.wo, .ref l])->H l=some (.lst ss)->ρ l=none->l≠a->ja H ss x.sh->kJ a ρ H vs as->kJ a ρ H (.ref r::vs) (x::as)
theorem kJ.to {l:List qM} (h:kJ a ρ H vs l):As ρ H vs l:=by
 induction h with
 | nil=>exact .nil
 | cons x y z _ w _ ih=>exact .cons x y z w ih
theorem kJ.mono {l:List qM} (h:kJ a ρ H vs l) (g:aF H H'):kJ a ρ H' vs l:=by
 induction h with
 | nil=>exact .nil
 | cons x y z n w _ ih=>exact .cons (g _ _ x) (g _ _ y) z n (w.mono g.tups) ih
theorem kJ.upd {l:List qM} (h:kJ a ρ H vs l) (ha:H a=some (.lst xs)):kJ a ρ (L2.upd H a (.lst ys)) vs l:=by
 induction h with
 | nil=>exact .nil
 | cons x y z n w _ ih=>exact .cons (kW (.inr ⟨_,ha,Z⟩) _ _ x) (by rw [av n];exact y) z n (w.mono (kW (.inr ⟨_,ha,Z⟩))) ih
theorem kJ.snoc {as:List qM} {l:Addr} {x:qM} {ss:List V} (h:kJ a ρ H vs as) (e1:H r=some (.tup [.str x.nm, .str x.ow, .int x.wo, .ref l])) (e2:H l=some (.lst ss)) (e3:ρ l=none) (e5:l≠a) (e4:ja H ss x.sh):kJ a ρ H (vs++[.ref r]) (as++[x]):=by
 induction h with
 | nil=>exact .cons e1 e2 e3 e5 e4 .nil
 | cons x y z n w _ ih=>exact .cons x y z n w ih
def Sq (K:Fg) (H:Hp) (r:Addr) (xs:List V):Prop:=aC K H r xs\/cS K H r xs
theorem aF.sq (g:aF H H') (h:Sq K H r xs):Sq K H' r xs:=h.elim (fun z=> .inl (g.seq z)) fun z=> .inr (g.tup z)
structure Au (K:Fg) (H:Hp) (us:List V) (ps:List Pt):Prop where
 len:us.length=ps.length
 at_:∀(i:Nat) (p:Pt),ps[i]?=some p->∃r xs,us[i]?=some (.ref r)/\Sq K H r xs/\xs[0]?=some (.str p.nm)/\xs[1]?=some (.str p.ow)/\xs[2]?=some (.int p.wo)/\xs[3]?=some (.int p.we)
theorem Au.mono {us:List V} {ps:List Pt} (h:Au K H us ps) (g:aF H H'):Au K H' us ps:=⟨h.len,fun i p e=>let ⟨r,xs,a,b,c⟩:=h.at_ i p e;⟨r,xs,a,g.sq b,c⟩⟩
def ab3 (ps:List Pt):Prop:=∀p∈ps,PyData.strOk p.nm=true/\PyData.strOk p.ow=true
inductive T8 (K:Fg) (vs:List V) (H:Hp) (Q:VK) (E:XK):Prop
 | mk (r l:Addr) (ws us:List V) (ps:List Pt) (_:vs=[.ref r, .ref l]) (_:H r=some (.lst ws)) (_:jW H ws ps) (_:aC K H l us) (_:Au K H us ps) (_:ab3 ps) (_:ps.length<=1000) (_:∀H',aF H H'->Q (.bl true) H')
def EG (K:Fg):Sp:=bx (T8 K)
def fK (own:List Str) (tops:List Int) (b:Int):List (Str×Rat):=(List.zip own tops).filterMap fun x=>if 0<x.2 then some (x.1,Jm.fr x.2 b) else none
inductive Rr (K:Fg) (vs:List V) (H:Hp) (Q:VK) (E:XK):Prop
 | mk (r lo lt:Addr) (ws:List V) (own:List Str) (tops:List Int) (b:Int) (_:vs=[.ref r, .ref lo, .ref lt, .int b]) (_:H r=some (.lst ws)) (_:ja H ws (fK own tops b)) (_:aC K H lo (own.map V.str)) (_:aC K H lt (tops.map V.int)) (_:own.length=tops.length) (_:own.length<=1000) (_:0<b) (_:Jm.Sz 9000 b) (_:∀H',aF H H'->Q (.bl true) H')
def wW (K:Fg):Sp:=bx (Rr K)
theorem jW.length {l:List Pt} (h:jW H vs l):vs.length=l.length:=by
 induction h with
 | nil=>rfl
 | cons _ _ ih=>simp [ih]
theorem jW.get {l:List Pt} (h:jW H vs l):∀{i:Nat} {p:Pt},l[i]?=some p->∃r,vs[i]?=some (.ref r)/\H r=some (BO p):=by
 induction h with
 | nil=>intro i p e;simp at e
 | @cons r q vs ps a _ ih=>
   intro i p e
   cases i with
   | zero=>simp at e;subst e;exact ⟨r,Z,a⟩
   | succ i=>simp at e;obtain ⟨r',e1,e2⟩:=ih e;exact ⟨r',by simpa using e1,e2⟩
theorem ja.length {l:List (Str×Rat)} (h:ja H vs l):vs.length=l.length:=by
 induction h with
 | nil=>rfl
 | cons _ _ _ ih=>simp [ih]
theorem ja.get {l:List (Str×Rat)} (h:ja H vs l):∀{i:Nat} {x:Str} {q:Rat},l[i]?=some (x,q)->∃r f,vs[i]?=some (.ref r)/\H r=some (.tup [.str x, .ref f])/\H f=some (pT q):=by
 induction h with
 | nil=>intro i x q e;simp at e
 | @cons r f x q vs l a b _ ih=>
   intro i y p e
   cases i with
   | zero=>simp at e;obtain ⟨rfl,rfl⟩:=e;exact ⟨r,f,Z,a,b⟩
   | succ i=>simp at e;obtain ⟨r',f',e1,e2⟩:=ih e;exact ⟨r',f',by simpa using e1,e2⟩
def BQ (p:Pt):PyData:= .tuple [.str p.nm, .str p.ow, .int p.wo, .int p.we]
theorem Pu (h:H r=some (BO p)):Dt K H (.ref r) (BQ p):= .tup (cS.of h) (.cons (.str _) (.cons (.str _) (.cons (.int _) (.cons (.int _) .nil))))
theorem Cv (h1:PyData.strOk p.nm=true) (h2:PyData.strOk p.ow=true):SeqAt.shaped (BQ p)=true:=by
 unfold BQ SeqAt.shaped
 refine kX.mpr ⟨?_,Z⟩
 simp [PyData.canLay0,PyData.canLayAll0,h1,h2]
theorem WH (p:Pt):PyData.eqv (BQ p) (BQ p)=true:=by
 unfold BQ
 simp [PyData.eqv,PyData.eqvAll]
def yI (x:Str):Prop:=pW x.cps.toList
theorem Rt:∀i:Fin 26,Er "abcdefghijklmnopqrstuvwxyz" (97+i.val)=true:=by decide +kernel
theorem yI.isNm (h:yI x):L2.isNm x=true:=by
 unfold L2.isNm isName
 have h1:=h.lo
 have h2:=h.hi
 refine kX.mpr ⟨kX.mpr ⟨cy (by omega),cy (by omega)⟩,pF.mpr fun c hc=>?_⟩
 have h3:=h.Pa c hc
 have:=Rt ⟨c-97,by omega⟩
 rw [show 97+(c-97)=c from by omega] at this
 exact this
theorem yI.strOk (h:yI x):PyData.strOk x=true:=by
 unfold PyData.strOk
 rw [Array.all_eq_true']
 intro c hc
 have:=h.Pa c (by simpa using hc)
 exact cy (by omega)
inductive ab4 (T:TC) (K:Fg) (vs:List V) (H:Hp) (Q:VK) (E:XK):Prop
 | mk (l:Addr) (own:List Str) (n:Nat) (ρ:fJ) (_:vs=[.ref l]) (_:aC K H l (own.map V.str)) (_:ρ l=none) (_:own.Nodup) (_:(∀o∈own,isNm o=true)) (_:own.length<=100) (_:Gh ρ H) (_:∀ρ' A H',HH T n ρ' A H' (own.foldl gI hs0)->Fr n ρ H ρ' H'->Q (.ref A.a) H')
def Pw (T:TC) (K:Fg):Sp:=bx (ab4 T K)
theorem Av:∀(l:List Str) (st:HS),(l.foldl gI st).own=st.own++l
 | [],st=>by simp
 | o::l,st=>by
   rw [mH,Av l]
   show (st.own++[o])++l=_
   rw [Kg]
   rfl
theorem o8 (K:Fg) (hK:X.K=K:=by rfl):zz X (rIx K):=hK▸aa8
theorem Sq.ix {v:V} {Q:VK} (h:Sq K H r xs) (e:xs[i]?=some v) (q:Q v H):rIx K (.ref r) (.int (i:Int)) H Q:=by
 rcases h with h|h
 . exact .inl ⟨r,xs,i,v,Z,Z,h,aT e,q⟩
 . exact .inr (.inl ⟨r,xs,i,v,Z,Z,h,aT e,q⟩)
theorem IT {own:List Str} {tops:List Int} {b:Int} (hb:0<b) (hz:Jm.Sz m b) (h:(x,q)∈fK own tops b):Jm.Sz m (q.den:Int):=by
 unfold fK at h
 obtain ⟨y,_,e⟩:=Gd.mp h
 by_cases c:0<y.2
 . rw [aA c] at e
   cases e
   refine hz.of_le ?_
   have:=Jm.Th y.2 b hb
   omega
 . rw [az c] at e;cases e
theorem Fr.at (f:Fr n ρ H ρ' H') {b:Addr} (e:H b=some o) (c:ρ b=none):H' b=some o/\ρ' b=none:=by
 obtain ⟨a,d⟩:=f b o e (fun t x=>by rw [c];intro z;cases z)
 exact ⟨a,d.trans c⟩
theorem Fr.seq (f:Fr n ρ H ρ' H') {l:Addr} (h:aC K H l xs) (c:ρ l=none):aC K H' l xs:=by
 rcases h with (h|⟨o,h⟩)|h
 . exact .inl (.inl (f.at h c).1)
 . exact .inl (.inr ⟨o,(f.at h c).1⟩)
 . exact .inr h
theorem Fr.tup {n:Nat} {ρ ρ':fJ} {H H':Hp} (f:Fr n ρ H ρ' H') (g:Gh ρ H):∀b xs,H b=some (.tup xs)->H' b=some (.tup xs):=fun b xs e=>(f.at e (g.tup e)).1
def EH (nss:List (List Nat)):List Str:=nss.map tx
theorem Zs (nss:List (List Nat)):sP nss=(EH nss).map V.str:=by unfold sP EH;rw [fH];rfl
theorem Ii (h:nss.Nodup):(EH nss).Nodup:=by
 unfold EH
 exact List.Pairwise.map tx (fun a b hab e=>hab (Tz e)) h
theorem T9 (h:∀x∈nss,pW x):∀o∈EH nss,yI o:=fun o ho=>by
 obtain ⟨x,hx,rfl⟩:=bQ.mp ho
 show pW (tx x).cps.toList
 rw [show (tx x).cps.toList=x from by simp]
 exact h x hx
theorem Px (nss:List (List Nat)):(EH nss).length=nss.length:=by unfold EH;rw [aE]
theorem Lg (x:Str) (l:List Str):Ed (.str x) (l.map V.str)=decide (x∈l):=by
 have:=Pb x.cps.toList (l.map fun y=>y.cps.toList)
 rw [xM] at this
 rw [show sP (l.map fun y=>y.cps.toList)=l.map V.str from by unfold sP;rw [fH];congr 1;] at this
 rw [this]
 congr 1
 refine propext ⟨fun m=>?_,fun m=>bQ.mpr ⟨x,m,Z⟩⟩
 obtain ⟨y,hy,e⟩:=bQ.mp m
 have:tx y.cps.toList=tx x.cps.toList:=by rw [e]
 rw [xM,xM] at this
 rw [<-this];exact hy
theorem Ij (l:List Str):(l.map V.str).all rR=true:=by
 rw [List.all_map]
 exact pF.mpr fun _ _=>rfl
theorem Lh {l:List Str} {d:Int} (h0:0<=d) (h1:d<(l.length:Int)):∃(j:Nat) (o:Str),d=(j:Int)/\l[j]?=some o/\oU (l.map V.str) d=some (.str o):=by
 obtain ⟨j,rfl⟩:∃j:Nat,d=(j:Int):=⟨d.toNat,by omega⟩
 have hj:j<l.length:=by omega
 exact ⟨j,l[j],Z,aW hj,aT (by rw [bF,aW hj];rfl)⟩
section
variable {T:TC} {n:Nat} {L H:Hp} {x lp:Addr} {st:HS} {ps:List Pt}
end
theorem j_ {α:Type} {l:List α} (nd:l.Nodup) {x:α} (h:l[i]?=some x):x∉l.take i:=fun m=>by
 have h2:(l.take (i+1)).Nodup:=nd.sublist (List.take_sublist _ _)
 rw [take_snoc h] at h2
 exact (List.nodup_append.mp h2).2.2 x m x (fU.mpr rfl) rfl
abbrev Row:=Str×Int
def Aw (r:Row):HO:= .tup [.str r.1, .int r.2]
inductive gi (H:Hp):List V->List Row->Prop
 | nil:gi H [] []
 | cons {a:Addr} {r:Row} {vs:List V} {rs:List Row}:H a=some (Aw r)->gi H vs rs->gi H (.ref a::vs) (r::rs)
theorem gi.mono {l:List Row} (h:gi H vs l) (g:∀b xs,H b=some (.tup xs)->H' b=some (.tup xs)):gi H' vs l:=by
 induction h with
 | nil=>exact .nil
 | cons a _ ih=>exact .cons (g _ _ a) ih
theorem gi.length {l:List Row} (h:gi H vs l):vs.length=l.length:=by
 induction h with
 | nil=>rfl
 | cons _ _ ih=>simp [ih]
theorem gi.get {l:List Row} (h:gi H vs l):∀{i:Nat} {x:V},vs[i]?=some x->∃a r,x = .ref a/\l[i]?=some r/\H a=some (Aw r):=by
 induction h with
 | nil=>intro i x e;simp at e
 | @cons a r vs rs e0 _ ih=>
   intro i x e
   cases i with
   | zero=>simp at e;subst e;exact ⟨a,r,Z,Z,e0⟩
   | succ i=>simp at e;obtain ⟨a',r',e1,e2,e3⟩:=ih e;exact ⟨a',r',e1,by simpa using e2,e3⟩
theorem gi.snoc {l:List Row} {r:Row} (h:gi H vs l) (e:H a=some (Aw r)):gi H (vs++[.ref a]) (l++[r]):=by
 induction h with
 | nil=>exact .cons e .nil
 | cons a _ ih=>exact .cons a ih
def h_ (rs:List Row):List (Key×V):=rs.map fun r=>((Sum.inr r.1:Key),V.int r.2)
theorem yJ (rs:List Row):(h_ rs).length=rs.length:=by unfold h_;rw [aE]
variable {rs:List Row}
theorem Ik (h:x∉rs.map (·.1)):ee (h_ rs) (Sum.inr x)=none:=by
 unfold h_
 induction rs with
 | nil=>rfl
 | cons a l ih=>
   rw [bH,eY (fun z=>h (by rw [bH,<-uf z];exact cM))]
   exact ih fun m=>h (by rw [bH];exact cG _ m)
def bu (rs:List Row):Int:=(rs.map (·.2)).sum
def c9 (st:HS) (x:Str):Pt:=(st.ah.find? fun p=>decide (p.nm=x)).getD ⟨x,x,0,0,1,[]⟩
theorem Py (nd:(st.ah.map (·.nm)).Nodup) (h:st.ah[i]?=some p):c9 st p.nm=p:=by
 unfold c9
 have:st.ah.find? (fun q=>decide (q.nm=p.nm))=some p:=by
  generalize st.ah=ps at *
  induction ps generalizing i with
  | nil=>simp at h
  | cons a ps ih=>
    obtain ⟨h1,h2⟩:=gR.mp (show (a.nm::ps.map (·.nm)).Nodup from nd)
    cases i with
    | zero=>
      have:a=p:=by simpa using h
      subst this
      rw [pH,cy rfl]
    | succ i=>
      have h':ps[i]?=some p:=by simpa using h
      rw [pH,d8 (fun e=>h1 (bQ.mpr ⟨p,bJ h',e.symm⟩))]
      exact ih h2 h'
 rw [this]
 rfl
def jL (st:HS) (sums:List Int) (r:Row):List Int:=List.zipWith (fun old own=>old+(r.2*(c9 st r.1).sc)*own) sums (c9 st r.1).row
def fX (st:HS) (rs:List Row):List Int:=rs.foldl (jL st) (st.bM.map fun c=>bu rs*c)
def qa (s:Int) (ts:List Int):Int:=ts.foldl (fun s t=>Jm.cf t s) s
def iH (st:HS) (kept:Int):List Int:=st.ah.map fun p=>p.sc*kept
def fV (st:HS) (kept:Int) (added:List Int):List Int:=List.zipWith (fun t m=>t*kept+m) st.bM added
def c5 (st:HS) (kept whole:Int) (added:List Int):Int:=qa whole (iH st kept++fV st kept added)
def fR (st:HS) (s:Int):HS:=if 1<s then { st with stp:=st.stp++[s],prod:=st.prod*s,kn:=0 } else st
def cU (st:HS) (kept whole:Int) (added:List Int):HS:=
 fR { st with ah:=st.ah.map (fun p=>{ p with sc:=p.sc*kept / c5 st kept whole added }),bM:=(fV st kept added).map (· / c5 st kept whole added),c_:=st.c_.map (·*(whole / c5 st kept whole added)) } (whole / c5 st kept whole added)
def nO (ps:List Pt) (x:Str) (a:Int):List Pt:=(ps.map fun p=>if p.nm=x then { p with wo:=p.wo-a } else p).filter fun p=>decide (p.wo≠0)
def gc (st:HS) (r:Row):HS:={ st with ah:=nO st.ah r.1 r.2 }
def kK (st:HS) (rs:List Row):HS:=rs.foldl gc (cU st (bK st-bu rs) (bK st) (fX st rs))
inductive ahL (vs:List V) (H:Hp) (Q:VK) (E:XK):Prop
 | mk (a:Int) (_:vs=[.int a]) (_:1<=a) (_:Q .b_ H)
def X4:Sp:=bx (ahL)
inductive ahM (vs:List V) (H:Hp) (Q:VK) (E:XK):Prop
 | mk (m a:Int) (_:vs=[.int m, .int a]) (_:1<=a) (_:a<=m) (_:Q .b_ H)
def X5:Sp:=bx (ahM)
inductive aew (K:Fg) (vs:List V) (H:Hp) (Q:VK) (E:XK):Prop
 | mk (l:Addr) (us:List V) (rs:List Row) (_:vs=[.ref l]) (_:aC K H l us) (_:gi H us rs) (_:(rs.map (·.1)).Nodup) (_:rs≠[]) (_:rs.length<=1000) (_:∀d H',aF H H'->H d=none->H' d=some (.dK (h_ rs))->Q (.ref d) H')
def T_ (K:Fg):Sp:=bx (aew K)
inductive aex (K:Fg) (vs:List V) (H:Hp) (Q:VK) (E:XK):Prop
 | mk (s:Int) (l:Addr) (ts:List Int) (_:vs=[.int s, .ref l]) (_:aC K H l (ts.map V.int)) (_:0<=s) (_:(∀t∈ts,0<=t)) (_:Q (.int (qa s ts)) H)
def Ua (K:Fg):Sp:=bx (aex K)
inductive aey (T:TC) (vs:List V) (H:Hp) (Q:VK) (E:XK):Prop
 | mk (n ρ A st s:_) (_:vs=[.ref A.bt, .int s]) (_:Gh ρ H) (_:aR T n ρ A H st) (_:st.stp.length<=1000) (_:Jm.Sz 9000 st.prod) (_:Jm.Sz 9000 s) (_:∀ρ' A' H',Gh ρ' H'->aR T n ρ' A' H' (fR st s:_)->A'.a=A.a->Fr n ρ H ρ' H'->Q .b_ H')
def Ub (T:TC):Sp:=bx (aey T)
inductive ab5 (T:TC) (vs:List V) (H:Hp) (Q:VK) (E:XK):Prop
 | mk (n ρ A st:_) (d:Addr) (rs:List Row) (_:vs=[.ref A.a, .ref d]) (_:aR T n ρ A H st) (_:Wf st) (_:H d=some (.dK (h_ rs))) (_:ρ d=none) (_:rs.length<=1000) (_:(∀r∈rs,Jm.Sz 60 r.2/\∃p∈st.ah,p.nm=r.1)) (_:∀l H',aF H H'->H l=none->H' l=some (.lst ((fX st rs).map V.int))->Q (.ref l) H')
def Pz (T:TC):Sp:=bx (ab5 T)
inductive ab6 (T:TC) (K:Fg) (vs:List V) (H:Hp) (Q:VK) (E:XK):Prop
 | mk (n ρ A st:_) (kept whole:Int) (l:Addr) (added:List Int) (_:vs=[.ref A.a, .int kept, .int whole, .ref l]) (_:HH T n ρ A H st) (_:aC K H l (added.map V.int)) (_:added.length=st.bM.length) (_:0<kept) (_:0<whole) (_:Jm.Sz 60 kept) (_:Jm.Sz 60 whole) (_:(∀m∈added,0<=m/\Jm.Sz 8900 m)) (_:(∀u∈st.c_,Jm.Sz 8900 u)) (_:st.stp.length<100) (_:Wf (cU st kept whole added)) (_:BL T n ρ A H (cU st kept whole added:_) fun H'=>Q .b_ H')
def PD (T:TC) (K:Fg):Sp:=bx (ab6 T K)
inductive aez (T:TC) (vs:List V) (H:Hp) (Q:VK) (E:XK):Prop
 | mk (n ρ A st:_) (r:Row) (_:vs=[.ref A.a, .str r.1, .int r.2]) (_:HH T n ρ A H st) (_:(∃p∈st.ah,p.nm=r.1/\r.2<=p.wo)) (_:Wf (gc st r)) (_:BL T n ρ A H (gc st r:_) fun H'=>Q .b_ H')
def Uc (T:TC):Sp:=bx (aez T)
structure qb (st:HS) (rs:List Row):Prop where
 nd:(rs.map (·.1)).Nodup
 ne:rs≠[]
 len:rs.length<=1000
 row:∀r∈rs,1<=r.2/\Jm.Sz 60 r.2/\∃p∈st.ah,p.nm=r.1/\r.2<=p.wo
 lost:bu rs<bK st
 big:Jm.Sz 60 (bK st)
 prod:Jm.Sz 7900 st.prod
 c_:∀u∈st.c_,Jm.Sz 8900 u
 stp:st.stp.length<100
inductive aeA (T:TC) (K:Fg) (vs:List V) (H:Hp) (Q:VK) (E:XK):Prop
 | mk (n ρ A st:_) (l:Addr) (us:List V) (rs:List Row) (_:vs=[.ref A.a, .ref l]) (_:HH T n ρ A H st) (_:aC K H l us) (_:gi H us rs) (_:qb st rs) (_:BL T n ρ A H (kK st rs:_) fun H'=>Q .b_ H')
def Ud (T:TC) (K:Fg):Sp:=bx (aeA T K)
theorem Li:∀{ps:List Pt} {qs:List (Addr×Addr×Addr)} {i:Nat} {p:Pt},(ps.map (·.nm)).Nodup->qs.length=ps.length->ps[i]?=some p->nM (cO ps qs) (Sum.inr p.nm)=cO (ps.eraseIdx i) (qs.eraseIdx i)
 | [],_,_,_,_,_,h=>by simp at h
 | _::_,[],_,_,_,hl,_=>by simp at hl
 | a::ps,b::qs,0,p,nd,hl,h=>by
   have e:a=p:=by simpa using h
   subst e
   obtain ⟨h1,h2⟩:=gR.mp (show (a.nm::ps.map (·.nm)).Nodup from nd)
   show nM ((Sum.inr a.nm,V.ref b.1)::cO ps qs) (Sum.inr a.nm)=cO ps qs
   unfold nM
   rw [iC,az (by simp)]
   refine QE.mpr fun kv hkv=>?_
   unfold cO at hkv
   obtain ⟨x,hx,y,hy,rfl⟩:=uT hkv
   exact cy fun z=>h1 (bQ.mpr ⟨x,hx,uf z⟩)
 | a::ps,b::qs,i+1,p,nd,hl,h=>by
   obtain ⟨h1,h2⟩:=gR.mp (show (a.nm::ps.map (·.nm)).Nodup from nd)
   have h':ps[i]?=some p:=by simpa using h
   have ih:=Li h2 (by simpa using hl) h'
   show nM ((Sum.inr a.nm,V.ref b.1)::cO ps qs) (Sum.inr p.nm)=(Sum.inr a.nm,V.ref b.1)::cO (ps.eraseIdx i) (qs.eraseIdx i)
   rw [<-ih]
   unfold nM
   have hne:¬ (Sum.inr a.nm:Key)=Sum.inr p.nm:=fun z=>h1 (bQ.mpr ⟨p,bJ h',(uf z).symm⟩)
   rw [iC,aA (by simpa using fun e:a.nm=p.nm=>hne (by rw [e]))]
theorem Lj:∀{ps:List Pt} {i:Nat} {p:Pt} {a:Int},(ps.map (·.nm)).Nodup->(∀q∈ps,q.wo≠0)->ps[i]?=some p->nO ps p.nm a=if p.wo-a=0 then ps.eraseIdx i else ps.set i { p with wo:=p.wo-a }
 | [],_,_,_,_,_,h=>by simp at h
 | x::ps,0,p,a,nd,hw,h=>by
   have e:x=p:=by simpa using h
   subst e
   obtain ⟨h1,h2⟩:=gR.mp (show (x.nm::ps.map (·.nm)).Nodup from nd)
   have rest:nO ps x.nm a=ps:=by
    unfold nO
    rw [show (ps.map fun p=>if p.nm=x.nm then { p with wo:=p.wo-a } else p)=ps from by
     conv=>rhs;rw [<-List.map_id ps]
     exact zY fun y hy=>az fun z=>h1 (bQ.mpr ⟨y,hy,z⟩)]
    exact QE.mpr fun y hy=>cy (hw y (cG _ hy))
   show ((x::ps).map fun p=>if p.nm=x.nm then { p with wo:=p.wo-a } else p).filter _=_
   rw [bH,aA rfl,iC]
   by_cases c:x.wo-a=0
   . rw [aA c,az (by simp [c])]
     exact rest
   . rw [az c,aA (by simpa using c)]
     show _::nO ps x.nm a=_
     rw [rest]
     rfl
 | x::ps,i+1,p,a,nd,hw,h=>by
   obtain ⟨h1,h2⟩:=gR.mp (show (x.nm::ps.map (·.nm)).Nodup from nd)
   have h':ps[i]?=some p:=by simpa using h
   have ih:=Lj (a:=a) h2 (fun q hq=>hw q (cG _ hq)) h'
   have xn:¬ x.nm=p.nm:=fun z=>h1 (bQ.mpr ⟨p,bJ h',z.symm⟩)
   show ((x::ps).map fun q=>if q.nm=p.nm then { q with wo:=q.wo-a } else q).filter _=_
   rw [bH,az xn,iC,aA (cy (hw x cM))]
   show x::nO ps p.nm a=_
   rw [ih]
   by_cases c:p.wo-a=0
   . rw [aA c,aA c];rfl
   . rw [az c,az c];rfl
theorem lW {α:Type}:∀{l:List α} {i:Nat} {x:α},l[i]?=some x->l.set i x=l
 | [],_,_,h=>by simp at h
 | a::l,0,x,h=>by
   have:a=x:=by simpa using h
   rw [this];rfl
 | a::l,i+1,x,h=>by rw [Ke,lW (by simpa using h)]
theorem Lk {α β:Type} {l:List α} {m:List β} {x:α} {y:β} (h1:(l.eraseIdx i)[j]?=some x) (h2:(m.eraseIdx i)[j]?=some y):∃k:Nat,l[k]?=some x/\m[k]?=some y:=by
 rw [List.getElem?_eraseIdx] at h1 h2
 by_cases c:j<i
 . rw [aA c] at h1 h2;exact ⟨j,h1,h2⟩
 . rw [az c] at h1 h2;exact ⟨j+1,h1,h2⟩
theorem Ax:∀(ts:List Int) (s:Int),qa s ts∣s/\∀t∈ts,qa s ts∣t
 | [],s=>⟨Int.dvd_refl _,fun _ h=>absurd h (by simp)⟩
 | t::ts,s=>by
   obtain ⟨h1,h2⟩:=Ax ts (Jm.cf t s)
   refine ⟨Int.dvd_trans h1 (Jm.pR t s),fun u hu=>?_⟩
   rcases c6.mp hu with rfl|hu
   . exact Int.dvd_trans h1 (Jm.rT u s)
   . exact h2 u hu
theorem Ay:∀(ts:List Int) (s:Int),0<s->0<qa s ts
 | [],_,h=>h
 | t::ts,s,h=>Ay ts _ (Jm.Ej t s (.inr h))
theorem Il {A:HA} (h:aR T n ρ A H st) (g:Gh ρ H) (c:ρ a=none) (e:H a=some o) (ht:isTup o=false):
  aR T n (cE ρ a (n,t,⟨#[]⟩)) A H st/\Gh (cE ρ a (n,t,⟨#[]⟩)) H:=
 ⟨h.same ⟨fun _ _ e=>e,fun b u x w _ hc he=>⟨he,by rw [cu (fun z=>by rw [z,c] at hc;cases hc)];exact hc⟩⟩,g.color e ht⟩
theorem Fr.uU (f:Fr n ρ H ρ' H') (h:H a=none):Fr n ρ H (cE ρ' a (n,t,x)) H':=fun b o e k=>by
 obtain ⟨e1,e2⟩:=f b o e k
 exact ⟨e1,by rw [cu (aH e h)];exact e2⟩
theorem Im {d a b:Int} (hd:0<d) (h:a<=d*b):a / d<=b:=by
 have:=Int.ediv_le_ediv hd h
 rwa [FY _ (by omega)] at this
theorem EI {s:Int} (h:1<=s):(fR st s).prod=st.prod*s:=by
 unfold fR
 by_cases c:1<s
 . rw [aA c]
 . rw [az c,show s=1 by omega,Int.mul_one]
theorem Az (st:HS) (s:Int):(fR st s).ah=st.ah:=by unfold fR;split <;> rfl
theorem Ue (st:HS) (s:Int):(fR st s).bM=st.bM:=by unfold fR;split <;> rfl
theorem Ug (st:HS) (s:Int):(fR st s).c_=st.c_:=by unfold fR;split <;> rfl
theorem Uh (st:HS) (s:Int):(fR st s).own=st.own:=by unfold fR;split <;> rfl
theorem Ui (st:HS) (s:Int):(fR st s).nms=st.nms:=by unfold fR;split <;> rfl
theorem Uj (st:HS) (s:Int):(fR st s).ku=st.ku:=by unfold fR;split <;> rfl
theorem jv {α β γ:Type} {f:α->β->γ} {t:γ}:∀{xs:List α} {ys:List β},t∈List.zipWith f xs ys->∃(i:Nat) (x:α) (y:β),xs[i]?=some x/\ys[i]?=some y/\t=f x y:=fun {xs ys} h=>by
 obtain ⟨i,hi,e⟩:=pD h
 rw [nZ] at hi
 have h1:i<xs.length:=by omega
 have h2:i<ys.length:=by omega
 exact ⟨i,xs[i],ys[i],aW h1,aW h2,by rw [<-e,List.getElem_zipWith]⟩
theorem PF {α β γ:Type} {f:α->β->γ} {xs:List α} {ys:List β} {x:α} {y:β} (h1:xs[i]?=some x) (h2:ys[i]?=some y):(List.zipWith f xs ys)[i]?=some (f x y):=by
 rw [QB,h1,h2]
theorem C8 {a b c:Int} (h:a<=b) (hc:0<=c):a*c<=b*c:=Sm h hc
structure uw (st:HS) (kept whole lost:Int) (added:List Int):Prop where
 k:0<kept
 l:0<=lost
 w:whole=kept+lost
 len:added.length=st.bM.length
 add:∀m∈added,0<=m/\m<=lost*st.prod
 prod:Jm.Sz 7900 st.prod
 big:Jm.Sz 60 whole
 c_:∀u∈st.c_,Jm.Sz 8900 u
 stp:st.stp.length<100
variable {lost:Int} {added:List Int}
theorem uw.dvds {kept whole:Int} (b:uw st kept whole lost added):
  0<c5 st kept whole added/\c5 st kept whole added∣whole/\(∀p∈st.ah,c5 st kept whole added∣p.sc*kept)/\∀c∈fV st kept added,c5 st kept whole added∣c:=by
 have hw:0<whole:=by have:=b.k;have:=b.l;have:=b.w;omega
 have d:=Ax (iH st kept++fV st kept added) whole
 exact ⟨Ay _ _ hw,d.1,fun p hp=>d.2 _ (F0 _ (bQ.mpr ⟨p,hp,Z⟩)),fun c hc=>d.2 _ (jK _ hc)⟩
theorem WI {kept whole:Int} (wf:Wf st) (b:uw st kept whole lost added):Wf (cU st kept whole added):=by
 obtain ⟨hs,hsw,pQ,hsc⟩:=b.dvds
 have hk:=b.k
 have hl:=b.l
 have hw:=b.w
 have p1:=wf.iD
 have eB:cU st kept whole added=fR { st with ah:=st.ah.map (fun p=>{ p with sc:=p.sc*kept / c5 st kept whole added }),bM:=(fV st kept added).map (· / c5 st kept whole added),c_:=st.c_.map (·*(whole / c5 st kept whole added)) } (whole / c5 st kept whole added):=rfl
 rw [eB]
 generalize c5 st kept whole added=d at *
 obtain ⟨s,es⟩:=hsw
 have hs1:1<=s:=by
  rcases Int.lt_trichotomy s 0 with z|z|z
  . have:=Int.mul_neg_of_pos_of_neg hs z;omega
  . rw [z,Int.mul_zero] at es;omega
  . omega
 have ed:whole / d=s:=by rw [es,FY _ (by omega)]
 rw [ed]
 have ak1:s<=whole:=by rw [es];have:=Sm (show 1<=d by omega) (show 0<=s by omega);omega
 have zs:Jm.Sz 60 s:=b.big.of_le (by omega)
 have zp:Jm.Sz 8000 (st.prod*s):=(b.prod.mul zs).mono (by decide)
 have pp:st.prod<=st.prod*s:=by have:=HG hs1 (show 0<=st.prod by omega);omega
 have WJ:∀c∈(fV st kept added).map (· / d),0<=c/\c<=st.prod*s:=fun c hc=>by
  obtain ⟨x,hx,rfl⟩:=bQ.mp hc
  obtain ⟨i,t,m,et,em,rfl⟩:=jv (show x∈List.zipWith (fun t m=>t*kept+m) st.bM added from hx)
  have ht:=wf.qV t (bJ et)
  have hm:=b.add m (bJ em)
  have a1:0<=t*kept:=nK ht.1 (by omega)
  have a2:t*kept<=st.prod*kept:=C8 ht.2 (by omega)
  have a3:st.prod*kept+lost*st.prod=d*(st.prod*s):=by
   rw [pI lost,<-pJ,<-hw,es,<-jS,<-jS,pI st.prod d]
  exact ⟨Int.ediv_nonneg (by omega) (by omega),Im hs (by omega)⟩
 have sc':∀p∈st.ah,1<=p.sc*kept / d/\p.sc*kept / d<=st.prod*s/\d*(p.sc*kept / d)=p.sc*kept:=fun p hp=>by
  have h0:=wf.xP p hp
  obtain ⟨z,ez⟩:=pQ p hp
  have a1:0<p.sc*kept:=Int.mul_pos (by omega) hk
  have ez':p.sc*kept / d=z:=by rw [ez,FY _ (by omega)]
  have hz:1<=z:=by
   rcases Int.lt_trichotomy z 0 with y|y|y
   . have:=Int.mul_neg_of_pos_of_neg hs y;omega
   . rw [y,Int.mul_zero] at ez;omega
   . omega
  have a2:p.sc*kept<=st.prod*kept:=C8 h0.2 (by omega)
  have a3:st.prod*kept<=st.prod*whole:=HG (by omega) (by omega)
  have a4:st.prod*whole=d*(st.prod*s):=by rw [es,<-jS,<-jS,pI st.prod d]
  refine ⟨by rw [ez'];exact hz,Im hs (by omega),by rw [ez',ez]⟩
 have P:∀{M:Pt->Prop},(∀p∈st.ah,M { p with sc:=p.sc*kept / d })->∀p∈st.ah.map (fun p=>{ p with sc:=p.sc*kept / d }),M p:=fun h p hp=>by
  obtain ⟨x,hx,rfl⟩:=bQ.mp hp
  exact h x hx
 have top':∀p∈st.ah,∀t∈List.zipWith (fun r c=>(p.sc*kept / d)*r+c) p.row ((fV st kept added).map (· / d)),0<=t/\t<=st.prod*s:=fun p hp t ht=>by
  obtain ⟨i,r,c,er,ec,rfl⟩:=jv ht
  rw [bF] at ec
  obtain ⟨x,ex,rfl⟩:=lR.mp ec
  obtain ⟨y,ey⟩:=hsc x (bJ ex)
  have eyd:x / d=y:=by rw [ey,FY _ (by omega)]
  have ex':(List.zipWith (fun t m=>t*kept+m) st.bM added)[i]?=some x:=ex
  rw [QB] at ex'
  cases e1:st.bM[i]? with
  | none=>rw [e1] at ex';simp at ex'
  | some t0=>
    cases e2:added[i]? with
    | none=>rw [e1,e2] at ex';simp at ex'
    | some m=>
      rw [e1,e2] at ex'
      have ex2:t0*kept+m=x:=by simpa using ex'
      have hm:=b.add m (bJ e2)
      have hT:=wf.Ao p hp (p.sc*r+t0) (bJ (PF (f:=fun r c=>p.sc*r+c) er e1))
      have hz:=(sc' p hp).2.2
      have key:d*((p.sc*kept / d)*r+x / d)=(p.sc*r+t0)*kept+m:=by
       rw [pJ,<-jS,hz,eyd,<-ey,<-ex2]
       rw [rP,jS,jS,pI kept r]
       omega
      have k1:0<=(p.sc*r+t0)*kept:=nK hT.1 (by omega)
      have k2:(p.sc*r+t0)*kept<=st.prod*kept:=C8 hT.2 (by omega)
      have a3:st.prod*kept+lost*st.prod=d*(st.prod*s):=by
       rw [pI lost,<-pJ,<-hw,es,<-jS,<-jS,pI st.prod d]
      generalize (p.sc*kept / d)*r+x / d=W at *
      constructor
      . rcases DX W 0 with z|z
        . have:=Int.mul_neg_of_pos_of_neg hs z;omega
        . exact z
      . have:d*W<=d*(st.prod*s):=by omega
        exact Int.le_of_mul_le_mul_left this hs
 have nm':(st.ah.map (fun p:Pt=>{ p with sc:=p.sc*kept / d })).map (fun p:Pt=>p.nm)=st.ah.map (fun p:Pt=>p.nm):=by rw [fH];rfl
 have e0:(fV st kept added).length=st.bM.length:=by unfold fV;rw [nZ,b.len];omega
 have pu':∀u∈st.c_.map (·*s),Jm.Sz 9000 u:=fun u hu=>by
  obtain ⟨x,hx,rfl⟩:=bQ.mp hu
  exact ((b.c_ x hx).mul zs).mono (by decide)
 have ab7:∀p∈st.ah,∀r∈p.row,-(st.prod*s)<=r/\r<=st.prod*s:=fun p hp r hr=>by have:=wf.uQ p hp r hr;omega
 unfold fR
 by_cases c:1<s
 . rw [aA c]
   refine ⟨wf.yD,wf.C3,by rw [nm'];exact wf.j9,P wf.sub,P wf.rows,P wf.ow,?_,?_,by show 1<=st.prod*s;omega,?_,fun x hx=>?_,wf.qU,wf.C4,?_,?_,wf.An,f_ _,zp,WJ,P fun p hp=>⟨(sc' p hp).1,(sc' p hp).2.1⟩,P ab7,P top',P wf.xQ,pu'⟩
   . show (List.map _ (fV st kept added)).length=_
     rw [aE,e0,wf.g_]
   . show (List.map _ st.c_).length=_
     rw [aE,wf.yE]
   . show st.prod*s=(st.stp++[s]).foldl (·*·) 1
     rw [Zr,<-wf.vZ]
   . rcases fZ.mp (show x∈st.stp++[s] from hx) with z|z
     . exact wf.Am x z
     . rw [fU.mp z];omega
   . show (List.map _ st.ah).length<=1000
     rw [aE];exact wf.wV
   . show (st.stp++[s]).length<=100
     rw [dh];exact b.stp
 . rw [az c]
   have e1:s=1:=by omega
   subst e1
   rw [Int.mul_one] at WJ sc' ab7 top'
   refine ⟨wf.yD,wf.C3,by rw [nm'];exact wf.j9,P wf.sub,P wf.rows,P wf.ow,?_,?_,wf.iD,wf.vZ,wf.Am,wf.qU,wf.C4,?_,wf.Gx,wf.An,wf.TY,wf.big,WJ,P fun p hp=>⟨(sc' p hp).1,(sc' p hp).2.1⟩,P wf.uQ,P fun p hp t ht=>?_,P wf.xQ,pu'⟩
   . show (List.map _ (fV st kept added)).length=_
     rw [aE,e0,wf.g_]
   . show (List.map _ st.c_).length=_
     rw [aE,wf.yE]
   . show (List.map _ st.ah).length<=1000
     rw [aE];exact wf.wV
   . exact top' p hp t ht
def yK (st:HS) (acc:List Int) (rs:List Row):List Int:=rs.foldl (fun s r=>List.zipWith (fun x t=>x+r.2*t) s (bh st (c9 st r.1))) acc
theorem Io:∀(acc bM row:List Int) (a sc L:Int),List.zipWith (fun old own=>old+(a*sc)*own) (List.zipWith (fun s c=>s+(a+L)*c) acc bM) row=List.zipWith (fun s c=>s+L*c) (List.zipWith (fun x t=>x+a*t) acc (List.zipWith (fun r c=>sc*r+c) row bM)) bM
 | [],_,_,_,_,_=>by simp
 | _::_,[],_,_,_,_=>by simp
 | _::_,_::_,[],_,_,_=>by simp
 | x::acc,c::bM,r::row,a,sc,L=>by
   simp only [wK]
   rw [Io acc bM row a sc L]
   congr 1
   grind
theorem Ll {st:HS}:∀(rs:List Row) (acc:List Int),rs.foldl (jL st) (List.zipWith (fun s c=>s+bu rs*c) acc st.bM)=List.zipWith (fun s c=>s+0*c) (yK st acc rs) st.bM
 | [],acc=>by show List.zipWith _ acc st.bM=_;rfl
 | r::rs,acc=>by
   rw [mH]
   have e:jL st (List.zipWith (fun s c=>s+bu (r::rs)*c) acc st.bM) r=List.zipWith (fun s c=>s+bu rs*c) (List.zipWith (fun x t=>x+r.2*t) acc (bh st (c9 st r.1))) st.bM:=by
    unfold jL
    rw [show bu (r::rs)=r.2+bu rs from by unfold bu;rw [bH,cI]]
    exact Io acc st.bM (c9 st r.1).row r.2 (c9 st r.1).sc (bu rs)
   rw [e,Ll rs]
   rfl
theorem Ip:∀(l:List Int) (L:Int),List.zipWith (fun s c=>s+L*c) (List.replicate l.length 0) l=l.map fun c=>L*c
 | [],_=>rfl
 | x::l,L=>by
   rw [mX,CO,wK,Ip l L,Int.zero_add]
   rfl
theorem Lm:∀(s l:List Int),s.length<=l.length->List.zipWith (fun s c=>s+0*c) s l=s
 | [],_,_=>by simp
 | _::_,[],h=>by simp at h
 | x::s,c::l,h=>by
   rw [wK,Lm s l (by simpa using h),DY,Int.add_zero]
theorem AA {st:HS}:∀(rs:List Row) (acc:List Int),(∀r∈rs,(bh st (c9 st r.1)).length=acc.length)->(yK st acc rs).length=acc.length
 | [],_,_=>rfl
 | r::rs,acc,h=>by
   have e:(List.zipWith (fun x t=>x+r.2*t) acc (bh st (c9 st r.1))).length=acc.length:=by rw [nZ,h r cM];omega
   show (yK st (List.zipWith (fun x t=>x+r.2*t) acc (bh st (c9 st r.1))) rs).length=_
   rw [AA rs _ (fun x hx=>by rw [e];exact h x (cG _ hx)),e]
theorem Cw {st:HS} (hP:0<=st.prod):∀(rs:List Row) (acc:List Int) (B:Int),(∀r∈rs,0<=r.2/\∀t∈bh st (c9 st r.1),0<=t/\t<=st.prod)->(∀x∈acc,0<=x/\x<=B)->∀x∈yK st acc rs,0<=x/\x<=B+bu rs*st.prod
 | [],acc,B,_,ha,x,hx=>by
   have:=ha x hx
   show 0<=x/\x<=B+0*st.prod
   omega
 | r::rs,acc,B,h,ha,x,hx=>by
   have hr:=h r cM
   have:=Cw hP rs (List.zipWith (fun x t=>x+r.2*t) acc (bh st (c9 st r.1))) (B+r.2*st.prod) (fun y hy=>h y (cG _ hy)) (fun y hy=>by
    obtain ⟨i,a,t,ea,et,rfl⟩:=jv hy
    have h1:=ha a (bJ ea)
    have h2:=hr.2 t (bJ et)
    have h3:0<=r.2*t:=nK hr.1 h2.1
    have h4:r.2*t<=r.2*st.prod:=HG h2.2 hr.1
    omega) x hx
   rw [show bu (r::rs)=r.2+bu rs from by unfold bu;rw [bH,cI],rP]
   omega
theorem yL (wf:Wf st) (h:p∈st.ah):(bh st p).length=st.bM.length:=by
 unfold bh
 rw [nZ,wf.rows p h,wf.g_]
 omega
theorem jM (wf:Wf st) (h:p∈st.ah) (e:p.nm=x):c9 st x=p:=by
 obtain ⟨i,hi,ei⟩:=pD h
 rw [<-e]
 exact Py wf.j9 (i:=i) (by rw [aW hi,ei])
theorem Iq (wf:Wf st) (h:∀r∈rs,∃p∈st.ah,p.nm=r.1):fX st rs=yK st (List.replicate st.bM.length 0) rs:=by
 unfold fX
 rw [<-Ip st.bM (bu rs),Ll]
 refine Lm _ _ ?_
 rw [AA rs _ (fun r hr=>by
  obtain ⟨p,hp,e⟩:=h r hr
  rw [jM wf hp e,mW,yL wf hp]),mW]
 exact aP _
theorem Uk (wf:Wf st) (h:∀r∈rs,1<=r.2/\∃p∈st.ah,p.nm=r.1):(fX st rs).length=st.bM.length/\∀m∈fX st rs,0<=m/\m<=bu rs*st.prod:=by
 rw [Iq wf (fun r hr=>(h r hr).2)]
 have p1:=wf.iD
 constructor
 . rw [AA rs _ (fun r hr=>by
    obtain ⟨p,hp,e⟩:=(h r hr).2
    rw [jM wf hp e,mW,yL wf hp]),mW]
 . intro m hm
   have:=Cw (st:=st) (by omega) rs (List.replicate st.bM.length 0) 0 (fun r hr=>by
    obtain ⟨h1,p,hp,e⟩:=h r hr
    refine ⟨by omega,?_⟩
    rw [jM wf hp e]
    exact wf.Ao p hp) (fun x hx=>by rw [(List.mem_replicate.mp hx).2];omega) m hm
   omega
theorem Ru {ps:List Pt} {a:Int} (h:p∈ps) (hn:p.nm≠x) (hw:p.wo≠0):p∈nO ps x a:=
 mG.mpr ⟨bQ.mpr ⟨p,h,by rw [az hn]⟩,cy hw⟩
theorem C9 {ps:List Pt} {a:Int} (h:p∈nO ps x a):p.wo≠0/\∃q∈ps,p=if q.nm=x then { q with wo:=q.wo-a } else q:=by
 obtain ⟨h1,h2⟩:=mG.mp h
 obtain ⟨q,hq,e⟩:=bQ.mp h1
 exact ⟨eO h2,q,hq,e.symm⟩
theorem EJ {ps:List Pt} {a:Int}:((nO ps x a).map (fun p:Pt=>p.nm)).Sublist (ps.map (fun p:Pt=>p.nm)):=by
 unfold nO
 have e:(ps.map fun p=>if p.nm=x then { p with wo:=p.wo-a } else p).map (fun p:Pt=>p.nm)=ps.map (fun p:Pt=>p.nm):=by
  rw [fH]
  exact zY fun p _=>by show (if p.nm=x then _ else p:Pt).nm=p.nm;split <;> rfl
 rw [<-e]
 exact List.filter_sublist.map _
theorem Zt (wf:Wf st) {r:Row} (h:∀p∈st.ah,p.nm=r.1->r.2<=p.wo):Wf (gc st r):=by
 have P:∀{M:Pt->Prop},(∀p∈st.ah,M p)->(∀(p:Pt) (w:Int),M p->M { p with wo:=w })->∀p∈nO st.ah r.1 r.2,M p:=fun h1 h2 p hp=>by
  obtain ⟨_,q,hq,e⟩:=C9 hp
  rw [e]
  split
  . exact h2 _ _ (h1 q hq)
  . exact h1 q hq
 refine ⟨wf.yD,wf.C3,wf.j9.sublist EJ,P wf.sub (fun _ _ z=>z),P wf.rows (fun _ _ z=>z),P wf.ow (fun _ _ z=>z),wf.g_,wf.yE,wf.iD,wf.vZ,wf.Am,wf.qU,wf.C4,?_,wf.Gx,wf.An,wf.TY,wf.big,wf.qV,P wf.xP (fun _ _ z=>z),P wf.uQ (fun _ _ z=>z),P wf.Ao (fun _ _ z=>z),fun p hp=>?_,wf.K6⟩
 . have:=EJ (ps:=st.ah) (x:=r.1) (a:=r.2) |>.length_le
   rw [aE,aE] at this
   exact fu this wf.wV
 . obtain ⟨h0,q,hq,e⟩:=C9 hp
   have:=wf.xQ q hq
   by_cases c:q.nm=r.1
   . rw [aA c] at e
     subst e
     have:=h q hq c
     have h0:q.wo-r.2≠0:=h0
     exact ⟨by show 1<=q.wo-r.2;omega,by show 0<=q.we;omega⟩
   . rw [az c] at e
     rw [e];exact this
def Due (st:HS) (rs:List Row):Prop:=∀r∈rs,∃p∈st.ah,p.nm=r.1/\r.2<=p.wo
theorem BR (wf:Wf st) {q:Pt} (hp:p∈st.ah) (hq:q∈st.ah) (e:p.nm=q.nm):p=q:=(jM wf hp rfl).symm.trans (by rw [e];exact jM wf hq rfl)
theorem ab8 (wf:Wf st) {r:Row} (d:Due st (r::rs)):Wf (gc st r):=by
 obtain ⟨p,hp,e,hle⟩:=d r cM
 exact Zt wf fun q hq eq=>by rw [BR wf hq hp (eq.trans e.symm)];exact hle
theorem WK (wf:Wf st) {r:Row} (d:Due st (r::rs)) (nd:((r::rs).map (fun r:Row=>r.1)).Nodup):Due (gc st r) rs:=fun x hx=>by
 obtain ⟨p,hp,e,hle⟩:=d x (cG _ hx)
 have hn:p.nm≠r.1:=fun z=>(gR.mp nd).1 (bQ.mpr ⟨x,hx,e.symm.trans z⟩)
 have:=wf.xQ p hp
 exact ⟨p,Ru hp hn (by omega),e,hle⟩
theorem Ul {kept whole:Int} (d:Due st rs):Due (cU st kept whole added) rs:=fun r hr=>by
 obtain ⟨p,hp,e,hle⟩:=d r hr
 refine ⟨{ p with sc:=p.sc*kept / c5 st kept whole added },?_,e,hle⟩
 unfold cU
 rw [Az]
 exact bQ.mpr ⟨p,hp,Z⟩
theorem qb.due (c:qb st rs):Due st rs:=fun r hr=>(c.row r hr).2.2
theorem C_:∀{rs:List Row},(∀r∈rs,1<=r.2)->0<=bu rs
 | [],_=>iW _
 | r::rs,h=>by
   have:=h r cM
   have:=C_ (rs:=rs) fun x hx=>h x (cG _ hx)
   rw [show bu (r::rs)=r.2+bu rs from by unfold bu;rw [bH,cI]]
   omega
theorem qb.blend (wf:Wf st) (c:qb st rs):uw st (bK st-bu rs) (bK st) (bu rs) (fX st rs):=by
 have g:=Uk wf (rs:=rs) (fun r hr=>⟨(c.row r hr).1,by obtain ⟨p,hp,e,_⟩:=(c.row r hr).2.2;exact ⟨p,hp,e⟩⟩)
 have l0:=C_ (rs:=rs) fun r hr=>(c.row r hr).1
 have:=c.lost
 exact ⟨by omega,l0,by omega,g.1,g.2,c.prod,c.big,c.c_,c.stp⟩
structure BP where
 nm:Str
 ow:Str
 wo:Int
 we:Int
 tops:List Int
structure BE where
 nm:Str
 ow:Str
 wo:Int
 tops:List Int
 bot:Int
structure BS where
 own:List Str
 ah:List BP
 bot:Int
 ku:List BE
 d_:List Str
structure BA where
 m:Addr
 lo:Addr
 lp:Addr
 la:Addr
 lk:Addr
 qs:List (Addr×Addr)
def fC (B:BA) (bot:Int):List (Key×V):=[(Sum.inr "owners", .ref B.lo),(Sum.inr "parts", .ref B.lp),(Sum.inr "bottom", .int bot),(Sum.inr "ashore", .ref B.la),(Sum.inr "known", .ref B.lk)]
def ny (p:BP) (t:Addr):HO:= .lst [.str p.nm, .str p.ow, .int p.wo, .int p.we, .ref t]
inductive Dc (n:Nat) (ρ:fJ) (H:Hp):List V->List BE->Prop
 | nil:Dc n ρ H [] []
 | cons {r t:Addr} {e:BE} {vs:List V} {es:List BE}:H r=some (.lst [.str e.nm, .str e.ow, .int e.wo, .ref t, .int e.bot])->ρ r=some (n,27,e.nm)->H t=some (.lst (e.tops.map V.int))->ρ t=some (n,28,e.nm)->Dc n ρ H vs es->Dc n ρ H (.ref r::vs) (e::es)
structure aU (n:Nat) (ρ:fJ) (B:BA) (H:Hp) (b:BS):Prop where
 om:H B.m=some (.dK (fC B b.bot))
 cm:ρ B.m=some (n,20,⟨#[]⟩)
 oo:H B.lo=some (.lst (b.own.map V.str))
 co:ρ B.lo=some (n,21,⟨#[]⟩)
 op:H B.lp=some (.lst (B.qs.map fun q=>V.ref q.1))
 cp:ρ B.lp=some (n,22,⟨#[]⟩)
 oa:∃vs,H B.la=some (.lst vs)/\Dc n ρ H vs b.ku
 ca:ρ B.la=some (n,25,⟨#[]⟩)
 ok:H B.lk=some (.lst (b.d_.map V.str))
 ck:ρ B.lk=some (n,26,⟨#[]⟩)
 ql:B.qs.length=b.ah.length
 pt:∀(i:Nat) (p:BP) (q:Addr×Addr),b.ah[i]?=some p->B.qs[i]?=some q->H q.1=some (ny p q.2)/\H q.2=some (.lst (p.tops.map V.int))/\ρ q.1=some (n,23,p.nm)/\ρ q.2=some (n,24,p.nm)
theorem Dc.keep {l:List BE} (h:Dc n ρ H vs l) (k:Kp n ρ ρ' H H' ts) (e1:ts 27=true) (e2:ts 28=true):Dc n ρ' H' vs l:=by
 induction h with
 | nil=>exact .nil
 | cons a b c d _ ih=>exact .cons (k.2 _ _ _ _ e1 b a).1 (k.2 _ _ _ _ e1 b a).2 (k.2 _ _ _ _ e2 d c).1 (k.2 _ _ _ _ e2 d c).2 ih
variable {B:BA} {b:BS}
theorem aU.same (h:aU n ρ B H b) (k:Kp n ρ ρ' H H' fun _=>true):aU n ρ' B H' b:=by
 have z:=fun {b:Addr} {t:Nat} {x:Str} {o:HO} (c:ρ b=some (n,t,x)) (e:H b=some o)=>k.2 b t x o rfl c e
 obtain ⟨vs,h1,h2⟩:=h.oa
 exact ⟨(z h.cm h.om).1,(z h.cm h.om).2,(z h.co h.oo).1,(z h.co h.oo).2,(z h.cp h.op).1,(z h.cp h.op).2,⟨vs,(z h.ca h1).1,h2.keep k rfl rfl⟩,(z h.ca h1).2,(z h.ck h.ok).1,(z h.ck h.ok).2,h.ql,
  fun i p q e1 e2=>let ⟨a,b,c,d⟩:=h.pt i p q e1 e2;⟨(z c a).1,(z d b).1,(z c a).2,(z d b).2⟩⟩
theorem aU.mono (h:aU n ρ B H b) (s:aF H H'):aU n ρ B H' b:=h.same (Pe s)
theorem aU.other (h:aU m ρ B H b) (f:Fr n ρ H ρ' H') (g:Gh ρ H) (e:m≠n):aU m ρ' B H' b:=
 h.same ⟨fun b xs q=>(f b _ q fun t x=>by rw [g.tup q];intro z;cases z).1,fun b t x o _ c q=>by
   obtain ⟨a,b'⟩:=f b o q fun t' x'=>by rw [c];intro z;cases z;exact e rfl
   exact ⟨a,b'.trans c⟩⟩
theorem aU.col (h:aU n ρ B H b) (c:ρ a=none):aU n (cE ρ a (n,t,x)) B H b:=
 h.same ⟨fun _ _ e=>e,fun b u y w _ hc he=>⟨he,by rw [cu (fun z=>by rw [z,c] at hc;cases hc)];exact hc⟩⟩
theorem aU.find (h:aU n ρ B H b) {p:BP} (e:b.ah[i]?=some p):∃q,B.qs[i]?=some q/\H q.1=some (ny p q.2)/\H q.2=some (.lst (p.tops.map V.int))/\ρ q.1=some (n,23,p.nm)/\ρ q.2=some (n,24,p.nm):=by
 have hi:i<B.qs.length:=by rw [h.ql];exact (dI.mp e).1
 exact ⟨B.qs[i],aW hi,h.pt i p _ e (aW hi)⟩
theorem aU.Zu (h:aU n ρ B H b) (g:Gh ρ H) (x:Int):aU n ρ B (upd H B.m (.dK (fC B x))) { b with bot:=x }:=by
 have k:=ef (o:= .dK (fC B x)) g h.cm
 obtain ⟨vs,h1,h2⟩:=h.oa
 exact ⟨ai,h.cm,kz k h.co h.oo,h.co,kz k h.cp h.op,h.cp,⟨vs,kz k h.ca h1,h2.keep k (by decide) (by decide)⟩,h.ca,kz k h.ck h.ok,h.ck,h.ql,
  fun i p q e1 e2=>let ⟨a,b,c,d⟩:=h.pt i p q e1 e2;⟨kz k c a,kz k d b,c,d⟩⟩
theorem aU.sS (h:aU n ρ B H b) (g:Gh ρ H) {p0 p1:BP} {q0:Addr×Addr} {t1:Addr} (ep:b.ah[i]?=some p0) (eq:B.qs[i]?=some q0) (e1:p1.nm=p0.nm) (nd:(b.ah.map (fun p:BP=>p.nm)).Nodup)
  (ht:H t1=some (.lst (p1.tops.map V.int))) (ct:ρ t1=some (n,24,p1.nm)):aU n ρ { B with qs:=B.qs.set i (q0.1,t1) } (upd H q0.1 (ny p1 t1)) { b with ah:=b.ah.set i p1 }:=by
 obtain ⟨x1,x2,x3,x4⟩:=h.pt i p0 q0 ep eq
 have k:=ef (o:=ny p1 t1) g x3
 obtain ⟨vs,h1,h2⟩:=h.oa
 have hi:i<B.qs.length:=(dI.mp eq).1
 have hi2:i<b.ah.length:=(dI.mp ep).1
 have em:(B.qs.set i (q0.1,t1)).map (fun q=>V.ref q.1)=B.qs.map fun q=>V.ref q.1:=by
  rw [lD]
  exact lW (by rw [bF,eq];rfl)
 refine ⟨kz k h.cm h.om,h.cm,kz k h.co h.oo,h.co,?_,h.cp,⟨vs,kz k h.ca h1,h2.keep k (by decide) (by decide)⟩,h.ca,kz k h.ck h.ok,h.ck,?_,fun j p q qc Cy=>?_⟩
 . show upd H q0.1 _ B.lp=some (.lst ((B.qs.set i (q0.1,t1)).map _))
   rw [em];exact kz k h.cp h.op
 . show (B.qs.set i (q0.1,t1)).length=(b.ah.set i p1).length
   rw [fq,fq];exact h.ql
 . have qc:(b.ah.set i p1)[j]?=some p:=qc
   have Cy:(B.qs.set i (q0.1,t1))[j]?=some q:=Cy
   by_cases hj:i=j
   . subst hj
     rw [j5 hi2] at qc
     rw [j5 hi] at Cy
     cases qc;cases Cy
     exact ⟨ai,kz k ct ht,by rw [e1];exact x3,ct⟩
   . rw [uD hj] at qc Cy
     obtain ⟨a1,a2,a3,a4⟩:=h.pt j p q qc Cy
     have hnm:p.nm≠p0.nm:=fun e=>by
      have hj2:j<b.ah.length:=(dI.mp qc).1
      have r1:(b.ah.map (fun p:BP=>p.nm))[j]?=some p.nm:=by rw [bF,qc];rfl
      have r2:(b.ah.map (fun p:BP=>p.nm))[i]?=some p0.nm:=by rw [bF,ep];rfl
      have Ir:j<(b.ah.map (fun p:BP=>p.nm)).length:=by rw [aE];exact hj2
      exact hj ((Gj Ir nd).mp (r1.trans (by rw [e];exact r2.symm))).symm
     have hq:q.1≠q0.1:=fun e=>by rw [e,x3] at a3;exact hnm (gU (fun c:pX=>c.2.2) (fY a3)).symm
     exact ⟨by rw [av hq];exact a1,kz k a4 a2,a3,a4⟩
theorem aU.Um (h:aU n ρ B H b) (g:Gh ρ H) {lp:Addr} {qs:List (Addr×Addr)} {ps:List BP} (e:H lp=some (.lst (qs.map fun q=>V.ref q.1))) (c:ρ lp=some (n,22,⟨#[]⟩)) (hl:qs.length=ps.length)
  (hp:∀(i:Nat) (p:BP) (q:Addr×Addr),ps[i]?=some p->qs[i]?=some q->H q.1=some (ny p q.2)/\H q.2=some (.lst (p.tops.map V.int))/\ρ q.1=some (n,23,p.nm)/\ρ q.2=some (n,24,p.nm)):
  aU n ρ { { B with lp:=lp } with qs:=qs } (upd H B.m (.dK (fC { B with lp:=lp } b.bot))) { b with ah:=ps }:=by
 have k:=ef (o:= .dK (fC { B with lp:=lp } b.bot)) g h.cm
 obtain ⟨vs,h1,h2⟩:=h.oa
 exact ⟨ai,h.cm,kz k h.co h.oo,h.co,kz k c e,c,⟨vs,kz k h.ca h1,h2.keep k (by decide) (by decide)⟩,h.ca,kz k h.ck h.ok,h.ck,hl,
  fun i p q e1 e2=>let ⟨a,b,c,d⟩:=hp i p q e1 e2;⟨kz k c a,kz k d b,c,d⟩⟩
theorem aU.ab9 (h:aU n ρ B H b) (g:Gh ρ H) {p:BP} {q:Addr×Addr} (e1:H q.1=some (ny p q.2)) (e2:H q.2=some (.lst (p.tops.map V.int))) (c1:ρ q.1=some (n,23,p.nm)) (c2:ρ q.2=some (n,24,p.nm)):
  aU n ρ { B with qs:=B.qs++[q] } (upd H B.lp (.lst ((B.qs++[q]).map fun q=>V.ref q.1))) { b with ah:=b.ah++[p] }:=by
 have k:=ef (o:= .lst ((B.qs++[q]).map fun q=>V.ref q.1)) g h.cp
 obtain ⟨vs,h1,h2⟩:=h.oa
 refine ⟨kz k h.cm h.om,h.cm,kz k h.co h.oo,h.co,ai,h.cp,⟨vs,kz k h.ca h1,h2.keep k (by decide) (by decide)⟩,h.ca,kz k h.ck h.ok,h.ck,?_,fun i x y ex ey=>?_⟩
 . show (B.qs++[q]).length=(b.ah++[p]).length
   rw [dh,dh,h.ql];rfl
 . have ex:(b.ah++[p])[i]?=some x:=ex
   have ey:(B.qs++[q])[i]?=some y:=ey
   by_cases c:i<b.ah.length
   . rw [Ka c] at ex
     rw [Ka (by rw [h.ql];exact c)] at ey
     obtain ⟨a1,a2,a3,a4⟩:=h.pt i x y ex ey
     exact ⟨kz k a3 a1,kz k a4 a2,a3,a4⟩
   . have hi:i=b.ah.length:=by
      have:=(dI.mp ex).1
      rw [dh] at this
      have:i<b.ah.length+1:=this
      omega
     subst hi
     rw [CM (aP _),Bt] at ex
     rw [CM (by rw [h.ql];exact aP _),h.ql,Bt] at ey
     cases ex;cases ey
     exact ⟨kz k c1 e1,kz k c2 e2,c1,c2⟩
theorem aU.Zv (h:aU n ρ B H b) (g:Gh ρ H) (l:List Str):aU n ρ B (upd H B.lk (.lst (l.map V.str))) { b with d_:=l }:=by
 have k:=ef (o:= .lst (l.map V.str)) g h.ck
 obtain ⟨vs,h1,h2⟩:=h.oa
 exact ⟨kz k h.cm h.om,h.cm,kz k h.co h.oo,h.co,kz k h.cp h.op,h.cp,⟨vs,kz k h.ca h1,h2.keep k (by decide) (by decide)⟩,h.ca,ai,h.ck,h.ql,
  fun i p q e1 e2=>let ⟨a,b,c,d⟩:=h.pt i p q e1 e2;⟨kz k c a,kz k d b,c,d⟩⟩
structure Rv (K:Fg) (H:Hp) (us:List V) (ws:List Row):Prop where
 len:us.length=ws.length
 at_:∀(i:Nat) (r:Row),ws[i]?=some r->∃a xs,us[i]?=some (.ref a)/\Sq K H a xs/\xs[0]?=some (.str r.1)/\xs[2]?=some (.int r.2)
def lX (b:BS):List Row:=b.ah.map fun p=>(p.nm,p.wo)
theorem aU.nw (h:aU n ρ B H b):Rv K H (B.qs.map fun q=>V.ref q.1) (lX b):=by
 refine ⟨by unfold lX;rw [aE,aE];exact h.ql,fun i r e=>?_⟩
 unfold lX at e
 rw [bF] at e
 obtain ⟨p,ep,rfl⟩:=lR.mp e
 obtain ⟨q,eq,a1,_⟩:=h.find ep
 exact ⟨q.1,_,by rw [bF,eq];rfl, .inl (aC.of a1),Z,Z⟩
def bD (b:BS):Int:=(b.ah.map fun p=>p.wo).sum
theorem v5:∀{l:List Str} {o:Str},o∈l->l[l.idxOf o]?=some o
 | [],_,h=>by simp at h
 | x::l,o,h=>by
   by_cases e:x=o
   . subst e;simp
   . have ho:o∈l:=by
      rcases c6.mp h with z|z
      . exact absurd z.symm e
      . exact z
     rw [List.idxOf_cons,show (x==o)=false from F_.mpr e]
     simpa using v5 ho
inductive ab_ (K:Fg) (vs:List V) (H:Hp) (Q:VK) (E:XK):Prop
 | mk (l:Addr) (own:List Str) (n:Nat) (ρ:fJ) (_:vs=[.ref l]) (_:aC K H l (own.map V.str)) (_:Gh ρ H) (_:own.length<=1000) (_:∀ρ' B H',Gh ρ' H'->aU n ρ' B H' ⟨own,[],1,[],[]⟩->(∀b o,H b=some o->H' b=some o/\ρ' b=ρ b)->Q (.ref B.m) H')
def PJ (K:Fg):Sp:=bx (ab_ K)
inductive aeB (K:Fg) (vs:List V) (H:Hp) (Q:VK) (E:XK):Prop
 | mk (l:Addr) (own:List Str) (o:Str) (_:vs=[.ref l, .str o]) (_:aC K H l (own.map V.str)) (_:o∈own) (_:own.length<=1000) (_:Q (.int (own.idxOf o:Int)) H)
def Ln (K:Fg):Sp:=bx (aeB K)
def yM (b:BS) (x o:Str) (wo we:Int):BS:={ b with ah:=b.ah++[⟨x,o,wo,we,(List.replicate b.own.length 0).set (b.own.idxOf o) b.bot⟩],d_:=b.d_++[x] }
inductive WL (vs:List V) (H:Hp) (Q:VK) (E:XK):Prop
 | mk (n ρ B b:_) (x o:Str) (wo we:Int) (_:vs=[.ref B.m, .str x, .str o, .int wo, .int we]) (_:Gh ρ H) (_:aU n ρ B H b) (_:o∈b.own) (_:b.own.length<=1000) (_:b.ah.length<=1000) (_:b.d_.length<=1000) (_:∀ρ' B' H',Gh ρ' H'->aU n ρ' B' H' (yM b x o wo we:_)->B'.m=B.m->Fr n ρ H ρ' H'->Q .b_ H')
def Iu:Sp:=bx (WL)
inductive ahN (K:Fg) (vs:List V) (H:Hp) (Q:VK) (E:XK):Prop
 | mk (l:Addr) (us:List V) (ws:List Row) (i:Nat) (r:Row) (_:vs=[.ref l, .str r.1]) (_:aC K H l us) (_:Rv K H us ws) (_:(ws.map (fun r:Row=>r.1)).Nodup) (_:ws.length<=1000) (_:ws[i]?=some r) (_:Q (.int (i:Int)) H)
def X6 (K:Fg):Sp:=bx (ahN K)
structure Uo (ws rs:List Row):Prop where
 nd:(rs.map (fun r:Row=>r.1)).Nodup
 row:∀r∈rs,1<=r.2/\r.2<=1000000000/\∃w∈ws,w.1=r.1/\r.2<=w.2
 lost:bu rs<bu ws\/rs=[]
 len:rs.length<=ws.length
inductive acd (K:Fg) (vs:List V) (H:Hp) (Q:VK) (E:XK):Prop
 | mk (a l:Addr) (ns:List Int) (k:Int) (us:List V) (ws:List Row) (_:vs=[.ref a, .int k, .ref l]) (_:aC K H a (ns.map V.int)) (_:ns.length<=63) (_:0<=k) (_:k<=1000000) (_:aC K H l us) (_:Rv K H us ws) (_:(ws.map (fun r:Row=>r.1)).Nodup) (_:ws.length<=1000) (_:(∀w∈ws,1<=w.2)) (_:∀z zs rs H',aF H H'->H z=none->H' z=some (.lst zs)->gi H' zs rs->Uo ws rs->Q (.ref z) H')
def PK (K:Fg):Sp:=bx (acd K)
section
variable {X:Cx}
def uV (i j k:Int):Int:=if j<i then (if k<j then k else j) else (if k<i then k else i)
theorem Zw (i j k:Int):uV i j k<=i/\uV i j k<=j/\uV i j k<=k:=by unfold uV;split <;> split <;> omega
theorem Zx {i j k m:Int} (h1:m<=i) (h2:m<=j) (h3:m<=k):m<=uV i j k:=by unfold uV;split <;> split <;> omega
theorem Up (hc:X.calm=true):gW X (.builtin "min") (fun xs H Q=>∃i j k,xs=[.int i, .int j, .int k]/\Q (.int (uV i j k)) H):=by
 intro pins s σ H xs us Q I r h
 obtain ⟨i,j,k,rfl,q⟩:=h
 obtain ⟨u,us,rfl,⟨t,rfl⟩,r2⟩:∃u us',us=u::us'/\RelV (.int i) u/\Vals [.int j, .int k] us':=by cases r with|cons a b=>exact ⟨_,_,rfl,a,b⟩
 obtain ⟨u2,u3,rfl,⟨t',rfl⟩,⟨t'',rfl⟩⟩:=vals2 r2
 refine min_three_ints (I.ok.hd hc) fun h' tk kk=>⟨_,H,I.kept kk,?_,q⟩
 unfold uV
 by_cases hj:j<i
 . rw [aA hj,aA hj]
   by_cases hk:k<j
   . rw [aA hk,aA hk];exact ⟨_,Z⟩
   . rw [az hk,az hk];exact ⟨_,Z⟩
 . rw [az hj,az hj]
   by_cases hk:k<i
   . rw [aA hk,aA hk];exact ⟨_,Z⟩
   . rw [az hk,az hk];exact ⟨_,Z⟩
end
def m9 (given:List Int) (kept:Int) (p:BP) (a:Int):BP:={ p with tops:=List.zipWith (fun t g=>t*kept+g) p.tops given,wo:=p.wo-a }
def iI (ps:List BP) (as:List Int) (i:Nat):Int:=(List.zipWith (fun (p:BP) (a:Int)=>p.tops.getD i 0*a) ps as).sum
def gj (b:BS) (as:List Int):List Int:=(List.range b.own.length).map (iI b.ah as)
def ia (b:BS) (as:List Int) (seat:Nat) (aw:Int):List Int:=if 0<aw then (gj b as).set seat ((gj b as).getD seat 0+aw*b.bot) else gj b as
def dg (b:BS) (as:List Int) (seat:Nat) (aw:Int):List BP:=List.zipWith (m9 (ia b as seat aw) (bD b-aw-as.sum)) b.ah as
def iY (b:BS) (as:List Int) (seat:Nat) (aw:Int):BS:={ b with bot:=b.bot*bD b,ah:=(dg b as seat aw).filter fun p=>decide (0<p.wo) }
structure uW (b:BS):Prop where
 nd:(b.ah.map (fun p:BP=>p.nm)).Nodup
 tl:∀p∈b.ah,p.tops.length=b.own.length
 t0:∀p∈b.ah,∀t∈p.tops,0<=t/\t<=b.bot
 b1:1<=b.bot
 bz:Jm.Sz 7000 b.bot
 w1:∀p∈b.ah,1<=p.wo
 ol:b.own.length<=100
 pl:b.ah.length<=1000
 kl:b.d_.length<=1000
structure lY (b:BS) (as:List Int) (seat:Nat) (aw:Int):Prop where
 len:as.length=b.ah.length
 a0:∀a∈as,0<=a
 seat:seat<b.own.length
 Cz:0<=aw
 kept:0<bD b-aw-as.sum
 big:Jm.Sz 60 (bD b)
inductive aeC (K:Fg) (vs:List V) (H:Hp) (Q:VK) (E:XK):Prop
 | mk (n ρ B b:_) (l:Addr) (as:List Int) (seat:Nat) (aw:Int) (_:vs=[.ref B.m, .ref l, .int (seat:Int), .int aw]) (_:Gh ρ H) (_:aU n ρ B H b) (_:uW b) (_:aC K H l (as.map V.int)) (_:ρ l=none) (_:lY b as seat aw) (_:∀ρ' B' H',Gh ρ' H'->aU n ρ' B' H' (iY b as seat aw:_)->B'.m=B.m->Fr n ρ H ρ' H'->Q .b_ H')
def Uq (K:Fg):Sp:=bx (aeC K)
variable {as:List Int} {seat:Nat} {aw:Int}
theorem v7 (h:as.length=b.ah.length):(dg b as seat aw).length=b.ah.length:=by
 unfold dg;rw [nZ,h];omega
theorem Lo {p:BP} {a:Int} (h1:b.ah[i]?=some p) (h2:as[i]?=some a):(dg b as seat aw)[i]?=some (m9 (ia b as seat aw) (bD b-aw-as.sum) p a):=PF h1 h2
theorem v8 (h:∀a∈as,0<=a):∀{x:Int},x∈as->x<=as.sum:=by
 induction as with
 | nil=>intro x hx;simp at hx
 | cons a l ih=>
   intro x hx
   have h0:=h a cM
   have hl:0<=l.sum:=by
    clear ih hx
    have:∀(l:List Int),(∀a∈l,0<=a)->0<=l.sum:=fun l=>by
     induction l with
     | nil=>intro _;exact iW _
     | cons a l ih=>intro h;rw [cI];have:=h a cM;have:=ih fun x hx=>h x (cG _ hx);omega
    exact this l fun x hx=>h x (cG _ hx)
   rw [cI]
   rcases c6.mp hx with e|e
   . omega
   . have:=ih (fun y hy=>h y (cG _ hy)) e
     omega
theorem mQ (b:BS) (as:List Int):(gj b as).length=b.own.length:=by unfold gj;rw [aE,CP]
theorem yN (b:BS) (as:List Int) (seat:Nat) (aw:Int):(ia b as seat aw).length=b.own.length:=by
 unfold ia;split
 . rw [fq,mQ]
 . exact mQ b as
theorem Lp {ps:List BP} {p:BP} {a:Int} (h1:ps[j]?=some p) (h2:as[j]?=some a):(List.zipWith (fun (p:BP) (a:Int)=>p.tops.getD i 0*a) (ps.take (j+1)) (as.take (j+1)))=List.zipWith (fun (p:BP) (a:Int)=>p.tops.getD i 0*a) (ps.take j) (as.take j)++[p.tops.getD i 0*a] :=o6 _ h1 h2
theorem Zy {α:Type} {xs ys:List α} {p:α} (hx:i<=xs.length) (h:ys[i]?=some p):(xs.take i++ys.drop i)[i]?=some p:=by
 have hl:(xs.take i).length=i:=by rw [kZ];omega
 rw [CM (by omega),hl,Bt,List.getElem?_drop]
 exact h
theorem Zz {α:Type} {xs ys:List α} {x:α} (hx:xs[i]?=some x) (hy:i<ys.length):(xs.take i++ys.drop i).set i x=xs.take (i+1)++ys.drop (i+1):=by
 have hi:=(dI.mp hx).1
 have hl:(xs.take i).length=i:=by rw [kZ];omega
 rw [List.set_append_right _ _ (by omega),hl,Bt,Qu hy,Kf,take_snoc hx,Kg]
 rfl
theorem Ur {b:BS} {as:List Int} (h:as.length=b.ah.length) (i:Nat):((dg b as seat aw).take i++b.ah.drop i).map (fun p:BP=>p.nm)=b.ah.map (fun p:BP=>p.nm):=by
 have e:(dg b as seat aw).map (fun p:BP=>p.nm)=b.ah.map (fun p:BP=>p.nm):=by
  unfold dg
  generalize ia b as seat aw=g
  generalize bD b-aw-as.sum=k
  generalize b.ah=ps at *
  clear b
  induction ps generalizing as with
  | nil=>rfl
  | cons p ps ih=>
    cases as with
    | nil=>simp at h
    | cons a as=>
      rw [wK,bH,bH,ih (by simpa using h)]
      rfl
 rw [bN,Bp,e,<-Bp,<-bN,List.take_append_drop]
theorem Us (B:BA) (x y:Int):putK (fC B x) (Sum.inr "bottom") (.int y)=fC B y:=rfl
theorem Lq (B:BA) (x:Int) (l:Addr):putK (fC B x) (Sum.inr "parts") (.ref l)=fC { B with lp:=l } x:=rfl
def jw:List BP->List (Addr×Addr)->List (Addr×Addr)
 | p::ps,q::qs=>if 0<p.wo then q::jw ps qs else jw ps qs
 | _,_=>[]
theorem AD:∀{ps:List BP} {qs:List (Addr×Addr)},qs.length=ps.length->(jw ps qs).length=(ps.filter fun p=>decide (0<p.wo)).length
 | [],[],_=>rfl
 | [],_::_,h=>by simp at h
 | _::_,[],h=>by simp at h
 | p::ps,q::qs,h=>by
   have ih:=AD (ps:=ps) (qs:=qs) (by simpa using h)
   unfold jw
   by_cases c:0<p.wo
   . rw [aA c,iC,aA (cy c),mX,mX,ih]
   . rw [az c,iC,az (by simpa using c),ih]
theorem yO:∀{ps:List BP} {qs:List (Addr×Addr)} {i:Nat} {p:BP} {q:Addr×Addr},(ps.filter fun p=>decide (0<p.wo))[i]?=some p->(jw ps qs)[i]?=some q->qs.length=ps.length->∃j:Nat,ps[j]?=some p/\qs[j]?=some q
 | [],_,_,_,_,h,_,_=>by simp at h
 | _::_,[],_,_,_,_,_,h=>by simp at h
 | x::ps,y::qs,i,p,q,h1,h2,hl=>by
   unfold jw at h2
   by_cases c:0<x.wo
   . rw [aA c] at h2
     rw [iC,aA (cy c)] at h1
     cases i with
     | zero=>simp at h1 h2;exact ⟨0,by simpa using h1,by simpa using h2⟩
     | succ i=>
       obtain ⟨j,a,b⟩:=yO (ps:=ps) (qs:=qs) (i:=i) (by simpa using h1) (by simpa using h2) (by simpa using hl)
       exact ⟨j+1,by simpa using a,by simpa using b⟩
   . rw [az c] at h2
     rw [iC,az (by simpa using c)] at h1
     obtain ⟨j,a,b⟩:=yO (ps:=ps) (qs:=qs) (i:=i) h1 h2 (by simpa using hl)
     exact ⟨j+1,by simpa using a,by simpa using b⟩
theorem yP:∀{ps:List BP} {qs:List (Addr×Addr)} {j:Nat} {p:BP} {q:Addr×Addr},ps[j]?=some p->qs[j]?=some q->jw (ps.take (j+1)) (qs.take (j+1))=jw (ps.take j) (qs.take j)++(if 0<p.wo then [q] else [])
 | [],_,_,_,_,h,_=>by simp at h
 | _::_,[],_,_,_,_,h=>by simp at h
 | x::ps,y::qs,0,p,q,h1,h2=>by
   have e1:x=p:=by simpa using h1
   have e2:y=q:=by simpa using h2
   subst e1 e2
   show jw (x::ps.take 0) (y::qs.take 0)=[]++_
   unfold jw
   split <;> rfl
 | x::ps,y::qs,j+1,p,q,h1,h2=>by
   have ih:=yP (ps:=ps) (qs:=qs) (j:=j) (by simpa using h1) (by simpa using h2)
   show jw (x::ps.take (j+1)) (y::qs.take (j+1))=jw (x::ps.take j) (y::qs.take j)++_
   unfold jw
   rw [ih]
   split <;> rfl
def dB (rs:List Row) (x:Str):Int:=((rs.find? fun r=>decide (r.1=x)).map (fun r:Row=>r.2)).getD 0
theorem Iw (x:Str):dB [] x=0:=rfl
theorem mR (r:Row) (rs:List Row) (x:Str):dB (r::rs) x=if r.1=x then r.2 else dB rs x:=by
 unfold dB
 rw [pH]
 by_cases c:r.1=x
 . rw [cy c,aA c];rfl
 . rw [d8 c,az c]
theorem um:∀{rs:List Row} {x:Str},x∉rs.map (fun r:Row=>r.1)->dB rs x=0
 | [],_,_=>rfl
 | r::rs,x,h=>by
   rw [mR,az (fun e=>h (by rw [bH,e];exact cM))]
   exact um fun m=>h (by rw [bH];exact cG _ m)
theorem mS:∀{rs:List Row} {r:Row} {x:Str},r.1∉rs.map (fun r:Row=>r.1)->dB (rs++[r]) x=if r.1=x then r.2 else dB rs x
 | [],r,x,_=>by rw [JU,mR]
 | y::rs,r,x,h=>by
   rw [bH] at h
   have h1:r.1≠y.1:=fun e=>h (by rw [e];exact cM)
   rw [JT,mR,mS (fun m=>h (cG _ m)),mR]
   by_cases c:y.1=x
   . rw [aA c,aA c,az (fun e=>h1 (e.trans c.symm))]
   . rw [az c,az c]
theorem WM (h:∀r∈rs,1<=r.2) (x:Str):0<=dB rs x:=by
 induction rs with
 | nil=>exact iW _
 | cons r rs ih=>
   rw [mR]
   split
   . have:=h r cM;omega
   . exact ih fun y hy=>h y (cG _ hy)
def c7 (b:BS) (rs:List Row):List Int:=b.ah.map fun p=>dB rs p.nm
theorem AE (b:BS) (rs:List Row):(c7 b rs).length=b.ah.length:=by unfold c7;rw [aE]
theorem EK (nd:(b.ah.map (fun p:BP=>p.nm)).Nodup) {r:Row} {p:BP} (hp:b.ah[j]?=some p) (e:p.nm=r.1) (h:r.1∉rs.map (fun r:Row=>r.1)):c7 b (rs++[r])=(c7 b rs).set j r.2/\(c7 b rs)[j]?=some 0:=by
 have hj:=(dI.mp hp).1
 constructor
 . refine List.ext_getElem? fun k=>?_
   by_cases c:j=k
   . subst c
     rw [j5 (by rw [AE];exact hj)]
     unfold c7
     rw [bF,hp]
     show some (dB (rs++[r]) p.nm)=_
     rw [mS h,aA e.symm]
   . rw [uD c]
     unfold c7
     rw [bF,bF]
     cases ek:b.ah[k]? with
     | none=>rfl
     | some x=>
       show some (dB (rs++[r]) x.nm)=some (dB rs x.nm)
       rw [mS h,az]
       intro z
       have r1:(b.ah.map (fun p:BP=>p.nm))[k]?=some x.nm:=by rw [bF,ek];rfl
       have r2:(b.ah.map (fun p:BP=>p.nm))[j]?=some p.nm:=by rw [bF,hp];rfl
       exact c ((Gj (by rw [aE];exact hj) nd).mp (r2.trans (by rw [e,z];exact r1.symm)))
 . unfold c7
   rw [bF,hp]
   show some (dB rs p.nm)=_
   rw [e,um h]
theorem Lr:∀{l:List Int} {j:Nat} {x:Int},l[j]?=some 0->(l.set j x).sum=l.sum+x
 | [],_,_,h=>by simp at h
 | a::l,0,x,h=>by
   have:a=0:=by simpa using h
   rw [Kf,cI,cI];omega
 | a::l,j+1,x,h=>by
   rw [Ke,cI,cI,Lr (by simpa using h)];omega
structure v9 (b:BS) (rs:List Row):Prop where
 nd:(rs.map (fun r:Row=>r.1)).Nodup
 row:∀r∈rs,1<=r.2/\∃(j:Nat) (p:BP),b.ah[j]?=some p/\p.nm=r.1/\r.2<=p.wo
theorem Iz (nd:(b.ah.map (fun p:BP=>p.nm)).Nodup) (h:v9 b rs):∀i≤rs.length,(c7 b (rs.take i)).sum=bu (rs.take i):=by
 intro i
 induction i with
 | zero=>
   intro _
   rw [List.take_zero]
   unfold c7
   show (b.ah.map fun p=>(0:Int)).sum=0
   clear nd h
   generalize b.ah=ps
   induction ps with
   | nil=>rfl
   | cons p ps ih=>rw [bH,cI,ih];rfl
 | succ i ih=>
   intro hi
   have ei:=aW (show i<rs.length by omega)
   rw [take_snoc ei]
   obtain ⟨_,j,p,hp,e,_⟩:=h.row _ (bJ ei)
   have hn:(rs[i]).1∉(rs.take i).map (fun r:Row=>r.1):=by
    rw [Bp]
    exact j_ h.nd (by rw [bF,ei];rfl)
   obtain ⟨s1,s2⟩:=EK nd hp e hn
   rw [s1,Lr s2,ih (by omega)]
   unfold bu
   rw [bN,List.sum_append]
   simp
abbrev Q4:=Str×Str×Int×Int
def jx (st:HS):List Q4:=st.ah.map fun p=>(p.nm,p.ow,p.wo,p.we)
def qe (b:BS):List Q4:=b.ah.map fun p=>(p.nm,p.ow,p.wo,p.we)
def rW (qs:List Q4) (r:Row):List Q4:=(qs.map fun q=>if q.1=r.1 then (q.1,q.2.1,q.2.2.1-r.2,q.2.2.2) else q).filter fun q=>decide (q.2.2.1≠0)
def nC (rs:List Row) (qs:List Q4):List Q4:=(qs.map fun q=>(q.1,q.2.1,q.2.2.1-dB rs q.1,q.2.2.2)).filter fun q=>decide (0<q.2.2.1)
theorem Ut (st:HS) (r:Row):jx (gc st r)=rW (jx st) r:=by
 unfold jx gc nO rW
 generalize st.ah=ps
 show List.map _ (List.filter _ (List.map _ ps))=_
 induction ps with
 | nil=>rfl
 | cons p ps ih=>
   rw [bH,bH,bH]
   by_cases c:p.nm=r.1
   . rw [aA c,aA (show (p.nm,p.ow,p.wo,p.we).1=r.1 from c),iC,iC]
     by_cases d:p.wo-r.2=0
     . rw [az (by simpa using d),az (by simpa using d),ih]
     . rw [aA (by simpa using d),aA (by simpa using d),bH,ih]
   . rw [az c,az (show ¬ (p.nm,p.ow,p.wo,p.we).1=r.1 from c),iC,iC]
     by_cases d:p.wo=0
     . rw [az (by simpa using d),az (by simpa using d),ih]
     . rw [aA (by simpa using d),aA (by simpa using d),bH,ih]
theorem Rw (st:HS) (kept whole:Int) (added:List Int):jx (cU st kept whole added)=jx st:=by
 unfold jx cU
 rw [Az,fH]
 rfl
theorem EL:∀(rs:List Row) (st:HS),jx (rs.foldl gc st)=rs.foldl rW (jx st)
 | [],_=>rfl
 | r::rs,st=>by rw [mH,mH,EL rs,Ut]
theorem EM:∀(qs:List Q4) (r:Row) (rs:List Row),r.1∉rs.map (fun r:Row=>r.1)->(∀q∈qs,1<=q.2.2.1)->(∀q∈qs,q.1=r.1->r.2<=q.2.2.1)->nC rs (rW qs r)=nC (r::rs) qs
 | [],_,_,_,_,_=>rfl
 | q::qs,r,rs,hn,h1,h2=>by
   have ih:=EM qs r rs hn (fun x hx=>h1 x (cG _ hx)) (fun x hx=>h2 x (cG _ hx))
   have w1:=h1 q cM
   have e1:rW (q::qs) r=(if q.1=r.1 then (if q.2.2.1-r.2=0 then [] else [(q.1,q.2.1,q.2.2.1-r.2,q.2.2.2)]) else [q])++rW qs r:=by
    unfold rW
    rw [bH,iC]
    by_cases c:q.1=r.1
    . rw [aA c,aA c]
      by_cases d:q.2.2.1-r.2=0
      . rw [aA d,az (by simpa using d)];rfl
      . rw [az d,aA (by simpa using d)];rfl
    . rw [az c,az c,aA (cy (show q.2.2.1≠0 by omega))];rfl
   have e2:∀(us:List Row) (x:Q4) (l:List Q4),nC us (x::l)=(if 0<x.2.2.1-dB us x.1 then [(x.1,x.2.1,x.2.2.1-dB us x.1,x.2.2.2)] else [])++nC us l:=fun us x l=>by
    unfold nC
    rw [bH,iC]
    by_cases c:0<x.2.2.1-dB us x.1
    . rw [aA c,aA (cy c)];rfl
    . rw [az c,az (by simpa using c)];rfl
   rw [e1,e2 (r::rs),mR]
   by_cases c:q.1=r.1
   . have am:dB rs q.1=0:=by rw [c];exact um hn
     have le:=h2 q cM c
     rw [aA c,aA c.symm]
     by_cases d:q.2.2.1-r.2=0
     . rw [aA d,az (by omega),<-ih];rfl
     . rw [az d,aA (by omega),<-ih,JT,JU,e2 rs]
       show (if 0<q.2.2.1-r.2-dB rs q.1 then [(q.1,q.2.1,q.2.2.1-r.2-dB rs q.1,q.2.2.2)] else [])++_=_
       rw [am,Int.sub_zero,aA (by omega)]
   . rw [az c,show (if r.1=q.1 then r.2 else dB rs q.1)=dB rs q.1 from az (fun z=>c z.symm),<-ih,JT,JU,e2 rs]
theorem IA {qs:List Q4} {r:Row} {x:Q4} (h:x∈rW qs r):x.2.2.1≠0/\∃q∈qs,x=if q.1=r.1 then (q.1,q.2.1,q.2.2.1-r.2,q.2.2.2) else q:=by
 obtain ⟨h1,h2⟩:=mG.mp h
 obtain ⟨q,hq,e⟩:=bQ.mp h1
 exact ⟨eO h2,q,hq,e.symm⟩
theorem IB:∀(rs:List Row) (qs:List Q4),(rs.map (fun r:Row=>r.1)).Nodup->(∀q∈qs,1<=q.2.2.1)->(∀r∈rs,∀q∈qs,q.1=r.1->r.2<=q.2.2.1)->rs.foldl rW qs=nC rs qs
 | [],qs,_,h1,_=>by
   show qs=nC [] qs
   unfold nC
   induction qs with
   | nil=>rfl
   | cons q qs ih=>
     have:=h1 q cM
     rw [bH,iC,aA (cy (show 0<q.2.2.1-dB [] q.1 by rw [Iw];omega)),<-ih (fun x hx=>h1 x (cG _ hx)) (fun r hr=>absurd hr (by simp)),Iw,Int.sub_zero]
 | r::rs,qs,nd,h1,h2=>by
   obtain ⟨n1,n2⟩:=gR.mp (show (r.1::rs.map (fun r:Row=>r.1)).Nodup from nd)
   rw [mH,IB rs (rW qs r) n2 ?_ ?_]
   . exact EM qs r rs n1 h1 (h2 r cM)
   . intro x hx
     obtain ⟨a,q,hq,e⟩:=IA hx
     have:=h1 q hq
     by_cases c:q.1=r.1
     . rw [aA c] at e
       have:=h2 r cM q hq c
       rw [e] at a ⊢
       have a:q.2.2.1-r.2≠0:=a
       show 1<=q.2.2.1-r.2
       omega
     . rw [az c] at e;rw [e];exact this
   . intro y hy x hx ex
     obtain ⟨_,q,hq,e⟩:=IA hx
     by_cases c:q.1=r.1
     . rw [aA c] at e
       rw [e] at ex
       exact absurd (bQ.mpr ⟨y,hy,ex.symm.trans c⟩) n1
     . rw [az c] at e
       rw [e] at ex ⊢
       exact h2 y (cG _ hy) q hq ex
theorem Uu (b:BS) (rs:List Row) (seat:Nat) (aw:Int):qe (iY b (c7 b rs) seat aw)=nC rs (qe b):=by
 unfold qe iY dg nC
 show List.map _ (List.filter _ (List.zipWith (m9 (ia b (c7 b rs) seat aw) (bD b-aw-(c7 b rs).sum)) b.ah (c7 b rs)))=_
 generalize ia b (c7 b rs) seat aw=g
 generalize bD b-aw-(c7 b rs).sum=k
 unfold c7
 generalize b.ah=ps
 induction ps with
 | nil=>rfl
 | cons p ps ih=>
   rw [bH,wK,bH,bH,iC,iC]
   by_cases c:0<p.wo-dB rs p.nm
   . rw [aA (cy (show 0<(m9 g k p (dB rs p.nm)).wo from c)),aA (cy (show 0<p.wo-dB rs p.nm from c)),bH,ih]
     rfl
   . rw [az (by simpa using (show ¬ 0<(m9 g k p (dB rs p.nm)).wo from c)),az (by simpa using c),ih]
structure iS (st:HS) (b:BS):Prop where
 own:st.own=b.own
 qd:jx st=qe b
theorem WN (st:HS) (rs:List Row):(kK st rs).own=st.own:=by
 unfold kK
 have:∀(rs:List Row) (s:HS),(rs.foldl gc s).own=s.own:=fun rs=>by
  induction rs with
  | nil=>intro s;rfl
  | cons r rs ih=>intro s;rw [mH,ih];rfl
 rw [this]
 unfold cU
 rw [Uh]
theorem Uv (r:iS st b) (wf:Wf st) (c:qb st rs):iS (kK st rs) (iY b (c7 b rs) 0 0):=by
 refine ⟨by rw [WN,r.own];rfl,?_⟩
 rw [Uu,<-r.qd]
 unfold kK
 rw [EL,Rw]
 refine IB rs (jx st) c.nd (fun q hq=>?_) (fun x hx q hq e=>?_)
 . obtain ⟨p,hp,rfl⟩:=bQ.mp hq
   exact (wf.xQ p hp).1
 . obtain ⟨p,hp,rfl⟩:=bQ.mp hq
   obtain ⟨_,_,p',sU,e',le⟩:=c.row x hx
   have:p=p':=BR wf hp sU (e.trans e'.symm)
   rw [this]
   exact le
theorem Uw (r:iS st b) (x o:Str) (wo we:Int):iS (yF st x o wo we) (yM b x o wo we):=by
 refine ⟨r.own,?_⟩
 unfold jx qe yF BN yM
 show List.map _ (st.ah++[_])=List.map _ (b.ah++[_])
 rw [bN,bN,show st.ah.map (fun p=>(p.nm,p.ow,p.wo,p.we))=b.ah.map (fun p=>(p.nm,p.ow,p.wo,p.we)) from r.qd]
 rfl
theorem iS.whole (r:iS st b):bK st=bD b:=by
 unfold bK bD
 have:=gU (List.map fun q:Q4=>q.2.2.1) r.qd
 unfold jx qe at this
 rw [fH,fH] at this
 exact gU List.sum this
theorem iS.len (r:iS st b):st.ah.length=b.ah.length:=by
 have:=gU List.length r.qd
 unfold jx qe at this
 rw [aE,aE] at this
 exact this
theorem iS.at (r:iS st b) {q:BP} (h:b.ah[i]?=some q):∃p,st.ah[i]?=some p/\p.nm=q.nm/\p.ow=q.ow/\p.wo=q.wo/\p.we=q.we:=by
 have e:=gU (fun l:List Q4=>l[i]?) r.qd
 unfold jx qe at e
 have e:(st.ah.map fun p=>(p.nm,p.ow,p.wo,p.we))[i]?=(b.ah.map fun p=>(p.nm,p.ow,p.wo,p.we))[i]?:=e
 rw [bF,bF,h] at e
 obtain ⟨p,ep,e2⟩:=lR.mp e
 have e2:(p.nm,p.ow,p.wo,p.we)=(q.nm,q.ow,q.wo,q.we):=e2
 simp only [Prod.mk.injEq] at e2
 exact ⟨p,ep,e2⟩
theorem iS.at' (r:iS st b) (h:st.ah[i]?=some p):∃q,b.ah[i]?=some q/\p.nm=q.nm/\p.ow=q.ow/\p.wo=q.wo/\p.we=q.we:=by
 have hi:i<b.ah.length:=by rw [<-r.len];exact (dI.mp h).1
 have eq:=aW hi
 obtain ⟨p',e',z⟩:=r.at eq
 rw [h] at e'
 cases e'
 exact ⟨_,eq,z⟩
theorem iS.rows (r:iS st b) (h:aU n ρ B H b):Au K H (B.qs.map fun q=>V.ref q.1) st.ah:=by
 refine ⟨by rw [aE,h.ql,r.len],fun i p e=>?_⟩
 obtain ⟨q,eq,e1,e2,e3,e4⟩:=r.at' e
 obtain ⟨a,ea,k1,_⟩:=h.find eq
 refine ⟨a.1,_,by rw [bF,ea];rfl, .inl (aC.of k1),?_,?_,?_,?_⟩
 . rw [e1];rfl
 . rw [e2];rfl
 . rw [e3];rfl
 . rw [e4];rfl
theorem IC {B:Int} (hB:0<=B):∀{ps:List BP} {as:List Int},(∀p∈ps,∀t∈p.tops,0<=t/\t<=B)->(∀a∈as,0<=a)->∀i,0<=iI ps as i/\iI ps as i<=B*as.sum
 | [],as,_,ha,i=>by
   have:0<=as.sum:=by
    cases as with
    | nil=>exact iW _
    | cons a l=>exact Int.le_trans (ha a cM) (v8 ha cM)
   exact ⟨by show (0:Int)<=0;omega,nK hB this⟩
 | _::_,[],_,_,i=>by
   show 0<=(0:Int)/\(0:Int)<=B*0
   omega
 | p::ps,a::as,h,ha,i=>by
   have ih:=IC hB (ps:=ps) (as:=as) (fun x hx=>h x (cG _ hx)) (fun x hx=>ha x (cG _ hx)) i
   have a0:=ha a cM
   have ht:0<=p.tops.getD i 0/\p.tops.getD i 0<=B:=by
    rw [gG]
    cases e:p.tops[i]? with
    | none=>exact ⟨iW _,hB⟩
    | some t=>exact h p cM t (bJ e)
   have e:iI (p::ps) (a::as) i=p.tops.getD i 0*a+iI ps as i:=by unfold iI;rw [wK,cI]
   have k1:0<=p.tops.getD i 0*a:=nK ht.1 a0
   have k2:p.tops.getD i 0*a<=B*a:=Sm ht.2 a0
   rw [e,cI,pJ]
   omega
theorem Ux (wf:uW b) (ok:lY b as seat aw):∀g∈ia b as seat aw,0<=g/\g<=b.bot*(as.sum+aw):=by
 have b1:=wf.b1
 have cb:=IC (B:=b.bot) (by omega) wf.t0 ok.a0
 have Cz:=ok.Cz
 have m0:0<=b.bot*aw:=nK (by omega) Cz
 have hg:∀g∈gj b as,0<=g/\g<=b.bot*as.sum:=fun g h=>by
  obtain ⟨i,_,rfl⟩:=bQ.mp h
  exact cb i
 intro g h
 rw [pJ]
 unfold ia at h
 split at h
 . rcases List.mem_or_eq_of_mem_set h with z|z
   . have:=hg g z;omega
   . have hs:seat<(gj b as).length:=by rw [mQ];exact ok.seat
     have e:(gj b as).getD seat 0=(gj b as)[seat] :=by rw [gG,aW hs];rfl
     have:=hg _ (rN hs)
     rw [z,e,pI aw]
     omega
 . have:=hg g h;omega
theorem WO (wf:uW b) (ok:lY b as seat aw) (hz:Jm.Sz 7000 (b.bot*bD b)):uW (iY b as seat aw):=by
 have b1:=wf.b1
 have gb:=Ux wf ok
 have kp:=ok.kept
 have as0:0<=as.sum:=by
  cases has:as with
  | nil=>exact iW _
  | cons a l=>exact Int.le_trans (ok.a0 a (by rw [has];exact cM)) (by rw [<-has];exact v8 ok.a0 (by rw [has];exact cM))
 have Cz:=ok.Cz
 have De:∀p∈(dg b as seat aw).filter (fun p=>decide (0<p.wo)),0<p.wo/\∃p0∈b.ah,∃a,p=m9 (ia b as seat aw) (bD b-aw-as.sum) p0 a:=fun p hp=>by
  obtain ⟨h1,h2⟩:=mG.mp hp
  obtain ⟨i,x,a,ex,_,e⟩:=jv (show p∈List.zipWith (m9 (ia b as seat aw) (bD b-aw-as.sum)) b.ah as from h1)
  exact ⟨eO h2,x,bJ ex,a,e⟩
 have nmE:(dg b as seat aw).map (fun p:BP=>p.nm)=b.ah.map (fun p:BP=>p.nm):=by
  have:=Ur (seat:=seat) (aw:=aw) ok.len b.ah.length
  rw [DS,rO,show (dg b as seat aw).take b.ah.length=dg b as seat aw from by rw [<-v7 ok.len];exact cC] at this
  exact this
 refine ⟨?_,fun p hp=>?_,fun p hp t ht=>?_,?_,hz,fun p hp=>?_,wf.ol,?_,wf.kl⟩
 . have:(((dg b as seat aw).filter fun p=>decide (0<p.wo)).map (fun p:BP=>p.nm)).Sublist ((dg b as seat aw).map (fun p:BP=>p.nm)):=List.filter_sublist.map _
   rw [nmE] at this
   exact wf.nd.sublist this
 . obtain ⟨_,p0,h0,a,rfl⟩:=De p hp
   show (List.zipWith _ p0.tops (ia b as seat aw)).length=b.own.length
   rw [nZ,wf.tl p0 h0,yN]
   omega
 . obtain ⟨_,p0,h0,a,rfl⟩:=De p hp
   obtain ⟨i,x,g,ex,eg,rfl⟩:=jv (show t∈List.zipWith (fun t g=>t*(bD b-aw-as.sum)+g) p0.tops (ia b as seat aw) from ht)
   have hx:=wf.t0 p0 h0 x (bJ ex)
   have hg:=gb g (bJ eg)
   have k1:0<=x*(bD b-aw-as.sum):=nK hx.1 (by omega)
   have k2:x*(bD b-aw-as.sum)<=b.bot*(bD b-aw-as.sum):=Sm hx.2 (by omega)
   have k3:b.bot*(bD b-aw-as.sum)+b.bot*(as.sum+aw)=b.bot*bD b:=by rw [<-pJ];congr 1;omega
   exact ⟨by omega,by show _<=b.bot*bD b;omega⟩
 . show 1<=b.bot*bD b
   have:b.bot*1<=b.bot*bD b:=HG (by omega) (by omega)
   omega
 . exact (De p hp).1
 . have:=List.length_filter_le (fun p:BP=>decide (0<p.wo)) (dg b as seat aw)
   rw [v7 ok.len] at this
   exact fu this wf.pl
theorem ZA (wf:uW b) (h:v9 b rs) (hl:bu rs<bD b) (ho:0<b.own.length) (hz:Jm.Sz 60 (bD b)):lY b (c7 b rs) 0 0:=by
 have hs:=Iz wf.nd h rs.length (aP _)
 rw [cC] at hs
 refine ⟨AE b rs,fun a ha=>?_,ho,iW _,by rw [hs];omega,hz⟩
 obtain ⟨p,_,rfl⟩:=bQ.mp ha
 exact WM (fun r hr=>(h.row r hr).1) p.nm
inductive acf (K:Fg) (vs:List V) (H:Hp) (Q:VK) (E:XK):Prop
 | mk (n ρ B b:_) (l:Addr) (us:List V) (rs:List Row) (_:vs=[.ref B.m, .ref l]) (_:Gh ρ H) (_:aU n ρ B H b) (_:uW b) (_:aC K H l us) (_:gi H us rs) (_:ρ l=none) (_:v9 b rs) (_:rs.length<=1000) (_:lY b (c7 b rs:_) 0 0) (_:∀ρ' B' H',Gh ρ' H'->aU n ρ' B' H' (iY b (c7 b rs:_) 0 0)->B'.m=B.m->Fr n ρ H ρ' H'->Q .b_ H')
def PL (K:Fg):Sp:=bx (acf K)
theorem ZC (wf:uW b) {o:Str} (h1:x∉b.ah.map (fun p:BP=>p.nm)) (h2:1<=wo) (h3:b.ah.length<1000) (h4:b.d_.length<1000):uW (yM b x o wo we):=by
 have P:∀{M:BP->Prop},(∀p∈b.ah,M p)->M ⟨x,o,wo,we,(List.replicate b.own.length 0).set (b.own.idxOf o) b.bot⟩->∀p∈(yM b x o wo we).ah,M p:=fun a c p hp=>by
  rcases fZ.mp (show p∈b.ah++[_] from hp) with z|z
  . exact a p z
  . rw [fU.mp z];exact c
 have b1:=wf.b1
 refine ⟨?_,P wf.tl (by show ((List.replicate b.own.length (0:Int)).set _ _).length=_;rw [fq,mW];rfl),P wf.t0 (fun t ht=>?_),wf.b1,wf.bz,P wf.w1 h2,wf.ol,?_,?_⟩
 . show ((b.ah++[_]).map (fun p:BP=>p.nm)).Nodup
   rw [bN]
   exact oW wf.nd h1
 . rcases yG ht with z|z
   . rw [z];show 0<=0/\0<=b.bot;omega
   . rw [z];show 0<=b.bot/\b.bot<=b.bot;omega
 . show (b.ah++[_]).length<=1000
   rw [dh];show b.ah.length+1<=1000;omega
 . show (b.d_++[_]).length<=1000
   rw [dh];show b.d_.length+1<=1000;omega
theorem v_:∀(rs:List Row) (s:HS),rs.foldl gc s={ s with ah:=(rs.foldl gc s).ah }
 | [],_=>rfl
 | r::rs,s=>by
   rw [mH,v_ rs (gc s r)]
   rfl
def Df (st:HS) (b:BS):Prop:=∀p∈st.ah,∀q∈b.ah,p.nm=q.nm->∀j,q.tops.getD j 0*st.prod=(bh st p).getD j 0*b.bot
theorem uX {f:Int->Int->Int} (hf:f 0 0=0) {xs ys:List Int} (h:xs.length=ys.length) (j:Nat):(List.zipWith f xs ys).getD j 0=f (xs.getD j 0) (ys.getD j 0):=by
 rw [gG,gG,gG,QB]
 by_cases c:j<xs.length
 . rw [aW c,aW (by omega)];rfl
 . rw [uC (by omega),uC (by omega)];exact hf.symm
def uY (rs:List Row) (f:Str->Int):Int:=(rs.map fun r=>r.2*f r.1).sum
theorem Ls {st:HS}:∀(rs:List Row) (acc:List Int),(∀r∈rs,(bh st (c9 st r.1)).length=acc.length)->∀j,(yK st acc rs).getD j 0=acc.getD j 0+uY rs fun x=>(bh st (c9 st x)).getD j 0
 | [],acc,_,j=>by show acc.getD j 0=_+0;omega
 | r::rs,acc,h,j=>by
   have hr:=h r cM
   have e:(List.zipWith (fun x t=>x+r.2*t) acc (bh st (c9 st r.1))).length=acc.length:=by rw [nZ,hr];omega
   show (yK st (List.zipWith (fun x t=>x+r.2*t) acc (bh st (c9 st r.1))) rs).getD j 0=_
   rw [Ls rs _ (fun x hx=>by rw [e];exact h x (cG _ hx)),uX (f:=fun x t=>x+r.2*t) (by show (0:Int)+r.2*0=0;omega) hr.symm]
   unfold uY
   rw [bH,cI]
   show acc.getD j 0+r.2*(bh st (c9 st r.1)).getD j 0+(rs.map fun r=>r.2*(bh st (c9 st r.1)).getD j 0).sum=acc.getD j 0+(r.2*(bh st (c9 st r.1)).getD j 0+(rs.map fun r=>r.2*(bh st (c9 st r.1)).getD j 0).sum)
   omega
theorem Rx (nd:(b.ah.map (fun p:BP=>p.nm)).Nodup) (h:v9 b rs) (f:Str->Int):∀i≤rs.length,(b.ah.map fun p=>f p.nm*dB (rs.take i) p.nm).sum=uY (rs.take i) f:=by
 intro i
 induction i with
 | zero=>
   intro _
   rw [List.take_zero]
   show (b.ah.map fun p=>f p.nm*0).sum=0
   clear nd h
   generalize b.ah=ps
   induction ps with
   | nil=>rfl
   | cons p ps ih=>rw [bH,cI,ih];omega
 | succ i ih=>
   intro hi
   have ei:=aW (show i<rs.length by omega)
   obtain ⟨_,j,p,hp,e,_⟩:=h.row _ (bJ ei)
   have hn:(rs[i]).1∉(rs.take i).map (fun r:Row=>r.1):=by
    rw [Bp]
    exact j_ h.nd (by rw [bF,ei];rfl)
   rw [take_snoc ei]
   generalize rs[i]=r at *
   replace ih:=ih (by omega)
   generalize rs.take i=us at *
   have:uY (us++[r]) f=uY us f+r.2*f r.1:=by unfold uY;rw [bN,List.sum_append];simp
   rw [this,<-ih]
   clear this ih hi ei
   have hm:=bJ hp
   clear hp
   generalize b.ah=ps at *
   clear h
   induction ps with
   | nil=>simp at hm
   | cons x ps ihp=>
     obtain ⟨n1,n2⟩:=gR.mp (show (x.nm::ps.map (fun p:BP=>p.nm)).Nodup from nd)
     rw [bH,bH,cI,cI]
     rcases c6.mp hm with z|z
     . subst z
       have rest:(ps.map fun p=>f p.nm*dB (us++[r]) p.nm)=ps.map fun p=>f p.nm*dB us p.nm:=zY fun y hy=>by
        rw [mS hn,az (fun z=>n1 (bQ.mpr ⟨y,hy,z.symm.trans e.symm⟩))]
       rw [rest,mS hn,aA e.symm,e,um hn,Int.mul_zero,pI r.2]
       omega
     . have ne:x.nm≠r.1:=fun z'=>n1 (bQ.mpr ⟨p,z,e.trans z'.symm⟩)
       rw [ihp n2 z,mS hn,az (fun z=>ne z.symm)]
       omega
theorem Lu:∀(rs:List Row) {s:HS} {p':Pt},p'∈(rs.foldl gc s).ah->∃p∈s.ah,p'.nm=p.nm/\p'.row=p.row/\p'.sc=p.sc
 | [],_,p',h=>⟨p',h,Z,Z,Z⟩
 | r::rs,s,p',h=>by
   obtain ⟨p,hp,e1,e2,e3⟩:=Lu rs (s:=gc s r) h
   obtain ⟨_,q,hq,e⟩:=C9 hp
   refine ⟨q,hq,?_⟩
   rw [e1,e2,e3,e]
   split <;> exact ⟨Z,Z,Z⟩
theorem ZD {ps:List BP} (j:Nat):iI ps (ps.map fun p=>dB rs p.nm) j=(ps.map fun p=>p.tops.getD j 0*dB rs p.nm).sum:=by
 unfold iI
 induction ps with
 | nil=>rfl
 | cons p ps ih=>rw [bH,wK,cI,bH,cI,ih]
theorem ID (k:Int) {α:Type} (l:List α) (f g:α->Int) (h:∀x∈l,f x*k=g x):(l.map f).sum*k=(l.map g).sum:=by
 induction l with
 | nil=>show (0:Int)*k=0;omega
 | cons x l ih=>
   rw [bH,bH,cI,cI,rP,ih fun y hy=>h y (cG _ hy),h x cM]
theorem Uy {st st':HS} {kept whole:Int} {added:List Int} (wf:Wf st) (bl:uw st kept whole lost added) (ec:st'.bM=(cU st kept whole added).bM) (ep:st'.prod=(cU st kept whole added).prod) {p':Pt} (hp:p∈st.ah) (e2:p'.row=p.row) (e3:p'.sc=p.sc*kept / c5 st kept whole added)
  {t0 gB B:Int} {j:Nat} (tj:t0*st.prod=(bh st p).getD j 0*B) (eB:gB*st.prod=added.getD j 0*B):(t0*kept+gB)*st'.prod=(bh st' p').getD j 0*(B*whole):=by
 obtain ⟨hd,hdw,hds,hdc⟩:=bl.dvds
 have ahO:st'.bM=(fV st kept added).map (· / c5 st kept whole added):=by
  rw [ec];unfold cU;rw [Ue]
 have s1:1<=whole / c5 st kept whole added:=by
  have w1:0<whole:=by have:=bl.l;have:=bl.w;have:=bl.k;omega
  have:=Int.le_of_dvd w1 hdw
  exact Int.le_ediv_of_mul_le hd (by omega)
 have X7:st'.prod=st.prod*(whole / c5 st kept whole added):=by
  rw [ep];unfold cU;rw [EI s1]
 have hds:=hds p hp
 have hrl:=wf.rows p hp
 have hcl:=wf.g_
 have gl:=bl.len
 have ewd:c5 st kept whole added*(whole / c5 st kept whole added)=whole:=Int.mul_ediv_cancel' hdw
 have a5:c5 st kept whole added*p'.sc=p.sc*kept:=by rw [e3];exact Int.mul_ediv_cancel' hds
 rw [X7]
 clear ec ep X7 e3 bl hdw hds s1
 generalize c5 st kept whole added=d at *
 have etop:d*(bh st' p').getD j 0=(bh st p).getD j 0*kept+added.getD j 0:=by
  have a1:(bh st' p').getD j 0=p'.sc*p.row.getD j 0+((fV st kept added).map (· / d)).getD j 0:=by
   unfold bh
   rw [ahO,e2,uX (f:=fun r c=>p'.sc*r+c) (by show p'.sc*0+0=0;omega)]
   rw [aE]
   unfold fV
   rw [nZ,gl,hrl,hcl]
   omega
  have a2:(bh st p).getD j 0=p.sc*p.row.getD j 0+st.bM.getD j 0:=by
   unfold bh
   exact uX (f:=fun r c=>p.sc*r+c) (by show p.sc*0+0=0;omega) (by rw [hrl,hcl]) j
  have a3:(fV st kept added).getD j 0=st.bM.getD j 0*kept+added.getD j 0:=by
   unfold fV
   exact uX (f:=fun t m=>t*kept+m) (by show (0:Int)*_+0=0;omega) gl.symm j
  have a4:d*((fV st kept added).map (· / d)).getD j 0=(fV st kept added).getD j 0:=by
   rw [gG,gG,bF]
   cases ec:(fV st kept added)[j]? with
   | none=>show _*0=(0:Int);omega
   | some x=>exact Int.mul_ediv_cancel' (hdc x (bJ ec))
  rw [a1,pJ,<-jS,a5,a4,a3,a2]
  grind
 generalize whole / d=Uz at *
 generalize (bh st' p').getD j 0=T' at *
 generalize (bh st p).getD j 0=T at *
 generalize added.getD j 0=gS at *
 refine Int.eq_of_mul_eq_mul_left (a:=d) (by omega) ?_
 have l1:d*((t0*kept+gB)*(st.prod*Uz))=(t0*st.prod*kept+gB*st.prod)*(d*Uz):=by grind
 have l2:d*(T'*(B*whole))=(d*T')*(B*whole):=by grind
 rw [l1,l2,ewd,tj,eB,etop]
 grind
theorem UA (t:Df st b) (rl:iS st b) (wf:Wf st) (wb:uW b) (c:qb st rs) (rb:v9 b rs) (bo:lY b (c7 b rs) 0 0):Df (kK st rs) (iY b (c7 b rs) 0 0):=by
 intro p' sU q' hq' en j
 have bl:=c.blend wf
 have ew:=rl.whole
 have EN:∀r∈rs,∃p∈st.ah,p.nm=r.1:=fun r hr=>by obtain ⟨p,hp,e,_⟩:=(c.row r hr).2.2;exact ⟨p,hp,e⟩
 have eG:=Iq wf EN
 have gl:(fX st rs).length=st.bM.length:=bl.len
 obtain ⟨p1,hp1,e1,e2,e3⟩:=Lu rs (s:=cU st (bK st-bu rs) (bK st) (fX st rs)) sU
 have eK:=v_ rs (cU st (bK st-bu rs) (bK st) (fX st rs))
 have ahP:p1∈st.ah.map (fun p:Pt=>{ p with sc:=p.sc*(bK st-bu rs) / c5 st (bK st-bu rs) (bK st) (fX st rs) }):=by
  have h:=hp1
  unfold cU at h
  rw [Az] at h
  exact h
 obtain ⟨p,hp,rfl⟩:=bQ.mp ahP
 have e1:p'.nm=p.nm:=e1
 have e2:p'.row=p.row:=e2
 have e3:p'.sc=p.sc*(bK st-bu rs) / c5 st (bK st-bu rs) (bK st) (fX st rs):=e3
 have hcl:=wf.g_
 obtain ⟨h1,_⟩:=mG.mp (show q'∈(dg b (c7 b rs) 0 0).filter _ from hq')
 obtain ⟨k,q,a,eq,_,zH⟩:=jv (show q'∈List.zipWith (m9 (ia b (c7 b rs) 0 0) (bD b-0-(c7 b rs).sum)) b.ah (c7 b rs) from h1)
 have hq:=bJ eq
 have enq:p.nm=q.nm:=by rw [<-e1,en,zH];rfl
 have tj:=t p hp q hq enq j
 have hs:=Iz wb.nd rb rs.length (aP _)
 rw [cC] at hs
 have eqt:q'.tops.getD j 0=q.tops.getD j 0*(bD b-bu rs)+(gj b (c7 b rs)).getD j 0:=by
  rw [zH]
  show (List.zipWith _ q.tops (ia b (c7 b rs) 0 0)).getD j 0=_
  rw [uX (f:=fun t g=>t*(bD b-0-(c7 b rs).sum)+g) (by show (0:Int)*_+0=0;omega) (by rw [wb.tl q hq,yN]),hs,Int.sub_zero]
  rfl
 have eGj:(fX st rs).getD j 0=uY rs fun x=>(bh st (c9 st x)).getD j 0:=by
  rw [eG,Ls rs _ (fun r hr=>by
   obtain ⟨x,hx,e⟩:=EN r hr
   rw [jM wf hx e,mW,yL wf hx])]
  have:(List.replicate st.bM.length (0:Int)).getD j 0=0:=by
   rw [gG,List.getElem?_replicate]
   split <;> rfl
  omega
 have eBj:(gj b (c7 b rs)).getD j 0*st.prod=(fX st rs).getD j 0*b.bot:=by
  have pr:=Rx wb.nd rb (fun x=>(bh st (c9 st x)).getD j 0) rs.length (aP _)
  rw [cC] at pr
  rw [eGj,<-pr]
  by_cases cj:j<b.own.length
  . have e:(gj b (c7 b rs)).getD j 0=(b.ah.map fun p=>p.tops.getD j 0*dB rs p.nm).sum:=by
     unfold gj
     rw [gG,bF,List.getElem?_range cj]
     exact ZD j
    rw [e,ID st.prod b.ah (fun p=>p.tops.getD j 0*dB rs p.nm) (fun p=>((bh st (c9 st p.nm)).getD j 0*dB rs p.nm)*b.bot) (fun x hx=>?_)]
    . exact (ID b.bot b.ah (fun p=>(bh st (c9 st p.nm)).getD j 0*dB rs p.nm) _ fun x _=>rfl).symm
    . obtain ⟨i,hi,ei⟩:=pD hx
      obtain ⟨y,hy,ey,_⟩:=rl.at (i:=i) (q:=x) (by rw [aW hi,ei])
      have hy:=bJ hy
      have:=t y hy x hx ey j
      rw [jM wf hy ey,Int.mul_right_comm,this,Int.mul_right_comm]
  . have z1:(gj b (c7 b rs)).getD j 0=0:=by
     rw [gG,uC (by rw [mQ];omega)];rfl
    have z2:(fX st rs).getD j 0=0:=by
     rw [gG,uC (by rw [gl,hcl,rl.own];omega)];rfl
    rw [z1,pr,<-eGj,z2]
    omega
 rw [eqt,<-ew]
 show _=(bh (kK st rs) p').getD j 0*(b.bot*bD b)
 rw [<-ew]
 exact Uy wf bl (by unfold kK;rw [eK]) (by unfold kK;rw [eK]) hp e2 e3 tj eBj
theorem UB (t:Df st b) (rl:iS st b) (wf:Wf st) (wb:uW b) {o:Str} (h1:x∉b.ah.map (fun p:BP=>p.nm)):Df (yF st x o wo we) (yM b x o wo we):=by
 intro p hp q hq en j
 have nmE:∀y∈st.ah,y.nm∈b.ah.map (fun p:BP=>p.nm):=fun y hy=>by
  obtain ⟨i,hi,ei⟩:=pD hy
  obtain ⟨z,hz,ez,_⟩:=rl.at' (i:=i) (p:=y) (by rw [aW hi,ei])
  rw [ez]
  exact bQ.mpr ⟨z,bJ hz,Z⟩
 show q.tops.getD j 0*st.prod=(bh st p).getD j 0*b.bot
 rcases fZ.mp (show p∈st.ah++[_] from hp) with zp|zp
 . rcases fZ.mp (show q∈b.ah++[_] from hq) with zq|zq
   . exact t p zp q zq en j
   . rw [fU.mp zq] at en
     have en:p.nm=x:=en
     exact absurd (by rw [<-en];exact nmE p zp) h1
 . rcases fZ.mp (show q∈b.ah++[_] from hq) with zq|zq
   . rw [fU.mp zp] at en
     have en:x=q.nm:=en
     exact absurd (by rw [en];exact bQ.mpr ⟨q,zq,Z⟩) h1
   . rw [fU.mp zp,fU.mp zq]
     have e1:bh st ⟨x,o,wo,we,1,m8 st ((List.replicate st.own.length 0).set (st.own.idxOf o) st.prod)⟩=(List.replicate st.own.length 0).set (st.own.idxOf o) st.prod:=by
      show List.zipWith (fun r c=>1*r+c) (List.zipWith (fun t c=>t-c) ((List.replicate st.own.length 0).set (st.own.idxOf o) st.prod) st.bM) st.bM=_
      rw [C7,wf.g_]
      exact zW (by rw [fq,mW];exact aP _)
     rw [e1,rl.own]
     show ((List.replicate b.own.length 0).set (b.own.idxOf o) b.bot).getD j 0*st.prod=((List.replicate b.own.length 0).set (b.own.idxOf o) st.prod).getD j 0*b.bot
     have key:∀v:Int,((List.replicate b.own.length 0).set (b.own.idxOf o) v).getD j 0=if b.own.idxOf o=j/\j<b.own.length then v else 0:=fun v=>by
      rw [gG,List.getElem?_set]
      by_cases c:b.own.idxOf o=j
      . rw [aA c]
        by_cases d:b.own.idxOf o<(List.replicate b.own.length (0:Int)).length
        . rw [aA d,aA ⟨c,by rw [mW] at d;omega⟩];rfl
        . rw [az d,az (fun z=>d (by rw [mW];omega))];rfl
      . rw [az c,az (fun z=>c z.1),List.getElem?_replicate]
        split <;> rfl
     rw [key,key]
     split
     . exact pI _ _
     . omega
theorem Ry {st:HS} {b:BS} (t:Df st b) (rl:iS st b) (wf:Wf st) (wb:uW b) {p:Pt} {q:BP} (hp:p∈st.ah) (hq:q∈b.ah) (e:p.nm=q.nm):Ar st p=fK b.own q.tops b.bot:=by
 have p1:=wf.iD
 have b1:=wb.b1
 have l1:(bh st p).length=b.own.length:=by rw [yL wf hp,wf.g_,rl.own]
 have l2:q.tops.length=b.own.length:=wb.tl q hq
 have tj:=t p hp q hq e
 unfold Ar fK
 rw [rl.own]
 generalize bh st p=xs at *
 generalize q.tops=ys at *
 generalize b.own=own at *
 have step:∀(own:List Str) (xs ys:List Int),xs.length=own.length->ys.length=own.length->(∀j,ys.getD j 0*st.prod=xs.getD j 0*b.bot)->(List.zip own xs).filterMap (fun x=>if 0<x.2 then some (x.1,Jm.fr x.2 st.prod) else none)=(List.zip own ys).filterMap fun x=>if 0<x.2 then some (x.1,Jm.fr x.2 b.bot) else none:=by
  intro own
  induction own with
  | nil=>intro xs ys _ _ _;simp
  | cons o own ih=>
    intro xs ys h1 h2 h3
    cases xs with
    | nil=>simp at h1
    | cons x xs=>
      cases ys with
      | nil=>simp at h2
      | cons y ys=>
        have h0:y*st.prod=x*b.bot:=by simpa using h3 0
        have ih:=ih xs ys (by simpa using h1) (by simpa using h2) (fun j=>by simpa using h3 (j+1))
        rw [List.zip_cons_cons,List.zip_cons_cons,zX,zX,ih]
        by_cases c:0<x
        . have c2:0<y:=by
           rcases DX 0 y with z|z
           . exact z
           . have k1:y*st.prod<=0:=Int.mul_nonpos_of_nonpos_of_nonneg z (by omega)
             have k2:0<x*b.bot:=Int.mul_pos c (by omega)
             omega
          simp only [aA c,aA c2]
          rw [Jm.XI (t:=x) (b:=st.prod) (t':=y) (b':=b.bot) (by omega) (by omega) h0.symm]
        . have c2:¬ 0<y:=fun z=>by
           have k1:0<y*st.prod:=Int.mul_pos z (by omega)
           have k2:x*b.bot<=0:=Int.mul_nonpos_of_nonpos_of_nonneg (by omega) (by omega)
           omega
          simp only [az c,az c2]
 exact step own xs ys l1 l2 tj
theorem CA {α:Type} (f g:α->Int):∀l:List α,(l.map fun x=>f x+g x).sum=(l.map f).sum+(l.map g).sum
 | []=>rfl
 | a::l=>by rw [bH,bH,bH,cI,cI,cI,CA f g l];omega
theorem wX {α:Type} (f:α->Int) (k:Int):∀l:List α,(l.map fun x=>f x*k).sum=(l.map f).sum*k
 | []=>by simp
 | a::l=>by rw [bH,bH,cI,cI,wX f k l,rP]
theorem NN:∀(l:List Int) (n:Nat),l.length=n->(List.range n).map (fun i=>l.getD i 0)=l:=fun l n h=>by
 refine List.ext_getElem? fun i=>?_
 rw [bF]
 by_cases hi:i<n
 . rw [List.getElem?_range hi,aW (by omega)]
   show some (l.getD i 0)=_
   rw [gG,aW (by omega)];rfl
 . rw [uC (by rw [CP];omega),uC (by omega)];rfl
theorem IE {B:Int} {n:Nat}:∀(ps:List BP) (as:List Int),(∀p∈ps,p.tops.length=n/\p.tops.sum=B)->as.length=ps.length->((List.range n).map (iI ps as)).sum=B*as.sum
 | [],[],_,_=>by
   have:(List.range n).map (iI [] [])=(List.range n).map fun _=>(0:Int)*0:=by congr 1
   rw [this,wX];simp
 | [],_::_,_,h=>by simp at h
 | _::_,[],_,h=>by simp at h
 | p::ps,a::as,hp,hl=>by
   have e:(List.range n).map (iI (p::ps) (a::as))=(List.range n).map fun i=>p.tops.getD i 0*a+iI ps as i:=by
    congr 1
   obtain ⟨h1,h2⟩:=hp p cM
   have ih:=IE ps as (fun x hx=>hp x (cG _ hx)) (by simpa using hl)
   rw [e,CA,wX,NN _ _ h1,ih,h2,cI,pJ]
theorem wY:∀{l:List Int} {i:Nat} {x:Int},i<l.length->(l.set i (l.getD i 0+x)).sum=l.sum+x
 | a::l,0,x,_=>by rw [Kf,cI,cI];show a+x+_=_;omega
 | a::l,i+1,x,h=>by
   rw [Ke,cI,cI]
   have:=wY (l:=l) (i:=i) (x:=x) (by simpa using h)
   have e:(a::l).getD (i+1) 0=l.getD i 0:=rfl
   rw [e,this];omega
 | [],_,_,h=>by simp at h
theorem PM (k:Int):∀{ts gs:List Int},ts.length=gs.length->(List.zipWith (fun t g=>t*k+g) ts gs).sum=ts.sum*k+gs.sum
 | [],[],_=>by simp
 | t::ts,g::gs,h=>by
   have:=PM k (ts:=ts) (gs:=gs) (by simpa using h)
   rw [wK,cI,cI,cI,this,rP];omega
 | [],_::_,h=>by simp at h
 | _::_,[],h=>by simp at h
theorem WQ (wf:uW b) (ok:lY b as seat aw) (hs:∀p∈b.ah,p.tops.sum=b.bot):∀p∈(iY b as seat aw).ah,p.tops.sum=(iY b as seat aw).bot:=fun p hp=>by
 obtain ⟨h1,_⟩:=mG.mp (show p∈(dg b as seat aw).filter _ from hp)
 obtain ⟨i,x,a,ex,ea,rfl⟩:=jv (show p∈List.zipWith (m9 (ia b as seat aw) (bD b-aw-as.sum)) b.ah as from h1)
 have hx:=bJ ex
 show (List.zipWith (fun t g=>t*(bD b-aw-as.sum)+g) x.tops (ia b as seat aw)).sum=b.bot*bD b
 rw [PM _ (by rw [wf.tl x hx,yN]),hs x hx]
 have eg:(gj b as).sum=b.bot*as.sum:=IE b.ah as (fun p hp=>⟨wf.tl p hp,hs p hp⟩) ok.len
 have e2:(ia b as seat aw).sum=b.bot*(as.sum+aw):=by
  unfold ia
  by_cases h:0<aw
  . rw [aA h,wY (by rw [mQ];exact ok.seat),eg,pJ,pI aw]
  . have:aw=0:=by have:=ok.Cz;omega
    rw [az h,eg,this,Int.add_zero]
 rw [e2,<-pJ]
 congr 1
 omega
structure gk (c:Nat) (st:HS) (b:BS):Prop where
 jR:uW b
 rel:iS st b
 AF:Df st b
 c_:∀u∈st.c_,Jm.Sz (60*c+60) u
 stp:st.stp.length<=c
 prod:Jm.Sz (60*c+1) st.prod
 bot:Jm.Sz (60*c+1) b.bot
 wo:∀p∈b.ah,p.wo<=1000000000*((c:Int)+1)
 we:∀p∈b.ah,p.we<=1000000000
 pl:b.ah.length<=50+c
 kl:b.d_.length<=900+c
 own:0<b.own.length
 nm:∀p∈b.ah,PyData.strOk p.nm=true/\PyData.strOk p.ow=true
 ku:st.ku=[]/\b.ku=[]
 d_:st.nms=b.d_
 nk:∀x∈b.d_,isNm x=true
 on:∀o∈b.own,isNm o=true
 sum:∀p∈b.ah,p.tops.sum=b.bot
variable {c:Nat}
theorem gk.mono (g:gk c st b):gk (c+1) st b:=⟨g.jR,g.rel,g.AF,fun u hu=>(g.c_ u hu).mono (by omega),by have:=g.stp;omega,g.prod.mono (by omega),g.bot.mono (by omega),fun p hp=>by have:=g.wo p hp;omega,g.we,by have:=g.pl;omega,by have:=g.kl;omega,g.own,g.nm,g.ku,g.d_,g.nk,g.on,g.sum⟩
theorem gk.nms (g:gk c st b):ab3 st.ah:=fun p hp=>by
 obtain ⟨i,hi,e⟩:=pD hp
 obtain ⟨q,eq,e1,e2,_⟩:=g.rel.at' (i:=i) (p:=p) (by rw [aW hi,e])
 rw [e1,e2]
 exact g.nm q (bJ eq)
theorem CB:∀{ps:List BP} {m:Int},(∀p∈ps,1<=p.wo/\p.wo<=m)->0<=(ps.map fun p=>p.wo).sum/\(ps.map fun p=>p.wo).sum<=m*(ps.length:Int)
 | [],m,_=>by show 0<=(0:Int)/\(0:Int)<=m*0;omega
 | p::ps,m,h=>by
   have h0:=h p cM
   have ih:=CB (ps:=ps) (m:=m) fun x hx=>h x (cG _ hx)
   rw [bH,cI,mX,show (((ps.length+1:Nat)):Int)=(ps.length:Int)+1 from by omega,pJ,Int.mul_one]
   omega
theorem gk.whole (g:gk c st b) (hc:c<=100):0<=bD b/\Jm.Sz 60 (bD b):=by
 have h:=CB (ps:=b.ah) (m:=101000000000) fun p hp=>⟨g.jR.w1 p hp,by have:=g.wo p hp;omega⟩
 refine ⟨h.1,?_⟩
 have hl:=g.pl
 have h2:(101000000000:Int)*(b.ah.length:Int)<=15150000000000:=by omega
 have h3:bD b<=15150000000000:=Int.le_trans h.2 h2
 have h1:0<=bD b:=h.1
 have:Jm.Sz 60 (15150000000000:Int):=pU (by decide +kernel)
 exact this.of_le (by omega)
theorem ZE {st':HS} {kept:Int} (g:gk c st b) (bl:uw st kept (bK st) lost added) (bo:lY b as seat aw) (hc:c<=90) (eC:st'={ cU st kept (bK st) added with ah:=st'.ah }) (rw':iS st' (iY b as seat aw)) (rt:Df st' (iY b as seat aw)):gk (c+1) st' (iY b as seat aw):=by
 have zw:=g.whole (by omega)
 have ew:=g.rel.whole
 obtain ⟨hs,hsw,_,_⟩:=bl.dvds
 have w1:0<bK st:=by have:=bl.k;have:=bl.l;have:=bl.w;omega
 have s1:1<=bK st / c5 st kept (bK st) added:=by
  have:=Int.le_of_dvd w1 hsw
  exact Int.le_ediv_of_mul_le hs (by omega)
 have s2:bK st / c5 st kept (bK st) added<=bK st:=Int.ediv_le_self _ (by omega)
 have zs:Jm.Sz 60 (bK st / c5 st kept (bK st) added):=by
  have:=zw.2
  rw [<-ew] at this
  exact this.of_le (by omega)
 have De:∀p∈(iY b as seat aw).ah,∃p0∈b.ah,∃a,a∈as/\p=m9 (ia b as seat aw) (bD b-aw-as.sum) p0 a:=fun p hp=>by
  obtain ⟨h1,_⟩:=mG.mp (show p∈(dg b as seat aw).filter _ from hp)
  obtain ⟨i,x,a,ex,ea,e⟩:=jv (show p∈List.zipWith (m9 (ia b as seat aw) (bD b-aw-as.sum)) b.ah as from h1)
  exact ⟨x,bJ ex,a,bJ ea,e⟩
 have zb:Jm.Sz (60*(c+1)+1) (b.bot*bD b):=(g.bot.mul zw.2).mono (by omega)
 refine ⟨WO g.jR bo (zb.mono (by omega)),rw',rt,fun u hu=>?_,?_,?_,zb,fun p hp=>?_,(fun p hp=>by obtain ⟨p0,h0,a,_,rfl⟩:=De p hp;exact g.we p0 h0),?_,(by show b.d_.length<=_;have:=g.kl;omega),g.own,fun p hp=>?_,⟨?_,g.ku.2⟩,?_,g.nk,g.on,WQ g.jR bo g.sum⟩
 . rw [eC] at hu
   have hu:u∈(cU st kept (bK st) added).c_:=hu
   unfold cU at hu
   rw [Ug] at hu
   obtain ⟨x,hx,rfl⟩:=bQ.mp hu
   exact ((g.c_ x hx).mul zs).mono (by omega)
 . rw [eC]
   show (cU st kept (bK st) added).stp.length<=c+1
   unfold cU fR
   split
   . show (st.stp++[_]).length<=c+1
     rw [dh];have:=g.stp;show st.stp.length+1<=c+1;omega
   . show st.stp.length<=c+1
     have:=g.stp;omega
 . rw [eC]
   show Jm.Sz _ (cU st kept (bK st) added).prod
   unfold cU
   rw [EI s1]
   exact (g.prod.mul zs).mono (by omega)
 . obtain ⟨p0,h0,a,ha,rfl⟩:=De p hp
   have:=g.wo p0 h0
   have:=bo.a0 a ha
   show p0.wo-a<=1000000000*(((c+1:Nat):Int)+1)
   omega
 . have:=List.length_filter_le (fun p:BP=>decide (0<p.wo)) (dg b as seat aw)
   rw [v7 bo.len] at this
   have:=g.pl
   show (List.filter _ _).length<=_
   omega
 . obtain ⟨p0,h0,a,_,rfl⟩:=De p hp
   exact g.nm p0 h0
 . rw [eC]
   show (cU st kept (bK st) added).ku=[]
   unfold cU
   rw [Uj]
   exact g.ku.1
 . rw [eC]
   show (cU st kept (bK st) added).nms=b.d_
   unfold cU
   rw [Ui]
   exact g.d_
theorem ZF (g:gk c st b) (wf:Wf st) (ok:qb st rs) (rb:v9 b rs) (bo:lY b (c7 b rs) 0 0) (hc:c<=90):gk (c+1) (kK st rs) (iY b (c7 b rs) 0 0):=
 ZE g (ok.blend wf) bo hc (v_ rs (cU st (bK st-bu rs) (bK st) (fX st rs))) (Uv g.rel wf ok) (UA g.AF g.rel wf g.jR ok rb bo)
theorem ZG (st:HS) (rs:List Row):(kK st rs).kn<=st.kn:=by
 unfold kK
 rw [v_]
 show (cU st (bK st-bu rs) (bK st) (fX st rs)).kn<=st.kn
 unfold cU fR
 split
 . exact f_ _
 . exact aP _
theorem GB (h:isNm x=true):PyData.strOk x=true:=by
 unfold PyData.strOk
 rw [Array.all_eq_true']
 intro c hc
 unfold isNm isName at h
 have h1:=pF.mp (kX.mp h).2 c (by simpa using hc)
 rw [Zd] at h1
 have hm:=eO h1
 have:∀c∈("abcdefghijklmnopqrstuvwxyz":Str).cps.toList,c<1000:=by decide +kernel
 have:=this c hm
 exact cy (by omega)
theorem WR (n:Nat):(List.replicate n (0:Int)).sum=0:=by
 induction n with
 | zero=>rfl
 | succ n ih=>rw [CO,cI,ih];rfl
theorem ZH (g:gk c st b) (wf:Wf st) {o:Str} (h1:x∉b.ah.map (fun p:BP=>p.nm)) (h2:1<=wo) (h2':wo<=1000000000) (h3:b.ah.length<50) (h4:b.d_.length<900) (hx:isNm x=true) (ho:o∈b.own) (h5:we<=1000000000):gk c (yF st x o wo we) (yM b x o wo we):=by
 have P:∀{M:BP->Prop},(∀p∈b.ah,M p)->M ⟨x,o,wo,we,(List.replicate b.own.length 0).set (b.own.idxOf o) b.bot⟩->∀p∈(yM b x o wo we).ah,M p:=fun a c p hp=>by
  rcases fZ.mp (show p∈b.ah++[_] from hp) with z|z
  . exact a p z
  . rw [fU.mp z];exact c
 refine ⟨ZC g.jR h1 h2 (by omega) (by omega),Uw g.rel x o wo we,UB g.AF g.rel wf g.jR h1,g.c_,g.stp,g.prod,g.bot,P g.wo (by show wo<=_;omega),P g.we h5,by show (b.ah++[_]).length<=50+c;rw [dh];show b.ah.length+1<=50+c;omega,by show (b.d_++[_]).length<=900+c;rw [dh];show b.d_.length+1<=900+c;omega,g.own,P g.nm ⟨GB hx,GB (g.on o ho)⟩,g.ku,?_,?_,g.on,P g.sum ?_⟩
 . show st.nms++[x]=b.d_++[x];rw [g.d_]
 . intro y hy
   rcases fZ.mp (show y∈b.d_++[x] from hy) with z|z
   . exact g.nk y z
   . rw [fU.mp z];exact hx
 . show ((List.replicate b.own.length 0).set (b.own.idxOf o) b.bot).sum=b.bot
   have hi:b.own.idxOf o<(List.replicate b.own.length (0:Int)).length:=by rw [mW];exact List.idxOf_lt_length_iff.mpr ho
   have:=wY (x:=b.bot) hi
   rw [show (List.replicate b.own.length (0:Int)).getD (b.own.idxOf o) 0=0 from by rw [gG,aW hi,List.getElem_replicate];rfl,Int.zero_add,WR,Int.zero_add] at this
   exact this
theorem EO:∀(l:List Str) (st:HS),st.ah=[]->(∀u∈st.c_,u=0)->(l.foldl gI st).ah=[]/\(l.foldl gI st).nms=st.nms/\(l.foldl gI st).stp=st.stp/\(l.foldl gI st).prod=st.prod/\(l.foldl gI st).ku=st.ku/\∀u∈(l.foldl gI st).c_,u=0
 | [],_,h,hp=>⟨h,Z,Z,Z,Z,hp⟩
 | o::l,st,h,hp=>by
   rw [mH]
   exact EO l (gI st o) (by show st.ah.map _=[];rw [h];rfl) (fun u hu=>by
    rcases fZ.mp (show u∈st.c_++[0] from hu) with z|z
    . exact hp u z
    . exact fU.mp z)
theorem gd0 {own:List Str} (h0:0<own.length) (h1:own.length<=100) (hon:∀o∈own,isNm o=true):gk 0 (own.foldl gI hs0) ⟨own,[],1,[],[]⟩/\(own.foldl gI hs0).nms=[] :=by
 obtain ⟨k1,k2,k3,k4,k5,k6⟩:=EO own hs0 rfl (fun u hu=>absurd hu (by simp [hs0]))
 refine ⟨⟨⟨vV,fun p hp=>absurd hp (by simp),fun p hp=>absurd hp (by simp),iW _,(by show Jm.Sz 7000 1;exact pU (by decide +kernel)),fun p hp=>absurd hp (by simp),h1,f_ _,f_ _⟩,⟨by rw [Av];rfl,by unfold jx qe;rw [k1];rfl⟩,(fun p hp=>by rw [k1] at hp;exact absurd hp (by simp)),(fun u hu=>by rw [k6 u hu];exact pU (by decide +kernel)),by rw [k3];exact aP _,(by rw [k4];show Jm.Sz (60*0+1) 1;exact pU (by decide +kernel)),(by show Jm.Sz (60*0+1) 1;exact pU (by decide +kernel)),fun p hp=>absurd hp (by simp),fun p hp=>absurd hp (by simp),f_ _,f_ _,h0,fun p hp=>absurd hp (by simp),⟨k5,Z⟩,k2,(fun x hx=>nomatch hx),hon,fun p hp=>absurd hp (by simp)⟩,k2⟩
theorem NO (g:gk c st b) (wf:Wf st) (h:Uo (lX b) rs) (hne:rs≠[]) (hc:c<=90):qb st rs/\v9 b rs/\lY b (c7 b rs) 0 0:=by
 have eW:bu (lX b)=bD b:=by unfold bu lX bD;rw [fH];rfl
 have hl:bu rs<bD b:=by
  rcases h.lost with z|z
  . rw [<-eW];exact z
  . exact absurd z hne
 have rb:v9 b rs:=⟨h.nd,fun r hr=>by
  obtain ⟨r1,_,w,hw,e,le⟩:=h.row r hr
  obtain ⟨p,hp,rfl⟩:=bQ.mp hw
  obtain ⟨j,hj,ej⟩:=pD hp
  exact ⟨r1,j,p,by rw [aW hj,ej],e,le⟩⟩
 have zw:=g.whole (by omega)
 refine ⟨⟨h.nd,hne,?_,fun r hr=>?_,by rw [g.rel.whole];exact hl,by rw [g.rel.whole];exact zw.2,g.prod.mono (by omega),fun u hu=>(g.c_ u hu).mono (by omega),by have:=g.stp;omega⟩,rb,ZA g.jR rb hl g.own zw.2⟩
 . have:=h.len
   unfold lX at this
   rw [aE] at this
   have:=g.pl
   omega
 . obtain ⟨r1,j,q,hq,e,le⟩:=rb.row r hr
   obtain ⟨p,hp,e1,_,e3,_⟩:=g.rel.at hq
   have r2:=(h.row r hr).2.1
   have:Jm.Sz 60 (1000000000:Int):=pU (by decide +kernel)
   exact ⟨r1,this.of_le (by omega),p,bJ hp,e1.trans e,by rw [e3];exact le⟩
def wc (K:Fg) (ρ:fJ) (H:Hp) (z:Addr) (xs:List V):Prop:=∀(ρ':fJ) (H':Hp),aF (out ρ H) (out ρ' H')->aC K H' z xs
theorem wc.of (h:aC K H z xs):wc K (fun _=>none) H z xs:=fun ρ' H' s=>by
 rcases h with (h|⟨o,h⟩)|h
 . exact .inl (.inl (yz (s _ _ (EA h rfl))).1)
 . exact .inl (.inr ⟨o,(yz (s _ _ (EA h rfl))).1⟩)
 . exact .inr h
theorem wc.go (h:wc K ρ H z xs) (s:aF (out ρ H) (out ρ' H')):wc K ρ' H' z xs:=fun _ _ s'=>h _ _ (s.trans s')
inductive ach (T:TC) (K:Fg) (vs:List V) (H:Hp) (Q:VK) (E:XK):Prop
 | mk (n m ρ A B st b:_) (a ln:Addr) (ns:List Int) (k:Int) (nms:List Str) (many:Nat) (_:vs=[.ref a, .int k, .ref A.a, .ref B.m, .ref ln, .int (many:Int)]) (_:n≠m) (_:HH T n ρ A H st) (_:aU m ρ B H b) (_:gk 0 st b) (_:wc K ρ H a (ns.map V.int)) (_:ns.length<=63) (_:0<=k) (_:k<=1000000) (_:wc K ρ H ln (nms.map V.str)) (_:nms.Nodup) (_:(∀x∈nms,yI x)) (_:(∀o∈b.own,yI o)) (_:many<=nms.length) (_:many<=50) (_:st.nms=[]) (_:b.ah=[]) (_:b.d_=[]) (_:∀ρ' A' B' H' st' b',HH T n ρ' A' H' st'->aU m ρ' B' H' b'->gk 0 st' b'->A'.a=A.a->B'.m=B.m->b'.own=b.own->b'.ah.length=many->st'.kn=st.kn->aF (out ρ H:_) (out ρ' H':_)->Q .b_ H')
def PN (T:TC) (K:Fg):Sp:=bx (ach T K)
theorem HH.other {A:HA} (h:HH T n ρ A H st) (f:Fr m ρ H ρ' H') (g:Gh ρ' H') (e:n≠m):HH T n ρ' A H' st:=⟨g,h.h.other f h.g e,h.wf⟩
theorem X8 (g:gk c st b) (k:Nat):gk c { st with kn:=k } b:=⟨g.jR,⟨g.rel.own,g.rel.qd⟩,g.AF,g.c_,g.stp,g.prod,g.bot,g.wo,g.we,g.pl,g.kl,g.own,g.nm,g.ku,g.d_,g.nk,g.on,g.sum⟩
theorem Lv:∀(l:List Str) (st:HS),(l.foldl gI st).kn=st.kn
 | [],_=>rfl
 | o::l,st=>by rw [mH,Lv l];rfl
theorem WS (ps:List Str) (hk:∀r∈ps,PyData.strOk r=true):PyData.canLayAll0 (ps.map PyData.str)=true:=by
 induction ps with
 | nil=>rfl
 | cons q r ih=>
   rw [bH]
   unfold PyData.canLayAll0
   rw [ih fun p hp=>hk p (cG _ hp),Bool.and_true]
   unfold PyData.canLay0
   exact hk q cM
theorem Rz (ps:List Str):PyData.depthAll (ps.map PyData.str)<=1:=by
 induction ps with
 | nil=>exact f_ _
 | cons q r ih=>
   rw [bH]
   unfold PyData.depthAll
   have:PyData.depth (.str q)<=1:=Nat.le_of_ble_eq_true rfl
   omega
theorem CC (ps:List Str) (hk:∀r∈ps,PyData.strOk r=true):SeqAt.shaped (.list (ps.map PyData.str))=true:=by
 unfold SeqAt.shaped PyData.canLay0 PyData.depth
 rw [WS ps hk]
 have:=Rz ps
 simp only [Bool.true_and,decide_eq_true_eq]
 omega
theorem WT (ps:List Str):PyData.eqv (.list (ps.map PyData.str)) (.list (ps.map PyData.str))=true:=by
 unfold PyData.eqv
 induction ps with
 | nil=>rfl
 | cons q r ih=>
   rw [bH]
   unfold PyData.eqvAll
   rw [ih,Bool.and_true]
   exact Zc q
theorem GF {K:Fg} {H:Hp}:∀(l:List Str),xK K H (l.map V.str) (l.map PyData.str)
 | []=> .nil
 | x::l=> .cons (.str x) (GF l)
inductive aci (d:Nat) (T:TC) (K:Fg) (vs:List V) (H:Hp) (Q:VK) (E:XK):Prop
 | mk (n m ρ A B st b:_) (c:Nat) (_:vs=[.ref A.a, .ref B.m]) (_:n≠m) (_:HH T n ρ A H st) (_:aU m ρ B H b) (_:gk c st b) (_:c<=100) (_:(∀o∈b.own,PyData.strOk o=true)) (_:st.kn+15000*d<=1000000) (_:∀ρ' A' H' k,HH T n ρ' A' H' { st with kn:=k }->k<=st.kn+15000*d->aU m ρ' B H' b->A'.a=A.a->aF (out ρ H:_) (out ρ' H':_)->Q (.bl true) H')
def ux (d:Nat) (T:TC) (K:Fg):Sp:=bx (aci d T K)
structure cL (K:Fg) (x:Str) (st:Stmt):Prop where
 ex:∃(f:Addr) (oc:Value) (od an:Option Addr) (sl:Array (Option Value)) (kV dc pm cd ct:Value),PySem.W.nsIn K mainGlobals x=some (some (.ref f))/\K.lookup f=some ⟨oc,od, .func (PySem.W.fnOf x x (dU st) (cF st) (ay st) .none kV dc pm an cd ct),sl⟩/\PySem.W.codeIn K cd x=true/\PySem.W.keepIn K (.ref f)=true
theorem cL.at {st:Stmt} (d:cL K x st) (X:K.In h) (G:h.Ns mainGlobals mg):∃f fd,At K mg x st f fd:=by
 obtain ⟨f,oc,od,an,sl,kV,dc,pm,cd,ct,a,l,c,k⟩:=d.ex
 exact ⟨f,_,XH X G a l c k⟩
structure dX (K:Fg) (C:Addr) (n qual:Str) (st:Stmt):Prop where
 ex:∃(f:Addr) (oc:Value) (od an:Option Addr) (sl:Array (Option Value)) (kV dc pm cd ct:Value),PySem.W.findIn K (.ref C) n=some (some (.ref f))/\PySem.W.isFn K (.ref f)=true/\K.lookup f=some ⟨oc,od, .func (PySem.W.fnOf n qual (dU st) (cF st) (ay st) .none kV dc pm an cd ct),sl⟩/\PySem.W.codeIn K cd qual=true/\PySem.W.keepIn K (.ref f)=true
theorem dX.at {n:Str} {st:Stmt} (d:dX K C n qual st) (cl:oS K C):∃f fd,i8 K C n qual st f fd:=by
 obtain ⟨f,oc,od,an,sl,kV,dc,pm,cd,ct,a,i,l,c,k⟩:=d.ex
 exact ⟨f,_,KJ l c k,⟨a,i,k⟩,cl⟩
theorem dX.made {st:Stmt} (d:dX K C "__init__" qual st) (X:K.In h) (G:h.Ns mainGlobals mg) (a0:PySem.W.nsIn K mainGlobals x=some (some (.ref C))) (m:PySem.W.makesIn K C=true) (kc:PySem.W.keepIn K (.ref C)=true):∃f fd,Ig K mg x C qual st f fd:=by
 obtain ⟨f,oc,od,an,sl,kV,dc,pm,cd,ct,a,i,l,c,k⟩:=d.ex
 exact ⟨f,_,KJ l c k,⟨m,a,i,kc⟩,kG X G a0⟩
variable {oc pm ct:Value} {od an:Option Addr} {sl:Array (Option Value)}
theorem cL.of {st:Stmt} {kV dc cd:Value} (a:PySem.W.nsIn K mainGlobals x=some (some (.ref f))) (l:K.lookup f=some ⟨oc,od, .func (PySem.W.fnOf x x (dU st) (cF st) (ay st) .none kV dc pm an cd ct),sl⟩) (c:PySem.W.codeIn K cd x=true) (k:PySem.W.keepIn K (.ref f)=true):cL K x st:=⟨⟨_,_,_,_,_,_,_,_,_,_,a,l,c,k⟩⟩
theorem dX.of {n:Str} {st:Stmt} {kV dc cd:Value} (a:PySem.W.findIn K (.ref C) n=some (some (.ref f))) (i:PySem.W.isFn K (.ref f)=true) (l:K.lookup f=some ⟨oc,od, .func (PySem.W.fnOf n qual (dU st) (cF st) (ay st) .none kV dc pm an cd ct),sl⟩) (c:PySem.W.codeIn K cd qual=true) (k:PySem.W.keepIn K (.ref f)=true):dX K C n qual st:=⟨⟨_,_,_,_,_,_,_,_,_,_,a,i,l,c,k⟩⟩
section
variable {X:Cx}
inductive aeD (K:Fg) (x:V) (y:V) (H:Hp) (Q:VK):Prop
 | mk  (a b xs ys:_) (_:x = .ref a) (_:y = .ref b) (_:cS K H a xs) (_:cS K H b ys) (_:xs.length+ys.length<=sizeLine) (_:(xs=[]->Q (.ref b) H)) (_:(xs≠[]->ys=[]->Q (.ref a) H)) (_:(xs≠[]->ys≠[]->∀p,H p=none->Q (.ref p) (upd H p (.tup (xs++ys)))))
theorem GG (K:Fg) (hK:X.K=K:=by rfl):gY X (binaryOp .Add) (aeD K):=by
 subst hK
 intro pins s σ H x y v u Q I rx ry h
 obtain ⟨a,b,xs,ys,rfl,rfl,ha,hb,hz,q0,q1,q2⟩:=h
 by_cases hx:xs=[]
 . cases rx
   cases ry
   obtain ⟨its,r1,ht,_⟩:=I.tuple ha
   obtain ⟨its2,r2,hb',_⟩:=I.tuple hb
   obtain ⟨⟨cls,dd,data,sl⟩,ho,hc,n,hd⟩:=id ht
   obtain ⟨⟨aht,dd2,data2,sl2⟩,ho2,hc2,n2,hd2⟩:=id hb'
   simp only at hc hd hc2 hd2
   subst hc hd hc2 hd2
   exact concat_meets ⟨_,ho,Z⟩ ⟨_,ho2,Z⟩ noFill_tuple_add seq_tuple_add PySem.F.slot_tuple_add PySem.F.entry_tuple_add (PySem.F.args_tuple_add_2 _ _)
    (tuple_addW0 a b its.toArray its2.toArray n n2 dd dd2 sl sl2 (by rw [r1.Bv.mpr hx];rfl)) ⟨ho,ho2,⟨.ref b,H,I,Z,q0 hx⟩⟩
 . exact YS pins s σ H _ _ v u Q I rx ry ⟨a,b,xs,ys,Z,Z,ha,hb,hx,hz,q1 hx,q2 hx⟩
variable {o i:Expr} {pos:Pos} {td ty:TE}
end
theorem PR (K:Fg) (hK:X.K=K:=by rfl):SY X (aa4 K):=hK▸aa5
theorem NP:PySem.W.kitOne K (.type "int") (.type "str")=some false:=by rfl
theorem ZI (xs:List V) (k:Nat):wO xs none (some (k:Int))=xs.take k:=by
 unfold wO
 rw [HT.CW,HT.xG,List.drop_zero,Nat.sub_zero]
 rcases Nat.le_total k xs.length with h|h
 . rw [Nat.min_eq_left h]
 . rw [Nat.min_eq_right h,cC,zW h]
theorem UC (xs:List V) (k:Nat):wO xs (some (k:Int)) none=xs.drop k:=by
 unfold wO
 rw [HT.CW,HT.xG]
 rcases Nat.le_total k xs.length with h|h
 . rw [Nat.min_eq_left h]
   exact zW (by rw [Kl];omega)
 . rw [Nat.min_eq_right h,DS,List.drop_of_length_le h,List.take_nil]
section
variable {a b:List Nat} {m v:Int} (ha:pW a) (hb:pW b) (hm:1<=m) (hm2:m<=1000000000) (hv:0<=v) (hv2:v<=1000000000)
include ha hb hm hm2 hv hv2 in
end
section
variable {X:Cx}
end
section
variable {X:Cx}
end
inductive aeE (x:V) (y:V) (H:Hp) (Q:VK):Prop
 | mk  (a b:List Nat) (_:x = .str (tx a)) (_:y = .str (tx b)) (_:a.length+b.length<=10000000) (_:Q (.str (tx (a++b))) H)
theorem ZJ:gY X (binaryOp .Add) aeE:=by
 intro pins s σ H x y v u Q I rx ry h
 obtain ⟨a,b,rfl,rfl,hz,q⟩:=h
 exact D7 pins s σ H _ _ v u Q I rx ry ⟨tx a,tx b,Z,Z,by rw [kr,kr,fB];omega,by rw [Tt];exact q⟩
def Trc (h:Heap) (x T C:Addr):Prop:=∃oe vs a0 oT ts,h.get? x=some oe/\oe.cls = .ref C/\vs[0]?=some a0/\oe.data = .fields vs/\vs[1]?=some (.ref T)/\T≠x/\h.get? T=some oT/\oT.data = .fields ts/\ts[3]?=some .none
def iz (P:Program) (w:World):zy:=fun outer H s E e s'=>∃(x T C:Addr) (H':Hp),e = .ref x/\s'.os=s.os/\AllBare s'.gens/\Un (frs outer) [] H H' s.heap s'.heap/\gQ P w H' s'.heap/\Trc s'.heap x T C/\
 s.heap.get? x=none/\s.heap.get? T=none/\H' x=none/\H' T=none/\E e (some C) H'
variable {h':Heap}
theorem gQ.Lw {w:World} (x:gQ P w H h) (k:∀b o u,H b=some o->h.get? b=some u->h'.get? b=some u):gQ P w H h':=fun a o e=>
 (x a o e).stay (fun b u hb q=>by
   rcases hb with rfl|hb
   . exact k _ _ _ e q
   . exact k _ _ _ hb q) (fun _ q=>q) fun _ _ q=>q
theorem dO.isAt {w:World} (x:dO P w H h a o):∃u,h.get? a=some u:=by
 cases o with
 | lst xs=>obtain ⟨_,_,_,_,e⟩:=x;exact ⟨_,e⟩
 | tup xs=>obtain ⟨_,_,_,p⟩:=x;obtain ⟨o,e,_⟩:=p;exact ⟨_,e⟩
 | dK kvs=>obtain ⟨_,_,_,_,o,_,_,e,_⟩:=x;exact ⟨_,e⟩
 | dT kvs=>obtain ⟨_,_,_,_,o,_,_,e,_⟩:=x;exact ⟨_,e⟩
 | set S n=>obtain ⟨o,_,_,_,e,_⟩:=x;exact ⟨_,e⟩
 | ins C dx fs=>obtain ⟨_,_,_,e,_⟩:=x;exact ⟨_,e⟩
 | own y=>obtain ⟨_,e⟩:=x;exact ⟨_,e⟩
 | xd fs=>obtain ⟨_,⟨_,_,_,e,_⟩,_⟩:=x;exact ⟨_,e⟩
 | vW lo hi=>obtain ⟨_,_,_,e⟩:=x;exact ⟨_,e⟩
 | fm ob u=>obtain ⟨e,_⟩:=x;exact ⟨_,e⟩
 | HK ps=>exact ⟨_,(show h.get? a=some _ from x)⟩
 | met f y=>exact ⟨_,(show h.get? a=some _ from x)⟩
 | ext φ=>obtain ⟨_,⟨_,e⟩,_⟩:=x;exact ⟨_,e⟩
section
variable {P:Program} {w:World} {K:Fg} {mg:SO} {base:Heap} {N:List Str} {qual:Str} {scope:Scope} {f:Addr} {cd:Value} {A:Around} {outer:List Env} {s0:Shared} {H0:Hp} {E:XK} {CX:zy}
theorem PU {x:Addr} {a0:Value} {B:Heap} (I:Inv (dj CX P w K mg base N qual scope f cd A outer s0 H0 E) pins σ H s)
  (hB:∀b o,s.heap.get? b=some o->b∉frs (envOfC qual scope s0.heap.objs.size f cd::outer)->s0.heap.get? b≠none\/H b≠none->B.get? b=some o)
  (hfl:Heap.FlyingW B outer x (.ref C) a0 h') (hup:s.heap.UpToSlots h') (hx:s0.heap.get? x=none) (CD:H x=none)
  (q:E (.ref x) (some C) H):iz P w outer H0 s0 E (.ref x) { s with heap:=h' }:=by
 obtain ⟨st,bx,fr,oe,vs,T,oT,ts,h1,⟨h2,h3⟩,h4,h5,h6,h7,h8,h9,CF⟩:=hfl
 have J8:T∉frs outer:=fun m=>by
  obtain ⟨_,o,ho,hd⟩:=fr.mem m
  rw [h8] at ho;cases ho
  exact hd _ h9
 have L0:s0.heap.get? s0.heap.objs.size=none:=Heap.get?_none_of_le (aP _)
 have big:∀b o,s0.heap.get? b=some o->b∉frs outer->b∉frs (envOfC qual scope s0.heap.objs.size f cd::outer):=fun b o e n m=>by
  have m':b∈s0.heap.objs.size::frs outer:=m
  rcases c6.mp m' with z|z
  . rw [z,L0] at e;cases e
  . exact n z
 have hT0:s0.heap.get? T=none:=by
  cases e:s0.heap.get? T with
  | none=>rfl
  | some o=>
    obtain ⟨o',ho'⟩:=I.base.there T o e (by simp [dj])
    have:=hB T o' ho' (big T o e J8) (.inl (by rw [e];exact fun z=>nomatch z))
    rw [h6] at this;cases this
 have AG:H T=none:=by
  cases e:H T with
  | none=>rfl
  | some o=>
    have lt:=I.hok.lt e
    have nst:T∉frs (envOfC qual scope s0.heap.objs.size f cd::outer):=fun m=>by
     have:=I.xC T m
     rw [e] at this;cases this
    have hob:∃u,s.heap.get? T=some u:=(I.hok T o e).isAt
    obtain ⟨u,hu⟩:=hob
    have:=hB T u hu nst (.inr (by rw [e];exact fun z=>nomatch z))
    rw [h6] at this;cases this
 refine ⟨x,T,C,H,Z,I.os,I.bare,⟨fun b o e n nf _=>?_,fun b o e n m _=>?_,fun b o e n _=>?_,fun b o e _=>?_,I.base.tups,I.base.mZ,I.base.pK⟩,?_,⟨oe,vs,a0,oT,ts,h1,h2,h3,h4,h5,h7,h8,h9,CF⟩,hx,hT0,CD,AG,q⟩
 . exact st b o (hB b o (I.base.keep b o e n nf (by simp [dj])) (big b o e nf) (.inl (by rw [e];exact fun z=>nomatch z)))
 . obtain ⟨sl,hs⟩:=I.base.slot b o e n m (by simp [dj])
   have fr0:=I.ok.oh
   obtain ⟨_,o',ho',hd'⟩:=fr0.mem m
   obtain ⟨Kq,hs'⟩:=hup b _ hs (fun vs z=>by
    have ho2:s0.heap.get? b=some o':=ho'
    rw [e] at ho2;cases ho2
    exact hd' vs z)
   exact ⟨Kq,hs'⟩
 . exact I.base.free b o e n (by simp [dj])
 . obtain ⟨o',ho'⟩:=I.base.there b o e (by simp [dj])
   by_cases m:b∈frs outer
   . have fr0:=I.ok.oh
     obtain ⟨_,o2,ho2,hd2⟩:=fr.mem m
     exact ⟨o2,ho2⟩
   . exact ⟨o',st b o' (hB b o' ho' (big b o e m) (.inl (by rw [e];exact fun z=>nomatch z)))⟩
 . exact I.hok.Lw fun b o u e hu=>st b u (hB b u hu (fun m=>by have:=I.xC b m;rw [e] at this;cases this) (.inr (by rw [e];exact fun z=>nomatch z)))
theorem WU {x T:Addr} (I:Inv (dj (iz P w) P w K mg base N qual scope f cd A outer s0 H0 E) pins σ H s) (t:Trc s.heap x T C) (hx:s0.heap.get? x=none) (hT:s0.heap.get? T=none) (CD:H x=none) (AG:H T=none)
  (q:E (.ref x) (some C) H):(dj (iz P w) P w K mg base N qual scope f cd A outer s0 H0 E).xe (.ref x) s:=by
 obtain ⟨oe,vs,a0,oT,ts,h1,h2,h3,h4,h5,h6,h7,h8,h9⟩:=t
 have hst:=I.stack
 have WV:s.heap.FunFrames base (envOfC qual scope s0.heap.objs.size f cd::outer):=hst
 have hin:∀env∈(envOfC qual scope s0.heap.objs.size f cd::outer),∀b,env.frame=some b->b∈x::T::frs (envOfC qual scope s0.heap.objs.size f cd::outer):=fun env he b hb=>cG _ (cG _ (Gd.mpr ⟨env,he,hb⟩))
 refine wpAny_leaves_onW (base:=PySem.W.hideAll s.heap (x::T::frs (envOfC qual scope s0.heap.objs.size f cd::outer))) (L:=s0.heap.objs.size) (cls:= .ref C) (a0:=a0) (outer:=outer) I.ok.frames rfl ⟨fun b o e=>QF _ e,Kd _ cM,PySem.W.funFrames_hide WV hin,oe,vs,T,oT,ts,h1,⟨h2,h3⟩,h4,h5,Kd _ (cG _ cM),h6,h7,h8,h9⟩ fun h' fl up=>?_
 refine PU I (fun b o e n hb=>QD _ e fun m=>?_) fl up hx CD q
 rcases c6.mp m with z|m
 . rw [z] at hb
   rcases hb with hb|hb
   . exact hb hx
   . exact hb CD
 . rcases c6.mp m with z|m
   . rw [z] at hb
     rcases hb with hb|hb
     . exact hb hT
     . exact hb AG
   . exact n m
theorem aeF:Passes (iz P w) (dj (iz P w) P w K mg base N qual scope f cd A outer s0 H0 E) E:=fun pins σ H s e s' I h=>by
 obtain ⟨x,T,C,H',rfl,os,bare,un,hok,t,hx,hT,CD,AG,q⟩:=h
 have I':Inv (dj (iz P w) P w K mg base N qual scope f cd A outer s0 H0 E) pins σ H' s':=I.J0 (ch:=[]) os un hok bare (fun b z=>absurd z (by simp))
 have old:∀b,s.heap.get? b=none->s0.heap.get? b=none:=fun b e=>by
  cases q:s0.heap.get? b with
  | none=>rfl
  | some o=>
    obtain ⟨o',ho'⟩:=I.base.there b o q (by simp [dj])
    rw [e] at ho';cases ho'
 exact WU I' t (old x hx) (old T hT) CD AG q
theorem RA {x:Addr} {args:List Value} (I:Inv (dj (iz P w) P w K mg base N qual scope f cd A outer s0 H0 E) pins σ H s) (hm:Heap.MadeExcOf s.heap h1 x (.ref C) args)
  (q:E (.ref x) (some C) H):(dj (iz P w) P w K mg base N qual scope f cd A outer s0 H0 E).xe (.ref x) { s with heap:=h1 }:=by
 have WV:s.heap.FunFrames base (envOfC qual scope s0.heap.objs.size f cd::outer):=I.stack
 have hin:∀env∈(envOfC qual scope s0.heap.objs.size f cd::outer),∀b,env.frame=some b->b∈frs (envOfC qual scope s0.heap.objs.size f cd::outer):=fun env he b hb=>Gd.mpr ⟨env,he,hb⟩
 have I1:Inv (dj (iz P w) P w K mg base N qual scope f cd A outer s0 H0 E) pins σ H { s with heap:=h1 }:=I.kept (t':=s.toks) hm.keeps
 have CD:H x=none:=by
  cases e:H x with
  | none=>rfl
  | some o=>
    obtain ⟨u,hu⟩:=(I.hok x o e).isAt
    rw [hm.new] at hu;cases hu
 have Lx:s0.heap.get? x=none:=by
  cases e:s0.heap.get? x with
  | none=>rfl
  | some o=>
    obtain ⟨o',ho'⟩:=I.base.there x o e (by simp [dj])
    rw [hm.new] at ho';cases ho'
 refine wpAny_leaves_madeW (base:=PySem.W.hideAll s.heap (frs (envOfC qual scope s0.heap.objs.size f cd::outer))) (h:=s.heap) (L:=s0.heap.objs.size) (outer:=outer) I.ok.frames rfl (fun b o e=>QF _ e) (PySem.W.funFrames_hide WV hin) hm fun h' t fl _ _ up=>?_
 refine PU I1 (fun b o e n hb=>QD _ ?_ n) fl up Lx CD q
 rcases hb with hb|hb
 . cases e0:s0.heap.get? b with
   | none=>exact absurd e0 hb
   | some o0=>
     obtain ⟨o',ho'⟩:=I.base.there b o0 e0 (by simp [dj])
     have e':h1.get? b=some o:=e
     have:=hm.keeps b o' ho'
     rw [e'] at this;cases this
     exact ho'
 . cases e0:H b with
   | none=>exact absurd e0 hb
   | some o0=>
     obtain ⟨o',ho'⟩:=(I.hok b o0 e0).isAt
     have e':h1.get? b=some o:=e
     have:=hm.keeps b o' ho'
     rw [e'] at this;cases this
     exact ho'
end
def ack:List Value:=[.type "ValueError", .type "Exception", .type "BaseException", .type "object"]
structure uZ (K:Fg) (C:Addr):Prop where
 ex:∃(nm q:Str) (N:Addr) (bs bm:List Value) (hdct:Bool) (sn:List Str) (sub:List Value) (ab:Bool) (col:Option Bool) (dd:Option Addr) (k0 k1 k2 k3 k5:Option Value) (mN:SO),mN "__init__"=none/\bm.contains (.type "BaseException")=true/\∀h:Heap,K.In h->
  h.get? C=some (excClassObj nm q C N bs bm hdct sn sub ab col dd k0 k1 k2 k3 k5 "ValueError.__new__")/\h.Ns N mN/\OwnTail h ack bm
section
variable {P:Program} {w:World} {K:Fg} {mg:SO} {base:Heap} {N:List Str} {qual:Str} {scope:Scope} {f:Addr} {cd:Value} {A:Around} {outer:List Env} {s0:Shared} {H0:Hp} {E:XK}
def acm (C:Addr) (E:XK):TS:=fun _ _ H=>∀x,E (.ref x) (some C) H
structure Dx (P:Program) (w:World) (K:Fg) (mg:SO) (base:Heap) (k:Nat) (x:Str) (ps:List Str) (sp:Sp):Prop where
 ex:∃f fd,iw P w K mg base (iz P w) k f fd ps sp/\Binds K fd ps []/\PySem.W.keepIn K (.ref f)=true/\mg x=some (.ref f)
theorem At.okX {st:Stmt} {f:Addr} {N:List Str} {k:Nat} (F:At K mg x st f fd) (S:aJ N ps (ay st)) (len:∀vs H Q E,sp vs H Q E->vs.length=ps.length)
  (hbody:∀(cdv:Value) (A:Around) (outer:List Env) (s:Shared) (H:Hp) (vs:List V) (Q:VK) (E:XK),dG k (A.deeper (envOfC x (ay st) s.heap.objs.size f cdv))->sp vs H Q E->
    ∃t,qL (dj (iz P w) P w K mg base N x (ay st) f cdv A outer s H E) (cF st) t/\t { nx:=fun _ H'=>Q .b_ H',rt:=Q } (start N vs) H)
  (h:∀(kV doc pm:Value) (an:Option Addr) (cdv ct:Value) (us:List Value),us.length=ps.length->bindArgs (PySem.W.fnOf x x (dU st) (cF st) (ay st) .none kV doc pm an cdv ct) ⟨us,[]⟩=pure (ps.zip us)):
  Dx P w K mg base (k+1) x ps sp:=by
 refine ⟨f,fd,?_,F.fn.binds h,F.fn.kp,F.name⟩
 obtain ⟨oc,od,kV,doc,pm,an,cdv,ct,osl,rfl,lk,hcd⟩:=F.fn.ex
 exact Q5 lk hcd S len fun A outer s H vs Q E hr pQ=>hbody cdv A outer s H vs Q E hr pQ
end
def ahQ (h:Heap) (x T C:Addr) (fl:Value):Prop:=∃oe vs a0 oT ts,h.get? x=some oe/\oe.cls = .ref C/\vs[0]?=some a0/\oe.data = .fields vs/\vs[1]?=some (.ref T)/\T≠x/\h.get? T=some oT/\oT.data = .fields ts/\ts[3]?=some fl
structure u0 (X:Cx) (pins:AO) (σ:St) (Hc:Hp) (sc:Shared) (H:Hp) (x C:Addr) (fl:Value) (s:Shared):Prop where
 ic:Inv X pins σ Hc sc
 os:s.os=sc.os
 bare:AllBare s.gens
 un:Un (frs X.stack) [] Hc H sc.heap s.heap
 hok:gQ X.prog X.w H s.heap
 nx:sc.heap.get? x=none
 hx:H x=none
 tr:∃T,ahQ s.heap x T C fl/\sc.heap.get? T=none/\H T=none
variable {M:Model} {A:Around} {Q:Unit->Shared->Prop}
section
variable {X:Cx} {pins:AO} {σ:St} {Hc H:Hp} {sc s:Shared} {x C:Addr} {fl:Value}
theorem u0.inv (F:u0 X pins σ Hc sc H x C fl s):Inv X pins σ H s:=F.ic.J0 (ch:=[]) F.os F.un F.hok F.bare (fun b z=>absurd z (by simp))
theorem u0.step {B:Heap} {fl' a0:Value} (F:u0 X pins σ Hc sc H x C fl s) (hB:∀b o,s.heap.get? b=some o->b∉frs X.stack->sc.heap.get? b≠none\/H b≠none->B.get? b=some o)
  (st:B.StaysIn h') (fr:h'.FunFrames B X.stack) (tr:h'.TracedAtW B x (.ref C) a0 fl') (up:s.heap.UpToSlots h'):u0 X pins σ Hc sc H x C fl' { s with heap:=h' }:=by
 have I:=F.inv
 obtain ⟨oe,vs,T,oT,ts,h1,⟨h2,h3⟩,h4,h5,h6,h7,h8,h9,CF⟩:=tr
 have J8:T∉frs X.stack:=fun m=>by
  obtain ⟨_,o,ho,hd⟩:=fr.mem m
  rw [h8] at ho;cases ho
  exact hd _ h9
 have hT0:sc.heap.get? T=none:=by
  cases e:sc.heap.get? T with
  | none=>rfl
  | some o=>
    obtain ⟨o',ho'⟩:=F.un.there T o e (by simp)
    have:=hB T o' ho' J8 (.inl (by rw [e];exact fun z=>nomatch z))
    rw [h6] at this;cases this
 have AG:H T=none:=by
  cases e:H T with
  | none=>rfl
  | some o=>
    obtain ⟨u,hu⟩:=(F.hok T o e).isAt
    have:=hB T u hu J8 (.inr (by rw [e];exact fun z=>nomatch z))
    rw [h6] at this;cases this
 refine ⟨F.ic,F.os,F.bare,⟨fun b o e n nf _=>?_,fun b o e n m _=>?_,F.un.free,fun b o e _=>?_,F.un.tups,F.un.mZ,F.un.pK⟩,?_,F.nx,F.hx,T,⟨oe,vs,a0,oT,ts,h1,h2,h3,h4,h5,h7,h8,h9,CF⟩,hT0,AG⟩
 . exact st b o (hB b o (F.un.keep b o e n nf (by simp)) nf (.inl (by rw [e];exact fun z=>nomatch z)))
 . obtain ⟨sl,hs⟩:=F.un.slot b o e n m (by simp)
   obtain ⟨_,o',ho',hd'⟩:=F.ic.stack.mem m
   obtain ⟨Kq,hs'⟩:=up b _ hs (fun vs z=>by
    rw [e] at ho';cases ho'
    exact hd' vs z)
   exact ⟨Kq,hs'⟩
 . obtain ⟨o',ho'⟩:=F.un.there b o e (by simp)
   by_cases m:b∈frs X.stack
   . obtain ⟨_,o2,ho2,hd2⟩:=fr.mem m
     exact ⟨o2,ho2⟩
   . exact ⟨o',st b o' (hB b o' ho' m (.inl (by rw [e];exact fun z=>nomatch z)))⟩
 . exact F.hok.Lw fun b o u e hu=>st b u (hB b u hu (fun m=>by have:=I.xC b m;rw [e] at this;cases this) (.inr (by rw [e];exact fun z=>nomatch z)))
theorem u0.hid (F:u0 X pins σ Hc sc H x C fl s):∃(a0:Value) (B:Heap),(∀b o,s.heap.get? b=some o->b∉frs X.stack->sc.heap.get? b≠none\/H b≠none->B.get? b=some o)/\B.StaysIn s.heap/\B.get? x=none/\s.heap.FunFrames B X.stack/\s.heap.TracedAtW B x (.ref C) a0 fl:=by
 obtain ⟨T,⟨oe,vs,a0,oT,ts,h1,h2,h3,h4,h5,h6,h7,h8,h9⟩,hT,AG⟩:=F.tr
 have hin:∀env∈X.stack,∀b,env.frame=some b->b∈x::T::frs X.stack:=fun env he b hb=>cG _ (cG _ (Gd.mpr ⟨env,he,hb⟩))
 refine ⟨a0,PySem.W.hideAll s.heap (x::T::frs X.stack),fun b o e n hb=>QD _ e fun m=>?_,fun b o e=>QF _ e,Kd _ cM,PySem.W.funFrames_hide F.inv.stack hin,oe,vs,T,oT,ts,h1,⟨h2,h3⟩,h4,h5,Kd _ (cG _ cM),h6,h7,h8,h9⟩
 rcases c6.mp m with z|m
 . rw [z] at hb
   rcases hb with hb|hb
   . exact hb F.nx
   . exact hb F.hx
 . rcases c6.mp m with z|m
   . rw [z] at hb
     rcases hb with hb|hb
     . exact hb hT
     . exact hb AG
   . exact n m
theorem WW (F:u0 X pins σ Hc sc H x C .none s) (hA:A.frames=some X.stack) (hs:X.stack=X.env::X.outer) (hf:X.env.frame=some X.env.locals)
  (h:∀s',u0 X pins σ Hc sc H x C (rawInt X.env.locals) s'->Q () s'):wpAny M A (noteFrame (.ref x) X.env) Q E s:=by
 obtain ⟨a0,B,hB,st,bx,fr,tr⟩:=F.hid
 rw [hs] at fr hA
 refine wpAny_looks_onW (base:=B) hA hf ⟨st,bx,fr,tr⟩ fun h' hh up=>?_
 obtain ⟨k1,k2,k3,k4⟩:=hh
 rw [<-hs] at k3
 exact h _ (F.step hB k1 k3 k4 up)
theorem Ly (F:u0 X pins σ Hc sc H x C fl s)
  (h:∀s',u0 X pins σ Hc sc H x C .none s'->Q () s'):wpAny M A (setFlight (.ref x) none) Q E s:=by
 obtain ⟨a0,B,hB,st,bx,fr,tr⟩:=F.hid
 refine wpAny_setFlight_noneW (base:=B) st fr tr fun h' k1 k2 k3 k4=>h _ (F.step hB k1 k2 k3 fun b o hb hn=>⟨o.slots,k4 b o hb hn⟩)
end
def Dg (x C:Addr):HO:= .ext fun h=>∃o,h.get? x=some o/\o.cls = .ref C
variable {e:Expr} {es:List Expr} {t':Nat}
section
variable {X:Cx} {pins:AO} {σ:St} {Hc H:Hp} {sc s:Shared} {x C:Addr} {fl:Value}
theorem aeG {k:Nat} {g:Str} {t:TA} {p:Pos} (D:Dx X.prog X.w X.K X.mg X.base j g ps sp) (hr:dG k X.A) (hno:∀e s,X.xe e s->False) (ha:PA X (e::es) t) (hj:j<=k) (hg:Gl X g)
  (hdb:(g==("__debug__":Str))=false) (he:starEach (e::es) X.env=(false,eval e X.env)::starEach es X.env) (hpl:(backTo pos (starEach es X.env)).any (·.1)=false)
  {Q:VK} {R:Addr->Hp->Prop} (I:Inv X pins σ H s) (h:t σ H fun vs H1=>sp (vs++[]) H1 Q fun _ c H'=>∃C,c=some C/\R C H'):
  wpAny (model X.prog X.w) X.A (eval (.Call (.Name g p) (e::es) [] pos) X.env) (EP X pins σ Q) (fun ev s'=>∃x C Hc sc H',ev = .ref x/\u0 X pins σ Hc sc H' x C .none s'/\R C H') s:=by
 obtain ⟨f,fd,F,hb,kp,m⟩:=D.ex
 refine Ge (qQ I hg m ?_ hdb)
 refine QG (h₀:=X.base) I.ok.mod.OV kp (gT (ha pos pins s σ H _ I h) (fun us s1 ⟨vs,H1,I1,r,q⟩=>⟨I1.iN,?_⟩) fun _ _ z=>(hno _ _ z).elim) he hpl
 have r2:Vals (vs++[]) (us++[]):=r.append .nil
 have hl:(us++[]).length=ps.length:=by rw [<-r2.length];exact F.len _ _ _ _ q
 refine wpAny_call (Bq (F.run X.A X.stack s1 H1 ⟨us,[]⟩ (us++[]) (vs++[]) Q _ (hr.mono hj) I1.V0 (hb s1 us I1.iN hl) r2 q) fun r s' hq=>?_)
 cases r with
 | error e=>
   have hq':iz X.prog X.w X.stack H1 s1 (fun _ c H'=>∃C,c=some C/\R C H') e s':=hq
   obtain ⟨x,T,C,H',rfl,os,bare,un,hok,tr,hx,hT,CD,AG,C',ec,hR⟩:=hq'
   cases ec
   exact ⟨x,C,H1,s1,H',Z,⟨I1,os,bare,un,hok,hx,CD,T,tr,hT,AG⟩,hR⟩
 | ok fl=>
   cases fl with
   | ret u=>exact I1.after hq
   | next=>exact False.elim hq
   | brk=>exact False.elim hq
   | cont=>exact False.elim hq
abbrev Cx.held (X:Cx) (x:Addr):Cx:={ X with A:=X.A.mark (some (.ref x)),calm:=false }
theorem Inv.held (I:Inv X pins σ H s) (x:Addr):Inv (X.held x) pins σ H s:=
 ⟨⟨I.ok.mod,I.ok.kind,I.ok.glob,I.ok.blt,I.ok.above,I.ok.inj,I.ok.has,I.ok.gC,(fun z=>nomatch z),I.ok.frames,I.ok.stk,I.ok.Kn,I.ok.bs,I.ok.DZ,I.ok.Gk,I.ok.CQ,I.ok.oh,I.ok.HL⟩,I.os,I.bare,I.base,I.loc,I.cell,I.free,I.jT,I.pin,I.hok,I.len⟩
theorem u0.known (F:u0 X pins σ Hc sc H x C fl s):Inv X pins σ (upd H x (Dg x C)) s:=by
 have I:=F.inv
 have ne:∀{b o},sc.heap.get? b=some o->b≠x:=fun e z=>by rw [z,F.nx] at e;cases e
 have ne0:∀{b o},X.s₀.heap.get? b=some o->b∉X.ex->b≠x:=fun {b o} e n=>by
  obtain ⟨o',ho'⟩:=F.ic.base.there b o e n
  exact ne ho'
 have UD:∀{b o},H b=some o->b≠x:=fun e z=>by rw [z,F.hx] at e;cases e
 obtain ⟨T,⟨oe,vs,a0,oT,ts,h1,h2,_⟩,_⟩:=F.tr
 refine ⟨I.ok,I.os,I.bare,⟨I.base.keep,I.base.slot,fun b o e n nx=>?_,I.base.there,fun b xs e=>?_,fun b o u e=>?_,fun b ps e=>?_⟩,I.loc,I.cell,?_,fun y c e=>?_,fun p hp=>?_,fun b o e=>?_,I.len⟩
 . rw [av (ne0 e nx)];exact I.base.free b o e n nx
 . have z:=I.base.tups b xs e
   rw [av (UD z)];exact z
 . have z:=I.base.mZ b o u e
   rw [av (UD z)];exact z
 . obtain ⟨more,z⟩:=I.base.pK b ps e
   exact ⟨more,by rw [av (UD z)];exact z⟩
 . obtain ⟨m,⟨o,_,_,ho,_⟩,_⟩:=F.ic.loc
   rw [av (ne ho)];exact I.free
 . obtain ⟨v,o,ho,_⟩:=F.ic.cell y c e
   rw [av (ne ho)];exact I.jT y c e
 . obtain ⟨a,b,c⟩:=I.pin p hp
   obtain ⟨a',_⟩:=F.ic.pin p hp
   exact ⟨a,by rw [av (ne a')];exact b,c⟩
 . by_cases z:b=x
   . subst z
     rw [ai] at e
     cases e
     exact ⟨⟨oe,h1,h2⟩,⟨oe,h1⟩,fun h1 h2 ⟨o,a,c⟩ k=>⟨o,k o a,c⟩⟩
   . rw [av z] at e
     exact (F.hok b o e).stay (fun _ _ _ q=>q) (fun c q=>by rw [av (UD q)];exact q) fun c xs q=>by rw [av (UD q)];exact q
theorem Inv.gone {n:Str} {v:Option Value} {m:SO} (I:Inv X pins σ H s) (hN:X.N.Nodup) (hj:X.N[j]?=some n) (hm:s.heap.Ns X.env.locals m) (hl:∀(i:Nat) (x:Str) (v:V),X.N[i]?=some x->σ[i]?=some (some v)->Sv X.env.scope x->∃u,RelV v u/\Look X.env s.heap m x u)
  (hn:h'.Ns X.env.locals (fun x=>if x=n then v else m x)) (hs:Heap.SameBut X.env.locals s.heap h'):Inv X pins (σ.set j none) H { s with heap:=h',toks:=t' }:=by
 have OW:∀b o,X.s₀.heap.get? b=some o->b≠X.env.locals:=fun b o e=>dQ (kY (bR e) I.ok.above)
 have kp:∀b o,b≠X.env.locals->s.heap.get? b=some o->h'.get? b=some o:=fun b o ne e=>(hs.2 b ne).trans e
 have cellK:∀x c,X.env.cells.lookup x=some c->∀v,s.heap.IsCell c v->h'.IsCell c v:=fun x c e v ⟨o,ho,hd⟩=>⟨o,kp c o (I.HM x c e) ho,hd⟩
 refine ⟨I.ok,I.os,I.bare,⟨fun b o e n hb hx=>kp b o (OW b o e) (I.base.keep b o e n hb hx),fun b o e n hb hx=>?_,I.base.free,fun b o e hx=>?_,I.base.tups,I.base.mZ,I.base.pK⟩,?_,fun x c e=>?_,I.free,I.jT,fun p hp=>?_,?_,by rw [fq];exact I.len⟩
 . obtain ⟨sl,e1⟩:=I.base.slot b o e n hb hx
   exact ⟨sl,kp b _ (OW b o e) e1⟩
 . obtain ⟨o',e1⟩:=I.base.there b o e hx
   exact ⟨o',kp b o' (OW b o e) e1⟩
 . refine ⟨_,hn,fun i y w e1 e2 e3=>?_⟩
   by_cases z:i=j
   . subst z
     rw [List.getElem?_set_self'] at e2
     cases q:σ[i]? with
     | none=>rw [q] at e2;cases e2
     | some a=>rw [q] at e2;cases e2
   . rw [uD (bU z)] at e2
     obtain ⟨u,r,l⟩:=hl i y w e1 e2 e3
     refine ⟨u,r,?_⟩
     rcases l with ⟨k,l⟩|⟨k,c,e,zc⟩
     . have hne:y≠n:=fun q=>z (yu hN e1 (q▸hj))
       exact .inl ⟨k,by show (if y=n then v else m y)=some u;rw [az hne];exact l⟩
     . exact .inr ⟨k,c,e,cellK y c e _ zc⟩
 . obtain ⟨v,z⟩:=I.cell x c e
   exact ⟨v,cellK x c e v z⟩
 . obtain ⟨e,n,ne,nf,d⟩:=I.pin p hp
   exact ⟨kp p.1 p.2 ne e,n,ne,nf,d⟩
 . exact I.hok.Lw fun b o u e hu=>kp b u (fun z=>by rw [z,I.free] at e;cases e) hu
end
def FX (X:Cx) (pins:AO) (R:Addr->St->Hp->Prop) (ev:Value) (s:Shared):Prop:=
 ∃x C σ Hc sc H',ev = .ref x/\u0 X pins σ Hc sc H' x C .none s/\R C σ H'
abbrev TX:=Ends->(Addr->St->Hp->Prop)->St->Hp->Prop
def PX (X:Cx) (st:List Stmt) (t:TX):Prop:=
 ∀(pins:AO) (s:Shared) (σ:St) (H:Hp) (D:Ends) (R:Addr->St->Hp->Prop),Inv X pins σ H s->t D R σ H->wpAny (model X.prog X.w) X.A (execs st X.env) (SP X pins D) (FX X pins R) s
def aeH (sp:Sp) (t:TA):TX:=fun D R σ H=>t σ H fun vs H1=>sp (vs++[]) H1 (fun v H'=>v = .b_/\D.nx σ H') fun _ c H'=>∃C,c=some C/\R C σ H'
def ahR (K:Fg) (J:Addr) (j:Nat) (t:TX) (u:TS):TS:=fun D σ H=>
 t D (fun C σ' H'=>PySem.W.exmOne K (.ref C) (.ref J)=some true/\∀x,H' x=none->u { nx:=fun σ2 H2=>D.nx (σ2.set j none) H2,rt:=D.rt,bk:=fun σ2 H2=>D.bk (σ2.set j none) H2,ct:=fun σ2 H2=>D.ct (σ2.set j none) H2 } (σ'.set j (some (.ref x))) (upd H' x (Dg x C))) σ H
section
variable {X:Cx} {pins:AO} {σ:St} {Hc H:Hp} {sc s:Shared} {x C:Addr} {fl:Value}
theorem Inv.aco (I':Inv (X.held x) pins σ H s) (ok:X.Ok):Inv X pins σ H s:=
 ⟨ok,I'.os,I'.bare,I'.base,I'.loc,I'.cell,I'.free,I'.jT,I'.pin,I'.hok,I'.len⟩
end
open PySem.W PySem.Calls Builtin.ObjectAttr Builtin.Getset_descriptor
structure nD (K:Frag) (C:Addr):Prop where
 ga:findIn K (.ref C) "__getattribute__"=some (some (.builtin "BaseException.__getattribute__"))
 gn:findIn K (.ref C) "__getattr__"=some none
 ca:findIn K (.ref C) "__class__"=some (some (.builtin "object.__class__"))
 mo:mroIn K C (.type "object")=some true
 mb:mroIn K C (.type "BaseException")=some true
 is:(clsIn K C).isSome=true
section
variable {prog:Program} {w:World} {A:Around} {E:VS} {h:Heap} {g:Array GenState} {d:Drawn} {t:Nat} {os:OsState} {x C:Addr} {o:Obj} {K:Frag} {R:Result->Shared->Prop}
theorem ER (hx:h.get? x=some o) (hc:o.cls = .ref C):Looks M h (typeOf (.ref x)) (.ref C):=hc▸(Looks.ld hx).andThen .now
theorem acp {tp:Value} (X:K.In h) (ec:nD K C) (hx:h.get? x=some o) (hc:o.cls = .ref C) (hq:R (.ok (.ret (.ref C))) ⟨h,g,d,t,os⟩):
  codeAny (model prog w) A (.call (.builtin "getset_descriptor.__get__") ⟨[.builtin "object.__class__", .ref x,tp],[]⟩) R ⟨h,g,d,t,os⟩:=by
 have L0:=ER (M:=model prog w) hx hc
 have L1:=looks_mroIn (M:=model prog w) X ec.mo
 refine codeAny_call_builtin KF.slot_gs.plain KF.entry_gs (KF.slot_gs.check _ _ _ _ _ _ _ _ KF.type_class (KF.args_gs _ _ _) ?_)
 unfold Builtin.«getset_descriptor.__get__» descrGet
 rw [dga_obj]
 refine aq (aL ?_)
 unfold descrGetter descrCheckInstance descrNameAndClass isInstance
 simp only [KF.owner_class]
 repeat lk
 refine ⟨Code.quiet_builtin _ (by decide +kernel),codeAny_builtin KF.entry_class ?_⟩
 unfold Builtin.«object.__class__» shownTypeOf
 repeat lk
 exact hq
theorem WX {tk:Tok} {Q:Fin->Shared->Prop} (X:K.In h) (ec:nD K C) (hx:h.get? x=some o) (hc:o.cls = .ref C) (hq:Q (.done (.ret (.ref C))) ⟨h,g,d,t,os⟩):
  wpAny (model prog w) A (Builtin.«object.__getattribute__» ⟨[.ref x, .str "__class__" tk],[]⟩) Q E ⟨h,g,d,t,os⟩:=by
 have L0:=ER (M:=model prog w) hx hc
 have L1:=looks_findIn (M:=model prog w) X ec.ca
 have hT5:(⟨h,g,d,t,os⟩:Shared).TypeIs (.builtin "object.__class__") "getset_descriptor":=F.typeOf_object_class
 have f5:=F.typeOf_object_class
 have f6:=F.slot_gs_get.lookup
 have f7:=F.slot_gs_set.lookup
 repeat (any_goals (first|assumption|with_reducible refine Looks.at L0 ?_|with_reducible refine Looks.at L1 ?_|wp_step))
 refine acp X ec hx hc ?_
 repeat (any_goals (first|assumption|wp_step))
theorem WY {nameV:Value} (X:K.In h) (ec:nD K C) (hx:h.get? x=some o) (hc:o.cls = .ref C) (hq:Q () ⟨h,g,d,t,os⟩):
  wpAny M A (checkBuiltinCall "BaseException.__getattribute__" ⟨[.ref x,nameV],[]⟩) Q E ⟨h,g,d,t,os⟩:=by
 have hk:builtinKind "BaseException.__getattribute__"=some .slot:=by decide +kernel
 have hsplit:splitId "BaseException.__getattribute__"=some ("BaseException","__getattribute__"):=by decide +kernel
 have L0:=ER (M:=M) hx hc
 have L1:=looks_mroIn (M:=M) X ec.mb
 have ha:=F.args_bexc_ga (.ref x) nameV
 simp only [checkBuiltinCall,hk,hsplit]
 refine aq ?_
 . unfold isInstance
   repeat (first|with_reducible refine Looks.at L0 ?_|with_reducible refine Looks.at L1 ?_|wp_step)
   exact hq
theorem ZK {tk:Tok} (X:K.In h) (ec:nD K C) (hx:h.get? x=some o) (hc:o.cls = .ref C) (hq:R (.ok (.ret (.ref C))) ⟨h,g,d,t,os⟩):
  codeAny (model prog w) A (.call (.builtin "BaseException.__getattribute__") ⟨[.ref x, .str "__class__" tk],[]⟩) R ⟨h,g,d,t,os⟩:=
 codeAny_call_builtin F.excAttr_ValueError.ga.plain F.entry_bexc_ga (WY X ec hx hc (WX X ec hx hc hq))
theorem aeI {tk:Tok} {fill expr:Bool} {Q:VS} (X:K.In h) (ec:nD K C) (hx:h.get? x=some o) (hc:o.cls = .ref C) (hq:Q (.ref C) ⟨h,g,d,t,os⟩):
  wpAny (model prog w) A (getAttrBy (.ref x) (.str "__class__" tk) fill expr) Q E ⟨h,g,d,t,os⟩:=by
 have L0:=ER (M:=model prog w) hx hc
 have L1:=looks_findIn (M:=model prog w) X ec.ga
 have L2:=looks_findIn (M:=model prog w) X ec.gn
 have f3:=F.excAttr_ValueError.ga.bind (.ref x)
 have Lx:(expr && onTheHeap (Value.builtin "BaseException.__getattribute__"))=false:=by cases expr <;> rfl
 have hx2:(Value.builtin "BaseException.__getattribute__"==Value.builtin "object.__getattribute__")=false:=by decide +kernel
 have UE:(onTheHeap (Value.ref C) && Value.builtin "BaseException.__getattribute__"==Value.builtin "object.__getattribute__")=false:=by rw [hx2];rfl
 repeat (any_goals (first|assumption|with_reducible refine Looks.at L0 ?_|with_reducible refine Looks.at L1 ?_|with_reducible refine Looks.at L2 ?_|wp_step))
 refine ZK X ec hx hc ?_
 repeat (any_goals (first|assumption|wp_step))
theorem ZL {Q:Option Value->Shared->Prop} (X:K.In h) (ec:nD K C) (hx:h.get? x=some o) (hc:o.cls = .ref C) (hq:Q (some (.ref C)) ⟨h,g,d,t+1,os⟩):
  wpAny (model prog w) A (getAttr? (.ref x) "__class__") Q E ⟨h,g,d,t,os⟩:=by
 unfold getAttr? getAttrBy?
 repeat (any_goals (first|assumption|with_reducible apply aeI X ec hx hc|wp_step))
theorem WZ (ec:nD K C):KitX K (.ref x) (.ref C) (fun h=>∃o,h.get? x=some o/\o.cls = .ref C) where
 ty:=fun _ _ _ ⟨o,hx,hc⟩=>ER hx hc
 it:=fun _ _ X _=>by
  have:=ec.is
  unfold clsIn at this
  split at this
  . rename_i c' d' cd' Kq ho
    intro A' Q' E' s' k q
    unfold isType loadHead
    exact aq (wpAny_loadPart (k _ _ (X _ _ ho)) (aL q))
  . cases this
 ne:=fun h tp dd its n sl X htp=>by
  have:=ec.is
  refine qO.mpr fun q=>?_
  have e:C=tp:=Value.ref.inj (nL.mp q)
  subst e
  unfold clsIn at this
  split at this
  . rename_i c' d' cd' Kq ho
    have z:=(X _ _ ho).symm.trans htp
    cases z
  . cases this
 ca:=fun {_ _ _ _ _ s} X ⟨o,hx,hc⟩ k=>by
  obtain ⟨h,g,d,t,os⟩:=s
  exact ZL X ec hx hc k
end
theorem Lz {K:Frag} {bmB:List Value} {x:Value} (hb:bmB.contains x=true):∀{l:List Value},tailIn K bmB l=true->l.contains x=true
 | [],e=>by rw [nL.mp (show (bmB==[])=true from e)] at hb;exact hb
 | v::r,e=>by
   unfold tailIn at e
   rcases Ga.mp e with q|q
   . rw [nL.mp q];exact hb
   . split at q
     . split at q
       . simp only [Bj] at q
         rw [List.contains_cons,Lz hb q.2,Bool.or_true]
       . cases q
     . cases q
def xU (K:Frag) (N:Addr) (x:Str):Option Value:=match K.lookup N with
 | some o=>(match o.data with | .dict es _=>nsFind es x|_=>none)
 | none=>none
theorem RB {K:Frag} {N:Addr} (X:K.In h) (e:nsOkIn K N=true):h.nsMap N=xU K N:=by
 unfold nsOkIn at e
 split at e
 . rename_i ho
   funext x
   unfold xU Heap.nsMap
   rw [X _ _ ho,ho]
 . cases e
theorem LA {K:Frag} {N:Addr} (q:nsIn K N x=some none):xU K N x=none:=by
 unfold nsIn at q
 unfold xU
 split at q
 . rename_i c d es n sl ho
   rw [ho]
   show nsFind es x=none
   split at q
   . cases q
   . rename_i he
     unfold nsFind findBy
     rw [<-Array.find?_toList,he]
     rfl
 . cases q
theorem uZ.of {K:Frag} (q:excIn K C ack "ValueError.__new__"=true):uZ K C:=by
 unfold excIn at q
 split at q
 . rename_i dd cd sl ho
   split at q
   . rename_i C' bm k0 k1 k2 k3 n k5 hm hs
     simp only [Bj,nL,Bool.not_eq_true'] at q
     obtain ⟨⟨⟨⟨⟨rfl,rfl⟩,acq⟩,ht⟩,hok⟩,hni⟩:=q
     obtain ⟨nm,bs,mro,ns,qn,hd,sn,sub,ab,col,del⟩:=cd
     dsimp only at hm acq hok hni
     subst hm acq
     have hsl:sl=#[k0,k1,k2,k3,some (.builtin "ValueError.__new__"),k5] :=by
      obtain ⟨l⟩:=sl
      simp only at hs
      rw [hs]
     subst hsl
     refine ⟨nm,qn,ns,bs,bm,hd,sn,sub,ab,col,dd,k0,k1,k2,k3,k5,xU K ns,LA hni,Lz (by decide +kernel) ht,fun h X=>⟨X _ _ ho,?_,tail_of_in X ht⟩⟩
     have:=Heap.Ns.of_isNs (isNs_of_in X hok)
     rw [RB X hok] at this
     exact this
   . cases q
 . cases q
def LB:V->Value
 | .ref a=> .ref a
 | .ty n=> .type n
 | _=> .none
section
variable {X:Cx}
theorem ff (K:Frag) (hK:X.K=K):gW X (.builtin "isinstance") (fun xs H Q=>∃x C c b,xs=[.ref x,c]/\H x=some (Dg x C)/\nD K C/\RelV c (LB c)/\kitOne K (.ref C) (LB c)=some b/\Q (.bl b) H):=by
 subst hK
 intro pins s σ H xs us Q I r h
 obtain ⟨x,C,c,b,rfl,hx,ec,rc,e,q⟩:=h
 obtain ⟨u,w',rfl,ru,rw'⟩:=vals2 r
 have e1:u = .ref x:=ru
 subst e1
 have e2:w'=LB c:=by
  cases c with
  | ref a=>exact rw'
  | ty n=>exact rw'
  | b_=>exact rw'
  | bl b=>exact nomatch (show Value.none=Value.bool b from rc)
  | int i=>obtain ⟨t,z⟩:=(show ∃t,Value.none=Value.int i t from rc);cases z
  | str i=>obtain ⟨t,z⟩:=(show ∃t,Value.none=Value.str i t from rc);cases z
  | xB i=>obtain ⟨t,z⟩:=(show ∃t,Value.none=Value.bytes i t from rc);cases z
  | HJ i=>obtain ⟨t,z⟩:=(show ∃t,Value.none=Value.float i t from rc);cases z
 subst e2
 exact kia_one (WZ ec) I.iN (I.hok x _ hx).1 e (fun z=>nomatch z) fun tk=>⟨.bl b,H,I.tok _,Z,q⟩
end
structure Ec where
 (bad twice wg sV ES AH LC rows LD ET W0:Addr)
structure Told (K:Frag) (e:Ec) (C:Addr) (i:Nat):Prop where
 ec:nD K C
 jt:exmOne K (.ref C) (.ref e.W0)=some true
 ve:kitOne K (.ref C) (.type "ValueError")=some true
 k0:kitOne K (.ref C) (.ref e.bad)=some (decide (0=i))
 k1:kitOne K (.ref C) (.ref e.twice)=some (decide (1=i))
 k2:kitOne K (.ref C) (.ref e.wg)=some (decide (2=i))
 k3:kitOne K (.ref C) (.ref e.sV)=some (decide (3=i))
 k4:kitOne K (.ref C) (.ref e.ES)=some (decide (4=i))
 k5:kitOne K (.ref C) (.ref e.AH)=some (decide (5=i))
 k6:kitOne K (.ref C) (.ref e.LC)=some (decide (6=i))
 k7:kitOne K (.ref C) (.ref e.rows)=some (decide (7=i))
 k8:kitOne K (.ref C) (.ref e.LD)=some (decide (8=i))
 k9:kitOne K (.ref C) (.ref e.ET)=some (decide (9=i))
def LF (i:Nat):List Bool:=true::(List.range 10).map fun k=>decide (k=i)
def GH (i:Nat):List V:=(LF i).map V.bl
theorem Told.of {K:Frag} {e:Ec} {b0 b1 b2 b3 b4 b5 b6 b7 b8 b9:Bool} (ga:findIn K (.ref C) "__getattribute__"=some (some (.builtin "BaseException.__getattribute__"))) (gn:findIn K (.ref C) "__getattr__"=some none) (ca:findIn K (.ref C) "__class__"=some (some (.builtin "object.__class__")))
  (mo:mroIn K C (.type "object")=some true) (mb:mroIn K C (.type "BaseException")=some true) (jt:exmOne K (.ref C) (.ref e.W0)=some true) (ve:kitOne K (.ref C) (.type "ValueError")=some true)
  (k0:kitOne K (.ref C) (.ref e.bad)=some b0) (k1:kitOne K (.ref C) (.ref e.twice)=some b1) (k2:kitOne K (.ref C) (.ref e.wg)=some b2) (k3:kitOne K (.ref C) (.ref e.sV)=some b3) (k4:kitOne K (.ref C) (.ref e.ES)=some b4)
  (k5:kitOne K (.ref C) (.ref e.AH)=some b5) (k6:kitOne K (.ref C) (.ref e.LC)=some b6) (k7:kitOne K (.ref C) (.ref e.rows)=some b7) (k8:kitOne K (.ref C) (.ref e.LD)=some b8) (k9:kitOne K (.ref C) (.ref e.ET)=some b9)
  (h:[b0,b1,b2,b3,b4,b5,b6,b7,b8,b9]=(List.range 10).map fun k=>decide (k=i)):Told K e C i:=by
 have h':[b0,b1,b2,b3,b4,b5,b6,b7,b8,b9]=[decide (0=i),decide (1=i),decide (2=i),decide (3=i),decide (4=i),decide (5=i),decide (6=i),decide (7=i),decide (8=i),decide (9=i)] :=h
 simp only [List.cons.injEq,and_true] at h'
 obtain ⟨rfl,rfl,rfl,rfl,rfl,rfl,rfl,rfl,rfl,rfl⟩:=h'
 have is:(clsIn K C).isSome=true:=by
  unfold mroIn at mo
  obtain ⟨cd,a,b⟩:=Option.bind_eq_some_iff.mp mo
  rw [a];rfl
 exact ⟨⟨ga,gn,ca,mo,mb,is⟩,jt,ve,k0,k1,k2,k3,k4,k5,k6,k7,k8,k9⟩
def u6 (K:Frag) (j:Nat) (c:V):TE:=tCB (fun xs H Q=>∃x C c b,xs=[.ref x,c]/\H x=some (Dg x C)/\nD K C/\RelV c (LB c)/\kitOne K (.ref C) (LB c)=some b/\Q (.bl b) H) (jV (CS j) (jV (tC c) pP))
def aeJ (K:Frag) (e:Ec) (i j:Nat):TS:=
 z7 (z8 (Q3 (jV (u6 K j (.ty "ValueError")) (jV (u6 K j (.ref e.bad)) (jV (u6 K j (.ref e.twice)) (jV (u6 K j (.ref e.wg)) pP))))) (gh i))
  (z7 (z8 (D6 V6 (CS i) (Q3 (jV (u6 K j (.ref e.sV)) (jV (u6 K j (.ref e.ES)) (jV (u6 K j (.ref e.AH)) pP))))) (gh i))
    (z8 (D6 V6 (CS i) (Q3 (jV (u6 K j (.ref e.LC)) (jV (u6 K j (.ref e.rows)) (jV (u6 K j (.ref e.LD)) (jV (u6 K j (.ref e.ET)) pP)))))) (gh i)))
section
theorem RC {K:Frag} {e:Ec} {σ:St} {x:Addr} (to:Told K e C n) (hj:σ[j]?=some (some (.ref x))) (hi:i<σ.length) (hij:i≠j) (hx:H x=some (Dg x C))
  (q:∀l H',aF H H'->H' l=some (.lst (GH n))->D.nx (σ.set i (some (.ref l))) H'):aeJ K e i j D σ H:=by
 have X_:∀(σ:St) (v:V),i<σ.length->(σ.set i (some v))[i]?=some (some v):=fun σ v h=>j5 h
 have Yb:∀(σ:St) (v:V),σ[j]?=some (some (.ref x))->(σ.set i (some v))[j]?=some (some (.ref x)):=fun σ v h=>by rw [uD hij];exact h
 refine ⟨_,hj,x,C,_,_,Z,hx,to.ec,Z,to.ve,?_⟩
 refine ⟨_,hj,x,C,_,_,Z,hx,to.ec,Z,to.k0,?_⟩
 refine ⟨_,hj,x,C,_,_,Z,hx,to.ec,Z,to.k1,?_⟩
 refine ⟨_,hj,x,C,_,_,Z,hx,to.ec,Z,to.k2,?_⟩
 refine ⟨(show 4<=sizeLine from by rw [fB];decide),fun p1 hp1=>?_⟩
 generalize hH1:upd H p1 (HO.lst _)=H1
 have W6:upd H p1 (.lst [V.bl true,V.bl (decide (0=n)),V.bl (decide (1=n)),V.bl (decide (2=n))])=H1:=hH1
 have g1:aF H H1:=W6▸aB hp1 _
 have h1:H1 p1=some (.lst [V.bl true,V.bl (decide (0=n)),V.bl (decide (1=n)),V.bl (decide (2=n))]):=by rw [<-W6,ai]
 clear hH1 W6
 have hj1:=Yb σ (.ref p1) hj
 have UE:=g1 _ _ hx
 refine ⟨_,X_ _ _ hi,?_⟩
 refine ⟨_,hj1,x,C,_,_,Z,UE,to.ec,Z,to.k3,?_⟩
 refine ⟨_,hj1,x,C,_,_,Z,UE,to.ec,Z,to.k4,?_⟩
 refine ⟨_,hj1,x,C,_,_,Z,UE,to.ec,Z,to.k5,?_⟩
 refine ⟨(show 3<=sizeLine from by rw [fB];decide),fun p2 hp2=>?_⟩
 generalize hH2:upd H1 p2 (HO.lst _)=H2
 have W7:upd H1 p2 (.lst [V.bl (decide (3=n)),V.bl (decide (4=n)),V.bl (decide (5=n))])=H2:=hH2
 have g2:aF H1 H2:=W7▸aB hp2 _
 have h2:H2 p2=some (.lst [V.bl (decide (3=n)),V.bl (decide (4=n)),V.bl (decide (5=n))]):=by rw [<-W7,ai]
 clear hH2 W7
 refine ⟨p1,p2,_,_,Z,Z,g2 _ _ h1,h2,(show 4+3<=sizeLine from by rw [fB];decide),fun p3 hp3=>?_⟩
 generalize UG:upd H2 p3 (HO.lst _)=H3
 have AI:upd H2 p3 (.lst [V.bl true,V.bl (decide (0=n)),V.bl (decide (1=n)),V.bl (decide (2=n)),V.bl (decide (3=n)),V.bl (decide (4=n)),V.bl (decide (5=n))])=H3:=UG
 have g3:aF H2 H3:=AI▸aB hp3 _
 have h3:H3 p3=some (.lst [V.bl true,V.bl (decide (0=n)),V.bl (decide (1=n)),V.bl (decide (2=n)),V.bl (decide (3=n)),V.bl (decide (4=n)),V.bl (decide (5=n))]):=by rw [<-AI,ai]
 clear UG AI
 have Ir:=Yb _ (.ref p3) hj1
 have PV:=g3 _ _ (g2 _ _ UE)
 refine ⟨_,X_ _ _ (by rw [fq];exact hi),?_⟩
 refine ⟨_,Ir,x,C,_,_,Z,PV,to.ec,Z,to.k6,?_⟩
 refine ⟨_,Ir,x,C,_,_,Z,PV,to.ec,Z,to.k7,?_⟩
 refine ⟨_,Ir,x,C,_,_,Z,PV,to.ec,Z,to.k8,?_⟩
 refine ⟨_,Ir,x,C,_,_,Z,PV,to.ec,Z,to.k9,?_⟩
 refine ⟨(show 4<=sizeLine from by rw [fB];decide),fun p4 LG=>?_⟩
 generalize UH:upd H3 p4 (HO.lst _)=H4
 have Dh:upd H3 p4 (.lst [V.bl (decide (6=n)),V.bl (decide (7=n)),V.bl (decide (8=n)),V.bl (decide (9=n))])=H4:=UH
 have g4:aF H3 H4:=Dh▸aB LG _
 have h4:H4 p4=some (.lst [V.bl (decide (6=n)),V.bl (decide (7=n)),V.bl (decide (8=n)),V.bl (decide (9=n))]):=by rw [<-Dh,ai]
 clear UH Dh
 refine ⟨p3,p4,_,_,Z,Z,g4 _ _ h3,h4,(show 7+4<=sizeLine from by rw [fB];decide),fun p5 hp5=>?_⟩
 have g5:=aB hp5 (.lst (GH n))
 have:=q p5 (upd H4 p5 (.lst (GH n))) (g1.trans (g2.trans (g3.trans (g4.trans g5)))) ai
 show D.nx (((σ.set i _).set i _).set i _) _
 rw [mK,mK]
 exact this
end
structure Mx (P:Program) (w:World) (K:Fg) (mg:SO) (base:Heap) (k:Nat) (C:Addr) (m:Str) (ps:List Str) (sp:Sp):Prop where
 ex:∃f fd,iw P w K mg base (iz P w) k f fd ps sp/\Binds K fd ps []/\Meth K C m f/\oS K C
theorem i8.okX {w:World} {m:Str} {st:Stmt} {k:Nat} (F:i8 K C m qual st f fd) (S:aJ N ps (ay st)) (len:∀vs H Q E,sp vs H Q E->vs.length=ps.length)
  (hbody:∀(cdv:Value) (A:Around) (outer:List Env) (s:Shared) (H:Hp) (vs:List V) (Q:VK) (E:XK),dG k (A.deeper (envOfC qual (ay st) s.heap.objs.size f cdv))->sp vs H Q E->
    ∃t,qL (dj (iz P w) P w K mg base N qual (ay st) f cdv A outer s H E) (cF st) t/\t { nx:=fun _ H'=>Q .b_ H',rt:=Q } (start N vs) H)
  (h:∀(kV doc pm:Value) (an:Option Addr) (cdv ct:Value) (us:List Value),us.length=ps.length->bindArgs (PySem.W.fnOf m qual (dU st) (cF st) (ay st) .none kV doc pm an cdv ct) ⟨us,[]⟩=pure (ps.zip us)):
  Mx P w K mg base (k+1) C m ps sp:=by
 refine ⟨f,fd,?_,F.fn.binds h,F.me,F.cl⟩
 obtain ⟨oc,od,kV,doc,pm,an,cdv,ct,osl,rfl,lk,hcd⟩:=F.fn.ex
 exact Q5 lk hcd S len fun A outer s H vs Q E hr pQ=>hbody cdv A outer s H vs Q E hr pQ
theorem iw.noX {w:World} {k:Nat} {UI:Sp} (F:iw P w K mg base (iz P w) k f fd ps sp) (h:∀vs H Q E,UI vs H Q E->sp vs H Q E0):iw P w K mg base t_ k f fd ps UI:=
 ⟨fun vs H Q E q=>F.len _ _ _ _ (h _ _ _ _ q),fun A outer s H args us vs Q E hr he hb hv hs=>Bq (F.run A outer s H args us vs Q E0 hr he hb hv (h _ _ _ _ hs)) fun r s' q=>by
   cases r with
   | error e=>
     obtain ⟨x,T,C,H',_,_,_,_,_,_,_,_,_,_,z⟩:=(show iz P w outer H s E0 e s' from q)
     exact z.elim
   | ok fl=>cases fl <;> exact q⟩
theorem Mx.mn {w:World} {k:Nat} {m:Str} {UI:Sp} (D:Mx P w K mg base k C m ps sp) (h:∀vs H Q E,UI vs H Q E->sp vs H Q E0):Mn P w K mg base k C m ps UI:=by
 obtain ⟨f,fd,F,b,me,c⟩:=D.ex
 exact ⟨f,fd,F.noX h,b,me,c⟩
section
variable {P:Program} {w:World} {K:Fg} {mg:SO} {base:Heap} {N:List Str} {qual:Str} {scope:Scope} {f:Addr} {cd:Value} {A:Around} {outer:List Env} {s0:Shared} {H0:Hp} {E:XK}
end
section
variable {X:Cx}
end
def Ec.at (e:Ec):Nat->Addr
 | 0=>e.bad|1=>e.twice|2=>e.wg|3=>e.sV|4=>e.ES|5=>e.AH|6=>e.LC|7=>e.rows|8=>e.LD|_=>e.ET
def Rf (e:Ec) (E:XK) (H:Hp) (i:Nat):Prop:=∀x H',aF H H'->E (.ref x) (some (e.at i)) H'
structure DoX (T:TC) (e:Ec) (n:Nat) (ρ:fJ) (A:HA) (H:Hp) (r:Option Nat) (st':HS) (Q:VK) (E:XK):Prop where
 no:∀i,r=some i->Rf e E H i
 ok:r=none->BL T n ρ A H st' fun H'=>Q .b_ H'
def newR (st:HS) (x:Str):Option Nat:=if isNm x=true then (if x∈st.nms then some 1 else none) else some 0
def RD (st:HS) (o:Str):Option Nat:=if isNm o=true then (if o∈st.own then some 1 else none) else some 0
def RE (st:HS) (x o:Str) (wo we:Int):Option Nat:=match newR st x with
 | some i=>some i
 | none=>if o∈st.own then (if wo<1\/we<0 then some 5 else none) else some 2
inductive ZM (T:TC) (e:Ec) (vs:List V) (H:Hp) (Q:VK) (E:XK):Prop
 | mk (n ρ A st o:_) (_:vs=[.ref A.a, .str o]) (_:aR T n ρ A H st) (_:(o∉st.own->Rf e E H 2)) (_:(o∈st.own->Q (.int (st.own.idxOf o:Int)) H))
def Di (T:TC) (e:Ec):Sp:=bx (ZM T e)
inductive W8 (T:TC) (e:Ec) (vs:List V) (H:Hp) (Q:VK) (E:XK):Prop
 | mk (n ρ A st x:_) (_:vs=[.ref A.a, .str x]) (_:aR T n ρ A H st) (_:(st.ah.map (·.nm)).Nodup) (_:((∀p∈st.ah,p.nm≠x)->Rf e E H 3)) (_:∀(i:Nat) (p:Pt) (q:Addr×Addr×Addr),p.nm=x->st.ah[i]?=some p->A.qs[i]?=some q->Q (.ref q.1) H)
def AJ (T:TC) (e:Ec):Sp:=bx (W8 T e)
inductive ahS (vs:List V) (H:Hp) (Q:VK) (E:XK):Prop
 | mk (n:Nat) (_:vs=[.int (n:Int)]) (_:∀p H',aF H H'->H' p=some (.lst (GH n))->Q (.ref p) H')
def RG:Sp:=bx (ahS)
theorem ZN {Q:VK} {E:XK} {i:Int} (e:i=(n:Int)) (q:∀p H',aF H H'->H' p=some (.lst (GH n))->Q (.ref p) H'):RG [.int i] H Q E:=⟨n,by rw [e],q⟩
theorem LH {K:Fg} {H:Hp}:∀bs:List Bool,xK K H (bs.map V.bl) (bs.map PyData.bool)
 | []=> .nil
 | b::bs=> .cons (.bl b) (LH bs)
inductive Dd where
 | sign (o:Str)|load (x o:Str) (wo we:Int)|cast (rs:List Row)|award (o:Str) (a:Int)|mishap (x:Str) (a:Int)|rise (x:Str) (a:Int)|hand (x o:Str)|land (x:Str)|sever (x y:Str) (a we:Int)|still
def Yc:List Row->List V
 | []=>[]
 | r::rs=> .str r.1 :: .int r.2::Yc rs
def Dd.v:Dd->List V
 | .sign o=>[.str "sign", .str o]
 | .load x o wo we=>[.str "load", .str x, .str o, .int wo, .int we]
 | .cast rs=> .str "cast"::Yc rs
 | .award o a=>[.str "award", .str o, .int a]
 | .mishap x a=>[.str "mishap", .str x, .int a]
 | .rise x a=>[.str "rise", .str x, .int a]
 | .hand x o=>[.str "hand", .str x, .str o]
 | .land x=>[.str "land", .str x]
 | .sever x y a we=>[.str "sever", .str x, .str y, .int a, .int we]
 | .still=>[.str "still"]
def lH (st:HS):List Str:=st.ah.map fun p=>p.nm
def LI (st:HS) (r:Row):Option Nat:=if r.1∈lH st then (if r.2<1 then some 5 else if (c9 st r.1).wo<r.2 then some 6 else none) else some 3
def RH (st:HS) (rs:List Row):Option Nat:=if rs≠[]/\(rs.map fun r:Row=>r.1).Nodup then (match rs.findSome? (LI st) with
 | some i=>some i
 | none=>if bK st<=bu rs then some 6 else none) else some 7
def LJ (st:HS) (o:Str) (a:Int):Option Nat:=if o∈st.own then (if a<1 then some 5 else if bK st<=a then some 6 else none) else some 2
def RI (st:HS) (x:Str) (a:Int):Option Nat:=if x∈lH st then (if a<1 then some 5 else none) else some 3
def jy (st:HS) (x o:Str):Option Nat:=if x∈lH st then (if o∈st.own then none else some 2) else some 3
def RJ (st:HS) (x:Str):Option Nat:=if x∈lH st then none else some 3
def LK (st:HS) (x y:Str) (a we:Int):Option Nat:=if x∈lH st then (match newR st y with
 | some i=>some i
 | none=>if a<1\/we<0 then some 5 else if (c9 st x).wo<=a\/(c9 st x).we<we then some 6 else none) else some 3
def k_ (st:HS):Dd->Option Nat
 | .sign o=>RD st o
 | .load x o wo we=>RE st x o wo we
 | .cast rs=>RH st rs
 | .award o a=>LJ st o a
 | .mishap x a=>LI st (x,a)
 | .rise x a=>RI st x a
 | .hand x o=>jy st x o
 | .land x=>RJ st x
 | .sever x y a we=>LK st x y a we
 | .still=>none
def acs (st:HS) (o:Str) (a:Int):HS:=cU st (bK st-a) (bK st) ((List.replicate st.own.length 0).set (st.own.idxOf o) (a*st.prod))
def IF (st:HS) (x:Str) (f:Pt->Pt):HS:={ st with ah:=st.ah.map fun p=>if p.nm=x then f p else p }
def aeK (st:HS) (x:Str) (a:Int):HS:=IF st x fun p=>{ p with wo:=p.wo+a }
def nP (st:HS) (p:Pt) (o:Str):List Int:=((bh st p).set (st.own.idxOf o) ((bh st p).getD (st.own.idxOf o) 0+(bh st p).getD (st.own.idxOf p.ow) 0)).set (st.own.idxOf p.ow) 0
def rX (st:HS) (x o:Str):HS:=if st.own.idxOf o=st.own.idxOf (c9 st x).ow then st else IF st x fun p=>{ p with ow:=o,sc:=1,row:=m8 st (nP st p o) }
def Yd (st:HS) (p:Pt):List Int:=List.zipWith (fun u t=>u+p.wo*t) st.c_ (bh st p)
def aeL (st:HS) (x:Str):HS:=
 { st with ah:=st.ah.filter (fun p=>decide (p.nm≠x))
           ku:=st.ku++[⟨x,(c9 st x).ow,(c9 st x).wo,Ar st (c9 st x)⟩]
           kn:=st.kn+100
           c_:=(Yd st (c9 st x)).set (st.own.idxOf (c9 st x).ow) ((Yd st (c9 st x)).getD (st.own.idxOf (c9 st x).ow) 0-(c9 st x).wo*st.prod) }
def acu (st:HS) (x y:Str) (a we:Int):HS:=BN (IF st x fun p=>{ p with wo:=p.wo-a,we:=p.we-we }) ⟨y,(c9 st x).ow,a,we,(c9 st x).sc,(c9 st x).row⟩
def wk (st:HS):Dd->HS
 | .sign o=>gI st o
 | .load x o wo we=>yF st x o wo we
 | .cast rs=>kK st rs
 | .award o a=>acs st o a
 | .mishap x a=>gc st (x,a)
 | .rise x a=>aeK st x a
 | .hand x o=>rX st x o
 | .land x=>aeL st x
 | .sever x y a we=>acu st x y a we
 | .still=>st
inductive ZO (T:TC) (e:Ec) (al:HS->Dd->Prop) (K:Fg) (vs:List V) (H:Hp) (Q:VK) (E:XK):Prop
 | mk (n ρ A st z d:_) (_:vs=[.ref A.a, .ref z]) (_:cS K H z (Dd.v d)) (_:HH T n ρ A H st) (_:al st d) (_:DoX T e n ρ A H (k_ st d:_) (wk st d:_) Q E)
def LL (T:TC) (e:Ec) (al:HS->Dd->Prop) (K:Fg):Sp:=bx (ZO T e al K)
inductive acv (T:TC) (al:HS->Dd->Prop) (K:Fg) (vs:List V) (H:Hp) (Q:VK) (E:XK):Prop
 | mk (n ρ A st z d:_) (_:vs=[.ref A.a, .ref z]) (_:cS K H z (Dd.v d)) (_:HH T n ρ A H st) (_:al st d) (_:(∀i,k_ st d=some i->∀l H',aF H H'->H' l=some (.lst (GH i))->Q (.ref l) H')) (_:(k_ st d=none->∀l ρ' A' H',HH T n ρ' A' H' (wk st d:_)->A'.a=A.a->Fr n ρ H ρ' H'->H' l=some (.lst [])->ρ' l=none->H l=none->Q (.ref l) H'))
def GI (T:TC) (al:HS->Dd->Prop) (K:Fg):Sp:=bx (acv T al K)
theorem NQ {o:Str} (h:RD st o=some i):i=0\/i=1:=by
 unfold RD at h
 split at h
 . split at h <;> cases h;exact .inr rfl
 . cases h;exact .inl rfl
def wl (s:Str):Nat:=s.cps.toList.length
theorem RK (cs:List Nat):wl (tx cs)=cs.length:=by unfold wl;show cs.toArray.toList.length=_;simp
section
variable {X:Cx}
inductive aeM (x:V) (y:V) (H:Hp) (Q:VK):Prop
 | mk  (i j:Str) (_:x = .str i) (_:y = .str j) (_:wl i+wl j<=10000) (_:∀r:Str,wl r=wl i+wl j->Q (.str r) H)
theorem qX:gY X (binaryOp .Add) aeM:=by
 intro pins s σ H x y v u Q I rx ry h
 obtain ⟨i,j,rfl,rfl,hz,q⟩:=h
 rw [<-xM i] at rx
 rw [<-xM j] at ry
 exact ZJ pins s σ H _ _ v u Q I rx ry ⟨_,_,Z,Z,fu hz (by decide),q _ (by rw [RK,dh];rfl)⟩
inductive ahT (x:V) (lo:Option Int) (hi:Option Int) (H:Hp) (Q:VK):Prop
 | mk  (i:Str) (_:x = .str i) (_:wl i<=10000) (_:∀r:Str,wl r<=wl i->(∀n:Nat,lo=none->hi=some (n:Int)->wl r<=n)->Q (.str r) H)
theorem xV:SY X ahT:=by
 intro pins s σ H x v vl vu lo hi sl Q I rx hs pl pu h
 obtain ⟨i,rfl,hz,q⟩:=h
 rw [<-xM i] at rx
 refine abB pins s σ H _ v vl vu lo hi sl Q I rx hs pl pu ⟨_,Z,by rw [fB];exact fu hz (by decide),q _ ?_ ?_⟩
 . rw [RK];exact Cr _ _ _
 . rintro n rfl rfl
   rw [RK,Y8,kZ]
   omega
end
theorem UJ {α:Type} {xs:List α} {i:Int} (h1:-(xs.length:Int)<=i) (h2:i<(xs.length:Int)):∃v∈xs,oU xs i=some v:=by
 unfold oU Cm
 by_cases h0:0<=i
 . rw [aA h0,aA h2]
   have hj:i.toNat<xs.length:=by omega
   exact ⟨xs[i.toNat],rN hj,aW hj⟩
 . rw [az h0,aA h1]
   have hj:(i+xs.length).toNat<xs.length:=by omega
   exact ⟨xs[(i+xs.length).toNat],rN hj,aW hj⟩
theorem acw:∀i:Fin 10,SeqAt.shaped (.list ((LF i.val).map PyData.bool))=true/\PyData.eqv (.list ((LF i.val).map PyData.bool)) (.list ((LF i.val).map PyData.bool))=true:=by decide +kernel
def told (r:Option Nat):List Bool:=match r with
 | some i=>LF i
 | none=>[]
def J9 (r:Option Nat):List V:=(told r).map V.bl
theorem PY (r:Option Nat):xK K H (J9 r) ((told r).map PyData.bool):=LH _
theorem GJ {r:Option Nat} (h:∀i,r=some i->i<10):SeqAt.shaped (.list ((told r).map PyData.bool))=true/\PyData.eqv (.list ((told r).map PyData.bool)) (.list ((told r).map PyData.bool))=true:=by
 cases r with
 | none=>exact ⟨Z,Z⟩
 | some i=>exact acw ⟨i,h i rfl⟩
def u7 (st:HS) (d:Dd):HS:=match k_ st d with
 | some _=>st
 | none=>wk st d
theorem ZP {l l':Addr} {r:Option Nat} {Q:VK} (h1:H l=some (.lst (J9 r))) (h2:H l'=some (.lst (J9 r))) (h:∀i,r=some i->i<10) (q:Q (.bl true) H):Wi K (.ref l) (.ref l') H Q:=
 ⟨_,_, .lst (aC.of h1) (PY r), .lst (aC.of h2) (PY r),(GJ h).1,(GJ h).1,by rw [(GJ h).2];exact q⟩
section
variable {P:Program} {w:World} {K:Fg} {mg:SO} {base:Heap} {k:Nat} {T:TC} {e:Ec} {ps:List Str}
theorem W9 (D:Mx P w K mg base k T.hold "place_of" ps (Di T e)):Mn P w K mg base k T.hold "place_of" ps (Po T):=
 D.mn fun vs H Q E h=>by
   obtain ⟨⟨n,ρ,A,st,o,rfl,hx,ho,q⟩⟩:=h
   exact ⟨n,ρ,A,st,o,Z,hx,fun z=>absurd ho z,fun _=>q⟩
theorem UK (D:Mx P w K mg base k T.hold "part_of" ps (AJ T e)):Mn P w K mg base k T.hold "part_of" ps (C6 T):=
 D.mn fun vs H Q E h=>by
   obtain ⟨⟨n,ρ,A,st,i,p,qq,rfl,hx,nd,ep,eq,q⟩⟩:=h
   refine ⟨n,ρ,A,st,p.nm,Z,hx,nd,fun z=>absurd rfl (z p (bJ ep)),fun j p' q' e1 e2 e3=>?_⟩
   have:j=i:=EC nd e2 ep e1
   subst this
   rw [eq] at e3;cases e3
   exact q
end
def nB (i:Int):Prop:=-1000000000<=i/\i<=1000000000
def PZ:Dd->Prop
 | .sign o=>wl o<=20
 | .load x o wo we=>wl x<=20/\wl o<=20/\nB wo/\nB we
 | .cast rs=>rs.length<=60/\∀r∈rs,wl r.1<=20/\nB r.2
 | .award o a=>wl o<=20/\nB a
 | .mishap x a=>wl x<=20/\nB a
 | .rise x a=>wl x<=20/\nB a
 | .hand x o=>wl x<=20/\wl o<=20
 | .land x=>wl x<=20
 | .sever x y a we=>wl x<=20/\wl y<=20/\nB a/\nB we
 | .still=>True
def Dd.k:Dd->Nat
 | .sign _=>0 | .load .. =>1 | .cast _=>2 | .award .. =>3 | .mishap .. =>4 | .rise .. =>5 | .hand .. =>6 | .land _=>7 | .sever .. =>8 | .still=>9
def RL (n:Nat):Str:=(["sign","load","cast","award","mishap","rise","hand","land","sever","still"] :List Str).getD n "still"
def Dd.w (d:Dd):Str:=RL d.k
theorem Dd.v0 (d:Dd):d.v[0]?=some (.str d.w):=by cases d <;> rfl
theorem Dd.k_lt (d:Dd):d.k<10:=by cases d <;> simp [Dd.k]
theorem aeN:∀m n:Fin 10,m≠n->RL m.val≠RL n.val:=by decide +kernel
theorem Dd.acy {d:Dd} (h:d.k≠n) (hn:n<10):d.w≠RL n:=aeN ⟨d.k,d.k_lt⟩ ⟨n,hn⟩ fun e=>h (gU Fin.val e)
theorem Dd.acz {d:Dd} (h:d.k≠2):d.w ≠ "cast":=d.acy h (by decide)
theorem Dd.ZQ {d:Dd} (h:d.k≠9):d.w ≠ "still":=d.acy h (by decide)
def alike (v w:V):Prop:=(∃s s',v = .str s/\w = .str s'/\wl s'<=20)\/∃i i',v = .int i/\w = .int i'/\nB i'
theorem IG {s:Str} {w:V} (h:alike (.str s) w):∃s',w = .str s'/\wl s'<=20:=by
 rcases h with ⟨_,s',e,h1,h2⟩|⟨i,i',e,_⟩
 . exact ⟨s',h1,h2⟩
 . cases e
structure Bk (b:BS):Prop where
 own:∀x∈b.own,wl x<=20
 d_:∀x∈b.d_,wl x<=20
 ah:∀p∈b.ah,wl p.nm<=20
 wo:∀p∈b.ah,0<=p.wo/\0<=p.we
 ol:b.own.length<=100
 kl:b.d_.length<=1000
 pl:b.ah.length<=1000
inductive RM (K:Fg) (vs:List V) (H:Hp) (Q:VK) (E:XK):Prop
 | mk (a:Addr) (ms:List Int) (k:Int) (n:Nat) (ρ:fJ) (B:BA) (b:BS) (x:Str) (_:vs=[.ref a, .int k, .ref B.m, .str x]) (_:aC K H a (ms.map V.int)) (_:ms.length<=63) (_:0<=k) (_:aU n ρ B H b) (_:Bk b) (_:wl x<=20) (_:∀r H',aF H H'->wl r<=20->Q (.str r) H')
def CG (K:Fg):Sp:=bx (RM K)
inductive LM (K:Fg) (vs:List V) (H:Hp) (Q:VK) (E:XK):Prop
 | mk (a:Addr) (ms:List Int) (k:Int) (n:Nat) (ρ:fJ) (B:BA) (b:BS) (i:Int) (_:vs=[.ref a, .int k, .ref B.m, .int i]) (_:aC K H a (ms.map V.int)) (_:ms.length<=63) (_:0<=k) (_:aU n ρ B H b) (_:Bk b) (_:nB i) (_:∀r H',aF H H'->nB r->Q (.int r) H')
def zJ (K:Fg):Sp:=bx (LM K)
def acA:Option Nat->Int
 | none=>-1
 | some i=>i
inductive ahU (al:HS->Dd->Prop) (K:Fg) (vs:List V) (H:Hp) (Q:VK) (E:XK):Prop
 | mk (n:Nat) (ρ:fJ) (B:BA) (b:BS) (st:HS) (z:Addr) (d:Dd) (_:vs=[.ref B.m, .ref z]) (_:cS K H z d.v) (_:aU n ρ B H b) (_:iS st b) (_:Wf st) (_:uW b) (_:st.nms=b.d_) (_:al st d) (_:PZ d) (_:∀H',aF H H'->Q (.int (acA (k_ st d))) H')
def J_ (al:HS->Dd->Prop) (K:Fg):Sp:=bx (ahU al K)
theorem EU {o:Str} (h:newR st o=some i):i=0\/i=1:=by
 unfold newR at h
 split at h
 . split at h <;> cases h;exact .inr rfl
 . cases h;exact .inl rfl
theorem NR {o:Str} (h:RE st x o wo we=some i):i=0\/i=1\/i=2\/i=5:=by
 unfold RE at h
 cases hn:newR st x with
 | some j=>
   rw [hn] at h
   cases h
   rcases EU hn with rfl|rfl
   . exact .inl rfl
   . exact .inr (.inl rfl)
 | none=>
   rw [hn] at h
   have h':(if o∈st.own then (if wo<1\/we<0 then some 5 else none) else some 2)=some i:=h
   split at h'
   . split at h' <;> cases h';exact .inr (.inr (.inr rfl))
   . cases h';exact .inr (.inr (.inl rfl))
def kg (m:Nat) (vs:List V):Prop:=∀v∈vs,∃s:Str,v = .str s/\wl s<=m
theorem kg.nil:kg m [] :=fun _ h=>nomatch h
theorem kg.cons {m:Nat} {s:Str} {vs:List V} (h:wl s<=m) (hs:kg m vs):kg m (.str s::vs):=fun v hv=>by
 rcases c6.mp hv with rfl|hv
 . exact ⟨s,Z,h⟩
 . exact hs v hv
theorem kg.append {us:List V} (h:kg m vs) (hu:kg m us):kg m (vs++us):=fun v hv=>(fZ.mp hv).elim (h v) (hu v)
theorem kg.map {xs:List Str} (h:∀x∈xs,wl x<=m):kg m (xs.map V.str):=fun v hv=>by
 obtain ⟨x,hx,rfl⟩:=bQ.mp hv
 exact ⟨x,Z,h x hx⟩
def u9 (vs:List V):Prop:=∀v∈vs,∃i:Int,v = .int i/\-1000000000<=i
theorem u9.nil:u9 [] :=fun _ h=>nomatch h
theorem u9.cons {i:Int} {vs:List V} (h:-1000000000<=i) (hs:u9 vs):u9 (.int i::vs):=fun v hv=>by
 rcases c6.mp hv with rfl|hv
 . exact ⟨i,Z,h⟩
 . exact hs v hv
theorem u9.append {us:List V} (h:u9 vs) (hu:u9 us):u9 (vs++us):=fun v hv=>(fZ.mp hv).elim (h v) (hu v)
theorem UL:∀{l:List Int},(∀x∈l,0<=x)->0<=l.sum
 | [],_=>iW _
 | a::l,h=>by
   rw [cI]
   have:=h a cM
   have:=UL (l:=l) fun x hx=>h x (cG _ hx)
   omega
theorem BU (h:isNm x=true):wl x<=20:=by
 unfold isNm isName at h
 have:=eO (kX.mp (kX.mp h).1).2
 unfold wl
 omega
theorem gk.sub (g:gk c st b) (wf:Wf st) {p:BP} (hp:p∈b.ah):p.nm∈b.d_/\p.ow∈b.own/\1<=p.wo/\0<=p.we:=by
 obtain ⟨j,hj,ej⟩:=pD hp
 obtain ⟨p',sU,e1,e2,e3,e4⟩:=g.rel.at (i:=j) (q:=p) (by rw [aW hj,ej])
 have hm:=bJ sU
 have h1:=wf.sub p' hm
 have h2:=wf.ow p' hm
 have h3:=wf.xQ p' hm
 rw [e1,g.d_] at h1
 rw [e2,g.rel.own] at h2
 rw [e3,e4] at h3
 exact ⟨h1,h2,h3.1,h3.2⟩
theorem gk.bk (g:gk c st b) (wf:Wf st):Bk b:=
 ⟨fun x hx=>BU (g.on x hx),fun x hx=>BU (g.nk x hx),fun p hp=>BU (g.nk _ (g.sub wf hp).1),fun p hp=>⟨by have:=(g.sub wf hp).2.2.1;omega,(g.sub wf hp).2.2.2⟩,g.jR.ol,g.jR.kl,g.jR.pl⟩
end L2
set_option autoImplicit true
namespace L2
open PySem PySem.Spec PyProof.Rows
structure bE (X:Cx) (e:Expr) (t:TE):Prop where h:PE X e t
structure bT (X:Cx) (e:Expr) (t:TT):Prop where h:PT X e t
structure bW (X:Cx) (e:Expr) (t:TT):Prop where h:PW X e t
structure bA (X:Cx) (es:List Expr) (t:TA):Prop where h:PA X es t
structure bS (X:Cx) (s:Stmt) (t:TS):Prop where h:PS X s t
structure cK (X:Cx) (s:List Stmt) (t:TS):Prop where h:qL X s t
structure bC (X:Cx) (op:CmpOp) (a b:Expr) (t:TE):Prop where h:PC X op a b t
structure bG (X:Cx) (e:Expr) (t:TG):Prop where h:PG X e t
structure Ye (X:Cx) (e:List Expr) (t:D0):Prop where h:PGs X e t
structure bI (X:Cx) (tg iter:Expr) (wi:TI):Prop where h:PI X tg iter wi
structure bO (X:Cx) (e:Option Expr) (t:TO):Prop where h:PO X e t
structure bX (X:Cx) (e:List Stmt) (t:TX):Prop where h:PX X e t
structure Yg (X:Cx) (pos:Pos) (ks:List (Option Expr)) (vs:List Expr) (t:List (TE×TE)):Prop where h:PPs X pos ks vs t
theorem bW.pt {X:Cx} {e:Expr} {t:TT} (h:bW X e t):bT X e t:=⟨h.h.pt⟩
theorem LN {op} {t:TE} (h:bE X a t):bE X (.BoolOp op [a] pos) t:=by
 have h:=h.h;exact ⟨fun pins s σ H Q I hw=>BoolOp_one (h pins s σ H Q I hw)⟩
theorem dw {e:Expr} {t:TE} (h:bE X e t) (he:∀whole,isTrue e X.env whole=(do let v <-whole;standAt e.pos;holding [v] (truthy v)):=by intro _;rfl):bT X e (tB t):=by
 have h:=h.h;constructor
 intro pins s σ H Q I hw
 refine isTrue_plain (bg (h pins s σ H _ I hw) fun v s1 ⟨x,H1,I1,r1,q1⟩=>?_) (he _)
 obtain ⟨d,rfl,q⟩:=q1
 cases r1
 exact zZ ⟨H1,I1,q⟩
theorem aI {r:R2} (hr:zz X r) (ha:bE X a ta) (hb:bE X b tb) (hs:YT b:=by exact fun _ _=>rfl):bE X (.Subscript a b pos) (D6 r ta tb):=by
 have ha:=ha.h;have hb:=hb.h;constructor
 intro pins s σ H Q I h
 exact Subscript_ (VR ha hb I h fun v u s2 x y H2 I2 rx ry q=>hr a b pins s2 σ H2 x y v u Q I2 rx ry q (hs _ _))
theorem qY (h:bE X e te):bO X (some e) (ad8 te):=by
 have h:=h.h;constructor
 intro pins s σ H Q I hw
 rw [evalPart_some]
 refine bg (h pins s σ H _ I hw) fun u s1 ⟨x,H1,I1,r1,q1⟩=>?_
 obtain ⟨i,rfl,q⟩:=q1
 obtain ⟨t,rfl⟩:=r1
 exact ⟨some i,H1,I1, .int i t,q⟩
theorem je:Ye X [] aaA:=by
 constructor
 intro pins s σ H vs us Q I r h
 obtain ⟨e,h⟩:=h
 subst e
 cases r
 exact assignInOrder_nil ⟨σ,H,I,h⟩
theorem qZ:bO X none YR:=by
 constructor
 intro pins s σ H Q I h
 rw [evalPart_none]
 exact aL ⟨none,H,I, .none,h⟩
theorem jz {x:Str} {n:String} {pos:Pos} (hv:bootBuiltins x=some (.type n)) (hg:Gl X x) (hm:X.mg x=none) (hn:x ≠ "__name__":=by decide) (hd:(x==("__debug__":Str))=false:=by decide):bE X (.Name x pos) (tC (.ty n)):=by
 exact ⟨YF hg hm hv rfl hn hd⟩
theorem aQ {i:Nat} {x:Str} (hN:X.N.Nodup) (hi:X.N[i]?=some x:=by rfl) (hx:Loc X.env.scope x:=by first|exact Or.inl rfl|exact Or.inr rfl) (hf:X.fn x=true\/X.env.scope.names.lookup x=some .local:=by first|exact .inl rfl|exact .inr rfl|assumption):bG X (.Name x pos) (gh i):=by
 constructor
 intro pins s σ H v u Q I r h
 exact wpAny_assign_Name (uF I hN hi hx r (fun s' I'=>⟨_,H,I',h⟩) hf)
theorem Dj {c:Expr} {body:List Stmt} {tc:TT} {tb:TS} (hp:PassesOwn (model X.prog X.w) X.A X.env X.xe) (hc:bT X c tc) (hb:cK X body tb):bS X (.While c body [] pos) (aaG tc tb):=by
 have hc:=hc.h;have hb:=hb.h;constructor
 intro pins s σ H D I h
 obtain ⟨W,⟨m0,w0⟩,turn⟩:=h
 refine wpAny_While (codeAny_whileLoop (fun n s'=>∃σ' H',Inv X pins σ' H' s'/\W n σ' H') ?_ m0 ⟨σ,H,I,w0⟩)
 rintro n s1 ⟨σ1,H1,I1,w1⟩
 refine yk hp (bg (hc pins s1 σ1 H1 _ I1 (turn n σ1 H1 w1)) fun b s2 ⟨H2,I2,q2⟩=>?_)
 cases b with
 | true=>
   obtain ⟨N,hN,q2⟩:=q2
   rw [aA rfl]
   refine yk hp (bg (hb pins s2 σ1 H2 _ I2 q2) fun f s3 q3=>?_)
   cases f with
   | next=>
     obtain ⟨σ3,H3,I3,n3⟩:=q3
     obtain ⟨m',hm,w3⟩:=hN σ3 H3 n3
     exact ⟨m',hm,σ3,H3,I3,w3⟩
   | cont=>
     obtain ⟨σ3,H3,I3,n3⟩:=q3
     obtain ⟨m',hm,w3⟩:=hN σ3 H3 n3
     exact ⟨m',hm,σ3,H3,I3,w3⟩
   | brk=>exact q3
   | ret v=>exact q3
 | false=>
   rw [az fM]
   exact yl ⟨σ1,H2,I2,q2⟩
theorem BV {tg:Expr} {ob:Expr} {td:TE} {apos cpos:Pos} (hob:bE X ob td) (hbase:attributeBase ob "values" X.env (eval ob X.env)=eval ob X.env:=by rfl) (hline:(apos.endLine==cpos.line)=true:=by rfl):bI X tg (.Call (.Attribute ob "values" apos) [] [] cpos) (aep td):=by
 have hob:=hob.h;constructor
 intro pins s σ H R I h
 refine wpAny_Call_method0_late hbase hline (bg (hob pins s σ H _ I h) fun v s1 ⟨x,H1,I1,r1,q1⟩=>?_)
 obtain ⟨d,o,kvs,rfl,e,fin⟩:=q1
 cases r1
 obtain ⟨ho,hz,hsys,vs,ep,rel,da⟩:=I1.rV e
 obtain ⟨t1,t2,_⟩:=KI I1 (.inl ⟨kvs, .inr ⟨o,e⟩⟩)
 have dd:=da.dictOf
 refine ⟨"dict",_,F.plainAttrs_dict,QJ,F.type_dict_values,t1,t2,Qz rfl (PySem.evalArgs_none ?_)⟩
 refine call_meetsIn QJ dd.typeIs F.entry_dict_values (F.args_dict_values_1 _) (meets_dict_values (cZ X.prog X.w) d hsys) ⟨⟨vs,dd⟩,?_⟩
 refine wpAny_pyIter_values (s:={ s1 with heap:=s1.heap.push { cls:= .type "dict_values",data:= .fields #[.ref d] } }) ⟨_,dZ _ rfl,Z,Z⟩ (da.push _) ?_
 have Iv:Inv X pins σ H1 { s1 with heap:=s1.heap.push { cls:= .type "dict_values",data:= .fields #[.ref d] } }:=I1.kept (t':=s1.toks) fun b o e=>cA _ e
 generalize ({ s1 with heap:=s1.heap.push { cls:= .type "dict_values",data:= .fields #[.ref d] } }:Shared)=sv at *
 have I2:Inv X pins σ H1 { sv with heap:=sv.heap.push { cls:= .type "dict_valueiterator",data:= .fields #[.ref d, .int 0 0, .int vs.length 0, .int ep 0] } }:=Iv.kept (t':=sv.toks) fun b o e=>cA _ e
 have hl:kvs.length=vs.length:=rel.length
 obtain ⟨o',es,h1,_,h2,_⟩:=id da
 rw [ho] at h1;cases h1
 refine ⟨sv.heap.objs.size,[sv.heap.objs.size],_,_,H1,Z,I2,TJ h2,?_,fun b hb=>?_,fin⟩
 . rw [hl];exact ⟨_,dZ _ rfl,Z,Z⟩
 . have eb:b=sv.heap.objs.size:=by simpa using hb
   subst eb
   exact Iv.Gm (aP _) (Iv.hok.fresh (aP _))
theorem ZR {o i e:Expr} {to ti te:TE} {z9:V->V->Hp->VK->Prop} {zx:Ks} {pL:sY} {op:Operator} {tpos:Pos} (ho:bE X o to) (hi:bE X i ti) (hg:aaE X z9) (he:bE X e te) (hp:PIp X op zx) (hs:VJ X pL) (ha:∀ov iv new,augStore i ov iv new=(do holding [new,ov,iv] (setItem ov iv new);release [new,ov,iv] [];pure .next):=by intros;rfl):bS X (.AugAssign (.Subscript o i tpos) op e pos) (ad2 to ti te z9 zx pL):=by
 have ho:=ho.h;have hi:=hi.h;have he:=he.h;constructor
 intro pins s σ H D I h
 refine wpAny_AugAssign_SubscriptAny (bg (ho pins s σ H _ I h) fun ov s1 ⟨x1,H1,I1,r1,q1⟩=>?_) ha
 refine bg (hi pins s1 σ H1 _ I1 q1) fun iv s2 ⟨x2,H2,I2,r2,q2⟩=>?_
 refine bg (hg pins s2 σ H2 x1 x2 ov iv _ I2 r1 r2 q2) fun old s3 ⟨x3,H3,I3,r3,q3⟩=>?_
 refine bg (he pins s3 σ H3 _ I3 q3) fun v s4 ⟨x4,H4,I4,r4,q4⟩=>?_
 refine bg (hp pins s4 σ H4 x3 x4 old v _ I4 r3 r4 q4) fun new s5 ⟨x5,H5,I5,r5,q5⟩=>?_
 exact bg (hs pins s5 σ H5 x1 x2 x5 ov iv new _ I5 r1 r2 r5 q5) fun _ s6 ⟨H6,I6,q6⟩=>⟨σ,H6,I6,q6⟩
theorem uo {id:String} (pa:PlainAttrs T) (slot:Slot T name id) (hty:typeOf (.builtin id)=pure (.type "method_descriptor")) (hm:MtR X id r) (ho:bE X o to) (ha:bA X (e::es) t) (hbase:attributeBase o name X.env (eval o X.env)=eval o X.env:=by rfl) (hfew:((backTo cpos (starEach (e::es) X.env)).all (fun x=>!x.1) && (backToKw cpos (keywordEach [] X.env)).all (fun x=>x.1.isSome)
   && decide ((e::es).length+([] :List Keyword).length+(if ([] :List Keyword).isEmpty then 0 else 1)<30))=true:=by rfl) (hline:(apos.endLine==cpos.line)=true:=by rfl) (hs:starEach (e::es) X.env=(false,eval e X.env)::starEach es X.env:=by rfl) (hplain:(backTo cpos (starEach es X.env)).any (·.1)=false:=by rfl):bE X (.Call (.Attribute o name apos) (e::es) [] cpos) (tBM X.K T r to t):=by
 have ho:=ho.h;have ha:=ha.h;constructor
 intro pins s σ H Q I h
 refine wpAny_Call_method_late hbase hfew hline rfl (bg (ho pins s σ H _ I h) fun v s1 ⟨x,H1,I1,r1,ty,q1⟩=>?_)
 obtain ⟨h1,h2⟩:=aba I1 r1 ty
 refine ⟨T,id,pa,slot,hty,h1,h2,?_⟩
 have hA:=ha cpos pins s1 σ H1 _ I1 q1
 rw [hs] at hA ⊢
 refine Qz (by show (false || (backTo cpos (starEach es X.env)).any (·.1))=false;rw [hplain] <;> rfl) (Calls.evalArgs_plain ?_)
 exact bg hA fun us s2 ⟨vs,H2,I2,r2,q2⟩=>hm pins s2 σ H2 x vs v us Q I2 r1 r2 q2
theorem ZS {X:Cx} {pos:Pos}:Yg X pos [] [] [] :=by
 exact ⟨fun pins s σ H Q I h=>pairTrees_nil_walk ⟨[],H,I, .nil,h⟩⟩
theorem LO {X:Cx} {e:Expr} {t:TE} (h:bE X e t):bE X e (ahI t):=by
 have h:=h.h;constructor
 intro pins s σ H Q I hw
 obtain ⟨d,kvs,e,hw⟩:=hw
 obtain ⟨ho,es,ep,h1,_⟩:=(Ef I.hok e).2.2.choose_spec.2
 have h0:=I.TH e
 exact bg (h pins s σ _ _ (I.freeze e h1) (hw ho)) fun u s' ⟨v,H',I',r,q1,q2⟩=>⟨v,_,I'.C0 q1 h0,r,q2⟩
theorem W_ {op op':CmpOp} {r r':R2} (ho:gY X (compareOp op) r) (ho':gY X (compareOp op') r') (ha:bE X a ta) (hb:bE X b tb) (hc:bE X c tc) (hm:lastMarks [op,op'] [b,c]=false:=by with_unfolding_all rfl):bE X (.Compare a [op,op'] [b,c] pos) (aaO r r' ta tb tc):=by
 have ha:=ha.h;have hb:=hb.h;have hc:=hc.h;constructor
 intro pins s σ H Q I h
 refine Compare_chain (bg (ha pins s σ H _ I h) fun v s1 ⟨x,H1,I1,r1,q1⟩=>chain_link (bg (hb pins s1 σ H1 _ I1 q1) fun u s2 ⟨y,H2,I2,r2,q2⟩=>
  bg (ho pins s2 σ H2 x y v u _ I2 r1 r2 q2) fun d s3 ⟨z,H3,I3,r3,k,e,q3⟩=>?_)) hm
 subst e
 cases r3
 refine zZ ?_
 cases k with
 | false=>exact ite_ff ⟨.bl false,H3,I3,Z,q3⟩
 | true=>exact ite_tt (chain_last (bg (hc pins s3 σ H3 _ I3 q3) fun w' s4 ⟨z',H4,I4,r4,q4⟩=>ho' pins s4 σ H4 y z' u w' Q I4 r2 r4 q4))
theorem jA {x1} (h:bA X es t):bE X (.Tuple es x1 pos) (ahr t):=by
 have h:=h.h;constructor
 intro pins s σ H Q I hq
 refine wpAny_Tuple_spliced (bg (h pos pins s σ H _ I hq) fun us s1 ⟨xs,H1,I1,r,z,q⟩=>⟨by rw [<-r.length];exact z,?_⟩)
 have hf:H1 s1.heap.objs.size=none:=I1.hok.fresh (aP _)
 refine ⟨.ref s1.heap.objs.size,upd H1 s1.heap.objs.size (.tup xs),I1.laid (t':=s1.toks) (fun b u e=>cA _ e) (aP _) ?_,Z,q _ hf⟩
 exact ⟨z,us,r,⟨_,dZ _ rfl,Z,_,Z⟩⟩
theorem Dk {tg iter elt cond:Expr} {scope:Scope} {pos:Pos} (N2:List Str) (ix:List (Option Nat)) {wi:TI} {g:TG} {tc:TT} {te:TE} (hc:X.calm=true) (hi:bI X tg iter wi) (hg:∀cl s₂ H₂ fp,bG (cX X N2 scope cl s₂ H₂ fp) tg g) (he:∀cl s₂ H₂ fp,bE (cX X N2 scope cl s₂ H₂ fp) elt te) (ht:∀cl s₂ H₂ fp,bT (cX X N2 scope cl s₂ H₂ fp) cond tc) (hk:scope.kind = .function) (hn:nu X.N X.env.scope.names scope.names N2 ix=true) (hs:∀x,foldedSetIterable iter X.env x=pure x:=by intro _;rfl):bE X (.ListComp elt [⟨tg,iter,[cond],0⟩] scope pos) (Ex wi ix g tc te):=⟨Wt N2 ix hc hi.h (fun cl s₂ H₂ fp=>(hg cl s₂ H₂ fp).h) (fun cl s₂ H₂ fp=>(he cl s₂ H₂ fp).h) (fun cl s₂ H₂ fp=>(ht cl s₂ H₂ fp).h) hk hn hs⟩
theorem aD {op:Operator} {r:R2} (ho:gY X (binaryOp op) r) (ha:bE X a ta) (hb:bE X b tb):bE X (.BinOp a op b pos) (D6 r ta tb):=by
 have ha:=ha.h;have hb:=hb.h;constructor
 intro pins s σ H Q I h
 exact wpAny_BinOp (VR ha hb I h fun v u s2 x y H2 I2 rx ry q=>ho pins s2 σ H2 x y v u Q I2 rx ry q)
theorem xW {op:CmpOp} {t:TE} (h:bC X op a b t) (h1:behindInMarks op b=false:=by first|exact Kr _ (by decide) (by decide)|rfl):bT X (.Compare a [op] [b] pos) (tB t):=by
 have h:=h.h;constructor
 intro pins s σ H Q I hw
 refine wpAny_isTrue_Compare1 (bg (h pins s σ H _ I hw) fun v s1 h1=>bg h1 fun u s2 h2=>bg h2 fun c s3 ⟨x,H1,I1,r1,q1⟩=>?_) h1
 obtain ⟨d,rfl,q⟩:=q1
 cases r1
 exact zZ ⟨H1,I1,q⟩
theorem dR {tg:Expr} {iter:Expr} {body:List Stmt} {wi:TI} {g:TG} {tb:TS} {pos:Pos} (hp:PassesOwn (model X.prog X.w) X.A X.env X.xe) (hc:X.calm=true) (hi:bI X tg iter wi) (hg:bG X tg g) (hb:cK X body tb) (hs:∀x,foldedSetIterable iter X.env x=pure x:=by intro _;rfl):bS X (.For tg iter body [] pos) (ahn wi g tb):=by
 have hi:=hi.h;have hg:=hg.h;have hb:=hb.h;constructor
 intro pins s σ H D I h
 refine wpAny_For (bg (hi pins s σ H _ I h) fun v s1 h1=>bg h1 fun itv s2 h2=>?_) hs
 obtain ⟨it,fp,tn,J,H2,e,I2,T,st2,f2,W,⟨m0,w0⟩,turn⟩:=h2
 subst e
 have uM:∀{H':Hp},(∀b∈fp,H' b=none)->∀b∈fp,pM X pins H' b:=fun hn b hb=>⟨hn b hb,(f2 b hb).2⟩
 refine codeAny_forLoop_any (fun n s'=>∃i σ' H',Inv X pins σ' H' s'/\tn i s'.heap/\(∀b∈fp,H' b=none)/\W i n σ' H') ?_ m0 ⟨0,σ,H2,I2,st2,fun b hb=>(f2 b hb).1,w0⟩
 rintro n s3 ⟨i,σ3,H3,I3,st3,fr3,w3⟩
 rcases turn i n σ3 H3 w3 with ⟨stop,qn⟩|⟨go,N,hN,step⟩
 . refine yk hp (bg (T.done X rfl rfl rfl hc i pins s3 σ3 H3 X.xe I3 (uM fr3) st3 stop) fun r s4 ⟨hr,I4⟩=>?_)
   subst hr
   exact yl ⟨σ3,H3,I4,qn⟩
 . refine yk hp (bg (T.item X rfl rfl rfl hc i pins s3 σ3 H3 X.xe I3 (uM fr3) st3 go) fun r s4 ⟨u,hr,h4⟩=>?_)
   subst hr
   refine yk hp (bg h4 fun _ s5 ⟨x,H5,I5,r5,y5,Ah,KR⟩=>?_)
   have I5':=I5.pinned (uM KR) (T.obj _ _ Ah)
   refine yk hp (bg (hg _ s5 σ3 H5 x u _ I5' r5 (step x H5 y5)) fun _ s6 ⟨σ6,H6,I6,q6⟩=>?_)
   refine yk hp (bg (hb _ s6 σ6 H6 _ I6 q6) fun f s7 q7=>?_)
   have again:∀{σ7:St} {H7:Hp},Inv X (pins++D5 fp s5.heap) σ7 H7 s7->N σ7 H7->∃m,m<n/\∃i σ' H',Inv X pins σ' H' s7/\tn i s7.heap/\(∀b∈fp,H' b=none)/\W i m σ' H':=fun {σ7 H7} I7 n7=>by
    obtain ⟨m',hm,w7⟩:=hN σ7 H7 n7
    refine ⟨m',hm,i+1,σ7,H7,I7.qR,T.keep _ _ _ Ah fun b hb o e=>(I7.pin (b,o) (jK _ (jK _ (jk hb e)))).1,fun b hb=>?_,w7⟩
    obtain ⟨o,e,d⟩:=T.obj _ _ Ah b hb
    exact (I7.pin (b,o) (jK _ (jK _ (jk hb e)))).2.1
   cases f with
   | next=>obtain ⟨σ7,H7,I7,n7⟩:=q7;exact again I7 n7
   | cont=>obtain ⟨σ7,H7,I7,n7⟩:=q7;exact again I7 n7
   | brk=>obtain ⟨σ7,H7,I7,q7⟩:=q7;exact ⟨σ7,H7,I7.qR,q7⟩
   | ret v=>obtain ⟨x7,σ7,H7,I7,r7,q7⟩:=q7;exact ⟨x7,σ7,H7,I7.qR,r7,q7⟩
theorem oz {lo:Option Expr} {hi:Option Expr} {r:V->Option Int->Option Int->Hp->VK->Prop} (hr:SY X r) (he:bE X e te) (hl:bO X lo tl) (hu:bO X hi th):bE X (.Subscript e (.Slice lo hi none p2) pos) (tSl r te tl th):=by
 have he:=he.h;have hl:=hl.h;have hu:=hu.h;constructor
 intro pins s σ H Q I h
 refine Subscript_ (bg (he pins s σ H _ I h) fun v s1 ⟨x,H1,I1,r1,q1⟩=>?_)
 refine wpAny_Slice (bg (hl pins s1 σ H1 _ I1 q1) fun vl s2 ⟨l,H2,I2,pl,q2⟩=>bg (hu pins s2 σ H2 _ I2 q2) fun vu s3 ⟨u,H3,I3,pu,q3⟩=>?_)
 rw [evalPart_none]
 refine aL ?_
 have I4:Inv X pins σ H3 { s3 with heap:=s3.heap.push { cls:= .type "slice",data:= .fields #[vl,vu, .none] } }:=I3.kept (t':=s3.toks) fun b ob q=>cA _ q
 obtain ⟨T,id,hT,ht,hg⟩:=hr pins { s3 with heap:=s3.heap.push { cls:= .type "slice",data:= .fields #[vl,vu, .none] } } σ H3 x v vl vu l u s3.heap.objs.size Q I4 r1 (Heap.IsSliceOf.new ..) pl pu q3
 show wpAny (model X.prog X.w) X.A (subscriptTail e (.Slice lo hi none p2) v (.ref s3.heap.objs.size)) (EP X pins σ Q) X.xe { s3 with heap:=s3.heap.push { cls:= .type "slice",data:= .fields #[vl,vu, .none] } }
 exact tail_any (ops:=[.ref s3.heap.objs.size,v]) ht hT hg (by with_unfolding_all rfl)
theorem ZT:bS X (.Return none pos) adX:=by
 exact ⟨fun _ _ σ H _ I h=>wpAny_Return_none ⟨.b_,σ,H,I,Z,h⟩⟩
theorem gw {tg iter elt:Expr} {scope:Scope} {pos:Pos} (N2:List Str) (ix:List (Option Nat)) {wi:TI} {g:TG} {te:TE} (hc:X.calm=true) (hi:bI X tg iter wi) (hg:∀cl s₂ H₂ fp,bG (cX X N2 scope cl s₂ H₂ fp) tg g) (he:∀cl s₂ H₂ fp,bE (cX X N2 scope cl s₂ H₂ fp) elt te) (hk:scope.kind = .function) (hn:nu X.N X.env.scope.names scope.names N2 ix=true) (hs:∀x,foldedSetIterable iter X.env x=pure x:=by intro _;rfl):bE X (.ListComp elt [⟨tg,iter,[],0⟩] scope pos) (XM wi ix g te):=by
 have hi:=hi.h;have hg:=fun cl s₂ H₂ fp=>(hg cl s₂ H₂ fp).h;have he:=fun cl s₂ H₂ fp=>(he cl s₂ H₂ fp).h;constructor
 intro pins s σ H Q I h
 obtain ⟨k1,k2,k3,k4,k5⟩:=mP hn
 obtain ⟨cl,KZ,c1,c2⟩:=ug (scope:=scope) (env:=X.env) fun y hy e=>I.ok.has y.1 (k3 y hy e)
 rw [eval_ListComp]
 refine Qv (use:=none) rfl hs KZ hk k4 (bg (hi pins s σ H _ I h) fun v s1 h1=>bg h1 fun itv s2 h2=>?_)
 obtain ⟨it,fp,tn,J,H2,e,I2,T,st2,f2,h2⟩:=h2
 subst e
 refine En (RR:=fun acc C=>compPost (model X.prog X.w) X.A X.xe none (EP X pins σ Q) acc C) (Q:=Q) hc hg he hk hn (fun y c m=>(c1 y c m).1) c2 I2 T st2 f2 h2 ?_
 intro acc C H' s' m I' ns Ag hL hsz pV yy q
 exact ⟨m,ns,fun h' hs'=>⟨.ref acc,H',I'.turned (it:=C) (t':=s'.toks) (fun b o hb e=>(hs'.2 b hb).trans e) Ag hL (.inr hsz) pV yy,Z,q⟩⟩
theorem LP (hu:X.A.units+1<cLine) (hi:bE X i ty) (ho:bE X o td):bC X .In i o (ahz ty td):=by
 have hi:=hi.h;have ho:=ho.h;constructor
 intro pins s σ H Q I h
 refine bg (hi pins s σ H _ I h) fun iv s1 ⟨y,H1,I1,ry,q1⟩=>bg (ho pins s1 σ H1 _ I1 q1) fun u s2 ⟨x,H2,I2,rx,a,ov,ex,g,q2⟩=>?_
 subst ex
 obtain rfl:u=Value.ref a:=rx
 exact ahy hu I2 g ry fun s3 I3=>⟨.bl ov.isSome,H2,I3,Z,q2⟩
theorem acB (ha:bE X a ta):bE X (.UnaryOp .Not a pos) (adU ta):=by
 have ha:=ha.h;constructor
 intro pins s σ H Q I h
 refine UnaryOp_ (bg (ha pins s σ H _ I h) fun v s1 ⟨x,H1,I1,r1,q1⟩=>?_)
 obtain ⟨c,rfl,q1⟩:=q1
 cases r1
 exact not_of (zZ ⟨.bl (!c),H1,I1,Z,q1⟩)
theorem bf {x j pos}:bE X (.Constant (.str x) j pos) (tC (.str x)):=⟨Sw⟩
theorem EV {op:UnaryOp} {r:V->Hp->VK->Prop} (ho:UnR X (unaryOp op) r) (ha:bE X a ta):bE X (.UnaryOp op a pos) (tUn r ta):=by
 have ha:=ha.h;constructor
 intro pins s σ H Q I h
 exact UnaryOp_ (bg (ha pins s σ H _ I h) fun v s1 ⟨x,H1,I1,r1,q1⟩=>ho pins s1 σ H1 x v Q I1 r1 q1)
theorem uy (K:Fg) {a b:Expr} {ta:TA} {p pos:Pos} (hg:Gl X "zip") (hm:X.mg "zip"=none) (ha:bA X [a,b] ta) (hK:X.K=K:=by rfl) (hs:starEach [a,b] X.env=[(false,eval a X.env),(false,eval b X.env)] :=by rfl) (hs2:starEach [b] X.env=[(false,eval b X.env)] :=by rfl):bI X (.Tuple elts kk tpos) (.Call (.Name "zip" p) [a,b] [] pos) (aer K ta):=by
 have ha:=ha.h;constructor
 subst hK
 intro pins s σ H R I h
 refine Call_ (xF I hg hm boot_zip (Xs (bg (ha pos pins s σ H _ I h) fun us s1 ⟨vs,H1,I1,r1,q1⟩=>?_) (by rw [hs,hs2]) (by rw [hs2];rfl)))
 obtain ⟨u1,u2,S1,S2,xs,ys,e,k1,k2,q⟩:=q1
 subst e
 obtain ⟨u,w',rfl,ru,rw'⟩:=vals2 r1
 obtain ⟨g1,l1,o1,p1,lt1,b1,ak0,at1,st1,c1⟩:=k1.ok I1 ru
 obtain ⟨g2,l2,o2,p2,lt2,b2,aeO,at2,st2,c2⟩:=k2.ok I1 rw'
 refine callType_newIn F.called_zip (by decide) (F.typeCall_zip_2 _ _) (F.newCall_zip_2 _ _) (fun obj=>F.args_object_init_3 obj _ _) F.entry_zip_new (Rn st1 st2) ⟨b1,aeO _ _ b2,?_⟩
 have z1:(s1.heap.push o1).objs.size=s1.heap.objs.size+1:=mJ ..
 have z2:((s1.heap.push o1).push o2).objs.size=s1.heap.objs.size+2:=by rw [mJ,z1]
 generalize e3:({ cls:= .type "tuple",data:= .seq #[.ref s1.heap.objs.size, .ref (s1.heap.push o1).objs.size] }:Obj)=o3
 have z3:(((s1.heap.push o1).push o2).push o3).objs.size=s1.heap.objs.size+3:=by rw [mJ,z2]
 generalize e4:({ cls:= .type "tuple",data:= .seq #[.none, .none] }:Obj)=o4
 have z4:((((s1.heap.push o1).push o2).push o3).push o4).objs.size=s1.heap.objs.size+4:=by rw [mJ,z3]
 generalize e5:({ cls:= .type "zip",data:= .fields #[.none, .bool false, .bool false, .ref ((s1.heap.push o1).push o2).objs.size, .ref (((s1.heap.push o1).push o2).push o3).objs.size] }:Obj)=o5
 have g5:(((((s1.heap.push o1).push o2).push o3).push o4).push o5).get? ((((s1.heap.push o1).push o2).push o3).push o4).objs.size=some o5:=dZ _ (by rw [<-e5];rfl)
 have g4:(((((s1.heap.push o1).push o2).push o3).push o4).push o5).get? (((s1.heap.push o1).push o2).push o3).objs.size=some o4:=cA _ (dZ _ (by rw [<-e4];rfl))
 have g3:(((((s1.heap.push o1).push o2).push o3).push o4).push o5).get? ((s1.heap.push o1).push o2).objs.size=some o3:=cA _ (cA _ (dZ _ (by rw [<-e3];rfl)))
 have g2':(((((s1.heap.push o1).push o2).push o3).push o4).push o5).get? (s1.heap.push o1).objs.size=some o2:=cA _ (cA _ (cA _ (at2 _)))
 have g1':(((((s1.heap.push o1).push o2).push o3).push o4).push o5).get? s1.heap.objs.size=some o1:=cA _ (cA _ (cA _ (cA _ (at1 _))))
 have kp:∀c o,s1.heap.get? c=some o->(((((s1.heap.push o1).push o2).push o3).push o4).push o5).get? c=some o:=fun c o x=>cA _ (cA _ (cA _ (cA _ (cA _ x))))
 rw [z4] at g5 ⊢
 rw [z3] at g4 e5
 rw [z2] at g3 e5
 rw [z1] at g2' e3
 generalize (((((s1.heap.push o1).push o2).push o3).push o4).push o5)=hN at *
 show _/\_
 subst e3 e4 e5
 refine ⟨⟨_,g5,Z⟩,wpAny_pyIter_zip (s:={ s1 with heap:=hN }) g5 ?_⟩
 have I2:Inv X pins σ H1 { s1 with heap:=hN }:=I1.kept (t':=s1.toks) kp
 obtain ⟨t1,ak2,C1,n1⟩:=c1 s1.heap.objs.size
 obtain ⟨t2,ak3,C2,n2⟩:=c2 (s1.heap.objs.size+1)
 refine ⟨s1.heap.objs.size+4,[s1.heap.objs.size+4,s1.heap.objs.size+2,s1.heap.objs.size+3,s1.heap.objs.size,s1.heap.objs.size+1],_,_,H1,Z,I2,TQ (NI lt1 lt2) C1 C2,⟨g5,g3,⟨_,_,g4⟩,n1 _ g1',n2 _ g2'⟩,fun b hb=>?_,q⟩
 have hb':b=s1.heap.objs.size+4\/b=s1.heap.objs.size+2\/b=s1.heap.objs.size+3\/b=s1.heap.objs.size\/b=s1.heap.objs.size+1:=by simpa using hb
 have le:s1.heap.objs.size<=b:=by
  rcases hb' with r|r|r|r|r
  . rw [r];exact DR _ _
  . rw [r];exact DR _ _
  . rw [r];exact DR _ _
  . rw [r];exact aP _
  . rw [r];exact DR _ _
 exact I1.Gm le (I1.hok.fresh le)
theorem aZ {op:CmpOp} {r:R2} (ho:gY X (compareOp op) r) (ha:bE X a ta) (hb:bE X b tb) (hm:behindInMarks op b=false):bT X (.Compare a [op] [b] pos) (QW (D6 r ta tb)):=by
 have ha:=ha.h;have hb:=hb.h;constructor
 intro pins s σ H Q I h
 refine wpAny_isTrue_Compare1 (bg (ha pins s σ H _ I h) fun v s1 ⟨x,H1,I1,r1,q1⟩=>bg (hb pins s1 σ H1 _ I1 q1) fun u s2 ⟨y,H2,I2,r2,q2⟩=>
  bg (ho pins s2 σ H2 x y v u _ I2 r1 r2 q2) fun c s3 ⟨z,H3,I3,r3,k,e,q3⟩=>?_) hm
 subst e
 cases r3
 exact zZ ⟨H3,I3,q3⟩
theorem aN {i:Nat} {x:Str} {e:Expr} {te:TE} {pos':Pos} (hN:X.N.Nodup) (he:bE X e te) (hi:X.N[i]?=some x:=by rfl) (hx:Loc X.env.scope x:=by first|exact Or.inl rfl|exact Or.inr rfl) (hs:swapsWith e (some (.Name x pos')) pos.line X.env=pure false:=by rfl) (hf:X.fn x=true\/X.env.scope.names.lookup x=some .local:=by first|exact .inl rfl|exact .inr rfl|assumption):bS X (.Assign [.Name x pos'] e pos) (z8 te (gh i)):=by
 have he:=he.h;constructor
 intro pins s σ H D I h
 refine wpAny_Assign_Name (bg (he pins s σ H _ I h) fun v s1 ⟨y,H1,I1,r1,q1⟩=>?_) hs
 exact uF I1 hN hi hx r1 (fun s2 I2=>⟨_,H1,I2,q1⟩) hf
theorem ZU {X:Cx} {pos:Pos} {keys:List (Option Expr)} {values:List Expr} {Eg:List (TE×TE)} (h:Yg X pos keys values Eg) (hall:keys.all (·.isSome)=true) (hl:keys.length=values.length) (h0:keys≠[]) (h15:keys.length<=15):bE X (.Dict keys values pos) (aeh Eg):=by
 have h:=h.h;constructor
 intro pins s σ H Q I q
 have hn:=I.hok.fresh (aP s.heap.objs.size)
 have I1:=I.laid (a:=s.heap.objs.size) (o:= .dK []) (h':=s.heap.push { cls:= .type "dict",data:= .dict #[] }) (t':=s.toks) (fun _ _ q=>cA _ q) (aP _) (KH s.heap I.big)
 refine wpAny_Dict_walk (knd:=cZ X.prog X.w) hall hl h0 h15 (bg (h pins _ σ _ _ I1 (q _ hn)) fun ws s2 ⟨ps,H2,I2,rel,e,kvs,ep,lk,q2⟩=>?_)
 subst ep
 obtain ⟨rs,c,rk⟩:=Eh (P:=X.prog) (w:=X.w) rel
 obtain ⟨z,hd,vs0,r0,dd⟩:=Ef I2.hok e
 cases r0
 refine ⟨rs,c,dd,fun h' Co hs=>⟨.ref s.heap.objs.size,_,?_,Z,q2⟩⟩
 have hz:(xJ [] kvs).length<=sizeLine:=by
  have h1:=zC kvs []
  rw [List.length_nil] at h1
  rw [fB];omega
 have he:∃q,h'.get? s.heap.objs.size=some q:=let ⟨q,_,_,hq,_⟩:=Co;⟨q,hq⟩
 exact BC I2 (by rw [e];exact True.intro) hs he (KG hz hd (rk.merge .nil) Co)
theorem dJ (K:Fg) {tg l:Expr} {tl:TE} (hl:bE X l tl) (hK:X.K=K:=by rfl):bI X tg l (XC K tl):=by
 have hl:=hl.h;exact ⟨hK▸YI hl⟩
theorem fD {X:Cx} {e:Expr} {t:TT} (h:bT X e t):bT X e (fun σ H Q=>∃b:Bool,t σ H (fun b' H'=>b'=b/\H'=H)/\Q b H):=by
 have h:=h.h;constructor
 intro pins s σ H Q I hw
 obtain ⟨b,hb,q⟩:=hw
 refine bg (h pins s σ H _ I hb) fun b' s' ⟨H',I',e1,e2⟩=>?_
 subst e1 e2
 exact ⟨_,I',q⟩
theorem au {st:Stmt} (h1:bS X st t):cK X [st] t:=by
 have h1:=h1.h;constructor
 intro pins s σ H D I h
 refine wpAny_execs_cons (bg (h1 pins s σ H D I h) fun f s1 q=>?_)
 cases f with
 | next=>exact yl q
 | ret v=>exact q
 | brk=>exact q
 | cont=>exact q
theorem ZV (ho:bE X o td) (hi:bE X i ty):bS X (.Delete [.Subscript o i tpos] pos) (aeg td ty):=by
 have ho:=ho.h;have hi:=hi.h;constructor
 intro pins s σ H D I h
 refine wpAny_Delete (wpAny_deleteEach_cons (wpAny_delete_Subscript (bg (ho pins s σ H _ I h) fun u s1 ⟨x,H1,I1,rx,q1⟩=>bg (hi pins s1 σ H1 _ I1 q1) fun iv s2 ⟨y,H2,I2,ry,a,kvs,k,ex,e,ey,l,q2⟩=>?_)))
 subst ex ey
 obtain rfl:u=Value.ref a:=rx
 exact Tc I2 e ry l fun s3 I3=>wpAny_deleteEach_nil ⟨σ,_,I3,q2⟩
theorem dN (ha:bT X a tA):bT X (.UnaryOp .Not a pos) (ahi tA):=by
 have ha:=ha.h;constructor
 intro pins s σ H Q I h
 exact isTrue_not (ha pins s σ H (fun c H1=>Q (!c) H1) I h)
theorem dm (he:bE X e te) (hs:swapsWith e none pos.line X.env=pure false:=by rfl):bS X (.Expr e pos) (adW te):=by
 have he:=he.h;constructor
 intro pins s σ H D I h
 exact wpAny_Expr_any (bg (he pins s σ H _ I h) fun v s1 ⟨x,H1,I1,r1,q1⟩=>⟨σ,H1,I1,q1⟩) I.quiet hs
theorem gm {pl:Sem Bool} {j k:Nat} {C:Addr} {m:Str} {ps:List Str} {sp:Sp} {o e:Expr} {es:List Expr} {ta:TE} {t:TA} {apos pos:Pos} (D:Mn X.prog X.w X.K X.mg X.base j C m ps sp) (hr:dG k X.A) (ho:bE X o ta) (ha:bA X (e::es) t) (hj:j<=k:=by decide) (hst:starEach (e::es) X.env=(false,eval e X.env)::starEach es X.env:=by rfl) (hpl:(backTo pos (starEach es X.env)).any (·.1)=false:=by rfl) (ht:eval (.Call (.Attribute o m apos) (e::es) [] pos) X.env=(do
   let ov <-eval o X.env
   standAt apos.atName
   let (f,first) <-holding [ov] (getMethod ov m pl)
   callWith pos f first (backTo pos (starEach (e::es) X.env)) (backToKw pos (keywordEach [] X.env))):=by rfl):bE X (.Call (.Attribute o m apos) (e::es) [] pos) (Ea C m sp [] E0 ta t):=by
 have ho:=ho.h;have ha:=ha.h;constructor
 obtain ⟨f,fd,F,b,hm,c⟩:=D.ex
 exact O3 (pl:=pl) ho c hm F (hr.mono hj) b .nil (fun _ _ _ _ _ _ _ h=>h.elim) ha hst hpl ht
theorem cV {e:Expr} {es:List Expr} {t:TG} {u:D0} (h1:bG X e t) (h2:Ye X es u) (hs:(assignEach (e::es) X.env).map (·.2)=assign e X.env::(assignEach es X.env).map (·.2):=by rfl):Ye X (e::es) (XA t u):=by
 have h1:=h1.h;have h2:=h2.h;constructor
 intro pins s σ H vs us Q I r h
 obtain ⟨v,vr,e1,h⟩:=h
 subst e1
 cases r with
 | cons r rr=>
   rw [hs]
   refine assignInOrder_cons (bg (h1 pins s σ H _ _ _ I r h) fun _ s1 ⟨σ1,H1,I1,q1⟩=>?_)
   exact h2 pins s1 σ1 H1 _ _ Q I1 rr q1
theorem uz {i:Nat} {x:Str} {px pos':Pos} {tg iter elt:Expr} {scope:Scope} {pos:Pos} (N2:List Str) (ix:List (Option Nat)) {wi:TI} {g:TG} {te:TE} (hN:X.N.Nodup) (hi:X.N[i]?=some x) (hx:X.env.scope.names.lookup x=some .local) (hc:X.calm=true) (hit:bI X tg iter wi) (hg:∀cl s₂ H₂ fp,bG (cX X N2 scope cl s₂ H₂ fp) tg g) (he:∀cl s₂ H₂ fp,bE (cX X N2 scope cl s₂ H₂ fp) elt te) (hk:scope.kind = .function) (hn:nu X.N X.env.scope.names scope.names N2 ix=true) (hw:swapsWith (.ListComp elt [⟨tg,iter,[],0⟩] scope pos) (some (.Name x px)) pos'.line X.env=pure true) (hs:∀x,foldedSetIterable iter X.env x=pure x:=by intro _;rfl):bS X (.Assign [.Name x px] (.ListComp elt [⟨tg,iter,[],0⟩] scope pos) pos') (z8 (XM wi ix g te) (gh i)):=by
 have hit:=hit.h;have hg:=fun cl s₂ H₂ fp=>(hg cl s₂ H₂ fp).h;have he:=fun cl s₂ H₂ fp=>(he cl s₂ H₂ fp).h;constructor
 intro pins s σ H D I h
 obtain ⟨k1,k2,k3,k4,k5⟩:=mP hn
 obtain ⟨cl,KZ,c1,c2⟩:=ug (scope:=scope) (env:=X.env) fun y hy e=>I.ok.has y.1 (k3 y hy e)
 rw [exec_Assign_Name_used _ _ _ _ hw]
 refine aq (Bo (aq ?_))
 show wpAny _ X.A (do let _ <-comprehension (.ListComp elt [⟨tg,iter,[],0⟩] scope pos) scope X.env _ (newList []) false (eval iter X.env) (some (assign (.Name x px) X.env))) _ _ s
 refine aq (bg (Qv (use:=some (assign (.Name x px) X.env)) (Q:=fun _ s'=>SP X pins D .next s') rfl hs KZ hk k4 (bg (hit pins s σ H _ I h) fun v s1 h1=>bg h1 fun itv s2 h2=>?_)) fun _ s' hq=>aL (aL hq))
 obtain ⟨it,fp,tn,J,H2,e,I2,T,st2,f2,h2⟩:=h2
 subst e
 refine En (RR:=fun acc C=>compPost (model X.prog X.w) X.A X.xe (some (assign (.Name x px) X.env)) (fun _ s'=>SP X pins D .next s') acc C) (Q:=fun v H'=>D.nx (σ.set i (some v)) H') hc hg he hk hn (fun y c m=>(c1 y c m).1) c2 I2 T st2 f2 h2 ?_
 intro acc C H' s' m I' ns Ag hL hsz pV yy q
 show wpAny _ X.A (assign (.Name x px) X.env (.ref acc)) _ _ _
 refine wpAny_assign_Name (z6 I' hN hi (.inl hx) (v:= .ref acc) rfl (fun s3 I3 ⟨a,sb,ha⟩=>?_) (.inr hx))
 have ca:C≠a:=by
  rcases ha with z|z
  . rw [z];exact hL
  . exact fun e=>pV x a z e.symm
 exact ⟨m,ns.sameBut sb ca,fun h' hs'=>⟨_,H',I3.turned (it:=C) (t':=s3.toks) (fun b o hb e=>(hs'.2 b hb).trans e) Ag hL (.inr hsz) pV yy,q⟩⟩
theorem u_ {X:Cx} {pos:Pos} {k v:Expr} {ks:List (Option Expr)} {vs:List Expr} {tk tv:TE} {Eg:List (TE×TE)} (hk:bE X k tk) (hv:bE X v tv) (hr:Yg X pos ks vs Eg):Yg X pos (some k::ks) (v::vs) ((tk,tv)::Eg):=by
 have hk:=hk.h;have hv:=hv.h;have hr:=hr.h;exact ⟨fun pins s σ H Q I h=>
 pairTrees_cons_walk (bg (hk pins s σ H _ I h) fun u s1 ⟨x,H1,I1,rx,q1⟩=>bg (hv pins s1 σ H1 _ I1 q1) fun w2 s2 ⟨y,H2,I2,ry,q2⟩=>
  bg (hr pins s2 σ H2 _ I2 q2) fun ws s3 ⟨ps,H3,I3,rel,q3⟩=>⟨(x,y)::ps,H3,I3, .cons ⟨rx,ry⟩ rel,q3⟩)⟩
theorem AK (hu:X.A.units+1<cLine) (hi:bE X i ty) (ho:bE X o td):bC X .NotIn i o (YY ty td):=by
 have hi:=hi.h;have ho:=ho.h;constructor
 intro pins s σ H Q I h
 refine bg (hi pins s σ H _ I h) fun iv s1 ⟨y,H1,I1,ry,q1⟩=>bg (ho pins s1 σ H1 _ I1 q1) fun u s2 ⟨x,H2,I2,rx,a,ov,ex,g,q2⟩=>?_
 subst ex
 obtain rfl:u=Value.ref a:=rx
 exact YV hu I2 g ry fun s3 I3=>⟨.bl (!ov.isSome),H2,I3,Z,q2⟩
theorem fE {b j pos}:bE X (.Constant (.bool b) j pos) (tC (.bl b)):=by
 exact ⟨fun _ _ _ H _ I h=>Constant_bool ⟨.bl b,H,I,Z,h⟩⟩
theorem xX {pl:Sem Bool} {j k:Nat} {C:Addr} {m:Str} {ps:List Str} {sp:Sp} {o:Expr} {ta:TE} {apos pos:Pos} (D:Mn X.prog X.w X.K X.mg X.base j C m ps sp) (hr:dG k X.A) (ho:bE X o ta) (hj:j<=k:=by decide) (ht:eval (.Call (.Attribute o m apos) [] [] pos) X.env=(do
   let ov <-eval o X.env
   standAt apos.atName
   let (f,first) <-holding [ov] (getMethod ov m pl)
   callWith pos f first (backTo pos (starEach [] X.env)) (backToKw pos (keywordEach [] X.env))):=by rfl):bE X (.Call (.Attribute o m apos) [] [] pos) (Ea C m sp [] E0 ta pP):=by
 have ho:=ho.h;constructor
 obtain ⟨f,fd,F,b,hm,c⟩:=D.ex
 exact V2 (pl:=pl) ho c hm F (hr.mono hj) b .nil (fun _ _ _ _ _ _ _ h=>h.elim) ht
theorem aS (he:bE X e te):bS X (.Return (some e) pos) (ahk te):=by
 have he:=he.h;constructor
 intro pins s σ H D I h
 exact wpAny_Return_some (bg (he pins s σ H _ I h) fun v s1 ⟨x,H1,I1,r1,q1⟩=>⟨x,σ,H1,I1,r1,q1⟩)
theorem dS {tg:Expr} {a:Expr} {ta:TA} {p pos:Pos} (hg:Gl X "range") (hm:X.mg "range"=none) (ha:bA X [a] ta) (hs:starEach [a] X.env=[(false,eval a X.env)] :=by rfl):bI X tg (.Call (.Name "range" p) [a] [] pos) (ad3 ta):=by
 have ha:=ha.h;constructor
 intro pins s σ H R I h
 refine Call_ (xF I hg hm boot_range (Xs (bg (ha pos pins s σ H _ I h) fun us s1 ⟨vs,H1,I1,r1,q1⟩=>?_) hs rfl))
 obtain ⟨j,e,q1,q2,q⟩:=q1
 subst e
 cases r1 with
 | cons r rr=>
   cases rr
   obtain ⟨t,rfl⟩:=r
   exact call_range_1 (VQ I1 (by omega) (by omega) q1 q2 (by simpa using q))
theorem acC {j:Nat} {n J:Str} {Ja:Addr} {t:TX} {u:TS} {body:List Stmt} {b0:Stmt} {suite:List Stmt} {p hp pos:Pos} (hN:X.N.Nodup) (hj:X.N[j]?=some n) (hl:X.env.scope.names.lookup n=some .local) (hno:∀e s,X.xe e s->False) (hst:X.stack=X.env::X.outer) (hfr:X.env.frame=some X.env.locals) (hb:bX X body t) (hg:Gl X J) (hm:X.mg J=some (.ref Ja)) (hs:∀x,cK (X.held x) (b0::suite) u) (hd:(J==("__debug__":Str))=false:=by decide):bS X (.Try body [.ExceptHandler (some (.Name J p)) (some n) (b0::suite) hp] [] [] pos) (ahR X.K Ja j t u):=by
 have hb:=hb.h;have hs:=fun x=>(hs x).h;constructor
 intro pins s σ H D I h
 refine wpAny_Try_except (gT (hb pins s σ H _ _ I h) (fun f s1 q=>?_) fun ev s1 q=>?_)
 . cases f with
   | next=>exact yl q
   | brk=>exact q
   | cont=>exact q
   | ret u=>exact q
 . obtain ⟨x,C,σ',Hc,sc,H',rfl,F,hk,hR⟩:=q
   refine WW F I.ok.frames hst hfr fun s2 F2=>Ly F2 fun s3 F3=>?_
   have I3:Inv (X.held x) pins σ' H' s3:=F3.inv.held x
   refine wpAny_handleBy_cons (codeAny_handlers_test (qQ (X:=X.held x) I3 hg hm ?_ hd)) (by intro z;cases z)
   obtain ⟨T,⟨oe,vs,a0,oT,ts,h1,h2,_⟩,_⟩:=F3.tr
   have LT:PySem.W.Looks (model X.prog X.w) s3.heap (typeOf (.ref x)) (.ref C):=by
    have:=(PySem.W.Looks.ld (M:=model X.prog X.w) (part:=none) h1).andThen (f:=fun o=>(pure o.cls:Sem Value)) (PySem.W.Looks.now)
    rw [h2] at this
    exact this
   refine (PySem.W.exm_one I3.iN LT hk).here ?_
   refine codeAny_handlers_suite_as (Ly F3 fun s4 F4=>?_)
   have I4:Inv (X.held x) pins σ' (upd H' x (Dg x C)) s4:=F4.known.held x
   refine uF (X:=X.held x) I4 hN hj (.inl hl) (v:= .ref x) rfl (fun s5 I5=>?_) (.inr hl)
   refine gT (hs x pins s5 _ _ _ I5 (hR x F4.hx)) (fun f s6 q=>?_) fun e s6 z=>(hno e s6 z).elim
   have goes:∀{σ2 H2} {Q:Prop} {G:Shared->Prop} {p:Pos},Inv (X.held x) pins σ2 H2 s6->(∀s',Inv X pins (σ2.set j none) H2 s'->G s')->wpAny (model X.prog X.w) X.A (do bindName X.env n .none;unbindBehindTheSuite X.env n p) (fun _ s'=>G s') X.xe s6:=by
    intro σ2 H2 _ G p I6 k
    have I7:=I6.aco I.ok
    obtain ⟨m,hm,hlo⟩:=I7.loc
    refine wpAny_nameGoes_keeps (m:=m) (by unfold Env.kindOf;exact hl) hm (by rw [I.ok.kind];rfl) fun h' v hn hs=>k _ (I7.gone hN hj hm hlo hn hs)
   cases f with
   | next=>obtain ⟨σ2,H2,I6,q⟩:=q;exact goes (Q:=True) I6 fun s' I'=>⟨_,H2,I',q⟩
   | brk=>obtain ⟨σ2,H2,I6,q⟩:=q;exact goes (Q:=True) I6 fun s' I'=>⟨_,H2,I',q⟩
   | cont=>obtain ⟨σ2,H2,I6,q⟩:=q;exact goes (Q:=True) I6 fun s' I'=>⟨_,H2,I',q⟩
   | ret u=>obtain ⟨v,σ2,H2,I6,r,q⟩:=q;exact goes (Q:=True) I6 fun s' I'=>⟨v,_,H2,I',r,q⟩
theorem aX:cK X [] adV:=by
 exact ⟨fun _ _ σ H _ I h=>yl ⟨σ,H,I,h⟩⟩
theorem dP (K:Fg) {o value:Expr} {f:Str} {ta tv:TE} {pos pos':Pos} (ha:bE X o ta) (hv:bE X value tv) (hs:swapsWith value (some (.Attribute o f pos')) pos.line X.env=pure false:=by rfl) (hK:X.K=K:=by rfl):bS X (.Assign [.Attribute o f pos'] value pos) (aaQ K ta tv f):=by
 have ha:=ha.h;have hv:=hv.h;exact ⟨hK▸aaT ha hv hs⟩
theorem acD {j k:Nat} {g:Str} {ps:List Str} {sp:Sp} {e:Expr} {es:List Expr} {t:TA} {p pos p2 p3 p4:Pos} {kd:Nat} {body:List Stmt} (D:Dx X.prog X.w X.K X.mg X.base j g ps sp) (hr:dG k X.A) (hno:∀e s,X.xe e s->False) (ha:bA X (e::es) t) (hj:j<=k:=by decide) (hg:Gl X g:=by rfl) (hdb:(g==("__debug__":Str))=false:=by decide) (he:starEach (e::es) X.env=(false,eval e X.env)::starEach es X.env:=by rfl) (hpl:(backTo pos (starEach es X.env)).any (·.1)=false:=by rfl):bX X [.If (.Compare (.Call (.Name g p) (e::es) [] pos) [.IsNot] [.Constant .none kd p2] p3) body [] p4] (aeH sp t):=by
 have ha:=ha.h;constructor
 intro pins s σ H Dn R I h
 refine wpAny_execs_cons (wpAny_If (wpAny_isTrue_Compare1 (gT (aeG D hr hno ha hj hg hdb he hpl I h) (fun v s1 ⟨y,H1,I1,r1,ey,q1⟩=>?_) fun ev s1 ⟨x,C,Hc,sc,H',ev',F,hR⟩=>⟨x,C,σ,Hc,sc,H',ev',F,hR⟩) (Kr _ (by decide) (by decide))))
 subst ey
 cases r1
 exact Constant_none (isnot_none_gen (zZ (yl (yl ⟨_,H1,I1,q1⟩))))
theorem UM {a:Expr} {ta:TA} {p pos:Pos} (hg:Gl X "range") (hm:X.mg "range"=none) (ha:bA X [a] ta) (hs:starEach [a] X.env=[(false,eval a X.env)] :=by rfl):bE X (.Call (.Name "range" p) [a] [] pos) (ahD ta):=by
 have ha:=ha.h;constructor
 intro pins s σ H Q I h
 refine Call_ (xF I hg hm boot_range (Xs (bg (ha pos pins s σ H _ I h) fun us s1 ⟨vs,H1,I1,r1,q1⟩=>?_) hs rfl))
 obtain ⟨j,e,q⟩:=q1
 subst e
 obtain ⟨u,rfl,ru⟩:=vals1 r1
 obtain ⟨t,rfl⟩:=ru
 exact call_range_1 ⟨.ref s1.heap.objs.size,_,I1.laid (a:=s1.heap.objs.size) (o:= .vW 0 j) (fun b o e=>cA _ e) (aP _) ⟨_,_,_,dZ _ rfl⟩,Z,q _ I1.fresh⟩
theorem eF (h:bA X es t):bE X (.List es pos) (Q3 t):=by
 have h:=h.h;constructor
 intro pins s σ H Q I hq
 refine wpAny_List_spliced (bg (h pos pins s σ H _ I hq) fun us s1 ⟨xs,H1,I1,r,z,q⟩=>⟨by rw [<-r.length];exact z,?_⟩)
 have hf:H1 s1.heap.objs.size=none:=I1.hok.fresh (aP _)
 refine ⟨.ref s1.heap.objs.size,upd H1 s1.heap.objs.size (.lst xs),I1.laid (t':=s1.toks) (fun b u e=>cA _ e) (aP _) ?_,Z,q _ hf⟩
 exact ⟨z,us,0,r,dZ _ rfl⟩
theorem EW (K:Fg) {o value:Expr} {f:Str} {ta tv:TE} {pos tpos:Pos} {op:Operator} {rd:V->V->Hp->VK->Prop} (ha:bE X o ta) (hv:bE X value tv) (hop:QX X op rd) (hK:X.K=K:=by rfl):bS X (.AugAssign (.Attribute o f tpos) op value pos) (O1 K ta tv rd f):=by
 have ha:=ha.h;have hv:=hv.h;exact ⟨hK▸SN ha hv hop⟩
theorem acE {j pos}:bE X (.Constant .none j pos) (tC .b_):=by
 exact ⟨fun _ _ _ H _ I h=>Constant_none ⟨.b_,H,I,Z,h⟩⟩
theorem Xa {i:Nat} {x:Str} {px pos':Pos} {tg iter elt cond:Expr} {scope:Scope} {pos:Pos} (N2:List Str) (ix:List (Option Nat)) {wi:TI} {g:TG} {tc:TT} {te:TE} (hN:X.N.Nodup) (hi:X.N[i]?=some x) (hx:X.env.scope.names.lookup x=some .local) (hc:X.calm=true) (hit:bI X tg iter wi) (hg:∀cl s₂ H₂ fp,bG (cX X N2 scope cl s₂ H₂ fp) tg g) (he:∀cl s₂ H₂ fp,bE (cX X N2 scope cl s₂ H₂ fp) elt te) (ht:∀cl s₂ H₂ fp,bT (cX X N2 scope cl s₂ H₂ fp) cond tc) (hk:scope.kind = .function) (hn:nu X.N X.env.scope.names scope.names N2 ix=true) (hw:swapsWith (.ListComp elt [⟨tg,iter,[cond],0⟩] scope pos) (some (.Name x px)) pos'.line X.env=pure true) (hs:∀x,foldedSetIterable iter X.env x=pure x:=by intro _;rfl):bS X (.Assign [.Name x px] (.ListComp elt [⟨tg,iter,[cond],0⟩] scope pos) pos') (z8 (Ex wi ix g tc te) (gh i)):=⟨Wu N2 ix hN hi hx hc hit.h (fun cl s₂ H₂ fp=>(hg cl s₂ H₂ fp).h) (fun cl s₂ H₂ fp=>(he cl s₂ H₂ fp).h) (fun cl s₂ H₂ fp=>(ht cl s₂ H₂ fp).h) hk hn hw hs⟩
theorem GK {ob:Expr} {td:TE} {apos cpos:Pos} (hob:bE X ob td) (hbase:attributeBase ob "values" X.env (eval ob X.env)=eval ob X.env:=by rfl) (hline:(apos.endLine==cpos.line)=true:=by rfl):bE X (.Call (.Attribute ob "values" apos) [] [] cpos) (aeq td):=by
 have hob:=hob.h;constructor
 intro pins s σ H Q I h
 refine wpAny_Call_method0_late hbase hline (bg (hob pins s σ H _ I h) fun v s1 ⟨x,H1,I1,r1,q1⟩=>?_)
 obtain ⟨d,kvs,rfl,e,fin⟩:=q1
 cases r1
 obtain ⟨t1,t2,hsys⟩:=KI I1 (.inl ⟨kvs,e⟩)
 obtain ⟨hz,_,vs,rel,dd⟩:=rS I1.hok e
 refine ⟨"dict",_,F.plainAttrs_dict,QJ,F.type_dict_values,t1,t2,Qz rfl (PySem.evalArgs_none ?_)⟩
 refine call_meetsIn QJ dd.typeIs F.entry_dict_values (F.args_dict_values_1 _) (meets_dict_values (cZ X.prog X.w) d hsys) ⟨⟨vs,dd⟩,?_⟩
 refine ⟨.ref s1.heap.objs.size,_,I1.laid (t':=s1.toks) (o:=lG s1.heap.objs.size d) (fun b u e=>cA _ e) (aP _) ?_,Z,fin _ I1.fresh⟩
 refine ⟨⟨_,dZ _ rfl,Z,Z⟩,⟨_,dZ _ rfl⟩,fun h1 h2 ⟨o,a,b⟩ k=>⟨o,k o a,b⟩⟩
theorem aeP {j k:Nat} {x:Str} {C:Addr} {ps:List Str} {sp:Sp} {e:Expr} {es:List Expr} {t:TA} {p pos:Pos} (D:Cn X.prog X.w X.K X.mg X.base j x C ps sp) (hr:dG k X.A) (ha:bA X (e::es) t) (hj:j+1<=k:=by decide) (hg:Gl X x:=by rfl) (hdb:(x==("__debug__":Str))=false:=by decide) (he:starEach (e::es) X.env=(false,eval e X.env)::starEach es X.env:=by rfl) (hpl:(backTo pos (starEach es X.env)).any (·.1)=false:=by rfl):bE X (.Call (.Name x p) (e::es) [] pos) (J4 C sp [] E0 t):=by
 have ha:=ha.h;constructor
 obtain ⟨f,fd,F,b,M,m⟩:=D.ex
 exact YO M F (hr.mono hj) hg m b .nil (fun _ _ _ _ _ _ _ h=>h.elim) ha hdb he hpl
theorem kh {x:Str} {v:V} {u:Value} {pos:Pos} (hg:Gl X x) (hm:X.mg x=some u) (r:RelV v u) (hd:(x==("__debug__":Str))=false:=by decide):bE X (.Name x pos) (tC v):=by
 exact ⟨fun _ _ _ H _ I h=>qQ I hg hm ⟨v,H,I,r,h⟩ hd⟩
theorem o9 (hc:gW X (.type T) r) (hg:Gl X x) (hm:X.mg x=none) (hv:bootBuiltins x=some (.type T)) (ha:bA X (e::es) t) (hn:x ≠ "__name__":=by decide) (hdb:(x==("__debug__":Str))=false:=by decide) (he:starEach (e::es) X.env=(false,eval e X.env)::starEach es X.env:=by rfl) (hpl:(backTo pos (starEach es X.env)).any (·.1)=false:=by rfl):bE X (.Call (.Name x p) (e::es) [] pos) (tCB r t):=by
 have ha:=ha.h;constructor
 intro pins s σ H Q I h
 refine Ge (xF I hg hm hv ?_ hn hdb)
 exact Xs (bg (ha pos pins s σ H _ I h) fun us s1 ⟨vs,H1,I1,r1,q1⟩=>hc pins s1 σ H1 vs us Q I1 r1 q1) he hpl
theorem iZ {rest:List Expr} (ha:bT X a tA) (hb:bW X (.BoolOp .Or (b::rest) pos) Xy):bW X (.BoolOp .Or (a::b::rest) pos) (tOr tA Xy):=by
 have ha:=ha.h;have hb:=hb.h;constructor
 intro wh pins s σ H Q I h
 refine isTrue_or (bg (ha pins s σ H _ I h) fun c s1 ⟨H1,I1,q1⟩=>?_)
 cases c with
 | true=>exact ⟨H1,I1,q1⟩
 | false=>exact hb wh pins s1 σ H1 Q I1 q1
theorem uA (ha:bT X a tA):bW X (.BoolOp .And [a] pos) tA:=by
 have ha:=ha.h;constructor
 intro wh pins s σ H Q I h
 refine isTrue_and (bg (ha pins s σ H Q I h) fun c s1 e=>?_)
 cases c with
 | true=>exact isTrue_and_nil e
 | false=>exact e
theorem cQ {c:Expr} {a b:List Stmt} {tc:TT} (hc:bT X c tc) (ha:cK X a t) (hb:cK X b u):bS X (.If c a b pos) (aay tc t u):=⟨Xz hc.h ha.h hb.h⟩
theorem UN {i j:Nat} {x y:Str} {a b:Expr} {ta:TA} {px py pt:Pos} {kt k2 pt2} (hc:X.calm=true) (hN:X.N.Nodup) (hi:X.N[i]?=some x) (hj:X.N[j]?=some y) (hij:i≠j) (hx:X.env.scope.names.lookup x=some .local) (hy:X.env.scope.names.lookup y=some .local) (ha:bA X [a,b] ta) (hw:swappedStores [.Tuple [.Name x px, .Name y py] kt pt] (.Tuple [a,b] k2 pt2) X.env=pure (some [x,y])) (hs:swapsWithSole [.Tuple [.Name x px, .Name y py] kt pt] (.Tuple [a,b] k2 pt2) pos.line X.env=pure false:=by rfl):bS X (.Assign [.Tuple [.Name x px, .Name y py] kt pt] (.Tuple [a,b] k2 pt2) pos) (ahm i j ta):=by
 have ha:=ha.h;constructor
 intro pins s σ H D I h
 rw [exec_Assign_arm]
 refine aq (Bo ?_)
 rw [hs]
 refine aq (aL ?_)
 rw [az (by decide)]
 refine aq (Tuple_ (bg (ha _ pins s σ H _ I h) fun us s1 ⟨vs,H1,I1,r1,q1⟩=>?_))
 obtain ⟨v,w,e1,q1⟩:=q1
 subst e1
 obtain ⟨u1,u2,rfl,rv,rw'⟩:∃u1 u2,us=[u1,u2]/\RelV v u1/\RelV w u2:=by
  cases r1 with
  | cons p q=>
    cases q with
    | cons p' q'=>
      cases q'
      exact ⟨_,_,Z,p,p'⟩
 refine qN ?_ (by show 2<=sizeLine;decide)
 have I2:Inv X pins σ H1 { s1 with heap:=s1.heap.push { cls:= .type "tuple",data:= .seq [u1,u2].toArray } }:=I1.kept (t':=s1.toks) fun b o e=>cA _ e
 rw [hw]
 refine aq (aL ?_)
 show wpAny (model X.prog X.w) X.A (do rule "assign.swapped-stores";let items <-unpackItems (.ref s1.heap.objs.size) 2 none;assignInOrder [fun v=>bindName X.env y v,fun v=>bindName X.env x v] items.reverse;pure Flow.next) _ _ _
 refine aq (wpAny_rule (aq (unpackItems_tuple (items:=#[u1,u2]) (I.ok.hd hc) (IsTup.new s1.heap _) fun h' hx'=>?_)))
 have I3:=I2.kept (h':=h') (t':=s1.toks) fun b o e=>hx' b o (dQ (bR e)) e
 show wpAny _ _ (assignInOrder [fun v=>bindName X.env y v,fun v=>bindName X.env x v] [u2,u1] >>= fun _=>pure Flow.next) _ _ _
 refine aq (assignInOrder_cons (wpAny_bindName (uF I3 hN hj (.inl hy) rw' (fun s2 I4=>?_) (.inr hy))))
 refine assignInOrder_cons (wpAny_bindName (uF I4 hN hi (.inl hx) rv (fun s3 I5=>assignInOrder_nil (aL ?_)) (.inr hx)))
 rw [List.set_comm _ _ (bU hij)] at I5
 exact ⟨_,H1,I5,q1⟩
theorem ie {c:Expr} {a b:List Stmt} {tc:TT} {t u:TS} (hc:bT X c tc) (ha:cK X a t) (hb:cK X b u):bS X (.If c a b pos) (abo tc t u):=by
 have hc:=hc.h;have ha:=ha.h;have hb:=hb.h;constructor
 intro pins s σ H D I h
 obtain ⟨J,h,hJ⟩:=h
 refine bg (Xz hc ha hb pins s σ H { D with nx:=J } I h) fun f s' q=>?_
 cases f with
 | next=>obtain ⟨σ',H',I',q⟩:=q;exact ⟨σ',H',I',hJ _ _ q⟩
 | cont=>exact q
 | brk=>exact q
 | ret v=>exact q
theorem aj {st:Stmt} {rest:List Stmt} (h1:bS X st t) (h2:cK X rest u):cK X (st::rest) (z7 t u):=by
 have h1:=h1.h;have h2:=h2.h;constructor
 intro pins s σ H D I h
 refine wpAny_execs_cons (bg (h1 pins s σ H { D with nx:=u D } I h) fun f s1 q=>?_)
 cases f with
 | next=>
   obtain ⟨σ',H',I',q⟩:=q
   exact h2 pins s1 σ' H' D I' q
 | ret v=>exact q
 | brk=>exact q
 | cont=>exact q
theorem acG (K:Fg) {e st:Expr} {te ts:TE} {pos p2:Pos} (he:bE X e te) (hst:bE X st ts) (hK:X.K=K:=by rfl):bE X (.Subscript e (.Slice none none (some st) p2) pos) (ahE K te ts):=by
 have he:=he.h;have hst:=hst.h;constructor
 subst hK
 intro pins s σ H Q I h
 refine Subscript_ (bg (he pins s σ H _ I h) fun v s1 ⟨x,H1,I1,r1,q1⟩=>?_)
 refine wpAny_Slice ?_
 rw [evalPart_none]
 refine aL (aL ?_)
 rw [evalPart_some]
 refine bg (hst pins s1 σ H1 _ I1 q1) fun w3 s3 ⟨y,H3,I3,r3,q3⟩=>?_
 obtain ⟨ey,a,xs,rfl,hx,q⟩:=q3
 subst ey
 obtain ⟨t,rfl⟩:=r3
 cases r1
 have I4:Inv X pins σ H3 { s3 with heap:=s3.heap.push { cls:= .type "slice",data:= .fields #[.none, .none, .int (-1) t] } }:=I3.kept (t':=s3.toks) fun b ob q=>cA _ q
 obtain ⟨its,r,ht,hz⟩:=I4.list hx
 have hlen:=r.length
 refine tail_any (ops:=[.ref a, .ref s3.heap.objs.size]) ht.isList.typeIs slot_list_getitem.lookup ?_ (by with_unfolding_all rfl)
 refine wpAny_getItem_list_slice ht.isList (Heap.IsSliceOf.new ..) .none .none (.int (-1) t) (by decide) ?_ (by rw [gK] <;> omega)
 rw [PySem.W.krv_pick]
 refine ⟨.ref _,_,I4.laid (t':=s3.toks) (o:= .lst xs.reverse) (fun b ob q=>cA _ q) (aP _) ?_,Z,q _ I4.fresh⟩
 exact ⟨by rw [List.length_reverse];exact hz,its.reverse,0,r.reverse,dZ _ rfl⟩
theorem jf (K:Fg) {X:Cx} {es:List Expr} {k:Nat} {t:D0} {n:Nat} {pos:Pos} (hc:X.calm=true) (h:Ye X es t) (hK:X.K=K:=by rfl) (hn:(assignEach es X.env).length=n:=by rfl) (hst:(assignEach es X.env).findIdx? (·.1)=none:=by rfl):bG X (.Tuple es k pos) (CT K n t):=by
 have h:=h.h;exact ⟨hK▸aaC hc h hn hst⟩
theorem bP (hu:X.A.units+1<cLine) (ho:bE X o td) (hi:bE X i ty) (hs:abe i:=by exact fun _ _=>rfl):bE X (.Subscript o i pos) (aed td ty):=by
 have ho:=ho.h;have hi:=hi.h;constructor
 intro pins s σ H Q I h
 refine YW PySem.F.slot_dict_getitem.lookup hs (bg (ho pins s σ H _ I h) fun u s1 ⟨x,H1,I1,rx,q1⟩=>bg (hi pins s1 σ H1 _ I1 q1) fun iv s2 ⟨y,H2,I2,ry,a,v,ex,g,q2⟩=>?_)
 subst ex
 obtain rfl:u=Value.ref a:=rx
 exact ⟨NF I2 g,S9 hu I2 g ry fun w' s3 I3 rw'=>⟨v,H2,I3,rw',q2⟩⟩
theorem ao:bA X [] pP:=⟨SR⟩
theorem BW {K:Fg} {pl:Sem Bool} {j k:Nat} {C:Addr} {m:Str} {ps:List Str} {sp:Sp} {o e:Expr} {es:List Expr} {ta:TE} {t:TA} {apos pos:Pos} (D:Mx P w K mg base j C m ps sp) (hr:dG k (dj (iz P w) P w K mg base N qual scope f cd A outer s0 H0 E).A) (ho:bE (dj (iz P w) P w K mg base N qual scope f cd A outer s0 H0 E) o ta) (ha:bA (dj (iz P w) P w K mg base N qual scope f cd A outer s0 H0 E) (e::es) t) (hj:j<=k:=by decide) (hst:starEach (e::es) (dj (iz P w) P w K mg base N qual scope f cd A outer s0 H0 E).env=(false,eval e (dj (iz P w) P w K mg base N qual scope f cd A outer s0 H0 E).env)::starEach es (dj (iz P w) P w K mg base N qual scope f cd A outer s0 H0 E).env:=by rfl) (hpl:(backTo pos (starEach es (dj (iz P w) P w K mg base N qual scope f cd A outer s0 H0 E).env)).any (·.1)=false:=by rfl) (ht:eval (.Call (.Attribute o m apos) (e::es) [] pos) (dj (iz P w) P w K mg base N qual scope f cd A outer s0 H0 E).env=(do
   let ov <-eval o (dj (iz P w) P w K mg base N qual scope f cd A outer s0 H0 E).env
   standAt apos.atName
   let (f2,first) <-holding [ov] (getMethod ov m pl)
   callWith pos f2 first (backTo pos (starEach (e::es) (dj (iz P w) P w K mg base N qual scope f cd A outer s0 H0 E).env)) (backToKw pos (keywordEach [] (dj (iz P w) P w K mg base N qual scope f cd A outer s0 H0 E).env))):=by rfl):bE (dj (iz P w) P w K mg base N qual scope f cd A outer s0 H0 E) (.Call (.Attribute o m apos) (e::es) [] pos) (Ea C m sp [] E ta t):=by
 have ho:=ho.h;have ha:=ha.h;constructor
 obtain ⟨f',fd,F,b,hm,c⟩:=D.ex
 exact O3 (pl:=pl) ho c hm F (hr.mono hj) b .nil aeF ha hst hpl ht
theorem ak {i j pos}:bE X (.Constant (.int i) j pos) (tC (.int i)):=by
 exact ⟨fun _ _ _ H _ I h=>wpAny_Constant_int ⟨.int i,H,I.tok _,⟨_,Z⟩,h⟩⟩
theorem LQ {rest:List Expr} (ha:bE X a ta) (hb:bE X (.BoolOp .And (b::rest) pos) tb):bE X (.BoolOp .And (a::b::rest) pos) (adT ta tb):=by
 have ha:=ha.h;have hb:=hb.h;constructor
 intro pins s σ H Q I h
 refine BoolOp_and (bg (ha pins s σ H _ I h) fun v s1 ⟨x,H1,I1,r1,q1⟩=>?_)
 obtain ⟨c,rfl,q1⟩:=q1
 cases r1
 refine zZ ?_
 cases c with
 | true=>exact hb pins s1 σ H1 Q I1 q1
 | false=>exact ⟨.bl false,H1,I1,Z,q1⟩
theorem q_:bE X (.Dict [] [] pos) abi:=by
 exact ⟨fun pins s σ H Q I h=>
 wpAny_Dict_empty ⟨.ref s.heap.objs.size,_,I.laid (a:=s.heap.objs.size) (o:= .dK []) (t':=s.toks) (fun _ _ q=>cA _ q) (aP _) (KH s.heap I.big),Z,h _ (I.hok.fresh (aP _))⟩⟩
theorem nE {tg e:Expr} {te:TE} {g:TG} (he:bE X e te) (hg:bG X tg g) (hs:swapsWithSole [tg] e pos.line X.env=pure false:=by rfl) (hw:swappedStores [tg] e X.env=pure none:=by rfl) (h1:(assignEach [tg] X.env).map (·.2)=[assign tg X.env] :=by rfl):bS X (.Assign [tg] e pos) (z8 te g):=by
 have he:=he.h;have hg:=hg.h;constructor
 intro pins s σ H D I h
 refine wpAny_Assign_stores (bg (he pins s σ H _ I h) fun v s1 ⟨x,H1,I1,r1,q1⟩=>?_) hs hw
 rw [h1]
 exact bg (hg pins s1 σ H1 x v _ I1 r1 q1) fun _ s2 q=>q
theorem Dl {elts:List Expr} {kk:Nat} {tpos:Pos} {ob:Expr} {td:TE} {apos cpos:Pos} (hob:bE X ob td) (hbase:attributeBase ob "items" X.env (eval ob X.env)=eval ob X.env:=by rfl) (hline:(apos.endLine==cpos.line)=true:=by rfl):bI X (.Tuple elts kk tpos) (.Call (.Attribute ob "items" apos) [] [] cpos) (abG td):=by
 have hob:=hob.h;constructor
 intro pins s σ H R I h
 refine wpAny_Call_method0_late hbase hline (bg (hob pins s σ H _ I h) fun v s1 ⟨x,H1,I1,r1,q1⟩=>?_)
 obtain ⟨d,o,kvs,rfl,e,fin⟩:=q1
 cases r1
 obtain ⟨ho,hz,hsys,vs,ep,rel,da⟩:=I1.rV e
 obtain ⟨t1,t2,_⟩:=KI I1 (.inl ⟨kvs, .inr ⟨o,e⟩⟩)
 have dd:=da.dictOf
 refine ⟨"dict",_,F.plainAttrs_dict,F.slot_dict_items,F.type_dict_items,t1,t2,Qz rfl (PySem.evalArgs_none ?_)⟩
 refine call_meetsIn F.slot_dict_items dd.typeIs F.entry_dict_items (F.args_dict_items_1 _) (meets_dict_items (cZ X.prog X.w) d hsys) ⟨⟨vs,dd⟩,?_⟩
 refine wpAny_pyIter_items (s:={ s1 with heap:=s1.heap.push { cls:= .type "dict_items",data:= .fields #[.ref d] } }) ⟨_,dZ _ rfl,Z,Z⟩ (da.push _) ?_
 have Iv:Inv X pins σ H1 { s1 with heap:=s1.heap.push { cls:= .type "dict_items",data:= .fields #[.ref d] } }:=I1.kept (t':=s1.toks) fun b o e=>cA _ e
 generalize ({ s1 with heap:=s1.heap.push { cls:= .type "dict_items",data:= .fields #[.ref d] } }:Shared)=sv at *
 have I2:Inv X pins σ H1 { sv with heap:=sv.heap.push { cls:= .type "dict_itemiterator",data:= .fields #[.none, .bool false, .ref d, .int 0 0, .int vs.length 0, .int ep 0, .none, .none] } }:=Iv.kept (t':=sv.toks) fun b o e=>cA _ e
 have hl:kvs.length=vs.length:=rel.length
 obtain ⟨o',es,h1,_,h2,_⟩:=id da
 rw [ho] at h1;cases h1
 refine ⟨sv.heap.objs.size,[sv.heap.objs.size],_,_,H1,Z,I2,Rk h2,?_,fun b hb=>?_,fin⟩
 . rw [hl];exact ⟨_,_,dZ _ rfl⟩
 . have eb:b=sv.heap.objs.size:=by simpa using hb
   subst eb
   exact Iv.Gm (aP _) (Iv.hok.fresh (aP _))
theorem acH {tg:Expr} {l:Expr} {tl:TE} (hl:bE X l tl):bI X tg l (abz tl):=⟨abA hl.h⟩
theorem iA (ha:bT X a tA):bW X (.BoolOp .Or [a] pos) tA:=by
 have ha:=ha.h;constructor
 intro wh pins s σ H Q I h
 refine isTrue_or (bg (ha pins s σ H Q I h) fun c s1 e=>?_)
 cases c with
 | false=>exact isTrue_or_nil e
 | true=>exact e
theorem xY {X:Cx} {st:Stmt} {t:TS} (h:bS X st t):bS X st (ahH t):=by
 have h:=h.h;constructor
 intro pins s σ H D I hw
 obtain ⟨d,kvs,e,hw⟩:=hw
 obtain ⟨ho,es,ep,h1,_⟩:=(Ef I.hok e).2.2.choose_spec.2
 have h0:=I.TH e
 refine bg (h pins s σ _ _ (I.freeze e h1) (hw ho)) fun f s' q=>?_
 cases f with
 | next=>obtain ⟨σ',H',I',q1,q2⟩:=q;exact ⟨σ',_,I'.C0 q1 h0,q2⟩
 | brk=>obtain ⟨σ',H',I',q1,q2⟩:=q;exact ⟨σ',_,I'.C0 q1 h0,q2⟩
 | cont=>obtain ⟨σ',H',I',q1,q2⟩:=q;exact ⟨σ',_,I'.C0 q1 h0,q2⟩
 | ret u=>obtain ⟨v,σ',H',I',r,q1,q2⟩:=q;exact ⟨v,σ',_,I'.C0 q1 h0,r,q2⟩
theorem o_ (hu:X.A.units+1<cLine) (ho:bE X o td) (hi:bE X i ty) (hv:bE X value tv) (hs:swapsWith value (some (.Subscript o i pos')) pos.line X.env=pure false):bS X (.Assign [.Subscript o i pos'] value pos) (aef td ty tv):=by
 have ho:=ho.h;have hi:=hi.h;have hv:=hv.h;constructor
 intro pins s σ H D I h
 refine wpAny_Assign_Subscript (bg (hv pins s σ H _ I h) fun r s1 ⟨v,H1,I1,rv,q1⟩=>bg (ho pins s1 σ H1 _ I1 q1) fun u s2 ⟨x,H2,I2,rx,q2⟩=>bg (hi pins s2 σ H2 _ I2 q2) fun iv s3 ⟨y,H3,I3,ry,a,H4,ex,g,q3⟩=>?_) hs
 subst ex
 obtain rfl:u=Value.ref a:=rx
 exact S_ hu I3 g ry rv fun s4 I4=>⟨σ,H4,I4,q3⟩
theorem qv (i:Nat) {x:Str} {pos:Pos} (hN:X.N[i]?=some x:=by rfl) (hv:Sv X.env.scope x:=by first|exact Or.inl rfl|exact Or.inr (Or.inl rfl)|exact Or.inr (Or.inr rfl)) (hd:(x==("__debug__":Str))=false:=by decide) (hcd:(x==("__classdict__":Str))=false:=by decide):bE X (.Name x pos) (CS i):=by
 exact ⟨aat hN hv hd hcd⟩
theorem aG {id:String} (hc:gW X (.builtin id) r) (hg:Gl X x) (hm:X.mg x=none) (hv:bootBuiltins x=some (.builtin id)) (ha:bA X (e::es) t) (hn:x ≠ "__name__":=by decide) (hdb:(x==("__debug__":Str))=false:=by decide) (he:starEach (e::es) X.env=(false,eval e X.env)::starEach es X.env:=by rfl) (hpl:(backTo pos (starEach es X.env)).any (·.1)=false:=by rfl):bE X (.Call (.Name x p) (e::es) [] pos) (tCB r t):=by
 have ha:=ha.h;constructor
 intro pins s σ H Q I h
 refine Ge (xF I hg hm hv ?_ hn hdb)
 exact PyProof.Rows.callWith_builtin1 (bg (ha pos pins s σ H _ I h) fun us s1 ⟨vs,H1,I1,r1,q1⟩=>hc pins s1 σ H1 vs us Q I1 r1 q1) he hpl
theorem LR {K:Fg} {x:Str} {C:Addr} {t:Str} {kd:Nat} {p0 p1 cpos pos:Pos} (oc:uZ K C) (hg:Gl (dj (iz P w) P w K mg base N qual scope f cd A outer s0 H0 E) x) (hm:mg x=some (.ref C)) (hd:(x==("__debug__":Str))=false:=by decide):bS (dj (iz P w) P w K mg base N qual scope f cd A outer s0 H0 E) (.Raise (some (.Call (.Name x p0) [.Constant (.str t) kd p1] [] cpos)) none pos) (acm C E):=by
 constructor
 intro pins s σ H D I h
 obtain ⟨nm,q,Nn,bs,bm,hdct,sn,sub,ab,col,dd,k0,k1,k2,k3,k5,mN,hni,hb,fx⟩:=oc.ex
 refine wpAny_Raise_call_subT (bm:=bm) (C:=C) (nm:=nm) (q:=q) (N:=Nn) (bs:=bs) (hdct:=hdct) (sn:=sn) (sub:=sub) (ab:=ab) (col:=col) (dd:=dd) (k0:=k0) (k1:=k1) (k2:=k2) (k3:=k3) (k5:=k5) F.excBase_ValueError hb (I.ok.hd rfl) rfl hni ?_
 refine qQ I hg hm ⟨Z,?_⟩ hd
 have pa:PA (dj (iz P w) P w K mg base N qual scope f cd A outer s0 H0 E) [.Constant (.str t) kd p1] (jV (tC (.str t)) pP):=O2 Sw SR
 refine PySem.Calls.evalArgs_plain (bg (pa cpos pins s σ H (fun vs H1=>vs.length=1/\H1=H) I ⟨Z,Z⟩) fun us s1 ⟨vs,H1,I1,r,hv,e⟩=>?_)
 subst e
 obtain ⟨hC,hN,T⟩:=fx s1.heap I1.iN
 exact ⟨Z,by show us.length<=sizeLine;rw [<-r.length,hv,fB];decide,hC,hN,T,fun h' e hm=>RA I1 hm (h e)⟩
theorem nF {o i:Expr} {to ti:TE} {t:sY} (ho:bE X o to) (hi:bE X i ti) (hs:VJ X t) (ha:∀v,assign (.Subscript o i pos) X.env v=(do
   let ov <-holding [v] (eval o X.env)
   let iv <-holding [v,ov] (eval i X.env)
   standAt pos
   holding [v,ov,iv] (setItem ov iv v)
   release [v,ov,iv] []):=by intro _;rfl):bG X (.Subscript o i pos) (ahl to ti t):=by
 have ho:=ho.h;have hi:=hi.h;constructor
 intro pins s σ H v u Q I r h
 rw [ha]
 refine aq (yo (bg (ho pins s σ H _ I h) fun ov s1 ⟨x,H1,I1,r1,q1⟩=>?_))
 refine aq (yo (bg (hi pins s1 σ H1 _ I1 q1) fun iv s2 ⟨y,H2,I2,r2,q2⟩=>?_))
 refine aq (Bo (aq (yo (bg (hs pins s2 σ H2 x y v ov iv u _ I2 r1 r2 r q2) fun _ s3 ⟨H3,I3,q3⟩=>?_))))
 exact wpAny_release ⟨σ,H3,I3,q3⟩
theorem iT {st:Stmt}:bS X st aaz:=by
 exact ⟨fun _ _ _ _ _ _ h=>h.elim⟩
theorem UO {j k:Nat} {x:Str} {C:Addr} {ps:List Str} {sp:Sp} {p pos:Pos} (D:Cn X.prog X.w X.K X.mg X.base j x C ps sp) (hr:dG k X.A) (hj:j+1<=k:=by decide) (hg:Gl X x:=by rfl) (hdb:(x==("__debug__":Str))=false:=by decide):bE X (.Call (.Name x p) [] [] pos) (J4 C sp [] E0 pP):=by
 constructor
 obtain ⟨f,fd,F,b,M,m⟩:=D.ex
 exact V3 M F (hr.mono hj) hg m b .nil (fun _ _ _ _ _ _ _ h=>h.elim) hdb
theorem af (ha:bE X e te) (hr:bA X es t) (hs:starEach (e::es) X.env=(false,eval e X.env)::starEach es X.env:=by rfl):bA X (e::es) (jV te t):=⟨O2 ha.h hr.h hs⟩
theorem a_ (K:Fg) {e:Expr} {f:Str} {ta:TE} {pos:Pos} (he:bE X e ta) (hb:attributeBase e f X.env (eval e X.env)=eval e X.env:=by rfl) (hK:X.K=K:=by rfl):bE X (.Attribute e f pos) (aaP K ta f):=by
 have he:=he.h;exact ⟨hK▸aaS he hb⟩
theorem uB {op:CmpOp} {r:R2} (ho:gY X (compareOp op) r) (ha:bE X a ta) (hb:bE X b tb) (hm:behindInMarks op b=false):bE X (.Compare a [op] [b] pos) (D6 r ta tb):=by
 have ha:=ha.h;have hb:=hb.h;constructor
 intro pins s σ H Q I h
 exact wpAny_Compare1 (VR ha hb I h fun v u s2 x y H2 I2 rx ry q=>ho pins s2 σ H2 x y v u Q I2 rx ry q) hm
theorem aY {j k:Nat} {x:Str} {ps:List Str} {sp:Sp} {e:Expr} {es:List Expr} {t:TA} {p pos:Pos} (D:Dn X.prog X.w X.K X.mg X.base j x ps sp) (hr:dG k X.A) (ha:bA X (e::es) t) (hj:j<=k:=by decide) (hg:Gl X x:=by rfl) (hdb:(x==("__debug__":Str))=false:=by decide) (he:starEach (e::es) X.env=(false,eval e X.env)::starEach es X.env:=by rfl) (hpl:(backTo pos (starEach es X.env)).any (·.1)=false:=by rfl):bE X (.Call (.Name x p) (e::es) [] pos) (XE sp [] E0 t):=by
 have ha:=ha.h;constructor
 obtain ⟨f,fd,F,b,kp,m⟩:=D.ex
 exact YN F (hr.mono hj) hg m kp b .nil (fun _ _ _ _ _ _ _ h=>h.elim) ha hdb he hpl
theorem vc {rest:List Expr} (ha:bT X a tA) (hb:bW X (.BoolOp .And (b::rest) pos) Xy):bW X (.BoolOp .And (a::b::rest) pos) (aau tA Xy):=by
 have ha:=ha.h;have hb:=hb.h;constructor
 intro wh pins s σ H Q I h
 refine isTrue_and (bg (ha pins s σ H _ I h) fun c s1 ⟨H1,I1,q1⟩=>?_)
 cases c with
 | true=>exact hb wh pins s1 σ H1 Q I1 q1
 | false=>exact ⟨H1,I1,q1⟩
section
variable {P:Program} {w:World} {K:Fg} {mg:SO} {base:Heap} {f C:Addr} {fd:FuncData} {N ps:List Str} {k:Nat} {sp:Sp} {x m qual:Str} {st:Stmt}
theorem c8 {N P:List Str} {sc:Scope} (a:sc.kind = .function:=by rfl) (b:sc.isCoroutine=false:=by rfl) (c:sc.isGenerator=false:=by rfl) (d:N.Nodup:=by decide +kernel) (e:N.take P.length=P:=by rfl) (f:∀x∈P,sc.names.lookup x=some .local\/sc.names.lookup x=some .cell:=by decide +kernel) (g:∀y∈sc.names,y.2 ≠ .free:=by decide +kernel):aJ N P sc:=⟨a,b,c,d,e,f,g⟩
theorem At.oA (F:At K mg x st f fd) (S:aJ N ps (ay st))
  (hbody:∀(cdv:Value) (A:Around) (outer:List Env) (s:Shared) (H:Hp) (vs:List V) (Q:VK) (E:XK),dG k (A.deeper (envOfC x (ay st) s.heap.objs.size f cdv))->sp vs H Q E->
    ∃t,qL (dj t_ P w K mg base N x (ay st) f cdv A outer s H E).Ci (cF st) t/\t { nx:=fun _ H'=>Q .b_ H',rt:=Q } (start N vs) H)
  (len:∀vs H Q E,sp vs H Q E->vs.length=ps.length:=by intro vs H Q E h;first|(cases h.ex;subst_vars;rfl)|(have h:=h.ex;(repeat first|(obtain ⟨rfl,_⟩:=h;rfl)|(obtain ⟨_,h⟩:=h));done)|(repeat first|(obtain ⟨rfl,_⟩:=h;rfl)|(obtain ⟨_,h⟩:=h)))
  (h:∀(kV doc pm:Value) (an:Option Addr) (cdv ct:Value) (us:List Value),us.length=ps.length->bindArgs (PySem.W.fnOf x x (dU st) (cF st) (ay st) .none kV doc pm an cdv ct) ⟨us,[]⟩=pure (ps.zip us):=by intro _ _ _ _ _ _ us hl;repeat' (first|rfl|(simp at hl;done)|(rcases us with _|⟨_,us⟩))):Dn P w K mg base (k+1) x ps sp:=F.ok S len hbody h
theorem At.UP (F:At K mg x st f fd) (S:aJ N ps (ay st))
  (hbody:∀(cdv:Value) (A:Around) (outer:List Env) (s:Shared) (H:Hp) (vs:List V) (Q:VK) (E:XK),dG k (A.deeper (envOfC x (ay st) s.heap.objs.size f cdv))->sp vs H Q E->
    ∃t,qL (dj (iz P w) P w K mg base N x (ay st) f cdv A outer s H E) (cF st) t/\t { nx:=fun _ H'=>Q .b_ H',rt:=Q } (start N vs) H)
  (len:∀vs H Q E,sp vs H Q E->vs.length=ps.length:=by intro vs H Q E h;first|(cases h.ex;subst_vars;rfl)|(have h:=h.ex;(repeat first|(obtain ⟨rfl,_⟩:=h;rfl)|(obtain ⟨_,h⟩:=h));done)|(repeat first|(obtain ⟨rfl,_⟩:=h;rfl)|(obtain ⟨_,h⟩:=h)))
  (h:∀(kV doc pm:Value) (an:Option Addr) (cdv ct:Value) (us:List Value),us.length=ps.length->bindArgs (PySem.W.fnOf x x (dU st) (cF st) (ay st) .none kV doc pm an cdv ct) ⟨us,[]⟩=pure (ps.zip us):=by intro _ _ _ _ _ _ us hl;repeat' (first|rfl|(simp at hl;done)|(rcases us with _|⟨_,us⟩))):Dx P w K mg base (k+1) x ps sp:=F.okX S len hbody h
theorem i8.oA (F:i8 K C m qual st f fd) (S:aJ N ps (ay st))
  (hbody:∀(cdv:Value) (A:Around) (outer:List Env) (s:Shared) (H:Hp) (vs:List V) (Q:VK) (E:XK),dG k (A.deeper (envOfC qual (ay st) s.heap.objs.size f cdv))->sp vs H Q E->
    ∃t,qL (dj t_ P w K mg base N qual (ay st) f cdv A outer s H E).Ci (cF st) t/\t { nx:=fun _ H'=>Q .b_ H',rt:=Q } (start N vs) H)
  (len:∀vs H Q E,sp vs H Q E->vs.length=ps.length:=by intro vs H Q E h;first|(cases h.ex;subst_vars;rfl)|(have h:=h.ex;(repeat first|(obtain ⟨rfl,_⟩:=h;rfl)|(obtain ⟨_,h⟩:=h));done)|(repeat first|(obtain ⟨rfl,_⟩:=h;rfl)|(obtain ⟨_,h⟩:=h)))
  (h:∀(kV doc pm:Value) (an:Option Addr) (cdv ct:Value) (us:List Value),us.length=ps.length->bindArgs (PySem.W.fnOf m qual (dU st) (cF st) (ay st) .none kV doc pm an cdv ct) ⟨us,[]⟩=pure (ps.zip us):=by intro _ _ _ _ _ _ us hl;repeat' (first|rfl|(simp at hl;done)|(rcases us with _|⟨_,us⟩))):Mn P w K mg base (k+1) C m ps sp:=F.ok S len hbody h
theorem i8.UP (F:i8 K C m qual st f fd) (S:aJ N ps (ay st))
  (hbody:∀(cdv:Value) (A:Around) (outer:List Env) (s:Shared) (H:Hp) (vs:List V) (Q:VK) (E:XK),dG k (A.deeper (envOfC qual (ay st) s.heap.objs.size f cdv))->sp vs H Q E->
    ∃t,qL (dj (iz P w) P w K mg base N qual (ay st) f cdv A outer s H E) (cF st) t/\t { nx:=fun _ H'=>Q .b_ H',rt:=Q } (start N vs) H)
  (len:∀vs H Q E,sp vs H Q E->vs.length=ps.length:=by intro vs H Q E h;first|(cases h.ex;subst_vars;rfl)|(have h:=h.ex;(repeat first|(obtain ⟨rfl,_⟩:=h;rfl)|(obtain ⟨_,h⟩:=h));done)|(repeat first|(obtain ⟨rfl,_⟩:=h;rfl)|(obtain ⟨_,h⟩:=h)))
  (h:∀(kV doc pm:Value) (an:Option Addr) (cdv ct:Value) (us:List Value),us.length=ps.length->bindArgs (PySem.W.fnOf m qual (dU st) (cF st) (ay st) .none kV doc pm an cdv ct) ⟨us,[]⟩=pure (ps.zip us):=by intro _ _ _ _ _ _ us hl;repeat' (first|rfl|(simp at hl;done)|(rcases us with _|⟨_,us⟩))):Mx P w K mg base (k+1) C m ps sp:=F.okX S len hbody h
theorem Ig.oA (F:Ig K mg x C qual st f fd) (S:aJ N ps (ay st))
  (hbody:∀(cdv:Value) (A:Around) (outer:List Env) (s:Shared) (H:Hp) (vs:List V) (Q:VK) (E:XK),dG k (A.deeper (envOfC qual (ay st) s.heap.objs.size f cdv))->sp vs H Q E->
    ∃t,qL (dj t_ P w K mg base N qual (ay st) f cdv A outer s H E).Ci (cF st) t/\t { nx:=fun _ H'=>Q .b_ H',rt:=Q } (start N vs) H)
  (len:∀vs H Q E,sp vs H Q E->vs.length=ps.length:=by intro vs H Q E h;first|(cases h.ex;subst_vars;rfl)|(have h:=h.ex;(repeat first|(obtain ⟨rfl,_⟩:=h;rfl)|(obtain ⟨_,h⟩:=h));done)|(repeat first|(obtain ⟨rfl,_⟩:=h;rfl)|(obtain ⟨_,h⟩:=h)))
  (h:∀(kV doc pm:Value) (an:Option Addr) (cdv ct:Value) (us:List Value),us.length=ps.length->bindArgs (PySem.W.fnOf "__init__" qual (dU st) (cF st) (ay st) .none kV doc pm an cdv ct) ⟨us,[]⟩=pure (ps.zip us):=by intro _ _ _ _ _ _ us hl;repeat' (first|rfl|(simp at hl;done)|(rcases us with _|⟨_,us⟩))):Cn P w K mg base (k+1) x C ps sp:=F.ok S len hbody h
end
def xZ (b:BS) (x:Str) (F:BP->BP):BS:={ b with ah:=(b.ah.map fun p=>if p.nm=x then F p else p).filter fun p=>decide (0<p.wo) }
def LS (b:BS) (x:Str):BP:=(b.ah.find? fun p=>decide (p.nm=x)).getD ⟨x,x,0,0,[]⟩
def gX (b:BS) (o:Str) (p:BP):BP:={ p with ow:=o,tops:=(p.tops.set (b.own.idxOf p.ow) 0).set (b.own.idxOf o) ((p.tops.set (b.own.idxOf p.ow) 0).getD (b.own.idxOf o) 0+p.tops.getD (b.own.idxOf p.ow) 0) }
def acI (b:BS) (x y:Str) (a we:Int):BS:={ b with
 ah:=((b.ah.map fun p:BP=>if p.nm=x then { p with wo:=p.wo-a,we:=p.we-we } else p)++[BP.mk y (LS b x).ow a we (LS b x).tops]).filter fun p=>decide (0<p.wo)
 d_:=b.d_++[y] }
def aeQ (b:BS) (x:Str):BS:={ xZ b x fun p=>{ p with wo:=0 } with ku:=b.ku++[⟨x,(LS b x).ow,(LS b x).wo,(LS b x).tops,b.bot⟩] }
def EX (b:BS):Dd->BS
 | .sign _=>b
 | .load x o wo we=>yM b x o wo we
 | .cast rs=>iY b (c7 b rs) 0 0
 | .award o a=>iY b (List.replicate b.ah.length 0) (b.own.idxOf o) a
 | .mishap x a=>xZ b x fun p=>{ p with wo:=p.wo-a }
 | .rise x a=>xZ b x fun p=>{ p with wo:=p.wo+a }
 | .hand x o=>xZ b x (gX b o)
 | .land x=>aeQ b x
 | .sever x y a we=>acI b x y a we
 | .still=>b
theorem UQ (b:BS) (d:Dd):(EX b d).own=b.own:=by cases d <;> rfl
inductive aeR (K:Fg) (vs:List V) (H:Hp) (Q:VK) (E:XK):Prop
 | mk (l:Addr) (us:List V) (ws:List Row) (x:Str) (_:vs=[.ref l, .str x]) (_:aC K H l us) (_:Rv K H us ws) (_:(ws.map (fun r:Row=>r.1)).Nodup) (_:ws.length<=1000) (_:(∀(i:Nat) (r:Row),ws[i]?=some r->r.1=x->Q (.int (i:Int)) H)) (_:((∀r∈ws,r.1≠x)->Q (.int (-1)) H))
def AL (K:Fg):Sp:=bx (aeR K)
inductive Xb (al:HS->Dd->Prop) (K:Fg) (vs:List V) (H:Hp) (Q:VK) (E:XK):Prop
 | mk (n c:Nat) (ρ:fJ) (B:BA) (b:BS) (st:HS) (z:Addr) (d:Dd) (_:vs=[.ref B.m, .ref z]) (_:H z=some (.tup d.v)) (_:Gh ρ H) (_:aU n ρ B H b) (_:gk c st b) (_:c<=90) (_:Wf st) (_:al st d) (_:PZ d) (_:k_ st d=none) (_:∀ρ' B' H',Gh ρ' H'->aU n ρ' B' H' (EX b d:_)->B'.m=B.m->Fr n ρ H ρ' H'->Q .b_ H')
def wm (al:HS->Dd->Prop) (K:Fg):Sp:=bx (Xb al K)
inductive ZW (T:TC) (al:HS->Dd->Prop) (K:Fg) (vs:List V) (H:Hp) (Q:VK) (E:XK):Prop
 | mk (n m c:Nat) (ρ:fJ) (A:HA) (B:BA) (st:HS) (b:BS) (v0 v1:V) (z:Addr) (d:Dd) (_:vs=[v0,v1, .ref A.a, .ref B.m, .ref z]) (_:n≠m) (_:H z=some (.tup d.v)) (_:HH T n ρ A H st) (_:aU m ρ B H b) (_:gk c st b) (_:c<=90) (_:al st d) (_:PZ d) (_:∀ρ' A' B' H' st' b',HH T n ρ' A' H' st'->aU m ρ' B' H' b'->gk (c+1) st' b'->A'.a=A.a->B'.m=B.m->b'.own=b.own->st'.kn<=st.kn+100->(b'=b\/(k_ st d=none/\b'=EX b d))->aF (out ρ H:_) (out ρ' H':_)->Q (.bl true) H')
def LU (T:TC) (al:HS->Dd->Prop) (K:Fg):Sp:=bx (ZW T al K)
inductive aeS (T:TC) (K:Fg) (vs:List V) (H:Hp) (Q:VK) (E:XK):Prop
 | mk (n m ρ A B st b:_) (a ln:Addr) (ns:List Int) (nms:List Str) (_:vs=[.ref a, .ref A.a, .ref B.m, .ref ln]) (_:n≠m) (_:HH T n ρ A H st) (_:aU m ρ B H b) (_:gk 0 st b) (_:wc K ρ H a (ns.map V.int)) (_:ns.length<=63) (_:wc K ρ H ln (nms.map V.str)) (_:nms.Nodup) (_:(∀x∈nms,yI x)) (_:(∀o∈b.own,yI o)) (_:nms.length=6) (_:st.nms=[]) (_:b.ah=[]) (_:b.d_=[]) (_:∀ρ' A' B' H' st' b',HH T n ρ' A' H' st'->aU m ρ' B' H' b'->gk 1 st' b'->A'.a=A.a->B'.m=B.m->b'.own=b.own->st'.kn<=st.kn->0<b'.ah.length->aF (out ρ H:_) (out ρ' H':_)->Q .b_ H')
def UR (T:TC) (K:Fg):Sp:=bx (aeS T K)
theorem Dn.imp {P:Program} {w:World} {K:Fg} {mg:SO} {base:Heap} {k:Nat} {x:Str} {ps:List Str} {sp SS:Sp} (D:Dn P w K mg base k x ps sp) (h:∀vs H Q E,SS vs H Q E->sp vs H Q E):Dn P w K mg base k x ps SS:=by
 obtain ⟨f,fd,F,b,kp,m⟩:=D.ex
 exact ⟨f,fd,F.imp h,b,kp,m⟩
theorem acJ {P:Program} {w:World} {K:Fg} {mg:SO} {base:Heap} {k:Nat} {ps:List Str} (D:Dn P w K mg base k "_law_at" ps (AL K)):Dn P w K mg base k "_law_at" ps (X6 K):=
 D.imp fun vs H Q E h=>by
   obtain ⟨⟨l,us,ws,j,r,rfl,hl,hW,nd,hle,ej,q⟩⟩:=h
   refine ⟨l,us,ws,r.1,Z,hl,hW,nd,hle,fun i r' e1 e2=>?_,fun z=>absurd rfl (z r (bJ ej))⟩
   have hi:i<ws.length:=(dI.mp e1).1
   have r1:(ws.map (fun r:Row=>r.1))[i]?=some r'.1:=by rw [bF,e1];rfl
   have r2:(ws.map (fun r:Row=>r.1))[j]?=some r.1:=by rw [bF,ej];rfl
   have:i=j:=(Gj (by rw [aE];exact hi) nd).mp (r1.trans (by rw [e2];exact r2.symm))
   rw [this];exact q
theorem RN {st:HS} {x:Str} (h:x∈lH st):∃(i:Nat) (p:Pt),st.ah[i]?=some p/\p.nm=x:=by
 obtain ⟨p,hp,e⟩:=bQ.mp h
 obtain ⟨i,hi,ei⟩:=pD hp
 exact ⟨i,p,by rw [aW hi,ei],e⟩
theorem aeT {st:HS} {i:Nat} {p:Pt} (h:st.ah[i]?=some p):p.nm∈lH st:=bQ.mpr ⟨p,bJ h,Z⟩
theorem yQ {α:Type} {nm:α->Str} {f:α->α}:∀{l:List α} {i:Nat} {p:α},(l.map nm).Nodup->l[i]?=some p->(l.map fun q=>if nm q=nm p then f q else q)=l.set i (f p)
 | [],_,_,_,h=>by simp at h
 | a::l,0,p,nd,h=>by
   have e:a=p:=by simpa using h
   subst e
   obtain ⟨h1,_⟩:=gR.mp (show (nm a::l.map nm).Nodup from nd)
   rw [bH,aA rfl,Kf]
   congr 1
   refine (zY (g:=id) (fun q hq=>az fun z=>h1 (bQ.mpr ⟨q,hq,z⟩))).trans (List.map_id l)
 | a::l,i+1,p,nd,h=>by
   obtain ⟨h1,h2⟩:=gR.mp (show (nm a::l.map nm).Nodup from nd)
   have h':l[i]?=some p:=by simpa using h
   rw [bH,az (fun z=>h1 (bQ.mpr ⟨p,bJ h',z.symm⟩)),Ke,yQ h2 h']
theorem ZX {st:HS} (nd:(st.ah.map (·.nm)).Nodup) {i:Nat} {p:Pt} (h:st.ah[i]?=some p) (f:Pt->Pt):IF st p.nm f={ st with ah:=st.ah.set i (f p) }:=by
 unfold IF
 rw [yQ (nm:=fun p:Pt=>p.nm) nd h]
def yR (p:BP):Q4:=(p.nm,p.ow,p.wo,p.we)
theorem ZY {l:List BP} {F:BP->BP} {f:Q4->Q4} (h:∀p∈l,yR (F p)=f (yR p)):((l.map F).filter fun p=>decide (0<p.wo)).map yR=((l.map yR).map f).filter fun q=>decide (0<q.2.2.1):=by
 induction l with
 | nil=>rfl
 | cons p l ih=>
   have ih:=ih fun q hq=>h q (cG _ hq)
   have e:=h p cM
   rw [bH,bH,bH,<-e]
   by_cases c:0<(F p).wo
   . rw [List.filter_cons_of_pos (p:=fun p:BP=>decide (0<p.wo)) (cy c),List.filter_cons_of_pos (p:=fun q:Q4=>decide (0<q.2.2.1)) (cy (show 0<(yR (F p)).2.2.1 from c)),bH,ih]
   . rw [List.filter_cons_of_neg (p:=fun p:BP=>decide (0<p.wo)) (by simpa using c),List.filter_cons_of_neg (p:=fun q:Q4=>decide (0<q.2.2.1)) (by simpa using (show ¬ 0<(yR (F p)).2.2.1 from c)),ih]
theorem ZZ (b:BS) (x:Str) (F:BP->BP) (h:∀p∈b.ah,(F p).nm=p.nm):(((b.ah.map fun p=>if p.nm=x then F p else p).filter fun p=>decide (0<p.wo)).map fun p:BP=>p.nm).Sublist (b.ah.map fun p:BP=>p.nm):=by
 have e:(b.ah.map fun p=>if p.nm=x then F p else p).map (fun p:BP=>p.nm)=b.ah.map fun p:BP=>p.nm:=by
  rw [fH]
  refine zY fun p hp=>?_
  show (if p.nm=x then F p else p).nm=p.nm
  by_cases c:p.nm=x
  . rw [aA c];exact h p hp
  . rw [az c]
 rw [<-e]
 exact (List.filter_sublist).map _
theorem Xc {c:Nat} {st:HS} {b:BS} (g:gk c st b):st.ah.map (fun p=>((p.nm,p.ow,p.wo,p.we):Q4))=b.ah.map yR:=g.rel.qd
theorem EY {st:HS} {r:Row} {i:Nat} (h:LI st r=some i):i=3\/i=5\/i=6:=by
 unfold LI at h
 split at h
 . split at h
   . cases h;exact .inr (.inl rfl)
   . split at h <;> cases h;exact .inr (.inr rfl)
 . cases h;exact .inl rfl
theorem NS {st:HS} {x:Str} {a:Int} {i:Nat} (h:RI st x a=some i):i=3\/i=5:=by
 unfold RI at h
 split at h
 . split at h <;> cases h;exact .inr rfl
 . cases h;exact .inl rfl
theorem Z0 {st:HS} {d:Dd} {i:Nat} (h:k_ st d=some i):i<10:=by
 have cR:∀{rs:List Row} {i:Nat},RH st rs=some i->i<10:=fun {rs i} h=>by
  unfold RH at h
  split at h
  . cases hf:rs.findSome? (LI st) with
    | some j=>
      rw [hf] at h;cases h
      obtain ⟨r,_,hr⟩:=List.exists_of_findSome?_eq_some hf
      rcases EY hr with rfl|rfl|rfl <;> decide
    | none=>
      rw [hf] at h
      have h':(if bK st<=bu rs then some 6 else none)=some i:=h
      split at h' <;> cases h';decide
  . cases h;decide
 have sR:∀{x y:Str} {a we:Int} {i:Nat},LK st x y a we=some i->i<10:=fun {x y a we i} h=>by
  unfold LK at h
  split at h
  . cases hf:newR st y with
    | some j=>
      rw [hf] at h;cases h
      rcases EU hf with rfl|rfl <;> decide
    | none=>
      rw [hf] at h
      have h':(if a<1\/we<0 then some 5 else if (c9 st x).wo<=a\/(c9 st x).we<we then some 6 else none)=some i:=h
      split at h'
      . cases h';decide
      . split at h' <;> cases h';decide
  . cases h;decide
 cases d with
 | sign o=>rcases NQ h with rfl|rfl <;> decide
 | load x o wo we=>rcases NR h with rfl|rfl|rfl|rfl <;> decide
 | cast rs=>exact cR h
 | award o a=>
   have h:LJ st o a=some i:=h
   unfold LJ at h
   split at h
   . split at h
     . cases h;decide
     . split at h <;> cases h;decide
   . cases h;decide
 | mishap x a=>rcases EY h with rfl|rfl|rfl <;> decide
 | rise x a=>rcases NS h with rfl|rfl <;> decide
 | hand x o=>
   have h:jy st x o=some i:=h
   unfold jy at h
   split at h
   . split at h <;> cases h;decide
   . cases h;decide
 | land x=>
   have h:RJ st x=some i:=h
   unfold RJ at h
   split at h <;> cases h;decide
 | sever x y a we=>exact sR h
 | still=>cases h
theorem LV {st:HS} {b:BS} (r:iS st b) (wf:Wf st) {x:Str} (h:x∈lH st):∃(i:Nat) (p:Pt) (q:BP),st.ah[i]?=some p/\b.ah[i]?=some q/\p.nm=x/\q.nm=x/\q.ow=p.ow/\q.wo=p.wo/\q.we=p.we/\c9 st x=p:=by
 obtain ⟨i,p,h1,h2⟩:=RN h
 obtain ⟨q,k1,k2,k3,k4,k5⟩:=r.at' h1
 exact ⟨i,p,q,h1,k1,h2,k2.symm.trans h2,k3.symm,k4.symm,k5.symm,jM wf (bJ h1) h2⟩
theorem LW {st:HS} {b:BS} (r:iS st b):(lX b).map (fun r:Row=>r.1)=lH st:=by
 have:(jx st).map (fun q:Q4=>q.1)=(qe b).map (fun q:Q4=>q.1):=by rw [r.qd]
 unfold jx qe at this
 rw [fH,fH] at this
 unfold lX lH
 rw [fH]
 exact this.symm
theorem P0 {K:Fg} {H:Hp} {Q:VK} {E:XK} {n:Nat} {ρ:fJ} {B:BA} {b:BS} {st:HS} {x:Str} (hb:aU n ρ B H b) (r:iS st b) (wf:Wf st) (wb:uW b)
  (q:∀(i:Nat) (p:Pt) (q:BP),st.ah[i]?=some p->b.ah[i]?=some q->p.nm=x->q.nm=x->q.ow=p.ow->q.wo=p.wo->q.we=p.we->c9 st x=p->x∈lH st->Q (.int (i:Int)) H) (q2:x∉lH st->Q (.int (-1)) H):AL K [.ref B.lp, .str x] H Q E:=by
 have nd:((lX b).map (fun r:Row=>r.1)).Nodup:=by unfold lX;rw [fH];exact wb.nd
 refine ⟨B.lp,_,lX b,x,Z,aC.of hb.op,hb.nw,nd,by unfold lX;rw [aE];exact wb.pl,fun i r' e1 e2=>?_,fun h=>q2 fun z=>?_⟩
 . have hm:x∈lH st:=by rw [<-LW r];exact bQ.mpr ⟨r',bJ e1,e2⟩
   obtain ⟨j,p,q',k1,k2,k3,k4,k5,k6,k7,k8⟩:=LV r wf hm
   have r1:((lX b).map (fun r:Row=>r.1))[i]?=some x:=by rw [bF,e1];show some r'.1=_;rw [e2]
   have r2:((lX b).map (fun r:Row=>r.1))[j]?=some x:=by unfold lX;rw [fH,bF,k2];show some q'.nm=_;rw [k4]
   have:i=j:=(Gj (dI.mp r1).1 nd).mp (r1.trans r2.symm)
   subst this
   exact q i p q' k1 k2 k3 k4 k5 k6 k7 k8 hm
 . rw [<-LW r] at z
   obtain ⟨r',hr',e⟩:=bQ.mp z
   exact h r' hr' e
theorem RO {T:TC} {al:HS->Dd->Prop} {K:Fg} {H:Hp} {Q:VK} {E:XK} {n:Nat} {ρ:fJ} {A:HA} {st:HS} {x z:Addr} {d:Dd} (ea:A.a=x) (hz:cS K H z (Dd.v d)) (hh:HH T n ρ A H st) (ha:al st d)
  (q:∀l ρ' A' H',HH T n ρ' A' H' (u7 st d)->A'.a=x->Fr n ρ H ρ' H'->(k_ st d=none->ρ' l=none)->H' l=some (.lst (J9 (k_ st d)))->Q (.ref l) H'):GI T al K [.ref x, .ref z] H Q E:=by
 subst ea
 refine ⟨n,ρ,A,st,z,d,Z,hz,hh,ha,fun i hi l H' g hl=>q l ρ A H' ?_ rfl (Fr.of_same g) (fun z=>by rw [hi] at z;cases z) ?_,fun hi l ρ' A' H' EZ ea' F hl cl _=>q l ρ' A' H' ?_ ea' F (fun _=>cl) ?_⟩
 . unfold u7;rw [hi];exact hh.mono g
 . rw [hi];exact hl
 . unfold u7;rw [hi];exact EZ
 . rw [hi];exact hl
theorem E1:∀{l:List Int},0<l.sum->∃x∈l,0<x
 | [],h=>by simp at h
 | a::l,h=>by
   by_cases c:0<a
   . exact ⟨a,cM,c⟩
   . rw [cI] at h
     obtain ⟨x,hx,h2⟩:=E1 (l:=l) (by omega)
     exact ⟨x,cG _ hx,h2⟩
theorem CH:∀{ps:List BP} {as:List Int},as.length=ps.length->(List.zipWith (fun (p:BP) (a:Int)=>p.wo-a) ps as).sum=(ps.map fun p=>p.wo).sum-as.sum
 | [],[],_=>rfl
 | p::ps,a::as,h=>by
   rw [wK,cI,bH,cI,cI,CH (by simpa using h)];omega
 | [],_::_,h=>by simp at h
 | _::_,[],h=>by simp at h
theorem US {b:BS} {as:List Int} {seat:Nat} {aw:Int} (ok:lY b as seat aw):0<(iY b as seat aw).ah.length:=by
 have h1:=CH ok.len
 have h2:0<(List.zipWith (fun (p:BP) (a:Int)=>p.wo-a) b.ah as).sum:=by
  rw [h1]
  have:=ok.kept
  have:=ok.Cz
  unfold bD at this
  have k:bD b=(b.ah.map fun p=>p.wo).sum:=rfl
  omega
 obtain ⟨x,hx,h3⟩:=E1 h2
 obtain ⟨i,p,a,ep,ea,rfl⟩:=jv hx
 have hm:m9 (ia b as seat aw) (bD b-aw-as.sum) p a∈(iY b as seat aw).ah:=mG.mpr ⟨bJ (Lo ep ea),cy h3⟩
 exact List.length_pos_of_mem hm
structure UT (ok:Dd->Prop):Prop where
 len:∀d,ok d->2<=d.v.length/\d.v.length<=115
 kind:∀d,ok d->d.k≠2/\d.k≠9
 at_:∀d n v,ok d->d.v[n+1]?=some v->(∃s,v = .str s/\wl s<=20)\/∃i,v = .int i/\nB i
 set:∀d n v w,ok d->d.v[n+1]?=some v->alike v w->∃d',d'.v=d.v.set (n+1) w/\ok d'
inductive acK (ok:Dd->Prop) (K:Fg) (vs:List V) (H:Hp) (Q:VK) (E:XK):Prop
 | mk (a:Addr) (ms:List Int) (k:Int) (n:Nat) (ρ:fJ) (B:BA) (b:BS) (z:Addr) (d:Dd) (_:vs=[.ref a, .int k, .ref B.m, .ref z]) (_:aC K H a (ms.map V.int)) (_:ms.length<=63) (_:0<=k) (_:aU n ρ B H b) (_:Bk b) (_:cS K H z d.v) (_:ok d) (_:∀z' d' H',aF H H'->H' z'=some (.tup (Dd.v d'))->ok d'->Q (.ref z') H')
def GL (ok:Dd->Prop) (K:Fg):Sp:=bx (acK ok K)
theorem II {ok:Dd->Prop} {K:Fg} {H:Hp} {Q:VK} {E:XK} {a z mm:Addr} {ms:List Int} {k:Int} {n:Nat} {ρ:fJ} {B:BA} {b:BS} {d:Dd} (em:B.m=mm) (hS:aC K H a (ms.map V.int)) (h63:ms.length<=63) (hk:0<=k) (hb:aU n ρ B H b) (bk:Bk b) (hz:cS K H z d.v) (hd:ok d)
  (q:∀z' d' H',aF H H'->H' z'=some (.tup (Dd.v d'))->ok d'->Q (.ref z') H'):GL ok K [.ref a, .int k, .ref mm, .ref z] H Q E:=⟨a,ms,k,n,ρ,B,b,z,d,by rw [em],hS,h63,hk,hb,bk,hz,hd,q⟩
theorem LX {H:Hp} {a b:Addr} {o:HO} (h:upd H a o b=none):H b=none:=by
 by_cases z:b=a
 . rw [z,ai] at h;cases h
 . rw [av z] at h;exact h
theorem GN:∀{l:List BP} {i:Nat} {q:BP},(l.map fun p:BP=>p.nm).Nodup->l[i]?=some q->(l.find? fun p=>decide (p.nm=q.nm))=some q
 | [],_,_,_,h=>by simp at h
 | p::l,0,q,_,h=>by
   have e:p=q:=by simpa using h
   subst e
   rw [pH,cy rfl]
 | p::l,i+1,q,nd,h=>by
   obtain ⟨h1,h2⟩:=gR.mp (show (p.nm::l.map fun p:BP=>p.nm).Nodup from nd)
   have h':l[i]?=some q:=by simpa using h
   rw [pH,d8 (fun e=>h1 (bQ.mpr ⟨q,bJ h',e.symm⟩))]
   exact GN h2 h'
theorem LY {α β:Type} {f:α->β} {l:List α} {i:Nat} {x:α} (h:l[i]?=some x):(l.map f).set i (f x)=l.map f:=lW (by rw [bF,h];rfl)
inductive acL (T:TC) (e:Ec) (vs:List V) (H:Hp) (Q:VK) (E:XK):Prop
 | mk (n ρ A st x o:_) (_:vs=[.ref A.a, .str x, .str o]) (_:HH T n ρ A H st) (_:∀p∈st.ah,(bh st p).sum=st.prod) (_:DoX T e n ρ A H (jy st x o:_) (rX st x o:_) Q E)
def P_ (T:TC) (e:Ec):Sp:=bx (acL T e)
def rj (st:HS):Dd->Prop
 | .hand _ _=>∀p∈st.ah,(bh st p).sum=st.prod
 | _=>False
theorem NT {st:HS} {x o:Str} {i:Nat} (h:jy st x o=some i):i=3\/i=2:=by
 unfold jy at h
 split at h
 . split at h <;> cases h;exact .inr rfl
 . cases h;exact .inl rfl
theorem AM {st:HS} {x o:Str} (h:jy st x o=none):x∈lH st/\o∈st.own:=by
 unfold jy at h
 split at h
 . split at h
   . exact ⟨by assumption,by assumption⟩
   . cases h
 . cases h
theorem UU {K:Fg} {e:Ec} {st:HS} {d:Dd} {i:Nat} (t2:Told K e e.wg 2) (t3:Told K e e.sV 3) (ha:rj st d) (hr:k_ st d=some i):Told K e (e.at i) i:=by
 cases d with
 | hand x o=>rcases NT hr with rfl|rfl <;> assumption
 | _=>exact ha.elim
theorem Z1 (st:HS) (d:Dd) (i:Nat) (_:rj st d) (h:k_ st d=some i):i<10:=Z0 h
theorem LZ:∀{l:List Int},(∀t∈l,0<=t)->0<=l.sum/\∀t∈l,t<=l.sum
 | [],_=>⟨iW _,fun t h=>by cases h⟩
 | a::l,h=>by
   obtain ⟨h1,h2⟩:=LZ (l:=l) fun t ht=>h t (cG _ ht)
   have h0:=h a cM
   refine ⟨by show 0<=a+l.sum;omega,fun t ht=>?_⟩
   show t<=a+l.sum
   rcases c6.mp ht with rfl|ht
   . omega
   . have:=h2 t ht;omega
theorem E2 {l:List Int} {i:Nat} {v:Int} (h:∀t∈l,0<=t) (hv:0<=v):∀t∈l.set i v,0<=t:=fun t ht=>by
 rcases List.mem_or_eq_of_mem_set ht with z|z
 . exact h t z
 . rw [z];exact hv
theorem yS {l:List Int} (h:∀t∈l,0<=t) (i:Nat):0<=l.getD i 0:=by
 rw [gG]
 cases e:l[i]? with
 | none=>exact iW _
 | some v=>exact h v (bJ e)
def IJ (l:List Int) (i j:Nat):List Int:=(l.set j (l.getD j 0+l.getD i 0)).set i 0
def kR (l:List Int) (i j:Nat):List Int:=(l.set i 0).set j ((l.set i 0).getD j 0+l.getD i 0)
theorem Z2 (l:List Int) (i j:Nat):(kR l i j).length=l.length:=by unfold kR;rw [fq,fq]
theorem GO (l:List Int) (i j:Nat):(IJ l i j).length=l.length:=by unfold IJ;rw [fq,fq]
theorem acM {l:List Int} {i j:Nat} (hi:i<l.length) (hj:j<l.length) (k:Nat):(IJ l i j).getD k 0=if k=i then 0 else if k=j then l.getD j 0+l.getD i 0 else l.getD k 0:=by
 unfold IJ
 rw [oq _ _ _ _ (by rw [fq];exact hi),oq _ _ _ _ hj]
theorem acN {l:List Int} {i j:Nat} (hi:i<l.length) (hj:j<l.length) (ne:i≠j) (k:Nat):(kR l i j).getD k 0=if k=i then 0 else if k=j then l.getD j 0+l.getD i 0 else l.getD k 0:=by
 unfold kR
 rw [oq _ _ _ _ (by rw [fq];exact hj),oq _ _ _ _ hi,oq _ _ _ _ hi,az (bU ne)]
 by_cases e:k=j
 . rw [aA e,aA e,az (by rw [e];exact bU ne)]
 . rw [az e,az e]
theorem Z3 {l:List Int} {i j:Nat} (hi:i<l.length) (hj:j<l.length):(kR l i j).sum=l.sum:=by
 unfold kR
 rw [sum_set _ _ _ (by rw [fq];exact hj),sum_set _ _ _ hi]
 omega
theorem Z4 {l:List Int} {i j:Nat} (hi:i<l.length) (hj:j<l.length) (ne:i≠j):(IJ l i j).sum=l.sum:=by
 unfold IJ
 rw [sum_set _ _ _ (by rw [fq];exact hi),sum_set _ _ _ hj,oq _ _ _ _ hj,az ne]
 omega
theorem Z5 {l:List Int} {i j:Nat} (h:∀t∈l,0<=t):∀t∈kR l i j,0<=t:=
 E2 (E2 h (iW _)) (Int.add_nonneg (yS (E2 h (iW _)) _) (yS h _))
theorem Z6 {l:List Int} {i j:Nat} (h:∀t∈l,0<=t):∀t∈IJ l i j,0<=t:=
 E2 (E2 h (Int.add_nonneg (yS h _) (yS h _))) (iW _)
theorem Xd {l:List Int} {i:Nat} (hi:i<l.length):kR l i i=l:=by
 unfold kR
 rw [oq _ _ _ _ hi,aA rfl,Int.zero_add,mK]
 apply List.ext_getElem?
 intro k
 rw [List.getElem?_set]
 by_cases e:i=k
 . subst e
   rw [aA rfl,aA hi,gG,aW hi];rfl
 . rw [az e]
theorem Xe {st:HS} {tops:List Int} (h:tops.length=st.bM.length):List.zipWith (fun r c=>(1:Int)*r+c) (m8 st tops) st.bM=tops:=by
 unfold m8
 generalize st.bM=cs at h
 induction tops generalizing cs with
 | nil=>rfl
 | cons t ts ih=>
   cases cs with
   | nil=>cases h
   | cons c cs=>
     have:=ih cs (Nat.succ.inj h)
     show (1*(t-c)+c)::_=t::ts
     rw [this]
     congr 1
     omega
theorem Qa {st:HS} (wf:Wf st) {p:Pt} (hp:p∈st.ah):(bh st p).length=st.own.length:=by
 unfold bh
 rw [nZ,wf.rows p hp,wf.g_,Bs]
def yT (st:HS) (o:Str) (p:Pt):Pt:={ p with ow:=o,sc:=1,row:=m8 st (nP st p o) }
theorem vd (st:HS) (p:Pt) (o:Str):nP st p o=IJ (bh st p) (st.own.idxOf p.ow) (st.own.idxOf o):=rfl
theorem IK {st:HS} (wf:Wf st) {p:Pt} (hp:p∈st.ah) (o:Str):bh st (yT st o p)=nP st p o:=by
 have:(nP st p o).length=st.bM.length:=by rw [vd,GO,Qa wf hp,wf.g_]
 exact Xe this
theorem Xf {st:HS} (wf:Wf st) {p:Pt} (hp:p∈st.ah) {o:Str} (ho:o∈st.own) (ne:st.own.idxOf o≠st.own.idxOf p.ow) (hs:(bh st p).sum=st.prod):(∀t∈nP st p o,0<=t/\t<=st.prod)/\(nP st p o).sum=st.prod:=by
 have hl:=Qa wf hp
 have h1:st.own.idxOf p.ow<(bh st p).length:=by rw [hl];exact zV (wf.ow p hp)
 have h2:st.own.idxOf o<(bh st p).length:=by rw [hl];exact zV ho
 have hp0:=Z6 (i:=st.own.idxOf p.ow) (j:=st.own.idxOf o) fun t ht=>(wf.Ao p hp t ht).1
 have hsum:=(Z4 h1 h2 (bU ne)).trans hs
 rw [vd]
 exact ⟨fun t ht=>⟨hp0 t ht,by rw [<-hsum];exact (LZ hp0).2 t ht⟩,hsum⟩
theorem Z7 {st:HS} {x o:Str} (wf:Wf st) (h:jy st x o=none) (hs:∀p∈st.ah,(bh st p).sum=st.prod):Wf (rX st x o):=by
 obtain ⟨hx,ho⟩:=AM h
 obtain ⟨i,p0,ei,e0⟩:=RN hx
 have hp:=bJ ei
 have eg:=jM wf hp e0
 unfold rX
 by_cases ne:st.own.idxOf o=st.own.idxOf (c9 st x).ow
 . rw [aA ne];exact wf
 rw [az ne]
 rw [eg] at ne
 obtain ⟨ft,_⟩:=Xf wf hp ho ne (hs p0 hp)
 have uq:∀p∈st.ah,p.nm=x->p=p0:=fun p sU e=>BR wf sU hp (e.trans e0.symm)
 have P:∀{M:Pt->Prop},M (yT st o p0)->(∀p∈st.ah,M p)->∀p∈(IF st x (yT st o)).ah,M p:=fun a c p sU=>by
  obtain ⟨q,hq,rfl⟩:=bQ.mp (show p∈st.ah.map _ from sU)
  by_cases e:q.nm=x
  . rw [aA e,uq q hq e];exact a
  . rw [az e];exact c q hq
 have hl:(nP st p0 o).length=st.own.length:=by rw [vd,GO,Qa wf hp]
 have en:(IF st x (yT st o)).ah.map (fun p:Pt=>p.nm)=st.ah.map fun p:Pt=>p.nm:=by
  show (st.ah.map _).map _=_
  rw [fH]
  refine zY fun p _=>?_
  show (if p.nm=x then yT st o p else p).nm=p.nm
  by_cases e:p.nm=x
  . rw [aA e];rfl
  . rw [az e]
 have p1:=wf.iD
 refine ⟨wf.yD,wf.C3,?_,P (wf.sub p0 hp) wf.sub,P ?_ wf.rows,P ho wf.ow,wf.g_,wf.yE,wf.iD,wf.vZ,wf.Am,wf.qU,wf.C4,?_,wf.Gx,wf.An,wf.TY,wf.big,wf.qV,P ⟨iW _,p1⟩ wf.xP,P ?_ wf.uQ,P ?_ wf.Ao,P (wf.xQ p0 hp) wf.xQ,wf.K6⟩
 . show ((IF st x (yT st o)).ah.map (fun p:Pt=>p.nm)).Nodup
   rw [en];exact wf.j9
 . show (m8 st (nP st p0 o)).length=st.own.length
   unfold m8;rw [nZ,hl,wf.g_,Bs]
 . show (st.ah.map _).length<=1000
   rw [aE];exact wf.wV
 . intro r hr
   obtain ⟨t,ht,c,hc,rfl⟩:=uT (show r∈List.zipWith (fun t c=>t-c) (nP st p0 o) st.bM from hr)
   have a1:=ft t ht
   have a2:=wf.qV c hc
   exact ⟨by show -st.prod<=t-c;omega,by show t-c<=st.prod;omega⟩
 . intro t ht
   have:t∈nP st p0 o:=by rw [<-IK wf hp];exact ht
   exact ft t this
theorem Qc:∀{l m:List Int} {a b:Int},l.length=m.length->(∀j,l.getD j 0*a=m.getD j 0*b)->l.sum*a=m.sum*b
 | [],[],_,_,_,_=>by show (0:Int)*_=0*_;rw [DY,DY]
 | x::l,y::m,a,b,e,h=>by
   have h0:x*a=y*b:=h 0
   have:=Qc (l:=l) (m:=m) (Nat.succ.inj e) fun j=>h (j+1)
   show (x+l.sum)*a=(y+m.sum)*b
   rw [rP,rP,h0,this]
theorem acO {c:Nat} {st:HS} {b:BS} (g:gk c st b) (wf:Wf st):∀p∈st.ah,(bh st p).sum=st.prod:=fun p hp=>by
 obtain ⟨i,hi,e⟩:=pD hp
 obtain ⟨q,eq,e1,_⟩:=g.rel.at' (i:=i) (p:=p) (by rw [aW hi,e])
 have hq:=bJ eq
 have h:=Qc (l:=q.tops) (m:=bh st p) (by rw [g.jR.tl q hq,Qa wf hp,g.rel.own]) (g.AF p hp q hq e1)
 rw [g.sum q hq,pI] at h
 exact (Int.eq_of_mul_eq_mul_right (by have:=g.jR.b1;omega) h).symm
theorem Z8 {c:Nat} {st:HS} {b:BS} {x o:Str} (g:gk c st b) (wf:Wf st) (h:jy st x o=none) (hs:∀p∈st.ah,(bh st p).sum=st.prod):gk (c+1) (rX st x o) (xZ b x (gX b o)):=by
 obtain ⟨hx,ho⟩:=AM h
 obtain ⟨i,p0,q0,e1,e2,k1,k2,k3,k4,k5,k6⟩:=LV g.rel wf hx
 have hp:=bJ e1
 have hq:=bJ e2
 have eo:=g.rel.own
 have wb:=g.jR
 have uq:∀q∈b.ah,q.nm=x->q=q0:=fun q hq' e=>by
  obtain ⟨j,hj,ej⟩:=pD hq'
  have hj':b.ah[j]?=some q:=by rw [aW hj,ej]
  have:=GN wb.nd hj'
  rw [e,<-k2,GN wb.nd e2] at this
  exact (fY this).symm
 have up:∀p∈st.ah,p.nm=x->p=p0:=fun p sU e=>BR wf sU hp (e.trans k1.symm)
 have hl:=wb.tl q0 hq
 have hiB:b.own.idxOf q0.ow<q0.tops.length:=by rw [hl,k3,<-eo];exact zV (wf.ow p0 hp)
 have hjB:b.own.idxOf o<q0.tops.length:=by rw [hl,<-eo];exact zV ho
 have PB:∀{M:BP->Prop},M (gX b o q0)->(∀q∈b.ah,M q)->∀q∈(xZ b x (gX b o)).ah,M q:=fun a c q hq'=>by
  obtain ⟨h3,_⟩:=mG.mp (show q∈List.filter _ _ from hq')
  obtain ⟨q1,hq1,rfl⟩:=bQ.mp h3
  by_cases e:q1.nm=x
  . rw [aA e,uq q1 hq1 e];exact a
  . rw [az e];exact c q1 hq1
 unfold rX
 rw [k6]
 by_cases ne:st.own.idxOf o=st.own.idxOf p0.ow
 . rw [aA ne]
   have oo:o=p0.ow:=by
    have a1:=v5 ho
    rw [ne,v5 (wf.ow p0 hp)] at a1
    exact (fY a1).symm
   have hb:gX b o q0=q0:=by
    have:kR q0.tops (b.own.idxOf q0.ow) (b.own.idxOf o)=q0.tops:=by rw [oo,<-k3];exact Xd hiB
    show BP.mk q0.nm o q0.wo q0.we (kR q0.tops (b.own.idxOf q0.ow) (b.own.idxOf o))=q0
    rw [this,oo,<-k3]
   have:xZ b x (gX b o)=b:=by
    have e3:(b.ah.map fun p=>if p.nm=x then gX b o p else p)=b.ah:=by
     refine (zY fun q hq'=>?_).trans (List.map_id' _)
     by_cases e:q.nm=x
     . rw [aA e,uq q hq' e];exact hb
     . rw [az e]
    unfold xZ
    rw [e3,QE.mpr fun q hq'=>cy (by have:=wb.w1 q hq';omega)]
   rw [this];exact g.mono
 rw [az ne]
 have nb:b.own.idxOf q0.ow≠b.own.idxOf o:=by rw [<-eo,k3];exact bU ne
 have t0:=Z5 (i:=b.own.idxOf q0.ow) (j:=b.own.idxOf o) fun t ht=>(wb.t0 q0 hq t ht).1
 have sm:(kR q0.tops (b.own.idxOf q0.ow) (b.own.idxOf o)).sum=b.bot:=(Z3 hiB hjB).trans (g.sum q0 hq)
 have sb:=ZZ b x (gX b o) fun _ _=>rfl
 have hlB:(xZ b x (gX b o)).ah.length<=b.ah.length:=by have:=sb.length_le;rwa [aE,aE] at this
 refine ⟨⟨wb.nd.sublist sb,PB ?_ wb.tl,PB ?_ wb.t0,wb.b1,wb.bz,PB (wb.w1 q0 hq) wb.w1,wb.ol,fu hlB wb.pl,wb.kl⟩,⟨eo,?_⟩,?_,fun u hu=>(g.c_ u hu).mono (by omega),fu g.stp (by omega),g.prod.mono (by omega),g.bot.mono (by omega),PB ?_ ?_,PB (g.we q0 hq) g.we,?_,?_,g.own,PB ⟨(g.nm q0 hq).1,GB (g.on o (by rw [<-eo];exact ho))⟩ g.nm,g.ku,g.d_,g.nk,g.on,PB sm g.sum⟩
 . show (kR _ _ _).length=_
   rw [Z2];exact hl
 . intro t ht
   exact ⟨t0 t ht,by rw [show (xZ b x (gX b o)).bot=b.bot from rfl,<-sm];exact (LZ t0).2 t ht⟩
 . show (st.ah.map _).map _=List.map yR ((b.ah.map _).filter _)
   rw [ZY (f:=fun q:Q4=>if q.1=x then (q.1,o,q.2.2.1,q.2.2.2) else q) (fun p hp=>by
    show yR (if p.nm=x then _ else _)=if p.nm=x then _ else _
    by_cases e:p.nm=x
    . rw [aA e,aA e];rfl
    . rw [az e,az e]),<-Xc g,QE.mpr (fun q hq=>by
      obtain ⟨q0,hq0,rfl⟩:=bQ.mp hq
      obtain ⟨p,hp,rfl⟩:=bQ.mp hq0
      have w1:=(wf.xQ p hp).1
      refine cy ?_
      show 0<(if p.nm=x then _ else _:Q4).2.2.1
      by_cases e:p.nm=x
      . rw [aA e];show 0<p.wo;omega
      . rw [az e];show 0<p.wo;omega),fH,fH]
   refine zY fun p hp=>?_
   show (fun p:Pt=>((p.nm,p.ow,p.wo,p.we):Q4)) (if p.nm=x then _ else _)=if p.nm=x then _ else _
   by_cases e:p.nm=x
   . rw [aA e,aA e]
   . rw [az e,az e]
 . intro p sU q hq' e j
   obtain ⟨p1,hp1,rfl⟩:=bQ.mp (show p∈st.ah.map _ from sU)
   obtain ⟨h3,_⟩:=mG.mp (show q∈List.filter _ _ from hq')
   obtain ⟨q1,hq1,rfl⟩:=bQ.mp h3
   by_cases ep:p1.nm=x
   . have eq:q1.nm=x:=by
      rw [aA ep] at e
      by_cases z:q1.nm=x
      . exact z
      . rw [az z] at e;exact e.symm.trans ep
     rw [aA ep,aA eq,uq q1 hq1 eq,up p1 hp1 ep]
     have et:=IK wf hp o
     show (kR q0.tops (b.own.idxOf q0.ow) (b.own.idxOf o)).getD j 0*st.prod=(bh st (yT st o p0)).getD j 0*b.bot
     have hl2:=Qa wf hp
     rw [et,vd,acN hiB hjB nb,acM (by rw [hl2];exact zV (wf.ow p0 hp)) (by rw [hl2];exact zV ho),<-eo,k3]
     have r:=g.AF p0 hp q0 hq (k1.trans k2.symm)
     by_cases z1:j=st.own.idxOf p0.ow
     . rw [aA z1,aA z1,DY,DY]
     rw [az z1,az z1]
     by_cases z2:j=st.own.idxOf o
     . rw [aA z2,aA z2,rP,rP,r,r]
     rw [az z2,az z2];exact r j
   . have eq:q1.nm≠x:=fun z=>by
      rw [az ep,aA z] at e
      exact ep (e.trans z)
     rw [az ep,az eq] at e
     rw [az ep,az eq]
     exact g.AF p1 hp1 q1 hq1 e j
 . have:=g.wo q0 hq
   show q0.wo<=_;omega
 . intro q hq';have:=g.wo q hq';omega
 . have:=g.pl;omega
 . have:=g.kl;show b.d_.length<=_;omega
theorem UW (c:Nat) (st:HS) (b:BS) (d:Dd) (g:gk c st b) (hc:c<=90) (wf:Wf st) (ha:rj st d) (db:PZ d) (hr:k_ st d=none):gk (c+1) (wk st d) (EX b d)/\(wk st d).kn<=st.kn+100:=by
 cases d with
 | hand x o=>
   refine ⟨Z8 g wf hr ha,?_⟩
   show (rX st x o).kn<=_
   unfold rX
   split
   . omega
   . show st.kn<=_;omega
 | _=>exact ha.elim
def Dm (d:Dd):Prop:=∃x o,d = .hand x o/\wl x<=20/\wl o<=20
theorem acQ {d:Dd} (h:Dm d):PZ d:=by rcases h with ⟨x,o,rfl,h1,h2⟩;exact ⟨h1,h2⟩
theorem acR:UT Dm:=by
 refine ⟨fun d h=>?_,fun d h=>?_,fun d n v h e=>?_,fun d n v w h e al=>?_⟩ <;> obtain ⟨x,o,rfl,h1,h2⟩:=h
 . exact ⟨by show 2<=3;decide,by show 3<=115;decide⟩
 . exact ⟨by show 6≠2;decide,by show 6≠9;decide⟩
 . match n,e with
   | 0,e=>cases e;exact .inl ⟨_,Z,h1⟩
   | 1,e=>cases e;exact .inl ⟨_,Z,h2⟩
 . match n,e with
   | 0,e=>cases e;obtain ⟨s,rfl,h⟩:=IG al;exact ⟨.hand s o,Z,s,o,Z,h,h2⟩
   | 1,e=>cases e;obtain ⟨s,rfl,h⟩:=IG al;exact ⟨.hand x s,Z,x,s,Z,h1,h⟩
theorem L6 {q0 q1:Addr×Addr×Addr}:∀{ps:List Pt} {qs:List (Addr×Addr×Addr)} {i:Nat},qs[i]?=some q0->q1.1=q0.1->cO ps (qs.set i q1)=cO ps qs
 | [],_,_,_,_=>by simp [cO]
 | _::_,[],_,h,_=>by simp at h
 | p::ps,q::qs,0,h,e=>by
   have:q=q0:=by simpa using h
   subst this
   show (_,V.ref q1.1)::_=(_,V.ref q.1)::_
   rw [e]
 | p::ps,q::qs,i+1,h,e=>by
   have:=L6 (ps:=ps) (qs:=qs) (i:=i) (q1:=q1) (by simpa using h) e
   show _::cO ps (qs.set i q1)=_::cO ps qs
   rw [this]
theorem aR.Xg {T:TC} {n:Nat} {ρ:fJ} {A:HA} {H:Hp} {st:HS} (h:aR T n ρ A H st) (g:Gh ρ H) {i:Nat} {p0 p1:Pt} {q0:Addr×Addr×Addr} {r:Addr} (ep:st.ah[i]?=some p0) (eq:A.qs[i]?=some q0) (e1:p1.nm=p0.nm) (cr:ρ r=some (n,21,p0.nm)) (hr:H r=some (.lst (p1.row.map V.int))) (nd:(st.ah.map (·.nm)).Nodup):
  aR T n ρ { A with qs:=A.qs.set i (q0.1,q0.2.1,r) } (upd H q0.1 (.ins T.part q0.2.1 (eU p1 r))) { st with ah:=st.ah.set i p1 }:=by
 have c0:=(h.opt i p0 q0 ep eq).2.2.1
 have k:=ef (o:= .ins T.part q0.2.1 (eU p1 r)) g c0
 have k2':=fun {b:Addr} {u:Nat} {y:Str} {w:HO}=>Al (H:=H) (o:= .ins T.part q0.2.1 (eU p1 r)) c0 (b:=b) (u:=u) (y:=y) (w:=w)
 obtain ⟨vs,h1,h2⟩:=h.uP
 obtain ⟨kvs,k1,k2,k3⟩:=h.okn
 refine ⟨kz k h.ca h.oa,h.ca,kz k h.i9 h.iR,h.i9,?_,h.gC,⟨vs,kz k h.jP h1,h2.keep k (by decide)⟩,h.jP,kz k h.jm h.ua,h.jm,kz k h.jn h.nv,h.jn,kz k h.j8 h.jQ,h.j8,kz k h.cpu h.pZ,h.cpu,kz k h.jq h.sQ,h.jq,⟨kvs,kz k h.jr k1,fun p hp=>let ⟨t,r,e,q⟩:=k2 p hp;⟨t,r,e,k.1 _ _ q⟩,k3⟩,h.jr,?_,?_⟩
 . show _=some (HO.dK (cO (st.ah.set i p1) (A.qs.set i (q0.1,q0.2.1,r))))
   rw [L6 (q1:=(q0.1,q0.2.1,r)) eq rfl,BK ep e1];exact kz k h.gC h.d9
 . show (A.qs.set i _).length=(st.ah.set i _).length
   rw [fq,fq];exact h.ql
 . intro j p q hp hq
   have hi:=(dI.mp ep).1
   have hi':=(dI.mp eq).1
   by_cases e:i=j
   . subst e
     rw [show ({ st with ah:=st.ah.set i p1 }:HS).ah=st.ah.set i p1 from rfl,j5 hi] at hp
     rw [show ({ A with qs:=A.qs.set i (q0.1,q0.2.1,r) }:HA).qs=A.qs.set i (q0.1,q0.2.1,r) from rfl,j5 hi'] at hq
     cases hp;cases hq
     exact ⟨ai,k2' cr (.inl (by decide)) hr,by rw [e1];exact c0,by rw [e1];exact cr⟩
   . rw [show ({ st with ah:=st.ah.set i p1 }:HS).ah=st.ah.set i p1 from rfl,uD e] at hp
     rw [show ({ A with qs:=A.qs.set i (q0.1,q0.2.1,r) }:HA).qs=A.qs.set i (q0.1,q0.2.1,r) from rfl,uD e] at hq
     obtain ⟨a1,a2,a3,a4⟩:=h.opt j p q hp hq
     exact ⟨k2' a3 (.inr fun z=>e (EC nd ep hp z.symm)) a1,k2' a4 (.inl (by decide)) a2,a3,a4⟩
theorem Xh {X:Cx}:aaE X (Q8 X.K):=by
 intro pins s σ H x y v u Q I rx ry h
 obtain ⟨p,xs,i,z,rfl,rfl,hq,he,q⟩:=h
 cases rx
 obtain ⟨t,rfl⟩:=ry
 obtain ⟨its,r,pl,hz⟩:=I.list hq
 obtain ⟨j,h1,h2,h3,h4,h5⟩:=Bw he
 obtain ⟨w,ew,rw'⟩:=r.get h2
 have hl:=r.length
 have hn:=uH
 have fin:EP X pins σ Q w s:=⟨z,H,I,rw',q⟩
 by_cases h0:0<=i
 . have hj:i.toNat=j:=by
    rw [seqIndex_of h0 h5] at h1
    exact fY h1
   exact wpAny_getItem_list pl.isList h0 (by omega) (by rw [hj];simpa using ew) fin
 . have hj:(i+(its.toArray.size:Int)).toNat=j:=by
    rw [seqIndex_neg (by omega) h4] at h1
    rw [gK,<-hl]
    exact fY h1
   exact wpAny_getItem_list_neg pl.isList (by omega) (by rw [gK] <;> omega) (by omega) (by rw [hj];simpa using ew) fin
theorem aU.L7 {n:Nat} {ρ:fJ} {B:BA} {H:Hp} {b:BS} (h:aU n ρ B H b) (g:Gh ρ H) {i:Nat} {p0:BP} {q0:Addr×Addr} (l:List Int) (ep:b.ah[i]?=some p0) (eq:B.qs[i]?=some q0) (nd:(b.ah.map (fun p:BP=>p.nm)).Nodup):
  aU n ρ B (upd H q0.2 (.lst (l.map V.int))) { b with ah:=b.ah.set i { p0 with tops:=l } }:=by
 obtain ⟨x1,x2,x3,x4⟩:=h.pt i p0 q0 ep eq
 have k:=ef (o:= .lst (l.map V.int)) g x4
 obtain ⟨vs,h1,h2⟩:=h.oa
 have hi2:i<b.ah.length:=(dI.mp ep).1
 refine ⟨kz k h.cm h.om,h.cm,kz k h.co h.oo,h.co,kz k h.cp h.op,h.cp,⟨vs,kz k h.ca h1,h2.keep k (by decide) (by decide)⟩,h.ca,kz k h.ck h.ok,h.ck,?_,fun j p q qc Cy=>?_⟩
 . show B.qs.length=(b.ah.set i _).length
   rw [fq];exact h.ql
 . have qc:(b.ah.set i { p0 with tops:=l })[j]?=some p:=qc
   by_cases hj:i=j
   . subst hj
     rw [j5 hi2] at qc
     rw [eq] at Cy
     cases qc;cases Cy
     exact ⟨kz k x3 x1,ai,x3,x4⟩
   . rw [uD hj] at qc
     obtain ⟨a1,a2,a3,a4⟩:=h.pt j p q qc Cy
     have hnm:p.nm≠p0.nm:=fun e=>by
      have hj2:j<b.ah.length:=(dI.mp qc).1
      have r1:(b.ah.map (fun p:BP=>p.nm))[j]?=some p.nm:=by rw [bF,qc];rfl
      have r2:(b.ah.map (fun p:BP=>p.nm))[i]?=some p0.nm:=by rw [bF,ep];rfl
      have Ir:j<(b.ah.map (fun p:BP=>p.nm)).length:=by rw [aE];exact hj2
      exact hj ((Gj Ir nd).mp (r1.trans (by rw [e];exact r2.symm))).symm
     have hq:q.2≠q0.2:=fun e=>by rw [e,x4] at a4;exact hnm (gU (fun c:pX=>c.2.2) (fY a4)).symm
     exact ⟨kz k a3 a1,by rw [av hq];exact a2,a3,a4⟩
theorem Xi {b:BS} {x o:Str} (w1:∀p∈b.ah,1<=p.wo) (h:0<b.ah.length):0<(xZ b x (gX b o)).ah.length:=by
 have hq:=rN h
 refine List.length_pos_of_mem (a:=if (b.ah[0]).nm=x then gX b o b.ah[0] else b.ah[0]) (mG.mpr ⟨bQ.mpr ⟨_,hq,Z⟩,cy ?_⟩)
 have:=w1 _ hq
 split
 . show 0<(b.ah[0]).wo;omega
 . omega
end L2
set_option autoImplicit false
namespace Law
open PySem L2
theorem i_ (n:Nat) (h:n<=1000:=by decide):n<=sizeLine:=by rw [fB];omega
def top (i:Nat):Stmt:=PySem.Challenge.pw_jettison_k23_parts_handed_over.main.body.getD i (.Pass ⟨0,0,0,0⟩)
section
variable {P:Program} {w:World} {K:Fg} {mg:SO} {base:Heap} {f:Addr} {fd:FuncData}
abbrev oE:Stmt:=top 2
abbrev jB:List Str:=["one","other"]
abbrev E3:List Str:=jB
theorem vf:aJ E3 jB (ay oE):=c8
theorem Dp (F:At K mg "common_factor" oE f fd):Dn P w K mg base 1 "common_factor" jB Wj:=by
 refine F.oA vf fun cdv A outer s H vs Q E hr h=>?_
 obtain ⟨a,b,rfl,ha,hb,q⟩:=h
 refine ⟨_,(@cK.h _ _ _ (aj (Dj eE (aZ jU (qv 1) ak (br _)) (au (UN (i:=0) (j:=1) rfl vf.nd rfl rfl (by decide) rfl rfl (af (qv 1) (af (aD j6 (qv 0) (qv 1)) ao)) (by rfl))))
  (au (aS (qv 0))))),?_⟩
 refine ⟨fun m σ H'=>∃x y:Int,m=y.toNat/\σ=[some (.int x),some (.int y)]/\H'=H/\0<=x/\0<=y/\Jm.cf x y=Jm.cf a b,⟨_,a,b,Z,Z,Z,ha,hb,Z⟩,?_⟩
 rintro m σ H' ⟨x,y,rfl,rfl,rfl,hx,hy,e⟩
 refine ⟨_,Z,_,_,Z,Z,_,Z,?_⟩
 refine dW (fun c=>?_) (fun c=>?_)
 . have c':0<y:=eO c
   refine ⟨_,fun _ _ z=>z,?_⟩
   refine ⟨_,Z,_,Z,_,Z,_,_,Z,Z,c',_,_,Z,?_⟩
   have h1:0<=x % y:=nJ _ (by omega)
   have h2:x % y<y:=yi _ c'
   exact ⟨_,(by omega:(x % y).toNat<y.toNat),y,x % y,Z,Z,Z,hy,h1,(Jm.Gn x y c').trans e⟩
 . have c':¬ 0<y:=uE (qO.mpr c)
   have ey:y=0:=by omega
   subst ey
   rw [Jm.O8 x hx] at e
   refine ⟨_,Z,?_⟩
   rw [e]
   exact q
abbrev yU:Stmt:=top 21
abbrev wu:List Str:=["text","signs"]
abbrev UX:List Str:=wu
theorem RP:aJ UX wu (ay yU):=c8
theorem RQ (F:At K mg "made_of" yU f fd) (RS:mg "all"=none):Dn P w K mg base 1 "made_of" wu CZ:=by
 refine F.oA RP fun cdv A outer s H vs Q E hr h=>?_
 obtain ⟨⟨cs,signs,rfl,hl,q⟩⟩:=h
 refine ⟨_,(@cK.h _ _ _ (au (aS (aG (Tr K rfl) (by rfl) RS PyProof.Rows.boot_all (af (gw ["sign","signs"] [none,some 1] rfl (acH (qv 0)) (fun _ _ _ _=>(aQ (i:=0) (show List.Nodup (["sign","signs"] :List Str) from by decide +kernel))) (fun _ _ _ _=>(uB SE (qv 0) (qv 1) (by with_unfolding_all rfl))) rfl (by rfl)) ao))))),?_⟩
 refine ⟨_,Z,cs,Z,fun acc hacc=>?_⟩
 refine Wr (fun i out H1=>aF H H1/\out=((cs.take i).map (Er signs)).map V.bl) hl ⟨aB hacc _,Z⟩ ?_ ?_
 . rintro i c out H1 hx eV ha ⟨g,e⟩
   refine ⟨_,Z,_,Z,_,_,Z,Z,ha,g.cD hacc _,?_⟩
   rw [e,List.take_add_one,hx,bN,bN]
   rfl
 rintro out H1 eV ha ⟨g,e⟩
 rw [cC] at e
 refine ⟨acc,cs.map (Er signs),Z,aC.of (by rw [ha,e]),?_⟩
 have e2:(cs.map (Er signs)).all id=cs.all (Er signs):=by rw [List.all_map];rfl
 rw [e2]
 exact q H1 g
abbrev yV:Stmt:=top 20
abbrev sW:List Str:=["text"]
abbrev UY:List Str:=sW
theorem RT:aJ UY sW (ay yV):=c8
theorem RU {tk:Tok} (F:At K mg "is_name" yV f fd) (AN:Dn P w K mg base 1 "made_of" wu CZ) (bq:mg "len"=none) (AQ:mg "LETTERS"=some (.str "abcdefghijklmnopqrstuvwxyz" tk)):Dn P w K mg base 2 "is_name" sW yx:=by
 refine F.oA RT fun cdv A outer s H vs Q E hr h=>?_
 obtain ⟨⟨cs,rfl,hl,q⟩⟩:=h
 refine ⟨_,(@cK.h _ _ _ (au (aS (LQ (W_ XD XD ak (aG KA (by rfl) bq dF (af (qv 0) ao)) ak) (LN (aY AN hr (af (qv 0) (af (kh (v:= .str "abcdefghijklmnopqrstuvwxyz") (by rfl) AQ ⟨_,Z⟩) ao)))))))),?_⟩
 have hz:(tx cs).length<=sizeLine:=by rw [kr,fB];omega
 refine ⟨_,Z,_,Z,hz,_,_,Z,Z,_,Z,?_⟩
 rw [kr]
 refine dW (fun c=>?_) (fun c=>?_)
 . refine ⟨_,_,Z,Z,_,Z,dW (fun c2=>?_) (fun c2=>?_)⟩
   . refine ⟨_,Z,Rj hl fun H' g=>?_⟩
     have:=q H' g
     unfold isName at this
     rw [c,c2,Bool.true_and,Bool.true_and] at this
     exact this
   . have:=q H (aF.refl _)
     unfold isName at this
     rw [c,qO.mpr c2,Bool.true_and,Bool.false_and] at this
     exact this
 . have:=q H (aF.refl _)
   unfold isName at this
   rw [qO.mpr c,Bool.false_and,Bool.false_and] at this
   exact ⟨_,Z,cW this⟩
abbrev qf:Stmt:=top 26
abbrev mT:List Str:=["amount"]
abbrev GP:List Str:=mT
theorem E4:aJ GP mT (ay qf):=c8
theorem E5 (F:At K mg "check_amount" qf f fd):Dn P w K mg base 1 "check_amount" mT X4:=by
 refine F.oA E4 fun cdv A outer s H vs Q E hr h=>?_
 obtain ⟨⟨a,rfl,h1,q⟩⟩:=h
 refine ⟨_,(@cK.h _ _ _ (au (cQ (aZ J3 (qv 0) ak (br _)) (au iT) aX))),?_⟩
 exact ⟨_,Z,_,_,Z,Z,_,Z,dW (fun c=>absurd (eO c) (by omega)) fun _=>q⟩
abbrev tG:Stmt:=top 27
abbrev qg:List Str:=["most","amount"]
abbrev L8:List Str:=qg
theorem IU:aJ L8 qg (ay tG):=c8
theorem IV (F:At K mg "check_loss" tG f fd) (rm:Dn P w K mg base 1 "check_amount" mT X4):Dn P w K mg base 2 "check_loss" qg X5:=by
 refine F.oA IU fun cdv A outer s H vs Q E hr h=>?_
 obtain ⟨⟨m,a,rfl,h1,h2,q⟩⟩:=h
 refine ⟨_,(@cK.h _ _ _ (aj (dm (aY rm hr (af (qv 1) ao)))
  (au (cQ (aZ jU (qv 1) (qv 0) (br _)) (au iT) aX)))),?_⟩
 exact ⟨_,Z,⟨⟨a,Z,h1,_,Z,_,Z,_,_,Z,Z,_,Z,dW (fun c=>absurd (eO c) (by omega)) fun _=>q⟩⟩⟩
abbrev tH:Stmt:=top 25
abbrev qh:List Str:=["rows"]
abbrev L_:List Str:=qh.append ["amounts","name","amount"]
theorem nQ:aJ L_ qh (ay tH):=c8
theorem IW (F:At K mg "amounts_of" tH f fd) (bq:mg "len"=none):Dn P w K mg base 1 "amounts_of" qh (T_ K):=by
 refine F.oA nQ fun cdv A outer s H vs Q E hr h=>?_
 obtain ⟨⟨l,us,rs,rfl,hl,hR,nd,hne,hle,q⟩⟩:=h
 refine ⟨_,(@cK.h _ _ _ (aj (aN (i:=1) nQ.nd q_)
  (aj (dR eE rfl (dJ K (qv 0)) (jf K (n:=2) rfl (cV (aQ (i:=2) nQ.nd) (cV (aQ (i:=3) nQ.nd) je))) (aj (cQ (xW (LP (bY hr) (qv 2) (qv 1))) (au iT) aX)
  (au (o_ (bY hr) (qv 1) (qv 2) (qv 3) rfl))))
  (aj (cQ (aZ ir (aG Ad (by rfl) bq dF (af (qv 1) ao)) ak (br _)) (au iT) aX)
  (au (aS (qv 1))))))),?_⟩
 intro d hd
 have g0:=aB hd (.dK [])
 have hd0:upd H d (.dK []) d=some (.dK (h_ (rs.take 0))):=ai
 generalize upd H d (.dK [])=H0 at *
 have UZ:=hR.length
 refine ⟨_,Z,l,Z,⟨us,g0.seq hl⟩,?_⟩
 refine lS (K:=K) (xs:=us) (fun i σ H'=>aF H H'/\H' d=some (.dK (h_ (rs.take i)))/\∃s2 s3,σ=[some (.ref l),some (.ref d),s2,s3]) ⟨g0,hd0,_,_,Z⟩ (fun i σ H' _ hp=>hp.1.seq hl) ?_ ?_
 . rintro i x σ H' hx ⟨g,hd',s2,s3,rfl⟩
   obtain ⟨a,r,rfl,er,ha⟩:=hR.get hx
   have hnot:r.1∉(rs.take i).map (·.1):=by
    rw [Bp]
    exact j_ nd (by rw [bF,er];rfl)
   have hlt:(h_ (rs.take i)).length<sizeLine:=by rw [yJ,kZ];exact eZ (by omega)
   refine ⟨a,_,Z,cS.of (g _ _ ha),Z,_,_,Z,_,_,Z,Z,?_⟩
   refine ⟨_,Z,_,Z,d,_,Z,cN.k (k:=Sum.inr r.1) hd',_,Z,?_⟩
   rw [Ik hnot]
   refine cW ?_
   refine ⟨_,Z,_,Z,_,Z,d,_,Z,sZ.k (k:=Sum.inr r.1) hd' hlt,g.cD hd _,?_,_,_,Z⟩
   rw [ai,oj _ (Ik hnot),take_snoc er]
   unfold h_
   rw [bN]
   rfl
 rintro σ H' ⟨g,hd',s2,s3,rfl⟩
 rw [UZ,cC] at hd'
 refine ⟨_,Z,d,_,Z,hd',Z,_,Z,?_⟩
 rw [yJ]
 have hpos:0<rs.length:=List.length_pos_iff.mpr hne
 rw [d8 (fun e=>by have:=V.int.inj e;omega)]
 exact cW ⟨_,Z,q d H' g hd hd'⟩
abbrev oF:Stmt:=top 5
abbrev lI:List Str:=["step","tops"]
abbrev E6:List Str:=lI.append ["top"]
theorem oG:aJ E6 lI (ay oF):=c8
theorem Dq (F:At K mg "factor_of_all" oF f fd) (iu:Dn P w K mg base 1 "common_factor" jB Wj):Dn P w K mg base 2 "factor_of_all" lI (Ua K):=by
 refine F.oA oG fun cdv A outer s H vs Q E hr h=>?_
 obtain ⟨⟨s,l,ts,rfl,hl,h0,h1,q⟩⟩:=h
 refine ⟨_,(@cK.h _ _ _ (aj (dR eE rfl (dJ K (qv 1)) (aQ (i:=2) oG.nd) (au (aN (i:=0) oG.nd (aY iu hr (af (qv 2) (af (qv 0) ao))))))
  (au (aS (qv 0))))),?_⟩
 refine ⟨_,Z,l,Z,⟨_,hl⟩,?_⟩
 refine lS (K:=K) (xs:=ts.map V.int) (fun i σ H'=>H'=H/\0<=qa s (ts.take i)/\∃s2,σ=[some (.int (qa s (ts.take i))),some (.ref l),s2]) ⟨Z,h0,_,Z⟩ (fun i σ H' _ hp=>by rw [hp.1];exact hl) ?_ ?_
 . rintro i x σ H' hx ⟨rfl,hf,s2,rfl⟩
   obtain ⟨t,rfl,et⟩:=gP hx
   have e1:qa s (ts.take (i+1))=Jm.cf t (qa s (ts.take i)):=by
    unfold qa
    rw [take_snoc et,Kh]
    rfl
   refine ⟨_,Z,_,Z,t,_,Z,h1 t (bJ et),hf,Z,?_,some (.int t),?_⟩
   . rw [e1];unfold Jm.cf;omega
   . rw [e1];rfl
 rintro σ H' ⟨rfl,hf,s2,rfl⟩
 rw [aE,cC]
 exact ⟨_,Z,q⟩
abbrev rA:Stmt:=inClass (top 4) 0
abbrev tK:List Str:=["self"]
abbrev IZ:List Str:=tK
theorem GQ:aJ IZ tK (ay rA):=c8
theorem GR {T:TC} (F:Ig K mg "Bottom" T.bot "Bottom.__init__" rA f fd) (X:Txt K T):Cn P w K mg base 1 "Bottom" T.bot tK (Pj T):=by
 refine F.oA GQ fun cdv A outer s H vs Q E hr h=>?_
 obtain ⟨⟨p,dx,rfl,hp,q⟩⟩:=h
 refine ⟨_,(@cK.h _ _ _ (aj (dP K (qv 0) (eF ao))
  (aj (dP K (qv 0) ak)
  (au (dP K (qv 0) q_))))),?_⟩
 refine ⟨(i_ 0),fun l hl=>?_⟩
 have n1:p≠l:=aH hp hl
 refine ⟨_,Z,p,T.bot,dx,_,Z,by rw [av n1];exact hp,X.cB,X.bst,by show 0<1000;decide,?_⟩
 refine ⟨_,Z,p,T.bot,dx,_,Z,ai,X.cB,X.XY,by show 1<1000;decide,?_⟩
 intro d hd
 have n2:d≠p:=fun e=>by rw [e,ai] at hd;cases hd
 have n3:d≠l:=fun e=>by rw [e,av (bU n1),av (bU n1),ai] at hd;cases hd
 have hd0:H d=none:=by rw [av n2,av n2,av n3] at hd;exact hd
 refine ⟨_,Z,p,T.bot,dx,_,Z,by rw [av (bU n2)];exact ai,X.cB,X.TV,by show 2<1000;decide,?_⟩
 refine q l d _ hl hd0 (bU n3) (fun b o e hb=>?_) ai ?_ ?_
 . rw [av hb,av (aH e hd0),av hb,av hb,av (aH e hl)];exact e
 . rw [av (bU n1),av (bU n3),av (bU n1),av (bU n1)];exact ai
 . rw [av n2];exact ai
abbrev vg:Stmt:=inClass (top 23) 0
abbrev wZ:List Str:=["self","name","owner","worth","weight","scale","row"]
abbrev NU:List Str:=wZ
theorem Ma:aJ NU wZ (ay vg):=c8
theorem Mb {T:TC} (F:Ig K mg "Part" T.part "Part.__init__" vg f fd) (X:Txt K T) (dz:mg "list"=none):Cn P w K mg base 1 "Part" T.part wZ (Pk T K):=by
 refine F.oA Ma fun cdv A outer s H vs Q E hr h=>?_
 obtain ⟨⟨p,dx,l,pt,rfl,hp,hl,q⟩⟩:=h
 refine ⟨_,(@cK.h _ _ _ (aj (dP K (qv 0) (qv 1))
  (aj (dP K (qv 0) (qv 2))
  (aj (dP K (qv 0) (qv 3))
  (aj (dP K (qv 0) (qv 4))
  (aj (dP K (qv 0) (qv 5))
  (au (dP K (qv 0) (o9 (nN K) (by rfl) dz wL (af (qv 6) ao)))))))))),?_⟩
 refine ⟨_,Z,_,Z,p,T.part,dx,_,Z,hp,X.cP,X.XX,by show 0<1000;decide,?_⟩
 refine ⟨_,Z,_,Z,p,T.part,dx,_,Z,ai,X.cP,X.pow,by show 1<1000;decide,?_⟩
 refine ⟨_,Z,_,Z,p,T.part,dx,_,Z,ai,X.cP,X.Pf,by show 2<1000;decide,?_⟩
 refine ⟨_,Z,_,Z,p,T.part,dx,_,Z,ai,X.cP,X.pwe,by show 3<1000;decide,?_⟩
 refine ⟨_,Z,_,Z,p,T.part,dx,_,Z,ai,X.cP,X.Pg,by show 4<1000;decide,?_⟩
 simp only [qP]
 have hl1:∀o,aC K (upd H p o) l (pt.row.map V.int):=fun o=>by
  rcases hl with (h|⟨ob,h⟩)|h
  . exact .inl (.inl (by rw [av (iX h hp (by intro z;cases z))];exact h))
  . exact .inl (.inr ⟨ob,by rw [av (iX h hp (by intro z;cases z))];exact h⟩)
  . exact .inr h
 refine ⟨_,Z,l,_,Z, .inl (hl1 _),fun r hr2=>?_⟩
 have n1:r≠p:=fun e=>by rw [e,ai] at hr2;cases hr2
 refine ⟨_,Z,p,T.part,dx,_,Z,by rw [av (bU n1)];exact ai,X.cP,X.TU,by show 5<1000;decide,?_⟩
 have hr0:H r=none:=by rw [av n1] at hr2;exact hr2
 refine q r _ hr0 (fun b o e hb=>?_) ai ?_
 . rw [av hb,av (aH e hr0),av hb];exact e
 . rw [av n1];exact ai
abbrev rB:Stmt:=inClass (top 4) 1
abbrev nR:List Str:=["self","step"]
abbrev I0:List Str:=nR
theorem GS:aJ I0 nR (ay rB):=c8
theorem GU {T:TC} (F:i8 K T.bot "grow" "Bottom.grow" rB f fd) (X:Txt K T):Mn P w K mg base 1 T.bot "grow" nR (Ub T):=by
 refine F.oA GS fun cdv A outer s H vs Q E hr h=>?_
 obtain ⟨⟨n,ρ,A,st,s,rfl,g,h,hl,z1,z2,q⟩⟩:=h
 refine ⟨_,(@cK.h _ _ _ (au (ie (aZ jU (qv 1) ak (br _)) (aj (dm (uo yf yc yd gZ (a_ K (qv 0)) (af (qv 1) ao)))
  (aj (EW K (qv 0) (qv 1) Zh)
  (au (dP K (qv 0) q_)))) aX))),?_⟩
 refine ⟨fun σ' H'=>Q .b_ H',⟨_,Z,_,_,Z,Z,_,Z,dW (fun c=>?_) (fun c=>?_)⟩,fun _ _ z=>z⟩
 . have c':1<s:=eO c
   refine ⟨_,Z,A.bt,T.bot,A.db,_,_,Z,h.nv,X.cB,X.bst,Z, .inl ⟨Z,_,aC.of h.sQ⟩,_,Z,A.sp,_,_,Z,Z,h.sQ,by rw [aE];exact eZ hl,?_⟩
   rw [show st.stp.map V.int++[V.int s]=(st.stp++[s]).map V.int from by rw [bN];rfl]
   have h1:=h.abP g (st.stp++[s])
   have g1:=g.wr (a:=A.sp) (o:= .lst ((st.stp++[s]).map V.int)) rfl
   have F1:Fr n ρ H ρ (upd H A.sp (.lst ((st.stp++[s]).map V.int))):=Fr.write h.jq
   generalize upd H A.sp (.lst ((st.stp++[s]).map V.int))=H1 at *
   refine ⟨_,Z,A.bt,T.bot,A.db,_,_,Z,h1.nv,X.cB,X.XY,Z,_,Z,_,_,Z,Z,jb z1 z2,A.db,_,h1.nv,by show 3<1000;decide,?_⟩
   intro kn hkn
   have nb:kn≠A.bt:=fun e=>by rw [e,ai] at hkn;cases hkn
   have Dr:H1 kn=none:=by rw [av nb] at hkn;exact hkn
   have jr:ρ kn=none:=g1.none Dr
   refine ⟨_,Z,A.bt,T.bot,A.db,_,Z,by rw [av (bU nb)];exact ai,X.cB,X.TV,by show 3<1000;decide,?_⟩
   have eH:upd (upd (upd H1 A.bt (.ins T.bot A.db (aV "product" (.int (st.prod*s)) (yC A.sp st.prod A.kn)))) kn (.dK [])) A.bt (.ins T.bot A.db (aV "known" (.ref kn) (aV "product" (.int (st.prod*s)) (yC A.sp st.prod A.kn))))=upd (upd H1 kn (.dK [])) A.bt (.ins T.bot A.db (yC A.sp (st.prod*s) kn)):=by
    rw [kI (bU nb),qP]
    rfl
   have k2:Kp n ρ (cE ρ kn (n,9,⟨#[]⟩)) H1 (upd H1 kn (.dK [])) (fun _=>true):=⟨(aB Dr _).tups,fun b t x o _ c e=>⟨aB Dr _ _ _ e,by rw [cu (aH e Dr)];exact c⟩⟩
   have h2:=h1.same k2
   have g2:Gh (cE ρ kn (n,9,⟨#[]⟩)) (upd H1 kn (.dK [])):=(g1.alloc Dr).color ai rfl
   have F2:Fr n ρ H1 (cE ρ kn (n,9,⟨#[]⟩)) (upd H1 kn (.dK [])):=Fr.color Dr (aB Dr _)
   have h3:=h2.abS g2 (st.prod*s) kn ai dH
   have es:fR st s={ { st with stp:=st.stp++[s] } with prod:=st.prod*s,kn:=0 }:=by
    unfold fR
    rw [aA c']
   rw [es] at q
   show Q .b_ _
   refine (show _=_ from eH)▸?_
   exact q _ _ _ (g2.wr rfl) h3 rfl (F1.trans (F2.trans (Fr.write h2.jn)))
 . have c':¬ 1<s:=uE (qO.mpr c)
   have es:fR st s=st:=by unfold fR;rw [az c']
   rw [es] at q
   exact q ρ A H g h rfl Fr.refl
abbrev oH:Stmt:=inClass (top 24) 19
abbrev jC:List Str:=["self","owner"]
abbrev E7:List Str:=jC
theorem Ds:aJ E7 jC (ay oH):=c8
theorem BZ {T:TC} {e:Ec} (F:i8 K T.hold "place_of" "Hold.place_of" oH f fd) (X:Txt K T) (yW:uZ K e.wg) (pe:mg "NoOwner"=some (.ref e.wg)):Mx P w K mg base 1 T.hold "place_of" jC (Di T e):=by
 refine F.UP Ds fun cdv A outer s H vs Q E hr h=>?_
 obtain ⟨⟨n,ρ,A,st,o,rfl,h,q2,q⟩⟩:=h
 refine ⟨_,(@cK.h _ _ _ (aj (cQ (xW (AK (bY hr) (qv 1) (a_ K (qv 0)))) (au (LR yW (by rfl) pe)) aX)
  (au (aS (bP (bY hr) (a_ K (qv 0)) (qv 1)))))),?_⟩
 refine ⟨_,Z,_,Z,A.a,T.hold,A.dx,_,_,Z,h.oa,X.cH,X.hpl,Z,A.pl,_,Z,cN.k (k:=Sum.inr o) h.iR,_,Z,?_⟩
 by_cases ho:o∈st.own
 . have hv:=Ph (i:=0) ho
   rw [hv]
   refine cW ?_
   refine ⟨_,Z,A.a,T.hold,A.dx,_,_,Z,h.oa,X.cH,X.hpl,Z,_,Z,A.pl,_,Z,hv▸cN.k (k:=Sum.inr o) h.iR,?_⟩
   rw [Nat.zero_add]
   exact q ho
 . rw [p_ ho]
   exact qT fun x=>q2 ho x H (aF.refl _)
abbrev qi:Stmt:=inClass (top 24) 20
abbrev iJ:List Str:=["self","name"]
abbrev GV:List Str:=iJ
theorem E8:aJ GV iJ (ay qi):=c8
theorem Du {T:TC} {e:Ec} (F:i8 K T.hold "part_of" "Hold.part_of" qi f fd) (X:Txt K T) (AR:uZ K e.sV) (rC:mg "NoPart"=some (.ref e.sV)):Mx P w K mg base 1 T.hold "part_of" iJ (AJ T e):=by
 refine F.UP E8 fun cdv A outer s H vs Q E hr h=>?_
 obtain ⟨⟨n,ρ,A,st,x,rfl,hA,nd,q2,k⟩⟩:=h
 refine ⟨_,(@cK.h _ _ _ (aj (cQ (xW (AK (bY hr) (qv 1) (a_ K (qv 0)))) (au (LR AR (by rfl) rC)) aX)
  (au (aS (bP (bY hr) (a_ K (qv 0)) (qv 1)))))),?_⟩
 refine ⟨_,Z,_,Z,A.a,T.hold,A.dx,_,_,Z,hA.oa,X.cH,X.hab,Z,A.ab,_,Z,cN.k (k:=Sum.inr x) hA.d9,_,Z,?_⟩
 by_cases hx:∃p∈st.ah,p.nm=x
 . obtain ⟨p,hp,rfl⟩:=hx
   obtain ⟨i,hi,ep⟩:=List.mem_iff_getElem.mp hp
   have xE:st.ah[i]?=some p:=by rw [aW hi,ep]
   obtain ⟨qq,eq,_⟩:=hA.find xE
   have hv:=xT nd xE eq
   rw [hv]
   refine cW ?_
   exact ⟨_,Z,A.a,T.hold,A.dx,_,_,Z,hA.oa,X.cH,X.hab,Z,_,Z,A.ab,_,Z,hv▸cN.k (k:=Sum.inr p.nm) hA.d9,k i p qq rfl xE eq⟩
 . have hn:∀p∈st.ah,p.nm≠x:=fun p hp z=>hx ⟨p,hp,z⟩
   rw [uR hn]
   exact qT fun y=>q2 hn y H (aF.refl _)
abbrev m_:Stmt:=inClass (top 24) 21
abbrev kL:List Str:=["self","name"]
abbrev Dv:List Str:=kL
theorem B0:aJ Dv kL (ay m_):=c8
theorem B3 {T:TC} (F:i8 K T.hold "check_new" "Hold.check_new" m_ f fd) (X:Txt K T) (pA:Dn P w K mg base 2 "is_name" sW yx):Mn P w K mg base 3 T.hold "check_new" kL (EE T):=by
 refine F.oA B0 fun cdv A outer s H vs Q E hr h=>?_
 obtain ⟨⟨n,ρ,A,st,x,rfl,h,hx,hn,q⟩⟩:=h
 refine ⟨_,(@cK.h _ _ _ (aj (cQ (dN (dw (aY pA hr (af (qv 1) ao)))) (au iT) aX)
  (au (cQ (xW (LP (bY hr) (qv 1) (a_ K (qv 0)))) (au iT) aX)))),?_⟩
 refine ⟨_,Z,Es (cs:=x.cps.toList) (Lb hx) fun H1 g1=>⟨_,Z,?_⟩⟩
 rw [show isName x.cps.toList=true from hx]
 refine cW ?_
 have h1:=h.mono g1
 refine ⟨_,Z,_,Z,A.a,T.hold,A.dx,_,_,Z,h1.oa,X.cH,X.hnm,Z,A.nm,_,Z,cN.k (k:=Sum.inr x) h1.ua,_,Z,?_⟩
 rw [Aq hn]
 exact cW (q H1 g1)
abbrev rD:Stmt:=inClass (top 24) 10
abbrev nS:List Str:=["self"]
abbrev I_:List Str:=nS
theorem GW:aJ I_ nS (ay rD):=c8
theorem GX {T:TC} (F:i8 K T.hold "roster" "Hold.roster" rD f fd) (X:Txt K T) (dz:mg "list"=none):Mn P w K mg base 1 T.hold "roster" nS (K9 T):=by
 refine F.oA GW fun cdv A outer s H vs Q E hr h=>?_
 obtain ⟨⟨n,ρ,A,st,rfl,h,q⟩⟩:=h
 refine ⟨_,(@cK.h _ _ _ (au (aS (o9 (Rp rfl) (by rfl) dz wL (af (a_ K (qv 0)) ao))))),?_⟩
 refine ⟨_,Z,A.a,T.hold,A.dx,_,_,Z,h.oa,X.cH,X.hpl,Z,A.pl,_,Z, .inl h.iR,fun l hl=>?_⟩
 rw [C5]
 exact q l hl
abbrev tL:Stmt:=inClass (top 24) 11
abbrev qj:List Str:=["self"]
abbrev Mc:List Str:=qj
theorem Jb:aJ Mc qj (ay tL):=c8
theorem Jc {T:TC} (F:i8 K T.hold "parts" "Hold.parts" tL f fd) (X:Txt K T):Mn P w K mg base 1 T.hold "parts" qj (Pq T):=by
 refine F.oA Jb fun cdv A outer s H vs Q E hr h=>?_
 obtain ⟨⟨n,ρ,A,st,rfl,h,hl,q⟩⟩:=h
 refine ⟨_,(@cK.h _ _ _ (au (aS (LO (gw ["part"] [none] rfl (BV (a_ K (qv 0))) (fun _ _ _ _=>(aQ (i:=0) (show List.Nodup (["part"] :List Str) from by decide +kernel))) (fun _ _ _ _=>(jA (af (a_ K (qv 0)) (af (a_ K (qv 0)) (af (a_ K (qv 0)) (af (a_ K (qv 0)) ao)))))) rfl (by rfl)))))),?_⟩
 refine ⟨A.ab,_,h.d9,fun o=>?_⟩
 refine ⟨_,Z,A.a,T.hold,A.dx,_,_,Z,e_ h.d9 h.oa (fun k z=>by cases z),X.cH,X.hab,Z,A.ab,o,_,Z,ai,fun acc hacc=>?_⟩
 have el:=xS h.ql
 refine iP (n:=st.ah.length) 0 (fun i out H1=>aF (upd H A.ab (.fm o (.dK (cO st.ah A.qs)))) H1/\jW H1 out (st.ah.take i)) (by omega) ⟨aB hacc _, .nil⟩ (fun i out H1 hi _ hp=>⟨hp.1 _ _ ai,by rw [el];exact hi⟩) (fun out H1 _ hp=>⟨hp.1 _ _ ai,by rw [el];exact aP _⟩) ?_ ?_
 . rintro i x out H1 H2 hi eV ha ⟨g,hP⟩ ⟨rfl,kv,hkv,rfl⟩
   have ep:=aW hi
   obtain ⟨qq,eq,h1,h2,_⟩:=h.find ep
   rw [xR ep eq] at hkv
   cases hkv
   have hq:=g _ _ (e_ h.d9 h1 (fun k z=>by cases z))
   refine ⟨_,Z,qq.1,T.part,qq.2.1,_,_,Z,hq,X.cP,X.XX,Z,_,Z,qq.1,T.part,qq.2.1,_,_,Z,hq,X.cP,X.pow,Z,_,Z,qq.1,T.part,qq.2.1,_,_,Z,hq,X.cP,X.Pf,Z,_,Z,qq.1,T.part,qq.2.1,_,_,Z,hq,X.cP,X.pwe,Z,(i_ 4),fun t ht=>?_⟩
   have g1:=aB ht (BO st.ah[i])
   refine ⟨g1 _ _ ha,(g.trans g1).cD hacc _,?_⟩
   rw [take_snoc ep]
   exact ((hP.mono g1.tups).snoc ai).mono (kW (.inr ⟨_,g1 _ _ ha,Z⟩))
 rintro out H1 eV ha ⟨g,hP⟩
 rw [cC] at hP
 have hz:=g _ _ (ai (H:=H) (a:=A.ab) (o:= .fm o (.dK (cO st.ah A.qs))))
 have na:acc≠A.ab:=fun e=>by rw [e,hz] at ha;cases ha
 exact ⟨hz,q acc out _ (uS h.d9 g) (ou h.d9 hacc) (by rw [av na];exact ha) (hP.mono (kW (.inr ⟨_,hz,Z⟩)))⟩
abbrev tM:Stmt:=inClass (top 24) 13
abbrev lZ:List Str:=["self"]
abbrev Me:List Str:=lZ
theorem Jd:aJ Me lZ (ay tM):=c8
theorem Je {T:TC} (F:i8 K T.hold "whole" "Hold.whole" tM f fd) (X:Txt K T) (fT:mg "sum"=none):Mn P w K mg base 1 T.hold "whole" lZ (Gz T):=by
 refine F.oA Jd fun cdv A outer s H vs Q E hr h=>?_
 obtain ⟨⟨n,ρ,A,st,rfl,h,hl,q⟩⟩:=h
 refine ⟨_,(@cK.h _ _ _ (au (aS (aG (lV K rfl) (by rfl) fT yg (af (LO (gw ["part"] [none] rfl (BV (a_ K (qv 0))) (fun _ _ _ _=>(aQ (i:=0) (show List.Nodup (["part"] :List Str) from by decide +kernel))) (fun _ _ _ _=>(a_ K (qv 0))) rfl (by rfl))) ao))))),?_⟩
 refine ⟨A.ab,_,h.d9,fun o=>?_⟩
 refine ⟨_,Z,A.a,T.hold,A.dx,_,_,Z,e_ h.d9 h.oa (fun k z=>by cases z),X.cH,X.hab,Z,A.ab,o,_,Z,ai,fun acc hacc=>?_⟩
 have el:=xS h.ql
 refine iP (n:=st.ah.length) 0 (fun i out H1=>aF (upd H A.ab (.fm o (.dK (cO st.ah A.qs)))) H1/\out=((st.ah.take i).map (·.wo)).map V.int) (by omega) ⟨aB hacc _,Z⟩ (fun i out H1 hi _ hp=>⟨hp.1 _ _ ai,by rw [el];exact hi⟩) (fun out H1 _ hp=>⟨hp.1 _ _ ai,by rw [el];exact aP _⟩) ?_ ?_
 . rintro i x out H1 H2 hi eV ha ⟨g,e⟩ ⟨rfl,kv,hkv,rfl⟩
   have ep:=aW hi
   obtain ⟨qq,eq,h1,h2,_⟩:=h.find ep
   rw [xR ep eq] at hkv
   cases hkv
   have hq:=g _ _ (e_ h.d9 h1 (fun k z=>by cases z))
   refine ⟨_,Z,qq.1,T.part,qq.2.1,_,_,Z,hq,X.cP,X.Pf,Z,ha,g.cD hacc _,?_⟩
   rw [take_snoc ep,e,bN,bN]
   rfl
 rintro out H1 eV ha ⟨g,e⟩
 rw [cC] at e
 have hz:=g _ _ (ai (H:=H) (a:=A.ab) (o:= .fm o (.dK (cO st.ah A.qs))))
 have na:acc≠A.ab:=fun e=>by rw [e,hz] at ha;cases ha
 exact ⟨hz,acc,st.ah.map (fun p:Pt=>p.wo),Z,aC.of (by rw [av na,ha,e]),q _ (uS h.d9 g)⟩
abbrev ki:Stmt:=inClass (top 24) 25
abbrev gq:List Str:=["self","tops"]
abbrev yX:List Str:=gq
theorem x6:aJ yX gq (ay ki):=c8
theorem x8 {T:TC} (F:i8 K T.hold "beyond_common" "Hold.beyond_common" ki f fd) (X:Txt K T) (jX:mg "zip"=none):Mn P w K mg base 1 T.hold "beyond_common" gq (Rq T K):=by
 refine F.oA x6 fun cdv A outer s H vs Q E hr h=>?_
 obtain ⟨⟨n,ρ,A,st,l,tops,rfl,h,hS,Yh,hle,q⟩⟩:=h
 refine ⟨_,(@cK.h _ _ _ (au (aS (gw ["top","common"] [none,none] rfl (uy K (by rfl) jX (af (qv 1) (af (a_ K (qv 0)) ao))) (fun _ _ _ _=>(jf K (n:=2) rfl (cV (aQ (i:=0) (show List.Nodup (["top","common"] :List Str) from by decide +kernel)) (cV (aQ (i:=1) (show List.Nodup (["top","common"] :List Str) from by decide +kernel)) je)))) (fun _ _ _ _=>(aD lT (qv 0) (qv 1))) rfl (by rfl))))),?_⟩
 refine ⟨_,Z,_,Z,A.a,T.hold,A.dx,_,_,Z,h.oa,X.cH,X.Cu,Z,_,_,_,_,_,_,Z, .lst hS, .lst (aC.of h.jQ),fun acc hacc=>?_⟩
 refine Ak (K:=K) (n:=tops.length) [0,1] (fun i out H1=>aF H H1/\out=(List.zipWith (fun t c=>t-c) (tops.take i) (st.bM.take i)).map V.int) (by decide) (by omega) ⟨aB hacc _,Z⟩ (fun i out H1 hi _ hp=>⟨hp.1.seq hS,hp.1.seq (aC.of h.jQ),by rw [aE];exact hi,by rw [aE];omega⟩)
  (fun out H1 _ hp=>⟨hp.1.seq hS,hp.1.seq (aC.of h.jQ), .inl (by rw [aE];exact aP _)⟩) ?_ ?_
 . rintro i x out H1 H2 hi eV ha ⟨g,e⟩ ⟨p,x1,y1,hp,rfl,rfl,e1,e2⟩
   obtain ⟨t,rfl,et⟩:=gP e1
   obtain ⟨c,rfl,ec⟩:=gP e2
   have g1:=aB hp (.tup [.int t, .int c])
   refine ⟨p,_,Z,cS.of ai,Z,_,Z,_,Z,_,_,Z,Z,g1 _ _ ha,(g.trans g1).cD hacc _,?_⟩
   rw [o6 _ et ec,e,bN]
   rfl
 rintro out H1 eV ha ⟨g,e⟩
 rw [cC,Yh,cC] at e
 exact q acc H1 g hacc (by rw [ha,e];rfl)
abbrev qm:Stmt:=inClass (top 24) 24
abbrev kj:List Str:=["self","part"]
abbrev GY:List Str:=kj
theorem E9:aJ GY kj (ay qm):=c8
theorem E_ {T:TC} (F:i8 K T.hold "tops_of" "Hold.tops_of" qm f fd) (X:Txt K T) (jX:mg "zip"=none):Mn P w K mg base 1 T.hold "tops_of" kj (Gy T):=by
 refine F.oA E9 fun cdv A outer s H vs Q E hr h=>?_
 obtain ⟨⟨n,ρ,A,st,ip,pt,qq,rfl,h,wf,ep,eq,q⟩⟩:=h
 obtain ⟨h1,h2,_⟩:=h.opt ip pt qq ep eq
 have iE:=bJ ep
 refine ⟨_,(@cK.h _ _ _ (au (aS (gw ["own","common","part"] [none,none,some 1] rfl (uy K (by rfl) jX (af (a_ K (qv 1)) (af (a_ K (qv 0)) ao))) (fun _ _ _ _=>(jf K (n:=2) rfl (cV (aQ (i:=0) (show List.Nodup (["own","common","part"] :List Str) from by decide +kernel)) (cV (aQ (i:=1) (show List.Nodup (["own","common","part"] :List Str) from by decide +kernel)) je)))) (fun _ _ _ _=>(aD cg (aD j7 (a_ K (qv 2)) (qv 0)) (qv 1))) rfl (by rfl))))),?_⟩
 have erl:pt.row.length=st.bM.length:=by rw [wf.rows pt iE,wf.g_]
 have hcl:st.bM.length<=100:=by rw [wf.g_];exact wf.qU
 refine ⟨_,Z,qq.1,T.part,qq.2.1,_,_,Z,h1,X.cP,X.TU,Z,_,Z,A.a,T.hold,A.dx,_,_,Z,h.oa,X.cH,X.Cu,Z,_,_,_,_,_,_,Z, .lst (aC.of h2), .lst (aC.of h.jQ),fun acc hacc=>?_⟩
 refine Ak (K:=K) (n:=pt.row.length) [0,1] (fun i out H1=>aF H H1/\out=(List.zipWith (fun r c=>pt.sc*r+c) (pt.row.take i) (st.bM.take i)).map V.int) (by decide) (by omega) ⟨aB hacc _,Z⟩ (fun i out H1 hi _ hp=>⟨hp.1.seq (aC.of h2),hp.1.seq (aC.of h.jQ),by rw [aE];exact hi,by rw [aE];omega⟩)
  (fun out H1 _ hp=>⟨hp.1.seq (aC.of h2),hp.1.seq (aC.of h.jQ), .inl (by rw [aE];exact aP _)⟩) ?_ ?_
 . rintro i x out H1 H2 hi eV ha ⟨g,e⟩ ⟨p,x1,y1,hp,rfl,rfl,e1,e2⟩
   obtain ⟨t,rfl,et⟩:=gP e1
   obtain ⟨c,rfl,ec⟩:=gP e2
   have g1:=aB hp (.tup [.int t, .int c])
   have s1:Jm.Sz 8000 pt.sc:=Jm.Sz.pS (by have:=wf.xP pt iE;have:=wf.iD;omega) (wf.xP pt iE).2 wf.big
   have s2:Jm.Sz 8000 t:=Jm.Sz.pS (wf.uQ pt iE t (bJ et)).1 (wf.uQ pt iE t (bJ et)).2 wf.big
   refine ⟨p,_,Z,cS.of ai,Z,_,Z,qq.1,T.part,qq.2.1,_,_,Z,(g.trans g1) _ _ h1,X.cP,X.Pg,Z,_,Z,_,_,Z,Z,jb s1 s2,_,Z,_,_,Z,Z,g1 _ _ ha,(g.trans g1).cD hacc _,?_⟩
   rw [o6 _ et ec,e,bN]
   rfl
 rintro out H1 eV ha ⟨g,e⟩
 rw [cC,erl,cC] at e
 exact q acc H1 g hacc (by rw [ha,e];rfl)
abbrev vh:Stmt:=inClass (top 24) 22
abbrev rY:List Str:=["self","part"]
abbrev NV:List Str:=rY
theorem Mf:aJ NV rY (ay vh):=c8
theorem Mg {T:TC} (F:i8 K T.hold "stow" "Hold.stow" vh f fd) (X:Txt K T):Mn P w K mg base 1 T.hold "stow" rY (T3 T):=by
 refine F.oA Mf fun cdv A outer s H vs Q E hr h=>?_
 obtain ⟨⟨n,ρ,A,st,qq,p,rfl,hh,h1,h2,c1,c2,hn,wf',q⟩⟩:=h
 have h:=hh.h
 refine ⟨_,(@cK.h _ _ _ (aj (o_ (bY hr) (a_ K (qv 0)) (a_ K (qv 1)) (qv 1) rfl)
  (au (o_ (bY hr) (a_ K (qv 0)) (a_ K (qv 1)) fE rfl)))),?_⟩
 have AS:∀x∈st.ah,x.nm≠p.nm:=fun x hx e=>hn (by rw [<-e];exact hh.wf.sub x hx)
 have lab:(cO st.ah A.qs).length<sizeLine:=by rw [xS h.ql];exact eZ hh.wf.wV
 refine ⟨_,Z,_,Z,A.a,T.hold,A.dx,_,_,Z,h.oa,X.cH,X.hab,Z,_,Z,qq.1,T.part,qq.2.1,_,_,Z,h1,X.cP,X.XX,Z,A.ab,_,Z,sZ.k (k:=Sum.inr p.nm) h.d9 lab,?_⟩
 rw [oj _ (uR AS),<-WC h.ql p qq]
 have k1:qq.1≠qq.2.2:=iX h1 h2 (by intro z;cases z)
 have f1:Kp n ρ (cE (cE ρ qq.1 (n,20,p.nm)) qq.2.2 (n,21,p.nm)) H H (fun _=>true):=⟨fun _ _ e=>e,fun b t x o _ c e=>⟨e,by
  rw [cu (fun z=>by rw [z,c2] at c;cases c),cu (fun z=>by rw [z,c1] at c;cases c)];exact c⟩⟩
 have hc:=h.same f1
 have g1:Gh (cE (cE ρ qq.1 (n,20,p.nm)) qq.2.2 (n,21,p.nm)) H:=(hh.g.color h1 rfl).color h2 rfl
 have fr1:K8 n qq.1 qq.2.2 ρ H (cE (cE ρ qq.1 (n,20,p.nm)) qq.2.2 (n,21,p.nm)) H:=fun b o e k n1 n2=>⟨e,by rw [cu n2,cu n1]⟩
 have hs:=hc.TR g1 (st.ah++[p]) (A.qs++[qq]) (by rw [dh,dh,h.ql];rfl) (fun i x y ex ey=>by
  by_cases hi:i<st.ah.length
  . rw [Ka hi] at ex
    rw [Ka (by rw [h.ql];exact hi)] at ey
    exact hc.opt i x y ex ey
  . rw [CM (by omega)] at ex
    rw [CM (by rw [h.ql];omega),h.ql] at ey
    have e0:i-st.ah.length=0:=by
     rcases Nat.eq_zero_or_pos (i-st.ah.length) with z|z
     . exact z
     . rw [uC (by show 1<=_;exact z)] at ex;cases ex
    rw [e0] at ex ey
    cases ex;cases ey
    exact ⟨h1,h2,by rw [cu k1];exact dH,dH⟩)
 have g2:=g1.wr (a:=A.ab) (o:= .dK (cO (st.ah++[p]) (A.qs++[qq]))) rfl
 have fr2:Fr n _ H _ (upd H A.ab (.dK (cO (st.ah++[p]) (A.qs++[qq])))):=Fr.write hc.gC
 have XZ:upd H A.ab (.dK (cO (st.ah++[p]) (A.qs++[qq]))) qq.1=some (.ins T.part qq.2.1 (eU p qq.2.2)):=by rw [av (iX h1 h.d9 (by intro z;cases z))];exact h1
 refine ⟨_,Z,A.a,T.hold,A.dx,_,_,Z,hs.oa,X.cH,X.hnm,Z,_,Z,qq.1,T.part,qq.2.1,_,_,Z,XZ,X.cP,X.XX,Z,A.nm,_,Z,sZ.k (k:=Sum.inr p.nm) hs.ua (by unfold xO;rw [aE];exact eZ hh.wf.C4),?_⟩
 rw [oj _ (Aq hn),show xO st.nms++[(Sum.inr p.nm,V.bl true)]=xO (st.nms++[p.nm]) from by unfold xO;rw [bN];rfl]
 have hs2:=hs.abM g2 (st.nms++[p.nm])
 exact q _ _ _ ⟨g2.wr rfl,hs2,wf'⟩ rfl (fr1.trans (fr2.trans (Fr.write hs.jm)))
abbrev vj:Stmt:=inClass (top 24) 1
abbrev rZ:List Str:=["self","owner"]
abbrev NW:List Str:=rZ.append ["part"]
theorem AU:aJ NW rZ (ay vj):=c8
theorem Mh {T:TC} (F:i8 K T.hold "sign" "Hold.sign" vj f fd) (X:Txt K T) (pA:Dn P w K mg base 2 "is_name" sW yx) (bq:mg "len"=none):Mn P w K mg base 3 T.hold "sign" rZ (Pp T):=by
 refine F.oA AU fun cdv A outer s H vs Q E hr h=>?_
 obtain ⟨⟨n,ρ,A,st,o,rfl,hh,hx,hn,hl,q⟩⟩:=h
 refine ⟨_,(@cK.h _ _ _ (aj (cQ (dN (dw (aY pA hr (af (qv 1) ao)))) (au iT) aX)
  (aj (cQ (xW (LP (bY hr) (qv 1) (a_ K (qv 0)))) (au iT) aX)
  (aj (o_ (bY hr) (a_ K (qv 0)) (qv 1) (aG Ad (by rfl) bq dF (af (a_ K (qv 0)) ao)) rfl)
  (aj (dm (uo yf yc yd gZ (a_ K (qv 0)) (af ak ao)))
  (aj (dm (uo yf yc yd gZ (a_ K (qv 0)) (af ak ao)))
  (au (xY (dR eE rfl (BV (a_ K (qv 0))) (aQ (i:=2) AU.nd) (au (dm (uo yf yc yd gZ (a_ K (qv 2)) (af ak ao))))))))))))),?_⟩
 refine ⟨_,Z,Es (cs:=o.cps.toList) (Lb hx) fun H1 g1=>⟨_,Z,?_⟩⟩
 rw [show isName o.cps.toList=true from hx]
 refine cW ?_
 have gF:=hh.mono g1
 have h1:=gF.h
 have F1:Fr n ρ H ρ H1:=Fr.of_same g1
 refine ⟨_,Z,_,Z,A.a,T.hold,A.dx,_,_,Z,h1.oa,X.cH,X.hpl,Z,A.pl,_,Z,cN.k (k:=Sum.inr o) h1.iR,_,Z,?_⟩
 rw [p_ hn]
 refine cW ?_
 have Qd:=uh st.own 0
 refine ⟨_,Z,A.a,T.hold,A.dx,_,_,Z,h1.oa,X.cH,X.hpl,Z,A.pl,_,Z,h1.iR,_,Z,A.a,T.hold,A.dx,_,_,Z,h1.oa,X.cH,X.hpl,Z,_,Z,A.pl,_,Z,sZ.k (k:=Sum.inr o) h1.iR (eZ (by rw [Qd];omega)),?_⟩
 rw [oj _ (p_ hn),Qd,show fP 0 st.own++[(Sum.inr o,V.int (st.own.length:Int))]=fP 0 (st.own++[o]) from by rw [K7,Nat.zero_add]]
 have h2:=h1.abL gF.g (st.own++[o])
 have G2:=gF.g.wr (a:=A.pl) (o:= .dK (fP 0 (st.own++[o]))) rfl
 have F2:=F1.trans (Fr.write (o:= .dK (fP 0 (st.own++[o]))) h1.i9)
 generalize upd H1 A.pl (.dK (fP 0 (st.own++[o])))=H2 at *
 have lcm:(st.bM.map V.int).length<sizeLine:=by rw [aE,hh.wf.g_];exact eZ (by omega)
 refine ⟨_,Z,A.a,T.hold,A.dx,_,_,Z,h2.oa,X.cH,X.Cu,Z, .inl ⟨Z,_,aC.of h2.jQ⟩,A.cm,_,_,Z,Z,h2.jQ,lcm,?_⟩
 rw [show st.bM.map V.int++[V.int 0]=(st.bM++[0]).map V.int from by rw [bN];rfl]
 have h3:=h2.abN G2 (st.bM++[0])
 have G3:=G2.wr (a:=A.cm) (o:= .lst ((st.bM++[0]).map V.int)) rfl
 have F3:=F2.trans (Fr.write (o:= .lst ((st.bM++[0]).map V.int)) h2.j8)
 generalize upd H2 A.cm (.lst ((st.bM++[0]).map V.int))=H3 at *
 have lpu:(st.c_.map V.int).length<sizeLine:=by rw [aE,hh.wf.yE];exact eZ (by omega)
 refine ⟨_,Z,A.a,T.hold,A.dx,_,_,Z,h3.oa,X.cH,X.K5,Z, .inl ⟨Z,_,aC.of h3.pZ⟩,A.pu,_,_,Z,Z,h3.pZ,lpu,?_⟩
 rw [show st.c_.map V.int++[V.int 0]=(st.c_++[0]).map V.int from by rw [bN];rfl]
 have h4:=h3.abO G3 (st.c_++[0])
 have G4:=G3.wr (a:=A.pu) (o:= .lst ((st.c_++[0]).map V.int)) rfl
 have F4:=F3.trans (Fr.write (o:= .lst ((st.c_++[0]).map V.int)) h3.cpu)
 generalize upd H3 A.pu (.lst ((st.c_++[0]).map V.int))=H4 at *
 clear h1 h2 h3 G2 G3 F2 F3 gF
 have hpl:=hh.wf.wV
 refine ⟨A.ab,_,h4.d9,fun ob=>?_⟩
 refine ⟨_,Z,A.a,T.hold,A.dx,_,_,Z,e_ h4.d9 h4.oa (fun k z=>by cases z),X.cH,X.hab,Z,A.ab,ob,_,Z,ai,?_⟩
 have el:=xS h4.ql
 have el0:(cO st.ah A.qs).length=st.ah.length:=el
 refine uN (n:=st.ah.length) (fun i σ H'=>(∃s2,σ=[some (.ref A.a),some (.str o),s2])/\oY H' A.ab ob (cO st.ah A.qs)/\∃H5,H'=upd H5 A.ab (.fm ob (.dK (cO st.ah A.qs)))/\Gh ρ H5/\Fr n ρ H ρ H5/\
   aR T n ρ A H5 { st with own:=st.own++[o],bM:=st.bM++[0],c_:=st.c_++[0],ah:=(st.ah.take i).map (fun p=>{ p with row:=p.row++[0] })++st.ah.drop i })
  ⟨⟨_,Z⟩,ai,H4,Z,G4,F4,h4⟩ (fun i σ H' hi hp=>⟨hp.2.1,by rw [el0];exact hi⟩) (fun σ H' hp=>⟨hp.2.1,by rw [el0];exact aP _⟩) ?_ ?_
 . rintro i x σ H' EF hi ⟨⟨s2,rfl⟩,hz,H5,rfl,G5,F5,h5⟩ ⟨rfl,kv,hkv,rfl⟩
   have ep:=aW hi
   have CI:=Lc (fun p:Pt=>{ p with row:=p.row++[0] }) ep
   obtain ⟨qq,eq,k1,k2,k3,k4⟩:=h5.find CI
   rw [xR ep eq] at hkv
   cases hkv
   have Yi:=qW (fun p:Pt=>{ p with row:=p.row++[0] }) (fun p:Pt=>p.nm) (fun _=>rfl) st.ah i
   have nd5:(((st.ah.take i).map (fun p:Pt=>{ p with row:=p.row++[0] })++st.ah.drop i).map (fun p:Pt=>p.nm)).Nodup:=by rw [Yi];exact hh.wf.j9
   have z1:=e_ (o:=ob) h5.d9 k1 (fun k z=>by cases z)
   have z2:=e_ (o:=ob) h5.d9 k2 (fun k z=>by cases z)
   rw [show cO ({ st with own:=st.own++[o],bM:=st.bM++[0],c_:=st.c_++[0],ah:=(st.ah.take i).map (fun p:Pt=>{ p with row:=p.row++[0] })++st.ah.drop i }:HS).ah A.qs=cO st.ah A.qs from o7 Yi] at z1 z2
   have hrl:((st.ah[i]).row.map V.int).length<sizeLine:=by rw [aE,hh.wf.rows _ (rN hi)];exact eZ (by omega)
   refine ⟨_,Z,qq.1,T.part,qq.2.1,_,_,Z,z1,X.cP,X.TU,Z, .inl ⟨Z,_,aC.of z2⟩,qq.2.2,_,_,Z,Z,z2,hrl,?_⟩
   have na:A.ab≠qq.2.2:=(iX k2 h5.d9 (by intro z;cases z)).symm
   rw [show (st.ah[i]).row.map V.int++[V.int 0]=((st.ah[i]).row++[0]).map V.int from by rw [bN];rfl]
   have h6:=h5.Zj G5 ((st.ah[i]).row++[0]) CI eq nd5
   rw [show ({ st with own:=st.own++[o],bM:=st.bM++[0],c_:=st.c_++[0],ah:=(st.ah.take i).map (fun p:Pt=>{ p with row:=p.row++[0] })++st.ah.drop i }:HS).ah.set i { st.ah[i] with row:=(st.ah[i]).row++[0] }=_ from Ld (fun p:Pt=>{ p with row:=p.row++[0] }) ep] at h6
   exact ⟨⟨_,Z⟩,(av na).trans hz,_,kI na,G5.wr rfl,F5.trans (Fr.write k4),h6⟩
 . rintro σ H' ⟨_,hz,H5,rfl,G5,F5,h5⟩
   have Yi:=qW (fun p:Pt=>{ p with row:=p.row++[0] }) (fun p:Pt=>p.nm) (fun _=>rfl) st.ah st.ah.length
   have e5:cO ({ st with own:=st.own++[o],bM:=st.bM++[0],c_:=st.c_++[0],ah:=(st.ah.take st.ah.length).map (fun p:Pt=>{ p with row:=p.row++[0] })++st.ah.drop st.ah.length }:HS).ah A.qs=cO st.ah A.qs:=o7 Yi
   have h5':=h5.d9
   rw [e5] at h5'
   refine ⟨hz,?_⟩
   rw [qP,yH h5']
   have es:({ st with own:=st.own++[o],bM:=st.bM++[0],c_:=st.c_++[0],ah:=(st.ah.take st.ah.length).map (fun p:Pt=>{ p with row:=p.row++[0] })++st.ah.drop st.ah.length }:HS)=gI st o:=by
    unfold gI
    rw [cC,DS,rO]
   rw [es] at h5
   exact q ρ A H5 ⟨G5,h5,Zo hh.wf hn hl⟩ rfl F5
abbrev vm:Stmt:=inClass (top 24) 2
abbrev r_:List Str:=["self","part","owner","worth","weight"]
abbrev NX:List Str:=r_.append ["place","tops"]
theorem vn:aJ NX r_ (ay vm):=c8
theorem Mi {T:TC} (F:i8 K T.hold "load" "Hold.load" vm f fd) (X:Txt K T) (oJ:Mn P w K mg base 3 T.hold "check_new" kL (EE T)) (qo:Mn P w K mg base 1 T.hold "place_of" jC (Po T))
  (fF:Mn P w K mg base 1 T.hold "beyond_common" gq (Rq T K)) (w6:Mn P w K mg base 1 T.hold "stow" rY (T3 T)) (Mj:Cn P w K mg base 1 "Part" T.part ["self","name","owner","worth","weight","scale","row"] (Pk T K)) (bq:mg "len"=none):Mn P w K mg base 4 T.hold "load" r_ (T4 T):=by
 refine F.oA vn fun cdv A outer s H vs Q E hr h=>?_
 obtain ⟨⟨n,ρ,A,st,x,o,wo,we,rfl,hh,hx,hn,ho,h4,h5,h6,h7,q⟩⟩:=h
 refine ⟨_,(@cK.h _ _ _ (aj (dm (gm oJ hr (qv 0) (af (qv 1) ao)))
  (aj (aN (i:=5) vn.nd (gm qo hr (qv 0) (af (qv 2) ao)))
  (aj (cQ (fD (bW.pt (iZ (aZ J3 (qv 3) ak (br _)) (iA (aZ J3 (qv 4) ak (br _)))))) (au iT) aX)
  (aj (aN (i:=6) vn.nd (aD abd (eF (af ak ao)) (aG Ad (by rfl) bq dF (af (a_ K (qv 0)) ao))))
  (aj (nE (a_ K (a_ K (qv 0))) (nF (qv 6) (qv 5) set_list))
  (au (dm (gm w6 hr (qv 0) (af (aeP Mj hr (af (qv 1) (af (qv 2) (af (qv 3) (af (qv 4) (af ak (af (gm fF hr (qv 0) (af (qv 6) ao)) ao))))))) ao)))))))))),?_⟩
 refine ⟨_,Z,A.a,A.dx,_,Z,hh.h.oa,Z,_,Z,⟨⟨n,ρ,A,st,x,Z,hh.h,hx,hn,fun H1 g1=>?_⟩⟩⟩
 have gF:=hh.mono g1
 have F1:Fr n ρ H ρ H1:=Fr.of_same g1
 clear hh
 refine ⟨_,Z,A.a,A.dx,_,Z,gF.h.oa,Z,_,Z,⟨⟨n,ρ,A,st,o,Z,gF.h,ho,?_⟩⟩⟩
 refine ⟨false,⟨_,Z,_,_,Z,Z,_,Z,dW (fun c=>absurd (eO c) (by omega)) fun _=>⟨_,Z,_,_,Z,Z,_,Z,d8 (by omega),Z⟩⟩,cW ?_⟩
 refine ⟨(i_ 1),fun p0 hp0=>?_⟩
 have g2:=aB hp0 (.lst [.int 0])
 have kT:=gF.mono g2
 have F2:=F1.trans (Fr.of_same (ρ:=ρ) g2)
 have ahV:upd H1 p0 (.lst [.int 0]) p0=some (.lst [.int 0]):=ai
 generalize upd H1 p0 (.lst [.int 0])=H2 at *
 clear gF F1
 have Qd:=uh st.own 0
 have eV:=kT.wf.qU
 refine ⟨_,Z,A.a,T.hold,A.dx,_,_,Z,kT.h.oa,X.cH,X.hpl,Z,A.pl,_,Z,kT.h.iR,p0,_,_,Z,Z,ahV,by omega,by rw [Qd];omega,by rw [Qd];show 1*_<=_;rw [wM,Nat.one_mul];exact small (by omega),fun p1 hp1=>?_⟩
 rw [Qd,wM,show (List.replicate st.own.length [V.int 0]).flatten=(List.replicate st.own.length (0:Int)).map V.int from by rw [List.map_replicate,List.flatten_replicate_singleton]]
 have g3:=aB hp1 (.lst ((List.replicate st.own.length (0:Int)).map V.int))
 have lJ:=kT.mono g3
 have F3:=F2.trans (Fr.of_same (ρ:=ρ) g3)
 have n1:H p1=none:=(g1.trans g2).free hp1
 have c1:ρ p1=none:=kT.g.none hp1
 have Ml:upd H2 p1 (.lst ((List.replicate st.own.length (0:Int)).map V.int)) p1=_:=ai
 generalize upd H2 p1 (.lst ((List.replicate st.own.length (0:Int)).map V.int))=H3 at *
 have hi:=List.idxOf_lt_length_iff.mpr ho
 refine ⟨_,Z,A.a,T.hold,A.dx,_,_,Z,lJ.h.oa,X.cH,X.ED,Z,A.bt,T.bot,A.db,_,_,Z,lJ.h.nv,X.cB,X.XY,Z,_,Z,_,Z,p1,_,_,st.own.idxOf o,Z,Z,Ml,by rw [aE,mW];exact oX hi,?_⟩
 rw [show ((List.replicate st.own.length (0:Int)).map V.int).set (st.own.idxOf o) (V.int st.prod)=((List.replicate st.own.length (0:Int)).set (st.own.idxOf o) st.prod).map V.int from by rw [lD]]
 have nG:=lJ.J7 (o:= .lst (((List.replicate st.own.length (0:Int)).set (st.own.idxOf o) st.prod).map V.int)) c1 Ml rfl rfl
 have F4:=F3.new (o:= .lst (((List.replicate st.own.length (0:Int)).set (st.own.idxOf o) st.prod).map V.int)) n1
 have ahW:upd H3 p1 (.lst (((List.replicate st.own.length (0:Int)).set (st.own.idxOf o) st.prod).map V.int)) p1=_:=ai
 have s4:aF H (upd H3 p1 (.lst (((List.replicate st.own.length (0:Int)).set (st.own.idxOf o) st.prod).map V.int))):=((g1.trans g2).trans g3).cD n1 _
 generalize upd H3 p1 (.lst (((List.replicate st.own.length (0:Int)).set (st.own.idxOf o) st.prod).map V.int))=H4 at *
 clear kT lJ F2 F3
 refine ⟨_,Z,A.a,A.dx,_,Z,nG.h.oa,Z,_,Z,_,Z,_,Z,_,Z,_,Z,A.a,A.dx,_,Z,nG.h.oa,Z,_,Z,⟨⟨n,ρ,A,st,p1,_,Z,nG.h,aC.of ahW,by rw [fq,mW,nG.wf.g_],by rw [fq,mW];omega,fun r H5 g5 hr5 Xj=>?_⟩⟩⟩
 intro y dy hy hdy hyd
 have hr6:upd (upd H5 dy (.own y)) y (.ins T.part dy []) r=some (.lst ((m8 st ((List.replicate st.own.length 0).set (st.own.idxOf o) st.prod)).map V.int)):=by rw [av (aH Xj hy),av (aH Xj hdy)];exact Xj
 refine ⟨⟨y,dy,r,⟨x,o,wo,we,1,m8 st ((List.replicate st.own.length 0).set (st.own.idxOf o) st.prod)⟩,Z,ai,aC.of hr6,fun rr H6 hrr k6 hy6 ahX=>⟨Z,?_⟩⟩⟩
 have acW:H5 rr=none:=by
  have e1:rr≠y:=fun e=>by rw [e,ai] at hrr;cases hrr
  have e2:rr≠dy:=fun e=>by rw [e,av hyd,ai] at hrr;cases hrr
  rw [av e1,av e2] at hrr;exact hrr
 have g6:aF H5 H6:=fun b u e=>k6 b u (by rw [av (aH e hy),av (aH e hdy)];exact e) (aH e hy)
 have wA:=nG.mono g5
 have Fb:=wA.mono g6
 have F6:=F4.trans (Fr.of_same (ρ:=ρ) (g5.trans g6))
 exact ⟨⟨n,ρ,A,st,(y,dy,rr),_,Z,Fb,hy6,ahX,wA.g.none hy,wA.g.none acW,hn,Zq nG.wf hn h6 h7 ho h4 h5,fun ρ' A' H' a1 a2 a3=>q ρ' A' H' a1 a2 (a3.fr F6 ((s4.trans g5).free hy) ((s4.trans g5).free acW))⟩⟩
abbrev vo:Stmt:=inClass (top 24) 0
abbrev w_:List Str:=["self"]
abbrev NY:List Str:=w_
theorem Mm:aJ NY w_ (ay vo):=c8
theorem Mp {T:TC} (F:Ig K mg "Hold" T.hold "Hold.__init__" vo f fd) (X:Txt K T) (Dw:Cn P w K mg base 1 "Bottom" T.bot ["self"] (Pj T)):Cn P w K mg base 3 "Hold" T.hold w_ (Pn T):=by
 refine F.oA Mm fun cdv A outer s H vs Q E hr h=>?_
 obtain ⟨⟨p,dx,ρ,n,rfl,hp,g,hρ,q⟩⟩:=h
 refine ⟨_,(@cK.h _ _ _ (aj (dP K (qv 0) q_)
  (aj (dP K (qv 0) q_)
  (aj (dP K (qv 0) (eF ao))
  (aj (dP K (qv 0) q_)
  (aj (dP K (qv 0) (UO Dw hr))
  (aj (dP K (qv 0) (eF ao))
  (au (dP K (qv 0) (eF ao)))))))))),?_⟩
 have M0:ju p H ρ H ρ [] :=⟨(fun _ m=>absurd m (by simp)),fun b o e _=>⟨e,Z⟩,g,_,hp⟩
 intro pl hpl
 have M1:=(M0.new (o:= .dK []) (c:=(n,1,⟨#[]⟩)) hpl rfl)
 refine ⟨_,Z,p,T.hold,dx,_,Z,by rw [av (aH hp hpl)];exact hp,X.cH,X.hpl,by show 0<1000;decide,?_⟩
 have M2:=M1.wr (u:= .ins T.hold dx (aV "places" (.ref pl) [])) rfl
 have hp2:upd (upd H pl (.dK [])) p (.ins T.hold dx (aV "places" (.ref pl) [])) p=_:=ai
 generalize upd (upd H pl (.dK [])) p (.ins T.hold dx (aV "places" (.ref pl) []))=H2 at *
 clear M0 M1
 intro ab hab
 have M3:=(M2.new (o:= .dK []) (c:=(n,2,⟨#[]⟩)) hab rfl)
 refine ⟨_,Z,p,T.hold,dx,_,Z,by rw [av (aH hp2 hab)];exact hp2,X.cH,X.hab,by show 1<1000;decide,?_⟩
 have M4:=M3.wr (u:= .ins T.hold dx (aV "aboard" (.ref ab) (aV "places" (.ref pl) []))) rfl
 have LG:upd (upd H2 ab (.dK [])) p (.ins T.hold dx (aV "aboard" (.ref ab) (aV "places" (.ref pl) []))) p=_:=ai
 generalize upd (upd H2 ab (.dK [])) p (.ins T.hold dx (aV "aboard" (.ref ab) (aV "places" (.ref pl) [])))=H4 at *
 clear M2 M3
 refine ⟨(i_ 0),fun as has=>?_⟩
 have M5:=(M4.new (o:= .lst []) (c:=(n,3,⟨#[]⟩)) has rfl)
 refine ⟨_,Z,p,T.hold,dx,_,Z,by rw [av (aH LG has)];exact LG,X.cH,X.has,by show 2<1000;decide,?_⟩
 have M6:=M5.wr (u:= .ins T.hold dx (aV "ashore" (.ref as) (aV "aboard" (.ref ab) (aV "places" (.ref pl) [])))) rfl
 have Fc:upd (upd H4 as (.lst [])) p (.ins T.hold dx (aV "ashore" (.ref as) (aV "aboard" (.ref ab) (aV "places" (.ref pl) [])))) p=_:=ai
 generalize upd (upd H4 as (.lst [])) p (.ins T.hold dx (aV "ashore" (.ref as) (aV "aboard" (.ref ab) (aV "places" (.ref pl) []))))=H6 at *
 clear M4 M5
 intro nm hnm
 have M7:=(M6.new (o:= .dK []) (c:=(n,4,⟨#[]⟩)) hnm rfl)
 refine ⟨_,Z,p,T.hold,dx,_,Z,by rw [av (aH Fc hnm)];exact Fc,X.cH,X.hnm,by show 3<1000;decide,?_⟩
 have M8:=M7.wr (u:= .ins T.hold dx (aV "names" (.ref nm) (aV "ashore" (.ref as) (aV "aboard" (.ref ab) (aV "places" (.ref pl) []))))) rfl
 have U0:upd (upd H6 nm (.dK [])) p (.ins T.hold dx (aV "names" (.ref nm) (aV "ashore" (.ref as) (aV "aboard" (.ref ab) (aV "places" (.ref pl) []))))) p=_:=ai
 generalize upd (upd H6 nm (.dK [])) p (.ins T.hold dx (aV "names" (.ref nm) (aV "ashore" (.ref as) (aV "aboard" (.ref ab) (aV "places" (.ref pl) [])))))=H8 at *
 clear M6 M7
 intro bt db ED hdb hne
 refine ⟨⟨bt,db,Z,ai,fun sp kn H9 pQ hkn hsk k9 hb9 hs9 hk9=>⟨Z,?_⟩⟩⟩
 have s9:aF H8 H9:=fun b o e=>k9 b o (by rw [av (aH e ED),av (aH e hdb)];exact e) (aH e ED)
 have fr:∀{c:Addr},upd (upd H8 db (.own bt)) bt (.ins T.bot db []) c=none->H8 c=none:=fun {c} e=>by
  have e1:c≠bt:=fun z=>by rw [z,ai] at e;cases e
  have e2:c≠db:=fun z=>by rw [z,av hne,ai] at e;cases e
  rw [av e1,av e2] at e;exact e
 have ac0:=fr pQ
 have ac1:=fr hkn
 have M9:=M8.same s9
 have M10:=M9.add (c:=(n,5,⟨#[]⟩)) hb9 rfl M8 ED (fun e he=>aH (M8.m e he).1 ED)
 have M11:=M10.add (c:=(n,8,⟨#[]⟩)) hs9 rfl M8 ac0 (fun e he=>by
  rcases c6.mp he with rfl|he
  . exact iX hb9 hs9 (by intro z;cases z)
  . exact aH (M8.m e he).1 ac0)
 have M12:=M11.add (c:=(n,9,⟨#[]⟩)) hk9 rfl M8 ac1 (fun e he=>by
  rcases c6.mp he with rfl|he
  . exact iX hs9 hk9 (by intro z;cases z)
  rcases c6.mp he with rfl|he
  . exact iX hb9 hk9 (by intro z;cases z)
  . exact aH (M8.m e he).1 ac1)
 have hp9:=s9 _ _ U0
 refine ⟨_,Z,p,T.hold,dx,_,Z,hp9,X.cH,X.ED,by show 4<1000;decide,?_⟩
 have M13:=M12.wr (u:= .ins T.hold dx (aV "bottom" (.ref bt) (aV "names" (.ref nm) (aV "ashore" (.ref as) (aV "aboard" (.ref ab) (aV "places" (.ref pl) [])))))) rfl
 have Ml:upd H9 p (.ins T.hold dx (aV "bottom" (.ref bt) (aV "names" (.ref nm) (aV "ashore" (.ref as) (aV "aboard" (.ref ab) (aV "places" (.ref pl) [])))))) p=_:=ai
 generalize upd H9 p (.ins T.hold dx (aV "bottom" (.ref bt) (aV "names" (.ref nm) (aV "ashore" (.ref as) (aV "aboard" (.ref ab) (aV "places" (.ref pl) []))))))=H13 at *
 clear M8 M9 M10 M11 M12
 refine ⟨(i_ 0),fun cm Cu=>?_⟩
 have M14:=(M13.new (o:= .lst []) (c:=(n,6,⟨#[]⟩)) Cu rfl)
 refine ⟨_,Z,p,T.hold,dx,_,Z,by rw [av (aH Ml Cu)];exact Ml,X.cH,X.Cu,by show 5<1000;decide,?_⟩
 have M15:=M14.wr (u:= .ins T.hold dx (aV "common" (.ref cm) (aV "bottom" (.ref bt) (aV "names" (.ref nm) (aV "ashore" (.ref as) (aV "aboard" (.ref ab) (aV "places" (.ref pl) []))))))) rfl
 have ac3:upd (upd H13 cm (.lst [])) p (.ins T.hold dx (aV "common" (.ref cm) (aV "bottom" (.ref bt) (aV "names" (.ref nm) (aV "ashore" (.ref as) (aV "aboard" (.ref ab) (aV "places" (.ref pl) []))))))) p=_:=ai
 generalize upd (upd H13 cm (.lst [])) p (.ins T.hold dx (aV "common" (.ref cm) (aV "bottom" (.ref bt) (aV "names" (.ref nm) (aV "ashore" (.ref as) (aV "aboard" (.ref ab) (aV "places" (.ref pl) [])))))))=H15 at *
 clear M13 M14
 refine ⟨(i_ 0),fun pu K5=>?_⟩
 have M16:=(M15.new (o:= .lst []) (c:=(n,7,⟨#[]⟩)) K5 rfl)
 refine ⟨_,Z,p,T.hold,dx,_,Z,by rw [av (aH ac3 K5)];exact ac3,X.cH,X.K5,by show 6<1000;decide,?_⟩
 have M17:=M16.wr (u:= .ins T.hold dx (aV "purses" (.ref pu) (aV "common" (.ref cm) (aV "bottom" (.ref bt) (aV "names" (.ref nm) (aV "ashore" (.ref as) (aV "aboard" (.ref ab) (aV "places" (.ref pl) [])))))))) rfl
 have ac5:upd (upd H15 pu (.lst [])) p (.ins T.hold dx (aV "purses" (.ref pu) (aV "common" (.ref cm) (aV "bottom" (.ref bt) (aV "names" (.ref nm) (aV "ashore" (.ref as) (aV "aboard" (.ref ab) (aV "places" (.ref pl) [])))))))) p=_:=ai
 generalize upd (upd H15 pu (.lst [])) p (.ins T.hold dx (aV "purses" (.ref pu) (aV "common" (.ref cm) (aV "bottom" (.ref bt) (aV "names" (.ref nm) (aV "ashore" (.ref as) (aV "aboard" (.ref ab) (aV "places" (.ref pl) []))))))))=H17 at *
 clear M15 M16
 have m:=M17.m
 have AS:∀{a:Addr} {o:HO} {c:pX} {ρ2:fJ},(H17 a=some o/\ρ2 a=some c/\a≠p)->H17 a=some o/\cE ρ2 p (n,0,⟨#[]⟩) a=some c:=fun h=>⟨h.1,by rw [cu h.2.2];exact h.2.1⟩
 have a1:=AS (m _ (.head _))
 have a2:=AS (m _ (.tail _ (.head _)))
 have a3:=AS (m _ (.tail _ (.tail _ (.head _))))
 have a4:=AS (m _ (.tail _ (.tail _ (.tail _ (.head _)))))
 have a5:=AS (m _ (.tail _ (.tail _ (.tail _ (.tail _ (.head _))))))
 have a6:=AS (m _ (.tail _ (.tail _ (.tail _ (.tail _ (.tail _ (.head _)))))))
 have a7:=AS (m _ (.tail _ (.tail _ (.tail _ (.tail _ (.tail _ (.tail _ (.head _))))))))
 have a8:=AS (m _ (.tail _ (.tail _ (.tail _ (.tail _ (.tail _ (.tail _ (.tail _ (.head _)))))))))
 have a9:=AS (m _ (.tail _ (.tail _ (.tail _ (.tail _ (.tail _ (.tail _ (.tail _ (.tail _ (.head _))))))))))
 refine q (cE _ p (n,0,⟨#[]⟩)) ⟨p,dx,pl,ab,as,nm,bt,db,cm,pu,sp,kn,[]⟩ H17 rfl ⟨M17.g.color ac5 rfl,⟨ac5,dH,a9.1,a9.2,a8.1,a8.2,⟨[],a7.1, .nil⟩,a7.2,a6.1,a6.2,a5.1,a5.2,a2.1,a2.2,a1.1,a1.2,a4.1,a4.2,⟨[],a3.1,(fun x hx=>absurd hx (by simp)),aP _,vV⟩,a3.2,Z,fun i x y ex=>by simp [hs0] at ex⟩,wf0⟩ (fun b o e hb=>?_)
 obtain ⟨x,y⟩:=M17.k b o e hb
 exact ⟨x,by rw [cu hb];exact y⟩
abbrev oK:Stmt:=inClass (top 24) 27
abbrev lK:List Str:=["self","amounts"]
abbrev Fd:List Str:=lK.append ["lost","sums","name","amount","part","many"]
theorem fh:aJ Fd lK (ay oK):=c8
theorem Dy {T:TC} (F:i8 K T.hold "given_up" "Hold.given_up" oK f fd) (X:Txt K T) (fT:mg "sum"=none) (jX:mg "zip"=none):Mn P w K mg base 1 T.hold "given_up" lK (Pz T):=by
 refine F.oA fh fun cdv A outer s H vs Q E hr h=>?_
 obtain ⟨⟨n,ρ,A,st,d,rs,rfl,h,wf,hd,cd,hle,Dz,q⟩⟩:=h
 refine ⟨_,(@cK.h _ _ _ (aj (aN (i:=2) fh.nd (aG (Ie rfl) (by rfl) fT yg (af (GK (qv 1)) ao)))
  (aj (uz (i:=3) ["common","lost"] [none,some 2] fh.nd rfl rfl rfl (dJ K (a_ K (qv 0))) (fun _ _ _ _=>(aQ (i:=0) (show List.Nodup (["common","lost"] :List Str) from by decide +kernel))) (fun _ _ _ _=>(aD j7 (qv 1) (qv 0))) rfl (by rfl) (by rfl))
  (aj (xY (dR eE rfl (Dl (qv 1)) (jf K (n:=2) rfl (cV (aQ (i:=4) fh.nd) (cV (aQ (i:=5) fh.nd) je))) (aj (aN (i:=6) fh.nd (bP (bY hr) (a_ K (qv 0)) (qv 4)))
  (aj (aN (i:=7) fh.nd (aD j7 (qv 5) (a_ K (qv 6))))
  (au (uz (i:=3) ["old","own","many"] [none,none,some 7] fh.nd rfl rfl rfl (uy K (by rfl) jX (af (qv 3) (af (a_ K (qv 6)) ao))) (fun _ _ _ _=>(jf K (n:=2) rfl (cV (aQ (i:=0) (show List.Nodup (["old","own","many"] :List Str) from by decide +kernel)) (cV (aQ (i:=1) (show List.Nodup (["old","own","many"] :List Str) from by decide +kernel)) je)))) (fun _ _ _ _=>(aD cg (qv 0) (aD j7 (qv 2) (qv 1)))) rfl (by rfl) (by rfl)))))))
  (au (aS (qv 3))))))),?_⟩
 have hcl:st.bM.length<=100:=by rw [wf.g_];exact wf.qU
 have zl:Jm.Sz 1100 (bu rs):=by
  have:=Jm.Ti (n:=60) (ws:=rs.map (·.2)) (fun m hm=>by obtain ⟨r,hr,rfl⟩:=bQ.mp hm;exact (Dz r hr).1)
  exact this.mono (by rw [aE];omega)
 have zc:∀c∈st.bM,Jm.Sz 8000 c:=fun c hc=>Jm.Sz.pS (by have:=wf.qV c hc;have:=wf.iD;omega) (wf.qV c hc).2 wf.big
 refine ⟨_,Z,d,_,Z, .inl hd,fun v hv=>⟨v,d,_,rs.map (·.2),Z,ai, .inl (by rw [av (aH hd hv)];exact hd),by unfold h_;rw [fH,fH];rfl,?_⟩⟩
 have g1:=aB hv (lG v d)
 have hd1:=g1 _ _ hd
 have h1:=h.mono g1
 generalize upd H v (lG v d)=H1 at *
 refine ⟨_,Z,A.a,T.hold,A.dx,_,_,Z,h1.oa,X.cH,X.Cu,Z,A.cm,Z,⟨_,aC.of h1.jQ⟩,fun l0 jD=>?_⟩
 refine iP (J:=uG K A.cm) (n:=(st.bM.map V.int).length) 0 (fun i o H'=>aF H1 H'/\o=((st.bM.take i).map fun c=>bu rs*c).map V.int) (by rw [aE];omega) ⟨aB jD _,Z⟩ (fun i o H' hi _ hp=>⟨_,_,aC.of (hp.1 _ _ h1.jQ),aW hi⟩) (fun o H' _ hp=>⟨_,aC.of (hp.1 _ _ h1.jQ),aP _⟩) ?_ ?_
 . rintro i y o H2 H3 hi eV ha ⟨g,e⟩ ⟨rfl,hy⟩
   obtain ⟨c,rfl,ec⟩:=gP (hy _ (aC.of (g _ _ h1.jQ)))
   refine ⟨_,Z,_,Z,_,_,Z,Z,jb zl (zc c (bJ ec)),ha,g.cD jD _,?_⟩
   subst e
   rw [take_snoc ec,bN,bN]
   rfl
 rintro o H2 eV ha ⟨g2,e⟩
 rw [aE,cC] at e
 subst e
 have U1:=g1.trans g2
 have hd2:=g2 _ _ hd1
 have h2:=h1.mono g2
 have hn0:H l0=none:=g1.free jD
 refine ⟨d,_,hd2,fun ob=>⟨_,Z,d,ob,_,Z,ai,?_⟩⟩
 have al:=yJ rs
 refine uN (n:=(h_ rs).length) (fun i σ H'=>aF (upd H2 d (.fm ob (.dK (h_ rs)))) H'/\∃l s4 s5 s6 s7,σ=[some (.ref A.a),some (.ref d),some (.int (bu rs)),some (.ref l),s4,s5,s6,s7]/\H l=none/\H' l=some (.lst (((rs.take i).foldl (jL st) (st.bM.map fun c=>bu rs*c)).map V.int))/\((rs.take i).foldl (jL st) (st.bM.map fun c=>bu rs*c)).length=st.bM.length)
  ⟨aF.refl _,l0,_,_,_,_,Z,hn0,e_ hd2 ha (fun k z=>by cases z),by rw [List.take_zero,List.foldl_nil,aE]⟩ (fun i σ H' hi hp=>⟨hp.1 _ _ ai,hi⟩) (fun σ H' hp=>⟨hp.1 _ _ ai,aP _⟩) ?_ ?_
 . rintro i x σ H3 H4 hi ⟨g,l,s4,s5,s6,s7,rfl,Ep,hl,hsl⟩ ⟨pp,kv,hpp,hkv,rfl,rfl⟩
   unfold h_ at hkv
   rw [bF] at hkv
   obtain ⟨r,er,rfl⟩:=lR.mp hkv
   have hrm:=bJ er
   obtain ⟨zr,p,iE,Fe⟩:=Dz r hrm
   obtain ⟨ip,zK,U3⟩:=pD iE
   have ep:st.ah[ip]?=some p:=by rw [aW zK,U3]
   have epg:c9 st r.1=p:=by rw [<-Fe];exact Py wf.j9 ep
   have g4:=aB hpp (.tup [.str r.1, .int r.2])
   have gg:=g.trans g4
   have h2z:∀{b:Addr} {u:HO},H2 b=some u->(∀k,u ≠ .dK k)->upd H3 pp (.tup [.str r.1, .int r.2]) b=some u:=fun e k=>gg _ _ (e_ hd2 e k)
   have nab:A.ab≠d:=(Ct cd h.gC).symm
   obtain ⟨qq,eq,k1,k2,_,_⟩:=h2.find ep
   have hab:upd H3 pp (.tup [.str r.1, .int r.2]) A.ab=some (.dK (cO st.ah A.qs)):=gg _ _ (by rw [av nab];exact h2.d9)
   have hv:=xT wf.j9 ep eq
   have hq1:=h2z k1 (fun k z=>by cases z)
   have hq2:=h2z k2 (fun k z=>by cases z)
   have Mq:upd H3 pp (.tup [.str r.1, .int r.2]) pp=some (.tup [.str r.1, .int r.2]):=ai
   have IL:=g4 _ _ hl
   have hno:∀{b:Addr},upd H3 pp (.tup [.str r.1, .int r.2]) b=none->H b=none:=fun {b} e=>by
    have e1:=ou hd2 (gg.free e)
    exact U1.free e1
   have U4:upd H3 pp (.tup [.str r.1, .int r.2]) A.a=some (.ins T.hold A.dx (m7 A)):=h2z h2.oa (fun k z=>by cases z)
   show CT K 2 _ _ _ (upd H3 pp (.tup [.str r.1, .int r.2])) _
   generalize upd H3 pp (.tup [.str r.1, .int r.2])=H4 at *
   refine ⟨pp,_,Z,cS.of Mq,Z,_,_,Z,_,_,Z,Z,?_⟩
   refine ⟨_,Z,A.a,T.hold,A.dx,_,_,Z,U4,X.cH,X.hab,Z,_,Z,A.ab,_,Z,by rw [<-Fe];exact hv▸cN.k (k:=Sum.inr p.nm) hab,?_⟩
   have zs:Jm.Sz 8000 p.sc:=Jm.Sz.pS (by have:=wf.xP p iE;have:=wf.iD;omega) (wf.xP p iE).2 wf.big
   refine ⟨_,Z,_,Z,qq.1,T.part,qq.2.1,_,_,Z,hq1,X.cP,X.Pg,Z,_,_,Z,Z,jb zr zs,?_⟩
   have erl:p.row.length=st.bM.length:=by rw [wf.rows p iE,wf.g_]
   generalize eS:(rs.take i).foldl (jL st) (st.bM.map fun c=>bu rs*c)=S at *
   refine ⟨_,Z,_,Z,qq.1,T.part,qq.2.1,_,_,Z,hq1,X.cP,X.TU,Z,_,_,_,_,_,_,Z, .lst (aC.of IL), .lst (aC.of hq2),fun acc hacc=>?_⟩
   refine Ak (K:=K) (n:=S.length) [0,1] (fun j out H5=>aF H4 H5/\out=(List.zipWith (fun old own=>old+(r.2*p.sc)*own) (S.take j) (p.row.take j)).map V.int) (by decide) (by omega) ⟨aB hacc _,Z⟩ (fun j out H5 hj _ hp=>⟨aC.of (hp.1 _ _ IL),aC.of (hp.1 _ _ hq2),by rw [aE];exact hj,by rw [aE];omega⟩)
    (fun out H5 _ hp=>⟨aC.of (hp.1 _ _ IL),aC.of (hp.1 _ _ hq2), .inl (by rw [aE];exact aP _)⟩) ?_ ?_
   . rintro j x out H5 H6 hj GZ ha2 ⟨g5,e5⟩ ⟨p2,x1,y1,hp2,rfl,rfl,e1,e2⟩
     obtain ⟨t,rfl,et⟩:=gP e1
     obtain ⟨c,rfl,ec⟩:=gP e2
     have g6:=aB hp2 (.tup [.int t, .int c])
     have zw:Jm.Sz 8000 c:=Jm.Sz.pS (wf.uQ p iE c (bJ ec)).1 (wf.uQ p iE c (bJ ec)).2 wf.big
     refine ⟨p2,_,Z,cS.of ai,Z,_,Z,_,Z,_,Z,_,_,Z,Z,jb (zr.mul zs) zw,_,_,Z,Z,g6 _ _ ha2,(g5.trans g6).cD hacc _,?_⟩
     rw [o6 _ et ec,e5,bN]
     rfl
   rintro out H5 GZ ha2 ⟨g5,e5⟩
   rw [cC,hsl,<-erl,cC] at e5
   have eN:(rs.take (i+1)).foldl (jL st) (st.bM.map fun c=>bu rs*c)=List.zipWith (fun old own=>old+(r.2*p.sc)*own) S p.row:=by
    rw [take_snoc er,Kh,eS]
    show jL st S r=_
    unfold jL
    rw [epg]
   refine ⟨gg.trans g5,acc,_,_,_,_,Z,hno hacc,?_,?_⟩
   . rw [eN,ha2,e5]
   . rw [eN,nZ];omega
 rintro σ H3 ⟨g,l,s4,s5,s6,s7,rfl,Ep,hl,hsl⟩
 rw [al,cC] at hl
 refine ⟨g _ _ ai,_,Z,?_⟩
 have nl:l≠d:=fun e=>by rw [e,hd] at Ep;cases Ep
 exact q l _ (U1.trans (uS hd2 g)) Ep (by rw [av nl];exact hl)
abbrev rE:Stmt:=inClass (top 24) 23
abbrev nT:List Str:=["self","name","amount"]
abbrev Jf:List Str:=nT.append ["part"]
theorem x9:aJ Jf nT (ay rE):=c8
theorem G0 {T:TC} (F:i8 K T.hold "lessen" "Hold.lessen" rE f fd) (X:Txt K T):Mn P w K mg base 1 T.hold "lessen" nT (Uc T):=by
 refine F.oA x9 fun cdv A outer s H vs Q E hr h=>?_
 obtain ⟨⟨n,ρ,A,st,r,rfl,hh,⟨p,iE,Fe,hle⟩,wf',q⟩⟩:=h
 have h:=hh.h
 have nd:=hh.wf.j9
 refine ⟨_,(@cK.h _ _ _ (aj (aN (i:=3) x9.nd (bP (bY hr) (a_ K (qv 0)) (qv 1)))
  (aj (EW K (qv 3) (qv 2) aaU)
  (au (ie (aZ ir (a_ K (qv 3)) ak (br _)) (au (ZV (a_ K (qv 0)) (qv 1))) aX))))),?_⟩
 obtain ⟨ip,zK,U3⟩:=pD iE
 have ep:st.ah[ip]?=some p:=by rw [aW zK,U3]
 obtain ⟨qq,eq,k1,k2,k3,k4⟩:=h.find ep
 have hv:=xT nd ep eq
 refine ⟨_,Z,A.a,T.hold,A.dx,_,_,Z,h.oa,X.cH,X.hab,Z,_,Z,A.ab,_,Z,by rw [<-Fe];exact hv▸cN.k (k:=Sum.inr p.nm) h.d9,?_⟩
 refine ⟨_,Z,qq.1,T.part,qq.2.1,_,_,Z,k1,X.cP,X.Pf,Z,_,Z,_,_,Z,Z,qq.2.1,_,k1,by show 6<1000;decide,?_⟩
 have h1:=h.sS (p1:={ p with wo:=p.wo-r.2 }) hh.g ep eq rfl rfl nd
 have g1:=hh.g.wr (a:=qq.1) (o:= .ins T.part qq.2.1 (eU { p with wo:=p.wo-r.2 } qq.2.2)) rfl
 have F1:Fr n ρ H ρ (upd H qq.1 (.ins T.part qq.2.1 (eU { p with wo:=p.wo-r.2 } qq.2.2))):=Fr.write k3
 show abo _ _ _ _ _ (upd H qq.1 (.ins T.part qq.2.1 (eU { p with wo:=p.wo-r.2 } qq.2.2)))
 have Qe:upd H qq.1 (.ins T.part qq.2.1 (eU { p with wo:=p.wo-r.2 } qq.2.2)) qq.1=some (.ins T.part qq.2.1 (eU { p with wo:=p.wo-r.2 } qq.2.2)):=ai
 generalize upd H qq.1 (.ins T.part qq.2.1 (eU { p with wo:=p.wo-r.2 } qq.2.2))=H1 at *
 have el:gc st r={ st with ah:=if p.wo-r.2=0 then st.ah.eraseIdx ip else st.ah.set ip { p with wo:=p.wo-r.2 } }:=by
  unfold gc
  rw [<-Fe,Lj nd (fun x hx=>by have:=hh.wf.xQ x hx;omega) ep]
 rw [el] at wf' q
 refine ⟨fun σ' H'=>Q .b_ H',?_,fun _ _ z=>z⟩
 refine ⟨_,Z,qq.1,T.part,qq.2.1,_,_,Z,Qe,X.cP,X.Pf,Z,Z,_,Z,dW (fun c=>?_) (fun c=>?_)⟩
 . have c':p.wo-r.2=0:=V.int.inj (eO c)
   rw [aA c'] at wf' q
   have U5:((st.ah.set ip { p with wo:=p.wo-r.2 }).map (fun x:Pt=>x.nm)).Nodup:=by
    rw [lD,show ({ p with wo:=p.wo-r.2 }:Pt).nm=p.nm from rfl,lW (by rw [bF,ep];rfl)]
    exact nd
   have ep1:(st.ah.set ip { p with wo:=p.wo-r.2 })[ip]?=some { p with wo:=p.wo-r.2 }:=j5 zK
   have dk:=Li U5 h1.ql ep1
   rw [List.eraseIdx_set_eq] at dk
   have hv1:=xT U5 ep1 eq
   refine ⟨_,Z,A.a,T.hold,A.dx,_,_,Z,h1.oa,X.cH,X.hab,Z,_,Z,A.ab,_,Sum.inr r.1,Z,h1.d9,Z,?_,?_⟩
   . rw [<-Fe]
     show (ee (cO (st.ah.set ip { p with wo:=p.wo-r.2 }) A.qs) (Sum.inr p.nm)).isSome=true
     rw [show ee (cO (st.ah.set ip { p with wo:=p.wo-r.2 }) A.qs) (Sum.inr p.nm)=_ from hv1]
     rfl
   . show Q .b_ (upd H1 A.ab (.dK (nM (cO (st.ah.set ip { p with wo:=p.wo-r.2 }) A.qs) (Sum.inr r.1))))
     rw [<-Fe,show nM (cO (st.ah.set ip { p with wo:=p.wo-r.2 }) A.qs) (Sum.inr p.nm)=_ from dk]
     have hi2:ip<A.qs.length:=by rw [h.ql];exact zK
     have h2:=h1.TR g1 (st.ah.eraseIdx ip) (A.qs.eraseIdx ip) (by rw [List.length_eraseIdx_of_lt zK,List.length_eraseIdx_of_lt hi2,h.ql]) (fun j x y ex ey=>by
      rw [<-List.eraseIdx_set_eq (l:=st.ah) (i:=ip) (a:={ p with wo:=p.wo-r.2 })] at ex
      obtain ⟨k,a1,a2⟩:=Lk ex ey
      exact h1.opt k x y a1 a2)
     exact q ρ _ _ ⟨g1.wr rfl,h2,wf'⟩ rfl (F1.trans (Fr.write h1.gC))
 . have c':¬ p.wo-r.2=0:=fun e=>c (cy (by rw [e]))
   rw [az c'] at wf' q
   exact q ρ A H1 ⟨g1,h1,wf'⟩ rfl F1
abbrev tN:Stmt:=inClass (top 24) 28
abbrev qp:List Str:=["self","kept","whole","added"]
abbrev Mr:List Str:=qp.append ["scales","common","shared","part","scale"]
theorem jg:aJ Mr qp (ay tN):=c8
theorem Jg {T:TC} (F:i8 K T.hold "blend" "Hold.blend" tN f fd) (X:Txt K T) (qt:Dn P w K mg base 2 "factor_of_all" lI (Ua K)) (tO:Mn P w K mg base 1 T.bot "grow" nR (Ub T)) (jX:mg "zip"=none):Mn P w K mg base 3 T.hold "blend" qp (PD T K):=by
 refine F.oA jg fun cdv A outer s H vs Q E hr h=>?_
 obtain ⟨⟨n,ρ,A,st,kept,whole,la,added,rfl,hh,hla,hal,k0,w0,kz,wz,haz,hpz,hsl,wf',q⟩⟩:=h
 refine ⟨_,(@cK.h _ _ _ (aj (xY (uz (i:=4) ["part","kept"] [none,some 1] jg.nd rfl rfl rfl (BV (a_ K (qv 0))) (fun _ _ _ _=>(aQ (i:=0) (show List.Nodup (["part","kept"] :List Str) from by decide +kernel))) (fun _ _ _ _=>(aD j7 (a_ K (qv 0)) (qv 1))) rfl (by rfl) (by rfl)))
  (aj (uz (i:=5) ["top","more","kept"] [none,none,some 1] jg.nd rfl rfl rfl (uy K (by rfl) jX (af (a_ K (qv 0)) (af (qv 3) ao))) (fun _ _ _ _=>(jf K (n:=2) rfl (cV (aQ (i:=0) (show List.Nodup (["top","more","kept"] :List Str) from by decide +kernel)) (cV (aQ (i:=1) (show List.Nodup (["top","more","kept"] :List Str) from by decide +kernel)) je)))) (fun _ _ _ _=>(aD cg (aD j7 (qv 0) (qv 2)) (qv 1))) rfl (by rfl) (by rfl))
  (aj (aN (i:=6) jg.nd (aY qt hr (af (qv 2) (af (aD nt (qv 4) (qv 5)) ao))))
  (aj (xY (dR eE rfl (uy K (by rfl) jX (af (GK (a_ K (qv 0))) (af (qv 4) ao))) (jf K (n:=2) rfl (cV (aQ (i:=7) jg.nd) (cV (aQ (i:=8) jg.nd) je))) (au (dP K (qv 7) (aD gO (qv 8) (qv 6))))))
  (aj (dP K (qv 0) (gw ["top","shared"] [none,some 6] rfl (dJ K (qv 5)) (fun _ _ _ _=>(aQ (i:=0) (show List.Nodup (["top","shared"] :List Str) from by decide +kernel))) (fun _ _ _ _=>(aD gO (qv 0) (qv 1))) rfl (by rfl)))
  (aj (dP K (qv 0) (gw ["purse","whole","shared"] [none,some 2,some 6] rfl (dJ K (a_ K (qv 0))) (fun _ _ _ _=>(aQ (i:=0) (show List.Nodup (["purse","whole","shared"] :List Str) from by decide +kernel))) (fun _ _ _ _=>(aD j7 (qv 0) (aD gO (qv 1) (qv 2)))) rfl (by rfl)))
  (au (dm (gm tO hr (a_ K (qv 0)) (af (aD gO (qv 2) (qv 6)) ao))))))))))),?_⟩
 have hpl:=hh.wf.wV
 have nd:=hh.wf.j9
 have hcl:st.bM.length<=100:=by rw [hh.wf.g_];exact hh.wf.qU
 have zsc:∀p∈st.ah,Jm.Sz 8000 p.sc:=fun p hp=>Jm.Sz.pS (by have:=hh.wf.xP p hp;have:=hh.wf.iD;omega) (hh.wf.xP p hp).2 hh.wf.big
 have zcm:∀c∈st.bM,Jm.Sz 8000 c:=fun c hc=>Jm.Sz.pS (by have:=hh.wf.qV c hc;have:=hh.wf.iD;omega) (hh.wf.qV c hc).2 hh.wf.big
 have h:=hh.h
 refine ⟨A.ab,_,h.d9,fun ob=>?_⟩
 refine ⟨_,Z,A.a,T.hold,A.dx,_,_,Z,e_ h.d9 h.oa (fun k z=>by cases z),X.cH,X.hab,Z,A.ab,ob,_,Z,ai,fun l1 hl1=>?_⟩
 have el:=xS h.ql
 refine iP (n:=st.ah.length) 0 (fun i out H1=>aF (upd H A.ab (.fm ob (.dK (cO st.ah A.qs)))) H1/\out=((st.ah.take i).map fun p:Pt=>p.sc*kept).map V.int) (by omega) ⟨aB hl1 _,Z⟩ (fun i out H1 hi _ hp=>⟨hp.1 _ _ ai,by rw [el];exact hi⟩) (fun out H1 _ hp=>⟨hp.1 _ _ ai,by rw [el];exact aP _⟩) ?_ ?_
 . rintro i x out H1 H2 hi eV ha ⟨g,e⟩ ⟨rfl,kv,hkv,rfl⟩
   have ep:=aW hi
   obtain ⟨qq,eq,k1,k2,_⟩:=h.find ep
   rw [xR ep eq] at hkv
   cases hkv
   have hq:=g _ _ (e_ h.d9 k1 (fun k z=>by cases z))
   refine ⟨_,Z,qq.1,T.part,qq.2.1,_,_,Z,hq,X.cP,X.Pg,Z,_,Z,_,_,Z,Z,jb (zsc _ (rN hi)) kz,ha,g.cD hl1 _,?_⟩
   subst e
   rw [take_snoc ep,bN,bN]
   rfl
 rintro o1 H1 ak4 ha1 ⟨g1,e1⟩
 rw [cC] at e1
 have hz1:=g1 _ _ (ai (H:=H) (a:=A.ab) (o:= .fm ob (.dK (cO st.ah A.qs))))
 have na1:l1≠A.ab:=fun e=>by rw [e,hz1] at ha1;cases ha1
 refine ⟨hz1,?_⟩
 have s2:aF H (upd H1 A.ab (.dK (cO st.ah A.qs))):=uS h.d9 g1
 have ak5:H l1=none:=ou h.d9 hl1
 have ha2:upd H1 A.ab (.dK (cO st.ah A.qs)) l1=some (.lst ((iH st kept).map V.int)):=by rw [av na1,ha1,e1];rfl
 generalize upd H1 A.ab (.dK (cO st.ah A.qs))=H2 at *
 clear g1 hz1 ha1 e1
 have h2:=h.mono s2
 have RV:=s2.seq hla
 refine ⟨_,Z,A.a,T.hold,A.dx,_,_,Z,h2.oa,X.cH,X.Cu,Z,_,Z,_,_,_,_,_,_,Z, .lst (aC.of h2.jQ), .lst RV,fun l2 hl2=>?_⟩
 refine Ak (K:=K) (n:=st.bM.length) [0,1] (fun i out H3=>aF H2 H3/\out=(List.zipWith (fun t m=>t*kept+m) (st.bM.take i) (added.take i)).map V.int) (by decide) (by omega) ⟨aB hl2 _,Z⟩ (fun i out H3 hi _ hp=>⟨aC.of (hp.1 _ _ h2.jQ),hp.1.seq RV,by rw [aE];exact hi,by rw [aE];omega⟩)
  (fun out H3 _ hp=>⟨aC.of (hp.1 _ _ h2.jQ),hp.1.seq RV, .inl (by rw [aE];exact aP _)⟩) ?_ ?_
 . rintro i x out H3 H4 hi eV ha ⟨g,e⟩ ⟨p,x1,y1,hp,rfl,rfl,e1,e2⟩
   obtain ⟨t,rfl,et⟩:=gP e1
   obtain ⟨c,rfl,ec⟩:=gP e2
   have g1:=aB hp (.tup [.int t, .int c])
   refine ⟨p,_,Z,cS.of ai,Z,_,Z,_,Z,_,_,Z,Z,jb (zcm t (bJ et)) kz,_,Z,_,_,Z,Z,g1 _ _ ha,(g.trans g1).cD hl2 _,?_⟩
   rw [o6 _ et ec,e,bN]
   rfl
 rintro o2 H3 GZ U6 ⟨g3,e3⟩
 rw [cC,<-hal,cC] at e3
 have ec3:o2=(fV st kept added).map V.int:=e3
 subst ec3
 have s3:=s2.trans g3
 have h3:=h.mono s3
 have Xk:=g3 _ _ ha2
 have ak6:H l2=none:=s2.free hl2
 have n12:l1≠l2:=fun e=>by rw [e,hl2] at ha2;cases ha2
 clear e3 h2 RV g3 ha2 s2
 have lsc:(iH st kept).length=st.ah.length:=by unfold iH;rw [aE]
 have lcm:(fV st kept added).length=st.bM.length:=by unfold fV;rw [nZ,hal,Bs]
 refine ⟨_,Z,_,Z,_,Z,l1,l2,_,_,Z,Z,Xk,U6,by rw [aE,aE,lsc,lcm];exact fu (Nat.add_le_add hpl hcl) (by rw [fB];decide),fun p3 hp3=>?_⟩
 rw [<-bN]
 have g4:=aB hp3 (.lst ((iH st kept++fV st kept added).map V.int))
 refine ⟨⟨whole,p3,_,Z,aC.of ai,by omega,?_,?_⟩⟩
 . intro t ht
   rcases fZ.mp ht with z|z
   . unfold iH at z
     obtain ⟨p,hp,rfl⟩:=bQ.mp z
     exact nK (by have:=hh.wf.xP p hp;omega) (by omega)
   . obtain ⟨c,hc,m,hm,rfl⟩:=uT (show t∈List.zipWith _ st.bM added from z)
     have a1:=nK (hh.wf.qV c hc).1 (by omega:0<=kept)
     have a2:=(haz m hm).1
     omega
 have s4:=s3.trans g4
 have h4:=h.mono s4
 have G4:=hh.g.same s4
 have F4:Fr n ρ H ρ (upd H3 p3 (.lst ((iH st kept++fV st kept added).map V.int))):=Fr.of_same s4
 have b1:=g4 _ _ Xk
 have b2:=g4 _ _ U6
 generalize upd H3 p3 (.lst ((iH st kept++fV st kept added).map V.int))=H4 at *
 clear Xk U6 s3 h3 g4
 obtain ⟨sd,Yj⟩:∃sd,sd=c5 st kept whole added:=⟨_,rfl⟩
 rw [show qa whole (iH st kept++fV st kept added)=sd from Yj.symm]
 have sp:0<sd:=by rw [Yj];exact Ay _ _ w0
 have Uz:sd∣whole:=by rw [Yj];exact (Ax _ _).1
 have sz:Jm.Sz 60 sd:=wz.dvd w0 (by omega) Uz
 have wq:0<whole / sd:=Int.ediv_pos_of_pos_of_dvd w0 (by omega) Uz
 have wqz:Jm.Sz 60 (whole / sd):=wz.ediv sp
 have Yk:∀{i:Int},BF i sd:=fun {i}=>uK sp (sz.mono (by decide))
 refine ⟨A.ab,_,h4.d9,fun U7=>?_⟩
 refine ⟨_,Z,A.a,T.hold,A.dx,_,_,Z,e_ h4.d9 h4.oa (fun k z=>by cases z),X.cH,X.hab,Z,A.ab,_,Z, .inr ⟨U7,ai⟩,fun v hv=>?_⟩
 have nva:v≠A.ab:=fun e=>by rw [e,ai] at hv;cases hv
 have hv4:H4 v=none:=ou h4.d9 hv
 have g5:=aB hv4 (lG v A.ab)
 have hv5:upd H4 v (lG v A.ab) v=some (lG v A.ab):=ai
 rw [kI (bU nva)]
 have h5:=h4.mono g5
 have G5:=G4.same g5
 have F5:=F4.trans (Fr.of_same (ρ:=ρ) g5)
 have s5:=s4.trans g5
 have c1:=g5 _ _ b1
 have c2:=g5 _ _ b2
 generalize upd H4 v (lG v A.ab)=H5 at *
 clear h4 G4 F4 s4 b1 b2 g5
 refine ⟨_,Z,_,_,_,_,_,_,Z, .vals (e_ h5.d9 hv5 (fun k z=>by cases z)) ai, .lst (aC.of (e_ h5.d9 c1 (fun k z=>by cases z))),?_⟩
 have exl:((cO st.ah A.qs).map fun p=>p.2).length=st.ah.length:=by rw [aE];exact el
 have eyl:((iH st kept).map V.int).length=st.ah.length:=by rw [aE];exact lsc
 refine uN (n:=st.ah.length) (fun i σ H'=>(∃s7 s8,σ=[some (.ref A.a),some (.int kept),some (.int whole),some (.ref la),some (.ref l1),some (.ref l2),some (.int sd),s7,s8])/\∃H6,H'=upd H6 A.ab (.fm U7 (.dK (cO st.ah A.qs)))/\Gh ρ H6/\Fr n ρ H ρ H6/\aR T n ρ A H6 { st with ah:=(st.ah.take i).map (fun p=>{ p with sc:=p.sc*kept / sd })++st.ah.drop i }/\H6 l1=some (.lst ((iH st kept).map V.int))/\H6 l2=some (.lst ((fV st kept added).map V.int))/\(∀b,H6 b=none->H b=none))
  ⟨⟨_,_,Z⟩,H5,Z,G5,F5,h5,c1,c2,fun b e=>s5.free e⟩ ?_ ?_ ?_ ?_
 . rintro i σ H' hi ⟨_,H6,rfl,G6,F6,h6,d1,d2,fr⟩
   have e6:cO ({ st with ah:=(st.ah.take i).map (fun p:Pt=>{ p with sc:=p.sc*kept / sd })++st.ah.drop i }:HS).ah A.qs=cO st.ah A.qs:=o7 (qW (fun p:Pt=>{ p with sc:=p.sc*kept / sd }) (fun p:Pt=>p.nm) (fun _=>rfl) st.ah i)
   have rF:=h6.d9
   rw [e6] at rF
   exact ⟨ai,aC.of (e_ rF d1 (fun k z=>by cases z)),by rw [exl];exact hi,by rw [eyl];exact hi⟩
 . rintro σ H' ⟨_,H6,rfl,G6,F6,h6,d1,d2,fr⟩
   have e6:cO ({ st with ah:=(st.ah.take st.ah.length).map (fun p:Pt=>{ p with sc:=p.sc*kept / sd })++st.ah.drop st.ah.length }:HS).ah A.qs=cO st.ah A.qs:=o7 (qW (fun p:Pt=>{ p with sc:=p.sc*kept / sd }) (fun p:Pt=>p.nm) (fun _=>rfl) st.ah _)
   have rF:=h6.d9
   rw [e6] at rF
   exact ⟨ai,aC.of (e_ rF d1 (fun k z=>by cases z)), .inl (by rw [exl];exact aP _)⟩
 . rintro i x σ H' EF hi ⟨⟨s7,s8,rfl⟩,H6,rfl,G6,F6,h6,d1,d2,fr⟩ ⟨pp,x1,y1,hpp,rfl,rfl,ex,ey⟩
   have ep:=aW hi
   have ep6:=Lc (fun p:Pt=>{ p with sc:=p.sc*kept / sd }) ep
   obtain ⟨qq,eq,k1,k2,k3,k4⟩:=h6.find ep6
   have nm6:=qW (fun p:Pt=>{ p with sc:=p.sc*kept / sd }) (fun p:Pt=>p.nm) (fun _=>rfl) st.ah i
   have e6:cO ({ st with ah:=(st.ah.take i).map (fun p:Pt=>{ p with sc:=p.sc*kept / sd })++st.ah.drop i }:HS).ah A.qs=cO st.ah A.qs:=o7 nm6
   have rF:=h6.d9
   rw [e6] at rF
   rw [bF,xR ep eq] at ex
   cases ex
   obtain ⟨sc,rfl,esc⟩:=gP ey
   have ahY:sc=(st.ah[i]).sc*kept:=by
    unfold iH at esc
    rw [bF,ep] at esc
    exact (fY esc).symm
   subst ahY
   have npa:pp≠A.ab:=fun e=>by rw [e,ai] at hpp;cases hpp
   have ahZ:H6 pp=none:=ou rF hpp
   have g7:=aB ahZ (.tup [.ref qq.1, .int ((st.ah[i]).sc*kept)])
   rw [kI (bU npa)]
   have Mq:upd H6 pp (.tup [.ref qq.1, .int ((st.ah[i]).sc*kept)]) pp=some (.tup [.ref qq.1, .int ((st.ah[i]).sc*kept)]):=ai
   have h7:=h6.mono g7
   have G7:=G6.same g7
   have F7:=F6.trans (Fr.of_same (ρ:=ρ) g7)
   have Xl:=g7 _ _ rF
   have f1:=g7 _ _ d1
   have f2:=g7 _ _ d2
   have To:∀b,upd H6 pp (.tup [.ref qq.1, .int ((st.ah[i]).sc*kept)]) b=none->H b=none:=fun b e=>fr b (g7.free e)
   have Qe:=g7 _ _ k1
   generalize upd H6 pp (.tup [.ref qq.1, .int ((st.ah[i]).sc*kept)])=H7 at *
   refine ⟨pp,_,Z,cS.of (e_ Xl Mq (fun k z=>by cases z)),Z,_,_,Z,_,_,Z,Z,?_⟩
   refine ⟨_,Z,_,Z,_,_,Z,Z,Yk,_,Z,qq.1,T.part,qq.2.1,_,Z,e_ Xl Qe (fun k z=>by cases z),X.cP,X.Pg,by show 6<1000;decide,?_⟩
   have nd7:(((st.ah.take i).map (fun p:Pt=>{ p with sc:=p.sc*kept / sd })++st.ah.drop i).map (fun p:Pt=>p.nm)).Nodup:=by rw [nm6];exact nd
   have h8:=h7.sS (p1:={ st.ah[i] with sc:=(st.ah[i]).sc*kept / sd }) G7 ep6 eq rfl rfl nd7
   rw [show ({ st with ah:=(st.ah.take i).map (fun p:Pt=>{ p with sc:=p.sc*kept / sd })++st.ah.drop i }:HS).ah.set i { st.ah[i] with sc:=(st.ah[i]).sc*kept / sd }=_ from Ld (fun p:Pt=>{ p with sc:=p.sc*kept / sd }) ep] at h8
   have nqa:A.ab≠qq.1:=(iX Qe Xl (by intro z;cases z)).symm
   have nq1:l1≠qq.1:=iX f1 Qe (by intro z;cases z)
   have nq2:l2≠qq.1:=iX f2 Qe (by intro z;cases z)
   refine ⟨⟨_,_,Z⟩,_,kI nqa,G7.wr rfl,F7.trans (Fr.write k3),h8,by rw [av nq1];exact f1,by rw [av nq2];exact f2,fun b e=>To b ?_⟩
   by_cases z:b=qq.1
   . rw [z,ai] at e;cases e
   . rw [av z] at e;exact e
 rintro σ H' ⟨⟨s7,s8,rfl⟩,H6,rfl,G6,F6,h6,d1,d2,fr⟩
 have e6:cO ({ st with ah:=(st.ah.take st.ah.length).map (fun p:Pt=>{ p with sc:=p.sc*kept / sd })++st.ah.drop st.ah.length }:HS).ah A.qs=cO st.ah A.qs:=o7 (qW (fun p:Pt=>{ p with sc:=p.sc*kept / sd }) (fun p:Pt=>p.nm) (fun _=>rfl) st.ah _)
 have rF:=h6.d9
 rw [e6] at rF
 refine ⟨ai,?_⟩
 rw [qP,yH rF]
 rw [show ({ st with ah:=(st.ah.take st.ah.length).map (fun p:Pt=>{ p with sc:=p.sc*kept / sd })++st.ah.drop st.ah.length }:HS)={ st with ah:=st.ah.map fun p:Pt=>{ p with sc:=p.sc*kept / sd } } from by rw [cC,DS,rO]] at h6
 clear e6 rF h5 G5 F5 s5 c1 c2 hv5
 refine ⟨_,Z,l2,Z,⟨_,aC.of d2⟩,fun l3 hl3=>?_⟩
 refine iP (J:=uG K l2) (n:=((fV st kept added).map V.int).length) 0 (fun i o H'=>aF H6 H'/\o=(((fV st kept added).take i).map (· / sd)).map V.int) (by rw [aE];omega) ⟨aB hl3 _,Z⟩ (fun i o H' hi _ hp=>⟨_,_,aC.of (hp.1 _ _ d2),aW hi⟩) (fun o H' _ hp=>⟨_,aC.of (hp.1 _ _ d2),aP _⟩) ?_ ?_
 . rintro i y o Ha Hb hi eV ha ⟨g,e⟩ ⟨rfl,hy⟩
   obtain ⟨c,rfl,ec⟩:=gP (hy _ (aC.of (g _ _ d2)))
   refine ⟨_,Z,_,Z,_,_,Z,Z,Yk,ha,g.cD hl3 _,?_⟩
   subst e
   rw [take_snoc ec,bN,bN]
   rfl
 rintro o3 H8 ak7 Ms ⟨g8,e8⟩
 rw [aE,cC] at e8
 subst e8
 have h8:=h6.mono g8
 have G8:=G6.same g8
 have F8:=F6.trans (Fr.of_same (ρ:=ρ) g8)
 have fr8:∀b,H8 b=none->H b=none:=fun b e=>fr b (g8.free e)
 have c3:ρ l3=none:=G6.none hl3
 have n3:H l3=none:=fr l3 hl3
 refine ⟨_,Z,A.a,T.hold,A.dx,_,Z,h8.oa,X.cH,X.Cu,by show 7<1000;decide,?_⟩
 obtain ⟨h9,G9⟩:=Il (t:=6) h8 G8 c3 Ms rfl
 have F9:Fr n ρ H (cE ρ l3 (n,6,⟨#[]⟩)) H8:=F8.uU n3
 have CF:=h9.abQ G9 l3 _ Ms dH
 have G10:=G9.wr (a:=A.a) (o:= .ins T.hold A.dx (m7 { A with cm:=l3 })) rfl
 have F10:=F9.trans (Fr.write (o:= .ins T.hold A.dx (m7 { A with cm:=l3 })) h9.ca)
 show z7 _ _ _ _ (upd H8 A.a (.ins T.hold A.dx (m7 { A with cm:=l3 })))
 have ah0:∀b,upd H8 A.a (.ins T.hold A.dx (m7 { A with cm:=l3 })) b=none->H b=none:=fun b e=>fr8 b (by
  by_cases z:b=A.a
  . rw [z,ai] at e;cases e
  . rw [av z] at e;exact e)
 generalize upd H8 A.a (.ins T.hold A.dx (m7 { A with cm:=l3 }))=KS at *
 clear h6 G6 F6 h8 G8 F8 h9 G9 F9 Ms g8 fr8 fr d1 d2
 refine ⟨_,Z,A.a,T.hold,A.dx,_,_,Z,CF.oa,X.cH,X.K5,Z,A.pu,Z,⟨_,aC.of CF.pZ⟩,fun l4 IL=>?_⟩
 have ak8:st.c_.length<=100:=by rw [hh.wf.yE];exact hh.wf.qU
 refine iP (J:=uG K A.pu) (n:=(st.c_.map V.int).length) 0 (fun i o H'=>aF KS H'/\o=((st.c_.take i).map (·*(whole / sd))).map V.int) (by rw [aE];omega) ⟨aB IL _,Z⟩ (fun i o H' hi _ hp=>⟨_,_,aC.of (hp.1 _ _ CF.pZ),aW hi⟩) (fun o H' _ hp=>⟨_,aC.of (hp.1 _ _ CF.pZ),aP _⟩) ?_ ?_
 . rintro i y o Ha Hb hi eV ha ⟨g,e⟩ ⟨rfl,hy⟩
   obtain ⟨c,rfl,ec⟩:=gP (hy _ (aC.of (g _ _ CF.pZ)))
   refine ⟨_,Z,_,Z,_,Z,_,_,Z,Z,Yk,_,_,Z,Z,jb (hpz c (bJ ec)) wqz,ha,g.cD IL _,?_⟩
   subst e
   rw [take_snoc ec,bN,bN]
   rfl
 rintro o4 H11 ak9 ac_ ⟨g11,e11⟩
 rw [aE,cC] at e11
 subst e11
 have h11:=CF.mono g11
 have G11:=G10.same g11
 have F11:=F10.trans (Fr.of_same (ρ:=cE ρ l3 (n,6,⟨#[]⟩)) g11)
 have c4:cE ρ l3 (n,6,⟨#[]⟩) l4=none:=G10.none IL
 have n4:H l4=none:=ah0 l4 IL
 refine ⟨_,Z,A.a,T.hold,A.dx,_,Z,h11.oa,X.cH,X.K5,by show 7<1000;decide,?_⟩
 obtain ⟨h12,G12⟩:=Il (t:=7) h11 G11 c4 ac_ rfl
 have F12:Fr n ρ H (cE (cE ρ l3 (n,6,⟨#[]⟩)) l4 (n,7,⟨#[]⟩)) H11:=F11.uU n4
 have IM:=h12.abR G12 l4 _ ac_ dH
 have G13:=G12.wr (a:=A.a) (o:= .ins T.hold A.dx (m7 { { A with cm:=l3 } with pu:=l4 })) rfl
 have F13:=F12.trans (Fr.write (o:= .ins T.hold A.dx (m7 { { A with cm:=l3 } with pu:=l4 })) h12.ca)
 rw [show aV "purses" (V.ref l4) (m7 { A with cm:=l3 })=m7 { { A with cm:=l3 } with pu:=l4 } from rfl]
 generalize upd H11 A.a (.ins T.hold A.dx (m7 { { A with cm:=l3 } with pu:=l4 }))=H13 at *
 refine ⟨_,Z,A.a,T.hold,A.dx,_,_,Z,IM.oa,X.cH,X.ED,Z,A.bt,A.db,_,Z,IM.nv,Z,_,Z,_,Z,_,_,Z,Z,Yk,?_⟩
 refine ⟨⟨n,_,{ { A with cm:=l3 } with pu:=l4 },{ st with ah:=st.ah.map (fun p:Pt=>{ p with sc:=p.sc*kept / sd }),bM:=(fV st kept added).map (· / sd),c_:=st.c_.map (·*(whole / sd)) },whole / sd,Z,G13,IM,by show st.stp.length<=1000;omega,hh.wf.big.mono (by decide),wqz.mono (by decide),fun ρ' A' H' a1 a2 a3 a4=>?_⟩⟩
 have eb:cU st kept whole added=fR { st with ah:=st.ah.map (fun p:Pt=>{ p with sc:=p.sc*kept / sd }),bM:=(fV st kept added).map (· / sd),c_:=st.c_.map (·*(whole / sd)) } (whole / sd):=by
  unfold cU
  rw [Yj]
 rw [eb] at wf' q
 exact q ρ' A' H' ⟨a1,a2,wf'⟩ a3 (F13.trans a4)
abbrev vq:Stmt:=inClass (top 24) 3
abbrev sf:List Str:=["self","rows"]
abbrev NZ:List Str:=sf.append ["amounts","name","amount","whole","lost"]
theorem ig:aJ NZ sf (ay vq):=c8
theorem Mt {T:TC} (F:i8 K T.hold "cast" "Hold.cast" vq f fd) (X:Txt K T) (vt:Dn P w K mg base 1 "amounts_of" qh (T_ K)) (vv:Dn P w K mg base 2 "check_loss" qg X5) (iK:Mn P w K mg base 1 T.hold "part_of" iJ (C6 T)) (ko:Mn P w K mg base 1 T.hold "whole" lZ (Gz T)) (vz:Mn P w K mg base 3 T.hold "blend" qp (PD T K)) (qu:Mn P w K mg base 1 T.hold "given_up" lK (Pz T)) (tP:Mn P w K mg base 1 T.hold "lessen" nT (Uc T)) (fT:mg "sum"=none):Mn P w K mg base 4 T.hold "cast" sf (Ud T K):=by
 refine F.oA ig fun cdv A outer s H vs Q E hr h=>?_
 obtain ⟨⟨n,ρ,A,st,l,us,rs,rfl,hh,hl,hR,ok,q⟩⟩:=h
 have wf:=hh.wf
 have nd:=ok.nd
 refine ⟨_,(@cK.h _ _ _ (aj (aN (i:=2) ig.nd (aY vt hr (af (qv 1) ao)))
  (aj (xY (dR eE rfl (Dl (qv 2)) (jf K (n:=2) rfl (cV (aQ (i:=3) ig.nd) (cV (aQ (i:=4) ig.nd) je))) (au (dm (aY vv hr (af (a_ K (gm iK hr (qv 0) (af (qv 3) ao))) (af (qv 4) ao)))))))
  (aj (aN (i:=5) ig.nd (xX ko hr (qv 0)))
  (aj (aN (i:=6) ig.nd (aG (Ie rfl) (by rfl) fT yg (af (GK (qv 2)) ao)))
  (aj (cQ (aZ QV (qv 6) (qv 5) (br _)) (au iT) aX)
  (aj (dm (gm vz hr (qv 0) (af (aD lT (qv 5) (qv 6)) (af (qv 5) (af (gm qu hr (qv 0) (af (qv 2) ao)) ao)))))
  (au (xY (dR eE rfl (Dl (qv 2)) (jf K (n:=2) rfl (cV (aQ (i:=3) ig.nd) (cV (aQ (i:=4) ig.nd) je))) (au (dm (gm tP hr (qv 0) (af (qv 3) (af (qv 4) ao))))))))))))))),?_⟩
 refine ⟨_,Z,⟨⟨l,us,rs,Z,hl,hR,nd,ok.ne,ok.len,fun d H1 g1 hdn hd1=>?_⟩⟩⟩
 have gF:=hh.mono g1
 have F1:Fr n ρ H ρ H1:=Fr.of_same g1
 have cd:ρ d=none:=hh.g.none hdn
 have al:=yJ rs
 refine ⟨d,_,hd1,fun ob=>⟨_,Z,d,ob,_,Z,ai,?_⟩⟩
 refine uN (n:=(h_ rs).length) (fun i σ H'=>aF (upd H1 d (.fm ob (.dK (h_ rs)))) H'/\∃s3 s4 s5 s6,σ=[some (.ref A.a),some (.ref l),some (.ref d),s3,s4,s5,s6])
  ⟨aF.refl _,_,_,_,_,Z⟩ (fun i σ H' hi hp=>⟨hp.1 _ _ ai,hi⟩) (fun σ H' hp=>⟨hp.1 _ _ ai,aP _⟩) ?_ ?_
 . rintro i x σ H3 H4 hi ⟨g,s3,s4,s5,s6,rfl⟩ ⟨pp,kv,hpp,hkv,rfl,rfl⟩
   unfold h_ at hkv
   rw [bF] at hkv
   obtain ⟨r,er,rfl⟩:=lR.mp hkv
   have hrm:=bJ er
   obtain ⟨r1,zr,p,iE,Fe,hle⟩:=ok.row r hrm
   obtain ⟨ip,zK,U3⟩:=pD iE
   have ep:st.ah[ip]?=some p:=by rw [aW zK,U3]
   have g4:=aB hpp (.tup [.str r.1, .int r.2])
   have gg:=g.trans g4
   have hf:HH T n ρ A (upd H1 d (.fm ob (.dK (h_ rs)))) st:=gF.J7 cd hd1 rfl rfl
   have h4:=hf.mono gg
   have Mq:upd H3 pp (.tup [.str r.1, .int r.2]) pp=some (.tup [.str r.1, .int r.2]):=ai
   show CT K 2 _ _ _ (upd H3 pp (.tup [.str r.1, .int r.2])) _
   generalize upd H3 pp (.tup [.str r.1, .int r.2])=H4 at *
   obtain ⟨qq,eq,k1,k2,_,_⟩:=h4.h.find ep
   refine ⟨pp,_,Z,cS.of Mq,Z,_,_,Z,_,_,Z,Z,?_⟩
   refine ⟨_,Z,A.a,A.dx,_,Z,h4.h.oa,Z,_,Z,⟨⟨n,ρ,A,st,ip,p,qq,by rw [<-Fe];rfl,h4.h,wf.j9,ep,eq,?_⟩⟩⟩
   refine ⟨qq.1,T.part,qq.2.1,_,_,Z,k1,X.cP,X.Pf,Z,_,Z,⟨⟨p.wo,r.2,Z,r1,hle,?_⟩⟩⟩
   exact ⟨gg,_,_,_,_,Z⟩
 rintro σ H2 ⟨g2,s3,s4,s5,s6,rfl⟩
 refine ⟨g2 _ _ ai,?_⟩
 have gB:=uS hd1 g2
 have kT:=gF.mono gB
 have F2:Fr n ρ H ρ (upd H2 d (.dK (h_ rs))):=F1.trans (Fr.of_same gB)
 have hd2:upd H2 d (.dK (h_ rs)) d=some (.dK (h_ rs)):=ai
 generalize upd H2 d (.dK (h_ rs))=H2' at *
 refine ⟨_,Z,A.a,A.dx,_,Z,kT.h.oa,Z,⟨⟨n,ρ,A,st,Z,kT.h,wf.wV,fun H3 g3=>?_⟩⟩⟩
 have lJ:=kT.mono g3
 have Qf:=g3 _ _ hd2
 have F3:=F2.trans (Fr.of_same (ρ:=ρ) g3)
 refine ⟨_,Z,d,_,Z, .inl Qf,fun v hv=>⟨v,d,_,rs.map (·.2),Z,ai, .inl (by rw [av (aH Qf hv)];exact Qf),by unfold h_;rw [fH,fH];rfl,?_⟩⟩
 have g4:=aB hv (lG v d)
 have nG:=lJ.mono g4
 have hd4:=g4 _ _ Qf
 have F4:=F3.trans (Fr.of_same (ρ:=ρ) g4)
 generalize upd H3 v (lG v d)=H4 at *
 have bo:=ok.blend wf
 refine ⟨_,Z,_,Z,_,_,Z,Z,_,Z,dW (fun c=>absurd (eO c) (by have:=ok.lost;show ¬ bK st<=bu rs;omega)) fun _=>?_⟩
 refine ⟨_,Z,A.a,A.dx,_,Z,nG.h.oa,Z,_,Z,_,Z,_,_,Z,Z,_,Z,_,Z,A.a,A.dx,_,Z,nG.h.oa,Z,_,Z,⟨⟨n,ρ,A,st,d,rs,Z,nG.h,wf,hd4,cd,ok.len,fun r hr=>⟨(ok.row r hr).2.1,by obtain ⟨p,hp,e,_⟩:=(ok.row r hr).2.2;exact ⟨p,hp,e⟩⟩,fun l5 H5 g5 hn5 hl5=>?_⟩⟩⟩
 have wA:=nG.mono g5
 have hd5:=g5 _ _ hd4
 have F5:=F4.trans (Fr.of_same (ρ:=ρ) g5)
 have zk:Jm.Sz 60 (bK st-bu rs):=bo.big.of_le (by have:=bo.k;have:=bo.l;omega)
 have zG:∀m∈fX st rs,0<=m/\Jm.Sz 8900 m:=fun m hm=>by
  have h1:=bo.add m hm
  have h2:=wf.iD
  have zl:Jm.Sz 60 (bu rs):=bo.big.of_le (by have:=bo.k;have:=bo.l;omega)
  exact ⟨h1.1,Jm.Sz.pS (by have:=nK bo.l (show 0<=st.prod by omega);omega) h1.2 ((zl.mul bo.prod).mono (by decide))⟩
 refine ⟨⟨n,ρ,A,st,bK st-bu rs,bK st,l5,fX st rs,Z,wA,aC.of hl5,bo.len,bo.k,by have:=bo.k;have:=bo.l;omega,zk,bo.big,zG,ok.c_,ok.stp,WI wf bo,fun ρ6 A6 H6 Fb e6 f6=>?_⟩⟩
 obtain ⟨hd6,cd6⟩:=f6 d _ hd5 (fun t x=>by rw [cd];intro z;cases z)
 rw [cd] at cd6
 have F6:=F5.trans f6
 refine ⟨d,_,hd6,fun U7=>⟨_,Z,d,U7,_,Z,ai,?_⟩⟩
 generalize eB:cU st (bK st-bu rs) (bK st) (fX st rs)=Qg at *
 have ah1:Due Qg rs:=by rw [<-eB];exact Ul ok.due
 have aeU:kK st rs=rs.foldl gc Qg:=by unfold kK;rw [eB]
 refine uN (n:=(h_ rs).length) (fun i σ H'=>∃ρ' A',HH T n ρ' A' H' ((rs.take i).foldl gc Qg)/\A'.a=A.a/\H' d=some (.fm U7 (.dK (h_ rs)))/\ρ' d=none/\Fr n ρ H ρ' H'/\Due ((rs.take i).foldl gc Qg) (rs.drop i)/\∃s3 s4 s5 s6,σ=[some (.ref A.a),some (.ref l),some (.ref d),s3,s4,s5,s6])
  ⟨ρ6,A6,Fb.J7 cd6 hd6 rfl rfl,e6,ai,cd6,F6.new hdn,ah1,_,_,_,_,Z⟩ (fun i σ H' hi hp=>by obtain ⟨_,_,_,_,e,_⟩:=hp;exact ⟨e,hi⟩) (fun σ H' hp=>by obtain ⟨_,_,_,_,e,_⟩:=hp;exact ⟨e,aP _⟩) ?_ ?_
 . rintro i x σ H7 H8 hi ⟨ρ7,A7,Qh,e7,Yl,Ym,F7,due,s3,s4,s5,s6,rfl⟩ ⟨pp,kv,hpp,hkv,rfl,rfl⟩
   unfold h_ at hkv
   rw [bF] at hkv
   obtain ⟨r,er,rfl⟩:=lR.mp hkv
   have hir:i<rs.length:=by rw [<-al];exact hi
   have edr:rs.drop i=r::rs.drop (i+1):=by
    rw [Qu hir]
    rw [aW hir] at er
    rw [fY er]
   rw [edr] at due
   have g4:=aB hpp (.tup [.str r.1, .int r.2])
   have hh8:=Qh.mono g4
   have hd8:=g4 _ _ Yl
   have F8:=F7.trans (Fr.of_same (ρ:=ρ7) g4)
   have Mq:upd H7 pp (.tup [.str r.1, .int r.2]) pp=some (.tup [.str r.1, .int r.2]):=ai
   show CT K 2 _ _ _ (upd H7 pp (.tup [.str r.1, .int r.2])) _
   generalize upd H7 pp (.tup [.str r.1, .int r.2])=H8 at *
   refine ⟨pp,_,Z,cS.of Mq,Z,_,_,Z,_,_,Z,Z,?_⟩
   have eN:(rs.take (i+1)).foldl gc Qg=gc ((rs.take i).foldl gc Qg) r:=by rw [take_snoc er,Kh];rfl
   have ndr:((r::rs.drop (i+1)).map (fun r:Row=>r.1)).Nodup:=by rw [<-edr,List.map_drop];exact nd.sublist (List.drop_sublist _ _)
   refine ⟨_,Z,A.a,A7.dx,_,Z,by rw [<-e7];exact hh8.h.oa,Z,_,Z,_,Z,⟨⟨n,ρ7,A7,_,r,by rw [e7];rfl,hh8,due r cM,ab8 Qh.wf due,fun ρ9 A9 H9 hh9 e9 f9=>?_⟩⟩⟩
   obtain ⟨hd9,cd9⟩:=f9 d _ hd8 (fun t x=>by rw [Ym];intro z;cases z)
   rw [Ym] at cd9
   rw [<-eN] at hh9
   exact ⟨ρ9,A9,hh9,e9.trans e7,hd9,cd9,F8.trans f9,by rw [eN];exact WK Qh.wf due ndr,_,_,_,_,Z⟩
 rintro σ H7 ⟨ρ7,A7,Qh,e7,Yl,Ym,F7,due,s3,s4,s5,s6,rfl⟩
 rw [al,cC,<-aeU] at Qh
 exact ⟨Yl,q ρ7 A7 _ (Qh.J7 Ym Yl rfl rfl) e7 (F7.new hdn)⟩
abbrev rG:Stmt:=inClass (top 4) 2
abbrev nU:List Str:=["self","top"]
abbrev Jh:List Str:=nU.append ["rest","step","shared"]
theorem iL:aJ Jh nU (ay rG):=c8
theorem G_ {T:TC} (F:i8 K T.bot "over" "Bottom.over" rG f fd) (X:Txt K T) (iu:Dn P w K mg base 1 "common_factor" jB Wj):Mn P w K mg base 2 T.bot "over" nU (Pr T):=by
 refine F.oA iL fun cdv A outer s H vs Q E hr h=>?_
 obtain ⟨⟨bt,db,sp,kn,stp,prod,top,rfl,hb,hs,ep,h2,hz,q⟩⟩:=h
 refine ⟨_,(@cK.h _ _ _ (aj (aN (i:=2) iL.nd (a_ K (qv 0)))
  (aj (dR eE rfl (dJ K (a_ K (qv 0))) (aQ (i:=3) iL.nd) (aj (aN (i:=4) iL.nd (aY iu hr (af (qv 3) (af (aD j6 (qv 1) (qv 3)) ao))))
  (au (ie (aZ jU (qv 4) ak (br _)) (aj (aN (i:=1) iL.nd (aD gO (qv 1) (qv 4)))
  (au (aN (i:=2) iL.nd (aD gO (qv 2) (qv 4))))) aX))))
  (au (aS (jA (af (qv 1) (af (qv 2) ao)))))))),?_⟩
 have p1:1<=prod:=by rw [ep];exact Lf h2
 refine ⟨_,Z,bt,T.bot,db,_,_,Z,hb,X.cB,X.XY,Z,?_⟩
 refine ⟨_,Z,bt,T.bot,db,_,_,Z,hb,X.cB,X.bst,Z,sp,Z,⟨_,aC.of hs⟩,?_⟩
 refine lS (K:=K) (xs:=stp.map V.int) (fun i σ H'=>H'=H/\∃(t r d:Int) (s3 s4:Option V),σ=[some (.ref bt),some (.int t),some (.int r),s3,s4]/\t*prod=top*r/\r=d*(stp.drop i).foldl (·*·) 1/\0<d/\Jm.cf t d=1)
  ⟨Z,top,prod,1,none,none,Z,Z,by rw [List.drop_zero,Int.one_mul];exact ep,by decide,by unfold Jm.cf;rw [Int.gcd_one];rfl⟩ (fun i σ H' _ hp=>by rw [hp.1];exact aC.of hs) ?_ ?_
 . rintro i x σ H' hx ⟨rfl,t,r,d,s3,s4,rfl,e1,e2,d0,c⟩
   obtain ⟨st,rfl,es⟩:=gP hx
   have hm:=bJ es
   have s2:=h2 st hm
   have hi:=(dI.mp es).1
   have hdr:stp.drop i=st::stp.drop (i+1):=by
    rw [Qu hi]
    congr 1
    rw [aW hi] at es
    exact fY es
   rw [hdr,GA] at e2
   have r0:0<=t % st:=nJ _ (by omega)
   refine ⟨_,Z,_,Z,_,Z,_,_,Z,Z,(by show 0<st;omega),st,t % st,Z,by omega,r0,?_⟩
   rw [Jm.Gn t st (by omega)]
   obtain ⟨o1,o2⟩:=T7 d0 (by omega:0<st) c
   have gp:0<Jm.cf t st:=Jm.Ej t st (.inr (by omega))
   have gz:Jm.Sz 9000 (Jm.cf t st):=((hz.of_le (by have:=X0 h2 hm;rw [<-ep] at this;omega)).dvd (by omega:0<st) (by omega) (Jm.pR t st)).mono (by decide)
   obtain ⟨u,hu⟩:=Jm.rT t st
   obtain ⟨v,hv⟩:=Jm.pR t st
   have e3:t / Jm.cf t st*prod=top*(r / Jm.cf t st):=by
    have a1:t / Jm.cf t st=u:=by rw [Xu (by omega) hu]
    have a2:r=Jm.cf t st*(d*v*(stp.drop (i+1)).foldl (·*·) 1):=by
     rw [e2]
     conv=>lhs;rw [hv]
     rw [jS (Jm.cf t st),Int.mul_left_comm,jS d]
    have a3:r / Jm.cf t st=d*v*(stp.drop (i+1)).foldl (·*·) 1:=by rw [Xu (by omega) a2]
    rw [a1,a3]
    have qc:Jm.cf t st*(u*prod)=Jm.cf t st*(top*(d*v*(stp.drop (i+1)).foldl (·*·) 1)):=by
     rw [<-jS,<-hu,e1]
     conv=>lhs;rw [a2]
     rw [Int.mul_left_comm]
    exact Int.eq_of_mul_eq_mul_left (by omega) qc
   have e4:r / Jm.cf t st=d*(st / Jm.cf t st)*(stp.drop (i+1)).foldl (·*·) 1:=by
    have a4:st / Jm.cf t st=v:=by rw [Xu (by omega) hv]
    have a2:r=Jm.cf t st*(d*v*(stp.drop (i+1)).foldl (·*·) 1):=by
     rw [e2]
     conv=>lhs;rw [hv]
     rw [jS (Jm.cf t st),Int.mul_left_comm,jS d]
    rw [a4,Xu (by omega) a2]
   refine ⟨fun σ' H2=>H2=H'/\σ'=[some (.ref bt),some (.int (t / Jm.cf t st)),some (.int (r / Jm.cf t st)),some (.int st),some (.int (Jm.cf t st))],?_,?_⟩
   . refine ⟨_,Z,_,_,Z,Z,_,Z,dW (fun c=>?_) (fun c=>?_)⟩
     . exact ⟨_,Z,_,Z,_,_,Z,Z,uK gp gz,_,Z,_,Z,_,_,Z,Z,uK gp gz,Z,Z⟩
     . have c':¬ 1<Jm.cf t st:=uE (qO.mpr c)
       have g1:Jm.cf t st=1:=by omega
       refine ⟨Z,?_⟩
       rw [g1,Br,Br]
       rfl
   rintro σ' H2 ⟨rfl,rfl⟩
   exact ⟨Z,_,_,_,_,_,Z,e3,e4,o2,o1⟩
 rintro σ H' ⟨rfl,t,r,d,s3,s4,rfl,e1,e2,d0,c⟩
 rw [List.drop_of_length_le (by rw [aE];exact aP _),List.foldl_nil,Int.mul_one] at e2
 subst e2
 refine ⟨_,Z,_,Z,(i_ 2),fun p hp=>?_⟩
 refine q p _ (aB hp _) ?_
 rw [ai]
 obtain ⟨a1,a2⟩:=Jm.Tg d0 c
 have:Jm.fr top prod=Jm.fr t r:=Jm.XI (by omega) d0 e1.symm
 unfold pT
 rw [this,a1,a2]
abbrev qw:Stmt:=inClass (top 4) 3
abbrev mU:List Str:=["self","top"]
abbrev Hf:List Str:=mU
theorem Ff:aJ Hf mU (ay qw):=c8
theorem Fi {T:TC} (F:i8 K T.bot "share" "Bottom.share" qw f fd) (X:Txt K T) (tQ:Mn P w K mg base 2 T.bot "over" nU (Pr T)):Mn P w K mg base 3 T.bot "share" mU (K_ T):=by
 refine F.oA Ff fun cdv A outer s H vs Q E hr h=>?_
 obtain ⟨⟨bt,db,sp,kn,stp,prod,top,kvs,rfl,hb,hs,ep,h2,hz,hk,kat,kl,knd,q⟩⟩:=h
 refine ⟨_,(@cK.h _ _ _ (aj (ie (xW (AK (bY hr) (qv 1) (a_ K (qv 0)))) (au (o_ (bY hr) (a_ K (qv 0)) (qv 1) (gm tQ hr (qv 0) (af (qv 1) ao)) rfl)) aX)
  (au (aS (bP (bY hr) (a_ K (qv 0)) (qv 1)))))),?_⟩
 refine ⟨fun σ' H'=>σ'=[some (.ref bt),some (.int top)]/\(∀b o,H b=some o->b≠kn->H' b=some o)/\∃kvs' r,H' kn=some (.dK kvs')/\K4 H' kvs' prod/\kvs'.length<=kvs.length+1/\(kvs'.map (·.1)).Nodup/\ee kvs' (Sum.inl top)=some (.ref r)/\H' r=some (pT (Jm.fr top prod)),?_,?_⟩
 . refine ⟨_,Z,_,Z,bt,T.bot,db,_,_,Z,hb,X.cB,X.TV,Z,kn,_,Z,cN.k (k:=Sum.inl top) hk,_,Z,?_⟩
   cases e:ee kvs (Sum.inl top) with
   | some v=>
     refine cW ⟨Z,fun b o e _=>e,kvs,?_⟩
     obtain ⟨t,r,e2,hr2⟩:=kat _ (WE e)
     cases e2
     exact ⟨r,hk,kat,Nat.le_succ _,knd,e,hr2⟩
   | none=>
     refine qT ?_
     refine ⟨_,Z,bt,db,_,Z,hb,Z,_,Z,⟨⟨bt,db,sp,kn,stp,prod,top,Z,hb,hs,ep,h2,hz,fun r H1 g1 hr1=>?_⟩⟩⟩
     have sl:kvs.length<sizeLine:=by rw [fB];omega
     refine ⟨_,Z,bt,T.bot,db,_,_,Z,g1 _ _ hb,X.cB,X.TV,Z,_,Z,kn,_,Z,sZ.k (k:=Sum.inl top) (g1 _ _ hk) sl,Z,fun b o e hb=>by rw [av hb];exact g1 _ _ e,_,r,ai,?_,?_,Y0 _ knd e,by rw [V7,aA rfl],by rw [av (iX hr1 (g1 _ _ hk) (by intro z;cases z))];exact hr1⟩
     . rw [oj _ e]
       intro p hp
       rcases fZ.mp hp with z|z
       . obtain ⟨t,r',e2,hr2⟩:=kat p z
         exact ⟨t,r',e2,by rw [av (iX (g1 _ _ hr2) (g1 _ _ hk) (by intro z;cases z))];exact g1 _ _ hr2⟩
       . rw [fU.mp z]
         exact ⟨top,r,Z,by rw [av (iX hr1 (g1 _ _ hk) (by intro z;cases z))];exact hr1⟩
     . rw [oj _ e,dh]
       exact aP _
 rintro σ' H' ⟨rfl,k1,kvs',r,e1,e2,e3,e4,e5,e6⟩
 exact ⟨_,Z,bt,T.bot,db,_,_,Z,k1 _ _ hb (iX hb hk (by intro z;cases z)),X.cB,X.TV,Z,_,Z,kn,_,Z,e5▸cN.k (k:=Sum.inl top) e1,q r H' kvs' k1 e1 e2 e3 e4 e6⟩
abbrev rH:Stmt:=inClass (top 24) 12
abbrev nV:List Str:=["self","part"]
abbrev Ji:List Str:=nV.append ["tops"]
theorem x_:aJ Ji nV (ay rH):=c8
theorem Hg {T:TC} (F:i8 K T.hold "shares" "Hold.shares" rH f fd) (X:Txt K T) (iK:Mn P w K mg base 1 T.hold "part_of" iJ (C6 T)) (iM:Mn P w K mg base 1 T.hold "tops_of" kj (Gy T)) (rJ:Mn P w K mg base 3 T.bot "share" mU (K_ T)) (jX:mg "zip"=none):Mn P w K mg base 4 T.hold "shares" nV (Ih T):=by
 refine F.oA x_ fun cdv A outer s H vs Q E hr h=>?_
 obtain ⟨⟨n,ρ,A,st,ip,pt,rfl,hh,ep,hkn,q⟩⟩:=h
 obtain ⟨qq,eq,k1,k2,k3,k4⟩:=hh.h.find ep
 have iE:=bJ ep
 refine ⟨_,(@cK.h _ _ _ (aj (aN (i:=2) x_.nd (gm iM hr (qv 0) (af (gm iK hr (qv 0) (af (qv 1) ao)) ao)))
  (au (aS (LO (Dk ["owner","top","self"] [none,none,some 0] rfl (uy K (by rfl) jX (af (a_ K (qv 0)) (af (qv 2) ao))) (fun _ _ _ _=>(jf K (n:=2) rfl (cV (aQ (i:=0) (show List.Nodup (["owner","top","self"] :List Str) from by decide +kernel)) (cV (aQ (i:=1) (show List.Nodup (["owner","top","self"] :List Str) from by decide +kernel)) je)))) (fun _ _ _ _=>(jA (af (qv 0) (af (gm rJ hr (a_ K (qv 2)) (af (qv 1) ao)) ao)))) (fun _ _ _ _=>(aZ jU (qv 1) ak (br _))) rfl (by rfl))))))),?_⟩
 refine ⟨_,Z,A.a,A.dx,_,Z,hh.h.oa,Z,_,Z,A.a,A.dx,_,Z,hh.h.oa,Z,_,Z,⟨⟨n,ρ,A,st,ip,pt,qq,Z,hh.h,hh.wf.j9,ep,eq,?_⟩⟩⟩
 refine ⟨⟨n,ρ,A,st,ip,pt,qq,Z,hh.h,hh.wf,ep,eq,fun l H1 g1 hl hl1=>?_⟩⟩
 have gF:=hh.mono g1
 have cl:ρ l=none:=hh.g.none hl
 have tl:(bh st pt).length=st.own.length:=by
  unfold bh
  rw [nZ,hh.wf.rows pt iE,hh.wf.g_,Bs]
 have eV:=hh.wf.qU
 refine ⟨A.pl,_,gF.h.iR,fun ob=>?_⟩
 have hl2:upd H1 A.pl (.fm ob (.dK (fP 0 st.own))) l=some (.lst ((bh st pt).map V.int)):=e_ gF.h.iR hl1 (fun k z=>by cases z)
 refine ⟨_,Z,A.a,T.hold,A.dx,_,_,Z,e_ gF.h.iR gF.h.oa (fun k z=>by cases z),X.cH,X.hpl,Z,_,Z,_,_,_,_,_,_,Z, .keys ai, .lst (aC.of hl2),fun acc hacc=>?_⟩
 have wB:H1 acc=none:=ou gF.h.iR hacc
 have ca:ρ acc=none:=gF.g.none wB
 have Qi:acc≠A.pl:=fun e=>by rw [e,ai] at hacc;cases hacc
 have nal:acc≠l:=fun e=>by rw [e,hl1] at wB;cases wB
 refine Zg (K:=K) (n:=st.own.length) [0,1] (fun i out Hc=>∃H5,Hc=upd H5 A.pl (.fm ob (.dK (fP 0 st.own)))/\Gh ρ H5/\Fr n ρ H ρ H5/\aR T n ρ A H5 { st with kn:=st.kn+i }/\H5 l=some (.lst ((bh st pt).map V.int))/\ja H5 out (((List.zip st.own (bh st pt)).take i).filterMap fun x=>if 0<x.2 then some (x.1,Jm.fr x.2 st.prod) else none))
  (by decide) (by omega) ⟨upd H1 acc (.lst []),kI (bU Qi),gF.g.alloc wB,(Fr.of_same (ρ:=ρ) g1).trans (Fr.of_same (aB wB _)),gF.h.mono (aB wB _),by rw [av (bU nal)];exact hl1, .nil⟩ ?_ ?_ ?_ ?_
 . rintro i out Hc hi ha ⟨H5,rfl,G5,F5,h5,l5,S5⟩
   exact ⟨ai,aC.of (e_ h5.iR l5 (fun k z=>by cases z)),by rw [aE,uh];exact hi,by rw [aE,tl];exact hi⟩
 . rintro out Hc ha ⟨H5,rfl,G5,F5,h5,l5,S5⟩
   exact ⟨ai,aC.of (e_ h5.iR l5 (fun k z=>by cases z)), .inr (by rw [aE,tl];exact aP _)⟩
 . rintro i x out Hc H2 hi GZ ha ⟨H5,rfl,G5,F5,h5,l5,S5⟩ ⟨pp,x1,y1,hpp,rfl,rfl,e1,e2⟩
   obtain ⟨t,rfl,et⟩:=gP e2
   rw [C5,bF] at e1
   obtain ⟨o,eo,rfl⟩:=lR.mp e1
   have npl:pp≠A.pl:=fun e=>by rw [e,ai] at hpp;cases hpp
   have ah2:H5 pp=none:=ou h5.iR hpp
   have ez:(List.zip st.own (bh st pt))[i]?=some (o,t):=by rw [List.getElem?_zip_eq_some];exact ⟨eo,et⟩
   have g6:=aB ah2 (.tup [.str o, .int t])
   have e6:upd (upd H5 A.pl (.fm ob (.dK (fP 0 st.own)))) pp (.tup [.str o, .int t])=upd (upd H5 pp (.tup [.str o, .int t])) A.pl (.fm ob (.dK (fP 0 st.own))):=kI (bU npl)
   rw [e6]
   have G6:=G5.same g6
   have F6:=F5.trans (Fr.of_same (ρ:=ρ) g6)
   have h6:=h5.mono g6
   have l6:=g6 _ _ l5
   have S6:=S5.mono g6.tups
   have t6:upd H5 pp (.tup [.str o, .int t]) pp=some (.tup [.str o, .int t]):=ai
   have CJ:upd H5 pp (.tup [.str o, .int t]) acc=some (.lst out):=by
    rw [av Qi] at ha
    exact g6 _ _ ha
   generalize upd H5 pp (.tup [.str o, .int t])=H6 at *
   have fz:∀{b:Addr} {u:HO},H6 b=some u->(∀k,u ≠ .dK k)->upd H6 A.pl (.fm ob (.dK (fP 0 st.own))) b=some u:=fun e k=>e_ h6.iR e k
   refine ⟨pp,_,Z,cS.of (fz t6 (fun k z=>by cases z)),Z,_,Z,_,_,Z,Z,_,Z,?_⟩
   refine dW (fun c=>?_) (fun c=>?_)
   . have c':0<t:=eO c
     obtain ⟨kvs,j1,j2,j3,j4⟩:=h6.okn
     have Yn:A.kn≠A.pl:=EB h6.jr h6.i9 (by intro z;cases z)
     refine ⟨_,Z,_,Z,A.a,T.hold,A.dx,_,_,Z,fz h6.oa (fun k z=>by cases z),X.cH,X.ED,Z,A.bt,A.db,_,Z,fz h6.nv (fun k z=>by cases z),Z,_,Z,
      ⟨⟨A.bt,A.db,A.sp,A.kn,st.stp,st.prod,t,kvs,Z,fz h6.nv (fun k z=>by cases z),fz h6.sQ (fun k z=>by cases z),hh.wf.vZ,hh.wf.Am,hh.wf.big,by rw [av Yn];exact j1,(fun p hp=>let ⟨t,r,e,w⟩:=j2 p hp;⟨t,r,e,fz w (fun k z=>by cases z)⟩),QI j3 (by show st.kn+i<_;omega),j4,fun r H7 kvs' b1 b2 b3 b4 b5 b6=>?_⟩⟩⟩
     have Yo:H7 A.pl=some (.fm ob (.dK (fP 0 st.own))):=b1 _ _ ai (bU Yn)
     refine ⟨(i_ 2),fun tt Yp=>?_⟩
     have ntp:tt≠A.pl:=fun e=>by rw [e,Yo] at Yp;cases Yp
     have k8:∀b u,H6 b=some u->b≠A.kn->upd H7 A.pl (.dK (fP 0 st.own)) b=some u:=fun b u e hb=>by
      by_cases z:b=A.pl
      . rw [z] at e ⊢
        rw [show H6 A.pl=some (.dK (fP 0 st.own)) from h6.iR] at e
        cases e;exact ai
      . rw [av z];exact b1 _ _ (by rw [av z];exact e) hb
     have h8:=h6.WG (m:=st.kn+i+1) k8 (by rw [av Yn];exact b2) (fun p hp=>let ⟨t,r,e,w⟩:=b3 p hp;⟨t,r,e,kW (.inr ⟨_,Yo,Z⟩) _ _ w⟩) (fu b4 (Nat.succ_le_succ j3)) b5
     have G8:Gh ρ (upd H7 A.pl (.dK (fP 0 st.own))):=fun b cc e=>by
      by_cases z:b=A.pl
      . rw [z];exact ⟨_,ai,Z⟩
      by_cases z2:b=A.kn
      . rw [z2,av Yn];exact ⟨_,b2,Z⟩
      obtain ⟨u,a1,a2⟩:=G6 b cc e
      exact ⟨u,k8 b u a1 z2,a2⟩
     have F8:Fr n ρ H6 ρ (upd H7 A.pl (.dK (fP 0 st.own))):=fun b u e k=>⟨k8 b u e (fun z=>k 9 ⟨#[]⟩ (by rw [z];exact h6.jr)),Z⟩
     have tp8:∀b xs,H6 b=some (.tup xs)->upd H7 A.pl (.dK (fP 0 st.own)) b=some (.tup xs):=fun b xs e=>k8 b _ e (iX e j1 (by intro z;cases z))
     have ah3:upd H7 A.pl (.dK (fP 0 st.own)) tt=none:=by rw [av ntp];exact Yp
     have back:H7=upd (upd H7 A.pl (.dK (fP 0 st.own))) A.pl (.fm ob (.dK (fP 0 st.own))):=by rw [qP,yH Yo]
     have hr8:upd H7 A.pl (.dK (fP 0 st.own)) r=some (pT (Jm.fr t st.prod)):=kW (.inr ⟨_,Yo,Z⟩) _ _ b6
     have l8:=k8 _ _ l6 (fun z=>by rw [z,j1] at l6;cases l6)
     have Ms:=k8 _ _ CJ (fun z=>by rw [z,j1] at CJ;cases CJ)
     have S8:=S6.mono tp8
     have F08:=F6.trans F8
     rw [back] at Yp ⊢
     generalize upd H7 A.pl (.dK (fP 0 st.own))=H8 at *
     have g9:=aB ah3 (.tup [.str o, .ref r])
     rw [kI (bU ntp)]
     refine ⟨by rw [av Qi];exact g9 _ _ Ms,_,kI (bU Qi),(G8.same g9).wr rfl,(F08.trans (Fr.of_same (ρ:=ρ) g9)).new (g1.free wB),?_,?_,?_⟩
     . exact (h8.mono g9).same (T5 ca (g9 _ _ Ms) rfl)
     . rw [av (bU nal)];exact g9 _ _ l8
     . rw [take_snoc ez,List.filterMap_append,zX]
       simp only [c',rQ,List.filterMap_nil]
       exact ((S8.mono g9.tups).snoc ai (g9 _ _ hr8)).mono (kW (.inr ⟨_,g9 _ _ Ms,Z⟩))
   . have c':¬ 0<t:=uE (qO.mpr c)
     refine ⟨by rw [av Qi];exact CJ,H6,Z,G6,F6,?_,l6,?_⟩
     . obtain ⟨kvs,j1,j2,j3,j4⟩:=h6.okn
       exact h6.WG (m:=st.kn+i+1) (fun b u e _=>e) j1 j2 (Nat.le_succ_of_le j3) j4
     . rw [take_snoc ez,List.filterMap_append,zX]
       simp only [c',lE,List.filterMap_nil,rO]
       exact S6
 . rintro out Hc GZ ha ⟨H5,rfl,G5,F5,h5,l5,S5⟩
   rw [zW (by rw [List.length_zip,tl];omega)] at S5
   refine ⟨ai,?_⟩
   rw [qP,yH (show H5 A.pl=some (.dK (fP 0 st.own)) from h5.iR)]
   rw [av Qi] at ha
   obtain ⟨kvs,j1,j2,j3,j4⟩:=h5.okn
   have h9:=h5.WG (m:=st.kn+100) (fun b u e _=>e) j1 j2 (fu j3 (by show st.kn+st.own.length<=st.kn+100;omega)) j4
   exact q acc out ρ A H5 ⟨G5,h9,aev hh.wf hkn⟩ rfl F5 (g1.free wB) ha ca S5
abbrev rK:Stmt:=inClass (top 24) 17
abbrev nW:List Str:=["self"]
abbrev Jj:List Str:=nW
theorem Hh:aJ Jj nW (ay rK):=c8
theorem Hi {T:TC} (F:i8 K T.hold "landed" "Hold.landed" rK f fd) (X:Txt K T) (dz:mg "list"=none):Mn P w K mg base 1 T.hold "landed" nW (La T):=by
 refine F.oA Hh fun cdv A outer s H vs Q E hr h=>?_
 obtain ⟨⟨n,ρ,A,st,rfl,hh,q⟩⟩:=h
 obtain ⟨ws,hw,hA⟩:=hh.h.uP
 have hl:=hA.length
 have hal:=hh.wf.An
 refine ⟨_,(@cK.h _ _ _ (au (aS (gw ["name","owner","worth","shares"] [none,none,none,none] rfl (dJ K (a_ K (qv 0))) (fun _ _ _ _=>(jf K (n:=4) rfl (cV (aQ (i:=0) (show List.Nodup (["name","owner","worth","shares"] :List Str) from by decide +kernel)) (cV (aQ (i:=1) (show List.Nodup (["name","owner","worth","shares"] :List Str) from by decide +kernel)) (cV (aQ (i:=2) (show List.Nodup (["name","owner","worth","shares"] :List Str) from by decide +kernel)) (cV (aQ (i:=3) (show List.Nodup (["name","owner","worth","shares"] :List Str) from by decide +kernel)) je)))))) (fun _ _ _ _=>(jA (af (qv 0) (af (qv 1) (af (qv 2) (af (o9 (nN K) (by rfl) dz wL (af (qv 3) ao)) ao)))))) rfl (by rfl))))),?_⟩
 refine ⟨_,Z,A.a,T.hold,A.dx,_,_,Z,hh.h.oa,X.cH,X.has,Z,A.as,Z,⟨_,aC.of hw⟩,fun acc hacc=>?_⟩
 refine Ak (K:=K) (n:=ws.length) [0,1,2,3] (fun i out H1=>aF H H1/\kJ acc ρ H1 out (st.ku.take i)) (by decide) (by omega) ⟨aB hacc _, .nil⟩ (fun i out H1 hi _ hp=>⟨ws,_,aC.of (hp.1 _ _ hw),aW hi⟩) (fun out H1 _ hp=>⟨ws,aC.of (hp.1 _ _ hw),aP _⟩) ?_ ?_
 . rintro i x out H1 H2 hi eV ha ⟨g,hL⟩ ⟨rfl,hy⟩
   have ex:=hy ws (aC.of (g _ _ hw))
   obtain ⟨r,l,y,ss,rfl,ey,a1,a2,a3,a4⟩:=hA.get ex
   refine ⟨r,_,Z,cS.of (g _ _ a1),Z,_,Z,_,Z,_,Z,_,Z,l,ss,Z, .inl (aC.of (g _ _ a2)),fun l2 hl2=>⟨(i_ 4),fun t ht=>?_⟩⟩
   have g2:=aB hl2 (.lst ss)
   have g3:=aB ht (.tup [.str y.nm, .str y.ow, .int y.wo, .ref l2])
   have hl3:upd H2 l2 (.lst ss) l2=some (.lst ss):=ai
   have c2:ρ l2=none:=hh.g.none (g.free hl2)
   refine ⟨(g2.trans g3) _ _ ha,((g.trans g2).trans g3).cD hacc _,?_⟩
   rw [take_snoc ey]
   have n1:l2≠acc:=fun e=>by rw [e,ha] at hl2;cases hl2
   exact ((hL.mono (g2.trans g3)).snoc (x:=y) ai (g3 _ _ hl3) c2 n1 (a4.mono ((g.trans g2).trans g3).tups)).upd ((g2.trans g3) _ _ ha)
 rintro out H1 eV ha ⟨g,hL⟩
 rw [hl,cC] at hL
 exact q acc out H1 g hacc ha hL.to
abbrev vA:Stmt:=inClass (top 24) 7
abbrev sj:List Str:=["self","part","taker"]
abbrev N1:List Str:=sj.append ["handed","to","at","tops"]
theorem l_:aJ N1 sj (ay vA):=c8
theorem Jk {T:TC} {e:Ec} (F:i8 K T.hold "hand" "Hold.hand" vA f fd) (X:Txt K T) (lM:Mx P w K mg base 1 T.hold "part_of" iJ (AJ T e)) (iU:Mx P w K mg base 1 T.hold "place_of" jC (Di T e)) (iM:Mn P w K mg base 1 T.hold "tops_of" kj (Gy T)) (fF:Mn P w K mg base 1 T.hold "beyond_common" gq (Rq T K)):Mx P w K mg base 2 T.hold "hand" sj (P_ T e):=by
 refine F.UP l_ fun cdv A outer s H vs Q E hr h=>?_
 obtain ⟨⟨n,ρ,A,st,x,o,rfl,hh,hs,dq⟩⟩:=h
 refine ⟨_,(@cK.h _ _ _ (aj (aN (i:=3) l_.nd (BW lM hr (qv 0) (af (qv 1) ao)))
  (aj (aN (i:=4) l_.nd (BW iU hr (qv 0) (af (qv 2) ao)))
  (aj (aN (i:=5) l_.nd (BW iU hr (qv 0) (af (a_ K (qv 3)) ao)))
  (aj (cQ (aZ ir (qv 4) (qv 5) (br _)) (au ZT) aX)
  (aj (aN (i:=6) l_.nd (gm iM hr (qv 0) (af (qv 3) ao)))
  (aj (ZR (qv 6) (qv 4) Xh (aI (aK K) (qv 6) (qv 5)) aaF set_list)
  (aj (nE ak (nF (qv 6) (qv 5) set_list))
  (aj (dP K (qv 3) (qv 2))
  (aj (dP K (qv 3) ak)
  (au (dP K (qv 3) (gm fF hr (qv 0) (af (qv 6) ao)))))))))))))),?_⟩
 have wf:=hh.wf
 refine ⟨_,Z,A.a,A.dx,_,Z,hh.h.oa,Z,_,Z,⟨⟨n,ρ,A,st,x,Z,hh.h,wf.j9,fun hn=>dq.no 3 ?_,fun i p qq e1 e2 e3=>?_⟩⟩⟩
 . unfold jy;rw [az (fun z=>?_)]
   obtain ⟨j,p,h1,h2⟩:=RN z
   exact hn p (bJ h1) h2
 have iE:=bJ e2
 have eg:c9 st x=p:=jM wf iE e1
 subst e1
 have hm:=aeT e2
 refine ⟨_,Z,A.a,A.dx,_,Z,hh.h.oa,Z,_,Z,⟨⟨n,ρ,A,st,o,Z,hh.h,fun ho=>dq.no 2 (by unfold jy;rw [aA hm,az ho]),fun ho=>?_⟩⟩⟩
 have eR:jy st p.nm o=none:=by unfold jy;rw [aA hm,aA ho]
 have q:=dq.ok eR
 have wS:=Z7 wf eR hs
 obtain ⟨k1,k2,k3,k4⟩:=hh.h.opt i p qq e2 e3
 have Yq:=wf.ow p iE
 refine ⟨_,Z,A.a,A.dx,_,Z,hh.h.oa,Z,_,Z,qq.1,T.part,qq.2.1,_,_,Z,k1,X.cP,X.pow,Z,⟨⟨n,ρ,A,st,p.ow,Z,hh.h,fun z=>absurd Yq z,fun _=>?_⟩⟩⟩
 refine ⟨_,Z,_,Z,Z,_,Z,dW (fun c=>?_) (fun c=>?_)⟩
 . have c':st.own.idxOf o=st.own.idxOf p.ow:=by have:=V.int.inj (eO c);omega
   unfold rX at q
   rw [eg,aA c'] at q
   exact q ρ A H hh rfl Fr.refl
 have ne:st.own.idxOf o≠st.own.idxOf p.ow:=fun z=>c (cy (by rw [z]))
 have hl:=Qa wf iE
 have ha:st.own.idxOf p.ow<(bh st p).length:=by rw [hl];exact zV Yq
 have hb:st.own.idxOf o<(bh st p).length:=by rw [hl];exact zV ho
 have at':∀{l:List Int} {j:Nat},j<l.length->oU (l.map V.int) (j:Int)=some (.int (l.getD j 0)):=fun {l j} h=>aT (by rw [bF,gG,aW h];rfl)
 unfold rX at q wS
 rw [eg,az ne,ZX wf.j9 e2] at q wS
 generalize hTT:nP st p o=TT at *
 rw [vd] at hTT
 refine ⟨_,Z,A.a,A.dx,_,Z,hh.h.oa,Z,_,Z,⟨⟨n,ρ,A,st,i,p,qq,Z,hh.h,wf,e2,e3,fun l H1 g1 jD hl1=>?_⟩⟩⟩
 have cl:ρ l=none:=hh.g.none jD
 refine ⟨_,Z,_,Z,l,_,_,_,Z,Z,aC.of hl1,at' hb,_,Z,_,Z,l,_,_,_,Z,Z,aC.of hl1,at' ha,_,_,Z,Z,l,_,_,st.own.idxOf o,Z,Z,hl1,by rw [aE];exact oX hb,?_⟩
 have m1:(List.map V.int (bh st p)).set (st.own.idxOf o) (.int ((bh st p).getD (st.own.idxOf o) 0+(bh st p).getD (st.own.idxOf p.ow) 0))=((bh st p).set (st.own.idxOf o) ((bh st p).getD (st.own.idxOf o) 0+(bh st p).getD (st.own.idxOf p.ow) 0)).map V.int:=lD.symm
 rw [m1]
 refine ⟨_,Z,_,Z,l,_,_,st.own.idxOf p.ow,Z,Z,ai,by rw [aE,fq];exact oX ha,?_⟩
 have m2:(((bh st p).set (st.own.idxOf o) ((bh st p).getD (st.own.idxOf o) 0+(bh st p).getD (st.own.idxOf p.ow) 0)).map V.int).set (st.own.idxOf p.ow) (.int 0)=TT.map V.int:=by rw [<-hTT];exact lD.symm
 rw [m2,qP]
 have g3:aF H (upd H1 l (.lst (TT.map V.int))):=g1.cD jD _
 have hl3:upd H1 l (.lst (TT.map V.int)) l=some (.lst (TT.map V.int)):=ai
 generalize upd H1 l (.lst (TT.map V.int))=H3 at *
 have lJ:=hh.mono g3
 have c3:=g3 _ _ k1
 have hi:i<st.ah.length:=(dI.mp e2).1
 have tl:TT.length=st.own.length:=by rw [<-hTT,GO,hl]
 clear hl1 g1 m1 m2
 refine ⟨_,Z,_,Z,qq.1,T.part,qq.2.1,_,Z,c3,X.cP,X.pow,by show 6<1000;decide,?_⟩
 have hA:=lJ.h.sS (p1:={ p with ow:=o }) lJ.g e2 e3 rfl rfl wf.j9
 have gA:Gh ρ (upd H3 qq.1 (.ins T.part qq.2.1 (eU { p with ow:=o } qq.2.2))):=lJ.g.wr rfl
 have FA:Fr n ρ H ρ (upd H3 qq.1 (.ins T.part qq.2.1 (eU { p with ow:=o } qq.2.2))):=(Fr.of_same g3).trans (Fr.write k3)
 have kA:upd H3 qq.1 (.ins T.part qq.2.1 (eU { p with ow:=o } qq.2.2)) qq.1=some (.ins T.part qq.2.1 (eU { p with ow:=o } qq.2.2)):=ai
 have nA:∀b,upd H3 qq.1 (.ins T.part qq.2.1 (eU { p with ow:=o } qq.2.2)) b=none->H b=none:=fun b h=>g3.free (LX h)
 have lA:upd H3 qq.1 (.ins T.part qq.2.1 (eU { p with ow:=o } qq.2.2)) l=some (.lst (TT.map V.int)):=by rw [av (fun z=>by rw [z,k3] at cl;cases cl)];exact hl3
 show z7 _ _ _ _ (upd H3 qq.1 (.ins T.part qq.2.1 (eU { p with ow:=o } qq.2.2)))
 generalize upd H3 qq.1 (.ins T.part qq.2.1 (eU { p with ow:=o } qq.2.2))=H4 at *
 refine ⟨_,Z,qq.1,T.part,qq.2.1,_,Z,kA,X.cP,X.Pg,by show 6<1000;decide,?_⟩
 have ndA:((st.ah.set i { p with ow:=o }).map (·.nm)).Nodup:=by rw [lD,lW (by rw [bF,e2];rfl)];exact wf.j9
 have hB:=hA.sS (i:=i) (p1:={ p with ow:=o,sc:=1 }) gA (j5 hi) e3 rfl rfl ndA
 have gB:Gh ρ (upd H4 qq.1 (.ins T.part qq.2.1 (eU { p with ow:=o,sc:=1 } qq.2.2))):=gA.wr rfl
 have FB:Fr n ρ H ρ (upd H4 qq.1 (.ins T.part qq.2.1 (eU { p with ow:=o,sc:=1 } qq.2.2))):=FA.trans (Fr.write k3)
 have kB:upd H4 qq.1 (.ins T.part qq.2.1 (eU { p with ow:=o,sc:=1 } qq.2.2)) qq.1=some (.ins T.part qq.2.1 (eU { p with ow:=o,sc:=1 } qq.2.2)):=ai
 have lB:upd H4 qq.1 (.ins T.part qq.2.1 (eU { p with ow:=o,sc:=1 } qq.2.2)) l=some (.lst (TT.map V.int)):=by rw [av (fun z=>by rw [z,k3] at cl;cases cl)];exact lA
 have nB:∀b,upd H4 qq.1 (.ins T.part qq.2.1 (eU { p with ow:=o,sc:=1 } qq.2.2)) b=none->H b=none:=fun b h=>nA b (LX h)
 have eSS:(st.ah.set i { p with ow:=o }).set i { p with ow:=o,sc:=1 }=st.ah.set i { p with ow:=o,sc:=1 }:=mK ..
 have hB:aR T n ρ A (upd H4 qq.1 (.ins T.part qq.2.1 (eU { p with ow:=o,sc:=1 } qq.2.2))) { st with ah:=st.ah.set i { p with ow:=o,sc:=1 } }:=by rw [<-eSS];exact hB
 generalize hH5:upd H4 qq.1 (HO.ins T.part qq.2.1 (aV _ _ _))=H5
 have ah4:upd H4 qq.1 (.ins T.part qq.2.1 (eU { p with ow:=o,sc:=1 } qq.2.2))=H5:=hH5
 rw [ah4] at hB gB FB kB lB nB
 clear hA gA FA kA nA lA
 have ol:=wf.qU
 refine ⟨_,Z,A.a,A.dx,_,Z,hB.oa,Z,_,Z,⟨⟨n,ρ,A,_,l,TT,Z,hB,aC.of lB,by show _=st.bM.length;rw [tl,wf.g_],by omega,fun r H6 g6 hr0 hr1=>?_⟩⟩⟩
 have cr:ρ r=none:=gB.none hr0
 have h6:=hB.mono g6
 have G6:=gB.same g6
 have F6:Fr n ρ H (cE ρ r (n,21,p.nm)) H6:=(FB.trans (Fr.of_same (ρ:=ρ) g6)).uU (nB _ hr0)
 have hC:aR T n (cE ρ r (n,21,p.nm)) A H6 _:=h6.same ⟨fun _ _ e=>e,fun b u x w _ hc he=>⟨he,by rw [cu (fun z=>by rw [z,cr] at hc;cases hc)];exact hc⟩⟩
 have GC:Gh (cE ρ r (n,21,p.nm)) H6:=G6.color hr1 rfl
 have ndB:((st.ah.set i { p with ow:=o,sc:=1 }).map (·.nm)).Nodup:=by rw [lD,lW (by rw [bF,e2];rfl)];exact wf.j9
 have hD:=hC.Xg (p1:={ p with ow:=o,sc:=1,row:=m8 st TT }) GC (j5 hi) e3 rfl dH hr1 ndB
 refine ⟨_,Z,qq.1,T.part,qq.2.1,_,Z,g6 _ _ kB,X.cP,X.TU,by show 6<1000;decide,?_⟩
 refine q _ { A with qs:=A.qs.set i (qq.1,qq.2.1,r) } _ ⟨GC.wr rfl,?_,wS⟩ rfl (F6.trans (Fr.write (t:=20) (x:=p.nm) (by rw [cu (fun z=>by rw [<-z,k3] at cr;cases cr)];exact k3)))
 have eS2:(st.ah.set i { p with ow:=o,sc:=1 }).set i { p with ow:=o,sc:=1,row:=m8 st TT }=st.ah.set i { p with ow:=o,sc:=1,row:=m8 st TT }:=mK ..
 rw [<-eS2]
 exact hD
abbrev vB:Stmt:=top 29
abbrev fk:List Str:=["_law_script","_law_k","_law_j","_law_many"]
abbrev N3:List Str:=fk.append ["_law_cell","_law_turn","_law_rest","_law_step","_law_one","_law_two"]
theorem fj:aJ N3 fk (ay vB):=c8
theorem Mu (F:At K mg "_law_draw" vB f fd) (bq:mg "len"=none) (bL:mg "range"=none):Dn P w K mg base 1 "_law_draw" fk (lU K):=by
 refine F.oA fj fun cdv A outer s H vs Q E hr h=>?_
 obtain ⟨⟨a,ns,k,j,many,rfl,hS,h63,hk,hj,hj2,hm,q⟩⟩:=h
 refine ⟨_,(@cK.h _ _ _ (aj (aN (i:=4) fj.nd ak)
  (aj (aN (i:=5) fj.nd ak)
  (aj (ie (aZ jU (aG (bV K) (by rfl) bq dF (af (qv 0) ao)) ak (br _)) (aj (aN (i:=4) fj.nd (aI (aK K) (qv 0) (aD j6 (qv 1) (aG (bV K) (by rfl) bq dF (af (qv 0) ao)))))
  (au (aN (i:=5) fj.nd (aD gO (qv 1) (aG (bV K) (by rfl) bq dF (af (qv 0) ao)))))) aX)
  (aj (aN (i:=6) fj.nd (qv 4))
  (aj (dR eE rfl (dS (by rfl) bL (af (qv 2) ao)) (aQ (i:=7) fj.nd) (au (aN (i:=6) fj.nd (aD gO (qv 6) (aD pN ak ak)))))
  (aj (cQ (fD (bW.pt (vc (aZ ir (qv 5) ak (br _)) (vc (aZ QV (qv 4) (aD pN ak ak) (br _)) (uA (aZ jU (qv 6) ak (br _))))))) (au (aS (aD j6 (aD j6 (qv 6) (aD pN ak ak)) (qv 3)))) aX)
  (aj (aN (i:=8) fj.nd (aD j6 (aD cg (aD cg (aD cg (aD jl (qv 4) ak) (aD jl (qv 1) ak)) (aD jl (qv 2) ak)) ak) ak))
  (aj (aN (i:=9) fj.nd (aD j6 (aD cg (aD jl (qv 8) ak) (aD gO (qv 4) ak)) ak))
  (aj (aN (i:=9) fj.nd (aD j6 (aD cg (aD jl (qv 9) (aD cg (aD j6 (qv 8) ak) ak)) (qv 2)) ak))
  (au (aS (aD j6 (aD j6 (aD cg (aD cg (aD jl (qv 8) ak) (aD jl (qv 9) ak)) (aD gO (qv 9) ak)) ak) (qv 3)))))))))))))),?_⟩
 have hl:(ns.map V.int).length=ns.length:=aE _
 refine ⟨fun σ H'=>H'=H/\σ=[some (.ref a),some (.int k),some (.int j),some (.int many),some (.int (Jm.cellOf ns k)),some (.int (Jm.Af ns k)),none,none,none,none],?_,?_⟩
 . refine ⟨_,Z,a,_,Z, .inl hS,_,_,Z,Z,_,Z,?_⟩
   refine dW (fun c=>?_) (fun c=>?_)
   . have c':0<(((ns.map V.int).length:Nat):Int):=eO c
     rw [hl] at c'
     have i0:0<=k % (ns.length:Int):=nJ _ (by omega)
     have i1:k % (ns.length:Int)<(ns.length:Int):=yi _ c'
     refine ⟨_,Z,_,Z,_,Z,a,_,Z, .inl hS,_,_,Z,Z,(by show (0:Int)<_;rw [hl];exact c'),a,_,_, .int (ns.getD (k % ns.length).toNat 0),Z,Z,hS,?_,?_⟩
     . rw [hl]
       exact Y6 i0 i1
     refine ⟨_,Z,_,Z,a,_,Z, .inl hS,_,_,Z,Z,Wh (n:=10) (by rw [hl];exact c') (by rw [hl];omega) (by decide),Z,?_⟩
     unfold Jm.cellOf Jm.Af
     rw [aA c',aA c',hl]
     rfl
   . have c':¬ 0<(((ns.map V.int).length:Nat):Int):=uE (qO.mpr c)
     rw [hl] at c'
     refine ⟨Z,?_⟩
     unfold Jm.cellOf Jm.Af
     rw [az c',az c']
     rfl
 rintro σ H' ⟨rfl,rfl⟩
 generalize ec:Jm.cellOf ns k=cell at *
 generalize et:Jm.Af ns k=turn at *
 refine ⟨_,Z,_,Z,j,Z,by omega,hj2,?_⟩
 refine fW (lo:=0) (n:=j.toNat) (fun i σ EF=>EF=H'/\∃st:Option V,σ=[some (.ref a),some (.int k),some (.int j),some (.int many),some (.int cell),some (.int turn),some (.int (Jm.Ek cell i)),st,none,none]) ⟨Z,none,Z⟩ ?_ ?_
 . rintro i σ EF hi ⟨rfl,st,rfl⟩
   refine ⟨_,Z,_,_,Z,Z,⟨by decide,by decide,by decide⟩,_,_,Z,Z,Ae (by decide +kernel),Z,?_⟩
   exact ⟨_,Z⟩
 rintro σ EF ⟨rfl,st,rfl⟩
 have full:Q (.int (Jm.draw ns k j many)) EF:=q
 unfold Jm.draw at full
 rw [ec,et] at full
 generalize er:Jm.Ek cell j.toNat=rest at *
 refine ⟨decide (turn=0/\1000000000000000000<=cell/\0<rest),?_,?_⟩
 . refine ⟨_,Z,Z,_,Z,?_⟩
   by_cases h1:turn=0
   . rw [cy (by rw [h1] :V.int turn=V.int 0)]
     refine qT ⟨_,Z,_,_,Z,Z,⟨by decide,by decide,by decide⟩,_,_,Z,Z,_,Z,?_⟩
     by_cases h2:1000000000000000000<=cell
     . rw [cy (show (10:Int) ^ (18:Int).toNat<=cell from h2)]
       refine qT ⟨_,Z,_,_,Z,Z,_,Z,?_,Z⟩
       by_cases h3:0<rest
       . rw [cy h3,cy ⟨h1,h2,h3⟩]
       . rw [d8 h3,d8 fun z=>h3 z.2.2]
     . rw [d8 (show ¬ (10:Int) ^ (18:Int).toNat<=cell from h2)]
       exact cW ⟨(d8 fun z=>h2 z.2.1).symm,Z⟩
   . rw [d8 (fun z=>h1 (V.int.inj z))]
     exact cW ⟨(d8 fun z=>h1 z.1).symm,Z⟩
 by_cases h:turn=0/\1000000000000000000<=cell/\0<rest
 . rw [cy h]
   rw [aA h] at full
   refine qT ⟨_,Z,_,_,Z,Z,⟨by decide,by decide,by decide⟩,_,_,Z,Z,(by show (0:Int)<_;decide),_,Z,_,_,Z,Z,hm,?_⟩
   exact full
 . rw [d8 h]
   rw [az h] at full
   refine cW ?_
   refine ⟨_,Z,_,_,Z,Z, .inr ⟨by decide,by decide⟩,_,Z,_,_,Z,Z, .inr ⟨by decide,by decide⟩,_,_,Z,Z,_,Z,_,_,Z,Z, .inr ⟨by decide,by decide⟩,_,_,Z,Z,_,_,Z,Z,_,_,Z,Z,(by show (0:Int)<_;decide),?_⟩
   refine ⟨_,Z,_,_,Z,Z, .inr ⟨by decide,by decide⟩,_,Z,_,_,Z,Z,Ae (by decide +kernel),_,_,Z,Z,_,_,Z,Z,(by show (0:Int)<_;decide),?_⟩
   unfold Jm.mixed at full
   dsimp only at full ⊢
   generalize e1:(cell*7919+k*104729+j*1299709+31) % 1000000007=one at *
   generalize e2:(one*48271+cell / 1009) % 998244353=two at *
   have b1:0<=one % 9973:=nJ _ (by decide)
   have b2:one % 9973<9973:=yi _ (by decide)
   refine ⟨_,Z,_,Z,_,_,Z,Z,(by show (0:Int)<_;decide),_,_,Z,Z,_,_,Z,Z, .inr ⟨by omega,by omega⟩,_,Z,_,_,Z,Z,_,_,Z,Z,(by show (0:Int)<_;decide),?_⟩
   refine ⟨_,Z,_,_,Z,Z, .inr ⟨by decide,by decide⟩,_,Z,_,_,Z,Z, .inr ⟨by decide,by decide⟩,_,_,Z,Z,_,Z,_,_,Z,Z,Ae (by decide +kernel),_,_,Z,Z,_,_,Z,Z,(by show (0:Int)<_;decide),_,Z,_,_,Z,Z,hm,?_⟩
   exact full
abbrev vC:Stmt:=top 30
abbrev sr:List Str:=["_law_code","_law_size"]
abbrev N4:List Str:=sr.append ["_law_word","_law_at_here"]
theorem mh:aJ N4 sr (ay vC):=c8
theorem Mv (F:At K mg "_law_name" vC f fd) (bL:mg "range"=none):Dn P w K mg base 1 "_law_name" sr Gr:=by
 refine F.oA mh fun cdv A outer s H vs Q E hr h=>?_
 obtain ⟨⟨c,n,rfl,hc,hn,q⟩⟩:=h
 refine ⟨_,(@cK.h _ _ _ (aj (aN (i:=2) mh.nd bf)
  (aj (dR eE rfl (dS (by rfl) bL (af (qv 1) ao)) (aQ (i:=3) mh.nd) (aj (aN (i:=2) mh.nd (aD D7 (qv 2) (aI S3 bf (aD j6 (qv 0) ak))))
  (au (aN (i:=0) mh.nd (aD gO (qv 0) ak)))))
  (au (aS (qv 2)))))),?_⟩
 refine ⟨_,Z,_,Z,by omega,by omega,?_⟩
 refine fW (lo:=0) (n:=(n:Int).toNat) (fun i σ H'=>H'=H/\∃(s1:Option V),σ=[some (.int (c / 26 ^ i)),some (.int n),some (.str (tx (lF c i))),s1]) ⟨Z,none,by rw [Int.pow_zero,Br];rfl⟩ ?_ ?_
 . rintro i σ H' hi ⟨rfl,s1,rfl⟩
   have hp:(0:Int)<26 ^ i:=Int.pow_pos (by decide)
   have hd0:0<=c / 26 ^ i:=Int.ediv_nonneg hc (yq hp)
   have hm0:0<=c / 26 ^ i % 26:=nJ _ (by decide)
   have hm1:c / 26 ^ i % 26<26:=yi _ (by decide)
   refine ⟨_,Z,_,Z,_,_,Z,Z,(by show (0:Int)<26;decide),_,_,_,Z,Z,(by decide +kernel),Tv hm0 hm1,?_⟩
   refine ⟨_,_,Z,Z,?_,?_⟩
   . rw [kr,yw]
     show i+1<=sizeLine
     exact DW (eZ (by omega))
   refine ⟨_,Z,_,_,Z,Z,uK (by decide) (pU (by decide +kernel)),Z,some (.int ((0:Int)+(i:Int))),?_⟩
   have e1:c / 26 ^ i / 26=c / 26 ^ (i+1):=by rw [Int.ediv_ediv_of_nonneg (yq hp),Int.pow_succ]
   have e2:(tx (lF c i)++tx [97+(c / 26 ^ i % 26).toNat] :Str)=tx (lF c (i+1)):=by rw [Tt,Ws]
   rw [<-e1,<-e2]
   rfl
 rintro σ H' ⟨rfl,s1,rfl⟩
 refine ⟨_,Z,?_⟩
 rw [wM]
 exact q
abbrev tR:Stmt:=top 31
abbrev qx:List Str:=["_law_script","_law_k","_law_many"]
abbrev Mw:List Str:=qx.append ["_law_alike","_law_size","_law_first","_law_shift","_law_at_here","_law_names_here","_law_code"]
theorem dD:aJ Mw qx (ay tR):=c8
theorem Jl (F:At K mg "_law_names" tR f fd) (aO:Dn P w K mg base 1 "_law_draw" fk (lU K)) (su:Dn P w K mg base 1 "_law_name" sr Gr) (bL:mg "range"=none):Dn P w K mg base 2 "_law_names" qx (Gs K):=by
 refine F.oA dD fun cdv A outer s H vs Q E hr h=>?_
 obtain ⟨⟨a,ms,k,many,rfl,hS,h63,hk,hm,q⟩⟩:=h
 refine ⟨_,(@cK.h _ _ _ (aj (aN (i:=3) dD.nd (uB ir (aY aO hr (af (qv 0) (af (qv 1) (af ak (af ak ao))))) ak (br _)))
  (aj (aN (i:=4) dD.nd (aD cg ak (aY aO hr (af (qv 0) (af (qv 1) (af ak (af ak ao)))))))
  (aj (aN (i:=5) dD.nd (aY aO hr (af (qv 0) (af (qv 1) (af ak (af (aD pN ak ak) ao))))))
  (aj (aN (i:=6) dD.nd ak)
  (aj (ie (dw (qv 3)) (au (dR eE rfl (dS (by rfl) bL (af (aY aO hr (af (qv 0) (af (qv 1) (af ak (af (qv 4) ao))))) ao)) (aQ (i:=7) dD.nd) (au (aN (i:=6) dD.nd (aD jl (qv 6) ak))))) aX)
  (aj (aN (i:=8) dD.nd (eF ao))
  (aj (dR eE rfl (dS (by rfl) bL (af (qv 2) ao)) (aQ (i:=7) dD.nd) (aj (aN (i:=9) dD.nd (aD cg (qv 5) (aD jl (qv 6) (aY aO hr (af (qv 0) (af (qv 1) (af (aD cg ak (aD jl ak (qv 7))) (af ak ao))))))))
  (aj (ie (dN (dw (qv 3))) (aj (aN (i:=4) dD.nd (aD cg ak (aY aO hr (af (qv 0) (af (qv 1) (af (aD cg ak (aD jl ak (qv 7))) (af ak ao)))))))
  (au (aN (i:=9) dD.nd (aY aO hr (af (qv 0) (af (qv 1) (af (aD cg ak (aD jl ak (qv 7))) (af (aD pN ak ak) ao)))))))) aX)
  (aj (Dj eE (aZ S7 (aY su hr (af (qv 9) (af (qv 4) ao))) (qv 8) (by with_unfolding_all rfl)) (au (aN (i:=9) dD.nd (aD cg (qv 9) (qv 6)))))
  (au (dm (uo yf yc yd gZ (qv 8) (af (aY su hr (af (qv 9) (af (qv 4) ao))) ao))))))))
  (au (aS (qv 8))))))))))),?_⟩
 have P10:QU 10 10:=⟨by decide,by decide,by decide +kernel⟩
 refine ⟨_,Z,_,Z,cT hS h63 hk (by decide) (by decide) (by decide) fun al _ _ _=>⟨Z,?_⟩⟩
 refine ⟨_,Z,_,Z,cT hS h63 hk (by decide) (by decide) (by decide) fun sd _ s0 s1=>⟨_,_,Z,Z,?_⟩⟩
 refine ⟨_,Z,_,Z,_,_,Z,Z,P10,cT hS h63 hk (by decide) (by decide) (by decide +kernel) fun fc _ f0 f1=>?_⟩
 generalize hal:decide (V.int al=V.int 0)=alike
 obtain ⟨n0,en0⟩:∃n:Nat,1+sd=(n:Int):=⟨(1+sd).toNat,by omega⟩
 refine ⟨fun σ H'=>H'=H/\∃(d:Nat) (s7:Option V),(alike=true->d<n0)/\(alike=false->d=0)/\d<8/\σ=[some (.ref a),some (.int k),some (.int many),some (.bl alike),some (.int (1+sd)),some (.int fc),some (.int ((26:Int) ^ d)),s7,none,none],?_,?_⟩
 . refine ⟨_,Z,_,Z,dW (fun c=>?_) (fun c=>?_)⟩
   . refine ⟨_,Z,_,Z,_,Z,cT hS h63 hk (by decide) (by decide) (by omega) fun dd _ d0 d1=>⟨dd,Z,by omega,by omega,?_⟩⟩
     refine fW (lo:=0) (n:=dd.toNat) (fun i σ H'=>H'=H/\∃s7:Option V,σ=[some (.ref a),some (.int k),some (.int many),some (.bl alike),some (.int (1+sd)),some (.int fc),some (.int ((26:Int) ^ i)),s7,none,none]) ⟨Z,none,Z⟩ ?_ ?_
     . rintro i σ H' hi ⟨rfl,s7,rfl⟩
       refine ⟨_,Z,_,_,Z,Z, .inr ⟨by decide,by decide⟩,Z,some (.int ((0:Int)+(i:Int))),?_⟩
       rw [Int.pow_succ]
       rfl
     . rintro σ H' ⟨rfl,s7,rfl⟩
       exact ⟨Z,dd.toNat,s7,fun _=>by omega,fun z=>absurd c (by rw [z];exact fM),by omega,Z⟩
   . exact ⟨Z,0,none,fun z=>absurd z c,fun _=>rfl,by decide,Z⟩
 rintro σ H' ⟨rfl,d,s7,hd1,hd2,hd8,rfl⟩
 refine ⟨(i_ 0),fun pn EN=>?_⟩
 have g0:=aB EN (.lst [])
 refine ⟨_,Z,(many:Int),Z,by omega,by omega,?_⟩
 refine fW (lo:=0) (n:=(many:Int).toNat) (fun i σ H2=>aF H' H2/\∃(nss:List (List Nat)) (n:Nat) (s1 s2:Option V),d<n/\n<=8/\σ=[some (.ref a),some (.int k),some (.int many),some (.bl alike),some (.int (n:Int)),some (.int fc),some (.int ((26:Int) ^ d)),s1,some (.ref pn),s2]/\H2 pn=some (.lst (sP nss))/\nss.length=i/\nss.Nodup/\∀x∈nss,pW x)
  ⟨g0,[],n0,s7,none,?_,by omega,by rw [<-en0];rfl,ai,Z,vV,fun _ m=>nomatch m⟩ ?_ ?_
 . cases alike with
   | true=>exact hd1 rfl
   | false=>rw [hd2 rfl];omega
 . rintro i σ H2 hi ⟨g,nss,n,s1,s2,hdn,Qj,rfl,hn,hnl,hnd,hok⟩
   have hsl:(sP nss).length=i:=by unfold sP;rw [aE];exact hnl
   have hSg:=g.seq hS
   have hp:(0:Int)<26 ^ d:=Int.pow_pos (by decide)
   have U0:(26:Int) ^ d<2 ^ 64:=by
    rcases (by omega:d=0\/d=1\/d=2\/d=3\/d=4\/d=5\/d=6\/d=7) with e|e|e|e|e|e|e|e <;> (rw [e];decide +kernel)
   refine ⟨_,Z,_,Z,_,Z,_,Z,_,Z,_,_,Z,Z, .inl ⟨by decide,by decide⟩,_,_,Z,Z,cT hSg h63 hk (by omega) (by omega) (by decide) fun cd _ c0 c1=>⟨_,_,Z,Z, .inl ⟨by omega,U0⟩,_,_,Z,Z,?_⟩⟩
   have hcode:0<=fc+26 ^ d*cd:=Int.add_nonneg f0 (nK (yq hp) c0)
   refine ⟨fun σ H3=>H3=H2/\∃(n:Nat) (c:Int),0<=c/\d<n/\n<=8/\σ=[some (.ref a),some (.int k),some (.int many),some (.bl alike),some (.int (n:Int)),some (.int fc),some (.int ((26:Int) ^ d)),some (.int ((0:Int)+(i:Int))),some (.ref pn),some (.int c)],?_,?_⟩
   . refine ⟨_,Z,_,Z,?_⟩
     cases hb:alike with
     | true=>exact cW ⟨Z,n,_,hcode,hdn,Qj,Z⟩
     | false=>
       refine qT ?_
       have hd0:=hd2 hb
       refine ⟨_,Z,_,Z,_,Z,_,_,Z,Z, .inl ⟨by decide,by decide⟩,_,_,Z,Z,cT hSg h63 hk (by omega) (by omega) (by decide) fun zd _ z0 z1=>⟨_,_,Z,Z,?_⟩⟩
       refine ⟨_,Z,_,Z,_,Z,_,_,Z,Z, .inl ⟨by decide,by decide⟩,_,_,Z,Z,_,_,Z,Z,P10,cT hSg h63 hk (by omega) (by omega) (by decide +kernel) fun cd2 _ e0 _=>?_⟩
       refine ⟨Z,(1+zd).toNat,cd2,e0,by omega,by omega,?_⟩
       rw [show (((1+zd).toNat:Nat):Int)=1+zd from by omega]
       rfl
   clear hdn Qj hcode
   rintro σ H3 ⟨rfl,n,wC,cc0,hdn,Qj,rfl⟩
   refine ⟨fun m σ H4=>H4=H3/\∃t:Nat,m=nss.length+1-t/\t<=nss.length/\σ=[some (.ref a),some (.int k),some (.int many),some (.bl alike),some (.int (n:Int)),some (.int fc),some (.int ((26:Int) ^ d)),some (.int ((0:Int)+(i:Int))),some (.ref pn),some (.int (wC+(t:Int)*26 ^ d))]/\∀j:Nat,j<t->lF (wC+(j:Int)*26 ^ d) n∈nss,
    ⟨_,Z,0,Z,f_ _,by rw [show wC+((0:Nat):Int)*26 ^ d=wC from by simp],fun j hj=>absurd hj (Nat.not_lt_zero _)⟩,?_⟩
   rintro m σ H4 ⟨rfl,t,rfl,ht,rfl,htr⟩
   have hct:0<=wC+(t:Int)*26 ^ d:=Int.add_nonneg cc0 (nK (by omega) (yq hp))
   refine ⟨_,Z,_,Z,KY rfl hct (by omega) ?_⟩
   refine ⟨_,Z,pn,_,Z, .inl (aC.of hn),Z,Wv nss,?_⟩
   show SG _ (V.bl (if false=true then !Ed (.str (tx (lF (wC+(t:Int)*26 ^ d) n))) (sP nss) else Ed (.str (tx (lF (wC+(t:Int)*26 ^ d) n))) (sP nss))) _
   rw [az fM,Pb]
   refine ⟨_,Z,dW (fun c=>?_) (fun c=>?_)⟩
   . have hmem:lF (wC+(t:Int)*26 ^ d) n∈nss:=eO c
     have adg:∀j:Nat,j<t+1->lF (wC+(j:Int)*26 ^ d) n∈nss:=fun j hj=>by
      rcases Nat.lt_succ_iff_lt_or_eq.mp hj with z|z
      . exact htr j z
      . rw [z];exact hmem
     have hle:=TF (c:=wC) (n:=n) (t:=t+1) hdn (by omega) adg
     refine ⟨_,fun _ _ z=>z,?_⟩
     refine ⟨_,Z,_,Z,_,_,Z,Z,?_⟩
     refine ⟨_,(by omega:nss.length+1-(t+1)<nss.length+1-t),Z,t+1,Z,hle,?_,adg⟩
     rw [show wC+((t+1:Nat):Int)*26 ^ d=wC+(t:Int)*26 ^ d+26 ^ d from by rw [Int.natCast_add,rP];show _+(_+1*_)=_;rw [Int.one_mul,Int.add_assoc]]
     rfl
   . have hnm:lF (wC+(t:Int)*26 ^ d) n∉nss:=uE (qO.mpr c)
     refine ⟨_,Z, .inl ⟨Z,_,aC.of hn⟩,?_⟩
     refine ⟨_,Z,_,Z,KY rfl hct (by omega) ?_⟩
     refine ⟨pn,sP nss,_,Z,Z,hn,eZ (by omega),g.cD EN _,nss++[lF (wC+(t:Int)*26 ^ d) n],n,_,_,hdn,Qj,Z,?_,?_,oW hnd hnm,fun x hx=>?_⟩
     . rw [ai]
       unfold sP
       rw [bN]
       rfl
     . rw [dh,hnl]
       rfl
     . rcases fZ.mp hx with z|z
       . exact hok x z
       . rw [fU.mp z]
         exact abD _ (by omega) Qj
 rintro σ H2 ⟨g,nss,n,s1,s2,hdn,Qj,rfl,hn,hnl,hnd,hok⟩
 exact ⟨_,Z,q pn nss H2 g hn EN (by omega) hnd hok⟩
abbrev vD:Stmt:=top 33
abbrev sy:List Str:=["_law_script","_law_k","_law_j"]
abbrev N5:List Str:=sy.append ["_law_size"]
theorem AV:aJ N5 sy (ay vD):=c8
theorem My (F:At K mg "_law_much" vD f fd) (aO:Dn P w K mg base 1 "_law_draw" fk (lU K)):Dn P w K mg base 2 "_law_much" sy (KW K):=by
 refine F.oA AV fun cdv A outer s H vs Q E hr h=>?_
 obtain ⟨⟨a,ns,k,j,rfl,hS,h63,hk,hj,hj2,q⟩⟩:=h
 refine ⟨_,(@cK.h _ _ _ (aj (aN (i:=3) AV.nd (aI (aK K) (eF (af ak (af ak (af ak (af (aD pN ak ak) ao))))) (aY aO hr (af (qv 0) (af (qv 1) (af (qv 2) (af ak ao)))))))
  (au (aS (aD cg ak (aY aO hr (af (qv 0) (af (qv 1) (af (aD cg (qv 2) ak) (af (qv 3) ao)))))))))),?_⟩
 refine ⟨_,_,Z,Z,⟨by decide,by decide,by decide⟩,(i_ 4),fun p1 hp1=>?_⟩
 have g1:=aB hp1 (.lst [V.int 9,V.int 40,V.int 1000,V.int (10 ^ (9:Int).toNat)])
 refine ⟨_,Z,_,Z,_,Z,cT (g1.seq hS) h63 hk hj (by omega) (by decide) fun d _ d0 d1=>?_⟩
 obtain ⟨B,hB,hB0,hB1⟩:∃B:Int,oU [V.int 9,V.int 40,V.int 1000,V.int (10 ^ (9:Int).toNat)] d=some (.int B)/\0<B/\B<=1000000000:=by
  rcases (by omega:d=0\/d=1\/d=2\/d=3) with e|e|e|e
  . exact ⟨9,by rw [e];rfl,by decide,by decide⟩
  . exact ⟨40,by rw [e];rfl,by decide,by decide⟩
  . exact ⟨1000,by rw [e];rfl,by decide,by decide⟩
  . exact ⟨10 ^ (9:Int).toNat,by rw [e];rfl,by decide,by decide⟩
 refine ⟨p1,_,_,_,Z,Z,aC.of ai,hB,?_⟩
 refine ⟨_,Z,_,Z,_,Z,_,_,Z,Z,_,Z,cT (g1.seq hS) h63 hk (by omega) (by omega) hB0 fun e _ e0 e1=>⟨_,_,Z,Z,?_⟩⟩
 exact q (1+e) _ (by omega) (by omega) g1
abbrev xg:Stmt:=top 53
abbrev kM:List Str:=["_law_found"]
abbrev RW:List Str:=kM
theorem N6:aJ RW kM (ay xg):=c8
theorem N7 (F:At K mg "_law_int" xg f fd) (aM:mg "isinstance"=none) (RX:mg "int"=none) (Mz:mg "bool"=none):Dn P w K mg base 1 "_law_int" kM El:=by
 refine F.oA N6 fun cdv A outer s H vs Q E hr h=>?_
 obtain ⟨i,rfl,q⟩:=h
 refine ⟨_,(@cK.h _ _ _ (au (aS (LQ (aG (cY K) (by rfl) aM j0 (af (qv 0) (af (jz PyProof.Rows.boot_int rfl RX) ao))) (LN (acB (aG (cY K) (by rfl) aM j0 (af (qv 0) (af (jz PyProof.Rows.boot_bool rfl Mz) ao))))))))),?_⟩
 refine ⟨_,Z,_,_,_,_,Z,gH.int i,iy,_,Z,qT ?_⟩
 refine ⟨_,Z,_,_,_,_,Z,gH.int i,KL,_,Z,?_⟩
 exact q
abbrev tS:Stmt:=top 55
abbrev mj:List Str:=["_law_top","_law_bottom"]
abbrev MA:List Str:=mj.append ["_law_one","_law_other"]
theorem nX:aJ MA mj (ay tS):=c8
theorem Jo (F:At K mg "_law_least" tS f fd) (RY:mg "abs"=none):Dn P w K mg base 1 "_law_least" mj BI:=by
 refine F.oA nX fun cdv A outer s H vs Q E hr h=>?_
 obtain ⟨⟨t,b,rfl,hb,hb2,q⟩⟩:=h
 refine ⟨_,(@cK.h _ _ _ (aj (aN (i:=2) nX.nd (aG VU (by rfl) RY PyProof.Rows.boot_abs (af (qv 0) ao)))
  (aj (aN (i:=3) nX.nd (qv 1))
  (aj (Dj eE (aZ pO (qv 3) ak (br _)) (au (UN (i:=2) (j:=3) rfl nX.nd rfl rfl (by decide) rfl rfl (af (qv 3) (af (aD j6 (qv 2) (qv 3)) ao)) (by rfl))))
  (au (aS (jA (af (aD gO (qv 0) (qv 2)) (af (aD gO (qv 1) (qv 2)) ao))))))))),?_⟩
 refine ⟨_,Z,_,Z,_,Z,?_⟩
 refine ⟨fun m σ H'=>∃x y:Int,m=y.toNat/\σ=[some (.int t),some (.int b),some (.int x),some (.int y)]/\H'=H/\0<=x/\0<=y/\Jm.cf x y=Jm.cf b t,
  ⟨_,(if t<0 then -t else t),b,Z,Z,Z,(by split <;> omega),yq hb,(by rw [Jm.O9,Jm.abn])⟩,?_⟩
 rintro m σ H' ⟨x,y,rfl,rfl,rfl,hx,hy,e⟩
 refine ⟨_,Z,Z,_,Z,dW (fun c=>?_) (fun c=>?_)⟩
 . have c1:¬ V.int y=V.int 0:=uE (by simpa using c)
   have c':0<y:=by
    have:y≠0:=fun z=>c1 (by rw [z])
    omega
   refine ⟨_,fun _ _ z=>z,?_⟩
   refine ⟨_,Z,_,Z,_,Z,_,_,Z,Z,c',_,_,Z,?_⟩
   have h1:0<=x % y:=nJ _ (by omega)
   have h2:x % y<y:=yi _ c'
   exact ⟨_,(by omega:(x % y).toNat<y.toNat),y,x % y,Z,Z,Z,hy,h1,(Jm.Gn x y c').trans e⟩
 . have c1:V.int y=V.int 0:=by simpa using c
   have ey:y=0:=V.int.inj c1
   subst ey
   rw [Jm.O8 x hx] at e
   subst e
   have g0:0<Jm.cf b t:=Jm.Ej _ _ (.inl hb)
   have g1:Jm.Sz 9000 (Jm.cf b t):=hb2.dvd hb (yq g0) (Jm.rT b t)
   have gd:∀i,BF i (Jm.cf b t):=fun i=>uK g0 g1
   refine ⟨_,Z,_,Z,_,_,Z,Z,gd _,_,Z,_,Z,_,_,Z,Z,gd _,(i_ 2),fun p hp=>?_⟩
   refine q p _ (aB hp _) ?_
   rw [ai]
   show some (HO.tup [V.int (t / Jm.cf b t),V.int (b / Jm.cf b t)])=some (HO.tup [V.int (Jm.fr t b).num,V.int ((Jm.fr t b).den:Int)])
   rw [Jm.Tf t b hb,Jm.KN t b hb]
abbrev yY:Stmt:=top 56
abbrev wD:List Str:=["_law_found","_law_top","_law_bottom"]
abbrev U8:List Str:=wD
theorem RZ:aJ U8 wD (ay yY):=c8
theorem R0 (F:At K mg "_law_is" yY f fd) (eL:Dn P w K mg base 1 "_law_int" kM El) (kq:Dn P w K mg base 1 "_law_least" mj BI)
  (aM:mg "isinstance"=none) (jh:mg "tuple"=none) (bq:mg "len"=none):Dn P w K mg base 2 "_law_is" wD Wm:=by
 refine F.oA RZ fun cdv A outer s H vs Q E hr h=>?_
 obtain ⟨⟨p,q,t,b,rfl,hp,h0,h1,e,hq⟩⟩:=h
 refine ⟨_,(@cK.h _ _ _ (aj (cQ (fD (bW.pt (iZ (dN (dw (aG (cY K) (by rfl) aM j0 (af (qv 0) (af (jz Qy rfl jh) ao))))) (iA (aZ pO (aG (bV K) (by rfl) bq dF (af (qv 0) ao)) ak (br _)))))) (au (aS fE)) aX)
  (aj (cQ (fD (bW.pt (iZ (dN (dw (aY eL hr (af (aI (bZ K) (qv 0) ak) ao)))) (iA (dN (dw (aY eL hr (af (aI (bZ K) (qv 0) ak) ao)))))))) (au (aS fE)) aX)
  (au (aS (uB (Gq K hr.units) (qv 0) (aY kq hr (af (qv 1) (af (qv 2) ao))) (br _))))))),?_⟩
 refine ⟨false,?_,cW ?_⟩
 . refine ⟨_,Z,_,_,_,_,Z,gH.tup hp,iy,_,Z,cW ?_⟩
   exact ⟨_,Z,_,_,Z, .inr (cS.of hp),Z,_,Z,Z,Z⟩
 refine ⟨false,?_,cW ?_⟩
 . refine ⟨_,Z,p,_,_,_,Z,Z,cS.of hp,Z,_,Z,_,Z,cW ?_⟩
   exact ⟨_,Z,p,_,_,_,Z,Z,cS.of hp,Z,_,Z,_,Z,Z,Z⟩
 refine ⟨_,Z,_,Z,_,Z,H_ h0 h1 fun r H1 g1 hr1=>?_⟩
 rw [<-e] at hr1
 refine ⟨_,_,Tp (g1 _ _ hp),Tp hr1,Cq _ _,Cq _ _,?_⟩
 rw [Wl]
 exact hq H1 g1
abbrev nc:Stmt:=top 54
abbrev kN:List Str:=["_law_found","_law_parts"]
abbrev DA:List Str:=kN.append ["_law_at_here","_law_one"]
theorem ng:aJ DA kN (ay nc):=c8
theorem B7 (F:At K mg "_law_part_list" nc f fd) (eL:Dn P w K mg base 1 "_law_int" kM El) (aM:mg "isinstance"=none) (dz:mg "list"=none) (jh:mg "tuple"=none) (lN:mg "str"=none) (bL:mg "range"=none) (bq:mg "len"=none):Dn P w K mg base 2 "_law_part_list" kN (EG K):=by
 refine F.oA ng fun cdv A outer s H vs Q E hr h=>?_
 obtain ⟨⟨r,l,ws,us,ps,rfl,hr0,hP,hl,hR,hN,hle,q⟩⟩:=h
 refine ⟨_,(@cK.h _ _ _ (aj (cQ (fD (bW.pt (iZ (dN (dw (aG (cY K) (by rfl) aM j0 (af (qv 0) (af (jz wL rfl dz) ao))))) (iA (aZ pO (aG (bV K) (by rfl) bq dF (af (qv 0) ao)) (aG (bV K) (by rfl) bq dF (af (qv 1) ao)) (br _)))))) (au (aS fE)) aX)
  (aj (dR eE rfl (dS (by rfl) bL (af (aG (bV K) (by rfl) bq dF (af (qv 1) ao)) ao)) (aQ (i:=2) ng.nd) (aj (aN (i:=3) ng.nd (aI (aK K) (qv 0) (qv 2)))
  (aj (cQ (fD (bW.pt (iZ (dN (dw (aG (cY K) (by rfl) aM j0 (af (qv 3) (af (jz Qy rfl jh) ao))))) (iA (aZ pO (aG (bV K) (by rfl) bq dF (af (qv 3) ao)) ak (br _)))))) (au (aS fE)) aX)
  (aj (cQ (fD (bW.pt (iZ (dN (dw (aG (cY K) (by rfl) aM j0 (af (aI (bZ K) (qv 3) ak) (af (jz FZ rfl lN) ao))))) (iA (dN (dw (aG (cY K) (by rfl) aM j0 (af (aI (bZ K) (qv 3) ak) (af (jz FZ rfl lN) ao))))))))) (au (aS fE)) aX)
  (aj (cQ (fD (bW.pt (iZ (dN (dw (aY eL hr (af (aI (bZ K) (qv 3) ak) ao)))) (iA (dN (dw (aY eL hr (af (aI (bZ K) (qv 3) ak) ao)))))))) (au (aS fE)) aX)
  (au (cQ (aZ (O_ K hr.units) (qv 3) (jA (af (aI (o8 K) (aI (aK K) (qv 1) (qv 2)) ak) (af (aI (o8 K) (aI (aK K) (qv 1) (qv 2)) ak) (af (aI (o8 K) (aI (aK K) (qv 1) (qv 2)) ak) (af (aI (o8 K) (aI (aK K) (qv 1) (qv 2)) ak) ao))))) (br _)) (au (aS fE)) aX)))))))
  (au (aS fE))))),?_⟩
 have hwl:=hP.length
 have UZ:=hR.len
 refine ⟨false,?_,cW ?_⟩
 . refine ⟨_,Z,_,_,_,_,Z,gH.lst hr0,iy,_,Z,cW ?_⟩
   refine ⟨_,Z,_,_,Z, .inl (aC.of hr0),_,Z,_,_,Z, .inl hl,Z,_,Z,?_,Z⟩
   show (!decide (V.int (ws.length:Int)=V.int (us.length:Int)))=false
   rw [cy (by rw [hwl,UZ])]
   rfl
 refine ⟨_,Z,l,us,Z, .inl hl,_,Z,by omega,by omega,?_⟩
 refine fW (lo:=0) (n:=((us.length:Nat):Int).toNat) (fun i σ H'=>aF H H'/\∃(s1 s2:Option V),σ=[some (.ref r),some (.ref l),s1,s2]) ⟨aF.refl _,none,none,Z⟩ ?_ ?_
 . rintro i σ H' hi ⟨g,s1,s2,rfl⟩
   have e0:(0:Int)+(i:Int)=((i:Nat):Int):=by omega
   rw [e0]
   have hi':i<ps.length:=by omega
   have ep:=aW hi'
   obtain ⟨t,et,ht⟩:=hP.get ep
   obtain ⟨u,xs,eu,hu,x0,x1,x2,x3⟩:=(hR.mono g).at_ i _ ep
   have ht':=g _ _ ht
   obtain ⟨n1,n2⟩:=hN _ (rN hi')
   have hr1:=g _ _ hr0
   have hl1:=g.seq hl
   refine ⟨_,Z,_,Z,r,ws,i, .ref t,Z,Z,aC.of hr1,jc et,?_⟩
   refine ⟨false,⟨_,Z,_,_,_,_,Z,gH.tup ht',iy,_,Z,cW ⟨_,Z,_,_,Z, .inr (cS.of ht'),Z,_,Z,Z,Z⟩⟩,cW ?_⟩
   refine ⟨false,⟨_,Z,t,_,_,_,Z,Z,cS.of ht',Z,_,_,_,_,Z,gH.str _,iy,_,Z,cW ⟨_,Z,t,_,_,_,Z,Z,cS.of ht',Z,_,_,_,_,Z,gH.str _,iy,_,Z,Z,Z⟩⟩,cW ?_⟩
   refine ⟨false,⟨_,Z,t,_,_,_,Z,Z,cS.of ht',Z,_,Z,_,Z,cW ⟨_,Z,t,_,_,_,Z,Z,cS.of ht',Z,_,Z,_,Z,Z,Z⟩⟩,cW ?_⟩
   refine ⟨_,Z,_,Z,_,Z,l,us,i, .ref u,Z,Z,hl1,jc eu,hu.ix (i:=0) x0 ?_⟩
   refine ⟨_,Z,_,Z,l,us,i, .ref u,Z,Z,hl1,jc eu,hu.ix (i:=1) x1 ?_⟩
   refine ⟨_,Z,_,Z,l,us,i, .ref u,Z,Z,hl1,jc eu,hu.ix (i:=2) x2 ?_⟩
   refine ⟨_,Z,_,Z,l,us,i, .ref u,Z,Z,hl1,jc eu,hu.ix (i:=3) x3 ?_⟩
   refine ⟨(i_ 4),fun p1 hp1=>?_⟩
   have g1:=aB hp1 (BO ps[i])
   refine ⟨_,_,Pu (g1 _ _ ht'),Pu (p:=ps[i]) ai,Cv n1 n2,Cv n1 n2,_,Z,?_⟩
   rw [WH]
   exact cW ⟨g.trans g1,_,_,Z⟩
 rintro σ H' ⟨g,s1,s2,rfl⟩
 exact q H' g
abbrev mq:Stmt:=top 57
abbrev iB:List Str:=["_law_found","_law_owners","_law_tops","_law_bottom"]
abbrev B8:List Str:=iB.append ["_law_due_here","_law_at_here","_law_pair"]
theorem jE:aJ B8 iB (ay mq):=c8
theorem AW (F:At K mg "_law_share_list" mq f fd) (kq:Dn P w K mg base 1 "_law_least" mj BI) (AX:Dn P w K mg base 2 "_law_is" wD Wm) (aM:mg "isinstance"=none) (dz:mg "list"=none) (jh:mg "tuple"=none) (lN:mg "str"=none) (bL:mg "range"=none) (bq:mg "len"=none):Dn P w K mg base 3 "_law_share_list" iB (wW K):=by
 refine F.oA jE fun cdv A outer s H vs Q E hr h=>?_
 obtain ⟨⟨r,lo,lt,ws,own,tops,b,rfl,hr0,hS,ho,ht,hlen,hle,b0,bz,q⟩⟩:=h
 refine ⟨_,(@cK.h _ _ _ (aj (Xa (i:=4) ["_law_at_here","_law_tops","_law_owners","_law_bottom"] [none,some 2,some 1,some 3] jE.nd rfl rfl rfl (dS (by rfl) bL (af (aG (bV K) (by rfl) bq dF (af (qv 2) ao)) ao)) (fun _ _ _ _=>(aQ (i:=0) (show List.Nodup (["_law_at_here","_law_tops","_law_owners","_law_bottom"] :List Str) from by decide +kernel))) (fun _ _ _ _=>(jA (af (aI (aK K) (qv 2) (qv 0)) (af (aY kq hr (af (aI (aK K) (qv 1) (qv 0)) (af (qv 3) ao))) ao)))) (fun _ _ _ _=>(aZ jU (aI (aK K) (qv 1) (qv 0)) ak (br _))) rfl (by rfl) (by rfl))
  (aj (cQ (fD (bW.pt (iZ (dN (dw (aG (cY K) (by rfl) aM j0 (af (qv 0) (af (jz wL rfl dz) ao))))) (iA (aZ pO (aG (bV K) (by rfl) bq dF (af (qv 0) ao)) (aG (bV K) (by rfl) bq dF (af (qv 4) ao)) (br _)))))) (au (aS fE)) aX)
  (aj (dR eE rfl (dS (by rfl) bL (af (aG (bV K) (by rfl) bq dF (af (qv 4) ao)) ao)) (aQ (i:=5) jE.nd) (aj (aN (i:=6) jE.nd (aI (aK K) (qv 0) (qv 5)))
  (aj (cQ (fD (bW.pt (iZ (dN (dw (aG (cY K) (by rfl) aM j0 (af (qv 6) (af (jz Qy rfl jh) ao))))) (iZ (aZ pO (aG (bV K) (by rfl) bq dF (af (qv 6) ao)) ak (br _)) (iA (aZ pO (aI (bZ K) (qv 6) ak) (aI (bZ K) (aI (aK K) (qv 4) (qv 5)) ak) (br _))))))) (au (aS fE)) aX)
  (au (cQ (bW.pt (iZ (dN (dw (aG (cY K) (by rfl) aM j0 (af (aI (bZ K) (qv 6) ak) (af (jz FZ rfl lN) ao))))) (iA (dN (dw (aY AX hr (af (aI (bZ K) (qv 6) ak) (af (aI (bZ K) (aI (bZ K) (aI (aK K) (qv 4) (qv 5)) ak) ak) (af (aI (bZ K) (aI (bZ K) (aI (aK K) (qv 4) (qv 5)) ak) ak) ao))))))))) (au (aS fE)) aX)))))
  (au (aS fE)))))),?_⟩
 have tml:(tops.map V.int).length=tops.length:=aE ..
 have oml:(own.map V.str).length=own.length:=aE ..
 refine ⟨_,Z,lt,_,Z, .inl ht,_,Z,by omega,by omega,fun acc hacc=>?_⟩
 refine Gw (J:=HN 0 _) (n:=tops.length) 0 (fun i out H1=>aF H H1/\ja H1 out (fK (own.take i) (tops.take i) b)) (by omega) ⟨aB hacc _, .nil⟩ (fun i out H1 hi _ _=>by show i<((tops.map V.int).length:Int).toNat;omega) (fun out H1 _ _=>by show ((tops.map V.int).length:Int).toNat<=tops.length;omega) ?_ ?_
 . rintro i x out H1 H2 hi eV ha ⟨g,S⟩ ⟨rfl,rfl⟩
   have e0:(0:Int)+(i:Int)=((i:Nat):Int):=by omega
   rw [e0]
   have et:=aW hi
   have eo:=aW (show i<own.length from by omega)
   have et':(tops.map V.int)[i]?=some (.int tops[i]):=by rw [bF,et];rfl
   have eo':(own.map V.str)[i]?=some (.str own[i]):=by rw [bF,eo];rfl
   have Yr:fK (own.take (i+1)) (tops.take (i+1)) b=fK (own.take i) (tops.take i) b++(if 0<tops[i] then [(own[i],Jm.fr tops[i] b)] else []):=by
    unfold fK
    rw [take_snoc eo,take_snoc et,List.zip_append (by rw [kZ,kZ];omega),List.filterMap_append]
    congr 1
    show List.filterMap _ [(own[i],tops[i])]=_
    rw [zX]
    by_cases c:0<tops[i]
    . simp [c]
    . simp [c]
   refine ⟨_,Z,_,Z,lt,_,i,_,Z,Z,g.seq ht,jc et',_,_,Z,Z,_,Z,dW (fun c=>?_) (fun c=>?_)⟩
   . have c':0<tops[i] :=eO c
     rw [aA c'] at Yr
     refine ⟨_,Z,_,Z,lo,_,i,_,Z,Z,g.seq ho,jc eo',_,Z,_,Z,lt,_,i,_,Z,Z,g.seq ht,jc et',_,Z,H_ b0 bz fun p2 H3 g3 hp2=>⟨(i_ 2),fun p3 hp3=>?_⟩⟩
     have g4:=aB hp3 (.tup [.str own[i], .ref p2])
     have Qk:=g3.trans g4
     refine ⟨Qk _ _ ha,(g.trans Qk).cD hacc _,?_⟩
     rw [Yr]
     exact ((S.mono Qk.tups).snoc ai (g4 _ _ hp2)).mono (kW (.inr ⟨_,Qk _ _ ha,Z⟩))
   . have c':¬ 0<tops[i] :=uE (qO.mpr c)
     rw [az c',rO] at Yr
     exact ⟨ha,g,by rw [Yr];exact S⟩
 rintro du H1 eV ha ⟨g1,D1⟩
 rw [cC,<-hlen,cC] at D1
 have hr1:=g1 _ _ hr0
 have ya:=hS.mono g1.tups
 have l1:=ya.length
 have l2:=D1.length
 have l3:(fK own tops b).length<=1000:=by
  unfold fK
  refine fu (List.length_filterMap_le _ _) ?_
  rw [List.length_zip]
  omega
 have ah5:∀x q,(x,q)∈fK own tops b->Jm.Sz 9000 (q.den:Int):=fun x q m=>IT b0 bz m
 generalize fK own tops b=sh at *
 refine ⟨false,?_,cW ?_⟩
 . refine ⟨_,Z,_,_,_,_,Z,gH.lst hr1,iy,_,Z,cW ?_⟩
   refine ⟨_,Z,_,_,Z, .inl (aC.of hr1),_,Z,_,_,Z, .inl (aC.of ha),Z,_,Z,?_,Z⟩
   show (!decide (V.int (ws.length:Int)=V.int (du.length:Int)))=false
   rw [cy (by rw [l1,l2])]
   rfl
 refine ⟨_,Z,acc,du,Z, .inl (aC.of ha),_,Z,by omega,by omega,?_⟩
 refine fW (lo:=0) (n:=((du.length:Nat):Int).toNat) (fun i σ H'=>aF H1 H'/\∃(s1 s2:Option V),σ=[some (.ref r),some (.ref lo),some (.ref lt),some (.int b),some (.ref acc),s1,s2]) ⟨aF.refl _,none,none,Z⟩ ?_ ?_
 . rintro i σ H' hi ⟨g,s1,s2,rfl⟩
   have e0:(0:Int)+(i:Int)=((i:Nat):Int):=by omega
   rw [e0]
   have hi':i<sh.length:=by omega
   obtain ⟨xq,exq⟩:∃xq,sh[i]?=some xq:=⟨_,aW hi'⟩
   obtain ⟨x,qq⟩:=xq
   obtain ⟨r1,f1,a1,a2,a3⟩:=ya.get exq
   obtain ⟨r2,f2,b1,b2,b3⟩:=D1.get exq
   have a2':=g _ _ a2
   have a3':=g _ _ a3
   have b2':=g _ _ b2
   have b3':=g _ _ b3
   have R1:=g _ _ ha
   refine ⟨_,Z,_,Z,r,ws,i, .ref r1,Z,Z,aC.of (g _ _ hr1),jc a1,?_⟩
   refine ⟨false,⟨_,Z,_,_,_,_,Z,gH.tup a2',iy,_,Z,cW ⟨_,Z,_,_,Z, .inr (cS.of a2'),Z,_,Z,cW ?_⟩⟩,cW ?_⟩
   . refine ⟨_,Z,r1,_,_,_,Z,Z,cS.of a2',Z,_,Z,_,Z,acc,du,i, .ref r2,Z,Z,aC.of R1,jc b1,r2,_,_,_,Z,Z,cS.of b2',Z,Z,_,Z,?_,Z⟩
     show (!decide (V.str x=V.str x))=false
     rw [cy rfl];rfl
   refine ⟨_,Z,r1,_,_,_,Z,Z,cS.of a2',Z,_,_,_,_,Z,gH.str _,iy,_,Z,cW ?_⟩
   refine ⟨_,Z,r1,_,_,_,Z,Z,cS.of a2',Z,?_⟩
   refine ⟨_,Z,_,Z,acc,du,i, .ref r2,Z,Z,aC.of R1,jc b1,r2,_,_,_,Z,Z,cS.of b2',Z,f2,_,_,_,Z,Z,cS.of b3',Z,?_⟩
   refine ⟨_,Z,_,Z,acc,du,i, .ref r2,Z,Z,aC.of R1,jc b1,r2,_,_,_,Z,Z,cS.of b2',Z,f2,_,_,_,Z,Z,cS.of b3',Z,?_⟩
   exact aby a3' (Jm.den_pos _) (ah5 _ _ (bJ exq)) (Jm.Y3 _).symm fun H3 g3=>⟨_,Z,cW ⟨g.trans g3,_,_,Z⟩⟩
 rintro σ H' ⟨g,s1,s2,rfl⟩
 exact q H' (g1.trans g)
abbrev tT:Stmt:=top 32
abbrev qy:List Str:=["_law_owners"]
abbrev MB:List Str:=qy
theorem Jp:aJ MB qy (ay tT):=c8
theorem Jq (F:At K mg "_law_model" tT f fd) (dz:mg "list"=none):Dn P w K mg base 1 "_law_model" qy (PJ K):=by
 refine F.oA Jp fun cdv A outer s H vs Q E hr h=>?_
 obtain ⟨⟨l,own,n,ρ,rfl,hl,G,hle,q⟩⟩:=h
 refine ⟨_,(@cK.h _ _ _ (au (aS (ZU (u_ bf (o9 (nN K) (by rfl) dz wL (af (qv 0) ao)) (u_ bf (eF ao) (u_ bf ak (u_ bf (eF ao) (u_ bf (eF ao) ZS))))) (by rfl) (by rfl) (fun z=>nomatch z) (by with_unfolding_all decide))))),?_⟩
 intro m hm
 have g0:=aB hm (.dK [])
 have em0:upd H m (.dK []) m=some (.dK []):=ai
 have jD:=g0.seq hl
 generalize upd H m (.dK [])=H0 at *
 refine ⟨_,Z,l,_,Z, .inl jD,fun lo hlo=>?_⟩
 have g1:=aB hlo (.lst (own.map V.str))
 have CK:upd H0 lo (.lst (own.map V.str)) lo=some (.lst (own.map V.str)):=ai
 have wF:=g1 _ _ em0
 generalize upd H0 lo (.lst (own.map V.str))=H1 at *
 refine ⟨(i_ 0),fun lp uc=>?_⟩
 have g2:=aB uc (.lst [])
 have ep2:upd H1 lp (.lst []) lp=some (.lst []):=ai
 have eo2:=g2 _ _ CK
 have em2:=g2 _ _ wF
 show Ac _ _ (upd H1 lp (.lst [])) _
 generalize upd H1 lp (.lst [])=H2 at *
 refine ⟨(i_ 0),fun la hla=>?_⟩
 have g3:=aB hla (.lst [])
 have Ys:upd H2 la (.lst []) la=some (.lst []):=ai
 have ep3:=g3 _ _ ep2
 have eo3:=g3 _ _ eo2
 have em3:=g3 _ _ em2
 show Ac _ _ (upd H2 la (.lst [])) _
 generalize upd H2 la (.lst [])=H3 at *
 refine ⟨(i_ 0),fun lk hlk=>?_⟩
 have g4:=aB hlk (.lst [])
 have ek4:upd H3 lk (.lst []) lk=some (.lst []):=ai
 have U9:=g4 _ _ Ys
 have ep4:=g4 _ _ ep3
 have eo4:=g4 _ _ eo3
 have U_:=g4 _ _ em3
 show upd H3 lk (.lst []) m=_/\_
 generalize upd H3 lk (.lst [])=H4 at *
 have gA:=((g0.trans g1).trans g2).trans (g3.trans g4)
 have n1:lo≠m:=fun e=>by rw [e,em0] at hlo;cases hlo
 have n2:lp≠m:=fun e=>by rw [e,wF] at uc;cases uc
 have n3:lp≠lo:=fun e=>by rw [e,CK] at uc;cases uc
 have n4:la≠m:=fun e=>by rw [e,em2] at hla;cases hla
 have n5:la≠lo:=fun e=>by rw [e,eo2] at hla;cases hla
 have n6:la≠lp:=fun e=>by rw [e,ep2] at hla;cases hla
 have n7:lk≠m:=fun e=>by rw [e,em3] at hlk;cases hlk
 have n8:lk≠lo:=fun e=>by rw [e,eo3] at hlk;cases hlk
 have n9:lk≠lp:=fun e=>by rw [e,ep3] at hlk;cases hlk
 have nA:lk≠la:=fun e=>by rw [e,Ys] at hlk;cases hlk
 refine ⟨U_,[(Sum.inr "owners", .ref lo),(Sum.inr "parts", .ref lp),(Sum.inr "bottom", .int 1),(Sum.inr "ashore", .ref la),(Sum.inr "known", .ref lk)],Z,by show 5<=15;decide,?_⟩
 have eK:xJ [] [(Sum.inr "owners", .ref lo),(Sum.inr "parts", .ref lp),(Sum.inr "bottom", .int 1),(Sum.inr "ashore", .ref la),(Sum.inr "known", .ref lk)]=fC ⟨m,lo,lp,la,lk,[]⟩ 1:=rfl
 rw [eK]
 have u1:upd H4 m (.dK (fC ⟨m,lo,lp,la,lk,[]⟩ 1)) m=some (.dK (fC ⟨m,lo,lp,la,lk,[]⟩ 1)):=ai
 have u2:upd H4 m (.dK (fC ⟨m,lo,lp,la,lk,[]⟩ 1)) lo=some (.lst (own.map V.str)):=by rw [av n1];exact eo4
 have u3:upd H4 m (.dK (fC ⟨m,lo,lp,la,lk,[]⟩ 1)) lp=some (.lst []):=by rw [av n2];exact ep4
 have u4:upd H4 m (.dK (fC ⟨m,lo,lp,la,lk,[]⟩ 1)) la=some (.lst []):=by rw [av n4];exact U9
 have u5:upd H4 m (.dK (fC ⟨m,lo,lp,la,lk,[]⟩ 1)) lk=some (.lst []):=by rw [av n7];exact ek4
 have G4:=(G.same gA).wr (a:=m) (o:= .dK (fC ⟨m,lo,lp,la,lk,[]⟩ 1)) rfl
 have hz:∀b o,H b=some o->upd H4 m (.dK (fC ⟨m,lo,lp,la,lk,[]⟩ 1)) b=some o:=fun b o e=>by
  rw [av (fun z=>by rw [z,hm] at e;cases e)];exact gA _ _ e
 have y1:H lo=none:=g0.free hlo
 have y2:H lp=none:=(g0.trans g1).free uc
 have y3:H la=none:=((g0.trans g1).trans g2).free hla
 have y4:H lk=none:=(((g0.trans g1).trans g2).trans g3).free hlk
 generalize upd H4 m (.dK (fC ⟨m,lo,lp,la,lk,[]⟩ 1))=H5 at *
 refine q (cE (cE (cE (cE (cE ρ m (n,20,⟨#[]⟩)) lo (n,21,⟨#[]⟩)) lp (n,22,⟨#[]⟩)) la (n,25,⟨#[]⟩)) lk (n,26,⟨#[]⟩)) ⟨m,lo,lp,la,lk,[]⟩ H5 (((((G4.color u1 rfl).color u2 rfl).color u3 rfl).color u4 rfl).color u5 rfl) ⟨u1,?_,u2,?_,u3,?_,⟨[],u4, .nil⟩,?_,u5,dH,Z,fun i p q e=>by simp at e⟩ (fun b o e=>⟨hz b o e,?_⟩)
 . show cE _ lk _ m=_
   rw [cu (bU n7),cu (bU n4),cu (bU n2),cu (bU n1),dH]
 . show cE _ lk _ lo=_
   rw [cu (bU n8),cu (bU n5),cu (bU n3),dH]
 . show cE _ lk _ lp=_
   rw [cu (bU n9),cu (bU n6),dH]
 . show cE _ lk _ la=_
   rw [cu (bU nA),dH]
 . rw [cu (aH e y4),cu (aH e y3),cu (aH e y2),cu (aH e y1),cu (aH e hm)]
abbrev vE:Stmt:=top 34
abbrev nH:List Str:=["_law_owners","_law_name_here"]
abbrev N8:List Str:=nH.append ["_law_at_here"]
theorem AY:aJ N8 nH (ay vE):=c8
theorem MC (F:At K mg "_law_seat" vE f fd) (bq:mg "len"=none) (bL:mg "range"=none):Dn P w K mg base 1 "_law_seat" nH (Ln K):=by
 refine F.oA AY fun cdv A outer s H vs Q E hr h=>?_
 obtain ⟨⟨l,own,o,rfl,hl,ho,hle,q⟩⟩:=h
 refine ⟨_,(@cK.h _ _ _ (aj (dR eE rfl (dS (by rfl) bL (af (aG (bV K) (by rfl) bq dF (af (qv 0) ao)) ao)) (aQ (i:=2) AY.nd) (au (cQ (aZ ir (aI (aK K) (qv 0) (qv 2)) (qv 1) (br _)) (au (aS (qv 2))) aX)))
  (au (aS (EV z_ ak))))),?_⟩
 have ll:(own.map V.str).length=own.length:=aE _
 refine ⟨_,Z,l,_,Z, .inl hl,_,Z,by omega,by omega,?_⟩
 refine fW (lo:=0) (n:=(((own.map V.str).length:Nat):Int).toNat) (fun i σ H'=>H'=H/\o∉own.take i/\∃s2,σ=[some (.ref l),some (.str o),s2]) ⟨Z,by simp,_,Z⟩ ?_ ?_
 . rintro i σ H' hi ⟨rfl,hn,s2,rfl⟩
   have e0:(0:Int)+(i:Int)=((i:Nat):Int):=by omega
   rw [e0]
   have hio:i<own.length:=by omega
   have ei:=aW hio
   refine ⟨_,Z,_,Z,l,_,_,_,Z,Z,hl,aT (by rw [bF,ei];rfl),_,Z,Z,_,Z,dW (fun c=>?_) (fun c=>?_)⟩
   . have c':own[i]=o:=V.str.inj (eO c)
     refine ⟨_,Z,?_⟩
     have:own.idxOf o=i:=by
      have h1:own.idxOf o<=i:=by
       rcases Nat.lt_or_ge i (own.idxOf o) with z|z
       . exact absurd c' (by simpa using List.not_of_lt_findIdx z)
       . exact z
      rcases Nat.lt_or_ge (own.idxOf o) i with z|z
      . exact absurd (bJ (i:=own.idxOf o) (by rw [List.getElem?_take,aA z];exact v5 ho)) hn
      . omega
     rw [<-this];exact q
   . refine ⟨Z,fun m=>?_,_,Z⟩
     rw [take_snoc ei] at m
     rcases fZ.mp m with z|z
     . exact hn z
     . exact c (cy (by rw [fU.mp z]))
 rintro σ H' ⟨rfl,hn,s2,rfl⟩
 rw [show (((own.map V.str).length:Nat):Int).toNat=own.length from by omega,cC] at hn
 exact absurd ho hn
abbrev oM:Stmt:=top 35
abbrev lO:List Str:=["_law_model_here","_law_name_here","_law_owner","_law_worth","_law_weight"]
abbrev Fj:List Str:=lO.append ["_law_tops"]
theorem vF:aJ Fj lO (ay oM):=c8
theorem DB (F:At K mg "_law_new_part" oM f fd) (jN:Dn P w K mg base 1 "_law_seat" nH (Ln K)):Dn P w K mg base 2 "_law_new_part" lO Iu:=by
 refine F.oA vF fun cdv A outer s H vs Q E hr h=>?_
 obtain ⟨⟨n,ρ,B,b,x,o,wo,we,rfl,G,h,ho,eV,hpl,hkl,q⟩⟩:=h
 refine ⟨_,(@cK.h _ _ _ (aj (uz (i:=5) ["_law_one"] [none] vF.nd rfl rfl rfl (dJ K (bP (bY hr) (qv 0) bf)) (fun _ _ _ _=>(aQ (i:=0) (show List.Nodup (["_law_one"] :List Str) from by decide +kernel))) (fun _ _ _ _=>ak) rfl (by rfl) (by rfl))
  (aj (nE (bP (bY hr) (qv 0) bf) (nF (qv 5) (aY jN hr (af (bP (bY hr) (qv 0) bf) (af (qv 2) ao))) set_list))
  (aj (dm (uo yf yc yd gZ (bP (bY hr) (qv 0) bf) (af (eF (af (qv 1) (af (qv 2) (af (qv 3) (af (qv 4) (af (qv 5) ao)))))) ao)))
  (au (dm (uo yf yc yd gZ (bP (bY hr) (qv 0) bf) (af (qv 1) ao)))))))),?_⟩
 refine ⟨_,Z,B.m,_,Z,cN.k (k:=Sum.inr "owners") h.om,B.lo,Z,⟨_,aC.of h.oo⟩,fun l0 jD=>?_⟩
 have GZ:(b.own.map V.str).length=b.own.length:=aE _
 refine iP (J:=uG K B.lo) (n:=(b.own.map V.str).length) 0 (fun i o H'=>aF H H'/\o=(List.replicate i (0:Int)).map V.int) (by omega) ⟨aB jD _,Z⟩ (fun i o H' hi _ hp=>⟨_,_,aC.of (hp.1 _ _ h.oo),aW hi⟩) (fun o H' _ hp=>⟨_,aC.of (hp.1 _ _ h.oo),aP _⟩) ?_ ?_
 . rintro i y o H2 H3 hi eV ha ⟨g,e⟩ ⟨rfl,hy⟩
   refine ⟨ha,g.cD jD _,?_⟩
   subst e
   rw [List.replicate_succ',bN]
   rfl
 rintro o1 H1 _ ha ⟨g1,e⟩
 subst e
 rw [GZ] at ha
 have h1:=h.mono g1
 have il:b.own.idxOf o<b.own.length:=zV ho
 have rl:((List.replicate b.own.length (0:Int)).map V.int).length=b.own.length:=by rw [aE,mW]
 refine ⟨_,Z,B.m,_,Z,cN.k (k:=Sum.inr "bottom") h1.om,_,Z,_,Z,B.m,_,Z,cN.k (k:=Sum.inr "owners") h1.om,_,Z,⟨⟨B.lo,b.own,o,Z,aC.of h1.oo,ho,eV,?_⟩⟩⟩
 refine ⟨l0,_,_,_,Z,Z,ha,by rw [rl];exact oX il,?_⟩
 rw [<-lD]
 have g2:=g1.cD jD (.lst (((List.replicate b.own.length (0:Int)).set (b.own.idxOf o) b.bot).map V.int))
 have ha2:upd H1 l0 (.lst (((List.replicate b.own.length (0:Int)).set (b.own.idxOf o) b.bot).map V.int)) l0=some (.lst (((List.replicate b.own.length (0:Int)).set (b.own.idxOf o) b.bot).map V.int)):=ai
 show z7 _ _ _ _ (upd H1 l0 (.lst (((List.replicate b.own.length (0:Int)).set (b.own.idxOf o) b.bot).map V.int)))
 generalize upd H1 l0 (.lst (((List.replicate b.own.length (0:Int)).set (b.own.idxOf o) b.bot).map V.int))=H2 at *
 have h2:=h.mono g2
 refine ⟨_,Z,B.m,_,Z,cN.k (k:=Sum.inr "parts") h2.om, .inl ⟨Z,_,aC.of h2.op⟩,_,Z,_,Z,_,Z,_,Z,_,Z,(i_ 5),fun p hp=>?_⟩
 have g3:=aB hp (ny ⟨x,o,wo,we,(List.replicate b.own.length (0:Int)).set (b.own.idxOf o) b.bot⟩ l0)
 have hp3:upd H2 p (ny ⟨x,o,wo,we,(List.replicate b.own.length (0:Int)).set (b.own.idxOf o) b.bot⟩ l0) p=some (ny ⟨x,o,wo,we,(List.replicate b.own.length (0:Int)).set (b.own.idxOf o) b.bot⟩ l0):=ai
 show pP _ (upd H2 p (ny ⟨x,o,wo,we,(List.replicate b.own.length (0:Int)).set (b.own.idxOf o) b.bot⟩ l0)) _
 generalize upd H2 p (ny ⟨x,o,wo,we,(List.replicate b.own.length (0:Int)).set (b.own.idxOf o) b.bot⟩ l0)=H3 at *
 have EN:H p=none:=g2.free hp
 have g23:=g2.trans g3
 have cl0:ρ l0=none:=G.none jD
 have np:p≠l0:=fun e=>by rw [e,ha2] at hp;cases hp
 have cp:cE ρ l0 (n,24,x) p=none:=by rw [cu np];exact G.none EN
 have h3:aU n (cE (cE ρ l0 (n,24,x)) p (n,23,x)) B H3 b:=((h.mono g23).col cl0).col cp
 have G3:Gh (cE (cE ρ l0 (n,24,x)) p (n,23,x)) H3:=((G.same g23).color (g3 _ _ ha2) rfl).color hp3 rfl
 have F3:Fr n ρ H (cE (cE ρ l0 (n,24,x)) p (n,23,x)) H3:=((Fr.of_same g23).uU jD).uU EN
 have c1:cE (cE ρ l0 (n,24,x)) p (n,23,x) p=some (n,23,x):=dH
 have c2:cE (cE ρ l0 (n,24,x)) p (n,23,x) l0=some (n,24,x):=by rw [cu (bU np),dH]
 have U6:=g3 _ _ ha2
 refine ⟨B.lp,_,_,Z,Z,h3.op,by rw [aE,h.ql];exact eZ hpl,?_⟩
 rw [show B.qs.map (fun q=>V.ref q.1)++[V.ref p]=(B.qs++[(p,l0)]).map (fun q=>V.ref q.1) from by rw [bN];rfl]
 have h4:=h3.ab9 G3 (p:=⟨x,o,wo,we,(List.replicate b.own.length (0:Int)).set (b.own.idxOf o) b.bot⟩) (q:=(p,l0)) hp3 U6 c1 c2
 have G4:=G3.wr (a:=B.lp) (o:= .lst ((B.qs++[(p,l0)]).map fun q=>V.ref q.1)) rfl
 have F4:=F3.trans (Fr.write (o:= .lst ((B.qs++[(p,l0)]).map fun q=>V.ref q.1)) h3.cp)
 generalize upd H3 B.lp (.lst ((B.qs++[(p,l0)]).map fun q=>V.ref q.1))=H4 at *
 refine ⟨_,Z,B.m,_,Z,cN.k (k:=Sum.inr "known") h4.om, .inl ⟨Z,_,aC.of h4.ok⟩,_,Z,B.lk,_,_,Z,Z,h4.ok,by rw [aE];exact eZ hkl,?_⟩
 rw [show b.d_.map V.str++[V.str x]=(b.d_++[x]).map V.str from by rw [bN];rfl]
 exact q _ _ _ (G4.wr rfl) (h4.Zv G4 (b.d_++[x])) rfl (F4.trans (Fr.write h4.ck))
abbrev lg:Stmt:=top 58
abbrev jF:List Str:=["_law_hold","_law_model_here"]
abbrev AZ:List Str:=jF.append ["_law_whole","_law_part"]
theorem lq:aJ AZ jF (ay lg):=c8
theorem zO {T:TC} (F:At K mg "_law_tells_parts" lg f fd) (eL:Dn P w K mg base 1 "_law_int" kM El) (oN:Dn P w K mg base 2 "_law_part_list" kN (EG K)) (gx:Dn P w K mg base 3 "_law_share_list" iB (wW K))
  (vG:Mn P w K mg base 1 T.hold "parts" qj (Pq T)) (ko:Mn P w K mg base 1 T.hold "whole" lZ (Gz T)) (tU:Mn P w K mg base 4 T.hold "shares" nV (Ih T)) (fT:mg "sum"=none):Dn P w K mg base 5 "_law_tells_parts" jF (ux 1 T K):=by
 refine F.oA lq fun cdv A outer s H vs Q E hr h=>?_
 obtain ⟨⟨n,m,ρ,A,B,st,b,c,rfl,nm,hh,hb,gd,hc,Fl,hkn,q⟩⟩:=h
 refine ⟨_,(@cK.h _ _ _ (aj (aN (i:=2) lq.nd (xX ko hr (qv 0)))
  (aj (cQ (bW.pt (iZ (dN (dw (aY eL hr (af (qv 2) ao)))) (iA (aZ pO (qv 2) (aG (lV K rfl) (by rfl) fT yg (af (gw ["_law_part"] [none] rfl (dJ K (bP (bY hr) (qv 1) bf)) (fun _ _ _ _=>(aQ (i:=0) (show List.Nodup (["_law_part"] :List Str) from by decide +kernel))) (fun _ _ _ _=>(aI (aK K) (qv 0) ak)) rfl (by rfl)) ao)) (br _))))) (au (aS fE)) aX)
  (aj (cQ (dN (dw (aY oN hr (af (xX vG hr (qv 0)) (af (bP (bY hr) (qv 1) bf) ao))))) (au (aS fE)) aX)
  (aj (dR eE rfl (dJ K (bP (bY hr) (qv 1) bf)) (aQ (i:=3) lq.nd) (au (cQ (dN (dw (aY gx hr (af (gm tU hr (qv 0) (af (aI (aK K) (qv 3) ak) ao)) (af (bP (bY hr) (qv 1) bf) (af (aI (aK K) (qv 3) ak) (af (bP (bY hr) (qv 1) bf) ao))))))) (au (aS fE)) aX)))
  (au (aS fE))))))),?_⟩
 have pl:=gd.pl
 have rl:=gd.rel.len
 have wl:=gd.rel.whole
 refine ⟨_,Z,A.a,A.dx,_,Z,hh.h.oa,Z,⟨⟨n,ρ,A,st,Z,hh.h,by omega,fun H1 g1=>?_⟩⟩⟩
 have gF:=hh.mono g1
 have hb1:=hb.mono g1
 have Va:=hb1.op
 have ud:(B.qs.map fun q=>V.ref q.1).length=b.ah.length:=by rw [aE];exact hb.ql
 refine ⟨_,Z,_,Z,_,Z,cW ?_⟩
 refine ⟨_,Z,_,Z,B.m,_,Z,cN.k (k:=Sum.inr "parts") hb1.om,B.lp,Z,⟨_,aC.of Va⟩,fun ac hac=>?_⟩
 refine iP (J:=uG K B.lp) (n:=b.ah.length) 0 (fun i o H'=>aF H1 H'/\o=((b.ah.take i).map (fun p:BP=>p.wo)).map V.int) (by omega) ⟨aB hac _,Z⟩ (fun i o H' hi _ hp=>⟨_,_,aC.of (hp.1 _ _ Va),aW (by rw [ud];exact hi)⟩) (fun o H' _ hp=>⟨_,aC.of (hp.1 _ _ Va),by rw [ud];exact aP _⟩) ?_ ?_
 . rintro j y o H2 H3 hj eV ha ⟨g,e⟩ ⟨rfl,hy⟩
   have ej:=aW hj
   obtain ⟨qq,eq,k1,k2,_,_⟩:=hb1.find ej
   have ey:=hy _ (aC.of (g _ _ Va))
   rw [bF,eq] at ey
   cases ey
   refine ⟨_,Z,qq.1,_,_,_,Z,Z,aC.of (g _ _ k1),aT (j:=2) rfl,ha,g.cD hac _,?_⟩
   subst e
   rw [take_snoc ej,bN,bN]
   rfl
 rintro o H2 _ ha ⟨g2,e⟩
 rw [cC] at e
 subst e
 refine ⟨ac,b.ah.map (fun p:BP=>p.wo),Z,aC.of ha,Z,_,Z,?_⟩
 have ew:bK st=(b.ah.map (fun p:BP=>p.wo)).sum:=wl
 rw [show (!decide (V.int (bK st)=V.int (b.ah.map (fun p:BP=>p.wo)).sum))=false from by rw [cy (by rw [ew])];rfl]
 refine cW ?_
 have kT:=gF.mono g2
 have hb2:=hb1.mono g2
 refine ⟨_,Z,A.a,A.dx,_,Z,kT.h.oa,Z,⟨⟨n,ρ,A,st,Z,kT.h,by omega,fun r ws H3 g3 hr hw3 hP3=>?_⟩⟩⟩
 have A0:=hb2.mono g3
 refine ⟨_,Z,B.m,_,Z,cN.k (k:=Sum.inr "parts") A0.om,⟨⟨r,B.lp,ws,_,st.ah,Z,hw3,hP3,aC.of A0.op,gd.rel.rows A0,gd.nms,by omega,fun H4 g4=>⟨_,Z,cW ?_⟩⟩⟩⟩
 have nG:=(kT.mono g3).mono g4
 have CL:=A0.mono g4
 have o4:aF (out ρ H) (out ρ H4):=iQ (((g1.trans g2).trans g3).trans g4)
 clear gF hb1 kT hb2 A0 hw3 hP3 ha hac hr g1 g2 g3 g4 Va
 refine ⟨_,Z,B.m,_,Z,cN.k (k:=Sum.inr "parts") CL.om,B.lp,Z,⟨_,aC.of CL.op⟩,?_⟩
 refine lS (K:=K) (xs:=B.qs.map fun q=>V.ref q.1) (fun i σ H'=>∃ρ' A' s3,σ=[some (.ref A.a),some (.ref B.m),some (.int (bK st)),s3]/\HH T n ρ' A' H' { st with kn:=st.kn+100*i }/\aU m ρ' B H' b/\A'.a=A.a/\aF (out ρ H) (out ρ' H'))
  ⟨ρ,A,_,Z,nG,CL,Z,o4⟩ (fun i σ H' _ hp=>by obtain ⟨_,_,_,_,_,h,_⟩:=hp;exact aC.of h.op) ?_ ?_
 . rintro i y σ H5 hy ⟨ρ5,A5,s3,rfl,wA,Fo,Fp,o5⟩
   rw [bF] at hy
   obtain ⟨qq,eq,rfl⟩:=lR.mp hy
   have hib:i<b.ah.length:=by rw [<-hb.ql];exact (dI.mp eq).1
   have ei:=aW hib
   obtain ⟨p,ep,e1,e2,_⟩:=gd.rel.at ei
   have iE:=bJ ep
   have Yt:=bJ ei
   obtain ⟨k1,k2,_,_⟩:=Fo.pt i _ qq ei eq
   refine ⟨_,Z,A.a,A5.dx,_,Z,by rw [<-Fp];exact wA.h.oa,Z,_,Z,qq.1,_,_,_,Z,Z,aC.of k1,aT (j:=0) rfl,⟨⟨n,ρ5,A5,_,i,p,by rw [Fp,e1];rfl,wA,ep,by show st.kn+100*i+100<=1000000;omega,fun r ws ρ6 A6 H6 Fb Vb f6 hr hr6 cr hSh=>?_⟩⟩⟩
   have wG:=Fo.other f6 wA.g (bU nm)
   obtain ⟨k16,k26,_,_⟩:=wG.pt i _ qq ei eq
   have esh:Ar { st with kn:=st.kn+100*i } p=fK b.own (b.ah[i]).tops b.bot:=Ry gd.AF gd.rel hh.wf gd.jR iE Yt e1
   rw [esh] at hSh
   have b1:=gd.jR.b1
   refine ⟨_,Z,B.m,_,Z,cN.k (k:=Sum.inr "owners") wG.om,_,Z,qq.1,_,_,_,Z,Z,aC.of k16,aT (j:=4) rfl,_,Z,B.m,_,Z,cN.k (k:=Sum.inr "bottom") wG.om,⟨⟨r,B.lo,qq.2,ws,b.own,(b.ah[i]).tops,b.bot,Z,hr6,hSh,aC.of wG.oo,aC.of k26,(gd.jR.tl _ Yt).symm,by have:=gd.jR.ol;omega,by omega,gd.jR.bz.mono (by decide),fun H7 g7=>⟨_,Z,cW ?_⟩⟩⟩⟩
   refine ⟨ρ6,A6,_,Z,?_,wG.mono g7,Vb.trans Fp,(o5.trans f6.out).trans (iQ g7)⟩
   have:=Fb.mono g7
   rw [show st.kn+100*(i+1)=st.kn+100*i+100 by omega]
   exact this
 rintro σ H5 ⟨ρ5,A5,s3,rfl,wA,Fo,Fp,o5⟩
 refine q ρ5 A5 H5 _ wA ?_ Fo Fp o5
 rw [ud];omega
abbrev kO:Stmt:=top 59
abbrev i6:List Str:=["_law_hold","_law_model_here"]
abbrev zP:List Str:=i6.append ["_law_found","_law_at_here","_law_one","_law_due_here"]
theorem gr:aJ zP i6 (ay kO):=c8
theorem yZ {T:TC} (F:At K mg "_law_tells_landed" kO f fd) (eL:Dn P w K mg base 1 "_law_int" kM El) (gx:Dn P w K mg base 3 "_law_share_list" iB (wW K)) (tV:Mn P w K mg base 1 T.hold "landed" nW (La T)) (aM:mg "isinstance"=none) (dz:mg "list"=none) (jh:mg "tuple"=none) (lN:mg "str"=none) (bL:mg "range"=none) (bq:mg "len"=none):Dn P w K mg base 4 "_law_tells_landed" i6 (ux 1 T K):=by
 refine F.oA gr fun cdv A outer s H vs Q E hr h=>?_
 obtain ⟨⟨n,m,ρ,A,B,st,b,c,rfl,nm,hh,hb,gd,hc,Fl,hkn,q⟩⟩:=h
 refine ⟨_,(@cK.h _ _ _ (aj (aN (i:=2) gr.nd (xX tV hr (qv 0)))
  (aj (cQ (fD (bW.pt (iZ (dN (dw (aG (cY K) (by rfl) aM j0 (af (qv 2) (af (jz wL rfl dz) ao))))) (iA (aZ pO (aG (bV K) (by rfl) bq dF (af (qv 2) ao)) (aG (bV K) (by rfl) bq dF (af (bP (bY hr) (qv 1) bf) ao)) (br _)))))) (au (aS fE)) aX)
  (aj (dR eE rfl (dS (by rfl) bL (af (aG (bV K) (by rfl) bq dF (af (qv 2) ao)) ao)) (aQ (i:=3) gr.nd) (aj (aN (i:=4) gr.nd (aI (bZ K) (qv 2) (qv 3)))
  (aj (aN (i:=5) gr.nd (aI (aK K) (bP (bY hr) (qv 1) bf) (qv 3)))
  (aj (cQ (fD (bW.pt (iZ (dN (dw (aG (cY K) (by rfl) aM j0 (af (qv 4) (af (jz Qy rfl jh) ao))))) (iZ (aZ pO (aG (bV K) (by rfl) bq dF (af (qv 4) ao)) ak (br _)) (iA (dN (dw (aY eL hr (af (aI (bZ K) (qv 4) ak) ao))))))))) (au (aS fE)) aX)
  (aj (cQ (fD (bW.pt (iZ (dN (dw (aG (cY K) (by rfl) aM j0 (af (aI (bZ K) (qv 4) ak) (af (jz FZ rfl lN) ao))))) (iA (dN (dw (aG (cY K) (by rfl) aM j0 (af (aI (bZ K) (qv 4) ak) (af (jz FZ rfl lN) ao))))))))) (au (aS fE)) aX)
  (aj (cQ (aZ pO (jA (af (aI (bZ K) (qv 4) ak) (af (aI (bZ K) (qv 4) ak) (af (aI (bZ K) (qv 4) ak) ao)))) (jA (af (aI (aK K) (qv 5) ak) (af (aI (aK K) (qv 5) ak) (af (aI (aK K) (qv 5) ak) ao)))) (br _)) (au (aS fE)) aX)
  (au (cQ (dN (dw (aY gx hr (af (aI (bZ K) (qv 4) ak) (af (bP (bY hr) (qv 1) bf) (af (aI (aK K) (qv 5) ak) (af (aI (aK K) (qv 5) ak) ao))))))) (au (aS fE)) aX))))))))
  (au (aS fE)))))),?_⟩
 refine ⟨_,Z,A.a,A.dx,_,Z,hh.h.oa,Z,⟨⟨n,ρ,A,st,Z,hh,fun r ws H1 g1 hr hr1 hL=>?_⟩⟩⟩
 rw [gd.ku.1] at hL
 cases hL
 have hb1:=hb.mono g1
 obtain ⟨vs,hv,hA⟩:=hb1.oa
 rw [gd.ku.2] at hA
 cases hA
 refine ⟨false,?_,cW ?_⟩
 . refine ⟨_,Z,_,_,_,_,Z,gH.lst hr1,iy,_,Z,cW ?_⟩
   exact ⟨_,Z,_,_,Z, .inl (aC.of hr1),_,Z,B.m,_,Z,cN.k (k:=Sum.inr "ashore") hb1.om,_,_,Z, .inl (aC.of hv),Z,_,Z,Z,Z⟩
 refine ⟨_,Z,r,_,Z, .inl (aC.of hr1),_,Z,by decide,by decide,?_⟩
 refine fW (lo:=0) (n:=0) (fun i σ H'=>H'=H1/\σ=[some (.ref A.a),some (.ref B.m),some (.ref r),none,none,none]) ⟨Z,Z⟩ ?_ ?_
 . intro i σ H' hi
   omega
 rintro σ H' ⟨rfl,rfl⟩
 exact q ρ A H' st.kn (hh.mono g1) (by omega) hb1 rfl (iQ g1)
abbrev tW:Stmt:=top 60
abbrev qz:List Str:=["_law_hold","_law_model_here"]
abbrev MD:List Str:=qz.append ["_law_roster"]
theorem zL:aJ MD qz (ay tW):=c8
theorem Jr {T:TC} (F:At K mg "_law_tells" tW f fd) (mw:Dn P w K mg base 5 "_law_tells_parts" jF (ux 1 T K)) (lu:Dn P w K mg base 4 "_law_tells_landed" i6 (ux 1 T K)) (tX:Mn P w K mg base 1 T.hold "roster" nS (K9 T)) (aM:mg "isinstance"=none) (dz:mg "list"=none):Dn P w K mg base 6 "_law_tells" qz (ux 2 T K):=by
 refine F.oA zL fun cdv A outer s H vs Q E hr h=>?_
 obtain ⟨⟨n,m,ρ,A,B,st,b,c,rfl,nm,hh,hb,gd,hc,Fl,hkn,q⟩⟩:=h
 refine ⟨_,(@cK.h _ _ _ (aj (aN (i:=2) zL.nd (xX tX hr (qv 0)))
  (aj (cQ (fD (bW.pt (iZ (dN (dw (aG (cY K) (by rfl) aM j0 (af (qv 2) (af (jz wL rfl dz) ao))))) (iA (aZ (O_ K hr.units) (qv 2) (bP (bY hr) (qv 1) bf) (br _)))))) (au (aS fE)) aX)
  (au (aS (LQ (aY mw hr (af (qv 0) (af (qv 1) ao))) (LN (aY lu hr (af (qv 0) (af (qv 1) ao)))))))))),?_⟩
 refine ⟨_,Z,A.a,A.dx,_,Z,hh.h.oa,Z,⟨⟨n,ρ,A,st,Z,hh.h,fun r hr=>?_⟩⟩⟩
 have g1:=aB hr (.lst (st.own.map V.str))
 have hr1:upd H r (.lst (st.own.map V.str)) r=some (.lst (st.own.map V.str)):=ai
 have gF:=hh.mono g1
 have hb1:=hb.mono g1
 have eo:=gd.rel.own
 show gh 2 (.ref r) _ (upd H r (.lst (st.own.map V.str))) _
 generalize upd H r (.lst (st.own.map V.str))=H1 at *
 rw [eo] at hr1
 refine ⟨false,?_,cW ?_⟩
 . refine ⟨_,Z,_,_,_,_,Z,gH.lst hr1,iy,_,Z,cW ?_⟩
   refine ⟨_,Z,_,Z,B.m,_,Z,cN.k (k:=Sum.inr "owners") hb1.om,_,_, .lst (aC.of hr1) (GF b.own), .lst (aC.of hb1.oo) (GF b.own),CC b.own Fl,CC b.own Fl,_,Z,?_,Z⟩
   rw [WT]
   rfl
 refine ⟨_,Z,_,Z,⟨⟨n,m,ρ,A,B,st,b,c,Z,nm,gF,hb1,gd,hc,Fl,by omega,fun ρ2 A2 H2 k kT hk hb2 ea2 o2=>⟨true,Z,qT ?_⟩⟩⟩⟩
 refine ⟨_,Z,_,Z,⟨⟨n,m,ρ2,A2,B,_,b,c,by rw [ea2];rfl,nm,kT,hb2,X8 gd k,hc,Fl,by show k+15000*1<=1000000;omega,fun ρ3 A3 H3 k3 lJ hk3 A0 Ys o3=>?_⟩⟩⟩
 have hk3:k3<=k+15000*1:=hk3
 exact q ρ3 A3 H3 k3 lJ (by omega) A0 (Ys.trans ea2) (((iQ g1).trans o2).trans o3)
abbrev tY:Stmt:=top 61
abbrev qA:List Str:=["_law_owners"]
abbrev ME:List Str:=qA.append ["_law_hold","_law_owner"]
theorem tZ:aJ ME qA (ay tY):=c8
theorem Js {T:TC} (F:At K mg "_law_begin" tY f fd) (MF:Cn P w K mg base 3 "Hold" T.hold ["self"] (Pn T)) (xh:Mn P w K mg base 3 T.hold "sign" rZ (Pp T)):Dn P w K mg base 5 "_law_begin" qA (Pw T K):=by
 refine F.oA tZ fun cdv A outer s H vs Q E hr h=>?_
 obtain ⟨⟨l,own,n,ρ,rfl,hl,cl,nd,hnm,hle,g,q⟩⟩:=h
 refine ⟨_,(@cK.h _ _ _ (aj (aN (i:=1) tZ.nd (UO MF hr))
  (aj (dR eE rfl (dJ K (qv 0)) (aQ (i:=2) tZ.nd) (au (dm (gm xh hr (qv 1) (af (qv 2) ao)))))
  (au (aS (qv 1)))))),?_⟩
 intro x dx hx hdx hne
 refine ⟨⟨x,dx,ρ,n,Z,ai,(g.alloc hdx).alloc (by rw [av (bU hne)];exact hx),g.none hx,fun ρ1 A H1 ea hh k=>⟨Z,?_⟩⟩⟩
 have F1:Fr n ρ H ρ1 H1:=fun b o e _=>k b o (by rw [av (aH e hx),av (aH e hdx)];exact e) (aH e hx)
 refine ⟨_,Z,l,Z,⟨_,F1.seq hl cl⟩,?_⟩
 refine lS (K:=K) (xs:=own.map V.str) (fun i σ H'=>∃ρ' A' s2,σ=[some (.ref l),some (.ref x),s2]/\A'.a=x/\HH T n ρ' A' H' ((own.take i).foldl gI hs0)/\Fr n ρ H ρ' H')
  ⟨ρ1,A,none,Z,ea,hh,F1⟩ (fun i σ H' _ hp=>by obtain ⟨_,_,_,_,_,_,f⟩:=hp;exact f.seq hl cl) ?_ ?_
 . rintro i y σ H' hy ⟨ρ',A',s2,rfl,ea',EZ,F'⟩
   rw [bF] at hy
   obtain ⟨o,eo,rfl⟩:=lR.mp hy
   have hi:=(dI.mp eo).1
   have hos:=Av (own.take i) hs0
   have adl:((own.take i).foldl gI hs0).own=own.take i:=by rw [hos];rfl
   refine ⟨_,Z,x,A'.dx,_,Z,ea'▸EZ.h.oa,Z,_,Z,⟨⟨n,ρ',A',_,o,by rw [ea'];rfl,EZ,hnm o (bJ eo),?_,?_,fun ρ2 A2 H2 h2 e2 F2=>?_⟩⟩⟩
   . rw [adl]
     intro m
     have h2:(own.take (i+1)).Nodup:=nd.sublist (List.take_sublist _ _)
     rw [take_snoc eo] at h2
     exact (List.nodup_append.mp h2).2.2 o m o (fU.mpr rfl) rfl
   . rw [adl,kZ]
     omega
   . rw [take_snoc eo,Kh]
     exact ⟨ρ2,A2,_,Z,e2.trans ea',h2,F'.trans F2⟩
 rintro σ H' ⟨ρ',A',s2,rfl,ea',EZ,F'⟩
 rw [aE,cC] at EZ
 have:=q ρ' A' H' EZ F'
 rw [ea'] at this
 exact ⟨_,Z,this⟩
abbrev xj:Stmt:=top 46
abbrev ur:List Str:=["_law_at_here"]
abbrev R3:List Str:=ur
theorem N9:aJ R3 ur (ay xj):=c8
theorem N_ (F:At K mg "_law_hot" xj f fd) (bL:mg "range"=none):Dn P w K mg base 1 "_law_hot" ur RG:=by
 refine F.oA N9 fun cdv A outer s H vs Q E hr h=>?_
 obtain ⟨⟨n,rfl,q⟩⟩:=h
 refine ⟨_,(@cK.h _ _ _ (au (aS (aD nt (eF (af fE ao)) (gw ["_law_k","_law_at_here"] [none,some 0] rfl (dS (by rfl) bL (af ak ao)) (fun _ _ _ _=>(aQ (i:=0) (show List.Nodup (["_law_k","_law_at_here"] :List Str) from by decide +kernel))) (fun _ _ _ _=>(uB ir (qv 0) (qv 1) (br _))) rfl (by rfl)))))),?_⟩
 refine ⟨(i_ 1),fun p1 hp1=>?_⟩
 have g1:aF H (upd H p1 (.lst [.bl true])):=aB hp1 _
 have h1:upd H p1 (.lst [.bl true]) p1=some (.lst [.bl true]):=ai
 generalize upd H p1 (.lst [.bl true])=H1 at g1 h1
 refine ⟨10,Z,(by decide),(by decide),fun acc hacc=>?_⟩
 refine Rg (n:=(10:Int).toNat) (fun i out H'=>aF H1 H'/\out=((List.range i).map fun k=>V.bl (decide (k=n)))) (by decide) ⟨aB hacc _,Z⟩ ?_ ?_
 . rintro i out H' hi eV ha ⟨g,e⟩
   refine ⟨_,Z,_,Z,Z,ha,g.cD hacc _,?_⟩
   rw [List.range_succ,bN,e]
   congr 1
   show [V.bl (decide (V.int (0+(i:Int))=V.int (n:Int)))]=[V.bl (decide (i=n))]
   congr 2
   exact decide_eq_decide.mpr ⟨fun z=>by have:=V.int.inj z;omega,fun z=>by rw [z];congr 1;omega⟩
 rintro out H' eV ha ⟨g,e⟩
 refine ⟨p1,acc,_,_,Z,Z,g _ _ h1,ha,(by rw [eV,fB];decide),fun p hp=>q p _ (g1.trans (g.trans (aB hp _))) ?_⟩
 rw [ai,e]
 show some (HO.lst (V.bl true::_))=some (HO.lst ((true::(List.range 10).map fun k=>decide (k=n)).map V.bl))
 rw [bH,fH]
 rfl
abbrev y9:Stmt:=top 38
abbrev pB:List Str:=["_law_parts","_law_name_here"]
abbrev Vc:List Str:=pB.append ["_law_at_here"]
theorem Fq:aJ Vc pB (ay y9):=c8
theorem R4 (F:At K mg "_law_at" y9 f fd) (bq:mg "len"=none) (bL:mg "range"=none):Dn P w K mg base 1 "_law_at" pB (AL K):=by
 refine F.oA Fq fun cdv A outer s H vs Q E hr h=>?_
 obtain ⟨⟨l,us,ws,x,rfl,hl,hW,nd,hle,q,q2⟩⟩:=h
 refine ⟨_,(@cK.h _ _ _ (aj (dR eE rfl (dS (by rfl) bL (af (aG (bV K) (by rfl) bq dF (af (qv 0) ao)) ao)) (aQ (i:=2) Fq.nd) (au (cQ (aZ ir (aI (o8 K) (aI (aK K) (qv 0) (qv 2)) ak) (qv 1) (br _)) (au (aS (qv 2))) aX)))
  (au (aS (EV z_ ak))))),?_⟩
 have ll:=hW.len
 refine ⟨_,Z,l,_,Z, .inl hl,_,Z,by omega,by omega,?_⟩
 refine fW (lo:=0) (n:=((us.length:Nat):Int).toNat) (fun i σ H'=>H'=H/\(∀r∈ws.take i,r.1≠x)/\∃s2,σ=[some (.ref l),some (.str x),s2]) ⟨Z,(fun _ m=>nomatch m),_,Z⟩ ?_ ?_
 . rintro i σ H' hi ⟨rfl,hn,s2,rfl⟩
   have e0:(0:Int)+(i:Int)=((i:Nat):Int):=by omega
   rw [e0]
   have hio:i<ws.length:=by omega
   have ei:=aW hio
   obtain ⟨a,xs,ea,Ql,x0,_⟩:=hW.at_ i _ ei
   refine ⟨_,Z,_,Z,l,_,_,_,Z,Z,hl,aT ea,Ql.ix (i:=0) x0 ?_⟩
   refine ⟨_,Z,Z,_,Z,dW (fun c=>?_) (fun c=>?_)⟩
   . exact ⟨_,Z,q i _ ei (V.str.inj (eO c))⟩
   . refine ⟨Z,fun r hr=>?_,_,Z⟩
     rw [take_snoc ei] at hr
     rcases fZ.mp hr with z|z
     . exact hn r z
     . rw [fU.mp z]
       intro e
       exact c (cy (by rw [e]))
 rintro σ H' ⟨rfl,hn,s2,rfl⟩
 refine ⟨1,Z,q2 fun r hr=>hn r ?_⟩
 rw [zW (by omega)]
 exact hr
abbrev vH:Stmt:=top 37
abbrev sH:List Str:=["_law_script","_law_k","_law_parts"]
abbrev Oa:List Str:=sH.append ["_law_spare","_law_order","_law_rows_here","_law_at_here","_law_way","_law_amount"]
theorem fQ:aJ Oa sH (ay vH):=c8
theorem MG (F:At K mg "_law_rows" vH f fd) (aO:Dn P w K mg base 1 "_law_draw" fk (lU K)) (bq:mg "len"=none) (bL:mg "range"=none) (dz:mg "list"=none) (fT:mg "sum"=none) (wH:mg "min"=none):Dn P w K mg base 2 "_law_rows" sH (PK K):=by
 refine F.oA fQ fun cdv A outer s H vs Q E hr h=>?_
 obtain ⟨⟨a,l,ns,k,us,ws,rfl,hS,h63,hk0,hk1,hl,hW,nd,hle,hw1,q⟩⟩:=h
 refine ⟨_,(@cK.h _ _ _ (aj (aN (i:=3) fQ.nd (aD lT (aG (lV K rfl) (by rfl) fT yg (af (gw ["_law_part"] [none] rfl (dJ K (qv 2)) (fun _ _ _ _=>(aQ (i:=0) (show List.Nodup (["_law_part"] :List Str) from by decide +kernel))) (fun _ _ _ _=>(aI (o8 K) (qv 0) ak)) rfl (by rfl)) ao)) ak))
  (aj (aN (i:=4) fQ.nd (o9 (IQ rfl) (by rfl) dz wL (af (UM (by rfl) bL (af (aG (bV K) (by rfl) bq dF (af (qv 2) ao)) ao)) ao)))
  (aj (ie (aZ ir (aY aO hr (af (qv 0) (af (qv 1) (af ak (af ak ao))))) ak (br _)) (au (aN (i:=4) fQ.nd (acG K (qv 4) (EV z_ ak)))) aX)
  (aj (aN (i:=5) fQ.nd (eF ao))
  (aj (dR eE rfl (dJ K (qv 4)) (aQ (i:=6) fQ.nd) (aj (aN (i:=7) fQ.nd (aY aO hr (af (qv 0) (af (qv 1) (af (aD cg ak (aD jl ak (qv 6))) (af ak ao))))))
  (aj (aN (i:=8) fQ.nd (aG (Up rfl) (by rfl) wH PyProof.Rows.boot_min (af (aI (o8 K) (aI (aK K) (qv 2) (qv 6)) ak) (af (qv 3) (af (aD pN ak ak) ao)))))
  (aj (ie (fD (bW.pt (vc (aZ ir (qv 7) ak (br _)) (uA (aZ jU (qv 8) ak (br _)))))) (au (aN (i:=8) fQ.nd (aD cg ak (aY aO hr (af (qv 0) (af (qv 1) (af (aD cg ak (aD jl ak (qv 6))) (af (qv 8) ao)))))))) aX)
  (au (ie (fD (bW.pt (vc (aZ jU (qv 7) ak (br _)) (uA (aZ jU (qv 8) ak (br _)))))) (aj (dm (uo yf yc yd gZ (qv 5) (af (jA (af (aI (o8 K) (aI (aK K) (qv 2) (qv 6)) ak) (af (qv 8) ao))) ao)))
  (au (aN (i:=3) fQ.nd (aD lT (qv 3) (qv 8))))) aX))))))
  (au (aS (qv 5))))))))),?_⟩
 have ll:=hW.len
 refine ⟨_,Z,l,Z,⟨_,hl⟩,fun l0 jD=>?_⟩
 refine iP (J:=uG K l) (n:=us.length) 0 (fun i o H'=>aF H H'/\o=((ws.take i).map (fun r:Row=>r.2)).map V.int) (by omega) ⟨aB jD _,Z⟩ (fun i o H' hi _ hp=>⟨_,_,hp.1.seq hl,aW hi⟩) (fun o H' _ hp=>⟨_,hp.1.seq hl,aP _⟩) ?_ ?_
 . rintro i y o H2 H3 hi eV ha ⟨g,e⟩ ⟨rfl,hy⟩
   have hiw:i<ws.length:=by omega
   have ei:=aW hiw
   obtain ⟨ar,xs,ea,Ql,x0,x2⟩:=hW.at_ i _ ei
   have ey:=hy _ (g.seq hl)
   rw [ea] at ey
   cases ey
   refine ⟨_,Z,(g.sq Ql).ix (i:=2) x2 ?_⟩
   refine ⟨ha,g.cD jD _,?_⟩
   subst e
   rw [take_snoc ei,bN,bN]
   rfl
 rintro o1 H1 _ ha ⟨g1,e⟩
 rw [ll,cC] at e
 subst e
 refine ⟨l0,ws.map (fun r:Row=>r.2),Z,aC.of ha,_,_,Z,Z,?_⟩
 show gh 3 (.int (bu ws-1)) _ _ _
 refine ⟨_,Z,l,_,Z, .inl (g1.seq hl),_,Z,fun pr hpr=>?_⟩
 refine ⟨pr,ws.length,Z,?_,by omega,fun po Yq=>?_⟩
 . rw [ai,ll]
 have gA:=(aB hpr (.vW 0 ((us.length:Nat):Int))).trans (aB Yq (.lst ((L2.upTo ws.length).map V.int)))
 have gB:=g1.trans gA
 have hord:upd (upd H1 pr (.vW 0 ((us.length:Nat):Int))) po (.lst ((L2.upTo ws.length).map V.int)) po=some (.lst ((L2.upTo ws.length).map V.int)):=ai
 generalize upd (upd H1 pr (.vW 0 ((us.length:Nat):Int))) po (.lst ((L2.upTo ws.length).map V.int))=H2 at *
 have ndo:(L2.upTo ws.length).Nodup:=by
  unfold L2.upTo
  refine List.Pairwise.map _ (fun x y h e=>h (by omega)) List.nodup_range
 have vW:∀x∈L2.upTo ws.length,0<=x/\x<(ws.length:Int):=fun x hx=>by
  unfold L2.upTo at hx
  obtain ⟨i,hi,rfl⟩:=bQ.mp hx
  have:=ym.mp hi
  omega
 have lup:(L2.upTo ws.length).length=ws.length:=by unfold L2.upTo;rw [aE,CP]
 refine ⟨fun σ H3=>aF H H3/\∃(pq:Addr) (os:List Int),σ=[some (.ref a),some (.int k),some (.ref l),some (.int (bu ws-1)),some (.ref pq),none,none,none,none]/\H3 pq=some (.lst (os.map V.int))/\os.Nodup/\os.length=ws.length/\∀x∈os,0<=x/\x<(ws.length:Int),?_,?_⟩
 . refine ⟨_,Z,_,Z,cT (gB.seq hS) h63 hk0 (by decide) (by decide) (by decide) fun d _ d0 d1=>⟨Z,_,Z,dW (fun c=>?_) (fun c=>?_)⟩⟩
   . refine ⟨_,Z,_,Z,Z,po,_,Z,aC.of hord,fun pz hpz=>?_⟩
     have g3:=aB hpz (.lst ((L2.upTo ws.length).map V.int).reverse)
     exact ⟨gB.trans g3,pz,(L2.upTo ws.length).reverse,Z,by rw [ai,List.map_reverse],List.pairwise_reverse.mpr (List.Pairwise.imp (fun h=>bU h) ndo),by rw [List.length_reverse,lup],fun x hx=>vW x (List.mem_reverse.mp hx)⟩
   . exact ⟨gB,po,L2.upTo ws.length,Z,hord,ndo,lup,vW⟩
 rintro σ H3 ⟨g3,pq,os,rfl,hos,hnd,eV,hrg⟩
 refine ⟨(i_ 0),fun z hz=>?_⟩
 have g4:=aB hz (.lst [])
 have hzz:upd H3 z (.lst []) z=some (.lst []):=ai
 have adm:=g4 _ _ hos
 have nz:pq≠z:=fun e=>by rw [e,hz] at hos;cases hos
 have hzH:H z=none:=g3.free hz
 have Qk:=g3.trans g4
 show z7 _ _ _ _ (upd H3 z (.lst []))
 generalize upd H3 z (.lst [])=H4 at *
 have w1:ws≠[]->1<=bu ws:=fun hne=>by
  cases ws with
  | nil=>exact absurd rfl hne
  | cons r rs=>
    have h1:=hw1 r cM
    have h2:=C_ (rs:=rs) fun x hx=>hw1 x (cG _ hx)
    rw [show bu (r::rs)=r.2+bu rs from by unfold bu;rw [bH,cI]]
    omega
 refine ⟨_,Z,pq,Z,⟨_,aC.of adm⟩,?_⟩
 refine lS (K:=K) (xs:=os.map V.int) (fun i σ H'=>aF H H'/\H' pq=some (.lst (os.map V.int))/\∃(zs:List V) (rs:List Row) (sp:Int) (s6 s7 s8:Option V),σ=[some (.ref a),some (.int k),some (.ref l),some (.int sp),some (.ref pq),some (.ref z),s6,s7,s8]/\H' z=some (.lst zs)/\gi H' zs rs/\rs.length<=i/\(rs.map (fun r:Row=>r.1)).Nodup/\
   sp=bu ws-1-bu rs/\(ws≠[]->0<=sp)/\∀r∈rs,1<=r.2/\r.2<=1000000000/\∃j:Nat,((j:Nat):Int)∈os.take i/\∃w,ws[j]?=some w/\w.1=r.1/\r.2<=w.2)
  ⟨Qk,adm,[],[],bu ws-1,none,none,none,Z,hzz, .nil,aP _,vV,by show _=bu ws-1-0;omega,fun hne=>by have:=w1 hne;omega,fun r hr=>absurd hr (by simp)⟩ ?_ ?_ ?_
 . rintro i σ H' _ ⟨_,h,_⟩
   exact aC.of h
 . rintro i x σ H5 hx ⟨g5,hq5,zs,rs,sp,s6,s7,s8,rfl,Qm,hR,hrl,Yu,pQ,R5,Dz⟩
   rw [bF] at hx
   obtain ⟨at',hat,rfl⟩:=lR.mp hx
   have hio:=(dI.mp hat).1
   obtain ⟨t0,t1⟩:=hrg at' (bJ hat)
   obtain ⟨jt,hjt⟩:∃jt:Nat,((jt:Nat):Int)=at':=⟨at'.toNat,by omega⟩
   subst hjt
   have hjl:jt<ws.length:=by omega
   have hne:ws≠[] :=fun e=>by rw [e] at hjl;simp at hjl
   have ah6:=R5 hne
   have hnot:((jt:Nat):Int)∉os.take i:=fun m=>by
    obtain ⟨j,hj,ej⟩:=List.mem_iff_getElem.mp m
    rw [List.getElem_take] at ej
    rw [kZ] at hj
    have e2:=(dI.mp hat).2
    have:=(List.getElem_inj hnd).mp (ej.trans e2.symm)
    omega
   have ej:=aW hjl
   have hwj:=hw1 _ (bJ ej)
   generalize ws[jt]=wj at *
   obtain ⟨ar,xs,ea,Ql,x0,x2⟩:=hW.at_ jt _ ej
   refine ⟨_,Z,_,Z,_,Z,_,_,Z,Z, .inl ⟨by decide,by decide⟩,_,_,Z,Z,cT (g5.seq hS) h63 hk0 (by omega) (by omega) (by decide) fun way _ v0 v1=>?_⟩
   refine ⟨_,Z,_,Z,l,_,_,_,Z,Z,g5.seq hl,aT ea,(g5.sq Ql).ix (i:=2) x2 ?_⟩
   refine ⟨_,Z,_,_,Z,Z,⟨by decide,by decide,by decide⟩,_,_,_,Z,?_⟩
   obtain ⟨m1,m2,m3⟩:=Zw wj.2 sp ((10:Int) ^ (9:Int).toNat)
   have m0:0<=uV wj.2 sp ((10:Int) ^ (9:Int).toNat):=Zx (by omega) ah6 (by decide)
   have m3:uV wj.2 sp ((10:Int) ^ (9:Int).toNat)<=1000000000:=m3
   generalize uV wj.2 sp ((10:Int) ^ (9:Int).toNat)=m at *
   refine ⟨fun σ H6=>H5=H6/\∃m:Int,0<=m/\m<=sp/\m<=wj.2/\m<=1000000000/\σ=[some (.ref a),some (.int k),some (.ref l),some (.int sp),some (.ref pq),some (.ref z),some (.int (jt:Int)),some (.int way),some (.int m)],?_,?_⟩
   . refine ⟨decide (way=2/\0<m),?_,?_⟩
     . refine ⟨_,Z,Z,_,Z,?_⟩
       by_cases h1:way=2
       . rw [cy (by rw [h1] :V.int way=V.int 2)]
         refine qT ⟨_,Z,_,_,Z,Z,_,Z,?_,Z⟩
         by_cases h2:0<m
         . rw [cy h2,cy ⟨h1,h2⟩]
         . rw [d8 h2,d8 fun z=>h2 z.2]
       . rw [d8 (fun z=>h1 (V.int.inj z))]
         exact cW ⟨(d8 fun z=>h1 z.1).symm,Z⟩
     refine dW (fun c=>?_) (fun c=>?_)
     . obtain ⟨_,c2⟩:=eO c
       refine ⟨_,Z,_,Z,_,Z,_,_,Z,Z, .inl ⟨by decide,by decide⟩,_,_,Z,Z,_,Z,cT (g5.seq hS) h63 hk0 (by omega) (by omega) c2 fun d _ d0 d1=>⟨_,_,Z,Z,Z,1+d,by omega,by omega,by omega,by omega,Z⟩⟩
     . exact ⟨Z,m,m0,m2,m1,m3,Z⟩
   rintro σ H6 ⟨rfl,o,o0,o1,o2,o3,rfl⟩
   have grow:∀r∈rs,1<=r.2/\r.2<=1000000000/\∃j:Nat,((j:Nat):Int)∈os.take (i+1)/\∃w,ws[j]?=some w/\w.1=r.1/\r.2<=w.2:=fun r hr=>by
    obtain ⟨a1,a2,j,a3,a4⟩:=Dz r hr
    exact ⟨a1,a2,j,by rw [take_snoc hat];exact F0 _ a3,a4⟩
   refine ⟨fun σ H6=>aF H H6/\H6 pq=some (.lst (os.map V.int))/\∃(zs:List V) (rs:List Row) (sp:Int) (s6 s7 s8:Option V),σ=[some (.ref a),some (.int k),some (.ref l),some (.int sp),some (.ref pq),some (.ref z),s6,s7,s8]/\H6 z=some (.lst zs)/\gi H6 zs rs/\rs.length<=i+1/\(rs.map (fun r:Row=>r.1)).Nodup/\
    sp=bu ws-1-bu rs/\(ws≠[]->0<=sp)/\∀r∈rs,1<=r.2/\r.2<=1000000000/\∃j:Nat,((j:Nat):Int)∈os.take (i+1)/\∃w,ws[j]?=some w/\w.1=r.1/\r.2<=w.2,?_,fun _ _ h=>h⟩
   refine ⟨decide (0<way/\0<o),?_,?_⟩
   . refine ⟨_,Z,_,_,Z,Z,_,Z,?_⟩
     by_cases h1:0<way
     . rw [cy h1]
       refine qT ⟨_,Z,_,_,Z,Z,_,Z,?_,Z⟩
       by_cases h2:0<o
       . rw [cy h2,cy ⟨h1,h2⟩]
       . rw [d8 h2,d8 fun z=>h2 z.2]
     . rw [d8 h1]
       exact cW ⟨(d8 fun z=>h1 z.1).symm,Z⟩
   refine dW (fun c=>?_) (fun c=>?_)
   . obtain ⟨_,c2⟩:=eO c
     refine ⟨_,Z, .inl ⟨Z,_,aC.of Qm⟩,_,Z,_,Z,l,_,_,_,Z,Z,g5.seq hl,aT ea,(g5.sq Ql).ix (i:=0) x0 ?_⟩
     refine ⟨_,Z,(i_ 2),fun p hp=>?_⟩
     have g6:=aB hp (Aw (wj.1,o))
     have hz6:=g6 _ _ Qm
     have hq6:=g6 _ _ hq5
     have Fc:upd H5 p (Aw (wj.1,o)) p=some (Aw (wj.1,o)):=ai
     have ah7:=hR.length
     show pP _ (upd H5 p (Aw (wj.1,o))) _
     generalize upd H5 p (Aw (wj.1,o))=H6 at *
     refine ⟨z,_,_,Z,Z,hz6,by rw [ah7];exact eZ (by omega),?_⟩
     have np:p≠z:=fun e=>by rw [e,Qm] at hp;cases hp
     have tu:∀b ys,H6 b=some (.tup ys)->upd H6 z (.lst (zs++[.ref p])) b=some (.tup ys):=kW (.inr ⟨_,hz6,Z⟩)
     refine ⟨_,Z,_,Z,_,_,Z,Z,(g5.trans g6).cD hzH _,by rw [av nz];exact hq6,zs++[.ref p],rs++[(wj.1,o)],sp-o,_,_,_,Z,ai,((hR.mono g6.tups).snoc Fc).mono tu,by rw [dh];show rs.length+1<=i+1;omega,?_,?_,fun _=>by omega,?_⟩
     . rw [bN]
       refine oW Yu fun hm=>?_
       obtain ⟨r,hr,er⟩:=bQ.mp hm
       obtain ⟨_,_,j,hj,w,ado,e1,_⟩:=Dz r hr
       have hj2:j<ws.length:=(dI.mp ado).1
       have r1:(ws.map (fun r:Row=>r.1))[j]?=some w.1:=by rw [bF,ado];rfl
       have r2:(ws.map (fun r:Row=>r.1))[jt]?=some wj.1:=by rw [bF,ej];rfl
       have er:r.1=wj.1:=er
       have:j=jt:=(Gj (by rw [aE];exact hj2) nd).mp (r1.trans (by rw [e1,er];exact r2.symm))
       rw [this] at hj
       exact hnot hj
     . rw [show bu (rs++[(wj.1,o)])=bu rs+o from by unfold bu;rw [bN,List.sum_append];simp]
       omega
     . intro r hr
       rcases fZ.mp hr with h1|h1
       . exact grow r h1
       . rw [fU.mp h1]
         exact ⟨by show 1<=o;omega,o3,jt,by rw [take_snoc hat];exact jK _ (fU.mpr rfl),wj,ej,Z,o2⟩
   . exact ⟨g5,hq5,zs,rs,sp,_,_,_,Z,Qm,hR,by omega,Yu,pQ,R5,grow⟩
 rintro σ H5 ⟨g5,hq5,zs,rs,sp,s6,s7,s8,rfl,Qm,hR,hrl,Yu,pQ,R5,Dz⟩
 rw [aE,eV] at hrl
 refine ⟨_,Z,q z zs rs H5 g5 hzH Qm hR ⟨Yu,fun r hr=>?_,?_,hrl⟩⟩
 . obtain ⟨a1,a2,j,_,w,hw,e1,e2⟩:=Dz r hr
   exact ⟨a1,a2,w,bJ hw,e1,e2⟩
 . by_cases c:ws=[]
   . right
     rw [c] at hrl
     exact List.length_eq_zero_iff.mp (by simpa using hrl)
   . left
     have:=R5 c
     omega
abbrev vI:Stmt:=top 39
abbrev sJ:List Str:=["_law_model_here","_law_amounts","_law_seat_here","_law_award"]
abbrev Ob:List Str:=sJ.append ["_law_parts","_law_whole","_law_kept","_law_given","_law_at_here","_law_k"]
theorem iV:aJ Ob sJ (ay vI):=c8
theorem MH (F:At K mg "_law_bear" vI f fd) (bq:mg "len"=none) (bL:mg "range"=none) (fT:mg "sum"=none):Dn P w K mg base 1 "_law_bear" sJ (Uq K):=by
 refine F.oA iV fun cdv A outer s H vs Q E hr h=>?_
 obtain ⟨⟨n,ρ,B,b,l,as,seat,aw,rfl,G,h,wf,hl,cl,ok,q⟩⟩:=h
 refine ⟨_,(@cK.h _ _ _ (aj (aN (i:=4) iV.nd (bP (bY hr) (qv 0) bf))
  (aj (aN (i:=5) iV.nd (aG (lV K rfl) (by rfl) fT yg (af (gw ["_law_part"] [none] rfl (dJ K (qv 4)) (fun _ _ _ _=>(aQ (i:=0) (show List.Nodup (["_law_part"] :List Str) from by decide +kernel))) (fun _ _ _ _=>(aI (aK K) (qv 0) ak)) rfl (by rfl)) ao)))
  (aj (aN (i:=6) iV.nd (aD lT (aD lT (qv 5) (qv 3)) (aG (lV K rfl) (by rfl) fT yg (af (qv 1) ao))))
  (aj (aN (i:=7) iV.nd (eF ao))
  (aj (dR eE rfl (dS (by rfl) bL (af (aG (bV K) (by rfl) bq dF (af (bP (bY hr) (qv 0) bf) ao)) ao)) (aQ (i:=8) iV.nd) (au (dm (uo yf yc yd gZ (qv 7) (af (aG (lV K rfl) (by rfl) fT yg (af (gw ["_law_k","_law_parts","_law_at_here","_law_amounts"] [none,some 4,some 8,some 1] rfl (dS (by rfl) bL (af (aG (bV K) (by rfl) bq dF (af (qv 4) ao)) ao)) (fun _ _ _ _=>(aQ (i:=0) (show List.Nodup (["_law_k","_law_parts","_law_at_here","_law_amounts"] :List Str) from by decide +kernel))) (fun _ _ _ _=>(aD j7 (aI (aK K) (aI (aK K) (aI (aK K) (qv 1) (qv 0)) ak) (qv 2)) (aI (aK K) (qv 3) (qv 0)))) rfl (by rfl)) ao)) ao)))))
  (aj (ie (aZ jU (qv 3) ak (br _)) (au (nE (aD cg (aI (aK K) (qv 7) (qv 2)) (aD j7 (qv 3) (bP (bY hr) (qv 0) bf))) (nF (qv 7) (qv 2) set_list))) aX)
  (aj (dR eE rfl (dS (by rfl) bL (af (aG (bV K) (by rfl) bq dF (af (qv 4) ao)) ao)) (aQ (i:=9) iV.nd) (aj (nE (gw ["_law_at_here","_law_parts","_law_k","_law_kept","_law_given"] [none,some 4,some 9,some 6,some 7] rfl (dS (by rfl) bL (af (aG (bV K) (by rfl) bq dF (af (qv 7) ao)) ao)) (fun _ _ _ _=>(aQ (i:=0) (show List.Nodup (["_law_at_here","_law_parts","_law_k","_law_kept","_law_given"] :List Str) from by decide +kernel))) (fun _ _ _ _=>(aD cg (aD j7 (aI (aK K) (aI (aK K) (aI (aK K) (qv 1) (qv 2)) ak) (qv 0)) (qv 3)) (aI (aK K) (qv 4) (qv 0)))) rfl (by rfl)) (nF (aI (aK K) (qv 4) (qv 9)) ak set_list))
  (au (nE (aD lT (aI (aK K) (aI (aK K) (qv 4) (qv 9)) ak) (aI (aK K) (qv 1) (qv 9))) (nF (aI (aK K) (qv 4) (qv 9)) ak set_list)))))
  (aj (o_ (bY hr) (qv 0) bf (aD j7 (bP (bY hr) (qv 0) bf) (qv 5)) rfl)
  (au (o_ (bY hr) (qv 0) bf (Dk ["_law_part"] [none] rfl (dJ K (qv 4)) (fun _ _ _ _=>(aQ (i:=0) (show List.Nodup (["_law_part"] :List Str) from by decide +kernel))) (fun _ _ _ _=>(qv 0)) (fun _ _ _ _=>(aZ jU (aI (aK K) (qv 0) ak) ak (br _))) rfl (by rfl)) rfl))))))))))),?_⟩
 have pl:=wf.pl
 have ud:(B.qs.map fun q=>V.ref q.1).length=b.ah.length:=by rw [aE];exact h.ql
 refine ⟨_,Z,B.m,_,Z,cN.k (k:=Sum.inr "parts") h.om,?_⟩
 refine ⟨_,Z,B.lp,Z,⟨_,aC.of h.op⟩,fun l0 jD=>?_⟩
 refine iP (J:=uG K B.lp) (n:=b.ah.length) 0 (fun i o H'=>aF H H'/\o=((b.ah.take i).map (fun p:BP=>p.wo)).map V.int) (by omega) ⟨aB jD _,Z⟩ (fun i o H' hi _ hp=>⟨_,_,aC.of (hp.1 _ _ h.op),aW (by rw [ud];exact hi)⟩) (fun o H' _ hp=>⟨_,aC.of (hp.1 _ _ h.op),by rw [ud];exact aP _⟩) ?_ ?_
 . rintro i y o H2 H3 hi eV ha ⟨g,e⟩ ⟨rfl,hy⟩
   have ei:=aW hi
   obtain ⟨qq,eq,k1,k2,_,_⟩:=h.find ei
   have ey:=hy _ (aC.of (g _ _ h.op))
   rw [bF,eq] at ey
   cases ey
   refine ⟨_,Z,qq.1,_,_,_,Z,Z,aC.of (g _ _ k1),aT (j:=2) rfl,ha,g.cD jD _,?_⟩
   subst e
   rw [take_snoc ei,bN,bN]
   rfl
 rintro o1 H1 _ ha ⟨g1,e⟩
 rw [cC] at e
 subst e
 refine ⟨l0,b.ah.map (fun p:BP=>p.wo),Z,aC.of ha,?_⟩
 show gh 5 (.int (bD b)) _ _ _
 refine ⟨_,Z,_,Z,_,_,Z,Z,_,Z,l,as,Z,g1.seq hl,_,_,Z,Z,?_⟩
 show gh 6 (.int (bD b-aw-as.sum)) _ _ _
 generalize ekp:bD b-aw-as.sum=kept at *
 have hkp:0<kept:=by rw [<-ekp];exact ok.kept
 have zw:=ok.big
 have as0:0<=as.sum:=by
  cases has:as with
  | nil=>exact iW _
  | cons a l=>exact Int.le_trans (ok.a0 a (by rw [has];exact cM)) (by rw [<-has];exact v8 ok.a0 (by rw [has];exact cM))
 have zk:Jm.Sz 60 kept:=zw.of_le (by have:=ok.Cz;omega)
 have za:∀a∈as,Jm.Sz 60 a:=fun a hm=>zw.of_le (by have:=ok.a0 a hm;have:=v8 ok.a0 hm;have:=ok.Cz;omega)
 have zaw:Jm.Sz 60 aw:=zw.of_le (by have:=ok.Cz;omega)
 have zt:∀p∈b.ah,∀t∈p.tops,Jm.Sz 7000 t:=fun p hp t ht=>Jm.Sz.pS (by have:=wf.t0 p hp t ht;have:=wf.b1;omega) (wf.t0 p hp t ht).2 wf.bz
 have h1:=h.mono g1
 have hl1:=g1.seq hl
 refine ⟨(i_ 0),fun gv hgv=>?_⟩
 have g2:=aB hgv (.lst [])
 have X3:upd H1 gv (.lst []) gv=some (.lst []):=ai
 have Xm:H gv=none:=g1.free hgv
 have U1:=g1.trans g2
 show z7 _ _ _ _ (upd H1 gv (.lst []))
 generalize upd H1 gv (.lst [])=H2 at *
 have h2:=h.mono U1
 have ol:=wf.ol
 have oml:(b.own.map V.str).length=b.own.length:=aE _
 refine ⟨_,Z,B.m,_,Z,cN.k (k:=Sum.inr "owners") h2.om,B.lo,_,Z, .inl (aC.of h2.oo),_,Z,by omega,by omega,?_⟩
 refine fW (lo:=0) (n:=(((b.own.map V.str).length:Nat):Int).toNat) (fun i σ H'=>aF H H'/\H' gv=some (.lst (((List.range i).map (iI b.ah as)).map V.int))/\∃s8,σ=[some (.ref B.m),some (.ref l),some (.int (seat:Int)),some (.int aw),some (.ref B.lp),some (.int (bD b)),some (.int kept),some (.ref gv),s8,none])
  ⟨U1,X3,_,Z⟩ ?_ ?_
 . rintro i σ H3 hi ⟨g3,Ft,s8,rfl⟩
   have e0:(0:Int)+(i:Int)=((i:Nat):Int):=by omega
   rw [e0]
   have hio:i<b.own.length:=by omega
   refine ⟨_,Z, .inl ⟨Z,_,aC.of Ft⟩,_,Z,B.lp,_,Z, .inl (aC.of (g3 _ _ h.op)),_,Z,by omega,by omega,fun c hc=>?_⟩
   refine iP (J:=HN 0 _) (n:=b.ah.length) 0 (fun j o H'=>aF H3 H'/\o=(List.zipWith (fun (p:BP) (a:Int)=>p.tops.getD i 0*a) (b.ah.take j) (as.take j)).map V.int) (by omega) ⟨aB hc _,Z⟩ (fun j o H' hj _ _=>by show j<(((B.qs.map fun q=>V.ref q.1).length:Nat):Int).toNat;omega) (fun o H' _ _=>by show (((B.qs.map fun q=>V.ref q.1).length:Nat):Int).toNat<=b.ah.length;omega) ?_ ?_
   . rintro j x o H4 H5 hj eV U4 ⟨g4,e4⟩ ⟨rfl,rfl⟩
     have e0:(0:Int)+(j:Int)=((j:Nat):Int):=by omega
     rw [e0]
     have ej:=aW hj
     have hja:j<as.length:=by rw [ok.len];exact hj
     have ea:=aW hja
     obtain ⟨qq,eq,k1,k2,_,_⟩:=h.find ej
     have gg:=g3.trans g4
     have hti:i<(b.ah[j]).tops.length:=by rw [wf.tl _ (bJ ej)];exact hio
     have et:=aW hti
     have eD:(b.ah[j]).tops.getD i 0=(b.ah[j]).tops[i] :=by rw [gG,et];rfl
     refine ⟨_,Z,_,Z,B.lp,_,_,_,Z,Z,aC.of (gg _ _ h.op),aT (by rw [bF,eq];rfl),qq.1,_,_,_,Z,Z,aC.of (gg _ _ k1),aT (j:=4) rfl,_,Z,qq.2,_,_,_,Z,Z,aC.of (gg _ _ k2),aT (by rw [bF,et];rfl),?_⟩
     refine ⟨_,Z,_,Z,l,_,_,_,Z,Z,gg.seq hl,aT (by rw [bF,ea];rfl),_,_,Z,Z,jb (zt _ (bJ ej) _ (bJ et)) (za _ (bJ ea)),U4,g4.cD hc _,?_⟩
     rw [Lp ej ea,e4,bN,eD]
     rfl
   rintro o H4 _ U4 ⟨g4,e4⟩
   have e5:List.zipWith (fun (p:BP) (a:Int)=>p.tops.getD i 0*a) (b.ah.take b.ah.length) (as.take b.ah.length)=List.zipWith (fun (p:BP) (a:Int)=>p.tops.getD i 0*a) b.ah as:=by rw [cC,<-ok.len,cC]
   rw [e5] at e4
   subst e4
   refine ⟨c,_,Z,aC.of U4,gv,_,_,Z,Z,g4 _ _ Ft,by rw [aE,aE,CP];exact eZ (by omega),(g3.trans g4).cD Xm _,?_,_,Z⟩
   rw [ai,List.range_succ,bN,bN]
   rfl
 rintro σ H3 ⟨g3,Ft,s8,rfl⟩
 rw [show (((b.own.map V.str).length:Nat):Int).toNat=b.own.length from by omega] at Ft
 have Ft:H3 gv=some (.lst ((gj b as).map V.int)):=Ft
 have h3:=h.mono g3
 have gl:=mQ b as
 refine ⟨fun σ H'=>aF H H'/\H' gv=some (.lst ((ia b as seat aw).map V.int))/\σ=[some (.ref B.m),some (.ref l),some (.int (seat:Int)),some (.int aw),some (.ref B.lp),some (.int (bD b)),some (.int kept),some (.ref gv),s8,none],?_,?_⟩
 . refine ⟨_,Z,_,_,Z,Z,_,Z,dW (fun c=>?_) (fun c=>?_)⟩
   . have c':0<aw:=eO c
     have hsl:seat<(gj b as).length:=by rw [gl];exact ok.seat
     have es:=aW hsl
     have eD:(gj b as).getD seat 0=(gj b as)[seat] :=by rw [gG,es];rfl
     refine ⟨_,Z,_,Z,gv,_,_,_,Z,Z,aC.of Ft,aT (by rw [bF,es];rfl),_,Z,_,Z,B.m,_,Z,cN.k (k:=Sum.inr "bottom") h3.om,_,_,Z,Z,jb zaw wf.bz,_,_,Z,Z,_,Z,_,Z,gv,_,_,_,Z,Z,Ft,by rw [aE];exact oX hsl,g3.cD Xm _,?_,Z⟩
     rw [ai]
     unfold ia
     rw [aA c',lD,eD]
   . have c':¬ 0<aw:=uE (qO.mpr c)
     refine ⟨g3,?_,Z⟩
     unfold ia
     rw [az c']
     exact Ft
 rintro σ H4 ⟨g4,hg4,rfl⟩
 have gvl:=yN b as seat aw
 generalize egv:ia b as seat aw=given at *
 have h4:=h.mono g4
 have gmn:(given.map V.int).length=b.own.length:=by rw [aE];exact gvl
 have cgv:ρ gv=none:=G.none Xm
 have bl:(dg b as seat aw).length=b.ah.length:=v7 ok.len
 refine ⟨_,Z,B.lp,_,Z, .inl (aC.of h4.op),_,Z,by omega,by omega,?_⟩
 refine fW (lo:=0) (n:=(((B.qs.map fun q=>V.ref q.1).length:Nat):Int).toNat) (fun i σ H'=>∃ρ' B' s8 s9,σ=[some (.ref B.m),some (.ref l),some (.int (seat:Int)),some (.int aw),some (.ref B.lp),some (.int (bD b)),some (.int kept),some (.ref gv),s8,s9]/\Gh ρ' H'/\aU n ρ' B' H' { b with ah:=(dg b as seat aw).take i++b.ah.drop i }/\B'.m=B.m/\B'.lp=B.lp/\Fr n ρ H ρ' H'/\H' gv=some (.lst (given.map V.int))/\ρ' gv=none)
  ⟨ρ,B,_,_,Z,G.same g4,h4,Z,Z,Fr.of_same g4,hg4,cgv⟩ ?_ ?_
 . rintro i σ H5 hi ⟨ρ5,B5,s8,s9,rfl,G5,h5,yb,CI,F5,Qn,cg5⟩
   have e0:(0:Int)+(i:Int)=((i:Nat):Int):=by omega
   rw [e0]
   have zK:i<b.ah.length:=by omega
   have ei:=aW zK
   have iE:=bJ ei
   have hia:i<as.length:=by rw [ok.len];exact zK
   have ea:=aW hia
   have em:((dg b as seat aw).take i++b.ah.drop i)[i]?=some b.ah[i] :=Zy (by omega) ei
   have ebp:=Lo (seat:=seat) (aw:=aw) ei ea
   rw [egv,ekp] at ebp
   have Yh:=wf.tl _ iE
   have Vd:=zt _ iE
   generalize b.ah[i]=p at *
   have hza:=za _ (bJ ea)
   generalize as[i]=a at *
   obtain ⟨qq,eq,k1,k2,c1,c2⟩:=h5.find em
   have op5:H5 B.lp=some (.lst (B5.qs.map fun q=>V.ref q.1)):=by rw [<-CI];exact h5.op
   have Qo:(B5.qs.map fun q=>V.ref q.1)[i]?=some (.ref qq.1):=by rw [bF,eq];rfl
   refine ⟨_,Z,gv,_,Z, .inl (aC.of Qn),_,Z,by omega,by omega,fun t1 ht1=>?_⟩
   refine iP (J:=HN 0 _) (n:=b.own.length) 0 (fun j o H'=>aF H5 H'/\o=(List.zipWith (fun t g=>t*kept+g) (p.tops.take j) (given.take j)).map V.int) (by omega) ⟨aB ht1 _,Z⟩ (fun j o H' hj _ _=>by show j<(((given.map V.int).length:Nat):Int).toNat;omega) (fun o H' _ _=>by show (((given.map V.int).length:Nat):Int).toNat<=b.own.length;omega) ?_ ?_
   . rintro j x o H6 H7 hj eV CJ ⟨g6,e6⟩ ⟨rfl,rfl⟩
     have e0:(0:Int)+(j:Int)=((j:Nat):Int):=by omega
     rw [e0]
     have et:=aW (show j<p.tops.length by rw [Yh];exact hj)
     have eg:=aW (show j<given.length by rw [gvl];exact hj)
     refine ⟨_,Z,_,Z,B.lp,_,_,_,Z,Z,aC.of (g6 _ _ op5),aT Qo,qq.1,_,_,_,Z,Z,aC.of (g6 _ _ k1),aT (j:=4) rfl,_,Z,qq.2,_,_,_,Z,Z,aC.of (g6 _ _ k2),aT (by rw [bF,et];rfl),?_⟩
     refine ⟨_,Z,_,_,Z,Z,jb (Vd _ (bJ et)) zk,_,Z,_,Z,gv,_,_,_,Z,Z,aC.of (g6 _ _ Qn),aT (by rw [bF,eg];rfl),_,_,Z,Z,CJ,g6.cD ht1 _,?_⟩
     rw [o6 _ et eg,e6,bN]
     rfl
   rintro o H6 _ CJ ⟨g6,e6⟩
   rw [show p.tops.take b.own.length=p.tops from by rw [<-Yh];exact cC,show given.take b.own.length=given from by rw [<-gvl];exact cC] at e6
   subst e6
   have h6:=h5.mono g6
   have G6:=G5.same g6
   have ct1:ρ5 t1=none:=G5.none ht1
   have h7:aU n (cE ρ5 t1 (n,24,p.nm)) B5 H6 { b with ah:=(dg b as seat aw).take i++b.ah.drop i }:=h6.col ct1
   have G7:Gh (cE ρ5 t1 (n,24,p.nm)) H6:=G6.color CJ rfl
   have F7:Fr n ρ H (cE ρ5 t1 (n,24,p.nm)) H6:=F5.trans (Fr.color ht1 g6)
   have ct:cE ρ5 t1 (n,24,p.nm) t1=some (n,24,p.nm):=dH
   have cg7:cE ρ5 t1 (n,24,p.nm) gv=none:=by rw [cu (fun z=>by rw [z] at Qn;rw [Qn] at ht1;cases ht1)];exact cg5
   have hg6:=g6 _ _ Qn
   have zM:=g6 _ _ op5
   have k16:=g6 _ _ k1
   have Ve:cE ρ5 t1 (n,24,p.nm) qq.1=some (n,23,p.nm):=by rw [cu (aH k1 ht1)];exact c1
   generalize cE ρ5 t1 (n,24,p.nm)=ρ7 at *
   have ndm:(((dg b as seat aw).take i++b.ah.drop i).map (fun p:BP=>p.nm)).Nodup:=by rw [Ur ok.len];exact wf.nd
   have nqg:gv≠qq.1:=fun z=>by rw [z,Ve] at cg7;cases cg7
   generalize eT:List.zipWith (fun t g=>t*kept+g) p.tops given=T at *
   refine ⟨_,Z,_,Z,B.lp,_,_,_,Z,Z,aC.of zM,aT Qo,qq.1,_,_,4,Z,Z,k16,Z,?_⟩
   have h8:=h7.sS G7 (p1:={ p with tops:=T }) (t1:=t1) em eq rfl ndm CJ ct
   have G8:=G7.wr (a:=qq.1) (o:=ny { p with tops:=T } t1) rfl
   have F8:=F7.trans (Fr.write (o:=ny { p with tops:=T } t1) Ve)
   have k18:upd H6 qq.1 (ny { p with tops:=T } t1) qq.1=some (ny { p with tops:=T } t1):=ai
   have hg8:upd H6 qq.1 (ny { p with tops:=T } t1) gv=some (.lst (given.map V.int)):=by rw [av nqg];exact hg6
   have nlp:B.lp≠qq.1:=fun z=>by
    have:=h7.cp
    rw [CI,z,Ve] at this
    cases this
   have op8:upd H6 qq.1 (ny { p with tops:=T } t1) B.lp=some (.lst (B5.qs.map fun q=>V.ref q.1)):=by rw [av nlp];exact zM
   have ntq:t1≠qq.1:=fun z=>by rw [z,Ve] at ct;cases ct
   have ht8:upd H6 qq.1 (ny { p with tops:=T } t1) t1=some (.lst (T.map V.int)):=by rw [av ntq];exact CJ
   generalize hH8:upd H6 qq.1 (HO.lst _)=H8
   have adu:upd H6 qq.1 (ny { p with tops:=T } t1)=H8:=hH8
   rw [adu] at h8 G8 F8 k18 hg8 op8 ht8
   clear hH8 adu
   refine ⟨_,Z,_,Z,B.lp,_,_,_,Z,Z,aC.of op8,aT Qo,qq.1,_,_,_,Z,Z,aC.of k18,aT (j:=2) rfl,?_⟩
   refine ⟨_,Z,_,Z,l,_,_,_,Z,Z,F8.seq hl cl,aT (by rw [bF,ea];rfl),_,_,Z,Z,?_⟩
   refine ⟨_,Z,_,Z,B.lp,_,_,_,Z,Z,aC.of op8,aT Qo,qq.1,_,_,2,Z,Z,k18,Z,?_⟩
   have hiq:i<B5.qs.length:=(dI.mp eq).1
   have him:i<((dg b as seat aw).take i++b.ah.drop i).length:=(dI.mp em).1
   have h9:=h8.sS G8 (i:=i) (p0:={ p with tops:=T }) (p1:=m9 given kept p a) (q0:=(qq.1,t1)) (t1:=t1) (j5 him) (j5 hiq) rfl (by
    show ((((dg b as seat aw).take i++b.ah.drop i).set i { p with tops:=T }).map (fun p:BP=>p.nm)).Nodup
    rw [lD,lW (by rw [bF,em];rfl)]
    exact ndm) (by show H8 t1=some (.lst ((List.zipWith (fun t g=>t*kept+g) p.tops given).map V.int));rw [eT];exact ht8) ct
   have e9:(((dg b as seat aw).take i++b.ah.drop i).set i { p with tops:=T }).set i (m9 given kept p a)=(dg b as seat aw).take (i+1)++b.ah.drop (i+1):=by rw [mK];exact Zz ebp zK
   have h9':aU n ρ7 { B5 with qs:=(B5.qs.set i (qq.1,t1)).set i (qq.1,t1) } (upd H8 qq.1 (ny (m9 given kept p a) t1)) { b with ah:=(((dg b as seat aw).take i++b.ah.drop i).set i { p with tops:=T }).set i (m9 given kept p a) }:=h9
   rw [e9] at h9'
   exact ⟨ρ7,{ B5 with qs:=(B5.qs.set i (qq.1,t1)).set i (qq.1,t1) },_,_,Z,G8.wr rfl,h9',yb,CI,F8.trans (Fr.write Ve),by rw [av nqg];exact hg8,cg7⟩
 rintro σ H5 ⟨ρ5,B5,s8,s9,rfl,G5,h5,yb,CI,F5,Qn,cg5⟩
 rw [show (((B.qs.map fun q=>V.ref q.1).length:Nat):Int).toNat=b.ah.length from by omega,show (dg b as seat aw).take b.ah.length=dg b as seat aw from by rw [<-bl];exact cC,DS,rO] at h5
 obtain ⟨m5,Vf,lp5,Vg,Vh,A8⟩:=B5
 have yb:m5=B.m:=yb
 have CI:lp5=B.lp:=CI
 subst yb CI
 refine ⟨_,Z,B.m,_,Z,cN.k (k:=Sum.inr "bottom") h5.om,_,Z,_,_,Z,Z,jb wf.bz zw,_,Z,B.m,_,Z,sZ.k (k:=Sum.inr "bottom") h5.om (by show 5<sizeLine;decide),?_⟩
 rw [Us]
 have h6:=h5.Zu G5 (b.bot*bD b)
 have G6:=G5.wr (a:=B.m) (o:= .dK (fC ⟨B.m,Vf,B.lp,Vg,Vh,A8⟩ (b.bot*bD b))) rfl
 have F6:=F5.trans (Fr.write (o:= .dK (fC ⟨B.m,Vf,B.lp,Vg,Vh,A8⟩ (b.bot*bD b))) h5.cm)
 generalize hH6:upd H5 B.m (HO.dK _)=H6
 have adv:upd H5 B.m (.dK (fC ⟨B.m,Vf,B.lp,Vg,Vh,A8⟩ (b.bot*bD b)))=H6:=hH6
 have h6:aU n ρ5 ⟨B.m,Vf,B.lp,Vg,Vh,A8⟩ (upd H5 B.m (.dK (fC ⟨B.m,Vf,B.lp,Vg,Vh,A8⟩ (b.bot*bD b)))) { b with ah:=dg b as seat aw,bot:=b.bot*bD b }:=h6
 rw [adv] at h6 G6 F6
 clear hH6 adv
 have Fv:A8.length=(dg b as seat aw).length:=h5.ql
 have Vi:(A8.map fun q=>V.ref q.1).length=(dg b as seat aw).length:=by rw [aE];exact Fv
 have zM:H6 B.lp=some (.lst (A8.map fun q=>V.ref q.1)):=h6.op
 refine ⟨_,Z,B.lp,Z,⟨_,aC.of zM⟩,fun lp uc=>?_⟩
 refine Gw (J:=uG K B.lp) (n:=(dg b as seat aw).length) 0 (fun i o H'=>aF H6 H'/\o=(jw ((dg b as seat aw).take i) (A8.take i)).map fun q=>V.ref q.1) (by omega) ⟨aB uc _,Z⟩ (fun i o H' hi _ hp=>⟨_,_,aC.of (hp.1 _ _ zM),aW (by rw [Vi];exact hi)⟩) (fun o H' _ hp=>⟨_,aC.of (hp.1 _ _ zM),by rw [Vi];exact aP _⟩) ?_ ?_
 . rintro i y o H7 H8 hi eV ha ⟨g,e⟩ ⟨rfl,hy⟩
   have ei:=aW hi
   obtain ⟨qq,eq,k1,k2,_,_⟩:=h6.find ei
   have eq:A8[i]?=some qq:=eq
   have ey:=hy _ (aC.of (g _ _ zM))
   rw [bF,eq] at ey
   cases ey
   have es:=yP ei eq
   refine ⟨_,Z,qq.1,_,_,_,Z,Z,aC.of (g _ _ k1),aT (j:=2) rfl,_,_,Z,Z,_,Z,dW (fun c=>?_) (fun c=>?_)⟩
   . rw [aA (eO c)] at es
     refine ⟨_,Z,ha,g.cD uc _,?_⟩
     rw [es,e,bN]
     rfl
   . rw [az (uE (qO.mpr c))] at es
     exact ⟨ha,g,by rw [es,e,rO]⟩
 rintro o H7 _ ha ⟨g7,e⟩
 rw [cC,<-Fv,cC] at e
 subst e
 have h7:=h6.mono g7
 have G7:=G6.same g7
 have clp:ρ5 lp=none:=G6.none uc
 have h8:=h7.col (t:=22) (x:=⟨#[]⟩) clp
 have G8:Gh (cE ρ5 lp (n,22,⟨#[]⟩)) H7:=G7.color ha rfl
 have F8:Fr n ρ H (cE ρ5 lp (n,22,⟨#[]⟩)) H7:=F6.trans (Fr.color uc g7)
 have h9:=h8.Um G8 (lp:=lp) (qs:=jw (dg b as seat aw) A8) (ps:=(dg b as seat aw).filter fun p=>decide (0<p.wo)) ha dH (AD Fv) (fun i x y ex ey=>by
  obtain ⟨j,a1,a2⟩:=yO ex ey Fv
  exact h8.pt j x y a1 a2)
 refine ⟨_,Z,B.m,_,Z,sZ.k (k:=Sum.inr "parts") h7.om (by show 5<sizeLine;decide),?_⟩
 rw [Lq]
 exact q _ _ _ (G8.wr rfl) h9 rfl (F8.trans (Fr.write h8.cm))
abbrev mz:Stmt:=top 40
abbrev jY:List Str:=["_law_model_here","_law_rows_here"]
abbrev B9:List Str:=jY.append ["_law_amounts","_law_name_here","_law_amount"]
theorem jG:aJ B9 jY (ay mz):=c8
theorem A_ (F:At K mg "_law_model_cast" mz f fd) (mC:Dn P w K mg base 1 "_law_at" pB (X6 K)) (xm:Dn P w K mg base 1 "_law_bear" sJ (Uq K)):Dn P w K mg base 2 "_law_model_cast" jY (PL K):=by
 refine F.oA jG fun cdv A outer s H vs Q E hr h=>?_
 obtain ⟨⟨n,ρ,B,b,l,us,rs,rfl,G,h,wf,hl,hR,cl,rb,hle,bo,q⟩⟩:=h
 refine ⟨_,(@cK.h _ _ _ (aj (uz (i:=2) ["_law_part"] [none] jG.nd rfl rfl rfl (dJ K (bP (bY hr) (qv 0) bf)) (fun _ _ _ _=>(aQ (i:=0) (show List.Nodup (["_law_part"] :List Str) from by decide +kernel))) (fun _ _ _ _=>ak) rfl (by rfl) (by rfl))
  (aj (dR eE rfl (dJ K (qv 1)) (jf K (n:=2) rfl (cV (aQ (i:=3) jG.nd) (cV (aQ (i:=4) jG.nd) je))) (au (nE (qv 4) (nF (qv 2) (aY mC hr (af (bP (bY hr) (qv 0) bf) (af (qv 3) ao))) set_list))))
  (au (dm (aY xm hr (af (qv 0) (af (qv 2) (af ak (af ak ao)))))))))),?_⟩
 have pl:=wf.pl
 have ud:(B.qs.map fun q=>V.ref q.1).length=b.ah.length:=by rw [aE];exact h.ql
 refine ⟨_,Z,B.m,_,Z,cN.k (k:=Sum.inr "parts") h.om,B.lp,Z,⟨_,aC.of h.op⟩,fun l0 jD=>?_⟩
 refine iP (J:=uG K B.lp) (n:=b.ah.length) 0 (fun i o H'=>aF H H'/\o=((b.ah.take i).map fun _=>(0:Int)).map V.int) (by omega) ⟨aB jD _,Z⟩ (fun i o H' hi _ hp=>⟨_,_,aC.of (hp.1 _ _ h.op),aW (by rw [ud];exact hi)⟩) (fun o H' _ hp=>⟨_,aC.of (hp.1 _ _ h.op),by rw [ud];exact aP _⟩) ?_ ?_
 . rintro i y o H2 H3 hi eV ha ⟨g,e⟩ ⟨rfl,hy⟩
   refine ⟨ha,g.cD jD _,?_⟩
   subst e
   rw [take_snoc (aW hi),bN,bN]
   rfl
 rintro o1 H1 _ ha ⟨g1,e⟩
 rw [cC] at e
 subst e
 have UZ:=hR.length
 refine ⟨_,Z,l,Z,⟨us,g1.seq hl⟩,?_⟩
 refine lS (K:=K) (xs:=us) (fun i σ H'=>aF H H'/\H' l0=some (.lst ((c7 b (rs.take i)).map V.int))/\∃s3 s4,σ=[some (.ref B.m),some (.ref l),some (.ref l0),s3,s4]) ⟨g1,ha,_,_,Z⟩ (fun i σ H' _ hp=>hp.1.seq hl) ?_ ?_
 . rintro i x σ H2 hx ⟨g2,ha2,s3,s4,rfl⟩
   obtain ⟨a,r,rfl,er,har⟩:=hR.get hx
   obtain ⟨r1,j,p,hp,e,le⟩:=rb.row r (bJ er)
   have hj:=(dI.mp hp).1
   have hn:r.1∉(rs.take i).map (fun r:Row=>r.1):=by
    rw [Bp]
    exact j_ rb.nd (by rw [bF,er];rfl)
   obtain ⟨s1,s2⟩:=EK wf.nd hp e hn
   have h2:=h.mono g2
   refine ⟨a,_,Z,cS.of (g2 _ _ har),Z,_,_,Z,_,_,Z,Z,?_⟩
   refine ⟨_,Z,_,Z,_,Z,B.m,_,Z,cN.k (k:=Sum.inr "parts") h2.om,_,Z,⟨⟨B.lp,_,lX b,j,(p.nm,p.wo),by rw [<-e];rfl,aC.of h2.op,h2.nw,?_,by unfold lX;rw [aE];exact pl,by unfold lX;rw [bF,hp];rfl,?_⟩⟩⟩
   . unfold lX;rw [fH];exact wf.nd
   . refine ⟨l0,_,_,j,Z,Z,ha2,by rw [aE,AE];exact oX hj,g2.cD jD _,?_,_,_,Z⟩
     rw [ai,take_snoc er,s1,lD]
 rintro σ H2 ⟨g2,ha2,s3,s4,rfl⟩
 rw [UZ,cC] at ha2
 refine ⟨_,Z,_,Z,⟨⟨n,ρ,B,b,l0,c7 b rs,0,0,Z,G.same g2,h.mono g2,wf,aC.of ha2,G.none jD,bo,fun ρ' B' H' a1 a2 a3 a4=>q ρ' B' H' a1 a2 a3 ((Fr.of_same g2).trans a4)⟩⟩⟩
abbrev t7:Stmt:=top 36
abbrev qB:List Str:=["_law_script","_law_k","_law_hold","_law_model_here","_law_names_here","_law_many"]
abbrev MI:List Str:=qB.append ["_law_at_here","_law_owner","_law_worth","_law_weight"]
theorem kU:aJ MI qB (ay t7):=c8
theorem Jt {T:TC} (F:At K mg "_law_loads" t7 f fd) (aO:Dn P w K mg base 1 "_law_draw" fk (lU K)) (xo:Dn P w K mg base 2 "_law_much" sy (KW K)) (qC:Dn P w K mg base 2 "_law_new_part" lO Iu)
  (xr:Mn P w K mg base 4 T.hold "load" r_ (T4 T)) (bq:mg "len"=none) (bL:mg "range"=none):Dn P w K mg base 5 "_law_loads" qB (PN T K):=by
 refine F.oA kU fun cdv A outer s H vs Q E hr h=>?_
 obtain ⟨⟨n,m,ρ,A,B,st,b,a,ln,ns,k,nms,many,rfl,nm,hh,hb,gd,hS,h63,hk0,hk1,hN,Vj,xO,Fl,hml,ak_,en,ep,ek,q⟩⟩:=h
 refine ⟨_,(@cK.h _ _ _ (au (dR eE rfl (dS (by rfl) bL (af (qv 5) ao)) (aQ (i:=6) kU.nd) (aj (aN (i:=7) kU.nd (aI (aK K) (bP (bY hr) (qv 3) bf) (aY aO hr (af (qv 0) (af (aD cg (qv 1) (qv 6)) (af ak (af (aG (bV K) (by rfl) bq dF (af (bP (bY hr) (qv 3) bf) ao)) ao)))))))
  (aj (aN (i:=8) kU.nd (aY xo hr (af (qv 0) (af (aD cg (qv 1) (qv 6)) (af ak ao)))))
  (aj (aN (i:=9) kU.nd (aY aO hr (af (qv 0) (af (aD cg (qv 1) (qv 6)) (af ak (af ak ao))))))
  (aj (dm (gm xr hr (qv 2) (af (aI (aK K) (qv 4) (qv 6)) (af (qv 7) (af (qv 8) (af (qv 9) ao))))))
  (au (dm (aY qC hr (af (qv 3) (af (aI (aK K) (qv 4) (qv 6)) (af (qv 7) (af (qv 8) (af (qv 9) ao))))))))))))))),?_⟩
 refine ⟨_,Z,_,Z,by omega,by omega,?_⟩
 refine fW (lo:=0) (n:=((many:Nat):Int).toNat) (fun i σ H'=>∃ρ' A' B' st' b' s6 s7 s8 s9,σ=[some (.ref a),some (.int k),some (.ref A.a),some (.ref B.m),some (.ref ln),some (.int (many:Int)),s6,s7,s8,s9]/\HH T n ρ' A' H' st'/\aU m ρ' B' H' b'/\gk 0 st' b'/\A'.a=A.a/\B'.m=B.m/\b'.own=b.own/\b'.ah.length=i/\b'.d_.length=i/\st'.nms=nms.take i/\st'.kn=st.kn/\aF (out ρ H) (out ρ' H'))
  ⟨ρ,A,B,st,b,_,_,_,_,Z,hh,hb,gd,Z,Z,Z,by rw [ep];rfl,by rw [ek];rfl,by rw [en];rfl,Z,aF.refl _⟩ ?_ ?_
 . rintro i σ H1 hi ⟨ρ1,A1,B1,st1,b1,s6,s7,s8,s9,rfl,gF,hb1,sX,Ba,wF,CK,Yv,ekl,Yw,ekn,o1⟩
   have e0:(0:Int)+(i:Int)=((i:Nat):Int):=by omega
   rw [e0]
   have him:i<many:=by omega
   have hin:i<nms.length:=by omega
   have ex:=aW hin
   have exm:=bJ ex
   have Lx:=xO _ exm
   have hxn:nms[i]∉nms.take i:=j_ Vj ex
   generalize nms[i]=x at *
   have ya:=hS _ _ o1
   have hN1:=hN _ _ o1
   have omH:H1 B.m=some (.dK (fC B1 b1.bot)):=by rw [<-wF];exact hb1.om
   have ol1:(b1.own.map V.str).length=b1.own.length:=aE _
   have ow0:=sX.own
   refine ⟨_,Z,B.m,_,Z,cN.k (k:=Sum.inr "owners") omH,_,Z,_,Z,_,Z,_,_,Z,Z,_,Z,B.m,_,Z,cN.k (k:=Sum.inr "owners") omH,B1.lo,_,Z, .inl (aC.of hb1.oo),cT ya h63 (by omega) (by decide) (by decide) (by omega) fun d _ d0 d1=>?_⟩
   obtain ⟨jo,o,ejo,eo,eat⟩:=Lh (l:=b1.own) d0 (by omega)
   have hom:o∈b1.own:=bJ eo
   refine ⟨B1.lo,_,_,_,Z,Z,aC.of hb1.oo,eat,?_⟩
   refine ⟨_,Z,_,Z,_,Z,_,_,Z,Z,Wq ya h63 (by omega) (by decide) (by decide) fun wo H2 w1 w2 g2=>?_⟩
   refine ⟨_,Z,_,Z,_,Z,_,_,Z,Z,cT (g2.seq ya) h63 (by omega) (by decide) (by decide) (by decide) fun we _ v0 v1=>?_⟩
   have kT:=gF.mono g2
   have o2:=o1.trans (iQ (ρ:=ρ1) g2)
   have hN2:=hN _ _ o2
   have exv:(nms.map V.str)[i]?=some (.str x):=by rw [bF,ex];rfl
   have hxs:x∉st1.nms:=by rw [Yw];exact hxn
   have eow:=sX.rel.own
   have hnl:st1.nms.length=i:=by rw [Yw,kZ];omega
   refine ⟨_,Z,A.a,A1.dx,_,Z,by rw [<-Ba];exact kT.h.oa,Z,_,Z,_,Z,ln,_,_,_,Z,Z,hN2,aT exv,_,Z,_,Z,_,Z,⟨⟨n,ρ1,A1,st1,x,o,wo,we,by rw [Ba];rfl,kT,Lx.isNm,hxs,by rw [eow];exact hom,w1,v0,by omega,by rw [sX.rel.len];omega,fun ρ3 A3 H3 lJ e3 f3=>?_⟩⟩⟩
   have A0:=(hb1.mono g2).other f3 kT.g (bU nm)
   have o3:=o2.trans f3.out
   have hN3:=hN _ _ o3
   refine ⟨_,Z,_,Z,_,Z,ln,_,_,_,Z,Z,hN3,aT exv,_,Z,_,Z,_,Z,⟨⟨m,ρ3,B1,b1,x,o,wo,we,by rw [wF];rfl,lJ.g,A0,hom,by have:=sX.jR.ol;omega,by omega,by omega,fun ρ4 B4 H4 G4 CL e4 f4=>?_⟩⟩⟩
   have nG:=lJ.other f4 G4 nm
   refine ⟨ρ4,A3,B4,_,_,_,_,_,_,Z,nG,CL,ZH sX gF.wf ?_ w1 w2 (by omega) (by omega) Lx.isNm hom (by omega),e3.trans Ba,e4.trans wF,CK,?_,?_,?_,ekn,o3.trans f4.out⟩
   . intro hm
     obtain ⟨p,hp,e⟩:=bQ.mp hm
     obtain ⟨j,hj,ej⟩:=pD hp
     obtain ⟨p',sU,e1,_⟩:=sX.rel.at (i:=j) (q:=p) (by rw [aW hj,ej])
     have:=gF.wf.sub p' (bJ sU)
     rw [e1] at this
     have e:p.nm=x:=e
     rw [e] at this
     exact hxs this
   . show (b1.ah++[_]).length=i+1
     rw [dh,Yv];rfl
   . show (b1.d_++[_]).length=i+1
     rw [dh,ekl];rfl
   . show st1.nms++[x]=nms.take (i+1)
     rw [Yw,take_snoc ex]
 rintro σ H1 ⟨ρ1,A1,B1,st1,b1,s6,s7,s8,s9,rfl,gF,hb1,sX,Ba,wF,CK,Yv,ekl,Yw,ekn,o1⟩
 exact q ρ1 A1 B1 H1 st1 b1 gF hb1 sX Ba wF CK (by rw [Yv];omega) ekn o1
abbrev vJ:Stmt:=top 41
abbrev sL:List Str:=["_law_script","_law_hold","_law_model_here","_law_names_here"]
abbrev Oc:List Str:=sL.append ["_law_rows_here"]
theorem Bb:aJ Oc sL (ay vJ):=c8
theorem MJ {T:TC} (F:At K mg "_law_prep" vJ f fd) (aO:Dn P w K mg base 1 "_law_draw" fk (lU K)) (vK:Dn P w K mg base 5 "_law_loads" qB (PN T K)) (xu:Dn P w K mg base 2 "_law_rows" sH (PK K)) (nh:Dn P w K mg base 2 "_law_model_cast" jY (PL K)) (xw:Mn P w K mg base 4 T.hold "cast" sf (Ud T K)) (bq:mg "len"=none) (dz:mg "list"=none):Dn P w K mg base 6 "_law_prep" sL (UR T K):=by
 refine F.oA Bb fun cdv A outer s H vs Q E hr h=>?_
 obtain ⟨⟨n,m,ρ,A,B,st,b,a,ln,ns,nms,rfl,nm,hh,hb,gd,hS,h63,hN,Vj,xO,Fl,h6,en,ep,ek,q⟩⟩:=h
 refine ⟨_,(@cK.h _ _ _ (aj (dm (aY vK hr (af (qv 0) (af ak (af (qv 1) (af (qv 2) (af (qv 3) (af (aD cg ak (aY aO hr (af (qv 0) (af ak (af ak (af ak ao)))))) ao))))))))
  (au (ie (aZ jU (aY aO hr (af (qv 0) (af ak (af ak (af ak ao))))) ak (br _)) (aj (aN (i:=4) Bb.nd (aY xu hr (af (qv 0) (af ak (af (bP (bY hr) (qv 2) bf) ao)))))
  (au (ie (aZ jU (aG (bV K) (by rfl) bq dF (af (qv 4) ao)) ak (br _)) (aj (dm (gm xw hr (qv 1) (af (o9 (nN K) (by rfl) dz wL (af (qv 4) ao)) ao)))
  (au (dm (aY nh hr (af (qv 2) (af (qv 4) ao)))))) aX))) aX)))),?_⟩
 refine ⟨_,Z,_,Z,_,Z,_,Z,_,Z,cT (hS _ _ (aF.refl _)) h63 (by decide) (by decide) (by decide) (by decide) fun md _ m0 m1=>⟨_,_,Z,Z,?_⟩⟩
 obtain ⟨many,aeV⟩:∃many:Nat,2+md=(many:Int):=⟨(2+md).toNat,by omega⟩
 refine ⟨⟨n,m,ρ,A,B,st,b,a,ln,ns,4,nms,many,by rw [<-aeV];rfl,nm,hh,hb,gd,hS,h63,by decide,by decide,hN,Vj,xO,Fl,by omega,by omega,en,ep,ek,fun ρ1 A1 B1 H1 st1 b1 gF hb1 sX Ba wF CK Yv ek1 o1=>?_⟩⟩
 have ya:=hS _ _ o1
 have pl:=sX.pl
 refine ⟨fun σ' H'=>Q .b_ H',?_,fun _ _ y=>y⟩
 refine ⟨_,Z,cT ya h63 (by decide) (by decide) (by decide) (by decide) fun cd _ _ _=>⟨_,_,Z,Z,_,Z,dW (fun _=>?_) (fun _=>?_)⟩⟩
 rotate_left
 . exact q ρ1 A1 B1 H1 st1 b1 gF hb1 sX.mono Ba wF CK (by omega) (by omega) o1
 have om1:H1 B.m=some (.dK (fC B1 b1.bot)):=by rw [<-wF];exact hb1.om
 refine ⟨_,Z,_,Z,B.m,_,Z,cN.k (k:=Sum.inr "parts") om1,⟨⟨a,B1.lp,ns,10,_,lX b1,Z,ya,h63,by decide,by decide,aC.of hb1.op,hb1.nw,by unfold lX;rw [fH];exact sX.jR.nd,by unfold lX;rw [aE];omega,fun w hw=>by obtain ⟨p,hp,rfl⟩:=bQ.mp hw;exact sX.jR.w1 p hp,fun z zs rs H2 g2 hz hz2 hR rok=>?_⟩⟩⟩
 have zl:=hR.length
 have kT:=gF.mono g2
 have hb2:=hb1.mono g2
 have cz:ρ1 z=none:=gF.g.none hz
 refine ⟨fun σ' H'=>Q .b_ H',?_,fun _ _ y=>y⟩
 refine ⟨_,Z,z,_,Z, .inl (aC.of hz2),_,_,Z,Z,_,Z,dW (fun c0=>?_) (fun c0=>?_)⟩
 rotate_left
 . exact q ρ1 A1 B1 H2 st1 b1 kT hb2 sX.mono Ba wF CK (by omega) (by omega) (o1.trans (iQ g2))
 have c1:0<rs.length:=by have:(0:Int)<((zs.length:Nat):Int):=eO c0;omega
 have hne:rs≠[] :=fun e=>by rw [e] at c1;simp at c1
 obtain ⟨cok,rb,bo⟩:=NO sX gF.wf rok hne (by decide)
 refine ⟨_,Z,A.a,A1.dx,_,Z,by rw [<-Ba];exact kT.h.oa,Z,_,Z,z,_,Z, .inl (aC.of hz2),fun hd hhd=>?_⟩
 have g3:=aB hhd (.lst zs)
 have Qf:upd H2 hd (.lst zs) hd=some (.lst zs):=ai
 have hz3:=g3 _ _ hz2
 have hR3:=hR.mono g3.tups
 have lJ:=kT.mono g3
 have A0:=hb2.mono g3
 have o3:aF (out ρ H) (out ρ1 (upd H2 hd (.lst zs))):=o1.trans (iQ (g2.trans g3))
 show pP _ (upd H2 hd (.lst zs)) _
 generalize upd H2 hd (.lst zs)=H3 at *
 refine ⟨⟨n,ρ1,A1,st1,hd,zs,rs,by rw [Ba];rfl,lJ,aC.of Qf,hR3,cok,fun ρ4 A4 H4 nG e4 f4=>?_⟩⟩
 have CL:=A0.other f4 lJ.g (bU nm)
 obtain ⟨ez,cz4⟩:=f4.at hz3 cz
 have hR4:=hR3.mono (f4.tup lJ.g)
 refine ⟨_,Z,_,Z,⟨⟨m,ρ4,B1,b1,z,zs,rs,by rw [wF];rfl,nG.g,CL,sX.jR,aC.of ez,hR4,cz4,rb,cok.len,bo,fun ρ5 B5 H5 G5 Fo e5 f5=>?_⟩⟩⟩
 exact q ρ5 A4 B5 H5 _ _ (nG.other f5 G5 nm) Fo (ZF sX gF.wf cok rb bo (by decide)) (e4.trans Ba) (e5.trans wF) CK (by have:=ZG st1 rs;omega) (US bo) ((o3.trans f4.out).trans f5.out)
abbrev oO:Stmt:=top 42
abbrev lP:List Str:=["_law_model_here","_law_deed"]
abbrev Fw:List Str:=lP.append ["_law_at_here"]
theorem vL:aJ Fw lP (ay oO):=c8
theorem DC (F:At K mg "_law_due_part" oO f fd) (mC:Dn P w K mg base 1 "_law_at" pB (AL K)):Dn P w K mg base 4 "_law_due_part" lP (J_ rj K):=by
 refine F.oA vL fun cdv A outer s H vs Q E hr h=>?_
 obtain ⟨⟨n,ρ,B,b,st,z,d,rfl,hz,hb,rl,wf,wb,kn,ha,db,q⟩⟩:=h
 refine ⟨_,(@cK.h _ _ _ (aj (aN (i:=2) vL.nd (aY mC hr (af (bP (bY hr) (qv 0) bf) (af (aI (bZ K) (qv 1) ak) ao))))
  (aj (cQ (aZ J3 (qv 2) ak (br _)) (au (aS ak)) aX)
  (aj (cQ (fD (bW.pt (vc (aZ ir (aI (bZ K) (qv 1) ak) bf (br _)) (uA (aZ Ky (aI (bZ K) (qv 1) ak) (bP (bY hr) (qv 0) bf) (by with_unfolding_all rfl)))))) (au (aS ak)) aX)
  (au (aS (EV z_ ak))))))),?_⟩
 obtain ⟨x,o,rfl⟩:∃x o,d = .hand x o:=by
  cases d with
  | hand x o=>exact ⟨x,o,Z⟩
  | _=>exact ha.elim
 have q:=q H (aF.refl _)
 have q:Q (.int (acA (jy st x o))) H:=q
 refine ⟨_,Z,B.m,_,Z,cN.k (k:=Sum.inr "parts") hb.om,_,Z,z,_,_,_,Z,Z,hz,aT (j:=1) rfl,P0 hb rl wf wb (fun i p q' k1 k2 k3 k4 k5 k6 k7 k8 hm=>?_) fun hm=>?_⟩
 rotate_left
 . refine ⟨_,Z,_,_,Z,Z,_,Z,dW (fun _=>?_) (fun c=>absurd (cy (by show (-1:Int)<0;decide)) c)⟩
   unfold jy at q;rw [az hm] at q;exact q
 refine ⟨_,Z,_,_,Z,Z,_,Z,dW (fun c=>absurd (eO c) (by show ¬ (i:Int)<0;omega)) (fun _=>?_)⟩
 unfold jy at q
 rw [aA hm] at q
 by_cases ho:o∈b.own
 . rw [aA (by rw [rl.own];exact ho)] at q
   exact ⟨false,⟨_,Z,z,_,_,_,Z,Z,hz,aT (j:=0) rfl,Z,_,Z,dW (fun _=>⟨_,Z,z,_,_,_,Z,Z,hz,aT (j:=2) rfl,_,Z,B.m,_,Z,cN.k (k:=Sum.inr "owners") hb.om,B.lo,_,Z, .inl (aC.of hb.oo),Z,Ij _,_,Z,by show (!Ed (.str o) (b.own.map V.str))=false;rw [Lg,cy ho];rfl,Z⟩) (fun c=>absurd (cy rfl) c)⟩,cW ⟨1,Z,q⟩⟩
 . rw [az (by rw [rl.own];exact ho)] at q
   exact ⟨true,⟨_,Z,z,_,_,_,Z,Z,hz,aT (j:=0) rfl,Z,_,Z,dW (fun _=>⟨_,Z,z,_,_,_,Z,Z,hz,aT (j:=2) rfl,_,Z,B.m,_,Z,cN.k (k:=Sum.inr "owners") hb.om,B.lo,_,Z, .inl (aC.of hb.oo),Z,Ij _,_,Z,by show (!Ed (.str o) (b.own.map V.str))=true;rw [Lg,d8 ho];rfl,Z⟩) (fun c=>absurd (cy rfl) c)⟩,qT q⟩
abbrev xx:Stmt:=top 43
abbrev uu:List Str:=["_law_model_here","_law_deed"]
abbrev R6:List Str:=uu
theorem Od:aJ R6 uu (ay xx):=c8
theorem Oe (F:At K mg "_law_due" xx f fd) (qD:Dn P w K mg base 4 "_law_due_part" lP (J_ rj K)):Dn P w K mg base 5 "_law_due" uu (J_ rj K):=by
 refine F.oA Od fun cdv A outer s H vs Q E hr h=>?_
 obtain ⟨⟨n,ρ,B,b,st,z,d,rfl,a1,a2,a3,a4,a5,a6,a7,a8,a9⟩⟩:=h
 refine ⟨_,(@cK.h _ _ _ (au (aS (aY qD hr (af (qv 0) (af (qv 1) ao)))))),?_⟩
 exact ⟨_,Z,_,Z,⟨⟨n,ρ,B,b,st,z,d,Z,a1,a2,a3,a4,a5,a6,a7,a8,a9⟩⟩⟩
abbrev qE:Stmt:=top 44
abbrev mV:List Str:=["_law_hold","_law_deed"]
abbrev Hj:List Str:=mV
theorem Fx:aJ Hj mV (ay qE):=c8
theorem Fy {T:TC} {e:Ec} (F:At K mg "_law_hold_do" qE f fd) (vM:Mx P w K mg base 2 T.hold "hand" sj (P_ T e)):Dx P w K mg base 6 "_law_hold_do" mV (LL T e rj K):=by
 refine F.UP Fx fun cdv A outer s H vs Q E hr h=>?_
 obtain ⟨⟨n,ρ,A,st,z,d,rfl,hz,hh,ha,dq⟩⟩:=h
 refine ⟨_,(@cK.h _ _ _ (aj (cQ (aZ ir (aI (bZ K) (qv 1) ak) bf (br _)) (au (aS (BW vM hr (qv 0) (af (aI (bZ K) (qv 1) ak) (af (aI (bZ K) (qv 1) ak) ao))))) aX)
  (au (aS acE)))),?_⟩
 cases d with
 | hand x o=>
   refine ⟨_,Z,z,_,_,_,Z,Z,hz,aT (j:=0) rfl,Z,_,Z,dW (fun c=>?_) (fun c=>absurd (cy rfl) c)⟩
   exact ⟨_,Z,A.a,A.dx,_,Z,hh.h.oa,Z,_,Z,z,_,_,_,Z,Z,hz,aT (j:=1) rfl,_,Z,z,_,_,_,Z,Z,hz,aT (j:=2) rfl,⟨⟨n,ρ,A,st,x,o,Z,hh,ha,dq⟩⟩⟩
 | _=>exact ha.elim
abbrev t8:Stmt:=top 45
abbrev qF:List Str:=["_law_hold","_law_deed"]
abbrev MK:List Str:=qF.append ["_law_told","e"]
theorem ji:aJ MK qF (ay t8):=c8
theorem Ju {T:TC} {e:Ec} {al:HS->Dd->Prop} (F:At K mg "_law_tried" t8 f fd) (qG:Dx P w K mg base 6 "_law_hold_do" mV (LL T e al K)) (to:∀st d i,al st d->k_ st d=some i->Told K e (e.at i) i) (aM:mg "isinstance"=none) (vN:mg "ValueError"=none)
  (Bc:mg "BadName"=some (.ref e.bad)) (Hl:mg "Twice"=some (.ref e.twice)) (pe:mg "NoOwner"=some (.ref e.wg)) (rC:mg "NoPart"=some (.ref e.sV)) (y_:mg "NoVoyage"=some (.ref e.ES)) (xy:mg "BadNumber"=some (.ref e.AH))
  (Bd:mg "TooMuch"=some (.ref e.LC)) (Be:mg "BadRows"=some (.ref e.rows)) (DE:mg "NoDeed"=some (.ref e.LD)) (ze:mg "BadPaper"=some (.ref e.ET)) (qH:mg "JettisonError"=some (.ref e.W0)):Dn P w K mg base 7 "_law_tried" qF (GI T al K):=by
 refine F.oA ji fun cdv A outer s H vs Q E hr h=>?_
 obtain ⟨⟨n,ρ,A,st,z,d,rfl,hz,hh,ha,q2,q⟩⟩:=h
 refine ⟨_,(@cK.h _ _ _ (aj (aN (i:=2) ji.nd (eF ao))
  (aj (acC (j:=3) ji.nd rfl rfl (fun _ _ z=>z) rfl rfl (acD qG hr (fun _ _ z=>z) (af (qv 0) (af (qv 1) ao))) (by rfl) qH (fun _=>(aj (aN (i:=2) ji.nd (eF (af (aG (ff K rfl) (by rfl) aM j0 (af (qv 3) (af (jz (n:="ValueError") (by rfl) rfl vN) ao))) (af (aG (ff K rfl) (by rfl) aM j0 (af (qv 3) (af (kh (v:= .ref _) (by rfl) Bc rfl) ao))) (af (aG (ff K rfl) (by rfl) aM j0 (af (qv 3) (af (kh (v:= .ref _) (by rfl) Hl rfl) ao))) (af (aG (ff K rfl) (by rfl) aM j0 (af (qv 3) (af (kh (v:= .ref _) (by rfl) pe rfl) ao))) ao))))))
  (aj (aN (i:=2) ji.nd (aD nt (qv 2) (eF (af (aG (ff K rfl) (by rfl) aM j0 (af (qv 3) (af (kh (v:= .ref _) (by rfl) rC rfl) ao))) (af (aG (ff K rfl) (by rfl) aM j0 (af (qv 3) (af (kh (v:= .ref _) (by rfl) y_ rfl) ao))) (af (aG (ff K rfl) (by rfl) aM j0 (af (qv 3) (af (kh (v:= .ref _) (by rfl) xy rfl) ao))) ao))))))
  (au (aN (i:=2) ji.nd (aD nt (qv 2) (eF (af (aG (ff K rfl) (by rfl) aM j0 (af (qv 3) (af (kh (v:= .ref _) (by rfl) Bd rfl) ao))) (af (aG (ff K rfl) (by rfl) aM j0 (af (qv 3) (af (kh (v:= .ref _) (by rfl) Be rfl) ao))) (af (aG (ff K rfl) (by rfl) aM j0 (af (qv 3) (af (kh (v:= .ref _) (by rfl) DE rfl) ao))) (af (aG (ff K rfl) (by rfl) aM j0 (af (qv 3) (af (kh (v:= .ref _) (by rfl) ze rfl) ao))) ao))))))))))))
  (au (aS (qv 2)))))),?_⟩
 refine ⟨f_ _,fun l0 jD=>?_⟩
 have g0:aF H (upd H l0 (.lst [])):=aB jD _
 have h0:upd H l0 (.lst []) l0=some (.lst []):=ai
 generalize upd H l0 (.lst [])=H0 at g0 h0
 refine ⟨_,Z,_,Z,⟨⟨n,ρ,A,st,z,d,Z,g0.tup hz,hh.mono g0,ha,⟨fun i hi x H1 g1=>⟨_,Z,(to st d i ha hi).jt,fun y hy=>?_⟩,fun hn ρ' A' H' EZ ea F'=>⟨Z,?_⟩⟩⟩⟩⟩
 . have g2:=aB hy (Dg y (e.at i))
   refine RC (i:=2) (j:=3) (to st d i ha hi) rfl (show 2<4 from by decide) (by decide) ai fun l H2 g3 hl2=>?_
   exact ⟨_,Z,q2 i hi l _ (g0.trans (g1.trans (g2.trans g3))) hl2⟩
 . obtain ⟨a1,a2⟩:=F'.at h0 (hh.g.none jD)
   exact ⟨_,Z,q hn l0 ρ' A' H' EZ ea ((Fr.of_same g0).trans F') a1 a2 jD⟩
abbrev nj:Stmt:=top 47
abbrev kP:List Str:=["_law_model_here","_law_deed"]
abbrev DF:List Str:=kP.append ["_law_at_here","_law_part","_law_old","_law_new","_law_moved"]
theorem gy:aJ DF kP (ay nj):=c8
theorem B_ (F:At K mg "_law_model_one" nj f fd) (mC:Dn P w K mg base 1 "_law_at" pB (AL K)) (jN:Dn P w K mg base 1 "_law_seat" nH (Ln K)):Dn P w K mg base 4 "_law_model_one" kP (wm rj K):=by
 refine F.oA gy fun cdv A outer s H vs Q E hr h=>?_
 obtain ⟨⟨n,c,ρ,B,b,st,z,d,rfl,hz,G,hb,gd,hc,wf,ha,db,hr0,q⟩⟩:=h
 refine ⟨_,(@cK.h _ _ _ (aj (aN (i:=2) gy.nd (aY mC hr (af (bP (bY hr) (qv 0) bf) (af (aI (bZ K) (qv 1) ak) ao))))
  (aj (aN (i:=3) gy.nd (aI (aK K) (bP (bY hr) (qv 0) bf) (qv 2)))
  (aj (ie (aZ ir (aI (bZ K) (qv 1) ak) bf (br _)) (aj (aN (i:=4) gy.nd (aY jN hr (af (bP (bY hr) (qv 0) bf) (af (aI (aK K) (qv 3) ak) ao))))
  (aj (aN (i:=5) gy.nd (aY jN hr (af (bP (bY hr) (qv 0) bf) (af (aI (bZ K) (qv 1) ak) ao))))
  (aj (aN (i:=6) gy.nd (aI (aK K) (aI (aK K) (qv 3) ak) (qv 4)))
  (aj (nE ak (nF (aI (aK K) (qv 3) ak) (qv 4) set_list))
  (aj (nE (aD cg (aI (aK K) (aI (aK K) (qv 3) ak) (qv 5)) (qv 6)) (nF (aI (aK K) (qv 3) ak) (qv 5) set_list))
  (au (nE (aI (bZ K) (qv 1) ak) (nF (qv 3) ak set_list)))))))) aX)
  (au (o_ (bY hr) (qv 0) bf (Dk ["_law_one"] [none] rfl (dJ K (bP (bY hr) (qv 0) bf)) (fun _ _ _ _=>(aQ (i:=0) (show List.Nodup (["_law_one"] :List Str) from by decide +kernel))) (fun _ _ _ _=>(qv 0)) (fun _ _ _ _=>(aZ jU (aI (aK K) (qv 0) ak) ak (br _))) rfl (by rfl)) rfl)))))),?_⟩
 have rl:=gd.rel
 have wb:=gd.jR
 obtain ⟨x,o,rfl⟩:∃x o,d = .hand x o:=by
  cases d with
  | hand x o=>exact ⟨x,o,Z⟩
  | _=>exact ha.elim
 obtain ⟨hm,ho⟩:=AM hr0
 have Vd:cS K H z (Dd.v (.hand x o)):=cS.of hz
 refine ⟨_,Z,B.m,_,Z,cN.k (k:=Sum.inr "parts") hb.om,_,Z,z,_,_,_,Z,Z,Vd,aT (j:=1) rfl,P0 hb rl wf wb (fun i p q' k1 k2 k3 k4 k5 k6 k7 k8 _=>?_) fun hn=>absurd hm hn⟩
 obtain ⟨qq,zH,r1,r2,c1,c2⟩:=hb.find k2
 have Qo:oU (B.qs.map fun q=>V.ref q.1) (i:Int)=some (.ref qq.1):=aT (by rw [bF,zH];rfl)
 refine ⟨_,Z,B.m,_,Z,cN.k (k:=Sum.inr "parts") hb.om,_,Z,B.lp,_,_,_,Z,Z,aC.of hb.op,Qo,?_⟩
 have pl:=gd.pl
 have hi:i<b.ah.length:=(dI.mp k2).1
 have hiq:i<B.qs.length:=(dI.mp zH).1
 have Yt:=bJ k2
 have hto:=wb.tl q' Yt
 have ol:=wb.ol
 have how:q'.ow∈b.own:=by rw [<-rl.own,k5];exact wf.ow p (bJ k1)
 have hoo:o∈b.own:=by rw [<-rl.own];exact ho
 have h1:b.own.idxOf q'.ow<q'.tops.length:=by rw [hto];exact zV how
 have h2:b.own.idxOf o<q'.tops.length:=by rw [hto];exact zV hoo
 obtain ⟨bb,ebb⟩:∃bb:BS,bb={ b with ah:=b.ah.set i (gX b o q') }:=⟨_,rfl⟩
 have eS:(b.ah.map fun p=>if p.nm=x then gX b o p else p)=b.ah.set i (gX b o q'):=by rw [<-k4];exact yQ (nm:=fun p:BP=>p.nm) (f:=gX b o) wb.nd k2
 have q:∀ρ' B' H',Gh ρ' H'->aU n ρ' B' H' { bb with ah:=bb.ah.filter fun p=>decide (0<p.wo) }->B'.m=B.m->Fr n ρ H ρ' H'->Q .b_ H':=by
  have q:∀ρ' B' H',Gh ρ' H'->aU n ρ' B' H' (xZ b x (gX b o))->B'.m=B.m->Fr n ρ H ρ' H'->Q .b_ H':=q
  unfold xZ at q
  rw [eS] at q
  rw [ebb]
  exact q
 have at':∀{l:List Int} {j:Nat},j<l.length->oU (l.map V.int) (j:Int)=some (.int (l.getD j 0)):=fun {l j} h=>aT (by rw [bF,gG,aW h];rfl)
 refine ⟨fun σ' H'=>∃ρ5 B5 s4 s5 s6,σ'=[some (.ref B.m),some (.ref z),some (.int (i:Int)),some (.ref qq.1),s4,s5,s6]/\Gh ρ5 H'/\aU n ρ5 B5 H' bb/\B5.m=B.m/\Fr n ρ H ρ5 H',?_,?_⟩
 . refine ⟨_,Z,z,_,_,_,Z,Z,Vd,aT (j:=0) rfl,Z,_,Z,dW (fun _=>?_) (fun c=>absurd (cy rfl) c)⟩
   refine ⟨_,Z,B.m,_,Z,cN.k (k:=Sum.inr "owners") hb.om,_,Z,qq.1,_,_,_,Z,Z,aC.of r1,aT (j:=1) rfl,⟨⟨B.lo,b.own,q'.ow,Z,aC.of hb.oo,how,by omega,?_⟩⟩⟩
   refine ⟨_,Z,B.m,_,Z,cN.k (k:=Sum.inr "owners") hb.om,_,Z,z,_,_,_,Z,Z,Vd,aT (j:=2) rfl,⟨⟨B.lo,b.own,o,Z,aC.of hb.oo,hoo,by omega,?_⟩⟩⟩
   refine ⟨_,Z,qq.1,_,_,_,Z,Z,aC.of r1,aT (j:=4) rfl,_,Z,qq.2,_,_,_,Z,Z,aC.of r2,at' h1,?_⟩
   refine ⟨_,Z,qq.1,_,_,_,Z,Z,aC.of r1,aT (j:=4) rfl,_,Z,qq.2,_,_,b.own.idxOf q'.ow,Z,Z,r2,by rw [aE];exact oX h1,?_⟩
   have m1:(q'.tops.map V.int).set (b.own.idxOf q'.ow) (.int 0)=(q'.tops.set (b.own.idxOf q'.ow) 0).map V.int:=lD.symm
   rw [m1]
   have s1:=hb.L7 G (q'.tops.set (b.own.idxOf q'.ow) 0) k2 zH wb.nd
   have G1:=G.wr (a:=qq.2) (o:= .lst ((q'.tops.set (b.own.idxOf q'.ow) 0).map V.int)) rfl
   have F1:Fr n ρ H ρ (upd H qq.2 (.lst ((q'.tops.set (b.own.idxOf q'.ow) 0).map V.int))):=Fr.write c2
   have Qp:z≠qq.2:=fun e=>by rw [e,r2] at hz;cases hz
   have hz1:upd H qq.2 (.lst ((q'.tops.set (b.own.idxOf q'.ow) 0).map V.int)) z=some (.tup (Dd.v (.hand x o))):=by rw [av Qp];exact hz
   obtain ⟨r11,r12,_,_⟩:=s1.pt i _ _ (j5 hi) zH
   have U5:∀y:BP,y.nm=q'.nm->((b.ah.set i y).map fun p:BP=>p.nm).Nodup:=fun y e=>by
    have:(b.ah.set i y).map (fun p:BP=>p.nm)=b.ah.map (fun p:BP=>p.nm):=by rw [lD,e];exact LY (f:=fun p:BP=>p.nm) (x:=q') k2
    rw [this];exact wb.nd
   generalize upd H qq.2 (.lst ((q'.tops.set (b.own.idxOf q'.ow) 0).map V.int))=H1 at *
   have h2':b.own.idxOf o<(q'.tops.set (b.own.idxOf q'.ow) 0).length:=by rw [fq];exact h2
   refine ⟨_,Z,qq.1,_,_,_,Z,Z,aC.of r11,aT (j:=4) rfl,_,Z,qq.2,_,_,_,Z,Z,aC.of r12,at' h2',_,Z,_,_,Z,Z,_,Z,qq.1,_,_,_,Z,Z,aC.of r11,aT (j:=4) rfl,_,Z,qq.2,_,_,b.own.idxOf o,Z,Z,r12,by rw [aE];exact oX h2',?_⟩
   have m2:((q'.tops.set (b.own.idxOf q'.ow) 0).map V.int).set (b.own.idxOf o) (.int ((q'.tops.set (b.own.idxOf q'.ow) 0).getD (b.own.idxOf o) 0+q'.tops.getD (b.own.idxOf q'.ow) 0))=(kR q'.tops (b.own.idxOf q'.ow) (b.own.idxOf o)).map V.int:=lD.symm
   rw [m2]
   have s2:=s1.L7 G1 (kR q'.tops (b.own.idxOf q'.ow) (b.own.idxOf o)) (j5 hi) zH (U5 _ rfl)
   have G2:=G1.wr (a:=qq.2) (o:= .lst ((kR q'.tops (b.own.idxOf q'.ow) (b.own.idxOf o)).map V.int)) rfl
   have F2:Fr n ρ H ρ (upd H1 qq.2 (.lst ((kR q'.tops (b.own.idxOf q'.ow) (b.own.idxOf o)).map V.int))):=F1.trans (Fr.write c2)
   have hz2:upd H1 qq.2 (.lst ((kR q'.tops (b.own.idxOf q'.ow) (b.own.idxOf o)).map V.int)) z=some (.tup (Dd.v (.hand x o))):=by rw [av Qp];exact hz1
   have e2s:(b.ah.set i { q' with tops:=q'.tops.set (b.own.idxOf q'.ow) 0 }).set i { q' with tops:=kR q'.tops (b.own.idxOf q'.ow) (b.own.idxOf o) }=b.ah.set i { q' with tops:=kR q'.tops (b.own.idxOf q'.ow) (b.own.idxOf o) }:=mK ..
   have s2:aU n ρ B (upd H1 qq.2 (.lst ((kR q'.tops (b.own.idxOf q'.ow) (b.own.idxOf o)).map V.int))) { b with ah:=b.ah.set i { q' with tops:=kR q'.tops (b.own.idxOf q'.ow) (b.own.idxOf o) } }:=by rw [<-e2s];exact s2
   generalize upd H1 qq.2 (.lst ((kR q'.tops (b.own.idxOf q'.ow) (b.own.idxOf o)).map V.int))=H2 at *
   obtain ⟨r21,r22,c21,c22⟩:=s2.pt i _ _ (j5 hi) zH
   refine ⟨_,Z,z,_,_,_,Z,Z,cS.of hz2,aT (j:=2) rfl,_,Z,qq.1,_,_,1,Z,Z,r21,Z,?_⟩
   have s3:=s2.sS (i:=i) (p1:=gX b o q') (t1:=qq.2) G2 (j5 hi) zH rfl (U5 _ rfl) r22 c22
   have e3s:(b.ah.set i { q' with tops:=kR q'.tops (b.own.idxOf q'.ow) (b.own.idxOf o) }).set i (gX b o q')=b.ah.set i (gX b o q'):=mK ..
   have s4:aU n ρ { B with qs:=B.qs.set i (qq.1,qq.2) } (upd H2 qq.1 (ny (gX b o q') qq.2)) bb:=by rw [ebb,<-e3s];exact s3
   exact ⟨_,{ B with qs:=B.qs.set i (qq.1,qq.2) },_,_,_,Z,G2.wr rfl,s4,Z,F2.trans (Fr.write c21)⟩
 rintro σ H5 ⟨ρ5,B5,s4,s5,s6,rfl,G5,h5,yb,F5⟩
 have pl5:bb.ah.length<=1000:=by rw [ebb];show (b.ah.set i _).length<=1000;rw [fq];omega
 have Fv:B5.qs.length=bb.ah.length:=h5.ql
 have Vi:(B5.qs.map fun q=>V.ref q.1).length=bb.ah.length:=by rw [aE];exact Fv
 have zM:H5 B5.lp=some (.lst (B5.qs.map fun q=>V.ref q.1)):=h5.op
 have Yx:H5 B.m=some (.dK (fC B5 bb.bot)):=by rw [<-yb];exact h5.om
 refine ⟨_,Z,B.m,_,Z,cN.k (k:=Sum.inr "parts") Yx,B5.lp,Z,⟨_,aC.of zM⟩,fun lp uc=>?_⟩
 refine Gw (J:=uG K B5.lp) (n:=bb.ah.length) 0 (fun i o H'=>aF H5 H'/\o=(jw (bb.ah.take i) (B5.qs.take i)).map fun q=>V.ref q.1) (by omega) ⟨aB uc _,Z⟩ (fun i o H' hi _ hp=>⟨_,_,aC.of (hp.1 _ _ zM),aW (by rw [Vi];exact hi)⟩) (fun o H' _ hp=>⟨_,aC.of (hp.1 _ _ zM),by rw [Vi];exact aP _⟩) ?_ ?_
 . rintro i y o H7 H8 hi eV ha ⟨g,e⟩ ⟨rfl,hy⟩
   have ei:=aW hi
   obtain ⟨qq,eq,k1,k2,_,_⟩:=h5.find ei
   have ey:=hy _ (aC.of (g _ _ zM))
   rw [bF,eq] at ey
   cases ey
   have es:=yP ei eq
   refine ⟨_,Z,qq.1,_,_,_,Z,Z,aC.of (g _ _ k1),aT (j:=2) rfl,_,_,Z,Z,_,Z,dW (fun c=>?_) (fun c=>?_)⟩
   . rw [aA (eO c)] at es
     refine ⟨_,Z,ha,g.cD uc _,?_⟩
     rw [es,e,bN]
     rfl
   . rw [az (uE (qO.mpr c))] at es
     exact ⟨ha,g,by rw [es,e,rO]⟩
 rintro o H7 _ ha ⟨g7,e⟩
 rw [cC,<-Fv,cC] at e
 subst e
 have h7:=h5.mono g7
 have G7:=G5.same g7
 have clp:ρ5 lp=none:=G5.none uc
 have h8:=h7.col (t:=22) (x:=⟨#[]⟩) clp
 have G8:Gh (cE ρ5 lp (n,22,⟨#[]⟩)) H7:=G7.color ha rfl
 have F8:Fr n ρ H (cE ρ5 lp (n,22,⟨#[]⟩)) H7:=F5.trans (Fr.color uc g7)
 have h9:=h8.Um G8 (lp:=lp) (qs:=jw bb.ah B5.qs) (ps:=bb.ah.filter fun p=>decide (0<p.wo)) ha dH (AD Fv) (fun i x y ex ey=>by
  obtain ⟨j,a1,a2⟩:=yO ex ey Fv
  exact h8.pt j x y a1 a2)
 have cm8:=h8.cm
 rw [yb] at h9 cm8
 refine ⟨_,Z,B.m,_,Z,sZ.k (k:=Sum.inr "parts") (by rw [<-yb];exact h7.om) (by show 5<sizeLine;decide),?_⟩
 rw [Lq]
 exact q _ _ _ (G8.wr rfl) h9 rfl (F8.trans (Fr.write cm8))
abbrev oQ:Stmt:=top 48
abbrev lQ:List Str:=["_law_model_here","_law_deed"]
abbrev Fz:List Str:=lQ
theorem DG:aJ Fz lQ (ay oQ):=c8
theorem DH (F:At K mg "_law_model_do" oQ f fd) (oR:Dn P w K mg base 4 "_law_model_one" kP (wm rj K)):Dn P w K mg base 5 "_law_model_do" lQ (wm rj K):=by
 refine F.oA DG fun cdv A outer s H vs Q E hr h=>?_
 obtain ⟨⟨n,c,ρ,B,b,st,z,d,rfl,a1,a2,a3,a4,a5,a6,a7,a8,a9,a10⟩⟩:=h
 refine ⟨_,(@cK.h _ _ _ (au (dm (aY oR hr (af (qv 0) (af (qv 1) ao)))))),?_⟩
 exact ⟨_,Z,_,Z,⟨⟨n,c,ρ,B,b,st,z,d,Z,a1,a2,a3,a4,a5,a6,a7,a8,a9,a10⟩⟩⟩
abbrev rL:Stmt:=top 49
abbrev nY:List Str:=["_law_script","_law_k","_law_hold","_law_model_here","_law_deed"]
abbrev Jv:List Str:=nY.append ["_law_due_here","_law_found"]
theorem rM:aJ Jv nY (ay rL):=c8
theorem Ho {T:TC} {al:HS->Dd->Prop} (hlt:∀st d i,al st d->k_ st d=some i->i<10) (aeW:∀c st b d,gk c st b->c<=90->Wf st->al st d->PZ d->k_ st d=none->gk (c+1) (wk st d) (EX b d)/\(wk st d).kn<=st.kn+100) (F:At K mg "_law_single" rL f fd) (zf:Dn P w K mg base 5 "_law_due" uu (J_ al K)) (vO:Dn P w K mg base 7 "_law_tried" qF (GI T al K)) (zg:Dn P w K mg base 1 "_law_hot" ur RG) (qI:Dn P w K mg base 5 "_law_model_do" lQ (wm al K)):Dn P w K mg base 8 "_law_single" nY (LU T al K):=by
 refine F.oA rM fun cdv A outer s H vs Q E hr h=>?_
 obtain ⟨⟨n,m,c,ρ,A,B,st,b,v0,v1,z,d,rfl,nm,hz,hh,hb,gd,hc,ha,db,q⟩⟩:=h
 refine ⟨_,(@cK.h _ _ _ (aj (aN (i:=5) rM.nd (aY zf hr (af (qv 3) (af (qv 4) ao))))
  (aj (aN (i:=6) rM.nd (aY vO hr (af (qv 2) (af (qv 4) ao))))
  (aj (cQ (aZ QV (qv 5) ak (br _)) (au (aS (uB (Gq K hr.units) (qv 6) (aY zg hr (af (qv 5) ao)) (br _)))) aX)
  (aj (dm (aY qI hr (af (qv 3) (af (qv 4) ao))))
  (au (aS (uB (Gq K hr.units) (qv 6) (eF ao) (br _))))))))),?_⟩
 refine ⟨_,Z,_,Z,⟨⟨m,ρ,B,b,st,z,d,Z,cS.of hz,hb,gd.rel,hh.wf,gd.jR,gd.d_,ha,db,fun HB gB=>?_⟩⟩⟩
 have hzB:=gB _ _ hz
 have Vk:=hh.mono gB
 refine ⟨_,Z,_,Z,RO rfl (cS.of hzB) Vk ha fun l ρC AC HC ML Yy FC sC Yz=>?_⟩
 have oC:aF (out ρ H) (out ρC HC):=(iQ gB).trans FC.out
 have YA:=(hb.mono gB).other FC Vk.g (bU nm)
 have hzC:=FC.tup Vk.g _ _ hzB
 show gh 6 (.ref l) _ _ _
 cases hr:k_ st d with
 | some j=>
   have eaf:u7 st d=st:=by unfold u7;rw [hr]
   rw [eaf] at ML
   rw [hr] at Yz
   refine ⟨_,Z,_,_,Z,Z,_,Z,dW (fun _=>?_) (fun c=>absurd (cy (by show (0:Int)<=(j:Int);omega)) c)⟩
   refine ⟨_,Z,_,Z,ZN (n:=j) rfl fun p HD gD hpD=>ZP (r:=some j) (gD _ _ Yz) hpD (fun i hi=>by cases hi;exact hlt st d _ ha hr) ?_⟩
   exact q ρC AC B HD st b (ML.mono gD) (YA.mono gD) gd.mono Yy rfl rfl (by omega) (.inl rfl) (oC.trans (iQ gD))
 | none=>
   have eaf:u7 st d=wk st d:=by unfold u7;rw [hr]
   rw [eaf] at ML
   rw [hr] at Yz
   obtain ⟨gd',hk⟩:=aeW c st b d gd hc hh.wf ha db hr
   refine ⟨_,Z,_,_,Z,Z,_,Z,dW (fun c=>absurd (eO c) (by show ¬ (0:Int)<=-1;decide)) (fun _=>?_)⟩
   have cl:ρC l=none:=sC hr
   refine ⟨_,Z,_,Z,⟨⟨m,c,ρC,B,b,st,z,d,Z,hzC,ML.g,YA,gd,hc,hh.wf,ha,db,hr,fun ρD BD HD GD hbD emD FD=>?_⟩⟩⟩
   obtain ⟨hlD,_⟩:=FD.at Yz cl
   refine ⟨_,Z,(i_ 0),fun p1 hp1=>?_⟩
   have gE:=aB hp1 (.lst [])
   refine ⟨.list [], .list [], .lst (aC.of (gE _ _ hlD)) .nil, .lst (aC.of ai) .nil,Z,Z,?_⟩
   exact q ρD AC BD _ _ _ ((ML.other FD GD nm).mono gE) (hbD.mono gE) gd' Yy emD (UQ b d) hk (.inr ⟨hr,Z⟩) ((oC.trans FD.out).trans (iQ gE))
abbrev mD:Stmt:=top 50
abbrev jZ:List Str:=["_law_script","_law_k","_law_model_here","_law_word"]
abbrev Ca:List Str:=jZ.append ["_law_some"]
theorem jH:aJ Ca jZ (ay mD):=c8
theorem Bf (F:At K mg "_law_other_word" mD f fd) (aO:Dn P w K mg base 1 "_law_draw" fk (lU K)) (bq:mg "len"=none):Dn P w K mg base 2 "_law_other_word" jZ (CG K):=by
 refine F.oA jH fun cdv A outer s H vs Q E hr h=>?_
 obtain ⟨⟨a,ms,k,n,ρ,B,b,x,rfl,hS,h63,hk,hb,bk,hx,q⟩⟩:=h
 refine ⟨_,(@cK.h _ _ _ (aj (aN (i:=4) jH.nd (aD nt (aD nt (aD nt (bP (bY hr) (qv 2) bf) (gw ["_law_part"] [none] rfl (dJ K (bP (bY hr) (qv 2) bf)) (fun _ _ _ _=>(aQ (i:=0) (show List.Nodup (["_law_part"] :List Str) from by decide +kernel))) (fun _ _ _ _=>(aI (aK K) (qv 0) ak)) rfl (by rfl))) (bP (bY hr) (qv 2) bf)) (eF (af bf ao))))
  (aj (aN (i:=4) jH.nd (aD nt (qv 4) (eF (af (aD qX (qv 3) bf) (af (oz xV (qv 3) qZ (qY ak)) (af (oz xV (qv 3) (qY ak) qZ) (af (aD qX (qv 3) bf) (af (aD qX bf (oz xV (qv 3) (qY ak) qZ)) (af (aD qX (aD qX (qv 3) (qv 3)) bf) ao)))))))))
  (aj (aN (i:=4) jH.nd (aD nt (qv 4) (eF (af (aD qX bf (qv 3)) (af bf (af (aD qX (oz xV (qv 3) qZ (qY ak)) bf) ao))))))
  (au (aS (oz xV (aI (aK K) (qv 4) (aY aO hr (af (qv 0) (af (qv 1) (af ak (af (aG (bV K) (by rfl) bq dF (af (qv 4) ao)) ao)))))) qZ (qY ak)))))))),?_⟩
 have ud:(B.qs.map fun q=>V.ref q.1).length=b.ah.length:=by rw [aE];exact hb.ql
 have pl:=bk.pl
 have kl:=bk.kl
 have ol:=bk.ol
 refine ⟨_,Z,B.m,_,Z,cN.k (k:=Sum.inr "known") hb.om,?_⟩
 refine ⟨_,Z,B.m,_,Z,cN.k (k:=Sum.inr "parts") hb.om,B.lp,Z,⟨_,aC.of hb.op⟩,fun ac hac=>?_⟩
 refine iP (J:=uG K B.lp) (n:=b.ah.length) 0 (fun i o H'=>aF H H'/\o=((b.ah.take i).map (fun p:BP=>p.nm)).map V.str) (by omega) ⟨aB hac _,Z⟩ (fun i o H' hi _ hp=>⟨_,_,aC.of (hp.1 _ _ hb.op),aW (by rw [ud];exact hi)⟩) (fun o H' _ hp=>⟨_,aC.of (hp.1 _ _ hb.op),by rw [ud];exact aP _⟩) ?_ ?_
 . rintro j y o H2 H3 hj eV ha ⟨g,e⟩ ⟨rfl,hy⟩
   have ej:=aW hj
   obtain ⟨qq,eq,k1,k2,_,_⟩:=hb.find ej
   have ey:=hy _ (aC.of (g _ _ hb.op))
   rw [bF,eq] at ey
   cases ey
   refine ⟨_,Z,qq.1,_,_,_,Z,Z,aC.of (g _ _ k1),aT (j:=0) rfl,ha,g.cD hac _,?_⟩
   subst e
   rw [take_snoc ej,bN,bN]
   rfl
 rintro o H2 _ ha ⟨g2,e⟩
 rw [cC] at e
 subst e
 have sz:∀n:Nat,n<=5000->n<=sizeLine:=fun n h=>by rw [fB];omega
 refine ⟨B.lk,ac,_,_,Z,Z,g2 _ _ hb.ok,ha,sz _ (by rw [aE,aE,aE];omega),fun p1 hp1=>?_⟩
 have g3:=aB hp1 (.lst (b.d_.map V.str++(b.ah.map (fun p:BP=>p.nm)).map V.str))
 have IM:upd H2 p1 (.lst (b.d_.map V.str++(b.ah.map (fun p:BP=>p.nm)).map V.str)) p1=some (.lst (b.d_.map V.str++(b.ah.map (fun p:BP=>p.nm)).map V.str)):=ai
 generalize upd H2 p1 (.lst (b.d_.map V.str++(b.ah.map (fun p:BP=>p.nm)).map V.str))=H3 at g3 IM
 have MM:=g2.trans g3
 refine ⟨_,Z,B.m,_,Z,cN.k (k:=Sum.inr "owners") (MM _ _ hb.om),?_⟩
 refine ⟨p1,B.lo,_,_,Z,Z,IM,MM _ _ hb.oo,sz _ (by rw [dh,aE,aE,aE,aE];omega),fun p2 hp2=>?_⟩
 have W2:kg 100 (b.d_.map V.str++(b.ah.map (fun p:BP=>p.nm)).map V.str++b.own.map V.str):=((kg.map fun x hx=>fu (bk.d_ x hx) (by decide)).append (kg.map fun x hx=>by
   obtain ⟨p,hp,rfl⟩:=bQ.mp hx
   exact fu (bk.ah p hp) (by decide))).append (kg.map fun x hx=>fu (bk.own x hx) (by decide))
 have l2:(b.d_.map V.str++(b.ah.map (fun p:BP=>p.nm)).map V.str++b.own.map V.str).length<=2100:=by
  rw [dh,dh,aE,aE,aE,aE];omega
 generalize b.d_.map V.str++(b.ah.map (fun p:BP=>p.nm)).map V.str++b.own.map V.str=wI at *
 have g4:=aB hp2 (.lst wI)
 have Vl:upd H3 p2 (.lst wI) p2=some (.lst wI):=ai
 generalize upd H3 p2 (.lst wI)=H4 at g4 Vl
 refine ⟨(i_ 1),fun p3 hp3=>?_⟩
 have g5:=aB hp3 (.lst [.str ""])
 refine ⟨p2,p3,_,_,Z,Z,g5 _ _ Vl,ai,sz _ (by show wI.length+1<=_;omega),fun p4 LG=>?_⟩
 have g6:=aB LG (.lst (wI++[.str ""]))
 have h46:upd (upd H4 p3 (.lst [.str ""])) p4 (.lst (wI++[.str ""])) p4=some (.lst (wI++[.str ""])):=ai
 have W3:kg 100 (wI++[.str ""]):=W2.append (kg.cons (by decide +kernel) kg.nil)
 have l3:(wI++[V.str ""]).length<=2101:=by rw [dh];show wI.length+1<=_;omega
 have g06:=MM.trans (g4.trans (g5.trans g6))
 show gh 4 (.ref p4) _ (upd (upd H4 p3 (.lst [.str ""])) p4 (.lst (wI++[.str ""]))) _
 generalize upd (upd H4 p3 (.lst [.str ""])) p4 (.lst (wI++[.str ""]))=H6 at g06 h46
 generalize wI++[V.str ""]=L3 at *
 clear g6 LG hp3 g5 Vl g4 hp2 W2 l2
 have l1:wl "a"<=10:=by decide +kernel
 have l22:wl "-"<=10:=by decide +kernel
 have l33:wl "A"<=10:=by decide +kernel
 have l4:wl "abcdefgh"<=10:=by decide +kernel
 have l5:wl " "<=10:=by decide +kernel
 have l6:wl "zzzzzzz"<=10:=by decide +kernel
 have l7:wl "\n"<=10:=by decide +kernel
 refine ⟨_,Z,_,Z,_,_,Z,Z,by omega,fun r1 h1=>?_⟩
 refine ⟨_,Z,_,Z,_,Z,by omega,fun r2 h2 _=>?_⟩
 refine ⟨_,Z,_,Z,_,Z,by omega,fun r3 h3 _=>?_⟩
 refine ⟨_,Z,_,_,Z,Z,by omega,fun r4 h4=>?_⟩
 refine ⟨_,Z,_,Z,_,Z,by omega,fun r5 h5 _=>⟨_,_,Z,Z,by omega,fun r6 h6=>?_⟩⟩
 refine ⟨_,Z,_,Z,_,_,Z,Z,by omega,fun r7 h7=>⟨_,_,Z,Z,by omega,fun r8 h8=>?_⟩⟩
 refine ⟨(i_ 6),fun p5 hp5=>?_⟩
 have g7:=aB hp5 (.lst [.str r1, .str r2, .str r3, .str r4, .str r6, .str r8])
 refine ⟨p4,p5,_,_,Z,Z,g7 _ _ h46,ai,sz _ (by show L3.length+6<=_;omega),fun p6 Fc=>?_⟩
 have g8:=aB Fc (.lst (L3++[.str r1, .str r2, .str r3, .str r4, .str r6, .str r8]))
 have h68:upd (upd H6 p5 (.lst [.str r1, .str r2, .str r3, .str r4, .str r6, .str r8])) p6 (.lst (L3++[.str r1, .str r2, .str r3, .str r4, .str r6, .str r8])) p6=some (.lst (L3++[.str r1, .str r2, .str r3, .str r4, .str r6, .str r8])):=ai
 have W4:kg 100 (L3++[.str r1, .str r2, .str r3, .str r4, .str r6, .str r8]):=W3.append (.cons (by omega) (.cons (by omega) (.cons (by omega) (.cons (by omega) (.cons (by omega) (.cons (by omega) .nil))))))
 have l8:(L3++[V.str r1, .str r2, .str r3, .str r4, .str r6, .str r8]).length<=2107:=by rw [dh];show L3.length+6<=_;omega
 have g08:=g06.trans (g7.trans g8)
 show gh 4 (.ref p6) _ (upd (upd H6 p5 (.lst [.str r1, .str r2, .str r3, .str r4, .str r6, .str r8])) p6 (.lst (L3++[.str r1, .str r2, .str r3, .str r4, .str r6, .str r8]))) _
 generalize upd (upd H6 p5 (.lst [.str r1, .str r2, .str r3, .str r4, .str r6, .str r8])) p6 (.lst (L3++[.str r1, .str r2, .str r3, .str r4, .str r6, .str r8]))=H8 at g08 h68
 generalize L3++[V.str r1, .str r2, .str r3, .str r4, .str r6, .str r8]=L4 at *
 refine ⟨_,Z,_,Z,_,_,Z,Z,by omega,fun t1 k1=>?_⟩
 refine ⟨_,Z,_,Z,_,Z,by omega,fun t2 k2 _=>⟨_,_,Z,Z,by omega,fun t3 k3=>?_⟩⟩
 refine ⟨(i_ 3),fun p7 hp7=>?_⟩
 have g9:=aB hp7 (.lst [.str t1, .str "zzzzzzz", .str t3])
 refine ⟨p6,p7,_,_,Z,Z,g9 _ _ h68,ai,sz _ (by show L4.length+3<=_;omega),fun p8 U0=>?_⟩
 have g10:=aB U0 (.lst (L4++[.str t1, .str "zzzzzzz", .str t3]))
 have hA:upd (upd H8 p7 (.lst [.str t1, .str "zzzzzzz", .str t3])) p8 (.lst (L4++[.str t1, .str "zzzzzzz", .str t3])) p8=some (.lst (L4++[.str t1, .str "zzzzzzz", .str t3])):=ai
 have W5:kg 100 (L4++[.str t1, .str "zzzzzzz", .str t3]):=W4.append (.cons (by omega) (.cons (by omega) (.cons (by omega) .nil)))
 have l9:(L4++[V.str t1, .str "zzzzzzz", .str t3]).length<=2110/\0<(L4++[V.str t1, .str "zzzzzzz", .str t3]).length:=by rw [dh];show L4.length+3<=_/\0<L4.length+3;omega
 have g0A:=g08.trans (g9.trans g10)
 show gh 4 (.ref p8) _ (upd (upd H8 p7 (.lst [.str t1, .str "zzzzzzz", .str t3])) p8 (.lst (L4++[.str t1, .str "zzzzzzz", .str t3]))) _
 generalize upd (upd H8 p7 (.lst [.str t1, .str "zzzzzzz", .str t3])) p8 (.lst (L4++[.str t1, .str "zzzzzzz", .str t3]))=HA at g0A hA
 generalize L4++[V.str t1, .str "zzzzzzz", .str t3]=L5 at *
 refine ⟨_,Z,_,Z,_,Z,_,Z,p8,_,Z, .inl (aC.of hA),cT (g0A.seq hS) h63 hk (by decide) (by decide) (by omega) fun d _ d0 d1=>?_⟩
 obtain ⟨v,hv,hat⟩:=UJ (xs:=L5) (i:=d) (by omega) d1
 obtain ⟨sv,rfl,hsv⟩:=W5 v hv
 exact ⟨p8,_,_,_,Z,Z,aC.of hA,hat,_,Z,sv,Z,by omega,fun r hr1 hr2=>q r _ g0A (hr2 20 rfl rfl)⟩
abbrev kQ:Stmt:=top 51
abbrev i7:List Str:=["_law_script","_law_k","_law_model_here","_law_code"]
abbrev zQ:List Str:=i7.append ["_law_whole","_law_some","_law_part"]
theorem gu:aJ zQ i7 (ay kQ):=c8
theorem zh (F:At K mg "_law_other_number" kQ f fd) (aO:Dn P w K mg base 1 "_law_draw" fk (lU K)) (bq:mg "len"=none) (fT:mg "sum"=none) (wH:mg "min"=none):Dn P w K mg base 2 "_law_other_number" i7 (zJ K):=by
 refine F.oA gu fun cdv A outer s H vs Q E hr h=>?_
 obtain ⟨⟨a,ms,k,n,ρ,B,b,i0,rfl,hS,h63,hk,hb,bk,hi,q⟩⟩:=h
 refine ⟨_,(@cK.h _ _ _ (aj (aN (i:=4) gu.nd (aG (lV K rfl) (by rfl) fT yg (af (gw ["_law_part"] [none] rfl (dJ K (bP (bY hr) (qv 2) bf)) (fun _ _ _ _=>(aQ (i:=0) (show List.Nodup (["_law_part"] :List Str) from by decide +kernel))) (fun _ _ _ _=>(aI (aK K) (qv 0) ak)) rfl (by rfl)) ao)))
  (aj (aN (i:=5) gu.nd (eF (af ak (af (aD lT ak (qv 3)) (af (EV z_ ak) (af (aD cg (qv 3) ak) (af (aD pN ak ak) (af (qv 4) (af (aD lT (qv 4) ak) (af (aD cg (qv 4) ak) (af ak ao)))))))))))
  (aj (dR eE rfl (dJ K (bP (bY hr) (qv 2) bf)) (aQ (i:=6) gu.nd) (au (aN (i:=5) gu.nd (aD nt (qv 5) (eF (af (aI (aK K) (qv 6) ak) (af (aD cg (aI (aK K) (qv 6) ak) ak) (af (aD lT (aI (aK K) (qv 6) ak) ak) (af (aD cg (aI (aK K) (qv 6) ak) ak) ao)))))))))
  (au (aS (aG (SJ rfl) (by rfl) wH PyProof.Rows.boot_min (af (aI (aK K) (qv 5) (aY aO hr (af (qv 0) (af (qv 1) (af ak (af (aG (bV K) (by rfl) bq dF (af (qv 5) ao)) ao)))))) (af (aD pN ak ak) ao))))))))),?_⟩
 have ud:(B.qs.map fun q=>V.ref q.1).length=b.ah.length:=by rw [aE];exact hb.ql
 have pl:=bk.pl
 have P9:QU 10 9:=⟨by decide,by decide,by decide +kernel⟩
 have p9:(10:Int) ^ (9:Int).toNat=1000000000:=by decide +kernel
 refine ⟨_,Z,B.m,_,Z,cN.k (k:=Sum.inr "parts") hb.om,B.lp,Z,⟨_,aC.of hb.op⟩,fun ac hac=>?_⟩
 refine iP (J:=uG K B.lp) (n:=b.ah.length) 0 (fun i o H'=>aF H H'/\o=((b.ah.take i).map (fun p:BP=>p.wo)).map V.int) (by omega) ⟨aB hac _,Z⟩ (fun i o H' hi _ hp=>⟨_,_,aC.of (hp.1 _ _ hb.op),aW (by rw [ud];exact hi)⟩) (fun o H' _ hp=>⟨_,aC.of (hp.1 _ _ hb.op),by rw [ud];exact aP _⟩) ?_ ?_
 . rintro j y o H2 H3 hj eV ha ⟨g,e⟩ ⟨rfl,hy⟩
   have ej:=aW hj
   obtain ⟨qq,eq,k1,k2,_,_⟩:=hb.find ej
   have ey:=hy _ (aC.of (g _ _ hb.op))
   rw [bF,eq] at ey
   cases ey
   refine ⟨_,Z,qq.1,_,_,_,Z,Z,aC.of (g _ _ k1),aT (j:=2) rfl,ha,g.cD hac _,?_⟩
   subst e
   rw [take_snoc ej,bN,bN]
   rfl
 rintro o H2 _ ha ⟨g2,e⟩
 rw [cC] at e
 subst e
 refine ⟨ac,b.ah.map (fun p:BP=>p.wo),Z,aC.of ha,?_⟩
 have hW:0<=(b.ah.map (fun p:BP=>p.wo)).sum:=UL fun x hx=>by
  obtain ⟨p,hp,rfl⟩:=bQ.mp hx
  exact (bk.wo p hp).1
 generalize (b.ah.map (fun p:BP=>p.wo)).sum=W at *
 refine ⟨_,Z,_,_,Z,Z,_,Z,?_⟩
 refine ⟨_,Z,_,_,Z,Z,_,_,Z,Z,P9,_,Z,_,Z,_,_,Z,Z,_,Z,_,_,Z,Z,(i_ 9),fun p1 hp1=>?_⟩
 obtain ⟨i1,i2⟩:=hi
 generalize UG:upd H2 p1 (HO.lst _)=H3
 have AI:upd H2 p1 (.lst [.int 0, .int (0-i0), .int (-1), .int (i0+1), .int ((10:Int) ^ (9:Int).toNat), .int W, .int (W-1), .int (W+1), .int 1])=H3:=UG
 rw [p9] at AI
 have g3:aF H2 H3:=AI▸aB hp1 _
 have IM:H3 p1=some (.lst [.int 0, .int (0-i0), .int (-1), .int (i0+1), .int 1000000000, .int W, .int (W-1), .int (W+1), .int 1]):=by rw [<-AI,ai]
 clear UG AI
 have N0:u9 [.int 0, .int (0-i0), .int (-1), .int (i0+1), .int 1000000000, .int W, .int (W-1), .int (W+1), .int 1] := .cons (by omega) (.cons (by omega) (.cons (by omega) (.cons (by omega) (.cons (by omega) (.cons (by omega) (.cons (by omega) (.cons (by omega) (.cons (by omega) .nil))))))))
 have MM:=g2.trans g3
 refine ⟨_,Z,B.m,_,Z,cN.k (k:=Sum.inr "parts") (MM _ _ hb.om),B.lp,Z,⟨_,aC.of (MM _ _ hb.op)⟩,?_⟩
 refine lS (K:=K) (xs:=B.qs.map fun q=>V.ref q.1) (fun i σ H'=>∃(p:Addr) (vs:List V) (s6:Option V),σ=[some (.ref a),some (.int k),some (.ref B.m),some (.int i0),some (.int W),some (.ref p),s6]/\aF H H'/\H' p=some (.lst vs)/\u9 vs/\vs.length=9+4*i)
  ⟨p1,_,_,Z,MM,IM,N0,Z⟩ (fun i σ H' _ hp=>by obtain ⟨_,_,_,_,g,_⟩:=hp;exact aC.of (g _ _ hb.op)) ?_ ?_
 . rintro i y σ H' hy ⟨p,vs,s6,rfl,g,hp,hN,hl⟩
   rw [bF] at hy
   obtain ⟨qq,eq,rfl⟩:=lR.mp hy
   have hib:i<b.ah.length:=by rw [<-hb.ql];exact (dI.mp eq).1
   have ei:=aW hib
   obtain ⟨k1,k2,_,_⟩:=hb.pt i _ qq ei eq
   have kk:=aC.of (K:=K) (g _ _ k1)
   obtain ⟨w1,w2⟩:=bk.wo _ (rN hib)
   refine ⟨_,Z,_,Z,qq.1,_,_,_,Z,Z,kk,aT (j:=2) rfl,_,Z,qq.1,_,_,_,Z,Z,kk,aT (j:=2) rfl,_,_,Z,Z,_,Z,qq.1,_,_,_,Z,Z,kk,aT (j:=2) rfl,_,_,Z,Z,_,Z,qq.1,_,_,_,Z,Z,kk,aT (j:=3) rfl,_,_,Z,Z,(i_ 4),fun p2 hp2=>?_⟩
   generalize UH:upd H' p2 (HO.lst _)=H4
   have Dh:upd H' p2 (.lst [.int (b.ah[i]).wo, .int ((b.ah[i]).wo+1), .int ((b.ah[i]).wo-1), .int ((b.ah[i]).we+1)])=H4:=UH
   have g4:aF H' H4:=Dh▸aB hp2 _
   have Vl:H4 p2=some (.lst [.int (b.ah[i]).wo, .int ((b.ah[i]).wo+1), .int ((b.ah[i]).wo-1), .int ((b.ah[i]).we+1)]):=by rw [<-Dh,ai]
   clear UH Dh
   refine ⟨p,p2,_,_,Z,Z,g4 _ _ hp,Vl,by rw [fB,hl];show 9+4*i+4<=_;omega,fun p3 hp3=>?_⟩
   exact ⟨p3,_,_,Z,g.trans (g4.trans (aB hp3 _)),ai,hN.append (.cons (by omega) (.cons (by omega) (.cons (by omega) (.cons (by omega) .nil)))),by rw [dh,hl];show 9+4*i+4=_;omega⟩
 rintro σ H' ⟨p,vs,s6,rfl,g,hp,hN,hl⟩
 refine ⟨_,Z,_,Z,_,Z,_,Z,p,_,Z, .inl (aC.of hp),cT (g.seq hS) h63 hk (by decide) (by decide) (by omega) fun d _ d0 d1=>?_⟩
 obtain ⟨v,hv,hat⟩:=UJ (xs:=vs) (i:=d) (by omega) d1
 obtain ⟨j,rfl,hj⟩:=hN v hv
 refine ⟨p,_,_,_,Z,Z,aC.of hp,hat,_,_,Z,Z,P9,_,_,Z,q _ _ g ?_⟩
 rw [p9]
 unfold nB
 split <;> omega
abbrev vP:Stmt:=top 52
abbrev sM:List Str:=["_law_script","_law_k","_law_model_here","_law_deed"]
abbrev Of:List Str:=sM.append ["_law_way","_law_at_here","_law_thing"]
theorem mE:aJ Of sM (ay vP):=c8
theorem MN {ok:Dd->Prop} (bo:UT ok) (F:At K mg "_law_bent" vP f fd) (aO:Dn P w K mg base 1 "_law_draw" fk (lU K)) (nq:Dn P w K mg base 2 "_law_other_word" jZ (CG K)) (lz:Dn P w K mg base 2 "_law_other_number" i7 (zJ K)) (bq:mg "len"=none) (aM:mg "isinstance"=none) (lN:mg "str"=none):Dn P w K mg base 3 "_law_bent" sM (GL ok K):=by
 refine F.oA mE fun cdv A outer s H vs Q E hr h=>?_
 obtain ⟨⟨a,ms,k,n,ρ,B,b,z,d,rfl,hS,h63,hk,hb,bk,hz,db,q⟩⟩:=h
 refine ⟨_,(@cK.h _ _ _ (aj (cQ (aZ ir (aI (bZ K) (qv 3) ak) bf (br _)) (au iT) aX)
  (aj (aN (i:=4) mE.nd (aY aO hr (af (qv 0) (af (qv 1) (af ak (af ak ao))))))
  (aj (cQ (fD (bW.pt (vc (aZ ir (aI (bZ K) (qv 3) ak) bf (br _)) (uA (aZ ir (qv 4) ak (br _)))))) (au (aS (aD (GG K) (qv 3) (jA (af (aI (bZ K) (qv 3) ak) (af ak ao)))))) aX)
  (aj (cQ (fD (bW.pt (vc (aZ ir (aI (bZ K) (qv 3) ak) bf (br _)) (uA (aZ ir (qv 4) ak (br _)))))) (au (aS (jA (af bf ao)))) aX)
  (aj (aN (i:=5) mE.nd (aD cg ak (aY aO hr (af (qv 0) (af (qv 1) (af ak (af (aD lT (aG (bV K) (by rfl) bq dF (af (qv 3) ao)) ak) ao)))))))
  (aj (ie (dw (aG (cY K) (by rfl) aM j0 (af (aI (bZ K) (qv 3) (qv 5)) (af (jz FZ rfl lN) ao)))) (au (aN (i:=6) mE.nd (aY nq hr (af (qv 0) (af (qv 1) (af (qv 2) (af (aI (bZ K) (qv 3) (qv 5)) ao))))))) (au (aN (i:=6) mE.nd (aY lz hr (af (qv 0) (af (qv 1) (af (qv 2) (af (aI (bZ K) (qv 3) (qv 5)) ao))))))))
  (au (aS (aD (GG K) (aD (GG K) (oz (PR K) (qv 3) qZ (qY (qv 5))) (jA (af (qv 6) ao))) (oz (PR K) (qv 3) (qY (aD cg (qv 5) ak)) qZ))))))))))),?_⟩
 have e0:oU (Dd.v d) 0=some (.str d.w):=aT (j:=0) d.v0
 refine ⟨_,Z,z,_,_,_,Z,Z,hz,e0,Z,_,Z,dW (fun c=>absurd (V.str.inj (eO c)) (Dd.ZQ (bo.kind d db).2)) (fun _=>?_)⟩
 refine ⟨_,Z,_,Z,cT hS h63 hk (by decide) (by decide) (by decide) fun way _ w0 w1=>?_⟩
 have no2:∀u:Int,aau (QW (D6 rEq (D6 (Q9 K) (CS 3) (tC (.int 0))) (tC (.str "cast")))) (QW (D6 rEq (CS 4) (tC (.int u)))) [some (.ref a),some (.int k),some (.ref B.m),some (.ref z),some (.int way),none,none] H (fun b' H'=>b'=false/\H'=H):=fun u=>
  ⟨_,Z,z,_,_,_,Z,Z,hz,e0,Z,_,Z,dW (fun c=>absurd (V.str.inj (eO c)) (Dd.acz (bo.kind d db).1)) fun _=>⟨Z,Z⟩⟩
 refine ⟨false,no2 1,cW ?_⟩
 refine ⟨false,no2 2,cW ?_⟩
 refine ⟨_,Z,_,Z,_,Z,z,_,Z, .inr hz,_,_,Z,Z,cT hS h63 hk (by decide) (by decide) (by have:=(bo.len d db).1;omega) fun at' _ a0 a1=>⟨_,_,Z,Z,?_⟩⟩
 obtain ⟨dl,dl2⟩:=bo.len d db
 obtain ⟨i,ei⟩:∃i:Nat,1+at'=(i:Int):=⟨(1+at').toNat,by omega⟩
 show gh 5 (.int (1+at')) _ _ _
 rw [ei]
 have hi1:1<=i:=by omega
 have hil:i<d.v.length:=by omega
 obtain ⟨i',ei'⟩:∃i',i=i'+1:=⟨i-1,by omega⟩
 obtain ⟨v,hv⟩:∃v,d.v[i]?=some v:=⟨_,aW hil⟩
 have hat:oU (Dd.v d) (i:Int)=some v:=aT hv
 refine ⟨fun σ H'=>aF H H'/\∃(t:V),σ=[some (.ref a),some (.int k),some (.ref B.m),some (.ref z),some (.int way),some (.int (i:Int)),some t]/\alike v t,?_,?_⟩
 . rcases bo.at_ d i' v db (by rw [<-ei'];exact hv) with ⟨s,rfl,hs⟩|⟨j,rfl,hj⟩
   . refine ⟨_,Z,_,Z,z,_,_,_,Z,Z,hz,hat,_,_,_,_,Z,gH.str _,iy,_,Z,qT ?_⟩
     exact ⟨_,Z,_,Z,_,Z,_,Z,_,Z,z,_,_,_,Z,Z,hz,hat,⟨⟨a,ms,k,n,ρ,B,b,s,Z,hS,h63,hk,hb,bk,hs,fun r H' g hr=>⟨g,_,Z, .inl ⟨s,r,Z,Z,hr⟩⟩⟩⟩⟩
   . refine ⟨_,Z,_,Z,z,_,_,_,Z,Z,hz,hat,_,_,_,_,Z,gH.int _,NP,_,Z,cW ?_⟩
     exact ⟨_,Z,_,Z,_,Z,_,Z,_,Z,z,_,_,_,Z,Z,hz,hat,⟨⟨a,ms,k,n,ρ,B,b,j,Z,hS,h63,hk,hb,bk,hj,fun r H' g hr=>⟨g,_,Z, .inr ⟨j,r,Z,Z,hr⟩⟩⟩⟩⟩
 rintro σ H4 ⟨g4,t,rfl,al⟩
 obtain ⟨d',ed,bd⟩:=bo.set d i' v t db (by rw [<-ei'];exact hv) al
 rw [<-ei'] at ed
 have hz4:=g4.tup hz
 have ed':(d.v.take i++[t])++d.v.drop (i+1)=d'.v:=by
  rw [ed,List.set_eq_take_append_cons_drop,aA hil,Kg];rfl
 have ah8:wO (Dd.v d) none (some (i:Int))=d.v.take i:=ZI _ _
 have ah9:wO (Dd.v d) (some ((i:Int)+1)) none=d.v.drop (i+1):=by rw [show (i:Int)+1=((i+1:Nat):Int) by omega,UC]
 have nwL:¬ (HT.dM (Dd.v d).length 0 none=0/\HT.dM (Dd.v d).length (Dd.v d).length (some (i:Int))=(Dd.v d).length):=by rw [HT.xG];omega
 have nwR:¬ (HT.dM (Dd.v d).length 0 (some ((i:Int)+1))=0/\HT.dM (Dd.v d).length (Dd.v d).length none=(Dd.v d).length):=by rw [show (i:Int)+1=((i+1:Nat):Int) by omega,HT.xG];omega
 have hlt:(d.v.take i).length=i:=by rw [kZ];omega
 refine ⟨_,Z,_,Z,_,Z,z,_,Z,hz4,nwL,fun p hp=>?_⟩
 rw [ah8]
 have g5:=aB hp (.tup (d.v.take i))
 have h5:upd H4 p (.tup (d.v.take i)) p=some (.tup (d.v.take i)):=ai
 generalize upd H4 p (.tup (d.v.take i))=H5 at g5 h5
 refine ⟨_,Z,(i_ 1),fun p' sU=>?_⟩
 have g6:=aB sU (.tup [t])
 refine ⟨p,p',_,[t],Z,Z,cS.of (g6 _ _ h5),cS.of ai,(by rw [hlt,fB];show _+1<=_;omega),(fun e=>absurd (gU List.length e) (by rw [hlt];show ¬ i=0;omega)),(fun _ e=>nomatch e),fun _ _ u hu=>?_⟩
 have g7:=aB hu (.tup (d.v.take i++[t]))
 have YB:=g4.trans (g5.trans (g6.trans g7))
 have h7:upd (upd H5 p' (.tup [t])) u (.tup (d.v.take i++[t])) u=some (.tup (d.v.take i++[t])):=ai
 generalize upd (upd H5 p' (.tup [t])) u (.tup (d.v.take i++[t]))=H7 at YB h7
 refine ⟨_,Z,_,Z,_,_,Z,Z,_,Z,z,_,Z,YB.tup hz,nwR,fun p3 hp3=>?_⟩
 rw [ah9]
 have g8:=aB hp3 (.tup (d.v.drop (i+1)))
 refine ⟨u,p3,_,_,Z,Z,cS.of (g8 _ _ h7),cS.of ai,(by rw [dh,hlt,Kl,fB];show i+1+_<=_;omega),(fun e=>absurd (gU List.length e) (by rw [dh];show ¬ _+1=0;omega)),(fun _ e=>?_),fun _ _ z2 hz2=>?_⟩
 . rw [e,rO] at ed'
   exact q u d' _ (YB.trans g8) (by rw [<-ed'];exact g8 _ _ h7) bd
 . exact q z2 d' _ (YB.trans (g8.trans (aB hz2 _))) (by rw [<-ed'];exact ai) bd
abbrev qJ:Stmt:=top 62
abbrev R7:List Str:=["_law_script"]
abbrev aeX:List Str:=R7.append ["_law_owners","_law_names_here","_law_hold","_law_model_here","_law_at_here","_law_part","_law_deed"]
theorem nI:aJ aeX R7 (ay qJ):=c8
theorem adG {T:TC} (F:At K mg "law" qJ f fd) (aO:Dn P w K mg base 1 "_law_draw" fk (lU K)) (qK:Dn P w K mg base 2 "_law_names" qx (Gs K))
  (vQ:Dn P w K mg base 6 "_law_tells" qz (ux 2 T K)) (vR:Dn P w K mg base 5 "_law_begin" qA (Pw T K)) (vS:Dn P w K mg base 1 "_law_model" qy (PJ K)) (xA:Dn P w K mg base 6 "_law_prep" sL (UR T K))
  (sN:Dn P w K mg base 3 "_law_bent" sM (GL Dm K)) (t9:Dn P w K mg base 8 "_law_single" nY (LU T rj K))
  (bq:mg "len"=none) (bL:mg "range"=none) (wH:mg "min"=none) (YC:mg "max"=none) (fT:mg "sum"=none):iw P w K mg base t_ 9 f fd R7 (J6 K):=by
 refine F.fn.ok nI (fun vs H Q E h=>?_) (fun cdv A outer s H vs Q E hr h=>?_)
 . obtain ⟨a,ns,rfl,_⟩:=h
   rfl
 obtain ⟨a,ns,rfl,hS,h63,q⟩:=h
 refine ⟨_,(@cK.h _ _ _ (aj (aN (i:=1) nI.nd (aY qK hr (af (qv 0) (af ak (af (aD cg ak (aY aO hr (af (qv 0) (af ak (af ak (af ak ao)))))) ao)))))
  (aj (aN (i:=2) nI.nd (aY qK hr (af (qv 0) (af ak (af ak ao)))))
  (aj (aN (i:=3) nI.nd (aY vR hr (af (qv 1) ao)))
  (aj (aN (i:=4) nI.nd (aY vS hr (af (qv 1) ao)))
  (aj (dm (aY xA hr (af (qv 0) (af (qv 3) (af (qv 4) (af (qv 2) ao))))))
  (aj (dR eE rfl (dS (by rfl) bL (af (aD cg ak (aY aO hr (af (qv 0) (af ak (af ak (af ak ao)))))) ao)) (aQ (i:=5) nI.nd) (aj (aN (i:=6) nI.nd (aI (aK K) (bP (bY hr) (qv 4) bf) (aY aO hr (af (qv 0) (af (aD cg ak (qv 5)) (af ak (af (aG (bV K) (by rfl) bq dF (af (bP (bY hr) (qv 4) bf) ao)) ao)))))))
  (aj (aN (i:=7) nI.nd (jA (af bf (af (aI (aK K) (qv 6) ak) (af (aI (aK K) (qv 1) (aY aO hr (af (qv 0) (af (aD cg ak (qv 5)) (af ak (af (aG (bV K) (by rfl) bq dF (af (qv 1) ao)) ao)))))) ao)))))
  (aj (ie (aZ ir (aY aO hr (af (qv 0) (af (aD cg ak (qv 5)) (af ak (af ak ao))))) ak (br _)) (au (aN (i:=7) nI.nd (aY sN hr (af (qv 0) (af (aD cg ak (qv 5)) (af (qv 4) (af (qv 7) ao))))))) aX)
  (aj (ie (aZ ir (aY aO hr (af (qv 0) (af (aD cg ak (qv 5)) (af ak (af ak ao))))) ak (br _)) (au (aN (i:=7) nI.nd (aY sN hr (af (qv 0) (af (aD cg ak (qv 5)) (af (qv 4) (af (qv 7) ao))))))) aX)
  (au (cQ (bW.pt (iZ (dN (dw (aY t9 hr (af (qv 0) (af (aD cg ak (qv 5)) (af (qv 3) (af (qv 4) (af (qv 7) ao)))))))) (iA (dN (dw (aY vQ hr (af (qv 3) (af (qv 4) ao)))))))) (au (aS fE)) aX)))))))
  (au (aS fE))))))))),?_⟩
 refine ⟨_,Z,_,Z,cT hS h63 (by decide) (by decide) (by decide) (by decide) fun od _ o0 o1=>⟨_,_,Z,Z,?_⟩⟩
 obtain ⟨no,hno⟩:∃no:Nat,1+od=(no:Int):=⟨(1+od).toNat,by omega⟩
 refine Ia hno hS h63 (by decide) (by omega) fun zo nso H1 g1 hzo _ ala adH adI=>?_
 have ya:=g1.seq hS
 refine ⟨_,Z,Ia (show (6:Int)=((6:Nat):Int) from rfl) ya h63 (by decide) (by decide) fun zn nsn H2 g2 Qp _ alb adJ adK=>?_⟩
 have hS2:=g2.seq ya
 have MO:=g2 _ _ hzo
 rw [Zs] at MO Qp
 have eV:=Px nso
 have hnl:=Px nsn
 have yD:=Ii adH
 have MP:=T9 adI
 have Vj:=Ii adJ
 have ah_:=T9 adK
 generalize EH nso=own at *
 generalize EH nsn=nms at *
 clear adH adI adJ adK hzo
 refine ⟨_,Z,⟨⟨zo,own,0,fun _=>none,Z,aC.of MO,Z,yD,fun o ho=>(MP o ho).isNm,by omega,(fun b c e=>by cases e),fun ρ3 A3 H3 lJ F3=>?_⟩⟩⟩
 have o3:aF (out (fun _=>none) H2) (out ρ3 H3):=F3.out
 have PV:=lJ
 refine ⟨_,Z,⟨⟨zo,own,1,ρ3,Z,F3.seq (aC.of MO) rfl,lJ.g,by omega,fun ρ4 B4 H4 G4 CL k4=>?_⟩⟩⟩
 have F4:Fr 1 ρ3 H3 ρ4 H4:=fun b o e _=>k4 b o e
 have nG:=lJ.other F4 G4 (by decide)
 have o4:=o3.trans F4.out
 have fS:=(wc.of hS2).go o4
 have fN:=(wc.of (aC.of (K:=K) Qp)).go o4
 have hS4:=fS _ _ (aF.refl _)
 have aia:(own.foldl gI hs0).kn=0:=Lv own hs0
 obtain ⟨gd4,en4⟩:=gd0 (own:=own) (by omega) (by omega) (fun o ho=>(MP o ho).isNm)
 generalize own.foldl gI hs0=st4 at *
 generalize U9:A3.a=x
 generalize U_:B4.m=mm
 have fO:=(wc.of (aC.of (K:=K) MO)).go o4
 have owS:∀o∈own,PyData.strOk o=true:=fun o ho=>(MP o ho).strOk
 clear PV lJ o3 F4 k4 o4 F3 hS4 hS2 ya MO Qp
 refine ⟨_,Z,_,Z,_,Z,_,Z,⟨⟨0,1,ρ4,A3,B4,st4,_,a,zn,ns,nms,by rw [U9,U_];rfl,by decide,nG,CL,gd4,fS,h63,fN,Vj,ah_,MP,by omega,en4,Z,Z,fun ρ5 A5 B5 H5 Ah b5 wA Fo gd5 Fp yb YD ek5 aib o5=>?_⟩⟩⟩
 rw [U9] at Fp
 rw [U_] at yb
 have YD:b5.own=own:=YD
 have fS5:=fS.go o5
 have fN5:=fN.go o5
 have fO5:=fO.go o5
 rw [aia] at ek5
 clear nG CL gd4 fS fN fO o5 U9 U_
 refine ⟨_,Z,cT (fS5 _ _ (aF.refl _)) h63 (by decide) (by decide) (by decide) (by decide) fun cd _ c0 c1=>⟨_,_,Z,Z,?_⟩⟩
 refine ⟨_,Z,by omega,by omega,?_⟩
 refine fW (lo:=0) (n:=(1+cd).toNat) (fun i σ H'=>∃ρ' A' B' st' b' s5 s6 s7,σ=[some (.ref a),some (.ref zo),some (.ref zn),some (.ref x),some (.ref mm),s5,s6,s7]/\HH T 0 ρ' A' H' st'/\aU 1 ρ' B' H' b'/\gk (1+i) st' b'/\A'.a=x/\B'.m=mm/\b'.own=own/\st'.kn<=40000*i/\0<b'.ah.length/\wc K ρ' H' a (ns.map V.int)/\wc K ρ' H' zo (own.map V.str))
  ⟨ρ5,A5,B5,Ah,b5,_,_,_,Z,wA,Fo,gd5,Fp,yb,YD,by omega,aib,fS5,fO5⟩ ?_ ?_
 . clear wA Fo gd5 fS5 fN5 fO5 Fp yb YD
   rintro i σ H6 hi ⟨ρ6,A6,B6,st6,b6,s5,s6,s7,rfl,Fb,wG,MQ,Vb,Qq,eo6,ek6,Fc,fS6,fO6⟩
   have e0:(0:Int)+(i:Int)=((i:Nat):Int):=by omega
   rw [e0]
   have Qs:=fS6 _ _ (aF.refl _)
   have hO6:=fO6 _ _ (aF.refl _)
   have P9:QU 10 9:=⟨by decide,by decide,by decide +kernel⟩
   have p9:(10:Int) ^ (9:Int).toNat=1000000000:=by decide +kernel
   have bk:=MQ.bk Fb.wf
   have Yx:H6 mm=some (.dK (fC B6 b6.bot)):=by rw [<-Qq];exact wG.om
   have ud:(B6.qs.map fun q=>V.ref q.1).length=b6.ah.length:=by rw [aE];exact wG.ql
   have pl:=MQ.pl
   refine ⟨_,Z,mm,_,Z,cN.k (k:=Sum.inr "parts") Yx,_,Z,_,Z,_,_,Z,Z,_,Z,mm,_,Z,cN.k (k:=Sum.inr "parts") Yx,B6.lp,_,Z, .inl (aC.of wG.op),cT Qs h63 (by omega) (by decide) (by decide) (by omega) fun d _ d0 d1=>?_⟩
   obtain ⟨jd,ejd⟩:∃jd:Nat,d=(jd:Int):=⟨d.toNat,by omega⟩
   subst ejd
   have hjd:jd<b6.ah.length:=by omega
   obtain ⟨qq,zH,r1,r2,_,_⟩:=wG.find (aW hjd)
   have iE:=rN hjd
   have Lx:=bk.ah _ iE
   have hw0:=MQ.jR.w1 _ iE
   refine ⟨B6.lp,_,_,_,Z,Z,aC.of wG.op,aT (by rw [bF,zH];rfl),?_⟩
   have hwe:=MQ.we _ iE
   have alc:=(bk.wo _ iE).2
   generalize b6.ah[jd]=pp at *
   have rp:∀{H':Hp},aF H6 H'->aC K H' qq.1 [.str pp.nm, .str pp.ow, .int pp.wo, .int pp.we, .ref qq.2] :=fun g=>aC.of (g _ _ r1)
   refine ⟨_,Z,qq.1,_,_,_,Z,Z,rp (aF.refl _),aT (j:=0) rfl,_,Z,_,Z,_,Z,_,_,Z,Z,_,Z,zo,_,Z, .inl hO6,cT Qs h63 (by omega) (by decide) (by decide) (by rw [aE];omega) fun wd _ w0 w1=>?_⟩
   rw [aE] at w1
   obtain ⟨jo,o,ejo,eo,eat⟩:=Lh (l:=own) (d:=wd) w0 w1
   have aic:wl o<=20:=BU (MP o (bJ eo)).isNm
   refine ⟨zo,_,_,_,Z,Z,hO6,eat,(i_ 3),fun z1 hz1=>?_⟩
   have gA:=aB hz1 (.tup (Dd.v (.hand pp.nm o)))
   have oZ:upd H6 z1 (.tup (Dd.v (.hand pp.nm o))) z1=some (.tup (Dd.v (.hand pp.nm o))):=ai
   show gh 7 (.ref z1) _ (upd H6 z1 (.tup (Dd.v (.hand pp.nm o)))) _
   generalize upd H6 z1 (.tup (Dd.v (.hand pp.nm o)))=Ha at oZ gA
   have zN:Dm (.hand pp.nm o):=⟨_,_,Z,Lx,aic⟩
   generalize Dd.hand pp.nm o=d1 at oZ zN
   have hal:∀d,Dm d->rj st6 d:=fun d h=>by obtain ⟨_,_,rfl,_⟩:=h;exact acO MQ Fb.wf
   clear hz1
   refine ⟨fun σ' Ha=>∃(z:Addr) (d:Dd),σ'=[some (.ref a),some (.ref zo),some (.ref zn),some (.ref x),some (.ref mm),some (.int (i:Int)),some (.ref qq.1),some (.ref z)]/\aF H6 Ha/\Ha z=some (.tup d.v)/\Dm d,?_,?_⟩
   . refine ⟨_,Z,_,Z,_,_,Z,Z,cT (gA.seq Qs) h63 (by omega) (by decide) (by decide) (by decide) fun bw _ _ _=>⟨Z,_,Z,dW (fun _=>?_) (fun _=>?_)⟩⟩
     . exact ⟨_,Z,_,Z,_,_,Z,Z,_,Z,_,Z,II Qq (gA.seq Qs) h63 (by omega) (wG.mono gA) bk (cS.of oZ) zN fun z' d' H' g hz bd=>⟨z',d',Z,gA.trans g,hz,bd⟩⟩
     . exact ⟨z1,d1,Z,gA,oZ,zN⟩
   clear oZ zN gA
   clear z1 d1 Ha
   rintro σ Ha ⟨z1,d1,rfl,gA,oZ,zN⟩
   refine ⟨fun σ' Ha=>∃(z:Addr) (d:Dd),σ'=[some (.ref a),some (.ref zo),some (.ref zn),some (.ref x),some (.ref mm),some (.int (i:Int)),some (.ref qq.1),some (.ref z)]/\aF H6 Ha/\Ha z=some (.tup d.v)/\Dm d,?_,?_⟩
   . refine ⟨_,Z,_,Z,_,_,Z,Z,cT (gA.seq Qs) h63 (by omega) (by decide) (by decide) (by decide) fun bw _ _ _=>⟨Z,_,Z,dW (fun _=>?_) (fun _=>?_)⟩⟩
     . exact ⟨_,Z,_,Z,_,_,Z,Z,_,Z,_,Z,II Qq (gA.seq Qs) h63 (by omega) (wG.mono gA) bk (cS.of oZ) zN fun z' d' H' g hz bd=>⟨z',d',Z,gA.trans g,hz,bd⟩⟩
     . exact ⟨z1,d1,Z,gA,oZ,zN⟩
   clear oZ zN gA
   clear z1 d1 Ha
   rintro σ Ha ⟨z,d,rfl,gA,oZ,zN⟩
   have g6A:=gA
   have hhA:=Fb.mono g6A
   have hbA:=wG.mono g6A
   have oA:aF (out ρ6 H6) (out ρ6 Ha):=iQ g6A
   refine ⟨_,Z,_,Z,_,_,Z,Z,_,Z,_,Z,_,Z,⟨⟨0,1,1+i,ρ6,A6,B6,st6,b6,_,_,z,d,by rw [Vb,Qq];rfl,by decide,oZ,hhA,hbA,MQ,by omega,hal d zN,acQ zN,fun ρB AB BB HB stB bB Vk hbB gdB eaB emB eoB ekB dnB oB=>⟨_,Z,cW ?_⟩⟩⟩⟩
   have hpB:0<bB.ah.length:=by
    rcases dnB with rfl|⟨hr,rfl⟩
    . exact Fc
    . obtain ⟨_,_,rfl,_⟩:=zN
      exact Xi MQ.jR.w1 Fc
   have adN:bB.own=own:=eoB.trans eo6
   have aid:∀o∈bB.own,PyData.strOk o=true:=fun o ho=>owS o (by rw [<-adN];exact ho)
   refine ⟨_,Z,_,Z,⟨⟨0,1,ρB,AB,BB,stB,bB,1+i+1,by rw [eaB,Vb,emB,Qq];rfl,by decide,Vk,hbB,gdB,by omega,aid,by omega,fun ρC AC HC k ML hk YA Yy oC=>⟨_,Z,cW ?_⟩⟩⟩⟩
   exact ⟨ρC,AC,BB,_,bB,_,_,_,Z,ML,YA,by have:=X8 gdB k;rw [show 1+(i+1)=1+i+1 by omega];exact this,Yy.trans (eaB.trans Vb),emB.trans Qq,adN,by show k<=_;omega,hpB,fS6.go (oA.trans (oB.trans oC)),fO6.go (oA.trans (oB.trans oC))⟩
 rintro σ H6 _
 exact q H6
end
theorem all_mk {l:PySem.W.OpenLaw} {w:World} {K:Fg} {h:Heap} {mg:SO} {fa:Addr} (X:K.In h) (G:h.Ns mainGlobals mg) (hfa:mg "law"=some (.ref fa))
  {f:Addr} {od an:Option Addr} {sl:Array (Option Value)} {oc kV dc pm cd ct:Value}
  (a:PySem.W.nsIn K mainGlobals "law"=some (some (.ref f))) (l1:K.lookup f=some ⟨oc,od, .func (PySem.W.fnOf "law" "law" (dU qJ) (cF qJ) (ay qJ) .none kV dc pm an cd ct),sl⟩) (c:PySem.W.codeIn K cd "law"=true) (k:PySem.W.keepIn K (.ref f)=true)
  (FE:cL K "common_factor" oE) (Vm:cL K "made_of" yU) (Vn:cL K "is_name" yV) (Hq:cL K "check_amount" qf) (MR:cL K "check_loss" tG) (MS:cL K "amounts_of" tH) (FF:cL K "factor_of_all" oF) (Og:cL K "_law_draw" vB) (Oh:cL K "_law_name" vC) (MT:cL K "_law_names" tR) (Oi:cL K "_law_much" vD) (R8:cL K "_law_int" xg) (MU:cL K "_law_least" tS) (Vo:cL K "_law_is" yY) (DI:cL K "_law_part_list" nc) (Cb:cL K "_law_share_list" mq) (MV:cL K "_law_model" tT) (Oj:cL K "_law_seat" vE) (FG:cL K "_law_new_part" oM) (Bg:cL K "_law_tells_parts" lg) (zR:cL K "_law_tells_landed" kO) (MW:cL K "_law_tells" tW) (MX:cL K "_law_begin" tY) (R9:cL K "_law_hot" xj) (Vp:cL K "_law_at" y9) (Ol:cL K "_law_rows" vH) (Om:cL K "_law_bear" vI) (Cc:cL K "_law_model_cast" mz) (MY:cL K "_law_loads" t7) (Oo:cL K "_law_prep" vJ) (FH:cL K "_law_due_part" oO) (R_:cL K "_law_due" xx) (Hr:cL K "_law_hold_do" qE) (MZ:cL K "_law_tried" t8) (DJ:cL K "_law_model_one" nj) (FI:cL K "_law_model_do" oQ) (Jw:cL K "_law_single" rL) (Cd:cL K "_law_other_word" mD) (zS:cL K "_law_other_number" kQ) (Oq:cL K "_law_bent" vP)
  (aeY:PySem.W.nsIn K mainGlobals "len"=some none)
  (Z9:PySem.W.nsIn K mainGlobals "range"=some none)
  (aeZ:PySem.W.nsIn K mainGlobals "sum"=some none)
  (adO:PySem.W.nsIn K mainGlobals "list"=some none)
  (ae0:PySem.W.nsIn K mainGlobals "zip"=some none)
  (ae1:PySem.W.nsIn K mainGlobals "all"=some none)
  (ae2:PySem.W.nsIn K mainGlobals "int"=some none)
  (adP:PySem.W.nsIn K mainGlobals "bool"=some none)
  (ae3:PySem.W.nsIn K mainGlobals "str"=some none)
  (Z_:PySem.W.nsIn K mainGlobals "tuple"=some none)
  (ae4:PySem.W.nsIn K mainGlobals "abs"=some none)
  (M_:PySem.W.nsIn K mainGlobals "isinstance"=some none)
  (ae5:PySem.W.nsIn K mainGlobals "min"=some none)
  (ae6:PySem.W.nsIn K mainGlobals "max"=some none)
  (Na:PySem.W.nsIn K mainGlobals "ValueError"=some none)
  {Sa:Tok} (Vq:PySem.W.nsIn K mainGlobals "LETTERS"=some (some (.str "abcdefghijklmnopqrstuvwxyz" Sa)))
  {cJ:Addr} (aaa:PySem.W.nsIn K mainGlobals "Hold"=some (some (.ref cJ))) (aab:PySem.W.plainGet K cJ Str.empty=true) (aac:PySem.W.hasDictIn K cJ=true) (aad:PySem.W.plainOver K cJ=true) (aae:PySem.W.findIn K (.ref cJ) "__setattr__"=some (some (.builtin "object.__setattr__"))) (aaf:PySem.W.makesIn K cJ=true) (aag:PySem.W.keepIn K (.ref cJ)=true)
  (Ot:dX K cJ "__init__" "Hold.__init__" vo) (FJ:dX K cJ "place_of" "Hold.place_of" oH) (Hs:dX K cJ "part_of" "Hold.part_of" qi) (DK:dX K cJ "check_new" "Hold.check_new" m_) (Jx:dX K cJ "roster" "Hold.roster" rD) (Nb:dX K cJ "parts" "Hold.parts" tL) (Nc:dX K cJ "whole" "Hold.whole" tM) (zj:dX K cJ "beyond_common" "Hold.beyond_common" ki) (Ht:dX K cJ "tops_of" "Hold.tops_of" qm) (Ou:dX K cJ "stow" "Hold.stow" vh) (Ov:dX K cJ "sign" "Hold.sign" vj) (Ow:dX K cJ "load" "Hold.load" vm) (Jy:dX K cJ "shares" "Hold.shares" rH) (Jz:dX K cJ "landed" "Hold.landed" rK) (FL:dX K cJ "given_up" "Hold.given_up" oK) (JA:dX K cJ "lessen" "Hold.lessen" rE) (Nd:dX K cJ "blend" "Hold.blend" tN) (Ox:dX K cJ "cast" "Hold.cast" vq) (Oz:dX K cJ "hand" "Hold.hand" vA)
  (JB:PySem.W.findIn K (.ref cJ) "places"=some none)
  (JC:PySem.W.findIn K (.ref cJ) "aboard"=some none)
  (JD:PySem.W.findIn K (.ref cJ) "ashore"=some none)
  (Nf:PySem.W.findIn K (.ref cJ) "names"=some none)
  (JE:PySem.W.findIn K (.ref cJ) "bottom"=some none)
  (JF:PySem.W.findIn K (.ref cJ) "common"=some none)
  (JG:PySem.W.findIn K (.ref cJ) "purses"=some none)
  {gJ:Addr} (aah:PySem.W.nsIn K mainGlobals "Part"=some (some (.ref gJ))) (aai:PySem.W.plainGet K gJ Str.empty=true) (aaj:PySem.W.hasDictIn K gJ=true) (aak:PySem.W.plainOver K gJ=true) (aal:PySem.W.findIn K (.ref gJ) "__setattr__"=some (some (.builtin "object.__setattr__"))) (aam:PySem.W.makesIn K gJ=true) (aan:PySem.W.keepIn K (.ref gJ)=true)
  (OA:dX K gJ "__init__" "Part.__init__" vg)
  (OB:PySem.W.findIn K (.ref gJ) "name"=some none)
  (Ng:PySem.W.findIn K (.ref gJ) "owner"=some none)
  (Nh:PySem.W.findIn K (.ref gJ) "worth"=some none)
  (JH:PySem.W.findIn K (.ref gJ) "weight"=some none)
  (Ni:PySem.W.findIn K (.ref gJ) "scale"=some none)
  (Sb:PySem.W.findIn K (.ref gJ) "row"=some none)
  {dY:Addr} (Vr:PySem.W.nsIn K mainGlobals "Bottom"=some (some (.ref dY))) (Vs:PySem.W.plainGet K dY Str.empty=true) (Vt:PySem.W.hasDictIn K dY=true) (Vu:PySem.W.plainOver K dY=true) (Vv:PySem.W.findIn K (.ref dY) "__setattr__"=some (some (.builtin "object.__setattr__"))) (Vw:PySem.W.makesIn K dY=true) (Vx:PySem.W.keepIn K (.ref dY)=true)
  (JI:dX K dY "__init__" "Bottom.__init__" rA) (JJ:dX K dY "over" "Bottom.over" rG) (Hu:dX K dY "share" "Bottom.share" qw) (JK:dX K dY "grow" "Bottom.grow" rB)
  (Hv:PySem.W.findIn K (.ref dY) "steps"=some none)
  (DL:PySem.W.findIn K (.ref dY) "product"=some none)
  (Hw:PySem.W.findIn K (.ref dY) "known"=some none)
  {kC pC iF jO jI iG kD kF mF jJ fL:Addr}
  (Sd:PySem.W.nsIn K mainGlobals "BadName"=some (some (.ref kC))) (Xn:PySem.W.nsIn K mainGlobals "Twice"=some (some (.ref pC))) (Se:PySem.W.nsIn K mainGlobals "NoOwner"=some (some (.ref iF))) (Vy:PySem.W.nsIn K mainGlobals "NoPart"=some (some (.ref jO))) (OC:PySem.W.nsIn K mainGlobals "NoVoyage"=some (some (.ref jI))) (Nj:PySem.W.nsIn K mainGlobals "BadNumber"=some (some (.ref iG))) (Sf:PySem.W.nsIn K mainGlobals "TooMuch"=some (some (.ref kD))) (Sg:PySem.W.nsIn K mainGlobals "BadRows"=some (some (.ref kF))) (Vz:PySem.W.nsIn K mainGlobals "NoDeed"=some (some (.ref mF))) (OD:PySem.W.nsIn K mainGlobals "BadPaper"=some (some (.ref jJ))) (DM:PySem.W.nsIn K mainGlobals "JettisonError"=some (some (.ref fL)))
  (Sh:Told K (Ec.mk kC pC iF jO jI iG kD kF mF jJ fL) iF 2) (Si:PySem.W.excIn K iF [.type "ValueError", .type "Exception", .type "BaseException", .type "object"] "ValueError.__new__"=true)
  (VA:Told K (Ec.mk kC pC iF jO jI iG kD kF mF jJ fL) jO 3) (VB:PySem.W.excIn K jO [.type "ValueError", .type "Exception", .type "BaseException", .type "object"] "ValueError.__new__"=true)
  :∃fd:FuncData,(∀(s:Shared) (v:Value),BindsTo s fd ⟨[v],[]⟩ [("_law_script",v)])/\∀base:Heap,K.In base->base.Ns mainGlobals mg->iw l.prog w K mg base t_ 9 fa fd ["_law_script"] (J6 K):=by
 have e:=hfa.symm.trans (kG X G a)
 cases e
 have ae7:=XH (st:=qJ) X G a l1 c k
 have wJ:oS K dY:=⟨Vs,Vt,Vu,Vv⟩
 have fG:oS K cJ:=⟨aab,aac,aad,aae⟩
 obtain ⟨_,_,FN⟩:=FE.at X G
 obtain ⟨_,_,VC⟩:=Vm.at X G
 obtain ⟨_,_,VD⟩:=Vn.at X G
 obtain ⟨_,_,Hx⟩:=Hq.at X G
 obtain ⟨_,_,Nk⟩:=MR.at X G
 obtain ⟨_,_,Nl⟩:=MS.at X G
 obtain ⟨_,_,FO⟩:=FF.at X G
 obtain ⟨_,_,OE⟩:=Og.at X G
 obtain ⟨_,_,OF⟩:=Oh.at X G
 obtain ⟨_,_,Nm⟩:=MT.at X G
 obtain ⟨_,_,OG⟩:=Oi.at X G
 obtain ⟨_,_,Sj⟩:=R8.at X G
 obtain ⟨_,_,Np⟩:=MU.at X G
 obtain ⟨_,_,VE⟩:=Vo.at X G
 obtain ⟨_,_,DN⟩:=DI.at X G
 obtain ⟨_,_,Ce⟩:=Cb.at X G
 obtain ⟨_,_,Nq⟩:=MV.at X G
 obtain ⟨_,_,OH⟩:=Oj.at X G
 obtain ⟨_,_,FP⟩:=FG.at X G
 obtain ⟨_,_,Bh⟩:=Bg.at X G
 obtain ⟨_,_,zT⟩:=zR.at X G
 obtain ⟨_,_,Nr⟩:=MW.at X G
 obtain ⟨_,_,Nt⟩:=MX.at X G
 obtain ⟨_,_,Sk⟩:=R9.at X G
 obtain ⟨_,_,VF⟩:=Vp.at X G
 obtain ⟨_,_,OI⟩:=Ol.at X G
 obtain ⟨_,_,OJ⟩:=Om.at X G
 obtain ⟨_,_,Cf⟩:=Cc.at X G
 obtain ⟨_,_,Nu⟩:=MY.at X G
 obtain ⟨_,_,OL⟩:=Oo.at X G
 obtain ⟨_,_,FQ⟩:=FH.at X G
 obtain ⟨_,_,Sl⟩:=R_.at X G
 obtain ⟨_,_,Hy⟩:=Hr.at X G
 obtain ⟨_,_,Nv⟩:=MZ.at X G
 obtain ⟨_,_,DO⟩:=DJ.at X G
 obtain ⟨_,_,FT⟩:=FI.at X G
 obtain ⟨_,_,JL⟩:=Jw.at X G
 obtain ⟨_,_,Cg⟩:=Cd.at X G
 obtain ⟨_,_,zU⟩:=zS.at X G
 obtain ⟨_,_,OM⟩:=Oq.at X G
 have bq:=n_ X G aeY
 have bL:=n_ X G Z9
 have fT:=n_ X G aeZ
 have dz:=n_ X G adO
 have jX:=n_ X G ae0
 have RS:=n_ X G ae1
 have RX:=n_ X G ae2
 have Mz:=n_ X G adP
 have lN:=n_ X G ae3
 have jh:=n_ X G Z_
 have RY:=n_ X G ae4
 have aM:=n_ X G M_
 have wH:=n_ X G ae5
 have YC:=n_ X G ae6
 have vN:=n_ X G Na
 have AQ:=kG X G Vq
 obtain ⟨_,_,ON⟩:=Ot.made X G aaa aaf aag
 obtain ⟨_,_,FU⟩:=FJ.at fG
 obtain ⟨_,_,Hz⟩:=Hs.at fG
 obtain ⟨_,_,DP⟩:=DK.at fG
 obtain ⟨_,_,JM⟩:=Jx.at fG
 obtain ⟨_,_,Nx⟩:=Nb.at fG
 obtain ⟨_,_,Ny⟩:=Nc.at fG
 obtain ⟨_,_,zm⟩:=zj.at fG
 obtain ⟨_,_,HE⟩:=Ht.at fG
 obtain ⟨_,_,OO⟩:=Ou.at fG
 obtain ⟨_,_,OP⟩:=Ov.at fG
 obtain ⟨_,_,OQ⟩:=Ow.at fG
 obtain ⟨_,_,JN⟩:=Jy.at fG
 obtain ⟨_,_,JO⟩:=Jz.at fG
 obtain ⟨_,_,FW⟩:=FL.at fG
 obtain ⟨_,_,JP⟩:=JA.at fG
 obtain ⟨_,_,Nz⟩:=Nd.at fG
 obtain ⟨_,_,OR⟩:=Ox.at fG
 obtain ⟨_,_,OS⟩:=Oz.at fG
 obtain ⟨_,_,OT⟩:=OA.made X G aah aam aan
 obtain ⟨_,_,JQ⟩:=JI.made X G Vr Vw Vx
 obtain ⟨_,_,JR⟩:=JJ.at wJ
 obtain ⟨_,_,HF⟩:=Hu.at wJ
 obtain ⟨_,_,JS⟩:=JK.at wJ
 have TX:Txt K ⟨cJ,gJ,dY⟩:=⟨fG,⟨aai,aaj,aak,aal⟩,wJ,JB,JC,JD,Nf,JE,JF,JG,OB,Ng,Nh,JH,Ni,Sb,Hv,DL,Hw⟩
 have Bc:=kG X G Sd
 have Hl:=kG X G Xn
 have pe:=kG X G Se
 have rC:=kG X G Vy
 have y_:=kG X G OC
 have xy:=kG X G Nj
 have Bd:=kG X G Sf
 have Be:=kG X G Sg
 have DE:=kG X G Vz
 have ze:=kG X G OD
 have qH:=kG X G DM
 have yW:=uZ.of Si
 have AR:=uZ.of VB
 refine ⟨PySem.W.fnOf "law" "law" (dU qJ) (cF qJ) (ay qJ) .none kV dc pm an cd ct,fun s v=> .of_eq rfl,fun base _ _=>?_⟩
 have iu:=Dp (P:=l.prog) (w:=w) (base:=base) (mg:=mg) FN
 have AN:=RQ (P:=l.prog) (w:=w) (base:=base) (mg:=mg) VC RS
 have pA:=RU VD AN bq AQ
 have rm:=E5 (P:=l.prog) (w:=w) (base:=base) (mg:=mg) Hx
 have vv:=IV Nk rm
 have vt:=IW (P:=l.prog) (w:=w) (base:=base) (mg:=mg) Nl bq
 have qt:=Dq FO iu
 have Dw:=GR (P:=l.prog) (w:=w) (base:=base) (mg:=mg) JQ TX
 have Mj:=Mb (P:=l.prog) (w:=w) (base:=base) (mg:=mg) OT TX dz
 have MF:=Mp ON TX Dw
 have tO:=GU (P:=l.prog) (w:=w) (base:=base) (mg:=mg) JS TX
 have tQ:=G_ JR TX iu
 have rJ:=Fi HF TX tQ
 have iU:=BZ (P:=l.prog) (w:=w) (base:=base) (mg:=mg) (e:=⟨kC,pC,iF,jO,jI,iG,kD,kF,mF,jJ,fL⟩) FU TX yW pe
 have qo:=W9 iU
 have lM:=Du (P:=l.prog) (w:=w) (base:=base) (mg:=mg) (e:=⟨kC,pC,iF,jO,jI,iG,kD,kF,mF,jJ,fL⟩) Hz TX AR rC
 have iK:=UK lM
 have oJ:=B3 DP TX pA
 have tX:=GX (P:=l.prog) (w:=w) (base:=base) (mg:=mg) JM TX dz
 have vG:=Jc (P:=l.prog) (w:=w) (base:=base) (mg:=mg) Nx TX
 have ko:=Je (P:=l.prog) (w:=w) (base:=base) (mg:=mg) Ny TX fT
 have fF:=x8 (P:=l.prog) (w:=w) (base:=base) (mg:=mg) zm TX jX
 have iM:=E_ (P:=l.prog) (w:=w) (base:=base) (mg:=mg) HE TX jX
 have w6:=Mg (P:=l.prog) (w:=w) (base:=base) (mg:=mg) OO TX
 have xh:=Mh OP TX pA bq
 have xr:=Mi OQ TX oJ qo fF w6 Mj bq
 have qu:=Dy (P:=l.prog) (w:=w) (base:=base) (mg:=mg) FW TX fT jX
 have tP:=G0 (P:=l.prog) (w:=w) (base:=base) (mg:=mg) JP TX
 have vz:=Jg Nz TX qt tO jX
 have xw:=Mt OR TX vt vv iK ko vz qu tP fT
 have tU:=Hg JN TX iK iM rJ jX
 have tV:=Hi (P:=l.prog) (w:=w) (base:=base) (mg:=mg) JO TX dz
 have vM:=Jk (e:=⟨kC,pC,iF,jO,jI,iG,kD,kF,mF,jJ,fL⟩) OS TX lM iU iM fF
 have aO:=Mu (P:=l.prog) (w:=w) (base:=base) (mg:=mg) OE bq bL
 have su:=Mv (P:=l.prog) (w:=w) (base:=base) (mg:=mg) OF bL
 have qK:=Jl Nm aO su bL
 have xo:=My OG aO
 have eL:=N7 (P:=l.prog) (w:=w) (base:=base) (mg:=mg) Sj aM RX Mz
 have kq:=Jo (P:=l.prog) (w:=w) (base:=base) (mg:=mg) Np RY
 have AX:=R0 VE eL kq aM jh bq
 have oN:=B7 DN eL aM dz jh lN bL bq
 have gx:=AW Ce kq AX aM dz jh lN bL bq
 have vS:=Jq (P:=l.prog) (w:=w) (base:=base) (mg:=mg) Nq dz
 have jN:=MC (P:=l.prog) (w:=w) (base:=base) (mg:=mg) OH bq bL
 have qC:=DB FP jN
 have mw:=zO Bh eL oN gx vG ko tU fT
 have lu:=yZ zT eL gx tV aM dz jh lN bL bq
 have vQ:=Jr Nr mw lu tX aM dz
 have vR:=Js (T:=⟨cJ,gJ,dY⟩) Nt MF xh
 have zg:=N_ (P:=l.prog) (w:=w) (base:=base) (mg:=mg) Sk bL
 have zu:=R4 (P:=l.prog) (w:=w) (base:=base) (mg:=mg) VF bq bL
 have mC:=acJ zu
 have xu:=MG OI aO bq bL dz fT wH
 have xm:=MH (P:=l.prog) (w:=w) (base:=base) (mg:=mg) OJ bq bL fT
 have nh:=A_ Cf mC xm
 have vK:=Jt Nu aO xo qC xr bq bL
 have xA:=MJ (T:=⟨cJ,gJ,dY⟩) OL aO vK xu nh xw bq dz
 have qD:=DC FQ zu
 have zf:=Oe Sl qD
 have qG:=Fy Hy vM
 have adQ:∀st d i,rj st d->k_ st d=some i->Told K (Ec.mk kC pC iF jO jI iG kD kF mF jJ fL) ((Ec.mk kC pC iF jO jI iG kD kF mF jJ fL).at i) i:=fun st d i ha hr=>UU Sh VA ha hr
 have vO:=Ju Nv qG adQ aM vN Bc Hl pe rC y_ xy Bd Be DE ze qH
 have oR:=B_ DO zu jN
 have qI:=DH FT oR
 have t9:=Ho Z1 UW JL zf vO zg qI
 have nq:=Bf Cg aO bq
 have lz:=zh zU aO bq fT wH
 have sN:=MN acR OM aO nq lz bq aM lN
 exact adG (T:=⟨cJ,gJ,dY⟩) ae7 aO qK vQ vR vS xA sN t9 bq bL wH YC fT
theorem walk {l:PySem.W.OpenLaw} {q:Program} {loose:List Str} {XP:(Str->Option Value)->Heap->Prop} {YP:World->Heap->Prop} {d:DefRec} {K:Params->Fg} (hn:l.most=some 63) (hdf:d.params.defaults=[])
  (hY:∀(w:World) (h:Heap),YP w h->(K w.params).In h)
  (F:∀(w:World) (mg:SO) (fa:Addr) (h:Heap),(K w.params).In h->h.Ns mainGlobals mg->mg d.name=some (.ref fa)->
    ∃fd:FuncData,(∀(s:Shared) (u:Value),BindsTo s fd ⟨[u],[]⟩ [("_law_script",u)])/\∀base:Heap,(K w.params).In base->base.Ns mainGlobals mg->iw l.prog w (K w.params) mg base t_ 9 fa fd ["_law_script"] (J6 (K w.params))):
  PySem.W.WalkO q loose XP YP l.row.toRowW d [] (fun f vs=>PySem.call f vs):=
 L2.YZ (n:=63) (k:=9) (x:="_law_script") (CX:=fun _=>t_) (sp:=fun w=>J6 (K w.params)) hn (by decide) hdf ⟨Z,by decide,by decide⟩ hY F (fun _ _ a ns hl _ hS=>⟨a,ns,Z,hS,hl,fun _=>rfl⟩) fun _ _ _ _ _ z=>z
end Law
namespace PySem.W.Fast
abbrev A:=True
theorem a:A:=⟨⟩
theorem tw6754488536466645693:A:=a
theorem tw13000796231163817325:A:=a
theorem tw4649856237918139822:A:=a
theorem tw5408702856963731806:A:=a
theorem tw16944160254482347765:A:=a
theorem tw5557856704321351400:A:=a
theorem tw4158567465328666913:A:=a
theorem tw14405255609813154989:A:=a
theorem tw10490668714795889153:A:=a
theorem tw1274779464030562553:A:=a
theorem tw11833122288679697186:A:=a
theorem tw11748053143934450222:A:=a
theorem tw130767394071014399:A:=a
theorem tw9726961032279688812:A:=a
theorem tw14194666945632101534:A:=a
theorem tw4369210054752924526:A:=a
theorem tw2994054724316049135:A:=a
theorem tw8781162603939966096:A:=a
theorem tw8029049746335375614:A:=a
theorem tw2512179792180045675:A:=a
theorem tw11754865689982250192:A:=a
theorem tw8002293492943328919:A:=a
theorem tw7617676933689080885:A:=a
theorem tw17683741915288588087:A:=a
theorem tw18200820102936186998:A:=a
theorem tw12875933004249314726:A:=a
theorem tw9579007690082717309:A:=a
theorem tw11980514412473010735:A:=a
theorem tw14582178053424603693:A:=a
theorem tw4391965135699938565:A:=a
theorem tw4840027220014199476:A:=a
theorem tw17009569987352047223:A:=a
theorem tw15134146108774974762:A:=a
theorem tw13782831959158458750:A:=a
theorem tw1580492371206153584:A:=a
theorem tw17630432382436993523:A:=a
theorem tw13655314894332814334:A:=a
theorem tw2022525793638022265:A:=a
theorem tw4827590476981096855:A:=a
theorem tw7481885700873041803:A:=a
theorem tw3613861873209957757:A:=a
theorem tw7138722536291953644:A:=a
theorem tw14622422521462593455:A:=a
theorem tw12618115678512024669:A:=a
theorem tw4094415064007409620:A:=a
theorem tw16457703105408386200:A:=a
theorem tw14105078856819581761:A:=a
theorem tw9348946419673740813:A:=a
theorem tw5429362866542525183:A:=a
theorem tw9434500804466750540:A:=a
theorem tw4345741929868543530:A:=a
theorem tw7711858939887459135:A:=a
theorem tw18116415200071148272:A:=a
theorem tw16588859977844381097:A:=a
theorem tw1985019769059416929:A:=a
theorem tw8609315175803550113:A:=a
theorem tw14649576973412237678:A:=a
theorem tw1187627542014098792:A:=a
theorem tw10531145753169355987:A:=a
theorem tw10878086700366466908:A:=a
theorem tw1489470391243215022:A:=a
theorem tw581997497750735644:A:=a
theorem tw3413898890781957449:A:=a
theorem tw6652152500513153256:A:=a
theorem tw4286223551762268535:A:=a
theorem tw17629582771333608305:A:=a
theorem tw17339999773695062584:A:=a
theorem tw14176982545574462298:A:=a
theorem tw11483556218508916855:A:=a
theorem tw4110503654414567291:A:=a
theorem tw2428447333478427022:A:=a
theorem tw13258701799477438170:A:=a
theorem tw4677606783537707714:A:=a
theorem tw6563875595472249882:A:=a
theorem tw3159731010336490655:A:=a
theorem tw6190944501160511745:A:=a
theorem tw7735613203197046689:A:=a
theorem tw12656170301705562033:A:=a
theorem tw10379757605222272594:A:=a
theorem tw15142452963639892798:A:=a
theorem tw5019222928319177427:A:=a
theorem tw5062773425802561336:A:=a
theorem tw11038385172351102037:A:=a
theorem tw1875525323276237191:A:=a
theorem tw747894812472388204:A:=a
theorem tw4716308468111726608:A:=a
theorem tw9911187157575869535:A:=a
theorem tw6978989192524768511:A:=a
theorem tw10444644217495135883:A:=a
theorem tw7740465181517323183:A:=a
theorem tw5530521106513881438:A:=a
theorem tw11221322531041451127:A:=a
theorem tw4820630084025740621:A:=a
theorem tw13323363169339845227:A:=a
theorem tw15859655456176178000:A:=a
theorem tw18385906282846039751:A:=a
theorem tw17719732300036778976:A:=a
theorem tw2078292443505068690:A:=a
theorem tw5772240701699429356:A:=a
theorem tw495068374901555430:A:=a
theorem tw8246470996264519612:A:=a
theorem tw15172716927234882565:A:=a
theorem tw16528393144070584127:A:=a
theorem tw16450796969407376986:A:=a
theorem tw16439230072774219768:A:=a
theorem tw3960451256080342695:A:=a
theorem tw4534791498015268706:A:=a
theorem tw15014907689964854073:A:=a
theorem tw10511794444865461752:A:=a
theorem tw9603632601425549342:A:=a
theorem tw15069030592629073014:A:=a
theorem tw16314244191258688807:A:=a
theorem tw3592252565721559388:A:=a
theorem tw2126317506494192304:A:=a
theorem tw7980782933135160784:A:=a
theorem tw11459238652546022655:A:=a
theorem tw3406450662870913562:A:=a
theorem tw2430965233691753786:A:=a
theorem tw13373932766686788448:A:=a
theorem tw9475264444808918776:A:=a
theorem tw17408615229824433624:A:=a
theorem tw9801949134502978008:A:=a
theorem tw16606291610537110845:A:=a
theorem tw2981314597337648526:A:=a
theorem tw16712902509000969469:A:=a
theorem tw15358225449994579983:A:=a
theorem tw10959359834887803391:A:=a
theorem tw14923465506874287243:A:=a
theorem tw13121355353398426803:A:=a
theorem tw2511904626966652074:A:=a
theorem tw7376740996885536866:A:=a
theorem tw16020687097646529908:A:=a
theorem tw2606900638617790846:A:=a
theorem tw10433771659519475347:A:=a
theorem tw9071310919867720448:A:=a
theorem tw12577166913093833448:A:=a
theorem tw15645111504570018067:A:=a
theorem tw10709336044112817807:A:=a
theorem tw11830845644177480396:A:=a
theorem tw11153111361315788411:A:=a
theorem tw5130462921784331165:A:=a
theorem tw14176440945783827992:A:=a
theorem tw553336986145036313:A:=a
theorem tw3928654762639860816:A:=a
theorem tw2632545595544195464:A:=a
theorem tw13754614571045991650:A:=a
theorem tw2375962795099959935:A:=a
theorem tw1389539463435855025:A:=a
theorem tw14047392251244834594:A:=a
theorem tw8911972966588274161:A:=a
theorem tw14186816177300469079:A:=a
theorem tw7628112345673783488:A:=a
theorem tw9464666334860218349:A:=a
theorem tw18220695416621681344:A:=a
theorem tw2661481641848015743:A:=a
theorem tw5763492961836119651:A:=a
theorem tw6276437670582179440:A:=a
theorem tw11604753923607287438:A:=a
theorem tw16973577520557092559:A:=a
theorem tw1847280332698281022:A:=a
theorem tw3543196190006654314:A:=a
theorem tw14056652695332444638:A:=a
theorem tw18377442401185649128:A:=a
theorem tw9162863739236894492:A:=a
theorem tw9066322485802844755:A:=a
theorem tw11899300183027652493:A:=a
theorem tw5945076408128311177:A:=a
theorem tw5580033222548813043:A:=a
theorem tw6374615562474139892:A:=a
theorem tw1373705513286000918:A:=a
theorem tw15405493312936945899:A:=a
theorem tw10399805567573056259:A:=a
theorem tw8585784441354830586:A:=a
theorem tw17974109362605239004:A:=a
theorem tw3412867661139867366:A:=a
theorem tw13161872342246744127:A:=a
theorem tw15584169515563111689:A:=a
theorem tw2926806414483804999:A:=a
theorem tw6271828235074029048:A:=a
theorem tw15961003067547112431:A:=a
theorem tw2315610875311585270:A:=a
theorem tw17635195292809089473:A:=a
theorem tw16689909677224414387:A:=a
theorem tw6352993316389505026:A:=a
theorem tw11066160676472281781:A:=a
theorem tw1929347196623195721:A:=a
theorem tw14227662175398614616:A:=a
theorem tw17125902268259640390:A:=a
theorem tw9244688716801295355:A:=a
theorem tw16952969463496317704:A:=a
theorem tw11584494687251981684:A:=a
theorem tw7371613942105617002:A:=a
theorem tw14301050897336936731:A:=a
theorem tw2411119069940713789:A:=a
theorem tw6031400707323189632:A:=a
theorem tw18372283195102526441:A:=a
theorem tw845731223077938830:A:=a
theorem tw9679596057911345493:A:=a
theorem tw7146290891681330510:A:=a
theorem tw10066110389011519321:A:=a
theorem tw5848479240371413162:A:=a
theorem tw2692742904169665578:A:=a
theorem tw11807788988089178987:A:=a
theorem tw16928375073777345429:A:=a
theorem tw355639389170181626:A:=a
theorem tw8467141215180260929:A:=a
theorem tw6750081333363462417:A:=a
theorem tw7584413909352688025:A:=a
theorem tw3004258150673025519:A:=a
theorem tw16184510617602467807:A:=a
theorem tw457522787660798830:A:=a
theorem tw16936656236887967302:A:=a
theorem tw16162218225672528673:A:=a
theorem tw3382524588938671117:A:=a
theorem tw15114340081089274048:A:=a
theorem tw12391254234147560258:A:=a
theorem tw7121968487297185881:A:=a
theorem tw11047436300762624692:A:=a
theorem tw12386880908019894738:A:=a
theorem tw15152776587816771053:A:=a
theorem tw8473366788738949391:A:=a
theorem tw11884269521917490996:A:=a
theorem tw12804561534322558316:A:=a
theorem tw9356567820409767087:A:=a
theorem tw12686086129951615250:A:=a
theorem tw11079724033244387894:A:=a
theorem tw9491641462097589400:A:=a
theorem tw12339503267215577220:A:=a
theorem tw1934128472038692034:A:=a
theorem tw9566942952833268551:A:=a
theorem tw18083046899980784933:A:=a
theorem tw8784861278096563742:A:=a
theorem tw7474561334682606139:A:=a
theorem tw1447049063902725727:A:=a
theorem tw17055810464697307576:A:=a
theorem tw8500699195647648809:A:=a
theorem tw3342072147593925738:A:=a
theorem tw14113194358268659044:A:=a
theorem tw12313847250607993782:A:=a
theorem tw9045265773711776067:A:=a
theorem tw4336124820190321392:A:=a
theorem tw3058477607698184652:A:=a
theorem tw13199691683380985849:A:=a
theorem tw16729385281938727423:A:=a
theorem tw12966766422404661069:A:=a
theorem tw4364040115193505823:A:=a
theorem tw10563865776167187453:A:=a
theorem tw3960513627697732489:A:=a
theorem tw9356983249604368336:A:=a
theorem tw4277608798666475435:A:=a
theorem tw4134231698307320105:A:=a
theorem tw13652266790423247388:A:=a
theorem tw685692573262152918:A:=a
theorem tw5510477291251207787:A:=a
theorem tw9940505316987516083:A:=a
theorem tw2915419127052843719:A:=a
theorem tw5607141077872008241:A:=a
theorem tw1524515307249294351:A:=a
theorem tw17211340612079624977:A:=a
theorem tw16795283174933663918:A:=a
theorem tw5539373178670471437:A:=a
theorem tw8779259798684732303:A:=a
theorem tw5564754940682118030:A:=a
theorem tw17565243741188080791:A:=a
theorem tw8616064688913823831:A:=a
theorem tw7351992740935881356:A:=a
theorem tw5585482097657498175:A:=a
theorem tw6035088824434659914:A:=a
theorem tw16042387759919306226:A:=a
theorem tw9915010344501494307:A:=a
theorem tw17633956330184412525:A:=a
theorem tw7292400626714789104:A:=a
theorem tw6331626028631972265:A:=a
theorem tw13191685450918253236:A:=a
theorem tw1308867128153268739:A:=a
theorem tw17481752950204708483:A:=a
theorem tw8245660173345134119:A:=a
theorem tw2465651793766937835:A:=a
theorem tw5030920986258426539:A:=a
theorem tw8270137886837460636:A:=a
theorem tw971011585821207197:A:=a
theorem tw15006160462972986713:A:=a
theorem tw7355724022677475877:A:=a
theorem tw3900734807667857075:A:=a
theorem tw16499511993755981511:A:=a
theorem tw17114025255557584629:A:=a
theorem tw1184632796233053972:A:=a
theorem tw11635325012213331807:A:=a
theorem tw16188671851956718395:A:=a
theorem tw9791496246241244782:A:=a
theorem tw13784248386221124942:A:=a
theorem tw12147434639023244213:A:=a
theorem tw5955276831386953392:A:=a
theorem tw1339159514033263824:A:=a
theorem tw2598345817828884076:A:=a
theorem tw15423805034007499723:A:=a
theorem tw10512555211653892339:A:=a
theorem tw5105143598102632957:A:=a
theorem tw8751067416567555413:A:=a
theorem tw15521211570020254428:A:=a
theorem tw9247284207299556907:A:=a
theorem tw3690489412817434922:A:=a
theorem tw7943285537888991670:A:=a
theorem tw2753296206401306525:A:=a
theorem tw13239827149781955168:A:=a
theorem tw9225028892432218454:A:=a
theorem tw13849299149893565640:A:=a
theorem tw16599450669171964335:A:=a
theorem tw17493575141440197293:A:=a
theorem tw3621222838915031713:A:=a
theorem tw11895755777936783623:A:=a
theorem tw2364869134763141920:A:=a
theorem tw15420266455359713510:A:=a
theorem tw15833482285880251172:A:=a
theorem tw4334639550917769540:A:=a
theorem tw16542850890837570783:A:=a
theorem tw1461218377960985947:A:=a
theorem tw9550276789279044731:A:=a
theorem tw17034447458767530097:A:=a
theorem tw366700162368065330:A:=a
theorem tw10907747607135987363:A:=a
theorem tw10311221773494435538:A:=a
theorem tw14189822346562458460:A:=a
theorem tw15528366530687686752:A:=a
theorem tw4114094834804544763:A:=a
theorem tw15431022816191625365:A:=a
theorem tw17085703763957466060:A:=a
theorem tw10536532241567722694:A:=a
theorem tw10251127062816933474:A:=a
theorem tw2539777695401928406:A:=a
theorem tw9068460759353251179:A:=a
theorem tw17708921693455815209:A:=a
theorem tw4917481967635162156:A:=a
theorem tw2620062623946481583:A:=a
theorem tw16180805468464586099:A:=a
theorem tw18325456570048203940:A:=a
theorem tw9406284300373308630:A:=a
theorem tw7095225097955123515:A:=a
theorem tw9259597666293979594:A:=a
theorem tw7313512775296330209:A:=a
theorem tw8202338682691016562:A:=a
theorem tw12277012385696338689:A:=a
theorem tw12645163215509596852:A:=a
theorem tw8381709658866831261:A:=a
theorem tw10782044978763791192:A:=a
theorem tw6347975623267953935:A:=a
theorem tw608569792662688347:A:=a
theorem tw8094596490572437087:A:=a
theorem tw453110987853816697:A:=a
theorem tw16453529063567330392:A:=a
theorem tw5252621509450249113:A:=a
theorem tw1258245045073275817:A:=a
theorem tw8923623683328830685:A:=a
theorem tw284444191204957412:A:=a
theorem tw16017518740283389580:A:=a
theorem tw3046813831451551493:A:=a
theorem tw2375347764377478333:A:=a
theorem tw7726334115977286526:A:=a
theorem tw16366406045670543179:A:=a
end PySem.W.Fast
open PySem PySem.W PyProof.Rows
set_option maxRecDepth 100000 in
set_option maxHeartbeats 0 in
theorem PySem.Challenge.cw_jettison_k23_parts_handed_over_holds : PySem.Challenge.rw_jettison_k23_parts_handed_over.Holds := by
 w_on;o_law;k_head;(case hw=>w_witness2)
 k_fill
 refine Law.walk (l:=PySem.Challenge.rw_jettison_k23_parts_handed_over) rfl rfl (fun w h Y=>PySem.W.kIn_of Y) ?F
 case F=>
  intro w mg fa h KX G hmg
  refine' Law.all_mk KX G hmg ?_ ?_ ?_ ?_ ?_ ?_ ?_ ?_ ?_ ?_ ?_ ?_ ?_ ?_ ?_ ?_ ?_ ?_ ?_ ?_ ?_ ?_ ?_ ?_ ?_ ?_ ?_ ?_ ?_ ?_ ?_ ?_ ?_ ?_ ?_ ?_ ?_ ?_ ?_ ?_ ?_ ?_ ?_ ?_ ?_ ?_ ?_ ?_ ?_ ?_ ?_ ?_ ?_ ?_ ?_ ?_ ?_ ?_ ?_ ?_ ?_ ?_ ?_ ?_ ?_ ?_ ?_ ?_ ?_ ?_ ?_ ?_ ?_ ?_ ?_ ?_ ?_ ?_ ?_ ?_ ?_ ?_ ?_ ?_ ?_ ?_ ?_ ?_ ?_ ?_ ?_ ?_ ?_ ?_ ?_ ?_ ?_ ?_ ?_ ?_ ?_ ?_ ?_ ?_ ?_ ?_ ?_ ?_ ?_ ?_ ?_ ?_ ?_ ?_ ?_ ?_ ?_ ?_ ?_ ?_ ?_ ?_ ?_ ?_ ?_ ?_ ?_ ?_ ?_ ?_ ?_ ?_ ?_ ?_ ?_ ?_
  any_goals first|(refine' L2.cL.of ?a ?l ?c ?k;(case a=>k_is);(case l=>k_is);(case c=>k_is);(case k=>k_is))|(refine' L2.dX.of ?a ?i ?l ?c ?k;(case a=>k_is);(case i=>k_is);(case l=>k_is);(case c=>k_is);(case k=>k_is))|(refine' L2.Told.of ?ga ?gn ?ca ?mo ?mb ?jt ?ve ?k0 ?k1 ?k2 ?k3 ?k4 ?k5 ?k6 ?k7 ?k8 ?k9 ?h;(case ga=>k_is);(case gn=>k_is);(case ca=>k_is);(case mo=>k_is);(case mb=>k_is);(case jt=>kts_exm);(case ve=>kit_is);(case k0=>kit_is);(case k1=>kit_is);(case k2=>kit_is);(case k3=>kit_is);(case k4=>kit_is);(case k5=>kit_is);(case k6=>kit_is);(case k7=>kit_is);(case k8=>kit_is);(case k9=>kit_is);(case h=>rfl))|k_is|k_exc
