import PyProof.Rows.All
import Wide.All
import OpenK.AllK
import Wide.FinOn
import Lean
import PyProof.EqAt
import PyProof.EqKinds
import PyProof.TupleCall
import PySem.Challenge.RW_jettison_k33_whole_nothing_made_or_lost
set_option Elab.async false
set_option bootstrap.genMatcherCode false
set_option genSizeOf false
set_option genSizeOfSpec false
set_option linter.all false
set_option maxRecDepth 100000
local macro_rules|`(tactic|omega)=>`(tactic|lia)
abbrev Fg:=PySem.W.Frag
abbrev VS:=PySem.Value->PySem.Shared->Prop
abbrev AO:=List (PySem.Addr×PySem.Obj)
abbrev SO:=PySem.Str->Option PySem.Value
set_option autoImplicit true
def Sk:=@PySem.F.slot_dict_valueiterator_next
def Ge:=@Int.mul_le_mul_of_nonneg_left
def Sl:=@PySem.wpAny_typeNameOfWhole_keyiter
def Sm:=@PySem.wpAny_typeNameOfWhole_valiter
def Sn:=@PySem.F.slot_dict_keyiterator_next
def N_:=@PyProof.Rows.callWith_type1
def tQ:=@List.idxOf_lt_length_of_mem
def So:=@Int.ediv_eq_of_eq_mul_right
def Lg:=@List.getElem?_append_right
def lF:=@List.getD_eq_getElem?_getD
def Mm:=@PySem.F.slot_tuple_iterator_next
def Mp:=@List.length_eraseIdx_of_lt
def dP:=@List.getElem?_eq_some_iff
def Gf:=@List.getElem?_append_left
def Mq:=@List.mem_or_eq_of_mem_set
def bq:=@List.getElem?_eq_getElem
def Mr:=@PySem.wpAny_typeNameOf_keyiter
def Ms:=@PySem.wpAny_typeNameOf_valiter
def CA:=@Int.mul_ediv_cancel_left
def oM:=@PySem.F.slot_list_append
def oN:=@PySem.F.type_list_append
def xm:=@PySem.wpAny_callSpecial?_slot
def oO:=@PySem.F.plainAttrs_list
def oQ:=@List.getElem?_set_self
def b7:=@PySem.Heap.get?_push_of_some
def jx:=@Option.map_eq_some_iff
def CB:=@List.zipWith_cons_cons
def Mt:=@PySem.Calls.callWith_builtin
def ja:=@List.mem_append_right
def m5:=@List.length_replicate
def Mu:=@PySem.Heap.get?_update_self
def rN:=@List.getElem?_eq_none
def Mv:=@PySem.wpAny_isOneOf_valiter
def Mw:=@List.getElem?_zipWith
def xo:=@PyProof.Rows.boot_sum
def Gg:=@PyProof.Rows.boot_min
def cD:=@List.mem_cons_of_mem
def zM:=@List.mem_append_left
def xq:=@List.getElem?_set_ne
def bO:=@List.mem_of_getElem?
def lZ:=@Bool.and_eq_true_iff
def My:=@PySem.intBits_le_iff
def CC:=@beq_eq_false_iff_ne
def Gi:=@List.filterMap_cons
def dZ:=@PySem.Heap.get?_push_size
def vv:=@PySem.mem_of_lookup
def zN:=@List.replicate_succ
def CD:=@Bool.or_eq_true_iff
def CF:=@PySem.Heap.SameBut.update
def kh:=@List.length_zipWith
def CG:=@List.filter_eq_self
def vz:=@List.map_congr_left
def xr:=@List.getElem_of_mem
def jT:=@Nat.lt_of_lt_of_le
def cV:=@List.mem_cons_self
def Mz:=@List.mem_filterMap
def fh:=@Bool.false_ne_true
def Gj:=@PySem.wpAny_Call_Name_kw
def dw:=@List.length_append
def MA:=@PySem.tupleKind_room_in1
def Gk:=@Nat.lt_of_le_of_lt
def fN:=@List.mem_singleton
def xu:=@Int.emod_lt_of_pos
def Gm:=@Bool.false_eq_true
def CH:=@PySem.Obj.data_mapFields
def CI:=@PySem.wpAny_setField_rec
def Gn:=@List.set_cons_succ
def MB:=@List.set_cons_zero
def MC:=@PySem.F.slot_dict_values
def Gp:=@List.filter_append
def rO:=@of_decide_eq_false
def oR:=@PySem.W.mg_none_of
def MD:=@PySem.wpAny_pyIter_list
def bN:=@List.getElem?_map
def gG:=@List.size_toArray
def ME:=@List.flatten_cons
def MF:=@List.append_assoc
def aX:=@of_decide_eq_true
def MG:=@Nat.lt_succ_of_lt
def vA:=@PySem.wpAny_newObj_type
def CJ:=@PySem.wpAny_truthy_bool
def Gq:=@List.length_range
def MH:=@PySem.wpAny_dictEntries
def rP:=@Int.toNat_natCast
def Gr:=@List.foldl_append
def MI:=@List.getElem?_inj
def oS:=@Bool.eq_false_iff
def jy:=@List.length_cons
def rQ:=@List.length_take
def Gs:=@Bool.and_eq_true
def MJ:=@List.cons_append
def fY:=@List.filter_cons
def uy:=@Nat.le_add_right
def m7:=@List.lookup_cons
def uz:=@List.all_eq_true
def zO:=@List.getElem_mem
def xw:=@PySem.wpAny_call_entry
def dQ:=@List.take_length
def dR:=@decide_eq_false
def gq:=@Option.some.inj
def vB:=@List.mem_filter
def fZ:=@List.mem_append
def yG:=@Bool.eq_iff_iff
def aD:=@List.length_map
def yH:=@List.append_nil
def fO:=@List.nodup_cons
def gK:=@List.length_set
def jW:=@List.foldl_cons
def FJ:=@List.nil_append
def rj:=@List.find?_cons
def FL:=@Option.map_some
def bL:=@List.map_append
def m8:=@Int.emod_nonneg
def Az:=@Int.ediv_nonneg
def FN:=@List.forIn_cons
def FO:=@PySem.pushCells_keeps
def FP:=@PySem.wpAny_dictEpoch
def FQ:=@PySem.F.slot_zip_next
def vC:=@PySem.wpAny_passesOwn
def FT:=@PySem.wpAny_execs_nil
def FU:=@List.sum_append
def gi:=@PySem.PassesOwn.never
def pT:=@List.mem_range
def kL:=@PySem.Heap.size_push
def aY:=@decide_eq_true
def AA:=@Int.natAbs_mul
def AB:=@List.forIn_nil
def tR:=@PySem.wpAny_fieldsOf
def yI:=@PySem.wpAny_setField
def tS:=@PySem.wpAny_seqItems
def tT:=@List.nodup_nil
def m9:=@Int.mul_nonneg
def fG:=@PySem.boot_len
def jf:=@Nat.lt_irrefl
def c9:=@List.mem_cons
def bJ:=@List.map_cons
def AD:=@List.any_cons
def pU:=@PySem.W.mg_of
def cL:=@List.sum_cons
def AE:=@PySem.wpAny_standAt
def AF:=@PySem.wpAny_holding
def jg:=@Int.mul_assoc
def bM:=@PySem.Heap.lt_size
def eU:=@Nat.ne_of_lt
def fP:=@Nat.le_trans
def AG:=@Nat.le_of_lt
def yJ:=@Nat.ne_of_gt
def AH:=@PySem.codeAny_mono
def bK:=@List.mem_map
def AI:=@Int.ediv_one
def tU:=@List.set_set
def vD:=@Nat.min_self
def gy:=@List.map_map
def rm:=@Int.mul_comm
def AJ:=@Int.zero_add
def rA:=@List.map_set
def AK:=@Int.le_of_lt
def pV:=@Sum.inr.inj
def vE:=@Int.mul_one
def aN:=@Nat.le_refl
def gM:=@Nat.zero_le
def jz:=@PySem.sizeLine_eq
def yK:=@Nat.le_succ
def lP:=@PySem.wpAny_field
def jX:=@Int.le_refl
def tV:=@Int.mul_add
def rB:=@Int.add_mul
def iU:=@PySem.wpAny_mono
def aU:=@PySem.wpAny_pure
def az:=@PySem.wpAny_bind
def lQ:=@beq_iff_eq
def jY:=@congrArg
def pW:=@if_false
def cM:=@Ne.symm
def aB:=@if_pos
def aA:=@if_neg
theorem Z {α:Sort _} {a:α}:a=a:=rfl
namespace L2
open PySem PySem.Spec PyProof.Rows
abbrev Key:=Sum Int Str
def vF:Key->Value->Bool
 | .inl k,v=>Value.isInt k v
 | .inr x,v=>Value.isStrOf x v
def abU (w:World):Key->Int
 | .inl k=>hashInt k
 | .inr x=>hashStr w x
theorem fM:∀{k:Key} {v:Value},vF k v=true->(∃i t,k=Sum.inl i/\v=Value.int i t)\/(∃x t,k=Sum.inr x/\v=Value.str x t)
 | .inl i,v,h=>by
   obtain ⟨t,e⟩:=Value.isInt_shape (k:=i) (v:=v) h
   exact .inl ⟨i,t,Z,e⟩
 | .inr x,v,h=>by
   obtain ⟨t,e⟩:=Value.isStrOf_shape (x:=x) (v:=v) h
   exact .inr ⟨x,t,Z,e⟩
theorem Oa (i:Int) (t:Tok):vF (.inl i) (.int i t)=true:=by simp [vF,Value.isInt]
theorem Ob (x:Str) (t:Tok):vF (.inr x) (.str x t)=true:=by simp [vF,Value.isStrOf]
theorem Vp (a b:Int):decide ((Sum.inl a:Key)=Sum.inl b)=(a==b):=by
 by_cases e:a=b
 . subst e;simp
 . have h:¬ (Sum.inl a:Key)=Sum.inl b:=fun q=>e (Sum.inl.inj q)
   rw [dR h]
   exact (CC.mpr e).symm
theorem Vq (a b:Str):decide ((Sum.inr a:Key)=Sum.inr b)=decide (a=b):=by
 by_cases e:a=b
 . subst e;simp
 . have h:¬ (Sum.inr a:Key)=Sum.inr b:=fun q=>e (pV q)
   rw [dR h,dR e]
theorem Vr (a:Int) (b:Str):decide ((Sum.inl a:Key)=Sum.inr b)=false:=dR (fun q=>nomatch q)
theorem Vs (a:Str) (b:Int):decide ((Sum.inr a:Key)=Sum.inl b)=false:=dR (fun q=>nomatch q)
def cI (prog:Program) (w:World):PySem.KeyKind prog w Key where
 is:=vF
 hash:=abU w
 inj:=fun v a b ha hb=>by
  rcases fM ha with ⟨i,t,rfl,rfl⟩|⟨x,t,rfl,rfl⟩
  . rcases fM hb with ⟨j,u,rfl,e⟩|⟨y,u,rfl,e⟩
    . injection e with e1 _;rw [e1]
    . exact nomatch e
  . rcases fM hb with ⟨j,u,rfl,e⟩|⟨y,u,rfl,e⟩
    . exact nomatch e
    . injection e with e1 _;rw [e1]
 byValue:=fun k v h=>by
  rcases fM h with ⟨i,t,rfl,rfl⟩|⟨x,t,rfl,rfl⟩ <;> rfl
 pyHash:=fun hv h=>by
  rcases fM hv with ⟨i,t,rfl,rfl⟩|⟨x,t,rfl,rfl⟩
  . exact wpAny_pyHash_int h
  . exact wpAny_pyHash_str h
 eqBool:=fun hu hv h=>by
  rcases fM hu with ⟨i,t,rfl,rfl⟩|⟨x,t,rfl,rfl⟩
  . rcases fM hv with ⟨j,u,rfl,rfl⟩|⟨y,u,rfl,rfl⟩
    . rw [Vp] at h;exact wpAny_eqBool_int h
    . rw [Vr] at h;exact SeqAt.EqAt.int_str i t y u _ _ _ _ h
  . rcases fM hv with ⟨j,u,rfl,rfl⟩|⟨y,u,rfl,rfl⟩
    . rw [Vs] at h;exact SeqAt.EqAt.str_int x t j u _ _ _ _ h
    . rw [Vq] at h;exact wpAny_eqBool_str h
 «strs»:=fun k x t v h=>by
  rcases fM h with ⟨i,u,rfl,e⟩|⟨y,u,rfl,e⟩
  . exact nomatch e
  . injection e with e1 _
    subst e1
    cases v <;> rfl
theorem MK (prog:Program) (w:World) (k:Key) (v:Value):(cI prog w).is k v=vF k v:=rfl
theorem J0 (prog:Program) (w:World) (i:Int) (t:Tok):(cI prog w).is (.inl i) (.int i t)=true:=Oa i t
theorem J1 (prog:Program) (w:World) (x:Str) (t:Tok):(cI prog w).is (.inr x) (.str x t)=true:=Ob x t
inductive V where
 | bU|bl (b:Bool)|int (i:Int)|str (x:Str)|wU (b:Array UInt8)|Ss (b:UInt64)|ref (a:Addr)|ty (n:String)
 deriving DecidableEq
def RelV:V->Value->Prop
 | .bU,u=>u=Value.none
 | .bl b,u=>u=Value.bool b
 | .int i,u=>∃t,u=Value.int i t
 | .str x,u=>∃t,u=Value.str x t
 | .wU b,u=>∃t,u=Value.bytes b t
 | .Ss b,u=>∃t,u=Value.float b t
 | .ref a,u=>u=Value.ref a
 | .ty n,u=>u=Value.type n
abbrev Vals:List V->List Value->Prop:=Paired RelV
variable {xs:List V} {us:List Value}
theorem Vals.length (r:Vals xs us):xs.length=us.length:=Paired.length r
theorem Vals.get:∀{xs:List V} {us:List Value} {i:Nat} {x:V},Vals xs us->xs[i]?=some x->∃u,us[i]?=some u/\RelV x u
 | _,_,_,_, .nil,e=>by simp at e
 | _,_,0,_, .cons r _,e=>by simp at e;subst e;exact ⟨_,Z,r⟩
 | _,_,i+1,x, .cons _ t,e=>by
   obtain ⟨u,h1,h2⟩:=Vals.get (i:=i) (x:=x) t (by simpa using e)
   exact ⟨u,by simpa using h1,h2⟩
theorem Vals.set {x:V} {u:Value} (r:RelV x u):∀{xs:List V} {us:List Value} (i:Nat),Vals xs us->Vals (xs.set i x) (us.set i u)
 | _,_,_, .nil=> .nil
 | _,_,0, .cons _ t=> .cons r t
 | _,_,i+1, .cons q t=> .cons q (Vals.set r i t)
theorem Vals.append:∀{xs ys:List V} {us ws:List Value},Vals xs us->Vals ys ws->Vals (xs++ys) (us++ws)
 | _,_,_,_, .nil,s=>s
 | _,_,_,_, .cons r t,s=> .cons r (Vals.append t s)
def lg:Option V->Option Value->Prop
 | some v,some u=>RelV v u
 | none,none=>True
 | _,_=>False
def KV {κ:Type}:List (κ×V)->List (κ×Value)->Prop:=Paired fun (p:κ×V) (q:κ×Value)=>p.1=q.1/\RelV p.2 q.2
def kV:Key->V
 | .inl i=> .int i
 | .inr x=> .str x
inductive HO where
 | lst (xs:List V)
 | tup (xs:List V)
 | dK (kvs:List (Key×V))|dT (kvs:List (List Key×V))
 | set (S:Int->Bool) (n:Nat)
 | ins (C dx:Addr) (fs:List (Str×V))
 | own (x:Addr)
 | xd (fs:List (Str×V))
 | met (f x:Addr)
 | tW (lo hi:Int)
 | fB (o:Obj) (u:HO)
 | DO (ps:Array Value)
 | ext (φ:Heap->Prop)
abbrev Hp:=Addr->Option HO
def upd (H:Hp) (a:Addr) (o:HO):Hp:=fun b=>if b=a then some o else H b
variable {H:Hp} {a:Addr} {o:HO}
theorem ai:upd H a o a=some o:=by unfold upd;rw [aB rfl]
variable {b:Addr}
theorem ay (h:b≠a):upd H a o b=H b:=by unfold upd;rw [aA h]
theorem mO {u:HO}:upd (upd H a o) a u=upd H a u:=by
 funext b;unfold upd;split <;> rfl
theorem gO {u:HO} (h:H a=some o) (h':H b=some u) (d:o≠u):a≠b:=by
 intro e;subst e;rw [h] at h';exact d (gq h')
theorem aE (h:H a=some o) (h':H b=none):a≠b:=by
 intro e;subst e;rw [h] at h';cases h'
section
variable (P:Program) (w:World)
def d_ (H:Hp) (h:Heap) (a:Addr):HO->Prop
 | .lst xs=>xs.length<=sizeLine/\∃(its:List Value) (n:Nat),Vals xs its/\h.get? a=some { cls:= .type "list",data:= .seq its.toArray n }
 | .tup xs=>xs.length<=sizeLine/\∃its:List Value,Vals xs its/\IsTup h a its.toArray
 | .dK kvs=>kvs.length<=sizeLine/\(a==sysModules)=false/\∃vs,KV kvs vs/\h.DictOf (cI P w) a vs
 | .dT kvs=>kvs.length<=sizeLine/\(a==sysModules)=false/\∃xs:List (List Key×Addr×Value),
     Paired (fun (p:List Key×V) (q:List Key×Addr×Value)=>p.1=q.1/\H q.2.1=some (.tup (p.1.map kV))/\RelV p.2 q.2.2) kvs xs/\
     ∃o es ep,h.get? a=some o/\o.ExactDict/\o.data = .dict es ep/\es.toList=xs.map (entryOfKey (tupleKind (cI P w)))/\(xs.map (·.1)).Nodup
 | .set S n=>h.SetOf (intKind P w) a S n
 | .ins C dx fs=>H dx=some (.own a)/\fs.length<=1000/\dx≠a/\h.get? a=some (PySem.W.instObj C dx)/\
     ∃mA,h.Ns1 dx mA/\(∀f,lg (fs.lookup f) (mA f))/\PySem.Within mA (fs.map (·.1))
 | .own _=>∃o,h.get? a=some o
 | .xd fs=>∃mA,h.Ns1 a mA/\∀f,lg (fs.lookup f) (mA f)
 | .tW lo hi=>∃t u v,h.get? a=some { cls:= .type "range",data:= .fields #[.int lo t, .int hi u, .int 1 v] }
 | .fB o u=>h.get? a=some o/\d_ H h a u
 | .DO ps=>h.get? a=some { cls:= .none,data:= .fields ps }
 | .met f x=>h.get? a=some (PySem.W.methodObj (.ref f) (.ref x))
 | .ext φ=>φ h/\(∃o,h.get? a=some o)/\∀h1 h2:Heap,φ h1->(∀o,h1.get? a=some o->h2.get? a=some o)->φ h2
def gr (H:Hp) (h:Heap):Prop:=∀a o,H a=some o->d_ P w H h a o
end
section
variable {P:Program} {w:World} {H H':Hp} {h h':Heap} {a:Addr} {o:HO}
theorem d_.lt (x:d_ P w H h a o):a<h.objs.size:=by
 cases o with
 | lst xs=>obtain ⟨_,_,_,_,e⟩:=x;exact bM e
 | tup xs=>obtain ⟨_,_,_,p⟩:=x;exact p.lt
 | dK kvs=>obtain ⟨_,_,_,_,o,_,_,e,_⟩:=x;exact bM e
 | dT kvs=>obtain ⟨_,_,_,_,o,_,_,e,_⟩:=x;exact bM e
 | set S n=>obtain ⟨o,_,_,_,e,_⟩:=x;exact bM e
 | ins C dx fs=>obtain ⟨_,_,_,e,_⟩:=x;exact bM e
 | own y=>obtain ⟨_,e⟩:=x;exact bM e
 | xd fs=>obtain ⟨_,⟨_,_,_,e,_⟩,_⟩:=x;exact bM e
 | tW lo hi=>obtain ⟨_,_,_,e⟩:=x;exact bM e
 | fB ob u=>obtain ⟨e,_⟩:=x;exact bM e
 | DO ps=>exact bM (show h.get? a=some _ from x)
 | met f y=>exact bM (show h.get? a=some _ from x)
 | ext φ=>obtain ⟨_,⟨_,e⟩,_⟩:=x;exact bM e
theorem Paired.QJ {α β:Type} {F G:α->β->Prop}:∀{l₁:List α} {l₂:List β},Paired F l₁ l₂->(∀a b,F a b->G a b)->Paired G l₁ l₂
 | _,_, .nil,_=> .nil
 | _,_, .cons r t,f=> .cons (f _ _ r) (Paired.QJ t f)
theorem d_.stay (x:d_ P w H h a o) (k:∀b u,(b=a\/H b=some (.own a))->h.get? b=some u->h'.get? b=some u)
  (ho:∀b,H b=some (.own a)->H' b=some (.own a)) (ht:∀b xs,H b=some (.tup xs)->H' b=some (.tup xs)):d_ P w H' h' a o:=by
 induction o with
 | lst xs=>obtain ⟨z,its,n,r,e⟩:=x;exact ⟨z,its,n,r,k _ _ (.inl rfl) e⟩
 | tup xs=>obtain ⟨z,its,r,ob,e,c⟩:=x;exact ⟨z,its,r,ob,k _ _ (.inl rfl) e,c⟩
 | dK kvs=>obtain ⟨z,y,vs,r,ob,es,ep,e,c⟩:=x;exact ⟨z,y,vs,r,ob,es,ep,k _ _ (.inl rfl) e,c⟩
 | dT kvs=>
   obtain ⟨z,y,xs,r,ob,es,ep,e,c⟩:=x
   exact ⟨z,y,xs,Paired.QJ r fun p q z=>⟨z.1,ht _ _ z.2.1,z.2.2⟩,ob,es,ep,k _ _ (.inl rfl) e,c⟩
 | set S n=>obtain ⟨ob,es,ep,t,e,c⟩:=x;exact ⟨ob,es,ep,t,k _ _ (.inl rfl) e,c⟩
 | ins C dx fs=>
   obtain ⟨d,z,ne,e,mA,⟨od,es,ep,e2,c⟩,r⟩:=x
   exact ⟨ho _ d,z,ne,k _ _ (.inl rfl) e,mA,⟨od,es,ep,k _ _ (.inr d) e2,c⟩,r⟩
 | own y=>obtain ⟨ob,e⟩:=x;exact ⟨ob,k _ _ (.inl rfl) e⟩
 | xd fs=>obtain ⟨mA,⟨od,es,ep,e,c⟩,r⟩:=x;exact ⟨mA,⟨od,es,ep,k _ _ (.inl rfl) e,c⟩,r⟩
 | tW lo hi=>obtain ⟨t,u,v,e⟩:=x;exact ⟨t,u,v,k _ _ (.inl rfl) e⟩
 | fB ob u ih=>obtain ⟨e,q⟩:=x;exact ⟨k _ _ (.inl rfl) e,ih q⟩
 | DO ps=>
   have e:h.get? a=some { cls:= .none,data:= .fields ps }:=x
   show h'.get? a=some { cls:= .none,data:= .fields ps }
   exact k a _ (.inl rfl) e
 | met f y=>
   have e:h.get? a=some (PySem.W.methodObj (.ref f) (.ref y)):=x
   show h'.get? a=some (PySem.W.methodObj (.ref f) (.ref y))
   exact k a _ (.inl rfl) e
 | ext φ=>obtain ⟨p,⟨o,e⟩,st⟩:=x;exact ⟨st _ _ p fun o q=>k _ _ (.inl rfl) q,⟨o,k _ _ (.inl rfl) e⟩,st⟩
theorem gr.lt (x:gr P w H h) (e:H a=some o):a<h.objs.size:=(x a o e).lt
theorem gr.fresh (x:gr P w H h) (e:h.objs.size<=a):H a=none:=by
 cases q:H a with
 | none=>rfl
 | some u=>exact absurd (jT (x.lt q) e) (jf _)
theorem gr.kept (x:gr P w H h) (k:∀b u,h.get? b=some u->h'.get? b=some u):gr P w H h':=fun a o e=>
 (x a o e).stay (fun b u _ q=>k b u q) (fun _ q=>q) fun _ _ q=>q
theorem gr.laid (x:gr P w H h) (k:∀b u,h.get? b=some u->h'.get? b=some u) (hp:h.objs.size<=a) (new:d_ P w (upd H a o) h' a o):gr P w (upd H a o) h':=fun b u e=>by
 have hn:=x.fresh hp
 by_cases hb:b=a
 . subst hb;rw [ai] at e;cases e;exact new
 . rw [ay hb] at e
   exact (x b u e).stay (fun c v _ q=>k c v q) (fun c q=>by rw [ay (aE q hn)];exact q) fun c xs q=>by rw [ay (aE q hn)];exact q
end
def Rd (H:Hp) (a:Addr) (u:HO):Prop:=H a=some u\/∃o,H a=some (.fB o u)
variable {P:Program} {h:Heap}
theorem Rd.ok {w:World} {u:HO} (r:Rd H a u) (x:gr P w H h):d_ P w H h a u:=by
 rcases r with r|⟨o,r⟩
 . exact x a u r
 . obtain ⟨_,q⟩:=x a _ r
   exact q
def Oc:Option HO->Prop
 | some (.lst _)=>True
 | some (.dK _)=>True
 | some (.dT _)=>True
 | some (.set _ _)=>True
 | some (.ins _ _ _)=>True
 | some (.ext _)=>True
 | _=>False
section
variable {P:Program} {w:World} {H:Hp} {h h':Heap} {x e:Addr} {o':HO}
theorem gr.write (ok:gr P w H h) (mu:Oc (H x)) (he:e=x\/H e=some (.own x)) (k:∀b u,b≠e->h.get? b=some u->h'.get? b=some u) (Lh:∃u,h'.get? e=some u)
  (new:d_ P w (upd H x o') h' x o'):gr P w (upd H x o') h':=fun b u q=>by
 have Vt:∀c y,H c=some (.own y)->c≠x:=fun c y r z=>by subst z;rw [r] at mu;exact mu
 have abV:∀c xs,H c=some (.tup xs)->c≠x:=fun c xs r z=>by subst z;rw [r] at mu;exact mu
 by_cases hb:b=x
 . subst hb;rw [ai] at q;cases q;exact new
 . rw [ay hb] at q
   by_cases Gu:b=e
   . have q':H b=some (.own x):=by
      rcases he with z|z
      . exact absurd (Gu.trans z) hb
      . rw [Gu];exact z
     rw [q] at q';cases q'
     obtain ⟨v,hv⟩:=Lh
     exact ⟨v,by rw [Gu];exact hv⟩
   . refine (ok b u q).stay (fun c v hc r=>k c v ?_ r) (fun c r=>by rw [ay (Vt c b r)];exact r) fun c xs r=>by rw [ay (abV c xs r)];exact r
     rcases hc with rfl|hc
     . exact Gu
     . rintro rfl
       rcases he with z|z
       . exact Vt c b hc z
       . rw [hc] at z;cases z;exact hb rfl
end
structure Un (fs ex:List Addr) (H H':Hp) (h h':Heap):Prop where
 keep:∀b o,h.get? b=some o->H b=none->b∉fs->b∉ex->h'.get? b=some o
 slot:∀b o,h.get? b=some o->H b=none->b∈fs->b∉ex->∃sl,h'.get? b=some { o with slots:=sl }
 free:∀b o,h.get? b=some o->H b=none->b∉ex->H' b=none
 there:∀b o,h.get? b=some o->b∉ex->∃o',h'.get? b=some o'
 tups:∀b xs,H b=some (.tup xs)->H' b=some (.tup xs)
 oU:∀b o u,H b=some (.fB o u)->H' b=some (.fB o u)
 rR:∀b ps,H b=some (.DO ps)->∃more,H' b=some (.DO (ps++more))
section
variable {fs fs' ex ex':List Addr} {H H1 H2:Hp} {h h1 h2 h':Heap} {a x e:Addr} {o:HO}
theorem Un.any (u:Un fs ex H H1 h h1) (q:h.get? b=some ob) (n:H b=none) (hx:b∉ex):∃sl,h1.get? b=some { ob with slots:=sl }:=by
 by_cases hb:b∈fs
 . exact u.slot b ob q n hb hx
 . exact ⟨ob.slots,u.keep b ob q n hb hx⟩
theorem Un.kept (k:∀b u,h.get? b=some u->h'.get? b=some u):Un fs ex H H h h':=
 ⟨fun b ob q _ _ _=>k b ob q,fun b ob q _ _ _=>⟨ob.slots,k b ob q⟩,fun _ _ _ n _=>n,fun b ob q _=>⟨ob,k b ob q⟩,fun _ _ q=>q,fun _ _ _ q=>q,fun _ ps q=>⟨#[],by rw [q];simp⟩⟩
theorem Un.refl:Un fs ex H H h h:=Un.kept fun _ _ q=>q
theorem Un.laid (k:∀b u,h.get? b=some u->h'.get? b=some u) (hp:h.objs.size<=a) (hn:H a=none):Un fs ex H (upd H a o) h h' where
 keep:=fun b u q _ _ _=>k b u q
 slot:=fun b u q _ _ _=>⟨u.slots,k b u q⟩
 free:=fun b u q n _=>by rw [ay (eU (jT (bM q) hp))];exact n
 there:=fun b u q _=>⟨u,k b u q⟩
 tups:=fun b xs q=>by rw [ay (aE q hn)];exact q
 oU:=fun b u xs q=>by rw [ay (aE q hn)];exact q
 rR:=fun b ps q=>⟨#[],by rw [ay (aE q hn),q];simp⟩
theorem Un.write (mu:Oc (H x)) (he:e=x\/H e=some (.own x)) (k:∀b u,b≠e->h.get? b=some u->h'.get? b=some u) (Lh:∃u,h'.get? e=some u):Un fs ex H (upd H x o) h h':=by
 have hx:∀b,H b=none->b≠x:=fun b n z=>by subst z;rw [n] at mu;exact mu
 have hb:∀b,H b=none->b≠e:=fun b n z=>by
  subst z
  rcases he with r|r
  . exact hx b n r
  . rw [n] at r;cases r
 have hm:∀b u,H b=some u->¬ Oc (some u)->b≠x:=fun b u q nm z=>by subst z;rw [q] at mu;exact nm mu
 refine ⟨fun b u q n _ _=>k b u (hb b n) q,fun b u q n _ _=>⟨u.slots,k b u (hb b n) q⟩,fun b u q n _=>by rw [ay (hx b n)];exact n,fun b u q _=>?_,
  fun b xs q=>by rw [ay (hm b _ q fun z=>z)];exact q,fun b u xs q=>by rw [ay (hm b _ q fun z=>z)];exact q,fun b ps q=>⟨#[],by rw [ay (hm b _ q fun z=>z),q];simp⟩⟩
 by_cases Gu:b=e
 . subst Gu;exact Lh
 . exact ⟨u,k b u Gu q⟩
end
def Su (h:Heap) (H:Hp):List Addr:=(List.range h.objs.size).filter fun a=>(H a).isSome
def vG (h:Heap) (H:Hp):Heap:=PySem.W.hideAll h (Su h H)
theorem Od (h:Heap) (H:Hp):(vG h H).objs.size=h.objs.size:=PySem.W.hideAll_size _ _
theorem QK {o:Obj} (e:h.get? b=some o) (n:H b=none):(vG h H).get? b=some o:=
 PySem.W.hideAll_get _ e fun hm=>by
  have q:(H b).isSome=true:=(vB.mp hm).2
  rw [n] at q;simp at q
theorem TY {o:Obj} (e:(vG h H).get? b=some o):h.get? b=some o/\H b=none:=by
 have e':h.get? b=some o:=PySem.W.of_hideAll (Su h H) e
 refine ⟨e',?_⟩
 cases q:H b with
 | none=>rfl
 | some x=>
   have hm:b∈Su h H:=vB.mpr ⟨pT.mpr (bM e'),by simp [q]⟩
   have z:(vG h H).get? b=none:=PySem.W.hideAll_none (Su h H) hm
   rw [z] at e;cases e
structure Mod (K:Fg) (mg:SO) (base:Heap):Prop where
 Oe:K.In base
 glob:base.Ns mainGlobals mg
 blt:∃mb,base.Ns builtinsNs mb/\∀x:Str,x ≠ "__name__"->mb x=bootBuiltins x
 nolimit:base.NoLimit
structure Cx where
 prog:Program
 w:World
 K:Fg
 mg:Str->Option Value
 base:Heap
 A:Around
 N:List Str
 s₀:Shared
 H₀:Hp
 env:Env
 outer:List Env
 stack:List Env
 ex:List Addr
 fn:Str->Bool
 calm:Bool
 pn:List (Addr×Obj)
 xe:Value->Shared->Prop
def frs (l:List Env):List Addr:=l.filterMap (·.frame)
abbrev Cx.fs (X:Cx):List Addr:=frs X.outer
def Sv (sc:Scope) (x:Str):Prop:=sc.names.lookup x=some .local\/sc.names.lookup x=some .cell\/sc.names.lookup x=some .free
def Loc (sc:Scope) (x:Str):Prop:=sc.names.lookup x=some .local\/sc.names.lookup x=some .cell
def Look (env:Env) (h:Heap) (m:SO) (x:Str) (u:Value):Prop:=
 (env.kindOf x=some .local/\m x=some u)\/((env.kindOf x=some .cell\/env.kindOf x=some .free)/\∃c,env.cells.lookup x=some c/\h.IsCell c (some u))
structure Cx.Ok (X:Cx):Prop where
 mod:Mod X.K X.mg X.base
 kind:X.env.scope.kind = .function
 glob:X.env.globals=mainGlobals
 blt:X.env.builtins=builtinsNs
 above:X.s₀.heap.objs.size<=X.env.locals
 inj:∀x y c,X.env.cells.lookup x=some c->X.env.cells.lookup y=some c->x=y
 has:∀x,(X.env.kindOf x=some .cell\/X.env.kindOf x=some .free)->∃c,X.env.cells.lookup x=some c
 fK:∀x c,X.fn x=true->X.env.cells.lookup x=some c->X.s₀.heap.objs.size<=c
 hd:X.calm=true->X.A.handled=none
 frames:X.A.frames=some X.stack
 stk:X.stack=X.outer\/(X.stack=X.env::X.outer/\X.env.frame=some X.env.locals)
 Li:∀b∈X.ex,b≠X.env.locals/\∀x c,X.env.cells.lookup x=some c->c≠b
 bs:∀b o,X.base.get? b=some o->X.s₀.heap.get? b=some o/\X.H₀ b=none
 DP:X.base.objs.size<=X.s₀.heap.objs.size
 Gv:∀b o,X.base.get? b=some o->b∉X.ex
 CK:∀b∈X.ex,b∉X.fs
 m_:X.s₀.heap.FunFrames X.base X.outer
 Gw:∀b∈X.fs,X.H₀ b=none
structure Inv (X:Cx) (pins:AO) (σ:List (Option V)) (H:Hp) (s:Shared):Prop where
 ok:X.Ok
 os:s.os=X.s₀.os
 bare:AllBare s.gens
 base:Un X.fs X.ex X.H₀ H X.s₀.heap s.heap
 loc:∃m,s.heap.Ns X.env.locals m/\∀(i:Nat) (x:Str) (v:V),X.N[i]?=some x->σ[i]?=some (some v)->Sv X.env.scope x->∃u,RelV v u/\Look X.env s.heap m x u
 cell:∀x c,X.env.cells.lookup x=some c->∃v,s.heap.IsCell c v
 free:H X.env.locals=none
 lR:∀x c,X.env.cells.lookup x=some c->H c=none
 pin:∀p∈X.pn++pins,s.heap.get? p.1=some p.2/\H p.1=none/\p.1≠X.env.locals/\p.1∉X.fs/\∀v,p.2.data ≠ .cell v
 hok:gr X.prog X.w H s.heap
 len:σ.length=X.N.length
variable {g':Array GenState} {t' i j:Nat} {ch:List Addr} {it:Addr} {N:List Str} {x:Str} {M:Model} {E:VS} {u:Value} {Q:Unit->Shared->Prop}
section
variable {X:Cx} {pins:AO} {σ:List (Option V)} {H H':Hp} {s:Shared} {h':Heap}
theorem Cx.Ok.abW (ok:X.Ok) {o:Obj} (e:X.base.get? b=some o):b∉X.fs:=fun hb=>by
 have:=(ok.m_.mem hb).1
 rw [e] at this;cases this
theorem Inv.bs (I:Inv X pins σ H s):∀b o,X.base.get? b=some o->s.heap.get? b=some o/\H b=none:=fun b o e=>
 ⟨I.base.keep b o (I.ok.bs b o e).1 (I.ok.bs b o e).2 (I.ok.abW e) (I.ok.Gv b o e),I.base.free b o (I.ok.bs b o e).1 (I.ok.bs b o e).2 (I.ok.Gv b o e)⟩
theorem Inv.bk (I:Inv X pins σ H s):∀b o,X.base.get? b=some o->s.heap.get? b=some o:=fun b o e=>(I.bs b o e).1
theorem Inv.mod (I:Inv X pins σ H s):Mod X.K X.mg X.base:=I.ok.mod
theorem Inv.qY (I:Inv X pins σ H s):X.K.In s.heap:=I.ok.mod.Oe.keeps I.bk
theorem Inv.lt (I:Inv X pins σ H s):X.env.locals<s.heap.objs.size:=let ⟨_,hn,_⟩:=I.loc;hn.lt
theorem Inv.sz (I:Inv X pins σ H s):X.s₀.heap.objs.size<=s.heap.objs.size:=fP I.ok.above (AG I.lt)
theorem Inv.abX (I:Inv X pins σ H s) (h:s.heap.objs.size<=a):a∉X.fs:=fun hb=>by
 obtain ⟨_,o,ho,_⟩:=I.ok.m_.mem hb
 exact absurd (jT (bM ho) (fP I.sz h)) (jf _)
theorem Inv.Gx (I:Inv X pins σ H s):∀x c,X.env.cells.lookup x=some c->c≠X.env.locals:=fun x c e z=>by
 obtain ⟨v,o,ho,hd⟩:=I.cell x c e
 obtain ⟨m,⟨o',es,ep,ho',hd',_⟩,_⟩:=I.loc
 rw [z,ho'] at ho;cases ho;rw [hd'] at hd;cases hd
theorem Inv.m_ (I:Inv X pins σ H s):s.heap.FunFrames X.base X.outer:=by
 have all:∀(l:List Env),(∀b∈frs l,b∈X.fs)->X.s₀.heap.FunFrames X.base l->s.heap.FunFrames X.base l:=by
  intro l
  induction l with
  | nil=>intro _ _;trivial
  | cons env r ih=>
    intro hs hl
    obtain ⟨hk,⟨L,o,hf,hn,ho,hd⟩,hr⟩:=hl
    have hL:L∈X.fs:=hs L (by unfold frs;rw [Gi,hf];exact cV)
    obtain ⟨sl,e⟩:=I.base.slot L o ho (I.ok.Gw L hL) hL fun z=>I.ok.CK L z hL
    exact ⟨hk,⟨L,_,hf,hn,e,hd⟩,ih (fun b hb=>hs b (by unfold frs;rw [Gi,hf];exact cD _ hb)) hr⟩
 exact all X.outer (fun _ hb=>hb) I.ok.m_
theorem Inv.stack (I:Inv X pins σ H s):s.heap.FunFrames X.base X.stack:=by
 rcases I.ok.stk with e|⟨e,hf⟩
 . rw [e];exact I.m_
 . rw [e]
   obtain ⟨m,hn,_⟩:=I.loc
   refine .cons (by rw [I.ok.kind];decide) hf hn ?_ I.m_
   exact Heap.get?_none_of_le (fP I.ok.DP I.ok.above)
theorem Inv.Gy (I:Inv X pins σ H s):∀b∈frs X.stack,b∈X.env.locals::X.fs:=fun b hb=>by
 rcases I.ok.stk with e|⟨e,hf⟩
 . rw [e] at hb;exact cD _ hb
 . rw [e] at hb
   unfold frs at hb
   rw [Gi,hf] at hb
   exact hb
theorem Inv.yL (I:Inv X pins σ H s):∀b∈frs X.stack,H b=none:=fun b hb=>by
 rcases c9.mp (I.Gy b hb) with e|hb
 . rw [e];exact I.free
 . obtain ⟨_,o,ho,_⟩:=I.ok.m_.mem hb
   exact I.base.free b o ho (I.ok.Gw b hb) fun z=>I.ok.CK b z hb
theorem Inv.step {d':Drawn} (I:Inv X pins σ H s)
  (hch:∀b∈ch,(b∈X.ex\/X.s₀.heap.objs.size<=b)/\b≠X.env.locals/\(∀x c,X.env.cells.lookup x=some c->c≠b)/\∀p∈X.pn++pins,p.1≠b)
  (keep:∀b o,b≠X.env.locals->b∉X.fs->b∉ch->s.heap.get? b=some o->H b=none->h'.get? b=some o)
  (slot:∀b o,b≠X.env.locals->b∈X.fs->b∉ch->s.heap.get? b=some o->H b=none->∃sl,h'.get? b=some { o with slots:=sl }) (free:∀b o,b∉ch->s.heap.get? b=some o->H b=none->H' b=none)
  (there:∀b o,b∉ch->s.heap.get? b=some o->∃o',h'.get? b=some o')
  (tups:∀b xs,H b=some (.tup xs)->H' b=some (.tup xs)) (oU:∀b o u,H b=some (.fB o u)->H' b=some (.fB o u)) (rR:∀b ps,H b=some (.DO ps)->∃more,H' b=some (.DO (ps++more)))
  (ns:∀m,s.heap.Ns X.env.locals m->h'.Ns X.env.locals m) (hok:gr X.prog X.w H' h') (hg:AllBare g'):
  Inv X pins σ H' { s with heap:=h',gens:=g',drawn:=d',toks:=t' }:=by
 have ZY:∀b o,X.s₀.heap.get? b=some o->b≠X.env.locals:=fun b o e=>eU (jT (bM e) I.ok.above)
 have Sw:∀b o,X.s₀.heap.get? b=some o->b∉X.ex->b∉ch:=fun b o e hx hb=>by
  rcases (hch b hb).1 with z|z
  . exact hx z
  . exact absurd (jT (bM e) z) (jf _)
 have cellK:∀x c,X.env.cells.lookup x=some c->∀v,s.heap.IsCell c v->h'.IsCell c v:=fun x c e v ⟨o,ho,hd⟩=>by
  have uT:c∉ch:=fun z=>(hch c z).2.2.1 x c e rfl
  by_cases hc:c∈X.fs
  . obtain ⟨sl,q⟩:=slot c o (I.Gx x c e) hc uT ho (I.lR x c e)
    exact ⟨_,q,hd⟩
  . exact ⟨o,keep c o (I.Gx x c e) hc uT ho (I.lR x c e),hd⟩
 refine ⟨I.ok,I.os,hg,⟨fun b o e n hb hx=>?_,fun b o e n hb hx=>?_,fun b o e n hx=>?_,fun b o e hx=>?_,fun b xs e=>tups b xs (I.base.tups b xs e),fun b o xs e=>oU b o xs (I.base.oU b o xs e),fun b ps e=>?_⟩,?_,fun x c e=>?_,?_,fun x c e=>?_,fun p hp=>?_,hok,I.len⟩
 . exact keep b o (ZY b o e) hb (Sw b o e hx) (I.base.keep b o e n hb hx) (I.base.free b o e n hx)
 . obtain ⟨sl,e1⟩:=I.base.slot b o e n hb hx
   obtain ⟨Vu,e2⟩:=slot b _ (ZY b o e) hb (Sw b o e hx) e1 (I.base.free b o e n hx)
   exact ⟨Vu,e2⟩
 . obtain ⟨o',e1⟩:=I.base.there b o e hx
   exact free b o' (Sw b o e hx) e1 (I.base.free b o e n hx)
 . obtain ⟨o',e1⟩:=I.base.there b o e hx
   exact there b o' (Sw b o e hx) e1
 . obtain ⟨m1,e1⟩:=I.base.rR b ps e
   obtain ⟨m2,e2⟩:=rR b _ e1
   exact ⟨m1++m2,by rw [e2,Array.append_assoc]⟩
 . obtain ⟨m,hn,hl⟩:=I.loc
   refine ⟨m,ns m hn,fun i x v e1 e2 e3=>?_⟩
   obtain ⟨u,r,l⟩:=hl i x v e1 e2 e3
   refine ⟨u,r,?_⟩
   rcases l with l|⟨k,c,e,z⟩
   . exact .inl l
   . exact .inr ⟨k,c,e,cellK x c e _ z⟩
 . obtain ⟨v,z⟩:=I.cell x c e
   exact ⟨v,cellK x c e v z⟩
 . obtain ⟨m,⟨o,_,_,ho,_⟩,_⟩:=I.loc
   exact free _ o (fun z=>(hch _ z).2.1 rfl) ho I.free
 . obtain ⟨v,o,ho,hd⟩:=I.cell x c e
   exact free c o (fun z=>(hch c z).2.2.1 x c e rfl) ho (I.lR x c e)
 . obtain ⟨e,n,ne,nf,d⟩:=I.pin p hp
   have uT:p.1∉ch:=fun z=>(hch p.1 z).2.2.2 p hp rfl
   exact ⟨keep p.1 p.2 ne nf uT e n,free p.1 p.2 uT e n,ne,nf,d⟩
theorem Inv.un (I:Inv X pins σ H s) (u:Un X.fs [] H H' s.heap h') (hok:gr X.prog X.w H' h'):Inv X pins σ H' { s with heap:=h',toks:=t' }:=by
 obtain ⟨m,⟨o,es,ep,ho,r⟩,_⟩:=id I.loc
 obtain ⟨sl,hL⟩:=u.any ho I.free (by simp)
 exact I.step (g':=s.gens) (d':=s.drawn) (ch:=[]) (fun _ z=>nomatch z) (fun b o _ hb _ e n=>u.keep b o e n hb (by simp)) (fun b o _ hb _ e n=>u.slot b o e n hb (by simp)) (fun b o _ e n=>u.free b o e n (by simp)) (fun b o _ e=>u.there b o e (by simp)) u.tups u.oU u.rR (fun m' hm=>by
  obtain ⟨o',es',uU,ho',r'⟩:=hm
  rw [ho] at ho';cases ho'
  exact ⟨_,es',uU,hL,r'⟩) hok I.bare
theorem Inv.call {d':Drawn} (I:Inv X pins σ H s) (u:Un (frs X.stack) ch H H' s.heap h') (hok:gr X.prog X.w H' h') (hg:AllBare g')
  (hch:∀b∈ch,(b∈X.ex\/X.s₀.heap.objs.size<=b)/\b≠X.env.locals/\(∀x c,X.env.cells.lookup x=some c->c≠b)/\∀p∈X.pn++pins,p.1≠b):
  Inv X pins σ H' { s with heap:=h',gens:=g',drawn:=d',toks:=t' }:=by
 obtain ⟨m,⟨o,es,ep,ho,r⟩,_⟩:=id I.loc
 obtain ⟨sl,hL⟩:=u.any ho I.free fun z=>(hch _ z).2.1 rfl
 exact I.step (ch:=ch) hch (fun b o hL hb hc e n=>u.keep b o e n (fun z=>(c9.mp (I.Gy b z)).elim hL hb) hc) (fun b o _ _ hc e n=>u.any e n hc) (fun b o hc e n=>u.free b o e n hc) (fun b o hc e=>u.there b o e hc) u.tups u.oU u.rR (fun m' hm=>by
  obtain ⟨o',es',uU,ho',r'⟩:=hm
  rw [ho] at ho';cases ho'
  exact ⟨_,es',uU,hL,r'⟩) hok hg
theorem Inv.turned (I:Inv X pins σ H s) (k:∀b o,b≠it->s.heap.get? b=some o->h'.get? b=some o) (hn:H it=none) (hL:it≠X.env.locals)
  (h1:it∈X.ex\/X.s₀.heap.objs.size<=it) (h2:∀x c,X.env.cells.lookup x=some c->c≠it) (h3:∀p∈X.pn++pins,p.1≠it):Inv X pins σ H { s with heap:=h',toks:=t' }:=by
 have ZZ:∀b u,H b=some u->b≠it:=fun b u e z=>by rw [z,hn] at e;cases e
 refine I.step (g':=s.gens) (d':=s.drawn) (ch:=[it]) (fun b hb=>?_) (fun b o _ _ hc e _=>k b o (fun z=>hc (by simp [z])) e) (fun b o _ _ hc e _=>⟨o.slots,k b o (fun z=>hc (by simp [z])) e⟩) (fun _ _ _ _ n=>n)
  (fun b o hc e=>⟨o,k b o (fun z=>hc (by simp [z])) e⟩) (fun _ _ e=>e) (fun _ _ _ e=>e) (fun b ps e=>⟨#[],by rw [e];simp⟩) (fun m hm=>?_) (fun b u e=>?_) I.bare
 . have e:b=it:=by simpa using hb
   subst e
   exact ⟨h1,hL,h2,h3⟩
 . obtain ⟨o,es,ep,ho,r⟩:=hm
   exact ⟨o,es,ep,k _ o (cM hL) ho,r⟩
 . refine (I.hok b u e).stay (fun c v hc q=>k c v ?_ q) (fun _ q=>q) fun _ _ q=>q
   rcases hc with z|z
   . rw [z];exact ZZ b u e
   . exact ZZ c _ z
theorem Inv.tok (I:Inv X pins σ H s) (t:Nat):Inv X pins σ H { s with toks:=t }:=I.un (h':=s.heap) (t':=t) Un.refl I.hok
theorem Inv.kept (I:Inv X pins σ H s) (k:∀b u,s.heap.get? b=some u->h'.get? b=some u):Inv X pins σ H { s with heap:=h',toks:=t' }:=I.un (Un.kept k) (I.hok.kept k)
theorem Inv.laid (I:Inv X pins σ H s) (k:∀b u,s.heap.get? b=some u->h'.get? b=some u) (hp:s.heap.objs.size<=a) (new:d_ X.prog X.w (upd H a o) h' a o):
  Inv X pins σ (upd H a o) { s with heap:=h',toks:=t' }:=I.un (Un.laid k hp (I.hok.fresh hp)) (I.hok.laid k hp new)
theorem Inv.write {x e:Addr} (I:Inv X pins σ H s) (mu:Oc (H x)) (he:e=x\/H e=some (.own x)) (k:∀b u,b≠e->s.heap.get? b=some u->h'.get? b=some u) (Lh:∃u,h'.get? e=some u)
  (new:d_ X.prog X.w (upd H x o) h' x o):Inv X pins σ (upd H x o) { s with heap:=h',toks:=t' }:=I.un (Un.write mu he k Lh) (I.hok.write mu he k Lh new)
theorem Inv.Lj {Sx:AO} (I:Inv X pins σ H s) (h:∀p∈Sx,s.heap.get? p.1=some p.2/\H p.1=none/\p.1≠X.env.locals/\p.1∉X.fs/\∀v,p.2.data ≠ .cell v):Inv X Sx σ H s:=
 ⟨I.ok,I.os,I.bare,I.base,I.loc,I.cell,I.free,I.lR,fun p hp=>(fZ.mp hp).elim (fun z=>I.pin p (zM _ z)) (h p),I.hok,I.len⟩
theorem vH (hN:N.Nodup) (a:N[i]?=some x) (b:N[j]?=some x):i=j:=by
 obtain ⟨h1,e1⟩:=dP.mp a
 obtain ⟨h2,e2⟩:=dP.mp b
 exact (List.getElem_inj hN).mp (e1.trans e2.symm)
theorem DQ {A:Around} {v:V} (I:Inv X pins σ H s) (hN:X.N.Nodup) (hi:X.N[i]?=some x) (hx:Loc X.env.scope x) (r:RelV v u)
  (h:∀s',Inv X pins (σ.set i (some v)) H s'->(∃a,Heap.SameBut a s.heap s'.heap/\(a=X.env.locals\/X.env.cells.lookup x=some a))->Q () s') (hf:X.fn x=true\/X.env.scope.names.lookup x=some .local:=by first|exact .inl rfl|exact .inr rfl|assumption):wpAny M A (storeName X.env x u) Q E s:=by
 obtain ⟨m,hn,hl⟩:=id I.loc
 have hcls:(X.env.scope.kind == .class || (X.env.scope.kind == .module && X.env.locals != X.env.globals))=false:=by rw [I.ok.kind];rfl
 have Z0:i<σ.length:=by rw [I.len];exact (dP.mp hi).1
 have Gx:=I.Gx
 have tracked:∀{a:Addr} {h':Heap},(∃o,s.heap.get? a=some o/\H a=none)->Heap.SameBut a s.heap h'->gr X.prog X.w H h':=fun {a h'} ha hs b ob e=>by
  obtain ⟨_,_,hfree⟩:=ha
  refine (I.hok b ob e).stay (fun c w' hc q=>(hs.2 c ?_).trans q) (fun _ q=>q) fun _ _ q=>q
  rintro rfl
  rcases hc with rfl|hc
  . rw [hfree] at e;cases e
  . rw [hfree] at hc;cases hc
 rcases hx with hk|hk
 . refine wpAny_storeName_local hk hn (fun h' hn' hs=>?_) hcls
   obtain ⟨oL,_,_,hoL,_⟩:=id hn
   refine h _ ⟨I.ok,I.os,I.bare,⟨fun b o e n hb hx=>?_,fun b o e n hb hx=>?_,I.base.free,fun b o e hx=>?_,I.base.tups,I.base.oU,I.base.rR⟩,⟨_,hn',fun j y v' e1 e2 e3=>?_⟩,fun y c e=>?_,I.free,I.lR,fun p hp=>?_,tracked ⟨oL,hoL,I.free⟩ hs,by simpa using I.len⟩ ⟨_,hs, .inl rfl⟩
   . exact (hs.2 b (eU (jT (bM e) I.ok.above))).trans (I.base.keep b o e n hb hx)
   . obtain ⟨sl,e1⟩:=I.base.slot b o e n hb hx
     exact ⟨sl,(hs.2 b (eU (jT (bM e) I.ok.above))).trans e1⟩
   . obtain ⟨o',e1⟩:=I.base.there b o e hx
     exact ⟨o',(hs.2 b (eU (jT (bM e) I.ok.above))).trans e1⟩
   . by_cases hj:j=i
     . subst hj
       rw [hi] at e1;cases e1
       rw [oQ Z0] at e2
       cases e2
       exact ⟨u,r, .inl ⟨hk,by simp⟩⟩
     . rw [xq (cM hj)] at e2
       obtain ⟨u',r',q⟩:=hl j y v' e1 e2 e3
       refine ⟨u',r',?_⟩
       rcases q with ⟨k,e⟩|⟨k,c,e,z⟩
       . refine .inl ⟨k,?_⟩
         have:y≠x:=fun e=>hj (vH hN e1 (e▸hi))
         simp [this,e]
       . exact .inr ⟨k,c,e,z.sameBut hs (Gx y c e)⟩
   . obtain ⟨w',z⟩:=I.cell y c e
     exact ⟨w',z.sameBut hs (Gx y c e)⟩
   . obtain ⟨e,n,ne,nf,d⟩:=I.pin p hp
     exact ⟨(hs.2 p.1 ne).trans e,n,ne,nf,d⟩
 . have hfn:X.fn x=true:=by
    rcases hf with z|z
    . exact z
    . rw [z] at hk;cases hk
   obtain ⟨c,hc⟩:=I.ok.has x (.inl hk)
   obtain ⟨w',z⟩:=I.cell x c hc
   refine wpAny_storeName_cell I.ok.kind hk hc z (fun h' hc' hs=>?_)
   obtain ⟨oc,hoc,abY⟩:=id z
   refine h { s with heap:=h' } ⟨I.ok,I.os,I.bare,⟨fun b o e n hb hx=>?_,fun b o e n hb hx=>?_,I.base.free,fun b o e hx=>?_,I.base.tups,I.base.oU,I.base.rR⟩,⟨m,hn.sameBut hs (cM (Gx x c hc)),fun j y v' e1 e2 e3=>?_⟩,fun y c' e=>?_,I.free,I.lR,fun p hp=>?_,tracked ⟨oc,hoc,I.lR x c hc⟩ hs,by simpa using I.len⟩ ⟨c,hs, .inr hc⟩
   . exact (hs.2 b (eU (jT (bM e) (I.ok.fK x c hfn hc)))).trans (I.base.keep b o e n hb hx)
   . obtain ⟨sl,e1⟩:=I.base.slot b o e n hb hx
     exact ⟨sl,(hs.2 b (eU (jT (bM e) (I.ok.fK x c hfn hc)))).trans e1⟩
   . obtain ⟨o',e1⟩:=I.base.there b o e hx
     exact ⟨o',(hs.2 b (eU (jT (bM e) (I.ok.fK x c hfn hc)))).trans e1⟩
   . by_cases hj:j=i
     . subst hj
       rw [hi] at e1;cases e1
       rw [oQ Z0] at e2
       cases e2
       exact ⟨u,r, .inr ⟨.inl hk,c,hc,hc'⟩⟩
     . rw [xq (cM hj)] at e2
       obtain ⟨u',r',q⟩:=hl j y v' e1 e2 e3
       refine ⟨u',r',?_⟩
       rcases q with q|⟨k,c',e,z'⟩
       . exact .inl q
       . refine .inr ⟨k,c',e,z'.sameBut hs ?_⟩
         rintro rfl
         exact hj (vH hN e1 (I.ok.inj _ _ _ e hc▸hi))
   . by_cases hcc:c'=c
     . subst hcc;exact ⟨_,hc'⟩
     . obtain ⟨w2,z2⟩:=I.cell y c' e
       exact ⟨w2,z2.sameBut hs hcc⟩
   . obtain ⟨e,n,ne,nf,d⟩:=I.pin p hp
     refine ⟨(hs.2 p.1 ?_).trans e,n,ne,nf,d⟩
     intro q
     rw [q,hoc] at e
     have q':oc=p.2:=gq e
     exact d w' (by rw [<-q'];exact abY)
theorem vI {A:Around} {v:V} (I:Inv X pins σ H s) (hN:X.N.Nodup) (hi:X.N[i]?=some x) (hx:Loc X.env.scope x) (r:RelV v u)
  (h:∀s',Inv X pins (σ.set i (some v)) H s'->Q () s') (hf:X.fn x=true\/X.env.scope.names.lookup x=some .local:=by first|exact .inl rfl|exact .inr rfl|assumption):wpAny M A (storeName X.env x u) Q E s:=
 DQ I hN hi hx r (fun s' I' _=>h s' I') hf
theorem Inv.ML {s':Shared} (I:Inv X pins σ H s) (ho:s'.os=s.os) (u:Un (frs X.stack) ch H H' s.heap s'.heap) (hok:gr X.prog X.w H' s'.heap) (hg:AllBare s'.gens)
  (hch:∀b∈ch,(b∈X.ex\/X.s₀.heap.objs.size<=b)/\b≠X.env.locals/\(∀x c,X.env.cells.lookup x=some c->c≠b)/\∀p∈X.pn++pins,p.1≠b):Inv X pins σ H' s':=by
 obtain ⟨h',g',d',t',o'⟩:=s'
 have e:o'=s.os:=ho
 subst e
 exact I.call (g':=g') (t':=t') (d':=d') u hok hg hch
end
abbrev XK:=Value->Option Addr->Hp->Prop
abbrev St:=List (Option V)
abbrev VK:=V->Hp->Prop
abbrev TE:=St->Hp->VK->Prop
abbrev TT:=St->Hp->(Bool->Hp->Prop)->Prop
abbrev TA:=St->Hp->(List V->Hp->Prop)->Prop
structure Ends where
 nx:St->Hp->Prop
 rt:VK
 bk:St->Hp->Prop:=fun _ _=>False
 ct:St->Hp->Prop:=fun _ _=>False
abbrev TS:=Ends->St->Hp->Prop
def EP (X:Cx) (pins:AO) (σ:St) (Q:VK) (u:Value) (s':Shared):Prop:=∃v H',Inv X pins σ H' s'/\RelV v u/\Q v H'
def TP (X:Cx) (pins:AO) (σ:St) (Q:Bool->Hp->Prop) (b:Bool) (s':Shared):Prop:=∃H',Inv X pins σ H' s'/\Q b H'
def AP (X:Cx) (pins:AO) (σ:St) (Q:List V->Hp->Prop) (us:List Value) (s':Shared):Prop:=∃vs H',Inv X pins σ H' s'/\Vals vs us/\Q vs H'
def SP (X:Cx) (pins:AO) (D:Ends) (f:Flow) (s':Shared):Prop:=
 match f with
 | .next=>∃σ' H',Inv X pins σ' H' s'/\D.nx σ' H'
 | .brk=>∃σ' H',Inv X pins σ' H' s'/\D.bk σ' H'
 | .cont=>∃σ' H',Inv X pins σ' H' s'/\D.ct σ' H'
 | .ret u=>∃v σ' H',Inv X pins σ' H' s'/\RelV v u/\D.rt v H'
def PE (X:Cx) (e:Expr) (t:TE):Prop:=
 ∀(pins:AO) (s:Shared) (σ:St) (H:Hp) (Q:VK),Inv X pins σ H s->t σ H Q->wpAny (model X.prog X.w) X.A (eval e X.env) (EP X pins σ Q) X.xe s
def PT (X:Cx) (e:Expr) (t:TT):Prop:=
 ∀(pins:AO) (s:Shared) (σ:St) (H:Hp) (Q:Bool->Hp->Prop),Inv X pins σ H s->t σ H Q->wpAny (model X.prog X.w) X.A (isTrue e X.env (eval e X.env)) (TP X pins σ Q) X.xe s
def PW (X:Cx) (e:Expr) (t:TT):Prop:=
 ∀(whole:Sem Value) (pins:AO) (s:Shared) (σ:St) (H:Hp) (Q:Bool->Hp->Prop),Inv X pins σ H s->t σ H Q->wpAny (model X.prog X.w) X.A (isTrue e X.env whole) (TP X pins σ Q) X.xe s
variable {X:Cx} {e:Expr}
theorem PW.pt {t:TT} (h:PW X e t):PT X e t:=h _
def PA (X:Cx) (es:List Expr) (t:TA):Prop:=
 ∀(pos:Pos) (pins:AO) (s:Shared) (σ:St) (H:Hp) (Q:List V->Hp->Prop),Inv X pins σ H s->t σ H Q->wpAny (model X.prog X.w) X.A (spliced (backTo pos (starEach es X.env))) (AP X pins σ Q) X.xe s
def PS (X:Cx) (st:Stmt) (t:TS):Prop:=
 ∀(pins:AO) (s:Shared) (σ:St) (H:Hp) (D:Ends),Inv X pins σ H s->t D σ H->wpAny (model X.prog X.w) X.A (exec st X.env) (SP X pins D) X.xe s
def oH (X:Cx) (st:List Stmt) (t:TS):Prop:=
 ∀(pins:AO) (s:Shared) (σ:St) (H:Hp) (D:Ends),Inv X pins σ H s->t D σ H->wpAny (model X.prog X.w) X.A (execs st X.env) (SP X pins D) X.xe s
variable {s:Shared}
theorem bg {α:Type} {t:Sem α} {Q Q':α->Shared->Prop} {A:Around} (h:wpAny M A t Q E s) (hQ:∀a s,Q a s->Q' a s):wpAny M A t Q' E s:=iU h hQ fun _ _ x=>x
variable {pos:Pos} {pins:AO} {σ:St}
section
variable {X:Cx}
inductive MM (i:Nat) (σ:St) (H:Hp) (Q:VK):Prop
 | mk  (v:_) (_:σ[i]?=some (some v)) (_:Q v H)
def tC (v:V):TE:=fun _ H Q=>Q v H
theorem Vv (hN:X.N[i]?=some x) (hv:Sv X.env.scope x) (hd:(x==("__debug__":Str))=false:=by decide) (hcd:(x==("__classdict__":Str))=false:=by decide):PE X (.Name x pos) (MM i):=by
 intro pins s σ H Q I h
 obtain ⟨v,e,h⟩:=h
 obtain ⟨m,hn,hl⟩:=I.loc
 obtain ⟨u,r,l⟩:=hl i x v hN e hv
 have fin:EP X pins σ Q u s:=⟨v,H,I,r,h⟩
 rcases l with ⟨hk,hm⟩|⟨hk,c,hc,hcell⟩
 . exact wpAny_Name (wpAny_loadName_local I.ok.kind hk hn hm fin) hd
 . rcases hk with hk|hk
   . exact wpAny_Name (wpAny_loadName_cell I.ok.kind hk hc hcell fin) hd
   . exact wpAny_Name (wpAny_loadName_free I.ok.kind hk hc hcell fin hcd) hd
theorem Of {x j pos}:PE X (.Constant (.str x) j pos) (tC (.str x)):=fun _ _ _ H _ I h=>Calls.Constant_str ⟨.str x,H,I.tok _,⟨_,Z⟩,h⟩
def Gl (X:Cx) (x:Str):Prop:=X.env.kindOf x=some .globalImplicit
theorem uV {Q:VS} (I:Inv X pins σ H s) (hg:Gl X x) (hm:X.mg x=some u) (h:Q u s)
  (hd:(x==("__debug__":Str))=false:=by decide):wpAny (model X.prog X.w) X.A (eval (.Name x pos) X.env) Q E s:=
 Calls.Name_function_global I.ok.kind hg (Calls.loadGlobal_global (by rw [I.ok.glob];exact I.mod.glob.keeps I.bk) hm h) hd
theorem uW {Q:VS} (I:Inv X pins σ H s) (hg:Gl X x) (hm:X.mg x=none) (hv:bootBuiltins x=some u) (h:Q u s)
  (hn:x ≠ "__name__":=by decide) (hd:(x==("__debug__":Str))=false:=by decide):wpAny (model X.prog X.w) X.A (eval (.Name x pos) X.env) Q E s:=by
 obtain ⟨mb,h1,h2⟩:=I.mod.blt
 exact Calls.Name_function_global I.ok.kind hg (Calls.loadGlobal_builtin (by rw [I.ok.glob];exact I.mod.glob.keeps I.bk) hm (by rw [I.ok.blt];exact h1.keeps I.bk) ((h2 x hn).trans hv) h) hd
variable {a b:Expr} {ta tb:TE} {pos:Pos}
def PC (X:Cx) (op:CmpOp) (a b:Expr) (t:TE):Prop:=
 ∀(pins:AO) (s:Shared) (σ:St) (H:Hp) (Q:VK),Inv X pins σ H s->t σ H Q->
  wpAny (model X.prog X.w) X.A (eval a X.env) (fun v s₁=>wpAny (model X.prog X.w) X.A (eval b X.env) (fun u s₂=>wpAny (model X.prog X.w) X.A (compareOp op v u) (EP X pins σ Q) X.xe s₂) X.xe s₁) X.xe s
inductive yTB (Q:Bool->Hp->Prop) (x:V) (H1:Hp):Prop
 | mk  (c:_) (_:x = .bl c) (_:Q c H1)
def tB (t:TE):TT:=fun σ H Q=>t σ H (yTB Q)
variable {tA Sy:TT} {rest:List Expr}
def YK (u:TT) (σ:St) (Q:Bool->Hp->Prop):Bool->Hp->Prop:=fun c H1=>if c=true then u σ H1 Q else Q false H1
def abZ (t u:TT):TT:=fun σ H Q=>t σ H (YK u σ Q)
def ab0 (u:TT) (σ:St) (Q:Bool->Hp->Prop):Bool->Hp->Prop:=fun c H1=>if c=true then Q true H1 else u σ H1 Q
def Z1 (t u:TT):TT:=fun σ H Q=>t σ H (ab0 u σ Q)
abbrev YL (Q:Bool->Hp->Prop):Bool->Hp->Prop:=fun c H1=>Q (!c) H1
def ab1 (t:TT):TT:=fun σ H Q=>t σ H (YL Q)
inductive Vw (tb:TE) (σ:St) (Q:VK) (x:V) (H1:Hp):Prop
 | mk  (c:_) (_:x = .bl c) (_:if c=true then tb σ H1 Q else Q (.bl false) H1)
def YM (ta tb:TE):TE:=fun σ H Q=>ta σ H (Vw tb σ Q)
end
def aH (K:Fg) (H:Hp) (a:Addr) (xs:List V):Prop:=
 Rd H a (.lst xs)\/
  ∃(o:Obj) (its:Array Value) (n:Nat),K.lookup a=some o/\o.cls = .type "list"/\o.dict=none/\o.data = .seq its n/\its.size<=sizeLine/\Vals xs its.toList
def cQ (K:Fg) (H:Hp) (a:Addr) (xs:List V):Prop:=
 Rd H a (.tup xs)\/
  ∃(o:Obj) (its:Array Value) (n:Nat),K.lookup a=some o/\o.cls = .type "tuple"/\o.data = .seq its n/\its.size<=sizeLine/\Vals xs its.toList
def ab2:Value->Option V
 | .none=>some .bU
 | .bool b=>some (.bl b)
 | .int i _=>some (.int i)
 | .str x _=>some (.str x)
 | .bytes b _=>some (.wU b)
 | .float b _=>some (.Ss b)
 | .ref a=>some (.ref a)
 | .type n=>some (.ty n)
 | _=>none
theorem RelV.abs {x:V} (r:RelV x u):ab2 u=some x:=by
 cases x with
 | bU=>cases r;rfl
 | bl _=>cases r;rfl
 | int _=>obtain ⟨t,rfl⟩:=r;rfl
 | str _=>obtain ⟨t,rfl⟩:=r;rfl
 | wU _=>obtain ⟨t,rfl⟩:=r;rfl
 | Ss _=>obtain ⟨t,rfl⟩:=r;rfl
 | ref _=>cases r;rfl
 | ty _=>cases r;rfl
variable {y:V}
theorem RelV.inj {x:V} (r:RelV x u) (q:RelV y u):x=y:=gq (r.abs.symm.trans q.abs)
theorem Vals.inj:∀{xs ys:List V} {us:List Value},Vals xs us->Vals ys us->xs=ys
 | _,_,_, .nil, .nil=>rfl
 | _,_,_, .cons r t, .cons r' t'=>by rw [r.inj r',Vals.inj t t']
variable {K:Fg}
section
variable {X:Cx} {pins:AO} {σ:St} {H:Hp} {s:Shared} {a:Addr} {xs ys:List V}
theorem aH.of (h:H a=some (.lst xs)):aH K H a xs:= .inl (.inl h)
theorem cQ.of (h:H a=some (.tup xs)):cQ K H a xs:= .inl (.inl h)
theorem Inv.list (I:Inv X pins σ H s) (h:aH X.K H a xs):∃its:List Value,Vals xs its/\PlainL s.heap a its.toArray/\xs.length<=sizeLine:=by
 rcases h with h|⟨o,its,n,hk,hc,hd,hs,hz,r⟩
 . obtain ⟨z,its,n,r,e⟩:=h.ok I.hok
   exact ⟨its,r,⟨_,n,e,Z,Z,Z⟩,z⟩
 . refine ⟨its.toList,r,⟨o,n,I.qY a o hk,hc,hd,by simpa using hs⟩,?_⟩
   have e:=r.length
   simp only [Array.length_toList] at e
   omega
theorem Inv.tuple (I:Inv X pins σ H s) (h:cQ X.K H a xs):∃its:List Value,Vals xs its/\IsTup s.heap a its.toArray/\xs.length<=sizeLine:=by
 rcases h with h|⟨o,its,n,hk,hc,hs,hz,r⟩
 . obtain ⟨z,its,r,p⟩:=h.ok I.hok
   exact ⟨its,r,p,z⟩
 . refine ⟨its.toList,r,⟨o,I.qY a o hk,hc,n,by simpa using hs⟩,?_⟩
   have e:=r.length
   simp only [Array.length_toList] at e
   omega
theorem Inv.QL (I:Inv X pins σ H s) (h:aH X.K H a xs) (h':aH X.K H a ys):xs=ys:=by
 obtain ⟨its,r,⟨o,n,e,_,_,d⟩,_⟩:=I.list h
 obtain ⟨its',r',⟨o',n',e',_,_,d'⟩,_⟩:=I.list h'
 rw [e] at e';cases e'
 rw [d] at d'
 injection d' with d1 _
 have:its=its':=by simpa using jY Array.toList d1
 subst this
 exact r.inj r'
end
abbrev Cx.uA (X:Cx) (E:VS):Cx:={ X with xe:=E }
abbrev Cx.zm (X:Cx):Cx:=X.uA fun _ _=>False
theorem Cx.Ok.uA (ok:X.Ok) (E:VS):(X.uA E).Ok:=
 ⟨ok.mod,ok.kind,ok.glob,ok.blt,ok.above,ok.inj,ok.has,ok.fK,ok.hd,ok.frames,ok.stk,ok.Li,ok.bs,ok.DP,ok.Gv,ok.CK,ok.m_,ok.Gw⟩
theorem Cx.Ok.qi (ok:(X.uA E).Ok):X.Ok:=
 ⟨ok.mod,ok.kind,ok.glob,ok.blt,ok.above,ok.inj,ok.has,ok.fK,ok.hd,ok.frames,ok.stk,ok.Li,ok.bs,ok.DP,ok.Gv,ok.CK,ok.m_,ok.Gw⟩
variable {D:Ends}
section
variable {X:Cx} {pins:AO} {σ:St} {H:Hp} {s:Shared} {E:VS}
theorem Inv.uA (I:Inv X pins σ H s) (E:VS):Inv (X.uA E) pins σ H s:=⟨I.ok.uA E,I.os,I.bare,I.base,I.loc,I.cell,I.free,I.lR,I.pin,I.hok,I.len⟩
theorem Inv.qi (I:Inv (X.uA E) pins σ H s):Inv X pins σ H s:=⟨I.ok.qi,I.os,I.bare,I.base,I.loc,I.cell,I.free,I.lR,I.pin,I.hok,I.len⟩
theorem SP.qi {f:Flow} (h:SP (X.uA E) pins D f s'):SP X pins D f s':=by
 cases f with
 | next=>obtain ⟨σ',H',I,q⟩:=h;exact ⟨σ',H',I.qi,q⟩
 | brk=>obtain ⟨σ',H',I,q⟩:=h;exact ⟨σ',H',I.qi,q⟩
 | cont=>obtain ⟨σ',H',I,q⟩:=h;exact ⟨σ',H',I.qi,q⟩
 | ret u=>obtain ⟨v,σ',H',I,r,q⟩:=h;exact ⟨v,σ',H',I.qi,r,q⟩
theorem oH.zm {st:List Stmt} {t:TS} (h:oH X.zm st t):oH X st t:=fun pins s σ H D I hw=>
 iU (h pins s σ H D (I.uA _) hw) (fun _ _ q=>q.qi) fun _ _ z=>False.elim z
end
variable {tc:TT}
section
variable {X:Cx} {st:Stmt} {rest:List Stmt} {t u:TS} {e:Expr} {te:TE} {pos:Pos}
def YN:TS:=fun D σ H=>D.nx σ H
def Ends.sq (D:Ends) (u:TS):Ends:={ D with nx:=u D }
def Ends.lp (D:Ends) (N:St->Hp->Prop):Ends:={ D with nx:=N,ct:=N,bk:=D.nx }
def vJ (t u:TS):TS:=fun D σ H=>t (D.sq u) σ H
theorem Inv.quiet (I:Inv X pins σ H s):interactive X.env=false:=by simp [interactive,I.ok.kind]
def Vx (D:Ends) (σ:St):V->Hp->Prop:=fun _ H1=>D.nx σ H1
def YO (te:TE):TS:=fun D σ H=>te σ H (Vx D σ)
def ab3 (te:TE):TS:=fun D σ H=>te σ H D.rt
def YQ:TS:=fun D _ H=>D.rt .bU H
def YR (t:TS) (u:TS) (D:Ends) (σ:St):Bool->Hp->Prop:=fun b H1=>if b=true then t D σ H1 else u D σ H1
def Vy (c:TT) (t u:TS):TS:=fun D σ H=>c σ H (YR t u D σ)
theorem SA {c:Expr} {a b:List Stmt} (hc:PT X c tc) (ha:oH X a t) (hb:oH X b u):PS X (.If c a b pos) (Vy tc t u):=by
 intro pins s σ H D I h
 refine wpAny_If (bg (hc pins s σ H _ I h) fun d s1 ⟨H1,I1,q1⟩=>?_)
 cases d with
 | true=>exact ha pins s1 σ H1 D I1 q1
 | false=>exact hb pins s1 σ H1 D I1 q1
def Vz:TS:=fun _ _ _=>False
end
abbrev TG:=V->St->Hp->(St->Hp->Prop)->Prop
abbrev AL:=List V->St->Hp->(St->Hp->Prop)->Prop
def PG (X:Cx) (target:Expr) (t:TG):Prop:=
 ∀(pins:AO) (s:Shared) (σ:St) (H:Hp) (v:V) (u:Value) (Q:St->Hp->Prop),Inv X pins σ H s->RelV v u->t v σ H Q->
  wpAny (model X.prog X.w) X.A (assign target X.env u) (fun _ s'=>∃σ' H',Inv X pins σ' H' s'/\Q σ' H') X.xe s
def Z2 (X:Cx) (ts:List Expr) (t:AL):Prop:=
 ∀(pins:AO) (s:Shared) (σ:St) (H:Hp) (vs:List V) (us:List Value) (Q:St->Hp->Prop),Inv X pins σ H s->Vals vs us->t vs σ H Q->
  wpAny (model X.prog X.w) X.A (assignInOrder ((assignEach ts X.env).map (·.2)) us) (fun _ s'=>∃σ' H',Inv X pins σ' H' s'/\Q σ' H') X.xe s
abbrev qF:=V->V->V->Hp->(Hp->Prop)->Prop
def QM (X:Cx) (t:qF):Prop:=
 ∀(pins:AO) (s:Shared) (σ:St) (H:Hp) (o i v:V) (ov iv u:Value) (Q:Hp->Prop),Inv X pins σ H s->RelV o ov->RelV i iv->RelV v u->t o i v H Q->
  wpAny (model X.prog X.w) X.A (setItem ov iv u) (fun _ s'=>∃H',Inv X pins σ H' s'/\Q H') X.xe s
abbrev Gz:=V->V->Hp->VK->Prop
def VA (X:Cx) (op:Operator) (t:Gz):Prop:=
 ∀(pins:AO) (s:Shared) (σ:St) (H:Hp) (x y:V) (v u:Value) (Q:VK),Inv X pins σ H s->RelV x v->RelV y u->t x y H Q->
  wpAny (model X.prog X.w) X.A (inplaceOp op v u) (EP X pins σ Q) X.xe s
section
variable {X:Cx} {pos:Pos}
def pX (i:Nat):TG:=fun v σ H Q=>Q (σ.set i (some v)) H
inductive VB (vs:List V) (σ:St) (H:Hp) (Q:St->Hp->Prop):Prop
 | mk  (_:vs=[]) (_:Q σ H)
def VC (u:AL) (Q:St->Hp->Prop) (r:List V):St->Hp->Prop:=fun σ' H'=>u r σ' H' Q
inductive SD (t:TG) (u:AL) (vs:List V) (σ:St) (H:Hp) (Q:St->Hp->Prop):Prop
 | mk  (v r:_) (_:vs=v::r) (_:t v σ H (VC u Q r))
inductive zP (K:Fg) (n:Nat) (t:AL) (v:V) (σ:St) (H:Hp) (Q:St->Hp->Prop):Prop
 | mk  (a xs:_) (_:v = .ref a) (_:cQ K H a xs) (_:xs.length=n) (_:t xs σ H Q)
theorem VD {es:List Expr} {k:Nat} {t:AL} {n:Nat} (hc:X.calm=true) (h:Z2 X es t)
  (hn:(assignEach es X.env).length=n:=by rfl) (hst:(assignEach es X.env).findIdx? (·.1)=none:=by rfl):PG X (.Tuple es k pos) (zP X.K n t):=by
 intro pins s σ H v u Q I r hw
 obtain ⟨a,xs,e1,hq,hl,hw⟩:=hw
 subst e1
 cases r
 obtain ⟨its,rv,ht,hz⟩:=I.tuple hq
 refine assign_Tuple_tuple (I.ok.hd hc) ht (by simp [hn,<-hl,rv.length]) hst fun h' hx=>?_
 have I1:Inv X pins σ H { s with heap:=h' }:=I.kept (t':=s.toks) fun b o e=>hx b o (eU (bM e)) e
 exact h pins _ σ H xs _ Q I1 (by simpa using rv) hw
def TZ (σ:St) (Q:St->Hp->Prop):Hp->Prop:=fun H3=>Q σ H3
def T3 (t:qF) (v:V) (σ:St) (Q:St->Hp->Prop) (o:V):V->Hp->Prop:=fun i H2=>t o i v H2 (TZ σ Q)
def YS (ti:TE) (t:qF) (v:V) (σ:St) (Q:St->Hp->Prop):V->Hp->Prop:=fun o H1=>ti σ H1 (T3 t v σ Q o)
def ab4 (to ti:TE) (t:qF):TG:=fun v σ H Q=>to σ H (YS ti t v σ Q)
def YT (g:TG) (D:Ends) (σ:St):V->Hp->Prop:=fun x H1=>g x σ H1 D.nx
def QN (te:TE) (g:TG):TS:=fun D σ H=>te σ H (YT g D σ)
inductive YU (i:Nat) (j:Nat) (D:Ends) (σ:St) (vs:List V) (H1:Hp):Prop
 | mk  (v w:_) (_:vs=[v,w]) (_:D.nx ((σ.set i (some v)).set j (some w)) H1)
def ab5 (i j:Nat) (ta:TA):TS:=fun D σ H=>ta σ H (YU i j D σ)
def QO (D:Ends) (σ:St):Hp->Prop:=fun H6=>D.nx σ H6
def QS (nc:qF) (D:Ends) (σ:St) (o:V) (i:V):V->Hp->Prop:=fun z H5=>nc o i z H5 (QO D σ)
def QT (wV:Gz) (nc:qF) (D:Ends) (σ:St) (o:V) (i:V) (x:V):V->Hp->Prop:=fun y H4=>wV x y H4 (QS nc D σ o i)
def QU (te:TE) (wV:Gz) (nc:qF) (D:Ends) (σ:St) (o:V) (i:V):V->Hp->Prop:=fun x H3=>te σ H3 (QT wV nc D σ o i x)
def QV (te:TE) (xx:V->V->Hp->VK->Prop) (wV:Gz) (nc:qF) (D:Ends) (σ:St) (o:V):V->Hp->Prop:=fun i H2=>xx o i H2 (QU te wV nc D σ o i)
def VE (ti:TE) (te:TE) (xx:V->V->Hp->VK->Prop) (wV:Gz) (nc:qF) (D:Ends) (σ:St):V->Hp->Prop:=fun o H1=>ti σ H1 (QV te xx wV nc D σ o)
def YV (to ti te:TE) (xx:V->V->Hp->VK->Prop) (wV:Gz) (nc:qF):TS:=fun D σ H=>to σ H (VE ti te xx wV nc D σ)
def VF (X:Cx) (t:V->V->Hp->VK->Prop):Prop:=
 ∀(pins:AO) (s:Shared) (σ:St) (H:Hp) (o i:V) (ov iv:Value) (Q:VK),Inv X pins σ H s->RelV o ov->RelV i iv->t o i H Q->
  wpAny (model X.prog X.w) X.A (getItem ov iv) (EP X pins σ Q) X.xe s
inductive Z3 (f:Int->Int->Int) (x:V) (y:V) (H:Hp) (Q:VK):Prop
 | mk  (i j:_) (_:x = .int i) (_:y = .int j) (_:Q (.int (f i j)) H)
theorem VG:VA X .Add (Z3 fun i j=>i+j):=by
 intro pins s σ H x y v u Q I r1 r2 h
 obtain ⟨i,j,e1,e2,q⟩:=h
 subst e1;subst e2
 obtain ⟨t,rfl⟩:=r1
 obtain ⟨t',rfl⟩:=r2
 exact iadd_int ⟨.int _,H,I.tok _,⟨_,Z⟩,q⟩
theorem VH:VA X .Sub (Z3 fun i j=>i-j):=by
 intro pins s σ H x y v u Q I r1 r2 h
 obtain ⟨i,j,e1,e2,q⟩:=h
 subst e1;subst e2
 obtain ⟨t,rfl⟩:=r1
 obtain ⟨t',rfl⟩:=r2
 exact isub_int ⟨.int _,H,I.tok _,⟨_,Z⟩,q⟩
end
section
variable {X:Cx} {pos:Pos}
def VI (c:TT) (tb:TS):TS:=fun D σ H=>∃W:Nat->St->Hp->Prop,(∃m,W m σ H)/\∀m σ H,W m σ H->
 c σ H fun b H1=>if b=true then ∃N:St->Hp->Prop,(∀σ' H',N σ' H'->∃m',m'<m/\W m' σ' H')/\tb { D with nx:=N,ct:=N,bk:=D.nx } σ H1 else D.nx σ H1
end
structure It where
 go:Nat->Hp->Prop
 AM:Nat->Hp->V->Hp->Prop
 stop:Nat->Hp->Prop
def ng (X:Cx) (pins:AO) (H:Hp) (b:Addr):Prop:=
 H b=none/\b≠X.env.locals/\b∉X.fs/\(b∈X.ex\/X.s₀.heap.objs.size<=b)/\(∀x c,X.env.cells.lookup x=some c->c≠b)/\∀p∈X.pn++pins,p.1≠b
variable {H':Hp}
theorem Inv.zQ (I:Inv X pins σ H s) (hb:s.heap.objs.size<=b) (hn:H' b=none):ng X pins H' b:=by
 refine ⟨hn,yJ (jT I.lt hb),I.abX hb, .inr (fP I.sz hb),fun x c e z=>?_,fun p hp z=>?_⟩
 . obtain ⟨v,q⟩:=I.cell x c e
   exact absurd (jT q.lt (by rw [z];exact hb)) (jf _)
 . exact absurd (jT (bM (I.pin p hp).1) (by rw [z];exact hb)) (jf _)
structure Turn (P:Program) (w:World) (K:Fg) (tg:Expr) (J:It) (fp:List Addr) (it:Addr) (tn:Nat->Heap->Prop):Prop where
 mem:it∈fp
 obj:∀i h,tn i h->∀b∈fp,∃o,h.get? b=some o/\∀v,o.data ≠ .cell v
 keep:∀i h h',tn i h->(∀b∈fp,∀o,h.get? b=some o->h'.get? b=some o)->tn i h'
 item:∀(X:Cx),X.prog=P->X.w=w->X.K=K->X.calm=true->∀(i:Nat) (pins:AO) (s:Shared) (σ:St) (H:Hp) (E:VS),Inv X pins σ H s->(∀b∈fp,ng X pins H b)->tn i s.heap->J.go i H->
  wpAny (model P w) X.A (pyNext (.ref it)) (fun r s1=>∃u,r=some u/\
   wpAny (model P w) X.A (letOwnedTupleGo tg (.ref it) u) (fun _ s2=>∃x H',Inv X pins σ H' s2/\RelV x u/\J.AM i H x H'/\tn (i+1) s2.heap/\∀b∈fp,H' b=none) E s1) E s
 done:∀(X:Cx),X.prog=P->X.w=w->X.K=K->X.calm=true->∀(i:Nat) (pins:AO) (s:Shared) (σ:St) (H:Hp) (E:VS),Inv X pins σ H s->(∀b∈fp,ng X pins H b)->tn i s.heap->J.stop i H->
  wpAny (model P w) X.A (pyNext (.ref it)) (fun r s1=>r=none/\Inv X pins σ H s1) E s
 self:∀(A:Around) (i:Nat) (s:Shared) (Q:VS) (E:VS),tn i s.heap->Q (.ref it) s->wpAny (model P w) A (pyIter (.ref it)) Q E s
abbrev TI:=St->Hp->(It->Hp->Prop)->Prop
def Z4 (X:Cx) (pins:AO) (σ:St) (tg:Expr) (R:It->Hp->Prop) (itv:Value) (s2:Shared):Prop:=
 ∃(it:Addr) (fp:List Addr) (tn:Nat->Heap->Prop) (J:It) (H':Hp),itv = .ref it/\Inv X pins σ H' s2/\Turn X.prog X.w X.K tg J fp it tn/\tn 0 s2.heap/\(∀b∈fp,ng X pins H' b)/\R J H'
def PI (X:Cx) (tg iter:Expr) (wi:TI):Prop:=
 ∀(pins:AO) (s:Shared) (σ:St) (H:Hp) (R:It->Hp->Prop),Inv X pins σ H s->wi σ H R->
  wpAny (model X.prog X.w) X.A (eval iter X.env) (fun v s1=>wpAny (model X.prog X.w) X.A (pyIter v) (Z4 X pins σ tg R) X.xe s1) X.xe s
variable {tg:Expr}
theorem yM {A:Around} {o:Obj} {n:String} {vs:Array Value} (ho:s.heap.get? it=some o) (hc:o.cls = .type n) (hd:o.data = .fields vs)
  (hn:["enumerate","zip","dict_itemiterator","dict_reverseitemiterator","odict_iterator","itertools.zip_longest","itertools.pairwise"].contains n=false) (hQ:Q () s):wpAny M A (letOwnedTupleGo tg (.ref it) u) Q E s:=by
 unfold letOwnedTupleGo
 cases tg <;> first
  | exact aU hQ
  | (cases u <;> first
      | exact aU hQ
      | (refine az (wpAny_load ho ?_)
         rw [hc,hd]
         show wpAny M A (if (["enumerate","zip","dict_itemiterator","dict_reverseitemiterator","odict_iterator","itertools.zip_longest","itertools.pairwise"].contains n && vs[0]?==some (rawInt _))=true then _ else _) Q E s
         rw [aA (by intro h;rw [hn,Bool.false_and] at h;cases h)]
         exact aU hQ))
def tX (K:Fg) (a:Addr):It:=
 ⟨fun i H=>∃xs x,aH K H a xs/\xs[i]?=some x,fun i H x H'=>H'=H/\∀xs,aH K H a xs->xs[i]?=some x,fun i H=>∃xs,aH K H a xs/\xs.length<=i⟩
def SE (lo:Int) (n:Nat):It:=⟨fun i _=>i<n,fun i H x H'=>H'=H/\x = .int (lo+i),fun i _=>n<=i⟩
theorem Og {w:World} (a it:Addr):Turn P w K tg (tX K a) [it] it (fun i h=>h.IsListIter it a i) where
 mem:=by simp
 obj:=fun i h st b hb=>by
  have e:b=it:=by simpa using hb
  subst e
  obtain ⟨o,e,c,d⟩:=st
  exact ⟨o,e,fun v z=>by rw [d] at z;cases z⟩
 keep:=fun i h h' st k=>st.at fun o e=>k it (by simp) o e
 item:=by
  intro X hP hw hK hc i pins s σ H E I hf st hg
  subst hP hw hK
  obtain ⟨xs,x,hq,hx⟩:=hg
  obtain ⟨its,rv,p,hz⟩:=I.list hq
  obtain ⟨u,hu,ru⟩:=rv.get hx
  obtain ⟨f0,f1,f2,f3,f4,f5⟩:=hf it (by simp)
  refine wpAny_pyNext_list_item st p.isList (x:=u) (by simpa using hu) fun h' st' sb=>?_
  have I1:Inv X pins σ H { s with heap:=h' }:=I.turned (t':=s.toks) (fun b o hb e=>(sb.2 b hb).trans e) f0 f1 f3 f4 f5
  obtain ⟨o,e,c,d⟩:=id st'
  exact ⟨u,Z,yM (s:={ s with heap:=h' }) e c d (by decide) ⟨x,H,I1,ru,⟨Z,fun ys hy=>by rw [I.QL hy hq];exact hx⟩,st',fun b hb=>(hf b hb).1⟩⟩
 done:=by
  intro X hP hw hK hc i pins s σ H E I hf st hg
  subst hP hw hK
  obtain ⟨xs,hq,hx⟩:=hg
  obtain ⟨its,rv,p,hz⟩:=I.list hq
  obtain ⟨f0,f1,f2,f3,f4,f5⟩:=hf it (by simp)
  have hl:=rv.length
  exact wpAny_pyNext_list_end (I.ok.hd hc) st p.isList (by simp;omega) fun h' eb=>⟨Z,I.turned (t':=s.toks) (fun b o hb e=>eb b o hb e) f0 f1 f3 f4 f5⟩
 self:=fun _ _ _ _ _ st h=>wpAny_pyIter_listiter st h
theorem MN {w:World} (it:Addr) (lo:Int) (n:Nat):Turn P w K tg (SE lo n) [it] it (fun i h=>IsRangeIter h it (lo+(i:Nat)*1) ((n:Int)-(i:Nat)) 1) where
 mem:=by simp
 obj:=fun i h st b hb=>by
  have e:b=it:=by simpa using hb
  subst e
  exact ⟨_,st,fun v z=>by
   have z':Data.fields _=Data.cell v:=z
   cases z'⟩
 keep:=fun i h h' st k=>k it (by simp) _ st
 item:=by
  intro X hP hw hK hc i pins s σ H E I hf st hg
  subst hP hw hK
  obtain ⟨f0,f1,f2,f3,f4,f5⟩:=hf it (by simp)
  have W:=Walks.range (prog:=X.prog) (w:=X.w) (I.ok.hd hc) it lo 1 n
  refine W.item i s _ _ hg st fun v h' tk hv st' kk=>?_
  obtain ⟨t,rfl⟩:=hv
  have I1:Inv X pins σ H { s with heap:=h',toks:=tk }:=I.turned (fun b o hb e=>kk b o (by simpa using hb) e) f0 f1 f3 f4 f5
  refine ⟨_,Z,yM (s:={ s with heap:=h',toks:=tk }) (n:="range_iterator") st' rfl rfl (by decide) ⟨.int (lo+i),H,I1,⟨t,?_⟩,⟨Z,Z⟩,st',fun b hb=>(hf b hb).1⟩⟩
  rw [vE]
 done:=by
  intro X hP hw hK hc i pins s σ H E I hf st hg
  subst hP hw hK
  obtain ⟨f0,f1,f2,f3,f4,f5⟩:=hf it (by simp)
  exact wpAny_pyNext_range_end (I.ok.hd hc) st (by have:n<=i:=hg;omega) fun h' eb=>⟨Z,I.turned (t':=s.toks) (fun b o hb e=>eb b o hb e) f0 f1 f3 f4 f5⟩
 self:=fun _ _ _ _ _ st h=>wpAny_pyIter_rangeiter st h
variable {tl:TE} {fp:List Addr}
section
variable {X:Cx} {tg:Expr}
inductive VJ (K:Fg) (R:It->Hp->Prop) (x:V) (H1:Hp):Prop
 | mk  (a:_) (_:x = .ref a) (_:(∃xs,aH K H1 a xs)) (_:R (tX K a:_) H1)
def SG (K:Fg) (tl:TE):TI:=fun σ H R=>tl σ H (VJ K R)
theorem T4 {l:Expr} (hl:PE X l tl):PI X tg l (SG X.K tl):=by
 intro pins s σ H R I h
 refine bg (hl pins s σ H _ I h) fun v s1 ⟨x,H1,I1,r1,q1⟩=>?_
 obtain ⟨a,e,⟨xs,hq⟩,q⟩:=q1
 subst e
 cases r1
 obtain ⟨its,rv,p,hz⟩:=I1.list hq
 refine MD p.isList ?_
 refine ⟨s1.heap.objs.size,[s1.heap.objs.size],_,_,H1,Z,I1.kept (t':=s1.toks) fun b o e=>b7 _ e,Og a _,⟨_,dZ _ rfl,Z,Z⟩,fun b hb=>?_,q⟩
 have e:b=s1.heap.objs.size:=by simpa using hb
 subst e
 exact I1.zQ (aN _) (I1.hok.fresh (aN _))
theorem QW {R:It->Hp->Prop} {lo hi:Int} {t u v:Tok} {tk:Nat} (I:Inv X pins σ H s) (h1:-(2 ^ 62)<=lo) (h2:lo<2 ^ 62) (h3:-(2 ^ 62)<=hi) (h4:hi<2 ^ 62)
  (q:R (SE lo (hi-lo).toNat) H):wpAny (model X.prog X.w) X.A (pyIter (.ref s.heap.objs.size)) (Z4 X pins σ tg R) E { s with heap:=s.heap.push { cls:= .type "range",data:= .fields #[.int lo t, .int hi u, .int 1 v] },toks:=tk }:=by
 refine wpAny_pyIter_range (IsRange.new ..) (small_one h1 h2 h3 h4) ?_
 have I1:Inv X pins σ H { s with heap:=s.heap.push { cls:= .type "range",data:= .fields #[.int lo t, .int hi u, .int 1 v] },toks:=tk }:=I.kept fun b o e=>b7 _ e
 refine ⟨(s.heap.push { cls:= .type "range",data:= .fields #[.int lo t, .int hi u, .int 1 v] }).objs.size,[(s.heap.push { cls:= .type "range",data:= .fields #[.int lo t, .int hi u, .int 1 v] }).objs.size],_,_,H,Z,
  I1.kept (t':=tk) fun b o e=>b7 _ e,MN _ lo (hi-lo).toNat,?_,fun b hb=>?_,q⟩
 . have e1:lo+((0:Nat):Int)*1=lo:=by simp
   have e2:(((hi-lo).toNat:Nat):Int)-((0:Nat):Int)=Builtin.Range.rangeSize lo hi 1:=by rw [rangeSize_one];split <;> omega
   show IsRangeIter _ _ (lo+((0:Nat):Int)*1) ((((hi-lo).toNat:Nat):Int)-((0:Nat):Int)) 1
   rw [e1,e2]
   exact dZ _ rfl
 . have e:b=(s.heap.push { cls:= .type "range",data:= .fields #[.int lo t, .int hi u, .int 1 v] }).objs.size:=by simpa using hb
   subst e
   exact I1.zQ (aN _) (I1.hok.fresh (aN _))
inductive VL (R:It->Hp->Prop) (vs:List V) (H1:Hp):Prop
 | mk  (j:Int) (_:vs=[.int j]) (_:-(2 ^ 62)<=j) (_:j<2 ^ 62) (_:R (SE 0 j.toNat) H1)
def YW (ta:TA):TI:=fun σ H R=>ta σ H (VL R)
def AN (g:TG) (tb:TS) (D:Ends) (σ:St):It->Hp->Prop:=fun J H1=>∃W:Nat->Nat->St->Hp->Prop,(∃m,W 0 m σ H1)/\∀i m σ H,W i m σ H->
 (J.stop i H/\D.nx σ H)\/(J.go i H/\∃N:St->Hp->Prop,(∀σ' H',N σ' H'->∃m',m'<m/\W (i+1) m' σ' H')/\∀x H',J.AM i H x H'->g x σ H' (tb (D.lp N)))
def ab6 (wi:TI) (g:TG) (tb:TS):TS:=fun D σ H=>wi σ H (AN g tb D σ)
def AQ (fp:List Addr) (h:Heap):List (Addr×Obj):=fp.filterMap fun b=>(h.get? b).map fun o=>(b,o)
theorem iV {o:Obj} (hb:b∈fp) (e:h.get? b=some o):(b,o)∈AQ fp h:=Mz.mpr ⟨b,hb,by rw [e];rfl⟩
theorem Oh {p:Addr×Obj} (hp:p∈AQ fp h):p.1∈fp/\h.get? p.1=some p.2:=by
 obtain ⟨b,hb,e⟩:=Mz.mp hp
 cases q:h.get? b with
 | none=>rw [q] at e;cases e
 | some o=>
   rw [q] at e
   have e':(b,o)=p:=gq e
   subst e'
   exact ⟨hb,q⟩
theorem Inv.pinned (I:Inv X pins σ H s) (hf:∀b∈fp,ng X pins H b) (ho:∀b∈fp,∃o,s.heap.get? b=some o/\∀v,o.data ≠ .cell v):Inv X (pins++AQ fp s.heap) σ H s:=
 I.Lj fun p hp=>(fZ.mp hp).elim (fun z=>I.pin p (ja _ z)) fun z=>by
   obtain ⟨hb,e⟩:=Oh z
   obtain ⟨f0,f1,f2,_⟩:=hf p.1 hb
   obtain ⟨o,e',d⟩:=ho p.1 hb
   rw [e] at e';cases e'
   exact ⟨e,f0,f1,f2,d⟩
theorem Inv.oV {pl:AO} (I:Inv X (pins++pl) σ H s):Inv X pins σ H s:=I.Lj fun p hp=>I.pin p (ja _ (zM _ hp))
end
variable {tb:TS}
theorem l7 {g:TG} (Pv:Nat->St->Hp->Prop) (h0:Pv 0 σ H) (hl:∀i σ H,i<=xs.length->Pv i σ H->aH K H a xs)
  (hs:∀i x σ H,xs[i]?=some x->Pv i σ H->g x σ H (tb (D.lp (Pv (i+1))))) (hd:∀σ H,Pv xs.length σ H->D.nx σ H):
  AN g tb D σ (tX K a) H:=by
 refine ⟨fun i m σ H=>m=xs.length-i/\i<=xs.length/\Pv i σ H,⟨xs.length,by simp,gM _,h0⟩,?_⟩
 rintro i m σ H ⟨rfl,hi,p⟩
 have q:=hl i σ H hi p
 by_cases hlt:i<xs.length
 . refine .inr ⟨⟨xs,xs[i],q,by simp [hlt]⟩,Pv (i+1),fun σ' H' p'=>⟨xs.length-(i+1),by omega,Z,hlt,p'⟩,fun x H' y=>?_⟩
   obtain ⟨e,y⟩:=y
   subst e
   exact hs i x σ _ (y xs q) p
 . have e:i=xs.length:=by omega
   subst e
   exact .inl ⟨⟨xs,q,aN _⟩,hd σ H p⟩
theorem mP {lo:Int} {n:Nat} {g:TG} (Pv:Nat->St->Hp->Prop) (h0:Pv 0 σ H)
  (hs:∀i σ H,i<n->Pv i σ H->g (.int (lo+i)) σ H (tb (D.lp (Pv (i+1))))) (hd:∀σ H,Pv n σ H->D.nx σ H):
  AN g tb D σ (SE lo n) H:=by
 refine ⟨fun i m σ H=>m=n-i/\i<=n/\Pv i σ H,⟨n,by simp,gM _,h0⟩,?_⟩
 rintro i m σ H ⟨rfl,hi,p⟩
 by_cases hlt:i<n
 . refine .inr ⟨hlt,Pv (i+1),fun σ' H' p'=>⟨n-(i+1),by omega,Z,hlt,p'⟩,fun x H' y=>?_⟩
   obtain ⟨e,y⟩:=y
   subst e y
   exact hs i σ _ hlt p
 . have e:i=n:=by omega
   subst e
   exact .inl ⟨aN _,hd σ H p⟩
abbrev R2:=V->V->Hp->VK->Prop
def ji (X:Cx) (f:Value->Value->Sem Value) (r:R2):Prop:=
 ∀(pins:AO) (s:Shared) (σ:St) (H:Hp) (x y:V) (v u:Value) (Q:VK),Inv X pins σ H s->RelV x v->RelV y u->r x y H Q->
  wpAny (model X.prog X.w) X.A (f v u) (EP X pins σ Q) X.xe s
def VM (X:Cx) (f:Value->Sem Value) (r:V->Hp->VK->Prop):Prop:=
 ∀(pins:AO) (s:Shared) (σ:St) (H:Hp) (x:V) (v:Value) (Q:VK),Inv X pins σ H s->RelV x v->r x H Q->
  wpAny (model X.prog X.w) X.A (f v) (EP X pins σ Q) X.xe s
def iK (X:Cx) (f:Value) (r:List V->Hp->VK->Prop):Prop:=
 ∀(pins:AO) (s:Shared) (σ:St) (H:Hp) (xs:List V) (us:List Value) (Q:VK),Inv X pins σ H s->Vals xs us->r xs H Q->
  wpAny (model X.prog X.w) X.A (call f us) (EP X pins σ Q) X.xe s
def VN (r:R2) (Q:VK) (x:V):V->Hp->Prop:=fun y H2=>r x y H2 Q
def ab7 (r:R2) (tb:TE) (σ:St) (Q:VK):V->Hp->Prop:=fun x H1=>tb σ H1 (VN r Q x)
def Lk (r:R2) (ta tb:TE):TE:=fun σ H Q=>ta σ H (ab7 r tb σ Q)
def ab8 (r:V->Hp->VK->Prop) (Q:VK):V->Hp->Prop:=fun x H1=>r x H1 Q
def tUn (r:V->Hp->VK->Prop) (ta:TE):TE:=fun σ H Q=>ta σ H (ab8 r Q)
inductive rI (C:Int->Int->Prop) (g:Int->Int->V) (x:V) (y:V) (H:Hp) (Q:VK):Prop
 | mk  (i j:_) (_:x = .int i) (_:y = .int j) (_:C i j) (_:Q (g i j:_) H)
inductive zq (g:Int->Int->V) (x:V) (y:V) (H:Hp) (Q:VK):Prop
 | mk  (i j:_) (_:x = .int i) (_:y = .int j) (_:Q (g i j:_) H)
inductive rU (g:Int->V) (x:V) (H:Hp) (Q:VK):Prop
 | mk  (i:_) (_:x = .int i) (_:Q (g i:_) H)
section
variable {X:Cx} {a b c:Expr} {ta tb tc:TE} {pos:Pos}
theorem QX (ha:PE X a ta) (hb:PE X b tb) {R:V->V->Hp->Prop} (I:Inv X pins σ H s)
  (h:ta σ H fun x H1=>tb σ H1 fun y H2=>R x y H2) {Q:VS} {f:Value->Value->Sem Value}
  (hf:∀v u s2 x y H2,Inv X pins σ H2 s2->RelV x v->RelV y u->R x y H2->wpAny (model X.prog X.w) X.A (f v u) Q X.xe s2):
  wpAny (model X.prog X.w) X.A (eval a X.env) (fun v s₁=>wpAny (model X.prog X.w) X.A (eval b X.env) (fun u s₂=>wpAny (model X.prog X.w) X.A (f v u) Q X.xe s₂) X.xe s₁) X.xe s:=by
 refine bg (ha pins s σ H _ I h) fun v s1 ⟨x,H1,I1,r1,q1⟩=>?_
 refine bg (hb pins s1 σ H1 _ I1 q1) fun u s2 ⟨y,H2,I2,r2,q2⟩=>?_
 exact hf v u s2 x y H2 I2 r1 r2 q2
theorem Oi {f:Value->Value->Sem Value} {C:Int->Int->Prop} {g:Int->Int->Int}
  (rule:∀(i j:Int) (t u:Tok) (s:Shared) (Q:VS) (E:VS),C i j->Q (.int (g i j) s.toks) { s with toks:=s.toks+1 }->wpAny (model X.prog X.w) X.A (f (.int i t) (.int j u)) Q E s):
  ji X f (rI C fun i j=> .int (g i j)):=by
 intro pins s σ H x y v u Q I rx ry h
 obtain ⟨i,j,rfl,rfl,hc,q⟩:=h
 obtain ⟨t,rfl⟩:=rx
 obtain ⟨t',rfl⟩:=ry
 exact rule i j t t' s _ _ hc ⟨.int (g i j),H,I.tok _,⟨_,Z⟩,q⟩
theorem VO {f:Value->Value->Sem Value} {g:Int->Int->Int}
  (rule:∀(i j:Int) (t u:Tok) (s:Shared) (Q:VS) (E:VS),Q (.int (g i j) s.toks) { s with toks:=s.toks+1 }->wpAny (model X.prog X.w) X.A (f (.int i t) (.int j u)) Q E s):
  ji X f (zq fun i j=> .int (g i j)):=by
 intro pins s σ H x y v u Q I rx ry h
 obtain ⟨i,j,rfl,rfl,q⟩:=h
 obtain ⟨t,rfl⟩:=rx
 obtain ⟨t',rfl⟩:=ry
 exact rule i j t t' s _ _ ⟨.int (g i j),H,I.tok _,⟨_,Z⟩,q⟩
theorem MO {f:Value->Value->Sem Value} {g:Int->Int->Bool}
  (rule:∀(i j:Int) (t u:Tok) (s:Shared) (Q:VS) (E:VS),Q (.bool (g i j)) s->wpAny (model X.prog X.w) X.A (f (.int i t) (.int j u)) Q E s):
  ji X f (zq fun i j=> .bl (g i j)):=by
 intro pins s σ H x y v u Q I rx ry h
 obtain ⟨i,j,rfl,rfl,q⟩:=h
 obtain ⟨t,rfl⟩:=rx
 obtain ⟨t',rfl⟩:=ry
 exact rule i j t t' s _ _ ⟨.bl (g i j),H,I,Z,q⟩
def QY (i j:Int):Prop:=0<=j/\j<=1000000/\i.natAbs<2 ^ 64
def GA (i j:Int):Prop:=(-(2 ^ 64)<i/\i<2 ^ 64)\/(-(2 ^ 64)<j/\j<2 ^ 64)
theorem GA.ok {i j:Int} (h:GA i j):IntMulOk i j:=by
 rcases h with ⟨h1,h2⟩|⟨h1,h2⟩
 . exact .of_left (intBits_le_64 h1 h2)
 . exact .of_right (intBits_le_64 h1 h2)
theorem bY:ji X (binaryOp .Add) (zq fun i j=> .int (i+j)):=VO fun _ _ _ _ _ _ _ q=>add_int q
theorem ki:ji X (binaryOp .Sub) (zq fun i j=> .int (i-j)):=VO fun _ _ _ _ _ _ _ q=>sub_int q
theorem fD:ji X (binaryOp .Mult) (rI GA fun i j=> .int (i*j)):=Oi fun _ _ _ _ _ _ _ hc q=>mul_int q hc.ok
theorem jJ:ji X (binaryOp .Mod) (rI (fun _ j=>0<j) fun i j=> .int (i % j)):=Oi fun i j _ _ _ _ _ hc q=>by
 have h1:(0:Int)<j:=hc
 exact mod_int' (by omega) (by rw [Int.fmod_eq_emod_of_nonneg i (by omega)];exact q)
theorem lG:ji X (binaryOp .Pow) (rI QY fun i j=> .int (i ^ j.toNat)):=Oi fun _ _ _ _ _ _ _ hc q=>pow_int_small hc.1 hc.2.1 hc.2.2 q
theorem unI {f:Value->Sem Value} {g:Int->Int}
  (rule:∀(i:Int) (t:Tok) (s:Shared) (Q:VS) (E:VS),Q (.int (g i) s.toks) { s with toks:=s.toks+1 }->wpAny (model X.prog X.w) X.A (f (.int i t)) Q E s):
  VM X f (rU fun i=> .int (g i)):=by
 intro pins s σ H x v Q I rx h
 obtain ⟨i,rfl,q⟩:=h
 obtain ⟨t,rfl⟩:=rx
 exact rule i t s _ _ ⟨.int (g i),H,I.tok _,⟨_,Z⟩,q⟩
theorem Oj:VM X (unaryOp .USub) (rU fun i=> .int (-i)):=unI fun _ _ _ _ _ q=>neg_int q
end
def VP:V->V->Bool
 | .bU, .bU=>true | .bU, .int _=>true | .int _, .bU=>true | .bU, .bl _=>true | .bl _, .bU=>true | .bU, .str _=>true | .str _, .bU=>true
 | .int _, .int _=>true | .bl _, .bl _=>true | .str _, .str _=>true | .wU _, .wU _=>true
 | .int _, .str _=>true | .str _, .int _=>true | .bl _, .str _=>true | .str _, .bl _=>true
 | _,_=>false
inductive rEq (x:V) (y:V) (H:Hp) (Q:VK):Prop
 | mk  (_:VP x y=true) (_:Q (.bl (decide (x=y))) H)
inductive rNe (x:V) (y:V) (H:Hp) (Q:VK):Prop
 | mk  (_:VP x y=true) (_:Q (.bl (!decide (x=y))) H)
theorem Ll {i j:Int}:decide (V.int i=V.int j)=(i==j):=by
 rw [yG]
 simp
theorem Ol {i j:Bool}:decide (V.bl i=V.bl j)=(i==j):=by
 rw [yG]
 simp
theorem Lm {i j:Str}:decide (V.str i=V.str j)=(i==j):=by
 rw [yG]
 simp
theorem Ln {i j:Array UInt8}:decide (V.wU i=V.wU j)=(i.toList==j.toList):=by
 rw [yG]
 cases i
 cases j
 simp
variable {op:CmpOp}
section
variable {X:Cx} {a b c:Expr} {ta tb tc:TE} {pos:Pos}
theorem cR {Q:VK} {k k':Bool} (I:Inv X pins σ H s) (q:Q (.bl k) H) (e:k=k'):EP X pins σ Q (.bool k') s:=by
 subst e
 exact ⟨.bl k,H,I,Z,q⟩
theorem dB:ji X (compareOp .Eq) rEq:=by
 intro pins s σ H x y v u Q I rx ry h
 obtain ⟨hs,q⟩:=h
 cases x with
 | bU=>
   cases rx
   cases y with
   | bU=>cases ry;exact PySem.EqNone.eq_none_none (cR I q (by simp))
   | bl j=>cases ry;exact PySem.EqNone.eq_none_bool (cR I q (by simp))
   | int j=>obtain ⟨t',rfl⟩:=ry;exact PySem.EqNone.eq_none_int (cR I q (by simp))
   | str j=>obtain ⟨t',rfl⟩:=ry;exact PySem.EqNone.eq_none_str (cR I q (by simp))
   | _=>exact absurd (show false=true from hs) fh
 | bl i=>
   cases rx
   cases y with
   | bU=>cases ry;exact PySem.EqNone.eq_bool_none (cR I q (by simp))
   | bl j=>cases ry;exact eq_bool (cR I q Ol)
   | str j=>obtain ⟨t',rfl⟩:=ry;exact PySem.EqMixed.eq_bool_str (cR I q (by simp))
   | _=>exact absurd (show false=true from hs) fh
 | int i=>
   obtain ⟨t,rfl⟩:=rx
   cases y with
   | bU=>cases ry;exact PySem.EqNone.eq_int_none (cR I q (by simp))
   | int j=>obtain ⟨t',rfl⟩:=ry;exact eq_int (cR I q Ll)
   | str j=>obtain ⟨t',rfl⟩:=ry;exact PySem.EqMixed.eq_int_str (cR I q (by simp))
   | _=>exact absurd (show false=true from hs) fh
 | str i=>
   obtain ⟨t,rfl⟩:=rx
   cases y with
   | bU=>cases ry;exact PySem.EqNone.eq_str_none (cR I q (by simp))
   | bl j=>cases ry;exact PySem.EqMixed.eq_str_bool (cR I q (by simp))
   | int j=>obtain ⟨t',rfl⟩:=ry;exact PySem.EqMixed.eq_str_int (cR I q (by simp))
   | str j=>obtain ⟨t',rfl⟩:=ry;exact eq_str (cR I q Lm)
   | _=>exact absurd (show false=true from hs) fh
 | wU i=>
   obtain ⟨t,rfl⟩:=rx
   cases y with
   | wU j=>obtain ⟨t',rfl⟩:=ry;exact PySem.W.eq_bytes (cR I q Ln)
   | _=>exact absurd (show false=true from hs) fh
 | _=>cases y <;> exact absurd (show false=true from hs) fh
theorem FW:ji X (compareOp .NotEq) rNe:=by
 intro pins s σ H x y v u Q I rx ry h
 obtain ⟨hs,q⟩:=h
 cases x with
 | bU=>
   cases rx
   cases y with
   | bU=>cases ry;exact PySem.EqNone.ne_none_none (cR I q (by simp))
   | bl j=>cases ry;exact PySem.EqNone.ne_none_bool (cR I q (by simp))
   | int j=>obtain ⟨t',rfl⟩:=ry;exact PySem.EqNone.ne_none_int (cR I q (by simp))
   | str j=>obtain ⟨t',rfl⟩:=ry;exact PySem.EqNone.ne_none_str (cR I q (by simp))
   | _=>exact absurd (show false=true from hs) fh
 | bl i=>
   cases rx
   cases y with
   | bU=>cases ry;exact PySem.EqNone.ne_bool_none (cR I q (by simp))
   | bl j=>cases ry;exact ne_bool (cR I q (jY not Ol))
   | str j=>obtain ⟨t',rfl⟩:=ry;exact PySem.EqMixed.ne_bool_str (cR I q (by simp))
   | _=>exact absurd (show false=true from hs) fh
 | int i=>
   obtain ⟨t,rfl⟩:=rx
   cases y with
   | bU=>cases ry;exact PySem.EqNone.ne_int_none (cR I q (by simp))
   | int j=>obtain ⟨t',rfl⟩:=ry;exact ne_int (cR I q (jY not Ll))
   | str j=>obtain ⟨t',rfl⟩:=ry;exact PySem.EqMixed.ne_int_str (cR I q (by simp))
   | _=>exact absurd (show false=true from hs) fh
 | str i=>
   obtain ⟨t,rfl⟩:=rx
   cases y with
   | bU=>cases ry;exact PySem.EqNone.ne_str_none (cR I q (by simp))
   | bl j=>cases ry;exact PySem.EqMixed.ne_str_bool (cR I q (by simp))
   | int j=>obtain ⟨t',rfl⟩:=ry;exact PySem.EqMixed.ne_str_int (cR I q (by simp))
   | str j=>obtain ⟨t',rfl⟩:=ry;exact ne_str (cR I q (jY not Lm))
   | _=>exact absurd (show false=true from hs) fh
 | wU i=>
   obtain ⟨t,rfl⟩:=rx
   cases y with
   | wU j=>obtain ⟨t',rfl⟩:=ry;exact PySem.W.ne_bytes (cR I q (jY not Ln))
   | _=>exact absurd (show false=true from hs) fh
 | _=>cases y <;> exact absurd (show false=true from hs) fh
theorem nh:ji X (compareOp .Lt) (zq fun i j=> .bl (decide (i<j))):=MO fun _ _ _ _ _ _ _ q=>lt_int q
theorem SH:ji X (compareOp .LtE) (zq fun i j=> .bl (decide (i<=j))):=MO fun _ _ _ _ _ _ _ q=>le_int q
theorem jA:ji X (compareOp .Gt) (zq fun i j=> .bl (decide (j<i))):=MO fun _ _ _ _ _ _ _ q=>gt_int q
theorem FY:ji X (compareOp .GtE) (zq fun i j=> .bl (decide (j<=i))):=MO fun _ _ _ _ _ _ _ q=>ge_int q
theorem Om:ji X (compareOp .In) (fun x y H Q=>∃i j,x = .str i/\y = .str j/\Q (.bl (!(Builtin.Str.occurrences j i 0 j.length 1).isEmpty)) H):=by
 intro pins s σ H x y v u Q I rx ry h
 obtain ⟨i,j,rfl,rfl,q⟩:=h
 obtain ⟨t,rfl⟩:=rx
 obtain ⟨t',rfl⟩:=ry
 exact in_str (cR I q rfl)
theorem aW (b:Expr) (h:op ≠ .In:=by decide) (h2:op ≠ .NotIn:=by decide):behindInMarks op b=false:=by
 have e1:(op==CmpOp.In)=false:=by cases op <;> first|rfl|exact absurd rfl h
 have e2:(op==CmpOp.NotIn)=false:=by cases op <;> first|rfl|exact absurd rfl h2
 cases b <;> simp [behindInMarks,e1,e2]
inductive Oo (Q:Bool->Hp->Prop) (x:V) (H':Hp):Prop
 | mk  (k:_) (_:x = .bl k) (_:Q k H')
def MP (t:TE):TT:=fun σ H Q=>t σ H (Oo Q)
inductive Oq (r':R2) (tc:TE) (σ:St) (Q:VK) (y:V) (z:V) (H3:Hp):Prop
 | mk  (k:_) (_:z = .bl k) (_:(if k=true then tc σ H3 fun w' H4=>r' y w' H4 Q else Q (.bl false) H3))
def Ot (r:R2) (r':R2) (tc:TE) (σ:St) (Q:VK) (x:V):V->Hp->Prop:=fun y H2=>r x y H2 (Oq r' tc σ Q y)
def T5 (r:R2) (r':R2) (tb:TE) (tc:TE) (σ:St) (Q:VK):V->Hp->Prop:=fun x H1=>tb σ H1 (Ot r r' tc σ Q x)
def VQ (r r':R2) (ta tb tc:TE):TE:=fun σ H Q=>ta σ H (T5 r r' tb tc σ Q)
theorem rS:(sizeLine:Nat)<2 ^ 63:=by rw [jz];decide
theorem MQ:ji X (binaryOp .Add) (fun x y H Q=>∃i j,x = .str i/\y = .str j/\i.length+j.length<=sizeLine/\Q (.str (i++j)) H):=by
 intro pins s σ H x y v u Q I rx ry h
 obtain ⟨i,j,rfl,rfl,hz,q⟩:=h
 obtain ⟨t,rfl⟩:=rx
 obtain ⟨t',rfl⟩:=ry
 exact add_str (fun t' tk=>⟨.str (i++j),H,I.tok _,⟨_,Z⟩,q⟩) hz
theorem vals1 {x:V} (r:Vals [x] us):∃u,us=[u]/\RelV x u:=by
 cases r with
 | cons r1 r2=>cases r2;exact ⟨_,Z,r1⟩
theorem vals2 {x:V} (r:Vals [x,y] us):∃u w',us=[u,w']/\RelV x u/\RelV y w':=by
 cases r with
 | cons r1 r2=>
   cases r2 with
   | cons r3 r4=>cases r4;exact ⟨_,_,Z,r1,r3⟩
theorem xy (hc:X.calm=true):iK X (.builtin "min") (fun xs H Q=>∃i j,xs=[.int i, .int j]/\Q (.int (if j<i then j else i)) H):=by
 intro pins s σ H xs us Q I r h
 obtain ⟨i,j,rfl,q⟩:=h
 obtain ⟨u,w',rfl,⟨t,rfl⟩,⟨t',rfl⟩⟩:=vals2 r
 refine min_two_ints (I.ok.hd hc) fun h' tk k=>⟨_,H,I.kept k,?_,q⟩
 by_cases hj:j<i
 . rw [aB hj,aB hj];exact ⟨_,Z⟩
 . rw [aA hj,aA hj];exact ⟨_,Z⟩
end
structure zR (h:Heap) (x dx C:Addr) (mA:SO):Prop where
 obj:h.get? x=some (PySem.W.instObj C dx)
 ns:h.Ns1 dx mA
 ne:dx≠x
theorem Ou {mA:SO} (n:h.Ns1 dx mA):∃od,h.get? dx=some od/\∀name,PySem.W.lookIn name od=some (mA name):=by
 obtain ⟨o,es,ep,ho,hd,hk,_,hm⟩:=n
 refine ⟨o,ho,fun name=>?_⟩
 have e:=hm name
 unfold nsFind findBy at e
 rw [<-Array.find?_toList] at e
 unfold PySem.W.lookIn
 rw [hd]
 dsimp only
 split
 . rename_i y q
   rw [q] at e
   exact jY some e
 . rename_i q
   rw [q] at e
   have a:es.toList.any (·.refKey)=false:=by
    rw [List.any_eq_false]
    intro y hy
    obtain ⟨z,t,hkey⟩:=hk y (Array.mem_toList_iff.mp hy)
    simp [DictEntry.refKey,hkey]
   have a':¬ es.toList.any (·.refKey)=true:=by rw [a];exact fh
   rw [aA a']
   exact jY some e
variable {C:Addr}
theorem zR.look {x dx:Addr} {mA:SO} (I:zR h x dx C mA):∃od,PySem.W.InstAt h x (PySem.W.instObj C dx) C (some od)/\∀name,PySem.W.lookIn name od=some (mA name):=
 let ⟨od,ho,hl⟩:=Ou I.ns
 ⟨od,⟨I.obj,Z,Z,ho⟩,hl⟩
variable {kw:List (Str×Value)}
section
variable {prog:Program} {w:World} {A:Around} {E:VS} {s:Shared} {K:Fg} {x dx C f:Addr} {mA:SO} {name:Str} {v:Value}
theorem get_map {expr:Bool} {Q:VS} (X:K.In s.heap) (I:zR s.heap x dx C mA) (hg:PySem.W.plainGet K C name=true) (hh:PySem.W.hasDictIn K C=true)
  (ha:PySem.W.findIn K (.ref C) name=some none) (hv:mA name=some v) (hv':PySem.W.handedIn v=true) (h:Q v { s with toks:=s.toks+1 }):
  wpAny (model prog w) A (getAttr (.ref x) name expr) Q E s:=by
 obtain ⟨od,J,hl⟩:=I.look
 exact PySem.W.get_value X J (PySem.W.plainGet_of hg).1 (PySem.W.findObj_own hh ha rfl (by rw [hl,hv])) hv' h
theorem QZ {pl:Sem Bool} {Q:Value×List Value->Shared->Prop} (X:K.In s.heap) (I:zR s.heap x dx C mA) (hg:PySem.W.plainGet K C name=true)
  (hf:PySem.W.findIn K (.ref C) name=some (some (.ref f))) (ht:PySem.W.isFn K (.ref f)=true) (hv:mA name=none) (h:Q (.ref f,[.ref x]) s):
  wpAny (model prog w) A (getMethod (.ref x) name pl) Q E s:=by
 obtain ⟨od,J,hl⟩:=I.look
 exact PySem.W.method_fn X J (PySem.W.plainGet_of hg).1 (PySem.W.plainGet_of hg).2 hf (lQ.mp ht) (by show (PySem.W.lookIn name od).map (·.isSome)=some false;rw [hl,hv];rfl) h
theorem T6 {ns:List Str} (X:K.In s.heap) (I:zR s.heap x dx C mA)
  (hs:PySem.W.findIn K (.ref C) "__setattr__"=some (some (.builtin "object.__setattr__"))) (hp:PySem.W.plainOver K C=true) (ht:PySem.W.takerIn K C name=some none) (hh:PySem.W.hasDictIn K C=true)
  (hw:PySem.Within mA ns) (hsz:ns.length<=sizeLine)
  (h:∀h',zR h' x dx C (fun y=>if y=name then some v else mA y)->Heap.SameBut dx s.heap h'->Q () { s with heap:=h',toks:=s.toks+2 }):
  wpAny (model prog w) A (setAttr (.ref x) name v) Q E s:=by
 obtain ⟨od,J,hl⟩:=I.look
 refine PySem.W.set_plain X J hs (PySem.W.osa_open (s:={ s with toks:=s.toks+1 }) (r:=none) X J hp ht fun b=>?_)
 obtain ⟨cd,hc,hd'⟩:=PySem.W.any_some hh
 have hx:s.heap.get? x=some ⟨.ref C,some dx, .plain,#[]⟩:=I.obj
 refine az (aU (az (az (wpAny_loadPart hx (az (PySem.W.Looks.here (s:={ s with toks:=s.toks+1 }) (PySem.W.looks_clsIn X hc) ?_))))))
 rw [hd']
 refine aU (a:=some dx) (az (aU (az ?_)))
 refine wpAny_nsSet1 (s:={ s with toks:=s.toks+1 }) I.ns fun h' hn2 hs2=>?_
 obtain ⟨oD,esD,epD,hoD,hdD,hcD⟩:=hn2.count (PySem.Within.cons name v hw)
 refine az (wpAny_lookBehind hoD (by rw [hdD];exact pastItsLine_dict (fP hcD (by rw [jy];omega))) ?_)
 exact aU (h _ ⟨(hs2.2 _ (cM I.ne)).trans I.obj,hn2,I.ne⟩ hs2)
theorem Q0 {R:Result->Shared->Prop} {vs:List Value} (X:K.In s.heap) (hm:PySem.W.makesIn K C=true)
  (hi:PySem.W.findIn K (.ref C) "__init__"=some (some (.ref f))) (hf:PySem.W.typeIn K (.ref f)=some (.type "function"))
  (h:codeAny (model prog w) (A.under (.builtin "type.__call__" ⟨.ref C::vs,kw⟩)) (.call (.ref f) ⟨.ref (s.heap.objs.size+1)::vs,kw⟩) (PySem.W.InitBack (s.heap.objs.size+1) R)
    { s with heap:=(s.heap.push PySem.W.emptyDict).push (PySem.W.instObj C s.heap.objs.size) }):
  codeAny (model prog w) A (.call (.ref C) ⟨vs,kw⟩) R s:=by
 obtain ⟨hh,g,d,t,os⟩:=s
 exact PySem.W.make_core (PySem.W.makes_of X hm) (PySem.W.looks_findIn X hi) (fun self=>PySem.W.bind_fn X self hf) (.inl rfl) h
end
def aT (f:Str) (v:V):List (Str×V)->List (Str×V)
 | []=>[(f,v)]
 | (g,x)::r=>if g=f then (g,v)::r else (g,x)::aT f v r
theorem zu (f g:Str) (v:V):∀fs:List (Str×V),(aT f v fs).lookup g=if g=f then some v else fs.lookup g
 | []=>by
   show List.lookup g [(f,v)]=_
   by_cases h:g=f
   . have hb:(g==f)=true:=lQ.mpr h
     simp only [List.lookup,hb,aB h]
   . have hb:(g==f)=false:=CC.mpr h
     simp only [List.lookup,hb,aA h]
 | (k,x)::r=>by
   have ih:=zu f g v r
   rw [show aT f v ((k,x)::r)=(if k=f then (k,v)::r else (k,x)::aT f v r) from rfl]
   by_cases hk:k=f
   . rw [aB hk]
     by_cases h:g=k
     . have hb:(g==k)=true:=lQ.mpr h
       simp only [List.lookup,hb,aB (h.trans hk)]
     . have hb:(g==k)=false:=CC.mpr h
       simp only [List.lookup,hb,aA (fun e:g=f=>h (e.trans hk.symm))]
   . rw [aA hk]
     by_cases h:g=k
     . have hb:(g==k)=true:=lQ.mpr h
       simp only [List.lookup,hb,aA (fun e:g=f=>hk (h.symm.trans e))]
     . have hb:(g==k)=false:=CC.mpr h
       simp only [List.lookup,hb]
       exact ih
theorem xA (f:Str) (v:V):∀fs:List (Str×V),f∈(aT f v fs).map (·.1)/\∀g,g∈fs.map (·.1)->g∈(aT f v fs).map (·.1)
 | []=>⟨by simp [aT],fun g h=>by simp at h⟩
 | (k,x)::r=>by
   obtain ⟨i1,i2⟩:=xA f v r
   rw [show aT f v ((k,x)::r)=(if k=f then (k,v)::r else (k,x)::aT f v r) from rfl]
   by_cases hk:k=f
   . rw [aB hk]
     subst hk
     exact ⟨by simp,fun g h=>by simpa using h⟩
   . rw [aA hk]
     refine ⟨?_,fun g h=>?_⟩
     . rw [bJ]
       exact cD _ i1
     . rw [bJ] at h ⊢
       rcases c9.mp h with e|e
       . exact c9.mpr (.inl e)
       . exact cD _ (i2 g e)
theorem zx (f:Str) (v:V):∀fs:List (Str×V),(aT f v fs).length<=fs.length+1
 | []=>by simp [aT]
 | (k,x)::r=>by
   have ih:=zx f v r
   rw [show aT f v ((k,x)::r)=(if k=f then (k,v)::r else (k,x)::aT f v r) from rfl]
   by_cases hk:k=f
   . rw [aB hk,jy,jy];omega
   . rw [aA hk,jy,jy];omega
theorem lg.some_of {v:V} {o:Option Value} (r:lg (some v) o):∃u,o=some u/\RelV v u:=by
 cases o with
 | none=>exact (show False from r).elim
 | some u=>exact ⟨u,Z,r⟩
theorem lg.none_of {o:Option Value} (r:lg none o):o=none:=by
 cases o with
 | none=>rfl
 | some u=>exact (show False from r).elim
theorem Ov {v:V} (r:RelV v u):PySem.W.handedIn u=true:=by
 cases v with
 | bU=>cases (show u=Value.none from r);rfl
 | bl b=>cases (show u=Value.bool b from r);rfl
 | int i=>obtain ⟨t,e⟩:=(show ∃t,u=Value.int i t from r);cases e;rfl
 | str x=>obtain ⟨t,e⟩:=(show ∃t,u=Value.str x t from r);cases e;rfl
 | wU b=>obtain ⟨t,e⟩:=(show ∃t,u=Value.bytes b t from r);cases e;rfl
 | Ss b=>obtain ⟨t,e⟩:=(show ∃t,u=Value.float b t from r);cases e;rfl
 | ref a=>cases (show u=Value.ref a from r);rfl
 | ty n=>cases (show u=Value.type n from r);rfl
section
variable {P:Program} {w:World} {H H':Hp} {h h':Heap} {a C dx:Addr} {fs fs':List (Str×V)}
theorem CL (hok:gr P w H h) (e:H a=some (.ins C dx fs)):∃mA,zR h a dx C mA/\(∀f,lg (fs.lookup f) (mA f))/\PySem.Within mA (fs.map (·.1))/\fs.length<=1000/\H dx=some (.own a):=by
 obtain ⟨d,z,ne,ob,mA,n,r,q⟩:=(show d_ P w H h a (.ins C dx fs) from hok a _ e)
 exact ⟨mA,⟨ob,n,ne⟩,r,q,z,d⟩
end
structure nj (K:Fg) (C:Addr):Prop where
 pg:PySem.W.plainGet K C Str.empty=true
 hd:PySem.W.hasDictIn K C=true
 po:PySem.W.plainOver K C=true
 sa:PySem.W.findIn K (.ref C) "__setattr__"=some (some (.builtin "object.__setattr__"))
theorem nj.get (c:nj K C) (f:Str):PySem.W.plainGet K C f=true:=c.pg
def ee (K:Fg) (C:Addr) (f:Str):Prop:=PySem.W.findIn K (.ref C) f=some none
theorem ee.taker {f:Str} (n:ee K C f):PySem.W.takerIn K C f=some none:=by
 unfold PySem.W.takerIn
 rw [show PySem.W.findIn K (.ref C) f=some none from n]
 rfl
structure Meth (K:Fg) (C:Addr) (m:Str) (f:Addr):Prop where
 at_:PySem.W.findIn K (.ref C) m=some (some (.ref f))
 fn:PySem.W.isFn K (.ref f)=true
 kp:PySem.W.keepIn K (.ref f)=true
variable {env:Env}
section
variable {X:Cx} {pins:AO} {σ:St} {H:Hp} {s:Shared} {a C dx:Addr} {fs:List (Str×V)} {f:Str} {v:V} {A:Around} {E:VS}
theorem AR {b:Bool} {Q:VS} (I:Inv X pins σ H s) (e:H a=some (.ins C dx fs)) (c:nj X.K C) (n:ee X.K C f) (l:fs.lookup f=some v)
  (h:∀u s',Inv X pins σ H s'->RelV v u->Q u s'):wpAny (model X.prog X.w) A (getAttr (.ref a) f b) Q E s:=by
 obtain ⟨mA,O,r,_,_,_⟩:=CL I.hok e
 obtain ⟨u,hu,ru⟩:=lg.some_of (v:=v) (o:=mA f) (by rw [<-l];exact r f)
 exact get_map I.qY O (c.get f) c.hd n hu (Ov ru) (h u _ (I.tok _) ru)
theorem AS {m:Str} {g:Addr} {pl:Sem Bool} {Q:Value×List Value->Shared->Prop} (I:Inv X pins σ H s) (e:H a=some (.ins C dx fs)) (c:nj X.K C) (k:Meth X.K C m g) (l:fs.lookup m=none)
  (h:Q (.ref g,[.ref a]) s):wpAny (model X.prog X.w) A (getMethod (.ref a) m pl) Q E s:=by
 obtain ⟨mA,O,r,_,_,_⟩:=CL I.hok e
 have hn:mA m=none:=lg.none_of (by rw [<-l];exact r m)
 exact QZ I.qY O (c.get m) k.at_ k.fn hn h
theorem AU (I:Inv X pins σ H s) (e:H a=some (.ins C dx fs)) (c:nj X.K C) (n:ee X.K C f) (hl:fs.length<1000) (ry:RelV y u)
  (h:∀s',Inv X pins σ (upd H a (.ins C dx (aT f y fs))) s'->Q () s'):wpAny (model X.prog X.w) A (setAttr (.ref a) f u) Q E s:=by
 obtain ⟨mA,O,r,wi,_,ho⟩:=CL I.hok e
 have hz:(fs.map (·.1)).length<=sizeLine:=by rw [aD,jz];omega
 refine T6 I.qY O c.sa c.po n.taker c.hd wi hz fun h' O' sb=>h _ ?_
 have hd:∃o,h'.get? dx=some o:=let ⟨o,_,_,e',_⟩:=O'.ns;⟨o,e'⟩
 refine I.write (x:=a) (e:=dx) (by rw [e];exact True.intro) (.inr ho) (fun b q hb z=>(sb.2 b hb).trans z) hd ?_
 refine ⟨by rw [ay O.ne];exact ho,?_,O.ne,O'.obj,_,O'.ns,fun g=>?_,fun g hg=>?_⟩
 . have:=zx f y fs;omega
 . show lg ((aT f y fs).lookup g) (if g=f then some u else mA g)
   rw [zu]
   by_cases q:g=f
   . rw [aB q,aB q];exact ry
   . rw [aA q,aA q];exact r g
 . by_cases q:g=f
   . rw [q];exact (xA f y fs).1
   . refine (xA f y fs).2 g (wi g fun z=>hg ?_)
     show (if g=f then some u else mA g)=none
     rw [aA q];exact z
theorem Inv.made (I:Inv X pins σ H s):Inv X pins σ (upd (upd H s.heap.objs.size (.own (s.heap.objs.size+1))) (s.heap.objs.size+1) (.ins C s.heap.objs.size []))
  { s with heap:=(s.heap.push PySem.W.emptyDict).push (PySem.W.instObj C s.heap.objs.size) }:=by
 have e1:(s.heap.push PySem.W.emptyDict).get? s.heap.objs.size=some PySem.W.emptyDict:=dZ s.heap rfl
 have e2:((s.heap.push PySem.W.emptyDict).push (PySem.W.instObj C s.heap.objs.size)).get? (s.heap.objs.size+1)=some (PySem.W.instObj C s.heap.objs.size):=by
  have:=dZ (s.heap.push PySem.W.emptyDict) (o:=PySem.W.instObj C s.heap.objs.size) rfl
  rwa [kL] at this
 have e3:(s.heap.push PySem.W.emptyDict).Ns s.heap.objs.size (fun _=>none):=⟨PySem.W.emptyDict,#[],_,e1,Z,(fun e he=>absurd he (by simp)),fun _=>rfl⟩
 have I1:=I.laid (a:=s.heap.objs.size) (o:= .own (s.heap.objs.size+1)) (h':=s.heap.push PySem.W.emptyDict) (t':=s.toks) (fun b u q=>b7 _ q) (aN _) ⟨_,e1⟩
 refine I1.laid (a:=s.heap.objs.size+1) (o:= .ins C s.heap.objs.size []) (t':=s.toks) (fun b u q=>b7 _ q) (Nat.le_of_eq (kL _ _)) ?_
 have ne:s.heap.objs.size≠s.heap.objs.size+1:=eU (Nat.lt_succ_self _)
 refine ⟨by rw [ay ne,ai],gM _,ne,e2,fun _=>none,(Heap.Ns1.of_empty e3).at fun o q=>b7 _ q,fun _=>True.intro,fun y hy=>absurd rfl hy⟩
theorem T7 {prog:Program} {w:World} {f:Str} {s:Shared} {Q:VS} (hb:attributeBase e f env (eval e env)=eval e env)
  (h:wpAny (model prog w) A (eval e env) (fun o s₁=>wpAny (model prog w) A (getAttr o f true) Q E s₁) E s):wpAny (model prog w) A (eval (.Attribute e f pos) env) Q E s:=
 Attribute_any_ h (by rw [arm_eval_Attribute,hb])
end
inductive YX (K:Fg) (f:Str) (Q:VK) (x:V) (H1:Hp):Prop
 | mk  (a C dx fs v:_) (_:x = .ref a) (_:H1 a=some (.ins C dx fs)) (_:nj K C) (_:ee K C f) (_:fs.lookup f=some v) (_:Q v H1)
def VR (K:Fg) (ta:TE) (f:Str):TE:=fun σ H Q=>ta σ H (YX K f Q)
inductive T8 (K:Fg) (f:Str) (D:Ends) (σ:St) (y:V) (x:V) (H2:Hp):Prop
 | mk  (a C dx fs:_) (_:x = .ref a) (_:H2 a=some (.ins C dx fs)) (_:nj K C) (_:ee K C f) (_:fs.length<1000) (_:D.nx σ (upd H2 a (.ins C dx (aT f y fs))))
def YY (K:Fg) (ta:TE) (f:Str) (D:Ends) (σ:St):V->Hp->Prop:=fun y H1=>ta σ H1 (T8 K f D σ y)
def VT (K:Fg) (ta tv:TE) (f:Str):TS:=fun D σ H=>tv σ H (YY K ta f D σ)
def GB (X:Cx) (op:Operator) (rd:V->V->Hp->VK->Prop):Prop:=
 ∀(pins:AO) (s:Shared) (σ:St) (H:Hp) (x y:V) (u v:Value) (Q:VK),Inv X pins σ H s->RelV x u->RelV y v->rd x y H Q->wpAny (model X.prog X.w) X.A (inplaceOp op u v) (EP X pins σ Q) X.xe s
inductive MR (f:Str) (D:Ends) (σ:St) (a:Addr) (C:Addr) (z:V) (H3:Hp):Prop
 | mk  (VU fs':_) (_:H3 a=some (.ins C VU fs')) (_:fs'.length<1000) (_:D.nx σ (upd H3 a (.ins C VU (aT f z fs'))))
def MS (rd:V->V->Hp->VK->Prop) (f:Str) (D:Ends) (σ:St) (a:Addr) (C:Addr) (v:V):V->Hp->Prop:=fun y H2=>rd v y H2 (MR f D σ a C)
inductive Q2 (K:Fg) (tv:TE) (rd:V->V->Hp->VK->Prop) (f:Str) (D:Ends) (σ:St) (x:V) (H1:Hp):Prop
 | mk  (a C dx fs v:_) (_:x = .ref a) (_:H1 a=some (.ins C dx fs)) (_:nj K C) (_:ee K C f) (_:fs.lookup f=some v) (_:tv σ H1 (MS rd f D σ a C v))
def Lo (K:Fg) (ta tv:TE) (rd:V->V->Hp->VK->Prop) (f:Str):TS:=fun D σ H=>ta σ H (Q2 K tv rd f D σ)
variable {rd:V->V->Hp->VK->Prop}
section
variable {X:Cx} {o e value:Expr} {f:Str} {pos pos' tpos:Pos} {ta tv:TE}
theorem VW (he:PE X e ta) (hb:attributeBase e f X.env (eval e X.env)=eval e X.env):PE X (.Attribute e f pos) (VR X.K ta f):=by
 intro pins s σ H Q I h
 refine T7 hb (bg (he pins s σ H _ I h) fun u s1 ⟨x,H1,I1,rx,a,C,dx,fs,v,ex,ea,c,n,l,q⟩=>?_)
 subst ex
 obtain rfl:u=Value.ref a:=rx
 exact AR I1 ea c n l fun u' s2 I2 ru=>⟨v,H1,I2,ru,q⟩
theorem VX (ha:PE X o ta) (hv:PE X value tv) (hs:swapsWith value (some (.Attribute o f pos')) pos.line X.env=pure false):PS X (.Assign [.Attribute o f pos'] value pos) (VT X.K ta tv f):=by
 intro pins s σ H D I h
 refine plainObj_wpAny_Assign_Attribute (bg (hv pins s σ H _ I h) fun u s1 ⟨y,H1,I1,ry,q⟩=>bg (ha pins s1 σ H1 _ I1 q) fun ov s2 ⟨x,H2,I2,rx,a,C,dx,fs,ex,ea,c,n,l,q2⟩=>?_) hs
 subst ex
 obtain rfl:ov=Value.ref a:=rx
 exact AU I2 ea c n l ry fun s3 I3=>⟨σ,_,I3,q2⟩
theorem Ow {op:Operator} (ha:PE X o ta) (hv:PE X value tv) (hop:GB X op rd):PS X (.AugAssign (.Attribute o f tpos) op value pos) (Lo X.K ta tv rd f):=by
 intro pins s σ H D I h
 refine wpAny_AugAssign_AttributeAny (bg (ha pins s σ H _ I h) fun ov s1 ⟨x,H1,I1,rx,a,C,dx,fs,v,ex,ea,c,n,l,q⟩=>?_)
 subst ex
 obtain rfl:ov=Value.ref a:=rx
 refine AR I1 ea c n l fun u s2 I2 ru=>bg (hv pins s2 σ H1 _ I2 q) fun w3 s3 ⟨y,H2,I3,ry,q3⟩=>bg (hop pins s3 σ H2 v y u w3 _ I3 ru ry q3) fun w4 s4 ⟨z,H3,I4,rz,VU,fs',ea',l',q4⟩=>?_
 exact AU I4 ea' c n l' rz fun s5 I5=>⟨σ,_,I5,q4⟩
inductive ab9 (x:V) (y:V) (H:Hp) (Q:VK):Prop
 | mk  (i j:_) (_:x = .int i) (_:y = .int j) (_:Q (.int (i+j)) H)
inductive ab_ (x:V) (y:V) (H:Hp) (Q:VK):Prop
 | mk  (i j:_) (_:x = .int i) (_:y = .int j) (_:Q (.int (i-j)) H)
theorem VY:GB X .Add ab9:=by
 rintro pins s σ H x y u v Q I rx ry ⟨i,j,rfl,rfl,q⟩
 obtain ⟨t,rfl⟩:=(show ∃t,u=Value.int i t from rx)
 obtain ⟨t',rfl⟩:=(show ∃t',v=Value.int j t' from ry)
 exact PyProof.Rows.iadd_int ⟨.int (i+j),H,I.tok _,⟨_,Z⟩,q⟩
theorem GD:GB X .Sub ab_:=by
 rintro pins s σ H x y u v Q I rx ry ⟨i,j,rfl,rfl,q⟩
 obtain ⟨t,rfl⟩:=(show ∃t,u=Value.int i t from rx)
 obtain ⟨t',rfl⟩:=(show ∃t',v=Value.int j t' from ry)
 exact PyProof.Rows.isub_int ⟨.int (i-j),H,I.tok _,⟨_,Z⟩,q⟩
end
section
variable {X:Cx} {pins:AO} {σ:St} {H:Hp} {s:Shared} {A:Around} {E:VS} {Q:VS} {c:Value} {b:Bool}
end
structure c7 (k:Nat) (A:Around):Prop where
 hd:A.handled=none
 dp:A.depth+3*k+5<recursionLimit
 un:A.units+16*k+200<cLine
theorem c7.mono {k:Nat} {A:Around} (r:c7 k A) (h:j<=k):c7 j A:=⟨r.hd,by have:=r.dp;omega,by have:=r.un;omega⟩
theorem c7.deeper {k:Nat} {A:Around} (r:c7 (k+1) A) (env:Env):c7 k (A.deeper env):=
 ⟨r.hd,by have:=r.dp;show A.depth+1+3*k+5<_;omega,by have:=r.un;show A.units+3+16*k+200<_;omega⟩
theorem MT {A:Around}:(A.under (.builtin "type.__call__" ⟨.ref C::us,kw⟩)).depth=A.depth+1:=by
 first|rfl|simp [Around.under,Code.weight,Code.isCreation,Code.isGuard,Code.isCaller,Code.frames,Code.isFrame,guardIds]
theorem MU {A:Around}:(A.under (.builtin "type.__call__" ⟨.ref C::us,kw⟩)).units=A.units+1:=by
 first|rfl|simp [Around.under,Code.cUnits,Code.frames,Code.isFrame]
theorem c7.make {k:Nat} {A:Around} (r:c7 (k+1) A) (C:Addr) (us:List Value) (kw:List (Str×Value)):c7 k (A.under (.builtin "type.__call__" ⟨.ref C::us,kw⟩)):=
 ⟨r.hd,by have:=r.dp;rw [MT];omega,by have:=r.un;rw [MU];omega⟩
theorem c7.depth {k:Nat} {A:Around} (r:c7 k A):A.depth<recursionLimit:=by have:=r.dp;omega
theorem c7.units {k:Nat} {A:Around} (r:c7 k A):A.units+64<cLine:=by have:=r.un;omega
def qG:TA:=fun _ H Q=>Q [] H
def Q3 (Q:List V->Hp->Prop) (x:V):List V->Hp->Prop:=fun xs H2=>Q (x::xs) H2
def VZ (tr:TA) (σ:St) (Q:List V->Hp->Prop):V->Hp->Prop:=fun x H1=>tr σ H1 (Q3 Q x)
def FZ (ta:TE) (tr:TA):TA:=fun σ H Q=>ta σ H (VZ tr σ Q)
section
variable {X:Cx} {e:Expr} {es:List Expr} {te:TE} {t:TA} {pos:Pos}
theorem Ox:PA X [] qG:=fun _ _ _ _ H Q I h=>Calls.spliced_nil ⟨[],H,I, .nil,h⟩
theorem Lp (ha:PE X e te) (hr:PA X es t) (hs:starEach (e::es) X.env=(false,eval e X.env)::starEach es X.env:=by rfl):PA X (e::es) (FZ te t):=by
 intro pos pins s σ H Q I h
 rw [hs]
 show wpAny _ _ (spliced ((false,eval e X.env)::backTo pos (starEach es X.env))) _ _ s
 refine Calls.spliced_cons (bg (ha pins s σ H _ I h) fun u s1 ⟨x,H1,I1,r1,q1⟩=>?_)
 exact bg (hr pos pins s1 σ H1 _ I1 q1) fun us s2 ⟨xs,H2,I2,r2,q2⟩=>⟨x::xs,H2,I2, .cons r1 r2,q2⟩
inductive YZ (Q:VK) (xs:List V) (H1:Hp):Prop
 | mk  (_:xs.length<=sizeLine) (_:∀p,H1 p=none->Q (.ref p) (upd H1 p (.tup xs)))
def acd (t:TA):TE:=fun σ H Q=>t σ H (YZ Q)
inductive Y0 (Q:VK) (xs:List V) (H1:Hp):Prop
 | mk  (_:xs.length<=sizeLine) (_:∀p,H1 p=none->Q (.ref p) (upd H1 p (.lst xs)))
def ace (t:TA):TE:=fun σ H Q=>t σ H (Y0 Q)
end
abbrev Sp:=List V->Hp->VK->XK->Prop
abbrev uX:=List Env->Hp->Shared->XK->Value->Shared->Prop
structure zS (P:Program) (w:World) (K:Fg) (mg:SO) (base:Heap) (A:Around) (outer:List Env) (s:Shared) (H:Hp):Prop where
 frames:A.frames=some outer
 mod:Mod K mg base
 bs:∀b o,base.get? b=some o->s.heap.get? b=some o/\H b=none
 DP:base.objs.size<=s.heap.objs.size
 m_:s.heap.FunFrames base outer
 Gw:∀b∈frs outer,H b=none
 hok:gr P w H s.heap
 bare:AllBare s.gens
def CE (outer:List Env) (P:Program) (w:World) (H:Hp) (s:Shared) (Q:VK) (u:Value) (s':Shared):Prop:=
 ∃v H',s'.os=s.os/\AllBare s'.gens/\Un (frs outer) [] H H' s.heap s'.heap/\gr P w H' s'.heap/\RelV v u/\Q v H'
def CR (CX:uX) (outer:List Env) (P:Program) (w:World) (H:Hp) (s:Shared) (Q:VK) (E:XK) (r:Result) (s':Shared):Prop:=
 match r with
 | .ok (.ret u)=>CE outer P w H s Q u s'
 | .ok _=>False
 | .error e=>CX outer H s E e s'
structure iO (P:Program) (w:World) (K:Fg) (mg:SO) (base:Heap) (CX:uX) (k:Nat) (f:Addr) (fd:FuncData) (ps:List Str) (sp:Sp):Prop where
 len:∀vs H Q E,sp vs H Q E->vs.length=ps.length
 run:∀(A:Around) (outer:List Env) (s:Shared) (H:Hp) (args:Args) (us:List Value) (vs:List V) (Q:VK) (E:XK),c7 k A->zS P w K mg base A outer s H->BindsTo s fd args (ps.zip us)->Vals vs us->sp vs H Q E->
  codeAny (model P w) A (.call (.ref f) args) (CR CX outer P w H s Q E) s
variable {mg:SO} {base:Heap}
theorem zS.make {w:World} {A:Around} {outer:List Env} (e:zS P w K mg base A outer s H) (C:Addr) (us:List Value) (kw:List (Str×Value)):
  zS P w K mg base (A.under (.builtin "type.__call__" ⟨.ref C::us,kw⟩)) outer s H:=⟨by first|exact e.frames|(simpa [Around.under,Code.envs,Code.isFrame,pushEnvs] using e.frames),e.mod,e.bs,e.DP,e.m_,e.Gw,e.hok,e.bare⟩
section
variable {X:Cx} {pins:AO} {σ:St} {H:Hp} {s s':Shared}
theorem Inv.V0 (I:Inv X pins σ H s):zS X.prog X.w X.K X.mg X.base X.A X.stack s H:=
 ⟨I.ok.frames,I.ok.mod,I.bs,fP I.ok.DP I.sz,I.stack,I.yL,I.hok,I.bare⟩
theorem Inv.after {Q:VK} (I:Inv X pins σ H s) (h:CE X.stack X.prog X.w H s Q u s'):EP X pins σ Q u s':=by
 obtain ⟨v,H',os,bare,un,hok,r,q⟩:=h
 obtain ⟨hh,g,d,t,os'⟩:=s'
 obtain rfl:os'=s.os:=os
 exact ⟨v,H',I.call (h':=hh) (g':=g) (d':=d) (t':=t) (ch:=[]) un hok bare (fun b z=>absurd z (by simp)),r,q⟩
end
def V1 (sp:Sp) (ir:List V) (E:XK) (Q:VK):List V->Hp->Prop:=fun vs H1=>sp (vs++ir) H1 Q E
def MV (sp:Sp) (ir:List V) (E:XK) (t:TA):TE:=fun σ H Q=>t σ H (V1 sp ir E Q)
def Q5 (sp:Sp) (ir:List V) (E:XK) (Q:VK) (x:V):List V->Hp->Prop:=fun vs H2=>sp (x::(vs++ir)) H2 Q E
inductive V2 (C:Addr) (m:Str) (sp:Sp) (ir:List V) (E:XK) (t:TA) (σ:St) (Q:VK) (x:V) (H1:Hp):Prop
 | mk  (a dx fs:_) (_:x = .ref a) (_:H1 a=some (.ins C dx fs)) (_:fs.lookup m=none) (_:t σ H1 (Q5 sp ir E Q x))
def AV (C:Addr) (m:Str) (sp:Sp) (ir:List V) (E:XK) (ta:TE) (t:TA):TE:=fun σ H Q=>ta σ H (V2 C m sp ir E t σ Q)
def V3 (C:Addr) (sp:Sp) (ir:List V) (E:XK) (Q:VK):List V->Hp->Prop:=fun vs H1=>∀x dx,H1 x=none->H1 dx=none->dx≠x->sp (.ref x::(vs++ir)) (upd (upd H1 dx (.own x)) x (.ins C dx [])) (fun v H2=>v = .bU/\Q (.ref x) H2) E
def F0 (C:Addr) (sp:Sp) (ir:List V) (E:XK) (t:TA):TE:=fun σ H Q=>t σ H (V3 C sp ir E Q)
def Binds (K:Fg) (fd:FuncData) (ps:List Str) (ds:List Value):Prop:=
 ∀(s:Shared) (us:List Value),K.In s.heap->(us++ds).length=ps.length->BindsTo s fd ⟨us,[]⟩ (ps.zip (us++ds))
variable {fd:FuncData} {ps:List Str}
theorem Binds.all (h:∀us:List Value,us.length=ps.length->bindArgs fd ⟨us,[]⟩=pure (ps.zip us)):Binds K fd ps [] :=fun s us _ hl=>by
 rw [yH] at hl ⊢
 exact .of_eq (h us hl)
def Passes (CX:uX) (X:Cx) (E:XK):Prop:=∀(pins:AO) (σ:St) (H:Hp) (s:Shared) (e:Value) (s':Shared),Inv X pins σ H s->CX X.stack H s E e s'->X.xe e s'
variable {vs:List V}
section
variable {X:Cx} {CX:uX} {k:Nat} {f C:Addr} {fd:FuncData} {ps:List Str} {sp:Sp} {ir:List V} {ds:List Value} {E:XK} {x m:Str} {p pos apos:Pos} {e o:Expr} {es:List Expr} {ta:TE} {t:TA}
theorem GF {Q:VK} (F:iO X.prog X.w X.K X.mg X.base CX k f fd ps sp) (hr:c7 k X.A) (hb:Binds X.K fd ps ds) (hd:Vals ir ds) (hx:Passes CX X E)
  (I:Inv X pins σ H s) (r:Vals vs us) (h:sp (vs++ir) H Q E):wpAny (model X.prog X.w) X.A (call (.ref f) us) (EP X pins σ Q) X.xe s:=by
 have r2:Vals (vs++ir) (us++ds):=r.append hd
 have hl:(us++ds).length=ps.length:=by rw [<-r2.length];exact F.len _ _ _ _ h
 refine wpAny_call (AH (F.run X.A X.stack s H ⟨us,[]⟩ (us++ds) (vs++ir) Q E hr I.V0 (hb s us I.qY hl) r2 h) fun r s' hq=>?_)
 cases r with
 | error e=>exact hx pins σ H s e s' I hq
 | ok fl=>
   cases fl with
   | ret u=>exact I.after hq
   | next=>exact False.elim hq
   | brk=>exact False.elim hq
   | cont=>exact False.elim hq
theorem Lq (F:iO X.prog X.w X.K X.mg X.base CX k f fd ps sp) (hr:c7 k X.A) (hg:Gl X x) (hm:X.mg x=some (.ref f)) (hk:PySem.W.keepIn X.K (.ref f)=true) (hb:Binds X.K fd ps ds) (hd:Vals ir ds) (hx:Passes CX X E)
  (ha:PA X (e::es) t) (hdb:(x==("__debug__":Str))=false:=by decide) (he:starEach (e::es) X.env=(false,eval e X.env)::starEach es X.env:=by rfl) (hpl:(backTo pos (starEach es X.env)).any (·.1)=false:=by rfl):
  PE X (.Call (.Name x p) (e::es) [] pos) (MV sp ir E t):=by
 intro pins s σ H Q I h
 refine Gj (uV I hg hm ?_ hdb)
 refine PySem.W.callWith_K (h₀:=X.base) I.ok.mod.Oe hk (bg (ha pos pins s σ H _ I h) fun us s1 ⟨vs,H1,I1,r,q⟩=>⟨I1.qY,?_⟩) he hpl
 exact GF F hr hb hd hx I1 r q
theorem Lr {pl:Sem Bool} (he:PE X o ta) (c:nj X.K C) (hm:Meth X.K C m f) (F:iO X.prog X.w X.K X.mg X.base CX k f fd ps sp) (hr:c7 k X.A) (hb:Binds X.K fd ps ds) (hd:Vals ir ds) (hx:Passes CX X E) (ha:PA X (e::es) t)
  (hst:starEach (e::es) X.env=(false,eval e X.env)::starEach es X.env:=by rfl) (hpl:(backTo pos (starEach es X.env)).any (·.1)=false:=by rfl)
  (ht:eval (.Call (.Attribute o m apos) (e::es) [] pos) X.env=(do
    let ov <-eval o X.env
    standAt apos.atName
    let (f,first) <-holding [ov] (getMethod ov m pl)
    callWith pos f first (backTo pos (starEach (e::es) X.env)) (backToKw pos (keywordEach [] X.env))):=by rfl):
  PE X (.Call (.Attribute o m apos) (e::es) [] pos) (AV C m sp ir E ta t):=by
 intro pins s σ H Q I h
 refine PySem.W.methodCall_KW (pl:=pl) (bg (he pins s σ H _ I h) fun u s1 ⟨x,H1,I1,rx,a,dx,fs,ex,ea,l,q⟩=>?_) ht
 subst ex
 obtain rfl:u=Value.ref a:=rx
 refine AS I1 ea c hm l ?_
 refine PySem.W.callWith_K (first:=[.ref a]) (h₀:=X.base) I.ok.mod.Oe hm.kp (bg (ha pos pins s1 σ H1 _ I1 q) fun us s2 ⟨vs,H2,I2,r,q2⟩=>⟨I2.qY,?_⟩) hst hpl
 exact GF (us:= .ref a::us) (vs:= .ref a::vs) F hr hb hd hx I2 (.cons rfl r) q2
theorem Q6 {pl:Sem Bool} (he:PE X o ta) (c:nj X.K C) (hm:Meth X.K C m f) (F:iO X.prog X.w X.K X.mg X.base CX k f fd ps sp) (hr:c7 k X.A) (hb:Binds X.K fd ps ds) (hd:Vals ir ds) (hx:Passes CX X E)
  (ht:eval (.Call (.Attribute o m apos) [] [] pos) X.env=(do
    let ov <-eval o X.env
    standAt apos.atName
    let (f,first) <-holding [ov] (getMethod ov m pl)
    callWith pos f first (backTo pos (starEach [] X.env)) (backToKw pos (keywordEach [] X.env))):=by rfl):
  PE X (.Call (.Attribute o m apos) [] [] pos) (AV C m sp ir E ta qG):=by
 intro pins s σ H Q I h
 refine PySem.W.methodCall_KW (pl:=pl) (bg (he pins s σ H _ I h) fun u s1 ⟨x,H1,I1,rx,a,dx,fs,ex,ea,l,q⟩=>?_) ht
 subst ex
 obtain rfl:u=Value.ref a:=rx
 refine AS I1 ea c hm l ?_
 exact PySem.W.callWith_K0 (first:=[.ref a]) I1.qY hm.kp (GF (us:=[.ref a]) (vs:=[.ref a]) F hr hb hd hx I1 (.cons rfl .nil) q)
structure Mk (K:Fg) (C f:Addr):Prop where
 makes:PySem.W.makesIn K C=true
 init:PySem.W.findIn K (.ref C) "__init__"=some (some (.ref f))
 fn:PySem.W.isFn K (.ref f)=true
 kp:PySem.W.keepIn K (.ref C)=true
theorem GG {Q:VK} (M:Mk X.K C f) (F:iO X.prog X.w X.K X.mg X.base CX k f fd ps sp) (hr:c7 (k+1) X.A) (hb:Binds X.K fd ps ds) (hd:Vals ir ds)
  (hx:Passes CX X E) (I:Inv X pins σ H s) (r:Vals vs us)
  (h:∀x dx,H x=none->H dx=none->dx≠x->sp (.ref x::(vs++ir)) (upd (upd H dx (.own x)) x (.ins C dx [])) (fun v H2=>v = .bU/\Q (.ref x) H2) E):
  wpAny (model X.prog X.w) X.A (call (.ref C) us) (EP X pins σ Q) X.xe s:=by
 have hq:=h (s.heap.objs.size+1) s.heap.objs.size (I.hok.fresh (yK _)) (I.hok.fresh (aN _)) (eU (Nat.lt_succ_self _))
 have I2:=Inv.made (C:=C) I
 have r2:Vals (V.ref (s.heap.objs.size+1)::(vs++ir)) (Value.ref (s.heap.objs.size+1)::(us++ds)):= .cons rfl (r.append hd)
 have hl:(Value.ref (s.heap.objs.size+1)::us++ds).length=ps.length:=by
  have e:=r2.length
  rw [F.len _ _ _ _ hq] at e
  exact e.symm
 refine wpAny_call (Q0 (f:=f) I.qY M.makes M.init (lQ.mp M.fn) (AH (F.run _ X.stack _ _ ⟨Value.ref (s.heap.objs.size+1)::us,[]⟩ (Value.ref (s.heap.objs.size+1)::(us++ds)) _ _ E (hr.make C us [])
  (I2.V0.make C us []) (hb _ (Value.ref (s.heap.objs.size+1)::us) I2.qY hl) r2 hq) fun r s' hq'=>?_))
 cases r with
 | error e=>exact hx pins σ _ _ e s' I2 hq'
 | ok fl=>
   cases fl with
   | ret u=>
     obtain ⟨v,H',I3,rv,ev,q3⟩:=I2.after hq'
     subst ev
     exact ⟨rv,⟨V.ref (s.heap.objs.size+1),H',I3,Z,q3⟩⟩
   | next=>exact False.elim hq'
   | brk=>exact False.elim hq'
   | cont=>exact False.elim hq'
theorem T9 (M:Mk X.K C f) (F:iO X.prog X.w X.K X.mg X.base CX k f fd ps sp) (hr:c7 (k+1) X.A) (hg:Gl X x) (hm:X.mg x=some (.ref C)) (hb:Binds X.K fd ps ds) (hd:Vals ir ds) (hx:Passes CX X E)
  (ha:PA X (e::es) t) (hdb:(x==("__debug__":Str))=false:=by decide) (he:starEach (e::es) X.env=(false,eval e X.env)::starEach es X.env:=by rfl) (hpl:(backTo pos (starEach es X.env)).any (·.1)=false:=by rfl):
  PE X (.Call (.Name x p) (e::es) [] pos) (F0 C sp ir E t):=by
 intro pins s σ H Q I h
 refine Gj (uV I hg hm ?_ hdb)
 refine PySem.W.callWith_K (h₀:=X.base) I.ok.mod.Oe M.kp (bg (ha pos pins s σ H _ I h) fun us s1 ⟨vs,H1,I1,r,q⟩=>⟨I1.qY,?_⟩) he hpl
 exact GG M F hr hb hd hx I1 r q
theorem Q7 (M:Mk X.K C f) (F:iO X.prog X.w X.K X.mg X.base CX k f fd ps sp) (hr:c7 (k+1) X.A) (hg:Gl X x) (hm:X.mg x=some (.ref C)) (hb:Binds X.K fd ps ds) (hd:Vals ir ds) (hx:Passes CX X E)
  (hdb:(x==("__debug__":Str))=false:=by decide):PE X (.Call (.Name x p) [] [] pos) (F0 C sp ir E qG):=by
 intro pins s σ H Q I h
 refine Gj (uV I hg hm ?_ hdb)
 exact PySem.W.callWith_K0 I.qY M.kp (GG (us:=[]) M F hr hb hd hx I .nil h)
end
section
variable {X:Cx} {CX:uX} {k:Nat} {f C:Addr} {fd:FuncData} {ps ks:List Str} {sp:Sp} {E:XK} {x m:Str} {p pos apos kpos:Pos} {e o:Expr} {es:List Expr} {kws:List Keyword} {te ta:TE} {t tk:TA} {nm:Option Str}
variable {g:List Value->List Value->List Value} {gV:List V->List V->List V}
end
structure aO (N P:List Str) (sc:Scope):Prop where
 kind:sc.kind = .function
 co:sc.isCoroutine=false
 gen:sc.isGenerator=false
 nd:N.Nodup
 pre:N.take P.length=P
 par:∀x∈P,sc.names.lookup x=some .local\/sc.names.lookup x=some .cell
 V4:∀y∈sc.names,y.2 ≠ .free
theorem DR {kindOf:Str->Option NameKind} {x:Str}:∀{binds:List (Str×Value)} {m:SO},(∀v,(x,v)∉binds)->bindL kindOf binds m x=m x
 | [],_,_=>rfl
 | (n,v)::r,m,h=>by
   unfold bindL
   rw [DR fun w hw=>h w (cD _ hw)]
   split
   . have:x≠n:=by rintro rfl;exact h v cV
     simp [this]
   . rfl
theorem DS {kindOf:Str->Option NameKind} {x:Str}:∀{binds:List (Str×Value)} {m:SO},(∀v,(x,v)∉binds)->bindC kindOf binds m x=m x
 | [],_,_=>rfl
 | (n,v)::r,m,h=>by
   unfold bindC
   rw [DS fun w hw=>h w (cD _ hw)]
   split
   . rfl
   . have:x≠n:=by rintro rfl;exact h v cV
     simp [this]
theorem DT {kindOf:Str->Option NameKind} {x:Str} {v:Value}:∀{P:List Str} {vs:List Value} {i:Nat} {m:SO},P.Nodup->P[i]?=some x->vs[i]?=some v->kindOf x=some .local->
  bindL kindOf (P.zip vs) m x=some v
 | [],_,_,_,_,h,_,_=>by simp at h
 | _::_,[],_,_,_,_,h,_=>by simp at h
 | p::P,w::vs,0,m,nd,h1,h2,hk=>by
   simp at h1 h2;subst h1;subst h2
   show bindL kindOf ((p,w)::P.zip vs) m p=_
   unfold bindL
   rw [DR fun v hv=>(fO.mp nd).1 (List.of_mem_zip hv).1,aB hk]
   simp
 | p::P,w::vs,i+1,m,nd,h1,h2,hk=>by
   show bindL kindOf ((p,w)::P.zip vs) m x=_
   unfold bindL
   exact DT (i:=i) (fO.mp nd).2 (by simpa using h1) (by simpa using h2) hk
theorem DU {kindOf:Str->Option NameKind} {x:Str} {v:Value}:∀{P:List Str} {vs:List Value} {i:Nat} {m:SO},P.Nodup->P[i]?=some x->vs[i]?=some v->kindOf x≠some .local->
  bindC kindOf (P.zip vs) m x=some v
 | [],_,_,_,_,h,_,_=>by simp at h
 | _::_,[],_,_,_,_,h,_=>by simp at h
 | p::P,w::vs,0,m,nd,h1,h2,hk=>by
   simp at h1 h2;subst h1;subst h2
   show bindC kindOf ((p,w)::P.zip vs) m p=_
   unfold bindC
   rw [DS fun v hv=>(fO.mp nd).1 (List.of_mem_zip hv).1,aA hk]
   simp
 | p::P,w::vs,i+1,m,nd,h1,h2,hk=>by
   show bindC kindOf ((p,w)::P.zip vs) m x=_
   unfold bindC
   exact DU (i:=i) (fO.mp nd).2 (by simpa using h1) (by simpa using h2) hk
def start (N:List Str) (vs:List V):St:=vs.map some++List.replicate (N.length-vs.length) none
def cu (CX:uX) (P:Program) (w:World) (K:Fg) (mg:SO) (base:Heap) (N:List Str) (qual:Str) (scope:Scope) (f:Addr) (cd:Value) (A:Around) (outer:List Env) (s:Shared) (H:Hp) (E:XK):Cx where
 prog:=P
 w:=w
 K:=K
 mg:=mg
 base:=base
 A:=A.deeper (envOfC qual scope s.heap.objs.size f cd)
 N:=N
 s₀:=s
 H₀:=H
 env:=envOfC qual scope s.heap.objs.size f cd
 outer:=outer
 stack:=envOfC qual scope s.heap.objs.size f cd::outer
 ex:=[]
 calm:=true
 fn:=fun _=>true
 pn:=[]
 xe:=fun e s'=>wpAny (model P w) (A.deeper (envOfC qual scope s.heap.objs.size f cd)) (leaving (envOfC qual scope s.heap.objs.size f cd) e) (fun _ s''=>CX outer H s E e s'') (fun e' s''=>CX outer H s E e' s'') s'
theorem GH {sc:Scope} {n:Nat} (h:sc.names.lookup x=some .cell):∃c,(cellsFrom n sc.names []).lookup x=some c:=by
 have q:=PySem.W.cellsFrom_some sc.names n [] (.inl h)
 exact Option.isSome_iff_exists.mp q
variable {qual:Str} {scope:Scope} {f:Addr}
theorem Oz {CX:uX} {w:World} {cd:Value} {A:Around} {outer:List Env} {s1:Shared} {E:XK}
  (S:aO N ps scope) (hd:A.handled=none) (e0:zS P w K mg base A outer s H) (hl:vs.length=ps.length) (r:Vals vs us)
  (x:InCallC s s.heap.objs.size (bindL (envOfC qual scope s.heap.objs.size f cd).kindOf (ps.zip us) fun _=>none) (cellsFrom (s.heap.objs.size+1) scope.names []) (bindC (envOfC qual scope s.heap.objs.size f cd).kindOf (ps.zip us) fun _=>none) s1):
  Inv (cu CX P w K mg base N qual scope f cd A outer s H E) [] (start N vs) H s1:=by
 have hpl:ps.length<=N.length:=by have:=jY List.length S.pre;rw [rQ] at this;omega
 obtain ⟨h1,tk,rfl,hk⟩:=x.done
 have OA:∀b:Addr,b∉(cu CX P w K mg base N qual scope f cd A outer s H E).ex:=fun b z=>absurd (show b∈([] :List Addr) from z) (by simp)
 refine ⟨⟨e0.mod,S.kind,Z,Z,aN _,fun y z c h1 h2=>?_,fun y hy=>?_,fun y c _ h=>?_,fun _=>hd,Around.frames_deeper e0.frames, .inr ⟨Z,Z⟩,fun b z=>absurd z (OA b),e0.bs,e0.DP,fun b _ _=>OA b,fun b z=>absurd z (OA b),e0.m_,e0.Gw⟩,
  rfl,e0.bare,Un.kept hk,⟨_,x.toInCall.ns,fun i y v h1 h2 h3=>?_⟩,fun y c h=>⟨_,x.cell y c h⟩,e0.hok.fresh (aN _),fun y c h=>?_,fun p hp=>absurd (show p∈([] :AO) from hp) (by simp),e0.hok.kept hk,?_⟩
 . exact name_of_addr x.apart (vv h1) (vv h2)
 . have hy:scope.names.lookup y=some .cell\/scope.names.lookup y=some .free:=hy
   rcases hy with hy|hy
   . exact GH hy
   . exact absurd rfl (S.V4 _ (vv hy))
 . exact AG (x.above y c (vv h))
 . have hi:i<vs.length:=by
    unfold start at h2
    by_cases hi:i<vs.length
    . exact hi
    . rw [Lg (by simpa using hi)] at h2
      rw [List.getElem?_replicate] at h2
      split at h2 <;> cases h2
   have ha:vs[i]?=some v:=by
    unfold start at h2
    rw [Gf (by simpa using hi),bN] at h2
    cases e:vs[i]? with
    | none=>rw [e] at h2;cases h2
    | some a=>rw [e] at h2;cases h2;rfl
   obtain ⟨u,hu,rv⟩:=r.get ha
   have hp:ps[i]?=some y:=by
    rw [<-S.pre,List.getElem?_take_of_lt (by omega)];exact h1
   have Z5:ps.Nodup:=by rw [<-S.pre];exact S.nd.sublist (List.take_sublist _ _)
   refine ⟨u,rv,?_⟩
   rcases S.par y (bO hp) with k|k
   . exact .inl ⟨k,DT Z5 hp hu k⟩
   . obtain ⟨c,e⟩:=GH (n:=s.heap.objs.size+1) k
     refine .inr ⟨.inl k,c,e,?_⟩
     have q:=x.cell y c e
     rw [DU Z5 hp hu (by show scope.names.lookup y≠_;rw [k];decide)] at q
     exact q
 . exact e0.hok.fresh (AG (x.above y c (vv h)))
 . unfold start
   show _=N.length
   rw [dw,aD,m5]
   omega
variable {body:List Stmt} {doc pm cdv ct oc:Value} {an od:Option Addr}
theorem MW {CX:uX} {w:World} {k:Nat} {name:Str} {params:Arguments} {dV kV:Value}
  {osl:Array (Option Value)} {N ps:List Str} {sp:Sp} (lk:K.lookup f=some ⟨oc,od, .func (PySem.W.fnOf name qual params body scope dV kV doc pm an cdv ct),osl⟩) (hcd:PySem.W.codeIn K cdv qual=true) (S:aO N ps scope)
  (len:∀vs H Q E,sp vs H Q E->vs.length=ps.length)
  (hbody:∀(A:Around) (outer:List Env) (s:Shared) (H:Hp) (vs:List V) (Q:VK) (E:XK),c7 k (A.deeper (envOfC qual scope s.heap.objs.size f cdv))->sp vs H Q E->
    ∃t,oH (cu CX P w K mg base N qual scope f cdv A outer s H E) body t/\t { nx:=fun _ H'=>Q .bU H',rt:=Q } (start N vs) H):
  iO P w K mg base CX (k+1) f (PySem.W.fnOf name qual params body scope dV kV doc pm an cdv ct) ps sp:=by
 refine ⟨len,fun A outer s H args us vs Q E hr e0 hb r nq=>?_⟩
 have hl:=len _ _ _ _ nq
 have KX:K.In s.heap:=e0.mod.Oe.keeps fun b o e=>(e0.bs b o e).1
 have lim:s.heap.NoLimit:=e0.mod.nolimit.keeps fun b o e=>(e0.bs b o e).1
 have hkind:∀y∈ps.zip us,scope.names.lookup y.1=some .local\/(scope.names.lookup y.1=some .cell/\((cellsFrom (s.heap.objs.size+1) scope.names []).lookup y.1).isSome=true):=fun ⟨n,v⟩ hy=>by
  rcases S.par n (List.of_mem_zip hy).1 with q|q
  . exact .inl q
  . exact .inr ⟨q,PySem.W.cellsFrom_some _ _ _ (.inl q)⟩
 refine codeAny_call_function hr.depth (KX _ _ lk) rfl S.co S.gen rfl (PySem.W.codeRec_of KX hcd) (hb _ _ _ _ ?_)
 refine wpAny_newFunctionEnv_cells S.kind hkind fun env he s1 x=>?_
 subst he
 refine ⟨lim.keeps x.toInCall.keep,codeAny_func ?_⟩
 obtain ⟨t,ht,hq⟩:=hbody A outer s H vs Q E (hr.deeper _) nq
 have I:Inv (cu CX P w K mg base N qual scope f cdv A outer s H E) [] (start N vs) H s1:=Oz S hr.hd e0 hl r x
 refine iU (ht [] s1 (start N vs) H _ I hq) (fun fl s' hs=>?_) fun e s' hs=>hs
 have fin:∀{σ':St} {H':Hp} {v:V} {u:Value},Inv (cu CX P w K mg base N qual scope f cdv A outer s H E) [] σ' H' s'->RelV v u->Q v H'->CE outer P w H s Q u s':=
  fun {σ' H' v u} J rv q=>⟨v,H',J.os,J.bare,J.base,J.hok,rv,q⟩
 cases fl with
 | ret u=>
   obtain ⟨v,σ',H',J,rv,q⟩:=hs
   exact fin J rv q
 | next=>
   obtain ⟨σ',H',J,q⟩:=hs
   exact fin (v:=V.bU) (u:=Value.none) J rfl q
 | brk=>
   obtain ⟨_,_,_,q⟩:=hs
   exact False.elim q
 | cont=>
   obtain ⟨_,_,_,q⟩:=hs
   exact False.elim q
section
variable {X:Cx} {x:Str} {p pos:Pos} {e:Expr} {es:List Expr} {t:TA} {id T:String} {r:List V->Hp->VK->Prop}
def acf (r:List V->Hp->VK->Prop) (Q:VK):List V->Hp->Prop:=fun vs H1=>r vs H1 Q
def V5 (r:List V->Hp->VK->Prop) (t:TA):TE:=fun σ H Q=>t σ H (acf r Q)
end
end L2
namespace HT
open PySem PyProof.Rows
section
open PySem.SeqAt
open PySem.AutoSeq1 (wpAny_loadPart')
open PySem.MeetsSeq PySem.MeetsSeq2 PySem.MeetsSeq3
end
section
variable {prog:Program} {w:World} {A:Around} {E:VS} {s:Shared}
end
end HT
namespace L2
open PySem PySem.Spec PyProof.Rows
variable {ns:List Int}
theorem intsAre_of:∀{us:List Value},Vals (ns.map V.int) us->IntsAre us ns:=by
 induction ns with
 | nil=>intro us r;rw [List.map_nil] at r;cases r;exact .nil
 | cons n ns ih=>
   intro us r
   rw [bJ] at r
   cases r with
   | cons r1 r2=>
     obtain ⟨t,e⟩:=r1
     subst e
     exact .cons n t (ih r2)
section
variable {X:Cx} {e:Expr} {te:TE} {lo hi:Option Expr} {tl th:TO} {pos p2:Pos}
end
def AW (n:Nat) (i:Int):Option Nat:=if 0<=i then (if i<n then some i.toNat else none) else if -(n:Int)<=i then some (i+n).toNat else none
def qj {α:Type} (xs:List α) (i:Int):Option α:=(AW xs.length i).bind fun j=>xs[j]?
variable {j:Nat}
theorem Ls {n:Nat} {i:Int} (h:AW n i=some j):seqIndex? i n=some j/\j<n/\-(n:Int)<=i/\i<n:=by
 unfold AW at h
 by_cases h0:0<=i
 . rw [aB h0] at h
   by_cases h1:i<n
   . rw [aB h1] at h
     have e:i.toNat=j:=gq h
     exact ⟨by rw [seqIndex_of h0 h1,e],by omega,by omega,h1⟩
   . rw [aA h1] at h;cases h
 . rw [aA h0] at h
   by_cases h1:-(n:Int)<=i
   . rw [aB h1] at h
     have e:(i+n).toNat=j:=gq h
     exact ⟨by rw [seqIndex_neg (by omega) h1,e],by omega,h1,by omega⟩
   . rw [aA h1] at h;cases h
theorem yN {α:Type} {xs:List α} {i:Int} {v:α} (h:qj xs i=some v):∃j,seqIndex? i xs.length=some j/\xs[j]?=some v/\j<xs.length/\-(xs.length:Int)<=i/\i<xs.length:=by
 unfold qj at h
 cases e:AW xs.length i with
 | none=>rw [e] at h;cases h
 | some j=>
   rw [e] at h
   obtain ⟨h1,h2,h3,h4⟩:=Ls e
   exact ⟨j,h1,h,h2,h3,h4⟩
theorem au {α:Type} {xs:List α} {v:α} (h:xs[j]?=some v):qj xs (j:Int)=some v:=by
 have hj:j<xs.length:=(dP.mp h).1
 have e:AW xs.length (j:Int)=some j:=by
  unfold AW
  rw [aB (by omega),aB (by omega)];simp
 unfold qj;rw [e];exact h
def T_ (b:Expr):Prop:=∀o i,subscripted b false o i=operate [o,i] (getItem o i)
def wW (X:Cx) (r:R2):Prop:=
 ∀(value slice:Expr) (pins:AO) (s:Shared) (σ:St) (H:Hp) (x y:V) (v u:Value) (Q:VK),Inv X pins σ H s->RelV x v->RelV y u->r x y H Q->
  subscripted slice false v u=operate [v,u] (getItem v u)->wpAny (model X.prog X.w) X.A (subscriptTail value slice v u) (EP X pins σ Q) X.xe s
def MtR (X:Cx) (id:String) (r:V->List V->Hp->VK->Prop):Prop:=
 ∀(pins:AO) (s:Shared) (σ:St) (H:Hp) (x:V) (xs:List V) (v:Value) (us:List Value) (Q:VK),Inv X pins σ H s->RelV x v->Vals xs us->r x xs H Q->
  wpAny (model X.prog X.w) X.A (call (.builtin id) (v::us)) (EP X pins σ Q) X.xe s
variable {pins:AO} {σ:St} {H:Hp} {s:Shared} {xs ys:List V} {its its':List Value} {y:V} {u:Value}
section
variable {X:Cx} {a b:Expr} {ta tb:TE} {pos:Pos}
theorem wW.or {r r':R2} (h:wW X r) (h':wW X r'):wW X (fun x y H Q=>r x y H Q\/r' x y H Q):=by
 intro value slice pins s σ H x y v u Q I rx ry q hs
 rcases q with q|q
 . exact h value slice pins s σ H x y v u Q I rx ry q hs
 . exact h' value slice pins s σ H x y v u Q I rx ry q hs
inductive MX (K:Fg) (x:V) (y:V) (H:Hp) (Q:VK):Prop
 | mk  (p xs i v:_) (_:x = .ref p) (_:y = .int i) (_:aH K H p xs) (_:qj xs i=some v) (_:Q v H)
inductive Q8 (K:Fg) (x:V) (y:V) (H:Hp) (Q:VK):Prop
 | mk  (p xs i v:_) (_:x = .ref p) (_:y = .int i) (_:cQ K H p xs) (_:qj xs i=some v) (_:Q v H)
inductive V6 (x:V) (y:V) (H:Hp) (Q:VK):Prop
 | mk  (z i c:_) (_:x = .str z) (_:y = .int i) (_:z.length<=sizeLine) (_:qj z.cps.toList i=some c) (_:Q (.str ⟨#[c]⟩) H)
theorem Lu:wW X (MX X.K):=by
 intro value slice pins s σ H x y v u Q I rx ry h hs
 obtain ⟨p,xs,i,z,rfl,rfl,hq,he,q⟩:=h
 cases rx
 obtain ⟨t,rfl⟩:=ry
 obtain ⟨its,r,pl,hz⟩:=I.list hq
 obtain ⟨j,h1,h2,h3,h4,h5⟩:=yN he
 obtain ⟨w,ew,rw'⟩:=r.get h2
 have hl:=r.length
 have hn:=rS
 have fin:EP X pins σ Q w s:=⟨z,H,I,rw',q⟩
 by_cases h0:0<=i
 . have hj:i.toNat=j:=by
    rw [seqIndex_of h0 h5] at h1
    exact gq h1
   exact item_listR pl.isList h0 (by omega) (by rw [hj];simpa using ew) fin hs
 . have hj:(i+(its.toArray.size:Int)).toNat=j:=by
    rw [seqIndex_neg (by omega) h4] at h1
    rw [gG,<-hl]
    exact gq h1
   exact subscriptTail_builtinR (x:=w) pl.isList.typeIs slot_list_getitem.lookup
    (wpAny_getItem_list_neg (Q:=fun r s'=>r=w/\EP X pins σ Q r s') pl.isList (by omega) (by rw [gG] <;> omega) (by omega) (by rw [hj];simpa using ew) ⟨Z,fin⟩) hs
theorem OB:wW X (Q8 X.K):=by
 intro value slice pins s σ H x y v u Q I rx ry h hs
 obtain ⟨p,xs,i,z,rfl,rfl,hq,he,q⟩:=h
 cases rx
 obtain ⟨t,rfl⟩:=ry
 obtain ⟨its,r,pl,hz⟩:=I.tuple hq
 obtain ⟨j,h1,h2,h3,h4,h5⟩:=yN he
 obtain ⟨w,ew,rw'⟩:=r.get h2
 have hl:=r.length
 have hn:=rS
 have fin:EP X pins σ Q w s:=⟨z,H,I,rw',q⟩
 exact subscriptTail_builtinR (x:=w) pl.typeIs slot_tuple_getitem.lookup
  (getItem_tuple (j:=j) (Q:=fun r s'=>r=w/\EP X pins σ Q r s') pl (by omega) (by omega) (by rw [gG,<-hl];exact h1) (by simpa using ew) ⟨Z,fin⟩) hs
theorem OC:wW X V6:=by
 intro value slice pins s σ H x y v u Q I rx ry h hs
 obtain ⟨z,i,c,rfl,rfl,hz,he,q⟩:=h
 obtain ⟨t,rfl⟩:=rx
 obtain ⟨t',rfl⟩:=ry
 obtain ⟨j,h1,h2,h3,h4,h5⟩:=yN he
 have hl:z.cps.toList.length=z.length:=by simp [Str.length]
 rw [hl] at h1 h4 h5
 have hn:=rS
 exact tail_any (typeIs_str s z t) slot_str_getitem.lookup (getItem_str (c:=c) (by
  have e1:decide (i < -(2 ^ 63:Int))=false:=dR (by omega)
  have e2:decide (i≥2 ^ 63)=false:=dR (by omega)
  rw [e1,e2,Bool.or_false]) (by rw [h1];simpa using h2) ⟨.str ⟨#[c]⟩,H,I.tok _,⟨_,Z⟩,q⟩) hs
def V7 (K:Fg):R2:=fun x y H Q=>MX K x y H Q\/Q8 K x y H Q\/V6 x y H Q
theorem V8:wW X (V7 X.K):=Lu.or (OB.or OC)
theorem MY (its:List Value) (n j:Nat) (u:Value):Obj.mapSeq (·.setIfInBounds j u) { cls:= .type "list",data:= .seq its.toArray n }={ cls:= .type "list",data:= .seq (its.set j u).toArray n }:=by
 simp [Obj.mapSeq]
theorem Inv.lst {pins:AO} {σ:St} {H:Hp} {s:Shared} {p:Addr} {xs:List V} (I:Inv X pins σ H s) (h:H p=some (.lst xs)):
  ∃(its:List Value) (n:Nat),Vals xs its/\s.heap.get? p=some { cls:= .type "list",data:= .seq its.toArray n }/\xs.length<=sizeLine:=by
 obtain ⟨z,its,n,r,e⟩:=I.hok p _ h
 exact ⟨its,n,r,e,z⟩
theorem Inv.V9 {p:Addr} {n n':Nat} {f:Obj->Obj} (I:Inv X pins σ H s) (h:H p=some (.lst xs))
  (ho:s.heap.get? p=some { cls:= .type "list",data:= .seq its.toArray n }) (hf:f { cls:= .type "list",data:= .seq its.toArray n }={ cls:= .type "list",data:= .seq its'.toArray n' }) (r:Vals ys its') (hz:ys.length<=sizeLine) (t:Nat):
  Inv X pins σ (upd H p (.lst ys)) { s with heap:=s.heap.update p f,toks:=t }:=by
 have e:(s.heap.update p f).get? p=some { cls:= .type "list",data:= .seq its'.toArray n' }:=by
  rw [Mu f ho (by rw [hf] <;> rfl),hf]
 refine I.write (x:=p) (e:=p) (by rw [h];trivial) (.inl rfl) (fun b u hb q=>(Heap.get?_update_other _ _ (cM hb)).trans q) ⟨_,e⟩ ?_
 exact ⟨hz,its',n',r,e⟩
inductive Y3 (o:V) (i:V) (v:V) (H:Hp) (Q:Hp->Prop):Prop
 | mk  (p xs k j:_) (_:o = .ref p) (_:i = .int k) (_:H p=some (.lst xs)) (_:AW xs.length k=some j) (_:Q (upd H p (.lst (xs.set j v))))
theorem set_list:QM X Y3:=by
 intro pins s σ H o i v ov iv u Q I ro ri rv h
 obtain ⟨p,xs,k,j,rfl,rfl,hp,hj,q⟩:=h
 cases ro
 obtain ⟨t,rfl⟩:=ri
 obtain ⟨its,n,r,ho,hz⟩:=I.lst hp
 obtain ⟨h1,h2,h3,h4⟩:=Ls hj
 have hl:=r.length
 have hn:=rS
 have I':Inv X pins σ (upd H p (.lst (xs.set j v))) { s with heap:=s.heap.update p (Obj.mapSeq (·.setIfInBounds j u)) }:=
  I.V9 hp ho (MY its n j u) (r.set rv j) (by rw [gK];exact hz) s.toks
 by_cases h0:0<=k
 . have hk:k.toNat=j:=by
    rw [seqIndex_of h0 h4] at h1
    exact gq h1
   exact PySem.W.ki_setAt ho h0 (by omega) (by rw [gG,<-hl];exact h4) (by rw [hk];exact ⟨_,I',q⟩)
 . have hk:(k+(its.toArray.size:Int)).toNat=j:=by
    rw [seqIndex_neg (by omega) h3] at h1
    rw [gG,<-hl]
    exact gq h1
   exact PySem.W.ki_setBack ho (by omega) (by rw [gG,<-hl];exact h3) (by omega) (by rw [hk];exact ⟨_,I',q⟩)
def pY:V->Bool
 | .bU=>true
 | .bl _=>true
 | .int _=>true
 | .str _=>true
 | _=>false
def wX:V->V->Bool
 | .bU, .bU=>true
 | .bl a, .bl b=>a==b
 | .bl a, .int b=>(if a then 1 else 0)==b
 | .int a, .bl b=>a==(if b then 1 else 0)
 | .int a, .int b=>a==b
 | .str a, .str b=>a==b
 | _,_=>false
theorem V_ {A:Around} {x:V} {v:Value} (ry:RelV y u) (rx:RelV x v) (fy:pY y=true) (fx:pY x=true):SeqAt.EqAt A s u v (wX y x):=by
 cases y with
 | bU=>
   cases ry
   cases x with
   | bU=>cases rx;exact SeqAt.EqAt.same _
   | bl b=>cases rx;exact SeqAt.EqAt.none_bool b
   | int b=>obtain ⟨t,rfl⟩:=rx;exact SeqAt.EqAt.none_int b t
   | str b=>obtain ⟨t,rfl⟩:=rx;exact SeqAt.EqAt.none_str b t
   | _=>exact absurd (show false=true from fx) fh
 | bl a=>
   cases ry
   cases x with
   | bU=>cases rx;exact SeqAt.EqAt.bool_none a
   | bl b=>cases rx;exact SeqAt.EqAt.bool_bool a b
   | int b=>obtain ⟨t,rfl⟩:=rx;exact SeqAt.EqAt.bool_int a b t
   | str b=>obtain ⟨t,rfl⟩:=rx;exact SeqAt.EqAt.bool_str a b t
   | _=>exact absurd (show false=true from fx) fh
 | int a=>
   obtain ⟨t',rfl⟩:=ry
   cases x with
   | bU=>cases rx;exact SeqAt.EqAt.int_none a t'
   | bl b=>cases rx;exact SeqAt.EqAt.int_bool a t' b
   | int b=>obtain ⟨t,rfl⟩:=rx;exact SeqAt.EqAt.int_int a t' b t
   | str b=>obtain ⟨t,rfl⟩:=rx;exact SeqAt.EqAt.int_str a t' b t
   | _=>exact absurd (show false=true from fx) fh
 | str a=>
   obtain ⟨t',rfl⟩:=ry
   cases x with
   | bU=>cases rx;exact SeqAt.EqAt.str_none a t'
   | bl b=>cases rx;exact SeqAt.EqAt.str_bool a t' b
   | int b=>obtain ⟨t,rfl⟩:=rx;exact SeqAt.EqAt.str_int a t' b t
   | str b=>obtain ⟨t,rfl⟩:=rx;exact SeqAt.EqAt.str_str a t' b t
   | _=>exact absurd (show false=true from fx) fh
 | _=>exact absurd (show false=true from fy) fh
def rT (x:V) (u:Value):Bool:=match u with
 | .none=>wX .bU x
 | .bool b=>wX (.bl b) x
 | .int i _=>wX (.int i) x
 | .str z _=>wX (.str z) x
 | _=>false
theorem OD {x:V} (r:RelV y u) (f:pY y=true):rT x u=wX y x:=by
 cases y with
 | bU=>cases r;rfl
 | bl b=>cases r;rfl
 | int i=>obtain ⟨t,rfl⟩:=r;rfl
 | str z=>obtain ⟨t,rfl⟩:=r;rfl
 | _=>exact absurd (show false=true from f) fh
theorem uY {x:V}:∀{xs:List V} {us:List Value},Vals xs us->xs.all pY=true->us.any (rT x)=xs.any fun y=>wX y x
 | _,_, .nil,_=>rfl
 | y::xs,u::us, .cons r t,f=>by
   rw [List.all_cons,Gs] at f
   rw [AD,AD,OD r f.1,uY t f.2]
theorem rV {A:Around} {s:Shared} {x:V} {v:Value} (rx:RelV x v) (fx:pY x=true):∀{xs:List V} {us:List Value},Vals xs us->xs.all pY=true->∀u∈us,SeqAt.EqAt A s u v (rT x u)
 | _,_, .nil,_=>fun u hu=>by cases hu
 | y::xs,u::us, .cons r t,f=>fun u' hu=>by
   rw [List.all_cons,Gs] at f
   rcases c9.mp hu with rfl|hu
   . rw [OD r f.1];exact V_ r rx f.1 fx
   . exact rV rx fx t f.2 u' hu
def DV (x:V) (xs:List V):Bool:=xs.any fun y=>wX y x
inductive Z6 (K:Fg) (neg:Bool) (x:V) (y:V) (H:Hp) (Q:VK):Prop
 | mk  (p xs:_) (_:y = .ref p) (_:(aH K H p xs\/cQ K H p xs)) (_:pY x=true) (_:xs.all pY=true) (_:Q (.bl (if neg then !DV x xs else DV x xs)) H)
theorem OE:ji X (compareOp .In) (Z6 X.K false):=by
 intro pins s σ H x y v u Q I rx ry h
 obtain ⟨p,xs,rfl,hq,fx,fs,q⟩:=h
 cases ry
 rcases hq with hq|hq
 . obtain ⟨its,r,pl,hz⟩:=I.list hq
   refine SeqAt.in_listAt (rT x) pl.isList (fun w hw=>rV rx fx r fs w (by simpa using hw)) ⟨.bl _,H,I,Z,?_⟩
   rw [show its.toArray.any (rT x)=its.any (rT x) by simp,uY r fs]
   exact q
 . obtain ⟨its,r,pl,hz⟩:=I.tuple hq
   refine SeqAt.in_tupleAt (rT x) pl (fun w hw=>rV rx fx r fs w (by simpa using hw)) ⟨.bl _,H,I,Z,?_⟩
   rw [show its.toArray.any (rT x)=its.any (rT x) by simp,uY r fs]
   exact q
theorem GI:ji X (compareOp .NotIn) (Z6 X.K true):=by
 intro pins s σ H x y v u Q I rx ry h
 obtain ⟨p,xs,rfl,hq,fx,fs,q⟩:=h
 cases ry
 rcases hq with hq|hq
 . obtain ⟨its,r,pl,hz⟩:=I.list hq
   refine SeqAt.notIn_listAt (rT x) pl.isList (fun w hw=>rV rx fx r fs w (by simpa using hw)) ⟨.bl _,H,I,Z,?_⟩
   rw [show its.toArray.any (rT x)=its.any (rT x) by simp,uY r fs]
   exact q
 . obtain ⟨its,r,pl,hz⟩:=I.tuple hq
   refine SeqAt.notIn_tupleAt (rT x) pl (fun w hw=>rV rx fx r fs w (by simpa using hw)) ⟨.bl _,H,I,Z,?_⟩
   rw [show its.toArray.any (rT x)=its.any (rT x) by simp,uY r fs]
   exact q
theorem GJ:iK X (.builtin "len") (fun xs H Q=>∃p ys,xs=[.ref p]/\(aH X.K H p ys\/cQ X.K H p ys)/\Q (.int ys.length) H):=by
 intro pins s σ H xs us Q I r h
 obtain ⟨p,ys,rfl,hq,q⟩:=h
 obtain ⟨u,rfl,rx⟩:=vals1 r
 cases rx
 have hn:=rS
 rcases hq with hq|hq
 . obtain ⟨its,r',pl,hz⟩:=I.list hq
   have hlen:=r'.length
   exact Calls.call_len_list pl.isList (by simp only [gG] <;> omega) ⟨.int ys.length,H,I.tok _,⟨s.toks+1,by rw [gG,hlen]⟩,q⟩
 . obtain ⟨its,r',pl,hz⟩:=I.tuple hq
   have hlen:=r'.length
   exact len_tuple pl (by simp only [gG] <;> omega) ⟨.int ys.length,H,I.tok _,⟨s.toks+1,by rw [gG,hlen]⟩,q⟩
theorem GK:iK X (.builtin "len") (fun xs H Q=>∃z,xs=[.str z]/\z.length<=sizeLine/\Q (.int z.length) H):=by
 intro pins s σ H xs us Q I r h
 obtain ⟨z,rfl,hz,q⟩:=h
 obtain ⟨u,rfl,t,rfl⟩:=vals1 r
 have hn:=rS
 exact len_str (by omega) ⟨.int z.length,H,I.tok _,⟨_,Z⟩,q⟩
theorem GL:iK X (.type "list") (fun xs H Q=>∃p ys,xs=[.ref p]/\(aH X.K H p ys\/cQ X.K H p ys)/\∀l,H l=none->Q (.ref l) (upd H l (.lst ys))):=by
 intro pins s σ H xs us Q I r h
 obtain ⟨p,ys,rfl,hq,q⟩:=h
 obtain ⟨u,rfl,rx⟩:=vals1 r
 cases rx
 have fin:∀(its:List Value),Vals ys its->ys.length<=sizeLine->∀(h':Heap) (c':Nat),(∀b o',s.heap.get? b=some o'->h'.get? b=some o')->
   h'.get? s.heap.objs.size=some { cls:= .type "list",dict:=none,data:= .seq its.toArray c',slots:=#[] }->EP X pins σ Q (.ref s.heap.objs.size) { s with heap:=h' }:=fun its r' hz h' c' kp e=>
  ⟨.ref s.heap.objs.size,_,I.laid (t':=s.toks) kp (aN _) (show d_ X.prog X.w _ h' _ (.lst ys) from ⟨hz,its,c',r',e⟩),Z,q _ (I.hok.fresh (aN _))⟩
 rcases hq with hq|hq
 . obtain ⟨its,r',pl,hz⟩:=I.list hq
   have hlen:=r'.length
   obtain ⟨o,ho,hc,n,hd⟩:=pl.isList
   exact call_list_seq p (.inl rfl) ho hc hd (fun h' c' kp e=>fin its r' hz h' c' kp e) (by simp only [gG] <;> omega)
 . obtain ⟨its,r',pl,hz⟩:=I.tuple hq
   have hlen:=r'.length
   obtain ⟨o,ho,hc,n,hd⟩:=pl
   exact call_list_seq p (.inr rfl) ho hc hd (fun h' c' kp e=>fin its r' hz h' c' kp e) (by simp only [gG] <;> omega)
theorem EK:iK X (.type "tuple") (fun xs H Q=>∃p ys,xs=[.ref p]/\((aH X.K H p ys/\∀l,H l=none->Q (.ref l) (upd H l (.tup ys)))\/(cQ X.K H p ys/\Q (.ref p) H))):=by
 intro pins s σ H xs us Q I r h
 obtain ⟨p,ys,rfl,h⟩:=h
 obtain ⟨u,rfl,rx⟩:=vals1 r
 cases rx
 rcases h with ⟨hq,q⟩|⟨hq,q⟩
 . obtain ⟨its,r',pl,hz⟩:=I.list hq
   have hlen:=r'.length
   refine call_tuple_list pl.isList (fun h' kp=>?_) (by simp only [gG] <;> omega)
   have I1:Inv X pins σ H { s with heap:=h' }:=I.kept (t':=s.toks) kp
   have I2:Inv X pins σ (upd H h'.objs.size (.tup ys)) { s with heap:=h'.push { cls:= .type "tuple",data:= .seq its.toArray } }:=
    I1.laid (t':=s.toks) (fun b o e=>b7 _ e) (aN _) (show d_ X.prog X.w _ _ _ (.tup ys) from ⟨hz,its,r',IsTup.new _ _⟩)
   exact ⟨.ref h'.objs.size,_,I2,Z,q _ (I1.hok.fresh (aN _))⟩
 . obtain ⟨its,r',pl,hz⟩:=I.tuple hq
   exact call_tuple_same pl ⟨.ref p,H,I,Z,q⟩
def Z7 (K:Fg) (T:String) (x:V) (H:Hp):Prop:=match x with
 | .str _=>T = "str"
 | .int _=>T = "int"
 | .ref p=>(T = "list"/\∃xs,aH K H p xs)\/(T = "tuple"/\∃o,K.lookup p=some o/\o.cls = .type "tuple"/\o.dict=none)\/
     (T = "dict"/\((∃kvs,H p=some (.dK kvs))\/∃kvs,H p=some (.dT kvs)))\/(T = "set"/\∃S n,H p=some (.set S n))
 | _=>False
theorem Wa {T:String} {x:V} {v:Value} (I:Inv X pins σ H s) (r:RelV x v) (ty:Z7 X.K T x H):
  s.TypeIs v T/\∀a,v = .ref a->∃ob,s.heap.get? a=some ob/\ob.dict=none:=by
 cases x with
 | str z=>
   obtain ⟨t,rfl⟩:=r
   cases (show T = "str" from ty)
   exact ⟨typeIs_str s z t,fun _ e=>nomatch e⟩
 | int i=>
   obtain ⟨t,rfl⟩:=r
   cases (show T = "int" from ty)
   exact ⟨typeIs_int s i t,fun _ e=>nomatch e⟩
 | ref p=>
   cases r
   rcases ty with ⟨rfl,xs,hq⟩|⟨rfl,o,hk,hc,hd⟩|⟨rfl,hk⟩|⟨rfl,S,n,hk⟩
   . obtain ⟨its,_,pl,_⟩:=I.list hq
     refine ⟨pl.isList.typeIs,fun a e=>?_⟩
     cases e
     obtain ⟨o,n,e,c,hd,_⟩:=pl
     exact ⟨o,e,hd⟩
   . refine ⟨⟨o,I.qY p o hk,hc⟩,fun a e=>?_⟩
     cases e
     exact ⟨o,I.qY _ o hk,hd⟩
   . have z:∃o,s.heap.get? p=some o/\o.ExactDict:=by
      rcases hk with ⟨kvs,hk⟩|⟨kvs,hk⟩
      . obtain ⟨_,_,_,_,o,_,_,e,ex,_⟩:=I.hok p _ hk
        exact ⟨o,e,ex⟩
      . obtain ⟨_,_,_,_,o,_,_,e,ex,_⟩:=I.hok p _ hk
        exact ⟨o,e,ex⟩
     obtain ⟨o,e,ex⟩:=z
     refine ⟨⟨o,e,ex.1⟩,fun a e2=>?_⟩
     cases e2
     exact ⟨o,e,ex.2.1⟩
   . obtain ⟨o,_,_,_,e,ex,_⟩:=I.hok p _ hk
     refine ⟨⟨o,e,ex.1⟩,fun a e2=>?_⟩
     cases e2
     exact ⟨o,e,ex.2.1⟩
 | _=>exact False.elim ty
def Wb (r:V->List V->Hp->VK->Prop) (Q:VK) (x:V):List V->Hp->Prop:=fun xs H2=>r x xs H2 Q
inductive acg (K:Fg) (T:String) (r:V->List V->Hp->VK->Prop) (t:TA) (σ:St) (Q:VK) (x:V) (H1:Hp):Prop
 | mk  (_:Z7 K T x H1) (_:t σ H1 (Wb r Q x))
def tBM (K:Fg) (T:String) (r:V->List V->Hp->VK->Prop) (to:TE) (t:TA):TE:=fun σ H Q=>to σ H (acg K T r t σ Q)
variable {o e:Expr} {es:List Expr} {to:TE} {t:TA} {name:Str} {apos cpos:Pos} {T id:String} {r:V->List V->Hp->VK->Prop}
end
def MtM (X:Cx) (id:String) (r:V->List V->Hp->VK->Prop):Prop:=
 ∀(pins:AO) (s:Shared) (σ:St) (H:Hp) (x:V) (xs:List V) (v:Value) (us:List Value) (Q:VK),Inv X pins σ H s->RelV x v->Vals xs us->r x xs H Q->
  wpAny (model X.prog X.w) X.A (call (.builtin id) (v::us)) (EP X pins σ Q) X.xe s
theorem Vals.one:∀{x:V} {us:List Value},Vals [x] us->∃u,us=[u]/\RelV x u
 | _,_, .cons r .nil=>⟨_,Z,r⟩
variable {us:List Value}
theorem Vals.reverse (h:Vals xs us):Vals xs.reverse us.reverse:=by
 induction h with
 | nil=>exact .nil
 | cons r t ih=>rw [List.reverse_cons,List.reverse_cons];exact Vals.append ih (.cons r .nil)
theorem Vals.rep {xs:List V} {us:List Value} (h:Vals xs us):∀k:Nat,Vals (List.replicate k xs).flatten (List.replicate k us).flatten
 | 0=> .nil
 | k+1=>by
   rw [zN,zN,ME,ME]
   exact Vals.append h (Vals.rep h k)
theorem foldl_rep (its:List Value):∀(k:Nat) (acc:List Value),
  List.foldl (fun x1 x2=>x1++x2) acc.toArray (List.replicate k its.toArray)=(acc++(List.replicate k its).flatten).toArray
 | 0,acc=>by simp
 | k+1,acc=>by
   have e:acc.toArray++its.toArray=(acc++its).toArray:=by simp
   have e2:(acc++its)++(List.replicate k its).flatten=acc++(List.replicate (k+1) its).flatten:=by
    rw [zN,ME,MF]
   rw [<-e2,<-foldl_rep its k (acc++its),<-e,zN,jW]
variable {t':Nat}
section
variable {X:Cx} {pins:AO} {σ:St} {H:Hp} {s:Shared} {l b:Addr} {xs ys zs:List V}
theorem Inv.ach {n:Nat} {f:Array Value->Array Value} (I:Inv X pins σ H s) (hH:H l=some (.lst xs))
  (e:s.heap.get? l=some { cls:= .type "list",data:= .seq its.toArray n }) (hf:f its.toArray=its'.toArray) (hv:Vals ys its') (hz:ys.length<=sizeLine):
  Inv X pins σ (upd H l (.lst ys)) { s with heap:=s.heap.update l (Obj.mapSeq f),toks:=t' }:=by
 have q:=PySem.IsL.update e f
 rw [hf] at q
 refine I.write (x:=l) (e:=l) (by rw [hH];exact trivial) (.inl rfl) (fun b' u hb hu=>(Heap.get?_update_other s.heap (Obj.mapSeq f) (cM hb)).trans hu) ⟨_,q⟩ ?_
 exact ⟨hz,its',_,hv,q⟩
theorem Inv.Wc (I:Inv X pins σ H s) (hv:Vals ys its) (hz:ys.length<=sizeLine):
  Inv X pins σ (upd H s.heap.objs.size (.lst ys)) { s with heap:=s.heap.push { cls:= .type "list",data:= .seq its.toArray },toks:=t' }:=
 I.laid (fun _ _ q=>b7 _ q) (aN _) ⟨hz,its,0,hv,dZ _ rfl⟩
theorem Inv.fresh (I:Inv X pins σ H s):H s.heap.objs.size=none:=I.hok.fresh (aN _)
theorem Inv.MZ (I:Inv X pins σ H s) (hH:H l=some (.lst xs)):xs.length<=sizeLine/\∃(its:List Value) (n:Nat),Vals xs its/\xs.length=its.length/\s.heap.get? l=some { cls:= .type "list",data:= .seq its.toArray n }:=by
 obtain ⟨z,its,n,r,e⟩:=I.hok l _ hH
 exact ⟨z,its,n,r,r.length,e⟩
theorem Q9 {n:Nat} (h:n<=sizeLine):Builtin.List.listTooLong n=false:=by
 unfold Builtin.List.listTooLong
 exact dR (by omega)
end
section
variable {X:Cx}
inductive Ua (x:V) (vs:List V) (H:Hp) (Q:VK):Prop
 | mk  (l xs y:_) (_:x = .ref l) (_:vs=[y]) (_:H l=some (.lst xs)) (_:xs.length<sizeLine) (_:Q .bU (upd H l (.lst (xs++[y]))))
theorem ef:MtM X "list.append" Ua:=by
 intro pins s σ H x vs v us Q I rx rv h
 obtain ⟨l,xs,y,rfl,rfl,hH,hz,q⟩:=h
 cases rx
 obtain ⟨u,rfl,ru⟩:=rv.one
 obtain ⟨z,its,n,r,hl,e⟩:=I.MZ hH
 refine call_meets F.slot_list_append ⟨_,e,Z⟩ F.entry_list_append (F.args_list_append_2 _ _) (PySem.list_append l its.toArray n u (by rw [gG];omega)) ⟨e,?_⟩
 refine ⟨.bU,_,I.ach (its':=its++[u]) hH e (by simp) (r.append (.cons ru .nil)) ?_,Z,q⟩
 rw [dw,List.length_singleton]
 omega
inductive aci (x:V) (y:V) (H:Hp) (Q:VK):Prop
 | mk  (l b xs zs:_) (_:x = .ref l) (_:y = .ref b) (_:H l=some (.lst xs)) (_:H b=some (.lst zs)) (_:xs.length+zs.length<=sizeLine) (_:∀p,H p=none->Q (.ref p) (upd H p (.lst (xs++zs))))
theorem Wd:ji X (binaryOp .Add) aci:=by
 intro pins s σ H x y v u Q I rx ry h
 obtain ⟨l,b,xs,zs,rfl,rfl,hH,hB,hz,q⟩:=h
 cases rx
 cases ry
 obtain ⟨z,its,n,r,hl,e⟩:=I.MZ hH
 obtain ⟨z2,its2,n2,r2,hl2,e2⟩:=I.MZ hB
 refine PySem.P.add_list e e2 ?_ (by rw [gG,gG];omega)
 have ea:its.toArray++its2.toArray=(its++its2).toArray:=by simp
 rw [ea]
 exact ⟨.ref _,_,I.Wc (t':=s.toks) (r.append r2) (by rw [dw];omega),Z,q _ I.fresh⟩
inductive acj (x:V) (y:V) (H:Hp) (Q:VK):Prop
 | mk  (l k xs:_) (_:x = .ref l) (_:y = .int k) (_:H l=some (.lst xs)) (_:-(2 ^ 63)<=k) (_:k<2 ^ 63) (_:xs.length*k.toNat<=sizeLine) (_:∀p,H p=none->Q (.ref p) (upd H p (.lst (List.replicate k.toNat xs).flatten)))
theorem len_rep {α:Type} (xs:List α) (k:Nat):(List.replicate k xs).flatten.length=k*xs.length:=by
 induction k with
 | zero=>simp
 | succ k ih=>rw [zN,ME,dw,ih,Nat.succ_mul,Nat.add_comm]
theorem OF:ji X (binaryOp .Mult) acj:=by
 intro pins s σ H x y v u Q I rx ry h
 obtain ⟨l,k,xs,rfl,rfl,hH,h1,h2,hz,q⟩:=h
 cases rx
 obtain ⟨t,rfl⟩:=ry
 obtain ⟨z,its,n,r,hl,e⟩:=I.MZ hH
 have hlen:its.toArray.size*k.toNat<=sizeLine:=by rw [gG,<-hl];exact hz
 have hcap:¬ its.toArray.size*k.toNat>(2 ^ 63-1) / 8:=by
  have:(sizeLine:Nat)<=(2 ^ 63-1) / 8:=by decide
  omega
 have hfit:¬ (!Builtin.List.listFitsIndex k)=true:=by
  rw [fitsIndex_both h1 h2]
  exact fh
 have Y4:¬ Builtin.List.listTooLong (its.toArray.size*k.toNat)=true:=by
  rw [Q9 hlen]
  exact fh
 have hnew:List.foldl (fun x1 x2=>x1++x2) #[] (List.replicate (if its.toArray.isEmpty=true then 0 else k.toNat) its.toArray)=(List.replicate k.toNat its).flatten.toArray:=by
  have f0:∀m:Nat,List.foldl (fun x1 x2=>x1++x2) #[] (List.replicate m its.toArray)=(List.replicate m its).flatten.toArray:=fun m=>by
   have:=foldl_rep its m []
   rw [FJ] at this
   exact this
  rw [f0]
  cases its with
  | nil=>simp
  | cons a r'=>rw [aA (by simp)]
 refine wpAny_binaryOp_repeat_ref (T:="list") (U:="int") (by decide) ⟨_,e,Z⟩ (fun s'=>typeIs_int s' k t) noFill_list_mul F.fills_int_mul F.slot_int_rmul repeat_list F.slot_int_index.lookup
  (call_meets F.slot_int_rmul (typeIs_int s k t) F.entry_int_rmul (F.args_int_rmul_2 _ _) (int___rmul___int_list k t l its.toArray n)
    ⟨e,Z,⟨_,e,Z⟩,call_meets F.slot_list_mul ⟨_,e,Z⟩ F.entry_list_mul (F.args_list_mul_2 _ _) (AutoListH.list___mul___list_int_3 l its.toArray n k t hfit hcap Y4) ⟨e,?_⟩⟩)
 rw [hnew]
 exact ⟨.ref _,_,I.Wc (t':=s.toks) (r.rep k.toNat) (by rw [len_rep,Nat.mul_comm];exact hz),Z,q _ I.fresh⟩
end
section
variable {prog:Program} {w:World} {A:Around} {E:VS} {s:Shared}
set_option maxRecDepth 100000 in
end
section
variable {X:Cx}
end
section
variable {κ:Type} [DecidableEq κ]
def dh (kvs:List (κ×V)) (k:κ):Option V:=(kvs.find? fun kv=>decide (kv.1=k)).map (·.2)
def putK (kvs:List (κ×V)) (k:κ) (v:V):List (κ×V):=
 if (kvs.any fun kv=>decide (kv.1=k))=true then kvs.map (fun kv=>if kv.1=k then (kv.1,v) else kv) else kvs++[(k,v)]
def kM (kvs:List (κ×V)) (k:κ):List (κ×V):=kvs.filter fun kv=>decide (kv.1≠k)
theorem fQ {p:κ×V} {r:List (κ×V)} {k:κ} (e:p.1=k):dh (p::r) k=some p.2:=by simp [dh,rj,e]
theorem d7 {p:κ×V} {r:List (κ×V)} {k:κ} (e:¬ p.1=k):dh (p::r) k=dh r k:=by simp [dh,rj,e]
theorem oW (k:κ):∀kvs:List (κ×V),(kvs.any fun kv=>decide (kv.1=k))=(dh kvs k).isSome
 | []=>rfl
 | p::r=>by
   rw [AD]
   by_cases e:p.1=k
   . simp only [fQ e,aY e,Bool.true_or,Option.isSome_some]
   . rw [d7 e,dR e,Bool.false_or];exact oW k r
theorem GN (k j:κ) (y:V):∀kvs:List (κ×V),dh (kvs.map fun kv=>if kv.1=k then (kv.1,y) else kv) j=(dh kvs j).map fun x=>if j=k then y else x
 | []=>rfl
 | p::r=>by
   have ih:=GN k j y r
   rw [bJ]
   by_cases h:p.1=k
   . rw [aB h]
     by_cases e:p.1=j
     . rw [fQ (p:=(p.1,y)) e,fQ e,FL,aB (e.symm.trans h)]
     . rw [d7 (p:=(p.1,y)) e,d7 e,ih]
   . rw [aA h]
     by_cases e:p.1=j
     . rw [fQ (p:=p) e,fQ e,FL,aA (fun z=>h (e.trans z))]
     . rw [d7 (p:=p) e,d7 e,ih]
theorem DW (k j:κ) (y:V):∀kvs:List (κ×V),dh kvs k=none->dh (kvs++[(k,y)]) j=if j=k then some y else dh kvs j
 | [],_=>by
   by_cases e:k=j
   . rw [aB e.symm];exact fQ (p:=(k,y)) e
   . rw [aA (fun z=>e z.symm)];exact d7 (p:=(k,y)) e
 | p::r,hn=>by
   rw [MJ]
   have hk:¬ p.1=k:=fun z=>by rw [fQ z] at hn;cases hn
   rw [d7 hk] at hn
   have ih:=DW k j y r hn
   by_cases e:p.1=j
   . rw [fQ e,fQ e,aA (fun z=>hk (e.trans z))]
   . rw [d7 e,d7 e,ih]
theorem Q_ (kvs:List (κ×V)) (k j:κ) (y:V):dh (putK kvs k y) j=if j=k then some y else dh kvs j:=by
 unfold putK
 by_cases a:(kvs.any fun kv=>decide (kv.1=k))=true
 . rw [aB a,GN]
   rw [oW] at a
   by_cases e:j=k
   . obtain ⟨x,hx⟩:=Option.isSome_iff_exists.mp a
     rw [aB e,e,hx,FL,aB rfl]
   . rw [aA e]
     cases dh kvs j with
     | none=>rfl
     | some x=>rw [FL,aA e]
 . rw [aA a]
   refine DW k j y kvs ?_
   rw [oW] at a
   cases q:dh kvs k with
   | none=>rfl
   | some x=>rw [q] at a;exact (a rfl).elim
theorem uB (kvs:List (κ×V)) (k:κ) (v:V):(putK kvs k v).length<=kvs.length+1:=by
 unfold putK
 split
 . rw [aD];omega
 . rw [dw,jy,List.length_nil];omega
theorem l_ {kvs:List (κ×V)} {k:κ} (v:V) (h:dh kvs k=none):putK kvs k v=kvs++[(k,v)] :=by
 unfold putK
 rw [oW,h]
 exact aA (by decide)
theorem lg.mQ {o:Option V} {u:Option Value} (r:lg o u):o.isSome=u.isSome:=by
 cases o with
 | none=>cases u with
   | none=>rfl
   | some _=>exact (show False from r).elim
 | some _=>cases u with
   | none=>exact (show False from r).elim
   | some _=>rfl
theorem KV.val {kvs:List (κ×V)} {vs:List (κ×Value)} (r:KV kvs vs) (k:κ):lg (dh kvs k) (valueAt vs k):=by
 unfold KV at r
 induction r with
 | nil=>exact True.intro
 | @cons p q ps qs h t ih=>
   obtain ⟨h1,h2⟩:=h
   by_cases e:p.1=k
   . have e':q.1=k:=h1.symm.trans e
     have b:valueAt (q::qs) k=some q.2:=by simp [valueAt,rj,e']
     rw [fQ e,b];exact h2
   . have e':¬ q.1=k:=fun z=>e (h1.trans z)
     have b:valueAt (q::qs) k=valueAt qs k:=by simp [valueAt,rj,e']
     rw [d7 e,b];exact ih
theorem KV.any {kvs:List (κ×V)} {vs:List (κ×Value)} (r:KV kvs vs) (k:κ):(kvs.any fun kv=>decide (kv.1=k))=vs.any fun kv=>decide (kv.1=k):=by
 unfold KV at r
 induction r with
 | nil=>rfl
 | cons h t ih=>rw [AD,AD,ih,h.1]
theorem KV.repl {kvs:List (κ×V)} {vs:List (κ×Value)} (r:KV kvs vs) (k:κ) (ry:RelV y u):
  KV (kvs.map fun kv=>if kv.1=k then (kv.1,y) else kv) (vs.map fun kv=>if kv.1=k then (kv.1,u) else kv):=by
 unfold KV at r ⊢
 induction r with
 | nil=>exact .nil
 | @cons p q ps qs h t ih=>
   rw [bJ,bJ]
   refine .cons ?_ ih
   obtain ⟨h1,h2⟩:=h
   by_cases e:p.1=k
   . rw [aB e,aB (h1.symm.trans e)];exact ⟨h1,ry⟩
   . rw [aA e,aA (fun z=>e (h1.trans z))];exact ⟨h1,h2⟩
theorem KV.put {kvs:List (κ×V)} {vs:List (κ×Value)} (r:KV kvs vs) (k:κ) (ry:RelV y u):KV (putK kvs k y) (stored vs k u):=by
 unfold putK stored
 rw [r.any k]
 by_cases e:(vs.any fun kv=>decide (kv.1=k))=true
 . rw [aB e,aB e];exact r.repl k ry
 . rw [aA e,aA e];exact Paired.snoc r ⟨Z,ry⟩
theorem KV.drop {kvs:List (κ×V)} {vs:List (κ×Value)} (r:KV kvs vs) (k:κ):KV (kM kvs k) (without vs k):=by
 unfold KV at r ⊢
 unfold kM without
 induction r with
 | nil=>exact .nil
 | @cons p q ps qs h t ih=>
   obtain ⟨h1,h2⟩:=h
   rw [fY,fY]
   by_cases e:p.1=k
   . have a:¬ decide (p.1≠k)=true:=by simp [e]
     have b:¬ decide (q.1≠k)=true:=by simp [h1.symm.trans e]
     rw [aA a,aA b];exact ih
   . have e':¬ q.1=k:=fun z=>e (h1.trans z)
     have a:decide (p.1≠k)=true:=by simp [e]
     have b:decide (q.1≠k)=true:=by simp [e']
     rw [aB a,aB b];exact .cons ⟨h1,h2⟩ ih
theorem KV.length {kvs:List (κ×V)} {vs:List (κ×Value)} (r:KV kvs vs):kvs.length=vs.length:=Paired.length r
theorem Ra (kvs:List (κ×V)) (k:κ):(kM kvs k).length<=kvs.length:=List.length_filter_le _ _
end
variable {P:Program}
theorem vK {w:World} {k:Key} (r:RelV (kV k) u):(cI P w).is k u=true:=by
 cases k with
 | inl i=>obtain ⟨t,e⟩:=(show ∃t,u=Value.int i t from r);subst e;exact J0 P w i t
 | inr x=>obtain ⟨t,e⟩:=(show ∃t,u=Value.str x t from r);subst e;exact J1 P w x t
theorem DX {P:Program} {w:World}:∀{ks:List Key} {us:List Value},Vals (ks.map kV) us->ItemsAre (cI P w) ks us
 | [],_,r=>by rw [List.map_nil] at r;cases r;exact .nil
 | k::ks,_,r=>by
   rw [bJ] at r
   cases r with
   | cons h t=>exact .cons (vK h) (DX t)
abbrev KT (H:Hp):List (List Key×V)->List (List Key×Addr×Value)->Prop:=Paired fun p q=>p.1=q.1/\H q.2.1=some (.tup (p.1.map kV))/\RelV p.2 q.2.2
theorem KT.val {kvs:List (List Key×V)} {xs:List (List Key×Addr×Value)} (r:KT H kvs xs) (k:List Key):lg (dh kvs k) ((atKey xs k).map (·.2)):=by
 induction r with
 | nil=>exact True.intro
 | @cons p q ps qs h t ih=>
   obtain ⟨h1,_,h2⟩:=h
   by_cases e:p.1=k
   . have e':q.1=k:=h1.symm.trans e
     have b:atKey (q::qs) k=some q.2:=by simp [atKey,rj,e']
     rw [fQ e,b];exact h2
   . have e':¬ q.1=k:=fun z=>e (h1.trans z)
     have b:atKey (q::qs) k=atKey qs k:=by simp [atKey,rj,e']
     rw [d7 e,b];exact ih
theorem KT.repl {kvs:List (List Key×V)} {xs:List (List Key×Addr×Value)} (r:KT H kvs xs) (k:List Key) (ry:RelV y u):
  KT H (kvs.map fun kv=>if kv.1=k then (kv.1,y) else kv) (xs.map (putAt k u)):=by
 induction r with
 | nil=>exact .nil
 | @cons p q ps qs h t ih=>
   rw [bJ,bJ]
   refine .cons ?_ ih
   obtain ⟨h1,h2,h3⟩:=h
   unfold putAt
   by_cases e:p.1=k
   . rw [aB e,aB (h1.symm.trans e)];exact ⟨h1,h2,ry⟩
   . rw [aA e,aA (fun z=>e (h1.trans z))];exact ⟨h1,h2,h3⟩
variable {b:Addr}
theorem KT.put {kvs:List (List Key×V)} {xs:List (List Key×Addr×Value)} (r:KT H kvs xs) (k:List Key) (hb:H b=some (.tup (k.map kV))) (ry:RelV y u):
  KT H (putK kvs k y) (storedH xs k b u):=by
 have e:(kvs.any fun kv=>decide (kv.1=k))=(atKey xs k).isSome:=by
  rw [oW,(r.val k).mQ,Option.isSome_map]
 unfold putK storedH
 rw [e]
 by_cases q:(atKey xs k).isSome=true
 . rw [aB q,aB q];exact r.repl k ry
 . rw [aA q,aA q];exact Paired.snoc r ⟨Z,hb,ry⟩
variable {H':Hp}
theorem KT.keeps {kvs:List (List Key×V)} {xs:List (List Key×Addr×Value)} (r:KT H kvs xs) (ht:∀b ys,H b=some (.tup ys)->H' b=some (.tup ys)):KT H' kvs xs:=
 Paired.QJ r fun _ _ z=>⟨z.1,ht _ _ z.2.1,z.2.2⟩
variable {kvs:List (Key×V)}
section
variable {P:Program} {w:World} {H:Hp} {h:Heap} {a:Addr}
theorem SI {u:HO} (ok:gr P w H h) (e:Rd H a u):d_ P w H h a u:=e.ok ok
theorem rC (ok:gr P w H h) (e:Rd H a (.dK kvs)):kvs.length<=sizeLine/\(a==sysModules)=false/\∃vs,KV kvs vs/\h.DictOf (cI P w) a vs:=
 show d_ P w H h a (.dK kvs) from SI ok e
theorem AX (ok:gr P w H h) (e:H a=some (.dK kvs)):kvs.length<=sizeLine/\(a==sysModules)=false/\∃vs,KV kvs vs/\h.DictOf (cI P w) a vs:=rC ok (.inl e)
theorem xB {ks:List Key} (ok:gr P w H h) (e:H a=some (.tup (ks.map kV))):(tupleKind (cI P w)).is h ks a:=by
 obtain ⟨_,its,r,o,h1,h2,n,h3⟩:=(show d_ P w H h a (.tup (ks.map kV)) from ok a _ e)
 exact ⟨o,its.toArray,n,h1,h2,h3,by simpa using DX r⟩
theorem yO {kvs:List (List Key×V)} (ok:gr P w H h) (e:Rd H a (.dT kvs)):kvs.length<=sizeLine/\(a==sysModules)=false/\
  ∃xs,KT H kvs xs/\h.DictOfH (tupleKind (cI P w)) a xs:=by
 obtain ⟨z,y,xs,r,o,es,ep,h1,h2,h3,h4,h5⟩:=(show d_ P w H h a (.dT kvs) from SI ok e)
 refine ⟨z,y,xs,r,o,es,ep,h1,h2,h3,h4,fun x hx=>?_,h5⟩
 have all:∀{l:List (List Key×V)} {m:List (List Key×Addr×Value)},KT H l m->∀x∈m,(tupleKind (cI P w)).is h x.1 x.2.1:=by
  intro l m q
  induction q with
  | nil=>intro x hx;exact nomatch hx
  | @cons p q ps qs hq t ih=>
    intro x hx
    rcases c9.mp hx with e|hx
    . subst e
      exact xB ok (by rw [<-hq.1];exact hq.2.1)
    . exact ih x hx
 exact all r x hx
theorem Y5 {kvs:List (List Key×V)} (ok:gr P w H h) (e:H a=some (.dT kvs)):kvs.length<=sizeLine/\(a==sysModules)=false/\
  ∃xs,KT H kvs xs/\h.DictOfH (tupleKind (cI P w)) a xs:=yO ok (.inl e)
end
def dG (H:Hp) (a:Addr) (y:V) (r:Option V):Prop:=
 (∃kvs k,Rd H a (.dK kvs)/\y=kV k/\r=dh kvs k)\/∃kvs k b,Rd H a (.dT kvs)/\y = .ref b/\H b=some (.tup (k.map kV))/\r=dh kvs k
def uC (H:Hp) (a:Addr) (y v:V) (H':Hp):Prop:=
 (∃kvs k,H a=some (.dK kvs)/\y=kV k/\kvs.length<sizeLine/\H'=upd H a (.dK (putK kvs k v)))\/
 ∃kvs k b,H a=some (.dT kvs)/\y = .ref b/\H b=some (.tup (k.map kV))/\kvs.length<sizeLine/\H'=upd H a (.dT (putK kvs k v))
variable {a:Addr}
theorem dG.k {k:Key} (e:H a=some (.dK kvs)):dG H a (kV k) (dh kvs k):= .inl ⟨kvs,k, .inl e,Z,Z⟩
theorem uC.k {k:Key} {v:V} (e:H a=some (.dK kvs)) (hl:kvs.length<sizeLine):uC H a (kV k) v (upd H a (.dK (putK kvs k v))):= .inl ⟨kvs,k,e,Z,hl,Z⟩
variable {h':Heap} {Q:Unit->Shared->Prop}
section
variable {X:Cx} {pins:AO} {σ:St} {H:Hp} {s:Shared} {a:Addr} {y v:V} {u r:Value} {o:Option V} {A:Around} {E:VS}
theorem Inv.big (I:Inv X pins σ H s):sysModules<s.heap.objs.size:=by
 have h:mainGlobals<s.heap.objs.size:=(I.mod.glob.keeps I.bk).lt
 exact Nat.lt_trans (by decide) h
theorem OG {Q:VS} (hu:A.units+1<cLine) (I:Inv X pins σ H s) (g:dG H a y (some v)) (ry:RelV y u) (h:∀w' s',Inv X pins σ H s'->RelV v w'->Q w' s'):
  wpAny (model X.prog X.w) A (getItem (.ref a) u) Q E s:=by
 rcases g with ⟨kvs,k,e,ey,l⟩|⟨kvs,k,b,e,ey,eb,l⟩
 . subst ey
   obtain ⟨z,hd,vs,rel,dd⟩:=rC I.hok e
   obtain ⟨w',hw,rw'⟩:=lg.some_of (v:=v) (o:=valueAt vs k) (by rw [l];exact rel.val k)
   exact wpAny_getItem_of (vK ry) dd.mapOf hw (h w' _ (I.tok _) rw')
 . subst ey
   cases (show u=Value.ref b from ry)
   obtain ⟨z,hd,xs,rel,dd⟩:=yO I.hok e
   obtain ⟨w',hw,rw'⟩:=lg.some_of (v:=v) (o:=(atKey xs k).map (·.2)) (by rw [l];exact rel.val k)
   obtain ⟨p,hp,hp2⟩:=jx.mp hw
   refine wpAny_getItem_heap (MA hu) (xB I.hok eb) dd hp ?_
   rw [hp2]
   exact h w' _ (I.tok _) rw'
theorem ack {Q:VS} (hu:A.units+1<cLine) (I:Inv X pins σ H s) (g:dG H a y o) (ry:RelV y u) (h:∀s',Inv X pins σ H s'->Q (.bool o.isSome) s'):
  wpAny (model X.prog X.w) A (compareOp .In u (.ref a)) Q E s:=by
 rcases g with ⟨kvs,k,e,ey,l⟩|⟨kvs,k,b,e,ey,eb,l⟩
 . subst ey
   obtain ⟨z,hd,vs,rel,dd⟩:=rC I.hok e
   refine wpAny_in_of (vK ry) hd dd.mapOf ?_
   rw [<-(rel.val k).mQ,<-l]
   exact h _ (I.tok _)
 . subst ey
   cases (show u=Value.ref b from ry)
   obtain ⟨z,hd,xs,rel,dd⟩:=yO I.hok e
   refine wpAny_in_heap (MA hu) (xB I.hok eb) hd dd ?_
   have q:=(rel.val k).mQ
   rw [Option.isSome_map] at q
   rw [<-q,<-l]
   exact h _ (I.tok _)
theorem Ub {Q:VS} (hu:A.units+1<cLine) (I:Inv X pins σ H s) (g:dG H a y o) (ry:RelV y u) (h:∀s',Inv X pins σ H s'->Q (.bool (!o.isSome)) s'):
  wpAny (model X.prog X.w) A (compareOp .NotIn u (.ref a)) Q E s:=by
 rcases g with ⟨kvs,k,e,ey,l⟩|⟨kvs,k,b,e,ey,eb,l⟩
 . subst ey
   obtain ⟨z,hd,vs,rel,dd⟩:=rC I.hok e
   refine wpAny_notIn_of (vK ry) hd dd.mapOf ?_
   rw [<-(rel.val k).mQ,<-l]
   exact h _ (I.tok _)
 . subst ey
   cases (show u=Value.ref b from ry)
   obtain ⟨z,hd,xs,rel,dd⟩:=yO I.hok e
   refine wpAny_notIn_heap (MA hu) (xB I.hok eb) hd dd ?_
   have q:=(rel.val k).mQ
   rw [Option.isSome_map] at q
   rw [<-q,<-l]
   exact h _ (I.tok _)
theorem yP (I:Inv X pins σ H s) (mu:Oc (H a)) (hs:Heap.SameBut a s.heap h') (he:∃q,h'.get? a=some q) (new:d_ X.prog X.w (upd H a ob) h' a ob):
  Inv X pins σ (upd H a ob) { s with heap:=h',toks:=t' }:=
 I.write (x:=a) (e:=a) mu (.inl rfl) (fun b q hb z=>(hs.2 b hb).trans z) he new
theorem GO {w:World} {vs:List (Key×Value)} (z:kvs.length<=sizeLine) (hd:(a==sysModules)=false) (rel:KV kvs vs) (dd:h'.DictOf (cI P w) a vs):
  d_ P w H' h' a (.dK kvs):=⟨z,hd,vs,rel,dd⟩
theorem OH (hu:A.units+1<cLine) (I:Inv X pins σ H s) (g:uC H a y v H') (ry:RelV y u) (rv:RelV v r) (h:∀s',Inv X pins σ H' s'->Q () s'):
  wpAny (model X.prog X.w) A (setItem (.ref a) u r) Q E s:=by
 rcases g with ⟨kvs,k,e,ey,l,eH⟩|⟨kvs,k,b,e,ey,eb,l,eH⟩
 . subst ey eH
   obtain ⟨z,hd,vs,rel,dd⟩:=AX I.hok e
   have hz:vs.length<=sizeLine:=by rw [<-rel.length];exact z
   have hl:(putK kvs k v).length<=sizeLine:=by have:=uB kvs k v;omega
   refine wpAny_setItem_pairs (hsz:=hz) (vK ry) dd fun h' zy hs=>h _ ?_
   have he:∃q,h'.get? a=some q:=let ⟨q,_,_,hq,_⟩:=zy;⟨q,hq⟩
   exact yP I (by rw [e];exact True.intro) hs he (GO hl hd (rel.put k rv) zy)
 . subst ey eH
   cases (show u=Value.ref b from ry)
   obtain ⟨z,hd,xs,rel,dd⟩:=Y5 I.hok e
   have hz:xs.length<=sizeLine:=by rw [<-Paired.length rel];exact z
   have hl:(putK kvs k v).length<=sizeLine:=by have:=uB kvs k v;omega
   refine wpAny_setItem_heap (hsz:=hz) (MA hu) (xB I.hok eb) dd fun h' zy hs=>h _ ?_
   obtain ⟨q,es,ep,hq,h2,h3,h4,_,h5⟩:=zy
   refine yP I (by rw [e];exact True.intro) hs ⟨q,hq⟩ ⟨hl,hd,_,(rel.put k eb rv).keeps fun c ys ec=>?_,q,es,ep,hq,h2,h3,h4,h5⟩
   rw [ay (gO ec e (fun z=>nomatch z))]
   exact ec
end
section
variable {X:Cx} {pins:AO} {σ:St} {H:Hp} {s:Shared} {a:Addr} {kvs:List (Key×V)} {k:Key} {u:Value} {A:Around} {E:VS}
theorem OI (I:Inv X pins σ H s) (e:H a=some (.dK kvs)) (ry:RelV (kV k) u) (l:(dh kvs k).isSome=true) (h:∀s',Inv X pins σ (upd H a (.dK (kM kvs k))) s'->Q () s'):
  wpAny (model X.prog X.w) A (delItem (.ref a) u) Q E s:=by
 obtain ⟨z,hd,vs,rel,dd⟩:=AX I.hok e
 refine wpAny_delItem_slot dd.typeIs (by decide) PySem.F.slot_dict_delitem
  (call_meetsIn PySem.F.slot_dict_delitem dd.typeIs PySem.F.entry_dict_delitem (PySem.F.args_dict_delitem_2 _ _) (meets_dict_delitem_pairs (cI X.prog X.w) a (vK ry)) ⟨vs,dd,by rw [<-rel.length];exact z,by rw [<-(rel.val k).mQ];exact l,fun h' zy hs=>h _ ?_⟩)
 have he:∃q,h'.get? a=some q:=let ⟨q,_,_,hq,_⟩:=zy;⟨q,hq⟩
 exact yP I (by rw [e];exact True.intro) hs he (GO (fP (Ra kvs k) z) hd (rel.drop k) zy)
theorem Y6 {Q:VS} (I:Inv X pins σ H s) (e:Rd H a (.dK kvs)) (h:∀t s',Inv X pins σ H s'->Q (.int kvs.length t) s'):wpAny (model X.prog X.w) A (call (.builtin "len") [.ref a]) Q E s:=by
 obtain ⟨z,hd,vs,rel,dd⟩:=rC I.hok e
 refine call_len_dict hd dd (by rw [<-rel.length];rw [jz] at z;omega) ?_
 rw [<-rel.length]
 exact h _ _ (I.tok _)
end
def We (i:Expr):Prop:=∀ov iv,subscripted i false ov iv=operate [ov,iv] (getItem ov iv)
variable {E:VS} {env:Env} {value:Expr} {pos:Pos}
theorem Uc {prog:Program} {w:World} {A:Around} {slice:Expr} {T id:String} {Q:VS}
  (hl:typeLookup (.type T) "__getitem__"=pure (some (.builtin id))) (hs:We slice)
  (h:wpAny (model prog w) A (eval value env) (fun o s₁=>wpAny (model prog w) A (eval slice env) (fun i s₂=>s₂.TypeIs o T/\wpAny (model prog w) A (getItem o i) Q E s₂) E s₁) E s):
  wpAny (model prog w) A (eval (.Subscript value slice pos) env) Q E s:=by
 refine Subscript_ (iU h (fun o s₁ h₁=>iU h₁ (fun i s₂ h₂=>?_) fun _ _ x=>x) fun _ _ x=>x)
 obtain ⟨hT,h₂⟩:=h₂
 unfold subscriptTail
 refine az ?_
 rw [getitemInPython_of_ne hT.not_modules]
 refine az (wpAny_specialOf hT hl ?_)
 have fin:wpAny (model prog w) A (subscripted slice false o i) (fun r s₃=>wpAny (model prog w) A (letTemporaryGo value o r >>= fun _=>pure r) Q E s₃) E s₂:=by
  rw [hs o i]
  exact wpAny_operating (iU h₂ (fun r s₃ h₃=>az (wpAny_letTemporaryGo (aU h₃))) fun _ _ x=>x)
 first
  | exact aU (az fin)
  | exact az (aU (az fin))
  | exact az fin
variable {X:Cx}
theorem J3 {o:Option V} (I:Inv X pins σ H s) (g:dG H a y o):s.TypeIs (.ref a) "dict":=by
 rcases g with ⟨kvs,k,e,_,_⟩|⟨kvs,k,b,e,_,_,_⟩
 . obtain ⟨_,_,vs,_,dd⟩:=rC I.hok e
   exact dd.typeIs
 . obtain ⟨_,_,xs,_,dd⟩:=yO I.hok e
   exact dd.typeIs
inductive Rb (Q:VK) (x:V) (y:V) (H2:Hp):Prop
 | mk  (a v:_) (_:x = .ref a) (_:dG H2 a y (some v)) (_:Q v H2)
def Wg (ty:TE) (σ:St) (Q:VK):V->Hp->Prop:=fun x H1=>ty σ H1 (Rb Q x)
def SJ (td ty:TE):TE:=fun σ H Q=>td σ H (Wg ty σ Q)
inductive Ud (Q:VK) (y:V) (x:V) (H2:Hp):Prop
 | mk  (a o:_) (_:x = .ref a) (_:dG H2 a y o) (_:Q (.bl o.isSome) H2)
def Y7 (td:TE) (σ:St) (Q:VK):V->Hp->Prop:=fun y H1=>td σ H1 (Ud Q y)
def acm (ty td:TE):TE:=fun σ H Q=>ty σ H (Y7 td σ Q)
inductive M_ (Q:VK) (y:V) (x:V) (H2:Hp):Prop
 | mk  (a o:_) (_:x = .ref a) (_:dG H2 a y o) (_:Q (.bl (!o.isSome)) H2)
def Rc (td:TE) (σ:St) (Q:VK):V->Hp->Prop:=fun y H1=>td σ H1 (M_ Q y)
def Ue (ty td:TE):TE:=fun σ H Q=>ty σ H (Rc td σ Q)
inductive Rg (D:Ends) (σ:St) (v:V) (x:V) (y:V) (H3:Hp):Prop
 | mk  (a H4:_) (_:x = .ref a) (_:uC H3 a y v H4) (_:D.nx σ H4)
def Rh (ty:TE) (D:Ends) (σ:St) (v:V):V->Hp->Prop:=fun x H2=>ty σ H2 (Rg D σ v x)
def Wh (td:TE) (ty:TE) (D:Ends) (σ:St):V->Hp->Prop:=fun v H1=>td σ H1 (Rh ty D σ v)
def Y8 (td ty tv:TE):TS:=fun D σ H=>tv σ H (Wh td ty D σ)
inductive Ri (D:Ends) (σ:St) (x:V) (y:V) (H2:Hp):Prop
 | mk  (a kvs k:_) (_:x = .ref a) (_:H2 a=some (.dK kvs)) (_:y=kV k) (_:(dh kvs k).isSome=true) (_:D.nx σ (upd H2 a (.dK (kM kvs k))))
def Wi (ty:TE) (D:Ends) (σ:St):V->Hp->Prop:=fun x H1=>ty σ H1 (Ri D σ x)
def Y9 (td ty:TE):TS:=fun D σ H=>td σ H (Wi ty D σ)
section
variable {X:Cx} {o i e value:Expr} {pos pos' tpos:Pos} {td ty tv:TE}
end
theorem GP {w:World} (h:Heap) (hb:sysModules<h.objs.size):d_ P w H (h.push { cls:= .type "dict",data:= .dict #[] }) h.objs.size (.dK []):=
 ⟨gM _,CC.mpr (cM (eU hb)),[], .nil,Heap.DictOf.new h⟩
def Wj:TE:=fun _ H Q=>∀p,H p=none->Q (.ref p) (upd H p (.dK []))
section
variable {X:Cx} {pos:Pos}
end
def AY:List (TE×TE)->St->Hp->(List (V×V)->Hp->Prop)->Prop
 | [],_,H,Q=>Q [] H
 | (tk,tv)::r,σ,H,Q=>tk σ H fun x H1=>tv σ H1 fun y H2=>AY r σ H2 fun ps H3=>Q ((x,y)::ps) H3
abbrev VV:List (V×V)->List (Value×Value)->Prop:=Paired fun p q=>RelV p.1 q.1/\RelV p.2 q.2
def PPs (X:Cx) (pos:Pos) (keys:List (Option Expr)) (values:List Expr) (AZ:List (TE×TE)):Prop:=
 ∀(pins:AO) (s:Shared) (σ:St) (H:Hp) (Q:List (V×V)->Hp->Prop),Inv X pins σ H s->AY AZ σ H Q->
  wpAny (model X.prog X.w) X.A (evalPairs (pairTrees keys values X.env pos)) (fun vs s'=>∃ps H',Inv X pins σ H' s'/\VV ps vs/\Q ps H') X.xe s
def uZ (kvs more:List (Key×V)):List (Key×V):=more.foldl (fun acc kv=>putK acc kv.1 kv.2) kvs
theorem KV.merge:∀{more:List (Key×V)} {rs:List (Key×Value)} {kvs:List (Key×V)} {vs:List (Key×Value)},KV more rs->KV kvs vs->KV (uZ kvs more) (merged vs rs):=by
 intro more rs kvs vs r
 unfold KV at r
 induction r generalizing kvs vs with
 | nil=>intro q;exact q
 | @cons p q ps qs h t ih=>
   intro r0
   have e:KV (putK kvs p.1 p.2) (stored vs q.1 q.2):=by
    have:=r0.put p.1 h.2
    rw [<-h.1];exact this
   exact ih e
theorem wY:∀(more kvs:List (Key×V)),(uZ kvs more).length<=kvs.length+more.length
 | [],kvs=>by show kvs.length<=kvs.length+0;omega
 | p::r,kvs=>by
   have h1:=wY r (putK kvs p.1 p.2)
   have h2:=uB kvs p.1 p.2
   show (uZ (putK kvs p.1 p.2) r).length<=_
   rw [jy];omega
theorem A0 {P:Program} {w:World}:∀{kvs:List (Key×V)} {ws:List (Value×Value)},VV (kvs.map fun kv=>(kV kv.1,kv.2)) ws->∃rs,Carries (cI P w) ws rs/\KV kvs rs
 | [],_,r=>by rw [List.map_nil] at r;cases r;exact ⟨[],True.intro, .nil⟩
 | p::kvs,_,r=>by
   rw [bJ] at r
   cases r with
   | @cons a b as bs h t=>
     obtain ⟨rs,c,q⟩:=A0 (P:=P) (w:=w) t
     obtain ⟨b1,b2⟩:=b
     exact ⟨(p.1,b2)::rs,⟨vK h.1,Z,c⟩, .cons ⟨Z,h.2⟩ q⟩
def Y_ (AZ:List (TE×TE)):TE:=fun σ H Q=>∀p,H p=none->AY AZ σ (upd H p (.dK [])) fun ps H2=>H2 p=some (.dK [])/\∃kvs:List (Key×V),ps=kvs.map (fun kv=>(kV kv.1,kv.2))/\kvs.length<=15/\Q (.ref p) (upd H2 p (.dK (uZ [] kvs)))
def IsD (H:Hp) (a:Addr):Prop:=(∃kvs,Rd H a (.dK kvs))\/∃kvs,Rd H a (.dT kvs)
theorem GQ (I:Inv X pins σ H s) (d:IsD H a):
  s.TypeIs (.ref a) "dict"/\(∀b,Value.ref a = .ref b->∃ob,s.heap.get? b=some ob/\ob.dict=none)/\(a==sysModules)=false:=by
 rcases d with ⟨kvs,e⟩|⟨kvs,e⟩
 . obtain ⟨_,hd,vs,_,dd⟩:=rC I.hok e
   refine ⟨dd.typeIs,fun b q=>?_,hd⟩
   cases q
   obtain ⟨ob,_,_,h1,h2,_⟩:=dd
   exact ⟨ob,h1,h2.2.1⟩
 . obtain ⟨_,hd,xs,_,dd⟩:=yO I.hok e
   refine ⟨dd.typeIs,fun b q=>?_,hd⟩
   cases q
   obtain ⟨ob,_,_,h1,h2,_⟩:=dd
   exact ⟨ob,h1,h2.2.1⟩
section
variable {X:Cx} {pins:AO} {σ:St} {H:Hp} {s:Shared} {a:Addr} {y d:V} {u r:Value} {o:Option V} {A:Around} {E:VS}
end
section
variable {X:Cx} {o e f:Expr} {apos cpos:Pos} {td ty tx:TE}
end
section
variable {X:Cx} {pins:AO} {σ:St} {H:Hp} {s:Shared} {a:Addr} {kvs:List (Key×V)} {A:Around} {E:VS}
end
section
variable {X:Cx} {pins:AO} {σ:St} {H:Hp} {s:Shared} {a:Addr} {y:V} {u:Value} {A:Around} {E:VS}
end
end L2
namespace Z8
open PySem PySem.W PySem.Calls PyProof.Rows
theorem A1 {P:Params} {h:Heap}:∀(ns:List Int) (vs:List Value),WellAll P h vs (ns.map WData.int)->IntsAre vs ns:=by
 intro ns
 induction ns with
 | nil=>
   intro vs w
   rw [List.map_nil] at w
   cases w
   exact .nil
 | cons n ns ih=>
   intro vs w
   rw [bJ] at w
   cases w with
   | cons a b=>
     cases a
     exact .cons _ _ (ih _ b)
theorem OJ {l:OpenLaw} {n:Nat} (hn:l.most=some n) {P:Params} {h:Heap} {args:List WData} {vals:List Value}
  (hpre:l.row.toRowW.claim.pre args=true) (hwl:WellAll P h vals args):
  ∃a vs ns,vals=[Value.ref a]/\args=[WData.list (ns.map WData.int)]/\h.get? a=some { cls:= .type "list",data:= .seq vs.toArray }/\IntsAre vs ns/\ns.length<=n:=by
 have hsh:WShape.hasAll [] args [.list .int]=true:=(pre_splitW hpre).1
 have hc:l.pre.holds [] { args:=args }=true:=(pre_splitW hpre).2
 obtain ⟨d,r,rfl,h1,h2⟩:=hasAllW_cons hsh
 obtain rfl:=hasAllW_nil h2
 obtain ⟨xs,rfl,h3⟩:=hasW_list h1
 obtain ⟨ns,rfl⟩:=items_int h3
 have hlen:ns.length<=n:=by
  unfold OpenLaw.pre at hc
  have h4:(WTm.not (.lt (.lit (.int (n:Int))) (.len (.arg 0)))).holds [] { args:=[.list (ns.map .int)] }=true:=by
   have h4:=(holds_andW hc).1
   rw [hn] at h4
   exact h4
  have h5:=condW_of h4 (w_not (w_lt w_lit (w_len_list (w_arg rfl))))
  rw [aD] at h5
  refine Nat.le_of_not_lt fun q=>?_
  have q':(n:Int)<((ns.length:Nat):Int):=by omega
  first
   | (rw [aY q'] at h5;exact absurd h5 (by decide))
   | (simp at h5;omega)
 cases hwl with
 | cons w1 w2=>
   cases w2
   cases w1 with
   | list ho hall=>exact ⟨_,_,ns,Z,Z,ho,A1 ns _ hall,hlen⟩
theorem OL (l:OpenLaw) (args:List WData):l.row.toRowW.claim.post args (.bool true) args=true:=
 postW_of (r:=l.row.toRowW) (X:=(true==true))
  (show WShape.has [] (.bool true) .bool=true by first|rfl|decide|simp [WShape.has,WShape.arms,WShape.armsAll])
  (show (WTm.eq .res (.lit (.bool true))).value [] { args:=args,res:=some (.bool true),after:=args }=some (.bool (true==true)) from w_eq_bool (w_res rfl) w_lit) rfl
theorem J4 {l:OpenLaw} {n:Nat} {q:Program} {loose:List Str} {XP:(Str->Option Value)->Heap->Prop} {YP:World->Heap->Prop} {d:DefRec}
  (hn:l.most=some n) (hdf:d.params.defaults=[])
  (call:∀(w:World) (s₀ s₁:Shared) (mg mb:SO) (fa:Addr) (o:Obj) (pm cd doc:Value) (a:Addr) (vs:List Value) (ns:List Int),
    Ground q loose [] XP w s₀ mg mb s₁.heap->YP w s₁.heap->
    s₁.heap.get? fa=some o->o.data = .func (docDef d.name d.params d.body d.scope pm cd doc)->s₁.heap.CodeRec cd d.name->mg d.name=some (.ref fa)->
    s₁.heap.get? a=some { cls:= .type "list",data:= .seq vs.toArray }->IntsAre vs ns->ns.length<=n->s₁.gens=#[]->
    codeAny (model l.prog w) callerA (.call (.ref fa) ⟨[.ref a],[]⟩) (fun r s'=>r = .ok (.ret (.bool true))/\OldK s₁.heap s'.heap/\s'.os=s₁.os/\AllBare s'.gens) s₁):
  WalkO q loose XP YP l.row.toRowW d [] (fun f vs=>PySem.call f vs):=by
 intro w s₀ s₁ mg mb G Y fa o pm cd doc dV kV ho hd hcd hD hmg hg args vals as hpre hlay hrd hwl hlo
 obtain rfl:dV = .none:=Dflts.none hD hdf
 obtain rfl:kV = .none:=Dflts.noKw hD
 obtain ⟨a,vs,ns,rfl,rfl,hobj,hints,hlen⟩:=OJ hn hpre hwl
 refine enter_call (AH (call w s₀ s₁ mg mb fa o pm cd doc a vs ns G Y ho (fd_plain hd) hcd hmg hobj hints hlen hg) fun r s' hq=>?_)
 obtain ⟨rfl,h2,h3,h4⟩:=hq
 exact ⟨.inl ⟨.bool true, .bool true,[],Z,fun _=>rfl, .bool true,OL l _,fun _=>⟨List.Pairwise.nil,fun _ hm=>(nomatch hm)⟩⟩,h2,h3,h4⟩
section
variable {prog:Program} {w:World} {A:Around} {E:VS} {s:Shared} {K:Frag}
end
end Z8
namespace L2
open PySem PySem.Spec PyProof.Rows
theorem DY:∀{vs:List Value} {ns:List Int},IntsAre vs ns->Vals (ns.map V.int) vs
 | _,_, .nil=> .nil
 | _,_, .cons n t h=> .cons ⟨t,Z⟩ (DY h)
def Rj (H:Hp):Prop:=∀b,H b=none\/∃o xs,H b=some (.fB o (.lst xs))
variable {P:Program} {K:Fg} {mg:SO} {a:Addr} {fd:FuncData} {x:Str} {sp:Sp} {ns:List Int}
theorem Rk {w:World} {mb:SO} {CX:uX} {k:Nat} {fa:Addr} {s₁:Shared} {vs:List Value}
  (KX:K.In s₁.heap) (hns:s₁.heap.Ns mainGlobals mg) (hb:s₁.heap.Ns builtinsNs mb) (hbb:∀x:Str,x ≠ "__name__"->mb x=bootBuiltins x) (hlim:s₁.heap.NoLimit) (hg:s₁.gens=#[])
  (ha:s₁.heap.get? a=some { cls:= .type "list",data:= .seq vs.toArray }) (hi:IntsAre vs ns) (hl:ns.length<=sizeLine) (hr:c7 k callerA)
  (F:∀base:Heap,K.In base->base.Ns mainGlobals mg->iO P w K mg base CX k fa fd [x] sp) (hbind:∀(s:Shared) (u:Value),BindsTo s fd ⟨[u],[]⟩ [(x,u)])
  (nq:∀H:Hp,Rj H->aH K H a (ns.map V.int)->sp [.ref a] H (fun v _=>v = .bl true) fun _ _ _=>False)
  (Wl:∀H e s',CX [] H s₁ (fun _ _ _=>False) e s'->False):
  codeAny (model P w) callerA (.call (.ref fa) ⟨[.ref a],[]⟩) (fun r s'=>r = .ok (.ret (.bool true))/\OldK s₁.heap s'.heap/\s'.os=s₁.os/\AllBare s'.gens) s₁:=by
 have rv:=DY hi
 have acn:=hi.length
 have core:∀H:Hp,Rj H->aH K H a (ns.map V.int)->gr P w H s₁.heap->(∀b,H b≠none->b=a)->(H a≠none->K.lookup a=none)->
   codeAny (model P w) callerA (.call (.ref fa) ⟨[.ref a],[]⟩) (fun r s'=>r = .ok (.ret (.bool true))/\OldK s₁.heap s'.heap/\s'.os=s₁.os/\AllBare s'.gens) s₁:=by
  intro H hO hS hok hA hK
  have Lv:∀{b:Addr} {o:Obj},s₁.heap.get? b=some o->H b=none->(vG s₁.heap H).get? b=some o:=fun e n=>QK e n
  have OA:∀{b:Addr} {o:Obj} {es:Array DictEntry} {ep:Nat},s₁.heap.get? b=some o->o.data = .dict es ep->H b=none:=fun {b o es ep} e d=>by
   cases q:H b with
   | none=>rfl
   | some u=>
     have e':b=a:=hA b (by rw [q];simp)
     subst e'
     rw [ha] at e;cases e
     have d':Data.seq vs.toArray _=Data.dict es ep:=d
     cases d'
  have SK:∀{b:Addr} {m:SO},s₁.heap.Ns b m->(vG s₁.heap H).Ns b m:=fun {b m} ⟨o,es,ep,e,d,r⟩=>⟨o,es,ep,Lv e (OA e d),d,r⟩
  have Z9:K.In (vG s₁.heap H):=fun b o e=>Lv (KX b o e) (by
   cases q:H b with
   | none=>rfl
   | some u=>
     have e':b=a:=hA b (by rw [q];simp)
     subst e'
     rw [hK (by rw [q];simp)] at e;cases e)
  have hM:Mod K mg (vG s₁.heap H):=⟨Z9,SK hns,⟨mb,SK hb,hbb⟩,let ⟨mc,h1,h2⟩:=hlim;⟨mc,SK h1,h2⟩⟩
  have e0:zS P w K mg (vG s₁.heap H) callerA [] s₁ H:=⟨Z,hM,fun b o e=>TY e,Nat.le_of_eq (Od _ _),trivial,fun b hb=>absurd (show b∈([] :List Addr) from hb) (by simp),hok, .of_eq hg⟩
  refine AH ((F _ Z9 (SK hns)).run callerA [] s₁ H ⟨[.ref a],[]⟩ [.ref a] [.ref a] _ _ hr e0 (hbind s₁ (.ref a)) (.cons rfl .nil) (nq H hO hS)) fun r s' h=>?_
  cases r with
  | error e=>exact (Wl H e s' h).elim
  | ok fl=>
    cases fl with
    | next=>exact False.elim h
    | brk=>exact False.elim h
    | cont=>exact False.elim h
    | ret u=>
      obtain ⟨v,H',os,bare,un,aco,r',q⟩:=h
      have q':v = .bl true:=q
      subst q'
      obtain rfl:u=Value.bool true:=r'
      refine ⟨Z,OldK.of_keep fun b o e=>?_,os,bare⟩
      cases q:H b with
      | none=>exact un.keep b o e q (by intro z;exact absurd (show b∈([] :List Addr) from z) (by simp)) (by simp)
      | some u=>
        rcases hO b with z|⟨ob,xs,z⟩
        . rw [q] at z;cases z
        . have z2:=un.oU b ob _ z
          obtain ⟨e1,_⟩:=hok b _ z
          obtain ⟨e2,_⟩:=aco b _ z2
          rw [e] at e1;cases e1
          exact e2
 cases hk:K.lookup a with
 | some o=>
   have e:=KX a o hk
   rw [ha] at e
   cases e
   refine core (fun _=>none) (fun _=> .inl rfl) (.inr ⟨_,vs.toArray,_,hk,Z,Z,Z,by rw [gG,acn];exact hl,by simpa using rv⟩) (fun b u z=>by have z':(none:Option HO)=some u:=z;cases z') (fun b z=>absurd rfl z) fun z=>absurd rfl z
 | none=>
   refine core (fun b=>if b=a then some (.fB { cls:= .type "list",data:= .seq vs.toArray } (.lst (ns.map V.int))) else none) (fun b=>?_) (.inl (.inr ⟨{ cls:= .type "list",data:= .seq vs.toArray },aB rfl⟩)) (fun b u z=>?_) (fun b z=>?_) fun _=>hk
   . by_cases hb:b=a
     . exact .inr ⟨_,_,aB hb⟩
     . exact .inl (aA hb)
   . by_cases hb:b=a
     . have z':=(aB hb).symm.trans z
       cases z'
       subst hb
       exact ⟨ha,by rw [aD];exact hl,vs,_,rv,ha⟩
     . have z':=(aA hb).symm.trans z
       cases z'
   . by_cases hb:b=a
     . exact hb
     . exact absurd (aA hb) z
variable {XP:(Str->Option Value)->Heap->Prop} {YP:World->Heap->Prop}
theorem Ug {l:PySem.W.OpenLaw} {n k:Nat} {q:Program} {loose:List Str} {d:DefRec} {K:Params->Fg} {CX:World->uX} {sp:World->Sp}
  (hn:l.most=some n) (hn2:n<=sizeLine) (hdf:d.params.defaults=[]) (hr:c7 k callerA)
  (hY:∀(w:World) (h:Heap),YP w h->(K w.params).In h)
  (F:∀(w:World) (mg:SO) (fa:Addr) (h:Heap),(K w.params).In h->h.Ns mainGlobals mg->mg d.name=some (.ref fa)->
    ∃fd:FuncData,(∀(s:Shared) (u:Value),BindsTo s fd ⟨[u],[]⟩ [(x,u)])/\
     ∀base:Heap,(K w.params).In base->base.Ns mainGlobals mg->iO l.prog w (K w.params) mg base (CX w) k fa fd [x] (sp w))
  (nq:∀(w:World) (H:Hp) (a:Addr) (ns:List Int),ns.length<=n->Rj H->aH (K w.params) H a (ns.map V.int)->sp w [.ref a] H (fun v _=>v = .bl true) fun _ _ _=>False)
  (Wl:∀(w:World) (H:Hp) (s:Shared) (e:Value) (s':Shared),CX w [] H s (fun _ _ _=>False) e s'->False):
  PySem.W.WalkO q loose XP YP l.row.toRowW d [] (fun f vs=>PySem.call f vs):=by
 refine Z8.J4 hn hdf fun w s₀ s₁ mg mb fa o pm cd doc a vs ns G Y ho hd hcd hmg hobj hints hlen hg=>?_
 have KX:=hY w _ Y
 obtain ⟨fd,hb,hF⟩:=F w mg fa _ KX G.T.g hmg
 exact Rk KX G.T.g G.T.b G.T.builtins G.T.nolimit hg hobj hints (fP hlen hn2) hr hF hb (fun H hO hS=>nq w H a ns hlen hO hS) fun H e s'=>Wl w H s₁ e s'
def inClass (s:Stmt) (j:Nat):Stmt:=match s with
 | .ClassDef _ _ _ body _ _ _ _ _ _ _=>body.getD j (.Pass ⟨0,0,0,0⟩)
 | _=> .Pass ⟨0,0,0,0⟩
def dI (s:Stmt):Arguments:=match s with
 | .FunctionDef _ a _ _ _ _ _ _ _ _=>a
 | _=>{ posonlyargs:=[],args:=[],vararg:=none,kwonlyargs:=[],kw_defaults:=[],kwarg:=none,defaults:=[] }
def b9 (s:Stmt):List Stmt:=match s with
 | .FunctionDef _ _ b _ _ _ _ _ _ _=>b
 | _=>[]
def aC (s:Stmt):Scope:=match s with
 | .FunctionDef _ _ _ _ _ _ sc _ _ _=>sc
 | _=>{ kind:= .function,names:=[],isGenerator:=false,isCoroutine:=false }
abbrev qZ:uX:=fun _ _ _ _ _ _=>False
abbrev E0:XK:=fun _ _ _=>False
structure DZ (K:Fg) (x qual:Str) (st:Stmt) (f:Addr) (fd:FuncData):Prop where
 ex:∃(oc:Value) (od:Option Addr) (kV doc pm:Value) (an:Option Addr) (cdv ct:Value) (osl:Array (Option Value)),
  fd=PySem.W.fnOf x qual (dI st) (b9 st) (aC st) .none kV doc pm an cdv ct/\K.lookup f=some ⟨oc,od, .func fd,osl⟩/\PySem.W.codeIn K cdv qual=true
 kp:PySem.W.keepIn K (.ref f)=true
variable {qual:Str} {f:Addr} {N ps:List Str} {oc doc pm cdv ct:Value} {od an:Option Addr} {osl:Array (Option Value)}
section
variable {P:Program} {w:World} {K:Fg} {mg:SO} {base:Heap}
theorem DZ.ok {st:Stmt} {k:Nat} (F:DZ K x qual st f fd) (S:aO N ps (aC st)) (len:∀vs H Q E,sp vs H Q E->vs.length=ps.length)
  (hbody:∀(cdv:Value) (A:Around) (outer:List Env) (s:Shared) (H:Hp) (vs:List V) (Q:VK) (E:XK),c7 k (A.deeper (envOfC qual (aC st) s.heap.objs.size f cdv))->sp vs H Q E->
    ∃t,oH (cu qZ P w K mg base N qual (aC st) f cdv A outer s H E).zm (b9 st) t/\t { nx:=fun _ H'=>Q .bU H',rt:=Q } (start N vs) H):iO P w K mg base qZ (k+1) f fd ps sp:=by
 obtain ⟨oc,od,kV,doc,pm,an,cdv,ct,osl,rfl,lk,hcd⟩:=F.ex
 refine MW lk hcd S len fun A outer s H vs Q E hr nq=>?_
 obtain ⟨t,h,q⟩:=hbody cdv A outer s H vs Q E hr nq
 exact ⟨t,h.zm,q⟩
theorem DZ.binds {st:Stmt} (F:DZ K x qual st f fd)
  (h:∀(kV doc pm:Value) (an:Option Addr) (cdv ct:Value) (us:List Value),us.length=ps.length->bindArgs (PySem.W.fnOf x qual (dI st) (b9 st) (aC st) .none kV doc pm an cdv ct) ⟨us,[]⟩=pure (ps.zip us)):Binds K fd ps [] :=by
 obtain ⟨oc,od,kV,doc,pm,an,cdv,ct,osl,rfl,lk,hcd⟩:=F.ex
 exact .all (h kV doc pm an cdv ct)
theorem GR {st:Stmt} {kV:Value} (l:K.lookup f=some ⟨oc,od, .func (PySem.W.fnOf x qual (dI st) (b9 st) (aC st) .none kV doc pm an cdv ct),osl⟩)
  (c:PySem.W.codeIn K cdv qual=true) (k:PySem.W.keepIn K (.ref f)=true):DZ K x qual st f (PySem.W.fnOf x qual (dI st) (b9 st) (aC st) .none kV doc pm an cdv ct):=⟨⟨oc,od,kV,doc,pm,an,cdv,ct,osl,Z,l,c⟩,k⟩
end
theorem cW {A:Around} {k:Nat} (hr:c7 k A):A.units+1<cLine:=Gk (Nat.add_le_add_left (by decide:1<=64) _) hr.units
theorem dH {n:Nat} (h:n<=1000):n<sizeLine:=Gk h (by decide)
section
variable {X:Cx}
end
theorem iP {A B:Prop} (h:B):if false=true then A else B:=by
 rw [aA fh]
 exact h
theorem lu {A B:Prop} (h:A):if true=true then A else B:=by
 rw [aB rfl]
 exact h
theorem aK {c A B:Prop} [Decidable c] (h1:c->A) (h2:¬ c->B):if c then A else B:=by
 by_cases h:c
 . rw [aB h]
   exact h1 h
 . rw [aA h]
   exact h2 h
def aQ (H H':Hp):Prop:=∀b o,H b=some o->H' b=some o
theorem aQ.refl (H:Hp):aQ H H:=fun _ _ h=>h
variable {H H1 H2:Hp}
theorem aQ.trans (a:aQ H H1) (b:aQ H1 H2):aQ H H2:=fun c o h=>b c o (a c o h)
variable {H':Hp}
theorem aQ.free (e:aQ H H') {l:Addr} (h:H' l=Option.none):H l=Option.none:=by
 cases q:H l with
 | none=>rfl
 | some o=>
   rw [e l o q] at h
   cases h
variable {xs:List V}
theorem aQ.seq (e:aQ H H') (h:aH K H a xs):aH K H' a xs:=by
 rcases h with (h|⟨o,h⟩)|h
 . exact .inl (.inl (e _ _ h))
 . exact .inl (.inr ⟨o,e _ _ h⟩)
 . exact .inr h
section
variable {X:Cx}
theorem tY:iK X (.builtin "len") (fun xs H Q=>∃a kvs,xs=[V.ref a]/\H a=some (.dK kvs)/\Q (.int kvs.length) H):=by
 intro pins s σ H xs us Q I r h
 obtain ⟨a,kvs,rfl,ha,q⟩:=h
 obtain ⟨u,rfl,ru⟩:=vals1 r
 cases ru
 exact Y6 I (.inl ha) fun t s' I'=>⟨.int kvs.length,H,I',⟨t,Z⟩,q⟩
end
section
variable {κ:Type} [DecidableEq κ]
theorem Rl {kvs:List (κ×V)} {k:κ} (h:dh kvs k=none):¬ k∈kvs.map (·.1):=by
 intro m
 obtain ⟨p,hp,e⟩:=bK.mp m
 have q:(kvs.any fun kv=>decide (kv.1=k))=true:=List.any_eq_true.mpr ⟨p,hp,aY e⟩
 rw [oW,h] at q
 exact absurd q (by simp)
theorem mR:∀{l:List κ} {k:κ},l.Nodup->¬ k∈l->(l++[k]).Nodup
 | [],k,_,_=>by simp
 | a::r,k,h,hk=>by
   obtain ⟨h1,h2⟩:=fO.mp h
   show (a::(r++[k])).Nodup
   refine fO.mpr ⟨fun m=>?_,mR h2 fun m=>hk (c9.mpr (Or.inr m))⟩
   rcases fZ.mp m with q|q
   . exact h1 q
   . exact hk (c9.mpr (Or.inl (fN.mp q).symm))
theorem Uh {kvs:List (κ×V)} {k:κ} (v:V) (hn:(kvs.map (·.1)).Nodup) (h:dh kvs k=none):((putK kvs k v).map (·.1)).Nodup:=by
 rw [l_ v h,bL]
 exact mR hn (Rl h)
end
end L2
set_option maxHeartbeats 4000000
namespace L2
open PySem PySem.Spec PyProof.Rows
section
variable {X:Cx}
def A3 (_ j:Int):Prop:=0<j/\j.natAbs.log2<9000
theorem iu:ji X (binaryOp .FloorDiv) (rI A3 fun i j=> .int (i / j)):=Oi fun i j _ _ _ _ _ hc q=>by
 have h1:(0:Int)<j:=hc.1
 exact floordiv_int (by omega) (by rw [Int.fdiv_eq_ediv_of_nonneg i (by omega)];exact q) (.inl (PyProof.noPylong_of_log2 hc.2))
theorem xC {i j:Int} (h:(decide (0<j) && decide (j.natAbs.log2<9000))=true):A3 i j:=by
 obtain ⟨a,b⟩:=lZ.mp h
 exact ⟨aX a,aX b⟩
theorem Rm {i j:Int} {n:Nat} (h0:0<j) (h:j<2 ^ n) (hn:n<=9000):A3 i j:=by
 refine ⟨h0,?_⟩
 have e:(j.natAbs:Int)=j:=by omega
 have h2:j.natAbs<2 ^ n:=by
  have:(j.natAbs:Int)<((2 ^ n:Nat):Int):=by rw [e];simpa using h
  exact Int.ofNat_lt.mp this
 have:=(Nat.log2_lt (n:=j.natAbs) (k:=n) (by omega)).mpr h2
 omega
def Na (i j:Int):Prop:=∃m n:Nat,i.natAbs<2 ^ m/\j.natAbs<2 ^ n/\m+n<=134217728
theorem gW:ji X (binaryOp .Mult) (rI Na fun i j=> .int (i*j)):=Oi fun _ _ _ _ _ _ _ hc q=>by
 obtain ⟨m,n,h1,h2,h3⟩:=hc
 exact mul_int q (IntMulOk.of_le (My.mpr h1) (My.mpr h2) h3)
mutual
inductive Dt (K:Fg) (H:Hp):V->PyData->Prop
 | bU:Dt K H .bU .none
 | bl (b:Bool):Dt K H (.bl b) (.bool b)
 | int (i:Int):Dt K H (.int i) (.int i)
 | str (x:Str):Dt K H (.str x) (.str x)
 | lst {a:Addr} {xs:List V} {ds:List PyData}:aH K H a xs->zz K H xs ds->Dt K H (.ref a) (.list ds)
 | tup {a:Addr} {xs:List V} {ds:List PyData}:cQ K H a xs->zz K H xs ds->Dt K H (.ref a) (.tuple ds)
inductive zz (K:Fg) (H:Hp):List V->List PyData->Prop
 | nil:zz K H [] []
 | cons {x:V} {xs:List V} {d:PyData} {ds:List PyData}:Dt K H x d->zz K H xs ds->zz K H (x::xs) (d::ds)
end
section
variable {pins:AO} {σ:St} {H:Hp} {s:Shared}
mutual
theorem Dt.reads (I:Inv X pins σ H s):∀{x:V} {d:PyData} {u:Value},Dt X.K H x d->RelV x u->∃as,Reads s.heap u d as
 | _,_,u, .bU,r=>by cases (show u=Value.none from r);exact ⟨_, .none⟩
 | _,_,u, .bl b,r=>by cases (show u=Value.bool b from r);exact ⟨_, .bool b⟩
 | _,_,u, .int i,r=>by obtain ⟨t,rfl⟩:=(show ∃t,u=Value.int i t from r);exact ⟨_, .int i t⟩
 | _,_,u, .str x,r=>by obtain ⟨t,rfl⟩:=(show ∃t,u=Value.str x t from r);exact ⟨_, .str x t⟩
 | _,_,u,@Dt.lst _ _ a xs ds h hd,r=>by
   cases (show u=Value.ref a from r)
   obtain ⟨its,rv,⟨o,n,e,c,_,d⟩,hz⟩:=I.list h
   obtain ⟨as,ra⟩:=zz.reads I hd rv
   exact ⟨_, .list e c d (by simpa using ra)⟩
 | _,_,u,@Dt.tup _ _ a xs ds h hd,r=>by
   cases (show u=Value.ref a from r)
   obtain ⟨its,rv,⟨o,e,c,n,d⟩,hz⟩:=I.tuple h
   obtain ⟨as,ra⟩:=zz.reads I hd rv
   exact ⟨_, .tuple e c d (by simpa using ra)⟩
theorem zz.reads (I:Inv X pins σ H s):∀{xs:List V} {ds:List PyData} {us:List Value},zz X.K H xs ds->Vals xs us->∃as,ReadsAll s.heap us ds as
 | _,_,_, .nil, .nil=>⟨_, .nil⟩
 | _,_,_, .cons h t, .cons r rs=>by
   obtain ⟨as,ra⟩:=Dt.reads I h r
   obtain ⟨bs,rb⟩:=zz.reads I t rs
   exact ⟨_, .cons ra rb⟩
end
end
structure Bx (p:Prop):Prop where
 ex:p
def bx (f:Sp):Sp:=fun vs H Q E=>Bx (f vs H Q E)
structure Dn (P:Program) (w:World) (K:Fg) (mg:SO) (base:Heap) (k:Nat) (x:Str) (ps:List Str) (sp:Sp):Prop where
 ex:∃f fd,iO P w K mg base qZ k f fd ps sp/\Binds K fd ps []/\PySem.W.keepIn K (.ref f)=true/\mg x=some (.ref f)
end
structure At (K:Fg) (mg:SO) (x:Str) (st:Stmt) (f:Addr) (fd:FuncData):Prop where
 fn:DZ K x x st f fd
 name:mg x=some (.ref f)
variable {P:Program} {K:Fg} {mg:SO} {base:Heap} {x:Str} {f:Addr} {fd:FuncData} {N ps:List Str} {sp:Sp}
theorem At.ok {w:World} {st:Stmt} {k:Nat} (F:At K mg x st f fd) (S:aO N ps (aC st)) (len:∀vs H Q E,sp vs H Q E->vs.length=ps.length)
  (hbody:∀(cdv:Value) (A:Around) (outer:List Env) (s:Shared) (H:Hp) (vs:List V) (Q:VK) (E:XK),c7 k (A.deeper (envOfC x (aC st) s.heap.objs.size f cdv))->sp vs H Q E->
    ∃t,oH (cu qZ P w K mg base N x (aC st) f cdv A outer s H E).zm (b9 st) t/\t { nx:=fun _ H'=>Q .bU H',rt:=Q } (start N vs) H)
  (h:∀(kV doc pm:Value) (an:Option Addr) (cdv ct:Value) (us:List Value),us.length=ps.length->bindArgs (PySem.W.fnOf x x (dI st) (b9 st) (aC st) .none kV doc pm an cdv ct) ⟨us,[]⟩=pure (ps.zip us)):
  Dn P w K mg base (k+1) x ps sp:=⟨f,fd,F.fn.ok S len hbody,F.fn.binds h,F.fn.kp,F.name⟩
variable {h:Heap} {oc doc pm cdv ct:Value} {od an:Option Addr} {osl:Array (Option Value)}
theorem SM {st:Stmt} {kV:Value} (X:K.In h) (G:h.Ns mainGlobals mg)
  (a:PySem.W.nsIn K mainGlobals x=some (some (.ref f))) (l:K.lookup f=some ⟨oc,od, .func (PySem.W.fnOf x x (dI st) (b9 st) (aC st) .none kV doc pm an cdv ct),osl⟩)
  (c:PySem.W.codeIn K cdv x=true) (k:PySem.W.keepIn K (.ref f)=true):At K mg x st f (PySem.W.fnOf x x (dI st) (b9 st) (aC st) .none kV doc pm an cdv ct):=⟨GR l c k,pU X G a⟩
theorem aQ.tup {H H':Hp} {K:Fg} {a:Addr} {xs:List V} (e:aQ H H') (h:cQ K H a xs):cQ K H' a xs:=by
 rcases h with (h|⟨o,h⟩)|h
 . exact .inl (.inl (e _ _ h))
 . exact .inl (.inr ⟨o,e _ _ h⟩)
 . exact .inr h
variable {H:Hp}
theorem aF {p:Addr} (h:H p=none) (o:HO):aQ H (upd H p o):=fun b u q=>by rw [ay (aE q h)];exact q
theorem small {n:Nat} (h:n<=1000):n<=sizeLine:=AG (dH h)
end L2
namespace Jm
def cf (a b:Int):Int:=(Int.gcd a b:Int)
theorem Ui (a:Int) (h:0<=a):cf a 0=a:=by
 unfold cf;rw [Int.gcd_zero_right];omega
theorem Lw (a b:Int) (h:0<b):cf b (a % b)=cf a b:=by
 unfold cf
 rw [Int.emod_def,Int.gcd_sub_mul_left_right,Int.gcd_comm]
theorem xD (a b:Int) (h:0<a\/0<b):0<cf a b:=by
 unfold cf
 have:0<Int.gcd a b:=by
  rcases h with h|h
  . exact Int.gcd_pos_of_ne_zero_left _ (by omega)
  . exact Int.gcd_pos_of_ne_zero_right _ (by omega)
 omega
theorem Uj (a b:Int):cf a b=cf b a:=by unfold cf;rw [Int.gcd_comm]
abbrev fr (t b:Int):Rat:=Rat.divInt t b
theorem GS (t b:Int) (h:0<b):(fr t b).num=t / cf b t:=by
 unfold fr cf
 rw [Rat.num_divInt,Int.sign_eq_one_of_pos h,Int.one_mul]
theorem OM (t b:Int) (h:0<b):((fr t b).den:Int)=b / cf b t:=by
 unfold fr cf
 rw [Rat.den_divInt,aA (by omega)]
 rw [Int.natCast_ediv];congr 1;omega
theorem uD (a b:Int):cf a b∣a:=Int.gcd_dvd_left ..
theorem nt (a b:Int):cf a b∣b:=Int.gcd_dvd_right ..
theorem den_pos (q:Rat):(0:Int)<q.den:=by have:=q.den_pos;omega
theorem Uk (q:Rat):fr q.num q.den=q:=Rat.num_divInt_den q
theorem F_ {t b t' b':Int} (h:0<b) (h':0<b') (e:t*b'=t'*b):fr t b=fr t' b':=
 (Rat.divInt_eq_divInt_iff (by omega) (by omega)).mpr e
theorem GU {t b t' b':Int} (h:0<b) (h':0<b') (e:fr t b=fr t' b'):t*b'=t'*b:=
 (Rat.divInt_eq_divInt_iff (by omega) (by omega)).mp e
theorem ON {n d:Int} (h:0<d) (c:cf n d=1):(fr n d).num=n/\((fr n d).den:Int)=d:=by
 rw [GS n d h,OM n d h,Uj,c,AI,AI];exact ⟨Z,Z⟩
theorem OO {t b t' b':Int} (h:0<b) (h':0<b'):fr t b+fr t' b'=fr (t*b'+t'*b) (b*b'):=
 Rat.divInt_add_divInt _ _ (by omega) (by omega)
def Sz (n:Nat) (x:Int):Prop:=x.natAbs<2 ^ n
theorem Sz.mono {m n:Nat} {x:Int} (h:Sz m x) (hn:m<=n):Sz n x:=jT h (Nat.pow_le_pow_right (by decide) hn)
theorem Sz.of_le {n:Nat} {x y:Int} (h:Sz n y) (hx:x.natAbs<=y.natAbs):Sz n x:=Gk hx h
theorem Sz.neg {n:Nat} {x:Int} (h:Sz n x):Sz n (-x):=h.of_le (by omega)
theorem Sz.mul {m n:Nat} {x y:Int} (hx:Sz m x) (hy:Sz n y):Sz (m+n) (x*y):=by
 unfold Sz at *
 rw [AA,Nat.pow_add]
 exact Nat.mul_lt_mul'' hx hy
theorem Sz.add {m n:Nat} {x y:Int} (hx:Sz m x) (hy:Sz n y):Sz (max m n+1) (x+y):=by
 have h1:=hx.mono (Nat.le_max_left m n)
 have h2:=hy.mono (Nat.le_max_right m n)
 unfold Sz at *
 rw [Nat.pow_succ]
 omega
theorem Sz.jj {n:Nat} {x y:Int} (hx:Sz n x) (hy:Sz n y):Sz (n+1) (x+y):=by
 have:=hx.add hy
 rwa [Nat.max_self] at this
theorem Sz.kj {n:Nat} {x B:Int} (h0:-B<=x) (h1:x<=B) (hB:Sz n B):Sz n x:=hB.of_le (by omega)
theorem Sz.ediv {n:Nat} {x y:Int} (h:Sz n x) (hy:0<y):Sz n (x / y):=by
 refine h.of_le ?_
 have e:=Int.emod_add_mul_ediv x y
 have m0:=m8 x (b:=y) (by omega)
 have m1:=xu x hy
 rcases Int.lt_or_le x 0 with hx|hx
 . have q0:x / y<0:=Int.ediv_neg_of_neg_of_pos hx hy
   have z:y*(x / y)<=1*(x / y):=Int.mul_le_mul_of_nonpos_right (by omega) (by omega)
   rcases Int.lt_or_le (x / y) x with k|k
   . exfalso
     have z2:y*(x / y)<=y*(x-1):=Ge (by omega) (by omega)
     have z3:y*(x-1)<=1*(x-1)-(y-1):=by
      have z4:(y-1)*(x-1)<=(y-1)*(-2):=Ge (by omega) (by omega)
      have z5:y*(x-1)=(y-1)*(x-1)+(x-1):=by grind
      omega
     omega
   . omega
 . have q0:0<=x / y:=Az hx (by omega)
   have:=Int.ediv_le_self y hx
   omega
def Lx (n:Nat) (q:Rat):Prop:=Sz n q.num/\Sz n (q.den:Int)
theorem Sz.dvd {n:Nat} {x y:Int} (h:Sz n y) (hy:0<y) (hx:0<=x) (d:x∣y):Sz n x:=h.of_le (by have:=Int.le_of_dvd hy d;omega)
theorem Nb {n:Nat} {t b:Int} (hb:0<b) (h1:Sz n t) (h2:Sz n b):Lx n (fr t b):=by
 unfold Lx
 rw [GS t b hb,OM t b hb]
 have g:=xD b t (.inl hb)
 exact ⟨h1.ediv g,h2.ediv g⟩
theorem yQ (B:Int):fr 0 B=0:=Rat.zero_divInt B
theorem Ul (x y:Int) {B:Int} (h:0<B):fr (x+y) B=fr x B+fr y B:=by
 rw [OO h h]
 refine F_ h (Int.mul_pos h h) ?_
 grind
theorem OP {n:Nat}:∀{ws:List Int},(∀m∈ws,Sz n m)->Sz (n+ws.length) ws.sum
 | [],_=>by unfold Sz;show 0<_;exact Nat.two_pow_pos _
 | x::r,h=>by
   have h1:=OP (ws:=r) fun m hm=>h m (cD _ hm)
   have h2:=((h x cV).mono (uy n r.length)).jj h1
   rw [cL]
   exact h2.mono (by rw [jy];omega)
def A_ (c:Int):Nat->Int
 | 0=>c
 | i+1=>A_ c i / 10000000000
def cellOf (ns:List Int) (k:Int):Int:=if 0<(ns.length:Int) then ns.getD (k % ns.length).toNat 0 else 0
def xE (ns:List Int) (k:Int):Int:=if 0<(ns.length:Int) then k / ns.length else 1
def mixed (c k j many:Int):Int:=
 let one:=(c*7919+k*104729+j*1299709+31) % 1000000007
 let two:=(one*48271+c / 1009) % 998244353
 let three:=(two*(one % 9973+1)+j) % 1000000009
 (one*69621+three*40692+three / 1013) % 2147483647 % many
def draw (ns:List Int) (k j many:Int):Int:=
 if xE ns k=0/\1000000000000000000<=cellOf ns k/\0<A_ (cellOf ns k) j.toNat then A_ (cellOf ns k) j.toNat % 10000000000 % many
 else mixed (cellOf ns k) k j many
theorem Um (ns:List Int) (k j many:Int) (h:0<many):0<=draw ns k j many:=by
 unfold draw;split
 . exact m8 _ (by omega)
 . exact m8 _ (by omega)
theorem Uo (ns:List Int) (k j many:Int) (h:0<many):draw ns k j many<many:=by
 unfold draw;split
 . exact xu _ h
 . exact xu _ h
end Jm
namespace L2
open PySem PySem.Spec PyProof.Rows
inductive Za (K:Fg) (vs:List V) (H:Hp) (Q:VK) (E:XK):Prop
 | mk (a:Addr) (ns:List Int) (k j many:Int) (_:vs=[.ref a, .int k, .int j, .int many]) (_:aH K H a (ns.map V.int)) (_:ns.length<=63) (_:0<=k) (_:0<=j) (_:j<2 ^ 62) (_:0<many) (_:Q (.int (Jm.draw ns k j many)) H)
def qm (K:Fg):Sp:=bx (Za K)
variable {K:Fg} {H:Hp} {a:Addr} {ns:List Int}
theorem cS {Q:VK} {E:XK} {k j many:Int} (hS:aH K H a (ns.map V.int)) (h63:ns.length<=63) (h1:0<=k) (h2:0<=j) (h3:j<2 ^ 62) (h4:0<many)
  (h:∀d:Int,d=Jm.draw ns k j many->0<=d->d<many->Q (.int d) H):qm K [.ref a, .int k, .int j, .int many] H Q E:=
 ⟨a,ns,k,j,many,Z,hS,h63,h1,h2,h3,h4,h _ rfl (Jm.Um ns k j many h4) (Jm.Uo ns k j many h4)⟩
def Rn:Sp:=fun vs H Q _=>∃a b:Int,vs=[.int a, .int b]/\0<=a/\0<=b/\Q (.int (Jm.cf a b)) H
abbrev nu (q:Rat):HO:= .tup [.int q.num, .int (q.den:Int)]
def Ga (K:Fg):Sp:=fun vs H Q _=>∃(a:Addr) (ns:List Int),vs=[.ref a]/\aH K H a (ns.map V.int)/\ns.length<=63/\∀H',Q (.bl true) H'
section
variable {X:Cx} {pos:Pos}
def Ends.Z_ (D:Ends) (J:St->Hp->Prop):Ends:={ D with nx:=J }
def Zb (t u:TS) (D:Ends) (σ:St) (J:St->Hp->Prop):Bool->Hp->Prop:=fun b H1=>if b=true then t (D.Z_ J) σ H1 else u (D.Z_ J) σ H1
inductive Wm (c:TT) (t u:TS) (D:Ends) (σ:St) (H:Hp):Prop
 | mk (J:St->Hp->Prop) (_:c σ H (Zb t u D σ J)) (_:∀σ' H',J σ' H'->D.nx σ' H')
end
theorem vL {i j:Int} (h0:0<j) (h:Jm.Sz 9000 j):A3 i j:=by
 refine ⟨h0,?_⟩
 exact (Nat.log2_lt (by omega)).mpr h
variable {m:Nat}
theorem gC {n:Nat} {i j:Int} (hi:Jm.Sz m i) (hj:Jm.Sz n j) (h:m+n<=134217728:=by decide):Na i j:=⟨m,n,hi,hj,h⟩
theorem jK {n:Nat} {x:Int} (h:decide (x.natAbs<2 ^ n)=true):Jm.Sz n x:=by
 unfold Jm.Sz
 exact aX h
theorem Up {k:Int} (h0:0<=k) (h:k<(ns.length:Int)):qj (ns.map V.int) k=some (.int (ns.getD k.toNat 0)):=by
 have hk:k.toNat<ns.length:=by omega
 have ek:k=((k.toNat:Nat):Int):=by omega
 have q:qj (ns.map V.int) ((k.toNat:Nat):Int)=some (.int (ns.getD k.toNat 0)):=au (by rw [bN,lF,bq hk] <;> rfl)
 rw [<-ek] at q
 exact q
variable {elt iter:Expr} {scope:Scope} {pos:Pos} {env:Env}
section
variable {prog:Program} {w:World} {A:Around} {R:Result->Shared->Prop} {s:Shared}
theorem GV {target:Expr} {it acc:Value} (J:Nat->Shared->Prop)
  (turn:∀n s,J n s->wpAny (model prog w) A (pyNext it) (fun r s₁=>match r with
    | none=>R (.ok .next) s₁
    | some v=>wpAny (model prog w) A (letOwnedTupleGo target it v) (fun _ s₂=>wpAny (model prog w) A (assign target env v) (fun _ s₃=>wpAny (model prog w) A (eval elt env) (fun x s₄=>
            wpAny (model prog w) A (call (.builtin "list.append") [acc,x]) (fun _ s₅=>∃m,m<n/\J m s₅) (fun _ _=>False) s₄) (fun _ _=>False) s₃) (fun _ _=>False) s₂) (fun _ _=>False) s₁) (fun _ _=>False) s)
  (n:Nat) (h:J n s):codeAny (model prog w) A (.compLoop (.ListComp elt [⟨target,iter,[],0⟩] scope pos) 0 it acc env) R s:=by
 refine codeAny_loop rfl J (fun n s hI=>?_) n h
 show wpAny _ A ((compTurn (.ListComp elt [⟨target,iter,[],0⟩] scope pos) 0 it acc env).onRaise (fun x=>do noteFrame x env;theTreesLotGoes x)) _ _ s
 refine wpAny_noted ?_
 rw [compTurn_list1]
 refine az (AE (az (iU (turn n s hI) (fun r s₁ h₁=>?_) fun _ _ h'=>h'.elim)))
 cases r with
 | none=>exact aU h₁
 | some v=>
   refine az (iU h₁ (fun _ s₂ h₂=>az (iU h₂ (fun _ s₃ h₃=>?_) fun _ _ h'=>h'.elim)) fun _ _ h'=>h'.elim)
   exact az (az (iU h₃ (fun x s₄ h₄=>az (iU h₄ (fun _ s₅ h₅=>aU (aU ⟨Z,h₅⟩)) fun _ _ h'=>h'.elim)) fun _ _ h'=>h'.elim))
end
theorem vM (h:∀y∈scope.names,y.2 = .free->∃c,env.cells.lookup y.1=some c):
  ∃cl,closureFor scope env=pure cl/\(∀y c,(y,c)∈cl->env.cells.lookup y=some c/\(y,NameKind.free)∈scope.names)/\∀y,(y,NameKind.free)∈scope.names->∃c,(y,c)∈cl:=by
 have gen:∀(names:List (Str×NameKind)) (acc:List (Str×Addr)),(∀y∈names,y.2 = .free->∃c,env.cells.lookup y.1=some c)->
   ∃cl,(forIn names acc fun (x:Str×NameKind) (cs:List (Str×Addr))=>(if (x.2==NameKind.free)=true then do let a <-cellOf env x.1;pure (ForInStep.yield ((x.1,a)::cs)) else pure (ForInStep.yield cs):Sem _))=pure cl/\
    (∀y c,(y,c)∈cl->(env.cells.lookup y=some c/\(y,NameKind.free)∈names)\/(y,c)∈acc)/\(∀p∈acc,p∈cl)/\∀y,(y,NameKind.free)∈names->∃c,(y,c)∈cl:=by
  intro names
  induction names with
  | nil=>intro acc _;exact ⟨acc,by rw [AB],fun y c m=> .inr m,fun p hp=>hp,fun y m=>nomatch m⟩
  | cons x r ih=>
    intro acc hc
    obtain ⟨n,k⟩:=x
    by_cases hk:k = .free
    . subst hk
      obtain ⟨c,ec⟩:=hc (n, .free) cV rfl
      obtain ⟨cl,e,h1,h2,h3⟩:=ih ((n,c)::acc) fun y hy=>hc y (cD _ hy)
      refine ⟨cl,?_,fun y d m=>?_,fun p hp=>h2 p (cD _ hp),fun y m=>?_⟩
      . rw [FN,<-e]
        have Zc:cellOf env n=pure c:=by unfold cellOf;rw [ec]
        simp only [beq_self_eq_true,if_true,Zc,pure_bind]
      . rcases h1 y d m with ⟨a,b⟩|b
        . exact .inl ⟨a,cD _ b⟩
        . rcases c9.mp b with z|z
          . cases z;exact .inl ⟨ec,cV⟩
          . exact .inr z
      . rcases c9.mp m with z|z
        . cases z;exact ⟨c,h2 _ cV⟩
        . exact h3 y z
    . obtain ⟨cl,e,h1,h2,h3⟩:=ih acc fun y hy=>hc y (cD _ hy)
      have hb:(k==NameKind.free)=false:=by simpa using hk
      refine ⟨cl,?_,fun y d m=>?_,h2,fun y m=>?_⟩
      . rw [FN,<-e]
        simp only [hb,Gm,pW,pure_bind]
      . rcases h1 y d m with ⟨a,b⟩|b
        . exact .inl ⟨a,cD _ b⟩
        . exact .inr b
      . rcases c9.mp m with z|z
        . cases z;exact absurd rfl hk
        . exact h3 y z
 obtain ⟨cl,e,h1,_,h3⟩:=gen scope.names [] h
 refine ⟨cl,?_,fun y c m=>(h1 y c m).elim id (fun z=>nomatch z),h3⟩
 have e2:closureFor scope env=((forIn scope.names ([] :List (Str×Addr)) fun (x:Str×NameKind) (cs:List (Str×Addr))=>(if (x.2==NameKind.free)=true then do let a <-cellOf env x.1;pure (ForInStep.yield ((x.1,a)::cs)) else pure (ForInStep.yield cs):Sem _)) >>= fun r=>pure r):=rfl
 rw [e2,e]
 rfl
theorem lookup_mem {α:Type} {l:List (Str×α)} {y:Str} {c:α} (h:(y,c)∈l):∃d,l.lookup y=some d:=by
 induction l with
 | nil=>cases h
 | cons p r ih=>
   obtain ⟨k,v⟩:=p
   rw [m7]
   cases hb:y==k with
   | true=>exact ⟨v,Z⟩
   | false=>
     rcases c9.mp h with z|z
     . cases z;simp at hb
     . exact ih z
theorem kN:∀(names:List (Str×NameKind)) (n:Nat) (acc:List (Str×Addr)) {x:Str} {c:Addr},(cellsFrom n names acc).lookup x=some c->n<=c\/acc.lookup x=some c
 | [],_,_,_,_,h=> .inr h
 | (name,kind)::r,n,acc,x,c,h=>by
   unfold cellsFrom at h
   split at h
   . rcases kN r (n+1) _ h with z|z
     . exact .inl (by omega)
     . rw [m7] at z
       cases hb:x==name with
       | true=>rw [hb] at z;cases z;exact .inl (aN _)
       | false=>rw [hb] at z;exact .inr z
   . exact kN r n acc h
theorem EL:∀(names:List (Str×NameKind)) (n n0:Nat) (acc:List (Str×Addr)) {x:Str} {c:Addr},n0<=n->(∀d,acc.lookup x=some d->n0<=d)->(cellsFrom n names acc).lookup x=some c->n0<=c:=by
 intro names n n0 acc x c hn ha h
 rcases kN names n acc h with z|z
 . omega
 . exact ha c z
theorem qH:∀(names:List (Str×NameKind)) (n:Nat) (acc:List (Str×Addr)) {x:Str} {c:Addr},(x,NameKind.cell)∈names->(cellsFrom n names acc).lookup x=some c->n<=c
 | [],_,_,_,_,m,_=>nomatch m
 | (name,kind)::r,n,acc,x,c,m,h=>by
   unfold cellsFrom at h
   rcases c9.mp m with z|z
   . cases z
     rw [aB (by rfl)] at h
     refine EL r (n+1) n _ (by omega) (fun d hd=>?_) h
     rw [m7,beq_self_eq_true] at hd
     cases hd
     exact aN _
   . split at h
     . exact fP (yK _) (qH r (n+1) _ z h)
     . exact qH r n acc z h
theorem kO:∀(names:List (Str×NameKind)) (n:Nat) (acc:List (Str×Addr)) {x:Str},(∃c,acc.lookup x=some c)->∃c,(cellsFrom n names acc).lookup x=some c
 | [],_,_,_,h=>h
 | (name,kind)::r,n,acc,x,h=>by
   unfold cellsFrom
   split
   . refine kO r (n+1) _ ?_
     rw [m7]
     cases x==name with
     | true=>exact ⟨_,Z⟩
     | false=>exact h
   . exact kO r n acc h
theorem qI:∀(names:List (Str×NameKind)) (n:Nat) (acc:List (Str×Addr)) {x:Str},(x,NameKind.cell)∈names->∃c,(cellsFrom n names acc).lookup x=some c
 | [],_,_,_,m=>nomatch m
 | (name,kind)::r,n,acc,x,m=>by
   unfold cellsFrom
   rcases c9.mp m with z|z
   . cases z
     rw [aB (by rfl)]
     refine kO r (n+1) _ ⟨n,?_⟩
     rw [m7,beq_self_eq_true]
   . split
     . exact qI r (n+1) _ z
     . exact qI r n acc z
theorem qJ:∀(names:List (Str×NameKind)) (n:Nat) (acc:List (Str×Addr)) {x:Str},(x,NameKind.cell)∉names->(cellsFrom n names acc).lookup x=acc.lookup x
 | [],_,_,_,_=>rfl
 | (name,kind)::r,n,acc,x,m=>by
   have m2:(x,NameKind.cell)∉r:=fun z=>m (cD _ z)
   unfold cellsFrom
   split
   . rename_i hk
     rw [qJ r (n+1) _ m2,m7]
     cases hb:x==name with
     | true=>
       have e1:=lQ.mp hb
       have e2:kind=NameKind.cell:=by simpa using hk
       subst e1 e2
       exact absurd cV m
     | false=>rfl
   . exact qJ r n acc m2
theorem qK:∀(names:List (Str×NameKind)) (n:Nat) (acc:List (Str×Addr)),(∀x y c,acc.lookup x=some c->acc.lookup y=some c->x=y)->(∀x c,acc.lookup x=some c->c<n)->
  ∀x y c,(cellsFrom n names acc).lookup x=some c->(cellsFrom n names acc).lookup y=some c->x=y
 | [],_,_,h,_=>h
 | (name,kind)::r,n,acc,h,hlt=>by
   intro x y c hx hy
   unfold cellsFrom at hx hy
   split at hx
   . rename_i hk
     rw [aB hk] at hy
     refine qK r (n+1) _ (fun x y c hx hy=>?_) (fun x c hx=>?_) x y c hx hy
     . rw [m7] at hx hy
       cases hb:x==name with
       | true=>
         cases hb2:y==name with
         | true=>rw [lQ.mp hb,lQ.mp hb2]
         | false=>
           rw [hb] at hx;rw [hb2] at hy
           cases hx
           exact absurd (hlt _ _ hy) (jf _)
       | false=>
         cases hb2:y==name with
         | true=>
           rw [hb] at hx;rw [hb2] at hy
           cases hy
           exact absurd (hlt _ _ hx) (jf _)
         | false=>
           rw [hb] at hx;rw [hb2] at hy
           exact h x y c hx hy
     . rw [m7] at hx
       cases hb:x==name with
       | true=>rw [hb] at hx;cases hx;exact Nat.lt_succ_self _
       | false=>rw [hb] at hx;exact MG (hlt _ _ hx)
   . rename_i hk
     rw [aA hk] at hy
     exact qK r n acc h hlt x y c hx hy
theorem uE:∀(names:List (Str×NameKind)) (h:Heap) (acc:List (Str×Addr)),(∀x c,acc.lookup x=some c->∃v,h.IsCell c v)->∀x c,(cellsFrom h.objs.size names acc).lookup x=some c->∃v,(pushCells h names).IsCell c v
 | [],_,_,ha=>ha
 | (name,kind)::r,h,acc,ha=>by
   intro x c hx
   unfold cellsFrom at hx
   unfold pushCells
   split at hx
   . rename_i hk
     rw [aB hk]
     have q:=uE r (h.push { cls:= .type "cell",data:= .cell none }) ((name,h.objs.size)::acc) (fun x c hx=>by
      rw [m7] at hx
      cases hb:x==name with
      | true=>rw [hb] at hx;cases hx;exact ⟨none,_,dZ _ rfl,Z⟩
      | false=>
        rw [hb] at hx
        obtain ⟨v,z⟩:=ha x c hx
        exact ⟨v,z.keeps fun b o e=>b7 _ e⟩) x c
     rw [kL] at q
     exact q hx
   . rename_i hk
     rw [aA hk]
     exact uE r h acc ha x c hx
def dz (X:Cx) (N2:List Str) (scope:Scope) (cl:List (Str×Addr)) (s₂:Shared) (H₂:Hp) (fp:List Addr):Cx where
 prog:=X.prog
 w:=X.w
 K:=X.K
 mg:=X.mg
 base:=X.base
 A:=X.A
 N:=N2
 s₀:=s₂
 H₀:=H₂
 env:={ scope:=relabel scope X.env,locals:=s₂.heap.objs.size,globals:=X.env.globals,cells:=cellsFrom (s₂.heap.objs.size+1) scope.names cl,qual:=X.env.qual,func:=none,code:=X.env.code,frame:=X.env.frame,builtins:=X.env.builtins }
 outer:=X.stack
 stack:=X.stack
 ex:=fp
 fn:=fun x=>decide (scope.names.lookup x=some .cell)
 calm:=X.calm
 pn:=[]
 xe:=fun _ _=>False
def qo (XN:List Str) (xn sn:List (Str×NameKind)) (N2:List Str) (ix:List (Option Nat)):Bool:=
 (ix.length==N2.length) &&
 ((ix.zip N2).all fun p=>match p.1 with
   | none=>true
   | some j=>XN[j]?==some p.2 && sn.lookup p.2==some .free && (xn.lookup p.2==some .cell || xn.lookup p.2==some .free)) &&
 (sn.all fun y=>y.2 != .free || (xn.lookup y.1==some .cell || xn.lookup y.1==some .free)) &&
 (sn.all fun y=>y.2 != .local || sn.lookup y.1==some .local) &&
 (sn.all fun y=>y.2 != .free || sn.all fun z=>z.2 != .cell || z.1 != y.1)
variable {x:Str}
theorem zA {k:NameKind} (h:(relabel scope env).names.lookup x=some k) (hk:k = .cell\/k = .free):(x,NameKind.cell)∈scope.names\/(x,NameKind.free)∈scope.names:=by
 have m:=vv h
 obtain ⟨y,hy,e⟩:=bK.mp m
 obtain ⟨n,k0⟩:=y
 dsimp only at e
 split at e
 . rename_i hc
   cases e
   have h1:k0=NameKind.free:=by
    have:=(lZ.mp (lZ.mp hc).1).1
    simpa using this
   subst h1
   exact .inr hy
 . cases e
   rcases hk with rfl|rfl
   . exact .inl hy
   . exact .inr hy
theorem GX:∀{x:Str},scope.names.lookup x=some .free->(relabel scope env).names.lookup x=some .cell\/(relabel scope env).names.lookup x=some .free:=by
 intro x h
 have gen:∀(l:List (Str×NameKind)),l.lookup x=some .free->(l.map fun (n,k)=>if (k==NameKind.free && env.scope.kind == .function && env.kindOf n==some .cell) then (n,NameKind.cell) else (n,k)).lookup x=some .cell\/
   (l.map fun (n,k)=>if (k==NameKind.free && env.scope.kind == .function && env.kindOf n==some .cell) then (n,NameKind.cell) else (n,k)).lookup x=some .free:=by
  intro l
  induction l with
  | nil=>intro h;cases h
  | cons p r ih=>
    intro h
    obtain ⟨n,k⟩:=p
    rw [m7] at h
    rw [bJ]
    dsimp only
    cases hb:x==n with
    | true=>
      rw [hb] at h
      cases h
      split
      . rw [m7,hb];exact .inl rfl
      . rw [m7,hb];exact .inr rfl
    | false=>
      rw [hb] at h
      split
      . rw [m7,hb];exact ih h
      . rw [m7,hb];exact ih h
 exact gen scope.names h
variable {X:Cx} {pins:AO} {σ σ2:St} {s:Shared} {N2:List Str} {cl:List (Str×Addr)} {fp:List Addr}
theorem Ba (I:Inv X pins σ H s) (hk:scope.kind = .function)
  (GY:∀y c,(y,c)∈cl->X.env.cells.lookup y=some c) (CM:∀y,(y,NameKind.free)∈scope.names->∃c,(y,c)∈cl) (hfp:∀b∈fp,ng X pins H b) (hfo:∀b∈fp,b<s.heap.objs.size) (hl:σ2.length=N2.length)
  (hσ:∀(i:Nat) (x:Str) (v:V),N2[i]?=some x->σ2[i]?=some (some v)->scope.names.lookup x=some .free/\(X.env.kindOf x=some .cell\/X.env.kindOf x=some .free)/\∃j:Nat,X.N[j]?=some x/\σ[j]?=some (some v))
  (hd:∀x,(x,NameKind.free)∈scope.names->(x,NameKind.cell)∉scope.names):
  Inv (dz X N2 scope cl s H fp) [] σ2 H { s with heap:=pushCells (s.heap.push { cls:= .type "dict",data:= .dict #[] }) scope.names }:=by
 have keeps:∀b o,s.heap.get? b=some o->(pushCells (s.heap.push { cls:= .type "dict",data:= .dict #[] }) scope.names).get? b=some o:=fun b o e=>FO _ _ b o (b7 _ e)
 have hsz:(s.heap.push { cls:= .type "dict",data:= .dict #[] }).objs.size=s.heap.objs.size+1:=kL ..
 have yR:∀x c,cl.lookup x=some c->X.env.cells.lookup x=some c:=fun x c e=>GY x c (vv e)
 have clt:∀x c,cl.lookup x=some c->c<s.heap.objs.size:=fun x c e=>by
  obtain ⟨v,z⟩:=I.cell x c (yR x c e)
  exact z.lt
 have there:=uE scope.names (s.heap.push { cls:= .type "dict",data:= .dict #[] }) cl (fun x c e=>by
  obtain ⟨v,z⟩:=I.cell x c (yR x c e)
  exact ⟨v,z.keeps fun b o e=>b7 _ e⟩)
 rw [hsz] at there
 have cells:∀x c,(cellsFrom (s.heap.objs.size+1) scope.names cl).lookup x=some c->s.heap.objs.size+1<=c\/X.env.cells.lookup x=some c:=fun x c e=>by
  rcases kN _ _ _ e with z|z
  . exact .inl z
  . exact .inr (yR x c z)
 have okY:(dz X N2 scope cl s H fp).Ok:=by
  refine ⟨I.ok.mod,hk,I.ok.glob,I.ok.blt,aN _,?_,?_,?_,I.ok.hd,I.ok.frames, .inl rfl,?_,I.bs,fP I.ok.DP I.sz,?_,?_,I.stack,I.yL⟩
  . exact qK _ _ _ (fun x y c hx hy=>I.ok.inj x y c (yR x c hx) (yR y c hy)) fun x c e=>MG (clt x c e)
  . intro x hx
    have m:(x,NameKind.cell)∈scope.names\/(x,NameKind.free)∈scope.names:=by
     rcases hx with z|z
     . exact zA z (.inl rfl)
     . exact zA z (.inr rfl)
    rcases m with m|m
    . exact qI _ _ _ m
    . obtain ⟨c,mc⟩:=CM x m
      exact kO _ _ _ (lookup_mem mc)
  . intro x c hf e
    have hf':scope.names.lookup x=some .cell:=aX hf
    exact fP (yK _) (qH _ _ _ (vv hf') e)
  . intro b hb
    refine ⟨eU (hfo b hb),fun x c e z=>?_⟩
    have hlt:=hfo b hb
    rcases cells x c e with k|k
    . exact absurd (jT hlt (fP (yK _) (z▸k))) (jf _)
    . exact (hfp b hb).2.2.2.2.1 x c k z
  . intro b o e hb
    rcases (hfp b hb).2.2.2.1 with z|z
    . exact I.ok.Gv b o e z
    . exact absurd (jT (bM (I.ok.bs b o e).1) z) (jf _)
  . intro b hb hbs
    rcases c9.mp (I.Gy b hbs) with z|z
    . exact (hfp b hb).2.1 z
    . exact (hfp b hb).2.2.1 z
 refine ⟨okY,Z,I.bare,Un.kept keeps,?_,there,I.hok.fresh (aN _),?_,(fun p hp=>nomatch hp),I.hok.kept keeps,hl⟩
 . refine ⟨fun _=>none,(Heap.Ns.new s.heap (.type "dict")).keeps (FO _ _),fun i x v e1 e2 _=>?_⟩
   obtain ⟨hf,hx,j,j1,j2⟩:=hσ i x v e1 e2
   obtain ⟨m,_,hloc⟩:=I.loc
   have hv:Sv X.env.scope x:=hx.elim (fun z=> .inr (.inl z)) fun z=> .inr (.inr z)
   obtain ⟨u,r,lk⟩:=hloc j x v j1 j2 hv
   refine ⟨u,r, .inr ⟨GX hf,?_⟩⟩
   rcases lk with ⟨k,_⟩|⟨_,c,ec,ic⟩
   . rcases hx with z|z <;> rw [z] at k <;> cases k
   . refine ⟨c,?_,ic.keeps keeps⟩
     have mf:=vv hf
     show (cellsFrom (s.heap.objs.size+1) scope.names cl).lookup x=some c
     rw [qJ _ _ _ (hd x mf)]
     obtain ⟨c',mc⟩:=CM x mf
     obtain ⟨d,ed⟩:=lookup_mem mc
     rw [ed]
     have:=yR x d ed
     rw [ec] at this
     exact this.symm
 . intro x c e
   rcases cells x c e with k|k
   . exact I.hok.fresh (by omega)
   . exact I.lR x c k
variable {tg:Expr} {te:TE} {E:VS}
section
variable {X:Cx}
def Bb (J:It) (g:TG) (te:TE) (acc:Addr) (σ₀:St) (H:Hp) (Q:VK):Prop:=∃W:Nat->Nat->St->Hp->Prop,
 (∃m,W 0 m σ₀ (upd H acc (.lst [])))/\∀i m σ2 H2,W i m σ2 H2->
   (J.stop i H2/\Q (.ref acc) H2)\/(J.go i H2/\∃(S:St->Prop) (N:V->Hp->Prop),(∀σ3 v H4,S σ3->N v H4->∃xs,H4 acc=some (.lst xs)/\xs.length<sizeLine/\∃m',m'<m/\W (i+1) m' σ3 (upd H4 acc (.lst (xs++[v]))))/\∀x H',J.AM i H2 x H'->g x σ2 H' fun σ3 H3=>S σ3/\te σ3 H3 N)
inductive vN (Pv:Nat->List V->Hp->Prop) (i:Nat) (acc:Addr) (out:List V) (v:V) (H4:Hp):Prop
 | mk (_:H4 acc=some (.lst out)) (_:Pv (i+1) (out++[v]) (upd H4 acc (.lst (out++[v]))))
def SN (te:TE) (σ:St) (Pv:Nat->List V->Hp->Prop) (i:Nat) (acc:Addr) (out:List V):Bool->Hp->Prop:=fun b H2=>if b=true then te σ H2 (vN Pv i acc out) else H2 acc=some (.lst out)/\Pv (i+1) out H2
def pick (ix:List (Option Nat)) (σ:St):St:=ix.map fun o=>o.bind fun j=>(σ[j]?).join
def Wn (ix:List (Option Nat)) (g:TG) (te:TE) (σ:St) (Q:VK):It->Hp->Prop:=fun J H1=>∀acc,H1 acc=none->Bb J g te acc (pick ix σ) H1 Q
def SQ (wi:TI) (ix:List (Option Nat)) (g:TG) (te:TE):TE:=fun σ H Q=>wi σ H (Wn ix g te σ Q)
theorem nv {XN:List Str} {xn sn:List (Str×NameKind)} {ix:List (Option Nat)} (h:qo XN xn sn N2 ix=true):
  ix.length=N2.length/\(∀(i:Nat) (x:Str) (j:Nat),N2[i]?=some x->ix[i]?=some (some j)->XN[j]?=some x/\sn.lookup x=some .free/\(xn.lookup x=some .cell\/xn.lookup x=some .free))/\
  (∀y∈sn,y.2 = .free->xn.lookup y.1=some .cell\/xn.lookup y.1=some .free)/\(∀y∈sn,y.2 = .local->sn.lookup y.1=some .local)/\∀x,(x,NameKind.free)∈sn->(x,NameKind.cell)∉sn:=by
 unfold qo at h
 obtain ⟨h,h5⟩:=lZ.mp h
 obtain ⟨h,h4⟩:=lZ.mp h
 obtain ⟨h,h3⟩:=lZ.mp h
 obtain ⟨h1,h2⟩:=lZ.mp h
 have e1:ix.length=N2.length:=by simpa using h1
 refine ⟨e1,fun i x j a b=>?_,fun y hy e=>?_,fun y hy e=>?_,fun x m1 m2=>?_⟩
 . have m:(some j,x)∈ix.zip N2:=by
    refine bO (i:=i) ?_
    rw [List.getElem?_zip_eq_some]
    exact ⟨b,a⟩
   have q:=uz.mp h2 _ m
   dsimp only at q
   obtain ⟨q,q3⟩:=lZ.mp q
   obtain ⟨q1,q2⟩:=lZ.mp q
   exact ⟨by simpa using q1,by simpa using q2,(CD.mp q3).imp (fun z=>by simpa using z) fun z=>by simpa using z⟩
 . have q:=uz.mp h3 y hy
   rcases CD.mp q with z|z
   . rw [e] at z;simp at z
   . exact (CD.mp z).imp (fun z=>by simpa using z) fun z=>by simpa using z
 . have q:=uz.mp h4 y hy
   rcases CD.mp q with z|z
   . rw [e] at z;simp at z
   . simpa using z
 . have q:=uz.mp h5 _ m1
   rcases CD.mp q with z|z
   . simp at z
   . have q2:=uz.mp z _ m2
     simp at q2
theorem Bc {ix:List (Option Nat)} {g:TG} {Q:VK}
  {RR:Value->Addr->Result->Shared->Prop} (hc:X.calm=true) (hg:∀cl s₂ H₂ fp,PG (dz X N2 scope cl s₂ H₂ fp) tg g) (he:∀cl s₂ H₂ fp,PE (dz X N2 scope cl s₂ H₂ fp) elt te)
  (hk:scope.kind = .function) (hn:qo X.N X.env.scope.names scope.names N2 ix=true)
  (GY:∀y c,(y,c)∈cl->X.env.cells.lookup y=some c) (CM:∀y,(y,NameKind.free)∈scope.names->∃c,(y,c)∈cl)
  {it:Addr} {fp:List Addr} {tn:Nat->Heap->Prop} {J:It} (I:Inv X pins σ H s) (T:Turn X.prog X.w X.K tg J fp it tn) (st:tn 0 s.heap) (f:∀b∈fp,ng X pins H b)
  (h:∀acc,H acc=none->Bb J g te acc (ix.map fun o=>o.bind fun j=>(σ[j]?).join) H Q)
  (hR:∀acc C H' s' m,Inv X pins σ H' s'->s'.heap.Ns C m->H' C=none->C≠X.env.locals->X.s₀.heap.objs.size<=C->(∀x c,X.env.cells.lookup x=some c->c≠C)->(∀p∈X.pn++pins,p.1≠C)->Q (.ref acc) H'->RR (.ref acc) C (.ok .next) s'):
  wpAny (model X.prog X.w) X.A (newList []) (fun acc s₃=>wpAny (model X.prog X.w) X.A (newFunctionEnv scope X.env.globals cl [] X.env.qual none .none (some X.env)) (fun cenv s₄=>
   codeAny (model X.prog X.w) X.A (.compStart (.ListComp elt [⟨tg,iter,[],0⟩] scope pos) 0 (.ref it) acc { cenv with scope:=relabel scope X.env }) (RR acc cenv.locals) s₄) E s₃) E s:=by
 obtain ⟨k1,k2,k3,k4,k5⟩:=nv hn
 refine vA ?_
 have I3:Inv X pins σ (upd H s.heap.objs.size (.lst [])) { s with heap:=s.heap.push { cls:= .type "list",data:= .seq ([] :List Value).toArray } }:=
  I.laid (a:=s.heap.objs.size) (o:= .lst []) (t':=s.toks) (fun _ _ q=>b7 _ q) (aN _) ⟨gM _,[],_, .nil,dZ _ rfl⟩
 obtain ⟨W,⟨m0,w0⟩,turn⟩:=h s.heap.objs.size I.fresh
 have fo:∀b∈fp,b<s.heap.objs.size:=fun b hb=>by
  obtain ⟨o,e,_⟩:=T.obj 0 _ st b hb
  exact bM e
 have st3:tn 0 (s.heap.push { cls:= .type "list",data:= .seq ([] :List Value).toArray }):=T.keep _ _ _ st fun b _ o e=>b7 _ e
 have f3:∀b∈fp,ng X pins (upd H s.heap.objs.size (.lst [])) b:=fun b hb=>⟨by rw [ay (eU (fo b hb))];exact (f b hb).1,(f b hb).2⟩
 have OQ:∀b∈fp,b<(s.heap.push { cls:= .type "list",data:= .seq ([] :List Value).toArray }).objs.size:=fun b hb=>by rw [kL];exact MG (fo b hb)
 generalize Wo:({ s with heap:=s.heap.push { cls:= .type "list",data:= .seq ([] :List Value).toArray } }:Shared)=s3 at *
 have Wq:s3.heap=s.heap.push { cls:= .type "list",data:= .seq ([] :List Value).toArray }:=by rw [<-Wo]
 rw [<-Wq] at st3 OQ
 generalize s.heap.objs.size=acc at *
 generalize eH3:upd H acc (.lst [])=H3 at *
 have IY:=Ba (N2:=N2) (scope:=scope) (cl:=cl) (fp:=fp) (σ2:=ix.map fun o=>o.bind fun j=>(σ[j]?).join) I3 hk GY CM f3 OQ (by rw [aD];exact k1) (fun i x v e1 e2=>by
  rw [bN] at e2
  cases ei:ix[i]? with
  | none=>rw [ei] at e2;cases e2
  | some o=>
    rw [ei] at e2
    cases o with
    | none=>cases e2
    | some j=>
      obtain ⟨a1,a2,a3⟩:=k2 i x j e1 ei
      refine ⟨a2,a3,j,a1,?_⟩
      have e3:(σ[j]?).join=some v:=gq e2
      cases ej:σ[j]? with
      | none=>rw [ej] at e3;cases e3
      | some z=>rw [ej] at e3;exact jY some e3) k5
 have ne:wpAny (model X.prog X.w) X.A (newFunctionEnv scope X.env.globals cl [] X.env.qual none .none (some X.env)) (fun cenv s₄=>
   cenv={ scope:=scope,locals:=s3.heap.objs.size,globals:=X.env.globals,cells:=cellsFrom (s3.heap.objs.size+1) scope.names cl,qual:=X.env.qual,func:=none,code:=X.env.code,frame:=X.env.frame,builtins:=X.env.builtins }/\
   s₄={ s3 with heap:=pushCells (s3.heap.push { cls:= .type "dict",data:= .dict #[] }) scope.names }) E s3:=by
  simp only [newFunctionEnv,Option.isSome_some,if_true]
  refine az (wpAny_alloc ?_)
  refine az (wpAny_layCells _ (fun name kind cells=>by cases hkc:kind==NameKind.cell <;> simp [hkc]) _ _ _ _ ?_)
  rw [AB]
  refine az (aU (aU ⟨?_,Z⟩))
  rw [show ({ s3 with heap:=s3.heap.push { cls:= .type "dict",data:= .dict #[] } }:Shared).heap.objs.size=s3.heap.objs.size+1 from kL ..]
 refine bg ne fun cenv s4 ⟨e1,e2⟩=>?_
 subst e1 e2
 have OR:tn 0 (pushCells (s3.heap.push { cls:= .type "dict",data:= .dict #[] }) scope.names):=T.keep _ _ _ st3 fun b _ o e=>FO _ _ b o (b7 _ e)
 have Bd:s3.heap.objs.size≠X.env.locals:=yJ I3.lt
 have rW:∀{H':Hp},(∀b∈fp,H' b=none)->∀b∈fp,ng (dz X N2 scope cl s3 H3 fp) [] H' b:=fun {H'} hn b hb=>
  ⟨hn b hb,(IY.ok.Li b hb).1,IY.ok.CK b hb, .inl hb,(IY.ok.Li b hb).2,fun p hp=>nomatch hp⟩
 have loop:codeAny (model X.prog X.w) X.A (.compLoop (.ListComp elt [⟨tg,iter,[],0⟩] scope pos) 0 (.ref it) (.ref acc) (dz X N2 scope cl s3 H3 fp).env) (RR (.ref acc) s3.heap.objs.size)
   { s3 with heap:=pushCells (s3.heap.push { cls:= .type "dict",data:= .dict #[] }) scope.names }:=by
  refine GV (fun n s'=>∃i σ' H',Inv (dz X N2 scope cl s3 H3 fp) [] σ' H' s'/\tn i s'.heap/\(∀b∈fp,H' b=none)/\W i n σ' H') ?_ m0 ⟨0,_,H3,IY,OR,fun b hb=>(f3 b hb).1,w0⟩
  rintro n s5 ⟨i,σ5,H5,I5,Be,GZ,w5⟩
  rcases turn i n σ5 H5 w5 with ⟨stop,qn⟩|⟨go,S,N,Wr,step⟩
  . refine bg (T.done (dz X N2 scope cl s3 H3 fp) rfl rfl rfl hc i [] s5 σ5 H5 (fun _ _=>False) I5 (rW GZ) Be stop) fun r s6 ⟨hr,I6⟩=>?_
    subst hr
    obtain ⟨m6,Ws,_⟩:=id I6.loc
    have IX:Inv X pins σ H5 s6:=I3.ML (ch:=fp) I6.os I6.base I6.hok I6.bare fun b hb=>⟨(f3 b hb).2.2.2.1,(f3 b hb).2.1,(f3 b hb).2.2.2.2.1,(f3 b hb).2.2.2.2.2⟩
    refine hR acc s3.heap.objs.size H5 s6 m6 IX Ws I6.free Bd I3.sz (fun x c e z=>?_) (fun p hp z=>?_) qn
    . obtain ⟨v,q⟩:=I3.cell x c e
      exact absurd q.lt (by rw [z];exact jf _)
    . exact absurd (bM (I3.pin p hp).1) (by rw [z];exact jf _)
  . refine bg (T.item (dz X N2 scope cl s3 H3 fp) rfl rfl rfl hc i [] s5 σ5 H5 (fun _ _=>False) I5 (rW GZ) Be go) fun r s6 ⟨u,hr,h6⟩=>?_
    subst hr
    refine bg h6 fun _ s7 ⟨x,H7,I7,r7,y7,Bf,OS⟩=>?_
    have Wt:=I7.pinned (rW OS) (T.obj _ _ Bf)
    refine bg (hg cl s3 H3 fp _ s7 σ5 H7 x u _ Wt r7 (step x H7 y7)) fun _ s8 ⟨σ8,H8,I8,SR,q8⟩=>?_
    refine bg (he cl s3 H3 fp _ s8 σ8 H8 _ I8 q8) fun y s9 ⟨v,H9,I9,r9,q9⟩=>?_
    obtain ⟨xs,hxs,Wu,m',hm,w9⟩:=Wr σ8 v H9 SR q9
    refine bg (ef _ s9 σ8 H9 (.ref acc) [v] (.ref acc) [y] (fun z xF=>z = .bU/\xF=upd H9 acc (.lst (xs++[v]))) I9 rfl (.cons r9 .nil) ⟨acc,xs,v,Z,Z,hxs,Wu,Z,Z⟩) fun z OT ⟨zv,xF,G0,r10,ez,eH⟩=>?_
    subst eH
    refine ⟨m',hm,i+1,σ8,_,G0.oV,T.keep _ _ _ Bf fun b hb o e=>(G0.pin (b,o) (ja _ (ja _ (iV hb e)))).1,fun b hb=>?_,w9⟩
    obtain ⟨o,e,d⟩:=T.obj _ _ Bf b hb
    exact (G0.pin (b,o) (ja _ (ja _ (iV hb e)))).2.1
 exact codeAny_compStart_list loop (T.self _ 0 _ _ _ OR loop)
end
variable {H':Hp}
theorem aQ.cJ {p:Addr} (e:aQ H H') (h:H p=none) (o:HO):aQ H (upd H' p o):=fun b u q=>by rw [ay (aE q h)];exact e b u q
section
variable {X:Cx}
theorem Ro (hc:X.calm=true):iK X (.builtin "sum") (fun xs H Q=>∃(a:Addr) (ns:List Int),xs=[.ref a]/\aH X.K H a (ns.map V.int)/\Q (.int ns.sum) H):=by
 intro pins s σ H xs us Q I r h
 obtain ⟨a,ns,rfl,hS,q⟩:=h
 obtain ⟨u,rfl,ru⟩:=vals1 r
 cases ru
 obtain ⟨its,rv,p,hz⟩:=I.list hS
 have hi:=intsAre_of rv
 have hl:=p.isList
 obtain ⟨o,ho,_⟩:=id hl
 have hne:a≠s.heap.objs.size:=eU (bM ho)
 have W:=(Walks.list (prog:=X.prog) (w:=X.w) (A:=X.A.in1) (I.ok.hd hc) s.heap.objs.size a hne its.toArray).toS
 have Bg:its.length=ns.length:=by rw [<-rv.length,aD]
 refine call_sum_walkAnyS (MD hl ?_)
 refine ⟨s.heap.objs.size,_,_,_,_,_,_,fun i=>ns.getD i 0,Z,W,⟨⟨_,dZ _ rfl,Z,Z⟩,hl.at fun o e=>b7 _ e⟩,fun b hb=>?_,fun i v hP=>?_,fun s' t' hm=>?_⟩
 . rcases c9.mp hb with rfl|hb
   . exact bM (dZ _ rfl)
   . obtain rfl:=fN.mp hb
     exact bM (b7 _ ho)
 . have OU:its[i]?=some v:=by simpa using hP
   have hil:i<ns.length:=by
    have:=(dP.mp OU).1
    omega
   obtain ⟨u,hu,ru⟩:=rv.get (i:=i) (x:=V.int ns[i]) (by rw [bN,bq hil];rfl)
   rw [OU] at hu
   cases hu
   obtain ⟨t,e⟩:=ru
   refine ⟨t,?_⟩
   rw [e]
   show Value.int ns[i] t=Value.int (ns.getD i 0) t
   rw [lF,bq hil]
   rfl
 . obtain ⟨h',g',d',tk',os'⟩:=s'
   have e1:g'=s.gens:=hm.gens
   have e2:d'=s.drawn:=hm.drawn
   have e3:os'=s.os:=hm.os
   subst e1 e2 e3
   have hsz:its.toArray.size=ns.length:=by rw [gG,Bg]
   rw [hsz,preSum_getD,List.take_of_length_le (aN _)]
   exact ⟨.int ns.sum,H,I.kept (h':=h') (t':=tk') fun b o e=>hm.heap b o (fun hb=>absurd (bM e) ((fN.mp hb)▸jf _)) (b7 _ e),⟨t',Z⟩,q⟩
theorem Rp (hc:X.calm=true):iK X (.builtin "all") (fun xs H Q=>∃(a:Addr) (bs:List Bool),xs=[.ref a]/\aH X.K H a (bs.map V.bl)/\Q (.bl (bs.all id)) H):=by
 intro pins s σ H xs us Q I r h
 obtain ⟨a,bs,rfl,hS,q⟩:=h
 obtain ⟨u,rfl,ru⟩:=vals1 r
 cases ru
 obtain ⟨its,rv,p,hz⟩:=I.list hS
 have hl:=p.isList
 obtain ⟨o,ho,_⟩:=id hl
 have hne:a≠s.heap.objs.size:=eU (bM ho)
 have Bg:its.length=bs.length:=by rw [<-rv.length,aD]
 refine call_all_walk (MD hl ?_)
 refine ⟨s.heap.objs.size,_,_,_,_,_,fun i=>bs.getD i false,Z,Walks.list (prog:=X.prog) (w:=X.w) (A:=X.A.in1) (I.ok.hd hc) s.heap.objs.size a hne its.toArray,⟨⟨_,dZ _ rfl,Z,Z⟩,hl.at fun o e=>b7 _ e⟩,fun i v s' Q' E' hP hQ=>?_,fun h' tk hk=>?_⟩
 . have OU:its[i]?=some v:=by simpa using hP
   have hil:i<bs.length:=by
    have:=(dP.mp OU).1
    omega
   obtain ⟨u,hu,ru⟩:=rv.get (i:=i) (x:=V.bl bs[i]) (by rw [bN,bq hil];rfl)
   rw [OU] at hu
   cases hu
   have e:v=Value.bool bs[i] :=ru
   subst e
   refine CJ ?_
   have hQ2:Q' (bs.getD i false) s':=hQ
   rw [lF,bq hil] at hQ2
   exact hQ2
 . have hsz:its.toArray.size=bs.length:=by rw [gG,Bg]
   have e:(List.range its.toArray.size).all (fun i=>bs.getD i false)=bs.all id:=by
    rw [hsz,yG,uz,uz]
    refine ⟨fun z x hx=>?_,fun z i hi=>?_⟩
    . obtain ⟨i,hi,e⟩:=List.mem_iff_getElem.mp hx
      have:=z i (pT.mpr hi)
      rw [lF,bq hi] at this
      rw [<-e]
      exact this
    . have hi':=pT.mp hi
      rw [lF,bq hi']
      exact z _ (zO hi')
   rw [e]
   exact ⟨.bl (bs.all id),H,I.kept (h':=h') (t':=tk) fun b o e=>hk b o (fun hb=>absurd (bM e) ((fN.mp hb)▸jf _)) (b7 _ e),Z,q⟩
end
section
variable {X:Cx} (K:Fg)
theorem aR (hK:X.K=K:=by rfl):wW X (Q8 K):=hK▸OB
theorem cy (hK:X.K=K:=by rfl):wW X (MX K):=hK▸Lu
theorem mS (hc:X.calm=true) (hK:X.K=K:=by rfl):iK X (.builtin "sum") (fun xs H Q=>∃(a:Addr) (ns:List Int),xs=[.ref a]/\aH K H a (ns.map V.int)/\Q (.int ns.sum) H):=hK▸Ro hc
theorem OV (hc:X.calm=true) (hK:X.K=K:=by rfl):iK X (.builtin "all") (fun xs H Q=>∃(a:Addr) (bs:List Bool),xs=[.ref a]/\aH K H a (bs.map V.bl)/\Q (.bl (bs.all id)) H):=hK▸Rp hc
theorem c5 (hK:X.K=K:=by rfl):iK X (.builtin "len") (fun xs H Q=>∃p ys,xs=[.ref p]/\(aH K H p ys\/cQ K H p ys)/\Q (.int ys.length) H):=hK▸GJ
theorem wZ (hK:X.K=K:=by rfl):iK X (.type "list") (fun xs H Q=>∃p ys,xs=[.ref p]/\(aH K H p ys\/cQ K H p ys)/\∀l,H l=none->Q (.ref l) (upd H l (.lst ys))):=hK▸GL
end
inductive jk (H:Hp):List V->List Rat->Prop
 | nil:jk H [] []
 | cons {r:Addr} {q:Rat} {vs:List V} {qs:List Rat}:H r=some (nu q)->jk H vs qs->jk H (.ref r::vs) (q::qs)
variable {vs:List V}
theorem jk.mono {qs:List Rat} (h:jk H vs qs) (g:aQ H H'):jk H' vs qs:=by
 induction h with
 | nil=>exact .nil
 | cons e _ ih=>exact .cons (g _ _ e) ih
variable {xs ys:List V}
theorem jk.CN {qs:List Rat} (h:jk H vs qs) (ha:H a=some (.lst xs)):jk (upd H a (.lst ys)) vs qs:=by
 induction h with
 | nil=>exact .nil
 | cons e _ ih=>exact .cons (by rw [ay (gO e ha (by intro z;cases z))];exact e) ih
theorem jk.length {qs:List Rat} (h:jk H vs qs):vs.length=qs.length:=by
 induction h with
 | nil=>rfl
 | cons _ _ ih=>simp [ih]
theorem jk.snoc {qs:List Rat} {r:Addr} {q:Rat} (h:jk H vs qs) (e:H r=some (nu q)):jk H (vs++[.ref r]) (qs++[q]):=by
 induction h with
 | nil=>exact .cons e .nil
 | cons e2 _ ih=>exact .cons e2 ih
theorem jk.get {qs:List Rat} (h:jk H vs qs):∀{i:Nat} {v:V},vs[i]?=some v->∃r q,v = .ref r/\qs[i]?=some q/\H r=some (nu q):=by
 induction h with
 | nil=>intro i v e;simp at e
 | @cons r q vs qs e _ ih=>
   intro i v ev
   cases i with
   | zero=>simp at ev;subst ev;exact ⟨r,q,Z,Z,e⟩
   | succ i=>simp at ev;obtain ⟨r',q',a,b,c⟩:=ih ev;exact ⟨r',q',a,by simpa using b,c⟩
theorem J5 {n l1 l2:Nat} (h1:l1<n) (h2:l2<n):ZipApart (n+4) (n+2) (n+3) n (n+1) l1 l2:=by
 have nn:∀i j:Nat,i≠j->n+i≠n+j:=fun i j h e=>h (Nat.add_left_cancel e)
 have ne:∀(c k:Nat),c<n->c≠n+k:=fun c k h=>by omega
 exact ⟨nn 2 4 (by decide),nn 3 4 (by decide),nn 0 4 (by decide),nn 1 4 (by decide),nn 2 3 (by decide),nn 2 0 (by decide),nn 2 1 (by decide),nn 3 0 (by decide),nn 3 1 (by decide),nn 0 1 (by decide),ne _ 4 h1,ne _ 3 h1,ne _ 0 h1,ne _ 1 h1,ne _ 4 h2,ne _ 3 h2,ne _ 0 h2,ne _ 1 h2⟩
section
variable {X:Cx} {elts:List Expr} {kk:Nat} {tpos:Pos}
end
inductive Zd (K:Fg) (vs:List V) (H:Hp) (Q:VK) (E:XK):Prop
 | mk (a:Addr) (ns:List Int) (k j:Int) (_:vs=[.ref a, .int k, .int j]) (_:aH K H a (ns.map V.int)) (_:ns.length<=63) (_:0<=k) (_:0<=j) (_:j<2 ^ 61) (_:∀(m:Int) (H':Hp),1<=m->m<=1000000000->aQ H H'->Q (.int m) H')
def Bh (K:Fg):Sp:=bx (Zd K)
theorem G_ {Q:VK} {E:XK} {k j:Int} (hS:aH K H a (ns.map V.int)) (h63:ns.length<=63) (h1:0<=k) (h2:0<=j) (h3:j<2 ^ 61)
  (h:∀(m:Int) (H':Hp),1<=m->m<=1000000000->aQ H H'->Q (.int m) H'):Bh K [.ref a, .int k, .int j] H Q E:=⟨a,ns,k,j,Z,hS,h63,h1,h2,h3,h⟩
section
variable {X:Cx}
inductive Ze (Q:VK) (vs:List V) (H1:Hp):Prop
 | mk  (j:Int) (_:vs=[.int j]) (_:∀p,H1 p=none->Q (.ref p) (upd H1 p (.tW 0 j)))
def acp (ta:TA):TE:=fun σ H Q=>ta σ H (Ze Q)
def upTo (n:Nat):List Int:=(List.range n).map fun i=>((i:Nat):Int)
theorem EM (hc:X.calm=true):iK X (.type "list") (fun xs H Q=>∃(r:Addr) (n:Nat),xs=[.ref r]/\H r=some (.tW 0 (n:Int))/\n<=1000/\∀l,H l=none->Q (.ref l) (upd H l (.lst ((upTo n).map V.int)))):=by
 intro pins s σ H xs us Q I r h
 obtain ⟨a,n,rfl,hr,hn,q⟩:=h
 obtain ⟨u,rfl,ru⟩:=vals1 r
 cases ru
 obtain ⟨t,t2,t3,e⟩:=(show d_ X.prog X.w H s.heap a (.tW 0 (n:Int)) from I.hok a _ hr)
 refine call_list_range (n:=n) (I.ok.hd hc) e (small_one (by decide) (by decide) (by omega) (by omega)) (by rw [rangeSize_one];split <;> omega) (by omega) fun h' tk acc' c' hk hS hI=>?_
 obtain ⟨hsz,hit⟩:=hI
 have hv:Vals ((upTo n).map V.int) acc'.toList:=by
  have gen:∀(m:Nat) (us:List Value) (k:Nat),us.length=m->(∀(j:Nat) (v:Value),us[j]?=some v->∃t,v = .int ((0:Int)+((k+j:Nat):Int)*1) t)->Vals (((List.range' k m).map fun i=>((i:Nat):Int)).map V.int) us:=by
   intro m
   induction m with
   | zero=>intro us k hl _;rw [List.length_eq_zero_iff.mp hl];exact .nil
   | succ m ih=>
     intro us k hl hu
     cases us with
     | nil=>cases hl
     | cons v r=>
       obtain ⟨t,e⟩:=hu 0 v rfl
       refine .cons ⟨t,?_⟩ (ih r (k+1) (by simpa using hl) fun j v' hj=>?_)
       . rw [e]
         show Value.int _ t=Value.int ((k:Nat):Int) t
         congr 1
         omega
       . obtain ⟨t,e⟩:=hu (j+1) v' (by simpa using hj)
         exact ⟨t,by rw [e];congr 1;omega⟩
  have:=gen n acc'.toList 0 (by simpa using hsz) fun j v hj=>by
   obtain ⟨t,e⟩:=hit j v (by simpa using hj)
   exact ⟨t,by rw [e];congr 1;omega⟩
  unfold upTo
  rw [List.range_eq_range']
  exact this
 have hlen:((upTo n).map V.int).length<=sizeLine:=by unfold upTo;simp;exact small (by omega)
 exact ⟨.ref s.heap.objs.size,_,I.laid (a:=s.heap.objs.size) (o:= .lst ((upTo n).map V.int)) (h':=h') (t':=tk) hk (aN _) ⟨hlen,acc'.toList,c',hv,by simpa using hS⟩,Z,q _ I.fresh⟩
inductive Uq (K:Fg) (Q:VK) (x:V) (y:V) (H2:Hp):Prop
 | mk  (_:y = .int (-1)) (a xs:_) (_:x = .ref a) (_:aH K H2 a xs) (_:∀p,H2 p=none->Q (.ref p) (upd H2 p (.lst xs.reverse)))
def Zf (K:Fg) (ts:TE) (σ:St) (Q:VK):V->Hp->Prop:=fun x H1=>ts σ H1 (Uq K Q x)
def acq (K:Fg) (te ts:TE):TE:=fun σ H Q=>te σ H (Zf K ts σ Q)
end
theorem sum_set:∀(as:List Int) (j:Nat) (x:Int),j<as.length->(as.set j x).sum=as.sum-as.getD j 0+x
 | [],j,_,h=>absurd h (Nat.not_lt_zero _)
 | a::r,0,x,_=>by
   show (x::r).sum=(a::r).sum-a+x
   rw [cL,cL];omega
 | a::r,j+1,x,h=>by
   show (a::r.set j x).sum=(a::r).sum-r.getD j 0+x
   rw [cL,cL,sum_set r j x (by simpa using h)];omega
theorem Rq (as:List Int) (j k:Nat) (x:Int) (h:j<as.length):(as.set j x).getD k 0=if k=j then x else as.getD k 0:=by
 rw [lF,List.getElem?_set]
 by_cases e:j=k
 . subst e
   rw [aB rfl,aB h,aB rfl]
   rfl
 . rw [aA e,aA (cM e),<-lF]
theorem u0 {n k:Nat} (h:k<n):AW n (k:Int)=some k:=by
 unfold AW
 rw [aB (by omega),aB (by omega)]
 rfl
abbrev tx (cs:List Nat):Str:=⟨cs.toArray⟩
theorem Hf (x:Str):tx x.cps.toList=x:=by cases x;rfl
theorem xG (cs:List Nat):(tx cs).length=cs.length:=by show cs.toArray.size=_;rw [gG]
theorem Wv (a b:List Nat):(tx a++tx b:Str)=tx (a++b):=by
 show (⟨a.toArray++b.toArray⟩:Str)=_
 simp [tx]
def SS (cs:List Nat):It:=⟨fun i _=>i<cs.length,fun i H v H'=>H'=H/\∃c,cs[i]?=some c/\v = .str (tx [c]),fun i _=>cs.length<=i⟩
theorem Nc {P:Program} {w:World} {K:Fg} {tg:Expr} (x:Str) (t:Tok) (it:Addr):Turn P w K tg (SS x.cps.toList) [it] it (fun i h=>h.IsStrIter it "str_ascii_iterator" x t i) where
 mem:=by simp
 obj:=fun i h st b hb=>by
  have e:b=it:=by simpa using hb
  subst e
  obtain ⟨o,e,c,d⟩:=st
  exact ⟨o,e,fun v z=>by rw [d] at z;cases z⟩
 keep:=fun i h h' st k=>let ⟨o,ho,r⟩:=st;⟨o,k it (by simp) o ho,r⟩
 item:=by
  intro X hP hw hK hc i pins s σ H E I hf st hg
  subst hP hw hK
  have hi:i<x.cps.size:=by have hg':i<x.cps.toList.length:=hg;simpa using hg'
  obtain ⟨f0,f1,f2,f3,f4,f5⟩:=hf it (by simp)
  refine wpAny_pyNext_ascii_item st (c:=x.cps[i]) (by simp [hi]) fun h' st' sb=>?_
  have I1:Inv X pins σ H { s with heap:=h',toks:=s.toks+1 }:=I.turned (t':=s.toks+1) (fun b o hb e=>sb.extBut b o hb e) f0 f1 f3 f4 f5
  obtain ⟨o,e,c,d⟩:=id st'
  exact ⟨_,Z,yM (s:={ s with heap:=h',toks:=s.toks+1 }) e c d (by decide) ⟨.str (tx [x.cps[i]]),H,I1,⟨_,Z⟩,⟨Z,x.cps[i],by simp [hi],Z⟩,st',fun b hb=>(hf b hb).1⟩⟩
 done:=by
  intro X hP hw hK hc i pins s σ H E I hf st hg
  subst hP hw hK
  have hi:x.cps.size<=i:=by have hg':x.cps.toList.length<=i:=hg;simpa using hg'
  obtain ⟨f0,f1,f2,f3,f4,f5⟩:=hf it (by simp)
  exact wpAny_pyNext_ascii_end (I.ok.hd hc) st (by simp;omega) fun h' eb=>⟨Z,I.turned (t':=s.toks) (fun b o hb e=>eb b o hb e) f0 f1 f3 f4 f5⟩
 self:=fun _ _ _ _ _ st h=>wpAny_pyIter_striter_ascii st h
theorem OW {P:Program} {w:World} {K:Fg} {tg:Expr} (x:Str) (t:Tok) (it:Addr):Turn P w K tg (SS x.cps.toList) [it] it (fun i h=>h.IsStrIter it "str_iterator" x t i) where
 mem:=by simp
 obj:=fun i h st b hb=>by
  have e:b=it:=by simpa using hb
  subst e
  obtain ⟨o,e,c,d⟩:=st
  exact ⟨o,e,fun v z=>by rw [d] at z;cases z⟩
 keep:=fun i h h' st k=>let ⟨o,ho,r⟩:=st;⟨o,k it (by simp) o ho,r⟩
 item:=by
  intro X hP hw hK hc i pins s σ H E I hf st hg
  subst hP hw hK
  have hi:i<x.cps.size:=by have hg':i<x.cps.toList.length:=hg;simpa using hg'
  obtain ⟨f0,f1,f2,f3,f4,f5⟩:=hf it (by simp)
  refine wpAny_pyNext_wide_item st (c:=x.cps[i]) (by simp [hi]) fun h' st' sb=>?_
  have I1:Inv X pins σ H { s with heap:=h',toks:=s.toks+1 }:=I.turned (t':=s.toks+1) (fun b o hb e=>sb.extBut b o hb e) f0 f1 f3 f4 f5
  obtain ⟨o,e,c,d⟩:=id st'
  exact ⟨_,Z,yM (s:={ s with heap:=h',toks:=s.toks+1 }) e c d (by decide) ⟨.str (tx [x.cps[i]]),H,I1,⟨_,Z⟩,⟨Z,x.cps[i],by simp [hi],Z⟩,st',fun b hb=>(hf b hb).1⟩⟩
 done:=by
  intro X hP hw hK hc i pins s σ H E I hf st hg
  subst hP hw hK
  have hi:x.cps.size<=i:=by have hg':x.cps.toList.length<=i:=hg;simpa using hg'
  obtain ⟨f0,f1,f2,f3,f4,f5⟩:=hf it (by simp)
  exact wpAny_pyNext_wide_end (I.ok.hd hc) st (by simp;omega) fun h' eb=>⟨Z,I.turned (t':=s.toks) (fun b o hb e=>eb b o hb e) f0 f1 f3 f4 f5⟩
 self:=fun _ _ _ _ _ st h=>wpAny_pyIter_striter_wide st h
variable {cs:List Nat} {acc:Addr}
section
variable {X:Cx} {tg:Expr}
inductive Zg (R:It->Hp->Prop) (x:V) (H1:Hp):Prop
 | mk  (cs:List Nat) (_:x = .str (tx cs)) (_:R (SS cs:_) H1)
def Ww (te:TE):TI:=fun σ H R=>te σ H (Zg R)
theorem Wx {l:Expr} {tl:TE} (hl:PE X l tl):PI X tg l (Ww tl):=by
 intro pins s σ H R I h
 refine bg (hl pins s σ H _ I h) fun v s1 ⟨x,H1,I1,r1,q1⟩=>?_
 obtain ⟨cs,e,q⟩:=q1
 subst e
 obtain ⟨t,rfl⟩:=r1
 have fp:∀b∈[s1.heap.objs.size],ng X pins H1 b:=fun b hb=>by
  have e:b=s1.heap.objs.size:=by simpa using hb
  subst e
  exact I1.zQ (aN _) (I1.hok.fresh (aN _))
 have tw:=@OW X.prog X.w X.K tg (tx cs) t s1.heap.objs.size
 have ta:=@Nc X.prog X.w X.K tg (tx cs) t s1.heap.objs.size
 cases ha:(tx cs).cps.all (·<128)
 . exact wpAny_pyIter_wide ha ⟨s1.heap.objs.size,[s1.heap.objs.size],_,_,H1,Z,I1.kept (t':=s1.toks) fun b o e=>b7 _ e,tw,⟨_,dZ _ rfl,Z,Z⟩,fp,q⟩
 . exact wpAny_pyIter_ascii ha ⟨s1.heap.objs.size,[s1.heap.objs.size],_,_,H1,Z,I1.kept (t':=s1.toks) fun b o e=>b7 _ e,ta,⟨_,dZ _ rfl,Z,Z⟩,fp,q⟩
theorem Rr {k:Nat} {Q:VK} (Pv:Nat->List V->Hp->Prop) (hn:cs.length<=100000) (h0:Pv 0 [] (upd H acc (.lst [])))
  (hs:∀(i:Nat) (c:Nat) (out:List V) (H1:Hp),cs[i]?=some c->out.length=i->H1 acc=some (.lst out)->Pv i out H1->te (σ2.set k (some (.str (tx [c])))) H1 (vN Pv i acc out))
  (hd:∀(out:List V) (H1:Hp),out.length=cs.length->H1 acc=some (.lst out)->Pv cs.length out H1->Q (.ref acc) H1):
  Bb (SS cs) (pX k) te acc σ2 H Q:=by
 refine ⟨fun i m σ' H'=>m=cs.length-i/\i<=cs.length/\(∀v,σ'.set k (some v)=σ2.set k (some v))/\∃out,out.length=i/\H' acc=some (.lst out)/\Pv i out H',⟨cs.length,by simp,gM _,fun _=>rfl,[],Z,ai,h0⟩,?_⟩
 rintro i m σ' H' ⟨rfl,hi,hσ,out,ho,ha,p⟩
 by_cases hlt:i<cs.length
 . refine .inr ⟨hlt,fun σ3=>∀v,σ3.set k (some v)=σ2.set k (some v),(vN Pv i acc out),fun σ3 v H4 hS ⟨a,b⟩=>?_,fun x H1 y=>?_⟩
   . refine ⟨out,a,?_,cs.length-(i+1),by omega,Z,hlt,hS,out++[v],by rw [dw,ho];rfl,ai,b⟩
     have:sizeLine=16777216:=jz
     omega
   . obtain ⟨e,c,hc,ex⟩:=y
     subst e ex
     refine ⟨fun v=>by rw [tU];exact hσ v,?_⟩
     have q2:=hs i c out _ hc ho ha p
     rw [<-hσ] at q2
     exact q2
 . have e:i=cs.length:=by omega
   subst e
   exact .inl ⟨aN _,hd out H' ho ha p⟩
end
def D0 (signs:Str) (c:Nat):Bool:=!(Builtin.Str.occurrences signs (tx [c]) 0 signs.length 1).isEmpty
def jZ (c:Int) (n:Nat):List Nat:=(List.range n).map fun i=>97+((c / 26 ^ i) % 26).toNat
theorem vO (c:Int) (n:Nat):(jZ c n).length=n:=by unfold jZ;rw [aD,Gq]
theorem Rt (c:Int) (n:Nat):jZ c (n+1)=jZ c n++[97+((c / 26 ^ n) % 26).toNat] :=by
 unfold jZ
 rw [List.range_succ,bL]
 rfl
theorem OX {k:Int} (h0:0<=k) (h1:k<26):qj (("abcdefghijklmnopqrstuvwxyz":Str).cps.toList) k=some (97+k.toNat):=by
 have h:∀n:Nat,n<26->("abcdefghijklmnopqrstuvwxyz":Str).cps.toList[n]?=some (97+n):=by decide +kernel
 have e:k=((k.toNat:Nat):Int):=by omega
 have:=au (h k.toNat (by omega))
 rw [<-e] at this
 exact this
structure CO (vs:List V) (H:Hp) (Q:VK) (E:XK):Prop where
 ex:∃(c:Int) (n:Nat),vs=[.int c, .int (n:Int)]/\0<=c/\n<=1000/\Q (.str (tx (jZ c n))) H
theorem Hg {Q:VK} {E:XK} {c ni:Int} {n:Nat} (e:ni=(n:Int)) (hc:0<=c) (hn:n<=1000) (q:Q (.str (tx (jZ c n))) H):CO [.int c, .int ni] H Q E:=by
 subst e
 exact ⟨c,n,Z,hc,hn,q⟩
inductive Ur (vs:List V) (H:Hp) (Q:VK) (E:XK):Prop
 | mk (cs:List Nat) (signs:Str) (_:vs=[.str (tx cs), .str signs]) (_:cs.length<=100000) (_:∀H',aQ H H'->Q (.bl (cs.all (D0 signs))) H')
def zT:Sp:=bx (Ur)
theorem Nd {H:Hp} {Q:VK} {E:XK} {cs:List Nat} {signs:Str} (hl:cs.length<=100000) (q:∀H',aQ H H'->Q (.bl (cs.all (D0 signs))) H'):zT [.str (tx cs), .str signs] H Q E:=⟨cs,signs,Z,hl,q⟩
def isName (cs:List Nat):Bool:=decide (1<=(cs.length:Int)) && decide ((cs.length:Int)<=8) && cs.all (D0 "abcdefghijklmnopqrstuvwxyz")
inductive Us (vs:List V) (H:Hp) (Q:VK) (E:XK):Prop
 | mk (cs:List Nat) (_:vs=[.str (tx cs)]) (_:cs.length<=100000) (_:∀H',aQ H H'->Q (.bl (isName cs)) H')
def vP:Sp:=bx (Us)
theorem Bj {Q:VK} {E:XK} (hl:cs.length<=100000) (q:∀H',aQ H H'->Q (.bl (isName cs)) H'):vP [.str (tx cs)] H Q E:=⟨cs,Z,hl,q⟩
theorem Bk {p q:Prop} (h:if true=true then p else q):p:=by rwa [aB rfl] at h
theorem Bl {p q:Prop} (h:if false=true then p else q):q:=by rwa [aA fh] at h
variable {cond:Expr}
section
variable {prog:Program} {w:World} {A:Around} {R:Result->Shared->Prop} {s:Shared}
theorem EN {target:Expr} {it acc:Value} (J:Nat->Shared->Prop)
  (turn:∀n s,J n s->wpAny (model prog w) A (pyNext it) (fun r s₁=>match r with
    | none=>R (.ok .next) s₁
    | some v=>wpAny (model prog w) A (letOwnedTupleGo target it v) (fun _ s₂=>wpAny (model prog w) A (assign target env v) (fun _ s₃=>wpAny (model prog w) A (isTrue cond env (eval cond env)) (fun ok Wy=>if ok=true then
       wpAny (model prog w) A (eval elt env) (fun x s₄=>wpAny (model prog w) A (call (.builtin "list.append") [acc,x]) (fun _ s₅=>∃m,m<n/\J m s₅) (fun _ _=>False) s₄) (fun _ _=>False) Wy
       else ∃m,m<n/\J m Wy) (fun _ _=>False) s₃) (fun _ _=>False) s₂) (fun _ _=>False) s₁) (fun _ _=>False) s)
  (n:Nat) (h:J n s):codeAny (model prog w) A (.compLoop (.ListComp elt [⟨target,iter,[cond],0⟩] scope pos) 0 it acc env) R s:=by
 refine codeAny_loop rfl J (fun n s hI=>?_) n h
 show wpAny _ A ((compTurn (.ListComp elt [⟨target,iter,[cond],0⟩] scope pos) 0 it acc env).onRaise (fun x=>do noteFrame x env;theTreesLotGoes x)) _ _ s
 refine wpAny_noted ?_
 rw [compTurn_list]
 refine az (AE (az (iU (turn n s hI) (fun r s₁ h₁=>?_) fun _ _ h'=>h'.elim)))
 cases r with
 | none=>exact aU h₁
 | some v=>
   refine az (iU h₁ (fun _ s₂ h₂=>az (iU h₂ (fun _ s₃ h₃=>?_) fun _ _ h'=>h'.elim)) fun _ _ h'=>h'.elim)
   refine az (wpAny_tests_one (iU h₃ (fun ok Wy h₃'=>?_) fun _ _ h'=>h'.elim))
   cases ok with
   | false=>exact aU ⟨Z,Bl h₃'⟩
   | true=>exact az (az (iU (Bk h₃') (fun x s₄ h₄=>az (iU h₄ (fun _ s₅ h₅=>aU (aU ⟨Z,h₅⟩)) fun _ _ h'=>h'.elim)) fun _ _ h'=>h'.elim))
end
variable {tc:TT} {wi:TI}
section
variable {X:Cx}
def Bm (J:It) (g:TG) (tc:TT) (te:TE) (acc:Addr) (σ₀:St) (H:Hp) (Q:VK):Prop:=∃W:Nat->Nat->St->Hp->Prop,
 (∃m,W 0 m σ₀ (upd H acc (.lst [])))/\∀i m σ2 H2,W i m σ2 H2->
   (J.stop i H2/\Q (.ref acc) H2)\/(J.go i H2/\∃(S:St->Prop) (N:V->Hp->Prop) (N0:Hp->Prop),(∀σ3 v H4,S σ3->N v H4->∃xs,H4 acc=some (.lst xs)/\xs.length<sizeLine/\∃m',m'<m/\W (i+1) m' σ3 (upd H4 acc (.lst (xs++[v]))))/\
     (∀σ3 H4,S σ3->N0 H4->∃m',m'<m/\W (i+1) m' σ3 H4)/\∀x H',J.AM i H2 x H'->g x σ2 H' fun σ3 H3=>S σ3/\tc σ3 H3 fun b H4=>if b=true then te σ3 H4 N else N0 H4)
def Ut (ix:List (Option Nat)) (g:TG) (tc:TT) (te:TE) (σ:St) (Q:VK):It->Hp->Prop:=fun J H1=>∀acc,H1 acc=none->Bm J g tc te acc (pick ix σ) H1 Q
def OY (wi:TI) (ix:List (Option Nat)) (g:TG) (tc:TT) (te:TE):TE:=fun σ H Q=>wi σ H (Ut ix g tc te σ Q)
theorem J6 {ix:List (Option Nat)} {g:TG} {Q:VK}
  {RR:Value->Addr->Result->Shared->Prop} (hc:X.calm=true) (hg:∀cl s₂ H₂ fp,PG (dz X N2 scope cl s₂ H₂ fp) tg g) (he:∀cl s₂ H₂ fp,PE (dz X N2 scope cl s₂ H₂ fp) elt te)
  (ht:∀cl s₂ H₂ fp,PT (dz X N2 scope cl s₂ H₂ fp) cond tc) (hk:scope.kind = .function) (hn:qo X.N X.env.scope.names scope.names N2 ix=true)
  (GY:∀y c,(y,c)∈cl->X.env.cells.lookup y=some c) (CM:∀y,(y,NameKind.free)∈scope.names->∃c,(y,c)∈cl)
  {it:Addr} {fp:List Addr} {tn:Nat->Heap->Prop} {J:It} (I:Inv X pins σ H s) (T:Turn X.prog X.w X.K tg J fp it tn) (st:tn 0 s.heap) (f:∀b∈fp,ng X pins H b)
  (h:∀acc,H acc=none->Bm J g tc te acc (ix.map fun o=>o.bind fun j=>(σ[j]?).join) H Q)
  (hR:∀acc C H' s' m,Inv X pins σ H' s'->s'.heap.Ns C m->H' C=none->C≠X.env.locals->X.s₀.heap.objs.size<=C->(∀x c,X.env.cells.lookup x=some c->c≠C)->(∀p∈X.pn++pins,p.1≠C)->Q (.ref acc) H'->RR (.ref acc) C (.ok .next) s'):
  wpAny (model X.prog X.w) X.A (newList []) (fun acc s₃=>wpAny (model X.prog X.w) X.A (newFunctionEnv scope X.env.globals cl [] X.env.qual none .none (some X.env)) (fun cenv s₄=>
   codeAny (model X.prog X.w) X.A (.compStart (.ListComp elt [⟨tg,iter,[cond],0⟩] scope pos) 0 (.ref it) acc { cenv with scope:=relabel scope X.env }) (RR acc cenv.locals) s₄) E s₃) E s:=by
 obtain ⟨k1,k2,k3,k4,k5⟩:=nv hn
 refine vA ?_
 have I3:Inv X pins σ (upd H s.heap.objs.size (.lst [])) { s with heap:=s.heap.push { cls:= .type "list",data:= .seq ([] :List Value).toArray } }:=
  I.laid (a:=s.heap.objs.size) (o:= .lst []) (t':=s.toks) (fun _ _ q=>b7 _ q) (aN _) ⟨gM _,[],_, .nil,dZ _ rfl⟩
 obtain ⟨W,⟨m0,w0⟩,turn⟩:=h s.heap.objs.size I.fresh
 have fo:∀b∈fp,b<s.heap.objs.size:=fun b hb=>by
  obtain ⟨o,e,_⟩:=T.obj 0 _ st b hb
  exact bM e
 have st3:tn 0 (s.heap.push { cls:= .type "list",data:= .seq ([] :List Value).toArray }):=T.keep _ _ _ st fun b _ o e=>b7 _ e
 have f3:∀b∈fp,ng X pins (upd H s.heap.objs.size (.lst [])) b:=fun b hb=>⟨by rw [ay (eU (fo b hb))];exact (f b hb).1,(f b hb).2⟩
 have OQ:∀b∈fp,b<(s.heap.push { cls:= .type "list",data:= .seq ([] :List Value).toArray }).objs.size:=fun b hb=>by rw [kL];exact MG (fo b hb)
 generalize Wo:({ s with heap:=s.heap.push { cls:= .type "list",data:= .seq ([] :List Value).toArray } }:Shared)=s3 at *
 have Wq:s3.heap=s.heap.push { cls:= .type "list",data:= .seq ([] :List Value).toArray }:=by rw [<-Wo]
 rw [<-Wq] at st3 OQ
 generalize s.heap.objs.size=acc at *
 generalize eH3:upd H acc (.lst [])=H3 at *
 have IY:=Ba (N2:=N2) (scope:=scope) (cl:=cl) (fp:=fp) (σ2:=ix.map fun o=>o.bind fun j=>(σ[j]?).join) I3 hk GY CM f3 OQ (by rw [aD];exact k1) (fun i x v e1 e2=>by
  rw [bN] at e2
  cases ei:ix[i]? with
  | none=>rw [ei] at e2;cases e2
  | some o=>
    rw [ei] at e2
    cases o with
    | none=>cases e2
    | some j=>
      obtain ⟨a1,a2,a3⟩:=k2 i x j e1 ei
      refine ⟨a2,a3,j,a1,?_⟩
      have e3:(σ[j]?).join=some v:=gq e2
      cases ej:σ[j]? with
      | none=>rw [ej] at e3;cases e3
      | some z=>rw [ej] at e3;exact jY some e3) k5
 have ne:wpAny (model X.prog X.w) X.A (newFunctionEnv scope X.env.globals cl [] X.env.qual none .none (some X.env)) (fun cenv s₄=>
   cenv={ scope:=scope,locals:=s3.heap.objs.size,globals:=X.env.globals,cells:=cellsFrom (s3.heap.objs.size+1) scope.names cl,qual:=X.env.qual,func:=none,code:=X.env.code,frame:=X.env.frame,builtins:=X.env.builtins }/\
   s₄={ s3 with heap:=pushCells (s3.heap.push { cls:= .type "dict",data:= .dict #[] }) scope.names }) E s3:=by
  simp only [newFunctionEnv,Option.isSome_some,if_true]
  refine az (wpAny_alloc ?_)
  refine az (wpAny_layCells _ (fun name kind cells=>by cases hkc:kind==NameKind.cell <;> simp [hkc]) _ _ _ _ ?_)
  rw [AB]
  refine az (aU (aU ⟨?_,Z⟩))
  rw [show ({ s3 with heap:=s3.heap.push { cls:= .type "dict",data:= .dict #[] } }:Shared).heap.objs.size=s3.heap.objs.size+1 from kL ..]
 refine bg ne fun cenv s4 ⟨e1,e2⟩=>?_
 subst e1 e2
 have OR:tn 0 (pushCells (s3.heap.push { cls:= .type "dict",data:= .dict #[] }) scope.names):=T.keep _ _ _ st3 fun b _ o e=>FO _ _ b o (b7 _ e)
 have Bd:s3.heap.objs.size≠X.env.locals:=yJ I3.lt
 have rW:∀{H':Hp},(∀b∈fp,H' b=none)->∀b∈fp,ng (dz X N2 scope cl s3 H3 fp) [] H' b:=fun {H'} hn b hb=>
  ⟨hn b hb,(IY.ok.Li b hb).1,IY.ok.CK b hb, .inl hb,(IY.ok.Li b hb).2,fun p hp=>nomatch hp⟩
 have loop:codeAny (model X.prog X.w) X.A (.compLoop (.ListComp elt [⟨tg,iter,[cond],0⟩] scope pos) 0 (.ref it) (.ref acc) (dz X N2 scope cl s3 H3 fp).env) (RR (.ref acc) s3.heap.objs.size)
   { s3 with heap:=pushCells (s3.heap.push { cls:= .type "dict",data:= .dict #[] }) scope.names }:=by
  refine EN (fun n s'=>∃i σ' H',Inv (dz X N2 scope cl s3 H3 fp) [] σ' H' s'/\tn i s'.heap/\(∀b∈fp,H' b=none)/\W i n σ' H') ?_ m0 ⟨0,_,H3,IY,OR,fun b hb=>(f3 b hb).1,w0⟩
  rintro n s5 ⟨i,σ5,H5,I5,Be,GZ,w5⟩
  rcases turn i n σ5 H5 w5 with ⟨stop,qn⟩|⟨go,S,N,N0,Wr,hS0,step⟩
  . refine bg (T.done (dz X N2 scope cl s3 H3 fp) rfl rfl rfl hc i [] s5 σ5 H5 (fun _ _=>False) I5 (rW GZ) Be stop) fun r s6 ⟨hr,I6⟩=>?_
    subst hr
    obtain ⟨m6,Ws,_⟩:=id I6.loc
    have IX:Inv X pins σ H5 s6:=I3.ML (ch:=fp) I6.os I6.base I6.hok I6.bare fun b hb=>⟨(f3 b hb).2.2.2.1,(f3 b hb).2.1,(f3 b hb).2.2.2.2.1,(f3 b hb).2.2.2.2.2⟩
    refine hR acc s3.heap.objs.size H5 s6 m6 IX Ws I6.free Bd I3.sz (fun x c e z=>?_) (fun p hp z=>?_) qn
    . obtain ⟨v,q⟩:=I3.cell x c e
      exact absurd q.lt (by rw [z];exact jf _)
    . exact absurd (bM (I3.pin p hp).1) (by rw [z];exact jf _)
  . refine bg (T.item (dz X N2 scope cl s3 H3 fp) rfl rfl rfl hc i [] s5 σ5 H5 (fun _ _=>False) I5 (rW GZ) Be go) fun r s6 ⟨u,hr,h6⟩=>?_
    subst hr
    refine bg h6 fun _ s7 ⟨x,H7,I7,r7,y7,Bf,OS⟩=>?_
    have Wt:=I7.pinned (rW OS) (T.obj _ _ Bf)
    refine bg (hg cl s3 H3 fp _ s7 σ5 H7 x u _ Wt r7 (step x H7 y7)) fun _ s8 ⟨σ8,H8,I8,SR,q8⟩=>?_
    refine bg (ht cl s3 H3 fp _ s8 σ8 H8 _ I8 q8) fun ok s9' ⟨H9',SV,q9'⟩=>?_
    cases ok with
    | false=>
      obtain ⟨m',hm,w9⟩:=hS0 σ8 H9' SR (Bl q9')
      refine ite_ff ⟨m',hm,i+1,σ8,_,SV.oV,T.keep _ _ _ Bf fun b hb o e=>(SV.pin (b,o) (ja _ (ja _ (iV hb e)))).1,fun b hb=>?_,w9⟩
      obtain ⟨o,e,d⟩:=T.obj _ _ Bf b hb
      exact (SV.pin (b,o) (ja _ (ja _ (iV hb e)))).2.1
    | true=>
      refine ite_tt ?_
      refine bg (he cl s3 H3 fp _ s9' σ8 H9' _ SV (Bk q9')) fun y s9 ⟨v,H9,I9,r9,q9⟩=>?_
      obtain ⟨xs,hxs,Wu,m',hm,w9⟩:=Wr σ8 v H9 SR q9
      refine bg (ef _ s9 σ8 H9 (.ref acc) [v] (.ref acc) [y] (fun z xF=>z = .bU/\xF=upd H9 acc (.lst (xs++[v]))) I9 rfl (.cons r9 .nil) ⟨acc,xs,v,Z,Z,hxs,Wu,Z,Z⟩) fun z OT ⟨zv,xF,G0,r10,ez,eH⟩=>?_
      subst eH
      refine ⟨m',hm,i+1,σ8,_,G0.oV,T.keep _ _ _ Bf fun b hb o e=>(G0.pin (b,o) (ja _ (ja _ (iV hb e)))).1,fun b hb=>?_,w9⟩
      obtain ⟨o,e,d⟩:=T.obj _ _ Bf b hb
      exact (G0.pin (b,o) (ja _ (ja _ (iV hb e)))).2.1
 exact codeAny_compStart_list loop (T.self _ 0 _ _ _ OR loop)
theorem Ru (N2:List Str) (ix:List (Option Nat)) {g:TG} (hc:X.calm=true) (hi:PI X tg iter wi)
  (hg:∀cl s₂ H₂ fp,PG (dz X N2 scope cl s₂ H₂ fp) tg g) (he:∀cl s₂ H₂ fp,PE (dz X N2 scope cl s₂ H₂ fp) elt te)
  (ht:∀cl s₂ H₂ fp,PT (dz X N2 scope cl s₂ H₂ fp) cond tc) (hk:scope.kind = .function) (hn:qo X.N X.env.scope.names scope.names N2 ix=true) (hs:∀x,foldedSetIterable iter X.env x=pure x:=by intro _;rfl):
  PE X (.ListComp elt [⟨tg,iter,[cond],0⟩] scope pos) (OY wi ix g tc te):=by
 intro pins s σ H Q I h
 obtain ⟨k1,k2,k3,k4,k5⟩:=nv hn
 obtain ⟨cl,OZ,c1,c2⟩:=vM (scope:=scope) (env:=X.env) fun y hy e=>I.ok.has y.1 (k3 y hy e)
 rw [eval_ListComp]
 refine wpAny_comprehension_free (use:=none) rfl hs OZ hk k4 (bg (hi pins s σ H _ I h) fun v s1 h1=>bg h1 fun itv s2 h2=>?_)
 obtain ⟨it,fp,tn,J,H2,e,I2,T,st2,f2,h2⟩:=h2
 subst e
 refine J6 (RR:=fun acc C=>compPost (model X.prog X.w) X.A X.xe none (EP X pins σ Q) acc C) (Q:=Q) hc hg he ht hk hn (fun y c m=>(c1 y c m).1) c2 I2 T st2 f2 h2 ?_
 intro acc C H' s' m I' ns Bd hL hsz u6 Bo q
 exact ⟨m,ns,fun h' hs'=>⟨.ref acc,H',I'.turned (it:=C) (t':=s'.toks) (fun b o hb e=>(hs'.2 b hb).trans e) Bd hL (.inr hsz) u6 Bo,Z,q⟩⟩
end
theorem rX {α:Type} [DecidableEq α] :∀{l m:List α},l.Nodup->(∀x∈l,x∈m)->l.length<=m.length
 | [],_,_,_=>gM _
 | x::r,m,h,hs=>by
   have hn:=fO.mp h
   have hx:=hs x cV
   have:=rX (l:=r) (m:=m.erase x) hn.2 fun y hy=>by
    have hne:y≠x:=fun e=>hn.1 (e▸hy)
    exact (List.mem_erase_of_ne hne).mpr (hs y (cD _ hy))
   rw [List.length_erase_of_mem hx] at this
   have hp:0<m.length:=List.length_pos_of_mem hx
   rw [jy]
   omega
variable {i:Nat}
theorem O0 (c:Int) {n:Nat} (h:i<n):(jZ c n)[i]?=some (97+((c / 26 ^ i) % 26).toNat):=by
 unfold jZ
 rw [bN,List.getElem?_range h]
 rfl
theorem Uu {c c':Int} {n d:Nat} (h:d<n) (e:jZ c n=jZ c' n):(c / 26 ^ d) % 26=(c' / 26 ^ d) % 26:=by
 have h1:=O0 c h
 rw [e,O0 c' h] at h1
 have h2:=gq h1
 have a0:0<=(c / 26 ^ d) % 26:=m8 _ (by decide)
 have b0:0<=(c' / 26 ^ d) % 26:=m8 _ (by decide)
 omega
structure ny (x:List Nat):Prop where
 lo:1<=x.length
 hi:x.length<=8
 Uv:∀c∈x,97<=c/\c<123
theorem Wz (c:Int) {n:Nat} (h1:1<=n) (h2:n<=8):ny (jZ c n):=by
 refine ⟨by rw [vO];exact h1,by rw [vO];exact h2,fun x hx=>?_⟩
 obtain ⟨i,_,rfl⟩:=bK.mp hx
 have a0:0<=(c / 26 ^ i) % 26:=m8 _ (by decide)
 have a1:(c / 26 ^ i) % 26<26:=xu _ (by decide)
 omega
def qp (nss:List (List Nat)):List V:=nss.map fun x=>V.str (tx x)
theorem Rv (nss:List (List Nat)):(qp nss).all pY=true:=by
 unfold qp
 rw [List.all_map,uz]
 exact fun _ _=>rfl
theorem O1 {a b:List Nat} (h:tx a=tx b):a=b:=by
 have:a.toArray=b.toArray:=by injection h
 simpa using this
theorem Ly (x:List Nat) (nss:List (List Nat)):DV (.str (tx x)) (qp nss)=decide (x∈nss):=by
 unfold DV qp
 rw [List.any_map,yG,List.any_eq_true,decide_eq_true_eq]
 constructor
 . rintro ⟨y,hy,e⟩
   have e2:wX (.str (tx y)) (.str (tx x))=true:=e
   have e3:tx y=tx x:=by
    unfold wX at e2
    simpa using e2
   rw [<-O1 e3]
   exact hy
 . intro h
   refine ⟨x,h,?_⟩
   show wX (.str (tx x)) (.str (tx x))=true
   unfold wX
   simp
open PySem.NumText
section
variable {X:Cx}
end
def Nf (lo st:Int) (n:Nat):It:=⟨fun i _=>i<n,fun i H x H'=>H'=H/\x = .int (lo+i*st),fun i _=>n<=i⟩
variable {P:Program}
theorem J7 {w:World} (it:Addr) (lo st:Int) (n:Nat):Turn P w K tg (Nf lo st n) [it] it (fun i h=>IsRangeIter h it (lo+(i:Nat)*st) ((n:Int)-(i:Nat)) st) where
 mem:=by simp
 obj:=fun i h st b hb=>by
  have e:b=it:=by simpa using hb
  subst e
  exact ⟨_,st,fun v z=>by
   have z':Data.fields _=Data.cell v:=z
   cases z'⟩
 keep:=fun i h h' st k=>k it (by simp) _ st
 item:=by
  intro X hP hw hK hc i pins s σ H E I hf st' hg
  subst hP hw hK
  obtain ⟨f0,f1,f2,f3,f4,f5⟩:=hf it (by simp)
  have W:=Walks.range (prog:=X.prog) (w:=X.w) (I.ok.hd hc) it lo st n
  refine W.item i s _ _ hg st' fun v h' tk hv st2 kk=>?_
  obtain ⟨t,rfl⟩:=hv
  have I1:Inv X pins σ H { s with heap:=h',toks:=tk }:=I.turned (fun b o hb e=>kk b o (by simpa using hb) e) f0 f1 f3 f4 f5
  exact ⟨_,Z,yM (s:={ s with heap:=h',toks:=tk }) (n:="range_iterator") st2 rfl rfl (by decide) ⟨.int (lo+i*st),H,I1,⟨t,Z⟩,⟨Z,Z⟩,st2,fun b hb=>(hf b hb).1⟩⟩
 done:=by
  intro X hP hw hK hc i pins s σ H E I hf st' hg
  subst hP hw hK
  obtain ⟨f0,f1,f2,f3,f4,f5⟩:=hf it (by simp)
  exact wpAny_pyNext_range_end (I.ok.hd hc) st' (by have:n<=i:=hg;omega) fun h' eb=>⟨Z,I.turned (t':=s.toks) (fun b o hb e=>eb b o hb e) f0 f1 f3 f4 f5⟩
 self:=fun _ _ _ _ _ st h=>wpAny_pyIter_rangeiter st h
variable {tb:TS} {D:Ends}
section
variable {X:Cx} {tg:Expr}
def oX (lo hi st:Int):Nat:=(Builtin.Range.rangeSize lo hi st).toNat
inductive WA (R:It->Hp->Prop) (vs:List V) (H1:Hp):Prop
 | mk  (i j k:Int) (_:vs=[.int i, .int j, .int k]) (_:(0<=i/\i<=1000000/\0<=j/\j<=1000000/\0<k/\k<=1000000)) (_:R (Nf i k (oX i j k)) H1)
def Zh (ta:TA):TI:=fun σ H R=>ta σ H (WA R)
theorem J8 {a b c:Int} (h1:0<=a) (h2:a<=1000000) (h3:0<=b) (h4:b<=1000000) (h5:0<c) (h6:c<=1000000):Builtin.Range.small a b c=true/\0<=Builtin.Range.rangeSize a b c:=by
 have hr:0<=Builtin.Range.rangeSize a b c/\Builtin.Range.rangeSize a b c<=1000001:=by
  unfold Builtin.Range.rangeSize
  rw [aB (by omega)]
  split
  . have e0:0<=(b-a-1) / c:=Az (by omega) (by omega)
    have e1:(b-a-1) / c<=b-a-1:=Int.ediv_le_self _ (by omega)
    omega
  . omega
 refine ⟨?_,hr.1⟩
 unfold Builtin.Range.small
 simp only [Builtin.Range.rangeFitsLong,Gs,Bool.or_eq_true,decide_eq_true_eq,lQ,show c>0 from h5,if_true]
 omega
theorem Ng {lo st:Int} {n:Nat} {g:TG} (Pv:Nat->St->Hp->Prop) (h0:Pv 0 σ H)
  (hs:∀i σ H,i<n->Pv i σ H->g (.int (lo+i*st)) σ H (tb (D.lp (Pv (i+1))))) (hd:∀σ H,Pv n σ H->D.nx σ H):
  AN g tb D σ (Nf lo st n) H:=by
 refine ⟨fun i m σ H=>m=n-i/\i<=n/\Pv i σ H,⟨n,by simp,gM _,h0⟩,?_⟩
 rintro i m σ H ⟨rfl,hi,p⟩
 by_cases hlt:i<n
 . refine .inr ⟨hlt,fun σ' H'=>Pv (i+1) σ' H',fun σ' H' q=>⟨n-(i+1),by omega,Z,hlt,q⟩,?_⟩
   rintro x H' ⟨rfl,rfl⟩
   exact hs i σ _ hlt p
 . have e:i=n:=by omega
   subst e
   exact .inl ⟨aN _,hd σ H p⟩
end
open Builtin Builtin.Str
section
variable {X:Cx}
end
theorem Lz (c:Int) (j d:Nat):(c+(j:Int)*26 ^ d) / 26 ^ d=c / 26 ^ d+(j:Int):=by
 have hp:(26:Int) ^ d≠0:=Int.ne_of_gt (Int.pow_pos (by decide))
 rw [Int.add_mul_ediv_right _ _ hp]
variable {nss:List (List Nat)} {t:Nat}
theorem O2 {c:Int} {n d:Nat} (h2:d<n) (ht:t<=26) (h:∀j:Nat,j<t->jZ (c+(j:Int)*26 ^ d) n∈nss):t<=nss.length:=by
 have hn:((List.range t).map fun j=>jZ (c+((j:Nat):Int)*26 ^ d) n).Nodup:=by
  have:(List.range t).Pairwise (fun a b=>a<b):=List.pairwise_lt_range
  refine List.Pairwise.map _ ?_ (List.Pairwise.and_mem.mp this)
  rintro a b ⟨ha,hb,hab⟩ e
  have ha':=pT.mp ha
  have hb':=pT.mp hb
  have:=Uu h2 e
  rw [Lz,Lz] at this
  omega
 have:=rX hn fun x hx=>by
  obtain ⟨j,hj,rfl⟩:=bK.mp hx
  exact h j (pT.mp hj)
 rw [aD,Gq] at this
 exact this
inductive WB (K:Fg) (vs:List V) (H:Hp) (Q:VK) (E:XK):Prop
 | mk (a:Addr) (ms:List Int) (k:Int) (many:Nat) (_:vs=[.ref a, .int k, .int (many:Int)]) (_:aH K H a (ms.map V.int)) (_:ms.length<=63) (_:0<=k) (_:many<=25) (_:∀(z:Addr) (nss:List (List Nat)) (H':Hp),aQ H H'->H' z=some (.lst (qp nss))->H z=none->nss.length=many->nss.Nodup->(∀x∈nss,ny x)->Q (.ref z) H')
def CP (K:Fg):Sp:=bx (WB K)
theorem D3 {Q:VK} {E:XK} {ms:List Int} {k mi:Int} {many:Nat} (hmi:mi=(many:Int)) (hS:aH K H a (ms.map V.int)) (h63:ms.length<=63) (h1:0<=k) (h2:many<=25)
  (h:∀(z:Addr) (nss:List (List Nat)) (H':Hp),aQ H H'->H' z=some (.lst (qp nss))->H z=none->nss.length=many->nss.Nodup->(∀x∈nss,ny x)->Q (.ref z) H'):CP K [.ref a, .int k, .int mi] H Q E:=by
 subst hmi
 exact ⟨a,ms,k,many,Z,hS,h63,h1,h2,h⟩
theorem xH {a:List (Key×V)} {b:List (Key×Value)} (r:KV a b):∀{j:Nat} {p:Key×V},a[j]?=some p->∃q,b[j]?=some q/\p.1=q.1/\RelV p.2 q.2:=by
 induction r with
 | nil=>intro j p z;simp at z
 | cons r1 _ ih=>
   intro j p z
   cases j with
   | zero=>simp at z;subst z;exact ⟨_,Z,r1⟩
   | succ j=>simp at z;obtain ⟨q,a1,a2⟩:=ih z;exact ⟨q,by simpa using a1,a2⟩
abbrev mT (H:Hp) (d:Addr) (o:Obj) (kvs:List (Key×V)):Prop:=H d=some (.fB o (.dK kvs))
section
variable {X:Cx} {pins:AO} {σ σ':St} {H H':Hp} {s s':Shared} {d:Addr} {kvs:List (Key×V)} {o:Obj}
theorem Inv.freeze (I:Inv X pins σ H s) (e:H d=some (.dK kvs)) (ho:s.heap.get? d=some o):Inv X pins σ (upd H d (.fB o (.dK kvs))) s:=by
 have nd:∀{b:Addr},H b=none->b≠d:=fun h z=>by rw [z,e] at h;cases h
 have dn:∀{b:Addr},H b=none->upd H d (.fB o (.dK kvs)) b=none:=fun h=>by rw [ay (nd h)];exact h
 have un:∀{b:Addr} {u:HO},H b=some u->(∀k,u ≠ .dK k)->b≠d:=fun h k z=>by rw [z,e] at h;cases h;exact k _ rfl
 refine ⟨I.ok,I.os,I.bare,⟨I.base.keep,I.base.slot,fun b ob q n x=>dn (I.base.free b ob q n x),I.base.there,fun b xs q=>?_,fun b ob u q=>?_,fun b ps q=>?_⟩,I.loc,I.cell,dn I.free,fun x c q=>dn (I.lR x c q),fun p hp=>?_,fun b ob q=>?_,I.len⟩
 . have:=I.base.tups b xs q
   rw [ay (un this fun k z=>by cases z)];exact this
 . have:=I.base.oU b ob u q
   rw [ay (un this fun k z=>by cases z)];exact this
 . obtain ⟨more,this⟩:=I.base.rR b ps q
   exact ⟨more,by rw [ay (un this fun k z=>by cases z)];exact this⟩
 . obtain ⟨h1,h2,h3⟩:=I.pin p hp
   exact ⟨h1,dn h2,h3⟩
 . by_cases hb:b=d
   . subst hb
     rw [ai] at q;cases q
     have:=I.hok b _ e
     exact ⟨ho,this⟩
   . rw [ay hb] at q
     refine (I.hok b ob q).stay (fun c u _ z=>z) (fun c z=>?_) fun c xs z=>?_
     . rw [ay (un z fun k z=>by cases z)];exact z
     . rw [ay (un z fun k z=>by cases z)];exact z
theorem Inv.zU (I:Inv X pins σ H s) (e:mT H d o kvs) (h0:∀o u,X.H₀ d≠some (.fB o u)):Inv X pins σ (upd H d (.dK kvs)) s:=by
 have nd:∀{b:Addr},H b=none->b≠d:=fun h z=>by rw [z] at h;exact absurd (h.symm.trans e) (by simp)
 have dn:∀{b:Addr},H b=none->upd H d (.dK kvs) b=none:=fun h=>by rw [ay (nd h)];exact h
 have un:∀{b:Addr} {u:HO},H b=some u->(∀o k,u ≠ .fB o k)->b≠d:=fun h k z=>by rw [z] at h;have:=h.symm.trans e;cases this;exact k _ _ rfl
 refine ⟨I.ok,I.os,I.bare,⟨I.base.keep,I.base.slot,fun b ob q n x=>dn (I.base.free b ob q n x),I.base.there,fun b xs q=>?_,fun b ob u q=>?_,fun b ps q=>?_⟩,I.loc,I.cell,dn I.free,fun x c q=>dn (I.lR x c q),fun p hp=>?_,fun b ob q=>?_,I.len⟩
 . have:=I.base.tups b xs q
   rw [ay (un this fun _ k z=>by cases z)];exact this
 . have:=I.base.oU b ob u q
   rw [ay (fun (z:b=d)=>h0 ob u (by rw [<-z];exact q))];exact this
 . obtain ⟨more,this⟩:=I.base.rR b ps q
   exact ⟨more,by rw [ay (un this fun _ k z=>by cases z)];exact this⟩
 . obtain ⟨h1,h2,h3⟩:=I.pin p hp
   exact ⟨h1,dn h2,h3⟩
 . by_cases hb:b=d
   . subst hb
     rw [ai] at q;cases q
     exact (I.hok b _ e).2
   . rw [ay hb] at q
     refine (I.hok b ob q).stay (fun c u _ z=>z) (fun c z=>?_) fun c xs z=>?_
     . rw [ay (un z fun _ k z=>by cases z)];exact z
     . rw [ay (un z fun _ k z=>by cases z)];exact z
theorem Inv.O3 (I:Inv X pins σ H s) (e:H d=some (.dK kvs)):∀o u,X.H₀ d≠some (.fB o u):=fun o u z=>by
 have:=I.base.oU d o u z
 rw [e] at this;cases this
theorem Inv.pZ (I:Inv X pins σ H s) (e:mT H d o kvs):s.heap.get? d=some o/\kvs.length<=sizeLine/\(d==sysModules)=false/\∃vs ep,KV kvs vs/\s.heap.DictAt (cI X.prog X.w) d vs ep:=by
 obtain ⟨ho,hz,hs,vs,r,dd⟩:=(show d_ X.prog X.w H s.heap d (.fB o (.dK kvs)) from I.hok d _ e)
 obtain ⟨ep,da⟩:=dd.dictAt
 exact ⟨ho,hz,hs,vs,ep,r,da⟩
end
def Ends.zU (D:Ends) (d:Addr) (o:Obj) (kvs:List (Key×V)):Ends where
 nx:=fun σ H=>mT H d o kvs/\D.nx σ (upd H d (.dK kvs))
 rt:=fun v H=>mT H d o kvs/\D.rt v (upd H d (.dK kvs))
 bk:=fun σ H=>mT H d o kvs/\D.bk σ (upd H d (.dK kvs))
 ct:=fun σ H=>mT H d o kvs/\D.ct σ (upd H d (.dK kvs))
inductive acr (t:TS) (D:Ends) (σ:St) (H:Hp):Prop
 | mk  (d kvs:_) (_:H d=some (.dK kvs)) (_:∀o,t (D.zU d o kvs) σ (upd H d (.fB o (.dK kvs))))
def acs (t:TE):TE:=fun σ H Q=>∃d kvs,H d=some (.dK kvs)/\∀o,t σ (upd H d (.fB o (.dK kvs))) fun v H'=>mT H' d o kvs/\Q v (upd H' d (.dK kvs))
def Itv (d:Addr) (o:Obj) (kvs:List (Key×V)):It:=⟨fun i H=>mT H d o kvs/\i<kvs.length,fun i H x H'=>H'=H/\∃p,kvs[i]?=some p/\x=p.2,fun i H=>mT H d o kvs/\kvs.length<=i⟩
def Iti (d:Addr) (o:Obj) (kvs:List (Key×V)):It:=⟨fun i H=>mT H d o kvs/\i<kvs.length,fun i H x H'=>∃a p,H a=none/\kvs[i]?=some p/\x = .ref a/\H'=upd H a (.tup [kV p.1,p.2]),fun i H=>mT H d o kvs/\kvs.length<=i⟩
variable {h:Heap} {es:Array DictEntry}
theorem yS {w:World} {d:Addr} {vs:List (Key×Value)} {e1 e2:Nat} {o:Obj} (da:h.DictAt (cI P w) d vs e1) (ho:h.get? d=some o) (hd:o.data = .dict es e2):e1=e2:=by
 obtain ⟨o',es',h1,_,h2,_⟩:=da
 rw [ho] at h1;cases h1
 rw [hd] at h2;cases h2;rfl
theorem O4 {w:World} {k:Key} {v:Value} (h:(cI P w).is k v=true):RelV (kV k) v:=by
 rw [MK] at h
 rcases fM h with ⟨i,t,rfl,rfl⟩|⟨x,t,rfl,rfl⟩
 . exact ⟨t,Z⟩
 . exact ⟨t,Z⟩
variable {it:Addr} {kvs:List (Key×V)} {ep:Nat}
theorem O5 {w:World} {d:Addr} {o:Obj} (hd:o.data = .dict es ep):
  Turn P w K tg (Itv d o kvs) [it] it (fun i h=>h.IsValIter it d i kvs.length ep) where
 mem:=by simp
 obj:=fun i h st b hb=>by
  have e:b=it:=by simpa using hb
  subst e
  obtain ⟨o,e,c,d⟩:=st
  exact ⟨o,e,fun v z=>by rw [d] at z;cases z⟩
 keep:=fun i h h' st k=>st.at fun o e=>k it (by simp) o e
 item:=by
  intro X hP hw hK hc i pins s σ H E I hf st hg
  subst hP hw hK
  obtain ⟨hz,hlt⟩:=hg
  obtain ⟨ho,_,_,vs,uU,r,da⟩:=I.pZ hz
  cases yS da ho hd
  have hl:kvs.length=vs.length:=r.length
  obtain ⟨q,hq,_,rq⟩:=xH r (bq hlt)
  obtain ⟨qk,qv⟩:=q
  rw [hl] at st
  obtain ⟨f0,f1,f2,f3,f4,f5⟩:=hf it (by simp)
  refine wpAny_pyNext_values_item st da hq fun h' st' sb=>?_
  have I1:Inv X pins σ H { s with heap:=h' }:=I.turned (t':=s.toks) (fun b o hb e=>(sb.2 b hb).trans e) f0 f1 f3 f4 f5
  obtain ⟨oi,e,c,dd⟩:=id st'
  exact ⟨_,Z,yM (s:={ s with heap:=h' }) e c dd (by decide) ⟨kvs[i].2,H,I1,rq,⟨Z,kvs[i],bq hlt,Z⟩,by rw [hl];exact st',fun b hb=>(hf b hb).1⟩⟩
 done:=by
  intro X hP hw hK hc i pins s σ H E I hf st hg
  subst hP hw hK
  obtain ⟨hz,hle⟩:=hg
  obtain ⟨ho,_,_,vs,uU,r,da⟩:=I.pZ hz
  cases yS da ho hd
  have hl:kvs.length=vs.length:=r.length
  rw [hl] at st
  obtain ⟨f0,f1,f2,f3,f4,f5⟩:=hf it (by simp)
  exact wpAny_pyNext_values_end (I.ok.hd hc) st da (by rw [rN];omega) fun h' eb=>⟨Z,I.turned (t':=s.toks) (fun b o hb e=>eb b o hb e) f0 f1 f3 f4 f5⟩
 self:=fun _ _ _ _ _ st h=>wpAny_pyIter_valiter st h
variable {elts:List Expr}
theorem Nh {w:World} {kk:Nat} {d:Addr} {o:Obj} (hd:o.data = .dict es ep):
  Turn P w K (.Tuple elts kk pos) (Iti d o kvs) [it] it (fun i h=>∃ok ov,IsItemIter h it d i kvs.length ep ok ov) where
 mem:=by simp
 obj:=fun i h st b hb=>by
  have e:b=it:=by simpa using hb
  subst e
  obtain ⟨ok,ov,e⟩:=st
  exact ⟨_,e,fun v z=>by cases z⟩
 keep:=fun i h h' ⟨ok,ov,st⟩ k=>⟨ok,ov,k it (by simp) _ st⟩
 item:=by
  intro X hP hw hK hc i pins s σ H E I hf st hg
  subst hP hw hK
  obtain ⟨hz,hlt⟩:=hg
  obtain ⟨ok,ov,st⟩:=st
  obtain ⟨ho,_,_,vs,uU,r,da⟩:=I.pZ hz
  cases yS da ho hd
  have hl:kvs.length=vs.length:=r.length
  obtain ⟨q,hq,ek,rq⟩:=xH r (bq hlt)
  obtain ⟨qk,qv⟩:=q
  rw [hl] at st
  obtain ⟨f0,f1,f2,f3,f4,f5⟩:=hf it (by simp)
  refine wpAny_pyNext_items_item st da hq fun key h1 hk st1 ht hsz hkeep=>?_
  refine ⟨_,Z,wpAny_letOwnedTupleGo_items (s:={ s with heap:=h1 }) st1 fun h2 st2 sb=>?_⟩
  have rk:RelV (kV kvs[i].1) key:=by rw [ek];exact O4 hk
  have hil:it≠s.heap.objs.size:=eU (bM st)
  have tZ:∀b o,b≠it->s.heap.get? b=some o->h2.get? b=some o:=fun b o hb e=>sb.extBut b o hb (hkeep b o hb e)
  have I1:Inv X pins σ (upd H s.heap.objs.size (.tup [kV kvs[i].1,kvs[i].2])) { s with heap:=h2 }:=by
   have J:Inv X pins σ H { s with heap:=h2 }:=I.turned (t':=s.toks) tZ f0 f1 f3 f4 f5
   have hn:=I.fresh
   have J2:Inv X pins σ (upd H s.heap.objs.size (.tup [kV kvs[i].1,kvs[i].2])) { s with heap:=h2,gens:=s.gens,drawn:=s.drawn,toks:=s.toks }:=by
    refine I.step (ch:=[it]) (fun b hb=>⟨(hf b hb).2.2.2.1,(hf b hb).2.1,(hf b hb).2.2.2.2.1,(hf b hb).2.2.2.2.2⟩) (fun b o _ _ hc' e _=>tZ b o (by simpa using hc') e) (fun b o _ _ hc' e _=>⟨o.slots,tZ b o (by simpa using hc') e⟩) (fun b o _ e n=>by rw [ay (eU (bM e))];exact n) (fun b o hc' e=>⟨o,tZ b o (by simpa using hc') e⟩)
     (fun b zs q=>by rw [ay (aE q hn)];exact q) (fun b o zs q=>by rw [ay (aE q hn)];exact q) (fun b ps q=>⟨#[],by rw [ay (aE q hn),q];simp⟩) (fun m hm=>?_) (fun b ob e=>?_) I.bare
    . obtain ⟨o,es,ep,ho,r⟩:=hm
      exact ⟨o,es,ep,tZ _ o (fun q=>f1 q.symm) ho,r⟩
    . by_cases hb:b=s.heap.objs.size
      . subst hb
        rw [ai] at e;cases e
        exact ⟨by show 2<=sizeLine;decide,[key,qv], .cons rk (.cons rq .nil),_,sb.extBut _ _ hil.symm ht,Z,0,Z⟩
      . rw [ay hb] at e
        refine (I.hok b ob e).stay (fun c v O6 q=>?_) (fun c q=>by rw [ay (aE q hn)];exact q) fun c zs q=>by rw [ay (aE q hn)];exact q
        refine tZ c v (fun z=>?_) q
        rcases O6 with r|r
        . rw [r] at z;rw [z,f0] at e;cases e
        . rw [z,f0] at r;cases r
   exact J2
  refine ⟨.ref s.heap.objs.size,_,I1,Z,⟨_,kvs[i],I.fresh,bq hlt,Z,Z⟩,⟨key,qv,by rw [hl];exact st2⟩,fun b hb=>?_⟩
  have eb:b=it:=by simpa using hb
  subst eb
  rw [ay hil]
  exact f0
 done:=by
  intro X hP hw hK hc i pins s σ H E I hf st hg
  subst hP hw hK
  obtain ⟨hz,hle⟩:=hg
  obtain ⟨ok,ov,st⟩:=st
  obtain ⟨ho,_,_,vs,uU,r,da⟩:=I.pZ hz
  cases yS da ho hd
  have hl:kvs.length=vs.length:=r.length
  rw [hl] at st
  obtain ⟨f0,f1,f2,f3,f4,f5⟩:=hf it (by simp)
  exact wpAny_pyNext_items_end (I.ok.hd hc) st da (by rw [rN];omega) fun h' eb=>⟨Z,I.turned (t':=s.toks) (fun b o hb e=>eb b o hb e) f0 f1 f3 f4 f5⟩
 self:=fun A i s Q E ⟨ok,ov,st⟩ h=>PySem.W.kcp_self st h
section
variable {X:Cx} {tg:Expr}
inductive WC (R:It->Hp->Prop) (x:V) (H1:Hp):Prop
 | mk  (d o kvs:_) (_:x = .ref d) (_:mT H1 d o kvs) (_:R (Itv d o kvs:_) H1)
def Zi (td:TE):TI:=fun σ H R=>td σ H (WC R)
inductive Uw (R:It->Hp->Prop) (x:V) (H1:Hp):Prop
 | mk  (d o kvs:_) (_:x = .ref d) (_:mT H1 d o kvs) (_:R (Iti d o kvs:_) H1)
def WD (td:TE):TI:=fun σ H R=>td σ H (Uw R)
end
variable {J:It}
theorem rY {n:Nat} {g:TG} (Pv:Nat->St->Hp->Prop) (h0:Pv 0 σ H) (hgo:∀i σ H,i<n->Pv i σ H->J.go i H) (hst:∀σ H,Pv n σ H->J.stop n H)
  (hs:∀i x σ H H',i<n->Pv i σ H->J.AM i H x H'->g x σ H' (tb (D.lp (Pv (i+1))))) (hd:∀σ H,Pv n σ H->D.nx σ H):
  AN g tb D σ (J) H:=by
 refine ⟨fun i m σ H=>m=n-i/\i<=n/\Pv i σ H,⟨n,by simp,gM _,h0⟩,?_⟩
 rintro i m σ H ⟨rfl,hi,p⟩
 by_cases hlt:i<n
 . exact .inr ⟨hgo i σ H hlt p,Pv (i+1),fun σ' H' p'=>⟨n-(i+1),by omega,Z,hlt,p'⟩,fun x H' y=>hs i x σ H H' hlt p y⟩
 . have e:i=n:=by omega
   subst e
   exact .inl ⟨hst σ H p,hd σ H p⟩
section
variable {prog:Program} {w:World} {K:Type} [DecidableEq K] {knd:KeyKind prog w K} {A:Around} {E:VS} {s:Shared}
theorem J9 {d:Addr} {kvs:List (K×Value)} {k:K} {v:Value} {Q:VS} (hit:s.heap.IsKeyIter it d i kvs.length ep)
  (hm:s.heap.DictAt knd d kvs ep) (hx:kvs[i]?=some (k,v)) (hQ:∀key h',knd.is k key=true->h'.IsKeyIter it d (i+1) kvs.length ep->Heap.SameBut it s.heap h'->Q key { s with heap:=h' }):
  wpAny (model prog w) A (Builtin.SmallTypes.nextOf (.ref it)) Q E s:=by
 obtain ⟨o,ho,hc,hd⟩:=id hit;obtain ⟨od,es,hod,hcd,xJ,hk,hp,hn⟩:=id hm
 unfold Builtin.SmallTypes.nextOf
 refine az (xm (name:=Str.ofString "__next__") hit.typeIs Sn (xw Sn hit.typeIs F.entry_dict_keyiterator_next ?_ (F.args_dict_keyiterator_next_1 _)))
 refine az (aU ?_);refine az (az ?_)
 first|(refine az (Sl hit.typeIs (aU ?_));refine az (tR ho hd ?_))|(refine az (Mr hit.typeIs (aU ?_));refine az (tR ho hd ?_))
 have own:Builtin.Dict_items.ownsTuple "dict_keyiterator"=false:=by decide
 simp only [own,Gm,pW]
 show wpAny _ _ (if (Value.ref d==Value.none)=true then _ else _) _ _ _
 rw [aA (fun z=>fh z:¬ ((Value.ref d==Value.none)=true))];refine az (aU ?_)
 have sz:es.size=kvs.length:=by have:=hp.length;simpa using this
 refine az (MH hod xJ ?_);rw [aA (by rw [sz];simp)]
 refine az (aU ?_);refine az (FP hod xJ ?_)
 rw [aA (by simp)];refine aU ?_
 have lt:i<kvs.length:=(dP.mp hx).1
 have lt':i<es.size:=by omega
 have kv:=hp.get? (e:=es[i]) (by simp [lt']) hx
 simp only [show ¬ ((i:Int)<0) from by omega,pW,rP,Array.getElem?_eq_getElem lt'];refine az ?_
 first|(refine az (Sl hit.typeIs (aU ?_));refine az (wpAny_isOneOf_keyiter hit.typeIs ?_))|(refine az (Mr hit.typeIs (aU ?_));refine az (wpAny_isOneOf_keyiter hit.typeIs ?_))
 show wpAny _ _ (setField (.ref it) 1 (rawInt ((i:Int)+1)) >>= _) _ _ _
 refine az (yI ho hd (by simp) ?_)
 have CQ:(s.heap.update it (Obj.mapFields (·.setIfInBounds 1 (rawInt ((i:Int)+1))))).IsKeyIter it d (i+1) kvs.length ep:=⟨_,Mu _ ho (Obj.isFreed_of_fields (CH hd _)),(Obj.cls_mapFields ..).trans hc,by rw [CH hd];simp [rawInt]⟩
 refine az (AF (az (wpAny_isOneOf_keyiter (s:={ s with heap:=s.heap.update it (Obj.mapFields (·.setIfInBounds 1 (rawInt ((i:Int)+1)))) }) CQ.typeIs ?_)))
 exact aU (aU ⟨_,Z,aU (hQ _ _ kv.1 CQ (CF ..))⟩)
theorem Ni {d:Addr} {kvs:List (K×Value)} {Q:VS} (hh:A.handled=none) (hit:s.heap.IsKeyIter it d i kvs.length ep)
  (hm:s.heap.DictAt knd d kvs ep) (hx:kvs[i]?=none) (hE:∀h' e,Heap.ExtBut it s.heap h'->(∃o,h'.get? e=some o/\o.cls = .type "StopIteration")->E (.ref e) { s with heap:=h' }):
  wpAny (model prog w) A (Builtin.SmallTypes.nextOf (.ref it)) Q E s:=by
 obtain ⟨o,ho,hc,hd⟩:=id hit;obtain ⟨od,es,hod,hcd,xJ,hk,hp,hn⟩:=id hm
 unfold Builtin.SmallTypes.nextOf
 refine az (xm (name:=Str.ofString "__next__") hit.typeIs Sn (xw Sn hit.typeIs F.entry_dict_keyiterator_next ?_ (F.args_dict_keyiterator_next_1 _)))
 refine az (aU ?_);refine az (az ?_)
 first|(refine az (Sl hit.typeIs (aU ?_));refine az (tR ho hd ?_))|(refine az (Mr hit.typeIs (aU ?_));refine az (tR ho hd ?_))
 have own:Builtin.Dict_items.ownsTuple "dict_keyiterator"=false:=by decide
 simp only [own,Gm,pW]
 show wpAny _ _ (if (Value.ref d==Value.none)=true then _ else _) _ _ _
 rw [aA (fun z=>fh z:¬ ((Value.ref d==Value.none)=true))];refine az (aU ?_)
 have sz:es.size=kvs.length:=by have:=hp.length;simpa using this
 refine az (MH hod xJ ?_);rw [aA (by rw [sz];simp)]
 refine az (aU ?_);refine az (FP hod xJ ?_)
 rw [aA (by simp)];refine aU ?_
 have ge:es.size<=i:=by rw [sz];simpa using hx
 simp only [show ¬ ((i:Int)<0) from by omega,pW,rP,Array.getElem?_eq_none ge];refine az ?_
 first|(refine az (Sl hit.typeIs (aU ?_));show wpAny _ _ (setField (.ref it) 0 .none >>= _) _ _ _)|(refine az (Mr hit.typeIs (aU ?_));show wpAny _ _ (setField (.ref it) 0 .none >>= _) _ _ _)
 refine az (yI ho hd (by simp) ?_);show wpAny _ _ (newExc (.type "StopIteration") [] >>= _) _ _ _
 refine az ?_;simp only [newExc,newTuple]
 refine az (vA ?_ (by size_fits));refine az (m:=firstArgMember _ _) (wpAny_of_eq (a:=Value.none) (by first|rfl|(simp only [firstArgMember];rfl)) ?_)
 refine vA ?_ (by size_fits);simp only [raiseNew]
 refine az (wpAny_handled ?_);rw [show A.in1.handled=none from hh]
 exact az (aU (wpAny_throw (hE _ _ (((CF ..).extBut.push _).push _) ⟨_,dZ _ rfl,Z⟩)))
theorem J_ {d:Addr} {kvs:List (K×Value)} {k:K} {v:Value} {Q:VS} (hit:s.heap.IsValIter it d i kvs.length ep)
  (hm:s.heap.DictAt knd d kvs ep) (hx:kvs[i]?=some (k,v)) (hQ:∀h',h'.IsValIter it d (i+1) kvs.length ep->Heap.SameBut it s.heap h'->Q v { s with heap:=h' }):
  wpAny (model prog w) A (Builtin.SmallTypes.nextOf (.ref it)) Q E s:=by
 obtain ⟨o,ho,hc,hd⟩:=id hit;obtain ⟨od,es,hod,hcd,xJ,hk,hp,hn⟩:=id hm
 unfold Builtin.SmallTypes.nextOf
 refine az (xm (name:=Str.ofString "__next__") hit.typeIs Sk (xw Sk hit.typeIs F.entry_dict_valueiterator_next ?_ (F.args_dict_valueiterator_next_1 _)))
 refine az (aU ?_);refine az (az ?_)
 first|(refine az (Sm hit.typeIs (aU ?_));refine az (tR ho hd ?_))|(refine az (Ms hit.typeIs (aU ?_));refine az (tR ho hd ?_))
 have own:Builtin.Dict_items.ownsTuple "dict_valueiterator"=false:=by decide
 simp only [own,Gm,pW]
 show wpAny _ _ (if (Value.ref d==Value.none)=true then _ else _) _ _ _
 rw [aA (fun z=>fh z:¬ ((Value.ref d==Value.none)=true))];refine az (aU ?_)
 have sz:es.size=kvs.length:=by have:=hp.length;simpa using this
 refine az (MH hod xJ ?_);rw [aA (by rw [sz];simp)]
 refine az (aU ?_);refine az (FP hod xJ ?_)
 rw [aA (by simp)];refine aU ?_
 have lt:i<kvs.length:=(dP.mp hx).1
 have lt':i<es.size:=by omega
 have kv:=hp.get? (e:=es[i]) (by simp [lt']) hx
 simp only [show ¬ ((i:Int)<0) from by omega,pW,rP,Array.getElem?_eq_getElem lt'];refine az ?_
 first|(refine az (Sm hit.typeIs (aU ?_));refine az (Mv hit.typeIs ?_))|(refine az (Ms hit.typeIs (aU ?_));refine az (Mv hit.typeIs ?_))
 show wpAny _ _ (setField (.ref it) 1 (rawInt ((i:Int)+1)) >>= _) _ _ _
 refine az (yI ho hd (by simp) ?_)
 have CQ:(s.heap.update it (Obj.mapFields (·.setIfInBounds 1 (rawInt ((i:Int)+1))))).IsValIter it d (i+1) kvs.length ep:=⟨_,Mu _ ho (Obj.isFreed_of_fields (CH hd _)),(Obj.cls_mapFields ..).trans hc,by rw [CH hd];simp [rawInt]⟩
 refine az (AF (az (Mv (s:={ s with heap:=s.heap.update it (Obj.mapFields (·.setIfInBounds 1 (rawInt ((i:Int)+1)))) }) CQ.typeIs ?_)))
 refine az (Mv (s:={ s with heap:=s.heap.update it (Obj.mapFields (·.setIfInBounds 1 (rawInt ((i:Int)+1)))) }) CQ.typeIs ?_)
 exact aU (aU ⟨_,Z,aU (kv.2▸hQ _ CQ (CF ..))⟩)
theorem Nj {d:Addr} {kvs:List (K×Value)} {Q:VS} (hh:A.handled=none) (hit:s.heap.IsValIter it d i kvs.length ep)
  (hm:s.heap.DictAt knd d kvs ep) (hx:kvs[i]?=none) (hE:∀h' e,Heap.ExtBut it s.heap h'->(∃o,h'.get? e=some o/\o.cls = .type "StopIteration")->E (.ref e) { s with heap:=h' }):
  wpAny (model prog w) A (Builtin.SmallTypes.nextOf (.ref it)) Q E s:=by
 obtain ⟨o,ho,hc,hd⟩:=id hit;obtain ⟨od,es,hod,hcd,xJ,hk,hp,hn⟩:=id hm
 unfold Builtin.SmallTypes.nextOf
 refine az (xm (name:=Str.ofString "__next__") hit.typeIs Sk (xw Sk hit.typeIs F.entry_dict_valueiterator_next ?_ (F.args_dict_valueiterator_next_1 _)))
 refine az (aU ?_);refine az (az ?_)
 first|(refine az (Sm hit.typeIs (aU ?_));refine az (tR ho hd ?_))|(refine az (Ms hit.typeIs (aU ?_));refine az (tR ho hd ?_))
 have own:Builtin.Dict_items.ownsTuple "dict_valueiterator"=false:=by decide
 simp only [own,Gm,pW]
 show wpAny _ _ (if (Value.ref d==Value.none)=true then _ else _) _ _ _
 rw [aA (fun z=>fh z:¬ ((Value.ref d==Value.none)=true))];refine az (aU ?_)
 have sz:es.size=kvs.length:=by have:=hp.length;simpa using this
 refine az (MH hod xJ ?_);rw [aA (by rw [sz];simp)]
 refine az (aU ?_);refine az (FP hod xJ ?_)
 rw [aA (by simp)];refine aU ?_
 have ge:es.size<=i:=by rw [sz];simpa using hx
 simp only [show ¬ ((i:Int)<0) from by omega,pW,rP,Array.getElem?_eq_none ge];refine az ?_
 first|(refine az (Sm hit.typeIs (aU ?_));show wpAny _ _ (setField (.ref it) 0 .none >>= _) _ _ _)|(refine az (Ms hit.typeIs (aU ?_));show wpAny _ _ (setField (.ref it) 0 .none >>= _) _ _ _)
 refine az (yI ho hd (by simp) ?_);show wpAny _ _ (newExc (.type "StopIteration") [] >>= _) _ _ _
 refine az ?_;simp only [newExc,newTuple]
 refine az (vA ?_ (by size_fits));refine az (m:=firstArgMember _ _) (wpAny_of_eq (a:=Value.none) (by first|rfl|(simp only [firstArgMember];rfl)) ?_)
 refine vA ?_ (by size_fits);simp only [raiseNew]
 refine az (wpAny_handled ?_);rw [show A.in1.handled=none from hh]
 exact az (aU (wpAny_throw (hE _ _ (((CF ..).extBut.push _).push _) ⟨_,dZ _ rfl,Z⟩)))
end
structure xK (P:Program) (w:World) (K:Fg) (S:Hp->Prop) (xs:List V) (it l:Addr) (tn:Nat->Heap->Prop) (src:Heap->Prop):Prop where
 obj:∀i h,tn i h->∃o,h.get? it=some o/\∀v,o.data ≠ .cell v
 keep:∀i h h',tn i h->(∀o,h.get? it=some o->h'.get? it=some o)->tn i h'
 t7:∀h h',src h->(∀o,h.get? l=some o->h'.get? l=some o)->src h'
 D4:∀(X:Cx),X.prog=P->X.w=w->X.K=K->∀(pins:AO) (σ:St) (H:Hp) (s:Shared),Inv X pins σ H s->S H->src s.heap
 item:∀(A:Around) (i:Nat) (x:V) (s:Shared) (Q:VS) (E:VS),tn i s.heap->src s.heap->xs[i]?=some x->(∀u h',RelV x u->tn (i+1) h'->Heap.SameBut it s.heap h'->Q u { s with heap:=h' })->wpAny (model P w) A (Builtin.SmallTypes.nextOf (.ref it)) Q E s
 done:∀(A:Around) (i:Nat) (s:Shared) (Q:VS) (E:VS),A.handled=none->tn i s.heap->src s.heap->xs.length<=i->(∀h' e,Heap.ExtBut it s.heap h'->(∃o,h'.get? e=some o/\o.cls = .type "StopIteration")->E (.ref e) { s with heap:=h' })->wpAny (model P w) A (Builtin.SmallTypes.nextOf (.ref it)) Q E s
theorem Rw {w:World} {l:Addr}:xK P w K (fun H=>aH K H l xs) xs it l (fun i h=>h.IsListIter it l i) (fun h=>∃its:List Value,Vals xs its/\h.IsList l its.toArray) where
 obj:=fun i h ⟨o,e,c,d⟩=>⟨o,e,fun v z=>by rw [d] at z;cases z⟩
 keep:=fun i h h' st k=>st.at k
 t7:=fun h h' ⟨its,r,hl⟩ k=>⟨its,r,hl.at k⟩
 D4:=fun X hP hw hK pins σ H s I h=>by
  subst hP hw hK
  obtain ⟨its,rv,p,_⟩:=I.list h
  exact ⟨its,rv,p.isList⟩
 item:=fun A i x s Q E st ⟨its,r,hl⟩ hx hQ=>by
  obtain ⟨u,hu,ru⟩:=r.get hx
  exact wpAny_nextOf_list_item st hl (by simpa using hu) fun h' st' sb=>hQ u h' ru st' sb
 done:=fun A i s Q E hh st ⟨its,r,hl⟩ hx hE=>wpAny_nextOf_list_end hh st hl (by have:=r.length;simp;omega) hE
theorem Rx {w:World} {d:Addr} {o:Obj} (hd:o.data = .dict es ep):
  xK P w K (fun H=>mT H d o kvs) (kvs.map fun p=>kV p.1) it d (fun i h=>h.IsKeyIter it d i kvs.length ep) (fun h=>∃vs,KV kvs vs/\h.DictAt (cI P w) d vs ep) where
 obj:=fun i h ⟨o,e,c,d⟩=>⟨o,e,fun v z=>by rw [d] at z;cases z⟩
 keep:=fun i h h' st k=>st.at k
 t7:=fun h h' ⟨vs,r,hl⟩ k=>⟨vs,r,hl.at' k⟩
 D4:=fun X hP hw hK pins σ H s I h=>by
  subst hP hw hK
  obtain ⟨ho,_,_,vs,uU,r,da⟩:=I.pZ h
  cases yS da ho hd
  exact ⟨vs,r,da⟩
 item:=fun A i x s Q E st ⟨vs,r,da⟩ hx hQ=>by
  rw [bN] at hx
  obtain ⟨p,hp,rfl⟩:=jx.mp hx
  obtain ⟨q,hq,ek,rq⟩:=xH r hp
  obtain ⟨qk,qv⟩:=q
  have hl:kvs.length=vs.length:=r.length
  rw [hl] at st
  exact J9 st da hq fun key h' hk st' sb=>hQ key h' (by rw [ek];exact O4 hk) (by rw [hl];exact st') sb
 done:=fun A i s Q E hh st ⟨vs,r,da⟩ hx hE=>by
  have hl:kvs.length=vs.length:=r.length
  rw [aD] at hx
  rw [hl] at st
  exact Ni hh st da (by rw [rN];omega) hE
theorem Ry {w:World} {d:Addr} {o:Obj} (hd:o.data = .dict es ep):
  xK P w K (fun H=>mT H d o kvs) (kvs.map fun p=>p.2) it d (fun i h=>h.IsValIter it d i kvs.length ep) (fun h=>∃vs,KV kvs vs/\h.DictAt (cI P w) d vs ep) where
 obj:=fun i h ⟨o,e,c,d⟩=>⟨o,e,fun v z=>by rw [d] at z;cases z⟩
 keep:=fun i h h' st k=>st.at k
 t7:=fun h h' ⟨vs,r,hl⟩ k=>⟨vs,r,hl.at' k⟩
 D4:=fun X hP hw hK pins σ H s I h=>by
  subst hP hw hK
  obtain ⟨ho,_,_,vs,uU,r,da⟩:=I.pZ h
  cases yS da ho hd
  exact ⟨vs,r,da⟩
 item:=fun A i x s Q E st ⟨vs,r,da⟩ hx hQ=>by
  rw [bN] at hx
  obtain ⟨p,hp,rfl⟩:=jx.mp hx
  obtain ⟨q,hq,ek,rq⟩:=xH r hp
  obtain ⟨qk,qv⟩:=q
  have hl:kvs.length=vs.length:=r.length
  rw [hl] at st
  exact J_ st da hq fun h' st' sb=>hQ qv h' rq (by rw [hl];exact st') sb
 done:=fun A i s Q E hh st ⟨vs,r,da⟩ hx hE=>by
  have hl:kvs.length=vs.length:=r.length
  rw [aD] at hx
  rw [hl] at st
  exact Nj hh st da (by rw [rN];omega) hE
variable {y:V}
section
variable {P:Program} {w:World} {A:Around} {E:VS} {s:Shared} {K:Fg} {S1 S2:Hp->Prop} {xs ys:List V} {z TI TO i1 i2 l1 l2:Addr} {t1 t2:Nat->Heap->Prop} {c1 c2:Heap->Prop} {i:Nat}
theorem O7 {x:V} {a b:Value} {Q:VS} (D:ZipApart z TI TO i1 i2 l1 l2) (C1:xK P w K S1 xs i1 l1 t1 c1) (C2:xK P w K S2 ys i2 l2 t2 c2)
  (hz:IsZip s.heap z TI TO .none) (hTI:IsPair s.heap TI (.ref i1) (.ref i2)) (hTO:IsPair s.heap TO a b) (h1:t1 i s.heap) (h2:t2 i s.heap) (hc1:c1 s.heap) (hc2:c2 s.heap) (hx:xs[i]?=some x) (hy:ys[i]?=some y)
  (hQ:∀u v h',RelV x u->RelV y v->IsZip h' z TI TO (rawInt s.heap.objs.size)->IsPair h' TO u v->t1 (i+1) h'->t2 (i+1) h'->IsPair h' s.heap.objs.size u v->h'.objs.size=s.heap.objs.size+1->
    (∀c o,c≠z->c≠TO->c≠i1->c≠i2->s.heap.get? c=some o->h'.get? c=some o)->Q (.ref s.heap.objs.size) { s with heap:=h' }):
  wpAny (model P w) A (Builtin.«zip.__next__» ⟨[.ref z],[]⟩) (fun fin s'=>∃v,fin = .done (.ret v)/\Q v s') E s:=by
 show wpAny _ _ (field (.ref z) 2 >>= _) _ _ _
 refine az (lP hz rfl (x:= .bool false) rfl ?_);show wpAny _ _ (field (.ref z) 3 >>= _) _ _ _
 refine az (lP hz rfl (x:= .ref TI) rfl ?_);refine az (tS hTI rfl ?_)
 show wpAny _ _ (Builtin.SmallTypes.ownedTupleIsFree (.ref z) >>= _) _ _ _
 refine az ?_;unfold Builtin.SmallTypes.ownedTupleIsFree
 refine az (lP hz rfl (x:= .none) rfl (aU ?_));simp only [if_true]
 refine az (wpAny_rule ?_);refine az (lP hz rfl (x:= .ref TO) rfl ?_)
 refine az (CI hz (by simp) fun hA D5 sA=>?_)
 replace D5:IsZip hA z TI TO .ellipsis:=D5
 refine az ?_;simp only [List.zipIdx_cons,List.zipIdx_nil,FN,AB]
 refine az (az (wpAny_onRaise ?_));show wpAny _ _ (Builtin.SmallTypes.nextOf (.ref i1) >>= _) _ _ _
 refine az (C1.item _ i x { s with heap:=hA } _ _ (C1.keep _ _ _ h1 fun o e=>sA.extBut _ _ D.i1z e) (C1.t7 _ _ hc1 fun o e=>sA.extBut _ _ D.l1z e) hx fun u hB ru h1B sB=>aU ?_)
 have O8:IsPair hB TO a b:=sB.extBut _ _ D.TOi1 (sA.extBut _ _ D.TOz hTO)
 refine az (tS O8 rfl ?_);refine az (wpAny_updateSeq_pair O8 fun hC SW sC=>?_)
 replace SW:IsPair hC TO u b:=SW
 refine az (wpAny_letGo (aU ?_));refine az (az (wpAny_onRaise ?_))
 show wpAny _ _ (Builtin.SmallTypes.nextOf (.ref i2) >>= _) _ _ _
 refine az (C2.item _ i y { s with heap:=hC } _ _ (C2.keep _ _ _ h2 fun o e=>sC.extBut _ _ D.TOi2.symm (sB.extBut _ _ D.i12.symm (sA.extBut _ _ D.i2z e))) (C2.t7 _ _ hc2 fun o e=>sC.extBut _ _ D.l2TO (sB.extBut _ _ D.l2i1 (sA.extBut _ _ D.l2z e))) hy fun v hD rv h2D sD=>aU ?_)
 have TOD:IsPair hD TO u b:=sD.extBut _ _ D.TOi2 SW
 refine az (tS TOD rfl ?_);refine az (wpAny_updateSeq_pair TOD fun hE SX sE=>?_)
 replace SX:IsPair hE TO u v:=SX
 refine az (wpAny_letGo (aU (aU ?_)));refine az (tS SX rfl ?_)
 refine az (wpAny_newTuple ?_)
 have sz:hE.objs.size=s.heap.objs.size:=by rw [sE.1,sD.1,sC.1,sB.1,sA.1]
 have zE:IsZip hE z TI TO .ellipsis:=sE.extBut _ _ D.TOz.symm (sD.extBut _ _ D.i2z.symm (sC.extBut _ _ D.TOz.symm (sB.extBut _ _ D.i1z.symm D5)))
 have kE:∀c o,c≠z->c≠TO->c≠i1->c≠i2->s.heap.get? c=some o->hE.get? c=some o:=fun c o c1 c2 c3 c4 e=>sE.extBut _ _ c2 (sD.extBut _ _ c4 (sC.extBut _ _ c2 (sB.extBut _ _ c3 (sA.extBut _ _ c1 e))))
 have t1E:t1 (i+1) hE:=C1.keep _ _ _ h1B fun o e=>sE.extBut _ _ D.TOi1.symm (sD.extBut _ _ D.i12 (sC.extBut _ _ D.TOi1.symm e))
 have t2E:t2 (i+1) hE:=C2.keep _ _ _ h2D fun o e=>sE.extBut _ _ D.TOi2.symm e
 have zlt:z<hE.objs.size:=bM zE
 show wpAny _ _ (Builtin.SmallTypes.ownedTupleHandOut (.ref z) (.ref hE.objs.size) >>= _) _ _ _
 refine az ?_;unfold Builtin.SmallTypes.ownedTupleHandOut
 have zF:IsZip (hE.push { cls:= .type "tuple",data:= .seq #[u,v] }) z TI TO .ellipsis:=b7 _ zE
 refine az (CI zF (by simp) fun hG zG sG=>?_)
 replace zG:IsZip hG z TI TO (rawInt hE.objs.size):=zG
 refine CI zG (by simp) fun hI zI sI=>?_
 replace zI:IsZip hI z TI TO (rawInt hE.objs.size):=zI
 have up:∀c o,c≠z->hE.get? c=some o->hI.get? c=some o:=fun c o c1 e=>sI.extBut _ _ c1 (sG.extBut _ _ c1 (b7 _ e))
 have TI':IsPair hI hE.objs.size u v:=sI.extBut _ _ (yJ zlt) (sG.extBut _ _ (yJ zlt) (dZ _ rfl))
 have szI:hI.objs.size=hE.objs.size+1:=by rw [sI.1,sG.1,kL]
 rw [sz] at zI TI' szI
 refine aU ⟨_,Z,?_⟩
 show Q (.ref hE.objs.size) _
 rw [sz]
 exact hQ u v hI ru rv zI (up _ _ D.TOz SX) (C1.keep _ _ _ t1E fun o e=>up _ o D.i1z e) (C2.keep _ _ _ t2E fun o e=>up _ o D.i2z e) TI' szI fun c o c1 c2 c3 c4 e=>up c o c1 (kE c o c1 c2 c3 c4 e)
theorem Rz {a b:Value} {Q:Fin->Shared->Prop} (hh:A.handled=none) (D:ZipApart z TI TO i1 i2 l1 l2) (C1:xK P w K S1 xs i1 l1 t1 c1) (C2:xK P w K S2 ys i2 l2 t2 c2)
  (hz:IsZip s.heap z TI TO .none) (hTI:IsPair s.heap TI (.ref i1) (.ref i2)) (hTO:IsPair s.heap TO a b) (h1:t1 i s.heap) (h2:t2 i s.heap) (hc1:c1 s.heap) (hc2:c2 s.heap) (hend:xs.length<=i\/ys.length<=i)
  (hE:∀h' e,(∀c o,c≠z->c≠TO->c≠i1->c≠i2->s.heap.get? c=some o->h'.get? c=some o)->(∃o,h'.get? e=some o/\o.cls = .type "StopIteration")->E (.ref e) { s with heap:=h' }):
  wpAny (model P w) A (Builtin.«zip.__next__» ⟨[.ref z],[]⟩) Q E s:=by
 show wpAny _ _ (field (.ref z) 2 >>= _) _ _ _
 refine az (lP hz rfl (x:= .bool false) rfl ?_);show wpAny _ _ (field (.ref z) 3 >>= _) _ _ _
 refine az (lP hz rfl (x:= .ref TI) rfl ?_);refine az (tS hTI rfl ?_)
 show wpAny _ _ (Builtin.SmallTypes.ownedTupleIsFree (.ref z) >>= _) _ _ _
 refine az ?_;unfold Builtin.SmallTypes.ownedTupleIsFree
 refine az (lP hz rfl (x:= .none) rfl (aU ?_));simp only [if_true]
 refine az (wpAny_rule ?_);refine az (lP hz rfl (x:= .ref TO) rfl ?_)
 refine az (CI hz (by simp) fun hA D5 sA=>?_)
 replace D5:IsZip hA z TI TO .ellipsis:=D5
 refine az ?_;simp only [List.zipIdx_cons,List.zipIdx_nil,FN,AB]
 refine az (az (wpAny_onRaise ?_));show wpAny _ _ (Builtin.SmallTypes.nextOf (.ref i1) >>= _) _ _ _
 have k1:=C1.keep _ _ _ h1 fun o e=>sA.extBut _ _ D.i1z e
 have k2:=C1.t7 _ _ hc1 fun o e=>sA.extBut _ _ D.l1z e
 by_cases hx:xs.length<=i
 . refine az (C1.done _ i { s with heap:=hA } _ _ hh k1 k2 hx fun hB e sB he=>?_)
   obtain ⟨oe,Bp,hce⟩:=he
   have zB:IsZip hB z TI TO .ellipsis:=sB _ _ D.i1z.symm D5
   have ez:e≠z:=fun x=>by subst x;rw [zB] at Bp;cases Bp;simp at hce
   exact CI zB (by simp) fun hC _ sC=>hE hC e (fun c o c1 _ c3 _ x=>sC.extBut _ _ c1 (sB _ _ c3 (sA.extBut _ _ c1 x))) ⟨oe,sC.extBut _ _ ez Bp,hce⟩
 . have hy:ys.length<=i:=hend.resolve_left hx
   refine az (C1.item _ i xs[i] { s with heap:=hA } _ _ k1 k2 (bq (by omega)) fun u hB ru h1B sB=>aU ?_)
   have O8:IsPair hB TO a b:=sB.extBut _ _ D.TOi1 (sA.extBut _ _ D.TOz hTO)
   refine az (tS O8 rfl ?_);refine az (wpAny_updateSeq_pair O8 fun hC SW sC=>?_)
   refine az (wpAny_letGo (aU ?_));refine az (az (wpAny_onRaise ?_))
   show wpAny _ _ (Builtin.SmallTypes.nextOf (.ref i2) >>= _) _ _ _
   refine az (C2.done _ i { s with heap:=hC } _ _ hh (C2.keep _ _ _ h2 fun o e=>sC.extBut _ _ D.TOi2.symm (sB.extBut _ _ D.i12.symm (sA.extBut _ _ D.i2z e))) (C2.t7 _ _ hc2 fun o e=>sC.extBut _ _ D.l2TO (sB.extBut _ _ D.l2i1 (sA.extBut _ _ D.l2z e))) hy fun hD e sD he=>?_)
   obtain ⟨oe,Bp,hce⟩:=he
   have zD:IsZip hD z TI TO .ellipsis:=sD _ _ D.i2z.symm (sC.extBut _ _ D.TOz.symm (sB.extBut _ _ D.i1z.symm D5))
   have ez:e≠z:=fun x=>by subst x;rw [zD] at Bp;cases Bp;simp at hce
   exact CI zD (by simp) fun hF _ sF=>hE hF e (fun c o c1 c2 c3 c4 x=>sF.extBut _ _ c1 (sD _ _ c4 (sC.extBut _ _ c2 (sB.extBut _ _ c3 (sA.extBut _ _ c1 x))))) ⟨oe,sF.extBut _ _ ez Bp,hce⟩
end
def WE (S1 S2:Hp->Prop) (xs ys:List V):It:=
 ⟨fun i H=>S1 H/\S2 H/\i<xs.length/\i<ys.length,fun i H v H'=>∃p x y,H p=none/\v = .ref p/\H'=upd H p (.tup [x,y])/\xs[i]?=some x/\ys[i]?=some y,fun i H=>S1 H/\S2 H/\(xs.length<=i\/ys.length<=i)⟩
theorem O9 {w:World} {kk:Nat} {S1 S2:Hp->Prop} {z TI TO i1 i2 l1 l2:Addr} {t1 t2:Nat->Heap->Prop} {c1 c2:Heap->Prop} (D:ZipApart z TI TO i1 i2 l1 l2)
  (C1:xK P w K S1 xs i1 l1 t1 c1) (C2:xK P w K S2 ys i2 l2 t2 c2):
  Turn P w K (.Tuple elts kk pos) (WE S1 S2 xs ys) [z,TI,TO,i1,i2] z (fun i h=>IsZip h z TI TO .none/\IsPair h TI (.ref i1) (.ref i2)/\(∃a b,IsPair h TO a b)/\t1 i h/\t2 i h) where
 mem:=by simp
 obj:=fun i h st b hb=>by
  obtain ⟨hz,hTI,⟨a,b',hTO⟩,h1,h2⟩:=st
  have hb':b=z\/b=TI\/b=TO\/b=i1\/b=i2:=by simpa using hb
  rcases hb' with rfl|rfl|rfl|rfl|rfl
  . exact ⟨_,hz,fun v q=>by cases q⟩
  . exact ⟨_,hTI,fun v q=>by cases q⟩
  . exact ⟨_,hTO,fun v q=>by cases q⟩
  . exact C1.obj i h h1
  . exact C2.obj i h h2
 keep:=fun i h h' st k=>by
  obtain ⟨hz,hTI,⟨a,b',hTO⟩,h1,h2⟩:=st
  exact ⟨k z (by simp) _ hz,k TI (by simp) _ hTI,⟨a,b',k TO (by simp) _ hTO⟩,C1.keep _ _ _ h1 fun o e=>k i1 (by simp) o e,C2.keep _ _ _ h2 fun o e=>k i2 (by simp) o e⟩
 item:=by
  intro X hP hw hK hc i pins s σ H E I hf st hg
  subst hP hw hK
  obtain ⟨hz,hTI,⟨a,b,hTO⟩,h1,h2⟩:=st
  obtain ⟨g1,g2,lx,ly⟩:=hg
  have hT:s.TypeIs (.ref z) "zip":=⟨_,hz,Z⟩
  unfold pyNext
  refine az (wpAny_attempt (xm (name:=Str.ofString "__next__") hT FQ (xw FQ hT F.entry_zip_next
   (O7 D C1 C2 hz hTI hTO h1 h2 (C1.D4 X rfl rfl rfl pins σ H s I g1) (C2.D4 X rfl rfl rfl pins σ H s I g2) (bq lx) (bq ly) fun u u2 h' ru ru2 a1 a2 a3 a4 a5 a6 hk=>aU ?_) (F.args_zip_next_1 _))))
  refine ⟨_,Z,wpAny_letOwnedTupleGo_zip (s:={ s with heap:=h' }) a1 fun h'' b1 hs=>?_⟩
  have hTz:s.heap.objs.size≠z:=yJ (bM hz)
  have tZ:∀c o,c≠z->c≠TO->c≠i1->c≠i2->s.heap.get? c=some o->h''.get? c=some o:=fun c o c1 c2 c3 c4 e=>hs.extBut _ _ c1 (hk c o c1 c2 c3 c4 e)
  have hn:=I.fresh
  have nf:∀b u,H b=some u->b≠z/\b≠TO/\b≠i1/\b≠i2:=fun b u e=>by
   have g:∀c∈[z,TI,TO,i1,i2],b≠c:=fun c hc q=>by
    have:=(hf c hc).1
    rw [<-q,e] at this
    cases this
   exact ⟨g z (by simp),g TO (by simp),g i1 (by simp),g i2 (by simp)⟩
  have uT:∀c,c∉[z,TI,TO,i1,i2]->c≠z/\c≠TO/\c≠i1/\c≠i2:=fun c hc=>⟨fun q=>hc (by simp [q]),fun q=>hc (by simp [q]),fun q=>hc (by simp [q]),fun q=>hc (by simp [q])⟩
  have acu:IsPair h'' s.heap.objs.size u u2:=hs.extBut _ _ hTz a5
  have hok:gr X.prog X.w (upd H s.heap.objs.size (.tup [xs[i],ys[i]])) h'':=fun b ob e=>by
   by_cases hb:b=s.heap.objs.size
   . subst hb
     rw [ai] at e
     cases e
     exact ⟨by show 2<=sizeLine;decide,[u,u2], .cons ru (.cons ru2 .nil),_,acu,Z,0,Z⟩
   . rw [ay hb] at e
     refine (I.hok b ob e).stay (fun c v O6 q=>?_) (fun c q=>by rw [ay (aE q hn)];exact q) fun c zs q=>by rw [ay (aE q hn)];exact q
     rcases O6 with r|r
     . obtain ⟨n1,n2,n3,n4⟩:=nf b ob e
       rw [r]
       rw [r] at q
       exact tZ b v n1 n2 n3 n4 q
     . obtain ⟨n1,n2,n3,n4⟩:=nf c _ r
       exact tZ c v n1 n2 n3 n4 q
  have I2:Inv X pins σ (upd H s.heap.objs.size (.tup [xs[i],ys[i]])) { s with heap:=h'',gens:=s.gens,drawn:=s.drawn,toks:=s.toks }:=by
   refine I.step (ch:=[z,TI,TO,i1,i2]) (fun b hb=>⟨(hf b hb).2.2.2.1,(hf b hb).2.1,(hf b hb).2.2.2.2.1,(hf b hb).2.2.2.2.2⟩) (fun b o _ _ hc' e _=>?_) (fun b o _ _ hc' e _=>?_) (fun b o _ e n=>?_) (fun b o hc' e=>?_)
    (fun b zs q=>by rw [ay (aE q hn)];exact q) (fun b o zs q=>by rw [ay (aE q hn)];exact q) (fun b ps q=>⟨#[],by rw [ay (aE q hn),q];simp⟩) (fun m hm=>?_) hok I.bare
   . obtain ⟨n1,n2,n3,n4⟩:=uT b hc'
     exact tZ b o n1 n2 n3 n4 e
   . obtain ⟨n1,n2,n3,n4⟩:=uT b hc'
     exact ⟨o.slots,tZ b o n1 n2 n3 n4 e⟩
   . rw [ay (eU (bM e))]
     exact n
   . obtain ⟨n1,n2,n3,n4⟩:=uT b hc'
     exact ⟨o,tZ b o n1 n2 n3 n4 e⟩
   . obtain ⟨o,es,ep,ho,r⟩:=hm
     have nl:∀c∈[z,TI,TO,i1,i2],X.env.locals≠c:=fun c hc' q=>(hf c hc').2.1 q.symm
     exact ⟨o,es,ep,tZ _ o (nl z (by simp)) (nl TO (by simp)) (nl i1 (by simp)) (nl i2 (by simp)) ho,r⟩
  refine ⟨.ref s.heap.objs.size,_,I2,Z,⟨s.heap.objs.size,xs[i],ys[i],hn,Z,Z,bq lx,bq ly⟩,⟨b1,?_,⟨u,u2,?_⟩,?_,?_⟩,fun b hb=>?_⟩
  . exact tZ _ _ D.TIz D.TITO D.TIi1 D.TIi2 hTI
  . exact hs.extBut _ _ D.TOz a2
  . exact C1.keep _ _ _ a3 fun o e=>hs.extBut _ _ D.i1z e
  . exact C2.keep _ _ _ a4 fun o e=>hs.extBut _ _ D.i2z e
  . have hlt:b≠s.heap.objs.size:=by
     have hb':b=z\/b=TI\/b=TO\/b=i1\/b=i2:=by simpa using hb
     obtain ⟨_,e1,_⟩:=C1.obj _ _ h1
     obtain ⟨_,e2,_⟩:=C2.obj _ _ h2
     rcases hb' with rfl|rfl|rfl|rfl|rfl
     . exact eU (bM hz)
     . exact eU (bM hTI)
     . exact eU (bM hTO)
     . exact eU (bM e1)
     . exact eU (bM e2)
    rw [ay hlt]
    exact (hf b hb).1
 done:=by
  intro X hP hw hK hc i pins s σ H E I hf st hg
  subst hP hw hK
  obtain ⟨hz,hTI,⟨a,b,hTO⟩,h1,h2⟩:=st
  obtain ⟨g1,g2,hend⟩:=hg
  have hT:s.TypeIs (.ref z) "zip":=⟨_,hz,Z⟩
  unfold pyNext
  refine az (wpAny_attempt (xm (name:=Str.ofString "__next__") hT FQ (xw FQ hT F.entry_zip_next
   (Rz (I.ok.hd hc) D C1 C2 hz hTI hTO h1 h2 (C1.D4 X rfl rfl rfl pins σ H s I g1) (C2.D4 X rfl rfl rfl pins σ H s I g2) hend fun h' e hk he=>?_) (F.args_zip_next_1 _))))
  obtain ⟨oe,Bp,hce⟩:=he
  refine az (wpAny_isInstance (T:="StopIteration") (b:=true) ⟨oe,Bp,hce⟩ isSubtype_stop (aU ⟨Z,?_⟩))
  have uT:∀c,c∉[z,TI,TO,i1,i2]->c≠z/\c≠TO/\c≠i1/\c≠i2:=fun c hc=>⟨fun q=>hc (by simp [q]),fun q=>hc (by simp [q]),fun q=>hc (by simp [q]),fun q=>hc (by simp [q])⟩
  have nf:∀b u,H b=some u->b≠z/\b≠TO/\b≠i1/\b≠i2:=fun b u e=>by
   have g:∀c∈[z,TI,TO,i1,i2],b≠c:=fun c hc q=>by
    have:=(hf c hc).1
    rw [<-q,e] at this
    cases this
   exact ⟨g z (by simp),g TO (by simp),g i1 (by simp),g i2 (by simp)⟩
  have I2:Inv X pins σ H { s with heap:=h',gens:=s.gens,drawn:=s.drawn,toks:=s.toks }:=by
   refine I.step (ch:=[z,TI,TO,i1,i2]) (fun b hb=>⟨(hf b hb).2.2.2.1,(hf b hb).2.1,(hf b hb).2.2.2.2.1,(hf b hb).2.2.2.2.2⟩) (fun b o _ _ hc' e _=>?_) (fun b o _ _ hc' e _=>?_) (fun b o _ e n=>n) (fun b o hc' e=>?_)
    (fun b zs q=>q) (fun b o zs q=>q) (fun b ps q=>⟨#[],by rw [q];simp⟩) (fun m hm=>?_) (fun b ob e=>?_) I.bare
   . obtain ⟨n1,n2,n3,n4⟩:=uT b hc'
     exact hk b o n1 n2 n3 n4 e
   . obtain ⟨n1,n2,n3,n4⟩:=uT b hc'
     exact ⟨o.slots,hk b o n1 n2 n3 n4 e⟩
   . obtain ⟨n1,n2,n3,n4⟩:=uT b hc'
     exact ⟨o,hk b o n1 n2 n3 n4 e⟩
   . obtain ⟨o,es,ep,ho,r⟩:=hm
     have nl:∀c∈[z,TI,TO,i1,i2],X.env.locals≠c:=fun c hc' q=>(hf c hc').2.1 q.symm
     exact ⟨o,es,ep,hk _ o (nl z (by simp)) (nl TO (by simp)) (nl i1 (by simp)) (nl i2 (by simp)) ho,r⟩
   . refine (I.hok b ob e).stay (fun c v O6 q=>?_) (fun c q=>q) fun c zs q=>q
     rcases O6 with r|r
     . obtain ⟨n1,n2,n3,n4⟩:=nf b ob e
       rw [r]
       rw [r] at q
       exact hk b v n1 n2 n3 n4 q
     . obtain ⟨n1,n2,n3,n4⟩:=nf c _ r
       exact hk c v n1 n2 n3 n4 q
  exact I2
 self:=fun _ _ _ _ _ st h=>wpAny_pyIter_zip st.1 h
def Hh (P:Program) (w:World) (u:Value) (o:Obj) (pre:Heap->Prop):Prop:=∀(A:Around) (E:VS) (s:Shared) (Q:VS),pre s.heap->Q (.ref s.heap.objs.size) { s with heap:=s.heap.push o }->wpAny (model P w) A (pyIter u) Q E s
theorem Nk {w:World} {p1 p2:Heap->Prop} (s1:Hh P w u1 o1 p1) (s2:Hh P w u2 o2 p2):
  MeetsIn P w (Builtin.«zip.__new__» ⟨[.type "zip",u1,u2],[]⟩) (fun _ R s=>p1 s.heap/\p2 (s.heap.push o1)/\
   R (.ok (.ret (.ref ((((s.heap.push o1).push o2).push { cls:= .type "tuple",data:= .seq #[.ref s.heap.objs.size, .ref (s.heap.push o1).objs.size] }).push { cls:= .type "tuple",data:= .seq #[.none, .none] }).objs.size)))
     { s with heap:=((((s.heap.push o1).push o2).push { cls:= .type "tuple",data:= .seq #[.ref s.heap.objs.size, .ref (s.heap.push o1).objs.size] }).push { cls:= .type "tuple",data:= .seq #[.none, .none] }).push { cls:= .type "zip",data:= .fields #[.none, .bool false, .bool false, .ref ((s.heap.push o1).push o2).objs.size, .ref (((s.heap.push o1).push o2).push { cls:= .type "tuple",data:= .seq #[.ref s.heap.objs.size, .ref (s.heap.push o1).objs.size] }).objs.size] } }):=
 .of_wp fun A R s h=>by
   obtain ⟨hp,g,d,tk,os⟩:=s;obtain ⟨q1,q2,h⟩:=h
   have hsub:=sub_zip
   have i1:=fun (A:Around) (E:VS) (Q:VS)=>s1 A E ⟨hp,g,d,tk,os⟩ Q q1
   have i2:=fun (A:Around) (E:VS) (Q:VS)=>s2 A E ⟨hp.push o1,g,d,tk,os⟩ Q q2
   wp_walk using i1 _ _ _,i2 _ _ _
   exact ⟨_,Z,h⟩
section
variable {prog:Program} {w:World} {A:Around} {E:VS} {s:Shared} {it t:Addr} {i:Nat} {items:Array Value} {Q:VS}
theorem Ka {x:Value} (hit:s.heap.IsTupleIter it t i) (ht:s.heap.IsTuple t items) (hx:items[i]?=some x) (hQ:∀h',h'.IsTupleIter it t (i+1)->Heap.SameBut it s.heap h'->Q x { s with heap:=h' }):wpAny (model prog w) A (Builtin.SmallTypes.nextOf (.ref it)) Q E s:=by
 obtain ⟨o,ho,hc,hd⟩:=id hit;obtain ⟨ol,fR,_,nl,hdl⟩:=ht;unfold Builtin.SmallTypes.nextOf
 refine az (xm (name:=Str.ofString "__next__") hit.typeIs Mm (xw Mm hit.typeIs F.entry_tuple_iterator_next ?_ (F.args_tuple_iterator_next_1 _)))
 show wpAny _ _ (field (.ref it) 0 >>= _) _ _ s;refine az (lP ho hd (x:= .ref t) rfl ?_);show wpAny _ _ (if (Value.ref t==Value.none)=true then _ else _) _ _ s
 rw [aA (fun z=>fh z:¬ ((Value.ref t==Value.none)=true))];show wpAny _ _ (field (.ref it) 1 >>= _) _ _ s
 refine az (lP ho hd (x:= .int i 0) rfl ?_);show wpAny _ _ (seqItems? (.ref t) >>= _) _ _ s;refine az (tS fR hdl ?_);simp only [rP,hx]
 refine az (yI ho hd (by simp) (aU ⟨x,Z,aU (hQ _ ?_ (CF ..))⟩));refine ⟨_,Mu _ ho (Obj.isFreed_of_fields (CH hd _)),(Obj.cls_mapFields ..).trans hc,?_⟩;rw [CH hd];simp [rawInt]
theorem Nl (hh:A.handled=none) (hit:s.heap.IsTupleIter it t i) (ht:s.heap.IsTuple t items) (hx:items[i]?=none) (hE:∀h' e,Heap.ExtBut it s.heap h'->(∃o,h'.get? e=some o/\o.cls = .type "StopIteration")->E (.ref e) { s with heap:=h' }):wpAny (model prog w) A (Builtin.SmallTypes.nextOf (.ref it)) Q E s:=by
 obtain ⟨o,ho,hc,hd⟩:=id hit;obtain ⟨ol,fR,_,nl,hdl⟩:=ht;unfold Builtin.SmallTypes.nextOf
 refine az (xm (name:=Str.ofString "__next__") hit.typeIs Mm (xw Mm hit.typeIs F.entry_tuple_iterator_next ?_ (F.args_tuple_iterator_next_1 _)))
 show wpAny _ _ (field (.ref it) 0 >>= _) _ _ s;refine az (lP ho hd (x:= .ref t) rfl ?_);show wpAny _ _ (if (Value.ref t==Value.none)=true then _ else _) _ _ s
 rw [aA (fun z=>fh z:¬ ((Value.ref t==Value.none)=true))];show wpAny _ _ (field (.ref it) 1 >>= _) _ _ s
 refine az (lP ho hd (x:= .int i 0) rfl ?_);show wpAny _ _ (seqItems? (.ref t) >>= _) _ _ s;refine az (tS fR hdl ?_);simp only [rP,hx]
 refine az (wpAny_rule (az (yI ho hd (by simp) ?_)));show wpAny _ _ (newExc (.type "StopIteration") [] >>= _) _ _ _;refine az ?_;simp only [newExc,newTuple]
 refine az (vA ?_ (by size_fits));refine az (m:=firstArgMember _ _) (wpAny_of_eq (a:=Value.none) (by first|rfl|(simp only [firstArgMember];rfl)) ?_);refine vA ?_ (by size_fits);simp only [raiseNew]
 refine az (wpAny_handled ?_);first|rw [show A.in1.handled=none from hh]|rw [hh]
 refine az (aU (wpAny_throw ?_));exact hE _ _ (((CF ..).extBut.push _).push _) ⟨_,dZ _ rfl,Z⟩
end
theorem Ux {w:World} {l:Addr}:xK P w K (fun H=>cQ K H l xs) xs it l (fun i h=>h.IsTupleIter it l i) (fun h=>∃its:List Value,Vals xs its/\h.IsTuple l its.toArray) where
 obj:=fun i h ⟨o,e,c,d⟩=>⟨o,e,fun v z=>by rw [d] at z;cases z⟩
 keep:=fun i h h' st k=>st.at k
 t7:=fun h h' ⟨its,r,o,e,q⟩ k=>⟨its,r,o,k o e,q⟩
 D4:=fun X hP hw hK pins σ H s I h=>by
  subst hP hw hK
  obtain ⟨its,rv,p,_⟩:=I.tuple h
  exact ⟨its,rv,p⟩
 item:=fun A i x s Q E st ⟨its,r,hl⟩ hx hQ=>by
  obtain ⟨u,hu,ru⟩:=r.get hx
  exact Ka st hl (by simpa using hu) fun h' st' sb=>hQ u h' ru st' sb
 done:=fun A i s Q E hh st ⟨its,r,hl⟩ hx hE=>Nl hh st hl (by have:=r.length;simp;omega) hE
section
variable {prog:Program} {w:World} {A:Around} {E:VS} {s:Shared} {K:Type} [DecidableEq K] {knd:KeyKind prog w K}
end
def j0 (v d:Addr):HO:= .ext fun h=>h.IsValuesView v d
section
variable {X:Cx}
inductive WG (Q:VK) (x:V) (H1:Hp):Prop
 | mk  (d kvs:_) (_:x = .ref d) (_:Rd H1 d (.dK kvs)) (_:∀v,H1 v=none->Q (.ref v) (upd H1 v (j0 v d)))
def Zj (td:TE):TE:=fun σ H Q=>td σ H (WG Q)
inductive Wk (K:Fg) (H:Hp):V->(Hp->Prop)->List V->Prop
 | lst {l:Addr} {xs:List V}:aH K H l xs->Wk K H (.ref l) (fun H=>aH K H l xs) xs
 | tup {l:Addr} {xs:List V}:cQ K H l xs->Wk K H (.ref l) (fun H=>cQ K H l xs) xs
 | keys {d:Addr} {o:Obj} {kvs:List (Key×V)}:mT H d o kvs->Wk K H (.ref d) (fun H=>mT H d o kvs) (kvs.map fun p=>kV p.1)
 | vals {v d:Addr} {o:Obj} {kvs:List (Key×V)}:H v=some (j0 v d)->mT H d o kvs->Wk K H (.ref v) (fun H=>mT H d o kvs) (kvs.map fun p=>p.2)
theorem Wk.ok {u:V} {S:Hp->Prop} (k:Wk X.K H u S xs) (I:Inv X pins σ H s) (r:RelV u uv):
  S H/\∃(l:Addr) (o:Obj) (p:Heap->Prop),l<s.heap.objs.size/\p s.heap/\(∀h (ob:Obj),p h->p (h.push ob))/\(∀h:Heap,(h.push o).get? h.objs.size=some o)/\Hh X.prog X.w uv o p/\∀it:Addr,∃tn src,xK X.prog X.w X.K S xs it l tn src/\∀h:Heap,h.get? it=some o->tn 0 h:=by
 cases k with
 | @lst l xs hS=>
   cases r
   obtain ⟨its,rv,p,_⟩:=I.list hS
   obtain ⟨ol,fR,_⟩:=id p.isList
   refine ⟨hS,l,_,fun h=>h.IsList l its.toArray,bM fR,p.isList,fun h ob q=>q.push ob,fun h=>dZ _ rfl,fun A E s Q q h=>MD q h,fun it=>⟨_,_,Rw,fun h e=>⟨_,e,Z,Z⟩⟩⟩
 | @tup l xs hS=>
   cases r
   obtain ⟨its,rv,p,_⟩:=I.tuple hS
   obtain ⟨ol,fR,q0⟩:=id p
   refine ⟨hS,l,_,fun h=>h.IsTuple l its.toArray,bM fR,p,fun h ob ⟨o1,a,b⟩=>⟨o1,b7 _ a,b⟩,fun h=>dZ _ rfl,fun A E s Q q h=>wpAny_pyIter_tuple q h,fun it=>⟨_,_,Ux,fun h e=>⟨_,e,Z,Z⟩⟩⟩
 | @keys d o kvs hz=>
   cases r
   obtain ⟨ho,hl,hsys,vs,ep,rel,da⟩:=I.pZ hz
   obtain ⟨o',es,h1,_,h2,_⟩:=id da
   rw [ho] at h1;cases h1
   have el:kvs.length=vs.length:=rel.length
   refine ⟨hz,d,_,fun h=>h.DictAt (cI X.prog X.w) d vs ep,bM ho,da,fun h ob q=>q.push ob,fun h=>dZ _ rfl,fun A E s Q q h=>wpAny_pyIter_dict hsys q h,fun it=>⟨_,_,Rx h2,fun h e=>?_⟩⟩
   rw [el]
   exact ⟨_,e,Z,Z⟩
 | @vals v d o kvs hv hz=>
   cases r
   obtain ⟨ho,hl,hsys,vs,ep,rel,da⟩:=I.pZ hz
   obtain ⟨o',es,h1,_,h2,_⟩:=id da
   rw [ho] at h1;cases h1
   have el:kvs.length=vs.length:=rel.length
   obtain ⟨hv',_⟩:=(show d_ X.prog X.w H s.heap v (j0 v d) from I.hok v _ hv)
   refine ⟨hz,d,_,fun h=>h.IsValuesView v d/\h.DictAt (cI X.prog X.w) d vs ep,bM ho,⟨hv',da⟩,fun h ob ⟨⟨o1,a,b⟩,q⟩=>⟨⟨o1,b7 _ a,b⟩,q.push ob⟩,fun h=>dZ _ rfl,fun A E s Q q h=>wpAny_pyIter_values q.1 q.2 h,fun it=>⟨_,_,Ry h2,fun h e=>?_⟩⟩
   rw [el]
   exact ⟨_,e,Z,Z⟩
variable {elts:List Expr} {kk:Nat} {tpos:Pos}
inductive WH (K:Fg) (R:It->Hp->Prop) (vs:List V) (H1:Hp):Prop
 | mk  (u1 u2 S1 S2 xs ys:_) (_:vs=[u1,u2]) (_:Wk K H1 u1 S1 xs) (_:Wk K H1 u2 S2 ys) (_:R (WE S1 S2 xs ys:_) H1)
def Zk (K:Fg) (ta:TA):TI:=fun σ H R=>ta σ H (WH K R)
theorem D6 (hc:X.calm=true):iK X (.builtin "sum") (fun xs H Q=>∃(v d:Addr) (kvs:List (Key×V)) (ns:List Int),xs=[.ref v]/\H v=some (j0 v d)/\Rd H d (.dK kvs)/\kvs.map (·.2)=ns.map V.int/\Q (.int ns.sum) H):=by
 intro pins s σ H xs us Q I r h
 obtain ⟨v,d,kvs,ns,rfl,hv,hz,en,q⟩:=h
 obtain ⟨u,rfl,ru⟩:=vals1 r
 cases ru
 obtain ⟨_,hsys,vs,rel,dd⟩:=rC I.hok hz
 obtain ⟨ep,da⟩:=dd.dictAt
 obtain ⟨hv',_⟩:=(show d_ X.prog X.w H s.heap v (j0 v d) from I.hok v _ hv)
 have hl:kvs.length=vs.length:=rel.length
 have hlt:=da.lt_size
 have hne:d≠s.heap.objs.size:=eU hlt
 have W:=(Walks.dictValues (prog:=X.prog) (w:=X.w) (A:=X.A.in1) (knd:=cI X.prog X.w) (I.ok.hd hc) s.heap.objs.size d hne vs ep).toS
 have Bg:kvs.length=ns.length:=by have:=jY List.length en;simpa using this
 refine call_sum_walkAnyS (wpAny_pyIter_values hv' da ?_)
 refine ⟨s.heap.objs.size,_,_,_,_,_,_,fun i=>ns.getD i 0,Z,W,⟨⟨_,dZ _ rfl,Z,Z⟩,da.push _⟩,fun b hb=>?_,fun i x hP=>?_,fun s' t' hm=>?_⟩
 . rcases c9.mp hb with rfl|hb
   . exact bM (dZ _ rfl)
   . obtain rfl:=fN.mp hb
     exact (da.push _).lt_size
 . obtain ⟨k,hk⟩:=hP
   have hil:i<ns.length:=by
    have:=(dP.mp hk).1
    omega
   have hik:i<kvs.length:=by omega
   obtain ⟨q',hq',_,rq⟩:=xH rel (bq hik)
   rw [hk] at hq'
   cases hq'
   have e1:kvs[i].2=V.int (ns.getD i 0):=by
    have:=jY (fun l=>l[i]?) en
    simp only [bN,bq hik,bq hil] at this
    rw [lF,bq hil]
    exact gq this
   rw [e1] at rq
   exact rq
 . obtain ⟨h',g',d',tk',os'⟩:=s'
   have e1:g'=s.gens:=hm.gens
   have e2:d'=s.drawn:=hm.drawn
   have e3:os'=s.os:=hm.os
   subst e1 e2 e3
   have hsz:vs.length=ns.length:=by omega
   rw [hsz,preSum_getD,List.take_of_length_le (aN _)]
   exact ⟨.int ns.sum,H,I.kept (h':=h') (t':=tk') fun b o e=>hm.heap b o (fun hb=>absurd (bM e) ((fN.mp hb)▸jf _)) (b7 _ e),⟨t',Z⟩,q⟩
end
def dS:St->List Nat->List V->St
 | σ,k::ks,v::vs=>dS (σ.set k (some v)) ks vs
 | σ,_,_=>σ
theorem Bq {k:Nat} {v:Option V}:∀{ks:List Nat} {vs:List V} {σ:St},k∉ks->(dS σ ks vs).set k v=dS (σ.set k v) ks vs
 | [],_,_,_=>by unfold dS;rfl
 | _::_,[],_,_=>by unfold dS;rfl
 | j::ks,w::vs,σ,h=>by
   have hj:k≠j:=fun e=>h (by rw [e];exact cV)
   show (dS (σ.set j (some w)) ks vs).set k v=dS ((σ.set k v).set j (some w)) ks vs
   rw [Bq (fun m=>h (cD _ m)),List.set_comm _ _ hj]
theorem rZ:∀{ks:List Nat} {vs ws:List V} {σ:St},ks.Nodup->vs.length=ks.length->ws.length=ks.length->dS (dS σ ks vs) ks ws=dS σ ks ws
 | [],[],[],_,_,_,_=>rfl
 | k::ks,v::vs,w::ws,σ,nd,h1,h2=>by
   have nk:=(fO.mp nd).1
   show dS ((dS (σ.set k (some v)) ks vs).set k (some w)) ks ws=dS (σ.set k (some w)) ks ws
   rw [Bq nk,tU,rZ (fO.mp nd).2 (by simpa using h1) (by simpa using h2)]
def SY:List Nat->AL
 | []=>VB
 | k::ks=>SD (pX k) (SY ks)
theorem Hi {Q:St->Hp->Prop} {H:Hp}:∀{ks:List Nat} {vs:List V} {σ:St},vs.length=ks.length->Q (dS σ ks vs) H->SY ks vs σ H Q
 | [],[],_,_,q=>⟨Z,q⟩
 | k::ks,v::vs,σ,h,q=>⟨v,vs,Z,Hi (by simpa using h) q⟩
theorem xM {n:Nat} (ks:List Nat) {Q:VK} (Pv:Nat->List V->Hp->Prop) (nd:ks.Nodup) (hn:n<=100000) (h0:Pv 0 [] (upd H acc (.lst [])))
  (hgo:∀i out H1,i<n->H1 acc=some (.lst out)->Pv i out H1->J.go i H1) (hst:∀out H1,H1 acc=some (.lst out)->Pv n out H1->J.stop n H1)
  (hs:∀(i:Nat) (x:V) (out:List V) (H1 H2:Hp),i<n->out.length=i->H1 acc=some (.lst out)->Pv i out H1->J.AM i H1 x H2->
    ∃t vs,x = .ref t/\cQ K H2 t vs/\vs.length=ks.length/\te (dS σ2 ks vs) H2 (vN Pv i acc out))
  (hd:∀(out:List V) (H1:Hp),out.length=n->H1 acc=some (.lst out)->Pv n out H1->Q (.ref acc) H1):
  Bb J (zP K ks.length (SY ks)) te acc σ2 H Q:=by
 refine ⟨fun i m σ' H'=>m=n-i/\i<=n/\(∀ws,ws.length=ks.length->dS σ' ks ws=dS σ2 ks ws)/\∃out,out.length=i/\H' acc=some (.lst out)/\Pv i out H',⟨n,by simp,gM _,fun _ _=>rfl,[],Z,ai,h0⟩,?_⟩
 rintro i m σ' H' ⟨rfl,hi,hσ,out,ho,ha,p⟩
 by_cases hlt:i<n
 . refine .inr ⟨hgo i out H' hlt ha p,fun σ3=>∀ws,ws.length=ks.length->dS σ3 ks ws=dS σ2 ks ws,(vN Pv i acc out),fun σ3 v H4 hS ⟨a,b⟩=>?_,fun x H1 y=>?_⟩
   . refine ⟨out,a,?_,n-(i+1),by omega,Z,hlt,hS,out++[v],by rw [dw,ho];rfl,ai,b⟩
     have:sizeLine=16777216:=jz
     omega
   . obtain ⟨t,vs,rfl,sq,hl,q⟩:=hs i x out H' H1 hlt ho ha p y
     refine ⟨t,vs,Z,sq,hl,Hi hl ⟨fun ws hw=>?_,?_⟩⟩
     . rw [rZ nd hl hw];exact hσ ws hw
     . rw [hσ vs hl];exact q
 . have e:i=n:=by omega
   subst e
   exact .inl ⟨hst out H' ha p,hd out H' ho ha p⟩
theorem LB {n:Nat} (ks:List Nat) {Q:VK} (Pv:Nat->List V->Hp->Prop) (nd:ks.Nodup) (hn:n<=100000) (h0:Pv 0 [] (upd H acc (.lst [])))
  (hgo:∀i out H1,i<n->H1 acc=some (.lst out)->Pv i out H1->J.go i H1) (hst:∀out H1,H1 acc=some (.lst out)->Pv n out H1->J.stop n H1)
  (hs:∀(i:Nat) (x:V) (out:List V) (H1 H2:Hp),i<n->out.length<=i->H1 acc=some (.lst out)->Pv i out H1->J.AM i H1 x H2->
    ∃t vs,x = .ref t/\cQ K H2 t vs/\vs.length=ks.length/\tc (dS σ2 ks vs) H2 (SN te (dS σ2 ks vs) Pv i acc out))
  (hd:∀(out:List V) (H1:Hp),out.length<=n->H1 acc=some (.lst out)->Pv n out H1->Q (.ref acc) H1):
  Bm J (zP K ks.length (SY ks)) tc te acc σ2 H Q:=by
 refine ⟨fun i m σ' H'=>m=n-i/\i<=n/\(∀ws,ws.length=ks.length->dS σ' ks ws=dS σ2 ks ws)/\∃out,out.length<=i/\H' acc=some (.lst out)/\Pv i out H',⟨n,by simp,gM _,fun _ _=>rfl,[],aN _,ai,h0⟩,?_⟩
 rintro i m σ' H' ⟨rfl,hi,hσ,out,ho,ha,p⟩
 by_cases hlt:i<n
 . refine .inr ⟨hgo i out H' hlt ha p,fun σ3=>∀ws,ws.length=ks.length->dS σ3 ks ws=dS σ2 ks ws,(vN Pv i acc out),fun H3=>H3 acc=some (.lst out)/\Pv (i+1) out H3,fun σ3 v H4 hS ⟨a,b⟩=>?_,fun σ3 H4 hS ⟨a,b⟩=>?_,fun x H1 y=>?_⟩
   . refine ⟨out,a,?_,n-(i+1),by omega,Z,hlt,hS,out++[v],by rw [dw];exact Nat.succ_le_succ ho,ai,b⟩
     have:sizeLine=16777216:=jz
     omega
   . exact ⟨n-(i+1),by omega,Z,hlt,hS,out,by omega,a,b⟩
   . obtain ⟨t,vs,rfl,sq,hl,q⟩:=hs i x out H' H1 hlt ho ha p y
     refine ⟨t,vs,Z,sq,hl,Hi hl ⟨fun ws hw=>?_,?_⟩⟩
     . rw [rZ nd hl hw];exact hσ ws hw
     . rw [hσ vs hl];exact q
 . have e:i=n:=by omega
   subst e
   exact .inl ⟨hst out H' ha p,hd out H' ho ha p⟩
theorem iW {n:Nat} (k:Nat) {Q:VK} (Pv:Nat->List V->Hp->Prop) (hn:n<=100000) (h0:Pv 0 [] (upd H acc (.lst [])))
  (hgo:∀i out H1,i<n->H1 acc=some (.lst out)->Pv i out H1->J.go i H1) (hst:∀out H1,H1 acc=some (.lst out)->Pv n out H1->J.stop n H1)
  (hs:∀(i:Nat) (x:V) (out:List V) (H1 H2:Hp),i<n->out.length=i->H1 acc=some (.lst out)->Pv i out H1->J.AM i H1 x H2->
    te (σ2.set k (some x)) H2 (vN Pv i acc out))
  (hd:∀(out:List V) (H1:Hp),out.length=n->H1 acc=some (.lst out)->Pv n out H1->Q (.ref acc) H1):
  Bb J (pX k) te acc σ2 H Q:=by
 refine ⟨fun i m σ' H'=>m=n-i/\i<=n/\(∀w:Option V,σ'.set k w=σ2.set k w)/\∃out,out.length=i/\H' acc=some (.lst out)/\Pv i out H',⟨n,by simp,gM _,fun _=>rfl,[],Z,ai,h0⟩,?_⟩
 rintro i m σ' H' ⟨rfl,hi,hσ,out,ho,ha,p⟩
 by_cases hlt:i<n
 . refine .inr ⟨hgo i out H' hlt ha p,fun σ3=>∀w:Option V,σ3.set k w=σ2.set k w,(vN Pv i acc out),fun σ3 v H4 hS ⟨a,b⟩=>?_,fun x H1 y=>?_⟩
   . refine ⟨out,a,?_,n-(i+1),by omega,Z,hlt,hS,out++[v],by rw [dw,ho];rfl,ai,b⟩
     have:sizeLine=16777216:=jz
     omega
   . refine ⟨fun w=>by rw [tU];exact hσ w,?_⟩
     rw [hσ]
     exact hs i x out H' H1 hlt ho ha p y
 . have e:i=n:=by omega
   subst e
   exact .inl ⟨hst out H' ha p,hd out H' ho ha p⟩
theorem Uy {n:Nat} (k:Nat) {Q:VK} (Pv:Nat->List V->Hp->Prop) (hn:n<=100000) (h0:Pv 0 [] (upd H acc (.lst [])))
  (hgo:∀i out H1,i<n->H1 acc=some (.lst out)->Pv i out H1->J.go i H1) (hst:∀out H1,H1 acc=some (.lst out)->Pv n out H1->J.stop n H1)
  (hs:∀(i:Nat) (x:V) (out:List V) (H1 H2:Hp),i<n->out.length<=i->H1 acc=some (.lst out)->Pv i out H1->J.AM i H1 x H2->
    tc (σ2.set k (some x)) H2 (SN te (σ2.set k (some x)) Pv i acc out))
  (hd:∀(out:List V) (H1:Hp),out.length<=n->H1 acc=some (.lst out)->Pv n out H1->Q (.ref acc) H1):
  Bm J (pX k) tc te acc σ2 H Q:=by
 refine ⟨fun i m σ' H'=>m=n-i/\i<=n/\(∀w:Option V,σ'.set k w=σ2.set k w)/\∃out,out.length<=i/\H' acc=some (.lst out)/\Pv i out H',⟨n,by simp,gM _,fun _=>rfl,[],aN _,ai,h0⟩,?_⟩
 rintro i m σ' H' ⟨rfl,hi,hσ,out,ho,ha,p⟩
 by_cases hlt:i<n
 . refine .inr ⟨hgo i out H' hlt ha p,fun σ3=>∀w:Option V,σ3.set k w=σ2.set k w,(vN Pv i acc out),fun H3=>H3 acc=some (.lst out)/\Pv (i+1) out H3,fun σ3 v H4 hS ⟨a,b⟩=>?_,fun σ3 H4 hS ⟨a,b⟩=>?_,fun x H1 y=>?_⟩
   . refine ⟨out,a,?_,n-(i+1),by omega,Z,hlt,hS,out++[v],by rw [dw];exact Nat.succ_le_succ ho,ai,b⟩
     have:sizeLine=16777216:=jz
     omega
   . exact ⟨n-(i+1),by omega,Z,hlt,hS,out,by omega,a,b⟩
   . refine ⟨fun w=>by rw [tU];exact hσ w,?_⟩
     rw [hσ]
     exact hs i x out H' H1 hlt ho ha p y
 . have e:i=n:=by omega
   subst e
   exact .inl ⟨hst out H' ha p,hd out H' ho ha p⟩
structure Mn (P:Program) (w:World) (K:Fg) (mg:SO) (base:Heap) (k:Nat) (C:Addr) (m:Str) (ps:List Str) (sp:Sp):Prop where
 ex:∃f fd,iO P w K mg base qZ k f fd ps sp/\Binds K fd ps []/\Meth K C m f/\nj K C
structure Cn (P:Program) (w:World) (K:Fg) (mg:SO) (base:Heap) (k:Nat) (x:Str) (C:Addr) (ps:List Str) (sp:Sp):Prop where
 ex:∃f fd,iO P w K mg base qZ k f fd ps sp/\Binds K fd ps []/\Mk K C f/\mg x=some (.ref C)
section
variable {X:Cx}
inductive Zl (x:V) (y:V) (H:Hp) (Q:VK):Prop
 | mk  (i j:_) (_:x = .int i) (_:y = .int j) (_:Na i j) (_:Q (.int (i*j)) H)
theorem Uz:GB X .Mult Zl:=by
 rintro pins s σ H x y u v Q I rx ry ⟨i,j,rfl,rfl,⟨m,n,h1,h2,h3⟩,q⟩
 obtain ⟨t,rfl⟩:=(show ∃t,u=Value.int i t from rx)
 obtain ⟨t',rfl⟩:=(show ∃t',v=Value.int j t' from ry)
 exact PyProof.Rows.imul_int ⟨.int (i*j),H,I.tok _,⟨_,Z⟩,q⟩ (IntMulOk.of_le (My.mpr h1) (My.mpr h2) h3)
end
structure gh (K:Fg) (C:Addr) (m qual:Str) (st:Stmt) (f:Addr) (fd:FuncData):Prop where
 fn:DZ K m qual st f fd
 me:Meth K C m f
 cl:nj K C
variable {mg:SO} {base:Heap} {C f:Addr} {qual:Str} {fd:FuncData} {N ps:List Str} {sp:Sp}
theorem gh.ok {w:World} {m:Str} {st:Stmt} {k:Nat} (F:gh K C m qual st f fd) (S:aO N ps (aC st)) (len:∀vs H Q E,sp vs H Q E->vs.length=ps.length)
  (hbody:∀(cdv:Value) (A:Around) (outer:List Env) (s:Shared) (H:Hp) (vs:List V) (Q:VK) (E:XK),c7 k (A.deeper (envOfC qual (aC st) s.heap.objs.size f cdv))->sp vs H Q E->
    ∃t,oH (cu qZ P w K mg base N qual (aC st) f cdv A outer s H E).zm (b9 st) t/\t { nx:=fun _ H'=>Q .bU H',rt:=Q } (start N vs) H)
  (h:∀(kV doc pm:Value) (an:Option Addr) (cdv ct:Value) (us:List Value),us.length=ps.length->bindArgs (PySem.W.fnOf m qual (dI st) (b9 st) (aC st) .none kV doc pm an cdv ct) ⟨us,[]⟩=pure (ps.zip us)):
  Mn P w K mg base (k+1) C m ps sp:=⟨f,fd,F.fn.ok S len hbody,F.fn.binds h,F.me,F.cl⟩
structure D7 (K:Fg) (mg:SO) (x:Str) (C:Addr) (qual:Str) (st:Stmt) (f:Addr) (fd:FuncData):Prop where
 fn:DZ K "__init__" qual st f fd
 mks:Mk K C f
 name:mg x=some (.ref C)
theorem D7.ok {w:World} {st:Stmt} {k:Nat} (F:D7 K mg x C qual st f fd) (S:aO N ps (aC st)) (len:∀vs H Q E,sp vs H Q E->vs.length=ps.length)
  (hbody:∀(cdv:Value) (A:Around) (outer:List Env) (s:Shared) (H:Hp) (vs:List V) (Q:VK) (E:XK),c7 k (A.deeper (envOfC qual (aC st) s.heap.objs.size f cdv))->sp vs H Q E->
    ∃t,oH (cu qZ P w K mg base N qual (aC st) f cdv A outer s H E).zm (b9 st) t/\t { nx:=fun _ H'=>Q .bU H',rt:=Q } (start N vs) H)
  (h:∀(kV doc pm:Value) (an:Option Addr) (cdv ct:Value) (us:List Value),us.length=ps.length->bindArgs (PySem.W.fnOf "__init__" qual (dI st) (b9 st) (aC st) .none kV doc pm an cdv ct) ⟨us,[]⟩=pure (ps.zip us)):
  Cn P w K mg base (k+1) x C ps sp:=⟨f,fd,F.fn.ok S len hbody,F.fn.binds h,F.mks,F.name⟩
abbrev qt:=Nat×Nat×Str
abbrev eY:=Addr->Option qt
abbrev col (n t:Nat):Option qt:=some (n,t,(⟨#[]⟩:Str))
def isTup:HO->Bool
 | .tup _=>true
 | _=>false
def Gh (ρ:eY) (H:Hp):Prop:=∀b c,ρ b=some c->∃o,H b=some o/\isTup o=false
def Fr (n:Nat) (ρ:eY) (H:Hp) (ρ':eY) (H':Hp):Prop:=∀b o,H b=some o->(∀t x,ρ b≠some (n,t,x))->H' b=some o/\ρ' b=ρ b
def cN (ρ:eY) (a:Addr) (c:qt):eY:=fun b=>if b=a then some c else ρ b
variable {ρ:eY}
theorem di {c:qt}:cN ρ a c a=some c:=aB rfl
variable {b:Addr}
theorem cC {c:qt} (h:b≠a):cN ρ a c b=ρ b:=aA h
def out (ρ:eY) (H:Hp):Hp:=fun b=>if ρ b=none then H b else none
variable {o:HO}
theorem Br (h:H b=some o) (c:ρ b=none):out ρ H b=some o:=by
 unfold out;rw [aB c];exact h
theorem vQ (h:out ρ H b=some o):H b=some o/\ρ b=none:=by
 unfold out at h
 split at h
 . next c=>exact ⟨h,c⟩
 . cases h
theorem Gh.none (g:Gh ρ H) (h:H b=Option.none):ρ b=Option.none:=by
 cases e:ρ b with
 | none=>rfl
 | some c=>obtain ⟨o,q,_⟩:=g b c e;rw [h] at q;cases q
theorem Gh.tup {ρ:eY} {H:Hp} (g:Gh ρ H) {b:Addr} {xs:List V} (h:H b=some (.tup xs)):ρ b=Option.none:=by
 cases e:ρ b with
 | none=>rfl
 | some c=>obtain ⟨o,q,t⟩:=g b c e;rw [h] at q;cases q;cases t
theorem Gh.same (g:Gh ρ H) (s:aQ H H'):Gh ρ H':=fun b c e=>let ⟨o,h,t⟩:=g b c e;⟨o,s b o h,t⟩
theorem Gh.wr (g:Gh ρ H) (t:isTup o=false):Gh ρ (upd H a o):=fun b c e=>by
 by_cases h:b=a
 . rw [h,ai];exact ⟨o,Z,t⟩
 . rw [ay h];exact g b c e
theorem Gh.alloc (g:Gh ρ H) (h:H a=Option.none):Gh ρ (upd H a o):=g.same (aF h o)
theorem Gh.color (g:Gh ρ H) {c:qt} (h:H a=some o) (t:isTup o=false):Gh (cN ρ a c) H:=fun b d e=>by
 by_cases z:b=a
 . rw [z];exact ⟨o,h,t⟩
 . rw [cC z] at e;exact g b d e
theorem Fr.refl {n:Nat}:Fr n ρ H ρ H:=fun _ _ h _=>⟨h,Z⟩
variable {H1 H2:Hp}
theorem Fr.trans {n:Nat} {ρ1 ρ2:eY} (a:Fr n ρ H ρ1 H1) (b:Fr n ρ1 H1 ρ2 H2):Fr n ρ H ρ2 H2:=fun c o h k=>by
 obtain ⟨h1,e1⟩:=a c o h k
 obtain ⟨h2,e2⟩:=b c o h1 (by rw [e1];exact k)
 exact ⟨h2,e2.trans e1⟩
theorem Fr.of_same {n:Nat} (s:aQ H H'):Fr n ρ H ρ H':=fun b o h _=>⟨s b o h,Z⟩
theorem Fr.write {n:Nat} (c:ρ a=some (n,t,x)):Fr n ρ H ρ (upd H a o):=fun b u h k=>by
 have:b≠a:=fun e=>k t x (by rw [e];exact c)
 rw [ay this];exact ⟨h,Z⟩
theorem Fr.color {n:Nat} {c:qt} (h:H a=none) (s:aQ H H'):Fr n ρ H (cN ρ a c) H':=fun b u e k=>by
 rw [cC (aE e h)];exact ⟨s b u e,Z⟩
variable {ρ':eY}
theorem Fr.out {n:Nat} (f:Fr n ρ H ρ' H'):aQ (out ρ H) (out ρ' H'):=fun b o h=>by
 obtain ⟨h1,c⟩:=vQ h
 obtain ⟨h2,e⟩:=f b o h1 (fun t x=>by rw [c];intro z;cases z)
 exact Br h2 (e.trans c)
theorem dJ (s:aQ H H'):aQ (out ρ H) (out ρ H'):=fun b o h=>by
 obtain ⟨h1,c⟩:=vQ h
 exact Br (s b o h1) c
structure Pt where
 nm:Str
 ow:Str
 wo:Int
 we:Int
 sc:Int
 row:List Int
structure oJ where
 nm:Str
 ow:Str
 wo:Int
 sh:List (Str×Rat)
structure HS where
 own:List Str
 ak:List Pt
 dj:List oJ
 nms:List Str
 stp:List Int
 prod:Int
 kn:Nat
 br:List Int
 bH:List Int
structure HA where
 a:Addr
 dx:Addr
 pl:Addr
 ab:Addr
 as:Addr
 nm:Addr
 bt:Addr
 db:Addr
 cm:Addr
 pu:Addr
 sp:Addr
 kn:Addr
 qs:List (Addr×Addr×Addr)
structure TC where
 hold:Addr
 part:Addr
 bot:Addr
def fj:Nat->List Str->List (Key×V)
 | _,[]=>[]
 | i,o::r=>(Sum.inr o, .int i)::fj (i+1) r
def cg (ps:List Pt) (qs:List (Addr×Addr×Addr)):List (Key×V):=List.zipWith (fun p q=>((Sum.inr p.nm:Key),V.ref q.1)) ps qs
def xN (l:List Str):List (Key×V):=l.map fun x=>(Sum.inr x, .bl true)
def jb (A:HA):List (Str×V):=[("places", .ref A.pl),("aboard", .ref A.ab),("ashore", .ref A.as),("names", .ref A.nm),("bottom", .ref A.bt),("common", .ref A.cm),("purses", .ref A.pu)]
def cO (p:Pt) (r:Addr):List (Str×V):=[("name", .str p.nm),("owner", .str p.ow),("worth", .int p.wo),("weight", .int p.we),("scale", .int p.sc),("row", .ref r)]
def vR (sp:Addr) (prod:Int) (kn:Addr):List (Str×V):=[("steps", .ref sp),("product", .int prod),("known", .ref kn)]
def Hj (H:Hp) (kvs:List (Key×V)) (prod:Int):Prop:=∀p∈kvs,∃(t:Int) (r:Addr),p=(Sum.inl t,V.ref r)/\H r=some (nu (Jm.fr t prod))
inductive mh (H:Hp):List V->List (Str×Rat)->Prop
 | nil:mh H [] []
 | cons {r f:Addr} {x:Str} {q:Rat} {vs:List V} {l:List (Str×Rat)}:H r=some (.tup [.str x, .ref f])->H f=some (nu q)->mh H vs l->mh H (.ref r::vs) ((x,q)::l)
inductive j6 (n:Nat) (ρ:eY) (H:Hp):List V->List oJ->Prop
 | nil:j6 n ρ H [] []
 | cons {r l:Addr} {x:oJ} {ss:List V} {vs:List V} {as:List oJ}:H r=some (.tup [.str x.nm, .str x.ow, .int x.wo, .ref l])->H l=some (.lst ss)->ρ l=some (n,30,⟨#[]⟩)->mh H ss x.sh->j6 n ρ H vs as->j6 n ρ H (.ref r::vs) (x::as)
structure aL (T:TC) (n:Nat) (ρ:eY) (A:HA) (H:Hp) (st:HS):Prop where
 oa:H A.a=some (.ins T.hold A.dx (jb A))
 ca:ρ A.a=col n 0
 gT:H A.pl=some (.dK (fj 0 st.own))
 gU:ρ A.pl=col n 1
 dN:H A.ab=some (.dK (cg st.ak A.qs))
 fK:ρ A.ab=col n 2
 oK:∃vs,H A.as=some (.lst vs)/\j6 n ρ H vs st.dj
 iw:ρ A.as=col n 3
 qu:H A.nm=some (.dK (xN st.nms))
 iy:ρ A.nm=col n 4
 iz:H A.bt=some (.ins T.bot A.db (vR A.sp st.prod A.kn))
 iA:ρ A.bt=col n 5
 iN:H A.cm=some (.lst (st.br.map V.int))
 iX:ρ A.cm=col n 6
 jL:H A.pu=some (.lst (st.bH.map V.int))
 cpu:ρ A.pu=col n 7
 lH:H A.sp=some (.lst (st.stp.map V.int))
 iB:ρ A.sp=col n 8
 okn:∃kvs,H A.kn=some (.dK kvs)/\Hj H kvs st.prod/\kvs.length<=st.kn/\(kvs.map (·.1)).Nodup
 iC:ρ A.kn=col n 9
 ql:A.qs.length=st.ak.length
 opt:∀(i:Nat) (p:Pt) (q:Addr×Addr×Addr),st.ak[i]?=some p->A.qs[i]?=some q->H q.1=some (.ins T.part q.2.1 (cO p q.2.2))/\H q.2.2=some (.lst (p.row.map V.int))/\ρ q.1=some (n,20,p.nm)/\ρ q.2.2=some (n,21,p.nm)
theorem Bs {c d:qt} (ha:ρ a=some c) (hb:ρ b=some d) (h:c≠d):a≠b:=fun e=>by
 rw [e,hb] at ha;cases ha;exact h rfl
theorem zC {c:qt} (ha:ρ a=none) (hb:ρ b=some c):a≠b:=fun e=>by rw [e,hb] at ha;cases ha
theorem mh.mono {l:List (Str×Rat)} (h:mh H vs l) (g:∀b xs,H b=some (.tup xs)->H' b=some (.tup xs)):mh H' vs l:=by
 induction h with
 | nil=>exact .nil
 | cons a b _ ih=>exact .cons (g _ _ a) (g _ _ b) ih
def Kp (n:Nat) (ρ ρ':eY) (H H':Hp) (ts:Nat->Bool):Prop:=(∀b xs,H b=some (.tup xs)->H' b=some (.tup xs))/\∀b t x o,ts t=true->ρ b=some (n,t,x)->H b=some o->H' b=some o/\ρ' b=some (n,t,x)
variable {ts:Nat->Bool}
theorem j6.keep {n:Nat} {l:List oJ} (h:j6 n ρ H vs l) (k:Kp n ρ ρ' H H' ts) (e:ts 30=true):j6 n ρ' H' vs l:=by
 induction h with
 | nil=>exact .nil
 | cons a b c d _ ih=>exact .cons (k.1 _ _ a) (k.2 _ _ _ _ e c b).1 (k.2 _ _ _ _ e c b).2 (d.mono k.1) ih
theorem eE {n:Nat} (g:Gh ρ H) (c:ρ a=some (n,t,x)):Kp n ρ ρ H (upd H a o) (fun u=>decide (u≠t)):=by
 refine ⟨fun b xs h=>?_,fun b u y w hu hc h=>⟨?_,hc⟩⟩
 . rw [ay (zC (g.tup h) c)];exact h
 . rw [ay (Bs hc c (fun e=>by cases e;exact absurd hu (by simp)))];exact h
theorem kz {n:Nat} (k:Kp n ρ ρ' H H' ts) (c:ρ b=some (n,t,x)) (e:H b=some o) (u:ts t=true:=by decide):H' b=some o:=(k.2 b t x o u c e).1
theorem LC {n:Nat} (s:aQ H H'):Kp n ρ ρ H H' ts:=⟨fun b xs h=>s _ _ h,fun b u y w _ hc h=>⟨s _ _ h,hc⟩⟩
variable {T:TC} {A:HA}
theorem aL.same {n:Nat} {st:HS} (h:aL T n ρ A H st) (k:Kp n ρ ρ' H H' fun _=>true):aL T n ρ' A H' st:=by
 have z:=fun {b:Addr} {t:Nat} {x:Str} {o:HO} (c:ρ b=some (n,t,x)) (e:H b=some o)=>k.2 b t x o rfl c e
 obtain ⟨vs,h1,h2⟩:=h.oK
 obtain ⟨kvs,k1,k2,k3⟩:=h.okn
 exact ⟨(z h.ca h.oa).1,(z h.ca h.oa).2,(z h.gU h.gT).1,(z h.gU h.gT).2,(z h.fK h.dN).1,(z h.fK h.dN).2,⟨vs,(z h.iw h1).1,h2.keep k rfl⟩,(z h.iw h1).2,(z h.iy h.qu).1,(z h.iy h.qu).2,(z h.iA h.iz).1,(z h.iA h.iz).2,
  (z h.iX h.iN).1,(z h.iX h.iN).2,(z h.cpu h.jL).1,(z h.cpu h.jL).2,(z h.iB h.lH).1,(z h.iB h.lH).2,⟨kvs,(z h.iC k1).1,fun p hp=>let ⟨t,r,e,q⟩:=k2 p hp;⟨t,r,e,k.1 _ _ q⟩,k3⟩,(z h.iC k1).2,h.ql,
  fun i p q e1 e2=>let ⟨a,b,c,d⟩:=h.opt i p q e1 e2;⟨(z c a).1,(z d b).1,(z c a).2,(z d b).2⟩⟩
theorem aL.mono {n:Nat} {st:HS} (h:aL T n ρ A H st) (s:aQ H H'):aL T n ρ A H' st:=h.same (LC s)
theorem aL.other {n:Nat} {st:HS} (h:aL T m ρ A H st) (f:Fr n ρ H ρ' H') (g:Gh ρ H) (e:m≠n):aL T m ρ' A H' st:=
 h.same ⟨fun b xs q=>(f b _ q fun t x=>by rw [g.tup q];intro z;cases z).1,fun b t x o _ c q=>by
   obtain ⟨a,b'⟩:=f b o q fun t' x'=>by rw [c];intro z;cases z;exact e rfl
   exact ⟨a,b'.trans c⟩⟩
theorem j6.snoc {n:Nat} {as:List oJ} {r l:Addr} {x:oJ} {ss:List V} (h:j6 n ρ H vs as) (e1:H r=some (.tup [.str x.nm, .str x.ow, .int x.wo, .ref l])) (e2:H l=some (.lst ss)) (e3:ρ l=some (n,30,⟨#[]⟩)) (e4:mh H ss x.sh):j6 n ρ H (vs++[.ref r]) (as++[x]):=by
 induction h with
 | nil=>exact .cons e1 e2 e3 e4 .nil
 | cons a b c d _ ih=>exact .cons a b c d ih
theorem yT {p0 p1:Pt}:∀{ps:List Pt} {qs:List (Addr×Addr×Addr)} {i:Nat},ps[i]?=some p0->p1.nm=p0.nm->cg (ps.set i p1) qs=cg ps qs
 | [],_,_,h,_=>by simp at h
 | _::_,[],_,_,_=>by simp [cg]
 | p::ps,q::qs,0,h,e=>by
   have:p=p0:=by simpa using h
   simp [cg,e,this]
 | p::ps,q::qs,i+1,h,e=>by
   have:=yT (qs:=qs) (by simpa using h:ps[i]?=some p0) e
   simp only [cg,Gn,CB] at this ⊢
   rw [this]
variable {j:Nat} {p:Pt}
theorem Bt {ps:List Pt} (nd:(ps.map (·.nm)).Nodup) {q:Pt} (h1:ps[i]?=some p) (h2:ps[j]?=some q) (e:p.nm=q.nm):i=j:=by
 have a:(ps.map (·.nm))[i]?=some p.nm:=by rw [bN,h1];rfl
 have b:(ps.map (·.nm))[j]?=some p.nm:=by rw [bN,h2,e];rfl
 exact vH nd a b
variable {p0 p1:Pt} {q0:Addr×Addr×Addr}
theorem UA {n:Nat} {st:HS} (h:aL T n ρ A H st) (k:Kp n ρ ρ H H' ts) (nd:(st.ak.map (·.nm)).Nodup) (ep:st.ak[i]?=some p0) (eq:A.qs[i]?=some q0) (e1:p1.nm=p0.nm)
  (hw:H' q0.1=some (.ins T.part q0.2.1 (cO p1 q0.2.2))) (hs:∀{b:Addr} {t:Nat} {x:Str} {o:HO},ρ b=some (n,t,x)->t≠20\/x≠p0.nm->H b=some o->H' b=some o) (er:(.lst (p0.row.map V.int):HO) = .lst (p1.row.map V.int)):
  ∀(j:Nat) (p:Pt) (q:Addr×Addr×Addr),(st.ak.set i p1)[j]?=some p->A.qs[j]?=some q->H' q.1=some (.ins T.part q.2.1 (cO p q.2.2))/\H' q.2.2=some (.lst (p.row.map V.int))/\ρ q.1=some (n,20,p.nm)/\ρ q.2.2=some (n,21,p.nm):=by
 intro j p q ej eq'
 by_cases hj:i=j
 . subst hj
   rw [eq] at eq';cases eq'
   rw [oQ (dP.mp ep).1] at ej
   cases ej
   obtain ⟨a,b,c,d⟩:=h.opt i p0 q0 ep eq
   exact ⟨hw,by rw [<-er];exact hs d (.inl (by decide)) b,by rw [e1];exact c,by rw [e1];exact d⟩
 . rw [xq hj] at ej
   obtain ⟨a,b,c,d⟩:=h.opt j p q ej eq'
   exact ⟨hs c (.inr fun e=>hj (Bt nd ep ej e.symm)) a,hs d (.inl (by decide)) b,c,d⟩
variable {l:List Int}
theorem RA {n:Nat} {st:HS} (h:aL T n ρ A H st) (nd:(st.ak.map (·.nm)).Nodup) (ep:st.ak[i]?=some p0) (eq:A.qs[i]?=some q0)
  (hw:H' q0.2.2=some (.lst (l.map V.int))) (hs:∀{b:Addr} {t:Nat} {x:Str} {o:HO},ρ b=some (n,t,x)->t≠21\/x≠p0.nm->H b=some o->H' b=some o):
  ∀(j:Nat) (p:Pt) (q:Addr×Addr×Addr),(st.ak.set i { p0 with row:=l })[j]?=some p->A.qs[j]?=some q->H' q.1=some (.ins T.part q.2.1 (cO p q.2.2))/\H' q.2.2=some (.lst (p.row.map V.int))/\ρ q.1=some (n,20,p.nm)/\ρ q.2.2=some (n,21,p.nm):=by
 intro j p q ej eq'
 by_cases hj:i=j
 . subst hj
   rw [eq] at eq';cases eq'
   rw [oQ (dP.mp ep).1] at ej
   cases ej
   obtain ⟨a,b,c,d⟩:=h.opt i p0 q0 ep eq
   exact ⟨hs c (.inl (by decide)) a,hw,c,d⟩
 . rw [xq hj] at ej
   obtain ⟨a,b,c,d⟩:=h.opt j p q ej eq'
   exact ⟨hs c (.inl (by decide)) a,hs d (.inr fun e=>hj (Bt nd ep ej e.symm)) b,c,d⟩
theorem xO {n:Nat} (c:ρ a=some (n,t,x)):∀{b:Addr} {u:Nat} {y:Str} {w:HO},ρ b=some (n,u,y)->u≠t\/y≠x->H b=some w->upd H a o b=some w:=fun {b u y w} hc hu h=>by
 rw [ay (Bs hc c (fun e=>by cases e;rcases hu with z|z <;> exact z rfl))];exact h
theorem aL.WI {n:Nat} {st:HS} (h:aL T n ρ A H st) (g:Gh ρ H) (l:List Str):aL T n ρ A (upd H A.pl (.dK (fj 0 l))) { st with own:=l }:=by
 have k:=eE (o:= .dK (fj 0 l)) g h.gU
 obtain ⟨vs,h1,h2⟩:=h.oK
 obtain ⟨kvs,k1,k2,k3⟩:=h.okn
 exact ⟨kz k h.ca h.oa,h.ca,ai,h.gU,kz k h.fK h.dN,h.fK,⟨vs,kz k h.iw h1,h2.keep k (by decide)⟩,h.iw,kz k h.iy h.qu,h.iy,kz k h.iA h.iz,h.iA,kz k h.iX h.iN,h.iX,kz k h.cpu h.jL,h.cpu,kz k h.iB h.lH,h.iB,⟨kvs,kz k h.iC k1,fun p hp=>let ⟨t,r,e,q⟩:=k2 p hp;⟨t,r,e,k.1 _ _ q⟩,k3⟩,h.iC,h.ql,fun i p q e1 e2=>let ⟨a,b,c,d⟩:=h.opt i p q e1 e2;⟨kz k c a,kz k d b,c,d⟩⟩
theorem aL.Hl {n:Nat} {st:HS} (h:aL T n ρ A H st) (g:Gh ρ H) (ps:List Pt) (qs:List (Addr×Addr×Addr)) (el:qs.length=ps.length) (hp:∀(i:Nat) (p:Pt) (q:Addr×Addr×Addr),ps[i]?=some p->qs[i]?=some q->H q.1=some (.ins T.part q.2.1 (cO p q.2.2))/\H q.2.2=some (.lst (p.row.map V.int))/\ρ q.1=some (n,20,p.nm)/\ρ q.2.2=some (n,21,p.nm)):aL T n ρ { A with qs:=qs } (upd H A.ab (.dK (cg ps qs))) { st with ak:=ps }:=by
 have k:=eE (o:= .dK (cg ps qs)) g h.fK
 obtain ⟨vs,h1,h2⟩:=h.oK
 obtain ⟨kvs,k1,k2,k3⟩:=h.okn
 exact ⟨kz k h.ca h.oa,h.ca,kz k h.gU h.gT,h.gU,ai,h.fK,⟨vs,kz k h.iw h1,h2.keep k (by decide)⟩,h.iw,kz k h.iy h.qu,h.iy,kz k h.iA h.iz,h.iA,kz k h.iX h.iN,h.iX,kz k h.cpu h.jL,h.cpu,kz k h.iB h.lH,h.iB,⟨kvs,kz k h.iC k1,fun p hp=>let ⟨t,r,e,q⟩:=k2 p hp;⟨t,r,e,k.1 _ _ q⟩,k3⟩,h.iC,el,fun i p q e1 e2=>let ⟨a,b,c,d⟩:=hp i p q e1 e2;⟨kz k c a,kz k d b,c,d⟩⟩
theorem aL.WJ {n:Nat} {st:HS} (h:aL T n ρ A H st) (g:Gh ρ H) {r l:Addr} {x:oJ} {ss O_:List V} (hv:H A.as=some (.lst O_)) (e1:H r=some (.tup [.str x.nm, .str x.ow, .int x.wo, .ref l])) (e2:H l=some (.lst ss)) (e3:ρ l=some (n,30,⟨#[]⟩)) (e4:mh H ss x.sh):aL T n ρ A (upd H A.as (.lst (O_++[.ref r]))) { st with dj:=st.dj++[x] }:=by
 have k:=eE (o:= .lst (O_++[.ref r])) g h.iw
 obtain ⟨vs,h1,h2⟩:=h.oK
 obtain ⟨kvs,k1,k2,k3⟩:=h.okn
 exact ⟨kz k h.ca h.oa,h.ca,kz k h.gU h.gT,h.gU,kz k h.fK h.dN,h.fK,⟨_,ai,by rw [hv] at h1;cases h1;exact (h2.keep k (by decide)).snoc (k.1 _ _ e1) (kz k e3 e2) e3 (e4.mono k.1)⟩,h.iw,kz k h.iy h.qu,h.iy,kz k h.iA h.iz,h.iA,kz k h.iX h.iN,h.iX,kz k h.cpu h.jL,h.cpu,kz k h.iB h.lH,h.iB,⟨kvs,kz k h.iC k1,fun p hp=>let ⟨t,r,e,q⟩:=k2 p hp;⟨t,r,e,k.1 _ _ q⟩,k3⟩,h.iC,h.ql,fun i p q e1 e2=>let ⟨a,b,c,d⟩:=h.opt i p q e1 e2;⟨kz k c a,kz k d b,c,d⟩⟩
theorem aL.WK {n:Nat} {st:HS} (h:aL T n ρ A H st) (g:Gh ρ H) (l:List Str):aL T n ρ A (upd H A.nm (.dK (xN l))) { st with nms:=l }:=by
 have k:=eE (o:= .dK (xN l)) g h.iy
 obtain ⟨vs,h1,h2⟩:=h.oK
 obtain ⟨kvs,k1,k2,k3⟩:=h.okn
 exact ⟨kz k h.ca h.oa,h.ca,kz k h.gU h.gT,h.gU,kz k h.fK h.dN,h.fK,⟨vs,kz k h.iw h1,h2.keep k (by decide)⟩,h.iw,ai,h.iy,kz k h.iA h.iz,h.iA,kz k h.iX h.iN,h.iX,kz k h.cpu h.jL,h.cpu,kz k h.iB h.lH,h.iB,⟨kvs,kz k h.iC k1,fun p hp=>let ⟨t,r,e,q⟩:=k2 p hp;⟨t,r,e,k.1 _ _ q⟩,k3⟩,h.iC,h.ql,fun i p q e1 e2=>let ⟨a,b,c,d⟩:=h.opt i p q e1 e2;⟨kz k c a,kz k d b,c,d⟩⟩
theorem aL.WL {n:Nat} {st:HS} (h:aL T n ρ A H st) (g:Gh ρ H) (l:List Int):aL T n ρ A (upd H A.cm (.lst (l.map V.int))) { st with br:=l }:=by
 have k:=eE (o:= .lst (l.map V.int)) g h.iX
 obtain ⟨vs,h1,h2⟩:=h.oK
 obtain ⟨kvs,k1,k2,k3⟩:=h.okn
 exact ⟨kz k h.ca h.oa,h.ca,kz k h.gU h.gT,h.gU,kz k h.fK h.dN,h.fK,⟨vs,kz k h.iw h1,h2.keep k (by decide)⟩,h.iw,kz k h.iy h.qu,h.iy,kz k h.iA h.iz,h.iA,ai,h.iX,kz k h.cpu h.jL,h.cpu,kz k h.iB h.lH,h.iB,⟨kvs,kz k h.iC k1,fun p hp=>let ⟨t,r,e,q⟩:=k2 p hp;⟨t,r,e,k.1 _ _ q⟩,k3⟩,h.iC,h.ql,fun i p q e1 e2=>let ⟨a,b,c,d⟩:=h.opt i p q e1 e2;⟨kz k c a,kz k d b,c,d⟩⟩
theorem aL.WM {n:Nat} {st:HS} (h:aL T n ρ A H st) (g:Gh ρ H) (l:List Int):aL T n ρ A (upd H A.pu (.lst (l.map V.int))) { st with bH:=l }:=by
 have k:=eE (o:= .lst (l.map V.int)) g h.cpu
 obtain ⟨vs,h1,h2⟩:=h.oK
 obtain ⟨kvs,k1,k2,k3⟩:=h.okn
 exact ⟨kz k h.ca h.oa,h.ca,kz k h.gU h.gT,h.gU,kz k h.fK h.dN,h.fK,⟨vs,kz k h.iw h1,h2.keep k (by decide)⟩,h.iw,kz k h.iy h.qu,h.iy,kz k h.iA h.iz,h.iA,kz k h.iX h.iN,h.iX,ai,h.cpu,kz k h.iB h.lH,h.iB,⟨kvs,kz k h.iC k1,fun p hp=>let ⟨t,r,e,q⟩:=k2 p hp;⟨t,r,e,k.1 _ _ q⟩,k3⟩,h.iC,h.ql,fun i p q e1 e2=>let ⟨a,b,c,d⟩:=h.opt i p q e1 e2;⟨kz k c a,kz k d b,c,d⟩⟩
theorem aL.WN {n:Nat} {st:HS} (h:aL T n ρ A H st) (g:Gh ρ H) (l:List Int):aL T n ρ A (upd H A.sp (.lst (l.map V.int))) { st with stp:=l }:=by
 have k:=eE (o:= .lst (l.map V.int)) g h.iB
 obtain ⟨vs,h1,h2⟩:=h.oK
 obtain ⟨kvs,k1,k2,k3⟩:=h.okn
 exact ⟨kz k h.ca h.oa,h.ca,kz k h.gU h.gT,h.gU,kz k h.fK h.dN,h.fK,⟨vs,kz k h.iw h1,h2.keep k (by decide)⟩,h.iw,kz k h.iy h.qu,h.iy,kz k h.iA h.iz,h.iA,kz k h.iX h.iN,h.iX,kz k h.cpu h.jL,h.cpu,ai,h.iB,⟨kvs,kz k h.iC k1,fun p hp=>let ⟨t,r,e,q⟩:=k2 p hp;⟨t,r,e,k.1 _ _ q⟩,k3⟩,h.iC,h.ql,fun i p q e1 e2=>let ⟨a,b,c,d⟩:=h.opt i p q e1 e2;⟨kz k c a,kz k d b,c,d⟩⟩
theorem aL.WO {n:Nat} {st:HS} (h:aL T n ρ A H st) (g:Gh ρ H) (q:Addr) (l:List Int) (e:H q=some (.lst (l.map V.int))) (c:ρ q=col n 6):aL T n ρ { A with cm:=q } (upd H A.a (.ins T.hold A.dx (jb { A with cm:=q }))) { st with br:=l }:=by
 have k:=eE (o:= .ins T.hold A.dx (jb { A with cm:=q })) g h.ca
 obtain ⟨vs,h1,h2⟩:=h.oK
 obtain ⟨kvs,k1,k2,k3⟩:=h.okn
 exact ⟨ai,h.ca,kz k h.gU h.gT,h.gU,kz k h.fK h.dN,h.fK,⟨vs,kz k h.iw h1,h2.keep k (by decide)⟩,h.iw,kz k h.iy h.qu,h.iy,kz k h.iA h.iz,h.iA,kz k c e,c,kz k h.cpu h.jL,h.cpu,kz k h.iB h.lH,h.iB,⟨kvs,kz k h.iC k1,fun p hp=>let ⟨t,r,e,q⟩:=k2 p hp;⟨t,r,e,k.1 _ _ q⟩,k3⟩,h.iC,h.ql,fun i p q e1 e2=>let ⟨a,b,c,d⟩:=h.opt i p q e1 e2;⟨kz k c a,kz k d b,c,d⟩⟩
theorem aL.Pa {n:Nat} {st:HS} (h:aL T n ρ A H st) (g:Gh ρ H) (q:Addr) (l:List Int) (e:H q=some (.lst (l.map V.int))) (c:ρ q=col n 7):aL T n ρ { A with pu:=q } (upd H A.a (.ins T.hold A.dx (jb { A with pu:=q }))) { st with bH:=l }:=by
 have k:=eE (o:= .ins T.hold A.dx (jb { A with pu:=q })) g h.ca
 obtain ⟨vs,h1,h2⟩:=h.oK
 obtain ⟨kvs,k1,k2,k3⟩:=h.okn
 exact ⟨ai,h.ca,kz k h.gU h.gT,h.gU,kz k h.fK h.dN,h.fK,⟨vs,kz k h.iw h1,h2.keep k (by decide)⟩,h.iw,kz k h.iy h.qu,h.iy,kz k h.iA h.iz,h.iA,kz k h.iX h.iN,h.iX,kz k c e,c,kz k h.iB h.lH,h.iB,⟨kvs,kz k h.iC k1,fun p hp=>let ⟨t,r,e,q⟩:=k2 p hp;⟨t,r,e,k.1 _ _ q⟩,k3⟩,h.iC,h.ql,fun i p q e1 e2=>let ⟨a,b,c,d⟩:=h.opt i p q e1 e2;⟨kz k c a,kz k d b,c,d⟩⟩
theorem aL.WQ {n:Nat} {st:HS} (h:aL T n ρ A H st) (g:Gh ρ H) (m:Int) (q:Addr) (e:H q=some (.dK [])) (c:ρ q=col n 9):aL T n ρ { A with kn:=q } (upd H A.bt (.ins T.bot A.db (vR A.sp m q))) { st with prod:=m,kn:=0 }:=by
 have k:=eE (o:= .ins T.bot A.db (vR A.sp m q)) g h.iA
 obtain ⟨vs,h1,h2⟩:=h.oK
 obtain ⟨kvs,k1,k2,k3⟩:=h.okn
 exact ⟨kz k h.ca h.oa,h.ca,kz k h.gU h.gT,h.gU,kz k h.fK h.dN,h.fK,⟨vs,kz k h.iw h1,h2.keep k (by decide)⟩,h.iw,kz k h.iy h.qu,h.iy,ai,h.iA,kz k h.iX h.iN,h.iX,kz k h.cpu h.jL,h.cpu,kz k h.iB h.lH,h.iB,⟨[],kz k c e,(fun p hp=>absurd hp (by simp)),aN _,tT⟩,c,h.ql,fun i p q e1 e2=>let ⟨a,b,c,d⟩:=h.opt i p q e1 e2;⟨kz k c a,kz k d b,c,d⟩⟩
theorem aL.iD {n:Nat} {st:HS} (h:aL T n ρ A H st) (g:Gh ρ H) (ep:st.ak[i]?=some p0) (eq:A.qs[i]?=some q0) (e1:p1.nm=p0.nm) (e2:p1.row=p0.row) (nd:(st.ak.map (·.nm)).Nodup):aL T n ρ A (upd H q0.1 (.ins T.part q0.2.1 (cO p1 q0.2.2))) { st with ak:=st.ak.set i p1 }:=by
 have k:=eE (o:= .ins T.part q0.2.1 (cO p1 q0.2.2)) g (h.opt i p0 q0 ep eq).2.2.1
 obtain ⟨vs,h1,h2⟩:=h.oK
 obtain ⟨kvs,k1,k2,k3⟩:=h.okn
 exact ⟨kz k h.ca h.oa,h.ca,kz k h.gU h.gT,h.gU,by rw [yT ep e1];exact kz k h.fK h.dN,h.fK,⟨vs,kz k h.iw h1,h2.keep k (by decide)⟩,h.iw,kz k h.iy h.qu,h.iy,kz k h.iA h.iz,h.iA,kz k h.iX h.iN,h.iX,kz k h.cpu h.jL,h.cpu,kz k h.iB h.lH,h.iB,⟨kvs,kz k h.iC k1,fun p hp=>let ⟨t,r,e,q⟩:=k2 p hp;⟨t,r,e,k.1 _ _ q⟩,k3⟩,h.iC,by rw [gK];exact h.ql,UA h k nd ep eq e1 ai (xO (h.opt i p0 q0 ep eq).2.2.1) (by rw [e2])⟩
theorem aL.UB {n:Nat} {st:HS} (h:aL T n ρ A H st) (g:Gh ρ H) (l:List Int) (ep:st.ak[i]?=some p0) (eq:A.qs[i]?=some q0) (nd:(st.ak.map (·.nm)).Nodup):aL T n ρ A (upd H q0.2.2 (.lst (l.map V.int))) { st with ak:=st.ak.set i { p0 with row:=l } }:=by
 have k:=eE (o:= .lst (l.map V.int)) g (h.opt i p0 q0 ep eq).2.2.2
 obtain ⟨vs,h1,h2⟩:=h.oK
 obtain ⟨kvs,k1,k2,k3⟩:=h.okn
 exact ⟨kz k h.ca h.oa,h.ca,kz k h.gU h.gT,h.gU,by show _=some (HO.dK (cg (st.ak.set i { p0 with row:=l }) A.qs));rw [yT (p1:={ p0 with row:=l }) ep rfl];exact kz k h.fK h.dN,h.fK,⟨vs,kz k h.iw h1,h2.keep k (by decide)⟩,h.iw,kz k h.iy h.qu,h.iy,kz k h.iA h.iz,h.iA,kz k h.iX h.iN,h.iX,kz k h.cpu h.jL,h.cpu,kz k h.iB h.lH,h.iB,⟨kvs,kz k h.iC k1,fun p hp=>let ⟨t,r,e,q⟩:=k2 p hp;⟨t,r,e,k.1 _ _ q⟩,k3⟩,h.iC,by rw [gK];exact h.ql,RA h nd ep eq ai (xO (h.opt i p0 q0 ep eq).2.2.2)⟩
structure Txt (K:Fg) (T:TC):Prop where
 cH:nj K T.hold
 cP:nj K T.part
 cB:nj K T.bot
 hpl:ee K T.hold "places"
 hab:ee K T.hold "aboard"
 has:ee K T.hold "ashore"
 hnm:ee K T.hold "names"
 r6:ee K T.hold "bottom"
 xP:ee K T.hold "common"
 xQ:ee K T.hold "purses"
 S0:ee K T.part "name"
 pow:ee K T.part "owner"
 t8:ee K T.part "worth"
 S3:ee K T.part "weight"
 D8:ee K T.part "scale"
 Ho:ee K T.part "row"
 WR:ee K T.bot "steps"
 Hq:ee K T.bot "product"
 Pb:ee K T.bot "known"
structure Wf (st:HS):Prop where
 nC:st.own.Nodup
 vS:st.nms.Nodup
 c6:(st.ak.map (·.nm)).Nodup
 sub:∀p∈st.ak,p.nm∈st.nms
 rows:∀p∈st.ak,p.row.length=st.own.length
 ow:∀p∈st.ak,p.ow∈st.own
 fC:st.br.length=st.own.length
 jC:st.bH.length=st.own.length
 dW:1<=st.prod
 kP:st.prod=st.stp.foldl (·*·) 1
 oY:∀s∈st.stp,2<=s
 jD:st.own.length<=100
 vU:st.nms.length<=1000
 mj:st.ak.length<=1000
 xR:st.stp.length<=100
 r8:st.dj.length<=1000
 D9:st.kn<=1000000
 big:Jm.Sz 8000 st.prod
 mq:∀c∈st.br,0<=c/\c<=st.prod
 nD:∀p∈st.ak,1<=p.sc/\p.sc<=st.prod
 lz:∀p∈st.ak,∀r∈p.row,-st.prod<=r/\r<=st.prod
 mw:∀p∈st.ak,∀t∈List.zipWith (fun r c=>p.sc*r+c) p.row st.br,0<=t/\t<=st.prod
 jw:∀p∈st.ak,1<=p.wo/\0<=p.we
 CS:∀u∈st.bH,Jm.Sz 9000 u
structure HH (T:TC) (n:Nat) (ρ:eY) (A:HA) (H:Hp) (st:HS):Prop where
 g:Gh ρ H
 h:aL T n ρ A H st
 wf:Wf st
def t9 (T:TC) (n:Nat) (ρ:eY) (A:HA) (H:Hp) (st:HS) (Q:Hp->Prop):Prop:=∀ρ' A' H',HH T n ρ' A' H' st->A'.a=A.a->Fr n ρ H ρ' H'->Q H'
def hs0:HS:=⟨[],[],[],[],[],1,0,[],[]⟩
theorem wf0:Wf hs0:=by
 refine ⟨tT,tT,tT,?_,?_,?_,Z,Z,?_,Z,?_,?_,?_,?_,?_,?_,?_,?_,?_,?_,?_,?_,?_,?_⟩ <;> first|(intro _ h;exact absurd h (by simp [hs0]))|decide|(show Jm.Sz 8000 1;exact jK (by decide +kernel))
theorem LD:∀{l:List Str} {i:Nat} {o:Str},o∈l->dh (fj i l) (Sum.inr o)=some (.int ((i+l.idxOf o:Nat):Int))
 | [],_,_,h=>by simp at h
 | x::l,i,o,h=>by
   by_cases e:x=o
   . subst e
     rw [show fj i (x::l)=(Sum.inr x, .int i)::fj (i+1) l from rfl,fQ rfl]
     simp
   . rw [show fj i (x::l)=(Sum.inr x, .int i)::fj (i+1) l from rfl,d7 (by intro z;exact e (pV z))]
     have hm:o∈l:=by
      rcases c9.mp h with z|z
      . exact absurd z.symm e
      . exact z
     rw [LD hm]
     have eb:(x==o)=false:=by simpa using e
     have:(x::l).idxOf o=l.idxOf o+1:=by rw [List.idxOf_cons,eb];rfl
     rw [this]
     show some (V.int ((i+1+l.idxOf o:Nat):Int))=some (V.int ((i+(l.idxOf o+1):Nat):Int))
     rw [show i+1+l.idxOf o=i+(l.idxOf o+1) from by omega]
theorem nE:∀{l:List Str} {i:Nat} {o:Str},o∉l->dh (fj i l) (Sum.inr o)=none
 | [],_,_,_=>rfl
 | x::l,i,o,h=>by
   rw [show fj i (x::l)=(Sum.inr x, .int i)::fj (i+1) l from rfl,d7 (fun z=>h (by rw [<-pV z];exact cV))]
   exact nE fun m=>h (cD _ m)
theorem nF:∀(l:List Str) (i:Nat),(fj i l).length=l.length
 | [],_=>rfl
 | _::l,i=>by rw [show ∀x,fj i (x::l)=(Sum.inr x, .int i)::fj (i+1) l from fun _=>rfl,jy,jy,nF l]
theorem Hr:∀(l:List Str) (i:Nat) (o:Str),fj i (l++[o])=fj i l++[(Sum.inr o, .int ((i+l.length:Nat):Int))]
 | [],i,o=>rfl
 | x::l,i,o=>by
   show (Sum.inr x,V.int i)::fj (i+1) (l++[o])=_
   rw [Hr l (i+1) o]
   show _=(Sum.inr x,V.int i)::(fj (i+1) l++_)
   rw [jy,show i+1+l.length=i+(l.length+1) from by omega]
theorem Hs:∀(l:List Str) (i:Nat),(fj i l).map (fun p=>kV p.1)=l.map V.str
 | [],_=>rfl
 | x::l,i=>by
   show kV (Sum.inr x)::(fj (i+1) l).map _=V.str x::l.map V.str
   rw [Hs l]
   rfl
variable {qs:List (Addr×Addr×Addr)}
theorem u7 {ps:List Pt} {q:Addr×Addr×Addr} (h1:ps[i]?=some p) (h2:qs[i]?=some q):(cg ps qs)[i]?=some (Sum.inr p.nm, .ref q.1):=by
 unfold cg
 rw [Mw,h1,h2]
theorem u9 {ps:List Pt} (h:qs.length=ps.length):(cg ps qs).length=ps.length:=by
 unfold cg
 rw [kh,h,vD]
theorem rE:∀{ps:List Pt} {qs:List (Addr×Addr×Addr)} {i:Nat} {p:Pt} {q:Addr×Addr×Addr},(ps.map (·.nm)).Nodup->ps[i]?=some p->qs[i]?=some q->dh (cg ps qs) (Sum.inr p.nm)=some (.ref q.1)
 | [],_,_,_,_,_,h,_=>by simp at h
 | _::_,[],_,_,_,_,_,h=>by simp at h
 | a::ps,b::qs,0,p,q,_,h1,h2=>by
   have e1:a=p:=by simpa using h1
   have e2:b=q:=by simpa using h2
   subst e1 e2
   exact fQ rfl
 | a::ps,b::qs,i+1,p,q,nd,h1,h2=>by
   have nd':=fO.mp (show (a.nm::ps.map (·.nm)).Nodup from nd)
   have Bu:ps[i]?=some p:=by simpa using h1
   rw [show cg (a::ps) (b::qs)=(Sum.inr a.nm, .ref b.1)::cg ps qs from rfl,d7 (fun z=>nd'.1 (bK.mpr ⟨p,bO Bu,(pV z).symm⟩))]
   exact rE nd'.2 Bu (by simpa using h2)
theorem r_:∀{ps:List Pt} {qs:List (Addr×Addr×Addr)} {x:Str},(∀p∈ps,p.nm≠x)->dh (cg ps qs) (Sum.inr x)=none
 | [],_,_,_=>rfl
 | _::_,[],_,_=>rfl
 | a::ps,b::qs,x,h=>by
   rw [show cg (a::ps) (b::qs)=(Sum.inr a.nm, .ref b.1)::cg ps qs from rfl,d7 (fun z=>h a cV (pV z))]
   exact r_ fun p hp=>h p (cD _ hp)
theorem RB {ps:List Pt} (h:qs.length=ps.length) (p:Pt) (q:Addr×Addr×Addr):cg (ps++[p]) (qs++[q])=cg ps qs++[(Sum.inr p.nm, .ref q.1)] :=by
 unfold cg
 rw [List.zipWith_append h.symm]
 rfl
theorem xS {l:List Str} (h:x∉l):dh (xN l) (Sum.inr x)=none:=by
 unfold xN
 induction l with
 | nil=>rfl
 | cons a l ih=>
   rw [bJ,d7 (fun z=>h (by rw [<-pV z];exact cV))]
   exact ih fun m=>h (cD _ m)
theorem Ht {l:List Str} (h:x∈l):dh (xN l) (Sum.inr x)=some (.bl true):=by
 unfold xN
 induction l with
 | nil=>simp at h
 | cons a l ih=>
   rw [bJ]
   by_cases e:a=x
   . exact fQ (by rw [e])
   . rw [d7 (fun z=>e (pV z))]
     exact ih ((c9.mp h).resolve_left fun z=>e z.symm)
theorem aL.find {n:Nat} {st:HS} (h:aL T n ρ A H st) (e:st.ak[i]?=some p):∃q,A.qs[i]?=some q/\H q.1=some (.ins T.part q.2.1 (cO p q.2.2))/\H q.2.2=some (.lst (p.row.map V.int))/\ρ q.1=some (n,20,p.nm)/\ρ q.2.2=some (n,21,p.nm):=by
 have hi:i<A.qs.length:=by rw [h.ql];exact (dP.mp e).1
 exact ⟨A.qs[i],bq hi,h.opt i p _ e (bq hi)⟩
def f7 (st:HS) (o:Str):HS:={ st with own:=st.own++[o],br:=st.br++[0],bH:=st.bH++[0],ak:=st.ak.map fun p=>{ p with row:=p.row++[0] } }
def a_ (st:HS) (p:Pt):List Int:=List.zipWith (fun r c=>p.sc*r+c) p.row st.br
def ko (st:HS) (tops:List Int):List Int:=List.zipWith (fun t c=>t-c) tops st.br
def Bv (st:HS) (p:Pt):HS:={ st with ak:=st.ak++[p],nms:=st.nms++[p.nm] }
def Gb (st:HS) (x o:Str) (wo we:Int):HS:=Bv st ⟨x,o,wo,we,1,ko st ((List.replicate st.own.length 0).set (st.own.idxOf o) st.prod)⟩
def aM (st:HS):Int:=(st.ak.map (·.wo)).sum
def nG (st:HS) (p:Pt):List (Str×Rat):=(List.zip st.own (a_ st p)).filterMap fun x=>if 0<x.2 then some (x.1,Jm.fr x.2 st.prod) else none
def Hu (n:Nat) (q1 q2:Addr) (ρ:eY) (H:Hp) (ρ':eY) (H':Hp):Prop:=∀b o,H b=some o->(∀t x,ρ b≠some (n,t,x))->b≠q1->b≠q2->H' b=some o/\ρ' b=ρ b
theorem Hu.trans {n:Nat} {ρ1 ρ2:eY} (a:Hu n q1 q2 ρ H ρ1 H1) (b:Fr n ρ1 H1 ρ2 H2):Hu n q1 q2 ρ H ρ2 H2:=fun c o h k x y=>by
 obtain ⟨h1,e1⟩:=a c o h k x y
 obtain ⟨h2,e2⟩:=b c o h1 (by rw [e1];exact k)
 exact ⟨h2,e2.trans e1⟩
theorem Hu.fr {n:Nat} {ρ1 ρ2:eY} (b:Hu n q1 q2 ρ1 H1 ρ2 H2) (a:Fr n ρ H ρ1 H1) (h1:H q1=none) (h2:H q2=none):Fr n ρ H ρ2 H2:=fun c o h k=>by
 obtain ⟨e1,e2⟩:=a c o h k
 obtain ⟨e3,e4⟩:=b c o e1 (by rw [e2];exact k) (aE h h1) (aE h h2)
 exact ⟨e3,e4.trans e2⟩
def isNm (o:Str):Bool:=isName o.cps.toList
inductive WS (T:TC) (vs:List V) (H:Hp) (Q:VK) (E:XK):Prop
 | mk (p dx:_) (_:vs=[.ref p]) (_:H p=some (.ins T.bot dx [])) (_:∀sp kn H',H sp=none->H kn=none->sp≠kn->(∀b o,H b=some o->b≠p->H' b=some o)->H' p=some (.ins T.bot dx (vR sp 1 kn))->H' sp=some (.lst [])->H' kn=some (.dK [])->Q .bU H')
def LF (T:TC):Sp:=bx (WS T)
inductive WT (T:TC) (K:Fg) (vs:List V) (H:Hp) (Q:VK) (E:XK):Prop
 | mk (p dx l:Addr) (pt:Pt) (_:vs=[.ref p, .str pt.nm, .str pt.ow, .int pt.wo, .int pt.we, .int pt.sc, .ref l]) (_:H p=some (.ins T.part dx [])) (_:aH K H l (pt.row.map V.int)) (_:∀r H',H r=none->(∀b o,H b=some o->b≠p->H' b=some o)->H' p=some (.ins T.part dx (cO pt r))->H' r=some (.lst (pt.row.map V.int))->Q .bU H')
def CT (T:TC) (K:Fg):Sp:=bx (WT T K)
inductive WU (T:TC) (vs:List V) (H:Hp) (Q:VK) (E:XK):Prop
 | mk (p dx ρ n:_) (_:vs=[.ref p]) (_:H p=some (.ins T.hold dx [])) (_:Gh ρ H) (_:ρ p=none) (_:∀ρ' A H',A.a=p->HH T n ρ' A H' hs0->(∀b o,H b=some o->b≠p->H' b=some o/\ρ' b=ρ b)->Q .bU H')
def LG (T:TC):Sp:=bx (WU T)
inductive WV (T:TC) (vs:List V) (H:Hp) (Q:VK) (E:XK):Prop
 | mk (n ρ A st o:_) (_:vs=[.ref A.a, .str o]) (_:aL T n ρ A H st) (_:o∈st.own) (_:Q (.int (st.own.idxOf o:Int)) H)
def rF (T:TC):Sp:=bx (WV T)
inductive UC (T:TC) (vs:List V) (H:Hp) (Q:VK) (E:XK):Prop
 | mk (n ρ A st:_) (i:Nat) (p:Pt) (q:Addr×Addr×Addr) (_:vs=[.ref A.a, .str p.nm]) (_:aL T n ρ A H st) (_:(st.ak.map (·.nm)).Nodup) (_:st.ak[i]?=some p) (_:A.qs[i]?=some q) (_:Q (.ref q.1) H)
def zV (T:TC):Sp:=bx (UC T)
inductive Pc (T:TC) (vs:List V) (H:Hp) (Q:VK) (E:XK):Prop
 | mk (n ρ A st x:_) (_:vs=[.ref A.a, .str x]) (_:aL T n ρ A H st) (_:isNm x=true) (_:x∉st.nms) (_:∀H',aQ H H'->Q .bU H')
def Bw (T:TC):Sp:=bx (Pc T)
inductive acv (T:TC) (K:Fg) (vs:List V) (H:Hp) (Q:VK) (E:XK):Prop
 | mk (n ρ A st l:_) (tops:List Int) (_:vs=[.ref A.a, .ref l]) (_:aL T n ρ A H st) (_:aH K H l (tops.map V.int)) (_:tops.length=st.br.length) (_:tops.length<=1000) (_:∀r H',aQ H H'->H r=none->H' r=some (.lst ((ko st tops).map V.int))->Q (.ref r) H')
def Nm (T:TC) (K:Fg):Sp:=bx (acv T K)
inductive WW (T:TC) (vs:List V) (H:Hp) (Q:VK) (E:XK):Prop
 | mk (n ρ A st:_) (i:Nat) (p:Pt) (q:Addr×Addr×Addr) (_:vs=[.ref A.a, .ref q.1]) (_:aL T n ρ A H st) (_:Wf st) (_:st.ak[i]?=some p) (_:A.qs[i]?=some q) (_:∀r H',aQ H H'->H r=none->H' r=some (.lst ((a_ st p).map V.int))->Q (.ref r) H')
def yU (T:TC):Sp:=bx (WW T)
inductive Zm (T:TC) (vs:List V) (H:Hp) (Q:VK) (E:XK):Prop
 | mk (n ρ A st:_) (q:Addr×Addr×Addr) (p:Pt) (_:vs=[.ref A.a, .ref q.1]) (_:HH T n ρ A H st) (_:H q.1=some (.ins T.part q.2.1 (cO p q.2.2))) (_:H q.2.2=some (.lst (p.row.map V.int))) (_:ρ q.1=none) (_:ρ q.2.2=none) (_:p.nm∉st.nms) (_:Wf (Bv st p)) (_:∀ρ' A' H',HH T n ρ' A' H' (Bv st p:_)->A'.a=A.a->Hu n q.1 q.2.2 ρ H ρ' H'->Q .bU H')
def Hv (T:TC):Sp:=bx (Zm T)
inductive WX (T:TC) (vs:List V) (H:Hp) (Q:VK) (E:XK):Prop
 | mk (n ρ A st o:_) (_:vs=[.ref A.a, .str o]) (_:HH T n ρ A H st) (_:isNm o=true) (_:o∉st.own) (_:st.own.length<100) (_:t9 T n ρ A H (f7 st o:_) fun H'=>Q .bU H')
def CU (T:TC):Sp:=bx (WX T)
inductive Zn (T:TC) (vs:List V) (H:Hp) (Q:VK) (E:XK):Prop
 | mk (n ρ A st x o wo we:_) (_:vs=[.ref A.a, .str x, .str o, .int wo, .int we]) (_:HH T n ρ A H st) (_:isNm x=true) (_:x∉st.nms) (_:o∈st.own) (_:1<=wo) (_:0<=we) (_:st.nms.length<1000) (_:st.ak.length<1000) (_:t9 T n ρ A H (Gb st x o wo we:_) fun H'=>Q .bU H')
def Pd (T:TC):Sp:=bx (Zn T)
inductive WY (T:TC) (vs:List V) (H:Hp) (Q:VK) (E:XK):Prop
 | mk (n ρ A st:_) (_:vs=[.ref A.a]) (_:aL T n ρ A H st) (_:st.ak.length<=1000) (_:∀H',aQ H H'->Q (.int (aM st)) H')
def u_ (T:TC):Sp:=bx (WY T)
inductive WZ (T:TC) (vs:List V) (H:Hp) (Q:VK) (E:XK):Prop
 | mk (bt db sp kn:Addr) (stp:List Int) (prod top:Int) (_:vs=[.ref bt, .int top]) (_:H bt=some (.ins T.bot db (vR sp prod kn))) (_:H sp=some (.lst (stp.map V.int))) (_:prod=stp.foldl (·*·) 1) (_:(∀s∈stp,2<=s)) (_:Jm.Sz 8000 prod) (_:∀r H',aQ H H'->H' r=some (nu (Jm.fr top prod))->Q (.ref r) H')
def vc (T:TC):Sp:=bx (WZ T)
inductive UD (T:TC) (vs:List V) (H:Hp) (Q:VK) (E:XK):Prop
 | mk (bt db sp kn:Addr) (stp:List Int) (prod top:Int) (kvs:List (Key×V)) (_:vs=[.ref bt, .int top]) (_:H bt=some (.ins T.bot db (vR sp prod kn))) (_:H sp=some (.lst (stp.map V.int))) (_:prod=stp.foldl (·*·) 1) (_:(∀s∈stp,2<=s)) (_:Jm.Sz 8000 prod) (_:H kn=some (.dK kvs)) (_:Hj H kvs prod) (_:kvs.length<10000000) (_:(kvs.map (·.1)).Nodup) (_:∀r H' kvs',(∀b o,H b=some o->b≠kn->H' b=some o)->H' kn=some (.dK kvs')->Hj H' kvs' prod->kvs'.length<=kvs.length+1->(kvs'.map (·.1)).Nodup->H' r=some (nu (Jm.fr top prod))->Q (.ref r) H')
def Hw (T:TC):Sp:=bx (UD T)
theorem mh.snoc {l:List (Str×Rat)} {r:Addr} {q:Rat} (h:mh H vs l) (e:H r=some (.tup [.str x, .ref f])) (e2:H f=some (nu q)):mh H (vs++[.ref r]) (l++[(x,q)]):=by
 induction h with
 | nil=>exact .cons e e2 .nil
 | cons a b _ ih=>exact .cons a b ih
theorem rG {p:Addr} (h:H p=none\/∃u,H p=some u/\isTup u=false):∀b xs,H b=some (.tup xs)->upd H p o b=some (.tup xs):=fun b xs e=>by
 rw [ay (fun z=>?_)]
 . exact e
 . rw [z] at e
   rcases h with h|⟨u,h,t⟩
   . rw [h] at e;cases e
   . rw [h] at e;cases e;cases t
theorem Hy (h:isNm x=true):x.cps.toList.length<=100000:=by
 unfold isNm isName at h
 have:=aX (lZ.mp (lZ.mp h).1).2
 omega
theorem se {d:Addr} {o:Obj} (e:H d=some (.dK kvs)) (s:aQ (upd H d (.fB o (.dK kvs))) H1):aQ H (upd H1 d (.dK kvs)):=fun b u q=>by
 by_cases h:b=d
 . rw [h,e] at q;cases q;rw [h];exact ai
 . rw [ay h];exact s b u (by rw [ay h];exact q)
theorem d8 {d:Addr} {o:Obj} {u:HO} (e:H d=some (.dK kvs)) (q:H b=some u) (h:∀k,u ≠ .dK k):upd H d (.fB o (.dK kvs)) b=some u:=by
 rw [ay (fun z=>by rw [z,e] at q;cases q;exact h _ rfl)];exact q
theorem o6 {d:Addr} {o:Obj} (e:H d=some (.dK kvs)) (q:upd H d (.fB o (.dK kvs)) b=none):H b=none:=by
 by_cases h:b=d
 . rw [h,ai] at q;cases q
 . rw [ay h] at q;exact q
theorem aQ.tups (s:aQ H H'):∀b xs,H b=some (.tup xs)->H' b=some (.tup xs):=fun b xs h=>s b _ h
theorem take_snoc {α:Type} {l:List α} {x:α} (h:l[i]?=some x):l.take (i+1)=l.take i++[x] :=by rw [List.take_add_one,h];rfl
theorem qw {α β γ:Type} (f:α->β->γ) {xs:List α} {ys:List β} {x:α} {y:β} (h1:xs[i]?=some x) (h2:ys[i]?=some y):List.zipWith f (xs.take (i+1)) (ys.take (i+1))=List.zipWith f (xs.take i) (ys.take i)++[f x y] :=by
 have l1:=(dP.mp h1).1
 have l2:=(dP.mp h2).1
 rw [take_snoc h1,take_snoc h2,List.zipWith_append (by rw [rQ,rQ];omega)]
 rfl
theorem fE {v:V} (h:(l.map V.int)[i]?=some v):∃z,v = .int z/\l[i]?=some z:=by
 rw [bN] at h
 obtain ⟨z,hz,rfl⟩:=jx.mp h
 exact ⟨z,Z,hz⟩
theorem HH.mono {n:Nat} {st:HS} (h:HH T n ρ A H st) (s:aQ H H'):HH T n ρ A H' st:=⟨h.g.same s,h.h.mono s,h.wf⟩
theorem Hz {n:Nat} {u:HO} (c:ρ a=none) (h:H a=some u) (t:isTup u=false):Kp n ρ ρ H (upd H a o) ts:=
 ⟨rG (.inr ⟨u,h,t⟩),fun b x y w _ hc e=>⟨by rw [ay (fun z=>by rw [z,c] at hc;cases hc)];exact e,hc⟩⟩
theorem HH.By {n:Nat} {st:HS} {u:HO} (h:HH T n ρ A H st) (c:ρ a=none) (e:H a=some u) (t:isTup u=false) (t2:isTup o=false):HH T n ρ A (upd H a o) st:=⟨h.g.wr t2,h.h.same (Hz c e t),h.wf⟩
theorem Fr.new {n:Nat} (f:Fr n ρ H ρ' H') (h:H a=none):Fr n ρ H ρ' (upd H' a o):=fun b u e k=>by
 rw [ay (aE e h)];exact f b u e k
theorem D_ {α β γ:Type} (f:α->β->γ) {xs:List α} {ys:List β} (h:xs.length=ys.length) (x:α) (y:β):List.zipWith f (xs++[x]) (ys++[y])=List.zipWith f xs ys++[f x y] :=by
 rw [List.zipWith_append h];rfl
theorem CV {st:HS} (w:Wf st) {o:Str} (h:o∉st.own) (hl:st.own.length<100):Wf (f7 st o):=by
 have P:∀p∈(f7 st o).ak,∃p0∈st.ak,p={ p0 with row:=p0.row++[0] }:=fun p hp=>by
  obtain ⟨p0,h0,rfl⟩:=bK.mp (show p∈st.ak.map _ from hp)
  exact ⟨p0,h0,Z⟩
 have p1:=w.dW
 refine ⟨?_,w.vS,?_,fun p hp=>?_,fun p hp=>?_,fun p hp=>?_,?_,?_,w.dW,w.kP,w.oY,?_,w.vU,?_,w.xR,w.r8,w.D9,w.big,fun c hc=>?_,fun p hp=>?_,fun p hp r hr=>?_,fun p hp t ht=>?_,fun p hp=>?_,fun u hu=>?_⟩
 . exact mR w.nC h
 . show ((st.ak.map fun p=>{ p with row:=p.row++[0] }).map (·.nm)).Nodup
   rw [gy]
   exact w.c6
 . obtain ⟨p0,h0,rfl⟩:=P p hp
   exact w.sub p0 h0
 . obtain ⟨p0,h0,rfl⟩:=P p hp
   show (p0.row++[0]).length=(st.own++[o]).length
   rw [dw,dw,w.rows p0 h0]
   rfl
 . obtain ⟨p0,h0,rfl⟩:=P p hp
   exact zM _ (w.ow p0 h0)
 . show (st.br++[0]).length=(st.own++[o]).length
   rw [dw,dw,w.fC]
   rfl
 . show (st.bH++[0]).length=(st.own++[o]).length
   rw [dw,dw,w.jC]
   rfl
 . show (st.own++[o]).length<=100
   rw [dw]
   exact hl
 . show (st.ak.map _).length<=1000
   rw [aD]
   exact w.mj
 . rcases fZ.mp (show c∈st.br++[0] from hc) with z|z
   . exact w.mq c z
   . rw [fN.mp z];exact ⟨jX _,by show (0:Int)<=st.prod;omega⟩
 . obtain ⟨p0,h0,rfl⟩:=P p hp
   exact w.nD p0 h0
 . obtain ⟨p0,h0,rfl⟩:=P p hp
   rcases fZ.mp (show r∈p0.row++[0] from hr) with z|z
   . exact w.lz p0 h0 r z
   . rw [fN.mp z];show -st.prod<=0/\0<=st.prod;omega
 . obtain ⟨p0,h0,rfl⟩:=P p hp
   have el:p0.row.length=st.br.length:=by rw [w.rows p0 h0,w.fC]
   have ht:t∈List.zipWith (fun r c=>p0.sc*r+c) (p0.row++[0]) (st.br++[0]):=ht
   rw [D_ _ el _ _] at ht
   rcases fZ.mp ht with z|z
   . exact w.mw p0 h0 t z
   . rw [fN.mp z];show 0<=p0.sc*0+0/\p0.sc*0+0<=st.prod;omega
 . obtain ⟨p0,h0,rfl⟩:=P p hp
   exact w.jw p0 h0
 . rcases fZ.mp (show u∈st.bH++[0] from hu) with z|z
   . exact w.CS u z
   . rw [fN.mp z];exact jK (by decide +kernel)
theorem LH {st:HS} (w:Wf st) (h1:p.nm∉st.nms) (h2:st.nms.length<1000) (h3:st.ak.length<1000) (h4:p.row.length=st.own.length) (h5:p.ow∈st.own) (h6:1<=p.sc/\p.sc<=st.prod) (h7:∀r∈p.row,-st.prod<=r/\r<=st.prod)
  (h8:∀t∈List.zipWith (fun r c=>p.sc*r+c) p.row st.br,0<=t/\t<=st.prod) (h9:1<=p.wo/\0<=p.we):Wf (Bv st p):=by
 have P:∀{M:Pt->Prop},(∀x∈st.ak,M x)->M p->∀x∈st.ak++[p],M x:=fun a b x hx=>by
  rcases fZ.mp hx with z|z
  . exact a x z
  . rw [fN.mp z];exact b
 refine ⟨w.nC,mR w.vS h1,?_,P (fun x hx=>zM _ (w.sub x hx)) (ja _ (fN.mpr rfl)),P w.rows h4,P w.ow h5,w.fC,w.jC,w.dW,w.kP,w.oY,w.jD,?_,?_,w.xR,w.r8,w.D9,w.big,w.mq,P w.nD h6,P w.lz h7,P w.mw h8,P w.jw h9,w.CS⟩
 . show ((st.ak++[p]).map (·.nm)).Nodup
   rw [bL]
   refine mR w.c6 fun m=>?_
   obtain ⟨x,hx,e⟩:=bK.mp m
   have e:x.nm=p.nm:=e
   exact h1 (by rw [<-e];exact w.sub x hx)
 . show (st.nms++[p.nm]).length<=1000
   rw [dw];exact h2
 . show (st.ak++[p]).length<=1000
   rw [dw];exact h3
theorem sf {α β γ:Type} {f:α->β->γ} {t:γ}:∀{xs:List α} {ys:List β},t∈List.zipWith f xs ys->∃x∈xs,∃y∈ys,t=f x y
 | [],_,h=>by simp at h
 | _::_,[],h=>by simp at h
 | x::xs,y::ys,h=>by
   rcases c9.mp (show t∈f x y::List.zipWith f xs ys from h) with e|m
   . exact ⟨x,cV,y,cV,e⟩
   . obtain ⟨a,ha,b,hb,e⟩:=sf m
     exact ⟨a,cD _ ha,b,cD _ hb,e⟩
theorem HB:∀{ts cs:List Int},List.zipWith (fun r c=>1*r+c) (List.zipWith (fun t c=>t-c) ts cs) cs=ts.take cs.length
 | [],_=>by simp
 | _::_,[]=>by simp
 | t::ts,c::cs=>by
   show (1*(t-c)+c)::List.zipWith _ (List.zipWith _ ts cs) cs=t::ts.take cs.length
   rw [HB]
   congr 1
   omega
theorem BA {n:Nat} {b t:Int} (h:t∈(List.replicate n 0).set i b):t=0\/t=b:=by
 rcases Mq h with z|z
 . exact .inl (List.eq_of_mem_replicate z)
 . exact .inr z
variable {wo we:Int}
theorem LI {st:HS} (w:Wf st) {o:Str} (h1:x∉st.nms) (h2:st.nms.length<1000) (h3:st.ak.length<1000) (ho:o∈st.own) (h4:1<=wo) (h5:0<=we):Wf (Gb st x o wo we):=by
 have p1:=w.dW
 refine LH w h1 h2 h3 ?_ ho ⟨jX 1,w.dW⟩ (fun r hr=>?_) (fun t ht=>?_) ⟨h4,h5⟩
 . show (List.zipWith _ ((List.replicate st.own.length 0).set _ _) st.br).length=_
   rw [kh,gK,m5,w.fC,vD]
 . obtain ⟨t,ht,c,hc,rfl⟩:=sf (show r∈List.zipWith _ _ st.br from hr)
   have:=w.mq c hc
   rcases BA ht with rfl|rfl <;> omega
 . have e:List.zipWith (fun r c=>1*r+c) (ko st ((List.replicate st.own.length 0).set (st.own.idxOf o) st.prod)) st.br=_:=HB
   have ht:t∈List.zipWith (fun r c=>1*r+c) (ko st ((List.replicate st.own.length 0).set (st.own.idxOf o) st.prod)) st.br:=ht
   rw [e] at ht
   rcases BA (List.mem_of_mem_take ht) with rfl|rfl <;> omega
theorem jE {u:HO} (h:a≠b):upd (upd H a o) b u=upd (upd H b u) a o:=by
 funext c
 unfold upd
 by_cases e1:c=b
 . rw [aB e1,aA (fun z=>h (z.symm.trans e1)),aB e1]
 . rw [aA e1]
   by_cases e2:c=a
   . rw [aB e2,aB e2]
   . rw [aA e2,aA e2,aA e1]
theorem vV (h:H a=some o):upd H a o=H:=by
 funext c
 unfold upd
 by_cases e:c=a
 . rw [aB e,e,h]
 . rw [aA e]
theorem HC {α:Type} (g:α->α) {l:List α} {p:α} (h:l[i]?=some p):((l.take i).map g++l.drop i)[i]?=some p:=by
 have hi:=(dP.mp h).1
 have e:((l.take i).map g).length=i:=by rw [aD,rQ];omega
 rw [Lg (by omega),e,Nat.sub_self,List.getElem?_drop]
 exact h
theorem HD {α:Type} (g:α->α) {l:List α} {p:α} (h:l[i]?=some p):((l.take i).map g++l.drop i).set i (g p)=(l.take (i+1)).map g++l.drop (i+1):=by
 have hi:=(dP.mp h).1
 have e:((l.take i).map g).length=i:=by rw [aD,rQ];omega
 have ep:l[i]=p:=by rw [bq hi] at h;exact gq h
 rw [List.set_append_right _ _ (by omega),e,Nat.sub_self,List.drop_eq_getElem_cons hi,MB,take_snoc h,bL,MF]
 rfl
theorem o7 {α β:Type} (g:α->α) (f:α->β) (hf:∀x,f (g x)=f x) (l:List α) (i:Nat):((l.take i).map g++l.drop i).map f=l.map f:=by
 rw [bL,gy,show f ∘ g=f from funext hf,<-bL,List.take_append_drop]
theorem mU {ps ps':List Pt} (h:ps.map (·.nm)=ps'.map (·.nm)):cg ps qs=cg ps' qs:=by
 have:∀{ps:List Pt},cg ps qs=List.zipWith (fun (x:Str) q=>((Sum.inr x:Key),V.ref q.1)) (ps.map (·.nm)) qs:=fun {ps}=>by unfold cg;rw [List.zipWith_map_left]
 rw [this,this,h]
structure iY (p:Addr) (H:Hp) (ρ:eY) (H':Hp) (ρ':eY) (l:List (Addr×HO×qt)):Prop where
 m:∀e∈l,H' e.1=some e.2.1/\ρ' e.1=some e.2.2/\e.1≠p
 k:∀b o,H b=some o->b≠p->H' b=some o/\ρ' b=ρ b
 g:Gh ρ' H'
 pp:∃u,H' p=some u
theorem iY.new {p:Addr} {l:List (Addr×HO×qt)} {c:qt} (h:iY p H ρ H' ρ' l) (ha:H' a=none) (t:isTup o=false):iY p H ρ (upd H' a o) (cN ρ' a c) ((a,o,c)::l):=by
 obtain ⟨u,hu⟩:=h.pp
 refine ⟨fun e he=>?_,fun b w hb hp=>?_,(h.g.alloc ha).color ai t,u,by rw [ay (aE hu ha)];exact hu⟩
 . rcases c9.mp he with rfl|he
   . exact ⟨ai,di,fun z=>by rw [show a=p from z,hu] at ha;cases ha⟩
   . obtain ⟨x,y,z⟩:=h.m e he
     have:e.1≠a:=aE x ha
     rw [ay this,cC this]
     exact ⟨x,y,z⟩
 . obtain ⟨x,y⟩:=h.k b w hb hp
   have:b≠a:=aE x ha
   rw [ay this,cC this]
   exact ⟨x,y⟩
theorem iY.wr {p:Addr} {l:List (Addr×HO×qt)} {u:HO} (h:iY p H ρ H' ρ' l) (t:isTup u=false):iY p H ρ (upd H' p u) ρ' l:=by
 refine ⟨fun e he=>?_,fun b w hb hp=>?_,h.g.wr t,u,ai⟩
 . obtain ⟨x,y,z⟩:=h.m e he
   rw [ay z];exact ⟨x,y,z⟩
 . obtain ⟨x,y⟩:=h.k b w hb hp
   rw [ay hp];exact ⟨x,y⟩
theorem iY.same {p:Addr} {BB:Hp} {l:List (Addr×HO×qt)} (h:iY p H ρ H' ρ' l) (s:aQ H' BB):iY p H ρ BB ρ' l:=by
 obtain ⟨u,hu⟩:=h.pp
 exact ⟨fun e he=>let ⟨x,y,z⟩:=h.m e he;⟨s _ _ x,y,z⟩,fun b w hb hp=>let ⟨x,y⟩:=h.k b w hb hp;⟨s _ _ x,y⟩,h.g.same s,u,s _ _ hu⟩
theorem iY.add {p:Addr} {H0:Hp} {ρ0:eY} {l l0:List (Addr×HO×qt)} {c:qt} (h:iY p H ρ H' ρ' l) (ha:H' a=some o) (t:isTup o=false) (h0:iY p H ρ H0 ρ0 l0) (hn:H0 a=none) (hl:∀e∈l,e.1≠a):iY p H ρ H' (cN ρ' a c) ((a,o,c)::l):=by
 refine ⟨fun e he=>?_,fun b w hb hp=>?_,h.g.color ha t,h.pp⟩
 . rcases c9.mp he with rfl|he
   . obtain ⟨u,hu⟩:=h0.pp
     exact ⟨ha,di,fun z=>by rw [show a=p from z,hu] at hn;cases hn⟩
   . obtain ⟨x,y,z⟩:=h.m e he
     rw [cC (hl e he)]
     exact ⟨x,y,z⟩
 . obtain ⟨x,y⟩:=h.k b w hb hp
   obtain ⟨x0,_⟩:=h0.k b w hb hp
   rw [cC (aE x0 hn)]
   exact ⟨x,y⟩
theorem HE:∀(l:List Int) (a:Int),l.foldl (·*·) a=a*l.foldl (·*·) 1
 | [],a=>by simp
 | s::l,a=>by
   rw [jW,HE l (a*s),jW,HE l (1*s),Int.one_mul,jg]
theorem CW (s:Int) (l:List Int):(s::l).foldl (·*·) 1=s*l.foldl (·*·) 1:=by rw [jW,HE,Int.one_mul]
theorem UE (s:Int) (l:List Int):(l++[s]).foldl (·*·) 1=l.foldl (·*·) 1*s:=by rw [Gr];rfl
theorem HF:∀{l:List Int},(∀s∈l,2<=s)->1<=l.foldl (·*·) 1
 | [],_=>by decide
 | s::l,h=>by
   rw [CW]
   have h1:=h s cV
   have h2:=HF (l:=l) fun x hx=>h x (cD _ hx)
   have:=Int.mul_le_mul (a:=1) (b:=1) (c:=s) (d:=l.foldl (·*·) 1) (by omega) h2 (by decide) (by omega)
   omega
theorem S4:∀{l:List Int} {s:Int},(∀s∈l,2<=s)->s∈l->s<=l.foldl (·*·) 1
 | [],_,_,h=>by simp at h
 | a::l,s,h,m=>by
   rw [CW]
   have h1:=h a cV
   have h2:=HF (l:=l) fun x hx=>h x (cD _ hx)
   rcases c9.mp m with rfl|m
   . have:=Ge h2 (by omega:0<=s)
     omega
   . have h3:=S4 (fun x hx=>h x (cD _ hx)) m
     have:=Int.mul_le_mul_of_nonneg_right (by omega:1<=a) (by omega:0<=l.foldl (·*·) 1)
     omega
theorem Pe {t d s:Int} (hd:0<d) (hs:0<s) (c:Jm.cf t d=1):Jm.cf (t / Jm.cf t s) (d*(s / Jm.cf t s))=1/\0<d*(s / Jm.cf t s):=by
 have gp:0<Jm.cf t s:=Jm.xD t s (.inr hs)
 obtain ⟨u,hu⟩:=Jm.uD t s
 obtain ⟨v,hv⟩:=Jm.nt t s
 generalize eg:Jm.cf t s=g at *
 have e1:t / g=u:=by rw [hu,CA _ (by omega)]
 have e2:s / g=v:=by rw [hv,CA _ (by omega)]
 have vp:0<v:=by
  rcases Int.lt_or_le 0 v with z|z
  . exact z
  . have:=Ge z (by omega:0<=g)
    omega
 rw [e1,e2]
 have c0:Nat.Coprime t.natAbs d.natAbs:=by unfold Jm.cf at c;exact_mod_cast c
 have c1:Nat.Coprime u.natAbs d.natAbs:=Nat.Coprime.coprime_dvd_left ⟨g.natAbs,by rw [hu,AA,Nat.mul_comm]⟩ c0
 have c2:Nat.Coprime u.natAbs v.natAbs:=by
  have hg:Int.gcd t s=g.natAbs:=by unfold Jm.cf at eg;omega
  have hg2:Nat.gcd t.natAbs s.natAbs=g.natAbs:=hg
  have:=Nat.coprime_div_gcd_div_gcd (m:=t.natAbs) (n:=s.natAbs) (by rw [hg2];omega)
  rw [hg2] at this
  have gn:0<g.natAbs:=by omega
  rw [hu,hv,AA,AA,Nat.mul_div_cancel_left _ gn,Nat.mul_div_cancel_left _ gn] at this
  exact this
 refine ⟨?_,Int.mul_pos hd vp⟩
 have:=Nat.Coprime.mul_right c1 c2
 rw [<-AA] at this
 unfold Jm.cf
 exact_mod_cast this
theorem RC {κ:Type} [DecidableEq κ] {kvs:List (κ×V)} {k:κ} {v:V} (h:dh kvs k=some v):(k,v)∈kvs:=by
 unfold dh at h
 obtain ⟨p,hp,rfl⟩:=jx.mp h
 have:=List.find?_some hp
 have e:p.1=k:=aX this
 rw [<-e]
 exact List.mem_of_find?_eq_some hp
theorem aL.RD {n:Nat} {st:HS} (h:aL T n ρ A H st) (k:∀b o,H b=some o->b≠A.kn->H' b=some o) (e1:H' A.kn=some (.dK kvs)) (e2:Hj H' kvs st.prod) (e3:kvs.length<=m) (e4:(kvs.map (·.1)).Nodup):aL T n ρ A H' { st with kn:=m }:=by
 obtain ⟨kv0,k0,_⟩:=h.okn
 have z:=fun {b:Addr} {t:Nat} {x:Str} {o:HO} (u:t≠9) (c:ρ b=some (n,t,x)) (e:H b=some o)=>k b o e (Bs c h.iC (fun w=>by cases w;exact u rfl))
 have tp:∀b xs,H b=some (.tup xs)->H' b=some (.tup xs):=fun b xs e=>k b _ e (gO e k0 (by intro w;cases w))
 obtain ⟨vs,h1,h2⟩:=h.oK
 have kp:Kp n ρ ρ H H' fun t=>decide (t≠9):=⟨tp,fun b t x o u c e=>⟨z (aX u) c e,c⟩⟩
 exact ⟨z (by decide) h.ca h.oa,h.ca,z (by decide) h.gU h.gT,h.gU,z (by decide) h.fK h.dN,h.fK,⟨vs,z (by decide) h.iw h1,h2.keep kp (by decide)⟩,h.iw,z (by decide) h.iy h.qu,h.iy,z (by decide) h.iA h.iz,h.iA,z (by decide) h.iX h.iN,h.iX,z (by decide) h.cpu h.jL,h.cpu,z (by decide) h.iB h.lH,h.iB,⟨kvs,e1,e2,e3,e4⟩,h.iC,h.ql,
  fun i p q a b=>let ⟨x,y,c,d⟩:=h.opt i p q a b;⟨z (by decide) c x,z (by decide) d y,c,d⟩⟩
theorem Zo {st:HS} (w:Wf st) (h:m<=1000000):Wf { st with kn:=m }:=⟨w.nC,w.vS,w.c6,w.sub,w.rows,w.ow,w.fC,w.jC,w.dW,w.kP,w.oY,w.jD,w.vU,w.mj,w.xR,w.r8,h,w.big,w.mq,w.nD,w.lz,w.mw,w.jw,w.CS⟩
theorem j6.length {n:Nat} {l:List oJ} (h:j6 n ρ H vs l):vs.length=l.length:=by
 induction h with
 | nil=>rfl
 | cons _ _ _ _ _ ih=>simp [ih]
theorem j6.get {n:Nat} {l:List oJ} (h:j6 n ρ H vs l):∀{i:Nat} {x:V},vs[i]?=some x->∃r q y ss,x = .ref r/\l[i]?=some y/\H r=some (.tup [.str y.nm, .str y.ow, .int y.wo, .ref q])/\H q=some (.lst ss)/\ρ q=some (n,30,⟨#[]⟩)/\mh H ss y.sh:=by
 induction h with
 | nil=>intro i x e;simp at e
 | @cons r q y ss vs as a b c d _ ih=>
   intro i x e
   cases i with
   | zero=>simp at e;subst e;exact ⟨r,q,y,ss,Z,Z,a,b,c,d⟩
   | succ i=>simp at e;obtain ⟨r',q',y',ss',e1,e2,e3⟩:=ih e;exact ⟨r',q',y',ss',e1,by simpa using e2,e3⟩
def Sq (K:Fg) (H:Hp) (r:Addr) (xs:List V):Prop:=aH K H r xs\/cQ K H r xs
theorem aQ.sq {r:Addr} (g:aQ H H') (h:Sq K H r xs):Sq K H' r xs:=h.elim (fun z=> .inl (g.seq z)) fun z=> .inr (g.tup z)
structure sj (K:Fg) (H:Hp) (us:List V) (ps:List Pt):Prop where
 len:us.length=ps.length
 at_:∀(i:Nat) (p:Pt),ps[i]?=some p->∃r xs,us[i]?=some (.ref r)/\Sq K H r xs/\xs[0]?=some (.str p.nm)/\xs[1]?=some (.str p.ow)/\xs[2]?=some (.int p.wo)/\xs[3]?=some (.int p.we)
theorem sj.mono {us:List V} {ps:List Pt} (h:sj K H us ps) (g:aQ H H'):sj K H' us ps:=⟨h.len,fun i p e=>let ⟨r,xs,a,b,c⟩:=h.at_ i p e;⟨r,xs,a,g.sq b,c⟩⟩
def Pf (own:List Str) (tops:List Int) (b:Int):List (Str×Rat):=(List.zip own tops).filterMap fun x=>if 0<x.2 then some (x.1,Jm.fr x.2 b) else none
def RE (x:Str):Prop:=ny x.cps.toList
theorem Np:∀i:Fin 26,D0 "abcdefghijklmnopqrstuvwxyz" (97+i.val)=true:=by decide +kernel
theorem RE.isNm (h:RE x):L2.isNm x=true:=by
 unfold L2.isNm isName
 have h1:=h.lo
 have h2:=h.hi
 refine lZ.mpr ⟨lZ.mpr ⟨aY (by omega),aY (by omega)⟩,uz.mpr fun c hc=>?_⟩
 have h3:=h.Uv c hc
 have:=Np ⟨c-97,by omega⟩
 rw [show 97+(c-97)=c from by omega] at this
 exact this
theorem t_:∀(l:List Str) (st:HS),(l.foldl f7 st).own=st.own++l
 | [],st=>by simp
 | o::l,st=>by
   rw [jW,t_ l]
   show (st.own++[o])++l=_
   rw [MF]
   rfl
theorem gD (K:Fg) (hK:X.K=K:=by rfl):wW X (V7 K):=hK▸V8
theorem Sq.ix {r:Addr} {v:V} {Q:VK} (h:Sq K H r xs) (e:xs[i]?=some v) (q:Q v H):V7 K (.ref r) (.int (i:Int)) H Q:=by
 rcases h with h|h
 . exact .inl ⟨r,xs,i,v,Z,Z,h,au e,q⟩
 . exact .inr (.inl ⟨r,xs,i,v,Z,Z,h,au e,q⟩)
def BC (nss:List (List Nat)):List Str:=nss.map tx
theorem UG (nss:List (List Nat)):qp nss=(BC nss).map V.str:=by unfold qp BC;rw [gy];rfl
theorem Ea (h:nss.Nodup):(BC nss).Nodup:=by
 unfold BC
 exact List.Pairwise.map tx (fun a b hab e=>hab (O1 e)) h
theorem Pg (h:∀x∈nss,ny x):∀o∈BC nss,RE o:=fun o ho=>by
 obtain ⟨x,hx,rfl⟩:=bK.mp ho
 show ny (tx x).cps.toList
 rw [show (tx x).cps.toList=x from by simp]
 exact h x hx
theorem LJ (nss:List (List Nat)):(BC nss).length=nss.length:=by unfold BC;rw [aD]
theorem RG (x:Str) (l:List Str):DV (.str x) (l.map V.str)=decide (x∈l):=by
 have:=Ly x.cps.toList (l.map fun y=>y.cps.toList)
 rw [Hf] at this
 rw [show qp (l.map fun y=>y.cps.toList)=l.map V.str from by unfold qp;rw [gy];congr 1;] at this
 rw [this]
 congr 1
 refine propext ⟨fun m=>?_,fun m=>bK.mpr ⟨x,m,Z⟩⟩
 obtain ⟨y,hy,e⟩:=bK.mp m
 have:tx y.cps.toList=tx x.cps.toList:=by rw [e]
 rw [Hf,Hf] at this
 rw [<-this];exact hy
theorem xT (l:List Str):(l.map V.str).all pY=true:=by
 rw [List.all_map]
 exact uz.mpr fun _ _=>rfl
theorem HG {l:List Str} {d:Int} (h0:0<=d) (h1:d<(l.length:Int)):∃(j:Nat) (o:Str),d=(j:Int)/\l[j]?=some o/\qj (l.map V.str) d=some (.str o):=by
 obtain ⟨j,rfl⟩:∃j:Nat,d=(j:Int):=⟨d.toNat,by omega⟩
 have hj:j<l.length:=by omega
 exact ⟨j,l[j],Z,bq hj,au (by rw [bN,bq hj];rfl)⟩
section
variable {T:TC} {n:Nat} {L H:Hp} {x lp:Addr} {st:HS} {ps:List Pt}
end
theorem o_ {α:Type} {l:List α} (nd:l.Nodup) {x:α} (h:l[i]?=some x):x∉l.take i:=fun m=>by
 have h2:(l.take (i+1)).Nodup:=nd.sublist (List.take_sublist _ _)
 rw [take_snoc h] at h2
 exact (List.nodup_append.mp h2).2.2 x m x (fN.mpr rfl) rfl
abbrev Row:=Str×Int
def vW (r:Row):HO:= .tup [.str r.1, .int r.2]
inductive fF (H:Hp):List V->List Row->Prop
 | nil:fF H [] []
 | cons {a:Addr} {r:Row} {vs:List V} {rs:List Row}:H a=some (vW r)->fF H vs rs->fF H (.ref a::vs) (r::rs)
theorem fF.mono {l:List Row} (h:fF H vs l) (g:∀b xs,H b=some (.tup xs)->H' b=some (.tup xs)):fF H' vs l:=by
 induction h with
 | nil=>exact .nil
 | cons a _ ih=>exact .cons (g _ _ a) ih
theorem fF.length {l:List Row} (h:fF H vs l):vs.length=l.length:=by
 induction h with
 | nil=>rfl
 | cons _ _ ih=>simp [ih]
theorem fF.get {l:List Row} (h:fF H vs l):∀{i:Nat} {x:V},vs[i]?=some x->∃a r,x = .ref a/\l[i]?=some r/\H a=some (vW r):=by
 induction h with
 | nil=>intro i x e;simp at e
 | @cons a r vs rs e0 _ ih=>
   intro i x e
   cases i with
   | zero=>simp at e;subst e;exact ⟨a,r,Z,Z,e0⟩
   | succ i=>simp at e;obtain ⟨a',r',e1,e2,e3⟩:=ih e;exact ⟨a',r',e1,by simpa using e2,e3⟩
variable {r:Row}
theorem fF.snoc {l:List Row} (h:fF H vs l) (e:H a=some (vW r)):fF H (vs++[.ref a]) (l++[r]):=by
 induction h with
 | nil=>exact .cons e .nil
 | cons a _ ih=>exact .cons a ih
def gu (rs:List Row):List (Key×V):=rs.map fun r=>((Sum.inr r.1:Key),V.int r.2)
theorem vX (rs:List Row):(gu rs).length=rs.length:=by unfold gu;rw [aD]
variable {rs:List Row}
theorem Eb (h:x∉rs.map (·.1)):dh (gu rs) (Sum.inr x)=none:=by
 unfold gu
 induction rs with
 | nil=>rfl
 | cons a l ih=>
   rw [bJ,d7 (fun z=>h (by rw [bJ,<-pV z];exact cV))]
   exact ih fun m=>h (by rw [bJ];exact cD _ m)
def bD (rs:List Row):Int:=(rs.map (·.2)).sum
def cE (st:HS) (x:Str):Pt:=(st.ak.find? fun p=>decide (p.nm=x)).getD ⟨x,x,0,0,1,[]⟩
theorem LK {st:HS} (nd:(st.ak.map (·.nm)).Nodup) (h:st.ak[i]?=some p):cE st p.nm=p:=by
 unfold cE
 have:st.ak.find? (fun q=>decide (q.nm=p.nm))=some p:=by
  generalize st.ak=ps at *
  induction ps generalizing i with
  | nil=>simp at h
  | cons a ps ih=>
    obtain ⟨h1,h2⟩:=fO.mp (show (a.nm::ps.map (·.nm)).Nodup from nd)
    cases i with
    | zero=>
      have:a=p:=by simpa using h
      subst this
      rw [rj,aY rfl]
    | succ i=>
      have h':ps[i]?=some p:=by simpa using h
      rw [rj,dR (fun e=>h1 (bK.mpr ⟨p,bO h',e.symm⟩))]
      exact ih h2 h'
 rw [this]
 rfl
def jc (st:HS) (sums:List Int) (r:Row):List Int:=List.zipWith (fun old own=>old+(r.2*(cE st r.1).sc)*own) sums (cE st r.1).row
def jM (st:HS) (rs:List Row):List Int:=rs.foldl (jc st) (st.br.map fun c=>bD rs*c)
def nH (s:Int) (ts:List Int):Int:=ts.foldl (fun s t=>Jm.cf t s) s
def gX (st:HS) (kept:Int):List Int:=st.ak.map fun p=>p.sc*kept
def fk (st:HS) (kept:Int) (added:List Int):List Int:=List.zipWith (fun t m=>t*kept+m) st.br added
def cK (st:HS) (kept whole:Int) (added:List Int):Int:=nH whole (gX st kept++fk st kept added)
def eV (st:HS) (s:Int):HS:=if 1<s then { st with stp:=st.stp++[s],prod:=st.prod*s,kn:=0 } else st
def bh (st:HS) (kept whole:Int) (added:List Int):HS:=
 eV { st with ak:=st.ak.map (fun p=>{ p with sc:=p.sc*kept / cK st kept whole added }),br:=(fk st kept added).map (· / cK st kept whole added),bH:=st.bH.map (·*(whole / cK st kept whole added)) } (whole / cK st kept whole added)
def j7 (ps:List Pt) (x:Str) (a:Int):List Pt:=(ps.map fun p=>if p.nm=x then { p with wo:=p.wo-a } else p).filter fun p=>decide (p.wo≠0)
def dX (st:HS) (r:Row):HS:={ st with ak:=j7 st.ak r.1 r.2 }
def iL (st:HS) (rs:List Row):HS:=rs.foldl dX (bh st (aM st-bD rs) (aM st) (jM st rs))
inductive acw (vs:List V) (H:Hp) (Q:VK) (E:XK):Prop
 | mk (a:Int) (_:vs=[.int a]) (_:1<=a) (_:Q .bU H)
def Zp:Sp:=bx (acw)
inductive acy (vs:List V) (H:Hp) (Q:VK) (E:XK):Prop
 | mk (m a:Int) (_:vs=[.int m, .int a]) (_:1<=a) (_:a<=m) (_:Q .bU H)
def S7:Sp:=bx (acy)
inductive Zq (K:Fg) (vs:List V) (H:Hp) (Q:VK) (E:XK):Prop
 | mk (l:Addr) (us:List V) (rs:List Row) (_:vs=[.ref l]) (_:aH K H l us) (_:fF H us rs) (_:(rs.map (·.1)).Nodup) (_:rs≠[]) (_:rs.length<=1000) (_:∀d H',aQ H H'->H d=none->H' d=some (.dK (gu rs))->Q (.ref d) H')
def Ph (K:Fg):Sp:=bx (Zq K)
inductive Zr (K:Fg) (vs:List V) (H:Hp) (Q:VK) (E:XK):Prop
 | mk (s:Int) (l:Addr) (ts:List Int) (_:vs=[.int s, .ref l]) (_:aH K H l (ts.map V.int)) (_:0<=s) (_:(∀t∈ts,0<=t)) (_:Q (.int (nH s ts)) H)
def Pj (K:Fg):Sp:=bx (Zr K)
inductive Zs (T:TC) (vs:List V) (H:Hp) (Q:VK) (E:XK):Prop
 | mk (n ρ A st s:_) (_:vs=[.ref A.bt, .int s]) (_:Gh ρ H) (_:aL T n ρ A H st) (_:st.stp.length<=1000) (_:Jm.Sz 9000 st.prod) (_:Jm.Sz 9000 s) (_:∀ρ' A' H',Gh ρ' H'->aL T n ρ' A' H' (eV st s:_)->A'.a=A.a->Fr n ρ H ρ' H'->Q .bU H')
def Pk (T:TC):Sp:=bx (Zs T)
inductive W0 (T:TC) (vs:List V) (H:Hp) (Q:VK) (E:XK):Prop
 | mk (n ρ A st:_) (d:Addr) (rs:List Row) (_:vs=[.ref A.a, .ref d]) (_:aL T n ρ A H st) (_:Wf st) (_:H d=some (.dK (gu rs))) (_:ρ d=none) (_:rs.length<=1000) (_:(∀r∈rs,Jm.Sz 60 r.2/\∃p∈st.ak,p.nm=r.1)) (_:∀l H',aQ H H'->H l=none->H' l=some (.lst ((jM st rs).map V.int))->Q (.ref l) H')
def LL (T:TC):Sp:=bx (W0 T)
inductive W2 (T:TC) (K:Fg) (vs:List V) (H:Hp) (Q:VK) (E:XK):Prop
 | mk (n ρ A st:_) (kept whole:Int) (l:Addr) (added:List Int) (_:vs=[.ref A.a, .int kept, .int whole, .ref l]) (_:HH T n ρ A H st) (_:aH K H l (added.map V.int)) (_:added.length=st.br.length) (_:0<kept) (_:0<whole) (_:Jm.Sz 60 kept) (_:Jm.Sz 60 whole) (_:(∀m∈added,0<=m/\Jm.Sz 8900 m)) (_:(∀u∈st.bH,Jm.Sz 8900 u)) (_:st.stp.length<100) (_:Wf (bh st kept whole added)) (_:t9 T n ρ A H (bh st kept whole added:_) fun H'=>Q .bU H')
def CY (T:TC) (K:Fg):Sp:=bx (W2 T K)
inductive Zt (T:TC) (vs:List V) (H:Hp) (Q:VK) (E:XK):Prop
 | mk (n ρ A st:_) (r:Row) (_:vs=[.ref A.a, .str r.1, .int r.2]) (_:HH T n ρ A H st) (_:(∃p∈st.ak,p.nm=r.1/\r.2<=p.wo)) (_:Wf (dX st r)) (_:t9 T n ρ A H (dX st r:_) fun H'=>Q .bU H')
def HJ (T:TC):Sp:=bx (Zt T)
structure sr (st:HS) (rs:List Row):Prop where
 nd:(rs.map (·.1)).Nodup
 ne:rs≠[]
 len:rs.length<=1000
 row:∀r∈rs,1<=r.2/\Jm.Sz 60 r.2/\∃p∈st.ak,p.nm=r.1/\r.2<=p.wo
 lost:bD rs<aM st
 big:Jm.Sz 60 (aM st)
 prod:Jm.Sz 7900 st.prod
 bH:∀u∈st.bH,Jm.Sz 8900 u
 stp:st.stp.length<100
inductive Zu (T:TC) (K:Fg) (vs:List V) (H:Hp) (Q:VK) (E:XK):Prop
 | mk (n ρ A st:_) (l:Addr) (us:List V) (rs:List Row) (_:vs=[.ref A.a, .ref l]) (_:HH T n ρ A H st) (_:aH K H l us) (_:fF H us rs) (_:sr st rs) (_:t9 T n ρ A H (iL st rs:_) fun H'=>Q .bU H')
def Pn (T:TC) (K:Fg):Sp:=bx (Zu T K)
theorem zW:∀{ps:List Pt} {qs:List (Addr×Addr×Addr)} {i:Nat} {p:Pt},(ps.map (·.nm)).Nodup->qs.length=ps.length->ps[i]?=some p->kM (cg ps qs) (Sum.inr p.nm)=cg (ps.eraseIdx i) (qs.eraseIdx i)
 | [],_,_,_,_,_,h=>by simp at h
 | _::_,[],_,_,_,hl,_=>by simp at hl
 | a::ps,b::qs,0,p,nd,hl,h=>by
   have e:a=p:=by simpa using h
   subst e
   obtain ⟨h1,h2⟩:=fO.mp (show (a.nm::ps.map (·.nm)).Nodup from nd)
   show kM ((Sum.inr a.nm,V.ref b.1)::cg ps qs) (Sum.inr a.nm)=cg ps qs
   unfold kM
   rw [fY,aA (by simp)]
   refine CG.mpr fun kv hkv=>?_
   unfold cg at hkv
   obtain ⟨x,hx,y,hy,rfl⟩:=sf hkv
   exact aY fun z=>h1 (bK.mpr ⟨x,hx,pV z⟩)
 | a::ps,b::qs,i+1,p,nd,hl,h=>by
   obtain ⟨h1,h2⟩:=fO.mp (show (a.nm::ps.map (·.nm)).Nodup from nd)
   have h':ps[i]?=some p:=by simpa using h
   have ih:=zW h2 (by simpa using hl) h'
   show kM ((Sum.inr a.nm,V.ref b.1)::cg ps qs) (Sum.inr p.nm)=(Sum.inr a.nm,V.ref b.1)::cg (ps.eraseIdx i) (qs.eraseIdx i)
   rw [<-ih]
   unfold kM
   have hne:¬ (Sum.inr a.nm:Key)=Sum.inr p.nm:=fun z=>h1 (bK.mpr ⟨p,bO h',(pV z).symm⟩)
   rw [fY,aB (by simpa using fun e:a.nm=p.nm=>hne (by rw [e]))]
theorem zX:∀{ps:List Pt} {i:Nat} {p:Pt} {a:Int},(ps.map (·.nm)).Nodup->(∀q∈ps,q.wo≠0)->ps[i]?=some p->j7 ps p.nm a=if p.wo-a=0 then ps.eraseIdx i else ps.set i { p with wo:=p.wo-a }
 | [],_,_,_,_,_,h=>by simp at h
 | x::ps,0,p,a,nd,hw,h=>by
   have e:x=p:=by simpa using h
   subst e
   obtain ⟨h1,h2⟩:=fO.mp (show (x.nm::ps.map (·.nm)).Nodup from nd)
   have rest:j7 ps x.nm a=ps:=by
    unfold j7
    rw [show (ps.map fun p=>if p.nm=x.nm then { p with wo:=p.wo-a } else p)=ps from by
     conv=>rhs;rw [<-List.map_id ps]
     exact vz fun y hy=>aA fun z=>h1 (bK.mpr ⟨y,hy,z⟩)]
    exact CG.mpr fun y hy=>aY (hw y (cD _ hy))
   show ((x::ps).map fun p=>if p.nm=x.nm then { p with wo:=p.wo-a } else p).filter _=_
   rw [bJ,aB rfl,fY]
   by_cases c:x.wo-a=0
   . rw [aB c,aA (by simp [c])]
     exact rest
   . rw [aA c,aB (by simpa using c)]
     show _::j7 ps x.nm a=_
     rw [rest]
     rfl
 | x::ps,i+1,p,a,nd,hw,h=>by
   obtain ⟨h1,h2⟩:=fO.mp (show (x.nm::ps.map (·.nm)).Nodup from nd)
   have h':ps[i]?=some p:=by simpa using h
   have ih:=zX (a:=a) h2 (fun q hq=>hw q (cD _ hq)) h'
   have xn:¬ x.nm=p.nm:=fun z=>h1 (bK.mpr ⟨p,bO h',z.symm⟩)
   show ((x::ps).map fun q=>if q.nm=p.nm then { q with wo:=q.wo-a } else q).filter _=_
   rw [bJ,aA xn,fY,aB (aY (hw x cV))]
   show x::j7 ps p.nm a=_
   rw [ih]
   by_cases c:p.wo-a=0
   . rw [aB c,aB c];rfl
   . rw [aA c,aA c];rfl
theorem qx {α:Type}:∀{l:List α} {i:Nat} {x:α},l[i]?=some x->l.set i x=l
 | [],_,_,h=>by simp at h
 | a::l,0,x,h=>by
   have:a=x:=by simpa using h
   rw [this];rfl
 | a::l,i+1,x,h=>by rw [Gn,qx (by simpa using h)]
theorem xU {α β:Type} {l:List α} {m:List β} {x:α} {y:β} (h1:(l.eraseIdx i)[j]?=some x) (h2:(m.eraseIdx i)[j]?=some y):∃k:Nat,l[k]?=some x/\m[k]?=some y:=by
 rw [List.getElem?_eraseIdx] at h1 h2
 by_cases c:j<i
 . rw [aB c] at h1 h2;exact ⟨j,h1,h2⟩
 . rw [aA c] at h1 h2;exact ⟨j+1,h1,h2⟩
theorem xV:∀(ts:List Int) (s:Int),nH s ts∣s/\∀t∈ts,nH s ts∣t
 | [],s=>⟨Int.dvd_refl _,fun _ h=>absurd h (by simp)⟩
 | t::ts,s=>by
   obtain ⟨h1,h2⟩:=xV ts (Jm.cf t s)
   refine ⟨Int.dvd_trans h1 (Jm.nt t s),fun u hu=>?_⟩
   rcases c9.mp hu with rfl|hu
   . exact Int.dvd_trans h1 (Jm.uD u s)
   . exact h2 u hu
theorem xW:∀(ts:List Int) (s:Int),0<s->0<nH s ts
 | [],_,h=>h
 | t::ts,s,h=>xW ts _ (Jm.xD t s (.inr h))
theorem xX {n:Nat} {st:HS} (h:aL T n ρ A H st) (g:Gh ρ H) (c:ρ a=none) (e:H a=some o) (ht:isTup o=false):
  aL T n (cN ρ a (n,t,⟨#[]⟩)) A H st/\Gh (cN ρ a (n,t,⟨#[]⟩)) H:=
 ⟨h.same ⟨fun _ _ e=>e,fun b u x w _ hc he=>⟨he,by rw [cC (fun z=>by rw [z,c] at hc;cases hc)];exact hc⟩⟩,g.color e ht⟩
theorem Fr.mz {n:Nat} (f:Fr n ρ H ρ' H') (h:H a=none):Fr n ρ H (cN ρ' a (n,t,x)) H':=fun b o e k=>by
 obtain ⟨e1,e2⟩:=f b o e k
 exact ⟨e1,by rw [cC (aE e h)];exact e2⟩
theorem Ed {d a b:Int} (hd:0<d) (h:a<=d*b):a / d<=b:=by
 have:=Int.ediv_le_ediv hd h
 rwa [CA _ (by omega)] at this
theorem BD {st:HS} {s:Int} (h:1<=s):(eV st s).prod=st.prod*s:=by
 unfold eV
 by_cases c:1<s
 . rw [aB c]
 . rw [aA c,show s=1 by omega,vE]
theorem mV (st:HS) (s:Int):(eV st s).ak=st.ak:=by unfold eV;split <;> rfl
theorem Ef (st:HS) (s:Int):(eV st s).br=st.br:=by unfold eV;split <;> rfl
theorem Eg (st:HS) (s:Int):(eV st s).bH=st.bH:=by unfold eV;split <;> rfl
theorem qy (st:HS) (s:Int):(eV st s).own=st.own:=by unfold eV;split <;> rfl
theorem ua (st:HS) (s:Int):(eV st s).nms=st.nms:=by unfold eV;split <;> rfl
theorem qz (st:HS) (s:Int):(eV st s).dj=st.dj:=by unfold eV;split <;> rfl
theorem uc {α β γ:Type} {f:α->β->γ} {t:γ}:∀{xs:List α} {ys:List β},t∈List.zipWith f xs ys->∃(i:Nat) (x:α) (y:β),xs[i]?=some x/\ys[i]?=some y/\t=f x y:=fun {xs ys} h=>by
 obtain ⟨i,hi,e⟩:=xr h
 rw [kh] at hi
 have h1:i<xs.length:=by omega
 have h2:i<ys.length:=by omega
 exact ⟨i,xs[i],ys[i],bq h1,bq h2,by rw [<-e,List.getElem_zipWith]⟩
theorem UH {α β γ:Type} {f:α->β->γ} {xs:List α} {ys:List β} {x:α} {y:β} (h1:xs[i]?=some x) (h2:ys[i]?=some y):(List.zipWith f xs ys)[i]?=some (f x y):=by
 rw [Mw,h1,h2]
theorem zY {a b c:Int} (h:a<=b) (hc:0<=c):a*c<=b*c:=Int.mul_le_mul_of_nonneg_right h hc
structure pe (st:HS) (kept whole lost:Int) (added:List Int):Prop where
 k:0<kept
 l:0<=lost
 w:whole=kept+lost
 len:added.length=st.br.length
 add:∀m∈added,0<=m/\m<=lost*st.prod
 prod:Jm.Sz 7900 st.prod
 big:Jm.Sz 60 whole
 bH:∀u∈st.bH,Jm.Sz 8900 u
 stp:st.stp.length<100
variable {lost:Int} {added:List Int}
theorem pe.dvds {st:HS} {kept whole:Int} (b:pe st kept whole lost added):
  0<cK st kept whole added/\cK st kept whole added∣whole/\(∀p∈st.ak,cK st kept whole added∣p.sc*kept)/\∀c∈fk st kept added,cK st kept whole added∣c:=by
 have hw:0<whole:=by have:=b.k;have:=b.l;have:=b.w;omega
 have d:=xV (gX st kept++fk st kept added) whole
 exact ⟨xW _ _ hw,d.1,fun p hp=>d.2 _ (zM _ (bK.mpr ⟨p,hp,Z⟩)),fun c hc=>d.2 _ (ja _ hc)⟩
theorem vY {st:HS} {kept whole:Int} (wf:Wf st) (b:pe st kept whole lost added):Wf (bh st kept whole added):=by
 obtain ⟨hs,hsw,nq,hsc⟩:=b.dvds
 have hk:=b.k
 have hl:=b.l
 have hw:=b.w
 have p1:=wf.dW
 have eB:bh st kept whole added=eV { st with ak:=st.ak.map (fun p=>{ p with sc:=p.sc*kept / cK st kept whole added }),br:=(fk st kept added).map (· / cK st kept whole added),bH:=st.bH.map (·*(whole / cK st kept whole added)) } (whole / cK st kept whole added):=rfl
 rw [eB]
 generalize cK st kept whole added=d at *
 obtain ⟨s,es⟩:=hsw
 have hs1:1<=s:=by
  rcases Int.lt_trichotomy s 0 with z|z|z
  . have:=Int.mul_neg_of_pos_of_neg hs z;omega
  . rw [z,Int.mul_zero] at es;omega
  . omega
 have ed:whole / d=s:=by rw [es,CA _ (by omega)]
 rw [ed]
 have afe:s<=whole:=by rw [es];have:=Int.mul_le_mul_of_nonneg_right (show 1<=d by omega) (show 0<=s by omega);omega
 have zs:Jm.Sz 60 s:=b.big.of_le (by omega)
 have zp:Jm.Sz 8000 (st.prod*s):=(b.prod.mul zs).mono (by decide)
 have pp:st.prod<=st.prod*s:=by have:=Ge hs1 (show 0<=st.prod by omega);omega
 have RH:∀c∈(fk st kept added).map (· / d),0<=c/\c<=st.prod*s:=fun c hc=>by
  obtain ⟨x,hx,rfl⟩:=bK.mp hc
  obtain ⟨i,t,m,et,em,rfl⟩:=uc (show x∈List.zipWith (fun t m=>t*kept+m) st.br added from hx)
  have ht:=wf.mq t (bO et)
  have hm:=b.add m (bO em)
  have a1:0<=t*kept:=m9 ht.1 (by omega)
  have a2:t*kept<=st.prod*kept:=zY ht.2 (by omega)
  have a3:st.prod*kept+lost*st.prod=d*(st.prod*s):=by
   rw [rm lost,<-tV,<-hw,es,<-jg,<-jg,rm st.prod d]
  exact ⟨Az (by omega) (by omega),Ed hs (by omega)⟩
 have sc':∀p∈st.ak,1<=p.sc*kept / d/\p.sc*kept / d<=st.prod*s/\d*(p.sc*kept / d)=p.sc*kept:=fun p hp=>by
  have h0:=wf.nD p hp
  obtain ⟨z,ez⟩:=nq p hp
  have a1:0<p.sc*kept:=Int.mul_pos (by omega) hk
  have ez':p.sc*kept / d=z:=by rw [ez,CA _ (by omega)]
  have hz:1<=z:=by
   rcases Int.lt_trichotomy z 0 with y|y|y
   . have:=Int.mul_neg_of_pos_of_neg hs y;omega
   . rw [y,Int.mul_zero] at ez;omega
   . omega
  have a2:p.sc*kept<=st.prod*kept:=zY h0.2 (by omega)
  have a3:st.prod*kept<=st.prod*whole:=Ge (by omega) (by omega)
  have a4:st.prod*whole=d*(st.prod*s):=by rw [es,<-jg,<-jg,rm st.prod d]
  refine ⟨by rw [ez'];exact hz,Ed hs (by omega),by rw [ez',ez]⟩
 have P:∀{M:Pt->Prop},(∀p∈st.ak,M { p with sc:=p.sc*kept / d })->∀p∈st.ak.map (fun p=>{ p with sc:=p.sc*kept / d }),M p:=fun h p hp=>by
  obtain ⟨x,hx,rfl⟩:=bK.mp hp
  exact h x hx
 have top':∀p∈st.ak,∀t∈List.zipWith (fun r c=>(p.sc*kept / d)*r+c) p.row ((fk st kept added).map (· / d)),0<=t/\t<=st.prod*s:=fun p hp t ht=>by
  obtain ⟨i,r,c,er,ec,rfl⟩:=uc ht
  rw [bN] at ec
  obtain ⟨x,ex,rfl⟩:=jx.mp ec
  obtain ⟨y,ey⟩:=hsc x (bO ex)
  have eyd:x / d=y:=by rw [ey,CA _ (by omega)]
  have ex':(List.zipWith (fun t m=>t*kept+m) st.br added)[i]?=some x:=ex
  rw [Mw] at ex'
  cases e1:st.br[i]? with
  | none=>rw [e1] at ex';simp at ex'
  | some t0=>
    cases e2:added[i]? with
    | none=>rw [e1,e2] at ex';simp at ex'
    | some m=>
      rw [e1,e2] at ex'
      have ex2:t0*kept+m=x:=by simpa using ex'
      have hm:=b.add m (bO e2)
      have hT:=wf.mw p hp (p.sc*r+t0) (bO (UH (f:=fun r c=>p.sc*r+c) er e1))
      have hz:=(sc' p hp).2.2
      have key:d*((p.sc*kept / d)*r+x / d)=(p.sc*r+t0)*kept+m:=by
       rw [tV,<-jg,hz,eyd,<-ey,<-ex2]
       rw [rB,jg,jg,rm kept r]
       omega
      have k1:0<=(p.sc*r+t0)*kept:=m9 hT.1 (by omega)
      have k2:(p.sc*r+t0)*kept<=st.prod*kept:=zY hT.2 (by omega)
      have a3:st.prod*kept+lost*st.prod=d*(st.prod*s):=by
       rw [rm lost,<-tV,<-hw,es,<-jg,<-jg,rm st.prod d]
      generalize (p.sc*kept / d)*r+x / d=W at *
      constructor
      . rcases Int.lt_or_le W 0 with z|z
        . have:=Int.mul_neg_of_pos_of_neg hs z;omega
        . exact z
      . have:d*W<=d*(st.prod*s):=by omega
        exact Int.le_of_mul_le_mul_left this hs
 have nm':(st.ak.map (fun p:Pt=>{ p with sc:=p.sc*kept / d })).map (fun p:Pt=>p.nm)=st.ak.map (fun p:Pt=>p.nm):=by rw [gy];rfl
 have e0:(fk st kept added).length=st.br.length:=by unfold fk;rw [kh,b.len];omega
 have pu':∀u∈st.bH.map (·*s),Jm.Sz 9000 u:=fun u hu=>by
  obtain ⟨x,hx,rfl⟩:=bK.mp hu
  exact ((b.bH x hx).mul zs).mono (by decide)
 have W3:∀p∈st.ak,∀r∈p.row,-(st.prod*s)<=r/\r<=st.prod*s:=fun p hp r hr=>by have:=wf.lz p hp r hr;omega
 unfold eV
 by_cases c:1<s
 . rw [aB c]
   refine ⟨wf.nC,wf.vS,by rw [nm'];exact wf.c6,P wf.sub,P wf.rows,P wf.ow,?_,?_,by show 1<=st.prod*s;omega,?_,fun x hx=>?_,wf.jD,wf.vU,?_,?_,wf.r8,gM _,zp,RH,P fun p hp=>⟨(sc' p hp).1,(sc' p hp).2.1⟩,P W3,P top',P wf.jw,pu'⟩
   . show (List.map _ (fk st kept added)).length=_
     rw [aD,e0,wf.fC]
   . show (List.map _ st.bH).length=_
     rw [aD,wf.jC]
   . show st.prod*s=(st.stp++[s]).foldl (·*·) 1
     rw [UE,<-wf.kP]
   . rcases fZ.mp (show x∈st.stp++[s] from hx) with z|z
     . exact wf.oY x z
     . rw [fN.mp z];omega
   . show (List.map _ st.ak).length<=1000
     rw [aD];exact wf.mj
   . show (st.stp++[s]).length<=100
     rw [dw];exact b.stp
 . rw [aA c]
   have e1:s=1:=by omega
   subst e1
   rw [vE] at RH sc' W3 top'
   refine ⟨wf.nC,wf.vS,by rw [nm'];exact wf.c6,P wf.sub,P wf.rows,P wf.ow,?_,?_,wf.dW,wf.kP,wf.oY,wf.jD,wf.vU,?_,wf.xR,wf.r8,wf.D9,wf.big,RH,P fun p hp=>⟨(sc' p hp).1,(sc' p hp).2.1⟩,P wf.lz,P fun p hp t ht=>?_,P wf.jw,pu'⟩
   . show (List.map _ (fk st kept added)).length=_
     rw [aD,e0,wf.fC]
   . show (List.map _ st.bH).length=_
     rw [aD,wf.jC]
   . show (List.map _ st.ak).length<=1000
     rw [aD];exact wf.mj
   . exact top' p hp t ht
def vZ (st:HS) (acc:List Int) (rs:List Row):List Int:=rs.foldl (fun s r=>List.zipWith (fun x t=>x+r.2*t) s (a_ st (cE st r.1))) acc
theorem Eh:∀(acc br row:List Int) (a sc L:Int),List.zipWith (fun old own=>old+(a*sc)*own) (List.zipWith (fun s c=>s+(a+L)*c) acc br) row=List.zipWith (fun s c=>s+L*c) (List.zipWith (fun x t=>x+a*t) acc (List.zipWith (fun r c=>sc*r+c) row br)) br
 | [],_,_,_,_,_=>by simp
 | _::_,[],_,_,_,_=>by simp
 | _::_,_::_,[],_,_,_=>by simp
 | x::acc,c::br,r::row,a,sc,L=>by
   simp only [CB]
   rw [Eh acc br row a sc L]
   congr 1
   grind
theorem HK {st:HS}:∀(rs:List Row) (acc:List Int),rs.foldl (jc st) (List.zipWith (fun s c=>s+bD rs*c) acc st.br)=List.zipWith (fun s c=>s+0*c) (vZ st acc rs) st.br
 | [],acc=>by show List.zipWith _ acc st.br=_;rfl
 | r::rs,acc=>by
   rw [jW]
   have e:jc st (List.zipWith (fun s c=>s+bD (r::rs)*c) acc st.br) r=List.zipWith (fun s c=>s+bD rs*c) (List.zipWith (fun x t=>x+r.2*t) acc (a_ st (cE st r.1))) st.br:=by
    unfold jc
    rw [show bD (r::rs)=r.2+bD rs from by unfold bD;rw [bJ,cL]]
    exact Eh acc st.br (cE st r.1).row r.2 (cE st r.1).sc (bD rs)
   rw [e,HK rs]
   rfl
theorem Ei:∀(l:List Int) (L:Int),List.zipWith (fun s c=>s+L*c) (List.replicate l.length 0) l=l.map fun c=>L*c
 | [],_=>rfl
 | x::l,L=>by
   rw [jy,zN,CB,Ei l L,AJ]
   rfl
theorem HL:∀(s l:List Int),s.length<=l.length->List.zipWith (fun s c=>s+0*c) s l=s
 | [],_,_=>by simp
 | _::_,[],h=>by simp at h
 | x::s,c::l,h=>by
   rw [CB,HL s l (by simpa using h),Int.zero_mul,Int.add_zero]
theorem xY {st:HS}:∀(rs:List Row) (acc:List Int),(∀r∈rs,(a_ st (cE st r.1)).length=acc.length)->(vZ st acc rs).length=acc.length
 | [],_,_=>rfl
 | r::rs,acc,h=>by
   have e:(List.zipWith (fun x t=>x+r.2*t) acc (a_ st (cE st r.1))).length=acc.length:=by rw [kh,h r cV];omega
   show (vZ st (List.zipWith (fun x t=>x+r.2*t) acc (a_ st (cE st r.1))) rs).length=_
   rw [xY rs _ (fun x hx=>by rw [e];exact h x (cD _ hx)),e]
theorem zH {st:HS} (hP:0<=st.prod):∀(rs:List Row) (acc:List Int) (B:Int),(∀r∈rs,0<=r.2/\∀t∈a_ st (cE st r.1),0<=t/\t<=st.prod)->(∀x∈acc,0<=x/\x<=B)->∀x∈vZ st acc rs,0<=x/\x<=B+bD rs*st.prod
 | [],acc,B,_,ha,x,hx=>by
   have:=ha x hx
   show 0<=x/\x<=B+0*st.prod
   omega
 | r::rs,acc,B,h,ha,x,hx=>by
   have hr:=h r cV
   have:=zH hP rs (List.zipWith (fun x t=>x+r.2*t) acc (a_ st (cE st r.1))) (B+r.2*st.prod) (fun y hy=>h y (cD _ hy)) (fun y hy=>by
    obtain ⟨i,a,t,ea,et,rfl⟩:=uc hy
    have h1:=ha a (bO ea)
    have h2:=hr.2 t (bO et)
    have h3:0<=r.2*t:=m9 hr.1 h2.1
    have h4:r.2*t<=r.2*st.prod:=Ge h2.2 hr.1
    omega) x hx
   rw [show bD (r::rs)=r.2+bD rs from by unfold bD;rw [bJ,cL],rB]
   omega
theorem v5 {st:HS} (wf:Wf st) (h:p∈st.ak):(a_ st p).length=st.br.length:=by
 unfold a_
 rw [kh,wf.rows p h,wf.fC]
 omega
theorem c8 {st:HS} (wf:Wf st) (h:p∈st.ak) (e:p.nm=x):cE st x=p:=by
 obtain ⟨i,hi,ei⟩:=xr h
 rw [<-e]
 exact LK wf.c6 (i:=i) (by rw [bq hi,ei])
theorem Ej {st:HS} (wf:Wf st) (h:∀r∈rs,∃p∈st.ak,p.nm=r.1):jM st rs=vZ st (List.replicate st.br.length 0) rs:=by
 unfold jM
 rw [<-Ei st.br (bD rs),HK]
 refine HL _ _ ?_
 rw [xY rs _ (fun r hr=>by
  obtain ⟨p,hp,e⟩:=h r hr
  rw [c8 wf hp e,m5,v5 wf hp]),m5]
 exact aN _
theorem Po {st:HS} (wf:Wf st) (h:∀r∈rs,1<=r.2/\∃p∈st.ak,p.nm=r.1):(jM st rs).length=st.br.length/\∀m∈jM st rs,0<=m/\m<=bD rs*st.prod:=by
 rw [Ej wf (fun r hr=>(h r hr).2)]
 have p1:=wf.dW
 constructor
 . rw [xY rs _ (fun r hr=>by
    obtain ⟨p,hp,e⟩:=(h r hr).2
    rw [c8 wf hp e,m5,v5 wf hp]),m5]
 . intro m hm
   have:=zH (st:=st) (by omega) rs (List.replicate st.br.length 0) 0 (fun r hr=>by
    obtain ⟨h1,p,hp,e⟩:=h r hr
    refine ⟨by omega,?_⟩
    rw [c8 wf hp e]
    exact wf.mw p hp) (fun x hx=>by rw [(List.mem_replicate.mp hx).2];omega) m hm
   omega
theorem Nq {ps:List Pt} {a:Int} (h:p∈ps) (hn:p.nm≠x) (hw:p.wo≠0):p∈j7 ps x a:=
 vB.mpr ⟨bK.mpr ⟨p,h,by rw [aA hn]⟩,aY hw⟩
theorem v7 {ps:List Pt} {a:Int} (h:p∈j7 ps x a):p.wo≠0/\∃q∈ps,p=if q.nm=x then { q with wo:=q.wo-a } else q:=by
 obtain ⟨h1,h2⟩:=vB.mp h
 obtain ⟨q,hq,e⟩:=bK.mp h1
 exact ⟨aX h2,q,hq,e.symm⟩
theorem rD {ps:List Pt} {a:Int}:((j7 ps x a).map (fun p:Pt=>p.nm)).Sublist (ps.map (fun p:Pt=>p.nm)):=by
 unfold j7
 have e:(ps.map fun p=>if p.nm=x then { p with wo:=p.wo-a } else p).map (fun p:Pt=>p.nm)=ps.map (fun p:Pt=>p.nm):=by
  rw [gy]
  exact vz fun p _=>by show (if p.nm=x then _ else p:Pt).nm=p.nm;split <;> rfl
 rw [<-e]
 exact List.filter_sublist.map _
theorem CZ {st:HS} (wf:Wf st) (h:∀p∈st.ak,p.nm=r.1->r.2<=p.wo):Wf (dX st r):=by
 have P:∀{M:Pt->Prop},(∀p∈st.ak,M p)->(∀(p:Pt) (w:Int),M p->M { p with wo:=w })->∀p∈j7 st.ak r.1 r.2,M p:=fun h1 h2 p hp=>by
  obtain ⟨_,q,hq,e⟩:=v7 hp
  rw [e]
  split
  . exact h2 _ _ (h1 q hq)
  . exact h1 q hq
 refine ⟨wf.nC,wf.vS,wf.c6.sublist rD,P wf.sub (fun _ _ z=>z),P wf.rows (fun _ _ z=>z),P wf.ow (fun _ _ z=>z),wf.fC,wf.jC,wf.dW,wf.kP,wf.oY,wf.jD,wf.vU,?_,wf.xR,wf.r8,wf.D9,wf.big,wf.mq,P wf.nD (fun _ _ z=>z),P wf.lz (fun _ _ z=>z),P wf.mw (fun _ _ z=>z),fun p hp=>?_,wf.CS⟩
 . have:=rD (ps:=st.ak) (x:=r.1) (a:=r.2) |>.length_le
   rw [aD,aD] at this
   exact fP this wf.mj
 . obtain ⟨h0,q,hq,e⟩:=v7 hp
   have:=wf.jw q hq
   by_cases c:q.nm=r.1
   . rw [aB c] at e
     subst e
     have:=h q hq c
     have h0:q.wo-r.2≠0:=h0
     exact ⟨by show 1<=q.wo-r.2;omega,by show 0<=q.we;omega⟩
   . rw [aA c] at e
     rw [e];exact this
def Due (st:HS) (rs:List Row):Prop:=∀r∈rs,∃p∈st.ak,p.nm=r.1/\r.2<=p.wo
theorem rH {st:HS} (wf:Wf st) {q:Pt} (hp:p∈st.ak) (hq:q∈st.ak) (e:p.nm=q.nm):p=q:=(c8 wf hp rfl).symm.trans (by rw [e];exact c8 wf hq rfl)
theorem Pp {st:HS} (wf:Wf st) (d:Due st (r::rs)):Wf (dX st r):=by
 obtain ⟨p,hp,e,hle⟩:=d r cV
 exact CZ wf fun q hq eq=>by rw [rH wf hq hp (eq.trans e.symm)];exact hle
theorem HM {st:HS} (wf:Wf st) (d:Due st (r::rs)) (nd:((r::rs).map (fun r:Row=>r.1)).Nodup):Due (dX st r) rs:=fun x hx=>by
 obtain ⟨p,hp,e,hle⟩:=d x (cD _ hx)
 have hn:p.nm≠r.1:=fun z=>(fO.mp nd).1 (bK.mpr ⟨x,hx,e.symm.trans z⟩)
 have:=wf.jw p hp
 exact ⟨p,Nq hp hn (by omega),e,hle⟩
theorem HN:∀{rs:List Row} {st:HS},Wf st->Due st rs->(rs.map (fun r:Row=>r.1)).Nodup->Wf (rs.foldl dX st)
 | [],_,wf,_,_=>wf
 | r::rs,st,wf,d,nd=>show Wf (rs.foldl dX (dX st r)) from HN (Pp wf d) (HM wf d nd) (fO.mp nd).2
theorem Ek {st:HS} {kept whole:Int} (d:Due st rs):Due (bh st kept whole added) rs:=fun r hr=>by
 obtain ⟨p,hp,e,hle⟩:=d r hr
 refine ⟨{ p with sc:=p.sc*kept / cK st kept whole added },?_,e,hle⟩
 unfold bh
 rw [mV]
 exact bK.mpr ⟨p,hp,Z⟩
theorem sr.due {st:HS} (c:sr st rs):Due st rs:=fun r hr=>(c.row r hr).2.2
theorem zZ:∀{rs:List Row},(∀r∈rs,1<=r.2)->0<=bD rs
 | [],_=>jX _
 | r::rs,h=>by
   have:=h r cV
   have:=zZ (rs:=rs) fun x hx=>h x (cD _ hx)
   rw [show bD (r::rs)=r.2+bD rs from by unfold bD;rw [bJ,cL]]
   omega
theorem sr.blend {st:HS} (wf:Wf st) (c:sr st rs):pe st (aM st-bD rs) (aM st) (bD rs) (jM st rs):=by
 have g:=Po wf (rs:=rs) (fun r hr=>⟨(c.row r hr).1,by obtain ⟨p,hp,e,_⟩:=(c.row r hr).2.2;exact ⟨p,hp,e⟩⟩)
 have l0:=zZ (rs:=rs) fun r hr=>(c.row r hr).1
 have:=c.lost
 exact ⟨by omega,l0,by omega,g.1,g.2,c.prod,c.big,c.bH,c.stp⟩
theorem UI {st:HS} (wf:Wf st) (c:sr st rs):Wf (iL st rs):=HN (vY wf (c.blend wf)) (Ek c.due) c.nd
structure Nr (K:Fg) (H:Hp) (us:List V) (ws:List Row):Prop where
 len:us.length=ws.length
 at_:∀(i:Nat) (r:Row),ws[i]?=some r->∃a xs,us[i]?=some (.ref a)/\Sq K H a xs/\xs[0]?=some (.str r.1)/\xs[2]?=some (.int r.2)
theorem ud:∀{l:List Str} {o:Str},o∈l->l[l.idxOf o]?=some o
 | [],_,h=>by simp at h
 | x::l,o,h=>by
   by_cases e:x=o
   . subst e;simp
   . have ho:o∈l:=by
      rcases c9.mp h with z|z
      . exact absurd z.symm e
      . exact z
     rw [List.idxOf_cons,show (x==o)=false from CC.mpr e]
     simpa using ud ho
inductive acz (K:Fg) (vs:List V) (H:Hp) (Q:VK) (E:XK):Prop
 | mk (l:Addr) (us:List V) (ws:List Row) (i:Nat) (r:Row) (_:vs=[.ref l, .str r.1]) (_:aH K H l us) (_:Nr K H us ws) (_:(ws.map (fun r:Row=>r.1)).Nodup) (_:ws.length<=1000) (_:ws[i]?=some r) (_:Q (.int (i:Int)) H)
def Nt (K:Fg):Sp:=bx (acz K)
structure Pq (ws rs:List Row):Prop where
 nd:(rs.map (fun r:Row=>r.1)).Nodup
 row:∀r∈rs,1<=r.2/\r.2<=1000000000/\∃w∈ws,w.1=r.1/\r.2<=w.2
 lost:bD rs<bD ws\/rs=[]
 len:rs.length<=ws.length
inductive W4 (K:Fg) (vs:List V) (H:Hp) (Q:VK) (E:XK):Prop
 | mk (a l:Addr) (ns:List Int) (k:Int) (us:List V) (ws:List Row) (_:vs=[.ref a, .int k, .ref l]) (_:aH K H a (ns.map V.int)) (_:ns.length<=63) (_:0<=k) (_:k<=1000000) (_:aH K H l us) (_:Nr K H us ws) (_:(ws.map (fun r:Row=>r.1)).Nodup) (_:ws.length<=1000) (_:(∀w∈ws,1<=w.2)) (_:∀z zs rs H',aQ H H'->H z=none->H' z=some (.lst zs)->fF H' zs rs->Pq ws rs->Q (.ref z) H')
def LM (K:Fg):Sp:=bx (W4 K)
section
variable {X:Cx}
def su (i j k:Int):Int:=if j<i then (if k<j then k else j) else (if k<i then k else i)
theorem UJ (i j k:Int):su i j k<=i/\su i j k<=j/\su i j k<=k:=by unfold su;split <;> split <;> omega
theorem UK {i j k m:Int} (h1:m<=i) (h2:m<=j) (h3:m<=k):m<=su i j k:=by unfold su;split <;> split <;> omega
theorem Pr (hc:X.calm=true):iK X (.builtin "min") (fun xs H Q=>∃i j k,xs=[.int i, .int j, .int k]/\Q (.int (su i j k)) H):=by
 intro pins s σ H xs us Q I r h
 obtain ⟨i,j,k,rfl,q⟩:=h
 obtain ⟨u,us,rfl,⟨t,rfl⟩,r2⟩:∃u us',us=u::us'/\RelV (.int i) u/\Vals [.int j, .int k] us':=by cases r with|cons a b=>exact ⟨_,_,rfl,a,b⟩
 obtain ⟨u2,u3,rfl,⟨t',rfl⟩,⟨t'',rfl⟩⟩:=vals2 r2
 refine min_three_ints (I.ok.hd hc) fun h' tk kk=>⟨_,H,I.kept kk,?_,q⟩
 unfold su
 by_cases hj:j<i
 . rw [aB hj,aB hj]
   by_cases hk:k<j
   . rw [aB hk,aB hk];exact ⟨_,Z⟩
   . rw [aA hk,aA hk];exact ⟨_,Z⟩
 . rw [aA hj,aA hj]
   by_cases hk:k<i
   . rw [aB hk,aB hk];exact ⟨_,Z⟩
   . rw [aA hk,aA hk];exact ⟨_,Z⟩
end
def fS (rs:List Row) (x:Str):Int:=((rs.find? fun r=>decide (r.1=x)).map (fun r:Row=>r.2)).getD 0
theorem xZ (x:Str):fS [] x=0:=rfl
theorem nI (r:Row) (rs:List Row) (x:Str):fS (r::rs) x=if r.1=x then r.2 else fS rs x:=by
 unfold fS
 rw [rj]
 by_cases c:r.1=x
 . rw [aY c,aB c];rfl
 . rw [dR c,aA c]
theorem v8:∀{rs:List Row} {x:Str},x∉rs.map (fun r:Row=>r.1)->fS rs x=0
 | [],_,_=>rfl
 | r::rs,x,h=>by
   rw [nI,aA (fun e=>h (by rw [bJ,e];exact cV))]
   exact v8 fun m=>h (by rw [bJ];exact cD _ m)
theorem v9:∀{rs:List Row} {r:Row} {x:Str},r.1∉rs.map (fun r:Row=>r.1)->fS (rs++[r]) x=if r.1=x then r.2 else fS rs x
 | [],r,x,_=>by rw [FJ,nI]
 | y::rs,r,x,h=>by
   rw [bJ] at h
   have h1:r.1≠y.1:=fun e=>h (by rw [e];exact cV)
   rw [MJ,nI,v9 (fun m=>h (cD _ m)),nI]
   by_cases c:y.1=x
   . rw [aB c,aB c,aA (fun e=>h1 (e.trans c.symm))]
   . rw [aA c,aA c]
abbrev Q4:=Str×Str×Int×Int
def bf (st:HS):List Q4:=st.ak.map fun p=>(p.nm,p.ow,p.wo,p.we)
def p5 (qs:List Q4) (r:Row):List Q4:=(qs.map fun q=>if q.1=r.1 then (q.1,q.2.1,q.2.2.1-r.2,q.2.2.2) else q).filter fun q=>decide (q.2.2.1≠0)
def nJ (rs:List Row) (qs:List Q4):List Q4:=(qs.map fun q=>(q.1,q.2.1,q.2.2.1-fS rs q.1,q.2.2.2)).filter fun q=>decide (0<q.2.2.1)
theorem Pu (st:HS) (r:Row):bf (dX st r)=p5 (bf st) r:=by
 unfold bf dX j7 p5
 generalize st.ak=ps
 show List.map _ (List.filter _ (List.map _ ps))=_
 induction ps with
 | nil=>rfl
 | cons p ps ih=>
   rw [bJ,bJ,bJ]
   by_cases c:p.nm=r.1
   . rw [aB c,aB (show (p.nm,p.ow,p.wo,p.we).1=r.1 from c),fY,fY]
     by_cases d:p.wo-r.2=0
     . rw [aA (by simpa using d),aA (by simpa using d),ih]
     . rw [aB (by simpa using d),aB (by simpa using d),bJ,ih]
   . rw [aA c,aA (show ¬ (p.nm,p.ow,p.wo,p.we).1=r.1 from c),fY,fY]
     by_cases d:p.wo=0
     . rw [aA (by simpa using d),aA (by simpa using d),ih]
     . rw [aB (by simpa using d),aB (by simpa using d),bJ,ih]
theorem BE (st:HS) (kept whole:Int) (added:List Int):bf (bh st kept whole added)=bf st:=by
 unfold bf bh
 rw [mV,gy]
 rfl
theorem BF:∀(rs:List Row) (st:HS),bf (rs.foldl dX st)=rs.foldl p5 (bf st)
 | [],_=>rfl
 | r::rs,st=>by rw [jW,jW,BF rs,Pu]
theorem BG:∀(qs:List Q4) (r:Row) (rs:List Row),r.1∉rs.map (fun r:Row=>r.1)->(∀q∈qs,1<=q.2.2.1)->(∀q∈qs,q.1=r.1->r.2<=q.2.2.1)->nJ rs (p5 qs r)=nJ (r::rs) qs
 | [],_,_,_,_,_=>rfl
 | q::qs,r,rs,hn,h1,h2=>by
   have ih:=BG qs r rs hn (fun x hx=>h1 x (cD _ hx)) (fun x hx=>h2 x (cD _ hx))
   have w1:=h1 q cV
   have e1:p5 (q::qs) r=(if q.1=r.1 then (if q.2.2.1-r.2=0 then [] else [(q.1,q.2.1,q.2.2.1-r.2,q.2.2.2)]) else [q])++p5 qs r:=by
    unfold p5
    rw [bJ,fY]
    by_cases c:q.1=r.1
    . rw [aB c,aB c]
      by_cases d:q.2.2.1-r.2=0
      . rw [aB d,aA (by simpa using d)];rfl
      . rw [aA d,aB (by simpa using d)];rfl
    . rw [aA c,aA c,aB (aY (show q.2.2.1≠0 by omega))];rfl
   have e2:∀(us:List Row) (x:Q4) (l:List Q4),nJ us (x::l)=(if 0<x.2.2.1-fS us x.1 then [(x.1,x.2.1,x.2.2.1-fS us x.1,x.2.2.2)] else [])++nJ us l:=fun us x l=>by
    unfold nJ
    rw [bJ,fY]
    by_cases c:0<x.2.2.1-fS us x.1
    . rw [aB c,aB (aY c)];rfl
    . rw [aA c,aA (by simpa using c)];rfl
   rw [e1,e2 (r::rs),nI]
   by_cases c:q.1=r.1
   . have am:fS rs q.1=0:=by rw [c];exact v8 hn
     have le:=h2 q cV c
     rw [aB c,aB c.symm]
     by_cases d:q.2.2.1-r.2=0
     . rw [aB d,aA (by omega),<-ih];rfl
     . rw [aA d,aB (by omega),<-ih,MJ,FJ,e2 rs]
       show (if 0<q.2.2.1-r.2-fS rs q.1 then [(q.1,q.2.1,q.2.2.1-r.2-fS rs q.1,q.2.2.2)] else [])++_=_
       rw [am,Int.sub_zero,aB (by omega)]
   . rw [aA c,show (if r.1=q.1 then r.2 else fS rs q.1)=fS rs q.1 from aA (fun z=>c z.symm),<-ih,MJ,FJ,e2 rs]
theorem El {qs:List Q4} {x:Q4} (h:x∈p5 qs r):x.2.2.1≠0/\∃q∈qs,x=if q.1=r.1 then (q.1,q.2.1,q.2.2.1-r.2,q.2.2.2) else q:=by
 obtain ⟨h1,h2⟩:=vB.mp h
 obtain ⟨q,hq,e⟩:=bK.mp h1
 exact ⟨aX h2,q,hq,e.symm⟩
theorem Em:∀(rs:List Row) (qs:List Q4),(rs.map (fun r:Row=>r.1)).Nodup->(∀q∈qs,1<=q.2.2.1)->(∀r∈rs,∀q∈qs,q.1=r.1->r.2<=q.2.2.1)->rs.foldl p5 qs=nJ rs qs
 | [],qs,_,h1,_=>by
   show qs=nJ [] qs
   unfold nJ
   induction qs with
   | nil=>rfl
   | cons q qs ih=>
     have:=h1 q cV
     rw [bJ,fY,aB (aY (show 0<q.2.2.1-fS [] q.1 by rw [xZ];omega)),<-ih (fun x hx=>h1 x (cD _ hx)) (fun r hr=>absurd hr (by simp)),xZ,Int.sub_zero]
 | r::rs,qs,nd,h1,h2=>by
   obtain ⟨n1,n2⟩:=fO.mp (show (r.1::rs.map (fun r:Row=>r.1)).Nodup from nd)
   rw [jW,Em rs (p5 qs r) n2 ?_ ?_]
   . exact BG qs r rs n1 h1 (h2 r cV)
   . intro x hx
     obtain ⟨a,q,hq,e⟩:=El hx
     have:=h1 q hq
     by_cases c:q.1=r.1
     . rw [aB c] at e
       have:=h2 r cV q hq c
       rw [e] at a ⊢
       have a:q.2.2.1-r.2≠0:=a
       show 1<=q.2.2.1-r.2
       omega
     . rw [aA c] at e;rw [e];exact this
   . intro y hy x hx ex
     obtain ⟨_,q,hq,e⟩:=El hx
     by_cases c:q.1=r.1
     . rw [aB c] at e
       rw [e] at ex
       exact absurd (bK.mpr ⟨y,hy,ex.symm.trans c⟩) n1
     . rw [aA c] at e
       rw [e] at ex ⊢
       exact h2 y (cD _ hy) q hq ex
theorem HP (st:HS) (rs:List Row):(iL st rs).own=st.own:=by
 unfold iL
 have:∀(rs:List Row) (s:HS),(rs.foldl dX s).own=s.own:=fun rs=>by
  induction rs with
  | nil=>intro s;rfl
  | cons r rs ih=>intro s;rw [jW,ih];rfl
 rw [this]
 unfold bh
 rw [qy]
theorem mW:∀(rs:List Row) (s:HS),rs.foldl dX s={ s with ak:=(rs.foldl dX s).ak }
 | [],_=>rfl
 | r::rs,s=>by
   rw [jW,mW rs (dX s r)]
   rfl
theorem sy {f:Int->Int->Int} (hf:f 0 0=0) {xs ys:List Int} (h:xs.length=ys.length) (j:Nat):(List.zipWith f xs ys).getD j 0=f (xs.getD j 0) (ys.getD j 0):=by
 rw [lF,lF,lF,Mw]
 by_cases c:j<xs.length
 . rw [bq c,bq (by omega)];rfl
 . rw [rN (by omega),rN (by omega)];exact hf.symm
theorem Pw {st st':HS} {kept whole:Int} {added:List Int} (wf:Wf st) (bl:pe st kept whole lost added) (ec:st'.br=(bh st kept whole added).br) (ep:st'.prod=(bh st kept whole added).prod) {p':Pt} (hp:p∈st.ak) (e2:p'.row=p.row) (e3:p'.sc=p.sc*kept / cK st kept whole added)
  {t0 gB B:Int} {j:Nat} (tj:t0*st.prod=(a_ st p).getD j 0*B) (eB:gB*st.prod=added.getD j 0*B):(t0*kept+gB)*st'.prod=(a_ st' p').getD j 0*(B*whole):=by
 obtain ⟨hd,W5,hds,hdc⟩:=bl.dvds
 have acA:st'.br=(fk st kept added).map (· / cK st kept whole added):=by
  rw [ec];unfold bh;rw [Ef]
 have s1:1<=whole / cK st kept whole added:=by
  have w1:0<whole:=by have:=bl.l;have:=bl.w;have:=bl.k;omega
  have:=Int.le_of_dvd w1 W5
  exact Int.le_ediv_of_mul_le hd (by omega)
 have S9:st'.prod=st.prod*(whole / cK st kept whole added):=by
  rw [ep];unfold bh;rw [BD s1]
 have hds:=hds p hp
 have hrl:=wf.rows p hp
 have hcl:=wf.fC
 have gl:=bl.len
 have ewd:cK st kept whole added*(whole / cK st kept whole added)=whole:=Int.mul_ediv_cancel' W5
 have a5:cK st kept whole added*p'.sc=p.sc*kept:=by rw [e3];exact Int.mul_ediv_cancel' hds
 rw [S9]
 clear ec ep S9 e3 bl W5 hds s1
 generalize cK st kept whole added=d at *
 have etop:d*(a_ st' p').getD j 0=(a_ st p).getD j 0*kept+added.getD j 0:=by
  have a1:(a_ st' p').getD j 0=p'.sc*p.row.getD j 0+((fk st kept added).map (· / d)).getD j 0:=by
   unfold a_
   rw [acA,e2,sy (f:=fun r c=>p'.sc*r+c) (by show p'.sc*0+0=0;omega)]
   rw [aD]
   unfold fk
   rw [kh,gl,hrl,hcl]
   omega
  have a2:(a_ st p).getD j 0=p.sc*p.row.getD j 0+st.br.getD j 0:=by
   unfold a_
   exact sy (f:=fun r c=>p.sc*r+c) (by show p.sc*0+0=0;omega) (by rw [hrl,hcl]) j
  have a3:(fk st kept added).getD j 0=st.br.getD j 0*kept+added.getD j 0:=by
   unfold fk
   exact sy (f:=fun t m=>t*kept+m) (by show (0:Int)*_+0=0;omega) gl.symm j
  have a4:d*((fk st kept added).map (· / d)).getD j 0=(fk st kept added).getD j 0:=by
   rw [lF,lF,bN]
   cases ec:(fk st kept added)[j]? with
   | none=>show _*0=(0:Int);omega
   | some x=>exact Int.mul_ediv_cancel' (hdc x (bO ec))
  rw [a1,tV,<-jg,a5,a4,a3,a2]
  grind
 generalize whole / d=Px at *
 generalize (a_ st' p').getD j 0=T' at *
 generalize (a_ st p).getD j 0=T at *
 generalize added.getD j 0=gS at *
 refine Int.eq_of_mul_eq_mul_left (a:=d) (by omega) ?_
 have l1:d*((t0*kept+gB)*(st.prod*Px))=(t0*st.prod*kept+gB*st.prod)*(d*Px):=by grind
 have l2:d*(T'*(B*whole))=(d*T')*(B*whole):=by grind
 rw [l1,l2,ewd,tj,eB,etop]
 grind
theorem lI {α:Type} (f g:α->Int):∀l:List α,(l.map fun x=>f x+g x).sum=(l.map f).sum+(l.map g).sum
 | []=>rfl
 | a::l=>by rw [bJ,bJ,bJ,cL,cL,cL,lI f g l];omega
theorem jd {α:Type} (f:α->Int) (k:Int):∀l:List α,(l.map fun x=>f x*k).sum=(l.map f).sum*k
 | []=>by simp
 | a::l=>by rw [bJ,bJ,cL,cL,jd f k l,rB]
theorem uF:∀(l:List Int) (n:Nat),l.length=n->(List.range n).map (fun i=>l.getD i 0)=l:=fun l n h=>by
 refine List.ext_getElem? fun i=>?_
 rw [bN]
 by_cases hi:i<n
 . rw [List.getElem?_range hi,bq (by omega)]
   show some (l.getD i 0)=_
   rw [lF,bq (by omega)];rfl
 . rw [rN (by rw [Gq];omega),rN (by omega)];rfl
theorem uG:∀{l:List Int} {i:Nat} {x:Int},i<l.length->(l.set i (l.getD i 0+x)).sum=l.sum+x
 | a::l,0,x,_=>by rw [MB,cL,cL];show a+x+_=_;omega
 | a::l,i+1,x,h=>by
   rw [Gn,cL,cL]
   have:=uG (l:=l) (i:=i) (x:=x) (by simpa using h)
   have e:(a::l).getD (i+1) 0=l.getD i 0:=rfl
   rw [e,this];omega
 | [],_,_,h=>by simp at h
theorem LN (k:Int):∀{ts gs:List Int},ts.length=gs.length->(List.zipWith (fun t g=>t*k+g) ts gs).sum=ts.sum*k+gs.sum
 | [],[],_=>by simp
 | t::ts,g::gs,h=>by
   have:=LN k (ts:=ts) (gs:=gs) (by simpa using h)
   rw [CB,cL,cL,cL,this,rB];omega
 | [],_::_,h=>by simp at h
 | _::_,[],h=>by simp at h
theorem UL (st:HS) (rs:List Row):(iL st rs).kn<=st.kn:=by
 unfold iL
 rw [mW]
 show (bh st (aM st-bD rs) (aM st) (jM st rs)).kn<=st.kn
 unfold bh eV
 split
 . exact gM _
 . exact aN _
theorem HQ (n:Nat):(List.replicate n (0:Int)).sum=0:=by
 induction n with
 | zero=>rfl
 | succ n ih=>rw [zN,cL,ih];rfl
theorem kQ:∀(l:List Str) (st:HS),st.ak=[]->(∀u∈st.bH,u=0)->(l.foldl f7 st).ak=[]/\(l.foldl f7 st).nms=st.nms/\(l.foldl f7 st).stp=st.stp/\(l.foldl f7 st).prod=st.prod/\(l.foldl f7 st).dj=st.dj/\∀u∈(l.foldl f7 st).bH,u=0
 | [],_,h,hp=>⟨h,Z,Z,Z,Z,hp⟩
 | o::l,st,h,hp=>by
   rw [jW]
   exact kQ l (f7 st o) (by show st.ak.map _=[];rw [h];rfl) (fun u hu=>by
    rcases fZ.mp (show u∈st.bH++[0] from hu) with z|z
    . exact hp u z
    . exact fN.mp z)
def x6 (K:Fg) (ρ:eY) (H:Hp) (z:Addr) (xs:List V):Prop:=∀(ρ':eY) (H':Hp),aQ (out ρ H) (out ρ' H')->aH K H' z xs
theorem x6.of (h:aH K H z xs):x6 K (fun _=>none) H z xs:=fun ρ' H' s=>by
 rcases h with (h|⟨o,h⟩)|h
 . exact .inl (.inl (vQ (s _ _ (Br h rfl))).1)
 . exact .inl (.inr ⟨o,(vQ (s _ _ (Br h rfl))).1⟩)
 . exact .inr h
theorem x6.go (h:x6 K ρ H z xs) (s:aQ (out ρ H) (out ρ' H')):x6 K ρ' H' z xs:=fun _ _ s'=>h _ _ (s.trans s')
theorem HH.other {n:Nat} {st:HS} (h:HH T n ρ A H st) (f:Fr m ρ H ρ' H') (g:Gh ρ' H') (e:n≠m):HH T n ρ' A H' st:=⟨g,h.h.other f h.g e,h.wf⟩
theorem HR:∀(l:List Str) (st:HS),(l.foldl f7 st).kn=st.kn
 | [],_=>rfl
 | o::l,st=>by rw [jW,HR l];rfl
structure ff (K:Fg) (x:Str) (st:Stmt):Prop where
 ex:∃(f:Addr) (oc:Value) (od an:Option Addr) (sl:Array (Option Value)) (kV dc pm cd ct:Value),PySem.W.nsIn K mainGlobals x=some (some (.ref f))/\K.lookup f=some ⟨oc,od, .func (PySem.W.fnOf x x (dI st) (b9 st) (aC st) .none kV dc pm an cd ct),sl⟩/\PySem.W.codeIn K cd x=true/\PySem.W.keepIn K (.ref f)=true
theorem ff.at {st:Stmt} (d:ff K x st) (X:K.In h) (G:h.Ns mainGlobals mg):∃f fd,At K mg x st f fd:=by
 obtain ⟨f,oc,od,an,sl,kV,dc,pm,cd,ct,a,l,c,k⟩:=d.ex
 exact ⟨f,_,SM X G a l c k⟩
structure cT (K:Fg) (C:Addr) (n qual:Str) (st:Stmt):Prop where
 ex:∃(f:Addr) (oc:Value) (od an:Option Addr) (sl:Array (Option Value)) (kV dc pm cd ct:Value),PySem.W.findIn K (.ref C) n=some (some (.ref f))/\PySem.W.isFn K (.ref f)=true/\K.lookup f=some ⟨oc,od, .func (PySem.W.fnOf n qual (dI st) (b9 st) (aC st) .none kV dc pm an cd ct),sl⟩/\PySem.W.codeIn K cd qual=true/\PySem.W.keepIn K (.ref f)=true
theorem cT.at {n:Str} {st:Stmt} (d:cT K C n qual st) (cl:nj K C):∃f fd,gh K C n qual st f fd:=by
 obtain ⟨f,oc,od,an,sl,kV,dc,pm,cd,ct,a,i,l,c,k⟩:=d.ex
 exact ⟨f,_,GR l c k,⟨a,i,k⟩,cl⟩
theorem cT.made {st:Stmt} (d:cT K C "__init__" qual st) (X:K.In h) (G:h.Ns mainGlobals mg) (a0:PySem.W.nsIn K mainGlobals x=some (some (.ref C))) (m:PySem.W.makesIn K C=true) (kc:PySem.W.keepIn K (.ref C)=true):∃f fd,D7 K mg x C qual st f fd:=by
 obtain ⟨f,oc,od,an,sl,kV,dc,pm,cd,ct,a,i,l,c,k⟩:=d.ex
 exact ⟨f,_,GR l c k,⟨m,a,i,kc⟩,pU X G a0⟩
variable {oc pm ct:Value} {od an:Option Addr} {sl:Array (Option Value)}
theorem ff.of {st:Stmt} {kV dc cd:Value} (a:PySem.W.nsIn K mainGlobals x=some (some (.ref f))) (l:K.lookup f=some ⟨oc,od, .func (PySem.W.fnOf x x (dI st) (b9 st) (aC st) .none kV dc pm an cd ct),sl⟩) (c:PySem.W.codeIn K cd x=true) (k:PySem.W.keepIn K (.ref f)=true):ff K x st:=⟨⟨_,_,_,_,_,_,_,_,_,_,a,l,c,k⟩⟩
theorem cT.of {n:Str} {st:Stmt} {kV dc cd:Value} (a:PySem.W.findIn K (.ref C) n=some (some (.ref f))) (i:PySem.W.isFn K (.ref f)=true) (l:K.lookup f=some ⟨oc,od, .func (PySem.W.fnOf n qual (dI st) (b9 st) (aC st) .none kV dc pm an cd ct),sl⟩) (c:PySem.W.codeIn K cd qual=true) (k:PySem.W.keepIn K (.ref f)=true):cT K C n qual st:=⟨⟨_,_,_,_,_,_,_,_,_,_,a,i,l,c,k⟩⟩
section
variable {X:Cx}
variable {o i:Expr} {pos:Pos} {td ty:TE}
end
section
variable {a b:List Nat} {m v:Int} (ha:ny a) (hb:ny b) (hm:1<=m) (hm2:m<=1000000000) (hv:0<=v) (hv2:v<=1000000000)
include ha hb hm hm2 hv hv2 in
end
section
variable {X:Cx}
end
section
variable {X:Cx}
end
def Trc (h:Heap) (x T C:Addr):Prop:=∃oe vs a0 oT ts,h.get? x=some oe/\oe.cls = .ref C/\vs[0]?=some a0/\oe.data = .fields vs/\vs[1]?=some (.ref T)/\T≠x/\h.get? T=some oT/\oT.data = .fields ts/\ts[3]?=some .none
def fL (P:Program) (w:World):uX:=fun outer H s E e s'=>∃(x T C:Addr) (H':Hp),e = .ref x/\s'.os=s.os/\AllBare s'.gens/\Un (frs outer) [] H H' s.heap s'.heap/\gr P w H' s'.heap/\Trc s'.heap x T C/\
 s.heap.get? x=none/\s.heap.get? T=none/\H' x=none/\H' T=none/\E e (some C) H'
variable {h':Heap}
theorem gr.W6 {w:World} (x:gr P w H h) (k:∀b o u,H b=some o->h.get? b=some u->h'.get? b=some u):gr P w H h':=fun a o e=>
 (x a o e).stay (fun b u hb q=>by
   rcases hb with rfl|hb
   . exact k _ _ _ e q
   . exact k _ _ _ hb q) (fun _ q=>q) fun _ _ q=>q
theorem d_.isAt {w:World} (x:d_ P w H h a o):∃u,h.get? a=some u:=by
 cases o with
 | lst xs=>obtain ⟨_,_,_,_,e⟩:=x;exact ⟨_,e⟩
 | tup xs=>obtain ⟨_,_,_,p⟩:=x;obtain ⟨o,e,_⟩:=p;exact ⟨_,e⟩
 | dK kvs=>obtain ⟨_,_,_,_,o,_,_,e,_⟩:=x;exact ⟨_,e⟩
 | dT kvs=>obtain ⟨_,_,_,_,o,_,_,e,_⟩:=x;exact ⟨_,e⟩
 | set S n=>obtain ⟨o,_,_,_,e,_⟩:=x;exact ⟨_,e⟩
 | ins C dx fs=>obtain ⟨_,_,_,e,_⟩:=x;exact ⟨_,e⟩
 | own y=>obtain ⟨_,e⟩:=x;exact ⟨_,e⟩
 | xd fs=>obtain ⟨_,⟨_,_,_,e,_⟩,_⟩:=x;exact ⟨_,e⟩
 | tW lo hi=>obtain ⟨_,_,_,e⟩:=x;exact ⟨_,e⟩
 | fB ob u=>obtain ⟨e,_⟩:=x;exact ⟨_,e⟩
 | DO ps=>exact ⟨_,(show h.get? a=some _ from x)⟩
 | met f y=>exact ⟨_,(show h.get? a=some _ from x)⟩
 | ext φ=>obtain ⟨_,⟨_,e⟩,_⟩:=x;exact ⟨_,e⟩
section
variable {P:Program} {w:World} {K:Fg} {mg:SO} {base:Heap} {N:List Str} {qual:Str} {scope:Scope} {f:Addr} {cd:Value} {A:Around} {outer:List Env} {s0:Shared} {H0:Hp} {E:XK} {CX:uX}
theorem LO {x:Addr} {a0:Value} {B:Heap} (I:Inv (cu CX P w K mg base N qual scope f cd A outer s0 H0 E) pins σ H s)
  (hB:∀b o,s.heap.get? b=some o->b∉frs (envOfC qual scope s0.heap.objs.size f cd::outer)->s0.heap.get? b≠none\/H b≠none->B.get? b=some o)
  (hfl:Heap.FlyingW B outer x (.ref C) a0 h') (hup:s.heap.UpToSlots h') (hx:s0.heap.get? x=none) (En:H x=none)
  (q:E (.ref x) (some C) H):fL P w outer H0 s0 E (.ref x) { s with heap:=h' }:=by
 obtain ⟨st,bx,fr,oe,vs,T,oT,ts,h1,⟨h2,h3⟩,h4,h5,h6,h7,h8,h9,w6⟩:=hfl
 have Zv:T∉frs outer:=fun m=>by
  obtain ⟨_,o,ho,hd⟩:=fr.mem m
  rw [h8] at ho;cases ho
  exact hd _ h9
 have L0:s0.heap.get? s0.heap.objs.size=none:=Heap.get?_none_of_le (aN _)
 have big:∀b o,s0.heap.get? b=some o->b∉frs outer->b∉frs (envOfC qual scope s0.heap.objs.size f cd::outer):=fun b o e n m=>by
  have m':b∈s0.heap.objs.size::frs outer:=m
  rcases c9.mp m' with z|z
  . rw [z,L0] at e;cases e
  . exact n z
 have hT0:s0.heap.get? T=none:=by
  cases e:s0.heap.get? T with
  | none=>rfl
  | some o=>
    obtain ⟨o',ho'⟩:=I.base.there T o e (by simp [cu])
    have:=hB T o' ho' (big T o e Zv) (.inl (by rw [e];exact fun z=>nomatch z))
    rw [h6] at this;cases this
 have Py:H T=none:=by
  cases e:H T with
  | none=>rfl
  | some o=>
    have lt:=I.hok.lt e
    have nst:T∉frs (envOfC qual scope s0.heap.objs.size f cd::outer):=fun m=>by
     have:=I.yL T m
     rw [e] at this;cases this
    have hob:∃u,s.heap.get? T=some u:=(I.hok T o e).isAt
    obtain ⟨u,hu⟩:=hob
    have:=hB T u hu nst (.inr (by rw [e];exact fun z=>nomatch z))
    rw [h6] at this;cases this
 refine ⟨x,T,C,H,Z,I.os,I.bare,⟨fun b o e n nf _=>?_,fun b o e n m _=>?_,fun b o e n _=>?_,fun b o e _=>?_,I.base.tups,I.base.oU,I.base.rR⟩,?_,⟨oe,vs,a0,oT,ts,h1,h2,h3,h4,h5,h7,h8,h9,w6⟩,hx,hT0,En,Py,q⟩
 . exact st b o (hB b o (I.base.keep b o e n nf (by simp [cu])) (big b o e nf) (.inl (by rw [e];exact fun z=>nomatch z)))
 . obtain ⟨sl,hs⟩:=I.base.slot b o e n m (by simp [cu])
   have fr0:=I.ok.m_
   obtain ⟨_,o',ho',hd'⟩:=fr0.mem m
   obtain ⟨Vu,hs'⟩:=hup b _ hs (fun vs z=>by
    have ho2:s0.heap.get? b=some o':=ho'
    rw [e] at ho2;cases ho2
    exact hd' vs z)
   exact ⟨Vu,hs'⟩
 . exact I.base.free b o e n (by simp [cu])
 . obtain ⟨o',ho'⟩:=I.base.there b o e (by simp [cu])
   by_cases m:b∈frs outer
   . have fr0:=I.ok.m_
     obtain ⟨_,o2,ho2,hd2⟩:=fr.mem m
     exact ⟨o2,ho2⟩
   . exact ⟨o',st b o' (hB b o' ho' (big b o e m) (.inl (by rw [e];exact fun z=>nomatch z)))⟩
 . exact I.hok.W6 fun b o u e hu=>st b u (hB b u hu (fun m=>by have:=I.yL b m;rw [e] at this;cases this) (.inr (by rw [e];exact fun z=>nomatch z)))
theorem RI {x T:Addr} (I:Inv (cu (fL P w) P w K mg base N qual scope f cd A outer s0 H0 E) pins σ H s) (t:Trc s.heap x T C) (hx:s0.heap.get? x=none) (hT:s0.heap.get? T=none) (En:H x=none) (Py:H T=none)
  (q:E (.ref x) (some C) H):(cu (fL P w) P w K mg base N qual scope f cd A outer s0 H0 E).xe (.ref x) s:=by
 obtain ⟨oe,vs,a0,oT,ts,h1,h2,h3,h4,h5,h6,h7,h8,h9⟩:=t
 have hst:=I.stack
 have RJ:s.heap.FunFrames base (envOfC qual scope s0.heap.objs.size f cd::outer):=hst
 have hin:∀env∈(envOfC qual scope s0.heap.objs.size f cd::outer),∀b,env.frame=some b->b∈x::T::frs (envOfC qual scope s0.heap.objs.size f cd::outer):=fun env he b hb=>cD _ (cD _ (Mz.mpr ⟨env,he,hb⟩))
 refine wpAny_leaves_onW (base:=PySem.W.hideAll s.heap (x::T::frs (envOfC qual scope s0.heap.objs.size f cd::outer))) (L:=s0.heap.objs.size) (cls:= .ref C) (a0:=a0) (outer:=outer) I.ok.frames rfl ⟨fun b o e=>PySem.W.of_hideAll _ e,PySem.W.hideAll_none _ cV,PySem.W.funFrames_hide RJ hin,oe,vs,T,oT,ts,h1,⟨h2,h3⟩,h4,h5,PySem.W.hideAll_none _ (cD _ cV),h6,h7,h8,h9⟩ fun h' fl up=>?_
 refine LO I (fun b o e n hb=>PySem.W.hideAll_get _ e fun m=>?_) fl up hx En q
 rcases c9.mp m with z|m
 . rw [z] at hb
   rcases hb with hb|hb
   . exact hb hx
   . exact hb En
 . rcases c9.mp m with z|m
   . rw [z] at hb
     rcases hb with hb|hb
     . exact hb hT
     . exact hb Py
   . exact n m
theorem S_:Passes (fL P w) (cu (fL P w) P w K mg base N qual scope f cd A outer s0 H0 E) E:=fun pins σ H s e s' I h=>by
 obtain ⟨x,T,C,H',rfl,os,bare,un,hok,t,hx,hT,En,Py,q⟩:=h
 have I':Inv (cu (fL P w) P w K mg base N qual scope f cd A outer s0 H0 E) pins σ H' s':=I.ML (ch:=[]) os un hok bare (fun b z=>absurd z (by simp))
 have old:∀b,s.heap.get? b=none->s0.heap.get? b=none:=fun b e=>by
  cases q:s0.heap.get? b with
  | none=>rfl
  | some o=>
    obtain ⟨o',ho'⟩:=I.base.there b o q (by simp [cu])
    rw [e] at ho';cases ho'
 exact RI I' t (old x hx) (old T hT) En Py q
theorem Nu {x:Addr} {args:List Value} (I:Inv (cu (fL P w) P w K mg base N qual scope f cd A outer s0 H0 E) pins σ H s) (hm:Heap.MadeExcOf s.heap h1 x (.ref C) args)
  (q:E (.ref x) (some C) H):(cu (fL P w) P w K mg base N qual scope f cd A outer s0 H0 E).xe (.ref x) { s with heap:=h1 }:=by
 have RJ:s.heap.FunFrames base (envOfC qual scope s0.heap.objs.size f cd::outer):=I.stack
 have hin:∀env∈(envOfC qual scope s0.heap.objs.size f cd::outer),∀b,env.frame=some b->b∈frs (envOfC qual scope s0.heap.objs.size f cd::outer):=fun env he b hb=>Mz.mpr ⟨env,he,hb⟩
 have I1:Inv (cu (fL P w) P w K mg base N qual scope f cd A outer s0 H0 E) pins σ H { s with heap:=h1 }:=I.kept (t':=s.toks) hm.keeps
 have En:H x=none:=by
  cases e:H x with
  | none=>rfl
  | some o=>
    obtain ⟨u,hu⟩:=(I.hok x o e).isAt
    rw [hm.new] at hu;cases hu
 have hx0:s0.heap.get? x=none:=by
  cases e:s0.heap.get? x with
  | none=>rfl
  | some o=>
    obtain ⟨o',ho'⟩:=I.base.there x o e (by simp [cu])
    rw [hm.new] at ho';cases ho'
 refine wpAny_leaves_madeW (base:=PySem.W.hideAll s.heap (frs (envOfC qual scope s0.heap.objs.size f cd::outer))) (h:=s.heap) (L:=s0.heap.objs.size) (outer:=outer) I.ok.frames rfl (fun b o e=>PySem.W.of_hideAll _ e) (PySem.W.funFrames_hide RJ hin) hm fun h' t fl _ _ up=>?_
 refine LO I1 (fun b o e n hb=>PySem.W.hideAll_get _ ?_ n) fl up hx0 En q
 rcases hb with hb|hb
 . cases e0:s0.heap.get? b with
   | none=>exact absurd e0 hb
   | some o0=>
     obtain ⟨o',ho'⟩:=I.base.there b o0 e0 (by simp [cu])
     have e':h1.get? b=some o:=e
     have:=hm.keeps b o' ho'
     rw [e'] at this;cases this
     exact ho'
 . cases e0:H b with
   | none=>exact absurd e0 hb
   | some o0=>
     obtain ⟨o',ho'⟩:=(I.hok b o0 e0).isAt
     have e':h1.get? b=some o:=e
     have:=hm.keeps b o' ho'
     rw [e'] at this;cases this
     exact ho'
end
def W7:List Value:=[.type "ValueError", .type "Exception", .type "BaseException", .type "object"]
structure f_ (K:Fg) (C:Addr):Prop where
 ex:∃(nm q:Str) (N:Addr) (bs bm:List Value) (hdct:Bool) (sn:List Str) (sub:List Value) (ab:Bool) (col:Option Bool) (dd:Option Addr) (k0 k1 k2 k3 k5:Option Value) (mN:SO),mN "__init__"=none/\bm.contains (.type "BaseException")=true/\∀h:Heap,K.In h->
  h.get? C=some (excClassObj nm q C N bs bm hdct sn sub ab col dd k0 k1 k2 k3 k5 "ValueError.__new__")/\h.Ns N mN/\OwnTail h W7 bm
section
variable {P:Program} {w:World} {K:Fg} {mg:SO} {base:Heap} {N:List Str} {qual:Str} {scope:Scope} {f:Addr} {cd:Value} {A:Around} {outer:List Env} {s0:Shared} {H0:Hp} {E:XK}
def W8 (C:Addr) (E:XK):TS:=fun _ _ H=>∀x,E (.ref x) (some C) H
structure Dx (P:Program) (w:World) (K:Fg) (mg:SO) (base:Heap) (k:Nat) (x:Str) (ps:List Str) (sp:Sp):Prop where
 ex:∃f fd,iO P w K mg base (fL P w) k f fd ps sp/\Binds K fd ps []/\PySem.W.keepIn K (.ref f)=true/\mg x=some (.ref f)
theorem At.W9 {st:Stmt} {f:Addr} {N:List Str} {k:Nat} (F:At K mg x st f fd) (S:aO N ps (aC st)) (len:∀vs H Q E,sp vs H Q E->vs.length=ps.length)
  (hbody:∀(cdv:Value) (A:Around) (outer:List Env) (s:Shared) (H:Hp) (vs:List V) (Q:VK) (E:XK),c7 k (A.deeper (envOfC x (aC st) s.heap.objs.size f cdv))->sp vs H Q E->
    ∃t,oH (cu (fL P w) P w K mg base N x (aC st) f cdv A outer s H E) (b9 st) t/\t { nx:=fun _ H'=>Q .bU H',rt:=Q } (start N vs) H)
  (h:∀(kV doc pm:Value) (an:Option Addr) (cdv ct:Value) (us:List Value),us.length=ps.length->bindArgs (PySem.W.fnOf x x (dI st) (b9 st) (aC st) .none kV doc pm an cdv ct) ⟨us,[]⟩=pure (ps.zip us)):
  Dx P w K mg base (k+1) x ps sp:=by
 refine ⟨f,fd,?_,F.fn.binds h,F.fn.kp,F.name⟩
 obtain ⟨oc,od,kV,doc,pm,an,cdv,ct,osl,rfl,lk,hcd⟩:=F.fn.ex
 exact MW lk hcd S len fun A outer s H vs Q E hr nq=>hbody cdv A outer s H vs Q E hr nq
end
section
variable {X:Cx} {pins:AO} {σ:St} {Hc H:Hp} {sc s:Shared} {x C:Addr} {fl:Value}
end
section
variable {X:Cx} {pins:AO} {σ:St} {Hc H:Hp} {sc s:Shared} {x C:Addr} {fl:Value}
end
section
variable {X:Cx} {pins:AO} {σ:St} {Hc H:Hp} {sc s:Shared} {x C:Addr} {fl:Value}
end
open PySem.W PySem.Calls Builtin.ObjectAttr Builtin.Getset_descriptor
section
variable {prog:Program} {w:World} {A:Around} {E:VS} {h:Heap} {g:Array GenState} {d:Drawn} {t:Nat} {os:OsState} {x C:Addr} {o:Obj} {K:Frag} {R:Result->Shared->Prop}
end
theorem HU {K:Frag} {bmB:List Value} {x:Value} (hb:bmB.contains x=true):∀{l:List Value},tailIn K bmB l=true->l.contains x=true
 | [],e=>by rw [lQ.mp (show (bmB==[])=true from e)] at hb;exact hb
 | v::r,e=>by
   unfold tailIn at e
   rcases CD.mp e with q|q
   . rw [lQ.mp q];exact hb
   . split at q
     . split at q
       . simp only [Gs] at q
         rw [List.contains_cons,HU hb q.2,Bool.or_true]
       . cases q
     . cases q
def vd (K:Frag) (N:Addr) (x:Str):Option Value:=match K.lookup N with
 | some o=>(match o.data with | .dict es _=>nsFind es x|_=>none)
 | none=>none
theorem Nv {K:Frag} {N:Addr} (X:K.In h) (e:nsOkIn K N=true):h.nsMap N=vd K N:=by
 unfold nsOkIn at e
 split at e
 . rename_i ho
   funext x
   unfold vd Heap.nsMap
   rw [X _ _ ho,ho]
 . cases e
theorem HV {K:Frag} {N:Addr} (q:nsIn K N x=some none):vd K N x=none:=by
 unfold nsIn at q
 unfold vd
 split at q
 . rename_i c d es n sl ho
   rw [ho]
   show nsFind es x=none
   split at q
   . cases q
   . rename_i he
     unfold nsFind findBy
     rw [<-Array.find?_toList,he]
     rfl
 . cases q
theorem f_.of {K:Frag} (q:excIn K C W7 "ValueError.__new__"=true):f_ K C:=by
 unfold excIn at q
 split at q
 . rename_i dd cd sl ho
   split at q
   . rename_i C' bm k0 k1 k2 k3 n k5 hm hs
     simp only [Gs,lQ,Bool.not_eq_true'] at q
     obtain ⟨⟨⟨⟨⟨rfl,rfl⟩,W_⟩,ht⟩,hok⟩,hni⟩:=q
     obtain ⟨nm,bs,mro,ns,qn,hd,sn,sub,ab,col,del⟩:=cd
     dsimp only at hm W_ hok hni
     subst hm W_
     have hsl:sl=#[k0,k1,k2,k3,some (.builtin "ValueError.__new__"),k5] :=by
      obtain ⟨l⟩:=sl
      simp only at hs
      rw [hs]
     subst hsl
     refine ⟨nm,qn,ns,bs,bm,hd,sn,sub,ab,col,dd,k0,k1,k2,k3,k5,vd K ns,HV hni,HU (by decide +kernel) ht,fun h X=>⟨X _ _ ho,?_,tail_of_in X ht⟩⟩
     have:=Heap.Ns.of_isNs (isNs_of_in X hok)
     rw [Nv X hok] at this
     exact this
   . cases q
 . cases q
section
variable {X:Cx}
end
structure Ec where
 (bad twice Ny HW Zw x8 z6 rows acB Zx afg:Addr)
section
end
structure Mx (P:Program) (w:World) (K:Fg) (mg:SO) (base:Heap) (k:Nat) (C:Addr) (m:Str) (ps:List Str) (sp:Sp):Prop where
 ex:∃f fd,iO P w K mg base (fL P w) k f fd ps sp/\Binds K fd ps []/\Meth K C m f/\nj K C
theorem gh.W9 {w:World} {m:Str} {st:Stmt} {k:Nat} (F:gh K C m qual st f fd) (S:aO N ps (aC st)) (len:∀vs H Q E,sp vs H Q E->vs.length=ps.length)
  (hbody:∀(cdv:Value) (A:Around) (outer:List Env) (s:Shared) (H:Hp) (vs:List V) (Q:VK) (E:XK),c7 k (A.deeper (envOfC qual (aC st) s.heap.objs.size f cdv))->sp vs H Q E->
    ∃t,oH (cu (fL P w) P w K mg base N qual (aC st) f cdv A outer s H E) (b9 st) t/\t { nx:=fun _ H'=>Q .bU H',rt:=Q } (start N vs) H)
  (h:∀(kV doc pm:Value) (an:Option Addr) (cdv ct:Value) (us:List Value),us.length=ps.length->bindArgs (PySem.W.fnOf m qual (dI st) (b9 st) (aC st) .none kV doc pm an cdv ct) ⟨us,[]⟩=pure (ps.zip us)):
  Mx P w K mg base (k+1) C m ps sp:=by
 refine ⟨f,fd,?_,F.fn.binds h,F.me,F.cl⟩
 obtain ⟨oc,od,kV,doc,pm,an,cdv,ct,osl,rfl,lk,hcd⟩:=F.fn.ex
 exact MW lk hcd S len fun A outer s H vs Q E hr nq=>hbody cdv A outer s H vs Q E hr nq
theorem iO.noX {w:World} {k:Nat} {Eo:Sp} (F:iO P w K mg base (fL P w) k f fd ps sp) (h:∀vs H Q E,Eo vs H Q E->sp vs H Q E0):iO P w K mg base qZ k f fd ps Eo:=
 ⟨fun vs H Q E q=>F.len _ _ _ _ (h _ _ _ _ q),fun A outer s H args us vs Q E hr he hb hv hs=>AH (F.run A outer s H args us vs Q E0 hr he hb hv (h _ _ _ _ hs)) fun r s' q=>by
   cases r with
   | error e=>
     obtain ⟨x,T,C,H',_,_,_,_,_,_,_,_,_,_,z⟩:=(show fL P w outer H s E0 e s' from q)
     exact z.elim
   | ok fl=>cases fl <;> exact q⟩
theorem Mx.mn {w:World} {k:Nat} {m:Str} {Eo:Sp} (D:Mx P w K mg base k C m ps sp) (h:∀vs H Q E,Eo vs H Q E->sp vs H Q E0):Mn P w K mg base k C m ps Eo:=by
 obtain ⟨f,fd,F,b,me,c⟩:=D.ex
 exact ⟨f,fd,F.noX h,b,me,c⟩
theorem Dx.dn {w:World} {k:Nat} {Eo:Sp} (D:Dx P w K mg base k x ps sp) (h:∀vs H Q E,Eo vs H Q E->sp vs H Q E0):Dn P w K mg base k x ps Eo:=by
 obtain ⟨f,fd,F,b,kp,m⟩:=D.ex
 exact ⟨f,fd,F.noX h,b,kp,m⟩
section
variable {P:Program} {w:World} {K:Fg} {mg:SO} {base:Heap} {N:List Str} {qual:Str} {scope:Scope} {f:Addr} {cd:Value} {A:Around} {outer:List Env} {s0:Shared} {H0:Hp} {E:XK}
end
section
variable {X:Cx}
end
def Ec.at (e:Ec):Nat->Addr
 | 0=>e.bad|1=>e.twice|2=>e.Ny|3=>e.HW|4=>e.Zw|5=>e.x8|6=>e.z6|7=>e.rows|8=>e.acB|_=>e.Zx
def Rf (e:Ec) (E:XK) (H:Hp) (i:Nat):Prop:=∀x H',aQ H H'->E (.ref x) (some (e.at i)) H'
structure Ep (T:TC) (e:Ec) (n:Nat) (ρ:eY) (A:HA) (H:Hp) (r:Option Nat) (st':HS) (Q:VK) (E:XK):Prop where
 no:∀i,r=some i->Rf e E H i
 ok:r=none->t9 T n ρ A H st' fun H'=>Q .bU H'
def newR (st:HS) (x:Str):Option Nat:=if isNm x=true then (if x∈st.nms then some 1 else none) else some 0
def v_ (st:HS) (o:Str):Option Nat:=if isNm o=true then (if o∈st.own then some 1 else none) else some 0
def BH (st:HS) (x o:Str) (wo we:Int):Option Nat:=match newR st x with
 | some i=>some i
 | none=>if o∈st.own then (if wo<1\/we<0 then some 5 else none) else some 2
inductive UM (T:TC) (e:Ec) (vs:List V) (H:Hp) (Q:VK) (E:XK):Prop
 | mk (n ρ A st o:_) (_:vs=[.ref A.a, .str o]) (_:aL T n ρ A H st) (_:(o∉st.own->Rf e E H 2)) (_:(o∈st.own->Q (.int (st.own.idxOf o:Int)) H))
def wg (T:TC) (e:Ec):Sp:=bx (UM T e)
inductive RK (T:TC) (e:Ec) (vs:List V) (H:Hp) (Q:VK) (E:XK):Prop
 | mk (n ρ A st x:_) (_:vs=[.ref A.a, .str x]) (_:aL T n ρ A H st) (_:(st.ak.map (·.nm)).Nodup) (_:((∀p∈st.ak,p.nm≠x)->Rf e E H 3)) (_:∀(i:Nat) (p:Pt) (q:Addr×Addr×Addr),p.nm=x->st.ak[i]?=some p->A.qs[i]?=some q->Q (.ref q.1) H)
def kq (T:TC) (e:Ec):Sp:=bx (RK T e)
inductive Nz (T:TC) (e:Ec) (vs:List V) (H:Hp) (Q:VK) (E:XK):Prop
 | mk (n ρ A st x:_) (_:vs=[.ref A.a, .str x]) (_:aL T n ρ A H st) (_:x.cps.toList.length<=100000) (_:(∀i,newR st x=some i->Rf e E H i)) (_:(newR st x=none->∀H',aQ H H'->Q .bU H'))
def uH (T:TC) (e:Ec):Sp:=bx (Nz T e)
theorem x9 {st:HS} (h1:isNm x=true) (h2:x∉st.nms):newR st x=none:=by unfold newR;rw [aB h1,aA h2]
theorem NB {st:HS} {o:Str} (h1:isNm x=true) (h2:x∉st.nms) (h3:o∈st.own) (h4:1<=wo) (h5:0<=we):BH st x o wo we=none:=by
 unfold BH;rw [x9 h1 h2];show (if o∈st.own then _ else _)=_;rw [aB h3,aA (by omega)]
variable {st':HS}
theorem Ep.of {e:Ec} {n:Nat} {r:Option Nat} {Q:VK} (h:r=none) (q:t9 T n ρ A H st' fun H'=>Q .bU H'):Ep T e n ρ A H r st' Q E0:=⟨(fun i z=>by rw [h] at z;cases z),fun _=>q⟩
inductive Dd where
 | sign (o:Str)|load (x o:Str) (wo we:Int)|cast (rs:List Row)|award (o:Str) (a:Int)|mishap (x:Str) (a:Int)|rise (x:Str) (a:Int)|hand (x o:Str)|land (x:Str)|sever (x y:Str) (a we:Int)|still
def iZ:List Row->List V
 | []=>[]
 | r::rs=> .str r.1 :: .int r.2::iZ rs
def Dd.v:Dd->List V
 | .sign o=>[.str "sign", .str o]
 | .load x o wo we=>[.str "load", .str x, .str o, .int wo, .int we]
 | .cast rs=> .str "cast"::iZ rs
 | .award o a=>[.str "award", .str o, .int a]
 | .mishap x a=>[.str "mishap", .str x, .int a]
 | .rise x a=>[.str "rise", .str x, .int a]
 | .hand x o=>[.str "hand", .str x, .str o]
 | .land x=>[.str "land", .str x]
 | .sever x y a we=>[.str "sever", .str x, .str y, .int a, .int we]
 | .still=>[.str "still"]
def fu (st:HS):List Str:=st.ak.map fun p=>p.nm
def jU (st:HS) (r:Row):Option Nat:=if r.1∈fu st then (if r.2<1 then some 5 else if (cE st r.1).wo<r.2 then some 6 else none) else some 3
def wk (st:HS) (rs:List Row):Option Nat:=if rs≠[]/\(rs.map fun r:Row=>r.1).Nodup then (match rs.findSome? (jU st) with
 | some i=>some i
 | none=>if aM st<=bD rs then some 6 else none) else some 7
def kr (st:HS) (o:Str) (a:Int):Option Nat:=if o∈st.own then (if a<1 then some 5 else if aM st<=a then some 6 else none) else some 2
def lS (st:HS) (x:Str) (a:Int):Option Nat:=if x∈fu st then (if a<1 then some 5 else none) else some 3
def kR (st:HS) (x o:Str):Option Nat:=if x∈fu st then (if o∈st.own then none else some 2) else some 3
def ue (st:HS) (x:Str):Option Nat:=if x∈fu st then none else some 3
def i6 (st:HS) (x y:Str) (a we:Int):Option Nat:=if x∈fu st then (match newR st y with
 | some i=>some i
 | none=>if a<1\/we<0 then some 5 else if (cE st x).wo<=a\/(cE st x).we<we then some 6 else none) else some 3
def sH (st:HS):Dd->Option Nat
 | .sign o=>v_ st o
 | .load x o wo we=>BH st x o wo we
 | .cast rs=>wk st rs
 | .award o a=>kr st o a
 | .mishap x a=>jU st (x,a)
 | .rise x a=>lS st x a
 | .hand x o=>kR st x o
 | .land x=>ue st x
 | .sever x y a we=>i6 st x y a we
 | .still=>none
def HX (st:HS) (o:Str) (a:Int):HS:=bh st (aM st-a) (aM st) ((List.replicate st.own.length 0).set (st.own.idxOf o) (a*st.prod))
def nK (st:HS) (x:Str) (f:Pt->Pt):HS:={ st with ak:=st.ak.map fun p=>if p.nm=x then f p else p }
def Gd (st:HS) (x:Str) (a:Int):HS:=nK st x fun p=>{ p with wo:=p.wo+a }
def kT (st:HS) (p:Pt) (o:Str):List Int:=((a_ st p).set (st.own.idxOf o) ((a_ st p).getD (st.own.idxOf o) 0+(a_ st p).getD (st.own.idxOf p.ow) 0)).set (st.own.idxOf p.ow) 0
def fH (st:HS) (x o:Str):HS:=if st.own.idxOf o=st.own.idxOf (cE st x).ow then st else nK st x fun p=>{ p with ow:=o,sc:=1,row:=ko st (kT st p o) }
def gj (st:HS) (p:Pt):List Int:=List.zipWith (fun u t=>u+p.wo*t) st.bH (a_ st p)
def p6 (st:HS) (x:Str):HS:=
 { st with ak:=st.ak.filter (fun p=>decide (p.nm≠x))
           dj:=st.dj++[⟨x,(cE st x).ow,(cE st x).wo,nG st (cE st x)⟩]
           kn:=st.kn+100
           bH:=(gj st (cE st x)).set (st.own.idxOf (cE st x).ow) ((gj st (cE st x)).getD (st.own.idxOf (cE st x).ow) 0-(cE st x).wo*st.prod) }
def nL (st:HS) (x y:Str) (a we:Int):HS:=Bv (nK st x fun p=>{ p with wo:=p.wo-a,we:=p.we-we }) ⟨y,(cE st x).ow,a,we,(cE st x).sc,(cE st x).row⟩
def gP (st:HS):Dd->HS
 | .sign o=>f7 st o
 | .load x o wo we=>Gb st x o wo we
 | .cast rs=>iL st rs
 | .award o a=>HX st o a
 | .mishap x a=>dX st (x,a)
 | .rise x a=>Gd st x a
 | .hand x o=>fH st x o
 | .land x=>p6 st x
 | .sever x y a we=>nL st x y a we
 | .still=>st
def wl (s:Str):Nat:=s.cps.toList.length
section
variable {X:Cx}
end
section
variable {P:Program} {w:World} {K:Fg} {mg:SO} {base:Heap} {k:Nat} {T:TC} {e:Ec} {ps:List Str}
theorem RL (D:Mx P w K mg base k T.hold "place_of" ps (wg T e)):Mn P w K mg base k T.hold "place_of" ps (rF T):=
 D.mn fun vs H Q E h=>by
   obtain ⟨⟨n,ρ,A,st,o,rfl,hx,ho,q⟩⟩:=h
   exact ⟨n,ρ,A,st,o,Z,hx,fun z=>absurd ho z,fun _=>q⟩
theorem Pz (D:Mx P w K mg base k T.hold "part_of" ps (kq T e)):Mn P w K mg base k T.hold "part_of" ps (zV T):=
 D.mn fun vs H Q E h=>by
   obtain ⟨⟨n,ρ,A,st,i,p,qq,rfl,hx,nd,ep,eq,q⟩⟩:=h
   refine ⟨n,ρ,A,st,p.nm,Z,hx,nd,fun z=>absurd rfl (z p (bO ep)),fun j p' q' e1 e2 e3=>?_⟩
   have:j=i:=Bt nd e2 ep e1
   subst this
   rw [eq] at e3;cases e3
   exact q
end
def nB (i:Int):Prop:=-1000000000<=i/\i<=1000000000
def Tc:Dd->Prop
 | .sign o=>wl o<=20
 | .load x o wo we=>wl x<=20/\wl o<=20/\nB wo/\nB we
 | .cast rs=>rs.length<=60/\∀r∈rs,wl r.1<=20/\nB r.2
 | .award o a=>wl o<=20/\nB a
 | .mishap x a=>wl x<=20/\nB a
 | .rise x a=>wl x<=20/\nB a
 | .hand x o=>wl x<=20/\wl o<=20
 | .land x=>wl x<=20
 | .sever x y a we=>wl x<=20/\wl y<=20/\nB a/\nB we
 | .still=>True
def Dd.k:Dd->Nat
 | .sign _=>0 | .load .. =>1 | .cast _=>2 | .award .. =>3 | .mishap .. =>4 | .rise .. =>5 | .hand .. =>6 | .land _=>7 | .sever .. =>8 | .still=>9
def NC (n:Nat):Str:=(["sign","load","cast","award","mishap","rise","hand","land","sever","still"] :List Str).getD n "still"
def Dd.w (d:Dd):Str:=NC d.k
theorem Dd.v0 (d:Dd):d.v[0]?=some (.str d.w):=by cases d <;> rfl
theorem Dd.k_lt (d:Dd):d.k<10:=by cases d <;> simp [Dd.k]
theorem Zy:∀m n:Fin 10,m≠n->NC m.val≠NC n.val:=by decide +kernel
variable {d:Dd}
theorem Dd.HY {n:Nat} (h:d.k≠n) (hn:n<10):d.w≠NC n:=Zy ⟨d.k,d.k_lt⟩ ⟨n,hn⟩ fun e=>h (jY Fin.val e)
theorem PB:∀{l:List Int},(∀x∈l,0<=x)->0<=l.sum
 | [],_=>jX _
 | a::l,h=>by
   rw [cL]
   have:=h a cV
   have:=PB (l:=l) fun x hx=>h x (cD _ hx)
   omega
theorem x_:∀(l m:List Row),iZ (l++m)=iZ l++iZ m
 | [],_=>rfl
 | r::l,m=>by
   show V.str r.1::V.int r.2::iZ (l++m)=V.str r.1::V.int r.2::(iZ l++iZ m)
   rw [x_ l m]
theorem ya:∀l:List Row,(iZ l).length=2*l.length
 | []=>rfl
 | r::l=>by
   show (iZ l).length+1+1=_
   rw [ya l,jy];omega
theorem pA (h:isNm x=true):wl x<=20:=by
 unfold isNm isName at h
 have:=aX (lZ.mp (lZ.mp h).1).2
 unfold wl
 omega
theorem uf {st:HS} {o:Str} (h:BH st x o wo we=none):isNm x=true/\x∉st.nms/\o∈st.own/\1<=wo/\0<=we:=by
 unfold BH at h
 cases hn:newR st x with
 | some j=>rw [hn] at h;cases h
 | none=>
   rw [hn] at h
   have h':(if o∈st.own then (if wo<1\/we<0 then some 5 else none) else some 2)=none:=h
   have hx:isNm x=true/\x∉st.nms:=by
    unfold newR at hn
    by_cases c:isNm x=true
    . rw [aB c] at hn
      by_cases m:x∈st.nms
      . rw [aB m] at hn;cases hn
      . exact ⟨c,m⟩
    . rw [aA c] at hn;cases hn
   by_cases ho:o∈st.own
   . rw [aB ho] at h'
     by_cases hb:wo<1\/we<0
     . rw [aB hb] at h';cases h'
     . exact ⟨hx.1,hx.2,ho,by omega,by omega⟩
   . rw [aA ho] at h';cases h'
theorem Dd.LP (h:d.k=7):∃x,d = .land x:=by cases d <;> first|exact ⟨_,Z⟩|(simp [Dd.k] at h)
end L2
set_option autoImplicit true
namespace L2
open PySem PySem.Spec PyProof.Rows
structure bE (X:Cx) (e:Expr) (t:TE):Prop where h:PE X e t
structure bT (X:Cx) (e:Expr) (t:TT):Prop where h:PT X e t
structure bW (X:Cx) (e:Expr) (t:TT):Prop where h:PW X e t
structure bA (X:Cx) (es:List Expr) (t:TA):Prop where h:PA X es t
structure bS (X:Cx) (s:Stmt) (t:TS):Prop where h:PS X s t
structure cU (X:Cx) (s:List Stmt) (t:TS):Prop where h:oH X s t
structure bC (X:Cx) (op:CmpOp) (a b:Expr) (t:TE):Prop where h:PC X op a b t
structure bG (X:Cx) (e:Expr) (t:TG):Prop where h:PG X e t
structure Td (X:Cx) (e:List Expr) (t:AL):Prop where h:Z2 X e t
structure bI (X:Cx) (tg iter:Expr) (wi:TI):Prop where h:PI X tg iter wi
structure Te (X:Cx) (pos:Pos) (ks:List (Option Expr)) (vs:List Expr) (t:List (TE×TE)):Prop where h:PPs X pos ks vs t
theorem bW.pt {X:Cx} {e:Expr} {t:TT} (h:bW X e t):bT X e t:=⟨h.h.pt⟩
theorem Xa {op} {t:TE} (h:bE X a t):bE X (.BoolOp op [a] pos) t:=by
 have h:=h.h;exact ⟨fun pins s σ H Q I hw=>BoolOp_one (h pins s σ H Q I hw)⟩
theorem yb {e:Expr} {t:TE} (h:bE X e t) (he:∀whole,isTrue e X.env whole=(do let v <-whole;standAt e.pos;holding [v] (truthy v)):=by intro _;rfl):bT X e (tB t):=by
 have h:=h.h;constructor
 intro pins s σ H Q I hw
 refine isTrue_plain (bg (h pins s σ H _ I hw) fun v s1 ⟨x,H1,I1,r1,q1⟩=>?_) (he _)
 obtain ⟨d,rfl,q⟩:=q1
 cases r1
 exact CJ ⟨H1,I1,q⟩
theorem aJ {r:R2} (hr:wW X r) (ha:bE X a ta) (hb:bE X b tb) (hs:T_ b:=by exact fun _ _=>rfl):bE X (.Subscript a b pos) (Lk r ta tb):=by
 have ha:=ha.h;have hb:=hb.h;constructor
 intro pins s σ H Q I h
 exact Subscript_ (QX ha hb I h fun v u s2 x y H2 I2 rx ry q=>hr a b pins s2 σ H2 x y v u Q I2 rx ry q (hs _ _))
theorem gY:Td X [] VB:=by
 constructor
 intro pins s σ H vs us Q I r h
 obtain ⟨e,h⟩:=h
 subst e
 cases r
 exact assignInOrder_nil ⟨σ,H,I,h⟩
theorem aV {i:Nat} {x:Str} (hN:X.N.Nodup) (hi:X.N[i]?=some x:=by rfl) (hx:Loc X.env.scope x:=by first|exact Or.inl rfl|exact Or.inr rfl) (hf:X.fn x=true\/X.env.scope.names.lookup x=some .local:=by first|exact .inl rfl|exact .inr rfl|assumption):bG X (.Name x pos) (pX i):=by
 constructor
 intro pins s σ H v u Q I r h
 exact wpAny_assign_Name (vI I hN hi hx r (fun s' I'=>⟨_,H,I',h⟩) hf)
theorem HZ {c:Expr} {body:List Stmt} {tc:TT} {tb:TS} (hp:PassesOwn (model X.prog X.w) X.A X.env X.xe) (hc:bT X c tc) (hb:cU X body tb):bS X (.While c body [] pos) (VI tc tb):=by
 have hc:=hc.h;have hb:=hb.h;constructor
 intro pins s σ H D I h
 obtain ⟨W,⟨m0,w0⟩,turn⟩:=h
 refine wpAny_While (codeAny_whileLoop (fun n s'=>∃σ' H',Inv X pins σ' H' s'/\W n σ' H') ?_ m0 ⟨σ,H,I,w0⟩)
 rintro n s1 ⟨σ1,H1,I1,w1⟩
 refine vC hp (bg (hc pins s1 σ1 H1 _ I1 (turn n σ1 H1 w1)) fun b s2 ⟨H2,I2,q2⟩=>?_)
 cases b with
 | true=>
   obtain ⟨N,hN,q2⟩:=q2
   rw [aB rfl]
   refine vC hp (bg (hb pins s2 σ1 H2 _ I2 q2) fun f s3 q3=>?_)
   cases f with
   | next=>
     obtain ⟨σ3,H3,I3,n3⟩:=q3
     obtain ⟨m',hm,w3⟩:=hN σ3 H3 n3
     exact ⟨m',hm,σ3,H3,I3,w3⟩
   | cont=>
     obtain ⟨σ3,H3,I3,n3⟩:=q3
     obtain ⟨m',hm,w3⟩:=hN σ3 H3 n3
     exact ⟨m',hm,σ3,H3,I3,w3⟩
   | brk=>exact q3
   | ret v=>exact q3
 | false=>
   rw [aA fh]
   exact FT ⟨σ1,H2,I2,q2⟩
theorem yV {tg:Expr} {ob:Expr} {td:TE} {apos cpos:Pos} (hob:bE X ob td) (hbase:attributeBase ob "values" X.env (eval ob X.env)=eval ob X.env:=by rfl) (hline:(apos.endLine==cpos.line)=true:=by rfl):bI X tg (.Call (.Attribute ob "values" apos) [] [] cpos) (Zi td):=by
 have hob:=hob.h;constructor
 intro pins s σ H R I h
 refine wpAny_Call_method0_late hbase hline (bg (hob pins s σ H _ I h) fun v s1 ⟨x,H1,I1,r1,q1⟩=>?_)
 obtain ⟨d,o,kvs,rfl,e,fin⟩:=q1
 cases r1
 obtain ⟨ho,hz,hsys,vs,ep,rel,da⟩:=I1.pZ e
 obtain ⟨t1,t2,_⟩:=GQ I1 (.inl ⟨kvs, .inr ⟨o,e⟩⟩)
 have dd:=da.dictOf
 refine ⟨"dict",_,F.plainAttrs_dict,MC,F.type_dict_values,t1,t2,Mt rfl (PySem.evalArgs_none ?_)⟩
 refine call_meetsIn MC dd.typeIs F.entry_dict_values (F.args_dict_values_1 _) (meets_dict_values (cI X.prog X.w) d hsys) ⟨⟨vs,dd⟩,?_⟩
 refine wpAny_pyIter_values (s:={ s1 with heap:=s1.heap.push { cls:= .type "dict_values",data:= .fields #[.ref d] } }) ⟨_,dZ _ rfl,Z,Z⟩ (da.push _) ?_
 have Iv:Inv X pins σ H1 { s1 with heap:=s1.heap.push { cls:= .type "dict_values",data:= .fields #[.ref d] } }:=I1.kept (t':=s1.toks) fun b o e=>b7 _ e
 generalize ({ s1 with heap:=s1.heap.push { cls:= .type "dict_values",data:= .fields #[.ref d] } }:Shared)=sv at *
 have I2:Inv X pins σ H1 { sv with heap:=sv.heap.push { cls:= .type "dict_valueiterator",data:= .fields #[.ref d, .int 0 0, .int vs.length 0, .int ep 0] } }:=Iv.kept (t':=sv.toks) fun b o e=>b7 _ e
 have hl:kvs.length=vs.length:=rel.length
 obtain ⟨o',es,h1,_,h2,_⟩:=id da
 rw [ho] at h1;cases h1
 refine ⟨sv.heap.objs.size,[sv.heap.objs.size],_,_,H1,Z,I2,O5 h2,?_,fun b hb=>?_,fin⟩
 . rw [hl];exact ⟨_,dZ _ rfl,Z,Z⟩
 . have eb:b=sv.heap.objs.size:=by simpa using hb
   subst eb
   exact Iv.zQ (aN _) (Iv.hok.fresh (aN _))
theorem LQ {o i e:Expr} {to ti te:TE} {xx:V->V->Hp->VK->Prop} {wV:Gz} {nc:qF} {op:Operator} {tpos:Pos} (ho:bE X o to) (hi:bE X i ti) (hg:VF X xx) (he:bE X e te) (hp:VA X op wV) (hs:QM X nc) (ha:∀ov iv new,augStore i ov iv new=(do holding [new,ov,iv] (setItem ov iv new);release [new,ov,iv] [];pure .next):=by intros;rfl):bS X (.AugAssign (.Subscript o i tpos) op e pos) (YV to ti te xx wV nc):=by
 have ho:=ho.h;have hi:=hi.h;have he:=he.h;constructor
 intro pins s σ H D I h
 refine wpAny_AugAssign_SubscriptAny (bg (ho pins s σ H _ I h) fun ov s1 ⟨x1,H1,I1,r1,q1⟩=>?_) ha
 refine bg (hi pins s1 σ H1 _ I1 q1) fun iv s2 ⟨x2,H2,I2,r2,q2⟩=>?_
 refine bg (hg pins s2 σ H2 x1 x2 ov iv _ I2 r1 r2 q2) fun old s3 ⟨x3,H3,I3,r3,q3⟩=>?_
 refine bg (he pins s3 σ H3 _ I3 q3) fun v s4 ⟨x4,H4,I4,r4,q4⟩=>?_
 refine bg (hp pins s4 σ H4 x3 x4 old v _ I4 r3 r4 q4) fun new s5 ⟨x5,H5,I5,r5,q5⟩=>?_
 exact bg (hs pins s5 σ H5 x1 x2 x5 ov iv new _ I5 r1 r2 r5 q5) fun _ s6 ⟨H6,I6,q6⟩=>⟨σ,H6,I6,q6⟩
theorem kU {id:String} (pa:PlainAttrs T) (slot:Slot T name id) (hty:typeOf (.builtin id)=pure (.type "method_descriptor")) (hm:MtR X id r) (ho:bE X o to) (ha:bA X (e::es) t) (hbase:attributeBase o name X.env (eval o X.env)=eval o X.env:=by rfl) (hfew:((backTo cpos (starEach (e::es) X.env)).all (fun x=>!x.1) && (backToKw cpos (keywordEach [] X.env)).all (fun x=>x.1.isSome)
   && decide ((e::es).length+([] :List Keyword).length+(if ([] :List Keyword).isEmpty then 0 else 1)<30))=true:=by rfl) (hline:(apos.endLine==cpos.line)=true:=by rfl) (hs:starEach (e::es) X.env=(false,eval e X.env)::starEach es X.env:=by rfl) (hplain:(backTo cpos (starEach es X.env)).any (·.1)=false:=by rfl):bE X (.Call (.Attribute o name apos) (e::es) [] cpos) (tBM X.K T r to t):=by
 have ho:=ho.h;have ha:=ha.h;constructor
 intro pins s σ H Q I h
 refine wpAny_Call_method_late hbase hfew hline rfl (bg (ho pins s σ H _ I h) fun v s1 ⟨x,H1,I1,r1,ty,q1⟩=>?_)
 obtain ⟨h1,h2⟩:=Wa I1 r1 ty
 refine ⟨T,id,pa,slot,hty,h1,h2,?_⟩
 have hA:=ha cpos pins s1 σ H1 _ I1 q1
 rw [hs] at hA ⊢
 refine Mt (by show (false || (backTo cpos (starEach es X.env)).any (·.1))=false;rw [hplain] <;> rfl) (Calls.evalArgs_plain ?_)
 exact bg hA fun us s2 ⟨vs,H2,I2,r2,q2⟩=>hm pins s2 σ H2 x vs v us Q I2 r1 r2 q2
theorem UN {X:Cx} {pos:Pos}:Te X pos [] [] [] :=by
 exact ⟨fun pins s σ H Q I h=>pairTrees_nil_walk ⟨[],H,I, .nil,h⟩⟩
theorem H_ {X:Cx} {e:Expr} {t:TE} (h:bE X e t):bE X e (acs t):=by
 have h:=h.h;constructor
 intro pins s σ H Q I hw
 obtain ⟨d,kvs,e,hw⟩:=hw
 obtain ⟨ho,es,ep,h1,_⟩:=(AX I.hok e).2.2.choose_spec.2
 have h0:=I.O3 e
 exact bg (h pins s σ _ _ (I.freeze e h1) (hw ho)) fun u s' ⟨v,H',I',r,q1,q2⟩=>⟨v,_,I'.zU q1 h0,r,q2⟩
theorem RM {op op':CmpOp} {r r':R2} (ho:ji X (compareOp op) r) (ho':ji X (compareOp op') r') (ha:bE X a ta) (hb:bE X b tb) (hc:bE X c tc) (hm:lastMarks [op,op'] [b,c]=false:=by with_unfolding_all rfl):bE X (.Compare a [op,op'] [b,c] pos) (VQ r r' ta tb tc):=by
 have ha:=ha.h;have hb:=hb.h;have hc:=hc.h;constructor
 intro pins s σ H Q I h
 refine Compare_chain (bg (ha pins s σ H _ I h) fun v s1 ⟨x,H1,I1,r1,q1⟩=>chain_link (bg (hb pins s1 σ H1 _ I1 q1) fun u s2 ⟨y,H2,I2,r2,q2⟩=>
  bg (ho pins s2 σ H2 x y v u _ I2 r1 r2 q2) fun d s3 ⟨z,H3,I3,r3,k,e,q3⟩=>?_)) hm
 subst e
 cases r3
 refine CJ ?_
 cases k with
 | false=>exact ite_ff ⟨.bl false,H3,I3,Z,q3⟩
 | true=>exact ite_tt (chain_last (bg (hc pins s3 σ H3 _ I3 q3) fun w' s4 ⟨z',H4,I4,r4,q4⟩=>ho' pins s4 σ H4 y z' u w' Q I4 r2 r4 q4))
theorem iE {x1} (h:bA X es t):bE X (.Tuple es x1 pos) (acd t):=by
 have h:=h.h;constructor
 intro pins s σ H Q I hq
 refine wpAny_Tuple_spliced (bg (h pos pins s σ H _ I hq) fun us s1 ⟨xs,H1,I1,r,z,q⟩=>⟨by rw [<-r.length];exact z,?_⟩)
 have hf:H1 s1.heap.objs.size=none:=I1.hok.fresh (aN _)
 refine ⟨.ref s1.heap.objs.size,upd H1 s1.heap.objs.size (.tup xs),I1.laid (t':=s1.toks) (fun b u e=>b7 _ e) (aN _) ?_,Z,q _ hf⟩
 exact ⟨z,us,r,⟨_,dZ _ rfl,Z,_,Z⟩⟩
theorem z7 {tg iter elt cond:Expr} {scope:Scope} {pos:Pos} (N2:List Str) (ix:List (Option Nat)) {wi:TI} {g:TG} {tc:TT} {te:TE} (hc:X.calm=true) (hi:bI X tg iter wi) (hg:∀cl s₂ H₂ fp,bG (dz X N2 scope cl s₂ H₂ fp) tg g) (he:∀cl s₂ H₂ fp,bE (dz X N2 scope cl s₂ H₂ fp) elt te) (ht:∀cl s₂ H₂ fp,bT (dz X N2 scope cl s₂ H₂ fp) cond tc) (hk:scope.kind = .function) (hn:qo X.N X.env.scope.names scope.names N2 ix=true) (hs:∀x,foldedSetIterable iter X.env x=pure x:=by intro _;rfl):bE X (.ListComp elt [⟨tg,iter,[cond],0⟩] scope pos) (OY wi ix g tc te):=⟨Ru N2 ix hc hi.h (fun cl s₂ H₂ fp=>(hg cl s₂ H₂ fp).h) (fun cl s₂ H₂ fp=>(he cl s₂ H₂ fp).h) (fun cl s₂ H₂ fp=>(ht cl s₂ H₂ fp).h) hk hn hs⟩
theorem aG {op:Operator} {r:R2} (ho:ji X (binaryOp op) r) (ha:bE X a ta) (hb:bE X b tb):bE X (.BinOp a op b pos) (Lk r ta tb):=by
 have ha:=ha.h;have hb:=hb.h;constructor
 intro pins s σ H Q I h
 exact wpAny_BinOp (QX ha hb I h fun v u s2 x y H2 I2 rx ry q=>ho pins s2 σ H2 x y v u Q I2 rx ry q)
theorem ve {op:CmpOp} {t:TE} (h:bC X op a b t) (h1:behindInMarks op b=false:=by first|exact acC _ (by decide) (by decide)|rfl):bT X (.Compare a [op] [b] pos) (tB t):=by
 have h:=h.h;constructor
 intro pins s σ H Q I hw
 refine wpAny_isTrue_Compare1 (bg (h pins s σ H _ I hw) fun v s1 h1=>bg h1 fun u s2 h2=>bg h2 fun c s3 ⟨x,H1,I1,r1,q1⟩=>?_) h1
 obtain ⟨d,rfl,q⟩:=q1
 cases r1
 exact CJ ⟨H1,I1,q⟩
theorem fT {tg:Expr} {iter:Expr} {body:List Stmt} {wi:TI} {g:TG} {tb:TS} {pos:Pos} (hp:PassesOwn (model X.prog X.w) X.A X.env X.xe) (hc:X.calm=true) (hi:bI X tg iter wi) (hg:bG X tg g) (hb:cU X body tb) (hs:∀x,foldedSetIterable iter X.env x=pure x:=by intro _;rfl):bS X (.For tg iter body [] pos) (ab6 wi g tb):=by
 have hi:=hi.h;have hg:=hg.h;have hb:=hb.h;constructor
 intro pins s σ H D I h
 refine wpAny_For (bg (hi pins s σ H _ I h) fun v s1 h1=>bg h1 fun itv s2 h2=>?_) hs
 obtain ⟨it,fp,tn,J,H2,e,I2,T,st2,f2,W,⟨m0,w0⟩,turn⟩:=h2
 subst e
 have rW:∀{H':Hp},(∀b∈fp,H' b=none)->∀b∈fp,ng X pins H' b:=fun hn b hb=>⟨hn b hb,(f2 b hb).2⟩
 refine codeAny_forLoop_any (fun n s'=>∃i σ' H',Inv X pins σ' H' s'/\tn i s'.heap/\(∀b∈fp,H' b=none)/\W i n σ' H') ?_ m0 ⟨0,σ,H2,I2,st2,fun b hb=>(f2 b hb).1,w0⟩
 rintro n s3 ⟨i,σ3,H3,I3,st3,Tf,w3⟩
 rcases turn i n σ3 H3 w3 with ⟨stop,qn⟩|⟨go,N,hN,step⟩
 . refine vC hp (bg (T.done X rfl rfl rfl hc i pins s3 σ3 H3 X.xe I3 (rW Tf) st3 stop) fun r s4 ⟨hr,I4⟩=>?_)
   subst hr
   exact FT ⟨σ3,H3,I4,qn⟩
 . refine vC hp (bg (T.item X rfl rfl rfl hc i pins s3 σ3 H3 X.xe I3 (rW Tf) st3 go) fun r s4 ⟨u,hr,h4⟩=>?_)
   subst hr
   refine vC hp (bg h4 fun _ s5 ⟨x,H5,I5,r5,y5,Be,GZ⟩=>?_)
   have I5':=I5.pinned (rW GZ) (T.obj _ _ Be)
   refine vC hp (bg (hg _ s5 σ3 H5 x u _ I5' r5 (step x H5 y5)) fun _ s6 ⟨σ6,H6,I6,q6⟩=>?_)
   refine vC hp (bg (hb _ s6 σ6 H6 _ I6 q6) fun f s7 q7=>?_)
   have again:∀{σ7:St} {H7:Hp},Inv X (pins++AQ fp s5.heap) σ7 H7 s7->N σ7 H7->∃m,m<n/\∃i σ' H',Inv X pins σ' H' s7/\tn i s7.heap/\(∀b∈fp,H' b=none)/\W i m σ' H':=fun {σ7 H7} I7 n7=>by
    obtain ⟨m',hm,w7⟩:=hN σ7 H7 n7
    refine ⟨m',hm,i+1,σ7,H7,I7.oV,T.keep _ _ _ Be fun b hb o e=>(I7.pin (b,o) (ja _ (ja _ (iV hb e)))).1,fun b hb=>?_,w7⟩
    obtain ⟨o,e,d⟩:=T.obj _ _ Be b hb
    exact (I7.pin (b,o) (ja _ (ja _ (iV hb e)))).2.1
   cases f with
   | next=>obtain ⟨σ7,H7,I7,n7⟩:=q7;exact again I7 n7
   | cont=>obtain ⟨σ7,H7,I7,n7⟩:=q7;exact again I7 n7
   | brk=>obtain ⟨σ7,H7,I7,q7⟩:=q7;exact ⟨σ7,H7,I7.oV,q7⟩
   | ret v=>obtain ⟨x7,σ7,H7,I7,r7,q7⟩:=q7;exact ⟨x7,σ7,H7,I7.oV,r7,q7⟩
theorem UO:bS X (.Return none pos) YQ:=by
 exact ⟨fun _ _ σ H _ I h=>wpAny_Return_none ⟨.bU,σ,H,I,Z,h⟩⟩
theorem gE {tg iter elt:Expr} {scope:Scope} {pos:Pos} (N2:List Str) (ix:List (Option Nat)) {wi:TI} {g:TG} {te:TE} (hc:X.calm=true) (hi:bI X tg iter wi) (hg:∀cl s₂ H₂ fp,bG (dz X N2 scope cl s₂ H₂ fp) tg g) (he:∀cl s₂ H₂ fp,bE (dz X N2 scope cl s₂ H₂ fp) elt te) (hk:scope.kind = .function) (hn:qo X.N X.env.scope.names scope.names N2 ix=true) (hs:∀x,foldedSetIterable iter X.env x=pure x:=by intro _;rfl):bE X (.ListComp elt [⟨tg,iter,[],0⟩] scope pos) (SQ wi ix g te):=by
 have hi:=hi.h;have hg:=fun cl s₂ H₂ fp=>(hg cl s₂ H₂ fp).h;have he:=fun cl s₂ H₂ fp=>(he cl s₂ H₂ fp).h;constructor
 intro pins s σ H Q I h
 obtain ⟨k1,k2,k3,k4,k5⟩:=nv hn
 obtain ⟨cl,OZ,c1,c2⟩:=vM (scope:=scope) (env:=X.env) fun y hy e=>I.ok.has y.1 (k3 y hy e)
 rw [eval_ListComp]
 refine wpAny_comprehension_free (use:=none) rfl hs OZ hk k4 (bg (hi pins s σ H _ I h) fun v s1 h1=>bg h1 fun itv s2 h2=>?_)
 obtain ⟨it,fp,tn,J,H2,e,I2,T,st2,f2,h2⟩:=h2
 subst e
 refine Bc (RR:=fun acc C=>compPost (model X.prog X.w) X.A X.xe none (EP X pins σ Q) acc C) (Q:=Q) hc hg he hk hn (fun y c m=>(c1 y c m).1) c2 I2 T st2 f2 h2 ?_
 intro acc C H' s' m I' ns Bd hL hsz u6 Bo q
 exact ⟨m,ns,fun h' hs'=>⟨.ref acc,H',I'.turned (it:=C) (t':=s'.toks) (fun b o hb e=>(hs'.2 b hb).trans e) Bd hL (.inr hsz) u6 Bo,Z,q⟩⟩
theorem Ia (hu:X.A.units+1<cLine) (hi:bE X i ty) (ho:bE X o td):bC X .In i o (acm ty td):=by
 have hi:=hi.h;have ho:=ho.h;constructor
 intro pins s σ H Q I h
 refine bg (hi pins s σ H _ I h) fun iv s1 ⟨y,H1,I1,ry,q1⟩=>bg (ho pins s1 σ H1 _ I1 q1) fun u s2 ⟨x,H2,I2,rx,a,ov,ex,g,q2⟩=>?_
 subst ex
 obtain rfl:u=Value.ref a:=rx
 exact ack hu I2 g ry fun s3 I3=>⟨.bl ov.isSome,H2,I3,Z,q2⟩
theorem bw {x j pos}:bE X (.Constant (.str x) j pos) (tC (.str x)):=⟨Of⟩
theorem Tg {op:UnaryOp} {r:V->Hp->VK->Prop} (ho:VM X (unaryOp op) r) (ha:bE X a ta):bE X (.UnaryOp op a pos) (tUn r ta):=by
 have ha:=ha.h;constructor
 intro pins s σ H Q I h
 exact UnaryOp_ (bg (ha pins s σ H _ I h) fun v s1 ⟨x,H1,I1,r1,q1⟩=>ho pins s1 σ H1 x v Q I1 r1 q1)
theorem pB (K:Fg) {a b:Expr} {ta:TA} {p pos:Pos} (hg:Gl X "zip") (hm:X.mg "zip"=none) (ha:bA X [a,b] ta) (hK:X.K=K:=by rfl) (hs:starEach [a,b] X.env=[(false,eval a X.env),(false,eval b X.env)] :=by rfl) (hs2:starEach [b] X.env=[(false,eval b X.env)] :=by rfl):bI X (.Tuple elts kk tpos) (.Call (.Name "zip" p) [a,b] [] pos) (Zk K ta):=by
 have ha:=ha.h;constructor
 subst hK
 intro pins s σ H R I h
 refine Call_ (uW I hg hm boot_zip (N_ (bg (ha pos pins s σ H _ I h) fun us s1 ⟨vs,H1,I1,r1,q1⟩=>?_) (by rw [hs,hs2]) (by rw [hs2];rfl)))
 obtain ⟨u1,u2,S1,S2,xs,ys,e,k1,k2,q⟩:=q1
 subst e
 obtain ⟨u,w',rfl,ru,rw'⟩:=vals2 r1
 obtain ⟨g1,l1,o1,p1,lt1,b1,afa,at1,st1,c1⟩:=k1.ok I1 ru
 obtain ⟨g2,l2,o2,p2,lt2,b2,Zz,at2,st2,c2⟩:=k2.ok I1 rw'
 refine callType_newIn F.called_zip (by decide) (F.typeCall_zip_2 _ _) (F.newCall_zip_2 _ _) (fun obj=>F.args_object_init_3 obj _ _) F.entry_zip_new (Nk st1 st2) ⟨b1,Zz _ _ b2,?_⟩
 have z1:(s1.heap.push o1).objs.size=s1.heap.objs.size+1:=kL ..
 have z2:((s1.heap.push o1).push o2).objs.size=s1.heap.objs.size+2:=by rw [kL,z1]
 generalize e3:({ cls:= .type "tuple",data:= .seq #[.ref s1.heap.objs.size, .ref (s1.heap.push o1).objs.size] }:Obj)=o3
 have z3:(((s1.heap.push o1).push o2).push o3).objs.size=s1.heap.objs.size+3:=by rw [kL,z2]
 generalize e4:({ cls:= .type "tuple",data:= .seq #[.none, .none] }:Obj)=o4
 have z4:((((s1.heap.push o1).push o2).push o3).push o4).objs.size=s1.heap.objs.size+4:=by rw [kL,z3]
 generalize e5:({ cls:= .type "zip",data:= .fields #[.none, .bool false, .bool false, .ref ((s1.heap.push o1).push o2).objs.size, .ref (((s1.heap.push o1).push o2).push o3).objs.size] }:Obj)=o5
 have g5:(((((s1.heap.push o1).push o2).push o3).push o4).push o5).get? ((((s1.heap.push o1).push o2).push o3).push o4).objs.size=some o5:=dZ _ (by rw [<-e5];rfl)
 have g4:(((((s1.heap.push o1).push o2).push o3).push o4).push o5).get? (((s1.heap.push o1).push o2).push o3).objs.size=some o4:=b7 _ (dZ _ (by rw [<-e4];rfl))
 have g3:(((((s1.heap.push o1).push o2).push o3).push o4).push o5).get? ((s1.heap.push o1).push o2).objs.size=some o3:=b7 _ (b7 _ (dZ _ (by rw [<-e3];rfl)))
 have g2':(((((s1.heap.push o1).push o2).push o3).push o4).push o5).get? (s1.heap.push o1).objs.size=some o2:=b7 _ (b7 _ (b7 _ (at2 _)))
 have g1':(((((s1.heap.push o1).push o2).push o3).push o4).push o5).get? s1.heap.objs.size=some o1:=b7 _ (b7 _ (b7 _ (b7 _ (at1 _))))
 have kp:∀c o,s1.heap.get? c=some o->(((((s1.heap.push o1).push o2).push o3).push o4).push o5).get? c=some o:=fun c o x=>b7 _ (b7 _ (b7 _ (b7 _ (b7 _ x))))
 rw [z4] at g5 ⊢
 rw [z3] at g4 e5
 rw [z2] at g3 e5
 rw [z1] at g2' e3
 generalize (((((s1.heap.push o1).push o2).push o3).push o4).push o5)=hN at *
 show _/\_
 subst e3 e4 e5
 refine ⟨⟨_,g5,Z⟩,wpAny_pyIter_zip (s:={ s1 with heap:=hN }) g5 ?_⟩
 have I2:Inv X pins σ H1 { s1 with heap:=hN }:=I1.kept (t':=s1.toks) kp
 obtain ⟨t1,afh,C1,n1⟩:=c1 s1.heap.objs.size
 obtain ⟨t2,afi,C2,n2⟩:=c2 (s1.heap.objs.size+1)
 refine ⟨s1.heap.objs.size+4,[s1.heap.objs.size+4,s1.heap.objs.size+2,s1.heap.objs.size+3,s1.heap.objs.size,s1.heap.objs.size+1],_,_,H1,Z,I2,O9 (J5 lt1 lt2) C1 C2,⟨g5,g3,⟨_,_,g4⟩,n1 _ g1',n2 _ g2'⟩,fun b hb=>?_,q⟩
 have hb':b=s1.heap.objs.size+4\/b=s1.heap.objs.size+2\/b=s1.heap.objs.size+3\/b=s1.heap.objs.size\/b=s1.heap.objs.size+1:=by simpa using hb
 have le:s1.heap.objs.size<=b:=by
  rcases hb' with r|r|r|r|r
  . rw [r];exact uy _ _
  . rw [r];exact uy _ _
  . rw [r];exact uy _ _
  . rw [r];exact aN _
  . rw [r];exact uy _ _
 exact I1.zQ le (I1.hok.fresh le)
theorem aP {op:CmpOp} {r:R2} (ho:ji X (compareOp op) r) (ha:bE X a ta) (hb:bE X b tb) (hm:behindInMarks op b=false):bT X (.Compare a [op] [b] pos) (MP (Lk r ta tb)):=by
 have ha:=ha.h;have hb:=hb.h;constructor
 intro pins s σ H Q I h
 refine wpAny_isTrue_Compare1 (bg (ha pins s σ H _ I h) fun v s1 ⟨x,H1,I1,r1,q1⟩=>bg (hb pins s1 σ H1 _ I1 q1) fun u s2 ⟨y,H2,I2,r2,q2⟩=>
  bg (ho pins s2 σ H2 x y v u _ I2 r1 r2 q2) fun c s3 ⟨z,H3,I3,r3,k,e,q3⟩=>?_) hm
 subst e
 cases r3
 exact CJ ⟨H3,I3,q3⟩
theorem aS {i:Nat} {x:Str} {e:Expr} {te:TE} {pos':Pos} (hN:X.N.Nodup) (he:bE X e te) (hi:X.N[i]?=some x:=by rfl) (hx:Loc X.env.scope x:=by first|exact Or.inl rfl|exact Or.inr rfl) (hs:swapsWith e (some (.Name x pos')) pos.line X.env=pure false:=by rfl) (hf:X.fn x=true\/X.env.scope.names.lookup x=some .local:=by first|exact .inl rfl|exact .inr rfl|assumption):bS X (.Assign [.Name x pos'] e pos) (QN te (pX i)):=by
 have he:=he.h;constructor
 intro pins s σ H D I h
 refine wpAny_Assign_Name (bg (he pins s σ H _ I h) fun v s1 ⟨y,H1,I1,r1,q1⟩=>?_) hs
 exact vI I1 hN hi hx r1 (fun s2 I2=>⟨_,H1,I2,q1⟩) hf
theorem UP {X:Cx} {pos:Pos} {keys:List (Option Expr)} {values:List Expr} {AZ:List (TE×TE)} (h:Te X pos keys values AZ) (hall:keys.all (·.isSome)=true) (hl:keys.length=values.length) (h0:keys≠[]) (h15:keys.length<=15):bE X (.Dict keys values pos) (Y_ AZ):=by
 have h:=h.h;constructor
 intro pins s σ H Q I q
 have hn:=I.hok.fresh (aN s.heap.objs.size)
 have I1:=I.laid (a:=s.heap.objs.size) (o:= .dK []) (h':=s.heap.push { cls:= .type "dict",data:= .dict #[] }) (t':=s.toks) (fun _ _ q=>b7 _ q) (aN _) (GP s.heap I.big)
 refine wpAny_Dict_walk (knd:=cI X.prog X.w) hall hl h0 h15 (bg (h pins _ σ _ _ I1 (q _ hn)) fun ws s2 ⟨ps,H2,I2,rel,e,kvs,ep,lk,q2⟩=>?_)
 subst ep
 obtain ⟨rs,c,rk⟩:=A0 (P:=X.prog) (w:=X.w) rel
 obtain ⟨z,hd,O_,r0,dd⟩:=AX I2.hok e
 cases r0
 refine ⟨rs,c,dd,fun h' zy hs=>⟨.ref s.heap.objs.size,_,?_,Z,q2⟩⟩
 have hz:(uZ [] kvs).length<=sizeLine:=by
  have h1:=wY kvs []
  rw [List.length_nil] at h1
  rw [jz];omega
 have he:∃q,h'.get? s.heap.objs.size=some q:=let ⟨q,_,_,hq,_⟩:=zy;⟨q,hq⟩
 exact yP I2 (by rw [e];exact True.intro) hs he (GO hz hd (rk.merge .nil) zy)
theorem dM (K:Fg) {tg l:Expr} {tl:TE} (hl:bE X l tl) (hK:X.K=K:=by rfl):bI X tg l (SG K tl):=by
 have hl:=hl.h;exact ⟨hK▸T4 hl⟩
theorem jO {X:Cx} {e:Expr} {t:TT} (h:bT X e t):bT X e (fun σ H Q=>∃b:Bool,t σ H (fun b' H'=>b'=b/\H'=H)/\Q b H):=by
 have h:=h.h;constructor
 intro pins s σ H Q I hw
 obtain ⟨b,hb,q⟩:=hw
 refine bg (h pins s σ H _ I hb) fun b' s' ⟨H',I',e1,e2⟩=>?_
 subst e1 e2
 exact ⟨_,I',q⟩
theorem av {st:Stmt} (h1:bS X st t):cU X [st] t:=by
 have h1:=h1.h;constructor
 intro pins s σ H D I h
 refine wpAny_execs_cons (bg (h1 pins s σ H D I h) fun f s1 q=>?_)
 cases f with
 | next=>exact FT q
 | ret v=>exact q
 | brk=>exact q
 | cont=>exact q
theorem LR (ho:bE X o td) (hi:bE X i ty):bS X (.Delete [.Subscript o i tpos] pos) (Y9 td ty):=by
 have ho:=ho.h;have hi:=hi.h;constructor
 intro pins s σ H D I h
 refine wpAny_Delete (wpAny_deleteEach_cons (wpAny_delete_Subscript (bg (ho pins s σ H _ I h) fun u s1 ⟨x,H1,I1,rx,q1⟩=>bg (hi pins s1 σ H1 _ I1 q1) fun iv s2 ⟨y,H2,I2,ry,a,kvs,k,ex,e,ey,l,q2⟩=>?_)))
 subst ex ey
 obtain rfl:u=Value.ref a:=rx
 exact OI I2 e ry l fun s3 I3=>wpAny_deleteEach_nil ⟨σ,_,I3,q2⟩
theorem Ib (ha:bT X a tA):bT X (.UnaryOp .Not a pos) (ab1 tA):=by
 have ha:=ha.h;constructor
 intro pins s σ H Q I h
 exact isTrue_not (ha pins s σ H (fun c H1=>Q (!c) H1) I h)
theorem cA (he:bE X e te) (hs:swapsWith e none pos.line X.env=pure false:=by rfl):bS X (.Expr e pos) (YO te):=by
 have he:=he.h;constructor
 intro pins s σ H D I h
 exact wpAny_Expr_any (bg (he pins s σ H _ I h) fun v s1 ⟨x,H1,I1,r1,q1⟩=>⟨σ,H1,I1,q1⟩) I.quiet hs
theorem bR {pl:Sem Bool} {j k:Nat} {C:Addr} {m:Str} {ps:List Str} {sp:Sp} {o e:Expr} {es:List Expr} {ta:TE} {t:TA} {apos pos:Pos} (D:Mn X.prog X.w X.K X.mg X.base j C m ps sp) (hr:c7 k X.A) (ho:bE X o ta) (ha:bA X (e::es) t) (hj:j<=k:=by decide) (hst:starEach (e::es) X.env=(false,eval e X.env)::starEach es X.env:=by rfl) (hpl:(backTo pos (starEach es X.env)).any (·.1)=false:=by rfl) (ht:eval (.Call (.Attribute o m apos) (e::es) [] pos) X.env=(do
   let ov <-eval o X.env
   standAt apos.atName
   let (f,first) <-holding [ov] (getMethod ov m pl)
   callWith pos f first (backTo pos (starEach (e::es) X.env)) (backToKw pos (keywordEach [] X.env))):=by rfl):bE X (.Call (.Attribute o m apos) (e::es) [] pos) (AV C m sp [] E0 ta t):=by
 have ho:=ho.h;have ha:=ha.h;constructor
 obtain ⟨f,fd,F,b,hm,c⟩:=D.ex
 exact Lr (pl:=pl) ho c hm F (hr.mono hj) b .nil (fun _ _ _ _ _ _ _ h=>h.elim) ha hst hpl ht
theorem cj {e:Expr} {es:List Expr} {t:TG} {u:AL} (h1:bG X e t) (h2:Td X es u) (hs:(assignEach (e::es) X.env).map (·.2)=assign e X.env::(assignEach es X.env).map (·.2):=by rfl):Td X (e::es) (SD t u):=by
 have h1:=h1.h;have h2:=h2.h;constructor
 intro pins s σ H vs us Q I r h
 obtain ⟨v,vr,e1,h⟩:=h
 subst e1
 cases r with
 | cons r rr=>
   rw [hs]
   refine assignInOrder_cons (bg (h1 pins s σ H _ _ _ I r h) fun _ s1 ⟨σ1,H1,I1,q1⟩=>?_)
   exact h2 pins s1 σ1 H1 _ _ Q I1 rr q1
theorem rJ {i:Nat} {x:Str} {px pos':Pos} {tg iter elt:Expr} {scope:Scope} {pos:Pos} (N2:List Str) (ix:List (Option Nat)) {wi:TI} {g:TG} {te:TE} (hN:X.N.Nodup) (hi:X.N[i]?=some x) (hx:X.env.scope.names.lookup x=some .local) (hc:X.calm=true) (hit:bI X tg iter wi) (hg:∀cl s₂ H₂ fp,bG (dz X N2 scope cl s₂ H₂ fp) tg g) (he:∀cl s₂ H₂ fp,bE (dz X N2 scope cl s₂ H₂ fp) elt te) (hk:scope.kind = .function) (hn:qo X.N X.env.scope.names scope.names N2 ix=true) (hw:swapsWith (.ListComp elt [⟨tg,iter,[],0⟩] scope pos) (some (.Name x px)) pos'.line X.env=pure true) (hs:∀x,foldedSetIterable iter X.env x=pure x:=by intro _;rfl):bS X (.Assign [.Name x px] (.ListComp elt [⟨tg,iter,[],0⟩] scope pos) pos') (QN (SQ wi ix g te) (pX i)):=by
 have hit:=hit.h;have hg:=fun cl s₂ H₂ fp=>(hg cl s₂ H₂ fp).h;have he:=fun cl s₂ H₂ fp=>(he cl s₂ H₂ fp).h;constructor
 intro pins s σ H D I h
 obtain ⟨k1,k2,k3,k4,k5⟩:=nv hn
 obtain ⟨cl,OZ,c1,c2⟩:=vM (scope:=scope) (env:=X.env) fun y hy e=>I.ok.has y.1 (k3 y hy e)
 rw [exec_Assign_Name_used _ _ _ _ hw]
 refine az (AE (az ?_))
 show wpAny _ X.A (do let _ <-comprehension (.ListComp elt [⟨tg,iter,[],0⟩] scope pos) scope X.env _ (newList []) false (eval iter X.env) (some (assign (.Name x px) X.env))) _ _ s
 refine az (bg (wpAny_comprehension_free (use:=some (assign (.Name x px) X.env)) (Q:=fun _ s'=>SP X pins D .next s') rfl hs OZ hk k4 (bg (hit pins s σ H _ I h) fun v s1 h1=>bg h1 fun itv s2 h2=>?_)) fun _ s' hq=>aU (aU hq))
 obtain ⟨it,fp,tn,J,H2,e,I2,T,st2,f2,h2⟩:=h2
 subst e
 refine Bc (RR:=fun acc C=>compPost (model X.prog X.w) X.A X.xe (some (assign (.Name x px) X.env)) (fun _ s'=>SP X pins D .next s') acc C) (Q:=fun v H'=>D.nx (σ.set i (some v)) H') hc hg he hk hn (fun y c m=>(c1 y c m).1) c2 I2 T st2 f2 h2 ?_
 intro acc C H' s' m I' ns Bd hL hsz u6 Bo q
 show wpAny _ X.A (assign (.Name x px) X.env (.ref acc)) _ _ _
 refine wpAny_assign_Name (DQ I' hN hi (.inl hx) (v:= .ref acc) rfl (fun s3 I3 ⟨a,sb,ha⟩=>?_) (.inr hx))
 have ca:C≠a:=by
  rcases ha with z|z
  . rw [z];exact hL
  . exact fun e=>u6 x a z e.symm
 exact ⟨m,ns.sameBut sb ca,fun h' hs'=>⟨_,H',I3.turned (it:=C) (t':=s3.toks) (fun b o hb e=>(hs'.2 b hb).trans e) Bd hL (.inr hsz) u6 Bo,q⟩⟩
theorem z8 {X:Cx} {pos:Pos} {k v:Expr} {ks:List (Option Expr)} {vs:List Expr} {tk tv:TE} {AZ:List (TE×TE)} (hk:bE X k tk) (hv:bE X v tv) (hr:Te X pos ks vs AZ):Te X pos (some k::ks) (v::vs) ((tk,tv)::AZ):=by
 have hk:=hk.h;have hv:=hv.h;have hr:=hr.h;exact ⟨fun pins s σ H Q I h=>
 pairTrees_cons_walk (bg (hk pins s σ H _ I h) fun u s1 ⟨x,H1,I1,rx,q1⟩=>bg (hv pins s1 σ H1 _ I1 q1) fun w2 s2 ⟨y,H2,I2,ry,q2⟩=>
  bg (hr pins s2 σ H2 _ I2 q2) fun ws s3 ⟨ps,H3,I3,rel,q3⟩=>⟨(x,y)::ps,H3,I3, .cons ⟨rx,ry⟩ rel,q3⟩)⟩
theorem yc (hu:X.A.units+1<cLine) (hi:bE X i ty) (ho:bE X o td):bC X .NotIn i o (Ue ty td):=by
 have hi:=hi.h;have ho:=ho.h;constructor
 intro pins s σ H Q I h
 refine bg (hi pins s σ H _ I h) fun iv s1 ⟨y,H1,I1,ry,q1⟩=>bg (ho pins s1 σ H1 _ I1 q1) fun u s2 ⟨x,H2,I2,rx,a,ov,ex,g,q2⟩=>?_
 subst ex
 obtain rfl:u=Value.ref a:=rx
 exact Ub hu I2 g ry fun s3 I3=>⟨.bl (!ov.isSome),H2,I3,Z,q2⟩
theorem yW {b j pos}:bE X (.Constant (.bool b) j pos) (tC (.bl b)):=by
 exact ⟨fun _ _ _ H _ I h=>Constant_bool ⟨.bl b,H,I,Z,h⟩⟩
theorem yX {pl:Sem Bool} {j k:Nat} {C:Addr} {m:Str} {ps:List Str} {sp:Sp} {o:Expr} {ta:TE} {apos pos:Pos} (D:Mn X.prog X.w X.K X.mg X.base j C m ps sp) (hr:c7 k X.A) (ho:bE X o ta) (hj:j<=k:=by decide) (ht:eval (.Call (.Attribute o m apos) [] [] pos) X.env=(do
   let ov <-eval o X.env
   standAt apos.atName
   let (f,first) <-holding [ov] (getMethod ov m pl)
   callWith pos f first (backTo pos (starEach [] X.env)) (backToKw pos (keywordEach [] X.env))):=by rfl):bE X (.Call (.Attribute o m apos) [] [] pos) (AV C m sp [] E0 ta qG):=by
 have ho:=ho.h;constructor
 obtain ⟨f,fd,F,b,hm,c⟩:=D.ex
 exact Q6 (pl:=pl) ho c hm F (hr.mono hj) b .nil (fun _ _ _ _ _ _ _ h=>h.elim) ht
theorem bu (he:bE X e te):bS X (.Return (some e) pos) (ab3 te):=by
 have he:=he.h;constructor
 intro pins s σ H D I h
 exact wpAny_Return_some (bg (he pins s σ H _ I h) fun v s1 ⟨x,H1,I1,r1,q1⟩=>⟨x,σ,H1,I1,r1,q1⟩)
theorem mX {tg:Expr} {a:Expr} {ta:TA} {p pos:Pos} (hg:Gl X "range") (hm:X.mg "range"=none) (ha:bA X [a] ta) (hs:starEach [a] X.env=[(false,eval a X.env)] :=by rfl):bI X tg (.Call (.Name "range" p) [a] [] pos) (YW ta):=by
 have ha:=ha.h;constructor
 intro pins s σ H R I h
 refine Call_ (uW I hg hm boot_range (N_ (bg (ha pos pins s σ H _ I h) fun us s1 ⟨vs,H1,I1,r1,q1⟩=>?_) hs rfl))
 obtain ⟨j,e,q1,q2,q⟩:=q1
 subst e
 cases r1 with
 | cons r rr=>
   cases rr
   obtain ⟨t,rfl⟩:=r
   exact call_range_1 (QW I1 (by omega) (by omega) q1 q2 (by simpa using q))
theorem bB:cU X [] YN:=by
 exact ⟨fun _ _ σ H _ I h=>FT ⟨σ,H,I,h⟩⟩
theorem c_ (K:Fg) {o value:Expr} {f:Str} {ta tv:TE} {pos pos':Pos} (ha:bE X o ta) (hv:bE X value tv) (hs:swapsWith value (some (.Attribute o f pos')) pos.line X.env=pure false:=by rfl) (hK:X.K=K:=by rfl):bS X (.Assign [.Attribute o f pos'] value pos) (VT K ta tv f):=by
 have ha:=ha.h;have hv:=hv.h;exact ⟨hK▸VX ha hv hs⟩
theorem Er {tg:Expr} {a b c:Expr} {ta:TA} {p pos:Pos} (hg:Gl X "range") (hm:X.mg "range"=none) (ha:bA X [a,b,c] ta) (hs:starEach [a,b,c] X.env=[(false,eval a X.env),(false,eval b X.env),(false,eval c X.env)] :=by rfl) (hs2:starEach [b,c] X.env=[(false,eval b X.env),(false,eval c X.env)] :=by rfl):bI X tg (.Call (.Name "range" p) [a,b,c] [] pos) (Zh ta):=by
 have ha:=ha.h;constructor
 intro pins s σ H R I h
 refine Call_ (uW I hg hm boot_range (N_ (bg (ha pos pins s σ H _ I h) fun us s1 ⟨vs,H1,I1,r1,q1⟩=>?_) (by rw [hs,hs2]) (by rw [hs2];rfl)))
 obtain ⟨i,j,k,e,⟨q1,q2,q3,q4,q5,q6⟩,q⟩:=q1
 subst e
 cases r1 with
 | cons r rr=>
   cases rr with
   | cons r' rr=>
     cases rr with
     | cons r'' rr=>
       cases rr
       obtain ⟨t,rfl⟩:=r
       obtain ⟨t',rfl⟩:=r'
       obtain ⟨t'',rfl⟩:=r''
       obtain ⟨sm,sz⟩:=J8 q1 q2 q3 q4 q5 q6
       refine call_range_3 (by omega) ?_ (Or.inl (PyProof.noPylong_small (by omega)))
       refine wpAny_pyIter_range (IsRange.new ..) sm ?_
       have I2:Inv X pins σ H1 { s1 with heap:=s1.heap.push { cls:= .type "range",data:= .fields #[.int i t, .int j t', .int k t''] },toks:=s1.toks }:=I1.kept fun b o e=>b7 _ e
       refine ⟨(s1.heap.push { cls:= .type "range",data:= .fields #[.int i t, .int j t', .int k t''] }).objs.size,[(s1.heap.push { cls:= .type "range",data:= .fields #[.int i t, .int j t', .int k t''] }).objs.size],_,_,H1,Z,
        I2.kept (t':=s1.toks) fun b o e=>b7 _ e,J7 _ i k (oX i j k),?_,fun b hb=>?_,q⟩
       . have e1:i+((0:Nat):Int)*k=i:=by simp
         have e2:((oX i j k:Nat):Int)-((0:Nat):Int)=Builtin.Range.rangeSize i j k:=by unfold oX;omega
         show IsRangeIter _ _ (i+((0:Nat):Int)*k) (((oX i j k:Nat):Int)-((0:Nat):Int)) k
         rw [e1,e2]
         exact dZ _ rfl
       . have e:b=(s1.heap.push { cls:= .type "range",data:= .fields #[.int i t, .int j t', .int k t''] }).objs.size:=by simpa using hb
         subst e
         exact I2.zQ (aN _) (I2.hok.fresh (aN _))
theorem PD {a:Expr} {ta:TA} {p pos:Pos} (hg:Gl X "range") (hm:X.mg "range"=none) (ha:bA X [a] ta) (hs:starEach [a] X.env=[(false,eval a X.env)] :=by rfl):bE X (.Call (.Name "range" p) [a] [] pos) (acp ta):=by
 have ha:=ha.h;constructor
 intro pins s σ H Q I h
 refine Call_ (uW I hg hm boot_range (N_ (bg (ha pos pins s σ H _ I h) fun us s1 ⟨vs,H1,I1,r1,q1⟩=>?_) hs rfl))
 obtain ⟨j,e,q⟩:=q1
 subst e
 obtain ⟨u,rfl,ru⟩:=vals1 r1
 obtain ⟨t,rfl⟩:=ru
 exact call_range_1 ⟨.ref s1.heap.objs.size,_,I1.laid (a:=s1.heap.objs.size) (o:= .tW 0 j) (fun b o e=>b7 _ e) (aN _) ⟨_,_,_,dZ _ rfl⟩,Z,q _ I1.fresh⟩
theorem i7 (h:bA X es t):bE X (.List es pos) (ace t):=by
 have h:=h.h;constructor
 intro pins s σ H Q I hq
 refine wpAny_List_spliced (bg (h pos pins s σ H _ I hq) fun us s1 ⟨xs,H1,I1,r,z,q⟩=>⟨by rw [<-r.length];exact z,?_⟩)
 have hf:H1 s1.heap.objs.size=none:=I1.hok.fresh (aN _)
 refine ⟨.ref s1.heap.objs.size,upd H1 s1.heap.objs.size (.lst xs),I1.laid (t':=s1.toks) (fun b u e=>b7 _ e) (aN _) ?_,Z,q _ hf⟩
 exact ⟨z,us,0,r,dZ _ rfl⟩
theorem nM (K:Fg) {o value:Expr} {f:Str} {ta tv:TE} {pos tpos:Pos} {op:Operator} {rd:V->V->Hp->VK->Prop} (ha:bE X o ta) (hv:bE X value tv) (hop:GB X op rd) (hK:X.K=K:=by rfl):bS X (.AugAssign (.Attribute o f tpos) op value pos) (Lo K ta tv rd f):=by
 have ha:=ha.h;have hv:=hv.h;exact ⟨hK▸Ow ha hv hop⟩
theorem Xb {j pos}:bE X (.Constant .none j pos) (tC .bU):=by
 exact ⟨fun _ _ _ H _ I h=>Constant_none ⟨.bU,H,I,Z,h⟩⟩
theorem C0 {ob:Expr} {td:TE} {apos cpos:Pos} (hob:bE X ob td) (hbase:attributeBase ob "values" X.env (eval ob X.env)=eval ob X.env:=by rfl) (hline:(apos.endLine==cpos.line)=true:=by rfl):bE X (.Call (.Attribute ob "values" apos) [] [] cpos) (Zj td):=by
 have hob:=hob.h;constructor
 intro pins s σ H Q I h
 refine wpAny_Call_method0_late hbase hline (bg (hob pins s σ H _ I h) fun v s1 ⟨x,H1,I1,r1,q1⟩=>?_)
 obtain ⟨d,kvs,rfl,e,fin⟩:=q1
 cases r1
 obtain ⟨t1,t2,hsys⟩:=GQ I1 (.inl ⟨kvs,e⟩)
 obtain ⟨hz,_,vs,rel,dd⟩:=rC I1.hok e
 refine ⟨"dict",_,F.plainAttrs_dict,MC,F.type_dict_values,t1,t2,Mt rfl (PySem.evalArgs_none ?_)⟩
 refine call_meetsIn MC dd.typeIs F.entry_dict_values (F.args_dict_values_1 _) (meets_dict_values (cI X.prog X.w) d hsys) ⟨⟨vs,dd⟩,?_⟩
 refine ⟨.ref s1.heap.objs.size,_,I1.laid (t':=s1.toks) (o:=j0 s1.heap.objs.size d) (fun b u e=>b7 _ e) (aN _) ?_,Z,fin _ I1.fresh⟩
 refine ⟨⟨_,dZ _ rfl,Z,Z⟩,⟨_,dZ _ rfl⟩,fun h1 h2 ⟨o,a,b⟩ k=>⟨o,k o a,b⟩⟩
theorem Th {j k:Nat} {x:Str} {C:Addr} {ps:List Str} {sp:Sp} {e:Expr} {es:List Expr} {t:TA} {p pos:Pos} (D:Cn X.prog X.w X.K X.mg X.base j x C ps sp) (hr:c7 k X.A) (ha:bA X (e::es) t) (hj:j+1<=k:=by decide) (hg:Gl X x:=by rfl) (hdb:(x==("__debug__":Str))=false:=by decide) (he:starEach (e::es) X.env=(false,eval e X.env)::starEach es X.env:=by rfl) (hpl:(backTo pos (starEach es X.env)).any (·.1)=false:=by rfl):bE X (.Call (.Name x p) (e::es) [] pos) (F0 C sp [] E0 t):=by
 have ha:=ha.h;constructor
 obtain ⟨f,fd,F,b,M,m⟩:=D.ex
 exact T9 M F (hr.mono hj) hg m b .nil (fun _ _ _ _ _ _ _ h=>h.elim) ha hdb he hpl
theorem UQ {x:Str} {v:V} {u:Value} {pos:Pos} (hg:Gl X x) (hm:X.mg x=some u) (r:RelV v u) (hd:(x==("__debug__":Str))=false:=by decide):bE X (.Name x pos) (tC v):=by
 exact ⟨fun _ _ _ H _ I h=>uV I hg hm ⟨v,H,I,r,h⟩ hd⟩
theorem ug (hc:iK X (.type T) r) (hg:Gl X x) (hm:X.mg x=none) (hv:bootBuiltins x=some (.type T)) (ha:bA X (e::es) t) (hn:x ≠ "__name__":=by decide) (hdb:(x==("__debug__":Str))=false:=by decide) (he:starEach (e::es) X.env=(false,eval e X.env)::starEach es X.env:=by rfl) (hpl:(backTo pos (starEach es X.env)).any (·.1)=false:=by rfl):bE X (.Call (.Name x p) (e::es) [] pos) (V5 r t):=by
 have ha:=ha.h;constructor
 intro pins s σ H Q I h
 refine Gj (uW I hg hm hv ?_ hn hdb)
 exact N_ (bg (ha pos pins s σ H _ I h) fun us s1 ⟨vs,H1,I1,r1,q1⟩=>hc pins s1 σ H1 vs us Q I1 r1 q1) he hpl
theorem BI {rest:List Expr} (ha:bT X a tA) (hb:bW X (.BoolOp .Or (b::rest) pos) Sy):bW X (.BoolOp .Or (a::b::rest) pos) (Z1 tA Sy):=by
 have ha:=ha.h;have hb:=hb.h;constructor
 intro wh pins s σ H Q I h
 refine isTrue_or (bg (ha pins s σ H _ I h) fun c s1 ⟨H1,I1,q1⟩=>?_)
 cases c with
 | true=>exact ⟨H1,I1,q1⟩
 | false=>exact hb wh pins s1 σ H1 Q I1 q1
theorem rK (ha:bT X a tA):bW X (.BoolOp .And [a] pos) tA:=by
 have ha:=ha.h;constructor
 intro wh pins s σ H Q I h
 refine isTrue_and (bg (ha pins s σ H Q I h) fun c s1 e=>?_)
 cases c with
 | true=>exact isTrue_and_nil e
 | false=>exact e
theorem b_ {c:Expr} {a b:List Stmt} {tc:TT} (hc:bT X c tc) (ha:cU X a t) (hb:cU X b u):bS X (.If c a b pos) (Vy tc t u):=⟨SA hc.h ha.h hb.h⟩
theorem Xc {i j:Nat} {x y:Str} {a b:Expr} {ta:TA} {px py pt:Pos} {kt k2 Xd} (hc:X.calm=true) (hN:X.N.Nodup) (hi:X.N[i]?=some x) (hj:X.N[j]?=some y) (hij:i≠j) (hx:X.env.scope.names.lookup x=some .local) (hy:X.env.scope.names.lookup y=some .local) (ha:bA X [a,b] ta) (hw:swappedStores [.Tuple [.Name x px, .Name y py] kt pt] (.Tuple [a,b] k2 Xd) X.env=pure (some [x,y])) (hs:swapsWithSole [.Tuple [.Name x px, .Name y py] kt pt] (.Tuple [a,b] k2 Xd) pos.line X.env=pure false:=by rfl):bS X (.Assign [.Tuple [.Name x px, .Name y py] kt pt] (.Tuple [a,b] k2 Xd) pos) (ab5 i j ta):=by
 have ha:=ha.h;constructor
 intro pins s σ H D I h
 rw [exec_Assign_arm]
 refine az (AE ?_)
 rw [hs]
 refine az (aU ?_)
 rw [aA (by decide)]
 refine az (Tuple_ (bg (ha _ pins s σ H _ I h) fun us s1 ⟨vs,H1,I1,r1,q1⟩=>?_))
 obtain ⟨v,w,e1,q1⟩:=q1
 subst e1
 obtain ⟨u1,u2,rfl,rv,rw'⟩:∃u1 u2,us=[u1,u2]/\RelV v u1/\RelV w u2:=by
  cases r1 with
  | cons p q=>
    cases q with
    | cons p' q'=>
      cases q'
      exact ⟨_,_,Z,p,p'⟩
 refine vA ?_ (by show 2<=sizeLine;decide)
 have I2:Inv X pins σ H1 { s1 with heap:=s1.heap.push { cls:= .type "tuple",data:= .seq [u1,u2].toArray } }:=I1.kept (t':=s1.toks) fun b o e=>b7 _ e
 rw [hw]
 refine az (aU ?_)
 show wpAny (model X.prog X.w) X.A (do rule "assign.swapped-stores";let items <-unpackItems (.ref s1.heap.objs.size) 2 none;assignInOrder [fun v=>bindName X.env y v,fun v=>bindName X.env x v] items.reverse;pure Flow.next) _ _ _
 refine az (wpAny_rule (az (unpackItems_tuple (items:=#[u1,u2]) (I.ok.hd hc) (IsTup.new s1.heap _) fun h' hx'=>?_)))
 have I3:=I2.kept (h':=h') (t':=s1.toks) fun b o e=>hx' b o (eU (bM e)) e
 show wpAny _ _ (assignInOrder [fun v=>bindName X.env y v,fun v=>bindName X.env x v] [u2,u1] >>= fun _=>pure Flow.next) _ _ _
 refine az (assignInOrder_cons (wpAny_bindName (vI I3 hN hj (.inl hy) rw' (fun s2 I4=>?_) (.inr hy))))
 refine assignInOrder_cons (wpAny_bindName (vI I4 hN hi (.inl hx) rv (fun s3 I5=>assignInOrder_nil (aU ?_)) (.inr hx)))
 rw [List.set_comm _ _ (cM hij)] at I5
 exact ⟨_,H1,I5,q1⟩
theorem jl {c:Expr} {a b:List Stmt} {tc:TT} {t u:TS} (hc:bT X c tc) (ha:cU X a t) (hb:cU X b u):bS X (.If c a b pos) (Wm tc t u):=by
 have hc:=hc.h;have ha:=ha.h;have hb:=hb.h;constructor
 intro pins s σ H D I h
 obtain ⟨J,h,hJ⟩:=h
 refine bg (SA hc ha hb pins s σ H { D with nx:=J } I h) fun f s' q=>?_
 cases f with
 | next=>obtain ⟨σ',H',I',q⟩:=q;exact ⟨σ',H',I',hJ _ _ q⟩
 | cont=>exact q
 | brk=>exact q
 | ret v=>exact q
theorem aj {st:Stmt} {rest:List Stmt} (h1:bS X st t) (h2:cU X rest u):cU X (st::rest) (vJ t u):=by
 have h1:=h1.h;have h2:=h2.h;constructor
 intro pins s σ H D I h
 refine wpAny_execs_cons (bg (h1 pins s σ H { D with nx:=u D } I h) fun f s1 q=>?_)
 cases f with
 | next=>
   obtain ⟨σ',H',I',q⟩:=q
   exact h2 pins s1 σ' H' D I' q
 | ret v=>exact q
 | brk=>exact q
 | cont=>exact q
theorem Xe (K:Fg) {e st:Expr} {te ts:TE} {pos p2:Pos} (he:bE X e te) (hst:bE X st ts) (hK:X.K=K:=by rfl):bE X (.Subscript e (.Slice none none (some st) p2) pos) (acq K te ts):=by
 have he:=he.h;have hst:=hst.h;constructor
 subst hK
 intro pins s σ H Q I h
 refine Subscript_ (bg (he pins s σ H _ I h) fun v s1 ⟨x,H1,I1,r1,q1⟩=>?_)
 refine wpAny_Slice ?_
 rw [evalPart_none]
 refine aU (aU ?_)
 rw [evalPart_some]
 refine bg (hst pins s1 σ H1 _ I1 q1) fun w3 s3 ⟨y,H3,I3,r3,q3⟩=>?_
 obtain ⟨ey,a,xs,rfl,hx,q⟩:=q3
 subst ey
 obtain ⟨t,rfl⟩:=r3
 cases r1
 have I4:Inv X pins σ H3 { s3 with heap:=s3.heap.push { cls:= .type "slice",data:= .fields #[.none, .none, .int (-1) t] } }:=I3.kept (t':=s3.toks) fun b ob q=>b7 _ q
 obtain ⟨its,r,ht,hz⟩:=I4.list hx
 have hlen:=r.length
 refine tail_any (ops:=[.ref a, .ref s3.heap.objs.size]) ht.isList.typeIs slot_list_getitem.lookup ?_ (by with_unfolding_all rfl)
 refine wpAny_getItem_list_slice ht.isList (Heap.IsSliceOf.new ..) .none .none (.int (-1) t) (by decide) ?_ (by rw [gG] <;> omega)
 rw [PySem.W.krv_pick]
 refine ⟨.ref _,_,I4.laid (t':=s3.toks) (o:= .lst xs.reverse) (fun b ob q=>b7 _ q) (aN _) ?_,Z,q _ I4.fresh⟩
 exact ⟨by rw [List.length_reverse];exact hz,its.reverse,0,r.reverse,dZ _ rfl⟩
theorem g_ (K:Fg) {X:Cx} {es:List Expr} {k:Nat} {t:AL} {n:Nat} {pos:Pos} (hc:X.calm=true) (h:Td X es t) (hK:X.K=K:=by rfl) (hn:(assignEach es X.env).length=n:=by rfl) (hst:(assignEach es X.env).findIdx? (·.1)=none:=by rfl):bG X (.Tuple es k pos) (zP K n t):=by
 have h:=h.h;exact ⟨hK▸VD hc h hn hst⟩
theorem BJ {K:Fg} {j k:Nat} {x:Str} {ps:List Str} {sp:Sp} {e:Expr} {es:List Expr} {t:TA} {p pos:Pos} (D:Dx P w K mg base j x ps sp) (hr:c7 k (cu (fL P w) P w K mg base N qual scope f cd A outer s0 H0 E).A) (ha:bA (cu (fL P w) P w K mg base N qual scope f cd A outer s0 H0 E) (e::es) t) (hj:j<=k:=by decide) (hg:Gl (cu (fL P w) P w K mg base N qual scope f cd A outer s0 H0 E) x:=by rfl) (hdb:(x==("__debug__":Str))=false:=by decide) (he:starEach (e::es) (cu (fL P w) P w K mg base N qual scope f cd A outer s0 H0 E).env=(false,eval e (cu (fL P w) P w K mg base N qual scope f cd A outer s0 H0 E).env)::starEach es (cu (fL P w) P w K mg base N qual scope f cd A outer s0 H0 E).env:=by rfl) (hpl:(backTo pos (starEach es (cu (fL P w) P w K mg base N qual scope f cd A outer s0 H0 E).env)).any (·.1)=false:=by rfl):bE (cu (fL P w) P w K mg base N qual scope f cd A outer s0 H0 E) (.Call (.Name x p) (e::es) [] pos) (MV sp [] E t):=by
 have ha:=ha.h;constructor
 obtain ⟨f',fd,F,b,kp,m⟩:=D.ex
 exact Lq F (hr.mono hj) hg m kp b .nil S_ ha hdb he hpl
theorem dg (hu:X.A.units+1<cLine) (ho:bE X o td) (hi:bE X i ty) (hs:We i:=by exact fun _ _=>rfl):bE X (.Subscript o i pos) (SJ td ty):=by
 have ho:=ho.h;have hi:=hi.h;constructor
 intro pins s σ H Q I h
 refine Uc PySem.F.slot_dict_getitem.lookup hs (bg (ho pins s σ H _ I h) fun u s1 ⟨x,H1,I1,rx,q1⟩=>bg (hi pins s1 σ H1 _ I1 q1) fun iv s2 ⟨y,H2,I2,ry,a,v,ex,g,q2⟩=>?_)
 subst ex
 obtain rfl:u=Value.ref a:=rx
 exact ⟨J3 I2 g,OG hu I2 g ry fun w' s3 I3 rw'=>⟨v,H2,I3,rw',q2⟩⟩
theorem aq:bA X [] qG:=⟨Ox⟩
theorem kW {K:Fg} {pl:Sem Bool} {j k:Nat} {C:Addr} {m:Str} {ps:List Str} {sp:Sp} {o e:Expr} {es:List Expr} {ta:TE} {t:TA} {apos pos:Pos} (D:Mx P w K mg base j C m ps sp) (hr:c7 k (cu (fL P w) P w K mg base N qual scope f cd A outer s0 H0 E).A) (ho:bE (cu (fL P w) P w K mg base N qual scope f cd A outer s0 H0 E) o ta) (ha:bA (cu (fL P w) P w K mg base N qual scope f cd A outer s0 H0 E) (e::es) t) (hj:j<=k:=by decide) (hst:starEach (e::es) (cu (fL P w) P w K mg base N qual scope f cd A outer s0 H0 E).env=(false,eval e (cu (fL P w) P w K mg base N qual scope f cd A outer s0 H0 E).env)::starEach es (cu (fL P w) P w K mg base N qual scope f cd A outer s0 H0 E).env:=by rfl) (hpl:(backTo pos (starEach es (cu (fL P w) P w K mg base N qual scope f cd A outer s0 H0 E).env)).any (·.1)=false:=by rfl) (ht:eval (.Call (.Attribute o m apos) (e::es) [] pos) (cu (fL P w) P w K mg base N qual scope f cd A outer s0 H0 E).env=(do
   let ov <-eval o (cu (fL P w) P w K mg base N qual scope f cd A outer s0 H0 E).env
   standAt apos.atName
   let (f2,first) <-holding [ov] (getMethod ov m pl)
   callWith pos f2 first (backTo pos (starEach (e::es) (cu (fL P w) P w K mg base N qual scope f cd A outer s0 H0 E).env)) (backToKw pos (keywordEach [] (cu (fL P w) P w K mg base N qual scope f cd A outer s0 H0 E).env))):=by rfl):bE (cu (fL P w) P w K mg base N qual scope f cd A outer s0 H0 E) (.Call (.Attribute o m apos) (e::es) [] pos) (AV C m sp [] E ta t):=by
 have ho:=ho.h;have ha:=ha.h;constructor
 obtain ⟨f',fd,F,b,hm,c⟩:=D.ex
 exact Lr (pl:=pl) ho c hm F (hr.mono hj) b .nil S_ ha hst hpl ht
theorem ah {i j pos}:bE X (.Constant (.int i) j pos) (tC (.int i)):=by
 exact ⟨fun _ _ _ H _ I h=>wpAny_Constant_int ⟨.int i,H,I.tok _,⟨_,Z⟩,h⟩⟩
theorem Xf {rest:List Expr} (ha:bE X a ta) (hb:bE X (.BoolOp .And (b::rest) pos) tb):bE X (.BoolOp .And (a::b::rest) pos) (YM ta tb):=by
 have ha:=ha.h;have hb:=hb.h;constructor
 intro pins s σ H Q I h
 refine BoolOp_and (bg (ha pins s σ H _ I h) fun v s1 ⟨x,H1,I1,r1,q1⟩=>?_)
 obtain ⟨c,rfl,q1⟩:=q1
 cases r1
 refine CJ ?_
 cases c with
 | true=>exact hb pins s1 σ H1 Q I1 q1
 | false=>exact ⟨.bl false,H1,I1,Z,q1⟩
theorem pC:bE X (.Dict [] [] pos) Wj:=by
 exact ⟨fun pins s σ H Q I h=>
 wpAny_Dict_empty ⟨.ref s.heap.objs.size,_,I.laid (a:=s.heap.objs.size) (o:= .dK []) (t':=s.toks) (fun _ _ q=>b7 _ q) (aN _) (GP s.heap I.big),Z,h _ (I.hok.fresh (aN _))⟩⟩
theorem lJ {tg e:Expr} {te:TE} {g:TG} (he:bE X e te) (hg:bG X tg g) (hs:swapsWithSole [tg] e pos.line X.env=pure false:=by rfl) (hw:swappedStores [tg] e X.env=pure none:=by rfl) (h1:(assignEach [tg] X.env).map (·.2)=[assign tg X.env] :=by rfl):bS X (.Assign [tg] e pos) (QN te g):=by
 have he:=he.h;have hg:=hg.h;constructor
 intro pins s σ H D I h
 refine wpAny_Assign_stores (bg (he pins s σ H _ I h) fun v s1 ⟨x,H1,I1,r1,q1⟩=>?_) hs hw
 rw [h1]
 exact bg (hg pins s1 σ H1 x v _ I1 r1 q1) fun _ s2 q=>q
theorem z9 {elts:List Expr} {kk:Nat} {tpos:Pos} {ob:Expr} {td:TE} {apos cpos:Pos} (hob:bE X ob td) (hbase:attributeBase ob "items" X.env (eval ob X.env)=eval ob X.env:=by rfl) (hline:(apos.endLine==cpos.line)=true:=by rfl):bI X (.Tuple elts kk tpos) (.Call (.Attribute ob "items" apos) [] [] cpos) (WD td):=by
 have hob:=hob.h;constructor
 intro pins s σ H R I h
 refine wpAny_Call_method0_late hbase hline (bg (hob pins s σ H _ I h) fun v s1 ⟨x,H1,I1,r1,q1⟩=>?_)
 obtain ⟨d,o,kvs,rfl,e,fin⟩:=q1
 cases r1
 obtain ⟨ho,hz,hsys,vs,ep,rel,da⟩:=I1.pZ e
 obtain ⟨t1,t2,_⟩:=GQ I1 (.inl ⟨kvs, .inr ⟨o,e⟩⟩)
 have dd:=da.dictOf
 refine ⟨"dict",_,F.plainAttrs_dict,F.slot_dict_items,F.type_dict_items,t1,t2,Mt rfl (PySem.evalArgs_none ?_)⟩
 refine call_meetsIn F.slot_dict_items dd.typeIs F.entry_dict_items (F.args_dict_items_1 _) (meets_dict_items (cI X.prog X.w) d hsys) ⟨⟨vs,dd⟩,?_⟩
 refine wpAny_pyIter_items (s:={ s1 with heap:=s1.heap.push { cls:= .type "dict_items",data:= .fields #[.ref d] } }) ⟨_,dZ _ rfl,Z,Z⟩ (da.push _) ?_
 have Iv:Inv X pins σ H1 { s1 with heap:=s1.heap.push { cls:= .type "dict_items",data:= .fields #[.ref d] } }:=I1.kept (t':=s1.toks) fun b o e=>b7 _ e
 generalize ({ s1 with heap:=s1.heap.push { cls:= .type "dict_items",data:= .fields #[.ref d] } }:Shared)=sv at *
 have I2:Inv X pins σ H1 { sv with heap:=sv.heap.push { cls:= .type "dict_itemiterator",data:= .fields #[.none, .bool false, .ref d, .int 0 0, .int vs.length 0, .int ep 0, .none, .none] } }:=Iv.kept (t':=sv.toks) fun b o e=>b7 _ e
 have hl:kvs.length=vs.length:=rel.length
 obtain ⟨o',es,h1,_,h2,_⟩:=id da
 rw [ho] at h1;cases h1
 refine ⟨sv.heap.objs.size,[sv.heap.objs.size],_,_,H1,Z,I2,Nh h2,?_,fun b hb=>?_,fin⟩
 . rw [hl];exact ⟨_,_,dZ _ rfl⟩
 . have eb:b=sv.heap.objs.size:=by simpa using hb
   subst eb
   exact Iv.zQ (aN _) (Iv.hok.fresh (aN _))
theorem Xg {tg:Expr} {l:Expr} {tl:TE} (hl:bE X l tl):bI X tg l (Ww tl):=⟨Wx hl.h⟩
theorem yd (ha:bT X a tA):bW X (.BoolOp .Or [a] pos) tA:=by
 have ha:=ha.h;constructor
 intro wh pins s σ H Q I h
 refine isTrue_or (bg (ha pins s σ H Q I h) fun c s1 e=>?_)
 cases c with
 | false=>exact isTrue_or_nil e
 | true=>exact e
theorem vf {X:Cx} {st:Stmt} {t:TS} (h:bS X st t):bS X st (acr t):=by
 have h:=h.h;constructor
 intro pins s σ H D I hw
 obtain ⟨d,kvs,e,hw⟩:=hw
 obtain ⟨ho,es,ep,h1,_⟩:=(AX I.hok e).2.2.choose_spec.2
 have h0:=I.O3 e
 refine bg (h pins s σ _ _ (I.freeze e h1) (hw ho)) fun f s' q=>?_
 cases f with
 | next=>obtain ⟨σ',H',I',q1,q2⟩:=q;exact ⟨σ',_,I'.zU q1 h0,q2⟩
 | brk=>obtain ⟨σ',H',I',q1,q2⟩:=q;exact ⟨σ',_,I'.zU q1 h0,q2⟩
 | cont=>obtain ⟨σ',H',I',q1,q2⟩:=q;exact ⟨σ',_,I'.zU q1 h0,q2⟩
 | ret u=>obtain ⟨v,σ',H',I',r,q1,q2⟩:=q;exact ⟨v,σ',_,I'.zU q1 h0,r,q2⟩
theorem rL (hu:X.A.units+1<cLine) (ho:bE X o td) (hi:bE X i ty) (hv:bE X value tv) (hs:swapsWith value (some (.Subscript o i pos')) pos.line X.env=pure false):bS X (.Assign [.Subscript o i pos'] value pos) (Y8 td ty tv):=by
 have ho:=ho.h;have hi:=hi.h;have hv:=hv.h;constructor
 intro pins s σ H D I h
 refine wpAny_Assign_Subscript (bg (hv pins s σ H _ I h) fun r s1 ⟨v,H1,I1,rv,q1⟩=>bg (ho pins s1 σ H1 _ I1 q1) fun u s2 ⟨x,H2,I2,rx,q2⟩=>bg (hi pins s2 σ H2 _ I2 q2) fun iv s3 ⟨y,H3,I3,ry,a,H4,ex,g,q3⟩=>?_) hs
 subst ex
 obtain rfl:u=Value.ref a:=rx
 exact OH hu I3 g ry rv fun s4 I4=>⟨σ,H4,I4,q3⟩
theorem qv (i:Nat) {x:Str} {pos:Pos} (hN:X.N[i]?=some x:=by rfl) (hv:Sv X.env.scope x:=by first|exact Or.inl rfl|exact Or.inr (Or.inl rfl)|exact Or.inr (Or.inr rfl)) (hd:(x==("__debug__":Str))=false:=by decide) (hcd:(x==("__classdict__":Str))=false:=by decide):bE X (.Name x pos) (MM i):=by
 exact ⟨Vv hN hv hd hcd⟩
theorem bF {id:String} (hc:iK X (.builtin id) r) (hg:Gl X x) (hm:X.mg x=none) (hv:bootBuiltins x=some (.builtin id)) (ha:bA X (e::es) t) (hn:x ≠ "__name__":=by decide) (hdb:(x==("__debug__":Str))=false:=by decide) (he:starEach (e::es) X.env=(false,eval e X.env)::starEach es X.env:=by rfl) (hpl:(backTo pos (starEach es X.env)).any (·.1)=false:=by rfl):bE X (.Call (.Name x p) (e::es) [] pos) (V5 r t):=by
 have ha:=ha.h;constructor
 intro pins s σ H Q I h
 refine Gj (uW I hg hm hv ?_ hn hdb)
 exact PyProof.Rows.callWith_builtin1 (bg (ha pos pins s σ H _ I h) fun us s1 ⟨vs,H1,I1,r1,q1⟩=>hc pins s1 σ H1 vs us Q I1 r1 q1) he hpl
theorem jF {K:Fg} {x:Str} {C:Addr} {t:Str} {kd:Nat} {p0 p1 cpos pos:Pos} (oc:f_ K C) (hg:Gl (cu (fL P w) P w K mg base N qual scope f cd A outer s0 H0 E) x) (hm:mg x=some (.ref C)) (hd:(x==("__debug__":Str))=false:=by decide):bS (cu (fL P w) P w K mg base N qual scope f cd A outer s0 H0 E) (.Raise (some (.Call (.Name x p0) [.Constant (.str t) kd p1] [] cpos)) none pos) (W8 C E):=by
 constructor
 intro pins s σ H D I h
 obtain ⟨nm,q,Nn,bs,bm,hdct,sn,sub,ab,col,dd,k0,k1,k2,k3,k5,mN,hni,hb,fx⟩:=oc.ex
 refine wpAny_Raise_call_subT (bm:=bm) (C:=C) (nm:=nm) (q:=q) (N:=Nn) (bs:=bs) (hdct:=hdct) (sn:=sn) (sub:=sub) (ab:=ab) (col:=col) (dd:=dd) (k0:=k0) (k1:=k1) (k2:=k2) (k3:=k3) (k5:=k5) F.excBase_ValueError hb (I.ok.hd rfl) rfl hni ?_
 refine uV I hg hm ⟨Z,?_⟩ hd
 have pa:PA (cu (fL P w) P w K mg base N qual scope f cd A outer s0 H0 E) [.Constant (.str t) kd p1] (FZ (tC (.str t)) qG):=Lp Of Ox
 refine PySem.Calls.evalArgs_plain (bg (pa cpos pins s σ H (fun vs H1=>vs.length=1/\H1=H) I ⟨Z,Z⟩) fun us s1 ⟨vs,H1,I1,r,hv,e⟩=>?_)
 subst e
 obtain ⟨hC,hN,T⟩:=fx s1.heap I1.qY
 exact ⟨Z,by show us.length<=sizeLine;rw [<-r.length,hv,jz];decide,hC,hN,T,fun h' e hm=>Nu I1 hm (h e)⟩
theorem lK {o i:Expr} {to ti:TE} {t:qF} (ho:bE X o to) (hi:bE X i ti) (hs:QM X t) (ha:∀v,assign (.Subscript o i pos) X.env v=(do
   let ov <-holding [v] (eval o X.env)
   let iv <-holding [v,ov] (eval i X.env)
   standAt pos
   holding [v,ov,iv] (setItem ov iv v)
   release [v,ov,iv] []):=by intro _;rfl):bG X (.Subscript o i pos) (ab4 to ti t):=by
 have ho:=ho.h;have hi:=hi.h;constructor
 intro pins s σ H v u Q I r h
 rw [ha]
 refine az (AF (bg (ho pins s σ H _ I h) fun ov s1 ⟨x,H1,I1,r1,q1⟩=>?_))
 refine az (AF (bg (hi pins s1 σ H1 _ I1 q1) fun iv s2 ⟨y,H2,I2,r2,q2⟩=>?_))
 refine az (AE (az (AF (bg (hs pins s2 σ H2 x y v ov iv u _ I2 r1 r2 r q2) fun _ s3 ⟨H3,I3,q3⟩=>?_))))
 exact wpAny_release ⟨σ,H3,I3,q3⟩
theorem pD {st:Stmt}:bS X st Vz:=by
 exact ⟨fun _ _ _ _ _ _ h=>h.elim⟩
theorem PF {j k:Nat} {x:Str} {C:Addr} {ps:List Str} {sp:Sp} {p pos:Pos} (D:Cn X.prog X.w X.K X.mg X.base j x C ps sp) (hr:c7 k X.A) (hj:j+1<=k:=by decide) (hg:Gl X x:=by rfl) (hdb:(x==("__debug__":Str))=false:=by decide):bE X (.Call (.Name x p) [] [] pos) (F0 C sp [] E0 qG):=by
 constructor
 obtain ⟨f,fd,F,b,M,m⟩:=D.ex
 exact Q7 M F (hr.mono hj) hg m b .nil (fun _ _ _ _ _ _ _ h=>h.elim) hdb
theorem af (ha:bE X e te) (hr:bA X es t) (hs:starEach (e::es) X.env=(false,eval e X.env)::starEach es X.env:=by rfl):bA X (e::es) (FZ te t):=⟨Lp ha.h hr.h hs⟩
theorem aI (K:Fg) {e:Expr} {f:Str} {ta:TE} {pos:Pos} (he:bE X e ta) (hb:attributeBase e f X.env (eval e X.env)=eval e X.env:=by rfl) (hK:X.K=K:=by rfl):bE X (.Attribute e f pos) (VR K ta f):=by
 have he:=he.h;exact ⟨hK▸VW he hb⟩
theorem C3 {op:CmpOp} {r:R2} (ho:ji X (compareOp op) r) (ha:bE X a ta) (hb:bE X b tb) (hm:behindInMarks op b=false):bE X (.Compare a [op] [b] pos) (Lk r ta tb):=by
 have ha:=ha.h;have hb:=hb.h;constructor
 intro pins s σ H Q I h
 exact wpAny_Compare1 (QX ha hb I h fun v u s2 x y H2 I2 rx ry q=>ho pins s2 σ H2 x y v u Q I2 rx ry q) hm
theorem bQ {j k:Nat} {x:Str} {ps:List Str} {sp:Sp} {e:Expr} {es:List Expr} {t:TA} {p pos:Pos} (D:Dn X.prog X.w X.K X.mg X.base j x ps sp) (hr:c7 k X.A) (ha:bA X (e::es) t) (hj:j<=k:=by decide) (hg:Gl X x:=by rfl) (hdb:(x==("__debug__":Str))=false:=by decide) (he:starEach (e::es) X.env=(false,eval e X.env)::starEach es X.env:=by rfl) (hpl:(backTo pos (starEach es X.env)).any (·.1)=false:=by rfl):bE X (.Call (.Name x p) (e::es) [] pos) (MV sp [] E0 t):=by
 have ha:=ha.h;constructor
 obtain ⟨f,fd,F,b,kp,m⟩:=D.ex
 exact Lq F (hr.mono hj) hg m kp b .nil (fun _ _ _ _ _ _ _ h=>h.elim) ha hdb he hpl
theorem qA {rest:List Expr} (ha:bT X a tA) (hb:bW X (.BoolOp .And (b::rest) pos) Sy):bW X (.BoolOp .And (a::b::rest) pos) (abZ tA Sy):=by
 have ha:=ha.h;have hb:=hb.h;constructor
 intro wh pins s σ H Q I h
 refine isTrue_and (bg (ha pins s σ H _ I h) fun c s1 ⟨H1,I1,q1⟩=>?_)
 cases c with
 | true=>exact hb wh pins s1 σ H1 Q I1 q1
 | false=>exact ⟨H1,I1,q1⟩
section
variable {P:Program} {w:World} {K:Fg} {mg:SO} {base:Heap} {f C:Addr} {fd:FuncData} {N ps:List Str} {k:Nat} {sp:Sp} {x m qual:Str} {st:Stmt}
theorem dO {N P:List Str} {sc:Scope} (a:sc.kind = .function:=by rfl) (b:sc.isCoroutine=false:=by rfl) (c:sc.isGenerator=false:=by rfl) (d:N.Nodup:=by decide +kernel) (e:N.take P.length=P:=by rfl) (f:∀x∈P,sc.names.lookup x=some .local\/sc.names.lookup x=some .cell:=by decide +kernel) (g:∀y∈sc.names,y.2 ≠ .free:=by decide +kernel):aO N P sc:=⟨a,b,c,d,e,f,g⟩
theorem At.oA (F:At K mg x st f fd) (S:aO N ps (aC st))
  (hbody:∀(cdv:Value) (A:Around) (outer:List Env) (s:Shared) (H:Hp) (vs:List V) (Q:VK) (E:XK),c7 k (A.deeper (envOfC x (aC st) s.heap.objs.size f cdv))->sp vs H Q E->
    ∃t,oH (cu qZ P w K mg base N x (aC st) f cdv A outer s H E).zm (b9 st) t/\t { nx:=fun _ H'=>Q .bU H',rt:=Q } (start N vs) H)
  (len:∀vs H Q E,sp vs H Q E->vs.length=ps.length:=by intro vs H Q E h;first|(cases h.ex;subst_vars;rfl)|(have h:=h.ex;(repeat first|(obtain ⟨rfl,_⟩:=h;rfl)|(obtain ⟨_,h⟩:=h));done)|(repeat first|(obtain ⟨rfl,_⟩:=h;rfl)|(obtain ⟨_,h⟩:=h)))
  (h:∀(kV doc pm:Value) (an:Option Addr) (cdv ct:Value) (us:List Value),us.length=ps.length->bindArgs (PySem.W.fnOf x x (dI st) (b9 st) (aC st) .none kV doc pm an cdv ct) ⟨us,[]⟩=pure (ps.zip us):=by intro _ _ _ _ _ _ us hl;repeat' (first|rfl|(simp at hl;done)|(rcases us with _|⟨_,us⟩))):Dn P w K mg base (k+1) x ps sp:=F.ok S len hbody h
theorem At.w_ (F:At K mg x st f fd) (S:aO N ps (aC st))
  (hbody:∀(cdv:Value) (A:Around) (outer:List Env) (s:Shared) (H:Hp) (vs:List V) (Q:VK) (E:XK),c7 k (A.deeper (envOfC x (aC st) s.heap.objs.size f cdv))->sp vs H Q E->
    ∃t,oH (cu (fL P w) P w K mg base N x (aC st) f cdv A outer s H E) (b9 st) t/\t { nx:=fun _ H'=>Q .bU H',rt:=Q } (start N vs) H)
  (len:∀vs H Q E,sp vs H Q E->vs.length=ps.length:=by intro vs H Q E h;first|(cases h.ex;subst_vars;rfl)|(have h:=h.ex;(repeat first|(obtain ⟨rfl,_⟩:=h;rfl)|(obtain ⟨_,h⟩:=h));done)|(repeat first|(obtain ⟨rfl,_⟩:=h;rfl)|(obtain ⟨_,h⟩:=h)))
  (h:∀(kV doc pm:Value) (an:Option Addr) (cdv ct:Value) (us:List Value),us.length=ps.length->bindArgs (PySem.W.fnOf x x (dI st) (b9 st) (aC st) .none kV doc pm an cdv ct) ⟨us,[]⟩=pure (ps.zip us):=by intro _ _ _ _ _ _ us hl;repeat' (first|rfl|(simp at hl;done)|(rcases us with _|⟨_,us⟩))):Dx P w K mg base (k+1) x ps sp:=F.W9 S len hbody h
theorem gh.oA (F:gh K C m qual st f fd) (S:aO N ps (aC st))
  (hbody:∀(cdv:Value) (A:Around) (outer:List Env) (s:Shared) (H:Hp) (vs:List V) (Q:VK) (E:XK),c7 k (A.deeper (envOfC qual (aC st) s.heap.objs.size f cdv))->sp vs H Q E->
    ∃t,oH (cu qZ P w K mg base N qual (aC st) f cdv A outer s H E).zm (b9 st) t/\t { nx:=fun _ H'=>Q .bU H',rt:=Q } (start N vs) H)
  (len:∀vs H Q E,sp vs H Q E->vs.length=ps.length:=by intro vs H Q E h;first|(cases h.ex;subst_vars;rfl)|(have h:=h.ex;(repeat first|(obtain ⟨rfl,_⟩:=h;rfl)|(obtain ⟨_,h⟩:=h));done)|(repeat first|(obtain ⟨rfl,_⟩:=h;rfl)|(obtain ⟨_,h⟩:=h)))
  (h:∀(kV doc pm:Value) (an:Option Addr) (cdv ct:Value) (us:List Value),us.length=ps.length->bindArgs (PySem.W.fnOf m qual (dI st) (b9 st) (aC st) .none kV doc pm an cdv ct) ⟨us,[]⟩=pure (ps.zip us):=by intro _ _ _ _ _ _ us hl;repeat' (first|rfl|(simp at hl;done)|(rcases us with _|⟨_,us⟩))):Mn P w K mg base (k+1) C m ps sp:=F.ok S len hbody h
theorem gh.w_ (F:gh K C m qual st f fd) (S:aO N ps (aC st))
  (hbody:∀(cdv:Value) (A:Around) (outer:List Env) (s:Shared) (H:Hp) (vs:List V) (Q:VK) (E:XK),c7 k (A.deeper (envOfC qual (aC st) s.heap.objs.size f cdv))->sp vs H Q E->
    ∃t,oH (cu (fL P w) P w K mg base N qual (aC st) f cdv A outer s H E) (b9 st) t/\t { nx:=fun _ H'=>Q .bU H',rt:=Q } (start N vs) H)
  (len:∀vs H Q E,sp vs H Q E->vs.length=ps.length:=by intro vs H Q E h;first|(cases h.ex;subst_vars;rfl)|(have h:=h.ex;(repeat first|(obtain ⟨rfl,_⟩:=h;rfl)|(obtain ⟨_,h⟩:=h));done)|(repeat first|(obtain ⟨rfl,_⟩:=h;rfl)|(obtain ⟨_,h⟩:=h)))
  (h:∀(kV doc pm:Value) (an:Option Addr) (cdv ct:Value) (us:List Value),us.length=ps.length->bindArgs (PySem.W.fnOf m qual (dI st) (b9 st) (aC st) .none kV doc pm an cdv ct) ⟨us,[]⟩=pure (ps.zip us):=by intro _ _ _ _ _ _ us hl;repeat' (first|rfl|(simp at hl;done)|(rcases us with _|⟨_,us⟩))):Mx P w K mg base (k+1) C m ps sp:=F.W9 S len hbody h
theorem D7.oA (F:D7 K mg x C qual st f fd) (S:aO N ps (aC st))
  (hbody:∀(cdv:Value) (A:Around) (outer:List Env) (s:Shared) (H:Hp) (vs:List V) (Q:VK) (E:XK),c7 k (A.deeper (envOfC qual (aC st) s.heap.objs.size f cdv))->sp vs H Q E->
    ∃t,oH (cu qZ P w K mg base N qual (aC st) f cdv A outer s H E).zm (b9 st) t/\t { nx:=fun _ H'=>Q .bU H',rt:=Q } (start N vs) H)
  (len:∀vs H Q E,sp vs H Q E->vs.length=ps.length:=by intro vs H Q E h;first|(cases h.ex;subst_vars;rfl)|(have h:=h.ex;(repeat first|(obtain ⟨rfl,_⟩:=h;rfl)|(obtain ⟨_,h⟩:=h));done)|(repeat first|(obtain ⟨rfl,_⟩:=h;rfl)|(obtain ⟨_,h⟩:=h)))
  (h:∀(kV doc pm:Value) (an:Option Addr) (cdv ct:Value) (us:List Value),us.length=ps.length->bindArgs (PySem.W.fnOf "__init__" qual (dI st) (b9 st) (aC st) .none kV doc pm an cdv ct) ⟨us,[]⟩=pure (ps.zip us):=by intro _ _ _ _ _ _ us hl;repeat' (first|rfl|(simp at hl;done)|(rcases us with _|⟨_,us⟩))):Cn P w K mg base (k+1) x C ps sp:=F.ok S len hbody h
end
inductive ZA (e:Ec) (vs:List V) (H:Hp) (Q:VK) (E:XK):Prop
 | mk (a:Int) (_:vs=[.int a]) (_:(a<1->Rf e E H 5)) (_:(1<=a->Q .bU H))
def ye (e:Ec):Sp:=bx (ZA e)
inductive ZC (e:Ec) (vs:List V) (H:Hp) (Q:VK) (E:XK):Prop
 | mk (m a:Int) (_:vs=[.int m, .int a]) (_:(a<1->Rf e E H 5)) (_:(1<=a->m<a->Rf e E H 6)) (_:(1<=a->a<=m->Q .bU H))
def Ic (e:Ec):Sp:=bx (ZC e)
inductive RN (T:TC) (e:Ec) (vs:List V) (H:Hp) (Q:VK) (E:XK):Prop
 | mk (n ρ A st x a:_) (_:vs=[.ref A.a, .str x, .int a]) (_:HH T n ρ A H st) (_:Ep T e n ρ A H (jU st (x,a)) (dX st (x,a)) Q E)
def Es (T:TC) (e:Ec):Sp:=bx (RN T e)
inductive Xh (T:TC) (e:Ec) (vs:List V) (H:Hp) (Q:VK) (E:XK):Prop
 | mk (n ρ A st x a:_) (_:vs=[.ref A.a, .str x, .int a]) (_:HH T n ρ A H st) (_:Ep T e n ρ A H (lS st x a:_) (Gd st x a:_) Q E)
def LU (T:TC) (e:Ec):Sp:=bx (Xh T e)
theorem Xi {P:Program} {w:World} {K:Fg} {mg:SO} {base:Heap} {k:Nat} {e:Ec} {ps:List Str} (D:Dx P w K mg base k "check_amount" ps (ye e)):Dn P w K mg base k "check_amount" ps Zp:=
 D.dn fun vs H Q E h=>by
   obtain ⟨⟨a,rfl,h1,q⟩⟩:=h
   exact ⟨a,Z,fun z=>absurd z (by omega),fun _=>q⟩
theorem Xj {P:Program} {w:World} {K:Fg} {mg:SO} {base:Heap} {k:Nat} {e:Ec} {ps:List Str} (D:Dx P w K mg base k "check_loss" ps (Ic e)):Dn P w K mg base k "check_loss" ps S7:=
 D.dn fun vs H Q E h=>by
   obtain ⟨⟨m,a,rfl,h1,h2,q⟩⟩:=h
   exact ⟨m,a,Z,fun z=>absurd z (by omega),fun _ z=>absurd z (by omega),fun _ _=>q⟩
theorem jG {st:HS} {x:Str} (h:x∈fu st):∃(i:Nat) (p:Pt),st.ak[i]?=some p/\p.nm=x:=by
 obtain ⟨p,hp,e⟩:=bK.mp h
 obtain ⟨i,hi,ei⟩:=xr hp
 exact ⟨i,p,by rw [bq hi,ei],e⟩
theorem yY {st:HS} {i:Nat} {p:Pt} (h:st.ak[i]?=some p):p.nm∈fu st:=bK.mpr ⟨p,bO h,Z⟩
theorem BK {α:Type} {nm:α->Str} {f:α->α}:∀{l:List α} {i:Nat} {p:α},(l.map nm).Nodup->l[i]?=some p->(l.map fun q=>if nm q=nm p then f q else q)=l.set i (f p)
 | [],_,_,_,h=>by simp at h
 | a::l,0,p,nd,h=>by
   have e:a=p:=by simpa using h
   subst e
   obtain ⟨h1,_⟩:=fO.mp (show (nm a::l.map nm).Nodup from nd)
   rw [bJ,aB rfl,MB]
   congr 1
   refine (vz (g:=id) (fun q hq=>aA fun z=>h1 (bK.mpr ⟨q,hq,z⟩))).trans (List.map_id l)
 | a::l,i+1,p,nd,h=>by
   obtain ⟨h1,h2⟩:=fO.mp (show (nm a::l.map nm).Nodup from nd)
   have h':l[i]?=some p:=by simpa using h
   rw [bJ,aA (fun z=>h1 (bK.mpr ⟨p,bO h',z.symm⟩)),Gn,BK h2 h']
theorem pF {st:HS} (nd:(st.ak.map (·.nm)).Nodup) {i:Nat} {p:Pt} (h:st.ak[i]?=some p) (f:Pt->Pt):nK st p.nm f={ st with ak:=st.ak.set i (f p) }:=by
 unfold nK
 rw [BK (nm:=fun p:Pt=>p.nm) nd h]
theorem yf {st:HS} (wf:Wf st) {x:Str} {f:Pt->Pt} (h:∀p∈st.ak,p.nm=x->(f p).nm=p.nm/\(f p).ow=p.ow/\(f p).sc=p.sc/\(f p).row=p.row/\1<=(f p).wo/\0<=(f p).we):Wf (nK st x f):=by
 have P:∀{M:Pt->Prop},(∀p∈st.ak,p.nm=x->M (f p))->(∀p∈st.ak,M p)->∀p∈(nK st x f).ak,M p:=fun a c p hp=>by
  obtain ⟨q,hq,rfl⟩:=bK.mp (show p∈st.ak.map _ from hp)
  by_cases e:q.nm=x
  . rw [aB e];exact a q hq e
  . rw [aA e];exact c q hq
 have en:(nK st x f).ak.map (fun p:Pt=>p.nm)=st.ak.map (fun p:Pt=>p.nm):=by
  show (st.ak.map _).map _=_
  rw [gy]
  refine vz fun p hp=>?_
  show (if p.nm=x then f p else p).nm=p.nm
  by_cases e:p.nm=x
  . rw [aB e];exact (h p hp e).1
  . rw [aA e]
 refine ⟨wf.nC,wf.vS,?_,P (fun p hp e=>?_) wf.sub,P (fun p hp e=>?_) wf.rows,P (fun p hp e=>?_) wf.ow,wf.fC,wf.jC,wf.dW,wf.kP,wf.oY,wf.jD,wf.vU,?_,wf.xR,wf.r8,wf.D9,wf.big,wf.mq,P (fun p hp e=>?_) wf.nD,P (fun p hp e=>?_) wf.lz,P (fun p hp e=>?_) wf.mw,P (fun p hp e=>?_) wf.jw,wf.CS⟩
 . show ((nK st x f).ak.map (fun p:Pt=>p.nm)).Nodup;rw [en];exact wf.c6
 . show (f p).nm∈st.nms;rw [(h p hp e).1];exact wf.sub p hp
 . rw [(h p hp e).2.2.2.1];exact wf.rows p hp
 . show (f p).ow∈st.own;rw [(h p hp e).2.1];exact wf.ow p hp
 . show (st.ak.map _).length<=1000;rw [aD];exact wf.mj
 . rw [(h p hp e).2.2.1];exact wf.nD p hp
 . rw [(h p hp e).2.2.2.1];exact wf.lz p hp
 . rw [(h p hp e).2.2.2.1,(h p hp e).2.2.1];exact wf.mw p hp
 . exact (h p hp e).2.2.2.2
theorem yg {st:HS} {x:Str} {a:Int} (h:lS st x a=none):x∈fu st/\1<=a:=by
 unfold lS at h
 by_cases hm:x∈fu st
 . rw [aB hm] at h
   by_cases c:a<1
   . rw [aB c] at h;cases h
   . exact ⟨hm,by omega⟩
 . rw [aA hm] at h;cases h
structure ND (st:HS):Prop where
 big:Jm.Sz 60 (aM st)
 prod:Jm.Sz 7900 st.prod
 bH:∀u∈st.bH,Jm.Sz 8900 u
 stp:st.stp.length<100
def jj (st:HS) (o:Str) (a:Int):List Int:=(List.replicate st.own.length 0).set (st.own.idxOf o) (a*st.prod)
inductive UR (T:TC) (e:Ec) (vs:List V) (H:Hp) (Q:VK) (E:XK):Prop
 | mk (n ρ A st o a:_) (_:vs=[.ref A.a, .str o, .int a]) (_:HH T n ρ A H st) (_:ND st) (_:Ep T e n ρ A H (kr st o a:_) (HX st o a:_) Q E)
def Ie (T:TC) (e:Ec):Sp:=bx (UR T e)
theorem BL {st:HS} {o:Str} {a:Int} (h:kr st o a=none):o∈st.own/\1<=a/\a<aM st:=by
 unfold kr at h
 split at h
 . split at h
   . cases h
   . split at h
     . cases h
     . exact ⟨by assumption,by omega,by omega⟩
 . cases h
theorem RO {st:HS} {o:Str} {a m:Int} (h:m∈jj st o a):m=0\/m=a*st.prod:=by
 rcases Mq h with z|z
 . exact .inl (List.eq_of_mem_replicate z)
 . exact .inr z
theorem RP (st:HS) (o:Str) (a:Int):(jj st o a).length=st.own.length:=by unfold jj;rw [gK,m5]
theorem ND.blend {st:HS} {o:Str} {a:Int} (w:ND st) (wf:Wf st) (h1:1<=a) (h2:a<aM st):pe st (aM st-a) (aM st) a (jj st o a):=by
 have p1:=wf.dW
 refine ⟨by omega,by omega,by omega,by rw [RP,wf.fC],fun m hm=>?_,w.prod,w.big,w.bH,w.stp⟩
 have:0<=a*st.prod:=m9 (by omega) (by omega)
 rcases RO hm with z|z <;> omega
theorem RQ (n j:Nat):(List.replicate n (0:Int)).getD j 0=0:=by
 rw [lF,List.getElem?_replicate]
 split <;> rfl
inductive US (T:TC) (e:Ec) (vs:List V) (H:Hp) (Q:VK) (E:XK):Prop
 | mk (n ρ A st x y a we:_) (_:vs=[.ref A.a, .str x, .str y, .int a, .int we]) (_:HH T n ρ A H st) (_:y.cps.toList.length<=100000) (_:st.nms.length<1000) (_:st.ak.length<1000) (_:Ep T e n ρ A H (i6 st x y a we:_) (nL st x y a we:_) Q E)
def Ig (T:TC) (e:Ec):Sp:=bx (US T e)
theorem je {H:Hp} {a b:Addr} {o:HO} (h:upd H a o b=none):H b=none:=by
 by_cases z:b=a
 . rw [z,ai] at h;cases h
 . rw [ay z] at h;exact h
theorem RS {st:HS} {y:Str} (h:newR st y=none):isNm y=true/\y∉st.nms:=by
 unfold newR at h
 split at h
 . split at h
   . cases h
   . exact ⟨by assumption,by assumption⟩
 . cases h
theorem kX {st:HS} {x y:Str} {a we:Int} (h:i6 st x y a we=none):x∈fu st/\(isNm y=true/\y∉st.nms)/\1<=a/\0<=we/\a<(cE st x).wo/\we<=(cE st x).we:=by
 unfold i6 at h
 split at h
 . cases hf:newR st y with
   | some j=>rw [hf] at h;cases h
   | none=>
     rw [hf] at h
     have h':(if a<1\/we<0 then some 5 else if (cE st x).wo<=a\/(cE st x).we<we then some 6 else none)=none:=h
     split at h'
     . cases h'
     . split at h'
       . cases h'
       . exact ⟨by assumption,RS hf,by omega,by omega,by omega,by omega⟩
 . cases h
theorem Ih {st:HS} {x y:Str} {a we:Int} (wf:Wf st) (h:i6 st x y a we=none) (h2:st.nms.length<1000) (h3:st.ak.length<1000):Wf (nL st x y a we):=by
 obtain ⟨hx,⟨_,hy⟩,h4,h5,h6,h7⟩:=kX h
 obtain ⟨i,p0,ei,e0⟩:=jG hx
 have hp:=bO ei
 have eg:=c8 wf hp e0
 have w1:Wf (nK st x fun p=>{ p with wo:=p.wo-a,we:=p.we-we }):=yf wf fun p gb e=>by
  rw [rH wf gb hp (e.trans e0.symm)]
  rw [eg] at h6 h7
  exact ⟨Z,Z,Z,Z,by show 1<=p0.wo-a;omega,by show 0<=p0.we-we;omega⟩
 unfold nL
 rw [eg]
 exact LH w1 hy h2 (by show (st.ak.map _).length<1000;rw [aD];exact h3) (wf.rows p0 hp) (wf.ow p0 hp) (wf.nD p0 hp) (wf.lz p0 hp) (wf.mw p0 hp) ⟨h4,h5⟩
theorem Xk {P:Program} {w:World} {K:Fg} {mg:SO} {base:Heap} {k:Nat} {T:TC} {e:Ec} {ps:List Str} (D:Mx P w K mg base k T.hold "check_new" ps (uH T e)):Mn P w K mg base k T.hold "check_new" ps (Bw T):=
 D.mn fun vs H Q E h=>by
   obtain ⟨⟨n,ρ,A,st,x,rfl,h,h1,h2,q⟩⟩:=h
   have hn:newR st x=none:=by unfold newR;rw [aB h1,aA h2]
   refine ⟨n,ρ,A,st,x,Z,h,fP (pA h1) (by decide),fun i hi=>?_,fun _=>q⟩
   rw [hn] at hi;cases hi
inductive Xl (T:TC) (e:Ec) (vs:List V) (H:Hp) (Q:VK) (E:XK):Prop
 | mk (n ρ A st x o:_) (_:vs=[.ref A.a, .str x, .str o]) (_:HH T n ρ A H st) (_:∀p∈st.ak,(a_ st p).sum=st.prod) (_:Ep T e n ρ A H (kR st x o:_) (fH st x o:_) Q E)
def LV (T:TC) (e:Ec):Sp:=bx (Xl T e)
theorem uh {st:HS} {x o:Str} (h:kR st x o=none):x∈fu st/\o∈st.own:=by
 unfold kR at h
 split at h
 . split at h
   . exact ⟨by assumption,by assumption⟩
   . cases h
 . cases h
theorem Ii:∀{l:List Int},(∀t∈l,0<=t)->0<=l.sum/\∀t∈l,t<=l.sum
 | [],_=>⟨jX _,fun t h=>by cases h⟩
 | a::l,h=>by
   obtain ⟨h1,h2⟩:=Ii (l:=l) fun t ht=>h t (cD _ ht)
   have h0:=h a cV
   refine ⟨by show 0<=a+l.sum;omega,fun t ht=>?_⟩
   show t<=a+l.sum
   rcases c9.mp ht with rfl|ht
   . omega
   . have:=h2 t ht;omega
theorem Ti {l:List Int} {i:Nat} {v:Int} (h:∀t∈l,0<=t) (hv:0<=v):∀t∈l.set i v,0<=t:=fun t ht=>by
 rcases Mq ht with z|z
 . exact h t z
 . rw [z];exact hv
theorem z_ {l:List Int} (h:∀t∈l,0<=t) (i:Nat):0<=l.getD i 0:=by
 rw [lF]
 cases e:l[i]? with
 | none=>exact jX _
 | some v=>exact h v (bO e)
def LW (l:List Int) (i j:Nat):List Int:=(l.set j (l.getD j 0+l.getD i 0)).set i 0
theorem C4 (l:List Int) (i j:Nat):(LW l i j).length=l.length:=by unfold LW;rw [gK,gK]
theorem UT {l:List Int} {i j:Nat} (hi:i<l.length) (hj:j<l.length) (ne:i≠j):(LW l i j).sum=l.sum:=by
 unfold LW
 rw [sum_set _ _ _ (by rw [gK];exact hi),sum_set _ _ _ hj,Rq _ _ _ _ hj,aA ne]
 omega
theorem UU {l:List Int} {i j:Nat} (h:∀t∈l,0<=t):∀t∈LW l i j,0<=t:=
 Ti (Ti h (Int.add_nonneg (z_ h _) (z_ h _))) (jX _)
theorem Ij {st:HS} {tops:List Int} (h:tops.length=st.br.length):List.zipWith (fun r c=>(1:Int)*r+c) (ko st tops) st.br=tops:=by
 unfold ko
 generalize st.br=cs at h
 induction tops generalizing cs with
 | nil=>rfl
 | cons t ts ih=>
   cases cs with
   | nil=>cases h
   | cons c cs=>
     have:=ih cs (Nat.succ.inj h)
     show (1*(t-c)+c)::_=t::ts
     rw [this]
     congr 1
     omega
theorem BN {st:HS} (wf:Wf st) {p:Pt} (hp:p∈st.ak):(a_ st p).length=st.own.length:=by
 unfold a_
 rw [kh,wf.rows p hp,wf.fC,vD]
def yZ (st:HS) (o:Str) (p:Pt):Pt:={ p with ow:=o,sc:=1,row:=ko st (kT st p o) }
theorem wm (st:HS) (p:Pt) (o:Str):kT st p o=LW (a_ st p) (st.own.idxOf p.ow) (st.own.idxOf o):=rfl
theorem Et {st:HS} (wf:Wf st) {p:Pt} (hp:p∈st.ak) (o:Str):a_ st (yZ st o p)=kT st p o:=by
 have:(kT st p o).length=st.br.length:=by rw [wm,C4,BN wf hp,wf.fC]
 exact Ij this
theorem Ik {st:HS} (wf:Wf st) {p:Pt} (hp:p∈st.ak) {o:Str} (ho:o∈st.own) (ne:st.own.idxOf o≠st.own.idxOf p.ow) (hs:(a_ st p).sum=st.prod):(∀t∈kT st p o,0<=t/\t<=st.prod)/\(kT st p o).sum=st.prod:=by
 have hl:=BN wf hp
 have h1:st.own.idxOf p.ow<(a_ st p).length:=by rw [hl];exact tQ (wf.ow p hp)
 have h2:st.own.idxOf o<(a_ st p).length:=by rw [hl];exact tQ ho
 have hp0:=UU (i:=st.own.idxOf p.ow) (j:=st.own.idxOf o) fun t ht=>(wf.mw p hp t ht).1
 have hsum:=(UT h1 h2 (cM ne)).trans hs
 rw [wm]
 exact ⟨fun t ht=>⟨hp0 t ht,by rw [<-hsum];exact (Ii hp0).2 t ht⟩,hsum⟩
theorem LX {st:HS} {x o:Str} (wf:Wf st) (h:kR st x o=none) (hs:∀p∈st.ak,(a_ st p).sum=st.prod):Wf (fH st x o):=by
 obtain ⟨hx,ho⟩:=uh h
 obtain ⟨i,p0,ei,e0⟩:=jG hx
 have hp:=bO ei
 have eg:=c8 wf hp e0
 unfold fH
 by_cases ne:st.own.idxOf o=st.own.idxOf (cE st x).ow
 . rw [aB ne];exact wf
 rw [aA ne]
 rw [eg] at ne
 obtain ⟨ft,_⟩:=Ik wf hp ho ne (hs p0 hp)
 have uq:∀p∈st.ak,p.nm=x->p=p0:=fun p gb e=>rH wf gb hp (e.trans e0.symm)
 have P:∀{M:Pt->Prop},M (yZ st o p0)->(∀p∈st.ak,M p)->∀p∈(nK st x (yZ st o)).ak,M p:=fun a c p gb=>by
  obtain ⟨q,hq,rfl⟩:=bK.mp (show p∈st.ak.map _ from gb)
  by_cases e:q.nm=x
  . rw [aB e,uq q hq e];exact a
  . rw [aA e];exact c q hq
 have hl:(kT st p0 o).length=st.own.length:=by rw [wm,C4,BN wf hp]
 have en:(nK st x (yZ st o)).ak.map (fun p:Pt=>p.nm)=st.ak.map fun p:Pt=>p.nm:=by
  show (st.ak.map _).map _=_
  rw [gy]
  refine vz fun p _=>?_
  show (if p.nm=x then yZ st o p else p).nm=p.nm
  by_cases e:p.nm=x
  . rw [aB e];rfl
  . rw [aA e]
 have p1:=wf.dW
 refine ⟨wf.nC,wf.vS,?_,P (wf.sub p0 hp) wf.sub,P ?_ wf.rows,P ho wf.ow,wf.fC,wf.jC,wf.dW,wf.kP,wf.oY,wf.jD,wf.vU,?_,wf.xR,wf.r8,wf.D9,wf.big,wf.mq,P ⟨jX _,p1⟩ wf.nD,P ?_ wf.lz,P ?_ wf.mw,P (wf.jw p0 hp) wf.jw,wf.CS⟩
 . show ((nK st x (yZ st o)).ak.map (fun p:Pt=>p.nm)).Nodup
   rw [en];exact wf.c6
 . show (ko st (kT st p0 o)).length=st.own.length
   unfold ko;rw [kh,hl,wf.fC,vD]
 . show (st.ak.map _).length<=1000
   rw [aD];exact wf.mj
 . intro r hr
   obtain ⟨t,ht,c,hc,rfl⟩:=sf (show r∈List.zipWith (fun t c=>t-c) (kT st p0 o) st.br from hr)
   have a1:=ft t ht
   have a2:=wf.mq c hc
   exact ⟨by show -st.prod<=t-c;omega,by show t-c<=st.prod;omega⟩
 . intro t ht
   have:t∈kT st p0 o:=by rw [<-Et wf hp];exact ht
   exact ft t this
theorem LY:∀{l m:List Int} {a b:Int},l.length=m.length->(∀j,l.getD j 0*a=m.getD j 0*b)->l.sum*a=m.sum*b
 | [],[],_,_,_,_=>by show (0:Int)*_=0*_;rw [Int.zero_mul,Int.zero_mul]
 | x::l,y::m,a,b,e,h=>by
   have h0:x*a=y*b:=h 0
   have:=LY (l:=l) (m:=m) (Nat.succ.inj e) fun j=>h (j+1)
   show (x+l.sum)*a=(y+m.sum)*b
   rw [rB,rB,h0,this]
theorem Il {q0 q1:Addr×Addr×Addr}:∀{ps:List Pt} {qs:List (Addr×Addr×Addr)} {i:Nat},qs[i]?=some q0->q1.1=q0.1->cg ps (qs.set i q1)=cg ps qs
 | [],_,_,_,_=>by simp [cg]
 | _::_,[],_,h,_=>by simp at h
 | p::ps,q::qs,0,h,e=>by
   have:q=q0:=by simpa using h
   subst this
   show (_,V.ref q1.1)::_=(_,V.ref q.1)::_
   rw [e]
 | p::ps,q::qs,i+1,h,e=>by
   have:=Il (ps:=ps) (qs:=qs) (i:=i) (q1:=q1) (by simpa using h) e
   show _::cg ps (qs.set i q1)=_::cg ps qs
   rw [this]
theorem aL.RT {T:TC} {n:Nat} {ρ:eY} {A:HA} {H:Hp} {st:HS} (h:aL T n ρ A H st) (g:Gh ρ H) {i:Nat} {p0 p1:Pt} {q0:Addr×Addr×Addr} {r:Addr} (ep:st.ak[i]?=some p0) (eq:A.qs[i]?=some q0) (e1:p1.nm=p0.nm) (cr:ρ r=some (n,21,p0.nm)) (hr:H r=some (.lst (p1.row.map V.int))) (nd:(st.ak.map (·.nm)).Nodup):
  aL T n ρ { A with qs:=A.qs.set i (q0.1,q0.2.1,r) } (upd H q0.1 (.ins T.part q0.2.1 (cO p1 r))) { st with ak:=st.ak.set i p1 }:=by
 have c0:=(h.opt i p0 q0 ep eq).2.2.1
 have k:=eE (o:= .ins T.part q0.2.1 (cO p1 r)) g c0
 have Xm:=fun {b:Addr} {u:Nat} {y:Str} {w:HO}=>xO (H:=H) (o:= .ins T.part q0.2.1 (cO p1 r)) c0 (b:=b) (u:=u) (y:=y) (w:=w)
 obtain ⟨vs,h1,h2⟩:=h.oK
 obtain ⟨kvs,k1,k2,k3⟩:=h.okn
 refine ⟨kz k h.ca h.oa,h.ca,kz k h.gU h.gT,h.gU,?_,h.fK,⟨vs,kz k h.iw h1,h2.keep k (by decide)⟩,h.iw,kz k h.iy h.qu,h.iy,kz k h.iA h.iz,h.iA,kz k h.iX h.iN,h.iX,kz k h.cpu h.jL,h.cpu,kz k h.iB h.lH,h.iB,⟨kvs,kz k h.iC k1,fun p hp=>let ⟨t,r,e,q⟩:=k2 p hp;⟨t,r,e,k.1 _ _ q⟩,k3⟩,h.iC,?_,?_⟩
 . show _=some (HO.dK (cg (st.ak.set i p1) (A.qs.set i (q0.1,q0.2.1,r))))
   rw [Il (q1:=(q0.1,q0.2.1,r)) eq rfl,yT ep e1];exact kz k h.fK h.dN
 . show (A.qs.set i _).length=(st.ak.set i _).length
   rw [gK,gK];exact h.ql
 . intro j p q hp hq
   have hi:=(dP.mp ep).1
   have hi':=(dP.mp eq).1
   by_cases e:i=j
   . subst e
     rw [show ({ st with ak:=st.ak.set i p1 }:HS).ak=st.ak.set i p1 from rfl,oQ hi] at hp
     rw [show ({ A with qs:=A.qs.set i (q0.1,q0.2.1,r) }:HA).qs=A.qs.set i (q0.1,q0.2.1,r) from rfl,oQ hi'] at hq
     cases hp;cases hq
     exact ⟨ai,Xm cr (.inl (by decide)) hr,by rw [e1];exact c0,by rw [e1];exact cr⟩
   . rw [show ({ st with ak:=st.ak.set i p1 }:HS).ak=st.ak.set i p1 from rfl,xq e] at hp
     rw [show ({ A with qs:=A.qs.set i (q0.1,q0.2.1,r) }:HA).qs=A.qs.set i (q0.1,q0.2.1,r) from rfl,xq e] at hq
     obtain ⟨a1,a2,a3,a4⟩:=h.opt j p q hp hq
     exact ⟨Xm a3 (.inr fun z=>e (Bt nd ep hp z.symm)) a1,Xm a4 (.inl (by decide)) a2,a3,a4⟩
theorem Im {X:Cx}:VF X (MX X.K):=by
 intro pins s σ H x y v u Q I rx ry h
 obtain ⟨p,xs,i,z,rfl,rfl,hq,he,q⟩:=h
 cases rx
 obtain ⟨t,rfl⟩:=ry
 obtain ⟨its,r,pl,hz⟩:=I.list hq
 obtain ⟨j,h1,h2,h3,h4,h5⟩:=yN he
 obtain ⟨w,ew,rw'⟩:=r.get h2
 have hl:=r.length
 have hn:=rS
 have fin:EP X pins σ Q w s:=⟨z,H,I,rw',q⟩
 by_cases h0:0<=i
 . have hj:i.toNat=j:=by
    rw [seqIndex_of h0 h5] at h1
    exact gq h1
   exact wpAny_getItem_list pl.isList h0 (by omega) (by rw [hj];simpa using ew) fin
 . have hj:(i+(its.toArray.size:Int)).toNat=j:=by
    rw [seqIndex_neg (by omega) h4] at h1
    rw [gG,<-hl]
    exact gq h1
   exact wpAny_getItem_list_neg pl.isList (by omega) (by rw [gG] <;> omega) (by omega) (by rw [hj];simpa using ew) fin
inductive PJ (T:TC) (vs:List V) (H:Hp) (Q:VK) (E:XK):Prop
 | mk (n ρ A st:_) (i:Nat) (p:Pt) (_:vs=[.ref A.a, .str p.nm]) (_:HH T n ρ A H st) (_:st.ak[i]?=some p) (_:st.kn+100<=1000000) (_:∀r ws H',HH T n ρ A H' { st with kn:=st.kn+100 }->Fr n ρ H ρ H'->H r=none->H' r=some (.lst ws)->ρ r=none->mh H' ws (nG st p:_)->Q (.ref r) H')
def BO (T:TC):Sp:=bx (PJ T)
structure RU (st:HS):Prop where
 kn:st.kn+100<=1000000
 dj:st.dj.length<1000
 wo:∀p∈st.ak,Jm.Sz 60 p.wo
 prod:Jm.Sz 7900 st.prod
 bH:∀u∈st.bH,Jm.Sz 8900 u
inductive Xn (T:TC) (e:Ec) (vs:List V) (H:Hp) (Q:VK) (E:XK):Prop
 | mk (n ρ A st x:_) (_:vs=[.ref A.a, .str x]) (_:HH T n ρ A H st) (_:RU st) (_:Ep T e n ρ A H (ue st x:_) (p6 st x:_) Q E)
def LZ (T:TC) (e:Ec):Sp:=bx (Xn T e)
theorem qB {st:HS} {x:Str} (h:ue st x=none):x∈fu st:=by
 unfold ue at h
 split at h
 . assumption
 . cases h
theorem Fr.ZD {n:Nat} {ρ:eY} {H H':Hp} (f:Fr n ρ H ρ H') (g:Gh ρ H') {b:Addr} (h:H' b=none):H b=none:=by
 cases e:H b with
 | none=>rfl
 | some o=>
   have:=(f b o e fun t x z=>by rw [g.none h] at z;cases z).1
   rw [h] at this;cases this
theorem sJ:∀{l:List Pt} {i:Nat} {p:Pt},(l.map (·.nm)).Nodup->l[i]?=some p->l.filter (fun q=>decide (q.nm≠p.nm))=l.eraseIdx i
 | [],_,_,_,h=>by simp at h
 | x::l,0,p,nd,h=>by
   obtain ⟨h1,h2⟩:=fO.mp (show (x.nm::l.map (·.nm)).Nodup from nd)
   have e:x=p:=by simpa using h
   subst e
   rw [fY,aA (by simp)]
   exact CG.mpr fun y hy=>aY fun z=>h1 (bK.mpr ⟨y,hy,z⟩)
 | x::l,i+1,p,nd,h=>by
   obtain ⟨h1,h2⟩:=fO.mp (show (x.nm::l.map (·.nm)).Nodup from nd)
   have h':l[i]?=some p:=by simpa using h
   rw [fY,aB (by simpa using fun z:x.nm=p.nm=>h1 (bK.mpr ⟨p,bO h',z.symm⟩)),sJ h2 h']
   rfl
def mC (st:HS) (p:Pt):List Int:=(gj st p).set (st.own.idxOf p.ow) ((gj st p).getD (st.own.idxOf p.ow) 0-p.wo*st.prod)
theorem RV {st:HS} (wf:Wf st) {p:Pt} (hp:p∈st.ak) {m:Nat} (h1:Jm.Sz 60 p.wo) (h2:Jm.Sz m st.prod) (h3:∀u∈st.bH,Jm.Sz (m+60) u):∀u∈gj st p,Jm.Sz (m+61) u:=fun u hu=>by
 obtain ⟨i,a,t,ea,et,rfl⟩:=uc (show u∈List.zipWith (fun u t=>u+p.wo*t) st.bH (a_ st p) from hu)
 have ht:=wf.mw p hp t (bO et)
 have zt:Jm.Sz m t:=h2.of_le (by omega)
 exact (h3 a (bO ea)).jj ((h1.mul zt).mono (by omega))
theorem L1 {st:HS} (wf:Wf st) {p:Pt} (hp:p∈st.ak) {m:Nat} (h1:Jm.Sz 60 p.wo) (h2:Jm.Sz m st.prod) (h3:∀u∈st.bH,Jm.Sz (m+60) u):∀u∈mC st p,Jm.Sz (m+62) u:=fun u hu=>by
 have g:=RV wf hp h1 h2 h3
 rcases Mq (show u∈(gj st p).set _ _ from hu) with z|z
 . exact (g u z).mono (by omega)
 . rw [z]
   have z0:Jm.Sz (m+61) ((gj st p).getD (st.own.idxOf p.ow) 0):=by
    rw [lF]
    cases e:(gj st p)[st.own.idxOf p.ow]? with
    | none=>exact (by show Jm.Sz (m+61) 0;unfold Jm.Sz;exact Nat.pow_pos (by decide))
    | some y=>exact g y (bO e)
   have:=z0.jj (((h1.mul h2).mono (by omega:60+m<=m+61)).neg)
   rw [Int.sub_eq_add_neg]
   exact this
theorem yh {st:HS} (wf:Wf st) {p:Pt} (hp:p∈st.ak):(gj st p).length=st.own.length:=by
 unfold gj
 rw [kh,BN wf hp,wf.jC,vD]
theorem sL {st:HS} (wf:Wf st) {p:Pt} (hp:p∈st.ak):p6 st p.nm={ st with ak:=st.ak.filter (fun q=>decide (q.nm≠p.nm)),dj:=st.dj++[⟨p.nm,p.ow,p.wo,nG st p⟩],kn:=st.kn+100,bH:=mC st p }:=by
 unfold p6 mC
 rw [c8 wf hp rfl]
theorem L3 {st:HS} {x:Str} (wf:Wf st) (h:ue st x=none) (l:RU st):Wf (p6 st x):=by
 obtain ⟨i,p,e1,rfl⟩:=jG (qB h)
 have hp:=bO e1
 rw [sL wf hp]
 have S:∀{M:Pt->Prop},(∀x∈st.ak,M x)->∀x∈st.ak.filter (fun q=>decide (q.nm≠p.nm)),M x:=fun h x hx=>h x (vB.mp hx).1
 have hf:=List.length_filter_le (fun q:Pt=>decide (q.nm≠p.nm)) st.ak
 refine ⟨wf.nC,wf.vS,List.Nodup.sublist (List.Sublist.map _ List.filter_sublist) wf.c6,S wf.sub,S wf.rows,S wf.ow,wf.fC,?_,wf.dW,wf.kP,wf.oY,wf.jD,wf.vU,?_,wf.xR,?_,l.kn,wf.big,wf.mq,S wf.nD,S wf.lz,S wf.mw,S wf.jw,?_⟩
 . show (mC st p).length=_
   unfold mC
   rw [gK,yh wf hp]
 . have:=wf.mj
   show (List.filter _ _).length<=1000
   omega
 . show (st.dj++[_]).length<=1000
   rw [dw]
   exact l.dj
 . exact fun u hu=>(L1 wf hp (m:=8840) (l.wo p hp) (l.prod.mono (by decide)) (fun u hu=>(l.bH u hu).mono (by decide)) u hu).mono (by decide)
inductive PK (c:Nat) (own:List Str) (sh:List (Str×Rat)):Prop
 | mk (RW:List Str) (tops:List Int) (b:Int) (_:RW <+:own) (_:RW.length=tops.length) (_:sh=Pf RW tops b) (_:∀t∈tops,0<=t) (_:tops.sum=b) (_:1<=b) (_:Jm.Sz (64*c+1) b)
theorem PK.mono {c c':Nat} {own own':List Str} {sh:List (Str×Rat)} (h:PK c own sh) (hc:c<=c') (ho:own <+:own'):PK c' own' sh:=by
 obtain ⟨o0,ts,b,h1,h2,h3,h4,h5,h6,h7⟩:=h
 exact ⟨o0,ts,b,h1.trans ho,h2,h3,h4,h5,h6,h7.mono (by omega)⟩
structure Go (c:Nat) (st:HS):Prop where
 bH:∀u∈st.bH,Jm.Sz (64*c+61) u
 stp:st.stp.length<=c
 prod:Jm.Sz (64*c+1) st.prod
 wo:∀p∈st.ak,p.wo<=1000000000000*((c:Int)+1)
 we:∀p∈st.ak,p.we<=1000000000
 pl:st.ak.length<=c
 kl:st.nms.length<=c
 ol:0<st.own.length
 nk:∀x∈st.nms,isNm x=true
 on:∀o∈st.own,isNm o=true
 sum:∀p∈st.ak,(a_ st p).sum=st.prod
 al:st.dj.length<=c
 dj:∀a∈st.dj,PK c st.own a.sh
theorem Go.mono {c:Nat} {st:HS} (g:Go c st):Go (c+1) st:=
 ⟨fun u hu=>(g.bH u hu).mono (by omega),by have:=g.stp;omega,g.prod.mono (by omega),fun p hp=>by have:=g.wo p hp;omega,g.we,by have:=g.pl;omega,by have:=g.kl;omega,g.ol,g.nk,g.on,g.sum,by have:=g.al;omega,fun a ha=>(g.dj a ha).mono (by omega) (List.prefix_refl _)⟩
theorem L4:∀{ps:List Pt} {m:Int},(∀p∈ps,1<=p.wo/\p.wo<=m)->0<=(ps.map (·.wo)).sum/\(ps.map (·.wo)).sum<=m*(ps.length:Int)
 | [],m,_=>by show 0<=(0:Int)/\(0:Int)<=m*0;omega
 | p::ps,m,h=>by
   have h0:=h p cV
   have ih:=L4 (ps:=ps) (m:=m) fun x hx=>h x (cD _ hx)
   rw [bJ,cL,jy,show (((ps.length+1:Nat)):Int)=(ps.length:Int)+1 from by omega,tV,vE]
   omega
theorem Go.whole {c:Nat} {st:HS} (g:Go c st) (wf:Wf st) (hc:c<=91):0<=aM st/\Jm.Sz 60 (aM st):=by
 have h:=L4 (ps:=st.ak) (m:=92000000000000) fun p hp=>⟨(wf.jw p hp).1,by have:=g.wo p hp;omega⟩
 have hl:=g.pl
 have h2:(92000000000000:Int)*(st.ak.length:Int)<=92000000000000*91:=by omega
 have h3:aM st<=92000000000000*91:=Int.le_trans h.2 h2
 have h1:0<=aM st:=h.1
 exact ⟨h1,(show Jm.Sz 60 (92000000000000*91:Int) from jK (by decide +kernel)).of_le (by omega)⟩
theorem Go.aw {c:Nat} {st:HS} (g:Go c st) (wf:Wf st) (hc:c<=91):ND st:=⟨(g.whole wf hc).2,g.prod.mono (by omega),fun u hu=>(g.bH u hu).mono (by omega),by have:=g.stp;omega⟩
theorem Go.sz {c:Nat} {st:HS} (g:Go c st) (wf:Wf st) (hc:c<=91):∀p∈st.ak,Jm.Sz 60 p.wo:=fun p hp=>by
 have h:=g.wo p hp
 have h1:=(wf.jw p hp).1
 exact (show Jm.Sz 60 (92000000000000:Int) from jK (by decide +kernel)).of_le (by omega)
theorem Go.ld {c:Nat} {st:HS} (g:Go c st) (wf:Wf st) (hc:c<=91) (hk:st.kn+100<=1000000):RU st:=
 ⟨hk,by have:=g.al;omega,g.sz wf hc,g.prod.mono (by omega),fun u hu=>(g.bH u hu).mono (by omega)⟩
theorem BP {c:Nat} {st:HS} (g:Go c st) {ps:List Pt} {ns:List Str} (h:∀p∈ps,(a_ st p).sum=st.prod/\p.wo<=1000000000000*((c:Int)+2)/\p.we<=1000000000) (hl:ps.length<=c+1) (hn:ns.length<=c+1) (hk:∀x∈ns,isNm x=true):Go (c+1) { st with ak:=ps,nms:=ns }:=
 ⟨g.mono.bH,g.mono.stp,g.mono.prod,fun p hp=>by have:=(h p hp).2.1;omega,fun p hp=>(h p hp).2.2,hl,hn,g.ol,hk,g.on,fun p hp=>(h p hp).1,g.mono.al,g.mono.dj⟩
theorem Go.same {c:Nat} {st:HS} (g:Go c st) {ps:List Pt} (h:∀p'∈ps,∃p∈st.ak,p'.row=p.row/\p'.sc=p.sc/\p'.wo<=p.wo+1000000000000/\p'.we<=p.we) (hl:ps.length<=c+1):Go (c+1) { st with ak:=ps }:=
 BP g (ns:=st.nms) (fun p' gb=>by
  obtain ⟨p,hp,e1,e2,e3,e4⟩:=h p' gb
  have w:=g.wo p hp
  have v:=g.we p hp
  exact ⟨by have:=g.sum p hp;unfold a_ at this ⊢;rw [e1,e2];exact this,by omega,by omega⟩) hl g.mono.kl g.nk
theorem Io {c:Nat} {st st':HS} {kept lost:Int} {added:List Int} (g:Go c st) (wf:Wf st) (bl:pe st kept (aM st) lost added) (hs:added.sum=lost*st.prod) (hc:c<=90) (eC:st'={ bh st kept (aM st) added with ak:=st'.ak })
  (hp:∀p'∈st'.ak,∃p∈st.ak,p'.row=p.row/\p'.sc=p.sc*kept / cK st kept (aM st) added/\p'.wo<=p.wo/\p'.we=p.we) (hl:st'.ak.length<=st.ak.length):Go (c+1) st':=by
 have zw:=g.whole wf (by omega)
 obtain ⟨hd,hsw,_,_⟩:=bl.dvds
 have w1:0<aM st:=by have:=bl.k;have:=bl.l;have:=bl.w;omega
 have s1:1<=aM st / cK st kept (aM st) added:=by
  have:=Int.le_of_dvd w1 hsw
  exact Int.le_ediv_of_mul_le hd (by omega)
 have s2:aM st / cK st kept (aM st) added<=aM st:=Int.ediv_le_self _ (by omega)
 have zs:Jm.Sz 60 (aM st / cK st kept (aM st) added):=zw.2.of_le (by omega)
 have ep:st'.prod=(bh st kept (aM st) added).prod:=by rw [eC]
 have ec:st'.br=(bh st kept (aM st) added).br:=by rw [eC]
 have epr:st'.prod=st.prod*(aM st / cK st kept (aM st) added):=by rw [ep];unfold bh;rw [BD s1]
 have en:st'.nms=st.nms:=by rw [eC];show (bh st kept (aM st) added).nms=_;unfold bh;rw [ua]
 have eo:st'.own=st.own:=by rw [eC];show (bh st kept (aM st) added).own=_;unfold bh;rw [qy]
 have ea:st'.dj=st.dj:=by rw [eC];show (bh st kept (aM st) added).dj=_;unfold bh;rw [qz]
 have p1:=wf.dW
 have gm:=g.mono
 refine ⟨fun u hu=>?_,?_,?_,fun p' gb=>?_,fun p' gb=>?_,by have:=g.pl;omega,by rw [en];exact gm.kl,by rw [eo];exact g.ol,by rw [en];exact g.nk,by rw [eo];exact g.on,fun p' gb=>?_,by rw [ea];exact gm.al,by rw [ea,eo];exact gm.dj⟩
 . rw [eC] at hu
   have hu:u∈(bh st kept (aM st) added).bH:=hu
   unfold bh at hu
   rw [Eg] at hu
   obtain ⟨x,hx,rfl⟩:=bK.mp hu
   exact ((g.bH x hx).mul zs).mono (by omega)
 . rw [eC]
   show (bh st kept (aM st) added).stp.length<=c+1
   unfold bh eV
   split
   . show (st.stp++[_]).length<=c+1
     rw [dw];have:=g.stp;show st.stp.length+1<=c+1;omega
   . exact gm.stp
 . rw [epr];exact (g.prod.mul zs).mono (by omega)
 . obtain ⟨p,h0,_,_,e3,_⟩:=hp p' gb
   have:=gm.wo p h0
   omega
 . obtain ⟨p,h0,_,_,_,e4⟩:=hp p' gb
   rw [e4];exact g.we p h0
 . obtain ⟨p,h0,e1,e2,_,_⟩:=hp p' gb
   have tl:=v5 wf h0
   have tl':(a_ st' p').length=st.br.length:=by
    unfold a_
    rw [kh,e1,wf.rows p h0,<-wf.fC,ec]
    unfold bh fk
    rw [Ef,aD,kh,bl.len];omega
   have r:=LY (l:=List.zipWith (fun t m=>t*kept+m) (a_ st p) added) (m:=a_ st' p') (a:=st'.prod) (b:=st.prod*aM st) (by rw [kh,tl,tl',bl.len];omega) fun j=>by
    rw [sy (f:=fun t m=>t*kept+m) (by show (0:Int)*_+0=0;omega) (by rw [tl,bl.len])]
    exact Pw wf bl ec ep h0 e1 e2 (B:=st.prod) rfl rfl
   rw [LN _ (by rw [tl,bl.len]),g.sum p h0,hs,rm lost,<-tV,<-bl.w,rm _ st'.prod] at r
   exact (Int.eq_of_mul_eq_mul_right (Int.ne_of_gt (Int.mul_pos (by omega) w1)) r).symm
theorem Eu:∀(rs:List Row) (s:HS),(∀r∈rs,1<=r.2)->∀p'∈(rs.foldl dX s).ak,∃p∈s.ak,∃w,p'={ p with wo:=w }/\w<=p.wo
 | [],s,_,p',h=>⟨p',h,p'.wo,Z,jX _⟩
 | r::rs,s,h1,p',h=>by
   obtain ⟨p,hp,w,e,le⟩:=Eu rs (dX s r) (fun x hx=>h1 x (cD _ hx)) p' h
   obtain ⟨_,q,hq,e2⟩:=v7 hp
   have:=h1 r cV
   split at e2
   . subst e2
     have le:w<=q.wo-r.2:=le
     exact ⟨q,hq,w,e,by omega⟩
   . subst e2;exact ⟨p,hq,w,e,le⟩
theorem Ew:∀(rs:List Row) (s:HS),(rs.foldl dX s).ak.length<=s.ak.length
 | [],s=>aN _
 | r::rs,s=>by
   have:=Ew rs (dX s r)
   have h:=rD (ps:=s.ak) (x:=r.1) (a:=r.2) |>.length_le
   rw [aD,aD] at h
   exact fP this h
theorem Aa (k:Int):∀{xs ts:List Int},xs.length=ts.length->(List.zipWith (fun x t=>x+k*t) xs ts).sum=xs.sum+k*ts.sum
 | [],[],_=>by simp
 | x::xs,t::ts,h=>by
   rw [CB,cL,cL,cL,Aa k (by simpa using h),tV];omega
 | [],_::_,h=>by simp at h
 | _::_,[],h=>by simp at h
theorem Ex {st:HS}:∀(rs:List Row) (acc:List Int),(∀r∈rs,(a_ st (cE st r.1)).length=acc.length/\(a_ st (cE st r.1)).sum=st.prod)->(vZ st acc rs).sum=acc.sum+bD rs*st.prod
 | [],acc,_=>by show acc.sum=acc.sum+0*_;omega
 | r::rs,acc,h=>by
   obtain ⟨h1,h2⟩:=h r cV
   have e:(List.zipWith (fun x t=>x+r.2*t) acc (a_ st (cE st r.1))).length=acc.length:=by rw [kh,h1];omega
   show (vZ st (List.zipWith (fun x t=>x+r.2*t) acc (a_ st (cE st r.1))) rs).sum=_
   rw [Ex rs _ (fun x hx=>by rw [e];exact h x (cD _ hx)),Aa _ h1.symm,h2,show bD (r::rs)=r.2+bD rs from by unfold bD;rw [bJ,cL],rB]
   omega
theorem jH {st:HS} {r:Row} (h:jU st r=none):r.1∈fu st/\1<=r.2/\r.2<=(cE st r.1).wo:=by
 unfold jU at h
 split at h
 . split at h
   . cases h
   . split at h
     . cases h
     . exact ⟨by assumption,by omega,by omega⟩
 . cases h
theorem yi {st:HS} {rs:List Row} (h:wk st rs=none):rs≠[]/\(rs.map fun r:Row=>r.1).Nodup/\(∀r∈rs,jU st r=none)/\bD rs<aM st:=by
 unfold wk at h
 split at h
 . next c=>
   split at h
   . cases h
   . next e=>
     split at h
     . cases h
     . exact ⟨c.1,c.2,fun r hr=>List.findSome?_eq_none_iff.mp e r hr,by omega⟩
 . cases h
theorem Go.Ip {c:Nat} {st:HS} (g:Go c st) (wf:Wf st) (hc:c<=91) {rs:List Row} (h:wk st rs=none):sr st rs:=by
 obtain ⟨h1,h2,h3,h4⟩:=yi h
 have aw:=g.aw wf hc
 refine ⟨h2,h1,?_,fun r hr=>?_,h4,aw.big,aw.prod,aw.bH,aw.stp⟩
 . have:=rX h2 (m:=fu st) (fun x hx=>by obtain ⟨r,hr,rfl⟩:=bK.mp hx;exact (jH (h3 r hr)).1)
   rw [aD] at this
   unfold fu at this
   rw [aD] at this
   have:=g.pl
   omega
 . obtain ⟨a1,a2,a3⟩:=jH (h3 r hr)
   obtain ⟨i,p,e1,e2⟩:=jG a1
   have hp:=bO e1
   rw [c8 wf hp e2] at a3
   have:=g.sz wf hc p hp
   exact ⟨a2,this.of_le (by omega),p,hp,e2,a3⟩
def Xo:Dd->Prop
 | .load _ _ wo we=>wo<=1000000000000/\we<=1000000000
 | .rise _ a=>a<=1000000000000
 | _=>True
theorem L5 {n i:Nat} {b:Int} (h:i<n):((List.replicate n (0:Int)).set i b).sum=b:=by
 have:=uG (l:=List.replicate n (0:Int)) (x:=b) (by rw [m5];exact h)
 rwa [RQ,AJ,HQ,AJ] at this
theorem UW {c:Nat} {st:HS} (g:Go c st) (wf:Wf st) {x o:Str} {wo we:Int} (hx:isNm x=true) (ho:o∈st.own) (h1:wo<=1000000000000) (h2:we<=1000000000):Go (c+1) (Gb st x o wo we):=by
 refine BP g (fun p hp=>?_) (by rw [dw];have:=g.pl;show st.ak.length+1<=_;omega) (by rw [dw];have:=g.kl;show st.nms.length+1<=_;omega) (fun y hy=>?_)
 . rcases fZ.mp hp with z|z
   . have:=g.wo p z
     exact ⟨g.sum p z,by omega,g.we p z⟩
   . rw [fN.mp z]
     refine ⟨?_,by show wo<=_;omega,h2⟩
     unfold a_
     show (List.zipWith (fun r c=>(1:Int)*r+c) (ko st _) st.br).sum=_
     rw [Ij (by rw [gK,m5,wf.fC])]
     exact L5 (tQ ho)
 . rcases fZ.mp hy with z|z
   . exact g.nk y z
   . rw [fN.mp z];exact hx
theorem UX {c:Nat} {st:HS} (g:Go c st) (wf:Wf st) (hc:c<=90) {rs:List Row} (h:wk st rs=none):Go (c+1) (iL st rs):=by
 have ok:=g.Ip wf (by omega) h
 have h1:∀r∈rs,1<=r.2:=fun r hr=>(ok.row r hr).1
 refine Io g wf (ok.blend wf) ?_ hc (mW rs _) (fun p' gb=>?_) ?_
 . have ex:∀r∈rs,∃p∈st.ak,p.nm=r.1:=fun r hr=>by obtain ⟨p,hp,e,_⟩:=(ok.row r hr).2.2;exact ⟨p,hp,e⟩
   rw [Ej wf ex,Ex,HQ,AJ]
   intro r hr
   obtain ⟨p,hp,e⟩:=ex r hr
   rw [c8 wf hp e,m5]
   exact ⟨v5 wf hp,g.sum p hp⟩
 . obtain ⟨p1,hp1,w,rfl,le⟩:=Eu rs _ h1 p' gb
   unfold bh at hp1
   rw [mV] at hp1
   obtain ⟨p,hp,rfl⟩:=bK.mp hp1
   exact ⟨p,hp,Z,Z,le,Z⟩
 . refine fP (Ew rs _) ?_
   unfold bh
   rw [mV,aD]
   exact aN _
theorem RX {c:Nat} {st:HS} (g:Go c st) (wf:Wf st) (hc:c<=90) {o:Str} {a:Int} (h:kr st o a=none):Go (c+1) (HX st o a):=by
 obtain ⟨ho,h1,h2⟩:=BL h
 refine Io g wf ((g.aw wf (by omega)).blend (o:=o) wf h1 h2) (L5 (tQ ho)) hc rfl (fun p' gb=>?_) ?_
 . have gb:p'∈(bh st _ _ _).ak:=gb
   unfold bh at gb
   rw [mV] at gb
   obtain ⟨p,hp,rfl⟩:=bK.mp gb
   exact ⟨p,hp,Z,Z,jX _,Z⟩
 . show (bh st _ _ _).ak.length<=_
   unfold bh
   rw [mV,aD]
   exact aN _
theorem PL {st:HS} (wf:Wf st) {c:Nat} (g:Go c st) {p:Pt} (hp:p∈st.ak):PK c st.own (nG st p):=
 ⟨st.own,a_ st p,st.prod,List.prefix_refl _,(BN wf hp).symm,Z,fun t ht=>(wf.mw p hp t ht).1,g.sum p hp,wf.dW,g.prod⟩
theorem UY {c:Nat} {st:HS} (g:Go c st) (wf:Wf st) (hc:c<=91) {x:Str} (h:ue st x=none):Go (c+1) (p6 st x):=by
 obtain ⟨i,p,e1,rfl⟩:=jG (qB h)
 have hp:=bO e1
 rw [sL wf hp]
 have S:∀{M:Pt->Prop},(∀x∈st.ak,M x)->∀x∈st.ak.filter (fun q=>decide (q.nm≠p.nm)),M x:=fun h x hx=>h x (vB.mp hx).1
 have hf:=List.length_filter_le (fun q:Pt=>decide (q.nm≠p.nm)) st.ak
 have gm:=g.mono
 refine ⟨fun u hu=>?_,gm.stp,gm.prod,S gm.wo,S g.we,fP hf gm.pl,gm.kl,g.ol,g.nk,g.on,S g.sum,?_,fun a ha=>?_⟩
 . exact (L1 wf hp (m:=64*c+1) (g.sz wf hc p hp) g.prod (fun u hu=>(g.bH u hu).mono (by omega)) u hu).mono (by omega)
 . show (st.dj++[_]).length<=_
   rw [dw]
   have:=g.al
   show st.dj.length+1<=_
   omega
 . rcases fZ.mp (show a∈st.dj++[_] from ha) with z|z
   . exact gm.dj a z
   . rw [fN.mp z]
     exact (PL wf g hp).mono (by omega) (List.prefix_refl _)
theorem UZ {c:Nat} {st:HS} (g:Go c st) (wf:Wf st) {o:Str} (h:isNm o=true):Go (c+1) (f7 st o):=by
 have gm:=g.mono
 have P:∀p∈(f7 st o).ak,∃p0∈st.ak,p={ p0 with row:=p0.row++[0] }:=fun p hp=>by
  obtain ⟨p0,h0,rfl⟩:=bK.mp (show p∈st.ak.map _ from hp)
  exact ⟨p0,h0,Z⟩
 refine ⟨fun u hu=>?_,gm.stp,gm.prod,fun p hp=>?_,fun p hp=>?_,?_,gm.kl,?_,g.nk,fun x hx=>?_,fun p hp=>?_,gm.al,fun a ha=>(gm.dj a ha).mono (aN _) (List.prefix_append _ _)⟩
 . rcases fZ.mp (show u∈st.bH++[0] from hu) with z|z
   . exact gm.bH u z
   . rw [fN.mp z]
     exact (show Jm.Sz 1 (0:Int) from jK (by decide +kernel)).mono (by omega)
 . obtain ⟨p0,h0,rfl⟩:=P p hp
   exact gm.wo p0 h0
 . obtain ⟨p0,h0,rfl⟩:=P p hp
   exact g.we p0 h0
 . show (st.ak.map _).length<=_
   rw [aD];exact gm.pl
 . show 0<(st.own++[o]).length
   rw [dw];exact jT g.ol (uy _ _)
 . rcases fZ.mp (show x∈st.own++[o] from hx) with z|z
   . exact g.on x z
   . rw [fN.mp z];exact h
 . obtain ⟨p0,h0,rfl⟩:=P p hp
   show (List.zipWith (fun r c=>p0.sc*r+c) (p0.row++[0]) (st.br++[0])).sum=st.prod
   rw [D_ _ (by rw [wf.rows p0 h0,wf.fC]),FU,show (List.zipWith (fun r c=>p0.sc*r+c) p0.row st.br).sum=st.prod from g.sum p0 h0]
   simp
theorem wu {l:List Pt} {x:Str} {f:Pt->Pt} {p':Pt} (h:p'∈l.map fun p=>if p.nm=x then f p else p):∃p∈l,(p.nm=x/\p'=f p)\/p'=p:=by
 obtain ⟨p,hp,e⟩:=bK.mp h
 by_cases c:p.nm=x
 . exact ⟨p,hp, .inl ⟨c,by rw [aB c] at e;exact e.symm⟩⟩
 . exact ⟨p,hp, .inr (by rw [aA c] at e;exact e.symm)⟩
theorem ZE {c:Nat} {st:HS} (g:Go c st) (wf:Wf st) (hc:c<=90) {d:Dd} (hr:sH st d=none) (db:Xo d):Go (c+1) (gP st d):=by
 have hl:=g.pl
 cases d with
 | sign o=>
   have:v_ st o=none:=hr
   unfold v_ at this
   split at this
   . exact UZ g wf (by assumption)
   . cases this
 | load x o wo we=>
   obtain ⟨h1,_,h3,_,_⟩:=uf hr
   exact UW g wf h1 h3 db.1 db.2
 | cast rs=>exact UX g wf hc hr
 | award o a=>exact RX g wf hc hr
 | mishap x a=>
   obtain ⟨_,h1,_⟩:=jH (show jU st (x,a)=none from hr)
   have h1:1<=a:=h1
   refine g.same (ps:=j7 st.ak x a) (fun p' gb=>?_) ?_
   . obtain ⟨_,p,hp,e⟩:=v7 gb
     split at e
     . exact ⟨p,hp,by rw [e],by rw [e],by rw [e];show p.wo-a<=_;omega,by rw [e];exact jX _⟩
     . exact ⟨p,hp,by rw [e],by rw [e],by rw [e];omega,by rw [e];exact jX _⟩
   . have h:=rD (ps:=st.ak) (x:=x) (a:=a) |>.length_le
     rw [aD,aD] at h
     omega
 | rise x a=>
   have ha:a<=1000000000000:=db
   refine g.same (fun p' gb=>?_) (by rw [aD];omega)
   obtain ⟨p,hp,⟨_,e⟩|e⟩:=wu gb
   . exact ⟨p,hp,by rw [e],by rw [e],by rw [e];show p.wo+a<=_;omega,by rw [e];exact jX _⟩
   . exact ⟨p,hp,by rw [e],by rw [e],by rw [e];omega,by rw [e];exact jX _⟩
 | hand x o=>
   obtain ⟨hx,ho⟩:=uh hr
   show Go (c+1) (fH st x o)
   unfold fH
   split
   . exact g.mono
   . next ne=>
     refine BP g (ns:=st.nms) (fun p' gb=>?_) (by rw [aD];omega) g.mono.kl g.nk
     obtain ⟨p,hp,⟨en,e⟩|e⟩:=wu gb
     . rw [c8 wf hp en] at ne
       have:=g.wo p hp
       refine ⟨?_,by rw [e];show p.wo<=_;omega,by rw [e];exact g.we p hp⟩
       rw [e,show a_ st { p with ow:=o,sc:=1,row:=ko st (kT st p o) }=_ from Et wf hp o]
       exact (Ik wf hp ho ne (g.sum p hp)).2
     . rw [e]
       have:=g.wo p hp
       exact ⟨g.sum p hp,by omega,g.we p hp⟩
 | land x=>exact UY g wf (by omega) hr
 | sever x y a we=>
   obtain ⟨hx,hy,h1,h2,h3,h4⟩:=kX hr
   obtain ⟨i,p0,e1,en⟩:=jG hx
   have hp0:=bO e1
   have w0:=g.wo p0 hp0
   have v0:=g.we p0 hp0
   show Go (c+1) (nL st x y a we)
   unfold nL
   rw [c8 wf hp0 en] at h3 h4 ⊢
   refine BP g (fun p' gb=>?_) (by rw [dw];show (List.map _ st.ak).length+1<=_;rw [aD];omega) (by rw [dw];have:=g.kl;show st.nms.length+1<=_;omega) (fun z hz=>?_)
   . rcases fZ.mp gb with z|z
     . obtain ⟨p,hp,⟨_,e⟩|e⟩:=wu z
       . rw [e]
         have:=g.wo p hp
         have:=g.we p hp
         exact ⟨g.sum p hp,by show p.wo-a<=_;omega,by show p.we-we<=_;omega⟩
       . rw [e]
         have:=g.wo p hp
         exact ⟨g.sum p hp,by omega,g.we p hp⟩
     . rw [fN.mp z]
       exact ⟨g.sum p0 hp0,by show a<=_;omega,by show we<=_;omega⟩
   . rcases fZ.mp hz with w|w
     . exact g.nk z w
     . rw [fN.mp w];exact hy.1
 | still=>exact g.mono
theorem ZF {c:Nat} {st:HS} (g:Go c st) (wf:Wf st) (hc:c<=90) (hk:st.kn+100<=1000000) (ho:st.own.length<100) {d:Dd} (hr:sH st d=none):Wf (gP st d):=by
 have hl:=g.pl
 have hn:=g.kl
 cases d with
 | sign o=>
   have:v_ st o=none:=hr
   unfold v_ at this
   split at this
   . split at this
     . cases this
     . exact CV wf (by assumption) ho
   . cases this
 | load x o wo we=>
   obtain ⟨_,h2,h3,h4,h5⟩:=uf hr
   exact LI wf h2 (by omega) (by omega) h3 h4 h5
 | cast rs=>exact UI wf (g.Ip wf (by omega) hr)
 | award o a=>
   obtain ⟨h0,h1,h2⟩:=BL hr
   exact vY wf ((g.aw wf (by omega)).blend (o:=o) wf h1 h2)
 | mishap x a=>
   obtain ⟨_,_,h1⟩:=jH (show jU st (x,a)=none from hr)
   exact CZ wf fun p hp e=>by rw [c8 wf hp e] at h1;exact h1
 | rise x a=>
   have h1:=(yg (show lS st x a=none from hr)).2
   exact yf wf fun q hq _=>⟨Z,Z,Z,Z,by have:=(wf.jw q hq).1;show 1<=q.wo+a;omega,(wf.jw q hq).2⟩
 | hand x o=>exact LX wf hr g.sum
 | land x=>exact L3 wf hr (g.ld wf (by omega) hk)
 | sever x y a we=>exact Ih wf hr (by omega) (by omega)
 | still=>exact wf
theorem U0 (st:HS) (s:Int):(eV st s).kn<=st.kn:=by
 unfold eV
 split
 . exact gM _
 . exact aN _
theorem ZG (st:HS) (d:Dd):(gP st d).kn<=st.kn+100:=by
 cases d with
 | cast rs=>exact fP (UL st rs) (uy _ _)
 | award o a=>exact fP (U0 _ _) (uy _ _)
 | hand x o=>
   show (fH st x o).kn<=_
   unfold fH
   split <;> exact uy _ _
 | land x=>exact aN _
 | _=>exact uy _ _
structure LS where
 own:List Str
 ak:List Q4
 BQ:List Str
structure LA where
 m:Addr
 lo:Addr
 lp:Addr
 lk:Addr
 qs:List Addr
def iM (B:LA):List (Key×V):=[(Sum.inr "owners", .ref B.lo),(Sum.inr "parts", .ref B.lp),(Sum.inr "known", .ref B.lk)]
def gJ (q:Q4):List V:=[.str q.1, .str q.2.1, .int q.2.2.1, .int q.2.2.2]
def nx:Str:=⟨#[]⟩
structure bP (n:Nat) (ρ:eY) (B:LA) (H:Hp) (l:LS):Prop where
 om:H B.m=some (.dK (iM B))
 cm:ρ B.m=some (n,40,nx)
 oo:H B.lo=some (.lst (l.own.map V.str))
 co:ρ B.lo=some (n,41,nx)
 op:H B.lp=some (.lst (B.qs.map V.ref))
 cp:ρ B.lp=some (n,42,nx)
 ok:H B.lk=some (.lst (l.BQ.map V.str))
 ck:ρ B.lk=some (n,43,nx)
 nd:B.qs.Nodup
 ql:B.qs.length=l.ak.length
 pt:∀(i:Nat) (q:Q4) (a:Addr),l.ak[i]?=some q->B.qs[i]?=some a->H a=some (.lst (gJ q))/\ρ a=some (n,44,nx)
def eF (st:HS):LS:=⟨st.own,bf st,st.nms⟩
theorem bP.same {n:Nat} {ρ ρ':eY} {B:LA} {H H':Hp} {l:LS} (h:bP n ρ B H l) (k:Kp n ρ ρ' H H' fun _=>true):bP n ρ' B H' l:=by
 have z:=fun {b:Addr} {t:Nat} {x:Str} {o:HO} (c:ρ b=some (n,t,x)) (e:H b=some o)=>k.2 b t x o rfl c e
 exact ⟨(z h.cm h.om).1,(z h.cm h.om).2,(z h.co h.oo).1,(z h.co h.oo).2,(z h.cp h.op).1,(z h.cp h.op).2,(z h.ck h.ok).1,(z h.ck h.ok).2,h.nd,h.ql,fun i q a e1 e2=>let ⟨x,y⟩:=h.pt i q a e1 e2;z y x⟩
theorem bP.mono {n:Nat} {ρ:eY} {B:LA} {H H':Hp} {l:LS} (h:bP n ρ B H l) (s:aQ H H'):bP n ρ B H' l:=h.same (LC s)
theorem bP.other {n m:Nat} {ρ ρ':eY} {B:LA} {H H':Hp} {l:LS} (h:bP m ρ B H l) (f:Fr n ρ H ρ' H') (g:Gh ρ H) (e:m≠n):bP m ρ' B H' l:=
 h.same ⟨fun b xs q=>(f b _ q fun t x=>by rw [g.tup q];intro z;cases z).1,fun b t x o _ c q=>by
   obtain ⟨a,b'⟩:=f b o q fun t' x'=>by rw [c];intro z;cases z;exact e rfl
   exact ⟨a,b'.trans c⟩⟩
theorem bP.col {n t:Nat} {x:Str} {ρ:eY} {B:LA} {H:Hp} {l:LS} {a:Addr} (h:bP n ρ B H l) (c:ρ a=none):bP n (cN ρ a (n,t,x)) B H l:=
 h.same ⟨fun _ _ e=>e,fun b u y w _ hc he=>⟨he,by rw [cC (fun z=>by rw [z,c] at hc;cases hc)];exact hc⟩⟩
theorem bP.find {n:Nat} {ρ:eY} {B:LA} {H:Hp} {l:LS} (h:bP n ρ B H l) {i:Nat} {q:Q4} (e:l.ak[i]?=some q):∃a,B.qs[i]?=some a/\H a=some (.lst (gJ q))/\ρ a=some (n,44,nx):=by
 have hi:i<B.qs.length:=by rw [h.ql];exact (dP.mp e).1
 exact ⟨B.qs[i],bq hi,h.pt i q _ e (bq hi)⟩
theorem bP.iD {n:Nat} {ρ:eY} {B:LA} {H:Hp} {l:LS} (h:bP n ρ B H l) (g:Gh ρ H) {i:Nat} {a:Addr} (q1:Q4) (ea:B.qs[i]?=some a):bP n ρ B (upd H a (.lst (gJ q1))) { l with ak:=l.ak.set i q1 }:=by
 have hi:i<l.ak.length:=by rw [<-h.ql];exact (dP.mp ea).1
 obtain ⟨x1,x2⟩:=h.pt i _ a (bq hi) ea
 have k:=eE (o:= .lst (gJ q1)) g x2
 refine ⟨kz k h.cm h.om,h.cm,kz k h.co h.oo,h.co,kz k h.cp h.op,h.cp,kz k h.ck h.ok,h.ck,h.nd,by show _=(l.ak.set i q1).length;rw [gK];exact h.ql,fun j q b e1 e2=>?_⟩
 have e1:(l.ak.set i q1)[j]?=some q:=e1
 by_cases hj:i=j
 . subst hj
   rw [oQ hi] at e1
   rw [ea] at e2
   cases e1;cases e2
   exact ⟨ai,x2⟩
 . rw [xq hj] at e1
   obtain ⟨y1,y2⟩:=h.pt j q b e1 e2
   have hb:b≠a:=fun e=>hj ((MI (dP.mp ea).1 h.nd).mp (by rw [ea,e2,e]))
   exact ⟨by rw [ay hb];exact y1,y2⟩
theorem bP.Xp {n:Nat} {ρ:eY} {B:LA} {H:Hp} {l:LS} (h:bP n ρ B H l) (g:Gh ρ H) {lp:Addr} {qs:List Addr} {ps:List Q4} (e:H lp=some (.lst (qs.map V.ref))) (c:ρ lp=some (n,42,nx)) (nd:qs.Nodup) (hl:qs.length=ps.length)
  (hp:∀(i:Nat) (q:Q4) (a:Addr),ps[i]?=some q->qs[i]?=some a->H a=some (.lst (gJ q))/\ρ a=some (n,44,nx)):bP n ρ { { B with lp:=lp } with qs:=qs } (upd H B.m (.dK (iM { B with lp:=lp }))) { l with ak:=ps }:=by
 have k:=eE (o:= .dK (iM { B with lp:=lp })) g h.cm
 exact ⟨ai,h.cm,kz k h.co h.oo,h.co,kz k c e,c,kz k h.ck h.ok,h.ck,nd,hl,fun i q a e1 e2=>let ⟨x,y⟩:=hp i q a e1 e2;⟨kz k y x,y⟩⟩
theorem bP.PM {n:Nat} {ρ:eY} {B:LA} {H:Hp} {l:LS} (h:bP n ρ B H l) (g:Gh ρ H) {q:Q4} {a:Addr} (e:H a=some (.lst (gJ q))) (c:ρ a=some (n,44,nx)) (hn:a∉B.qs):bP n ρ { B with qs:=B.qs++[a] } (upd H B.lp (.lst ((B.qs++[a]).map V.ref))) { l with ak:=l.ak++[q] }:=by
 have k:=eE (o:= .lst ((B.qs++[a]).map V.ref)) g h.cp
 refine ⟨kz k h.cm h.om,h.cm,kz k h.co h.oo,h.co,ai,h.cp,kz k h.ck h.ok,h.ck,mR h.nd hn,?_,fun i x y ex ey=>?_⟩
 . show (B.qs++[a]).length=(l.ak++[q]).length
   rw [dw,dw,h.ql];rfl
 . have ex:(l.ak++[q])[i]?=some x:=ex
   have ey:(B.qs++[a])[i]?=some y:=ey
   by_cases d:i<l.ak.length
   . rw [Gf d] at ex
     rw [Gf (by rw [h.ql];exact d)] at ey
     obtain ⟨a1,a2⟩:=h.pt i x y ex ey
     exact ⟨kz k a2 a1,a2⟩
   . have hi:i=l.ak.length:=by
      have:=(dP.mp ex).1
      rw [dw] at this
      have:i<l.ak.length+1:=this
      omega
     subst hi
     rw [Lg (aN _),Nat.sub_self] at ex
     rw [Lg (by rw [h.ql];exact aN _),h.ql,Nat.sub_self] at ey
     cases ex;cases ey
     exact ⟨kz k c e,c⟩
theorem bP.L6 {n:Nat} {ρ:eY} {B:LA} {H:Hp} {l:LS} (h:bP n ρ B H l) (g:Gh ρ H) (ks:List Str):bP n ρ B (upd H B.lk (.lst (ks.map V.str))) { l with BQ:=ks }:=by
 have k:=eE (o:= .lst (ks.map V.str)) g h.ck
 exact ⟨kz k h.cm h.om,h.cm,kz k h.co h.oo,h.co,kz k h.cp h.op,h.cp,ai,h.ck,h.nd,h.ql,fun i q a e1 e2=>let ⟨x,y⟩:=h.pt i q a e1 e2;⟨kz k y x,y⟩⟩
inductive Xq (K:Fg) (H:Hp) (m:Addr) (st:HS):Prop
 | mk (kvs:List (Key×V)) (lo lp lk:Addr) (us:List V) (_:H m=some (.dK kvs)) (_:dh kvs (Sum.inr "owners")=some (.ref lo)) (_:dh kvs (Sum.inr "parts")=some (.ref lp)) (_:dh kvs (Sum.inr "known")=some (.ref lk)) (_:aH K H lo (st.own.map V.str)) (_:aH K H lp us) (_:sj K H us st.ak) (_:aH K H lk (st.nms.map V.str))
theorem pG {st:HS} {i:Nat} {p:Pt} (h:st.ak[i]?=some p):(bf st)[i]?=some (p.nm,p.ow,p.wo,p.we):=by
 unfold bf
 rw [bN,h];rfl
theorem bP.rows {K:Fg} {n:Nat} {ρ:eY} {B:LA} {H:Hp} {st:HS} (h:bP n ρ B H (eF st)):sj K H (B.qs.map V.ref) st.ak:=by
 refine ⟨by rw [aD,h.ql];show (bf st).length=_;unfold bf;rw [aD],fun i p e=>?_⟩
 obtain ⟨a,ea,k1,_⟩:=h.find (pG e)
 exact ⟨a,_,by rw [bN,ea];rfl, .inl (aH.of k1),Z,Z,Z,Z⟩
theorem bP.q {K:Fg} {n:Nat} {ρ:eY} {B:LA} {H:Hp} {st:HS} (h:bP n ρ B H (eF st)):Xq K H B.m st:=
 ⟨_,B.lo,B.lp,B.lk,_,h.om,Z,Z,Z,aH.of h.oo,aH.of h.op,h.rows,aH.of h.ok⟩
def xg (st:HS):List Row:=st.ak.map fun p=>(p.nm,p.wo)
theorem sj.nw {K:Fg} {H:Hp} {us:List V} {st:HS} (h:sj K H us st.ak):Nr K H us (xg st):=by
 refine ⟨by unfold xg;rw [aD];exact h.len,fun i r e=>?_⟩
 unfold xg at e
 rw [bN] at e
 obtain ⟨p,ep,rfl⟩:=jx.mp e
 obtain ⟨a,xs,e1,e2,e3,_,e5,_⟩:=h.at_ i p ep
 exact ⟨a,xs,e1,e2,e3,e5⟩
structure Nx (nms:List Str) (st:HS):Prop where
 t:st.nms=nms.take st.nms.length
 nd:nms.Nodup
 ok:∀x∈nms,isNm x=true
theorem Nx.next {nms:List Str} {st:HS} (h:Nx nms st) {x:Str} (e:nms[st.nms.length]?=some x):isNm x=true/\x∉st.nms/\∀st':HS,st'.nms=st.nms++[x]->Nx nms st':=by
 refine ⟨h.ok x (bO e),?_,fun st' e'=>⟨?_,h.nd,h.ok⟩⟩
 . rw [h.t]
   exact o_ h.nd e
 . rw [e',dw,show st.nms.length+[x].length=st.nms.length+1 from rfl,take_snoc e,<-h.t]
theorem Nx.keep {nms:List Str} {st st':HS} (h:Nx nms st) (e:st'.nms=st.nms):Nx nms st':=⟨by rw [e];exact h.t,h.nd,h.ok⟩
theorem PN {st:HS} {d:Dd} (h:d.k≠1) (h':d.k≠8):(gP st d).nms=st.nms:=by
 cases d with
 | load=>exact absurd rfl h
 | sever=>exact absurd rfl h'
 | cast rs=>
   show (iL st rs).nms=_
   unfold iL
   rw [mW]
   show (bh st _ _ _).nms=_
   unfold bh
   rw [ua]
 | award o a=>
   show (bh st _ _ _).nms=_
   unfold bh
   rw [ua]
 | hand x o=>show (fH st x o).nms=_;unfold fH;split <;> rfl
 | _=>rfl
def Dd.pl:Dd->Bool
 | .sign _=>false | .load .. =>false | .sever .. =>false|_=>true
theorem Dd.RY {d:Dd} (h:d.pl=true):d.k≠1/\d.k≠8/\d.k≠0:=by cases d <;> first|(exact Bool.noConfusion h)|(refine ⟨?_,?_,?_⟩ <;> simp [Dd.k])
theorem NF {st:HS} (wf:Wf st) {rs:List Row} (h:Pq (xg st) rs) (hne:rs≠[]):wk st rs=none:=by
 have hl:bD rs<aM st:=by
  rcases h.lost with z|z
  . have e:bD (xg st)=aM st:=by unfold bD xg aM;rw [gy];rfl
    rw [<-e];exact z
  . exact absurd z hne
 have hr:∀r∈rs,jU st r=none:=fun r hr=>by
  obtain ⟨r1,_,w,hw,e,le⟩:=h.row r hr
  obtain ⟨p,hp,rfl⟩:=bK.mp hw
  have e:p.nm=r.1:=e
  have le:r.2<=p.wo:=le
  unfold jU
  rw [aB (show r.1∈fu st from bK.mpr ⟨p,hp,e⟩),aA (by omega),c8 wf hp e,aA (by omega)]
 unfold wk
 rw [aB ⟨hne,h.nd⟩,List.findSome?_eq_none_iff.mpr hr]
 exact aA (by omega)
theorem Nx.pl {nms:List Str} {st:HS} (h:Nx nms st) (wf:Wf st):st.ak.length<=nms.length:=by
 have a:=rX (l:=st.ak.map (·.nm)) (m:=nms) wf.c6 (fun x hx=>by
  obtain ⟨p,hp,rfl⟩:=bK.mp hx
  have:=wf.sub p hp
  rw [h.t] at this
  exact List.mem_of_mem_take this)
 rwa [aD] at a
inductive ZH (K:Fg) (vs:List V) (H:Hp) (Q:VK) (E:XK):Prop
 | mk (l:Addr) (us:List V) (rs:List Row) (_:vs=[.ref l]) (_:aH K H l us) (_:fF H us rs) (_:rs.length<=1000) (_:∀z H',aQ H H'->H' z=some (.tup (Dd.v (.cast rs)))->Q (.ref z) H')
def PO (K:Fg):Sp:=bx (ZH K)
inductive y9 (nms:List Str) (st:HS) (d:Dd):Prop
 | mk (_:sH st d=none) (_:Tc d) (_:Nx nms (gP st d)) (_:d.k≠0)
inductive ZI (K:Fg) (vs:List V) (H:Hp) (Q:VK) (E:XK):Prop
 | mk (a m ln:Addr) (ns:List Int) (k:Int) (nms:List Str) (c:Nat) (st:HS) (_:vs=[.ref a, .int k, .ref m, .ref ln]) (_:aH K H a (ns.map V.int)) (_:ns.length<=63) (_:0<=k) (_:k<=1000000) (_:Xq K H m st) (_:aH K H ln (nms.map V.str)) (_:Nx nms st) (_:nms.length<=50) (_:Wf st) (_:Go c st) (_:c<=90) (_:∀z d H',aQ H H'->H' z=some (.tup (Dd.v d))->y9 nms st d->Q (.ref z) H')
def PR (K:Fg):Sp:=bx (ZI K)
inductive PU (K:Fg) (vs:List V) (H:Hp) (Q:VK) (E:XK):Prop
 | mk (a m ln:Addr) (ns:List Int) (k way:Int) (nms:List Str) (c:Nat) (st:HS) (_:vs=[.ref a, .int k, .ref m, .ref ln, .int way]) (_:aH K H a (ns.map V.int)) (_:ns.length<=63) (_:0<=k) (_:k<=1000000) (_:Xq K H m st) (_:aH K H ln (nms.map V.str)) (_:Nx nms st) (_:nms.length<=50) (_:Wf st) (_:Go c st) (_:c<=90) (_:0<st.ak.length) (_:∀z d H',aQ H H'->H' z=some (.tup (Dd.v d))->y9 nms st d->Q (.ref z) H')
def BR (K:Fg):Sp:=bx (PU K)
def jm (ps:List Q4) (qs:List Addr):List Addr:=((List.zip ps qs).filter fun x=>decide (0<x.1.2.2.1)).map fun x=>x.2
theorem Kc {ps:List Q4} {qs:List Addr} {i:Nat} {p:Q4} {a:Addr} (h1:ps[i]?=some p) (h2:qs[i]?=some a):jm (ps.take (i+1)) (qs.take (i+1))=jm (ps.take i) (qs.take i)++if 0<p.2.2.1 then [a] else [] :=by
 have l1:=(dP.mp h1).1
 have l2:=(dP.mp h2).1
 unfold jm
 rw [take_snoc h1,take_snoc h2,List.zip_append (by rw [rQ,rQ];omega),Gp,bL]
 congr 1
 show List.map _ (List.filter _ [(p,a)])=_
 by_cases c:0<p.2.2.1
 . simp [c]
 . simp [c]
theorem BS:∀{ps:List Q4} {qs:List Addr},qs.length=ps.length->(jm ps qs).length=(ps.filter fun p=>decide (0<p.2.2.1)).length
 | [],[],_=>rfl
 | p::ps,a::qs,h=>by
   have ih:=BS (ps:=ps) (qs:=qs) (by simpa using h)
   unfold jm at ih ⊢
   rw [List.zip_cons_cons,fY,fY]
   by_cases c:0<p.2.2.1
   . rw [aB (aY c),aB (aY c),bJ,jy,jy,ih]
   . rw [aA (by simpa using c),aA (by simpa using c),ih]
 | [],_::_,h=>by simp at h
 | _::_,[],h=>by simp at h
theorem yj:∀{ps:List Q4} {qs:List Addr} {i:Nat} {q:Q4} {a:Addr},qs.length=ps.length->(ps.filter fun p=>decide (0<p.2.2.1))[i]?=some q->(jm ps qs)[i]?=some a->∃j:Nat,ps[j]?=some q/\qs[j]?=some a
 | [],[],_,_,_,_,h,_=>by simp at h
 | p::ps,b::qs,i,q,a,hl,h1,h2=>by
   unfold jm at h2
   rw [List.zip_cons_cons,fY] at h2
   rw [fY] at h1
   by_cases c:0<p.2.2.1
   . rw [aB (aY c)] at h1 h2
     rw [bJ] at h2
     cases i with
     | zero=>exact ⟨0,by simpa using h1,by simpa using h2⟩
     | succ i=>
       obtain ⟨j,a1,a2⟩:=yj (ps:=ps) (qs:=qs) (i:=i) (by simpa using hl) (by simpa using h1) (by simpa [jm] using h2)
       exact ⟨j+1,by simpa using a1,by simpa using a2⟩
   . rw [aA (by simpa using c)] at h1 h2
     obtain ⟨j,a1,a2⟩:=yj (ps:=ps) (qs:=qs) (i:=i) (by simpa using hl) h1 h2
     exact ⟨j+1,by simpa using a1,by simpa using a2⟩
 | [],_::_,_,_,_,h,_,_=>by simp at h
 | _::_,[],_,_,_,h,_,_=>by simp at h
theorem wC:∀{ps:List Q4} {qs:List Addr},(jm ps qs).Sublist qs
 | [],_=>List.nil_sublist _
 | _::_,[]=>List.Sublist.refl _
 | p::ps,a::qs=>by
   unfold jm
   rw [List.zip_cons_cons,fY]
   by_cases c:0<p.2.2.1
   . rw [aB (aY c),bJ]
     exact List.Sublist.cons_cons _ wC
   . rw [aA (by simpa using c)]
     exact List.Sublist.cons _ wC
def NG (l:LS):LS:={ l with ak:=l.ak.filter fun q=>decide (0<q.2.2.1) }
def ku (rs:List Row) (qs:List Q4):List Q4:=qs.map fun q=>(q.1,q.2.1,q.2.2.1-fS rs q.1,q.2.2.2)
def RZ (l:LS) (i:Nat) (p:Pt):Dd->LS
 | .mishap _ a=>{ l with ak:=l.ak.set i (p.nm,p.ow,p.wo-a,p.we) }
 | .rise _ a=>{ l with ak:=l.ak.set i (p.nm,p.ow,p.wo+a,p.we) }
 | .hand _ o=>{ l with ak:=l.ak.set i (p.nm,o,p.wo,p.we) }
 | .land _=>{ l with ak:=l.ak.set i (p.nm,p.ow,0,p.we) }
 | .sever _ y a we=>{ l with ak:=l.ak.set i (p.nm,p.ow,p.wo-a,p.we-we)++[(y,p.ow,a,we)],BQ:=l.BQ++[y] }
 | _=>l
def Dd.part:Dd->Option Str
 | .mishap x _=>some x
 | .rise x _=>some x
 | .hand x _=>some x
 | .land x=>some x
 | .sever x _ _ _=>some x
 | _=>none
theorem rM:∀{l:List Q4} {i:Nat} {q:Q4},(∀x∈l,0<x.2.2.1)->i<l.length->(l.set i q).filter (fun q=>decide (0<q.2.2.1))=if 0<q.2.2.1 then l.set i q else l.eraseIdx i
 | [],_,_,_,h=>by simp at h
 | x::l,0,q,hp,_=>by
   rw [MB,fY,CG.mpr (fun y hy=>aY (hp y (cD _ hy)))]
   by_cases c:0<q.2.2.1
   . rw [aB c,aB (aY c)]
   . rw [aA c,aA (by simpa using c)];rfl
 | x::l,i+1,q,hp,h=>by
   rw [Gn,fY,aB (aY (hp x cV)),rM (fun y hy=>hp y (cD _ hy)) (by simpa using h)]
   by_cases c:0<q.2.2.1
   . rw [aB c,aB c]
   . rw [aA c,aA c];rfl
theorem Ey {α β:Type} (f:α->β):∀(l:List α) (i:Nat),(l.eraseIdx i).map f=(l.map f).eraseIdx i
 | [],_=>rfl
 | _::_,0=>rfl
 | x::l,i+1=>by show f x::(l.eraseIdx i).map f=f x::(l.map f).eraseIdx i;rw [Ey f l i]
theorem wD (st:HS) (i:Nat) (p:Pt):bf { st with ak:=st.ak.set i p }=(bf st).set i (p.nm,p.ow,p.wo,p.we):=rA
theorem BU (st:HS) (i:Nat):bf { st with ak:=st.ak.eraseIdx i }=(bf st).eraseIdx i:=Ey _ _ _
theorem LS.ext' {a b:LS} (h1:a.own=b.own) (h2:a.ak=b.ak) (h3:a.BQ=b.BQ):a=b:=by cases a;cases b;cases h1;cases h2;cases h3;rfl
theorem Iq {st:HS} (wf:Wf st):∀x∈bf st,0<x.2.2.1:=fun x hx=>by
 obtain ⟨p,hp,rfl⟩:=bK.mp hx
 exact (wf.jw p hp).1
theorem R0 {st:HS} (wf:Wf st) {d:Dd} {i:Nat} {p:Pt} (hr:sH st d=none) (ep:st.ak[i]?=some p) (hd:d.part=some p.nm):NG (RZ (eF st) i p d)=eF (gP st d):=by
 have hp:=bO ep
 have hi:i<(bf st).length:=by unfold bf;rw [aD];exact (dP.mp ep).1
 have hP:=Iq wf
 have eg:cE st p.nm=p:=c8 wf hp rfl
 have w1:=(wf.jw p hp).1
 cases d with
 | mishap x a=>
   have e:x=p.nm:=gq hd
   subst e
   refine LS.ext' rfl ?_ rfl
   show ((bf st).set i _).filter _=bf { st with ak:=j7 st.ak p.nm a }
   obtain ⟨_,h1,h2⟩:=jH (show jU st (p.nm,a)=none from hr)
   rw [show (cE st (p.nm,a).1).wo=p.wo by rw [eg]] at h2
   have h1:1<=a:=h1
   have h2:a<=p.wo:=h2
   rw [rM hP hi,zX wf.c6 (fun q hq=>by have:=(wf.jw q hq).1;omega) ep]
   show (if 0<p.wo-a then _ else _)=_
   by_cases c:p.wo-a=0
   . rw [aA (by omega),aB c,BU]
   . rw [aB (by omega),aA c,wD]
 | rise x a=>
   have e:x=p.nm:=gq hd
   subst e
   have h1:=(yg (show lS st p.nm a=none from hr)).2
   refine LS.ext' rfl ?_ rfl
   show ((bf st).set i _).filter _=bf (nK st p.nm _)
   rw [rM hP hi,pF wf.c6 ep,wD]
   exact aB (by show 0<p.wo+a;omega)
 | hand x o=>
   have e:x=p.nm:=gq hd
   subst e
   have e1:(fH st p.nm o).own=st.own:=by unfold fH;split <;> rfl
   have e2:(fH st p.nm o).nms=st.nms:=by unfold fH;split <;> rfl
   refine LS.ext' e1.symm ?_ e2.symm
   show ((bf st).set i _).filter _=bf (fH st p.nm o)
   rw [rM hP hi]
   refine (aB (by show 0<p.wo;omega)).trans ?_
   unfold fH
   rw [eg]
   split
   . next c=>
     have ho:=(uh (show kR st p.nm o=none from hr)).2
     have e3:o=p.ow:=by
      have a1:=ud ho
      have a2:=ud (wf.ow p hp)
      rw [c,a2] at a1
      exact (gq a1).symm
     rw [e3]
     exact qx (pG ep)
   . rw [pF wf.c6 ep,wD]
 | land x=>
   have e:x=p.nm:=gq hd
   subst e
   refine LS.ext' rfl ?_ rfl
   show ((bf st).set i _).filter _=bf (p6 st p.nm)
   rw [rM hP hi,sL wf hp,sJ wf.c6 ep]
   exact (aA (by show ¬ (0:Int)<0;omega)).trans (BU st i).symm
 | sever x y a we=>
   have e:x=p.nm:=gq hd
   subst e
   obtain ⟨_,_,h1,_,h3,_⟩:=kX (show i6 st p.nm y a we=none from hr)
   rw [eg] at h3
   refine LS.ext' rfl ?_ rfl
   show ((bf st).set i _++[_]).filter _=bf (nL st p.nm y a we)
   unfold nL
   rw [eg,pF wf.c6 ep,Gp,rM hP hi]
   show (if 0<p.wo-a then _ else _)++_=List.map _ (st.ak.set i _++[_])
   rw [aB (by omega),bL]
   congr 1
   . exact (wD st i { p with wo:=p.wo-a,we:=p.we-we }).symm
   . show List.filter _ [((y,p.ow,a,we):Q4)]=[(y,p.ow,a,we)]
     rw [fY,aB (aY (show 0<a by omega))];rfl
 | _=>exact absurd hd (by simp [Dd.part])
def acD (st:HS):Dd->LS
 | .load x o wo we=>{ eF st with ak:=bf st++[(x,o,wo,we)],BQ:=st.nms++[x] }
 | .cast rs=>{ eF st with ak:=ku rs (bf st) }
 | _=>eF st
theorem wF {st:HS} (wf:Wf st) {d:Dd} (hr:sH st d=none) (hd:d.part=none) (hs:d.k≠0):NG (acD st d)=eF (gP st d):=by
 have hP:=Iq wf
 have all:(bf st).filter (fun q=>decide (0<q.2.2.1))=bf st:=CG.mpr fun x hx=>aY (hP x hx)
 cases d with
 | load x o wo we=>
   obtain ⟨_,_,_,h4,_⟩:=uf hr
   refine LS.ext' rfl ?_ rfl
   show (bf st++[(x,o,wo,we)]).filter _=List.map _ (st.ak++[_])
   rw [Gp,all,bL]
   congr 1
   show List.filter _ [((x,o,wo,we):Q4)]=[(x,o,wo,we)]
   rw [fY,aB (aY (show 0<wo by omega))];rfl
 | cast rs=>
   obtain ⟨h1,h2,h3,h4⟩:=yi hr
   refine LS.ext' (HP st rs).symm ?_ (PN (d:= .cast rs) (by simp [Dd.k]) (by simp [Dd.k])).symm
   show nJ rs (bf st)=bf (iL st rs)
   unfold iL
   rw [BF,BE]
   refine (Em rs (bf st) h2 (fun q hq=>hP q hq) (fun x hx q hq e=>?_)).symm
   obtain ⟨p,hp,rfl⟩:=bK.mp hq
   have:=(jH (h3 x hx)).2.2
   rw [c8 wf hp e] at this
   exact this
 | award o a=>
   refine LS.ext' ?_ ?_ ?_
   . show st.own=(bh st _ _ _).own;unfold bh;rw [qy]
   . show List.filter _ (bf st)=bf (bh st _ _ _);rw [BE,all]
   . show st.nms=(bh st _ _ _).nms;unfold bh;rw [ua]
 | still=>exact LS.ext' rfl all rfl
 | sign o=>exact absurd rfl hs
 | _=>exact absurd hd (by simp [Dd.part])
inductive ZJ (K:Fg) (vs:List V) (H:Hp) (Q:VK) (E:XK):Prop
 | mk (l:Addr) (own:List Str) (n:Nat) (ρ:eY) (_:vs=[.ref l]) (_:aH K H l (own.map V.str)) (_:Gh ρ H) (_:own.length<=1000) (_:∀ρ' B H',Gh ρ' H'->bP n ρ' B H' ⟨own,[],[]⟩->(∀b o,H b=some o->H' b=some o/\ρ' b=ρ b)->Q (.ref B.m) H')
def PV (K:Fg):Sp:=bx (ZJ K)
inductive R1 (K:Fg) (vs:List V) (H:Hp) (Q:VK) (E:XK):Prop
 | mk (n:Nat) (ρ:eY) (B:LA) (st:HS) (i:Nat) (p:Pt) (a z:Addr) (d:Dd) (_:vs=[.ref B.m, .ref a, .ref z]) (_:H z=some (.tup d.v)) (_:Gh ρ H) (_:bP n ρ B H (eF st)) (_:st.ak[i]?=some p) (_:B.qs[i]?=some a) (_:d.part=some p.nm) (_:st.ak.length<1000) (_:st.nms.length<1000) (_:∀ρ' B' H',Gh ρ' H'->bP n ρ' B' H' (RZ (eF st:_) i p d)->B'.m=B.m->Fr n ρ H ρ' H'->Q .bU H')
def Ez (K:Fg):Sp:=bx (R1 K)
inductive U1 (K:Fg) (vs:List V) (H:Hp) (Q:VK) (E:XK):Prop
 | mk (n c:Nat) (ρ:eY) (B:LA) (st:HS) (z:Addr) (d:Dd) (_:vs=[.ref B.m, .ref z]) (_:H z=some (.tup d.v)) (_:Gh ρ H) (_:bP n ρ B H (eF st)) (_:Wf st) (_:Go c st) (_:c<=90) (_:sH st d=none) (_:d.k≠0) (_:∀ρ' B' H',Gh ρ' H'->bP n ρ' B' H' (eF (gP st d))->B'.m=B.m->Fr n ρ H ρ' H'->Q .bU H')
def Ir (K:Fg):Sp:=bx (U1 K)
inductive U3 (T:TC) (K:Fg) (vs:List V) (H:Hp) (Q:VK) (E:XK):Prop
 | mk (n c:Nat) (ρ:eY) (A:HA) (st:HS) (z:Addr) (d:Dd) (_:vs=[.ref A.a, .ref z]) (_:cQ K H z d.v) (_:HH T n ρ A H st) (_:Go c st) (_:c<=90) (_:st.kn+100<=1000000) (_:st.own.length<100) (_:sH st d=none) (_:t9 T n ρ A H (gP st d:_) fun H'=>Q .bU H')
def Iu (T:TC) (K:Fg):Sp:=bx (U3 T K)
theorem R3 (B:LA) (l:Addr):putK (iM B) (Sum.inr "parts") (.ref l)=iM { B with lp:=l }:=rfl
theorem L7:∀{rs:List Row} {i:Nat} {r:Row},rs[i]?=some r->(iZ rs)[2*i]?=some (.str r.1)/\(iZ rs)[2*i+1]?=some (.int r.2)
 | [],_,_,h=>by simp at h
 | x::rs,0,r,h=>by
   have e:x=r:=by simpa using h
   subst e
   exact ⟨Z,Z⟩
 | x::rs,i+1,r,h=>by
   obtain ⟨a,b⟩:=L7 (rs:=rs) (i:=i) (by simpa using h)
   rw [show 2*(i+1)=2*i+1+1 by omega]
   exact ⟨a,b⟩
theorem L8 {rs:List Row} {i:Nat} {r:Row} (h:rs[i]?=some r):(Dd.v (.cast rs))[1+2*i]?=some (.str r.1)/\(Dd.v (.cast rs))[2+2*i]?=some (.int r.2):=by
 obtain ⟨a,b⟩:=L7 h
 rw [show 1+2*i=2*i+1 by omega,show 2+2*i=2*i+1+1 by omega]
 exact ⟨a,b⟩
theorem wG (rs:List Row):(Dd.v (.cast rs)).length=2*rs.length+1:=by show (iZ rs).length+1=_;rw [ya]
theorem PX (m:Nat):oX 1 ((2*m+1:Nat):Int) 2=m:=by
 unfold oX Builtin.Range.rangeSize
 rw [aB (by decide)]
 split <;> omega
theorem PY {qs:List Q4} (nd:(qs.map fun q:Q4=>q.1).Nodup) {rs:List Row} {r:Row} {j:Nat} {q:Q4} (hq:qs[j]?=some q) (e:q.1=r.1) (h:r.1∉rs.map (fun r:Row=>r.1)):ku (rs++[r]) qs=(ku rs qs).set j (q.1,q.2.1,q.2.2.1-r.2,q.2.2.2)/\(ku rs qs)[j]?=some q:=by
 have hj:=(dP.mp hq).1
 constructor
 . refine List.ext_getElem? fun k=>?_
   by_cases c:j=k
   . subst c
     rw [oQ (by unfold ku;rw [aD];exact hj)]
     unfold ku
     rw [bN,hq]
     show some (q.1,q.2.1,q.2.2.1-fS (rs++[r]) q.1,q.2.2.2)=_
     rw [v9 h,aB e.symm]
   . rw [xq c]
     unfold ku
     rw [bN,bN]
     cases ek:qs[k]? with
     | none=>rfl
     | some x=>
       show some (x.1,x.2.1,x.2.2.1-fS (rs++[r]) x.1,x.2.2.2)=some (x.1,x.2.1,x.2.2.1-fS rs x.1,x.2.2.2)
       rw [v9 h,aA]
       intro z
       have r1:(qs.map fun q:Q4=>q.1)[k]?=some x.1:=by rw [bN,ek];rfl
       have r2:(qs.map fun q:Q4=>q.1)[j]?=some q.1:=by rw [bN,hq];rfl
       exact c ((MI (by rw [aD];exact hj) nd).mp (r2.trans (by rw [e,z];exact r1.symm)))
 . unfold ku
   rw [bN,hq]
   show some (q.1,q.2.1,q.2.2.1-fS rs q.1,q.2.2.2)=some q
   rw [e,v8 h,Int.sub_zero,<-e]
theorem R4 (qs:List Q4):ku [] qs=qs:=by
 unfold ku
 rw [show (fun q:Q4=>(q.1,q.2.1,q.2.2.1-fS [] q.1,q.2.2.2))=id from funext fun q=>by rw [xZ,Int.sub_zero];rfl,List.map_id]
theorem Iw (rs:List Row) (qs:List Q4):(ku rs qs).length=qs.length:=by unfold ku;rw [aD]
theorem NH (rs:List Row) (qs:List Q4):(ku rs qs).map (fun q:Q4=>q.1)=qs.map fun q:Q4=>q.1:=by unfold ku;rw [gy];rfl
theorem BV (st:HS):(bf st).map (fun q:Q4=>q.1)=fu st:=by unfold bf fu;rw [gy];rfl
def um (qs:List Q4):List Row:=qs.map fun q=>(q.1,q.2.2.1)
theorem yk (qs:List Q4):(um qs).map (fun r:Row=>r.1)=qs.map fun q:Q4=>q.1:=by unfold um;rw [gy];rfl
theorem bP.nw {K:Fg} {n:Nat} {ρ:eY} {B:LA} {H:Hp} {l:LS} (h:bP n ρ B H l):Nr K H (B.qs.map V.ref) (um l.ak):=by
 refine ⟨by unfold um;rw [aD,aD];exact h.ql,fun i r e=>?_⟩
 unfold um at e
 rw [bN] at e
 obtain ⟨q,eq,rfl⟩:=jx.mp e
 obtain ⟨a,ea,k1,_⟩:=h.find eq
 exact ⟨a,_,by rw [bN,ea];rfl, .inl (aH.of k1),Z,Z⟩
theorem Dd.Xr {d:Dd} {x:Str} (h:d.part=some x):d.v[1]?=some (.str x)/\d.k≠1/\d.k≠2/\d.k≠3/\d.k≠9:=by
 cases d <;> first|(cases h;refine ⟨rfl,?_,?_,?_,?_⟩ <;> simp [Dd.k])|(cases h)
theorem U4 {st:HS} {d:Dd} {x:Str} (h:d.part=some x) (hr:sH st d=none):x∈fu st:=by
 cases d with
 | mishap y a=>cases h;exact (jH (show jU st (x,a)=none from hr)).1
 | rise y a=>cases h;exact (yg (show lS st x a=none from hr)).1
 | hand y o=>cases h;exact (uh (show kR st x o=none from hr)).1
 | land y=>cases h;exact qB hr
 | sever y z a we=>cases h;exact (kX (show i6 st x z a we=none from hr)).1
 | _=>cases h
theorem R5 (l:LS) (i:Nat) (p:Pt) (d:Dd):(RZ l i p d).ak.length<=l.ak.length+1:=by
 cases d <;> first|(show (List.set _ _ _).length<=_;rw [gK];omega)|(show (List.set _ _ _++[_]).length<=_;rw [dw,gK];exact aN _)|exact yK _
theorem Tc.g {d:Dd} (h:Tc d):Xo d:=by
 cases d with
 | load x o wo we=>obtain ⟨_,_,⟨_,h1⟩,⟨_,h2⟩⟩:=h;exact ⟨by omega,h2⟩
 | rise x a=>obtain ⟨_,⟨_,h1⟩⟩:=h;show a<=_;omega
 | _=>exact True.intro
theorem Xs {st:HS} {d:Dd} (h:d.k≠0):(gP st d).own=st.own:=by
 cases d with
 | sign o=>exact absurd rfl h
 | cast rs=>exact HP st rs
 | award o a=>show (bh st _ _ _).own=_;unfold bh;rw [qy]
 | hand x o=>show (fH st x o).own=_;unfold fH;split <;> rfl
 | _=>rfl
structure GW (c m:Nat) (st:HS):Prop where
 g:Go c st
 wf:Wf st
 kn:st.kn<=m
theorem GW.do {c m:Nat} {st:HS} (h:GW c m st) (hc:c<=90) (hm:m+100<=1000000) (ho:st.own.length<100) {d:Dd} (hr:sH st d=none) (hb:Xo d):GW (c+1) (m+100) (gP st d):=
 ⟨ZE h.g h.wf hc hr hb,ZF h.g h.wf hc (by have:=h.kn;omega) ho hr,by have:=h.kn;have:=ZG st d;omega⟩
def sN (sp:Sp):Sp:=fun vs H Q _=>sp vs H Q E0
theorem Mx.n {P:Program} {w:World} {K:Fg} {mg:SO} {base:Heap} {k:Nat} {C:Addr} {m:Str} {ps:List Str} {sp:Sp} (D:Mx P w K mg base k C m ps sp):Mn P w K mg base k C m ps (sN sp):=D.mn fun _ _ _ _ h=>h
theorem PZ {st:HS} {o:Str} (h:v_ st o=none):isNm o=true/\o∉st.own:=by
 unfold v_ at h
 split at h
 . split at h
   . cases h
   . exact ⟨by assumption,by assumption⟩
 . cases h
def jn (own:List Str):HS:=own.foldl f7 hs0
theorem EA:∀(l:List Str) (st:HS),Wf st->(st.own++l).Nodup->st.own.length+l.length<=100->Wf (l.foldl f7 st)
 | [],_,w,_,_=>w
 | o::l,st,w,nd,hl=>by
   rw [jW]
   rw [jy] at hl
   have h1:o∉st.own:=fun m=>(List.nodup_append.mp nd).2.2 o m o cV rfl
   refine EA l (f7 st o) (CV w h1 (by omega)) ?_ ?_
   . show ((st.own++[o])++l).Nodup
     rw [MF];exact nd
   . show (st.own++[o]).length+l.length<=100
     rw [dw];show st.own.length+1+l.length<=100;omega
theorem gw0 {own:List Str} (nd:own.Nodup) (h0:0<own.length) (h1:own.length<=100) (hon:∀o∈own,isNm o=true):GW 0 0 (jn own):=by
 obtain ⟨k1,k2,k3,k4,k5,k6⟩:=kQ own hs0 rfl (fun u hu=>absurd hu (by simp [hs0]))
 have eo:(jn own).own=own:=by unfold jn;rw [t_];rfl
 have k1:(jn own).ak=[] :=k1
 have k2:(jn own).nms=[] :=k2
 have k3:(jn own).stp=[] :=k3
 have k4:(jn own).prod=1:=k4
 have k5:(jn own).dj=[] :=k5
 have k6:∀u∈(jn own).bH,u=0:=k6
 refine ⟨⟨fun u hu=>?_,by rw [k3];exact aN _,?_,fun p hp=>?_,fun p hp=>?_,by rw [k1];exact aN _,by rw [k2];exact aN _,by rw [eo];exact h0,fun x hx=>?_,by rw [eo];exact hon,fun p hp=>?_,by rw [k5];exact aN _,fun a ha=>?_⟩,EA own hs0 wf0 nd (by show 0+_<=_;omega),?_⟩
 . rw [k6 u hu];exact jK (by decide +kernel)
 . rw [k4];exact jK (by decide +kernel)
 . rw [k1] at hp;cases hp
 . rw [k1] at hp;cases hp
 . rw [k2] at hx;cases hx
 . rw [k1] at hp;cases hp
 . rw [k5] at ha;cases ha
 . rw [show (jn own).kn=0 from HR own hs0];exact aN _
theorem L_ (own:List Str):(jn own).own=own:=by unfold jn;rw [t_];rfl
theorem R6 (own:List Str):eF (jn own)=⟨own,[],[]⟩:=by
 obtain ⟨k1,k2,_⟩:=kQ own hs0 rfl (fun u hu=>absurd hu (by simp [hs0]))
 have k1:(jn own).ak=[] :=k1
 exact LS.ext' (L_ own) (by show List.map _ (jn own).ak=[];rw [k1];rfl) k2
theorem Xu {own nms:List Str} (nd:nms.Nodup) (h:∀x∈nms,isNm x=true):Nx nms (jn own):=by
 obtain ⟨_,k2,_⟩:=kQ own hs0 rfl (fun u hu=>absurd hu (by simp [hs0]))
 have k2:(jn own).nms=[] :=k2
 exact ⟨by rw [k2];rfl,nd,h⟩
def uI (l:List Rat):Rat:=l.foldr (·+·) 0
theorem P0 (l:List Rat) (x:Rat):uI (l++[x])=uI l+x:=by
 unfold uI
 induction l with
 | nil=>show x+0=0+x;grind
 | cons a l ih=>show a+List.foldr (·+·) 0 (l++[x])=a+List.foldr (·+·) 0 l+x;rw [ih];grind
theorem Dd.Xv (d:Dd):decide (V.str d.w=V.str "land")=decide (d.k=7):=by
 by_cases c:d.k=7
 . rw [aY c]
   obtain ⟨x,rfl⟩:=Dd.LP c
   exact aY rfl
 . rw [dR c]
   exact dR fun e=>d.HY c (by decide) (V.str.inj e)
def gv (st:HS) (i:Nat):Int:=(st.ak.map fun p=>p.wo*p.sc*p.row.getD i 0).sum+aM st*st.br.getD i 0
def pH (st:HS) (o:Str):Int:=((st.dj.filter fun a=>decide (a.ow=o)).map fun a=>a.wo).sum
def kC (st:HS) (o:Str):Rat:=Jm.fr (gv st (st.own.idxOf o)) st.prod
def vg (st:HS) (o:Str):Rat:=Jm.fr (st.bH.getD (st.own.idxOf o) 0) st.prod
def y_ (st:HS) (o:Str):Rat:=Jm.fr (gv st (st.own.idxOf o)+st.bH.getD (st.own.idxOf o) 0+pH st o*st.prod) st.prod
structure NI (st:HS):Prop where
 wf:Wf st
 wo:∀p∈st.ak,Jm.Sz 60 p.wo
 wh:Jm.Sz 60 (aM st)
 la:∀o,Jm.Sz 60 (pH st o)
inductive P_ (T:TC) (vs:List V) (H:Hp) (Q:VK) (E:XK):Prop
 | mk (n ρ A st:_) (i:Nat) (_:vs=[.ref A.a, .int (i:Int)]) (_:aL T n ρ A H st) (_:NI st) (_:i<st.own.length) (_:∀H',aQ H H'->Q (.int (gv st i)) H')
def wH (T:TC):Sp:=bx (P_ T)
inductive U5 (T:TC) (vs:List V) (H:Hp) (Q:VK) (E:XK):Prop
 | mk (n ρ A st o:_) (_:vs=[.ref A.a, .str o]) (_:aL T n ρ A H st) (_:NI st) (_:o∈st.own) (_:∀r H',aQ H H'->H' r=some (nu (kC st o))->Q (.ref r) H')
def Iz (T:TC):Sp:=bx (U5 T)
inductive Xw (T:TC) (vs:List V) (H:Hp) (Q:VK) (E:XK):Prop
 | mk (n ρ A st o:_) (_:vs=[.ref A.a, .str o]) (_:aL T n ρ A H st) (_:Wf st) (_:o∈st.own) (_:∀r H',aQ H H'->H' r=some (nu (vg st o))->Q (.ref r) H')
def Ma (T:TC):Sp:=bx (Xw T)
inductive ZK (T:TC) (vs:List V) (H:Hp) (Q:VK) (E:XK):Prop
 | mk (n ρ A st o:_) (_:vs=[.ref A.a, .str o]) (_:aL T n ρ A H st) (_:NI st) (_:o∈st.own) (_:∀r H',aQ H H'->H' r=some (nu (y_ st o))->Q (.ref r) H')
def Qa (T:TC):Sp:=bx (ZK T)
theorem getD_at {l:List Int} {i:Nat} (h:i<l.length):qj (l.map V.int) (i:Int)=some (.int (l.getD i 0)):=au (by rw [bN,lF,bq h];rfl)
theorem EB {l:List Int} {i:Nat} (h:i<l.length):l.getD i 0∈l:=by rw [lF,bq h];exact zO h
section
variable {X:Cx}
theorem BW:∀{ns:List Int} {its:List Value},Vals (ns.map V.int) its->∃xs:List (Int×Tok),its.toArray=intItems xs.toArray/\xs.map (fun p=>p.1)=ns
 | [],_,h=>by cases h;exact ⟨[],by simp [intItems],Z⟩
 | n::ns,_,h=>by
   cases h with
   | cons a b=>
     obtain ⟨t,rfl⟩:=a
     obtain ⟨xs,e1,e2⟩:=BW b
     refine ⟨(n,t)::xs,?_,by rw [bJ,e2]⟩
     unfold intItems at e1 ⊢
     simp only [List.map_toArray] at e1 ⊢
     rw [bJ]
     have:=jY Array.toList e1
     simp only at this
     rw [<-this]
inductive ZL (K:Fg) (xs:List V) (H:Hp) (Q:VK):Prop
 | mk (a:Addr) (ns:List Int) (_:xs=[.ref a]) (_:aH K H a (ns.map V.int)) (_:0<ns.length) (_:∀m∈ns,Q (.int m) H)
theorem Qc (K:Fg) (hc:X.calm=true) (hK:X.K=K:=by rfl):iK X (.builtin "min") (ZL K):=by
 subst hK
 intro pins s σ H xs us Q I r h
 obtain ⟨a,ns,rfl,hS,h0,q⟩:=h
 obtain ⟨u,rfl,ru⟩:=vals1 r
 cases ru
 obtain ⟨its,rv,p,hz⟩:=I.list hS
 have hl:=p.isList
 obtain ⟨xs,e1,e2⟩:=BW rv
 rw [e1] at hl
 have hx:xs.length=ns.length:=by rw [<-e2,aD]
 refine min_intList (I.ok.hd hc) hl (by rw [gG,hx];exact h0) fun v h' tk hv hk=>?_
 unfold intItems at hv
 rw [Array.getElem?_map] at hv
 obtain ⟨y,hy,rfl⟩:=jx.mp hv
 have hm:y∈xs:=by simpa using Array.mem_of_getElem? hy
 exact ⟨.int y.1,H,I.kept hk,⟨_,Z⟩,q _ (by rw [<-e2];exact bK.mpr ⟨y,hm,Z⟩)⟩
end
theorem EC {st:HS} (wf:Wf st) {i:Nat} (hi:i<st.own.length):gv st i=(st.ak.map fun p=>p.wo*(a_ st p).getD i 0).sum:=by
 unfold gv aM
 have hc:=wf.fC
 have h:∀p∈st.ak,(a_ st p).getD i 0=p.sc*p.row.getD i 0+st.br.getD i 0:=fun p hp=>by
  unfold a_
  exact sy (f:=fun r c=>p.sc*r+c) (by show p.sc*0+0=0;omega) (by rw [wf.rows p hp,hc]) i
 generalize st.br.getD i 0=k at *
 revert h
 generalize st.ak=ps
 intro h
 induction ps with
 | nil=>show (0:Int)+0*k=0;omega
 | cons p ps ih=>
   have e:=h p cV
   have:=ih fun x hx=>h x (cD _ hx)
   rw [bJ,bJ,bJ,cL,cL,cL,e,<-this]
   grind
theorem yl {st:HS} (wf:Wf st) {i:Nat} (hi:i<st.own.length):0<=gv st i:=by
 rw [EC wf hi]
 refine PB fun x hx=>?_
 obtain ⟨p,hp,rfl⟩:=bK.mp hx
 have h1:=(wf.jw p hp).1
 have h2:=z_ (fun t ht=>(wf.mw p hp t ht).1) i
 exact m9 (by omega) h2
theorem sum_rows {f:Pt->List Int} {n:Nat} {b:Int}:∀(ps:List Pt),(∀p∈ps,(f p).length=n/\(f p).sum=b)->((List.range n).map fun i=>(ps.map fun p=>p.wo*(f p).getD i 0).sum).sum=(ps.map fun p=>p.wo).sum*b
 | [],_=>by
   have:(List.range n).map (fun i=>(([] :List Pt).map fun p=>p.wo*(f p).getD i 0).sum)=(List.range n).map fun _=>(0:Int)*0:=by congr 1
   rw [this,jd];simp
 | p::ps,h=>by
   obtain ⟨h1,h2⟩:=h p cV
   have ih:=sum_rows ps fun x hx=>h x (cD _ hx)
   have e:(List.range n).map (fun i=>((p::ps).map fun p=>p.wo*(f p).getD i 0).sum)=(List.range n).map fun i=>(f p).getD i 0*p.wo+(ps.map fun p=>p.wo*(f p).getD i 0).sum:=by
    refine vz fun i _=>?_
    rw [bJ,cL,rm]
   rw [e,lI,jd,uF _ _ h1,ih,h2,bJ,cL]
   grind
theorem ym {st:HS} (wf:Wf st) (hs:∀p∈st.ak,(a_ st p).sum=st.prod):((List.range st.own.length).map (gv st)).sum=aM st*st.prod:=by
 have e:(List.range st.own.length).map (gv st)=(List.range st.own.length).map fun i=>(st.ak.map fun p=>p.wo*(a_ st p).getD i 0).sum:=vz fun i hi=>EC wf (pT.mp hi)
 rw [e]
 exact sum_rows st.ak fun p hp=>⟨BN wf hp,hs p hp⟩
theorem idx_map {own:List Str} (nd:own.Nodup):own.map (fun o=>own.idxOf o)=List.range own.length:=by
 refine List.ext_getElem? fun i=>?_
 rw [bN]
 by_cases h:i<own.length
 . rw [bq h,List.getElem?_range h]
   show some (own.idxOf own[i])=some i
   rw [vH nd (ud (zO h)) (bq h)]
 . rw [rN (by omega),rN (by rw [Gq];omega)];rfl
theorem zb {b:Int} (hb:0<b) {α:Type} (f:α->Int):∀l:List α,uI (l.map fun o=>Jm.fr (f o) b)=Jm.fr ((l.map f).sum) b
 | []=>(Jm.yQ b).symm
 | a::l=>by
   have ih:=zb hb f l
   unfold uI at ih ⊢
   rw [bJ,bJ,cL,Jm.Ul _ _ hb,List.foldr_cons,ih]
theorem ze {st:HS} (wf:Wf st) (f:Nat->Int):(st.own.map fun o=>f (st.own.idxOf o)).sum=((List.range st.own.length).map f).sum:=by
 rw [<-idx_map wf.nC,gy];rfl
theorem NJ {st:HS} (wf:Wf st) (hs:∀p∈st.ak,(a_ st p).sum=st.prod):uI (st.own.map (kC st))=Jm.fr (aM st) 1:=by
 have p1:0<st.prod:=by have:=wf.dW;omega
 have:=zb p1 (fun o=>gv st (st.own.idxOf o)) st.own
 rw [ze wf (gv st),ym wf hs] at this
 exact this.trans (Jm.F_ p1 (by decide) (by omega))
structure Mo (c:Nat) (st:HS):Prop where
 pz:st.bH.sum=0
 ao:∀a∈st.dj,a.ow∈st.own
 aw:∀a∈st.dj,1<=a.wo/\a.wo<=1000000000000*((c:Int)+1)
theorem Mo.mono {c:Nat} {st:HS} (m:Mo c st):Mo (c+1) st:=⟨m.pz,m.ao,fun a ha=>by have:=m.aw a ha;omega⟩
theorem IA {c:Nat} {st:HS} (m:Mo c st) (kept whole:Int) (added:List Int):Mo (c+1) (bh st kept whole added):=by
 unfold bh
 refine ⟨?_,?_,?_⟩
 . rw [Eg]
   show (st.bH.map fun x=>x*_).sum=0
   rw [jd (fun x=>x),List.map_id',m.pz,Int.zero_mul]
 . rw [qz,qy];exact m.ao
 . rw [qz];exact m.mono.aw
theorem R7 {st:HS} (wf:Wf st) {p:Pt} (hp:p∈st.ak) (hs:(a_ st p).sum=st.prod):(mC st p).sum=st.bH.sum:=by
 have e:=uG (l:=gj st p) (i:=st.own.idxOf p.ow) (x:=-(p.wo*st.prod)) (by rw [yh wf hp];exact tQ (wf.ow p hp))
 have e2:(gj st p).sum=st.bH.sum+p.wo*st.prod:=by
  unfold gj
  rw [Aa _ (by rw [BN wf hp,wf.jC]),hs]
 unfold mC
 rw [Int.sub_eq_add_neg,e,e2]
 omega
theorem ZM {c:Nat} {st:HS} (m:Mo c st) (g:Go c st) (wf:Wf st) {d:Dd} (hr:sH st d=none):Mo (c+1) (gP st d):=by
 cases d with
 | sign o=>
   refine ⟨?_,fun a ha=>zM _ (m.ao a ha),m.mono.aw⟩
   show (st.bH++[0]).sum=0
   rw [FU,m.pz];rfl
 | cast rs=>
   show Mo (c+1) (iL st rs)
   unfold iL
   rw [mW]
   have:=IA m (aM st-bD rs) (aM st) (jM st rs)
   exact ⟨this.pz,this.ao,this.aw⟩
 | award o a=>exact IA m _ _ _
 | hand x o=>show Mo (c+1) (fH st x o);unfold fH;split <;> exact ⟨m.pz,m.ao,m.mono.aw⟩
 | land x=>
   obtain ⟨i,p,e1,rfl⟩:=jG (qB hr)
   have hp:=bO e1
   show Mo (c+1) (p6 st p.nm)
   rw [sL wf hp]
   have S:∀{M:oJ->Prop},(∀a∈st.dj,M a)->M ⟨p.nm,p.ow,p.wo,nG st p⟩->∀a∈st.dj++[⟨p.nm,p.ow,p.wo,nG st p⟩],M a:=fun h1 h2 a ha=>by
    rcases fZ.mp ha with z|z
    . exact h1 a z
    . rw [fN.mp z];exact h2
   have w:=g.wo p hp
   exact ⟨by show (mC st p).sum=0;rw [R7 wf hp (g.sum p hp),m.pz],S m.ao (wf.ow p hp),S m.mono.aw ⟨(wf.jw p hp).1,by show p.wo<=_;omega⟩⟩
 | _=>exact ⟨m.pz,m.ao,m.mono.aw⟩
def jV (st:HS):Int:=(st.dj.map fun a=>a.wo).sum
theorem qL:∀{l:List oJ} {m:Int} (f:oJ->Bool),(∀a∈l,1<=a.wo/\a.wo<=m)->0<=((l.filter f).map fun a=>a.wo).sum/\((l.filter f).map fun a=>a.wo).sum<=m*(l.length:Int)
 | [],m,_,_=>by show 0<=(0:Int)/\(0:Int)<=m*0;omega
 | a::l,m,f,h=>by
   have h0:=h a cV
   have ih:=qL (l:=l) (m:=m) f fun x hx=>h x (cD _ hx)
   rw [fY,jy,show (((l.length+1:Nat)):Int)=(l.length:Int)+1 from by omega,tV,vE]
   by_cases c:f a=true
   . rw [aB c,bJ,cL];omega
   . rw [aA c];omega
theorem Go.st {c:Nat} {st:HS} (g:Go c st) (m:Mo c st) (wf:Wf st) (hc:c<=91):NI st:=by
 refine ⟨wf,g.sz wf hc,(g.whole wf hc).2,fun o=>?_⟩
 have h:=qL (m:=92000000000000) (fun a:oJ=>decide (a.ow=o)) fun a ha=>by have:=m.aw a ha;omega
 have hl:=g.al
 have h2:(92000000000000:Int)*(st.dj.length:Int)<=92000000000000*91:=by omega
 have h3:pH st o<=92000000000000*91:=Int.le_trans h.2 h2
 have h1:0<=pH st o:=h.1
 exact (show Jm.Sz 60 (92000000000000*91:Int) from jK (by decide +kernel)).of_le (by omega)
theorem NK {c:Nat} {st:HS} (m:Mo c st) (wf:Wf st):uI (st.own.map (vg st))=0:=by
 have p1:0<st.prod:=by have:=wf.dW;omega
 have:=zb p1 (fun o=>st.bH.getD (st.own.idxOf o) 0) st.own
 rw [ze wf (fun i=>st.bH.getD i 0),uF _ _ wf.jC,m.pz,Jm.yQ] at this
 exact this
theorem BX:∀{own:List Str} (l:List oJ),own.Nodup->(∀a∈l,a.ow∈own)->(own.map fun o=>((l.filter fun a=>decide (a.ow=o)).map fun a=>a.wo).sum).sum=(l.map fun a=>a.wo).sum
 | own,[],_,_=>by
   have:own.map (fun o=>((([] :List oJ).filter fun a=>decide (a.ow=o)).map fun a=>a.wo).sum)=own.map fun _=>(0:Int)*0:=by congr 1
   rw [this,jd];simp
 | own,a::l,nd,h=>by
   have ih:=BX (own:=own) l nd fun x hx=>h x (cD _ hx)
   have e:own.map (fun o=>(((a::l).filter fun a=>decide (a.ow=o)).map fun a=>a.wo).sum)=own.map fun o=>(if a.ow=o then a.wo else 0)+((l.filter fun a=>decide (a.ow=o)).map fun a=>a.wo).sum:=by
    refine vz fun o _=>?_
    rw [fY]
    by_cases c:a.ow=o
    . rw [aB (aY c),aB c,bJ,cL]
    . rw [aA (by simpa using c),aA c,AJ]
   have one:∀{l:List Str} {x:Str} {w:Int},l.Nodup->x∈l->(l.map fun o=>if x=o then w else 0).sum=w:=fun {l x w} nd hx=>by
    induction l with
    | nil=>cases hx
    | cons y l ih=>
      obtain ⟨n1,n2⟩:=fO.mp nd
      rw [bJ,cL]
      by_cases c:x=y
      . subst c
        have:l.map (fun o=>if x=o then w else 0)=l.map fun _=>(0:Int)*0:=vz fun o ho=>aA fun z=>n1 (by rw [z];exact ho)
        rw [aB rfl,this,jd];simp
      . rw [aA c,ih n2 ((c9.mp hx).resolve_left c)];omega
   rw [e,lI,ih,one nd (h a cV),bJ,cL]
theorem Qd {c:Nat} {st:HS} (m:Mo c st) (wf:Wf st) (hs:∀p∈st.ak,(a_ st p).sum=st.prod):uI (st.own.map (y_ st))=Jm.fr (aM st+jV st) 1:=by
 have p1:0<st.prod:=by have:=wf.dW;omega
 have:=zb p1 (fun o=>gv st (st.own.idxOf o)+st.bH.getD (st.own.idxOf o) 0+pH st o*st.prod) st.own
 rw [lI (fun o=>gv st (st.own.idxOf o)+st.bH.getD (st.own.idxOf o) 0),lI (fun o=>gv st (st.own.idxOf o)),ze wf (gv st),ze wf (fun i=>st.bH.getD i 0),ym wf hs,uF _ _ wf.jC,m.pz,jd (pH st),show (st.own.map (pH st)).sum=jV st from BX st.dj wf.nC m.ao] at this
 exact this.trans (Jm.F_ p1 (by decide) (by rw [vE,Int.add_zero,<-rB]))
inductive Xx (K:Fg) (vs:List V) (H:Hp) (Q:VK) (E:XK):Prop
 | mk (l:Addr) (ws:List V) (qs:List Rat) (m:Nat) (_:vs=[.ref l]) (_:aH K H l ws) (_:jk H ws qs) (_:∀q∈qs,Jm.Lx m q) (_:m<=10000) (_:qs.length<=10) (_:∀(t b:Int) (r:Addr) (H':Hp),aQ H H'->H' r=some (.tup [.int t, .int b])->0<b->Jm.fr t b=uI qs->Jm.Sz 200000 b->Q (.ref r) H')
def Mb (K:Fg):Sp:=bx (Xx K)
theorem R8 {st:HS} (wf:Wf st) (hs:∀p∈st.ak,(a_ st p).sum=st.prod) {i:Nat} (hi:i<st.own.length):gv st i<=aM st*st.prod:=by
 rw [<-ym wf hs]
 exact (Ii (l:=(List.range st.own.length).map (gv st)) fun t ht=>by obtain ⟨j,hj,rfl⟩:=bK.mp ht;exact yl wf (pT.mp hj)).2 _ (bK.mpr ⟨i,pT.mpr hi,Z⟩)
theorem U6 {c:Nat} {st:HS} (g:Go c st) (m:Mo c st) (wf:Wf st) (hc:c<=91) {o:Str} (ho:o∈st.own):Jm.Lx 6000 (kC st o)/\Jm.Lx 6000 (vg st o)/\Jm.Lx 6000 (y_ st o):=by
 have hi:=tQ ho
 have ok:=g.st m wf hc
 have p1:0<st.prod:=by have:=wf.dW;omega
 have zp:Jm.Sz 6000 st.prod:=g.prod.mono (by omega)
 have z1:Jm.Sz (60+(64*c+1)) (gv st (st.own.idxOf o)):=(ok.wh.mul g.prod).of_le (by have:=R8 wf g.sum hi;have:=yl wf hi;omega)
 have z2:Jm.Sz (64*c+61) (st.bH.getD (st.own.idxOf o) 0):=g.bH _ (EB (by rw [wf.jC];exact hi))
 have z3:=(ok.la o).mul g.prod
 have z4:=(z1.mono (show 60+(64*c+1)<=64*c+61 by omega)).jj z2
 have z5:=z4.jj (z3.mono (show 60+(64*c+1)<=64*c+61+1 by omega))
 exact ⟨Jm.Nb p1 (z1.mono (by omega)) zp,Jm.Nb p1 (z2.mono (by omega)) zp,Jm.Nb p1 (z5.mono (by omega)) zp⟩
theorem NL {st:HS} (wf:Wf st) {o:Str} (ho:o∈st.own):0<=(kC st o).num:=by
 have p1:0<st.prod:=by have:=wf.dW;omega
 unfold kC
 rw [Jm.GS _ _ p1]
 exact Az (yl wf (tQ ho)) (AK (Jm.xD _ _ (.inl p1)))
theorem U7 (st:HS) {d:Dd} (h:d.k≠7):jV (gP st d)=jV st:=by
 unfold jV
 cases d with
 | cast rs=>
   show ((iL st rs).dj.map _).sum=_
   unfold iL
   rw [mW]
   show ((bh st _ _ _).dj.map _).sum=_
   unfold bh
   rw [qz]
 | award o a=>show ((bh st _ _ _).dj.map _).sum=_;unfold bh;rw [qz]
 | hand x o=>show ((fH st x o).dj.map _).sum=_;unfold fH;split <;> rfl
 | land x=>exact absurd rfl h
 | _=>rfl
theorem Qe (st:HS) (x:Str):jV (p6 st x)=jV st+(cE st x).wo:=by
 show ((st.dj++[_]).map _).sum=_
 rw [bL,FU]
 show _+((cE st x).wo+0)=_
 rw [Int.add_zero];rfl
theorem mo0 {own:List Str}:Mo 0 (jn own):=by
 obtain ⟨_,_,_,_,k5,k6⟩:=kQ own hs0 rfl (fun u hu=>absurd hu (by simp [hs0]))
 have k5:(jn own).dj=[] :=k5
 have k6:∀u∈(jn own).bH,u=0:=k6
 refine ⟨?_,(fun a ha=>by rw [k5] at ha;cases ha),fun a ha=>by rw [k5] at ha;cases ha⟩
 generalize (jn own).bH=l at *
 induction l with
 | nil=>rfl
 | cons a l ih=>rw [cL,k6 a cV,ih fun u hu=>k6 u (cD _ hu)];rfl
theorem U8 (st:HS):(bf st).map (fun q:Q4=>q.2.2.1)=st.ak.map fun p=>p.wo:=by unfold bf;rw [gy];rfl
end L2
set_option autoImplicit false
namespace Xy
open PySem L2
theorem iF (n:Nat) (h:n<=1000:=by decide):n<=sizeLine:=by rw [jz];omega
def top (i:Nat):Stmt:=PySem.Challenge.pw_jettison_k33_whole_nothing_made_or_lost.main.body.getD i (.Pass ⟨0,0,0,0⟩)
section
variable {P:Program} {w:World} {K:Fg} {mg:SO} {base:Heap} {f:Addr} {fd:FuncData}
abbrev mD:Stmt:=top 2
abbrev i8:List Str:=["one","other"]
abbrev BY:List Str:=i8
theorem sM:aO BY i8 (aC mD):=dO
theorem Ab (F:At K mg "common_factor" mD f fd):Dn P w K mg base 1 "common_factor" i8 Rn:=by
 refine F.oA sM fun cdv A outer s H vs Q E hr h=>?_
 obtain ⟨a,b,rfl,ha,hb,q⟩:=h
 refine ⟨_,(@cU.h _ _ _ (aj (HZ gi (aP jA (qv 1) ah (aW _)) (av (Xc (i:=0) (j:=1) rfl sM.nd rfl rfl (by decide) rfl rfl (af (qv 1) (af (aG jJ (qv 0) (qv 1)) aq)) (by rfl))))
  (av (bu (qv 0))))),?_⟩
 refine ⟨fun m σ H'=>∃x y:Int,m=y.toNat/\σ=[some (.int x),some (.int y)]/\H'=H/\0<=x/\0<=y/\Jm.cf x y=Jm.cf a b,⟨_,a,b,Z,Z,Z,ha,hb,Z⟩,?_⟩
 rintro m σ H' ⟨x,y,rfl,rfl,rfl,hx,hy,e⟩
 refine ⟨_,Z,_,_,Z,Z,_,Z,?_⟩
 refine aK (fun c=>?_) (fun c=>?_)
 . have c':0<y:=aX c
   refine ⟨_,fun _ _ z=>z,?_⟩
   refine ⟨_,Z,_,Z,_,Z,_,_,Z,Z,c',_,_,Z,?_⟩
   have h1:0<=x % y:=m8 _ (by omega)
   have h2:x % y<y:=xu _ c'
   exact ⟨_,(by omega:(x % y).toNat<y.toNat),y,x % y,Z,Z,Z,hy,h1,(Jm.Lw x y c').trans e⟩
 . have c':¬ 0<y:=rO (oS.mpr c)
   have ey:y=0:=by omega
   subst ey
   rw [Jm.Ui x hx] at e
   refine ⟨_,Z,?_⟩
   rw [e]
   exact q
abbrev wI:Stmt:=top 18
abbrev uo:List Str:=["text","signs"]
abbrev Qf:List Str:=uo
theorem NN:aO Qf uo (aC wI):=dO
theorem NO (F:At K mg "made_of" wI f fd) (NP:mg "all"=none):Dn P w K mg base 1 "made_of" uo zT:=by
 refine F.oA NN fun cdv A outer s H vs Q E hr h=>?_
 obtain ⟨⟨cs,signs,rfl,hl,q⟩⟩:=h
 refine ⟨_,(@cU.h _ _ _ (av (bu (bF (OV K rfl) (by rfl) NP PyProof.Rows.boot_all (af (gE ["sign","signs"] [none,some 1] rfl (Xg (qv 0)) (fun _ _ _ _=>(aV (i:=0) (show List.Nodup (["sign","signs"] :List Str) from by decide +kernel))) (fun _ _ _ _=>(C3 Om (qv 0) (qv 1) (by with_unfolding_all rfl))) rfl (by rfl)) aq))))),?_⟩
 refine ⟨_,Z,cs,Z,fun acc hacc=>?_⟩
 refine Rr (fun i out H1=>aQ H H1/\out=((cs.take i).map (D0 signs)).map V.bl) hl ⟨aF hacc _,Z⟩ ?_ ?_
 . rintro i c out H1 hx fR ha ⟨g,e⟩
   refine ⟨_,Z,_,Z,_,_,Z,Z,ha,g.cJ hacc _,?_⟩
   rw [e,List.take_add_one,hx,bL,bL]
   rfl
 rintro out H1 fR ha ⟨g,e⟩
 rw [dQ] at e
 refine ⟨acc,cs.map (D0 signs),Z,aH.of (by rw [ha,e]),?_⟩
 have e2:(cs.map (D0 signs)).all id=cs.all (D0 signs):=by rw [List.all_map];rfl
 rw [e2]
 exact q H1 g
abbrev wJ:Stmt:=top 17
abbrev qC:List Str:=["text"]
abbrev Qg:List Str:=qC
theorem NQ:aO Qg qC (aC wJ):=dO
theorem NR {tk:Tok} (F:At K mg "is_name" wJ f fd) (yo:Dn P w K mg base 1 "made_of" uo zT) (bZ:mg "len"=none) (yp:mg "LETTERS"=some (.str "abcdefghijklmnopqrstuvwxyz" tk)):Dn P w K mg base 2 "is_name" qC vP:=by
 refine F.oA NQ fun cdv A outer s H vs Q E hr h=>?_
 obtain ⟨⟨cs,rfl,hl,q⟩⟩:=h
 refine ⟨_,(@cU.h _ _ _ (av (bu (Xf (RM SH SH ah (bF GK (by rfl) bZ fG (af (qv 0) aq)) ah) (Xa (bQ yo hr (af (qv 0) (af (UQ (v:= .str "abcdefghijklmnopqrstuvwxyz") (by rfl) yp ⟨_,Z⟩) aq)))))))),?_⟩
 have hz:(tx cs).length<=sizeLine:=by rw [xG,jz];omega
 refine ⟨_,Z,_,Z,hz,_,_,Z,Z,_,Z,?_⟩
 rw [xG]
 refine aK (fun c=>?_) (fun c=>?_)
 . refine ⟨_,_,Z,Z,_,Z,aK (fun c2=>?_) (fun c2=>?_)⟩
   . refine ⟨_,Z,Nd hl fun H' g=>?_⟩
     have:=q H' g
     unfold isName at this
     rw [c,c2,Bool.true_and,Bool.true_and] at this
     exact this
   . have:=q H (aQ.refl _)
     unfold isName at this
     rw [c,oS.mpr c2,Bool.true_and,Bool.false_and] at this
     exact this
 . have:=q H (aQ.refl _)
   unfold isName at this
   rw [oS.mpr c,Bool.false_and,Bool.false_and] at this
   exact ⟨_,Z,iP this⟩
abbrev nN:Stmt:=top 23
abbrev h_:List Str:=["amount"]
abbrev C5:List Str:=h_
theorem BZ:aO C5 h_ (aC nN):=dO
theorem Ac {e:Ec} (F:At K mg "check_amount" nN f fd) (jq:f_ K e.x8) (jP:mg "BadNumber"=some (.ref e.x8)):Dx P w K mg base 1 "check_amount" h_ (ye e):=by
 refine F.w_ BZ fun cdv A outer s H vs Q E hr h=>?_
 obtain ⟨⟨a,rfl,h5,q⟩⟩:=h
 refine ⟨_,(@cU.h _ _ _ (av (b_ (aP nh (qv 0) ah (aW _)) (av (jF jq (by rfl) jP)) bB))),?_⟩
 exact ⟨_,Z,_,_,Z,Z,_,Z,aK (fun c=>fun x=>h5 (aX c) x H (aQ.refl _)) fun c=>q (by have:=rO (oS.mpr c);omega)⟩
abbrev qM:Stmt:=top 24
abbrev kD:List Str:=["most","amount"]
abbrev IB:List Str:=kD
theorem EO:aO IB kD (aC qM):=dO
theorem C6 {e:Ec} (F:At K mg "check_loss" qM f fd) (dD:Dx P w K mg base 1 "check_amount" h_ (ye e)) (gQ:f_ K e.z6) (i9:mg "TooMuch"=some (.ref e.z6)):Dx P w K mg base 2 "check_loss" kD (Ic e):=by
 refine F.w_ EO fun cdv A outer s H vs Q E hr h=>?_
 obtain ⟨⟨m,a,rfl,h5,h6,q⟩⟩:=h
 refine ⟨_,(@cU.h _ _ _ (aj (cA (BJ dD hr (af (qv 1) aq)))
  (av (b_ (aP jA (qv 1) (qv 0) (aW _)) (av (jF gQ (by rfl) i9)) bB)))),?_⟩
 exact ⟨_,Z,⟨⟨a,Z,h5,fun h1=>⟨_,Z,_,Z,_,_,Z,Z,_,Z,aK (fun c=>fun x=>h6 h1 (aX c) x H (aQ.refl _)) fun c=>q h1 (by have:=rO (oS.mpr c);omega)⟩⟩⟩⟩
abbrev qN:Stmt:=top 22
abbrev nO:List Str:=["rows"]
abbrev IC:List Str:=nO.append ["amounts","name","amount"]
theorem lT:aO IC nO (aC qN):=dO
theorem ER (F:At K mg "amounts_of" qN f fd) (bZ:mg "len"=none):Dn P w K mg base 1 "amounts_of" nO (Ph K):=by
 refine F.oA lT fun cdv A outer s H vs Q E hr h=>?_
 obtain ⟨⟨l,us,rs,rfl,hl,hR,nd,hne,hle,q⟩⟩:=h
 refine ⟨_,(@cU.h _ _ _ (aj (aS (i:=1) lT.nd pC)
  (aj (fT gi rfl (dM K (qv 0)) (g_ K (n:=2) rfl (cj (aV (i:=2) lT.nd) (cj (aV (i:=3) lT.nd) gY))) (aj (b_ (ve (Ia (cW hr) (qv 2) (qv 1))) (av pD) bB)
  (av (rL (cW hr) (qv 1) (qv 2) (qv 3) rfl))))
  (aj (b_ (aP dB (bF tY (by rfl) bZ fG (af (qv 1) aq)) ah (aW _)) (av pD) bB)
  (av (bu (qv 1))))))),?_⟩
 intro d hd
 have g0:=aF hd (.dK [])
 have hd0:upd H d (.dK []) d=some (.dK (gu (rs.take 0))):=ai
 generalize upd H d (.dK [])=H0 at *
 have Xz:=hR.length
 refine ⟨_,Z,l,Z,⟨us,g0.seq hl⟩,?_⟩
 refine l7 (K:=K) (xs:=us) (fun i σ H'=>aQ H H'/\H' d=some (.dK (gu (rs.take i)))/\∃s2 s3,σ=[some (.ref l),some (.ref d),s2,s3]) ⟨g0,hd0,_,_,Z⟩ (fun i σ H' _ hp=>hp.1.seq hl) ?_ ?_
 . rintro i x σ H' hx ⟨g,hd',s2,s3,rfl⟩
   obtain ⟨a,r,rfl,er,ha⟩:=hR.get hx
   have hnot:r.1∉(rs.take i).map (·.1):=by
    rw [List.map_take]
    exact o_ nd (by rw [bN,er];rfl)
   have hlt:(gu (rs.take i)).length<sizeLine:=by rw [vX,rQ];exact dH (by omega)
   refine ⟨a,_,Z,cQ.of (g _ _ ha),Z,_,_,Z,_,_,Z,Z,?_⟩
   refine ⟨_,Z,_,Z,d,_,Z,dG.k (k:=Sum.inr r.1) hd',_,Z,?_⟩
   rw [Eb hnot]
   refine iP ?_
   refine ⟨_,Z,_,Z,_,Z,d,_,Z,uC.k (k:=Sum.inr r.1) hd' hlt,g.cJ hd _,?_,_,_,Z⟩
   rw [ai,l_ _ (Eb hnot),take_snoc er]
   unfold gu
   rw [bL]
   rfl
 rintro σ H' ⟨g,hd',s2,s3,rfl⟩
 rw [Xz,dQ] at hd'
 refine ⟨_,Z,d,_,Z,hd',Z,_,Z,?_⟩
 rw [vX]
 have hpos:0<rs.length:=List.length_pos_iff.mpr hne
 rw [dR (fun e=>by have:=V.int.inj e;omega)]
 exact iP ⟨_,Z,q d H' g hd hd'⟩
abbrev mE:Stmt:=top 5
abbrev j8:List Str:=["step","tops"]
abbrev B0:List Str:=j8.append ["top"]
theorem mF:aO B0 j8 (aC mE):=dO
theorem Ad (F:At K mg "factor_of_all" mE f fd) (gF:Dn P w K mg base 1 "common_factor" i8 Rn):Dn P w K mg base 2 "factor_of_all" j8 (Pj K):=by
 refine F.oA mF fun cdv A outer s H vs Q E hr h=>?_
 obtain ⟨⟨s,l,ts,rfl,hl,h0,h1,q⟩⟩:=h
 refine ⟨_,(@cU.h _ _ _ (aj (fT gi rfl (dM K (qv 1)) (aV (i:=2) mF.nd) (av (aS (i:=0) mF.nd (bQ gF hr (af (qv 2) (af (qv 0) aq))))))
  (av (bu (qv 0))))),?_⟩
 refine ⟨_,Z,l,Z,⟨_,hl⟩,?_⟩
 refine l7 (K:=K) (xs:=ts.map V.int) (fun i σ H'=>H'=H/\0<=nH s (ts.take i)/\∃s2,σ=[some (.int (nH s (ts.take i))),some (.ref l),s2]) ⟨Z,h0,_,Z⟩ (fun i σ H' _ hp=>by rw [hp.1];exact hl) ?_ ?_
 . rintro i x σ H' hx ⟨rfl,hf,s2,rfl⟩
   obtain ⟨t,rfl,et⟩:=fE hx
   have e1:nH s (ts.take (i+1))=Jm.cf t (nH s (ts.take i)):=by
    unfold nH
    rw [take_snoc et,Gr]
    rfl
   refine ⟨_,Z,_,Z,t,_,Z,h1 t (bO et),hf,Z,?_,some (.int t),?_⟩
   . rw [e1];unfold Jm.cf;omega
   . rw [e1];rfl
 rintro σ H' ⟨rfl,hf,s2,rfl⟩
 rw [aD,dQ]
 exact ⟨_,Z,q⟩
abbrev pI:Stmt:=inClass (top 4) 0
abbrev qO:List Str:=["self"]
abbrev ES:List Str:=qO
theorem C7:aO ES qO (aC pI):=dO
theorem C8 {T:TC} (F:D7 K mg "Bottom" T.bot "Bottom.__init__" pI f fd) (X:Txt K T):Cn P w K mg base 1 "Bottom" T.bot qO (LF T):=by
 refine F.oA C7 fun cdv A outer s H vs Q E hr h=>?_
 obtain ⟨⟨p,dx,rfl,hp,q⟩⟩:=h
 refine ⟨_,(@cU.h _ _ _ (aj (c_ K (qv 0) (i7 aq))
  (aj (c_ K (qv 0) ah)
  (av (c_ K (qv 0) pC))))),?_⟩
 refine ⟨(iF 0),fun l hl=>?_⟩
 have n1:p≠l:=aE hp hl
 refine ⟨_,Z,p,T.bot,dx,_,Z,by rw [ay n1];exact hp,X.cB,X.WR,by show 0<1000;decide,?_⟩
 refine ⟨_,Z,p,T.bot,dx,_,Z,ai,X.cB,X.Hq,by show 1<1000;decide,?_⟩
 intro d hd
 have n2:d≠p:=fun e=>by rw [e,ai] at hd;cases hd
 have n3:d≠l:=fun e=>by rw [e,ay (cM n1),ay (cM n1),ai] at hd;cases hd
 have hd0:H d=none:=by rw [ay n2,ay n2,ay n3] at hd;exact hd
 refine ⟨_,Z,p,T.bot,dx,_,Z,by rw [ay (cM n2)];exact ai,X.cB,X.Pb,by show 2<1000;decide,?_⟩
 refine q l d _ hl hd0 (cM n3) (fun b o e hb=>?_) ai ?_ ?_
 . rw [ay hb,ay (aE e hd0),ay hb,ay hb,ay (aE e hl)];exact e
 . rw [ay (cM n1),ay (cM n3),ay (cM n1),ay (cM n1)];exact ai
 . rw [ay n2];exact ai
abbrev sO:Stmt:=inClass (top 20) 0
abbrev uJ:List Str:=["self","name","owner","worth","weight","scale","row"]
abbrev Kd:List Str:=uJ
theorem ID:aO Kd uJ (aC sO):=dO
theorem IE {T:TC} (F:D7 K mg "Part" T.part "Part.__init__" sO f fd) (X:Txt K T) (nP:mg "list"=none):Cn P w K mg base 1 "Part" T.part uJ (CT T K):=by
 refine F.oA ID fun cdv A outer s H vs Q E hr h=>?_
 obtain ⟨⟨p,dx,l,pt,rfl,hp,hl,q⟩⟩:=h
 refine ⟨_,(@cU.h _ _ _ (aj (c_ K (qv 0) (qv 1))
  (aj (c_ K (qv 0) (qv 2))
  (aj (c_ K (qv 0) (qv 3))
  (aj (c_ K (qv 0) (qv 4))
  (aj (c_ K (qv 0) (qv 5))
  (av (c_ K (qv 0) (ug (wZ K) (by rfl) nP PyProof.Rows.boot_list (af (qv 6) aq)))))))))),?_⟩
 refine ⟨_,Z,_,Z,p,T.part,dx,_,Z,hp,X.cP,X.S0,by show 0<1000;decide,?_⟩
 refine ⟨_,Z,_,Z,p,T.part,dx,_,Z,ai,X.cP,X.pow,by show 1<1000;decide,?_⟩
 refine ⟨_,Z,_,Z,p,T.part,dx,_,Z,ai,X.cP,X.t8,by show 2<1000;decide,?_⟩
 refine ⟨_,Z,_,Z,p,T.part,dx,_,Z,ai,X.cP,X.S3,by show 3<1000;decide,?_⟩
 refine ⟨_,Z,_,Z,p,T.part,dx,_,Z,ai,X.cP,X.D8,by show 4<1000;decide,?_⟩
 simp only [mO]
 have hl1:∀o,aH K (upd H p o) l (pt.row.map V.int):=fun o=>by
  rcases hl with (h|⟨ob,h⟩)|h
  . exact .inl (.inl (by rw [ay (gO h hp (by intro z;cases z))];exact h))
  . exact .inl (.inr ⟨ob,by rw [ay (gO h hp (by intro z;cases z))];exact h⟩)
  . exact .inr h
 refine ⟨_,Z,l,_,Z, .inl (hl1 _),fun r hr2=>?_⟩
 have n1:r≠p:=fun e=>by rw [e,ai] at hr2;cases hr2
 refine ⟨_,Z,p,T.part,dx,_,Z,by rw [ay (cM n1)];exact ai,X.cP,X.Ho,by show 5<1000;decide,?_⟩
 have hr0:H r=none:=by rw [ay n1] at hr2;exact hr2
 refine q r _ hr0 (fun b o e hb=>?_) ai ?_
 . rw [ay hb,ay (aE e hr0),ay hb];exact e
 . rw [ay n1];exact ai
abbrev pJ:Stmt:=inClass (top 4) 1
abbrev lU:List Str:=["self","step"]
abbrev ET:List Str:=lU
theorem C9:aO ET lU (aC pJ):=dO
theorem C_ {T:TC} (F:gh K T.bot "grow" "Bottom.grow" pJ f fd) (X:Txt K T):Mn P w K mg base 1 T.bot "grow" lU (Pk T):=by
 refine F.oA C9 fun cdv A outer s H vs Q E hr h=>?_
 obtain ⟨⟨n,ρ,A,st,s,rfl,g,h,hl,z1,z2,q⟩⟩:=h
 refine ⟨_,(@cU.h _ _ _ (av (jl (aP jA (qv 1) ah (aW _)) (aj (cA (kU oO oM oN ef (aI K (qv 0)) (af (qv 1) aq)))
  (aj (nM K (qv 0) (qv 1) Uz)
  (av (c_ K (qv 0) pC)))) bB))),?_⟩
 refine ⟨fun σ' H'=>Q .bU H',⟨_,Z,_,_,Z,Z,_,Z,aK (fun c=>?_) (fun c=>?_)⟩,fun _ _ z=>z⟩
 . have c':1<s:=aX c
   refine ⟨_,Z,A.bt,T.bot,A.db,_,_,Z,h.iz,X.cB,X.WR,Z, .inl ⟨Z,_,aH.of h.lH⟩,_,Z,A.sp,_,_,Z,Z,h.lH,by rw [aD];exact dH hl,?_⟩
   rw [show st.stp.map V.int++[V.int s]=(st.stp++[s]).map V.int from by rw [bL];rfl]
   have h1:=h.WN g (st.stp++[s])
   have g1:=g.wr (a:=A.sp) (o:= .lst ((st.stp++[s]).map V.int)) rfl
   have F1:Fr n ρ H ρ (upd H A.sp (.lst ((st.stp++[s]).map V.int))):=Fr.write h.iB
   generalize upd H A.sp (.lst ((st.stp++[s]).map V.int))=H1 at *
   refine ⟨_,Z,A.bt,T.bot,A.db,_,_,Z,h1.iz,X.cB,X.Hq,Z,_,Z,_,_,Z,Z,gC z1 z2,A.db,_,h1.iz,by show 3<1000;decide,?_⟩
   intro kn hkn
   have nb:kn≠A.bt:=fun e=>by rw [e,ai] at hkn;cases hkn
   have Ae:H1 kn=none:=by rw [ay nb] at hkn;exact hkn
   have iC:ρ kn=none:=g1.none Ae
   refine ⟨_,Z,A.bt,T.bot,A.db,_,Z,by rw [ay (cM nb)];exact ai,X.cB,X.Pb,by show 3<1000;decide,?_⟩
   have eH:upd (upd (upd H1 A.bt (.ins T.bot A.db (aT "product" (.int (st.prod*s)) (vR A.sp st.prod A.kn)))) kn (.dK [])) A.bt (.ins T.bot A.db (aT "known" (.ref kn) (aT "product" (.int (st.prod*s)) (vR A.sp st.prod A.kn))))=upd (upd H1 kn (.dK [])) A.bt (.ins T.bot A.db (vR A.sp (st.prod*s) kn)):=by
    rw [jE (cM nb),mO]
    rfl
   have k2:Kp n ρ (cN ρ kn (n,9,⟨#[]⟩)) H1 (upd H1 kn (.dK [])) (fun _=>true):=⟨(aF Ae _).tups,fun b t x o _ c e=>⟨aF Ae _ _ _ e,by rw [cC (aE e Ae)];exact c⟩⟩
   have h2:=h1.same k2
   have g2:Gh (cN ρ kn (n,9,⟨#[]⟩)) (upd H1 kn (.dK [])):=(g1.alloc Ae).color ai rfl
   have F2:Fr n ρ H1 (cN ρ kn (n,9,⟨#[]⟩)) (upd H1 kn (.dK [])):=Fr.color Ae (aF Ae _)
   have h3:=h2.WQ g2 (st.prod*s) kn ai di
   have es:eV st s={ { st with stp:=st.stp++[s] } with prod:=st.prod*s,kn:=0 }:=by
    unfold eV
    rw [aB c']
   rw [es] at q
   show Q .bU _
   refine (show _=_ from eH)▸?_
   exact q _ _ _ (g2.wr rfl) h3 rfl (F1.trans (F2.trans (Fr.write h2.iA)))
 . have c':¬ 1<s:=rO (oS.mpr c)
   have es:eV st s=st:=by unfold eV;rw [aA c']
   rw [es] at q
   exact q ρ A H g h rfl Fr.refl
abbrev mG:Stmt:=inClass (top 21) 19
abbrev dF:List Str:=["self","owner"]
abbrev B4:List Str:=dF
theorem Af:aO B4 dF (aC mG):=dO
theorem zf {T:TC} {e:Ec} (F:gh K T.hold "place_of" "Hold.place_of" mG f fd) (X:Txt K T) (wK:f_ K e.Ny) (yq:mg "NoOwner"=some (.ref e.Ny)):Mx P w K mg base 1 T.hold "place_of" dF (wg T e):=by
 refine F.w_ Af fun cdv A outer s H vs Q E hr h=>?_
 obtain ⟨⟨n,ρ,A,st,o,rfl,h,q2,q⟩⟩:=h
 refine ⟨_,(@cU.h _ _ _ (aj (b_ (ve (yc (cW hr) (qv 1) (aI K (qv 0)))) (av (jF wK (by rfl) yq)) bB)
  (av (bu (dg (cW hr) (aI K (qv 0)) (qv 1)))))),?_⟩
 refine ⟨_,Z,_,Z,A.a,T.hold,A.dx,_,_,Z,h.oa,X.cH,X.hpl,Z,A.pl,_,Z,dG.k (k:=Sum.inr o) h.gT,_,Z,?_⟩
 by_cases ho:o∈st.own
 . have hv:=LD (i:=0) ho
   rw [hv]
   refine iP ?_
   refine ⟨_,Z,A.a,T.hold,A.dx,_,_,Z,h.oa,X.cH,X.hpl,Z,_,Z,A.pl,_,Z,hv▸dG.k (k:=Sum.inr o) h.gT,?_⟩
   rw [Nat.zero_add]
   exact q ho
 . rw [nE ho]
   exact lu fun x=>q2 ho x H (aQ.refl _)
abbrev nQ:Stmt:=inClass (top 21) 20
abbrev dY:List Str:=["self","name"]
abbrev Dc:List Str:=dY
theorem B8:aO Dc dY (aC nQ):=dO
theorem Ag {T:TC} {e:Ec} (F:gh K T.hold "part_of" "Hold.part_of" nQ f fd) (X:Txt K T) (yr:f_ K e.HW) (Ah:mg "NoPart"=some (.ref e.HW)):Mx P w K mg base 1 T.hold "part_of" dY (kq T e):=by
 refine F.w_ B8 fun cdv A outer s H vs Q E hr h=>?_
 obtain ⟨⟨n,ρ,A,st,x,rfl,hA,nd,q2,k⟩⟩:=h
 refine ⟨_,(@cU.h _ _ _ (aj (b_ (ve (yc (cW hr) (qv 1) (aI K (qv 0)))) (av (jF yr (by rfl) Ah)) bB)
  (av (bu (dg (cW hr) (aI K (qv 0)) (qv 1)))))),?_⟩
 refine ⟨_,Z,_,Z,A.a,T.hold,A.dx,_,_,Z,hA.oa,X.cH,X.hab,Z,A.ab,_,Z,dG.k (k:=Sum.inr x) hA.dN,_,Z,?_⟩
 by_cases hx:∃p∈st.ak,p.nm=x
 . obtain ⟨p,hp,rfl⟩:=hx
   obtain ⟨i,hi,ep⟩:=List.mem_iff_getElem.mp hp
   have uU:st.ak[i]?=some p:=by rw [bq hi,ep]
   obtain ⟨qq,eq,_⟩:=hA.find uU
   have hv:=rE nd uU eq
   rw [hv]
   refine iP ?_
   exact ⟨_,Z,A.a,T.hold,A.dx,_,_,Z,hA.oa,X.cH,X.hab,Z,_,Z,A.ab,_,Z,hv▸dG.k (k:=Sum.inr p.nm) hA.dN,k i p qq rfl uU eq⟩
 . have hn:∀p∈st.ak,p.nm≠x:=fun p hp z=>hx ⟨p,hp,z⟩
   rw [r_ hn]
   exact lu fun y=>q2 hn y H (aQ.refl _)
abbrev lC:Stmt:=inClass (top 21) 21
abbrev iG:List Str:=["self","name"]
abbrev Ai:List Str:=iG
theorem zg:aO Ai iG (aC lC):=dO
theorem yt {T:TC} {e:Ec} (F:gh K T.hold "check_new" "Hold.check_new" lC f fd) (X:Txt K T) (mY:Dn P w K mg base 2 "is_name" qC vP) (wL:f_ K e.bad) (yu:mg "BadName"=some (.ref e.bad)) (Aj:f_ K e.twice) (De:mg "Twice"=some (.ref e.twice)):Mx P w K mg base 3 T.hold "check_new" iG (uH T e):=by
 refine F.w_ zg fun cdv A outer s H vs Q E hr h=>?_
 obtain ⟨⟨n,ρ,A,st,x,rfl,h,hx,q2,q⟩⟩:=h
 refine ⟨_,(@cU.h _ _ _ (aj (b_ (Ib (yb (bQ mY hr (af (qv 1) aq)))) (av (jF wL (by rfl) yu)) bB)
  (av (b_ (ve (Ia (cW hr) (qv 1) (aI K (qv 0)))) (av (jF Aj (by rfl) De)) bB)))),?_⟩
 refine ⟨_,Z,Bj (cs:=x.cps.toList) hx fun H1 g1=>⟨_,Z,?_⟩⟩
 cases hn:isName x.cps.toList with
 | false=>exact lu fun y=>q2 0 (by unfold newR isNm;rw [hn];rfl) y H1 g1
 | true=>
   refine iP ?_
   have h1:=h.mono g1
   refine ⟨_,Z,_,Z,A.a,T.hold,A.dx,_,_,Z,h1.oa,X.cH,X.hnm,Z,A.nm,_,Z,dG.k (k:=Sum.inr x) h1.qu,_,Z,?_⟩
   by_cases hm:x∈st.nms
   . rw [Ht hm]
     exact lu fun y=>q2 1 (by unfold newR isNm;rw [hn,aB rfl,aB hm]) y H1 g1
   . rw [xS hm]
     exact iP (q (x9 hn hm) H1 g1)
abbrev qP:Stmt:=inClass (top 21) 13
abbrev iH:List Str:=["self"]
abbrev IF:List Str:=iH
theorem EU:aO IF iH (aC qP):=dO
theorem EV {T:TC} (F:gh K T.hold "whole" "Hold.whole" qP f fd) (X:Txt K T) (fJ:mg "sum"=none):Mn P w K mg base 1 T.hold "whole" iH (u_ T):=by
 refine F.oA EU fun cdv A outer s H vs Q E hr h=>?_
 obtain ⟨⟨n,ρ,A,st,rfl,h,hl,q⟩⟩:=h
 refine ⟨_,(@cU.h _ _ _ (av (bu (bF (mS K rfl) (by rfl) fJ xo (af (H_ (gE ["part"] [none] rfl (yV (aI K (qv 0))) (fun _ _ _ _=>(aV (i:=0) (show List.Nodup (["part"] :List Str) from by decide +kernel))) (fun _ _ _ _=>(aI K (qv 0))) rfl (by rfl))) aq))))),?_⟩
 refine ⟨A.ab,_,h.dN,fun o=>?_⟩
 refine ⟨_,Z,A.a,T.hold,A.dx,_,_,Z,d8 h.dN h.oa (fun k z=>by cases z),X.cH,X.hab,Z,A.ab,o,_,Z,ai,fun acc hacc=>?_⟩
 have el:=u9 h.ql
 refine iW (n:=st.ak.length) 0 (fun i out H1=>aQ (upd H A.ab (.fB o (.dK (cg st.ak A.qs)))) H1/\out=((st.ak.take i).map (·.wo)).map V.int) (by omega) ⟨aF hacc _,Z⟩ (fun i out H1 hi _ hp=>⟨hp.1 _ _ ai,by rw [el];exact hi⟩) (fun out H1 _ hp=>⟨hp.1 _ _ ai,by rw [el];exact aN _⟩) ?_ ?_
 . rintro i x out H1 H2 hi fR ha ⟨g,e⟩ ⟨rfl,kv,hkv,rfl⟩
   have ep:=bq hi
   obtain ⟨qq,eq,h1,h2,_⟩:=h.find ep
   rw [u7 ep eq] at hkv
   cases hkv
   have hq:=g _ _ (d8 h.dN h1 (fun k z=>by cases z))
   refine ⟨_,Z,qq.1,T.part,qq.2.1,_,_,Z,hq,X.cP,X.t8,Z,ha,g.cJ hacc _,?_⟩
   rw [take_snoc ep,e,bL,bL]
   rfl
 rintro out H1 fR ha ⟨g,e⟩
 rw [dQ] at e
 have hz:=g _ _ (ai (H:=H) (a:=A.ab) (o:= .fB o (.dK (cg st.ak A.qs))))
 have na:acc≠A.ab:=fun e=>by rw [e,hz] at ha;cases ha
 exact ⟨hz,acc,st.ak.map (fun p:Pt=>p.wo),Z,aH.of (by rw [ay na,ha,e]),q _ (se h.dN g)⟩
abbrev jr:Stmt:=inClass (top 21) 25
abbrev fU:List Str:=["self","tops"]
abbrev wM:List Str:=fU
theorem vh:aO wM fU (aC jr):=dO
theorem vj {T:TC} (F:gh K T.hold "beyond_common" "Hold.beyond_common" jr f fd) (X:Txt K T) (gR:mg "zip"=none):Mn P w K mg base 1 T.hold "beyond_common" fU (Nm T K):=by
 refine F.oA vh fun cdv A outer s H vs Q E hr h=>?_
 obtain ⟨⟨n,ρ,A,st,l,tops,rfl,h,hS,htl,hle,q⟩⟩:=h
 refine ⟨_,(@cU.h _ _ _ (av (bu (gE ["top","common"] [none,none] rfl (pB K (by rfl) gR (af (qv 1) (af (aI K (qv 0)) aq))) (fun _ _ _ _=>(g_ K (n:=2) rfl (cj (aV (i:=0) (show List.Nodup (["top","common"] :List Str) from by decide +kernel)) (cj (aV (i:=1) (show List.Nodup (["top","common"] :List Str) from by decide +kernel)) gY)))) (fun _ _ _ _=>(aG ki (qv 0) (qv 1))) rfl (by rfl))))),?_⟩
 refine ⟨_,Z,_,Z,A.a,T.hold,A.dx,_,_,Z,h.oa,X.cH,X.xP,Z,_,_,_,_,_,_,Z, .lst hS, .lst (aH.of h.iN),fun acc hacc=>?_⟩
 refine xM (K:=K) (n:=tops.length) [0,1] (fun i out H1=>aQ H H1/\out=(List.zipWith (fun t c=>t-c) (tops.take i) (st.br.take i)).map V.int) (by decide) (by omega) ⟨aF hacc _,Z⟩ (fun i out H1 hi _ hp=>⟨hp.1.seq hS,hp.1.seq (aH.of h.iN),by rw [aD];exact hi,by rw [aD];omega⟩)
  (fun out H1 _ hp=>⟨hp.1.seq hS,hp.1.seq (aH.of h.iN), .inl (by rw [aD];exact aN _)⟩) ?_ ?_
 . rintro i x out H1 H2 hi fR ha ⟨g,e⟩ ⟨p,x1,y1,hp,rfl,rfl,e1,e2⟩
   obtain ⟨t,rfl,et⟩:=fE e1
   obtain ⟨c,rfl,ec⟩:=fE e2
   have g1:=aF hp (.tup [.int t, .int c])
   refine ⟨p,_,Z,cQ.of ai,Z,_,Z,_,Z,_,_,Z,Z,g1 _ _ ha,(g.trans g1).cJ hacc _,?_⟩
   rw [qw _ et ec,e,bL]
   rfl
 rintro out H1 fR ha ⟨g,e⟩
 rw [dQ,htl,dQ] at e
 exact q acc H1 g hacc (by rw [ha,e];rfl)
abbrev nR:Stmt:=inClass (top 21) 24
abbrev ia:List Str:=["self","part"]
abbrev Df:List Str:=ia
theorem B9:aO Df ia (aC nR):=dO
theorem B_ {T:TC} (F:gh K T.hold "tops_of" "Hold.tops_of" nR f fd) (X:Txt K T) (gR:mg "zip"=none):Mn P w K mg base 1 T.hold "tops_of" ia (yU T):=by
 refine F.oA B9 fun cdv A outer s H vs Q E hr h=>?_
 obtain ⟨⟨n,ρ,A,st,ip,pt,qq,rfl,h,wf,ep,eq,q⟩⟩:=h
 obtain ⟨h1,h2,_⟩:=h.opt ip pt qq ep eq
 have d9:=bO ep
 refine ⟨_,(@cU.h _ _ _ (av (bu (gE ["own","common","part"] [none,none,some 1] rfl (pB K (by rfl) gR (af (aI K (qv 1)) (af (aI K (qv 0)) aq))) (fun _ _ _ _=>(g_ K (n:=2) rfl (cj (aV (i:=0) (show List.Nodup (["own","common","part"] :List Str) from by decide +kernel)) (cj (aV (i:=1) (show List.Nodup (["own","common","part"] :List Str) from by decide +kernel)) gY)))) (fun _ _ _ _=>(aG bY (aG gW (aI K (qv 2)) (qv 0)) (qv 1))) rfl (by rfl))))),?_⟩
 have XA:pt.row.length=st.br.length:=by rw [wf.rows pt d9,wf.fC]
 have hcl:st.br.length<=100:=by rw [wf.fC];exact wf.jD
 refine ⟨_,Z,qq.1,T.part,qq.2.1,_,_,Z,h1,X.cP,X.Ho,Z,_,Z,A.a,T.hold,A.dx,_,_,Z,h.oa,X.cH,X.xP,Z,_,_,_,_,_,_,Z, .lst (aH.of h2), .lst (aH.of h.iN),fun acc hacc=>?_⟩
 refine xM (K:=K) (n:=pt.row.length) [0,1] (fun i out H1=>aQ H H1/\out=(List.zipWith (fun r c=>pt.sc*r+c) (pt.row.take i) (st.br.take i)).map V.int) (by decide) (by omega) ⟨aF hacc _,Z⟩ (fun i out H1 hi _ hp=>⟨hp.1.seq (aH.of h2),hp.1.seq (aH.of h.iN),by rw [aD];exact hi,by rw [aD];omega⟩)
  (fun out H1 _ hp=>⟨hp.1.seq (aH.of h2),hp.1.seq (aH.of h.iN), .inl (by rw [aD];exact aN _)⟩) ?_ ?_
 . rintro i x out H1 H2 hi fR ha ⟨g,e⟩ ⟨p,x1,y1,hp,rfl,rfl,e1,e2⟩
   obtain ⟨t,rfl,et⟩:=fE e1
   obtain ⟨c,rfl,ec⟩:=fE e2
   have g1:=aF hp (.tup [.int t, .int c])
   have s1:Jm.Sz 8000 pt.sc:=Jm.Sz.kj (by have:=wf.nD pt d9;have:=wf.dW;omega) (wf.nD pt d9).2 wf.big
   have s2:Jm.Sz 8000 t:=Jm.Sz.kj (wf.lz pt d9 t (bO et)).1 (wf.lz pt d9 t (bO et)).2 wf.big
   refine ⟨p,_,Z,cQ.of ai,Z,_,Z,qq.1,T.part,qq.2.1,_,_,Z,(g.trans g1) _ _ h1,X.cP,X.D8,Z,_,Z,_,_,Z,Z,gC s1 s2,_,Z,_,_,Z,Z,g1 _ _ ha,(g.trans g1).cJ hacc _,?_⟩
   rw [qw _ et ec,e,bL]
   rfl
 rintro out H1 fR ha ⟨g,e⟩
 rw [dQ,XA,dQ] at e
 exact q acc H1 g hacc (by rw [ha,e];rfl)
abbrev sP:Stmt:=inClass (top 21) 22
abbrev lM:List Str:=["self","part"]
abbrev Ke:List Str:=lM
theorem IG:aO Ke lM (aC sP):=dO
theorem II {T:TC} (F:gh K T.hold "stow" "Hold.stow" sP f fd) (X:Txt K T):Mn P w K mg base 1 T.hold "stow" lM (Hv T):=by
 refine F.oA IG fun cdv A outer s H vs Q E hr h=>?_
 obtain ⟨⟨n,ρ,A,st,qq,p,rfl,hh,h1,h2,c1,c2,hn,wf',q⟩⟩:=h
 have h:=hh.h
 refine ⟨_,(@cU.h _ _ _ (aj (rL (cW hr) (aI K (qv 0)) (aI K (qv 1)) (qv 1) rfl)
  (av (rL (cW hr) (aI K (qv 0)) (aI K (qv 1)) yW rfl)))),?_⟩
 have yv:∀x∈st.ak,x.nm≠p.nm:=fun x hx e=>hn (by rw [<-e];exact hh.wf.sub x hx)
 have lab:(cg st.ak A.qs).length<sizeLine:=by rw [u9 h.ql];exact dH hh.wf.mj
 refine ⟨_,Z,_,Z,A.a,T.hold,A.dx,_,_,Z,h.oa,X.cH,X.hab,Z,_,Z,qq.1,T.part,qq.2.1,_,_,Z,h1,X.cP,X.S0,Z,A.ab,_,Z,uC.k (k:=Sum.inr p.nm) h.dN lab,?_⟩
 rw [l_ _ (r_ yv),<-RB h.ql p qq]
 have k1:qq.1≠qq.2.2:=gO h1 h2 (by intro z;cases z)
 have f1:Kp n ρ (cN (cN ρ qq.1 (n,20,p.nm)) qq.2.2 (n,21,p.nm)) H H (fun _=>true):=⟨fun _ _ e=>e,fun b t x o _ c e=>⟨e,by
  rw [cC (fun z=>by rw [z,c2] at c;cases c),cC (fun z=>by rw [z,c1] at c;cases c)];exact c⟩⟩
 have hc:=h.same f1
 have g1:Gh (cN (cN ρ qq.1 (n,20,p.nm)) qq.2.2 (n,21,p.nm)) H:=(hh.g.color h1 rfl).color h2 rfl
 have XC:Hu n qq.1 qq.2.2 ρ H (cN (cN ρ qq.1 (n,20,p.nm)) qq.2.2 (n,21,p.nm)) H:=fun b o e k n1 n2=>⟨e,by rw [cC n2,cC n1]⟩
 have hs:=hc.Hl g1 (st.ak++[p]) (A.qs++[qq]) (by rw [dw,dw,h.ql];rfl) (fun i x y ex ey=>by
  by_cases hi:i<st.ak.length
  . rw [Gf hi] at ex
    rw [Gf (by rw [h.ql];exact hi)] at ey
    exact hc.opt i x y ex ey
  . rw [Lg (by omega)] at ex
    rw [Lg (by rw [h.ql];omega),h.ql] at ey
    have e0:i-st.ak.length=0:=by
     rcases Nat.eq_zero_or_pos (i-st.ak.length) with z|z
     . exact z
     . rw [rN (by show 1<=_;exact z)] at ex;cases ex
    rw [e0] at ex ey
    cases ex;cases ey
    exact ⟨h1,h2,by rw [cC k1];exact di,di⟩)
 have g2:=g1.wr (a:=A.ab) (o:= .dK (cg (st.ak++[p]) (A.qs++[qq]))) rfl
 have XD:Fr n _ H _ (upd H A.ab (.dK (cg (st.ak++[p]) (A.qs++[qq])))):=Fr.write hc.fK
 have Bu:upd H A.ab (.dK (cg (st.ak++[p]) (A.qs++[qq]))) qq.1=some (.ins T.part qq.2.1 (cO p qq.2.2)):=by rw [ay (gO h1 h.dN (by intro z;cases z))];exact h1
 refine ⟨_,Z,A.a,T.hold,A.dx,_,_,Z,hs.oa,X.cH,X.hnm,Z,_,Z,qq.1,T.part,qq.2.1,_,_,Z,Bu,X.cP,X.S0,Z,A.nm,_,Z,uC.k (k:=Sum.inr p.nm) hs.qu (by unfold xN;rw [aD];exact dH hh.wf.vU),?_⟩
 rw [l_ _ (xS hn),show xN st.nms++[(Sum.inr p.nm,V.bl true)]=xN (st.nms++[p.nm]) from by unfold xN;rw [bL];rfl]
 have hs2:=hs.WK g2 (st.nms++[p.nm])
 exact q _ _ _ ⟨g2.wr rfl,hs2,wf'⟩ rfl (XC.trans (XD.trans (Fr.write hs.iy)))
abbrev sQ:Stmt:=inClass (top 21) 1
abbrev lN:List Str:=["self","owner"]
abbrev Kf:List Str:=lN.append ["part"]
theorem yw:aO Kf lN (aC sQ):=dO
theorem IJ {T:TC} (F:gh K T.hold "sign" "Hold.sign" sQ f fd) (X:Txt K T) (mY:Dn P w K mg base 2 "is_name" qC vP) (bZ:mg "len"=none):Mn P w K mg base 3 T.hold "sign" lN (CU T):=by
 refine F.oA yw fun cdv A outer s H vs Q E hr h=>?_
 obtain ⟨⟨n,ρ,A,st,o,rfl,hh,hx,hn,hl,q⟩⟩:=h
 refine ⟨_,(@cU.h _ _ _ (aj (b_ (Ib (yb (bQ mY hr (af (qv 1) aq)))) (av pD) bB)
  (aj (b_ (ve (Ia (cW hr) (qv 1) (aI K (qv 0)))) (av pD) bB)
  (aj (rL (cW hr) (aI K (qv 0)) (qv 1) (bF tY (by rfl) bZ fG (af (aI K (qv 0)) aq)) rfl)
  (aj (cA (kU oO oM oN ef (aI K (qv 0)) (af ah aq)))
  (aj (cA (kU oO oM oN ef (aI K (qv 0)) (af ah aq)))
  (av (vf (fT gi rfl (yV (aI K (qv 0))) (aV (i:=2) yw.nd) (av (cA (kU oO oM oN ef (aI K (qv 2)) (af ah aq))))))))))))),?_⟩
 refine ⟨_,Z,Bj (cs:=o.cps.toList) (Hy hx) fun H1 g1=>⟨_,Z,?_⟩⟩
 rw [show isName o.cps.toList=true from hx]
 refine iP ?_
 have ju:=hh.mono g1
 have h1:=ju.h
 have F1:Fr n ρ H ρ H1:=Fr.of_same g1
 refine ⟨_,Z,_,Z,A.a,T.hold,A.dx,_,_,Z,h1.oa,X.cH,X.hpl,Z,A.pl,_,Z,dG.k (k:=Sum.inr o) h1.gT,_,Z,?_⟩
 rw [nE hn]
 refine iP ?_
 have zJ:=nF st.own 0
 refine ⟨_,Z,A.a,T.hold,A.dx,_,_,Z,h1.oa,X.cH,X.hpl,Z,A.pl,_,Z,h1.gT,_,Z,A.a,T.hold,A.dx,_,_,Z,h1.oa,X.cH,X.hpl,Z,_,Z,A.pl,_,Z,uC.k (k:=Sum.inr o) h1.gT (dH (by rw [zJ];omega)),?_⟩
 rw [l_ _ (nE hn),zJ,show fj 0 st.own++[(Sum.inr o,V.int (st.own.length:Int))]=fj 0 (st.own++[o]) from by rw [Hr,Nat.zero_add]]
 have h2:=h1.WI ju.g (st.own++[o])
 have G2:=ju.g.wr (a:=A.pl) (o:= .dK (fj 0 (st.own++[o]))) rfl
 have F2:=F1.trans (Fr.write (o:= .dK (fj 0 (st.own++[o]))) h1.gU)
 generalize upd H1 A.pl (.dK (fj 0 (st.own++[o])))=H2 at *
 have lcm:(st.br.map V.int).length<sizeLine:=by rw [aD,hh.wf.fC];exact dH (by omega)
 refine ⟨_,Z,A.a,T.hold,A.dx,_,_,Z,h2.oa,X.cH,X.xP,Z, .inl ⟨Z,_,aH.of h2.iN⟩,A.cm,_,_,Z,Z,h2.iN,lcm,?_⟩
 rw [show st.br.map V.int++[V.int 0]=(st.br++[0]).map V.int from by rw [bL];rfl]
 have h3:=h2.WL G2 (st.br++[0])
 have G3:=G2.wr (a:=A.cm) (o:= .lst ((st.br++[0]).map V.int)) rfl
 have F3:=F2.trans (Fr.write (o:= .lst ((st.br++[0]).map V.int)) h2.iX)
 generalize upd H2 A.cm (.lst ((st.br++[0]).map V.int))=H3 at *
 have lpu:(st.bH.map V.int).length<sizeLine:=by rw [aD,hh.wf.jC];exact dH (by omega)
 refine ⟨_,Z,A.a,T.hold,A.dx,_,_,Z,h3.oa,X.cH,X.xQ,Z, .inl ⟨Z,_,aH.of h3.jL⟩,A.pu,_,_,Z,Z,h3.jL,lpu,?_⟩
 rw [show st.bH.map V.int++[V.int 0]=(st.bH++[0]).map V.int from by rw [bL];rfl]
 have h4:=h3.WM G3 (st.bH++[0])
 have G4:=G3.wr (a:=A.pu) (o:= .lst ((st.bH++[0]).map V.int)) rfl
 have F4:=F3.trans (Fr.write (o:= .lst ((st.bH++[0]).map V.int)) h3.cpu)
 generalize upd H3 A.pu (.lst ((st.bH++[0]).map V.int))=H4 at *
 clear h1 h2 h3 G2 G3 F2 F3 ju
 have hpl:=hh.wf.mj
 refine ⟨A.ab,_,h4.dN,fun ob=>?_⟩
 refine ⟨_,Z,A.a,T.hold,A.dx,_,_,Z,d8 h4.dN h4.oa (fun k z=>by cases z),X.cH,X.hab,Z,A.ab,ob,_,Z,ai,?_⟩
 have el:=u9 h4.ql
 have el0:(cg st.ak A.qs).length=st.ak.length:=el
 refine rY (n:=st.ak.length) (fun i σ H'=>(∃s2,σ=[some (.ref A.a),some (.str o),s2])/\mT H' A.ab ob (cg st.ak A.qs)/\∃H5,H'=upd H5 A.ab (.fB ob (.dK (cg st.ak A.qs)))/\Gh ρ H5/\Fr n ρ H ρ H5/\
   aL T n ρ A H5 { st with own:=st.own++[o],br:=st.br++[0],bH:=st.bH++[0],ak:=(st.ak.take i).map (fun p=>{ p with row:=p.row++[0] })++st.ak.drop i })
  ⟨⟨_,Z⟩,ai,H4,Z,G4,F4,h4⟩ (fun i σ H' hi hp=>⟨hp.2.1,by rw [el0];exact hi⟩) (fun σ H' hp=>⟨hp.2.1,by rw [el0];exact aN _⟩) ?_ ?_
 . rintro i x σ H' BB hi ⟨⟨s2,rfl⟩,hz,H5,rfl,G5,F5,h5⟩ ⟨rfl,kv,hkv,rfl⟩
   have ep:=bq hi
   have ep5:=HC (fun p:Pt=>{ p with row:=p.row++[0] }) ep
   obtain ⟨qq,eq,k1,k2,k3,k4⟩:=h5.find ep5
   rw [u7 ep eq] at hkv
   cases hkv
   have Tj:=o7 (fun p:Pt=>{ p with row:=p.row++[0] }) (fun p:Pt=>p.nm) (fun _=>rfl) st.ak i
   have nd5:(((st.ak.take i).map (fun p:Pt=>{ p with row:=p.row++[0] })++st.ak.drop i).map (fun p:Pt=>p.nm)).Nodup:=by rw [Tj];exact hh.wf.c6
   have z1:=d8 (o:=ob) h5.dN k1 (fun k z=>by cases z)
   have z2:=d8 (o:=ob) h5.dN k2 (fun k z=>by cases z)
   rw [show cg ({ st with own:=st.own++[o],br:=st.br++[0],bH:=st.bH++[0],ak:=(st.ak.take i).map (fun p:Pt=>{ p with row:=p.row++[0] })++st.ak.drop i }:HS).ak A.qs=cg st.ak A.qs from mU Tj] at z1 z2
   have hrl:((st.ak[i]).row.map V.int).length<sizeLine:=by rw [aD,hh.wf.rows _ (zO hi)];exact dH (by omega)
   refine ⟨_,Z,qq.1,T.part,qq.2.1,_,_,Z,z1,X.cP,X.Ho,Z, .inl ⟨Z,_,aH.of z2⟩,qq.2.2,_,_,Z,Z,z2,hrl,?_⟩
   have na:A.ab≠qq.2.2:=(gO k2 h5.dN (by intro z;cases z)).symm
   rw [show (st.ak[i]).row.map V.int++[V.int 0]=((st.ak[i]).row++[0]).map V.int from by rw [bL];rfl]
   have h6:=h5.UB G5 ((st.ak[i]).row++[0]) ep5 eq nd5
   rw [show ({ st with own:=st.own++[o],br:=st.br++[0],bH:=st.bH++[0],ak:=(st.ak.take i).map (fun p:Pt=>{ p with row:=p.row++[0] })++st.ak.drop i }:HS).ak.set i { st.ak[i] with row:=(st.ak[i]).row++[0] }=_ from HD (fun p:Pt=>{ p with row:=p.row++[0] }) ep] at h6
   exact ⟨⟨_,Z⟩,(ay na).trans hz,_,jE na,G5.wr rfl,F5.trans (Fr.write k4),h6⟩
 . rintro σ H' ⟨_,hz,H5,rfl,G5,F5,h5⟩
   have Tj:=o7 (fun p:Pt=>{ p with row:=p.row++[0] }) (fun p:Pt=>p.nm) (fun _=>rfl) st.ak st.ak.length
   have e5:cg ({ st with own:=st.own++[o],br:=st.br++[0],bH:=st.bH++[0],ak:=(st.ak.take st.ak.length).map (fun p:Pt=>{ p with row:=p.row++[0] })++st.ak.drop st.ak.length }:HS).ak A.qs=cg st.ak A.qs:=mU Tj
   have h5':=h5.dN
   rw [e5] at h5'
   refine ⟨hz,?_⟩
   rw [mO,vV h5']
   have es:({ st with own:=st.own++[o],br:=st.br++[0],bH:=st.bH++[0],ak:=(st.ak.take st.ak.length).map (fun p:Pt=>{ p with row:=p.row++[0] })++st.ak.drop st.ak.length }:HS)=f7 st o:=by
    unfold f7
    rw [dQ,List.drop_length,yH]
   rw [es] at h5
   exact q ρ A H5 ⟨G5,h5,CV hh.wf hn hl⟩ rfl F5
abbrev sR:Stmt:=inClass (top 21) 2
abbrev p7:List Str:=["self","part","owner","worth","weight"]
abbrev Kg:List Str:=p7.append ["place","tops"]
theorem sS:aO Kg p7 (aC sR):=dO
theorem IK {T:TC} (F:gh K T.hold "load" "Hold.load" sR f fd) (X:Txt K T) (mH:Mn P w K mg base 3 T.hold "check_new" iG (Bw T)) (b8:Mn P w K mg base 1 T.hold "place_of" dF (rF T))
  (eW:Mn P w K mg base 1 T.hold "beyond_common" fU (Nm T K)) (jQ:Mn P w K mg base 1 T.hold "stow" lM (Hv T)) (vm:Cn P w K mg base 1 "Part" T.part ["self","name","owner","worth","weight","scale","row"] (CT T K)) (bZ:mg "len"=none):Mn P w K mg base 4 T.hold "load" p7 (Pd T):=by
 refine F.oA sS fun cdv A outer s H vs Q E hr h=>?_
 obtain ⟨⟨n,ρ,A,st,x,o,wo,we,rfl,hh,hx,hn,ho,h4,h5,h6,h7,q⟩⟩:=h
 refine ⟨_,(@cU.h _ _ _ (aj (cA (bR mH hr (qv 0) (af (qv 1) aq)))
  (aj (aS (i:=5) sS.nd (bR b8 hr (qv 0) (af (qv 2) aq)))
  (aj (b_ (jO (bW.pt (BI (aP nh (qv 3) ah (aW _)) (yd (aP nh (qv 4) ah (aW _)))))) (av pD) bB)
  (aj (aS (i:=6) sS.nd (aG OF (i7 (af ah aq)) (bF tY (by rfl) bZ fG (af (aI K (qv 0)) aq))))
  (aj (lJ (aI K (aI K (qv 0))) (lK (qv 6) (qv 5) set_list))
  (av (cA (bR jQ hr (qv 0) (af (Th vm hr (af (qv 1) (af (qv 2) (af (qv 3) (af (qv 4) (af ah (af (bR eW hr (qv 0) (af (qv 6) aq)) aq))))))) aq)))))))))),?_⟩
 refine ⟨_,Z,A.a,A.dx,_,Z,hh.h.oa,Z,_,Z,⟨⟨n,ρ,A,st,x,Z,hh.h,hx,hn,fun H1 g1=>?_⟩⟩⟩
 have ju:=hh.mono g1
 have F1:Fr n ρ H ρ H1:=Fr.of_same g1
 clear hh
 refine ⟨_,Z,A.a,A.dx,_,Z,ju.h.oa,Z,_,Z,⟨⟨n,ρ,A,st,o,Z,ju.h,ho,?_⟩⟩⟩
 refine ⟨false,⟨_,Z,_,_,Z,Z,_,Z,aK (fun c=>absurd (aX c) (by omega)) fun _=>⟨_,Z,_,_,Z,Z,_,Z,dR (by omega),Z⟩⟩,iP ?_⟩
 refine ⟨(iF 1),fun p0 hp0=>?_⟩
 have g2:=aF hp0 (.lst [.int 0])
 have mZ:=ju.mono g2
 have F2:=F1.trans (Fr.of_same (ρ:=ρ) g2)
 have R9:upd H1 p0 (.lst [.int 0]) p0=some (.lst [.int 0]):=ai
 generalize upd H1 p0 (.lst [.int 0])=H2 at *
 clear ju F1
 have zJ:=nF st.own 0
 have fR:=mZ.wf.jD
 refine ⟨_,Z,A.a,T.hold,A.dx,_,_,Z,mZ.h.oa,X.cH,X.hpl,Z,A.pl,_,Z,mZ.h.gT,p0,_,_,Z,Z,R9,by omega,by rw [zJ];omega,by rw [zJ];show 1*_<=_;rw [rP,Nat.one_mul];exact small (by omega),fun p1 hp1=>?_⟩
 rw [zJ,rP,show (List.replicate st.own.length [V.int 0]).flatten=(List.replicate st.own.length (0:Int)).map V.int from by rw [List.map_replicate,List.flatten_replicate_singleton]]
 have g3:=aF hp1 (.lst ((List.replicate st.own.length (0:Int)).map V.int))
 have nS:=mZ.mono g3
 have F3:=F2.trans (Fr.of_same (ρ:=ρ) g3)
 have n1:H p1=none:=(g1.trans g2).free hp1
 have c1:ρ p1=none:=mZ.g.none hp1
 have yx:upd H2 p1 (.lst ((List.replicate st.own.length (0:Int)).map V.int)) p1=_:=ai
 generalize upd H2 p1 (.lst ((List.replicate st.own.length (0:Int)).map V.int))=H3 at *
 have hi:=List.idxOf_lt_length_iff.mpr ho
 refine ⟨_,Z,A.a,T.hold,A.dx,_,_,Z,nS.h.oa,X.cH,X.r6,Z,A.bt,T.bot,A.db,_,_,Z,nS.h.iz,X.cB,X.Hq,Z,_,Z,_,Z,p1,_,_,st.own.idxOf o,Z,Z,yx,by rw [aD,m5];exact u0 hi,?_⟩
 rw [show ((List.replicate st.own.length (0:Int)).map V.int).set (st.own.idxOf o) (V.int st.prod)=((List.replicate st.own.length (0:Int)).set (st.own.idxOf o) st.prod).map V.int from by rw [rA]]
 have qD:=nS.By (o:= .lst (((List.replicate st.own.length (0:Int)).set (st.own.idxOf o) st.prod).map V.int)) c1 yx rfl rfl
 have F4:=F3.new (o:= .lst (((List.replicate st.own.length (0:Int)).set (st.own.idxOf o) st.prod).map V.int)) n1
 have R_:upd H3 p1 (.lst (((List.replicate st.own.length (0:Int)).set (st.own.idxOf o) st.prod).map V.int)) p1=_:=ai
 have s4:aQ H (upd H3 p1 (.lst (((List.replicate st.own.length (0:Int)).set (st.own.idxOf o) st.prod).map V.int))):=((g1.trans g2).trans g3).cJ n1 _
 generalize upd H3 p1 (.lst (((List.replicate st.own.length (0:Int)).set (st.own.idxOf o) st.prod).map V.int))=H4 at *
 clear mZ nS F2 F3
 refine ⟨_,Z,A.a,A.dx,_,Z,qD.h.oa,Z,_,Z,_,Z,_,Z,_,Z,_,Z,A.a,A.dx,_,Z,qD.h.oa,Z,_,Z,⟨⟨n,ρ,A,st,p1,_,Z,qD.h,aH.of R_,by rw [gK,m5,qD.wf.fC],by rw [gK,m5];omega,fun r H5 g5 hr5 Sa=>?_⟩⟩⟩
 intro y dy hy hdy hyd
 have XE:upd (upd H5 dy (.own y)) y (.ins T.part dy []) r=some (.lst ((ko st ((List.replicate st.own.length 0).set (st.own.idxOf o) st.prod)).map V.int)):=by rw [ay (aE Sa hy),ay (aE Sa hdy)];exact Sa
 refine ⟨⟨y,dy,r,⟨x,o,wo,we,1,ko st ((List.replicate st.own.length 0).set (st.own.idxOf o) st.prod)⟩,Z,ai,aH.of XE,fun rr H6 hrr k6 XF Sb=>⟨Z,?_⟩⟩⟩
 have IL:H5 rr=none:=by
  have e1:rr≠y:=fun e=>by rw [e,ai] at hrr;cases hrr
  have e2:rr≠dy:=fun e=>by rw [e,ay hyd,ai] at hrr;cases hrr
  rw [ay e1,ay e2] at hrr;exact hrr
 have g6:aQ H5 H6:=fun b u e=>k6 b u (by rw [ay (aE e hy),ay (aE e hdy)];exact e) (aE e hy)
 have yy:=qD.mono g5
 have zK:=yy.mono g6
 have F6:=F4.trans (Fr.of_same (ρ:=ρ) (g5.trans g6))
 exact ⟨⟨n,ρ,A,st,(y,dy,rr),_,Z,zK,XF,Sb,yy.g.none hy,yy.g.none IL,hn,LI qD.wf hn h6 h7 ho h4 h5,fun ρ' A' H' a1 a2 a3=>q ρ' A' H' a1 a2 (a3.fr F6 ((s4.trans g5).free hy) ((s4.trans g5).free IL))⟩⟩
abbrev sU:Stmt:=inClass (top 21) 0
abbrev uK:List Str:=["self"]
abbrev Kh:List Str:=uK
theorem IM:aO Kh uK (aC sU):=dO
theorem IP {T:TC} (F:D7 K mg "Hold" T.hold "Hold.__init__" sU f fd) (X:Txt K T) (Ak:Cn P w K mg base 1 "Bottom" T.bot ["self"] (LF T)):Cn P w K mg base 3 "Hold" T.hold uK (LG T):=by
 refine F.oA IM fun cdv A outer s H vs Q E hr h=>?_
 obtain ⟨⟨p,dx,ρ,n,rfl,hp,g,hρ,q⟩⟩:=h
 refine ⟨_,(@cU.h _ _ _ (aj (c_ K (qv 0) pC)
  (aj (c_ K (qv 0) pC)
  (aj (c_ K (qv 0) (i7 aq))
  (aj (c_ K (qv 0) pC)
  (aj (c_ K (qv 0) (PF Ak hr))
  (aj (c_ K (qv 0) (i7 aq))
  (av (c_ K (qv 0) (i7 aq)))))))))),?_⟩
 have M0:iY p H ρ H ρ [] :=⟨(fun _ m=>absurd m (by simp)),fun b o e _=>⟨e,Z⟩,g,_,hp⟩
 intro pl hpl
 have M1:=(M0.new (o:= .dK []) (c:=(n,1,⟨#[]⟩)) hpl rfl)
 refine ⟨_,Z,p,T.hold,dx,_,Z,by rw [ay (aE hp hpl)];exact hp,X.cH,X.hpl,by show 0<1000;decide,?_⟩
 have M2:=M1.wr (u:= .ins T.hold dx (aT "places" (.ref pl) [])) rfl
 have hp2:upd (upd H pl (.dK [])) p (.ins T.hold dx (aT "places" (.ref pl) [])) p=_:=ai
 generalize upd (upd H pl (.dK [])) p (.ins T.hold dx (aT "places" (.ref pl) []))=H2 at *
 clear M0 M1
 intro ab hab
 have M3:=(M2.new (o:= .dK []) (c:=(n,2,⟨#[]⟩)) hab rfl)
 refine ⟨_,Z,p,T.hold,dx,_,Z,by rw [ay (aE hp2 hab)];exact hp2,X.cH,X.hab,by show 1<1000;decide,?_⟩
 have M4:=M3.wr (u:= .ins T.hold dx (aT "aboard" (.ref ab) (aT "places" (.ref pl) []))) rfl
 have hp4:upd (upd H2 ab (.dK [])) p (.ins T.hold dx (aT "aboard" (.ref ab) (aT "places" (.ref pl) []))) p=_:=ai
 generalize upd (upd H2 ab (.dK [])) p (.ins T.hold dx (aT "aboard" (.ref ab) (aT "places" (.ref pl) [])))=H4 at *
 clear M2 M3
 refine ⟨(iF 0),fun as has=>?_⟩
 have M5:=(M4.new (o:= .lst []) (c:=(n,3,⟨#[]⟩)) has rfl)
 refine ⟨_,Z,p,T.hold,dx,_,Z,by rw [ay (aE hp4 has)];exact hp4,X.cH,X.has,by show 2<1000;decide,?_⟩
 have M6:=M5.wr (u:= .ins T.hold dx (aT "ashore" (.ref as) (aT "aboard" (.ref ab) (aT "places" (.ref pl) [])))) rfl
 have Tn:upd (upd H4 as (.lst [])) p (.ins T.hold dx (aT "ashore" (.ref as) (aT "aboard" (.ref ab) (aT "places" (.ref pl) [])))) p=_:=ai
 generalize upd (upd H4 as (.lst [])) p (.ins T.hold dx (aT "ashore" (.ref as) (aT "aboard" (.ref ab) (aT "places" (.ref pl) []))))=H6 at *
 clear M4 M5
 intro nm hnm
 have M7:=(M6.new (o:= .dK []) (c:=(n,4,⟨#[]⟩)) hnm rfl)
 refine ⟨_,Z,p,T.hold,dx,_,Z,by rw [ay (aE Tn hnm)];exact Tn,X.cH,X.hnm,by show 3<1000;decide,?_⟩
 have M8:=M7.wr (u:= .ins T.hold dx (aT "names" (.ref nm) (aT "ashore" (.ref as) (aT "aboard" (.ref ab) (aT "places" (.ref pl) []))))) rfl
 have XG:upd (upd H6 nm (.dK [])) p (.ins T.hold dx (aT "names" (.ref nm) (aT "ashore" (.ref as) (aT "aboard" (.ref ab) (aT "places" (.ref pl) []))))) p=_:=ai
 generalize upd (upd H6 nm (.dK [])) p (.ins T.hold dx (aT "names" (.ref nm) (aT "ashore" (.ref as) (aT "aboard" (.ref ab) (aT "places" (.ref pl) [])))))=H8 at *
 clear M6 M7
 intro bt db r6 hdb hne
 refine ⟨⟨bt,db,Z,ai,fun sp kn H9 nq hkn hsk k9 XH XI XJ=>⟨Z,?_⟩⟩⟩
 have s9:aQ H8 H9:=fun b o e=>k9 b o (by rw [ay (aE e r6),ay (aE e hdb)];exact e) (aE e r6)
 have fr:∀{c:Addr},upd (upd H8 db (.own bt)) bt (.ins T.bot db []) c=none->H8 c=none:=fun {c} e=>by
  have e1:c≠bt:=fun z=>by rw [z,ai] at e;cases e
  have e2:c≠db:=fun z=>by rw [z,ay hne,ai] at e;cases e
  rw [ay e1,ay e2] at e;exact e
 have XM:=fr nq
 have XO:=fr hkn
 have M9:=M8.same s9
 have M10:=M9.add (c:=(n,5,⟨#[]⟩)) XH rfl M8 r6 (fun e he=>aE (M8.m e he).1 r6)
 have M11:=M10.add (c:=(n,8,⟨#[]⟩)) XI rfl M8 XM (fun e he=>by
  rcases c9.mp he with rfl|he
  . exact gO XH XI (by intro z;cases z)
  . exact aE (M8.m e he).1 XM)
 have M12:=M11.add (c:=(n,9,⟨#[]⟩)) XJ rfl M8 XO (fun e he=>by
  rcases c9.mp he with rfl|he
  . exact gO XI XJ (by intro z;cases z)
  rcases c9.mp he with rfl|he
  . exact gO XH XJ (by intro z;cases z)
  . exact aE (M8.m e he).1 XO)
 have hp9:=s9 _ _ XG
 refine ⟨_,Z,p,T.hold,dx,_,Z,hp9,X.cH,X.r6,by show 4<1000;decide,?_⟩
 have M13:=M12.wr (u:= .ins T.hold dx (aT "bottom" (.ref bt) (aT "names" (.ref nm) (aT "ashore" (.ref as) (aT "aboard" (.ref ab) (aT "places" (.ref pl) [])))))) rfl
 have yx:upd H9 p (.ins T.hold dx (aT "bottom" (.ref bt) (aT "names" (.ref nm) (aT "ashore" (.ref as) (aT "aboard" (.ref ab) (aT "places" (.ref pl) [])))))) p=_:=ai
 generalize upd H9 p (.ins T.hold dx (aT "bottom" (.ref bt) (aT "names" (.ref nm) (aT "ashore" (.ref as) (aT "aboard" (.ref ab) (aT "places" (.ref pl) []))))))=Mc at *
 clear M8 M9 M10 M11 M12
 refine ⟨(iF 0),fun cm xP=>?_⟩
 have M14:=(M13.new (o:= .lst []) (c:=(n,6,⟨#[]⟩)) xP rfl)
 refine ⟨_,Z,p,T.hold,dx,_,Z,by rw [ay (aE yx xP)];exact yx,X.cH,X.xP,by show 5<1000;decide,?_⟩
 have M15:=M14.wr (u:= .ins T.hold dx (aT "common" (.ref cm) (aT "bottom" (.ref bt) (aT "names" (.ref nm) (aT "ashore" (.ref as) (aT "aboard" (.ref ab) (aT "places" (.ref pl) []))))))) rfl
 have XQ:upd (upd Mc cm (.lst [])) p (.ins T.hold dx (aT "common" (.ref cm) (aT "bottom" (.ref bt) (aT "names" (.ref nm) (aT "ashore" (.ref as) (aT "aboard" (.ref ab) (aT "places" (.ref pl) []))))))) p=_:=ai
 generalize upd (upd Mc cm (.lst [])) p (.ins T.hold dx (aT "common" (.ref cm) (aT "bottom" (.ref bt) (aT "names" (.ref nm) (aT "ashore" (.ref as) (aT "aboard" (.ref ab) (aT "places" (.ref pl) [])))))))=Qh at *
 clear M13 M14
 refine ⟨(iF 0),fun pu xQ=>?_⟩
 have M16:=(M15.new (o:= .lst []) (c:=(n,7,⟨#[]⟩)) xQ rfl)
 refine ⟨_,Z,p,T.hold,dx,_,Z,by rw [ay (aE XQ xQ)];exact XQ,X.cH,X.xQ,by show 6<1000;decide,?_⟩
 have XR:=M16.wr (u:= .ins T.hold dx (aT "purses" (.ref pu) (aT "common" (.ref cm) (aT "bottom" (.ref bt) (aT "names" (.ref nm) (aT "ashore" (.ref as) (aT "aboard" (.ref ab) (aT "places" (.ref pl) [])))))))) rfl
 have XS:upd (upd Qh pu (.lst [])) p (.ins T.hold dx (aT "purses" (.ref pu) (aT "common" (.ref cm) (aT "bottom" (.ref bt) (aT "names" (.ref nm) (aT "ashore" (.ref as) (aT "aboard" (.ref ab) (aT "places" (.ref pl) [])))))))) p=_:=ai
 generalize upd (upd Qh pu (.lst [])) p (.ins T.hold dx (aT "purses" (.ref pu) (aT "common" (.ref cm) (aT "bottom" (.ref bt) (aT "names" (.ref nm) (aT "ashore" (.ref as) (aT "aboard" (.ref ab) (aT "places" (.ref pl) []))))))))=Qi at *
 clear M15 M16
 have m:=XR.m
 have yv:∀{a:Addr} {o:HO} {c:qt} {ρ2:eY},(Qi a=some o/\ρ2 a=some c/\a≠p)->Qi a=some o/\cN ρ2 p (n,0,⟨#[]⟩) a=some c:=fun h=>⟨h.1,by rw [cC h.2.2];exact h.2.1⟩
 have a1:=yv (m _ (.head _))
 have a2:=yv (m _ (.tail _ (.head _)))
 have a3:=yv (m _ (.tail _ (.tail _ (.head _))))
 have a4:=yv (m _ (.tail _ (.tail _ (.tail _ (.head _)))))
 have a5:=yv (m _ (.tail _ (.tail _ (.tail _ (.tail _ (.head _))))))
 have a6:=yv (m _ (.tail _ (.tail _ (.tail _ (.tail _ (.tail _ (.head _)))))))
 have a7:=yv (m _ (.tail _ (.tail _ (.tail _ (.tail _ (.tail _ (.tail _ (.head _))))))))
 have a8:=yv (m _ (.tail _ (.tail _ (.tail _ (.tail _ (.tail _ (.tail _ (.tail _ (.head _)))))))))
 have a9:=yv (m _ (.tail _ (.tail _ (.tail _ (.tail _ (.tail _ (.tail _ (.tail _ (.tail _ (.head _))))))))))
 refine q (cN _ p (n,0,⟨#[]⟩)) ⟨p,dx,pl,ab,as,nm,bt,db,cm,pu,sp,kn,[]⟩ Qi rfl ⟨XR.g.color XS rfl,⟨XS,di,a9.1,a9.2,a8.1,a8.2,⟨[],a7.1, .nil⟩,a7.2,a6.1,a6.2,a5.1,a5.2,a2.1,a2.2,a1.1,a1.2,a4.1,a4.2,⟨[],a3.1,(fun x hx=>absurd hx (by simp)),aN _,tT⟩,a3.2,Z,fun i x y ex=>by simp [hs0] at ex⟩,wf0⟩ (fun b o e hb=>?_)
 obtain ⟨x,y⟩:=XR.k b o e hb
 exact ⟨x,by rw [cC hb];exact y⟩
abbrev mJ:Stmt:=inClass (top 21) 27
abbrev j9:List Str:=["self","amounts"]
abbrev Ca:List Str:=j9.append ["lost","sums","name","amount","part","many"]
theorem eG:aO Ca j9 (aC mJ):=dO
theorem Al {T:TC} (F:gh K T.hold "given_up" "Hold.given_up" mJ f fd) (X:Txt K T) (fJ:mg "sum"=none) (gR:mg "zip"=none):Mn P w K mg base 1 T.hold "given_up" j9 (LL T):=by
 refine F.oA eG fun cdv A outer s H vs Q E hr h=>?_
 obtain ⟨⟨n,ρ,A,st,d,rs,rfl,h,wf,hd,cd,hle,uL,q⟩⟩:=h
 refine ⟨_,(@cU.h _ _ _ (aj (aS (i:=2) eG.nd (bF (D6 rfl) (by rfl) fJ xo (af (C0 (qv 1)) aq)))
  (aj (rJ (i:=3) ["common","lost"] [none,some 2] eG.nd rfl rfl rfl (dM K (aI K (qv 0))) (fun _ _ _ _=>(aV (i:=0) (show List.Nodup (["common","lost"] :List Str) from by decide +kernel))) (fun _ _ _ _=>(aG gW (qv 1) (qv 0))) rfl (by rfl) (by rfl))
  (aj (vf (fT gi rfl (z9 (qv 1)) (g_ K (n:=2) rfl (cj (aV (i:=4) eG.nd) (cj (aV (i:=5) eG.nd) gY))) (aj (aS (i:=6) eG.nd (dg (cW hr) (aI K (qv 0)) (qv 4)))
  (aj (aS (i:=7) eG.nd (aG gW (qv 5) (aI K (qv 6))))
  (av (rJ (i:=3) ["old","own","many"] [none,none,some 7] eG.nd rfl rfl rfl (pB K (by rfl) gR (af (qv 3) (af (aI K (qv 6)) aq))) (fun _ _ _ _=>(g_ K (n:=2) rfl (cj (aV (i:=0) (show List.Nodup (["old","own","many"] :List Str) from by decide +kernel)) (cj (aV (i:=1) (show List.Nodup (["old","own","many"] :List Str) from by decide +kernel)) gY)))) (fun _ _ _ _=>(aG bY (qv 0) (aG gW (qv 2) (qv 1)))) rfl (by rfl) (by rfl)))))))
  (av (bu (qv 3))))))),?_⟩
 have hcl:st.br.length<=100:=by rw [wf.fC];exact wf.jD
 have zl:Jm.Sz 1100 (bD rs):=by
  have:=Jm.OP (n:=60) (ws:=rs.map (·.2)) (fun m hm=>by obtain ⟨r,hr,rfl⟩:=bK.mp hm;exact (uL r hr).1)
  exact this.mono (by rw [aD];omega)
 have zc:∀c∈st.br,Jm.Sz 8000 c:=fun c hc=>Jm.Sz.kj (by have:=wf.mq c hc;have:=wf.dW;omega) (wf.mq c hc).2 wf.big
 refine ⟨_,Z,d,_,Z, .inl hd,fun v hv=>⟨v,d,_,rs.map (·.2),Z,ai, .inl (by rw [ay (aE hd hv)];exact hd),by unfold gu;rw [gy,gy];rfl,?_⟩⟩
 have g1:=aF hv (j0 v d)
 have hd1:=g1 _ _ hd
 have h1:=h.mono g1
 generalize upd H v (j0 v d)=H1 at *
 refine ⟨_,Z,A.a,T.hold,A.dx,_,_,Z,h1.oa,X.cH,X.xP,Z,A.cm,Z,⟨_,aH.of h1.iN⟩,fun l0 sV=>?_⟩
 refine iW (J:=tX K A.cm) (n:=(st.br.map V.int).length) 0 (fun i o H'=>aQ H1 H'/\o=((st.br.take i).map fun c=>bD rs*c).map V.int) (by rw [aD];omega) ⟨aF sV _,Z⟩ (fun i o H' hi _ hp=>⟨_,_,aH.of (hp.1 _ _ h1.iN),bq hi⟩) (fun o H' _ hp=>⟨_,aH.of (hp.1 _ _ h1.iN),aN _⟩) ?_ ?_
 . rintro i y o H2 H3 hi fR ha ⟨g,e⟩ ⟨rfl,hy⟩
   obtain ⟨c,rfl,ec⟩:=fE (hy _ (aH.of (g _ _ h1.iN)))
   refine ⟨_,Z,_,Z,_,_,Z,Z,gC zl (zc c (bO ec)),ha,g.cJ sV _,?_⟩
   subst e
   rw [take_snoc ec,bL,bL]
   rfl
 rintro o H2 fR ha ⟨g2,e⟩
 rw [aD,dQ] at e
 subst e
 have Me:=g1.trans g2
 have hd2:=g2 _ _ hd1
 have h2:=h1.mono g2
 have hn0:H l0=none:=g1.free sV
 refine ⟨d,_,hd2,fun ob=>⟨_,Z,d,ob,_,Z,ai,?_⟩⟩
 have al:=vX rs
 refine rY (n:=(gu rs).length) (fun i σ H'=>aQ (upd H2 d (.fB ob (.dK (gu rs)))) H'/\∃l s4 s5 s6 s7,σ=[some (.ref A.a),some (.ref d),some (.int (bD rs)),some (.ref l),s4,s5,s6,s7]/\H l=none/\H' l=some (.lst (((rs.take i).foldl (jc st) (st.br.map fun c=>bD rs*c)).map V.int))/\((rs.take i).foldl (jc st) (st.br.map fun c=>bD rs*c)).length=st.br.length)
  ⟨aQ.refl _,l0,_,_,_,_,Z,hn0,d8 hd2 ha (fun k z=>by cases z),by rw [List.take_zero,List.foldl_nil,aD]⟩ (fun i σ H' hi hp=>⟨hp.1 _ _ ai,hi⟩) (fun σ H' hp=>⟨hp.1 _ _ ai,aN _⟩) ?_ ?_
 . rintro i x σ H3 H4 hi ⟨g,l,s4,s5,s6,s7,rfl,Bg,hl,hsl⟩ ⟨pp,kv,hpp,hkv,rfl,rfl⟩
   unfold gu at hkv
   rw [bN] at hkv
   obtain ⟨r,er,rfl⟩:=jx.mp hkv
   have hrm:=bO er
   obtain ⟨zr,p,d9,Cb⟩:=uL r hrm
   obtain ⟨ip,ED,Qj⟩:=xr d9
   have ep:st.ak[ip]?=some p:=by rw [bq ED,Qj]
   have epg:cE st r.1=p:=by rw [<-Cb];exact LK wf.c6 ep
   have g4:=aF hpp (.tup [.str r.1, .int r.2])
   have gg:=g.trans g4
   have XT:∀{b:Addr} {u:HO},H2 b=some u->(∀k,u ≠ .dK k)->upd H3 pp (.tup [.str r.1, .int r.2]) b=some u:=fun e k=>gg _ _ (d8 hd2 e k)
   have nab:A.ab≠d:=(zC cd h.fK).symm
   obtain ⟨qq,eq,k1,k2,_,_⟩:=h2.find ep
   have hab:upd H3 pp (.tup [.str r.1, .int r.2]) A.ab=some (.dK (cg st.ak A.qs)):=gg _ _ (by rw [ay nab];exact h2.dN)
   have hv:=rE wf.c6 ep eq
   have hq1:=XT k1 (fun k z=>by cases z)
   have hq2:=XT k2 (fun k z=>by cases z)
   have IQ:upd H3 pp (.tup [.str r.1, .int r.2]) pp=some (.tup [.str r.1, .int r.2]):=ai
   have EE:=g4 _ _ hl
   have hno:∀{b:Addr},upd H3 pp (.tup [.str r.1, .int r.2]) b=none->H b=none:=fun {b} e=>by
    have e1:=o6 hd2 (gg.free e)
    exact Me.free e1
   have ha4:upd H3 pp (.tup [.str r.1, .int r.2]) A.a=some (.ins T.hold A.dx (jb A)):=XT h2.oa (fun k z=>by cases z)
   show zP K 2 _ _ _ (upd H3 pp (.tup [.str r.1, .int r.2])) _
   generalize upd H3 pp (.tup [.str r.1, .int r.2])=H4 at *
   refine ⟨pp,_,Z,cQ.of IQ,Z,_,_,Z,_,_,Z,Z,?_⟩
   refine ⟨_,Z,A.a,T.hold,A.dx,_,_,Z,ha4,X.cH,X.hab,Z,_,Z,A.ab,_,Z,by rw [<-Cb];exact hv▸dG.k (k:=Sum.inr p.nm) hab,?_⟩
   have zs:Jm.Sz 8000 p.sc:=Jm.Sz.kj (by have:=wf.nD p d9;have:=wf.dW;omega) (wf.nD p d9).2 wf.big
   refine ⟨_,Z,_,Z,qq.1,T.part,qq.2.1,_,_,Z,hq1,X.cP,X.D8,Z,_,_,Z,Z,gC zr zs,?_⟩
   have XA:p.row.length=st.br.length:=by rw [wf.rows p d9,wf.fC]
   generalize eS:(rs.take i).foldl (jc st) (st.br.map fun c=>bD rs*c)=S at *
   refine ⟨_,Z,_,Z,qq.1,T.part,qq.2.1,_,_,Z,hq1,X.cP,X.Ho,Z,_,_,_,_,_,_,Z, .lst (aH.of EE), .lst (aH.of hq2),fun acc hacc=>?_⟩
   refine xM (K:=K) (n:=S.length) [0,1] (fun j out H5=>aQ H4 H5/\out=(List.zipWith (fun old own=>old+(r.2*p.sc)*own) (S.take j) (p.row.take j)).map V.int) (by decide) (by omega) ⟨aF hacc _,Z⟩ (fun j out H5 hj _ hp=>⟨aH.of (hp.1 _ _ EE),aH.of (hp.1 _ _ hq2),by rw [aD];exact hj,by rw [aD];omega⟩)
    (fun out H5 _ hp=>⟨aH.of (hp.1 _ _ EE),aH.of (hp.1 _ _ hq2), .inl (by rw [aD];exact aN _)⟩) ?_ ?_
   . rintro j x out H5 H6 hj wN ha2 ⟨g5,e5⟩ ⟨p2,x1,y1,hp2,rfl,rfl,e1,e2⟩
     obtain ⟨t,rfl,et⟩:=fE e1
     obtain ⟨c,rfl,ec⟩:=fE e2
     have g6:=aF hp2 (.tup [.int t, .int c])
     have zw:Jm.Sz 8000 c:=Jm.Sz.kj (wf.lz p d9 c (bO ec)).1 (wf.lz p d9 c (bO ec)).2 wf.big
     refine ⟨p2,_,Z,cQ.of ai,Z,_,Z,_,Z,_,Z,_,_,Z,Z,gC (zr.mul zs) zw,_,_,Z,Z,g6 _ _ ha2,(g5.trans g6).cJ hacc _,?_⟩
     rw [qw _ et ec,e5,bL]
     rfl
   rintro out H5 wN ha2 ⟨g5,e5⟩
   rw [dQ,hsl,<-XA,dQ] at e5
   have eN:(rs.take (i+1)).foldl (jc st) (st.br.map fun c=>bD rs*c)=List.zipWith (fun old own=>old+(r.2*p.sc)*own) S p.row:=by
    rw [take_snoc er,Gr,eS]
    show jc st S r=_
    unfold jc
    rw [epg]
   refine ⟨gg.trans g5,acc,_,_,_,_,Z,hno hacc,?_,?_⟩
   . rw [eN,ha2,e5]
   . rw [eN,kh];omega
 rintro σ H3 ⟨g,l,s4,s5,s6,s7,rfl,Bg,hl,hsl⟩
 rw [al,dQ] at hl
 refine ⟨g _ _ ai,_,Z,?_⟩
 have nl:l≠d:=fun e=>by rw [e,hd] at Bg;cases Bg
 exact q l _ (Me.trans (se hd2 g)) Bg (by rw [ay nl];exact hl)
abbrev pK:Stmt:=inClass (top 21) 23
abbrev jN:List Str:=["self","name","amount"]
abbrev EW:List Str:=jN.append ["part"]
theorem vn:aO EW jN (aC pK):=dO
theorem Dg {T:TC} (F:gh K T.hold "lessen" "Hold.lessen" pK f fd) (X:Txt K T):Mn P w K mg base 1 T.hold "lessen" jN (HJ T):=by
 refine F.oA vn fun cdv A outer s H vs Q E hr h=>?_
 obtain ⟨⟨n,ρ,A,st,r,rfl,hh,⟨p,d9,Cb,hle⟩,wf',q⟩⟩:=h
 have h:=hh.h
 have nd:=hh.wf.c6
 refine ⟨_,(@cU.h _ _ _ (aj (aS (i:=3) vn.nd (dg (cW hr) (aI K (qv 0)) (qv 1)))
  (aj (nM K (qv 3) (qv 2) GD)
  (av (jl (aP dB (aI K (qv 3)) ah (aW _)) (av (LR (aI K (qv 0)) (qv 1))) bB))))),?_⟩
 obtain ⟨ip,ED,Qj⟩:=xr d9
 have ep:st.ak[ip]?=some p:=by rw [bq ED,Qj]
 obtain ⟨qq,eq,k1,k2,k3,k4⟩:=h.find ep
 have hv:=rE nd ep eq
 refine ⟨_,Z,A.a,T.hold,A.dx,_,_,Z,h.oa,X.cH,X.hab,Z,_,Z,A.ab,_,Z,by rw [<-Cb];exact hv▸dG.k (k:=Sum.inr p.nm) h.dN,?_⟩
 refine ⟨_,Z,qq.1,T.part,qq.2.1,_,_,Z,k1,X.cP,X.t8,Z,_,Z,_,_,Z,Z,qq.2.1,_,k1,by show 6<1000;decide,?_⟩
 have h1:=h.iD (p1:={ p with wo:=p.wo-r.2 }) hh.g ep eq rfl rfl nd
 have g1:=hh.g.wr (a:=qq.1) (o:= .ins T.part qq.2.1 (cO { p with wo:=p.wo-r.2 } qq.2.2)) rfl
 have F1:Fr n ρ H ρ (upd H qq.1 (.ins T.part qq.2.1 (cO { p with wo:=p.wo-r.2 } qq.2.2))):=Fr.write k3
 show Wm _ _ _ _ _ (upd H qq.1 (.ins T.part qq.2.1 (cO { p with wo:=p.wo-r.2 } qq.2.2)))
 have Mf:upd H qq.1 (.ins T.part qq.2.1 (cO { p with wo:=p.wo-r.2 } qq.2.2)) qq.1=some (.ins T.part qq.2.1 (cO { p with wo:=p.wo-r.2 } qq.2.2)):=ai
 generalize upd H qq.1 (.ins T.part qq.2.1 (cO { p with wo:=p.wo-r.2 } qq.2.2))=H1 at *
 have el:dX st r={ st with ak:=if p.wo-r.2=0 then st.ak.eraseIdx ip else st.ak.set ip { p with wo:=p.wo-r.2 } }:=by
  unfold dX
  rw [<-Cb,zX nd (fun x hx=>by have:=hh.wf.jw x hx;omega) ep]
 rw [el] at wf' q
 refine ⟨fun σ' H'=>Q .bU H',?_,fun _ _ z=>z⟩
 refine ⟨_,Z,qq.1,T.part,qq.2.1,_,_,Z,Mf,X.cP,X.t8,Z,Z,_,Z,aK (fun c=>?_) (fun c=>?_)⟩
 . have c':p.wo-r.2=0:=V.int.inj (aX c)
   rw [aB c'] at wf' q
   have nd1:((st.ak.set ip { p with wo:=p.wo-r.2 }).map (fun x:Pt=>x.nm)).Nodup:=by
    rw [rA,show ({ p with wo:=p.wo-r.2 }:Pt).nm=p.nm from rfl,qx (by rw [bN,ep];rfl)]
    exact nd
   have ep1:(st.ak.set ip { p with wo:=p.wo-r.2 })[ip]?=some { p with wo:=p.wo-r.2 }:=oQ ED
   have dk:=zW nd1 h1.ql ep1
   rw [List.eraseIdx_set_eq] at dk
   have hv1:=rE nd1 ep1 eq
   refine ⟨_,Z,A.a,T.hold,A.dx,_,_,Z,h1.oa,X.cH,X.hab,Z,_,Z,A.ab,_,Sum.inr r.1,Z,h1.dN,Z,?_,?_⟩
   . rw [<-Cb]
     show (dh (cg (st.ak.set ip { p with wo:=p.wo-r.2 }) A.qs) (Sum.inr p.nm)).isSome=true
     rw [show dh (cg (st.ak.set ip { p with wo:=p.wo-r.2 }) A.qs) (Sum.inr p.nm)=_ from hv1]
     rfl
   . show Q .bU (upd H1 A.ab (.dK (kM (cg (st.ak.set ip { p with wo:=p.wo-r.2 }) A.qs) (Sum.inr r.1))))
     rw [<-Cb,show kM (cg (st.ak.set ip { p with wo:=p.wo-r.2 }) A.qs) (Sum.inr p.nm)=_ from dk]
     have hi2:ip<A.qs.length:=by rw [h.ql];exact ED
     have h2:=h1.Hl g1 (st.ak.eraseIdx ip) (A.qs.eraseIdx ip) (by rw [Mp ED,Mp hi2,h.ql]) (fun j x y ex ey=>by
      rw [<-List.eraseIdx_set_eq (l:=st.ak) (i:=ip) (a:={ p with wo:=p.wo-r.2 })] at ex
      obtain ⟨k,a1,a2⟩:=xU ex ey
      exact h1.opt k x y a1 a2)
     exact q ρ _ _ ⟨g1.wr rfl,h2,wf'⟩ rfl (F1.trans (Fr.write h1.fK))
 . have c':¬ p.wo-r.2=0:=fun e=>c (aY (by rw [e]))
   rw [aA c'] at wf' q
   exact q ρ A H1 ⟨g1,h1,wf'⟩ rfl F1
abbrev qQ:Stmt:=inClass (top 21) 28
abbrev kF:List Str:=["self","kept","whole","added"]
abbrev IS:List Str:=kF.append ["scales","common","shared","part","scale"]
theorem iQ:aO IS kF (aC qQ):=dO
theorem EX {T:TC} (F:gh K T.hold "blend" "Hold.blend" qQ f fd) (X:Txt K T) (nT:Dn P w K mg base 2 "factor_of_all" j8 (Pj K)) (qR:Mn P w K mg base 1 T.bot "grow" lU (Pk T)) (gR:mg "zip"=none):Mn P w K mg base 3 T.hold "blend" kF (CY T K):=by
 refine F.oA iQ fun cdv A outer s H vs Q E hr h=>?_
 obtain ⟨⟨n,ρ,A,st,kept,whole,la,added,rfl,hh,hla,hal,k0,w0,kz,wz,haz,XU,hsl,wf',q⟩⟩:=h
 refine ⟨_,(@cU.h _ _ _ (aj (vf (rJ (i:=4) ["part","kept"] [none,some 1] iQ.nd rfl rfl rfl (yV (aI K (qv 0))) (fun _ _ _ _=>(aV (i:=0) (show List.Nodup (["part","kept"] :List Str) from by decide +kernel))) (fun _ _ _ _=>(aG gW (aI K (qv 0)) (qv 1))) rfl (by rfl) (by rfl)))
  (aj (rJ (i:=5) ["top","more","kept"] [none,none,some 1] iQ.nd rfl rfl rfl (pB K (by rfl) gR (af (aI K (qv 0)) (af (qv 3) aq))) (fun _ _ _ _=>(g_ K (n:=2) rfl (cj (aV (i:=0) (show List.Nodup (["top","more","kept"] :List Str) from by decide +kernel)) (cj (aV (i:=1) (show List.Nodup (["top","more","kept"] :List Str) from by decide +kernel)) gY)))) (fun _ _ _ _=>(aG bY (aG gW (qv 0) (qv 2)) (qv 1))) rfl (by rfl) (by rfl))
  (aj (aS (i:=6) iQ.nd (bQ nT hr (af (qv 2) (af (aG Wd (qv 4) (qv 5)) aq))))
  (aj (vf (fT gi rfl (pB K (by rfl) gR (af (C0 (aI K (qv 0))) (af (qv 4) aq))) (g_ K (n:=2) rfl (cj (aV (i:=7) iQ.nd) (cj (aV (i:=8) iQ.nd) gY))) (av (c_ K (qv 7) (aG iu (qv 8) (qv 6))))))
  (aj (c_ K (qv 0) (gE ["top","shared"] [none,some 6] rfl (dM K (qv 5)) (fun _ _ _ _=>(aV (i:=0) (show List.Nodup (["top","shared"] :List Str) from by decide +kernel))) (fun _ _ _ _=>(aG iu (qv 0) (qv 1))) rfl (by rfl)))
  (aj (c_ K (qv 0) (gE ["purse","whole","shared"] [none,some 2,some 6] rfl (dM K (aI K (qv 0))) (fun _ _ _ _=>(aV (i:=0) (show List.Nodup (["purse","whole","shared"] :List Str) from by decide +kernel))) (fun _ _ _ _=>(aG gW (qv 0) (aG iu (qv 1) (qv 2)))) rfl (by rfl)))
  (av (cA (bR qR hr (aI K (qv 0)) (af (aG iu (qv 2) (qv 6)) aq))))))))))),?_⟩
 have hpl:=hh.wf.mj
 have nd:=hh.wf.c6
 have hcl:st.br.length<=100:=by rw [hh.wf.fC];exact hh.wf.jD
 have zsc:∀p∈st.ak,Jm.Sz 8000 p.sc:=fun p hp=>Jm.Sz.kj (by have:=hh.wf.nD p hp;have:=hh.wf.dW;omega) (hh.wf.nD p hp).2 hh.wf.big
 have zcm:∀c∈st.br,Jm.Sz 8000 c:=fun c hc=>Jm.Sz.kj (by have:=hh.wf.mq c hc;have:=hh.wf.dW;omega) (hh.wf.mq c hc).2 hh.wf.big
 have h:=hh.h
 refine ⟨A.ab,_,h.dN,fun ob=>?_⟩
 refine ⟨_,Z,A.a,T.hold,A.dx,_,_,Z,d8 h.dN h.oa (fun k z=>by cases z),X.cH,X.hab,Z,A.ab,ob,_,Z,ai,fun l1 hl1=>?_⟩
 have el:=u9 h.ql
 refine iW (n:=st.ak.length) 0 (fun i out H1=>aQ (upd H A.ab (.fB ob (.dK (cg st.ak A.qs)))) H1/\out=((st.ak.take i).map fun p:Pt=>p.sc*kept).map V.int) (by omega) ⟨aF hl1 _,Z⟩ (fun i out H1 hi _ hp=>⟨hp.1 _ _ ai,by rw [el];exact hi⟩) (fun out H1 _ hp=>⟨hp.1 _ _ ai,by rw [el];exact aN _⟩) ?_ ?_
 . rintro i x out H1 H2 hi fR ha ⟨g,e⟩ ⟨rfl,kv,hkv,rfl⟩
   have ep:=bq hi
   obtain ⟨qq,eq,k1,k2,_⟩:=h.find ep
   rw [u7 ep eq] at hkv
   cases hkv
   have hq:=g _ _ (d8 h.dN k1 (fun k z=>by cases z))
   refine ⟨_,Z,qq.1,T.part,qq.2.1,_,_,Z,hq,X.cP,X.D8,Z,_,Z,_,_,Z,Z,gC (zsc _ (zO hi)) kz,ha,g.cJ hl1 _,?_⟩
   subst e
   rw [take_snoc ep,bL,bL]
   rfl
 rintro o1 H1 afj ha1 ⟨g1,e1⟩
 rw [dQ] at e1
 have hz1:=g1 _ _ (ai (H:=H) (a:=A.ab) (o:= .fB ob (.dK (cg st.ak A.qs))))
 have na1:l1≠A.ab:=fun e=>by rw [e,hz1] at ha1;cases ha1
 refine ⟨hz1,?_⟩
 have s2:aQ H (upd H1 A.ab (.dK (cg st.ak A.qs))):=se h.dN g1
 have afk:H l1=none:=o6 h.dN hl1
 have ha2:upd H1 A.ab (.dK (cg st.ak A.qs)) l1=some (.lst ((gX st kept).map V.int)):=by rw [ay na1,ha1,e1];rfl
 generalize upd H1 A.ab (.dK (cg st.ak A.qs))=H2 at *
 clear g1 hz1 ha1 e1
 have h2:=h.mono s2
 have NS:=s2.seq hla
 refine ⟨_,Z,A.a,T.hold,A.dx,_,_,Z,h2.oa,X.cH,X.xP,Z,_,Z,_,_,_,_,_,_,Z, .lst (aH.of h2.iN), .lst NS,fun l2 hl2=>?_⟩
 refine xM (K:=K) (n:=st.br.length) [0,1] (fun i out H3=>aQ H2 H3/\out=(List.zipWith (fun t m=>t*kept+m) (st.br.take i) (added.take i)).map V.int) (by decide) (by omega) ⟨aF hl2 _,Z⟩ (fun i out H3 hi _ hp=>⟨aH.of (hp.1 _ _ h2.iN),hp.1.seq NS,by rw [aD];exact hi,by rw [aD];omega⟩)
  (fun out H3 _ hp=>⟨aH.of (hp.1 _ _ h2.iN),hp.1.seq NS, .inl (by rw [aD];exact aN _)⟩) ?_ ?_
 . rintro i x out H3 H4 hi fR ha ⟨g,e⟩ ⟨p,x1,y1,hp,rfl,rfl,e1,e2⟩
   obtain ⟨t,rfl,et⟩:=fE e1
   obtain ⟨c,rfl,ec⟩:=fE e2
   have g1:=aF hp (.tup [.int t, .int c])
   refine ⟨p,_,Z,cQ.of ai,Z,_,Z,_,Z,_,_,Z,Z,gC (zcm t (bO et)) kz,_,Z,_,_,Z,Z,g1 _ _ ha,(g.trans g1).cJ hl2 _,?_⟩
   rw [qw _ et ec,e,bL]
   rfl
 rintro o2 H3 wN XW ⟨g3,e3⟩
 rw [dQ,<-hal,dQ] at e3
 have ec3:o2=(fk st kept added).map V.int:=e3
 subst ec3
 have s3:=s2.trans g3
 have h3:=h.mono s3
 have Sd:=g3 _ _ ha2
 have afl:H l2=none:=s2.free hl2
 have n12:l1≠l2:=fun e=>by rw [e,hl2] at ha2;cases ha2
 clear e3 h2 NS g3 ha2 s2
 have lsc:(gX st kept).length=st.ak.length:=by unfold gX;rw [aD]
 have lcm:(fk st kept added).length=st.br.length:=by unfold fk;rw [kh,hal,vD]
 refine ⟨_,Z,_,Z,_,Z,l1,l2,_,_,Z,Z,Sd,XW,by rw [aD,aD,lsc,lcm];exact fP (Nat.add_le_add hpl hcl) (by rw [jz];decide),fun p3 hp3=>?_⟩
 rw [<-bL]
 have g4:=aF hp3 (.lst ((gX st kept++fk st kept added).map V.int))
 refine ⟨⟨whole,p3,_,Z,aH.of ai,by omega,?_,?_⟩⟩
 . intro t ht
   rcases fZ.mp ht with z|z
   . unfold gX at z
     obtain ⟨p,hp,rfl⟩:=bK.mp z
     exact m9 (by have:=hh.wf.nD p hp;omega) (by omega)
   . obtain ⟨c,hc,m,hm,rfl⟩:=sf (show t∈List.zipWith _ st.br added from z)
     have a1:=m9 (hh.wf.mq c hc).1 (by omega:0<=kept)
     have a2:=(haz m hm).1
     omega
 have s4:=s3.trans g4
 have h4:=h.mono s4
 have G4:=hh.g.same s4
 have F4:Fr n ρ H ρ (upd H3 p3 (.lst ((gX st kept++fk st kept added).map V.int))):=Fr.of_same s4
 have b1:=g4 _ _ Sd
 have b2:=g4 _ _ XW
 generalize upd H3 p3 (.lst ((gX st kept++fk st kept added).map V.int))=H4 at *
 clear Sd XW s3 h3 g4
 obtain ⟨sd,To⟩:∃sd,sd=cK st kept whole added:=⟨_,rfl⟩
 rw [show nH whole (gX st kept++fk st kept added)=sd from To.symm]
 have sp:0<sd:=by rw [To];exact xW _ _ w0
 have Px:sd∣whole:=by rw [To];exact (xV _ _).1
 have sz:Jm.Sz 60 sd:=wz.dvd w0 (by omega) Px
 have wq:0<whole / sd:=Int.ediv_pos_of_pos_of_dvd w0 (by omega) Px
 have wqz:Jm.Sz 60 (whole / sd):=wz.ediv sp
 have Tp:∀{i:Int},A3 i sd:=fun {i}=>vL sp (sz.mono (by decide))
 refine ⟨A.ab,_,h4.dN,fun Qk=>?_⟩
 refine ⟨_,Z,A.a,T.hold,A.dx,_,_,Z,d8 h4.dN h4.oa (fun k z=>by cases z),X.cH,X.hab,Z,A.ab,_,Z, .inr ⟨Qk,ai⟩,fun v hv=>?_⟩
 have nva:v≠A.ab:=fun e=>by rw [e,ai] at hv;cases hv
 have hv4:H4 v=none:=o6 h4.dN hv
 have g5:=aF hv4 (j0 v A.ab)
 have hv5:upd H4 v (j0 v A.ab) v=some (j0 v A.ab):=ai
 rw [jE (cM nva)]
 have h5:=h4.mono g5
 have G5:=G4.same g5
 have F5:=F4.trans (Fr.of_same (ρ:=ρ) g5)
 have s5:=s4.trans g5
 have c1:=g5 _ _ b1
 have c2:=g5 _ _ b2
 generalize upd H4 v (j0 v A.ab)=H5 at *
 clear h4 G4 F4 s4 b1 b2 g5
 refine ⟨_,Z,_,_,_,_,_,_,Z, .vals (d8 h5.dN hv5 (fun k z=>by cases z)) ai, .lst (aH.of (d8 h5.dN c1 (fun k z=>by cases z))),?_⟩
 have exl:((cg st.ak A.qs).map fun p=>p.2).length=st.ak.length:=by rw [aD];exact el
 have eyl:((gX st kept).map V.int).length=st.ak.length:=by rw [aD];exact lsc
 refine rY (n:=st.ak.length) (fun i σ H'=>(∃s7 s8,σ=[some (.ref A.a),some (.int kept),some (.int whole),some (.ref la),some (.ref l1),some (.ref l2),some (.int sd),s7,s8])/\∃H6,H'=upd H6 A.ab (.fB Qk (.dK (cg st.ak A.qs)))/\Gh ρ H6/\Fr n ρ H ρ H6/\aL T n ρ A H6 { st with ak:=(st.ak.take i).map (fun p=>{ p with sc:=p.sc*kept / sd })++st.ak.drop i }/\H6 l1=some (.lst ((gX st kept).map V.int))/\H6 l2=some (.lst ((fk st kept added).map V.int))/\(∀b,H6 b=none->H b=none))
  ⟨⟨_,_,Z⟩,H5,Z,G5,F5,h5,c1,c2,fun b e=>s5.free e⟩ ?_ ?_ ?_ ?_
 . rintro i σ H' hi ⟨_,H6,rfl,G6,F6,h6,d1,d2,fr⟩
   have e6:cg ({ st with ak:=(st.ak.take i).map (fun p:Pt=>{ p with sc:=p.sc*kept / sd })++st.ak.drop i }:HS).ak A.qs=cg st.ak A.qs:=mU (o7 (fun p:Pt=>{ p with sc:=p.sc*kept / sd }) (fun p:Pt=>p.nm) (fun _=>rfl) st.ak i)
   have pL:=h6.dN
   rw [e6] at pL
   exact ⟨ai,aH.of (d8 pL d1 (fun k z=>by cases z)),by rw [exl];exact hi,by rw [eyl];exact hi⟩
 . rintro σ H' ⟨_,H6,rfl,G6,F6,h6,d1,d2,fr⟩
   have e6:cg ({ st with ak:=(st.ak.take st.ak.length).map (fun p:Pt=>{ p with sc:=p.sc*kept / sd })++st.ak.drop st.ak.length }:HS).ak A.qs=cg st.ak A.qs:=mU (o7 (fun p:Pt=>{ p with sc:=p.sc*kept / sd }) (fun p:Pt=>p.nm) (fun _=>rfl) st.ak _)
   have pL:=h6.dN
   rw [e6] at pL
   exact ⟨ai,aH.of (d8 pL d1 (fun k z=>by cases z)), .inl (by rw [exl];exact aN _)⟩
 . rintro i x σ H' BB hi ⟨⟨s7,s8,rfl⟩,H6,rfl,G6,F6,h6,d1,d2,fr⟩ ⟨pp,x1,y1,hpp,rfl,rfl,ex,ey⟩
   have ep:=bq hi
   have ep6:=HC (fun p:Pt=>{ p with sc:=p.sc*kept / sd }) ep
   obtain ⟨qq,eq,k1,k2,k3,k4⟩:=h6.find ep6
   have nm6:=o7 (fun p:Pt=>{ p with sc:=p.sc*kept / sd }) (fun p:Pt=>p.nm) (fun _=>rfl) st.ak i
   have e6:cg ({ st with ak:=(st.ak.take i).map (fun p:Pt=>{ p with sc:=p.sc*kept / sd })++st.ak.drop i }:HS).ak A.qs=cg st.ak A.qs:=mU nm6
   have pL:=h6.dN
   rw [e6] at pL
   rw [bN,u7 ep eq] at ex
   cases ex
   obtain ⟨sc,rfl,XX⟩:=fE ey
   have acE:sc=(st.ak[i]).sc*kept:=by
    unfold gX at XX
    rw [bN,ep] at XX
    exact (gq XX).symm
   subst acE
   have npa:pp≠A.ab:=fun e=>by rw [e,ai] at hpp;cases hpp
   have acF:H6 pp=none:=o6 pL hpp
   have g7:=aF acF (.tup [.ref qq.1, .int ((st.ak[i]).sc*kept)])
   rw [jE (cM npa)]
   have IQ:upd H6 pp (.tup [.ref qq.1, .int ((st.ak[i]).sc*kept)]) pp=some (.tup [.ref qq.1, .int ((st.ak[i]).sc*kept)]):=ai
   have h7:=h6.mono g7
   have G7:=G6.same g7
   have F7:=F6.trans (Fr.of_same (ρ:=ρ) g7)
   have Se:=g7 _ _ pL
   have f1:=g7 _ _ d1
   have f2:=g7 _ _ d2
   have OS:∀b,upd H6 pp (.tup [.ref qq.1, .int ((st.ak[i]).sc*kept)]) b=none->H b=none:=fun b e=>fr b (g7.free e)
   have Mf:=g7 _ _ k1
   generalize upd H6 pp (.tup [.ref qq.1, .int ((st.ak[i]).sc*kept)])=H7 at *
   refine ⟨pp,_,Z,cQ.of (d8 Se IQ (fun k z=>by cases z)),Z,_,_,Z,_,_,Z,Z,?_⟩
   refine ⟨_,Z,_,Z,_,_,Z,Z,Tp,_,Z,qq.1,T.part,qq.2.1,_,Z,d8 Se Mf (fun k z=>by cases z),X.cP,X.D8,by show 6<1000;decide,?_⟩
   have nd7:(((st.ak.take i).map (fun p:Pt=>{ p with sc:=p.sc*kept / sd })++st.ak.drop i).map (fun p:Pt=>p.nm)).Nodup:=by rw [nm6];exact nd
   have h8:=h7.iD (p1:={ st.ak[i] with sc:=(st.ak[i]).sc*kept / sd }) G7 ep6 eq rfl rfl nd7
   rw [show ({ st with ak:=(st.ak.take i).map (fun p:Pt=>{ p with sc:=p.sc*kept / sd })++st.ak.drop i }:HS).ak.set i { st.ak[i] with sc:=(st.ak[i]).sc*kept / sd }=_ from HD (fun p:Pt=>{ p with sc:=p.sc*kept / sd }) ep] at h8
   have nqa:A.ab≠qq.1:=(gO Mf Se (by intro z;cases z)).symm
   have nq1:l1≠qq.1:=gO f1 Mf (by intro z;cases z)
   have nq2:l2≠qq.1:=gO f2 Mf (by intro z;cases z)
   refine ⟨⟨_,_,Z⟩,_,jE nqa,G7.wr rfl,F7.trans (Fr.write k3),h8,by rw [ay nq1];exact f1,by rw [ay nq2];exact f2,fun b e=>OS b ?_⟩
   by_cases z:b=qq.1
   . rw [z,ai] at e;cases e
   . rw [ay z] at e;exact e
 rintro σ H' ⟨⟨s7,s8,rfl⟩,H6,rfl,G6,F6,h6,d1,d2,fr⟩
 have e6:cg ({ st with ak:=(st.ak.take st.ak.length).map (fun p:Pt=>{ p with sc:=p.sc*kept / sd })++st.ak.drop st.ak.length }:HS).ak A.qs=cg st.ak A.qs:=mU (o7 (fun p:Pt=>{ p with sc:=p.sc*kept / sd }) (fun p:Pt=>p.nm) (fun _=>rfl) st.ak _)
 have pL:=h6.dN
 rw [e6] at pL
 refine ⟨ai,?_⟩
 rw [mO,vV pL]
 rw [show ({ st with ak:=(st.ak.take st.ak.length).map (fun p:Pt=>{ p with sc:=p.sc*kept / sd })++st.ak.drop st.ak.length }:HS)={ st with ak:=st.ak.map fun p:Pt=>{ p with sc:=p.sc*kept / sd } } from by rw [dQ,List.drop_length,yH]] at h6
 clear e6 pL h5 G5 F5 s5 c1 c2 hv5
 refine ⟨_,Z,l2,Z,⟨_,aH.of d2⟩,fun l3 hl3=>?_⟩
 refine iW (J:=tX K l2) (n:=((fk st kept added).map V.int).length) 0 (fun i o H'=>aQ H6 H'/\o=(((fk st kept added).take i).map (· / sd)).map V.int) (by rw [aD];omega) ⟨aF hl3 _,Z⟩ (fun i o H' hi _ hp=>⟨_,_,aH.of (hp.1 _ _ d2),bq hi⟩) (fun o H' _ hp=>⟨_,aH.of (hp.1 _ _ d2),aN _⟩) ?_ ?_
 . rintro i y o Ha Hb hi fR ha ⟨g,e⟩ ⟨rfl,hy⟩
   obtain ⟨c,rfl,ec⟩:=fE (hy _ (aH.of (g _ _ d2)))
   refine ⟨_,Z,_,Z,_,_,Z,Z,Tp,ha,g.cJ hl3 _,?_⟩
   subst e
   rw [take_snoc ec,bL,bL]
   rfl
 rintro o3 H8 afm IT ⟨g8,e8⟩
 rw [aD,dQ] at e8
 subst e8
 have h8:=h6.mono g8
 have G8:=G6.same g8
 have F8:=F6.trans (Fr.of_same (ρ:=ρ) g8)
 have fr8:∀b,H8 b=none->H b=none:=fun b e=>fr b (g8.free e)
 have c3:ρ l3=none:=G6.none hl3
 have n3:H l3=none:=fr l3 hl3
 refine ⟨_,Z,A.a,T.hold,A.dx,_,Z,h8.oa,X.cH,X.xP,by show 7<1000;decide,?_⟩
 obtain ⟨h9,G9⟩:=xX (t:=6) h8 G8 c3 IT rfl
 have F9:Fr n ρ H (cN ρ l3 (n,6,⟨#[]⟩)) H8:=F8.mz n3
 have w6:=h9.WO G9 l3 _ IT di
 have G10:=G9.wr (a:=A.a) (o:= .ins T.hold A.dx (jb { A with cm:=l3 })) rfl
 have F10:=F9.trans (Fr.write (o:= .ins T.hold A.dx (jb { A with cm:=l3 })) h9.ca)
 show vJ _ _ _ _ (upd H8 A.a (.ins T.hold A.dx (jb { A with cm:=l3 })))
 have acG:∀b,upd H8 A.a (.ins T.hold A.dx (jb { A with cm:=l3 })) b=none->H b=none:=fun b e=>fr8 b (by
  by_cases z:b=A.a
  . rw [z,ai] at e;cases e
  . rw [ay z] at e;exact e)
 generalize upd H8 A.a (.ins T.hold A.dx (jb { A with cm:=l3 }))=xF at *
 clear h6 G6 F6 h8 G8 F8 h9 G9 F9 IT g8 fr8 fr d1 d2
 refine ⟨_,Z,A.a,T.hold,A.dx,_,_,Z,w6.oa,X.cH,X.xQ,Z,A.pu,Z,⟨_,aH.of w6.jL⟩,fun l4 EE=>?_⟩
 have afn:st.bH.length<=100:=by rw [hh.wf.jC];exact hh.wf.jD
 refine iW (J:=tX K A.pu) (n:=(st.bH.map V.int).length) 0 (fun i o H'=>aQ xF H'/\o=((st.bH.take i).map (·*(whole / sd))).map V.int) (by rw [aD];omega) ⟨aF EE _,Z⟩ (fun i o H' hi _ hp=>⟨_,_,aH.of (hp.1 _ _ w6.jL),bq hi⟩) (fun o H' _ hp=>⟨_,aH.of (hp.1 _ _ w6.jL),aN _⟩) ?_ ?_
 . rintro i y o Ha Hb hi fR ha ⟨g,e⟩ ⟨rfl,hy⟩
   obtain ⟨c,rfl,ec⟩:=fE (hy _ (aH.of (g _ _ w6.jL)))
   refine ⟨_,Z,_,Z,_,Z,_,_,Z,Z,Tp,_,_,Z,Z,gC (XU c (bO ec)) wqz,ha,g.cJ EE _,?_⟩
   subst e
   rw [take_snoc ec,bL,bL]
   rfl
 rintro o4 Ql afo NT ⟨IU,Qm⟩
 rw [aD,dQ] at Qm
 subst Qm
 have h11:=w6.mono IU
 have G11:=G10.same IU
 have F11:=F10.trans (Fr.of_same (ρ:=cN ρ l3 (n,6,⟨#[]⟩)) IU)
 have c4:cN ρ l3 (n,6,⟨#[]⟩) l4=none:=G10.none EE
 have n4:H l4=none:=acG l4 EE
 refine ⟨_,Z,A.a,T.hold,A.dx,_,Z,h11.oa,X.cH,X.xQ,by show 7<1000;decide,?_⟩
 obtain ⟨h12,G12⟩:=xX (t:=7) h11 G11 c4 NT rfl
 have F12:Fr n ρ H (cN (cN ρ l3 (n,6,⟨#[]⟩)) l4 (n,7,⟨#[]⟩)) Ql:=F11.mz n4
 have XY:=h12.Pa G12 l4 _ NT di
 have G13:=G12.wr (a:=A.a) (o:= .ins T.hold A.dx (jb { { A with cm:=l3 } with pu:=l4 })) rfl
 have F13:=F12.trans (Fr.write (o:= .ins T.hold A.dx (jb { { A with cm:=l3 } with pu:=l4 })) h12.ca)
 rw [show aT "purses" (V.ref l4) (jb { A with cm:=l3 })=jb { { A with cm:=l3 } with pu:=l4 } from rfl]
 generalize upd Ql A.a (.ins T.hold A.dx (jb { { A with cm:=l3 } with pu:=l4 }))=Mc at *
 refine ⟨_,Z,A.a,T.hold,A.dx,_,_,Z,XY.oa,X.cH,X.r6,Z,A.bt,A.db,_,Z,XY.iz,Z,_,Z,_,Z,_,_,Z,Z,Tp,?_⟩
 refine ⟨⟨n,_,{ { A with cm:=l3 } with pu:=l4 },{ st with ak:=st.ak.map (fun p:Pt=>{ p with sc:=p.sc*kept / sd }),br:=(fk st kept added).map (· / sd),bH:=st.bH.map (·*(whole / sd)) },whole / sd,Z,G13,XY,by show st.stp.length<=1000;omega,hh.wf.big.mono (by decide),wqz.mono (by decide),fun ρ' A' H' a1 a2 a3 a4=>?_⟩⟩
 have eb:bh st kept whole added=eV { st with ak:=st.ak.map (fun p:Pt=>{ p with sc:=p.sc*kept / sd }),br:=(fk st kept added).map (· / sd),bH:=st.bH.map (·*(whole / sd)) } (whole / sd):=by
  unfold bh
  rw [To]
 rw [eb] at wf' q
 exact q ρ' A' H' ⟨a1,a2,wf'⟩ a3 (F13.trans a4)
abbrev sW:Stmt:=inClass (top 21) 3
abbrev p8:List Str:=["self","rows"]
abbrev Kl:List Str:=p8.append ["amounts","name","amount","whole","lost"]
theorem gx:aO Kl p8 (aC sW):=dO
theorem IV {T:TC} (F:gh K T.hold "cast" "Hold.cast" sW f fd) (X:Txt K T) (sX:Dn P w K mg base 1 "amounts_of" nO (Ph K)) (sY:Dn P w K mg base 2 "check_loss" kD S7) (ie:Mn P w K mg base 1 T.hold "part_of" dY (zV T)) (dU:Mn P w K mg base 1 T.hold "whole" iH (u_ T)) (jv:Mn P w K mg base 3 T.hold "blend" kF (CY T K)) (nU:Mn P w K mg base 1 T.hold "given_up" j9 (LL T)) (iR:Mn P w K mg base 1 T.hold "lessen" jN (HJ T)) (fJ:mg "sum"=none):Mn P w K mg base 4 T.hold "cast" p8 (Pn T K):=by
 refine F.oA gx fun cdv A outer s H vs Q E hr h=>?_
 obtain ⟨⟨n,ρ,A,st,l,us,rs,rfl,hh,hl,hR,ok,q⟩⟩:=h
 have wf:=hh.wf
 have nd:=ok.nd
 refine ⟨_,(@cU.h _ _ _ (aj (aS (i:=2) gx.nd (bQ sX hr (af (qv 1) aq)))
  (aj (vf (fT gi rfl (z9 (qv 2)) (g_ K (n:=2) rfl (cj (aV (i:=3) gx.nd) (cj (aV (i:=4) gx.nd) gY))) (av (cA (bQ sY hr (af (aI K (bR ie hr (qv 0) (af (qv 3) aq))) (af (qv 4) aq)))))))
  (aj (aS (i:=5) gx.nd (yX dU hr (qv 0)))
  (aj (aS (i:=6) gx.nd (bF (D6 rfl) (by rfl) fJ xo (af (C0 (qv 2)) aq)))
  (aj (b_ (aP FY (qv 6) (qv 5) (aW _)) (av pD) bB)
  (aj (cA (bR jv hr (qv 0) (af (aG ki (qv 5) (qv 6)) (af (qv 5) (af (bR nU hr (qv 0) (af (qv 2) aq)) aq)))))
  (av (vf (fT gi rfl (z9 (qv 2)) (g_ K (n:=2) rfl (cj (aV (i:=3) gx.nd) (cj (aV (i:=4) gx.nd) gY))) (av (cA (bR iR hr (qv 0) (af (qv 3) (af (qv 4) aq))))))))))))))),?_⟩
 refine ⟨_,Z,⟨⟨l,us,rs,Z,hl,hR,nd,ok.ne,ok.len,fun d H1 g1 hdn hd1=>?_⟩⟩⟩
 have ju:=hh.mono g1
 have F1:Fr n ρ H ρ H1:=Fr.of_same g1
 have cd:ρ d=none:=hh.g.none hdn
 have al:=vX rs
 refine ⟨d,_,hd1,fun ob=>⟨_,Z,d,ob,_,Z,ai,?_⟩⟩
 refine rY (n:=(gu rs).length) (fun i σ H'=>aQ (upd H1 d (.fB ob (.dK (gu rs)))) H'/\∃s3 s4 s5 s6,σ=[some (.ref A.a),some (.ref l),some (.ref d),s3,s4,s5,s6])
  ⟨aQ.refl _,_,_,_,_,Z⟩ (fun i σ H' hi hp=>⟨hp.1 _ _ ai,hi⟩) (fun σ H' hp=>⟨hp.1 _ _ ai,aN _⟩) ?_ ?_
 . rintro i x σ H3 H4 hi ⟨g,s3,s4,s5,s6,rfl⟩ ⟨pp,kv,hpp,hkv,rfl,rfl⟩
   unfold gu at hkv
   rw [bN] at hkv
   obtain ⟨r,er,rfl⟩:=jx.mp hkv
   have hrm:=bO er
   obtain ⟨r1,zr,p,d9,Cb,hle⟩:=ok.row r hrm
   obtain ⟨ip,ED,Qj⟩:=xr d9
   have ep:st.ak[ip]?=some p:=by rw [bq ED,Qj]
   have g4:=aF hpp (.tup [.str r.1, .int r.2])
   have gg:=g.trans g4
   have hf:HH T n ρ A (upd H1 d (.fB ob (.dK (gu rs)))) st:=ju.By cd hd1 rfl rfl
   have h4:=hf.mono gg
   have IQ:upd H3 pp (.tup [.str r.1, .int r.2]) pp=some (.tup [.str r.1, .int r.2]):=ai
   show zP K 2 _ _ _ (upd H3 pp (.tup [.str r.1, .int r.2])) _
   generalize upd H3 pp (.tup [.str r.1, .int r.2])=H4 at *
   obtain ⟨qq,eq,k1,k2,_,_⟩:=h4.h.find ep
   refine ⟨pp,_,Z,cQ.of IQ,Z,_,_,Z,_,_,Z,Z,?_⟩
   refine ⟨_,Z,A.a,A.dx,_,Z,h4.h.oa,Z,_,Z,⟨⟨n,ρ,A,st,ip,p,qq,by rw [<-Cb];rfl,h4.h,wf.c6,ep,eq,?_⟩⟩⟩
   refine ⟨qq.1,T.part,qq.2.1,_,_,Z,k1,X.cP,X.t8,Z,_,Z,⟨⟨p.wo,r.2,Z,r1,hle,?_⟩⟩⟩
   exact ⟨gg,_,_,_,_,Z⟩
 rintro σ H2 ⟨g2,s3,s4,s5,s6,rfl⟩
 refine ⟨g2 _ _ ai,?_⟩
 have gB:=se hd1 g2
 have mZ:=ju.mono gB
 have F2:Fr n ρ H ρ (upd H2 d (.dK (gu rs))):=F1.trans (Fr.of_same gB)
 have hd2:upd H2 d (.dK (gu rs)) d=some (.dK (gu rs)):=ai
 generalize upd H2 d (.dK (gu rs))=H2' at *
 refine ⟨_,Z,A.a,A.dx,_,Z,mZ.h.oa,Z,⟨⟨n,ρ,A,st,Z,mZ.h,wf.mj,fun H3 g3=>?_⟩⟩⟩
 have nS:=mZ.mono g3
 have Tq:=g3 _ _ hd2
 have F3:=F2.trans (Fr.of_same (ρ:=ρ) g3)
 refine ⟨_,Z,d,_,Z, .inl Tq,fun v hv=>⟨v,d,_,rs.map (·.2),Z,ai, .inl (by rw [ay (aE Tq hv)];exact Tq),by unfold gu;rw [gy,gy];rfl,?_⟩⟩
 have g4:=aF hv (j0 v d)
 have qD:=nS.mono g4
 have hd4:=g4 _ _ Tq
 have F4:=F3.trans (Fr.of_same (ρ:=ρ) g4)
 generalize upd H3 v (j0 v d)=H4 at *
 have bo:=ok.blend wf
 refine ⟨_,Z,_,Z,_,_,Z,Z,_,Z,aK (fun c=>absurd (aX c) (by have:=ok.lost;show ¬ aM st<=bD rs;omega)) fun _=>?_⟩
 refine ⟨_,Z,A.a,A.dx,_,Z,qD.h.oa,Z,_,Z,_,Z,_,_,Z,Z,_,Z,_,Z,A.a,A.dx,_,Z,qD.h.oa,Z,_,Z,⟨⟨n,ρ,A,st,d,rs,Z,qD.h,wf,hd4,cd,ok.len,fun r hr=>⟨(ok.row r hr).2.1,by obtain ⟨p,hp,e,_⟩:=(ok.row r hr).2.2;exact ⟨p,hp,e⟩⟩,fun l5 H5 g5 hn5 hl5=>?_⟩⟩⟩
 have yy:=qD.mono g5
 have hd5:=g5 _ _ hd4
 have F5:=F4.trans (Fr.of_same (ρ:=ρ) g5)
 have zk:Jm.Sz 60 (aM st-bD rs):=bo.big.of_le (by have:=bo.k;have:=bo.l;omega)
 have zG:∀m∈jM st rs,0<=m/\Jm.Sz 8900 m:=fun m hm=>by
  have h1:=bo.add m hm
  have h2:=wf.dW
  have zl:Jm.Sz 60 (bD rs):=bo.big.of_le (by have:=bo.k;have:=bo.l;omega)
  exact ⟨h1.1,Jm.Sz.kj (by have:=m9 bo.l (show 0<=st.prod by omega);omega) h1.2 ((zl.mul bo.prod).mono (by decide))⟩
 refine ⟨⟨n,ρ,A,st,aM st-bD rs,aM st,l5,jM st rs,Z,yy,aH.of hl5,bo.len,bo.k,by have:=bo.k;have:=bo.l;omega,zk,bo.big,zG,ok.bH,ok.stp,vY wf bo,fun ρ6 A6 H6 zK e6 f6=>?_⟩⟩
 obtain ⟨hd6,XZ⟩:=f6 d _ hd5 (fun t x=>by rw [cd];intro z;cases z)
 rw [cd] at XZ
 have F6:=F5.trans f6
 refine ⟨d,_,hd6,fun Qk=>⟨_,Z,d,Qk,_,Z,ai,?_⟩⟩
 generalize eB:bh st (aM st-bD rs) (aM st) (jM st rs)=Mg at *
 have acH:Due Mg rs:=by rw [<-eB];exact Ek ok.due
 have ZN:iL st rs=rs.foldl dX Mg:=by unfold iL;rw [eB]
 refine rY (n:=(gu rs).length) (fun i σ H'=>∃ρ' A',HH T n ρ' A' H' ((rs.take i).foldl dX Mg)/\A'.a=A.a/\H' d=some (.fB Qk (.dK (gu rs)))/\ρ' d=none/\Fr n ρ H ρ' H'/\Due ((rs.take i).foldl dX Mg) (rs.drop i)/\∃s3 s4 s5 s6,σ=[some (.ref A.a),some (.ref l),some (.ref d),s3,s4,s5,s6])
  ⟨ρ6,A6,zK.By XZ hd6 rfl rfl,e6,ai,XZ,F6.new hdn,acH,_,_,_,_,Z⟩ (fun i σ H' hi hp=>by obtain ⟨_,_,_,_,e,_⟩:=hp;exact ⟨e,hi⟩) (fun σ H' hp=>by obtain ⟨_,_,_,_,e,_⟩:=hp;exact ⟨e,aN _⟩) ?_ ?_
 . rintro i x σ H7 H8 hi ⟨ρ7,A7,yz,e7,Tr,Tt,F7,due,s3,s4,s5,s6,rfl⟩ ⟨pp,kv,hpp,hkv,rfl,rfl⟩
   unfold gu at hkv
   rw [bN] at hkv
   obtain ⟨r,er,rfl⟩:=jx.mp hkv
   have hir:i<rs.length:=by rw [<-al];exact hi
   have edr:rs.drop i=r::rs.drop (i+1):=by
    rw [List.drop_eq_getElem_cons hir]
    rw [bq hir] at er
    rw [gq er]
   rw [edr] at due
   have g4:=aF hpp (.tup [.str r.1, .int r.2])
   have Qn:=yz.mono g4
   have hd8:=g4 _ _ Tr
   have F8:=F7.trans (Fr.of_same (ρ:=ρ7) g4)
   have IQ:upd H7 pp (.tup [.str r.1, .int r.2]) pp=some (.tup [.str r.1, .int r.2]):=ai
   show zP K 2 _ _ _ (upd H7 pp (.tup [.str r.1, .int r.2])) _
   generalize upd H7 pp (.tup [.str r.1, .int r.2])=H8 at *
   refine ⟨pp,_,Z,cQ.of IQ,Z,_,_,Z,_,_,Z,Z,?_⟩
   have eN:(rs.take (i+1)).foldl dX Mg=dX ((rs.take i).foldl dX Mg) r:=by rw [take_snoc er,Gr];rfl
   have Tu:((r::rs.drop (i+1)).map (fun r:Row=>r.1)).Nodup:=by rw [<-edr,List.map_drop];exact nd.sublist (List.drop_sublist _ _)
   refine ⟨_,Z,A.a,A7.dx,_,Z,by rw [<-e7];exact Qn.h.oa,Z,_,Z,_,Z,⟨⟨n,ρ7,A7,_,r,by rw [e7];rfl,Qn,due r cV,Pp yz.wf due,fun ρ9 A9 H9 hh9 e9 f9=>?_⟩⟩⟩
   obtain ⟨hd9,cd9⟩:=f9 d _ hd8 (fun t x=>by rw [Tt];intro z;cases z)
   rw [Tt] at cd9
   rw [<-eN] at hh9
   exact ⟨ρ9,A9,hh9,e9.trans e7,hd9,cd9,F8.trans f9,by rw [eN];exact HM yz.wf due Tu,_,_,_,_,Z⟩
 rintro σ H7 ⟨ρ7,A7,yz,e7,Tr,Tt,F7,due,s3,s4,s5,s6,rfl⟩
 rw [al,dQ,<-ZN] at yz
 exact ⟨Tr,q ρ7 A7 _ (yz.By Tt Tr rfl rfl) e7 (F7.new hdn)⟩
abbrev pM:Stmt:=inClass (top 4) 2
abbrev gH:List Str:=["self","top"]
abbrev EY:List Str:=gH.append ["rest","step","shared"]
theorem ig:aO EY gH (aC pM):=dO
theorem Dh {T:TC} (F:gh K T.bot "over" "Bottom.over" pM f fd) (X:Txt K T) (gF:Dn P w K mg base 1 "common_factor" i8 Rn):Mn P w K mg base 2 T.bot "over" gH (vc T):=by
 refine F.oA ig fun cdv A outer s H vs Q E hr h=>?_
 obtain ⟨⟨bt,db,sp,kn,stp,prod,top,rfl,hb,hs,ep,h2,hz,q⟩⟩:=h
 refine ⟨_,(@cU.h _ _ _ (aj (aS (i:=2) ig.nd (aI K (qv 0)))
  (aj (fT gi rfl (dM K (aI K (qv 0))) (aV (i:=3) ig.nd) (aj (aS (i:=4) ig.nd (bQ gF hr (af (qv 3) (af (aG jJ (qv 1) (qv 3)) aq))))
  (av (jl (aP jA (qv 4) ah (aW _)) (aj (aS (i:=1) ig.nd (aG iu (qv 1) (qv 4)))
  (av (aS (i:=2) ig.nd (aG iu (qv 2) (qv 4))))) bB))))
  (av (bu (iE (af (qv 1) (af (qv 2) aq)))))))),?_⟩
 have p1:1<=prod:=by rw [ep];exact HF h2
 refine ⟨_,Z,bt,T.bot,db,_,_,Z,hb,X.cB,X.Hq,Z,?_⟩
 refine ⟨_,Z,bt,T.bot,db,_,_,Z,hb,X.cB,X.WR,Z,sp,Z,⟨_,aH.of hs⟩,?_⟩
 refine l7 (K:=K) (xs:=stp.map V.int) (fun i σ H'=>H'=H/\∃(t r d:Int) (s3 s4:Option V),σ=[some (.ref bt),some (.int t),some (.int r),s3,s4]/\t*prod=top*r/\r=d*(stp.drop i).foldl (·*·) 1/\0<d/\Jm.cf t d=1)
  ⟨Z,top,prod,1,none,none,Z,Z,by rw [List.drop_zero,Int.one_mul];exact ep,by decide,by unfold Jm.cf;rw [Int.gcd_one];rfl⟩ (fun i σ H' _ hp=>by rw [hp.1];exact aH.of hs) ?_ ?_
 . rintro i x σ H' hx ⟨rfl,t,r,d,s3,s4,rfl,e1,e2,d0,c⟩
   obtain ⟨st,rfl,es⟩:=fE hx
   have hm:=bO es
   have s2:=h2 st hm
   have hi:=(dP.mp es).1
   have hdr:stp.drop i=st::stp.drop (i+1):=by
    rw [List.drop_eq_getElem_cons hi]
    congr 1
    rw [bq hi] at es
    exact gq es
   rw [hdr,CW] at e2
   have r0:0<=t % st:=m8 _ (by omega)
   refine ⟨_,Z,_,Z,_,Z,_,_,Z,Z,(by show 0<st;omega),st,t % st,Z,by omega,r0,?_⟩
   rw [Jm.Lw t st (by omega)]
   obtain ⟨o1,o2⟩:=Pe d0 (by omega:0<st) c
   have gp:0<Jm.cf t st:=Jm.xD t st (.inr (by omega))
   have gz:Jm.Sz 9000 (Jm.cf t st):=((hz.of_le (by have:=S4 h2 hm;rw [<-ep] at this;omega)).dvd (by omega:0<st) (by omega) (Jm.nt t st)).mono (by decide)
   obtain ⟨u,hu⟩:=Jm.uD t st
   obtain ⟨v,hv⟩:=Jm.nt t st
   have e3:t / Jm.cf t st*prod=top*(r / Jm.cf t st):=by
    have a1:t / Jm.cf t st=u:=by rw [So (by omega) hu]
    have a2:r=Jm.cf t st*(d*v*(stp.drop (i+1)).foldl (·*·) 1):=by
     rw [e2]
     conv=>lhs;rw [hv]
     rw [jg (Jm.cf t st),Int.mul_left_comm,jg d]
    have a3:r / Jm.cf t st=d*v*(stp.drop (i+1)).foldl (·*·) 1:=by rw [So (by omega) a2]
    rw [a1,a3]
    have e1':Jm.cf t st*(u*prod)=Jm.cf t st*(top*(d*v*(stp.drop (i+1)).foldl (·*·) 1)):=by
     rw [<-jg,<-hu,e1]
     conv=>lhs;rw [a2]
     rw [Int.mul_left_comm]
    exact Int.eq_of_mul_eq_mul_left (by omega) e1'
   have e4:r / Jm.cf t st=d*(st / Jm.cf t st)*(stp.drop (i+1)).foldl (·*·) 1:=by
    have a4:st / Jm.cf t st=v:=by rw [So (by omega) hv]
    have a2:r=Jm.cf t st*(d*v*(stp.drop (i+1)).foldl (·*·) 1):=by
     rw [e2]
     conv=>lhs;rw [hv]
     rw [jg (Jm.cf t st),Int.mul_left_comm,jg d]
    rw [a4,So (by omega) a2]
   refine ⟨fun σ' H2=>H2=H'/\σ'=[some (.ref bt),some (.int (t / Jm.cf t st)),some (.int (r / Jm.cf t st)),some (.int st),some (.int (Jm.cf t st))],?_,?_⟩
   . refine ⟨_,Z,_,_,Z,Z,_,Z,aK (fun c=>?_) (fun c=>?_)⟩
     . exact ⟨_,Z,_,Z,_,_,Z,Z,vL gp gz,_,Z,_,Z,_,_,Z,Z,vL gp gz,Z,Z⟩
     . have c':¬ 1<Jm.cf t st:=rO (oS.mpr c)
       have g1:Jm.cf t st=1:=by omega
       refine ⟨Z,?_⟩
       rw [g1,AI,AI]
       rfl
   rintro σ' H2 ⟨rfl,rfl⟩
   exact ⟨Z,_,_,_,_,_,Z,e3,e4,o2,o1⟩
 rintro σ H' ⟨rfl,t,r,d,s3,s4,rfl,e1,e2,d0,c⟩
 rw [List.drop_of_length_le (by rw [aD];exact aN _),List.foldl_nil,vE] at e2
 subst e2
 refine ⟨_,Z,_,Z,(iF 2),fun p hp=>?_⟩
 refine q p _ (aF hp _) ?_
 rw [ai]
 obtain ⟨a1,a2⟩:=Jm.ON d0 c
 have:Jm.fr top prod=Jm.fr t r:=Jm.F_ (by omega) d0 e1.symm
 unfold nu
 rw [this,a1,a2]
abbrev nV:Stmt:=inClass (top 4) 3
abbrev kY:List Str:=["self","top"]
abbrev Di:List Str:=kY
theorem Cc:aO Di kY (aC nV):=dO
theorem Cd {T:TC} (F:gh K T.bot "share" "Bottom.share" nV f fd) (X:Txt K T) (dm:Mn P w K mg base 2 T.bot "over" gH (vc T)):Mn P w K mg base 3 T.bot "share" kY (Hw T):=by
 refine F.oA Cc fun cdv A outer s H vs Q E hr h=>?_
 obtain ⟨⟨bt,db,sp,kn,stp,prod,top,kvs,rfl,hb,hs,ep,h2,hz,hk,X0,kl,knd,q⟩⟩:=h
 refine ⟨_,(@cU.h _ _ _ (aj (jl (ve (yc (cW hr) (qv 1) (aI K (qv 0)))) (av (rL (cW hr) (aI K (qv 0)) (qv 1) (bR dm hr (qv 0) (af (qv 1) aq)) rfl)) bB)
  (av (bu (dg (cW hr) (aI K (qv 0)) (qv 1)))))),?_⟩
 refine ⟨fun σ' H'=>σ'=[some (.ref bt),some (.int top)]/\(∀b o,H b=some o->b≠kn->H' b=some o)/\∃kvs' r,H' kn=some (.dK kvs')/\Hj H' kvs' prod/\kvs'.length<=kvs.length+1/\(kvs'.map (·.1)).Nodup/\dh kvs' (Sum.inl top)=some (.ref r)/\H' r=some (nu (Jm.fr top prod)),?_,?_⟩
 . refine ⟨_,Z,_,Z,bt,T.bot,db,_,_,Z,hb,X.cB,X.Pb,Z,kn,_,Z,dG.k (k:=Sum.inl top) hk,_,Z,?_⟩
   cases e:dh kvs (Sum.inl top) with
   | some v=>
     refine iP ⟨Z,fun b o e _=>e,kvs,?_⟩
     obtain ⟨t,r,e2,hr2⟩:=X0 _ (RC e)
     cases e2
     exact ⟨r,hk,X0,yK _,knd,e,hr2⟩
   | none=>
     refine lu ?_
     refine ⟨_,Z,bt,db,_,Z,hb,Z,_,Z,⟨⟨bt,db,sp,kn,stp,prod,top,Z,hb,hs,ep,h2,hz,fun r H1 g1 hr1=>?_⟩⟩⟩
     have sl:kvs.length<sizeLine:=by rw [jz];omega
     refine ⟨_,Z,bt,T.bot,db,_,_,Z,g1 _ _ hb,X.cB,X.Pb,Z,_,Z,kn,_,Z,uC.k (k:=Sum.inl top) (g1 _ _ hk) sl,Z,fun b o e hb=>by rw [ay hb];exact g1 _ _ e,_,r,ai,?_,?_,Uh _ knd e,by rw [Q_,aB rfl],by rw [ay (gO hr1 (g1 _ _ hk) (by intro z;cases z))];exact hr1⟩
     . rw [l_ _ e]
       intro p hp
       rcases fZ.mp hp with z|z
       . obtain ⟨t,r',e2,hr2⟩:=X0 p z
         exact ⟨t,r',e2,by rw [ay (gO (g1 _ _ hr2) (g1 _ _ hk) (by intro z;cases z))];exact g1 _ _ hr2⟩
       . rw [fN.mp z]
         exact ⟨top,r,Z,by rw [ay (gO hr1 (g1 _ _ hk) (by intro z;cases z))];exact hr1⟩
     . rw [l_ _ e,dw]
       exact aN _
 rintro σ' H' ⟨rfl,k1,kvs',r,e1,e2,e3,e4,e5,e6⟩
 exact ⟨_,Z,bt,T.bot,db,_,_,Z,k1 _ _ hb (gO hb hk (by intro z;cases z)),X.cB,X.Pb,Z,_,Z,kn,_,Z,e5▸dG.k (k:=Sum.inl top) e1,q r H' kvs' k1 e1 e2 e3 e4 e6⟩
abbrev pN:Stmt:=inClass (top 21) 12
abbrev lV:List Str:=["self","part"]
abbrev EZ:List Str:=lV.append ["tops"]
theorem vq:aO EZ lV (aC pN):=dO
theorem Dj {T:TC} (F:gh K T.hold "shares" "Hold.shares" pN f fd) (X:Txt K T) (ie:Mn P w K mg base 1 T.hold "part_of" dY (zV T)) (eX:Mn P w K mg base 1 T.hold "tops_of" ia (yU T)) (pO:Mn P w K mg base 3 T.bot "share" kY (Hw T)) (gR:mg "zip"=none):Mn P w K mg base 4 T.hold "shares" lV (BO T):=by
 refine F.oA vq fun cdv A outer s H vs Q E hr h=>?_
 obtain ⟨⟨n,ρ,A,st,ip,pt,rfl,hh,ep,hkn,q⟩⟩:=h
 obtain ⟨qq,eq,k1,k2,k3,k4⟩:=hh.h.find ep
 have d9:=bO ep
 refine ⟨_,(@cU.h _ _ _ (aj (aS (i:=2) vq.nd (bR eX hr (qv 0) (af (bR ie hr (qv 0) (af (qv 1) aq)) aq)))
  (av (bu (H_ (z7 ["owner","top","self"] [none,none,some 0] rfl (pB K (by rfl) gR (af (aI K (qv 0)) (af (qv 2) aq))) (fun _ _ _ _=>(g_ K (n:=2) rfl (cj (aV (i:=0) (show List.Nodup (["owner","top","self"] :List Str) from by decide +kernel)) (cj (aV (i:=1) (show List.Nodup (["owner","top","self"] :List Str) from by decide +kernel)) gY)))) (fun _ _ _ _=>(iE (af (qv 0) (af (bR pO hr (aI K (qv 2)) (af (qv 1) aq)) aq)))) (fun _ _ _ _=>(aP jA (qv 1) ah (aW _))) rfl (by rfl))))))),?_⟩
 refine ⟨_,Z,A.a,A.dx,_,Z,hh.h.oa,Z,_,Z,A.a,A.dx,_,Z,hh.h.oa,Z,_,Z,⟨⟨n,ρ,A,st,ip,pt,qq,Z,hh.h,hh.wf.c6,ep,eq,?_⟩⟩⟩
 refine ⟨⟨n,ρ,A,st,ip,pt,qq,Z,hh.h,hh.wf,ep,eq,fun l H1 g1 hl hl1=>?_⟩⟩
 have ju:=hh.mono g1
 have cl:ρ l=none:=hh.g.none hl
 have tl:(a_ st pt).length=st.own.length:=by
  unfold a_
  rw [kh,hh.wf.rows pt d9,hh.wf.fC,vD]
 have fR:=hh.wf.jD
 refine ⟨A.pl,_,ju.h.gT,fun ob=>?_⟩
 have hl2:upd H1 A.pl (.fB ob (.dK (fj 0 st.own))) l=some (.lst ((a_ st pt).map V.int)):=d8 ju.h.gT hl1 (fun k z=>by cases z)
 refine ⟨_,Z,A.a,T.hold,A.dx,_,_,Z,d8 ju.h.gT ju.h.oa (fun k z=>by cases z),X.cH,X.hpl,Z,_,Z,_,_,_,_,_,_,Z, .keys ai, .lst (aH.of hl2),fun acc hacc=>?_⟩
 have ur:H1 acc=none:=o6 ju.h.gT hacc
 have ca:ρ acc=none:=ju.g.none ur
 have Mh:acc≠A.pl:=fun e=>by rw [e,ai] at hacc;cases hacc
 have nal:acc≠l:=fun e=>by rw [e,hl1] at ur;cases ur
 refine LB (K:=K) (n:=st.own.length) [0,1] (fun i out Hc=>∃H5,Hc=upd H5 A.pl (.fB ob (.dK (fj 0 st.own)))/\Gh ρ H5/\Fr n ρ H ρ H5/\aL T n ρ A H5 { st with kn:=st.kn+i }/\H5 l=some (.lst ((a_ st pt).map V.int))/\mh H5 out (((List.zip st.own (a_ st pt)).take i).filterMap fun x=>if 0<x.2 then some (x.1,Jm.fr x.2 st.prod) else none))
  (by decide) (by omega) ⟨upd H1 acc (.lst []),jE (cM Mh),ju.g.alloc ur,(Fr.of_same (ρ:=ρ) g1).trans (Fr.of_same (aF ur _)),ju.h.mono (aF ur _),by rw [ay (cM nal)];exact hl1, .nil⟩ ?_ ?_ ?_ ?_
 . rintro i out Hc hi ha ⟨H5,rfl,G5,F5,h5,l5,S5⟩
   exact ⟨ai,aH.of (d8 h5.gT l5 (fun k z=>by cases z)),by rw [aD,nF];exact hi,by rw [aD,tl];exact hi⟩
 . rintro out Hc ha ⟨H5,rfl,G5,F5,h5,l5,S5⟩
   exact ⟨ai,aH.of (d8 h5.gT l5 (fun k z=>by cases z)), .inr (by rw [aD,tl];exact aN _)⟩
 . rintro i x out Hc H2 hi wN ha ⟨H5,rfl,G5,F5,h5,l5,S5⟩ ⟨pp,x1,y1,hpp,rfl,rfl,e1,e2⟩
   obtain ⟨t,rfl,et⟩:=fE e2
   rw [Hs,bN] at e1
   obtain ⟨o,eo,rfl⟩:=jx.mp e1
   have npl:pp≠A.pl:=fun e=>by rw [e,ai] at hpp;cases hpp
   have acI:H5 pp=none:=o6 h5.gT hpp
   have ez:(List.zip st.own (a_ st pt))[i]?=some (o,t):=by rw [List.getElem?_zip_eq_some];exact ⟨eo,et⟩
   have g6:=aF acI (.tup [.str o, .int t])
   have e6:upd (upd H5 A.pl (.fB ob (.dK (fj 0 st.own)))) pp (.tup [.str o, .int t])=upd (upd H5 pp (.tup [.str o, .int t])) A.pl (.fB ob (.dK (fj 0 st.own))):=jE (cM npl)
   rw [e6]
   have G6:=G5.same g6
   have F6:=F5.trans (Fr.of_same (ρ:=ρ) g6)
   have h6:=h5.mono g6
   have l6:=g6 _ _ l5
   have S6:=S5.mono g6.tups
   have t6:upd H5 pp (.tup [.str o, .int t]) pp=some (.tup [.str o, .int t]):=ai
   have IW:upd H5 pp (.tup [.str o, .int t]) acc=some (.lst out):=by
    rw [ay Mh] at ha
    exact g6 _ _ ha
   generalize upd H5 pp (.tup [.str o, .int t])=H6 at *
   have fz:∀{b:Addr} {u:HO},H6 b=some u->(∀k,u ≠ .dK k)->upd H6 A.pl (.fB ob (.dK (fj 0 st.own))) b=some u:=fun e k=>d8 h6.gT e k
   refine ⟨pp,_,Z,cQ.of (fz t6 (fun k z=>by cases z)),Z,_,Z,_,_,Z,Z,_,Z,?_⟩
   refine aK (fun c=>?_) (fun c=>?_)
   . have c':0<t:=aX c
     obtain ⟨kvs,j1,j2,j3,j4⟩:=h6.okn
     have Tv:A.kn≠A.pl:=Bs h6.iC h6.gU (by intro z;cases z)
     refine ⟨_,Z,_,Z,A.a,T.hold,A.dx,_,_,Z,fz h6.oa (fun k z=>by cases z),X.cH,X.r6,Z,A.bt,A.db,_,Z,fz h6.iz (fun k z=>by cases z),Z,_,Z,
      ⟨⟨A.bt,A.db,A.sp,A.kn,st.stp,st.prod,t,kvs,Z,fz h6.iz (fun k z=>by cases z),fz h6.lH (fun k z=>by cases z),hh.wf.kP,hh.wf.oY,hh.wf.big,by rw [ay Tv];exact j1,(fun p hp=>let ⟨t,r,e,w⟩:=j2 p hp;⟨t,r,e,fz w (fun k z=>by cases z)⟩),Gk j3 (by show st.kn+i<_;omega),j4,fun r H7 kvs' b1 b2 b3 b4 b5 b6=>?_⟩⟩⟩
     have Tw:H7 A.pl=some (.fB ob (.dK (fj 0 st.own))):=b1 _ _ ai (cM Tv)
     refine ⟨(iF 2),fun tt Tz=>?_⟩
     have ntp:tt≠A.pl:=fun e=>by rw [e,Tw] at Tz;cases Tz
     have k8:∀b u,H6 b=some u->b≠A.kn->upd H7 A.pl (.dK (fj 0 st.own)) b=some u:=fun b u e hb=>by
      by_cases z:b=A.pl
      . rw [z] at e ⊢
        rw [show H6 A.pl=some (.dK (fj 0 st.own)) from h6.gT] at e
        cases e;exact ai
      . rw [ay z];exact b1 _ _ (by rw [ay z];exact e) hb
     have h8:=h6.RD (m:=st.kn+i+1) k8 (by rw [ay Tv];exact b2) (fun p hp=>let ⟨t,r,e,w⟩:=b3 p hp;⟨t,r,e,rG (.inr ⟨_,Tw,Z⟩) _ _ w⟩) (fP b4 (Nat.succ_le_succ j3)) b5
     have G8:Gh ρ (upd H7 A.pl (.dK (fj 0 st.own))):=fun b cc e=>by
      by_cases z:b=A.pl
      . rw [z];exact ⟨_,ai,Z⟩
      by_cases z2:b=A.kn
      . rw [z2,ay Tv];exact ⟨_,b2,Z⟩
      obtain ⟨u,a1,a2⟩:=G6 b cc e
      exact ⟨u,k8 b u a1 z2,a2⟩
     have F8:Fr n ρ H6 ρ (upd H7 A.pl (.dK (fj 0 st.own))):=fun b u e k=>⟨k8 b u e (fun z=>k 9 ⟨#[]⟩ (by rw [z];exact h6.iC)),Z⟩
     have tp8:∀b xs,H6 b=some (.tup xs)->upd H7 A.pl (.dK (fj 0 st.own)) b=some (.tup xs):=fun b xs e=>k8 b _ e (gO e j1 (by intro z;cases z))
     have acJ:upd H7 A.pl (.dK (fj 0 st.own)) tt=none:=by rw [ay ntp];exact Tz
     have back:H7=upd (upd H7 A.pl (.dK (fj 0 st.own))) A.pl (.fB ob (.dK (fj 0 st.own))):=by rw [mO,vV Tw]
     have hr8:upd H7 A.pl (.dK (fj 0 st.own)) r=some (nu (Jm.fr t st.prod)):=rG (.inr ⟨_,Tw,Z⟩) _ _ b6
     have l8:=k8 _ _ l6 (fun z=>by rw [z,j1] at l6;cases l6)
     have IT:=k8 _ _ IW (fun z=>by rw [z,j1] at IW;cases IW)
     have S8:=S6.mono tp8
     have F08:=F6.trans F8
     rw [back] at Tz ⊢
     generalize upd H7 A.pl (.dK (fj 0 st.own))=H8 at *
     have g9:=aF acJ (.tup [.str o, .ref r])
     rw [jE (cM ntp)]
     refine ⟨by rw [ay Mh];exact g9 _ _ IT,_,jE (cM Mh),(G8.same g9).wr rfl,(F08.trans (Fr.of_same (ρ:=ρ) g9)).new (g1.free ur),?_,?_,?_⟩
     . exact (h8.mono g9).same (Hz ca (g9 _ _ IT) rfl)
     . rw [ay (cM nal)];exact g9 _ _ l8
     . rw [take_snoc ez,List.filterMap_append,Gi]
       simp only [c',if_true,List.filterMap_nil]
       exact ((S8.mono g9.tups).snoc ai (g9 _ _ hr8)).mono (rG (.inr ⟨_,g9 _ _ IT,Z⟩))
   . have c':¬ 0<t:=rO (oS.mpr c)
     refine ⟨by rw [ay Mh];exact IW,H6,Z,G6,F6,?_,l6,?_⟩
     . obtain ⟨kvs,j1,j2,j3,j4⟩:=h6.okn
       exact h6.RD (m:=st.kn+i+1) (fun b u e _=>e) j1 j2 (Nat.le_succ_of_le j3) j4
     . rw [take_snoc ez,List.filterMap_append,Gi]
       simp only [c',pW,List.filterMap_nil,yH]
       exact S6
 . rintro out Hc wN ha ⟨H5,rfl,G5,F5,h5,l5,S5⟩
   rw [List.take_of_length_le (by rw [List.length_zip,tl];omega)] at S5
   refine ⟨ai,?_⟩
   rw [mO,vV (show H5 A.pl=some (.dK (fj 0 st.own)) from h5.gT)]
   rw [ay Mh] at ha
   obtain ⟨kvs,j1,j2,j3,j4⟩:=h5.okn
   have h9:=h5.RD (m:=st.kn+100) (fun b u e _=>e) j1 j2 (fP j3 (by show st.kn+st.own.length<=st.kn+100;omega)) j4
   exact q acc out H5 ⟨G5,h9,Zo hh.wf hkn⟩ F5 (g1.free ur) ha ca S5
abbrev qS:Stmt:=inClass (top 21) 4
abbrev nW:List Str:=["self","owner","amount"]
abbrev IZ:List Str:=nW.append ["place","whole","added"]
theorem lW:aO IZ nW (aC qS):=dO
theorem Dk {T:TC} {e:Ec} (F:gh K T.hold "award" "Hold.award" qS f fd) (X:Txt K T) (eL:Mx P w K mg base 1 T.hold "place_of" dF (wg T e)) (dD:Dx P w K mg base 1 "check_amount" h_ (ye e)) (dU:Mn P w K mg base 1 T.hold "whole" iH (u_ T)) (jv:Mn P w K mg base 3 T.hold "blend" kF (CY T K)) (bZ:mg "len"=none) (gQ:f_ K e.z6) (i9:mg "TooMuch"=some (.ref e.z6)):Mx P w K mg base 4 T.hold "award" nW (Ie T e):=by
 refine F.w_ lW fun cdv A outer s H vs Q E hr h=>?_
 obtain ⟨⟨n,ρ,A,st,o,a,rfl,hh,aw,dq⟩⟩:=h
 refine ⟨_,(@cU.h _ _ _ (aj (aS (i:=3) lW.nd (kW eL hr (qv 0) (af (qv 1) aq)))
  (aj (cA (BJ dD hr (af (qv 2) aq)))
  (aj (aS (i:=4) lW.nd (yX dU hr (qv 0)))
  (aj (b_ (aP FY (qv 2) (qv 4) (aW _)) (av (jF gQ (by rfl) i9)) bB)
  (aj (aS (i:=5) lW.nd (aG OF (i7 (af ah aq)) (bF tY (by rfl) bZ fG (af (aI K (qv 0)) aq))))
  (aj (lJ (aG fD (qv 2) (aI K (aI K (qv 0)))) (lK (qv 5) (qv 3) set_list))
  (av (cA (bR jv hr (qv 0) (af (aG ki (qv 4) (qv 2)) (af (qv 4) (af (qv 5) aq))))))))))))),?_⟩
 have wf:=hh.wf
 refine ⟨_,Z,A.a,A.dx,_,Z,hh.h.oa,Z,_,Z,⟨⟨n,ρ,A,st,o,Z,hh.h,fun ho=>dq.no 2 (by unfold kr;exact aA ho),fun ho=>?_⟩⟩⟩
 refine ⟨_,Z,⟨⟨a,Z,fun h5=>dq.no 5 (by unfold kr;rw [aB ho,aB h5]),fun h1=>?_⟩⟩⟩
 refine ⟨_,Z,A.a,A.dx,_,Z,hh.h.oa,Z,⟨⟨n,ρ,A,st,Z,hh.h,wf.mj,fun H1 g1=>?_⟩⟩⟩
 refine ⟨_,Z,_,Z,_,_,Z,Z,_,Z,aK (fun c=>?_) (fun c=>?_)⟩
 . have c':aM st<=a:=aX c
   exact fun y=>dq.no 6 (by unfold kr;rw [aB ho,aA (show ¬ a<1 by omega),aB c']) y H1 g1
 have c':¬ aM st<=a:=rO (oS.mpr c)
 have q:=dq.ok (by unfold kr;rw [aB ho,aA (show ¬ a<1 by omega),aA c'])
 have ju:=hh.mono g1
 have F1:Fr n ρ H ρ H1:=Fr.of_same g1
 clear hh
 refine ⟨(iF 1),fun p0 hp0=>?_⟩
 have g2:=aF hp0 (.lst [.int 0])
 have mZ:=ju.mono g2
 have F2:=F1.trans (Fr.of_same (ρ:=ρ) g2)
 have R9:upd H1 p0 (.lst [.int 0]) p0=some (.lst [.int 0]):=ai
 generalize upd H1 p0 (.lst [.int 0])=H2 at *
 clear ju F1
 have zJ:=nF st.own 0
 have fR:=mZ.wf.jD
 refine ⟨_,Z,A.a,T.hold,A.dx,_,_,Z,mZ.h.oa,X.cH,X.hpl,Z,A.pl,_,Z,mZ.h.gT,p0,_,_,Z,Z,R9,by omega,by rw [zJ];omega,by rw [zJ];show 1*_<=_;rw [rP,Nat.one_mul];exact small (by omega),fun p1 hp1=>?_⟩
 rw [zJ,rP,show (List.replicate st.own.length [V.int 0]).flatten=(List.replicate st.own.length (0:Int)).map V.int from by rw [List.map_replicate,List.flatten_replicate_singleton]]
 have g3:=aF hp1 (.lst ((List.replicate st.own.length (0:Int)).map V.int))
 have nS:=mZ.mono g3
 have F3:=F2.trans (Fr.of_same (ρ:=ρ) g3)
 have n1:H p1=none:=(g1.trans g2).free hp1
 have c1:ρ p1=none:=mZ.g.none hp1
 have yx:upd H2 p1 (.lst ((List.replicate st.own.length (0:Int)).map V.int)) p1=_:=ai
 generalize upd H2 p1 (.lst ((List.replicate st.own.length (0:Int)).map V.int))=H3 at *
 have hi:=List.idxOf_lt_length_iff.mpr ho
 have bo:=aw.blend (o:=o) wf h1 (by omega)
 have za:GA a st.prod:= .inl (by have:(aM st).natAbs<2 ^ 60:=aw.big;omega)
 refine ⟨_,Z,_,Z,A.a,T.hold,A.dx,_,_,Z,nS.h.oa,X.cH,X.r6,Z,A.bt,T.bot,A.db,_,_,Z,nS.h.iz,X.cB,X.Hq,Z,_,_,Z,Z,za,_,Z,_,Z,p1,_,_,st.own.idxOf o,Z,Z,yx,by rw [aD,m5];exact u0 hi,?_⟩
 rw [show ((List.replicate st.own.length (0:Int)).map V.int).set (st.own.idxOf o) (V.int (a*st.prod))=(jj st o a).map V.int from by unfold jj;rw [rA]]
 have qD:=nS.By (o:= .lst ((jj st o a).map V.int)) c1 yx rfl rfl
 have F4:=F3.new (o:= .lst ((jj st o a).map V.int)) n1
 have R_:upd H3 p1 (.lst ((jj st o a).map V.int)) p1=_:=ai
 generalize upd H3 p1 (.lst ((jj st o a).map V.int))=H4 at *
 have zk:Jm.Sz 60 (aM st-a):=bo.big.of_le (by omega)
 have zG:∀m∈jj st o a,0<=m/\Jm.Sz 8900 m:=fun m hm=>by
  have Bu:=bo.add m hm
  have h2:=wf.dW
  have zl:Jm.Sz 60 a:=bo.big.of_le (by omega)
  exact ⟨Bu.1,Jm.Sz.kj (by have:=m9 bo.l (show 0<=st.prod by omega);omega) Bu.2 ((zl.mul bo.prod).mono (by decide))⟩
 exact ⟨_,Z,A.a,A.dx,_,Z,qD.h.oa,Z,_,Z,_,Z,_,_,Z,Z,_,Z,_,Z,⟨⟨n,ρ,A,st,aM st-a,aM st,p1,jj st o a,Z,qD,aH.of R_,bo.len,bo.k,by omega,zk,bo.big,zG,aw.bH,aw.stp,vY wf bo,fun ρ6 A6 H6 zK e6 f6=>q ρ6 A6 H6 zK e6 (F4.trans f6)⟩⟩⟩
abbrev pP:Stmt:=inClass (top 21) 5
abbrev lX:List Str:=["self","part","amount"]
abbrev E1:List Str:=lX
theorem Dl:aO E1 lX (aC pP):=dO
theorem Ce {T:TC} {e:Ec} (F:gh K T.hold "mishap" "Hold.mishap" pP f fd) (X:Txt K T) (bV:Mx P w K mg base 1 T.hold "part_of" dY (kq T e)) (lY:Dx P w K mg base 2 "check_loss" kD (Ic e)) (iR:Mn P w K mg base 1 T.hold "lessen" jN (HJ T)):Mx P w K mg base 3 T.hold "mishap" lX (Es T e):=by
 refine F.w_ Dl fun cdv A outer s H vs Q E hr h=>?_
 obtain ⟨⟨n,ρ,A,st,x,a,rfl,hh,dq⟩⟩:=h
 refine ⟨_,(@cU.h _ _ _ (aj (cA (BJ lY hr (af (aI K (kW bV hr (qv 0) (af (qv 1) aq))) (af (qv 2) aq))))
  (av (cA (bR iR hr (qv 0) (af (qv 1) (af (qv 2) aq))))))),?_⟩
 refine ⟨_,Z,A.a,A.dx,_,Z,hh.h.oa,Z,_,Z,⟨⟨n,ρ,A,st,x,Z,hh.h,hh.wf.c6,fun hn=>dq.no 3 ?_,fun i p qq e1 e2 e3=>?_⟩⟩⟩
 . unfold jU;rw [aA (fun z=>?_)]
   obtain ⟨j,p,h1,h2⟩:=jG z
   exact hn p (bO h1) h2
 obtain ⟨k1,_⟩:=hh.h.opt i p qq e2 e3
 have hm:x∈fu st:=by rw [<-e1];exact yY e2
 have d9:=bO e2
 have ew:(cE st x).wo=p.wo:=by rw [c8 hh.wf d9 e1]
 refine ⟨qq.1,T.part,qq.2.1,_,_,Z,k1,X.cP,X.t8,Z,_,Z,⟨⟨p.wo,a,Z,fun h5=>dq.no 5 ?_,fun h1 h6=>dq.no 6 ?_,fun h1 h2=>?_⟩⟩⟩
 . unfold jU;rw [aB hm,aB h5]
 . unfold jU;rw [aB hm,aA (show ¬ a<1 by omega)];show (if (cE st x).wo<a then _ else _)=_;rw [ew,aB h6]
 have ho:=dq.ok (by unfold jU;rw [aB hm,aA (show ¬ a<1 by omega)];show (if (cE st x).wo<a then _ else _)=_;rw [ew,aA (by omega)])
 exact ⟨_,Z,A.a,A.dx,_,Z,hh.h.oa,Z,_,Z,_,Z,⟨⟨n,ρ,A,st,(x,a),Z,hh,⟨p,d9,e1,h2⟩,CZ hh.wf (fun p' gb e'=>by rw [rH hh.wf gb d9 (e'.trans e1.symm)];exact h2),ho⟩⟩⟩
abbrev sZ:Stmt:=inClass (top 21) 6
abbrev p_:List Str:=["self","part","amount"]
abbrev Km:List Str:=p_.append ["risen"]
theorem yC:aO Km p_ (aC sZ):=dO
theorem E2 {T:TC} {e:Ec} (F:gh K T.hold "rise" "Hold.rise" sZ f fd) (X:Txt K T) (bV:Mx P w K mg base 1 T.hold "part_of" dY (kq T e)) (dD:Dx P w K mg base 1 "check_amount" h_ (ye e)):Mx P w K mg base 2 T.hold "rise" p_ (LU T e):=by
 refine F.w_ yC fun cdv A outer s H vs Q E hr h=>?_
 obtain ⟨⟨n,ρ,A,st,x,a,rfl,hh,dq⟩⟩:=h
 refine ⟨_,(@cU.h _ _ _ (aj (aS (i:=3) yC.nd (kW bV hr (qv 0) (af (qv 1) aq)))
  (aj (cA (BJ dD hr (af (qv 2) aq)))
  (av (nM K (qv 3) (qv 2) VY))))),?_⟩
 refine ⟨_,Z,A.a,A.dx,_,Z,hh.h.oa,Z,_,Z,⟨⟨n,ρ,A,st,x,Z,hh.h,hh.wf.c6,fun hn=>dq.no 3 ?_,fun i p qq e1 e2 e3=>?_⟩⟩⟩
 . unfold lS;rw [aA (fun z=>?_)]
   obtain ⟨j,p,h1,h2⟩:=jG z
   exact hn p (bO h1) h2
 subst e1
 obtain ⟨k1,k2,k3,k4⟩:=hh.h.opt i p qq e2 e3
 have hm:=yY e2
 refine ⟨_,Z,⟨⟨a,Z,fun h5=>dq.no 5 ?_,fun h1=>?_⟩⟩⟩
 . unfold lS;rw [aB hm,aB h5]
 have ho:=dq.ok (by unfold lS;rw [aB hm,aA (show ¬ a<1 by omega)])
 refine ⟨_,Z,qq.1,T.part,qq.2.1,_,_,Z,k1,X.cP,X.t8,Z,_,Z,_,_,Z,Z,qq.2.1,_,k1,by show 6<1000;decide,?_⟩
 have Bu:=hh.h.iD (p1:={ p with wo:=p.wo+a }) hh.g e2 e3 rfl rfl hh.wf.c6
 have hw:Wf (Gd st p.nm a):=yf hh.wf fun q hq _=>⟨Z,Z,Z,Z,by have:=(hh.wf.jw q hq).1;show 1<=q.wo+a;omega,(hh.wf.jw q hq).2⟩
 have es:Gd st p.nm a={ st with ak:=st.ak.set i { p with wo:=p.wo+a } }:=pF hh.wf.c6 e2 _
 rw [es] at ho hw
 exact ho ρ A _ ⟨hh.g.wr rfl,Bu,hw⟩ rfl (Fr.write k3)
abbrev s_:Stmt:=inClass (top 21) 7
abbrev qa:List Str:=["self","part","taker"]
abbrev Kn:List Str:=qa.append ["handed","to","at","tops"]
theorem kG:aO Kn qa (aC s_):=dO
theorem E3 {T:TC} {e:Ec} (F:gh K T.hold "hand" "Hold.hand" s_ f fd) (X:Txt K T) (bV:Mx P w K mg base 1 T.hold "part_of" dY (kq T e)) (eL:Mx P w K mg base 1 T.hold "place_of" dF (wg T e)) (eX:Mn P w K mg base 1 T.hold "tops_of" ia (yU T)) (eW:Mn P w K mg base 1 T.hold "beyond_common" fU (Nm T K)):Mx P w K mg base 2 T.hold "hand" qa (LV T e):=by
 refine F.w_ kG fun cdv A outer s H vs Q E hr h=>?_
 obtain ⟨⟨n,ρ,A,st,x,o,rfl,hh,hs,dq⟩⟩:=h
 refine ⟨_,(@cU.h _ _ _ (aj (aS (i:=3) kG.nd (kW bV hr (qv 0) (af (qv 1) aq)))
  (aj (aS (i:=4) kG.nd (kW eL hr (qv 0) (af (qv 2) aq)))
  (aj (aS (i:=5) kG.nd (kW eL hr (qv 0) (af (aI K (qv 3)) aq)))
  (aj (b_ (aP dB (qv 4) (qv 5) (aW _)) (av UO) bB)
  (aj (aS (i:=6) kG.nd (bR eX hr (qv 0) (af (qv 3) aq)))
  (aj (LQ (qv 6) (qv 4) Im (aJ (cy K) (qv 6) (qv 5)) VG set_list)
  (aj (lJ ah (lK (qv 6) (qv 5) set_list))
  (aj (c_ K (qv 3) (qv 2))
  (aj (c_ K (qv 3) ah)
  (av (c_ K (qv 3) (bR eW hr (qv 0) (af (qv 6) aq)))))))))))))),?_⟩
 have wf:=hh.wf
 refine ⟨_,Z,A.a,A.dx,_,Z,hh.h.oa,Z,_,Z,⟨⟨n,ρ,A,st,x,Z,hh.h,wf.c6,fun hn=>dq.no 3 ?_,fun i p qq e1 e2 e3=>?_⟩⟩⟩
 . unfold kR;rw [aA (fun z=>?_)]
   obtain ⟨j,p,h1,h2⟩:=jG z
   exact hn p (bO h1) h2
 have d9:=bO e2
 have eg:cE st x=p:=c8 wf d9 e1
 subst e1
 have hm:=yY e2
 refine ⟨_,Z,A.a,A.dx,_,Z,hh.h.oa,Z,_,Z,⟨⟨n,ρ,A,st,o,Z,hh.h,fun ho=>dq.no 2 (by unfold kR;rw [aB hm,aA ho]),fun ho=>?_⟩⟩⟩
 have eR:kR st p.nm o=none:=by unfold kR;rw [aB hm,aB ho]
 have q:=dq.ok eR
 have wS:=LX wf eR hs
 obtain ⟨k1,k2,k3,k4⟩:=hh.h.opt i p qq e2 e3
 have TF:=wf.ow p d9
 refine ⟨_,Z,A.a,A.dx,_,Z,hh.h.oa,Z,_,Z,qq.1,T.part,qq.2.1,_,_,Z,k1,X.cP,X.pow,Z,⟨⟨n,ρ,A,st,p.ow,Z,hh.h,fun z=>absurd TF z,fun _=>?_⟩⟩⟩
 refine ⟨_,Z,_,Z,Z,_,Z,aK (fun c=>?_) (fun c=>?_)⟩
 . have c':st.own.idxOf o=st.own.idxOf p.ow:=by have:=V.int.inj (aX c);omega
   unfold fH at q
   rw [eg,aB c'] at q
   exact q ρ A H hh rfl Fr.refl
 have ne:st.own.idxOf o≠st.own.idxOf p.ow:=fun z=>c (aY (by rw [z]))
 have hl:=BN wf d9
 have ha:st.own.idxOf p.ow<(a_ st p).length:=by rw [hl];exact tQ TF
 have hb:st.own.idxOf o<(a_ st p).length:=by rw [hl];exact tQ ho
 have at':∀{l:List Int} {j:Nat},j<l.length->qj (l.map V.int) (j:Int)=some (.int (l.getD j 0)):=fun {l j} h=>au (by rw [bN,lF,bq h];rfl)
 unfold fH at q wS
 rw [eg,aA ne,pF wf.c6 e2] at q wS
 generalize hTT:kT st p o=TT at *
 rw [wm] at hTT
 refine ⟨_,Z,A.a,A.dx,_,Z,hh.h.oa,Z,_,Z,⟨⟨n,ρ,A,st,i,p,qq,Z,hh.h,wf,e2,e3,fun l H1 g1 sV hl1=>?_⟩⟩⟩
 have cl:ρ l=none:=hh.g.none sV
 refine ⟨_,Z,_,Z,l,_,_,_,Z,Z,aH.of hl1,at' hb,_,Z,_,Z,l,_,_,_,Z,Z,aH.of hl1,at' ha,_,_,Z,Z,l,_,_,st.own.idxOf o,Z,Z,hl1,by rw [aD];exact u0 hb,?_⟩
 have m1:(List.map V.int (a_ st p)).set (st.own.idxOf o) (.int ((a_ st p).getD (st.own.idxOf o) 0+(a_ st p).getD (st.own.idxOf p.ow) 0))=((a_ st p).set (st.own.idxOf o) ((a_ st p).getD (st.own.idxOf o) 0+(a_ st p).getD (st.own.idxOf p.ow) 0)).map V.int:=rA.symm
 rw [m1]
 refine ⟨_,Z,_,Z,l,_,_,st.own.idxOf p.ow,Z,Z,ai,by rw [aD,gK];exact u0 ha,?_⟩
 have m2:(((a_ st p).set (st.own.idxOf o) ((a_ st p).getD (st.own.idxOf o) 0+(a_ st p).getD (st.own.idxOf p.ow) 0)).map V.int).set (st.own.idxOf p.ow) (.int 0)=TT.map V.int:=by rw [<-hTT];exact rA.symm
 rw [m2,mO]
 have g3:aQ H (upd H1 l (.lst (TT.map V.int))):=g1.cJ sV _
 have hl3:upd H1 l (.lst (TT.map V.int)) l=some (.lst (TT.map V.int)):=ai
 generalize upd H1 l (.lst (TT.map V.int))=H3 at *
 have nS:=hh.mono g3
 have c3:=g3 _ _ k1
 have hi:i<st.ak.length:=(dP.mp e2).1
 have tl:TT.length=st.own.length:=by rw [<-hTT,C4,hl]
 clear hl1 g1 m1 m2
 refine ⟨_,Z,_,Z,qq.1,T.part,qq.2.1,_,Z,c3,X.cP,X.pow,by show 6<1000;decide,?_⟩
 have hA:=nS.h.iD (p1:={ p with ow:=o }) nS.g e2 e3 rfl rfl wf.c6
 have gA:Gh ρ (upd H3 qq.1 (.ins T.part qq.2.1 (cO { p with ow:=o } qq.2.2))):=nS.g.wr rfl
 have FA:Fr n ρ H ρ (upd H3 qq.1 (.ins T.part qq.2.1 (cO { p with ow:=o } qq.2.2))):=(Fr.of_same g3).trans (Fr.write k3)
 have kA:upd H3 qq.1 (.ins T.part qq.2.1 (cO { p with ow:=o } qq.2.2)) qq.1=some (.ins T.part qq.2.1 (cO { p with ow:=o } qq.2.2)):=ai
 have nA:∀b,upd H3 qq.1 (.ins T.part qq.2.1 (cO { p with ow:=o } qq.2.2)) b=none->H b=none:=fun b h=>g3.free (je h)
 have lA:upd H3 qq.1 (.ins T.part qq.2.1 (cO { p with ow:=o } qq.2.2)) l=some (.lst (TT.map V.int)):=by rw [ay (fun z=>by rw [z,k3] at cl;cases cl)];exact hl3
 show vJ _ _ _ _ (upd H3 qq.1 (.ins T.part qq.2.1 (cO { p with ow:=o } qq.2.2)))
 generalize upd H3 qq.1 (.ins T.part qq.2.1 (cO { p with ow:=o } qq.2.2))=H4 at *
 refine ⟨_,Z,qq.1,T.part,qq.2.1,_,Z,kA,X.cP,X.D8,by show 6<1000;decide,?_⟩
 have ndA:((st.ak.set i { p with ow:=o }).map (·.nm)).Nodup:=by rw [rA,qx (by rw [bN,e2];rfl)];exact wf.c6
 have hB:=hA.iD (i:=i) (p1:={ p with ow:=o,sc:=1 }) gA (oQ hi) e3 rfl rfl ndA
 have gB:Gh ρ (upd H4 qq.1 (.ins T.part qq.2.1 (cO { p with ow:=o,sc:=1 } qq.2.2))):=gA.wr rfl
 have FB:Fr n ρ H ρ (upd H4 qq.1 (.ins T.part qq.2.1 (cO { p with ow:=o,sc:=1 } qq.2.2))):=FA.trans (Fr.write k3)
 have kB:upd H4 qq.1 (.ins T.part qq.2.1 (cO { p with ow:=o,sc:=1 } qq.2.2)) qq.1=some (.ins T.part qq.2.1 (cO { p with ow:=o,sc:=1 } qq.2.2)):=ai
 have lB:upd H4 qq.1 (.ins T.part qq.2.1 (cO { p with ow:=o,sc:=1 } qq.2.2)) l=some (.lst (TT.map V.int)):=by rw [ay (fun z=>by rw [z,k3] at cl;cases cl)];exact lA
 have nB:∀b,upd H4 qq.1 (.ins T.part qq.2.1 (cO { p with ow:=o,sc:=1 } qq.2.2)) b=none->H b=none:=fun b h=>nA b (je h)
 have TH:(st.ak.set i { p with ow:=o }).set i { p with ow:=o,sc:=1 }=st.ak.set i { p with ow:=o,sc:=1 }:=tU ..
 have hB:aL T n ρ A (upd H4 qq.1 (.ins T.part qq.2.1 (cO { p with ow:=o,sc:=1 } qq.2.2))) { st with ak:=st.ak.set i { p with ow:=o,sc:=1 } }:=by rw [<-TH];exact hB
 generalize hH5:upd H4 qq.1 (HO.ins T.part qq.2.1 (aT _ _ _))=H5
 have acK:upd H4 qq.1 (.ins T.part qq.2.1 (cO { p with ow:=o,sc:=1 } qq.2.2))=H5:=hH5
 rw [acK] at hB gB FB kB lB nB
 clear hA gA FA kA nA lA
 have ol:=wf.jD
 refine ⟨_,Z,A.a,A.dx,_,Z,hB.oa,Z,_,Z,⟨⟨n,ρ,A,_,l,TT,Z,hB,aH.of lB,by show _=st.br.length;rw [tl,wf.fC],by omega,fun r H6 g6 hr0 hr1=>?_⟩⟩⟩
 have cr:ρ r=none:=gB.none hr0
 have h6:=hB.mono g6
 have G6:=gB.same g6
 have F6:Fr n ρ H (cN ρ r (n,21,p.nm)) H6:=(FB.trans (Fr.of_same (ρ:=ρ) g6)).mz (nB _ hr0)
 have hC:aL T n (cN ρ r (n,21,p.nm)) A H6 _:=h6.same ⟨fun _ _ e=>e,fun b u x w _ hc he=>⟨he,by rw [cC (fun z=>by rw [z,cr] at hc;cases hc)];exact hc⟩⟩
 have GC:Gh (cN ρ r (n,21,p.nm)) H6:=G6.color hr1 rfl
 have ndB:((st.ak.set i { p with ow:=o,sc:=1 }).map (·.nm)).Nodup:=by rw [rA,qx (by rw [bN,e2];rfl)];exact wf.c6
 have hD:=hC.RT (p1:={ p with ow:=o,sc:=1,row:=ko st TT }) GC (oQ hi) e3 rfl di hr1 ndB
 refine ⟨_,Z,qq.1,T.part,qq.2.1,_,Z,g6 _ _ kB,X.cP,X.Ho,by show 6<1000;decide,?_⟩
 refine q _ { A with qs:=A.qs.set i (qq.1,qq.2.1,r) } _ ⟨GC.wr rfl,?_,wS⟩ rfl (F6.trans (Fr.write (t:=20) (x:=p.nm) (by rw [cC (fun z=>by rw [<-z,k3] at cr;cases cr)];exact k3)))
 have eS2:(st.ak.set i { p with ow:=o,sc:=1 }).set i { p with ow:=o,sc:=1,row:=ko st TT }=st.ak.set i { p with ow:=o,sc:=1,row:=ko st TT }:=tU ..
 rw [<-eS2]
 exact hD
abbrev tD:Stmt:=inClass (top 21) 8
abbrev qb:List Str:=["self","part"]
abbrev Ko:List Str:=qb.append ["leaving","gains"]
theorem tE:aO Ko qb (aC tD):=dO
theorem E4 {T:TC} {e:Ec} (F:gh K T.hold "land" "Hold.land" tD f fd) (X:Txt K T) (bV:Mx P w K mg base 1 T.hold "part_of" dY (kq T e)) (b8:Mn P w K mg base 1 T.hold "place_of" dF (rF T)) (eX:Mn P w K mg base 1 T.hold "tops_of" ia (yU T)) (E5:Mn P w K mg base 4 T.hold "shares" lV (BO T)) (gR:mg "zip"=none):Mx P w K mg base 5 T.hold "land" qb (LZ T e):=by
 refine F.w_ tE fun cdv A outer s H vs Q E hr h=>?_
 obtain ⟨⟨n,ρ,A,st,x,rfl,hh,ld,dq⟩⟩:=h
 refine ⟨_,(@cU.h _ _ _ (aj (aS (i:=2) tE.nd (kW bV hr (qv 0) (af (qv 1) aq)))
  (aj (cA (kU oO oM oN ef (aI K (qv 0)) (af (iE (af (aI K (qv 2)) (af (aI K (qv 2)) (af (aI K (qv 2)) (af (bR E5 hr (qv 0) (af (qv 1) aq)) aq))))) aq)))
  (aj (rJ (i:=3) ["purse","top","leaving"] [none,none,some 2] tE.nd rfl rfl rfl (pB K (by rfl) gR (af (aI K (qv 0)) (af (bR eX hr (qv 0) (af (qv 2) aq)) aq))) (fun _ _ _ _=>(g_ K (n:=2) rfl (cj (aV (i:=0) (show List.Nodup (["purse","top","leaving"] :List Str) from by decide +kernel)) (cj (aV (i:=1) (show List.Nodup (["purse","top","leaving"] :List Str) from by decide +kernel)) gY)))) (fun _ _ _ _=>(aG bY (qv 0) (aG fD (aI K (qv 2)) (qv 1)))) rfl (by rfl) (by rfl))
  (aj (LQ (qv 3) (bR b8 hr (qv 0) (af (aI K (qv 2)) aq)) Im (aG fD (aI K (qv 2)) (aI K (aI K (qv 0)))) VH set_list)
  (aj (c_ K (qv 0) (qv 3))
  (av (LR (aI K (qv 0)) (qv 1))))))))),?_⟩
 refine ⟨_,Z,A.a,A.dx,_,Z,hh.h.oa,Z,_,Z,⟨⟨n,ρ,A,st,x,Z,hh.h,hh.wf.c6,fun hn=>dq.no 3 ?_,fun i p qq e1 e2 e3=>?_⟩⟩⟩
 . unfold ue;rw [aA (fun z=>?_)]
   obtain ⟨j,p,h1,h2⟩:=jG z
   exact hn p (bO h1) h2
 subst e1
 have wf:=hh.wf
 have d9:=bO e2
 have eR:ue st p.nm=none:=aB (yY e2)
 have q:=dq.ok eR
 have wS:=L3 wf eR ld
 rw [sL wf d9] at q wS
 obtain ⟨k1,k2,k3,k4⟩:=hh.h.opt i p qq e2 e3
 obtain ⟨O_,hv0,hA0⟩:=hh.h.oK
 refine ⟨_,Z,A.a,T.hold,A.dx,_,_,Z,hh.h.oa,X.cH,X.has,Z, .inl ⟨Z,_,aH.of hv0⟩,_,Z,qq.1,T.part,qq.2.1,_,_,Z,k1,X.cP,X.S0,Z,_,Z,qq.1,T.part,qq.2.1,_,_,Z,k1,X.cP,X.pow,Z,_,Z,qq.1,T.part,qq.2.1,_,_,Z,k1,X.cP,X.t8,Z,_,Z,A.a,A.dx,_,Z,hh.h.oa,Z,_,Z,⟨⟨n,ρ,A,st,i,p,Z,hh,e2,ld.kn,fun r ws H1 ju F1 hr0 hr1 cr1 sh1=>?_⟩⟩⟩
 have hi:i<st.ak.length:=(dP.mp e2).1
 refine ⟨(iF 4),fun t ht=>?_⟩
 have g2:=aF ht (.tup [.str p.nm, .str p.ow, .int p.wo, .ref r])
 have XC:∀b,H1 b=none->H b=none:=fun b hb=>F1.ZD ju.g hb
 have XD:∀b,upd H1 t (.tup [.str p.nm, .str p.ow, .int p.wo, .ref r]) b=none->H b=none:=fun b hb=>XC b (je hb)
 have mZ:=ju.mono g2
 have F2:=F1.trans (Fr.of_same (ρ:=ρ) g2)
 have hr2:=g2 _ _ hr1
 have sh2:=sh1.mono g2.tups
 have ht2:upd H1 t (.tup [.str p.nm, .str p.ow, .int p.wo, .ref r]) t=some (.tup [.str p.nm, .str p.ow, .int p.wo, .ref r]):=ai
 show qG _ (upd H1 t (.tup [.str p.nm, .str p.ow, .int p.wo, .ref r])) _
 generalize upd H1 t (.tup [.str p.nm, .str p.ow, .int p.wo, .ref r])=H2 at *
 clear g2 sh1 hr1 F1
 have cH:aL T n (cN ρ r (n,30,⟨#[]⟩)) A H2 { st with kn:=st.kn+100 }:=mZ.h.same ⟨fun _ _ e=>e,fun b u x w _ hc he=>⟨he,by rw [cC (fun z=>by rw [z,cr1] at hc;cases hc)];exact hc⟩⟩
 have cG:Gh (cN ρ r (n,30,⟨#[]⟩)) H2:=mZ.g.color hr2 rfl
 have cF:Fr n ρ H (cN ρ r (n,30,⟨#[]⟩)) H2:=F2.mz hr0
 have cr2:cN ρ r (n,30,⟨#[]⟩) r=some (n,30,⟨#[]⟩):=di
 generalize cN ρ r (n,30,⟨#[]⟩)=ρ2 at *
 clear mZ F2
 obtain ⟨EF,hv2,hA2⟩:=cH.oK
 have hal:EF.length<1000:=by rw [show EF.length=st.dj.length from hA2.length];exact ld.dj
 refine ⟨A.as,EF,_,Z,Z,hv2,dH (by omega),?_⟩
 have h3:aL T n ρ2 A (upd H2 A.as (.lst (EF++[.ref t]))) { st with dj:=st.dj++[⟨p.nm,p.ow,p.wo,nG st p⟩],kn:=st.kn+100 }:=cH.WJ (x:=⟨p.nm,p.ow,p.wo,nG st p⟩) cG hv2 ht2 hr2 cr2 sh2
 have G3:=cG.wr (a:=A.as) (o:= .lst (EF++[.ref t])) rfl
 have F3:=cF.trans (Fr.write (o:= .lst (EF++[.ref t])) cH.iw)
 have Tf:∀b,upd H2 A.as (.lst (EF++[.ref t])) b=none->H b=none:=fun b hb=>XD b (je hb)
 have wf3:Wf { st with dj:=st.dj++[⟨p.nm,p.ow,p.wo,nG st p⟩],kn:=st.kn+100 }:={ wf with r8:=wS.r8,D9:=wS.D9 }
 generalize upd H2 A.as (.lst (EF++[.ref t]))=H3 at *
 clear cH cG cF hv2 hA2 ht2 hr2 sh2
 obtain ⟨j1,j2,_,_⟩:=h3.opt i p qq e2 e3
 refine ⟨_,Z,A.a,T.hold,A.dx,_,_,Z,h3.oa,X.cH,X.xQ,Z,_,Z,A.a,A.dx,_,Z,h3.oa,Z,_,Z,⟨⟨n,ρ2,A,_,i,p,qq,Z,h3,wf3,e2,e3,fun l H4 g4 sV hl1=>?_⟩⟩⟩
 have hl1:H4 l=some (.lst ((a_ st p).map V.int)):=hl1
 have tl:=BN wf d9
 have fR:=wf.jD
 have jC:=wf.jC
 have j4:=g4 _ _ j1
 have zw:=ld.wo p d9
 refine ⟨_,_,_,_,_,_,Z, .lst (aH.of (g4 _ _ h3.jL)), .lst (aH.of hl1),fun acc hacc=>?_⟩
 refine xM (K:=K) (n:=st.bH.length) [0,1] (fun i out H5=>aQ H4 H5/\out=(List.zipWith (fun u t=>u+p.wo*t) (st.bH.take i) ((a_ st p).take i)).map V.int) (by decide) (by omega) ⟨aF hacc _,Z⟩ (fun i out H5 hi _ hp=>⟨aH.of (hp.1 _ _ (g4 _ _ h3.jL)),aH.of (hp.1 _ _ hl1),by rw [aD];exact hi,by rw [aD,tl];omega⟩)
  (fun out H5 _ hp=>⟨aH.of (hp.1 _ _ (g4 _ _ h3.jL)),aH.of (hp.1 _ _ hl1), .inl (by rw [aD];exact aN _)⟩) ?_ ?_
 . rintro k x out H5 H6 hk acL ha ⟨g5,e5⟩ ⟨pp,x1,y1,hpp,rfl,rfl,e6,e7⟩
   obtain ⟨u,rfl,eu⟩:=fE e6
   obtain ⟨c,rfl,ec⟩:=fE e7
   have g6:=aF hpp (.tup [.int u, .int c])
   refine ⟨pp,_,Z,cQ.of ai,Z,_,Z,_,Z,qq.1,T.part,qq.2.1,_,_,Z,(g5.trans g6) _ _ j4,X.cP,X.t8,Z,_,Z,_,_,Z,Z, .inl (by have:p.wo.natAbs<2 ^ 60:=zw;omega),_,_,Z,Z,g6 _ _ ha,(g5.trans g6).cJ hacc _,?_⟩
   rw [qw _ eu ec,e5,bL]
   rfl
 rintro out H5 acL X3 ⟨g5,e5⟩
 rw [dQ,show st.bH.length=(a_ st p).length by omega,dQ] at e5
 have e5:out=(gj st p).map V.int:=e5
 subst e5
 have X4:H3 acc=none:=g4.free hacc
 have X5:=g4.trans g5
 have h5:=h3.mono X5
 have G5:=G3.same X5
 have F5:=F3.trans (Fr.of_same (ρ:=ρ2) X5)
 have ca:ρ2 acc=none:=G3.none X4
 have j5:=g5 _ _ j4
 have hown:=wf.ow p d9
 have gl:=yh wf d9
 have hix:st.own.idxOf p.ow<(gj st p).length:=by rw [gl];exact tQ hown
 refine ⟨_,Z,_,Z,A.a,A.dx,_,Z,h5.oa,Z,_,Z,qq.1,T.part,qq.2.1,_,_,Z,j5,X.cP,X.pow,Z,⟨⟨n,ρ2,A,_,p.ow,Z,h5,hown,?_⟩⟩⟩
 have at':qj ((gj st p).map V.int) ((st.own.idxOf p.ow:Nat):Int)=some (.int ((gj st p).getD (st.own.idxOf p.ow) 0)):=au (by rw [bN,lF,bq hix];rfl)
 refine ⟨acc,_,_,_,Z,Z,aH.of X3,at',_,Z,qq.1,T.part,qq.2.1,_,_,Z,j5,X.cP,X.t8,Z,_,Z,A.a,T.hold,A.dx,_,_,Z,h5.oa,X.cH,X.r6,Z,A.bt,T.bot,A.db,_,_,Z,h5.iz,X.cB,X.Hq,Z,_,_,Z,Z, .inl (by have:p.wo.natAbs<2 ^ 60:=zw;omega),_,_,Z,Z,acc,_,_,st.own.idxOf p.ow,Z,Z,X3,by rw [aD];exact u0 hix,?_⟩
 have m1:((gj st p).map V.int).set (st.own.idxOf p.ow) (.int ((gj st p).getD (st.own.idxOf p.ow) 0-p.wo*st.prod))=(mC st p).map V.int:=rA.symm
 have G6:=G5.wr (a:=acc) (o:= .lst ((mC st p).map V.int)) rfl
 have h6:=h5.same (Hz (o:= .lst ((mC st p).map V.int)) ca X3 rfl)
 have n6:H acc=none:=Tf acc X4
 have F6:=F5.new (o:= .lst ((mC st p).map V.int)) n6
 show vJ _ _ _ _ (upd H5 acc (.lst (((gj st p).map V.int).set (st.own.idxOf p.ow) (.int ((gj st p).getD (st.own.idxOf p.ow) 0-p.wo*st.prod)))))
 rw [m1]
 have IW:upd H5 acc (.lst ((mC st p).map V.int)) acc=some (.lst ((mC st p).map V.int)):=ai
 generalize upd H5 acc (.lst ((mC st p).map V.int))=H6 at *
 refine ⟨_,Z,_,Z,A.a,T.hold,A.dx,_,Z,h6.oa,X.cH,X.xQ,by show 7<1000;decide,?_⟩
 obtain ⟨h7,G7⟩:=xX (t:=7) h6 G6 ca IW rfl
 have F7:Fr n ρ H (cN ρ2 acc (n,7,⟨#[]⟩)) H6:=F6.mz n6
 have h8:=h7.Pa G7 acc _ IW di
 have G8:=G7.wr (a:=A.a) (o:= .ins T.hold A.dx (jb { A with pu:=acc })) rfl
 have F8:=F7.trans (Fr.write (o:= .ins T.hold A.dx (jb { A with pu:=acc })) h7.ca)
 rw [show aT "purses" (V.ref acc) (jb A)=jb { A with pu:=acc } from rfl]
 generalize upd H6 A.a (.ins T.hold A.dx (jb { A with pu:=acc }))=H8 at *
 have hv8:=rE wf.c6 e2 e3
 have dk:=zW wf.c6 hh.h.ql e2
 refine ⟨_,Z,A.a,T.hold,A.dx,_,_,Z,h8.oa,X.cH,X.hab,Z,_,Z,A.ab,_,Sum.inr p.nm,Z,h8.dN,Z,?_,?_⟩
 . show (dh (cg st.ak A.qs) (Sum.inr p.nm)).isSome=true
   rw [hv8];rfl
 show Q .bU (upd H8 A.ab (.dK (kM (cg st.ak A.qs) (Sum.inr p.nm))))
 rw [dk]
 have hi2:i<A.qs.length:=by rw [hh.h.ql];exact hi
 have h9:=h8.Hl G8 (st.ak.eraseIdx i) (A.qs.eraseIdx i) (by rw [Mp hi,Mp hi2,hh.h.ql]) (fun j x y ex ey=>by
  obtain ⟨k,a1,a2⟩:=xU ex ey
  exact h8.opt k x y a1 a2)
 rw [sJ wf.c6 e2] at q wS
 exact q _ { { A with pu:=acc } with qs:=A.qs.eraseIdx i } _ ⟨G8.wr rfl,h9,wS⟩ rfl (F8.trans (Fr.write h8.fK))
abbrev qT:Stmt:=inClass (top 21) 9
abbrev nX:List Str:=["self","part","name","amount","weight"]
abbrev I0:List Str:=nX.append ["source"]
theorem xh:aO I0 nX (aC qT):=dO
theorem Dm {T:TC} {e:Ec} (F:gh K T.hold "sever" "Hold.sever" qT f fd) (X:Txt K T) (bV:Mx P w K mg base 1 T.hold "part_of" dY (kq T e)) (jh:Mx P w K mg base 3 T.hold "check_new" iG (uH T e)) (jQ:Mn P w K mg base 1 T.hold "stow" lM (Hv T)) (vm:Cn P w K mg base 1 "Part" T.part ["self","name","owner","worth","weight","scale","row"] (CT T K)) (jq:f_ K e.x8) (jP:mg "BadNumber"=some (.ref e.x8)) (gQ:f_ K e.z6) (i9:mg "TooMuch"=some (.ref e.z6)):Mx P w K mg base 4 T.hold "sever" nX (Ig T e):=by
 refine F.w_ xh fun cdv A outer s H vs Q E hr h=>?_
 obtain ⟨⟨n,ρ,A,st,x,y,a,we,rfl,I_,hy0,hl1,hl2,dq⟩⟩:=h
 refine ⟨_,(@cU.h _ _ _ (aj (aS (i:=5) xh.nd (kW bV hr (qv 0) (af (qv 1) aq)))
  (aj (cA (kW jh hr (qv 0) (af (qv 2) aq)))
  (aj (b_ (jO (bW.pt (BI (aP nh (qv 3) ah (aW _)) (yd (aP nh (qv 4) ah (aW _)))))) (av (jF jq (by rfl) jP)) bB)
  (aj (b_ (jO (bW.pt (BI (aP FY (qv 3) (aI K (qv 5)) (aW _)) (yd (aP jA (qv 4) (aI K (qv 5)) (aW _)))))) (av (jF gQ (by rfl) i9)) bB)
  (aj (nM K (qv 5) (qv 3) GD)
  (aj (nM K (qv 5) (qv 4) GD)
  (av (cA (bR jQ hr (qv 0) (af (Th vm hr (af (qv 2) (af (aI K (qv 5)) (af (qv 3) (af (qv 4) (af (aI K (qv 5)) (af (aI K (qv 5)) aq))))))) aq))))))))))),?_⟩
 refine ⟨_,Z,A.a,A.dx,_,Z,I_.h.oa,Z,_,Z,⟨⟨n,ρ,A,st,x,Z,I_.h,I_.wf.c6,fun hn=>dq.no 3 ?_,fun i p qq e1 e2 e3=>?_⟩⟩⟩
 . unfold i6;rw [aA (fun z=>?_)]
   obtain ⟨j,p,h1,h2⟩:=jG z
   exact hn p (bO h1) h2
 have d9:=bO e2
 have eg:cE st x=p:=c8 I_.wf d9 e1
 subst e1
 have hm:=yY e2
 have eR:i6 st p.nm y a we=match newR st y with
  | some i=>some i
  | none=>if a<1\/we<0 then some 5 else if p.wo<=a\/p.we<we then some 6 else none:=by unfold i6;rw [aB hm,eg];first|done|(cases newR st y <;> rfl)
 refine ⟨_,Z,A.a,A.dx,_,Z,I_.h.oa,Z,_,Z,⟨⟨n,ρ,A,st,y,Z,I_.h,hy0,fun i hi=>dq.no i (by rw [eR,hi]),fun hnew H1 g1=>?_⟩⟩⟩
 rw [hnew] at eR
 have eR:i6 st p.nm y a we=if a<1\/we<0 then some 5 else if p.wo<=a\/p.we<we then some 6 else none:=eR
 have hh:=I_.mono g1
 obtain ⟨k1,k2,k3,k4⟩:=hh.h.opt i p qq e2 e3
 by_cases hb:a<1\/we<0
 . have rq:=dq.no 5 (by rw [eR,aB hb])
   refine ⟨true,⟨_,Z,_,_,Z,Z,_,Z,aK (fun c=>⟨Z,Z⟩) fun c=>⟨_,Z,_,_,Z,Z,_,Z,aY (hb.resolve_left fun z=>c (aY z)),Z⟩⟩,lu fun y=>rq y H1 g1⟩
 rw [aA hb] at eR
 refine ⟨false,⟨_,Z,_,_,Z,Z,_,Z,aK (fun c=>absurd (aX c) (by omega)) fun _=>⟨_,Z,_,_,Z,Z,_,Z,dR (by omega),Z⟩⟩,iP ?_⟩
 by_cases hb2:p.wo<=a\/p.we<we
 . have rq:=dq.no 6 (by rw [eR,aB hb2])
   refine ⟨true,⟨_,Z,_,Z,qq.1,T.part,qq.2.1,_,_,Z,k1,X.cP,X.t8,Z,_,_,Z,Z,_,Z,aK (fun c=>⟨Z,Z⟩) fun c=>⟨_,Z,_,Z,qq.1,T.part,qq.2.1,_,_,Z,k1,X.cP,X.S3,Z,_,_,Z,Z,_,Z,aY (hb2.resolve_left fun z=>c (aY z)),Z⟩⟩,lu fun y=>rq y H1 g1⟩
 rw [aA hb2] at eR
 have q:=dq.ok eR
 refine ⟨false,⟨_,Z,_,Z,qq.1,T.part,qq.2.1,_,_,Z,k1,X.cP,X.t8,Z,_,_,Z,Z,_,Z,aK (fun c=>absurd (aX c) (by show ¬ p.wo<=a;omega)) fun _=>⟨_,Z,_,Z,qq.1,T.part,qq.2.1,_,_,Z,k1,X.cP,X.S3,Z,_,_,Z,Z,_,Z,dR (by show ¬ p.we<we;omega),Z⟩⟩,iP ?_⟩
 refine ⟨_,Z,qq.1,T.part,qq.2.1,_,_,Z,k1,X.cP,X.t8,Z,_,Z,_,_,Z,Z,qq.2.1,_,k1,by show 6<1000;decide,?_⟩
 have wA:Wf (nK st p.nm fun p=>{ p with wo:=p.wo-a }):=yf hh.wf fun p' gb e=>by
  rw [rH hh.wf gb d9 e];exact ⟨Z,Z,Z,Z,by show 1<=p.wo-a;omega,(hh.wf.jw p d9).2⟩
 have wB:Wf (nK st p.nm fun p=>{ p with wo:=p.wo-a,we:=p.we-we }):=yf hh.wf fun p' gb e=>by
  rw [rH hh.wf gb d9 e];exact ⟨Z,Z,Z,Z,by show 1<=p.wo-a;omega,by show 0<=p.we-we;omega⟩
 have wS:=Ih hh.wf eR hl1 hl2
 have esA:nK st p.nm (fun p=>{ p with wo:=p.wo-a })={ st with ak:=st.ak.set i { p with wo:=p.wo-a } }:=pF hh.wf.c6 e2 _
 have esB:nK st p.nm (fun p=>{ p with wo:=p.wo-a,we:=p.we-we })={ st with ak:=st.ak.set i { p with wo:=p.wo-a,we:=p.we-we } }:=pF hh.wf.c6 e2 _
 have hi:i<st.ak.length:=(dP.mp e2).1
 have hA:=hh.h.iD (p1:={ p with wo:=p.wo-a }) hh.g e2 e3 rfl rfl hh.wf.c6
 have gA:Gh ρ (upd H1 qq.1 (.ins T.part qq.2.1 (cO { p with wo:=p.wo-a } qq.2.2))):=hh.g.wr rfl
 have FA:Fr n ρ H ρ (upd H1 qq.1 (.ins T.part qq.2.1 (cO { p with wo:=p.wo-a } qq.2.2))):=(Fr.of_same g1).trans (Fr.write k3)
 have kA:upd H1 qq.1 (.ins T.part qq.2.1 (cO { p with wo:=p.wo-a } qq.2.2)) qq.1=some (.ins T.part qq.2.1 (cO { p with wo:=p.wo-a } qq.2.2)):=ai
 have nA:∀b,upd H1 qq.1 (.ins T.part qq.2.1 (cO { p with wo:=p.wo-a } qq.2.2)) b=none->H b=none:=fun b h=>g1.free (je h)
 show vJ _ _ _ _ (upd H1 qq.1 (.ins T.part qq.2.1 (cO { p with wo:=p.wo-a } qq.2.2)))
 generalize upd H1 qq.1 (.ins T.part qq.2.1 (cO { p with wo:=p.wo-a } qq.2.2))=H2 at *
 refine ⟨_,Z,qq.1,T.part,qq.2.1,_,_,Z,kA,X.cP,X.S3,Z,_,Z,_,_,Z,Z,qq.2.1,_,kA,by show 6<1000;decide,?_⟩
 have hB:=hA.iD (i:=i) (p1:={ p with wo:=p.wo-a,we:=p.we-we }) gA (oQ hi) e3 rfl rfl (by have:=wA.c6;rw [esA] at this;exact this)
 have TH:(st.ak.set i { p with wo:=p.wo-a }).set i { p with wo:=p.wo-a,we:=p.we-we }=st.ak.set i { p with wo:=p.wo-a,we:=p.we-we }:=tU ..
 have gB:Gh ρ (upd H2 qq.1 (.ins T.part qq.2.1 (cO { p with wo:=p.wo-a,we:=p.we-we } qq.2.2))):=gA.wr rfl
 have FB:Fr n ρ H ρ (upd H2 qq.1 (.ins T.part qq.2.1 (cO { p with wo:=p.wo-a,we:=p.we-we } qq.2.2))):=FA.trans (Fr.write k3)
 have kB:upd H2 qq.1 (.ins T.part qq.2.1 (cO { p with wo:=p.wo-a,we:=p.we-we } qq.2.2)) qq.1=some (.ins T.part qq.2.1 (cO { p with wo:=p.wo-a,we:=p.we-we } qq.2.2)):=ai
 generalize hH3:upd H2 qq.1 (HO.ins T.part qq.2.1 (aT _ _ _))=H3
 have Sf:upd H2 qq.1 (.ins T.part qq.2.1 (cO { p with wo:=p.wo-a,we:=p.we-we } qq.2.2))=H3:=hH3
 have nB:∀b,H3 b=none->H b=none:=fun b h=>nA b (je (by rw [Sf];exact h))
 rw [Sf] at hB gB FB kB
 have nS:HH T n ρ A H3 (nK st p.nm fun p=>{ p with wo:=p.wo-a,we:=p.we-we }):=⟨gB,by rw [esB,<-TH];exact hB,wB⟩
 obtain ⟨_,r3,_,_⟩:=hB.opt i { p with wo:=p.wo-a,we:=p.we-we } qq (by show ((st.ak.set i _).set i _)[i]?=_;rw [TH];exact oQ hi) e3
 clear hA hB gA FA kA hH3 Sf
 refine ⟨_,Z,A.a,A.dx,_,Z,nS.h.oa,Z,_,Z,_,Z,qq.1,T.part,qq.2.1,_,_,Z,kB,X.cP,X.pow,Z,_,Z,_,Z,_,Z,qq.1,T.part,qq.2.1,_,_,Z,kB,X.cP,X.D8,Z,_,Z,qq.1,T.part,qq.2.1,_,_,Z,kB,X.cP,X.Ho,Z,?_⟩
 intro v dv hv hdv hvd
 have XE:upd (upd H3 dv (.own v)) v (.ins T.part dv []) qq.2.2=some (.lst (p.row.map V.int)):=by rw [ay (aE r3 hv),ay (aE r3 hdv)];exact r3
 refine ⟨⟨v,dv,qq.2.2,⟨y,p.ow,a,we,p.sc,p.row⟩,Z,ai,aH.of XE,fun rr H6 hrr k6 XF Sb=>⟨Z,?_⟩⟩⟩
 have IL:H3 rr=none:=je (je hrr)
 have g6:aQ H3 H6:=fun b u e=>k6 b u (by rw [ay (aE e hv),ay (aE e hdv)];exact e) (aE e hv)
 have zK:=nS.mono g6
 have F6:=FB.trans (Fr.of_same (ρ:=ρ) g6)
 unfold nL at wS q
 rw [eg] at wS q
 exact ⟨⟨n,ρ,A,_,(v,dv,rr),_,Z,zK,XF,Sb,nS.g.none hv,nS.g.none IL,(kX eR).2.1.2,wS,fun ρ' A' H' a1 a2 a3=>q ρ' A' H' a1 a2 (a3.fr F6 (nB _ hv) (nB _ IL))⟩⟩
abbrev lD:Stmt:=inClass (top 21) 26
abbrev iI:List Str:=["self","place"]
abbrev Am:List Str:=iI.append ["own"]
theorem q_:aO Am iI (aC lD):=dO
theorem zh {T:TC} (F:gh K T.hold "stake_top" "Hold.stake_top" lD f fd) (X:Txt K T) (dU:Mn P w K mg base 1 T.hold "whole" iH (u_ T)) (fJ:mg "sum"=none):Mn P w K mg base 2 T.hold "stake_top" iI (wH T):=by
 refine F.oA q_ fun cdv A outer s H vs Q E hr h=>?_
 obtain ⟨⟨n,ρ,A,st,k,rfl,h,ok,hk,q⟩⟩:=h
 refine ⟨_,(@cU.h _ _ _ (aj (aS (i:=2) q_.nd (bF (mS K rfl) (by rfl) fJ xo (af (H_ (gE ["part","place"] [none,some 1] rfl (yV (aI K (qv 0))) (fun _ _ _ _=>(aV (i:=0) (show List.Nodup (["part","place"] :List Str) from by decide +kernel))) (fun _ _ _ _=>(aG gW (aG fD (aI K (qv 0)) (aI K (qv 0))) (aJ (cy K) (aI K (qv 0)) (qv 1)))) rfl (by rfl))) aq)))
  (av (bu (aG bY (qv 2) (aG fD (yX dU hr (qv 0)) (aJ (cy K) (aI K (qv 0)) (qv 1)))))))),?_⟩
 have wf:=ok.wf
 have hl:=wf.mj
 refine ⟨A.ab,_,h.dN,fun o=>?_⟩
 refine ⟨_,Z,A.a,T.hold,A.dx,_,_,Z,d8 h.dN h.oa (fun k z=>by cases z),X.cH,X.hab,Z,A.ab,o,_,Z,ai,fun acc hacc=>?_⟩
 have el:=u9 h.ql
 refine iW (n:=st.ak.length) 0 (fun i out H1=>aQ (upd H A.ab (.fB o (.dK (cg st.ak A.qs)))) H1/\out=((st.ak.take i).map fun p:Pt=>p.wo*p.sc*p.row.getD k 0).map V.int) (by omega) ⟨aF hacc _,Z⟩ (fun i out H1 hi _ hp=>⟨hp.1 _ _ ai,by rw [el];exact hi⟩) (fun out H1 _ hp=>⟨hp.1 _ _ ai,by rw [el];exact aN _⟩) ?_ ?_
 . rintro i x out H1 H2 hi fR ha ⟨g,e⟩ ⟨rfl,kv,hkv,rfl⟩
   have ep:=bq hi
   have d9:=zO hi
   obtain ⟨qq,eq,h1,h2,_⟩:=h.find ep
   rw [u7 ep eq] at hkv
   cases hkv
   generalize st.ak[i]=p at *
   have hq:=g _ _ (d8 h.dN h1 (fun k z=>by cases z))
   have hrw:=g _ _ (d8 h.dN h2 (fun k z=>by cases z))
   have hkr:k<p.row.length:=by rw [wf.rows p d9];exact hk
   have s1:Jm.Sz 8000 p.sc:=Jm.Sz.kj (by have:=wf.nD p d9;have:=wf.dW;omega) (wf.nD p d9).2 wf.big
   have hr0:=wf.lz p d9 _ (EB hkr)
   have s2:Jm.Sz 8000 (p.row.getD k 0):=Jm.Sz.kj hr0.1 hr0.2 wf.big
   have s3:=(ok.wo p d9).mul s1
   have cm:GA p.wo p.sc:= .inl (by have:p.wo.natAbs<2 ^ 60:=ok.wo p d9;omega)
   refine ⟨_,Z,qq.1,T.part,qq.2.1,_,_,Z,hq,X.cP,X.t8,Z,_,Z,qq.1,T.part,qq.2.1,_,_,Z,hq,X.cP,X.D8,Z,_,_,Z,Z,cm,_,Z,qq.1,T.part,qq.2.1,_,_,Z,hq,X.cP,X.Ho,Z,_,Z,qq.2.2,_,_,_,Z,Z,aH.of hrw,getD_at hkr,_,_,Z,Z,gC s3 s2,ha,g.cJ hacc _,?_⟩
   rw [take_snoc ep,e,bL,bL]
   rfl
 rintro out H1 fR ha ⟨g,e⟩
 rw [dQ] at e
 have hz:=g _ _ (ai (H:=H) (a:=A.ab) (o:= .fB o (.dK (cg st.ak A.qs))))
 have na:acc≠A.ab:=fun e=>by rw [e,hz] at ha;cases ha
 refine ⟨hz,acc,st.ak.map (fun p:Pt=>p.wo*p.sc*p.row.getD k 0),Z,aH.of (by rw [ay na,ha,e]),?_⟩
 have g2:=se h.dN g
 generalize upd H1 A.ab (.dK (cg st.ak A.qs))=H2 at *
 have h2:=h.mono g2
 have hkc:k<st.br.length:=by rw [wf.fC];exact hk
 refine ⟨_,Z,_,Z,A.a,A.dx,_,Z,h2.oa,Z,⟨⟨n,ρ,A,st,Z,h2,hl,fun H3 g3=>?_⟩⟩⟩
 have h3:=h2.mono g3
 exact ⟨_,Z,A.a,T.hold,A.dx,_,_,Z,h3.oa,X.cH,X.xP,Z,_,Z,A.cm,_,_,_,Z,Z,aH.of h3.iN,getD_at hkc,_,_,Z,Z, .inl (by have:(aM st).natAbs<2 ^ 60:=ok.wh;omega),_,_,Z,Z,q H3 (g2.trans g3)⟩
abbrev qU:Stmt:=inClass (top 21) 14
abbrev nY:List Str:=["self","owner"]
abbrev Ja:List Str:=nY
theorem E6:aO Ja nY (aC qU):=dO
theorem E7 {T:TC} (F:gh K T.hold "stake" "Hold.stake" qU f fd) (X:Txt K T) (dm:Mn P w K mg base 2 T.bot "over" gH (vc T)) (gf:Mn P w K mg base 2 T.hold "stake_top" iI (wH T)) (b8:Mn P w K mg base 1 T.hold "place_of" dF (rF T)):Mn P w K mg base 3 T.hold "stake" nY (Iz T):=by
 refine F.oA E6 fun cdv A outer s H vs Q E hr h=>?_
 obtain ⟨⟨n,ρ,A,st,o,rfl,h,ok,ho,q⟩⟩:=h
 refine ⟨_,(@cU.h _ _ _ (av (bu (bR dm hr (aI K (qv 0)) (af (bR gf hr (qv 0) (af (bR b8 hr (qv 0) (af (qv 1) aq)) aq)) aq))))),?_⟩
 have wf:=ok.wf
 refine ⟨_,Z,A.a,T.hold,A.dx,_,_,Z,h.oa,X.cH,X.r6,Z,A.bt,A.db,_,Z,h.iz,Z,_,Z,A.a,A.dx,_,Z,h.oa,Z,_,Z,A.a,A.dx,_,Z,h.oa,Z,_,Z,⟨⟨n,ρ,A,st,o,Z,h,ho,?_⟩⟩⟩
 refine ⟨⟨n,ρ,A,st,st.own.idxOf o,Z,h,ok,tQ ho,fun H1 g1=>?_⟩⟩
 have h1:=h.mono g1
 exact ⟨⟨A.bt,A.db,A.sp,A.kn,st.stp,st.prod,_,Z,h1.iz,h1.lH,wf.kP,wf.oY,wf.big,fun r H2 g2 hr2=>q r H2 (g1.trans g2) hr2⟩⟩
abbrev qV:Stmt:=inClass (top 21) 15
abbrev nZ:List Str:=["self","owner"]
abbrev Jb:List Str:=nZ
theorem E8:aO Jb nZ (aC qV):=dO
theorem E9 {T:TC} (F:gh K T.hold "purse" "Hold.purse" qV f fd) (X:Txt K T) (dm:Mn P w K mg base 2 T.bot "over" gH (vc T)) (b8:Mn P w K mg base 1 T.hold "place_of" dF (rF T)):Mn P w K mg base 3 T.hold "purse" nZ (Ma T):=by
 refine F.oA E8 fun cdv A outer s H vs Q E hr h=>?_
 obtain ⟨⟨n,ρ,A,st,o,rfl,h,wf,ho,q⟩⟩:=h
 refine ⟨_,(@cU.h _ _ _ (av (bu (bR dm hr (aI K (qv 0)) (af (aJ (cy K) (aI K (qv 0)) (bR b8 hr (qv 0) (af (qv 1) aq))) aq))))),?_⟩
 have hk:st.own.idxOf o<st.bH.length:=by rw [wf.jC];exact tQ ho
 refine ⟨_,Z,A.a,T.hold,A.dx,_,_,Z,h.oa,X.cH,X.r6,Z,A.bt,A.db,_,Z,h.iz,Z,_,Z,A.a,T.hold,A.dx,_,_,Z,h.oa,X.cH,X.xQ,Z,_,Z,A.a,A.dx,_,Z,h.oa,Z,_,Z,⟨⟨n,ρ,A,st,o,Z,h,ho,?_⟩⟩⟩
 refine ⟨A.pu,_,_,_,Z,Z,aH.of h.jL,getD_at hk,?_⟩
 exact ⟨⟨A.bt,A.db,A.sp,A.kn,st.stp,st.prod,_,Z,h.iz,h.lH,wf.kP,wf.oY,wf.big,fun r H2 g2 hr2=>q r H2 g2 hr2⟩⟩
abbrev n5:Stmt:=inClass (top 21) 16
abbrev kZ:List Str:=["self","owner"]
abbrev Dp:List Str:=kZ.append ["place","landed"]
theorem n_:aO Dp kZ (aC n5):=dO
theorem Cf {T:TC} (F:gh K T.hold "fortune" "Hold.fortune" n5 f fd) (X:Txt K T) (dm:Mn P w K mg base 2 T.bot "over" gH (vc T)) (gf:Mn P w K mg base 2 T.hold "stake_top" iI (wH T)) (b8:Mn P w K mg base 1 T.hold "place_of" dF (rF T)) (fJ:mg "sum"=none):Mn P w K mg base 3 T.hold "fortune" kZ (Qa T):=by
 refine F.oA n_ fun cdv A outer s H vs Q E hr h=>?_
 obtain ⟨⟨n,ρ,A,st,o,rfl,h,ok,ho,q⟩⟩:=h
 refine ⟨_,(@cU.h _ _ _ (aj (aS (i:=2) n_.nd (bR b8 hr (qv 0) (af (qv 1) aq)))
  (aj (aS (i:=3) n_.nd (bF (mS K rfl) (by rfl) fJ xo (af (z7 ["name","holder","worth","shares","owner"] [none,none,none,none,some 1] rfl (dM K (aI K (qv 0))) (fun _ _ _ _=>(g_ K (n:=4) rfl (cj (aV (i:=0) (show List.Nodup (["name","holder","worth","shares","owner"] :List Str) from by decide +kernel)) (cj (aV (i:=1) (show List.Nodup (["name","holder","worth","shares","owner"] :List Str) from by decide +kernel)) (cj (aV (i:=2) (show List.Nodup (["name","holder","worth","shares","owner"] :List Str) from by decide +kernel)) (cj (aV (i:=3) (show List.Nodup (["name","holder","worth","shares","owner"] :List Str) from by decide +kernel)) gY)))))) (fun _ _ _ _=>(qv 2)) (fun _ _ _ _=>(aP dB (qv 1) (qv 4) (aW _))) rfl (by rfl)) aq)))
  (av (bu (bR dm hr (aI K (qv 0)) (af (aG bY (aG bY (bR gf hr (qv 0) (af (qv 2) aq)) (aJ (cy K) (aI K (qv 0)) (qv 2))) (aG fD (qv 3) (aI K (aI K (qv 0))))) aq))))))),?_⟩
 have wf:=ok.wf
 refine ⟨_,Z,A.a,A.dx,_,Z,h.oa,Z,_,Z,⟨⟨n,ρ,A,st,o,Z,h,ho,?_⟩⟩⟩
 obtain ⟨ws,hw,hA⟩:=h.oK
 have hl:=hA.length
 have hal:=wf.r8
 refine ⟨_,Z,A.a,T.hold,A.dx,_,_,Z,h.oa,X.cH,X.has,Z,A.as,Z,⟨_,aH.of hw⟩,fun acc hacc=>?_⟩
 refine LB (K:=K) (n:=ws.length) [0,1,2,3] (fun i out H1=>aQ H H1/\out=(((st.dj.take i).filter fun a=>decide (a.ow=o)).map fun a:oJ=>a.wo).map V.int) (by decide) (by omega) ⟨aF hacc _,Z⟩ (fun i out H1 hi _ hp=>⟨ws,_,aH.of (hp.1 _ _ hw),bq hi⟩) (fun out H1 _ hp=>⟨ws,aH.of (hp.1 _ _ hw),aN _⟩) ?_ ?_
 . rintro i x out H1 H2 hi fR ha ⟨g,e⟩ ⟨rfl,hy⟩
   have ex:=hy ws (aH.of (g _ _ hw))
   obtain ⟨r,l,y,ss,rfl,ey,a1,_⟩:=hA.get ex
   refine ⟨r,_,Z,cQ.of (g _ _ a1),Z,_,Z,_,Z,Z,_,Z,aK (fun c=>?_) (fun c=>?_)⟩
   . have c':y.ow=o:=V.str.inj (aX c)
     refine ⟨_,Z,ha,g.cJ hacc _,?_⟩
     rw [take_snoc ey,Gp,fY,aB (aY c'),bL,bL,<-e]
     rfl
   . have c':¬ y.ow=o:=fun z=>c (aY (by rw [z]))
     refine ⟨ha,g,?_⟩
     rw [take_snoc ey,Gp,fY,aA (by simpa using c'),List.filter_nil,yH]
     exact e
 rintro out H1 fR ha ⟨g1,e⟩
 rw [hl,dQ] at e
 subst e
 have h1:=h.mono g1
 have hk:st.own.idxOf o<st.bH.length:=by rw [wf.jC];exact tQ ho
 refine ⟨acc,_,Z,aH.of ha,?_⟩
 refine ⟨_,Z,A.a,T.hold,A.dx,_,_,Z,h1.oa,X.cH,X.r6,Z,A.bt,A.db,_,Z,h1.iz,Z,_,Z,A.a,A.dx,_,Z,h1.oa,Z,_,Z,⟨⟨n,ρ,A,st,st.own.idxOf o,Z,h1,ok,tQ ho,fun H2 g2=>?_⟩⟩⟩
 have h2:=h1.mono g2
 refine ⟨_,Z,A.a,T.hold,A.dx,_,_,Z,h2.oa,X.cH,X.xQ,Z,_,Z,A.pu,_,_,_,Z,Z,aH.of h2.jL,getD_at hk,_,_,Z,Z,_,Z,_,Z,A.a,T.hold,A.dx,_,_,Z,h2.oa,X.cH,X.r6,Z,A.bt,T.bot,A.db,_,_,Z,h2.iz,X.cB,X.Hq,Z,_,_,Z,Z, .inl (by have:(((st.dj.filter fun a=>decide (a.ow=o)).map fun a:oJ=>a.wo).sum).natAbs<2 ^ 60:=ok.la o;omega),_,_,Z,Z,?_⟩
 exact ⟨⟨A.bt,A.db,A.sp,A.kn,st.stp,st.prod,_,Z,h2.iz,h2.lH,wf.kP,wf.oY,wf.big,fun r H3 g3 TJ=>q r H3 ((g1.trans g2).trans g3) TJ⟩⟩
abbrev tF:Stmt:=top 26
abbrev gk:List Str:=["_law_script","_law_k","_law_j","_law_many"]
abbrev Kq:List Str:=gk.append ["_law_cell","_law_turn","_law_rest","_law_step","_law_one","_law_two"]
theorem eO:aO Kq gk (aC tF):=dO
theorem Jc (F:At K mg "_law_draw" tF f fd) (bZ:mg "len"=none) (cX:mg "range"=none):Dn P w K mg base 1 "_law_draw" gk (qm K):=by
 refine F.oA eO fun cdv A outer s H vs Q E hr h=>?_
 obtain ⟨⟨a,ns,k,j,many,rfl,hS,h63,hk,hj,hj2,hm,q⟩⟩:=h
 refine ⟨_,(@cU.h _ _ _ (aj (aS (i:=4) eO.nd ah)
  (aj (aS (i:=5) eO.nd ah)
  (aj (jl (aP jA (bF (c5 K) (by rfl) bZ fG (af (qv 0) aq)) ah (aW _)) (aj (aS (i:=4) eO.nd (aJ (cy K) (qv 0) (aG jJ (qv 1) (bF (c5 K) (by rfl) bZ fG (af (qv 0) aq)))))
  (av (aS (i:=5) eO.nd (aG iu (qv 1) (bF (c5 K) (by rfl) bZ fG (af (qv 0) aq)))))) bB)
  (aj (aS (i:=6) eO.nd (qv 4))
  (aj (fT gi rfl (mX (by rfl) cX (af (qv 2) aq)) (aV (i:=7) eO.nd) (av (aS (i:=6) eO.nd (aG iu (qv 6) (aG lG ah ah)))))
  (aj (b_ (jO (bW.pt (qA (aP dB (qv 5) ah (aW _)) (qA (aP FY (qv 4) (aG lG ah ah) (aW _)) (rK (aP jA (qv 6) ah (aW _))))))) (av (bu (aG jJ (aG jJ (qv 6) (aG lG ah ah)) (qv 3)))) bB)
  (aj (aS (i:=8) eO.nd (aG jJ (aG bY (aG bY (aG bY (aG fD (qv 4) ah) (aG fD (qv 1) ah)) (aG fD (qv 2) ah)) ah) ah))
  (aj (aS (i:=9) eO.nd (aG jJ (aG bY (aG fD (qv 8) ah) (aG iu (qv 4) ah)) ah))
  (aj (aS (i:=9) eO.nd (aG jJ (aG bY (aG fD (qv 9) (aG bY (aG jJ (qv 8) ah) ah)) (qv 2)) ah))
  (av (bu (aG jJ (aG jJ (aG bY (aG bY (aG fD (qv 8) ah) (aG fD (qv 9) ah)) (aG iu (qv 9) ah)) ah) (qv 3)))))))))))))),?_⟩
 have hl:(ns.map V.int).length=ns.length:=aD _
 refine ⟨fun σ H'=>H'=H/\σ=[some (.ref a),some (.int k),some (.int j),some (.int many),some (.int (Jm.cellOf ns k)),some (.int (Jm.xE ns k)),none,none,none,none],?_,?_⟩
 . refine ⟨_,Z,a,_,Z, .inl hS,_,_,Z,Z,_,Z,?_⟩
   refine aK (fun c=>?_) (fun c=>?_)
   . have c':0<(((ns.map V.int).length:Nat):Int):=aX c
     rw [hl] at c'
     have i0:0<=k % (ns.length:Int):=m8 _ (by omega)
     have i1:k % (ns.length:Int)<(ns.length:Int):=xu _ c'
     refine ⟨_,Z,_,Z,_,Z,a,_,Z, .inl hS,_,_,Z,Z,(by show (0:Int)<_;rw [hl];exact c'),a,_,_, .int (ns.getD (k % ns.length).toNat 0),Z,Z,hS,?_,?_⟩
     . rw [hl]
       exact Up i0 i1
     refine ⟨_,Z,_,Z,a,_,Z, .inl hS,_,_,Z,Z,Rm (n:=10) (by rw [hl];exact c') (by rw [hl];omega) (by decide),Z,?_⟩
     unfold Jm.cellOf Jm.xE
     rw [aB c',aB c',hl]
     rfl
   . have c':¬ 0<(((ns.map V.int).length:Nat):Int):=rO (oS.mpr c)
     rw [hl] at c'
     refine ⟨Z,?_⟩
     unfold Jm.cellOf Jm.xE
     rw [aA c',aA c']
     rfl
 rintro σ H' ⟨rfl,rfl⟩
 generalize ec:Jm.cellOf ns k=cell at *
 generalize et:Jm.xE ns k=turn at *
 refine ⟨_,Z,_,Z,j,Z,by omega,hj2,?_⟩
 refine mP (lo:=0) (n:=j.toNat) (fun i σ BB=>BB=H'/\∃st:Option V,σ=[some (.ref a),some (.int k),some (.int j),some (.int many),some (.int cell),some (.int turn),some (.int (Jm.A_ cell i)),st,none,none]) ⟨Z,none,Z⟩ ?_ ?_
 . rintro i σ BB hi ⟨rfl,st,rfl⟩
   refine ⟨_,Z,_,_,Z,Z,⟨by decide,by decide,by decide⟩,_,_,Z,Z,xC (by decide +kernel),Z,?_⟩
   exact ⟨_,Z⟩
 rintro σ BB ⟨rfl,st,rfl⟩
 have full:Q (.int (Jm.draw ns k j many)) BB:=q
 unfold Jm.draw at full
 rw [ec,et] at full
 generalize er:Jm.A_ cell j.toNat=rest at *
 refine ⟨decide (turn=0/\1000000000000000000<=cell/\0<rest),?_,?_⟩
 . refine ⟨_,Z,Z,_,Z,?_⟩
   by_cases h1:turn=0
   . rw [aY (by rw [h1] :V.int turn=V.int 0)]
     refine lu ⟨_,Z,_,_,Z,Z,⟨by decide,by decide,by decide⟩,_,_,Z,Z,_,Z,?_⟩
     by_cases h2:1000000000000000000<=cell
     . rw [aY (show (10:Int) ^ (18:Int).toNat<=cell from h2)]
       refine lu ⟨_,Z,_,_,Z,Z,_,Z,?_,Z⟩
       by_cases h3:0<rest
       . rw [aY h3,aY ⟨h1,h2,h3⟩]
       . rw [dR h3,dR fun z=>h3 z.2.2]
     . rw [dR (show ¬ (10:Int) ^ (18:Int).toNat<=cell from h2)]
       exact iP ⟨(dR fun z=>h2 z.2.1).symm,Z⟩
   . rw [dR (fun z=>h1 (V.int.inj z))]
     exact iP ⟨(dR fun z=>h1 z.1).symm,Z⟩
 by_cases h:turn=0/\1000000000000000000<=cell/\0<rest
 . rw [aY h]
   rw [aB h] at full
   refine lu ⟨_,Z,_,_,Z,Z,⟨by decide,by decide,by decide⟩,_,_,Z,Z,(by show (0:Int)<_;decide),_,Z,_,_,Z,Z,hm,?_⟩
   exact full
 . rw [dR h]
   rw [aA h] at full
   refine iP ?_
   refine ⟨_,Z,_,_,Z,Z, .inr ⟨by decide,by decide⟩,_,Z,_,_,Z,Z, .inr ⟨by decide,by decide⟩,_,_,Z,Z,_,Z,_,_,Z,Z, .inr ⟨by decide,by decide⟩,_,_,Z,Z,_,_,Z,Z,_,_,Z,Z,(by show (0:Int)<_;decide),?_⟩
   refine ⟨_,Z,_,_,Z,Z, .inr ⟨by decide,by decide⟩,_,Z,_,_,Z,Z,xC (by decide +kernel),_,_,Z,Z,_,_,Z,Z,(by show (0:Int)<_;decide),?_⟩
   unfold Jm.mixed at full
   dsimp only at full ⊢
   generalize e1:(cell*7919+k*104729+j*1299709+31) % 1000000007=one at *
   generalize e2:(one*48271+cell / 1009) % 998244353=two at *
   have b1:0<=one % 9973:=m8 _ (by decide)
   have b2:one % 9973<9973:=xu _ (by decide)
   refine ⟨_,Z,_,Z,_,_,Z,Z,(by show (0:Int)<_;decide),_,_,Z,Z,_,_,Z,Z, .inr ⟨by omega,by omega⟩,_,Z,_,_,Z,Z,_,_,Z,Z,(by show (0:Int)<_;decide),?_⟩
   refine ⟨_,Z,_,_,Z,Z, .inr ⟨by decide,by decide⟩,_,Z,_,_,Z,Z, .inr ⟨by decide,by decide⟩,_,_,Z,Z,_,Z,_,_,Z,Z,xC (by decide +kernel),_,_,Z,Z,_,_,Z,Z,(by show (0:Int)<_;decide),_,Z,_,_,Z,Z,hm,?_⟩
   exact full
abbrev tG:Stmt:=top 27
abbrev qc:List Str:=["_law_code","_law_size"]
abbrev Kr:List Str:=qc.append ["_law_word","_law_at_here"]
theorem kH:aO Kr qc (aC tG):=dO
theorem Jd (F:At K mg "_law_name" tG f fd) (cX:mg "range"=none):Dn P w K mg base 1 "_law_name" qc CO:=by
 refine F.oA kH fun cdv A outer s H vs Q E hr h=>?_
 obtain ⟨⟨c,n,rfl,hc,hn,q⟩⟩:=h
 refine ⟨_,(@cU.h _ _ _ (aj (aS (i:=2) kH.nd bw)
  (aj (fT gi rfl (mX (by rfl) cX (af (qv 1) aq)) (aV (i:=3) kH.nd) (aj (aS (i:=2) kH.nd (aG MQ (qv 2) (aJ OC bw (aG jJ (qv 0) ah))))
  (av (aS (i:=0) kH.nd (aG iu (qv 0) ah)))))
  (av (bu (qv 2)))))),?_⟩
 refine ⟨_,Z,_,Z,by omega,by omega,?_⟩
 refine mP (lo:=0) (n:=(n:Int).toNat) (fun i σ H'=>H'=H/\∃(s1:Option V),σ=[some (.int (c / 26 ^ i)),some (.int n),some (.str (tx (jZ c i))),s1]) ⟨Z,none,by rw [Int.pow_zero,AI];rfl⟩ ?_ ?_
 . rintro i σ H' hi ⟨rfl,s1,rfl⟩
   have hp:(0:Int)<26 ^ i:=Int.pow_pos (by decide)
   have hd0:0<=c / 26 ^ i:=Az hc (AK hp)
   have hm0:0<=c / 26 ^ i % 26:=m8 _ (by decide)
   have hm1:c / 26 ^ i % 26<26:=xu _ (by decide)
   refine ⟨_,Z,_,Z,_,_,Z,Z,(by show (0:Int)<26;decide),_,_,_,Z,Z,(by decide +kernel),OX hm0 hm1,?_⟩
   refine ⟨_,_,Z,Z,?_,?_⟩
   . rw [xG,vO]
     show i+1<=sizeLine
     exact AG (dH (by omega))
   refine ⟨_,Z,_,_,Z,Z,vL (by decide) (jK (by decide +kernel)),Z,some (.int ((0:Int)+(i:Int))),?_⟩
   have e1:c / 26 ^ i / 26=c / 26 ^ (i+1):=by rw [Int.ediv_ediv_of_nonneg (AK hp),Int.pow_succ]
   have e2:(tx (jZ c i)++tx [97+(c / 26 ^ i % 26).toNat] :Str)=tx (jZ c (i+1)):=by rw [Wv,Rt]
   rw [<-e1,<-e2]
   rfl
 rintro σ H' ⟨rfl,s1,rfl⟩
 refine ⟨_,Z,?_⟩
 rw [rP]
 exact q
abbrev qW:Stmt:=top 28
abbrev oh:List Str:=["_law_script","_law_k","_law_many"]
abbrev Je:List Str:=oh.append ["_law_alike","_law_size","_law_first","_law_shift","_law_at_here","_law_names_here","_law_code"]
theorem cY:aO Je oh (aC qW):=dO
theorem E_ (F:At K mg "_law_names" qW f fd) (aZ:Dn P w K mg base 1 "_law_draw" gk (qm K)) (qd:Dn P w K mg base 1 "_law_name" qc CO) (cX:mg "range"=none):Dn P w K mg base 2 "_law_names" oh (CP K):=by
 refine F.oA cY fun cdv A outer s H vs Q E hr h=>?_
 obtain ⟨⟨a,ms,k,many,rfl,hS,h63,hk,hm,q⟩⟩:=h
 refine ⟨_,(@cU.h _ _ _ (aj (aS (i:=3) cY.nd (C3 dB (bQ aZ hr (af (qv 0) (af (qv 1) (af ah (af ah aq))))) ah (aW _)))
  (aj (aS (i:=4) cY.nd (aG bY ah (bQ aZ hr (af (qv 0) (af (qv 1) (af ah (af ah aq)))))))
  (aj (aS (i:=5) cY.nd (bQ aZ hr (af (qv 0) (af (qv 1) (af ah (af (aG lG ah ah) aq))))))
  (aj (aS (i:=6) cY.nd ah)
  (aj (jl (yb (qv 3)) (av (fT gi rfl (mX (by rfl) cX (af (bQ aZ hr (af (qv 0) (af (qv 1) (af ah (af (qv 4) aq))))) aq)) (aV (i:=7) cY.nd) (av (aS (i:=6) cY.nd (aG fD (qv 6) ah))))) bB)
  (aj (aS (i:=8) cY.nd (i7 aq))
  (aj (fT gi rfl (mX (by rfl) cX (af (qv 2) aq)) (aV (i:=7) cY.nd) (aj (aS (i:=9) cY.nd (aG bY (qv 5) (aG fD (qv 6) (bQ aZ hr (af (qv 0) (af (qv 1) (af (aG bY ah (aG fD ah (qv 7))) (af ah aq))))))))
  (aj (jl (Ib (yb (qv 3))) (aj (aS (i:=4) cY.nd (aG bY ah (bQ aZ hr (af (qv 0) (af (qv 1) (af (aG bY ah (aG fD ah (qv 7))) (af ah aq)))))))
  (av (aS (i:=9) cY.nd (bQ aZ hr (af (qv 0) (af (qv 1) (af (aG bY ah (aG fD ah (qv 7))) (af (aG lG ah ah) aq)))))))) bB)
  (aj (HZ gi (aP OE (bQ qd hr (af (qv 9) (af (qv 4) aq))) (qv 8) (by with_unfolding_all rfl)) (av (aS (i:=9) cY.nd (aG bY (qv 9) (qv 6)))))
  (av (cA (kU oO oM oN ef (qv 8) (af (bQ qd hr (af (qv 9) (af (qv 4) aq))) aq))))))))
  (av (bu (qv 8))))))))))),?_⟩
 have P10:QY 10 10:=⟨by decide,by decide,by decide +kernel⟩
 refine ⟨_,Z,_,Z,cS hS h63 hk (by decide) (by decide) (by decide) fun al _ _ _=>⟨Z,?_⟩⟩
 refine ⟨_,Z,_,Z,cS hS h63 hk (by decide) (by decide) (by decide) fun sd _ s0 s1=>⟨_,_,Z,Z,?_⟩⟩
 refine ⟨_,Z,_,Z,_,_,Z,Z,P10,cS hS h63 hk (by decide) (by decide) (by decide +kernel) fun fc _ f0 f1=>?_⟩
 generalize hal:decide (V.int al=V.int 0)=alike
 obtain ⟨n0,en0⟩:∃n:Nat,1+sd=(n:Int):=⟨(1+sd).toNat,by omega⟩
 refine ⟨fun σ H'=>H'=H/\∃(d:Nat) (s7:Option V),(alike=true->d<n0)/\(alike=false->d=0)/\d<8/\σ=[some (.ref a),some (.int k),some (.int many),some (.bl alike),some (.int (1+sd)),some (.int fc),some (.int ((26:Int) ^ d)),s7,none,none],?_,?_⟩
 . refine ⟨_,Z,_,Z,aK (fun c=>?_) (fun c=>?_)⟩
   . refine ⟨_,Z,_,Z,_,Z,cS hS h63 hk (by decide) (by decide) (by omega) fun dd _ d0 d1=>⟨dd,Z,by omega,by omega,?_⟩⟩
     refine mP (lo:=0) (n:=dd.toNat) (fun i σ H'=>H'=H/\∃s7:Option V,σ=[some (.ref a),some (.int k),some (.int many),some (.bl alike),some (.int (1+sd)),some (.int fc),some (.int ((26:Int) ^ i)),s7,none,none]) ⟨Z,none,Z⟩ ?_ ?_
     . rintro i σ H' hi ⟨rfl,s7,rfl⟩
       refine ⟨_,Z,_,_,Z,Z, .inr ⟨by decide,by decide⟩,Z,some (.int ((0:Int)+(i:Int))),?_⟩
       rw [Int.pow_succ]
       rfl
     . rintro σ H' ⟨rfl,s7,rfl⟩
       exact ⟨Z,dd.toNat,s7,fun _=>by omega,fun z=>absurd c (by rw [z];exact fh),by omega,Z⟩
   . exact ⟨Z,0,none,fun z=>absurd z c,fun _=>rfl,by decide,Z⟩
 rintro σ H' ⟨rfl,d,s7,hd1,hd2,hd8,rfl⟩
 refine ⟨(iF 0),fun pn X6=>?_⟩
 have g0:=aF X6 (.lst [])
 refine ⟨_,Z,(many:Int),Z,by omega,by omega,?_⟩
 refine mP (lo:=0) (n:=(many:Int).toNat) (fun i σ H2=>aQ H' H2/\∃(nss:List (List Nat)) (n:Nat) (s1 s2:Option V),d<n/\n<=8/\σ=[some (.ref a),some (.int k),some (.int many),some (.bl alike),some (.int (n:Int)),some (.int fc),some (.int ((26:Int) ^ d)),s1,some (.ref pn),s2]/\H2 pn=some (.lst (qp nss))/\nss.length=i/\nss.Nodup/\∀x∈nss,ny x)
  ⟨g0,[],n0,s7,none,?_,by omega,by rw [<-en0];rfl,ai,Z,tT,fun _ m=>nomatch m⟩ ?_ ?_
 . cases alike with
   | true=>exact hd1 rfl
   | false=>rw [hd2 rfl];omega
 . rintro i σ H2 hi ⟨g,nss,n,s1,s2,hdn,Mi,rfl,hn,hnl,hnd,hok⟩
   have hsl:(qp nss).length=i:=by unfold qp;rw [aD];exact hnl
   have X7:=g.seq hS
   have hp:(0:Int)<26 ^ d:=Int.pow_pos (by decide)
   have XG:(26:Int) ^ d<2 ^ 64:=by
    rcases (by omega:d=0\/d=1\/d=2\/d=3\/d=4\/d=5\/d=6\/d=7) with e|e|e|e|e|e|e|e <;> (rw [e];decide +kernel)
   refine ⟨_,Z,_,Z,_,Z,_,Z,_,Z,_,_,Z,Z, .inl ⟨by decide,by decide⟩,_,_,Z,Z,cS X7 h63 hk (by omega) (by omega) (by decide) fun cd _ c0 c1=>⟨_,_,Z,Z, .inl ⟨by omega,XG⟩,_,_,Z,Z,?_⟩⟩
   have hcode:0<=fc+26 ^ d*cd:=Int.add_nonneg f0 (m9 (AK hp) c0)
   refine ⟨fun σ H3=>H3=H2/\∃(n:Nat) (c:Int),0<=c/\d<n/\n<=8/\σ=[some (.ref a),some (.int k),some (.int many),some (.bl alike),some (.int (n:Int)),some (.int fc),some (.int ((26:Int) ^ d)),some (.int ((0:Int)+(i:Int))),some (.ref pn),some (.int c)],?_,?_⟩
   . refine ⟨_,Z,_,Z,?_⟩
     cases hb:alike with
     | true=>exact iP ⟨Z,n,_,hcode,hdn,Mi,Z⟩
     | false=>
       refine lu ?_
       have hd0:=hd2 hb
       refine ⟨_,Z,_,Z,_,Z,_,_,Z,Z, .inl ⟨by decide,by decide⟩,_,_,Z,Z,cS X7 h63 hk (by omega) (by omega) (by decide) fun zd _ z0 z1=>⟨_,_,Z,Z,?_⟩⟩
       refine ⟨_,Z,_,Z,_,Z,_,_,Z,Z, .inl ⟨by decide,by decide⟩,_,_,Z,Z,_,_,Z,Z,P10,cS X7 h63 hk (by omega) (by omega) (by decide +kernel) fun cd2 _ e0 _=>?_⟩
       refine ⟨Z,(1+zd).toNat,cd2,e0,by omega,by omega,?_⟩
       rw [show (((1+zd).toNat:Nat):Int)=1+zd from by omega]
       rfl
   clear hdn Mi hcode
   rintro σ H3 ⟨rfl,n,uu,cc0,hdn,Mi,rfl⟩
   refine ⟨fun m σ H4=>H4=H3/\∃t:Nat,m=nss.length+1-t/\t<=nss.length/\σ=[some (.ref a),some (.int k),some (.int many),some (.bl alike),some (.int (n:Int)),some (.int fc),some (.int ((26:Int) ^ d)),some (.int ((0:Int)+(i:Int))),some (.ref pn),some (.int (uu+(t:Int)*26 ^ d))]/\∀j:Nat,j<t->jZ (uu+(j:Int)*26 ^ d) n∈nss,
    ⟨_,Z,0,Z,gM _,by rw [show uu+((0:Nat):Int)*26 ^ d=uu from by simp],fun j hj=>absurd hj (Nat.not_lt_zero _)⟩,?_⟩
   rintro m σ H4 ⟨rfl,t,rfl,ht,rfl,htr⟩
   have hct:0<=uu+(t:Int)*26 ^ d:=Int.add_nonneg cc0 (m9 (by omega) (AK hp))
   refine ⟨_,Z,_,Z,Hg rfl hct (by omega) ?_⟩
   refine ⟨_,Z,pn,_,Z, .inl (aH.of hn),Z,Rv nss,?_⟩
   show Oo _ (V.bl (if false=true then !DV (.str (tx (jZ (uu+(t:Int)*26 ^ d) n))) (qp nss) else DV (.str (tx (jZ (uu+(t:Int)*26 ^ d) n))) (qp nss))) _
   rw [aA fh,Ly]
   refine ⟨_,Z,aK (fun c=>?_) (fun c=>?_)⟩
   . have hmem:jZ (uu+(t:Int)*26 ^ d) n∈nss:=aX c
     have X8:∀j:Nat,j<t+1->jZ (uu+(j:Int)*26 ^ d) n∈nss:=fun j hj=>by
      rcases Nat.lt_succ_iff_lt_or_eq.mp hj with z|z
      . exact htr j z
      . rw [z];exact hmem
     have hle:=O2 (c:=uu) (n:=n) (t:=t+1) hdn (by omega) X8
     refine ⟨_,fun _ _ z=>z,?_⟩
     refine ⟨_,Z,_,Z,_,_,Z,Z,?_⟩
     refine ⟨_,(by omega:nss.length+1-(t+1)<nss.length+1-t),Z,t+1,Z,hle,?_,X8⟩
     rw [show uu+((t+1:Nat):Int)*26 ^ d=uu+(t:Int)*26 ^ d+26 ^ d from by rw [Int.natCast_add,rB];show _+(_+1*_)=_;rw [Int.one_mul,Int.add_assoc]]
     rfl
   . have hnm:jZ (uu+(t:Int)*26 ^ d) n∉nss:=rO (oS.mpr c)
     refine ⟨_,Z, .inl ⟨Z,_,aH.of hn⟩,?_⟩
     refine ⟨_,Z,_,Z,Hg rfl hct (by omega) ?_⟩
     refine ⟨pn,qp nss,_,Z,Z,hn,dH (by omega),g.cJ X6 _,nss++[jZ (uu+(t:Int)*26 ^ d) n],n,_,_,hdn,Mi,Z,?_,?_,mR hnd hnm,fun x hx=>?_⟩
     . rw [ai]
       unfold qp
       rw [bL]
       rfl
     . rw [dw,hnl]
       rfl
     . rcases fZ.mp hx with z|z
       . exact hok x z
       . rw [fN.mp z]
         exact Wz _ (by omega) Mi
 rintro σ H2 ⟨g,nss,n,s1,s2,hdn,Mi,rfl,hn,hnl,hnd,hok⟩
 exact ⟨_,Z,q pn nss H2 g hn X6 (by omega) hnd hok⟩
abbrev tH:Stmt:=top 29
abbrev qe:List Str:=["_law_owners"]
abbrev Ks:List Str:=qe
theorem Jf:aO Ks qe (aC tH):=dO
theorem Jg (F:At K mg "_law_lite" tH f fd) (nP:mg "list"=none):Dn P w K mg base 1 "_law_lite" qe (PV K):=by
 refine F.oA Jf fun cdv A outer s H vs Q E hr h=>?_
 obtain ⟨⟨l,own,n,ρ,rfl,hl,G,hle,q⟩⟩:=h
 refine ⟨_,(@cU.h _ _ _ (av (bu (UP (z8 bw (ug (wZ K) (by rfl) nP PyProof.Rows.boot_list (af (qv 0) aq)) (z8 bw (i7 aq) (z8 bw (i7 aq) UN))) (by rfl) (by rfl) (fun z=>nomatch z) (by with_unfolding_all decide))))),?_⟩
 intro m hm
 have g0:=aF hm (.dK [])
 have em0:upd H m (.dK []) m=some (.dK []):=ai
 have sV:=g0.seq hl
 generalize upd H m (.dK [])=H0 at *
 refine ⟨_,Z,l,_,Z, .inl sV,fun lo hlo=>?_⟩
 have g1:=aF hlo (.lst (own.map V.str))
 have eo1:upd H0 lo (.lst (own.map V.str)) lo=some (.lst (own.map V.str)):=ai
 have em1:=g1 _ _ em0
 generalize upd H0 lo (.lst (own.map V.str))=H1 at *
 refine ⟨(iF 0),fun lp yD=>?_⟩
 have g2:=aF yD (.lst [])
 have ep2:upd H1 lp (.lst []) lp=some (.lst []):=ai
 have eo2:=g2 _ _ eo1
 have em2:=g2 _ _ em1
 show AY _ _ (upd H1 lp (.lst [])) _
 generalize upd H1 lp (.lst [])=H2 at *
 refine ⟨(iF 0),fun lk hlk=>?_⟩
 have g4:=aF hlk (.lst [])
 have ek4:upd H2 lk (.lst []) lk=some (.lst []):=ai
 have ep4:=g4 _ _ ep2
 have eo4:=g4 _ _ eo2
 have em4:=g4 _ _ em2
 show upd H2 lk (.lst []) m=_/\_
 generalize upd H2 lk (.lst [])=H4 at *
 have gA:=((g0.trans g1).trans g2).trans g4
 have n1:lo≠m:=fun e=>by rw [e,em0] at hlo;cases hlo
 have n2:lp≠m:=fun e=>by rw [e,em1] at yD;cases yD
 have n3:lp≠lo:=fun e=>by rw [e,eo1] at yD;cases yD
 have n7:lk≠m:=fun e=>by rw [e,em2] at hlk;cases hlk
 have n8:lk≠lo:=fun e=>by rw [e,eo2] at hlk;cases hlk
 have n9:lk≠lp:=fun e=>by rw [e,ep2] at hlk;cases hlk
 refine ⟨em4,[(Sum.inr "owners", .ref lo),(Sum.inr "parts", .ref lp),(Sum.inr "known", .ref lk)],Z,by show 3<=15;decide,?_⟩
 have eK:uZ [] [(Sum.inr "owners", .ref lo),(Sum.inr "parts", .ref lp),(Sum.inr "known", .ref lk)]=iM ⟨m,lo,lp,lk,[]⟩:=rfl
 rw [eK]
 have u1:upd H4 m (.dK (iM ⟨m,lo,lp,lk,[]⟩)) m=some (.dK (iM ⟨m,lo,lp,lk,[]⟩)):=ai
 have u2:upd H4 m (.dK (iM ⟨m,lo,lp,lk,[]⟩)) lo=some (.lst (own.map V.str)):=by rw [ay n1];exact eo4
 have u3:upd H4 m (.dK (iM ⟨m,lo,lp,lk,[]⟩)) lp=some (.lst []):=by rw [ay n2];exact ep4
 have u5:upd H4 m (.dK (iM ⟨m,lo,lp,lk,[]⟩)) lk=some (.lst []):=by rw [ay n7];exact ek4
 have G4:=(G.same gA).wr (a:=m) (o:= .dK (iM ⟨m,lo,lp,lk,[]⟩)) rfl
 have hz:∀b o,H b=some o->upd H4 m (.dK (iM ⟨m,lo,lp,lk,[]⟩)) b=some o:=fun b o e=>by
  rw [ay (fun z=>by rw [z,hm] at e;cases e)];exact gA _ _ e
 have y1:H lo=none:=g0.free hlo
 have y2:H lp=none:=(g0.trans g1).free yD
 have y4:H lk=none:=((g0.trans g1).trans g2).free hlk
 generalize upd H4 m (.dK (iM ⟨m,lo,lp,lk,[]⟩))=H5 at *
 refine q (cN (cN (cN (cN ρ m (n,40,nx)) lo (n,41,nx)) lp (n,42,nx)) lk (n,43,nx)) ⟨m,lo,lp,lk,[]⟩ H5 ((((G4.color u1 rfl).color u2 rfl).color u3 rfl).color u5 rfl) ⟨u1,?_,u2,?_,u3,?_,u5,di,tT,Z,fun i p q e=>by simp at e⟩ (fun b o e=>⟨hz b o e,?_⟩)
 . show cN _ lk _ m=_
   rw [cC (cM n7),cC (cM n2),cC (cM n1),di]
 . show cN _ lk _ lo=_
   rw [cC (cM n8),cC (cM n3),di]
 . show cN _ lk _ lp=_
   rw [cC (cM n9),di]
 . rw [cC (aE e y4),cC (aE e y2),cC (aE e y1),cC (aE e hm)]
abbrev tK:Stmt:=top 30
abbrev lO:List Str:=["_law_script","_law_k","_law_j"]
abbrev Ku:List Str:=lO.append ["_law_size"]
theorem yE:aO Ku lO (aC tK):=dO
theorem Jh (F:At K mg "_law_much" tK f fd) (aZ:Dn P w K mg base 1 "_law_draw" gk (qm K)):Dn P w K mg base 2 "_law_much" lO (Bh K):=by
 refine F.oA yE fun cdv A outer s H vs Q E hr h=>?_
 obtain ⟨⟨a,ns,k,j,rfl,hS,h63,hk,hj,hj2,q⟩⟩:=h
 refine ⟨_,(@cU.h _ _ _ (aj (aS (i:=3) yE.nd (aJ (cy K) (i7 (af ah (af ah (af ah (af (aG lG ah ah) aq))))) (bQ aZ hr (af (qv 0) (af (qv 1) (af (qv 2) (af ah aq)))))))
  (av (bu (aG bY ah (bQ aZ hr (af (qv 0) (af (qv 1) (af (aG bY (qv 2) ah) (af (qv 3) aq)))))))))),?_⟩
 refine ⟨_,_,Z,Z,⟨by decide,by decide,by decide⟩,(iF 4),fun p1 hp1=>?_⟩
 have g1:=aF hp1 (.lst [V.int 9,V.int 40,V.int 1000,V.int (10 ^ (9:Int).toNat)])
 refine ⟨_,Z,_,Z,_,Z,cS (g1.seq hS) h63 hk hj (by omega) (by decide) fun d _ d0 d1=>?_⟩
 obtain ⟨B,hB,hB0,hB1⟩:∃B:Int,qj [V.int 9,V.int 40,V.int 1000,V.int (10 ^ (9:Int).toNat)] d=some (.int B)/\0<B/\B<=1000000000:=by
  rcases (by omega:d=0\/d=1\/d=2\/d=3) with e|e|e|e
  . exact ⟨9,by rw [e];rfl,by decide,by decide⟩
  . exact ⟨40,by rw [e];rfl,by decide,by decide⟩
  . exact ⟨1000,by rw [e];rfl,by decide,by decide⟩
  . exact ⟨10 ^ (9:Int).toNat,by rw [e];rfl,by decide,by decide⟩
 refine ⟨p1,_,_,_,Z,Z,aH.of ai,hB,?_⟩
 refine ⟨_,Z,_,Z,_,Z,_,_,Z,Z,_,Z,cS (g1.seq hS) h63 hk (by omega) (by omega) hB0 fun e _ e0 e1=>⟨_,_,Z,Z,?_⟩⟩
 exact q (1+e) _ (by omega) (by omega) g1
abbrev tL:Stmt:=top 31
abbrev qf:List Str:=["_law_script","_law_k","_law_parts"]
abbrev Kv:List Str:=qf.append ["_law_spare","_law_order","_law_rows_here","_law_at_here","_law_way","_law_amount"]
theorem fm:aO Kv qf (aC tL):=dO
theorem Ji (F:At K mg "_law_rows" tL f fd) (aZ:Dn P w K mg base 1 "_law_draw" gk (qm K)) (bZ:mg "len"=none) (cX:mg "range"=none) (nP:mg "list"=none) (fJ:mg "sum"=none) (oj:mg "min"=none):Dn P w K mg base 2 "_law_rows" qf (LM K):=by
 refine F.oA fm fun cdv A outer s H vs Q E hr h=>?_
 obtain ⟨⟨a,l,ns,k,us,ws,rfl,hS,h63,hk0,hk1,hl,hW,nd,hle,hw1,q⟩⟩:=h
 refine ⟨_,(@cU.h _ _ _ (aj (aS (i:=3) fm.nd (aG ki (bF (mS K rfl) (by rfl) fJ xo (af (gE ["_law_part"] [none] rfl (dM K (qv 2)) (fun _ _ _ _=>(aV (i:=0) (show List.Nodup (["_law_part"] :List Str) from by decide +kernel))) (fun _ _ _ _=>(aJ (gD K) (qv 0) ah)) rfl (by rfl)) aq)) ah))
  (aj (aS (i:=4) fm.nd (ug (EM rfl) (by rfl) nP PyProof.Rows.boot_list (af (PD (by rfl) cX (af (bF (c5 K) (by rfl) bZ fG (af (qv 2) aq)) aq)) aq)))
  (aj (jl (aP dB (bQ aZ hr (af (qv 0) (af (qv 1) (af ah (af ah aq))))) ah (aW _)) (av (aS (i:=4) fm.nd (Xe K (qv 4) (Tg Oj ah)))) bB)
  (aj (aS (i:=5) fm.nd (i7 aq))
  (aj (fT gi rfl (dM K (qv 4)) (aV (i:=6) fm.nd) (aj (aS (i:=7) fm.nd (bQ aZ hr (af (qv 0) (af (qv 1) (af (aG bY ah (aG fD ah (qv 6))) (af ah aq))))))
  (aj (aS (i:=8) fm.nd (bF (Pr rfl) (by rfl) oj Gg (af (aJ (gD K) (aJ (cy K) (qv 2) (qv 6)) ah) (af (qv 3) (af (aG lG ah ah) aq)))))
  (aj (jl (jO (bW.pt (qA (aP dB (qv 7) ah (aW _)) (rK (aP jA (qv 8) ah (aW _)))))) (av (aS (i:=8) fm.nd (aG bY ah (bQ aZ hr (af (qv 0) (af (qv 1) (af (aG bY ah (aG fD ah (qv 6))) (af (qv 8) aq)))))))) bB)
  (av (jl (jO (bW.pt (qA (aP jA (qv 7) ah (aW _)) (rK (aP jA (qv 8) ah (aW _)))))) (aj (cA (kU oO oM oN ef (qv 5) (af (iE (af (aJ (gD K) (aJ (cy K) (qv 2) (qv 6)) ah) (af (qv 8) aq))) aq)))
  (av (aS (i:=3) fm.nd (aG ki (qv 3) (qv 8))))) bB))))))
  (av (bu (qv 5))))))))),?_⟩
 have ll:=hW.len
 refine ⟨_,Z,l,Z,⟨_,hl⟩,fun l0 sV=>?_⟩
 refine iW (J:=tX K l) (n:=us.length) 0 (fun i o H'=>aQ H H'/\o=((ws.take i).map (fun r:Row=>r.2)).map V.int) (by omega) ⟨aF sV _,Z⟩ (fun i o H' hi _ hp=>⟨_,_,hp.1.seq hl,bq hi⟩) (fun o H' _ hp=>⟨_,hp.1.seq hl,aN _⟩) ?_ ?_
 . rintro i y o H2 H3 hi fR ha ⟨g,e⟩ ⟨rfl,hy⟩
   have X_:i<ws.length:=by omega
   have ei:=bq X_
   obtain ⟨ar,xs,ea,zL,x0,x2⟩:=hW.at_ i _ ei
   have ey:=hy _ (g.seq hl)
   rw [ea] at ey
   cases ey
   refine ⟨_,Z,(g.sq zL).ix (i:=2) x2 ?_⟩
   refine ⟨ha,g.cJ sV _,?_⟩
   subst e
   rw [take_snoc ei,bL,bL]
   rfl
 rintro o1 H1 _ ha ⟨g1,e⟩
 rw [ll,dQ] at e
 subst e
 refine ⟨l0,ws.map (fun r:Row=>r.2),Z,aH.of ha,_,_,Z,Z,?_⟩
 show pX 3 (.int (bD ws-1)) _ _ _
 refine ⟨_,Z,l,_,Z, .inl (g1.seq hl),_,Z,fun pr hpr=>?_⟩
 refine ⟨pr,ws.length,Z,?_,by omega,fun po TF=>?_⟩
 . rw [ai,ll]
 have gA:=(aF hpr (.tW 0 ((us.length:Nat):Int))).trans (aF TF (.lst ((L2.upTo ws.length).map V.int)))
 have gB:=g1.trans gA
 have hord:upd (upd H1 pr (.tW 0 ((us.length:Nat):Int))) po (.lst ((L2.upTo ws.length).map V.int)) po=some (.lst ((L2.upTo ws.length).map V.int)):=ai
 generalize upd (upd H1 pr (.tW 0 ((us.length:Nat):Int))) po (.lst ((L2.upTo ws.length).map V.int))=H2 at *
 have ndo:(L2.upTo ws.length).Nodup:=by
  unfold L2.upTo
  refine List.Pairwise.map _ (fun x y h e=>h (by omega)) List.nodup_range
 have tW:∀x∈L2.upTo ws.length,0<=x/\x<(ws.length:Int):=fun x hx=>by
  unfold L2.upTo at hx
  obtain ⟨i,hi,rfl⟩:=bK.mp hx
  have:=pT.mp hi
  omega
 have lup:(L2.upTo ws.length).length=ws.length:=by unfold L2.upTo;rw [aD,Gq]
 refine ⟨fun σ H3=>aQ H H3/\∃(pq:Addr) (os:List Int),σ=[some (.ref a),some (.int k),some (.ref l),some (.int (bD ws-1)),some (.ref pq),none,none,none,none]/\H3 pq=some (.lst (os.map V.int))/\os.Nodup/\os.length=ws.length/\∀x∈os,0<=x/\x<(ws.length:Int),?_,?_⟩
 . refine ⟨_,Z,_,Z,cS (gB.seq hS) h63 hk0 (by decide) (by decide) (by decide) fun d _ d0 d1=>⟨Z,_,Z,aK (fun c=>?_) (fun c=>?_)⟩⟩
   . refine ⟨_,Z,_,Z,Z,po,_,Z,aH.of hord,fun pz XU=>?_⟩
     have g3:=aF XU (.lst ((L2.upTo ws.length).map V.int).reverse)
     exact ⟨gB.trans g3,pz,(L2.upTo ws.length).reverse,Z,by rw [ai,List.map_reverse],List.pairwise_reverse.mpr (List.Pairwise.imp (fun h=>cM h) ndo),by rw [List.length_reverse,lup],fun x hx=>tW x (List.mem_reverse.mp hx)⟩
   . exact ⟨gB,po,L2.upTo ws.length,Z,hord,ndo,lup,tW⟩
 rintro σ H3 ⟨g3,pq,os,rfl,hos,hnd,fR,hrg⟩
 refine ⟨(iF 0),fun z hz=>?_⟩
 have g4:=aF hz (.lst [])
 have hzz:upd H3 z (.lst []) z=some (.lst []):=ai
 have Yb:=g4 _ _ hos
 have nz:pq≠z:=fun e=>by rw [e,hz] at hos;cases hos
 have hzH:H z=none:=g3.free hz
 have g34:=g3.trans g4
 show vJ _ _ _ _ (upd H3 z (.lst []))
 generalize upd H3 z (.lst [])=H4 at *
 have w1:ws≠[]->1<=bD ws:=fun hne=>by
  cases ws with
  | nil=>exact absurd rfl hne
  | cons r rs=>
    have h1:=hw1 r cV
    have h2:=zZ (rs:=rs) fun x hx=>hw1 x (cD _ hx)
    rw [show bD (r::rs)=r.2+bD rs from by unfold bD;rw [bJ,cL]]
    omega
 refine ⟨_,Z,pq,Z,⟨_,aH.of Yb⟩,?_⟩
 refine l7 (K:=K) (xs:=os.map V.int) (fun i σ H'=>aQ H H'/\H' pq=some (.lst (os.map V.int))/\∃(zs:List V) (rs:List Row) (sp:Int) (s6 s7 s8:Option V),σ=[some (.ref a),some (.int k),some (.ref l),some (.int sp),some (.ref pq),some (.ref z),s6,s7,s8]/\H' z=some (.lst zs)/\fF H' zs rs/\rs.length<=i/\(rs.map (fun r:Row=>r.1)).Nodup/\
   sp=bD ws-1-bD rs/\(ws≠[]->0<=sp)/\∀r∈rs,1<=r.2/\r.2<=1000000000/\∃j:Nat,((j:Nat):Int)∈os.take i/\∃w,ws[j]?=some w/\w.1=r.1/\r.2<=w.2)
  ⟨g34,Yb,[],[],bD ws-1,none,none,none,Z,hzz, .nil,aN _,tT,by show _=bD ws-1-0;omega,fun hne=>by have:=w1 hne;omega,fun r hr=>absurd hr (by simp)⟩ ?_ ?_ ?_
 . rintro i σ H' _ ⟨_,h,_⟩
   exact aH.of h
 . rintro i x σ H5 hx ⟨g5,Yc,zs,rs,sp,s6,s7,s8,rfl,Mj,hR,hrl,TL,nq,NU,uL⟩
   rw [bN] at hx
   obtain ⟨at',hat,rfl⟩:=jx.mp hx
   have hio:=(dP.mp hat).1
   obtain ⟨t0,t1⟩:=hrg at' (bO hat)
   obtain ⟨jt,hjt⟩:∃jt:Nat,((jt:Nat):Int)=at':=⟨at'.toNat,by omega⟩
   subst hjt
   have hjl:jt<ws.length:=by omega
   have hne:ws≠[] :=fun e=>by rw [e] at hjl;simp at hjl
   have acM:=NU hne
   have hnot:((jt:Nat):Int)∉os.take i:=fun m=>by
    obtain ⟨j,hj,ej⟩:=List.mem_iff_getElem.mp m
    rw [List.getElem_take] at ej
    rw [rQ] at hj
    have e2:=(dP.mp hat).2
    have:=(List.getElem_inj hnd).mp (ej.trans e2.symm)
    omega
   have ej:=bq hjl
   have hwj:=hw1 _ (bO ej)
   generalize ws[jt]=wj at *
   obtain ⟨ar,xs,ea,zL,x0,x2⟩:=hW.at_ jt _ ej
   refine ⟨_,Z,_,Z,_,Z,_,_,Z,Z, .inl ⟨by decide,by decide⟩,_,_,Z,Z,cS (g5.seq hS) h63 hk0 (by omega) (by omega) (by decide) fun way _ v0 v1=>?_⟩
   refine ⟨_,Z,_,Z,l,_,_,_,Z,Z,g5.seq hl,au ea,(g5.sq zL).ix (i:=2) x2 ?_⟩
   refine ⟨_,Z,_,_,Z,Z,⟨by decide,by decide,by decide⟩,_,_,_,Z,?_⟩
   obtain ⟨m1,m2,m3⟩:=UJ wj.2 sp ((10:Int) ^ (9:Int).toNat)
   have m0:0<=su wj.2 sp ((10:Int) ^ (9:Int).toNat):=UK (by omega) acM (by decide)
   have m3:su wj.2 sp ((10:Int) ^ (9:Int).toNat)<=1000000000:=m3
   generalize su wj.2 sp ((10:Int) ^ (9:Int).toNat)=m at *
   refine ⟨fun σ H6=>H5=H6/\∃m:Int,0<=m/\m<=sp/\m<=wj.2/\m<=1000000000/\σ=[some (.ref a),some (.int k),some (.ref l),some (.int sp),some (.ref pq),some (.ref z),some (.int (jt:Int)),some (.int way),some (.int m)],?_,?_⟩
   . refine ⟨decide (way=2/\0<m),?_,?_⟩
     . refine ⟨_,Z,Z,_,Z,?_⟩
       by_cases h1:way=2
       . rw [aY (by rw [h1] :V.int way=V.int 2)]
         refine lu ⟨_,Z,_,_,Z,Z,_,Z,?_,Z⟩
         by_cases h2:0<m
         . rw [aY h2,aY ⟨h1,h2⟩]
         . rw [dR h2,dR fun z=>h2 z.2]
       . rw [dR (fun z=>h1 (V.int.inj z))]
         exact iP ⟨(dR fun z=>h1 z.1).symm,Z⟩
     refine aK (fun c=>?_) (fun c=>?_)
     . obtain ⟨_,c2⟩:=aX c
       refine ⟨_,Z,_,Z,_,Z,_,_,Z,Z, .inl ⟨by decide,by decide⟩,_,_,Z,Z,_,Z,cS (g5.seq hS) h63 hk0 (by omega) (by omega) c2 fun d _ d0 d1=>⟨_,_,Z,Z,Z,1+d,by omega,by omega,by omega,by omega,Z⟩⟩
     . exact ⟨Z,m,m0,m2,m1,m3,Z⟩
   rintro σ H6 ⟨rfl,o,o0,o1,o2,o3,rfl⟩
   have grow:∀r∈rs,1<=r.2/\r.2<=1000000000/\∃j:Nat,((j:Nat):Int)∈os.take (i+1)/\∃w,ws[j]?=some w/\w.1=r.1/\r.2<=w.2:=fun r hr=>by
    obtain ⟨a1,a2,j,a3,a4⟩:=uL r hr
    exact ⟨a1,a2,j,by rw [take_snoc hat];exact zM _ a3,a4⟩
   refine ⟨fun σ H6=>aQ H H6/\H6 pq=some (.lst (os.map V.int))/\∃(zs:List V) (rs:List Row) (sp:Int) (s6 s7 s8:Option V),σ=[some (.ref a),some (.int k),some (.ref l),some (.int sp),some (.ref pq),some (.ref z),s6,s7,s8]/\H6 z=some (.lst zs)/\fF H6 zs rs/\rs.length<=i+1/\(rs.map (fun r:Row=>r.1)).Nodup/\
    sp=bD ws-1-bD rs/\(ws≠[]->0<=sp)/\∀r∈rs,1<=r.2/\r.2<=1000000000/\∃j:Nat,((j:Nat):Int)∈os.take (i+1)/\∃w,ws[j]?=some w/\w.1=r.1/\r.2<=w.2,?_,fun _ _ h=>h⟩
   refine ⟨decide (0<way/\0<o),?_,?_⟩
   . refine ⟨_,Z,_,_,Z,Z,_,Z,?_⟩
     by_cases h1:0<way
     . rw [aY h1]
       refine lu ⟨_,Z,_,_,Z,Z,_,Z,?_,Z⟩
       by_cases h2:0<o
       . rw [aY h2,aY ⟨h1,h2⟩]
       . rw [dR h2,dR fun z=>h2 z.2]
     . rw [dR h1]
       exact iP ⟨(dR fun z=>h1 z.1).symm,Z⟩
   refine aK (fun c=>?_) (fun c=>?_)
   . obtain ⟨_,c2⟩:=aX c
     refine ⟨_,Z, .inl ⟨Z,_,aH.of Mj⟩,_,Z,_,Z,l,_,_,_,Z,Z,g5.seq hl,au ea,(g5.sq zL).ix (i:=0) x0 ?_⟩
     refine ⟨_,Z,(iF 2),fun p hp=>?_⟩
     have g6:=aF hp (vW (wj.1,o))
     have hz6:=g6 _ _ Mj
     have hq6:=g6 _ _ Yc
     have Tn:upd H5 p (vW (wj.1,o)) p=some (vW (wj.1,o)):=ai
     have acN:=hR.length
     show qG _ (upd H5 p (vW (wj.1,o))) _
     generalize upd H5 p (vW (wj.1,o))=H6 at *
     refine ⟨z,_,_,Z,Z,hz6,by rw [acN];exact dH (by omega),?_⟩
     have np:p≠z:=fun e=>by rw [e,Mj] at hp;cases hp
     have tu:∀b ys,H6 b=some (.tup ys)->upd H6 z (.lst (zs++[.ref p])) b=some (.tup ys):=rG (.inr ⟨_,hz6,Z⟩)
     refine ⟨_,Z,_,Z,_,_,Z,Z,(g5.trans g6).cJ hzH _,by rw [ay nz];exact hq6,zs++[.ref p],rs++[(wj.1,o)],sp-o,_,_,_,Z,ai,((hR.mono g6.tups).snoc Tn).mono tu,by rw [dw];show rs.length+1<=i+1;omega,?_,?_,fun _=>by omega,?_⟩
     . rw [bL]
       refine mR TL fun hm=>?_
       obtain ⟨r,hr,er⟩:=bK.mp hm
       obtain ⟨_,_,j,hj,w,Yd,e1,_⟩:=uL r hr
       have hj2:j<ws.length:=(dP.mp Yd).1
       have r1:(ws.map (fun r:Row=>r.1))[j]?=some w.1:=by rw [bN,Yd];rfl
       have r2:(ws.map (fun r:Row=>r.1))[jt]?=some wj.1:=by rw [bN,ej];rfl
       have er:r.1=wj.1:=er
       have:j=jt:=(MI (by rw [aD];exact hj2) nd).mp (r1.trans (by rw [e1,er];exact r2.symm))
       rw [this] at hj
       exact hnot hj
     . rw [show bD (rs++[(wj.1,o)])=bD rs+o from by unfold bD;rw [bL,FU];simp]
       omega
     . intro r hr
       rcases fZ.mp hr with h1|h1
       . exact grow r h1
       . rw [fN.mp h1]
         exact ⟨by show 1<=o;omega,o3,jt,by rw [take_snoc hat];exact ja _ (fN.mpr rfl),wj,ej,Z,o2⟩
   . exact ⟨g5,Yc,zs,rs,sp,_,_,_,Z,Mj,hR,by omega,TL,nq,NU,grow⟩
 rintro σ H5 ⟨g5,Yc,zs,rs,sp,s6,s7,s8,rfl,Mj,hR,hrl,TL,nq,NU,uL⟩
 rw [aD,fR] at hrl
 refine ⟨_,Z,q z zs rs H5 g5 hzH Mj hR ⟨TL,fun r hr=>?_,?_,hrl⟩⟩
 . obtain ⟨a1,a2,j,_,w,hw,e1,e2⟩:=uL r hr
   exact ⟨a1,a2,w,bO hw,e1,e2⟩
 . by_cases c:ws=[]
   . right
     rw [c] at hrl
     exact List.length_eq_zero_iff.mp (by simpa using hrl)
   . left
     have:=NU c
     omega
abbrev tM:Stmt:=top 32
abbrev qg:List Str:=["_law_rows_here"]
abbrev Kw:List Str:=qg.append ["_law_things","_law_name_here","_law_amount"]
theorem oq:aO Kw qg (aC tM):=dO
theorem Jj (F:At K mg "_law_flat" tM f fd) (Dq:mg "tuple"=none):Dn P w K mg base 1 "_law_flat" qg (PO K):=by
 refine F.oA oq fun cdv A outer s H vs Q E hr h=>?_
 obtain ⟨⟨l,us,rs,rfl,hl,hR,hle,q⟩⟩:=h
 refine ⟨_,(@cU.h _ _ _ (aj (aS (i:=1) oq.nd (i7 (af bw aq)))
  (aj (fT gi rfl (dM K (qv 0)) (g_ K (n:=2) rfl (cj (aV (i:=2) oq.nd) (cj (aV (i:=3) oq.nd) gY))) (aj (cA (kU oO oM oN ef (qv 1) (af (qv 2) aq)))
  (av (cA (kU oO oM oN ef (qv 1) (af (qv 3) aq))))))
  (av (bu (ug EK (by rfl) Dq PyProof.Rows.boot_tuple (af (qv 1) aq))))))),?_⟩
 have Xz:=hR.length
 refine ⟨(iF 1),fun t ht=>?_⟩
 have g0:=aF ht (.lst [.str "cast"])
 have h0:upd H t (.lst [.str "cast"]) t=some (.lst (Dd.v (.cast (rs.take 0)))):=ai
 show vJ _ _ _ _ (upd H t (.lst [.str "cast"]))
 generalize upd H t (.lst [.str "cast"])=H0 at *
 refine ⟨_,Z,l,Z,⟨us,g0.seq hl⟩,?_⟩
 refine l7 (K:=K) (xs:=us) (fun i σ H'=>aQ H H'/\H' t=some (.lst (Dd.v (.cast (rs.take i))))/\∃s2 s3,σ=[some (.ref l),some (.ref t),s2,s3]) ⟨g0,h0,_,_,Z⟩ (fun i σ H' _ hp=>hp.1.seq hl) ?_ ?_
 . rintro i x σ H' hx ⟨g,hd',s2,s3,rfl⟩
   obtain ⟨a,r,rfl,er,ha⟩:=hR.get hx
   have hlt:(Dd.v (.cast (rs.take i))).length+1<sizeLine:=by
    show (iZ (rs.take i)).length+1+1<_
    rw [ya,rQ,jz];exact Gk (show _<=3000 by omega) (by decide)
   refine ⟨a,_,Z,cQ.of (g _ _ ha),Z,_,_,Z,_,_,Z,Z,?_⟩
   refine ⟨_,Z, .inl ⟨Z,_,aH.of hd'⟩,_,Z,t,_,_,Z,Z,hd',by omega,?_⟩
   refine ⟨_,Z, .inl ⟨Z,_,aH.of ai⟩,_,Z,t,_,_,Z,Z,ai,by rw [dw];exact hlt,?_⟩
   refine ⟨?_,?_,_,_,Z⟩
   . rw [mO];exact g.cJ ht _
   . rw [ai,take_snoc er]
     show some (HO.lst ((V.str "cast"::iZ (rs.take i)++[V.str r.1])++[V.int r.2]))=some (HO.lst (V.str "cast"::iZ (rs.take i++[r])))
     rw [x_]
     simp [iZ]
 rintro σ H' ⟨g,hd',s2,s3,rfl⟩
 rw [Xz,dQ] at hd'
 refine ⟨_,Z,t,_,Z, .inl ⟨aH.of hd',fun z hz=>q z _ (g.trans (aF hz _)) ai⟩⟩
abbrev lE:Stmt:=top 33
abbrev jI:List Str:=["_law_script","_law_k","_law_model","_law_names_here","_law_way"]
abbrev An:List Str:=jI.append ["_law_parts","_law_part","_law_owner","_law_whole","_law_rows_here","_law_amount"]
theorem eZ:aO An jI (aC lE):=dO
theorem zj (F:At K mg "_law_part_deed" lE f fd) (aZ:Dn P w K mg base 1 "_law_draw" gk (qm K)) (jR:Dn P w K mg base 2 "_law_much" lO (Bh K)) (uM:Dn P w K mg base 2 "_law_rows" qf (LM K)) (uN:Dn P w K mg base 1 "_law_flat" qg (PO K)) (bZ:mg "len"=none) (fJ:mg "sum"=none) (oj:mg "min"=none):Dn P w K mg base 3 "_law_part_deed" jI (BR K):=by
 refine F.oA eZ fun cdv A outer s H vs Q E hr h=>?_
 obtain ⟨⟨a,m,ln,ns,k,way,nms,c,st,rfl,hS,h63,hk0,hk1,hq,hN,nx,hnl,wf,g,hc,hp0,q⟩⟩:=h
 refine ⟨_,(@cU.h _ _ _ (aj (aS (i:=5) eZ.nd (dg (cW hr) (qv 2) bw))
  (aj (aS (i:=6) eZ.nd (aJ (cy K) (qv 5) (bQ aZ hr (af (qv 0) (af (qv 1) (af ah (af (bF (c5 K) (by rfl) bZ fG (af (qv 5) aq)) aq)))))))
  (aj (aS (i:=7) eZ.nd (aJ (cy K) (dg (cW hr) (qv 2) bw) (bQ aZ hr (af (qv 0) (af (qv 1) (af ah (af (bF (c5 K) (by rfl) bZ fG (af (dg (cW hr) (qv 2) bw) aq)) aq)))))))
  (aj (aS (i:=8) eZ.nd (bF (mS K rfl) (by rfl) fJ xo (af (gE ["_law_one"] [none] rfl (dM K (qv 5)) (fun _ _ _ _=>(aV (i:=0) (show List.Nodup (["_law_one"] :List Str) from by decide +kernel))) (fun _ _ _ _=>(aJ (gD K) (qv 0) ah)) rfl (by rfl)) aq)))
  (aj (jl (aP nh (qv 4) ah (aW _)) (aj (aS (i:=9) eZ.nd (bQ uM hr (af (qv 0) (af (qv 1) (af (qv 5) aq)))))
  (av (b_ (aP jA (bF (c5 K) (by rfl) bZ fG (af (qv 9) aq)) ah (aW _)) (av (bu (bQ uN hr (af (qv 9) aq)))) bB))) bB)
  (aj (b_ (aP dB (qv 4) ah (aW _)) (av (bu (iE (af bw (af (aJ (gD K) (qv 6) ah) (af (qv 7) aq)))))) bB)
  (aj (b_ (aP dB (qv 4) ah (aW _)) (av (bu (iE (af bw (af (aJ (gD K) (qv 6) ah) aq))))) bB)
  (aj (b_ (jO (bW.pt (qA (aP dB (qv 4) ah (aW _)) (rK (aP jA (qv 8) ah (aW _)))))) (av (bu (iE (af bw (af (qv 7) (af (aG bY ah (bQ aZ hr (af (qv 0) (af (qv 1) (af ah (af (bF (xy rfl) (by rfl) oj Gg (af (aG ki (qv 8) ah) (af (aG lG ah ah) aq))) aq)))))) aq)))))) bB)
  (aj (b_ (jO (bW.pt (qA (aP dB (qv 4) ah (aW _)) (qA (aP jA (aJ (gD K) (qv 6) ah) ah (aW _)) (rK (aP nh (bF (c5 K) (by rfl) bZ fG (af (dg (cW hr) (qv 2) bw) aq)) (bF (c5 K) (by rfl) bZ fG (af (qv 3) aq)) (aW _))))))) (aj (aS (i:=10) eZ.nd (aG bY ah (bQ aZ hr (af (qv 0) (af (qv 1) (af ah (af (bF (xy rfl) (by rfl) oj Gg (af (aG ki (aJ (gD K) (qv 6) ah) ah) (af (aG lG ah ah) aq))) aq)))))))
  (av (bu (iE (af bw (af (aJ (gD K) (qv 6) ah) (af (aJ (cy K) (qv 3) (bF (c5 K) (by rfl) bZ fG (af (dg (cW hr) (qv 2) bw) aq))) (af (qv 10) (af (bQ aZ hr (af (qv 0) (af (qv 1) (af ah (af (aG bY (aJ (gD K) (qv 6) ah) ah) aq))))) aq))))))))) bB)
  (aj (b_ (aP dB (qv 4) ah (aW _)) (av (bu (iE (af bw (af (aJ (gD K) (qv 6) ah) (af (aG bY ah (bQ aZ hr (af (qv 0) (af (qv 1) (af ah (af (bF (xy rfl) (by rfl) oj Gg (af (aJ (gD K) (qv 6) ah) (af (aG lG ah ah) aq))) aq)))))) aq)))))) bB)
  (av (bu (iE (af bw (af (aJ (gD K) (qv 6) ah) (af (bQ jR hr (af (qv 0) (af (qv 1) (af ah aq)))) aq))))))))))))))))),?_⟩
 obtain ⟨kvs,lo,lp,lk,us,om,vo,vp,vk,oo,op,rw',ok⟩:=hq
 have ll:=rw'.len
 have hpl:=g.pl
 have fR:=wf.jD
 have acO:=g.ol
 refine ⟨_,Z,m,_,Z,vp▸dG.k (k:=Sum.inr "parts") om,?_⟩
 refine ⟨_,Z,_,Z,_,Z,_,Z,_,us,Z, .inl op,cS hS h63 hk0 (by decide) (by decide) (by omega) fun d _ d0 d1=>?_⟩
 obtain ⟨j,rfl⟩:∃j:Nat,d=(j:Int):=⟨d.toNat,by omega⟩
 have hj:j<st.ak.length:=by omega
 have ep:=bq hj
 have d9:=zO hj
 generalize st.ak[j]=p at *
 obtain ⟨ap,xs,ea,zL,x0,x1,x2,x3⟩:=rw'.at_ j p ep
 refine ⟨lp,_,_,_,Z,Z,op,au ea,?_⟩
 refine ⟨_,Z,m,_,Z,vo▸dG.k (k:=Sum.inr "owners") om,_,Z,_,Z,_,Z,m,_,Z,vo▸dG.k (k:=Sum.inr "owners") om,lo,_,Z, .inl oo,cS hS h63 hk0 (by decide) (by decide) (by rw [aD];omega) fun wd _ w0 w1=>?_⟩
 rw [aD] at w1
 obtain ⟨jo,o,ejo,eo,Ye⟩:=HG (l:=st.own) (d:=wd) w0 w1
 refine ⟨lo,_,_,_,Z,Z,oo,Ye,?_⟩
 have how:=bO eo
 have wol:wl o<=20:=pA (g.on o how)
 have Qo:wl p.nm<=20:=pA (g.nk _ (wf.sub p d9))
 have hw0:=wf.jw p d9
 have eg:cE st p.nm=p:=c8 wf d9 rfl
 have hin:p.nm∈fu st:=yY ep
 refine ⟨_,Z,lp,Z,⟨_,op⟩,fun l0 sV=>?_⟩
 refine iW (J:=tX K lp) (n:=us.length) 0 (fun i o H'=>aQ H H'/\o=((st.ak.take i).map (fun p:Pt=>p.wo)).map V.int) (by omega) ⟨aF sV _,Z⟩ (fun i o H' hi _ hp=>⟨_,_,hp.1.seq op,bq hi⟩) (fun o H' _ hp=>⟨_,hp.1.seq op,aN _⟩) ?_ ?_
 . rintro i y o H2 H3 hi fR ha ⟨g,e⟩ ⟨rfl,hy⟩
   have X_:i<st.ak.length:=by omega
   have ei:=bq X_
   obtain ⟨ar,xs,ea,zL,_,_,x2,_⟩:=rw'.at_ i _ ei
   have ey:=hy _ (g.seq op)
   rw [ea] at ey
   cases ey
   refine ⟨_,Z,(g.sq zL).ix (i:=2) x2 ?_⟩
   refine ⟨ha,g.cJ sV _,?_⟩
   subst e
   rw [take_snoc ei,bL,bL]
   rfl
 rintro o1 H1 _ ha ⟨g1,e⟩
 rw [ll,dQ] at e
 subst e
 refine ⟨l0,st.ak.map (fun p:Pt=>p.wo),Z,aH.of ha,?_⟩
 show pX 8 (.int (aM st)) _ _ _
 have ret:∀(t:Addr) (d:Dd) (H2:Hp),aQ H H2->H2 t=none->y9 nms st d->Q (.ref t) (upd H2 t (.tup (Dd.v d))):=fun t d H2 g2 ht hd=>q t d _ (g2.trans (aF ht _)) ai hd
 have keep:∀d:Dd,sH st d=none->Tc d->d.pl=true->y9 nms st d:=fun d h1 h2 h3=>⟨h1,h2,nx.keep (PN (Dd.RY h3).1 (Dd.RY h3).2.1),(Dd.RY h3).2.2⟩
 refine ⟨fun σ' H'=>aQ H H'/\∃s9,σ'=[some (.ref a),some (.int k),some (.ref m),some (.ref ln),some (.int way),some (.ref lp),some (.ref ap),some (.str o),some (.int (aM st)),s9,none],?_,?_⟩
 . refine ⟨_,Z,_,_,Z,Z,_,Z,aK (fun _=>?_) (fun _=>⟨g1,_,Z⟩)⟩
   have hw1:∀w∈xg st,1<=w.2:=fun w hw=>by obtain ⟨p,hp,rfl⟩:=bK.mp hw;exact (wf.jw p hp).1
   have nwN:((xg st).map (fun r:Row=>r.1)).Nodup:=by unfold xg;rw [gy];exact wf.c6
   have nwL:(xg st).length=st.ak.length:=by unfold xg;rw [aD]
   refine ⟨_,Z,_,Z,_,Z,⟨⟨a,lp,ns,k,us,xg st,Z,g1.seq hS,h63,hk0,hk1,g1.seq op,(rw'.mono g1).nw,nwN,by omega,hw1,fun z zs rs H2 g2 hz0 hz1 hR Yg=>?_⟩⟩⟩
   have zl:=hR.length
   refine ⟨_,Z,z,zs,Z, .inl (aH.of hz1),_,_,Z,Z,_,Z,aK (fun c=>?_) (fun c=>⟨g1.trans g2,_,Z⟩)⟩
   have c':(0:Int)<(zs.length:Int):=aX c
   have hne:rs≠[] :=fun e=>by rw [zl,e] at c';simp at c'
   have rl:=Yg.len
   have:=nx.pl wf
   refine ⟨_,Z,⟨⟨z,zs,rs,Z,aH.of hz1,hR,by omega,fun t H3 g3 ht=>q t (.cast rs) H3 ((g1.trans g2).trans g3) ht (keep _ (NF wf Yg hne) ⟨by omega,fun r hr=>?_⟩ rfl)⟩⟩⟩
   obtain ⟨r1,r2,w,hw,e,_⟩:=Yg.row r hr
   obtain ⟨p',gb,rfl⟩:=bK.mp hw
   have e:p'.nm=r.1:=e
   exact ⟨by rw [<-e];exact pA (g.nk _ (wf.sub p' gb)),by omega,r2⟩
 rintro σ H2 ⟨g2,s9,rfl⟩
 have uO:=g2.sq zL
 have Jk:=g2.seq hS
 have P9:QY 10 9:=⟨by decide,by decide,by decide +kernel⟩
 have p9:(10:Int) ^ (9:Int).toNat=1000000000:=by decide +kernel
 have mn:∀w:Int,0<w->0<(if (10:Int) ^ (9:Int).toNat<w then (10:Int) ^ (9:Int).toNat else w)/\(if (10:Int) ^ (9:Int).toNat<w then (10:Int) ^ (9:Int).toNat else w)<=w/\(if (10:Int) ^ (9:Int).toNat<w then (10:Int) ^ (9:Int).toNat else w)<=1000000000:=fun w h=>by rw [p9];split <;> omega
 refine ⟨_,Z,Z,_,Z,aK (fun _=>?_) (fun _=>?_)⟩
 . exact ⟨_,Z,uO.ix (i:=0) x0 ⟨_,Z,(iF 3),fun t ht=>ret t (.hand p.nm o) H2 g2 ht (keep _ (by show kR st p.nm o=none;unfold kR;rw [aB hin,aB how]) ⟨Qo,wol⟩ rfl)⟩⟩
 refine ⟨_,Z,Z,_,Z,aK (fun _=>?_) (fun _=>?_)⟩
 . exact ⟨_,Z,uO.ix (i:=0) x0 ⟨(iF 2),fun t ht=>ret t (.land p.nm) H2 g2 ht (keep _ (aB hin) Qo rfl)⟩⟩
 by_cases w6:way=10/\1<aM st
 . refine ⟨true,⟨_,Z,Z,_,Z,aK (fun _=>⟨_,Z,_,_,Z,Z,_,Z,aY w6.2,Z⟩) (fun c=>absurd (aY (by rw [w6.1])) c)⟩,lu ?_⟩
   obtain ⟨m0,m1,m2⟩:=mn (aM st-1) (by omega)
   refine ⟨_,Z,_,Z,_,Z,_,Z,_,_,Z,Z,_,_,Z,Z,P9,_,_,Z,cS Jk h63 hk0 (by decide) (by decide) m0 fun d _ d0 d1=>⟨_,_,Z,Z,(iF 3),fun t ht=>ret t (.award o (1+d)) H2 g2 ht (keep _ ?_ ⟨wol,by omega,by omega⟩ rfl)⟩⟩
   show kr st o (1+d)=none
   unfold kr
   rw [aB how,aA (by omega),aA (by omega)]
 refine ⟨false,⟨_,Z,Z,_,Z,aK (fun c=>⟨_,Z,_,_,Z,Z,_,Z,dR (fun z=>w6 ⟨V.int.inj (aX c),z⟩),Z⟩) (fun c=>⟨Z,Z⟩)⟩,iP ?_⟩
 have NV:((nms.map V.str).length:Int)=(nms.length:Int):=by rw [aD]
 have NW:((st.nms.map V.str).length:Int)=(st.nms.length:Int):=by rw [aD]
 by_cases h11:way=11/\1<p.wo/\st.nms.length<nms.length
 . refine ⟨true,⟨_,Z,Z,_,Z,aK (fun _=>⟨_,Z,uO.ix (i:=2) x2 ⟨_,_,Z,Z,_,Z,aK (fun _=>⟨_,Z,m,_,Z,vk▸dG.k (k:=Sum.inr "known") (g2 _ _ om),lk,_,Z, .inl (g2.seq ok),_,Z,ln,_,Z, .inl (g2.seq hN),_,_,Z,Z,_,Z,aY (by rw [NV,NW];omega),Z⟩) (fun c=>absurd (aY h11.2.1) c)⟩⟩) (fun c=>absurd (aY (by rw [h11.1])) c)⟩,lu ?_⟩
   obtain ⟨m0,m1,m2⟩:=mn (p.wo-1) (by omega)
   have ey:=bq h11.2.2
   obtain ⟨y1,y2,y3⟩:=nx.next ey
   generalize nms[st.nms.length]=y at *
   have Yh:qj (nms.map V.str) ((st.nms.length:Nat):Int)=some (.str y):=au (by rw [bN,ey];rfl)
   refine ⟨_,Z,_,Z,_,Z,uO.ix (i:=2) x2 ⟨_,_,Z,Z,_,_,Z,Z,P9,_,_,Z,cS Jk h63 hk0 (by decide) (by decide) m0 fun d _ d0 d1=>⟨_,_,Z,Z,?_⟩⟩⟩
   refine ⟨_,Z,uO.ix (i:=0) x0 ⟨_,Z,_,Z,m,_,Z,vk▸dG.k (k:=Sum.inr "known") (g2 _ _ om),lk,_,Z, .inl (g2.seq ok),ln,_,_,_,Z,Z,g2.seq hN,by rw [aD];exact Yh,_,Z,_,Z,_,Z,_,Z,uO.ix (i:=3) x3 ⟨_,_,Z,Z,cS Jk h63 hk0 (by decide) (by decide) (by omega) fun v _ v0 v1=>⟨(iF 5),fun t ht=>ret t (.sever p.nm y (1+d) v) H2 g2 ht ⟨?_,⟨Qo,pA y1,⟨by omega,by omega⟩,⟨by omega,?_⟩⟩,y3 _ rfl,by show (8:Nat)≠0;decide⟩⟩⟩⟩⟩
   . show i6 st p.nm y (1+d) v=none
     unfold i6
     rw [aB hin,x9 y1 y2,eg]
     show (if _ then _ else _)=none
     rw [aA (by omega),aA (by omega)]
   . have:=g.we p d9
     omega
 refine ⟨false,⟨_,Z,Z,_,Z,aK (fun c=>⟨_,Z,uO.ix (i:=2) x2 ⟨_,_,Z,Z,_,Z,aK (fun c2=>⟨_,Z,m,_,Z,vk▸dG.k (k:=Sum.inr "known") (g2 _ _ om),lk,_,Z, .inl (g2.seq ok),_,Z,ln,_,Z, .inl (g2.seq hN),_,_,Z,Z,_,Z,dR (fun z=>h11 ⟨V.int.inj (aX c),aX c2,by rw [NV,NW] at z;omega⟩),Z⟩) (fun c=>⟨Z,Z⟩)⟩⟩) (fun c=>⟨Z,Z⟩)⟩,iP ?_⟩
 refine ⟨_,Z,Z,_,Z,aK (fun _=>?_) (fun _=>?_)⟩
 . obtain ⟨m0,m1,m2⟩:=mn p.wo (by omega)
   refine ⟨_,Z,uO.ix (i:=0) x0 ⟨_,Z,_,Z,_,Z,uO.ix (i:=2) x2 ⟨_,_,Z,Z,P9,_,_,Z,cS Jk h63 hk0 (by decide) (by decide) m0 fun d _ d0 d1=>⟨_,_,Z,Z,(iF 3),fun t ht=>ret t (.mishap p.nm (1+d)) H2 g2 ht (keep _ ?_ ⟨Qo,by omega,by omega⟩ rfl)⟩⟩⟩⟩
   show jU st (p.nm,1+d)=none
   unfold jU
   show (if p.nm∈fu st then (if 1+d<1 then _ else if (cE st p.nm).wo<1+d then _ else _) else _)=none
   rw [aB hin,aA (by omega),eg,aA (by omega)]
 refine ⟨_,Z,uO.ix (i:=0) x0 ⟨_,Z,_,Z,G_ Jk h63 hk0 (by decide) (by decide) fun w H3 w1 w2 g3=>⟨(iF 3),fun t ht=>ret t (.rise p.nm w) H3 (g2.trans g3) ht (keep _ ?_ ⟨Qo,by omega,by omega⟩ rfl)⟩⟩⟩
 show lS st p.nm w=none
 unfold lS
 rw [aB hin,aA (by omega)]
abbrev tN:Stmt:=top 34
abbrev qh:List Str:=["_law_script","_law_k","_law_model","_law_names_here"]
abbrev Ky:List Str:=qh.append ["_law_way","_law_more","_law_owner","_law_worth"]
theorem kI:aO Ky qh (aC tN):=dO
theorem Jl (F:At K mg "_law_deed" tN f fd) (aZ:Dn P w K mg base 1 "_law_draw" gk (qm K)) (jR:Dn P w K mg base 2 "_law_much" lO (Bh K)) (mK:Dn P w K mg base 3 "_law_part_deed" jI (BR K)) (bZ:mg "len"=none):Dn P w K mg base 4 "_law_deed" qh (PR K):=by
 refine F.oA kI fun cdv A outer s H vs Q E hr h=>?_
 obtain ⟨⟨a,m,ln,ns,k,nms,c,st,rfl,hS,h63,hk0,hk1,hq,hN,nx,hnl,wf,g,hc,q⟩⟩:=h
 refine ⟨_,(@cU.h _ _ _ (aj (aS (i:=4) kI.nd (bQ aZ hr (af (qv 0) (af (qv 1) (af ah (af ah aq))))))
  (aj (aS (i:=5) kI.nd (C3 nh (bF (c5 K) (by rfl) bZ fG (af (dg (cW hr) (qv 2) bw) aq)) (bF (c5 K) (by rfl) bZ fG (af (qv 3) aq)) (aW _)))
  (aj (b_ (jO (bW.pt (qA (yb (qv 5)) (rK (jO (bW.pt (BI (aP nh (qv 4) ah (aW _)) (yd (aP nh (bF (c5 K) (by rfl) bZ fG (af (dg (cW hr) (qv 2) bw) aq)) ah (aW _)))))))))) (aj (aS (i:=6) kI.nd (aJ (cy K) (dg (cW hr) (qv 2) bw) (bQ aZ hr (af (qv 0) (af (qv 1) (af ah (af (bF (c5 K) (by rfl) bZ fG (af (dg (cW hr) (qv 2) bw) aq)) aq)))))))
  (aj (aS (i:=7) kI.nd (bQ jR hr (af (qv 0) (af (qv 1) (af ah aq)))))
  (av (bu (iE (af bw (af (aJ (cy K) (qv 3) (bF (c5 K) (by rfl) bZ fG (af (dg (cW hr) (qv 2) bw) aq))) (af (qv 6) (af (qv 7) (af (bQ aZ hr (af (qv 0) (af (qv 1) (af ah (af ah aq))))) aq)))))))))) bB)
  (aj (b_ (aP dB (bF (c5 K) (by rfl) bZ fG (af (dg (cW hr) (qv 2) bw) aq)) ah (aW _)) (av (bu (iE (af bw aq)))) bB)
  (av (bu (bQ mK hr (af (qv 0) (af (qv 1) (af (qv 2) (af (qv 3) (af (qv 4) aq))))))))))))),?_⟩
 obtain ⟨kvs,lo,lp,lk,us,om,vo,vp,vk,oo,op,rw',ok⟩:=id hq
 have ll:=rw'.len
 have hpl:=g.pl
 have fR:=wf.jD
 have acO:=g.ol
 have NV:((nms.map V.str).length:Int)=(nms.length:Int):=by rw [aD]
 have NW:((st.nms.map V.str).length:Int)=(st.nms.length:Int):=by rw [aD]
 refine ⟨_,Z,_,Z,cS hS h63 hk0 (by decide) (by decide) (by decide) fun way _ v0 v1=>?_⟩
 refine ⟨_,Z,m,_,Z,vk▸dG.k (k:=Sum.inr "known") om,lk,_,Z, .inl ok,_,Z,ln,_,Z, .inl hN,_,_,Z,Z,?_⟩
 rw [NV,NW]
 have orR:∀b:Bool,b=decide (way<3\/st.ak.length<2)->(Z1 (MP (Lk (zq fun i j=>V.bl (decide (i<j))) (MM 4) (tC (V.int 3)))) (MP (Lk (zq fun i j=>V.bl (decide (i<j))) (V5 (fun xs H Q=>∃p ys,xs=[V.ref p]/\(aH K H p ys\/cQ K H p ys)/\Q (V.int ↑ys.length) H) (FZ (SJ (MM 2) (tC (V.str "parts"))) qG)) (tC (V.int 2))))) [some (.ref a),some (.int k),some (.ref m),some (.ref ln),some (.int way),some (.bl (decide ((st.nms.length:Int)<(nms.length:Int)))),none,none] H (fun b' H'=>b'=b/\H'=H):=fun b eb=>by
  refine ⟨_,Z,_,_,Z,Z,_,Z,aK (fun c=>⟨?_,Z⟩) (fun c=>⟨_,Z,m,_,Z,vp▸dG.k (k:=Sum.inr "parts") om,lp,_,Z, .inl op,_,_,Z,Z,_,Z,?_,Z⟩)⟩
  . rw [eb];exact (aY (.inl (aX c))).symm
  . have c':¬ way<3:=rO (oS.mpr c)
    rw [eb]
    by_cases h2:st.ak.length<2
    . rw [aY (.inr h2:way<3\/st.ak.length<2)];exact aY (by omega)
    . rw [dR (fun z=>z.elim c' h2:¬ (way<3\/st.ak.length<2))];exact dR (by omega)
 by_cases hL:st.nms.length<nms.length/\(way<3\/st.ak.length<2)
 . refine ⟨true,⟨_,Z,_,Z,aK (fun _=>⟨true,orR true (aY hL.2).symm,Z,Z⟩) (fun c=>absurd (aY (by omega)) c)⟩,lu ?_⟩
   have ey:=bq hL.1
   obtain ⟨y1,y2,y3⟩:=nx.next ey
   generalize nms[st.nms.length]=y at *
   have Yh:qj (nms.map V.str) ((st.nms.length:Nat):Int)=some (.str y):=au (by rw [bN,ey];rfl)
   refine ⟨_,Z,m,_,Z,vo▸dG.k (k:=Sum.inr "owners") om,_,Z,_,Z,_,Z,m,_,Z,vo▸dG.k (k:=Sum.inr "owners") om,lo,_,Z, .inl oo,cS hS h63 hk0 (by decide) (by decide) (by rw [aD];omega) fun wd _ w0 w1=>?_⟩
   rw [aD] at w1
   obtain ⟨jo,o,ejo,eo,Ye⟩:=HG (l:=st.own) (d:=wd) w0 w1
   have how:=bO eo
   refine ⟨lo,_,_,_,Z,Z,oo,Ye,?_⟩
   refine ⟨_,Z,_,Z,G_ hS h63 hk0 (by decide) (by decide) fun w H1 w1 w2 g1=>?_⟩
   refine ⟨_,Z,_,Z,m,_,Z,vk▸dG.k (k:=Sum.inr "known") (g1 _ _ om),lk,_,Z, .inl (g1.seq ok),ln,_,_,_,Z,Z,g1.seq hN,by rw [aD];exact Yh,_,Z,_,Z,_,Z,_,Z,cS (g1.seq hS) h63 hk0 (by decide) (by decide) (by decide) fun v _ v0 v1=>⟨(iF 5),fun t ht=>q t (.load y o w v) _ (g1.trans (aF ht _)) ai ⟨NB y1 y2 how w1 v0,⟨pA y1,pA (g.on o how),⟨by omega,by omega⟩,⟨by omega,by omega⟩⟩,y3 _ rfl,by show (1:Nat)≠0;decide⟩⟩⟩
 refine ⟨false,⟨_,Z,_,Z,aK (fun c=>⟨false,orR false (dR (fun z=>hL ⟨by have:=aX c;omega,z⟩)).symm,Z,Z⟩) (fun c=>⟨Z,Z⟩)⟩,iP ?_⟩
 refine ⟨_,Z,m,_,Z,vp▸dG.k (k:=Sum.inr "parts") om,lp,_,Z, .inl op,Z,_,Z,aK (fun c=>?_) (fun cz=>?_)⟩
 . exact ⟨(iF 1),fun t ht=>q t .still _ (aF ht _) ai ⟨Z,True.intro,nx,by show (9:Nat)≠0;decide⟩⟩
 have c':0<st.ak.length:=Nat.pos_of_ne_zero fun z=>cz (aY (by rw [ll,z];rfl))
 exact ⟨_,Z,_,Z,_,Z,_,Z,_,Z,⟨⟨a,m,ln,ns,k,way,nms,c,st,Z,hS,h63,hk0,hk1,hq,hN,nx,hnl,wf,g,hc,c',q⟩⟩⟩
abbrev wO:Stmt:=top 35
abbrev qE:List Str:=["_law_parts","_law_name_here"]
abbrev Qp:List Str:=qE.append ["_law_at_here"]
theorem Cg:aO Qp qE (aC wO):=dO
theorem NX (F:At K mg "_law_at" wO f fd) (bZ:mg "len"=none) (cX:mg "range"=none):Dn P w K mg base 1 "_law_at" qE (Nt K):=by
 refine F.oA Cg fun cdv A outer s H vs Q E hr h=>?_
 obtain ⟨⟨l,us,ws,j,r,rfl,hl,hW,nd,hle,ej,q⟩⟩:=h
 refine ⟨_,(@cU.h _ _ _ (aj (fT gi rfl (mX (by rfl) cX (af (bF (c5 K) (by rfl) bZ fG (af (qv 0) aq)) aq)) (aV (i:=2) Cg.nd) (av (b_ (aP dB (aJ (gD K) (aJ (cy K) (qv 0) (qv 2)) ah) (qv 1) (aW _)) (av (bu (qv 2))) bB)))
  (av (bu (Tg Oj ah))))),?_⟩
 have ll:=hW.len
 have hj:j<ws.length:=(dP.mp ej).1
 refine ⟨_,Z,l,_,Z, .inl hl,_,Z,by omega,by omega,?_⟩
 refine mP (lo:=0) (n:=((us.length:Nat):Int).toNat) (fun i σ H'=>H'=H/\i<=j/\∃s2,σ=[some (.ref l),some (.str r.1),s2]) ⟨Z,gM _,_,Z⟩ ?_ ?_
 . rintro i σ H' hi ⟨rfl,hn,s2,rfl⟩
   have e0:(0:Int)+(i:Int)=((i:Nat):Int):=by omega
   rw [e0]
   have hio:i<ws.length:=by omega
   have ei:=bq hio
   obtain ⟨a,xs,ea,zL,x0,_⟩:=hW.at_ i _ ei
   refine ⟨_,Z,_,Z,l,_,_,_,Z,Z,hl,au ea,zL.ix (i:=0) x0 ?_⟩
   refine ⟨_,Z,Z,_,Z,aK (fun c=>?_) (fun c=>?_)⟩
   . have c':(ws[i]).1=r.1:=V.str.inj (aX c)
     have:i=j:=by
      have r1:(ws.map (fun r:Row=>r.1))[i]?=some (ws[i]).1:=by rw [bN,ei];rfl
      have r2:(ws.map (fun r:Row=>r.1))[j]?=some r.1:=by rw [bN,ej];rfl
      exact (MI (by rw [aD];exact hio) nd).mp (r1.trans (by rw [c'];exact r2.symm))
     subst this
     exact ⟨_,Z,q⟩
   . refine ⟨Z,?_,_,Z⟩
     rcases Nat.lt_or_ge i j with z|z
     . exact z
     . have:i=j:=by omega
       subst this
       rw [ei] at ej
       cases ej
       exact absurd (aY rfl) c
 rintro σ H' ⟨rfl,hn,s2,rfl⟩
 omega
abbrev mL:Stmt:=top 36
abbrev j_:List Str:=["_law_model","_law_part","_law_deed_here"]
abbrev Ci:List Str:=j_
theorem Ao:aO Ci j_ (aC mL):=dO
theorem Aq (F:At K mg "_law_lite_one" mL f fd):Dn P w K mg base 1 "_law_lite_one" j_ (Ez K):=by
 refine F.oA Ao fun cdv A outer s H vs Q E hr h=>?_
 obtain ⟨⟨n,ρ,B,st,i,p,a,z,d,rfl,hz,G,hb,ep,ea,hd,hpl,hkl,q⟩⟩:=h
 refine ⟨_,(@cU.h _ _ _ (av (b_ (aP dB (aJ (aR K) (qv 2) ah) bw (aW _)) (av (lJ (aG ki (aJ (cy K) (qv 1) ah) (aJ (aR K) (qv 2) ah)) (lK (qv 1) ah set_list))) (av (b_ (aP dB (aJ (aR K) (qv 2) ah) bw (aW _)) (av (lJ (aG bY (aJ (cy K) (qv 1) ah) (aJ (aR K) (qv 2) ah)) (lK (qv 1) ah set_list))) (av (b_ (aP dB (aJ (aR K) (qv 2) ah) bw (aW _)) (av (lJ (aJ (aR K) (qv 2) ah) (lK (qv 1) ah set_list))) (av (b_ (aP dB (aJ (aR K) (qv 2) ah) bw (aW _)) (av (lJ ah (lK (qv 1) ah set_list))) (av (b_ (aP dB (aJ (aR K) (qv 2) ah) bw (aW _)) (aj (lJ (aG ki (aJ (cy K) (qv 1) ah) (aJ (aR K) (qv 2) ah)) (lK (qv 1) ah set_list))
  (aj (lJ (aG ki (aJ (cy K) (qv 1) ah) (aJ (aR K) (qv 2) ah)) (lK (qv 1) ah set_list))
  (aj (cA (kU oO oM oN ef (dg (cW hr) (qv 0) bw) (af (i7 (af (aJ (aR K) (qv 2) ah) (af (aJ (cy K) (qv 1) ah) (af (aJ (aR K) (qv 2) ah) (af (aJ (aR K) (qv 2) ah) aq))))) aq)))
  (av (cA (kU oO oM oN ef (dg (cW hr) (qv 0) bw) (af (aJ (aR K) (qv 2) ah) aq))))))) bB))))))))))),?_⟩
 obtain ⟨ha,ca⟩:=hb.pt i _ a (pG ep) ea
 have ha:H a=some (.lst [.str p.nm, .str p.ow, .int p.wo, .int p.we]):=ha
 have gc:cQ K H z d.v:=cQ.of hz
 have za:z≠a:=fun e=>by rw [e,ha] at hz;cases hz
 cases d with
 | mishap x m=>
   refine ⟨_,Z,z,_,_,_,Z,Z,gc,au (j:=0) rfl,Z,_,Z,aK (fun _=>?_) (fun c=>absurd (aY rfl) c)⟩
   refine ⟨_,Z,a,_,_,_,Z,Z,aH.of ha,au (j:=2) rfl,_,Z,z,_,_,_,Z,Z,gc,au (j:=2) rfl,_,_,Z,Z,_,Z,a,_,_,2,Z,Z,ha,Z,?_⟩
   exact q _ _ _ (G.wr rfl) (hb.iD G (p.nm,p.ow,p.wo-m,p.we) ea) rfl (Fr.write ca)
 | rise x m=>
   refine ⟨_,Z,z,_,_,_,Z,Z,gc,au (j:=0) rfl,Z,_,Z,aK (fun c=>absurd (aX c) (by decide)) (fun c=>?_)⟩
   refine ⟨_,Z,z,_,_,_,Z,Z,gc,au (j:=0) rfl,Z,_,Z,aK (fun _=>?_) (fun c=>absurd (aY rfl) c)⟩
   refine ⟨_,Z,a,_,_,_,Z,Z,aH.of ha,au (j:=2) rfl,_,Z,z,_,_,_,Z,Z,gc,au (j:=2) rfl,_,_,Z,Z,_,Z,a,_,_,2,Z,Z,ha,Z,?_⟩
   exact q _ _ _ (G.wr rfl) (hb.iD G (p.nm,p.ow,p.wo+m,p.we) ea) rfl (Fr.write ca)
 | hand x o=>
   refine ⟨_,Z,z,_,_,_,Z,Z,gc,au (j:=0) rfl,Z,_,Z,aK (fun c=>absurd (aX c) (by decide)) (fun c=>?_)⟩
   refine ⟨_,Z,z,_,_,_,Z,Z,gc,au (j:=0) rfl,Z,_,Z,aK (fun c=>absurd (aX c) (by decide)) (fun c=>?_)⟩
   refine ⟨_,Z,z,_,_,_,Z,Z,gc,au (j:=0) rfl,Z,_,Z,aK (fun _=>?_) (fun c=>absurd (aY rfl) c)⟩
   refine ⟨_,Z,z,_,_,_,Z,Z,gc,au (j:=2) rfl,_,Z,a,_,_,1,Z,Z,ha,Z,?_⟩
   exact q _ _ _ (G.wr rfl) (hb.iD G (p.nm,o,p.wo,p.we) ea) rfl (Fr.write ca)
 | land x=>
   refine ⟨_,Z,z,_,_,_,Z,Z,gc,au (j:=0) rfl,Z,_,Z,aK (fun c=>absurd (aX c) (by decide)) (fun c=>?_)⟩
   refine ⟨_,Z,z,_,_,_,Z,Z,gc,au (j:=0) rfl,Z,_,Z,aK (fun c=>absurd (aX c) (by decide)) (fun c=>?_)⟩
   refine ⟨_,Z,z,_,_,_,Z,Z,gc,au (j:=0) rfl,Z,_,Z,aK (fun c=>absurd (aX c) (by decide)) (fun c=>?_)⟩
   refine ⟨_,Z,z,_,_,_,Z,Z,gc,au (j:=0) rfl,Z,_,Z,aK (fun _=>?_) (fun c=>absurd (aY rfl) c)⟩
   refine ⟨_,Z,a,_,_,2,Z,Z,ha,Z,?_⟩
   exact q _ _ _ (G.wr rfl) (hb.iD G (p.nm,p.ow,0,p.we) ea) rfl (Fr.write ca)
 | sever x y m we=>
   refine ⟨_,Z,z,_,_,_,Z,Z,gc,au (j:=0) rfl,Z,_,Z,aK (fun c=>absurd (aX c) (by decide)) (fun c=>?_)⟩
   refine ⟨_,Z,z,_,_,_,Z,Z,gc,au (j:=0) rfl,Z,_,Z,aK (fun c=>absurd (aX c) (by decide)) (fun c=>?_)⟩
   refine ⟨_,Z,z,_,_,_,Z,Z,gc,au (j:=0) rfl,Z,_,Z,aK (fun c=>absurd (aX c) (by decide)) (fun c=>?_)⟩
   refine ⟨_,Z,z,_,_,_,Z,Z,gc,au (j:=0) rfl,Z,_,Z,aK (fun c=>absurd (aX c) (by decide)) (fun c=>?_)⟩
   refine ⟨_,Z,z,_,_,_,Z,Z,gc,au (j:=0) rfl,Z,_,Z,aK (fun _=>?_) (fun c=>absurd (aY rfl) c)⟩
   refine ⟨_,Z,a,_,_,_,Z,Z,aH.of ha,au (j:=2) rfl,_,Z,z,_,_,_,Z,Z,gc,au (j:=3) rfl,_,_,Z,Z,_,Z,a,_,_,2,Z,Z,ha,Z,?_⟩
   have h1:=hb.iD G (p.nm,p.ow,p.wo-m,p.we) ea
   have G1:=G.wr (a:=a) (o:= .lst (gJ (p.nm,p.ow,p.wo-m,p.we))) rfl
   have F1:Fr n ρ H ρ (upd H a (.lst (gJ (p.nm,p.ow,p.wo-m,p.we)))):=Fr.write ca
   have z1:upd H a (.lst (gJ (p.nm,p.ow,p.wo-m,p.we))) z=some (.tup (Dd.v (.sever x y m we))):=by rw [ay za];exact hz
   have a1:upd H a (.lst (gJ (p.nm,p.ow,p.wo-m,p.we))) a=some (.lst (gJ (p.nm,p.ow,p.wo-m,p.we))):=ai
   have n1:∀b,upd H a (.lst (gJ (p.nm,p.ow,p.wo-m,p.we))) b=none->H b=none:=fun b=>je
   show vJ _ _ _ _ (upd H a (.lst (gJ (p.nm,p.ow,p.wo-m,p.we))))
   generalize upd H a (.lst (gJ (p.nm,p.ow,p.wo-m,p.we)))=H1 at *
   refine ⟨_,Z,a,_,_,_,Z,Z,aH.of a1,au (j:=3) rfl,_,Z,z,_,_,_,Z,Z,cQ.of z1,au (j:=4) rfl,_,_,Z,Z,_,Z,a,_,_,3,Z,Z,a1,Z,?_⟩
   have h2:bP n ρ B (upd H1 a (.lst (gJ (p.nm,p.ow,p.wo-m,p.we-we)))) { eF st with ak:=(bf st).set i (p.nm,p.ow,p.wo-m,p.we-we) }:=by
    have:=h1.iD G1 (p.nm,p.ow,p.wo-m,p.we-we) ea
    have e:((bf st).set i (p.nm,p.ow,p.wo-m,p.we)).set i (p.nm,p.ow,p.wo-m,p.we-we)=(bf st).set i (p.nm,p.ow,p.wo-m,p.we-we):=tU ..
    rw [<-e];exact this
   have G2:=G1.wr (a:=a) (o:= .lst (gJ (p.nm,p.ow,p.wo-m,p.we-we))) rfl
   have F2:=F1.trans (Fr.write (o:= .lst (gJ (p.nm,p.ow,p.wo-m,p.we-we))) ca)
   have z2:upd H1 a (.lst (gJ (p.nm,p.ow,p.wo-m,p.we-we))) z=some (.tup (Dd.v (.sever x y m we))):=by rw [ay za];exact z1
   have a2:upd H1 a (.lst (gJ (p.nm,p.ow,p.wo-m,p.we-we))) a=some (.lst (gJ (p.nm,p.ow,p.wo-m,p.we-we))):=ai
   have n2:∀b,upd H1 a (.lst (gJ (p.nm,p.ow,p.wo-m,p.we-we))) b=none->H b=none:=fun b h=>n1 b (je h)
   show vJ _ _ _ _ (upd H1 a (.lst (gJ (p.nm,p.ow,p.wo-m,p.we-we))))
   generalize upd H1 a (.lst (gJ (p.nm,p.ow,p.wo-m,p.we-we)))=H2 at *
   refine ⟨_,Z,B.m,_,Z,dG.k (k:=Sum.inr "parts") h2.om, .inl ⟨Z,_,aH.of h2.op⟩,_,Z,z,_,_,_,Z,Z,cQ.of z2,au (j:=2) rfl,_,Z,a,_,_,_,Z,Z,aH.of a2,au (j:=1) rfl,_,Z,z,_,_,_,Z,Z,cQ.of z2,au (j:=3) rfl,_,Z,z,_,_,_,Z,Z,cQ.of z2,au (j:=4) rfl,(iF 4),fun t ht=>?_⟩
   have g3:=aF ht (.lst (gJ (y,p.ow,m,we)))
   have t3:upd H2 t (.lst (gJ (y,p.ow,m,we))) t=some (.lst (gJ (y,p.ow,m,we))):=ai
   show qG _ (upd H2 t (.lst (gJ (y,p.ow,m,we)))) _
   generalize upd H2 t (.lst (gJ (y,p.ow,m,we)))=H3 at *
   have tn:H t=none:=n2 t ht
   have ct:ρ t=none:=G2.none ht
   have h3:=(h2.mono g3).col (t:=44) (x:=nx) ct
   have G3:Gh (cN ρ t (n,44,nx)) H3:=(G2.same g3).color t3 rfl
   have F3:Fr n ρ H (cN ρ t (n,44,nx)) H3:=(F2.trans (Fr.of_same (ρ:=ρ) g3)).mz tn
   have tq:t∉B.qs:=fun mem=>by
    obtain ⟨j,hj,ej⟩:=xr mem
    have hj2:j<((bf st).set i (p.nm,p.ow,p.wo-m,p.we-we)).length:=by rw [gK,<-show B.qs.length=(bf st).length from hb.ql];exact hj
    have:=(h2.pt j _ t (bq hj2) (by rw [bq hj,ej])).1
    rw [ht] at this;cases this
   have ql:(bf st).length=st.ak.length:=by unfold bf;rw [aD]
   have lq:(B.qs.map V.ref).length<1000:=by rw [aD,hb.ql];show (bf st).length<1000;rw [ql];exact hpl
   refine ⟨B.lp,_,_,Z,Z,h3.op,dH (by omega),?_⟩
   rw [show B.qs.map V.ref++[V.ref t]=(B.qs++[t]).map V.ref from by rw [bL];rfl]
   have h4:=h3.PM G3 (q:=(y,p.ow,m,we)) t3 di tq
   have G4:=G3.wr (a:=B.lp) (o:= .lst ((B.qs++[t]).map V.ref)) rfl
   have F4:=F3.trans (Fr.write (o:= .lst ((B.qs++[t]).map V.ref)) h3.cp)
   have nz:z≠B.lp:=fun e=>by have:=h3.op;rw [<-e,g3 _ _ z2] at this;cases this
   have z4:upd H3 B.lp (.lst ((B.qs++[t]).map V.ref)) z=some (.tup (Dd.v (.sever x y m we))):=by rw [ay nz];exact g3 _ _ z2
   generalize upd H3 B.lp (.lst ((B.qs++[t]).map V.ref))=H4 at *
   refine ⟨_,Z,B.m,_,Z,dG.k (k:=Sum.inr "known") h4.om, .inl ⟨Z,_,aH.of h4.ok⟩,_,Z,z,_,_,_,Z,Z,cQ.of z4,au (j:=2) rfl,B.lk,_,_,Z,Z,h4.ok,by rw [aD];exact dH (by show st.nms.length<=1000;omega),?_⟩
   rw [show List.map V.str (eF st).BQ++[V.str y]=(st.nms++[y]).map V.str from by rw [bL];rfl]
   exact q _ _ _ (G4.wr rfl) (h4.L6 G4 (st.nms++[y])) rfl (F4.trans (Fr.write h4.ck))
 | _=>exact absurd hd (by simp [Dd.part])
abbrev ou:Stmt:=top 37
abbrev k7:List Str:=["_law_model","_law_deed_here"]
abbrev Dr:List Str:=k7.append ["_law_parts","_law_k","_law_part"]
theorem kg:aO Dr k7 (aC ou):=dO
theorem Cj (F:At K mg "_law_lite_do" ou f fd) (kJ:Dn P w K mg base 1 "_law_at" qE (Nt K)) (oz:Dn P w K mg base 1 "_law_lite_one" j_ (Ez K)) (bZ:mg "len"=none) (cX:mg "range"=none):Dn P w K mg base 2 "_law_lite_do" k7 (Ir K):=by
 refine F.oA kg fun cdv A outer s H vs Q E hr h=>?_
 obtain ⟨⟨n,c,ρ,B,st,z,d,rfl,hz,G,hb,wf,g,hc,hr0,hk,q⟩⟩:=h
 refine ⟨_,(@cU.h _ _ _ (aj (aS (i:=2) kg.nd (dg (cW hr) (qv 0) bw))
  (aj (jl (aP dB (aJ (aR K) (qv 1) ah) bw (aW _)) (aj (cA (kU oO oM oN ef (qv 2) (af (i7 (af (aJ (aR K) (qv 1) ah) (af (aJ (aR K) (qv 1) ah) (af (aJ (aR K) (qv 1) ah) (af (aJ (aR K) (qv 1) ah) aq))))) aq)))
  (av (cA (kU oO oM oN ef (dg (cW hr) (qv 0) bw) (af (aJ (aR K) (qv 1) ah) aq))))) (av (b_ (aP dB (aJ (aR K) (qv 1) ah) bw (aW _)) (av (fT gi rfl (Er (by rfl) cX (af ah (af (bF (c5 K) (by rfl) bZ fG (af (qv 1) aq)) (af ah aq)))) (aV (i:=3) kg.nd) (aj (aS (i:=4) kg.nd (aJ (cy K) (qv 2) (bQ kJ hr (af (qv 2) (af (aJ (aR K) (qv 1) (qv 3)) aq)))))
  (av (lJ (aG ki (aJ (cy K) (qv 4) ah) (aJ (aR K) (qv 1) (aG bY (qv 3) ah))) (lK (qv 4) ah set_list)))))) (av (b_ (aP GI (aJ (aR K) (qv 1) ah) (iE (af bw (af bw aq))) (by with_unfolding_all rfl)) (av (cA (bQ oz hr (af (qv 0) (af (aJ (cy K) (qv 2) (bQ kJ hr (af (qv 2) (af (aJ (aR K) (qv 1) ah) aq)))) (af (qv 1) aq)))))) bB)))))
  (av (rL (cW hr) (qv 0) bw (z7 ["_law_part"] [none] rfl (dM K (dg (cW hr) (qv 0) bw)) (fun _ _ _ _=>(aV (i:=0) (show List.Nodup (["_law_part"] :List Str) from by decide +kernel))) (fun _ _ _ _=>(qv 0)) (fun _ _ _ _=>(aP jA (aJ (cy K) (qv 0) ah) ah (aW _))) rfl (by rfl)) rfl))))),?_⟩
 have gc:cQ K H z d.v:=cQ.of hz
 have hpl:=g.pl
 have hkl:=g.kl
 refine ⟨_,Z,B.m,_,Z,dG.k (k:=Sum.inr "parts") hb.om,?_⟩
 refine ⟨fun σ' H'=>∃ρ5 B5 l5 s2 s3 s4,σ'=[some (.ref B.m),some (.ref z),s2,s3,s4]/\Gh ρ5 H'/\bP n ρ5 B5 H' l5/\l5.ak.length<=1000/\NG l5=eF (gP st d)/\B5.m=B.m/\Fr n ρ H ρ5 H',?_,?_⟩
 . have ql:(bf st).length=st.ak.length:=by unfold bf;rw [aD]
   have bql:B.qs.length=st.ak.length:=by rw [<-ql];exact hb.ql
   have Yi:((bf st).map fun q:Q4=>q.1).Nodup:=by rw [BV];exact wf.c6
   have lq:(B.qs.map V.ref).length<1000:=by rw [aD];omega
   by_cases hp:d.part=none
   rotate_left
   ·
    obtain ⟨x,hx⟩:=Option.ne_none_iff_exists'.mp hp
    obtain ⟨e1,k1,k2,k3,k9⟩:=Dd.Xr hx
    obtain ⟨j,p,ep,en⟩:=jG (U4 hx hr0)
    subst en
    refine ⟨_,Z,z,_,_,_,Z,Z,gc,au d.v0,Z,_,Z,aK (fun c=>absurd (V.str.inj (aX c)) (d.HY k1 (by decide))) (fun _=>?_)⟩
    refine ⟨_,Z,z,_,_,_,Z,Z,gc,au d.v0,Z,_,Z,aK (fun c=>absurd (V.str.inj (aX c)) (d.HY k2 (by decide))) (fun _=>?_)⟩
    have hin:(!DV (.str d.w) ((["award","still"] :List Str).map V.str))=true:=by rw [RG,dR (fun m=>by rcases c9.mp m with w|w;exact d.HY k3 (by decide) w;exact d.HY k9 (by decide) (fN.mp w))];rfl
    refine ⟨_,Z,z,_,_,_,Z,Z,gc,au d.v0,(iF 2),fun t ht=>⟨t,_,Z, .inr (cQ.of ai),Z,xT ["award","still"],_,Z,aK (fun _=>?_) (fun c=>absurd hin c)⟩⟩
    have g1:=aF ht (.tup [.str "award", .str "still"])
    have G1:=G.same g1
    have h1:=hb.mono g1
    have z1:=g1 _ _ hz
    generalize upd H t (.tup [.str "award", .str "still"])=H1 at *
    have jB:j<B.qs.length:=by rw [bql];exact (dP.mp ep).1
    have ea:=bq jB
    generalize B.qs[j]=a at *
    refine ⟨_,Z,_,Z,_,Z,_,Z,z,_,_,_,Z,Z,cQ.of z1,au e1,⟨⟨B.lp,_,um (bf st),j,(p.nm,p.wo),Z,aH.of h1.op,h1.nw,by rw [yk];exact Yi,by unfold um;rw [aD];omega,by unfold um;rw [bN,pG ep];rfl,?_⟩⟩⟩
    refine ⟨B.lp,_,_,_,Z,Z,aH.of h1.op,au (by rw [bN,ea];rfl),_,Z,⟨⟨n,ρ,B,st,j,p,a,z,d,Z,z1,G1,h1,ep,ea,hx,by omega,by omega,fun ρ' B' H' G' h' em F'=>?_⟩⟩⟩
    exact ⟨ρ',B',_,_,_,_,Z,G',h',fP (R5 _ _ _ _) (by show (bf st).length+1<=1000;omega),R0 wf hr0 ep hx,em,(Fr.of_same g1).trans F'⟩
   cases d with
   | load x o wo we=>
     refine ⟨_,Z,z,_,_,_,Z,Z,gc,au (j:=0) rfl,Z,_,Z,aK (fun _=>?_) (fun c=>absurd (aY rfl) c)⟩
     refine ⟨_,Z, .inl ⟨Z,_,aH.of hb.op⟩,_,Z,z,_,_,_,Z,Z,gc,au (j:=1) rfl,_,Z,z,_,_,_,Z,Z,gc,au (j:=2) rfl,_,Z,z,_,_,_,Z,Z,gc,au (j:=3) rfl,_,Z,z,_,_,_,Z,Z,gc,au (j:=4) rfl,(iF 4),fun t ht=>?_⟩
     have g3:=aF ht (.lst (gJ (x,o,wo,we)))
     have t3:upd H t (.lst (gJ (x,o,wo,we))) t=some (.lst (gJ (x,o,wo,we))):=ai
     show qG _ (upd H t (.lst (gJ (x,o,wo,we)))) _
     generalize upd H t (.lst (gJ (x,o,wo,we)))=H3 at *
     have ct:ρ t=none:=G.none ht
     have h3:=(hb.mono g3).col (t:=44) (x:=nx) ct
     have G3:Gh (cN ρ t (n,44,nx)) H3:=(G.same g3).color t3 rfl
     have F3:Fr n ρ H (cN ρ t (n,44,nx)) H3:=(Fr.of_same (ρ:=ρ) g3).mz ht
     have tq:t∉B.qs:=fun mem=>by
      obtain ⟨j,hj,ej⟩:=xr mem
      have hj2:j<(bf st).length:=by omega
      have:=(hb.pt j _ t (bq hj2) (by rw [bq hj,ej])).1
      rw [ht] at this;cases this
     refine ⟨B.lp,_,_,Z,Z,h3.op,dH (by omega),?_⟩
     rw [show B.qs.map V.ref++[V.ref t]=(B.qs++[t]).map V.ref from by rw [bL];rfl]
     have h4:=h3.PM G3 (q:=(x,o,wo,we)) t3 di tq
     have G4:=G3.wr (a:=B.lp) (o:= .lst ((B.qs++[t]).map V.ref)) rfl
     have F4:=F3.trans (Fr.write (o:= .lst ((B.qs++[t]).map V.ref)) h3.cp)
     have nz:z≠B.lp:=fun e=>by have:=h3.op;rw [<-e,g3 _ _ hz] at this;cases this
     have z4:upd H3 B.lp (.lst ((B.qs++[t]).map V.ref)) z=some (.tup (Dd.v (.load x o wo we))):=by rw [ay nz];exact g3 _ _ hz
     generalize upd H3 B.lp (.lst ((B.qs++[t]).map V.ref))=H4 at *
     refine ⟨_,Z,B.m,_,Z,dG.k (k:=Sum.inr "known") h4.om, .inl ⟨Z,_,aH.of h4.ok⟩,_,Z,z,_,_,_,Z,Z,cQ.of z4,au (j:=1) rfl,B.lk,_,_,Z,Z,h4.ok,by rw [aD];exact dH (by show st.nms.length<=1000;omega),?_⟩
     rw [show List.map V.str (eF st).BQ++[V.str x]=(st.nms++[x]).map V.str from by rw [bL];rfl]
     exact ⟨_,_,_,_,_,_,Z,G4.wr rfl,h4.L6 G4 (st.nms++[x]),by show (bf st++[_]).length<=1000;rw [dw];show (bf st).length+1<=1000;omega,wF (d:= .load x o wo we) wf hr0 rfl hk,Z,F4.trans (Fr.write h4.ck)⟩
   | cast rs=>
     refine ⟨_,Z,z,_,_,_,Z,Z,gc,au (j:=0) rfl,Z,_,Z,aK (fun c=>absurd (aX c) (by decide)) (fun c=>?_)⟩
     refine ⟨_,Z,z,_,_,_,Z,Z,gc,au (j:=0) rfl,Z,_,Z,aK (fun _=>?_) (fun c=>absurd (aY rfl) c)⟩
     obtain ⟨_,Tu,uL,_⟩:=yi hr0
     have hrl:rs.length<=st.ak.length:=by
      have:=rX (l:=rs.map fun r:Row=>r.1) (m:=fu st) Tu (fun x hx=>by obtain ⟨r,hr,rfl⟩:=bK.mp hx;exact (jH (uL r hr)).1)
      rwa [aD,show (fu st).length=st.ak.length by unfold fu;rw [aD]] at this
     refine ⟨_,Z,z,_,Z, .inr gc,_,_,_,Z,⟨by decide,by decide,by omega,by rw [wG];omega,by decide,by decide⟩,?_⟩
     rw [wG,PX]
     refine Ng (lo:=1) (st:=2) (n:=rs.length) (fun i σ H'=>∃s3 s4,σ=[some (.ref B.m),some (.ref z),some (.ref B.lp),s3,s4]/\Gh ρ H'/\bP n ρ B H' { eF st with ak:=ku (rs.take i) (bf st) }/\Fr n ρ H ρ H'/\H' z=some (.tup (Dd.v (.cast rs)))) ⟨_,_,Z,G,by rw [List.take_zero,R4];exact hb,Fr.refl,hz⟩ ?_ ?_
     . rintro i σ H' hi ⟨s3,s4,rfl,G',h',F',z'⟩
       have ei:=bq hi
       generalize rs[i]=r at *
       obtain ⟨c1,c2⟩:=L8 ei
       obtain ⟨j,p,ep,en⟩:=jG (jH (uL r (bO ei))).1
       have jB:j<B.qs.length:=by rw [bql];exact (dP.mp ep).1
       have ea:=bq jB
       generalize B.qs[j]=a at *
       have hn:r.1∉(rs.take i).map (fun r:Row=>r.1):=by
        rw [List.map_take]
        exact o_ Tu (by rw [bN,ei];rfl)
       obtain ⟨m1,m2⟩:=PY (rs:=rs.take i) (r:=r) Yi (pG ep) en hn
       obtain ⟨ha,ca⟩:=h'.pt j _ a m2 ea
       have ha:H' a=some (.lst [.str p.nm, .str p.ow, .int p.wo, .int p.we]):=ha
       have e1:(1:Int)+(i:Int)*2=((1+2*i:Nat):Int):=by omega
       have e2:((1+2*i:Nat):Int)+1=((2+2*i:Nat):Int):=by omega
       rw [e1]
       refine ⟨_,Z,_,Z,_,Z,_,Z,z,_,_,_,Z,Z,cQ.of z',au c1,⟨⟨B.lp,_,um (ku (rs.take i) (bf st)),j,(r.1,p.wo),Z,aH.of h'.op,h'.nw,by rw [yk,NH];exact Yi,by unfold um;rw [aD,Iw];omega,by unfold um;rw [bN,m2,<-en];rfl,?_⟩⟩⟩
       refine ⟨B.lp,_,_,_,Z,Z,aH.of h'.op,au (by rw [bN,ea];rfl),?_⟩
       refine ⟨_,Z,a,_,_,_,Z,Z,aH.of ha,au (j:=2) rfl,_,Z,_,Z,_,_,Z,Z,z,_,_,_,Z,Z,cQ.of z',by rw [e2];exact au c2,_,_,Z,Z,_,Z,a,_,_,2,Z,Z,ha,Z,?_⟩
       have za:z≠a:=fun e=>by rw [e,ha] at z';cases z'
       refine ⟨_,_,Z,G'.wr rfl,?_,F'.trans (Fr.write ca),by rw [ay za];exact z'⟩
       rw [take_snoc ei,m1]
       exact h'.iD G' (p.nm,p.ow,p.wo-r.2,p.we) ea
     rintro σ H' ⟨s3,s4,rfl,G',h',F',z'⟩
     rw [dQ] at h'
     exact ⟨ρ,B,_,_,_,_,Z,G',h',by show (ku rs (bf st)).length<=1000;rw [Iw];omega,wF (d:= .cast rs) wf hr0 rfl hk,Z,F'⟩
   | award o a=>
     refine ⟨_,Z,z,_,_,_,Z,Z,gc,au (j:=0) rfl,Z,_,Z,aK (fun c=>absurd (aX c) (by decide)) (fun c=>?_)⟩
     refine ⟨_,Z,z,_,_,_,Z,Z,gc,au (j:=0) rfl,Z,_,Z,aK (fun c=>absurd (aX c) (by decide)) (fun c=>?_)⟩
     exact ⟨_,Z,z,_,_,_,Z,Z,gc,au (j:=0) rfl,(iF 2),fun t ht=>⟨t,_,Z, .inr (cQ.of ai),Z,xT ["award","still"],_,Z,aK (fun c=>absurd c (by decide +kernel)) (fun _=>⟨ρ,B,eF st,_,_,_,Z,G.same (aF ht _),hb.mono (aF ht _),by show (bf st).length<=1000;omega,wF (d:= .award o a) wf hr0 rfl hk,Z,Fr.of_same (aF ht _)⟩)⟩⟩
   | still=>
     refine ⟨_,Z,z,_,_,_,Z,Z,gc,au (j:=0) rfl,Z,_,Z,aK (fun c=>absurd (aX c) (by decide)) (fun c=>?_)⟩
     refine ⟨_,Z,z,_,_,_,Z,Z,gc,au (j:=0) rfl,Z,_,Z,aK (fun c=>absurd (aX c) (by decide)) (fun c=>?_)⟩
     exact ⟨_,Z,z,_,_,_,Z,Z,gc,au (j:=0) rfl,(iF 2),fun t ht=>⟨t,_,Z, .inr (cQ.of ai),Z,xT ["award","still"],_,Z,aK (fun c=>absurd c (by decide +kernel)) (fun _=>⟨ρ,B,eF st,_,_,_,Z,G.same (aF ht _),hb.mono (aF ht _),by show (bf st).length<=1000;omega,wF (d:= .still) wf hr0 rfl hk,Z,Fr.of_same (aF ht _)⟩)⟩⟩
   | sign o=>exact absurd rfl hk
   | _=>exact absurd hp (by simp [Dd.part])
 rintro σ H5 ⟨ρ5,B5,l5,s2,s3,s4,rfl,G5,h5,pl5,el5,Yj,F5⟩
 have TM:=h5.ql
 have qml:(B5.qs.map V.ref).length=l5.ak.length:=by rw [aD];exact TM
 have om6:H5 B.m=some (.dK (iM B5)):=by rw [<-Yj];exact h5.om
 refine ⟨_,Z,B.m,_,Z,dG.k (k:=Sum.inr "parts") om6,B5.lp,Z,⟨_,aH.of h5.op⟩,fun lp yD=>?_⟩
 refine Uy (J:=tX K B5.lp) (n:=l5.ak.length) 0 (fun i o H'=>aQ H5 H'/\o=(jm (l5.ak.take i) (B5.qs.take i)).map V.ref) (by omega) ⟨aF yD _,Z⟩ (fun i o H' hi _ hp=>⟨_,_,aH.of (hp.1 _ _ h5.op),bq (by rw [qml];exact hi)⟩) (fun o H' _ hp=>⟨_,aH.of (hp.1 _ _ h5.op),by rw [qml];exact aN _⟩) ?_ ?_
 . rintro i y o H7 H8 hi fR ha ⟨g,e⟩ ⟨rfl,hy⟩
   have ei:=bq hi
   obtain ⟨qq,eq,k1,_⟩:=h5.find ei
   have ey:=hy _ (aH.of (g _ _ h5.op))
   rw [bN,eq] at ey
   cases ey
   have es:=Kc ei eq
   refine ⟨_,Z,qq,_,_,_,Z,Z,aH.of (g _ _ k1),au (j:=2) rfl,_,_,Z,Z,_,Z,aK (fun c=>?_) (fun c=>?_)⟩
   . rw [aB (aX c)] at es
     refine ⟨_,Z,ha,g.cJ yD _,?_⟩
     rw [es,e,bL]
     rfl
   . rw [aA (rO (oS.mpr c))] at es
     exact ⟨ha,g,by rw [es,e,yH]⟩
 rintro o H7 _ ha ⟨g7,e⟩
 rw [dQ,<-TM,dQ] at e
 subst e
 have h7:=h5.mono g7
 have G7:=G5.same g7
 have clp:ρ5 lp=none:=G5.none yD
 have h8:=h7.col (t:=42) (x:=nx) clp
 have G8:Gh (cN ρ5 lp (n,42,nx)) H7:=G7.color ha rfl
 have F8:Fr n ρ H (cN ρ5 lp (n,42,nx)) H7:=F5.trans (Fr.color yD g7)
 have h9:bP n (cN ρ5 lp (n,42,nx)) { { B5 with lp:=lp } with qs:=jm l5.ak B5.qs } (upd H7 B5.m (.dK (iM { B5 with lp:=lp }))) (NG l5):=h8.Xp G8 (lp:=lp) (qs:=jm l5.ak B5.qs) (ps:=l5.ak.filter fun p=>decide (0<p.2.2.1)) ha di (h5.nd.sublist wC) (BS TM) (fun i x y ex ey=>by
  obtain ⟨j,a1,a2⟩:=yj TM ex ey
  exact h8.pt j x y a1 a2)
 have cm8:=h8.cm
 rw [Yj] at h9 cm8
 refine ⟨_,Z,B.m,_,Z,uC.k (k:=Sum.inr "parts") (by rw [<-Yj];exact h7.om) (by show 3<sizeLine;decide),?_⟩
 rw [R3]
 rw [el5] at h9
 exact q _ _ _ (G8.wr rfl) h9 rfl (F8.trans (Fr.write cm8))
abbrev oB:Stmt:=top 38
abbrev k_:List Str:=["_law_hold","_law_deed_here"]
abbrev Ds:List Str:=k_
theorem Ck:aO Ds k_ (aC oB):=dO
theorem Cm {T:TC} {e:Ec} (F:At K mg "_law_hold_do" oB f fd) (jS:Mn P w K mg base 3 T.hold "sign" lN (CU T)) (uP:Mn P w K mg base 4 T.hold "load" p7 (Pd T)) (uQ:Mn P w K mg base 4 T.hold "cast" p8 (Pn T K)) (Jo:Mn P w K mg base 4 T.hold "award" nW (sN (Ie T e))) (Fb:Mn P w K mg base 3 T.hold "mishap" lX (sN (Es T e))) (Kz:Mn P w K mg base 2 T.hold "rise" p_ (sN (LU T e))) (KA:Mn P w K mg base 2 T.hold "hand" qa (sN (LV T e))) (KC:Mn P w K mg base 5 T.hold "land" qb (sN (LZ T e))) (Jp:Mn P w K mg base 4 T.hold "sever" nX (sN (Ig T e))) (bZ:mg "len"=none) (cX:mg "range"=none):Dn P w K mg base 6 "_law_hold_do" k_ (Iu T K):=by
 refine F.oA Ck fun cdv A outer s H vs Q E hr h=>?_
 obtain ⟨⟨n,c,ρ,A,st,z,d,rfl,hz,hh,gg,hc,hk,ho,hr0,q⟩⟩:=h
 refine ⟨_,(@cU.h _ _ _ (aj (b_ (aP dB (aJ (aR K) (qv 1) ah) bw (aW _)) (av (bu (bR jS hr (qv 0) (af (aJ (aR K) (qv 1) ah) aq)))) (av (b_ (aP dB (aJ (aR K) (qv 1) ah) bw (aW _)) (av (bu (bR uP hr (qv 0) (af (aJ (aR K) (qv 1) ah) (af (aJ (aR K) (qv 1) ah) (af (aJ (aR K) (qv 1) ah) (af (aJ (aR K) (qv 1) ah) aq))))))) (av (b_ (aP dB (aJ (aR K) (qv 1) ah) bw (aW _)) (av (bu (bR uQ hr (qv 0) (af (gE ["_law_k","_law_deed_here"] [none,some 1] rfl (Er (by rfl) cX (af ah (af (bF (c5 K) (by rfl) bZ fG (af (qv 1) aq)) (af ah aq)))) (fun _ _ _ _=>(aV (i:=0) (show List.Nodup (["_law_k","_law_deed_here"] :List Str) from by decide +kernel))) (fun _ _ _ _=>(iE (af (aJ (aR K) (qv 1) (qv 0)) (af (aJ (aR K) (qv 1) (aG bY (qv 0) ah)) aq)))) rfl (by rfl)) aq)))) (av (b_ (aP dB (aJ (aR K) (qv 1) ah) bw (aW _)) (av (bu (bR Jo hr (qv 0) (af (aJ (aR K) (qv 1) ah) (af (aJ (aR K) (qv 1) ah) aq))))) (av (b_ (aP dB (aJ (aR K) (qv 1) ah) bw (aW _)) (av (bu (bR Fb hr (qv 0) (af (aJ (aR K) (qv 1) ah) (af (aJ (aR K) (qv 1) ah) aq))))) (av (b_ (aP dB (aJ (aR K) (qv 1) ah) bw (aW _)) (av (bu (bR Kz hr (qv 0) (af (aJ (aR K) (qv 1) ah) (af (aJ (aR K) (qv 1) ah) aq))))) (av (b_ (aP dB (aJ (aR K) (qv 1) ah) bw (aW _)) (av (bu (bR KA hr (qv 0) (af (aJ (aR K) (qv 1) ah) (af (aJ (aR K) (qv 1) ah) aq))))) (av (b_ (aP dB (aJ (aR K) (qv 1) ah) bw (aW _)) (av (bu (bR KC hr (qv 0) (af (aJ (aR K) (qv 1) ah) aq)))) (av (b_ (aP dB (aJ (aR K) (qv 1) ah) bw (aW _)) (av (bu (bR Jp hr (qv 0) (af (aJ (aR K) (qv 1) ah) (af (aJ (aR K) (qv 1) ah) (af (aJ (aR K) (qv 1) ah) (af (aJ (aR K) (qv 1) ah) aq))))))) bB)))))))))))))))))
  (av (bu Xb)))),?_⟩
 have wf:=hh.wf
 have hpl:=gg.pl
 have hkl:=gg.kl
 cases d with
 | sign o=>
   obtain ⟨s1,s2⟩:=PZ hr0
   refine ⟨_,Z,z,_,_,_,Z,Z,hz,au (j:=0) rfl,Z,_,Z,aK (fun _=>?_) (fun c=>absurd (aY rfl) c)⟩
   refine ⟨_,Z,A.a,A.dx,_,Z,hh.h.oa,Z,_,Z,z,_,_,_,Z,Z,hz,au (j:=1) rfl,⟨⟨n,ρ,A,st,o,Z,hh,s1,s2,ho,q⟩⟩⟩
 | load x o wo we=>
   obtain ⟨l1,l2,l3,l4,l5⟩:=uf hr0
   refine ⟨_,Z,z,_,_,_,Z,Z,hz,au (j:=0) rfl,Z,_,Z,aK (fun c=>absurd (aX c) (by decide)) (fun c=>?_)⟩
   refine ⟨_,Z,z,_,_,_,Z,Z,hz,au (j:=0) rfl,Z,_,Z,aK (fun _=>?_) (fun c=>absurd (aY rfl) c)⟩
   refine ⟨_,Z,A.a,A.dx,_,Z,hh.h.oa,Z,_,Z,z,_,_,_,Z,Z,hz,au (j:=1) rfl,_,Z,z,_,_,_,Z,Z,hz,au (j:=2) rfl,_,Z,z,_,_,_,Z,Z,hz,au (j:=3) rfl,_,Z,z,_,_,_,Z,Z,hz,au (j:=4) rfl,⟨⟨n,ρ,A,st,x,o,wo,we,Z,hh,l1,l2,l3,l4,l5,by omega,by omega,q⟩⟩⟩
 | cast rs=>
   refine ⟨_,Z,z,_,_,_,Z,Z,hz,au (j:=0) rfl,Z,_,Z,aK (fun c=>absurd (aX c) (by decide)) (fun c=>?_)⟩
   refine ⟨_,Z,z,_,_,_,Z,Z,hz,au (j:=0) rfl,Z,_,Z,aK (fun c=>absurd (aX c) (by decide)) (fun c=>?_)⟩
   refine ⟨_,Z,z,_,_,_,Z,Z,hz,au (j:=0) rfl,Z,_,Z,aK (fun _=>?_) (fun c=>absurd (aY rfl) c)⟩
   have ok:=gg.Ip wf (by omega) hr0
   have hrl:rs.length<=1000:=ok.len
   refine ⟨_,Z,A.a,A.dx,_,Z,hh.h.oa,Z,_,Z,z,_,Z, .inr hz,_,_,_,Z,⟨by decide,by decide,by omega,by rw [wG];omega,by decide,by decide⟩,?_⟩
   rw [wG,PX]
   intro acc hacc
   refine iW (J:=Nf 1 2 rs.length) (n:=rs.length) 0 (fun i out H1=>aQ H H1/\fF H1 out (rs.take i)) (by omega) ⟨aF hacc _, .nil⟩ (fun i o H' hi _ _=>hi) (fun o H' _ _=>aN _) ?_ ?_
   . rintro i x out H1 H2 hi fR ha ⟨g,R⟩ ⟨rfl,rfl⟩
     have ei:=bq hi
     generalize rs[i]=r at *
     obtain ⟨c1,c2⟩:=L8 ei
     have e1:(1:Int)+(i:Int)*2=((1+2*i:Nat):Int):=by omega
     have e2:((1+2*i:Nat):Int)+1=((2+2*i:Nat):Int):=by omega
     rw [e1]
     refine ⟨_,Z,_,Z,z,_,_,_,Z,Z,g.tup hz,au c1,_,Z,_,Z,_,_,Z,Z,z,_,_,_,Z,Z,g.tup hz,by rw [e2];exact au c2,(iF 2),fun p hp=>?_⟩
     have g6:=aF hp (vW r)
     refine ⟨g6 _ _ ha,(g.trans g6).cJ hacc _,?_⟩
     rw [take_snoc ei]
     exact ((R.mono g6.tups).snoc ai).mono (rG (.inr ⟨_,g6 _ _ ha,Z⟩))
   rintro out H1 fR ha ⟨g,R⟩
   rw [dQ] at R
   exact ⟨⟨n,ρ,A,st,acc,out,rs,Z,hh.mono g,aH.of ha,R,ok,fun ρ' A' H' a1 a2 a3=>q ρ' A' H' a1 a2 ((Fr.of_same g).trans a3)⟩⟩
 | award o a=>
   refine ⟨_,Z,z,_,_,_,Z,Z,hz,au (j:=0) rfl,Z,_,Z,aK (fun c=>absurd (aX c) (by decide)) (fun c=>?_)⟩
   refine ⟨_,Z,z,_,_,_,Z,Z,hz,au (j:=0) rfl,Z,_,Z,aK (fun c=>absurd (aX c) (by decide)) (fun c=>?_)⟩
   refine ⟨_,Z,z,_,_,_,Z,Z,hz,au (j:=0) rfl,Z,_,Z,aK (fun c=>absurd (aX c) (by decide)) (fun c=>?_)⟩
   refine ⟨_,Z,z,_,_,_,Z,Z,hz,au (j:=0) rfl,Z,_,Z,aK (fun _=>?_) (fun c=>absurd (aY rfl) c)⟩
   refine ⟨_,Z,A.a,A.dx,_,Z,hh.h.oa,Z,_,Z,z,_,_,_,Z,Z,hz,au (j:=1) rfl,_,Z,z,_,_,_,Z,Z,hz,au (j:=2) rfl,⟨⟨n,ρ,A,st,o,a,Z,hh,gg.aw wf (by omega), .of hr0 q⟩⟩⟩
 | mishap x a=>
   refine ⟨_,Z,z,_,_,_,Z,Z,hz,au (j:=0) rfl,Z,_,Z,aK (fun c=>absurd (aX c) (by decide)) (fun c=>?_)⟩
   refine ⟨_,Z,z,_,_,_,Z,Z,hz,au (j:=0) rfl,Z,_,Z,aK (fun c=>absurd (aX c) (by decide)) (fun c=>?_)⟩
   refine ⟨_,Z,z,_,_,_,Z,Z,hz,au (j:=0) rfl,Z,_,Z,aK (fun c=>absurd (aX c) (by decide)) (fun c=>?_)⟩
   refine ⟨_,Z,z,_,_,_,Z,Z,hz,au (j:=0) rfl,Z,_,Z,aK (fun c=>absurd (aX c) (by decide)) (fun c=>?_)⟩
   refine ⟨_,Z,z,_,_,_,Z,Z,hz,au (j:=0) rfl,Z,_,Z,aK (fun _=>?_) (fun c=>absurd (aY rfl) c)⟩
   refine ⟨_,Z,A.a,A.dx,_,Z,hh.h.oa,Z,_,Z,z,_,_,_,Z,Z,hz,au (j:=1) rfl,_,Z,z,_,_,_,Z,Z,hz,au (j:=2) rfl,⟨⟨n,ρ,A,st,x,a,Z,hh, .of hr0 q⟩⟩⟩
 | rise x a=>
   refine ⟨_,Z,z,_,_,_,Z,Z,hz,au (j:=0) rfl,Z,_,Z,aK (fun c=>absurd (aX c) (by decide)) (fun c=>?_)⟩
   refine ⟨_,Z,z,_,_,_,Z,Z,hz,au (j:=0) rfl,Z,_,Z,aK (fun c=>absurd (aX c) (by decide)) (fun c=>?_)⟩
   refine ⟨_,Z,z,_,_,_,Z,Z,hz,au (j:=0) rfl,Z,_,Z,aK (fun c=>absurd (aX c) (by decide)) (fun c=>?_)⟩
   refine ⟨_,Z,z,_,_,_,Z,Z,hz,au (j:=0) rfl,Z,_,Z,aK (fun c=>absurd (aX c) (by decide)) (fun c=>?_)⟩
   refine ⟨_,Z,z,_,_,_,Z,Z,hz,au (j:=0) rfl,Z,_,Z,aK (fun c=>absurd (aX c) (by decide)) (fun c=>?_)⟩
   refine ⟨_,Z,z,_,_,_,Z,Z,hz,au (j:=0) rfl,Z,_,Z,aK (fun _=>?_) (fun c=>absurd (aY rfl) c)⟩
   refine ⟨_,Z,A.a,A.dx,_,Z,hh.h.oa,Z,_,Z,z,_,_,_,Z,Z,hz,au (j:=1) rfl,_,Z,z,_,_,_,Z,Z,hz,au (j:=2) rfl,⟨⟨n,ρ,A,st,x,a,Z,hh, .of hr0 q⟩⟩⟩
 | hand x o=>
   refine ⟨_,Z,z,_,_,_,Z,Z,hz,au (j:=0) rfl,Z,_,Z,aK (fun c=>absurd (aX c) (by decide)) (fun c=>?_)⟩
   refine ⟨_,Z,z,_,_,_,Z,Z,hz,au (j:=0) rfl,Z,_,Z,aK (fun c=>absurd (aX c) (by decide)) (fun c=>?_)⟩
   refine ⟨_,Z,z,_,_,_,Z,Z,hz,au (j:=0) rfl,Z,_,Z,aK (fun c=>absurd (aX c) (by decide)) (fun c=>?_)⟩
   refine ⟨_,Z,z,_,_,_,Z,Z,hz,au (j:=0) rfl,Z,_,Z,aK (fun c=>absurd (aX c) (by decide)) (fun c=>?_)⟩
   refine ⟨_,Z,z,_,_,_,Z,Z,hz,au (j:=0) rfl,Z,_,Z,aK (fun c=>absurd (aX c) (by decide)) (fun c=>?_)⟩
   refine ⟨_,Z,z,_,_,_,Z,Z,hz,au (j:=0) rfl,Z,_,Z,aK (fun c=>absurd (aX c) (by decide)) (fun c=>?_)⟩
   refine ⟨_,Z,z,_,_,_,Z,Z,hz,au (j:=0) rfl,Z,_,Z,aK (fun _=>?_) (fun c=>absurd (aY rfl) c)⟩
   refine ⟨_,Z,A.a,A.dx,_,Z,hh.h.oa,Z,_,Z,z,_,_,_,Z,Z,hz,au (j:=1) rfl,_,Z,z,_,_,_,Z,Z,hz,au (j:=2) rfl,⟨⟨n,ρ,A,st,x,o,Z,hh,gg.sum, .of hr0 q⟩⟩⟩
 | land x=>
   refine ⟨_,Z,z,_,_,_,Z,Z,hz,au (j:=0) rfl,Z,_,Z,aK (fun c=>absurd (aX c) (by decide)) (fun c=>?_)⟩
   refine ⟨_,Z,z,_,_,_,Z,Z,hz,au (j:=0) rfl,Z,_,Z,aK (fun c=>absurd (aX c) (by decide)) (fun c=>?_)⟩
   refine ⟨_,Z,z,_,_,_,Z,Z,hz,au (j:=0) rfl,Z,_,Z,aK (fun c=>absurd (aX c) (by decide)) (fun c=>?_)⟩
   refine ⟨_,Z,z,_,_,_,Z,Z,hz,au (j:=0) rfl,Z,_,Z,aK (fun c=>absurd (aX c) (by decide)) (fun c=>?_)⟩
   refine ⟨_,Z,z,_,_,_,Z,Z,hz,au (j:=0) rfl,Z,_,Z,aK (fun c=>absurd (aX c) (by decide)) (fun c=>?_)⟩
   refine ⟨_,Z,z,_,_,_,Z,Z,hz,au (j:=0) rfl,Z,_,Z,aK (fun c=>absurd (aX c) (by decide)) (fun c=>?_)⟩
   refine ⟨_,Z,z,_,_,_,Z,Z,hz,au (j:=0) rfl,Z,_,Z,aK (fun c=>absurd (aX c) (by decide)) (fun c=>?_)⟩
   refine ⟨_,Z,z,_,_,_,Z,Z,hz,au (j:=0) rfl,Z,_,Z,aK (fun _=>?_) (fun c=>absurd (aY rfl) c)⟩
   refine ⟨_,Z,A.a,A.dx,_,Z,hh.h.oa,Z,_,Z,z,_,_,_,Z,Z,hz,au (j:=1) rfl,⟨⟨n,ρ,A,st,x,Z,hh,gg.ld wf (by omega) hk, .of hr0 q⟩⟩⟩
 | sever x y a we=>
   refine ⟨_,Z,z,_,_,_,Z,Z,hz,au (j:=0) rfl,Z,_,Z,aK (fun c=>absurd (aX c) (by decide)) (fun c=>?_)⟩
   refine ⟨_,Z,z,_,_,_,Z,Z,hz,au (j:=0) rfl,Z,_,Z,aK (fun c=>absurd (aX c) (by decide)) (fun c=>?_)⟩
   refine ⟨_,Z,z,_,_,_,Z,Z,hz,au (j:=0) rfl,Z,_,Z,aK (fun c=>absurd (aX c) (by decide)) (fun c=>?_)⟩
   refine ⟨_,Z,z,_,_,_,Z,Z,hz,au (j:=0) rfl,Z,_,Z,aK (fun c=>absurd (aX c) (by decide)) (fun c=>?_)⟩
   refine ⟨_,Z,z,_,_,_,Z,Z,hz,au (j:=0) rfl,Z,_,Z,aK (fun c=>absurd (aX c) (by decide)) (fun c=>?_)⟩
   refine ⟨_,Z,z,_,_,_,Z,Z,hz,au (j:=0) rfl,Z,_,Z,aK (fun c=>absurd (aX c) (by decide)) (fun c=>?_)⟩
   refine ⟨_,Z,z,_,_,_,Z,Z,hz,au (j:=0) rfl,Z,_,Z,aK (fun c=>absurd (aX c) (by decide)) (fun c=>?_)⟩
   refine ⟨_,Z,z,_,_,_,Z,Z,hz,au (j:=0) rfl,Z,_,Z,aK (fun c=>absurd (aX c) (by decide)) (fun c=>?_)⟩
   refine ⟨_,Z,z,_,_,_,Z,Z,hz,au (j:=0) rfl,Z,_,Z,aK (fun _=>?_) (fun c=>absurd (aY rfl) c)⟩
   refine ⟨_,Z,A.a,A.dx,_,Z,hh.h.oa,Z,_,Z,z,_,_,_,Z,Z,hz,au (j:=1) rfl,_,Z,z,_,_,_,Z,Z,hz,au (j:=2) rfl,_,Z,z,_,_,_,Z,Z,hz,au (j:=3) rfl,_,Z,z,_,_,_,Z,Z,hz,au (j:=4) rfl,⟨⟨n,ρ,A,st,x,y,a,we,Z,hh,Hy (kX (show i6 st x y a we=none from hr0)).2.1.1,by omega,by omega, .of hr0 q⟩⟩⟩
 | still=>
   refine ⟨_,Z,z,_,_,_,Z,Z,hz,au (j:=0) rfl,Z,_,Z,aK (fun c=>absurd (aX c) (by decide)) (fun c=>?_)⟩
   refine ⟨_,Z,z,_,_,_,Z,Z,hz,au (j:=0) rfl,Z,_,Z,aK (fun c=>absurd (aX c) (by decide)) (fun c=>?_)⟩
   refine ⟨_,Z,z,_,_,_,Z,Z,hz,au (j:=0) rfl,Z,_,Z,aK (fun c=>absurd (aX c) (by decide)) (fun c=>?_)⟩
   refine ⟨_,Z,z,_,_,_,Z,Z,hz,au (j:=0) rfl,Z,_,Z,aK (fun c=>absurd (aX c) (by decide)) (fun c=>?_)⟩
   refine ⟨_,Z,z,_,_,_,Z,Z,hz,au (j:=0) rfl,Z,_,Z,aK (fun c=>absurd (aX c) (by decide)) (fun c=>?_)⟩
   refine ⟨_,Z,z,_,_,_,Z,Z,hz,au (j:=0) rfl,Z,_,Z,aK (fun c=>absurd (aX c) (by decide)) (fun c=>?_)⟩
   refine ⟨_,Z,z,_,_,_,Z,Z,hz,au (j:=0) rfl,Z,_,Z,aK (fun c=>absurd (aX c) (by decide)) (fun c=>?_)⟩
   refine ⟨_,Z,z,_,_,_,Z,Z,hz,au (j:=0) rfl,Z,_,Z,aK (fun c=>absurd (aX c) (by decide)) (fun c=>?_)⟩
   refine ⟨_,Z,z,_,_,_,Z,Z,hz,au (j:=0) rfl,Z,_,Z,aK (fun c=>absurd (aX c) (by decide)) (fun c=>?_)⟩
   exact q ρ A H hh rfl Fr.refl
abbrev qX:Stmt:=top 39
abbrev oE:List Str:=["_law_row"]
abbrev Jq:List Str:=oE.append ["_law_top","_law_bottom","_law_one"]
theorem iS:aO Jq oE (aC qX):=dO
theorem Fc (F:At K mg "_law_added" qX f fd):Dn P w K mg base 1 "_law_added" oE (Mb K):=by
 refine F.oA iS fun cdv A outer s H vs Q E hr h=>?_
 obtain ⟨⟨l,ws,qs,m,rfl,hl,hR,hz,hm,hq,q⟩⟩:=h
 refine ⟨_,(@cU.h _ _ _ (aj (aS (i:=1) iS.nd ah)
  (aj (aS (i:=2) iS.nd ah)
  (aj (fT gi rfl (dM K (qv 0)) (aV (i:=3) iS.nd) (aj (aS (i:=1) iS.nd (aG bY (aG gW (qv 1) (aJ (aR K) (qv 3) ah)) (aG gW (aJ (aR K) (qv 3) ah) (qv 2))))
  (av (aS (i:=2) iS.nd (aG gW (qv 2) (aJ (aR K) (qv 3) ah))))))
  (av (bu (iE (af (qv 1) (af (qv 2) aq))))))))),?_⟩
 have wl:=hR.length
 refine ⟨_,Z,l,Z,⟨ws,hl⟩,?_⟩
 refine l7 (K:=K) (xs:=ws) (fun i σ H'=>H'=H/\∃(t b:Int) (s3:Option V),σ=[some (.ref l),some (.int t),some (.int b),s3]/\0<b/\Jm.Sz ((m+1)*i+1) t/\Jm.Sz ((m+1)*i+1) b/\Jm.fr t b=uI (qs.take i)) ⟨Z,0,1,_,Z,by decide,(show Jm.Sz 1 (0:Int) from jK (by decide +kernel)).mono (by omega),(show Jm.Sz 1 (1:Int) from jK (by decide +kernel)).mono (by omega),by rw [Jm.yQ];rfl⟩ (fun i σ H' _ hp=>by rw [hp.1];exact hl) ?_ ?_
 . rintro i x σ H' hx ⟨rfl,t,b,s3,rfl,b0,tz,bz,et⟩
   obtain ⟨r,qq,rfl,eq,hr⟩:=hR.get hx
   have hi:=(dP.mp eq).1
   obtain ⟨z1,z2⟩:=hz qq (bO eq)
   have d0:(0:Int)<qq.den:=Jm.den_pos _
   have hb:(m+1)*i+1+m<=134217728:=by
    have:(m+1)*i<=10001*10:=Nat.mul_le_mul (by omega) (by omega)
    omega
   have hr:H' r=some (.tup [.int qq.num, .int (qq.den:Int)]):=hr
   refine ⟨_,Z,_,Z,r,_,_,_,Z,Z,cQ.of hr,Z,_,_,Z,Z,gC tz z2 hb,_,Z,r,_,_,_,Z,Z,cQ.of hr,Z,_,Z,_,_,Z,Z,gC z1 bz (by omega),_,_,Z,Z,?_⟩
   refine ⟨_,Z,_,Z,r,_,_,_,Z,Z,cQ.of hr,Z,_,_,Z,Z,gC bz z2 hb,?_⟩
   have e1:(m+1)*(i+1)+1=(m+1)*i+1+m+1:=by rw [Nat.mul_add];omega
   refine ⟨Z,_,_,_,Z,Int.mul_pos b0 d0,?_,?_,?_⟩
   . rw [e1];exact (tz.mul z2).jj ((z1.mul bz).mono (by omega))
   . rw [e1];exact (bz.mul z2).mono (by omega)
   . rw [<-Jm.OO b0 d0,et,Jm.Uk,take_snoc eq]
     exact (P0 _ _).symm
 rintro σ H' ⟨rfl,t,b,s3,rfl,b0,tz,bz,et⟩
 rw [wl,dQ] at et
 refine ⟨_,Z,_,Z,(iF 2),fun r hr=>q t b r _ (aF hr _) ai b0 et (bz.mono ?_)⟩
 have:(m+1)*ws.length<=10001*10:=Nat.mul_le_mul (by omega) (by omega)
 omega
abbrev oF:Stmt:=top 40
abbrev NY:List Str:=["_law_script"]
abbrev ZO:List Str:=NY.append ["_law_owners","_law_names_here","_law_model","_law_hold","_law_owner","_law_ashore","_law_at_here","_law_deed_here","_law_aboard","_law_held","_law_found"]
theorem i_:aO ZO NY (aC oF):=dO
theorem Yk {T:TC} (F:At K mg "law" oF f fd) (aZ:Dn P w K mg base 1 "_law_draw" gk (qm K)) (oG:Dn P w K mg base 2 "_law_names" oh (CP K)) (uR:Dn P w K mg base 1 "_law_lite" qe (PV K)) (Jr:Cn P w K mg base 3 "Hold" T.hold ["self"] (LG T)) (jS:Mn P w K mg base 3 T.hold "sign" lN (CU T)) (uS:Dn P w K mg base 4 "_law_deed" qh (PR K)) (pQ:Dn P w K mg base 2 "_law_lite_do" k7 (Ir K)) (pR:Dn P w K mg base 6 "_law_hold_do" k_ (Iu T K)) (kJ:Dn P w K mg base 1 "_law_at" qE (Nt K)) (dU:Mn P w K mg base 1 T.hold "whole" iH (u_ T)) (tO:Mn P w K mg base 3 T.hold "stake" nY (Iz T)) (tP:Mn P w K mg base 3 T.hold "purse" nZ (Ma T)) (pS:Mn P w K mg base 3 T.hold "fortune" kZ (Qa T)) (kK:Dn P w K mg base 1 "_law_added" oE (Mb K)) (cX:mg "range"=none) (fJ:mg "sum"=none) (oj:mg "min"=none):iO P w K mg base qZ 8 f fd NY (Ga K):=by
 refine F.fn.ok i_ (fun vs H Q E h=>?_) (fun cdv A outer s H vs Q E hr h=>?_)
 . obtain ⟨a,ns,rfl,_⟩:=h
   rfl
 obtain ⟨a,ns,rfl,hS,h63,q⟩:=h
 refine ⟨_,(@cU.h _ _ _ (aj (aS (i:=1) i_.nd (bQ oG hr (af (qv 0) (af ah (af (aG bY ah (bQ aZ hr (af (qv 0) (af ah (af ah (af ah aq)))))) aq)))))
  (aj (aS (i:=2) i_.nd (bQ oG hr (af (qv 0) (af ah (af ah aq)))))
  (aj (aS (i:=3) i_.nd (bQ uR hr (af (qv 1) aq)))
  (aj (aS (i:=4) i_.nd (PF Jr hr))
  (aj (fT gi rfl (dM K (qv 1)) (aV (i:=5) i_.nd) (av (cA (bR jS hr (qv 4) (af (qv 5) aq)))))
  (aj (aS (i:=6) i_.nd ah)
  (aj (fT gi rfl (mX (by rfl) cX (af (aG bY ah (bQ aZ hr (af (qv 0) (af ah (af ah (af ah aq)))))) aq)) (aV (i:=7) i_.nd) (aj (aS (i:=8) i_.nd (bQ uS hr (af (qv 0) (af (aG bY ah (qv 7)) (af (qv 3) (af (qv 2) aq))))))
  (aj (jl (aP dB (aJ (aR K) (qv 8) ah) bw (aW _)) (av (aS (i:=6) i_.nd (aG bY (qv 6) (aJ (cy K) (aJ (cy K) (dg (cW hr) (qv 3) bw) (bQ kJ hr (af (dg (cW hr) (qv 3) bw) (af (aJ (aR K) (qv 8) ah) aq)))) ah)))) bB)
  (aj (cA (bQ pQ hr (af (qv 3) (af (qv 8) aq))))
  (aj (cA (bQ pR hr (af (qv 4) (af (qv 8) aq))))
  (aj (aS (i:=9) i_.nd (bF (mS K rfl) (by rfl) fJ xo (af (gE ["_law_part"] [none] rfl (dM K (dg (cW hr) (qv 3) bw)) (fun _ _ _ _=>(aV (i:=0) (show List.Nodup (["_law_part"] :List Str) from by decide +kernel))) (fun _ _ _ _=>(aJ (cy K) (qv 0) ah)) rfl (by rfl)) aq)))
  (aj (rJ (i:=10) ["_law_owner","_law_hold"] [none,some 4] i_.nd rfl rfl rfl (dM K (qv 1)) (fun _ _ _ _=>(aV (i:=0) (show List.Nodup (["_law_owner","_law_hold"] :List Str) from by decide +kernel))) (fun _ _ _ _=>(bR tO hr (qv 1) (af (qv 0) aq))) rfl (by rfl) (by rfl))
  (aj (b_ (bW.pt (BI (aP nh (bF (Qc K rfl) (by rfl) oj Gg (af (gE ["_law_one"] [none] rfl (dM K (qv 10)) (fun _ _ _ _=>(aV (i:=0) (show List.Nodup (["_law_one"] :List Str) from by decide +kernel))) (fun _ _ _ _=>(aJ (aR K) (qv 0) ah)) rfl (by rfl)) aq)) ah (aW _)) (yd (aP FW (yX dU hr (qv 4)) (qv 9) (aW _))))) (av (bu yW)) bB)
  (aj (aS (i:=11) i_.nd (bQ kK hr (af (qv 10) aq)))
  (aj (b_ (aP FW (aJ (aR K) (qv 11) ah) (aG gW (qv 9) (aJ (aR K) (qv 11) ah)) (aW _)) (av (bu yW)) bB)
  (aj (b_ (aP FW (aJ (aR K) (bQ kK hr (af (gE ["_law_owner","_law_hold"] [none,some 4] rfl (dM K (qv 1)) (fun _ _ _ _=>(aV (i:=0) (show List.Nodup (["_law_owner","_law_hold"] :List Str) from by decide +kernel))) (fun _ _ _ _=>(bR tP hr (qv 1) (af (qv 0) aq))) rfl (by rfl)) aq)) ah) ah (aW _)) (av (bu yW)) bB)
  (aj (aS (i:=11) i_.nd (bQ kK hr (af (gE ["_law_owner","_law_hold"] [none,some 4] rfl (dM K (qv 1)) (fun _ _ _ _=>(aV (i:=0) (show List.Nodup (["_law_owner","_law_hold"] :List Str) from by decide +kernel))) (fun _ _ _ _=>(bR pS hr (qv 1) (af (qv 0) aq))) rfl (by rfl)) aq)))
  (av (b_ (aP FW (aJ (aR K) (qv 11) ah) (aG gW (aG bY (qv 9) (qv 6)) (aJ (aR K) (qv 11) ah)) (aW _)) (av (bu yW)) bB))))))))))))))
  (av (bu yW)))))))))),?_⟩
 refine ⟨_,Z,_,Z,cS hS h63 (by decide) (by decide) (by decide) (by decide) fun od _ o0 o1=>⟨_,_,Z,Z,?_⟩⟩
 obtain ⟨no,hno⟩:∃no:Nat,1+od=(no:Int):=⟨(1+od).toNat,by omega⟩
 refine D3 hno hS h63 (by decide) (by omega) fun zo nso H1 g1 hzo _ afp Yl Ym=>?_
 have hS1:=g1.seq hS
 refine ⟨_,Z,D3 (show (6:Int)=((6:Nat):Int) from rfl) hS1 h63 (by decide) (by decide) fun zn nsn H2 g2 hzn _ afq Yn Yo=>?_⟩
 have Jk:=g2.seq hS1
 have Sg:=g2 _ _ hzo
 rw [UG] at Sg hzn
 have fR:=LJ nso
 have hnl:=LJ nsn
 have nC:=Ea Yl
 have Yp:=Pg Ym
 have nmN:=Ea Yn
 have acP:=Pg Yo
 generalize BC nso=own at *
 generalize BC nsn=nms at *
 clear Yl Ym Yn Yo hzo
 have fS0:=x6.of Jk
 have fN0:=x6.of (aH.of (K:=K) hzn)
 have fO0:=x6.of (aH.of (K:=K) Sg)
 refine ⟨_,Z,⟨⟨zo,own,1,fun _=>none,Z,aH.of Sg,(fun b c e=>by cases e),by omega,fun ρ3 B3 H3 G3 hb3 k3=>?_⟩⟩⟩
 have F3:Fr 1 (fun _=>none) H2 ρ3 H3:=fun b o e _=>k3 b o e
 have fS3:=fS0.go F3.out
 have fN3:=fN0.go F3.out
 have TN:=fO0.go F3.out
 intro x dx hx hdx hne
 refine ⟨⟨x,dx,ρ3,0,Z,ai,(G3.alloc hdx).alloc (by rw [ay (cM hne)];exact hx),G3.none hx,fun ρ4 A4 H4 ea4 qD k4=>⟨Z,?_⟩⟩⟩
 have F4:Fr 0 ρ3 H3 ρ4 H4:=fun b o e _=>k4 b o (by rw [ay (aE e hx),ay (aE e hdx)];exact e) (aE e hx)
 refine ⟨_,Z,zo,Z,⟨_,TN _ _ F4.out⟩,?_⟩
 refine l7 (K:=K) (xs:=own.map V.str) (fun i σ H'=>∃ρ' A' s5,σ=[some (.ref a),some (.ref zo),some (.ref zn),some (.ref B3.m),some (.ref x),s5,none,none,none,none,none,none]/\A'.a=x/\HH T 0 ρ' A' H' ((own.take i).foldl f7 hs0)/\Fr 0 ρ3 H3 ρ' H')
  ⟨ρ4,A4,none,Z,ea4,qD,F4⟩ (fun i σ H' _ hp=>by obtain ⟨_,_,_,_,_,_,f⟩:=hp;exact TN _ _ f.out) ?_ ?_
 . rintro i y σ H' hy ⟨ρ',A',s2,rfl,ea',hh',F'⟩
   rw [bN] at hy
   obtain ⟨o,eo,rfl⟩:=jx.mp hy
   have hi:=(dP.mp eo).1
   have Yq:((own.take i).foldl f7 hs0).own=own.take i:=by rw [t_];rfl
   refine ⟨_,Z,x,A'.dx,_,Z,ea'▸hh'.h.oa,Z,_,Z,⟨⟨0,ρ',A',_,o,by rw [ea'];rfl,hh',(Yp o (bO eo)).isNm,?_,?_,fun ρ2 A2 H2 h2 e2 F2=>?_⟩⟩⟩
   . rw [Yq]
     intro m
     have h2:(own.take (i+1)).Nodup:=nC.sublist (List.take_sublist _ _)
     rw [take_snoc eo] at h2
     exact (List.nodup_append.mp h2).2.2 o m o (fN.mpr rfl) rfl
   . rw [Yq,rQ]
     omega
   . rw [take_snoc eo,Gr]
     exact ⟨ρ2,A2,_,Z,e2.trans ea',h2,F'.trans F2⟩
 rintro σ H5 ⟨ρ5,A5,s5,rfl,ea5,yy,F5⟩
 rw [aD,dQ] at yy
 have yy:HH T 0 ρ5 A5 H5 (jn own):=yy
 have Qq:=hb3.other F5 G3 (by decide)
 have Yr:=fS3.go F5.out
 have fN5:=fN3.go F5.out
 have fO5:=TN.go F5.out
 clear qD k4 F4 F5 hb3 k3 F3 fS3 fN3 TN fS0 fN0 fO0 hx hdx hne
 have gw:=gw0 nC (by omega) (by omega) (fun o ho=>(Yp o ho).isNm)
 have eo0:=L_ own
 rw [<-R6] at Qq
 have nx0:Nx nms (jn own):=Xu nmN (fun x hx=>(acP x hx).isNm)
 have Qq:bP 1 ρ5 B3 H5 (eF (jn own)):=Qq
 have acQ:jV (jn own)=0:=by unfold jV;rw [show (jn own).dj=[] from (kQ own hs0 rfl (fun u hu=>absurd hu (by simp [hs0]))).2.2.2.2.1];rfl
 refine ⟨_,Z,cS (Yr _ _ (aQ.refl _)) h63 (by decide) (by decide) (by decide) (by decide) fun md _ m0 m1=>⟨_,_,Z,Z,_,Z,by omega,by omega,?_⟩⟩
 refine mP (lo:=0) (n:=(1+md).toNat) (fun i σ H'=>∃ρ' A' B' st' s5 s7 s8 s9 OT Ys,σ=[some (.ref a),some (.ref zo),some (.ref zn),some (.ref B3.m),some (.ref x),s5,some (.int (jV st')),s7,s8,s9,OT,Ys]/\HH T 0 ρ' A' H' st'/\bP 1 ρ' B' H' (eF st')/\GW i (100*i) st'/\Mo i st'/\Nx nms st'/\A'.a=x/\B'.m=B3.m/\st'.own=own/\x6 K ρ' H' a (ns.map V.int)/\x6 K ρ' H' zn (nms.map V.str)/\x6 K ρ' H' zo (own.map V.str))
  ⟨ρ5,A5,B3,jn own,_,_,_,_,_,_,by rw [acQ];rfl,yy,Qq,gw,mo0,nx0,ea5,Z,eo0,Yr,fN5,fO5⟩ ?_ ?_
 . clear yy Qq gw nx0 Yr fN5 fO5 ea5
   rintro i σ H6 hi ⟨ρ6,A6,B6,uw,s5,s7,s8,s9,OT,Ys,rfl,zK,Yt,xj,mo6,nx6,ea6,TQ,Yu,Yv,Yw,fO6⟩
   have e0:(0:Int)+(i:Int)=((i:Nat):Int):=by omega
   rw [e0]
   have hS6:=Yv _ _ (aQ.refl _)
   refine ⟨_,Z,_,Z,_,_,Z,Z,_,Z,_,Z,⟨⟨a,B3.m,zn,ns,4+i,nms,i,uw,Z,hS6,h63,by omega,by omega,by rw [<-TQ];exact Yt.q,Yw _ _ (aQ.refl _),nx6,by omega,xj.wf,xj.g,by omega,fun z d H7 g7 hz hd=>?_⟩⟩⟩
   obtain ⟨d1,d2,d3,d4⟩:=hd
   have Js:=Yt.mono g7
   have Yx:H7 B3.m=some (.dK (iM B6)):=by rw [<-TQ];exact Js.om
   have pl6:=xj.g.pl
   have ql:(bf uw).length=uw.ak.length:=by unfold bf;rw [aD]
   refine ⟨fun σ' H'=>H'=H7/\σ'=[some (.ref a),some (.ref zo),some (.ref zn),some (.ref B3.m),some (.ref x),s5,some (.int (jV (gP uw d))),some (.int (i:Int)),some (.ref z),s9,OT,Ys],?_,?_⟩
   . refine ⟨_,Z,z,_,_,_,Z,Z,cQ.of hz,au d.v0,Z,_,Z,?_⟩
     rw [d.Xv]
     refine aK (fun c=>?_) (fun c=>⟨Z,by rw [U7 uw (by simpa using c)];rfl⟩)
     obtain ⟨y,rfl⟩:=Dd.LP (aX c)
     obtain ⟨j,p,ep,en⟩:=jG (qB d1)
     subst en
     obtain ⟨ap,ea,ha,_⟩:=Js.find (pG ep)
     refine ⟨_,Z,_,Z,B3.m,_,Z,dG.k (k:=Sum.inr "parts") Yx,_,Z,B3.m,_,Z,dG.k (k:=Sum.inr "parts") Yx,_,Z,z,_,_,_,Z,Z,cQ.of hz,au (j:=1) rfl,⟨⟨B6.lp,_,um (bf uw),j,(p.nm,p.wo),Z,aH.of Js.op,Js.nw,by rw [yk,BV];exact xj.wf.c6,by unfold um;rw [aD];omega,by unfold um;rw [bN,pG ep];rfl,?_⟩⟩⟩
     refine ⟨B6.lp,_,_,_,Z,Z,aH.of Js.op,au (by rw [bN,ea];rfl),ap,_,_,_,Z,Z,aH.of ha,au (j:=2) rfl,_,_,Z,Z,Z,?_⟩
     rw [show jV (gP uw (.land p.nm))=jV uw+p.wo from by rw [show gP uw (.land p.nm)=p6 uw p.nm from rfl,Qe,c8 xj.wf (bO ep) rfl]]
     rfl
   rintro σ Hx ⟨rfl,rfl⟩
   have yz:=zK.mono g7
   refine ⟨_,Z,_,Z,⟨⟨1,i,ρ6,B6,uw,z,d,by rw [TQ];rfl,hz,yz.g,Js,xj.wf,xj.g,by omega,d1,d4,fun ρ7 B7 H7b G7 Yy em7 F7=>?_⟩⟩⟩
   have Yz:=yz.other F7 G7 (by decide)
   have zt7:H7b z=some (.tup d.v):=(F7 z _ hz (fun t y e=>by rw [yz.g.tup hz] at e;cases e)).1
   have kn6:=xj.kn
   refine ⟨_,Z,_,Z,⟨⟨0,i,ρ7,A6,uw,z,d,by rw [ea6];rfl,cQ.of zt7,Yz,xj.g,by omega,by omega,by rw [Yu];omega,d1,fun ρ8 A8 H8 Qn yF F8=>?_⟩⟩⟩
   have EG:=Yy.other F8 G7 (by decide)
   have EH:=xj.do (d:=d) (by omega) (by omega) (by rw [Yu];omega) d1 d2.g
   have Ml:=ZM (d:=d) mo6 xj.g xj.wf d1
   have Co:(gP uw d).own=own:=(Xs d4).trans Yu
   have o8:aQ (out ρ6 H6) (out ρ8 H8):=(dJ g7).trans (F7.out.trans F8.out)
   have fS8:=Yv.go o8
   have fN8:=Yw.go o8
   have vt:=fO6.go o8
   have yF:A8.a=x:=yF.trans ea6
   have em8:B7.m=B3.m:=em7.trans TQ
   clear zK Yt Js yz Yz Yy F7 F8 Yv Yw fO6 zt7 hz Yx
   generalize gP uw d=fq at *
   have EI:=EH.wf
   have NZ:=EH.g.st Ml EI (by omega)
   have om8:H8 B3.m=some (.dK (iM B7)):=by rw [<-em8];exact EG.om
   have q8:(bf fq).length=fq.ak.length:=by unfold bf;rw [aD]
   have pl8:=EH.g.pl
   have bl8:B7.qs.length=(bf fq).length:=EG.ql
   have bq8:(B7.qs.map V.ref).length=(bf fq).length:=by rw [aD];exact bl8
   refine ⟨_,Z,B3.m,_,Z,dG.k (k:=Sum.inr "parts") om8,B7.lp,Z,⟨_,aH.of EG.op⟩,fun l9 hl9=>?_⟩
   refine iW (J:=tX K B7.lp) (n:=(bf fq).length) 0 (fun i o H'=>aQ H8 H'/\o=(((bf fq).take i).map (fun q:Q4=>q.2.2.1)).map V.int) (by omega) ⟨aF hl9 _,Z⟩ (fun i o H' hi _ hp=>⟨_,_,aH.of (hp.1 _ _ EG.op),bq (by omega)⟩) (fun o H' _ hp=>⟨_,aH.of (hp.1 _ _ EG.op),by omega⟩) ?_ ?_
   . rintro j y o H9 xF hj wN ha ⟨g,e⟩ ⟨rfl,hy⟩
     have ei:=bq hj
     obtain ⟨ap,ea,k1,_⟩:=EG.find (l:=eF fq) ei
     have ey:=hy _ (aH.of (g _ _ EG.op))
     rw [bN,ea] at ey
     cases ey
     refine ⟨_,Z,ap,_,_,_,Z,Z,aH.of (g _ _ k1),au (j:=2) rfl,ha,g.cJ hl9 _,?_⟩
     subst e
     rw [take_snoc ei,bL,bL]
     rfl
   rintro o9 H9 _ ha9 ⟨g9,e9⟩
   rw [dQ,U8] at e9
   subst e9
   refine ⟨l9,fq.ak.map (fun p:Pt=>p.wo),Z,aH.of ha9,?_⟩
   show pX 9 (.int (aM fq)) _ _ _
   have hH9:=Qn.h.mono g9
   have Qs:aQ (out ρ8 H8) (out ρ8 H9):=dJ g9
   have YA:∀f:Str->Rat,(own.map f).length<=10:=fun f=>by rw [aD];omega
   refine ⟨_,Z,zo,Z,⟨_,vt _ _ Qs⟩,fun la hla=>?_⟩
   refine iW (J:=tX K zo) (n:=own.length) 0 (fun i out H'=>aQ H9 H'/\jk H' out ((own.take i).map (kC fq))) (by omega) ⟨aF hla _, .nil⟩ (fun i o H' hi _ hp=>⟨_,_,vt _ _ (Qs.trans (dJ hp.1)),by rw [bN,bq hi];rfl⟩) (fun o H' _ hp=>⟨_,vt _ _ (Qs.trans (dJ hp.1)),by rw [aD];exact aN _⟩) ?_ ?_
   . rintro j y out Ql H12 hj wN ha ⟨g,R⟩ ⟨rfl,hy⟩
     have ey:=hy _ (vt _ _ (Qs.trans (dJ g)))
     rw [bN] at ey
     obtain ⟨o,eo,rfl⟩:=jx.mp ey
     have h11:=hH9.mono g
     refine ⟨_,Z,x,A8.dx,_,Z,yF▸h11.oa,Z,_,Z,⟨⟨0,ρ8,A8,fq,o,by rw [yF];rfl,h11,NZ,by rw [Co];exact bO eo,fun r Mc EJ acR=>⟨EJ _ _ ha,(g.trans EJ).cJ hla _,?_⟩⟩⟩⟩
     rw [take_snoc eo,bL]
     exact ((R.mono EJ).snoc acR).CN (EJ _ _ ha)
   rintro wa xF _ Jt ⟨YB,TR⟩
   rw [dQ] at TR
   have acS:=hH9.mono YB
   have acT:=Qs.trans (dJ (ρ:=ρ8) YB)
   have rl:=TR.length
   rw [aD] at rl
   refine ⟨_,Z,la,Z,⟨_,aH.of Jt⟩,fun lb hlb=>?_⟩
   refine iW (J:=tX K la) (n:=own.length) 0 (fun i out H'=>aQ xF H'/\out=((own.take i).map fun o=>(kC fq o).num).map V.int) (by omega) ⟨aF hlb _,Z⟩ (fun i o H' hi _ hp=>⟨_,_,aH.of (hp.1 _ _ Jt),bq (by omega)⟩) (fun o H' _ hp=>⟨_,aH.of (hp.1 _ _ Jt),by omega⟩) ?_ ?_
   . rintro j y out Ql H12 hj wN ha ⟨g,e⟩ ⟨rfl,hy⟩
     have ey:=hy _ (aH.of (g _ _ Jt))
     obtain ⟨r,qq,rfl,eq,hr⟩:=TR.get ey
     rw [bN] at eq
     obtain ⟨o,eo,rfl⟩:=jx.mp eq
     have hr:xF r=some (.tup [.int (kC fq o).num, .int ((kC fq o).den:Int)]):=hr
     refine ⟨_,Z,r,_,_,_,Z,Z,cQ.of (g _ _ hr),Z,ha,g.cJ hlb _,?_⟩
     subst e
     rw [take_snoc eo,bL,bL]
     rfl
   rintro ob Ql _ NT ⟨IU,Qm⟩
   rw [dQ] at Qm
   subst Qm
   have Sh:=acS.mono IU
   have acU:=acT.trans (dJ (ρ:=ρ8) IU)
   refine ⟨lb,_,Z,aH.of NT,by rw [aD];omega,fun mm hm=>⟨_,_,Z,Z,_,Z,aK (fun c=>?_) (fun _=>?_)⟩⟩
   . obtain ⟨o,ho,rfl⟩:=bK.mp hm
     have h0:=NL EI (o:=o) (by rw [Co];exact ho)
     have:=aX c
     omega
   refine ⟨_,Z,x,A8.dx,_,Z,yF▸Sh.oa,Z,⟨⟨0,ρ8,A8,fq,by rw [yF];rfl,Sh,EI.mj,fun H12 Me=>⟨_,Z,Z,_,Z,aK (fun c=>?_) (fun _=>?_)⟩⟩⟩⟩
   . exact absurd c (by show ¬ (!decide (V.int (aM fq)=V.int (aM fq)))=true;rw [aY rfl];decide)
   have gA:=(IU.trans Me)
   have acV:=Sh.mono Me
   have acW:=acU.trans (dJ (ρ:=ρ8) Me)
   have sz:=fun {o:Str} (ho:o∈own)=>U6 EH.g Ml EI (by omega) (o:=o) (by rw [Co];exact ho)
   have zw:Jm.Sz 62 (aM fq):=NZ.wh.mono (by decide)
   refine ⟨_,Z,⟨⟨la,wa,_,6000,Z,aH.of (gA _ _ Jt),TR.mono gA,(fun q hq=>by obtain ⟨o,ho,rfl⟩:=bK.mp hq;exact (sz ho).1),by decide,YA _,fun t b r Mc EJ hr b0 et bz=>?_⟩⟩⟩
   rw [show own.map (kC fq)=fq.own.map (kC fq) by rw [Co],NJ EI EH.g.sum] at et
   have etb:t=aM fq*b:=by have:=Jm.GU b0 (by decide) et;omega
   refine ⟨_,Z,r,_,_,_,Z,Z,cQ.of hr,Z,_,Z,_,Z,r,_,_,_,Z,Z,cQ.of hr,Z,_,_,Z,Z,gC zw bz,Z,_,Z,aK (fun c=>?_) (fun _=>?_)⟩
   . exact absurd c (by show ¬ (!decide (V.int t=V.int (aM fq*b)))=true;rw [etb,aY rfl];decide)
   have YC:=acV.mono EJ
   have Ju:=acW.trans (dJ (ρ:=ρ8) EJ)
   refine ⟨_,Z,zo,Z,⟨_,vt _ _ Ju⟩,fun lc hlc=>?_⟩
   refine iW (J:=tX K zo) (n:=own.length) 0 (fun i out H'=>aQ Mc H'/\jk H' out ((own.take i).map (vg fq))) (by omega) ⟨aF hlc _, .nil⟩ (fun i o H' hi _ hp=>⟨_,_,vt _ _ (Ju.trans (dJ hp.1)),by rw [bN,bq hi];rfl⟩) (fun o H' _ hp=>⟨_,vt _ _ (Ju.trans (dJ hp.1)),by rw [aD];exact aN _⟩) ?_ ?_
   . rintro j y out H14 Qh hj wN ha ⟨g,R⟩ ⟨rfl,hy⟩
     have ey:=hy _ (vt _ _ (Ju.trans (dJ g)))
     rw [bN] at ey
     obtain ⟨o,eo,rfl⟩:=jx.mp ey
     have h14:=YC.mono g
     refine ⟨_,Z,x,A8.dx,_,Z,yF▸h14.oa,Z,_,Z,⟨⟨0,ρ8,A8,fq,o,by rw [yF];rfl,h14,EI,by rw [Co];exact bO eo,fun r H16 TU acX=>⟨TU _ _ ha,(g.trans TU).cJ hlc _,?_⟩⟩⟩⟩
     rw [take_snoc eo,bL]
     exact ((R.mono TU).snoc acX).CN (TU _ _ ha)
   rintro wc H14 _ acY ⟨YD,R14⟩
   rw [dQ] at R14
   have acZ:=YC.mono YD
   have ac0:=Ju.trans (dJ (ρ:=ρ8) YD)
   refine ⟨⟨lc,wc,_,6000,Z,aH.of acY,R14,(fun q hq=>by obtain ⟨o,ho,rfl⟩:=bK.mp hq;exact (sz ho).2.1),by decide,YA _,fun t2 b2 r2 Qh YE hr2 b20 et2 _=>?_⟩⟩
   rw [show own.map (vg fq)=fq.own.map (vg fq) by rw [Co],NK Ml EI] at et2
   have et0:t2=0:=by have:=Jm.GU b20 (by decide:(0:Int)<1) (et2.trans (Jm.yQ 1).symm);omega
   refine ⟨r2,_,_,_,Z,Z,cQ.of hr2,Z,Z,_,Z,aK (fun c=>?_) (fun _=>?_)⟩
   . exact absurd c (by show ¬ (!decide (V.int t2=V.int 0))=true;rw [et0,aY rfl];decide)
   have YF:=acZ.mono YE
   have Jv:=ac0.trans (dJ (ρ:=ρ8) YE)
   refine ⟨_,Z,zo,Z,⟨_,vt _ _ Jv⟩,fun le hle=>?_⟩
   refine iW (J:=tX K zo) (n:=own.length) 0 (fun i out H'=>aQ Qh H'/\jk H' out ((own.take i).map (y_ fq))) (by omega) ⟨aF hle _, .nil⟩ (fun i o H' hi _ hp=>⟨_,_,vt _ _ (Jv.trans (dJ hp.1)),by rw [bN,bq hi];rfl⟩) (fun o H' _ hp=>⟨_,vt _ _ (Jv.trans (dJ hp.1)),by rw [aD];exact aN _⟩) ?_ ?_
   . rintro j y out Qi H18 hj wN ha ⟨g,R⟩ ⟨rfl,hy⟩
     have ey:=hy _ (vt _ _ (Jv.trans (dJ g)))
     rw [bN] at ey
     obtain ⟨o,eo,rfl⟩:=jx.mp ey
     have h17:=YF.mono g
     refine ⟨_,Z,x,A8.dx,_,Z,yF▸h17.oa,Z,_,Z,⟨⟨0,ρ8,A8,fq,o,by rw [yF];rfl,h17,NZ,by rw [Co];exact bO eo,fun r H19 TV ac1=>⟨TV _ _ ha,(g.trans TV).cJ hle _,?_⟩⟩⟩⟩
     rw [take_snoc eo,bL]
     exact ((R.mono TV).snoc ac1).CN (TV _ _ ha)
   rintro we Qi _ ac2 ⟨YG,R17⟩
   rw [dQ] at R17
   have afr:=YF.mono YG
   have afs:=Jv.trans (dJ (ρ:=ρ8) YG)
   refine ⟨⟨le,we,_,6000,Z,aH.of ac2,R17,(fun q hq=>by obtain ⟨o,ho,rfl⟩:=bK.mp hq;exact (sz ho).2.2),by decide,YA _,fun t3 b3 r3 H18 g18 TJ b30 et3 bz3=>?_⟩⟩
   rw [show own.map (y_ fq)=fq.own.map (y_ fq) by rw [Co],Qd Ml EI EH.g.sum] at et3
   have etc:t3=(aM fq+jV fq)*b3:=by have:=Jm.GU b30 (by decide) et3;omega
   have za:Jm.Sz 62 (jV fq):=by
    have h:=qL (l:=fq.dj) (m:=92000000000000) (fun _=>true) fun a ha=>by have:=Ml.aw a ha;omega
    rw [CG.mpr (fun _ _=>rfl)] at h
    have hl:=EH.g.al
    have h2:(92000000000000:Int)*(fq.dj.length:Int)<=92000000000000*91:=by omega
    have h3:jV fq<=92000000000000*91:=Int.le_trans h.2 h2
    have h1:0<=jV fq:=h.1
    exact (show Jm.Sz 62 (92000000000000*91:Int) from jK (by decide +kernel)).of_le (by omega)
   refine ⟨_,Z,r3,_,_,_,Z,Z,cQ.of TJ,Z,_,Z,_,Z,_,_,Z,Z,_,Z,r3,_,_,_,Z,Z,cQ.of TJ,Z,_,_,Z,Z,gC (zw.jj za) bz3,Z,_,Z,aK (fun c=>?_) (fun _=>?_)⟩
   . exact absurd c (by show ¬ (!decide (V.int t3=V.int ((aM fq+jV fq)*b3)))=true;rw [etc,aY rfl];decide)
   have gZ:=((((g9.trans YB).trans gA).trans EJ).trans (YD.trans YE)).trans (YG.trans g18)
   have oZ:aQ (out ρ8 H8) (out ρ8 H18):=dJ gZ
   exact ⟨ρ8,A8,B7,fq,_,_,_,_,_,_,Z,Qn.mono gZ,EG.mono gZ,by rw [show 100*(i+1)=100*i+100 by omega];exact EH,Ml,d3,yF,em8,Co,fS8.go oZ,fN8.go oZ,vt.go oZ⟩
 rintro σ H6 _
 exact q H6
end
theorem all_mk {l:PySem.W.OpenLaw} {w:World} {K:Fg} {h:Heap} {mg:SO} {fa:Addr} (X:K.In h) (G:h.Ns mainGlobals mg) (hfa:mg "law"=some (.ref fa))
  {f:Addr} {od an:Option Addr} {sl:Array (Option Value)} {oc kV dc pm cd ct:Value}
  (a:PySem.W.nsIn K mainGlobals "law"=some (some (.ref f))) (l1:K.lookup f=some ⟨oc,od, .func (PySem.W.fnOf "law" "law" (dI oF) (b9 oF) (aC oF) .none kV dc pm an cd ct),sl⟩) (c:PySem.W.codeIn K cd "law"=true) (k:PySem.W.keepIn K (.ref f)=true)
  (Cp:ff K "common_factor" mD) (Qt:ff K "made_of" wI) (Qu:ff K "is_name" wJ) (Du:ff K "check_amount" nN) (Jw:ff K "check_loss" qM) (Jx:ff K "amounts_of" qN) (Cq:ff K "factor_of_all" mE) (KD:ff K "_law_draw" tF) (KG:ff K "_law_name" tG) (Jy:ff K "_law_names" qW) (KH:ff K "_law_lite" tH) (KI:ff K "_law_much" tK) (KJ:ff K "_law_rows" tL) (KL:ff K "_law_flat" tM) (Ar:ff K "_law_part_deed" lE) (KN:ff K "_law_deed" tN) (Qv:ff K "_law_at" wO) (Cr:ff K "_law_lite_one" mL) (Dv:ff K "_law_lite_do" ou) (Dw:ff K "_law_hold_do" oB) (Jz:ff K "_law_added" qX)
  (ZP:PySem.W.nsIn K mainGlobals "len"=some none)
  (U9:PySem.W.nsIn K mainGlobals "range"=some none)
  (ZQ:PySem.W.nsIn K mainGlobals "sum"=some none)
  (YH:PySem.W.nsIn K mainGlobals "list"=some none)
  (ZR:PySem.W.nsIn K mainGlobals "zip"=some none)
  (ZS:PySem.W.nsIn K mainGlobals "all"=some none)
  (ZT:PySem.W.nsIn K mainGlobals "int"=some none)
  (YI:PySem.W.nsIn K mainGlobals "bool"=some none)
  (ZU:PySem.W.nsIn K mainGlobals "str"=some none)
  (U_:PySem.W.nsIn K mainGlobals "tuple"=some none)
  (ZV:PySem.W.nsIn K mainGlobals "abs"=some none)
  (JA:PySem.W.nsIn K mainGlobals "isinstance"=some none)
  (ZW:PySem.W.nsIn K mainGlobals "min"=some none)
  {N1:Tok} (Qw:PySem.W.nsIn K mainGlobals "LETTERS"=some (some (.str "abcdefghijklmnopqrstuvwxyz" N1)))
  {bX:Addr} (Va:PySem.W.nsIn K mainGlobals "Hold"=some (some (.ref bX))) (Vb:PySem.W.plainGet K bX Str.empty=true) (Vc:PySem.W.hasDictIn K bX=true) (Vd:PySem.W.plainOver K bX=true) (Ve:PySem.W.findIn K (.ref bX) "__setattr__"=some (some (.builtin "object.__setattr__"))) (Vf:PySem.W.makesIn K bX=true) (Vg:PySem.W.keepIn K (.ref bX)=true)
  (KO:cT K bX "__init__" "Hold.__init__" sU) (Cs:cT K bX "place_of" "Hold.place_of" mG) (Dy:cT K bX "part_of" "Hold.part_of" nQ) (As:cT K bX "check_new" "Hold.check_new" lC) (JB:cT K bX "whole" "Hold.whole" qP) (wQ:cT K bX "beyond_common" "Hold.beyond_common" jr) (Dz:cT K bX "tops_of" "Hold.tops_of" nR) (KP:cT K bX "stow" "Hold.stow" sP) (KQ:cT K bX "sign" "Hold.sign" sQ) (KR:cT K bX "load" "Hold.load" sR) (Fd:cT K bX "shares" "Hold.shares" pN) (Ct:cT K bX "given_up" "Hold.given_up" mJ) (Fe:cT K bX "lessen" "Hold.lessen" pK) (JC:cT K bX "blend" "Hold.blend" qQ) (KS:cT K bX "cast" "Hold.cast" sW) (JD:cT K bX "award" "Hold.award" qS) (Ff:cT K bX "mishap" "Hold.mishap" pP) (KU:cT K bX "rise" "Hold.rise" sZ) (KW:cT K bX "hand" "Hold.hand" s_) (KY:cT K bX "land" "Hold.land" tD) (JE:cT K bX "sever" "Hold.sever" qT) (Au:cT K bX "stake_top" "Hold.stake_top" lD) (JF:cT K bX "stake" "Hold.stake" qU) (JG:cT K bX "purse" "Hold.purse" qV) (DA:cT K bX "fortune" "Hold.fortune" n5)
  (Fi:PySem.W.findIn K (.ref bX) "places"=some none)
  (Fj:PySem.W.findIn K (.ref bX) "aboard"=some none)
  (Fl:PySem.W.findIn K (.ref bX) "ashore"=some none)
  (JH:PySem.W.findIn K (.ref bX) "names"=some none)
  (Fo:PySem.W.findIn K (.ref bX) "bottom"=some none)
  (Fp:PySem.W.findIn K (.ref bX) "common"=some none)
  (Fq:PySem.W.findIn K (.ref bX) "purses"=some none)
  {iJ:Addr} (Vh:PySem.W.nsIn K mainGlobals "Part"=some (some (.ref iJ))) (Vi:PySem.W.plainGet K iJ Str.empty=true) (Vj:PySem.W.hasDictIn K iJ=true) (Vk:PySem.W.plainOver K iJ=true) (Vl:PySem.W.findIn K (.ref iJ) "__setattr__"=some (some (.builtin "object.__setattr__"))) (Vm:PySem.W.makesIn K iJ=true) (Vn:PySem.W.keepIn K (.ref iJ)=true)
  (KZ:cT K iJ "__init__" "Part.__init__" sO)
  (K0:PySem.W.findIn K (.ref iJ) "name"=some none)
  (JI:PySem.W.findIn K (.ref iJ) "owner"=some none)
  (JJ:PySem.W.findIn K (.ref iJ) "worth"=some none)
  (Ft:PySem.W.findIn K (.ref iJ) "weight"=some none)
  (JK:PySem.W.findIn K (.ref iJ) "scale"=some none)
  (N3:PySem.W.findIn K (.ref iJ) "row"=some none)
  {e_:Addr} (Qx:PySem.W.nsIn K mainGlobals "Bottom"=some (some (.ref e_))) (Qy:PySem.W.plainGet K e_ Str.empty=true) (Qz:PySem.W.hasDictIn K e_=true) (QA:PySem.W.plainOver K e_=true) (QB:PySem.W.findIn K (.ref e_) "__setattr__"=some (some (.builtin "object.__setattr__"))) (QC:PySem.W.makesIn K e_=true) (QD:PySem.W.keepIn K (.ref e_)=true)
  (Fv:cT K e_ "__init__" "Bottom.__init__" pI) (Fw:cT K e_ "over" "Bottom.over" pM) (DB:cT K e_ "share" "Bottom.share" nV) (Fx:cT K e_ "grow" "Bottom.grow" pJ)
  (DC:PySem.W.findIn K (.ref e_) "steps"=some none)
  (Av:PySem.W.findIn K (.ref e_) "product"=some none)
  (DE:PySem.W.findIn K (.ref e_) "known"=some none)
  {fV iT fW gI eT fX:Addr}
  (N4:PySem.W.nsIn K mainGlobals "BadName"=some (some (.ref fV))) (Si:PySem.W.nsIn K mainGlobals "Twice"=some (some (.ref iT))) (N5:PySem.W.nsIn K mainGlobals "NoOwner"=some (some (.ref fW))) (QE:PySem.W.nsIn K mainGlobals "NoPart"=some (some (.ref gI))) (JL:PySem.W.nsIn K mainGlobals "BadNumber"=some (some (.ref eT))) (N6:PySem.W.nsIn K mainGlobals "TooMuch"=some (some (.ref fX)))
  (N7:PySem.W.excIn K fV [.type "ValueError", .type "Exception", .type "BaseException", .type "object"] "ValueError.__new__"=true)
  (Sj:PySem.W.excIn K iT [.type "ValueError", .type "Exception", .type "BaseException", .type "object"] "ValueError.__new__"=true)
  (N8:PySem.W.excIn K fW [.type "ValueError", .type "Exception", .type "BaseException", .type "object"] "ValueError.__new__"=true)
  (QF:PySem.W.excIn K gI [.type "ValueError", .type "Exception", .type "BaseException", .type "object"] "ValueError.__new__"=true)
  (JM:PySem.W.excIn K eT [.type "ValueError", .type "Exception", .type "BaseException", .type "object"] "ValueError.__new__"=true)
  (N9:PySem.W.excIn K fX [.type "ValueError", .type "Exception", .type "BaseException", .type "object"] "ValueError.__new__"=true)
  :∃fd:FuncData,(∀(s:Shared) (v:Value),BindsTo s fd ⟨[v],[]⟩ [("_law_script",v)])/\∀base:Heap,K.In base->base.Ns mainGlobals mg->iO l.prog w K mg base qZ 8 fa fd ["_law_script"] (Ga K):=by
 have e:=hfa.symm.trans (pU X G a)
 cases e
 have ZX:=SM (st:=oF) X G a l1 c k
 have ux:nj K e_:=⟨Qy,Qz,QA,QB⟩
 have cZ:nj K bX:=⟨Vb,Vc,Vd,Ve⟩
 obtain ⟨_,_,Cu⟩:=Cp.at X G
 obtain ⟨_,_,QG⟩:=Qt.at X G
 obtain ⟨_,_,QH⟩:=Qu.at X G
 obtain ⟨_,_,DF⟩:=Du.at X G
 obtain ⟨_,_,JN⟩:=Jw.at X G
 obtain ⟨_,_,JO⟩:=Jx.at X G
 obtain ⟨_,_,Cv⟩:=Cq.at X G
 obtain ⟨_,_,K1⟩:=KD.at X G
 obtain ⟨_,_,K2⟩:=KG.at X G
 obtain ⟨_,_,JP⟩:=Jy.at X G
 obtain ⟨_,_,K3⟩:=KH.at X G
 obtain ⟨_,_,K4⟩:=KI.at X G
 obtain ⟨_,_,K5⟩:=KJ.at X G
 obtain ⟨_,_,K6⟩:=KL.at X G
 obtain ⟨_,_,Aw⟩:=Ar.at X G
 obtain ⟨_,_,K7⟩:=KN.at X G
 obtain ⟨_,_,QI⟩:=Qv.at X G
 obtain ⟨_,_,Cw⟩:=Cr.at X G
 obtain ⟨_,_,DG⟩:=Dv.at X G
 obtain ⟨_,_,DH⟩:=Dw.at X G
 obtain ⟨_,_,JQ⟩:=Jz.at X G
 have bZ:=oR X G ZP
 have cX:=oR X G U9
 have fJ:=oR X G ZQ
 have nP:=oR X G YH
 have gR:=oR X G ZR
 have NP:=oR X G ZS
 have afb:=oR X G ZT
 have ae_:=oR X G YI
 have afc:=oR X G ZU
 have Dq:=oR X G U_
 have afd:=oR X G ZV
 have YJ:=oR X G JA
 have oj:=oR X G ZW
 have yp:=pU X G Qw
 obtain ⟨_,_,K8⟩:=KO.made X G Va Vf Vg
 obtain ⟨_,_,Cy⟩:=Cs.at cZ
 obtain ⟨_,_,DI⟩:=Dy.at cZ
 obtain ⟨_,_,Ax⟩:=As.at cZ
 obtain ⟨_,_,JR⟩:=JB.at cZ
 obtain ⟨_,_,wR⟩:=wQ.at cZ
 obtain ⟨_,_,DJ⟩:=Dz.at cZ
 obtain ⟨_,_,K9⟩:=KP.at cZ
 obtain ⟨_,_,K_⟩:=KQ.at cZ
 obtain ⟨_,_,La⟩:=KR.at cZ
 obtain ⟨_,_,Fy⟩:=Fd.at cZ
 obtain ⟨_,_,Cz⟩:=Ct.at cZ
 obtain ⟨_,_,Fz⟩:=Fe.at cZ
 obtain ⟨_,_,JS⟩:=JC.at cZ
 obtain ⟨_,_,Lb⟩:=KS.at cZ
 obtain ⟨_,_,JT⟩:=JD.at cZ
 obtain ⟨_,_,FD⟩:=Ff.at cZ
 obtain ⟨_,_,Lc⟩:=KU.at cZ
 obtain ⟨_,_,Ld⟩:=KW.at cZ
 obtain ⟨_,_,Le⟩:=KY.at cZ
 obtain ⟨_,_,JU⟩:=JE.at cZ
 obtain ⟨_,_,Ay⟩:=Au.at cZ
 obtain ⟨_,_,JV⟩:=JF.at cZ
 obtain ⟨_,_,JW⟩:=JG.at cZ
 obtain ⟨_,_,DK⟩:=DA.at cZ
 obtain ⟨_,_,Lf⟩:=KZ.made X G Vh Vm Vn
 obtain ⟨_,_,FE⟩:=Fv.made X G Qx QC QD
 obtain ⟨_,_,FF⟩:=Fw.at ux
 obtain ⟨_,_,DL⟩:=DB.at ux
 obtain ⟨_,_,FG⟩:=Fx.at ux
 have TX:Txt K ⟨bX,iJ,e_⟩:=⟨cZ,⟨Vi,Vj,Vk,Vl⟩,ux,Fi,Fj,Fl,JH,Fo,Fp,Fq,K0,JI,JJ,Ft,JK,N3,DC,Av,DE⟩
 have yu:=pU X G N4
 have De:=pU X G Si
 have yq:=pU X G N5
 have Ah:=pU X G QE
 have jP:=pU X G JL
 have i9:=pU X G N6
 have wL:=f_.of N7
 have Aj:=f_.of Sj
 have wK:=f_.of N8
 have yr:=f_.of QF
 have jq:=f_.of JM
 have gQ:=f_.of N9
 refine ⟨PySem.W.fnOf "law" "law" (dI oF) (b9 oF) (aC oF) .none kV dc pm an cd ct,fun s v=> .of_eq rfl,fun base _ _=>?_⟩
 have gF:=Ab (P:=l.prog) (w:=w) (base:=base) (mg:=mg) Cu
 have yo:=NO (P:=l.prog) (w:=w) (base:=base) (mg:=mg) QG NP
 have mY:=NR QH yo bZ yp
 have dD:=Ac (P:=l.prog) (w:=w) (base:=base) (mg:=mg) (e:=⟨fV,iT,fW,gI,0,eT,fX,0,0,0,0⟩) DF jq jP
 have lY:=C6 JN dD gQ i9
 have Vo:=Xi dD
 have sY:=Xj lY
 have sX:=ER (P:=l.prog) (w:=w) (base:=base) (mg:=mg) JO bZ
 have nT:=Ad Cv gF
 have Ak:=C8 (P:=l.prog) (w:=w) (base:=base) (mg:=mg) FE TX
 have vm:=IE (P:=l.prog) (w:=w) (base:=base) (mg:=mg) Lf TX nP
 have Jr:=IP K8 TX Ak
 have qR:=C_ (P:=l.prog) (w:=w) (base:=base) (mg:=mg) FG TX
 have dm:=Dh FF TX gF
 have pO:=Cd DL TX dm
 have eL:=zf (P:=l.prog) (w:=w) (base:=base) (mg:=mg) (e:=⟨fV,iT,fW,gI,0,eT,fX,0,0,0,0⟩) Cy TX wK yq
 have b8:=RL eL
 have bV:=Ag (P:=l.prog) (w:=w) (base:=base) (mg:=mg) (e:=⟨fV,iT,fW,gI,0,eT,fX,0,0,0,0⟩) DI TX yr Ah
 have ie:=Pz bV
 have jh:=yt (e:=⟨fV,iT,fW,gI,0,eT,fX,0,0,0,0⟩) Ax TX mY wL yu Aj De
 have mH:=Xk jh
 have dU:=EV (P:=l.prog) (w:=w) (base:=base) (mg:=mg) JR TX fJ
 have eW:=vj (P:=l.prog) (w:=w) (base:=base) (mg:=mg) wR TX gR
 have eX:=B_ (P:=l.prog) (w:=w) (base:=base) (mg:=mg) DJ TX gR
 have jQ:=II (P:=l.prog) (w:=w) (base:=base) (mg:=mg) K9 TX
 have jS:=IJ K_ TX mY bZ
 have uP:=IK La TX mH b8 eW jQ vm bZ
 have nU:=Al (P:=l.prog) (w:=w) (base:=base) (mg:=mg) Cz TX fJ gR
 have iR:=Dg (P:=l.prog) (w:=w) (base:=base) (mg:=mg) Fz TX
 have jv:=EX JS TX nT qR gR
 have uQ:=IV Lb TX sX sY ie dU jv nU iR fJ
 have DM:=Dj Fy TX ie eX pO gR
 have FH:=Dk (e:=⟨fV,iT,fW,gI,0,eT,fX,0,0,0,0⟩) JT TX eL dD dU jv bZ gQ i9
 have DN:=Ce (e:=⟨fV,iT,fW,gI,0,eT,fX,0,0,0,0⟩) FD TX bV lY iR
 have JX:=E2 (e:=⟨fV,iT,fW,gI,0,eT,fX,0,0,0,0⟩) Lc TX bV dD
 have JY:=E3 (e:=⟨fV,iT,fW,gI,0,eT,fX,0,0,0,0⟩) Ld TX bV eL eX eW
 have JZ:=E4 (e:=⟨fV,iT,fW,gI,0,eT,fX,0,0,0,0⟩) Le TX bV b8 eX DM gR
 have FI:=Dm (e:=⟨fV,iT,fW,gI,0,eT,fX,0,0,0,0⟩) JU TX bV jh jQ vm jq jP gQ i9
 have gf:=zh Ay TX dU fJ
 have tO:=E7 JV TX dm gf b8
 have tP:=E9 JW TX dm b8
 have pS:=Cf DK TX dm gf b8 fJ
 have aZ:=Jc (P:=l.prog) (w:=w) (base:=base) (mg:=mg) K1 bZ cX
 have qd:=Jd (P:=l.prog) (w:=w) (base:=base) (mg:=mg) K2 cX
 have oG:=E_ JP aZ qd cX
 have uR:=Jg (P:=l.prog) (w:=w) (base:=base) (mg:=mg) K3 nP
 have jR:=Jh K4 aZ
 have uM:=Ji K5 aZ bZ cX nP fJ oj
 have uN:=Jj (P:=l.prog) (w:=w) (base:=base) (mg:=mg) K6 Dq
 have mK:=zj Aw aZ jR uM uN bZ fJ oj
 have uS:=Jl K7 aZ jR mK bZ
 have kJ:=NX (P:=l.prog) (w:=w) (base:=base) (mg:=mg) QI bZ cX
 have oz:=Aq (P:=l.prog) (w:=w) (base:=base) (mg:=mg) Cw
 have pQ:=Cj DG kJ oz bZ cX
 have pR:=Cm DH jS uP uQ FH.n DN.n JX.n JY.n JZ.n FI.n bZ cX
 have kK:=Fc (P:=l.prog) (w:=w) (base:=base) (mg:=mg) JQ
 exact Yk ZX aZ oG uR Jr jS uS pQ pR kJ dU tO tP pS kK cX fJ oj
theorem walk {l:PySem.W.OpenLaw} {q:Program} {loose:List Str} {XP:(Str->Option Value)->Heap->Prop} {YP:World->Heap->Prop} {d:DefRec} {K:Params->Fg} (hn:l.most=some 63) (hdf:d.params.defaults=[])
  (hY:∀(w:World) (h:Heap),YP w h->(K w.params).In h)
  (F:∀(w:World) (mg:SO) (fa:Addr) (h:Heap),(K w.params).In h->h.Ns mainGlobals mg->mg d.name=some (.ref fa)->
    ∃fd:FuncData,(∀(s:Shared) (u:Value),BindsTo s fd ⟨[u],[]⟩ [("_law_script",u)])/\∀base:Heap,(K w.params).In base->base.Ns mainGlobals mg->iO l.prog w (K w.params) mg base qZ 8 fa fd ["_law_script"] (Ga (K w.params))):
  PySem.W.WalkO q loose XP YP l.row.toRowW d [] (fun f vs=>PySem.call f vs):=
 L2.Ug (n:=63) (k:=8) (x:="_law_script") (CX:=fun _=>qZ) (sp:=fun w=>Ga (K w.params)) hn (by decide) hdf ⟨Z,by decide,by decide⟩ hY F (fun _ _ a ns hl _ hS=>⟨a,ns,Z,hS,hl,fun _=>rfl⟩) fun _ _ _ _ _ z=>z
end Xy
namespace PySem.W.Fast
abbrev A:=True
theorem a:A:=⟨⟩
theorem tw399298673808338284:A:=a
theorem tw2176186424358302601:A:=a
theorem tw15956230185963291536:A:=a
theorem tw13322882547032871328:A:=a
theorem tw2175507079378178468:A:=a
theorem tw13095030343995154371:A:=a
theorem tw9015639342503633108:A:=a
theorem tw17873962945832962108:A:=a
theorem tw13376104989516080203:A:=a
theorem tw13657141951628045046:A:=a
theorem tw1891492200651977858:A:=a
theorem tw9530961210638782642:A:=a
theorem tw4644988259681155163:A:=a
theorem tw9096921369216388092:A:=a
theorem tw9949724477776255714:A:=a
theorem tw6074843193139737823:A:=a
theorem tw6732799198288019644:A:=a
theorem tw4939939337398300851:A:=a
theorem tw11102163630191684801:A:=a
theorem tw13393959426316099539:A:=a
theorem tw296097970840438556:A:=a
theorem tw15101399889011584642:A:=a
theorem tw754623603173253069:A:=a
theorem tw12465171954815887805:A:=a
theorem tw1015834027850999988:A:=a
theorem tw12287645617875635945:A:=a
theorem tw8157843596739397561:A:=a
theorem tw2257599168096560395:A:=a
theorem tw15720905631467216638:A:=a
theorem tw11061959853455741529:A:=a
theorem tw6607260800997533310:A:=a
theorem tw6775569130225396513:A:=a
theorem tw4316643829550341790:A:=a
theorem tw5883994259743479668:A:=a
theorem tw4104949093913937807:A:=a
theorem tw14760762029340543174:A:=a
theorem tw12362999270212062211:A:=a
theorem tw5074018416090125698:A:=a
theorem tw18069334033625874672:A:=a
theorem tw3690064187344647642:A:=a
theorem tw6970492044866549938:A:=a
theorem tw14409498761921697636:A:=a
theorem tw14295491365878719335:A:=a
theorem tw3152058327794246211:A:=a
theorem tw14916443985039498821:A:=a
theorem tw1235645406135956565:A:=a
theorem tw15324663635570668223:A:=a
theorem tw14740611036665323476:A:=a
theorem tw16531993931824124809:A:=a
theorem tw2999097430653305215:A:=a
theorem tw18126087331683565424:A:=a
theorem tw11774298707938801688:A:=a
theorem tw8745282274305770770:A:=a
theorem tw2576207281784439982:A:=a
theorem tw2490710395203037804:A:=a
theorem tw9876516218346564704:A:=a
theorem tw15484389838240608164:A:=a
theorem tw11259538194489035217:A:=a
theorem tw2381640945245612158:A:=a
theorem tw9288162873002255781:A:=a
theorem tw450906537066630743:A:=a
theorem tw1726650262297720228:A:=a
theorem tw2749032986404031220:A:=a
theorem tw11209247463600633016:A:=a
theorem tw1861029829174223507:A:=a
theorem tw14983638130908307226:A:=a
theorem tw14718972077564997587:A:=a
theorem tw13152736097586001804:A:=a
theorem tw6116112126513043001:A:=a
theorem tw7777564041150373820:A:=a
theorem tw4177607367110174951:A:=a
theorem tw12451531611845270511:A:=a
theorem tw11475420690376584702:A:=a
theorem tw2087909623529956792:A:=a
theorem tw8937490204240736197:A:=a
theorem tw17264380856869834494:A:=a
theorem tw6267695558431062027:A:=a
theorem tw2081838146115514617:A:=a
theorem tw2204041307880016273:A:=a
theorem tw17256223005179571813:A:=a
theorem tw10531464534850864571:A:=a
theorem tw15180830686134981402:A:=a
theorem tw3722861083616381314:A:=a
theorem tw16637017427717172540:A:=a
theorem tw9991957044057280027:A:=a
theorem tw9391332715995902979:A:=a
theorem tw5516123126631455054:A:=a
theorem tw6152354237478248509:A:=a
theorem tw12872116776830961425:A:=a
theorem tw2461534641625856060:A:=a
theorem tw1518230912948561867:A:=a
theorem tw1951035928794655587:A:=a
theorem tw5443038427958362772:A:=a
theorem tw14130895878581982646:A:=a
theorem tw1883104667519885648:A:=a
theorem tw16936484287597111916:A:=a
theorem tw7689292939446768234:A:=a
theorem tw18079853499857309724:A:=a
theorem tw14461032635862063611:A:=a
theorem tw2327172980014671033:A:=a
theorem tw12370896360099242146:A:=a
theorem tw12886711315954620524:A:=a
theorem tw15299398373167242356:A:=a
theorem tw16937372918798827041:A:=a
theorem tw15462533646342065019:A:=a
theorem tw14450229691913804084:A:=a
theorem tw10657892206584574267:A:=a
theorem tw1878758883814704266:A:=a
theorem tw2387104946967167:A:=a
theorem tw18028315937716534313:A:=a
theorem tw14491936244218874827:A:=a
theorem tw10111531575448033172:A:=a
theorem tw10552570870918214394:A:=a
theorem tw11242506262986804568:A:=a
theorem tw758777883334983807:A:=a
theorem tw753382358601470504:A:=a
theorem tw12451577083466543253:A:=a
theorem tw9227960930957657685:A:=a
theorem tw13743521860908163817:A:=a
theorem tw16070391882263913729:A:=a
theorem tw4960699017724560137:A:=a
theorem tw15215934303278660601:A:=a
theorem tw17489441040490630264:A:=a
theorem tw8930713237392338118:A:=a
theorem tw17757010197613846002:A:=a
theorem tw17360472583255349763:A:=a
theorem tw8658306400747431849:A:=a
theorem tw14018003107679853214:A:=a
theorem tw12169724971167266519:A:=a
theorem tw14994381220248382885:A:=a
theorem tw16930160308545799712:A:=a
theorem tw16050175388510693897:A:=a
theorem tw9261737633773943643:A:=a
theorem tw5418277934252403641:A:=a
theorem tw270053099295213951:A:=a
theorem tw2575055354880677893:A:=a
theorem tw327784496434353548:A:=a
theorem tw7417090954938356940:A:=a
theorem tw13693839643219405027:A:=a
theorem tw12446628320837225495:A:=a
theorem tw2696150866462701803:A:=a
theorem tw12443710603976375577:A:=a
theorem tw12658698854975874883:A:=a
theorem tw10635183297429885797:A:=a
theorem tw14438860237241132664:A:=a
theorem tw1206875271761576872:A:=a
theorem tw9390281256947973673:A:=a
theorem tw18205568311860079018:A:=a
theorem tw17612118961219706637:A:=a
theorem tw10570792515536751189:A:=a
theorem tw11907210899114006389:A:=a
theorem tw8491003461811525308:A:=a
theorem tw16992669238934205323:A:=a
theorem tw3149288386031137302:A:=a
theorem tw12231597123619956023:A:=a
theorem tw11384684880858293308:A:=a
theorem tw14094644955350290936:A:=a
theorem tw14967489694773102957:A:=a
theorem tw9245646848513969223:A:=a
theorem tw13197171566247237646:A:=a
theorem tw11747784428392655600:A:=a
theorem tw11324854084287661130:A:=a
theorem tw6590469535404072052:A:=a
theorem tw1178030287543495971:A:=a
theorem tw6756719827499896484:A:=a
theorem tw11702095853005074757:A:=a
theorem tw616538542285405331:A:=a
theorem tw8846807802089012421:A:=a
theorem tw15868963438270739636:A:=a
theorem tw3861453804740588183:A:=a
theorem tw16397450438699085848:A:=a
theorem tw8949862603792647846:A:=a
theorem tw13709580666174961660:A:=a
theorem tw2806811441630346257:A:=a
theorem tw4049274339076593192:A:=a
theorem tw17207052908917902005:A:=a
theorem tw11742333003748300285:A:=a
theorem tw12307957802738983545:A:=a
theorem tw198541749405944844:A:=a
theorem tw5793527458352620211:A:=a
theorem tw18324794902860991061:A:=a
theorem tw5523439946201615600:A:=a
theorem tw4124039283644538525:A:=a
theorem tw9217330167766922086:A:=a
theorem tw16449926862110046212:A:=a
theorem tw17672820518172050888:A:=a
theorem tw18166079384208921306:A:=a
theorem tw146828110497557755:A:=a
theorem tw6694240832946445589:A:=a
theorem tw2745993111931899672:A:=a
theorem tw12567433821653947805:A:=a
theorem tw6420206461198564154:A:=a
theorem tw4376755623276623881:A:=a
theorem tw13401147262841168754:A:=a
theorem tw2073049700500456567:A:=a
theorem tw12416889596205786686:A:=a
theorem tw11320316679254932743:A:=a
theorem tw15051643607227853780:A:=a
theorem tw9369370354970786774:A:=a
theorem tw15045186419388075743:A:=a
theorem tw10346205845604932166:A:=a
theorem tw11414501864727582215:A:=a
theorem tw276072864178297564:A:=a
theorem tw17654273778025124800:A:=a
theorem tw1008396569939977259:A:=a
theorem tw9998995503043512331:A:=a
theorem tw18204697718251383993:A:=a
theorem tw11417480151059735181:A:=a
theorem tw13528391027237475772:A:=a
theorem tw13034510926987255263:A:=a
theorem tw11993346290164577621:A:=a
theorem tw4531375469455418755:A:=a
theorem tw12945213279664768507:A:=a
theorem tw11587211276771887937:A:=a
theorem tw15615200345066275630:A:=a
theorem tw5001593066633592766:A:=a
theorem tw13802465230172617997:A:=a
theorem tw2391200425588269459:A:=a
theorem tw6657052318147887711:A:=a
theorem tw5294282901088497456:A:=a
theorem tw10464031492258643399:A:=a
theorem tw3383312230607886360:A:=a
theorem tw6810266661704557727:A:=a
theorem tw548091567477930211:A:=a
theorem tw8095095877715810461:A:=a
theorem tw3632828564927410577:A:=a
theorem tw1618672664581249687:A:=a
theorem tw9231038267954445972:A:=a
theorem tw3288928709697945345:A:=a
theorem tw2713369892054439734:A:=a
theorem tw18444344031047986869:A:=a
theorem tw14309027141192132587:A:=a
theorem tw14917562004177993138:A:=a
theorem tw9137042912904415809:A:=a
theorem tw3374617865616366620:A:=a
theorem tw4250942369279075135:A:=a
theorem tw15454974806821667568:A:=a
theorem tw8359022921046140601:A:=a
theorem tw11261768083524937916:A:=a
theorem tw6101290397886647137:A:=a
theorem tw849442463882743327:A:=a
theorem tw10649992253720272170:A:=a
theorem tw13401517681638297177:A:=a
theorem tw12378850341209402831:A:=a
theorem tw5931528204070813621:A:=a
theorem tw3333724487111822400:A:=a
theorem tw5728742935964563654:A:=a
theorem tw4868379023687467188:A:=a
theorem tw13008620767663887576:A:=a
theorem tw9797944310755630835:A:=a
theorem tw3195499759634475197:A:=a
theorem tw7890028932069459884:A:=a
theorem tw11466846083437851969:A:=a
theorem tw15918768080038212300:A:=a
theorem tw8781156364210848736:A:=a
theorem tw13903304915144728702:A:=a
theorem tw334506934376298348:A:=a
theorem tw7909513451945467421:A:=a
theorem tw12445895062535253764:A:=a
theorem tw14971415792240308823:A:=a
theorem tw1543509087059812985:A:=a
theorem tw17293101644803453376:A:=a
theorem tw9143901261828538449:A:=a
theorem tw2453891743266305882:A:=a
theorem tw3886693934141494:A:=a
theorem tw1326509015098392482:A:=a
theorem tw810988292340247461:A:=a
theorem tw6612517335870061546:A:=a
theorem tw3117759849622812176:A:=a
theorem tw7663293673426884648:A:=a
theorem tw2454591552552230545:A:=a
theorem tw2556640606699926377:A:=a
theorem tw9452013298908120355:A:=a
theorem tw4176252528730941664:A:=a
theorem tw4469539020122309077:A:=a
theorem tw2734766045814457369:A:=a
theorem tw3103214311348737351:A:=a
theorem tw9402543672754899441:A:=a
theorem tw15361236095225318728:A:=a
theorem tw4967079032611007221:A:=a
theorem tw13278207088930357042:A:=a
theorem tw16401575218206196954:A:=a
theorem tw14483996043668200683:A:=a
theorem tw9066286071582045109:A:=a
theorem tw12821186883091278472:A:=a
theorem tw918598862518763433:A:=a
theorem tw5025056103435405699:A:=a
theorem tw11253117921612773832:A:=a
theorem tw14785278113607482423:A:=a
theorem tw8692288871850252893:A:=a
theorem tw16290951095486088461:A:=a
theorem tw12634385450239084548:A:=a
theorem tw3651486951550944737:A:=a
theorem tw1914514139884050912:A:=a
theorem tw10887259352429102537:A:=a
theorem tw14886080040552696888:A:=a
theorem tw11577341886421165577:A:=a
theorem tw2036008314214556489:A:=a
theorem tw856208477649680125:A:=a
theorem tw1140051247509333146:A:=a
theorem tw8093068133993751900:A:=a
theorem tw9156799295232642910:A:=a
theorem tw11201220792986801069:A:=a
theorem tw6913260762217159385:A:=a
theorem tw14881994622396255965:A:=a
theorem tw12800001322766189898:A:=a
theorem tw18296940965336310082:A:=a
theorem tw1121823384725308534:A:=a
theorem tw5006117830586537353:A:=a
theorem tw12250103913695418356:A:=a
theorem tw13641150261892503052:A:=a
theorem tw6479047889737397118:A:=a
theorem tw11283713503068337925:A:=a
theorem tw28191466692714486:A:=a
theorem tw16776030479634156298:A:=a
theorem tw15973739327993717565:A:=a
theorem tw7602301750405221231:A:=a
theorem tw15524534182776262043:A:=a
theorem tw12205798287963387331:A:=a
theorem tw9767132645470478133:A:=a
theorem tw10900417531624833364:A:=a
theorem tw16673173952271260601:A:=a
theorem tw10770407317124782846:A:=a
theorem tw13373137082679652799:A:=a
theorem tw14216841158833486282:A:=a
theorem tw14917362326098064064:A:=a
theorem tw2141391061843913822:A:=a
theorem tw3210430839703185325:A:=a
theorem tw17119585912951121761:A:=a
theorem tw5677120646489587718:A:=a
theorem tw15612016366601650814:A:=a
theorem tw135583774122349933:A:=a
theorem tw8517729989668145079:A:=a
theorem tw16799973373007464294:A:=a
theorem tw18149809027050797775:A:=a
theorem tw6056280809920678486:A:=a
theorem tw14072572008699819703:A:=a
theorem tw14420789019500849940:A:=a
theorem tw10765497203171706689:A:=a
theorem tw9833906136485602272:A:=a
theorem tw4944198783110357576:A:=a
theorem tw13280646142842389140:A:=a
theorem tw2726679749788848553:A:=a
theorem tw2685627318397770486:A:=a
theorem tw7005689710811686552:A:=a
theorem tw1832202926858150082:A:=a
theorem tw3086649045735902910:A:=a
theorem tw7678143054672209198:A:=a
theorem tw3741572560459898614:A:=a
theorem tw9703065908827930468:A:=a
theorem tw17717965810474849191:A:=a
theorem tw3334609196325549373:A:=a
theorem tw5487578223608408974:A:=a
theorem tw13210302690450069807:A:=a
theorem tw2219727408824671316:A:=a
theorem tw17241172927512134825:A:=a
theorem tw9829327648473591014:A:=a
theorem tw11273988193853422685:A:=a
theorem tw10363745871959644027:A:=a
theorem tw10958580029762789696:A:=a
theorem tw17001132140485962303:A:=a
theorem tw17550509568987677780:A:=a
theorem tw8524964385046175396:A:=a
theorem tw14728653534202316913:A:=a
theorem tw13495404198267364374:A:=a
theorem tw15177089494205932364:A:=a
theorem tw14458657368400742370:A:=a
theorem tw10413893273176161719:A:=a
theorem tw4821731762980189219:A:=a
theorem tw7614550647717063281:A:=a
theorem tw7597906659846150846:A:=a
theorem tw6441739131880407090:A:=a
theorem tw1300464436171569549:A:=a
theorem tw15057265618324250527:A:=a
theorem tw3835818715155000565:A:=a
theorem tw16701441686294144658:A:=a
theorem tw9061291776454549740:A:=a
theorem tw3557293055899538198:A:=a
theorem tw4737301096490864903:A:=a
theorem tw5000689152097995738:A:=a
theorem tw3776465421762824847:A:=a
theorem tw8482126181208054683:A:=a
theorem tw10138033030832367345:A:=a
theorem tw11664486126914516719:A:=a
theorem tw6185941479198546970:A:=a
theorem tw11935134439291863722:A:=a
theorem tw9125455789713724718:A:=a
theorem tw17179186760055742956:A:=a
theorem tw8594110051778085031:A:=a
theorem tw8937482667922717030:A:=a
theorem tw15945635886409649738:A:=a
theorem tw14557301165860014006:A:=a
theorem tw15700597379085758918:A:=a
theorem tw3297111812185584953:A:=a
theorem tw7349466207731063738:A:=a
theorem tw1248712761101339678:A:=a
theorem tw9100590248883801100:A:=a
theorem tw4128878524430089013:A:=a
theorem tw7403407723129939572:A:=a
theorem tw16019264155081799799:A:=a
theorem tw17355588017776431377:A:=a
theorem tw8497650759806549379:A:=a
theorem tw2782301688544751404:A:=a
theorem tw17717484421101116682:A:=a
theorem tw15010997545560562639:A:=a
theorem tw361298161458839945:A:=a
theorem tw4865376146391264671:A:=a
theorem tw427421489479918343:A:=a
theorem tw2859344266332924188:A:=a
theorem tw10595725582916855773:A:=a
theorem tw8352187166850991280:A:=a
theorem tw13122449146765261680:A:=a
theorem tw7437221914968140591:A:=a
theorem tw6012866808804470256:A:=a
theorem tw7139814586483964683:A:=a
theorem tw6373617921861830421:A:=a
theorem tw669548268530033193:A:=a
theorem tw17059342150823702230:A:=a
theorem tw3845979753693421749:A:=a
theorem tw414990834912635857:A:=a
theorem tw17076230457456234346:A:=a
theorem tw1863077338640972986:A:=a
theorem tw14289133687852449824:A:=a
theorem tw1910444642620137812:A:=a
theorem tw446992370764876679:A:=a
theorem tw16864032866607117906:A:=a
theorem tw13881789101688342011:A:=a
theorem tw15576490452891052443:A:=a
theorem tw9452560861634626454:A:=a
theorem tw1544209122210201625:A:=a
theorem tw11548715154894997850:A:=a
theorem tw17759039230979963295:A:=a
theorem tw4884197886244319417:A:=a
theorem tw7548489535811511129:A:=a
theorem tw13486570989894042772:A:=a
theorem tw7698770579464187400:A:=a
theorem tw10217090905488379772:A:=a
theorem tw16642534108365236997:A:=a
theorem tw132855857052585984:A:=a
theorem tw4968345981228483649:A:=a
theorem tw6015059558930689513:A:=a
theorem tw10520071760827374677:A:=a
theorem tw8281453528203385953:A:=a
theorem tw17169689420608319324:A:=a
theorem tw14886624690864484182:A:=a
theorem tw4131026858634502539:A:=a
theorem tw1454607743628107814:A:=a
theorem tw2995822857826390210:A:=a
theorem tw13604845681205919128:A:=a
theorem tw15514876767336667216:A:=a
theorem tw3887665963798032869:A:=a
theorem tw3962696472211128994:A:=a
theorem tw88176794366254770:A:=a
theorem tw3895376024512274804:A:=a
theorem tw5618258137122998388:A:=a
theorem tw11074274041270642179:A:=a
theorem tw17709998745632101778:A:=a
theorem tw4861599810267773332:A:=a
theorem tw9024661833534592623:A:=a
theorem tw6378577228693765421:A:=a
theorem tw6979044082267825501:A:=a
theorem tw13453306006185535179:A:=a
theorem tw9437030523179078753:A:=a
theorem tw14086425348044016681:A:=a
theorem tw6694749339346592456:A:=a
theorem tw3780109867175953738:A:=a
theorem tw18095088261135291368:A:=a
theorem tw16450225027002721324:A:=a
theorem tw2526015235965493097:A:=a
theorem tw12480310529363020870:A:=a
theorem tw7167168520608939010:A:=a
theorem tw16320313517000345747:A:=a
theorem tw6529095056194384586:A:=a
theorem tw13798151946136153789:A:=a
theorem tw4612046076972833553:A:=a
theorem tw6619165398057392224:A:=a
theorem tw4088995501662441943:A:=a
theorem tw2921333422984971225:A:=a
theorem tw7905258948265366659:A:=a
theorem tw604379149183246831:A:=a
theorem tw17232796525908828059:A:=a
theorem tw11606805457068902254:A:=a
theorem tw9090449712052697147:A:=a
theorem tw142265531304430671:A:=a
theorem tw13369733630159409865:A:=a
theorem tw4970586190360376388:A:=a
theorem tw1063098053169457665:A:=a
theorem tw1304504405248105824:A:=a
theorem tw15130748043386722772:A:=a
theorem tw4033996301224377155:A:=a
theorem tw629637851233258827:A:=a
theorem tw2282386293293811247:A:=a
theorem tw15517370000121544209:A:=a
theorem tw13636602744272775301:A:=a
theorem tw16825824454051853052:A:=a
theorem tw17646991426155725171:A:=a
theorem tw14886868640585875341:A:=a
theorem tw6177554455535818972:A:=a
theorem tw9943095643731172863:A:=a
theorem tw9219012006572279159:A:=a
theorem tw10836379925170209641:A:=a
theorem tw12274488513666461646:A:=a
theorem tw4603189150598950295:A:=a
theorem tw4417215078256343670:A:=a
theorem tw17337687865029503520:A:=a
theorem tw10005439738468621771:A:=a
theorem tw11410468226206389284:A:=a
theorem tw12660616172387912194:A:=a
theorem tw13699377605364225076:A:=a
theorem tw18334890571210364283:A:=a
theorem tw15003173611623764181:A:=a
theorem tw16295165202877324778:A:=a
theorem tw6155320087029095016:A:=a
theorem tw8246094432251952966:A:=a
theorem tw9917886744582876568:A:=a
theorem tw4106722946456212209:A:=a
theorem tw14760545020398449676:A:=a
theorem tw4059620213256159575:A:=a
theorem tw7233580991709491115:A:=a
theorem tw5975305592674778363:A:=a
theorem tw17477621418481596218:A:=a
theorem tw3034398037085272476:A:=a
theorem tw13581075281941235294:A:=a
theorem tw5939566518262564753:A:=a
theorem tw8877861869613734458:A:=a
theorem tw11018913971563761815:A:=a
theorem tw5355671802419830224:A:=a
theorem tw6601991928832875097:A:=a
theorem tw17893112423410008947:A:=a
theorem tw3671210460291968136:A:=a
theorem tw13924976431903155686:A:=a
theorem tw5428632060713433355:A:=a
theorem tw6359125070946481733:A:=a
theorem tw17904593352925365146:A:=a
theorem tw3749304124058190847:A:=a
theorem tw14498954261163493875:A:=a
theorem tw15267632608018810489:A:=a
theorem tw10544325916661557137:A:=a
theorem tw8316241827925517161:A:=a
theorem tw9590233629002179925:A:=a
theorem tw5293602455115981868:A:=a
theorem tw16763951375123487604:A:=a
theorem tw14880778385949410700:A:=a
theorem tw16527533889020056847:A:=a
theorem tw11238850849576193279:A:=a
theorem tw1262161244445121024:A:=a
theorem tw13374682520627827395:A:=a
theorem tw510084518360728556:A:=a
theorem tw16271014464146141446:A:=a
theorem tw834448178676808337:A:=a
theorem tw17810414289379745925:A:=a
theorem tw3805785821326557014:A:=a
theorem tw15458933130550659997:A:=a
theorem tw14916961134384285869:A:=a
theorem tw7534504829417742362:A:=a
theorem tw2445584402721587385:A:=a
theorem tw5868041128920798498:A:=a
theorem tw8409877618402962811:A:=a
theorem tw5227555171412585529:A:=a
theorem tw5242460224333782617:A:=a
theorem tw1903360513714634970:A:=a
theorem tw11203357310869900504:A:=a
theorem tw1214419147715828995:A:=a
theorem tw14960583968106140107:A:=a
theorem tw17725064819476056773:A:=a
theorem tw2999685235168782613:A:=a
theorem tw18255604661273332367:A:=a
theorem tw482222737949084106:A:=a
theorem tw10213164323596754233:A:=a
theorem tw14625647033148792826:A:=a
theorem tw544604964978111820:A:=a
theorem tw1626725797066253170:A:=a
theorem tw12964606700534199886:A:=a
theorem tw2629364840080204915:A:=a
theorem tw18176290736826448477:A:=a
theorem tw17342943963340217014:A:=a
theorem tw7816208544202993871:A:=a
theorem tw16923213083823820046:A:=a
theorem tw9325433124719158558:A:=a
theorem tw407787148074612056:A:=a
theorem tw7653029657242268995:A:=a
theorem tw18127751017878677338:A:=a
theorem tw6278924726180716532:A:=a
theorem tw11202030373883565300:A:=a
theorem tw4048678822763113690:A:=a
theorem tw7726427091996172727:A:=a
theorem tw182707118707930624:A:=a
theorem tw17500500844878681319:A:=a
theorem tw12211041866280781612:A:=a
theorem tw11354745729670759689:A:=a
theorem tw4793292739605761291:A:=a
theorem tw9590249677401328188:A:=a
theorem tw15682658792620339890:A:=a
theorem tw1445390830533707273:A:=a
theorem tw14817814170271943663:A:=a
theorem tw9948460112747491773:A:=a
theorem tw8522946201691540041:A:=a
theorem tw11678879923026728962:A:=a
theorem tw8120491097088506166:A:=a
theorem tw3566073247453370598:A:=a
theorem tw7789826992423177045:A:=a
theorem tw10379189489379642035:A:=a
theorem tw17446844604067355887:A:=a
theorem tw2521424345147285797:A:=a
theorem tw12188073668028740000:A:=a
theorem tw5453658515344003564:A:=a
theorem tw16212333021409030512:A:=a
theorem tw4077647213368244471:A:=a
theorem tw16471745781287973406:A:=a
theorem tw8894167937392309710:A:=a
theorem tw12750705692012026528:A:=a
theorem tw14324838918126072791:A:=a
theorem tw17404607771738557794:A:=a
theorem tw11767180751469144160:A:=a
theorem tw15832076095013005454:A:=a
theorem tw17284552031498947033:A:=a
theorem tw12535065829910975408:A:=a
theorem tw12965895600000855151:A:=a
theorem tw12146393815297146913:A:=a
theorem tw15647775777316160037:A:=a
theorem tw18013113534786861834:A:=a
theorem tw236968020209256221:A:=a
theorem tw2430877622304853967:A:=a
theorem tw12040688860463421563:A:=a
theorem tw16850667198771571348:A:=a
theorem tw7746703747837496653:A:=a
theorem tw9450988525538917714:A:=a
theorem tw12539790328359060440:A:=a
theorem tw611134788406504399:A:=a
end PySem.W.Fast
open PySem PySem.W PyProof.Rows
set_option maxRecDepth 100000 in
set_option maxHeartbeats 0 in
theorem PySem.Challenge.cw_jettison_k33_whole_nothing_made_or_lost_holds : PySem.Challenge.rw_jettison_k33_whole_nothing_made_or_lost.Holds := by
 w_on;o_law;k_head;(case hw=>w_witness2)
 k_fill
 refine Xy.walk (l:=PySem.Challenge.rw_jettison_k33_whole_nothing_made_or_lost) rfl rfl (fun w h Y=>PySem.W.kIn_of Y) ?F
 case F=>
  intro w mg fa h KX G hmg
  refine' Xy.all_mk KX G hmg ?_ ?_ ?_ ?_ ?_ ?_ ?_ ?_ ?_ ?_ ?_ ?_ ?_ ?_ ?_ ?_ ?_ ?_ ?_ ?_ ?_ ?_ ?_ ?_ ?_ ?_ ?_ ?_ ?_ ?_ ?_ ?_ ?_ ?_ ?_ ?_ ?_ ?_ ?_ ?_ ?_ ?_ ?_ ?_ ?_ ?_ ?_ ?_ ?_ ?_ ?_ ?_ ?_ ?_ ?_ ?_ ?_ ?_ ?_ ?_ ?_ ?_ ?_ ?_ ?_ ?_ ?_ ?_ ?_ ?_ ?_ ?_ ?_ ?_ ?_ ?_ ?_ ?_ ?_ ?_ ?_ ?_ ?_ ?_ ?_ ?_ ?_ ?_ ?_ ?_ ?_ ?_ ?_ ?_ ?_ ?_ ?_ ?_ ?_ ?_ ?_ ?_ ?_ ?_ ?_ ?_ ?_ ?_ ?_ ?_ ?_ ?_ ?_ ?_ ?_ ?_ ?_ ?_
  any_goals first|(refine' L2.ff.of ?a ?l ?c ?k;(case a=>k_is);(case l=>k_is);(case c=>k_is);(case k=>k_is))|(refine' L2.cT.of ?a ?i ?l ?c ?k;(case a=>k_is);(case i=>k_is);(case l=>k_is);(case c=>k_is);(case k=>k_is))|k_is|k_exc
