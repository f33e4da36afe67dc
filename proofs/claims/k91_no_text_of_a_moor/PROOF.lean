import PyProof.Rows.All
import Wide.All
import OpenK.AllK
import Wide.FinOn
import Lean
import PyProof.EqAt
import PyProof.EqKinds
import PyProof.TupleCall
import PyProof.ZipIter
import PyProof.TupleIter
import PyProof.WalksMore
import PyProof.EnumMake
import PyProof.Draws
import PyProof.P3In
import KE.KSortTup
import PyProof.Rows.SortWalk
import KE.IntBitsLaws
import KE.KRevIter
import PyProof.TupleOfGen
import PyProof.Rows.FStr
import PyProof.StrCalls2
import PyProof.StrBlockH
import PyProof.Rows.StrRules
import KE.KIntText
import KE.KDictList
import PyProof.StrWalks
import PyProof.DictWalks
import PyProof.MeetsDict
import PyProof.DictValues
import PyProof.Rows.Range3
import PyProof.StrBlock2
import PyProof.StrCalls6
import PyProof.PureStr
import PySem.Challenge.RW_tokenmoor_k91_no_text_of_a_moor
open PySem.W (Frag)
set_option Elab.async false
set_option linter.all false
set_option compiler.extract_closed false
def Qo {p:Prop}(h:p:=by omega):p:=h
def Qq {p:Prop}(h:p:=by rfl):p:=h
def Qz {p:Prop}(h:p:=by trivial):p:=h
def Qy {p:Prop}(h:p:=by decide):p:=h
def Qj {p:Prop}(h:p:=by simp):p:=h
def Qv {p:Prop}(h:p:=by kernel_rfl):p:=h
def Qx {p:Prop}(h:p:=by decide +kernel):p:=h
abbrev Jq:=List (PySem.Addr×PySem.Obj)
abbrev Jz:=PySem.Str->Option PySem.Value
abbrev Jj:=List (Option Int)
abbrev Jv:=Option Int
abbrev Jw:=List PySem.Value
abbrev Jk:=List PySem.Str
abbrev Jx:=List PySem.Expr
abbrev Jy:=Array PySem.Value
abbrev Jp:=PySem.Value->PySem.Shared->Prop
abbrev Jo:=List PySem.Stmt
abbrev Jg:=List (List Int)
abbrev JQ:=List Int
abbrev JZ:=List Nat
def qL1:=@decide_eq_false
def qL6:=@decide_eq_true
def qL7:=@PySem.wpAny_pure
def qL8:=@if_true
def qL9:=@PySem.wpAny_field
def qM0:=@if_false
def qM1:=@PySem.wpAny_truthy_bool
def qM2:=@beq_self_eq_true
def qM3:=@PySem.wpAny_mono
def qM4:=@PySem.wpAny_Call_Name_kw
def qM5:=@PySem.wpAny_newObj_type
def qM6:=@PySem.wpAny_seqItems
def qM7:=@beq_eq_false_iff_ne
def qM8:=@PySem.wpAny_callSpecial?_slot
def qM9:=@PySem.typeIs_str
def qN0:=@PySem.wpAny_setField_rec
def qN1:=@List.take_append_of_le_length
def qN2:=@PySem.wpAny_holding
def qN3:=@PySem.wpAny_execs_nil
def qN4:=@PySem.wpAny_passesOwn
def qN5:=@List.pairwise_cons
def qN6:=@Nat.succ_add_eq_add_succ
def qN7:=@PySem.Heap.size_push
def qN8:=@List.length_eq_zero_iff
def qN9:=@of_decide_eq_true
def qO0:=@List.nodup_append
def qO1:=@PySem.wpAny_Call_method_late
def qO2:=@List.drop_eq_nil_of_le
def qO3:=@PySem.wpAny_call_entry
def qO4:=@List.length_replicate
def qO5:=@List.length_singleton
def qO6:=@List.getElem?_zipWith
def qO7:=@Array.getElem?_toList
def qO8:=@Array.getElem?_setIfInBounds_ne
def qO9:=@Nat.le_of_lt
def qP0:=@PySem.wpAny_Name
def qP1:=@List.nodup_cons
def qP2:=@PySem.Calls.evalArgs_plain
def qP3:=@PySem.call_meets
def qP4:=@PySem.F.slot_zip_next
def qP5:=@PySem.Around.under_plainId
def qP6:=@Array.eq_empty_of_size_eq_zero
def qP7:=@Nat.sub_self
def qP8:=@Nat.add_sub_cancel'
def qP9:=@ne_true_of_eq_false
def qQ1:=@or_false
def qQ2:=@List.mem_filterMap
def qQ3:=@PySem.W.callWith_K
def qQ4:=@PySem.tupleKind_room_in1
def qQ6:=@Array.getD_eq_getD_getElem?
def qQ7:=@PySem.F.args_str_split_2
def qQ9:=@PySem.wpAny_attempt
def qR0:=@PySem.wpAny_standAt
def qR1:=@PySem.F.excBase_ValueError
def qR2:=@Bool.and_self
def qR3:=@PySem.Calls.spliced_nil
def qR4:=@Option.isSome_map
def qR5:=@PySem.wpAny_pyIter_list
def qR6:=@Nat.le_of_lt_succ
def qR7:=@Nat.add_sub_assoc
def qR8:=@PySem.F.entry_str_split
def qR9:=@PySem.wpAny_execs_cons
def qS0:=@PySem.codeAny_mono
def qS1:=@List.getElem?_take_of_lt
def qS3:=@Array.size_setIfInBounds
def qS5:=@Nat.succ_le_succ
def qS6:=@PySem.F.slot_str_split
def qS7:=@PySem.F.slot_dict_values
def qS8:=@PySem.Str.append_empty
def qS9:=@decide_eq_decide
def qT0:=@Bool.or_true
def qT1:=@Array.all_toList
def qT2:=@Nat.min_eq_right
def qT3:=@List.flatten_nil
def qT5:=@List.getElem?_cons_succ
def qT6:=@PySem.F.plainAttrs_dict
def qT7:=@Int.eq_ofNat_of_zero_le
def qT8:=@Nat.add_sub_cancel_left
def qT9:=@List.of_mem_zip
def qU0:=@Option.map_some
def qU1:=@Nat.min_le_left
def qU3:=@Nat.not_lt_zero
def qU4:=@List.take_left'
def qU5:=@List.drop_left'
def qV6:=@List.forIn_nil
def qW1:=@Bool.and_false
def qW3:=@List.drop_left
def qW4:=@List.take_left
def qX3:=@Bool.true_and
def qX4:=@List.any_cons
def qX5:=@Bool.not_true
def qX6:=@List.map_drop
def qA0:=@List.length_map
def qA1:=@List.length_append
def qA2:=@List.mem_cons_self
def qA3:=@List.length_cons
def qA4:=@List.mem_cons_of_mem
def qA5:=@List.getElem?_eq_some_iff
def qA6:=@List.mem_map
def qA7:=@List.mem_cons
def qA8:=@PySem.wpAny_bind
def qA9:=@if_pos
def qB0:=@List.getElem?_set_ne
def qB1:=@List.map_append
def qB2:=@List.map_cons
def qB3:=@PySem.Heap.get?_push_of_some
def qB4:=@if_neg
def qB5:=@List.mem_of_getElem?
def qB6:=@List.append_assoc
def qB7:=@List.mem_append
def qB8:=@Nat.le_refl
def qB9:=@List.length_take
def qC0:=@Bool.false_ne_true
def qC1:=@List.getElem?_map
def qC2:=@List.mem_append_right
def qC3:=@List.getElem?_eq_getElem
def qC4:=@List.mem_singleton
def qC5:=@List.getElem?_set
def qC6:=@Nat.lt_of_lt_of_le
def qC7:=@PySem.Heap.lt_size
def qC8:=@PySem.Heap.get?_push_size
def qC9:=@List.length_drop
def qD0:=@List.mem_of_mem_take
def qD1:=@List.append_nil
def qD2:=@List.getElem?_append_left
def qD3:=@List.length_set
def qD4:=@List.getD_eq_getElem?_getD
def qD5:=@List.map_map
def qD6:=@List.size_toArray
def qD7:=@Nat.zero_le
def qD8:=@List.getElem?_append_right
def qD9:=@Nat.le_trans
def qE0:=@List.getElem?_set_self
def qE1:=@List.take_of_length_le
def qE2:=@PySem.boot_len
def qE3:=@List.mem_append_left
def qE4:=@List.flatten_cons
def qE5:=@List.getElem?_replicate
def qE6:=@Bool.false_eq_true
def qE7:=@Nat.ne_of_lt
def qE8:=@List.cons_prefix_cons
def qE9:=@List.filterMap_cons
def qF0:=@List.not_mem_nil
def qF1:=@Int.toNat_natCast
def qF2:=@List.mem_of_mem_drop
def qF3:=@Option.map_eq_some_iff
def qF4:=@PySem.W.mg_of
def qF5:=@List.replicate_succ
def qF6:=@PySem.Str.length_append
def qF7:=@PySem.W.kia_one
def qF8:=@PySem.W.mg_none_of
def qF9:=@Option.some.injEq
def qG0:=@List.length_range
def qG1:=@List.map_nil
def qG2:=@Classical.choose_spec
def qG3:=@List.take_length
def qG4:=@List.drop_eq_getElem_cons
def qG5:=@List.all_eq_true
def qG6:=@List.cons_append
def qG7:=@Nat.lt_irrefl
def qG8:=@List.map_take
def qG9:=@PyProof.Rows.boot_isinstance
def qH0:=@PyProof.Rows.callWith_type1
def qH1:=@Nat.min_eq_left
def qH2:=@PySem.PassesOwn.never
def qH3:=@PySem.mem_of_lookup
def qH4:=@List.getElem_mem
def qH5:=@List.mem_range
def qH6:=@PySem.Heap.get?_update_self
def qH7:=@List.Pairwise.sublist
def qH8:=@List.nil_append
def qH9:=@List.take_sublist
def qI0:=@Bool.and_eq_true
def qI1:=@PySem.Calls.callWith_builtin
def qI2:=@PySem.Sem.wp_bind
def qI3:=@PySem.Calls.spliced_cons
def qI4:=@List.length_nil
def qI5:=@PySem.F.slot_tuple_iterator_next
def qI6:=@List.pairwise_map
def qI7:=@List.mem_or_eq_of_mem_set
def qI8:=@Nat.mul_le_mul_right
def qI9:=@List.take_zero
def qJ0:=@List.lookup_cons
def qJ1:=@Nat.succ_ne_zero
def qJ2:=@Nat.zero_add
def qJ3:=@Array.length_toList
def qJ4:=@List.map_congr_left
def qJ5:=@PySem.Calls.Constant_str
def qJ6:=@Bool.eq_iff_iff
def qJ7:=@Nat.lt_of_le_of_lt
def qJ8:=@List.find?_cons
def qJ9:=@List.getElem?_drop
def qK0:=@Int.emod_lt_of_pos
def qK1:=@PySem.Sem.wp_mono
def qK2:=@PySem.F.plainAttrs_str
def qK3:=@List.drop_drop
def qK4:=@List.take_append_drop
def qK5:=@List.getElem?_append
def qK6:=@PySem.Str.append_assoc
def qK7:=@List.forIn_cons
def qK8:=@Int.emod_nonneg
def qK9:=@Nat.ne_of_gt
def qL0:=@Bool.false_and
def qL2:=@List.drop_zero
def qL3:=@List.take_add_one
def qL4:=@Bool.or_false
def qL5:=@Nat.min_le_right
set_option maxRecDepth 100000
theorem Z1 (a:p)(b:q):p/\q:=⟨a,b⟩
noncomputable section
local macro_rules | `(tactic| omega)=>`(tactic| first | with_reducible assumption | decide | lia)
local macro_rules | `(tactic| show $e)=>`(tactic| exact $e)
set_option genSizeOf false
set_option genSizeOfSpec false
namespace L2
open PySem PySem.Spec PyProof.Rows
abbrev Key:=Sum Int Str
def cM:Key->Value->Bool
 | .inl k,v=>Value.isInt k v
 | .inr x,v=>Value.isStrOf x v
def keyH (w:World):Key->Int
 | .inl k=>hashInt k
 | .inr x=>hashStr w x
def v7:∀{k:Key}{v:Value},cM k v=true->(∃i t,k=Sum.inl i/\v=Value.int i t)\/(∃x t,k=Sum.inr x/\v=Value.str x t)
 | .inl i,v,h=>by
  obtain ⟨t,e⟩:=Value.isInt_shape (k:=i) (v:=v) h;show .inl ⟨i,t,rfl,e⟩
 | .inr x,v,h=>by
  obtain ⟨t,e⟩:=Value.isStrOf_shape (x:=x) (v:=v) h;show .inr ⟨x,t,rfl,e⟩
def pK (i:Int)(t:Tok):cM (.inl i) (.int i t)=true:=by simp [cM,Value.isInt]
def pJ (x:Str)(t:Tok):cM (.inr x) (.str x t)=true:=by simp [cM,Value.isStrOf]
def BN (a b:Int):decide ((Sum.inl a:Key)=Sum.inl b)=(a == b):=by
 by_cases e:a=b
 .subst e;simp
 .have h:¬ (Sum.inl a:Key)=Sum.inl b:=λq=>e (Sum.inl.inj q);rw[qL1 h];show (qM7.mpr e).symm
def BK (a b:Str):decide ((Sum.inr a:Key)=Sum.inr b)=decide (a=b):=by
 by_cases e:a=b
 .subst e;simp
 .have h:¬ (Sum.inr a:Key)=Sum.inr b:=λq=>e (Sum.inr.inj q);rw[qL1 h,qL1 e]
def BM (a:Int)(b:Str):decide ((Sum.inl a:Key)=Sum.inr b)=false:=qL1 (λq=>nomatch q)
def BL (a:Str) (b:Int):decide ((Sum.inr a:Key)=Sum.inl b)=false:=qL1 (λq=>nomatch q)
def o8 (prog:Program) (w:World):PySem.KeyKind prog w Key where
 is:=cM
 hash:=keyH w
 inj:=λv a b ha O=>by
  rcases v7 ha with ⟨i,t,rfl,rfl⟩|⟨x,t,rfl,rfl⟩
  .rcases v7 O with ⟨j,u,rfl,e⟩|⟨y,u,rfl,e⟩
   .injection e with e1 _;rw[e1]
   .show nomatch e
  .rcases v7 O with ⟨j,u,rfl,e⟩|⟨y,u,rfl,e⟩
   .show nomatch e
   .injection e with e1 _;rw[e1]
 byValue:=λk v h=>by
  rcases v7 h with ⟨i,t,rfl,rfl⟩|⟨x,t,rfl,rfl⟩ <;> rfl
 pyHash:=λI h=>by
  rcases v7 I with ⟨i,t,rfl,rfl⟩|⟨x,t,rfl,rfl⟩
  .show wpAny_pyHash_int h
  .show wpAny_pyHash_str h
 eqBool:=λhu I h=>by
  rcases v7 hu with ⟨i,t,rfl,rfl⟩|⟨x,t,rfl,rfl⟩
  .rcases v7 I with ⟨j,u,rfl,rfl⟩|⟨y,u,rfl,rfl⟩
   .rw[BN]at h;show wpAny_eqBool_int h
   .rw[BM]at h;show SeqAt.EqAt.int_str i t y u _ _ _ _ h
  .rcases v7 I with ⟨j,u,rfl,rfl⟩|⟨y,u,rfl,rfl⟩
   .rw[BL]at h;show SeqAt.EqAt.str_int x t j u _ _ _ _ h
   .rw[BK]at h;show wpAny_eqBool_str h
 «strs»:=λk x t v h=>by
  rcases v7 h with ⟨i,u,rfl,e⟩|⟨y,u,rfl,e⟩
  .show nomatch e
  .injection e with e1 _
   subst e1;cases v <;> rfl
def jP (prog:Program)(w:World) (i:Int)(t:Tok):(o8 prog w).is (.inl i) (.int i t)=true:=pK i t
def jO (prog:Program)(w:World)(x:Str)(t:Tok):(o8 prog w).is (.inr x) (.str x t)=true:=pJ x t
inductive V where
 |non|bl (b:Bool)|int (i:Int)|str (x:Str)|byt (b:Array UInt8)|flt (b:UInt64)|ref (a:Addr)|ty (n:String)
 deriving DecidableEq
def RelV:V->Value->Prop
 | .non,u=>u=Value.none
 | .bl b,u=>u=Value.bool b
 | .int i,u=>∃t,u=Value.int i t
 | .str x,u=>∃t,u=Value.str x t
 | .byt b,u=>∃t,u=Value.bytes b t
 | .flt b,u=>∃t,u=Value.float b t
 | .ref a,u=>u=Value.ref a
 | .ty n,u=>u=Value.type n
abbrev Vals:List V->List Value->Prop:=Paired RelV
def Vals.length (r:Vals xs us):xs.length=us.length:=Paired.length r
def Vals.get:∀{xs:List V}{us:Jw}{i:Nat}{x:V},Vals xs us->xs[i]?=some x->∃u,us[i]?=some u/\RelV x u:=by
 intro xs us i x a
 induction a generalizing i with
 |nil=>intro e;cases e
 | cons r t I=>
  intro e;cases i with
  |zero=>cases e;show ⟨_,rfl,r⟩
  |succ i=>show I e
def Vals.append:∀{xs ys:List V}{us ws:Jw},Vals xs us->Vals ys ws->Vals (xs++ys) (us++ws):=by
 intro xs ys us ws a s
 induction a with
 |nil=>show s
 |cons r t I=>show .cons r I
def Vals.take:∀{xs:List V}{us:Jw}(n:Nat),Vals xs us->Vals (xs.take n) (us.take n):=by
 intro xs us n h
 induction h generalizing n with
 |nil=>cases n <;> show .nil
 | cons r t I=>
  cases n with
  |zero=>show .nil
  |succ n=>show .cons r (I n)
def Vals.drop:∀{xs:List V}{us:Jw}(n:Nat),Vals xs us->Vals (xs.drop n) (us.drop n)
 |_,_,0,r=>r
 |_,_,_+1,.nil=>.nil
 |_,_,n+1,.cons _ t=>Vals.drop n t
def RelO:Option V->Option Value->Prop
 |some v,some u=>RelV v u
 |none,none=>True
 |_,_=>False
def KV {κ:Type}:List (κ×V)->List (κ×Value)->Prop:=Paired λ(p:κ×V)(q:κ×Value)=>p.1=q.1/\RelV p.2 q.2
def kV:Key->V
 | .inl i=>.int i
 | .inr x=>.str x
inductive HO where
 |lst (xs:List V)
 |tup (xs:List V)
 |dK (kvs:List (Key×V))|dT (kvs:List (List Key×V))
 |set (S:Int->Bool) (n:Nat)
 |ins (C dx:Addr) (fs:List (Str×V))
 |own (x:Addr)
 |xd (fs:List (Str×V))
 |met (f x:Addr)
 |rng (lo hi:Int)
 |frz (o:Obj) (u:HO)
 |tbl (ps:Jy)
 |ext (φ:Heap->Prop)
abbrev Hp:=Addr->Option HO
def upd (H:Hp)(a:Addr)(o:HO):Hp:=λb=>if b=a then some o else H b
def e7:upd H a o a=some o:=by unfold upd;rw[qA9 rfl]
def b6 (h:b≠a):upd H a o b=H b:=by unfold upd;rw[qB4 h]
def vW:upd (upd H a o) a u=upd H a u:=by
 funext b;unfold upd;split <;> rfl
def Gc {H:Hp}(h:H a=some o) (h':H b=some u) (d:o≠u):a≠b:=by
 intro e;subst e;rw[h]at h';show d (Option.some.inj h')
def c9 {H:Hp}(h:H a=some o) (h':H b=none):a≠b:=by
 intro e;subst e;rw[h]at h';cases h'
section
variable (P:Program)(w:World)
def ObjOk (H:Hp) (h:Heap) (a:Addr):HO->Prop
 | .lst xs=>xs.length<=sizeLine/\∃(its:Jw) (n:Nat),Vals xs its/\h.get? a=some { cls:=.type "list",data:=.seq its.toArray n }
 | .tup xs=>xs.length<=sizeLine/\∃its:List Value,Vals xs its/\IsTup h a its.toArray
 | .dK kvs=>kvs.length<=sizeLine/\(a == sysModules)=false/\∃vs,KV kvs vs/\h.DictOf (o8 P w) a vs
 | .dT kvs=>kvs.length<=sizeLine/\(a == sysModules)=false/\∃xs:List (List Key×Addr×Value),
   Paired (λ(p:List Key×V) (q:List Key×Addr×Value)=>p.1=q.1/\H q.2.1=some (.tup (p.1.map kV))/\RelV p.2 q.2.2) kvs xs /\
   ∃o es ep,h.get? a=some o/\o.ExactDict/\o.data=.dict es ep/\es.toList=xs.map (entryOfKey (tupleKind (o8 P w)))/\(xs.map (·.1)).Nodup
 | .set S n=>h.SetOf (intKind P w) a S n
 | .ins C dx fs=>H dx=some (.own a)/\fs.length<=1000/\dx≠a/\h.get? a=some (PySem.W.instObj C dx) /\
   ∃mA,h.Ns1 dx mA/\(∀f,RelO (fs.lookup f) (mA f))/\PySem.Within mA (fs.map (·.1))
 | .own _=>∃o,h.get? a=some o
 | .xd fs=>∃mA,h.Ns1 a mA/\∀f,RelO (fs.lookup f) (mA f)
 | .rng lo hi=>∃t u v,h.get? a=some { cls:=.type "range",data:=.fields #[.int lo t,.int hi u,.int 1 v] }
 | .frz o u=>h.get? a=some o/\ObjOk H h a u
 | .tbl ps=>h.get? a=some { cls:=.none,data:=.fields ps }
 | .met f x=>h.get? a=some (PySem.W.methodObj (.ref f) (.ref x))
 | .ext φ=>φ h/\(∃o,h.get? a=some o)/\∀h1 h2:Heap,φ h1->(∀o,h1.get? a=some o->h2.get? a=some o)->φ h2
def HOk (H:Hp)(h:Heap):Prop:=∀a o,H a=some o->ObjOk P w H h a o
end
def ObjOk.lt (x:ObjOk P w H h a o):a<h.objs.size:=by
 cases o with
 |lst xs=>obtain ⟨_,_,_,_,e⟩:=x;show qC7 e
 |tup xs=>obtain ⟨_,_,_,p⟩:=x;show p.lt
 |dK kvs=>obtain ⟨_,_,_,_,o,_,_,e,_⟩:=x;show qC7 e
 |dT kvs=>obtain ⟨_,_,_,_,o,_,_,e,_⟩:=x;show qC7 e
 |set S n=>obtain ⟨o,_,_,_,e,_⟩:=x;show qC7 e
 |ins C dx fs=>obtain ⟨_,_,_,e,_⟩:=x;show qC7 e
 |own y=>obtain ⟨_,e⟩:=x;show qC7 e
 |xd fs=>obtain ⟨_,⟨_,_,_,e,_⟩,_⟩:=x;show qC7 e
 |rng lo hi=>obtain ⟨_,_,_,e⟩:=x;show qC7 e
 |frz ob u=>obtain ⟨e,_⟩:=x;show qC7 e
 |tbl ps=>show qC7 (show h.get? a=some _ from x)
 |met f y=>show qC7 (show h.get? a=some _ from x)
 |ext φ=>obtain ⟨_,⟨_,e⟩,_⟩:=x;show qC7 e
def Paired.mapP:∀{I:List α}{l₂:List β},Paired F I l₂->(∀a b,F a b->G a b)->Paired G I l₂:=by
 intro I l₂ h f
 induction h with
 |nil=>show .nil
 |cons r t O=>show .cons (f _ _ r) O
def ObjOk.stay (x:ObjOk P w H h a o) (k:∀b u,(b=a\/H b=some (.own a))->h.get? b=some u->h'.get? b=some u) (O:∀b,H b=some (.own a)->H' b=some (.own a)) (ht:∀b xs,H b=some (.tup xs)->H' b=some (.tup xs)):ObjOk P w H' h' a o:=by
 induction o with
 |lst xs=>obtain ⟨z,its,n,r,e⟩:=x;show ⟨z,its,n,r,k _ _ (.inl rfl) e⟩
 |tup xs=>obtain ⟨z,its,r,ob,e,c⟩:=x;show ⟨z,its,r,ob,k _ _ (.inl rfl) e,c⟩
 |dK kvs=>obtain ⟨z,y,vs,r,ob,es,ep,e,c⟩:=x;show ⟨z,y,vs,r,ob,es,ep,k _ _ (.inl rfl) e,c⟩
 | dT kvs=>
  obtain ⟨z,y,xs,r,ob,es,ep,e,c⟩:=x;show ⟨z,y,xs,Paired.mapP r λp q z=>⟨z.1,ht _ _ z.2.1,z.2.2⟩,ob,es,ep,k _ _ (.inl rfl) e,c⟩
 |set S n=>obtain ⟨ob,es,ep,t,e,c⟩:=x;show ⟨ob,es,ep,t,k _ _ (.inl rfl) e,c⟩
 | ins C dx fs=>
  obtain ⟨d,z,ne,e,mA,⟨od,es,ep,e2,c⟩,r⟩:=x;show ⟨O _ d,z,ne,k _ _ (.inl rfl) e,mA,⟨od,es,ep,k _ _ (.inr d) e2,c⟩,r⟩
 |own y=>obtain ⟨ob,e⟩:=x;show ⟨ob,k _ _ (.inl rfl) e⟩
 |xd fs=>obtain ⟨mA,⟨od,es,ep,e,c⟩,r⟩:=x;show ⟨mA,⟨od,es,ep,k _ _ (.inl rfl) e,c⟩,r⟩
 |rng lo hi=>obtain ⟨t,u,v,e⟩:=x;show ⟨t,u,v,k _ _ (.inl rfl) e⟩
 |frz ob u I=>obtain ⟨e,q⟩:=x;show ⟨k _ _ (.inl rfl) e,I q⟩
 | tbl ps=>
  have e:h.get? a=some { cls:=.none,data:=.fields ps }:=x
  change h'.get? a=some { cls:=.none,data:=.fields ps };show k a _ (.inl rfl) e
 | met f y=>
  have e:h.get? a=some (PySem.W.methodObj (.ref f) (.ref y)):=x
  change h'.get? a=some (PySem.W.methodObj (.ref f) (.ref y));show k a _ (.inl rfl) e
 |ext φ=>obtain ⟨p,⟨o,e⟩,st⟩:=x;show ⟨st _ _ p λo q=>k _ _ (.inl rfl) q,⟨o,k _ _ (.inl rfl) e⟩,st⟩
def HOk.lt (x:HOk P w H h)(e:H a=some o):a<h.objs.size:=(x a o e).lt
def HOk.fresh {a:Addr}(x:HOk P w H h) (e:h.objs.size<=a):H a=none:=by
 cases q:H a with
 |none=>rfl
 |some u=>show absurd (qC6 (x.lt q) e) (qG7 _)
def HOk.kept (x:HOk P w H h) (k:∀b u,h.get? b=some u->h'.get? b=some u):HOk P w H h':=λa o e=>
 (x a o e).stay (λb u _ q=>k b u q) (λ_ q=>q) λ_ _ q=>q
def HOk.laid {a:Addr}(x:HOk P w H h) (k:∀b u,h.get? b=some u->h'.get? b=some u) (hp:h.objs.size<=a) (I:ObjOk P w (upd H a o) h' a o):HOk P w (upd H a o) h':=λb u e=>by
 have hn:=x.fresh hp;by_cases O:b=a
 .subst O;rw[e7]at e;cases e;show I
 .rw [b6 O]at e
  show (x b u e).stay (λc v _ q=>k c v q) (λc q=>by rw[b6 (c9 q hn)];show q) λc xs q=>by rw[b6 (c9 q hn)];show q
def Rd (H:Hp)(a:Addr)(u:HO):Prop:=H a=some u\/∃o,H a=some (.frz o u)
def Rd.ok (r:Rd H a u) (x:HOk P w H h):ObjOk P w H h a u:=by
 rcases r with r|⟨o,r⟩
 .show x a u r
 .obtain ⟨_,q⟩:=x a _ r;show q
def Mut:Option HO->Prop
 |some (.lst _)=>True
 |some (.dK _)=>True
 |some (.dT _)=>True
 |some (.set _ _)=>True
 |some (.ins _ _ _)=>True
 |some (.ext _)=>True
 |_=>False
def HOk.write (ok:HOk P w H h) (mu:Mut (H x)) (he:e=x\/H e=some (.own x)) (k:∀b u,b≠e->h.get? b=some u->h'.get? b=some u) (a4:∃u,h'.get? e=some u) (ae:ObjOk P w (upd H x o') h' x o'):HOk P w (upd H x o') h':=λb u q=>by
 have O:∀c y,H c=some (.own y)->c≠x:=λc y r z=>by subst z;rw[r]at mu;show mu
 have a3:∀c xs,H c=some (.tup xs)->c≠x:=λc xs r z=>by subst z;rw[r]at mu;show mu
 by_cases hb:b=x
 .subst hb;rw[e7]at q;cases q;show ae
 .rw [b6 hb]at q
  by_cases I:b=e
  .have q':H b=some (.own x):=by
    rcases he with z|z
    .show absurd (I.trans z) hb
    .rw[I];show z
   rw[q]at q';cases q';obtain ⟨v,hv⟩:=a4;show ⟨v,by rw[I];show hv⟩
  .refine (ok b u q).stay (λc v hc r=>k c v ?_ r) (λc r=>by rw[b6 (O c b r)];show r) λc xs r=>by rw[b6 (a3 c xs r)];show r
   rcases hc with rfl|hc
   .show I
   .rintro rfl;rcases he with z|z
    .show O c b hc z
    .rw[hc]at z;cases z;show hb rfl
structure Un (fs ex:List Addr) (H H':Hp) (h h':Heap):Prop where
 keep:∀b o,h.get? b=some o->H b=none->b∉fs->b∉ex->h'.get? b=some o
 slot:∀b o,h.get? b=some o->H b=none->b∈fs->b∉ex->∃sl,h'.get? b=some { o with slots:=sl }
 free:∀b o,h.get? b=some o->H b=none->b∉ex->H' b=none
 there:∀b o,h.get? b=some o->b∉ex->∃o',h'.get? b=some o'
 tups:∀b xs,H b=some (.tup xs)->H' b=some (.tup xs)
 frzs:∀b o u,H b=some (.frz o u)->H' b=some (.frz o u)
 tbls:∀b ps,H b=some (.tbl ps)->∃more,H' b=some (.tbl (ps++more))
def Un.any (u:Un fs ex H H1 h h1) (q:h.get? b=some ob) (n:H b=none) (O:b∉ex):∃sl,h1.get? b=some { ob with slots:=sl }:=by
 by_cases I:b∈fs
 .show u.slot b ob q n I O
 .show ⟨ob.slots,u.keep b ob q n I O⟩
def Un.kept (k:∀b u,h.get? b=some u->h'.get? b=some u):Un fs ex H H h h':=
 ⟨λb ob q _ _ _=>k b ob q,λb ob q _ _ _=>⟨ob.slots,k b ob q⟩,λ_ _ _ n _=>n,λb ob q _=>⟨ob,k b ob q⟩,λ_ _ q=>q,λ_ _ _ q=>q,λ_ ps q=>⟨#[],by rw[q];simp⟩⟩
def Un.refl:Un fs ex H H h h:=Un.kept λ_ _ q=>q
def Un.laid (k:∀b u,h.get? b=some u->h'.get? b=some u) (I:h.objs.size<=a) (hn:H a=none):Un fs ex H (upd H a o) h h' where
 keep:=λb u q _ _ _=>k b u q
 slot:=λb u q _ _ _=>⟨u.slots,k b u q⟩
 free:=λb u q n _=>by rw[b6 (qE7 (qC6 (qC7 q) I))];show n
 there:=λb u q _=>⟨u,k b u q⟩
 tups:=λb xs q=>by rw[b6 (c9 q hn)];show q
 frzs:=λb u xs q=>by rw[b6 (c9 q hn)];show q
 tbls:=λb ps q=>⟨#[],by rw[b6 (c9 q hn),q];simp⟩
def Un.write (O:Mut (H x)) (he:e=x\/H e=some (.own x)) (k:∀b u,b≠e->h.get? b=some u->h'.get? b=some u) (a3:∃u,h'.get? e=some u):Un fs ex H (upd H x o) h h':=by
 have hx:∀b,H b=none->b≠x:=λb n z=>by subst z;rw[n]at O;show O
 have hb:∀b,H b=none->b≠e:=λb n z=>by
  subst z;rcases he with r|r
  .show hx b n r
  .rw[n]at r;cases r
 have hm:∀b u,H b=some u->¬ Mut (some u)->b≠x:=λb u q nm z=>by subst z;rw[q]at O;show nm O
 refine ⟨λb u q n _ _=>k b u (hb b n) q,λb u q n _ _=>⟨u.slots,k b u (hb b n) q⟩,λb u q n _=>by rw[b6 (hx b n)];show n,λb u q _=>?_,
  λb xs q=>by rw[b6 (hm b _ q λz=>z)];show q,λb u xs q=>by rw[b6 (hm b _ q λz=>z)];show q,λb ps q=>⟨#[],by rw[b6 (hm b _ q λz=>z),q];simp⟩⟩
 by_cases I:b=e
 .subst I;show a3
 .show ⟨u,k b u I q⟩
def trk (h:Heap)(H:Hp):List Addr:=(List.range h.objs.size).filter λa=>(H a).isSome
def bt (h:Heap)(H:Hp):Heap:=PySem.W.hideAll h (trk h H)
def pX (h:Heap)(H:Hp):(bt h H).objs.size=h.objs.size:=PySem.W.hideAll_size _ _
def tG (e:h.get? b=some o) (n:H b=none):(bt h H).get? b=some o:=
 PySem.W.hideAll_get _ e λhm=>by
  have q:(H b).isSome=true:=(List.mem_filter.mp hm).2;rw[n]at q;simp at q
def wU (e:(bt h H).get? b=some o):h.get? b=some o/\H b=none:=by
 have I:h.get? b=some o:=PySem.W.of_hideAll (trk h H) e;refine ⟨I,?_⟩;cases q:H b with
 |none=>rfl
 | some x=>
  have hm:b∈trk h H:=List.mem_filter.mpr ⟨qH5.mpr (qC7 I),by simp [q]⟩;have z:(bt h H).get? b=none:=PySem.W.hideAll_none (trk h H) hm;rw[z]at e;cases e
def yI (g h:Heap)(L:Addr):List (Addr×Obj):=(List.range h.objs.size).filterMap λa=>if a=L\/(g.get? a).isSome=true then none else (h.get? a).map λo=>(a,o)
def rest (g h:Heap)(L d:Addr):List (Addr×Obj):=(yI g h L).filter λp=>decide (p.1≠d)
structure Mod (K:Frag) (mg:Jz) (base:Heap):Prop where
 kin:K.In base
 glob:base.Ns mainGlobals mg
 blt:∃mb,base.Ns builtinsNs mb/\∀x:Str,x ≠ "__name__" -> mb x=bootBuiltins x
 nolimit:base.NoLimit
structure Cx where
 prog:Program
 w:World
 K:Frag
 mg:Str->Option Value
 base:Heap
 A:Around
 N:List Str
 s₀:Shared
 H₀:Hp
 env:Env
 outer:List Env
 stack:List Env
 ex:List Addr
 fn:Str->Bool
 calm:Bool
 pn:List (Addr×Obj)
 xe:Value->Shared->Prop
def frs (l:List Env):List Addr:=l.filterMap (·.frame)
abbrev Cx.fs (X:Cx):List Addr:=frs X.outer
def Vis (sc:Scope)(x:Str):Prop:=sc.names.lookup x=some .local\/sc.names.lookup x=some .cell\/sc.names.lookup x=some .free
def Loc (sc:Scope)(x:Str):Prop:=sc.names.lookup x=some .local\/sc.names.lookup x=some .cell
def Look (env:Env) (h:Heap) (m:Jz) (x:Str) (u:Value):Prop:=
 (env.kindOf x=some .local/\m x=some u)\/((env.kindOf x=some .cell\/env.kindOf x=some .free)/\∃c,env.cells.lookup x=some c/\h.IsCell c (some u))
structure Cx.Ok (X:Cx):Prop where
 mod:Mod X.K X.mg X.base
 kind:X.env.scope.kind=.function
 glob:X.env.globals=mainGlobals
 blt:X.env.builtins=builtinsNs
 above:X.s₀.heap.objs.size<=X.env.locals
 inj:∀x y c,X.env.cells.lookup x=some c->X.env.cells.lookup y=some c->x=y
 has:∀x,(X.env.kindOf x=some .cell\/X.env.kindOf x=some .free)->∃c,X.env.cells.lookup x=some c
 cab:∀x c,X.fn x=true->X.env.cells.lookup x=some c->X.s₀.heap.objs.size<=c
 hd:X.calm=true->X.A.handled=none
 frames:X.A.frames=some X.stack
 stk:X.stack=X.outer\/(X.stack=X.env::X.outer/\X.env.frame=some X.env.locals)
 exf:∀b∈X.ex,b≠X.env.locals/\∀x c,X.env.cells.lookup x=some c->c≠b
 bs:∀b o,X.base.get? b=some o->X.s₀.heap.get? b=some o/\X.H₀ b=none
 bsz:X.base.objs.size<=X.s₀.heap.objs.size
 noex:∀b o,X.base.get? b=some o->b∉X.ex
 exfs:∀b∈X.ex,b∉X.fs
 funs:X.s₀.heap.FunFrames X.base X.outer
 frf:∀b∈X.fs,X.H₀ b=none
structure Inv (X:Cx) (pins:Jq) (σ:List (Option V)) (H:Hp) (s:Shared):Prop where
 ok:X.Ok
 os:s.os=X.s₀.os
 bare:AllBare s.gens
 base:Un X.fs X.ex X.H₀ H X.s₀.heap s.heap
 loc:∃m,s.heap.Ns X.env.locals m/\∀(i:Nat) (x:Str) (v:V),X.N[i]?=some x->σ[i]?=some (some v)->Vis X.env.scope x->∃u,RelV v u/\Look X.env s.heap m x u
 cell:∀x c,X.env.cells.lookup x=some c->∃v,s.heap.IsCell c v
 free:H X.env.locals=none
 freeC:∀x c,X.env.cells.lookup x=some c->H c=none
 pin:∀p∈X.pn++pins,s.heap.get? p.1=some p.2/\H p.1=none/\p.1≠X.env.locals/\p.1∉X.fs/\∀v,p.2.data≠.cell v
 hok:HOk X.prog X.w H s.heap
 len:σ.length=X.N.length
def Cx.Ok.nofr {X:Cx}(ok:X.Ok) (e:X.base.get? b=some o):b∉X.fs:=λI=>by
 have:=(ok.funs.mem I).1
 rw[e]at this;cases this
def Inv.bs (I:Inv X pins σ H s):∀b o,X.base.get? b=some o->s.heap.get? b=some o/\H b=none:=λb o e=>
 ⟨I.base.keep b o (I.ok.bs b o e).1 (I.ok.bs b o e).2 (I.ok.nofr e) (I.ok.noex b o e),I.base.free b o (I.ok.bs b o e).1 (I.ok.bs b o e).2 (I.ok.noex b o e)⟩
def Inv.bk (I:Inv X pins σ H s):∀b o,X.base.get? b=some o->s.heap.get? b=some o:=λb o e=>(I.bs b o e).1
def Inv.mod (I:Inv X pins σ H s):Mod X.K X.mg X.base:=I.ok.mod
def Inv.kIn (I:Inv X pins σ H s):X.K.In s.heap:=I.ok.mod.kin.keeps I.bk
def Inv.fr (I:Inv X pins σ H s):∃m,Fr X.base X.env.locals s.heap m:=
 let ⟨m,hn,_⟩:=I.loc
 ⟨m,hn,I.bk,qD9 I.ok.bsz I.ok.above⟩
def Inv.lt (I:Inv X pins σ H s):X.env.locals<s.heap.objs.size:=let ⟨_,hn,_⟩:=I.loc;hn.lt
def Inv.sz (I:Inv X pins σ H s):X.s₀.heap.objs.size<=s.heap.objs.size:=qD9 I.ok.above (qO9 I.lt)
def Inv.nofs (I:Inv X pins σ H s){a:Addr}(h:s.heap.objs.size<=a):a∉X.fs:=λhb=>by
 obtain ⟨_,o,O,_⟩:=I.ok.funs.mem hb;show absurd (qC6 (qC7 O) (qD9 I.sz h)) (qG7 _)
def Inv.cne (I:Inv X pins σ H s):∀x c,X.env.cells.lookup x=some c->c≠X.env.locals:=λx c e z=>by
 obtain ⟨v,o,ho,hd⟩:=I.cell x c e;obtain ⟨m,⟨o',es,ep,a3,O,_⟩,_⟩:=I.loc;rw[z,a3]at ho;cases ho;rw[O]at hd;cases hd
def Inv.funs (I:Inv X pins σ H s):s.heap.FunFrames X.base X.outer:=by
 have all:∀(l:List Env),(∀b∈frs l,b∈X.fs)->X.s₀.heap.FunFrames X.base l->s.heap.FunFrames X.base l:=by
  intro l
  induction l with
  |nil=>intro _ _;trivial
  | cons env r ih=>
   intro hs hl;obtain ⟨hk,⟨L,o,O,hn,ho,hd⟩,hr⟩:=hl;have hL:L∈X.fs:=hs L (by unfold frs;rw[qE9,O];show qA2);obtain ⟨sl,e⟩:=I.base.slot L o ho (I.ok.frf L hL) hL λz=>I.ok.exfs L z hL;show ⟨hk,⟨L,_,O,hn,e,hd⟩,ih (λb hb=>hs b (by unfold frs;rw[qE9,O];show qA4 _ hb)) hr⟩
 show all X.outer (λ_ hb=>hb) I.ok.funs
def Inv.stack (I:Inv X pins σ H s):s.heap.FunFrames X.base X.stack:=by
 rcases I.ok.stk with e|⟨e,hf⟩
 .rw[e];show I.funs
 .rw [e]
  obtain ⟨m,hn,_⟩:=I.loc;refine .cons (by rw[I.ok.kind];decide) hf hn ?_ I.funs;show Heap.get?_none_of_le (qD9 I.ok.bsz I.ok.above)
def Inv.stkSub (I:Inv X pins σ H s):∀b∈frs X.stack,b∈X.env.locals::X.fs:=λb O=>by
 rcases I.ok.stk with e|⟨e,hf⟩
 .rw[e]at O;show qA4 _ O
 .rw [e]at O
  unfold frs at O;rw[qE9,hf]at O;show O
def Inv.stkFree (I:Inv X pins σ H s):∀b∈frs X.stack,H b=none:=λb O=>by
 rcases qA7.mp (I.stkSub b O) with e|O
 .rw[e];show I.free
 .obtain ⟨_,o,ho,_⟩:=I.ok.funs.mem O;show I.base.free b o ho (I.ok.frf b O) λz=>I.ok.exfs b z O
def Inv.step {ch:List Addr}(I:Inv X pins σ H s) (a3:∀b∈ch,(b∈X.ex\/X.s₀.heap.objs.size<=b)/\b≠X.env.locals/\(∀x c,X.env.cells.lookup x=some c->c≠b)/\∀p∈X.pn++pins,p.1≠b) (keep:∀b o,b≠X.env.locals->b∉X.fs->b∉ch->s.heap.get? b=some o->H b=none->h'.get? b=some o) (slot:∀b o,b≠X.env.locals->b∈X.fs->b∉ch->s.heap.get? b=some o->H b=none->∃sl,h'.get? b=some { o with slots:=sl }) (free:∀b o,b∉ch->s.heap.get? b=some o->H b=none->H' b=none) (there:∀b o,b∉ch->s.heap.get? b=some o->∃o',h'.get? b=some o') (tups:∀b xs,H b=some (.tup xs)->H' b=some (.tup xs)) (frzs:∀b o u,H b=some (.frz o u)->H' b=some (.frz o u)) (tbls:∀b ps,H b=some (.tbl ps)->∃more,H' b=some (.tbl (ps++more))) (ns:∀m,s.heap.Ns X.env.locals m->h'.Ns X.env.locals m) (hok:HOk X.prog X.w H' h') (hg:AllBare g'):
  Inv X pins σ H' { s with heap:=h',gens:=g',drawn:=d',toks:=t' }:=by
 have b0:∀b o,X.s₀.heap.get? b=some o->b≠X.env.locals:=λb o e=>qE7 (qC6 (qC7 e) I.ok.above);have ae:∀b o,X.s₀.heap.get? b=some o->b∉X.ex->b∉ch:=λb o e O hb=>by
  rcases (a3 b hb).1 with z|z
  .show O z
  .show absurd (qC6 (qC7 e) z) (qG7 _)
 have cellK:∀x c,X.env.cells.lookup x=some c->∀v,s.heap.IsCell c v->h'.IsCell c v:=λx c e v b4=>by
  obtain ⟨o,ho,hd⟩:=b4;have a4:c∉ch:=λz=>(a3 c z).2.2.1 x c e rfl;by_cases hc:c∈X.fs
  .obtain ⟨sl,q⟩:=slot c o (I.cne x c e) hc a4 ho (I.freeC x c e);show ⟨_,q,hd⟩
  .show ⟨o,keep c o (I.cne x c e) hc a4 ho (I.freeC x c e),hd⟩
 refine ⟨I.ok,I.os,hg,⟨λb o e n hb O=>?_,λb o e n hb O=>?_,λb o e n O=>?_,λb o e O=>?_,λb xs e=>tups b xs (I.base.tups b xs e),λb o xs e=>frzs b o xs (I.base.frzs b o xs e),λb ps e=>?_⟩,?_,λx c e=>?_,?_,λx c e=>?_,λp hp=>?_,hok,I.len⟩
 .show keep b o (b0 b o e) hb (ae b o e O) (I.base.keep b o e n hb O) (I.base.free b o e n O)
 .obtain ⟨sl,e1⟩:=I.base.slot b o e n hb O;obtain ⟨b3,e2⟩:=slot b _ (b0 b o e) hb (ae b o e O) e1 (I.base.free b o e n O);show ⟨b3,e2⟩
 .obtain ⟨o',e1⟩:=I.base.there b o e O;show free b o' (ae b o e O) e1 (I.base.free b o e n O)
 .obtain ⟨o',e1⟩:=I.base.there b o e O;show there b o' (ae b o e O) e1
 .obtain ⟨m1,e1⟩:=I.base.tbls b ps e;obtain ⟨m2,e2⟩:=tbls b _ e1;show ⟨m1++m2,by rw[e2,Array.append_assoc]⟩
 .obtain ⟨m,hn,hl⟩:=I.loc;refine ⟨m,ns m hn,λi x v e1 e2 e3=>?_⟩;obtain ⟨u,r,l⟩:=hl i x v e1 e2 e3;refine ⟨u,r,?_⟩;rcases l with l|⟨k,c,e,z⟩
  .show .inl l
  .show .inr ⟨k,c,e,cellK x c e _ z⟩
 .obtain ⟨v,z⟩:=I.cell x c e;show ⟨v,cellK x c e v z⟩
 .obtain ⟨m,⟨o,_,_,ho,_⟩,_⟩:=I.loc;show free _ o (λz=>(a3 _ z).2.1 rfl) ho I.free
 .obtain ⟨v,o,ho,hd⟩:=I.cell x c e;show free c o (λz=>(a3 c z).2.2.1 x c e rfl) ho (I.freeC x c e)
 .obtain ⟨e,n,ne,nf,d⟩:=I.pin p hp;have a4:p.1∉ch:=λz=>(a3 p.1 z).2.2.2 p hp rfl;show ⟨keep p.1 p.2 ne nf a4 e n,free p.1 p.2 a4 e n,ne,nf,d⟩
def Inv.un (I:Inv X pins σ H s) (u:Un X.fs [] H H' s.heap h') (hok:HOk X.prog X.w H' h'):Inv X pins σ H' { s with heap:=h',toks:=t' }:=by
 obtain ⟨m,⟨o,es,ep,ho,r⟩,_⟩:=id I.loc;obtain ⟨sl,hL⟩:=u.any ho I.free Qj;show I.step (g':=s.gens) (d':=s.drawn) (ch:=[]) (λ_ z=>nomatch z) (λb o _ hb _ e n=>u.keep b o e n hb Qj) (λb o _ hb _ e n=>u.slot b o e n hb Qj) (λb o _ e n=>u.free b o e n Qj) (λb o _ e=>u.there b o e Qj) u.tups u.frzs u.tbls (λm' hm=>by
  obtain ⟨o',a3,a4,O,r'⟩:=hm;rw[ho]at O;cases O;show ⟨_,a3,a4,hL,r'⟩) hok I.bare
def Inv.call (I:Inv X pins σ H s) (u:Un (frs X.stack) ch H H' s.heap h') (hok:HOk X.prog X.w H' h') (hg:AllBare g') (a3:∀b∈ch,(b∈X.ex\/X.s₀.heap.objs.size<=b)/\b≠X.env.locals/\(∀x c,X.env.cells.lookup x=some c->c≠b)/\∀p∈X.pn++pins,p.1≠b):
  Inv X pins σ H' { s with heap:=h',gens:=g',drawn:=d',toks:=t' }:=by
 obtain ⟨m,⟨o,es,ep,ho,r⟩,_⟩:=id I.loc;obtain ⟨sl,hL⟩:=u.any ho I.free λz=>(a3 _ z).2.1 rfl;show I.step (ch:=ch) a3 (λb o hL hb hc e n=>u.keep b o e n (λz=>(qA7.mp (I.stkSub b z)).elim hL hb) hc) (λb o _ _ hc e n=>u.any e n hc) (λb o hc e n=>u.free b o e n hc) (λb o hc e=>u.there b o e hc) u.tups u.frzs u.tbls (λm' hm=>by
  obtain ⟨o',a4,ae,O,r'⟩:=hm;rw[ho]at O;cases O;show ⟨_,a4,ae,hL,r'⟩) hok hg
def Inv.turned (I:Inv X pins σ H s) (k:∀b o,b≠it->s.heap.get? b=some o->h'.get? b=some o) (hn:H it=none) (hL:it≠X.env.locals) (h1:it∈X.ex\/X.s₀.heap.objs.size<=it) (h2:∀x c,X.env.cells.lookup x=some c->c≠it) (h3:∀p∈X.pn++pins,p.1≠it):Inv X pins σ H { s with heap:=h',toks:=t' }:=by
 have O:∀b u,H b=some u->b≠it:=λb u e z=>by rw[z,hn]at e;cases e
 refine I.step (g':=s.gens) (d':=s.drawn) (ch:=[it]) (λb hb=>?_) (λb o _ _ hc e _=>k b o (λz=>hc (by simp [z])) e) (λb o _ _ hc e _=>⟨o.slots,k b o (λz=>hc (by simp [z])) e⟩) (λ_ _ _ _ n=>n)
  (λb o hc e=>⟨o,k b o (λz=>hc (by simp [z])) e⟩) (λ_ _ e=>e) (λ_ _ _ e=>e) (λb ps e=>⟨#[],by rw[e];simp⟩) (λm hm=>?_) (λb u e=>?_) I.bare
 .have e:b=it:=by simpa using hb
  subst e;show ⟨h1,hL,h2,h3⟩
 .obtain ⟨o,es,ep,ho,r⟩:=hm;show ⟨o,es,ep,k _ o (Ne.symm hL) ho,r⟩
 .refine (I.hok b u e).stay (λc v hc q=>k c v ?_ q) (λ_ q=>q) λ_ _ q=>q;rcases hc with z|z
  .rw[z];show O b u e
  .show O c _ z
def Inv.tok (I:Inv X pins σ H s)(t:Nat):Inv X pins σ H { s with toks:=t }:=I.un (h':=s.heap) (t':=t) Un.refl I.hok
def Inv.kept (I:Inv X pins σ H s)(k:∀b u,s.heap.get? b=some u->h'.get? b=some u):Inv X pins σ H { s with heap:=h',toks:=t' }:=I.un (Un.kept k) (I.hok.kept k)
def Inv.laid {a:Addr}(I:Inv X pins σ H s) (k:∀b u,s.heap.get? b=some u->h'.get? b=some u) (hp:s.heap.objs.size<=a) (O:ObjOk X.prog X.w (upd H a o) h' a o):
  Inv X pins σ (upd H a o) { s with heap:=h',toks:=t' }:=I.un (Un.laid k hp (I.hok.fresh hp)) (I.hok.laid k hp O)
def Inv.write (I:Inv X pins σ H s)(mu:Mut (H x))(he:e=x\/H e=some (.own x))(k:∀b u,b≠e->s.heap.get? b=some u->h'.get? b=some u)(O:∃u,h'.get? e=some u)(a3:ObjOk X.prog X.w (upd H x o) h' x o):Inv X pins σ (upd H x o) { s with heap:=h',toks:=t' }:=I.un (Un.write mu he k O) (I.hok.write mu he k O a3)
def Inv.weak (I:Inv X pins σ H s) (hl:σ'.length=σ.length) (w:∀(i:Nat) v,σ'[i]?=some (some v)->σ[i]?=some (some v)):Inv X pins σ' H s:=
 ⟨I.ok,I.os,I.bare,I.base,let ⟨m,hn,hl'⟩:=I.loc;⟨m,hn,λi x v O e2 e3=>hl' i x v O (w i v e2) e3⟩,I.cell,I.free,I.freeC,I.pin,I.hok,hl.trans I.len⟩
def Inv.pins_of (I:Inv X pins σ H s) (h:∀p∈pins',s.heap.get? p.1=some p.2/\H p.1=none/\p.1≠X.env.locals/\p.1∉X.fs/\∀v,p.2.data≠.cell v):Inv X pins' σ H s:=
 ⟨I.ok,I.os,I.bare,I.base,I.loc,I.cell,I.free,I.freeC,λp O=>(qB7.mp O).elim (λz=>I.pin p (qE3 _ z)) (h p),I.hok,I.len⟩
def dl {N:Jk}(O:N.Nodup){i:Nat}(a:N[i]?=some x) (b:N[j]?=some x):i=j:=by
 obtain ⟨h1,I⟩:=qA5.mp a;obtain ⟨h2,e2⟩:=qA5.mp b;show (List.getElem_inj O).mp (I.trans e2.symm)
def fR (I:Inv X pins σ H s) (hN:X.N.Nodup) (hi:X.N[i]?=some x) (hx:Loc X.env.scope x) (r:RelV v u) (h:∀s',Inv X pins (σ.set i (some v)) H s'->(∃a,Heap.SameBut a s.heap s'.heap/\(a=X.env.locals\/X.env.cells.lookup x=some a))->Q () s') (hf:X.fn x=true\/X.env.scope.names.lookup x=some .local:=by first|show .inl rfl|show .inr rfl|assumption):wpAny M A (storeName X.env x u) Q E s:=by
 obtain ⟨m,hn,hl⟩:=id I.loc;have bc:(X.env.scope.kind == .class||(X.env.scope.kind == .module&&X.env.locals != X.env.globals))=false:=by rw[I.ok.kind];rfl
 have a4:i<σ.length:=by rw[I.len];show (qA5.mp hi).1
 have cne:=I.cne;have tracked:∀{a:Addr}{h':Heap},(∃o,s.heap.get? a=some o/\H a=none)->Heap.SameBut a s.heap h'->HOk X.prog X.w H h':=λ{a h'} ha O b ob e=>by
  obtain ⟨_,_,a3⟩:=ha;refine (I.hok b ob e).stay (λc w' hc q=>(O.2 c ?_).trans q) (λ_ q=>q) λ_ _ q=>q;rintro rfl;rcases hc with rfl|hc
  .rw[a3]at e;cases e
  .rw[a3]at hc;cases hc
 rcases hx with hk|hk
 .refine wpAny_storeName_local hk hn (λh' bf O=>?_) bc;obtain ⟨oL,_,_,c1,_⟩:=id hn;refine h _ ⟨I.ok,I.os,I.bare,⟨λb o e n hb hx=>?_,λb o e n hb hx=>?_,I.base.free,λb o e hx=>?_,I.base.tups,I.base.frzs,I.base.tbls⟩,⟨_,bf,λj y v' e1 e2 e3=>?_⟩,λy c e=>?_,I.free,I.freeC,λp hp=>?_,tracked ⟨oL,c1,I.free⟩ O,by simpa using I.len⟩ ⟨_,O,.inl rfl⟩
  .show (O.2 b (qE7 (qC6 (qC7 e) I.ok.above))).trans (I.base.keep b o e n hb hx)
  .obtain ⟨sl,e1⟩:=I.base.slot b o e n hb hx;show ⟨sl,(O.2 b (qE7 (qC6 (qC7 e) I.ok.above))).trans e1⟩
  .obtain ⟨o',e1⟩:=I.base.there b o e hx;show ⟨o',(O.2 b (qE7 (qC6 (qC7 e) I.ok.above))).trans e1⟩
  .by_cases hj:j=i
   .subst hj;rw[hi]at e1;cases e1;rw[qE0 a4]at e2;cases e2;show ⟨u,r,.inl ⟨hk,Qj⟩⟩
   .rw [qB0 (Ne.symm hj)]at e2
    obtain ⟨u',r',q⟩:=hl j y v' e1 e2 e3;refine ⟨u',r',?_⟩;rcases q with ⟨k,e⟩|⟨k,c,e,z⟩
    .refine .inl ⟨k,?_⟩
     have:y≠x:=λe=>hj (dl hN e1 (e ▸ hi))
     simp [this,e]
    .show .inr ⟨k,c,e,z.sameBut O (cne y c e)⟩
  .obtain ⟨w',z⟩:=I.cell y c e;show ⟨w',z.sameBut O (cne y c e)⟩
  .obtain ⟨e,n,ne,nf,d⟩:=I.pin p hp;show ⟨(O.2 p.1 ne).trans e,n,ne,nf,d⟩
 .have ae:X.fn x=true:=by
   rcases hf with z|z
   .show z
   .rw[z]at hk;cases hk
  obtain ⟨c,hc⟩:=I.ok.has x (.inl hk);obtain ⟨w',z⟩:=I.cell x c hc;refine wpAny_storeName_cell I.ok.kind hk hc z (λh' b5 O=>?_);obtain ⟨oc,b4,b0⟩:=id z;refine h { s with heap:=h' } ⟨I.ok,I.os,I.bare,⟨λb o e n hb hx=>?_,λb o e n hb hx=>?_,I.base.free,λb o e hx=>?_,I.base.tups,I.base.frzs,I.base.tbls⟩,⟨m,hn.sameBut O (Ne.symm (cne x c hc)),λj y v' e1 e2 e3=>?_⟩,λy c' e=>?_,I.free,I.freeC,λp hp=>?_,tracked ⟨oc,b4,I.freeC x c hc⟩ O,by simpa using I.len⟩ ⟨c,O,.inr hc⟩
  .show (O.2 b (qE7 (qC6 (qC7 e) (I.ok.cab x c ae hc)))).trans (I.base.keep b o e n hb hx)
  .obtain ⟨sl,e1⟩:=I.base.slot b o e n hb hx;show ⟨sl,(O.2 b (qE7 (qC6 (qC7 e) (I.ok.cab x c ae hc)))).trans e1⟩
  .obtain ⟨o',e1⟩:=I.base.there b o e hx;show ⟨o',(O.2 b (qE7 (qC6 (qC7 e) (I.ok.cab x c ae hc)))).trans e1⟩
  .by_cases hj:j=i
   .subst hj;rw[hi]at e1;cases e1;rw[qE0 a4]at e2;cases e2;show ⟨u,r,.inr ⟨.inl hk,c,hc,b5⟩⟩
   .rw [qB0 (Ne.symm hj)]at e2
    obtain ⟨u',r',q⟩:=hl j y v' e1 e2 e3;refine ⟨u',r',?_⟩;rcases q with q|⟨k,c',e,z'⟩
    .show .inl q
    .refine .inr ⟨k,c',e,z'.sameBut O ?_⟩;rintro rfl;show hj (dl hN e1 (I.ok.inj _ _ _ e hc ▸ hi))
  .by_cases b3:c'=c
   .subst b3;show ⟨_,b5⟩
   .obtain ⟨w2,z2⟩:=I.cell y c' e;show ⟨w2,z2.sameBut O b3⟩
  .obtain ⟨e,n,ne,nf,d⟩:=I.pin p hp;refine ⟨(O.2 p.1 ?_).trans e,n,ne,nf,d⟩;intro q;rw[q,b4]at e;have q':oc=p.2:=Option.some.inj e;show d w' (by rw[<- q'];show b0)
def aX (I:Inv X pins σ H s) (hN:X.N.Nodup) (hi:X.N[i]?=some x) (hx:Loc X.env.scope x) (r:RelV v u) (h:∀s',Inv X pins (σ.set i (some v)) H s'->Q () s') (hf:X.fn x=true\/X.env.scope.names.lookup x=some .local:=by first|show .inl rfl|show .inr rfl|assumption):wpAny M A (storeName X.env x u) Q E s:=
 fR I hN hi hx r (λs' O _=>h s' O) hf
def Inv.call' (I:Inv X pins σ H s) (ho:s'.os=s.os) (u:Un (frs X.stack) ch H H' s.heap s'.heap) (hok:HOk X.prog X.w H' s'.heap) (hg:AllBare s'.gens) (O:∀b∈ch,(b∈X.ex\/X.s₀.heap.objs.size<=b)/\b≠X.env.locals/\(∀x c,X.env.cells.lookup x=some c->c≠b)/\∀p∈X.pn++pins,p.1≠b):Inv X pins σ H' s':=by
 obtain ⟨h',g',d',t',o'⟩:=s';have e:o'=s.os:=ho;subst e;show I.call (g':=g') (t':=t') (d':=d') u hok hg O
abbrev XK:=Value->Option Addr->Hp->Prop
abbrev St:=List (Option V)
abbrev VK:=V->Hp->Prop
abbrev TE:=St->Hp->VK->Prop
abbrev TT:=St->Hp->(Bool->Hp->Prop)->Prop
abbrev TA:=St->Hp->(List V->Hp->Prop)->Prop
structure Ends where
 nx:St->Hp->Prop
 rt:VK
 bk:St->Hp->Prop:=λ_ _=>False
 ct:St->Hp->Prop:=λ_ _=>False
abbrev TS:=Ends->St->Hp->Prop
def EP (X:Cx)(pins:Jq)(σ:St)(Q:VK)(u:Value)(s':Shared):Prop:=∃v H',Inv X pins σ H' s'/\RelV v u/\Q v H'
def TP (X:Cx)(pins:Jq)(σ:St)(Q:Bool->Hp->Prop)(b:Bool)(s':Shared):Prop:=∃H',Inv X pins σ H' s'/\Q b H'
def AP (X:Cx)(pins:Jq)(σ:St)(Q:List V->Hp->Prop)(us:Jw)(s':Shared):Prop:=∃vs H',Inv X pins σ H' s'/\Vals vs us/\Q vs H'
def SP (X:Cx) (pins:Jq) (D:Ends) (f:Flow) (s':Shared):Prop:=
 match f with
 | .next=>∃I H',Inv X pins I H' s'/\D.nx I H'
 | .brk=>∃I H',Inv X pins I H' s'/\D.bk I H'
 | .cont=>∃I H',Inv X pins I H' s'/\D.ct I H'
 | .ret u=>∃v I H',Inv X pins I H' s'/\RelV v u/\D.rt v H'
def PE (X:Cx) (e:Expr) (t:TE):Prop:=
 ∀(pins:Jq) (s:Shared) (σ:St) (H:Hp) (Q:VK),Inv X pins σ H s->t σ H Q->wpAny (model X.prog X.w) X.A (eval e X.env) (EP X pins σ Q) X.xe s
def PT (X:Cx) (e:Expr) (t:TT):Prop:=
 ∀(pins:Jq) (s:Shared) (σ:St) (H:Hp) (Q:Bool->Hp->Prop),Inv X pins σ H s->t σ H Q->wpAny (model X.prog X.w) X.A (isTrue e X.env (eval e X.env)) (TP X pins σ Q) X.xe s
def PW (X:Cx) (e:Expr) (t:TT):Prop:=
 ∀(whole:Sem Value) (pins:Jq) (s:Shared) (σ:St) (H:Hp) (Q:Bool->Hp->Prop),Inv X pins σ H s->t σ H Q->wpAny (model X.prog X.w) X.A (isTrue e X.env whole) (TP X pins σ Q) X.xe s
def PW.pt (h:PW X e t):PT X e t:=h _
def PA (X:Cx) (es:Jx) (t:TA):Prop:=
 ∀(pos:Pos) (pins:Jq) (s:Shared) (σ:St) (H:Hp) (Q:List V->Hp->Prop),Inv X pins σ H s->t σ H Q->wpAny (model X.prog X.w) X.A (spliced (backTo pos (starEach es X.env))) (AP X pins σ Q) X.xe s
def PS (X:Cx) (st:Stmt) (t:TS):Prop:=
 ∀(pins:Jq) (s:Shared) (σ:St) (H:Hp) (D:Ends),Inv X pins σ H s->t D σ H->wpAny (model X.prog X.w) X.A (exec st X.env) (SP X pins D) X.xe s
def PSs (X:Cx) (st:Jo) (t:TS):Prop:=
 ∀(pins:Jq) (s:Shared) (σ:St) (H:Hp) (D:Ends),Inv X pins σ H s->t D σ H->wpAny (model X.prog X.w) X.A (execs st X.env) (SP X pins D) X.xe s
def thn {t:Sem α}(h:wpAny M A t Q E s)(I:∀a s,Q a s->Q' a s):wpAny M A t Q' E s:=qM3 h I λ_ _ x=>x
def m9 (i:Nat):TE:=λσ H Q=>∃v,σ[i]?=some (some v)/\Q v H
def tC (v:V):TE:=λ_ H Q=>Q v H
def t8 {X:Cx}{i:Nat}{x:Str}{pos:Pos}(hN:X.N[i]?=some x) (hv:Vis X.env.scope x) (hd:(x == ("__debug__" : Str))=false:=by decide) (a3:(x == ("__classdict__" : Str))=false:=by decide):PE X (.Name x pos) (m9 i):=by
 intro pins s σ H Q I h;obtain ⟨v,e,h⟩:=h;obtain ⟨m,hn,hl⟩:=I.loc;obtain ⟨u,r,l⟩:=hl i x v hN e hv;have O:EP X pins σ Q u s:=⟨v,H,I,r,h⟩;rcases l with ⟨hk,hm⟩|⟨hk,c,hc,hcell⟩
 .show qP0 (wpAny_loadName_local I.ok.kind hk hn hm O) hd
 .rcases hk with hk|hk
  .show qP0 (wpAny_loadName_cell I.ok.kind hk hc hcell O) hd
  .show qP0 (wpAny_loadName_free I.ok.kind hk hc hcell O a3) hd
def pe_int {i j pos}:PE X (.Constant (.int i) j pos) (tC (.int i)):=λ_ _ _ H _ I h=>wpAny_Constant_int ⟨.int i,H,I.tok _,⟨_,rfl⟩,h⟩
def pe_bl {b j pos}:PE X (.Constant (.bool b) j pos) (tC (.bl b)):=λ_ _ _ H _ I h=>Constant_bool ⟨.bl b,H,I,rfl,h⟩
def pe_non {j pos}:PE X (.Constant .none j pos) (tC .non):=λ_ _ _ H _ I h=>Constant_none ⟨.non,H,I,rfl,h⟩
def pe_str {x j pos}:PE X (.Constant (.str x) j pos) (tC (.str x)):=λ_ _ _ H _ I h=>qJ5 ⟨.str x,H,I.tok _,⟨_,rfl⟩,h⟩
def Gl (X:Cx)(x:Str):Prop:=X.env.kindOf x=some .globalImplicit
def aL {X:Cx}{E:Jp}{pins:Jq}{s:Shared}{σ:St}{H:Hp}{x:Str}{u:Value}{pos:Pos}{Q:Jp}(I:Inv X pins σ H s) (O:Gl X x) (hm:X.mg x=some u) (h:Q u s) (hd:(x == ("__debug__" : Str))=false:=by decide):wpAny (model X.prog X.w) X.A (eval (.Name x pos) X.env) Q E s:=
 Calls.Name_function_global I.ok.kind O (Calls.loadGlobal_global (by rw[I.ok.glob];show I.mod.glob.keeps I.bk) hm h) hd
def Y4 {X:Cx}{E:Jp}{pins:Jq}{s:Shared}{σ:St}{H:Hp}{x:Str}{u:Value}{pos:Pos}{Q:Jp}(I:Inv X pins σ H s) (hg:Gl X x) (hm:X.mg x=none) (O:bootBuiltins x=some u) (h:Q u s) (hn:x ≠ "__name__" := by decide) (hd:(x == ("__debug__" : Str))=false:=by decide):wpAny (model X.prog X.w) X.A (eval (.Name x pos) X.env) Q E s:=by
 obtain ⟨mb,h1,h2⟩:=I.mod.blt;show Calls.Name_function_global I.ok.kind hg (Calls.loadGlobal_builtin (by rw[I.ok.glob];show I.mod.glob.keeps I.bk) hm (by rw[I.ok.blt];show h1.keeps I.bk) ((h2 x hn).trans O) h) hd
def cG (O:Gl X x) (hm:X.mg x=some u) (r:RelV v u) (hd:(x == ("__debug__" : Str))=false:=by decide):PE X (.Name x pos) (tC v):=
 λ_ _ _ H _ I h=>aL I O hm ⟨v,H,I,r,h⟩ hd
def wT {X:Cx}{x:Str}{v:V}{u:Value}{pos:Pos}(hg:Gl X x) (hm:X.mg x=none) (O:bootBuiltins x=some u) (r:RelV v u) (hn:x ≠ "__name__" := by decide) (hd:(x == ("__debug__" : Str))=false:=by decide):PE X (.Name x pos) (tC v):=
 λ_ _ _ H _ I h=>Y4 I hg hm O ⟨v,H,I,r,h⟩ hn hd
def PC (X:Cx) (op:CmpOp) (a b:Expr) (t:TE):Prop:=
 ∀ (pins:Jq) (s:Shared) (σ:St) (H:Hp) (Q:VK),Inv X pins σ H s->t σ H Q ->
  wpAny (model X.prog X.w) X.A (eval a X.env) (λv O=>wpAny (model X.prog X.w) X.A (eval b X.env) (λu I=>wpAny (model X.prog X.w) X.A (compareOp op v u) (EP X pins σ Q) X.xe I) X.xe O) X.xe s
def sO (b:Expr) (h:op≠.In) (h2:op≠.NotIn):behindInMarks op b=false:=by
 have I:(op == CmpOp.In)=false:=by cases op <;> first|rfl|show absurd rfl h
 have O:(op == CmpOp.NotIn)=false:=by cases op <;> first|rfl|show absurd rfl h2
 cases b <;> simp [behindInMarks,I,O]
def tB (t:TE):TT:=λσ H Q=>t σ H λx H1=>∃c,x=.bl c/\Q c H1
def oD (h:PC X op a b t) (h1:behindInMarks op b=false:=by first|show sO _ Qy Qy|rfl):PT X (.Compare a [op] [b] pos) (tB t):=by
 intro pins s σ H Q I hw;refine wpAny_isTrue_Compare1 (thn (h pins s σ H _ I hw) λv s1 h1=>thn h1 λu s2 h2=>thn h2 λc s3 O=>?_) h1;obtain ⟨x,H1,I1,r1,q1⟩:=O;obtain ⟨d,rfl,q⟩:=q1;cases r1;show qM1 ⟨H1,I1,q⟩
def AS (h:PE X e t) (he:∀whole,isTrue e X.env whole=(do let v <- whole;standAt e.pos;holding [v] (truthy v)):=by intro _;rfl):PT X e (tB t):=by
 intro pins s σ H Q I hw;refine isTrue_plain (thn (h pins s σ H _ I hw) λv s1 O=>?_) (he _);obtain ⟨x,H1,I1,r1,q1⟩:=O;obtain ⟨d,rfl,q⟩:=q1;cases r1;show qM1 ⟨H1,I1,q⟩
def zD (t u:TT):TT:=λσ H Q=>t σ H λc H1=>if c=true then u σ H1 Q else Q false H1
def tOr (t u:TT):TT:=λσ H Q=>t σ H λc H1=>if c=true then Q true H1 else u σ H1 Q
def zx (t:TT):TT:=λσ H Q=>t σ H λc H1=>Q (!c) H1
def wH (ha:PT X a tA):PW X (.BoolOp .And [a] pos) tA:=by
 intro O pins s σ H Q I h;refine isTrue_and (thn (ha pins s σ H Q I h) λc s1 e=>?_);cases c with
 |true=>show isTrue_and_nil e
 |false=>show e
def AQ (ha:PT X a tA):PW X (.BoolOp .Or [a] pos) tA:=by
 intro O pins s σ H Q I h;refine isTrue_or (thn (ha pins s σ H Q I h) λc s1 e=>?_);cases c with
 |false=>show isTrue_or_nil e
 |true=>show e
def AR {rest:Jx}(ha:PT X a tA) (hb:PW X (.BoolOp .And (b::rest) pos) tB'):PW X (.BoolOp .And (a::b::rest) pos) (zD tA tB'):=by
 intro wh pins s σ H Q I h;refine isTrue_and (thn (ha pins s σ H _ I h) λc s1 O=>?_);obtain ⟨H1,I1,q1⟩:=O;cases c with
 |true=>show hb wh pins s1 σ H1 Q I1 q1
 |false=>show ⟨H1,I1,q1⟩
def FO {rest:Jx}(ha:PT X a tA) (hb:PW X (.BoolOp .Or (b::rest) pos) tB'):PW X (.BoolOp .Or (a::b::rest) pos) (tOr tA tB'):=by
 intro wh pins s σ H Q I h;refine isTrue_or (thn (ha pins s σ H _ I h) λc s1 O=>?_);obtain ⟨H1,I1,q1⟩:=O;cases c with
 |true=>show ⟨H1,I1,q1⟩
 |false=>show hb wh pins s1 σ H1 Q I1 q1
def AT (ha:PT X a tA):PT X (.UnaryOp .Not a pos) (zx tA):=by
 intro pins s σ H Q I h;show isTrue_not (ha pins s σ H (λc H1=>Q (!c) H1) I h)
def uM (I tb:TE):TE:=λσ H Q=>I σ H λx H1=>∃c,x=.bl c/\if c=true then tb σ H1 Q else Q (.bl false) H1
def uL (I:TE):TE:=λσ H Q=>I σ H λx H1=>∃c,x=.bl c/\Q (.bl (!c)) H1
def Bc {op}(h:PE X a t):PE X (.BoolOp op [a] pos) t:=λpins s σ H Q I hw=>BoolOp_one (h pins s σ H Q I hw)
def Bf {rest:Jx}(ha:PE X a ta) (hb:PE X (.BoolOp .And (b::rest) pos) tb):PE X (.BoolOp .And (a::b::rest) pos) (uM ta tb):=by
 intro pins s σ H Q I h;refine BoolOp_and (thn (ha pins s σ H _ I h) λv s1 a3=>?_);obtain ⟨x,H1,I1,r1,O⟩:=a3;obtain ⟨c,rfl,O⟩:=O;cases r1;refine qM1 ?_;cases c with
 |true=>show hb pins s1 σ H1 Q I1 O
 |false=>show ⟨.bl false,H1,I1,rfl,O⟩
def Bd (ha:PE X a ta):PE X (.UnaryOp .Not a pos) (uL ta):=by
 intro pins s σ H Q I h;refine UnaryOp_ (thn (ha pins s σ H _ I h) λv s1 O=>?_);obtain ⟨x,H1,I1,r1,q1⟩:=O;obtain ⟨c,rfl,q1⟩:=q1;cases r1;show not_of (qM1 ⟨.bl (!c),H1,I1,rfl,q1⟩)
def tIf (t:TT)(I tb:TE):TE:=λσ H Q=>t σ H λc H1=>if c=true then I σ H1 Q else tb σ H1 Q
def sC (hc:PT X c tA) (ha:PE X a ta) (hb:PE X b tb):PE X (.IfExp c a b pos) (tIf tA ta tb):=by
 intro pins s σ H Q I h;refine wpAny_IfExp (thn (hc pins s σ H _ I h) λd s1 O=>?_);obtain ⟨H1,I1,q1⟩:=O;cases d with
 |true=>show ha pins s1 σ H1 Q I1 q1
 |false=>show hb pins s1 σ H1 Q I1 q1
def SqL (K:Frag) (H:Hp) (a:Addr) (xs:List V):Prop:=
 Rd H a (.lst xs) \/
  ∃(o:Obj) (its:Jy) (n:Nat),K.lookup a=some o/\o.cls=.type "list" /\ o.dict=none/\o.data=.seq its n/\its.size<=sizeLine/\Vals xs its.toList
def SqT (K:Frag) (H:Hp) (a:Addr) (xs:List V):Prop:=
 Rd H a (.tup xs) \/
  ∃(o:Obj) (its:Jy) (n:Nat),K.lookup a=some o/\o.cls=.type "tuple" /\ o.data=.seq its n/\its.size<=sizeLine/\Vals xs its.toList
def absV:Value->Option V
 | .none=>some .non
 | .bool b=>some (.bl b)
 | .int i _=>some (.int i)
 | .str x _=>some (.str x)
 | .bytes b _=>some (.byt b)
 | .float b _=>some (.flt b)
 | .ref a=>some (.ref a)
 | .type n=>some (.ty n)
 |_=>none
def RelV.abs (r:RelV x u):absV u=some x:=by
 cases x with
 |non=>cases r;rfl
 |bl _=>cases r;rfl
 |int _=>obtain ⟨t,rfl⟩:=r;rfl
 |str _=>obtain ⟨t,rfl⟩:=r;rfl
 |byt _=>obtain ⟨t,rfl⟩:=r;rfl
 |flt _=>obtain ⟨t,rfl⟩:=r;rfl
 |ref _=>cases r;rfl
 |ty _=>cases r;rfl
def RelV.inj (r:RelV x u)(q:RelV y u):x=y:=Option.some.inj (r.abs.symm.trans q.abs)
def Vals.inj:∀{xs ys:List V}{us:Jw},Vals xs us->Vals ys us->xs=ys:=by
 intro xs ys us a
 induction a generalizing ys with
 |nil=>intro b;cases b;rfl
 | cons r t O=>
  intro b;cases b with
  |cons I t'=>rw[r.inj I,O t']
def SqL.of {K:Frag}(h:H a=some (.lst xs)):SqL K H a xs:=.inl (.inl h)
def SqT.of {K:Frag}(h:H a=some (.tup xs)):SqT K H a xs:=.inl (.inl h)
def Inv.list {σ:St}(I:Inv X pins σ H s) (h:SqL X.K H a xs):∃its:List Value,Vals xs its/\PlainL s.heap a its.toArray/\xs.length<=sizeLine:=by
 rcases h with h|⟨o,its,n,hk,hc,hd,hs,hz,r⟩
 .obtain ⟨z,its,n,r,e⟩:=h.ok I.hok;show ⟨its,r,⟨_,n,e,rfl,rfl,rfl⟩,z⟩
 .refine ⟨its.toList,r,⟨o,n,I.kIn a o hk,hc,hd,by simpa using hs⟩,?_⟩;have e:=r.length;simp only [qJ3]at e;omega
def Inv.tuple {σ:St}(I:Inv X pins σ H s) (h:SqT X.K H a xs):∃its:List Value,Vals xs its/\IsTup s.heap a its.toArray/\xs.length<=sizeLine:=by
 rcases h with h|⟨o,its,n,hk,hc,hs,hz,r⟩
 .obtain ⟨z,its,r,p⟩:=h.ok I.hok;show ⟨its,r,p,z⟩
 .refine ⟨its.toList,r,⟨o,I.kIn a o hk,hc,n,by simpa using hs⟩,?_⟩;have e:=r.length;simp only [qJ3]at e;omega
def Inv.list_inj {σ:St}(I:Inv X pins σ H s) (h:SqL X.K H a xs) (h':SqL X.K H a ys):xs=ys:=by
 obtain ⟨its,r,⟨o,n,e,_,_,d⟩,_⟩:=I.list h;obtain ⟨its',r',⟨o',n',O,_,_,d'⟩,_⟩:=I.list h';rw[e]at O;cases O;rw[d]at d';injection d' with d1 _
 have:its=its':=by simpa using congrArg Array.toList d1
 subst this;show r.inj r'
def Inv.tuple_inj {σ:St}(I:Inv X pins σ H s) (h:SqT X.K H a xs) (h':SqT X.K H a ys):xs=ys:=by
 obtain ⟨its,r,⟨o,e,_,n,d⟩,_⟩:=I.tuple h;obtain ⟨its',r',⟨o',O,_,n',d'⟩,_⟩:=I.tuple h';rw[e]at O;cases O;rw[d]at d';injection d' with d1 _
 have:its=its':=by simpa using congrArg Array.toList d1
 subst this;show r.inj r'
abbrev Cx.wish (X:Cx)(E:Jp):Cx:={ X with xe:=E }
abbrev Cx.nox (X:Cx):Cx:=X.wish λ_ _=>False
def Cx.Ok.wish {X:Cx}(ok:X.Ok) (E:Jp):(X.wish E).Ok:=
 ⟨ok.mod,ok.kind,ok.glob,ok.blt,ok.above,ok.inj,ok.has,ok.cab,ok.hd,ok.frames,ok.stk,ok.exf,ok.bs,ok.bsz,ok.noex,ok.exfs,ok.funs,ok.frf⟩
def Cx.Ok.unwish {X:Cx}(ok:(X.wish E).Ok):X.Ok:=
 ⟨ok.mod,ok.kind,ok.glob,ok.blt,ok.above,ok.inj,ok.has,ok.cab,ok.hd,ok.frames,ok.stk,ok.exf,ok.bs,ok.bsz,ok.noex,ok.exfs,ok.funs,ok.frf⟩
def Inv.wish {σ:St}(I:Inv X pins σ H s)(E:Jp):Inv (X.wish E) pins σ H s:=⟨I.ok.wish E,I.os,I.bare,I.base,I.loc,I.cell,I.free,I.freeC,I.pin,I.hok,I.len⟩
def Inv.unwish {σ:St}(I:Inv (X.wish E) pins σ H s):Inv X pins σ H s:=⟨I.ok.unwish,I.os,I.bare,I.base,I.loc,I.cell,I.free,I.freeC,I.pin,I.hok,I.len⟩
def SP.unwish (h:SP (X.wish E) pins D f s'):SP X pins D f s':=by
 cases f with
 |next=>obtain ⟨O,H',I,q⟩:=h;show ⟨O,H',I.unwish,q⟩
 |brk=>obtain ⟨O,H',I,q⟩:=h;show ⟨O,H',I.unwish,q⟩
 |cont=>obtain ⟨O,H',I,q⟩:=h;show ⟨O,H',I.unwish,q⟩
 |ret u=>obtain ⟨v,O,H',I,r,q⟩:=h;show ⟨v,O,H',I.unwish,r,q⟩
def PSs.nox {st:Jo}(h:PSs X.nox st t):PSs X st t:=λpins s σ H D I hw=>
 qM3 (h pins s σ H D (I.wish _) hw) (λ_ _ q=>q.unwish) λ_ _ z=>False.elim z
def tNext:TS:=λD σ H=>D.nx σ H
def lC (t u:TS):TS:=λD σ H=>t { D with nx:=u D } σ H
def pss_nil:PSs X [] tNext:=λ_ _ σ H _ I h=>qN3 ⟨σ,H,I,h⟩
def dk {st:Stmt}{rest:Jo}(h1:PS X st t) (h2:PSs X rest u):PSs X (st::rest) (lC t u):=by
 intro pins s σ H D I h;refine qR9 (thn (h1 pins s σ H { D with nx:=u D } I h) λf s1 q=>?_);cases f with
 | next=>
  obtain ⟨O,H',I',q⟩:=q;show h2 pins s1 O H' D I' q
 |ret v=>show q
 |brk=>show q
 |cont=>show q
def aE {st:Stmt}(h1:PS X st t):PSs X [st] t:=by
 intro pins s σ H D I h;refine qR9 (thn (h1 pins s σ H D I h) λf s1 q=>?_);cases f with
 |next=>show qN3 q
 |ret v=>show q
 |brk=>show q
 |cont=>show q
def Inv.quiet {σ:St}(I:Inv X pins σ H s):interactive X.env=false:=by simp [interactive,I.ok.kind]
def V5 (I:TE):TS:=λD σ H=>I σ H λ_ H1=>D.nx σ H1
def W7 (he:PE X e te) (hs:swapsWith e none pos.line X.env=pure false:=by rfl):PS X (.Expr e pos) (V5 te):=by
 intro pins s σ H D I h;show wpAny_Expr_any (thn (he pins s σ H _ I h) λv s1 O=>by obtain ⟨x,H1,I1,r1,q1⟩:=O;show ⟨σ,H1,I1,q1⟩) I.quiet hs
def lD (I:TE):TS:=λD σ H=>I σ H D.rt
def oE (he:PE X e te):PS X (.Return (some e) pos) (lD te):=by
 intro pins s σ H D I h;show wpAny_Return_some (thn (he pins s σ H _ I h) λv s1 O=>by obtain ⟨x,H1,I1,r1,q1⟩:=O;show ⟨x,σ,H1,I1,r1,q1⟩)
def eT (c:TT)(t u:TS):TS:=λD σ H=>c σ H λb H1=>if b=true then t D σ H1 else u D σ H1
def uY (hc:PT X c tc) (ha:PSs X a t) (hb:PSs X b u):PS X (.If c a b pos) (eT tc t u):=by
 intro pins s σ H D I h;refine wpAny_If (thn (hc pins s σ H _ I h) λd s1 O=>?_);obtain ⟨H1,I1,q1⟩:=O;cases d with
 |true=>show ha pins s1 σ H1 D I1 q1
 |false=>show hb pins s1 σ H1 D I1 q1
abbrev TG:=V->St->Hp->(St->Hp->Prop)->Prop
abbrev TGs:=List V->St->Hp->(St->Hp->Prop)->Prop
def PG (X:Cx) (target:Expr) (t:TG):Prop:=
 ∀ (pins:Jq) (s:Shared) (σ:St) (H:Hp) (v:V) (u:Value) (Q:St->Hp->Prop),Inv X pins σ H s->RelV v u->t v σ H Q ->
  wpAny (model X.prog X.w) X.A (assign target X.env u) (λ_ s'=>∃I H',Inv X pins I H' s'/\Q I H') X.xe s
def PGs (X:Cx) (ts:Jx) (t:TGs):Prop:=
 ∀ (pins:Jq) (s:Shared) (σ:St) (H:Hp) (vs:List V) (us:Jw) (Q:St->Hp->Prop),Inv X pins σ H s->Vals vs us->t vs σ H Q ->
  wpAny (model X.prog X.w) X.A (assignInOrder ((assignEach ts X.env).map (·.2)) us) (λ_ s'=>∃I H',Inv X pins I H' s'/\Q I H') X.xe s
abbrev TSet:=V->V->V->Hp->(Hp->Prop)->Prop
def P2 (i:Nat):TG:=λv σ H Q=>Q (σ.set i (some v)) H
def n6 {X:Cx}{pos:Pos}{i:Nat}{x:Str}(hN:X.N.Nodup) (hi:X.N[i]?=some x) (hx:Loc X.env.scope x) (O:X.fn x=true\/X.env.scope.names.lookup x=some .local:=by first|show .inl rfl|show .inr rfl|assumption):PG X (.Name x pos) (P2 i):=by
 intro pins s σ H v u Q I r h;show wpAny_assign_Name (aX I hN hi hx r (λs' I'=>⟨_,H,I',h⟩) O)
def gNil:TGs:=λvs σ H Q=>vs = []/\Q σ H
def vv (t:TG)(u:TGs):TGs:=λvs σ H Q=>∃v r,vs=v::r/\t v σ H λI H'=>u r I H' Q
def wN:PGs X [] gNil:=by
 intro pins s σ H vs us Q I r h;obtain ⟨e,h⟩:=h;subst e;cases r;show assignInOrder_nil ⟨σ,H,I,h⟩
def iB {X:Cx}{e:Expr}{es:Jx}{t:TG}{u:TGs}(h1:PG X e t) (h2:PGs X es u) (hs:(assignEach (e::es) X.env).map (·.2)=assign e X.env::(assignEach es X.env).map (·.2):=by rfl):PGs X (e::es) (vv t u):=by
 intro pins s σ H vs us Q I r h;obtain ⟨v,vr,e1,h⟩:=h;subst e1;cases r with
 | cons r rr=>
  rw[hs];refine assignInOrder_cons (thn (h1 pins s σ H _ _ _ I r h) λ_ s1 O=>?_);obtain ⟨a3,H1,I1,q1⟩:=O;show h2 pins s1 a3 H1 _ _ Q I1 rr q1
def tK (K:Frag)(n:Nat)(t:TGs):TG:=λv σ H Q=>∃a xs,v=.ref a/\SqT K H a xs/\xs.length=n/\t xs σ H Q
def Bb {X:Cx}{pos:Pos}{es:Jx}{k:Nat}{t:TGs}{n:Nat}(hc:X.calm=true) (h:PGs X es t) (hn:(assignEach es X.env).length=n:=by rfl) (O:(assignEach es X.env).findIdx? (·.1)=none:=by rfl):PG X (.Tuple es k pos) (tK X.K n t):=by
 intro pins s σ H v u Q I r hw;obtain ⟨a,xs,e1,hq,hl,hw⟩:=hw;subst e1;cases r;obtain ⟨its,rv,ht,hz⟩:=I.tuple hq;refine assign_Tuple_tuple (I.ok.hd hc) ht (by simp [hn,<- hl,rv.length]) O λh' hx=>?_;have I1:Inv X pins σ H { s with heap:=h' }:=I.kept (t':=s.toks) λb o e=>hx b o (qE7 (qC7 e)) e;show h pins _ σ H xs _ Q I1 (by simpa using rv) hw
def gSub (O ti:TE)(t:TSet):TG:=λv σ H Q=>O σ H λo H1=>ti σ H1 λi H2=>t o i v H2 λI=>Q σ I
def hX (I:TE)(g:TG):TS:=λD σ H=>I σ H λx H1=>g x σ H1 D.nx
def iz {X:Cx}{pos:Pos}{i:Nat}{x:Str}{e:Expr}{te:TE}{pos':Pos}(hN:X.N.Nodup) (hi:X.N[i]?=some x) (hx:Loc X.env.scope x) (he:PE X e te) (hs:swapsWith e (some (.Name x pos')) pos.line X.env=pure false:=by rfl) (hf:X.fn x=true\/X.env.scope.names.lookup x=some .local:=by first|show .inl rfl|show .inr rfl|assumption):
  PS X (.Assign [.Name x pos'] e pos) (hX te (P2 i)):=by
 intro pins s σ H D I h;refine wpAny_Assign_Name (thn (he pins s σ H _ I h) λv s1 O=>?_) hs;obtain ⟨y,H1,I1,r1,q1⟩:=O;show aX I1 hN hi hx r1 (λs2 I2=>⟨_,H1,I2,q1⟩) hf
structure It where
 go:Nat->Hp->Prop
 yld:Nat->Hp->V->Hp->Prop
 stop:Nat->Hp->Prop
def L6 (X:Cx) (pins:Jq) (H:Hp) (b:Addr):Prop:=
 H b=none/\b≠X.env.locals/\b∉X.fs/\(b∈X.ex\/X.s₀.heap.objs.size<=b)/\(∀x c,X.env.cells.lookup x=some c->c≠b)/\∀p∈X.pn++pins,p.1≠b
def Inv.fpOk {σ:St}{b:Addr}(I:Inv X pins σ H s) (O:s.heap.objs.size<=b) (hn:H' b=none):L6 X pins H' b:=by
 refine ⟨hn,qK9 (qC6 I.lt O),I.nofs O,.inr (qD9 I.sz O),λx c e z=>?_,λp hp z=>?_⟩
 .obtain ⟨v,q⟩:=I.cell x c e;show absurd (qC6 q.lt (by rw[z];show O)) (qG7 _)
 .show absurd (qC6 (qC7 (I.pin p hp).1) (by rw[z];show O)) (qG7 _)
structure Turn (P:Program) (w:World) (K:Frag) (tg:Expr) (J:It) (fp:List Addr) (it:Addr) (tn:Nat->Heap->Prop):Prop where
 mem:it∈fp
 obj:∀i h,tn i h->∀b∈fp,∃o,h.get? b=some o/\∀v,o.data≠.cell v
 keep:∀i h h',tn i h->(∀b∈fp,∀o,h.get? b=some o->h'.get? b=some o)->tn i h'
 item:∀(X:Cx),X.prog=P->X.w=w->X.K=K->X.calm=true->∀(i:Nat) (pins:Jq) (s:Shared) (σ:St) (H:Hp) (E:Jp),Inv X pins σ H s->(∀b∈fp,L6 X pins H b)->tn i s.heap->J.go i H ->
  wpAny (model P w) X.A (pyNext (.ref it)) (λr s1=>∃u,r=some u /\
   wpAny (model P w) X.A (letOwnedTupleGo tg (.ref it) u) (λ_ s2=>∃x H',Inv X pins σ H' s2/\RelV x u/\J.yld i H x H'/\tn (i+1) s2.heap/\∀b∈fp,H' b=none) E s1) E s
 done:∀(X:Cx),X.prog=P->X.w=w->X.K=K->X.calm=true->∀(i:Nat) (pins:Jq) (s:Shared) (σ:St) (H:Hp) (E:Jp),Inv X pins σ H s->(∀b∈fp,L6 X pins H b)->tn i s.heap->J.stop i H ->
  wpAny (model P w) X.A (pyNext (.ref it)) (λr s1=>r=none/\Inv X pins σ H s1) E s
 self:∀(A:Around) (i:Nat) (s:Shared) (Q:Jp) (E:Jp),tn i s.heap->Q (.ref it) s->wpAny (model P w) A (pyIter (.ref it)) Q E s
abbrev TI:=St->Hp->(It->Hp->Prop)->Prop
def PIE (X:Cx) (pins:Jq) (σ:St) (tg:Expr) (R:It->Hp->Prop) (I:Value) (s2:Shared):Prop:=
 ∃(it:Addr) (fp:List Addr) (tn:Nat->Heap->Prop) (J:It) (H':Hp),I=.ref it/\Inv X pins σ H' s2/\Turn X.prog X.w X.K tg J fp it tn/\tn 0 s2.heap/\(∀b∈fp,L6 X pins H' b)/\R J H'
def PI (X:Cx) (tg iter:Expr) (I:TI):Prop:=
 ∀ (pins:Jq) (s:Shared) (σ:St) (H:Hp) (R:It->Hp->Prop),Inv X pins σ H s->I σ H R ->
  wpAny (model X.prog X.w) X.A (eval iter X.env) (λv s1=>wpAny (model X.prog X.w) X.A (pyIter v) (PIE X pins σ tg R) X.xe s1) X.xe s
def cQ (O:s.heap.get? it=some o) (hc:o.cls=.type n) (hd:o.data=.fields vs) (hn:["enumerate","zip","dict_itemiterator","dict_reverseitemiterator","odict_iterator","itertools.zip_longest","itertools.pairwise"].contains n=false) (I:Q () s):wpAny M A (letOwnedTupleGo tg (.ref it) u) Q E s:=by
  unfold letOwnedTupleGo;cases tg <;> first
    |show qL7 I
    | (cases u <;> first
        |show qL7 I
        | (refine qA8 (wpAny_load O ?_)
           rw[hc,hd]
           change wpAny M A (if (["enumerate","zip","dict_itemiterator","dict_reverseitemiterator","odict_iterator","itertools.zip_longest","itertools.pairwise"].contains n&&vs[0]? == some (rawInt _))=true then _ else _) Q E s;rw[qB4 (by intro h;rw[hn,qL0]at h;cases h)];show qL7 I))
def Itl (K:Frag) (a:Addr):It:=
 ⟨λi H=>∃xs x,SqL K H a xs/\xs[i]?=some x,λi H x H'=>H'=H/\∀xs,SqL K H a xs->xs[i]?=some x,λi H=>∃xs,SqL K H a xs/\xs.length<=i⟩
def Itt (K:Frag) (a:Addr):It:=
 ⟨λi H=>∃xs x,SqT K H a xs/\xs[i]?=some x,λi H x H'=>H'=H/\∀xs,SqT K H a xs->xs[i]?=some x,λi H=>∃xs,SqT K H a xs/\xs.length<=i⟩
def Itr (lo:Int)(n:Nat):It:=⟨λi _=>i<n,λi H x H'=>H'=H/\x=.int (lo+i),λi _=>n<=i⟩
def nH {K:Frag}(a it:Addr):Turn P w K tg (Itl K a) [it] it (λi h=>h.IsListIter it a i) where
 mem:=Qj
 obj:=λi h st b O=>by
  have e:b=it:=by simpa using O
  subst e;obtain ⟨o,e,c,d⟩:=st;show ⟨o,e,λv z=>by rw[d]at z;cases z⟩
 keep:=λi h h' st k=>st.at λo e=>k it Qj o e
 item:=by
  intro X hP hw hK hc i pins s σ H E I hf st hg;subst hP hw hK;obtain ⟨xs,x,hq,hx⟩:=hg;obtain ⟨its,rv,p,hz⟩:=I.list hq;obtain ⟨u,hu,ru⟩:=rv.get hx;obtain ⟨f0,f1,f2,f3,f4,f5⟩:=hf it Qj;refine wpAny_pyNext_list_item st p.isList (x:=u) (by simpa using hu) λh' a3 sb=>?_;have I1:Inv X pins σ H { s with heap:=h' }:=I.turned (t':=s.toks) (λb o O e=>(sb.2 b O).trans e) f0 f1 f3 f4 f5;obtain ⟨o,e,c,d⟩:=id a3;show ⟨u,rfl,cQ (s:={ s with heap:=h' }) e c d Qy ⟨x,H,I1,ru,⟨rfl,λys hy=>by rw[I.list_inj hy hq];show hx⟩,a3,λb O=>(hf b O).1⟩⟩
 done:=by
  intro X hP hw hK hc i pins s σ H E I hf st hg;subst hP hw hK;obtain ⟨xs,hq,hx⟩:=hg;obtain ⟨its,rv,p,hz⟩:=I.list hq;obtain ⟨f0,f1,f2,f3,f4,f5⟩:=hf it Qj;have hl:=rv.length;show wpAny_pyNext_list_end (I.ok.hd hc) st p.isList (by simp;omega) λh' eb=>⟨rfl,I.turned (t':=s.toks) (λb o O e=>eb b o O e) f0 f1 f3 f4 f5⟩
 self:=λ_ _ _ _ _ st h=>wpAny_pyIter_listiter st h
def lw {K:Frag}(a it:Addr):Turn P w K tg (Itt K a) [it] it (λi h=>h.IsTupleIter it a i) where
 mem:=Qj
 obj:=λi h st b O=>by
  have e:b=it:=by simpa using O
  subst e;obtain ⟨o,e,c,d⟩:=st;show ⟨o,e,λv z=>by rw[d]at z;cases z⟩
 keep:=λi h h' st k=>st.at λo e=>k it Qj o e
 item:=by
  intro X hP hw hK hc i pins s σ H E I hf st hg;subst hP hw hK;obtain ⟨xs,x,hq,hx⟩:=hg;obtain ⟨its,rv,p,hz⟩:=I.tuple hq;obtain ⟨u,hu,ru⟩:=rv.get hx;obtain ⟨f0,f1,f2,f3,f4,f5⟩:=hf it Qj;refine wpAny_pyNext_tuple_item st (show s.heap.IsTuple a its.toArray from p) (x:=u) (by simpa using hu) λh' a3 sb=>?_;have I1:Inv X pins σ H { s with heap:=h' }:=I.turned (t':=s.toks) (λb o O e=>(sb.2 b O).trans e) f0 f1 f3 f4 f5;obtain ⟨o,e,c,d⟩:=id a3;show ⟨u,rfl,cQ (s:={ s with heap:=h' }) e c d Qy ⟨x,H,I1,ru,⟨rfl,λys hy=>by rw[I.tuple_inj hy hq];show hx⟩,a3,λb O=>(hf b O).1⟩⟩
 done:=by
  intro X hP hw hK hc i pins s σ H E I hf st hg;subst hP hw hK;obtain ⟨xs,hq,hx⟩:=hg;obtain ⟨its,rv,p,hz⟩:=I.tuple hq;obtain ⟨f0,f1,f2,f3,f4,f5⟩:=hf it Qj;have hl:=rv.length;show wpAny_pyNext_tuple_end (I.ok.hd hc) st (show s.heap.IsTuple a its.toArray from p) (by simp;omega) λh' eb=>⟨rfl,I.turned (t':=s.toks) (λb o O e=>eb b o O e) f0 f1 f3 f4 f5⟩
 self:=λ_ _ _ _ _ st h=>wpAny_pyIter_tupleiter st h
def lx {K:Frag}(it:Addr) (lo:Int) (n:Nat):Turn P w K tg (Itr lo n) [it] it (λi h=>IsRangeIter h it (lo+(i:Nat)*1) ((n:Int)-(i:Nat)) 1) where
 mem:=Qj
 obj:=λi h st b O=>by
  have e:b=it:=by simpa using O
  subst e;show ⟨_,st,λv z=>by
   have z':Data.fields _=Data.cell v:=z;cases z'⟩
 keep:=λi h h' st k=>k it Qj _ st
 item:=by
  intro X hP hw hK hc i pins s σ H E I hf st hg;subst hP hw hK;obtain ⟨f0,f1,f2,f3,f4,f5⟩:=hf it Qj;have W:=Walks.range (prog:=X.prog) (w:=X.w) (I.ok.hd hc) it lo 1 n;refine W.item i s _ _ hg st λv h' tk hv a3 kk=>?_;obtain ⟨t,rfl⟩:=hv;have I1:Inv X pins σ H { s with heap:=h',toks:=tk }:=I.turned (λb o O e=>kk b o (by simpa using O) e) f0 f1 f3 f4 f5;refine ⟨_,rfl,cQ (s:={ s with heap:=h',toks:=tk }) (n := "range_iterator") a3 rfl rfl Qy ⟨.int (lo+i),H,I1,⟨t,?_⟩,⟨rfl,rfl⟩,a3,λb O=>(hf b O).1⟩⟩;rw[Int.mul_one]
 done:=by
  intro X hP hw hK hc i pins s σ H E I hf st hg;subst hP hw hK;obtain ⟨f0,f1,f2,f3,f4,f5⟩:=hf it Qj;show wpAny_pyNext_range_end (I.ok.hd hc) st (by have:n<=i:=hg;omega) λh' eb=>⟨rfl,I.turned (t':=s.toks) (λb o O e=>eb b o O e) f0 f1 f3 f4 f5⟩
 self:=λ_ _ _ _ _ st h=>wpAny_pyIter_rangeiter st h
def rT {σ:St}{lo:Int}(I:Inv X pins σ H s) (h1:-(2^62)<=lo) (h2:lo<2^62) (h3:-(2^62)<=hi) (h4:hi<2^62) (q:R (Itr lo (hi-lo).toNat) H):wpAny (model X.prog X.w) X.A (pyIter (.ref s.heap.objs.size)) (PIE X pins σ tg R) E { s with heap:=s.heap.push { cls:=.type "range",data:=.fields #[.int lo t,.int hi u,.int 1 v] },toks:=tk }:=by
 refine wpAny_pyIter_range (IsRange.new ..) (small_one h1 h2 h3 h4) ?_;have O:Inv X pins σ H { s with heap:=s.heap.push { cls:=.type "range",data:=.fields #[.int lo t,.int hi u,.int 1 v] },toks:=tk }:=I.kept λb o e=>qB3 _ e;refine ⟨(s.heap.push { cls:=.type "range",data:=.fields #[.int lo t,.int hi u,.int 1 v] }).objs.size,[(s.heap.push { cls:=.type "range",data:=.fields #[.int lo t,.int hi u,.int 1 v] }).objs.size],_,_,H,rfl,
  O.kept (t':=tk) λb o e=>qB3 _ e,lx _ lo (hi-lo).toNat,?_,λb hb=>?_,q⟩
 .have e1:lo+((0:Nat):Int)*1=lo:=Qj;have e2:(((hi-lo).toNat:Nat):Int)-((0:Nat):Int)=Builtin.Range.rangeSize lo hi 1:=by rw[rangeSize_one];split <;> omega
  change IsRangeIter _ _ (lo+((0:Nat):Int)*1) ((((hi-lo).toNat:Nat):Int)-((0:Nat):Int)) 1;rw[e1,e2];show qC8 _ rfl
 .have e:b=(s.heap.push { cls:=.type "range",data:=.fields #[.int lo t,.int hi u,.int 1 v] }).objs.size:=by simpa using hb
  subst e;show O.fpOk (qB8 _) (O.hok.fresh (qB8 _))
def vt (I:TA):TI:=λσ H R=>I σ H λvs H1=>∃j:Int,vs = [.int j] /\ -(2^62)<=j/\j<2^62/\R (Itr 0 j.toNat) H1
def oO (hg:Gl X "range") (hm:X.mg "range" = none) (ha:PA X [a] ta) (hs:starEach [a] X.env = [(false,eval a X.env)]:=by rfl):PI X tg (.Call (.Name "range" p) [a] [] pos) (vt ta):=by
 intro pins s σ H R I h;refine Call_ (Y4 I hg hm boot_range (qH0 (thn (ha pos pins s σ H _ I h) λus s1 O=>?_) hs rfl));obtain ⟨vs,H1,I1,r1,q1⟩:=O;obtain ⟨j,e,q1,q2,q⟩:=q1;subst e;cases r1 with
 | cons r rr=>
  cases rr;obtain ⟨t,rfl⟩:=r;show call_range_1 (rT I1 Qo Qo q1 q2 (by simpa using q))
def hV (wi:TI) (g:TG) (tb:TS):TS:=λD σ H=>wi σ H λJ H1=>∃W:Nat->Nat->St->Hp->Prop,(∃m,W 0 m σ H1)/\∀i m σ H,W i m σ H ->
 (J.stop i H/\D.nx σ H)\/(J.go i H/\∃N:St->Hp->Prop,(∀I H',N I H'->∃m',m'<m/\W (i+1) m' I H')/\∀x H',J.yld i H x H'->g x σ H' λO H2=>tb { D with nx:=N,ct:=N,bk:=D.nx } O H2)
def bU (fp:List Addr)(h:Heap):List (Addr×Obj):=fp.filterMap λb=>(h.get? b).map λo=>(b,o)
def W1 (I:b∈fp)(e:h.get? b=some o):(b,o)∈bU fp h:=qQ2.mpr ⟨b,I,by rw[e];rfl⟩
def oY (I:p∈bU fp h):p.1∈fp/\h.get? p.1=some p.2:=by
 obtain ⟨b,O,e⟩:=qQ2.mp I;cases q:h.get? b with
 |none=>rw[q]at e;cases e
 | some o=>
  rw[q]at e;have e':(b,o)=p:=Option.some.inj e;subst e';show ⟨O,q⟩
def Inv.pinned {σ:St}(I:Inv X pins σ H s) (hf:∀b∈fp,L6 X pins H b) (ho:∀b∈fp,∃o,s.heap.get? b=some o/\∀v,o.data≠.cell v):Inv X (pins++bU fp s.heap) σ H s:=
 I.pins_of λp hp=>(qB7.mp hp).elim (λz=>I.pin p (qC2 _ z)) λz=>by
  obtain ⟨hb,e⟩:=oY z;obtain ⟨f0,f1,f2,_⟩:=hf p.1 hb;obtain ⟨o,O,d⟩:=ho p.1 hb;rw[e]at O;cases O;show ⟨e,f0,f1,f2,d⟩
def Inv.unpinned {σ:St}(I:Inv X (pins++pl) σ H s):Inv X pins σ H s:=I.pins_of λp O=>I.pin p (qC2 _ (qE3 _ O))
def oG (hp:PassesOwn (model X.prog X.w) X.A X.env X.xe) (hc:X.calm=true) (hi:PI X tg iter wi) (hg:PG X tg g) (hb:PSs X body tb) (hs:∀x,foldedSetIterable iter X.env x=pure x:=by intro _;rfl):PS X (.For tg iter body [] pos) (hV wi g tb):=by
 intro pins s σ H D I h;refine wpAny_For (thn (hi pins s σ H _ I h) λv s1 h1=>thn h1 λc2 s2 h2=>?_) hs;obtain ⟨it,fp,tn,J,H2,e,I2,T,st2,f2,W,⟨m0,w0⟩,turn⟩:=h2;subst e
 -- what stays true of the iterator's objects through the loop
 have stat:∀{H':Hp},(∀b∈fp,H' b=none)->∀b∈fp,L6 X pins H' b:=λhn b hb=>⟨hn b hb,(f2 b hb).2⟩;refine codeAny_forLoop_any (λn s'=>∃i a4 H',Inv X pins a4 H' s'/\tn i s'.heap/\(∀b∈fp,H' b=none)/\W i n a4 H') ?_ m0 ⟨0,σ,H2,I2,st2,λb hb=>(f2 b hb).1,w0⟩;rintro n s3 ⟨i,a3,H3,I3,b0,b4,w3⟩;rcases turn i n a3 H3 w3 with ⟨stop,qn⟩|⟨go,N,hN,step⟩
 .refine qN4 hp (thn (T.done X rfl rfl rfl hc i pins s3 a3 H3 X.xe I3 (stat b4) b0 stop) λr s4 ⟨hr,I4⟩=>?_);subst hr;show qN3 ⟨a3,H3,I4,qn⟩
 .refine qN4 hp (thn (T.item X rfl rfl rfl hc i pins s3 a3 H3 X.xe I3 (stat b4) b0 go) λr s4 ⟨u,hr,h4⟩=>?_);subst hr;refine qN4 hp (thn h4 λ_ s5 b5=>?_);obtain ⟨x,H5,I5,r5,y5,ae,bc⟩:=b5;have bf:=I5.pinned (stat bc) (T.obj _ _ ae);refine qN4 hp (thn (hg _ s5 a3 H5 x u _ bf r5 (step x H5 y5)) λ_ s6 b3=>?_);obtain ⟨c1,H6,I6,q6⟩:=b3;refine qN4 hp (thn (hb _ s6 c1 H6 _ I6 q6) λf s7 q7=>?_);have again:∀{O:St}{H7:Hp},Inv X (pins++bU fp s5.heap) O H7 s7->N O H7->∃m,m<n/\∃i a4 H',Inv X pins a4 H' s7/\tn i s7.heap/\(∀b∈fp,H' b=none)/\W i m a4 H':=λ{O H7} I7 n7=>by
   obtain ⟨m',hm,w7⟩:=hN O H7 n7;refine ⟨m',hm,i+1,O,H7,I7.unpinned,T.keep _ _ _ ae λb hb o e=>(I7.pin (b,o) (qC2 _ (qC2 _ (W1 hb e)))).1,λb hb=>?_,w7⟩;obtain ⟨o,e,d⟩:=T.obj _ _ ae b hb;show (I7.pin (b,o) (qC2 _ (qC2 _ (W1 hb e)))).2.1
  cases f with
  |next=>obtain ⟨O,H7,I7,n7⟩:=q7;show again I7 n7
  |cont=>obtain ⟨O,H7,I7,n7⟩:=q7;show again I7 n7
  |brk=>obtain ⟨O,H7,I7,q7⟩:=q7;show ⟨O,H7,I7.unpinned,q7⟩
  |ret v=>obtain ⟨x7,O,H7,I7,r7,q7⟩:=q7;show ⟨x7,O,H7,I7.unpinned,r7,q7⟩
abbrev R2:=V->V->Hp->VK->Prop
def OpR (X:Cx) (f:Value->Value->Sem Value) (r:R2):Prop:=
 ∀ (pins:Jq) (s:Shared) (σ:St) (H:Hp) (x y:V) (v u:Value) (Q:VK),Inv X pins σ H s->RelV x v->RelV y u->r x y H Q ->
  wpAny (model X.prog X.w) X.A (f v u) (EP X pins σ Q) X.xe s
def UnR (X:Cx) (f:Value->Sem Value) (r:V->Hp->VK->Prop):Prop:=
 ∀ (pins:Jq) (s:Shared) (σ:St) (H:Hp) (x:V) (v:Value) (Q:VK),Inv X pins σ H s->RelV x v->r x H Q ->
  wpAny (model X.prog X.w) X.A (f v) (EP X pins σ Q) X.xe s
def B6 (X:Cx) (f:Value) (r:List V->Hp->VK->Prop):Prop:=
 ∀ (pins:Jq) (s:Shared) (σ:St) (H:Hp) (xs:List V) (us:Jw) (Q:VK),Inv X pins σ H s->Vals xs us->r xs H Q ->
  wpAny (model X.prog X.w) X.A (call f us) (EP X pins σ Q) X.xe s
def tOp (r:R2)(I tb:TE):TE:=λσ H Q=>I σ H λx H1=>tb σ H1 λy H2=>r x y H2 Q
def tUn (r:V->Hp->VK->Prop)(I:TE):TE:=λσ H Q=>I σ H λx H1=>r x H1 Q
def rI (C:Int->Int->Prop)(g:Int->Int->V):R2:=λx y H Q=>∃i j,x=.int i/\y=.int j/\C i j/\Q (g i j) H
def rI0 (g:Int->Int->V):R2:=λx y H Q=>∃i j,x=.int i/\y=.int j/\Q (g i j) H
def rU (g:Int->V):V->Hp->VK->Prop:=λx H Q=>∃i,x=.int i/\Q (g i) H
def ux (ha:PE X a ta) (hb:PE X b tb){σ:St}{R:V->V->Hp->Prop}(I:Inv X pins σ H s) (h:ta σ H λx H1=>tb σ H1 λy H2=>R x y H2){f:Value->Value->Sem Value}(hf:∀v u s2 x y H2,Inv X pins σ H2 s2->RelV x v->RelV y u->R x y H2->wpAny (model X.prog X.w) X.A (f v u) Q X.xe s2):
  wpAny (model X.prog X.w) X.A (eval a X.env) (λv ae=>wpAny (model X.prog X.w) X.A (eval b X.env) (λu a3=>wpAny (model X.prog X.w) X.A (f v u) Q X.xe a3) X.xe ae) X.xe s:=by
 refine thn (ha pins s σ H _ I h) λv s1 a4=>?_;obtain ⟨x,H1,I1,r1,q1⟩:=a4;refine thn (hb pins s1 σ H1 _ I1 q1) λu s2 O=>?_;obtain ⟨y,H2,I2,r2,q2⟩:=O;show hf v u s2 x y H2 I2 r1 r2 q2
def FU (ho:OpR X (binaryOp op) r) (ha:PE X a ta) (hb:PE X b tb):PE X (.BinOp a op b pos) (tOp r ta tb):=by
 intro pins s σ H Q I h;show wpAny_BinOp (ux ha hb I h λv u s2 x y H2 I2 O ry q=>ho pins s2 σ H2 x y v u Q I2 O ry q)
def va (ho:UnR X (unaryOp op) r) (ha:PE X a ta):PE X (.UnaryOp op a pos) (tUn r ta):=by
 intro pins s σ H Q I h;show UnaryOp_ (thn (ha pins s σ H _ I h) λv s1 O=>by obtain ⟨x,H1,I1,r1,q1⟩:=O;show ho pins s1 σ H1 x v Q I1 r1 q1)
def opI {g:Int->Int->Int}(rule:∀(i j:Int) (t u:Tok) (s:Shared) (Q:Jp) (E:Jp),C i j->Q (.int (g i j) s.toks) { s with toks:=s.toks+1 }->wpAny (model X.prog X.w) X.A (f (.int i t) (.int j u)) Q E s):
  OpR X f (rI C λi j=>.int (g i j)):=by
 intro pins s σ H x y v u Q I O ry h;obtain ⟨i,j,rfl,rfl,hc,q⟩:=h;obtain ⟨t,rfl⟩:=O;obtain ⟨t',rfl⟩:=ry;show rule i j t t' s _ _ hc ⟨.int (g i j),H,I.tok _,⟨_,rfl⟩,q⟩
def Bk {g:Int->Int->Int}(rule:∀(i j:Int) (t u:Tok) (s:Shared) (Q:Jp) (E:Jp),Q (.int (g i j) s.toks) { s with toks:=s.toks+1 }->wpAny (model X.prog X.w) X.A (f (.int i t) (.int j u)) Q E s):
  OpR X f (rI0 λi j=>.int (g i j)):=by
 intro pins s σ H x y v u Q I O ry h;obtain ⟨i,j,rfl,rfl,q⟩:=h;obtain ⟨t,rfl⟩:=O;obtain ⟨t',rfl⟩:=ry;show rule i j t t' s _ _ ⟨.int (g i j),H,I.tok _,⟨_,rfl⟩,q⟩
def sK {g:Int->Int->Bool}(rule:∀(i j:Int) (t u:Tok) (s:Shared) (Q:Jp) (E:Jp),Q (.bool (g i j)) s->wpAny (model X.prog X.w) X.A (f (.int i t) (.int j u)) Q E s):
  OpR X f (rI0 λi j=>.bl (g i j)):=by
 intro pins s σ H x y v u Q I O ry h;obtain ⟨i,j,rfl,rfl,q⟩:=h;obtain ⟨t,rfl⟩:=O;obtain ⟨t',rfl⟩:=ry;show rule i j t t' s _ _ ⟨.bl (g i j),H,I,rfl,q⟩
def A6 (i j:Int):Prop:=0<j/\j<1073741824
def bC (i j:Int):Prop:=0<=j/\j<=1000000/\i.natAbs<2^64
def CMul (i j:Int):Prop:=(-(2^64)<i/\i<2^64)\/(-(2^64)<j/\j<2^64)
def CMul.ok (h:CMul i j):IntMulOk i j:=by
 rcases h with ⟨h1,h2⟩|⟨h1,h2⟩
 .show .of_left (intBits_le_64 h1 h2)
 .show .of_right (intBits_le_64 h1 h2)
def x8:OpR X (binaryOp .Add) (rI0 λi j=>.int (i+j)):=Bk λ_ _ _ _ _ _ _ q=>add_int q
def M3:OpR X (binaryOp .Sub) (rI0 λi j=>.int (i-j)):=Bk λ_ _ _ _ _ _ _ q=>sub_int q
def L3:OpR X (binaryOp .FloorDiv) (rI A6 λi j=>.int (i/j)):=opI λi j _ _ _ _ _ hc q=>by
 have h1:(0:Int)<j:=hc.1;have h2:j<1073741824:=hc.2;show floordiv_int Qo (by rw[Int.fdiv_eq_ediv_of_nonneg i Qo];show q) (.inl (PyProof.noPylong_small Qo))
def y9:OpR X (binaryOp .Mod) (rI (λ_ j=>0<j) λi j=>.int (i%j)):=opI λi j _ _ _ _ _ hc q=>by
 have h1:(0:Int)<j:=hc;show mod_int' Qo (by rw[Int.fmod_eq_emod_of_nonneg i Qo];show q)
def oU:OpR X (binaryOp .Pow) (rI bC λi j=>.int (i^j.toNat)):=opI λ_ _ _ _ _ _ _ hc q=>pow_int_small hc.1 hc.2.1 hc.2.2 q
def unI {g:Int->Int}(rule:∀(i:Int) (t:Tok) (s:Shared) (Q:Jp) (E:Jp),Q (.int (g i) s.toks) { s with toks:=s.toks+1 }->wpAny (model X.prog X.w) X.A (f (.int i t)) Q E s):
  UnR X f (rU λi=>.int (g i)):=by
 intro pins s σ H x v Q I O h;obtain ⟨i,rfl,q⟩:=h;obtain ⟨t,rfl⟩:=O;show rule i t s _ _ ⟨.int (g i),H,I.tok _,⟨_,rfl⟩,q⟩
def M0:UnR X (unaryOp .USub) (rU λi=>.int (-i)):=unI λ_ _ _ _ _ q=>neg_int q
def ig:V->V->Bool
 | .non,.non=>true | .non,.int _=>true | .int _,.non=>true | .non,.bl _=>true | .bl _,.non=>true | .non,.str _=>true | .str _,.non=>true
 | .int _,.int _=>true | .bl _,.bl _=>true | .str _,.str _=>true | .byt _,.byt _=>true
 | .int _,.str _=>true | .str _,.int _=>true | .bl _,.str _=>true | .str _,.bl _=>true
 |_,_=>false
def rEq:R2:=λx y H Q=>ig x y=true/\Q (.bl (decide (x=y))) H
def rNe:R2:=λx y H Q=>ig x y=true/\Q (.bl (!decide (x=y))) H
def kX:decide (V.int i=V.int j)=(i == j):=by
 rw[qJ6];simp
def qj:decide (V.bl i=V.bl j)=(i == j):=by
 rw[qJ6];simp
def kW:decide (V.str i=V.str j)=(i == j):=by
 rw[qJ6];simp
def kY:decide (V.byt i=V.byt j)=(i.toList == j.toList):=by
 rw[qJ6];cases i;cases j;simp
def i8 {σ:St}(I:Inv X pins σ H s) (q:Q (.bl k) H) (e:k=k'):EP X pins σ Q (.bool k') s:=by
 subst e;show ⟨.bl k,H,I,rfl,q⟩
def l9:OpR X (compareOp .Eq) rEq:=by
 intro pins s σ H x y v u Q I rx O h;obtain ⟨hs,q⟩:=h;cases x with
 | non=>
  cases rx;cases y with
  |non=>cases O;show PySem.EqNone.eq_none_none (i8 I q Qj)
  |bl j=>cases O;show PySem.EqNone.eq_none_bool (i8 I q Qj)
  |int j=>obtain ⟨t',rfl⟩:=O;show PySem.EqNone.eq_none_int (i8 I q Qj)
  |str j=>obtain ⟨t',rfl⟩:=O;show PySem.EqNone.eq_none_str (i8 I q Qj)
  |_=>show absurd (show false=true from hs) qC0
 | bl i=>
  cases rx;cases y with
  |non=>cases O;show PySem.EqNone.eq_bool_none (i8 I q Qj)
  |bl j=>cases O;show eq_bool (i8 I q qj)
  |str j=>obtain ⟨t',rfl⟩:=O;show PySem.EqMixed.eq_bool_str (i8 I q Qj)
  |_=>show absurd (show false=true from hs) qC0
 | int i=>
  obtain ⟨t,rfl⟩:=rx;cases y with
  |non=>cases O;show PySem.EqNone.eq_int_none (i8 I q Qj)
  |int j=>obtain ⟨t',rfl⟩:=O;show eq_int (i8 I q kX)
  |str j=>obtain ⟨t',rfl⟩:=O;show PySem.EqMixed.eq_int_str (i8 I q Qj)
  |_=>show absurd (show false=true from hs) qC0
 | str i=>
  obtain ⟨t,rfl⟩:=rx;cases y with
  |non=>cases O;show PySem.EqNone.eq_str_none (i8 I q Qj)
  |bl j=>cases O;show PySem.EqMixed.eq_str_bool (i8 I q Qj)
  |int j=>obtain ⟨t',rfl⟩:=O;show PySem.EqMixed.eq_str_int (i8 I q Qj)
  |str j=>obtain ⟨t',rfl⟩:=O;show eq_str (i8 I q kW)
  |_=>show absurd (show false=true from hs) qC0
 | byt i=>
  obtain ⟨t,rfl⟩:=rx;cases y with
  |byt j=>obtain ⟨t',rfl⟩:=O;show PySem.W.eq_bytes (i8 I q kY)
  |_=>show absurd (show false=true from hs) qC0
 |_=>cases y <;> show absurd (show false=true from hs) qC0
def FY:OpR X (compareOp .NotEq) rNe:=by
 intro pins s σ H x y v u Q I rx O h;obtain ⟨hs,q⟩:=h;cases x with
 | non=>
  cases rx;cases y with
  |non=>cases O;show PySem.EqNone.ne_none_none (i8 I q Qj)
  |bl j=>cases O;show PySem.EqNone.ne_none_bool (i8 I q Qj)
  |int j=>obtain ⟨t',rfl⟩:=O;show PySem.EqNone.ne_none_int (i8 I q Qj)
  |str j=>obtain ⟨t',rfl⟩:=O;show PySem.EqNone.ne_none_str (i8 I q Qj)
  |_=>show absurd (show false=true from hs) qC0
 | bl i=>
  cases rx;cases y with
  |non=>cases O;show PySem.EqNone.ne_bool_none (i8 I q Qj)
  |bl j=>cases O;show ne_bool (i8 I q (congrArg not qj))
  |str j=>obtain ⟨t',rfl⟩:=O;show PySem.EqMixed.ne_bool_str (i8 I q Qj)
  |_=>show absurd (show false=true from hs) qC0
 | int i=>
  obtain ⟨t,rfl⟩:=rx;cases y with
  |non=>cases O;show PySem.EqNone.ne_int_none (i8 I q Qj)
  |int j=>obtain ⟨t',rfl⟩:=O;show ne_int (i8 I q (congrArg not kX))
  |str j=>obtain ⟨t',rfl⟩:=O;show PySem.EqMixed.ne_int_str (i8 I q Qj)
  |_=>show absurd (show false=true from hs) qC0
 | str i=>
  obtain ⟨t,rfl⟩:=rx;cases y with
  |non=>cases O;show PySem.EqNone.ne_str_none (i8 I q Qj)
  |bl j=>cases O;show PySem.EqMixed.ne_str_bool (i8 I q Qj)
  |int j=>obtain ⟨t',rfl⟩:=O;show PySem.EqMixed.ne_str_int (i8 I q Qj)
  |str j=>obtain ⟨t',rfl⟩:=O;show ne_str (i8 I q (congrArg not kW))
  |_=>show absurd (show false=true from hs) qC0
 | byt i=>
  obtain ⟨t,rfl⟩:=rx;cases y with
  |byt j=>obtain ⟨t',rfl⟩:=O;show PySem.W.ne_bytes (i8 I q (congrArg not kY))
  |_=>show absurd (show false=true from hs) qC0
 |_=>cases y <;> show absurd (show false=true from hs) qC0
def cH:OpR X (compareOp .Lt) (rI0 λi j=>.bl (decide (i<j))):=sK λ_ _ _ _ _ _ _ q=>lt_int q
def mq:OpR X (compareOp .LtE) (rI0 λi j=>.bl (decide (i<=j))):=sK λ_ _ _ _ _ _ _ q=>le_int q
def cI:OpR X (compareOp .Gt) (rI0 λi j=>.bl (decide (j<i))):=sK λ_ _ _ _ _ _ _ q=>gt_int q
def oX:OpR X (compareOp .In) (λx y H Q=>∃i j,x=.str i/\y=.str j/\Q (.bl (!(Builtin.Str.occurrences j i 0 j.length 1).isEmpty)) H):=by
 intro pins s σ H x y v u Q I O ry h;obtain ⟨i,j,rfl,rfl,q⟩:=h;obtain ⟨t,rfl⟩:=O;obtain ⟨t',rfl⟩:=ry;show in_str (i8 I q rfl)
def oV:OpR X (compareOp .Is) (λx y H Q=>y=.non/\Q (.bl (decide (x=.non))) H):=by
 intro pins s σ H x y v u Q I O ry h;obtain ⟨rfl,q⟩:=h;cases ry;refine is_none_gen (i8 I q ?_);cases x <;> first
  | (cases O;rfl)
  | (obtain ⟨t,rfl⟩:=O;rfl)
def dU (b:Expr) (h:op≠.In:=by decide) (h2:op≠.NotIn:=by decide):behindInMarks op b=false:=by
 have I:(op == CmpOp.In)=false:=by cases op <;> first|rfl|show absurd rfl h
 have O:(op == CmpOp.NotIn)=false:=by cases op <;> first|rfl|show absurd rfl h2
 cases b <;> simp [behindInMarks,I,O]
def wS (ho:OpR X (compareOp op) r) (ha:PE X a ta) (hb:PE X b tb) (hm:behindInMarks op b=false):PE X (.Compare a [op] [b] pos) (tOp r ta tb):=by
 intro pins s σ H Q I h;show wpAny_Compare1 (ux ha hb I h λv u s2 x y H2 I2 O ry q=>ho pins s2 σ H2 x y v u Q I2 O ry q) hm
def dD (t:TE):TT:=λσ H Q=>t σ H λx H'=>∃k,x=.bl k/\Q k H'
def kI (O:OpR X (compareOp op) r) (ha:PE X a ta) (hb:PE X b tb) (hm:behindInMarks op b=false):PT X (.Compare a [op] [b] pos) (dD (tOp r ta tb)):=by
 intro pins s σ H Q I h;refine wpAny_isTrue_Compare1 (thn (ha pins s σ H _ I h) λv s1 ⟨x,H1,I1,r1,q1⟩=>thn (hb pins s1 σ H1 _ I1 q1) λu s2 ⟨y,H2,I2,r2,q2⟩=>
  thn (O pins s2 σ H2 x y v u _ I2 r1 r2 q2) λc s3 ⟨z,H3,I3,r3,k,e,q3⟩=>?_) hm
 subst e;cases r3;show qM1 ⟨H3,I3,q3⟩
def zB (r O:R2) (ta tb tc:TE):TE:=λσ H Q=>ta σ H λx H1=>tb σ H1 λy H2=>r x y H2 λz I=>∃k,z=.bl k /\
 (if k=true then tc σ I λw' H4=>O y w' H4 Q else Q (.bl false) I)
def sr (ho:OpR X (compareOp op) r) (a3:OpR X (compareOp op') r') (ha:PE X a ta) (hb:PE X b tb) (hc:PE X c tc) (hm:lastMarks [op,op'] [b,c]=false:=by with_unfolding_all rfl):PT X (.Compare a [op,op'] [b,c] pos) (dD (zB r r' ta tb tc)):=by
 intro pins s σ H Q I h;refine isTrue_chain (thn (ha pins s σ H _ I h) λv s1 ⟨x,H1,I1,r1,q1⟩=>test_link (thn (hb pins s1 σ H1 _ I1 q1) λu s2 ⟨y,H2,I2,r2,q2⟩=>
  thn (ho pins s2 σ H2 x y v u _ I2 r1 r2 q2) λd s3 ⟨z,H3,I3,r3,k,e,q3⟩=>?_)) hm
 subst e;cases r3;refine qM1 ?_;cases k with
 | false=>
  obtain ⟨k',e',q'⟩:=q3;cases e';show ite_ff ⟨H3,I3,q'⟩
 | true=>
  refine ite_tt (test_last (thn (hc pins s3 σ H3 _ I3 q3) λw' s4 ⟨z',H4,I4,r4,q4⟩=>thn (a3 pins s4 σ H4 y z' u w' _ I4 r2 r4 q4) λd' s5 O=>?_));obtain ⟨z2,H5,I5,r5,k2,e2,q5⟩:=O;subst e2;cases r5;show qM1 ⟨H5,I5,q5⟩
def cg:(sizeLine:Nat)<2^63:=by rw[sizeLine_eq];decide
def o5:OpR X (binaryOp .Add) (λx y H Q=>∃i j,x=.str i/\y=.str j/\i.length+j.length<=sizeLine/\Q (.str (i++j)) H):=by
 intro pins s σ H x y v u Q I O ry h;obtain ⟨i,j,rfl,rfl,hz,q⟩:=h;obtain ⟨t,rfl⟩:=O;obtain ⟨t',rfl⟩:=ry;show add_str (λt' tk=>⟨.str (i++j),H,I.tok _,⟨_,rfl⟩,q⟩) hz
def vals1 (r:Vals [x] us):∃u,us = [u]/\RelV x u:=by
 cases r with
 |cons I O=>cases O;show ⟨_,rfl,I⟩
def vals2 (r:Vals [x,y] us):∃u I,us = [u,I]/\RelV x u/\RelV y I:=by
 cases r with
 | cons r1 O=>
  cases O with
  |cons r3 r4=>cases r4;show ⟨_,_,rfl,r1,r3⟩
def R5:B6 X (.type "str") (λxs H Q=>∃i,xs = [.int i]/\i.natAbs.log2<1920/\Q (.str (toString i)) H):=by
 intro pins s σ H xs us Q I r h;obtain ⟨i,rfl,hz,q⟩:=h;obtain ⟨u,rfl,t,rfl⟩:=vals1 r;show PySem.P.str_of_int hz ⟨.str _,H,I.tok _,⟨_,rfl⟩,q⟩
structure ObjM (h:Heap) (x dx C:Addr) (mA:Jz):Prop where
 obj:h.get? x=some (PySem.W.instObj C dx)
 ns:h.Ns1 dx mA
 ne:dx≠x
def pH {h:Heap}(n:h.Ns1 dx mA):∃od,h.get? dx=some od/\∀name,PySem.W.lookIn name od=some (mA name):=by
 obtain ⟨o,es,ep,ho,hd,hk,_,hm⟩:=n;refine ⟨o,ho,λname=>?_⟩;have e:=hm name;unfold nsFind findBy at e;rw[<- Array.find?_toList]at e;unfold PySem.W.lookIn;rw[hd];dsimp only
 split
 .rename_i y q
  rw[q]at e;show congrArg some e
 .rename_i q
  rw[q]at e;have a:es.toList.any (·.refKey)=false:=by
   rw[List.any_eq_false];intro y hy;obtain ⟨z,t,I⟩:=hk y (Array.mem_toList_iff.mp hy);simp [DictEntry.refKey,I]
  have O:¬ es.toList.any (·.refKey)=true:=by rw[a];show qC0
  rw[qB4 O];show congrArg some e
def ObjM.look (I:ObjM h x dx C mA):∃od,PySem.W.InstAt h x (PySem.W.instObj C dx) C (some od)/\∀name,PySem.W.lookIn name od=some (mA name):=
 let ⟨od,ho,hl⟩:=pH I.ns
 ⟨od,⟨I.obj,rfl,rfl,ho⟩,hl⟩
def xG (hok:HOk P w H h) (e:H a=some (.ins C dx fs)):∃mA,ObjM h a dx C mA/\(∀f,RelO (fs.lookup f) (mA f))/\PySem.Within mA (fs.map (·.1))/\fs.length<=1000/\H dx=some (.own a):=by
 obtain ⟨d,z,ne,ob,mA,n,r,q⟩:=(show ObjOk P w H h a (.ins C dx fs) from hok a _ e);show ⟨mA,⟨ob,n,ne⟩,r,q,z,d⟩
structure Cls (K:Frag) (C:Addr):Prop where
 pg:PySem.W.plainGet K C Str.empty=true
 hd:PySem.W.hasDictIn K C=true
 po:PySem.W.plainOver K C=true
 sa:PySem.W.findIn K (.ref C) "__setattr__" = some (some (.builtin "object.__setattr__"))
def Cls.get {K:Frag}(c:Cls K C)(f:Str):PySem.W.plainGet K C f=true:=c.pg
section
variable {X:Cx}{pins:Jq}{σ:St}{H:Hp}{s:Shared}{A:Around}{E:Jp}{Q:Jp}{c:Value}{b:Bool}
inductive T0 (K:Frag) (H:Hp):V->Value->Prop where
 |non:T0 K H .non (.type "NoneType")
 |bl (x:Bool):T0 K H (.bl x) (.type "bool")
 |int (i:Int):T0 K H (.int i) (.type "int")
 |str (x:Str):T0 K H (.str x) (.type "str")
 |flt (x:UInt64):T0 K H (.flt x) (.type "float")
 |lst {a:Addr}{xs:List V}(e:H a=some (.lst xs)):T0 K H (.ref a) (.type "list")
 |frz {a:Addr}{o:Obj}{xs:List V}(e:H a=some (.frz o (.lst xs))):T0 K H (.ref a) (.type "list")
 |tup {a:Addr}{xs:List V}(e:H a=some (.tup xs)):T0 K H (.ref a) (.type "tuple")
 |dK {a:Addr}{kvs:List (Key×V)}(e:H a=some (.dK kvs)):T0 K H (.ref a) (.type "dict")
 |dT {a:Addr}{kvs:List (List Key×V)}(e:H a=some (.dT kvs)):T0 K H (.ref a) (.type "dict")
 | ins {a C dx:Addr}{fs:List (Str×V)}(e:H a=some (.ins C dx fs)) (cl:Cls K C) (ha:PySem.W.findIn K (.ref C) "__class__" = some (some (.builtin "object.__class__")))
   (hn:PySem.W.specialIn K (.builtin "object.__class__") "__get__" = some (some (.builtin "getset_descriptor.__get__"))) (htk:PySem.W.takesIn K (.builtin "object.__class__")=some true)
   (hm:PySem.W.mroIn K C (.type "object")=some true):T0 K H (.ref a) (.ref C)
def pV (I:Inv X pins σ H s) (rx:RelV x u) (ty:T0 X.K H x t) (e:PySem.W.kitOne X.K t c=some b) (h:∀tk,Q (.bool b) { s with toks:=tk }):
  wpAny (model X.prog X.w) A (call (.builtin "isinstance") [u,c]) Q E s:=by
 cases ty with
 |non=>cases (show u=Value.none from rx);show qF7 PySem.W.kitx_none I.kIn True.intro e (λz=>nomatch z) h
 |bl y=>cases (show u=Value.bool y from rx);show qF7 PySem.W.kitx_bool I.kIn True.intro e (λz=>nomatch z) h
 |int i=>obtain ⟨t,q⟩:=(show ∃t,u=Value.int i t from rx);cases q;show qF7 PySem.W.kitx_int I.kIn True.intro e (λz=>nomatch z) h
 |str y=>obtain ⟨t,q⟩:=(show ∃t,u=Value.str y t from rx);cases q;show qF7 PySem.W.kitx_str I.kIn True.intro e (λz=>nomatch z) h
 |flt y=>obtain ⟨t,q⟩:=(show ∃t,u=Value.float y t from rx);cases q;show qF7 PySem.W.kitx_float I.kIn True.intro e (λz=>nomatch z) h
 | @lst a xs ea=>
  cases (show u=Value.ref a from rx);obtain ⟨_,_,n,_,h1⟩:=(show ObjOk X.prog X.w H s.heap a (.lst xs) from I.hok a _ ea);show qF7 PySem.W.kitx_list I.kIn ⟨_,h1,rfl⟩ e (λz=>nomatch z) h
 | @frz a ob xs ea=>
  cases (show u=Value.ref a from rx);obtain ⟨_,_,_,n,_,h1⟩:=(show ObjOk X.prog X.w H s.heap a (.frz ob (.lst xs)) from I.hok a _ ea);show qF7 PySem.W.kitx_list I.kIn ⟨_,h1,rfl⟩ e (λz=>nomatch z) h
 | @tup a xs ea=>
  cases (show u=Value.ref a from rx);obtain ⟨_,_,_,p⟩:=(show ObjOk X.prog X.w H s.heap a (.tup xs) from I.hok a _ ea);obtain ⟨o,h1,h2,_⟩:=p;show qF7 PySem.W.kitx_tuple I.kIn ⟨o,h1,h2⟩ e (λz=>nomatch z) h
 | @dK a kvs ea=>
  cases (show u=Value.ref a from rx);obtain ⟨_,_,vs,_,p⟩:=(show ObjOk X.prog X.w H s.heap a (.dK kvs) from I.hok a _ ea);obtain ⟨o,es,ep,h1,h2,_⟩:=p;show qF7 PySem.W.kitx_dict I.kIn ⟨o,h1,h2.1⟩ e (λz=>nomatch z) h
 | @dT a kvs ea=>
  cases (show u=Value.ref a from rx);obtain ⟨_,_,xs,_,o,es,ep,h1,h2,_⟩:=(show ObjOk X.prog X.w H s.heap a (.dT kvs) from I.hok a _ ea);show qF7 PySem.W.kitx_dict I.kIn ⟨o,h1,h2.1⟩ e (λz=>nomatch z) h
 | @ins a C dx fs ea cl ha hn htk hm=>
  cases (show u=Value.ref a from rx);obtain ⟨mA,O,_⟩:=xG I.hok ea;obtain ⟨od,J,_⟩:=O.look;show qF7 (PySem.W.kitx_own (cl.get _) cl.hd ha hn htk hm) I.kIn J e (λz=>nomatch z) h
end
structure Room (k:Nat) (A:Around):Prop where
 hd:A.handled=none
 dp:A.depth+3*k+5<recursionLimit
 un:A.units+16*k+200<cLine
def Room.mono (r:Room k A)(h:j<=k):Room j A:=⟨r.hd,by have:=r.dp;omega,by have:=r.un;omega⟩
def Room.deeper (r:Room (k+1) A) (env:Env):Room k (A.deeper env):=
 ⟨r.hd,by have:=r.dp;change A.depth+1+3*k+5<_;omega,by have:=r.un;change A.units+3+16*k+200<_;omega⟩
def Room.depth (r:Room k A):A.depth<recursionLimit:=by have:=r.dp;omega
def Room.units (r:Room k A):A.units+64<cLine:=by have:=r.un;omega
def tNil:TA:=λ_ H Q=>Q [] H
def Q0 (O:TE)(I:TA):TA:=λσ H Q=>O σ H λx H1=>I σ H1 λxs H2=>Q (x::xs) H2
def pa_nil:PA X [] tNil:=λ_ _ _ _ H Q I h=>qR3 ⟨[],H,I,.nil,h⟩
def F7 (ha:PE X e te) (hr:PA X es t) (hs:starEach (e::es) X.env=(false,eval e X.env)::starEach es X.env:=by rfl):PA X (e::es) (Q0 te t):=by
 intro pos pins s σ H Q I h;rw[hs]
 change wpAny _ _ (spliced ((false,eval e X.env)::backTo pos (starEach es X.env))) _ _ s;refine qI3 (thn (ha pins s σ H _ I h) λu s1 O=>?_);obtain ⟨x,H1,I1,r1,q1⟩:=O;show thn (hr pos pins s1 σ H1 _ I1 q1) λus s2 a3=>by obtain ⟨xs,H2,I2,r2,q2⟩:=a3;show ⟨x::xs,H2,I2,.cons r1 r2,q2⟩
def rq (t:TA):TE:=λσ H Q=>t σ H λxs H1=>xs.length<=sizeLine/\∀p,H1 p=none->Q (.ref p) (upd H1 p (.tup xs))
def hJ (t:TA):TE:=λσ H Q=>t σ H λxs H1=>xs.length<=sizeLine/\∀p,H1 p=none->Q (.ref p) (upd H1 p (.lst xs))
def oP {x1}(h:PA X es t):PE X (.Tuple es x1 pos) (rq t):=by
 intro pins s σ H Q I O;refine wpAny_Tuple_spliced (thn (h pos pins s σ H _ I O) λus s1 ⟨xs,H1,I1,r,z,q⟩=>⟨by rw[<- r.length];show z,?_⟩);have hf:H1 s1.heap.objs.size=none:=I1.hok.fresh (qB8 _);refine ⟨.ref s1.heap.objs.size,upd H1 s1.heap.objs.size (.tup xs),I1.laid (t':=s1.toks) (λb u e=>qB3 _ e) (qB8 _) ?_,rfl,q _ hf⟩;show ⟨z,us,r,⟨_,qC8 _ rfl,rfl,_,rfl⟩⟩
def oR (h:PA X es t):PE X (.List es pos) (hJ t):=by
 intro pins s σ H Q I O;refine wpAny_List_spliced (thn (h pos pins s σ H _ I O) λus s1 ⟨xs,H1,I1,r,z,q⟩=>⟨by rw[<- r.length];show z,?_⟩);have hf:H1 s1.heap.objs.size=none:=I1.hok.fresh (qB8 _);refine ⟨.ref s1.heap.objs.size,upd H1 s1.heap.objs.size (.lst xs),I1.laid (t':=s1.toks) (λb u e=>qB3 _ e) (qB8 _) ?_,rfl,q _ hf⟩;show ⟨z,us,0,r,qC8 _ rfl⟩
abbrev Sp:=List V->Hp->VK->XK->Prop
abbrev CXT:=List Env->Hp->Shared->XK->Value->Shared->Prop
structure nu (P:Program) (w:World) (K:Frag) (mg:Jz) (base:Heap) (A:Around) (outer:List Env) (s:Shared) (H:Hp):Prop where
 frames:A.frames=some outer
 mod:Mod K mg base
 bs:∀b o,base.get? b=some o->s.heap.get? b=some o/\H b=none
 bsz:base.objs.size<=s.heap.objs.size
 funs:s.heap.FunFrames base outer
 frf:∀b∈frs outer,H b=none
 hok:HOk P w H s.heap
 bare:AllBare s.gens
def CE (outer:List Env) (P:Program) (w:World) (H:Hp) (s:Shared) (Q:VK) (u:Value) (s':Shared):Prop:=
 ∃v H',s'.os=s.os/\AllBare s'.gens/\Un (frs outer) [] H H' s.heap s'.heap/\HOk P w H' s'.heap/\RelV v u/\Q v H'
def CR (CX:CXT) (outer:List Env) (P:Program) (w:World) (H:Hp) (s:Shared) (Q:VK) (E:XK) (r:Result) (s':Shared):Prop:=
 match r with
 | .ok (.ret u)=>CE outer P w H s Q u s'
 | .ok _=>False
 | .error e=>CX outer H s E e s'
structure FnOk (P:Program) (w:World) (K:Frag) (mg:Jz) (base:Heap) (CX:CXT) (k:Nat) (f:Addr) (fd:FuncData) (ps:Jk) (sp:Sp):Prop where
 len:∀vs H Q E,sp vs H Q E->vs.length=ps.length
 run:∀(A:Around) (outer:List Env) (s:Shared) (H:Hp) (args:Args) (us:Jw) (vs:List V) (Q:VK) (E:XK),Room k A->nu P w K mg base A outer s H->BindsTo s fd args (ps.zip us)->Vals vs us->sp vs H Q E ->
  codeAny (model P w) A (.call (.ref f) args) (CR CX outer P w H s Q E) s
def FnOk.imp {K:Frag}(F:FnOk P w K mg base CX k f fd ps sp) (h:∀vs H Q E,sp' vs H Q E->sp vs H Q E):FnOk P w K mg base CX k f fd ps sp':=
 ⟨λvs H Q E q=>F.len vs H Q E (h _ _ _ _ q),λA outer s H args us vs Q E O he hb I hs=>F.run A outer s H args us vs Q E O he hb I (h _ _ _ _ hs)⟩
def Inv.env0 {σ:St}(I:Inv X pins σ H s):nu X.prog X.w X.K X.mg X.base X.A X.stack s H:=
 ⟨I.ok.frames,I.ok.mod,I.bs,qD9 I.ok.bsz I.sz,I.stack,I.stkFree,I.hok,I.bare⟩
def Inv.after {σ:St}(I:Inv X pins σ H s) (h:CE X.stack X.prog X.w H s Q u s'):EP X pins σ Q u s':=by
 obtain ⟨v,H',os,bare,un,hok,r,q⟩:=h;obtain ⟨hh,g,d,t,O⟩:=s';obtain rfl:O=s.os:=os;show ⟨v,H',I.call (h':=hh) (g':=g) (d':=d) (t':=t) (ch:=[]) un hok bare (λb z=>absurd z Qj),r,q⟩
def Z0 (sp:Sp)(I:List V)(E:XK)(t:TA):TE:=λσ H Q=>t σ H λvs H1=>sp (vs++I) H1 Q E
def Binds (K:Frag) (fd:FuncData) (ps:Jk) (I:Jw):Prop:=
 ∀(s:Shared) (us:Jw),K.In s.heap->(us++I).length=ps.length->BindsTo s fd ⟨us,[]⟩ (ps.zip (us++I))
def Binds.all {K:Frag}(h:∀us:List Value,us.length=ps.length->bindArgs fd ⟨us,[]⟩=pure (ps.zip us)):Binds K fd ps []:=λs us _ hl=>by
 rw[qD1]at hl ⊢;show .of_eq (h us hl)
def cA (CX:CXT)(X:Cx)(E:XK):Prop:=∀(pins:Jq)(σ:St)(H:Hp)(s:Shared)(e:Value)(s':Shared),Inv X pins σ H s->CX X.stack H s E e s'->X.xe e s'
def zV {σ:St}(F:FnOk X.prog X.w X.K X.mg X.base CX k f fd ps sp) (hr:Room k X.A) (hb:Binds X.K fd ps ds) (hd:Vals dvs ds) (hx:cA CX X E) (I:Inv X pins σ H s) (r:Vals vs us) (h:sp (vs++dvs) H Q E):wpAny (model X.prog X.w) X.A (call (.ref f) us) (EP X pins σ Q) X.xe s:=by
 have r2:Vals (vs++dvs) (us++ds):=r.append hd;have hl:(us++ds).length=ps.length:=by rw[<- r2.length];show F.len _ _ _ _ h
 refine wpAny_call (qS0 (F.run X.A X.stack s H ⟨us,[]⟩ (us++ds) (vs++dvs) Q E hr I.env0 (hb s us I.kIn hl) r2 h) λr s' O=>?_);cases r with
 |error e=>show hx pins σ H s e s' I O
 | ok fl=>
  cases fl with
  |ret u=>show I.after O
  |next=>show False.elim O
  |brk=>show False.elim O
  |cont=>show False.elim O
def P5 {X:Cx}{CX:CXT}{k:Nat}{f:Addr}{fd:FuncData}{ps:Jk}{sp:Sp}{O:List V}{ds:Jw}{E:XK}{x:Str}{p pos:Pos}{e:Expr}{es:Jx}{t:TA}(F:FnOk X.prog X.w X.K X.mg X.base CX k f fd ps sp) (hr:Room k X.A) (hg:Gl X x) (hm:X.mg x=some (.ref f)) (hk:PySem.W.keepIn X.K (.ref f)=true) (hb:Binds X.K fd ps ds) (hd:Vals O ds) (hx:cA CX X E) (ha:PA X (e::es) t) (a3:(x == ("__debug__" : Str))=false:=by decide) (he:starEach (e::es) X.env=(false,eval e X.env)::starEach es X.env:=by rfl) (a4:(backTo pos (starEach es X.env)).any (·.1)=false:=by rfl):
  PE X (.Call (.Name x p) (e::es) [] pos) (Z0 sp O E t):=by
 intro pins s σ H Q I h;refine qM4 (aL I hg hm ?_ a3);refine qQ3 (h₀:=X.base) I.ok.mod.kin hk (thn (ha pos pins s σ H _ I h) λus s1 ⟨vs,H1,I1,r,q⟩=>⟨I1.kIn,?_⟩) he a4;show zV F hr hb hd hx I1 r q
structure i4 (N P:Jk) (sc:Scope):Prop where
 kind:sc.kind=.function
 co:sc.isCoroutine=false
 gen:sc.isGenerator=false
 nd:N.Nodup
 pre:N.take P.length=P
 par:∀x∈P,sc.names.lookup x=some .local\/sc.names.lookup x=some .cell
 nofree:∀y∈sc.names,y.2≠.free
def qF {kindOf:Str->Option NameKind}:∀{binds:List (Str×Value)}{m:Jz},(∀v,(x,v)∉binds)->bindL kindOf binds m x=m x:=by
 intro binds
 induction binds with
 |nil=>intro m _;rfl
 | cons p r I=>
  intro m h;unfold bindL;rw[I λw hw=>h w (qA4 _ hw)]
  split
  .have:x≠p.1:=by rintro rfl;show h p.2 qA2
   simp [this]
  .rfl
def qH {kindOf:Str->Option NameKind}:∀{binds:List (Str×Value)}{m:Jz},(∀v,(x,v)∉binds)->bindC kindOf binds m x=m x:=by
 intro binds
 induction binds with
 |nil=>intro m _;rfl
 | cons p r I=>
  intro m h;unfold bindC;rw[I λw hw=>h w (qA4 _ hw)]
  split
  .rfl
  .have:x≠p.1:=by rintro rfl;show h p.2 qA2
   simp [this]
def qG {kindOf:Str->Option NameKind}:∀{P:Jk}{vs:Jw}{i:Nat}{m:Jz},P.Nodup->P[i]?=some x->vs[i]?=some v->kindOf x=some .local ->
  bindL kindOf (P.zip vs) m x=some v:=by
 intro P
 induction P with
 |nil=>intro vs i m _ h _ _;cases h
 | cons p P ih=>
  intro vs i m nd h1 h2 I;cases vs with
  |nil=>cases h2
  | cons w vs=>
   change bindL kindOf ((p,w)::P.zip vs) m x=_;unfold bindL;cases i with
   | zero=>
    cases h1;cases h2;rw[qF λv O=>(qP1.mp nd).1 (qT9 O).1,qA9 I];simp
   |succ i=>show ih (qP1.mp nd).2 h1 h2 I
def qI {kindOf:Str->Option NameKind}:∀{P:Jk}{vs:Jw}{i:Nat}{m:Jz},P.Nodup->P[i]?=some x->vs[i]?=some v->kindOf x≠some .local ->
  bindC kindOf (P.zip vs) m x=some v:=by
 intro P
 induction P with
 |nil=>intro vs i m _ h _ _;cases h
 | cons p P ih=>
  intro vs i m nd h1 h2 I;cases vs with
  |nil=>cases h2
  | cons w vs=>
   change bindC kindOf ((p,w)::P.zip vs) m x=_;unfold bindC;cases i with
   | zero=>
    cases h1;cases h2;rw[qH λv O=>(qP1.mp nd).1 (qT9 O).1,qB4 I];simp
   |succ i=>show ih (qP1.mp nd).2 h1 h2 I
def start (N:Jk)(vs:List V):St:=vs.map some++List.replicate (N.length-vs.length) none
def m8 (CX:CXT) (P:Program) (w:World) (K:Frag) (mg:Jz) (base:Heap) (N:Jk) (qual:Str) (scope:Scope) (f:Addr) (cd:Value) (A:Around) (outer:List Env) (s:Shared) (H:Hp) (E:XK):Cx where
 prog:=P
 w:=w
 K:=K
 mg:=mg
 base:=base
 A:=A.deeper (envOfC qual scope s.heap.objs.size f cd)
 N:=N
 s₀:=s
 H₀:=H
 env:=envOfC qual scope s.heap.objs.size f cd
 outer:=outer
 stack:=envOfC qual scope s.heap.objs.size f cd::outer
 ex:=[]
 calm:=true
 fn:=λ_=>true
 pn:=[]
 xe:=λe s'=>wpAny (model P w) (A.deeper (envOfC qual scope s.heap.objs.size f cd)) (leaving (envOfC qual scope s.heap.objs.size f cd) e) (λ_ I=>CX outer H s E e I) (λO I=>CX outer H s E O I) s'
def jt {sc:Scope}(h:sc.names.lookup x=some .cell):∃c,(cellsFrom n sc.names []).lookup x=some c:=by
 have q:=PySem.W.cellsFrom_some sc.names n [] (.inl h);show Option.isSome_iff_exists.mp q
def pW {K:Frag}(S:i4 N ps scope) (hd:A.handled=none) (e0:nu P w K mg base A outer s H) (hl:vs.length=ps.length) (r:Vals vs us) (x:InCallC s s.heap.objs.size (bindL (envOfC qual scope s.heap.objs.size f cd).kindOf (ps.zip us) λ_=>none) (cellsFrom (s.heap.objs.size+1) scope.names []) (bindC (envOfC qual scope s.heap.objs.size f cd).kindOf (ps.zip us) λ_=>none) s1):
  Inv (m8 CX P w K mg base N qual scope f cd A outer s H E) [] (start N vs) H s1:=by
 have a4:ps.length<=N.length:=by have:=congrArg List.length S.pre;rw[qB9]at this;omega
 obtain ⟨h1,tk,rfl,hk⟩:=x.done;have O:∀b:Addr,b∉(m8 CX P w K mg base N qual scope f cd A outer s H E).ex:=λb z=>absurd (show b∈([]:List Addr) from z) Qj;refine ⟨⟨e0.mod,S.kind,rfl,rfl,qB8 _,λy z c h1 h2=>?_,λy I=>?_,λy c _ h=>?_,λ_=>hd,Around.frames_deeper e0.frames,.inr ⟨rfl,rfl⟩,λb z=>absurd z (O b),e0.bs,e0.bsz,λb _ _=>O b,λb z=>absurd z (O b),e0.funs,e0.frf⟩,
  rfl,e0.bare,Un.kept hk,⟨_,x.toInCall.ns,λi y v h1 h2 h3=>?_⟩,λy c h=>⟨_,x.cell y c h⟩,e0.hok.fresh (qB8 _),λy c h=>?_,λp hp=>absurd (show p∈([]:Jq) from hp) Qj,e0.hok.kept hk,?_⟩
 .show name_of_addr x.apart (qH3 h1) (qH3 h2)
 .have I:scope.names.lookup y=some .cell\/scope.names.lookup y=some .free:=I;rcases I with I|I
  .show jt I
  .show absurd rfl (S.nofree _ (qH3 I))
 .show qO9 (x.above y c (qH3 h))
 .have hi:i<vs.length:=by
   unfold start at h2;by_cases hi:i<vs.length
   .show hi
   .rw [qD8 (by simpa using hi)]at h2
    rw[qE5]at h2
    split at h2 <;> cases h2
  have ha:vs[i]?=some v:=by
   unfold start at h2;rw[qD2 (by simpa using hi),qC1]at h2;cases e:vs[i]? with
   |none=>rw[e]at h2;cases h2
   |some a=>rw[e]at h2;cases h2;rfl
  obtain ⟨u,hu,rv⟩:=r.get ha;have hp:ps[i]?=some y:=by
   rw[<- S.pre,qS1 Qo];show h1
  have a3:ps.Nodup:=by rw[<- S.pre];show S.nd.sublist (qH9 _ _)
  refine ⟨u,rv,?_⟩;rcases S.par y (qB5 hp) with k|k
  .show .inl ⟨k,qG a3 hp hu k⟩
  .obtain ⟨c,e⟩:=jt (n:=s.heap.objs.size+1) k;refine .inr ⟨.inl k,c,e,?_⟩;have q:=x.cell y c e;rw[qI a3 hp hu (by change scope.names.lookup y≠_;rw[k];decide)]at q;show q
 .show e0.hok.fresh (qO9 (x.above y c (qH3 h)))
 .unfold start
  change _=N.length;rw[qA1,qA0,qO4];omega
def vx {K:Frag}{kV:Value}(lk:K.lookup f=some ⟨oc,od,.func (PySem.W.fnOf name qual params body scope dV kV doc pm an cdv ct),osl⟩) (b4:PySem.W.codeIn K cdv qual=true) (S:i4 N ps scope) (len:∀vs H Q E,sp vs H Q E->vs.length=ps.length) (a3:∀(A:Around) (outer:List Env) (s:Shared) (H:Hp) (vs:List V) (Q:VK) (E:XK),Room k (A.deeper (envOfC qual scope s.heap.objs.size f cdv))->sp vs H Q E ->
   ∃t,PSs (m8 CX P w K mg base N qual scope f cdv A outer s H E) body t/\t { nx:=λ_ H'=>Q .non H',rt:=Q } (start N vs) H):
  FnOk P w K mg base CX (k+1) f (PySem.W.fnOf name qual params body scope dV kV doc pm an cdv ct) ps sp:=by
 refine ⟨len,λA outer s H args us vs Q E hr e0 hb r ae=>?_⟩;have hl:=len _ _ _ _ ae;have KX:K.In s.heap:=e0.mod.kin.keeps λb o e=>(e0.bs b o e).1;have lim:s.heap.NoLimit:=e0.mod.nolimit.keeps λb o e=>(e0.bs b o e).1;have a4:∀y∈ps.zip us,scope.names.lookup y.1=some .local\/(scope.names.lookup y.1=some .cell/\((cellsFrom (s.heap.objs.size+1) scope.names []).lookup y.1).isSome=true):=λb0 hy=>by
  obtain ⟨n,v⟩:=b0;rcases S.par n (qT9 hy).1 with q|q
  .show .inl q
  .show .inr ⟨q,PySem.W.cellsFrom_some _ _ _ (.inl q)⟩
 refine codeAny_call_function hr.depth (KX _ _ lk) rfl S.co S.gen rfl (PySem.W.codeRec_of KX b4) (hb _ _ _ _ ?_);refine wpAny_newFunctionEnv_cells S.kind a4 λenv he s1 x=>?_;subst he;refine ⟨lim.keeps x.toInCall.keep,codeAny_func ?_⟩;obtain ⟨t,ht,hq⟩:=a3 A outer s H vs Q E (hr.deeper _) ae;have I:Inv (m8 CX P w K mg base N qual scope f cdv A outer s H E) [] (start N vs) H s1:=pW S hr.hd e0 hl r x;refine qM3 (ht [] s1 (start N vs) H _ I hq) (λfl s' hs=>?_) λe s' hs=>hs;have b3:∀{O:St}{H':Hp}{v:V}{u:Value},Inv (m8 CX P w K mg base N qual scope f cdv A outer s H E) [] O H' s'->RelV v u->Q v H'->CE outer P w H s Q u s':=
  λ{O H' v u} J rv q=>⟨v,H',J.os,J.bare,J.base,J.hok,rv,q⟩
 cases fl with
 | ret u=>
  obtain ⟨v,O,H',J,rv,q⟩:=hs;show b3 J rv q
 | next=>
  obtain ⟨O,H',J,q⟩:=hs;show b3 (v:=V.non) (u:=Value.none) J rfl q
 | brk=>
  obtain ⟨_,_,_,q⟩:=hs;show False.elim q
 | cont=>
  obtain ⟨_,_,_,q⟩:=hs;show False.elim q
def tCB (r:List V->Hp->VK->Prop)(t:TA):TE:=λσ H Q=>t σ H λvs H1=>r vs H1 Q
def iD {X:Cx}{x:Str}{p pos:Pos}{e:Expr}{es:Jx}{t:TA}{id:String}{r:List V->Hp->VK->Prop}(hc:B6 X (.builtin id) r) (hg:Gl X x) (hm:X.mg x=none) (hv:bootBuiltins x=some (.builtin id)) (ha:PA X (e::es) t) (hn:x ≠ "__name__" := by decide) (a3:(x == ("__debug__" : Str))=false:=by decide) (he:starEach (e::es) X.env=(false,eval e X.env)::starEach es X.env:=by rfl) (a4:(backTo pos (starEach es X.env)).any (·.1)=false:=by rfl):PE X (.Call (.Name x p) (e::es) [] pos) (tCB r t):=by
 intro pins s σ H Q I h;refine qM4 (Y4 I hg hm hv ?_ hn a3);show PyProof.Rows.callWith_builtin1 (thn (ha pos pins s σ H _ I h) λus s1 O=>by obtain ⟨vs,H1,I1,r1,q1⟩:=O;show hc pins s1 σ H1 vs us Q I1 r1 q1) he a4
def fY {X:Cx}{x:Str}{p pos:Pos}{e:Expr}{es:Jx}{t:TA}{T:String}{r:List V->Hp->VK->Prop}(hc:B6 X (.type T) r) (hg:Gl X x) (hm:X.mg x=none) (hv:bootBuiltins x=some (.type T)) (ha:PA X (e::es) t) (hn:x ≠ "__name__" := by decide) (a3:(x == ("__debug__" : Str))=false:=by decide) (he:starEach (e::es) X.env=(false,eval e X.env)::starEach es X.env:=by rfl) (a4:(backTo pos (starEach es X.env)).any (·.1)=false:=by rfl):PE X (.Call (.Name x p) (e::es) [] pos) (tCB r t):=by
 intro pins s σ H Q I h;refine qM4 (Y4 I hg hm hv ?_ hn a3);show qH0 (thn (ha pos pins s σ H _ I h) λus s1 O=>by obtain ⟨vs,H1,I1,r1,q1⟩:=O;show hc pins s1 σ H1 vs us Q I1 r1 q1) he a4
end L2
namespace HT
open PySem PyProof.Rows
def lexLt:List Int->List Int->Bool
 | [],[]=>false
 | [],_::_=>true
 |_::_,[]=>false
 |x::xs,y::ys=>if x=y then lexLt xs ys else decide (x<y)
section
open PySem.SeqAt
open PySem.AutoSeq1 (wpAny_loadPart')
open PySem.MeetsSeq PySem.MeetsSeq2 PySem.MeetsSeq3
end
def sIx (n d:Nat):Option Int->Nat
 |none=>d
 |some v=>if v<0 then (v+(n:Int)).toNat else min v.toNat n
def sIx_none (n d:Nat):sIx n d none=d:=rfl
def sIx_nat (n d k:Nat):sIx n d (some (k:Int))=min k n:=by
 change (if (k:Int)<0 then ((k:Int)+(n:Int)).toNat else min (k:Int).toNat n)=min k n;rw[qB4 Qo,qF1]
end HT
namespace L2
open PySem PySem.Spec PyProof.Rows
abbrev TO:=St->Hp->(Option Int->Hp->Prop)->Prop
def PO (X:Cx) (e:Option Expr) (t:TO):Prop:=
 ∀ (pins:Jq) (s:Shared) (σ:St) (H:Hp) (Q:Option Int->Hp->Prop),Inv X pins σ H s->t σ H Q ->
  wpAny (model X.prog X.w) X.A (evalPart e X.env) (λu s'=>∃o H',Inv X pins σ H' s'/\IsPart u o/\Q o H') X.xe s
def tNoPart:TO:=λ_ H Q=>Q none H
def uK (t:TE):TO:=λσ H Q=>t σ H λx H1=>∃i,x=.int i/\Q (some i) H1
def po_none:PO X none tNoPart:=by
 intro pins s σ H Q I h;rw[evalPart_none];show qL7 ⟨none,H,I,.none,h⟩
def wL (h:PE X e te):PO X (some e) (uK te):=by
 intro pins s σ H Q I hw;rw[evalPart_some];refine thn (h pins s σ H _ I hw) λu s1 O=>?_;obtain ⟨x,H1,I1,r1,q1⟩:=O;obtain ⟨i,rfl,q⟩:=q1;obtain ⟨t,rfl⟩:=r1;show ⟨some i,H1,I1,.int i t,q⟩
def SlR (X:Cx) (r:V->Option Int->Option Int->Hp->VK->Prop):Prop:=
 ∀ (pins:Jq) (s:Shared) (σ:St) (H:Hp) (x:V) (v O I:Value) (lo hi:Jv) (sl:Addr) (Q:VK),Inv X pins σ H s->RelV x v->s.heap.IsSliceOf sl O I .none->IsPart O lo->IsPart I hi->r x lo hi H Q ->
  ∃T id,typeLookup (.type T) "__getitem__" = pure (some (.builtin id))/\s.TypeIs v T/\wpAny (model X.prog X.w) X.A (getItem v (.ref sl)) (EP X pins σ Q) X.xe s
def tSl (r:V->Option Int->Option Int->Hp->VK->Prop)(te:TE)(O th:TO):TE:=λσ H Q=>te σ H λx H1=>O σ H1 λl H2=>th σ H2 λu I=>r x l u I Q
def iC {lo:Option Expr}(hr:SlR X r) (he:PE X e te) (hl:PO X lo tl) (hu:PO X hi th):PE X (.Subscript e (.Slice lo hi none p2) pos) (tSl r te tl th):=by
 intro pins s σ H Q I h;refine Subscript_ (thn (he pins s σ H _ I h) λv s1 a3=>?_);obtain ⟨x,H1,I1,r1,q1⟩:=a3;refine wpAny_Slice (thn (hl pins s1 σ H1 _ I1 q1) λvl s2 ⟨l,H2,I2,pl,q2⟩=>thn (hu pins s2 σ H2 _ I2 q2) λvu O a4=>?_);obtain ⟨u,H3,I3,pu,q3⟩:=a4;rw[evalPart_none];refine qL7 ?_;have I4:Inv X pins σ H3 { O with heap:=O.heap.push { cls:=.type "slice",data:=.fields #[vl,vu,.none] } }:=I3.kept (t':=O.toks) λb ob q=>qB3 _ q;obtain ⟨T,id,hT,ht,hg⟩:=hr pins { O with heap:=O.heap.push { cls:=.type "slice",data:=.fields #[vl,vu,.none] } } σ H3 x v vl vu l u O.heap.objs.size Q I4 r1 (Heap.IsSliceOf.new ..) pl pu q3
 change wpAny (model X.prog X.w) X.A (subscriptTail e (.Slice lo hi none p2) v (.ref O.heap.objs.size)) (EP X pins σ Q) X.xe { O with heap:=O.heap.push { cls:=.type "slice",data:=.fields #[vl,vu,.none] } };show tail_any (ops:=[.ref O.heap.objs.size,v]) ht hT hg (by with_unfolding_all rfl)
def fK (xs:List V)(lo hi:Jv):List V:=(xs.drop (HT.sIx xs.length 0 lo)).take (HT.sIx xs.length xs.length hi-HT.sIx xs.length 0 lo)
def jU (xs:List V) (lo hi:Jv):(fK xs lo hi).length<=xs.length:=by
 unfold fK;rw[qB9,qC9];omega
def ixN (n:Nat) (i:Int):Option Nat:=if 0<=i then (if i<n then some i.toNat else none) else if -(n:Int)<=i then some (i+n).toNat else none
def atI {α:Type}(xs:List α) (i:Int):Option α:=(ixN xs.length i).bind λj=>xs[j]?
def xC (h:ixN n i=some j):seqIndex? i n=some j/\j<n /\ -(n:Int)<=i/\i<n:=by
 unfold ixN at h;by_cases h0:0<=i
 .rw [qA9 h0]at h
  by_cases h1:i<n
  .rw [qA9 h1]at h
   have e:i.toNat=j:=Option.some.inj h;show ⟨by rw[seqIndex_of h0 h1,e],Qo,Qo,h1⟩
  .rw[qB4 h1]at h;cases h
 .rw [qB4 h0]at h
  by_cases h1:-(n:Int)<=i
  .rw [qA9 h1]at h
   have e:(i+n).toNat=j:=Option.some.inj h;show ⟨by rw[seqIndex_neg Qo h1,e],Qo,h1,Qo⟩
  .rw[qB4 h1]at h;cases h
def fM {xs:List α}(h:atI xs i=some v):∃j,seqIndex? i xs.length=some j/\xs[j]?=some v/\j<xs.length /\ -(xs.length:Int)<=i/\i<xs.length:=by
 unfold atI at h;cases e:ixN xs.length i with
 |none=>rw[e]at h;cases h
 | some j=>
  rw[e]at h;obtain ⟨h1,h2,h3,I⟩:=xC e;show ⟨j,h1,h,h2,h3,I⟩
def jA (xs:List α) (v:α):atI (xs ++ [v]) (-1)=some v:=by
 have hl:(xs ++ [v]).length=xs.length+1:=Qj;have e:ixN (xs ++ [v]).length (-1)=some xs.length:=by
  unfold ixN;rw[hl,qB4 Qy,qA9 Qo];congr 1;omega
 unfold atI;rw[e]
 change (xs ++ [v])[xs.length]?=some v;simp
def aO (b:Expr):Prop:=∀o i,subscripted b false o i=operate [o,i] (getItem o i)
def IxR (X:Cx) (r:R2):Prop:=
 ∀ (value slice:Expr) (pins:Jq) (s:Shared) (σ:St) (H:Hp) (x y:V) (v u:Value) (Q:VK),Inv X pins σ H s->RelV x v->RelV y u->r x y H Q ->
  subscripted slice false v u=operate [v,u] (getItem v u)->wpAny (model X.prog X.w) X.A (subscriptTail value slice v u) (EP X pins σ Q) X.xe s
def MtR (X:Cx) (id:String) (r:V->List V->Hp->VK->Prop):Prop:=
 ∀ (pins:Jq) (s:Shared) (σ:St) (H:Hp) (x:V) (xs:List V) (v:Value) (us:Jw) (Q:VK),Inv X pins σ H s->RelV x v->Vals xs us->r x xs H Q ->
  wpAny (model X.prog X.w) X.A (call (.builtin id) (v::us)) (EP X pins σ Q) X.xe s
def IxR.or (h:IxR X r) (h':IxR X r'):IxR X (λx y H Q=>r x y H Q\/r' x y H Q):=by
 intro value slice pins s σ H x y v u Q I O ry q hs;rcases q with q|q
 .show h value slice pins s σ H x y v u Q I O ry q hs
 .show h' value slice pins s σ H x y v u Q I O ry q hs
def gL (O:IxR X r) (ha:PE X a ta) (hb:PE X b tb) (hs:aO b):PE X (.Subscript a b pos) (tOp r ta tb):=by
 intro pins s σ H Q I h;show Subscript_ (ux ha hb I h λv u s2 x y H2 I2 rx ry q=>O a b pins s2 σ H2 x y v u Q I2 rx ry q (hs _ _))
def rW (K:Frag):R2:=λx y H Q=>∃p xs i v,x=.ref p/\y=.int i/\SqL K H p xs/\atI xs i=some v/\Q v H
def AB (K:Frag):R2:=λx y H Q=>∃p xs i v,x=.ref p/\y=.int i/\SqT K H p xs/\atI xs i=some v/\Q v H
def rIxS:R2:=λx y H Q=>∃z i c,x=.str z/\y=.int i/\z.length<=sizeLine/\atI z.cps.toList i=some c/\Q (.str ⟨#[c]⟩) H
def ix_list:IxR X (rW X.K):=by
 intro value slice pins s σ H x y v u Q I rx ry h hs;obtain ⟨p,xs,i,z,rfl,rfl,hq,he,q⟩:=h;cases rx;obtain ⟨t,rfl⟩:=ry;obtain ⟨its,r,pl,hz⟩:=I.list hq;obtain ⟨j,h1,h2,h3,h4,h5⟩:=fM he;obtain ⟨w,ew,a3⟩:=r.get h2;have hl:=r.length;have hn:=cg;have O:EP X pins σ Q w s:=⟨z,H,I,a3,q⟩;by_cases h0:0<=i
 .have hj:i.toNat=j:=by
   rw[seqIndex_of h0 h5]at h1;show Option.some.inj h1
  show item_listR pl.isList h0 Qo (by rw[hj];simpa using ew) O hs
 .have hj:(i+(its.toArray.size:Int)).toNat=j:=by
   rw[seqIndex_neg Qo h4]at h1;rw[qD6,<- hl];show Option.some.inj h1
  show subscriptTail_builtinR (x:=w) pl.isList.typeIs slot_list_getitem.lookup
   (wpAny_getItem_list_neg (Q:=λr s'=>r=w/\EP X pins σ Q r s') pl.isList Qo (by rw[qD6] <;> omega) Qo (by rw[hj];simpa using ew) ⟨rfl,O⟩) hs
def ix_tup:IxR X (AB X.K):=by
 intro value slice pins s σ H x y v u Q I rx ry h hs;obtain ⟨p,xs,i,z,rfl,rfl,hq,he,q⟩:=h;cases rx;obtain ⟨t,rfl⟩:=ry;obtain ⟨its,r,pl,hz⟩:=I.tuple hq;obtain ⟨j,h1,h2,h3,h4,h5⟩:=fM he;obtain ⟨w,ew,O⟩:=r.get h2;have hl:=r.length;have hn:=cg;have a3:EP X pins σ Q w s:=⟨z,H,I,O,q⟩;show subscriptTail_builtinR (x:=w) pl.typeIs slot_tuple_getitem.lookup
  (getItem_tuple (j:=j) (Q:=λr s'=>r=w/\EP X pins σ Q r s') pl Qo Qo (by rw[qD6,<- hl];show h1) (by simpa using ew) ⟨rfl,a3⟩) hs
def pP:IxR X rIxS:=by
 intro value slice pins s σ H x y v u Q I rx ry h hs;obtain ⟨z,i,c,rfl,rfl,hz,he,q⟩:=h;obtain ⟨t,rfl⟩:=rx;obtain ⟨t',rfl⟩:=ry;obtain ⟨j,h1,h2,h3,h4,h5⟩:=fM he;have hl:z.cps.toList.length=z.length:=by simp [Str.length]
 rw[hl]at h1 h4 h5;have hn:=cg;show tail_any (qM9 s z t) slot_str_getitem.lookup (getItem_str (c:=c) (by
  have O:decide (i < -(2^63:Int))=false:=qL1 Qo;have e2:decide (i≥2^63)=false:=qL1 Qo;rw[O,e2,qL4]) (by rw[h1];simpa using h2) ⟨.str ⟨#[c]⟩,H,I.tok _,⟨_,rfl⟩,q⟩) hs
def rIx (K:Frag):R2:=λx y H Q=>rW K x y H Q\/AB K x y H Q\/rIxS x y H Q
def pQ:IxR X (rIx X.K):=ix_list.or (ix_tup.or pP)
def ib (lo hi:Jv) (n:Nat):(sliceBounds lo hi none n).1=((HT.sIx n 0 lo:Nat):Int)/\(sliceBounds lo hi none n).2.1=((HT.sIx n n hi:Nat):Int)/\(sliceBounds lo hi none n).2.2=1:=by
 refine ⟨?_,?_,rfl⟩
 .cases lo with
  |none=>simp [sliceBounds,HT.sIx]
  | some i=>
   simp only [sliceBounds,HT.sIx,Option.getD_none,show (1:Int)>0 by decide,qL8];by_cases h:i<0
   .simp only [h,qL8] <;> omega
   .simp only [h,qM0] <;> omega
 .cases hi with
  |none=>simp [sliceBounds,HT.sIx]
  | some i=>
   simp only [sliceBounds,HT.sIx,Option.getD_none,show (1:Int)>0 by decide,qL8];by_cases h:i<0
   .simp only [h,qL8] <;> omega
   .simp only [h,qM0] <;> omega
def gA (its:Jw) (lo hi:Jv):slicePick its.toArray lo hi none=((its.drop (HT.sIx its.length 0 lo)).take (HT.sIx its.length its.length hi-HT.sIx its.length 0 lo)).toArray:=by
 obtain ⟨h1,h2,h3⟩:=ib lo hi its.toArray.size;unfold slicePick;rw[h1,h2,h3];simp only [sliceRange_one,pick_run,qD6] <;> rfl
def Ax (K:Frag):V->Option Int->Option Int->Hp->VK->Prop:=λx lo hi H Q=>∃a xs,x=.ref a/\SqL K H a xs/\∀p,H p=none->Q (.ref p) (upd H p (.lst (fK xs lo hi)))
def wc:SlR X (Ax X.K):=by
 intro pins s σ H x v vl vu lo hi sl Q I rx hs pl O h;obtain ⟨a,xs,rfl,hx,q⟩:=h;cases rx;obtain ⟨its,r,ht,hz⟩:=I.list hx;have hlen:=r.length;refine ⟨"list",_,slot_list_getitem.lookup,ht.isList.typeIs,?_⟩;refine wpAny_getItem_list_slice ht.isList hs pl O .none Qj ?_ (by rw[qD6] <;> omega)
 rw[gA,<- hlen];refine ⟨.ref s.heap.objs.size,_,I.laid (t':=s.toks) (o:=.lst (fK xs lo hi)) (λb ob q=>qB3 _ q) (qB8 _) ?_,rfl,q _ (I.hok.fresh (qB8 _))⟩;show ⟨qD9 (jU xs lo hi) hz,_,0,(r.drop (HT.sIx xs.length 0 lo)).take (HT.sIx xs.length xs.length hi-HT.sIx xs.length 0 lo),qC8 _ rfl⟩
def jv:B6 X (.builtin "len") (λxs H Q=>∃p ys,xs = [.ref p]/\(SqL X.K H p ys\/SqT X.K H p ys)/\Q (.int ys.length) H):=by
 intro pins s σ H xs us Q I r h;obtain ⟨p,ys,rfl,O,q⟩:=h;obtain ⟨u,rfl,rx⟩:=vals1 r;cases rx;have hn:=cg;rcases O with O|O
 .obtain ⟨its,r',pl,hz⟩:=I.list O;have hlen:=r'.length;show Calls.call_len_list pl.isList (by simp only [qD6] <;> omega) ⟨.int ys.length,H,I.tok _,⟨s.toks+1,by rw[qD6,hlen]⟩,q⟩
 .obtain ⟨its,r',pl,hz⟩:=I.tuple O;have hlen:=r'.length;show len_tuple pl (by simp only [qD6] <;> omega) ⟨.int ys.length,H,I.tok _,⟨s.toks+1,by rw[qD6,hlen]⟩,q⟩
def w8:B6 X (.builtin "len") (λxs H Q=>∃z,xs = [.str z]/\z.length<=sizeLine/\Q (.int z.length) H):=by
 intro pins s σ H xs us Q I r h;obtain ⟨z,rfl,hz,q⟩:=h;obtain ⟨u,rfl,t,rfl⟩:=vals1 r;have hn:=cg;show len_str Qo ⟨.int z.length,H,I.tok _,⟨_,rfl⟩,q⟩
def gD:B6 X (.type "tuple") (λxs H Q=>∃p ys,xs = [.ref p]/\((SqL X.K H p ys/\∀l,H l=none->Q (.ref l) (upd H l (.tup ys)))\/(SqT X.K H p ys/\Q (.ref p) H))):=by
 intro pins s σ H xs us Q I r h;obtain ⟨p,ys,rfl,h⟩:=h;obtain ⟨u,rfl,rx⟩:=vals1 r;cases rx;rcases h with ⟨hq,q⟩|⟨hq,q⟩
 .obtain ⟨its,O,pl,hz⟩:=I.list hq;have hlen:=O.length;refine call_tuple_list pl.isList (λh' kp=>?_) (by simp only [qD6] <;> omega)
  have I1:Inv X pins σ H { s with heap:=h' }:=I.kept (t':=s.toks) kp;have I2:Inv X pins σ (upd H h'.objs.size (.tup ys)) { s with heap:=h'.push { cls:=.type "tuple",data:=.seq its.toArray } }:=
   I1.laid (t':=s.toks) (λb o e=>qB3 _ e) (qB8 _) (show ObjOk X.prog X.w _ _ _ (.tup ys) from ⟨hz,its,O,IsTup.new _ _⟩)
  show ⟨.ref h'.objs.size,_,I2,rfl,q _ (I1.hok.fresh (qB8 _))⟩
 .obtain ⟨its,O,pl,hz⟩:=I.tuple hq;show call_tuple_same pl ⟨.ref p,H,I,rfl,q⟩
def tyV (K:Frag) (T:String) (x:V) (H:Hp):Prop:=match x with
 | .str _=>T = "str"
 | .int _=>T = "int"
 | .ref p=>(T = "list" /\ ∃xs,SqL K H p xs)\/(T = "tuple" /\ ∃o,K.lookup p=some o/\o.cls=.type "tuple" /\ o.dict=none) \/
   (T = "dict" /\ ((∃kvs,H p=some (.dK kvs))\/∃kvs,H p=some (.dT kvs)))\/(T = "set" /\ ∃S n,H p=some (.set S n))
 |_=>False
def dC {σ:St}(I:Inv X pins σ H s) (r:RelV x v) (ty:tyV X.K T x H):
  s.TypeIs v T/\∀a,v=.ref a->∃ob,s.heap.get? a=some ob/\ob.dict=none:=by
 cases x with
 | str z=>
  obtain ⟨t,rfl⟩:=r;cases (show T = "str" from ty);show ⟨qM9 s z t,λ_ e=>nomatch e⟩
 | int i=>
  obtain ⟨t,rfl⟩:=r;cases (show T = "int" from ty);show ⟨typeIs_int s i t,λ_ e=>nomatch e⟩
 | ref p=>
  cases r;rcases ty with ⟨rfl,xs,hq⟩|⟨rfl,o,hk,hc,hd⟩|⟨rfl,hk⟩|⟨rfl,S,n,hk⟩
  .obtain ⟨its,_,pl,_⟩:=I.list hq;refine ⟨pl.isList.typeIs,λa e=>?_⟩;cases e;obtain ⟨o,n,e,c,hd,_⟩:=pl;show ⟨o,e,hd⟩
  .refine ⟨⟨o,I.kIn p o hk,hc⟩,λa e=>?_⟩;cases e;show ⟨o,I.kIn _ o hk,hd⟩
  .have z:∃o,s.heap.get? p=some o/\o.ExactDict:=by
    rcases hk with ⟨kvs,hk⟩|⟨kvs,hk⟩
    .obtain ⟨_,_,_,_,o,_,_,e,ex,_⟩:=I.hok p _ hk;show ⟨o,e,ex⟩
    .obtain ⟨_,_,_,_,o,_,_,e,ex,_⟩:=I.hok p _ hk;show ⟨o,e,ex⟩
   obtain ⟨o,e,ex⟩:=z;refine ⟨⟨o,e,ex.1⟩,λa O=>?_⟩;cases O;show ⟨o,e,ex.2.1⟩
  .obtain ⟨o,_,_,_,e,ex,_⟩:=I.hok p _ hk;refine ⟨⟨o,e,ex.1⟩,λa O=>?_⟩;cases O;show ⟨o,e,ex.2.1⟩
 |_=>show False.elim ty
def zC (K:Frag)(T:String)(r:V->List V->Hp->VK->Prop)(I:TE):TE:=λσ H Q=>I σ H λx H1=>tyV K T x H1/\r x [] H1 Q
def tBM (K:Frag)(T:String)(r:V->List V->Hp->VK->Prop)(I:TE)(t:TA):TE:=λσ H Q=>I σ H λx H1=>tyV K T x H1/\t σ H1 λxs H2=>r x xs H2 Q
def Be {X:Cx}{o:Expr}{to:TE}{name:Str}{apos O:Pos}{T id:String}{r:V->List V->Hp->VK->Prop}(pa:PlainAttrs T) (slot:Slot T name id) (b0:typeOf (.builtin id)=pure (.type "method_descriptor")) (hm:MtR X id r) (ho:PE X o to) (a3:attributeBase o name X.env (eval o X.env)=eval o X.env:=by rfl) (a4:(apos.endLine == O.line)=true:=by rfl):PE X (.Call (.Attribute o name apos) [] [] O) (zC X.K T r to):=by
 intro pins s σ H Q I h;refine wpAny_Call_method0_late a3 a4 (thn (ho pins s σ H _ I h) λv s1 ae=>?_);obtain ⟨x,H1,I1,r1,ty,q1⟩:=ae;obtain ⟨h1,h2⟩:=dC I1 r1 ty;show ⟨T,id,pa,slot,b0,h1,h2,qI1 rfl (PySem.evalArgs_none (hm pins s1 σ H1 x [] v [] Q I1 r1 .nil q1))⟩
def mj {X:Cx}{o e:Expr}{es:Jx}{to:TE}{t:TA}{name:Str}{apos O:Pos}{T id:String}{r:V->List V->Hp->VK->Prop}(pa:PlainAttrs T) (slot:Slot T name id) (b5:typeOf (.builtin id)=pure (.type "method_descriptor")) (hm:MtR X id r) (ho:PE X o to) (ha:PA X (e::es) t) (a4:attributeBase o name X.env (eval o X.env)=eval o X.env:=by rfl) (b4:((backTo O (starEach (e::es) X.env)).all (λx=>!x.1)&&(backToKw O (keywordEach [] X.env)).all (λx=>x.1.isSome)
   && decide ((e::es).length+([]:List Keyword).length+(if ([]:List Keyword).isEmpty then 0 else 1)<30))=true:=by rfl) (ae:(apos.endLine == O.line)=true:=by rfl) (hs:starEach (e::es) X.env=(false,eval e X.env)::starEach es X.env:=by rfl) (a3:(backTo O (starEach es X.env)).any (·.1)=false:=by rfl):
  PE X (.Call (.Attribute o name apos) (e::es) [] O) (tBM X.K T r to t):=by
 intro pins s σ H Q I h;refine qO1 a4 b4 ae rfl (thn (ho pins s σ H _ I h) λv s1 b3=>?_);obtain ⟨x,H1,I1,r1,ty,q1⟩:=b3;obtain ⟨h1,h2⟩:=dC I1 r1 ty;refine ⟨T,id,pa,slot,b5,h1,h2,?_⟩;have hA:=ha O pins s1 σ H1 _ I1 q1;rw[hs]at hA ⊢;refine qI1 (by change (false||(backTo O (starEach es X.env)).any (·.1))=false;rw[a3] <;> rfl) (qP2 ?_)
 show thn hA λus s2 b0=>by obtain ⟨vs,H2,I2,r2,q2⟩:=b0;show hm pins s2 σ H2 x vs v us Q I2 r1 r2 q2
def MtM (X:Cx) (id:String) (r:V->List V->Hp->VK->Prop):Prop:=
 ∀ (pins:Jq) (s:Shared) (σ:St) (H:Hp) (x:V) (xs:List V) (v:Value) (us:Jw) (Q:VK),Inv X pins σ H s->RelV x v->Vals xs us->r x xs H Q ->
  wpAny (model X.prog X.w) X.A (call (.builtin id) (v::us)) (EP X pins σ Q) X.xe s
def Vals.one:∀{x:V}{us:Jw},Vals [x] us->∃u,us = [u]/\RelV x u:=by
 intro x us r;cases r with
 |cons r t=>cases t;show ⟨_,rfl,r⟩
def Vals.zero:∀{us:Jw},Vals [] us->us = []
 |_,.nil=>rfl
def Vals.rep (h:Vals xs us):∀k:Nat,Vals (List.replicate k xs).flatten (List.replicate k us).flatten
 |0=>.nil
 | k+1=>by
  rw[qF5,qF5,qE4,qE4];show Vals.append h (Vals.rep h k)
def foldl_rep (its:Jw):∀(k:Nat) (I:Jw),
  List.foldl (λO x2=>O++x2) I.toArray (List.replicate k its.toArray)=(I++(List.replicate k its).flatten).toArray:=by
 intro k
 induction k with
 |zero=>intro I;simp
 | succ k ih=>
  intro I;have e:I.toArray++its.toArray=(I++its).toArray:=Qj;have e2:(I++its)++(List.replicate k its).flatten=I++(List.replicate (k+1) its).flatten:=by
   rw[qF5,qE4,qB6]
  rw[<- e2,<- ih (I++its),<- e,qF5,List.foldl_cons]
def Inv.lset {σ:St}{its:Jw}(I:Inv X pins σ H s) (hH:H l=some (.lst xs)) (e:s.heap.get? l=some { cls:=.type "list",data:=.seq its.toArray n }) (hf:f its.toArray=its'.toArray) (O:Vals ys its') (hz:ys.length<=sizeLine):
  Inv X pins σ (upd H l (.lst ys)) { s with heap:=s.heap.update l (Obj.mapSeq f),toks:=t' }:=by
 have q:=PySem.IsL.update e f;rw[hf]at q;refine I.write (x:=l) (e:=l) (by rw[hH];show trivial) (.inl rfl) (λb' u hb hu=>(Heap.get?_update_other s.heap (Obj.mapSeq f) (Ne.symm hb)).trans hu) ⟨_,q⟩ ?_;show ⟨hz,its',_,O,q⟩
def Inv.lnew {σ:St}(I:Inv X pins σ H s) (O:Vals ys its) (hz:ys.length<=sizeLine):
  Inv X pins σ (upd H s.heap.objs.size (.lst ys)) { s with heap:=s.heap.push { cls:=.type "list",data:=.seq its.toArray },toks:=t' }:=
 I.laid (λ_ _ q=>qB3 _ q) (qB8 _) ⟨hz,its,0,O,qC8 _ rfl⟩
def Inv.fresh {σ:St}(I:Inv X pins σ H s):H s.heap.objs.size=none:=I.hok.fresh (qB8 _)
def Inv.lstM {σ:St}(I:Inv X pins σ H s) (O:H l=some (.lst xs)):xs.length<=sizeLine/\∃(its:Jw) (n:Nat),Vals xs its/\xs.length=its.length/\s.heap.get? l=some { cls:=.type "list",data:=.seq its.toArray n }:=by
 obtain ⟨z,its,n,r,e⟩:=I.hok l _ O;show ⟨z,its,n,r,r.length,e⟩
def sM (h:n<=sizeLine):Builtin.List.listTooLong n=false:=by
 unfold Builtin.List.listTooLong;show qL1 Qo
def rAppend:V->List V->Hp->VK->Prop:=λx vs H Q=>∃l xs y,x=.ref l/\vs = [y]/\H l=some (.lst xs)/\xs.length<sizeLine/\Q .non (upd H l (.lst (xs ++ [y])))
def gb:MtM X "list.append" rAppend:=by
 intro pins s σ H x vs v us Q I rx rv h;obtain ⟨l,xs,y,rfl,rfl,O,hz,q⟩:=h;cases rx;obtain ⟨u,rfl,ru⟩:=rv.one;obtain ⟨z,its,n,r,hl,e⟩:=I.lstM O;refine qP3 F.slot_list_append ⟨_,e,rfl⟩ F.entry_list_append (F.args_list_append_2 _ _) (PySem.list_append l its.toArray n u (by rw[qD6];omega)) ⟨e,?_⟩;refine ⟨.non,_,I.lset (its':=its ++ [u]) O e Qj (r.append (.cons ru .nil)) ?_,rfl,q⟩;rw[qA1,qO5];omega
def rCat:R2:=λx y H Q=>∃l b xs I,x=.ref l/\y=.ref b/\H l=some (.lst xs)/\H b=some (.lst I)/\xs.length+I.length<=sizeLine/\∀p,H p=none->Q (.ref p) (upd H p (.lst (xs++I)))
def j7:OpR X (binaryOp .Add) rCat:=by
 intro pins s σ H x y v u Q I rx ry h;obtain ⟨l,b,xs,zs,rfl,rfl,hH,hB,hz,q⟩:=h;cases rx;cases ry;obtain ⟨z,its,n,r,hl,e⟩:=I.lstM hH;obtain ⟨z2,O,n2,r2,a3,e2⟩:=I.lstM hB;refine PySem.P.add_list e e2 ?_ (by rw[qD6,qD6];omega);have ea:its.toArray++O.toArray=(its++O).toArray:=Qj;rw[ea];show ⟨.ref _,_,I.lnew (t':=s.toks) (r.append r2) (by rw[qA1];omega),rfl,q _ I.fresh⟩
def rRep:R2:=λx y H Q=>∃l k xs,x=.ref l/\y=.int k/\H l=some (.lst xs) /\ -(2^63)<=k/\k<2^63/\xs.length*k.toNat<=sizeLine /\
 ∀p,H p=none->Q (.ref p) (upd H p (.lst (List.replicate k.toNat xs).flatten))
def len_rep {α:Type}(xs:List α) (k:Nat):(List.replicate k xs).flatten.length=k*xs.length:=by
 induction k with
 |zero=>simp
 |succ k I=>rw[qF5,qE4,qA1,I,Nat.succ_mul,Nat.add_comm]
def Bi:OpR X (binaryOp .Mult) rRep:=by
 intro pins s σ H x y v u Q I rx ry h;obtain ⟨l,k,xs,rfl,rfl,hH,h1,h2,hz,q⟩:=h;cases rx;obtain ⟨t,rfl⟩:=ry;obtain ⟨z,its,n,r,hl,e⟩:=I.lstM hH;have hlen:its.toArray.size*k.toNat<=sizeLine:=by rw[qD6,<- hl];show hz
 have a3:¬ its.toArray.size*k.toNat>(2^63-1)/8:=by
  have:(sizeLine:Nat)<=(2^63-1)/8:=Qy
  omega
 have a4:¬ (!Builtin.List.listFitsIndex k)=true:=by
  rw[fitsIndex_both h1 h2];show qC0
 have O:¬ Builtin.List.listTooLong (its.toArray.size*k.toNat)=true:=by
  rw[sM hlen];show qC0
 have ae:List.foldl (λx1 x2=>x1++x2) #[] (List.replicate (if its.toArray.isEmpty=true then 0 else k.toNat) its.toArray)=(List.replicate k.toNat its).flatten.toArray:=by
  have f0:∀m:Nat,List.foldl (λx1 x2=>x1++x2) #[] (List.replicate m its.toArray)=(List.replicate m its).flatten.toArray:=λm=>by
   have:=foldl_rep its m []
   rw[qH8]at this;show this
  rw[f0];cases its with
  |nil=>simp
  |cons a r'=>rw[qB4 Qj]
 refine wpAny_binaryOp_repeat_ref (T := "list") (U := "int") Qy ⟨_,e,rfl⟩ (λs'=>typeIs_int s' k t) noFill_list_mul F.fills_int_mul F.slot_int_rmul repeat_list F.slot_int_index.lookup
  (qP3 F.slot_int_rmul (typeIs_int s k t) F.entry_int_rmul (F.args_int_rmul_2 _ _) (int___rmul___int_list k t l its.toArray n)
   ⟨e,rfl,⟨_,e,rfl⟩,qP3 F.slot_list_mul ⟨_,e,rfl⟩ F.entry_list_mul (F.args_list_mul_2 _ _) (AutoListH.list___mul___list_int_3 l its.toArray n k t a4 a3 O) ⟨e,?_⟩⟩)
 rw[ae];show ⟨.ref _,_,I.lnew (t':=s.toks) (r.rep k.toNat) (by rw[len_rep,Nat.mul_comm];show hz),rfl,q _ I.fresh⟩
end L2
namespace Att
open PySem PySem.W PySem.Calls PyProof.Rows
def eh:∀(ns:JQ) (vs:Jw),WellAll P h vs (ns.map WData.int)->IntsAre vs ns:=by
 intro ns
 induction ns with
 | nil=>
  intro vs w;rw[qG1]at w;cases w;show .nil
 | cons n ns I=>
  intro vs w;rw[qB2]at w;cases w with
  | cons a b=>
   cases a;show .cons _ _ (I _ b)
def nZ {l:OpenLaw}(hn:l.most=some n) (I:l.row.toRowW.claim.pre args=true) (a3:WellAll P h vals args):
  ∃a vs ns,vals = [Value.ref a]/\args = [WData.list (ns.map WData.int)]/\h.get? a=some { cls:=.type "list",data:=.seq vs.toArray }/\IntsAre vs ns/\ns.length<=n:=by
 have a4:WShape.hasAll [] args [.list .int]=true:=(pre_splitW I).1;have hc:l.pre.holds [] { args:=args }=true:=(pre_splitW I).2;obtain ⟨d,r,rfl,h1,h2⟩:=hasAllW_cons a4;obtain rfl:=hasAllW_nil h2;obtain ⟨xs,rfl,h3⟩:=hasW_list h1;obtain ⟨ns,rfl⟩:=items_int h3;have hlen:ns.length<=n:=by
  unfold OpenLaw.pre at hc;have h4:(WTm.not (.lt (.lit (.int (n:Int))) (.len (.arg 0)))).holds [] { args:=[.list (ns.map .int)] }=true:=by
   have h4:=(holds_andW hc).1;rw[hn]at h4;show h4
  have h5:=condW_of h4 (w_not (w_lt w_lit (w_len_list (w_arg rfl))));rw[qA0]at h5;refine Nat.le_of_not_lt λq=>?_;have q':(n:Int)<((ns.length:Nat):Int):=Qo
  first
   | (rw[qL6 q']at h5;show absurd h5 Qy)
   | (simp at h5;omega)
 cases a3 with
 | cons w1 w2=>
  cases w2;cases w1 with
  |list ho O=>show ⟨_,_,ns,rfl,rfl,ho,eh ns _ O,hlen⟩
def oJ (l:OpenLaw) (args:List WData):l.row.toRowW.claim.post args (.bool true) args=true:=
 postW_of (r:=l.row.toRowW) (X:=(true == true))
  (show WShape.has [] (.bool true) .bool=true by first|rfl|decide|simp [WShape.has,WShape.arms,WShape.armsAll])
  (show (WTm.eq .res (.lit (.bool true))).value [] { args:=args,res:=some (.bool true),after:=args }=some (.bool (true == true)) from w_eq_bool (w_res rfl) w_lit) rfl
end Att
namespace L2
open PySem PySem.Spec PyProof.Rows
def nD:∀{vs:Jw}{ns:JQ},IntsAre vs ns->Vals (ns.map V.int) vs:=by
 intro vs ns h
 induction h with
 |nil=>show .nil
 |cons n t h I=>show .cons ⟨t,rfl⟩ I
def nk (H:Hp):Prop:=∀b,H b=none\/∃o xs,H b=some (.frz o (.lst xs))
def tq {K:Frag}(KX:K.In s₁.heap) (b0:s₁.heap.Ns mainGlobals mg) (O:s₁.heap.Ns builtinsNs mb) (c1:∀x:Str,x ≠ "__name__" -> mb x=bootBuiltins x) (ae:s₁.heap.NoLimit) (hg:s₁.gens=#[]) (ha:s₁.heap.get? a=some { cls:=.type "list",data:=.seq vs.toArray }) (hi:IntsAre vs ns) (hl:ns.length<=sizeLine) (hr:Room k callerA) (F:∀base:Heap,K.In base->base.Ns mainGlobals mg->FnOk P w K mg base CX k fa fd [x] sp) (a4:∀(s:Shared) (u:Value),BindsTo s fd ⟨[u],[]⟩ [(x,u)]) (bc:∀H:Hp,nk H->SqL K H a (ns.map V.int)->sp [.ref a] H (λv _=>v=.bl true) λ_ _ _=>False) (bf:∀H e s',CX [] H s₁ (λ_ _ _=>False) e s'->False):
  codeAny (model P w) callerA (.call (.ref fa) ⟨[.ref a],[]⟩) (λr s'=>r=.ok (.ret (.bool true))/\OldK s₁.heap s'.heap/\s'.os=s₁.os/\AllBare s'.gens) s₁:=by
 have rv:=nD hi;have b3:=hi.length
 -- from an abstract heap in which nothing but the script may be tracked
 have core:∀H:Hp,nk H->SqL K H a (ns.map V.int)->HOk P w H s₁.heap->(∀b,H b≠none->b=a)->(H a≠none->K.lookup a=none) ->
   codeAny (model P w) callerA (.call (.ref fa) ⟨[.ref a],[]⟩) (λr s'=>r=.ok (.ret (.bool true))/\OldK s₁.heap s'.heap/\s'.os=s₁.os/\AllBare s'.gens) s₁:=by
  intro H hO hS hok hA hK;have I:∀{b:Addr}{o:Obj},s₁.heap.get? b=some o->H b=none->(bt s₁.heap H).get? b=some o:=λe n=>tG e n;have c2:∀{b:Addr}{o:Obj}{es:Array DictEntry}{ep:Nat},s₁.heap.get? b=some o->o.data=.dict es ep->H b=none:=λ{b o es ep} e d=>by
   cases q:H b with
   |none=>rfl
   | some u=>
    have e':b=a:=hA b (by rw[q];simp);subst e';rw[ha]at e;cases e;have d':Data.seq vs.toArray _=Data.dict es ep:=d;cases d'
  have a3:∀{b:Addr}{m:Jz},s₁.heap.Ns b m->(bt s₁.heap H).Ns b m:=λ{b m} zz45=>by obtain ⟨o,es,ep,e,d,r⟩:=zz45;show ⟨o,es,ep,I e (c2 e d),d,r⟩
  have b4:K.In (bt s₁.heap H):=λb o e=>I (KX b o e) (by
   cases q:H b with
   |none=>rfl
   | some u=>
    have e':b=a:=hA b (by rw[q];simp);subst e';rw[hK (by rw[q];simp)]at e;cases e)
  have hM:Mod K mg (bt s₁.heap H):=⟨b4,a3 b0,⟨mb,a3 O,c1⟩,let ⟨mc,h1,h2⟩:=ae;⟨mc,a3 h1,h2⟩⟩;have e0:nu P w K mg (bt s₁.heap H) callerA [] s₁ H:=⟨rfl,hM,λb o e=>wU e,Nat.le_of_eq (pX _ _),trivial,λb O=>absurd (show b∈([]:List Addr) from O) Qj,hok,.of_eq hg⟩;refine qS0 ((F _ b4 (a3 b0)).run callerA [] s₁ H ⟨[.ref a],[]⟩ [.ref a] [.ref a] _ _ hr e0 (a4 s₁ (.ref a)) (.cons rfl .nil) (bc H hO hS)) λr s' h=>?_;cases r with
  |error e=>show (bf H e s' h).elim
  | ok fl=>
   cases fl with
   |next=>show False.elim h
   |brk=>show False.elim h
   |cont=>show False.elim h
   | ret u=>
    obtain ⟨v,H',os,bare,un,b5,r',q⟩:=h;have q':v=.bl true:=q;subst q';obtain rfl:u=Value.bool true:=r';refine ⟨rfl,OldK.of_keep λb o e=>?_,os,bare⟩;cases q:H b with
    |none=>show un.keep b o e q (by intro z;show absurd (show b∈([]:List Addr) from z) Qj) Qj
    | some u=>
     rcases hO b with z|⟨ob,xs,z⟩
     .rw[q]at z;cases z
     .have z2:=un.frzs b ob _ z;obtain ⟨e1,_⟩:=hok b _ z;obtain ⟨e2,_⟩:=b5 b _ z2;rw[e]at e1;cases e1;show e2
 cases hk:K.lookup a with
 | some o=>
  -- the script is one of the module's own objects
  have e:=KX a o hk;rw[ha]at e;cases e;refine core (λ_=>none) (λ_=>.inl rfl) (.inr ⟨_,vs.toArray,_,hk,rfl,rfl,rfl,by rw[qD6,b3];show hl,by simpa using rv⟩) (λb u z=>by have z':(none:Option HO)=some u:=z;cases z') (λb z=>absurd rfl z) λz=>absurd rfl z
 | none=>
  refine core (λb=>if b=a then some (.frz { cls:=.type "list",data:=.seq vs.toArray } (.lst (ns.map V.int))) else none) (λb=>?_) (.inl (.inr ⟨{ cls:=.type "list",data:=.seq vs.toArray },qA9 rfl⟩)) (λb u z=>?_) (λb z=>?_) λ_=>hk
  .by_cases O:b=a
   .show .inr ⟨_,_,qA9 O⟩
   .show .inl (qB4 O)
  .by_cases O:b=a
   .have z':=(qA9 O).symm.trans z;cases z';subst O;show ⟨ha,by rw[qA0];show hl,vs,_,rv,ha⟩
   .have z':=(qB4 O).symm.trans z;cases z'
  .by_cases O:b=a
   .show O
   .show absurd (qB4 O) z
def N5 (s:Stmt):Arguments:=match s with
 | .FunctionDef _ a _ _ _ _ _ _ _ _=>a
 |_=>{ posonlyargs:=[],args:=[],vararg:=none,kwonlyargs:=[],kw_defaults:=[],kwarg:=none,defaults:=[] }
def J4 (s:Stmt):List Stmt:=match s with
 | .FunctionDef _ _ b _ _ _ _ _ _ _=>b
 |_=>[]
def c7 (s:Stmt):Scope:=match s with
 | .FunctionDef _ _ _ _ _ _ sc _ _ _=>sc
 |_=>{ kind:=.function,names:=[],isGenerator:=false,isCoroutine:=false }
abbrev CX0:CXT:=λ_ _ _ _ _ _=>False
abbrev E0:XK:=λ_ _ _=>False
def gM:cA CX0 X E0:=λ_ _ _ _ _ _ _ h=>h.elim
structure Fun (K:Frag) (x qual:Str) (st:Stmt) (f:Addr) (fd:FuncData):Prop where
 ex:∃(oc:Value) (od:Option Addr) (kV doc pm:Value) (an:Option Addr) (cdv ct:Value) (osl:Array (Option Value)),
  fd=PySem.W.fnOf x qual (N5 st) (J4 st) (c7 st) .none kV doc pm an cdv ct/\K.lookup f=some ⟨oc,od,.func fd,osl⟩/\PySem.W.codeIn K cdv qual=true
 kp:PySem.W.keepIn K (.ref f)=true
def Fun.ok {K:Frag}{st:Stmt}(F:Fun K x qual st f fd) (S:i4 N ps (c7 st)) (len:∀vs H Q E,sp vs H Q E->vs.length=ps.length) (I:∀(cdv:Value) (A:Around) (outer:List Env) (s:Shared) (H:Hp) (vs:List V) (Q:VK) (E:XK),Room k (A.deeper (envOfC qual (c7 st) s.heap.objs.size f cdv))->sp vs H Q E ->
   ∃t,PSs (m8 CX0 P w K mg base N qual (c7 st) f cdv A outer s H E).nox (J4 st) t/\t { nx:=λ_ H'=>Q .non H',rt:=Q } (start N vs) H):FnOk P w K mg base CX0 (k+1) f fd ps sp:=by
 obtain ⟨oc,od,kV,doc,pm,an,cdv,ct,osl,rfl,lk,a3⟩:=F.ex;refine vx lk a3 S len λA outer s H vs Q E hr O=>?_;obtain ⟨t,h,q⟩:=I cdv A outer s H vs Q E hr O;show ⟨t,h.nox,q⟩
def Fun.binds {K:Frag}{st:Stmt}(F:Fun K x qual st f fd) (h:∀(kV doc pm:Value) (an:Option Addr) (cdv ct:Value) (us:Jw),us.length=ps.length->bindArgs (PySem.W.fnOf x qual (N5 st) (J4 st) (c7 st) .none kV doc pm an cdv ct) ⟨us,[]⟩=pure (ps.zip us)):Binds K fd ps []:=by
 obtain ⟨oc,od,kV,doc,pm,an,cdv,ct,osl,rfl,lk,I⟩:=F.ex;show .all (h kV doc pm an cdv ct)
def pY {K:Frag}{st:Stmt}{kV:Value}(l:K.lookup f=some ⟨oc,od,.func (PySem.W.fnOf x qual (N5 st) (J4 st) (c7 st) .none kV doc pm an cdv ct),osl⟩)(c:PySem.W.codeIn K cdv qual=true)(k:PySem.W.keepIn K (.ref f)=true):Fun K x qual st f (PySem.W.fnOf x qual (N5 st) (J4 st) (c7 st) .none kV doc pm an cdv ct):=⟨⟨oc,od,kV,doc,pm,an,cdv,ct,osl,rfl,l,c⟩,k⟩
def nN (h:n<=1000):n<sizeLine:=qJ7 h Qy
def pv {X:Cx}(i:Nat){x:Str}{pos:Pos}(hN:X.N[i]?=some x:=by rfl)(O:Vis X.env.scope x:=by first|show Or.inl rfl|show Or.inr (Or.inl rfl)|show Or.inr (Or.inr rfl))(hd:(x == ("__debug__" : Str))=false:=by decide)(I:(x == ("__classdict__" : Str))=false:=by decide):PE X (.Name x pos) (m9 i):=t8 hN O hd I
def Same (H H':Hp):Prop:=∀b o,H b=some o->H' b=some o
def Same.refl (H:Hp):Same H H:=λ_ _ h=>h
def Same.trans (a:Same H H1)(b:Same H1 H2):Same H H2:=λc o h=>b c o (a c o h)
def Same.free (e:Same H H') (h:H' l=Option.none):H l=Option.none:=by
 cases q:H l with
 |none=>rfl
 | some o=>
  rw[e l o q]at h;cases h
def Same.seq {K:Frag}(e:Same H H') (h:SqL K H a xs):SqL K H' a xs:=by
 rcases h with (h|⟨o,h⟩)|h
 .show .inl (.inl (e _ _ h))
 .show .inl (.inr ⟨o,e _ _ h⟩)
 .show .inr h
def Dk (h h':Heap):Prop:=∀b o,h.get? b=some o->∃o',h'.get? b=some o'/\o'.cls=o.cls/\o'.dict=o.dict
def Dk.refl (h:Heap):Dk h h:=λb o e=>⟨o,e,rfl,rfl⟩
def Dk.trans (a:Dk h h1) (b:Dk h1 h2):Dk h h2:=λc o e=>by
 obtain ⟨o1,O,c1,d1⟩:=a c o e;obtain ⟨o2,e2,I,d2⟩:=b c o1 O;show ⟨o2,e2,I.trans c1,d2.trans d1⟩
structure KD {α:Type}(t:Sem α):Prop where
 out:∀(M:Model) (Γ:PySem.Ctx) (P:α->Pos->Shared->Prop) (Ee:Value->Pos->Shared->Prop) (p:Pos) (s:Shared),
  Sem.wp M Γ t P Ee p s->Sem.wp M Γ t (λa p' s'=>P a p' s'/\Dk s.heap s'.heap) Ee p s
def KD.pure (a:α):KD (pure a:Sem α):=⟨λM Γ P Ee p s h=>⟨h,Dk.refl _⟩⟩
def KD.uns (w:String):KD (unsupported w:Sem α):=⟨λM Γ P Ee p s h=>h⟩
def KD.bind {f:α->Sem β}(hm:KD m) (O:∀a,KD (f a)):KD (m>>=f):=⟨λM Γ P Ee p s h=>by
 have h':Sem.wp M Γ (m.bind f) P Ee p s:=h;rw[qI2]at h'
 change Sem.wp M Γ (m.bind f) _ Ee p s;rw[qI2];refine qK1 M Γ m ?_ ?_ p s (hm.out M Γ _ Ee p s h')
 .intro a p' s' ⟨q,d⟩;show qK1 M Γ (f a) (λb p2 s2 I=>by obtain ⟨q2,d2⟩:=I;show ⟨q2,d.trans d2⟩) (λ_ _ _ x=>x) p' s' ((O a).out M Γ _ Ee p' s' q)
 .show λ_ _ _ x=>x⟩
def KD.load (a:Addr):KD (load a):=⟨λM Γ P Ee p s h=>by
 obtain ⟨o,e,q⟩:=h;show ⟨o,e,q,Dk.refl _⟩⟩
def KD.stack:KD stack:=⟨λM Γ P Ee p s h=>⟨h,Dk.refl _⟩⟩
def Dk.push:Dk h (h.push o):=λb u e=>⟨u,qB3 _ e,rfl,rfl⟩
def KD.alloc (o:Obj):KD (alloc o):=⟨λM Γ P Ee p s h=>⟨h,Dk.push⟩⟩
def KD.ite [Decidable c]{a:Sem α}(ha:KD a) (I:KD b):KD (if c then a else b):=by
 by_cases h:c
 .rw[qA9 h];show ha
 .rw[qB4 h];show I
def jS {h:Heap}(e:h.get? a=some o):o.isFreed=false:=by
 obtain ⟨c,d,I,sl⟩:=o;unfold Heap.get? at e
 split at e
 .cases e
 .rename_i hn
  cases I with
  |freed=>show absurd e (λq=>hn _ _ _ q)
  |_=>rfl
def Dk.update (hc:∀o,(f o).cls=o.cls) (hd:∀o,(f o).dict=o.dict) (O:∀o,o.isFreed=false->(f o).isFreed=false):Dk h (h.update a f):=by
 intro b o e;by_cases I:b=a
 .subst I;show ⟨f o,qH6 f e (O o (jS e)),hc o,hd o⟩
 .show ⟨o,by rw[Heap.get?_update_ne h b a f I];show e,rfl,rfl⟩
def KD.update (a:Addr) (hc:∀o,(f o).cls=o.cls) (hd:∀o,(f o).dict=o.dict) (I:∀o,o.isFreed=false->(f o).isFreed=false):KD (update a f):=
 ⟨λM Γ P Ee p s h=>⟨h.1,h.2,Dk.update hc hd I⟩⟩
def KD.fieldsOf (v:Value):KD (fieldsOf v):=by
 unfold PySem.fieldsOf
 split
 .show KD.bind (KD.load _) λo=>by split <;> first|show KD.pure _|show KD.uns _
 .show KD.uns _
def KD.field (v:Value) (i:Nat):KD (field v i):=by
 unfold PySem.field;show KD.bind (KD.fieldsOf v) λo=>by split <;> first|show KD.pure _|show KD.uns _
def sY (f:Array Value->Array Value) (o:Obj):(Obj.mapFields f o).cls=o.cls:=by
 obtain ⟨c,d,I,sl⟩:=o;cases I <;> rfl
def pB (f:Array Value->Array Value) (o:Obj):(Obj.mapFields f o).dict=o.dict:=by
 obtain ⟨c,d,I,sl⟩:=o;cases I <;> rfl
def mH (f:Array Value->Array Value) (o:Obj) (h:o.isFreed=false):(Obj.mapFields f o).isFreed=false:=by
 obtain ⟨c,d,I,sl⟩:=o;cases I <;> first|rfl|show h
def KD.setField (v:Value) (i:Nat) (x:Value):KD (setField v i x):=by
 unfold PySem.setField
 split
 .unfold PySem.updateField;refine KD.bind (KD.load _) λo=>?_
  split
  .show KD.ite (KD.update _ (sY _) (pB _) (mH _)) (KD.uns _)
  .show KD.uns _
 .show KD.uns _
def KD.setFlight (v:Value) (f:Option Addr):KD (setFlight v f):=by
 unfold PySem.setFlight;show KD.bind (KD.field _ _) λo=>KD.ite (KD.setField _ _ _) (KD.pure _)
def KD.newEntry (a b c d e:Value) (l:Jw):KD (EntryCells.newEntry a b c d e l):=by
 unfold EntryCells.newEntry newFields newObj;refine KD.ite (KD.bind (KD.uns _) λ_=>?_) ?_
 all_goals show KD.bind (KD.alloc _) λ_=>KD.pure _
def KD.behind (env:Env) (l:List Env):KD (behindIsImport env l):=by
 unfold behindIsImport;show KD.ite (KD.pure _) (KD.ite (KD.pure _) (KD.bind (KD.field _ _) λ_=>KD.pure _))
def KD.under:KD underTheClaimsCaller:=KD.bind KD.stack λ_=>KD.pure _
def KD.keptBack (env:Env) (b:Bool) (l:List Env):KD (keptBack env b l):=by
 unfold PySem.keptBack
 split
 .show KD.ite (KD.pure _) (KD.bind KD.under λ_=>KD.pure _)
 .show KD.pure _
def KD.ready:∀l:List Env,KD (readyFrames l)
 | []=>KD.pure _
 | env::l=>by
  rw[readyFrames.eq_2]
  split
  .refine KD.bind (KD.load _) λo=>KD.ite (KD.pure _) (KD.bind (KD.behind _ _) λ_=>KD.bind (KD.keptBack _ _ _) λ_=>KD.bind (KD.update _ (λ_=>rfl) (λ_=>rfl) λo h=>?_) λ_=>KD.ready l);obtain ⟨c,d,I,sl⟩:=o;cases I <;> first|rfl|show h
  .show KD.uns _
def KD.frameOf (env:Env):KD (PySem.frameOf env):=by
 unfold PySem.frameOf;refine KD.bind (KD.bind KD.stack λ_=>KD.pure _) λl=>KD.bind ?_ λo=>?_
 .unfold frameObject
  split
  .show KD.pure _
  .show KD.bind (KD.ready _) λ_=>KD.pure _
 .split <;> first|show KD.pure _|show KD.uns _
def KD.entryPlace (f:Addr) (b:Bool):KD (entryPlaceOf f b):=by
 unfold entryPlaceOf;refine KD.bind KD.stack λo=>?_
 split <;> show KD.pure _
def KD.noteFrame (e:Value) (env:Env):KD (noteFrame e env):=by
 unfold PySem.noteFrame
 split
 .refine KD.bind (KD.field _ _) λhd=>?_;refine KD.ite (KD.bind (KD.field _ _) λx=>KD.ite (KD.pure _) (KD.bind (KD.setField _ _ _) λ_=>?_)) ?_
  all_goals show KD.bind (KD.frameOf _) λ_=>KD.bind (KD.entryPlace _ _) λ_=>KD.bind (KD.newEntry _ _ _ _ _ _) λ_=>KD.setField _ _ _
 .show KD.uns _
def KD.leaving (env:Env)(e:Value):KD (leaving env e):=KD.bind (KD.noteFrame e env) λ_=>KD.setFlight _ _
def KD.any {t:Sem α}(k:KD t) (h:wpAny M A t Q E s):wpAny M A t (λa s'=>Q a s'/\Dk s.heap s'.heap) E s:=
 λΓ p hΓ=>k.out M Γ _ _ p s (h Γ p hΓ)
def cut (h:Heap)(fs:List Addr):Heap:={ h with objs:=h.objs.mapIdx λi o=>if i∈fs then { o with data:=.freed } else o }
def eE (I:b∈fs):(cut h fs).get? b=none:=by
 unfold cut Heap.get?;simp only [Array.getElem?_mapIdx];cases e:h.objs[b]? with
 |none=>rfl
 |some o=>simp [I]
def lf (I:b∉fs):(cut h fs).get? b=h.get? b:=by
 unfold cut Heap.get?;simp only [Array.getElem?_mapIdx];cases e:h.objs[b]? with
 |none=>rfl
 |some o=>simp [I]
def gs:(cut h fs).StaysIn h:=λb o e=>by
 by_cases I:b∈fs
 .rw[eE I]at e;cases e
 .rw[lf I]at e;show e
def FunFrames.rebase {h:Heap}:∀{l:List Env},(∀L∈frs l,B.get? L=none)->h.FunFrames base l->h.FunFrames B l
 | [],_,_=>trivial
 | env::l,k,⟨hk,⟨L,o,hf,_,ho,hd⟩,r⟩=>by
  refine ⟨hk,⟨L,o,hf,k L ?_,ho,hd⟩,FunFrames.rebase (λO I=>k O ?_) r⟩
  .unfold frs;rw[qE9,hf];show qA2
  .unfold frs at I ⊢;rw[qE9,hf];show qA4 _ I
def HOk.fly {B:Heap}(x:HOk P w H h) (st:B.StaysIn h) (I:B.StaysIn h') (inB:∀b o,H b=some o->∃ob,B.get? b=some ob):HOk P w H h':=λa o e=>
 (x a o e).stay (λb u O q=>by
  have y:∃ob,H b=some ob:=O.elim (λz=>z ▸ ⟨o,e⟩) λz=>⟨_,z⟩;obtain ⟨ob,z⟩:=y;obtain ⟨ou,y⟩:=inB b ob z;have t:=st b ou y;rw[q]at t;cases t;show I b _ y) (λ_ q=>q) λ_ _ q=>q
def Un.fly {B:Heap}(u:Un fs [] H H' h0 h) (st:B.StaysIn h) (a3:B.StaysIn h') (up:h.UpToSlots h') (all:∀b o,h0.get? b=some o->b∉fs->∃o',B.get? b=some o') (fr:∀b∈fs,∃o,h.get? b=some o/\∀vs:Array Value,o.data≠.fields vs):Un fs [] H H' h0 h' where
 keep b o q n I hx:=by
  have t:=u.keep b o q n I hx;obtain ⟨o',y⟩:=all b o q I;have z:=st b o' y;rw[t]at z;cases z;show a3 b _ y
 slot b o q n I hx:=by
  obtain ⟨sl,e⟩:=u.slot b o q n I hx;obtain ⟨o2,e2,nd⟩:=fr b I;rw[e]at e2;cases e2;obtain ⟨O,e'⟩:=up b _ e nd;show ⟨O,e'⟩
 free:=u.free
 there b o q hx:=by
  by_cases I:b∈fs
  .obtain ⟨o2,e2,nd⟩:=fr b I;obtain ⟨O,e'⟩:=up b _ e2 nd;show ⟨_,e'⟩
  .obtain ⟨o',y⟩:=all b o q I;show ⟨_,a3 b _ y⟩
 tups:=u.tups
 frzs:=u.frzs
 tbls:=u.tbls
def ObjOk.got (x:ObjOk P w H h a o):∃ob,h.get? a=some ob:=by
 cases o with
 |lst xs=>obtain ⟨_,_,_,_,e⟩:=x;show ⟨_,e⟩
 |tup xs=>obtain ⟨_,_,_,ob,e,_⟩:=x;show ⟨_,e⟩
 |dK kvs=>obtain ⟨_,_,_,_,o,_,_,e,_⟩:=x;show ⟨_,e⟩
 |dT kvs=>obtain ⟨_,_,_,_,o,_,_,e,_⟩:=x;show ⟨_,e⟩
 |set S n=>obtain ⟨o,_,_,_,e,_⟩:=x;show ⟨_,e⟩
 |ins C dx fs=>obtain ⟨_,_,_,e,_⟩:=x;show ⟨_,e⟩
 |own y=>obtain ⟨_,e⟩:=x;show ⟨_,e⟩
 |xd fs=>obtain ⟨_,⟨_,_,_,e,_⟩,_⟩:=x;show ⟨_,e⟩
 |rng lo hi=>obtain ⟨_,_,_,e⟩:=x;show ⟨_,e⟩
 |frz ob u=>obtain ⟨e,_⟩:=x;show ⟨_,e⟩
 |tbl ps=>show ⟨_,show h.get? a=some _ from x⟩
 |met f y=>show ⟨_,show h.get? a=some _ from x⟩
 |ext φ=>show x.2.1
structure vI (P:Program) (w:World) (outer:List Env) (H:Hp) (s:Shared) (a:Addr) (B:Heap) (H':Hp) (cls:Value) (od:Option Addr) (s':Shared):Prop where
 fl:∃a0,B.FlyingW outer a cls a0 s'.heap
 dict:∃o,s'.heap.get? a=some o/\o.dict=od
 os:s'.os=s.os
 bare:AllBare s'.gens
 un:Un (frs outer) [] H H' s.heap s'.heap
 hok:HOk P w H' s'.heap
 inB:∀b o,H' b=some o->∃ob,B.get? b=some ob
 all:∀b o,s.heap.get? b=some o->b∉frs outer->∃o',B.get? b=some o'
def CXW (P:Program)(w:World):CXT:=λouter H s E e s'=>∃a B H' cls od,e=.ref a/\vI P w outer H s a B H' cls od s'/\E cls od H'
def vw {h:Heap}(F:h.FunFrames B l):∀b∈frs l,∃o,h.get? b=some o/\∀vs:Array Value,o.data≠.fields vs:=λb I=>(F.mem I).2
def fZ {s:Shared}(e:s.heap.get? b=some o) (I:b∉frs outer):b∉frs (envOfC qual scope s.heap.objs.size f cd::outer):=by
 have:frs (envOfC qual scope s.heap.objs.size f cd::outer)=s.heap.objs.size::frs outer:=rfl
 rw[this];intro z;rcases qA7.mp z with z|z
 .show absurd (qC7 e) (by rw[z];show qG7 _)
 .show I z
def kQ {K:Frag}{σ:St}{B:Heap}(I:Inv (m8 (CXW P w) P w K mg base N qual scope f cd A outer s H E) pins σ H' s2) (st:B.StaysIn s2.heap) (dict:∃o,s2.heap.get? a=some o/\o.dict=od) (inB:∀b o,H' b=some o->∃ob,B.get? b=some ob) (all:∀b o,s.heap.get? b=some o->b∉frs outer->∃o',B.get? b=some o') (fl:B.FlyingW outer a cls a0 h') (up:s2.heap.UpToSlots h') (d:Dk s2.heap h') (hE:E cls od H'):CXW P w outer H s E (.ref a) { s2 with heap:=h' }:=by
 refine ⟨a,B,H',cls,od,rfl,⟨⟨a0,fl⟩,?_,I.os,I.bare,?_,HOk.fly I.hok st fl.1 inB,inB,all⟩,hE⟩
 .obtain ⟨o,e,q⟩:=dict;obtain ⟨o',O,_,q'⟩:=d a o e;show ⟨o',O,q'.trans q⟩
 .show Un.fly I.base st fl.1 up all (vw I.funs)
def mn {K:Frag}:cA (CXW P w) (m8 (CXW P w) P w K mg base N qual scope f cd A outer s H E) E:=by
 rintro pins σ H1 s1 e s2 I ⟨a,B,H',cls,od,rfl,F,hE⟩;have I2:=I.call' F.os F.un F.hok F.bare (λb z=>absurd z Qj);obtain ⟨a0,fl⟩:=F.fl;refine qM3 (KD.any (KD.leaving _ _) (wpAny_leaves_onW (Q:=λ_ a3=>∃h',a3={ s2 with heap:=h' }/\B.FlyingW outer a cls a0 h'/\s2.heap.UpToSlots h') I.ok.frames rfl fl λh' f u=>⟨h',rfl,f,u⟩)) (λ_ a3 O=>?_) λ_ _ x=>x;obtain ⟨⟨h',e,f,u⟩,d⟩:=O;subst e;refine kQ I2 fl.1 F.dict F.inB (λb o q hb=>?_) f u d hE;obtain ⟨o1,q1⟩:=I.base.there b o q (by simp [m8]);show F.all b o1 q1 (fZ q hb)
def jQ {K:Frag}{σ:St}(I:Inv (m8 (CXW P w) P w K mg base N qual scope f cd A outer s H E) pins σ H' s2) (he:s2.heap.get? a=some oe) (ha:s.heap.get? a=none) (hH:H' a=none) (ae:a∉frs (envOfC qual scope s.heap.objs.size f cd::outer)) (hd:oe.data=.fields vs) (h1:vs[1]?=some .none) (h0:vs[0]?=some a0) (hE:E oe.cls oe.dict H'):
  (m8 (CXW P w) P w K mg base N qual scope f cd A outer s H E).xe (.ref a) s2:=by
 have hB:∀{b:Addr},b∉frs (envOfC qual scope s.heap.objs.size f cd::outer)->b≠a->(cut s2.heap (a::frs (envOfC qual scope s.heap.objs.size f cd::outer))).get? b=s2.heap.get? b:=λh1 h2=>
  lf λz=>(qA7.mp z).elim h2 h1
 have ff:s2.heap.FunFrames (cut s2.heap (a::frs (envOfC qual scope s.heap.objs.size f cd::outer))) (envOfC qual scope s.heap.objs.size f cd::outer):=
  FunFrames.rebase (λL hL=>eE (qA4 _ hL)) I.stack
 refine qM3 (KD.any (KD.leaving _ _) (wpAny_leaving_firstW (Q:=λ_ a4=>∃h',a4={ s2 with heap:=h' }/\(cut s2.heap (a::frs (envOfC qual scope s.heap.objs.size f cd::outer))).LeftW (envOfC qual scope s.heap.objs.size f cd::outer) a oe.cls a0 s2.heap h') I.ok.frames ff rfl he gs (eE qA2) hd h1 h0 λh' l=>⟨h',rfl,l⟩)) (λ_ a4 a3=>?_) λ_ _ x=>x;obtain ⟨⟨h',e,l⟩,d⟩:=a3;subst e;obtain ⟨l1,l2,l3,l4⟩:=l;refine kQ I gs ⟨oe,he,rfl⟩ (λb o q=>?_) (λb o q hb=>?_) (a0:=a0) ⟨l1,eE qA2,l2.2.2,l3⟩ l4 d hE
 .have hb:b∉frs (envOfC qual scope s.heap.objs.size f cd::outer):=λz=>by
   have:=I.stkFree b z;rw[q]at this;cases this
  have O:b≠a:=λz=>by rw[z,hH]at q;cases q
  obtain ⟨ob,eb⟩:=(I.hok b o q).got;show ⟨ob,by rw[hB hb O];show eb⟩
 .have O:b≠a:=λz=>by rw[z,ha]at q;cases q
  obtain ⟨o1,q1⟩:=I.base.there b o q (by simp [m8]);show ⟨o1,by rw[hB (fZ q hb) O];show q1⟩
def tY {K:Frag}(O:K.In h) (I:PySem.W.InstAt h x ox C od) (hs:PySem.W.mroIn K C T=some b):PySem.W.Looks M h (isInstance (.ref x) T) b:=by
 intro A Q E s hh q;unfold isInstance;show qA8 (I.type A _ E s hh (PySem.W.looks_mroIn O hs A _ E s hh q))
def xB:builtinKind "BaseException.__getattribute__" = some Manifest.AttrKind.slot:=Qx
def rB:splitId "BaseException.__getattribute__" = some ("BaseException","__getattribute__"):=Qx
def jT {K:Frag}{fill:Bool}(O:K.In s.heap) (I:PySem.W.InstAt s.heap x ox C od) (a3:PySem.W.findIn K (.ref C) (Str.ofString "__getattribute__")=some (some (.builtin "BaseException.__getattribute__"))) (hh:PySem.W.findIn K (.ref C) (Str.ofString "__getattr__")=some none) (hs:PySem.W.mroIn K C (.type "BaseException")=some true) (ho:PySem.W.mroIn K C (.type "object")=some true) (S:Slot "ValueError" (Str.ofString "__getattribute__") "BaseException.__getattribute__") (hf:PySem.W.findObj K C od (Str.ofString "__class__")=some (.bind (.builtin "getset_descriptor.__get__") (.builtin "object.__class__"))) (q:Q (.ref C) s):
  wpAny (model prog w) A (getAttrBy (.ref x) (.str (Str.ofString "__class__") tk) fill expr) Q E s:=by
 unfold getAttrBy;refine qN2 (qA8 (I.type A _ E s (λ_ _ e=>e) (qA8 (PySem.W.looks_findIn O a3 A _ E s (λ_ _ e=>e) ?_))))
 change wpAny _ _ (getAttrByItsOwn _ _ _ _ _ _) _ _ _;unfold getAttrByItsOwn;refine qA8 (PySem.W.looks_hook (mc:=.ref C) O (r:=none) ((qA9 (show onTheHeap (.ref C)=true from rfl)).trans hh) A _ E s (λ_ _ e=>e) (qA8 (qQ9 (qN2 ?_))));unfold callGetattribute;have e1:(expr&&onTheHeap (Value.builtin "BaseException.__getattribute__"))=false:=by cases expr <;> rfl
 rw[e1]
 change wpAny _ _ (boundAndCalled _ _ _) _ _ _;unfold boundAndCalled;rw[S.bind];refine qA8 (qL7 ?_);refine wpAny_call (codeAny_call_builtin S.plain F.entry_bexc_ga ?_);change wpAny (model prog w) A.in1 (checkBuiltinCall "BaseException.__getattribute__" ⟨[.ref x,.str (Str.ofString "__class__") tk],[]⟩) _ _ s;refine PySem.W.check_slot (i := "BaseException.__getattribute__") (self:=.ref x) (rest:=[.str (Str.ofString "__class__") tk]) (kw:=[]) (owner := "BaseException") (n := "__getattribute__") xB rB (tY O I hs) (F.args_bexc_ga _ _) ?_;unfold Builtin.«object.__getattribute__»;refine qA8 (qL7 ?_);refine qA8 (qL7 ?_);refine qA8 (I.type _ _ _ s (λ_ _ e=>e) (qA8 (PySem.W.looks_find O I hf _ _ _ s (λ_ _ e=>e) ?_)))
 change wpAny _ _ (Builtin.ObjectAttr.bindTo _ _ _ _) _ _ _;unfold Builtin.ObjectAttr.bindTo;refine qA8 (qN2 (wpAny_call (PySem.W.class_get O I ho ?_)));refine qL7 ?_
 change wpAny _ _ (handedOut (.ref C)) _ _ _;show qL7 q
def jm {K:Frag}(a3:PySem.W.findIn K (.ref C) (Str.ofString "__getattribute__")=some (some (.builtin "BaseException.__getattribute__"))) (hh:PySem.W.findIn K (.ref C) (Str.ofString "__getattr__")=some none) (hs:PySem.W.mroIn K C (.type "BaseException")=some true) (O:PySem.W.mroIn K C (.type "object")=some true) (hf:PySem.W.findObj K C od (Str.ofString "__class__")=some (.bind (.builtin "getset_descriptor.__get__") (.builtin "object.__class__"))) (hc:PySem.W.kitCls K (.ref C) (.ref C)=some true):
  PySem.W.KitX K (.ref x) (.ref C) λh=>PySem.W.InstAt h x ox C od where
 ty M h KX I:=I.type
 it M h KX I:=(PySem.W.kit_cls KX hc).2.1
 ne h tp dd its n sl KX e:=by
  by_cases q:C=tp
  .subst q;exfalso;unfold PySem.W.mroIn PySem.W.clsIn at O
   split at O
   .rename_i e2
    have z:=KX _ _ e2;rw[e]at z;cases z
   .cases O
  .simp [q]
 ca {prog w A E Q s} KX I q:=by
  unfold getAttr?;refine qA8 (wpAny_mkText ?_);unfold getAttrBy?;show qA8 (qQ9 (jT (s:={ s with toks:=s.toks+1 }) KX I a3 hh hs O F.attr_ValueError.ga hf (qL7 q)))
def Ready (K:Frag) (E:Jp) (v:Value) (s:Shared):Prop:=
 ∃ (e:Addr) (I:Obj) (vs:Jy) (C:Addr),v=.ref e/\K.In s.heap/\s.heap.get? e=some I/\I.cls=.ref C/\I.data=.fields vs/\vs[1]?=some .none /\
  PySem.W.mroIn K C (.type "BaseException")=some true/\PySem.W.typeIn K (.ref C)=some (.type "type")/\E (.ref e) s
def qe {K:Frag}(hh:A.handled=none) (hx:wpAny (model prog w) A (eval x env) (Ready K E) E s):wpAny (model prog w) A (exec (.Raise (some x) none pos) env) Q E s:=by
 rw[arm_exec_Raise];refine qA8 (qR0 ?_)
 change wpAny _ _ (raiseStmt env (some (eval x env>>=λv=>standAt pos>>=λ_=>Pure.pure v)) none) _ _ _;unfold raiseStmt;refine qA8 (qA8 (thn hx λv s1 hv=>qA8 (qR0 (qL7 ?_))));obtain ⟨e,oe,vs,C,rfl,O,I,hc,hd,h1,hm,ht,hE⟩:=hv;have nt:∀(Q:Bool->Shared->Prop),Q false s1->wpAny (model prog w) A (isType (.ref e)) Q E s1:=λQ q=>by
  unfold isType;refine qA8 (wpAny_loadPart I (qL7 ?_));rw[hd];show q
 have ty:∀(Q:Jp),Q (.ref C) s1->wpAny (model prog w) A (typeOf (.ref e)) Q E s1:=λQ q=>by
  unfold typeOf;show qA8 (wpAny_loadPart I (qL7 (by rw[hc];show q)))
 refine qA8 (qL7 ?_);refine qA8 (qN2 ?_);unfold excFromValue;refine qA8 ?_;unfold isExcClass;refine qA8 (nt _ (qL7 ?_));refine qA8 ?_;unfold isInstance;refine qA8 (ty _ (PySem.W.looks_mroIn O hm _ _ _ _ (λ_ _ e=>e) (qL7 ?_)));refine qA8 (nt _ ?_);refine qA8 ?_;unfold raisedInstance;refine qA8 (ty _ (qA8 (PySem.W.looks_typeIn O ht _ _ _ _ (λ_ _ e=>e) (qL7 ?_))));refine qA8 ?_;unfold setFlight;refine qA8 ?_;unfold field fieldsOf;refine qA8 (qA8 (wpAny_load I ?_));rw[hd];refine qL7 ?_;rw[h1];refine qL7 (qL7 ?_);show wpAny_raiseNew_none hh hE
def aa {σ:St}(I:Inv X pins σ H s) (e:X.s₀.heap.get? b=some o):b≠X.env.locals:=by
 intro z;have l:=qC7 e;have a:=I.ok.above;rw[<- z]at a;show absurd l (Nat.not_lt.mpr a)
def Inv.reloc {σ O:St}(I:Inv X pins σ H s) (hs:Heap.SameBut X.env.locals s.heap h') (hn:h'.Ns X.env.locals m') (hl:O.length=σ.length) (lk:∀(i:Nat) (x:Str) (v:V),X.N[i]?=some x->O[i]?=some (some v)->Vis X.env.scope x->∃u,RelV v u/\Look X.env h' m' x u):Inv X pins O H { s with heap:=h',toks:=tk } where
 ok:=I.ok
 os:=I.os
 bare:=I.bare
 base:={
  keep:=λb o e n p q=>(hs.2 b (aa I e)).trans (I.base.keep b o e n p q)
  slot:=λb o e n p q=>by
   obtain ⟨sl,y⟩:=I.base.slot b o e n p q;show ⟨sl,(hs.2 b (aa I e)).trans y⟩
  free:=I.base.free
  there:=λb o e q=>by
   obtain ⟨o',y⟩:=I.base.there b o e q;show ⟨o',(hs.2 b (aa I e)).trans y⟩
  tups:=I.base.tups
  frzs:=I.base.frzs
  tbls:=I.base.tbls }
 loc:=⟨m',hn,lk⟩
 cell:=λx c e=>by
  obtain ⟨v,z⟩:=I.cell x c e;show ⟨v,z.sameBut hs (I.cne x c e)⟩
 free:=I.free
 freeC:=I.freeC
 pin:=λp hp=>by
  obtain ⟨a,b,c,d⟩:=I.pin p hp;show ⟨(hs.2 p.1 c).trans a,b,c,d⟩
 hok:=λb ob e=>by
  have a4:∀c,(∃q,H c=some q)->c≠X.env.locals:=λc a3 z=>by obtain ⟨q,hq⟩:=a3;rw[z,I.free]at hq;cases hq
  show (I.hok b ob e).stay (λc u hc q=>(hs.2 c (a4 c (hc.elim (λz=>⟨ob,z ▸ e⟩) λz=>⟨_,z⟩))).trans q) (λ_ q=>q) λ_ _ q=>q
 len:=hl.trans I.len
def cO {σ:St}(I:Inv X pins σ H s) (hN:X.N.Nodup) (hi:X.N[i]?=some x) (hk:X.env.kindOf x=some .local) (hq:∀s',Inv X pins (σ.set i none) H s'->Q () s'):wpAny M A (do bindName X.env x Value.none;unbindBehindTheSuite X.env x pos) Q E s:=by
 have a3:(X.env.scope.kind == .class||(X.env.scope.kind == .module&&X.env.locals != X.env.globals))=false:=by rw[I.ok.kind];rfl
 have O:i<σ.length:=by rw[I.len];show (qA5.mp hi).1
 unfold bindName;refine qA8 (qA8 (qN2 (wpAny_point (qA8 (aX (v:=.non) I hN hi (.inl hk) rfl (λs1 I1=>?_) (.inr hk))))));refine wpAny_point ?_;unfold unbindBehindTheSuite;obtain ⟨m,hn,lk⟩:=I1.loc;obtain ⟨u,ru,l⟩:=lk i x .non hi (qE0 O) (.inl hk);have hm:m x=some u:=by
  rcases l with ⟨_,e⟩|⟨k,_⟩
  .show e
  .rcases k with k|k <;> (rw[hk]at k;cases k)
 refine wpAny_onRaise (wpAny_unbindName_local hk hn hm a3 λh' z a4 hs=>hq _ (Inv.reloc (tk:=s1.toks) I1 hs a4 Qj λj y v e1 e2 e3=>?_));by_cases hj:j=i
 .subst hj;rw[qE0 O]at e2;cases e2
 .rw [qB0 (Ne.symm hj)]at e2
  obtain ⟨u',r',q⟩:=lk j y v e1 (by rw[qB0 (Ne.symm hj)];show e2) e3;refine ⟨u',r',?_⟩;rcases q with ⟨k,e⟩|⟨k,c,e,z⟩
  .refine .inl ⟨k,?_⟩
   have:y≠x:=λe=>hj (dl hN e1 (e ▸ hi))
   simp [this,e]
  .show .inr ⟨k,c,e,z.sameBut hs (I1.cne y c e)⟩
def Ns.slots {h:Heap}(n:h.Ns a m) (up:h.UpToSlots h'):h'.Ns a m:=by
 obtain ⟨o,es,ep,e,d,r⟩:=n;obtain ⟨sl,I⟩:=up a o e (λvs z=>by rw[d]at z;cases z);show ⟨_,es,ep,I,d,r⟩
def IsCell.slots {h:Heap}(n:h.IsCell a v) (up:h.UpToSlots h'):h'.IsCell a v:=by
 obtain ⟨o,e,d⟩:=n;obtain ⟨sl,I⟩:=up a o e (λvs z=>by rw[d]at z;cases z);show ⟨_,I,d⟩
def Inv.land {σ:St}{B:Heap}(O:X.ex = []) (ae:X.stack=X.env::X.outer) (b0:X.env.frame=some X.env.locals) (I1:Inv X pins σ H s1) (I:Inv X pins σ H' s) (st:B.StaysIn s.heap) (a3:B.StaysIn h') (up:s.heap.UpToSlots h') (inB:∀b o,H' b=some o->∃ob,B.get? b=some ob) (all:∀b o,s1.heap.get? b=some o->b∉frs X.stack->∃o',B.get? b=some o'):Inv X pins σ H' { s with heap:=h',toks:=tk }:=by
 have a4:∀b,b∉X.fs->b≠X.env.locals->b∉frs X.stack:=λb h1 h2 z=>by
  rw[ae]at z;unfold frs at z;rw[qE9,b0]at z;rcases qA7.mp z with z|z
  .show h2 z
  .show h1 z
 have u:=I.base;rw[O]at u;refine ⟨I.ok,I.os,I.bare,?_,?_,λx c e=>?_,I.free,I.freeC,λp hp=>?_,HOk.fly I.hok st a3 inB,I.len⟩
 .rw [O]
  refine Un.fly u st a3 up (λb o q hb=>?_) (vw I.funs);obtain ⟨o1,q1⟩:=I1.base.there b o q (by rw[O];simp);show all b o1 q1 (a4 b hb (aa I q))
 .obtain ⟨m,n,l⟩:=I.loc;refine ⟨m,Ns.slots n up,λi x v e1 e2 e3=>?_⟩;obtain ⟨w,r,q⟩:=l i x v e1 e2 e3;refine ⟨w,r,?_⟩;rcases q with q|⟨k,c,e,z⟩
  .show .inl q
  .show .inr ⟨k,c,e,IsCell.slots z up⟩
 .obtain ⟨v,z⟩:=I.cell x c e;show ⟨v,IsCell.slots z up⟩
 .obtain ⟨a,b,c,d,f⟩:=I.pin p hp;obtain ⟨a1,_⟩:=I1.pin p hp;obtain ⟨o',y⟩:=all p.1 p.2 a1 (a4 p.1 d c);have z:=st _ _ y;rw[a]at z;cases z;show ⟨a3 _ _ y,b,c,d,f⟩
abbrev Cx.marked (X:Cx)(e:Value)(E:Jp):Cx:={ X with A:=X.A.mark (some e),calm:=false,xe:=E }
def Inv.marked {σ:St}(I:Inv X pins σ H s):Inv (X.marked e E) pins σ H s:=
 ⟨⟨I.ok.mod,I.ok.kind,I.ok.glob,I.ok.blt,I.ok.above,I.ok.inj,I.ok.has,I.ok.cab,(λz=>nomatch z),I.ok.frames,I.ok.stk,I.ok.exf,I.ok.bs,I.ok.bsz,I.ok.noex,I.ok.exfs,I.ok.funs,I.ok.frf⟩,
  I.os,I.bare,I.base,I.loc,I.cell,I.free,I.freeC,I.pin,I.hok,I.len⟩
def Inv.unmarked {σ:St}(ok:X.Ok) (I:Inv (X.marked e E) pins σ H s):Inv X pins σ H s:=
 ⟨ok,I.os,I.bare,I.base,I.loc,I.cell,I.free,I.freeC,I.pin,I.hok,I.len⟩
def Inv.track {σ:St}(I:Inv X pins σ H s) (ha:s.heap.get? a=some o) (hd:o.data=.fields vs) (hH:H a=none) (n0:X.s₀.heap.get? a=none) (np:∀p∈X.pn++pins,p.1≠a):
  Inv X pins σ (upd H a (.ext λh=>h.get? a=some o)) s:=by
 have a3:∀b u,H b=some u->b≠a:=λb u e z=>by rw[z,hH]at e;cases e
 have O:∀b u,H b=some u->upd H a (.ext λh=>h.get? a=some o) b=some u:=λb u e=>by rw[b6 (a3 b u e)];show e
 have hl:X.env.locals≠a:=λz=>by
  obtain ⟨m,⟨o',es,ep,e,d,_⟩,_⟩:=I.loc;rw[z,ha]at e;cases e;rw[hd]at d;cases d
 refine ⟨I.ok,I.os,I.bare,⟨I.base.keep,I.base.slot,λb ob e n hx=>?_,I.base.there,λb xs e=>O _ _ (I.base.tups b xs e),λb ob u e=>O _ _ (I.base.frzs b ob u e),λb ps e=>?_⟩,I.loc,I.cell,?_,λx c e=>?_,λp hp=>?_,λb ob e=>?_,I.len⟩
 .have:b≠a:=λz=>by rw[z,n0]at e;cases e
  rw[b6 this];show I.base.free b ob e n hx
 .obtain ⟨more,q⟩:=I.base.tbls b ps e;show ⟨more,O _ _ q⟩
 .rw[b6 hl];show I.free
 .have:c≠a:=λz=>by
   obtain ⟨v,o',e1,d⟩:=I.cell x c e;rw[z,ha]at e1;cases e1;rw[hd]at d;cases d
  rw[b6 this];show I.freeC x c e
 .obtain ⟨p1,p2,p3⟩:=I.pin p hp;show ⟨p1,by rw[b6 (np p hp)];show p2,p3⟩
 .by_cases hb:b=a
  .subst hb;rw[e7]at e;cases e;show ⟨ha,⟨o,ha⟩,λh1 h2 q k=>k o q⟩
  .rw [b6 hb]at e
   refine (I.hok b ob e).stay (λc u hc q=>q) (λc q=>O _ _ q) λc xs q=>O _ _ q
section
variable {X:Cx}{pins:Jq}{σ:St}{H H':Hp}{s s1:Shared}{a:Addr}{B:Heap}{cls:Value}{od:Option Addr}
structure Here (X:Cx) (pins:Jq) (σ:St) (H':Hp) (a:Addr) (B:Heap) (cls:Value) (od:Option Addr) (s:Shared):Prop where
 inv:Inv X pins σ H' s
 dict:∃o,s.heap.get? a=some o/\o.dict=od
def Here.step (I:X.ex = []) (O:X.stack=X.env::X.outer) (a4:X.env.frame=some X.env.locals) (I1:Inv X pins σ H s1) (inB:∀b o,H' b=some o->∃ob,B.get? b=some ob) (all:∀b o,s1.heap.get? b=some o->b∉frs X.stack->∃o',B.get? b=some o') (h:Here X pins σ H' a B cls od s) (st:B.StaysIn s.heap) (a3:B.StaysIn h') (up:s.heap.UpToSlots h') (d:Dk s.heap h'):Here X pins σ H' a B cls od { s with heap:=h',toks:=tk }:=by
 refine ⟨Inv.land I O a4 I1 h.inv st a3 up inB all,?_⟩;obtain ⟨o,e,q⟩:=h.dict;obtain ⟨o',e',_,q'⟩:=d a o e;show ⟨o',e',q'.trans q⟩
def KD.post {t:Sem α}{P:Heap->Prop}{Q:α->Shared->Prop}{r:α}(k:KD t) (h:wpAny M A t (λv s'=>v=r/\∃h',s'={ s with heap:=h' }/\P h') E s) (q:∀h',P h'->Dk s.heap h'->Q r { s with heap:=h' }):wpAny M A t Q E s:=
 qM3 (k.any h) (λv s' I=>by obtain ⟨⟨e,h',O,p⟩,d⟩:=I;subst e;subst O;show q h' p d) λ_ _ x=>x
def ui (a4:X.ex = []) (O:X.stack=X.env::X.outer) (ae:X.env.frame=some X.env.locals) (hN:X.N.Nodup) (hg:Gl X cn) (hm:X.mg cn=some (.ref C)) (c4:(cn == ("__debug__" : Str))=false) (hc:cls=.ref Dc) (hx:PySem.W.exmOne X.K (.ref Dc) (.ref C)=some true) (hi:X.N[jn]?=some n) (hk:X.env.kindOf n=some .local) (hb:∀e E,PSs (X.marked e E) (b0::suite) tb) (I1:Inv X pins σ H s1) (F:vI X.prog X.w X.stack H s1 a B H' cls od s) (ht:∀o:Obj,o.cls=cls->o.dict=od->(∃vs:Array Value,o.data=.fields vs)->tb { nx:=λa3 H'=>D.nx (a3.set jn none) H',rt:=D.rt,bk:=λa3 H'=>D.bk (a3.set jn none) H',ct:=λa3 H'=>D.ct (a3.set jn none) H' }
   (σ.set jn (some (.ref a))) (upd H' a (.ext λh=>h.get? a=some o))):
  wpAny (model X.prog X.w) X.A (noteFrame (.ref a) X.env) (λ_ s2=>wpAny (model X.prog X.w) X.A (setFlight (.ref a) none) (λ_ s3=>wpAny (model X.prog X.w) X.A
   (handleBy (.ref a) X.env [.ExceptHandler (some (.Name cn np)) (some n) (b0::suite) hpos]) (SP X pins D) X.xe s3) X.xe s2) X.xe s:=by
 have I:=I1.call' F.os F.un F.hok F.bare (λb z=>absurd z Qj);obtain ⟨a0,fl⟩:=F.fl;have h0:Here X pins σ H' a B cls od s:=⟨I,F.dict⟩;have c5:X.A.frames=some (X.env::X.outer):=O ▸ I.ok.frames;rw[O]at fl;have Ba:B.get? a=none:=fl.2.1;refine KD.post (r:=()) (KD.noteFrame _ _) (P:=λh'=>B.HeldW (X.env::X.outer) a cls a0 X.env.locals h'/\s.heap.UpToSlots h') (wpAny_looks_onW c5 ae fl λh' f u=>⟨rfl,h',rfl,f,u⟩) λh1 b4 d1=>?_;obtain ⟨f1,u1⟩:=b4;have g1:=Here.step (tk:=s.toks) a4 O ae I1 F.inB F.all h0 fl.1 f1.1 u1 d1;refine KD.post (r:=()) (KD.setFlight _ _) (P:=λh'=>B.FlyingW (X.env::X.outer) a cls a0 h'/\h1.UpToSlots h') (wpAny_landsW f1 λh' f u=>⟨rfl,h',rfl,f,u⟩) λh2 bc d2=>?_;obtain ⟨f2,u2⟩:=bc;have g2:=Here.step (tk:=s.toks) a4 O ae I1 F.inB F.all g1 f1.1 f2.1 u2 d2;refine wpAny_handleBy_cons (codeAny_handlers_test ?_) (by simp [byPass]);have obj:∀{h:Heap},B.FlyingW (X.env::X.outer) a cls a0 h->∃o vs,h.get? a=some o/\o.cls=cls/\o.data=.fields vs:=λf=>by
  obtain ⟨_,_,_,oe,vs,_,_,_,e,⟨c,_⟩,d,_⟩:=f;show ⟨oe,vs,e,c,d⟩
 obtain ⟨o2,v2,e2,c2,t2⟩:=obj f2;refine aL (X:=X.marked (.ref a) X.xe) g2.inv.marked hg hm ?_ c4;have ty:PySem.W.Looks (model X.prog X.w) h2 (typeOf (.ref a)) (.ref Dc):=λA Q E s hh q=>by
  unfold typeOf;show qA8 (wpAny_loadPart (hh _ _ e2) (qL7 (by rw[c2,hc];show q)))
 refine PySem.W.exm_one g2.inv.kIn ty hx _ _ _ _ (λ_ _ e=>e) ?_
 change codeAny _ _ (Code.handlers _ _ _) _ _;refine codeAny_handlers_suite_as (KD.post (r:=()) (KD.setFlight _ _) (P:=λh'=>B.FlyingW (X.env::X.outer) a cls a0 h'/\h2.UpToSlots h') (lands_againW f2 λh' f u=>⟨rfl,h',rfl,f,u⟩) λh3 bf d3=>?_);obtain ⟨f3,u3⟩:=bf;have g3:=Here.step (tk:=s.toks) a4 O ae I1 F.inB F.all g2 f2.1 f3.1 u3 d3;obtain ⟨o3,v3,e3,c3,t3⟩:=obj f3;have hd3:o3.dict=od:=by
  obtain ⟨o,e,q⟩:=g3.dict;rw[e3]at e;cases e;show q
 have cc:a∉frs X.stack:=λz=>by
  have ff:h3.FunFrames B (X.env::X.outer):=f3.2.2.1;rw[O]at z;obtain ⟨_,o,e,nd⟩:=ff.mem z;rw[e3]at e;cases e;show nd v3 t3
 have b5:s1.heap.get? a=none:=by
  cases q:s1.heap.get? a with
  |none=>rfl
  | some o=>
   obtain ⟨o',y⟩:=F.all a o q cc;rw[Ba]at y;cases y
 have c1:H' a=none:=by
  cases q:H' a with
  |none=>rfl
  | some o=>
   obtain ⟨o',y⟩:=F.inB a o q;rw[Ba]at y;cases y
 have n0:X.s₀.heap.get? a=none:=by
  cases q:X.s₀.heap.get? a with
  |none=>rfl
  | some o=>
   obtain ⟨o',y⟩:=I1.base.there a o q (by rw[a4];simp);rw[b5]at y;cases y
 have np:∀p∈X.pn++pins,p.1≠a:=λp hp z=>by
  have:=(I1.pin p hp).1
  rw[z,b5]at this;cases this
 have It:=Inv.track g3.inv e3 t3 c1 n0 np;refine aX (v:=.ref a) It hN hi (.inl hk) rfl (λs4 I4=>?_) (.inr hk);refine thn (hb _ _ pins s4 _ _ _ I4.marked (ht o3 c3 hd3 ⟨v3,t3⟩)) λf s5 hf=>?_;cases f with
 | next=>
  obtain ⟨b3,H5,I5,q⟩:=hf;show cO (I5.unmarked I.ok) hN hi hk λs6 I6=>⟨_,_,I6,q⟩
 | brk=>
  obtain ⟨b3,H5,I5,q⟩:=hf;show cO (I5.unmarked I.ok) hN hi hk λs6 I6=>⟨_,_,I6,q⟩
 | cont=>
  obtain ⟨b3,H5,I5,q⟩:=hf;show cO (I5.unmarked I.ok) hN hi hk λs6 I6=>⟨_,_,I6,q⟩
 | ret u=>
  obtain ⟨v,b3,H5,I5,r,q⟩:=hf;show cO (I5.unmarked I.ok) hN hi hk λs6 I6=>⟨v,_,_,I6,r,q⟩
end
def mQ {σ:St}(F:FnOk X.prog X.w X.K X.mg X.base (CXW X.prog X.w) k f fd ps sp) (hr:Room k X.A) (hg:Gl X fn) (hm:X.mg fn=some (.ref f)) (ae:PySem.W.keepIn X.K (.ref f)=true) (hb:Binds X.K fd ps []) (ha:PA X.nox (e::es) t) (I:Inv X pins σ H s) (h:t σ H λvs H1=>sp vs H1 Q E) (hE:∀H1 s1 ev s',Inv X pins σ H1 s1->CXW X.prog X.w X.stack H1 s1 E ev s'->E' ev s') (a4:(fn == ("__debug__" : Str))=false) (he:starEach (e::es) X.env=(false,eval e X.env)::starEach es X.env) (b0:(backTo cp (starEach es X.env)).any (·.1)=false):wpAny (model X.prog X.w) X.A (eval (.Call (.Name fn fp) (e::es) [] cp) X.env) (EP X pins σ Q) E' s:=by
 refine qM4 (aL I hg hm ?_ a4);refine qQ3 (h₀:=X.base) I.ok.mod.kin ae (qM3 (ha cp pins s σ H _ (I.wish _) h) (λus s1 O=>?_) λ_ _ z=>False.elim z) he b0;obtain ⟨vs,H1,J,r,q⟩:=O;have I1:=J.unwish;refine ⟨I1.kIn,?_⟩;have hl:(us ++ []).length=ps.length:=by rw[qD1,<- r.length];show F.len _ _ _ _ q
 have a3:=hb s1 us I1.kIn hl;rw[qD1]at a3;refine wpAny_call (qS0 (F.run X.A X.stack s1 H1 ⟨us,[]⟩ us vs Q E hr I1.env0 a3 r q) λr s' hq=>?_);cases r with
 |error ev=>show hE H1 s1 ev s' I1 hq
 | ok fl=>
  cases fl with
  |ret u=>show I1.after hq
  |next=>show False.elim hq
  |brk=>show False.elim hq
  |cont=>show False.elim hq
def nL (X:Cx) (C:Addr) (O:Nat) (tb:TS) (D:Ends) (σ:St):XK:=λcls od H'=>∃Dc,cls=.ref Dc/\PySem.W.exmOne X.K (.ref Dc) (.ref C)=some true /\
 ∀ (a:Addr) (o:Obj),H' a=none->o.cls=cls->o.dict=od->(∃vs:Array Value,o.data=.fields vs) ->
  tb { nx:=λI H'=>D.nx (I.set O none) H',rt:=D.rt,bk:=λI H'=>D.bk (I.set O none) H',ct:=λI H'=>D.ct (I.set O none) H' } (σ.set O (some (.ref a))) (upd H' a (.ext λh=>h.get? a=some o))
abbrev lv:List Value:=[Value.type "ValueError",Value.type "Exception",Value.type "BaseException",Value.type "object"]
def Fun.okX {K:Frag}{st:Stmt}(F:Fun K x qual st f fd) (S:i4 N ps (c7 st)) (len:∀vs H Q E,sp vs H Q E->vs.length=ps.length) (I:∀(cdv:Value) (A:Around) (outer:List Env) (s:Shared) (H:Hp) (vs:List V) (Q:VK) (E:XK),Room k (A.deeper (envOfC qual (c7 st) s.heap.objs.size f cdv))->sp vs H Q E ->
   ∃t,PSs (m8 (CXW P w) P w K mg base N qual (c7 st) f cdv A outer s H E) (J4 st) t/\t { nx:=λ_ H'=>Q .non H',rt:=Q } (start N vs) H):FnOk P w K mg base (CXW P w) (k+1) f fd ps sp:=by
 obtain ⟨oc,od,kV,doc,pm,an,cdv,ct,osl,rfl,lk,a3⟩:=F.ex;show vx lk a3 S len λA outer s H vs Q E hr O=>I cdv A outer s H vs Q E hr O
structure XGet (K:Frag) (C:Addr) (name:Str):Prop where
 ga:PySem.W.findIn K (.ref C) (Str.ofString "__getattribute__")=some (some (.builtin "BaseException.__getattribute__"))
 gh:PySem.W.findIn K (.ref C) (Str.ofString "__getattr__")=some none
 be:PySem.W.mroIn K C (.type "BaseException")=some true
 no:PySem.W.findIn K (.ref C) name=some none
 cd:∃cd,PySem.W.clsIn K C=some cd/\cd.hasDict=true
structure XIs (K:Frag) (C:Addr):Prop where
 ga:PySem.W.findIn K (.ref C) (Str.ofString "__getattribute__")=some (some (.builtin "BaseException.__getattribute__"))
 gh:PySem.W.findIn K (.ref C) (Str.ofString "__getattr__")=some none
 be:PySem.W.mroIn K C (.type "BaseException")=some true
 ob:PySem.W.mroIn K C (.type "object")=some true
 cl:PySem.W.findIn K (.ref C) (Str.ofString "__class__")=some (some (.builtin "object.__class__"))
 gt:PySem.W.specialIn K (.builtin "object.__class__") (Str.ofString "__get__")=some (some (.builtin "getset_descriptor.__get__"))
 tk:PySem.W.takesIn K (.builtin "object.__class__")=some true
 kc:PySem.W.kitCls K (.ref C) (.ref C)=some true
def XIs.find {K:Frag}(g:XIs K C) (od:Option Obj):PySem.W.findObj K C od (Str.ofString "__class__")=some (.bind (.builtin "getset_descriptor.__get__") (.builtin "object.__class__")):=by
 have hc:∃cd,PySem.W.clsIn K C=some cd:=by
  have h:=g.ob;unfold PySem.W.mroIn at h;cases q:PySem.W.clsIn K C with
  |none=>rw[q]at h;cases h
  |some cd=>show ⟨cd,rfl⟩
 obtain ⟨cd,hc⟩:=hc;unfold PySem.W.findObj;rw[hc,g.cl];simp [g.gt,g.tk]
def ze {σ:St}(I:Inv X pins σ H s) (ea:H a=some (.ext λh=>h.get? a=some ox)) (hc:ox.cls=.ref C) (hd:ox.data=.fields vs) (hx:∀d,ox.dict=some d->∃fs,H d=some (.xd fs)) (g:XIs X.K C) (e:PySem.W.kitOne X.K (.ref C) c=some b) (h:∀tk,Q (.bool b) { s with toks:=tk }):wpAny (model X.prog X.w) A (call (.builtin "isinstance") [.ref a,c]) Q E s:=by
 have O:PySem.W.notCls ox=true:=by obtain ⟨p1,p2,p3,p4⟩:=ox;cases hd;rfl
 have J:∃od,PySem.W.InstAt s.heap a ox C od:=by
  cases q:ox.dict with
  |none=>show ⟨none,(I.hok a _ ea).1,hc,O,by rw[q];trivial⟩
  | some d=>
   obtain ⟨fs,hf⟩:=hx d q;obtain ⟨o,eo⟩:=(I.hok d _ hf).got;show ⟨some o,(I.hok a _ ea).1,hc,O,by rw[q];show eo⟩
 obtain ⟨od,J⟩:=J;show qF7 (jm g.ga g.gh g.be g.ob (g.find od) g.kc) I.kIn J e (λz=>nomatch z) h
structure fN (K:Frag) (C:Addr):Prop where
 obj:∃(nm q:Str) (N:Addr) (bs bm:Jw) (hdct:Bool) (sn:Jk) (sub:Jw) (ab:Bool) (col:Option Bool) (dd:Option Addr) (k0 k1 k2 k3 k5:Option Value),
  K.lookup C=some (excClassObj nm q C N bs bm hdct sn sub ab col dd k0 k1 k2 k3 k5 "ValueError.__new__")/\(∀h:Heap,K.In h->OwnTail h lv bm)/\∀h:Heap,K.In h->∃mN,h.Ns N mN/\mN (Str.ofString "__init__")=none
 ty:PySem.W.typeIn K (.ref C)=some (.type "type")
 be:PySem.W.mroIn K C (.type "BaseException")=some true
 kp:PySem.W.keepIn K (.ref C)=true
def hC (C:Addr)(E:XK)(t:TA):TS:=λ_ σ H=>t σ H λvs H1=>vs.length<=1000/\E (.ref C) none H1
def lY {K:Frag}(M:fN K C) (hg:Gl (m8 (CXW P w) P w K mg base N qual scope f0 cd A outer s0 H0 E) cn) (hm:mg cn=some (.ref C)) (ha:PA (m8 (CXW P w) P w K mg base N qual scope f0 cd A outer s0 H0 E) (e::es) t) (a3:(cn == ("__debug__" : Str))=false) (he:starEach (e::es) (envOfC qual scope s0.heap.objs.size f0 cd)=(false,eval e (envOfC qual scope s0.heap.objs.size f0 cd))::starEach es (envOfC qual scope s0.heap.objs.size f0 cd)) (a4:(backTo cp (starEach es (envOfC qual scope s0.heap.objs.size f0 cd))).any (·.1)=false):
  PS (m8 (CXW P w) P w K mg base N qual scope f0 cd A outer s0 H0 E) (.Raise (some (.Call (.Name cn np) (e::es) [] cp)) none pos) (hC C E t):=by
 intro pins s σ H D I h;refine qe (K:=K) (I.ok.hd rfl) (qM4 (aL I hg hm ?_ a3));refine qQ3 (h₀:=base) I.ok.mod.kin M.kp (thn (ha cp pins s σ H _ I h) λus s1 ⟨vs,H1,I1,r,hl,q⟩=>⟨I1.kIn,?_⟩) he a4;obtain ⟨nm,q0,N0,bs,bm,hdct,sn,sub,ab,col,dd,k0,k1,k2,k3,k5,lk,ot,ns⟩:=M.obj;obtain ⟨mN,n1,n2⟩:=ns _ I1.kIn;refine wpAny_call_exc_subU qR1 rfl qR1 (ot _ I1.kIn) (I1.kIn _ _ lk) n1 n2 (λh' a mk=>?_) (qO9 (nN (r.length ▸ hl)));obtain ⟨tt,et,_,_⟩:=mk.there;have J:=I1.kept (t':=s1.toks) mk.keeps;have Ha:H1 a=none:=by
  cases z:H1 a with
  |none=>rfl
  | some o=>
   obtain ⟨ob,O⟩:=(I1.hok a o z).got;rw[mk.new]at O;cases O
 have n0:s0.heap.get? a=none:=by
  cases z:s0.heap.get? a with
  |none=>rfl
  | some o=>
   obtain ⟨ob,O⟩:=I1.base.there a o z (by simp [m8]);rw[mk.new]at O;cases O
 refine ⟨a,_,_,C,rfl,J.kIn,et,rfl,rfl,rfl,M.be,M.ty,?_⟩;refine jQ J et n0 Ha (λz=>?_) rfl rfl rfl q;obtain ⟨_,o,O,_⟩:=I1.stack.mem z;rw[mk.new]at O;cases O
end L2
namespace L2
open PySem
structure Nx {α:Type}(t:Sem α):Prop where
 out:∀(M:Model) (Γ:PySem.Ctx) (P:α->Pos->Shared->Prop) (Ee Ef:Value->Pos->Shared->Prop) (p:Pos) (s:Shared),Sem.wp M Γ t P Ee p s->Sem.wp M Γ t P Ef p s
def Nx.pure (a:α):Nx (pure a:Sem α):=⟨λM Γ P Ee Ef p s h=>h⟩
def Nx.uns (w:String):Nx (unsupported w:Sem α):=⟨λM Γ P Ee Ef p s h=>h⟩
def Nx.bind {f:α->Sem β}(hm:Nx m) (I:∀a,Nx (f a)):Nx (m>>=f):=⟨λM Γ P Ee Ef p s h=>by
 have h':Sem.wp M Γ (m.bind f) P Ee p s:=h;rw[qI2]at h'
 change Sem.wp M Γ (m.bind f) _ Ef p s;rw[qI2];show hm.out M Γ _ Ee Ef p s (qK1 M Γ m (λa p' s' q=>(I a).out M Γ P Ee Ef p' s' q) (λ_ _ _ x=>x) p s h')⟩
def Nx.load (a:Addr):Nx (load a):=⟨λM Γ P Ee Ef p s h=>by
 obtain ⟨o,e,q⟩:=h;show ⟨o,e,q⟩⟩
def Nx.stack:Nx stack:=⟨λM Γ P Ee Ef p s h=>h⟩
def Nx.update (a:Addr)(f:Obj->Obj):Nx (update a f):=⟨λM Γ P Ee Ef p s h=>⟨h.1,h.2⟩⟩
def Nx.ite [Decidable c]{a:Sem α}(ha:Nx a) (I:Nx b):Nx (if c then a else b):=by
 by_cases h:c
 .rw[qA9 h];show ha
 .rw[qB4 h];show I
def Nx.field (v:Value) (i:Nat):Nx (field v i):=by
 unfold PySem.field PySem.fieldsOf;refine Nx.bind ?_ λo=>by split <;> first|show Nx.pure _|show Nx.uns _
 split
 .show Nx.bind (Nx.load _) λo=>by split <;> first|show Nx.pure _|show Nx.uns _
 .show Nx.uns _
def Nx.setField (v:Value) (i:Nat) (x:Value):Nx (setField v i x):=by
 unfold PySem.setField
 split
 .unfold PySem.updateField;refine Nx.bind (Nx.load _) λo=>?_
  split
  .show Nx.ite (Nx.update _ _) (Nx.uns _)
  .show Nx.uns _
 .show Nx.uns _
def Nx.behind (env:Env) (l:List Env):Nx (behindIsImport env l):=by
 unfold behindIsImport;show Nx.ite (Nx.pure _) (Nx.ite (Nx.pure _) (Nx.bind (Nx.field _ _) λ_=>Nx.pure _))
def Nx.under:Nx underTheClaimsCaller:=Nx.bind Nx.stack λ_=>Nx.pure _
def Nx.keptBack (env:Env) (b:Bool) (l:List Env):Nx (keptBack env b l):=by
 unfold PySem.keptBack
 split
 .show Nx.ite (Nx.pure _) (Nx.bind Nx.under λ_=>Nx.pure _)
 .show Nx.pure _
def Nx.ready:∀l:List Env,Nx (readyFrames l)
 | []=>Nx.pure _
 | env::l=>by
  rw[readyFrames.eq_2]
  split
  .show Nx.bind (Nx.load _) λo=>Nx.ite (Nx.pure _) (Nx.bind (Nx.behind _ _) λ_=>Nx.bind (Nx.keptBack _ _ _) λ_=>Nx.bind (Nx.update _ _) λ_=>Nx.ready l)
  .show Nx.uns _
def Nx.frameOf (env:Env):Nx (PySem.frameOf env):=by
 unfold PySem.frameOf;refine Nx.bind (Nx.bind Nx.stack λ_=>Nx.pure _) λl=>Nx.bind ?_ λo=>?_
 .unfold frameObject
  split
  .show Nx.pure _
  .show Nx.bind (Nx.ready _) λ_=>Nx.pure _
 .split <;> first|show Nx.pure _|show Nx.uns _
def Nx.entryPlace (f:Addr) (b:Bool):Nx (entryPlaceOf f b):=by
 unfold entryPlaceOf;refine Nx.bind Nx.stack λo=>?_
 split <;> show Nx.pure _
structure Po {α:Type}(t:Sem α) (pre:Shared->Prop) (post:α->Shared->Prop):Prop where
 out:∀(M:Model) (Γ:PySem.Ctx) (P:α->Pos->Shared->Prop) (Ee Ef:Value->Pos->Shared->Prop) (p:Pos) (s:Shared),
  pre s->Sem.wp M Γ t P Ee p s->Sem.wp M Γ t (λa p' s'=>P a p' s'/\post a s') Ef p s
def Po.pure {a:α}(h:∀s,pre s->post a s):Po (pure a:Sem α) pre post:=⟨λM Γ P Ee Ef p s c q=>⟨q,h s c⟩⟩
def Po.uns:Po (unsupported w:Sem α) pre post:=⟨λM Γ P Ee Ef p s c q=>q⟩
def Po.bind {f:α->Sem β}(hm:Po m pre mid) (O:∀a,Po (f a) (mid a) post):Po (m>>=f) pre post:=⟨λM Γ P Ee Ef p s c h=>by
 have h':Sem.wp M Γ (m.bind f) P Ee p s:=h;rw[qI2]at h'
 change Sem.wp M Γ (m.bind f) _ Ef p s;rw[qI2];show qK1 M Γ m (λa p' s' I=>by obtain ⟨q,d⟩:=I;show (O a).out M Γ P Ee Ef p' s' d q) (λ_ _ _ x=>x) p s (hm.out M Γ _ Ee Ef p s c h')⟩
def Po.any {t:Sem α}(n:Nx t):Po t pre λ_ _=>True:=⟨λM Γ P Ee Ef p s _ h=>qK1 M Γ t (λ_ _ _ q=>⟨q,trivial⟩) (λ_ _ _ x=>x) p s (n.out M Γ P Ee Ef p s h)⟩
def Po.ite [Decidable c]{a:Sem α}(ha:c->Po a pre post) (I:¬ c->Po b pre post):Po (if c then a else b) pre post:=by
 by_cases h:c
 .rw[qA9 h];show ha h
 .rw[qB4 h];show I h
def Po.load:Po (load a) pre λo s=>pre s/\s.heap.get? a=some o:=⟨λM Γ P Ee Ef p s c h=>by
 obtain ⟨o,e,q⟩:=h;show ⟨o,e,q,c,e⟩⟩
def FldAt (v:Value)(i:Nat)(x:Value)(h:Heap):Prop:=∃(a:Addr)(o:Obj)(vs:Jy),v=.ref a/\h.get? a=some o/\o.data=.fields vs/\vs[i]?=some x
def Po.field:Po (field v i) pre λx s=>pre s/\FldAt v i x s.heap:=by
 unfold PySem.field PySem.fieldsOf;refine Po.bind (mid:=λvs s=>pre s/\∃(a:Addr) (o:Obj),v=.ref a/\s.heap.get? a=some o/\o.data=.fields vs) ?_ λvs=>?_
 .split
  .refine Po.bind Po.load λo=>?_
   split
   .rename_i a _ vs e;show Po.pure λs I=>by obtain ⟨c,q⟩:=I;show ⟨c,a,o,rfl,q,e⟩
   .show Po.uns
  .show Po.uns
 .split
  .rename_i x e;show Po.pure λs O=>by obtain ⟨c,a,o,q1,q2,q3⟩:=O;show ⟨c,a,o,vs,q1,q2,q3,e⟩
  .show Po.uns
def Po.setField:Po (setField v i x) pre λ_ s'=>∃(s:Shared) (a:Addr) (o:Obj) (vs:Jy),pre s/\v=.ref a/\s.heap.get? a=some o/\o.data=.fields vs/\i<vs.size/\s'={ s with heap:=s.heap.update a (Obj.mapFields (·.setIfInBounds i x)) }:=by
 unfold PySem.setField
 split
 .unfold PySem.updateField;refine Po.bind Po.load λo=>?_
  split
  .rename_i _ a _ vs e
   refine Po.ite (λh=>⟨λM Γ P Ee Ef p s c q=>⟨q.1,q.2,s,a,o,vs,c.1,rfl,c.2,e,h,rfl⟩⟩) λ_=>Po.uns
  .show Po.uns
 .show Po.uns
def qQ (e:Value)(f:Addr)(h:Heap):Prop:=∃t,FldAt e 1 t h/\FldAt t 3 (rawInt f) h/\t≠.none
def FldAt.upd (g:FldAt v i x h) (hn:j≠i):FldAt v i x (h.update a (Obj.mapFields (·.setIfInBounds j y))):=by
 obtain ⟨b,o,vs,I,e2,O,e4⟩:=g;by_cases hb:b=a
 .subst hb;obtain ⟨c,d,dt,sl⟩:=o;cases O;show ⟨b,_,vs.setIfInBounds j y,I,qH6 _ e2 rfl,rfl,by rw[qO8 hn];show e4⟩
 .show ⟨b,o,vs,I,by rw[Heap.get?_update_ne h b a _ hb];show e2,O,e4⟩
def FldAt.put {h:Heap}(e:h.get? a=some o) (d:o.data=.fields vs) (hi:i<vs.size):FldAt (.ref a) i x (h.update a (Obj.mapFields (·.setIfInBounds i x))):=by
 obtain ⟨c,dd,I,sl⟩:=o;cases d;show ⟨a,_,vs.setIfInBounds i x,rfl,qH6 _ e rfl,rfl,by simp [hi]⟩
def Po.newEntry:Po (EntryCells.newEntry a b c d e l) pre λv s=>FldAt v 3 d s.heap/\v≠.none:=by
 unfold EntryCells.newEntry newFields newObj;refine Po.ite (λ_=>Po.bind (mid:=λ_ _=>True) (Po.any (Nx.uns _)) λ_=>?_) λ_=>?_
 all_goals show Po.bind (mid:=λt s=>FldAt (.ref t) 3 d s.heap) ⟨λM Γ P Ee Ef p s c q=>⟨q,_,_,_,rfl,qC8 s.heap rfl,rfl,Qj⟩⟩ λt=>Po.pure λs q=>⟨q,by intro z;cases z⟩
def Po.noteFrame:Po (noteFrame e env) pre λ_ s=>∃f,env.frame=some f/\qQ e f s.heap:=by
 unfold PySem.noteFrame
 split
 .rename_i f hf
  refine Po.bind Po.field λhd=>?_;have I:∀{pre:Shared->Prop}{b:Bool},Po (do let fr <- frameOf env;let pl <- entryPlaceOf f b;let t <- EntryCells.newEntry hd fr .none (rawInt f) .none pl;PySem.setField e 1 t) pre λ_ s=>∃f,env.frame=some f/\qQ e f s.heap:=λ{pre b}=>by
   refine Po.bind (mid:=λ_ _=>True) (Po.any (Nx.frameOf _)) λfr=>Po.bind (mid:=λ_ _=>True) (Po.any (Nx.entryPlace _ _)) λpl=>Po.bind Po.newEntry λt=>?_;have q:=Po.setField (v:=e) (i:=1) (x:=t) (pre:=λs=>FldAt t 3 (rawInt f) s.heap/\t≠.none);refine ⟨λM Γ P Ee Ef p s c w=>qK1 M Γ _ (λa p' s' ⟨z,s0,ad,o,vs,⟨c1,c2⟩,e1,e2,e3,e4,e5⟩=>⟨z,f,hf,t,?_,?_,c2⟩) (λ_ _ _ x=>x) p s (q.out M Γ P Ee Ef p s c w)⟩
   .subst e1;subst e5;show FldAt.put e2 e3 e4
   .subst e5;show c1.upd Qy
  refine Po.ite (λhh=>Po.bind Po.field λx=>Po.ite (λO=>Po.pure λs ⟨⟨_,q1⟩,q2⟩=>⟨f,hf,hd,q1,?_,?_⟩) λ_=>Po.bind (mid:=λ_ _=>True) (Po.any (Nx.setField _ _ _)) λ_=>I) λ_=>I
  .have:x=rawInt f:=by simpa using O
   rw[this]at q2;show q2
  .simpa using hh
 .show Po.uns
def zm {h:Heap}(e:h.get? a=some o) (O:g o=o):h.update a g=h:=by
 obtain ⟨objs,l⟩:=h;have I:objs[a]?=some o:=by
  unfold Heap.get? at e
  split at e
  .cases e
  .show e
 change Heap.mk (objs.modify a g) l=⟨objs,l⟩;congr 1;apply Array.ext_getElem?;intro i;rw[Array.getElem?_modify]
 split
 .subst_vars;rw[I];simp [O]
 .rfl
def pA (d:o.data=.fields vs) (I:vs[i]?=some x):Obj.mapFields (·.setIfInBounds i x) o=o:=by
 obtain ⟨c,dd,dt,sl⟩:=o;cases d
 change Obj.mk c dd (.fields (vs.setIfInBounds i x)) sl=_
 have:vs.setIfInBounds i x=vs:=by
  apply Array.ext_getElem?;intro j;by_cases O:i=j
  .subst O;rw[Array.getElem?_setIfInBounds_self,I]
   have:i<vs.size:=by
    by_cases z:i<vs.size
    .show z
    .rw[Array.getElem?_eq_none Qo]at I;cases I
   simp [this]
  .rw[qO8 O]
 rw[this]
def pF {vs:Jy}(I:vs[i]?=some x):i<vs.size:=by
 by_cases z:i<vs.size
 .show z
 .rw[Array.getElem?_eq_none Qo]at I;cases I
def qc {f:Addr}(h1:FldAt e 1 (.ref t) s.heap) (h2:s.heap.get? t=some ot) (h3:ot.data=.fields ws) (I:ws[3]?=some (rawInt f)) (q:Q () { s with heap:=s.heap.update t (Obj.mapFields (·.setIfInBounds 3 (fr.elim .none λf=>rawInt f))) }):wpAny M A (setFlight e fr) Q E s:=by
 obtain ⟨a,o,vs,rfl,e2,O,e4⟩:=h1;unfold PySem.setFlight;refine qA8 (qL9 e2 O e4 ?_);rw[qA9 Qq];show wpAny_setField h2 h3 (pF I) q
structure Free {α:Type}(t:Sem α):Prop where
 out:∀(M:Model) (Γ Γ':PySem.Ctx) (P P':α->Pos->Shared->Prop) (E E':Value->Pos->Shared->Prop) (p p':Pos) (s:Shared),(∀a p p' s,P a p s->P' a p' s)->(∀a p p' s,E a p s->E' a p' s)->Sem.wp M Γ t P E p s->Sem.wp M Γ' t P' E' p' s
def Free.pure (a:α):Free (pure a:Sem α):=⟨λM Γ Γ' P P' E E' p p' s h _ q=>h _ p p' _ q⟩
def Free.uns (w:String):Free (unsupported w:Sem α):=⟨λM Γ Γ' P P' E E' p p' s h _ q=>q⟩
def Free.bind {f:α->Sem β}(hm:Free m) (O:∀a,Free (f a)):Free (m>>=f):=⟨λM Γ Γ' P P' E E' p p' s h hE q=>by
 have I:Sem.wp M Γ (m.bind f) P E p s:=q;rw[qI2]at I
 change Sem.wp M Γ' (m.bind f) P' E' p' s;rw[qI2];show hm.out M Γ Γ' _ _ E E' p p' s (λa p1 p2 s1 w=>(O a).out M Γ Γ' P P' E E' p1 p2 s1 h hE w) hE I⟩
def Free.load (a:Addr):Free (load a):=⟨λM Γ Γ' P P' E E' p p' s h _ q=>by
 obtain ⟨o,e,q⟩:=q;show ⟨o,e,h _ p p' _ q⟩⟩
def Free.update (a:Addr)(f:Obj->Obj):Free (update a f):=⟨λM Γ Γ' P P' E E' p p' s h _ q=>⟨q.1,h _ p p' _ q.2⟩⟩
def Free.ite [Decidable c]{a:Sem α}(ha:Free a) (I:Free b):Free (if c then a else b):=by
 by_cases h:c
 .rw[qA9 h];show ha
 .rw[qB4 h];show I
def Free.field (v:Value) (i:Nat):Free (field v i):=by
 unfold PySem.field PySem.fieldsOf;refine Free.bind ?_ λo=>by split <;> first|show Free.pure _|show Free.uns _
 split
 .show Free.bind (Free.load _) λo=>by split <;> first|show Free.pure _|show Free.uns _
 .show Free.uns _
def Free.setField (v:Value) (i:Nat) (x:Value):Free (setField v i x):=by
 unfold PySem.setField
 split
 .unfold PySem.updateField;refine Free.bind (Free.load _) λo=>?_
  split
  .show Free.ite (Free.update _ _) (Free.uns _)
  .show Free.uns _
 .show Free.uns _
def Free.setFlight (v:Value) (f:Option Addr):Free (setFlight v f):=by
 unfold PySem.setFlight;show Free.bind (Free.field _ _) λo=>Free.ite (Free.setField _ _ _) (Free.pure _)
def sE {Q:Jp}:PassesOwn M A env (λe s'=>wpAny M A (leaving env e) (λ_ I=>Q e I) (λe' I=>Q e' I) s'):=by
 intro e s' h Γ p hΓ;have h1:Sem.wp M Γ ((noteFrame e env).bind λ_=>setFlight e none) (λ_ _ s=>Q e s) (λx _ s=>Q x s) p s':=h Γ p hΓ;rw[qI2]at h1;refine qK1 M Γ _ (λa p1 s1 a3=>?_) (λ_ _ _ x=>False.elim x) p s' ((Po.noteFrame (e:=e) (env:=env) (pre:=λ_=>True)).out M Γ _ _ (λ_ _ _=>False) p s' trivial h1);obtain ⟨q,f,hf,t,m1,m2,m3⟩:=a3;obtain ⟨t0,ot,ws,rfl,g2,g3,g4⟩:=m2;obtain ⟨O,oe,vs,rfl,k2,k3,k4⟩:=m1;have e0:s1.heap.update t0 (Obj.mapFields (·.setIfInBounds 3 ((some f).elim .none λf=>rawInt f)))=s1.heap:=zm g2 (pA g3 g4);refine qA8 (qL9 k2 k3 k4 ?_);rw[qB4 (by intro z;cases z)];rw[hf];refine qc ⟨O,oe,vs,rfl,k2,k3,k4⟩ g2 g3 g4 ?_;rw[e0];intro Γ2 p2 hΓ2
 change Sem.wp M Γ2 ((noteFrame (.ref O) env).bind λ_=>setFlight (.ref O) none) (λ_ _ s=>Q (.ref O) s) (λx _ s=>Q x s) p2 s1;rw[qI2];have n:wpAny M A (noteFrame (.ref O) env) (λ_ s2=>s2=s1) (λ_ _=>False) s1:=by
  unfold PySem.noteFrame;rw[hf];refine qA8 (qL9 k2 k3 k4 ?_);rw[qA9 Qq];refine qA8 (qL9 g2 g3 g4 ?_);rw[qA9 Qj];show qL7 rfl
 refine qK1 M Γ2 _ (λ_ p3 s3 z=>?_) (λ_ _ _ x=>False.elim x) p2 s1 (n Γ2 p2 hΓ2);subst z;show (Free.setFlight (.ref O) none).out M Γ Γ2 _ _ _ _ p1 p3 s3 (λ_ _ _ _ w=>w) (λ_ _ _ _ w=>w) q
end L2
namespace L2
open PySem PySem.Spec PyProof.Rows
def uJ (X:Cx)(sp:Sp)(C:Addr)(I:Nat)(t:TA)(tb:TS):TS:=λD σ H=>t σ H λvs H1=>sp vs H1 (λ_ H2=>D.nx σ H2) (nL X C I tb D σ)
def wI (a4:X.ex = []) (b5:X.stack=X.env::X.outer) (c2:X.env.frame=some X.env.locals) (hN:X.N.Nodup) (F:FnOk X.prog X.w X.K X.mg X.base (CXW X.prog X.w) k f fd ps sp) (hr:Room k X.A) (hg:Gl X fn) (hm:X.mg fn=some (.ref f)) (bc:PySem.W.keepIn X.K (.ref f)=true) (hb:Binds X.K fd ps []) (ha:PA X.nox (e::es) t) (b3:(fn == ("__debug__" : Str))=false) (he:starEach (e::es) X.env=(false,eval e X.env)::starEach es X.env) (c4:(backTo cp (starEach es X.env)).any (·.1)=false) (b4:swapsWith (.Call (.Name fn fp) (e::es) [] cp) none ap.line X.env=Pure.pure false) (ae:Gl X cn) (a3:X.mg cn=some (.ref C)) (c1:(cn == ("__debug__" : Str))=false) (hn:X.N[jn]?=some n) (O:X.env.kindOf n=some .local) (bf:∀e E,PSs (X.marked e E) (b0::suite) tb):
  PS X (.Try [.Expr (.Call (.Name fn fp) (e::es) [] cp) ap] [.ExceptHandler (some (.Name cn np)) (some n) (b0::suite) hpos] [] [] pos) (uJ X sp C jn t tb):=by
 intro pins s σ H D I h;refine wpAny_Try_except (qR9 (wpAny_Expr_any (qM3 (mQ F hr hg hm bc hb ha I h (λH1 s1 ev s' I1 hc=>?_) b3 he c4) (λv s1 ⟨z,H1,I1,r1,q1⟩=>?_) λ_ _ x=>x) I.quiet b4))
 .obtain ⟨a,B,H',cls,od,rfl,Fl,Dc,c3,hx,ht⟩:=hc;have Ha:H' a=none:=by
   obtain ⟨a0,fl⟩:=Fl.fl;cases q:H' a with
   |none=>rfl
   | some o=>
    obtain ⟨o',z⟩:=Fl.inB a o q;rw[fl.2.1]at z;cases z
  show ui a4 b5 c2 hN ae a3 c1 c3 hx hn O bf I1 Fl λo c d v=>ht a o Ha c d v
 .show qN3 (qN3 ⟨_,H1,I1,q1⟩)
def iE {K:Frag}:
  PassesOwn (model (m8 (CXW P w) P w K mg base N qual scope f cd A outer s H E).prog (m8 (CXW P w) P w K mg base N qual scope f cd A outer s H E).w) (m8 (CXW P w) P w K mg base N qual scope f cd A outer s H E).A (m8 (CXW P w) P w K mg base N qual scope f cd A outer s H E).env (m8 (CXW P w) P w K mg base N qual scope f cd A outer s H E).xe:=
 sE (Q:=λe I=>CXW P w outer H s E e I)
def FV (h:∀outer H s e s',CX outer H s (λ_ _ _=>False) e s'->False):cA CX X (λ_ _ _=>False):=λ_ _ _ _ _ _ _ q=>(h _ _ _ _ _ q).elim
def cxwF:∀outer H s e s',CXW P w outer H s (λ_ _ _=>False) e s'->False:=λ_ _ _ _ _ I=>by obtain ⟨_,_,_,_,_,_,_,z⟩:=I;show z
def vO {K:Frag}(lk:K.lookup C=some (excClassObj nm q C N bs bm hdct sn sub ab col dd k0 k1 k2 k3 k5 "ValueError.__new__")) (ht:PySem.W.tailIn K lv bm=true) (hok:PySem.W.nsOkIn K N=true) (hn:PySem.W.nsIn K N "__init__" = some none) (ty:PySem.W.typeIn K (.ref C)=some (.type "type")) (be:PySem.W.mroIn K C (.type "BaseException")=some true) (kp:PySem.W.keepIn K (.ref C)=true):fN K C:=
 ⟨⟨nm,q,N,bs,bm,hdct,sn,sub,ab,col,dd,k0,k1,k2,k3,k5,lk,λh X=>PySem.W.tail_of_in X ht,λh X=>⟨_,.of_isNs (PySem.W.isNs_of_in X hok),PySem.W.nsMap_none_of_in X hok hn⟩⟩,ty,be,kp⟩
def DM {K:Frag}(lk:K.lookup C=some ⟨c,d,.cls cd,sl⟩):PySem.W.clsIn K C=some cd:=by
 unfold PySem.W.clsIn;rw[lk]
def bo {K:Frag}(h1:PySem.W.clsIn K C=some cd) (h2:PySem.W.typeIn K (.ref C)=some (.type "type")) (h3:PySem.W.subIn K t (.ref C)=some b):PySem.W.kitCls K t (.ref C)=some b:=by
 unfold PySem.W.kitCls;simp only [h1,h2,Option.isSome_some,qX3,qM2,qL8];show h3
def kitOne_ty {K:Frag}(hm:PySem.W.kitMeta T=true) (h3:PySem.W.subIn K (.ref C) (.type T)=some b):PySem.W.kitOne K (.ref C) (.type T)=some b:=by
 unfold PySem.W.kitOne;rw[qB4 (by intro z;cases z)];unfold PySem.W.kitCls;simp only [hm,qL8];show h3
def kitOne_self {K:Frag}:PySem.W.kitOne K (.ref C) (.ref C)=some true:=by
 unfold PySem.W.kitOne;rw[qA9 (qM2 _)]
def kitOne_ne {K:Frag}{C D:Addr}(hn:Nat.beq C D=false) (h1:PySem.W.clsIn K D=some cd) (h2:PySem.W.typeIn K (.ref D)=some (.type "type")) (h3:PySem.W.subIn K (.ref C) (.ref D)=some b):PySem.W.kitOne K (.ref C) (.ref D)=some b:=by
 unfold PySem.W.kitOne;rw[qB4]
 .show bo h1 h2 h3
 .intro z;have z:=beq_iff_eq.mp z;cases z;rw[Nat.beq_refl]at hn;cases hn
def exm_mk {K:Frag}(h0:PySem.W.subIn K (.ref D) (.type "BaseException")=some true) (h1:PySem.W.clsIn K D=some cd) (h2:PySem.W.typeIn K (.ref D)=some (.type "type")) (h3:PySem.W.subIn K (.ref C) (.ref D)=some true):PySem.W.exmOne K (.ref C) (.ref D)=some true:=by
 unfold PySem.W.exmOne;rw[qA9 (by rw[h0];show qM2 _)];show bo h1 h2 h3
def uh (s:Stmt):Stmt:=match s with
 | .ClassDef _ _ _ (b::_) _ _ _ _ _ _ _=>b
 |s=>s
section
variable {κ:Type} [DecidableEq κ]
def L9 (kvs:List (κ×V))(k:κ):Option V:=(kvs.find? λI=>decide (I.1=k)).map (·.2)
def putK (kvs:List (κ×V)) (k:κ) (v:V):List (κ×V):=
 if (kvs.any λI=>decide (I.1=k))=true then kvs.map (λI=>if I.1=k then (I.1,v) else I) else kvs ++ [(k,v)]
def dropK (kvs:List (κ×V))(k:κ):List (κ×V):=kvs.filter λI=>decide (I.1≠k)
def aQ {p:κ×V}(e:p.1=k):L9 (p::r) k=some p.2:=by simp [L9,qJ8,e]
def aR {p:κ×V}(e:¬ p.1=k):L9 (p::r) k=L9 r k:=by simp [L9,qJ8,e]
def aS (k:κ):∀kvs:List (κ×V),(kvs.any λI=>decide (I.1=k))=(L9 kvs k).isSome
 | []=>rfl
 | p::r=>by
  rw[qX4];by_cases e:p.1=k
  .simp only [aQ e,qL6 e,Bool.true_or,Option.isSome_some]
  .rw[aR e,qL1 e,Bool.false_or];show aS k r
def cX (kvs:List (κ×V)) (k:κ) (v:V):(putK kvs k v).length<=kvs.length+1:=by
 unfold putK
 split
 .rw[qA0];omega
 .rw[qA1,qA3,qI4];omega
def so {k:κ}(v:V) (h:L9 kvs k=none):putK kvs k v=kvs ++ [(k,v)]:=by
 unfold putK;rw[aS,h];show qB4 Qy
def RelO.isSome_eq (r:RelO o u):o.isSome=u.isSome:=by
 cases o with
 | none=>cases u with
  |none=>rfl
  |some _=>show (show False from r).elim
 | some _=>cases u with
  |none=>show (show False from r).elim
  |some _=>rfl
def RelO.getD (r:RelO o u) (I:RelV d d'):RelV (o.getD d) (u.getD d'):=by
 cases o with
 | none=>cases u with
  |none=>show I
  |some _=>show (show False from r).elim
 | some _=>cases u with
  |none=>show (show False from r).elim
  |some _=>show r
def KV.val (r:KV kvs vs) (k:κ):RelO (L9 kvs k) (valueAt vs k):=by
 unfold KV at r
 induction r with
 |nil=>show True.intro
 | @cons p q ps I h t ih=>
  obtain ⟨h1,h2⟩:=h;by_cases e:p.1=k
  .have O:q.1=k:=h1.symm.trans e;have b:valueAt (q::I) k=some q.2:=by simp [valueAt,qJ8,O]
   rw[aQ e,b];show h2
  .have O:¬ q.1=k:=λz=>e (h1.trans z);have b:valueAt (q::I) k=valueAt I k:=by simp [valueAt,qJ8,O]
   rw[aR e,b];show ih
def KV.any (r:KV kvs vs) (k:κ):(kvs.any λI=>decide (I.1=k))=vs.any λI=>decide (I.1=k):=by
 unfold KV at r
 induction r with
 |nil=>rfl
 |cons h t O=>rw[qX4,qX4,O,h.1]
def KV.repl (r:KV kvs vs) (k:κ) (O:RelV y u):
  KV (kvs.map λI=>if I.1=k then (I.1,y) else I) (vs.map λI=>if I.1=k then (I.1,u) else I):=by
 unfold KV at r ⊢
 induction r with
 |nil=>show .nil
 | @cons p q ps qs h t ih=>
  rw[qB2,qB2];refine .cons ?_ ih;obtain ⟨h1,h2⟩:=h;by_cases e:p.1=k
  .rw[qA9 e,qA9 (h1.symm.trans e)];show ⟨h1,O⟩
  .rw[qB4 e,qB4 (λz=>e (h1.trans z))];show ⟨h1,h2⟩
def KV.put (r:KV kvs vs) (k:κ) (I:RelV y u):KV (putK kvs k y) (stored vs k u):=by
 unfold putK stored;rw[r.any k];by_cases e:(vs.any λO=>decide (O.1=k))=true
 .rw[qA9 e,qA9 e];show r.repl k I
 .rw[qB4 e,qB4 e];show Paired.snoc r ⟨rfl,I⟩
def KV.keys {vs:List (κ×Value)}(r:KV kvs vs):kvs.map (·.1)=vs.map (·.1):=by
 unfold KV at r
 induction r with
 |nil=>rfl
 |cons h t I=>rw[qB2,qB2,I,h.1]
def KV.length {vs:List (κ×Value)}(r:KV kvs vs):kvs.length=vs.length:=Paired.length r
end
def ee (r:RelV (kV k) u):(o8 P w).is k u=true:=by
 cases k with
 |inl i=>obtain ⟨t,e⟩:=(show ∃t,u=Value.int i t from r);subst e;show jP P w i t
 |inr x=>obtain ⟨t,e⟩:=(show ∃t,u=Value.str x t from r);subst e;show jO P w x t
def gk:∀{ks:List Key}{us:Jw},Vals (ks.map kV) us->ItemsAre (o8 P w) ks us
 | [],_,r=>by rw[qG1]at r;cases r;show .nil
 | k::ks,_,r=>by
  rw[qB2]at r;cases r with
  |cons h t=>show .cons (ee h) (gk t)
abbrev KT (H:Hp):List (List Key×V)->List (List Key×Addr×Value)->Prop:=Paired λp q=>p.1=q.1/\H q.2.1=some (.tup (p.1.map kV))/\RelV p.2 q.2.2
def KT.val (r:KT H kvs xs) (k:List Key):RelO (L9 kvs k) ((atKey xs k).map (·.2)):=by
 induction r with
 |nil=>show True.intro
 | @cons p q ps I h t ih=>
  obtain ⟨h1,_,h2⟩:=h;by_cases e:p.1=k
  .have O:q.1=k:=h1.symm.trans e;have b:atKey (q::I) k=some q.2:=by simp [atKey,qJ8,O]
   rw[aQ e,b];show h2
  .have O:¬ q.1=k:=λz=>e (h1.trans z);have b:atKey (q::I) k=atKey I k:=by simp [atKey,qJ8,O]
   rw[aR e,b];show ih
def KT.repl (r:KT H kvs xs) (k:List Key) (O:RelV y u):
  KT H (kvs.map λI=>if I.1=k then (I.1,y) else I) (xs.map (putAt k u)):=by
 induction r with
 |nil=>show .nil
 | @cons p q ps qs h t ih=>
  rw[qB2,qB2];refine .cons ?_ ih;obtain ⟨h1,h2,h3⟩:=h;unfold putAt;by_cases e:p.1=k
  .rw[qA9 e,qA9 (h1.symm.trans e)];show ⟨h1,h2,O⟩
  .rw[qB4 e,qB4 (λz=>e (h1.trans z))];show ⟨h1,h2,h3⟩
def KT.put (r:KT H kvs xs) (k:List Key) (O:H b=some (.tup (k.map kV))) (I:RelV y u):
  KT H (putK kvs k y) (storedH xs k b u):=by
 have e:(kvs.any λkv=>decide (kv.1=k))=(atKey xs k).isSome:=by
  rw[aS,(r.val k).isSome_eq,qR4]
 unfold putK storedH;rw[e];by_cases q:(atKey xs k).isSome=true
 .rw[qA9 q,qA9 q];show r.repl k I
 .rw[qB4 q,qB4 q];show Paired.snoc r ⟨rfl,O,I⟩
def KT.keeps (r:KT H kvs xs) (ht:∀b ys,H b=some (.tup ys)->H' b=some (.tup ys)):KT H' kvs xs:=
 Paired.mapP r λ_ _ z=>⟨z.1,ht _ _ z.2.1,z.2.2⟩
def uR (ok:HOk P w H h)(e:Rd H a u):ObjOk P w H h a u:=e.ok ok
def cR (ok:HOk P w H h) (e:Rd H a (.dK kvs)):kvs.length<=sizeLine/\(a == sysModules)=false/\∃vs,KV kvs vs/\h.DictOf (o8 P w) a vs:=
 show ObjOk P w H h a (.dK kvs) from uR ok e
def vA (ok:HOk P w H h)(e:H a=some (.dK kvs)):kvs.length<=sizeLine/\(a == sysModules)=false/\∃vs,KV kvs vs/\h.DictOf (o8 P w) a vs:=cR ok (.inl e)
def dZ (ok:HOk P w H h) (e:H a=some (.tup (ks.map kV))):(tupleKind (o8 P w)).is h ks a:=by
 obtain ⟨_,its,r,o,h1,h2,n,h3⟩:=(show ObjOk P w H h a (.tup (ks.map kV)) from ok a _ e);show ⟨o,its.toArray,n,h1,h2,h3,by simpa using gk r⟩
def mR (ok:HOk P w H h) (e:Rd H a (.dT kvs)):kvs.length<=sizeLine/\(a == sysModules)=false /\
  ∃xs,KT H kvs xs/\h.DictOfH (tupleKind (o8 P w)) a xs:=by
 obtain ⟨z,y,xs,r,o,es,ep,h1,h2,h3,h4,h5⟩:=(show ObjOk P w H h a (.dT kvs) from uR ok e);refine ⟨z,y,xs,r,o,es,ep,h1,h2,h3,h4,λx I=>?_,h5⟩;have all:∀{l:List (List Key×V)}{m:List (List Key×Addr×Value)},KT H l m->∀x∈m,(tupleKind (o8 P w)).is h x.1 x.2.1:=by
  intro l m q
  induction q with
  |nil=>intro x I;show nomatch I
  | @cons p q ps qs O t ih=>
   intro x I;rcases qA7.mp I with e|I
   .subst e;show dZ ok (by rw[<- O.1];show O.2.1)
   .show ih x I
 show all r x I
def GW (ok:HOk P w H h) (e:H a=some (.dT kvs)):kvs.length<=sizeLine/\(a == sysModules)=false /\
  ∃xs,KT H kvs xs/\h.DictOfH (tupleKind (o8 P w)) a xs:=mR ok (.inl e)
def nv (H:Hp) (a:Addr) (y:V) (r:Option V):Prop:=
 (∃kvs k,Rd H a (.dK kvs)/\y=kV k/\r=L9 kvs k)\/∃kvs k b,Rd H a (.dT kvs)/\y=.ref b/\H b=some (.tup (k.map kV))/\r=L9 kvs k
def DPut (H:Hp) (a:Addr) (y v:V) (H':Hp):Prop:=
 (∃kvs k,H a=some (.dK kvs)/\y=kV k/\kvs.length<sizeLine/\H'=upd H a (.dK (putK kvs k v))) \/
 ∃kvs k b,H a=some (.dT kvs)/\y=.ref b/\H b=some (.tup (k.map kV))/\kvs.length<sizeLine/\H'=upd H a (.dT (putK kvs k v))
def DPut.k {H:Hp}{k:Key}(e:H a=some (.dK kvs))(hl:kvs.length<sizeLine):DPut H a (kV k) v (upd H a (.dK (putK kvs k v))):=.inl ⟨kvs,k,e,rfl,hl,rfl⟩
def Inv.big {σ:St}(I:Inv X pins σ H s):sysModules<s.heap.objs.size:=by
 have h:mainGlobals<s.heap.objs.size:=(I.mod.glob.keeps I.bk).lt;show Nat.lt_trans Qy h
def d_in {σ:St}(hu:A.units+1<cLine) (I:Inv X pins σ H s) (g:nv H a y o) (ry:RelV y u) (h:∀s',Inv X pins σ H s'->Q (.bool o.isSome) s'):
  wpAny (model X.prog X.w) A (compareOp .In u (.ref a)) Q E s:=by
 rcases g with ⟨kvs,k,e,ey,l⟩|⟨kvs,k,b,e,ey,eb,l⟩
 .subst ey;obtain ⟨z,hd,vs,O,dd⟩:=cR I.hok e;refine wpAny_in_of (ee ry) hd dd.mapOf ?_;rw[<- (O.val k).isSome_eq,<- l];show h _ (I.tok _)
 .subst ey;cases (show u=Value.ref b from ry);obtain ⟨z,hd,xs,O,dd⟩:=mR I.hok e;refine wpAny_in_heap (qQ4 hu) (dZ I.hok eb) hd dd ?_;have q:=(O.val k).isSome_eq;rw[qR4]at q;rw[<- q,<- l];show h _ (I.tok _)
def yf {σ:St}(hu:A.units+1<cLine) (I:Inv X pins σ H s) (g:nv H a y o) (ry:RelV y u) (h:∀s',Inv X pins σ H s'->Q (.bool (!o.isSome)) s'):
  wpAny (model X.prog X.w) A (compareOp .NotIn u (.ref a)) Q E s:=by
 rcases g with ⟨kvs,k,e,ey,l⟩|⟨kvs,k,b,e,ey,eb,l⟩
 .subst ey;obtain ⟨z,hd,vs,O,dd⟩:=cR I.hok e;refine wpAny_notIn_of (ee ry) hd dd.mapOf ?_;rw[<- (O.val k).isSome_eq,<- l];show h _ (I.tok _)
 .subst ey;cases (show u=Value.ref b from ry);obtain ⟨z,hd,xs,O,dd⟩:=mR I.hok e;refine wpAny_notIn_heap (qQ4 hu) (dZ I.hok eb) hd dd ?_;have q:=(O.val k).isSome_eq;rw[qR4]at q;rw[<- q,<- l];show h _ (I.tok _)
def kZ {σ:St}(I:Inv X pins σ H s) (mu:Mut (H a)) (hs:Heap.SameBut a s.heap h') (he:∃q,h'.get? a=some q) (O:ObjOk X.prog X.w (upd H a ob) h' a ob):
  Inv X pins σ (upd H a ob) { s with heap:=h',toks:=t' }:=
 I.write (x:=a) (e:=a) mu (.inl rfl) (λb q hb z=>(hs.2 b hb).trans z) he O
def DF (z:kvs.length<=sizeLine) (hd:(a == sysModules)=false) (I:KV kvs vs) (dd:h'.DictOf (o8 P w) a vs):
  ObjOk P w H' h' a (.dK kvs):=⟨z,hd,vs,I,dd⟩
def qk {σ:St}(hu:A.units+1<cLine) (I:Inv X pins σ H s) (g:DPut H a y v H') (ry:RelV y u) (rv:RelV v r) (h:∀s',Inv X pins σ H' s'->Q () s'):
  wpAny (model X.prog X.w) A (setItem (.ref a) u r) Q E s:=by
 rcases g with ⟨kvs,k,e,ey,l,eH⟩|⟨kvs,k,b,e,ey,eb,l,eH⟩
 .subst ey eH;obtain ⟨z,hd,vs,O,dd⟩:=vA I.hok e;have hz:vs.length<=sizeLine:=by rw[<- O.length];show z
  have hl:(putK kvs k v).length<=sizeLine:=by have:=cX kvs k v;omega
  refine wpAny_setItem_pairs (hsz:=hz) (ee ry) dd λh' a3 hs=>h _ ?_;have he:∃q,h'.get? a=some q:=let ⟨q,_,_,hq,_⟩:=a3;⟨q,hq⟩;show kZ I (by rw[e];show True.intro) hs he (DF hl hd (O.put k rv) a3)
 .subst ey eH;cases (show u=Value.ref b from ry);obtain ⟨z,hd,xs,O,dd⟩:=GW I.hok e;have hz:xs.length<=sizeLine:=by rw[<- Paired.length O];show z
  have hl:(putK kvs k v).length<=sizeLine:=by have:=cX kvs k v;omega
  refine wpAny_setItem_heap (hsz:=hz) (qQ4 hu) (dZ I.hok eb) dd λh' a3 hs=>h _ ?_;obtain ⟨q,es,ep,hq,h2,h3,h4,_,h5⟩:=a3;refine kZ I (by rw[e];show True.intro) hs ⟨q,hq⟩ ⟨hl,hd,_,(O.put k eb rv).keeps λc ys ec=>?_,q,es,ep,hq,h2,h3,h4,h5⟩;rw[b6 (Gc ec e (λz=>nomatch z))];show ec
def GY {σ:St}(I:Inv X pins σ H s) (e:Rd H a (.dK kvs)) (h:∀t s',Inv X pins σ H s'->Q (.int kvs.length t) s'):wpAny (model X.prog X.w) A (call (.builtin "len") [.ref a]) Q E s:=by
 obtain ⟨z,hd,vs,O,dd⟩:=cR I.hok e;refine call_len_dict hd dd (by rw[<- O.length];rw[sizeLine_eq]at z;omega) ?_;rw[<- O.length];show h _ _ (I.tok _)
def zA (ty I:TE):TE:=λσ H Q=>ty σ H λy H1=>I σ H1 λx H2=>∃a o,x=.ref a/\nv H2 a y o/\Q (.bl o.isSome) H2
def kd (ty I:TE):TE:=λσ H Q=>ty σ H λy H1=>I σ H1 λx H2=>∃a o,x=.ref a/\nv H2 a y o/\Q (.bl (!o.isSome)) H2
def lK (td ty tv:TE):TS:=λD σ H=>tv σ H λv H1=>td σ H1 λx H2=>ty σ H2 λy O=>∃a I,x=.ref a/\DPut O a y v I/\D.nx σ I
def Bg (hu:X.A.units+1<cLine) (hi:PE X i ty) (ho:PE X o td):PC X .In i o (zA ty td):=by
 intro pins s σ H Q I h;refine thn (hi pins s σ H _ I h) λiv s1 ⟨y,H1,I1,ry,q1⟩=>thn (ho pins s1 σ H1 _ I1 q1) λu s2 O=>?_;obtain ⟨x,H2,I2,rx,a,ov,ex,g,q2⟩:=O;subst ex;obtain rfl:u=Value.ref a:=rx;show d_in hu I2 g ry λs3 I3=>⟨.bl ov.isSome,H2,I3,rfl,q2⟩
def oS (hu:X.A.units+1<cLine) (hi:PE X i ty) (ho:PE X o td):PC X .NotIn i o (kd ty td):=by
 intro pins s σ H Q I h;refine thn (hi pins s σ H _ I h) λiv s1 ⟨y,H1,I1,ry,q1⟩=>thn (ho pins s1 σ H1 _ I1 q1) λu s2 O=>?_;obtain ⟨x,H2,I2,rx,a,ov,ex,g,q2⟩:=O;subst ex;obtain rfl:u=Value.ref a:=rx;show yf hu I2 g ry λs3 I3=>⟨.bl (!ov.isSome),H2,I3,rfl,q2⟩
def kJ (hu:X.A.units+1<cLine) (ho:PE X o td) (hi:PE X i ty) (hv:PE X value tv) (hs:swapsWith value (some (.Subscript o i pos')) pos.line X.env=pure false):
  PS X (.Assign [.Subscript o i pos'] value pos) (lK td ty tv):=by
 intro pins s σ H D I h;refine wpAny_Assign_Subscript (thn (hv pins s σ H _ I h) λr s1 ⟨v,H1,I1,rv,q1⟩=>thn (ho pins s1 σ H1 _ I1 q1) λu s2 ⟨x,H2,I2,rx,q2⟩=>thn (hi pins s2 σ H2 _ I2 q2) λiv s3 O=>?_) hs;obtain ⟨y,H3,I3,ry,a,H4,ex,g,q3⟩:=O;subst ex;obtain rfl:u=Value.ref a:=rx;show qk hu I3 g ry rv λs4 I4=>⟨σ,H4,I4,q3⟩
def uf (h:Heap) (I:sysModules<h.objs.size):ObjOk P w H (h.push { cls:=.type "dict",data:=.dict #[] }) h.objs.size (.dK []):=
 ⟨qD7 _,qM7.mpr (Ne.symm (qE7 I)),[],.nil,Heap.DictOf.new h⟩
def tDNewK:TE:=λ_ H Q=>∀p,H p=none->Q (.ref p) (upd H p (.dK []))
def sD:PE X (.Dict [] [] pos) tDNewK:=λpins s σ H Q I h=>
 wpAny_Dict_empty ⟨.ref s.heap.objs.size,_,I.laid (a:=s.heap.objs.size) (o:=.dK []) (t':=s.toks) (λ_ _ q=>qB3 _ q) (qB8 _) (uf s.heap I.big),rfl,h _ (I.hok.fresh (qB8 _))⟩
end L2
namespace L2
open PySem
structure Sub where
 t:Bool
 i:Addr
 l:Addr
def Sub.At (u:Sub)(h:Heap)(n:Nat):Prop:=if u.t=true then h.IsTupleIter u.i u.l n else h.IsListIter u.i u.l n
def Sub.Src (u:Sub)(h:Heap)(xs:Jy):Prop:=if u.t=true then h.IsTuple u.l xs else h.IsList u.l xs
def Sub.At.obj {u:Sub}(x:u.At h n):∃o,h.get? u.i=some o/\o.data=.fields #[.ref u.l,.int n 0]:=by
 unfold Sub.At at x
 split at x <;> (obtain ⟨o,e,_,d⟩:=x;show ⟨o,e,d⟩)
def Sub.At.keep {u:Sub}(x:u.At h n) (k:∀o,h.get? u.i=some o->h'.get? u.i=some o):u.At h' n:=by
 unfold Sub.At at x ⊢
 split at x <;> (rename_i ht;obtain ⟨o,e,r⟩:=x;simp only [ht,qL8,qM0,qE6];show ⟨o,k o e,r⟩)
def Sub.Src.keep {u:Sub}(x:u.Src h xs) (k:∀o,h.get? u.l=some o->h'.get? u.l=some o):u.Src h' xs:=by
 unfold Sub.Src at x ⊢
 split at x <;> (rename_i ht;obtain ⟨o,e,r⟩:=x;simp only [ht,qL8,qM0,qE6];show ⟨o,k o e,r⟩)
def dW (hit:s.heap.IsTupleIter it t i) (ht:s.heap.IsTuple t items) (hx:items[i]?=some x) (hQ:∀h',h'.IsTupleIter it t (i+1)->Heap.SameBut it s.heap h'->Q x { s with heap:=h' }):wpAny (model prog w) A (Builtin.SmallTypes.nextOf (.ref it)) Q E s:=by
 obtain ⟨o,I,hc,hd⟩:=id hit;obtain ⟨ol,O,_,nl,a3⟩:=ht;unfold Builtin.SmallTypes.nextOf;refine qA8 (qM8 (name:=Str.ofString "__next__") hit.typeIs qI5 (qO3 qI5 hit.typeIs F.entry_tuple_iterator_next ?_ (F.args_tuple_iterator_next_1 _)))
 change wpAny _ _ (field (.ref it) 0>>=_) _ _ s;refine qA8 (qL9 I hd (x:=.ref t) rfl ?_)
 change wpAny _ _ (if (Value.ref t == Value.none)=true then _ else _) _ _ s;rw[qB4 (show ¬ ((Value.ref t == Value.none)=true) from qC0)]
 change wpAny _ _ (field (.ref it) 1>>=_) _ _ s;refine qA8 (qL9 I hd (x:=.int i 0) rfl ?_)
 change wpAny _ _ (seqItems? (.ref t)>>=_) _ _ s;refine qA8 (qM6 O a3 ?_);simp only [qF1,hx];refine qA8 (wpAny_setField I hd Qj (qL7 ⟨x,rfl,qL7 (hQ _ ?_ (Heap.SameBut.update ..))⟩));show ⟨_,qH6 _ I (Obj.isFreed_of_fields (Obj.data_mapFields hd _)),(Obj.cls_mapFields ..).trans hc,by rw[Obj.data_mapFields hd];simp [rawInt]⟩
def fx (hh:A.handled=none) (hit:s.heap.IsTupleIter it t i) (ht:s.heap.IsTuple t items) (hx:items[i]?=none) (hE:∀h' e,Heap.ExtBut it s.heap h'->(∃o,h'.get? e=some o/\o.cls=.type "StopIteration")->E (.ref e) { s with heap:=h' }):wpAny (model prog w) A (Builtin.SmallTypes.nextOf (.ref it)) Q E s:=by
 obtain ⟨o,I,hc,hd⟩:=id hit;obtain ⟨ol,a3,_,nl,O⟩:=ht;unfold Builtin.SmallTypes.nextOf;refine qA8 (qM8 (name:=Str.ofString "__next__") hit.typeIs qI5 (qO3 qI5 hit.typeIs F.entry_tuple_iterator_next ?_ (F.args_tuple_iterator_next_1 _)))
 change wpAny _ _ (field (.ref it) 0>>=_) _ _ s;refine qA8 (qL9 I hd (x:=.ref t) rfl ?_)
 change wpAny _ _ (if (Value.ref t == Value.none)=true then _ else _) _ _ s;rw[qB4 (show ¬ ((Value.ref t == Value.none)=true) from qC0)]
 change wpAny _ _ (field (.ref it) 1>>=_) _ _ s;refine qA8 (qL9 I hd (x:=.int i 0) rfl ?_)
 change wpAny _ _ (seqItems? (.ref t)>>=_) _ _ s;refine qA8 (qM6 a3 O ?_);simp only [qF1,hx];refine qA8 (wpAny_rule (qA8 (wpAny_setField I hd Qj ?_)));change wpAny _ _ (newExc (.type "StopIteration") []>>=_) _ _ _;refine qA8 ?_;simp only [newExc,newTuple];refine qA8 (qM5 ?_ (by size_fits));refine qA8 (m:=firstArgMember _ _) (wpAny_of_eq (a:=Value.none) (by first|rfl | (simp only [firstArgMember];rfl)) ?_);refine qM5 ?_ (by size_fits);simp only [raiseNew];refine qA8 (wpAny_handled ?_);first|rw[show A.in1.handled=none from hh] |rw[hh]
 refine qA8 (qL7 (wpAny_throw ?_));show hE _ _ (((Heap.SameBut.update ..).extBut.push _).push _) ⟨_,qC8 _ rfl,rfl⟩
def Sub.item {u:Sub}(ha:u.At s.heap n) (O:u.Src s.heap xs) (hx:xs[n]?=some x) (I:∀h',u.At h' (n+1)->Heap.SameBut u.i s.heap h'->Q x { s with heap:=h' }):wpAny (model prog w) A (Builtin.SmallTypes.nextOf (.ref u.i)) Q E s:=by
 unfold Sub.At at ha I;unfold Sub.Src at O;cases ht:u.t with
 |true=>simp only [ht,qL8]at ha O I;show dW ha O hx I
 |false=>simp only [ht,qM0,qE6]at ha O I;show wpAny_nextOf_list_item ha O hx I
def Sub.ends {u:Sub}(hh:A.handled=none) (ha:u.At s.heap n) (I:u.Src s.heap xs) (hx:xs[n]?=none) (O:∀h' e,Heap.ExtBut u.i s.heap h'->(∃o,h'.get? e=some o/\o.cls=.type "StopIteration")->E (.ref e) { s with heap:=h' }):wpAny (model prog w) A (Builtin.SmallTypes.nextOf (.ref u.i)) Q E s:=by
 unfold Sub.At at ha;unfold Sub.Src at I;cases ht:u.t with
 |true=>simp only [ht,qL8]at ha I;show fx hh ha I hx O
 |false=>simp only [ht,qM0,qE6]at ha I;show wpAny_nextOf_list_end hh ha I hx O
abbrev J7 (h:Heap)(T:Addr)(arr:Jy):Prop:=h.get? T=some { cls:=.type "tuple",data:=.seq arr }
def drawn (n:Nat):List (Sub×Array Value)->Nat->Array Value->Array Value
 | [],_,arr=>arr
 |u::r,c,arr=>drawn n r (c+1) (arr.setIfInBounds c (u.2.getD n .none))
def vJ (prog:Program) (w:World) (A:Around) (z TO:Addr) (E:Jp) (B:Value×Nat->Option Fin×Unit->Sem (ForInStep (Option Fin×Unit))):Prop:=
 ∀ (v:Value) (k:Nat) (s:Shared) (Q:ForInStep (Option Fin×Unit)->Shared->Prop),
  wpAny (model prog w) A (Builtin.SmallTypes.nextOf v) (λx s1=>∃arr,J7 s1.heap TO arr/\arr.size<=sizeLine/\∀h',J7 h' TO (arr.setIfInBounds k x)->Heap.SameBut TO s1.heap h'->Q (.yield (none,())) { s1 with heap:=h' })
   (λe s1=>wpAny (model prog w) A (setField (.ref z) 0 .none) (λ_ s2=>E e s2) E s1) s->wpAny (model prog w) A (B (v,k) (none,())) Q E s
structure Apart (z TO:Addr) (ss:List (Sub×Array Value)):Prop where
 zTO:z≠TO
 zi:∀u∈ss,u.1.i≠z
 ti:∀u∈ss,u.1.i≠TO
 nd:ss.Pairwise λu v=>u.1.i≠v.1.i
 lz:∀u∈ss,u.1.l≠z
 lt:∀u∈ss,u.1.l≠TO
 li:∀u∈ss,∀v∈ss,u.1.l≠v.1.i
def Apart.tail {TO:Addr}(D:Apart z TO (u::ss)):Apart z TO ss:=
 ⟨D.zTO,λv I=>D.zi v (qA4 _ I),λv I=>D.ti v (qA4 _ I),(qN5.mp D.nd).2,λv I=>D.lz v (qA4 _ I),λv I=>D.lt v (qA4 _ I),
  λv I x O=>D.li v (qA4 _ I) x (qA4 _ O)⟩
def draws {TI TO:Addr}(hB:vJ prog w A z TO E B):
  ∀ (ss:List (Sub×Array Value)) (c:Nat) (arr:Jy) (s:Shared) (Q:Option Fin×Unit->Shared->Prop),Apart z TO ss->IsZip s.heap z TI TO .ellipsis->J7 s.heap TO arr->arr.size<=sizeLine ->
   (∀u∈ss,u.1.At s.heap n/\u.1.Src s.heap u.2/\∃x,u.2[n]?=some x) ->
   (∀ h',IsZip h' z TI TO .ellipsis->J7 h' TO (drawn n ss c arr)->(∀u∈ss,u.1.At h' (n+1))->h'.objs.size=s.heap.objs.size ->
    (∀b o,b≠TO->(∀u∈ss,b≠u.1.i)->s.heap.get? b=some o->h'.get? b=some o)->Q (none,()) { s with heap:=h' }) ->
   wpAny (model prog w) A (forIn ((ss.map λu=>Value.ref u.1.i).zipIdx c) (none,()) B) Q E s:=by
 intro ss
 induction ss with
 | nil=>
  intro c arr s Q D hz hT hl hu hQ;simp only [qG1,List.zipIdx_nil,qV6];show qL7 (hQ s.heap hz hT (λ_ h=>absurd h qF0) rfl λ_ _ _ _ e=>e)
 | cons u r ih=>
  intro c arr s Q D hz hT hl hu hQ;simp only [qB2,List.zipIdx_cons,qK7];obtain ⟨ha,O,x,hx⟩:=hu u qA2;refine qA8 (hB _ _ _ _ (Sub.item ha O hx λh1 ae sb1=>⟨arr,sb1.extBut _ _ (D.ti u qA2).symm hT,hl,λh2 b0 sb2=>?_⟩));have uz:=D.zi u qA2;have ut:=D.ti u qA2;have kp:∀b o,b≠TO->b≠u.1.i->s.heap.get? b=some o->h2.get? b=some o:=λb o h1 h2 e=>sb2.extBut _ _ h1 (sb1.extBut _ _ h2 e);have a4:∀v∈r,v.1.i≠u.1.i:=λv I=>((qN5.mp D.nd).1 v I).symm;refine ih (c+1) (arr.setIfInBounds c x) { s with heap:=h2 } Q D.tail (kp _ _ D.zTO uz.symm hz) b0 (by simpa using hl) (λv I=>?_) λh3 z3 T3 a3 s3 k3=>?_
  .obtain ⟨a,b,y⟩:=hu v (qA4 _ I);show ⟨a.keep λo e=>kp _ o (D.ti v (qA4 _ I)) (a4 v I) e,b.keep λo e=>kp _ o (D.lt v (qA4 _ I)) (D.li v (qA4 _ I) u qA2) e,y⟩
  .refine hQ h3 z3 ?_ (λv I=>?_) (by rw[s3];change h2.objs.size=_;rw[sb2.1,sb1.1]) λb o h1 h2 e=>k3 b o h1 (λv I=>h2 v (qA4 _ I)) (kp b o h1 (h2 u qA2) e)
   .have e:u.2.getD n .none=x:=by simp [qQ6,hx]
    change J7 h3 TO (drawn n r (c+1) (arr.setIfInBounds c (u.2.getD n .none)));rw[e];show T3
   .rcases qA7.mp I with rfl|I
    .show ae.keep λo e=>k3 _ o ut (λv' b3=>(a4 v' b3).symm) (sb2.extBut _ _ ut e)
    .show a3 v I
def qh {TI TO:Addr}(hh:A.handled=none) (hB:vJ prog w A z TO E B):
  ∀ (ss:List (Sub×Array Value)) (c:Nat) (arr:Jy) (s:Shared) (Q:Option Fin×Unit->Shared->Prop),Apart z TO ss->IsZip s.heap z TI TO .ellipsis->J7 s.heap TO arr->arr.size<=sizeLine ->
   (∀u∈ss,u.1.At s.heap n/\u.1.Src s.heap u.2)->(∃u∈ss,u.2[n]?=none) ->
   (∀h' e,(∀b o,b≠z->b≠TO->(∀u∈ss,b≠u.1.i)->s.heap.get? b=some o->h'.get? b=some o)->(∃o,h'.get? e=some o/\o.cls=.type "StopIteration")->E (.ref e) { s with heap:=h' }) ->
   wpAny (model prog w) A (forIn ((ss.map λu=>Value.ref u.1.i).zipIdx c) (none,()) B) Q E s:=by
 intro ss
 induction ss with
 | nil=>
  intro c arr s Q D hz hT hl hu hx hQ;obtain ⟨_,h,_⟩:=hx;show absurd h qF0
 | cons u r ih=>
  intro c arr s Q D hz hT hl hu hx hQ;simp only [qB2,List.zipIdx_cons,qK7];obtain ⟨ha,O⟩:=hu u qA2;have uz:=D.zi u qA2;have ut:=D.ti u qA2;cases a4:u.2[n]? with
  | none=>
   refine qA8 (hB _ _ _ _ (Sub.ends hh ha O a4 λh1 e eb he=>?_));obtain ⟨oe,a3,ae⟩:=he;have b0:IsZip h1 z TI TO .ellipsis:=eb _ _ uz.symm hz;have b4:e≠z:=λx=>by subst x;rw[b0]at a3;cases a3;simp at ae
   show qN0 b0 Qj λh3 _ sb3=>hQ h3 e (λb o b1 b2 b3 q=>sb3.extBut _ _ b1 (eb _ _ (b3 u qA2) q)) ⟨oe,sb3.extBut _ _ b4 a3,ae⟩
  | some x=>
   refine qA8 (hB _ _ _ _ (Sub.item ha O a4 λh1 bf sb1=>⟨arr,sb1.extBut _ _ ut.symm hT,hl,λh2 b5 sb2=>?_⟩));have kp:∀b o,b≠TO->b≠u.1.i->s.heap.get? b=some o->h2.get? b=some o:=λb o h1 h2 e=>sb2.extBut _ _ h1 (sb1.extBut _ _ h2 e);have bc:∀v∈r,v.1.i≠u.1.i:=λv I=>((qN5.mp D.nd).1 v I).symm;refine ih (c+1) (arr.setIfInBounds c x) { s with heap:=h2 } Q D.tail (kp _ _ D.zTO uz.symm hz) b5 (by simpa using hl) (λv I=>?_) ?_ λh3 e k3 he=>?_
   .obtain ⟨a,b⟩:=hu v (qA4 _ I);show ⟨a.keep λo e=>kp _ o (D.ti v (qA4 _ I)) (bc v I) e,b.keep λo e=>kp _ o (D.lt v (qA4 _ I)) (D.li v (qA4 _ I) u qA2) e⟩
   .obtain ⟨v,I,e⟩:=hx;rcases qA7.mp I with rfl|I
    .rw[a4]at e;cases e
    .show ⟨v,I,e⟩
   .show hQ h3 e (λb o b1 b2 b3 q=>k3 b o b1 b2 (λv I=>b3 v (qA4 _ I)) (kp b o b2 (b3 u qA2) q)) he
def mS (n:Nat):∀(ss:List (Sub×Array Value)) (c:Nat) (arr:Jy),(drawn n ss c arr).size=arr.size:=by
 intro ss
 induction ss with
 |nil=>intro c arr;rfl
 |cons u r I=>intro c arr;unfold drawn;rw[I];simp
def qi (n:Nat):∀(ss:List (Sub×Array Value)) (c:Nat) (arr:Jy),c+ss.length=arr.size->(drawn n ss c arr).toList=arr.toList.take c++ss.map λu=>u.2.getD n .none:=by
 intro ss
 induction ss with
 | nil=>
  intro c arr h;unfold drawn;simp at h;subst h;rw[qG1,qD1];show (qE1 Qj).symm
 | cons u r I=>
  intro c arr h;unfold drawn;have hc:c<arr.size:=by simp at h;omega
  rw[I (c+1) _ (by simp at h ⊢;omega)];rw[qB2,Array.toList_setIfInBounds]
  have:(arr.toList.set c (u.2.getD n Value.none)).take (c+1)=arr.toList.take c ++ [u.2.getD n Value.none]:=by
   rw[qL3,List.take_set,qE0 (by simpa using hc)];rw[List.set_eq_of_length_le (by simp;omega)];rfl
  rw[this,qB6];rfl
def qS {TI TO:Addr}(D:Apart z TO ss) (b0:ss ≠ []) (hsz:arr.size=ss.length) (I:ss.length<=sizeLine) (hz:IsZip s.heap z TI TO .none) (a4:J7 s.heap TI (ss.map λu=>Value.ref u.1.i).toArray) (ae:J7 s.heap TO arr) (hu:∀u∈ss,u.1.At s.heap n/\u.1.Src s.heap u.2/\∃x,u.2[n]?=some x) (hQ:∀h',IsZip h' z TI TO (rawInt s.heap.objs.size)->(∃arr',J7 h' TO arr'/\arr'.size=ss.length)->(∀u∈ss,u.1.At h' (n+1))->J7 h' s.heap.objs.size (ss.map λu=>u.2.getD n .none).toArray ->
   (∀b o,b≠z->b≠TO->(∀u∈ss,b≠u.1.i)->s.heap.get? b=some o->h'.get? b=some o)->Q (some (.ref s.heap.objs.size)) { s with heap:=h' }):
  wpAny (model prog w) A (pyNext (.ref z)) Q E s:=by
 have hT:s.TypeIs (.ref z) "zip" := ⟨_,hz,rfl⟩;unfold pyNext;refine qA8 (qQ9 (qM8 (name:=Str.ofString "__next__") hT qP4 (qO3 qP4 hT F.entry_zip_next ?_ (F.args_zip_next_1 _))))
 change wpAny _ _ (field (.ref z) 2>>=_) _ _ _;refine qA8 (qL9 hz rfl (x:=.bool false) rfl ?_)
 change wpAny _ _ (field (.ref z) 3>>=_) _ _ _;refine qA8 (qL9 hz rfl (x:=.ref TI) rfl ?_);refine qA8 (qM6 a4 rfl ?_);have e1:(ss.map λu=>Value.ref u.1.i).toArray.isEmpty=false:=by cases ss <;> simp_all
 simp only [e1];refine qA8 ?_;unfold Builtin.SmallTypes.ownedTupleIsFree;refine qA8 (qL9 hz rfl (x:=.none) rfl (qL7 ?_));simp only [qL8];refine qA8 (wpAny_rule ?_);refine qA8 (qL9 hz rfl (x:=.ref TO) rfl ?_);refine qA8 (qN0 hz Qj λh1 z1 sb1=>?_);replace z1:IsZip h1 z TI TO .ellipsis:=z1
 refine qA8 (draws (TI:=TI) (n:=n) (z:=z) (TO:=TO) ?_ ss 0 arr _ _ D z1 (sb1.extBut _ _ D.zTO.symm ae) Qo (λu hm=>?_) λh2 z2 T2 a2 s2 k2=>?_)
 .intro v k s Q h;refine qA8 (wpAny_onRaise ?_)
  change wpAny _ _ (Builtin.SmallTypes.nextOf v>>=_) _ _ _;refine qA8 (qM3 h (λx s1 ⟨arr,hT1,hl,hq⟩=>qL7 ?_) λe s1 he=>he);refine qA8 (qM6 hT1 rfl ?_);refine qA8 (wpAny_updateSeq hT1 rfl ?_ hl (by rw[qS3];omega));refine qA8 (wpAny_letGo (qL7 (hq _ ?_ (Heap.SameBut.update ..))))
  change Heap.get? _ _=_;rw[qH6 _ hT1 rfl];simp [Obj.mapSeq]
 .obtain ⟨a,b,x⟩:=hu u hm;show ⟨a.keep λo e=>sb1.extBut _ _ (D.zi u hm) e,b.keep λo e=>sb1.extBut _ _ (D.lz u hm) e,x⟩
 .have ed:(drawn n ss 0 arr).toList=ss.map λu=>u.2.getD n .none:=by rw[qi n ss 0 arr Qo];simp
  refine qA8 (qM6 T2 rfl ?_);have a3:h2.objs.size=s.heap.objs.size:=by rw[s2];show sb1.1
  have O:z<h2.objs.size:=qC7 z2;refine qA8 (wpAny_newTuple (qA8 ?_) (by rw[ed,qA0];show I));unfold Builtin.SmallTypes.ownedTupleHandOut;have z3:IsZip (h2.push { cls:=.type "tuple",data:=.seq (drawn n ss 0 arr).toList.toArray }) z TI TO .ellipsis:=qB3 _ z2;refine qA8 (qN0 z3 Qj λh4 z4 sb4=>?_);replace z4:IsZip h4 z TI TO (rawInt h2.objs.size):=z4
  refine qN0 z4 Qj λh5 z5 sb5=>?_;replace z5:IsZip h5 z TI TO (rawInt h2.objs.size):=z5
  have up:∀b o,b≠z->h2.get? b=some o->h5.get? b=some o:=λb o hb e=>sb5.extBut _ _ hb (sb4.extBut _ _ hb (qB3 _ e));have T5:J7 h5 h2.objs.size (drawn n ss 0 arr).toList.toArray:=sb5.extBut _ _ (qK9 O) (sb4.extBut _ _ (qK9 O) (qC8 _ rfl));rw[ed]at T5;rw[a3]at z5 T5;refine qL7 ⟨_,rfl,qL7 ?_⟩
  change Q (some (.ref h2.objs.size)) _;rw[a3];show hQ h5 z5 ⟨_,up _ _ D.zTO.symm T2,by rw[mS,hsz]⟩ (λu hm=>(a2 u hm).keep λo e=>up _ o (D.zi u hm) e) T5 λb o b1 b2 b3 e=>up b o b1 (k2 b o b2 b3 (sb1.extBut _ _ b1 e))
def qR {TI TO:Addr}(hh:A.handled=none) (D:Apart z TO ss) (hsz:arr.size=ss.length) (O:ss.length<=sizeLine) (hz:IsZip s.heap z TI TO .none) (I:J7 s.heap TI (ss.map λu=>Value.ref u.1.i).toArray) (a3:J7 s.heap TO arr) (hu:∀u∈ss,u.1.At s.heap n/\u.1.Src s.heap u.2) (hx:∃u∈ss,u.2[n]?=none) (hQ:∀h',(∀b o,b≠z->b≠TO->(∀u∈ss,b≠u.1.i)->s.heap.get? b=some o->h'.get? b=some o)->Q none { s with heap:=h' }):
  wpAny (model prog w) A (pyNext (.ref z)) Q E s:=by
 have hT:s.TypeIs (.ref z) "zip" := ⟨_,hz,rfl⟩;unfold pyNext;refine qA8 (qQ9 (qM8 (name:=Str.ofString "__next__") hT qP4 (qO3 qP4 hT F.entry_zip_next ?_ (F.args_zip_next_1 _))))
 change wpAny _ _ (field (.ref z) 2>>=_) _ _ _;refine qA8 (qL9 hz rfl (x:=.bool false) rfl ?_)
 change wpAny _ _ (field (.ref z) 3>>=_) _ _ _;refine qA8 (qL9 hz rfl (x:=.ref TI) rfl ?_);refine qA8 (qM6 I rfl ?_);have e1:(ss.map λu=>Value.ref u.1.i).toArray.isEmpty=false:=by
  obtain ⟨u,hm,_⟩:=hx;cases ss with
  |nil=>show nomatch hm
  |cons a b=>simp
 simp only [e1];refine qA8 ?_;unfold Builtin.SmallTypes.ownedTupleIsFree;refine qA8 (qL9 hz rfl (x:=.none) rfl (qL7 ?_));simp only [qL8];refine qA8 (wpAny_rule ?_);refine qA8 (qL9 hz rfl (x:=.ref TO) rfl ?_);refine qA8 (qN0 hz Qj λh1 z1 sb1=>?_);replace z1:IsZip h1 z TI TO .ellipsis:=z1
 refine qA8 (qh (A:=A.in1) (TI:=TI) (n:=n) (z:=z) (TO:=TO) (show A.in1.handled=none from hh) ?_ ss 0 arr _ _ D z1 (sb1.extBut _ _ D.zTO.symm a3) Qo (λu hm=>?_) hx λh2 e k2 he=>?_)
 .intro v k s Q h;refine qA8 (wpAny_onRaise ?_)
  change wpAny _ _ (Builtin.SmallTypes.nextOf v>>=_) _ _ _;refine qA8 (qM3 h (λx s1 ⟨arr,hT1,hl,hq⟩=>qL7 ?_) λe s1 he=>he);refine qA8 (qM6 hT1 rfl ?_);refine qA8 (wpAny_updateSeq hT1 rfl ?_ hl (by rw[qS3];omega));refine qA8 (wpAny_letGo (qL7 (hq _ ?_ (Heap.SameBut.update ..))))
  change Heap.get? _ _=_;rw[qH6 _ hT1 rfl];simp [Obj.mapSeq]
 .obtain ⟨a,b⟩:=hu u hm;show ⟨a.keep λo e=>sb1.extBut _ _ (D.zi u hm) e,b.keep λo e=>sb1.extBut _ _ (D.lz u hm) e⟩
 .obtain ⟨o,ho,hc⟩:=he;refine qA8 (wpAny_isInstance (T := "StopIteration") (b:=true) ⟨o,ho,hc⟩ isSubtype_stop ?_);show qL7 (hQ _ λb o b1 b2 b3 e=>k2 b o b1 b2 b3 (sb1.extBut _ _ b1 e))
def SrcAt (h:Heap)(u:Bool×Addr×Array Value):Prop:=if u.1=true then h.IsTuple u.2.1 u.2.2 else h.IsList u.2.1 u.2.2
def g8 (n:Nat):List (Bool×Addr×Array Value)->List (Sub×Array Value)
 | []=>[]
 |u::r=>(⟨u.1,n,u.2.1⟩,u.2.2)::g8 (n+1) r
def tD (I:SrcAt s.heap u) (O:∀h',(Sub.mk u.1 s.heap.objs.size u.2.1).At h' 0->h'.objs.size=s.heap.objs.size+1->(∀b o,s.heap.get? b=some o->h'.get? b=some o)->Q (.ref s.heap.objs.size) { s with heap:=h' }):
  wpAny (model prog w) A (pyIter (.ref u.2.1)) Q E s:=by
 unfold SrcAt at I;cases ht:u.1 with
 | true=>
  simp only [ht,qL8]at I;refine wpAny_pyIter_tuple I (O _ ?_ (qN7 ..) λb o e=>qB3 _ e);unfold Sub.At;simp only [ht,qL8];show ⟨_,qC8 _ rfl,rfl,rfl⟩
 | false=>
  simp only [ht,qE6,qM0]at I;refine qR5 I (O _ ?_ (qN7 ..) λb o e=>qB3 _ e);unfold Sub.At;simp only [ht,qE6,qM0];show ⟨_,qC8 _ rfl,rfl,rfl⟩
def SrcAt.keep (x:SrcAt h u) (k:∀b o,h.get? b=some o->h'.get? b=some o):SrcAt h' u:=by
 unfold SrcAt at x ⊢
 split at x <;> (rename_i ht;obtain ⟨o,e,r⟩:=x;simp only [ht,qL8,qM0,qE6];show ⟨o,k _ o e,r⟩)
def jR:∀(us:List (Bool×Addr×Array Value)) (I:Jy) (s:Shared) (Q:Array Value->Shared->Prop),(∀u∈us,SrcAt s.heap u) ->
  (∀ h',(∀v∈g8 s.heap.objs.size us,v.1.At h' 0)->h'.objs.size=s.heap.objs.size+us.length->(∀b o,s.heap.get? b=some o->h'.get? b=some o) ->
   Q (I++((g8 s.heap.objs.size us).map λv=>Value.ref v.1.i).toArray) { s with heap:=h' }) ->
  wpAny (model prog w) A (forIn (us.map λu=>Value.ref u.2.1) I λx r=>do let y <- holding r.toList (pyIter x);pure (ForInStep.yield (r.push y))) Q E s:=by
 intro us
 induction us with
 | nil=>
  intro I s Q _ hQ;simp only [qG1,qV6]
  have:=hQ s.heap (λ_ h=>absurd h qF0) rfl λ_ _ e=>e
  show qL7 (by simpa [g8]using this)
 | cons u r ih=>
  intro I s Q hs hQ;simp only [qB2,qK7];refine qA8 (qA8 (qN2 (tD (hs u qA2) λh1 a1 s1 k1=>qL7 ?_)));refine ih (I.push (.ref s.heap.objs.size)) { s with heap:=h1 } Q (λv O=>(hs v (qA4 _ O)).keep k1) λh2 a2 s2 k2=>?_;have e0:g8 h1.objs.size r=g8 (s.heap.objs.size+1) r:=by rw[s1]
  have q:=hQ h2 (λv O=>?_) (by rw[s2];change h1.objs.size+_=_;rw[s1,qA3];omega) λb o e=>k2 b o (k1 b o e)
  .have e:I.push (Value.ref s.heap.objs.size)++(List.map (λv=>Value.ref v.1.i) (g8 h1.objs.size r)).toArray=I++(List.map (λv=>Value.ref v.1.i) (g8 s.heap.objs.size (u::r))).toArray:=by
    rw[e0];simp [g8]
   change Q (I.push (Value.ref s.heap.objs.size)++(List.map (λv=>Value.ref v.1.i) (g8 h1.objs.size r)).toArray) _;rw[e];show q
  .rcases qA7.mp O with rfl|O
   .show a1.keep λo e=>k2 _ o e
   .show a2 v (by change v∈g8 h1.objs.size r;rw[e0];show O)
def tE (hs:∀u∈us,SrcAt s.heap u) (I:∀h',(∀v∈g8 s.heap.objs.size us,v.1.At h' 0)->h'.objs.size=s.heap.objs.size+us.length->(∀b o,s.heap.get? b=some o->h'.get? b=some o) ->
   Q ((g8 s.heap.objs.size us).map λv=>Value.ref v.1.i) { s with heap:=h' }):wpAny (model prog w) A (Builtin.SmallTypes.iterAll (us.map λu=>Value.ref u.2.1)) Q E s:=by
 unfold Builtin.SmallTypes.iterAll;refine qA8 (jR us #[] s _ hs λh' O s1 k1=>qL7 ?_)
 have:=I h' O s1 k1
 simpa using this
def T6:∀(us:List (Bool×Addr×Array Value)) (n:Nat),(g8 n us).length=us.length:=by
 intro us
 induction us with
 |nil=>intro n;rfl
 |cons u r I=>intro n;unfold g8;rw[qA3,I,qA3]
def gf (us:List (Bool×Addr×Array Value)) (hl:us.length<=sizeLine) :
  Meets (Builtin.«zip.__new__» ⟨.type "zip" :: us.map λu=>Value.ref u.2.1,[]⟩) (λ_ R s=>(∀u∈us,SrcAt s.heap u) /\
   ∀ h',(∀v∈g8 s.heap.objs.size us,v.1.At h' 0)->J7 h' (s.heap.objs.size+us.length) ((g8 s.heap.objs.size us).map λv=>Value.ref v.1.i).toArray ->
    (∃arr,J7 h' (s.heap.objs.size+us.length+1) arr/\arr.size=us.length)->IsZip h' (s.heap.objs.size+us.length+2) (s.heap.objs.size+us.length) (s.heap.objs.size+us.length+1) .none ->
    (∀b o,s.heap.get? b=some o->h'.get? b=some o)->R (.ok (.ret (.ref (s.heap.objs.size+us.length+2)))) { s with heap:=h' }):=
 .of_wp λprog w A R s h=>by
  obtain ⟨hs,h⟩:=h
  change wpAny _ _ (Builtin.SmallTypes.newClass "zip" _>>=_) _ _ _;refine qA8 ?_;unfold Builtin.SmallTypes.newClass;refine qA8 (wpAny_of_eq (a:=true) rfl ?_);simp only [qX5,qE6,qM0];refine qA8 (wpAny_of_eq (a:=true) sub_zip ?_);simp only [qX5,qE6,qM0];refine qL7 ?_;simp only [qI4,show ¬ (0>1) by decide,qM0];refine qA8 (tE hs λh1 a1 s1 k1=>?_);refine qA8 (wpAny_newTuple ?_ (by simp [T6,hl]));refine qA8 (wpAny_newTuple ?_ (by simp [T6,hl]));generalize hI:((g8 s.heap.objs.size us).map λv=>Value.ref v.1.i)=I at h ⊢
  have O:I.length=us.length:=by rw[<- hI,qA0,T6]
  refine qA8 ?_
  change wpAny _ _ (newObj (.type "zip") (.fields #[.none,.bool false,.bool false,.ref h1.objs.size,.ref (h1.push { cls:=.type "tuple",data:=.seq I.toArray }).objs.size]) none) _ _ _;refine qM5 (qL7 ?_) (by size_fits);have z0:h1.objs.size=s.heap.objs.size+us.length:=s1;have z1:(h1.push { cls:=.type "tuple",data:=.seq I.toArray }).objs.size=s.heap.objs.size+us.length+1:=by rw[qN7,s1]
  have z2:((h1.push { cls:=.type "tuple",data:=.seq I.toArray }).push { cls:=.type "tuple",data:=.seq (I.map λ_=>Value.none).toArray }).objs.size=s.heap.objs.size+us.length+2:=by rw[qN7,z1]
  refine ⟨_,rfl,?_⟩;have g:=h (((h1.push { cls:=.type "tuple",data:=.seq I.toArray }).push { cls:=.type "tuple",data:=.seq (I.map λ_=>Value.none).toArray }).push { cls:=.type "zip",data:=.fields #[.none,.bool false,.bool false,.ref h1.objs.size,.ref (h1.push { cls:=.type "tuple",data:=.seq I.toArray }).objs.size] })
   (λv hv=>(a1 v hv).keep λo e=>qB3 _ (qB3 _ (qB3 _ e))) ?_ ⟨(I.map λ_=>Value.none).toArray,?_,by simp [O]⟩ ?_ λb o e=>qB3 _ (qB3 _ (qB3 _ (k1 b o e)))
  .rw [<- z2]at g
   show g
  .rw[<- z0];show qB3 _ (qB3 _ (qC8 _ rfl))
  .rw[<- z1];show qB3 _ (qC8 _ rfl)
  .rw[<- z2,<- z1,<- z0];show qC8 _ rfl
def lB (a b c:Value):checkTypeCall "zip" ⟨[a,b,c],[]⟩=pure ():=Qv
def mE (a b c:Value):checkBuiltinCall "zip.__new__" ⟨[.type "zip",a,b,c],[]⟩=pure ():=Qv
def mV (a b c d:Value):argsOk "object.__init__" ⟨[a,b,c,d],[]⟩:=by
 unfold argsOk;rw[signature?_of (id := "object.__init__") (n:=['_','_','t','i','n','i','_','_']) (o:=['t','c','e','j','b','o']) Qv F.owner_object];kernel_rfl
def uj (us:List (Bool×Addr×Array Value)) (hl:us.length=2\/us.length=3) (hs:∀u∈us,SrcAt s.heap u) (h:∀h',(∀v∈g8 s.heap.objs.size us,v.1.At h' 0)->J7 h' (s.heap.objs.size+us.length) ((g8 s.heap.objs.size us).map λv=>Value.ref v.1.i).toArray ->
    (∃arr,J7 h' (s.heap.objs.size+us.length+1) arr/\arr.size=us.length)->IsZip h' (s.heap.objs.size+us.length+2) (s.heap.objs.size+us.length) (s.heap.objs.size+us.length+1) .none ->
    (∀b o,s.heap.get? b=some o->h'.get? b=some o)->Q (.ref (s.heap.objs.size+us.length+2)) { s with heap:=h' }):
  wpAny (model prog w) A (call (.type "zip") (us.map λu=>Value.ref u.2.1)) Q E s:=by
 have I:us.length<=sizeLine:=qD9 (show us.length<=3 by omega) Qy;have k:∀h',_->_->_->_->_->({ s with heap:=h' }:Shared).TypeIs (.ref (s.heap.objs.size+us.length+2)) "zip" /\ Q (.ref (s.heap.objs.size+us.length+2)) { s with heap:=h' }:=λh' c1 c2 c3 O c5=>⟨⟨_,O,rfl⟩,h h' c1 c2 c3 O c5⟩;cases us with
 |nil=>rcases hl with hl|hl <;> cases hl
 | cons a us=>
  cases us with
  |nil=>rcases hl with hl|hl <;> cases hl
  | cons b us=>
   cases us with
   |nil=>show callType_new F.called_zip Qy (F.typeCall_zip_2 _ _) (F.newCall_zip_2 _ _) (λobj=>F.args_object_init_3 obj _ _) F.entry_zip_new (gf [a,b] I) ⟨hs,k⟩
   | cons c us=>
    cases us with
    |nil=>show callType_new F.called_zip Qy (lB _ _ _) (mE _ _ _) (λobj=>mV obj _ _ _) F.entry_zip_new (gf [a,b,c] I) ⟨hs,k⟩
    |cons d us=>rcases hl with hl|hl <;> (simp only [qA3]at hl;omega)
end L2
namespace L2
open PySem PySem.Spec PyProof.Rows
def au {α O:Type}{R:α->O->Prop}:∀{l:List α},(∀a∈l,∃b,R a b)->∃l':List (α×O),l'.map (·.1)=l/\∀p∈l',R p.1 p.2:=by
 intro l
 induction l with
 |nil=>show λ_=>⟨[],rfl,λ_ h=>absurd h qF0⟩
 | cons a l ih=>
  intro h;obtain ⟨b,hb⟩:=h a qA2;obtain ⟨l',e,q⟩:=ih λx hx=>h x (qA4 _ hx);refine ⟨(a,b)::l',by rw[qB2,e],λp I=>?_⟩;rcases qA7.mp I with rfl|I
  .show hb
  .show q p I
def Sq (K:Frag)(H:Hp)(t:Bool)(a:Addr)(xs:List V):Prop:=if t=true then SqT K H a xs else SqL K H a xs
def kne {σ:St}(I:Inv X pins σ H s) (h:X.K.lookup a=some o) (f:L6 X pins H b):a≠b:=by
 intro e;subst e;have O:X.base.get? a=some o:=I.mod.kin a o h;obtain ⟨f0,f1,f2,f3,f4,f5⟩:=f;rcases f3 with z|z
 .show I.ok.noex a o O z
 .show absurd (qC6 (qC7 (I.ok.bs a o O).1) z) (qG7 _)
def Sq.ne {σ:St}(I:Inv X pins σ H s) (h:Sq X.K H t a xs) (f:L6 X pins H b):a≠b:=by
 have O:∀{u:HO},Rd H a u->a≠b:=λ{u} r e=>by
  subst e;have f0:=f.1;rcases r with r|⟨o,r⟩ <;> (rw[f0]at r;cases r)
 unfold Sq at h
 split at h
 .rcases h with h|⟨o,its,n,hk,_⟩
  .show O h
  .show kne I hk f
 .rcases h with h|⟨o,its,n,hk,_⟩
  .show O h
  .show kne I hk f
def Sq.src {σ:St}(I:Inv X pins σ H s) (h:Sq X.K H t a xs):∃its:List Value,Vals xs its/\(Sub.mk t 0 a).Src s.heap its.toArray:=by
 unfold Sq at h;unfold Sub.Src
 split at h
 .rename_i ht
  obtain ⟨its,r,p,_⟩:=I.tuple h;show ⟨its,r,by simp only [ht,qL8];show p⟩
 .rename_i ht
  obtain ⟨its,r,p,_⟩:=I.list h;show ⟨its,r,by simp only [ht,qM0];show p.isList⟩
def Sq.inj {σ:St}(I:Inv X pins σ H s) (h:Sq X.K H t a xs) (h':Sq X.K H t a ys):xs=ys:=by
 unfold Sq at h h'
 split at h
 .rename_i ht;simp only [ht,qL8]at h';show I.tuple_inj h h'
 .rename_i ht;simp only [ht,qM0]at h';show I.list_inj h h'
def ItZ (K:Frag) (us:List (Bool×Addr)):It:=
  ⟨fun i H=>∀u∈us,∃xs x,Sq K H u.1 u.2 xs/\xs[i]?=some x,
   λi H x H'=>∃p ys,x=.ref p/\H p=none/\H'=upd H p (.tup ys)/\Paired (λ(u:Bool×Addr) (y:V)=>∀xs,Sq K H u.1 u.2 xs->xs[i]?=some y) us ys,
   λi H=>(∀u∈us,∃xs,Sq K H u.1 u.2 xs)/\∃u∈us,∃xs,Sq K H u.1 u.2 xs/\xs.length<=i⟩
structure ZSt (z TI TO:Addr) (subs:List Sub):Prop where
 zTO:z≠TO
 TIz:TI≠z
 TITO:TI≠TO
 zi:∀u∈subs,u.i≠z
 ti:∀u∈subs,u.i≠TO
 Ii:∀u∈subs,u.i≠TI
 nd:subs.Pairwise λu v=>u.i≠v.i
abbrev zTn (z TI TO:Addr) (subs:List Sub) (i:Nat) (h:Heap):Prop:=
 IsZip h z TI TO .none/\J7 h TI (subs.map λu=>Value.ref u.i).toArray/\(∃arr,J7 h TO arr/\arr.size=subs.length)/\∀u∈subs,u.At h i
def bh {I:Type}{F:α->γ->Prop}{f:I->α}{g:I->γ}:∀{l:List I},(∀b∈l,F (f b) (g b))->Paired F (l.map f) (l.map g)
 | [],_=>.nil
 |_::_,h=>.cons (h _ qA2) (bh λb O=>h b (qA4 _ O))
def rh {K:Frag}{TI TO:Addr}(D:ZSt z TI TO subs) (d3:subs ≠ []) (c4:subs.length<=sizeLine):
  Turn P w K (.Tuple elts k tp) (ItZ K (subs.map λu=>(u.t,u.l))) (z::TI::TO::subs.map (·.i)) z (zTn z TI TO subs) where
 mem:=Qj
 obj:=λi h st b hb=>by
  obtain ⟨hz,b4,⟨arr,b5,_⟩,hs⟩:=st;simp only [qA7,qA6]at hb;rcases hb with rfl|rfl|rfl|⟨u,O,rfl⟩
  .show ⟨_,hz,λv q=>by cases q⟩
  .show ⟨_,b4,λv q=>by cases q⟩
  .show ⟨_,b5,λv q=>by cases q⟩
  .obtain ⟨o,e,d⟩:=(hs u O).obj;show ⟨o,e,λv q=>by rw[d]at q;cases q⟩
 keep:=λi h h' st kp=>by
  obtain ⟨hz,b4,⟨arr,b5,ha⟩,hs⟩:=st;show ⟨kp z Qj _ hz,kp TI Qj _ b4,⟨arr,kp TO Qj _ b5,ha⟩,λu O=>(hs u O).keep λo e=>kp u.i (by simp only [qA7,qA6];show .inr (.inr (.inr ⟨u,O,rfl⟩))) o e⟩
 item:=by
  intro X hP hw hK hc i pins s σ H E I hf st hg;subst hP hw hK;obtain ⟨hz,b4,⟨arr,b5,ha⟩,hs⟩:=st;have fz:=hf z Qj;have fT:=hf TO Qj;have fi:∀u∈subs,L6 X pins H u.i:=λu O=>hf u.i (by simp only [qA7,qA6];show .inr (.inr (.inr ⟨u,O,rfl⟩)));obtain ⟨ss,a4,a3⟩:=au (R:=λ(u:Sub) (q:List Value×List V×V)=>Sq X.K H u.t u.l q.2.1/\Vals q.2.1 q.1/\u.Src s.heap q.1.toArray/\q.2.1[i]?=some q.2.2) (l:=subs) (λu O=>by
   obtain ⟨xs,x,h1,h2⟩:=hg (u.t,u.l) (qA6.mpr ⟨u,O,rfl⟩);obtain ⟨its,r,bf⟩:=Sq.src I h1;show ⟨(its,xs,x),h1,r,bf,h2⟩)
  have ae:∀v∈ss,v.1∈subs:=λv hv=>by rw[<- a4];show qA6.mpr ⟨v,hv,rfl⟩
  have c3:ss.Pairwise λu v=>u.1.i≠v.1.i:=by
   have:=D.nd
   rw[<- a4,qI6]at this;show this
  have DA:Apart z TO (ss.map λv=>(v.1,v.2.1.toArray)):=by
   refine ⟨D.zTO,?_,?_,?_,?_,?_,?_⟩
   .rintro _ O;obtain ⟨v,hv,rfl⟩:=qA6.mp O;show D.zi _ (ae v hv)
   .rintro _ O;obtain ⟨v,hv,rfl⟩:=qA6.mp O;show D.ti _ (ae v hv)
   .rw[qI6];show c3
   .rintro _ O;obtain ⟨v,hv,rfl⟩:=qA6.mp O;show Sq.ne I (a3 v hv).1 fz
   .rintro _ O;obtain ⟨v,hv,rfl⟩:=qA6.mp O;show Sq.ne I (a3 v hv).1 fT
   .rintro _ O _ c2;obtain ⟨v,hv,rfl⟩:=qA6.mp O;obtain ⟨v2,c1,rfl⟩:=qA6.mp c2;show Sq.ne I (a3 v hv).1 (fi _ (ae v2 c1))
  have el:(ss.map λv=>(v.1,v.2.1.toArray)).length=subs.length:=by rw[qA0,<- a4,qA0]
  have eI:((ss.map λv=>(v.1,v.2.1.toArray)).map λu=>Value.ref u.1.i)=subs.map λu=>Value.ref u.i:=by rw[<- a4,qD5,qD5];rfl
  have ys:∀v∈ss,∃u,v.2.1.toArray[i]?=some u/\RelV v.2.2.2 u:=λv hv=>by
   obtain ⟨u,e,r⟩:=(a3 v hv).2.1.get (a3 v hv).2.2.2;show ⟨u,by simpa using e,r⟩
  refine qS (n:=i) DA (by intro q;apply d3;have:=congrArg List.length q;rw[el]at this;show qN8.mp this) (by rw[ha,el]) (by rw[el];show c4) hz (by rw[eI];show b4) b5 (λu O=>?_) λh1 z1 T1 a1 p1 k1=>?_
  .obtain ⟨v,hv,rfl⟩:=qA6.mp O;obtain ⟨u,e,_⟩:=ys v hv;show ⟨hs _ (ae v hv),(a3 v hv).2.2.1,u,e⟩
  refine ⟨_,rfl,wpAny_letOwnedTupleGo_zip z1 λh2 z2 sb2=>?_⟩;have c5:z<s.heap.objs.size:=qC7 hz;have kp:∀b o,b≠z->b≠TO->(∀u∈subs,b≠u.i)->s.heap.get? b=some o->h2.get? b=some o:=λb o b1 b2 b3 e=>sb2.extBut _ _ b1 (k1 b o b1 b2 (λu O=>by obtain ⟨v,hv,rfl⟩:=qA6.mp O;show b3 _ (ae v hv)) e);have bc:H s.heap.objs.size=none:=I.hok.fresh (qB8 _);have trk:∀b u,H b=some u->b≠z/\b≠TO/\∀v∈subs,b≠v.i:=λb u e=>⟨λq=>(by subst q;rw[fz.1]at e;cases e),λq=>(by subst q;rw[fT.1]at e;cases e),λv hv q=>(by subst q;rw[(fi v hv).1]at e;cases e)⟩;have cv:J7 h2 s.heap.objs.size (ss.map λv=>v.2.1.toArray.getD i .none).toArray:=by
   have:=sb2.extBut _ _ (qK9 c5) p1
   rw[qD5]at this;show this
  have da:Vals (ss.map λv=>v.2.2.2) (ss.map λv=>v.2.1.toArray.getD i .none):=bh λv hv=>by
   obtain ⟨u,e,r⟩:=ys v hv;rw[show v.2.1.toArray.getD i Value.none=u by simp only [qQ6,e,Option.getD_some]];show r
  have len:(ss.map λv=>v.2.2.2).length<=sizeLine:=by rw[qA0,show ss.length=subs.length by rw[<- a4,qA0]];show c4
  refine ⟨.ref s.heap.objs.size,upd H s.heap.objs.size (.tup (ss.map λv=>v.2.2.2)),?_,rfl,⟨_,_,rfl,bc,rfl,?_⟩,⟨z2,?_,?_,λu O=>?_⟩,λb hb=>?_⟩
  .change Inv X pins σ _ { s with heap:=h2 };refine I.step (g':=s.gens) (t':=s.toks) (d':=s.drawn) (ch:=z::TO::subs.map (·.i)) (λb hb=>?_) (λb o _ _ hc e _=>kp b o ?_ ?_ ?_ e) (λb o _ _ hc e _=>⟨o.slots,kp b o ?_ ?_ ?_ e⟩) (λb o hc e n=>?_) (λb o hc e=>⟨o,kp b o ?_ ?_ ?_ e⟩) (λb xs e=>?_) (λb o u e=>?_) (λb ps e=>?_) (λm hm=>?_) ?_ I.bare
   .simp only [qA7,qA6]at hb;rcases hb with rfl|rfl|⟨u,O,rfl⟩
    .show ⟨fz.2.2.2.1,fz.2.1,fz.2.2.2.2.1,fz.2.2.2.2.2⟩
    .show ⟨fT.2.2.2.1,fT.2.1,fT.2.2.2.2.1,fT.2.2.2.2.2⟩
    .have f:=fi u O;show ⟨f.2.2.2.1,f.2.1,f.2.2.2.2.1,f.2.2.2.2.2⟩
   all_goals first
    | (intro q;show hc (by simp [q];done))
    | (intro u O q;show hc (by rw[q];show qA4 _ (qA4 _ (qA6.mpr ⟨u,O,rfl⟩))))
    |skip
   .rw[b6 (qE7 (qC7 e))];show n
   .rw[b6 (c9 e bc)];show e
   .rw[b6 (c9 e bc)];show e
   .show ⟨#[],by rw[b6 (c9 e bc),e];simp⟩
   .obtain ⟨o,es,ep,ho,r⟩:=hm;show ⟨o,es,ep,kp _ o (Ne.symm fz.2.1) (Ne.symm fT.2.1) (λu O=>Ne.symm (fi u O).2.1) ho,r⟩
   .intro b u e;by_cases hb:b=s.heap.objs.size
    .subst hb;rw[e7]at e;cases e;show ⟨len,_,da,⟨_,cv,rfl,_,rfl⟩⟩
    .rw [b6 hb]at e
     refine (I.hok b u e).stay (λc v b0 q=>?_) (λc q=>by rw[b6 (c9 q bc)];show q) λc xs q=>by rw[b6 (c9 q bc)];show q
     rcases b0 with rfl|b0
     .show kp _ v (trk _ _ e).1 (trk _ _ e).2.1 (trk _ _ e).2.2 q
     .show kp _ v (trk _ _ b0).1 (trk _ _ b0).2.1 (trk _ _ b0).2.2 q
  .rw [<- a4,qD5]
   show bh λv hv xs hx=>by rw[Sq.inj I hx (a3 v hv).1];show (a3 v hv).2.2.2
  .show kp TI _ D.TIz D.TITO (λu O=>Ne.symm (D.Ii u O)) b4
  .obtain ⟨arr',cp,dc⟩:=T1;show ⟨arr',sb2.extBut _ _ D.zTO.symm cp,by rw[dc,el]⟩
  .have hv:∃v∈ss,v.1=u:=by rw[<- a4]at O;show qA6.mp O
   obtain ⟨v,hv,rfl⟩:=hv;show (a1 (v.1,v.2.1.toArray) (qA6.mpr ⟨v,hv,rfl⟩)).keep λo e=>sb2.extBut _ _ (D.zi _ (ae v hv)) e
  .have:b≠s.heap.objs.size:=by
    simp only [qA7,qA6]at hb;rcases hb with rfl|rfl|rfl|⟨u,O,rfl⟩
    .show qE7 c5
    .show qE7 (qC7 b4)
    .show qE7 (qC7 b5)
    .obtain ⟨o,e,_⟩:=(hs u O).obj;show qE7 (qC7 e)
   rw[b6 this];show (hf b hb).1
 done:=by
  intro X hP hw hK hc i pins s σ H E I hf st hg;subst hP hw hK;obtain ⟨hz,b4,⟨arr,b5,ha⟩,hs⟩:=st;obtain ⟨cc,u0,cn,dm,d0,dt⟩:=hg;have fz:=hf z Qj;have fT:=hf TO Qj;have fi:∀u∈subs,L6 X pins H u.i:=λu O=>hf u.i (by simp only [qA7,qA6];show .inr (.inr (.inr ⟨u,O,rfl⟩)));obtain ⟨ss,a4,a3⟩:=au (R:=λ(u:Sub) (q:List Value×List V)=>Sq X.K H u.t u.l q.2/\Vals q.2 q.1/\u.Src s.heap q.1.toArray) (l:=subs) (λu O=>by
   obtain ⟨xs,h1⟩:=cc (u.t,u.l) (qA6.mpr ⟨u,O,rfl⟩);obtain ⟨its,r,bf⟩:=Sq.src I h1;show ⟨(its,xs),h1,r,bf⟩)
  have ae:∀v∈ss,v.1∈subs:=λv hv=>by rw[<- a4];show qA6.mpr ⟨v,hv,rfl⟩
  have c3:ss.Pairwise λu v=>u.1.i≠v.1.i:=by
   have:=D.nd
   rw[<- a4,qI6]at this;show this
  have DA:Apart z TO (ss.map λv=>(v.1,v.2.1.toArray)):=by
   refine ⟨D.zTO,?_,?_,?_,?_,?_,?_⟩
   .rintro _ O;obtain ⟨v,hv,rfl⟩:=qA6.mp O;show D.zi _ (ae v hv)
   .rintro _ O;obtain ⟨v,hv,rfl⟩:=qA6.mp O;show D.ti _ (ae v hv)
   .rw[qI6];show c3
   .rintro _ O;obtain ⟨v,hv,rfl⟩:=qA6.mp O;show Sq.ne I (a3 v hv).1 fz
   .rintro _ O;obtain ⟨v,hv,rfl⟩:=qA6.mp O;show Sq.ne I (a3 v hv).1 fT
   .rintro _ O _ c2;obtain ⟨v,hv,rfl⟩:=qA6.mp O;obtain ⟨v2,c1,rfl⟩:=qA6.mp c2;show Sq.ne I (a3 v hv).1 (fi _ (ae v2 c1))
  have el:(ss.map λv=>(v.1,v.2.1.toArray)).length=subs.length:=by rw[qA0,<- a4,qA0]
  have eI:((ss.map λv=>(v.1,v.2.1.toArray)).map λu=>Value.ref u.1.i)=subs.map λu=>Value.ref u.i:=by rw[<- a4,qD5,qD5];rfl
  refine qR (n:=i) (I.ok.hd hc) DA (by rw[ha,el]) (by rw[el];show c4) hz (by rw[eI];show b4) b5 (λu O=>?_) ?_ λh1 k1=>⟨rfl,?_⟩
  .obtain ⟨v,hv,rfl⟩:=qA6.mp O;show ⟨hs _ (ae v hv),(a3 v hv).2.2⟩
  .obtain ⟨u,O,e0⟩:=qA6.mp cn;have hv:∃v∈ss,v.1=u:=by rw[<- a4]at O;show qA6.mp O
   obtain ⟨v,hv,rfl⟩:=hv;subst e0;refine ⟨(v.1,v.2.1.toArray),qA6.mpr ⟨v,hv,rfl⟩,?_⟩;have e1:=Sq.inj I (a3 v hv).1 d0;have e2:=(a3 v hv).2.1.length;rw[e1]at e2;simp only [List.getElem?_toArray];show List.getElem?_eq_none Qo
  .have kp:∀b o,b≠z->b≠TO->(∀u∈subs,b≠u.i)->s.heap.get? b=some o->h1.get? b=some o:=λb o b1 b2 b3 e=>k1 b o b1 b2 (λu O=>by obtain ⟨v,hv,rfl⟩:=qA6.mp O;show b3 _ (ae v hv)) e;have trk:∀b u,H b=some u->b≠z/\b≠TO/\∀v∈subs,b≠v.i:=λb u e=>⟨λq=>(by subst q;rw[fz.1]at e;cases e),λq=>(by subst q;rw[fT.1]at e;cases e),λv hv q=>(by subst q;rw[(fi v hv).1]at e;cases e)⟩;refine I.step (g':=s.gens) (t':=s.toks) (d':=s.drawn) (ch:=z::TO::subs.map (·.i)) (λb hb=>?_) (λb o _ _ hc e _=>kp b o ?_ ?_ ?_ e) (λb o _ _ hc e _=>⟨o.slots,kp b o ?_ ?_ ?_ e⟩) (λb o hc e n=>n) (λb o hc e=>⟨o,kp b o ?_ ?_ ?_ e⟩) (λb xs e=>e) (λb o u e=>e) (λb ps e=>⟨#[],by rw[e];simp⟩) (λm hm=>?_) (λb u e=>?_) I.bare
   .simp only [qA7,qA6]at hb;rcases hb with rfl|rfl|⟨u,O,rfl⟩
    .show ⟨fz.2.2.2.1,fz.2.1,fz.2.2.2.2.1,fz.2.2.2.2.2⟩
    .show ⟨fT.2.2.2.1,fT.2.1,fT.2.2.2.2.1,fT.2.2.2.2.2⟩
    .have f:=fi u O;show ⟨f.2.2.2.1,f.2.1,f.2.2.2.2.1,f.2.2.2.2.2⟩
   all_goals first
    | (intro q;show hc (by simp [q];done))
    | (intro u O q;show hc (by rw[q];show qA4 _ (qA4 _ (qA6.mpr ⟨u,O,rfl⟩))))
    |skip
   .obtain ⟨o,es,ep,ho,r⟩:=hm;show ⟨o,es,ep,kp _ o (Ne.symm fz.2.1) (Ne.symm fT.2.1) (λu O=>Ne.symm (fi u O).2.1) ho,r⟩
   .refine (I.hok b u e).stay (λc v b0 q=>?_) (λc q=>q) λc xs q=>q;rcases b0 with rfl|b0
    .show kp _ v (trk _ _ e).1 (trk _ _ e).2.1 (trk _ _ e).2.2 q
    .show kp _ v (trk _ _ b0).1 (trk _ _ b0).2.1 (trk _ _ b0).2.2 q
 self:=λ_ _ _ _ _ st h=>wpAny_pyIter_zip st.1 h
def CF (K:Frag)(I:TA):TI:=λσ H R=>I σ H λvs H1=>∃us:List (Bool×Addr),vs=us.map (λu=>V.ref u.2)/\(us.length=2\/us.length=3)/\(∀u∈us,∃xs,Sq K H1 u.1 u.2 xs)/\R (ItZ K us) H1
def neN {b:Nat}(h:a≠b):(a:Addr)≠b:=h
def nB:∀{us:List (Bool×Addr)}{vs:Jw},Vals (us.map λu=>V.ref u.2) vs->vs=us.map λu=>Value.ref u.2:=by
 intro us
 induction us with
 |nil=>intro vs h;cases h;rfl
 | cons u us O=>
  intro vs h;cases h with
  | cons r t=>
   have I:_=Value.ref _:=r;rw[I,O t];rfl
def bF:∀(us:List (Bool×Addr×Array Value)) (n:Nat),∀v∈g8 n us,n<=v.1.i/\n+us.length>v.1.i:=by
 intro us
 induction us with
 |nil=>show λ_ _ h=>absurd h qF0
 | cons u r I=>
  intro n v h;rcases qA7.mp h with rfl|h
  .show ⟨qB8 _,by change n+(r.length+1)>n;omega⟩
  .have:=I (n+1) v h
   rw[qA3];omega
def ke:∀(us:List (Bool×Addr×Array Value)) (n:Nat),(g8 n us).Pairwise λu v=>u.1.i≠v.1.i
 | [],_=>.nil
 | u::r,n=>by
  refine qN5.mpr ⟨λv I=>?_,ke r (n+1)⟩
  have:=bF r (n+1) v I
  change (n:Nat)≠v.1.i;omega
def hZ:∀(us:List (Bool×Addr×Array Value)) (n:Nat),(g8 n us).map (λu=>(u.1.t,u.1.l))=us.map λu=>(u.1,u.2.1)
 | [],_=>rfl
 |u::r,n=>by unfold g8;rw[qB2,hZ r,qB2]
def AX {X:Cx}{a:Expr}{es elts:Jx}{ta:TA}{p pos tp:Pos}{k:Nat}(hg:Gl X "zip") (hm:X.mg "zip" = none) (ha:PA X (a::es) ta) (hs:starEach (a::es) X.env=(false,eval a X.env)::starEach es X.env:=by rfl) (bc:(backTo pos (starEach es X.env)).any (·.1)=false:=by rfl):PI X (.Tuple elts k tp) (.Call (.Name "zip" p) (a::es) [] pos) (CF X.K ta):=by
 intro pins s σ H R I h;refine Call_ (Y4 I hg hm boot_zip (qH0 (thn (ha pos pins s σ H _ I h) λvs s1 a4=>?_) hs bc));obtain ⟨xs,H1,I1,r1,us,e1,hl,b3,q⟩:=a4;subst e1;have e2:=nB r1;subst e2;obtain ⟨ws,ew,hws⟩:=au (R:=λ(u:Bool×Addr) (its:Jy)=>SrcAt s1.heap (u.1,u.2,its)) (l:=us) (λu O=>by
  obtain ⟨ys,hy⟩:=b3 u O;obtain ⟨its,_,a3⟩:=Sq.src I1 hy;show ⟨its.toArray,by unfold SrcAt;unfold Sub.Src at a3;show a3⟩)
 have ev:us.map (λu=>Value.ref u.2)=(ws.map λw=>(w.1.1,w.1.2,w.2)).map λu=>Value.ref u.2.1:=by rw[<- ew,qD5,qD5];rfl
 have el:(ws.map λw=>(w.1.1,w.1.2,w.2)).length=us.length:=by rw[<- ew,qA0,qA0]
 rw[ev];generalize hW:(ws.map λw=>(w.1.1,w.1.2,w.2))=W at el ev
 have b4:∀u∈W,SrcAt s1.heap u:=λu O=>by
  rw[<- hW]at O;obtain ⟨w,hw,rfl⟩:=qA6.mp O;show hws w hw
 refine uj W (by rw[el];show hl) b4 λh' hA b0 b5 hz hk=>wpAny_pyIter_zip hz ?_;have I2:Inv X pins σ H1 { s1 with heap:=h' }:=I1.kept (t':=s1.toks) hk;have eS:((g8 s1.heap.objs.size W).map (·.1)).map (λu=>(u.t,u.l))=us:=by
  rw[qD5]
  change (g8 s1.heap.objs.size W).map (λu=>(u.1.t,u.1.l))=us;rw[hZ,<- hW,qD5,<- ew];rfl
 have D:ZSt (s1.heap.objs.size+W.length+2) (s1.heap.objs.size+W.length) (s1.heap.objs.size+W.length+1) ((g8 s1.heap.objs.size W).map (·.1)):=by
  refine ⟨neN Qo,neN Qo,neN Qo,?_,?_,?_,?_⟩
  .rintro _ O;obtain ⟨v,hv,rfl⟩:=qA6.mp O;have:=bF W _ v hv;show neN Qo
  .rintro _ O;obtain ⟨v,hv,rfl⟩:=qA6.mp O;have:=bF W _ v hv;show neN Qo
  .rintro _ O;obtain ⟨v,hv,rfl⟩:=qA6.mp O;have:=bF W _ v hv;show neN Qo
  .rw[qI6];show ke W _
 have ls:((g8 s1.heap.objs.size W).map (·.1)).length=W.length:=by rw[qA0,T6]
 have TZ:=rh (P:=X.prog) (w:=X.w) (K:=X.K) (elts:=elts) (k:=k) (tp:=tp) D (by intro q;have:=congrArg List.length q;rw[ls,el]at this;have h0:us.length=0:=this;omega) (by rw[ls,el];show qD9 (show us.length<=3 by omega) Qy);rw[eS]at TZ;refine ⟨_,_,_,_,H1,rfl,I2,TZ,⟨hz,?_,?_,λu O=>?_⟩,λb hb=>?_,q⟩
 .rw[qD5];show b0
 .obtain ⟨arr,h1,h2⟩:=b5;show ⟨arr,h1,by rw[ls];show h2⟩
 .obtain ⟨v,hv,rfl⟩:=qA6.mp O;show hA v hv
 .have ae:s1.heap.objs.size<=b:=by
   simp only [qA7,qA6]at hb;rcases hb with rfl|rfl|rfl|⟨_,⟨v,hv,rfl⟩,rfl⟩
   .omega
   .omega
   .omega
   .show (bF W _ v hv).1
  have f:=I1.fpOk (H':=H1) ae (I1.hok.fresh ae);show f
def N3 (cs:Scope) (env:Env) (x:Str):(relabel cs env).names.lookup x=(cs.names.lookup x).map λk=>if (k == .free&&env.scope.kind == .function&&env.kindOf x == some .cell)=true then .cell else k:=by
 unfold relabel
 change List.lookup x (cs.names.map _)=_
 induction cs.names with
 |nil=>rfl
 | cons p r ih=>
  obtain ⟨n,k⟩:=p;by_cases O:x=n
  .subst O;rw[qB2];simp only [qJ0]
   split <;> simp_all
  .have I:(x == n)=false:=by simpa using O
   have er:List.lookup x ((n,k)::r)=List.lookup x r:=by rw[qJ0,I]
   rw[qB2,er];refine Eq.trans ?_ ih;dsimp only;by_cases hc:(k == NameKind.free&&env.scope.kind == ScopeKind.function&&env.kindOf n == some NameKind.cell)=true
   .rw[qA9 hc,qJ0,I]
   .rw[qB4 hc,qJ0,I]
def eJ: ∀ (names : List (Str × NameKind)) (O : List (Str × Addr)), (∀x ∈ names, x.2 = .free -> ∃c, env.cells.lookup x.1 = some c) -> (∀x c, O.lookup x = some c -> env.cells.lookup x = some c) ->
    ∃ cl, (forIn (m := Sem) names O λx __s => if (x.snd == NameKind.free) = true then do
              let __do_lift <- cellOf env x.fst
              pure (ForInStep.yield ((x.fst, __do_lift) :: __s))
            else pure (ForInStep.yield __s)) = pure cl /\ (∀x c, cl.lookup x = some c -> env.cells.lookup x = some c) /\ (∀x, (x, NameKind.free) ∈ names -> ∃c, cl.lookup x = some c) /\ ∀x c, O.lookup x = some c -> ∃c', cl.lookup x = some c' := by
  intro names
  induction names with
  | nil =>
    intro O _ h0;show ⟨O, by simp only [qV6], h0, λ_ h => absurd h qF0, λ_ c h => ⟨c, h⟩⟩
  | cons p r ih =>
    intro O hf h0;obtain ⟨n, k⟩ := p;by_cases hk : k = .free
    · subst hk
      obtain ⟨c, hc⟩ := hf (n, .free) qA2 rfl;obtain ⟨cl, e, h1, h2, h3⟩ := ih ((n, c) :: O) (λx I => hf x (qA4 _ I)) (λx c' I => by
        rw[qJ0]at I
        split at I
        · rename_i hb
          have a3 : x = n := by simpa using hb
          cases I;rw[a3];show hc
        · show h0 x c' I)
      have hn : ∃c', cl.lookup n = some c' := h3 n c Qj;refine ⟨cl, ?_, h1, λx I => ?_, λx c' I => ?_⟩
      · rw [qK7]
        simp only [qM2, qL8, cellOf, hc];show e
      · rcases qA7.mp I with q|I
        · cases q;show hn
        · show h2 x I
      · by_cases a3 : x = n
        · subst a3;show hn
        · show h3 x c' (by
            have hb : (x == n) = false := by simpa using a3
            rw[qJ0, hb];show I)
    · have hb : (k == NameKind.free) = false := by simpa using hk
      obtain ⟨cl, e, h1, h2, h3⟩ := ih O (λx I => hf x (qA4 _ I)) h0;refine ⟨cl, ?_, h1, λx I => ?_, h3⟩
      · rw [qK7]
        simp only [hb, qE6, qM0];show e
      · rcases qA7.mp I with q|I
        · cases q;show absurd rfl hk
        · show h2 x I
structure l6 (sc cs:Scope) (N N':Jk):Prop where
 kind:cs.kind=.function
 ncell:∀x∈cs.names,x.2≠.cell
 loc:∀x∈cs.names,x.2=.local->cs.names.lookup x.1=some .local
 free:∀x∈cs.names,x.2=.free->sc.names.lookup x.1=some .cell\/sc.names.lookup x.1=some .free
 nd:N'.Nodup
 len:N.length<=N'.length
 same:∀i∈List.range N.length,N'[i]?=N[i]?\/∀x∈N'[i]?,cs.names.lookup x=none
 out:∀x∈N'.take N.length,cs.names.lookup x≠some .local
abbrev i2 (X:Cx) (cs:Scope) (cl:List (Str×Addr)) (N':Jk) (ex:List Addr) (s:Shared) (H:Hp):Cx:=
 { X with N:=N',s₀:=s,H₀:=H,env:=compEnvC cs cl s.heap.objs.size X.env,outer:=X.stack,stack:=X.stack,ex:=ex,fn:=λ_=>false,pn:=[],xe:=λ_ _=>False }
def inner (N':Jk)(σ:St):St:=σ++List.replicate (N'.length-σ.length) none
def gm {i:Nat}(h:(inner N' σ)[i]?=some (some v)):σ[i]?=some (some v):=by
 unfold inner at h;by_cases hi:i<σ.length
 .rwa [qD2 hi]at h
 .rw [qD8 Qo,qE5]at h
  split at h <;> cases h
def ug {σ:St}{fp:List Addr}(S:l6 X.env.scope cs X.N N') (I:Inv X pins σ H s3) (O:∀x c,cl.lookup x=some c->X.env.cells.lookup x=some c) (b0:∀x,(x,NameKind.free)∈cs.names->∃c,cl.lookup x=some c) (hf:∀b∈fp,L6 X pins H b) (c4:∀b∈fp,b<s3.heap.objs.size) (kp:∀b o,s3.heap.get? b=some o->s4.heap.get? b=some o) (hn:s4.heap.Ns s3.heap.objs.size m) (c5:s4.os=s3.os) (hg:s4.gens=s3.gens):Inv (i2 X cs cl N' fp s3 H) [] (inner N' σ) H s4:=by
 have ae:∀{c:Addr}{v:Option Value},s3.heap.IsCell c v->s4.heap.IsCell c v:=λ{c v} z=>by obtain ⟨o,e,d⟩:=z;show ⟨o,kp c o e,d⟩
 refine ⟨⟨I.ok.mod,S.kind,I.ok.glob,I.ok.blt,qB8 _,λx y c h1 h2=>I.ok.inj x y c (O x c h1) (O y c h2),λx hx=>?_,λx c h _=>absurd (show false=true from h) Qy,I.ok.hd,I.ok.frames,.inl rfl,λb hb=>⟨?_,λx c e=>(hf b hb).2.2.2.2.1 x c (O x c e)⟩,I.bs,qD9 I.ok.bsz I.sz,λb o e hb=>?_,λb hb cn=>?_,I.stack,I.stkFree⟩,
  c5,by rw[hg];show I.bare,Un.kept kp,⟨m,hn,λi x v e1 e2 e3=>?_⟩,λx c e=>?_,I.hok.fresh (qB8 _),λx c e=>I.freeC x c (O x c e),λp hp=>absurd (show p∈([]:Jq) from hp) Qj,I.hok.kept kp,?_⟩
 .have a4:(relabel cs X.env).names.lookup x=some .cell\/(relabel cs X.env).names.lookup x=some .free:=hx;rw[N3]at a4;cases hl:cs.names.lookup x with
  |none=>rw[hl]at a4;rcases a4 with h|h <;> cases h
  | some k=>
   have hm:=qH3 hl;by_cases hk:k=.free
   .subst hk;show b0 x hm
   .exfalso;have hb:(k == NameKind.free)=false:=by simpa using hk
    rw[hl]at a4;simp only [qU0,hb,qL0,qE6,qM0]at a4;rcases a4 with h|h
    .cases h;show S.ncell _ hm rfl
    .cases h;show hk rfl
 .intro q;have c3:b=s3.heap.objs.size:=q;show absurd (c4 b hb) (by rw[c3];show qG7 _)
 .obtain ⟨f0,f1,f2,f3,f4,f5⟩:=hf b hb;rcases f3 with z|z
  .show I.ok.noex b o e z
  .show absurd (qC6 (qC7 (I.ok.bs b o e).1) z) (qG7 _)
 .have bf:b∈frs X.stack:=cn;rcases qA7.mp (I.stkSub b bf) with z|z
  .show (hf b hb).2.1 z
  .show (hf b hb).2.2.1 z
 .have c1:=gm e2;have hi:i<X.N.length:=by rw[<- I.len];show (qA5.mp c1).1
  have b4:N'[i]?=some x:=e1;have a3:Vis (relabel cs X.env) x:=e3;have hv:∃k,cs.names.lookup x=some k:=by
   unfold Vis at a3;rw[N3]at a3;cases hl:cs.names.lookup x with
   |none=>rw[hl]at a3;rcases a3 with h|h|h <;> cases h
   |some k=>show ⟨k,rfl⟩
  obtain ⟨k,hk⟩:=hv;have hN:X.N[i]?=some x:=by
   rcases S.same i (qH5.mpr hi) with q|q
   .rw[<- q];show b4
   .have:=q x (by rw[b4];rfl)
    rw[hk]at this;cases this
  have cc:k≠.local:=λq=>by
   subst q;show S.out x (qB5 (i:=i) (by rw[qS1 hi];show b4)) hk
  have hm:=qH3 hk;have b5:k=.free:=by
   unfold Vis at a3;rw[N3,hk]at a3;by_cases b3:k=.free
   .show b3
   .exfalso;have hb:(k == NameKind.free)=false:=by simpa using b3
    simp only [qU0,hb,qL0,qE6,qM0]at a3;rcases a3 with h|h|h
    .show cc (Option.some.inj h)
    .show S.ncell _ hm (Option.some.inj h)
    .show b3 (Option.some.inj h)
  subst b5;obtain ⟨m0,cv,cp⟩:=I.loc;have bc:Vis X.env.scope x:=by
   rcases S.free _ hm rfl with h|h
   .show .inr (.inl h)
   .show .inr (.inr h)
  obtain ⟨u,r,l⟩:=cp i x v hN c1 bc;refine ⟨u,r,.inr ⟨?_,?_⟩⟩
  .change (relabel cs X.env).names.lookup x=some .cell\/(relabel cs X.env).names.lookup x=some .free;rw[N3,hk]
   change some (if _ then _ else _)=_\/some (if _ then _ else _)=_
   split
   .show .inl rfl
   .show .inr rfl
  .obtain ⟨c,hc⟩:=b0 x hm;have c2:=O x c hc;rcases l with ⟨q,_⟩|⟨_,c',e,z⟩
   .exfalso;have q':X.env.scope.names.lookup x=some .local:=q;rcases S.free _ hm rfl with h|h <;> (rw[q']at h;cases h)
   .rw [c2]at e;cases e
    show ⟨c,hc,ae z⟩
 .obtain ⟨v,z⟩:=I.cell x c (O x c e);show ⟨v,ae z⟩
 .unfold inner;rw[qA1,qO4,I.len]
  have:=S.len
  change _=N'.length;omega
def W5 (n:Nat)(g:TG):Prop:=∀(v:V)(σ:St)(H:Hp)(Q:St->Hp->Prop),g v σ H Q->g v σ H λI H2=>Q I H2/\I.length=σ.length/\∀j,j<n->I[j]?=σ[j]?
def N4 (h:n<=i):W5 n (P2 i):=λv σ H Q q=>⟨q,Qj,λj I=>qB0 Qo⟩
def PIf (X:Cx) (I:Jx) (t:TT):Prop:=
 ∀ (pins:Jq) (s:Shared) (σ:St) (H:Hp) (Q:Bool->Hp->Prop),Inv X pins σ H s->t σ H Q ->
  wpAny (model X.prog X.w) X.A (forIn I true λc r=>if r=true then do let ok <- isTrue c X.env (eval c X.env);pure (ForInStep.yield ok) else pure (ForInStep.yield r)) (TP X pins σ Q) X.xe s
def tYes:TT:=λ_ H Q=>Q true H
def wM:PIf X [] tYes:=λ_ _ _ H _ I h=>wpAny_tests_nil ⟨H,I,h⟩
def vK (J:It) (D:Addr) (g:TG) (tc:TT) (te:TE) (a3:St) (H1:Hp) (Q:Hp->Prop):Prop:=
 ∃ W:Nat->Nat->Hp->Prop,(∃m,W 0 m (upd H1 D (.lst [])))/\∀i m H2,W i m H2 ->
  (J.stop i H2/\Q H2)\/(J.go i H2/\∀x H3,J.yld i H2 x H3->g x a3 H3 λI H4=>tc I H4 λb H5=>
   if b=true then te I H5 λy H6=>∃ys,H6 D=some (.lst ys)/\ys.length<sizeLine/\∃O,O<m/\W (i+1) O (upd H6 D (.lst (ys ++ [y])))
   else ∃O,O<m/\W (i+1) O H5)
def lE (N':Jk)(I:TI)(g:TG)(O:TT)(te:TE):TE:=λσ H Q=>I σ H λJ H1=>∀D,H1 D=none->vK J D g O te (inner N' σ) H1 (Q (.ref D))
def GP (O:∀x c,cl.lookup x=some c->X.env.cells.lookup x=some c) (stk:∀b∈frs X.stack,b∈X.env.locals::X.fs) (a3:∀b∈fp,L6 X pins H3 b) (a4:∀b∈fp,b<s3.heap.objs.size) (hn:∀b∈fp,H' b=none):∀b∈fp,L6 (i2 X cs cl N' fp s3 H3) [] H' b:=λb hb=>by
 obtain ⟨f0,f1,f2,f3,f4,f5⟩:=a3 b hb;refine ⟨hn b hb,qE7 (a4 b hb),λae=>?_,.inl hb,λx c e=>f4 x c (O x c e),λp hp=>absurd (show p∈([]:Jq) from hp) Qj⟩;have I:b∈frs X.stack:=ae;rcases qA7.mp (stk b I) with z|z
 .show f1 z
 .show f2 z
def qq {σ:St}{Q:Hp->Prop}{W:Nat->Nat->Hp->Prop}(hc:X.calm=true) (hg:PG (i2 X cs cl N' fp s3 O) tg g) (hk:W5 X.N.length g) (ht:PIf (i2 X cs cl N' fp s3 O) ifs tc) (he:PE (i2 X cs cl N' fp s3 O) elt te) (bc:∀x c,cl.lookup x=some c->X.env.cells.lookup x=some c) (I3:Inv X pins σ O s3) (I4:Inv (i2 X cs cl N' fp s3 O) [] (inner N' σ) O s4) (T:Turn X.prog X.w X.K tg J fp it tn) (st:tn 0 s4.heap) (b4:∀b∈fp,L6 X pins O b) (d0:∀b∈fp,b<s3.heap.objs.size) (w0:W 0 m0 O) (turn:∀i m H2,W i m H2->(J.stop i H2/\Q H2)\/(J.go i H2/\∀x O,J.yld i H2 x O->g x (inner N' σ) O λcc H4=>tc cc H4 λb H5=>
   if b=true then te cc H5 λy H6=>∃ys,H6 D=some (.lst ys)/\ys.length<sizeLine/\∃I,I<m/\W (i+1) I (upd H6 D (.lst (ys ++ [y])))
   else ∃I,I<m/\W (i+1) I H5)) (hR:∀(H':Hp) (s':Shared),Inv X pins σ H' s'->Q H'->(∃m,s'.heap.Ns s3.heap.objs.size m)->L6 X pins H' s3.heap.objs.size->R (.ok .next) s'):
  codeAny (model X.prog X.w) X.A (.compLoop (.ListComp elt [⟨tg,iter,ifs,0⟩] cs pos) 0 (.ref it) (.ref D) (i2 X cs cl N' fp s3 O).env) R s4:=by
 have ae:∀{H':Hp},(∀b∈fp,H' b=none)->∀b∈fp,L6 (i2 X cs cl N' fp s3 O) [] H' b:=λhn=>GP bc I3.stkSub b4 d0 hn;have e3:(inner N' σ).length=N'.length:=I4.len;refine codeAny_loop rfl (λn s'=>∃i H',Inv (i2 X cs cl N' fp s3 O) [] (inner N' σ) H' s'/\tn i s'.heap/\(∀b∈fp,H' b=none)/\W i n H') (λn s5 hI=>?_) m0 ⟨0,O,I4,st,λb hb=>(b4 b hb).1,w0⟩;obtain ⟨i,H5,I5,c2,bf,w5⟩:=hI
 change wpAny _ _ ((compTurn (.ListComp elt [⟨tg,iter,ifs,0⟩] cs pos) 0 (.ref it) (.ref D) (i2 X cs cl N' fp s3 O).env).onRaise _) _ _ s5;refine wpAny_noted ?_;rw[compTurn_list];refine qA8 (qR0 (qA8 ?_));have a4:∀{α:Type}{t:Sem α}{P:α->Shared->Prop}{E':Jp}{s:Shared},wpAny (model X.prog X.w) X.A t P (λ_ _=>False) s->wpAny (model X.prog X.w) X.A t P E' s:=λh=>qM3 h (λ_ _ q=>q) λ_ _ q=>q.elim;rcases turn i n H5 w5 with ⟨stop,q⟩|⟨go,step⟩
 .refine thn (T.done (i2 X cs cl N' fp s3 O) rfl rfl rfl hc i [] s5 _ H5 _ I5 (ae bf) c2 stop) λr s6 ⟨hr,I6⟩=>?_;subst hr;refine qL7 ?_;have J6:Inv X pins σ H5 s6:=I3.call' (H':=H5) (ch:=fp) I6.os I6.base I6.hok I6.bare λb hb=>by
   obtain ⟨f0,f1,f2,f3,f4,f5⟩:=b4 b hb;show ⟨f3,f1,f4,f5⟩
  obtain ⟨m,hn,_⟩:=I6.loc;show hR H5 s6 J6 q ⟨m,hn⟩ (I3.fpOk (qB8 _) I6.free)
 .refine thn (T.item (i2 X cs cl N' fp s3 O) rfl rfl rfl hc i [] s5 _ H5 _ I5 (ae bf) c2 go) λr s6 ⟨u,hr,h6⟩=>?_;subst hr;refine qA8 (thn h6 λ_ s7 c1=>?_);obtain ⟨x,H7,I7,r7,y7,b0,cp⟩:=c1;have dm:=I7.pinned (ae cp) (T.obj _ _ b0);refine qA8 (a4 (thn (hg _ s7 _ H7 x u _ dm r7 (hk x _ H7 _ (step x H7 y7))) λ_ s8 c5=>?_));obtain ⟨a3,H8,I8,q8,l8,k8⟩:=c5;refine qA8 (a4 (thn (ht _ s8 a3 H8 _ I8 q8) λb s9 c4=>?_));obtain ⟨H9,I9,q9⟩:=c4;have again:∀{s':Shared}{H':Hp},Inv (i2 X cs cl N' fp s3 O) ([]++bU fp s7.heap) a3 H' s'->(∃I,I<n/\W (i+1) I H') ->
    ∃I,I<n/\∃i H',Inv (i2 X cs cl N' fp s3 O) [] (inner N' σ) H' s'/\tn i s'.heap/\(∀b∈fp,H' b=none)/\W i I H':=λ{s' H'} I' zz79=>by
   obtain ⟨I,hm,w'⟩:=zz79;refine ⟨I,hm,i+1,H',(I'.unpinned).weak (by rw[l8]) (λj v e=>?_),T.keep _ _ _ b0 λb hb o e=>(I'.pin (b,o) (qC2 _ (qC2 _ (W1 hb e)))).1,λb hb=>?_,w'⟩
   .have hj:j<X.N.length:=by rw[<- I3.len];show (qA5.mp (gm e)).1
    rw[k8 j hj];show e
   .obtain ⟨o,e,d⟩:=T.obj _ _ b0 b hb;show (I'.pin (b,o) (qC2 _ (qC2 _ (W1 hb e)))).2.1
  cases b with
  | false=>
   have b3:∃I,I<n/\W (i+1) I H9:=q9;show qL7 ⟨rfl,again I9 b3⟩
  | true=>
   have b3:te a3 H9 _:=q9;refine qA8 (qA8 (a4 (thn (he _ s9 a3 H9 _ I9 b3) λv e1 b5=>?_)));obtain ⟨y,dc,cn,cv,ys,hD,hy,d3⟩:=b5;refine qA8 (a4 (thn (gb _ e1 a3 dc (.ref D) [y] (.ref D) [v] (λ_ H'=>∃I,I<n/\W (i+1) I H') cn rfl (.cons cv .nil) ⟨D,ys,y,rfl,rfl,hD,hy,d3⟩) λ_ e4 c3=>?_));obtain ⟨_,e2,dt,_,da⟩:=c3;show qL7 (qL7 ⟨rfl,again dt da⟩)
def gu {R:Value->Addr->Result->Shared->Prop}{Q:V->Hp->Prop}(S:l6 X.env.scope cs X.N N') (hc:X.calm=true) (hg:∀cl ex s H,PG (i2 X cs cl N' ex s H) tg g) (hk:W5 X.N.length g) (ht:∀cl ex s H,PIf (i2 X cs cl N' ex s H) ifs tc) (he:∀cl ex s H,PE (i2 X cs cl N' ex s H) elt te) (a4:∀x c,cl.lookup x=some c->X.env.cells.lookup x=some c) (bf:∀x,(x,NameKind.free)∈cs.names->∃c,cl.lookup x=some c) (h:PIE X pins σ tg (λJ H1=>∀D,H1 D=none->vK J D g tc te (inner N' σ) H1 (Q (.ref D))) itv s2) (hR:∀(D C:Addr) (H':Hp) (s':Shared),Inv X pins σ H' s'->Q (.ref D) H'->(∃m,s'.heap.Ns C m)->L6 X pins H' C->R (.ref D) C (.ok .next) s'):
  wpAny (model X.prog X.w) X.A (newList []) (λc1 b4=>wpAny (model X.prog X.w) X.A (newFunctionEnv cs X.env.globals cl [] X.env.qual none .none (some X.env)) (λa3 b5=>
   codeAny (model X.prog X.w) X.A (.compStart (.ListComp elt [⟨tg,iter,ifs,0⟩] cs pos) 0 itv c1 { a3 with scope:=relabel cs X.env }) (R c1 a3.locals) b5) X.xe b4) X.xe s2:=by
 obtain ⟨it,fp,tn,J,H2,e,I2,T,st2,f2,hw⟩:=h;subst e;refine qM5 (wpAny_newFunctionEnv S.ncell (by intro y hy;simp at hy) (λh1 O ae=>?_) S.kind);dsimp only at O ae ⊢;have hD:=I2.hok.fresh (qB8 _);obtain ⟨W,⟨m0,w0⟩,turn⟩:=hw s2.heap.objs.size hD;have I3:Inv X pins σ (upd H2 s2.heap.objs.size (.lst [])) { s2 with heap:=s2.heap.push { cls:=.type "list",dict:=none,data:=.seq ([]:Jw).toArray } }:=I2.lnew (t':=s2.toks) .nil (qD7 _);have I:∀b∈fp,b<s2.heap.objs.size:=λb hb=>by
  obtain ⟨o,e,_⟩:=T.obj 0 _ st2 b hb;show qC7 e
 have b3:∀b∈fp,L6 X pins (upd H2 s2.heap.objs.size (.lst [])) b:=λb hb=>by
  obtain ⟨f0,r⟩:=f2 b hb;show ⟨by rw[b6 (qE7 (I b hb))];show f0,r⟩
 have bc:∀b∈fp,b<(s2.heap.push { cls:=.type "list",dict:=none,data:=.seq ([]:Jw).toArray }).objs.size:=λb hb=>by rw[qN7];show Nat.lt_succ_of_lt (I b hb)
 have kp:∀b o,(s2.heap.push { cls:=.type "list",dict:=none,data:=.seq ([]:Jw).toArray }).get? b=some o->h1.get? b=some o:=λb o e=>ae.extBut b o (qE7 (qC7 e)) (qB3 _ e);have I4:=ug (cs:=cs) (cl:=cl) (N':=N') (fp:=fp) (s4:={ s2 with heap:=h1,toks:=s2.toks+([]:List (Str×Value)).length }) S I3 a4 bf b3 bc kp O rfl rfl;have b0:tn 0 h1:=T.keep 0 _ _ st2 λb hb o e=>kp b o (qB3 _ e);have loop:=qq (R:=R (.ref s2.heap.objs.size) (s2.heap.push { cls:=.type "list",dict:=none,data:=.seq ([]:Jw).toArray }).objs.size) (D:=s2.heap.objs.size) (iter:=iter) (pos:=pos) (it:=it) (Q:=Q (.ref s2.heap.objs.size)) hc (hg cl fp _ _) hk (ht cl fp _ _) (he cl fp _ _) a4 I3 I4 T b0 b3 bc w0 turn λH' s' I' q n f=>hR _ _ H' s' I' q n f;show codeAny_compStart_list loop (T.self _ 0 _ _ _ b0 loop)
def wR (S:l6 X.env.scope cs X.N N') (hc:X.calm=true) (hi:PI X tg iter wi) (hg:∀cl ex s H,PG (i2 X cs cl N' ex s H) tg g) (hk:W5 X.N.length g) (ht:∀cl ex s H,PIf (i2 X cs cl N' ex s H) ifs tc) (he:∀cl ex s H,PE (i2 X cs cl N' ex s H) elt te) (hs:∀x,foldedSetIterable iter X.env x=pure x:=by intro _;rfl):PE X (.ListComp elt [⟨tg,iter,ifs,0⟩] cs pos) (lE N' wi g tc te):=by
 intro pins s σ H Q I h;obtain ⟨cl,e,h1,h2,_⟩:=eJ (env:=X.env) cs.names [] (λx hx hk=>I.ok.has x.1 (S.free x hx hk)) (λ_ _ z=>nomatch z);have O:closureFor cs X.env=pure cl:=by
  simp only [closureFor];rw[e];rfl
 rw[eval_ListComp];refine wpAny_comprehension_free (use:=none) rfl hs O S.kind S.loc (thn (hi pins s σ H _ I h) λv s1 q1=>thn q1 λa4 s2 q2=>?_);refine gu (R:=λa3 C=>compPost (model X.prog X.w) X.A X.xe none (EP X pins σ Q) a3 C) (Q:=Q) S hc hg hk ht he h1 h2 q2 λD C H' s' I' q n f=>?_;obtain ⟨m,hn⟩:=n;obtain ⟨f0,f1,f2,f3,f4,f5⟩:=f;show ⟨m,hn,λh' sb=>⟨.ref D,H',I'.turned (t':=s'.toks) (λb o hb e=>sb.extBut b o hb e) f0 f1 f3 f4 f5,rfl,q⟩⟩
def wJ {X:Cx}{cs:Scope}{N':Jk}{tg iter a3:Expr}{O:Jx}{wi:TI}{g:TG}{tc:TT}{te:TE}{pos:Pos}{i:Nat}{y:Str}{py a4:Pos}(S:l6 X.env.scope cs X.N N') (hc:X.calm=true) (hi:PI X tg iter wi) (hg:∀cl ex s H,PG (i2 X cs cl N' ex s H) tg g) (hk:W5 X.N.length g) (ht:∀cl ex s H,PIf (i2 X cs cl N' ex s H) O tc) (he:∀cl ex s H,PE (i2 X cs cl N' ex s H) a3 te) (hN:X.N.Nodup) (hy:X.N[i]?=some y) (hl:Loc X.env.scope y) (b5:swapsWith (.ListComp a3 [⟨tg,iter,O,0⟩] cs pos) (some (.Name y py)) a4.line X.env=pure true:=by rfl) (hf:X.fn y=true\/X.env.scope.names.lookup y=some .local:=by first|show .inl rfl|show .inr rfl|assumption) (hs:∀x,foldedSetIterable iter X.env x=pure x:=by intro _;rfl):PS X (.Assign [.Name y py] (.ListComp a3 [⟨tg,iter,O,0⟩] cs pos) a4) (hX (lE N' wi g tc te) (P2 i)):=by
 intro pins s σ H Q I h;obtain ⟨cl,e,h1,h2,_⟩:=eJ (env:=X.env) cs.names [] (λx hx hk=>I.ok.has x.1 (S.free x hx hk)) (λ_ _ z=>nomatch z);have ae:closureFor cs X.env=pure cl:=by
  simp only [closureFor];rw[e];rfl
 rw[exec_Assign_Name_used _ _ _ _ b5];refine qA8 (qR0 (qA8 ?_))
 change wpAny _ _ (comprehension (.ListComp a3 [⟨tg,iter,O,0⟩] cs pos) cs X.env _ (newList []) false (eval iter X.env) (some (assign (.Name y py) X.env))>>=_) _ _ s;refine qA8 (thn (wpAny_comprehension_free (use:=some (assign (.Name y py) X.env)) (Q:=λ_ s'=>SP X pins Q .next s') rfl hs ae S.kind S.loc (thn (hi pins s σ H _ I h) λv s1 q1=>thn q1 λc2 s2 q2=>?_)) λ_ s' q=>qL7 (qL7 q));refine gu (R:=λbc C=>compPost (model X.prog X.w) X.A X.xe (some (assign (.Name y py) X.env)) (λ_ s'=>SP X pins Q .next s') bc C) (Q:=λx H1=>P2 i x σ H1 Q.nx) S hc hg hk ht he h1 h2 q2 λD C H' s' I' q n f=>?_;obtain ⟨m,hn⟩:=n;obtain ⟨f0,f1,f2,f3,f4,f5⟩:=f
 change wpAny _ _ (assign (.Name y py) X.env (.ref D)) _ _ _;refine wpAny_assign_Name (fR (v:=.ref D) (u:=.ref D) I' hN hy hl rfl (λbf c1 b0=>?_) hf);obtain ⟨a,sb,ha⟩:=b0;have b4:C≠a:=by
  rcases ha with rfl|ha
  .show f1
  .show λq=>f4 _ _ ha q.symm
 refine ⟨m,hn.sameBut sb b4,λh' b3=>?_⟩;show ⟨_,H',c1.turned (t':=bf.toks) (λb o hb e=>b3.extBut b o hb e) f0 f1 f3 f4 f5,q⟩
def Sq.same {K:Frag}(e:Same H H') (h:Sq K H t a xs):Sq K H' t a xs:=by
 unfold Sq at h ⊢
 split
 .rename_i ht;rw[qA9 ht]at h
  rcases h with (h|⟨o,h⟩)|h
  .show .inl (.inl (e _ _ h))
  .show .inl (.inr ⟨o,e _ _ h⟩)
  .show .inr h
 .rename_i ht;rw[qB4 ht]at h
  show e.seq h
def seqAt (K:Frag) (H:Hp) (p:Addr) (R:List V->Prop):Prop:=match H p with
 |some (.tup xs)=>R xs
 |some (.lst xs)=>R xs
 |_=>∃t xs,Sq K H t p xs/\R xs
def ItQ (K:Frag)(t:Bool)(a:Addr):It:=if t=true then Itt K a else Itl K a
def iSq (K:Frag)(I:TE):TI:=λσ H R=>I σ H λx H1=>∃a,x=.ref a/\∃t xs,Sq K H1 t a xs/\R (ItQ K t a) H1
def uZ (hl:PE X l tl):PI X tg l (iSq X.K tl):=by
 intro pins s σ H R I h;refine thn (hl pins s σ H _ I h) λv s1 a4=>?_;obtain ⟨x,H1,O,r1,q1⟩:=a4;obtain ⟨a,e,t,xs,hq,q⟩:=q1;subst e;cases r1;cases t with
 | true=>
  have a3:SqT X.K H1 a xs:=by unfold Sq at hq;rw[qA9 rfl]at hq;show hq
  obtain ⟨its,rv,p,hz⟩:=O.tuple a3;refine wpAny_pyIter_tuple (show s1.heap.IsTuple a its.toArray from p) ?_;refine ⟨s1.heap.objs.size,[s1.heap.objs.size],_,Itt X.K a,H1,rfl,O.kept (t':=s1.toks) λb o e=>qB3 _ e,lw a _,⟨_,qC8 _ rfl,rfl,rfl⟩,λb hb=>?_,q⟩;have e:b=s1.heap.objs.size:=by simpa using hb
  subst e;show O.fpOk (qB8 _) (O.hok.fresh (qB8 _))
 | false=>
  have a3:SqL X.K H1 a xs:=by unfold Sq at hq;rw[qB4 qC0]at hq;show hq
  obtain ⟨its,rv,p,hz⟩:=O.list a3;refine qR5 p.isList ?_;refine ⟨s1.heap.objs.size,[s1.heap.objs.size],_,Itl X.K a,H1,rfl,O.kept (t':=s1.toks) λb o e=>qB3 _ e,nH a _,⟨_,qC8 _ rfl,rfl,rfl⟩,λb hb=>?_,q⟩;have e:b=s1.heap.objs.size:=by simpa using hb
  subst e;show O.fpOk (qB8 _) (O.hok.fresh (qB8 _))
def qE:bootBuiltins "int" = some (.type "int"):=Qx
def yy:bootBuiltins "list" = some (.type "list"):=Qx
def dz:bootBuiltins "tuple" = some (.type "tuple"):=Qx
def cx:bootBuiltins "str" = some (.type "str"):=Qx
def tyO:Option HO->Option String
 |some (.lst _)=>some "list"
 |some (.tup _)=>some "tuple"
 |some (.dK _)=>some "dict"
 |_=>none
def tyB (H:Hp):V->Option String
 | .non=>some "NoneType"
 | .bl _=>some "bool"
 | .int _=>some "int"
 | .str _=>some "str"
 | .ref a=>tyO (H a)
 |_=>none
def t7 (A T:String):Option Bool:=
 if A=T then some true else if A = "bool" /\ T = "int" then some true
 else if (A = "NoneType" \/ A = "bool" \/ A = "int" \/ A = "str" \/ A = "list" \/ A = "tuple" \/ A = "dict")/\(T = "bool" \/ T = "int" \/ T = "list" \/ T = "tuple" \/ T = "str") then some false else none
def zq {K:Frag}(h:tyB H x=some A):T0 K H x (.type A):=by
 cases x with
 |non=>cases h;show .non
 |bl _=>cases h;show .bl _
 |int _=>cases h;show .int _
 |str _=>cases h;show .str _
 | ref a=>
  have h:tyO (H a)=some A:=h;cases e:H a with
  |none=>rw[e]at h;cases h
  | some o=>
   rw[e]at h;cases o <;> first | (cases h;show .lst e) | (cases h;show .tup e) | (cases h;show .dK e)|cases h
 |_=>cases h
def xE {K:Frag}(h:t7 A T=some b):PySem.W.kitOne K (.type A) (.type T)=some b:=by
 unfold t7 at h
 split at h
 .rename_i e;subst e;cases h
  unfold PySem.W.kitOne;rw[qA9 Qj]
 .split at h
  .rename_i e;obtain ⟨rfl,rfl⟩:=e;cases h;with_unfolding_all rfl
  .split at h
   .rename_i h1 h2 e
    obtain ⟨I,O⟩:=e;cases h;rcases I with rfl|rfl|rfl|rfl|rfl|rfl|rfl <;> rcases O with rfl|rfl|rfl|rfl|rfl <;>
     first|show absurd rfl h1|show absurd ⟨rfl,rfl⟩ h2|with_unfolding_all rfl
   .cases h
def rIsi:List V->Hp->VK->Prop:=λxs H Q=>∃x T,xs = [x,.ty T]/\∃A,tyB H x=some A/\∃b,t7 A T=some b/\Q (.bl b) H
def uk:B6 X (.builtin "isinstance") rIsi:=by
 intro pins s σ H xs us Q I r h;obtain ⟨x,T,rfl,A,ty,b,e,q⟩:=h;obtain ⟨u,O,rfl,r1,r2⟩:=vals2 r;have e2:O=Value.type T:=r2;subst e2;show pV I r1 (zq ty) (xE e) λtk=>⟨.bl b,H,I.tok tk,rfl,q⟩
def Ck:t7 "bool" "bool" = some true:=Qy
def Cj:t7 "bool" "int" = some true:=Qy
def Ci:t7 "int" "bool" = some false:=Qy
def Ch:t7 "int" "int" = some true:=Qy
def BS:t7 "tuple" "tuple" = some true:=Qy
def Ce:t7 "list" "list" = some true:=Qy
def Cb:t7 "NoneType" "int" = some false:=Qy
def Cc:t7 "NoneType" "bool" = some false:=Qy
def BX:t7 "str" "int" = some false:=Qy
def BY:t7 "str" "bool" = some false:=Qy
def Cf:t7 "list" "int" = some false:=Qy
def Cg:t7 "list" "bool" = some false:=Qy
def BU:t7 "tuple" "int" = some false:=Qy
def BV:t7 "tuple" "bool" = some false:=Qy
def W8 {n:Nat}{i:Int}(h0:0<=i)(h1:i<n):ixN n i=some i.toNat:=by unfold ixN;rw[qA9 h0,qA9 h1]
def mem_getD {ms:JQ}{P:Int->Prop}(h:∀x∈ms,P x) (hi:i<ms.length):P (ms.getD i 0):=by
 have:ms.getD i 0=ms[i]:=by simp [hi]
 rw[this];show h _ (qH4 hi)
structure Runs (J:It) (n:Nat) (H1:Hp) (Y:Nat->V->Hp->Hp->Prop):Prop where
 go:∀i H,i<n->Same H1 H->J.go i H
 stop:∀H,Same H1 H->J.stop n H
 yld:∀i H x H',i<n->Same H1 H->J.yld i H x H'->Y i x H H'
def oh {K:Frag}(h:Sq K H1 t a xs) (h':Sq K H1 u b ys):
  Runs (ItZ K [(t,a),(u,b)]) (min xs.length ys.length) H1 λi x H H'=>∃p y z,x=.ref p/\H p=none/\H'=upd H p (.tup [y,z])/\xs[i]?=some y/\ys[i]?=some z:=by
 refine ⟨λi H hi s v I=>?_,λH s=>⟨λv I=>?_,?_⟩,λi H x H' hi s hy=>?_⟩
 .simp only [qA7,qF0,qQ1]at I;rcases I with rfl|rfl
  .show ⟨xs,xs[i]'(qC6 hi (qU1 _ _)),Sq.same s h,Qj⟩
  .show ⟨ys,ys[i]'(qC6 hi (qL5 _ _)),Sq.same s h',Qj⟩
 .simp only [qA7,qF0,qQ1]at I;rcases I with rfl|rfl
  .show ⟨xs,Sq.same s h⟩
  .show ⟨ys,Sq.same s h'⟩
 .rcases Nat.le_total xs.length ys.length with q|q
  .show ⟨(t,a),Qj,xs,Sq.same s h,Qo⟩
  .show ⟨(u,b),Qj,ys,Sq.same s h',Qo⟩
 .obtain ⟨p,zs,e1,e2,e3,O⟩:=hy;cases O with
  | cons r1 O=>
   cases O with
   | cons r2 O=>
    cases O;show ⟨p,_,_,e1,e2,e3,r1 xs (Sq.same s h),r2 ys (Sq.same s h')⟩
def og {K:Frag}(h:Sq K H1 t a xs) (h':Sq K H1 u b ys) (I:Sq K H1 w c zs):
  Runs (ItZ K [(t,a),(u,b),(w,c)]) (min xs.length (min ys.length zs.length)) H1 λi x H H'=>∃p y z v,x=.ref p/\H p=none/\H'=upd H p (.tup [y,z,v])/\xs[i]?=some y/\ys[i]?=some z/\zs[i]?=some v:=by
 refine ⟨λi H hi s v hv=>?_,λH s=>⟨λv hv=>?_,?_⟩,λi H x H' hi s hy=>?_⟩
 .simp only [qA7,qF0,qQ1]at hv;rcases hv with rfl|rfl|rfl
  .show ⟨xs,xs[i]'(qC6 hi (qU1 _ _)),Sq.same s h,Qj⟩
  .show ⟨ys,ys[i]'(qC6 hi (qD9 (qL5 _ _) (qU1 _ _))),Sq.same s h',Qj⟩
  .show ⟨zs,zs[i]'(qC6 hi (qD9 (qL5 _ _) (qL5 _ _))),Sq.same s I,Qj⟩
 .simp only [qA7,qF0,qQ1]at hv;rcases hv with rfl|rfl|rfl
  .show ⟨xs,Sq.same s h⟩
  .show ⟨ys,Sq.same s h'⟩
  .show ⟨zs,Sq.same s I⟩
 .have:min xs.length (min ys.length zs.length)=xs.length\/min xs.length (min ys.length zs.length)=ys.length\/min xs.length (min ys.length zs.length)=zs.length:=Qo
  rcases this with q|q|q
  .show ⟨(t,a),Qj,xs,Sq.same s h,Qo⟩
  .show ⟨(u,b),Qj,ys,Sq.same s h',Qo⟩
  .show ⟨(w,c),Qj,zs,Sq.same s I,Qo⟩
 .obtain ⟨p,vs,e1,e2,e3,O⟩:=hy;cases O with
  | cons r1 O=>
   cases O with
   | cons r2 O=>
    cases O with
    | cons r3 O=>
     cases O;show ⟨p,_,_,_,e1,e2,e3,r1 xs (Sq.same s h),r2 ys (Sq.same s h'),r3 zs (Sq.same s I)⟩
structure Def (K:Frag) (mg:Jz) (x:Str) (st:Stmt) (ps:Jk) (f:Addr) (fd:FuncData):Prop where
 F:Fun K x x st f fd
 m:mg x=some (.ref f)
 b:Binds K fd ps []
def wO {X:Cx}(K:Frag){es:Jx}{pos:Pos}{k:Nat}{t:TGs}(n:Nat)(hc:X.calm=true)(h:PGs X es t)(O:X.K=K:=by rfl)(hn:(assignEach es X.env).length=n:=by rfl)(I:(assignEach es X.env).findIdx? (·.1)=none:=by rfl):PG X (.Tuple es k pos) (tK K n t):=by subst O;show Bb hc h hn I
def eU (I:TE) (O:TE):TE:=λσ H Q=>I σ H λx H1=>∃p,x=.ref p/\(∃xs,H1 p=some (.lst xs))/\O σ H1 λy H2=>match H2 p with
 |some (.lst xs)=>xs.length<sizeLine/\Q .non (upd H2 p (.lst (xs ++ [y])))
 |_=>False
def bV {X:Cx}{o e:Expr}{to te:TE}{apos O:Pos}(ho:PE X o to) (ha:PE X e te) (a3:attributeBase o "append" X.env (eval o X.env)=eval o X.env:=by rfl) (b0:((backTo O (starEach [e] X.env)).all (λx=>!x.1)&&(backToKw O (keywordEach [] X.env)).all (λx=>x.1.isSome)
   && decide (([e]:Jx).length+([]:List Keyword).length+(if ([]:List Keyword).isEmpty then 0 else 1)<30))=true:=by rfl) (a4:(apos.endLine == O.line)=true:=by rfl) (hs:starEach [e] X.env=(false,eval e X.env)::starEach [] X.env:=by rfl):PE X (.Call (.Attribute o "append" apos) [e] [] O) (eU to te):=by
 intro pins s σ H Q I h;refine qO1 a3 b0 a4 rfl (thn (ho pins s σ H _ I h) λv s1 ae=>?_);obtain ⟨x,H1,I1,r1,p,ex,⟨xs,e1⟩,q1⟩:=ae;subst ex;obtain ⟨h1,h2⟩:=dC (T := "list") I1 r1 (.inl ⟨rfl,xs,SqL.of e1⟩);refine ⟨"list","list.append",PySem.F.plainAttrs_list,PySem.F.slot_list_append,PySem.F.type_list_append,h1,h2,?_⟩;have hA:=F7 ha pa_nil hs O pins s1 σ H1 (λvs H2=>∃y,vs = [y]/\match H2 p with
  |some (.lst xs)=>xs.length<sizeLine/\Q .non (upd H2 p (.lst (xs ++ [y])))
  | _=>False) I1 (by
   have e:(λ(y:V) (H2:Hp)=>match H2 p with
     |some (.lst xs)=>xs.length<sizeLine/\Q .non (upd H2 p (.lst (xs ++ [y])))
     |_=>False)=λ(y:V) (H2:Hp)=>∃y',[y] = [y']/\match H2 p with
     |some (.lst xs)=>xs.length<sizeLine/\Q .non (upd H2 p (.lst (xs ++ [y'])))
     |_=>False:=by
    funext y H2
    show propext ⟨λq=>⟨y,rfl,q⟩,λb4=>by obtain ⟨y',e,q⟩:=b4;cases e;show q⟩
   rw[e]at q1;show q1)
 rw[hs]at hA ⊢;refine qI1 rfl (qP2 ?_);refine thn hA λus s2 b3=>?_;obtain ⟨vs,H2,I2,r2,y,ev,q2⟩:=b3;subst ev;refine gb pins s2 σ H2 (.ref p) [y] v us Q I2 r1 r2 ?_
 split at q2
 .rename_i ys e2;show ⟨p,ys,y,rfl,rfl,e2,q2.1,q2.2⟩
 .show q2.elim
def vL (i j:Int):Prop:=0<=j/\(Builtin.Int.intBits i:Int)*j<=2^27
def nM {ns:JQ}(h:i<ns.length):ns[i]?=some (ns.getD i 0):=by rw[qD4];simp [h]
end L2
namespace TP
open PySem L2
inductive W where
 |non|bl (b:Bool)|int (i:Int)|str (x:Str)|ty (n:String)|tup (ws:List W)|lst (ws:List W)|scr (ws:List W)
 |exc (c:Str) (i:Jv)|cls (c:Str)|dst (z:Bool) (a:Addr) (ks:Jk) (ws:List W)
abbrev JJ:=List W
def XD (F:Hp) (od:Option Addr):Option Int->Prop
 |none=>od=none
 |some i=>∃d,od=some d/\F d=some (.xd [("at",.int i)])
mutual
inductive Rep (K:Frag) (F:Hp):V->W->Prop where
 |non:Rep K F .non .non
 |bl {b:Bool}:Rep K F (.bl b) (.bl b)
 |int {i:Int}:Rep K F (.int i) (.int i)
 |str {x:Str}:Rep K F (.str x) (.str x)
 |ty {n:String}:Rep K F (.ty n) (.ty n)
 |tup {a:Addr}{vs:List V}{ws:JJ}:F a=some (.tup vs)->Reps K F vs ws->Rep K F (.ref a) (.tup ws)
 |lst {a:Addr}{vs:List V}{ws:JJ}:F a=some (.lst vs)->Reps K F vs ws->Rep K F (.ref a) (.lst ws)
 |scr {a:Addr}{vs:List V}{ws:JJ}:SqL K F a vs->Reps K F vs ws->Rep K F (.ref a) (.scr ws)
 |exc {a C:Addr}{o:Obj}{vs:Jy}{c:Str}{i:Jv}:F a=some (.ext λh=>h.get? a=some o)->o.cls=.ref C->o.data=.fields vs->PySem.W.nsIn K mainGlobals c=some (some (.ref C))->XD F o.dict i->Rep K F (.ref a) (.exc c i)
 |cls {C:Addr}{c:Str}:PySem.W.nsIn K mainGlobals c=some (some (.ref C))->Rep K F (.ref C) (.cls c)
 |dct {a:Addr}{o:Obj}{c:Str}:F a=some (.ext λh=>h.get? a=some o)->o.cls=.type "dict" -> (∀C,PySem.W.nsIn K mainGlobals c≠some (some (.ref C)))->Rep K F (.ref a) (.exc c none)
 |dst {a:Addr}{kvs:List (Key×V)}{ks:Jk}{ws:JJ}:F a=some (.dK kvs)->kvs.map (·.1)=ks.map Sum.inr->Reps K F (kvs.map (·.2)) ws->Rep K F (.ref a) (.dst false a ks ws)
 |dsz {a:Addr}{o:Obj}{kvs:List (Key×V)}{ks:Jk}{ws:JJ}:F a=some (.frz o (.dK kvs))->kvs.map (·.1)=ks.map Sum.inr->Reps K F (kvs.map (·.2)) ws->Rep K F (.ref a) (.dst true a ks ws)
inductive Reps (K:Frag) (F:Hp):List V->List W->Prop where
 |nil:Reps K F [] []
 |cons {v:V}{w:W}{vs:List V}{ws:JJ}:Rep K F v w->Reps K F vs ws->Reps K F (v::vs) (w::ws)
end
def rA (e:Same F F') (h:SqT K F a xs):SqT K F' a xs:=by
 rcases h with (h|⟨o,h⟩)|h
 .show .inl (.inl (e _ _ h))
 .show .inl (.inr ⟨o,e _ _ h⟩)
 .show .inr h
def XD.same (e:Same F F'):∀{i:Jv},XD F od i->XD F' od i:=by
 intro i h;cases i with
 |none=>show h
 |some _=>obtain ⟨d,h1,h2⟩:=h;show ⟨d,h1,e _ _ h2⟩
def Rep.same (e:Same F F') (r:Rep K F v w):Rep K F' v w:=
 @Rep.rec K F (λv w _=>Rep K F' v w) (λvs ws _=>Reps K F' vs ws) .non .bl .int .str .ty (λh _ r=>.tup (e _ _ h) r) (λh _ r=>.lst (e _ _ h) r) (λh _ r=>.scr (Same.seq e h) r) (λh1 h2 h3 O h5=>.exc (e _ _ h1) h2 h3 O (XD.same e h5)) (λh=>.cls h) (λh1 h2 h3=>.dct (e _ _ h1) h2 h3) (λh I _ r=>.dst (e _ _ h) I r) (λh I _ r=>.dsz (e _ _ h) I r) .nil (λ_ _ a b=>.cons a b) v w r
def Reps.same (e:Same F F') (r:Reps K F vs ws):Reps K F' vs ws:=
 @Reps.rec K F (λ_ _ _=>True) (λvs ws _=>Reps K F' vs ws) trivial trivial trivial trivial trivial (λ_ _ _=>trivial) (λ_ _ _=>trivial) (λ_ _ _=>trivial) (λ_ _ _ _ _=>trivial) (λ_=>trivial) (λ_ _ _=>trivial) (λ_ _ _ _=>trivial) (λ_ _ _ _=>trivial) .nil (λh _ _ b=>.cons (Rep.same e h) b) vs ws r
def Reps.ind {P:List V->List W->Prop}(h0:P [] []) (h1:∀{v:V}{w:W}{vs:List V}{ws:JJ},Rep K F v w->Reps K F vs ws->P vs ws->P (v::vs) (w::ws)) (r:Reps K F vs ws):P vs ws:=
 @Reps.rec K F (λ_ _ _=>True) (λvs ws _=>P vs ws) trivial trivial trivial trivial trivial (λ_ _ _=>trivial) (λ_ _ _=>trivial) (λ_ _ _=>trivial) (λ_ _ _ _ _=>trivial) (λ_=>trivial) (λ_ _ _=>trivial) (λ_ _ _ _=>trivial) (λ_ _ _ _=>trivial) h0 (λh r _ b=>h1 h r b) vs ws r
def Fa (K:Frag) (F:Hp) (v:V):W->Prop
 | .non=>v=.non
 | .bl b=>v=.bl b
 | .int i=>v=.int i
 | .str x=>v=.str x
 | .ty n=>v=.ty n
 | .tup ws=>∃a vs,v=.ref a/\F a=some (.tup vs)/\Reps K F vs ws
 | .lst ws=>∃a vs,v=.ref a/\F a=some (.lst vs)/\Reps K F vs ws
 | .scr ws=>∃a vs,v=.ref a/\SqL K F a vs/\Reps K F vs ws
 | .exc _ _=>True
 | .cls _=>True
 | .dst z a ks ws=>∃kvs,v=.ref a/\(if z then ∃o,F a=some (.frz o (.dK kvs)) else F a=some (.dK kvs))/\kvs.map (·.1)=ks.map Sum.inr/\Reps K F (kvs.map (·.2)) ws
def Rep.inv (r:Rep K F v w):Fa K F v w:=
 @Rep.rec K F (λv w _=>Fa K F v w) (λ_ _ _=>True) rfl rfl rfl rfl rfl (λh r _=>⟨_,_,rfl,h,r⟩) (λh r _=>⟨_,_,rfl,h,r⟩) (λh r _=>⟨_,_,rfl,h,r⟩) (λ_ _ _ _ _=>trivial) (λ_=>trivial) (λ_ _ _=>trivial) (λh e r _=>⟨_,rfl,h,e,r⟩) (λh e r _=>⟨_,rfl,⟨_,h⟩,e,r⟩) trivial (λ_ _ _ _=>trivial) v w r
def RepsI (K:Frag) (F:Hp) (vs:List V):List W->Prop
 | []=>vs = []
 |w::ws=>∃v us,vs=v::us/\Rep K F v w/\Reps K F us ws
def Reps.length (r:Reps K F vs ws):vs.length=ws.length:=
 Reps.ind (P:=λvs ws=>vs.length=ws.length) rfl (λ_ _ h=>congrArg (·+1) h) r
def Reps.get {i:Nat}(r:Reps K F vs ws):ws[i]?=some w->∃v,vs[i]?=some v/\Rep K F v w:=
 Reps.ind (P:=λvs ws=>∀(i:Nat) (w:W),ws[i]?=some w->∃v,vs[i]?=some v/\Rep K F v w) (λi w e=>by cases e) (λh _ b i w e=>by
  cases i with
  |zero=>cases e;show ⟨_,rfl,h⟩
  |succ i=>show b i w e) r i w
def Reps.get' {i:Nat}(r:Reps K F vs ws):vs[i]?=some v->∃w,ws[i]?=some w/\Rep K F v w:=
 Reps.ind (P:=λvs ws=>∀(i:Nat) (v:V),vs[i]?=some v->∃w,ws[i]?=some w/\Rep K F v w) (λi w e=>by cases e) (λh _ b i w e=>by
  cases i with
  |zero=>cases e;show ⟨_,rfl,h⟩
  |succ i=>show b i w e) r i v
def Reps.append (r:Reps K F vs ws) (s:Reps K F us xs):Reps K F (vs++us) (ws++xs):=
 Reps.ind (P:=λvs ws=>Reps K F (vs++us) (ws++xs)) s (λh _ b=>.cons h b) r
def Reps.take (n:Nat) (r:Reps K F vs ws):Reps K F (vs.take n) (ws.take n):=
 Reps.ind (P:=λvs ws=>∀n,Reps K F (vs.take n) (ws.take n)) (λn=>by simpa using .nil) (λh _ b n=>by
  cases n with
  |zero=>show .nil
  |succ n=>show .cons h (b n)) r n
def Reps.drop (n:Nat) (r:Reps K F vs ws):Reps K F (vs.drop n) (ws.drop n):=
 Reps.ind (P:=λvs ws=>∀n,Reps K F (vs.drop n) (ws.drop n)) (λn=>by simpa using .nil) (λh r b n=>by
  cases n with
  |zero=>show .cons h r
  |succ n=>show b n) r n
def Reps.snoc (r:Reps K F vs ws)(h:Rep K F v w):Reps K F (vs ++ [v]) (ws ++ [w]):=r.append (.cons h .nil)
mutual
def noL:W->Bool
 | .lst _=>false
 | .scr _=>false
 | .dst _ _ _ _=>false
 | .tup ws=>u6 ws
 |_=>true
def u6:List W->Bool
 | []=>true
 |w::ws=>noL w&&u6 ws
end
def isL:HO->Bool
 | .lst _=>true
 | .dT _=>true
 | .dK _=>true
 | .frz _ (.lst _)=>true
 | .frz _ (.dK _)=>true
 |_=>false
def join (H0 G:Hp):Hp:=λa=>match H0 a with
 |some o=>if isL o then some o else G a
 |none=>G a
inductive Sl where
 |un|val (w:W)|par (w:W)|own (ws:JJ)|dic (ks:Jg)|dik (ks:JQ)|iop (p:Addr) (ws:JJ)|hz (w:W)|dos (kw:List Str×List W)
abbrev Rho:=List Sl
def fw (G:Hp):Hp:=λa=>match G a with
 |some o=>if isL o then none else some o
 |none=>none
def bY (h:Same G G'):Same (fw G) (fw G'):=λa o e=>by
 unfold fw at e ⊢;cases q:G a with
 |none=>rw[q]at e;cases e
 |some u=>rw[q]at e;rw[h a u q];show e
def sP:Same (fw G) G:=λa o e=>by
 unfold fw at e;cases q:G a with
 |none=>rw[q]at e;cases e
 | some u=>
  rw[q]at e;dsimp only at e;cases hl:isL u
  .rw[hl]at e;show e
  .rw[hl]at e;cases e
def DkR (K:Frag)(G:Hp)(kvs:List (Key×V))(kw:List Str×List W):Prop:=kvs.map (·.1)=kw.1.map Sum.inr/\Reps K G (kvs.map (·.2)) kw.2
def DkR.same (h:DkR K G kvs kw)(s:Same G G'):DkR K G' kvs kw:=⟨h.1,h.2.same s⟩
def SlR (K:Frag) (H0 G H:Hp):Sl->Option V->Prop
 | .un,_=>True
 | .val w,o=>∃v,o=some v/\Rep K G v w
 | .par w,o=>∃v,o=some v/\Rep K (join H0 G) v w
 | .own ws,o=>∃a vs,o=some (.ref a)/\H a=some (.lst vs)/\G a=none/\H0 a=none/\Reps K G vs ws
 | .dic ks,o=>∃(a:Addr) (kvs:List (List Key×V)),o=some (.ref a)/\H a=some (.dT kvs)/\G a=none/\H0 a=none/\kvs.map (·.1)=ks.map λk=>k.map Sum.inl
 | .dik ks,o=>∃(a:Addr) (kvs:List (Key×V)),o=some (.ref a)/\H a=some (.dK kvs)/\G a=none/\H0 a=none/\kvs.map (·.1)=ks.map Sum.inl
 | .iop p ws,o=>o=some (.ref p)/\∃vs,H0 p=some (.lst vs)/\Reps K G vs ws
 | .hz w,o=>∃v,o=some v/\Rep K (join H0 (fw G)) v w
 | .dos kw,o=>∃a kvs,o=some (.ref a)/\H a=some (.dK kvs)/\G a=none/\H0 a=none/\DkR K G kvs kw
structure PIv (K:Frag) (H0 G:Hp) (ρ:Rho) (σ:St) (H:Hp):Prop where
 g0:∀a o,H0 a=some o->isL o=false->G a=some o
 gl:∀a o,H0 a=some o->isL o=true->G a=none
 gh:Same G H
 hh:Same H0 H
 len:ρ.length=σ.length
 sl:∀(i:Nat) (x:Sl) (o:Option V),ρ[i]?=some x->σ[i]?=some o->SlR K H0 G H x o
 ne:∀(i j:Nat) (ws us:JJ) (a:Addr),i≠j->ρ[i]?=some (.own ws)->ρ[j]?=some (.own us)->σ[i]?=some (some (.ref a))->σ[j]?≠some (some (.ref a))
 nd:∀(i j:Nat) (ws us:List Str×List W) (a:Addr),i≠j->ρ[i]?=some (.dos ws)->ρ[j]?=some (.dos us)->σ[i]?=some (some (.ref a))->σ[j]?≠some (some (.ref a))
structure Ext (G H G' H':Hp):Prop where
 gg:Same G G'
 hh:Same H H'
 gh:Same G' H'
 keep:∀a o,H a=some o->isL o=true->G a=none->G' a=none
def Ext.refl (h:Same G H):Ext G H G H:=⟨Same.refl G,Same.refl H,h,λ_ _ _ _ e=>e⟩
def Ext.trans (a:Ext G H G1 H1) (b:Ext G1 H1 G2 H2):Ext G H G2 H2:=
 ⟨a.gg.trans b.gg,a.hh.trans b.hh,b.gh,λx o h l e=>b.keep x o (a.hh x o h) l (a.keep x o h l e)⟩
def A5 (h:Same G G'):Same (join H0 G) (join H0 G'):=λa o e=>by
 unfold join at e ⊢;cases q:H0 a with
 |none=>rw[q]at e;show h a o e
 | some u=>
  rw[q]at e;dsimp only at e ⊢;by_cases hl:isL u=true
  .rw[qA9 hl]at e ⊢;show e
  .rw[qB4 hl]at e ⊢;show h a o e
def PIv.G_join (I:PIv K H0 G ρ σ H):Same G (join H0 G):=λa o e=>by
 unfold join;cases q:H0 a with
 |none=>show e
 | some u=>
  dsimp only;by_cases hl:isL u=true
  .rw[I.gl a u q hl]at e;cases e
  .rw[qB4 hl];show e
def PIv.join_H (I:PIv K H0 G ρ σ H):Same (join H0 G) H:=λa o e=>by
 unfold join at e;cases q:H0 a with
 |none=>rw[q]at e;show I.gh a o e
 | some u=>
  rw[q]at e;dsimp only at e;by_cases hl:isL u=true
  .rw[qA9 hl]at e;cases e;show I.hh a _ q
  .rw[qB4 hl]at e;show I.gh a o e
def PIv.ext (I:PIv K H0 G ρ σ H) (x:Ext G H G' H'):PIv K H0 G' ρ σ H' where
 g0 a o e l:=x.gg a o (I.g0 a o e l)
 gl a o e l:=x.keep a o (I.hh a o e) l (I.gl a o e l)
 gh:=x.gh
 hh:=I.hh.trans x.hh
 len:=I.len
 sl i s o h1 h2:=by
  have:=I.sl i s o h1 h2
  cases s with
  |un=>trivial
  |val w=>obtain ⟨v,e,r⟩:=this;show ⟨v,e,r.same x.gg⟩
  |par w=>obtain ⟨v,e,r⟩:=this;show ⟨v,e,r.same (A5 x.gg)⟩
  | own ws=>
   obtain ⟨a,vs,e,h,g,h0,r⟩:=this;show ⟨a,vs,e,x.hh a _ h,x.keep a _ h rfl g,h0,r.same x.gg⟩
  | dic ks=>
   obtain ⟨a,kvs,e,h,g,h0,r⟩:=this;show ⟨a,kvs,e,x.hh a _ h,x.keep a _ h rfl g,h0,r⟩
  | dik ks=>
   obtain ⟨a,kvs,e,h,g,h0,r⟩:=this;show ⟨a,kvs,e,x.hh a _ h,x.keep a _ h rfl g,h0,r⟩
  | iop p ws=>
   obtain ⟨e,vs,h,r⟩:=this;show ⟨e,vs,h,r.same x.gg⟩
  |hz w=>obtain ⟨v,e,r⟩:=this;show ⟨v,e,r.same (A5 (bY x.gg))⟩
  | dos kw=>
   obtain ⟨a,vs,e,h,g,h0,r⟩:=this;show ⟨a,vs,e,x.hh a _ h,x.keep a _ h rfl g,h0,r.same x.gg⟩
 ne:=I.ne
 nd:=I.nd
def bp (h:join H0 G a=some o) (l:isL o=false):G a=some o:=by
 unfold join at h;cases q:H0 a with
 |none=>rw[q]at h;show h
 | some u=>
  rw[q]at h;dsimp only at h;by_cases hl:isL u=true
  .rw[qA9 hl]at h;cases h;rw[hl]at l;cases l
  .rw[qB4 hl]at h;show h
def XD.clean:∀{i:Jv},XD (join H0 G) od i->XD G od i
 |none,h=>h
 |some _,⟨d,h1,h2⟩=>⟨d,h1,bp h2 rfl⟩
def Rep.clean (I:PIv K H0 G ρ σ H) (r:Rep K (join H0 G) v w):noL w=true->Rep K G v w:=
 @Rep.rec K (join H0 G) (λv w _=>noL w=true->Rep K G v w) (λvs ws _=>u6 ws=true->Reps K G vs ws) (λ_=>.non) (λ_=>.bl) (λ_=>.int) (λ_=>.str) (λ_=>.ty)
  (λh _ r n=>.tup (bp h rfl) (r n)) (λ_ _ _ n=>by cases n) (λ_ _ _ n=>by cases n) (λh1 h2 h3 O h5 _=>.exc (bp h1 rfl) h2 h3 O (XD.clean h5)) (λh _=>.cls h) (λh1 h2 h3 _=>.dct (bp h1 rfl) h2 h3) (λ_ _ _ _ n=>by cases n) (λ_ _ _ _ n=>by cases n) (λ_=>.nil)
  (λ_ _ a b n=>by rw[u6,qI0]at n;show .cons (a n.1) (b n.2)) v w r
def Reps.clean (I:PIv K H0 G ρ σ H) (r:Reps K (join H0 G) vs ws):u6 ws=true->Reps K G vs ws:=
 @Reps.rec K (join H0 G) (λ_ _ _=>True) (λvs ws _=>u6 ws=true->Reps K G vs ws) trivial trivial trivial trivial trivial (λ_ _ _=>trivial) (λ_ _ _=>trivial) (λ_ _ _=>trivial) (λ_ _ _ _ _=>trivial) (λ_=>trivial) (λ_ _ _=>trivial) (λ_ _ _ _=>trivial) (λ_ _ _ _=>trivial) (λ_=>.nil)
  (λh _ _ b n=>by rw[u6,qI0]at n;show .cons (Rep.clean I h n.1) (b n.2)) vs ws r
structure XW where
 cls:Str
 at_:Option Int
inductive R (α:Type) where
 |ok (a:α)|ex (e:XW)|stuck
def R.bind {α I:Type}(x:R α) (f:α->R I):R I:=match x with
 | .ok a=>f a
 | .ex e=>.ex e
 | .stuck=>.stuck
instance:Monad R where
 pure:=R.ok
 bind:=R.bind
@[simp] theorem R.ok_bind {α I:Type}(a:α) (f:α->R I):((R.ok a:R α)>>=f)=f a:=rfl
@[simp] theorem R.stuck_bind {α I:Type}(f:α->R I):((R.stuck:R α)>>=f)=.stuck:=rfl
@[simp] theorem R.ex_bind {α I:Type}(e:XW) (f:α->R I):((R.ex e:R α)>>=f)=.ex e:=rfl
@[simp] theorem R.pure_eq (a:α):(pure a:R α)=.ok a:=rfl
inductive Mode where
 |F|V|U|C|B
def Md (K:Frag) (H0 H G' H':Hp) (v:V) (w:W):Mode->Prop
 | .V=>Rep K G' v w
 | .U=>Rep K (join H0 G') v w
 | .F=>match w with
  | .lst ws=>∃a vs,v=.ref a/\H' a=some (.lst vs)/\G' a=none/\H a=none/\Reps K G' vs ws
  |w=>Rep K G' v w
 | .C=>Rep K G' v w\/∃a vs ws,v=.ref a/\w=.lst ws/\H' a=some (.lst vs)/\Reps K G' vs ws
 | .B=>Rep K (join H0 G') v w\/∃a vs ws,v=.ref a/\w=.lst ws/\H' a=some (.lst vs)/\Reps K G' vs ws
abbrev EXT:=XW->Hp->Prop
def Out {α I:Type}(EX:EXT) (G H:Hp) (md:α->I->Hp->Hp->Prop) (r:R α) (Q:I->Hp->Prop):Prop:=match r with
 | .ok w=>∀v G' H',Ext G H G' H'->md w v G' H'->Q v H'
 | .ex e=>∀H',Same H H'->EX e H'
 | .stuck=>False
abbrev mdW (K:Frag)(d:Mode)(H0 H:Hp):W->V->Hp->Hp->Prop:=λw v G' H'=>Md K H0 H G' H' v w d
abbrev mdB:Bool->Bool->Hp->Hp->Prop:=λb c _ _=>c=b
inductive MdA (K:Frag) (d:Mode) (H0 H G' H':Hp):List W->List V->Prop where
 |nil:MdA K d H0 H G' H' [] []
 |cons {w:W}{v:V}{ws:JJ}{vs:List V}:Md K H0 H G' H' v w d->MdA K d H0 H G' H' ws vs->MdA K d H0 H G' H' (w::ws) (v::vs)
def MdAI (K:Frag) (d:Mode) (H0 H G' H':Hp) (vs:List V):List W->Prop
 | []=>vs = []
 |w::ws=>∃v us,vs=v::us/\Md K H0 H G' H' v w d/\MdA K d H0 H G' H' ws us
abbrev mdA (K:Frag)(d:Mode)(H0 H:Hp):List W->List V->Hp->Hp->Prop:=λws vs G' H'=>MdA K d H0 H G' H' ws vs
def tM (K:Frag)(EX:EXT)(d:Mode)(m:Rho->R W):TE:=λσ H Q=>∃H0 G ρ,PIv K H0 G ρ σ H/\Out EX G H (mdW K d H0 H) (m ρ) Q
def tT (K:Frag)(EX:EXT)(m:Rho->R Bool):TT:=λσ H Q=>∃H0 G ρ,PIv K H0 G ρ σ H/\Out EX G H mdB (m ρ) Q
def tA (K:Frag)(EX:EXT)(d:Mode)(m:Rho->R JJ):TA:=λσ H Q=>∃H0 G ρ,PIv K H0 G ρ σ H/\Out EX G H (mdA K d H0 H) (m ρ) Q
def Out.bind {md:α->β->Hp->Hp->Prop}{I:γ->δ->Hp->Hp->Prop}{m:R α}{k:α->R γ}{Q:δ->Hp->Prop}{O:β->Hp->Prop}(o:Out EX G H I (m>>=k) Q) (h:∀x G1 H1 w,Ext G H G1 H1->md w x G1 H1->Out EX G1 H1 I (k w) Q->O x H1):Out EX G H md m O:=by
 cases m with
 | ok w=>
  intro v G' H' e d;refine h v G' H' w e d ?_;rw[R.ok_bind]at o
  revert o
  cases k w with
  |ok u=>show λo v2 G2 H2 e2 d2=>o v2 G2 H2 (e.trans e2) d2
  |ex x=>show λo H2 s2=>o H2 (e.hh.trans s2)
  |stuck=>show λo=>o
 |ex x=>show o
 |stuck=>show o
def Md.start (s:Same H H1) (h:Md K H0 H1 G2 H2 v w d):Md K H0 H G2 H2 v w d:=by
 cases d with
 | F=>
  cases w with
  |lst ws=>obtain ⟨a,vs,e,h1,h2,h3,r⟩:=h;show ⟨a,vs,e,h1,h2,s.free h3,r⟩
  |_=>show h
 |_=>show h
def Md.move (x:Ext G1 H1 G2 H2) (h:Md K H0 H G1 H1 v w d):Md K H0 H G2 H2 v w d:=by
 cases d with
 |V=>show Rep.same x.gg h
 |U=>show Rep.same (A5 x.gg) h
 | F=>
  cases w with
  |lst ws=>obtain ⟨a,vs,e,h1,h2,h3,r⟩:=h;show ⟨a,vs,e,x.hh _ _ h1,x.keep _ _ h1 rfl h2,h3,r.same x.gg⟩
  |non=>show Rep.same x.gg h
  |bl _=>show Rep.same x.gg h
  |int _=>show Rep.same x.gg h
  |str _=>show Rep.same x.gg h
  |ty _=>show Rep.same x.gg h
  |tup _=>show Rep.same x.gg h
  |scr _=>show Rep.same x.gg h
  |exc _ _=>show Rep.same x.gg h
  |cls _=>show Rep.same x.gg h
  |dst _ _ _ _=>show Rep.same x.gg h
 | C=>
  rcases h with h|⟨a,vs,ws,e,e2,h1,r⟩
  .show .inl (h.same x.gg)
  .show .inr ⟨a,vs,ws,e,e2,x.hh _ _ h1,r.same x.gg⟩
 | B=>
  rcases h with h|⟨a,vs,ws,e,e2,h1,r⟩
  .show .inl (h.same (A5 x.gg))
  .show .inr ⟨a,vs,ws,e,e2,x.hh _ _ h1,r.same x.gg⟩
def Md.CB (I:PIv K H0 G1 ρ σ H1) (h:Md K H0 H G1 H1 v w .C):Md K H0 H G1 H1 v w .B:=by
 rcases h with h|h
 .show .inl (h.same I.G_join)
 .show .inr h
def sca:W->Bool
 | .tup _=>false
 | .scr _=>false
 | .lst _=>false
 | .dst _ _ _ _=>false
 |_=>true
def Md.sca (I:sca w=true) (r:∀F,Rep K F v w) (d:Mode):Md K H0 H G1 H1 v w d:=by
 cases d with
 |V=>show r _
 |U=>show r _
 |C=>show .inl (r _)
 |B=>show .inl (r _)
 |F=>cases w <;> first|show r _|cases I
def Md.repB (h:Md K H0 H G1 H1 v w .B)(n:∀us,w≠.lst us):Rep K (join H0 G1) v w:=Or.elim h id λI=>by obtain ⟨_,_,us,_,e,_⟩:=I;show absurd e (n us)
def Md.repC (h:Md K H0 H G1 H1 v w .C)(n:∀us,w≠.lst us):Rep K G1 v w:=Or.elim h id λI=>by obtain ⟨_,_,us,_,e,_⟩:=I;show absurd e (n us)
def Md.lstB (I:PIv K H0 G1 ρ σ H1) (h:Md K H0 H G1 H1 v (.lst ws) .B):∃a vs,v=.ref a/\H1 a=some (.lst vs)/\Reps K (join H0 G1) vs ws:=by
 rcases h with h|⟨a,vs,us,e,e2,h1,r⟩
 .obtain ⟨a,vs,e,s,r⟩:=h.inv;show ⟨a,vs,e,I.join_H _ _ s,r⟩
 .rw[W.lst.inj e2];show ⟨a,vs,e,h1,r.same I.G_join⟩
def Md.scrB (I:PIv K H0 G1 ρ σ H1) (h:Md K H0 H G1 H1 v (.scr ws) .B):∃a vs,v=.ref a/\SqL K H1 a vs/\Reps K (join H0 G1) vs ws:=by
 obtain ⟨a,vs,e,s,r⟩:=(h.repB λ_=>W.noConfusion).inv;show ⟨a,vs,e,Same.seq I.join_H s,r⟩
def Md.lstC (I:PIv K H0 G1 ρ σ H1) (h:Md K H0 H G1 H1 v (.lst ws) .C):∃a vs,v=.ref a/\H1 a=some (.lst vs)/\Reps K G1 vs ws:=by
 rcases h with h|⟨a,vs,us,e,e2,h1,r⟩
 .obtain ⟨a,vs,e,s,r⟩:=h.inv;show ⟨a,vs,e,I.gh _ _ s,r⟩
 .rw[W.lst.inj e2];show ⟨a,vs,e,h1,r⟩
def Md.tupB (I:PIv K H0 G1 ρ σ H1) (h:Md K H0 H G1 H1 v (.tup ws) .B):∃a vs,v=.ref a/\H1 a=some (.tup vs)/\Reps K (join H0 G1) vs ws:=by
 obtain ⟨a,vs,e,s,r⟩:=(h.repB λ_=>W.noConfusion).inv;show ⟨a,vs,e,I.join_H _ _ s,r⟩
def Md.tupC (I:PIv K H0 G1 ρ σ H1) (h:Md K H0 H G1 H1 v (.tup ws) .C):∃a vs,v=.ref a/\H1 a=some (.tup vs)/\Reps K G1 vs ws:=by
 obtain ⟨a,vs,e,s,r⟩:=(h.repC λ_=>W.noConfusion).inv;show ⟨a,vs,e,I.gh _ _ s,r⟩
def Md.intB (h:Md K H0 H G1 H1 v (.int i) .B):v=.int i:=(h.repB λ_=>W.noConfusion).inv
def Md.blB (h:Md K H0 H G1 H1 v (.bl i) .B):v=.bl i:=(h.repB λ_=>W.noConfusion).inv
def Md.strB (h:Md K H0 H G1 H1 v (.str i) .B):v=.str i:=(h.repB λ_=>W.noConfusion).inv
def Md.nonB (h:Md K H0 H G1 H1 v .non .B):v=.non:=(h.repB λ_=>W.noConfusion).inv
def Md.tyB (h:Md K H0 H G1 H1 v (.ty n) .B):v=.ty n:=(h.repB λ_=>W.noConfusion).inv
def xj (h:tM K EX .V m σ H Q):tM K EX .F m σ H Q:=by
 obtain ⟨H0,G,ρ,I,o⟩:=h;refine ⟨H0,G,ρ,I,?_⟩
 revert o
 cases m ρ with
 |ex e=>show id
 |stuck=>show id
 | ok w=>
  intro o v G' H' e d;cases w with
  | lst ws=>
   obtain ⟨a,vs,rfl,h1,h2,h3,r⟩:=d;have s1:Same G' (upd G' a (.lst vs)):=λb o q=>by rw[b6 (c9 q h2)];show q
   refine o _ (upd G' a (.lst vs)) H' ⟨e.gg.trans s1,e.hh,λb o q=>?_,λb o q l g=>?_⟩ (.lst e7 (r.same s1))
   .by_cases O:b=a
    .subst O;rw[e7]at q;cases q;show h1
    .rw[b6 O]at q;show e.gh b o q
   .rw[b6 (c9 q h3)];show e.keep b o q l g
  |_=>show o v G' H' e d
def xg (h:tM K EX .U m σ H Q):tM K EX .V m σ H Q:=by
 obtain ⟨H0,G,ρ,I,o⟩:=h;refine ⟨H0,G,ρ,I,?_⟩
 revert o
 cases m ρ with
 |ex e=>show id
 |stuck=>show id
 |ok w=>show λo v G' H' e d=>o v G' H' e (Rep.same (I.ext e).G_join d)
def xh (h:tM K EX .C m σ H Q):tM K EX .V m σ H Q:=by
 obtain ⟨H0,G,ρ,I,o⟩:=h;refine ⟨H0,G,ρ,I,?_⟩
 revert o
 cases m ρ with
 |ex e=>show id
 |stuck=>show id
 |ok w=>show λo v G' H' e d=>o v G' H' e (.inl d)
def xi (h:tM K EX .B m σ H Q):tM K EX .U m σ H Q:=by
 obtain ⟨H0,G,ρ,I,o⟩:=h;refine ⟨H0,G,ρ,I,?_⟩
 revert o
 cases m ρ with
 |ex e=>show id
 |stuck=>show id
 |ok w=>show λo v G' H' e d=>o v G' H' e (.inl d)
def xl (h:tM K EX .B m σ H Q):tM K EX .C m σ H Q:=by
 obtain ⟨H0,G,ρ,I,o⟩:=h;refine ⟨H0,G,ρ,I,?_⟩
 revert o
 cases m ρ with
 |ex e=>show id
 |stuck=>show id
 |ok w=>show λo v G' H' e d=>o v G' H' e (Md.CB (H:=H) (I.ext e) d)
def xk (h:tM K EX .C m σ H Q):tM K EX .F m σ H Q:=by
 obtain ⟨H0,G,ρ,I,o⟩:=h;refine ⟨H0,G,ρ,I,?_⟩
 revert o
 cases m ρ with
 |ex e=>show id
 |stuck=>show id
 | ok w=>
  intro o v G' H' e d;cases w with
  |lst ws=>obtain ⟨a,vs,rfl,h1,h2,h3,r⟩:=d;show o _ G' H' e (.inr ⟨a,vs,ws,rfl,rfl,h1,r⟩)
  |_=>show o v G' H' e (.inl d)
def chk (w:W):R W:=if noL w then .ok w else .stuck
def mD (n:noL w=true) (r:Rep K G1 v w):Md K H0 H G1 H1 v w .F:=by
 cases w with
 |lst ws=>cases n
 |_=>show r
def iT (hd:d=.F\/d=.V) (h:tM K EX d (λρ=>m ρ>>=chk) σ H Q):tM K EX .U m σ H Q:=by
 obtain ⟨H0,G,ρ,I,o⟩:=h;refine ⟨H0,G,ρ,I,Out.bind o λx G1 H1 w e m1 O=>?_⟩;unfold chk at O;by_cases n:noL w=true
 .rw [qA9 n]at O
  have r:=Rep.clean (I.ext e) m1 n;refine O x G1 H1 (Ext.refl e.gh) ?_;rcases hd with rfl|rfl
  .show mD n r
  .show r
 .rw[qB4 n]at O;show O.elim
def N7 (O:sca w=true) (r:∀F,Rep K F v w) (h:tM K EX d (λ_=>.ok w) σ H Q):tC v σ H Q:=by
 obtain ⟨H0,G,ρ,I,o⟩:=h;show o v G H (Ext.refl I.gh) (Md.sca O r d)
def a6 (d:Mode) (i:Nat):Rho->R W:=λρ=>match ρ[i]? with
 |some (.val w)=>(match d with | .F=>chk w|_=>.ok w)
 |some (.par w)=>(match d with | .F=>chk w | .V=>chk w | .C=>chk w|_=>.ok w)
 |some (.own ws)=>(match d with | .C=>.ok (.lst ws) | .B=>.ok (.lst ws)|_=>.stuck)
 |some (.iop _ ws)=>(match d with | .B=>.ok (.lst ws) | .U=>.ok (.lst ws)|_=>.stuck)
 |some (.hz w)=>(match d with | .B=>.ok w | .U=>.ok w|_=>.stuck)
 |_=>.stuck
def Out.chk {v:V}{md:W->α->Hp->Hp->Prop}(o:Out EX G H md (chk w) Q):noL w=true/\Out EX G H md (.ok w) Q:=by
 unfold TP.chk at o;by_cases n:noL w=true
 .rw[qA9 n]at o;show ⟨n,o⟩
 .rw[qB4 n]at o;show o.elim
def mU (h:tM K EX d (a6 d i) σ H Q):m9 i σ H Q:=by
 obtain ⟨H0,G,ρ,I,o⟩:=h;unfold a6 at o;cases e:ρ[i]? with
 |none=>rw[e]at o;show o.elim
 | some s=>
  rw[e]at o;have hi:i<σ.length:=by rw[<- I.len];show (qA5.mp e).1
  have es:σ[i]?=some σ[i]:=Qj;have r:=I.sl i s _ e es;cases s with
  |un=>show o.elim
  | val w=>
   obtain ⟨v,O,r⟩:=r;refine ⟨v,by rw[es,O],?_⟩;cases d with
   |F=>obtain ⟨n,o⟩:=Out.chk (v:=v) o;show o v G H (Ext.refl I.gh) (mD n r)
   |V=>show o v G H (Ext.refl I.gh) r
   |U=>show o v G H (Ext.refl I.gh) (r.same I.G_join)
   |C=>show o v G H (Ext.refl I.gh) (.inl r)
   |B=>show o v G H (Ext.refl I.gh) (.inl (r.same I.G_join))
  | par w=>
   obtain ⟨v,O,r⟩:=r;refine ⟨v,by rw[es,O],?_⟩;cases d with
   |F=>obtain ⟨n,o⟩:=Out.chk (v:=v) o;show o v G H (Ext.refl I.gh) (mD n (Rep.clean I r n))
   |V=>obtain ⟨n,o⟩:=Out.chk (v:=v) o;show o v G H (Ext.refl I.gh) (Rep.clean I r n)
   |U=>show o v G H (Ext.refl I.gh) r
   |C=>obtain ⟨n,o⟩:=Out.chk (v:=v) o;show o v G H (Ext.refl I.gh) (.inl (Rep.clean I r n))
   |B=>show o v G H (Ext.refl I.gh) (.inl r)
  | own ws=>
   obtain ⟨a,vs,O,ha,hg,h0,r⟩:=r;refine ⟨.ref a,by rw[es,O],?_⟩;cases d with
   |F=>show o.elim
   |V=>show o.elim
   |U=>show o.elim
   |C=>show o _ G H (Ext.refl I.gh) (.inr ⟨a,vs,ws,rfl,rfl,ha,r⟩)
   |B=>show o _ G H (Ext.refl I.gh) (.inr ⟨a,vs,ws,rfl,rfl,ha,r⟩)
  |dic ks=>show o.elim
  |dik ks=>show o.elim
  |dos kw=>show o.elim
  | hz w=>
   obtain ⟨v,O,r⟩:=r;refine ⟨v,by rw[es,O],?_⟩;have rj:=r.same (A5 (H0:=H0) (sP (G:=G)));cases d with
   |F=>show o.elim
   |V=>show o.elim
   |C=>show o.elim
   |U=>show o v G H (Ext.refl I.gh) rj
   |B=>show o v G H (Ext.refl I.gh) (.inl rj)
  | iop p ws=>
   obtain ⟨O,vs,h0,r⟩:=r;refine ⟨.ref p,by rw[es,O],?_⟩;have rj:Rep K (join H0 G) (.ref p) (.lst ws):=by
    refine .lst (vs:=vs) ?_ (r.same I.G_join);unfold join;rw[h0];rfl
   cases d with
   |F=>show o.elim
   |V=>show o.elim
   |U=>show o _ G H (Ext.refl I.gh) rj
   |C=>show o.elim
   |B=>show o _ G H (Ext.refl I.gh) (.inl rj)
def Op2 (K:Frag) (b d:Mode) (r:R2) (f:W->W->R W):Prop:=∀(EX:EXT) (H0 Hs G H:Hp) (ρ:Rho) (σ:St) (O I:Hp) (x y:V) (u v:W) (Q:VK),PIv K H0 G ρ σ H->Same Hs H->Md K H0 O G H x u b->Md K H0 I G H y v b ->
 Out EX G H (mdW K d H0 Hs) (f u v) Q->r x y H Q
def dy (hr:Op2 K b d r f) (h:tM K EX d (λρ=>ma ρ>>=λx=>mb ρ>>=λy=>f x y) σ H Q):tOp r (tM K EX b ma) (tM K EX b mb) σ H Q:=by
 obtain ⟨H0,G,ρ,I,o⟩:=h;refine ⟨H0,G,ρ,I,Out.bind o λx G1 H1 u O m1 o1=>⟨H0,G1,ρ,I.ext O,Out.bind o1 λy G2 H2 v e2 m2 o2=>?_⟩⟩;show hr EX H0 H G2 H2 ρ σ H H1 x y u v Q ((I.ext O).ext e2) (O.hh.trans e2.hh) (m1.move e2) m2 o2
def Op1 (K:Frag) (b d:Mode) (r:V->Hp->VK->Prop) (f:W->R W):Prop:=∀(EX:EXT) (H0 Hs G H:Hp) (ρ:Rho) (σ:St) (I:Hp) (x:V) (u:W) (Q:VK),PIv K H0 G ρ σ H->Same Hs H->Md K H0 I G H x u b ->
 Out EX G H (mdW K d H0 Hs) (f u) Q->r x H Q
def ul (hr:Op1 K b d r f) (h:tM K EX d (λρ=>ma ρ>>=λx=>f x) σ H Q):tUn r (tM K EX b ma) σ H Q:=by
 obtain ⟨H0,G,ρ,I,o⟩:=h;show ⟨H0,G,ρ,I,Out.bind o λx G1 H1 u O m1 o1=>hr EX H0 H G1 H1 ρ σ H x u Q (I.ext O) O.hh m1 o1⟩
def fI (C:Int->Int->Prop) [∀i j,Decidable (C i j)] (g:Int->Int->W):W->W->R W
 | .int i,.int j=>if C i j then .ok (g i j) else .stuck
 |_,_=>.stuck
def fI0 (g:Int->Int->W):W->W->R W
 | .int i,.int j=>.ok (g i j)
 |_,_=>.stuck
def n9 [∀i j,Decidable (C i j)](hs:∀i j,sca (g i j)=true) (hg:∀i j F,Rep K F (gv i j) (g i j)):Op2 K .B d (rI C gv) (fI C g):=by
 intro EX H0 Hs G H ρ σ Ha Hb x y u v Q I s O my o;cases u <;> first|show o.elim|skip
 all_goals (cases v <;> first|show o.elim|skip)
 rename_i i j
 have o':Out EX G H (mdW K d H0 Hs) (if C i j then R.ok (g i j) else .stuck) Q:=o;by_cases c:C i j
 .rw [qA9 c]at o'
  show ⟨i,j,O.intB,my.intB,c,o' _ G H (Ext.refl I.gh) (Md.sca (hs i j) (hg i j) d)⟩
 .rw[qB4 c]at o';show o'.elim
def dS (hs:∀i j,sca (g i j)=true) (hg:∀i j F,Rep K F (gv i j) (g i j)):Op2 K .B d (rI0 gv) (fI0 g):=by
 intro EX H0 Hs G H ρ σ Ha Hb x y u v Q I s O my o;cases u <;> first|show o.elim|skip
 all_goals (cases v <;> first|show o.elim|skip)
 rename_i i j
 show ⟨i,j,O.intB,my.intB,o _ G H (Ext.refl I.gh) (Md.sca (hs i j) (hg i j) d)⟩
def fU (g:Int->W):W->R W
 | .int i=>.ok (g i)
 |_=>.stuck
def ak (hs:∀i,sca (g i)=true) (hg:∀i F,Rep K F (gv i) (g i)):Op1 K .B d (rU gv) (fU g):=by
 intro EX H0 Hs G H ρ σ Ha x u Q I s O o;cases u <;> first|show o.elim|skip
 rename_i i
 show ⟨i,O.intB,o _ G H (Ext.refl I.gh) (Md.sca (hs i) (hg i) d)⟩
def isN:W->Bool
 | .non=>true
 |_=>false
def mP (neg:Bool):W->W->R W
 |u,.non=>.ok (.bl (if neg then !isN u else isN u))
 |_,_=>.stuck
def Cl (O:b=.B\/b=.U\/b=.V\/b=.C) (h:Md K H0 Hs G1 H1 v w b):decide (v=.non)=isN w:=by
 have I:∀F,Rep K F v w->decide (v=.non)=isN w:=λF r=>by
  cases r <;> first|rfl | (apply qL1;intro z;cases z)
 rcases O with rfl|rfl|rfl|rfl
 .rcases h with h|⟨a,vs,ws,rfl,rfl,_⟩
  .show I _ h
  .apply qL1;intro z;cases z
 .show I _ h
 .show I _ h
 .rcases h with h|⟨a,vs,ws,rfl,rfl,_⟩
  .show I _ h
  .apply qL1;intro z;cases z
def oZ:Op2 K .B d (λx y H Q=>y=.non/\Q (.bl (decide (x=.non))) H) (mP false):=by
 intro EX H0 Hs G H ρ σ Ha Hb x y u v Q I s O my o;cases v <;> first|show o.elim|skip
 refine ⟨my.nonB,?_⟩;rw[Cl (.inl rfl) O];show o _ G H (Ext.refl I.gh) (Md.sca rfl (λ_=>.bl) d)
def toB:W->R Bool
 | .bl b=>.ok b
 |_=>.stuck
def jx (h:tT K EX (λρ=>ma ρ>>=toB) σ H Q):dD (tM K EX .B ma) σ H Q:=by
 obtain ⟨H0,G,ρ,I,o⟩:=h;refine ⟨H0,G,ρ,I,Out.bind o λx G1 H1 u e1 m1 O=>?_⟩;cases u <;> first|show O.elim|skip
 rename_i b
 show ⟨b,m1.blB,O b G1 H1 (Ext.refl e1.gh) rfl⟩
def c_tB (h:tT K EX (λρ=>ma ρ>>=toB) σ H Q):tB (tM K EX .B ma) σ H Q:=jx h
def fe (a b:R Bool):R Bool:=a>>=λc=>if c then b else .ok false
def rOr (a b:R Bool):R Bool:=a>>=λc=>if c then .ok true else b
def lP (a:R Bool):R Bool:=a>>=λc=>.ok (!c)
def HB (h:tT K EX (λρ=>fe (ma ρ) (mb ρ)) σ H Q):zD (tT K EX ma) (tT K EX mb) σ H Q:=by
 obtain ⟨H0,G,ρ,I,o⟩:=h;refine ⟨H0,G,ρ,I,Out.bind o λx G1 H1 u O m1 o1=>?_⟩;cases m1;cases x with
 |true=>show ⟨H0,G1,ρ,I.ext O,o1⟩
 |false=>show o1 false G1 H1 (Ext.refl O.gh) rfl
def c_or (h:tT K EX (λρ=>rOr (ma ρ) (mb ρ)) σ H Q):tOr (tT K EX ma) (tT K EX mb) σ H Q:=by
 obtain ⟨H0,G,ρ,I,o⟩:=h;refine ⟨H0,G,ρ,I,Out.bind o λx G1 H1 u O m1 o1=>?_⟩;cases m1;cases x with
 |true=>show o1 true G1 H1 (Ext.refl O.gh) rfl
 |false=>show ⟨H0,G1,ρ,I.ext O,o1⟩
def Hq (h:tT K EX (λρ=>lP (ma ρ)) σ H Q):zx (tT K EX ma) σ H Q:=by
 obtain ⟨H0,G,ρ,I,o⟩:=h;refine ⟨H0,G,ρ,I,Out.bind o λx G1 H1 u O m1 o1=>?_⟩;cases m1;show o1 _ G1 H1 (Ext.refl O.gh) rfl
def cE (a b:R W):R W:=a>>=λx=>toB x>>=λc=>if c then b else .ok (.bl false)
def ip (a b:R W):R W:=a>>=λx=>toB x>>=λc=>if c then .ok (.bl true) else b
def gG (a:R W):R W:=a>>=λx=>toB x>>=λc=>.ok (.bl (!c))
def Ez (h:tM K EX d (λρ=>cE (ma ρ) (mb ρ)) σ H Q):uM (tM K EX .B ma) (tM K EX d mb) σ H Q:=by
 obtain ⟨H0,G,ρ,I,o⟩:=h;refine ⟨H0,G,ρ,I,Out.bind o λx G1 H1 u O m1 o1=>?_⟩;cases u <;> first|show o1.elim|skip
 rename_i b
 refine ⟨b,m1.blB,?_⟩;cases b with
 | true=>
  rw[qA9 rfl];refine ⟨H0,G1,ρ,I.ext O,?_⟩;have o2:Out EX G1 H1 (mdW K d H0 H) (mb ρ) Q:=o1
  revert o2
  cases mb ρ with
  |ok w=>show λo2 v G2 H2 e2 m2=>o2 v G2 H2 e2 (m2.start O.hh)
  |ex _=>show id
  |stuck=>show id
 | false=>
  rw[qB4 qC0];show o1 _ G1 H1 (Ext.refl O.gh) (Md.sca rfl (λ_=>.bl) d)
def En (h:tM K EX d (λρ=>gG (ma ρ)) σ H Q):uL (tM K EX .B ma) σ H Q:=by
 obtain ⟨H0,G,ρ,I,o⟩:=h;refine ⟨H0,G,ρ,I,Out.bind o λx G1 H1 u e1 m1 O=>?_⟩;cases u <;> first|show O.elim|skip
 rename_i b
 show ⟨b,m1.blB,O _ G1 H1 (Ext.refl e1.gh) (Md.sca rfl (λ_=>.bl) d)⟩
def Out.restart {Q:VK}(s:Same H H1) (o:Out EX G1 H1 (mdW K d H0 H) r Q):Out EX G1 H1 (mdW K d H0 H1) r Q:=by
 revert o
 cases r with
 |ok w=>show λo v G2 H2 O I=>o v G2 H2 O (I.start s)
 |ex _=>show id
 |stuck=>show id
def c_if (h:tM K EX d (λρ=>mc ρ>>=λc=>if c then ma ρ else mb ρ) σ H Q):tIf (tT K EX mc) (tM K EX d ma) (tM K EX d mb) σ H Q:=by
 obtain ⟨H0,G,ρ,I,o⟩:=h;refine ⟨H0,G,ρ,I,Out.bind o λx G1 H1 u O m1 o1=>?_⟩;cases m1;cases x with
 |true=>show ⟨H0,G1,ρ,I.ext O,Out.restart O.hh o1⟩
 |false=>show ⟨H0,G1,ρ,I.ext O,Out.restart O.hh o1⟩
def yu (hr:Op2 K b .B r f) (a3:Op2 K b d r' f') (h:tM K EX d (λρ=>ma ρ>>=λx=>mb ρ>>=λy=>f x y>>=λz=>toB z>>=λc=>if c then mc ρ>>=λu=>f' y u else .ok (.bl false)) σ H Q):
  (λσ H Q=>tM K EX b ma σ H λx H1=>tM K EX b mb σ H1 λy H2=>r x y H2 λz O=>∃k,z=.bl k/\if k=true then tM K EX b mc σ O λu H4=>r' y u H4 Q else Q (.bl false) O) σ H Q:=by
 obtain ⟨H0,G,ρ,I,o⟩:=h;refine ⟨H0,G,ρ,I,Out.bind o λx G1 H1 u e1 m1 o1=>⟨H0,G1,ρ,I.ext e1,Out.bind o1 λy G2 H2 v e2 m2 o2=>?_⟩⟩;have I2:=(I.ext e1).ext e2;refine hr EX H0 H G2 H2 ρ σ H H1 x y u v _ I2 (e1.hh.trans e2.hh) (m1.move e2) m2 (Out.bind o2 λz G3 O wz e3 m3 o3=>?_);cases wz <;> first|show o3.elim|skip
 rename_i k
 refine ⟨k,m3.blB,?_⟩;cases k with
 | true=>
  rw[qA9 rfl];refine ⟨H0,G3,ρ,I2.ext e3,Out.bind (k:=λu=>f' v u) o3 λt G4 H4 wt e4 m4 o4=>?_⟩;show a3 EX H0 H G4 H4 ρ σ H1 O y t v wt Q ((I2.ext e3).ext e4) (((e1.hh.trans e2.hh).trans e3.hh).trans e4.hh) ((m2.move e3).move e4) m4 o4
 | false=>
  rw[qB4 qC0];show o3 _ G3 O (Ext.refl e3.gh) (Md.sca rfl (λ_=>.bl) d)
def Hr (h:tA K EX d (λ_=>.ok []) σ H QA):tNil σ H QA:=by
 obtain ⟨H0,G,ρ,I,o⟩:=h;show o [] G H (Ext.refl I.gh) .nil
def jy (h:tA K EX d (λρ=>ma ρ>>=λx=>mr ρ>>=λxs=>.ok (x::xs)) σ H QA):Q0 (tM K EX d ma) (tA K EX d mr) σ H QA:=by
 obtain ⟨H0,G,ρ,I,o⟩:=h;refine ⟨H0,G,ρ,I,Out.bind o λx G1 H1 u O m1 o1=>⟨H0,G1,ρ,I.ext O,Out.bind o1 λxs G2 H2 us e2 m2 o2=>?_⟩⟩;refine o2 (x::xs) G2 H2 (Ext.refl e2.gh) (.cons (m1.move e2) ?_);have go:∀{ws:JJ}{vs:List V},MdA K d H0 H1 G2 H2 ws vs->MdA K d H0 H G2 H2 ws vs:=λ{ws vs} q=>by
  induction q with
  |nil=>show .nil
  |cons a _ ih=>show .cons (a.start O.hh) ih
 show go m2
def MdA.reps (h:MdA K .V H0 H G1 H1 ws vs):Reps K G1 vs ws:=
 @MdA.rec K .V H0 H G1 H1 (λws vs _=>Reps K G1 vs ws) .nil (λh _ b=>.cons h b) ws vs h
def MdA.repsU (h:MdA K .U H0 H G1 H1 ws vs):Reps K (join H0 G1) vs ws:=
 @MdA.rec K .U H0 H G1 H1 (λws vs _=>Reps K (join H0 G1) vs ws) .nil (λh _ b=>.cons h b) ws vs h
def xa (I:Same G H) (O:H p=none):Ext G H G (upd H p o):=
 ⟨Same.refl G,λb u q=>by rw[b6 (c9 q O)];show q,λb u q=>by rw[b6 (c9 (I b u q) O)];show I b u q,λ_ _ _ _ e=>e⟩
def bn (O:Same G H) (I:H p=none):Ext G H (upd G p o) (upd H p o):=by
 have gp:G p=none:=O.free I;refine ⟨λb u q=>by rw[b6 (c9 q gp)];show q,λb u q=>by rw[b6 (c9 q I)];show q,λb u q=>?_,λb u q l g=>?_⟩
 .by_cases hb:b=p
  .subst hb;rw[e7]at q ⊢;show q
  .rw[b6 hb]at q ⊢;show O b u q
 .rw[b6 (c9 q I)];show g
def Out.newL {Q:VK}(I:PIv K H0 G ρ σ H) (s:Same Hs H) (r:Reps K G vs ws) (O:H p=none) (o:Out EX G H (mdW K .F H0 Hs) (.ok (.lst ws)) Q):Q (.ref p) (upd H p (.lst vs)):=
 o _ G _ (xa I.gh O) ⟨p,vs,rfl,e7,I.gh.free O,s.free O,r⟩
def Out.newTF {Q:VK}(I:PIv K H0 G ρ σ H) (r:Reps K G vs ws) (O:H p=none) (o:Out EX G H (mdW K .F H0 Hs) (.ok (.tup ws)) Q):Q (.ref p) (upd H p (.tup vs)):=
 o _ (upd G p (.tup vs)) _ (bn I.gh O) (.tup e7 (r.same λb u q=>by rw[b6 (c9 q (I.gh.free O))];show q))
def lim (n:Nat)(w:W):R W:=if n<=1000 then .ok w else .stuck
def Out.lim {md:W->α->Hp->Hp->Prop}(o:Out EX G H md (lim n w) Q):n<=1000/\Out EX G H md (.ok w) Q:=by
 unfold TP.lim at o;by_cases n:n<=1000
 .rw[qA9 n]at o;show ⟨n,o⟩
 .rw[qB4 n]at o;show o.elim
def aK (h:n<=1000):n<=sizeLine:=qD9 h Qy
def Hi (h:tM K EX .F (λρ=>ma ρ>>=λws=>lim ws.length (.tup ws)) σ H Q):rq (tA K EX .V ma) σ H Q:=by
 obtain ⟨H0,G,ρ,I,o⟩:=h;refine ⟨H0,G,ρ,I,Out.bind o λxs G1 H1 ws O m1 o1=>?_⟩;obtain ⟨hl,o2⟩:=Out.lim o1;have r:=MdA.reps m1;show ⟨by rw[r.length];show aK hl,λp hp=>Out.newTF (I.ext O) r hp o2⟩
def Ht (h:tM K EX .F (λρ=>ma ρ>>=λws=>lim ws.length (.lst ws)) σ H Q):hJ (tA K EX .V ma) σ H Q:=by
 obtain ⟨H0,G,ρ,I,o⟩:=h;refine ⟨H0,G,ρ,I,Out.bind o λxs G1 H1 ws O m1 o1=>?_⟩;obtain ⟨hl,o2⟩:=Out.lim o1;have r:=MdA.reps m1;show ⟨by rw[r.length];show aK hl,λp hp=>Out.newL (I.ext O) O.hh r hp o2⟩
def ja (h:H0 p=none):join H0 (upd G p o)=upd (join H0 G) p o:=by
 funext b
 by_cases I:b=p
 .subst I;unfold join;rw[h];dsimp only;rw[e7,e7]
 .rw [b6 I];unfold join;cases H0 b with
  |none=>dsimp only;rw[b6 I]
  |some u=>dsimp only;rw[b6 I]
def Ec (h:tM K EX .U (λρ=>ma ρ>>=λws=>lim ws.length (.tup ws)) σ H Q):rq (tA K EX .U ma) σ H Q:=by
 obtain ⟨H0,G,ρ,I,o⟩:=h;refine ⟨H0,G,ρ,I,Out.bind o λxs G1 H1 ws e1 m1 o1=>?_⟩;obtain ⟨hl,o2⟩:=Out.lim o1;have r:=MdA.repsU m1;have O:=I.ext e1;refine ⟨by rw[r.length];show aK hl,λp hp=>o2 _ (upd G1 p (.tup xs)) _ (bn O.gh hp) ?_⟩
 change Rep K (join H0 (upd G1 p (.tup xs))) _ _;rw[ja (O.hh.free hp)];show .tup e7 (r.same λb u q=>by rw[b6 (c9 (O.join_H b u q) hp)];show q)
inductive Fl where
 |nx (ρ:Rho)|rt (w:W)|bk (ρ:Rho)|ct (ρ:Rho)
abbrev JY:=W->Rho->Option Rho
abbrev JX:=Rho->R Bool
abbrev JK:=Rho->R JJ
abbrev JW:=Rho->R Fl
abbrev JV:=Rho->R W
def OutS (K:Frag) (EX:EXT) (d:Mode) (H0 G:Hp) (r:R Fl) (D:Ends):Prop:=match r with
 | .ok (.nx ρ)=>∀G' I H',Same G G'->PIv K H0 G' ρ I H'->D.nx I H'
 | .ok (.bk ρ)=>∀G' I H',Same G G'->PIv K H0 G' ρ I H'->D.bk I H'
 | .ok (.ct ρ)=>∀G' I H',Same G G'->PIv K H0 G' ρ I H'->D.ct I H'
 | .ok (.rt w)=>∀v G' H',Same G G'->Same G' H'->Same H0 H'->(∀a o,H0 a=some o->isL o=true->G' a=none)->Md K H0 H0 G' H' v w d->D.rt v H'
 | .ex e=>∀H',Same H0 H'->EX e H'
 | .stuck=>False
def tSt (K:Frag)(EX:EXT)(d:Mode)(m:JW):TS:=λD σ H=>∃H0 G ρ,PIv K H0 G ρ σ H/\OutS K EX d H0 G (m ρ) D
def OutS.move (s:Same G G1) (o:OutS K EX d H0 G r D):OutS K EX d H0 G1 r D:=by
 cases r with
 |stuck=>show o
 |ex e=>show o
 | ok f=>
  cases f with
  |nx O=>show λG' I H' s' I'=>o G' I H' (s.trans s') I'
  |bk O=>show λG' I H' s' I'=>o G' I H' (s.trans s') I'
  |ct O=>show λG' I H' s' I'=>o G' I H' (s.trans s') I'
  |rt w=>show λv G' H' s0 s1 s2 c md=>o v G' H' (s.trans s0) s1 s2 c md
def OutS.bind {md:α->β->Hp->Hp->Prop}(I:PIv K H0 G ρ σ H) (o:OutS K EX d H0 G (m>>=k) D) (h:∀x G1 H1 w,Ext G H G1 H1->md w x G1 H1->OutS K EX d H0 G1 (k w) D->Q1 x H1):Out EX G H md m Q1:=by
 cases m with
 |ok w=>show λv G' H' e q=>h v G' H' w e q (OutS.move e.gg o)
 |ex e=>show λH' s=>o H' (I.hh.trans s)
 |stuck=>show o
def c6 (m n:JW):JW:=λρ=>m ρ>>=λf=>match f with
 | .nx I=>n I
 | .rt w=>.ok (.rt w)
 | .bk I=>.ok (.bk I)
 | .ct I=>.ok (.ct I)
def Eo (h:tSt K EX d (λρ=>.ok (.nx ρ)) D σ H):tNext D σ H:=by
 obtain ⟨H0,G,ρ,I,o⟩:=h;show o G σ H (Same.refl G) I
def Hm (h:tSt K EX d (c6 m n) D σ H):lC (tSt K EX d m) (tSt K EX d n) D σ H:=by
 obtain ⟨H0,G,ρ,I,o⟩:=h;refine ⟨H0,G,ρ,I,?_⟩;unfold c6 at o
 revert o
 cases m ρ with
 |stuck=>show id
 |ex e=>show id
 | ok f=>
  cases f with
  |nx O=>show λo G' a3 H' s' I'=>⟨H0,G',O,I',OutS.move s' o⟩
  |_=>show id
def Ev (h:tSt K EX d (λρ=>m ρ>>=λ_=>.ok (.nx ρ)) D σ H):V5 (tM K EX b m) D σ H:=by
 obtain ⟨H0,G,ρ,I,o⟩:=h;show ⟨H0,G,ρ,I,OutS.bind I o λx G1 H1 w O _ o1=>o1 G1 σ H1 (Same.refl _) (I.ext O)⟩
def vB (h:tSt K EX d (λρ=>m ρ>>=λw=>.ok (.rt w)) D σ H):lD (tM K EX d m) D σ H:=by
 obtain ⟨H0,G,ρ,I,o⟩:=h;refine ⟨H0,G,ρ,I,OutS.bind I o λx G1 H1 w O m1 o1=>?_⟩;have I1:=I.ext O;show o1 x G1 H1 (Same.refl _) O.gh I1.hh I1.gl (m1.start I.hh)
def E1 (d:Mode) (i:Nat):JW:=λρ=>match ρ[i]? with
 |some (.own ws)=>.ok (.rt (.lst ws))
 |_=>a6 d i ρ>>=λw=>.ok (.rt w)
def um (hd:d=.F\/d=.V) (h:tSt K EX d (E1 d i) D σ H):lD (m9 i) D σ H:=by
 obtain ⟨H0,G,ρ,I,o⟩:=h;unfold E1 at o;by_cases ho:∃ws,ρ[i]?=some (.own ws)
 .obtain ⟨ws,e⟩:=ho;rw[e]at o;have hi:i<σ.length:=by rw[<- I.len];show (qA5.mp e).1
  have es:σ[i]?=some σ[i]:=Qj;obtain ⟨a,vs,ev,ha,O,h0,r⟩:=I.sl i _ _ e es;refine ⟨.ref a,by rw[es,ev],?_⟩;rcases hd with rfl|rfl
  .show o _ G H (Same.refl _) I.gh I.hh I.gl ⟨a,vs,rfl,ha,O,h0,r⟩
  .have s1:Same G (upd G a (.lst vs)):=λb o q=>by rw[b6 (c9 q O)];show q
   refine o _ (upd G a (.lst vs)) H s1 (λb o q=>?_) I.hh (λb u q l=>?_) (.lst e7 (r.same s1))
   .by_cases hb:b=a
    .subst hb;rw[e7]at q;cases q;show ha
    .rw[b6 hb]at q;show I.gh b o q
   .rw[b6 (c9 q h0)];show I.gl b u q l
 .have o':OutS K EX d H0 G (a6 d i ρ>>=λw=>.ok (.rt w)) D:=by
   revert o
   split
   .rename_i ws e;show absurd ⟨ws,e⟩ ho
   .show id
  have c:lD (tM K EX d (a6 d i)) D σ H:=vB (m:=a6 d i) ⟨H0,G,ρ,I,o'⟩;show mU c
def PIv.setV (I:PIv K H0 G ρ σ H) (r:Rep K G v w):PIv K H0 G (ρ.set i (.val w)) (σ.set i (some v)) H where
 g0:=I.g0
 gl:=I.gl
 gh:=I.gh
 hh:=I.hh
 len:=by rw[qD3,qD3];show I.len
 sl j x o h1 h2:=by
  by_cases hj:i=j
  .subst hj;rw[qC5]at h1 h2;simp only [qL8]at h1 h2
   split at h1 <;> split at h2 <;> simp only [qF9,reduceCtorEq]at h1 h2
   subst h1;subst h2;show ⟨v,rfl,r⟩
  .rw[qB0 hj]at h1 h2;show I.sl j x o h1 h2
 ne a b ws us c hab h1 h2 h3 h4:=by
  have O:i≠a:=by
   rintro rfl;rw[qC5]at h1;simp only [qL8]at h1
   split at h1 <;> simp at h1
  have nb:i≠b:=by
   rintro rfl;rw[qC5]at h2;simp only [qL8]at h2
   split at h2 <;> simp at h2
  rw[qB0 O]at h1 h3;rw[qB0 nb]at h2 h4;show I.ne a b ws us c hab h1 h2 h3 h4
 nd a b ws us c hab h1 h2 h3 h4:=by
  have O:i≠a:=by
   rintro rfl;rw[qC5]at h1;simp only [qL8]at h1
   split at h1 <;> simp at h1
  have nb:i≠b:=by
   rintro rfl;rw[qC5]at h2;simp only [qL8]at h2
   split at h2 <;> simp at h2
  rw[qB0 O]at h1 h3;rw[qB0 nb]at h2 h4;show I.nd a b ws us c hab h1 h2 h3 h4
def PIv.setU (I:PIv K H0 G ρ σ H) (r:Rep K (join H0 G) v w):PIv K H0 G (ρ.set i (.par w)) (σ.set i (some v)) H where
 g0:=I.g0
 gl:=I.gl
 gh:=I.gh
 hh:=I.hh
 len:=by rw[qD3,qD3];show I.len
 sl j x o h1 h2:=by
  by_cases hj:i=j
  .subst hj;rw[qC5]at h1 h2;simp only [qL8]at h1 h2
   split at h1 <;> split at h2 <;> simp only [qF9,reduceCtorEq]at h1 h2
   subst h1;subst h2;show ⟨v,rfl,r⟩
  .rw[qB0 hj]at h1 h2;show I.sl j x o h1 h2
 ne a b ws us c hab h1 h2 h3 h4:=by
  have O:i≠a:=by
   rintro rfl;rw[qC5]at h1;simp only [qL8]at h1
   split at h1 <;> simp at h1
  have nb:i≠b:=by
   rintro rfl;rw[qC5]at h2;simp only [qL8]at h2
   split at h2 <;> simp at h2
  rw[qB0 O]at h1 h3;rw[qB0 nb]at h2 h4;show I.ne a b ws us c hab h1 h2 h3 h4
 nd a b ws us c hab h1 h2 h3 h4:=by
  have O:i≠a:=by
   rintro rfl;rw[qC5]at h1;simp only [qL8]at h1
   split at h1 <;> simp at h1
  have nb:i≠b:=by
   rintro rfl;rw[qC5]at h2;simp only [qL8]at h2
   split at h2 <;> simp at h2
  rw[qB0 O]at h1 h3;rw[qB0 nb]at h2 h4;show I.nd a b ws us c hab h1 h2 h3 h4
def PIv.setO (I:PIv K H0 G ρ σ H) (ha:H a=some (.lst vs)) (hg:G a=none) (h0:H0 a=none) (r:Reps K G vs ws) (O:∀(j:Nat) (us:JJ),ρ[j]?=some (Sl.own us)->σ[j]?≠some (some (V.ref a))):PIv K H0 G (ρ.set i (.own ws)) (σ.set i (some (.ref a))) H where
 g0:=I.g0
 gl:=I.gl
 gh:=I.gh
 hh:=I.hh
 len:=by rw[qD3,qD3];show I.len
 sl j x o h1 h2:=by
  by_cases hj:i=j
  .subst hj;rw[qC5]at h1 h2;simp only [qL8]at h1 h2
   split at h1 <;> split at h2 <;> simp only [qF9,reduceCtorEq]at h1 h2
   subst h1;subst h2;show ⟨a,vs,rfl,ha,hg,h0,r⟩
  .rw[qB0 hj]at h1 h2;show I.sl j x o h1 h2
 ne p q ws' us c hab h1 h2 h3 h4:=by
  by_cases hp:i=p
  .subst hp;rw[qB0 hab]at h2 h4;rw[qC5]at h3;simp only [qL8]at h3
   split at h3 <;> simp only [qF9,reduceCtorEq,V.ref.injEq]at h3
   subst h3;show O q us h2 h4
  .rw [qB0 hp]at h1 h3
   by_cases hq:i=q
   .subst hq;rw[qC5]at h4;simp only [qL8]at h4
    split at h4 <;> simp only [qF9,reduceCtorEq,V.ref.injEq]at h4
    subst h4;show O p ws' h1 h3
   .rw [qB0 hq]at h2 h4
    show I.ne p q ws' us c hab h1 h2 h3 h4
 nd a' b ws us c hab h1 h2 h3 h4:=by
  have na:i≠a':=by
   rintro rfl;rw[qC5]at h1;simp only [qL8]at h1
   split at h1 <;> simp at h1
  have nb:i≠b:=by
   rintro rfl;rw[qC5]at h2;simp only [qL8]at h2
   split at h2 <;> simp at h2
  rw[qB0 na]at h1 h3;rw[qB0 nb]at h2 h4;show I.nd a' b ws us c hab h1 h2 h3 h4
def L7:W->Sl
 | .lst ws=>.own ws
 |w=>.val w
def Eg (h:tSt K EX d (λρ=>m ρ>>=λw=>.ok (.nx (ρ.set i (.val w)))) D σ H):hX (tM K EX .V m) (P2 i) D σ H:=by
 obtain ⟨H0,G,ρ,I,o⟩:=h;show ⟨H0,G,ρ,I,OutS.bind I o λx G1 H1 w O m1 o1=>o1 G1 _ H1 (Same.refl _) ((I.ext O).setV m1)⟩
def qz (h:tSt K EX d (λρ=>m ρ>>=λw=>.ok (.nx (ρ.set i (L7 w)))) D σ H):hX (tM K EX .F m) (P2 i) D σ H:=by
 obtain ⟨H0,G,ρ,I,o⟩:=h;refine ⟨H0,G,ρ,I,OutS.bind I o λx G1 H1 w e1 m1 o1=>?_⟩;have O:=I.ext e1;cases w with
 | lst ws=>
  obtain ⟨a,vs,rfl,h1,h2,h3,r⟩:=m1;refine o1 G1 _ H1 (Same.refl _) (O.setO h1 h2 (I.hh.free h3) r λj us q z=>?_);obtain ⟨b,a3,eb,hb,_⟩:=I.sl j _ _ q z;cases eb;rw[h3]at hb;cases hb
 |non=>show o1 G1 _ H1 (Same.refl _) (O.setV m1)
 |bl _=>show o1 G1 _ H1 (Same.refl _) (O.setV m1)
 |int _=>show o1 G1 _ H1 (Same.refl _) (O.setV m1)
 |str _=>show o1 G1 _ H1 (Same.refl _) (O.setV m1)
 |ty _=>show o1 G1 _ H1 (Same.refl _) (O.setV m1)
 |tup _=>show o1 G1 _ H1 (Same.refl _) (O.setV m1)
 |scr _=>show o1 G1 _ H1 (Same.refl _) (O.setV m1)
 |exc _ _=>show o1 G1 _ H1 (Same.refl _) (O.setV m1)
 |cls _=>show o1 G1 _ H1 (Same.refl _) (O.setV m1)
 |dst _ _ _ _=>show o1 G1 _ H1 (Same.refl _) (O.setV m1)
instance:DecidableEq Mode:=λa b=>by cases a <;> cases b <;> first|show isTrue rfl|show isFalse (by intro h;cases h)
def Gt (K:Frag) (e:Mode) (g:TG) (mg:JY):Prop:=∀(H0 Hs G:Hp) (ρ:Rho) (σ:St) (H:Hp) (v:V) (w:W) (I:Rho) (Q:St->Hp->Prop),PIv K H0 G ρ σ H->Md K H0 Hs G H v w e->mg w ρ=some I ->
 (∀O,PIv K H0 G I O H->Q O H)->g v σ H Q
def Gts (K:Frag) (e:Mode) (g:TGs) (mg:List W->Rho->Option Rho):Prop:=∀(H0 G:Hp) (ρ:Rho) (σ:St) (H:Hp) (vs:List V) (ws:JJ) (I:Rho) (Q:St->Hp->Prop),PIv K H0 G ρ σ H->Reps K (if e=.V then G else join H0 G) vs ws->mg ws ρ=some I ->
 (∀O,PIv K H0 G I O H->Q O H)->g vs σ H Q
def gN (e:Mode)(i:Nat):JY:=λw ρ=>some (ρ.set i (if e=.V then .val w else .par w))
def J0:Gt K .U (P2 i) (gN .U i):=λH0 Hs G ρ σ H v w O Q I m e h=>by
 cases e;show h _ (I.setU m)
def gsNil:List W->Rho->Option Rho
 | [],ρ=>some ρ
 |_,_=>none
def cm (f:JY) (g:List W->Rho->Option Rho):List W->Rho->Option Rho
 |w::ws,ρ=>(f w ρ).bind (g ws)
 | [],_=>none
def xH:Gts K e gNil gsNil:=λH0 G ρ σ H vs ws O Q I r e h=>by
 cases r with
 |nil=>cases e;show ⟨rfl,h _ I⟩
 |cons _ _=>cases e
def jd (he:e=.V\/e=.U) (h1:Gt K e t f) (h2:Gts K e u g):Gts K e (vv t u) (cm f g):=λH0 G ρ σ H vs ws a4 Q I r q h=>by
 cases r with
 |nil=>cases q
 | cons a b=>
  unfold cm at q;obtain ⟨O,q1,q2⟩:=Option.bind_eq_some_iff.mp q;refine ⟨_,_,rfl,h1 H0 H G ρ σ H _ _ O _ I ?_ q1 λa3 I1=>h2 H0 G O a3 H _ _ a4 Q I1 b q2 h⟩;rcases he with rfl|rfl
  .show a
  .show a
def gT (n:Nat) (g:List W->Rho->Option Rho):W->Rho->Option Rho
 | .tup ws,ρ=>if ws.length=n then g ws ρ else none
 |_,_=>none
def CK (he:e=.V\/e=.U) (h:Gts K e u g):Gt K e (tK K n u) (gT n g):=λH0 Hs G ρ σ H v w O Q I m q k=>by
 cases w <;> first|cases q|skip
 rename_i ws
 have q':(if ws.length=n then g ws ρ else none)=some O:=q;by_cases hn:ws.length=n
 .rw [qA9 hn]at q'
  rcases he with rfl|rfl
  .obtain ⟨a,vs,e,s,r⟩:=Rep.inv m;show ⟨a,vs,e,SqT.of (I.gh _ _ s),by rw[r.length];show hn,h H0 G ρ σ H _ ws O Q I (by rw[qA9 rfl];show r) q' k⟩
  .obtain ⟨a,vs,e,s,r⟩:=Rep.inv m;show ⟨a,vs,e,SqT.of (I.join_H _ _ s),by rw[r.length];show hn,h H0 G ρ σ H _ ws O Q I (by rw[qB4 (by intro z;cases z)];show r) q' k⟩
 .rw[qB4 hn]at q';cases q'
def toR {α:Type}:Option α->R α
 |some a=>.ok a
 |none=>.stuck
def PIv.own_upd (I:PIv K H0 G ρ σ H) (e:ρ[i]?=some (.own ws)) (es:σ[i]?=some (some (.ref a))) (r:Reps K G vs' ws'):PIv K H0 G (ρ.set i (.own ws')) σ (upd H a (.lst vs')):=by
 obtain ⟨a',vs,ev,ha,hg,h0,_⟩:=I.sl i _ _ e es;cases ev;refine ⟨I.g0,I.gl,λb o q=>by rw[b6 (c9 q hg)];show I.gh b o q,λb o q=>by rw[b6 (c9 q h0)];show I.hh b o q,by rw[qD3];show I.len,λj x o h1 h2=>?_,λp q b3 us c b0 h1 h2 h3 h4=>?_,λp q b3 us c b0 h1 h2 h3 h4=>?_⟩
 .by_cases hj:i=j
  .subst hj;rw[qC5]at h1;simp only [qL8]at h1
   split at h1 <;> simp only [qF9,reduceCtorEq]at h1
   subst h1;rw[es]at h2;cases h2;show ⟨a,vs',rfl,e7,hg,h0,r⟩
  .rw [qB0 hj]at h1
   have:=I.sl j x o h1 h2
   cases x with
   | own us=>
    obtain ⟨b,O,eb,hb,a4,ae,rb⟩:=this;subst eb;have a3:b≠a:=by
     rintro rfl;show I.ne i j ws us b hj e h1 es h2
    show ⟨b,O,rfl,by rw[b6 a3];show hb,a4,ae,rb⟩
   | dic ks=>
    obtain ⟨b,O,eb,hb,a4,ae,rb⟩:=this;have a3:b≠a:=by
     rintro rfl;rw[ha]at hb;cases hb
    show ⟨b,O,eb,by rw[b6 a3];show hb,a4,ae,rb⟩
   | dik ks=>
    obtain ⟨b,O,eb,hb,a4,ae,rb⟩:=this;have a3:b≠a:=by
     rintro rfl;rw[ha]at hb;cases hb
    show ⟨b,O,eb,by rw[b6 a3];show hb,a4,ae,rb⟩
   | dos ks=>
    obtain ⟨b,O,eb,hb,a4,ae,rb⟩:=this;have a3:b≠a:=by
     rintro rfl;rw[ha]at hb;cases hb
    show ⟨b,O,eb,by rw[b6 a3];show hb,a4,ae,rb⟩
   |un=>show this
   |val _=>show this
   |par _=>show this
   |iop _ _=>show this
   |hz _=>show this
 .have b4:∀{k:Nat}{us:JJ},(ρ.set i (.own ws'))[k]?=some (.own us)->∃O,ρ[k]?=some (.own O):=λ{k us} hk=>by
   by_cases b5:i=k
   .subst b5;show ⟨ws,e⟩
   .rw[qB0 b5]at hk;show ⟨us,hk⟩
  obtain ⟨w1,k1⟩:=b4 h1;obtain ⟨w2,k2⟩:=b4 h2;show I.ne p q w1 w2 c b0 k1 k2 h3 h4
 .have na:i≠p:=by
   rintro rfl;rw[qC5]at h1;simp only [qL8]at h1
   split at h1 <;> simp at h1
  have nb:i≠q:=by
   rintro rfl;rw[qC5]at h2;simp only [qL8]at h2
   split at h2 <;> simp at h2
  rw[qB0 na]at h1;rw[qB0 nb]at h2;show I.nd p q b3 us c b0 h1 h2 h3 h4
def PIv.own_at {i:Nat}(I:PIv K H0 G ρ σ H) (e:ρ[i]?=some (.own ws)):∃a vs,σ[i]?=some (some (.ref a))/\H a=some (.lst vs)/\G a=none/\H0 a=none/\Reps K G vs ws:=by
 have hi:i<σ.length:=by rw[<- I.len];show (qA5.mp e).1
 have es:σ[i]?=some σ[i]:=Qj;obtain ⟨a,vs,O,r⟩:=I.sl i _ _ e es;show ⟨a,vs,by rw[es,O],r⟩
def dq (i:Nat) (m:JV):JW:=λρ=>match ρ[i]? with
 |some (.own ws)=>m ρ>>=λw=>if ws.length<1000 then .ok (.nx (ρ.set i (.own (ws ++ [w])))) else .stuck
 |_=>.stuck
def HA (h:tSt K EX d (dq i m) D σ H):V5 (eU (m9 i) (tM K EX .V m)) D σ H:=by
 obtain ⟨H0,G,ρ,I,o⟩:=h;unfold dq at o
 split at o
 .rename_i ws e
  obtain ⟨a,vs,es,ha,hg,h0,r⟩:=I.own_at e;refine ⟨.ref a,es,a,rfl,⟨vs,ha⟩,H0,G,ρ,I,OutS.bind I o λx G1 H1 w e1 m1 O=>?_⟩;by_cases hl:ws.length<1000
  .rw [qA9 hl]at O
   have h1:=e1.hh a _ ha;dsimp only;rw[h1];dsimp only;have hlen:vs.length=ws.length:=r.length;show ⟨qC6 (by omega:vs.length<1000) Qy,O G1 σ _ (Same.refl _) ((I.ext e1).own_upd e es ((r.same e1.gg).snoc m1))⟩
  .rw[qB4 hl]at O;show O.elim
 .show o.elim
def mSet (i:Nat) (I me:JV):JW:=λρ=>match ρ[i]? with
 | some (.own ws)=>me ρ>>=λw=>I ρ>>=λk=>(match k with
  | .int k=>(match ixN ws.length k with
   |some j=>.ok (.nx (ρ.set i (.own (ws.set j w))))
   |none=>.stuck)
  |_=>.stuck)
 |_=>.stuck
def mAug (i:Nat) (f:Int->Int->Int) (m:JV):JW:=λρ=>a6 .B i ρ>>=λx=>m ρ>>=λy=>match x,y with
 | .int a,.int b=>.ok (.nx (ρ.set i (.val (.int (f a b)))))
 |_,_=>.stuck
def mIf (c:JX)(m n:JW):JW:=λρ=>c ρ>>=λb=>if b then m ρ else n ρ
def Hu (h:tSt K EX d (mIf c m n) D σ H):eT (tT K EX c) (tSt K EX d m) (tSt K EX d n) D σ H:=by
 obtain ⟨H0,G,ρ,I,o⟩:=h;refine ⟨H0,G,ρ,I,OutS.bind I o λx G1 H1 w O m1 o1=>?_⟩;cases m1;cases x with
 |true=>show ⟨H0,G1,ρ,I.ext O,o1⟩
 |false=>show ⟨H0,G1,ρ,I.ext O,o1⟩
def frz (i:Nat) (ρ:Rho):Rho:=match ρ[i]? with
 |some (.own ws)=>ρ.set i (.val (.lst ws))
 |_=>ρ
def PIv.frz (I:PIv K H0 G ρ σ H):∃G',Same G G'/\PIv K H0 G' (frz i ρ) σ H:=by
 unfold TP.frz
 split
 .rename_i ws e
  obtain ⟨a,vs,es,ha,hg,h0,r⟩:=I.own_at e;have s1:Same G (upd G a (.lst vs)):=λb o q=>by rw[b6 (c9 q hg)];show q
  refine ⟨upd G a (.lst vs),s1,?_⟩;have I1:PIv K H0 G (ρ.set i .un) σ H:=by
   refine ⟨I.g0,I.gl,I.gh,I.hh,by rw[qD3];show I.len,λj x o h1 h2=>?_,λp q b3 us c b4 h1 h2 h3 h4=>?_,λp q b3 us c b4 h1 h2 h3 h4=>?_⟩
   .by_cases hj:i=j
    .subst hj;rw[qC5]at h1;simp only [qL8]at h1
     split at h1 <;> simp only [qF9,reduceCtorEq]at h1
     subst h1;trivial
    .rw[qB0 hj]at h1;show I.sl j x o h1 h2
   .have na:i≠p:=by
     rintro rfl;rw[qC5]at h1;simp only [qL8]at h1
     split at h1 <;> simp at h1
    have nb:i≠q:=by
     rintro rfl;rw[qC5]at h2;simp only [qL8]at h2
     split at h2 <;> simp at h2
    rw[qB0 na]at h1;rw[qB0 nb]at h2;show I.ne p q b3 us c b4 h1 h2 h3 h4
   .have na:i≠p:=by
     rintro rfl;rw[qC5]at h1;simp only [qL8]at h1
     split at h1 <;> simp at h1
    have nb:i≠q:=by
     rintro rfl;rw[qC5]at h2;simp only [qL8]at h2
     split at h2 <;> simp at h2
    rw[qB0 na]at h1;rw[qB0 nb]at h2;show I.nd p q b3 us c b4 h1 h2 h3 h4
  have I2:PIv K H0 (upd G a (.lst vs)) (ρ.set i .un) σ H:=by
   refine ⟨λb o q l=>s1 b o (I.g0 b o q l),λb o q l=>by rw[b6 (c9 q h0)];show I.gl b o q l,λb o q=>?_,I.hh,I1.len,λj x o h1 h2=>?_,I1.ne,I1.nd⟩
   .by_cases O:b=a
    .subst O;rw[e7]at q;cases q;show ha
    .rw[b6 O]at q;show I.gh b o q
   .have:=I1.sl j x o h1 h2
    cases x with
    |un=>trivial
    |val w=>obtain ⟨v,e1,r1⟩:=this;show ⟨v,e1,r1.same s1⟩
    |par w=>obtain ⟨v,e1,r1⟩:=this;show ⟨v,e1,r1.same (A5 s1)⟩
    | own us=>
     obtain ⟨b,ae,eb,O,a4,b0,rb⟩:=this;subst eb;have b5:i≠j:=by
      rintro rfl;rw[qC5]at h1;simp only [qL8]at h1
      split at h1 <;> simp at h1
     rw[qB0 b5]at h1;have a3:b≠a:=by
      rintro rfl;show I.ne i j ws us b b5 e h1 es h2
     show ⟨b,ae,rfl,O,by rw[b6 a3];show a4,b0,rb.same s1⟩
    | dic ks=>
     obtain ⟨b,ae,eb,O,a4,b0,rb⟩:=this;have a3:b≠a:=by
      rintro rfl;rw[ha]at O;cases O
     show ⟨b,ae,eb,O,by rw[b6 a3];show a4,b0,rb⟩
    | dik ks=>
     obtain ⟨b,ae,eb,O,a4,b0,rb⟩:=this;have a3:b≠a:=by
      rintro rfl;rw[ha]at O;cases O
     show ⟨b,ae,eb,O,by rw[b6 a3];show a4,b0,rb⟩
    | dos ks=>
     obtain ⟨b,ae,eb,O,a4,b0,rb⟩:=this;have a3:b≠a:=by
      rintro rfl;rw[ha]at O;cases O
     show ⟨b,ae,eb,O,by rw[b6 a3];show a4,b0,rb.same s1⟩
    |iop p us=>obtain ⟨e1,bc,bf,r1⟩:=this;show ⟨e1,bc,bf,r1.same s1⟩
    |hz w=>obtain ⟨v,e,r⟩:=this;show ⟨v,e,r.same (A5 (bY s1))⟩
  have I3:=I2.setV (i:=i) (v:=.ref a) (w:=.lst ws) (.lst e7 (r.same s1));have e3:σ.set i (some (V.ref a))=σ:=by
   apply List.ext_getElem?;intro j;by_cases hj:i=j
   .subst hj;rw[es,qC5];simp only [qL8];rw[qA9 (qA5.mp es).1]
   .rw[qB0 hj]
  rw[e3,List.set_set]at I3;show I3
 .show ⟨G,Same.refl G,I⟩
def Hw (h:tSt K EX d (λρ=>m (frz i ρ)) D σ H):tSt K EX d m D σ H:=by
 obtain ⟨H0,G,ρ,I,o⟩:=h;obtain ⟨G',s,O⟩:=I.frz (i:=i);show ⟨H0,G',_,O,OutS.move s o⟩
section
variable {K:Frag}{EX:EXT}{H0 G H G1 H1 G2 H2:Hp}{ρ:Rho}{σ:St}{d:Mode}{D:Ends}
structure av (K:Frag) (e:Mode) (H0 Z G:Hp) (J:It) (ws:JJ):Prop where
 go:∀i H,i<ws.length->Same Z H->J.go i H
 stop:∀H,Same Z H->J.stop ws.length H
 yld:∀i H x H' w,ws[i]?=some w->Same Z H->J.yld i H x H'->∀G2 ρ σ,PIv K H0 G2 ρ σ H->Same G G2->∃G3,Ext G2 H G3 H'/\Md K H0 H G3 H' x w e
def dA (K:Frag) (EX:EXT) (lp:Bool) (e:Mode) (H0 G H:Hp) (r:R JJ) (I:It->Hp->Prop):Prop:=match r with
 | .ok ws=>∀J G' H',Ext G H G' H'->av K e H0 (if lp then join H0 G' else H') G' J ws->I J H'
 | .ex x=>∀H',Same H H'->EX x H'
 | .stuck=>False
def tIt (K:Frag)(EX:EXT)(lp:Bool)(e:Mode)(m:JK):TI:=λσ H I=>∃H0 G ρ,PIv K H0 G ρ σ H/\dA K EX lp e H0 G H (m ρ) I
def C3 (mg:JY) (mb:JW):List W->Rho->R Fl
 | [],ρ=>.ok (.nx ρ)
 | w::ws,ρ=>toR (mg w ρ)>>=λO=>mb O>>=λf=>match f with
  | .nx I=>C3 mg mb ws I
  | .ct I=>C3 mg mb ws I
  | .bk I=>.ok (.nx I)
  | .rt w=>.ok (.rt w)
def Hy (hg:Gt K e g mg) (h:tSt K EX d (λρ=>mi ρ>>=λws=>C3 mg mb ws ρ) D σ H):
  hV (tIt K EX true e mi) g (tSt K EX d mb) D σ H:=by
 obtain ⟨H0,G,ρ,I,o⟩:=h;refine ⟨H0,G,ρ,I,?_⟩;replace o:OutS K EX d H0 G (mi ρ>>=λws=>C3 mg mb ws ρ) D:=o
 revert o
 cases mi ρ with
 |stuck=>show id
 |ex x=>show λo H' s=>o H' (I.hh.trans s)
 | ok ws=>
  intro o J G1 H1 e1 T;have o1:OutS K EX d H0 G1 (C3 mg mb ws ρ) D:=OutS.move e1.gg o;refine ⟨λi m σ H=>m=ws.length-i/\i<=ws.length/\∃G2 O,Same G1 G2/\PIv K H0 G2 O σ H/\OutS K EX d H0 G2 (C3 mg mb (ws.drop i) O) D,⟨_,rfl,qD7 _,G1,ρ,Same.refl _,I.ext e1,o1⟩,?_⟩;rintro i m b3 Hh ⟨rfl,hi,G2,O,s2,I2,o2⟩;have hz:Same (join H0 G1) Hh:=(A5 s2).trans I2.join_H;by_cases b0:i<ws.length
  .refine .inr ⟨T.go i Hh b0 hz,λae H'=>∃G4 a3,Same G1 G4/\PIv K H0 G4 a3 ae H'/\OutS K EX d H0 G4 (C3 mg mb (ws.drop (i+1)) a3) D,λae H' b4=>by obtain ⟨G4,a3,s4,I4,o4⟩:=b4;show ⟨ws.length-(i+1),Qo,rfl,b0,G4,a3,s4,I4,o4⟩,λx H' y=>?_⟩;obtain ⟨G3,e3,m3⟩:=T.yld i Hh x H' ws[i] Qj hz y G2 O b3 I2 s2;rw[qG4 b0]at o2;unfold C3 at o2;cases q:mg ws[i] O with
   |none=>rw[q]at o2;show o2.elim
   | some a4=>
    rw[q]at o2;refine hg H0 Hh G3 O b3 H' x _ a4 _ (I2.ext e3) m3 q λae I'=>⟨H0,G3,a4,I',?_⟩;have o3:OutS K EX d H0 G3 (mb a4>>=λf=>match f with
     | .nx O=>C3 mg mb (ws.drop (i+1)) O
     | .ct O=>C3 mg mb (ws.drop (i+1)) O
     | .bk O=>.ok (.nx O)
     | .rt w=>.ok (.rt w)) D:=OutS.move e3.gg o2
    revert o3
    have s3:Same G1 G3:=s2.trans e3.gg;cases mb a4 with
    |stuck=>show id
    |ex x=>show id
    | ok f=>
     cases f with
     |nx a3=>show λo4 G4 b5 H4 s4 I4=>⟨G4,a3,s3.trans s4,I4,OutS.move s4 o4⟩
     |ct a3=>show λo4 G4 b5 H4 s4 I4=>⟨G4,a3,s3.trans s4,I4,OutS.move s4 o4⟩
     |bk a3=>show id
     |rt w=>show id
  .have e:i=ws.length:=Qo;subst e;refine .inl ⟨T.stop Hh hz,?_⟩;rw[List.drop_length]at o2;show o2 G2 b3 Hh (Same.refl _) I2
def mL (c:JX) (b:JW):Nat->Rho->Option (R Fl)
 |0,_=>none
 | n+1,ρ=>match c ρ with
  | .ok false=>some (.ok (.nx ρ))
  | .ok true=>(match b ρ with
   | .ok (.nx ρ')=>mL c b n ρ'
   | .ok (.ct ρ')=>mL c b n ρ'
   | .ok (.bk ρ')=>some (.ok (.nx ρ'))
   | .ok (.rt w)=>some (.ok (.rt w))
   | .ex e=>some (.ex e)
   | .stuck=>some .stuck)
  | .ex e=>some (.ex e)
  | .stuck=>some .stuck
open Classical in
def mWhile (c:JX)(b:JW):JW:=λρ=>if h:∃r n,mL c b n ρ=some r then h.choose else .stuck
def Md.whole (I:PIv K H0 G ρ σ H) (h:Md K H0 Hs G H v w .B):Rep K H v w:=by
 rcases h with h|⟨a,vs,ws,rfl,rfl,h1,r⟩
 .show h.same I.join_H
 .show .lst h1 (r.same I.gh)
def MdA.whole (I:PIv K H0 G ρ σ H) (h:MdA K .B H0 Hs G H ws vs):Reps K H vs ws:=
 @MdA.rec K .B H0 Hs G H (λws vs _=>Reps K H vs ws) .nil (λh _ b=>.cons (h.whole I) b) ws vs h
def XE (_:XK):EXT:=λ_ _=>False
def spM (K:Frag) (n:Nat) (d:Mode) (f:List W->R W):Sp:=λvs H Q E=>vs.length=n/\∃ws,Reps K H vs ws/\match f ws with
 | .ok w=>∀v G' H',Same H H'->Same G' H'->(∀a o,H a=some o->isL o=true->G' a=none)->Md K H H G' H' v w d->Q v H'
 | .ex e=>∀H',Same H H'->XE E e H'
 | .stuck=>False
def i5 (n N:Nat) (m:JW) (ws:JJ):R W:=if ws.length=n then (m (ws.map Sl.par++List.replicate (N-n) Sl.un)>>=λf=>match f with
 | .rt w=>.ok w
 | .nx _=>.ok .non
 |_=>.stuck) else .stuck
def X3 (ws:JJ) (h:i5 n N m ws≠.stuck):ws.length=n:=by
 unfold i5 at h;by_cases e:ws.length=n
 .show e
 .rw[qB4 e]at h;show absurd rfl h
def both (G G':Hp):Hp:=λb=>match G b with
 |some o=>some o
 |none=>G' b
def Ey (hd:d=.F\/d=.V) (hf:∀ws,f ws≠.stuck->ws.length=n) (hE:∀e H,EX e H->XE E e H) (h:tM K EX d (λρ=>ma ρ>>=λws=>f ws) σ H Q):
  Z0 (spM K n d f) [] E (tA K EX .B ma) σ H Q:=by
 obtain ⟨H0,G,ρ,I,o⟩:=h;refine ⟨H0,G,ρ,I,Out.bind o λxs G1 H1 ws e1 m1 o1=>?_⟩;have I1:=I.ext e1;have r:=MdA.whole I1 m1;rw[qD1];refine ⟨?_,ws,r,?_⟩
 .rw [r.length]
  refine hf ws λz=>?_;rw[z]at o1;show o1
 .revert o1
  cases f ws with
  |stuck=>show id
  |ex e=>show λo1 H' s=>hE e H' (o1 H' s)
  | ok w=>
   intro o1 v G' H' sH gH cl md;have sB:Same G1 (both G1 G'):=λb o q=>by unfold both;rw[q]
   have O:Same G' (both G1 G'):=λb o q=>by
    unfold both;cases q1:G1 b with
    |none=>show q
    | some u=>
     have a1:=sH b u (I1.gh b u q1);rw[gH b o q]at a1;show a1.symm
   have a3:Same (both G1 G') H':=λb o q=>by
    unfold both at q;cases q1:G1 b with
    |none=>rw[q1]at q;show gH b o q
    |some u=>rw[q1]at q;cases q;show sH b _ (I1.gh b _ q1)
   have ex:Ext G1 H1 (both G1 G') H':=⟨sB,sH,a3,λb o q l g=>by unfold both;rw[g];show cl b o q l⟩;refine o1 v (both G1 G') H' ex ?_;rcases hd with rfl|rfl
   .cases w with
    | lst us=>
     obtain ⟨a,vs,rfl,h1,h2,h3,r3⟩:=md;show ⟨a,vs,rfl,h1,by unfold both;rw[I1.gh.free h3];show h2,e1.hh.free h3,r3.same O⟩
    |non=>show Rep.same O md
    |bl _=>show Rep.same O md
    |int _=>show Rep.same O md
    |str _=>show Rep.same O md
    |ty _=>show Rep.same O md
    |tup _=>show Rep.same O md
    |scr _=>show Rep.same O md
    |exc _ _=>show Rep.same O md
    |cls _=>show Rep.same O md
    |dst _ _ _ _=>show Rep.same O md
   .show Rep.same O md
def N9 (H:Hp):Hp:=λa=>match H a with
 |some o=>if isL o then none else some o
 |none=>none
def pO:join H (N9 H)=H:=by
 funext a
 unfold join N9;cases q:H a with
 |none=>rfl
 | some o=>
  dsimp only;cases isL o <;> rfl
def Reps.slots {i:Nat}(r:Reps K H vs ws):(ws.map Sl.par++List.replicate k Sl.un)[i]?=some x->(vs.map some++List.replicate k' none)[i]?=some o->x=.un\/∃v w,x=.par w/\o=some v/\Rep K H v w:=
 Reps.ind (P:=λvs ws=>∀i,(ws.map Sl.par++List.replicate k Sl.un)[i]?=some x->(vs.map some++List.replicate k' none)[i]?=some o->x=.un\/∃v w,x=.par w/\o=some v/\Rep K H v w) (λi h1 h2=>by
  have h1:(List.replicate k Sl.un)[i]?=some x:=h1;rw[qE5]at h1;by_cases I:i<k
  .rw[qA9 I]at h1;show .inl (Option.some.inj h1).symm
  .rw[qB4 I]at h1;cases h1) (λr _ b i h1 h2=>by
  cases i with
  |zero=>show .inr ⟨_,_,(Option.some.inj h1).symm,(Option.some.inj h2).symm,r⟩
  |succ i=>show b i h1 h2) r i
def PIv.begin (r:Reps K H vs ws) (I:k=k'):PIv K H (N9 H) (ws.map Sl.par++List.replicate k Sl.un) (vs.map some++List.replicate k' none) H where
 g0 a o e l:=by unfold N9;rw[e];dsimp only;rw[l];rfl
 gl a o e l:=by unfold N9;rw[e];dsimp only;rw[l];rfl
 gh a o e:=by
  unfold N9 at e;cases q:H a with
  |none=>rw[q]at e;cases e
  | some u=>
   rw[q]at e;dsimp only at e;cases hl:isL u
   .rw[hl]at e;show e
   .rw[hl]at e;cases e
 hh:=Same.refl H
 len:=by subst I;simp [r.length]
 sl i x o h1 h2:=by
  rcases Reps.slots r h1 h2 with rfl|⟨v,w,rfl,rfl,q⟩
  .trivial
  .show ⟨v,rfl,by rw[pO];show q⟩
 ne i j us xs a hij h1 _ _ _:=by
  have:∀(i:Nat) (us:JJ),(ws.map Sl.par++List.replicate k Sl.un)[i]?≠some (Sl.own us):=λi us q=>by
   rw[qK5]at q
   split at q
   .rw [qC1]at q
    cases hh:ws[i]? <;> rw[hh]at q <;> cases q
   .rw [qE5]at q
    split at q <;> cases q
  show absurd h1 (this i us)
 nd i j us xs a hij h1 _ _ _:=by
  have:∀(i:Nat) (us:List Str×List W),(ws.map Sl.par++List.replicate k Sl.un)[i]?≠some (Sl.dos us):=λi us q=>by
   rw[qK5]at q
   split at q
   .rw [qC1]at q
    cases hh:ws[i]? <;> rw[hh]at q <;> cases q
   .rw [qE5]at q
    split at q <;> cases q
  show absurd h1 (this i us)
def E5 (hd:d=.F\/d=.V) (h:spM K n d (i5 n Nl.length m) vs H Q E):tSt K (λ_ _=>False) d m { nx:=λ_ H'=>Q .non H',rt:=Q } (L2.start Nl vs) H:=by
 obtain ⟨hl,ws,r,o⟩:=h;have hw:ws.length=n:=by rw[<- r.length];show hl
 unfold i5 at o;rw[qA9 hw]at o;refine ⟨H,N9 H,_,PIv.begin (k:=Nl.length-n) r (by rw[hl]),?_⟩
 revert o
 cases m (ws.map Sl.par++List.replicate (Nl.length-n) Sl.un) with
 |stuck=>show id
 |ex e=>show λo=>(o H (Same.refl H)).elim
 | ok f=>
  cases f with
  |nx O=>show λo G' a3 H' s' I=>o .non G' H' I.hh I.gh I.gl (Md.sca rfl (λ_=>.non) d)
  |rt w=>show λo v G' H' _ s1 s2 c md=>o v G' H' s2 s1 c md
  |bk _=>show λo=>o.elim
  |ct _=>show λo=>o.elim
end
def elR (mg:JY) (mc:JX) (me:JV) (ρ:Rho) (w:W):R (Option W):=match mg w ρ with
 |none=>.stuck
 | some I=>(match mc I with
  | .ok true=>(match me I with
   | .ok y=>.ok (some y)
   |_=>.stuck)
  | .ok false=>.ok none
  |_=>.stuck)
def mapR (f:W->R (Option W)):List W->R JJ
 | []=>.ok []
 | w::ws=>match f w,mapR f ws with
  | .ok (some y),.ok ys=>.ok (y::ys)
  | .ok none,.ok ys=>.ok ys
  |_,_=>.stuck
def U5 (N':Nat) (mg:JY) (mc:JX) (me:JV) (ws:JJ) (ρ:Rho):R W:=
 if ws.length<=1000 then (match mapR (elR mg mc me (ρ++List.replicate (N'-ρ.length) Sl.un)) ws with
  | .ok ys=>.ok (.lst ys)
  |_=>.stuck) else .stuck
def xo:∀{ws ys:JJ},mapR f ws=.ok ys->(∀w∈ws,∃o,f w=.ok o)/\ys=ws.filterMap λw=>match f w with
  | .ok o=>o
  |_=>none:=by
 intro ws
 induction ws with
 |nil=>intro ys h;cases h;show ⟨Qj,rfl⟩
 | cons w ws ih=>
  intro ys h;unfold mapR at h;cases I:f w with
  |stuck=>rw[I]at h;cases h
  |ex e=>rw[I]at h;cases h
  | ok o=>
   rw[I]at h;cases hm:mapR f ws with
   |stuck=>rw[hm]at h;cases o <;> cases h
   |ex e=>rw[hm]at h;cases o <;> cases h
   | ok zs=>
    rw[hm]at h;obtain ⟨h1,h2⟩:=ih hm;refine ⟨λu O=>?_,?_⟩
    .rcases qA7.mp O with rfl|O
     .show ⟨o,I⟩
     .show h1 u O
    .cases o with
     |none=>cases h;rw[qE9,I];show h2
     |some y=>cases h;rw[qE9,I,h2]
def PIv.inner (I:PIv K H0 G ρ σ H):PIv K H0 G (ρ++List.replicate (N'.length-ρ.length) Sl.un) (inner N' σ) H:=by
 have hl:=I.len;unfold L2.inner;rw[hl];refine ⟨I.g0,I.gl,I.gh,I.hh,by simp [hl],λi x o h1 h2=>?_,λp q ws us c a3 h1 h2 h3 h4=>?_,λp q ws us c a3 h1 h2 h3 h4=>?_⟩
 .by_cases hi:i<ρ.length
  .rw [qD2 hi]at h1
   rw[qD2 Qo]at h2;show I.sl i x o h1 h2
  .rw [qD8 Qo,qE5]at h1
   split at h1 <;> simp only [qF9,reduceCtorEq]at h1
   subst h1;trivial
 .have O:∀{k:Nat}{us:JJ},(ρ++List.replicate (N'.length-σ.length) Sl.un)[k]?=some (Sl.own us)->k<ρ.length/\ρ[k]?=some (Sl.own us):=λ{k us} hk=>by
   by_cases hi:k<ρ.length
   .rw[qD2 hi]at hk;show ⟨hi,hk⟩
   .rw [qD8 Qo,qE5]at hk
    split at hk <;> simp at hk
  obtain ⟨l1,k1⟩:=O h1;obtain ⟨l2,k2⟩:=O h2;rw[qD2 Qo]at h3 h4;show I.ne p q ws us c a3 k1 k2 h3 h4
 .have O:∀{k:Nat}{us:List Str×List W},(ρ++List.replicate (N'.length-σ.length) Sl.un)[k]?=some (Sl.dos us)->k<ρ.length/\ρ[k]?=some (Sl.dos us):=λ{k us} hk=>by
   by_cases hi:k<ρ.length
   .rw[qD2 hi]at hk;show ⟨hi,hk⟩
   .rw [qD8 Qo,qE5]at hk
    split at hk <;> simp at hk
  obtain ⟨l1,k1⟩:=O h1;obtain ⟨l2,k2⟩:=O h2;rw[qD2 Qo]at h3 h4;show I.nd p q ws us c a3 k1 k2 h3 h4
open Classical in
def rest (G H:Hp)(Dd:Addr)(H':Hp):Hp:=λb=>if b=Dd\/∃o,H b=some o/\isL o=true/\G b=none then none else H' b
def B7 (h:b=Dd\/∃o,H b=some o/\isL o=true/\G b=none):rest G H Dd H' b=none:=by unfold rest;rw[qA9 h]
def Z6 (h:¬ (b=Dd\/∃o,H b=some o/\isL o=true/\G b=none)):rest G H Dd H' b=H' b:=by unfold rest;rw[qB4 h]
def kn (h:rest G H Dd H' b=some o):H' b=some o/\¬ (b=Dd\/∃o,H b=some o/\isL o=true/\G b=none):=by
 by_cases c:b=Dd\/∃o,H b=some o/\isL o=true/\G b=none
 .rw[B7 c]at h;cases h
 .rw[Z6 c]at h;show ⟨h,c⟩
def PIv.rest (I:PIv K H0 G ρ σ H) (hD:H Dd=none) (s:Same H H'):Same G (rest G H Dd H')/\PIv K H0 (rest G H Dd H') ρ σ H':=by
 have sG:Same G (TP.rest G H Dd H'):=λb o q=>by
  rw[Z6]
  .show s b o (I.gh b o q)
  .rintro (rfl|⟨u,h1,h2,h3⟩)
   .rw[I.gh _ _ q]at hD;cases hD
   .rw[q]at h3;cases h3
 refine ⟨sG,λa o e l=>sG a o (I.g0 a o e l),λa o e l=>B7 (.inr ⟨o,I.hh a o e,l,I.gl a o e l⟩),λb o q=>(kn q).1,I.hh.trans s,I.len,λi x o h1 h2=>?_,I.ne,I.nd⟩
 have:=I.sl i x o h1 h2
 cases x with
 |un=>trivial
 |val w=>obtain ⟨v,e,r⟩:=this;show ⟨v,e,r.same sG⟩
 |par w=>obtain ⟨v,e,r⟩:=this;show ⟨v,e,r.same (A5 sG)⟩
 | own ws=>
  obtain ⟨a,vs,e,h,g,h0,r⟩:=this;show ⟨a,vs,e,s a _ h,B7 (.inr ⟨_,h,rfl,g⟩),h0,r.same sG⟩
 | dic ks=>
  obtain ⟨a,vs,e,h,g,h0,r⟩:=this;show ⟨a,vs,e,s a _ h,B7 (.inr ⟨_,h,rfl,g⟩),h0,r⟩
 | dik ks=>
  obtain ⟨a,vs,e,h,g,h0,r⟩:=this;show ⟨a,vs,e,s a _ h,B7 (.inr ⟨_,h,rfl,g⟩),h0,r⟩
 |iop p ws=>obtain ⟨e1,O,a3,r1⟩:=this;show ⟨e1,O,a3,r1.same sG⟩
 |hz w=>obtain ⟨v,e,r⟩:=this;show ⟨v,e,r.same (A5 (bY sG))⟩
 | dos ks=>
  obtain ⟨a,vs,e,h,g,h0,r⟩:=this;show ⟨a,vs,e,s a _ h,B7 (.inr ⟨_,h,rfl,g⟩),h0,r.same sG⟩
def bN (s:∀b o,b≠Dd->Ha b=some o->Hb b=some o):Same (rest G H Dd Ha) (rest G H Dd Hb):=λb o q=>by
 obtain ⟨h,c⟩:=kn q;rw[Z6 c];show s b o (λz=>c (.inl z)) h
def rR (hl:∃ys,Ha Dd=some (.lst ys)) (s:Same H Ha) (e:Ext (rest G H Dd Ha) Ha G' Hb):Same G' (rest G H Dd Hb):=λb o q=>by
 rw[Z6]
 .show e.gh b o q
 .rintro (rfl|⟨u,h1,h2,h3⟩)
  .obtain ⟨ys,hl⟩:=hl;rw[e.keep _ _ hl rfl (B7 (.inl rfl))]at q;cases q
  .rw[e.keep _ _ (s _ _ h1) h2 (B7 (.inr ⟨u,h1,h2,h3⟩))]at q;cases q
def qB (hg:Gt K e g mg) (h:tM K EX .F (λρ=>mi ρ>>=λws=>U5 N'.length mg mc me ws ρ) σ H Q):
  lE N' (tIt K EX false e mi) g (tT K EX mc) (tM K EX .V me) σ H Q:=by
 obtain ⟨H0,G,ρ,I,o⟩:=h;refine ⟨H0,G,ρ,I,?_⟩;replace o:Out EX G H (mdW K .F H0 H) (mi ρ>>=λws=>U5 N'.length mg mc me ws ρ) Q:=o
 revert o
 cases mi ρ with
 |stuck=>show id
 |ex x=>show id
 | ok ws=>
  intro o J G1 H1 e1 T Dd hD;have I1:=I.ext e1;replace o:Out EX G H (mdW K .F H0 H) (U5 N'.length mg mc me ws ρ) Q:=o
  unfold U5 at o;by_cases hlen:ws.length<=1000
  .rw [qA9 hlen]at o
   cases hm:mapR (elR mg mc me (ρ++List.replicate (N'.length-ρ.length) Sl.un)) ws with
   |stuck=>rw[hm]at o;show o.elim
   |ex x=>rw[hm]at o;show o.elim
   | ok ys=>
    rw[hm]at o;obtain ⟨b5,c1⟩:=xo hm;have T':av K e H0 H1 G1 J ws:=by
     have:=T
     rw[qB4 qC0]at this;show this
    generalize c5:ρ++List.replicate (N'.length-ρ.length) Sl.un=bc at hm b5 c1
    refine ⟨λi m H2=>m=ws.length-i/\i<=ws.length/\Same H1 H2/\∃vs,H2 Dd=some (.lst vs)/\vs.length<=i/\Reps K (rest G1 H1 Dd H2) vs ((ws.take i).filterMap λw=>match elR mg mc me bc w with
     | .ok o=>o
     |_=>none),⟨_,rfl,qD7 _,λb u q=>by rw[b6 (c9 q hD)];show q,[],e7,qB8 _,.nil⟩,?_⟩
    rintro i m H2 ⟨rfl,hi,s2,vs,b3,c4,r2⟩;by_cases a3:i<ws.length
    .refine .inr ⟨T'.go i H2 a3 s2,λx H3 y=>?_⟩;obtain ⟨sG,I2⟩:=I1.rest (Dd:=Dd) hD s2;have c3:=I2.inner (N':=N');obtain ⟨G3,e3,m3⟩:=T'.yld i H2 x H3 ws[i] Qj s2 y _ _ _ c3 sG;obtain ⟨op,O⟩:=b5 ws[i] (qH4 a3);have b4:=O;unfold elR at O;rw[<- c5]at O;have b0:ws.take (i+1)=ws.take i ++ [ws[i]]:=by rw[List.take_succ_eq_append_getElem a3]
     cases q:mg ws[i] (ρ++List.replicate (N'.length-ρ.length) Sl.un) with
     |none=>rw[q]at O;cases O
     | some a4=>
      rw[q]at O;dsimp only at O;refine hg H0 H2 G3 _ _ H3 x _ a4 _ (c3.ext e3) m3 q λcc I4=>⟨H0,G3,a4,I4,?_⟩;cases hc:mc a4 with
      |stuck=>rw[hc]at O;cases O
      |ex x=>rw[hc]at O;cases O
      | ok b=>
       intro b' G5 H5 e5 eb;cases eb;rw[hc]at O;cases b with
       | false=>
        rw[qB4 qC0];have ae:op=none:=by cases O;rfl
        have s5:Same H2 H5:=e3.hh.trans e5.hh;refine ⟨ws.length-(i+1),Qo,rfl,a3,s2.trans s5,vs,s5 _ _ b3,Qo,?_⟩;rw[b0,List.filterMap_append]
        have:([ws[i]].filterMap λw=>match elR mg mc me bc w with
         | .ok o=>o
         |_=>none) = []:=by
         rw[qE9,b4,ae];rfl
        rw[this,qD1];show r2.same (bN λb o _ q=>s5 b o q)
       | true=>
        dsimp only at O;rw[qA9 rfl];refine ⟨H0,G5,a4,I4.ext e5,?_⟩;cases bf:me a4 with
        |stuck=>rw[bf]at O;cases O
        |ex x=>rw[bf]at O;cases O
        | ok z=>
         rw[bf]at O;have ae:op=some z:=by cases O;rfl
         intro yv G6 H6 e6 m6;have c2:Ext (TP.rest G1 H1 Dd H2) H2 G6 H6:=(e3.trans e5).trans e6;have s6:Same H2 H6:=c2.hh;refine ⟨vs,s6 _ _ b3,qJ7 c4 (qC6 (by omega:i<1000) Qy),ws.length-(i+1),Qo,rfl,a3,λb u q=>by rw[b6 (c9 q hD)];show s6 b u (s2 b u q),vs ++ [yv],e7,by rw[qA1];simp;omega,?_⟩;rw[b0,List.filterMap_append]
         have:([ws[i]].filterMap λw=>match elR mg mc me bc w with
          | .ok o=>o
          |_=>none) = [z]:=by
          rw[qE9,b4,ae];rfl
         rw[this];have k1:Same (TP.rest G1 H1 Dd H2) (TP.rest G1 H1 Dd (upd H6 Dd (.lst (vs ++ [yv])))):=bN λb o hb q=>by rw[b6 hb];show s6 b o q
         have k2:Same G6 (TP.rest G1 H1 Dd (upd H6 Dd (.lst (vs ++ [yv])))):=(rR ⟨vs,b3⟩ s2 c2).trans (bN λb o hb q=>by rw[b6 hb];show q);show (r2.same k1).snoc (Rep.same k2 m6)
    .have ei:i=ws.length:=Qo;subst ei;refine .inl ⟨T'.stop H2 s2,?_⟩;rw[qG3,<- c1]at r2;obtain ⟨sG,I2⟩:=I1.rest (Dd:=Dd) hD s2;refine o _ (TP.rest G1 H1 Dd H2) H2 ⟨e1.gg.trans sG,e1.hh.trans s2,I2.gh,λb u q l g=>B7 (.inr ⟨u,e1.hh b u q,l,e1.keep b u q l g⟩)⟩ ⟨Dd,vs,rfl,b3,B7 (.inl rfl),e1.hh.free hD,r2⟩
  .rw[qB4 hlen]at o;show o.elim
def K0:W->R JJ
 | .lst ws=>.ok ws
 | .tup ws=>.ok ws
 | .scr ws=>.ok ws
 |_=>.stuck
def M7 (e:Same H H1) (h:Sq K H t a xs):Sq K H1 t a xs:=by
 unfold Sq at h ⊢
 split at h
 .rename_i ht;rw[qA9 ht];show rA e h
 .rename_i ht;rw[qB4 ht];show Same.seq e h
def sqT (h:SqT K H a xs):Sq K H true a xs:=by unfold Sq;rw[qA9 rfl];show h
def sqL (h:SqL K H a xs):Sq K H false a xs:=by unfold Sq;rw[qB4 qC0];show h
def Rep.sq (h:Rep K F x w) (hw:K0 w=.ok ws):∃t a vs,x=.ref a/\Sq K F t a vs/\Reps K F vs ws:=by
 cases w <;> first | (cases hw;done)|skip
 .obtain ⟨a,vs,e,s,r⟩:=h.inv;show ⟨true,a,vs,e,sqT (SqT.of s),R.ok.inj hw ▸ r⟩
 .obtain ⟨a,vs,e,s,r⟩:=h.inv;show ⟨false,a,vs,e,sqL (SqL.of s),R.ok.inj hw ▸ r⟩
 .obtain ⟨a,vs,e,s,r⟩:=h.inv;show ⟨false,a,vs,e,sqL s,R.ok.inj hw ▸ r⟩
def ia:Bool->Mode->Mode
 |true,e=>e
 |false,.V=>.C
 |false,_=>.B
def fz (e:Mode)(H0 G:Hp):Hp:=if e=.V then G else join H0 G
def Md.src (he:e=.V\/e=.U) (I:PIv K H0 G ρ σ H) (m:Md K H0 Hs G H x w (ia lp e)) (hw:K0 w=.ok ws):
  ∃t a vs,x=.ref a/\Sq K (if lp then join H0 G else H) t a vs/\Reps K (fz e H0 G) vs ws:=by
 unfold fz;rcases he with rfl|rfl
 .rw [qA9 rfl]
  cases lp with
  | true=>
   obtain ⟨t,a,vs,O,e2,e3⟩:=Rep.sq m hw;show ⟨t,a,vs,O,by rw[qA9 rfl];show M7 I.G_join e2,e3⟩
  | false=>
   rw[qB4 qC0];rcases m with m|⟨a,vs,us,rfl,rfl,h1,r⟩
   .obtain ⟨t,a,vs,O,e2,e3⟩:=Rep.sq m hw;show ⟨t,a,vs,O,M7 I.gh e2,e3⟩
   .cases hw;show ⟨false,a,vs,rfl,sqL (SqL.of h1),r⟩
 .rw [qB4 (show ¬ (Mode.U=Mode.V) by intro z;cases z)]
  cases lp with
  | true=>
   obtain ⟨t,a,vs,O,e2,e3⟩:=Rep.sq m hw;show ⟨t,a,vs,O,by rw[qA9 rfl];show e2,e3⟩
  | false=>
   rw[qB4 qC0];rcases m with m|⟨a,vs,us,rfl,rfl,h1,r⟩
   .obtain ⟨t,a,vs,O,e2,e3⟩:=Rep.sq m hw;show ⟨t,a,vs,O,M7 I.join_H e2,e3⟩
   .cases hw;show ⟨false,a,vs,rfl,sqL (SqL.of h1),r.same I.G_join⟩
def Md.of_fz (I:e=.V\/e=.U) (h:Rep K (fz e H0 G) v w):Md K H0 Hs G H v w e:=by
 unfold fz at h;rcases I with rfl|rfl
 .rw[qA9 rfl]at h;show h
 .rw[qB4 (show ¬ (Mode.U=Mode.V) by intro z;cases z)]at h;show h
def S7 (s:Same G G1):Same (fz e H0 G) (fz e H0 G1):=by
 unfold fz
 split
 .show s
 .show A5 s
def xD (he:e=.V\/e=.U) (s:Sq K Z t a vs) (r:Reps K (fz e H0 G) vs ws):av K e H0 Z G (ItQ K t a) ws:=by
 have hl:=r.length;cases t with
 | true=>
  have O:∀H,Same Z H->SqT K H a vs:=λH z=>by have:=M7 z s;unfold Sq at this;rw[qA9 rfl]at this;show this
  refine ⟨λi H hi z=>⟨vs,vs[i]'Qo,O H z,Qj⟩,λH z=>⟨vs,O H z,Qo⟩,λi H x H' w hw z a3 G2 ρ σ I sg=>?_⟩;obtain ⟨e1,y⟩:=a3;subst e1;have hx:=y vs (O _ z);obtain ⟨v,hv,rv⟩:=Reps.get r hw;rw[hx]at hv;cases hv;show ⟨G2,Ext.refl I.gh,Md.of_fz he (rv.same (S7 sg))⟩
 | false=>
  have O:∀H,Same Z H->SqL K H a vs:=λH z=>by have:=M7 z s;unfold Sq at this;rw[qB4 qC0]at this;show this
  refine ⟨λi H hi z=>⟨vs,vs[i]'Qo,O H z,Qj⟩,λH z=>⟨vs,O H z,Qo⟩,λi H x H' w hw z a4 G2 ρ σ I sg=>?_⟩;obtain ⟨e1,y⟩:=a4;subst e1;have hx:=y vs (O _ z);obtain ⟨v,hv,rv⟩:=Reps.get r hw;rw[hx]at hv;cases hv;show ⟨G2,Ext.refl I.gh,Md.of_fz he (rv.same (S7 sg))⟩
def mK {lp:Bool}(I:PIv K H0 G ρ σ H):Same (if lp then join H0 G else H) H:=by
 cases lp
 .show Same.refl H
 .show I.join_H
def Hv (he:e=.V\/e=.U) (h:tIt K EX lp e (λρ=>ml ρ>>=K0) σ H Rr):iSq K (tM K EX (ia lp e) ml) σ H Rr:=by
 obtain ⟨H0,G,ρ,I,o⟩:=h;refine ⟨H0,G,ρ,I,?_⟩;replace o:dA K EX lp e H0 G H (ml ρ>>=K0) Rr:=o
 revert o
 cases ml ρ with
 |stuck=>show id
 |ex x=>show id
 | ok w=>
  intro o x G1 H1 O m1;have I1:=I.ext O;have o':dA K EX lp e H0 G H (K0 w) Rr:=o;cases q:K0 w with
  |stuck=>rw[q]at o';show o'.elim
  |ex z=>cases w <;> cases q
  | ok ws=>
   rw[q]at o';obtain ⟨t,a,vs,ex,s,r⟩:=Md.src he I1 m1 q;show ⟨a,ex,t,vs,M7 (mK I1) s,o' _ G1 H1 O (xD he s r)⟩
def Q5 (lo hi:Int):R JJ:=if -1000000<=lo/\lo<=1000000 /\ -1000000<=hi/\hi<=1000000 then .ok ((List.range (hi-lo).toNat).map λk=>W.int (lo+(k:Nat))) else .stuck
def bM:List W->R JJ
 | [.int j]=>Q5 0 j
 |_=>.stuck
def rng2:List W->R JJ
 | [.int i,.int j]=>Q5 i j
 |_=>.stuck
def tx (he:e=.V\/e=.U):av K e H0 Z G (Itr lo n) ((List.range n).map λk=>W.int (lo+(k:Nat))):=by
 refine ⟨λi H hi _=>by change i<n;simpa using hi,λH _=>by simp [Itr],λi H x H' w hw _ O G2 ρ σ I _=>?_⟩;obtain ⟨e1,e2⟩:=O;subst e1;subst e2;rw[qC1]at hw;cases q:(List.range n)[i]? with
 |none=>rw[q]at hw;cases hw
 | some k=>
  rw[q]at hw;have hk:k=i:=by
   have:=qA5.mp q
   obtain ⟨h1,h2⟩:=this;simpa using h2.symm
  subst hk;cases hw;refine ⟨G2,Ext.refl I.gh,Md.sca rfl (λ_=>.int) e⟩
def df (h:tIt K EX lp e (λρ=>ma ρ>>=k) σ H Rr) (hq:∀H0 G ρ G1 H1 xs ws us,PIv K H0 G ρ σ H->Ext G H G1 H1->MdA K b H0 H G1 H1 ws xs->k ws=.ok us->(∀J G' H',Ext G H G' H'->av K e H0 (if lp then join H0 G' else H') G' J us->Rr J H')->Q xs H1) (hx:∀ws e,k ws≠.ex e):tA K EX b ma σ H Q:=by
 obtain ⟨H0,G,ρ,I,o⟩:=h;refine ⟨H0,G,ρ,I,?_⟩;replace o:dA K EX lp e H0 G H (ma ρ>>=k) Rr:=o
 revert o
 cases ma ρ with
 |stuck=>show id
 |ex x=>show id
 | ok ws=>
  intro o xs G1 H1 O m1;have o':dA K EX lp e H0 G H (k ws) Rr:=o;cases q:k ws with
  |stuck=>rw[q]at o';show o'.elim
  |ex z=>show absurd q (hx ws z)
  |ok us=>rw[q]at o';show hq H0 G ρ G1 H1 xs ws us I O m1 q o'
def wm (h:Q5 lo hi=.ok us):(-1000000<=lo/\lo<=1000000 /\ -1000000<=hi/\hi<=1000000)/\us=(List.range (hi-lo).toNat).map λk=>W.int (lo+(k:Nat)):=by
 unfold Q5 at h
 split at h
 .cases h;rename_i c;show ⟨c,rfl⟩
 .cases h
def rL (h:Q5 lo hi=.ex e):False:=by
 unfold Q5 at h;by_cases c:-1000000<=lo/\lo<=1000000 /\ -1000000<=hi/\hi<=1000000
 .rw[qA9 c]at h;cases h
 .rw[qB4 c]at h;cases h
def Ej (he:e=.V\/e=.U) (h:tIt K EX lp e (λρ=>ma ρ>>=bM) σ H Rr):vt (tA K EX .B ma) σ H Rr:=by
 refine df h (λH0 G ρ G1 H1 xs ws us I O m1 q o=>?_) (λws e z=>?_)
 .cases m1 with
  |nil=>cases q
  | @cons w _ _ _ a t=>
   cases t with
   |cons _ _=>first | (cases q;done) | (cases w <;> cases q)
   | nil=>
    cases w <;> first | (cases q;done)|skip
    rename_i j
    obtain ⟨c,rfl⟩:=wm (show Q5 0 j=_ from q);refine ⟨j,by rw[Md.intB a],Qo,Qo,?_⟩
    have:=o (Itr 0 j.toNat) G1 H1 O
    rw[Int.sub_zero]at this;show this (tx he)
 .cases ws with
  |nil=>cases z
  | cons w t=>
   cases t with
   |cons _ _=>first | (cases z;done) | (cases w <;> cases z)
   | nil=>
    cases w <;> first | (cases z;done)|skip
    show rL (lo:=0) z
def zd:List JJ->List JJ
 | [xs,ys]=>xs.zipWith (λx y=>[x,y]) ys
 | [xs,ys,zs]=>(xs.zip ys).zipWith (λp z=>[p.1,p.2,z]) zs
 |_=>[]
def Z3:List W->R (List JJ)
 | []=>.ok []
 | w::ws=>match K0 w,Z3 ws with
  | .ok x,.ok xs=>.ok (x::xs)
  |_,_=>.stuck
def af (ws:JJ):R JJ:=if ws.length=2\/ws.length=3 then (match Z3 ws with
 | .ok xs=>.ok ((zd xs).map W.tup)
 |_=>.stuck) else .stuck
def ko (he:e=.V\/e=.U) (I:PIv K H0 G ρ σ H) (O:H p=none) (r:Reps K (fz e H0 G) vs ws):Ext G H (upd G p (.tup vs)) (upd H p (.tup vs))/\Md K H0 Hs (upd G p (.tup vs)) (upd H p (.tup vs)) (.ref p) (.tup ws) e:=by
 refine ⟨bn I.gh O,?_⟩;have gp:G p=none:=I.gh.free O;rcases he with rfl|rfl
 .unfold fz at r;rw[qA9 rfl]at r;show .tup e7 (r.same λb u q=>by rw[b6 (c9 q gp)];show q)
 .unfold fz at r;rw[qB4 (show ¬ (Mode.U=Mode.V) by intro z;cases z)]at r
  change Rep K (join H0 (upd G p (.tup vs))) _ _;rw[ja (I.hh.free O)];show .tup e7 (r.same λb u q=>by rw[b6 (c9 (I.join_H b u q) O)];show q)
def pT (he:e=.V\/e=.U) (s1:Sq K Z t a xs) (s2:Sq K Z u b ys) (r1:Reps K (fz e H0 G) xs us) (r2:Reps K (fz e H0 G) ys vs):
  av K e H0 Z G (ItZ K [(t,a),(u,b)]) ((us.zipWith (λx y=>[x,y]) vs).map W.tup):=by
 have O:=oh s1 s2;have l1:=r1.length;have l2:=r2.length;have hl:((us.zipWith (λx y=>[x,y]) vs).map W.tup).length=min xs.length ys.length:=by simp [l1,l2]
 refine ⟨λi H hi z=>O.go i H Qo z,λH z=>by rw[hl];show O.stop H z,λi H x H' w hw z y G2 ρ σ I sg=>?_⟩;have hi:i<min xs.length ys.length:=by
  rw[<- hl];show (qA5.mp hw).1
 obtain ⟨p,y1,z1,rfl,hp,rfl,hy,hz⟩:=O.yld i H x H' hi z y;obtain ⟨w1,e1,q1⟩:=Reps.get' r1 hy;obtain ⟨w2,e2,q2⟩:=Reps.get' r2 hz;have a3:w=.tup [w1,w2]:=by
  rw[qC1,qO6,e1,e2]at hw;cases hw;rfl
 subst a3;obtain ⟨x1,x2⟩:=ko (Hs:=H) he I hp (.cons (q1.same (S7 sg)) (.cons (q2.same (S7 sg)) .nil));show ⟨_,x1,x2⟩
def pR (he:e=.V\/e=.U) (s1:Sq K Z t a xs) (s2:Sq K Z u b ys) (s3:Sq K Z v c zs) (r1:Reps K (fz e H0 G) xs us) (r2:Reps K (fz e H0 G) ys vs) (r3:Reps K (fz e H0 G) zs ts):
  av K e H0 Z G (ItZ K [(t,a),(u,b),(v,c)]) (((us.zip vs).zipWith (λp z=>[p.1,p.2,z]) ts).map W.tup):=by
 have Rn:=og s1 s2 s3;have l1:=r1.length;have l2:=r2.length;have l3:=r3.length;have hl:(((us.zip vs).zipWith (λp z=>[p.1,p.2,z]) ts).map W.tup).length=min xs.length (min ys.length zs.length):=by simp [l1,l2,l3,Nat.min_assoc]
 refine ⟨λi H hi z=>Rn.go i H Qo z,λH z=>by rw[hl];show Rn.stop H z,λi H x H' w hw z y G2 ρ σ I O=>?_⟩;have hi:i<min xs.length (min ys.length zs.length):=by
  rw[<- hl];show (qA5.mp hw).1
 obtain ⟨p,y1,z1,t1,rfl,hp,rfl,hy,hz,ht⟩:=Rn.yld i H x H' hi z y;obtain ⟨w1,e1,q1⟩:=Reps.get' r1 hy;obtain ⟨w2,e2,q2⟩:=Reps.get' r2 hz;obtain ⟨w3,e3,q3⟩:=Reps.get' r3 ht;have a3:w=.tup [w1,w2,w3]:=by
  rw[qC1,qO6,List.zip,qO6,e1,e2,e3]at hw;cases hw;rfl
 subst a3;obtain ⟨x1,x2⟩:=ko (Hs:=H) he I hp (.cons (q1.same (S7 O)) (.cons (q2.same (S7 O)) (.cons (q3.same (S7 O)) .nil)));show ⟨_,x1,x2⟩
def aY (h:Z3 (w::ws)=.ok xs):∃y ys,K0 w=.ok y/\Z3 ws=.ok ys/\xs=y::ys:=by
 unfold Z3 at h;cases h1:K0 w with
 |stuck=>rw[h1]at h;cases h
 |ex _=>rw[h1]at h;cases h
 | ok y=>
  rw[h1]at h;cases h2:Z3 ws with
  |stuck=>rw[h2]at h;cases h
  |ex _=>rw[h2]at h;cases h
  |ok ys=>rw[h2]at h;cases h;show ⟨y,ys,rfl,rfl,rfl⟩
def Hf (he:e=.V\/e=.U) (h:tIt K EX lp e (λρ=>ma ρ>>=af) σ H Rr):CF K (tA K EX (ia lp e) ma) σ H Rr:=by
 refine df h (λH0 G ρ G1 H1 xs ws us I e1 m1 q o=>?_) (λws e z=>?_)
 .have O:=I.ext e1;unfold af at q
  split at q
  .rename_i hn
   cases hs:Z3 ws with
   |stuck=>rw[hs]at q;cases q
   |ex _=>rw[hs]at q;cases q
   | ok ls=>
    rw[hs]at q;cases q;cases m1 with
    |nil=>simp at hn
    | cons a1 m1=>
     cases m1 with
     |nil=>simp at hn
     | cons a2 m1=>
      obtain ⟨y1,ys,h1,ae,rfl⟩:=aY hs;obtain ⟨y2,ys,h2,a4,rfl⟩:=aY ae;obtain ⟨t1,p1,v1,rfl,q1,r1⟩:=Md.src he O a1 h1;obtain ⟨t2,p2,v2,rfl,q2,r2⟩:=Md.src he O a2 h2;have k1:=M7 (mK O) q1;have k2:=M7 (mK O) q2;cases m1 with
      | nil=>
       cases a4;refine ⟨[(t1,p1),(t2,p2)],rfl,.inl rfl,λu hu=>?_,o _ G1 H1 e1 (pT he q1 q2 r1 r2)⟩;simp only [qA7,qF0,qQ1]at hu;rcases hu with rfl|rfl
       .show ⟨_,k1⟩
       .show ⟨_,k2⟩
      | cons a3 m1=>
       cases m1 with
       |cons _ _=>simp at hn
       | nil=>
        obtain ⟨y3,ys,h3,b0,rfl⟩:=aY a4;cases b0;obtain ⟨t3,p3,v3,rfl,q3,r3⟩:=Md.src he O a3 h3;refine ⟨[(t1,p1),(t2,p2),(t3,p3)],rfl,.inr rfl,λu hu=>?_,o _ G1 H1 e1 (pR he q1 q2 q3 r1 r2 r3)⟩;simp only [qA7,qF0,qQ1]at hu;rcases hu with rfl|rfl|rfl
        .show ⟨_,k1⟩
        .show ⟨_,k2⟩
        .show ⟨_,M7 (mK O) q3⟩
  .cases q
 .unfold af at z
  split at z
  .split at z <;> cases z
  .cases z
def Reps.atI (r:Reps K F vs ws) (h:L2.atI ws i=some w):∃v,L2.atI vs i=some v/\Rep K F v w:=by
 unfold L2.atI at h ⊢;rw[r.length];cases q:ixN ws.length i with
 |none=>rw[q]at h;cases h
 |some j=>rw[q]at h;show Reps.get r h
def fIx:W->W->R W
 | .lst ws,.int i=>toR (L2.atI ws i)
 | .tup ws,.int i=>toR (L2.atI ws i)
 | .scr ws,.int i=>toR (L2.atI ws i)
 |_,_=>.stuck
def Bq:Op2 K .B .U (rIx K) fIx:=by
 intro EX H0 Hs G H ρ σ Ha Hb x y u v Q I s mx my o;cases u <;> first|show o.elim|skip
 all_goals (cases v <;> first|show o.elim|skip)
 .rename_i ws i
  obtain ⟨a,vs,rfl,hs,r⟩:=mx.tupB I;replace o:Out EX G H (mdW K .U H0 Hs) (toR (L2.atI ws i)) Q:=o
  cases q:L2.atI ws i with
  |none=>rw[q]at o;show o.elim
  | some w=>
   rw[q]at o;obtain ⟨v,O,rv⟩:=r.atI q;show .inr (.inl ⟨a,vs,i,v,rfl,my.intB,SqT.of hs,O,o v G H (Ext.refl I.gh) rv⟩)
 .rename_i ws i
  obtain ⟨a,vs,rfl,hs,r⟩:=mx.lstB I;replace o:Out EX G H (mdW K .U H0 Hs) (toR (L2.atI ws i)) Q:=o
  cases q:L2.atI ws i with
  |none=>rw[q]at o;show o.elim
  | some w=>
   rw[q]at o;obtain ⟨v,O,rv⟩:=r.atI q;show .inl ⟨a,vs,i,v,rfl,my.intB,SqL.of hs,O,o v G H (Ext.refl I.gh) rv⟩
 .rename_i ws i
  obtain ⟨a,vs,rfl,hs,r⟩:=mx.scrB I;replace o:Out EX G H (mdW K .U H0 Hs) (toR (L2.atI ws i)) Q:=o
  cases q:L2.atI ws i with
  |none=>rw[q]at o;show o.elim
  | some w=>
   rw[q]at o;obtain ⟨v,O,rv⟩:=r.atI q;show .inl ⟨a,vs,i,v,rfl,my.intB,hs,O,o v G H (Ext.refl I.gh) rv⟩
def Bp:Op2 K .C .V (rIx K) fIx:=by
 intro EX H0 Hs G H ρ σ Ha Hb x y u v Q I s mx my o;cases u <;> first|show o.elim|skip
 all_goals (cases v <;> first|show o.elim|skip)
 .rename_i ws i
  obtain ⟨a,vs,rfl,hs,r⟩:=mx.tupC I;replace o:Out EX G H (mdW K .V H0 Hs) (toR (L2.atI ws i)) Q:=o
  cases q:L2.atI ws i with
  |none=>rw[q]at o;show o.elim
  | some w=>
   rw[q]at o;obtain ⟨v,O,rv⟩:=r.atI q;show .inr (.inl ⟨a,vs,i,v,rfl,Md.intB (Md.CB I my),SqT.of hs,O,o v G H (Ext.refl I.gh) rv⟩)
 .rename_i ws i
  obtain ⟨a,vs,rfl,hs,r⟩:=mx.lstC I;replace o:Out EX G H (mdW K .V H0 Hs) (toR (L2.atI ws i)) Q:=o
  cases q:L2.atI ws i with
  |none=>rw[q]at o;show o.elim
  | some w=>
   rw[q]at o;obtain ⟨v,O,rv⟩:=r.atI q;show .inl ⟨a,vs,i,v,rfl,Md.intB (Md.CB I my),SqL.of hs,O,o v G H (Ext.refl I.gh) rv⟩
 .rename_i ws i
  obtain ⟨a,vs,rfl,hs,r⟩:=(Md.repC mx λ_=>W.noConfusion).inv;replace o:Out EX G H (mdW K .V H0 Hs) (toR (L2.atI ws i)) Q:=o
  cases q:L2.atI ws i with
  |none=>rw[q]at o;show o.elim
  | some w=>
    rw[q]at o;obtain ⟨v,O,rv⟩:=r.atI q;show .inl ⟨_,_,i,v,rfl,Md.intB (Md.CB I my),Same.seq I.gh hs,O,o v G H (Ext.refl I.gh) rv⟩
def N8 (K:Frag)(EX:EXT)(m:Rho->R Jv):TO:=λσ H Q=>∃H0 G ρ,PIv K H0 G ρ σ H/\Out EX G H (λ(b c:Jv) _ _=>c=b) (m ρ) Q
def gO:W->R Jv
 | .int i=>.ok (some i)
 |_=>.stuck
def uq (h:N8 K EX (λ_=>.ok none) σ H Q):tNoPart σ H Q:=by
 obtain ⟨H0,G,ρ,I,o⟩:=h;show o none G H (Ext.refl I.gh) rfl
def Em (h:N8 K EX (λρ=>m ρ>>=gO) σ H Q):uK (tM K EX .B m) σ H Q:=by
 obtain ⟨H0,G,ρ,I,o⟩:=h;refine ⟨H0,G,ρ,I,Out.bind o λx G1 H1 u e1 m1 O=>?_⟩;cases u <;> first|show O.elim|skip
 rename_i i
 show ⟨i,m1.intB,O _ G1 H1 (Ext.refl e1.gh) rfl⟩
def k7 (xs:JJ)(lo hi:Jv):JJ:=(xs.drop (HT.sIx xs.length 0 lo)).take (HT.sIx xs.length xs.length hi-HT.sIx xs.length 0 lo)
def Reps.cut (r:Reps K F vs ws) (lo hi:Jv):Reps K F (fK vs lo hi) (k7 ws lo hi):=by
 unfold fK k7;rw[r.length];show (r.drop _).take _
def lstOf:W->Option JJ
 | .lst ws=>some ws
 | .scr ws=>some ws
 |_=>none
def chks (c:Bool)(ws:JJ):R W:=if c||u6 ws then .ok (.lst ws) else .stuck
def cb (c:Bool):Mode:=if c then .C else .B
def Md.lstOf (I:PIv K H0 G ρ σ H) (m:Md K H0 Ha G H x w (cb c)) (h:lstOf w=some ws):∃a vs,x=.ref a/\SqL K H a vs/\Reps K (if c then G else join H0 G) vs ws:=by
 cases c with
 | true=>
  rw[qA9 rfl];cases w <;> first|cases h|skip
  .obtain ⟨a,vs,e,O,r⟩:=Md.lstC (H:=Ha) I m;show ⟨a,vs,e,SqL.of O,r⟩
  .obtain ⟨a,vs,e,O,r⟩:=(Md.repC m λ_=>W.noConfusion).inv;show ⟨a,vs,e,Same.seq I.gh O,r⟩
 | false=>
  rw[qB4 qC0];cases w <;> first|cases h|skip
  .obtain ⟨a,vs,e,O,r⟩:=Md.lstB (H:=Ha) I m;show ⟨a,vs,e,SqL.of O,r⟩
  .show Md.scrB (H:=Ha) I m
def Out.chks {Q:VK}(I:PIv K H0 G ρ σ H) (s:Same Hs H) (r:Reps K (if c then G else join H0 G) vs ws) (o:Out EX G H (mdW K .F H0 Hs) (chks c ws) Q):∀p,H p=none->Q (.ref p) (upd H p (.lst vs)):=by
 unfold TP.chks at o;by_cases n:(c||u6 ws)=true
 .rw [qA9 n]at o
  have O:Reps K G vs ws:=by
   cases c with
   |true=>rw[qA9 rfl]at r;show r
   |false=>rw[qB4 qC0]at r;show Reps.clean I r (by simpa using n)
  show λp hp=>Out.newL I s O hp o
 .rw[qB4 n]at o;show o.elim
def c_sl (h:tM K EX .F (λρ=>m ρ>>=λx=>ml ρ>>=λl=>mh ρ>>=λu=>toR (lstOf x)>>=λws=>chks c (k7 ws l u)) σ H Q):
  tSl (Ax K) (tM K EX (cb c) m) (N8 K EX ml) (N8 K EX mh) σ H Q:=by
 obtain ⟨H0,G,ρ,I,o⟩:=h;refine ⟨H0,G,ρ,I,Out.bind o λx G1 H1 w O m1 o1=>⟨H0,G1,ρ,I.ext O,Out.bind o1 λl' G2 H2 l e2 m2 o2=>⟨H0,G2,ρ,(I.ext O).ext e2,Out.bind o2 λu' G3 H3 u e3 m3 o3=>?_⟩⟩⟩;subst m2;subst m3;have I3:=((I.ext O).ext e2).ext e3;cases q:lstOf w with
 |none=>rw[q]at o3;show o3.elim
 | some ws=>
  rw[q]at o3;obtain ⟨a,vs,ex,hs,r⟩:=Md.lstOf I3 ((m1.move e2).move e3) q;refine ⟨a,vs,ex,hs,Out.chks I3 ((O.hh.trans e2.hh).trans e3.hh) (c:=c) ?_ o3⟩;cases c with
  |true=>rw[qA9 rfl]at r ⊢;show r.cut _ _
  |false=>rw[qB4 qC0]at r ⊢;show r.cut _ _
def Cal (K:Frag) (b d:Mode) (r:List V->Hp->VK->Prop) (f:List W->R W):Prop:=∀(EX:EXT) (H0 Hs G H:Hp) (ρ:Rho) (σ:St) (I:Hp) (vs:List V) (ws:JJ) (Q:VK),PIv K H0 G ρ σ H->Same Hs H->MdA K b H0 I G H ws vs ->
 Out EX G H (mdW K d H0 Hs) (f ws) Q->r vs H Q
def Ex (hr:Cal K b d r f) (h:tM K EX d (λρ=>ma ρ>>=λws=>f ws) σ H Q):tCB r (tA K EX b ma) σ H Q:=by
 obtain ⟨H0,G,ρ,I,o⟩:=h;show ⟨H0,G,ρ,I,Out.bind o λxs G1 H1 ws O m1 o1=>hr EX H0 H G1 H1 ρ σ H xs ws Q (I.ext O) O.hh m1 o1⟩
def fLen:List W->R W
 | [w]=>K0 w>>=λws=>.ok (.int ws.length)
 |_=>.stuck
def U7:Cal K .B d (λxs H Q=>∃p ys,xs = [.ref p]/\(SqL K H p ys\/SqT K H p ys)/\Q (.int ys.length) H) fLen:=by
 intro EX H0 Hs G H ρ σ Ha vs ws Q I s m o;cases m with
 |nil=>show o.elim
 | cons a t=>
  cases t with
  |cons _ _=>show o.elim
  | nil=>
   rename_i w v
   cases w <;> first|show o.elim|skip
   .obtain ⟨p,ys,rfl,O,r⟩:=a.tupB I;show ⟨p,ys,rfl,.inr (SqT.of O),by rw[r.length];show o _ G H (Ext.refl I.gh) (Md.sca rfl (λ_=>.int) d)⟩
   .obtain ⟨p,ys,rfl,O,r⟩:=a.lstB I;show ⟨p,ys,rfl,.inl (SqL.of O),by rw[r.length];show o _ G H (Ext.refl I.gh) (Md.sca rfl (λ_=>.int) d)⟩
   .obtain ⟨p,ys,rfl,O,r⟩:=a.scrB I;show ⟨p,ys,rfl,.inl O,by rw[r.length];show o _ G H (Ext.refl I.gh) (Md.sca rfl (λ_=>.int) d)⟩
def vy (c:Bool):List W->R W
 | [w]=>K0 w>>=chks c
 |_=>.stuck
def Y6 (c:Bool)(ws:JJ):R W:=if c||u6 ws then .ok (.tup ws) else .stuck
def jj (c:Bool):List W->R W
 | [w]=>K0 w>>=Y6 c
 |_=>.stuck
def vE:Cal K (cb c) .F (λxs H Q=>∃p ys,xs = [.ref p]/\((SqL K H p ys/\∀l,H l=none->Q (.ref l) (upd H l (.tup ys)))\/(SqT K H p ys/\Q (.ref p) H))) (jj c):=by
 intro EX H0 Hs G H ρ σ Ha vs ws Q I s m o;have a3:∀{vs:List V}{us:JJ},Reps K (if c then G else join H0 G) vs us->Out EX G H (mdW K .F H0 Hs) (Y6 c us) Q->Reps K G vs us/\Out EX G H (mdW K .F H0 Hs) (.ok (.tup us)) Q:=λ{vs us} r o=>by
  unfold Y6 at o;by_cases n:(c||u6 us)=true
  .rw [qA9 n]at o
   refine ⟨?_,o⟩;cases c with
   |true=>rw[qA9 rfl]at r;show r
   |false=>rw[qB4 qC0]at r;show Reps.clean I r (by simpa using n)
  .rw[qB4 n]at o;show o.elim
 cases m with
 |nil=>show o.elim
 | cons a t=>
  cases t with
  |cons _ _=>show o.elim
  | nil=>
   rename_i w v
   cases w <;> first|show o.elim|skip
   .rename_i us
    have hx:∃p ys,v=.ref p/\(if c then G else join H0 G) p=some (.tup ys)/\Reps K (if c then G else join H0 G) ys us:=by
     cases c with
     |true=>rw[qA9 rfl];show (Md.repC a λ_=>W.noConfusion).inv
     |false=>rw[qB4 qC0];show (Md.repB a λ_=>W.noConfusion).inv
    obtain ⟨p,ys,rfl,O,r⟩:=hx;obtain ⟨r',o'⟩:=a3 r o;have hH:H p=some (.tup ys):=by
     cases c with
     |true=>rw[qA9 rfl]at O;show I.gh _ _ O
     |false=>rw[qB4 qC0]at O;show I.join_H _ _ O
    have hG:G p=some (.tup ys):=by
     cases c with
     |true=>rw[qA9 rfl]at O;show O
     | false=>
      rw[qB4 qC0]at O;unfold join at O;cases q:H0 p with
      |none=>rw[q]at O;show O
      | some u=>
       rw[q]at O;dsimp only at O;by_cases hl:isL u=true
       .rw[qA9 hl]at O;cases O;cases hl
       .rw[qB4 hl]at O;show O
    show ⟨p,ys,rfl,.inr ⟨SqT.of hH,o' _ G H (Ext.refl I.gh) (.tup hG r')⟩⟩
   .obtain ⟨p,ys,rfl,hs,r⟩:=Md.lstOf I a rfl;obtain ⟨r',o'⟩:=a3 r o;show ⟨p,ys,rfl,.inl ⟨hs,λl hl=>Out.newTF I r' hl o'⟩⟩
   .obtain ⟨p,ys,rfl,hs,r⟩:=Md.lstOf I a rfl;obtain ⟨r',o'⟩:=a3 r o;show ⟨p,ys,rfl,.inl ⟨hs,λl hl=>Out.newTF I r' hl o'⟩⟩
def f2 (g:Int->Int->Int):List W->R W
 | [.int i,.int j]=>.ok (.int (g i j))
 |_=>.stuck
def tyW:W->Option String
 | .non=>some "NoneType"
 | .bl _=>some "bool"
 | .int _=>some "int"
 | .str _=>some "str"
 | .tup _=>some "tuple"
 | .lst _=>some "list"
 |_=>none
def fIsi:List W->R W
 | [x,.ty T]=>toR ((tyW x).bind λA=>t7 A T)>>=λb=>.ok (.bl b)
 |_=>.stuck
def zp (I:PIv K H0 G ρ σ H) (m:Md K H0 Ha G H v w .B) (h:tyW w=some A):L2.tyB H v=some A:=by
 cases w <;> first|cases h|skip
 .rw[m.nonB];rfl
 .rw[m.blB];rfl
 .rw[m.intB];rfl
 .rw[m.strB];rfl
 .obtain ⟨a,vs,rfl,O,r⟩:=m.tupB I
  change L2.tyO (H a)=_;rw[O];rfl
 .obtain ⟨a,vs,rfl,O,r⟩:=m.lstB I
  change L2.tyO (H a)=_;rw[O];rfl
def HC:Cal K .B d rIsi fIsi:=by
 intro EX H0 Hs G H ρ σ Ha vs ws Q I s m o;cases m with
 |nil=>show o.elim
 | @cons x _ _ _ a t=>
  cases t with
  |nil=>show o.elim
  | @cons y _ _ _ b t=>
   cases t with
   |cons _ _=>first|show o.elim | (cases y <;> show o.elim)
   | nil=>
    cases y <;> first|show o.elim|skip
    rename_i T
    replace o:Out EX G H (mdW K d H0 Hs) (toR ((tyW x).bind λA=>t7 A T)>>=λb=>.ok (.bl b)) Q:=o
    cases q:tyW x with
    |none=>rw[q]at o;show o.elim
    | some A=>
     rw[q]at o;replace o:Out EX G H (mdW K d H0 Hs) (toR (t7 A T)>>=λb=>.ok (.bl b)) Q:=o
     cases O:t7 A T with
     |none=>rw[O]at o;show o.elim
     | some c=>
      rw[O]at o;show ⟨_,T,by rw[b.tyB],A,zp I a q,c,O,o _ G H (Ext.refl I.gh) (Md.sca rfl (λ_=>.bl) d)⟩
def u7 (c:Bool):W->W->R W
 | .lst us,.lst vs=>if us.length+vs.length<=1000 then chks c (us++vs) else .stuck
 |_,_=>.stuck
def j8:Op2 K (cb c) .F rCat (u7 c):=by
 intro EX H0 Hs G H ρ σ Ha Hb x y u v Q I s O my o;cases u <;> first|show o.elim|skip
 all_goals (cases v <;> first|show o.elim|skip)
 rename_i us vs
 replace o:Out EX G H (mdW K .F H0 Hs) (if us.length+vs.length<=1000 then chks c (us++vs) else .stuck) Q:=o
 by_cases hn:us.length+vs.length<=1000
 .rw [qA9 hn]at o
  have h1:∃a ws,x=.ref a/\H a=some (.lst ws)/\Reps K (if c then G else join H0 G) ws us:=by
   cases c with
   |true=>show Md.lstC (H:=Ha) I O
   |false=>show Md.lstB (H:=Ha) I O
  have h2:∃a ws,y=.ref a/\H a=some (.lst ws)/\Reps K (if c then G else join H0 G) ws vs:=by
   cases c with
   |true=>show Md.lstC (H:=Hb) I my
   |false=>show Md.lstB (H:=Hb) I my
  obtain ⟨a,xs,rfl,ha,ra⟩:=h1;obtain ⟨b,ys,rfl,hb,rb⟩:=h2;show ⟨a,b,xs,ys,rfl,rfl,ha,hb,by rw[ra.length,rb.length];show aK hn,Out.chks I s (ra.append rb) o⟩
 .rw[qB4 hn]at o;show o.elim
def Reps.rep (r:Reps K F vs ws):∀k:Nat,Reps K F (List.replicate k vs).flatten (List.replicate k ws).flatten
 |0=>.nil
 |k+1=>by rw[qF5,qF5,qE4,qE4];show r.append (Reps.rep r k)
def mO (c:Bool):W->W->R W
 | .lst us,.int k=>if us.length*k.toNat<=1000 /\ -1000<=k/\k<=1000 then chks c (List.replicate k.toNat us).flatten else .stuck
 |_,_=>.stuck
def Bm:Op2 K (cb c) .F rRep (mO c):=by
 intro EX H0 Hs G H ρ σ Ha Hb x y u v Q I s O my o;cases u <;> first|show o.elim|skip
 all_goals (cases v <;> first|show o.elim|skip)
 rename_i us k
 replace o:Out EX G H (mdW K .F H0 Hs) (if us.length*k.toNat<=1000 /\ -1000<=k/\k<=1000 then chks c (List.replicate k.toNat us).flatten else .stuck) Q:=o
 by_cases hn:us.length*k.toNat<=1000 /\ -1000<=k/\k<=1000
 .rw [qA9 hn]at o
  have h1:∃a ws,x=.ref a/\H a=some (.lst ws)/\Reps K (if c then G else join H0 G) ws us:=by
   cases c with
   |true=>show Md.lstC (H:=Ha) I O
   |false=>show Md.lstB (H:=Ha) I O
  have h2:y=.int k:=by
   cases c with
   |true=>show Md.intB (Md.CB (H:=Hb) I my)
   |false=>show Md.intB (H:=Hb) my
  obtain ⟨a,xs,rfl,ha,ra⟩:=h1;subst h2;show ⟨a,k,xs,rfl,rfl,ha,Qo,Qo,by rw[ra.length];show aK hn.1,Out.chks I s (ra.rep _) o⟩
 .rw[qB4 hn]at o;show o.elim
def mC (w:W):JV:=λ_=>.ok w
def b1 (f:W->R W)(ma:JV):JV:=λρ=>ma ρ>>=λx=>f x
def b2 (f:W->W->R W)(ma mb:JV):JV:=λρ=>ma ρ>>=λx=>mb ρ>>=λy=>f x y
def bA (f:List W->R W)(ma:JK):JV:=λρ=>ma ρ>>=λws=>f ws
def bI (f:List W->R JJ)(ma:JK):JK:=λρ=>ma ρ>>=f
def bS (ma:JV):JK:=λρ=>ma ρ>>=K0
def aN:JK:=λ_=>.ok []
def aC (ma:JV)(I:JK):JK:=λρ=>ma ρ>>=λx=>I ρ>>=λxs=>.ok (x::xs)
def bB (ma:JV):JV:=λρ=>ma ρ>>=chk
def d9 (ma:JV):JX:=λρ=>ma ρ>>=toB
def dE (a b:JX):JX:=λρ=>fe (a ρ) (b ρ)
def aW (a b:JX):JX:=λρ=>rOr (a ρ) (b ρ)
def T4 (a:JX):JX:=λρ=>lP (a ρ)
def cZ (a b:JV):JV:=λρ=>cE (a ρ) (b ρ)
def vOr (a b:JV):JV:=λρ=>ip (a ρ) (b ρ)
def qW (a:JV):JV:=λρ=>gG (a ρ)
def vIf (c:JX)(a b:JV):JV:=λρ=>c ρ>>=λt=>if t then a ρ else b ρ
def dB (f I:W->W->R W)(ma mb mc:JV):JV:=λρ=>ma ρ>>=λx=>mb ρ>>=λy=>f x y>>=λz=>toB z>>=λc=>if c then mc ρ>>=λu=>I y u else .ok (.bl false)
def cY (ma:JK):JV:=λρ=>ma ρ>>=λws=>lim ws.length (.tup ws)
def k9 (ma:JK):JV:=λρ=>ma ρ>>=λws=>lim ws.length (.lst ws)
def pN:Rho->R Jv:=λ_=>.ok none
def pS (m:JV):Rho->R Jv:=λρ=>m ρ>>=gO
def vSl (c:Bool)(m:JV)(ml I:Rho->R Jv):JV:=λρ=>m ρ>>=λx=>ml ρ>>=λl=>I ρ>>=λu=>toR (lstOf x)>>=λws=>chks c (k7 ws l u)
def J9 (n:Nat)(I:JK)(mg:JY)(mc:JX)(me:JV):JV:=λρ=>I ρ>>=λws=>U5 n mg mc me ws ρ
def yes:JX:=λ_=>.ok true
def sNx:JW:=λρ=>.ok (.nx ρ)
def gF (m:JV):JW:=λρ=>m ρ>>=λ_=>.ok (.nx ρ)
def i3 (m:JV):JW:=λρ=>m ρ>>=λw=>.ok (.rt w)
def FA:JW:=λ_=>.ok (.rt .non)
def sV (i:Nat)(m:JV):JW:=λρ=>m ρ>>=λw=>.ok (.nx (ρ.set i (.val w)))
def sU (i:Nat)(m:JV):JW:=λρ=>m ρ>>=λw=>.ok (.nx (ρ.set i (.par w)))
def sF (i:Nat)(m:JV):JW:=λρ=>m ρ>>=λw=>.ok (.nx (ρ.set i (L7 w)))
def sG (mg:JY)(m:JV):JW:=λρ=>m ρ>>=λw=>toR (mg w ρ)>>=λI=>.ok (.nx I)
def V4 (I:JK)(mg:JY)(mb:JW):JW:=λρ=>I ρ>>=λws=>C3 mg mb ws ρ
def ij (i:Nat)(m:JW):JW:=λρ=>m (frz i ρ)
def sBk:JW:=λρ=>.ok (.bk ρ)
def sCt:JW:=λρ=>.ok (.ct ρ)
def _root_.L2.PE.mono {X:Cx}{e:Expr}{t t':TE}(h:PE X e t)(hm:∀σ H Q,t' σ H Q->t σ H Q):PE X e t':=λpins s σ H Q I q=>h pins s σ H Q I (hm σ H Q q)
def _root_.L2.PT.mono {X:Cx}{e:Expr}{t t':TT}(h:PT X e t)(hm:∀σ H Q,t' σ H Q->t σ H Q):PT X e t':=λpins s σ H Q I q=>h pins s σ H Q I (hm σ H Q q)
def _root_.L2.PW.mono {X:Cx}{e:Expr}{t t':TT}(h:PW X e t)(hm:∀σ H Q,t' σ H Q->t σ H Q):PW X e t':=λO pins s σ H Q I q=>h O pins s σ H Q I (hm σ H Q q)
def _root_.L2.PA.mono {X:Cx}{es:Jx}{t t':TA}(h:PA X es t)(hm:∀σ H Q,t' σ H Q->t σ H Q):PA X es t':=λpos pins s σ H Q I q=>h pos pins s σ H Q I (hm σ H Q q)
def _root_.L2.PS.mono {X:Cx}{st:Stmt}{t t':TS}(h:PS X st t)(hm:∀D σ H,t' D σ H->t D σ H):PS X st t':=λpins s σ H D I q=>h pins s σ H D I (hm D σ H q)
def _root_.L2.PSs.mono {X:Cx}{O:Jo}{t t':TS}(h:PSs X O t)(hm:∀D σ H,t' D σ H->t D σ H):PSs X O t':=λpins s σ H D I q=>h pins s σ H D I (hm D σ H q)
def _root_.L2.PI.mono {X:Cx}{e:Expr}{tg:Expr}{t t':TI}(h:PI X tg e t)(hm:∀σ H Q,t' σ H Q->t σ H Q):PI X tg e t':=λpins s σ H Q I q=>h pins s σ H Q I (hm σ H Q q)
def _root_.L2.PO.mono {X:Cx}{O:Option Expr}{t t':TO}(h:PO X O t) (hm:∀σ H Q,t' σ H Q->t σ H Q):PO X O t':=by
 intro pins s σ H Q I q;show h pins s σ H Q I (hm σ H Q q)
def i0 (h:PE X e (tM K EX .F ma)):PE X e (tM K EX .V ma):=h.mono λ_ _ _ q=>xj q
def iw {X:Cx}{K:Frag}{EX:EXT}{e:Expr}{ma:JV}(h:PE X e (tM K EX .V ma)):PE X e (tM K EX .U ma):=h.mono λ_ _ _ q=>xg q
def AN (h:PE X e (tM K EX .V ma)):PE X e (tM K EX .C ma):=h.mono λ_ _ _ q=>xh q
def d8 (h:PE X e (tM K EX .F ma)):PE X e (tM K EX .C ma):=h.mono λ_ _ _ q=>xk q
def t6 (h:PE X e (tM K EX .U ma)):PE X e (tM K EX .B ma):=h.mono λ_ _ _ q=>xi q
def w4 (h:PE X e (tM K EX .C ma)):PE X e (tM K EX .B ma):=h.mono λ_ _ _ q=>xl q
def dN (h:PE X e (tM K EX .U ma)):PE X e (tM K EX .V (bB ma)):=h.mono λ_ _ _ q=>iT (.inr rfl) q
def oz {X:Cx}{K:Frag}{EX:EXT}{e:Expr}{ma:JV}(h:PE X e (tM K EX .U ma)):PE X e (tM K EX .F (bB ma)):=h.mono λ_ _ _ q=>iT (.inl rfl) q
def qv {X:Cx}{K:Frag}{EX:EXT}{pos:Pos}(d:Mode)(i:Nat){x:Str}(hN:X.N[i]?=some x:=by rfl)(O:Vis X.env.scope x:=by first|show Or.inl rfl|show Or.inr (Or.inl rfl)|show Or.inr (Or.inr rfl))(hd:(x == ("__debug__" : Str))=false:=by decide)(I:(x == ("__classdict__" : Str))=false:=by decide):PE X (.Name x pos) (tM K EX d (a6 d i)):=(t8 hN O hd I).mono λ_ _ _ q=>mU q
def a8 {i j}:PE X (.Constant (.int i) j pos) (tM K EX d (mC (.int i))):=pe_int.mono λ_ _ _ q=>N7 rfl (λ_=>.int) q
def dj {t j}:PE X (.Constant (.bool t) j pos) (tM K EX d (mC (.bl t))):=pe_bl.mono λ_ _ _ q=>N7 rfl (λ_=>.bl) q
def cF {j}:PE X (.Constant .none j pos) (tM K EX d (mC .non)):=pe_non.mono λ_ _ _ q=>N7 rfl (λ_=>.non) q
def c8 {X:Cx}{K:Frag}{EX:EXT}{d:Mode}{pos:Pos}{x j}:PE X (.Constant (.str x) j pos) (tM K EX d (mC (.str x))):=pe_str.mono λ_ _ _ q=>N7 rfl (λ_=>.str) q
def aB {X:Cx}{K:Frag}{EX:EXT}{d:Mode}{pos:Pos}{x:Str}{i:Int}{t:Tok}(I:Gl X x) (hm:X.mg x=some (.int i t)) (hd:(x == ("__debug__" : Str))=false:=by decide):PE X (.Name x pos) (tM K EX d (mC (.int i))):=
 (cG (v:=.int i) I hm ⟨t,rfl⟩ hd).mono λ_ _ _ q=>N7 rfl (λ_=>.int) q
def AD {X:Cx}{K:Frag}{EX:EXT}{d:Mode}{pos:Pos}{x:Str}{n:String}(O:Gl X x) (hm:X.mg x=none) (I:bootBuiltins x=some (.type n)) (hn:x ≠ "__name__" := by decide) (hd:(x == ("__debug__" : Str))=false:=by decide):PE X (.Name x pos) (tM K EX d (mC (.ty n))):=
 (wT (v:=.ty n) O hm I rfl hn hd).mono λ_ _ _ q=>N7 rfl (λ_=>.ty) q
def b9 (I:OpR X (binaryOp op) r) (O:Op2 K b d r f) (ha:PE X a (tM K EX b ma)) (hb:PE X c (tM K EX b mb)):PE X (.BinOp a op c pos) (tM K EX d (b2 f ma mb)):=
 (FU I ha hb).mono λ_ _ _ q=>dy O q
def dL {X:Cx}{K:Frag}{EX:EXT}{d b:Mode}{a c:Expr}{pos:Pos}{ma mb:JV}{I:CmpOp}{r:R2}{f:W->W->R W}(ho:OpR X (compareOp I) r) (O:Op2 K b d r f) (ha:PE X a (tM K EX b ma)) (hb:PE X c (tM K EX b mb)) (hm:behindInMarks I c=false:=by first|show dU _|rfl):PE X (.Compare a [I] [c] pos) (tM K EX d (b2 f ma mb)):=
 (wS ho ha hb hm).mono λ_ _ _ q=>dy O q
def e8 {X:Cx}{K:Frag}{EX:EXT}{b:Mode}{a c:Expr}{pos:Pos}{ma mb:JV}{O:CmpOp}{r:R2}{f:W->W->R W}(ho:OpR X (compareOp O) r) (hr:Op2 K b .B r f) (ha:PE X a (tM K EX b ma)) (hb:PE X c (tM K EX b mb)) (hm:behindInMarks O c=false:=by first|show dU _|rfl):PT X (.Compare a [O] [c] pos) (tT K EX (d9 (b2 f ma mb))):=
 (kI ho ha hb hm).mono λσ H Q q=>by
  obtain ⟨H0,G,ρ,I,o⟩:=q
  have:=jx (ma:=b2 f ma mb) ⟨H0,G,ρ,I,o⟩
  show dy hr this
def ai (I:UnR X (unaryOp op) r) (O:Op1 K b d r f) (ha:PE X a (tM K EX b ma)):PE X (.UnaryOp op a pos) (tM K EX d (b1 f ma)):=
 (va I ha).mono λ_ _ _ q=>ul O q
def bb {X:Cx}{K:Frag}{EX:EXT}{a:Expr}{ma:JV}(ha:PE X a (tM K EX .B ma)) (I:∀whole,isTrue a X.env whole=(do let v <- whole;standAt a.pos;holding [v] (truthy v)):=by intro _;rfl):PT X a (tT K EX (d9 ma)):=
 (AS ha I).mono λ_ _ _ q=>c_tB q
def kx (ha:PT X a (tT K EX ta)):PW X (.BoolOp .And [a] pos) (tT K EX ta):=wH ha
def X4 (ha:PT X a (tT K EX ta)):PW X (.BoolOp .Or [a] pos) (tT K EX ta):=AQ ha
def on {rest:Jx}(ha:PT X a (tT K EX ta))(I:PW X (.BoolOp .And (b::rest) pos) (tT K EX tb)):PW X (.BoolOp .And (a::b::rest) pos) (tT K EX (dE ta tb)):=(AR ha I).mono λ_ _ _ q=>HB q
def bd {rest:Jx}(ha:PT X a (tT K EX ta))(I:PW X (.BoolOp .Or (b::rest) pos) (tT K EX tb)):PW X (.BoolOp .Or (a::b::rest) pos) (tT K EX (aW ta tb)):=(FO ha I).mono λ_ _ _ q=>c_or q
def V0 (ha:PT X a (tT K EX ta)):PT X (.UnaryOp .Not a pos) (tT K EX (T4 ta)):=(AT ha).mono λ_ _ _ q=>Hq q
def gJ {op}(h:PE X a (tM K EX d ma)):PE X (.BoolOp op [a] pos) (tM K EX d ma):=Bc h
def dO {rest:Jx}(ha:PE X a (tM K EX .B ma))(I:PE X (.BoolOp .And (b::rest) pos) (tM K EX d mb)):PE X (.BoolOp .And (a::b::rest) pos) (tM K EX d (cZ ma mb)):=(Bf ha I).mono λ_ _ _ q=>Ez q
def FL (ha:PE X a (tM K EX .B ma)):PE X (.UnaryOp .Not a pos) (tM K EX d (qW ma)):=(Bd ha).mono λ_ _ _ q=>En q
def q_if (ht:PT X t (tT K EX ta))(ha:PE X a (tM K EX d ma))(I:PE X c (tM K EX d mb)):PE X (.IfExp t a c pos) (tM K EX d (vIf ta ma mb)):=(sC ht ha I).mono λ_ _ _ q=>c_if q
def sf {X:Cx}{K:Frag}{EX:EXT}{b:Mode}{pos:Pos}{ma mb mc:JV}{op O:CmpOp}{r r':R2}{f f':W->W->R W}{x y z:Expr}(ho:OpR X (compareOp op) r) (hr:Op2 K b .B r f) (a4:OpR X (compareOp O) r') (a3:Op2 K b .B r' f') (ha:PE X x (tM K EX b ma)) (hb:PE X y (tM K EX b mb)) (hc:PE X z (tM K EX b mc)) (hm:lastMarks [op,O] [y,z]=false:=by with_unfolding_all rfl):PT X (.Compare x [op,O] [y,z] pos) (tT K EX (d9 (dB f f' ma mb mc))):=
 (sr ho a4 ha hb hc hm).mono λσ H Q q=>by
  obtain ⟨H0,G,ρ,I,o⟩:=q
  have:=jx (ma:=dB f f' ma mb mc) ⟨H0,G,ρ,I,o⟩
  show yu hr a3 this
def a7 {X:Cx}{K:Frag}{EX:EXT}{d:Mode}:PA X [] (tA K EX d aN):=pa_nil.mono λ_ _ _ q=>Hr q
def a5 {X:Cx}{K:Frag}{EX:EXT}{d:Mode}{e:Expr}{es:Jx}{ma:JV}{I:JK}(ha:PE X e (tM K EX d ma))(O:PA X es (tA K EX d I))(hs:starEach (e::es) X.env=(false,eval e X.env)::starEach es X.env:=by rfl):PA X (e::es) (tA K EX d (aC ma I)):=(F7 ha O hs).mono λ_ _ _ q=>jy q
def lR {x1}(h:PA X es (tA K EX .V mr)):PE X (.Tuple es x1 pos) (tM K EX .F (cY mr)):=(oP h).mono λ_ _ _ q=>Hi q
def AE {x1}(h:PA X es (tA K EX .U mr)):PE X (.Tuple es x1 pos) (tM K EX .U (cY mr)):=(oP h).mono λ_ _ _ q=>Ec q
def i6 {X:Cx}{K:Frag}{EX:EXT}{es:Jx}{pos:Pos}{I:JK}(h:PA X es (tA K EX .V I)):PE X (.List es pos) (tM K EX .F (k9 I)):=(oR h).mono λ_ _ _ q=>Ht q
def j0 {X:Cx}{K:Frag}{EX:EXT}{a c:Expr}{pos:Pos}{ma mb:JV}(ha:PE X a (tM K EX .B ma)) (hb:PE X c (tM K EX .B mb)) (O:aO c:=by show λ_ _=>rfl) (I:X.K=K:=by rfl):PE X (.Subscript a c pos) (tM K EX .U (b2 fIx ma mb)):=by
 subst I;show (gL pQ ha hb O).mono λ_ _ _ q=>dy Bq q
def x5 {X:Cx}{K:Frag}{EX:EXT}{a c:Expr}{pos:Pos}{ma mb:JV}(ha:PE X a (tM K EX .C ma)) (hb:PE X c (tM K EX .C mb)) (O:aO c:=by show λ_ _=>rfl) (I:X.K=K:=by rfl):PE X (.Subscript a c pos) (tM K EX .V (b2 fIx ma mb)):=by
 subst I;show (gL pQ ha hb O).mono λ_ _ _ q=>dy Bp q
def o6:PO X none (N8 K EX pN):=po_none.mono λ_ _ _ q=>uq q
def j3 (h:PE X e (tM K EX .B ma)):PO X (some e) (N8 K EX (pS ma)):=(wL h).mono λ_ _ _ q=>Em q
def v6 {X:Cx}{K:Frag}{EX:EXT}{e:Expr}{pos:Pos}{ma:JV}(k:Bool){lo hi:Option Expr}{p2:Pos}{ml I:Rho->R Jv}(he:PE X e (tM K EX (cb k) ma)) (hl:PO X lo (N8 K EX ml)) (hu:PO X hi (N8 K EX I)) (O:X.K=K:=by rfl):PE X (.Subscript e (.Slice lo hi none p2) pos) (tM K EX .F (vSl k ma ml I)):=by
 subst O;show (iC wc he hl hu).mono λ_ _ _ q=>c_sl q
def B3 {X:Cx}{K:Frag}{EX:EXT}{d b:Mode}{e:Expr}{es:Jx}{pos:Pos}{mr:JK}{x:Str}{id:String}{r:List V->Hp->VK->Prop}{f:List W->R W}{p:Pos}(hc:B6 X (.builtin id) r) (hr:Cal K b d r f) (hg:Gl X x) (hm:X.mg x=none) (hv:bootBuiltins x=some (.builtin id)) (ha:PA X (e::es) (tA K EX b mr)) (hn:x ≠ "__name__" := by decide) (I:(x == ("__debug__" : Str))=false:=by decide) (he:starEach (e::es) X.env=(false,eval e X.env)::starEach es X.env:=by rfl) (O:(backTo pos (starEach es X.env)).any (·.1)=false:=by rfl):
  PE X (.Call (.Name x p) (e::es) [] pos) (tM K EX d (bA f mr)):=(iD hc hg hm hv ha hn I he O).mono λ_ _ _ q=>Ex hr q
def bT {X:Cx}{K:Frag}{EX:EXT}{d b:Mode}{e:Expr}{es:Jx}{pos:Pos}{mr:JK}{x:Str}{T:String}{r:List V->Hp->VK->Prop}{f:List W->R W}{p:Pos}(hc:B6 X (.type T) r) (hr:Cal K b d r f) (hg:Gl X x) (hm:X.mg x=none) (hv:bootBuiltins x=some (.type T)) (ha:PA X (e::es) (tA K EX b mr)) (hn:x ≠ "__name__" := by decide) (I:(x == ("__debug__" : Str))=false:=by decide) (he:starEach (e::es) X.env=(false,eval e X.env)::starEach es X.env:=by rfl) (O:(backTo pos (starEach es X.env)).any (·.1)=false:=by rfl):
  PE X (.Call (.Name x p) (e::es) [] pos) (tM K EX d (bA f mr)):=(fY hc hg hm hv ha hn I he O).mono λ_ _ _ q=>Ex hr q
def U8 (I:X.K=K:=by rfl):B6 X (.builtin "len") (λxs H Q=>∃p ys,xs = [.ref p]/\(SqL K H p ys\/SqT K H p ys)/\Q (.int ys.length) H):=by subst I;show jv
def vH (I:X.K=K:=by rfl):B6 X (.type "tuple") (λxs H Q=>∃p ys,xs = [.ref p]/\((SqL K H p ys/\∀l,H l=none->Q (.ref l) (upd H l (.tup ys)))\/(SqT K H p ys/\Q (.ref p) H))):=by subst I;show gD
def k6 {X:Cx}{K:Frag}{d:Mode}{e:Expr}{es:Jx}{pos:Pos}{mr:JK}{k:Nat}{f:Addr}{fd:FuncData}{ps:Jk}{x:Str}{p:Pos}{n N:Nat}{m:JW}(F:FnOk X.prog X.w X.K X.mg X.base CX0 k f fd ps (spM K n d (i5 n N m))) (hd:d=.F\/d=.V) (hr:Room k X.A) (hg:Gl X x) (hm:X.mg x=some (.ref f)) (hk:PySem.W.keepIn X.K (.ref f)=true) (hb:Binds X.K fd ps []) (ha:PA X (e::es) (tA K (λ_ _=>False) .B mr)) (I:(x == ("__debug__" : Str))=false:=by decide) (he:starEach (e::es) X.env=(false,eval e X.env)::starEach es X.env:=by rfl) (O:(backTo pos (starEach es X.env)).any (·.1)=false:=by rfl):
  PE X (.Call (.Name x p) (e::es) [] pos) (tM K (λ_ _=>False) d (bA (i5 n N m) mr)):=
 (P5 F hr hg hm hk hb .nil gM ha I he O).mono λ_ _ _ q=>Ey hd (λws h=>X3 ws h) (λ_ _ z=>z) q
def uW (h:PE X e (tM K EX (ia lp .U) ma))(I:X.K=K:=by rfl):PI X tg e (tIt K EX lp .U (bS ma)):=by subst I;show (uZ h).mono λ_ _ _ q=>Hv (.inr rfl) q
def bQ {X:Cx}{K:Frag}{EX:EXT}{a:Expr}{pos:Pos}{I:JK}{tg:Expr}{lp:Bool}{p:Pos}(O:Gl X "range") (hm:X.mg "range" = none) (ha:PA X [a] (tA K EX .B I)) (hs:starEach [a] X.env = [(false,eval a X.env)]:=by rfl):PI X tg (.Call (.Name "range" p) [a] [] pos) (tIt K EX lp .U (bI bM I)):=
 (oO O hm ha hs).mono λ_ _ _ q=>Ej (.inr rfl) q
def FJ {X:Cx}{K:Frag}{EX:EXT}{a:Expr}{es:Jx}{pos:Pos}{O:JK}{lp:Bool}{elts:Jx}{p tp:Pos}{k:Nat}(hg:Gl X "zip") (hm:X.mg "zip" = none) (ha:PA X (a::es) (tA K EX (ia lp .U) O)) (hK:X.K=K:=by rfl) (hs:starEach (a::es) X.env=(false,eval a X.env)::starEach es X.env:=by rfl) (I:(backTo pos (starEach es X.env)).any (·.1)=false:=by rfl):
  PI X (.Tuple elts k tp) (.Call (.Name "zip" p) (a::es) [] pos) (tIt K EX lp .U (bI af O)):=by subst hK;show (AX hg hm ha hs I).mono λ_ _ _ q=>Hf (.inr rfl) q
def AM (S:l6 X.env.scope cs X.N N') (hc:X.calm=true) (hi:PI X tg iter (tIt K EX false dd mi)) (hg:∀cl ex s H,PG (i2 X cs cl N' ex s H) tg g) (I:Gt K dd g mg) (O:W5 X.N.length g) (ht:∀cl ex s H,PIf (i2 X cs cl N' ex s H) ifs (tT K EX ta)) (he:∀cl ex s H,PE (i2 X cs cl N' ex s H) elt (tM K EX .V ma)) (hs:∀x,foldedSetIterable iter X.env x=pure x:=by intro _;rfl):PE X (.ListComp elt [⟨tg,iter,ifs,0⟩] cs pos) (tM K EX .F (J9 N'.length mi mg ta ma)):=
 (wR S hc hi hg O ht he hs).mono λ_ _ _ q=>qB I q
def AF {X:Cx}{K:Frag}{EX:EXT}{d:Mode}{pos:Pos}{ma:JV}{ta:JX}{i:Nat}{y:Str}{py:Pos}{cs:Scope}{N':Jk}{tg iter a3:Expr}{O:Jx}{dd:Mode}{g:TG}{mg:JY}{mi:JK}{I:Pos}(S:l6 X.env.scope cs X.N N') (hc:X.calm=true) (hi:PI X tg iter (tIt K EX false dd mi)) (hg:∀cl ex s H,PG (i2 X cs cl N' ex s H) tg g) (ae:Gt K dd g mg) (hk:W5 X.N.length g) (ht:∀cl ex s H,PIf (i2 X cs cl N' ex s H) O (tT K EX ta)) (he:∀cl ex s H,PE (i2 X cs cl N' ex s H) a3 (tM K EX .V ma)) (hN:X.N.Nodup) (hy:X.N[i]?=some y) (hl:Loc X.env.scope y) (a4:swapsWith (.ListComp a3 [⟨tg,iter,O,0⟩] cs I) (some (.Name y py)) pos.line X.env=pure true:=by rfl) (hf:X.fn y=true\/X.env.scope.names.lookup y=some .local:=by first|show .inl rfl|show .inr rfl|assumption) (hs:∀x,foldedSetIterable iter X.env x=pure x:=by intro _;rfl):PS X (.Assign [.Name y py] (.ListComp a3 [⟨tg,iter,O,0⟩] cs I) pos) (tSt K EX d (sF i (J9 N'.length mi mg ta ma))):=
 (wJ S hc hi hg hk ht he hN hy hl a4 hf hs).mono λD σ H q=>by
  have:=qz (m:=J9 N'.length mi mg ta ma) q
  show qB ae this
def Q6:PIf X [] (tT K EX yes):=λpins s σ H Q I q=>wM pins s σ H Q I (by obtain ⟨H0,G,ρ,O,o⟩:=q;show o true G H (Ext.refl O.gh) rfl)
def g9:PSs X [] (tSt K EX d sNx):=pss_nil.mono λ_ _ _ q=>Eo q
def b7 {X:Cx}{K:Frag}{EX:EXT}{d:Mode}{st:Stmt}{I:Jo}{m n:JW}(h1:PS X st (tSt K EX d m))(h2:PSs X I (tSt K EX d n)):PSs X (st::I) (tSt K EX d (c6 m n)):=(dk h1 h2).mono λ_ _ _ q=>Hm q
def b8 {X:Cx}{K:Frag}{EX:EXT}{d:Mode}{st:Stmt}{m:JW}(h1:PS X st (tSt K EX d m)):PSs X [st] (tSt K EX d m):=aE h1
def lV (h:PS X st (tSt K EX d m)):PS X st (tSt K EX d (ij i m)):=h.mono λ_ _ _ q=>Hw q
def oq {X:Cx}{K:Frag}{EX:EXT}{d b:Mode}{e:Expr}{pos:Pos}{ma:JV}(O:PE X e (tM K EX b ma))(I:swapsWith e none pos.line X.env=pure false:=by rfl):PS X (.Expr e pos) (tSt K EX d (gF ma)):=(W7 O I).mono λ_ _ _ q=>Ev q
def e9 {X:Cx}{K:Frag}{EX:EXT}{d:Mode}{e:Expr}{pos:Pos}{ma:JV}(I:PE X e (tM K EX d ma)):PS X (.Return (some e) pos) (tSt K EX d (i3 ma)):=(oE I).mono λ_ _ _ q=>vB q
def X5 {X:Cx}{K:Frag}{EX:EXT}{d:Mode}{pos:Pos}(i:Nat){x:Str}{p:Pos}(hd:d=.F\/d=.V)(hN:X.N[i]?=some x:=by rfl)(hv:Vis X.env.scope x:=by first|show Or.inl rfl|show Or.inr (Or.inl rfl)|show Or.inr (Or.inr rfl))(O:(x == ("__debug__" : Str))=false:=by decide)(I:(x == ("__classdict__" : Str))=false:=by decide):PS X (.Return (some (.Name x p)) pos) (tSt K EX d (E1 d i)):=(oE (t8 hN hv O I)).mono λ_ _ _ q=>um hd q
def v9 {X:Cx}{K:Frag}{EX:EXT}{d:Mode}{e:Expr}{pos:Pos}{ma:JV}{i:Nat}{x:Str}{pos':Pos}(hN:X.N.Nodup) (hi:X.N[i]?=some x) (hx:Loc X.env.scope x) (he:PE X e (tM K EX .V ma)) (I:swapsWith e (some (.Name x pos')) pos.line X.env=pure false:=by rfl) (O:X.fn x=true\/X.env.scope.names.lookup x=some .local:=by first|show .inl rfl|show .inr rfl|assumption):
  PS X (.Assign [.Name x pos'] e pos) (tSt K EX d (sV i ma)):=(iz hN hi hx he I O).mono λ_ _ _ q=>Eg q
def n3 {X:Cx}{K:Frag}{EX:EXT}{d:Mode}{e:Expr}{pos:Pos}{ma:JV}{i:Nat}{x:Str}{pos':Pos}(hN:X.N.Nodup) (hi:X.N[i]?=some x) (hx:Loc X.env.scope x) (he:PE X e (tM K EX .F ma)) (I:swapsWith e (some (.Name x pos')) pos.line X.env=pure false:=by rfl) (O:X.fn x=true\/X.env.scope.names.lookup x=some .local:=by first|show .inl rfl|show .inr rfl|assumption):
  PS X (.Assign [.Name x pos'] e pos) (tSt K EX d (sF i ma)):=(iz hN hi hx he I O).mono λ_ _ _ q=>qz q
def lW {X:Cx}{K:Frag}{EX:EXT}{d:Mode}{e:Expr}{pos:Pos}{ma:JV}{i:Nat}{x:Str}{p apos I:Pos}(hN:X.N[i]?=some x) (hv:Vis X.env.scope x) (ha:PE X e (tM K EX .V ma)) (hd:(x == ("__debug__" : Str))=false:=by decide) (b0:(x == ("__classdict__" : Str))=false:=by decide) (O:attributeBase (.Name x p) "append" X.env (eval (.Name x p) X.env)=eval (.Name x p) X.env:=by rfl) (a4:((backTo I (starEach [e] X.env)).all (λx=>!x.1)&&(backToKw I (keywordEach [] X.env)).all (λx=>x.1.isSome)
   && decide (([e]:Jx).length+([]:List Keyword).length+(if ([]:List Keyword).isEmpty then 0 else 1)<30))=true:=by rfl) (a3:(apos.endLine == I.line)=true:=by rfl) (hs:starEach [e] X.env=(false,eval e X.env)::starEach [] X.env:=by rfl) (ae:swapsWith (.Call (.Attribute (.Name x p) "append" apos) [e] [] I) none pos.line X.env=pure false:=by rfl):
  PS X (.Expr (.Call (.Attribute (.Name x p) "append" apos) [e] [] I) pos) (tSt K EX d (dq i ma)):=(W7 (bV (t8 hN hv hd b0) ha O a4 a3 hs) ae).mono λ_ _ _ q=>HA q
def g5 (hc:PT X c (tT K EX ta))(ha:PSs X x (tSt K EX d m))(I:PSs X y (tSt K EX d n)):PS X (.If c x y pos) (tSt K EX d (mIf ta m n)):=(uY hc ha I).mono λ_ _ _ q=>Hu q
def U3 {X:Cx}{K:Frag}{EX:EXT}{d:Mode}{pos:Pos}{m:JW}{tg iter:Expr}{body:Jo}{dd:Mode}{g:TG}{mg:JY}{O:JK}(hp:PassesOwn (model X.prog X.w) X.A X.env X.xe)(hc:X.calm=true)(hi:PI X tg iter (tIt K EX true dd O))(hg:PG X tg g)(I:Gt K dd g mg)(hb:PSs X body (tSt K EX d m))(hs:∀x,foldedSetIterable iter X.env x=pure x:=by intro _;rfl):PS X (.For tg iter body [] pos) (tSt K EX d (V4 O mg m)):=(oG hp hc hi hg hb hs).mono λ_ _ _ q=>Hy I q
abbrev gLt (i j:Int):W:=.bl (decide (i<j))
abbrev gLe (i j:Int):W:=.bl (decide (i<=j))
abbrev gGt (i j:Int):W:=.bl (decide (j<i))
abbrev gGe (i j:Int):W:=.bl (decide (j<=i))
abbrev J1 (i j:Int):W:=.int (i+j)
abbrev gSub (i j:Int):W:=.int (i-j)
abbrev E9 (i j:Int):W:=.int (i*j)
abbrev r0 (i j:Int):W:=.int (i%j)
abbrev F0 (i j:Int):W:=.int (i/j)
abbrev je (i j:Int):W:=.int (i^j.toNat)
abbrev E8 (i:Int):W:=.int (-i)
abbrev CM (i j:Int):Int:=if j>i then j else i
abbrev CL (i j:Int):Int:=if j<i then j else i
abbrev GO (i j:Int):Int:=i+j
abbrev GN (i j:Int):Int:=i-j
abbrev o7 (_ j:Int):Prop:=0<j
instance (i j:Int):Decidable (CMul i j):=by unfold CMul;infer_instance
instance (i j:Int):Decidable (A6 i j):=by unfold A6;infer_instance
instance (i j:Int):Decidable (bC i j):=by unfold bC;infer_instance
instance (i j:Int):Decidable (vL i j):=by unfold vL;infer_instance
def vOf:W->Option V
 | .non=>some .non
 | .bl b=>some (.bl b)
 | .int i=>some (.int i)
 | .str x=>some (.str x)
 |_=>none
def ub (u v:W):Option Bool:=match vOf u,vOf v with
 |some x,some y=>if ig x y then some (decide (x=y)) else none
 |_,_=>none
def j6 (neg:Bool) (u v:W):R W:=match ub u v with
 |some b=>.ok (.bl (if neg then !b else b))
 |none=>.stuck
def gE (h:Md K H0 Ha G H v w .B) (e:vOf w=some x):v=x:=by
 cases w <;> first|cases e|skip
 .show h.nonB
 .show h.blB
 .show h.intB
 .show h.strB
def j4:Op2 K .B d rEq (j6 false):=by
 intro EX H0 Hs G H ρ σ Ha Hb x y u v Q I s mx my o;unfold j6 ub at o;cases O:vOf u with
 |none=>rw[O]at o;show o.elim
 | some p=>
  cases hv:vOf v with
  |none=>rw[O,hv]at o;show o.elim
  | some q=>
   rw[O,hv]at o;cases gE mx O;cases gE my hv;dsimp only at o;by_cases c:ig x y=true
   .rw [qA9 c]at o
    show ⟨c,o _ G H (Ext.refl I.gh) (Md.sca rfl (λ_=>.bl) d)⟩
   .rw[qB4 c]at o;show o.elim
def Bo:Op2 K .B d rNe (j6 true):=by
 intro EX H0 Hs G H ρ σ Ha Hb x y u v Q I s mx my o;unfold j6 ub at o;cases O:vOf u with
 |none=>rw[O]at o;show o.elim
 | some p=>
  cases hv:vOf v with
  |none=>rw[O,hv]at o;show o.elim
  | some q=>
   rw[O,hv]at o;cases gE mx O;cases gE my hv;dsimp only at o;by_cases c:ig x y=true
   .rw [qA9 c]at o
    show ⟨c,o _ G H (Ext.refl I.gh) (Md.sca rfl (λ_=>.bl) d)⟩
   .rw[qB4 c]at o;show o.elim
mutual
def pd:W->PyData
 | .non=>.none
 | .bl b=>.bool b
 | .int i=>.int i
 | .str x=>.str x
 | .ty _=>.none
 | .exc _ _=>.none
 | .cls _=>.none
 | .dst _ _ _ _=>.none
 | .tup ws=>.tuple (pds ws)
 | .lst ws=>.list (pds ws)
 | .scr ws=>.list (pds ws)
def pds:List W->List PyData
 | []=>[]
 |w::ws=>pd w::pds ws
end
mutual
def shp:Nat->W->Bool
 |_,.non=>true
 |_,.bl _=>true
 |_,.int _=>true
 |_,.str x=>PyData.strOk x
 |n+1,.tup ws=>R8 n ws
 |n+1,.lst ws=>R8 n ws
 |n+1,.scr ws=>R8 n ws
 |_,_=>false
def R8:Nat->List W->Bool
 |_,[]=>true
 |n,w::ws=>shp n w&&R8 n ws
end
def zG:∀(w:W) (n:Nat),shp n w=true->(pd w).canLay0=true/\(pd w).depth<=n:=by
 intro w;have O:∀(ws:JJ) (c:List PyData->PyData),(∀l,(c l).canLay0=PyData.canLayAll0 l)->(∀l,(c l).depth=PyData.depthAll l+1)->(∀n:Nat,R8 n ws=true->PyData.canLayAll0 (pds ws)=true/\PyData.depthAll (pds ws)<=n)->∀n:Nat,(match n with|0=>false|n+1=>R8 n ws)=true->(c (pds ws)).canLay0=true/\(c (pds ws)).depth<=n:=λws c h1 h2 I n h=>by
  cases n with
  |zero=>cases h
  |succ n=>have:=I n h;show ⟨by rw[h1];show this.1,by rw[h2];show qS5 this.2⟩
 have fl:∀{n:Nat}{w:W}{P:Prop},shp n w=false->shp n w=true->P:=λh1 h2=>by rw[h1]at h2;cases h2
 induction w using W.rec (motive_2:=λws=>∀n:Nat,R8 n ws=true->PyData.canLayAll0 (pds ws)=true/\PyData.depthAll (pds ws)<=n) with
 |non=>show λn _=>⟨rfl,qD7 _⟩
 |bl b=>show λn _=>⟨rfl,qD7 _⟩
 |int i=>show λn _=>⟨rfl,qD7 _⟩
 |str x=>show λn h=>⟨by cases n <;> show h,qD7 _⟩
 |ty a=>show λn h=>fl (by cases n <;> rfl) h
 |exc a b=>show λn h=>fl (by cases n <;> rfl) h
 |cls a=>show λn h=>fl (by cases n <;> rfl) h
 |dst a b c d=>show λn h=>fl (by cases n <;> rfl) h
 |tup ws I=>show λn h=>O ws .tuple (λ_=>rfl) (λ_=>rfl) I n (by cases n <;> show h)
 |lst ws I=>show λn h=>O ws .list (λ_=>rfl) (λ_=>rfl) I n (by cases n <;> show h)
 |scr ws I=>show λn h=>O ws .list (λ_=>rfl) (λ_=>rfl) I n (by cases n <;> show h)
 |nil=>show ⟨rfl,qD7 _⟩
 | cons w ws h1 h2=>
  rename_i n h
  have h':shp n w=true/\R8 n ws=true:=(qI0 _ _).mp h;have a:=h1 n h'.1;have b:=h2 n h'.2;show ⟨by change (PyData.canLay0 _&&PyData.canLayAll0 _)=true;rw[a.1,b.1];rfl,Nat.max_le.mpr ⟨a.2,b.2⟩⟩
def Rep.reads {σ:St}(I:Inv X pins σ H s) (n:Nat) (r:Rep X.K H x w):shp n w=true->RelV x u->∃O,Reads s.heap u (pd w) O:=by
 have fl:∀{n:Nat}{w:W}{P:Prop},shp n w=false->shp n w=true->P:=λh1 h2=>by rw[h1]at h2;cases h2
 induction r using Rep.rec (motive_2:=λxs ws _=>∀(us:Jw) (n:Nat),R8 n ws=true->Vals xs us->∃O,ReadsAll s.heap us (pds ws) O) generalizing u n with
 |non=>intro _ r;cases r;show ⟨_,.none⟩
 |bl=>intro _ r;cases r;show ⟨_,.bool _⟩
 |int=>intro _ r;obtain ⟨t,rfl⟩:=r;show ⟨_,.int _ _⟩
 |str=>intro _ r;obtain ⟨t,rfl⟩:=r;show ⟨_,.str _ _⟩
 |ty=>show λh _=>fl (by cases n <;> rfl) h
 |exc=>show λh _=>fl (by cases n <;> rfl) h
 |cls=>show λh _=>fl (by cases n <;> rfl) h
 |dct=>show λh _=>fl (by cases n <;> rfl) h
 |dst=>show λh _=>fl (by cases n <;> rfl) h
 |dsz=>show λh _=>fl (by cases n <;> rfl) h
 | tup ha _ ih=>
  intro h r;cases r;cases n with
  |zero=>cases h
  | succ n=>
   obtain ⟨its,rv,⟨o,e,c,k,dd⟩,_⟩:=I.tuple (SqT.of ha);obtain ⟨O,q⟩:=ih _ n h rv;show ⟨_,.tuple e c dd (by simpa using q)⟩
 | lst ha _ ih=>
  intro h r;cases r;cases n with
  |zero=>cases h
  | succ n=>
   obtain ⟨its,rv,pl,_⟩:=I.list (SqL.of ha);obtain ⟨o,e,c,k,dd⟩:=pl.isList;obtain ⟨O,q⟩:=ih _ n h rv;show ⟨_,.list e c dd (by simpa using q)⟩
 | scr ha _ ih=>
  intro h r;cases r;cases n with
  |zero=>cases h
  | succ n=>
   obtain ⟨its,rv,pl,_⟩:=I.list ha;obtain ⟨o,e,c,k,dd⟩:=pl.isList;obtain ⟨O,q⟩:=ih _ n h rv;show ⟨_,.list e c dd (by simpa using q)⟩
 |nil=>rename_i us n _ r;cases r;show ⟨_,.nil⟩
 | cons _ _ h1 h2=>
  rename_i us n h r
  cases r with
  | cons r1 r2=>
   have h':=(qI0 _ _).mp h;obtain ⟨O,q1⟩:=h1 n h'.1 r1;obtain ⟨bs,q2⟩:=h2 _ n h'.2 r2;show ⟨_,.cons q1 q2⟩
def eqW (u v:W):Bool:=PyData.eqv (pd u) (pd v)
def rX (K:Frag)(neg:Bool):R2:=λx y H Q=>∃u v,Rep K H x u/\Rep K H y v/\shp 8 u=true/\shp 8 v=true/\Q (.bl (if neg then !eqW u v else eqW u v)) H
def Z2 (h:shp 8 w=true):SeqAt.shaped (pd w)=true:=by
 obtain ⟨a,b⟩:=zG w 8 h;unfold SeqAt.shaped;rw[a,qX3];show qL6 (qD9 b Qy)
def iG (hu:X.A.units+64<cLine):OpR X (compareOp .Eq) (rX X.K false):=by
 intro pins s σ H x y v u Q I rx ry h;obtain ⟨a,b,ra,rb,sa,O,q⟩:=h;obtain ⟨as,qa⟩:=Rep.reads I 8 ra sa rx;obtain ⟨bs,qb⟩:=Rep.reads I 8 rb O ry;show PyProof.Rows.eq_dataH qa qb (Z2 sa) (Z2 O) hu ⟨.bl (eqW a b),H,I,rfl,q⟩
def Bj (hu:X.A.units+64<cLine):OpR X (compareOp .NotEq) (rX X.K true):=by
 intro pins s σ H x y v u Q I rx ry h;obtain ⟨a,b,ra,rb,sa,O,q⟩:=h;obtain ⟨as,qa⟩:=Rep.reads I 8 ra sa rx;obtain ⟨bs,qb⟩:=Rep.reads I 8 rb O ry;show PyProof.Rows.ne_dataH qa qb (Z2 sa) (Z2 O) hu ⟨.bl (!eqW a b),H,I,rfl,q⟩
def fEq (neg:Bool)(u v:W):R W:=if shp 8 u&&shp 8 v then .ok (.bl (if neg then !eqW u v else eqW u v)) else .stuck
def dR:Op2 K .B d (rX K neg) (fEq neg):=by
 intro EX H0 Hs G H ρ σ Ha Hb x y u v Q I s mx my o;unfold fEq at o;by_cases c:(shp 8 u&&shp 8 v)=true
 .rw [qA9 c]at o
  have O:shp 8 u=true/\shp 8 v=true:=by simpa using c
  show ⟨u,v,mx.whole I,my.whole I,O.1,O.2,o _ G H (Ext.refl I.gh) (Md.sca rfl (λ_=>.bl) d)⟩
 .rw[qB4 c]at o;show o.elim
def ao:W->Bool->Bool
 | .bl a,b=>a == b
 |_,_=>false
def fIsB (neg:Bool):W->W->R W
 |u,.bl b=>.ok (.bl (if neg then !ao u b else ao u b))
 |_,_=>.stuck
def aq (I:Room k A):A.units+64<cLine:=I.units
def qV (r:Vals [x] us):∃u,us = [u]/\RelV x u:=by
 cases r with
 |cons a t=>cases t;show ⟨_,rfl,a⟩
def pL {s:Shared}{h':Heap}(I:∀b u,b ∉ [s.heap.objs.size]->(s.heap.push o).get? b=some u->h'.get? b=some u):∀b u,s.heap.get? b=some u->h'.get? b=some u:=λb u e=>
 I b u (by simp;show qE7 (qC7 e)) (qB3 _ e)
def zf {α:Type}{f:α->V}{g:α->Value->Prop}(O:∀a u,RelV (f a) u->g a u){I:List α}(r:Vals (I.map f) its){i:Nat}(h:its.toArray[i]?=some v):∃a,I[i]?=some a/\g a v:=by
 have h':its[i]?=some v:=by simpa using h
 induction I generalizing its i with
 |nil=>cases r;simp at h'
 | cons a I ih=>
  cases r with
  | cons q t=>
   cases i with
   |zero=>simp at h';subst h';show ⟨a,rfl,O _ _ q⟩
   |succ i=>simpa using ih t (i:=i) (by simpa using h') (by simpa using h')
def nz {σ:St}(I:Inv X pins σ H s) (hc:X.calm=true) (hp:H p=some (.lst xs)):∃its:List Value,Vals xs its/\s.heap.IsList p its.toArray/\xs.length=its.toArray.size/\p≠s.heap.objs.size /\
  Walks X.prog X.w X.A.in1 s.heap.objs.size [s.heap.objs.size,p] [s.heap.objs.size] its.toArray.size (λi v=>its.toArray[i]?=some v) (λi h=>h.IsListIter s.heap.objs.size p i/\h.IsList p its.toArray):=by
 obtain ⟨its,rv,pl,hz⟩:=I.list (SqL.of hp);obtain ⟨o,e,_⟩:=pl.isList;have O:p≠s.heap.objs.size:=qE7 (qC7 e);show ⟨its,rv,pl.isList,by rw[qD6];show rv.length,O,Walks.list (show X.A.in1.handled=none from I.ok.hd hc) _ p O _⟩
def all_range {bs:List Bool}:(List.range bs.length).all (λi=>bs.getD i false)=bs.all id:=by
 rw[qJ6,qG5,qG5];constructor
 .intro h x I;obtain ⟨i,hi,e⟩:=List.mem_iff_getElem.mp I
  have:=h i (by simpa using hi)
  rw[qD4]at this;simpa [hi,e]using this
 .intro h i hi;have hi:i<bs.length:=by simpa using hi
  rw[qD4];simpa [hi]using h bs[i] (qH4 hi)
def rl {X:Cx}{bs:List Bool}(rv:Vals (bs.map V.bl) its):TruthOf X.prog X.w A (λi v=>its.toArray[i]?=some v) (λi=>bs.getD i false):=λi v s' Q' E O hq=>by
 obtain ⟨b,hb,e⟩:=zf (f:=V.bl) (g:=λb u=>u=.bool b) (λb u r=>r) rv O;subst e
 have:bs.getD i false=b:=by rw[qD4,hb];rfl
 have I:Q' (bs.getD i false) s':=hq;rw[this]at I;show qM1 I
def qy (hc:X.calm=true):B6 X (.builtin "all") (λxs H Q=>∃(p:Addr) (bs:List Bool),xs = [.ref p]/\H p=some (.lst (bs.map V.bl))/\Q (.bl (bs.all id)) H):=by
 intro pins s σ H xs us Q I r h;obtain ⟨p,bs,rfl,hp,q⟩:=h;obtain ⟨u,rfl,rx⟩:=qV r;cases rx;obtain ⟨its,rv,hl,hlen,O,Wk⟩:=nz I hc hp;rw[qA0]at hlen;refine call_all_walk (qR5 hl ⟨_,_,_,_,_,_,_,rfl,Wk,⟨⟨_,qC8 _ rfl,rfl,rfl⟩,hl.push _⟩,rl rv,λh' tk hk=>?_⟩);rw[<- hlen,all_range];show ⟨.bl (bs.all id),H,I.kept (t':=tk) (pL hk),rfl,q⟩
def Y8:List W->Option (List Bool)
 | []=>some []
 | .bl b::ws=>(Y8 ws).map (b::·)
 |_=>none
def yz (bs:List Bool):Y8 (bs.map W.bl)=some bs:=by
 induction bs with
 |nil=>rfl
 |cons b bs I=>rw[qB2,Y8,I];rfl
def Reps.bls (r:Reps K F vs ws):Y8 ws=some bs->vs=bs.map V.bl:=
 Reps.ind (P:=λvs ws=>∀bs,Y8 ws=some bs->vs=bs.map V.bl) (λbs h=>by cases h;rfl) (λ{v w vs ws} r _ ih bs h=>by
  cases w <;> first|cases h|skip
  rename_i b
  have e:v=.bl b:=r.inv;subst e;have h':(Y8 ws).map (b::·)=some bs:=h;cases q:Y8 ws with
  |none=>rw[q]at h';cases h'
  |some cs=>rw[q]at h';cases h';rw[ih cs q];rfl) r bs
def jl (g:List Bool->Bool):List W->R W
 | [.lst ws]=>toR (Y8 ws)>>=λbs=>.ok (.bl (g bs))
 |_=>.stuck
def yC:Cal K .B d (λxs H Q=>∃(p:Addr) (bs:List Bool),xs = [.ref p]/\H p=some (.lst (bs.map V.bl))/\Q (.bl (g bs)) H) (jl g):=by
 intro EX H0 Hs G H ρ σ Ha vs ws Q I s m o;cases m with
 |nil=>show o.elim
 | @cons w v a4 a3 a t=>
  cases t with
  |cons _ _=>first|show o.elim | (cases w <;> show o.elim)
  | nil=>
   cases w <;> first|show o.elim|skip
   rename_i ws
   obtain ⟨p,ys,rfl,O,r⟩:=a.lstB I;replace o:Out EX G H (mdW K d H0 Hs) (toR (Y8 ws)>>=λbs=>.ok (.bl (g bs))) Q:=o
   cases q:Y8 ws with
   |none=>rw[q]at o;show o.elim
   | some bs=>
    rw[q]at o;rw[Reps.bls r q]at O;show ⟨p,bs,rfl,O,o _ G H (Ext.refl I.gh) (Md.sca rfl (λ_=>.bl) d)⟩
def jf (bs:List Bool):Bool:=bs.all id
def EB:bootBuiltins "all" = some (.builtin "all"):=Qx
def U6:List W->Option JQ
 | []=>some []
 | .int b::ws=>(U6 ws).map (b::·)
 |_=>none
def ints_map (bs:JQ):U6 (bs.map W.int)=some bs:=by
 induction bs with
 |nil=>rfl
 |cons b bs I=>rw[qB2,U6,I];rfl
def GT (g:List Int->Int):List W->R W
 | [.lst ws]=>toR (U6 ws)>>=λbs=>.ok (.int (g bs))
 |_=>.stuck
def fAbs:List W->R W
 | [.int i]=>.ok (.int (if i<0 then -i else i))
 |_=>.stuck
def Dn:List W->R W
 | [.int i]=>.ok (.int i)
 | [.bl k]=>.ok (.int (if k then 1 else 0))
 |_=>.stuck
def fStr:List W->R W
 | [.int i]=>if i.natAbs.log2<1920 then .ok (.str (toString i)) else .stuck
 |_=>.stuck
def gS:Cal K .B d (λxs H Q=>∃i,xs = [.int i]/\i.natAbs.log2<1920/\Q (.str (toString i)) H) fStr:=by
 intro EX H0 Hs G H ρ σ Ha vs ws Q I s m o;cases m with
 |nil=>show o.elim
 | @cons w v a3 O a t=>
  cases t with
  |cons _ _=>first|show o.elim | (cases w <;> show o.elim)
  | nil=>
   cases w <;> first|show o.elim|skip
   rename_i i
   replace o:Out EX G H (mdW K d H0 Hs) (if i.natAbs.log2<1920 then R.ok (W.str (toString i)) else .stuck) Q:=o
   by_cases c:i.natAbs.log2<1920
   .rw [qA9 c]at o
    show ⟨_,by rw[a.intB],c,o _ G H (Ext.refl I.gh) (Md.sca rfl (λ_=>.str) d)⟩
   .rw[qB4 c]at o;show o.elim
def mExt (i:Nat) (c:Bool) (m:JV):JW:=λρ=>match ρ[i]? with
 | some (.own ws)=>m ρ>>=λw=>(match w with
  | .lst us=>if ws.length+us.length<=1000 then (if c||u6 us then .ok (.nx (ρ.set i (.own (ws++us)))) else .stuck) else .stuck
  |_=>.stuck)
 |_=>.stuck
def mRev (i:Nat):JW:=λρ=>match ρ[i]? with
 |some (.own ws)=>.ok (.nx (ρ.set i (.own ws.reverse)))
 |_=>.stuck
def bR {X:Cx}{K:Frag}{EX:EXT}{e tg:Expr}{ma:JV}(h:PE X e (tM K EX .B ma))(I:X.K=K:=by rfl):PI X tg e (tIt K EX false .U (bS ma)):=uW (lp:=false) h I
def iu {X:Cx}{K:Frag}{EX:EXT}{e tg:Expr}{ma:JV}(h:PE X e (tM K EX .U ma))(I:X.K=K:=by rfl):PI X tg e (tIt K EX true .U (bS ma)):=uW (lp:=true) h I
def AC {X:Cx}{K:Frag}{EX:EXT}{a:Expr}{es:Jx}{pos:Pos}{O:JK}{elts:Jx}{p tp:Pos}{k:Nat}(hg:Gl X "zip") (hm:X.mg "zip" = none) (ha:PA X (a::es) (tA K EX .U O)) (hK:X.K=K:=by rfl) (hs:starEach (a::es) X.env=(false,eval a X.env)::starEach es X.env:=by rfl) (I:(backTo pos (starEach es X.env)).any (·.1)=false:=by rfl):
  PI X (.Tuple elts k tp) (.Call (.Name "zip" p) (a::es) [] pos) (tIt K EX true .U (bI af O)):=FJ (lp:=true) hg hm ha hK hs I
def Gj:Sl->Bool
 | .own _=>true
 | .dic _=>true
 | .dik _=>true
 | .dos _=>true
 |_=>false
def noOwn (ρ:Rho):Bool:=ρ.all λs=>!Gj s
def sCU (i:Nat)(f:List W->R W)(ma:JK):JW:=λρ=>if noOwn ρ then (ma ρ>>=λws=>f ws>>=λw=>.ok (.nx (ρ.set i (.par w)))) else .stuck
def revW:List W->R JJ
 | [.lst ws]=>.ok ws.reverse
 |_=>.stuck
def seqI:W->Option JQ
 | .lst ws=>U6 ws
 | .tup ws=>U6 ws
 |_=>none
def vz (g:List Int->Int):List W->R W
 | [w]=>toR (seqI w)>>=λns=>if 0<ns.length then .ok (.int (g ns)) else .stuck
 |_=>.stuck
end TP
namespace HT
open PySem PySem.Spec PyProof.Rows
end HT
namespace TP
open PySem L2 PySem.Spec PyProof.Rows
end TP
namespace TP
open PySem PySem.W PyProof.Rows
section
variable (r:Nat->Int)
def runK {α:Type}:KasT α->α
 | .ret a=>a
 | .ask i j k=>runK (k (decide (r i<r j)))
def HL {k:Bool->KasT α}(h:r i<r j):runK r (.ask i j k)=runK r (k true):=congrArg (λb=>runK r (k b)) (qL6 h)
def HM {k:Bool->KasT α}(h:¬ r i<r j):runK r (.ask i j k)=runK r (k false):=congrArg (λb=>runK r (k b)) (qL1 h)
def ky (p:Array Nat)(k:Nat):Int:=r (p.getD k 0)
def up (p:Array Nat)(n:Nat):Prop:=∀k,k+1<n->ky r p k<=ky r p (k+1)
def nG (h:up r p n):∀j i,i<=j->j<n->ky r p i<=ky r p j:=by
 intro j
 induction j with
 |zero=>intro i a _;rw[Nat.le_zero.mp a];show Int.le_refl _
 | succ j I=>
  intro i a b;rcases Nat.lt_or_eq_of_le a with q|rfl
  .show Int.le_trans (I i (qR6 q) (Nat.lt_of_succ_lt b)) (h j b)
  .show Int.le_refl _
def iA (hu:up r p k):∀(f l h:Nat),h-l<=f->l<=h->h<=k->(∀i,i<l->ky r p i<=ky r p k)->(∀i,h<=i->i<k->ky r p k<ky r p i) ->
  ∃R,runK r (kas_place p k f l h)=R/\R<=k/\(∀i,i<R->ky r p i<=ky r p k)/\∀i,R<=i->i<k->ky r p k<ky r p i:=by
 intro f
 induction f with
 | zero=>
  intro l h hf hl hk a b;have e:h=l:=Qo;subst e;show ⟨h,rfl,hk,a,b⟩
 | succ f ih=>
  intro l h hf hl hk a b;by_cases O:l≥h
  .have e:h=l:=Nat.le_antisymm O hl;subst e;show ⟨h,by change runK r (if h≥h then .ret h else _)=h;rw[qA9 (qB8 _)];rfl,hk,a,b⟩
  .obtain ⟨md,I⟩:∃md,md=(l+h)/2:=⟨_,rfl⟩;have m1:l<=md:=by rw[I];show (Nat.le_div_iff_mul_le Qy).mpr (by rw[Nat.mul_two];show Nat.add_le_add_left hl _)
   have m2:md<h:=by rw[I];show (Nat.div_lt_iff_lt_mul Qy).mpr (by rw[Nat.mul_two];show Nat.add_lt_add_right (Nat.lt_of_not_le O) _)
   have m3:md-l<=f:=qR6 (qC6 (Nat.sub_lt_sub_right m1 m2) hf);have m4:h-(md+1)<=f:=qD9 (Nat.sub_le_sub_left (qS5 m1) h) (Nat.pred_le_pred hf);have e0:runK r (kas_place p k (f+1) l h)=runK r (.ask (p.getD k 0) (p.getD md 0) λc=>if c=true then kas_place p k f l md else kas_place p k f (md+1) h):=by
    rw[I]
    change runK r (if l≥h then .ret l else _)=_;rw[qB4 O]
   by_cases c:ky r p k<ky r p md
   .obtain ⟨R,e,x⟩:=ih l md m3 m1 (qD9 (qO9 m2) hk) a λi x y=>Int.lt_of_lt_of_le c (nG r hu i md x y);show ⟨R,e0.trans ((HL r c).trans e),x⟩
   .obtain ⟨R,e,x⟩:=ih (md+1) h m4 m2 hk (λi x=>Int.le_trans (nG r hu md i (qR6 x) (qC6 m2 hk)) (Int.not_lt.mp c)) b;show ⟨R,e0.trans ((HM r c).trans e),x⟩
end
end TP
namespace TP
open PySem L2
def lexLt:List Int->List Int->Bool
 | [],[]=>false
 | [],_::_=>true
 |_::_,[]=>false
 |a::as,b::bs=>if a=b then lexLt as bs else decide (a<b)
def FG (ss:Jg)(i:Nat):Int:=((ss.countP λx=>lexLt x (ss.getD i [])):Nat)
def allLt (n:Nat)(p:Array Nat):Prop:=∀x∈p,x<n
section
open PySem.W PyProof.Rows
variable {n:Nat}(h0:0<n)
include h0
end
section
open PySem.W PyProof.Rows
end
section
open PySem.W PyProof.Rows
end
set_option maxHeartbeats 2000000
end TP
namespace L2
open PySem PySem.Spec PyProof.Rows
end L2
namespace TP
open PySem L2
end TP
namespace HT
open PySem PyProof.Rows
end HT
namespace TP
open PySem L2
def Rst (x:R W) (l u:R Jv):R W:=x>>=λx=>l>>=λl=>u>>=λu=>(match x with
 | .tup ws=>if u6 ws=true then .ok (.tup (k7 ws l u)) else .stuck
 |_=>.stuck)
def vSlT (m:JV)(ml I:Rho->R Jv):JV:=λρ=>Rst (m ρ) (ml ρ) (I ρ)
def jX (m:JV)(ml I:Rho->R Jv)(ρ:Rho):vSlT m ml I ρ=Rst (m ρ) (ml ρ) (I ρ):=rfl
def EN (h:u6 ws=true) (l u:Jv):Rst (.ok (.tup ws)) (.ok l) (.ok u)=.ok (.tup (k7 ws l u)):=by
 change (if u6 ws=true then _ else _)=_;rw[qA9 h]
def BP:W->Option JQ
 | .tup ws=>U6 ws
 |_=>none
def BO (ns:JQ):BP (.tup (ns.map W.int))=some ns:=ints_map ns
def EK (ks:Jg)(k:JQ):List JQ:=if k∈ks then ks else ks ++ [k]
def Gk:Sl->Bool
 | .dic _=>true
 |_=>false
def vj (ρ:Rho):Bool:=ρ.all λs=>!Gk s
def putD (ks:Jg) (i:Nat) (w:W) (ρ:Rho):R Fl:=match BP w with
 |some k=>if vj (ρ.set i .un)=true/\ks.length<1000 then .ok (.nx (ρ.set i (.dic (EK ks k)))) else .stuck
 |none=>.stuck
def GX (o:Option Sl) (I rk:R W) (i:Nat) (ρ:Rho):R Fl:=match o with
 |some (.dic ks)=>I>>=λ_=>rk>>=λw=>putD ks i w ρ
 |_=>.stuck
set_option maxHeartbeats 2000000
def jp (ks:Jg) (w:W) (k:JQ) (i:Nat) (ρ:Rho) (h:vj (ρ.set i .un)=true) (hl:ks.length<1000):GX (some (.dic ks)) (.ok w) (.ok (.tup (k.map W.int))) i ρ=.ok (.nx (ρ.set i (.dic (EK ks k)))):=by
 change putD ks i (.tup (k.map W.int)) ρ=_;unfold putD;rw[BO];show qA9 ⟨h,hl⟩
def E3 {i j}(I:PA X es (tA K EX d mr)):PA X (.Constant (.int i) j p::es) (tA K EX d (aC (mC (.int i)) mr)):=a5 a8 I Qq
end TP
namespace TB
open PySem PySem.W
def bits_of {ns:JQ}(h:WData.layableAll [WData.list (ns.map WData.int)]=true):∀x∈ns,Builtin.Int.intBits x<=1048576:=λx hx=>by
 have h1:(WData.list (ns.map WData.int)).layable=true:=by simpa [WData.layableAll]using h
 have h2:(WData.list (ns.map WData.int)).weight<=2^20:=(layableW_iff.mp h1).2.2;have I:∀ms:List Int,x∈ms->Builtin.Int.intBits x<=WData.weightAll (ms.map WData.int):=by
  intro ms
  induction ms with
  |nil=>intro z;cases z
  | cons m ms O=>
   intro z;rw[qB2]
   change _<=WData.weight (.int m)+1+WData.weightAll (ms.map WData.int);rcases qA7.mp z with e|e
   .subst e
    have:WData.weight (.int x)=Builtin.Int.intBits x:=Qq
    omega
   .have:=O e
    omega
 show qD9 (I ns hx) (by simpa [WData.weight]using h2)
end TB
namespace Att
open PySem PySem.W PySem.Calls PyProof.Rows
def attach_callB {l:OpenLaw}(hn:l.most=some n) (ae:d.params.defaults = []) (call:∀(w:World) (s₀ I:Shared) (mg mb:Jz) (fa:Addr) (o:Obj) (pm cd doc:Value) (a:Addr) (vs:Jw) (ns:JQ),
   Ground q loose [] XP w s₀ mg mb I.heap->YP w I.heap ->
   I.heap.get? fa=some o->o.data=.func (docDef d.name d.params d.body d.scope pm cd doc)->I.heap.CodeRec cd d.name->mg d.name=some (.ref fa) ->
   I.heap.get? a=some { cls:=.type "list",data:=.seq vs.toArray }->IntsAre vs ns->ns.length<=n->(∀x∈ns,Builtin.Int.intBits x<=1048576)->I.gens=#[] ->
   codeAny (model l.prog w) callerA (.call (.ref fa) ⟨[.ref a],[]⟩) (λr s'=>r=.ok (.ret (.bool true))/\OldK I.heap s'.heap/\s'.os=I.os/\AllBare s'.gens) I):
  WalkO q loose XP YP l.row.toRowW d [] (λf vs=>PySem.call f vs):=by
 intro w s₀ I mg mb G Y fa o pm cd doc dV kV ho hd b4 hD b3 hg args vals as a3 a4 bc b0 b5;obtain rfl:dV=.none:=Dflts.none hD ae;obtain rfl:kV=.none:=Dflts.noKw hD;obtain ⟨a,vs,ns,rfl,rfl,O,hints,hlen⟩:=nZ hn a3 b0;refine enter_call (qS0 (call w s₀ I mg mb fa o pm cd doc a vs ns G Y ho (fd_plain hd) b4 b3 O hints hlen (TB.bits_of a4) hg) λr s' hq=>?_);obtain ⟨rfl,h2,h3,h4⟩:=hq;show ⟨.inl ⟨.bool true,.bool true,[],rfl,λ_=>rfl,.bool true,oJ l _,λ_=>⟨List.Pairwise.nil,λ_ hm=>(nomatch hm)⟩⟩,h2,h3,h4⟩
end Att
namespace L2
open PySem PySem.Spec PyProof.Rows
def qU {l:PySem.W.OpenLaw}{K:Params->Frag}{CX:World->CXT}{sp:World->Sp}(hn:l.most=some n) (b4:n<=sizeLine) (b0:d.params.defaults = []) (hr:Room k callerA) (hY:∀(w:World) (h:Heap),YP w h->(K w.params).In h) (F:∀(w:World) (mg:Jz) (fa:Addr) (h:Heap),(K w.params).In h->h.Ns mainGlobals mg->mg d.name=some (.ref fa) ->
   ∃ fd:FuncData,(∀(s:Shared) (u:Value),BindsTo s fd ⟨[u],[]⟩ [(x,u)]) /\
    ∀base:Heap,(K w.params).In base->base.Ns mainGlobals mg->FnOk l.prog w (K w.params) mg base (CX w) k fa fd [x] (sp w)) (a3:∀(w:World) (H:Hp) (a:Addr) (ns:JQ),ns.length<=n->(∀x∈ns,Builtin.Int.intBits x<=1048576)->nk H->SqL (K w.params) H a (ns.map V.int)->sp w [.ref a] H (λv _=>v=.bl true) λ_ _ _=>False) (a4:∀(w:World) (H:Hp) (s:Shared) (e:Value) (s':Shared),CX w [] H s (λ_ _ _=>False) e s'->False):
  PySem.W.WalkO q loose XP YP l.row.toRowW d [] (λf vs=>PySem.call f vs):=by
 refine Att.attach_callB hn b0 λw s₀ O mg mb fa o pm cd doc a vs ns G Y ho hd b5 b3 I hints hlen ae hg=>?_;have KX:=hY w _ Y;obtain ⟨fd,hb,hF⟩:=F w mg fa _ KX G.T.g b3;show tq KX G.T.g G.T.b G.T.builtins G.T.nolimit hg I hints (qD9 hlen b4) hr hF hb (λH hO hS=>a3 w H a ns hlen ae hO hS) λH e s'=>a4 w H O e s'
def walk_ofKB {l:PySem.W.OpenLaw}{K:Params->Frag}{sp:Frag->Sp}(hn:l.most=some n) (a4:n<=sizeLine) (a3:d.params.defaults = []) (hr:Room k callerA) (hY:∀(w:World) (h:Heap),YP w h->(K w.params).In h) (F:∀(w:World) (mg:Jz) (fa:Addr) (h:Heap),(K w.params).In h->h.Ns mainGlobals mg->mg d.name=some (.ref fa) ->
   ∃ fd:FuncData,(∀(s:Shared) (u:Value),BindsTo s fd ⟨[u],[]⟩ [(x,u)]) /\
    ∀base:Heap,(K w.params).In base->base.Ns mainGlobals mg->FnOk l.prog w (K w.params) mg base CX k fa fd [x] (sp (K w.params))) (I:∀(K:Frag) (H:Hp) (a:Addr) (ns:JQ),ns.length<=n->(∀x∈ns,Builtin.Int.intBits x<=1048576)->nk H->SqL K H a (ns.map V.int)->sp K [.ref a] H (λv _=>v=.bl true) λ_ _ _=>False) (O:∀(H:Hp) (s:Shared) (e:Value) (s':Shared),CX [] H s (λ_ _ _=>False) e s'->False):
  PySem.W.WalkO q loose XP YP l.row.toRowW d [] (λf vs=>PySem.call f vs):=
 qU (K:=K) (CX:=λ_=>CX) (sp:=λw=>sp (K w.params)) hn a4 a3 hr hY F (λw H a ns h1 hb h2 h3=>I (K w.params) H a ns h1 hb h2 h3) λ_ H s e s'=>O H s e s'
end L2
namespace TP
open PySem L2
def CMulB (i j:Int):Prop:=CMul i j\/Builtin.Int.intBits i+Builtin.Int.intBits j<=134217728
instance (i j:Int):Decidable (CMulB i j):=by unfold CMulB;infer_instance
def CMulB.ok (h:CMulB i j):IntMulOk i j:=by
 rcases h with h|h
 .show h.ok
 .show IntMulOk.of_le (qB8 _) (qB8 _) h
def P6:OpR X (binaryOp .Mult) (rI CMulB λi j=>.int (i*j)):=opI λ_ _ _ _ _ _ _ hc q=>PyProof.Rows.mul_int q hc.ok
def px {i j:Int}(h:-18446744073709551616<i/\i<18446744073709551616):fI CMulB E9 (.int i) (.int j)=.ok (.int (i*j)):=by
 change (if CMulB i j then _ else _)=_;show qA9 (.inl (.inl h))
def pq {i j:Int}(h:-18446744073709551616<j/\j<18446744073709551616):fI CMulB E9 (.int i) (.int j)=.ok (.int (i*j)):=by
 change (if CMulB i j then _ else _)=_;show qA9 (.inl (.inr h))
def pp {i j:Int}(h:Builtin.Int.intBits i+Builtin.Int.intBits j<=134217728):fI CMulB E9 (.int i) (.int j)=.ok (.int (i*j)):=by
 change (if CMulB i j then _ else _)=_;show qA9 (.inr h)
def xA (G:FnOk P w K mg base CX0 k f fd ps (spM K 1 d F)) (h:∀ns:List Int,ns.length<=63->(∀x∈ns,Builtin.Int.intBits x<=1048576)->F [.scr (ns.map W.int)]=.ok (.bl true)):FnOk P w K mg base CX0 k f fd ps (λvs H Q _=>∃(a:Addr) (ns:JQ),vs = [.ref a]/\SqL K H a (ns.map V.int)/\ns.length<=63/\(∀x∈ns,Builtin.Int.intBits x<=1048576)/\∀H',Q (.bl true) H'):=
 G.imp λvs H Q E I=>by
  obtain ⟨a,ns,e,hs,hl,O,q⟩:=I;subst e;refine ⟨rfl,[.scr (ns.map W.int)],.cons (.scr hs ?_) .nil,?_⟩
  .clear hs hl O
   induction ns with
   |nil=>show .nil
   |cons n ns ih=>show .cons .int ih
  .rw [h ns hl O]
   intro v G' H' _ _ _ m;have e:v=.bl true:=by
    cases d <;> first | (cases m;rfl) | (rcases m with m|⟨_,_,_,_,z,_⟩ <;> first | (cases m;rfl)|cases z)
   subst e;show q H'
end TP
namespace TL
open PySem
def kOf (v:Value):Sem Jw:=match v with
 | .ref a=>do
  match (<- load a).data with
  | .seq xs _=>pure xs.toList
  |_=>unsupported "internal:collect"
 |_=>unsupported "internal:collect"
end TL
namespace TP
open PySem L2
def OutW (K:Frag) (EX:EXT) (d:Mode) (H0:Hp) (r:R Fl) (D:Ends):Prop:=match r with
 | .ok (.nx ρ)=>∀G' I H',PIv K H0 G' ρ I H'->D.nx I H'
 | .ok (.bk ρ)=>∀G' I H',PIv K H0 G' ρ I H'->D.bk I H'
 | .ok (.ct ρ)=>∀G' I H',PIv K H0 G' ρ I H'->D.ct I H'
 | .ok (.rt w)=>∀v G' H',Same G' H'->Same H0 H'->(∀a o,H0 a=some o->isL o=true->G' a=none)->Md K H0 H0 G' H' v w d->D.rt v H'
 | .ex e=>∀H',Same H0 H'->EX e H'
 | .stuck=>False
def tStW (K:Frag)(EX:EXT)(d:Mode)(m:JW):TS:=λD σ H=>∃H0 G ρ,PIv K H0 G ρ σ H/\OutW K EX d H0 (m ρ) D
def clS:Sl->Sl
 | .un=>.un
 | .val w=>if noL w=true then .val w else .un
 | .par w=>if noL w=true then .val w else .un
 | .own ws=>if u6 ws=true then .own ws else .un
 | .dic ks=>.dic ks
 | .dik ks=>.dik ks
 | .iop p ws=>if u6 ws=true then .iop p ws else .un
 | .hz _=>.un
 | .dos kw=>if u6 kw.2=true then .dos kw else .un
def subS (i j:Nat)(us I:JJ)(ρ:Rho):Rho:=(ρ.map clS).set i (.val (.tup (us.set j (.lst I))))
set_option maxHeartbeats 2000000
def Hx (p:Addr)(H0 H1:Hp):Prop:=(∀a,a≠p->H1 a=H0 a)/\∃vs,H1 p=some (.lst vs)
def HU (K:Frag) (EX:EXT) (p:Addr) (H0:Hp) (r:R Fl) (D:Ends):Prop:=match r with
 | .ok (.nx ρ)=>∀I G' O H',Hx p H0 I->PIv K I G' ρ O H'->D.nx O H'
 | .ok (.bk ρ)=>∀I G' O H',Hx p H0 I->PIv K I G' ρ O H'->D.rt .non H'
 | .ex e=>∀H',EX e H'
 |_=>False
def tStI (K:Frag)(EX:EXT)(p:Addr)(m:JW):TS:=λD σ H=>∃H0 G ρ,PIv K H0 G ρ σ H/\(∃vs,H0 p=some (.lst vs))/\HU K EX p H0 (m ρ) D
def nbR:R Fl->R Fl
 | .ok (.nx ρ)=>.ok (.nx ρ)
 | .ex e=>.ex e
 |_=>.stuck
def nb (m:JW):JW:=λρ=>nbR (m ρ)
def clI:Sl->Sl
 | .un=>.un
 | .val w=>.val w
 | .par w=>if noL w=true then .val w else .un
 | .own ws=>.own ws
 | .dic ks=>.dic ks
 | .dik ks=>.dik ks
 | .iop _ _=>.un
 | .hz _=>.un
 | .dos kw=>.dos kw
def ioR (p:Addr) (ρ:Rho):R JJ:=match (ρ[1]?:Option Sl) with
 |some (.iop q cs)=>if q=p then .ok cs else .stuck
 |_=>.stuck
def FD (n N:Nat) (m:Addr->Rho->R Fl) (p:Addr) (O:W) (cs I:JJ):R JJ:=if I.length+2=n/\u6 cs=true then (match m p (.par O::.iop p cs::(I.map Sl.par++List.replicate (N-n) Sl.un)) with
 | .ok (.nx ρ)=>ioR p ρ
 | .ok (.bk ρ)=>ioR p ρ
 |_=>.stuck) else .stuck
open Classical in
def runIOA (n N:Nat)(m:Addr->Rho->R Fl)(w1:W)(cs O:JJ):R JJ:=if h:∃I,∀p,FD n N m p w1 cs O=.ok I then .ok (Classical.choose h) else .stuck
section
open PySem.W PyProof.Rows
def items_int:∀{xs:JQ}{its:Jw},Vals (xs.map V.int) its->ItemsAre (intKind prog w) xs its:=by
 intro xs
 induction xs with
 |nil=>intro its h;cases h;show .nil
 | cons x xs I=>
  intro its h;cases h with
  | cons r t=>
   obtain ⟨tk,rfl⟩:=r;show .cons (by simp [intKind,Value.isInt]) (I t)
end
section
open PySem.W PyProof.Rows
end
section
open PySem.W PyProof.Rows
end
section
open PySem.W PyProof.Rows
end
section
open PySem.W PyProof.Rows
end
end TP
namespace TP
open PySem PyProof.Rows
def kk (rk:Keyed->Int) (xs:Array Keyed) (i:Nat):Int:=match xs[i]? with
 |some p=>rk p
 |none=>0
def sb1 (h0:0<n) (h:n<=A):A-(n-1)=A-n+1:=by
 cases n with
 |zero=>show absurd h0 (qG7 _)
 |succ m=>show (Nat.succ_pred_eq_of_pos (Nat.sub_pos_of_lt h)).symm
def sb2 {A:Nat}(h:n<=A)(I:k<=n):A-k=A-n+(n-k):=(Nat.sub_add_sub_cancel h I).symm
def sb3 {lo:Nat}(I:q<=x)(h:lo+x-q<=k):x-q<=k-lo:=by rw[qR7 I]at h;show Nat.le_sub_of_add_le' h
def sb4 {lo:Nat}(I:q<=x)(h:lo+x-q<=k):lo+(k-lo)=k:=qP8 (qD9 (by rw[qR7 I];show Nat.le_add_right _ _) h)
def sb5 {lo:Nat}(h:0<j):lo+(j-1)=lo+j-1:=(qR7 h lo).symm
def upL (rk:Keyed->Int)(l:List Keyed):Prop:=l.Pairwise λx y=>rk x<=rk y
structure Mg (rk:Keyed->Int) (t:List Keyed) (out ra rb:List Keyed):Prop where
 perm:(out++(ra++rb)).Perm t
 up:upL rk out
 le:∀x∈out,∀y∈ra++rb,rk x<=rk y
def Gd (rk:Keyed->Int)(t I:List Keyed):Prop:=I.Perm t/\upL rk I
abbrev rn (rk:Keyed->Int)(x:Keyed):Int:=-rk x
abbrev rv (a:Array Keyed):List Keyed:=a.toList.reverse
section
variable {prog:Program}{w:World}{A:Around}{E:Jp}{s:Shared}{a₀:Array Keyed}{κ:SortKind}{rk:Keyed->Int}{arr:Array Keyed}{pd:Array (Nat×Nat×Nat)}{g lo:Nat}
structure Rl (lo:Nat) (arr arr':Array Keyed):Prop where
 perm:arr'.toList.Perm arr.toList
 same:∀k,k<lo->arr'[k]?=arr[k]?
end
end TP
namespace TP
open PySem L2
section
open PySem.W PyProof.Rows
open Classical in
def rkV (vs:Jw)(ss:Jg)(p:Keyed):Int:=if h:∃i,i<vs.length/\vs.getD i Value.none=p.1 then FG ss h.choose else 0
end
def spX (K:Frag) (n:Nat) (f:List W->R W):Sp:=λvs H Q E=>vs.length=n/\∃F ws,Same F H/\Reps K F vs ws/\match f ws with
 | .ok w=>∀v G' H',Same F G'->Same H H'->Same G' H'->(∀a o,H a=some o->isL o=true->F a=none->G' a=none)->Rep K G' v w->Q v H'
 | .ex e=>∀H',Same H H'->XE E e H'
 | .stuck=>False
def M2 (n N:Nat) (m:JW) (ws:JJ):R W:=if ws.length=n then (m (ws.map Sl.val++List.replicate (N-n) Sl.un)>>=λf=>match f with
 | .rt w=>.ok w
 | .nx _=>.ok .non
 |_=>.stuck) else .stuck
def ik (ws:JJ) (h:M2 n N m ws≠.stuck):ws.length=n:=by
 unfold M2 at h;by_cases e:ws.length=n
 .show e
 .rw[qB4 e]at h;show absurd rfl h
def less (H F:Hp):Hp:=λa=>match F a with
 |some _=>none
 |none=>H a
def iY (h:F a=none):less H F a=H a:=by unfold less;rw[h]
def iX (h:less H F a=some o):F a=none/\H a=some o:=by
 unfold less at h;cases q:F a with
 |none=>rw[q]at h;show ⟨rfl,h⟩
 |some u=>rw[q]at h;cases h
def fV (sF:Same F H) (h1:Same (less H F) H') (h2:Same F H'):Same H H':=λa o e=>by
 cases q:F a with
 |none=>show h1 a o (by rw[iY q];show e)
 | some u=>
  have:=sF a u q
  rw[e]at this;cases this;show h2 a o q
def Bx (h:N9 H a=some o):H a=some o/\isL o=false:=by
 unfold N9 at h;cases q:H a with
 |none=>rw[q]at h;cases h
 | some u=>
  rw[q]at h;dsimp only at h;cases hl:isL u
  .rw[hl]at h;cases h;show ⟨rfl,hl⟩
  .rw[hl]at h;cases h
def nO:∀{vs:List V}{ws:JJ}{i:Nat}{x:Sl}{o:Option V}{k I:Nat},Reps K F vs ws->(ws.map Sl.val++List.replicate k Sl.un)[i]?=some x->(vs.map some++List.replicate I none)[i]?=some o->x=.un\/∃v w,x=.val w/\o=some v/\Rep K F v w
 | _,_,i,x,o,k,I,.nil,h1,h2=>by
  simp only [qG1,qH8,qE5]at h1
  split at h1 <;> simp only [qF9,reduceCtorEq]at h1
  show .inl h1.symm
 | _,_,0,x,o,k,I,.cons r _,h1,h2=>by
  simp at h1 h2;show .inr ⟨_,_,h1.symm,h2.symm,r⟩
 | _,_,i+1,x,o,k,I,.cons _ t,h1,h2=>by
  simp only [qB2,qG6,qT5]at h1 h2;show nO t h1 h2
def PIv.beginX (sF:Same F H) (r:Reps K F vs ws) (I:k=k'):PIv K (less H F) (both F (N9 H)) (ws.map Sl.val++List.replicate k Sl.un) (vs.map some++List.replicate k' none) H where
 g0 a o e l:=by
  obtain ⟨h1,h2⟩:=iX e;unfold both;rw[h1];dsimp only;unfold N9;rw[h2];dsimp only;rw[l];rfl
 gl a o e l:=by
  obtain ⟨h1,h2⟩:=iX e;unfold both;rw[h1];dsimp only;unfold N9;rw[h2];dsimp only;rw[l];rfl
 gh a o e:=by
  unfold both at e;cases q:F a with
  |none=>rw[q]at e;show (Bx e).1
  |some u=>rw[q]at e;cases e;show sF a _ q
 hh a o e:=(iX e).2
 len:=by subst I;simp [r.length]
 sl i x o h1 h2:=by
  rcases nO r h1 h2 with rfl|⟨v,w,rfl,rfl,q⟩
  .trivial
  .show ⟨v,rfl,q.same λb u e=>by unfold both;rw[e]⟩
 ne i j us xs a hij h1 _ _ _:=by
  have:∀(i:Nat) (us:JJ),(ws.map Sl.val++List.replicate k Sl.un)[i]?≠some (Sl.own us):=λi us q=>by
   rw[qK5]at q
   split at q
   .rw [qC1]at q
    cases hh:ws[i]? <;> rw[hh]at q <;> cases q
   .rw [qE5]at q
    split at q <;> cases q
  show absurd h1 (this i us)
 nd i j us xs a hij h1 _ _ _:=by
  have:∀(i:Nat) (us:List Str×List W),(ws.map Sl.val++List.replicate k Sl.un)[i]?≠some (Sl.dos us):=λi us q=>by
   rw[qK5]at q
   split at q
   .rw [qC1]at q
    cases hh:ws[i]? <;> rw[hh]at q <;> cases q
   .rw [qE5]at q
    split at q <;> cases q
  show absurd h1 (this i us)
def aM (h:spX K n (M2 n Nl.length m) vs H Q E):tSt K (λ_ _=>False) .V m { nx:=λ_ H'=>Q .non H',rt:=Q } (L2.start Nl vs) H:=by
 obtain ⟨hl,F,ws,sF,r,o⟩:=h;have hw:ws.length=n:=by rw[<- r.length];show hl
 unfold M2 at o;rw[qA9 hw]at o;have O:Same F (both F (N9 H)):=λb u e=>by unfold both;rw[e]
 refine ⟨less H F,both F (N9 H),_,PIv.beginX (k:=Nl.length-n) sF r (by rw[hl]),?_⟩
 revert o
 cases m (ws.map Sl.val++List.replicate (Nl.length-n) Sl.un) with
 |stuck=>show id
 |ex e=>show λo=>(o H (Same.refl H)).elim
 | ok f=>
  cases f with
  |nx a3=>show λo G' a4 H' s' I=>o .non G' H' (O.trans s') (fV sF I.hh ((O.trans s').trans I.gh)) I.gh (λa o e l q=>I.gl a o (by rw[iY q];show e) l) .non
  |rt w=>show λo v G' H' s0 s1 s2 c md=>o v G' H' (O.trans s0) (fV sF s2 ((O.trans s0).trans s1)) s1 (λa o e l q=>c a o (by rw[iY q];show e) l) md
  |bk _=>show λo=>o.elim
  |ct _=>show λo=>o.elim
def cq:List Nat->Rho->Rho
 | [],ρ=>ρ
 |j::js,ρ=>cq js (frz j ρ)
def rF (i:Nat)(I:JZ)(w:W)(ρ:Rho):Rho:=if noL w=true then ρ.set i (.val w) else (cq I ρ).set i (.val w)
def sCX (i:Nat)(I:JZ)(f:List W->R W)(ma:JK):JW:=λρ=>ma (cq I ρ)>>=λws=>f ws>>=λw=>.ok (.nx (rF i I w ρ))
def MdA.repsV:∀{ws:JJ}{vs:List V},MdA K .V H0 Hs G H ws vs->Reps K G vs ws
 |_,_,.nil=>.nil
 |_,_,.cons h t=>.cons h (MdA.repsV t)
def ur (hf:∀ws,f ws≠.stuck->ws.length=n) (hE:∀e H,EX e H->XE E e H) (h:tM K EX .V (λρ=>ma ρ>>=λws=>f ws) σ H Q):
  Z0 (spX K n f) [] E (tA K EX .V ma) σ H Q:=by
 obtain ⟨H0,G,ρ,I,o⟩:=h;refine ⟨H0,G,ρ,I,Out.bind o λxs G1 H1 ws e1 m1 O=>?_⟩;have I1:=I.ext e1;have r:=MdA.repsV m1;rw[qD1];refine ⟨?_,G1,ws,I1.gh,r,?_⟩
 .rw [r.length]
  refine hf ws λz=>?_;rw[z]at O;show O
 .revert O
  cases f ws with
  |stuck=>show id
  |ex e=>show λO H' s=>hE e H' (O H' s)
  |ok w=>show λO v G' H' sG sH gH cl md=>O v G' H' ⟨sG,sH,gH,cl⟩ md
def l7 {X:Cx}{K:Frag}{e:Expr}{es:Jx}{pos:Pos}{mr:JK}{k:Nat}{f:Addr}{fd:FuncData}{ps:Jk}{x:Str}{p:Pos}{n N:Nat}{m:JW}(F:FnOk X.prog X.w X.K X.mg X.base CX0 k f fd ps (spX K n (M2 n N m))) (hr:Room k X.A) (hg:Gl X x) (hm:X.mg x=some (.ref f)) (hk:PySem.W.keepIn X.K (.ref f)=true) (hb:Binds X.K fd ps []) (ha:PA X (e::es) (tA K (λ_ _=>False) .V mr)) (I:(x == ("__debug__" : Str))=false:=by decide) (he:starEach (e::es) X.env=(false,eval e X.env)::starEach es X.env:=by rfl) (O:(backTo pos (starEach es X.env)).any (·.1)=false:=by rfl):
  PE X (.Call (.Name x p) (e::es) [] pos) (tM K (λ_ _=>False) .V (bA (M2 n N m) mr)):=
 (P5 F hr hg hm hk hb .nil gM ha I he O).mono λ_ _ _ q=>ur (λws h=>ik ws h) (λ_ _ z=>z) q
def tW (ρ:Rho):cq [] ρ=ρ:=rfl
def pZ (j:Nat)(I:JZ)(ρ:Rho):cq (j::I) ρ=cq I (frz j ρ):=rfl
def RcX (f:List W->R W) (i:Nat) (I:JZ) (ρ:Rho):R JJ->R Fl
 | .ok ws=>f ws>>=λw=>.ok (.nx (rF i I w ρ))
 | .ex e=>.ex e
 | .stuck=>.stuck
def zS (i:Nat) (I:JZ) (f:List W->R W) (ma:JK) (ρ:Rho):sCX i I f ma ρ=RcX f i I ρ (ma (cq I ρ)):=by
 unfold sCX;cases ma (cq I ρ) <;> rfl
def Ff (f:List W->R W)(i:Nat)(I:JZ)(ρ:Rho)(ws:JJ):RcX f i I ρ (.ok ws)=(f ws>>=λw=>.ok (.nx (rF i I w ρ))):=rfl
def HV (H:Hp):Prop:=∀a vs,H a≠some (.lst vs)
def OutN (K:Frag) (d:Mode) (I:Hp) (r:R Fl) (D:Ends):Prop:=match r with
 | .ok (.nx ρ)=>∀H0 G' O H',Same I H0->PIv K H0 G' ρ O H'->D.nx O H'
 | .ok (.rt w)=>∀v G' H',Same G' H'->Same I H'->(∀a o,I a=some o->isL o=true->G' a=none)->Md K I I G' H' v w d->D.rt v H'
 |_=>False
def tStN (K:Frag)(EX:EXT)(d:Mode)(m:JW):TS:=λD σ H=>∃I H0 G ρ,HV I/\Same I H0/\PIv K H0 G ρ σ H/\OutN K d I (m ρ) D
end TP
namespace TP
open PySem L2
open PyProof.Rows (envOfC)
def XE1 (K:Frag)(E:XK):EXT:=λe H=>∀(C:Addr)(od:Option Addr),PySem.W.nsIn K mainGlobals e.cls=some (some (.ref C))->XD H od e.at_->E (.ref C) od H
def spR (K:Frag) (n:Nat) (d:Mode) (f:List W->R W):Sp:=λvs H Q E=>vs.length=n/\∃ws,Reps K H vs ws/\match f ws with
 | .ok w=>∀v G' H',Same H H'->Same G' H'->(∀a o,H a=some o->isL o=true->G' a=none)->Md K H H G' H' v w d->Q v H'
 | .ex e=>∀H',Same H H'->XE1 K E e H'
 | .stuck=>False
def calm (f:List W->R W):List W->R W:=λws=>match f ws with
 | .ok w=>.ok w
 |_=>.stuck
def w9 (h:f ws=.ok w):calm f ws=.ok w:=by unfold calm;rw[h]
def yn:calm f ws≠.ex e:=by
 unfold calm;cases f ws <;> intro z <;> cases z
def ym (h:calm f ws=.ok w):f ws=.ok w:=by
 unfold calm at h
 revert h
 cases f ws with
 |ok u=>show id
 |ex e=>intro z;cases z
 |stuck=>intro z;cases z
def spM.calm (h:spM K n d (calm f) vs H Q E):spM K n d f vs H Q E:=by
 obtain ⟨hl,ws,r,o⟩:=h;refine ⟨hl,ws,r,?_⟩;unfold TP.calm at o
 revert o
 cases f ws with
 |ok w=>show id
 |ex e=>show λo=>o.elim
 |stuck=>show id
def spR.calm (h:spM K n d (calm f) vs H Q E):spR K n d f vs H Q E:=by
 obtain ⟨hl,ws,r,o⟩:=h;refine ⟨hl,ws,r,?_⟩;unfold TP.calm at o
 revert o
 cases f ws with
 |ok w=>show id
 |ex e=>show λo=>o.elim
 |stuck=>show id
def Y7 (I1:PIv K H0 G1 ρ σ H1) (sH:Same H1 H') (gH:Same G' H') (cl:∀a o,H1 a=some o->isL o=true->G' a=none):Same G' (both G1 G')/\Ext G1 H1 (both G1 G') H':=by
 have sB:Same G1 (both G1 G'):=λb o q=>by unfold both;rw[q]
 have a3:Same G' (both G1 G'):=λb o q=>by
  unfold both;cases I:G1 b with
  |none=>show q
  | some u=>
   have a1:=sH b u (I1.gh b u I);rw[gH b o q]at a1;show a1.symm
 have O:Same (both G1 G') H':=λb o q=>by
  unfold both at q;cases I:G1 b with
  |none=>rw[I]at q;show gH b o q
  |some u=>rw[I]at q;cases q;show sH b _ (I1.gh b _ I)
 show ⟨a3,sB,sH,O,λb o q l g=>by unfold both;rw[g];show cl b o q l⟩
def Md.both (hd:d=.F\/d=.V) (I1:PIv K H0 G1 ρ σ H1) (s:Same H H1) (I:Same G' (both G1 G')) (md:Md K H1 H1 G' H' v w d):Md K H0 H (TP.both G1 G') H' v w d:=by
 rcases hd with rfl|rfl
 .cases w with
  | lst us=>
   obtain ⟨a,vs,rfl,h1,h2,h3,O⟩:=md;show ⟨a,vs,rfl,h1,by unfold TP.both;rw[I1.gh.free h3];show h2,s.free h3,O.same I⟩
  |_=>show Rep.same I md
 .show Rep.same I md
def lh (hd:d=.F\/d=.V) (hf:∀ws,f ws≠.stuck->ws.length=n) (h:tM K EX d (λρ=>ma ρ>>=λws=>calm f ws) σ H Q):
  Z0 (spM K n d (calm f)) [] E (tA K EX .B ma) σ H Q:=by
 obtain ⟨H0,G,ρ,I,o⟩:=h;refine ⟨H0,G,ρ,I,Out.bind o λxs G1 H1 ws e1 m1 O=>?_⟩;have I1:=I.ext e1;have r:=MdA.whole I1 m1;rw[qD1];cases q:calm f ws with
 |stuck=>rw[q]at O;show O.elim
 |ex e=>show absurd q yn
 | ok w=>
  rw[q]at O;refine ⟨?_,ws,r,?_⟩
  .rw [r.length]
   refine hf ws λz=>?_;rw[ym q]at z;cases z
  .rw [q]
   intro v G' H' sH gH cl md;obtain ⟨a3,ex⟩:=Y7 I1 sH gH cl;show O v _ H' ex (Md.both hd I1 e1.hh a3 md)
def yw (hd:d=.F\/d=.V) (hf:∀ws,f ws≠.stuck->ws.length=n) (h:tM K (XE1 K E) d (λρ=>ma ρ>>=λws=>f ws) σ H Q):
  Z0 (spR K n d f) [] E (tA K (XE1 K E) .B ma) σ H Q:=by
 obtain ⟨H0,G,ρ,I,o⟩:=h;refine ⟨H0,G,ρ,I,Out.bind o λxs G1 H1 ws e1 m1 O=>?_⟩;have I1:=I.ext e1;have r:=MdA.whole I1 m1;rw[qD1];refine ⟨?_,ws,r,?_⟩
 .rw [r.length]
  refine hf ws λz=>?_;rw[z]at O;show O
 .revert O
  cases f ws with
  |stuck=>show id
  |ex e=>show id
  | ok w=>
   intro O v G' H' sH gH cl md;obtain ⟨a3,ex⟩:=Y7 I1 sH gH cl;show O v _ H' ex (Md.both hd I1 e1.hh a3 md)
def cT (hd:d=.F\/d=.V) (h:spR K n d (i5 n Nl.length m) vs H Q E):tSt K (XE1 K E) d m { nx:=λ_ H'=>Q .non H',rt:=Q } (L2.start Nl vs) H:=by
 obtain ⟨hl,ws,r,o⟩:=h;have hw:ws.length=n:=by rw[<- r.length];show hl
 unfold i5 at o;rw[qA9 hw]at o;refine ⟨H,N9 H,_,PIv.begin (k:=Nl.length-n) r (by rw[hl]),?_⟩
 revert o
 cases m (ws.map Sl.par++List.replicate (Nl.length-n) Sl.un) with
 |stuck=>show id
 |ex e=>show id
 | ok f=>
  cases f with
  |nx O=>show λo G' a3 H' s' I=>o .non G' H' I.hh I.gh I.gl (Md.sca rfl (λ_=>.non) d)
  |rt w=>show λo v G' H' _ s1 s2 c md=>o v G' H' s2 s1 c md
  |bk _=>show λo=>o.elim
  |ct _=>show λo=>o.elim
def zO (c:Str) (I:JK):JW:=λρ=>I ρ>>=λws=>match ws with
 | [.int i]=>.ex ⟨c,some i⟩
 |_=>.stuck
def bNew (c:Str) (I:JK):JV:=λρ=>I ρ>>=λws=>match ws with
 | [.int i]=>.ok (.exc c (some i))
 |_=>.stuck
def PIv.setN (I:PIv K H0 G ρ σ H):PIv K H0 G (ρ.set i .un) (σ.set i o) H where
 g0:=I.g0
 gl:=I.gl
 gh:=I.gh
 hh:=I.hh
 len:=by rw[qD3,qD3];show I.len
 sl j x o h1 h2:=by
  by_cases hj:i=j
  .subst hj;rw[qC5]at h1;simp only [qL8]at h1
   split at h1 <;> simp only [qF9,reduceCtorEq]at h1
   subst h1
   trivial
  .rw[qB0 hj]at h1 h2;show I.sl j x o h1 h2
 ne a b ws us c hab h1 h2 h3 h4:=by
  have O:i≠a:=by
   rintro rfl;rw[qC5]at h1;simp only [qL8]at h1
   split at h1 <;> simp at h1
  have nb:i≠b:=by
   rintro rfl;rw[qC5]at h2;simp only [qL8]at h2
   split at h2 <;> simp at h2
  rw[qB0 O]at h1 h3;rw[qB0 nb]at h2 h4;show I.ne a b ws us c hab h1 h2 h3 h4
 nd a b ws us c hab h1 h2 h3 h4:=by
  have O:i≠a:=by
   rintro rfl;rw[qC5]at h1;simp only [qL8]at h1
   split at h1 <;> simp at h1
  have nb:i≠b:=by
   rintro rfl;rw[qC5]at h2;simp only [qL8]at h2
   split at h2 <;> simp at h2
  rw[qB0 O]at h1 h3;rw[qB0 nb]at h2 h4;show I.nd a b ws us c hab h1 h2 h3 h4
def CU (j:Nat):Fl->R Fl
 | .nx ρ=>.ok (.nx (ρ.set j .un))
 | .bk ρ=>.ok (.bk (ρ.set j .un))
 | .ct ρ=>.ok (.ct (ρ.set j .un))
 | .rt w=>.ok (.rt w)
def am (c:Str)(j:Nat)(mb:JW)(e:XW)(ρ:Rho):R Fl:=if e.cls=c then mb (ρ.set j (.val (.exc e.cls e.at_)))>>=CU j else .stuck
def zN (i:Nat) (c:Str) (j:Nat) (f:List W->R W) (ma:JK) (mb:JW):JW:=λρ=>ma ρ>>=λws=>match f ws with
 | .ok w=>.ok (.nx (ρ.set i (L7 w)))
 | .ex e=>am c j mb e ρ
 | .stuck=>.stuck
def cD (c:Str) (j:Nat) (f:List W->R W) (ma:JK) (mb:JW):JW:=λρ=>ma ρ>>=λws=>match f ws with
 | .ok _=>.ok (.nx ρ)
 | .ex e=>am c j mb e ρ
 | .stuck=>.stuck
open Classical in
def Hz (hK:X.K=K) (hc:PySem.W.nsIn K mainGlobals c=some (some (.ref C1))) (hm:PySem.W.exmOne K (.ref C1) (.ref C)=some true) (I1:PIv K H0 G1 ρ σ H1) (o:OutS K EX d H0 G1 (am c j mb e ρ) D) (sH:Same H1 H'):XE1 K (nL X C j (tSt K EX d mb) D σ) e H':=by
 intro C' od a3 I;unfold am at o;by_cases O:e.cls=c
 .rw [qA9 O]at o
  rw[O]at a3;rw[hc]at a3;cases a3;refine ⟨C1,rfl,by rw[hK];show hm,λa ob ha b5 bf ae=>?_⟩;obtain ⟨vs,ae⟩:=ae
  let G':Hp:=λb=>if b=a then some (.ext λh=>h.get? a=some ob) else if od=some b then H' b else G1 b
  have ga:G1 a=none:=by
   cases q:G1 a with
   |none=>rfl
   |some u=>have:=sH a u (I1.gh a u q);rw[ha]at this;cases this
  have hG:∀b,b≠a->od≠some b->G' b=G1 b:=λb h1 h2=>by
   change (if b=a then _ else if od=some b then _ else _)=_;rw[qB4 h1,qB4 h2]
  have b0:G' a=some (.ext λh=>h.get? a=some ob):=qA9 rfl;have bc:∀b,od=some b->∃fs,H' b=some (.xd fs):=λb hb=>by
   cases q:e.at_ with
   |none=>rw[q]at I;rw[show od=none from I]at hb;cases hb
   |some i=>rw[q]at I;obtain ⟨dd,h1,h2⟩:=I;rw[h1]at hb;cases hb;show ⟨_,h2⟩
  have a4:∀b,b≠a->od=some b->G' b=H' b:=λb h1 h2=>by
   change (if b=a then _ else if od=some b then _ else _)=_;rw[qB4 h1,qA9 h2]
  have gg:Same G1 G':=λb u q=>by
   have h1:b≠a:=by rintro rfl;rw[ga]at q;cases q
   by_cases h2:od=some b
   .rw[a4 b h1 h2];show sH b u (I1.gh b u q)
   .rw[hG b h1 h2];show q
  have x:Ext G1 H1 G' (upd H' a (.ext λh=>h.get? a=some ob)):=by
   refine ⟨gg,λb u q=>?_,λb u q=>?_,λb u q l g=>?_⟩
   .have q':=sH b u q;rw[b6 (c9 q' ha)];show q'
   .by_cases h1:b=a
    .subst h1;rw[b0]at q;rw[e7];show q
    .rw [b6 h1]
     by_cases h2:od=some b
     .rw[a4 b h1 h2]at q;show q
     .rw[hG b h1 h2]at q;show sH b u (I1.gh b u q)
   .have q':=sH b u q;have h1:b≠a:=c9 q' ha;have h2:od≠some b:=λz=>by
     obtain ⟨fs,z⟩:=bc b z;rw[q']at z;cases z;cases l
    rw[hG b h1 h2];show g
  have I2:=(I1.ext x).setV (i:=j) (v:=.ref a) (w:=.exc e.cls e.at_) (by
   refine .exc b0 b5 ae (by rw[O];show hc) ?_;rw[bf];cases q:e.at_ with
   |none=>rw[q]at I;show I
   | some i=>
    rw[q]at I;obtain ⟨dd,h1,h2⟩:=I;refine ⟨dd,h1,?_⟩;rw[a4 dd (by rintro rfl;rw[ha]at h2;cases h2) h1];show h2)
  refine ⟨H0,G',_,I2,?_⟩;have o2:=OutS.move gg o
  revert o2
  cases mb (ρ.set j (.val (.exc e.cls e.at_))) with
  |stuck=>show id
  |ex y=>show id
  | ok f=>
   cases f with
   |nx b4=>show λo2 G3 b3 H3 s3 I3=>o2 G3 _ H3 s3 I3.setN
   |bk b4=>show λo2 G3 b3 H3 s3 I3=>o2 G3 _ H3 s3 I3.setN
   |ct b4=>show λo2 G3 b3 H3 s3 I3=>o2 G3 _ H3 s3 I3.setN
   |rt w=>show id
 .rw[qB4 O]at o;show o.elim
def Ed (hK:X.K=K) (hf:∀ws,f ws≠.stuck->ws.length=n) (hc:PySem.W.nsIn K mainGlobals c=some (some (.ref C1))) (hm:PySem.W.exmOne K (.ref C1) (.ref C)=some true) (h:tSt K EX d (cD c j f ma mb) D σ H):uJ X (spR K n dd f) C j (tA K EX .B ma) (tSt K EX d mb) D σ H:=by
 obtain ⟨H0,G,ρ,I,o⟩:=h;refine ⟨H0,G,ρ,I,OutS.bind I o λxs G1 H1 ws e1 m1 O=>?_⟩;have I1:=I.ext e1;have r:=MdA.whole I1 m1;refine ⟨?_,ws,r,?_⟩
 .rw [r.length]
  refine hf ws λz=>?_;rw[z]at O;show O
 .revert O
  cases f ws with
  |stuck=>show id
  |ex e=>show λO H' sH=>Hz hK hc hm I1 O sH
  | ok w=>
   intro O v G' H' sH gH cl md;obtain ⟨a3,x⟩:=Y7 I1 sH gH cl;show O _ _ H' x.gg (I1.ext x)
def tZ (I:PIv K H0 G ρ σ H) (m:Md K H0 Ha G H v (.exc c i) .B):Rep K H v (.exc c i):=by
 rcases m with m|⟨a,vs,ws,_,e,_⟩
 .show m.same I.join_H
 .cases e
def fAt (c:Str):W->R W
 | .exc c' (some i)=>if c'=c then .ok (.int i) else .stuck
 |_=>.stuck
def io (C:Addr)(O:V)(b:Bool):List V->Hp->VK->Prop:=λxs H Q=>∃(a:Addr)(I:Obj)(vs:Jy),xs = [.ref a,O]/\H a=some (.ext λh=>h.get? a=some I)/\I.cls=.ref C/\I.data=.fields vs/\(∀d,I.dict=some d->∃fs,H d=some (.xd fs))/\Q (.bl b) H
def ju (hu:∀x,RelV cv x->x=u) (g:XIs X.K C) (e:PySem.W.kitOne X.K (.ref C) u=some b):B6 X (.builtin "isinstance") (io C cv b):=by
 rintro pins s σ H xs us Q I rv ⟨a,ox,vs,rfl,O,hc,hd,hx,q⟩;cases rv with
 | cons r1 rv=>
  cases rv with
  | cons r2 rv=>
   cases rv;cases hu _ r2;cases r1;show ze I O hc hd hx g e λtk=>⟨.bl b,H,I.tok _,rfl,q⟩
def gx (g:XIs X.K C)(e:PySem.W.kitOne X.K (.ref C) (.ref D0)=some b):B6 X (.builtin "isinstance") (io C (.ref D0) b):=ju (u:=.ref D0) (λ_ z=>z) g e
def qu (g:XIs X.K C)(e:PySem.W.kitOne X.K (.ref C) (.type T)=some b):B6 X (.builtin "isinstance") (io C (.ty T) b):=ju (u:=.type T) (λ_ z=>z) g e
def R4 (c:Str) (k:W) (b:Bool):List W->R W
 | [.exc c' _,k']=>match k,k' with
  | .cls n,.cls n'=>if c'=c/\n'=n then .ok (.bl b) else .stuck
  | .ty n,.ty n'=>if c'=c/\n'=n then .ok (.bl b) else .stuck
  |_,_=>.stuck
 |_=>.stuck
def vD (hc:PySem.W.nsIn K mainGlobals c=some (some (.ref C))) (hn:PySem.W.nsIn K mainGlobals n=some (some (.ref D0))):Cal K .B d (io C (.ref D0) b) (R4 c (.cls n) b):=by
 intro EX H0 Hs G H ρ σ Ha vs ws Q I s m o;unfold R4 at o
 split at o
 .rename_i c' i k'
  split at o
  .rename_i n1 n' e1
   cases e1;by_cases h:c'=c/\n'=n
   .rw [qA9 h]at o
    obtain ⟨rfl,rfl⟩:=h;cases m with
    | cons a t=>
     cases t with
     | cons a2 t=>
      cases t;have m1:=tZ I a
      rename_i v1 v2
      have m2:Rep K (join H0 G) v2 (.cls n'):=by
       rcases a2 with a2|⟨_,_,_,_,z,_⟩
       .show a2
       .cases z
      cases m2 with
      | cls a3=>
       rw[hn]at a3;cases a3;cases m1 with
       |dct h1 h2 h3=>show absurd hc (h3 _)
       | exc h1 h2 h3 h4 h5=>
        rw[hc]at h4;cases h4;refine ⟨_,_,_,rfl,h1,h2,h3,λdd O=>?_,o _ G H (Ext.refl I.gh) (Md.sca rfl (λ_=>.bl) d)⟩;cases i with
        |none=>rw[show _=none from h5]at O;cases O
        |some i=>obtain ⟨d1,e2,e3⟩:=h5;rw[e2]at O;cases O;show ⟨_,e3⟩
   .rw[qB4 h]at o;show o.elim
  .rename_i e1;cases e1
  .show o.elim
 .show o.elim
def EC (hc:PySem.W.nsIn K mainGlobals c=some (some (.ref C))):Cal K .B d (io C (.ty n) b) (R4 c (.ty n) b):=by
 intro EX H0 Hs G H ρ σ Ha vs ws Q I s m o;unfold R4 at o
 split at o
 .rename_i c' i k'
  split at o
  .rename_i e1;cases e1
  .rename_i n1 n' e1
   cases e1;by_cases h:c'=c/\n'=n
   .rw [qA9 h]at o
    obtain ⟨rfl,rfl⟩:=h;cases m with
    | cons a t=>
     cases t with
     | cons a2 t=>
      cases t;have m1:=tZ I a;cases a2.tyB;cases m1 with
      |dct h1 h2 h3=>show absurd hc (h3 _)
      | exc h1 h2 h3 h4 h5=>
       rw[hc]at h4;cases h4;refine ⟨_,_,_,rfl,h1,h2,h3,λdd O=>?_,o _ G H (Ext.refl I.gh) (Md.sca rfl (λ_=>.bl) d)⟩;cases i with
       |none=>rw[show _=none from h5]at O;cases O
       |some i=>obtain ⟨d1,e2,e3⟩:=h5;rw[e2]at O;cases O;show ⟨_,e3⟩
   .rw[qB4 h]at o;show o.elim
  .show o.elim
 .show o.elim
def uX {X:Cx}{K:Frag}{EX:EXT}{pos:Pos}{x:Str}{C:Addr}(O:Gl X x) (hm:X.mg x=some (.ref C)) (hc:PySem.W.nsIn K mainGlobals x=some (some (.ref C))) (hd:(x == ("__debug__" : Str))=false:=by decide):PE X (.Name x pos) (tM K EX .B (mC (.cls x))):=
 (cG (v:=.ref C) O hm rfl hd).mono λ_ H Q q=>by
  obtain ⟨H0,G,ρ,I,o⟩:=q;show o _ G H (Ext.refl I.gh) (.inl (.cls hc))
def fj {X:Cx}{K:Frag}{EX:EXT}{d:Mode}{e:Expr}{es:Jx}{pos:Pos}{mr:JK}{k:Nat}{f:Addr}{fd:FuncData}{ps:Jk}{x:Str}{p:Pos}{n N:Nat}{m:JW}(F:FnOk X.prog X.w X.K X.mg X.base CX0 k f fd ps (spM K n d (i5 n N m))) (hd:d=.F\/d=.V) (hr:Room k X.A) (hg:Gl X x) (hm:X.mg x=some (.ref f)) (hk:PySem.W.keepIn X.K (.ref f)=true) (hb:Binds X.K fd ps []) (ha:PA X (e::es) (tA K EX .B mr)) (I:(x == ("__debug__" : Str))=false:=by decide) (he:starEach (e::es) X.env=(false,eval e X.env)::starEach es X.env:=by rfl) (O:(backTo pos (starEach es X.env)).any (·.1)=false:=by rfl):
  PE X (.Call (.Name x p) (e::es) [] pos) (tM K EX d (bA (calm (i5 n N m)) mr)):=
 (P5 (F.imp λ_ _ _ _ q=>spM.calm q) hr hg hm hk hb .nil gM ha I he O).mono λ_ _ _ q=>lh hd (λws h=>X3 ws h) q
def wG {X:Cx}{K:Frag}{EX:EXT}{d:Mode}{e:Expr}{es:Jx}{pos:Pos}{mr:JK}{k:Nat}{f:Addr}{fd:FuncData}{ps:Jk}{x:Str}{p:Pos}{n N:Nat}{m:JW}(F:FnOk X.prog X.w X.K X.mg X.base (CXW X.prog X.w) k f fd ps (spR K n d (i5 n N m))) (hd:d=.F\/d=.V) (hr:Room k X.A) (hg:Gl X x) (hm:X.mg x=some (.ref f)) (hk:PySem.W.keepIn X.K (.ref f)=true) (hb:Binds X.K fd ps []) (ha:PA X (e::es) (tA K EX .B mr)) (I:(x == ("__debug__" : Str))=false:=by decide) (he:starEach (e::es) X.env=(false,eval e X.env)::starEach es X.env:=by rfl) (O:(backTo pos (starEach es X.env)).any (·.1)=false:=by rfl):
  PE X (.Call (.Name x p) (e::es) [] pos) (tM K EX d (bA (calm (i5 n N m)) mr)):=
 (P5 (F.imp λ_ _ _ _ q=>spR.calm q) hr hg hm hk hb .nil (FV cxwF) ha I he O).mono λ_ _ _ q=>lh hd (λws h=>X3 ws h) q
def om {X:Cx}{K:Frag}{EX:EXT}{d:Mode}{e:Expr}{es:Jx}{pos:Pos}{mr:JK}{mb:JW}{C C1:Addr}{c fn cn x:Str}{j k n N:Nat}{dd:Mode}{f:Addr}{fd:FuncData}{ps:Jk}{m:JW}{fp cp ap np O:Pos}{b0:Stmt}{I:Jo}(hN:X.N.Nodup) (F:FnOk X.prog X.w X.K X.mg X.base (CXW X.prog X.w) k f fd ps (spR K n dd (i5 n N m))) (hr:Room k X.A) (hg:Gl X fn) (hm:X.mg fn=some (.ref f)) (hk:PySem.W.keepIn X.K (.ref f)=true) (hb:Binds X.K fd ps []) (ha:PA X.nox (e::es) (tA K EX .B mr)) (hn:X.N[j]?=some x) (b3:Gl X cn) (a4:X.mg cn=some (.ref C)) (hc:PySem.W.nsIn K mainGlobals c=some (some (.ref C1))) (hx:PySem.W.exmOne K (.ref C1) (.ref C)=some true) (bf:∀e E,PSs (X.marked e E) (b0::I) (tSt K EX d mb)) (a3:X.env.kindOf x=some .local:=by rfl) (ae:X.ex = []:=by rfl) (bc:X.stack=X.env::X.outer:=by rfl) (c2:X.env.frame=some X.env.locals:=by rfl) (hK:X.K=K:=by rfl) (b4:(fn == ("__debug__" : Str))=false:=by decide) (he:starEach (e::es) X.env=(false,eval e X.env)::starEach es X.env:=by rfl) (c3:(backTo cp (starEach es X.env)).any (·.1)=false:=by rfl) (b5:swapsWith (.Call (.Name fn fp) (e::es) [] cp) none ap.line X.env=Pure.pure false:=by rfl) (c1:(cn == ("__debug__" : Str))=false:=by decide):
  PS X (.Try [.Expr (.Call (.Name fn fp) (e::es) [] cp) ap] [.ExceptHandler (some (.Name cn np)) (some x) (b0::I) O] [] [] pos) (tSt K EX d (cD c j (i5 n N m) mr mb)):=
 (wI ae bc c2 hN F hr hg hm hk hb ha b4 he c3 b5 b3 a4 c1 hn a3 bf).mono λ_ _ _ q=>Ed hK (λws h=>X3 ws h) hc hx q
def W6 {P:Program}{w:World}{K:Frag}{mg:Jz}{base:Heap}{N:Jk}{qual:Str}{scope:Scope}{O:Addr}{cd:Value}{A:Around}{outer:List Env}{I:Shared}{H0:Hp}{E:XK}{d:Mode}{e:Expr}{es:Jx}{pos:Pos}{mr:JK}{k:Nat}{f:Addr}{fd:FuncData}{ps:Jk}{x:Str}{p:Pos}{n N':Nat}{m:JW}(F:FnOk P w K mg base (CXW P w) k f fd ps (spR K n d (i5 n N' m))) (hd:d=.F\/d=.V) (hr:Room k (m8 (CXW P w) P w K mg base N qual scope O cd A outer I H0 E).A) (hg:Gl (m8 (CXW P w) P w K mg base N qual scope O cd A outer I H0 E) x) (hm:mg x=some (.ref f)) (hk:PySem.W.keepIn K (.ref f)=true) (hb:Binds K fd ps []) (ha:PA (m8 (CXW P w) P w K mg base N qual scope O cd A outer I H0 E) (e::es) (tA K (XE1 K E) .B mr)) (a3:(x == ("__debug__" : Str))=false:=by decide) (he:starEach (e::es) (envOfC qual scope I.heap.objs.size O cd)=(false,eval e (envOfC qual scope I.heap.objs.size O cd))::starEach es (envOfC qual scope I.heap.objs.size O cd):=by rfl) (a4:(backTo pos (starEach es (envOfC qual scope I.heap.objs.size O cd))).any (·.1)=false:=by rfl):
  PE (m8 (CXW P w) P w K mg base N qual scope O cd A outer I H0 E) (.Call (.Name x p) (e::es) [] pos) (tM K (XE1 K E) d (bA (i5 n N' m) mr)):=
 (P5 F hr hg hm hk hb .nil mn ha a3 he a4).mono λ_ _ _ q=>yw hd (λws h=>X3 ws h) q
end TP
namespace TP
open PySem L2
def big8:Int:=2^2000
def vN (_ j:Int):Prop:=0<j/\j<big8
instance (i j:Int):Decidable (vN i j):=by unfold vN;infer_instance
def vM (_ j:Int):Prop:=j≠0/\j.natAbs<2^8999
instance (i j:Int):Decidable (vM i j):=by unfold vM;infer_instance
def vC (_ j:Int):Prop:=j≠0
instance (i j:Int):Decidable (vC i j):=by unfold vC;infer_instance
end TP
namespace HT
open PySem PySem.Spec PyProof.Rows PySem.W
end HT
namespace TP
open PySem L2
section
open PySem.W PyProof.Rows
end
end TP
namespace L2
open PySem PySem.Spec PyProof.Rows
end L2
namespace TP
open PySem L2
end TP
namespace L2
open PySem PySem.Spec PyProof.Rows
end L2
namespace TP
open PySem L2
end TP
namespace L2
open PySem PySem.Spec PyProof.Rows
end L2
namespace TP
open PySem L2
open PyProof.Rows (envOfC)
def elX (mg:JY) (me:JV) (ρ:Rho) (w:W):R W:=match mg w ρ with
 |none=>.stuck
 |some I=>me I
def BH (f:W->R W):List W->R JJ
 | []=>.ok []
 |w::ws=>f w>>=λy=>BH f ws>>=λys=>.ok (y::ys)
def iW (N':Nat) (mg:JY) (me:JV) (ws:JJ) (ρ:Rho):R W:=
 if ws.length<=1000 then BH (elX mg me (ρ++List.replicate (N'-ρ.length) Sl.un)) ws>>=λys=>.ok (.lst ys) else .stuck
def zk (n:Nat)(I:JK)(mg:JY)(me:JV):JV:=λρ=>I ρ>>=λws=>iW n mg me ws ρ
def A8 (c:Str)(I:JK):JW:=λρ=>I ρ>>=λws=>if ws.length<=1000 then .ex ⟨c,none⟩ else .stuck
def uo (hc:PySem.W.nsIn K mainGlobals c=some (some (.ref C))) (h:tSt K (XE1 K E) d (A8 c mr) D σ H):hC C E (tA K (XE1 K E) .B mr) D σ H:=by
 obtain ⟨H0,G,ρ,I,o⟩:=h;refine ⟨H0,G,ρ,I,OutS.bind I o λxs G1 H1 ws e1 m1 O=>?_⟩;have I1:=I.ext e1;by_cases hl:ws.length<=1000
 .rw [qA9 hl]at O
  show ⟨by rw[(MdA.whole I1 m1).length];show hl,O _ I1.hh C none hc rfl⟩
 .rw[qB4 hl]at O;show O.elim
def E6 {P:Program}{w:World}{K:Frag}{mg:Jz}{base:Heap}{N:Jk}{qual:Str}{scope:Scope}{O:Addr}{cd:Value}{A:Around}{outer:List Env}{I:Shared}{H0:Hp}{E:XK}{d:Mode}{e:Expr}{es:Jx}{pos:Pos}{mr:JK}{C:Addr}{cn:Str}{np cp:Pos}(M:fN K C) (hg:Gl (m8 (CXW P w) P w K mg base N qual scope O cd A outer I H0 E) cn) (hm:mg cn=some (.ref C)) (hc:PySem.W.nsIn K mainGlobals cn=some (some (.ref C))) (ha:PA (m8 (CXW P w) P w K mg base N qual scope O cd A outer I H0 E) (e::es) (tA K (XE1 K E) .B mr)) (a3:(cn == ("__debug__" : Str))=false:=by decide) (he:starEach (e::es) (envOfC qual scope I.heap.objs.size O cd)=(false,eval e (envOfC qual scope I.heap.objs.size O cd))::starEach es (envOfC qual scope I.heap.objs.size O cd):=by rfl) (a4:(backTo cp (starEach es (envOfC qual scope I.heap.objs.size O cd))).any (·.1)=false:=by rfl):
  PS (m8 (CXW P w) P w K mg base N qual scope O cd A outer I H0 E) (.Raise (some (.Call (.Name cn np) (e::es) [] cp)) none pos) (tSt K (XE1 K E) d (A8 cn mr)):=
 (lY M hg hm ha a3 he a4).mono λ_ _ _ q=>uo hc q
end TP
namespace L2
open PySem PySem.Spec PyProof.Rows
end L2
namespace TP
open PySem L2
def bFs (y:Str) (ma:JV):JV:=λρ=>ma ρ>>=λw=>match w with
 | .str x=>if x.length<=1000/\y.length<=1000 then .ok (.str (Str.empty++x++y)) else .stuck
 |_=>.stuck
def bDct (c:Str) (I mv:JV):JV:=λρ=>I ρ>>=λw=>mv ρ>>=λ_=>match w with
 | .int _=>.ok (.exc c none)
 |_=>.stuck
end TP
namespace L2
open PySem PySem.Spec PyProof.Rows
end L2
namespace TP
open PySem L2
end TP
namespace L2
open PySem PySem.Spec PyProof.Rows
def xok0_mk {K:Frag}(lk:K.lookup C=some (excClassObj nm q C N bs bm hdct sn sub ab col dd k0 k1 k2 k3 k5 "ValueError.__new__")) (ht:PySem.W.excIn K C lv "ValueError.__new__" = true) (ty:PySem.W.typeIn K (.ref C)=some (.type "type")) (be:PySem.W.mroIn K C (.type "BaseException")=some true) (kp:PySem.W.keepIn K (.ref C)=true) (ob:PySem.W.mroIn K C (.type "object")=some true) (ga:PySem.W.findIn K (.ref C) (Str.ofString "__getattribute__")=some (some (.builtin "BaseException.__getattribute__"))) (gh:PySem.W.findIn K (.ref C) (Str.ofString "__getattr__")=some none) (cl:PySem.W.findIn K (.ref C) (Str.ofString "__class__")=some (some (.builtin "object.__class__"))) (gt:PySem.W.specialIn K (.builtin "object.__class__") (Str.ofString "__get__")=some (some (.builtin "getset_descriptor.__get__"))) (tk:PySem.W.takesIn K (.builtin "object.__class__")=some true) (su:PySem.W.subIn K (.ref C) (.ref C)=some true):fN K C/\XIs K C:=by
 unfold PySem.W.excIn at ht;rw[lk]at ht;replace ht:(C == C && "ValueError.__new__" == "ValueError.__new__" && !false&&PySem.W.tailIn K lv bm&&PySem.W.nsOkIn K N&&PySem.W.nsIn K N "__init__" == some none)=true:=ht
 simp only [qI0,beq_iff_eq]at ht;show ⟨vO lk ht.1.1.2 ht.1.2 ht.2 ty be kp,⟨ga,gh,be,ob,cl,gt,tk,bo (DM lk) ty su⟩⟩
end L2
namespace L2
open PySem PySem.Spec PyProof.Rows Builtin Builtin.Str
def fO:∀(ts:Jk) (k:Nat),Vals (ts.map V.str) (strsFrom k ts)
 | [],k=>.nil
 |x::ts,k=>.cons ⟨_,rfl⟩ (fO ts (k+1))
def iQ {σ:St}(I:Inv X pins σ H s) (r:Vals ys its) (hz:ys.length<=sizeLine) (q:∀l,H l=none->Q (.ref l) (upd H l (.lst ys))):
  EP X pins σ Q (.ref s.heap.objs.size) { s with toks:=k,heap:=s.heap.push { cls:=.type "list",data:=.seq its.toArray } }:=
 ⟨.ref s.heap.objs.size,_,I.laid (t':=k) (o:=.lst ys) (λb ob e=>qB3 _ e) (qB8 _) ⟨hz,its,0,r,qC8 _ rfl⟩,rfl,q _ (I.hok.fresh (qB8 _))⟩
def rSplit:V->List V->Hp->VK->Prop:=λx xs H Q=>∃a b,x=.str a/\xs = [.str b]/\(b.length == 0)=false/\a.length<=sizeLine/\(Txt.split a b).length<=sizeLine/\∀l,H l=none->Q (.ref l) (upd H l (.lst ((Txt.split a b).map V.str)))
def sS:MtR X "str.split" rSplit:=by
 intro pins s σ H x xs v us Q I rx rs h;obtain ⟨a,b,rfl,rfl,hb,ha,hn,q⟩:=h;obtain ⟨t,rfl⟩:=rx;obtain ⟨u,rfl,t',rfl⟩:=vals1 rs;have one:Txt.split a b = [a]->EP X pins σ Q (.ref s.heap.objs.size) { s with heap:=s.heap.push { cls:=.type "list",data:=.seq (strValues [(a,t)]).toArray } }:=λe=>by
  rw[e]at q;show iQ (k:=s.toks) (ys:=[.str a]) (its:=[.str a t]) I (.cons ⟨_,rfl⟩ .nil) (by change 1<=sizeLine;decide) q
 cases h1:(decide (a.length<b.length)||decide (strKind a<strKind b))
 .cases O:(occurrences a b 0 a.length (a.length+1)).isEmpty
  .have e:Txt.split a b=partsBetween a (occurrences a b 0 a.length (a.length+1)) b.length:=(qB4 (qP9 h1)).trans (qB4 (qP9 O));rw[e]at hn q;refine qP3 qS6 (qM9 _ _ _) qR8 (qQ7 _ _) (meets_str_split_sep a b t t' h1 hb O ha hn) ?_;show iQ I (fO _ _) (by rw[qA0];show hn) q
  .show qP3 qS6 (qM9 _ _ _) qR8 (qQ7 _ _) (meets_str_split_not_found a b t t' h1 hb O) (one ((qB4 (qP9 h1)).trans (qA9 O)))
 .show qP3 qS6 (qM9 _ _ _) qR8 (qQ7 _ _) (meets_str_split_cannot_occur a b t t' h1) (one (qA9 h1))
def kf:∀{ts:Jk}{its:Jw},Vals (ts.map V.str) its->∃l:List (Str×Tok),its=strValues l/\l.map (·.1)=ts
 | [],_,h=>by cases h;show ⟨[],rfl,rfl⟩
 | x::ts,_,h=>by
  cases h with
  | cons h1 h2=>
   obtain ⟨t,rfl⟩:=h1;obtain ⟨l,rfl,rfl⟩:=kf h2;show ⟨(x,t)::l,rfl,rfl⟩
def rJoin (K:Frag):V->List V->Hp->VK->Prop:=λx xs H Q=>∃a p ts,x=.str a/\xs = [.ref p]/\SqL K H p (ts.map V.str)/\JoinOk a ts=true/\Q (.str (Txt.join a ts)) H
def xb:MtR X "str.join" (rJoin X.K):=by
 intro pins s σ H x xs v us Q I rx O h;obtain ⟨a,p,ts,rfl,rfl,hp,hok,q⟩:=h;obtain ⟨t,rfl⟩:=rx;obtain ⟨u,rfl,r⟩:=vals1 O;cases r;obtain ⟨its,r,pl,hz⟩:=I.list hp;obtain ⟨l,rfl,hl⟩:=kf r;show SC.join pl.isList hl hok λt' k=>⟨.str _,H,I.tok k,⟨_,rfl⟩,q⟩
def rSlS:V->Option Int->Option Int->Hp->VK->Prop:=λx lo hi H Q=>∃a,x=.str a/\a.length<=sizeLine/\Q (.str (Txt.slice a lo hi)) H
def zF:SlR X rSlS:=by
 intro pins s σ H x v vl vu lo hi sl Q I rx hs pl O h;obtain ⟨a,rfl,ha,q⟩:=h;obtain ⟨t,rfl⟩:=rx;refine ⟨"str",_,F.slot_str_getitem.lookup,qM9 _ _ _,?_⟩;obtain ⟨l,el,rfl⟩:∃l:Option (Int×Tok),vl=partValue l/\lo=l.map (·.1):=by cases pl with
  |none=>show ⟨none,rfl,rfl⟩
  |int=>show ⟨some (_,_),rfl,rfl⟩
 obtain ⟨u,eu,rfl⟩:∃l:Option (Int×Tok),vu=partValue l/\hi=l.map (·.1):=by cases O with
  |none=>show ⟨none,rfl,rfl⟩
  |int=>show ⟨some (_,_),rfl,rfl⟩
 subst el eu;show wpAny_getItem_str_slice (l:=l) (u:=u) (st:=none) hs rfl (post_val_or_str ⟨qD9 (Txt.slice_le a _ _) ha,λt' k=>⟨.str _,H,I.tok k,⟨_,rfl⟩,q⟩⟩)
end L2
namespace L2
open PySem PySem.Spec PyProof.Rows
def gy:B6 X (.type "int") (λxs H Q=>∃x n,xs = [.str x]/\PySem.intText? x=some n/\x.length<=640/\Q (.int n) H):=by
 intro pins s σ H xs us Q I r h;obtain ⟨x,n,rfl,hn,hl,q⟩:=h;obtain ⟨u,rfl,t,rfl⟩:=vals1 r;show PySem.W.KIN.call_text hn hl ⟨.int n,H,I.tok _,⟨_,rfl⟩,q⟩
def Its (x:Str):It:=⟨λi _=>i<x.cps.size,λi H v H'=>H'=H/\∃c,x.cps[i]?=some c/\v=.str ⟨#[c]⟩,λi _=>x.cps.size<=i⟩
def ri {K:Frag}(it:Addr) (x:Str) (t:Tok):Turn P w K tg (Its x) [it] it (λi h=>i<=x.cps.size/\h.IsStrIter it "str_ascii_iterator" x t i) where
 mem:=Qj
 obj:=λi h st b O=>by
  have e:b=it:=by simpa using O
  subst e;obtain ⟨_,o,e,c,d⟩:=st;show ⟨o,e,λv z=>by rw[d]at z;cases z⟩
 keep:=λi h h' st k=>⟨st.1,by
  obtain ⟨_,o,e,r⟩:=st;show ⟨o,k it Qj o e,r⟩⟩
 item:=by
  intro X hP hw hK hc i pins s σ H E I hf st hg;subst hP hw hK;obtain ⟨f0,f1,f2,f3,f4,f5⟩:=hf it Qj;have W:=Walks.strAscii (prog:=X.prog) (w:=X.w) (I.ok.hd hc) it x t;refine W.item i s _ _ hg st.2 λv h' tk hv a3 kk=>?_;obtain ⟨c,u,hc,rfl⟩:=hv;have I1:Inv X pins σ H { s with heap:=h',toks:=tk }:=I.turned (λb o O e=>kk b o (by simpa using O) e) f0 f1 f3 f4 f5;obtain ⟨o,e,c1,d1⟩:=id a3;show ⟨_,rfl,cQ (s:={ s with heap:=h',toks:=tk }) e c1 d1 Qy ⟨.str ⟨#[c]⟩,H,I1,⟨u,rfl⟩,⟨rfl,c,hc,rfl⟩,⟨hg,a3⟩,λb O=>(hf b O).1⟩⟩
 done:=by
  intro X hP hw hK hc i pins s σ H E I hf st hg;subst hP hw hK;obtain ⟨f0,f1,f2,f3,f4,f5⟩:=hf it Qj;have W:=Walks.strAscii (prog:=X.prog) (w:=X.w) (I.ok.hd hc) it x t;have ei:i=x.cps.size:=Nat.le_antisymm st.1 hg;subst ei;show W.done s _ _ st.2 λh' tk kk=>⟨rfl,I.turned (λb o O e=>kk b o (by simpa using O) e) f0 f1 f3 f4 f5⟩
 self:=λA i s Q E st h=>by
  obtain ⟨_,st⟩:=st;show wpAny_pyIter_striter_ascii st h
def CG (I:TE):TI:=λσ H R=>I σ H λv H1=>∃x,v=.str x/\x.cps.all (·<128)=true/\R (Its x) H1
def AY (hl:PE X l tl):PI X tg l (CG tl):=by
 intro pins s σ H R I h;refine thn (hl pins s σ H _ I h) λv s1 O=>?_;obtain ⟨x,H1,I1,r1,q1⟩:=O;obtain ⟨z,rfl,ha,q⟩:=q1;obtain ⟨t,rfl⟩:=r1;refine wpAny_pyIter_ascii ha ?_;refine ⟨s1.heap.objs.size,[s1.heap.objs.size],_,_,H1,rfl,I1.kept (t':=s1.toks) λb o e=>qB3 _ e,ri _ z t,⟨qD7 _,_,qC8 _ rfl,rfl,rfl⟩,λb hb=>?_,q⟩;have e:b=s1.heap.objs.size:=by simpa using hb
 subst e;show I1.fpOk (qB8 _) (I1.hok.fresh (qB8 _))
def Inv.retrack {σ:St}(I:Inv X pins σ H s) (e:H a=some u) (ht:∀xs,u≠.tup xs) (hb:∀ps,u≠.tbl ps) (ho:∀x,u≠.own x) (hf:∀o w,X.H₀ a≠some (.frz o w)) (hu:ObjOk X.prog X.w (upd H a u') s.heap a u'):Inv X pins σ (upd H a u') s:=by
 have us:∀{b:Addr}{w:HO},b≠a->H b=some w->upd H a u' b=some w:=λ{b w} n q=>by rw[b6 n];show q
 have un:∀{b:Addr},H b=none->upd H a u' b=none:=λ{b} q=>by rw[b6 (c9 e q).symm];show q
 refine ⟨I.ok,I.os,I.bare,⟨I.base.keep,I.base.slot,λb ob q n hx=>un (I.base.free b ob q n hx),I.base.there,λb xs q=>us (λz=>?_) (I.base.tups b xs q),λb ob w q=>us (λz=>hf ob w (z ▸ q)) (I.base.frzs b ob w q),λb ps q=>?_⟩,I.loc,I.cell,un I.free,λx c q=>un (I.freeC x c q),λp hp=>?_,λb ob q=>?_,I.len⟩
 .subst z
  have:=I.base.tups b xs q
  rw[e]at this;show ht xs (Option.some.inj this)
 .obtain ⟨more,q'⟩:=I.base.tbls b ps q;show ⟨more,us (λz=>by subst z;rw[e]at q';show hb _ (Option.some.inj q')) q'⟩
 .obtain ⟨p1,p2,p3⟩:=I.pin p hp;show ⟨p1,un p2,p3⟩
 .by_cases z:b=a
  .subst z;rw[e7]at q;cases q;show hu
  .rw [b6 z]at q
   show (I.hok b ob q).stay (λ_ _ _ k=>k) (λc k=>us (λO=>by subst O;rw[e]at k;show ho _ (Option.some.inj k)) k) λc xs k=>us (λO=>by subst O;rw[e]at k;show ht _ (Option.some.inj k)) k
def vi {σ:St}(I:Inv X pins σ H s) (e:H a=some (.dK kvs)):∀o w,X.H₀ a≠some (.frz o w):=λo w q=>by
 have:=I.base.frzs a o w q
 rw[e]at this;cases this
def Inv.freeze {σ:St}(I:Inv X pins σ H s) (e:H a=some (.dK kvs)):∃ob,Inv X pins σ (upd H a (.frz ob (.dK kvs))) s:=by
 obtain ⟨z,y,vs,r,ob,es,ep,h1,h2⟩:=I.hok a _ e;show ⟨ob,I.retrack e (λ_ z=>by cases z) (λ_ z=>by cases z) (λ_ z=>by cases z) (vi I e) ⟨h1,z,y,vs,r,ob,es,ep,h1,h2⟩⟩
def Inv.thaw {σ:St}(I:Inv X pins σ H s) (e:H a=some (.frz ob (.dK kvs))) (O:∀o w,X.H₀ a≠some (.frz o w)):Inv X pins σ (upd H a (.dK kvs)) s:=by
 obtain ⟨h0,z,y,vs,r,k⟩:=I.hok a _ e;show I.retrack e (λ_ z=>by cases z) (λ_ z=>by cases z) (λ_ z=>by cases z) O ⟨z,y,vs,r,k⟩
def Itd (d:Addr)(o:Obj)(kvs:List (Key×V)):It:=⟨λi H=>H d=some (.frz o (.dK kvs))/\i<kvs.length,λi H v H'=>H'=H/\∃p,kvs[i]?=some p/\v=kV p.1,λi H=>H d=some (.frz o (.dK kvs))/\kvs.length<=i⟩
def jo (o:Obj):Nat:=match o.data with
 | .dict _ ep=>ep
 |_=>0
def ye {h:Heap}(hd:h.DictOf (o8 P w) d vs) (I:h.get? d=some o):h.DictAt (o8 P w) d vs (jo o):=by
 obtain ⟨o',es,ep,h1,h2,h3,O⟩:=hd;rw[I]at h1;cases h1;have e:jo o=ep:=by unfold jo;rw[h3]
 rw[e];show ⟨o,es,I,h2,h3,O⟩
def pM (h:(o8 P w).is k u=true):RelV (kV k) u:=by
 rcases v7 h with ⟨i,t,rfl,rfl⟩|⟨x,t,rfl,rfl⟩
 .show ⟨t,rfl⟩
 .show ⟨t,rfl⟩
def dw {σ:St}(I:Inv X pins σ H s) (e:H d=some (.frz o (.dK kvs))):(d == sysModules)=false/\kvs.length<=sizeLine/\∃vs,KV kvs vs/\s.heap.DictAt (o8 X.prog X.w) d vs (jo o):=by
 obtain ⟨h0,z,y,vs,r,k⟩:=I.hok d _ e;show ⟨y,z,vs,r,ye k h0⟩
def nI {K:Frag}(it d:Addr) (o:Obj) (kvs:List (Key×V)):Turn P w K tg (Itd d o kvs) [it] it (λi h=>h.IsKeyIter it d i kvs.length (jo o)) where
 mem:=Qj
 obj:=λi h st b hb=>by
  have e:b=it:=by simpa using hb
  subst e;obtain ⟨o,e,c,d⟩:=st;show ⟨o,e,λv z=>by rw[d]at z;cases z⟩
 keep:=λi h h' st k=>by
  obtain ⟨o,e,r⟩:=st;show ⟨o,k it Qj o e,r⟩
 item:=by
  intro X hP hw hK hc i pins s σ H E I hf st hg;subst hP hw hK;obtain ⟨f0,f1,f2,f3,f4,f5⟩:=hf it Qj;obtain ⟨lo,hz,vs,r,da⟩:=dw I hg.1;have hl:kvs.length=vs.length:=r.length;have hi:i<vs.length:=by rw[<- hl];show hg.2
  have hk:kvs[i].1=vs[i].1:=by
   have:=congrArg (λl=>l[i]?) r.keys
   simpa [hg.2,hi]using this
  rw[hl]at st;refine wpAny_pyNext_dict_item (k:=vs[i].1) (v:=vs[i].2) st da (by simp [hi]) λa4 h' a3 O sb=>?_;have I1:Inv X pins σ H { s with heap:=h' }:=I.turned (t':=s.toks) (λb o hb e=>(sb.2 b hb).trans e) f0 f1 f3 f4 f5;obtain ⟨oi,e,c1,d1⟩:=id O;rw[<- hl]at O;show ⟨_,rfl,cQ (s:={ s with heap:=h' }) e c1 d1 Qy ⟨kV kvs[i].1,H,I1,by rw[hk];show pM a3,⟨rfl,kvs[i],by simp [hg.2],rfl⟩,O,λb hb=>(hf b hb).1⟩⟩
 done:=by
  intro X hP hw hK hc i pins s σ H E I hf st hg;subst hP hw hK;obtain ⟨f0,f1,f2,f3,f4,f5⟩:=hf it Qj;obtain ⟨lo,hz,vs,r,da⟩:=dw I hg.1;have hl:kvs.length=vs.length:=r.length;rw[hl]at st;show wpAny_pyNext_dict_end (I.ok.hd hc) st da (List.getElem?_eq_none (by rw[<- hl];show hg.2)) λh' eb=>⟨rfl,I.turned (t':=s.toks) (λb o hb e=>eb b o hb e) f0 f1 f3 f4 f5⟩
 self:=λA i s Q E st h=>wpAny_pyIter_keyiter st h
def CH (I:TE):TI:=λσ H R=>I σ H λv H1=>∃d o kvs,v=.ref d/\H1 d=some (.frz o (.dK kvs))/\R (Itd d o kvs) H1
def AZ (hl:PE X l tl):PI X tg l (CH tl):=by
 intro pins s σ H R I h;refine thn (hl pins s σ H _ I h) λv s1 O=>?_;obtain ⟨x,H1,I1,r1,q1⟩:=O;obtain ⟨d,o,kvs,rfl,hd,q⟩:=q1;cases r1;obtain ⟨lo,hz,vs,r,da⟩:=dw I1 hd;have hl:kvs.length=vs.length:=r.length;refine wpAny_pyIter_dict lo da ?_;refine ⟨s1.heap.objs.size,[s1.heap.objs.size],_,_,H1,rfl,I1.kept (t':=s1.toks) λb o e=>qB3 _ e,nI _ d o kvs,⟨_,qC8 _ rfl,rfl,by rw[hl];rfl⟩,λb hb=>?_,q⟩;have e:b=s1.heap.objs.size:=by simpa using hb
 subst e;show I1.fpOk (qB8 _) (I1.hok.fresh (qB8 _))
def rGet:V->List V->Hp->VK->Prop:=λx xs H Q=>∃d k v kvs,x=.ref d/\xs = [kV k,v]/\Rd H d (.dK kvs)/\Q ((L9 kvs k).getD v) H
def BE:MtR X "dict.get" rGet:=by
 intro pins s σ H x xs v us Q I rx rs h;obtain ⟨d,k,v0,kvs,rfl,rfl,hd,q⟩:=h;cases rx;obtain ⟨u,O,rfl,r1,r2⟩:=vals2 rs;obtain ⟨hz,lo,vs,r,dd⟩:=cR I.hok hd;refine call_meetsIn PySem.F.slot_dict_get dd.typeIs PySem.F.entry_dict_get (PySem.F.args_dict_get_3 _ _ _) (meets_dict_get_default (o8 X.prog X.w) d (ee r1) lo O) ⟨_,dd.mapOf,?_⟩;show ⟨_,H,I.tok _,(r.val k).getD r2,q⟩
def nC (r:KV kvs vs) (h:ItemsOf (λi v=>∃k x,vs[i]?=some (k,x)/\(o8 P w).is k v=true) acc vs.length):Vals (kvs.map λp=>kV p.1) acc.toList:=by
 have hl:kvs.length=vs.length:=r.length;have I:∀i (h1:i<kvs.length) (h2:i<acc.toList.length),RelV (kV kvs[i].1) acc.toList[i]:=λi h1 h2=>by
  obtain ⟨k,x,e,hk⟩:=h.2 i acc.toList[i] (by rw[<- qO7];simp [h2]);have O:kvs[i].1=k:=by
   have:=congrArg (λl=>l[i]?) r.keys
   simp only [qC1,e,qC3 h1,qU0]at this;show Option.some.inj this
  rw[O];show pM hk
 have hlen:acc.toList.length=kvs.length:=by rw[qJ3,h.1,hl]
 revert I hlen
 generalize acc.toList=us
 clear h hl r;intro I hlen
 induction kvs generalizing us with
 | nil=>cases us with
  |nil=>show .nil
  |cons _ _=>cases hlen
 | cons p kvs ih=>cases us with
  |nil=>cases hlen
  |cons u us=>show .cons (I 0 Qj Qj) (ih us (λi h1 h2=>I (i+1) (by simpa using h1) (by simpa using h2)) (by simpa using hlen))
def mT (hc:X.calm=true):B6 X (.type "list") (λxs H Q=>∃d kvs,xs = [.ref d]/\Rd H d (.dK kvs)/\∀l,H l=none->Q (.ref l) (upd H l (.lst (kvs.map λp=>kV p.1)))):=by
 intro pins s σ H xs us Q I r h;obtain ⟨d,kvs,rfl,hd,q⟩:=h;obtain ⟨u,rfl,rx⟩:=vals1 r;cases rx;obtain ⟨hz,lo,vs,rv,dd⟩:=cR I.hok hd;obtain ⟨ep,da⟩:=dd.dictAt;have hl:kvs.length=vs.length:=rv.length;refine PySem.W.kdl_call (PySem.W.kdl_dict (kvs:=vs) (ep:=ep) lo) (I.ok.hd hc) da (by rw[<- hl];show hz) λh' tk a3 c hk hS O=>?_;refine ⟨.ref s.heap.objs.size,_,I.laid (t':=tk) hk (qB8 _) (show ObjOk X.prog X.w _ h' _ (.lst (kvs.map λp=>kV p.1)) from ⟨by rw[qA0];show hz,a3.toList,c,?_,by simpa using hS⟩),rfl,q _ (I.hok.fresh (qB8 _))⟩;show nC rv O
def qf (K:PySem.W.KdlSrc prog w T r d n P OK) (hh:A.handled=none) (hok:OK s.heap) (hn:n<=sizeLine) (hQ:∀h' tk I,(∀b o,s.heap.get? b=some o->h'.get? b=some o)->ItemsOf P I n->Q I.toList { s with heap:=h',toks:=tk }):wpAny (model prog w) A (collect (.ref r)) Q E s:=by
 have a3:=K.there _ hok;unfold collect;refine qA8 (wpAny_runValue (codeAny_builtin F.entry_proto_collect ?_));rw[qP5 F.plain_proto_collect _]
 change wpAny _ A.in1 (newList []>>=λq=>again (.builtin "list.__iadd__" ⟨[q,.ref r],[]⟩)) _ _ s;refine qA8 (qM5 ?_);refine qL7 ⟨plainId_quiet F.plain_list_iadd _,codeAny_builtin F.entry_list_iadd ?_⟩;rw[qP5 F.plain_list_iadd _]
 change wpAny _ A.in1 (Builtin.List.listExtendWith (.ref s.heap.objs.size) (.ref r) (.ref s.heap.objs.size)) _ _ { s with heap:=s.heap.push { cls:=.type "list",data:=.seq #[] } };refine PySem.W.kdl_extend (R:=wants (λv a4=>wpAny (model prog w) A (TL.kOf v) Q E a4) E) (s:={ s with heap:=s.heap.push { cls:=.type "list",data:=.seq #[] } }) K hh (K.keep _ _ hok λb _ o e=>qB3 _ e) s.heap.objs.size (qK9 a3.1) (qK9 a3.2) (.ref s.heap.objs.size) 0 (qC8 _ rfl) (λh' tk I c' hk ae O=>?_) hn
 change wpAny _ A (load s.heap.objs.size>>=_) _ _ _;refine qA8 (wpAny_load ae ?_);show qL7 (hQ h' tk I (λb o e=>hk b o (λz=>absurd (qC7 e) (by rw[z];show qG7 _)) (qB3 _ e)) O)
def DE (K:PySem.W.KdlSrc prog w T r d n P OK) (hh:A.handled=none) (hok:OK s.heap) (hn:n<=sizeLine) (h:∀(h':Heap) tk I,(∀b o,s.heap.get? b=some o->h'.get? b=some o)->ItemsOf P I n->Q₁ (.ref h'.objs.size) { s with heap:=h'.push { cls:=.type "tuple",data:=.seq I },toks:=tk }):
  codeAny (model prog w) A (.call (.builtin "tuple.__new__") ⟨[.type "tuple",.ref r],[]⟩) (wants Q₁ E) s:=by
 refine codeAny_of_tree ?_;change wpAny _ A.in1 (do checkBuiltinCall "tuple.__new__" ⟨[.type "tuple",.ref r],[]⟩;again (.builtin "tuple.__new__" ⟨[.type "tuple",.ref r],[]⟩)) _ _ s;refine qA8 (wpAny_of_eq (F.newCall_tuple_1 _) (qL7 ⟨plainId_quiet F.plain_tuple_new _,codeAny_builtin F.entry_tuple_new ?_⟩));rw[qP5 F.plain_tuple_new _];have g1:=sub_tuple_self;have g2:=init_tuple_lookup;have g3:=madeHere_tuple;have a3:=K.type s hok;have hT:(Value.type T == Value.type "tuple")=false:=K.notTuple;have a4:A.in1.handled=none:=hh;have hsz:∀I:Array Value,ItemsOf P I n->I.toList.toArray.size<=sizeLine:=λI O=>by simp only [Array.toArray_toList];rw[O.1];show hn
 wp_walk using wpAny_typeOf a3,qf (A:=A.in1) K a4 hok hn
 intro h' tk I hm O
 change wpAny _ _ (Builtin.Tuple.tupleExact I.toList.toArray>>=λv=>ret v) _ _ _;unfold Builtin.Tuple.tupleExact;refine qA8 (qM5 ?_ (hsz I O));refine qL7 ?_;have e:I.toList.toArray=I:=Qj;rw[e];show h h' tk I hm O
def ud (K:PySem.W.KdlSrc prog w T r d n P OK) (hh:A.handled=none) (hok:OK s.heap) (hn:n<=sizeLine) (hQ:∀(h':Heap) tk a3,(∀b o,s.heap.get? b=some o->h'.get? b=some o)->ItemsOf P a3 n->Q (.ref h'.objs.size) { s with heap:=h'.push { cls:=.type "tuple",data:=.seq a3 },toks:=tk }):
  wpAny (model prog w) A (call (.type "tuple") [.ref r]) Q E s:=by
 refine callType_codes (Q₁:=λobj I=>I.TypeIs obj "tuple" /\ Q obj I) F.called_tuple (F.typeCall_tuple_1 _) F.entry_object_init (DE K hh hok hn λh' tk a3 hm a4=>⟨⟨_,qC8 _ rfl,rfl⟩,hQ h' tk a3 hm a4⟩) λobj I O=>?_;show ⟨O.1,F.args_object_init_2 obj _,object_init_meets F.called_tuple.init.lookup F.called_tuple.made Qy prog w A.in1 _ I ⟨O.1,rfl,O.2⟩⟩
def nA {kvs:List (Key×V)}(r:KV kvs vs) (h:ItemsOf (λi v=>∃k,vs[i]?=some (k,v)) acc vs.length):Vals (kvs.map (·.2)) acc.toList:=by
 have e:acc.toList=vs.map (·.2):=PySem.W.kdl_vals_eq acc.toList (by rw[qJ3,h.1]) λj v q=>h.2 j v (by rw[<- qO7];show q);rw[e];clear h e
 induction r with
 |nil=>show .nil
 |cons h _ I=>show .cons h.2 I
def uI (I:TE):TE:=λσ H Q=>I σ H λv H1=>∃d kvs,v=.ref d/\H1 d=some (.dK kvs)/\∀p,H1 p=none->Q (.ref p) (upd H1 p (.tup (kvs.map (·.2))))
def sA {X:Cx}{e:Expr}{te:TE}{p pos apos O:Pos}(hc:X.calm=true) (b5:Gl X "tuple") (b4:X.mg "tuple" = none) (he:PE X e te) (a3:attributeBase e "values" X.env (eval e X.env)=eval e X.env:=by rfl) (a4:(apos.endLine == O.line)=true:=by rfl) (ae:starEach [.Call (.Attribute e "values" apos) [] [] O] X.env = [(false,eval (.Call (.Attribute e "values" apos) [] [] O) X.env)]:=by rfl):PE X (.Call (.Name "tuple" p) [.Call (.Attribute e "values" apos) [] [] O] [] pos) (uI te):=by
 intro pins s σ H Q I h;refine qM4 (Y4 I b5 b4 dz ?_ Qy Qy);refine qH0 ?_ ae Qq;rw[ae]
 change wpAny _ _ (spliced [(false,eval (.Call (.Attribute e "values" apos) [] [] O) X.env)]) _ _ s;refine qI3 ?_;refine wpAny_Call_method0_late a3 a4 (thn (he pins s σ H _ I h) λv s1 b3=>?_);obtain ⟨x,H1,I1,r1,q1⟩:=b3;obtain ⟨d,kvs,rfl,hd,q⟩:=q1;cases r1;obtain ⟨hz,lo,vs,rv,dd⟩:=vA I1.hok hd;obtain ⟨ep,da⟩:=dd.dictAt;have hl:kvs.length=vs.length:=rv.length;obtain ⟨h1,h2⟩:=dC I1 (x:=.ref d) (v:=.ref d) rfl (show tyV X.K "dict" (.ref d) H1 from .inr (.inr (.inl ⟨rfl,.inl ⟨kvs,hd⟩⟩)));refine ⟨"dict","dict.values",qT6,qS7,PySem.F.type_dict_values,h1,h2,qI1 rfl (PySem.evalArgs_none ?_)⟩;refine call_meetsIn qS7 dd.typeIs PySem.F.entry_dict_values (PySem.F.args_dict_values_1 _) (meets_dict_values (o8 X.prog X.w) d lo) ⟨⟨vs,dd⟩,qR3 ?_⟩;have I2:Inv X pins σ H1 { s1 with heap:=s1.heap.push { cls:=.type "dict_values",data:=.fields #[.ref d] } }:=I1.kept (t':=s1.toks) λb o e=>qB3 _ e;refine ud (s:={ s1 with heap:=s1.heap.push { cls:=.type "dict_values",data:=.fields #[.ref d] } }) (PySem.W.kdl_values (r:=s1.heap.objs.size) (kvs:=vs) (ep:=ep)) (I1.ok.hd hc) ⟨⟨_,qC8 _ rfl,rfl,rfl⟩,da.push _⟩ (by rw[<- hl];show hz) λh' tk bc hk b0=>?_;have I3:Inv X pins σ H1 { s1 with heap:=h',toks:=tk }:=I2.kept hk;refine ⟨.ref h'.objs.size,_,I3.laid (t':=tk) (λb o e=>qB3 _ e) (qB8 _) (show ObjOk X.prog X.w _ _ _ (.tup (kvs.map (·.2))) from ⟨by rw[qA0];show hz,bc.toList,nA rv b0,?_⟩),rfl,q _ (I3.hok.fresh (qB8 _))⟩;simpa using PyProof.Rows.IsTup.new _ _
def kb (p:Addr)(t:TS):TS:=λD σ H=>∃kvs,H p=some (.dK kvs)/\∀ob,t { nx:=λI H'=>H' p=some (.frz ob (.dK kvs))/\D.nx I (upd H' p (.dK kvs)),rt:=λ_ _=>False } σ (upd H p (.frz ob (.dK kvs)))
def oF {st:Stmt}(p:Addr) (h:PS X st t):PS X st (kb p t):=by
 intro pins s σ H D I q;obtain ⟨kvs,hp,q⟩:=q;have hf:=vi I hp;obtain ⟨ob,I1⟩:=I.freeze hp;refine thn (h pins s σ _ _ I1 (q ob)) λf s' r=>?_;cases f with
 | next=>
  obtain ⟨O,H',I',e,q'⟩:=r;show ⟨O,_,I'.thaw e hf,q'⟩
 |brk=>obtain ⟨_,_,_,z⟩:=r;show z.elim
 |cont=>obtain ⟨_,_,_,z⟩:=r;show z.elim
 |ret u=>obtain ⟨_,_,_,_,_,z⟩:=r;show z.elim
end L2
namespace TP
open PySem L2
def szl (h:n<=100000):n<=sizeLine:=qD9 h Qy
def fSS (C:Str->Str->Bool) (g:Str->Str->W):W->W->R W
 | .str x,.str y=>if C x y=true then .ok (g x y) else .stuck
 |_,_=>.stuck
def vc (hs:∀x y,sca (g x y)=true) (h:∀x y H (Q:VK),C x y=true->(∃v,(∀F,Rep K F v (g x y))/\(Q v H->r (.str x) (.str y) H Q))):Op2 K .B d r (fSS C g):=by
 intro EX H0 Hs G H ρ σ Ha Hb x y u v Q I s O my o;cases u <;> first|show o.elim|skip
 all_goals (cases v <;> first|show o.elim|skip)
 rename_i i j
 have o':Out EX G H (mdW K d H0 Hs) (if C i j=true then R.ok (g i j) else .stuck) Q:=o;by_cases c:C i j=true
 .rw [qA9 c]at o'
  obtain ⟨z,hz,hr⟩:=h i j H Q c;rw[O.strB,my.strB];show hr (o' z G H (Ext.refl I.gh) (Md.sca (hs i j) hz d))
 .rw[qB4 c]at o';show o'.elim
def C9 (x y:Str):Bool:=decide (x.length+y.length<=100000)
def C8 (x y:Str):W:=.str (x++y)
def x9:Op2 K .B d (λx y H Q=>∃i j,x=.str i/\y=.str j/\i.length+j.length<=sizeLine/\Q (.str (i++j)) H) (fSS C9 C8):=
 vc (λ_ _=>rfl) λx y H Q c=>⟨.str (x++y),λ_=>.str,λq=>⟨x,y,rfl,rfl,szl (qN9 c),q⟩⟩
def uw (_ _:Str):Bool:=true
def tQ (x y:Str):W:=.bl (!(Builtin.Str.occurrences y x 0 y.length 1).isEmpty)
def Bs:Op2 K .B d (λx y H Q=>∃i j,x=.str i/\y=.str j/\Q (.bl (!(Builtin.Str.occurrences j i 0 j.length 1).isEmpty)) H) (fSS uw tQ):=
 vc (λ_ _=>rfl) λx y H Q _=>⟨_,λ_=>.bl,λq=>⟨x,y,rfl,rfl,q⟩⟩
def fIxS:W->W->R W
 | .str x,.int i=>if x.length<=100000 then (match atI x.cps.toList i with
  |some c=>.ok (.str ⟨#[c]⟩)
  |none=>.stuck) else .stuck
 |_,_=>.stuck
def Br:Op2 K .B d rIxS fIxS:=by
 intro EX H0 Hs G H ρ σ Ha Hb x y u v Q I s O my o;cases u <;> first|show o.elim|skip
 all_goals (cases v <;> first|show o.elim|skip)
 rename_i z i
 have o':Out EX G H (mdW K d H0 Hs) (if z.length<=100000 then (match atI z.cps.toList i with|some c=>R.ok (W.str ⟨#[c]⟩)|none=>.stuck) else .stuck) Q:=o;by_cases c:z.length<=100000
 .rw [qA9 c]at o'
  cases e:atI z.cps.toList i with
  |none=>rw[e]at o';show o'.elim
  | some k=>
   rw[e]at o';show ⟨z,i,k,O.strB,my.intB,szl c,e,o' _ G H (Ext.refl I.gh) (Md.sca rfl (λ_=>.str) d)⟩
 .rw[qB4 c]at o';show o'.elim
def slS (x:W) (l u:Jv):R W:=match x with
 | .str z=>if z.length<=100000 then .ok (.str (Txt.slice z l u)) else .stuck
 |_=>.stuck
def V3 (m:JV)(ml I:Rho->R Jv):JV:=λρ=>m ρ>>=λx=>ml ρ>>=λl=>I ρ>>=λu=>slS x l u
def Hl (h:tM K EX d (V3 m ml mh) σ H Q):tSl rSlS (tM K EX .B m) (N8 K EX ml) (N8 K EX mh) σ H Q:=by
 obtain ⟨H0,G,ρ,I,o⟩:=h;refine ⟨H0,G,ρ,I,Out.bind o λx G1 H1 w O m1 o1=>⟨H0,G1,ρ,I.ext O,Out.bind o1 λl' G2 H2 l e2 m2 o2=>⟨H0,G2,ρ,(I.ext O).ext e2,Out.bind o2 λu' G3 H3 u e3 m3 o3=>?_⟩⟩⟩;subst m2;subst m3;have I3:=((I.ext O).ext e2).ext e3;cases w <;> first|show o3.elim|skip
 rename_i z
 have o':Out EX G3 H3 (mdW K d H0 H) (if z.length<=100000 then R.ok (W.str (Txt.slice z l' u')) else .stuck) Q:=o3;by_cases c:z.length<=100000
 .rw [qA9 c]at o'
  show ⟨z,m1.strB,szl c,o' _ G3 H3 (Ext.refl I3.gh) (Md.sca rfl (λ_=>.str) d)⟩
 .rw[qB4 c]at o';show o'.elim
def fLenS:List W->R W
 | [.str x]=>if x.length<=100000 then .ok (.int x.length) else .stuck
 |_=>.stuck
def R6:Cal K .B d (λxs H Q=>∃z,xs = [.str z]/\z.length<=sizeLine/\Q (.int z.length) H) fLenS:=by
 intro EX H0 Hs G H ρ σ O vs ws Q I s m o;unfold fLenS at o
 split at o
 .rename_i x
  cases m with
  | cons a t=>
   cases t
   split at o
   .rename_i hl
    show ⟨x,by rw[a.strB],szl hl,o _ G H (Ext.refl I.gh) (Md.sca rfl (λ_=>.int) d)⟩
   .show o.elim
 .show o.elim
def fIntS:List W->R W
 | [.str x]=>if x.length<=640 then (match PySem.intText? x with
  |some n=>.ok (.int n)
  |none=>.stuck) else .stuck
 |_=>.stuck
def qK:Cal K .B d (λxs H Q=>∃x n,xs = [.str x]/\PySem.intText? x=some n/\x.length<=640/\Q (.int n) H) fIntS:=by
 intro EX H0 Hs G H ρ σ O vs ws Q I s m o;unfold fIntS at o
 split at o
 .rename_i x
  cases m with
  | cons a t=>
   cases t
   split at o
   .rename_i hl
    split at o
    .rename_i n hn
     show ⟨x,n,by rw[a.strB],hn,hl,o _ G H (Ext.refl I.gh) (Md.sca rfl (λ_=>.int) d)⟩
    .show o.elim
   .show o.elim
 .show o.elim
def F1 (a:Str) (y:W):R W:=match y with
 | .str b=>if (b.length == 0)=false/\a.length<=100000/\(Txt.split a b).length<=1000 then .ok (.lst ((Txt.split a b).map W.str)) else .stuck
 |_=>.stuck
def ni (x y:R W):R W:=x>>=λx=>(match x with
 | .str a=>y>>=λy=>F1 a y
 |_=>.stuck)
def dn (I me:JV):JV:=λρ=>ni (I ρ) (me ρ)
def ba:∀ts:List Str,Reps K F (ts.map V.str) (ts.map W.str)
 | []=>.nil
 |_::ts=>.cons .str (ba ts)
def kK (h:Out EX G H (mdW K .B H0 H) (me ρ) λy H2=>QA [y] H2):Out EX G H (mdA K .B H0 H) (aC me aN ρ) QA:=by
 unfold aC aN
 revert h
 cases me ρ with
 |stuck=>show id
 |ex e=>show id
 | ok u=>
  intro h v G2 H2 O I;cases I with
  |cons a t=>cases t;show h _ G2 H2 O a
def yq (h:tM K EX .F (dn mo me) σ H Q):tBM K "str" rSplit (tM K EX .B mo) (tA K EX .B (aC me aN)) σ H Q:=by
 obtain ⟨H0,G,ρ,I,o⟩:=h;unfold dn ni at o;refine ⟨H0,G,ρ,I,Out.bind o λx G1 H1 w e1 m1 o1=>?_⟩;have I1:=I.ext e1;cases w <;> first|show o1.elim|skip
 rename_i a
 obtain rfl:=m1.strB;refine ⟨rfl,H0,G1,ρ,I1,kK (Out.bind (md:=mdW K .B H0 H1) o1 λy G2 H2 u e2 m2 O=>?_)⟩;have I2:=I1.ext e2;unfold F1 at O
 split at O
 .rename_i b
  obtain rfl:=m2.strB
  split at O
  .rename_i hc
   show ⟨a,b,rfl,rfl,hc.1,szl hc.2.1,szl (qD9 hc.2.2 Qy),λp hp=>Out.newL I2 (e1.hh.trans e2.hh) (ba _) hp O⟩
  .show O.elim
 .show O.elim
def rz:W->Option Str
 | .str x=>some x
 |_=>none
def T7:List W->Option Jk
 | []=>some []
 | w::ws=>match rz w,T7 ws with
  |some x,some xs=>some (x::xs)
  |_,_=>none
def dg:∀{ws:JJ}{ts:Jk},T7 ws=some ts->ws=ts.map W.str
 | [],_,h=>by cases h;rfl
 | w::ws,ts,h=>by
  unfold T7 at h
  split at h
  .rename_i x xs hx hxs
   cases h;rw[dg hxs];cases w <;> first | (cases hx;rfl)|cases hx
  .cases h
def U9:∀ts:List Str,T7 (ts.map W.str)=some ts
 | []=>rfl
 | x::ts=>by
  change (match rz (.str x),T7 (ts.map W.str) with|some x,some xs=>some (x::xs)|_,_=>none)=_;rw[U9 ts];rfl
def ck (a:Str) (y:W):R W:=match y with
 | .lst ws=>(match T7 ws with
  |some ts=>if JoinOk a ts=true then .ok (.str (Txt.join a ts)) else .stuck
  |none=>.stuck)
 |_=>.stuck
def jD (x y:R W):R W:=x>>=λx=>(match x with
 | .str a=>y>>=λy=>ck a y
 |_=>.stuck)
def P3 (I me:JV):JV:=λρ=>jD (I ρ) (me ρ)
def bO:∀{ts:Jk}{vs:List V},Reps K F vs (ts.map W.str)->vs=ts.map V.str
 | [],_,h=>by cases h;rfl
 | x::ts,_,h=>by
  cases h with
  |cons a b=>cases a;rw[bO b];rfl
def Er (h:tM K EX d (P3 mo me) σ H Q):tBM K "str" (rJoin K) (tM K EX .B mo) (tA K EX .B (aC me aN)) σ H Q:=by
 obtain ⟨H0,G,ρ,I,o⟩:=h;unfold P3 jD at o;refine ⟨H0,G,ρ,I,Out.bind o λx G1 H1 w e1 m1 o1=>?_⟩;have I1:=I.ext e1;cases w <;> first|show o1.elim|skip
 rename_i a
 obtain rfl:=m1.strB;refine ⟨rfl,H0,G1,ρ,I1,kK (Out.bind (md:=mdW K .B H0 H1) o1 λy G2 H2 u e2 m2 O=>?_)⟩;have I2:=I1.ext e2;unfold ck at O
 split at O
 .rename_i ws
  split at O
  .rename_i ts hts
   have:=dg hts
   subst this;obtain ⟨p,vs,rfl,hs,r⟩:=m2.lstB I2;have e:=bO r;subst e
   split at O
   .rename_i hc
    show ⟨a,p,ts,rfl,rfl,SqL.of hs,hc,O _ G2 H2 (Ext.refl I2.gh) (Md.sca rfl (λ_=>.str) d)⟩
   .show O.elim
  .show O.elim
 .show O.elim
def txtW:W->Option Str
 | .str x=>if x.length<=100000 then some x else none
 | .int i=>if i.natAbs.log2<1920 then some (Str.ofString (toString i)) else none
 |_=>none
def fpR:List (R W)->Str->R W
 | [],out=>if out.length<=100000 then .ok (.str out) else .stuck
 | r::rs,out=>r>>=λw=>(match txtW w with
  |some y=>if (out++y).length<=100000 then fpR rs (out++y) else .stuck
  |none=>.stuck)
def mFp (ms:List JV):JV:=λρ=>fpR (ms.map λm=>m ρ) Str.empty
def bG:W->R JJ
 | .str x=>if x.cps.all (·<128)=true/\x.cps.size<=1000 then .ok (x.cps.toList.map λc=>W.str ⟨#[c]⟩) else .stuck
 |_=>.stuck
def bSs (ma:JV):JK:=λρ=>ma ρ>>=bG
def tu (he:e=.V\/e=.U):av K e H0 Z G (Its x) (x.cps.toList.map λc=>W.str ⟨#[c]⟩):=by
 refine ⟨λi H hi _=>by change i<x.cps.size;simpa using hi,λH _=>by simp [Its],λi H v H' w hw _ O G2 ρ σ I _=>?_⟩;obtain ⟨e1,c,hc,e2⟩:=O;subst e1;subst e2;rw[qC1,qO7,hc]at hw;cases hw;refine ⟨G2,Ext.refl I.gh,?_⟩;rcases he with rfl|rfl
 .show .str
 .show .str
def Es (he:e=.V\/e=.U) (h:tIt K EX lp e (bSs ml) σ H Rr):CG (tM K EX .B ml) σ H Rr:=by
 obtain ⟨H0,G,ρ,I,o⟩:=h;refine ⟨H0,G,ρ,I,?_⟩;replace o:dA K EX lp e H0 G H (ml ρ>>=bG) Rr:=o
 revert o
 cases ml ρ with
 |stuck=>show id
 |ex x=>show id
 | ok w=>
  intro o v G1 H1 O m1;replace o:dA K EX lp e H0 G H (bG w) Rr:=o
  unfold bG at o
  split at o
  .rename_i x
   split at o
   .rename_i hc
    show ⟨x,m1.strB,hc.1,o _ G1 H1 O (tu he)⟩
   .show o.elim
  .show o.elim
def kF {X:Cx}{K:Frag}{EX:EXT}{d:Mode}{pos:Pos}{x:Str}{y:Str}{t:Tok}(I:Gl X x) (hm:X.mg x=some (.str y t)) (hd:(x == ("__debug__" : Str))=false:=by decide):PE X (.Name x pos) (tM K EX d (mC (.str y))):=
 (cG (v:=.str y) I hm ⟨t,rfl⟩ hd).mono λ_ _ _ q=>N7 rfl (λ_=>.str) q
def FN {X:Cx}{K:Frag}{EX:EXT}{d:Mode}{a:Expr}{pos:Pos}{ma:JV}{c:Expr}{mb:JV}(ha:PE X a (tM K EX .B ma))(O:PE X c (tM K EX .B mb))(I:aO c:=by show λ_ _=>rfl):PE X (.Subscript a c pos) (tM K EX d (b2 fIxS ma mb)):=(gL pP ha O I).mono λ_ _ _ q=>dy Br q
def V9 (I:PE X e (tM K EX .B ma))(hl:PO X lo (N8 K EX ml))(O:PO X hi (N8 K EX mh)):PE X (.Subscript e (.Slice lo hi none p2) pos) (tM K EX d (V3 ma ml mh)):=(iC zF I hl O).mono λ_ _ _ q=>Hl q
def ir (h:PE X e (tM K EX .B ma)):PI X tg e (tIt K EX lp .U (bSs ma)):=(AY h).mono λ_ _ _ q=>Es (.inr rfl) q
def kz {X:Cx}{K:Frag}{EX:EXT}{e o:Expr}{apos I:Pos}{mo me:JV}(ho:PE X o (tM K EX .B mo)) (he:PE X e (tM K EX .B me)) (hK:X.K=K:=by rfl) (a3:attributeBase o "split" X.env (eval o X.env)=eval o X.env:=by rfl) (ae:((backTo I (starEach [e] X.env)).all (λx=>!x.1)&&(backToKw I (keywordEach [] X.env)).all (λx=>x.1.isSome)
   && decide (([e]:Jx).length+([]:List Keyword).length+(if ([]:List Keyword).isEmpty then 0 else 1)<30))=true:=by rfl) (a4:(apos.endLine == I.line)=true:=by rfl) (hs:starEach [e] X.env=(false,eval e X.env)::starEach [] X.env:=by rfl) (O:(backTo I (starEach [] X.env)).any (·.1)=false:=by rfl):
  PE X (.Call (.Attribute o "split" apos) [e] [] I) (tM K EX .F (dn mo me)):=by
 subst hK;show (mj qK2 PySem.F.slot_str_split PySem.F.type_str_split sS ho (a5 he a7 hs) a3 ae a4 hs O).mono λ_ _ _ q=>yq q
def Q7 {X:Cx}{K:Frag}{EX:EXT}{d:Mode}{e o:Expr}{apos I:Pos}{mo me:JV}(ho:PE X o (tM K EX .B mo)) (he:PE X e (tM K EX .B me)) (hK:X.K=K:=by rfl) (a3:attributeBase o "join" X.env (eval o X.env)=eval o X.env:=by rfl) (ae:((backTo I (starEach [e] X.env)).all (λx=>!x.1)&&(backToKw I (keywordEach [] X.env)).all (λx=>x.1.isSome)
   && decide (([e]:Jx).length+([]:List Keyword).length+(if ([]:List Keyword).isEmpty then 0 else 1)<30))=true:=by rfl) (a4:(apos.endLine == I.line)=true:=by rfl) (hs:starEach [e] X.env=(false,eval e X.env)::starEach [] X.env:=by rfl) (O:(backTo I (starEach [] X.env)).any (·.1)=false:=by rfl):
  PE X (.Call (.Attribute o "join" apos) [e] [] I) (tM K EX d (P3 mo me)):=by
 subst hK;show (mj qK2 PySem.F.slot_str_join PySem.F.type_str_join xb ho (a5 he a7 hs) a3 ae a4 hs O).mono λ_ _ _ q=>Er q
abbrev DW:=List Str×List W
def dAt:List Str->List W->Str->Option W
 |k::ks,w::ws,x=>if k=x then some w else dAt ks ws x
 |_,_,_=>none
def lb:∀{kvs:List (Key×V)}{ks:Jk}{ws:JJ}(x:Str),kvs.map (·.1)=ks.map Sum.inr->Reps K F (kvs.map (·.2)) ws->(match dAt ks ws x with
  |some w=>∃v,L9 kvs (Sum.inr x)=some v/\Rep K F v w
  |none=>L9 kvs (Sum.inr x)=none)
 | [],[],_,x,_,h=>by cases h;rfl
 | [],_::_,_,x,e,_=>by cases e
 |_::_,[],_,x,e,_=>by cases e
 | p::kvs,k::ks,_,x,e,h=>by
  cases h with
  | @cons _ w _ ws r t=>
   have O:p.1=Sum.inr k:=(List.cons.inj e).1;have e2:=(List.cons.inj e).2
   change (match (if k=x then some w else dAt ks ws x) with|some w=>_|none=>_);by_cases I:k=x
   .rw [qA9 I]
    show ⟨p.2,aQ (by rw[O,I]),r⟩
   .rw [qB4 I,aR (by rw[O];intro z;show I (Sum.inr.inj z))]
    show lb x e2 t
def fA {kvs:List (Key×V)}{ks:Jk}(e:kvs.map (·.1)=ks.map Sum.inr):(L9 kvs (Sum.inr x)).isSome=decide (x∈ks):=by
 rw[<- aS,qJ6,List.any_eq_true,decide_eq_true_iff];constructor
 .rintro ⟨p,I,q⟩;have q:=qN9 q
  have:p.1∈ks.map (Sum.inr:Str->Key):=by rw[<- e];show qA6.mpr ⟨p,I,rfl⟩
  obtain ⟨j,hj,O⟩:=qA6.mp this;cases O.trans q;show hj
 .intro h
  have:(Sum.inr x:Key)∈kvs.map (·.1):=by rw[e];show qA6.mpr ⟨x,h,rfl⟩
  obtain ⟨p,I,q⟩:=qA6.mp this;show ⟨p,I,qL6 q⟩
def fk {kw:DW}(h:DkR K G kvs kw) (I:x∉kw.1) (r:Rep K G v w):DkR K G (putK kvs (Sum.inr x) v) (kw.1 ++ [x],kw.2 ++ [w]):=by
 have hn:L9 kvs (Sum.inr x)=none:=by
  have:=fA (x:=x) h.1
  rw[qL1 I]at this;cases q:L9 kvs (Sum.inr x) with
  |none=>rfl
  |some _=>rw[q]at this;cases this
 rw[so v hn];refine ⟨?_,?_⟩
 .rw[qB1,h.1,qB1];rfl
 .rw[qB1];show h.2.append (.cons r .nil)
def DkR.len {kw:DW}(h:DkR K G kvs kw):kvs.length=kw.1.length:=by have:=congrArg List.length h.1;simpa using this
def PIv.dos_at {i:Nat}{kw:DW}(I:PIv K H0 G ρ σ H) (e:ρ[i]?=some (.dos kw)):∃a kvs,σ[i]?=some (some (.ref a))/\H a=some (.dK kvs)/\G a=none/\H0 a=none/\DkR K G kvs kw:=by
 have hi:i<σ.length:=by rw[<- I.len];show (qA5.mp e).1
 have es:σ[i]?=some σ[i]:=Qj;obtain ⟨a,kvs,O,r⟩:=I.sl i _ _ e es;show ⟨a,kvs,by rw[es,O],r⟩
def Co:Sl->Bool
 | .dik _=>true
 |_=>false
def L5 (ρ:Rho):Bool:=ρ.all λs=>!Co s
def wZ {j:Nat}(h:L5 ρ=true):ρ[j]?≠some (.dik ks):=λe=>by
 have:=qG5.mp h _ (qB5 e)
 simp [Co]at this
def PIv.dos_chg {kw:DW}(I:PIv K H0 G ρ σ H) (e:ρ[i]?=some (.dos kw)) (es:σ[i]?=some (some (.ref a))) (one:L5 ρ=true) (hs:SlR K H0 G (upd H a u) s' (some (.ref a))) (bc:(∀ws,s'≠.own ws)):PIv K H0 G (ρ.set i s') σ (upd H a u):=by
 obtain ⟨a',kvs,ev,ha,hg,h0,_⟩:=I.sl i _ _ e es;cases ev;have hi:=(qA5.mp e).1;refine ⟨I.g0,I.gl,λb o q=>by rw[b6 (c9 q hg)];show I.gh b o q,λb o q=>by rw[b6 (c9 q h0)];show I.hh b o q,by rw[qD3];show I.len,λj x o h1 h2=>?_,λp q b5 us c b4 h1 h2 h3 h4=>?_,λp q b5 us c b4 h1 h2 h3 h4=>?_⟩
 .by_cases hj:i=j
  .subst hj;rw[qE0 hi]at h1;cases h1;rw[es]at h2;cases h2;show hs
  .rw [qB0 hj]at h1
   have:=I.sl j x o h1 h2
   cases x with
   | own us=>
    obtain ⟨b,O,eb,hb,ae,b3,rb⟩:=this;have a4:b≠a:=by
     rintro rfl;rw[ha]at hb;cases hb
    show ⟨b,O,eb,by rw[b6 a4];show hb,ae,b3,rb⟩
   | dic ks=>
    obtain ⟨b,O,eb,hb,ae,b3,rb⟩:=this;have a4:b≠a:=by
     rintro rfl;rw[ha]at hb;cases hb
    show ⟨b,O,eb,by rw[b6 a4];show hb,ae,b3,rb⟩
   |dik ks=>show absurd h1 (wZ one)
   | dos ks=>
    obtain ⟨b,O,eb,hb,ae,b3,rb⟩:=this;subst eb;have a4:b≠a:=by
     rintro rfl;show I.nd i j kw ks b hj e h1 es h2
    show ⟨b,O,rfl,by rw[b6 a4];show hb,ae,b3,rb⟩
   |un=>show this
   |val _=>show this
   |par _=>show this
   |iop _ _=>show this
   |hz _=>show this
 .have a3:∀{k:Nat}{us:JJ},(ρ.set i s')[k]?=some (.own us)->ρ[k]?=some (.own us):=λ{k us} hk=>by
   by_cases b0:i=k
   .subst b0;rw[qE0 hi]at hk;cases hk;show absurd rfl (bc us)
   .rw[qB0 b0]at hk;show hk
  show I.ne p q b5 us c b4 (a3 h1) (a3 h2) h3 h4
 .have a3:∀{k:Nat}{us:DW},(ρ.set i s')[k]?=some (.dos us)->∃O,ρ[k]?=some (.dos O):=λ{k us} hk=>by
   by_cases b0:i=k
   .subst b0;show ⟨kw,e⟩
   .rw[qB0 b0]at hk;show ⟨us,hk⟩
  obtain ⟨w1,k1⟩:=a3 h1;obtain ⟨w2,k2⟩:=a3 h2;show I.nd p q w1 w2 c b4 k1 k2 h3 h4
def PIv.dos_upd {kw O:DW}(I:PIv K H0 G ρ σ H) (e:ρ[i]?=some (.dos kw)) (es:σ[i]?=some (some (.ref a))) (one:L5 ρ=true) (r:DkR K G kvs' O):PIv K H0 G (ρ.set i (.dos O)) σ (upd H a (.dK kvs')):=by
 obtain ⟨a',kvs,ev,ha,hg,h0,_⟩:=I.sl i _ _ e es;cases ev;show I.dos_chg e es one ⟨a,kvs',rfl,e7,hg,h0,r⟩ λ_ z=>by cases z
def PIv.dos_in {kw:DW}(I:PIv K H0 G ρ σ H) (hi:i<ρ.length) (es:σ[i]?=some (some (.ref a))) (hn:∀u,H a=some u->∃ob w,u=.frz ob w) (hg:G a=none) (h0:H0 a=none) (r:DkR K G kvs kw):PIv K H0 G (ρ.set i (.dos kw)) σ (upd H a (.dK kvs)):=by
 have ae:∀{b:Addr}{u:HO},H b=some u->(∀ob w,u≠.frz ob w)->b≠a:=λ{b u} hb hu z=>by
  subst z;obtain ⟨ob,w,q⟩:=hn u hb;show hu ob w q
 refine ⟨I.g0,I.gl,λb o q=>by rw[b6 (c9 q hg)];show I.gh b o q,λb o q=>by rw[b6 (c9 q h0)];show I.hh b o q,by rw[qD3];show I.len,λj x o h1 h2=>?_,λp q b4 us c b3 h1 h2 h3 h4=>?_,λp q b4 us c b3 h1 h2 h3 h4=>?_⟩
 .by_cases hj:i=j
  .subst hj;rw[qE0 hi]at h1;cases h1;rw[es]at h2;cases h2;show ⟨a,kvs,rfl,e7,hg,h0,r⟩
  .rw [qB0 hj]at h1
   have:=I.sl j x o h1 h2
   cases x with
   | own us=>
    obtain ⟨b,O,eb,hb,a3,a4,rb⟩:=this;show ⟨b,O,eb,by rw[b6 (ae hb λ_ _ z=>by cases z)];show hb,a3,a4,rb⟩
   | dic ks=>
    obtain ⟨b,O,eb,hb,a3,a4,rb⟩:=this;show ⟨b,O,eb,by rw[b6 (ae hb λ_ _ z=>by cases z)];show hb,a3,a4,rb⟩
   | dik ks=>
    obtain ⟨b,O,eb,hb,a3,a4,rb⟩:=this;show ⟨b,O,eb,by rw[b6 (ae hb λ_ _ z=>by cases z)];show hb,a3,a4,rb⟩
   | dos ks=>
    obtain ⟨b,O,eb,hb,a3,a4,rb⟩:=this;show ⟨b,O,eb,by rw[b6 (ae hb λ_ _ z=>by cases z)];show hb,a3,a4,rb⟩
   |un=>show this
   |val _=>show this
   |par _=>show this
   |iop _ _=>show this
   |hz _=>show this
 .have b5:∀{k:Nat}{us:JJ},(ρ.set i (.dos kw))[k]?=some (.own us)->ρ[k]?=some (.own us):=λ{k us} hk=>by
   by_cases b0:i=k
   .subst b0;rw[qE0 hi]at hk;cases hk
   .rw[qB0 b0]at hk;show hk
  show I.ne p q b4 us c b3 (b5 h1) (b5 h2) h3 h4
 .have apart:∀{k:Nat}{us:DW}{b:Addr},i≠k->(ρ.set i (.dos kw))[k]?=some (.dos us)->σ[k]?=some (some (.ref b))->b≠a:=λ{k us b} b0 hk hb=>by
   rw[qB0 b0]at hk;obtain ⟨b',O,eb,bc,_⟩:=I.sl k _ _ hk hb;cases eb;show ae bc λ_ _ z=>by cases z
  by_cases hp:i=p
  .subst hp;rw[es]at h3;cases h3;show apart b3 h2 h4 rfl
  .by_cases hq:i=q
   .subst hq;rw[es]at h4;cases h4;show apart hp h1 h3 rfl
   .rw [qB0 hp]at h1
    rw[qB0 hq]at h2;show I.nd p q b4 us c b3 h1 h2 h3 h4
def Y3 (i:Nat):JW:=λρ=>if i<ρ.length then .ok (.nx (ρ.set i (.dos ([],[])))) else .stuck
def yt (h:tSt K EX d (Y3 i) D σ H):hX tDNewK (P2 i) D σ H:=by
 obtain ⟨H0,G,ρ,I,o⟩:=h;unfold Y3 at o;intro p O;by_cases hi:i<ρ.length
 .rw [qA9 hi]at o
  have su:Same H (upd H p (.dK [])):=λb u q=>by rw[b6 (c9 q O)];show q
  have I1:=I.setN (i:=i) (o:=some (.ref p));have I2:=PIv.dos_in (i:=i) (a:=p) (kvs:=[]) (kw:=([],[])) I1 (by rw[qD3];show hi) (by rw[qE0 (by rw[<- I.len];show hi)]) (λu q=>by rw[O]at q;cases q) (I.gh.free O) (I.hh.free O) ⟨rfl,.nil⟩;rw[List.set_set]at I2;show o G _ _ (Same.refl _) I2
 .rw[qB4 hi]at o;show o.elim
def dSl:Option Sl->Option DW
 |some (.dos kw)=>some kw
 |some (.par (.dst _ _ ks ws))=>some (ks,ws)
 |some (.val (.dst _ _ ks ws))=>some (ks,ws)
 |_=>none
def qg (r:Rep K F v (.dst z a ks ws)):v=.ref a/\∃kvs,Rd F a (.dK kvs)/\DkR K F kvs (ks,ws):=by
 obtain ⟨kvs,I,h,e,r⟩:=r.inv;refine ⟨I,kvs,?_,e,r⟩;cases z with
 |true=>show .inr h
 |false=>show .inl h
def Rd.same' (s:Same F F') (h:Rd F a u):Rd F' a u:=by
 rcases h with h|⟨o,h⟩
 .show .inl (s _ _ h)
 .show .inr ⟨o,s _ _ h⟩
def PIv.dict {i:Nat}(I:PIv K H0 G ρ σ H) (e:dSl ρ[i]?=some kw):∃a kvs,σ[i]?=some (some (.ref a))/\Rd H a (.dK kvs)/\DkR K (join H0 G) kvs kw:=by
 cases q:ρ[i]? with
 |none=>rw[q]at e;cases e
 | some s=>
  rw[q]at e;have hi:i<σ.length:=by rw[<- I.len];show (qA5.mp q).1
  have es:σ[i]?=some σ[i]:=Qj;have r:=I.sl i s _ q es;cases s with
  | dos a3=>
   cases e;obtain ⟨a,kvs,O,ha,_,_,r⟩:=r;show ⟨a,kvs,by rw[es,O],.inl ha,r.same I.G_join⟩
  | par w=>
   cases w <;> first|cases e|skip
   obtain ⟨v,O,r⟩:=r;obtain ⟨rfl,kvs,hd,r⟩:=qg r;show ⟨_,kvs,by rw[es,O],Rd.same' I.join_H hd,r⟩
  | val w=>
   cases w <;> first|cases e|skip
   obtain ⟨v,O,r⟩:=r;obtain ⟨rfl,kvs,hd,r⟩:=qg r;show ⟨_,kvs,by rw[es,O],Rd.same' I.gh hd,r.same I.G_join⟩
  |_=>cases e
def inS (neg:Bool) (o:Option Sl) (w:W):R Bool:=match dSl o with
 | some kw=>(match w with
  | .str k=>.ok (if neg then !decide (k∈kw.1) else decide (k∈kw.1))
  |_=>.stuck)
 |none=>.stuck
def cf (neg:Bool)(i:Nat)(I:JV):JX:=λρ=>I ρ>>=λw=>inS neg ρ[i]? w
def Ew (h:tT K EX (cf false i mk) σ H Q):tB (zA (tM K EX .B mk) (m9 i)) σ H Q:=by
 obtain ⟨H0,G,ρ,I,o⟩:=h;refine ⟨H0,G,ρ,I,Out.bind (md:=mdW K .B H0 H) o λy G1 H1 w e1 m1 O=>?_⟩;have I1:=I.ext e1;unfold inS at O
 split at O
 .rename_i kw e
  split at O
  .rename_i k
   obtain ⟨a,kvs,es,ha,r⟩:=I1.dict e;obtain rfl:=Md.strB m1;refine ⟨.ref a,es,a,_,rfl,.inl ⟨kvs,.inr k,ha,rfl,rfl⟩,_,rfl,?_⟩;rw[fA r.1];show O _ G1 H1 (Ext.refl I1.gh) rfl
  .show O.elim
 .show O.elim
def qA (h:tT K EX (cf true i mk) σ H Q):tB (kd (tM K EX .B mk) (m9 i)) σ H Q:=by
 obtain ⟨H0,G,ρ,I,o⟩:=h;refine ⟨H0,G,ρ,I,Out.bind (md:=mdW K .B H0 H) o λy G1 H1 w e1 m1 O=>?_⟩;have I1:=I.ext e1;unfold inS at O
 split at O
 .rename_i kw e
  split at O
  .rename_i k
   obtain ⟨a,kvs,es,ha,r⟩:=I1.dict e;obtain rfl:=Md.strB m1;refine ⟨.ref a,es,a,_,rfl,.inl ⟨kvs,.inr k,ha,rfl,rfl⟩,_,rfl,?_⟩;rw[fA r.1];show O _ G1 H1 (Ext.refl I1.gh) rfl
  .show O.elim
 .show O.elim
def W4 (i:Nat):JV:=λρ=>match dSl ρ[i]? with
 |some kw=>if kw.1.length<=1000 then .ok (.int kw.1.length) else .stuck
 |none=>.stuck
def Fw (i:Nat):TE:=λσ H Q=>∃a kvs,σ[i]?=some (some (.ref a))/\Rd H a (.dK kvs)/\Q (.int kvs.length) H
def Ep (h:tM K EX d (W4 i) σ H Q):Fw i σ H Q:=by
 obtain ⟨H0,G,ρ,I,o⟩:=h;unfold W4 at o
 split at o
 .rename_i kw e
  split at o
  .obtain ⟨a,kvs,es,ha,r⟩:=I.dict e;refine ⟨a,kvs,es,ha,?_⟩;rw[r.len];show o _ G H (Ext.refl I.gh) (Md.sca rfl (λ_=>.int) d)
  .show o.elim
 .show o.elim
def tJ (kw:DW) (w v:W):R W:=match w with
 | .str k=>.ok ((dAt kw.1 kw.2 k).getD v)
 |_=>.stuck
def cL (i:Nat) (I mv:JV):JV:=λρ=>match ρ[i]? with
 |some (.dos kw)=>I ρ>>=λw=>mv ρ>>=λv=>tJ kw w v
 |_=>.stuck
def Eu (h:tM K EX .V (cL i mk mv) σ H Q):tBM K "dict" rGet (m9 i) (Q0 (tM K EX .B mk) (Q0 (tM K EX .V mv) tNil)) σ H Q:=by
 obtain ⟨H0,G,ρ,I,o⟩:=h;unfold cL at o
 split at o
 .rename_i kw e
  obtain ⟨a,kvs,es,ha,hg,h0,r⟩:=I.dos_at e;refine ⟨.ref a,es,.inr (.inr (.inl ⟨rfl,.inl ⟨kvs,ha⟩⟩)),H0,G,ρ,I,Out.bind (md:=mdW K .B H0 H) o λy G1 H1 w e1 m1 o1=>⟨H0,G1,ρ,I.ext e1,Out.bind (md:=mdW K .V H0 H1) o1 λz G2 H2 v e2 m2 o2=>?_⟩⟩;have I2:=(I.ext e1).ext e2;unfold tJ at o2
  split at o2
  .rename_i k
   obtain rfl:=Md.strB m1;refine ⟨a,.inr k,z,kvs,rfl,rfl,.inl (e2.hh _ _ (e1.hh _ _ ha)),?_⟩;have O:=lb (F:=G2) (x:=k) r.1 ((r.2.same e1.gg).same e2.gg);refine o2 _ G2 H2 (Ext.refl I2.gh) ?_
   change Rep K G2 _ _
   revert O
   cases dAt kw.1 kw.2 k with
   |none=>intro O;rw[O];show m2
   |some w=>rintro ⟨u,q,ru⟩;rw[q];show ru
  .show o2.elim
 .show o.elim
def Y2 (i:Nat):JV:=λρ=>match ρ[i]? with
 |some (.dos kw)=>.ok (.lst (kw.1.map W.str))
 |_=>.stuck
def zy (i:Nat):TE:=λσ H Q=>∃a kvs,σ[i]?=some (some (.ref a))/\Rd H a (.dK kvs)/\∀l,H l=none->Q (.ref l) (upd H l (.lst (kvs.map λp=>kV p.1)))
def yr (h:tM K EX .F (Y2 i) σ H Q):zy i σ H Q:=by
 obtain ⟨H0,G,ρ,I,o⟩:=h;unfold Y2 at o
 split at o
 .rename_i kw e
  obtain ⟨a,kvs,es,ha,hg,h0,r⟩:=I.dos_at e;refine ⟨a,kvs,es,.inl ha,λp hp=>?_⟩;have O:(kvs.map λp=>kV p.1)=kw.1.map V.str:=by
   have:=congrArg (List.map kV) r.1
   rw[qD5,qD5]at this;show this
  rw[O];show Out.newL I (Same.refl _) (ba _) hp o
 .show o.elim
def Y1 (i:Nat):JV:=λρ=>match ρ[i]? with
 |some (.dos kw)=>.ok (.tup kw.2)
 |_=>.stuck
def yo (h:tM K EX .F (Y1 i) σ H Q):uI (m9 i) σ H Q:=by
 obtain ⟨H0,G,ρ,I,o⟩:=h;unfold Y1 at o
 split at o
 .rename_i kw e
  obtain ⟨a,kvs,es,ha,hg,h0,r⟩:=I.dos_at e;show ⟨.ref a,es,a,kvs,rfl,ha,λp O=>Out.newTF I r.2 O o⟩
 .show o.elim
def fE (i:Nat):JK:=λρ=>match ρ[i]? with
 |some (.par (.dst true _ ks _))=>.ok (ks.map W.str)
 |_=>.stuck
def tz {ks:Jk}(he:e=.V\/e=.U) (hz:Z a=some (.frz ob (.dK kvs))) (hk:kvs.map (·.1)=ks.map Sum.inr):av K e H0 Z G (Itd a ob kvs) (ks.map W.str):=by
 have hl:kvs.length=ks.length:=by have:=congrArg List.length hk;simpa using this
 refine ⟨λi H hi s=>⟨s _ _ hz,by rw[hl];simpa using hi⟩,λH s=>⟨s _ _ hz,by rw[hl,qA0];show qB8 _⟩,λi H v H' w hw _ a3 G2 ρ σ I _=>?_⟩;obtain ⟨e1,p,hp,e2⟩:=a3;subst e1;subst e2;rw[qC1]at hw;have O:(kvs.map (·.1))[i]?=(ks.map (Sum.inr:Str->Key))[i]?:=by rw[hk]
 rw[qC1,qC1,hp]at O;cases q:ks[i]? with
 |none=>rw[q]at hw;cases hw
 | some k=>
  rw[q]at hw O;cases hw;have ek:p.1=Sum.inr k:=Option.some.inj O;rw[ek];refine ⟨G2,Ext.refl I.gh,?_⟩;rcases he with rfl|rfl
  .show .str
  .show .str
def Et (he:e=.V\/e=.U) (h:tIt K EX lp e (fE i) σ H Rr):CH (m9 i) σ H Rr:=by
 obtain ⟨H0,G,ρ,I,o⟩:=h;unfold fE at o
 split at o
 .rename_i a ks ws e
  have hi:i<σ.length:=by rw[<- I.len];show (qA5.mp e).1
  have es:σ[i]?=some σ[i]:=Qj;obtain ⟨v,O,r⟩:=I.sl i _ _ e es;obtain ⟨kvs,rfl,⟨ob,h⟩,hk,_⟩:=r.inv;refine ⟨.ref a,by rw[es,O],a,ob,kvs,rfl,I.join_H _ _ h,o _ G H (Ext.refl I.gh) (tz he ?_ hk)⟩;cases lp with
  |true=>rw[qA9 rfl];show h
  |false=>rw[qB4 qC0];show I.join_H _ _ h
 .show o.elim
def lX (kw:DW) (i:Nat) (w v:W) (ρ:Rho):R Fl:=match w with
 | .str k=>if L5 ρ=true/\k∉kw.1/\kw.1.length<1000 then .ok (.nx (ρ.set i (.dos (kw.1 ++ [k],kw.2 ++ [v])))) else .stuck
 |_=>.stuck
def cr (o:Option Sl) (I rk:R W) (i:Nat) (ρ:Rho):R Fl:=match o with
 |some (.dos kw)=>I>>=λv=>rk>>=λw=>lX kw i w v ρ
 |_=>.stuck
def dX (i:Nat)(I me:JV):JW:=λρ=>cr ρ[i]? (me ρ) (I ρ) i ρ
def Ek (h:tSt K EX d (dX i mk me) D σ H):lK (m9 i) (tM K EX .B mk) (tM K EX .V me) D σ H:=by
 obtain ⟨H0,G,ρ,I,o⟩:=h;unfold dX cr at o
 split at o
 .rename_i kw e
  refine ⟨H0,G,ρ,I,OutS.bind I o λv G1 H1 w1 e1 m1 o1=>?_⟩;have I1:=I.ext e1;obtain ⟨a,kvs,es,ha,hg,h0,r⟩:=I1.dos_at e;refine ⟨.ref a,es,H0,G1,ρ,I1,OutS.bind I1 o1 λy G2 H2 w e2 m2 O=>?_⟩;have I2:=I1.ext e2;unfold lX at O
  split at O
  .rename_i k
   split at O
   .rename_i hc
    obtain rfl:=Md.strB m2;have hl:=r.len;refine ⟨a,_,rfl,DPut.k (k:=.inr k) (e2.hh a _ ha) (qC6 (show kvs.length<1000 by omega) Qy),?_⟩;show O G2 σ _ (Same.refl _) (I2.dos_upd e es hc.1 (fk (r.same e2.gg) hc.2.1 (Rep.same e2.gg m1)))
   .show O.elim
  .show O.elim
 .show o.elim
def OutP (K:Frag) (EX:EXT) (H0 G:Hp) (r:R Fl) (D:Ends):Prop:=match r with
 | .ok (.nx ρ)=>∀G' I H',Same G G'->PIv K H0 G' ρ I H'->D.nx I H'
 | .ok (.rt (.dst false p [k] [w]))=>∃kvs,H0 p=some (.dK kvs)/\kvs.length<1000/\∀v G' I H',Same G' H'->Same H0 H'->(∀a o,H0 a=some o->isL o=true->G' a=none)->Rep K G' v w->D.nx I (upd H' p (.dK (putK kvs (Sum.inr k) v)))
 | .ex e=>∀H',Same H0 H'->EX e H'
 |_=>False
def tStP (K:Frag)(EX:EXT)(m:JW):TS:=λD σ H=>∃H0 G ρ,PIv K H0 G ρ σ H/\OutP K EX H0 G (m ρ) D
def OutP.move (s:Same G G1) (o:OutP K EX H0 G r D):OutP K EX H0 G1 r D:=by
 unfold OutP at o ⊢
 split at o
 .show λG' I H' s' O=>o G' I H' (s.trans s') O
 .show o
 .show o
 .show o.elim
def OutP.bind {md:α->β->Hp->Hp->Prop}(I:PIv K H0 G ρ σ H) (o:OutP K EX H0 G (m>>=k) D) (h:∀x G1 H1 w,Ext G H G1 H1->md w x G1 H1->OutP K EX H0 G1 (k w) D->Q1 x H1):Out EX G H md m Q1:=by
 cases m with
 |ok w=>show λv G' H' e q=>h v G' H' w e q (OutP.move e.gg o)
 |ex e=>show λH' s=>o H' (I.hh.trans s)
 |stuck=>show o
def tStP.toS (h:tStP K EX (nb m) D σ H):tSt K EX d m D σ H:=by
 obtain ⟨H0,G,ρ,I,o⟩:=h;refine ⟨H0,G,ρ,I,?_⟩;unfold nb at o
 revert o
 cases m ρ with
 |stuck=>show id
 |ex e=>show id
 | ok f=>
  cases f with
  |nx O=>show id
  |bk O=>show λo=>o.elim
  |ct O=>show λo=>o.elim
  |rt w=>show λo=>o.elim
def Eh (h:tStP K EX (c6 (nb m) n) D σ H):lC (tStP K EX (nb m)) (tStP K EX n) D σ H:=by
 obtain ⟨H0,G,ρ,I,o⟩:=h;refine ⟨H0,G,ρ,I,?_⟩;unfold c6 nb at o
 change OutP K EX H0 G (nbR (m ρ)) _
 revert o
 cases m ρ with
 |stuck=>show id
 |ex e=>show id
 | ok f=>
  cases f with
  |nx O=>show λo G' a3 H' s' I'=>⟨H0,G',O,I',OutP.move s' o⟩
  |bk O=>show λo=>o.elim
  |ct O=>show λo=>o.elim
  |rt w=>show λo=>o.elim
def sm (a:Addr) (v w:W):R Fl:=match w with
 | .str k=>.ok (.rt (.dst false a [k] [v]))
 |_=>.stuck
def aZ (j:Nat) (I me:JV):JW:=λρ=>match ρ[j]? with
 |some (.par (.dst false a _ _))=>me ρ>>=λv=>I ρ>>=λw=>sm a v w
 |_=>.stuck
def El (h:tStP K EX (aZ j mk me) D σ H):lK (m9 j) (tM K EX .B mk) (tM K EX .V me) D σ H:=by
 obtain ⟨H0,G,ρ,I,o⟩:=h;unfold aZ at o
 split at o
 .rename_i a ks ws e
  have hi:j<σ.length:=by rw[<- I.len];show (qA5.mp e).1
  have es:σ[j]?=some σ[j]:=Qj;obtain ⟨v0,ev,r⟩:=I.sl j _ _ e es;obtain ⟨a3,rfl,hj,hk,_⟩:=r.inv;refine ⟨H0,G,ρ,I,OutP.bind I o λv G1 H1 w1 e1 m1 o1=>?_⟩;have I1:=I.ext e1;refine ⟨.ref a,by rw[es,ev],H0,G1,ρ,I1,OutP.bind I1 o1 λy G2 H2 w e2 m2 O=>?_⟩;have I2:=I1.ext e2;unfold sm at O
  split at O
  .rename_i k
   obtain rfl:=Md.strB m2;obtain ⟨kvs,h0,hl,q⟩:=O;refine ⟨a,_,rfl,DPut.k (k:=.inr k) (I2.hh a _ h0) (qC6 hl Qy),?_⟩;show q v G2 σ H2 I2.gh I2.hh I2.gl (Rep.same e2.gg m1)
  .show O.elim
 .show o.elim
open Classical in
def pput (f:Addr->R W):Option (Str×W):=if h:∃kw:Str×W,∀p,f p=.ok (.dst false p [kw.1] [kw.2]) then some (Classical.choose h) else none
open Classical in
def pput2 (f:Addr->Addr->R W):Option (Str×W):=if h:∃kw:Str×W,∀q p,f q p=.ok (.dst false p [kw.1] [kw.2]) then some (Classical.choose h) else none
def rg (a b:Option Sl):Option (DW×DW):=match a,b with
 |some (.dos x),some (.dos y)=>some (x,y)
 |_,_=>none
def vY (h:rg a b=some p):a=some (.dos p.1)/\b=some (.dos p.2):=by
 unfold rg at h
 split at h
 .cases h;show ⟨rfl,rfl⟩
 .cases h
def sQ (h:L5 ρ=true):L5 (ρ.set i .un)=true:=by
 unfold L5 at h ⊢;rw[qG5]at h ⊢;intro x I;rcases qI7 I with q|q
 .show h x q
 .rw[q];rfl
def hU (t:TS):TS:=λD σ H=>∃p,kb p t D σ H
def lZ (h:PS X st t):PS X st (hU t):=λpins s σ H D I O=>by obtain ⟨p,q⟩:=O;show oF p h pins s σ H D I q
def rE {ρ:Rho}(e:ρ[i]?=some x) (O:i≠j):((ρ.set i .un).set j y).set i x=ρ.set j y:=by
 apply List.ext_getElem?;intro k;have hi:=(qA5.mp e).1;by_cases I:i=k
 .subst I;rw[qE0 (by rw[qD3,qD3];show hi),qB0 (Ne.symm O),e]
 .rw [qB0 I]
  by_cases hj:j=k
  .subst hj;simp only [qC5,qL8,qD3]
  .rw[qB0 hj,qB0 I,qB0 hj]
def fh {X:Cx}{K:Frag}{EX:EXT}{d:Mode}{pos:Pos}{i:Nat}{x:Str}{pos' I:Pos}(hN:X.N.Nodup) (hi:X.N[i]?=some x) (hx:Loc X.env.scope x) (O:swapsWith (.Dict [] [] pos) (some (.Name x pos')) I.line X.env=pure false:=by rfl) (hf:X.fn x=true\/X.env.scope.names.lookup x=some .local:=by first|show Or.inl rfl|show Or.inr rfl):
  PS X (.Assign [.Name x pos'] (.Dict [] [] pos) I) (tSt K EX d (Y3 i)):=(iz hN hi hx sD O hf).mono λ_ _ _ q=>yt q
def oy {X:Cx}{K:Frag}{EX:EXT}{k:Expr}{pos:Pos}{O:JV}{i:Nat}{x:Str}{p:Pos}(hu:X.A.units+64<cLine)(hN:X.N[i]?=some x)(hv:Vis X.env.scope x)(hk:PE X k (tM K EX .B O))(hd:(x == ("__debug__" : Str))=false:=by decide)(I:(x == ("__classdict__" : Str))=false:=by decide)(hm:behindInMarks .In (.Name x p)=false:=by rfl):PT X (.Compare k [.In] [.Name x p] pos) (tT K EX (cf false i O)):=(oD (Bg Qo hk (t8 hN hv hd I)) hm).mono λ_ _ _ q=>Ew q
def ow {X:Cx}{K:Frag}{EX:EXT}{k:Expr}{pos:Pos}{O:JV}{i:Nat}{x:Str}{p:Pos}(hu:X.A.units+64<cLine)(hN:X.N[i]?=some x)(hv:Vis X.env.scope x)(hk:PE X k (tM K EX .B O))(hd:(x == ("__debug__" : Str))=false:=by decide)(I:(x == ("__classdict__" : Str))=false:=by decide)(hm:behindInMarks .NotIn (.Name x p)=false:=by rfl):PT X (.Compare k [.NotIn] [.Name x p] pos) (tT K EX (cf true i O)):=(oD (oS Qo hk (t8 hN hv hd I)) hm).mono λ_ _ _ q=>qA q
def qx:B6 X (.builtin "len") (λxs H Q=>∃a kvs,xs = [.ref a]/\Rd H a (.dK kvs)/\Q (.int kvs.length) H):=by
 intro pins s σ H xs us Q I r h;obtain ⟨a,kvs,rfl,ha,q⟩:=h;obtain ⟨u,rfl,rx⟩:=vals1 r;cases rx;show GY I ha λt s' O=>⟨.int kvs.length,H,O,⟨t,rfl⟩,q⟩
def iq {X:Cx}{K:Frag}{EX:EXT}{d:Mode}{pos:Pos}{i:Nat}{x:Str}{p p2:Pos}(hg:Gl X "len") (hm:X.mg "len" = none) (hN:X.N[i]?=some x) (hv:Vis X.env.scope x) (hd:(x == ("__debug__" : Str))=false:=by decide) (I:(x == ("__classdict__" : Str))=false:=by decide) (he:starEach [.Name x p] X.env=(false,eval (.Name x p) X.env)::starEach [] X.env:=by rfl) (O:(backTo pos (starEach [] X.env)).any (·.1)=false:=by rfl):PE X (.Call (.Name "len" p2) [.Name x p] [] pos) (tM K EX d (W4 i)):=
 (iD qx hg hm qE2 (F7 (t8 hN hv hd I) pa_nil he) Qy Qy he O).mono λσ H Q q=>by
  obtain ⟨a,kvs,es,ha,h⟩:=Ep q;show ⟨.ref a,es,a,kvs,rfl,ha,h⟩
def AL {X:Cx}{K:Frag}{EX:EXT}{k v:Expr}{mk mv:JV}{i:Nat}{x:Str}{p apos I:Pos}(hN:X.N[i]?=some x) (hv:Vis X.env.scope x) (hk:PE X k (tM K EX .B mk)) (he:PE X v (tM K EX .V mv)) (hK:X.K=K:=by rfl) (hd:(x == ("__debug__" : Str))=false:=by decide) (b3:(x == ("__classdict__" : Str))=false:=by decide) (a3:attributeBase (.Name x p) "get" X.env (eval (.Name x p) X.env)=eval (.Name x p) X.env:=by rfl) (ae:((backTo I (starEach [k,v] X.env)).all (λx=>!x.1)&&(backToKw I (keywordEach [] X.env)).all (λx=>x.1.isSome)
   && decide (([k,v]:Jx).length+([]:List Keyword).length+(if ([]:List Keyword).isEmpty then 0 else 1)<30))=true:=by rfl) (a4:(apos.endLine == I.line)=true:=by rfl) (hs:starEach [k,v] X.env=(false,eval k X.env)::starEach [v] X.env:=by rfl) (b0:starEach [v] X.env=(false,eval v X.env)::starEach [] X.env:=by rfl) (O:(backTo I (starEach [v] X.env)).any (·.1)=false:=by rfl):
  PE X (.Call (.Attribute (.Name x p) "get" apos) [k,v] [] I) (tM K EX .V (cL i mk mv)):=by
 subst hK;show (mj qT6 PySem.F.slot_dict_get PySem.F.type_dict_get BE (t8 hN hv hd b3) (F7 hk (F7 he pa_nil b0) hs) a3 ae a4 hs O).mono λ_ _ _ q=>Eu q
def kD {X:Cx}{K:Frag}{EX:EXT}{pos:Pos}{i:Nat}{x:Str}{p p2:Pos}(hc:X.calm=true) (hg:Gl X "list") (hm:X.mg "list" = none) (hN:X.N[i]?=some x) (hv:Vis X.env.scope x) (hd:(x == ("__debug__" : Str))=false:=by decide) (I:(x == ("__classdict__" : Str))=false:=by decide) (he:starEach [.Name x p] X.env=(false,eval (.Name x p) X.env)::starEach [] X.env:=by rfl) (O:(backTo pos (starEach [] X.env)).any (·.1)=false:=by rfl):PE X (.Call (.Name "list" p2) [.Name x p] [] pos) (tM K EX .F (Y2 i)):=
 (fY (mT hc) hg hm yy (F7 (t8 hN hv hd I) pa_nil he) Qy Qy he O).mono λσ H Q q=>by
  obtain ⟨a,kvs,es,ha,h⟩:=yr q;show ⟨.ref a,es,a,kvs,rfl,ha,h⟩
def ku {X:Cx}{K:Frag}{EX:EXT}{pos:Pos}{i:Nat}{x:Str}{p p2 apos I:Pos}(hc:X.calm=true) (b0:Gl X "tuple") (a4:X.mg "tuple" = none) (hN:X.N[i]?=some x) (hv:Vis X.env.scope x) (hd:(x == ("__debug__" : Str))=false:=by decide) (b3:(x == ("__classdict__" : Str))=false:=by decide) (O:attributeBase (.Name x p) "values" X.env (eval (.Name x p) X.env)=eval (.Name x p) X.env:=by rfl) (a3:(apos.endLine == I.line)=true:=by rfl) (ae:starEach [.Call (.Attribute (.Name x p) "values" apos) [] [] I] X.env = [(false,eval (.Call (.Attribute (.Name x p) "values" apos) [] [] I) X.env)]:=by rfl):PE X (.Call (.Name "tuple" p2) [.Call (.Attribute (.Name x p) "values" apos) [] [] I] [] pos) (tM K EX .F (Y1 i)):=
 (sA hc b0 a4 (t8 hN hv hd b3) O a3 ae).mono λ_ _ _ q=>yo q
def AK {X:Cx}{K:Frag}{EX:EXT}{tg:Expr}{lp:Bool}{i:Nat}{x:Str}{p:Pos}(hN:X.N[i]?=some x)(O:Vis X.env.scope x)(hd:(x == ("__debug__" : Str))=false:=by decide)(I:(x == ("__classdict__" : Str))=false:=by decide):PI X tg (.Name x p) (tIt K EX lp .U (fE i)):=(AZ (t8 hN O hd I)).mono λ_ _ _ q=>Et (.inr rfl) q
def wF {X:Cx}{K:Frag}{EX:EXT}{d:Mode}{e k:Expr}{pos:Pos}{O me:JV}{i:Nat}{x:Str}{p p2:Pos}(hu:X.A.units+64<cLine)(hN:X.N[i]?=some x)(hv:Vis X.env.scope x)(hk:PE X k (tM K EX .B O))(he:PE X e (tM K EX .V me))(hd:(x == ("__debug__" : Str))=false:=by decide)(I:(x == ("__classdict__" : Str))=false:=by decide)(hs:swapsWith e (some (.Subscript (.Name x p) k p2)) pos.line X.env=pure false:=by rfl):PS X (.Assign [.Subscript (.Name x p) k p2] e pos) (tSt K EX d (dX i O me)):=(kJ Qo (t8 hN hv hd I) hk he hs).mono λ_ _ _ q=>Ek q
def oo {X:Cx}{K:Frag}{EX:EXT}{e k:Expr}{pos:Pos}{O me:JV}{i:Nat}{x:Str}{p p2:Pos}(hu:X.A.units+64<cLine)(hN:X.N[i]?=some x)(hv:Vis X.env.scope x)(hk:PE X k (tM K EX .B O))(he:PE X e (tM K EX .V me))(hd:(x == ("__debug__" : Str))=false:=by decide)(I:(x == ("__classdict__" : Str))=false:=by decide)(hs:swapsWith e (some (.Subscript (.Name x p) k p2)) pos.line X.env=pure false:=by rfl):PS X (.Assign [.Subscript (.Name x p) k p2] e pos) (tStP K EX (aZ i O me)):=(kJ Qo (t8 hN hv hd I) hk he hs).mono λ_ _ _ q=>El q
def aD {X:Cx}{K:Frag}{EX:EXT}{d:Mode}{m n:JW}{st:Stmt}{I:Jo}(h1:PS X st (tSt K EX d m))(h2:PSs X I (tStP K EX n)):PSs X (st::I) (tStP K EX (c6 (nb m) n)):=(dk (h1.mono λ_ _ _ q=>tStP.toS q) h2).mono λ_ _ _ q=>Eh q
def kC (h1:PS X st (tStP K EX m)):PSs X [st] (tStP K EX m):=aE h1
def h9 {α:Type}:List α->List α
 | []=>[]
 | [x]=>[x]
 |x::_::r=>x::h9 r
def eD:∀l:List α,(List.range ((l.length+1)/2)).filterMap (λk=>l[2*k]?)=h9 l
 | []=>by
  have e:(([]:List α).length+1)/2=0:=Qj;rw[e];rfl
 | [x]=>by
  have e:(([x]:List α).length+1)/2=1:=Qj;rw[e];rfl
 | x::y::r=>by
  have e:((x::y::r).length+1)/2=(r.length+1)/2+1:=by simp only [qA3];omega
  rw[e,List.range_succ_eq_map,qE9]
  change x::_=x::h9 r;rw[List.filterMap_map,<- eD r];rfl
def gr:∀l:List α,(h9 l).length<=l.length
 | []=>qB8 _
 | [x]=>qB8 _
 |x::y::r=>by have:=gr r;simp only [h9,qA3];omega
def V2 (f:α->β):∀l:List α,h9 (l.map f)=(h9 l).map f
 | []=>rfl
 | [x]=>rfl
 |x::y::r=>by simp only [qB2,h9,V2 f r]
def eC:∀{xs:List V}{us:Jw},Vals xs us->Vals (h9 xs) (h9 us)
 |_,_,.nil=>.nil
 |_,_,.cons h .nil=>.cons h .nil
 |_,_,.cons h (.cons _ t)=>.cons h (eC t)
def bx:∀{xs:List V}{ws:JJ},Reps K F xs ws->Reps K F (h9 xs) (h9 ws)
 | [],_,h=>by cases h;show .nil
 | [_],_,h=>by
  cases h with
  |cons a t=>cases t;show .cons a .nil
 | _::_::r,_,h=>by
  cases h with
  | cons a t=>cases t with
   |cons b t=>show .cons a (bx t)
def lo2:Option Int->Option Nat
 |none=>some 0
 |some 1=>some 1
 |_=>none
def FT (its:Jw) (h:lo2 lo=some a):slicePick its.toArray lo none (some 2)=(h9 (its.drop a)).toArray:=by
 have O:(sliceBounds lo none (some 2) its.toArray.size)=(((min a its.length:Nat):Int),((its.length:Nat):Int),2):=by
  unfold lo2 at h
  split at h
  .cases h;simp [sliceBounds]
  .cases h
   change (max 0 (min (if (1:Int)<0 then 1+(its.toArray.size:Int) else 1) (its.toArray.size:Int)),(its.toArray.size:Int),(2:Int))=_;rw[qD6];refine Prod.ext ?_ rfl
   change max 0 (min (if (1:Int)<0 then 1+(its.length:Int) else 1) (its.length:Int))=_;rw[qB4 Qy];omega
  .cases h
 unfold slicePick;rw[O]
 change ((sliceRange ((min a its.length:Nat):Int) ((its.length:Nat):Int) 2).filterMap (its.toArray[·]?)).toArray=_;refine congrArg List.toArray ?_;have I:sliceRange ((min a its.length:Nat):Int) ((its.length:Nat):Int) 2=(List.range (((its.drop a).length+1)/2)).map λk=>a+2*k:=by
  unfold sliceRange;rw[qC9];by_cases hl:a<its.length
  .have h1:((min a its.length:Nat):Int)<(its.length:Int):=Qo;simp only [show (2:Int)>0 by decide,qL8,h1];have e:(((its.length:Int)-((min a its.length:Nat):Int)+2-1)/2).toNat=(its.length-a+1)/2:=Qo;rw[e];refine qJ4 λk _=>?_;omega
  .have h1:¬ ((min a its.length:Nat):Int)<(its.length:Int):=Qo;simp only [show (2:Int)>0 by decide,qL8,h1,qM0];have e:(its.length-a+1)/2=0:=Qo;rw[e];rfl
 rw[I,List.filterMap_map,<- eD];refine congrArg (λf=>List.filterMap f _) (funext λk=>?_)
 change its.toArray[a+2*k]?=(its.drop a)[2*k]?;rw[qJ9];simp
def zu (K:Frag)(te:TE)(O tk:TO):TE:=λσ H Q=>te σ H λx H1=>O σ H1 λl H2=>tk σ H2 λk I=>k=some 2/\∃a xs b,x=.ref a/\lo2 l=some b/\SqL K I a xs/\∀p,I p=none->Q (.ref p) (upd I p (.lst (h9 (xs.drop b))))
section
open PySem.W PyProof.Rows
def oQ {st:Expr}{lo:Option Expr}(he:PE X e te) (hl:PO X lo tl) (hk:PO X (some st) tk):PE X (.Subscript e (.Slice lo none (some st) p2) pos) (zu X.K te tl tk):=by
 intro pins s σ H Q I h;refine Subscript_ (thn (he pins s σ H _ I h) λv s1 ae=>?_);obtain ⟨x,H1,I1,r1,q1⟩:=ae;refine wpAny_Slice (thn (hl pins s1 σ H1 _ I1 q1) λvl s2 a3=>?_);obtain ⟨l,H2,I2,pl,q2⟩:=a3;rw[evalPart_none];refine qL7 ?_;refine thn (hk pins s2 σ H2 _ I2 q2) λvk O a4=>?_;obtain ⟨k,H3,I3,pk,b4,a,xs,b,b3,b0,hx,q⟩:=a4;subst b3 b4;cases r1;have I4:Inv X pins σ H3 { O with heap:=O.heap.push { cls:=.type "slice",data:=.fields #[vl,.none,vk] } }:=I3.kept (t':=O.toks) λb ob q=>qB3 _ q;obtain ⟨its,r,ht,hz⟩:=I4.list hx;have hlen:=r.length
 change wpAny (model X.prog X.w) X.A (subscriptTail e (.Slice lo none (some st) p2) (.ref a) (.ref O.heap.objs.size)) (EP X pins σ Q) X.xe { O with heap:=O.heap.push { cls:=.type "slice",data:=.fields #[vl,.none,vk] } };refine tail_any (ops:=[.ref a,.ref O.heap.objs.size]) ht.isList.typeIs slot_list_getitem.lookup ?_ (by with_unfolding_all rfl);refine wpAny_getItem_list_slice ht.isList (Heap.IsSliceOf.new ..) pl .none pk Qy ?_ (by rw[qD6] <;> omega)
 rw[FT its b0];refine ⟨.ref _,_,I4.laid (t':=O.toks) (o:=.lst (h9 (xs.drop b))) (λb ob q=>qB3 _ q) (qB8 _) ?_,rfl,q _ (I4.hok.fresh (qB8 _))⟩;show ⟨qD9 (gr _) (by rw[qC9];omega),_,0,eC (r.drop b),qC8 _ rfl⟩
end
def st2 (c:Bool) (x:W) (l k:Jv):R W:=if k=some 2 then (match lo2 l with
 |some b=>toR (lstOf x)>>=λws=>chks c (h9 (ws.drop b))
 |none=>.stuck) else .stuck
def gW (c:Bool)(m:JV)(ml I:Rho->R Jv):JV:=λρ=>m ρ>>=λx=>ml ρ>>=λl=>I ρ>>=λk=>st2 c x l k
def Hk (h:tM K EX .F (gW c m ml mk) σ H Q):zu K (tM K EX (cb c) m) (N8 K EX ml) (N8 K EX mk) σ H Q:=by
 obtain ⟨H0,G,ρ,I,o⟩:=h;refine ⟨H0,G,ρ,I,Out.bind o λx G1 H1 w e1 m1 o1=>⟨H0,G1,ρ,I.ext e1,Out.bind o1 λl' G2 H2 l e2 m2 o2=>⟨H0,G2,ρ,(I.ext e1).ext e2,Out.bind o2 λk' G3 H3 k e3 m3 O=>?_⟩⟩⟩;subst m2;subst m3;have I3:=((I.ext e1).ext e2).ext e3;unfold st2 at O;by_cases hk:k'=some 2
 .rw [qA9 hk]at O
  cases ql:lo2 l' with
  |none=>rw[ql]at O;show O.elim
  | some b=>
   rw[ql]at O;cases q:lstOf w with
   |none=>rw[q]at O;show O.elim
   | some ws=>
    rw[q]at O;obtain ⟨a,vs,ex,hs,r⟩:=Md.lstOf I3 ((m1.move e2).move e3) q;refine ⟨hk,a,vs,b,ex,rfl,hs,Out.chks I3 ((e1.hh.trans e2.hh).trans e3.hh) (c:=c) ?_ O⟩;cases c with
    |true=>rw[qA9 rfl]at r ⊢;show bx (r.drop b)
    |false=>rw[qB4 qC0]at r ⊢;show bx (r.drop b)
 .rw[qB4 hk]at O;show O.elim
def uU {X:Cx}{K:Frag}{EX:EXT}{e:Expr}{pos:Pos}{ma:JV}(c:Bool){lo:Option Expr}{st:Expr}{p2:Pos}{ml I:Rho->R Jv}(he:PE X e (tM K EX (cb c) ma)) (hl:PO X lo (N8 K EX ml)) (O:PO X (some st) (N8 K EX I)) (hK:X.K=K:=by rfl):PE X (.Subscript e (.Slice lo none (some st) p2) pos) (tM K EX .F (gW c ma ml I)):=by
 subst hK;show (oQ he hl O).mono λ_ _ _ q=>Hk q
end TP
namespace L2
open PySem PySem.Spec PyProof.Rows
def nr (lo:Int)(n:Nat):It:=⟨λi _=>i<n,λi H x H'=>H'=H/\x=.int (lo+i*2),λi _=>n<=i⟩
def jH {K:Frag}(it:Addr) (lo:Int) (n:Nat):Turn P w K tg (nr lo n) [it] it (λi h=>IsRangeIter h it (lo+(i:Nat)*2) ((n:Int)-(i:Nat)) 2) where
 mem:=Qj
 obj:=λi h st b O=>by
  have e:b=it:=by simpa using O
  subst e;show ⟨_,st,λv z=>by
   have z':Data.fields _=Data.cell v:=z;cases z'⟩
 keep:=λi h h' st k=>k it Qj _ st
 item:=by
  intro X hP hw hK hc i pins s σ H E I hf st hg;subst hP hw hK;obtain ⟨f0,f1,f2,f3,f4,f5⟩:=hf it Qj;have W:=Walks.range (prog:=X.prog) (w:=X.w) (I.ok.hd hc) it lo 2 n;refine W.item i s _ _ hg st λv h' tk hv a3 kk=>?_;obtain ⟨t,rfl⟩:=hv;have I1:Inv X pins σ H { s with heap:=h',toks:=tk }:=I.turned (λb o O e=>kk b o (by simpa using O) e) f0 f1 f3 f4 f5;show ⟨_,rfl,cQ (s:={ s with heap:=h',toks:=tk }) (n := "range_iterator") a3 rfl rfl Qy ⟨.int (lo+i*2),H,I1,⟨t,rfl⟩,⟨rfl,rfl⟩,a3,λb O=>(hf b O).1⟩⟩
 done:=by
  intro X hP hw hK hc i pins s σ H E I hf st hg;subst hP hw hK;obtain ⟨f0,f1,f2,f3,f4,f5⟩:=hf it Qj;show wpAny_pyNext_range_end (I.ok.hd hc) st (by have:n<=i:=hg;omega) λh' eb=>⟨rfl,I.turned (t':=s.toks) (λb o O e=>eb b o O e) f0 f1 f3 f4 f5⟩
 self:=λ_ _ _ _ _ st h=>wpAny_pyIter_rangeiter st h
def vq (I:TA):TI:=λσ H R=>I σ H λvs H1=>∃i j:Int,vs = [.int i,.int j,.int 2]/\(-1000000<=i/\i<=1000000 /\ -1000000<=j/\j<=1000000)/\R (nr i ((j-i+1)/2).toNat) H1
def uQ:Builtin.Range.rangeSize i j 2=(((j-i+1)/2).toNat:Int):=by
 unfold Builtin.Range.rangeSize;rw[qA9 Qy]
 split <;> omega
def zE (h:-1000000<=i/\i<=1000000 /\ -1000000<=j/\j<=1000000):Builtin.Range.small i j 2=true:=by
 unfold Builtin.Range.small;rw[uQ];simp only [Builtin.Range.rangeFitsLong,qI0,Bool.or_eq_true,decide_eq_true_eq,beq_iff_eq,show (2:Int)>0 by decide,qL8];omega
def oN {X:Cx}{tg:Expr}{a b c:Expr}{ta:TA}{p pos:Pos}(hg:Gl X "range") (hm:X.mg "range" = none) (ha:PA X [a,b,c] ta) (hs:starEach [a,b,c] X.env = [(false,eval a X.env),(false,eval b X.env),(false,eval c X.env)]:=by rfl) (a4:starEach [b,c] X.env = [(false,eval b X.env),(false,eval c X.env)]:=by rfl):
  PI X tg (.Call (.Name "range" p) [a,b,c] [] pos) (vq ta):=by
 intro pins s σ H R I h;refine Call_ (Y4 I hg hm boot_range (qH0 (thn (ha pos pins s σ H _ I h) λus s1 a3=>?_) (by rw[hs,a4]) (by rw[a4];rfl)));obtain ⟨vs,H1,I1,r1,q1⟩:=a3;obtain ⟨i,j,e,hb,q⟩:=q1;subst e;cases r1 with
 | cons r rr=>
  cases rr with
  | cons r' rr=>
   cases rr with
   | cons ae rr=>
    cases rr;obtain ⟨t,rfl⟩:=r;obtain ⟨t',rfl⟩:=r';obtain ⟨O,rfl⟩:=ae;refine PySem.call_range_3 Qy ?_ (.inl (PyProof.noPylong_small Qy));refine wpAny_pyIter_range (IsRange.new ..) (zE hb) ?_;have I2:Inv X pins σ H1 { s1 with heap:=s1.heap.push { cls:=.type "range",data:=.fields #[.int i t,.int j t',.int 2 O] },toks:=s1.toks }:=I1.kept λb o e=>qB3 _ e;refine ⟨(s1.heap.push { cls:=.type "range",data:=.fields #[.int i t,.int j t',.int 2 O] }).objs.size,[(s1.heap.push { cls:=.type "range",data:=.fields #[.int i t,.int j t',.int 2 O] }).objs.size],_,_,H1,rfl,
     I2.kept (t':=s1.toks) λb o e=>qB3 _ e,jH _ i ((j-i+1)/2).toNat,?_,λb hb=>?_,q⟩
    .have e1:i+((0:Nat):Int)*2=i:=Qj;have e2:((((j-i+1)/2).toNat:Nat):Int)-((0:Nat):Int)=Builtin.Range.rangeSize i j 2:=by rw[uQ];omega
     change IsRangeIter _ _ (i+((0:Nat):Int)*2) (((((j-i+1)/2).toNat:Nat):Int)-((0:Nat):Int)) 2;rw[e1,e2];show qC8 _ rfl
    .have e:b=(s1.heap.push { cls:=.type "range",data:=.fields #[.int i t,.int j t',.int 2 O] }).objs.size:=by simpa using hb
     subst e;show I2.fpOk (qB8 _) (I2.hok.fresh (qB8 _))
end L2
namespace TP
open PySem L2
def eX:List W->R JJ
 | [.int i,.int j,.int k]=>if k=2 /\ -1000000<=i/\i<=1000000 /\ -1000000<=j/\j<=1000000 then .ok ((List.range ((j-i+1)/2).toNat).map λk=>W.int (i+(k:Nat)*2)) else .stuck
 |_=>.stuck
def pU (he:e=.V\/e=.U):av K e H0 Z G (nr lo n) ((List.range n).map λk=>W.int (lo+(k:Nat)*2)):=by
 refine ⟨λi H hi _=>by change i<n;simpa using hi,λH _=>by simp [nr],λi H x H' w hw _ O G2 ρ σ I _=>?_⟩;obtain ⟨e1,e2⟩:=O;subst e1;subst e2;rw[qC1]at hw;cases q:(List.range n)[i]? with
 |none=>rw[q]at hw;cases hw
 | some k=>
  rw[q]at hw;have hk:k=i:=by
   have:=qA5.mp q
   obtain ⟨h1,h2⟩:=this;rw[List.getElem_range]at h2;show h2.symm
  subst hk;cases hw;refine ⟨G2,Ext.refl I.gh,?_⟩;rcases he with rfl|rfl
  .show .int
  .show .int
def Ei (he:e=.V\/e=.U) (h:tIt K EX lp e (bI eX ma) σ H Rr):vq (tA K EX .B ma) σ H Rr:=by
 refine df h (λH0 G ρ G1 H1 xs ws us I O m1 q o=>?_) (λws e z=>?_)
 .unfold eX at q
  split at q
  .rename_i i j k
   split at q
   .rename_i hc
    cases q;cases m1 with
    | cons a t=>cases t with
     | cons b t=>cases t with
      | cons c t=>
       cases t;rw[a.intB,b.intB,c.intB,hc.1];show ⟨i,j,rfl,hc.2,o _ G1 H1 O (pU he)⟩
   .cases q
  .cases q
 .unfold eX at z
  split at z
  .split at z <;> cases z
  .cases z
def AG {X:Cx}{K:Frag}{EX:EXT}{tg:Expr}{lp:Bool}{pos:Pos}{O:JK}{a b c:Expr}{p:Pos}(hg:Gl X "range") (hm:X.mg "range" = none) (ha:PA X [a,b,c] (tA K EX .B O)) (hs:starEach [a,b,c] X.env = [(false,eval a X.env),(false,eval b X.env),(false,eval c X.env)]:=by rfl) (I:starEach [b,c] X.env = [(false,eval b X.env),(false,eval c X.env)]:=by rfl):PI X tg (.Call (.Name "range" p) [a,b,c] [] pos) (tIt K EX lp .U (bI eX O)):=
 (oN hg hm ha hs I).mono λ_ _ _ q=>Ei (.inr rfl) q
end TP
namespace L2
open PySem PySem.Spec PyProof.Rows Builtin Builtin.Str
def mulOk_of (ha:a.length<=100) (hn:-100<=n/\n<=100):MulOk a n:=by
 refine ⟨?_,λh _ hc=>?_,λh _=>?_⟩
 .rw[qL1 Qo,qL1 Qo];rfl
 .have h1:(a.length:Int)*n<=100*100:=Int.mul_le_mul Qo hn.2 Qo Qy;have h2:(a.length:Int)<=(2^63-1)/n:=(Int.le_ediv_iff_mul_le Qo).mpr Qo;omega
 .have h1:a.length*n.toNat<=100*100:=Nat.mul_le_mul ha Qo;have e:(2:Nat)^24=16777216:=Qy;unfold tooLong sizeLine;show qL1 Qo
def aF:OpR X (binaryOp .Mult) (λx y H Q=>∃a n,x=.str a/\y=.int n/\a.length<=100/\(-100<=n/\n<=100)/\Q (.str (Txt.mul a n)) H):=by
 intro pins s σ H x y v u Q I O ry h;obtain ⟨a,n,rfl,rfl,ha,hn,q⟩:=h;obtain ⟨t,rfl⟩:=O;obtain ⟨t',rfl⟩:=ry;show SB.mul (mulOk_of ha hn) λt' k=>⟨.str _,H,I.tok k,⟨_,rfl⟩,q⟩
def rUpp:V->List V->Hp->VK->Prop:=λx xs H Q=>∃a,x=.str a/\xs = []/\(Txt.upper a).length<=100000/\Q (.str (Txt.upper a)) H
def BD:MtR X "str.upper" rUpp:=by
 intro pins s σ H x xs v us Q I rx rs h;obtain ⟨a,rfl,rfl,ha,q⟩:=h;obtain ⟨t,rfl⟩:=rx;have O:=rs.zero;subst O;have hf:tooLong (Txt.upper a).length=false:=by
  have e:(2:Nat)^24=16777216:=Qy;unfold tooLong sizeLine;show qL1 Qo
 show call_gives F.slot_str_upper (qM9 _ _ _) F.entry_str_upper (F.args_str_upper_1 _) (gives_str_upper a t hf) ⟨fit_le hf,.str _,H,I.tok _,⟨_,rfl⟩,q⟩
end L2
namespace TP
open PySem L2
def fMulS:W->W->R W
 | .str x,.int n=>if x.length<=100 /\ -100<=n/\n<=100 then .ok (.str (Txt.mul x n)) else .stuck
 |_,_=>.stuck
def aH:Op2 K .B d (λx y H Q=>∃a n,x=.str a/\y=.int n/\a.length<=100/\(-100<=n/\n<=100)/\Q (.str (Txt.mul a n)) H) fMulS:=by
 intro EX H0 Hs G H ρ σ Ha Hb x y u v Q I s O my o;cases u <;> first|show o.elim|skip
 all_goals (cases v <;> first|show o.elim|skip)
 rename_i z i
 have o':Out EX G H (mdW K d H0 Hs) (if z.length<=100 /\ -100<=i/\i<=100 then R.ok (W.str (Txt.mul z i)) else .stuck) Q:=o;by_cases c:z.length<=100 /\ -100<=i/\i<=100
 .rw [qA9 c]at o'
  show ⟨z,i,O.strB,my.intB,c.1,c.2,o' _ G H (Ext.refl I.gh) (Md.sca rfl (λ_=>.str) d)⟩
 .rw[qB4 c]at o';show o'.elim
def gX (x:W):R W:=match x with
 | .str a=>if (Txt.upper a).length<=100000 then .ok (.str (Txt.upper a)) else .stuck
 |_=>.stuck
def fC (I:JV):JV:=λρ=>I ρ>>=gX
def Hg (h:tM K EX d (fC mo) σ H Q):zC K "str" rUpp (tM K EX .B mo) σ H Q:=by
 obtain ⟨H0,G,ρ,I,o⟩:=h;refine ⟨H0,G,ρ,I,Out.bind o λx G1 H1 w e1 m1 O=>?_⟩;have I1:=I.ext e1;cases w <;> first|show O.elim|skip
 rename_i a
 obtain rfl:=m1.strB;have o':Out EX G1 H1 (mdW K d H0 H) (if (Txt.upper a).length<=100000 then R.ok (W.str (Txt.upper a)) else .stuck) Q:=O;by_cases c:(Txt.upper a).length<=100000
 .rw [qA9 c]at o'
  show ⟨rfl,a,rfl,rfl,c,o' _ G1 H1 (Ext.refl I1.gh) (Md.sca rfl (λ_=>.str) d)⟩
 .rw[qB4 c]at o';show o'.elim
def uT {X:Cx}{K:Frag}{EX:EXT}{d:Mode}{o:Expr}{apos I:Pos}{mo:JV}(ho:PE X o (tM K EX .B mo)) (hK:X.K=K:=by rfl) (a3:attributeBase o "upper" X.env (eval o X.env)=eval o X.env:=by rfl) (O:(apos.endLine == I.line)=true:=by rfl):
  PE X (.Call (.Attribute o "upper" apos) [] [] I) (tM K EX d (fC mo)):=by
 subst hK;show (Be qK2 PySem.F.slot_str_upper PySem.F.type_str_upper BD ho a3 O).mono λ_ _ _ q=>Hg q
end TP
namespace L2
open PySem PySem.Spec PyProof.Rows Builtin Builtin.Str
def PEn (X:Cx) (e:Expr) (t:TE):Prop:=
 ∀(pins:Jq) (s:Shared) (σ:L2.St) (H:Hp) (Q:VK),Inv X pins σ H s->t σ H Q->wpAny (model X.prog X.w) X.A (eval e X.env) (λu s'=>s'.toks≠0/\EP X pins σ Q u s') X.xe s
def PEk (X:Cx) (e:Expr) (t:TE):Prop:=
 ∀(pins:Jq) (s:Shared) (σ:L2.St) (H:Hp) (Q:VK),Inv X pins σ H s->s.toks≠0->t σ H Q->wpAny (model X.prog X.w) X.A (eval e X.env) (λu s'=>s'.toks≠0/\EP X pins σ Q u s') X.xe s
def PAk (X:Cx) (es:Jx) (t:TA):Prop:=
 ∀(pos:Pos) (pins:Jq) (s:Shared) (σ:L2.St) (H:Hp) (Q:List V->Hp->Prop),Inv X pins σ H s->s.toks≠0->t σ H Q->wpAny (model X.prog X.w) X.A (spliced (backTo pos (starEach es X.env))) (AP X pins σ Q) X.xe s
def PEn.mono (h:PEn X e te)(O:∀σ H Q,te' σ H Q->te σ H Q):PEn X e te':=λpins s σ H Q I q=>h pins s σ H Q I (O σ H Q q)
def PEk.mono (h:PEk X e te)(O:∀σ H Q,te' σ H Q->te σ H Q):PEk X e te':=λpins s σ H Q I z q=>h pins s σ H Q I z (O σ H Q q)
def PAk.mono (h:PAk X es t)(O:∀σ H Q,t' σ H Q->t σ H Q):PAk X es t':=λpos pins s σ H Q I z q=>h pos pins s σ H Q I z (O σ H Q q)
def Bh (h:PA X es t):PAk X es t:=λpos pins s σ H Q I _ q=>h pos pins s σ H Q I q
def sI (ha:PEk X e te) (hr:PAk X es t) (hs:starEach (e::es) X.env=(false,eval e X.env)::starEach es X.env:=by rfl):PAk X (e::es) (Q0 te t):=by
 intro pos pins s σ H Q I z h;rw[hs]
 change wpAny _ _ (spliced ((false,eval e X.env)::backTo pos (starEach es X.env))) _ _ s;refine qI3 (thn (ha pins s σ H _ I z h) λu s1 O=>?_);obtain ⟨z1,x,H1,I1,r1,q1⟩:=O;show thn (hr pos pins s1 σ H1 _ I1 z1 q1) λus s2 a3=>by obtain ⟨xs,H2,I2,r2,q2⟩:=a3;show ⟨x::xs,H2,I2,.cons r1 r2,q2⟩
def sJ (ha:PEn X e te) (hr:PAk X es t) (hs:starEach (e::es) X.env=(false,eval e X.env)::starEach es X.env:=by rfl):PA X (e::es) (Q0 te t):=by
 intro pos pins s σ H Q I h;rw[hs]
 change wpAny _ _ (spliced ((false,eval e X.env)::backTo pos (starEach es X.env))) _ _ s;refine qI3 (thn (ha pins s σ H _ I h) λu s1 O=>?_);obtain ⟨z1,x,H1,I1,r1,q1⟩:=O;show thn (hr pos pins s1 σ H1 _ I1 z1 q1) λus s2 a3=>by obtain ⟨xs,H2,I2,r2,q2⟩:=a3;show ⟨x::xs,H2,I2,.cons r1 r2,q2⟩
def pen_str {x j p}:PEn X (.Constant (.str x) j p) (tC (.str x)):=λ_ s _ H _ I h=>qJ5 ⟨qJ1 _,.str x,H,I.tok _,⟨_,rfl⟩,h⟩
def FI:R2:=λx y H Q=>∃i j,x=.str i/\y=.str j/\i.length+j.length<=sizeLine/\Q (.str (i++j)) H
def wP {j p}(ha:PE X a ta) (hb:∀σ H Q,tb σ H Q->Q (.str y) H):PEn X (.BinOp a .Add (.Constant (.str y) j p) pos) (tOp FI ta tb):=by
 intro pins s σ H Q I h;refine wpAny_BinOp (thn (ha pins s σ H _ I h) λv s1 a3=>?_);obtain ⟨x,H1,I1,r1,q1⟩:=a3;refine qJ5 ?_;obtain ⟨i,j',rfl,ey,hz,q⟩:=hb _ _ _ q1;cases ey;obtain ⟨t,rfl⟩:=r1;have I2:=I1.tok (s1.toks+1);have O:∀t' k,k≠0->(λu s'=>s'.toks≠0/\EP X pins σ Q u s') (.str (i++y) t') { s1 with toks:=k }:=λt' k hk=>⟨hk,.str (i++y),H1,I1.tok k,⟨_,rfl⟩,q⟩;refine P.add_str ?_;by_cases c1:(i.length == 0)=true
 .rw [qA9 c1]
  have e:i++y=y:=by
   have:i=Str.empty:=Str.ext' (qP6 (eq_of_beq c1))
   rw[this,Str.empty_append]
  have:=O s1.toks (s1.toks+1) (qJ1 _)
  rw[e]at this;show this
 .rw [qB4 c1]
  by_cases c2:(y.length == 0)=true
  .rw [qA9 c2]
   have e:i++y=i:=by
    have:y=Str.empty:=Str.ext' (qP6 (eq_of_beq c2))
    rw[this,qS8]
   have:=O t (s1.toks+1) (qJ1 _)
   rw[e]at this;show this
  .rw [qB4 c2]
   show ⟨by rw[qF6];show hz,O _ _ (qJ1 _)⟩
def zv (i:Nat)(y z:Str):TE:=λσ H Q=>m9 i σ H λx H1=>∃a,x=.str a/\a.length<=100000/\Q (.str (Txt.replace a y z)) H1
def wQ {X:Cx}{i:Nat}{x y z:Str}{p apos a3 p1 p2:Pos}{j1 j2:Nat}(c1:(y == z)=false) (hz:z.length<=10) (hN:X.N[i]?=some x) (hv:Vis X.env.scope x) (hd:(x == ("__debug__" : Str))=false:=by decide) (bc:(x == ("__classdict__" : Str))=false:=by decide) (a4:attributeBase (.Name x p) "replace" X.env (eval (.Name x p) X.env)=eval (.Name x p) X.env:=by rfl) (b4:((backTo a3 (starEach [.Constant (.str y) j1 p1,.Constant (.str z) j2 p2] X.env)).all (λx=>!x.1)&&(backToKw a3 (keywordEach [] X.env)).all (λx=>x.1.isSome)
   && decide (([.Constant (.str y) j1 p1,.Constant (.str z) j2 p2]:Jx).length+([]:List Keyword).length+(if ([]:List Keyword).isEmpty then 0 else 1)<30))=true:=by rfl) (b3:(apos.endLine == a3.line)=true:=by rfl) (hs:starEach [.Constant (.str y) j1 p1,.Constant (.str z) j2 p2] X.env = [(false,eval (.Constant (.str y) j1 p1) X.env),(false,eval (.Constant (.str z) j2 p2) X.env)]:=by rfl):
  PEk X (.Call (.Attribute (.Name x p) "replace" apos) [.Constant (.str y) j1 p1,.Constant (.str z) j2 p2] [] a3) (zv i y z):=by
 intro pins s σ H Q I z0 h;obtain ⟨v,e,a,rfl,ha,q⟩:=h;obtain ⟨m,hn,hl⟩:=I.loc;obtain ⟨u,r,l⟩:=hl i x (.str a) hN e hv;obtain ⟨t,rfl⟩:=r;have ae:(λ(u:Value) (s':Shared)=>u=Value.str a t/\s'=s) (Value.str a t) s:=⟨rfl,rfl⟩;have b5:wpAny (model X.prog X.w) X.A (eval (.Name x p) X.env) (λ(u:Value) (s':Shared)=>u=Value.str a t/\s'=s) X.xe s:=by
  rcases l with ⟨hk,hm⟩|⟨hk,c,hc,hcell⟩
  .show qP0 (wpAny_loadName_local I.ok.kind hk hn hm ae) hd
  .rcases hk with hk|hk
   .show qP0 (wpAny_loadName_cell I.ok.kind hk hc hcell ae) hd
   .show qP0 (wpAny_loadName_free I.ok.kind hk hc hcell ae bc) hd
 refine qO1 a4 b4 b3 rfl (thn b5 λv s1 b0=>?_);obtain ⟨ev,es⟩:=b0;subst ev;rw[es];refine ⟨"str","str.replace",qK2,PySem.F.slot_str_replace,PySem.F.type_str_replace,qM9 _ _ _,λ_ h=>(by cases h),?_⟩;rw[hs];refine qI1 Qq (qP2 ?_)
 change wpAny _ _ (spliced [(false,eval (.Constant (.str y) j1 p1) X.env),(false,eval (.Constant (.str z) j2 p2) X.env)]) _ _ s;refine qI3 (qJ5 ?_);refine qI3 (qJ5 ?_);refine qR3 ?_;have hb:a.length+(a.length+1)*z.length<=16777216:=by
  have:=Nat.mul_le_mul (show a.length+1<=100001 by omega) hz
  omega
 have bf:tooLong (a.length+(occurrences a y 0 a.length (a.length+1)).length*z.length)=false:=by
  have h1:=StrLaws.occ_length_le a y 0 a.length (a.length+1);have h2:(occurrences a y 0 a.length (a.length+1)).length*z.length<=(a.length+1)*z.length:=qI8 _ h1;have e:(2:Nat)^24=16777216:=Qy;unfold tooLong sizeLine;show qL1 Qo
 refine call_gives F.slot_str_replace (qM9 _ _ _) F.entry_str_replace (F.args_str_replace_3 _ _ _)
  (gives_str_replace a y z t s.toks (s.toks+1) λ_=>⟨by simp [z0],Qj,c1,bf⟩) ?_
 have O:∀t' k,k≠0->(λu s'=>s'.toks≠0/\EP X pins σ Q u s') (.str (Txt.replace a y z) t') { s with toks:=k }:=λt' k hk=>⟨hk,.str _,H,I.tok k,⟨_,rfl⟩,q⟩;unfold Txt.replace at O;cases hc:((occurrences a y 0 a.length (a.length+1)).isEmpty||(y.length == 0&&z.length == 0))
 .rw [hc]at O
  simp only [qE6,qM0]at O ⊢;show ⟨fits_replaced y hb,O _ _ (qJ1 _)⟩
 .rw [hc]at O
  simp only [qL8]at O ⊢;show O _ _ (qJ1 _)
end L2
namespace TP
open PySem L2
def rep1 (y z:Str) (x:W):R W:=match x with
 | .str a=>if a.length<=100000 then .ok (.str (Txt.replace a y z)) else .stuck
 |_=>.stuck
def fD (i:Nat)(y z:Str):JV:=λρ=>a6 .B i ρ>>=rep1 y z
def Hn (h:tM K EX d (fD i y z) σ H Q):zv i y z σ H Q:=by
 obtain ⟨H0,G,ρ,I,o⟩:=h;refine mU (K:=K) (EX:=EX) (d:=.B) ⟨H0,G,ρ,I,Out.bind o λx G1 H1 w e1 m1 O=>?_⟩;have I1:=I.ext e1;cases w <;> first|show O.elim|skip
 rename_i a
 obtain rfl:=m1.strB;have o':Out EX G1 H1 (mdW K d H0 H) (if a.length<=100000 then R.ok (W.str (Txt.replace a y z)) else .stuck) Q:=O;by_cases c:a.length<=100000
 .rw [qA9 c]at o'
  show ⟨a,rfl,c,o' _ G1 H1 (Ext.refl I1.gh) (Md.sca rfl (λ_=>.str) d)⟩
 .rw[qB4 c]at o';show o'.elim
def lU {X:Cx}{K:Frag}{EX:EXT}{d:Mode}{i:Nat}{x y z:Str}{p apos I p1 p2:Pos}{j1 j2:Nat}(b0:(y == z)=false) (hz:z.length<=10) (hN:X.N[i]?=some x) (hv:Vis X.env.scope x) (hd:(x == ("__debug__" : Str))=false:=by decide) (ae:(x == ("__classdict__" : Str))=false:=by decide) (O:attributeBase (.Name x p) "replace" X.env (eval (.Name x p) X.env)=eval (.Name x p) X.env:=by rfl) (a4:((backTo I (starEach [.Constant (.str y) j1 p1,.Constant (.str z) j2 p2] X.env)).all (λx=>!x.1)&&(backToKw I (keywordEach [] X.env)).all (λx=>x.1.isSome)
   && decide (([.Constant (.str y) j1 p1,.Constant (.str z) j2 p2]:Jx).length+([]:List Keyword).length+(if ([]:List Keyword).isEmpty then 0 else 1)<30))=true:=by rfl) (a3:(apos.endLine == I.line)=true:=by rfl) (hs:starEach [.Constant (.str y) j1 p1,.Constant (.str z) j2 p2] X.env = [(false,eval (.Constant (.str y) j1 p1) X.env),(false,eval (.Constant (.str z) j2 p2) X.env)]:=by rfl):
  PEk X (.Call (.Attribute (.Name x p) "replace" apos) [.Constant (.str y) j1 p1,.Constant (.str z) j2 p2] [] I) (tM K EX d (fD i y z)):=
 (wQ b0 hz hN hv hd ae O a4 a3 hs).mono λ_ _ _ q=>Hn q
def AH {x j p}:PEn X (.Constant (.str x) j p) (tM K EX d (mC (.str x))):=pen_str.mono λ_ _ _ q=>N7 rfl (λ_=>.str) q
def AJ {j p}(ha:PE X a (tM K EX .B ma)):PEn X (.BinOp a .Add (.Constant (.str y) j p) pos) (tM K EX d (b2 (fSS C9 C8) ma (mC (.str y)))):=
 (wP (tb:=tM K EX .B (mC (.str y))) ha λ_ _ _ q=>N7 rfl (λ_=>.str) q).mono λ_ _ _ q=>dy x9 q
def fg {X:Cx}{K:Frag}{EX:EXT}{d:Mode}{e:Expr}{es:Jx}{ma:JV}{I:JK}(ha:PEk X e (tM K EX d ma))(O:PAk X es (tA K EX d I))(hs:starEach (e::es) X.env=(false,eval e X.env)::starEach es X.env:=by rfl):PAk X (e::es) (tA K EX d (aC ma I)):=(sI ha O hs).mono λ_ _ _ q=>jy q
def uV (h:PA X es (tA K EX d mr)):PAk X es (tA K EX d mr):=Bh h
def kB {X:Cx}{K:Frag}{EX:EXT}{d:Mode}{e:Expr}{es:Jx}{ma:JV}{I:JK}(ha:PEn X e (tM K EX d ma))(O:PAk X es (tA K EX d I))(hs:starEach (e::es) X.env=(false,eval e X.env)::starEach es X.env:=by rfl):PA X (e::es) (tA K EX d (aC ma I)):=(sJ ha O hs).mono λ_ _ _ q=>jy q
def X2 (K:Frag) (n:Nat) (f:List W->R W):Sp:=λvs H Q E=>vs.length=n/\∃ws,Reps K H vs ws/\match f ws with
 | .ok (.dst false p [k] [w])=>∃kvs,H p=some (.dK kvs)/\kvs.length<1000/\∀v G' H',Same G' H'->Same H H'->(∀a o,H a=some o->isL o=true->G' a=none)->Rep K G' v w->Q .non (upd H' p (.dK (putK kvs (Sum.inr k) v)))
 | .ex e=>∀H',Same H H'->XE1 K E e H'
 |_=>False
def jz (h:X2 K n (i5 n Nl.length m) vs H Q E):tStP K (XE1 K E) m { nx:=λ_ H'=>Q .non H',rt:=Q } (L2.start Nl vs) H:=by
 obtain ⟨hl,ws,r,o⟩:=h;have hw:ws.length=n:=by rw[<- r.length];show hl
 unfold i5 at o;rw[qA9 hw]at o;refine ⟨H,N9 H,_,PIv.begin (k:=Nl.length-n) r (by rw[hl]),?_⟩
 revert o
 cases m (ws.map Sl.par++List.replicate (Nl.length-n) Sl.un) with
 |stuck=>show id
 |ex e=>show λo=>o
 | ok f=>
  cases f with
  |nx I=>show λo=>o.elim
  |bk _=>show λo=>o.elim
  |ct _=>show λo=>o.elim
  | rt w=>
   intro o;have o':(match (R.ok w:R W) with
    | .ok (.dst false p [k] [w])=>∃kvs,H p=some (.dK kvs)/\kvs.length<1000/\∀v G' H',Same G' H'->Same H H'->(∀a o,H a=some o->isL o=true->G' a=none)->Rep K G' v w->Q .non (upd H' p (.dK (putK kvs (Sum.inr k) v)))
    | .ex e=>∀H',Same H H'->XE1 K E e H'
    |_=>False):=o
   split at o'
   .rename_i p k w0 e
    cases e;obtain ⟨kvs,h1,h2,q⟩:=o';show ⟨kvs,h1,h2,λv G' O H' a b c d=>q v G' H' a b c d⟩
   .rename_i e;cases e
   .show o'.elim
open Classical in
def W0 (f:Addr->R W):R (Str×W):=if h:∃kw:Str×W,∀p,f p=.ok (.dst false p [kw.1] [kw.2]) then .ok (Classical.choose h) else if h:∃e,∀p,f p=.ex e then .ex (Classical.choose h) else .stuck
def mf (h:W0 f=.ok kw) (p:Addr):f p=.ok (.dst false p [kw.1] [kw.2]):=by
 unfold W0 at h
 split at h
 .rename_i q
  cases h;show qG2 q p
 .split at h <;> cases h
def sw (h:W0 f=.ex e) (p:Addr):f p=.ex e:=by
 unfold W0 at h
 split at h
 .cases h
 .split at h
  .rename_i q
   cases h;show qG2 q p
  .cases h
def sv (h:∀p,f p=.ok (.dst false p [k] [w])):W0 f=.ok (k,w):=by
 have I:∃kw:Str×W,∀p,f p=.ok (.dst false p [kw.1] [kw.2]):=⟨(k,w),h⟩;unfold W0;rw[dif_pos I]
 have:=qG2 I (0:Nat)
 rw[h]at this;cases this;rfl
def wK (h:∀p,f p=.ex e):W0 f=.ex e:=by
 have hn:¬ ∃kw:Str×W,∀p,f p=.ok (.dst false p [kw.1] [kw.2]):=λI=>by
  obtain ⟨kw,q⟩:=I
  have:=q 0
  rw[h]at this;cases this
 have O:∃e,∀p,f p=.ex e:=⟨e,h⟩;unfold W0;rw[dif_neg hn,dif_pos O]
 have:=qG2 O (0:Nat)
 rw[h]at this;cases this;rfl
open Classical in
def Q8 (f:Addr->Addr->R W):R (Str×W):=if h:∃kw:Str×W,∀q p,f q p=.ok (.dst false p [kw.1] [kw.2]) then .ok (Classical.choose h) else if h:∃e,∀q p,f q p=.ex e then .ex (Classical.choose h) else .stuck
def jJ (h:Q8 f=.ok kw) (q p:Addr):f q p=.ok (.dst false p [kw.1] [kw.2]):=by
 unfold Q8 at h
 split at h
 .rename_i z
  cases h;show qG2 z q p
 .split at h <;> cases h
def oI (h:Q8 f=.ex e) (q p:Addr):f q p=.ex e:=by
 unfold Q8 at h
 split at h
 .cases h
 .split at h
  .rename_i z
   cases h;show qG2 z q p
  .cases h
def oH (h:∀q p,f q p=.ok (.dst false p [k] [w])):Q8 f=.ok (k,w):=by
 have I:∃kw:Str×W,∀q p,f q p=.ok (.dst false p [kw.1] [kw.2]):=⟨(k,w),h⟩;unfold Q8;rw[dif_pos I]
 have:=qG2 I (0:Nat) (0:Nat)
 rw[h]at this;cases this;rfl
def sy (h:∀q p,f q p=.ex e):Q8 f=.ex e:=by
 have hn:¬ ∃kw:Str×W,∀q p,f q p=.ok (.dst false p [kw.1] [kw.2]):=λI=>by
  obtain ⟨kw,q⟩:=I
  have:=q 0 0
  rw[h]at this;cases this
 have O:∃e,∀q p,f q p=.ex e:=⟨e,h⟩;unfold Q8;rw[dif_neg hn,dif_pos O]
 have:=qG2 O (0:Nat) (0:Nat)
 rw[h]at this;cases this;rfl
def gK (i:Nat) (kw:DW) (ρ:Rho) (o:R (Str×W)):R Fl:=match o with
 | .ok (k,w)=>if L5 ρ=true/\k∉kw.1/\kw.1.length<1000 then .ok (.nx (ρ.set i (.dos (kw.1 ++ [k],kw.2 ++ [w])))) else .stuck
 | .ex e=>.ex e
 | .stuck=>.stuck
def W3 (i:Nat) (f:List W->R W) (m1:JV):JW:=λρ=>m1 ρ>>=λI=>match ρ[i]? with
 |some (.dos kw)=>gK i kw ρ (W0 λp=>f [I,.dst false p kw.1 kw.2])
 |_=>.stuck
def W2 (i j:Nat) (f:List W->R W) (m1:JV):JW:=λρ=>match rg ρ[i]? ρ[j]? with
 |some (kw1,kw2)=>if i≠j/\L5 ρ=true then m1 (ρ.set i .un)>>=λI=>gK j kw2 ρ (Q8 λq p=>f [I,.dst true q kw1.1 kw1.2,.dst false p kw2.1 kw2.2]) else .stuck
 |none=>.stuck
def qD (h:tSt K (XE1 K E) d (W3 i f m1) D σ H):V5 (Z0 (X2 K 2 f) [] E (Q0 (tM K (XE1 K E) .B m1) (Q0 (m9 i) tNil))) D σ H:=by
 obtain ⟨H0,G,ρ,I,o⟩:=h;unfold W3 at o;refine ⟨H0,G,ρ,I,OutS.bind I o λx G1 H1 w1 e1 m1 O=>?_⟩;have I1:=I.ext e1
 split at O
 .rename_i kw e
  obtain ⟨a,kvs,es,ha,hg,h0,r⟩:=I1.dos_at e;refine ⟨.ref a,es,?_⟩;unfold gK at O
  split at O
  .rename_i k w hp
   split at O
   .rename_i hc
    refine ⟨rfl,[w1,.dst false a kw.1 kw.2],.cons (m1.whole I1) (.cons (.dst ha r.1 (r.2.same I1.gh)) .nil),?_⟩;rw[mf hp a];have hl:=r.len;refine ⟨kvs,ha,Qo,λv G' H' gH sH cl rv=>?_⟩;obtain ⟨a3,ex⟩:=Y7 I1 sH gH cl;show O _ σ _ ex.gg ((I1.ext ex).dos_upd e es hc.1 (fk (r.same ex.gg) hc.2.1 (rv.same a3)))
   .show O.elim
  .rename_i e0 hp
   refine ⟨rfl,[w1,.dst false a kw.1 kw.2],.cons (m1.whole I1) (.cons (.dst ha r.1 (r.2.same I1.gh)) .nil),?_⟩;rw[sw hp a];show λH' s=>O H' (I1.hh.trans s)
  .show O.elim
 .show O.elim
def qC (h:tSt K (XE1 K E) d (W2 i j f m1) D σ H):hU (V5 (Z0 (X2 K 3 f) [] E (Q0 (tM K (XE1 K E) .B m1) (Q0 (m9 i) (Q0 (m9 j) tNil))))) D σ H:=by
 obtain ⟨H0,G,ρ,I,o⟩:=h;unfold W2 at o
 split at o
 .rename_i kw1 kw2 tw
  obtain ⟨e1,e2⟩:=vY tw;dsimp only at e1 e2
  split at o
  .rename_i hc0
   obtain ⟨b5,one⟩:=hc0;obtain ⟨a1,O,ae,c2,c3,c4,r1⟩:=I.dos_at e1;refine ⟨a1,O,c2,λob=>?_⟩;have hi:=(qA5.mp e1).1;have I':=I.dos_chg (u:=.frz ob (.dK O)) (s':=.un) e1 ae one trivial λ_ z=>by cases z
   refine ⟨H0,G,_,I',OutS.bind I' o λx G1 H1 w1 a3 m1 o1=>?_⟩;have I1:=I'.ext a3;have c1:(ρ.set i .un)[j]?=some (.dos kw2):=by rw[qB0 b5];show e2
   obtain ⟨a2,b0,b4,b3,cv,cp,r2⟩:=I1.dos_at c1;have bf:a1≠a2:=λz=>by subst z;show I.nd i j kw1 kw2 a1 b5 e1 e2 ae b4
   have a4:H1 a1=some (.frz ob (.dK O)):=a3.hh _ _ e7;have cc:G1 a1=none:=a3.keep _ _ e7 rfl c3;refine ⟨.ref a1,ae,.ref a2,b4,?_⟩;unfold gK at o1
   split at o1
   .rename_i k w hp
    split at o1
    .rename_i hc
     refine ⟨rfl,[w1,.dst true a1 kw1.1 kw1.2,.dst false a2 kw2.1 kw2.2],.cons (m1.whole I1) (.cons (.dsz a4 r1.1 ((r1.2.same a3.gg).same I1.gh)) (.cons (.dst b3 r2.1 (r2.2.same I1.gh)) .nil)),?_⟩;rw[jJ hp a1 a2];have hl:=r2.len;refine ⟨b0,b3,Qo,λv G' H' gH sH cl rv=>?_⟩;obtain ⟨c5,ex⟩:=Y7 I1 sH gH cl;have I2:=(I1.ext ex).dos_upd c1 b4 (sQ one) (fk (r2.same ex.gg) hc.2.1 (rv.same c5));have bc:upd H' a2 (.dK (putK b0 (Sum.inr k) v)) a1=some (.frz ob (.dK O)):=by rw[b6 bf];show sH _ _ a4
     have cn:both G1 G' a1=none:=by
      unfold both;rw[cc];show cl _ _ a4 rfl
     have I3:=I2.dos_in (i:=i) (a:=a1) (kvs:=O) (kw:=kw1) (by rw[qD3,qD3];show hi) ae (λu q=>by rw[bc]at q;cases q;show ⟨_,_,rfl⟩) cn c4 ((r1.same a3.gg).same ex.gg);rw[rE e1 b5]at I3;show ⟨bc,o1 _ σ _ ex.gg I3⟩
    .show o1.elim
   .rename_i e0 hp
    refine ⟨rfl,[w1,.dst true a1 kw1.1 kw1.2,.dst false a2 kw2.1 kw2.2],.cons (m1.whole I1) (.cons (.dsz a4 r1.1 ((r1.2.same a3.gg).same I1.gh)) (.cons (.dst b3 r2.1 (r2.2.same I1.gh)) .nil)),?_⟩;rw[oI hp a1 a2];show λH' s=>o1 H' (I1.hh.trans s)
   .show o1.elim
  .show o.elim
 .show o.elim
section
open PyProof.Rows
def oB {P:Program}{w:World}{K:Frag}{mg:Jz}{base:Heap}{N:Jk}{qual:Str}{scope:Scope}{O:Addr}{cd:Value}{A0:Around}{outer:List Env}{I:Shared}{H0:Hp}{E:XK}{d:Mode}{e:Expr}{pos:Pos}{i kk:Nat}{y:Str}{p1 p2 a3:Pos}{f:Addr}{fd:FuncData}{ps:Jk}{x:Str}{N':Nat}{m:JW}{ma:JV}(hN:N[i]?=some y) (hv:Vis scope y) (F:FnOk P w K mg base (CXW P w) kk f fd ps (X2 K 2 (i5 2 N' m))) (hr:Room kk (m8 (CXW P w) P w K mg base N qual scope O cd A0 outer I H0 E).A) (hg:Gl (m8 (CXW P w) P w K mg base N qual scope O cd A0 outer I H0 E) x) (hm:mg x=some (.ref f)) (hk:PySem.W.keepIn K (.ref f)=true) (hb:Binds K fd ps []) (h1:PE (m8 (CXW P w) P w K mg base N qual scope O cd A0 outer I H0 E) e (tM K (XE1 K E) .B ma)) (hd:(y == ("__debug__" : Str))=false:=by decide) (b3:(y == ("__classdict__" : Str))=false:=by decide) (ae:(x == ("__debug__" : Str))=false:=by decide) (he:starEach [e,.Name y p2] (envOfC qual scope I.heap.objs.size O cd)=(false,eval e (envOfC qual scope I.heap.objs.size O cd))::starEach [.Name y p2] (envOfC qual scope I.heap.objs.size O cd):=by rfl) (a4:starEach [.Name y p2] (envOfC qual scope I.heap.objs.size O cd)=(false,eval (.Name y p2) (envOfC qual scope I.heap.objs.size O cd))::starEach [] (envOfC qual scope I.heap.objs.size O cd):=by rfl) (b4:(backTo a3 (starEach [.Name y p2] (envOfC qual scope I.heap.objs.size O cd))).any (·.1)=false:=by rfl) (b0:swapsWith (.Call (.Name x p1) [e,.Name y p2] [] a3) none pos.line (envOfC qual scope I.heap.objs.size O cd)=pure false:=by rfl):
  PS (m8 (CXW P w) P w K mg base N qual scope O cd A0 outer I H0 E) (.Expr (.Call (.Name x p1) [e,.Name y p2] [] a3) pos) (tSt K (XE1 K E) d (W3 i (i5 2 N' m) ma)):=
 (W7 (P5 F hr hg hm hk hb .nil mn (F7 h1 (F7 (t8 (X:=m8 (CXW P w) P w K mg base N qual scope O cd A0 outer I H0 E) hN hv hd b3) pa_nil a4) he) ae he b4) b0).mono λ_ _ _ q=>qD q
def oA {P:Program}{w:World}{K:Frag}{mg:Jz}{base:Heap}{N:Jk}{qual:Str}{scope:Scope}{O:Addr}{cd:Value}{A0:Around}{outer:List Env}{I:Shared}{H0:Hp}{E:XK}{d:Mode}{e:Expr}{pos:Pos}{i j kk:Nat}{y z:Str}{p1 p2 p3 a3:Pos}{f:Addr}{fd:FuncData}{ps:Jk}{x:Str}{N':Nat}{m:JW}{ma:JV}(hN:N[i]?=some y) (hv:Vis scope y) (b0:N[j]?=some z) (ae:Vis scope z) (F:FnOk P w K mg base (CXW P w) kk f fd ps (X2 K 3 (i5 3 N' m))) (hr:Room kk (m8 (CXW P w) P w K mg base N qual scope O cd A0 outer I H0 E).A) (hg:Gl (m8 (CXW P w) P w K mg base N qual scope O cd A0 outer I H0 E) x) (hm:mg x=some (.ref f)) (hk:PySem.W.keepIn K (.ref f)=true) (hb:Binds K fd ps []) (h1:PE (m8 (CXW P w) P w K mg base N qual scope O cd A0 outer I H0 E) e (tM K (XE1 K E) .B ma)) (hd:(y == ("__debug__" : Str))=false:=by decide) (c1:(y == ("__classdict__" : Str))=false:=by decide) (b4:(z == ("__debug__" : Str))=false:=by decide) (a4:(z == ("__classdict__" : Str))=false:=by decide) (bc:(x == ("__debug__" : Str))=false:=by decide) (he:starEach [e,.Name y p2,.Name z p3] (envOfC qual scope I.heap.objs.size O cd)=(false,eval e (envOfC qual scope I.heap.objs.size O cd))::starEach [.Name y p2,.Name z p3] (envOfC qual scope I.heap.objs.size O cd):=by rfl) (b5:starEach [.Name y p2,.Name z p3] (envOfC qual scope I.heap.objs.size O cd)=(false,eval (.Name y p2) (envOfC qual scope I.heap.objs.size O cd))::starEach [.Name z p3] (envOfC qual scope I.heap.objs.size O cd):=by rfl) (b3:starEach [.Name z p3] (envOfC qual scope I.heap.objs.size O cd)=(false,eval (.Name z p3) (envOfC qual scope I.heap.objs.size O cd))::starEach [] (envOfC qual scope I.heap.objs.size O cd):=by rfl) (c2:(backTo a3 (starEach [.Name y p2,.Name z p3] (envOfC qual scope I.heap.objs.size O cd))).any (·.1)=false:=by rfl) (bf:swapsWith (.Call (.Name x p1) [e,.Name y p2,.Name z p3] [] a3) none pos.line (envOfC qual scope I.heap.objs.size O cd)=pure false:=by rfl):
  PS (m8 (CXW P w) P w K mg base N qual scope O cd A0 outer I H0 E) (.Expr (.Call (.Name x p1) [e,.Name y p2,.Name z p3] [] a3) pos) (tSt K (XE1 K E) d (W2 i j (i5 3 N' m) ma)):=
 (lZ (W7 (P5 F hr hg hm hk hb .nil mn (F7 h1 (F7 (t8 (X:=m8 (CXW P w) P w K mg base N qual scope O cd A0 outer I H0 E) hN hv hd c1) (F7 (t8 b0 ae b4 a4) pa_nil b3) b5) he) bc he c2) bf)).mono λ_ _ _ q=>qC q
end
end TP
namespace L2
open PySem PySem.Spec PyProof.Rows
def vP {σ:L2.St}(I:Inv X pins σ H s) (ea:H a=some (.ext λh=>h.get? a=some ox)) (hc:ox.cls=.ref C) (hd:ox.data=.fields vs) (hx:∀d,ox.dict=some d->∃fs,H d=some (.xd fs)) (g:XIs X.K C) (ht:IsTup s.heap p its.toArray) (e:PySem.W.kitAny X.K (.ref C) its=some b) (h:∀tk,Q (.bool b) { s with toks:=tk }):wpAny (model X.prog X.w) A (call (.builtin "isinstance") [.ref a,.ref p]) Q E s:=by
 have nc:PySem.W.notCls ox=true:=by obtain ⟨p1,p2,p3,p4⟩:=ox;cases hd;rfl
 have J:∃od,PySem.W.InstAt s.heap a ox C od:=by
  cases q:ox.dict with
  |none=>show ⟨none,(I.hok a _ ea).1,hc,nc,by rw[q];trivial⟩
  | some d=>
   obtain ⟨fs,hf⟩:=hx d q;obtain ⟨o,eo⟩:=(I.hok d _ hf).got;show ⟨some o,(I.hok a _ ea).1,hc,nc,by rw[q];show eo⟩
 obtain ⟨od,J⟩:=J;obtain ⟨⟨c,dd,da,sl⟩,ho,a3,n,O⟩:=ht;replace a3:c=.type "tuple" := a3
 replace O:da=.seq its.toArray n:=O
 subst a3 O;show PySem.W.kia_tup (jm g.ga g.gh g.be g.ob (g.find od) g.kc) I.kIn J ho e (λz=>nomatch z) h
def iZ {K:Frag}{t:Value}:∀{I:List Addr}{its:Jw},Vals (I.map V.ref) its->(∀D∈I,PySem.W.kitOne K t (.ref D)=some false)->PySem.W.kitAny K t its=some false
 | [],_,r,_=>by cases r;rfl
 | D::I,_,r,h=>by
  cases r with
  | cons r1 O=>
   cases r1;unfold PySem.W.kitAny;rw[h D (qA2 ..)];show iZ O λD' h'=>h D' (qA4 _ h')
def uS (K:Frag)(C:Addr):List V->Hp->VK->Prop:=λxs H Q=>∃(a p:Addr)(I:Obj)(vs:Jy)(O:List Addr),xs = [.ref a,.ref p]/\H a=some (.ext λh=>h.get? a=some I)/\I.cls=.ref C/\I.data=.fields vs/\(∀d,I.dict=some d->∃fs,H d=some (.xd fs))/\H p=some (.tup (O.map V.ref))/\(∀D∈O,PySem.W.kitOne K (.ref C) (.ref D)=some false)/\Q (.bl false) H
def qw (g:XIs X.K C):B6 X (.builtin "isinstance") (uS X.K C):=by
 rintro pins s σ H xs us Q I rv ⟨a,p,ox,vs,ds,rfl,O,hc,hd,hx,hp,hk,q⟩;cases rv with
 | cons r1 rv=>
  cases rv with
  | cons r2 rv=>
   cases rv;cases r1;cases r2;obtain ⟨its,rv,ht,_⟩:=I.tuple (SqT.of hp);show vP I O hc hd hx g ht (iZ rv hk) λtk=>⟨.bl false,H,I.tok _,rfl,q⟩
end L2
namespace TP
open PySem L2
def dM {X:Cx}{K:Frag}{EX:EXT}{pos:Pos}{x:Str}{C:Addr}(O:Gl X x) (hm:X.mg x=some (.ref C)) (hc:PySem.W.nsIn K mainGlobals x=some (some (.ref C))) (hd:(x == ("__debug__" : Str))=false:=by decide):PE X (.Name x pos) (tM K EX .U (mC (.cls x))):=
 (cG (v:=.ref C) O hm rfl hd).mono λ_ H Q q=>by
  obtain ⟨H0,G,ρ,I,o⟩:=q;show o _ G H (Ext.refl I.gh) (.cls hc)
def DN:W->Option Str
 | .cls x=>some x
 |_=>none
def Z9:List W->Option Jk
 | []=>some []
 | w::ws=>match DN w,Z9 ws with
  |some x,some xs=>some (x::xs)
  |_,_=>none
def jr:∀{ws:JJ}{ts:Jk},Z9 ws=some ts->ws=ts.map W.cls
 | [],_,h=>by cases h;rfl
 | w::ws,ts,h=>by
  unfold Z9 at h
  split at h
  .rename_i x xs hx hxs
   cases h;rw[jr hxs];cases w <;> first | (cases hx;rfl)|cases hx
  .cases h
def eB (c:Str) (ns:Jk):List W->R W
 | [.exc c' _,.tup ws]=>if c'=c/\Z9 ws=some ns then .ok (.bl false) else .stuck
 |_=>.stuck
def im:∀{ns:Jk}{vs:List V},Reps K F vs (ns.map W.cls)->∃I:List Addr,vs=I.map V.ref/\∀D∈I,∃n∈ns,PySem.W.nsIn K mainGlobals n=some (some (.ref D))
 | [],_,r=>by cases r;show ⟨[],rfl,λ_ h=>by cases h⟩
 | n::ns,_,r=>by
  cases r with
  | cons a b=>
   obtain ⟨I,rfl,h⟩:=im b;cases a with
   | cls hn=>
    refine ⟨_::I,rfl,λD O=>?_⟩;rcases qA7.mp O with rfl|O
    .show ⟨n,qA2 ..,hn⟩
    .obtain ⟨n',h1,h2⟩:=h D O;show ⟨n',qA4 _ h1,h2⟩
def HKs (K:Frag)(C:Addr)(ns:Jk):Prop:=∀n∈ns,∀D,PySem.W.nsIn K mainGlobals n=some (some (.ref D))->PySem.W.kitOne K (.ref C) (.ref D)=some false
def CJ:HKs K C []:=λ_ h=>by cases h
def cN (h:PySem.W.nsIn K mainGlobals n=some (some (.ref D0))) (e:PySem.W.kitOne K (.ref C) (.ref D0)=some false) (r:HKs K C ns):HKs K C (n::ns):=λm hm D I=>by
 rcases qA7.mp hm with rfl|hm
 .rw[h]at I;cases I;show e
 .show r m hm D I
def ED (hc:PySem.W.nsIn K mainGlobals c=some (some (.ref C))) (hk:HKs K C ns):Cal K .B d (uS K C) (eB c ns):=by
 intro EX H0 Hs G H ρ σ Ha vs ws Q I s m o;unfold eB at o
 split at o
 .rename_i c' i ws'
  by_cases h:c'=c/\Z9 ws'=some ns
  .rw [qA9 h]at o
   obtain ⟨rfl,h2⟩:=h
   have:=jr h2
   subst this;cases m with
   | cons a t=>
    cases t with
    | cons a2 t=>
     cases t;have m1:=tZ I a;obtain ⟨p,ae,rfl,hp,r⟩:=a2.tupB I;obtain ⟨ds,rfl,a3⟩:=im r;cases m1 with
     |dct h1 h2 h3=>show absurd hc (h3 _)
     | exc h1 h2 h3 h4 h5=>
      rw[hc]at h4;cases h4;refine ⟨_,p,_,_,ds,rfl,h1,h2,h3,λdd O=>?_,hp,λD hD=>?_,o _ G H (Ext.refl I.gh) (Md.sca rfl (λ_=>.bl) d)⟩
      .cases i with
       |none=>rw[show _=none from h5]at O;cases O
       |some i=>obtain ⟨d1,e2,e3⟩:=h5;rw[e2]at O;cases O;show ⟨_,e3⟩
      .obtain ⟨n,hn,a4⟩:=a3 D hD;show hk n hn D a4
  .rw[qB4 h]at o;show o.elim
 .show o.elim
def ren (o n:Str)(ts:Jk):List Str:=ts.map λt=>if t=o then n else t
def lN (i j:Nat) (us:JJ) (o n:Str) (ρ:Rho) (ws:Option Jk):R Fl:=match ws with
 |some ts=>if us.length<1000/\ts.length<1000 then .ok (.nx ((ρ.set i (.own (us ++ [.lst ((ren o n ts).map W.str)]))).set j .un)) else .stuck
 |none=>.stuck
def iU (i j k o n:Nat):JW:=λρ=>match ρ[i]?,ρ[k]?,ρ[o]?,ρ[n]? with
 |some (.own us),some (.par (.lst ws)),some (.par (.str old)),some (.par (.str new))=>if i≠j/\k≠j/\o≠j/\n≠j/\j<ρ.length then lN i j us old new ρ (T7 ws) else .stuck
 |_,_,_,_=>.stuck
abbrev O1 (K:Frag)(i:Nat)(I:TE):TS:=V5 (eU (tOp (rW K) (m9 i) (tUn (rU λi=>.int (-i)) (tC (.int 1)))) I)
def qZ (h:a≠b):upd (upd H a u) b v=upd (upd H b v) a u:=by
 funext c
 by_cases h1:c=a
 .subst h1;rw[b6 h,e7,e7]
 .by_cases h2:c=b
  .subst h2;rw[e7,b6 h1,e7]
  .rw[b6 h2,b6 h1,b6 h1,b6 h2]
def jA (vs:List V) (x:V):L2.atI (vs ++ [x]) (-1)=some x:=by
 unfold L2.atI ixN;rw[qB4 Qy,qA9 (by rw[qA1,qO5];omega)]
 change (vs ++ [x])[_]?=_;have e:((-1:Int)+((vs ++ [x]).length:Nat)).toNat=vs.length:=by rw[qA1,qO5];omega
 rw[e,qD8 (qB8 _),qP7];rfl
def Ho (h:tSt K EX d (iU i j k o n) D σ H):
  lC (V5 (eU (m9 i) (hJ tNil))) (hV (iSq K (m9 k)) (P2 j) (eT (tB (tOp rEq (m9 j) (m9 o))) (O1 K i (m9 n)) (O1 K i (m9 j)))) D σ H:=by
 obtain ⟨H0,G,ρ,I,O⟩:=h;unfold iU at O
 split at O
 .rename_i us ws old new e1 e2 e3 e4
  by_cases bc:i≠j/\k≠j/\o≠j/\n≠j/\j<ρ.length
  .rw [qA9 bc]at O
   obtain ⟨c5,dt,d3,dc,d0⟩:=bc;unfold lN at O
   split at O
   .rename_i ts hts
    have:=dg hts
    subst this
    split at O
    .rename_i hl
     obtain ⟨a,vs,es,ha,hg,h0,r⟩:=I.own_at e1;have hk:k<σ.length:=by rw[<- I.len];show (qA5.mp e2).1
     have ho:o<σ.length:=by rw[<- I.len];show (qA5.mp e3).1
     have hn:n<σ.length:=by rw[<- I.len];show (qA5.mp e4).1
     have hj:j<σ.length:=by rw[<- I.len];show d0
     obtain ⟨v2,ev2,r2⟩:=I.sl k _ _ e2 (show σ[k]?=some σ[k] by simp);obtain ⟨v3,cp,r3⟩:=I.sl o _ _ e3 (show σ[o]?=some σ[o] by simp);obtain ⟨v4,da,r4⟩:=I.sl n _ _ e4 (show σ[n]?=some σ[n] by simp);have s2:σ[k]?=some (some v2):=by rw[qC3 hk,ev2]
     have s3:σ[o]?=some (some v3):=by rw[qC3 ho,cp]
     have s4:σ[n]?=some (some v4):=by rw[qC3 hn,da]
     obtain ⟨b,xs,rfl,hb,rx⟩:=r2.inv;obtain rfl:=r3.inv;obtain rfl:=r4.inv;have cn:=bO rx;subst cn;have b3:H b=some (.lst (ts.map V.str)):=I.join_H _ _ hb;have bf:b≠a:=by
      rintro rfl
      have:join H0 G b=none:=by unfold join;rw[h0,hg]
      rw[this]at hb;cases hb
     have dm:vs.length=us.length:=r.length;refine ⟨.ref a,es,a,rfl,⟨vs,ha⟩,qD7 _,λp hp=>?_⟩;have ae:a≠p:=by rintro rfl;rw[hp]at ha;cases ha
     have c2:b≠p:=by rintro rfl;rw[hp]at b3;cases b3
     dsimp only;rw[b6 ae,ha];refine ⟨qC6 (show vs.length<1000 by omega) Qy,?_⟩;have cv:upd (upd H p (.lst [])) a (.lst (vs ++ [.ref p])) b=some (.lst (ts.map V.str)):=by rw[b6 bf,b6 c2];show b3
     refine ⟨_,s2,b,rfl,false,ts.map V.str,SqL.of cv,?_⟩;refine ⟨λc m a4 H'=>m=ts.length-c/\c<=ts.length/\(a4=σ\/∃x,a4=σ.set j x)/\H'=upd (upd H p (.lst ((ren old new (ts.take c)).map V.str))) a (.lst (vs ++ [.ref p])),⟨_,rfl,qD7 _,.inl rfl,rfl⟩,?_⟩;rintro c m a4 H' ⟨rfl,hc,c4,rfl⟩;have b5:upd (upd H p (.lst ((ren old new (ts.take c)).map V.str))) a (.lst (vs ++ [.ref p])) b=some (.lst (ts.map V.str)):=by rw[b6 bf,b6 c2];show b3
     by_cases b0:c<ts.length
     .refine .inr ⟨⟨_,_,SqL.of b5,by rw[qC1,qC3 b0];rfl⟩,λa3 H2=>(∃x,a3=σ.set j x)/\H2=upd (upd H p (.lst ((ren old new (ts.take (c+1))).map V.str))) a (.lst (vs ++ [.ref p])),λa3 H2 b4=>by obtain ⟨q1,q2⟩:=b4;show ⟨ts.length-(c+1),Qo,rfl,b0,.inr q1,q2⟩,?_⟩;rintro x H2 ⟨rfl,hx⟩;have c1:=hx _ (SqL.of b5);rw[qC1,qC3 b0]at c1;cases c1;have c3:a4.set j (some (.str ts[c]))=σ.set j (some (.str ts[c])):=by
       rcases c4 with rfl|⟨y,rfl⟩
       .rfl
       .show List.set_set ..
      change eT _ _ _ _ (a4.set j (some (.str ts[c]))) _;rw[c3];have gj:(σ.set j (some (V.str ts[c])))[j]?=some (some (.str ts[c])):=qE0 hj;have go:(σ.set j (some (V.str ts[c])))[o]?=some (some (.str old)):=by rw[qB0 (Ne.symm d3)];show s3
      have gn:(σ.set j (some (V.str ts[c])))[n]?=some (some (.str new)):=by rw[qB0 (Ne.symm dc)];show s4
      have gi:(σ.set j (some (V.str ts[c])))[i]?=some (some (.ref a)):=by rw[qB0 (Ne.symm c5)];show es
      have tk:ren old new (ts.take (c+1))=ren old new (ts.take c) ++ [if ts[c]=old then new else ts[c]]:=by
       unfold ren;rw[qL3,qC3 b0,qB1];rfl
      have hlen:((ren old new (ts.take c)).map V.str).length<sizeLine:=by
       rw[qA0];unfold ren;rw[qA0,qB9];show qC6 (show min c ts.length<1000 by omega) Qy
      have put:∀(q:Nat) (z:Str),(σ.set j (some (V.str ts[c])))[q]?=some (some (.str z))->z=(if ts[c]=old then new else ts[c])->O1 K i (m9 q) { D with nx:=λa3 H2=>(∃x,a3=σ.set j x)/\H2=upd (upd H p (.lst ((ren old new (ts.take (c+1))).map V.str))) a (.lst (vs ++ [.ref p])),ct:=λa3 H2=>(∃x,a3=σ.set j x)/\H2=upd (upd H p (.lst ((ren old new (ts.take (c+1))).map V.str))) a (.lst (vs ++ [.ref p])),bk:=D.nx } (σ.set j (some (V.str ts[c]))) (upd (upd H p (.lst ((ren old new (ts.take c)).map V.str))) a (.lst (vs ++ [.ref p]))):=by
       intro q z hq hz;refine ⟨_,gi,1,rfl,a,vs ++ [.ref p],-1,.ref p,rfl,rfl,SqL.of e7,jA _ _,p,rfl,⟨_,by rw[b6 (Ne.symm ae),e7]⟩,_,hq,?_⟩;dsimp only;rw[b6 (Ne.symm ae),e7];refine ⟨hlen,⟨_,rfl⟩,?_⟩;rw[tk,qB1,qZ ae,vW,hz];rfl
      refine ⟨_,gj,_,go,rfl,_,rfl,?_⟩;dsimp only;by_cases hq:ts[c]=old
      .rw [qA9 (by rw[hq];show qL6 rfl)]
       show put n new gn (by rw[qA9 hq])
      .rw [qB4 (by rw[qL1 (λz=>hq (by cases z;rfl))];decide)]
       show put j ts[c] gj (by rw[qB4 hq])
     .have cc:c=ts.length:=Qo;subst cc;refine .inl ⟨⟨_,SqL.of b5,by rw[qA0];show qB8 _⟩,?_⟩;rw[qG3];have x1:=bn (o:=.lst ((ren old new ts).map V.str)) I.gh hp;have I1:=I.ext x1;have rp:Rep K (upd G p (.lst ((ren old new ts).map V.str))) (.ref p) (.lst ((ren old new ts).map W.str)):=.lst e7 (ba _);have rv:Reps K (upd G p (.lst ((ren old new ts).map V.str))) (vs ++ [.ref p]) (us ++ [.lst ((ren old new ts).map W.str)]):=Reps.append (r.same x1.gg) (.cons rp .nil);have I2:=I1.own_upd e1 es rv;have I3:∀x,PIv K H0 _ _ (σ.set j x) _:=λx=>I2.setN (i:=j) (o:=x);rcases c4 with rfl|⟨x,rfl⟩
      .have:=I3 a4[j]
       rw[List.set_getElem_self]at this;show O _ _ _ x1.gg this
      .show O _ _ _ x1.gg (I3 x)
    .show O.elim
   .show O.elim
  .rw[qB4 bc]at O;show O.elim
 .show O.elim
def FK {st2:Stmt}(h1:PS X st1 (V5 (eU (m9 i) (hJ tNil)))) (h2:PS X st2 (hV (iSq K (m9 k)) (P2 j) (eT (dD (tOp rEq (m9 j) (m9 o))) (O1 K i (m9 n)) (O1 K i (m9 j))))):PSs X [st1,st2] (tSt K EX d (iU i j k o n)):=
 (dk h1 (aE h2)).mono λ_ _ _ q=>Ho q
def kE {X:Cx}{K:Frag}{i:Nat}{e:Expr}{te:TE}{x:Str}{q1 q2 q3 p2 apos I pos:Pos}{k1:Nat}(hN:X.N[i]?=some x) (hv:Vis X.env.scope x) (he:PE X e te) (hK:X.K=K:=by rfl) (hd:(x == ("__debug__" : Str))=false:=by decide) (b0:(x == ("__classdict__" : Str))=false:=by decide) (b3:aO (.UnaryOp .USub (.Constant (.int 1) k1 q2) q3):=by show λ_ _=>rfl) (O:attributeBase (.Subscript (.Name x q1) (.UnaryOp .USub (.Constant (.int 1) k1 q2) q3) p2) "append" X.env (eval (.Subscript (.Name x q1) (.UnaryOp .USub (.Constant (.int 1) k1 q2) q3) p2) X.env)=eval (.Subscript (.Name x q1) (.UnaryOp .USub (.Constant (.int 1) k1 q2) q3) p2) X.env:=by rfl) (a4:((backTo I (starEach [e] X.env)).all (λx=>!x.1)&&(backToKw I (keywordEach [] X.env)).all (λx=>x.1.isSome)
   && decide (([e]:Jx).length+([]:List Keyword).length+(if ([]:List Keyword).isEmpty then 0 else 1)<30))=true:=by rfl) (a3:(apos.endLine == I.line)=true:=by rfl) (hs:starEach [e] X.env=(false,eval e X.env)::starEach [] X.env:=by rfl) (ae:swapsWith (.Call (.Attribute (.Subscript (.Name x q1) (.UnaryOp .USub (.Constant (.int 1) k1 q2) q3) p2) "append" apos) [e] [] I) none pos.line X.env=pure false:=by rfl):
  PSs X [.Expr (.Call (.Attribute (.Subscript (.Name x q1) (.UnaryOp .USub (.Constant (.int 1) k1 q2) q3) p2) "append" apos) [e] [] I) pos] (O1 K i te):=by
 subst hK;show aE (W7 (bV (gL ix_list (t8 hN hv hd b0) (va M0 pe_int) b3) he O a4 a3 hs) ae)
def AI {X:Cx}{i:Nat}{x:Str}{q1 p2 apos I pos:Pos}(hN:X.N[i]?=some x) (hv:Vis X.env.scope x) (hd:(x == ("__debug__" : Str))=false:=by decide) (ae:(x == ("__classdict__" : Str))=false:=by decide) (a3:attributeBase (.Name x q1) "append" X.env (eval (.Name x q1) X.env)=eval (.Name x q1) X.env:=by rfl) (a4:((backTo I (starEach [.List [] p2] X.env)).all (λx=>!x.1)&&(backToKw I (keywordEach [] X.env)).all (λx=>x.1.isSome)
   && decide (([.List [] p2]:Jx).length+([]:List Keyword).length+(if ([]:List Keyword).isEmpty then 0 else 1)<30))=true:=by rfl) (O:(apos.endLine == I.line)=true:=by rfl) (hs:starEach [.List [] p2] X.env=(false,eval (.List [] p2) X.env)::starEach [] X.env:=by rfl) (b0:swapsWith (.Call (.Attribute (.Name x q1) "append" apos) [.List [] p2] [] I) none pos.line X.env=pure false:=by rfl):
  PS X (.Expr (.Call (.Attribute (.Name x q1) "append" apos) [.List [] p2] [] I) pos) (V5 (eU (m9 i) (hJ tNil))):=
 W7 (bV (t8 hN hv hd ae) (oR pa_nil) a3 a4 O hs) b0
def sh {X:Cx}{K:Frag}{i j k o n:Nat}{y z w:Str}{p1 p2 p3 p4 pos I v':Pos}{sa sb:Jo}(hp:PassesOwn (model X.prog X.w) X.A X.env X.xe) (hc:X.calm=true) (bf:X.N.Nodup) (hj:X.N[j]?=some y) (ae:Loc X.env.scope y) (a4:Vis X.env.scope y) (hk:X.N[k]?=some z) (b4:Vis X.env.scope z) (ho:X.N[o]?=some w) (b5:Vis X.env.scope w) (ha:PSs X sa (O1 K i (m9 n))) (hb:PSs X sb (O1 K i (m9 j))) (hK:X.K=K:=by rfl) (hf:X.fn y=true\/X.env.scope.names.lookup y=some .local:=by first|show .inl rfl|show .inr rfl|assumption) (a3:(y == ("__debug__" : Str))=false:=by decide) (O:(y == ("__classdict__" : Str))=false:=by decide) (hd3:(z == ("__debug__" : Str))=false:=by decide) (b3:(z == ("__classdict__" : Str))=false:=by decide) (b0:(w == ("__debug__" : Str))=false:=by decide) (bc:(w == ("__classdict__" : Str))=false:=by decide) (hm:behindInMarks .Eq (.Name w p4)=false:=by first|show dU _|rfl) (hs:∀q,foldedSetIterable (.Name z p2) X.env q=pure q:=by intro _;rfl):
  PS X (.For (.Name y p1) (.Name z p2) [.If (.Compare (.Name y p3) [.Eq] [.Name w p4] pos) sa sb I] [] v') (hV (iSq K (m9 k)) (P2 j) (eT (dD (tOp rEq (m9 j) (m9 o))) (O1 K i (m9 n)) (O1 K i (m9 j)))):=by
 subst hK;show oG hp hc (uZ (t8 hk b4 hd3 b3)) (n6 bf hj ae hf) (aE (uY (kI l9 (t8 hj a4 a3 O) (t8 ho b5 b0 bc) hm) ha hb)) hs
def mz (w:W):R W:=match w with
 | .str x=>.ok (.str x)
 |_=>.stuck
def bAS (f:List W->R W)(ma:JK):JV:=λρ=>ma ρ>>=λws=>f ws>>=mz
def uu (hf:∀ws,f ws≠.stuck->ws.length=n) (hE:∀e H,EX e H->XE E e H) (h:tM K EX d (bAS f ma) σ H Q):
  Z0 (spX K n f) [] E (tA K EX .B ma) σ H Q:=by
 obtain ⟨H0,G,ρ,I,o⟩:=h;refine ⟨H0,G,ρ,I,Out.bind o λxs G1 H1 ws e1 m1 O=>?_⟩;have I1:=I.ext e1;have r:=MdA.whole I1 m1;rw[qD1];refine ⟨?_,H1,ws,Same.refl H1,r,?_⟩
 .rw [r.length]
  refine hf ws λz=>?_;rw[z]at O;show O
 .revert O
  cases f ws with
  |stuck=>show id
  |ex e=>show λO H' s=>hE e H' (O H' s)
  | ok w=>
   intro O v G' H' sF sH gH cl md;cases w <;> first|show O.elim|skip
   rename_i x
   have hv:v=.str x:=Rep.inv md;subst hv;show O _ G1 H' ⟨Same.refl G1,sH,I1.gh.trans sH,λ_ _ _ _ z=>z⟩ (Md.sca rfl (λ_=>.str) d)
def si {X:Cx}{K:Frag}{d:Mode}{e:Expr}{es:Jx}{pos:Pos}{mr:JK}{k:Nat}{f:Addr}{fd:FuncData}{ps:Jk}{x:Str}{p:Pos}{n N:Nat}{m:JW}(F:FnOk X.prog X.w X.K X.mg X.base CX0 k f fd ps (spX K n (M2 n N m))) (hr:Room k X.A) (hg:Gl X x) (hm:X.mg x=some (.ref f)) (hk:PySem.W.keepIn X.K (.ref f)=true) (hb:Binds X.K fd ps []) (ha:PA X (e::es) (tA K (λ_ _=>False) .B mr)) (I:(x == ("__debug__" : Str))=false:=by decide) (he:starEach (e::es) X.env=(false,eval e X.env)::starEach es X.env:=by rfl) (O:(backTo pos (starEach es X.env)).any (·.1)=false:=by rfl):
  PE X (.Call (.Name x p) (e::es) [] pos) (tM K (λ_ _=>False) d (bAS (M2 n N m) mr)):=
 (P5 F hr hg hm hk hb .nil gM ha I he O).mono λ_ _ _ q=>uu (λws h=>ik ws h) (λ_ _ z=>z) q
abbrev tI (ns:JQ):W:=.tup (ns.map W.int)
abbrev lI (ns:JQ):W:=.lst (ns.map W.int)
def P7 (ns:JQ):u6 (ns.map W.int)=true:=by
 induction ns with
 |nil=>rfl
 |cons n ns I=>rw[qB2];simp only [u6,noL,I,qR2]
def xV (n:Bool) (i j:Int):j6 n (.int i) (.int j)=.ok (.bl (if n then !decide (i=j) else decide (i=j))):=by
 change R.ok (W.bl (if n then !decide (V.int i=V.int j) else decide (V.int i=V.int j)))=_;rw[show decide (V.int i=V.int j)=decide (i=j) from qS9.mpr ⟨V.int.inj,congrArg _⟩]
def xW (n:Bool) (i j:Bool):j6 n (.bl i) (.bl j)=.ok (.bl (if n then !decide (i=j) else decide (i=j))):=by
 change R.ok (W.bl (if n then !decide (V.bl i=V.bl j) else decide (V.bl i=V.bl j)))=_;rw[show decide (V.bl i=V.bl j)=decide (i=j) from qS9.mpr ⟨V.bl.inj,congrArg _⟩]
def fJ (n:Bool) (i j:Str):j6 n (.str i) (.str j)=.ok (.bl (if n then !decide (i=j) else decide (i=j))):=by
 change R.ok (W.bl (if n then !decide (V.str i=V.str j) else decide (V.str i=V.str j)))=_;rw[show decide (V.str i=V.str j)=decide (i=j) from qS9.mpr ⟨V.str.inj,congrArg _⟩]
def xS (n:Bool):j6 n .non .non=.ok (.bl (!n)):=by cases n <;> rfl
def xT (n:Bool) (i:Int):j6 n .non (.int i)=.ok (.bl n):=by cases n <;> rfl
def xU (n:Bool) (i:Int):j6 n (.int i) .non=.ok (.bl n):=by cases n <;> rfl
def atW {ns:JQ}{i:Int}(h0:0<=i) (h1:i<ns.length):L2.atI (ns.map W.int) i=some (.int (ns.getD i.toNat 0)):=by
 unfold L2.atI;rw[qA0,W8 h0 h1]
 change (ns.map W.int)[i.toNat]?=_;rw[qC1,nM Qo];rfl
def andThen (r:R Fl) (n:JW):R Fl:=r>>=λf=>match f with
 | .nx I=>n I
 | .rt w=>.ok (.rt w)
 | .bk I=>.ok (.bk I)
 | .ct I=>.ok (.ct I)
def xr (m n:JW)(ρ:Rho):c6 m n ρ=andThen (m ρ) n:=rfl
def mX (ρ:Rho)(n:JW):andThen (.ok (.nx ρ)) n=n ρ:=rfl
def mW (w:W)(n:JW):andThen (.ok (.rt w)) n=.ok (.rt w):=rfl
def nh (ρ:Rho)(n:JW):andThen (.ok (.bk ρ)) n=.ok (.bk ρ):=rfl
def mZ (ρ:Rho)(n:JW):andThen (.ok (.ct ρ)) n=.ok (.ct ρ):=rfl
def Gh (w:W)(ρ:Rho):mC w ρ=.ok w:=rfl
def HH (f:W->R W)(ma:JV)(ρ:Rho):b1 f ma ρ=(ma ρ>>=f):=rfl
def R2b (a b:R W)(f:W->W->R W):R W:=a>>=λx=>b>>=λy=>f x y
def HG (f:W->W->R W)(ma mb:JV)(ρ:Rho):b2 f ma mb ρ=R2b (ma ρ) (mb ρ) f:=rfl
def Fh (x y:W)(f:W->W->R W):R2b (.ok x) (.ok y) f=f x y:=rfl
def HF (f:List W->R W)(ma:JK)(ρ:Rho):bA f ma ρ=(ma ρ>>=f):=rfl
def HE (f:List W->R JJ)(ma:JK)(ρ:Rho):bI f ma ρ=(ma ρ>>=f):=rfl
def HD (ma:JV)(ρ:Rho):bS ma ρ=(ma ρ>>=K0):=rfl
def HN (ρ:Rho):aN ρ=.ok []:=rfl
def gU (a:R W)(b:R JJ):R JJ:=a>>=λx=>b>>=λxs=>.ok (x::xs)
def HP (ma:JV)(I:JK)(ρ:Rho):aC ma I ρ=gU (ma ρ) (I ρ):=rfl
def jE (x:W)(xs:JJ):gU (.ok x) (.ok xs)=.ok (x::xs):=rfl
def yF (ma:JV)(ρ:Rho):bB ma ρ=(ma ρ>>=chk):=rfl
def uy (ma:JV)(ρ:Rho):d9 ma ρ=(ma ρ>>=toB):=rfl
def wa (a b:JX)(ρ:Rho):dE a b ρ=fe (a ρ) (b ρ):=rfl
def zw (a b:JX)(ρ:Rho):aW a b ρ=rOr (a ρ) (b ρ):=rfl
def vZ (a:JX)(ρ:Rho):T4 a ρ=lP (a ρ):=rfl
def wD (x y:Bool):fe (.ok x) (.ok y)=.ok (x&&y):=by cases x <;> rfl
def wE (r:R Bool):fe (.ok false) r=.ok false:=rfl
def wC (r:R Bool):fe (.ok true) r=r:=rfl
def Az (x y:Bool):rOr (.ok x) (.ok y)=.ok (x||y):=by cases x <;> rfl
def Ay (r:R Bool):rOr (.ok true) r=.ok true:=rfl
def AA (r:R Bool):rOr (.ok false) r=r:=rfl
def wx (x:Bool):lP (.ok x)=.ok (!x):=rfl
def vV (a b:JV)(ρ:Rho):cZ a b ρ=cE (a ρ) (b ρ):=rfl
def zh (a b:JV)(ρ:Rho):vOr a b ρ=ip (a ρ) (b ρ):=rfl
def vT (a:JV)(ρ:Rho):qW a ρ=gG (a ρ):=rfl
def rZ (x y:Bool):cE (.ok (.bl x)) (.ok (.bl y))=.ok (.bl (x&&y)):=by cases x <;> rfl
def se (r:R W):cE (.ok (.bl false)) r=.ok (.bl false):=rfl
def rY (r:R W):cE (.ok (.bl true)) r=r:=rfl
def wv (x y:Bool):ip (.ok (.bl x)) (.ok (.bl y))=.ok (.bl (x||y)):=by cases x <;> rfl
def wu (r:R W):ip (.ok (.bl true)) r=.ok (.bl true):=rfl
def ww (r:R W):ip (.ok (.bl false)) r=r:=rfl
def rV (x:Bool):gG (.ok (.bl x))=.ok (.bl (!x)):=rfl
def lQ (c:R Bool)(a b:R W):R W:=c>>=λt=>if t then a else b
def zj (c:JX)(a b:JV)(ρ:Rho):vIf c a b ρ=lQ (c ρ) (a ρ) (b ρ):=rfl
def wy (a b:R W):lQ (.ok true) a b=a:=rfl
def wB (a b:R W):lQ (.ok false) a b=b:=rfl
def wA (t:Bool)(x y:W):lQ (.ok t) (.ok x) (.ok y)=.ok (if t then x else y):=by cases t <;> rfl
def jF (f I:W->W->R W)(a b c:R W):R W:=a>>=λx=>b>>=λy=>f x y>>=λz=>toB z>>=λt=>if t then c>>=λu=>I y u else .ok (.bl false)
def nF (f I:W->W->R W)(ma mb mc:JV)(ρ:Rho):dB f I ma mb mc ρ=jF f I (ma ρ) (mb ρ) (mc ρ):=rfl
def qP (g g':Int->Int->Bool) (i j k:Int):jF (fI0 λi j=>.bl (g i j)) (fI0 λi j=>.bl (g' i j)) (.ok (.int i)) (.ok (.int j)) (.ok (.int k))=.ok (.bl (g i j&&g' j k)):=by
 unfold jF
 change (if g i j=true then _ else _)=_;cases h:g i j <;> simp [fI0]
def mF (ws:JJ):R W:=lim ws.length (.tup ws)
def mG (ws:JJ):R W:=lim ws.length (.lst ws)
def vQ (ma:JK)(ρ:Rho):cY ma ρ=(ma ρ>>=mF):=rfl
def vU (ma:JK)(ρ:Rho):k9 ma ρ=(ma ρ>>=mG):=rfl
def FX (ρ:Rho):pN ρ=.ok none:=rfl
def FW (m:JV)(ρ:Rho):pS m ρ=(m ρ>>=gO):=rfl
def oT (i:Int):gO (.int i)=.ok (some i):=rfl
def Rsl (c:Bool)(x:R W)(l u:R Jv):R W:=x>>=λx=>l>>=λl=>u>>=λu=>toR (lstOf x)>>=λws=>chks c (k7 ws l u)
def zg (c:Bool)(m:JV)(ml I:Rho->R Jv)(ρ:Rho):vSl c m ml I ρ=Rsl c (m ρ) (ml ρ) (I ρ):=rfl
def yP (c:Bool)(ws:JJ)(l u:Jv):Rsl c (.ok (.lst ws)) (.ok l) (.ok u)=chks c (k7 ws l u):=rfl
def yO (c:Bool)(ws:JJ)(l u:Jv):Rsl c (.ok (.scr ws)) (.ok l) (.ok u)=chks c (k7 ws l u):=rfl
def vG (r:R JJ)(n:Nat)(mg:JY)(mc:JX)(me:JV)(ρ:Rho):R W:=r>>=λws=>U5 n mg mc me ws ρ
def qX (n:Nat)(I:JK)(mg:JY)(mc:JX)(me:JV)(ρ:Rho):J9 n I mg mc me ρ=vG (I ρ) n mg mc me ρ:=rfl
def uG (ws:JJ)(n:Nat)(mg:JY)(mc:JX)(me:JV)(ρ:Rho):vG (.ok ws) n mg mc me ρ=U5 n mg mc me ws ρ:=rfl
def zP (ρ:Rho):sNx ρ=.ok (.nx ρ):=rfl
def zU (ρ:Rho):sBk ρ=.ok (.bk ρ):=rfl
def zR (ρ:Rho):sCt ρ=.ok (.ct ρ):=rfl
def nj (r:R W)(ρ:Rho):R Fl:=r>>=λ_=>.ok (.nx ρ)
def rK (m:JV)(ρ:Rho):gF m ρ=nj (m ρ) ρ:=rfl
def uE (w:W)(ρ:Rho):nj (.ok w) ρ=.ok (.nx ρ):=rfl
def il (w:W):R Fl:=.ok (.rt w)
def wg (m:JV)(ρ:Rho):i3 m ρ=(m ρ>>=il):=rfl
def wo (w:W):il w=.ok (.rt w):=rfl
def rH (ρ:Rho):FA ρ=.ok (.rt .non):=rfl
def jC (r:R W)(f:W->Sl)(i:Nat)(ρ:Rho):R Fl:=r>>=λw=>.ok (.nx (ρ.set i (f w)))
def Fy (i:Nat)(m:JV)(ρ:Rho):sV i m ρ=jC (m ρ) Sl.val i ρ:=rfl
def Fz (i:Nat)(m:JV)(ρ:Rho):sU i m ρ=jC (m ρ) Sl.par i ρ:=rfl
def FC (i:Nat)(m:JV)(ρ:Rho):sF i m ρ=jC (m ρ) L7 i ρ:=rfl
def yS (w:W)(f:W->Sl)(i:Nat)(ρ:Rho):jC (.ok w) f i ρ=.ok (.nx (ρ.set i (f w))):=rfl
def nR (ws:JJ):L7 (.lst ws)=.own ws:=rfl
def nP (ws:JJ):L7 (.tup ws)=.val (.tup ws):=rfl
def nS (i:Int):L7 (.int i)=.val (.int i):=rfl
def rD (i:Bool):L7 (.bl i)=.val (.bl i):=rfl
def nQ:L7 .non=.val .non:=rfl
def fS (i:Str):L7 (.str i)=.val (.str i):=rfl
def zr:Option Rho->R Fl
 |some ρ=>.ok (.nx ρ)
 |none=>.stuck
def Fg (r:R W)(mg:JY)(ρ:Rho):R Fl:=r>>=λw=>toR (mg w ρ)>>=λI=>.ok (.nx I)
def FB (mg:JY)(m:JV)(ρ:Rho):sG mg m ρ=Fg (m ρ) mg ρ:=rfl
def zc (w:W) (mg:JY) (ρ:Rho):Fg (.ok w) mg ρ=zr (mg w ρ):=by
 change (toR (mg w ρ)>>=_)=_;cases mg w ρ <;> rfl
def nK (ρ:Rho):zr (some ρ)=.ok (.nx ρ):=rfl
def EZ (r:R JJ)(mg:JY)(mb:JW)(ρ:Rho):R Fl:=r>>=λws=>C3 mg mb ws ρ
def wk (I:JK)(mg:JY)(mb:JW)(ρ:Rho):V4 I mg mb ρ=EZ (I ρ) mg mb ρ:=rfl
def yW (ws:JJ)(mg:JY)(mb:JW)(ρ:Rho):EZ (.ok ws) mg mb ρ=C3 mg mb ws ρ:=rfl
def wj (i:Nat)(m:JW)(ρ:Rho):ij i m ρ=m (frz i ρ):=rfl
def fF:Option Sl->Nat->Rho->Rho
 |some (.own ws),i,ρ=>ρ.set i (.val (.lst ws))
 |_,_,ρ=>ρ
def CT (i:Nat) (ρ:Rho):frz i ρ=fF (ρ[i]?) i ρ:=by
 unfold frz fF;rcases h:ρ[i]? with _|s
 .rfl
 .cases s <;> rfl
def tV (ws:JJ)(i:Nat)(ρ:Rho):fF (some (.own ws)) i ρ=ρ.set i (.val (.lst ws)):=rfl
def tS (w:W)(i:Nat)(ρ:Rho):fF (some (.val w)) i ρ=ρ:=rfl
def tU (w:W)(i:Nat)(ρ:Rho):fF (some (.par w)) i ρ=ρ:=rfl
def xM (i:Nat)(ρ:Rho):fF (some .un) i ρ=ρ:=rfl
def rdS (d:Mode):Option Sl->R W
 |some (.val w)=>(match d with | .F=>chk w|_=>.ok w)
 |some (.par w)=>(match d with | .F=>chk w | .V=>chk w | .C=>chk w|_=>.ok w)
 |some (.own ws)=>(match d with | .C=>.ok (.lst ws) | .B=>.ok (.lst ws)|_=>.stuck)
 |some (.iop _ ws)=>(match d with | .B=>.ok (.lst ws) | .U=>.ok (.lst ws)|_=>.stuck)
 |some (.hz w)=>(match d with | .B=>.ok w | .U=>.ok w|_=>.stuck)
 |_=>.stuck
def cK (d:Mode) (i:Nat) (ρ:Rho):a6 d i ρ=rdS d (ρ[i]?):=by
 unfold a6 rdS;rfl
def Am (w:W):rdS .F (some (.val w))=chk w:=rfl
def Ak (w:W):rdS .V (some (.val w))=.ok w:=rfl
def Al (w:W):rdS .U (some (.val w))=.ok w:=rfl
def An (w:W):rdS .C (some (.val w))=.ok w:=rfl
def Ao (w:W):rdS .B (some (.val w))=.ok w:=rfl
def Ar (w:W):rdS .F (some (.par w))=chk w:=rfl
def Ap (w:W):rdS .V (some (.par w))=chk w:=rfl
def Aq (w:W):rdS .U (some (.par w))=.ok w:=rfl
def As (w:W):rdS .C (some (.par w))=chk w:=rfl
def Au (w:W):rdS .B (some (.par w))=.ok w:=rfl
def Av (ws:JJ):rdS .C (some (.own ws))=.ok (.lst ws):=rfl
def Aw (ws:JJ):rdS .B (some (.own ws))=.ok (.lst ws):=rfl
def retS (d:Mode):Option Sl->R Fl
 |some (.own ws)=>.ok (.rt (.lst ws))
 |o=>rdS d o>>=il
def mJ (d:Mode) (i:Nat) (ρ:Rho):E1 d i ρ=retS d (ρ[i]?):=by
 unfold E1 retS;rw[cK];rcases h:ρ[i]? with _|s
 .rfl
 .cases s <;> rfl
def rQ (d:Mode)(ws:JJ):retS d (some (.own ws))=.ok (.rt (.lst ws)):=rfl
def rO (d:Mode)(w:W):retS d (some (.val w))=(rdS d (some (.val w))>>=il):=rfl
def rP (d:Mode)(w:W):retS d (some (.par w))=(rdS d (some (.par w))>>=il):=rfl
def uA (o:Option Sl) (r:R W) (i:Nat) (ρ:Rho):R Fl:=match o with
 |some (.own ws)=>r>>=λw=>if ws.length<1000 then .ok (.nx (ρ.set i (.own (ws ++ [w])))) else .stuck
 |_=>.stuck
def xz (i:Nat)(m:JV)(ρ:Rho):dq i m ρ=uA (ρ[i]?) (m ρ) i ρ:=rfl
def yH (ws:JJ)(w:W)(i:Nat)(ρ:Rho):uA (some (.own ws)) (.ok w) i ρ=if ws.length<1000 then .ok (.nx (ρ.set i (.own (ws ++ [w])))) else .stuck:=rfl
def zI (o:Option Sl) (a b:R W) (i:Nat) (ρ:Rho):R Fl:=match o with
 | some (.own ws)=>b>>=λw=>a>>=λk=>(match k with
  | .int k=>(match ixN ws.length k with
   |some j=>.ok (.nx (ρ.set i (.own (ws.set j w))))
   |none=>.stuck)
  |_=>.stuck)
 |_=>.stuck
def xq (i:Nat)(I me:JV)(ρ:Rho):mSet i I me ρ=zI (ρ[i]?) (I ρ) (me ρ) i ρ:=rfl
def zJ (o:Option Nat) (ws:JJ) (w:W) (i:Nat) (ρ:Rho):R Fl:=match o with
 |some j=>.ok (.nx (ρ.set i (.own (ws.set j w))))
 |none=>.stuck
def we (ws:JJ)(w:W) (k:Int)(i:Nat)(ρ:Rho):zI (some (.own ws)) (.ok (.int k)) (.ok w) i ρ=zJ (ixN ws.length k) ws w i ρ:=rfl
def nY (j:Nat)(ws:JJ)(w:W)(i:Nat)(ρ:Rho):zJ (some j) ws w i ρ=.ok (.nx (ρ.set i (.own (ws.set j w)))):=rfl
def EG (f:Int->Int->Int) (a b:R W) (i:Nat) (ρ:Rho):R Fl:=a>>=λx=>b>>=λy=>match x,y with
 | .int a,.int b=>.ok (.nx (ρ.set i (.val (.int (f a b)))))
 |_,_=>.stuck
def xy (i:Nat) (f:Int->Int->Int) (m:JV) (ρ:Rho):mAug i f m ρ=EG f (rdS .B (ρ[i]?)) (m ρ) i ρ:=by
 rw[<- cK];rfl
def yG (f:Int->Int->Int) (a b:Int)(i:Nat)(ρ:Rho):EG f (.ok (.int a)) (.ok (.int b)) i ρ=.ok (.nx (ρ.set i (.val (.int (f a b))))):=rfl
def ifS (c:R Bool)(m n:JW)(ρ:Rho):R Fl:=c>>=λb=>if b then m ρ else n ρ
def BI (c:JX)(m n:JW)(ρ:Rho):mIf c m n ρ=ifS (c ρ) m n ρ:=rfl
def CC (m n:JW)(ρ:Rho):ifS (.ok true) m n ρ=m ρ:=rfl
def CD (m n:JW)(ρ:Rho):ifS (.ok false) m n ρ=n ρ:=rfl
def S8 (r:R Fl):R W:=r>>=λf=>match f with
 | .rt w=>.ok w
 | .nx _=>.ok .non
 |_=>.stuck
def az (h:ws.length=n):i5 n N m ws=S8 (m (ws.map Sl.par++List.replicate (N-n) Sl.un)):=by unfold i5;rw[qA9 h];rfl
def Ab {N:Nat}{m:JW}(a:W):i5 1 N m [a]=S8 (m (Sl.par a::List.replicate (N-1) Sl.un)):=az rfl
def Aa {N:Nat}{m:JW}(a b:W):i5 2 N m [a,b]=S8 (m (Sl.par a::Sl.par b::List.replicate (N-2) Sl.un)):=az rfl
def zZ {N:Nat}{m:JW}(a b c:W):i5 3 N m [a,b,c]=S8 (m (Sl.par a::Sl.par b::Sl.par c::List.replicate (N-3) Sl.un)):=az rfl
def zY {N:Nat}{m:JW}(a b c d:W):i5 4 N m [a,b,c,d]=S8 (m (Sl.par a::Sl.par b::Sl.par c::Sl.par d::List.replicate (N-4) Sl.un)):=az rfl
def zX {N:Nat}{m:JW}(a b c d e:W):i5 5 N m [a,b,c,d,e]=S8 (m (Sl.par a::Sl.par b::Sl.par c::Sl.par d::Sl.par e::List.replicate (N-5) Sl.un)):=az rfl
def ya (w:W):S8 (.ok (.rt w))=.ok w:=rfl
def yb (ρ:Rho):S8 (.ok (.nx ρ))=.ok .non:=rfl
def Do (g:Int->Int->W) (i j:Int):fI0 g (.int i) (.int j)=.ok (g i j):=rfl
def fU_i (g:Int->W) (i:Int):fU g (.int i)=.ok (g i):=rfl
def GS (ws:JJ) (i:Int):fIx (.lst ws) (.int i)=toR (L2.atI ws i):=rfl
def GQ (ws:JJ) (i:Int):fIx (.tup ws) (.int i)=toR (L2.atI ws i):=rfl
def GR (ws:JJ) (i:Int):fIx (.scr ws) (.int i)=toR (L2.atI ws i):=rfl
def ro {α:Type}(a:α):toR (some a)=.ok a:=rfl
def zt (b:Bool):toB (.bl b)=.ok b:=rfl
def Dh (ws:JJ):fLen [.lst ws]=.ok (.int ws.length):=rfl
def Df (ws:JJ):fLen [.tup ws]=.ok (.int ws.length):=rfl
def Dg (ws:JJ):fLen [.scr ws]=.ok (.int ws.length):=rfl
def xQ (c:Bool)(ws:JJ):vy c [.lst ws]=chks c ws:=rfl
def xP (c:Bool)(ws:JJ):vy c [.tup ws]=chks c ws:=rfl
def CZ (c:Bool)(ws:JJ):jj c [.lst ws]=Y6 c ws:=rfl
def CY (c:Bool)(ws:JJ):jj c [.tup ws]=Y6 c ws:=rfl
def DO (ws:JJ):chks true ws=.ok (.lst ws):=rfl
def DV (ws:JJ):Y6 true ws=.ok (.tup ws):=rfl
def W9 (h:u6 ws=true):chks c ws=.ok (.lst ws):=by unfold chks;rw[h,qT0,qA9 rfl]
def fL (h:u6 ws=true):Y6 c ws=.ok (.tup ws):=by unfold Y6;rw[h,qT0,qA9 rfl]
def DR (c:Bool)(ns:JQ):chks c (ns.map W.int)=.ok (.lst (ns.map W.int)):=W9 (P7 ns)
def DZ (c:Bool)(ns:JQ):Y6 c (ns.map W.int)=.ok (.tup (ns.map W.int)):=fL (P7 ns)
def qt (h:noL w=true):chk w=.ok w:=by unfold chk;rw[qA9 h]
def yj (i:Int):chk (.int i)=.ok (.int i):=rfl
def DU (i:Bool):chk (.bl i)=.ok (.bl i):=rfl
def yh (i:Str):chk (.str i)=.ok (.str i):=rfl
def yi:chk .non=.ok .non:=rfl
def DS (ns:JQ):chk (.tup (ns.map W.int))=.ok (.tup (ns.map W.int)):=qt (P7 ns)
def GV (g:Int->Int->Int) (i j:Int):f2 g [.int i,.int j]=.ok (.int (g i j)):=rfl
def zM (ws:JJ):K0 (.lst ws)=.ok ws:=rfl
def zK (ws:JJ):K0 (.tup ws)=.ok ws:=rfl
def zL (ws:JJ):K0 (.scr ws)=.ok ws:=rfl
def Af (j:Int):bM [.int j]=Q5 0 j:=rfl
def Ae (i j:Int):rng2 [.int i,.int j]=Q5 i j:=rfl
def gN_U (i:Nat)(w:W)(ρ:Rho):gN .U i w ρ=some (ρ.set i (.par w)):=rfl
def gN_V (i:Nat)(w:W)(ρ:Rho):gN .V i w ρ=some (ρ.set i (.val w)):=rfl
def gT_t (n:Nat)(g:List W->Rho->Option Rho)(ws:JJ)(ρ:Rho):gT n g (.tup ws) ρ=if ws.length=n then g ws ρ else none:=rfl
def tH (f:JY)(g:List W->Rho->Option Rho)(w:W)(ws:JJ)(ρ:Rho):cm f g (w::ws) ρ=(f w ρ).bind (g ws):=rfl
def xI (ρ:Rho):gsNil [] ρ=some ρ:=rfl
def sT (ws:JJ):mF ws=if ws.length<=1000 then .ok (.tup ws) else .stuck:=rfl
def sW (ws:JJ):mG ws=if ws.length<=1000 then .ok (.lst ws) else .stuck:=rfl
def kU (x:W)(T:String):fIsi [x,.ty T]=(toR ((tyW x).bind λA=>t7 A T)>>=λb=>.ok (.bl b)):=rfl
def BZ:t7 "NoneType" "tuple" = some false:=Qy
def Ca:t7 "NoneType" "list" = some false:=Qy
def Cd:t7 "list" "tuple" = some false:=Qy
def BT:t7 "tuple" "list" = some false:=Qy
def Di (n:Bool)(u:W):mP n u .non=.ok (.bl (if n then !isN u else isN u)):=rfl
def iV (P:Nat->Rho->Prop):∀(ws:JJ) (k:Nat) (ρ:Rho),P k ρ ->
  (∀(i:Nat) (w:W) (ρ:Rho),ws[i]?=some w->P (k+i) ρ->∃a3,mg w ρ=some a3/\∃O,mb a3=.ok (.nx O)/\P (k+i+1) O)->∃I,C3 mg mb ws ρ=.ok (.nx I)/\P (k+ws.length) I
 | [],k,ρ,h,_=>⟨ρ,rfl,h⟩
 | w::ws,k,ρ,h,st=>by
  obtain ⟨a3,e1,O,e2,h2⟩:=st 0 w ρ rfl h;obtain ⟨I,e3,h3⟩:=iV P ws (k+1) O h2 λi w ρ hw hp=>by
   have:=st (i+1) w ρ (by simpa using hw) (by rw[show k+(i+1)=k+1+i by omega];show hp)
   rw[show k+(i+1)+1=k+1+i+1 by omega]at this;show this
  refine ⟨I,?_,by rw[qA3,show k+(ws.length+1)=k+1+ws.length by omega];show h3⟩;unfold C3;rw[e1]
  change (mb a3>>=_)=_;rw[e2];show e3
def sX {α:Type}(g:α->W) (s:α->W):∀(I:List α),(∀a∈I,f (s a)=.ok (some (g a)))->mapR f (I.map s)=.ok (I.map g):=by
 intro I
 induction I with
 |nil=>show λ_=>rfl
 | cons a I ih=>
  intro h;rw[qB2,mapR,h a qA2,ih λb O=>h b (qA4 _ O)];rfl
def P8 {α:Type}(g:α->W) (s:α->W) (O:List α) (ρ:Rho) (hl:O.length<=1000) (h:∀a∈O,∃I,mg (s a) (ρ++List.replicate (N'-ρ.length) Sl.un)=some I/\me I=.ok (g a)):U5 N' mg yes me (O.map s) ρ=.ok (.lst (O.map g)):=by
 unfold U5;rw[qA0,qA9 hl,sX g s O];intro a ha;obtain ⟨I,e1,e2⟩:=h a ha;unfold elR;rw[e1];have hy:yes I=.ok true:=rfl;dsimp only;rw[hy];dsimp only;rw[e2]
def rN (h0:-1000000<=z) (h:z<=1000000):Q5 0 z=.ok ((List.range z.toNat).map λk=>W.int (k:Nat)):=by
 unfold Q5;rw[qA9 Qo];simp
def bL (h:((List.range n).map λk=>W.int (k:Nat))[i]?=some w):i<n/\w=.int (i:Nat):=by
 rw[qC1]at h;cases q:(List.range n)[i]? with
 |none=>rw[q]at h;cases h
 | some k=>
  rw[q]at h;obtain ⟨h1,h2⟩:=qA5.mp q;simp at h1 h2;subst h2;cases h;show ⟨h1,rfl⟩
def DJ (xs:JQ)(lo hi:Jv):List Int:=(xs.drop (HT.sIx xs.length 0 lo)).take (HT.sIx xs.length xs.length hi-HT.sIx xs.length 0 lo)
def DH (ns:JQ) (lo hi:Jv):k7 (ns.map W.int) lo hi=(DJ ns lo hi).map W.int:=by
 unfold k7 DJ;rw[qA0,<- qX6,<- qG8]
def zH (ns:JQ)(j:Nat) (z:Int):(ns.map W.int).set j (.int z)=(ns.set j z).map W.int:=by rw[List.map_set]
def EI (ns:JQ) (z:Int):ns.map W.int ++ [.int z]=(ns ++ [z]).map W.int:=by rw[qB1];rfl
def Ai (k:Nat) (z:Int):(List.replicate k [W.int z]).flatten=(List.replicate k z).map W.int:=by
 induction k with
 |zero=>rfl
 |succ k I=>rw[qF5,qE4,I,qF5,qB2];rfl
def ny (x y:W) (xs ys:JJ) (O:K0 x=.ok xs) (I:K0 y=.ok ys):af [x,y]=.ok ((zd [xs,ys]).map W.tup):=by
 unfold af;simp only [qA3,qI4,Z3,O,I,Nat.reduceAdd,true_or,qL8]
def Gg {i j:Int}(h:-18446744073709551616<i/\i<18446744073709551616):fI CMul E9 (.int i) (.int j)=.ok (.int (i*j)):=by
 change (if CMul i j then _ else _)=_;rw[qA9 (.inl (by simpa using h))]
def Gf {i j:Int}(h:-18446744073709551616<j/\j<18446744073709551616):fI CMul E9 (.int i) (.int j)=.ok (.int (i*j)):=by
 change (if CMul i j then _ else _)=_;rw[qA9 (.inr (by simpa using h))]
def BG {i j:Int}(h:0<j):fI o7 r0 (.int i) (.int j)=.ok (.int (i%j)):=by
 change (if o7 i j then _ else _)=_;rw[qA9 h]
def div_ii {i j:Int}(h:0<j/\j<1073741824):fI A6 F0 (.int i) (.int j)=.ok (.int (i/j)):=by
 change (if A6 i j then _ else _)=_;rw[qA9 (show A6 i j from h)]
def AU {i j:Int}(h:0<=j/\j<=1000000 /\ -18446744073709551616<i/\i<18446744073709551616):fI bC je (.int i) (.int j)=.ok (.int (i^j.toNat)):=by
 change (if bC i j then _ else _)=_;rw[qA9 ⟨h.1,h.2.1,Qo⟩]
def EJ {ws:JJ}{w:W}{i:Nat}{ρ:Rho}(h:ws.length<1000):uA (some (.own ws)) (.ok w) i ρ=.ok (.nx (ρ.set i (.own (ws ++ [w])))):=by rw[yH,qA9 h]
def xm {ws:JJ}(h:ws.length<=1000):mF ws=.ok (.tup ws):=by rw[sT,qA9 h]
def xn {ws:JJ}(h:ws.length<=1000):mG ws=.ok (.lst ws):=by rw[sW,qA9 h]
def Dy {c:Bool}{us vs:JJ}(h:us.length+vs.length<=1000):u7 c (.lst us) (.lst vs)=chks c (us++vs):=by
 change (if us.length+vs.length<=1000 then _ else _)=_;rw[qA9 h]
def De {c:Bool}{z:W}{k:Int}(h:0<=k/\k<=1000):mO c (.lst [z]) (.int k)=chks c (List.replicate k.toNat [z]).flatten:=by
 change (if [z].length*k.toNat<=1000 /\ -1000<=k/\k<=1000 then _ else _)=_;rw[qA9 ⟨by simp only [qA3,qI4];omega,Qo,h.2⟩]
def HI {ns:JQ}{i:Int}(h:0<=i/\i<ns.length):L2.atI (ns.map W.int) i=some (.int (ns.getD i.toNat 0)):=atW h.1 h.2
def Gi {n:Nat}{i:Int}(h:0<=i/\i<n):ixN n i=some i.toNat:=W8 h.1 h.2
def Ac {z:Int}(h:-1000000<=z/\z<=1000000):Q5 0 z=.ok ((List.range z.toNat).map λk=>W.int (k:Nat)):=rN h.1 h.2
def Ok (r:R W)(P:W->Prop):Prop:=∃w,r=.ok w/\P w
def Po (r:R Fl) (I:Rho->Prop) (Jr:W->Prop):Prop:=match r with
 | .ok (.nx ρ)=>I ρ
 | .ok (.rt w)=>Jr w
 |_=>False
def R0 (h:Po r (λ_=>P .non) P):Ok (S8 r) P:=by
 cases r with
 |ex _=>show h.elim
 |stuck=>show h.elim
 | ok f=>cases f with
  |nx ρ=>show ⟨_,rfl,h⟩
  |rt w=>show ⟨_,rfl,h⟩
  |bk _=>show h.elim
  |ct _=>show h.elim
def AV (h:Po r (λρ=>Po (n ρ) Jn Jr) Jr):Po (andThen r n) Jn Jr:=by
 cases r with
 |ex _=>show h.elim
 |stuck=>show h.elim
 | ok f=>cases f with
  |nx ρ=>show h
  |rt w=>show h
  |bk _=>show h.elim
  |ct _=>show h.elim
def FS {ρ:Rho}{I:Rho->Prop}{Jr:W->Prop}:Po (.ok (.nx ρ)) I Jr=I ρ:=rfl
def FR {w:W}{I:Rho->Prop}{Jr:W->Prop}:Po (.ok (.rt w)) I Jr=Jr w:=rfl
def Po.mono (h:Po r Jn Jr) (h1:∀ρ,Jn ρ->Jn' ρ) (h2:∀w,Jr w->Jr' w):Po r Jn' Jr':=by
 cases r with
 |ex _=>show h
 |stuck=>show h
 | ok f=>cases f with
  |nx ρ=>show h1 ρ h
  |rt w=>show h2 w h
  |bk _=>show h
  |ct _=>show h
def oK (I:Nat->Rho->Prop):∀(ws:JJ) (k:Nat) (ρ:Rho),I k ρ ->
  (∀(i:Nat) (w:W) (ρ:Rho),ws[i]?=some w->I (k+i) ρ->∃O,mg w ρ=some O/\Po (mb O) (I (k+i+1)) Jr)->Po (C3 mg mb ws ρ) (I (k+ws.length)) Jr:=by
 intro ws
 induction ws with
 |nil=>show λk ρ h _=>h
 | cons w ws ih=>
  intro k ρ h st;obtain ⟨O,e1,p⟩:=st 0 w ρ rfl h;unfold C3;rw[e1]
  change Po (mb O>>=_) _ _
  revert p
  cases mb O with
  |ex _=>show λp=>p.elim
  |stuck=>show λp=>p.elim
  | ok f=>cases f with
   |bk _=>show λp=>p.elim
   |ct _=>show λp=>p.elim
   |rt w=>show λp=>p
   | nx a3=>
    intro p
    have:=ih (k+1) a3 p λi w ρ hw hp=>by
     have:=st (i+1) w ρ hw (by rw[<- qN6 k i];show hp)
     rw[<- qN6 k i]at this;show this
    rw[qA3,<- qN6 k ws.length];show this
def AW (I:Nat->Rho->Prop) (h0:I 0 ρ) (st:∀(i:Nat) (w:W) (ρ:Rho),ws[i]?=some w->I i ρ->∃O,mg w ρ=some O/\Po (mb O) (I (i+1)) Jr) (hn:∀ρ,I ws.length ρ->Jn ρ):Po (C3 mg mb ws ρ) Jn Jr:=by
 have:=oK (mg:=mg) (mb:=mb) (Jr:=Jr) I ws 0 ρ h0 λi w ρ hw hp=>by rw[qJ2]at hp ⊢;show st i w ρ hw hp
 rw[qJ2]at this;show this.mono hn λ_ h=>h
def F6 (I:Nat->Rho->Prop)(h0:I 0 ρ)(st:∀(i:Nat)(w:W)(ρ:Rho),ws[i]?=some w->I i ρ->∃O,mg w ρ=some O/\Po (mb O) (I (i+1)) Jr)(hn:∀ρ,I ws.length ρ->Po (n ρ) Jn Jr):Po (andThen (C3 mg mb ws ρ) n) Jn Jr:=AV (AW I h0 st hn)
def tO (i j:Int):CM i j=max i j:=by unfold CM;omega
def tN (i j:Int):CL i j=min i j:=by unfold CL;omega
def oW:Option Int->W
 |none=>.non
 |some i=>.int i
def oW_n:oW none=.non:=rfl
def oW_s (i:Int):oW (some i)=.int i:=rfl
def ph (o:Jv):noL (oW o)=true:=by cases o <;> rfl
def DT (o:Jv):chk (oW o)=.ok (oW o):=qt (ph o)
def S1 {α:Type}(f:α->W) (h:∀a,noL (f a)=true) (I:List α):u6 (I.map f)=true:=by
 induction I with
 |nil=>rfl
 |cons a I O=>rw[qB2];simp only [u6,h,O,qR2]
def fv (cs:Jj):u6 (cs.map oW)=true:=S1 oW ph cs
def DQ (c:Bool)(cs:Jj):chks c (cs.map oW)=.ok (.lst (cs.map oW)):=W9 (fv cs)
def DY (c:Bool)(cs:Jj):Y6 c (cs.map oW)=.ok (.tup (cs.map oW)):=fL (fv cs)
def Cm (o:Jv):isN (oW o)=o.isNone:=by cases o <;> rfl
def rC (o:Jv):L7 (oW o)=.val (oW o):=by cases o <;> rfl
def qM {α:Type}(f:α->W){I:List α}{d:α}{i:Int}(h:0<=i/\i<I.length):L2.atI (I.map f) i=some (f (I.getD i.toNat d)):=by
 unfold L2.atI;rw[qA0,W8 h.1 h.2]
 change (I.map f)[i.toNat]?=_;have hi:i.toNat<I.length:=Qo;rw[qC1,qD4];simp [hi]
def HK {cs:Jj}{i:Int}(h:0<=i/\i<cs.length):L2.atI (cs.map oW) i=some (oW (cs.getD i.toNat none)):=qM oW h
def appO (cs:Jj)(o:Jv):cs.map oW ++ [oW o]=(cs ++ [o]).map oW:=by rw[qB1];rfl
def Bw (ns:JQ):noL (tI ns)=true:=P7 ns
def iP (ss:Jg):u6 (ss.map tI)=true:=S1 tI Bw ss
def DP (c:Bool)(ss:Jg):chks c (ss.map tI)=.ok (.lst (ss.map tI)):=W9 (iP ss)
def DX (c:Bool)(ss:Jg):Y6 c (ss.map tI)=.ok (.tup (ss.map tI)):=fL (iP ss)
def HJ {ss:Jg}{i:Int}(h:0<=i/\i<ss.length):L2.atI (ss.map tI) i=some (tI (ss.getD i.toNat [])):=qM tI h
def EH (ss:Jg)(s:JQ):ss.map tI ++ [tI s]=(ss ++ [s]).map tI:=by rw[qB1];rfl
def B5 {α:Type}(xs:List α)(lo hi:Jv):List α:=(xs.drop (HT.sIx xs.length 0 lo)).take (HT.sIx xs.length xs.length hi-HT.sIx xs.length 0 lo)
def C6 (f:α->W) (I:List α) (lo hi:Jv):k7 (I.map f) lo hi=(B5 I lo hi).map f:=by
 unfold k7 B5;rw[qA0,<- qX6,<- qG8]
def DG (ss:Jg)(lo hi:Jv):k7 (ss.map tI) lo hi=(B5 ss lo hi).map tI:=C6 tI ss lo hi
def Ea (ss ts:Jg):ss.map tI++ts.map tI=(ss++ts).map tI:=by rw[qB1]
def Eb (ss ts:JQ):ss.map W.int++ts.map W.int=(ss++ts).map W.int:=by rw[qB1]
def Ad {lo hi:Int}(h:-1000000<=lo/\lo<=1000000 /\ -1000000<=hi/\hi<=1000000):Q5 lo hi=.ok ((List.range (hi-lo).toNat).map λk=>W.int (lo+(k:Nat))):=by
 unfold Q5;rw[qA9 h]
def eqv_refl:∀w:W,PyData.eqv (pd w) (pd w)=true:=by
 intro w;refine W.rec (motive_1:=λw=>PyData.eqv (pd w) (pd w)=true) (motive_2:=λws=>PyData.eqvAll (pds ws) (pds ws)=true) ?_ ?_ ?_ ?_ ?_ ?_ ?_ ?_ ?_ ?_ ?_ ?_ ?_ w
 .rfl
 .intro b;cases b <;> rfl
 .intro b;show qM2 b
 .intro b;show qM2 b
 .intro b;rfl
 .show λws h=>h
 .show λws h=>h
 .show λws h=>h
 .intro b c;rfl
 .intro b;rfl
 .intro b c d e _;rfl
 .rfl
 .intro w ws h1 h2;show (qI0 _ _).mpr ⟨h1,h2⟩
def ua (w:W):eqW w w=true:=eqv_refl w
def di {α:Type}(f:α->W) (n:Nat) (h:∀a,shp n (f a)=true) (I:List α):R8 n (I.map f)=true:=by
 induction I with
 |nil=>rfl
 |cons a I O=>rw[qB2];simp only [R8,h,O,qR2]
def cC (n:Nat) (i:Int):shp n (.int i)=true:=by cases n <;> rfl
def nX (n:Nat)(b:Bool):shp n (.bl b)=true:=by cases n <;> rfl
def dG (n:Nat)(ns:JQ):shp (n+1) (tI ns)=true:=di W.int n (cC n) ns
def nW (n:Nat)(ns:JQ):shp (n+1) (lI ns)=true:=di W.int n (cC n) ns
def nV (n:Nat)(ss:Jg):shp (n+2) (.lst (ss.map tI))=true:=di tI (n+1) (dG n) ss
def bv (h:shp 8 w=true):fEq neg w w=.ok (.bl (!neg)):=by
 unfold fEq;rw[h,ua];cases neg <;> rfl
def eqI:∀(a b:JQ),PyData.eqvAll (pds (a.map W.int)) (pds (b.map W.int))=decide (a=b)
 | [],[]=>by simp [pds,PyData.eqvAll]
 | [],_::_=>by simp [pds,PyData.eqvAll]
 |_::_,[]=>by simp [pds,PyData.eqvAll]
 | x::a,y::b=>by
  simp only [qB2,pds,pd,PyData.eqvAll,PyData.eqv,eqI a b];by_cases h:x=y <;> by_cases h':a=b <;> simp [h,h']
def Dp (neg:Bool) (a b:JQ):fEq neg (tI a) (tI b)=.ok (.bl (if neg then !decide (a=b) else decide (a=b))):=by
 unfold fEq;rw[dG,dG]
 have:eqW (tI a) (tI b)=decide (a=b):=eqI a b
 rw[this];rfl
def Dt (neg:Bool) (a b:JQ):fEq neg (lI a) (lI b)=.ok (.bl (if neg then !decide (a=b) else decide (a=b))):=by
 unfold fEq;rw[nW,nW]
 have:eqW (lI a) (lI b)=decide (a=b):=eqI a b
 rw[this];rfl
def DD:∀(a b:Jg),PyData.eqvAll (pds (a.map tI)) (pds (b.map tI))=decide (a=b)
 | [],[]=>by simp [pds,PyData.eqvAll]
 | [],_::_=>by simp [pds,PyData.eqvAll]
 |_::_,[]=>by simp [pds,PyData.eqvAll]
 | x::a,y::b=>by
  simp only [qB2,pds,pd,PyData.eqvAll,PyData.eqv,DD a b,eqI];by_cases h:x=y <;> by_cases h':a=b <;> simp [h,h']
def Ds (neg:Bool) (a b:Jg):fEq neg (.lst (a.map tI)) (.lst (b.map tI))=.ok (.bl (if neg then !decide (a=b) else decide (a=b))):=by
 unfold fEq;rw[nV,nV]
 have:eqW (.lst (a.map tI)) (.lst (b.map tI))=decide (a=b):=DD a b
 rw[this];rfl
def Dv (neg:Bool) (i j:Int):fEq neg (.int i) (.int j)=.ok (.bl (if neg then !decide (i=j) else decide (i=j))):=by
 unfold fEq;rw[cC,cC]
 have:eqW (.int i) (.int j)=decide (i=j):=by
  by_cases h:i=j <;> simp [eqW,pd,PyData.eqv,h]
 rw[this];rfl
def Dx (neg:Bool) (i j:Bool):fEq neg (.bl i) (.bl j)=.ok (.bl (if neg then !decide (i=j) else decide (i=j))):=by
 unfold fEq;rw[nX,nX]
 have:eqW (.bl i) (.bl j)=decide (i=j):=by cases i <;> cases j <;> rfl
 rw[this];rfl
def Dr (neg:Bool) (j:Int):fEq neg .non (.int j)=.ok (.bl neg):=by cases neg <;> rfl
def Du (neg:Bool) (j:Int):fEq neg (.int j) .non=.ok (.bl neg):=by cases neg <;> rfl
def Dq (neg:Bool):fEq neg .non .non=.ok (.bl (!neg)):=by cases neg <;> rfl
def jk (g:List Bool->Bool) (bs:List Bool):jl g [.lst (bs.map W.bl)]=.ok (.bl (g bs)):=by
 change (toR (Y8 (bs.map W.bl))>>=_)=_;rw[yz];rfl
def xR (g:List Int->Int) (ns:JQ):GT g [.lst (ns.map W.int)]=.ok (.int (g ns)):=by
 change (toR (U6 (ns.map W.int))>>=_)=_;rw[ints_map];rfl
def Dl (i:Int):Dn [.int i]=.ok (.int i):=rfl
def Dm (b:Bool):Dn [.bl b]=.ok (.int (if b then 1 else 0)):=rfl
def Dz (i:Int):fAbs [.int i]=.ok (.int (if i<0 then -i else i)):=rfl
def DC (o:Option Sl) (r:R W) (c:Bool) (i:Nat) (ρ:Rho):R Fl:=match o with
 | some (.own ws)=>r>>=λw=>(match w with
  | .lst us=>if ws.length+us.length<=1000 then (if c||u6 us then .ok (.nx (ρ.set i (.own (ws++us)))) else .stuck) else .stuck
  |_=>.stuck)
 |_=>.stuck
def xw (i:Nat)(c:Bool)(m:JV)(ρ:Rho):mExt i c m ρ=DC (ρ[i]?) (m ρ) c i ρ:=rfl
def DB {ws us:JJ}{c:Bool}{i:Nat}{ρ:Rho}(h:ws.length+us.length<=1000):DC (some (.own ws)) (.ok (.lst us)) c i ρ=if c||u6 us then .ok (.nx (ρ.set i (.own (ws++us)))) else .stuck:=by
 change (if ws.length+us.length<=1000 then _ else _)=_;rw[qA9 h]
def Ah (o:Option Sl) (i:Nat) (ρ:Rho):R Fl:=match o with
 |some (.own ws)=>.ok (.nx (ρ.set i (.own ws.reverse)))
 |_=>.stuck
def xt (i:Nat)(ρ:Rho):mRev i ρ=Ah (ρ[i]?) i ρ:=rfl
def wn (ws:JJ)(i:Nat)(ρ:Rho):Ah (some (.own ws)) i ρ=.ok (.nx (ρ.set i (.own ws.reverse))):=rfl
def xL (i j:Int):J1 i j=.int (i+j):=rfl
def xJ (i j:Int):TP.gSub i j=.int (i-j):=rfl
def CN (i j:Int):gLt i j=.bl (decide (i<j)):=rfl
def CO (i j:Int):gLe i j=.bl (decide (i<=j)):=rfl
def CP (i j:Int):gGt i j=.bl (decide (j<i)):=rfl
def CQ (i j:Int):gGe i j=.bl (decide (j<=i)):=rfl
def xK (i:Int):E8 i=.int (-i):=rfl
def tR (i j:Int):GO i j=i+j:=rfl
def tL (i j:Int):GN i j=i-j:=rfl
def Da {i:Int}(h:0<=i/\i<1000):fStr [.int i]=.ok (.str (toString i)):=by
 change (if i.natAbs.log2<1920 then _ else _)=_;rw[qA9];refine qJ7 (Nat.log2_le_self _) ?_;omega
def Dj (neg:Bool)(u:W)(b:Bool):fIsB neg u (.bl b)=.ok (.bl (if neg then !ao u b else ao u b)):=rfl
def Ct (i:Int)(b:Bool):ao (.int i) b=false:=rfl
def Cr (b:Bool):ao .non b=false:=rfl
def Cq (x:Str)(b:Bool):ao (.str x) b=false:=rfl
def Cp (x:JJ)(b:Bool):ao (.tup x) b=false:=rfl
def Cs (x:JJ)(b:Bool):ao (.lst x) b=false:=rfl
def Cu (a b:Bool):ao (.bl a) b=(a == b):=rfl
def Rcu (c:Bool)(r:R JJ)(f:List W->R W)(i:Nat)(ρ:Rho):R Fl:=if c then (r>>=λws=>f ws>>=λw=>.ok (.nx (ρ.set i (.par w)))) else .stuck
def zT (i:Nat)(f:List W->R W)(ma:JK)(ρ:Rho):sCU i f ma ρ=Rcu (noOwn ρ) (ma ρ) f i ρ:=rfl
def Fd (r:R W)(i:Nat)(ρ:Rho):R Fl:=r>>=λw=>.ok (.nx (ρ.set i (.par w)))
def HS (ws:JJ)(f:List W->R W)(i:Nat)(ρ:Rho):Rcu true (.ok ws) f i ρ=Fd (f ws) i ρ:=rfl
def yZ (w:W)(i:Nat)(ρ:Rho):Fd (.ok w) i ρ=.ok (.nx (ρ.set i (.par w))):=rfl
def pf:noOwn []=true:=rfl
def wW (w:W)(ρ:Rho):noOwn (.val w::ρ)=noOwn ρ:=rfl
def wY (w:W)(ρ:Rho):noOwn (.par w::ρ)=noOwn ρ:=rfl
def wX (ρ:Rho):noOwn (.un::ρ)=noOwn ρ:=rfl
def xX {g:List Int->Int}{ns:JQ}(h:0<ns.length):vz g [tI ns]=.ok (.int (g ns)):=by
 change (toR (U6 (ns.map W.int))>>=_)=_;rw[ints_map]
 change (if 0<ns.length then _ else _)=_;rw[qA9 h]
def xY {g:List Int->Int}{ns:JQ}(h:0<ns.length):vz g [lI ns]=.ok (.int (g ns)):=by
 change (toR (U6 (ns.map W.int))>>=_)=_;rw[ints_map]
 change (if 0<ns.length then _ else _)=_;rw[qA9 h]
def Ag (ws:JJ):revW [.lst ws]=.ok ws.reverse:=rfl
def rp0:=Z1 (@tO) (Z1 (@tN) (Z1 (@FS) (Z1 (@FR) (Z1 (@Gg) (Z1 (@Gf) (Z1 (@BG) (Z1 (@div_ii) (Z1 (@AU) (Z1 (@EJ) (Z1 (@xm) (Z1 (@xn) (Z1 (@Dy) (Z1 (@De) (Z1 (@HI) (Z1 (@Gi) (Z1 (@Ac) (Z1 (@DH) (Z1 (@zH) (Z1 (@EI) (Z1 (@Ai) (Z1 (@xr) (Z1 (@mX) (Z1 (@mW) (@nh))))))))))))))))))))))))
def rp1:=Z1 (@mZ) (Z1 (@Gh) (Z1 (@HH) (Z1 (@HG) (Z1 (@Fh) (Z1 (@HF) (Z1 (@HE) (Z1 (@HD) (Z1 (@HN) (Z1 (@HP) (Z1 (@jE) (Z1 (@yF) (Z1 (@uy) (Z1 (@wa) (Z1 (@zw) (Z1 (@vZ) (Z1 (@wD) (Z1 (@wE) (Z1 (@wC) (Z1 (@Az) (Z1 (@Ay) (Z1 (@AA) (Z1 (@wx) (Z1 (@vV) (@zh))))))))))))))))))))))))
def rp2:=Z1 (@vT) (Z1 (@rZ) (Z1 (@se) (Z1 (@rY) (Z1 (@wv) (Z1 (@wu) (Z1 (@ww) (Z1 (@rV) (Z1 (@zj) (Z1 (@wy) (Z1 (@wB) (Z1 (@wA) (Z1 (@nF) (Z1 (@qP) (Z1 (@vQ) (Z1 (@vU) (Z1 (@FX) (Z1 (@FW) (Z1 (@oT) (Z1 (@zg) (Z1 (@yP) (Z1 (@yO) (Z1 (@qX) (Z1 (@uG) (@zP))))))))))))))))))))))))
def rp3:=Z1 (@zU) (Z1 (@zR) (Z1 (@rK) (Z1 (@uE) (Z1 (@wg) (Z1 (@wo) (Z1 (@rH) (Z1 (@Fy) (Z1 (@Fz) (Z1 (@FC) (Z1 (@yS) (Z1 (@nR) (Z1 (@nP) (Z1 (@nS) (Z1 (@rD) (Z1 (@nQ) (Z1 (@fS) (Z1 (@FB) (Z1 (@zc) (Z1 (@nK) (Z1 (@wk) (Z1 (@yW) (Z1 (@wj) (Z1 (@CT) (@tV))))))))))))))))))))))))
def rp4:=Z1 (@tS) (Z1 (@tU) (Z1 (@xM) (Z1 (@cK) (Z1 (@Am) (Z1 (@Ak) (Z1 (@Al) (Z1 (@An) (Z1 (@Ao) (Z1 (@Ar) (Z1 (@Ap) (Z1 (@Aq) (Z1 (@As) (Z1 (@Au) (Z1 (@Av) (Z1 (@Aw) (Z1 (@mJ) (Z1 (@rQ) (Z1 (@rO) (Z1 (@rP) (Z1 (@xz) (Z1 (@xq) (Z1 (@we) (Z1 (@nY) (@xy))))))))))))))))))))))))
def rp5:=Z1 (@yG) (Z1 (@BI) (Z1 (@CC) (Z1 (@CD) ((((((Z1 (@ya) (Z1 (@yb) (Z1 (@Do) (Z1 (@fU_i) (Z1 (@GS) (Z1 (@GQ) (Z1 (@GR) (Z1 (@ro) (Z1 (@zt) (Z1 (@Dh) (Z1 (@Df) (Z1 (@Dg) (Z1 (@xQ) (Z1 (@xP) (Z1 (@CZ) (@CY))))))))))))))))))))))))
def rp6:=Z1 (@DO) (Z1 (@DV) (Z1 (@DR) (Z1 (@DZ) (Z1 (@yj) (Z1 (@DU) (Z1 (@yh) (Z1 (@yi) (Z1 (@DS) (Z1 (@GV) (Z1 (@zM) (Z1 (@zK) (Z1 (@zL) (Z1 (@Af) (Z1 (@Ae) (Z1 (@gN_U) (Z1 (@gN_V) (Z1 (@gT_t) (Z1 (@tH) (Z1 (@xI) (Z1 (@kU) (Z1 (@BZ) (Z1 (@Ca) (Z1 (@Cd) (@BT))))))))))))))))))))))))
def rp7:=Z1 (@Di) (Z1 (@P7) (Z1 (@xV) (Z1 (@xW) (Z1 (@fJ) (Z1 (@xS) (Z1 (@xT) (@xU)))))))
def rp8:=Z1 (@oW_n) (Z1 (@oW_s) (Z1 (@DT) (Z1 (@fv) (Z1 (@DQ) (Z1 (@DY) (Z1 (@Cm) (Z1 (@rC) (Z1 (@HK) (@appO)))))))))
def rp9:=Z1 (@iP) (Z1 (@DP) (Z1 (@DX) (Z1 (@HJ) (Z1 (@EH) (Z1 (@DG) (Z1 (@Ea) (Z1 (@Eb) (Z1 (@Ad) (Z1 (@Dp) (Z1 (@Dt) (Z1 (@Ds) (Z1 (@Dv) (Z1 (@Dx) (Z1 (@Dr) (Z1 (@Du) (Z1 (@Dq) ((Z1 (@jk) (Z1 (@xR) (Z1 (@Dl) (Z1 (@Dm) (Z1 (@Dz) (Z1 (@xw) (Z1 (@DB) (Z1 (@xt) (@wn))))))))))))))))))))))))))
def rp10:=Z1 (@xL) (Z1 (@xJ) (Z1 (@CN) (Z1 (@CO) (Z1 (@CP) (Z1 (@CQ) (Z1 (@xK) (Z1 (@tR) (@tL))))))))
def rp11:=Z1 (@Da) (Z1 (@Dj) (Z1 (@Ct) (Z1 (@Cr) (Z1 (@Cq) (Z1 (@Cp) (Z1 (@Cs) (@Cu)))))))
def rp12:=Z1 (@zT) (Z1 (@HS) (Z1 (@yZ) (Z1 (@pf) (Z1 (@wW) (Z1 (@wY) (@wX))))))
def rp13:=Z1 (@xX) (Z1 (@xY) (@Ag))
end TP
set_option maxHeartbeats 4000000
open PySem L2 TP
namespace K91
def E4:JW:=
 (c6 (V4 (bI eX (aC (mC (.int 3)) (aC (bA fLen (aC (a6 .B 0) aN)) (aC (mC (.int 2)) aN)))) (gN .U 1)
   (mIf (d9 (b2 (j6 false) (b2 fIx (a6 .B 0) (a6 .B 1)) (mC (.str "puts")))) (E1 .F 1) sNx))
  (i3 (mC .non)))
abbrev g7:List W->R W:=i5 1 2 E4
def R3:JW:=
 (i3 (cZ (b2 (fI0 gGt) (bA fLenS (aC (a6 .B 0) aN)) (mC (.int 0))) (bA (jl jf) (aC (J9 3 (bSs (a6 .B 0)) (gN .U 2) yes (b2 (fSS uw tQ) (a6 .B 2) (a6 .B 1))) aN))))
abbrev r6:List W->R W:=i5 2 2 R3
def o9:JW:=
 (c6 (mIf (aW (T4 (d9 (bA (calm r6) (aC (a6 .B 0) (aC (mC (.str "abcdefghijklmnopqrstuvwxyz")) aN))))) (d9 (b2 (fI0 gGt) (bA fLenS (aC (a6 .B 0) aN)) (mC (.int 8))))) (A8 "NoText" (aC (mC (.str "a name has other signs than small letters, none or too many")) aN)) sNx)
  (mIf (cf false 1 (a6 .B 0)) (A8 "NoText" (aC (mC (.str "two places or two moves have one name")) aN)) sNx))
abbrev l5:List W->R W:=i5 2 2 o9
def K3:JW:=
 (c6 (mIf (aW (d9 (b2 (fI0 gGt) (bA fLenS (aC (a6 .B 0) aN)) (bA fLenS (aC (bA fStr (aC (mC (.int 1000000000)) aN)) aN)))) (T4 (d9 (bA r6 (aC (a6 .B 0) (aC (mC (.str "0123456789")) aN)))))) (i3 (mC .non)) sNx)
  (c6 (sF 1 (bA fIntS (aC (a6 .B 0) aN)))
  (i3 (vIf (dE (d9 (b2 (j6 false) (bA fStr (aC (a6 .B 1) aN)) (a6 .B 0))) (d9 (b2 (fI0 gLe) (a6 .B 1) (mC (.int 1000000000))))) (a6 .F 1) (mC .non)))))
abbrev K5:List W->R W:=i5 1 2 K3
def M6:JW:=
 (c6 (sF 2 (bA (calm K5) (aC (a6 .B 0) aN)))
  (c6 (mIf (aW (d9 (b2 (mP false) (a6 .B 2) (mC .non))) (d9 (b2 (fI0 gLt) (a6 .B 2) (a6 .B 1)))) (A8 "NoText" (aC (mC (.str "a number is no count as it must be written")) aN)) sNx)
  (E1 .F 2)))
abbrev t9:List W->R W:=i5 2 3 M6
def K8:JW:=
 (c6 (mIf (d9 (b2 (j6 false) (b2 (fI o7 r0) (bA fLen (aC (a6 .B 0) aN)) (mC (.int 2))) (mC (.int 1)))) (A8 "NoText" (aC (mC (.str "a number stands without its place")) aN)) sNx)
  (c6 (Y3 2)
  (c6 (V4 (bI af (aC (gW false (a6 .B 0) pN (pS (mC (.int 2)))) (aC (gW false (a6 .B 0) (pS (mC (.int 1))) (pS (mC (.int 2)))) aN))) (gT 2 (cm (gN .U 3) (cm (gN .U 4) gsNil)))
   (c6 (mIf (aW (cf true 1 (a6 .B 4)) (cf false 2 (a6 .B 4))) (A8 "NoText" (aC (mC (.str "a place is unknown, or told twice")) aN)) sNx)
   (dX 2 (a6 .B 4) (bA t9 (aC (a6 .B 3) (aC (mC (.int 1)) aN))))))
  (i3 (bA (jj true) (aC (J9 6 (fE 1) (gN .U 5) yes (cL 2 (a6 .B 5) (mC (.int 0)))) aN))))))
abbrev i9:List W->R W:=i5 2 5 K8
def y6:JW:=
 (c6 (nb (sF 3 (bA (calm g7) (aC (a6 .B 0) aN))))
  (c6 (nb (mIf (aW (d9 (b2 (fEq true) (vSl false (a6 .B 0) (pS (mC (.int 2))) (pS (mC (.int 3)))) (k9 (aC (mC (.str "takes")) aN)))) (d9 (b2 (mP false) (a6 .B 3) (mC .non)))) (A8 "NoText" (aC (mC (.str "a move doesn't tell what it takes and what it puts")) aN)) sNx))
  (c6 (nb (gF (bA l5 (aC (b2 fIx (a6 .B 0) (mC (.int 1))) (aC (a6 .B 2) aN)))))
  (aZ 2 (b2 fIx (a6 .B 0) (mC (.int 1))) (cY (aC (bA i9 (aC (vSl false (a6 .B 0) (pS (mC (.int 3))) (pS (a6 .B 3))) (aC (a6 .B 1) aN))) (aC (bA i9 (aC (vSl false (a6 .B 0) (pS (b2 (fI0 J1) (a6 .B 3) (mC (.int 1)))) pN) (aC (a6 .B 1) aN))) aN)))))))
abbrev i1:List W->R W:=i5 3 4 y6
def F8:JW:=
 (c6 (nb (mIf (d9 (b2 (j6 true) (bA fLen (aC (a6 .B 0) aN)) (mC (.int 3)))) (A8 "NoText" (aC (mC (.str "a place has too few or too many words")) aN)) sNx))
  (c6 (nb (gF (bA l5 (aC (b2 fIx (a6 .B 0) (mC (.int 1))) (aC (a6 .B 1) aN)))))
  (aZ 1 (b2 fIx (a6 .B 0) (mC (.int 1))) (bA t9 (aC (b2 fIx (a6 .B 0) (mC (.int 2))) (aC (mC (.int 0)) aN))))))
abbrev n4:List W->R W:=i5 2 2 F8
def aJ:JW:=
 (c6 (mIf (T4 (d9 (bA fIsi (aC (a6 .B 0) (aC (mC (.ty "str")) aN))))) (A8 "NoText" (aC (mC (.str "this is no text")) aN)) sNx)
  (c6 (Y3 1)
  (c6 (Y3 2)
  (c6 (V4 (bS (dn (a6 .B 0) (mC (.str "; ")))) (gN .U 3)
   (c6 (sF 4 (dn (a6 .B 3) (mC (.str " "))))
   (mIf (d9 (b2 (j6 false) (b2 fIx (a6 .B 4) (mC (.int 0))) (mC (.str "move")))) (W2 1 2 i1 (a6 .B 4)) (mIf (dE (d9 (b2 (j6 false) (b2 fIx (a6 .B 4) (mC (.int 0))) (mC (.str "place")))) (d9 (b2 (j6 false) (W4 2) (mC (.int 0))))) (W3 1 n4 (a6 .B 4)) (A8 "NoText" (aC (mC (.str "a part tells no place, and no move behind the places")) aN))))))
  (c6 (mIf (aW (T4 (d9 (dB (fI0 gLe) (fI0 gLe) (mC (.int 1)) (W4 1) (mC (.int 6))))) (d9 (b2 (fI0 gGt) (W4 2) (mC (.int 8))))) (A8 "NoText" (aC (mC (.str "there are too few or too many places, or too many moves")) aN)) sNx)
  (c6 (sF 5 (cY (aC (Y1 1) (aC (Y1 2) aN))))
  (i3 (cY (aC (a6 .V 5) (aC (Y2 1) (aC (Y2 2) aN)))))))))))
abbrev u8:List W->R W:=i5 1 6 aJ
def O3:JW:=
 (c6 (mIf (d9 (b2 (fI0 gLt) (a6 .B 1) (bA fLen (aC (a6 .B 0) aN)))) (i3 (bB (b2 fIx (a6 .B 0) (a6 .B 1)))) sNx)
  (c6 (sV 2 (b2 (fI0 J1) (b2 (fI CMulB E9) (mC (.int 90001)) (a6 .B 1)) (mC (.int 31))))
  (c6 (mIf (d9 (b2 (fI0 gGt) (bA fLen (aC (a6 .B 0) aN)) (mC (.int 0)))) (sV 2 (b2 (fI0 J1) (b2 (fI0 J1) (b2 (fI CMulB E9) (b2 fIx (a6 .B 0) (b2 (fI o7 r0) (b2 (fI CMulB E9) (a6 .B 1) (mC (.int 31))) (bA fLen (aC (a6 .B 0) aN)))) (mC (.int 40014))) (b2 (fI CMulB E9) (b2 (fI CMulB E9) (a6 .B 1) (a6 .B 1)) (mC (.int 2003)))) (mC (.int 17)))) sNx)
  (i3 (b2 (fI o7 r0) (b2 (fI CMulB E9) (a6 .B 2) (a6 .B 2)) (mC (.int 2147483629)))))))
abbrev j9:List W->R W:=i5 2 3 O3
def S4:JW:=
 (c6 (sV 2 (mC (.str "")))
  (c6 (V4 (bI bM (aC (a6 .B 1) aN)) (gN .U 3)
   (c6 (sV 2 (b2 (fSS C9 C8) (a6 .B 2) (b2 fIxS (mC (.str "zyxwvutsrqponmlkjihgfedcba")) (b2 (fI o7 r0) (a6 .B 0) (mC (.int 26))))))
   (sV 0 (b2 (fI A6 F0) (a6 .B 0) (mC (.int 26))))))
  (E1 .F 2)))
abbrev u9:List W->R W:=i5 2 4 S4
def Y0:JW:=
 (c6 (sV 2 (b2 (fI0 J1) (mC (.int 1)) (b2 (fI o7 r0) (a6 .B 0) (mC (.int 8)))))
  (c6 (sF 3 (bA u9 (aC (b2 (fI o7 r0) (b2 (fI A6 F0) (a6 .B 0) (mC (.int 8))) (b2 (fI bC je) (mC (.int 10)) (mC (.int 12)))) (aC (a6 .B 2) aN))))
  (c6 (sV 4 (b2 (fI o7 r0) (b2 (fI A6 F0) (a6 .B 0) (mC (.int 80))) (a6 .B 2)))
  (c6 (sF 5 (k9 aN))
  (c6 (V4 (bI bM (aC (a6 .B 1) aN)) (gN .U 6)
   (dq 5 (b2 (fSS C9 C8) (b2 (fSS C9 C8) (V3 (a6 .B 3) pN (pS (a6 .B 4))) (bA u9 (aC (b2 (fI0 J1) (b2 (fI A6 F0) (a6 .B 0) (mC (.int 640))) (b2 (fI CMulB E9) (mC (.int 3)) (a6 .B 6))) (aC (mC (.int 1)) aN)))) (V3 (a6 .B 3) (pS (b2 (fI0 J1) (a6 .B 4) (mC (.int 1)))) pN))))
  (E1 .F 5))))))
abbrev C4:List W->R W:=i5 2 7 Y0
def F9:JW:=
 (c6 (mIf (d9 (b2 (j6 false) (b2 (fI o7 r0) (a6 .B 0) (mC (.int 3))) (mC (.int 1)))) (i3 (bA fStr (aC (b2 (fI0 gSub) (b2 (fI bC je) (mC (.int 10)) (mC (.int 9))) (b2 (fI o7 r0) (b2 (fI A6 F0) (a6 .B 0) (mC (.int 3))) (mC (.int 2)))) aN))) sNx)
  (i3 (bA fStr (aC (b2 (fI0 J1) (mC (.int 1)) (b2 (fI o7 r0) (b2 (fI A6 F0) (a6 .B 0) (mC (.int 3))) (b2 fIx (k9 (aC (mC (.int 9)) (aC (mC (.int 99)) (aC (mC (.int 999999937)) aN)))) (b2 (fI o7 r0) (b2 (fI A6 F0) (a6 .B 0) (mC (.int 12))) (mC (.int 3)))))) aN))))
abbrev C5:List W->R W:=i5 1 1 F9
def X9:JW:=
 (c6 (sF 3 (k9 aN))
  (c6 (V4 (bI bM (aC (bA fLen (aC (a6 .B 1) aN)) aN)) (gN .U 4)
   (dq 3 (k9 (aC (mC (.str "place")) (aC (bB (b2 fIx (a6 .B 1) (a6 .B 4))) (aC (bA C5 (aC (bA j9 (aC (a6 .B 0) (aC (b2 (fI0 J1) (mC (.int 12)) (a6 .B 4)) aN))) aN)) aN))))))
  (c6 (V4 (bI bM (aC (bA fLen (aC (a6 .B 2) aN)) aN)) (gN .U 5)
   (c6 (sF 6 (k9 (aC (mC (.str "move")) (aC (bB (b2 fIx (a6 .B 2) (a6 .B 5))) (aC (mC (.str "takes")) aN)))))
   (c6 (V4 (bI bM (aC (b2 (fI0 J1) (mC (.int 1)) (b2 (fI o7 r0) (bA j9 (aC (a6 .B 0) (aC (b2 (fI0 J1) (mC (.int 20)) (a6 .B 5)) aN))) (bA fLen (aC (a6 .B 1) aN)))) aN)) (gN .U 4)
    (sF 6 (b2 (u7 true) (a6 .C 6) (k9 (aC (bA C5 (aC (bA j9 (aC (a6 .B 0) (aC (b2 (fI0 J1) (b2 (fI0 J1) (mC (.int 27)) (b2 (fI CMulB E9) (mC (.int 5)) (a6 .B 5))) (a6 .B 4)) aN))) aN)) (aC (bB (b2 fIx (a6 .B 1) (a6 .B 4))) aN))))))
   (c6 (sF 6 (b2 (u7 true) (a6 .C 6) (k9 (aC (mC (.str "puts")) (aC (bA C5 (aC (b2 (fI A6 F0) (bA j9 (aC (a6 .B 0) (aC (b2 (fI0 J1) (mC (.int 20)) (a6 .B 5)) aN))) (mC (.int 7))) aN)) (aC (bB (b2 fIx (a6 .B 1) (b1 (fU E8) (mC (.int 1))))) aN))))))
   (ij 6 (dq 3 (a6 .V 6)))))))
  (E1 .V 3))))
abbrev J3:List W->R W:=i5 3 7 X9
def al:JW:=
 (i3 (b2 (u7 true) (b2 (u7 true) (vSl true (a6 .C 0) pN (pS (a6 .B 1))) (k9 (aC (a6 .V 2) aN))) (vSl true (a6 .C 0) (pS (b2 (fI0 J1) (a6 .B 1) (mC (.int 1)))) pN)))
abbrev d4:List W->R W:=M2 3 3 al
def S5:JW:=
 (c6 (sF 1 (k9 (aC (mC (.str "")) (aC (mC (.str "00")) (aC (mC (.str "01")) (aC (mC (.str "1000000001")) (aC (mC (.str "99999999999")) (aC (mC (.str "+1")) (aC (mC (.str "-1")) (aC (mC (.str "1_0")) (aC (mC (.str "1.0")) (aC (mC (.str "a")) (aC (mC (.str "1e3")) (aC (mC (.str "0x1")) (aC (mC (.str "1\t")) (aC (mC (.str "\n1")) aN))))))))))))))))
  (i3 (bB (b2 fIx (a6 .C 1) (a6 .C 0)))))
abbrev y0:List W->R W:=i5 1 2 S5
def S2:JW:=
 (c6 (sF 3 (k9 aN))
  (c6 (V4 (bS (a6 .U 0)) (gN .U 4)
   (iU 3 5 4 1 2))
  (E1 .F 3)))
abbrev r9:List W->R W:=i5 3 6 S2
def d6:JW:=
 (c6 (sV 4 (b2 fIx (a6 .C 0) (a6 .C 3)))
  (c6 (mIf (d9 (b2 (fI0 gLt) (a6 .B 2) (mC (.int 14)))) (i3 (bA d4 (aC (a6 .V 0) (aC (a6 .V 3) (aC (k9 (aC (b2 fIx (a6 .C 4) (mC (.int 0))) (aC (b2 fIx (a6 .C 4) (mC (.int 1))) (aC (bA y0 (aC (a6 .B 2) aN)) aN)))) aN))))) sNx)
  (c6 (mIf (d9 (b2 (j6 false) (a6 .B 2) (mC (.int 14)))) (i3 (bA d4 (aC (a6 .V 0) (aC (a6 .V 3) (aC (k9 (aC (b2 fIx (a6 .C 4) (mC (.int 0))) (aC (b2 fIx (a6 .C 4) (mC (.int 1))) aN))) aN))))) sNx)
  (c6 (mIf (d9 (b2 (j6 false) (a6 .B 2) (mC (.int 15)))) (i3 (bA d4 (aC (a6 .V 0) (aC (a6 .V 3) (aC (b2 (u7 true) (a6 .C 4) (k9 (aC (mC (.str "1")) aN))) aN))))) sNx)
  (c6 (mIf (d9 (b2 (j6 false) (a6 .B 2) (mC (.int 16)))) (i3 (bA d4 (aC (a6 .V 0) (aC (a6 .V 3) (aC (k9 (aC (b2 fIx (a6 .C 4) (mC (.int 0))) (aC (fC (b2 fIx (a6 .B 4) (mC (.int 1)))) (aC (b2 fIx (a6 .C 4) (mC (.int 2))) aN)))) aN))))) sNx)
  (c6 (mIf (d9 (b2 (j6 false) (a6 .B 2) (mC (.int 17)))) (i3 (bA d4 (aC (a6 .V 0) (aC (a6 .V 3) (aC (k9 (aC (b2 fIx (a6 .C 4) (mC (.int 0))) (aC (mC (.str "abcdefghi")) (aC (b2 fIx (a6 .C 4) (mC (.int 2))) aN)))) aN))))) sNx)
  (c6 (mIf (d9 (b2 (j6 false) (a6 .B 2) (mC (.int 18)))) (i3 (b2 (u7 true) (b2 (u7 true) (vSl true (a6 .C 0) pN (pS (a6 .B 1))) (k9 (aC (k9 (aC (b2 fIx (a6 .C 4) (mC (.int 0))) (aC (b2 fIx (a6 .C 4) (mC (.int 1))) (aC (mC (.str "3")) aN)))) aN))) (vSl true (a6 .C 0) (pS (a6 .B 1)) pN))) sNx)
  (c6 (mIf (d9 (b2 (j6 false) (a6 .B 2) (mC (.int 19)))) (i3 (b2 (u7 true) (a6 .C 0) (k9 (aC (k9 (aC (mC (.str "place")) (aC (b2 fMulS (mC (.str "b")) (b2 (fI0 gSub) (mC (.int 9)) (bA fLenS (aC (b2 fIx (a6 .B 4) (mC (.int 1))) aN)))) (aC (b2 fIx (a6 .C 4) (mC (.int 2))) aN)))) aN)))) sNx)
  (c6 (mIf (d9 (b2 (j6 false) (a6 .B 2) (mC (.int 20)))) (i3 (bA d4 (aC (a6 .V 0) (aC (a6 .V 3) (aC (k9 (aC (mC (.str "places")) (aC (b2 fIx (a6 .C 4) (mC (.int 1))) (aC (b2 fIx (a6 .C 4) (mC (.int 2))) aN)))) aN))))) sNx)
  (c6 (mIf (d9 (b2 (j6 false) (a6 .B 2) (mC (.int 21)))) (c6 (sF 5 (J9 7 (bSs (V3 (mC (.str "bcdefg")) pN (pS (b2 (fI0 gSub) (mC (.int 7)) (a6 .B 1))))) (gN .U 6) yes (k9 (aC (mC (.str "place")) (aC (b2 fMulS (a6 .B 6) (b2 (fI0 gSub) (mC (.int 9)) (bA fLenS (aC (b2 fIx (a6 .B 4) (mC (.int 1))) aN)))) (aC (mC (.str "1")) aN))))))
   (i3 (b2 (u7 true) (b2 (u7 true) (vSl true (a6 .C 0) pN (pS (a6 .B 1))) (a6 .C 5)) (vSl true (a6 .C 0) (pS (a6 .B 1)) pN)))) sNx)
  (c6 (mIf (d9 (b2 (j6 false) (a6 .B 2) (mC (.int 22)))) (i3 (bA r9 (aC (a6 .B 0) (aC (b2 fIx (a6 .B 4) (mC (.int 1))) (aC (b2 (fSS C9 C8) (V3 (b2 fIx (a6 .B 4) (mC (.int 1))) pN (pS (mC (.int 7)))) (mC (.str "1"))) aN))))) sNx)
  (c6 (mIf (d9 (b2 (j6 false) (a6 .B 2) (mC (.int 23)))) (i3 (bA r9 (aC (a6 .B 0) (aC (b2 fIx (a6 .B 4) (mC (.int 1))) (aC (b2 (fSS C9 C8) (b2 (fSS C9 C8) (V3 (b2 fIx (a6 .B 4) (mC (.int 1))) pN (pS (mC (.int 3)))) (mC (.str "_"))) (V3 (b2 fIx (a6 .B 4) (mC (.int 1))) (pS (mC (.int 3))) (pS (mC (.int 7))))) aN))))) sNx)
  (c6 (mIf (d9 (b2 (j6 false) (a6 .B 2) (mC (.int 24)))) (i3 (bA r9 (aC (a6 .B 0) (aC (b2 fIx (a6 .B 4) (mC (.int 1))) (aC (mC (.str "")) aN))))) sNx)
  (i3 (vSl true (a6 .C 0) (pS (a6 .B 1)) pN)))))))))))))))
abbrev v5:List W->R W:=M2 4 6 d6
def K4:JW:=
 (c6 (sV 3 (b2 fIx (a6 .C 0) (a6 .C 2)))
  (c6 (sF 4 (k9 (aC (mC (.str "")) (aC (mC (.str "abcdefghi")) (aC (fC (b2 fIx (a6 .B 3) (mC (.int 1)))) (aC (b2 (fSS C9 C8) (b2 (fSS C9 C8) (V3 (b2 fIx (a6 .B 3) (mC (.int 1))) pN (pS (mC (.int 3)))) (mC (.str "_"))) (V3 (b2 fIx (a6 .B 3) (mC (.int 1))) (pS (mC (.int 3))) (pS (mC (.int 7))))) (aC (b2 (fSS C9 C8) (V3 (b2 fIx (a6 .B 3) (mC (.int 1))) pN (pS (mC (.int 7)))) (mC (.str "2"))) aN)))))))
  (ij 4 (i3 (bA d4 (aC (a6 .V 0) (aC (a6 .V 2) (aC (b2 (u7 true) (k9 (aC (mC (.str "move")) (aC (b2 fIx (a6 .C 4) (a6 .C 1)) aN))) (vSl true (a6 .C 3) (pS (mC (.int 2))) pN)) aN))))))))
abbrev w6:List W->R W:=M2 3 5 K4
def d5:JW:=
 (c6 (sV 3 (b2 fIx (a6 .C 0) (a6 .C 2)))
  (c6 (mIf (d9 (b2 (fI0 gGt) (a6 .B 1) (mC (.int 26)))) (i3 (bA w6 (aC (a6 .V 0) (aC (b2 (fI0 gSub) (a6 .B 1) (mC (.int 27))) (aC (a6 .V 2) aN))))) sNx)
  (c6 (mIf (d9 (b2 (fI0 gLt) (a6 .B 1) (mC (.int 14)))) (i3 (bA d4 (aC (a6 .V 0) (aC (a6 .V 2) (aC (b2 (u7 true) (b2 (u7 true) (vSl true (a6 .C 3) pN (pS (mC (.int 3)))) (k9 (aC (bA y0 (aC (a6 .B 1) aN)) aN))) (vSl true (a6 .C 3) (pS (mC (.int 4))) pN)) aN))))) sNx)
  (c6 (mIf (d9 (b2 (j6 false) (a6 .B 1) (mC (.int 14)))) (i3 (bA d4 (aC (a6 .V 0) (aC (a6 .V 2) (aC (b2 (u7 true) (vSl true (a6 .C 3) pN (pS (b1 (fU E8) (mC (.int 2))))) (k9 (aC (mC (.str "0")) (aC (b2 fIx (a6 .C 3) (b1 (fU E8) (mC (.int 1)))) aN)))) aN))))) sNx)
  (c6 (mIf (d9 (b2 (j6 false) (a6 .B 1) (mC (.int 15)))) (i3 (bA d4 (aC (a6 .V 0) (aC (a6 .V 2) (aC (b2 (u7 true) (a6 .C 3) (k9 (aC (mC (.str "1")) (aC (b2 fIx (a6 .C 3) (b1 (fU E8) (mC (.int 1)))) aN)))) aN))))) sNx)
  (c6 (mIf (d9 (b2 (j6 false) (a6 .B 1) (mC (.int 16)))) (i3 (bA d4 (aC (a6 .V 0) (aC (a6 .V 2) (aC (vSl true (a6 .C 3) pN (pS (b1 (fU E8) (mC (.int 1))))) aN))))) sNx)
  (c6 (mIf (d9 (b2 (j6 false) (a6 .B 1) (mC (.int 17)))) (i3 (bA d4 (aC (a6 .V 0) (aC (a6 .V 2) (aC (vSl true (a6 .C 3) pN (pS (b1 (fU E8) (mC (.int 3))))) aN))))) sNx)
  (c6 (mIf (d9 (b2 (j6 false) (a6 .B 1) (mC (.int 18)))) (i3 (bA d4 (aC (a6 .V 0) (aC (a6 .V 2) (aC (b2 (u7 true) (vSl true (a6 .C 3) pN (pS (mC (.int 2)))) (vSl true (a6 .C 3) (pS (mC (.int 3))) pN)) aN))))) sNx)
  (c6 (mIf (d9 (b2 (j6 false) (a6 .B 1) (mC (.int 19)))) (i3 (b2 (u7 true) (a6 .C 0) (k9 (aC (a6 .V 3) aN)))) sNx)
  (c6 (mIf (d9 (b2 (j6 false) (a6 .B 1) (mC (.int 20)))) (i3 (bA d4 (aC (a6 .V 0) (aC (a6 .V 2) (aC (b2 (u7 true) (vSl true (a6 .C 3) pN (pS (b1 (fU E8) (mC (.int 1))))) (k9 (aC (b2 (fSS C9 C8) (b2 fIx (a6 .B 3) (b1 (fU E8) (mC (.int 1)))) (mC (.str "Q"))) aN))) aN))))) sNx)
  (c6 (mIf (d9 (b2 (j6 false) (a6 .B 1) (mC (.int 21)))) (i3 (bA d4 (aC (a6 .V 0) (aC (a6 .V 2) (aC (b2 (u7 true) (vSl true (a6 .C 3) pN (pS (b1 (fU E8) (mC (.int 1))))) (k9 (aC (b2 fMulS (mC (.str "b")) (b2 (fI0 gSub) (mC (.int 9)) (bA fLenS (aC (b2 fIx (a6 .B 3) (b1 (fU E8) (mC (.int 1)))) aN)))) aN))) aN))))) sNx)
  (c6 (mIf (d9 (b2 (j6 false) (a6 .B 1) (mC (.int 22)))) (i3 (bA d4 (aC (a6 .V 0) (aC (a6 .V 2) (aC (b2 (u7 true) (b2 (u7 true) (vSl true (a6 .C 3) pN (pS (mC (.int 4)))) (k9 (aC (b2 fMulS (mC (.str "b")) (b2 (fI0 gSub) (mC (.int 9)) (bA fLenS (aC (b2 fIx (a6 .B 3) (mC (.int 4))) aN)))) aN))) (vSl true (a6 .C 3) (pS (mC (.int 5))) pN)) aN))))) sNx)
  (c6 (mIf (d9 (b2 (j6 false) (a6 .B 1) (mC (.int 23)))) (c6 (sF 4 (J9 6 (bSs (mC (.str "bcdefghi"))) (gN .U 5) yes (b2 (u7 true) (k9 (aC (mC (.str "move")) (aC (b2 fMulS (a6 .B 5) (b2 (fI0 gSub) (mC (.int 9)) (bA fLenS (aC (b2 fIx (a6 .B 3) (mC (.int 1))) aN)))) aN))) (vSl true (a6 .C 3) (pS (mC (.int 2))) pN))))
   (i3 (b2 (u7 true) (a6 .C 0) (a6 .C 4)))) sNx)
  (c6 (mIf (d9 (b2 (j6 false) (a6 .B 1) (mC (.int 24)))) (i3 (bA d4 (aC (a6 .V 0) (aC (a6 .V 2) (aC (b2 (u7 true) (vSl true (a6 .C 3) pN (pS (mC (.int 1)))) (vSl true (a6 .C 3) (pS (mC (.int 2))) pN)) aN))))) sNx)
  (c6 (mIf (d9 (b2 (j6 false) (a6 .B 1) (mC (.int 25)))) (i3 (bA d4 (aC (a6 .V 0) (aC (a6 .V 2) (aC (b2 (u7 true) (b2 (u7 true) (vSl true (a6 .C 3) pN (pS (mC (.int 3)))) (k9 (aC (mC (.str "0")) aN))) (vSl true (a6 .C 3) (pS (mC (.int 4))) pN)) aN))))) sNx)
  (i3 (bA d4 (aC (a6 .V 0) (aC (a6 .V 2) (aC (b2 (u7 true) (b2 (u7 true) (vSl true (a6 .C 3) pN (pS (mC (.int 3)))) (k9 (aC (mC (.str "1")) (aC (b2 fIx (a6 .C 3) (mC (.int 4))) aN)))) (vSl true (a6 .C 3) (pS (mC (.int 3))) pN)) aN))))))))))))))))))))
abbrev m5:List W->R W:=M2 3 5 d5
def K9:JW:=
 (c6 (sF 3 (bA j9 (aC (a6 .B 2) (aC (mC (.int 2)) aN))))
  (c6 (sV 4 (b2 (fI o7 r0) (a6 .B 3) (mC (.int 68))))
  (c6 (mIf (d9 (b2 (fI0 gLt) (a6 .B 4) (mC (.int 26)))) (ij 3 (i3 (P3 (mC (.str "; ")) (J9 9 (bS (bA v5 (aC (a6 .V 0) (aC (a6 .V 1) (aC (a6 .V 4) (aC (b2 (fI o7 r0) (b2 (fI A6 F0) (a6 .B 3) (mC (.int 68))) (a6 .B 1)) aN)))))) (gN .U 8) yes (P3 (mC (.str " ")) (a6 .B 8)))))) sNx)
  (c6 (mIf (d9 (b2 (fI0 gLt) (a6 .B 4) (mC (.int 58)))) (c6 (sV 5 (b2 (fI0 J1) (a6 .B 1) (b2 (fI o7 r0) (b2 (fI A6 F0) (a6 .B 3) (mC (.int 68))) (b2 (fI0 gSub) (bA fLen (aC (a6 .B 0) aN)) (a6 .B 1)))))
   (i3 (P3 (mC (.str "; ")) (J9 9 (bS (bA m5 (aC (a6 .V 0) (aC (b2 (fI0 gSub) (a6 .B 4) (mC (.int 26))) (aC (a6 .V 5) aN))))) (gN .U 8) yes (P3 (mC (.str " ")) (a6 .B 8)))))) sNx)
  (c6 (sF 6 (P3 (mC (.str "; ")) (J9 9 (bS (a6 .B 0)) (gN .U 8) yes (P3 (mC (.str " ")) (a6 .B 8)))))
  (c6 (sF 7 (k9 (aC (b2 (fSS C9 C8) (a6 .B 6) (mC (.str ";"))) (aC (b2 (fSS C9 C8) (a6 .B 6) (mC (.str "; "))) (aC (b2 (fSS C9 C8) (mC (.str " ")) (a6 .B 6)) (aC (b2 (fSS C9 C8) (a6 .B 6) (mC (.str " "))) (aC (fD 6 "; " ";") (aC (fD 6 " takes" "  takes") aN))))))))
  (c6 (sF 7 (b2 (u7 true) (a6 .C 7) (k9 (aC (mC (.str "")) (aC (fD 6 "move" "Move") (aC (b2 (fSS C9 C8) (a6 .B 6) (mC (.str "\n"))) (aC (P3 (mC (.str "; ")) (b2 (mO true) (k9 (aC (a6 .V 6) aN)) (mC (.int 2)))) aN)))))))
  (i3 (b2 fIx (a6 .C 7) (b2 (fI0 gSub) (a6 .B 4) (mC (.int 58))))))))))))
abbrev L0:List W->R W:=M2 3 8 K9
def S3:JW:=
 (c6 (sV 1 (mC (.bl false)))
  (c6 (sV 2 (mC (.bl true)))
  (c6 (cD "NoText" 3 u8 (aC (a6 .B 0) aN) (c6 (sV 1 (cZ (bA (R4 "NoText" (.cls "MoorError") true) (aC (a6 .B 3) (aC (mC (.cls "MoorError")) aN))) (bA (R4 "NoText" (.ty "ValueError") true) (aC (a6 .B 3) (aC (mC (.ty "ValueError")) aN)))))
   (sF 2 (bA (eB "NoText" ["NoMoor","NoName","NoRow","Stuck"]) (aC (a6 .B 3) (aC (cY (aC (mC (.cls "NoMoor")) (aC (mC (.cls "NoName")) (aC (mC (.cls "NoRow")) (aC (mC (.cls "Stuck")) aN))))) aN))))))
  (i3 (cZ (a6 .B 1) (qW (a6 .B 2)))))))
abbrev C0:List W->R W:=i5 1 4 S3
def E7:JW:=
 (c6 (sV 1 (mC (.bl false)))
  (c6 (cD "NoText" 2 u8 (aC (a6 .B 0) aN) (sF 1 (bA (R4 "NoText" (.cls "NoText") true) (aC (a6 .B 2) (aC (mC (.cls "NoText")) aN)))))
  (E1 .F 1)))
abbrev u5:List W->R W:=i5 1 3 E7
def X8:JW:=
 (c6 (sV 4 (bA (calm u8) (aC (a6 .B 0) aN)))
  (i3 (cZ (b2 (fEq false) (b2 fIx (b2 fIx (a6 .B 4) (mC (.int 0))) (mC (.int 0))) (a6 .B 3)) (cZ (b2 (fEq false) (b2 fIx (a6 .B 4) (mC (.int 1))) (a6 .B 1)) (b2 (fEq false) (b2 fIx (a6 .B 4) (mC (.int 2))) (a6 .B 2))))))
abbrev J2:List W->R W:=i5 4 5 X8
def mI:JW:=
 (c6 (sV 1 (b2 (fI0 J1) (mC (.int 1)) (b2 (fI o7 r0) (bA j9 (aC (a6 .B 0) (aC (mC (.int 0)) aN))) (mC (.int 5)))))
  (c6 (sF 2 (bA C4 (aC (bA j9 (aC (a6 .B 0) (aC (mC (.int 3)) aN))) (aC (a6 .B 1) aN))))
  (c6 (sF 3 (bA C4 (aC (bA j9 (aC (a6 .B 0) (aC (mC (.int 4)) aN))) (aC (b2 (fI0 J1) (mC (.int 1)) (b2 (fI o7 r0) (bA j9 (aC (a6 .B 0) (aC (mC (.int 1)) aN))) (mC (.int 7)))) aN))))
  (c6 (sV 4 (bA J3 (aC (a6 .B 0) (aC (a6 .B 2) (aC (a6 .B 3) aN)))))
  (c6 (sF 5 (bA (jj true) (aC (J9 10 (bS (vSl true (a6 .C 4) pN (pS (a6 .B 1)))) (gN .U 9) yes (bA fIntS (aC (b2 fIx (a6 .B 9) (mC (.int 2))) aN))) aN)))
  (c6 (sF 6 (P3 (mC (.str "; ")) (J9 10 (bS (a6 .B 4)) (gN .U 9) yes (P3 (mC (.str " ")) (a6 .B 9)))))
  (c6 (mIf (T4 (d9 (bA J2 (aC (a6 .B 6) (aC (a6 .B 2) (aC (a6 .B 3) (aC (a6 .B 5) aN))))))) (i3 (mC (.bl false))) sNx)
  (c6 (sF 7 (bAS L0 (aC (a6 .B 4) (aC (a6 .B 1) (aC (a6 .B 0) aN)))))
  (c6 (mIf (aW (T4 (d9 (bA C0 (aC (a6 .B 7) aN)))) (T4 (d9 (bA u5 (aC (a6 .B 7) aN))))) (i3 (mC (.bl false))) sNx)
  (c6 (V4 (bS (k9 (aC (mC .non) (aC (mC (.int 7)) (aC (k9 (aC (a6 .V 6) aN)) (aC (mC (.bl true)) aN)))))) (gN .U 8)
   (mIf (T4 (d9 (bA C0 (aC (a6 .B 8) aN)))) (i3 (mC (.bl false))) sNx))
  (i3 (bA J2 (aC (a6 .B 6) (aC (a6 .B 2) (aC (a6 .B 3) (aC (a6 .B 5) aN))))))))))))))))
abbrev eA:List W->R W:=i5 1 9 mI
end K91
set_option maxHeartbeats 4000000
open PySem L2 TP
namespace K91
def rp14:=Z1 (@Ck) (Z1 (@Cj) (Z1 (@Ci) (Z1 (@Ch) (Z1 (@BS) (Z1 (@Ce) (Z1 (@Cb) (Z1 (@Cc) (Z1 (@BX) (Z1 (@BY) (Z1 (@Cf) (Z1 (@Cg) (Z1 (@BU) (@BV)))))))))))))
def rp15:=Z1 (@qX5) (Z1 (@Bool.not_false) (Z1 (@Bool.true_or) (Z1 (@qT0) (Z1 (@Bool.false_or) (Z1 (@qL4) (Z1 (@qX3) (Z1 (@Bool.and_true) (Z1 (@qL0) (Z1 (@qW1) (Z1 (@Int.sub_zero) (Z1 (@Int.zero_add) (Z1 (@qF1) (Z1 (@qE6) (Z1 (@Bool.true_eq_false) (Z1 (@and_true) (Z1 (@true_and) (Z1 (@or_true) (Z1 (@true_or) (@and_self)))))))))))))))))))
def rp18:=Z1 (@qA3.{0}) (Z1 (@qI4.{0}) (Z1 (@qA0.{0,0}) (Z1 (@qA1.{0}) (Z1 (@qD3.{0}) (@qG0)))))
def rp16:=Z1 rp14 (Z1 rp15 (Z1 rp13 (Z1 rp12 (Z1 rp11 (Z1 rp10 (Z1 rp9 (Z1 rp8 (Z1 rp0 (Z1 rp1 (Z1 rp2 (Z1 rp3 (Z1 rp4 (Z1 rp5 (Z1 rp6 rp7))))))))))))))
def rp17:=Z1 (@qB2.{0,0}) (Z1 (@qG1.{0,0}) (Z1 (@qF5.{0}) (Z1 (@List.replicate_zero.{0}) (Z1 (@qG6.{0}) (Z1 (@qH8.{0}) (Z1 (@qD1.{0}) (Z1 (@R.ok_bind) (Z1 (@R.stuck_bind) (@R.ex_bind)))))))))
def rp19:=Z1 (@qM2.{0}) (Z1 (@Option.isNone_none.{0}) (Z1 (@Option.isNone_some.{0}) (Z1 (@Option.bind_some.{0,0}) (Z1 (@qL8.{1}) (Z1 (@qM0.{1}) (Z1 (@decide_true) (@decide_false)))))))
abbrev cl (x:Str):List Nat:=x.cps.toList
abbrev num (c:Int):Str:=Str.ofString (toString c)
def d7 (x y:Str):cl (x++y)=cl x++cl y:=by change (x++y).cps.toList=_;rw[Str.cps_append,Array.toList_append]
def j5 (x:Str):(cl x).length=x.length:=qJ3
def O4 (h:cl x=cl y):x=y:=Str.ext' (Array.toList_inj.mp h)
def g6 (y p q:Str)(r:Jk):Str.join y (p::q::r)=p++y++Str.join y (q::r):=rfl
def Tg (y:Str):Str->List Str->Prop
 |p,[]=>∀k,¬ cl y <+: (cl p).drop k
 |p,q::r=>(∀k,k<p.length->¬ cl y <+: (cl (Str.join y (p::q::r))).drop k)/\Tg y q r
def qL (h:StrLaws.At x y x.length k):cl y <+: (cl x).drop k:=by
 have h2:=h.2;rw[StrLaws.subAt_eq]at h2;have h3:=eq_of_beq h2;rw[show cl y=_ from h3.symm];show List.take_prefix _ _
def iF (b3:1<=y.length):∀(ps:Jk) (p:Str) (a:Nat) (I:JZ) (f:Nat),Tg y p ps->(cl x).drop a=cl (Str.join y (p::ps))->a<=x.length->StrLaws.ChainG x y x.length a I f->(∀k,f<=k->¬ StrLaws.At x y x.length k)->StrLaws.partsFrom x y.length a I=p::ps
 | [],p,a,I,f,hq,hx,ha,hc,hn=>by
  have O:(cl x).drop a=cl p:=hx;have no:∀k,a<=k->¬ StrLaws.At x y x.length k:=λk hk hA=>by
   have e:=qL hA;rw[show (cl x).drop k=((cl x).drop a).drop (k-a) by rw[qK3,qP8 hk],O]at e;show hq _ e
  cases I with
  | nil=>
   change [Builtin.Str.strSub x a x.length] = [p];congr 1;apply O4
   change (Builtin.Str.strSub x a x.length).cps.toList=_;rw[StrLaws.strSub_toList,show x.cps.toList=cl x from rfl,O];refine qE1 ?_;rw[<- O,qC9,j5];show qB8 _
  |cons d I=>show absurd hc.2.1 (no d hc.1)
 | q::ps,p,a,I,f,hq,hx,ha,hc,hn=>by
  have a4:=hx;rw[g6,d7,d7,qB6]at hx;have hl:(cl x).length=x.length:=j5 x;have a3:(cl y).length=y.length:=j5 y;have b4:x.length-a=(cl p).length+(y.length+(cl (Str.join y (q::ps))).length):=by
   have:=congrArg List.length hx
   rw[qC9,qA1,qA1,hl,a3]at this;show this
  have b0:(cl p).length=p.length:=j5 p;have hd:(cl x).drop (a+p.length)=cl y++cl (Str.join y (q::ps)):=by
   rw[<- qK3,hx,<- b0,qW3]
  have hA:StrLaws.At x y x.length (a+p.length):=by
   refine ⟨Qo,?_⟩;rw[StrLaws.subAt_eq,show x.cps.toList=cl x from rfl,hd,<- a3,qW4];show qM2 _
  have no:∀k,a<=k->k<a+p.length->¬ StrLaws.At x y x.length k:=λk hk b5 hB=>by
   have e:=qL hB;rw[show (cl x).drop k=((cl x).drop a).drop (k-a) by rw[qK3,qP8 hk],a4]at e;show hq.1 _ Qo e
  cases I with
  | nil=>
   have e:f=a:=hc;show absurd hA (hn _ Qo)
  | cons d I=>
   have ae:d=a+p.length:=by
    by_cases h1:d<a+p.length
    .show absurd hc.2.1 (no d hc.1 h1)
    .by_cases h2:a+p.length<d
     .show absurd hA (hc.2.2.1 _ Qo h2)
     .omega
   subst ae
   change Builtin.Str.strSub x a (a+p.length)::StrLaws.partsFrom x y.length (a+p.length+y.length) I=p::q::ps;rw[iF b3 ps q (a+p.length+y.length) I f hq.2 (by rw[<- qK3,hd,<- a3,qW3]) Qo hc.2.2.2 hn];congr 1;apply O4
   change (Builtin.Str.strSub x a (a+p.length)).cps.toList=_;rw[StrLaws.strSub_toList,show x.cps.toList=cl x from rfl,hx,show a+p.length-a=(cl p).length by omega,qW4]
def jg (O:1<=y.length) (hq:Tg y p ps):(Builtin.Str.occurrences (Str.join y (p::ps)) y 0 (Str.join y (p::ps)).length ((Str.join y (p::ps)).length+1) = []/\p::ps = [Str.join y (p::ps)])\/(Builtin.Str.occurrences (Str.join y (p::ps)) y 0 (Str.join y (p::ps)).length ((Str.join y (p::ps)).length+1)).isEmpty=false/\¬ (Str.join y (p::ps)).length<y.length/\Builtin.Str.partsBetween (Str.join y (p::ps)) (Builtin.Str.occurrences (Str.join y (p::ps)) y 0 (Str.join y (p::ps)).length ((Str.join y (p::ps)).length+1)) y.length=p::ps:=by
 generalize hx:Str.join y (p::ps)=x
 obtain ⟨f,hG,hn⟩:=StrLaws.occ_tight x y O;have I:=iF O ps p 0 _ f hq (by rw[qL2,hx]) (qD7 _) hG hn;cases e:Builtin.Str.occurrences x y 0 x.length (x.length+1) with
 | nil=>
  rw[e]at I;refine .inl ⟨rfl,?_⟩;rw[<- I]
  change [Builtin.Str.strSub x 0 x.length] = [x];rw[StrLaws.sub_whole]
 | cons d l=>
  rw[e]at I hG
  have:=hG.2.1.1
  show .inr ⟨rfl,Qo,by rw[StrLaws.partsBetween_eq,I]⟩
def dh (I:1<=y.length) (O:Builtin.Str.strKind y=1) (hq:Tg y p ps):Txt.split (Str.join y (p::ps)) y=p::ps:=by
 have k0:∀x,¬ Builtin.Str.strKind x<Builtin.Str.strKind y:=λx=>by
  rw[O];unfold Builtin.Str.strKind
  split
  .omega
  .split <;> omega
 unfold Txt.split;rcases jg I hq with ⟨e,h⟩|⟨e,h1,h⟩
 .rw [e]
  by_cases h1:(Str.join y (p::ps)).length<y.length
  .rw[qL6 h1,Bool.true_or,qA9 rfl,<- h]
  .rw [qL1 h1,qL1 (k0 _),qL4,qB4 Qy]
   show h.symm
 .rw[qL1 h1,qL1 (k0 _),qL4,qB4 Qy,e,qB4 Qy,h]
def dI (I:1<=y.length) (O:Tg y p ps):Txt.replace (Str.join y (p::ps)) y z=Str.join z (p::ps):=by
 unfold Txt.replace;rcases jg I O with ⟨e,h⟩|⟨e,h1,h⟩
 .rw [e]
  change Str.join y (p::ps)=Str.join z (p::ps)
  have:ps = []:=by injection h
  subst this;rfl
 .have e2:(y.length == 0)=false:=qM7.mpr Qo;rw[e,e2,qL0,qL4,qB4 Qy,h,StrLaws.glued_eq_join]
def ka (I:cl y=c::r) (O:c∉cl p):Tg y p []:=λk h=>by
 rw[I]at h;obtain ⟨s,e⟩:=h;show O (qF2 (i:=k) (by rw[<- e];show qA2 ..))
def eR (hy:cl y=c::s) (hp:c∉cl p) (h:Tg y q r):Tg y p (q::r):=by
 refine ⟨λk O I=>?_,h⟩;rw[hy]at I;obtain ⟨u,e⟩:=I;have e0:((cl (Str.join y (p::q::r))).drop k)[0]?=some c:=by rw[<- e];rfl
 rw[qJ9,Nat.add_zero,g6,d7,d7,qB6,qD2 (by rw[j5];show O)]at e0;show hp (qB5 e0)
def eO (I:cl y=c::s):∀(ps:Jk) (p:Str),(∀q∈p::ps,c∉cl q)->Tg y p ps
 | [],p,h=>ka I (h p (qA2 ..))
 |q::ps,p,h=>eR I (h p (qA2 ..)) (eO I ps q λz hz=>h z (qA4 _ hz))
def Q3 (I:cl y=c::r) (O:Builtin.Str.strKind y=1) (p:Str) (ps:Jk) (hq:∀q∈p::ps,c∉cl q):Txt.split (Str.join y (p::ps)) y=p::ps:=
 dh (by rw[<- j5,I];show qS5 (qD7 _)) O (eO I ps p hq)
def cJ (h0:0<=c)(h:c<10^10):(num c).length<=10:=PySem.W.KT.len_num h0 h
def R1 (h0:0<=c):∀x∈cl (num c),48<=x/\x<=57:=by
 intro x O;obtain ⟨m,rfl⟩:=qT7 h0;rw[show cl (num ((m:Nat):Int))=_ from PySem.W.KIN.signs_num m]at O;obtain ⟨ch,I,e⟩:=qA6.mp O;rw[<- e];show PyProof.Rows.digit_range (Nat.isDigit_of_mem_toDigits Qy Qy I)
def wV (h0:0<=c):1<=(num c).length:=by
 obtain ⟨m,rfl⟩:=qT7 h0;rw[<- j5,show cl (num ((m:Nat):Int))=_ from PySem.W.KIN.signs_num m,qA0];show PySem.toDigits_len_ge 10 m
def num_reads (h0:0<=c)(h:c<10^10):PySem.intText? (num c)=some c:=PySem.W.KIN.num_reads h0 h
abbrev lS (ts:Jk):W:=.lst (ts.map W.str)
def EQ (x:R W)(l u:R Jv):R W:=x>>=λx=>l>>=λl=>u>>=λu=>slS x l u
def EO (c:Bool)(x:R W)(l k:R Jv):R W:=x>>=λx=>l>>=λl=>k>>=λk=>st2 c x l k
def Rin (neg:Bool)(o:Option Sl)(r:R W):R Bool:=r>>=inS neg o
def Rln:Option (List Str×List W)->R W
 |some kw=>if kw.1.length<=1000 then .ok (.int kw.1.length) else .stuck
 |none=>.stuck
def Rgt (o:Option Sl) (a b:R W):R W:=match o with
 |some (.dos kw)=>a>>=λw=>b>>=λv=>tJ kw w v
 |_=>.stuck
def Rks:Option Sl->R W
 |some (.dos kw)=>.ok (.lst (kw.1.map W.str))
 |_=>.stuck
def Rvs:Option Sl->R W
 |some (.dos kw)=>.ok (.tup kw.2)
 |_=>.stuck
def Rdi:Option Sl->R JJ
 |some (.par (.dst true _ ks _))=>.ok (ks.map W.str)
 |_=>.stuck
def Rpp (o:Option Sl) (a b:R W):R Fl:=match o with
 |some (.par (.dst false a' _ _))=>b>>=λv=>a>>=λw=>sm a' v w
 |_=>.stuck
def vS (m:JV)(l u:Rho->R Jv)(ρ:Rho):V3 m l u ρ=EQ (m ρ) (l ρ) (u ρ):=rfl
def yR (x:W)(l u:Jv):EQ (.ok x) (.ok l) (.ok u)=slS x l u:=rfl
def vR (c:Bool)(m:JV)(l u:Rho->R Jv)(ρ:Rho):gW c m l u ρ=EO c (m ρ) (l ρ) (u ρ):=rfl
def yM (c:Bool)(x:W)(l u:Jv):EO c (.ok x) (.ok l) (.ok u)=st2 c x l u:=rfl
def xp (m e:JV)(ρ:Rho):dn m e ρ=ni (m ρ) (e ρ):=rfl
def yN (a:Str)(y:W):ni (.ok (.str a)) (.ok y)=F1 a y:=rfl
def xu (m e:JV)(ρ:Rho):P3 m e ρ=jD (m ρ) (e ρ):=rfl
def yV (a:Str)(y:W):jD (.ok (.str a)) (.ok y)=ck a y:=rfl
def BJ (ms:List JV)(ρ:Rho):mFp ms ρ=fpR (ms.map λm=>m ρ) Str.empty:=rfl
def EE (m:JV)(ρ:Rho):bSs m ρ=(m ρ>>=bG):=rfl
def xv (neg:Bool)(i:Nat)(m:JV)(ρ:Rho):cf neg i m ρ=Rin neg (ρ[i]?) (m ρ):=rfl
def HR (neg:Bool)(kw:List Str×List W)(x:Str):Rin neg (some (.dos kw)) (.ok (.str x))=.ok (if neg then !decide (x∈kw.1) else decide (x∈kw.1)):=rfl
def HQ (neg:Bool)(z:Bool)(a:Addr)(ks:Jk)(ws:JJ)(x:Str):Rin neg (some (.par (.dst z a ks ws))) (.ok (.str x))=.ok (if neg then !decide (x∈ks) else decide (x∈ks)):=rfl
def uc (i:Nat)(ρ:Rho):W4 i ρ=Rln (dSl (ρ[i]?)):=by unfold W4 Rln;rfl
def GZ (kw:List Str×List W):dSl (some (.dos kw))=some kw:=rfl
def eM (kw:List Str×List W)(h:kw.1.length<=1000):Rln (some kw)=.ok (.int kw.1.length):=qA9 h
def tm (i:Nat)(a b:JV)(ρ:Rho):cL i a b ρ=Rgt (ρ[i]?) (a ρ) (b ρ):=by unfold cL Rgt;rfl
def EY (kw:List Str×List W)(x:Str)(v:W):Rgt (some (.dos kw)) (.ok (.str x)) (.ok v)=.ok ((dAt kw.1 kw.2 x).getD v):=rfl
def pD (i:Nat)(ρ:Rho):Y2 i ρ=Rks (ρ[i]?):=by unfold Y2 Rks;rfl
def EW (kw:List Str×List W):Rks (some (.dos kw))=.ok (.lst (kw.1.map W.str)):=rfl
def pC (i:Nat)(ρ:Rho):Y1 i ρ=Rvs (ρ[i]?):=by unfold Y1 Rvs;rfl
def EL (kw:List Str×List W):Rvs (some (.dos kw))=.ok (.tup kw.2):=rfl
def xx (i:Nat)(ρ:Rho):fE i ρ=Rdi (ρ[i]?):=by unfold fE Rdi;rfl
def Fb (a:Addr)(ks:Jk)(ws:JJ):Rdi (some (.par (.dst true a ks ws)))=.ok (ks.map W.str):=rfl
def pE (i:Nat)(ρ:Rho):Y3 i ρ=if i<ρ.length then .ok (.nx (ρ.set i (.dos ([],[])))) else .stuck:=rfl
def sZ (i:Nat)(a b:JV)(ρ:Rho):dX i a b ρ=cr (ρ[i]?) (b ρ) (a ρ) i ρ:=rfl
def jp (kw:List Str×List W)(v w:W)(i:Nat)(ρ:Rho):cr (some (.dos kw)) (.ok v) (.ok w) i ρ=lX kw i w v ρ:=rfl
def kH {kw:List Str×List W}(h1:L5 ρ=true)(h2:k∉kw.1)(h3:kw.1.length<1000):lX kw i (.str k) v ρ=.ok (.nx (ρ.set i (.dos (kw.1 ++ [k],kw.2 ++ [v])))):=qA9 ⟨h1,h2,h3⟩
def rJ (j:Nat)(a b:JV)(ρ:Rho):aZ j a b ρ=Rpp (ρ[j]?) (a ρ) (b ρ):=by unfold aZ Rpp;rfl
def ET (a:Addr)(ks:Jk)(ws:JJ)(k:Str)(v:W):Rpp (some (.par (.dst false a ks ws))) (.ok (.str k)) (.ok v)=.ok (.rt (.dst false a [k] [v])):=rfl
def Ge (m:JW)(ρ:Rho):nb m ρ=nbR (m ρ):=rfl
def BB (ρ:Rho):nbR (.ok (.nx ρ))=.ok (.nx ρ):=rfl
def tX {x:Str}(h:x.length<=100000):fLenS [.str x]=.ok (.int x.length):=qA9 h
def Db (x y:Str):fSS uw tQ (.str x) (.str y)=.ok (.bl (!(Builtin.Str.occurrences y x 0 y.length 1).isEmpty)):=rfl
def xO {x y:Str}(h:x.length+y.length<=100000):fSS C9 C8 (.str x) (.str y)=.ok (.str (x++y)):=qA9 (qL6 h)
def fJ (n:Bool) (x y:Str):j6 n (.str x) (.str y)=.ok (.bl (if n then !decide (x=y) else decide (x=y))):=by
 have e:decide (V.str x=V.str y)=decide (x=y):=by
  by_cases h:x=y
  .subst h;simp
  .rw[qL1 h,qL1 (λz=>h (by cases z;rfl))]
 change R.ok (W.bl (if n then !decide (V.str x=V.str y) else decide (V.str x=V.str y)))=_;rw[e]
def xN {i:Int}(h:i.natAbs.log2<1920):fStr [.int i]=.ok (.str (num i)):=qA9 h
def BW:t7 "str" "str" = some true:=Qy
def Fj (x:Str):tyW (.str x)=some "str" := rfl
def a20 (a b:W):L2.atI [a,b] 0=some a:=rfl
def a21 (a b:W):L2.atI [a,b] 1=some b:=rfl
def a30 (a b c:W):L2.atI [a,b,c] 0=some a:=rfl
def a31 (a b c:W):L2.atI [a,b,c] 1=some b:=rfl
def a32 (a b c:W):L2.atI [a,b,c] 2=some c:=rfl
def rps3:=Z1 (@a20) (Z1 (@a21) (Z1 (@a30) (Z1 (@a31) (@a32))))
def rps1:=Z1 (@vS) (Z1 (@yR) (Z1 (@vR) (Z1 (@yM) (Z1 (@xp) (Z1 (@yN) (Z1 (@xu) (Z1 (@yV) (Z1 (@BJ) (Z1 (@EE) (Z1 (@xv) (Z1 (@HR) (Z1 (@HQ) (Z1 (@uc) (Z1 (@GZ) (Z1 (@eM) (Z1 (@tm) (@EY)))))))))))))))))
def rps2:=Z1 (@pD) (Z1 (@EW) (Z1 (@pC) (Z1 (@EL) (Z1 (@xx) (Z1 (@Fb) (Z1 (@pE) (Z1 (@sZ) (Z1 (@jp) (Z1 (@rJ) (Z1 (@ET) (Z1 (@Ge) (Z1 (@BB) (Z1 (@tX) (Z1 (@Db) (Z1 (@xO) (Z1 (@fJ) (Z1 (@xN) (Z1 (@BW) (Z1 (@Fj) (@fS))))))))))))))))))))
def vF (ns:JQ)(l u:Jv):Rst (.ok (.tup (ns.map W.int))) (.ok l) (.ok u)=.ok (.tup (k7 (ns.map W.int) l u)):=EN (P7 ns) l u
def yd (e:XW):S8 (.ex e)=.ex e:=rfl
def mY (e:XW)(n:JW):andThen (.ex e) n=.ex e:=rfl
def qO (c:Str):R JJ->R Fl:=λr=>r>>=λws=>match ws with
 | [.int i]=>.ex ⟨c,some i⟩
 |_=>.stuck
def oa (c:Str)(I:JK)(ρ:Rho):zO c I ρ=qO c (I ρ):=rfl
def qN (c:Str) (i:Int):qO c (.ok [.int i])=.ex ⟨c,some i⟩:=rfl
def unS (j:Nat):R Fl->R Fl:=λr=>r>>=CU j
def zo (j:Nat)(ρ:Rho):unS j (.ok (.nx ρ))=.ok (.nx (ρ.set j .un)):=rfl
def jB (i:Nat) (c:Str) (j:Nat) (mb:JW) (ρ:Rho):R W->R Fl
 | .ok w=>.ok (.nx (ρ.set i (L7 w)))
 | .ex e=>am c j mb e ρ
 | .stuck=>.stuck
def Rtr (i:Nat)(c:Str)(j:Nat)(f:List W->R W)(mb:JW)(ρ:Rho):R JJ->R Fl:=λr=>r>>=λws=>jB i c j mb ρ (f ws)
def wf (i:Nat) (c:Str) (j:Nat) (f:List W->R W) (ma:JK) (mb:JW) (ρ:Rho):zN i c j f ma mb ρ=Rtr i c j f mb ρ (ma ρ):=by
 unfold zN Rtr;cases ma ρ with
 |stuck=>rfl
 |ex e=>rfl
 |ok ws=>change (match f ws with | .ok w=>_ | .ex e=>_ | .stuck=>_)=jB i c j mb ρ (f ws);cases f ws <;> rfl
def EM (i:Nat)(c:Str)(j:Nat)(f:List W->R W)(mb:JW)(ρ:Rho)(ws:JJ):Rtr i c j f mb ρ (.ok ws)=jB i c j mb ρ (f ws):=rfl
def yJ (i:Nat)(c:Str)(j:Nat)(mb:JW)(ρ:Rho)(w:W):jB i c j mb ρ (.ok w)=.ok (.nx (ρ.set i (L7 w))):=rfl
def yK (i:Nat) (c:Str) (j:Nat) (mb:JW) (ρ:Rho) (v:Jv):jB i c j mb ρ (.ex ⟨c,v⟩)=unS j (mb (ρ.set j (.val (.exc c v)))):=by
 change am c j mb ⟨c,v⟩ ρ=_;unfold am;rw[qA9 rfl];rfl
def eK (c:Str) (j:Nat) (mb:JW) (ρ:Rho):R W->R Fl
 | .ok _=>.ok (.nx ρ)
 | .ex e=>am c j mb e ρ
 | .stuck=>.stuck
def uD (c:Str)(j:Nat)(f:List W->R W)(mb:JW)(ρ:Rho):R JJ->R Fl:=λr=>r>>=λws=>eK c j mb ρ (f ws)
def rG (c:Str) (j:Nat) (f:List W->R W) (ma:JK) (mb:JW) (ρ:Rho):cD c j f ma mb ρ=uD c j f mb ρ (ma ρ):=by
 unfold cD uD;cases ma ρ with
 |stuck=>rfl
 |ex e=>rfl
 |ok ws=>change (match f ws with | .ok w=>_ | .ex e=>_ | .stuck=>_)=eK c j mb ρ (f ws);cases f ws <;> rfl
def yL (c:Str)(j:Nat)(f:List W->R W)(mb:JW)(ρ:Rho)(ws:JJ):uD c j f mb ρ (.ok ws)=eK c j mb ρ (f ws):=rfl
def uB (c:Str)(j:Nat)(mb:JW)(ρ:Rho)(w:W):eK c j mb ρ (.ok w)=.ok (.nx ρ):=rfl
def uC (c:Str) (j:Nat) (mb:JW) (ρ:Rho) (v:Jv):eK c j mb ρ (.ex ⟨c,v⟩)=unS j (mb (ρ.set j (.val (.exc c v)))):=by
 change am c j mb ⟨c,v⟩ ρ=_;unfold am;rw[qA9 rfl];rfl
def GU (c:Str) (i:Int):fAt c (.exc c (some i))=.ok (.int i):=by
 change (if c=c then _ else _)=_;rw[qA9 rfl]
def CW (c n:Str) (b:Bool) (v:Jv):R4 c (.cls n) b [.exc c v,.cls n]=.ok (.bl b):=by
 change (if c=c/\n=n then _ else _)=_;rw[qA9 ⟨rfl,rfl⟩]
def CV (c:Str) (n:String) (b:Bool) (v:Jv):R4 c (.ty n) b [.exc c v,.ty n]=.ok (.bl b):=by
 change (if c=c/\n=n then _ else _)=_;rw[qA9 ⟨rfl,rfl⟩]
def EV (c:Str):R JJ->R W:=λr=>r>>=λws=>match ws with
 | [.int i]=>.ok (.exc c (some i))
 |_=>.stuck
def yD (c:Str)(I:JK)(ρ:Rho):bNew c I ρ=EV c (I ρ):=rfl
def yU (c:Str) (i:Int):EV c (.ok [.int i])=.ok (.exc c (some i)):=rfl
def Fi (e:XW)(b:R W)(f:W->W->R W):R2b (.ex e) b f=.ex e:=rfl
def yl (c:Str)(v:Jv):chk (.exc c v)=.ok (.exc c v):=rfl
def nT (c:Str)(v:Jv):L7 (.exc c v)=.val (.exc c v):=rfl
def xF (c:Str)(v:Jv):isN (.exc c v)=false:=rfl
def rpxc:=Z1 (@yd) (Z1 (@mY) (Z1 (@oa) (Z1 (@qN) (Z1 (@zo) (Z1 (@wf) (Z1 (@EM) (Z1 (@yJ) (Z1 (@yK) (Z1 (@rG) (Z1 (@yL) (Z1 (@uB) (Z1 (@uC) (Z1 (@GU) (Z1 (@CW) (Z1 (@CV) (Z1 (@yD) (Z1 (@yU) (Z1 (@yl) (Z1 (@nT) (Z1 (@Fi) (@xF)))))))))))))))))))))
def jh (I:Nat->Rho->Prop):∀(ws:JJ) (n k:Nat) (ρ:Rho),I k ρ->n<ws.length ->
  (∀(i:Nat) (w:W) (ρ:Rho),ws[i]?=some w->i<n->I (k+i) ρ->∃O,mg w ρ=some O/\Po (mb O) (I (k+i+1)) (λ_=>False)) ->
  (∀(w:W) (ρ:Rho),ws[n]?=some w->I (k+n) ρ->∃O,mg w ρ=some O/\mb O=.ex e)->C3 mg mb ws ρ=.ex e
 | [],n,k,ρ,h,hn,_,_=>absurd hn (qU3 _)
 | w::ws,0,k,ρ,h,hn,st,hx=>by
  obtain ⟨O,e1,e2⟩:=hx w ρ rfl h;unfold C3;rw[e1]
  change (mb O>>=_)=_;rw[e2];rfl
 | w::ws,n+1,k,ρ,h,hn,st,hx=>by
  obtain ⟨O,e1,p⟩:=st 0 w ρ rfl (Nat.succ_pos n) h;unfold C3;rw[e1]
  change (mb O>>=_)=_
  revert p
  cases mb O with
  |ex _=>show λp=>p.elim
  |stuck=>show λp=>p.elim
  | ok f=>cases f with
   |bk _=>show λp=>p.elim
   |ct _=>show λp=>p.elim
   |rt w=>show λp=>p.elim
   | nx a3=>
    intro p;show jh I ws n (k+1) a3 p (by simpa using hn) (λi w ρ hw hi hp=>by
     have:=st (i+1) w ρ (by simpa using hw) Qo (by rw[show k+(i+1)=k+1+i by omega];show hp)
     rw[show k+(i+1)+1=k+1+i+1 by omega]at this;show this) λw ρ hw hp=>hx w ρ (by simpa using hw) (by rw[show k+(n+1)=k+1+n by omega];show hp)
def ES (c:Str):R JJ->R Fl:=λr=>r>>=λws=>if ws.length<=1000 then .ex ⟨c,none⟩ else .stuck
def Rfs (y:Str):R W->R W:=λr=>r>>=λw=>match w with
 | .str x=>if x.length<=1000/\y.length<=1000 then .ok (.str (Str.empty++x++y)) else .stuck
 |_=>.stuck
def Fc (c:Str) (a b:R W):R W:=a>>=λw=>b>>=λ_=>match w with
 | .int _=>.ok (.exc c none)
 |_=>.stuck
def Fe (n:Nat)(mg:JY)(me:JV)(ρ:Rho):R JJ->R W:=λr=>r>>=λws=>iW n mg me ws ρ
def lJ (c:Str)(I:JK)(ρ:Rho):A8 c I ρ=ES c (I ρ):=rfl
def yT {c:Str}{ws:JJ}(h:ws.length<=1000):ES c (.ok ws)=.ex ⟨c,none⟩:=qA9 h
def EF (y:Str)(ma:JV)(ρ:Rho):bFs y ma ρ=Rfs y (ma ρ):=rfl
def yE (c:Str)(I mv:JV)(ρ:Rho):bDct c I mv ρ=Fc c (I ρ) (mv ρ):=rfl
def yY (c:Str) (i:Int)(w:W):Fc c (.ok (.int i)) (.ok w)=.ok (.exc c none):=rfl
def nE (n:Nat)(I:JK)(mg:JY)(me:JV)(ρ:Rho):zk n I mg me ρ=Fe n mg me ρ (I ρ):=rfl
def za (n:Nat)(mg:JY)(me:JV)(ρ:Rho)(ws:JJ):Fe n mg me ρ (.ok ws)=iW n mg me ws ρ:=rfl
def kl (h:ws.length=n):M2 n N m ws=S8 (m (ws.map Sl.val++List.replicate (N-n) Sl.un)):=by unfold M2;rw[qA9 h];rfl
def zW {N:Nat}{m:JW}(a b c:W):M2 3 N m [a,b,c]=S8 (m (Sl.val a::Sl.val b::Sl.val c::List.replicate (N-3) Sl.un)):=kl rfl
def zb (e:XW)(b:R JJ):gU (.ex e) b=.ex e:=rfl
def uF (w:W)(e:XW):gU (.ok w) (.ex e)=.ex e:=rfl
def yX (e:XW)(ρ:Rho):nj (.ex e) ρ=.ex e:=rfl
def ER (e:XW)(f:W->Sl)(i:Nat)(ρ:Rho):jC (.ex e) f i ρ=.ex e:=rfl
def rpk6:=Z1 (@lJ) (Z1 (@yT) (Z1 (@EF) (Z1 (@yE) (Z1 (@yY) (Z1 (@nE) (Z1 (@za) (Z1 (@zW) (Z1 (@zS) (Z1 (@pZ) (Z1 (@tW) (@Ff)))))))))))
def rpk5:=Z1 (@zb) (Z1 (@uF) (Z1 (@yX) (Z1 (@ER) (rpk6))))
def BC (e:XW):nbR (.ex e)=.ex e:=rfl
def EU (a:Addr)(ks:Jk)(ws:JJ)(r:R W)(e:XW):Rpp (some (.par (.dst false a ks ws))) r (.ex e)=.ex e:=rfl
def ue (kw:List Str×List W)(e:XW)(r:R W)(i:Nat)(ρ:Rho):cr (some (.dos kw)) (.ex e) r i ρ=.ex e:=rfl
def rps4:=Z1 (@BC) (Z1 (@EU) (@ue))
def rpZ:=Z1 rp19 (Z1 rp16 (Z1 rp17 (Z1 rp18 (Z1 @px (Z1 @pq (Z1 @pp (Z1 rps1 (Z1 rps2 (Z1 rps3 (Z1 rps4 (Z1 @jX (Z1 @vF (Z1 rpxc (Z1 rpk5 (@decide_eq_true_eq)))))))))))))))
def rpB:=Z1 (@Ab) (Z1 (@Aa) (Z1 (@zZ) (Z1 (@zY) (@zX))))
local macro_rules | `(tactic| exists $[$es],*)=>`(tactic| simp (disch:=first | with_reducible assumption | omega | (simp only [rp18]; omega)) only [List.getElem?_cons_zero,qT5,List.set_cons_succ,List.set_cons_zero,tyW,isN,simprocAttr,rpZ,$[$es:term],*])
def Nm (w:Str):Prop:=1<=w.length/\w.length<=8/\∀c∈cl w,97<=c/\c<=122
def Cn (c:Int):Prop:=0<=c/\c<=1000000000
def Sm (w:Str):Prop:=w.length<=1000/\∀c∈cl w,c<128
def aI (h:Sm w):r6 [.str w,.str s]=.ok (.bl (decide (1<=w.length)&&(cl w).all λc=>decide (c∈cl s))):=by
 have I:bG (.str w)=.ok ((cl w).map λc=>W.str ⟨#[c]⟩):=by
  refine qA9 ⟨?_,h.1⟩;rw[<- qT1,qG5];show λc hc=>qL6 (h.2 c hc)
 have hl:=h.1;by_cases h1:1<=w.length
 .have e:decide (0<(w.length:Int))=true:=qL6 Qo;exists rpB,R3,I,e;rw[P8 (λc=>W.bl (decide (c∈cl s))) (λc=>W.str ⟨#[c]⟩) (cl w) _ (by rw[j5];show hl) ?_]
  .have q:=jk jf ((cl w).map λc=>decide (c∈cl s));rw[qD5]at q;exists rp18;rw[show (List.map (λc=>W.bl (decide (c∈cl s))) (cl w))=(cl w).map (W.bl∘λc=>decide (c∈cl s)) from rfl,q];have O:jf ((cl w).map λc=>decide (c∈cl s))=(cl w).all λc=>decide (c∈cl s):=by
    unfold jf;rw[List.all_map];rfl
   rw[O,qL6 h1];exists rp18
  .intro c hc;refine ⟨_,rfl,?_⟩;exists rp18;rw[StrLaws.found_one]
 .have e:decide (0<(w.length:Int))=false:=qL1 Qo;exists rpB,R3,I,e,qL1 h1
def kN (h1:1<=w.length) (h2:w.length<=1000) (h3:∀c∈cl w,c<128/\c∈cl s):r6 [.str w,.str s]=.ok (.bl true):=by
 rw[aI ⟨h2,λc hc=>(h3 c hc).1⟩,qL6 h1,qG5.mpr λc hc=>qL6 (h3 c hc).2];rfl
def zQ:cl ("abcdefghijklmnopqrstuvwxyz" : Str)=(List.range 26).map (·+97):=Qx
def sFig:cl ("0123456789" : Str)=(List.range 10).map (·+48):=Qx
def sGr:(num 1000000000).length=10:=Qx
def kM (h:Nm w):r6 [.str w,.str "abcdefghijklmnopqrstuvwxyz"]=.ok (.bl true):=
 kN h.1 (by have:=h.2.1;omega) λc hc=>by
  have:=h.2.2 c hc
  refine ⟨Qo,?_⟩;rw[zQ];show qA6.mpr ⟨c-97,qH5.mpr Qo,Qo⟩
def sL (h:Cn c):r6 [.str (num c),.str "0123456789"]=.ok (.bl true):=
 kN (wV h.1) (qD9 (cJ h.1 (by have:=h.2;omega)) Qy) λx I=>by
  have:=R1 h.1 x I
  refine ⟨Qo,?_⟩;rw[sFig];show qA6.mpr ⟨x-48,qH5.mpr Qo,Qo⟩
def bZ (h:Nm w) (I:w∉ks):l5 [.str w,.dst z a ks ws]=.ok .non:=by
 have e:decide (8<(w.length:Int))=false:=qL1 (by have:=h.2.1;omega);have O:decide (w∈ks)=false:=qL1 I
 have:=h.2.1
 exists rpB,o9,w9 (kM h),e,O
def pI {c:Int}(h:c.natAbs<2^1000):c.natAbs.log2<1920:=by
 by_cases h0:c.natAbs=0
 .rw[h0];decide
 .show Nat.lt_trans ((Nat.log2_lt h0).mpr h) Qy
def jq (h:Cn c):K5 [.str (num c)]=.ok (.int c):=by
 have l1:=cJ h.1 (show c<10^10 by have:=h.2;omega);have lg:c.natAbs.log2<1920:=pI (qJ7 (show c.natAbs<=1000000000 by have:=h.1;have:=h.2;omega) Qx);have O:(1000000000:Int).natAbs.log2<1920:=Qx;have e:decide ((10:Int)<((num c).length:Int))=false:=qL1 Qo;have g:(num 1000000000).length<=100000:=by rw[sGr];decide
 have hi:fIntS [.str (num c)]=.ok (.int c):=by
  change (if (num c).length<=640 then _ else _)=_;rw[qA9 Qo,num_reads h.1 (show c<10^10 by have:=h.2;omega)]
 have I:decide (c<=1000000000)=true:=qL6 h.2;exists rpB,K3,sGr,e,sL h,hi,I
def bP (h:Cn c) (I:f<=c):t9 [.str (num c),.int f]=.ok (.int c):=by
 have e:decide (c<f)=false:=qL1 Qo;exists rpB,M6,w9 (jq h),e
def Bv (ts:Jk):u6 (ts.map W.str)=true:=S1 W.str (λ_=>rfl) ts
def O5 (c:Bool)(ts:Jk):chks c (ts.map W.str)=.ok (lS ts):=W9 (Bv ts)
def S9 {ts:Jk}(h0:0<=i) (h:ts[i.toNat]?=some x):L2.atI (ts.map W.str) i=some (.str x):=by
 have hl:=(qA5.mp h).1;unfold L2.atI;rw[W8 h0 (by rw[qA0];omega)]
 change (ts.map W.str)[i.toNat]?=_;rw[qC1,h];rfl
def fB {ts:Jk}{i:Nat}(h:(ts.map W.str)[i]?=some w):∃x,ts[i]?=some x/\w=.str x:=by
 rw[qC1]at h;obtain ⟨x,I,O⟩:=qF3.mp h;show ⟨x,I,O.symm⟩
def iA (hw:ws = [Str.ofString "place",n,num c]) (hn:Nm n) (I:n∉ks) (hc:Cn c):n4 [lS ws,.dst false p ks vs]=.ok (.dst false p [n] [.int c]):=by
 have O:L2.atI (ws.map W.str) 1=some (.str n):=by subst hw;rfl
 have e2:L2.atI (ws.map W.str) 2=some (.str (num c)):=by subst hw;rfl
 have hl:(ws.length:Int)=3:=by subst hw;rfl
 exists rpB,F8,hl,O,e2,bZ hn I,bP hc hc.1
abbrev Pr:=Int×Str
def fl:List Pr->List Str
 | []=>[]
 |p::r=>num p.1::p.2::fl r
def i7:∀l:List Pr,(fl l).length=2*l.length
 | []=>rfl
 |p::r=>by change (fl r).length+1+1=2*(r.length+1);rw[i7 r];omega
def fH:∀(l:List Pr) (i:Nat),(fl l)[2*i]?=l[i]?.map λp=>num p.1
 | [],i=>by simp [fl]
 |p::r,0=>rfl
 | p::r,i+1=>by
  rw[show 2*(i+1)=2*i+1+1 by omega]
  change (fl r)[2*i]?=r[i]?.map _;show fH r i
def ji:∀l:List Pr,h9 ((fl l).map W.str)=l.map λp=>W.str (num p.1)
 | []=>rfl
 | p::r=>by
  change W.str (num p.1)::h9 ((fl r).map W.str)=_;rw[ji r];rfl
def kT:∀l:List Pr,h9 (((fl l).map W.str).drop 1)=l.map λp=>W.str p.2
 | []=>rfl
 | [p]=>rfl
 | p::q::r=>by
  change h9 (W.str p.2::W.str (num q.1)::W.str q.2::(fl r).map W.str)=_
  change W.str p.2::h9 (((fl (q::r)).map W.str).drop 1)=_;rw[kT (q::r)];rfl
def lk:List Pr->Str->Int
 | [],_=>0
 |p::r,k=>if p.2=k then p.1 else lk r k
def qo (k:Str):∀l:List Pr,(dAt (l.map λp=>p.2) (l.map λp=>W.int p.1) k).getD (.int 0)=.int (lk l k)
 | []=>rfl
 | p::r=>by
  change (if p.2=k then some (W.int p.1) else dAt (r.map _) (r.map _) k).getD (.int 0)=.int (if p.2=k then p.1 else lk r k)
  split
  .rfl
  .show qo k r
def uO (c:Bool)(ws:JJ):st2 c (.lst ws) none (some 2)=chks c (h9 ws):=rfl
def uN (c:Bool)(ws:JJ):st2 c (.lst ws) (some 1) (some 2)=chks c (h9 (ws.drop 1)):=rfl
def Told (ks:Jk)(l:List Pr):Prop:=(∀p∈l,1<=p.1/\Cn p.1/\p.2∈ks)/\(l.map (·.2)).Nodup/\l.length<=100
def cu (h:Told ks l) (hk:ks.length<=1000) (hw:ws=fl l):i9 [lS ws,.dst true q ks vs]=.ok (tI (ks.map (lk l))):=by
 have a3:Ok (i9 [lS ws,.dst true q ks vs]) λv=>v=tI (ks.map (lk l)):=by
  have hl:(ws.length:Int)=2*(l.length:Int):=by rw[hw,i7];omega
  have hm:decide (2*(l.length:Int)%2=1)=false:=qL1 Qo;have z1:st2 false (lS ws) none (some 2)=.ok (.lst (l.map λp=>W.str (num p.1))):=by
   rw[uO,hw,ji];show W9 (S1 (λp:Pr=>W.str (num p.1)) (λ_=>rfl) l)
  have z2:st2 false (lS ws) (some 1) (some 2)=.ok (.lst (l.map λp=>W.str p.2)):=by
   rw[uN,hw,kT];show W9 (S1 (λp:Pr=>W.str p.2) (λ_=>rfl) l)
  have zz:af [.lst (l.map λp=>W.str (num p.1)),.lst (l.map λp=>W.str p.2)]=.ok (l.map λp=>W.tup [.str (num p.1),.str p.2]):=by
   rw[ny _ _ _ _ rfl rfl];congr 1
   change (List.zipWith (λx y=>[x,y]) (l.map _) (l.map _)).map W.tup=_;rw[List.zipWith_map,List.map_zipWith];clear h hw hl hm z1 z2
   induction l with
   |nil=>rfl
   |cons p r ih=>rw[List.zipWith_cons_cons,ih,qB2]
  exists rpB,K8,hl,hm,z1,z2,zz;refine R0 (F6 (λi ρ=>∃a b:Sl,ρ = [.par (lS ws),.par (.dst true q ks vs),.dos ((l.take i).map (λp=>p.2),(l.take i).map λp=>W.int p.1),a,b]/\L5 [a,b]=true) ⟨_,_,rfl,rfl⟩ ?_ ?_)
  .rintro i w ρ hu ⟨a,b,rfl,a4⟩;rw[qC1]at hu;obtain ⟨p,O,rfl⟩:=qF3.mp hu;have hi:=(qA5.mp O).1;have hm:=h.1 p (qB5 O);have d1:decide (p.2∈ks)=true:=qL6 hm.2.2;have nn:p.2∉(l.take i).map (λp=>p.2):=by
    intro hx;have I:=h.2.1;rw[<- qK4 i l,qB1]at I
    have:=(qO0.mp I).2.2 p.2 hx p.2 ?_
    .show this rfl
    .rw [qG4 hi,qB2]
     have:l[i]=p:=by
      have:=qA5.mp O
      show this.2
     rw[this];show qA2 ..
   have d2:decide (p.2∈(l.take i).map (λp=>p.2))=false:=qL1 nn;have rc:=bP hm.2.1 hm.1;have tk:l.take (i+1)=l.take i ++ [p]:=by rw[qL3,O];rfl
   refine ⟨_,rfl,?_⟩;exists d1,d2,rc;rw[kH rfl nn (by rw[qA0,qB9];have:=h.2.2;omega)];exists rp18;refine ⟨.par (.str (num p.1)),.par (.str p.2),?_,rfl⟩;rw[tk,qB1,qB1];rfl
  .rintro ρ ⟨a,b,rfl,_⟩;exists rp18;have tl:l.take l.length=l:=qG3;rw[P8 (λk=>W.int (lk l k)) W.str ks _ hk ?_]
   .exists rp18;rw[show ks.map (λk=>W.int (lk l k))=(ks.map (lk l)).map W.int by rw[qD5];rfl]
   .intro k hk;refine ⟨_,rfl,?_⟩;exists rp18;rw[tl,qo]
 obtain ⟨v,e,rfl⟩:=a3;show e
def mg (x n:Str)(A B:Jk):List Str:=x::n::Str.ofString "takes" :: (A++Str.ofString "puts" :: B)
def M5 (x n:Str) (A B:Jk):(mg x n A B).length=4+A.length+B.length:=by
 change ((A++Str.ofString "puts" :: B).length)+1+1+1=_;rw[qA1,qA3];omega
abbrev mw (n:Str)(T P:List Pr):List Str:=mg "move" n (fl T) (fl P)
def V1 (n:Str)(T P:List Pr):(mw n T P).length=4+2*T.length+2*P.length:=by rw[M5,i7,i7]
def bX (h:0<=c) (I:d∈cl x) (hd:57<d):num c≠x:=λe=>by
 rw[<- e]at I
 have:=R1 h d I
 omega
def eW (h:-1000000<=j/\j<=1000000):eX [.int 3,.int j,.int 2]=.ok ((List.range ((j-3+1)/2).toNat).map λk=>W.int (3+(k:Nat)*2)):=qA9 ⟨rfl,Qy,Qy,h.1,h.2⟩
def DI {ts:Jk}(I:b<=ts.length) (ha:a<=b):B5 ts (some (a:Int)) (some (b:Int))=(ts.drop a).take (b-a):=by
 unfold B5;rw[HT.sIx_nat,HT.sIx_nat,qH1 I,qH1 (show a<=ts.length by omega)]
def Hc {ts:Jk}(ha:a<=ts.length):B5 ts (some (a:Int)) none=ts.drop a:=by
 unfold B5;rw[HT.sIx_nat,HT.sIx_none,qH1 ha];show qE1 (by rw[qC9];show qB8 _)
def X7 (hw:ws=mg x n A B) (hA:A.length=2*t) (hl:ws.length<=900) (ht:∀i,i<t->A[2*i]?≠some (Str.ofString "puts")):g7 [lS ws]=.ok (.int (3+2*(t:Int))):=by
 have a4:Ok (g7 [lS ws]) λv=>v=.int (3+2*(t:Int)):=by
  have hn:=M5 x n A B;rw[<- hw,hA]at hn;have r3:=eW (j:=(ws.length:Int)) Qo;exists rpB,E4,r3;refine R0 (F6 (λi ρ=>i<=t/\∃a:Sl,ρ = [.par (lS ws),a]) ⟨qD7 _,_,rfl⟩ ?_ ?_)
  .rintro i w ρ hu ⟨hi,a,rfl⟩;rw[qC1]at hu;obtain ⟨k,hk,rfl⟩:=qF3.mp hu;have a3:k=i:=by
    have e:=(qA5.mp hk).2;rw[List.getElem_range]at e;show e.symm
   subst a3;refine ⟨_,rfl,?_⟩;by_cases I:k<t
   .have hb:2*k<A.length:=Qo;have O:ws[3+2*k]?=some A[2*k]:=by
     rw[hw,show 3+2*k=2*k+1+1+1 by omega]
     change (A++Str.ofString "puts" :: B)[2*k]?=_;rw[qD2 hb,qC3 hb]
    have ea:L2.atI (ws.map W.str) (3+(k:Int)*2)=some (.str A[2*k]):=S9 Qo (by rw[show (3+(k:Int)*2).toNat=3+2*k by omega];show O);have ne:decide (A[2*k]=Str.ofString "puts")=false:=qL1 (λz=>ht k I (by rw[qC3 hb,z]));exists ea,ne;show ⟨I,_,rfl⟩
   .have ae:k=t:=Qo;have O:ws[3+2*t]?=some (Str.ofString "puts"):=by
     rw[hw,show 3+2*t=2*t+1+1+1 by omega]
     change (A++Str.ofString "puts" :: B)[2*t]?=_;rw[qD8 Qo,hA,qP7];rfl
    have ea:L2.atI (ws.map W.str) (3+(k:Int)*2)=some (.str "puts"):=S9 Qo (by rw[show (3+(k:Int)*2).toNat=3+2*t by omega];show O);exists ea;rw[ae];congr 1;omega
  .rintro ρ ⟨hi,_⟩;rw[qA0,qG0]at hi;omega
 obtain ⟨v,e,rfl⟩:=a4;show e
def bu (h:∀p∈l,0<=p.1) (i:Nat):(fl l)[2*i]?≠some (Str.ofString "puts"):=by
 rw[fH];cases h2:l[i]? with
 |none=>intro z;cases z
 | some p=>
  intro z;show bX (h p (qB5 h2)) (x:=Str.ofString "puts") (d:=112) Qx Qy (by injection z)
def kG (hw:ws=mw n T P) (ht:∀p∈T,0<=p.1) (hl:T.length<=100) (I:P.length<=100):g7 [lS ws]=.ok (.int (3+2*(T.length:Int))):=
 X7 hw (i7 T) (by rw[hw,V1];omega) λi _=>bu ht i
def ce {A:Jk}(O:A.length=2*t):B5 (mg x n A B) (some 3) (some (3+2*(t:Int)))=A/\B5 (mg x n A B) (some (3+2*(t:Int)+1)) none=B:=by
 have I:(mg x n A B).drop 3=A++Str.ofString "puts" :: B:=rfl;have hl:=M5 x n A B;constructor
 .have:=DI (ts:=mg x n A B) (a:=3) (b:=3+2*t) Qo Qo
  rw[show B5 (mg x n A B) (some 3) (some (3+2*(t:Int)))=B5 (mg x n A B) (some ((3:Nat):Int)) (some ((3+2*t:Nat):Int)) by congr 2,this,I,show 3+2*t-3=A.length by omega,qW4]
 .have:=Hc (ts:=mg x n A B) (a:=4+2*t) Qo
  rw[show B5 (mg x n A B) (some (3+2*(t:Int)+1)) none=B5 (mg x n A B) (some ((4+2*t:Nat):Int)) none by congr 2;omega,this,show 4+2*t=3+(A.length+1) by omega,<- qK3,I,<- qK3,qW3];rfl
def mw_cut:B5 (mw n T P) (some 3) (some (3+2*(T.length:Int)))=fl T/\B5 (mw n T P) (some (3+2*(T.length:Int)+1)) none=fl P:=ce (i7 T)
def kj (h:∀c∈cl x,c<1114112):shp n (.str x)=true:=by
 have e:PyData.strOk x=true:=by
  unfold PyData.strOk;rw[<- qT1,qG5];show λc hc=>qL6 (h c hc)
 cases n <;> show e
def xc (hw:ws=mw n T P) (hn:Nm n) (hk:n∉ks2) (ht:Told ks T) (O:Told ks P) (I:ks.length<=1000):i1 [lS ws,.dst true q ks vs,.dst false p ks2 vs2]=.ok (.dst false p [n] [.tup [tI (ks.map (lk T)),tI (ks.map (lk P))]]):=by
 have hl:ws.length=4+2*T.length+2*P.length:=by rw[hw,V1]
 have e1:L2.atI (ws.map W.str) 1=some (.str n):=S9 Qy (by rw[hw];rfl);have c4:chks false [W.str "takes"]=.ok (.lst [.str "takes"]):=rfl;have h1:=kG hw (λp O=>(ht.1 p O).2.1.1) ht.2.2 O.2.2;have c1:k7 (ws.map W.str) (some 2) (some 3) = [.str "takes"]:=by
  rw[C6]
  have:=DI (ts:=ws) (a:=2) (b:=3) Qo Qo
  rw[show B5 ws (some 2) (some 3)=B5 ws (some ((2:Nat):Int)) (some ((3:Nat):Int)) from rfl,this,hw];rfl
 have c2:k7 (ws.map W.str) (some 3) (some (3+2*(T.length:Int)))=(fl T).map W.str:=by rw[C6,hw,mw_cut.1]
 have c3:k7 (ws.map W.str) (some (3+2*(T.length:Int)+1)) none=(fl P).map W.str:=by rw[C6,hw,mw_cut.2]
 have e4:fEq true (.lst [.str "takes"]) (.lst [.str "takes"])=.ok (.bl false):=bv Qx;have k1:=cu (q:=q) (vs:=vs) ht I rfl;have k2:=cu (q:=q) (vs:=vs) O I rfl;exists rpB,y6,w9 h1,c1,c2,c3,c4,e4,e1,bZ hn hk,O5,k1,k2
def DL (h1:m1 ρ=.ok w1) (hi:ρ[i]?=some (.dos kw)) (O:∀p,f [w1,.dst false p kw.1 kw.2]=.ok (.dst false p [k] [w])) (hn:L5 ρ=true) (I:k∉kw.1) (hl:kw.1.length<1000):W3 i f m1 ρ=.ok (.nx (ρ.set i (.dos (kw.1 ++ [k],kw.2 ++ [w])))):=by
 unfold W3;rw[h1,R.ok_bind,hi];dsimp only;rw[sv O];show qA9 ⟨hn,I,hl⟩
def DK (h1:m1 (ρ.set i .un)=.ok w1) (hi:ρ[i]?=some (.dos kw1)) (hj:ρ[j]?=some (.dos kw)) (I:i≠j) (hf:∀q p,f [w1,.dst true q kw1.1 kw1.2,.dst false p kw.1 kw.2]=.ok (.dst false p [k] [w])) (hn:L5 ρ=true) (O:k∉kw.1) (hl:kw.1.length<1000):W2 i j f m1 ρ=.ok (.nx (ρ.set j (.dos (kw.1 ++ [k],kw.2 ++ [w])))):=by
 unfold W2;rw[hi,hj]
 change (if i≠j/\L5 ρ=true then _ else _)=_;rw[qA9 ⟨I,hn⟩,h1,R.ok_bind,oH hf];show qA9 ⟨hn,O,hl⟩
def cj (O:c∉cl y):∀ws:List Str,(∀w∈ws,c∉cl w)->c∉cl (Str.join y ws)
 | [],_=>by intro h;cases h
 | [w],h=>h w (qA2 ..)
 | w::v::r,h=>by
  rw[g6,d7,d7];intro I;rcases qB7.mp I with I|I
  .rcases qB7.mp I with I|I
   .show h w (qA2 ..) I
   .show O I
  .show cj O (v::r) (λz hz=>h z (qA4 _ hz)) I
def S6 (y:Str) (ws:Jk) (h:∀w∈ws,w.length<=B):(Str.join y ws).length<=ws.length*(B+y.length):=by
 have h1:=StrLaws.join_length_le y ws;have h2:=StrLaws.sumLen_le ws h;rw[Nat.mul_add];omega
def Wd (w:Str):Prop:=w.length<=10/\32∉cl w/\59∉cl w
def P1 (h:Nm w):Wd w:=⟨by have:=h.2.1;omega,λhc=>by have:=h.2.2 _ hc;omega,λhc=>by have:=h.2.2 _ hc;omega⟩
def M4 (h:Cn c):Wd (num c):=⟨cJ h.1 (show c<10^10 by have:=h.2;omega),λhc=>by have:=R1 h.1 _ hc;omega,λhc=>by have:=R1 h.1 _ hc;omega⟩
def J8:Wd (Str.ofString "place"):=⟨Qx,Qx,Qx⟩
def eN:Wd (Str.ofString "move"):=⟨Qx,Qx,Qx⟩
def qT:Wd (Str.ofString "takes"):=⟨Qx,Qx,Qx⟩
def jW:Wd (Str.ofString "puts"):=⟨Qx,Qx,Qx⟩
abbrev B1:Str:=Str.ofString " "
abbrev B2:Str:=Str.ofString "; "
def cB1:cl B1=32 :: []:=Qx
def cB2:cl B2=59 :: [32]:=Qx
def lB1:B1.length=1:=Qx
def lB2:B2.length=2:=Qx
def split1 (h:∀w∈p::ps,Wd w) (hl:ps.length<=900):F1 (Str.join B1 (p::ps)) (.str B1)=.ok (lS (p::ps)):=by
 have e:=Q3 cB1 Qx p ps λq I=>(h q I).2.1;have l:=S6 (B:=10) B1 (p::ps) λw hw=>(h w hw).1;rw[lB1,qA3]at l
 change (if _ then R.ok (W.lst ((Txt.split (Str.join B1 (p::ps)) B1).map W.str)) else _)=_;rw[qA9 ⟨by rw[lB1];rfl,Qo,by rw[e,qA3];omega⟩,e]
def mM {ks:Jk}(I:∀k∈ks,Nm k):∀{l:List Pr},(∀p∈l,1<=p.1/\Cn p.1/\p.2∈ks)->∀w∈fl l,Wd w
 | [],_,w,hw=>by cases hw
 | p::r,h,w,hw=>by
  have O:=h p (qA2 ..);rcases qA7.mp hw with rfl|hw
  .show M4 O.2.1
  .rcases qA7.mp hw with rfl|hw
   .show P1 (I _ O.2.2)
   .show mM I (λq hq=>h q (qA4 _ hq)) w hw
def vn (I:∀k∈ks,Nm k) (hn:Nm n) (ht:Told ks T) (O:Told ks P):∀w∈mw n T P,Wd w:=by
 intro w hw;rcases qA7.mp hw with rfl|hw
 .show eN
 rcases qA7.mp hw with rfl|hw
 .show P1 hn
 rcases qA7.mp hw with rfl|hw
 .show qT
 rcases qB7.mp hw with hw|hw
 .show mM I ht.1 w hw
 rcases qA7.mp hw with rfl|hw
 .show jW
 .show mM I O.1 w hw
abbrev Pl:=Str×Int
abbrev Mt:=Str×List Pr×List Pr
abbrev pw (p:Pl):List Str:=[Str.ofString "place",p.1,num p.2]
abbrev mws (m:Mt):List Str:=mw m.1 m.2.1 m.2.2
def mvW (ks:Jk)(m:Mt):W:=.tup [tI (ks.map (lk m.2.1)),tI (ks.map (lk m.2.2))]
def fresh {α:Type}{l:List α}{f:α->Str}{a:α}(h:(l.map f).Nodup) (hi:l[i]?=some a):f a∉(l.take i).map f:=by
 intro I;have hl:=(qA5.mp hi).1;rw[<- qK4 i l,qB1]at h;refine (qO0.mp h).2.2 (f a) I (f a) ?_ rfl;rw[qG4 hl,qB2,(qA5.mp hi).2];show qA2 ..
def take_one {α:Type}{l:List α}{a:α}(hi:l[i]?=some a):l.take (i+1)=l.take i ++ [a]:=by rw[qL3,hi];rfl
def vm:decide (Str.ofString "place" = Str.ofString "move")=false:=Qx
abbrev NX:R W:=.ex ⟨Str.ofString "NoText",none⟩
def BA (h:Sm w) (hn:¬ Nm w):r6 [.str w,.str "abcdefghijklmnopqrstuvwxyz"]=.ok (.bl false)\/8<w.length:=by
 by_cases O:8<w.length
 .show .inr O
 .refine .inl ?_;rw[aI h];congr 2;rw[Bool.and_eq_false_iff];by_cases h1:1<=w.length
  .refine .inr (Bool.eq_false_iff.mpr λha=>hn ⟨h1,Qo,λc hc=>?_⟩)
   have:=qN9 (qG5.mp ha c hc)
   rw[zQ]at this;obtain ⟨k,I,e⟩:=qA6.mp this
   have:=qH5.mp I
   omega
  .show .inl (qL1 h1)
def pj (h:Sm w) (hn:¬ Nm w\/w∈ks):l5 [.str w,.dst z a ks ws]=NX:=by
 have hl:=h.1;by_cases I:Nm w
 .have hk:w∈ks:=by
   rcases hn with hn|hn
   .show absurd I hn
   .show hn
  have e:decide (8<(w.length:Int))=false:=qL1 (by have:=I.2.1;omega);have e2:decide (w∈ks)=true:=qL6 hk;exists rpB,o9,w9 (kM I),e,e2
 .rcases BA h I with q|q
  .exists rpB,o9,w9 q
  .have e:decide (8<(w.length:Int))=true:=qL6 Qo;have O:=aI (s:=Str.ofString "abcdefghijklmnopqrstuvwxyz") h;generalize (decide (1<=w.length)&&(cl w).all λc=>decide (c∈cl "abcdefghijklmnopqrstuvwxyz"))=b at O
   cases b with
   |true=>exists rpB,o9,w9 O,e
   |false=>exists rpB,o9,w9 O,e
def NoC (w:Str):Prop:=K5 [.str w]=.ok .non
def iO (h:Sm w) (hm:(decide (1<=w.length)&&(cl w).all λc=>decide (c∈cl "0123456789"))=false):NoC w:=by
 unfold NoC;have hl:=h.1;have I:(1000000000:Int).natAbs.log2<1920:=Qx;have g:(num 1000000000).length<=100000:=by rw[sGr];decide
 have q:=aI (s:=Str.ofString "0123456789") h;rw[hm]at q;by_cases c:10<w.length
 .have e:decide ((10:Int)<(w.length:Int))=true:=qL6 Qo;exists rpB,K3,sGr,e
 .have e:decide ((10:Int)<(w.length:Int))=false:=qL1 Qo;exists rpB,K3,sGr,e,q
def sN (h:Sm w) (hm:10<w.length):NoC w:=by
 unfold NoC;have hl:=h.1;have I:(1000000000:Int).natAbs.log2<1920:=Qx;have g:(num 1000000000).length<=100000:=by rw[sGr];decide
 have e:decide ((10:Int)<(w.length:Int))=true:=qL6 Qo;exists rpB,K3,sGr,e
def fu (h:Sm w) (hl:w.length<=10) (hi:PySem.intText? w=some n) (hm:(decide (1<=w.length)&&(cl w).all λc=>decide (c∈cl "0123456789"))=true) (hg:n.natAbs.log2<1920) (hn:num n≠w\/1000000000<n):NoC w:=by
 unfold NoC;have I:(1000000000:Int).natAbs.log2<1920:=Qx;have g:(num 1000000000).length<=100000:=by rw[sGr];decide
 have q:=aI (s:=Str.ofString "0123456789") h;rw[hm]at q;have e:decide ((10:Int)<(w.length:Int))=false:=qL1 Qo;have hI:fIntS [.str w]=.ok (.int n):=by
  change (if w.length<=640 then _ else _)=_;rw[qA9 Qo,hi]
 have O:(decide (num n=w)&&decide (n<=1000000000))=false:=by
  rcases hn with hn|hn
  .rw[qL1 hn];rfl
  .rw[qL1 (p:=n<=1000000000) Qo,qW1]
 exists rpB,K3,sGr,e,q,hI,O
def fX (h:NoC w):t9 [.str w,.int f]=NX:=by
 have h':K5 [.str w]=.ok .non:=h;exists rpB,M6,w9 h'
def lO (h:Cn c) (I:c<f):t9 [.str (num c),.int f]=NX:=by
 have e:decide (c<f)=true:=qL6 I;exists rpB,M6,w9 (jq h),e
def badC:List Str:=[Str.ofString "",Str.ofString "00",Str.ofString "01",Str.ofString "1000000001",Str.ofString "99999999999",Str.ofString "+1",Str.ofString "-1",Str.ofString "1_0",Str.ofString "1.0",Str.ofString "a",Str.ofString "1e3",Str.ofString "0x1",Str.ofString "1\t",Str.ofString "\n1"]
instance (w:Str):Decidable (Sm w):=by unfold Sm;infer_instance
def yB:∀w∈badC,Sm w:=Qx
def lj:∀w∈badC,NoC w:=by
 intro w hw;have I:=yB w hw;unfold badC at hw;simp only [qA7,qF0,qQ1]at hw;rcases hw with rfl|rfl|rfl|rfl|rfl|rfl|rfl|rfl|rfl|rfl|rfl|rfl|rfl|rfl
 .show iO I Qx
 .show fu (n:=0) I Qx Qx Qx Qx (.inl Qx)
 .show fu (n:=1) I Qx Qx Qx Qx (.inl Qx)
 .show fu (n:=1000000001) I Qx Qx Qx Qx (.inr Qy)
 .show sN I Qx
 all_goals show iO I Qx
def place_len (h:ws.length≠3):n4 [lS ws,.dst false p ks vs]=NX:=by
 have e:decide ((ws.length:Int)=3)=false:=qL1 Qo;exists rpB,F8,e
def Q9 (hw:ws = [x,n,y]) (O:Sm n) (h:¬ Nm n\/n∈ks):n4 [lS ws,.dst false p ks vs]=NX:=by
 have I:L2.atI (ws.map W.str) 1=some (.str n):=by subst hw;rfl
 have hl:(ws.length:Int)=3:=by subst hw;rfl
 exists rpB,F8,hl,I,pj O h
def oM (hw:ws = [x,n,y]) (hn:Nm n) (I:n∉ks) (h:NoC y):n4 [lS ws,.dst false p ks vs]=NX:=by
 have O:L2.atI (ws.map W.str) 1=some (.str n):=by subst hw;rfl
 have e2:L2.atI (ws.map W.str) 2=some (.str y):=by subst hw;rfl
 have hl:(ws.length:Int)=3:=by subst hw;rfl
 exists rpB,F8,hl,O,e2,bZ hn I,fX h
def eF (h:ws.length%2=1):i9 [lS ws,.dst true q ks vs]=NX:=by
 have hm:decide ((ws.length:Int)%2=1)=true:=qL6 Qo;exists rpB,K8,hm
def BadP (ks:Jk)(l:List Pr)(a b:Str):Prop:=b∉ks\/b∈l.map (·.2)\/NoC a\/∃c,a=num c/\Cn c/\c<1
def V2 (f:α->β):∀l:List α,h9 (l.map f)=(h9 l).map f
 | []=>rfl
 | [_]=>rfl
 | x::y::r=>by
  change f x::h9 (r.map f)=f x::(h9 r).map f;rw[V2 f r]
def ev2:∀(l:List Pr) (r:Jk),h9 (fl l++r)=(l.map λp=>num p.1)++h9 r
 | [],r=>rfl
 | p::l,r=>by
  change num p.1::h9 (fl l++r)=_;rw[ev2 l r];rfl
def od1 (b:Str) (r:Jk):h9 (b::r)=b::h9 (r.drop 1):=by
 cases r with
 |nil=>rfl
 |cons c r=>rfl
def od2:∀(l:List Pr) (a b:Str) (r:Jk),h9 ((fl l++a::b::r).drop 1)=(l.map λp=>p.2)++b::h9 (r.drop 1)
 | [],a,b,r=>od1 b r
 | p::l,a,b,r=>by
  change h9 (p.2::(fl l++a::b::r))=p.2::_;rw[od1,od2 l a b r];rfl
def zipS (xs ys:Jk):af [lS xs,lS ys]=.ok (List.zipWith (λx y=>W.tup [.str x,.str y]) xs ys):=by
 rw[ny _ _ _ _ rfl rfl];congr 1
 change (List.zipWith (λx y=>[x,y]) (xs.map W.str) (ys.map W.str)).map W.tup=_;rw[List.zipWith_map,List.map_zipWith]
def jV:∀(l:List Pr) (a b:Str) (X Y:Jk),List.zipWith (λx y=>W.tup [.str x,.str y]) ((l.map λp=>num p.1)++a::X) ((l.map λp=>p.2)++b::Y)=(l.map λp=>W.tup [.str (num p.1),.str p.2])++W.tup [.str a,.str b]::List.zipWith (λx y=>W.tup [.str x,.str y]) X Y
 | [],_,_,_,_=>rfl
 | p::l,a,b,X,Y=>by
  show congrArg _ (jV l a b X Y)
def B8 (h:Told ks l) (I:BadP ks l a b) (hr:r.length%2=0) (hw:ws=fl l++a::b::r):i9 [lS ws,.dst true q ks vs]=NX:=by
 have hl:(ws.length:Int)%2=0:=by
  rw[hw,qA1,i7,qA3,qA3];omega
 have hm:decide ((ws.length:Int)%2=1)=false:=qL1 Qo;have z1:st2 false (lS ws) none (some 2)=.ok (lS (h9 ws)):=by
  rw[uO,V2];show O5 _ _
 have z2:st2 false (lS ws) (some 1) (some 2)=.ok (lS (h9 (ws.drop 1))):=by
  rw[uN,<- qX6,V2];show O5 _ _
 have zz:=zipS (h9 ws) (h9 (ws.drop 1));rw[hw,show h9 (fl l++a::b::r)=(l.map λp=>num p.1)++a::h9 r from ev2 l _,od2,jV]at zz;rw[hw,show h9 (fl l++a::b::r)=(l.map λp=>num p.1)++a::h9 r from ev2 l _,<- hw]at z1;rw[hw,od2,<- hw]at z2;generalize List.zipWith (λx y=>W.tup [W.str x,W.str y]) (h9 r) (h9 (r.drop 1))=Z at zz
 exists rpB,K8,hm,z1,z2,zz;rw[jh (e:=⟨Str.ofString "NoText",none⟩) (λi ρ=>∃x y:Sl,ρ = [.par (lS ws),.par (.dst true q ks vs),.dos ((l.take i).map (λp=>p.2),(l.take i).map λp=>W.int p.1),x,y]/\L5 [x,y]=true) _ l.length 0 [.par (lS ws),.par (.dst true q ks vs),.dos ([],[]),.un,.un] ⟨.un,.un,rfl,rfl⟩ (by rw[qA1,qA0,qA3];omega)]
 .exists rp18
 .rintro i w ρ O hi ⟨x,y,rfl,a3⟩;rw[qD2 (by rw[qA0];show hi),qC1]at O;obtain ⟨p,hp,rfl⟩:=qF3.mp O;have hm:=h.1 p (qB5 hp);have d1:decide (p.2∈ks)=true:=qL6 hm.2.2;rw[qJ2];have nn:=fresh (f:=λp:Pr=>p.2) h.2.1 hp;have d2:decide (p.2∈(l.take i).map (λp=>p.2))=false:=qL1 nn;have rc:=bP hm.2.1 hm.1;refine ⟨_,rfl,?_⟩;exists d1,d2,rc;rw[kH rfl nn (by rw[qA0,qB9];have:=h.2.2;omega)];exists rp18;refine ⟨.par (.str (num p.1)),.par (.str p.2),?_,rfl⟩;rw[take_one hp,qB1,qB1];rfl
 .rintro w ρ O ⟨x,y,rfl,a3⟩;rw[qD8 (by rw[qA0];show qB8 _),qA0,qP7]at O;cases O;rw[qJ2,qG3];refine ⟨_,rfl,?_⟩;by_cases h1:b∈ks
  .by_cases h2:b∈l.map (λp=>p.2)
   .exists qL6 h1,qL6 h2
   .have rc:t9 [.str a,.int 1]=NX:=by
     rcases I with I|I|I|⟨c,rfl,hc,hc1⟩
     .show absurd h1 I
     .show absurd I h2
     .show fX I
     .show lO hc hc1
    exists qL6 h1,qL1 h2,rc
  .exists qL1 h1
def cy {ts:Jk}{i:Int}(h:0<=i/\i<ts.length):L2.atI (ts.map W.str) i=some (.str (ts.getD i.toNat Str.empty)):=by
 refine S9 h.1 ?_
 have:i.toNat<ts.length:=Qo
 rw[qD4,qC3 this];rfl
def iy (hl:ws.length<=900):∃v,g7 [lS ws]=.ok v/\(v=.non\/∃m:Nat,v=.int (m:Int)):=by
 have I:Ok (g7 [lS ws]) λv=>v=.non\/∃m:Nat,v=.int (m:Int):=by
  have r3:=eW (j:=(ws.length:Int)) Qo;exists rpB,E4,r3;refine R0 (F6 (λi ρ=>∃a:Sl,ρ = [.par (lS ws),a]) ⟨_,rfl⟩ ?_ ?_)
  .rintro i w ρ O ⟨a,rfl⟩;rw[qC1]at O;obtain ⟨k,hk,rfl⟩:=qF3.mp O;have a3:k<(((ws.length:Int)-3+1)/2).toNat:=qH5.mp (qB5 hk);have ea:=cy (ts:=ws) (i:=3+(k:Int)*2) ⟨Qo,Qo⟩;refine ⟨_,rfl,?_⟩;by_cases c:ws.getD (3+(k:Int)*2).toNat Str.empty=Str.ofString "puts"
   .exists ea,qL6 c;show .inr ⟨3+k*2,rfl⟩
   .exists ea,qL1 c;show ⟨_,rfl⟩
  .rintro ρ ⟨a,rfl⟩;exists rp18
 obtain ⟨v,e,h⟩:=I;show ⟨v,e,h⟩
def xZ:eqW (.lst [.str x]) (.lst [.str y])=decide (x=y):=by
 change (x == y&&true)=_;rw[Bool.and_true];by_cases h:x=y
 .subst h;simp
 .rw[qL1 h];show qM7.mpr h
def cS {ws:Jk}:k7 (ws.map W.str) (some 2) (some 3)=((ws.drop 2).take 1).map W.str:=by
 rw[C6];congr 1;unfold B5;rw[show (some (2:Int))=some ((2:Nat):Int) from rfl,show (some (3:Int))=some ((3:Nat):Int) from rfl,HT.sIx_nat,HT.sIx_nat];by_cases h:3<=ws.length
 .rw[qH1 h,qH1 (show 2<=ws.length by omega)]
 .by_cases h2:2<=ws.length
  .rw [qH1 h2,qT2 (show ws.length<=3 by omega)]
   have e:ws.length=2:=Qo;rw[e,qO2 Qo];simp
  .rw[qT2 (show ws.length<=2 by omega),qT2 (show ws.length<=3 by omega),qP7,qI9,qO2 (show ws.length<=2 by omega)];simp
def Z7 (hl:ws.length<=900) (h:ws[2]?≠some (Str.ofString "takes")) (hs:∀x,ws[2]?=some x->Sm x):i1 [lS ws,.dst true q ks vs,.dst false p ks2 vs2]=NX:=by
 obtain ⟨v,e,hv⟩:=iy hl;have c0:chks false (((ws.drop 2).take 1).map W.str)=.ok (lS ((ws.drop 2).take 1)):=O5 _ _;have I:fEq true (lS ((ws.drop 2).take 1)) (.lst [.str "takes"])=.ok (.bl true):=by
  have s2:shp 8 (.lst [.str "takes"])=true:=Qx;cases hd:ws.drop 2 with
  | nil=>
   unfold fEq;rw[s2];rfl
  | cons x r=>
   have O:ws[2]?=some x:=by
    have:(ws.drop 2)[0]?=some x:=by rw[hd];rfl
    rw[qJ9]at this;show this
   have sx:=hs x O;have s1:shp 8 (lS [x])=true:=by
    change (shp 7 (.str x)&&true)=true;rw[kj λc hc=>by have:=sx.2 c hc;omega];rfl
   change fEq true (lS [x]) _=_;unfold fEq;rw[s1,s2,qR2,qA9 rfl,show eqW (lS [x]) (.lst [.str "takes"])=decide (x=Str.ofString "takes") from xZ,qL1 (λz=>h (by rw[O,z]))];rfl
 rcases hv with rfl|⟨m,rfl⟩
 .exists rpB,y6,w9 e,cS,c0,I
 .exists rpB,y6,w9 e,cS,c0,I
def aV {ws:Jk}(h:ws[2]?=some (Str.ofString "takes")):fEq true (lS ((ws.drop 2).take 1)) (.lst [.str "takes"])=.ok (.bl false):=by
 have hl:=(qA5.mp h).1;have I:=(qA5.mp h).2;rw[qG4 hl,I]
 change fEq true (.lst [.str "takes"]) (.lst [.str "takes"])=_;show bv Qx
def gd (h:ws[2]?=some (Str.ofString "takes")) (I:g7 [lS ws]=.ok .non):i1 [lS ws,.dst true q ks vs,.dst false p ks2 vs2]=NX:=by
 have c0:chks false (((ws.drop 2).take 1).map W.str)=.ok (lS ((ws.drop 2).take 1)):=O5 _ _;exists rpB,y6,w9 I,cS,c0,aV h
def ge (h:ws[2]?=some (Str.ofString "takes")) (hp:g7 [lS ws]=.ok (.int m)) (h1:ws[1]?=some n) (O:Sm n) (hn:¬ Nm n\/n∈ks2):i1 [lS ws,.dst true q ks vs,.dst false p ks2 vs2]=NX:=by
 have c0:chks false (((ws.drop 2).take 1).map W.str)=.ok (lS ((ws.drop 2).take 1)):=O5 _ _;have I:L2.atI (ws.map W.str) 1=some (.str n):=S9 Qy h1;exists rpB,y6,w9 hp,cS,c0,aV h,I,pj O hn
def fy (h:ws[2]?=some (Str.ofString "takes")) (hp:g7 [lS ws]=.ok (.int m)) (h1:ws[1]?=some n) (hn:Nm n) (I:n∉ks2) (hc:B5 ws (some 3) (some m)=c1) (hx:i9 [lS c1,.dst true q ks vs]=NX):i1 [lS ws,.dst true q ks vs,.dst false p ks2 vs2]=NX:=by
 have c0:chks false (((ws.drop 2).take 1).map W.str)=.ok (lS ((ws.drop 2).take 1)):=O5 _ _;have O:L2.atI (ws.map W.str) 1=some (.str n):=S9 Qy h1;have cc:k7 (ws.map W.str) (some 3) (some m)=c1.map W.str:=by rw[C6,hc]
 exists rpB,y6,w9 hp,cS,c0,aV h,O,bZ hn I,cc,O5,hx
def xf (h:ws[2]?=some (Str.ofString "takes")) (hp:g7 [lS ws]=.ok (.int m)) (h1:ws[1]?=some n) (hn:Nm n) (hk:n∉ks2) (hc:B5 ws (some 3) (some m)=c1) (hx:i9 [lS c1,.dst true q ks vs]=.ok w) (O:B5 ws (some (m+1)) none=c2) (I:i9 [lS c2,.dst true q ks vs]=NX):i1 [lS ws,.dst true q ks vs,.dst false p ks2 vs2]=NX:=by
 have c0:chks false (((ws.drop 2).take 1).map W.str)=.ok (lS ((ws.drop 2).take 1)):=O5 _ _;have e1:L2.atI (ws.map W.str) 1=some (.str n):=S9 Qy h1;have cc:k7 (ws.map W.str) (some 3) (some m)=c1.map W.str:=by rw[C6,hc]
 have a3:k7 (ws.map W.str) (some (m+1)) none=c2.map W.str:=by rw[C6,O]
 exists rpB,y6,w9 hp,cS,c0,aV h,e1,bZ hn hk,cc,a3,O5,hx,I
def He (h1:m1 ρ=.ok w1) (hi:ρ[i]?=some (.dos kw)) (I:∀p,f [w1,.dst false p kw.1 kw.2]=.ex e):W3 i f m1 ρ=.ex e:=by
 unfold W3;rw[h1,R.ok_bind,hi];dsimp only;rw[wK I];rfl
def Hd (h1:m1 (ρ.set i .un)=.ok w1) (hi:ρ[i]?=some (.dos kw1)) (hj:ρ[j]?=some (.dos kw)) (I:i≠j) (O:∀q p,f [w1,.dst true q kw1.1 kw1.2,.dst false p kw.1 kw.2]=.ex e) (hn:L5 ρ=true):W2 i j f m1 ρ=.ex e:=by
 unfold W2;rw[hi,hj]
 change (if i≠j/\L5 ρ=true then _ else _)=_;rw[qA9 ⟨I,hn⟩,h1,R.ok_bind,sy O];rfl
structure K6 (ps:List Pl) (ms:List Mt):Prop where
 l2:ps.length<=20
 l3:ms.length<=20
 np:∀p∈ps,Nm p.1/\Cn p.2
 nm:∀m∈ms,Nm m.1/\Told (ps.map (·.1)) m.2.1/\Told (ps.map (·.1)) m.2.2
 d1:(ps.map (·.1)).Nodup
 d2:(ms.map (·.1)).Nodup
abbrev pts (ps:List Pl)(ms:List Mt):List Str:=ps.map (λp=>Str.join B1 (pw p))++ms.map λm=>Str.join B1 (mws m)
def bD (ps:List Pl) (ms:List Mt) (ws:Jk):Prop:=
 (ws[0]?=some (Str.ofString "move")/\∀q p,i1 [lS ws,.dst true q (ps.map (λp=>p.1)) (ps.map λp=>W.int p.2),.dst false p (ms.map (λm=>m.1)) (ms.map (mvW (ps.map (·.1))))]=NX) \/
 (ws[0]?=some (Str.ofString "place")/\ms = []/\∀p,n4 [lS ws,.dst false p (ps.map (λp=>p.1)) (ps.map λp=>W.int p.2)]=NX) \/
 ∃x,ws[0]?=some x/\x≠Str.ofString "move" /\ (x≠Str.ofString "place" \/ ms ≠ [])
abbrev stR (t:Str)(ps:List Pl)(ms:List Mt)(ks:Jk)(a b:Sl):Rho:=[.par (.str t),.dos (ps.map (λp=>p.1),ps.map λp=>W.int p.2),.dos (ms.map (λm=>m.1),ms.map (mvW ks)),a,b,.un]
abbrev gR : Rho -> R Fl := (c6 (sF 4 (dn (a6 .B 3) (mC (.str " "))))
      (mIf (d9 (b2 (j6 false) (b2 fIx (a6 .B 4) (mC (.int 0))) (mC (.str "move")))) (W2 1 2 i1 (a6 .B 4)) (mIf (dE (d9 (b2 (j6 false) (b2 fIx (a6 .B 4) (mC (.int 0))) (mC (.str "place")))) (d9 (b2 (j6 false) (W4 2) (mC (.int 0))))) (W3 1 n4 (a6 .B 4)) (A8 "NoText" (aC (mC (.str "a part tells no place, and no move behind the places")) aN)))))
def kg (F:K6 ps ms) (hx:(pts ps ms)[i]?=some x):∃b',gR (stR t (ps.take i) (ms.take (i-ps.length)) (ps.map (·.1)) (.par (.str x)) b)=.ok (.nx (stR t (ps.take (i+1)) (ms.take (i+1-ps.length)) (ps.map (·.1)) (.par (.str x)) b'))/\L5 [b']=true:=by
 have a4:∀k∈ps.map (·.1),Nm k:=λk hk=>by
  obtain ⟨p,O,rfl⟩:=qA6.mp hk;show (F.np p O).1
 have l2:=F.l2;have l3:=F.l3;by_cases hi:i<ps.length
 .rw [qD2 (by rw[qA0];show hi),qC1]at hx
  obtain ⟨p,O,rfl⟩:=qF3.mp hx;have h:=F.np p (qB5 O);have sp:F1 (Str.join B1 (pw p)) (.str B1)=.ok (lS (pw p)):=split1 (λw hw=>by
   rcases qA7.mp hw with rfl|hw
   .show J8
   rcases qA7.mp hw with rfl|hw
   .show P1 h.1
   rcases qA7.mp hw with rfl|hw
   .show M4 h.2
   .cases hw) (by change 2<=900;decide)
  obtain ⟨ws,hws⟩:∃ws,ws=pw p:=⟨_,rfl⟩;replace sp:F1 (Str.join B1 (pw p)) (.str B1)=.ok (lS ws):=by rw[hws];show sp
  have e0:L2.atI (ws.map W.str) 0=some (.str "place"):=by rw[hws];rfl
  have z:i-ps.length=0:=Qo;have z2:i+1-ps.length=0:=Qo;have I:=fresh F.d1 O;have cp:=DL (i:=1) (f:=n4) (m1:=a6 .B 4) (ρ:=[.par (.str t),.dos ((ps.take i).map (λp=>p.1),(ps.take i).map λp=>W.int p.2),.dos ([],[]),.par (.str (Str.join B1 (pw p))),.own (ws.map W.str),.un]) rfl rfl (λq=>iA hws h.1 I h.2) rfl I (by change ((ps.take i).map _).length<1000;rw[qA0,qB9];omega);have eL:Rln (some (([]:Jk),([]:JJ)))=.ok (.int 0):=rfl;refine ⟨.own (ws.map W.str),?_,rfl⟩;exists sp,e0,z,vm,cp,qI9,eL;rw[take_one O,z2];unfold stR;rw[qB1,qB1];rfl
 .rw [qD8 (by rw[qA0];omega),qA0,qC1]at hx
  obtain ⟨m,hm,rfl⟩:=qF3.mp hx;have h:=F.nm m (qB5 hm);have hT:ps.take i=ps:=qE1 Qo;have a3:ps.take (i+1)=ps:=qE1 Qo;have sp:F1 (Str.join B1 (mws m)) (.str B1)=.ok (lS (mws m)):=split1 (vn a4 h.1 h.2.1 h.2.2) (by
   have e:=V1 m.1 m.2.1 m.2.2
   have:=h.2.1.2.2
   have:=h.2.2.2.2
   change (m.1::Str.ofString "takes" :: (fl m.2.1++Str.ofString "puts" :: fl m.2.2)).length<=900;rw[show (mw m.1 m.2.1 m.2.2).length=(m.1::Str.ofString "takes" :: (fl m.2.1++Str.ofString "puts" :: fl m.2.2)).length+1 from rfl]at e;omega)
  obtain ⟨ws,hws⟩:∃ws,ws=mws m:=⟨_,rfl⟩;replace sp:F1 (Str.join B1 (mws m)) (.str B1)=.ok (lS ws):=by rw[hws];show sp
  have e0:L2.atI (ws.map W.str) 0=some (.str "move"):=S9 Qy (by rw[hws];rfl);have I:=fresh F.d2 hm;have cp:=DK (i:=1) (j:=2) (f:=i1) (m1:=a6 .B 4) (ρ:=[.par (.str t),.dos (ps.map (λp=>p.1),ps.map λp=>W.int p.2),.dos ((ms.take (i-ps.length)).map (λm=>m.1),(ms.take (i-ps.length)).map (mvW (ps.map (·.1)))),.par (.str (Str.join B1 (mws m))),.own (ws.map W.str),.un]) rfl rfl rfl Qy (λq p=>xc hws h.1 I h.2.1 h.2.2 (by change (ps.map _).length<=1000;rw[qA0];omega)) rfl I (by change ((ms.take _).map _).length<1000;rw[qA0,qB9];omega);refine ⟨.own (ws.map W.str),?_,rfl⟩;exists sp,e0,cp,hT;rw[show i+1-ps.length=i-ps.length+1 by omega,take_one hm,a3];unfold stR;rw[qB1,qB1];rfl
def wb (hl:ms.length<=20) (I:F1 x (.str B1)=.ok (lS ws)) (h:bD ps ms ws):gR (stR t ps ms (ps.map (·.1)) (.par (.str x)) b)=.ex ⟨Str.ofString "NoText",none⟩:=by
 have r2:Rln (some (ms.map (λm=>m.1),ms.map (mvW (ps.map (·.1)))))=.ok (.int ms.length):=by rw[eM _ (by change (ms.map _).length<=1000;rw[qA0];omega)];change R.ok (W.int ((ms.map _).length:Nat))=_;rw[qA0]
 rcases h with ⟨h0,h⟩|⟨h0,rfl,h⟩|⟨y,h0,hm,hp⟩
 .have e0:=S9 (i:=0) Qy h0;have O:=Hd (i:=1) (j:=2) (f:=i1) (m1:=a6 .B 4) (ρ:=[.par (.str t),.dos (ps.map (λp=>p.1),ps.map λp=>W.int p.2),.dos (ms.map (λm=>m.1),ms.map (mvW (ps.map (·.1)))),.par (.str x),.own (ws.map W.str),.un]) rfl rfl rfl Qy h rfl;exists I,e0,O
 .have e0:=S9 (i:=0) Qy h0;have O:=He (i:=1) (f:=n4) (m1:=a6 .B 4) (ρ:=[.par (.str t),.dos (ps.map (λp=>p.1),ps.map λp=>W.int p.2),.dos ([],[]),.par (.str x),.own (ws.map W.str),.un]) rfl rfl h;have eL:Rln (some (([]:Jk),([]:JJ)))=.ok (.int 0):=rfl;exists I,e0,vm,O,eL
 .have e0:=S9 (i:=0) Qy h0;have dm:decide (y=Str.ofString "move")=false:=qL1 hm;by_cases hy:y=Str.ofString "place"
  .have a3:ms ≠ []:=by
    rcases hp with hp|hp
    .show absurd hy hp
    .show hp
   have d0:decide ((ms.length:Int)=0)=false:=qL1 (by
    have:=List.length_pos_iff.mpr a3
    omega)
   exists I,e0,dm,qL6 hy,r2,d0
  .exists I,e0,dm,qL1 hy
def fb {rest:Jk}(F:K6 ps ms) (hs:F1 t (.str B2)=.ok (lS (pts ps ms++x::rest))) (hb:F1 x (.str B1)=.ok (lS ws)) (h:bD ps ms ws):u8 [.str t]=NX:=by
 have hlen:(pts ps ms).length=ps.length+ms.length:=by rw[qA1,qA0,qA0]
 exists rpB,aJ,hs;rw[jh (e:=⟨Str.ofString "NoText",none⟩) (λi ρ=>∃a b:Sl,ρ=stR t (ps.take i) (ms.take (i-ps.length)) (ps.map (·.1)) a b) _ (ps.length+ms.length) 0 [.par (.str t),.dos ([],[]),.dos ([],[]),.un,.un,.un] ⟨.un,.un,by rw[Nat.zero_sub];rfl⟩ (by rw[qA0,qA1,hlen,qA3];omega)]
 .exists rp18
 .rintro i w ρ O hi ⟨a,b,rfl⟩;obtain ⟨y,I,rfl⟩:=fB O;rw[qD2 (by rw[hlen];show hi)]at I;rw[qJ2];obtain ⟨b',e,_⟩:=kg (t:=t) (b:=b) F I;refine ⟨_,rfl,?_⟩;refine Eq.mpr (congrArg (λr=>TP.Po r _ _) e) ?_;show ⟨_,_,rfl⟩
 .rintro w ρ O ⟨a,b,rfl⟩;obtain ⟨y,I,rfl⟩:=fB O;rw[qD8 (by rw[hlen];show qB8 _),hlen,qP7]at I;cases I;rw[qJ2,qE1 (show ps.length<=ps.length+ms.length by omega),qE1 (show ms.length<=ps.length+ms.length-ps.length by omega)];show ⟨_,rfl,wb F.l3 hb h⟩
def fW (F:K6 ps ms):∃a b,C3 (gN .U 3) gR ((pts ps ms).map W.str) [.par (.str t),.dos ([],[]),.dos ([],[]),.un,.un,.un]=.ok (.nx (stR t ps ms (ps.map (·.1)) a b))/\Rln (some (ps.map (λp=>p.1),ps.map λp=>W.int p.2))=.ok (.int ps.length)/\Rln (some (ms.map (λm=>m.1),ms.map (mvW (ps.map (·.1)))))=.ok (.int ms.length):=by
 have hlen:(pts ps ms).length=ps.length+ms.length:=by rw[qA1,qA0,qA0]
 have l2:=F.l2;have l3:=F.l3;obtain ⟨I,e,a,b,rfl⟩:=iV (mg:=gN .U 3) (mb:=gR) (λi ρ=>∃a b:Sl,ρ=stR t (ps.take i) (ms.take (i-ps.length)) (ps.map (·.1)) a b) ((pts ps ms).map W.str) 0 [.par (.str t),.dos ([],[]),.dos ([],[]),.un,.un,.un] ⟨.un,.un,by rw[Nat.zero_sub];rfl⟩ (λi w ρ hu hp=>by
  obtain ⟨a,b,rfl⟩:=hp;obtain ⟨y,O,rfl⟩:=fB hu;rw[qJ2];obtain ⟨b',e,_⟩:=kg (t:=t) (b:=b) F O;show ⟨_,rfl,_,e,_,_,rfl⟩)
 rw[qA0,hlen,qJ2,qE1 (show ps.length<=ps.length+ms.length by omega),qE1 (show ms.length<=ps.length+ms.length-ps.length by omega)]at e;have r1:Rln (some (ps.map (λp=>p.1),ps.map λp=>W.int p.2))=.ok (.int ps.length):=by rw[eM _ (by change (ps.map _).length<=1000;rw[qA0];omega)];change R.ok (W.int ((ps.map _).length:Nat))=_;rw[qA0]
 have r2:Rln (some (ms.map (λm=>m.1),ms.map (mvW (ps.map (·.1)))))=.ok (.int ms.length):=by rw[eM _ (by change (ms.map _).length<=1000;rw[qA0];omega)];change R.ok (W.int ((ms.map _).length:Nat))=_;rw[qA0]
 show ⟨a,b,e,r1,r2⟩
def oj (F:K6 ps ms) (O:F1 t (.str B2)=.ok (lS (pts ps ms))) (h:ps.length=0\/6<ps.length\/8<ms.length):u8 [.str t]=NX:=by
 have l2:=F.l2;have l3:=F.l3;obtain ⟨a,b,e,r1,I⟩:=fW (t:=t) F;have c:(!(decide (1<=(ps.length:Int))&&decide ((ps.length:Int)<=6))||decide (8<(ms.length:Int)))=true:=by
  rcases h with h|h|h
  .rw[qL1 (p:=1<=(ps.length:Int)) Qo];rfl
  .rw[qL1 (p:=(ps.length:Int)<=6) Qo,qW1];rfl
  .rw[qL6 (p:=8<(ms.length:Int)) Qo,qT0]
 exists rpB,aJ,O;rw[e];exists r1,I,c
def wq (F:K6 ps ms) (hs:F1 t (.str B2)=.ok (lS (pts ps ms))) (h1:1<=ps.length) (h6:ps.length<=6) (h8:ms.length<=8):u8 [.str t]=.ok (.tup [.tup [tI (ps.map (·.2)),.tup (ms.map (mvW (ps.map (·.1))))],lS (ps.map (·.1)),lS (ms.map (·.1))]):=by
 obtain ⟨a,b,e,r1,I⟩:=fW (t:=t) F;have c1:decide (1<=(ps.length:Int))=true:=qL6 Qo;have O:decide ((ps.length:Int)<=6)=true:=qL6 Qo;have c3:decide (8<(ms.length:Int))=false:=qL1 Qo;exists rpB,aJ,hs;rw[e];exists r1,I,c1,O,c3;rw[show tI (ps.map (·.2))=W.tup (ps.map λp=>W.int p.2) by (change W.tup _=_;rw[qD5];rfl)]
def V8 (h:fIsi [w,.ty "str"]=.ok (.bl false)):u8 [w]=NX:=by
 exists rpB,aJ,h
def CS (c n:Str) (b:Bool) (v:Jv):R4 c (.cls n) b [.exc c v,.cls n]=.ok (.bl b):=by
 change (if c=c/\n=n then R.ok (W.bl b) else .stuck)=_;rw[qA9 ⟨rfl,rfl⟩]
def fx_t (c:Str) (n:String) (b:Bool) (v:Jv):R4 c (.ty n) b [.exc c v,.ty n]=.ok (.bl b):=by
 change (if c=c/\n=n then R.ok (W.bl b) else .stuck)=_;rw[qA9 ⟨rfl,rfl⟩]
def gw:∀ns:List Str,Z9 (ns.map W.cls)=some ns
 | []=>rfl
 | x::r=>by
  change (match DN (.cls x),Z9 (r.map W.cls) with|some x,some xs=>some (x::xs)|_,_=>none)=_;rw[gw r];rfl
def fx_n (c:Str) (ns:Jk) (v:Jv):eB c ns [.exc c v,.tup (ns.map W.cls)]=.ok (.bl false):=by
 change (if c=c/\Z9 (ns.map W.cls)=some ns then R.ok (W.bl false) else .stuck)=_;rw[qA9 ⟨rfl,gw ns⟩]
def dJ (h:u8 [w]=NX):C0 [w]=.ok (.bl true):=by
 have x1:R4 (Str.ofString "NoText") (.cls (Str.ofString "MoorError")) true [.exc (Str.ofString "NoText") none,.cls (Str.ofString "MoorError")]=.ok (.bl true):=CS _ _ _ _;have O:R4 (Str.ofString "NoText") (.ty "ValueError") true [.exc (Str.ofString "NoText") none,.ty "ValueError"]=.ok (.bl true):=fx_t _ _ _ _;have I:eB (Str.ofString "NoText") [Str.ofString "NoMoor",Str.ofString "NoName",Str.ofString "NoRow",Str.ofString "Stuck"] [.exc (Str.ofString "NoText") none,.tup [.cls (Str.ofString "NoMoor"),.cls (Str.ofString "NoName"),.cls (Str.ofString "NoRow"),.cls (Str.ofString "Stuck")]]=.ok (.bl false):=fx_n _ [Str.ofString "NoMoor",Str.ofString "NoName",Str.ofString "NoRow",Str.ofString "Stuck"] _;exists rpB,S3,h,x1,O,I
def yA (h:u8 [w]=NX):u5 [w]=.ok (.bl true):=by
 have I:R4 (Str.ofString "NoText") (.cls (Str.ofString "NoText")) true [.exc (Str.ofString "NoText") none,.cls (Str.ofString "NoText")]=.ok (.bl true):=CS _ _ _ _;exists rpB,E7,h,I
def W20 (w:Str):Prop:=w.length<=20/\32∉cl w/\59∉cl w
def Q20 (q:Jk):Prop:=1<=q.length/\q.length<=30/\∀w∈q,W20 w
def x4 (h:Wd w):W20 w:=⟨by have:=h.1;omega,h.2⟩
def S0 (h:Q20 q):(Str.join B1 q).length<=630:=by
 have l:=S6 (B:=20) B1 q λw hw=>(h.2.2 w hw).1;rw[lB1]at l
 have:=h.2.1
 omega
def oC (h:Q20 q):F1 (Str.join B1 q) (.str B1)=.ok (lS q):=by
 have hl:=S0 h;obtain ⟨h1,I,hw⟩:=h;cases q with
 |nil=>cases h1
 | cons p ps=>
  have e:=Q3 cB1 Qx p ps λq O=>(hw q O).2.1
  change (if _ then R.ok (W.lst ((Txt.split (Str.join B1 (p::ps)) B1).map W.str)) else _)=_;rw[qA9 ⟨by rw[lB1];rfl,Qo,by rw[e];omega⟩,e]
def told (Q:List Jk):Str:=Str.join B2 (Q.map (Str.join B1))
def aU (h1:1<=Q.length) (I:Q.length<=40) (h:∀q∈Q,Q20 q):F1 (told Q) (.str B2)=.ok (lS (Q.map (Str.join B1))):=by
 cases Q with
 |nil=>cases h1
 | cons q Q=>
  have hf:∀p∈(q::Q).map (Str.join B1),59∉cl p/\p.length<=630:=λp O=>by
   obtain ⟨r,hr,rfl⟩:=qA6.mp O;show ⟨cj (by rw[cB1];decide) r λw hw=>((h r hr).2.2 w hw).2.2,S0 (h r hr)⟩
  have e:=Q3 cB2 Qx (Str.join B1 q) (Q.map (Str.join B1)) λp O=>(hf p O).1;have l:=S6 (B:=630) B2 ((q::Q).map (Str.join B1)) λp O=>(hf p O).2;rw[lB2,qA0]at l;have l2:(q::Q).length*(630+2)<=40*632:=qI8 _ I
  change (if _ then R.ok (W.lst ((Txt.split (Str.join B2 (Str.join B1 q::Q.map (Str.join B1))) B2).map W.str)) else _)=_;have hlen:(Str.join B1 q::Q.map (Str.join B1)).length<=40:=by rw[qA3,qA0];show I
  rw[qA9 ⟨by rw[lB2];rfl,by change (Str.join B2 ((q::Q).map (Str.join B1))).length<=100000;omega,by change (Txt.split (Str.join B2 (Str.join B1 q::Q.map (Str.join B1))) B2).length<=1000;rw[e];omega⟩,e];rfl
abbrev a9 (ps:List Pl)(ms:List Mt):List Jk:=ps.map pw++ms.map mws
def aP (ps:List Pl) (ms:List Mt):(a9 ps ms).map (Str.join B1)=pts ps ms:=by
 rw[qB1,qD5,qD5];rfl
def refuse {rest:List Jk}(F:K6 ps ms) (hl:(a9 ps ms++bad::rest).length<=40) (O:∀q∈a9 ps ms++bad::rest,Q20 q) (h:bD ps ms bad):u8 [.str (told (a9 ps ms++bad::rest))]=NX:=by
 have I:=aU (by rw[qA1,qA3];omega) hl O;rw[qB1,aP,qB2]at I;show fb F I (oC (O bad (qC2 _ (qA2 ..)))) h
def cW (F:K6 ps ms) (h1:1<=(a9 ps ms).length) (O:∀q∈a9 ps ms,Q20 q) (h:ps.length=0\/6<ps.length\/8<ms.length):u8 [.str (told (a9 ps ms))]=NX:=by
 have I:=aU h1 (by rw[qA1,qA0,qA0];have:=F.l2;have:=F.l3;omega) O;rw[aP]at I;show oj F I h
def memD {ns:JQ}{P:Int->Prop}(h:∀x∈ns,P x)(hi:i<ns.length):P (ns.getD i 0):=mem_getD h hi
def Fx {k:Int}(h0:0<=k)(h1:k<=1000):0<=k*k/\k*k<=1000000:=⟨Int.mul_nonneg h0 h0,Int.le_trans (Int.mul_le_mul h1 h1 h0 Qo) Qo⟩
def small (h:-18446744073709551616<z/\z<18446744073709551616):Builtin.Int.intBits z<=64:=intBits_le_64 Qo Qo
def P9 {ns:JQ}(hb:∀x∈ns,Builtin.Int.intBits x<=1048576) (h0:0<=k) (h1:k<=1000):∃z:Int,j9 [.scr (ns.map W.int),.int k]=.ok (.int z):=by
 have O:=Fx h0 h1;by_cases h:k<(ns.length:Int)
 .exists rpB,O3,qL6 h;show ⟨_,rfl⟩
 .by_cases hl:0<(ns.length:Int)
  .have m0:0<=k*31%(ns.length:Int):=qK8 _ Qo;have m1:k*31%(ns.length:Int)<(ns.length:Int):=qK0 _ hl;have hz:=memD (P:=λx=>Builtin.Int.intBits x<=1048576) hb (i:=(k*31%(ns.length:Int)).toNat) Qo;exists rpB,O3,qL1 h,qL6 hl;generalize ns.getD (k*31%(ns.length:Int)).toNat 0=z at *
   have b1:=intBits_mul_le hz (small (z:=40014) Qo);have b2:Builtin.Int.intBits (k*k*2003)<=64:=small Qo;have I:=intBits_add_le b1 b2;have b4:=intBits_add_le I (small (z:=17) Qo);have b5:Builtin.Int.intBits (z*40014+k*k*2003+17)+Builtin.Int.intBits (z*40014+k*k*2003+17)<=134217728:=Qo;exists rp18;show ⟨_,rfl⟩
  .exists rpB,O3,qL1 h,qL1 hl;show ⟨_,rfl⟩
def p9:(10:Int)^(9:Int).toNat=1000000000:=Qy
def p12:(10:Int)^(12:Int).toNat=1000000000000:=Qy
def Lt (w:Str):Prop:=∀c∈cl w,97<=c/\c<=122
def BR (O:cl x=L) (h0:0<=j) (h:L[j.toNat]?=some c) (hl:x.length<=100000):fIxS (.str x) (.int j)=.ok (.str ⟨#[c]⟩):=by
 have e:L2.atI x.cps.toList j=some c:=by
  have I:=(qA5.mp h).1
  change L2.atI (cl x) j=_;rw[O];unfold L2.atI;rw[W8 h0 Qo];show h
 change (if x.length<=100000 then _ else _)=_;rw[qA9 hl,e]
def sRev:cl "zyxwvutsrqponmlkjihgfedcba" = (List.range 26).map (122-·):=Qx
def BQ (h0:0<=j) (h:j<26):fIxS (.str "zyxwvutsrqponmlkjihgfedcba") (.int j)=.ok (.str ⟨#[122-j.toNat]⟩):=by
 refine BR sRev h0 ?_ Qx;rw[qC1,List.getElem?_range Qo];rfl
def qr (c:Nat):cl (⟨#[c]⟩:Str) = [c]:=rfl
def lt_e:Lt Str.empty:=λc hc=>by cases hc
def dY (hk:k<=8):∃w,u9 [.int z,.int (k:Nat)]=.ok (.str w)/\w.length=k/\Lt w/\(k=1->w=⟨#[122-(z%26).toNat]⟩):=by
 have I:Ok (u9 [.int z,.int (k:Nat)]) λv=>∃w,v=.str w/\w.length=k/\Lt w/\(k=1->w=⟨#[122-(z%26).toNat]⟩):=by
  exists rpB,S4;refine R0 (F6 (λi ρ=>∃(a b:Sl) (y:Int) (w:Str),ρ = [a,.par (.int (k:Nat)),.val (.str w),b]/\(a=.par (.int y)\/a=.val (.int y))/\w.length=i/\Lt w/\(i=0->y=z)/\(i=1->w=⟨#[122-(z%26).toNat]⟩)) ⟨_,_,z,Str.empty,by rw[show Str.ofString "" = Str.empty by decide +kernel],.inl rfl,rfl,lt_e,λ_=>rfl,λh=>absurd h Qy⟩ ?_ ?_)
  .rintro i u ρ hu ⟨a,b,y,w,rfl,ha,hw,O,h0,h1⟩;obtain ⟨hi,rfl⟩:=bL hu;have m0:0<=y%26:=Qo;have m1:y%26<26:=Qo;have ix:=BQ m0 m1;have f1:w.length+(⟨#[122-(y%26).toNat]⟩:Str).length<=100000:=by change w.length+1<=100000;omega
   have st:(w++⟨#[122-(y%26).toNat]⟩:Str).length=i+1/\Lt (w++⟨#[122-(y%26).toNat]⟩)/\(i+1=0->y/26=z)/\(i+1=1->(w++⟨#[122-(y%26).toNat]⟩:Str)=⟨#[122-(z%26).toNat]⟩):=by
    refine ⟨by rw[qF6,hw];rfl,λc hc=>?_,λh=>Qo,λh=>?_⟩
    .rw [d7]at hc
     rcases qB7.mp hc with hc|hc
     .show O c hc
     .rw [qr]at hc
      have:=qC4.mp hc
      omega
    .have hz:=h0 Qo;subst hz;apply O4;rw[d7,qr]
     have:cl w = []:=qN8.mp (by rw[j5];omega)
     rw[this];rfl
   refine ⟨_,rfl,?_⟩;rcases ha with rfl|rfl
   .exists ix;show ⟨_,_,_,_,rfl,.inr rfl,st.1,st.2.1,λh=>h.elim,λh=>st.2.2.2 Qo⟩
   .exists ix;show ⟨_,_,_,_,rfl,.inr rfl,st.1,st.2.1,λh=>h.elim,λh=>st.2.2.2 Qo⟩
  .rintro ρ ⟨a,b,y,w,rfl,ha,hw,O,h0,h1⟩;rw[qA0,qG0]at hw h1;exists rp18;show ⟨w,rfl,Qo,O,λh=>h1 Qo⟩
 obtain ⟨v,e,w,rfl,h⟩:=I;show ⟨w,e,h⟩
def Nms (n:Nat)(ws:Jk):Prop:=ws.length=n/\(∀w∈ws,Nm w)/\ws.Nodup
def uP {p:Nat}(h:p<=x.length):cl (Txt.slice x none (some (p:Int)))=(cl x).take p:=by
 have hl:x.cps.toList.length=x.length:=j5 x
 change cl (StrLaws.sliceText x none (some (p:Int)))=_;rw[StrLaws.sliceText_to ⟨Qo,Qo⟩]
 change ((x.cps.toList.drop 0).take ((p:Int)-0).toNat).toArray.toList=_;rw[qL2,show ((p:Int)-0).toNat=p by omega]
def wd {p:Nat}(h:p<=x.length):cl (Txt.slice x (some (p:Int)) none)=(cl x).drop p:=by
 have hl:x.cps.toList.length=x.length:=j5 x
 change cl (StrLaws.sliceText x (some (p:Int)) none)=_;rw[StrLaws.sliceText_from ⟨Qo,Qo⟩]
 change ((x.cps.toList.drop (p:Int).toNat).take ((x.cps.toList.length:Int)-p).toNat).toArray.toList=_;rw[qF1];show qE1 (by rw[qC9];omega)
def iR (hn:n<=8):∃ws,C4 [.int z,.int (n:Nat)]=.ok (lS ws)/\Nms n ws/\∃L,∀w∈ws,w.length=L:=by
 have ae:Ok (C4 [.int z,.int (n:Nat)]) λv=>∃ws,v=lS ws/\Nms n ws/\∃L,∀w∈ws,w.length=L:=by
  obtain ⟨base,eb,hl,hL,_⟩:=dY (z:=z/8%1000000000000) (k:=(1+z%8).toNat) Qo;rw[show (((1+z%8).toNat:Nat):Int)=1+z%8 by omega]at eb;have s0:0<1+z%8:=Qo;have q0:=qK8 (z/80) (show 1+z%8≠0 by omega);have q1:=qK0 (z/80) s0;obtain ⟨p,hp⟩:∃p:Nat,z/80%(1+z%8)=(p:Int):=⟨(z/80%(1+z%8)).toNat,Qo⟩;rw[hp]at q1;have b0:p<base.length:=Qo;have ha:=uP (x:=base) (p:=p) Qo;have hd:=wd (x:=base) (p:=p+1) Qo;rw[show ((p+1:Nat):Int)=(p:Int)+1 by omega]at hd;have la:(Txt.slice base none (some (p:Int))).length=p:=by rw[<- j5,ha,qB9,j5];omega
  have ld:(Txt.slice base (some ((p:Int)+1)) none).length=base.length-(p+1):=by rw[<- j5,hd,qC9,j5]
  have sa:slS (.str base) none (some (p:Int))=.ok (.str (Txt.slice base none (some (p:Int)))):=qA9 Qo;have sd:slS (.str base) (some ((p:Int)+1)) none=.ok (.str (Txt.slice base (some ((p:Int)+1)) none)):=qA9 Qo;generalize Txt.slice base none (some (p:Int))=A at *
  generalize Txt.slice base (some ((p:Int)+1)) none=E at *
  exists rpB,Y0,p12,eb,hp
  let c:Nat->Nat:=λk=>122-((z/640+3*(k:Int))%26).toNat
  let g:Nat->Str:=λk=>A++⟨#[c k]⟩++E
  have gc:∀k,cl (g k)=cl A ++ [c k]++cl E:=λk=>by change cl (A++⟨#[c k]⟩++E)=_;rw[d7,d7]
  have gl:∀k,(g k).length=base.length:=λk=>by
   change (A++⟨#[c k]⟩++E).length=_;rw[qF6,qF6,la,ld]
   change p+1+_=_;omega
  have gn:∀k,Nm (g k):=λk=>by
   have hlen:=gl k;refine ⟨Qo,Qo,λx I=>?_⟩;rw[gc]at I;rcases qB7.mp I with I|I
   .rcases qB7.mp I with I|I
    .rw[ha]at I;show hL x (qD0 I)
    .rw[qC4.mp I];change 97<=122-((z/640+3*(k:Int))%26).toNat/\122-((z/640+3*(k:Int))%26).toNat<=122;omega
   .rw[hd]at I;show hL x (qF2 I)
  have gi:∀j k:Nat,j<8->k<8->g j=g k->j=k:=λj k hj hk e=>by
   have e2:cl A ++ [c j]++cl E=cl A ++ [c k]++cl E:=by rw[<- gc,<- gc,e]
   have e3:c j=c k:=by
    have:=List.append_cancel_right e2
    have:=List.append_cancel_left this
    show List.singleton_inj.mp this
   have e4:122-((z/640+3*(j:Int))%26).toNat=122-((z/640+3*(k:Int))%26).toNat:=e3;omega
  refine R0 (F6 (λi ρ=>∃x:Sl,ρ = [.par (.int z),.par (.int (n:Nat)),.val (.int (1+z%8)),.val (.str base),.val (.int (p:Int)),.own (((List.range i).map g).map W.str),x]) ⟨_,rfl⟩ ?_ ?_)
  .rintro i u ρ hu ⟨x,rfl⟩;obtain ⟨hi,rfl⟩:=bL hu;obtain ⟨w,O,_,_,a3⟩:=dY (z:=z/640+3*(i:Int)) (k:=1) Qy;rw[a3 rfl,show ((1:Nat):Int)=1 from rfl]at O;replace O:u9 [.int (z/640+3*(i:Int)),.int 1]=.ok (.str ⟨#[c i]⟩):=O
   have f1:A.length+(⟨#[c i]⟩:Str).length<=100000:=by rw[la];change p+1<=_;omega
   have f2:(A++⟨#[c i]⟩:Str).length+E.length<=100000:=by rw[qF6,la,ld];change p+1+_<=_;omega
   have ll:(((List.range i).map g).map W.str).length<1000:=by rw[qA0,qA0,qG0];omega
   refine ⟨_,rfl,?_⟩;exists O,sa,sd;refine ⟨.par (.int (i:Nat)),?_⟩;rw[List.range_succ,qB1,qB1];rfl
  .rintro ρ ⟨x,rfl⟩;rw[qA0,qG0];exists rp18;refine ⟨(List.range n).map g,rfl,⟨by rw[qA0,qG0],λw hw=>?_,?_⟩,base.length,λw hw=>by obtain ⟨k,_,rfl⟩:=qA6.mp hw;show gl k⟩
   .obtain ⟨k,_,rfl⟩:=qA6.mp hw;show gn k
   .refine qI6.mpr ?_;refine List.Pairwise.imp_of_mem ?_ List.nodup_range;intro j k hj hk a4 e;show a4 (gi j k (by have:=qH5.mp hj;omega) (by have:=qH5.mp hk;omega) e)
 obtain ⟨v,e,ws,rfl,h⟩:=ae;show ⟨ws,e,h⟩
def eG (h:Cn c):c.natAbs.log2<1920:=pI (qJ7 (show c.natAbs<=1000000000 by have:=h.1;have:=h.2;omega) Qx)
def cw (z:Int):∃y:Int,C5 [.int z]=.ok (.str (num y))/\Cn y/\1<=y:=by
 by_cases h:z%3=1
 .have c:Cn (1000000000-z/3%2):=⟨Qo,Qo⟩;have O:=eG c;exists rpB,F9,qL6 h,p9;show ⟨_,rfl,c,Qo⟩
 .have I:z/12%3=0\/z/12%3=1\/z/12%3=2:=Qo;rcases I with I|I|I
  .have c:Cn (1+z/3%9):=⟨Qo,Qo⟩;have O:=eG c;exists rpB,F9,qL1 h,I,a30;show ⟨_,rfl,c,Qo⟩
  .have c:Cn (1+z/3%99):=⟨Qo,Qo⟩;have O:=eG c;exists rpB,F9,qL1 h,I,a31;show ⟨_,rfl,c,Qo⟩
  .have c:Cn (1+z/3%999999937):=⟨Qo,Qo⟩;have O:=eG c;exists rpB,F9,qL1 h,I,a32;show ⟨_,rfl,c,Qo⟩
def posP (l:List Pr):Prop:=∀p∈l,1<=p.1/\Cn p.1
def posP.snoc (h:posP l) (h1:1<=c) (hc:Cn c):posP (l ++ [(c,x)]):=λp I=>by
 rcases qB7.mp I with I|I
 .show h p I
 .rw[qC4.mp I];show ⟨h1,hc⟩
def kS:∀(l:List Pr) (c:Int) (x:Str),fl (l ++ [(c,x)])=fl l ++ [num c,x]
 | [],_,_=>rfl
 |p::l,c,x=>by change num p.1::p.2::fl (l ++ [(c,x)])=_;rw[kS l c x];rfl
def Drawn (ps:Jk)(m:Mt):Prop:=posP m.2.1/\posP m.2.2/\∃t,1<=t/\t<=ps.length/\m.2.1.map (·.2)=ps.take t/\m.2.2.map (·.2) = [ps.getD (ps.length-1) Str.empty]
def bE {ps:Jk}(hi:i<ps.length):ps.take (i+1)=ps.take i ++ [ps.getD i Str.empty]:=by
 refine take_one ?_;rw[qD4,qC3 hi];rfl
def hd3 (n:Str):List Str:=[Str.ofString "move",n,Str.ofString "takes"]
def pG {S:JQ}(hb:∀x∈S,Builtin.Int.intBits x<=1048576) (h1:1<=ps.length) (h5:ps.length<=5) (h7:ns.length<=7):∃(pl:List Pl) (ml:List Mt),J3 [.scr (S.map W.int),lS ps,lS ns]=.ok (.lst ((a9 pl ml).map lS))/\pl.map (·.1)=ps/\ml.map (·.1)=ns/\(∀p∈pl,1<=p.2/\Cn p.2)/\∀m∈ml,Drawn ps m:=by
 have b0:Ok (J3 [.scr (S.map W.int),lS ps,lS ns]) λv=>∃(pl:List Pl) (ml:List Mt),v=.lst ((a9 pl ml).map lS)/\pl.map (·.1)=ps/\ml.map (·.1)=ns/\(∀p∈pl,1<=p.2/\Cn p.2)/\∀m∈ml,Drawn ps m:=by
  exists rpB,X9;refine R0 (F6 (λi ρ=>∃(pl:List Pl) (x:Sl),ρ = [.par (.scr (S.map W.int)),.par (lS ps),.par (lS ns),.own ((pl.map pw).map lS),x,.un,.un]/\pl.map (·.1)=ps.take i/\∀p∈pl,1<=p.2/\Cn p.2) ⟨[],_,rfl,by rw[qI9];rfl,λ_ h=>by cases h⟩ ?_ ?_)
  .rintro i u ρ hu ⟨pl,x,rfl,I,hc⟩;obtain ⟨hi,rfl⟩:=bL hu;obtain ⟨z,ez⟩:=P9 hb (k:=12+(i:Int)) Qo Qo;obtain ⟨y,ey,hy,a3⟩:=cw z;have ta:=cy (ts:=ps) (i:=(i:Int)) ⟨Qo,Qo⟩;rw[qF1]at ta;have hlen:pl.length=i:=by
    have:=congrArg List.length I
    rw[qA0,qB9]at this;omega
   have ll:((pl.map pw).map lS).length<1000:=by rw[qA0,qA0];omega
   refine ⟨_,rfl,?_⟩;exists ta,ez,ey;refine ⟨pl ++ [(ps.getD i Str.empty,y)],.par (.int (i:Nat)),by rw[qB1,qB1];rfl,by rw[qB1,I,bE hi];rfl,λp I=>?_⟩;rcases qB7.mp I with I|I
   .show hc p I
   .rw[qC4.mp I];show ⟨a3,hy⟩
  .rintro ρ ⟨pl,x,rfl,I,hc⟩;rw[qA0,qG0,qG3]at I;have b3:pl.length=ps.length:=by rw[<- I,qA0]
   exists rp18;refine F6 (λi ρ=>∃(ml:List Mt) (x y z:Sl),ρ = [.par (.scr (S.map W.int)),.par (lS ps),.par (lS ns),.own ((a9 pl ml).map lS),x,y,z]/\ml.map (·.1)=ns.take i/\∀m∈ml,Drawn ps m) ⟨[],_,_,_,by unfold a9;rw[qG1,qD1],by rw[qI9];rfl,λ_ h=>by cases h⟩ ?_ ?_
   .rintro i u ρ hu ⟨ml,x,y,z,rfl,hm,hd⟩;obtain ⟨hi,rfl⟩:=bL hu;obtain ⟨z0,ez⟩:=P9 hb (k:=20+(i:Int)) Qo Qo;have ta:=cy (ts:=ns) (i:=(i:Int)) ⟨Qo,Qo⟩;rw[qF1]at ta;have q0:=qK8 z0 (show (ps.length:Int)≠0 by omega);have q1:=qK0 z0 (show (0:Int)<ps.length by omega);obtain ⟨t,ht⟩:∃t:Nat,1+z0%(ps.length:Int)=(t:Int):=⟨(1+z0%(ps.length:Int)).toNat,Qo⟩;have ae:ml.length=i:=by
     have:=congrArg List.length hm
     rw[qA0,qB9]at this;omega
    have ll:((a9 pl ml).map lS).length<1000:=by rw[qA0,qA1,qA0,qA0];omega
    refine ⟨_,rfl,?_⟩;exists ta,ez,ht;refine F6 (λj ρ=>∃(T:List Pr) (x:Sl),ρ = [.par (.scr (S.map W.int)),.par (lS ps),.par (lS ns),.own ((a9 pl ml).map lS),x,.par (.int (i:Nat)),.own ((hd3 (ns.getD i Str.empty)++fl T).map W.str)]/\posP T/\T.map (·.2)=ps.take j) ⟨[],x,rfl,λ_ h=>(by cases h),by rw[qI9];rfl⟩ ?_ ?_
    .rintro j u ρ hu ⟨T,x,rfl,hT,O⟩;obtain ⟨hj,rfl⟩:=bL hu;obtain ⟨z1,b4⟩:=P9 hb (k:=27+5*(i:Int)+(j:Int)) Qo Qo;obtain ⟨y,ey,hy,a3⟩:=cw z1;have tp:=cy (ts:=ps) (i:=(j:Int)) ⟨Qo,Qo⟩;rw[qF1]at tp;have a4:T.length=j:=by
      have:=congrArg List.length O
      rw[qA0,qB9]at this;omega
     have lc:((hd3 (ns.getD i Str.empty)++fl T).map W.str).length + [W.str (num y),W.str (ps.getD j Str.empty)].length<=1000:=by
      rw[qA0,qA1,i7];change 3+_+2<=1000;omega
     refine ⟨_,rfl,?_⟩;exists rp18;rw[b4,jE,R.ok_bind];exists ey,tp;refine ⟨T ++ [(y,ps.getD j Str.empty)],.par (.int (j:Nat)),?_,hT.snoc a3 hy,by rw[qB1,O,bE Qo];rfl⟩;rw[kS,<- qB6,qB1 (l₂:=[num y,ps.getD j Str.empty])];rfl
    .rintro ρ ⟨T,x,rfl,hT,O⟩;rw[qA0,qG0]at O;obtain ⟨y,ey,hy,a3⟩:=cw (z0/7);have tl:L2.atI (ps.map W.str) (-1)=some (.str (ps.getD (ps.length-1) Str.empty)):=by
      unfold L2.atI ixN;rw[qB4 Qy,qA9 (by rw[qA0];omega)]
      change (ps.map W.str)[_]?=_;have e:((-1:Int)+((ps.map W.str).length:Nat)).toNat=ps.length-1:=by rw[qA0];omega
      rw[e,qC1,qC3 Qo,qD4,qC3 Qo];rfl
     have a4:T.length=t:=by
      have:=congrArg List.length O
      rw[qA0,qB9]at this;omega
     have lc:((hd3 (ns.getD i Str.empty)++fl T).map W.str).length + [W.str "puts",W.str (num y),W.str (ps.getD (ps.length-1) Str.empty)].length<=1000:=by
      rw[qA0,qA1,i7];change 3+_+3<=1000;omega
     have ew:(hd3 (ns.getD i Str.empty)++fl T).map W.str ++ [W.str "puts",W.str (num y),W.str (ps.getD (ps.length-1) Str.empty)]=(mw (ns.getD i Str.empty) T [(y,ps.getD (ps.length-1) Str.empty)]).map W.str:=by
      unfold mw mg hd3;rw[qB1];simp only [qB2,qB1,qG1,qG6,qH8,qB6,fl]
     exists ez,ey,tl;rw[ew];refine ⟨ml ++ [(ns.getD i Str.empty,T,[(y,ps.getD (ps.length-1) Str.empty)])],x,.par (.int (i:Nat)),.val (lS (mw (ns.getD i Str.empty) T [(y,ps.getD (ps.length-1) Str.empty)])),?_,by rw[qB1,hm,bE hi];rfl,λm hm=>?_⟩
     .unfold a9;simp only [qB1,qB6];rfl
     .rcases qB7.mp hm with hm|hm
      .show hd m hm
      .rw [qC4.mp hm]
       show ⟨hT,(λp I=>by rw[qC4.mp I];show ⟨a3,hy⟩),t,Qo,Qo,O,rfl⟩
   .rintro ρ ⟨ml,x,y,z,rfl,hm,hd⟩;rw[qA0,qG0,qG3]at hm;exists rp18;show ⟨pl,ml,rfl,I,hm,hc,hd⟩
 obtain ⟨v,e,pl,ml,rfl,h⟩:=b0;show ⟨pl,ml,e,h⟩
def Bz (h:Nm w):shp n (.str w)=true:=kj λc hc=>by have:=h.2.2 c hc;omega
def ki:∀{ws:Jk},(∀w∈ws,Nm w)->R8 n (ws.map W.str)=true
 | [],_=>rfl
 | w::r,h=>by
  change (shp n (.str w)&&R8 n (r.map W.str))=true;rw[Bz (h w (qA2 ..)),ki λx I=>h x (qA4 _ I)];rfl
structure Dw (pl:List Pl) (ml:List Mt):Prop where
 n1:1<=pl.length
 n5:pl.length<=5
 m1:1<=ml.length
 m7:ml.length<=7
 np:∀p∈pl,Nm p.1/\Cn p.2/\1<=p.2
 nn:∀m∈ml,Nm m.1
 d1:(pl.map (·.1)).Nodup
 d2:(ml.map (·.1)).Nodup
 dr:∀m∈ml,Drawn (pl.map (·.1)) m
 ls:∃L,∀p∈pl,p.1.length=L
 lm:∃L,∀m∈ml,m.1.length=L
def Dw.len (D:Dw pl ml):(a9 pl ml).length=pl.length+ml.length:=by rw[qA1,qA0,qA0]
def nJ (O:posP T) (hd:ps.Nodup) (h:T.map (·.2)=ps.take t) (h5:ps.length<=20):Told ps T:=by
 have hl:T.length<=ps.length:=by
  have:=congrArg List.length h
  rw[qA0,qB9]at this;omega
 refine ⟨λp I=>⟨(O p I).1,(O p I).2,?_⟩,by rw[h];show qH7 (qH9 t ps) hd,Qo⟩
 have:p.2∈T.map (·.2):=qA6.mpr ⟨p,I,rfl⟩
 rw[h]at this;show qD0 this
def rm (O:posP T) (hx:x∈ps) (h:T.map (·.2) = [x]):Told ps T:=by
 have hl:T.length=1:=by
  have:=congrArg List.length h
  rw[qA0]at this;show this
 refine ⟨λp I=>⟨(O p I).1,(O p I).2,?_⟩,by rw[h];simp,Qo⟩
 have:p.2∈T.map (·.2):=qA6.mpr ⟨p,I,rfl⟩
 rw[h]at this;rw[qC4.mp this];show hx
def Dw.tol (D:Dw pl ml):∀m∈ml,Told (pl.map (·.1)) m.2.1/\Told (pl.map (·.1)) m.2.2:=λm hm=>by
 obtain ⟨h1,h2,t,t1,t2,I,O⟩:=D.dr m hm;have n5:=D.n5;have n1:=D.n1;refine ⟨nJ h1 D.d1 I (by rw[qA0];omega),rm h2 ?_ O⟩;rw[qD4,qC3 (by rw[qA0];omega)];show qH4 _
def Dw.sm_ (D:Dw pl ml):K6 pl ml:=
 ⟨by have:=D.n5;omega,by have:=D.m7;omega,λp I=>⟨(D.np p I).1,(D.np p I).2.1⟩,λm hm=>⟨D.nn m hm,D.tol m hm⟩,D.d1,D.d2⟩
def AO (h:Nm p.1/\Cn p.2):Q20 (pw p):=by
 refine ⟨by change 1<=3;decide,by change 3<=30;decide,λw hw=>?_⟩;rcases qA7.mp hw with rfl|hw
 .show x4 J8
 rcases qA7.mp hw with rfl|hw
 .show x4 (P1 h.1)
 rcases qA7.mp hw with rfl|hw
 .show x4 (M4 h.2)
 .cases hw
def Dw.lenT (D:Dw pl ml) (hm:m∈ml):1<=m.2.1.length/\m.2.1.length<=5/\m.2.2.length=1:=by
 obtain ⟨h1,h2,t,t1,t2,O,e2⟩:=D.dr m hm;have I:=congrArg List.length O;have l2:=congrArg List.length e2;rw[qA0,qB9,qA0]at I;rw[qA0]at l2
 have:=D.n5
 rw[qA0]at t2;show ⟨Qo,Qo,l2⟩
def Dw.q (D:Dw pl ml):∀q∈a9 pl ml,Q20 q:=λq I=>by
 have a3:∀k∈pl.map (·.1),Nm k:=λk hk=>by
  obtain ⟨p,O,rfl⟩:=qA6.mp hk;show (D.np p O).1
 rcases qB7.mp I with I|I
 .obtain ⟨p,O,rfl⟩:=qA6.mp I;show AO ⟨(D.np p O).1,(D.np p O).2.1⟩
 .obtain ⟨m,hm,rfl⟩:=qA6.mp I;have l:=D.lenT hm;refine ⟨by rw[V1];omega,by rw[V1];omega,λw hw=>x4 (vn a3 (D.nn m hm) (D.tol m hm).1 (D.tol m hm).2 w hw)⟩
def Dw.reads (D:Dw pl ml):J2 [.str (told (a9 pl ml)),lS (pl.map (·.1)),lS (ml.map (·.1)),tI (pl.map (·.2))]=.ok (.bl true):=by
 have n5:=D.n5;have m7:=D.m7;have hl:=D.len;have I:=aU (by rw[hl];have:=D.n1;omega) Qo D.q;rw[aP]at I;have r:=wq D.sm_ I D.n1 Qo Qo;have e1:=bv (neg:=false) (w:=tI (pl.map (·.2))) (dG 7 _);have I:∀{ws:Jk},(∀w∈ws,Nm w)->fEq false (lS ws) (lS ws)=.ok (.bl (!false)):=λ{ws} h=>bv (neg:=false) (w:=lS ws) (ki (n:=7) h);have e2:=I (ws:=pl.map (·.1)) λk O=>by
  obtain ⟨p,hp,rfl⟩:=qA6.mp O;show (D.np p hp).1
 have e3:=I (ws:=ml.map (·.1)) λk O=>by
  obtain ⟨p,hp,rfl⟩:=qA6.mp O;show D.nn p hp
 exists rpB,X8,w9 r,e1,e2,e3
def ar {α:Type}(f:α->W){Q:List α}(ha:a<=Q.length):k7 (Q.map f) none (some (a:Int))=(Q.take a).map f/\k7 (Q.map f) (some (a:Int)) none=(Q.drop a).map f:=by
 constructor
 .rw [C6]
  congr 1;unfold B5;rw[HT.sIx_nat,HT.sIx_none,qH1 ha,qL2,Nat.sub_zero]
 .rw [C6]
  congr 1;unfold B5;rw[HT.sIx_nat,HT.sIx_none,qH1 ha];show qE1 (by rw[qC9];show qB8 _)
def eV {α:Type}{Q:List α}{b:α}(ha:a<Q.length):Q.set a b=Q.take a++b::Q.drop (a+1):=by
 rw[List.set_eq_take_append_cons_drop,qA9 ha]
def P4 {Q:List Jk}(ha:a<Q.length) (hl:Q.length<=100):d4 [.lst (Q.map lS),.int (a:Nat),lS bw]=.ok (.lst ((Q.set a bw).map lS)):=by
 have O:=(ar lS (Q:=Q) (a:=a) Qo).1;have I:=(ar lS (Q:=Q) (a:=a+1) Qo).2;rw[show ((a+1:Nat):Int)=(a:Int)+1 by omega]at I;have l1:((Q.take a).map lS).length + [lS bw].length<=1000:=by rw[qA0,qB9];change _+1<=_;omega
 have l2:((Q.take a).map lS ++ [lS bw]).length+((Q.drop (a+1)).map lS).length<=1000:=by rw[qA1,qA0,qA0,qB9,qC9];change _+1+_<=_;omega
 exists rpB,al,O,I;rw[eV ha,qB1,qB2,qB6];rfl
def jK (D:Dw pl ml) (ha:a<pl.length) (hq:Q20 bw) (h:bD (pl.take a) [] bw):u8 [.str (told ((a9 pl ml).set a bw))]=NX:=by
 have n5:=D.n5;have m7:=D.m7;have hlen:=D.len;have F:K6 (pl.take a) []:=⟨by rw[qB9];omega,qD7 _,λp O=>⟨(D.np p (qD0 O)).1,(D.np p (qD0 O)).2.1⟩,(λ_ h=>by cases h),by rw[qG8];show qH7 (qH9 _ _) D.d1,List.Pairwise.nil⟩;have e:(a9 pl ml).set a bw=a9 (pl.take a) []++bw::(a9 pl ml).drop (a+1):=by
  rw[eV Qo];congr 1
  change (pl.map pw++ml.map mws).take a=(pl.take a).map pw ++ [];rw[qD1,qG8,qN1 (by rw[qA0];omega)]
 rw[e];refine refuse F ?_ ?_ h
 .rw[<- e,qD3];omega
 .intro q I;rw[<- e]at I;rcases qI7 I with I|rfl
  .show D.q q I
  .show hq
def U9:∀ts:List Str,T7 (ts.map W.str)=some ts
 | []=>rfl
 | x::r=>by
  change (match rz (.str x),T7 (r.map W.str) with|some x,some xs=>some (x::xs)|_,_=>none)=_;rw[U9 r];rfl
def jb (h:∀y∈ts,y.length<=B) (I:ts.length*B+ts.length*a.length<=16777216):ck a (lS ts)=.ok (.str (Str.join a ts)):=by
 unfold ck;dsimp only;rw[U9];dsimp only;rw[qA9 (by unfold JoinOk;rw[StrLaws.joinFits h I];rfl)];unfold Txt.join;rw[StrLaws.glued_eq_join]
def sj (h:Q20 q):ck B1 (lS q)=.ok (.str (Str.join B1 q)):=by
 refine jb (B:=20) (λy I=>(h.2.2 y I).1) ?_;rw[lB1]
 have:=h.2.1
 omega
def Z8 {Q:List Jk}(O:ρ.length=k) (hN:N'=k+1) (hl:Q.length<=40) (hq:∀q∈Q,Q20 q):U5 N' (gN .U k) yes (P3 (mC (.str B1)) (a6 .B k)) (Q.map lS) ρ=.ok (lS (Q.map (Str.join B1))):=by
 subst O hN;have e:=P8 (N':=ρ.length+1) (mg:=gN .U ρ.length) (me:=P3 (mC (.str B1)) (a6 .B ρ.length)) (λq=>W.str (Str.join B1 q)) lS Q ρ Qo (λq I=>by
  refine ⟨_,rfl,?_⟩;have e1:(a6 .B ρ.length) ((ρ++List.replicate (ρ.length+1-ρ.length) Sl.un).set ρ.length (.par (lS q)))=.ok (lS q):=by
   rw[cK,qE0 (by rw[qA1,qO4];omega)];rfl
  change jD (.ok (.str B1)) ((a6 .B ρ.length) ((ρ++List.replicate (ρ.length+1-ρ.length) Sl.un).set ρ.length (.par (lS q))))=_;rw[e1];show sj (hq q I))
 rw[e]
 change _=R.ok (W.lst ((Q.map (Str.join B1)).map W.str));rw[qD5];rfl
def Y9 (hl:Q.length<=40) (I:∀q∈Q,Q20 q):ck B2 (lS (Q.map (Str.join B1)))=.ok (.str (told Q)):=by
 refine jb (B:=630) (λy O=>?_) ?_
 .obtain ⟨q,h,rfl⟩:=qA6.mp O;show S0 (I q h)
 .rw [lB2,qA0]
  omega
def F5 (a b c d:W):M2 4 N m [a,b,c,d]=S8 (m (Sl.val a::Sl.val b::Sl.val c::Sl.val d::List.replicate (N-4) Sl.un)):=kl rfl
def Ref (v:W):Prop:=∃Q:List Jk,v=.lst (Q.map lS)/\1<=Q.length/\Q.length<=40/\(∀q∈Q,Q20 q)/\u8 [.str (told Q)]=NX
def atQ {Q:List Jk}{a:Nat}(h:Q[a]?=some q):L2.atI (Q.map lS) (a:Int)=some (lS q):=by
 have hl:=(qA5.mp h).1;unfold L2.atI;rw[W8 Qo (by rw[qA0];omega)]
 change (Q.map lS)[(a:Int).toNat]?=_;rw[qF1,qC1,h];rfl
def gz (O:k<14):y0 [.int (k:Nat)]=.ok (.str (badC.getD k Str.empty)):=by
 have e:=cy (ts:=badC) (i:=(k:Int)) ⟨Qo,by change (k:Int)<14;omega⟩;rw[qF1]at e;have I:L2.atI [W.str "",W.str "00",W.str "01",W.str "1000000001",W.str "99999999999",W.str "+1",W.str "-1",W.str "1_0",W.str "1.0",W.str "a",W.str "1e3",W.str "0x1",W.str "1\t",W.str "\n1"] (k:Int)=some (.str (badC.getD k Str.empty)):=e;exists rpB,S5,I
instance (w:Str):Decidable (W20 w):=by unfold W20;infer_instance
def lu:∀w∈badC,W20 w:=Qx
def lr (I:k<14):badC.getD k Str.empty∈badC:=by
 rw[qD4,qC3 (show k<badC.length from I)];show qH4 _
def Dw.atp {a:Nat}(D:Dw pl ml) (I:pl[a]?=some p):(a9 pl ml)[a]?=some (pw p):=by
 have:=(qA5.mp I).1
 rw[qD2 (by rw[qA0];show this),qC1,I];rfl
def Dw.set_ref (D:Dw pl ml) (hp:pl[a]?=some p) (O:Q20 bw) (h:bD (pl.take a) [] bw):Ref (.lst (((a9 pl ml).set a bw).map lS)):=by
 have ha:=(qA5.mp hp).1;have n5:=D.n5;have m7:=D.m7;have hlen:=D.len;refine ⟨_,rfl,by rw[qD3];omega,by rw[qD3];omega,λq I=>?_,jK D ha O h⟩;rcases qI7 I with I|rfl
 .show D.q q I
 .show O
def Dw.fresh (D:Dw pl ml)(I:pl[a]?=some p):p.1∉(pl.take a).map (λp=>p.1):=K91.fresh D.d1 I
abbrev FP (pl:List Pl)(ml:List Mt)(a:Nat) (k:Int):R W:=v5 [.lst ((a9 pl ml).map lS),.int (pl.length:Nat),.int k,.int (a:Nat)]
def Cv (D:Dw pl ml) (O:pl[a]?=some p) (hk:k<14):Ok (FP pl ml a (k:Nat)) Ref:=by
 have ha:=(qA5.mp O).1;have I:=D.np p (qB5 O);have n5:=D.n5;have m7:=D.m7;have hlen:=D.len;have e0:=atQ (D.atp O);have e1:decide ((k:Int)<14)=true:=qL6 Qo;have bc:=lr hk;generalize hy:badC.getD k Str.empty=y at bc
 have ac:=gz hk;rw[hy]at ac;have w:d4 [.lst ((a9 pl ml).map lS),.int (a:Nat),.lst [.str "place",.str p.1,.str y]]=_:=P4 (Q:=a9 pl ml) (a:=a) (bw:=[Str.ofString "place",p.1,y]) Qo Qo;have r:=D.set_ref O (bw:=[Str.ofString "place",p.1,y]) ⟨by change 1<=3;decide,by change 3<=30;decide,λw hw=>by
  rcases qA7.mp hw with rfl|hw
  .show x4 J8
  rcases qA7.mp hw with rfl|hw
  .show x4 (P1 I.1)
  rcases qA7.mp hw with rfl|hw
  .show lu _ bc
  .cases hw⟩ (.inr (.inl ⟨rfl,rfl,λq=>oM rfl I.1 (D.fresh O) (lj _ bc)⟩))
 exists F5,d6,e0,e1,ac,a30,a31,w
 first|show r|show ⟨_,rfl,r⟩
def Gy (D:Dw pl ml) (I:pl[a]?=some p):Ok (FP pl ml a 14) Ref:=by
 have ha:=(qA5.mp I).1;have O:=D.np p (qB5 I);have n5:=D.n5;have m7:=D.m7;have hlen:=D.len;have e0:=atQ (D.atp I);have w:d4 [.lst ((a9 pl ml).map lS),.int (a:Nat),.lst [.str "place",.str p.1]]=_:=P4 (Q:=a9 pl ml) (a:=a) (bw:=[Str.ofString "place",p.1]) Qo Qo;have r:=D.set_ref I (bw:=[Str.ofString "place",p.1]) ⟨by change 1<=2;decide,by change 2<=30;decide,λw hw=>by
  rcases qA7.mp hw with rfl|hw
  .show x4 J8
  rcases qA7.mp hw with rfl|hw
  .show x4 (P1 O.1)
  cases hw⟩ (.inr (.inl ⟨rfl,rfl,λq=>place_len (by change 2≠3;decide)⟩))
 exists F5,d6,e0,a30,a31,a32,w
 first|show r|show ⟨_,rfl,r⟩
def Gx (D:Dw pl ml) (O:pl[a]?=some p):Ok (FP pl ml a 15) Ref:=by
 have ha:=(qA5.mp O).1;have I:=D.np p (qB5 O);have n5:=D.n5;have m7:=D.m7;have hlen:=D.len;have e0:=atQ (D.atp O);have w:d4 [.lst ((a9 pl ml).map lS),.int (a:Nat),.lst [.str "place",.str p.1,.str (num p.2),.str "1"]]=_:=P4 (Q:=a9 pl ml) (a:=a) (bw:=[Str.ofString "place",p.1,num p.2,Str.ofString "1"]) Qo Qo;have r:=D.set_ref O (bw:=[Str.ofString "place",p.1,num p.2,Str.ofString "1"]) ⟨by change 1<=4;decide,by change 4<=30;decide,λw hw=>by
  rcases qA7.mp hw with rfl|hw
  .show x4 J8
  rcases qA7.mp hw with rfl|hw
  .show x4 (P1 I.1)
  rcases qA7.mp hw with rfl|hw
  .show x4 (M4 I.2.1)
  rcases qA7.mp hw with rfl|hw
  .show Qx
  cases hw⟩ (.inr (.inl ⟨rfl,rfl,λq=>place_len (by change 4≠3;decide)⟩))
 exists F5,d6,e0,a30,a31,a32,w
 first|show r|show ⟨_,rfl,r⟩
def Gv (D:Dw pl ml) (I:pl[a]?=some p):Ok (FP pl ml a 17) Ref:=by
 have ha:=(qA5.mp I).1;have O:=D.np p (qB5 I);have n5:=D.n5;have m7:=D.m7;have hlen:=D.len;have e0:=atQ (D.atp I);have w:d4 [.lst ((a9 pl ml).map lS),.int (a:Nat),.lst [.str "place",.str "abcdefghi",.str (num p.2)]]=_:=P4 (Q:=a9 pl ml) (a:=a) (bw:=[Str.ofString "place",Str.ofString "abcdefghi",num p.2]) Qo Qo;have r:=D.set_ref I (bw:=[Str.ofString "place",Str.ofString "abcdefghi",num p.2]) ⟨by change 1<=3;decide,by change 3<=30;decide,λw hw=>by
  rcases qA7.mp hw with rfl|hw
  .show x4 J8
  rcases qA7.mp hw with rfl|hw
  .show Qx
  rcases qA7.mp hw with rfl|hw
  .show x4 (M4 O.2.1)
  cases hw⟩ (.inr (.inl ⟨rfl,rfl,λq=>Q9 rfl Qx (.inl (λh=>absurd h.2.1 Qx))⟩))
 exists F5,d6,e0,a30,a31,a32,w
 first|show r|show ⟨_,rfl,r⟩
def Gr (D:Dw pl ml) (O:pl[a]?=some p):Ok (FP pl ml a 20) Ref:=by
 have ha:=(qA5.mp O).1;have I:=D.np p (qB5 O);have n5:=D.n5;have m7:=D.m7;have hlen:=D.len;have e0:=atQ (D.atp O);have w:d4 [.lst ((a9 pl ml).map lS),.int (a:Nat),.lst [.str "places",.str p.1,.str (num p.2)]]=_:=P4 (Q:=a9 pl ml) (a:=a) (bw:=[Str.ofString "places",p.1,num p.2]) Qo Qo;have r:=D.set_ref O (bw:=[Str.ofString "places",p.1,num p.2]) ⟨by change 1<=3;decide,by change 3<=30;decide,λw hw=>by
  rcases qA7.mp hw with rfl|hw
  .show Qx
  rcases qA7.mp hw with rfl|hw
  .show x4 (P1 I.1)
  rcases qA7.mp hw with rfl|hw
  .show x4 (M4 I.2.1)
  cases hw⟩ (.inr (.inr ⟨_,rfl,Qx,.inl Qx⟩))
 exists F5,d6,e0,a30,a31,a32,w
 first|show r|show ⟨_,rfl,r⟩
def Gu (D:Dw pl ml) (hp:pl[a]?=some p):Ok (FP pl ml a 18) Ref:=by
 have ha:=(qA5.mp hp).1;have a4:=D.np p (qB5 hp);have n5:=D.n5;have m7:=D.m7;have hlen:=D.len;have e0:=atQ (D.atp hp);have c:=ar lS (Q:=a9 pl ml) (a:=pl.length) Qo;have t1:(a9 pl ml).take pl.length=a9 pl []:=by
  change (pl.map pw++ml.map mws).take pl.length=pl.map pw ++ [];rw[qD1,qU4 (by rw[qA0])]
 have t2:(a9 pl ml).drop pl.length=ml.map mws:=by
  change (pl.map pw++ml.map mws).drop pl.length=_;rw[qU5 (by rw[qA0])]
 rw[t1,t2]at c;have a3:(a9 pl []).length=pl.length:=by rw[qA1,qA0];rfl
 have l1:((a9 pl []).map lS).length + [W.lst [W.str "place",W.str p.1,W.str "3"]].length<=1000:=by rw[qA0,a3];change _+1<=_;omega
 have l2:((a9 pl []).map lS ++ [W.lst [W.str "place",W.str p.1,W.str "3"]]).length+((ml.map mws).map lS).length<=1000:=by rw[qA1,qA0,a3,qA0,qA0];change _+1+_<=_;omega
 have F:K6 pl []:=⟨Qo,qD7 _,λp hp=>⟨(D.np p hp).1,(D.np p hp).2.1⟩,(λ_ h=>by cases h),D.d1,List.Pairwise.nil⟩;have I:∀q∈a9 pl [] ++ [Str.ofString "place",p.1,Str.ofString "3"]::ml.map mws,Q20 q:=λq I=>by
  rcases qB7.mp I with I|I
  .show D.q q (by rw[<- t1]at I;show qD0 I)
  .rcases qA7.mp I with rfl|I
   .refine ⟨by change 1<=3;decide,by change 3<=30;decide,λw hw=>?_⟩;rcases qA7.mp hw with rfl|hw
    .show x4 J8
    rcases qA7.mp hw with rfl|hw
    .show x4 (P1 a4.1)
    rcases qA7.mp hw with rfl|hw
    .decide +kernel
    .cases hw
   .show D.q q (qC2 _ I)
 have O:(a9 pl [] ++ [Str.ofString "place",p.1,Str.ofString "3"]::ml.map mws).length<=40:=by rw[qA1,a3,qA3,qA0];omega
 have r:Ref (.lst ((a9 pl [] ++ [Str.ofString "place",p.1,Str.ofString "3"]::ml.map mws).map lS)):=⟨_,rfl,by rw[qA1,qA3];omega,O,I,refuse F O I (.inr (.inl ⟨rfl,rfl,λq=>Q9 rfl (by have h:=a4.1;show ⟨by have:=h.2.1;omega,λc hc=>by have:=h.2.2 c hc;omega⟩) (.inr (qA6.mpr ⟨p,qB5 hp,rfl⟩))⟩))⟩;rw[qB1,qB2]at r;exists F5,d6,e0,a30,a31,a32,c.1,c.2;rw[qB6]
 first|show r|show ⟨_,rfl,r⟩
def Gm (D:Dw pl ml) (hp:pl[a]?=some p) (hk:25<=k):Ok (FP pl ml a k) Ref:=by
 have n5:=D.n5;have m7:=D.m7;have m1:=D.m1;have hlen:=D.len;have e0:=atQ (D.atp hp);have c:=(ar lS (Q:=a9 pl ml) (a:=pl.length) Qo).2;have t2:(a9 pl ml).drop pl.length=ml.map mws:=by
  change (pl.map pw++ml.map mws).drop pl.length=_;rw[qU5 (by rw[qA0])]
 rw[t2]at c;have r:Ref (.lst ((ml.map mws).map lS)):=by
  cases ml with
  |nil=>cases m1
  | cons m ml=>
   have hm:m∈m::ml:=qA2 ..;have hl:=D.lenT hm;obtain ⟨h1,h2,_⟩:=D.dr m hm;have O:∀q∈a9 [] []++mws m::ml.map mws,Q20 q:=λq O=>D.q q (qC2 _ O);have I:(a9 [] []++mws m::ml.map mws).length<=40:=by
    change (ml.map mws).length+1<=40;rw[qA0];rw[qA3]at m7;omega
   refine ⟨mws m::ml.map mws,rfl,by rw[qA3];omega,I,O,refuse (ps:=[]) (ms:=[]) ⟨qD7 _,qD7 _,(λ_ h=>by cases h),(λ_ h=>by cases h),List.Pairwise.nil,List.Pairwise.nil⟩ I O (.inl ⟨rfl,λq p=>?_⟩)⟩;have pk:=kG (n:=m.1) (T:=m.2.1) (P:=m.2.2) rfl (λp hp=>(h1 p hp).2.1) Qo Qo;refine fy (n:=m.1) rfl pk rfl (D.nn m hm) (by intro h;cases h) (mw_cut (n:=m.1) (T:=m.2.1) (P:=m.2.2)).1 ?_;cases hT:m.2.1 with
   |nil=>rw[hT]at hl;cases hl.1
   |cons x T=>show B8 (l:=[]) (a:=num x.1) (b:=x.2) (r:=fl T) ⟨(λ_ h=>by cases h),List.Pairwise.nil,qD7 _⟩ (.inl (by intro h;cases h)) (by rw[i7];omega) rfl
 have d1:decide (k<14)=false:=qL1 Qo;have d2:∀j:Int,j<25->decide (k=j)=false:=λj hj=>qL1 Qo;exists F5,d6,e0,c,d1,d2 14 Qy,d2 15 Qy,d2 16 Qy,d2 17 Qy,d2 18 Qy,d2 19 Qy,d2 20 Qy,d2 21 Qy,d2 22 Qy,d2 23 Qy,d2 24 Qy
 first|show r|show ⟨_,rfl,r⟩
def sR:∀n:Nat,n<10->W20 (Txt.mul (Str.ofString "b") (n:Int)):=Qx
def Gs (D:Dw pl ml) (hp:pl[a]?=some p):Ok (FP pl ml a 19) Ref:=by
 have a3:=D.np p (qB5 hp);have n5:=D.n5;have m7:=D.m7;have m1:=D.m1;have hlen:=D.len;have e0:=atQ (D.atp hp);have h8:=a3.1.2.1;obtain ⟨n,hn⟩:∃n:Nat,9-(p.1.length:Int)=(n:Int):=⟨9-p.1.length,Qo⟩;have hmul:fMulS (.str "b") (.int (n:Int))=.ok (.str (Txt.mul (Str.ofString "b") (n:Int))):=qA9 ⟨Qx,Qo,Qo⟩;have mb:=sR n Qo;generalize Txt.mul (Str.ofString "b") (n:Int)=y at *
 have l1:((a9 pl ml).map lS).length + [W.lst [W.str "place",W.str y,W.str (num p.2)]].length<=1000:=by rw[qA0,hlen];change _+1<=_;omega
 have O:∀q∈a9 pl ml ++ [[Str.ofString "place",y,num p.2]],Q20 q:=λq O=>by
  rcases qB7.mp O with O|O
  .show D.q q O
  .rw [qC4.mp O]
   refine ⟨by change 1<=3;decide,by change 3<=30;decide,λw hw=>?_⟩;rcases qA7.mp hw with rfl|hw
   .show x4 J8
   rcases qA7.mp hw with rfl|hw
   .show mb
   rcases qA7.mp hw with rfl|hw
   .show x4 (M4 a3.2.1)
   .cases hw
 have I:(a9 pl ml ++ [[Str.ofString "place",y,num p.2]]).length<=40:=by rw[qA1,hlen];change _+1<=_;omega
 have r:Ref (.lst ((a9 pl ml ++ [[Str.ofString "place",y,num p.2]]).map lS)):=⟨_,rfl,by rw[qA1,hlen];omega,I,O,refuse D.sm_ I O (.inr (.inr ⟨_,rfl,Qx,.inr (λh=>by rw[h]at m1;cases m1)⟩))⟩;rw[qB1]at r;have a4:p.1.length<=100000:=Qo;exists F5,d6,e0,a30,a31,a32,hn,hmul
 first|show r|show ⟨_,rfl,r⟩
def up26:∀c:Nat,c<26->Unicode.upperOf (c+97) = [c+65]:=Qx
def zn:∀l:List Nat,(∀c∈l,97<=c/\c<=122)->(l.map λc=>Unicode.upperOf c).flatten=l.map (·-32)
 | [],_=>rfl
 | c::l,h=>by
  have hc:=h c (qA2 ..);have e:=up26 (c-97) Qo;rw[show c-97+97=c by omega,show c-97+65=c-32 by omega]at e;rw[qB2,qE4,e,zn l λx I=>h x (qA4 _ I)];rfl
def qY (h:∀c∈cl w,97<=c/\c<=122):cl (Txt.upper w)=(cl w).map (·-32):=by
 rw[<- zn (cl w) h]
 change ((w.cps.mapIdx λ_ c=>(Unicode.upperOf c).toArray).flatten).toList=_;rw[show (w.cps.mapIdx λ_ c=>(Unicode.upperOf c).toArray)=w.cps.map λc=>(Unicode.upperOf c).toArray by ext i h1 h2 <;> simp]
 simp [Array.toList_flatten,cl];rfl
def X1 (h:Nm w):¬ Nm (Txt.upper w)/\Sm (Txt.upper w)/\W20 (Txt.upper w)/\(Txt.upper w).length<=100000:=by
 have e:=qY h.2.2;have hl:(Txt.upper w).length=w.length:=by rw[<- j5,e,qA0,j5]
 have hc:∀c∈cl (Txt.upper w),65<=c/\c<=90:=λc hc=>by
  rw[e]at hc;obtain ⟨d,hd,rfl⟩:=qA6.mp hc
  have:=h.2.2 d hd
  change 65<=d-32/\d-32<=90;omega
 have h1:=h.1;have O:=h.2.1;refine ⟨λhn=>?_,⟨Qo,λc I=>by have:=hc c I;omega⟩,⟨Qo,λI=>by have:=hc _ I;omega,λI=>by have:=hc _ I;omega⟩,Qo⟩;cases q:cl (Txt.upper w) with
 | nil=>
  have:=congrArg List.length q
  rw[j5]at this;have z:(Txt.upper w).length=0:=this;omega
 | cons c r=>
  have a:=hc c (by rw[q];show qA2 ..);have b:=hn.2.2 c (by rw[q];show qA2 ..);omega
def Gw (D:Dw pl ml) (O:pl[a]?=some p):Ok (FP pl ml a 16) Ref:=by
 have ha:=(qA5.mp O).1;have I:=D.np p (qB5 O);have n5:=D.n5;have m7:=D.m7;have hlen:=D.len;have e0:=atQ (D.atp O);obtain ⟨u1,u2,u3,u4⟩:=X1 I.1;have hu:gX (.str p.1)=.ok (.str (Txt.upper p.1)):=qA9 u4;generalize Txt.upper p.1=y at *
 have w:d4 [.lst ((a9 pl ml).map lS),.int (a:Nat),.lst [.str "place",.str y,.str (num p.2)]]=_:=P4 (Q:=a9 pl ml) (a:=a) (bw:=[Str.ofString "place",y,num p.2]) Qo Qo;have r:=D.set_ref O (bw:=[Str.ofString "place",y,num p.2]) ⟨by change 1<=3;decide,by change 3<=30;decide,λw hw=>by
  rcases qA7.mp hw with rfl|hw
  .show x4 J8
  rcases qA7.mp hw with rfl|hw
  .show u3
  rcases qA7.mp hw with rfl|hw
  .show x4 (M4 I.2.1)
  cases hw⟩ (.inr (.inl ⟨rfl,rfl,λq=>Q9 rfl u2 (.inl u1)⟩))
 have mu:∀(m:JV) (ρ:Rho),fC m ρ=(m ρ>>=gX):=λ_ _=>rfl;exists F5,d6,e0,a30,a31,a32,mu,hu,w
 first|show r|show ⟨_,rfl,r⟩
def Dw.sub (D:Dw pl ml) (j:Nat):K6 pl (ml.take j):=
 ⟨by have:=D.n5;omega,by rw[qB9];have:=D.m7;omega,λp I=>⟨(D.np p I).1,(D.np p I).2.1⟩,λm hm=>⟨D.nn m (qD0 hm),D.tol m (qD0 hm)⟩,D.d1,by rw[qG8];show qH7 (qH9 _ _) D.d2⟩
def Dw.atm (D:Dw pl ml) (hm:ml[j]?=some m):(a9 pl ml)[pl.length+j]?=some (mws m):=by
 rw[qD8 (by rw[qA0];omega),qA0,qT8,qC1,hm];rfl
def Dw.setm_ref (D:Dw pl ml) (hm:ml[j]?=some m) (hq:Q20 bw) (h:bD pl (ml.take j) bw):Ref (.lst (((a9 pl ml).set (pl.length+j) bw).map lS)):=by
 have hj:=(qA5.mp hm).1;have n5:=D.n5;have m7:=D.m7;have hlen:=D.len;have I:∀q∈(a9 pl ml).set (pl.length+j) bw,Q20 q:=λq O=>by
  rcases qI7 O with O|rfl
  .show D.q q O
  .show hq
 have e:(a9 pl ml).set (pl.length+j) bw=a9 pl (ml.take j)++bw::(a9 pl ml).drop (pl.length+j+1):=by
  rw[eV Qo];congr 1
  change (pl.map pw++ml.map mws).take (pl.length+j)=pl.map pw++(ml.take j).map mws;rw[List.take_append,qA0,qE1 (by rw[qA0];omega),qT8,qG8]
 refine ⟨_,rfl,by rw[qD3];omega,by rw[qD3];omega,I,?_⟩;have a3:((a9 pl ml).set (pl.length+j) bw).length<=40:=by rw[qD3];omega
 rw[e]at I a3 ⊢;show refuse (D.sub j) a3 I h
def Dw.freshm (D:Dw pl ml)(hm:ml[j]?=some m):m.1∉(ml.take j).map (λm=>m.1):=K91.fresh D.d2 hm
def FQ:∀w∈badC,w≠Str.ofString "puts" := Qx
def Cz (D:Dw pl ml) (hm:ml[j]?=some m) (hk:k<14):Ok (m5 [.lst ((a9 pl ml).map lS),.int (k:Nat),.int ((pl.length+j:Nat):Int)]) Ref:=by
 have hj:=(qA5.mp hm).1;have I:=qB5 hm;have n5:=D.n5;have m7:=D.m7;have hlen:=D.len;have e0:=atQ (D.atm hm);have lt:=D.lenT I;have e1:decide ((k:Int)<14)=true:=qL6 Qo;have e2:decide (26<(k:Int))=false:=qL1 Qo;have O:=lr hk;generalize hy:badC.getD k Str.empty=y at O
 have ac:=gz hk;rw[hy]at ac;have ql:=V1 m.1 m.2.1 m.2.2;obtain ⟨h1,h2,_⟩:=D.dr m I;have tol:=D.tol m I;obtain ⟨x,T,hT⟩:∃x T,m.2.1=x::T:=by
  cases h:m.2.1 with
  |nil=>rw[h]at lt;cases lt.1
  |cons x T=>show ⟨x,T,rfl⟩
 have hb:(mws m).take 3 ++ [y]++(mws m).drop 4=mg "move" m.1 (y::x.2::fl T) (fl m.2.2):=by
  change (mw m.1 m.2.1 m.2.2).take 3 ++ [y]++(mw m.1 m.2.1 m.2.2).drop 4=_;rw[hT];rfl
 have c1:k7 ((mws m).map W.str) none (some 3)=((mws m).take 3).map W.str:=(ar W.str (Q:=mws m) (a:=3) (by change 3<=(mw m.1 m.2.1 m.2.2).length;omega)).1;have c2:k7 ((mws m).map W.str) (some 4) none=((mws m).drop 4).map W.str:=(ar W.str (Q:=mws m) (a:=4) (by change 4<=(mw m.1 m.2.1 m.2.2).length;omega)).2;have w:d4 [.lst ((a9 pl ml).map lS),.int ((pl.length+j:Nat):Int),.lst (((mws m).take 3).map W.str ++ [W.str y]++((mws m).drop 4).map W.str)]=.ok (.lst (((a9 pl ml).set (pl.length+j) ((mws m).take 3 ++ [y]++(mws m).drop 4)).map lS)):=by
  have:=P4 (Q:=a9 pl ml) (a:=pl.length+j) (bw:=(mws m).take 3 ++ [y]++(mws m).drop 4) Qo Qo
  rw[show lS ((mws m).take 3 ++ [y]++(mws m).drop 4)=W.lst (((mws m).take 3).map W.str ++ [W.str y]++((mws m).drop 4).map W.str) by (change W.lst _=_;rw[qB1,qB1];rfl)]at this;show this
 have l1:(((mws m).take 3).map W.str).length + [W.str y].length<=1000:=by
  rw[qA0,qB9];change _+1<=_;omega
 have l2:(((mws m).take 3).map W.str ++ [W.str y]).length+(((mws m).drop 4).map W.str).length<=1000:=by
  rw[qA1,qA0,qA0,qB9,qC9]
  change _+1+((mw m.1 m.2.1 m.2.2).length-4)<=_;omega
 have qm:=D.q (mws m) (qC2 _ (qA6.mpr ⟨m,I,rfl⟩));have hq:Q20 ((mws m).take 3 ++ [y]++(mws m).drop 4):=by
  refine ⟨by rw[qA1,qA1];change 1<=_+1+_;omega,?_,λw hw=>?_⟩
  .rw [qA1,qA1,qB9,qC9]
   change _+1+((mw m.1 m.2.1 m.2.2).length-4)<=30;omega
  .rcases qB7.mp hw with hw|hw
   .rcases qB7.mp hw with hw|hw
    .show qm.2.2 w (qD0 hw)
    .rw[qC4.mp hw];show lu _ O
   .show qm.2.2 w (qF2 hw)
 have hA:(y::x.2::fl T).length=2*(T.length+1):=by rw[qA3,qA3,i7];omega
 have lT:m.2.1.length=T.length+1:=by rw[hT];rfl
 have pk:=X7 (ws:=mg "move" m.1 (y::x.2::fl T) (fl m.2.2)) rfl hA (by rw[M5,hA,i7];omega) (λi hi=>by
  cases i with
  |zero=>intro h;show FQ y O (by injection h)
  | succ i=>
   rw[show 2*(i+1)=2*i+1+1 by omega]
   change (fl T)[2*i]?≠_;rw[fH];cases h:T[i]? with
   |none=>intro z;cases z
   | some p=>
    intro z;have hp:=h1 p (by rw[hT];show qA4 _ (qB5 h));show bX hp.2.1 (x:=Str.ofString "puts") (d:=112) Qx Qy (by injection z))
 have r:=D.setm_ref hm hq (.inl ⟨rfl,λq p=>by
  rw[hb];show fy (n:=m.1) rfl pk rfl (D.nn m I) (D.freshm hm) (ce hA).1 (B8 (l:=[]) (a:=y) (b:=x.2) (r:=fl T) ⟨(λ_ h=>by cases h),List.Pairwise.nil,qD7 _⟩ (.inr (.inr (.inl (lj _ O)))) (by rw[i7];omega) rfl)⟩)
 exists rpB,d5,e0,e1,e2,ac,c1,c2,w
 first|show r|show ⟨_,rfl,r⟩
def cutN {α:Type}(f:α->W){Q:List α}(h0:0<a) (ha:a<=Q.length) (hz:z = -(a:Int)):k7 (Q.map f) none (some z)=(Q.take (Q.length-a)).map f:=by
 rw[C6];congr 1;unfold B5;rw[HT.sIx_none,qL2,Nat.sub_zero];congr 1
 change (if z<0 then (z+(Q.length:Int)).toNat else _)=_;rw[qA9 Qo];omega
abbrev hM (n:Str) (c0:Int)(x0:Str)(T:List Pr):List Str:=Str.ofString "move" :: n::Str.ofString "takes" :: fl ((c0,x0)::T)
structure Sh (pl:List Pl) (ml:List Mt) (j:Nat) (ws:Jk) (n:Str) (c0:Int) (x0:Str) (T:List Pr) (cP:Int) (y:Str):Prop where
 D:Dw pl ml
 hm:ml[j]?=some (n,(c0,x0)::T,[(cP,y)])
 hws:ws=mws (n,(c0,x0)::T,[(cP,y)])
 nm:Nm n
 k0:1<=c0
 k0c:Cn c0
 kP:1<=cP
 kPc:Cn cP
 x0k:x0∈pl.map (·.1)
 yk:y∈pl.map (·.1)
 tT:Told (pl.map (·.1)) ((c0,x0)::T)
 tP:Told (pl.map (·.1)) [(cP,y)]
 l4:T.length<=4
def Dw.shape (D:Dw pl ml) (hm:ml[j]?=some m):∃n c0 x0 T cP y,Sh pl ml j (mws m) n c0 x0 T cP y:=by
 have I:=qB5 hm;have lt:=D.lenT I;have tol:=D.tol m I;have nn:=D.nn m I;obtain ⟨n,A,P⟩:=m;cases A with
 |nil=>show absurd lt.1 (show ¬ 1<=0 by decide)
 | cons x T=>
  obtain ⟨c0,x0⟩:=x;cases P with
  |nil=>show absurd lt.2.2 (show ¬ 0=1 by decide)
  | cons p r=>
   obtain ⟨cP,y⟩:=p;cases r with
   |cons a b=>have:=lt.2.2;rw[qA3,qA3]at this;omega
   | nil=>
    have a:=tol.1.1 (c0,x0) (qA2 ..);have b:=tol.2.1 (cP,y) (qA2 ..);show ⟨n,c0,x0,T,cP,y,D,hm,rfl,nn,a.1,a.2.1,b.1,b.2.1,a.2.2,b.2.2,tol.1,tol.2,by have:=lt.2.1;rw[qA3]at this;omega⟩
def Sh.len (S:Sh pl ml j ws n c0 x0 T cP y):ws.length=8+2*T.length:=by
 have:=V1 n ((c0,x0)::T) [(cP,y)]
 rw[S.hws]
 change (mw n ((c0,x0)::T) [(cP,y)]).length=_;rw[this,qA3,qA3];change 4+2*(T.length+1)+2*1=_;omega
def Sh.e0 (S:Sh pl ml j ws n c0 x0 T cP y):L2.atI ((a9 pl ml).map lS) ((pl.length+j:Nat):Int)=some (lS ws):=by
 rw[S.hws];show atQ (S.D.atm S.hm)
def Sh.to_ (S:Sh pl ml j ws n c0 x0 T cP y){a:Nat}(ha:a<=8):k7 (ws.map W.str) none (some (a:Int))=(ws.take a).map W.str:=(ar W.str (by have:=S.len;omega)).1
def Sh.fr (S:Sh pl ml j ws n c0 x0 T cP y){a:Nat}(ha:a<=8):k7 (ws.map W.str) (some (a:Int)) none=(ws.drop a).map W.str:=(ar W.str (by have:=S.len;omega)).2
def Sh.end_ (S:Sh pl ml j ws n c0 x0 T cP y):ws=(hM n c0 x0 T) ++ [Str.ofString "puts",num cP,y]:=by
 rw[S.hws];rfl
def Sh.last (S:Sh pl ml j ws n c0 x0 T cP y):L2.atI (ws.map W.str) (-1)=some (.str y):=by
 have hl:=S.len;unfold L2.atI ixN;rw[qB4 Qy,qA9 (by rw[qA0];omega)]
 change (ws.map W.str)[_]?=_;have e:((-1:Int)+((ws.map W.str).length:Nat)).toNat=ws.length-1:=by rw[qA0];omega
 rw[e,qC1];have hh:(hM n c0 x0 T).length=ws.length-3:=by
  rw[qA3,qA3,qA3,i7,qA3];omega
 have:ws[ws.length-1]?=some y:=by
  rw[show ws[ws.length-1]?=((hM n c0 x0 T) ++ [Str.ofString "puts",num cP,y])[ws.length-1]? from congrArg (λl=>l[ws.length-1]?) S.end_];rw[qD8 Qo,hh,show ws.length-1-(ws.length-3)=2 by omega];rfl
 rw[this];rfl
def Sh.at1 (S:Sh pl ml j ws n c0 x0 T cP y):L2.atI (ws.map W.str) 1=some (.str n):=S9 Qy (by rw[S.hws];rfl)
def Sh.at4 (S:Sh pl ml j ws n c0 x0 T cP y):L2.atI (ws.map W.str) 4=some (.str x0):=S9 Qy (by rw[S.hws];rfl)
def Sh.ng (S:Sh pl ml j ws n c0 x0 T cP y){a:Nat}(h0:0<a) (ha:a<=3) (hz:z = -(a:Int)):k7 (ws.map W.str) none (some z)=((hM n c0 x0 T) ++ [Str.ofString "puts",num cP,y].take (3-a)).map W.str:=by
 have hl:=S.len;have hh:(hM n c0 x0 T).length=ws.length-3:=by
  rw[qA3,qA3,qA3,i7,qA3];omega
 rw[cutN W.str h0 Qo hz];congr 1;rw[show ws.take (ws.length-a)=((hM n c0 x0 T) ++ [Str.ofString "puts",num cP,y]).take (ws.length-a) from congrArg (λl=>l.take (ws.length-a)) S.end_];rw[List.take_append,qE1 Qo,hh,show ws.length-a-(ws.length-3)=3-a by omega]
def Sh.q (S:Sh pl ml j ws n c0 x0 T cP y):∀w∈ws,W20 w:=by
 have q:=S.D.q ws (by rw[S.hws];show qC2 _ (qA6.mpr ⟨_,qB5 S.hm,rfl⟩));show q.2.2
def Sh.qp (S:Sh pl ml j ws n c0 x0 T cP y):∀w∈(hM n c0 x0 T),W20 w:=λw hw=>S.q w (by rw[S.end_];show qE3 _ hw)
def Sh.go (S:Sh pl ml j ws n c0 x0 T cP y) (h3:w3=lS bw) (hl:bw.length<=30) (I:∀w∈bw,W20 w) (h0:bw[0]?=some (Str.ofString "move")) (h:∀q p,i1 [lS bw,.dst true q (pl.map (λp=>p.1)) (pl.map λp=>W.int p.2),.dst false p ((ml.take j).map (λm=>m.1)) ((ml.take j).map (mvW (pl.map (·.1))))]=NX):∃v,d4 [.lst ((a9 pl ml).map lS),.int ((pl.length+j:Nat):Int),w3]=.ok v/\Ref v:=by
 subst h3;have O:=(qA5.mp S.hm).1;have n5:=S.D.n5;have m7:=S.D.m7;have hlen:=S.D.len;show ⟨_,P4 Qo Qo,S.D.setm_ref S.hm ⟨(qA5.mp h0).1,hl,I⟩ (.inl ⟨h0,h⟩)⟩
def Sh.npT (S:Sh pl ml j ws n c0 x0 T cP y):∀p∈(c0,x0)::T,0<=p.1:=λp I=>(S.tT.1 p I).2.1.1
def Sh.badB (S:Sh pl ml j ws n c0 x0 T cP y) (hB:B.length<=100) (h:∀q,i9 [lS B,.dst true q (pl.map (λp=>p.1)) (pl.map λp=>W.int p.2)]=NX) (q p:Addr):i1 [lS (mg "move" n (fl ((c0,x0)::T)) B),.dst true q (pl.map (λp=>p.1)) (pl.map λp=>W.int p.2),.dst false p ((ml.take j).map (λm=>m.1)) ((ml.take j).map (mvW (pl.map (·.1))))]=NX:=by
 have I:(fl ((c0,x0)::T)).length=2*((c0,x0)::T).length:=i7 _;have l4:=S.l4;have n5:=S.D.n5;have O:=X7 (ws:=mg "move" n (fl ((c0,x0)::T)) B) rfl I (by rw[M5,I,qA3];omega) (λi hi=>bu S.npT i);show xf (n:=n) rfl O rfl S.nm (S.D.freshm S.hm) (ce I).1 (cu S.tT (by change (pl.map _).length<=1000;rw[qA0];omega) rfl) (ce I).2 (h q)
def Sh.badA (S:Sh pl ml j ws n c0 x0 T cP y) (I:A.length=2*t) (hl:A.length+B.length<=800) (hp:∀i,i<t->A[2*i]?≠some (Str.ofString "puts")) (h:∀q,i9 [lS A,.dst true q (pl.map (λp=>p.1)) (pl.map λp=>W.int p.2)]=NX) (q p:Addr):i1 [lS (mg "move" n A B),.dst true q (pl.map (λp=>p.1)) (pl.map λp=>W.int p.2),.dst false p ((ml.take j).map (λm=>m.1)) ((ml.take j).map (mvW (pl.map (·.1))))]=NX:=by
 have O:=X7 (ws:=mg "move" n A B) rfl I (by rw[M5];omega) hp;show fy (n:=n) rfl O rfl S.nm (S.D.freshm S.hm) (ce I).1 (h q)
def Sh.badN (S:Sh pl ml j ws n c0 x0 T cP y) (hB:B.length<=100) (hs:Sm n') (h:¬ Nm n'\/n'∈ks2) (q p:Addr):i1 [lS (mg "move" n' (fl ((c0,x0)::T)) B),.dst true q (pl.map (λp=>p.1)) (pl.map λp=>W.int p.2),.dst false p ks2 vs2]=NX:=by
 have I:(fl ((c0,x0)::T)).length=2*((c0,x0)::T).length:=i7 _;have l4:=S.l4;have O:=X7 (ws:=mg "move" n' (fl ((c0,x0)::T)) B) rfl I (by rw[M5,I,qA3];omega) (λi hi=>bu S.npT i);show ge (n:=n') rfl O rfl hs h
def vb:W20 (Str.ofString "1"):=Qx
def vd:W20 (Str.ofString "0"):=Qx
def kL:Str.ofString "0" = num 0:=Qx
def one_num:Str.ofString "1" = num 1:=Qx
def aT {P:Str->Prop}(ha:P a) (I:P b):∀w ∈ [a,b],P w:=λw hw=>by
 rcases qA7.mp hw with rfl|hw
 .show ha
 .rw[qC4.mp hw];show I
def A9 {P:Str->Prop}{B:Jk}(ha:∀w∈A,P w) (I:∀w∈B,P w):∀w∈A++B,P w:=λw hw=>by
 rcases qB7.mp hw with hw|hw
 .show ha w hw
 .show I w hw
def J5 {P:Str->Prop}(ha:P a) (I:∀w∈B,P w):∀w∈a::B,P w:=λw hw=>by
 rcases qA7.mp hw with rfl|hw
 .show ha
 .show I w hw
def U4 {P:Str->Prop}:∀w∈([]:Jk),P w:=λw hw=>by cases hw
def R7:Told ks []:=⟨(λ_ h=>by cases h),List.Pairwise.nil,qD7 _⟩
def Sh.y20 (S:Sh pl ml j ws n c0 x0 T cP y):W20 y:=by
 obtain ⟨p,I,rfl⟩:=qA6.mp S.yk;show x4 (P1 (S.D.np p I).1)
def Sh.x20 (S:Sh pl ml j ws n c0 x0 T cP y):W20 x0:=by
 obtain ⟨p,I,rfl⟩:=qA6.mp S.x0k;show x4 (P1 (S.D.np p I).1)
def Sh.c20 (S:Sh pl ml j ws n c0 x0 T cP y):W20 (num cP):=x4 (M4 S.kPc)
def Sh.p20 (S:Sh pl ml j ws n c0 x0 T cP y):W20 (Str.ofString "puts"):=x4 jW
def Sh.hl (S:Sh pl ml j ws n c0 x0 T cP y):(hM n c0 x0 T).length=5+2*T.length:=by
 rw[qA3,qA3,qA3,i7,qA3];omega
abbrev FM (pl:List Pl)(ml:List Mt)(j:Nat) (k:Int):R W:=m5 [.lst ((a9 pl ml).map lS),.int k,.int ((pl.length+j:Nat):Int)]
def iS:∀n:Nat,n<10->(Txt.mul (Str.ofString "b") (n:Int)).length=n:=Qx
def Sh.yQ (S:Sh pl ml j ws n c0 x0 T cP y):(y++Str.ofString "Q")∉pl.map (·.1)/\W20 (y++Str.ofString "Q"):=by
 have hc:cl (y++Str.ofString "Q")=cl y ++ [81]:=by rw[d7];rfl
 obtain ⟨p,hp,e⟩:=qA6.mp S.yk;have h1:=(S.D.np p hp).1;replace e:p.1=y:=e
 rw[e]at h1;refine ⟨λh=>?_,?_,?_,?_⟩
 .obtain ⟨p2,I,O⟩:=qA6.mp h;have h2:=(S.D.np p2 I).1;replace O:p2.1=y++Str.ofString "Q" := O
  rw[O]at h2
  have:=h2.2.2 81 (by rw[hc];show qC2 _ (qA2 ..))
  omega
 .rw[<- j5,hc,qA1,j5];have:=h1.2.1;change y.length+1<=20;omega
 .rw [hc];intro h
  rcases qB7.mp h with h|h
  .have:=h1.2.2 _ h;omega
  .show absurd (qC4.mp h) Qy
 .rw [hc];intro h
  rcases qB7.mp h with h|h
  .have:=h1.2.2 _ h;omega
  .show absurd (qC4.mp h) Qy
def Sh.lk (S:Sh pl ml j ws n c0 x0 T cP y) (hk:k∈pl.map (·.1)):1<=k.length/\k.length<=8/\∀x∈pl.map (·.1),x.length=k.length:=by
 obtain ⟨L,O⟩:=S.D.ls;obtain ⟨p,hp,rfl⟩:=qA6.mp hk;have h1:=(S.D.np p hp).1;refine ⟨h1.1,h1.2.1,λx hx=>?_⟩;obtain ⟨p2,I,rfl⟩:=qA6.mp hx
 change p2.1.length=p.1.length;rw[O p hp,O p2 I]
def Sh.ly (S:Sh pl ml j ws n c0 x0 T cP y):1<=y.length/\y.length<=8:=⟨(S.lk S.yk).1,(S.lk S.yk).2.1⟩
def Sh.newp (S:Sh pl ml j ws n c0 x0 T cP y) (hz:z.length=9-k.length) (I:k∈pl.map (·.1):=by first|show S.yk|show S.x0k):z∉pl.map (·.1):=λh=>by
 have a:=S.lk I
 have:=a.2.2 z h
 omega
def GM (S:Sh pl ml j ws n c0 x0 T cP y):Ok (FM pl ml j 14) Ref:=by
 have e0:=S.e0;have la:=S.last;have l4:=S.l4;have hl:=S.hl;have ng:=S.ng (a:=2) (z:=-2) Qy Qy rfl;have O:(hM n c0 x0 T) ++ [Str.ofString "puts",num cP,y].take (3-2) ++ [Str.ofString "0",y]=mg "move" n (fl ((c0,x0)::T)) [Str.ofString "0",y]:=by
  rw[qB6];rfl
 have I:((hM n c0 x0 T) ++ [Str.ofString "puts",num cP,y].take (3-2) ++ [Str.ofString "0",y]).length<=30:=by rw[O,M5,i7,qA3];change 4+_+2<=30;omega
 have lA:((hM n c0 x0 T) ++ [Str.ofString "puts",num cP,y].take (3-2)).length<=900:=by rw[qA1,hl];change _+1<=_;omega
 obtain ⟨v,w,r⟩:=S.go (bw:=(hM n c0 x0 T) ++ [Str.ofString "puts",num cP,y].take (3-2) ++ [Str.ofString "0",y]) (w3:=.lst (((hM n c0 x0 T) ++ [Str.ofString "puts",num cP,y].take (3-2)).map W.str ++ [.str "0",.str y])) (by change W.lst _=W.lst _;rw[qB1 (l₂:=[Str.ofString "0",y])];rfl) I (A9 (A9 S.qp (J5 S.p20 U4)) (aT vd S.y20)) rfl (by rw[O];show S.badB (by change 2<=100;decide) λq=>B8 (l:=[]) (a:=Str.ofString "0") (b:=y) (r:=[]) R7 (.inr (.inr (.inr ⟨0,kL,⟨Qy,Qy⟩,Qy⟩))) rfl rfl);generalize (hM n c0 x0 T) ++ [Str.ofString "puts",num cP,y].take (3-2)=A at *
 have l1:(A.map W.str).length + [W.str "0",W.str y].length<=1000:=by rw[qA0];change _+2<=_;omega
 exists rpB,d5,e0,ng,la,w
 first|show r|show ⟨_,rfl,r⟩
def GK (S:Sh pl ml j ws n c0 x0 T cP y):Ok (FM pl ml j 16) Ref:=by
 have e0:=S.e0;have la:=S.last;have l4:=S.l4;have hl:=S.hl;have ng:=S.ng (a:=1) (z:=-1) Qy Qy rfl;have O:(hM n c0 x0 T) ++ [Str.ofString "puts",num cP,y].take (3-1)=mg "move" n (fl ((c0,x0)::T)) [num cP]:=by
  rfl
 have I:((hM n c0 x0 T) ++ [Str.ofString "puts",num cP,y].take (3-1)).length<=30:=by rw[O,M5,i7,qA3];change 4+_+1<=30;omega
 have lA:((hM n c0 x0 T) ++ [Str.ofString "puts",num cP,y].take (3-1)).length<=900:=by rw[qA1,hl];change _+2<=_;omega
 obtain ⟨v,w,r⟩:=S.go (bw:=(hM n c0 x0 T) ++ [Str.ofString "puts",num cP,y].take (3-1)) (w3:=.lst (((hM n c0 x0 T) ++ [Str.ofString "puts",num cP,y].take (3-1)).map W.str)) (rfl) I (A9 S.qp (aT S.p20 S.c20)) rfl (by rw[O];show S.badB (by change 1<=100;decide) λq=>eF rfl);generalize (hM n c0 x0 T) ++ [Str.ofString "puts",num cP,y].take (3-1)=A at *
 exists rpB,d5,e0,ng,la,w
 first|show r|show ⟨_,rfl,r⟩
def sk {A:Jk}(hw:∀i,ws[3+2*i]?≠some (Str.ofString "puts")) (hl:ws.length<=900):g7 [lS ws]=.ok .non:=by
 have I:Ok (g7 [lS ws]) λv=>v=.non:=by
  have r3:=eW (j:=(ws.length:Int)) Qo;exists rpB,E4,r3;refine R0 (F6 (λi ρ=>∃a:Sl,ρ = [.par (lS ws),a]) ⟨_,rfl⟩ ?_ ?_)
  .rintro i w ρ O ⟨a,rfl⟩;rw[qC1]at O;obtain ⟨k,hk,rfl⟩:=qF3.mp O;have a3:k<(((ws.length:Int)-3+1)/2).toNat:=qH5.mp (qB5 hk);have ea:=cy (ts:=ws) (i:=3+(k:Int)*2) ⟨Qo,Qo⟩;refine ⟨_,rfl,?_⟩;have c:ws.getD (3+(k:Int)*2).toNat Str.empty≠Str.ofString "puts" := by
    intro z;refine hw k ?_;rw[qD4,show (3+(k:Int)*2).toNat=3+2*k by omega]at z
    have:3+2*k<ws.length:=Qo
    rw[qC3 this]at z ⊢;show congrArg some z
   exists ea,qL1 c;show ⟨_,rfl⟩
  .rintro ρ ⟨a,rfl⟩;exists rp18
 obtain ⟨v,e,rfl⟩:=I;show e
def GJ (S:Sh pl ml j ws n c0 x0 T cP y):Ok (FM pl ml j 17) Ref:=by
 have e0:=S.e0;have O:=S.last;have l4:=S.l4;have hl:=S.hl;have ng:=S.ng (a:=3) (z:=-3) Qy Qy rfl;have I:((hM n c0 x0 T) ++ [Str.ofString "puts",num cP,y].take (3-3)).length<=30:=by rw[qA1,hl];change _+0<=_;omega
 have lA:((hM n c0 x0 T) ++ [Str.ofString "puts",num cP,y].take (3-3)).length<=900:=by rw[qA1,hl];change _+0<=_;omega
 obtain ⟨v,w,r⟩:=S.go (bw:=(hM n c0 x0 T) ++ [Str.ofString "puts",num cP,y].take (3-3)) (w3:=.lst (((hM n c0 x0 T) ++ [Str.ofString "puts",num cP,y].take (3-3)).map W.str)) (rfl) I (A9 S.qp U4) rfl (by
  rw[qI9,qD1];intro q p;refine gd rfl (sk (A:=[]) (λi=>?_) (by rw[hl];omega));rw[show 3+2*i=2*i+1+1+1 by omega];show bu S.npT i)
 generalize (hM n c0 x0 T) ++ [Str.ofString "puts",num cP,y].take (3-3)=A at *
 exists rpB,d5,e0,ng,O,w
 first|show r|show ⟨_,rfl,r⟩
def GG (S:Sh pl ml j ws n c0 x0 T cP y):Ok (FM pl ml j 20) Ref:=by
 have e0:=S.e0;have la:=S.last;have l4:=S.l4;have hl:=S.hl;have yQ:=S.yQ;have f1:y.length+(Str.ofString "Q").length<=100000:=by have:=S.y20.1;rw[show (Str.ofString "Q").length=1 by decide +kernel];omega
 have ng:=S.ng (a:=1) (z:=-1) Qy Qy rfl;have O:(hM n c0 x0 T) ++ [Str.ofString "puts",num cP,y].take (3-1) ++ [y++Str.ofString "Q"]=mg "move" n (fl ((c0,x0)::T)) [num cP,y++Str.ofString "Q"]:=by
  rw[qB6];rfl
 have I:((hM n c0 x0 T) ++ [Str.ofString "puts",num cP,y].take (3-1) ++ [y++Str.ofString "Q"]).length<=30:=by rw[O,M5,i7,qA3];change 4+_+2<=30;omega
 have lA:((hM n c0 x0 T) ++ [Str.ofString "puts",num cP,y].take (3-1)).length<=900:=by rw[qA1,hl];change _+2<=_;omega
 obtain ⟨v,w,r⟩:=S.go (bw:=(hM n c0 x0 T) ++ [Str.ofString "puts",num cP,y].take (3-1) ++ [y++Str.ofString "Q"]) (w3:=.lst (((hM n c0 x0 T) ++ [Str.ofString "puts",num cP,y].take (3-1)).map W.str ++ [.str (y++Str.ofString "Q")])) (by change W.lst _=W.lst _;rw[qB1 (l₂:=[y++Str.ofString "Q"])];rfl) I (A9 (A9 S.qp (aT S.p20 S.c20)) (J5 yQ.2 U4)) rfl (by rw[O];show S.badB (by change 2<=100;decide) λq=>B8 (l:=[]) (a:=num cP) (b:=y++Str.ofString "Q") (r:=[]) R7 (.inl yQ.1) rfl rfl);generalize (hM n c0 x0 T) ++ [Str.ofString "puts",num cP,y].take (3-1)=A at *
 have l1:(A.map W.str).length + [W.str (y++Str.ofString "Q")].length<=1000:=by rw[qA0];change _+1<=_;omega
 exists rpB,d5,e0,ng,la,w
 first|show r|show ⟨_,rfl,r⟩
def GF (S:Sh pl ml j ws n c0 x0 T cP y):Ok (FM pl ml j 21) Ref:=by
 have e0:=S.e0;have la:=S.last;have l4:=S.l4;have hl:=S.hl;have ly:=S.ly;obtain ⟨k,hk⟩:∃k:Nat,9-(y.length:Int)=(k:Int):=⟨9-y.length,Qo⟩;have hmul:fMulS (.str "b") (.int (k:Int))=.ok (.str (Txt.mul (Str.ofString "b") (k:Int))):=qA9 ⟨Qx,Qo,Qo⟩;have mb:=sR k Qo;have zl:(Txt.mul (Str.ofString "b") (k:Int)).length=9-y.length:=by rw[iS k Qo];omega
 generalize Txt.mul (Str.ofString "b") (k:Int)=z at *
 have a3:y.length<=100000:=Qo;have ng:=S.ng (a:=1) (z:=-1) Qy Qy rfl;have O:(hM n c0 x0 T) ++ [Str.ofString "puts",num cP,y].take (3-1) ++ [z]=mg "move" n (fl ((c0,x0)::T)) [num cP,z]:=by
  rw[qB6];rfl
 have I:((hM n c0 x0 T) ++ [Str.ofString "puts",num cP,y].take (3-1) ++ [z]).length<=30:=by rw[O,M5,i7,qA3];change 4+_+2<=30;omega
 have lA:((hM n c0 x0 T) ++ [Str.ofString "puts",num cP,y].take (3-1)).length<=900:=by rw[qA1,hl];change _+2<=_;omega
 obtain ⟨v,w,r⟩:=S.go (bw:=(hM n c0 x0 T) ++ [Str.ofString "puts",num cP,y].take (3-1) ++ [z]) (w3:=.lst (((hM n c0 x0 T) ++ [Str.ofString "puts",num cP,y].take (3-1)).map W.str ++ [.str z])) (by change W.lst _=W.lst _;rw[qB1 (l₂:=[z])];rfl) I (A9 (A9 S.qp (aT S.p20 S.c20)) (J5 mb U4)) rfl (by rw[O];show S.badB (by change 2<=100;decide) λq=>B8 (l:=[]) (a:=num cP) (b:=z) (r:=[]) R7 (.inl (S.newp zl)) rfl rfl);generalize (hM n c0 x0 T) ++ [Str.ofString "puts",num cP,y].take (3-1)=A at *
 have l1:(A.map W.str).length + [W.str z].length<=1000:=by rw[qA0];change _+1<=_;omega
 exists rpB,d5,e0,ng,la,w,hk,hmul
 first|show r|show ⟨_,rfl,r⟩
def GL (S:Sh pl ml j ws n c0 x0 T cP y):Ok (FM pl ml j 15) Ref:=by
 have e0:=S.e0;have la:=S.last;have a1:=S.at1;have a4:=S.at4;have l4:=S.l4;have O:=S.len;have hq:=S.q;have hb:ws ++ [Str.ofString "1",y]=mg "move" n (fl ((c0,x0)::T)) [num cP,y,Str.ofString "1",y]:=by rw[S.end_,qB6];rfl
 have I:(ws ++ [Str.ofString "1",y]).length<=30:=by rw[qA1,O];change _+2<=_;rw[Nat.add_comm];omega
 obtain ⟨v,w,r⟩:=S.go (bw:=ws ++ [Str.ofString "1",y]) (w3:=.lst (ws.map W.str ++ [.str "1",.str y])) (by change W.lst _=W.lst _;rw[qB1];rfl) I (A9 hq (aT vb S.y20)) (by rw[hb];rfl) (by rw[hb];show S.badB (by change 4<=100;decide) λq=>B8 (l:=[(cP,y)]) (a:=Str.ofString "1") (b:=y) (r:=[]) S.tP (.inr (.inl (qA2 ..))) rfl rfl);have l1:(ws.map W.str).length + [W.str "1",W.str y].length<=1000:=by rw[qA0,O];change _+2<=_;omega
 exists rpB,d5,e0,la,a4,a1,w
 first|show r|show ⟨_,rfl,r⟩
def GI (S:Sh pl ml j ws n c0 x0 T cP y):Ok (FM pl ml j 18) Ref:=by
 have e0:=S.e0;have la:=S.last;have a1:=S.at1;have a4:=S.at4;have l4:=S.l4;have wl:=S.len;have hq:=S.q;have c1:=S.to_ (a:=2) Qy;have O:=S.fr (a:=3) Qy;replace c1:k7 (ws.map W.str) none (some 2)=(ws.take 2).map W.str:=c1
 replace O:k7 (ws.map W.str) (some 3) none=(ws.drop 3).map W.str:=O
 have hb:ws.take 2++ws.drop 3=(Str.ofString "move" :: n::num c0::x0::(fl T ++ [Str.ofString "puts",num cP,y])):=by rw[S.hws];rfl
 have I:(ws.take 2++ws.drop 3).length<=30:=by rw[qA1,qB9,qC9];omega
 have a3:∀x,some (num c0)=some x->Sm x:=λx h=>by
  have e:num c0=x:=by injection h
  rw[<- e];show ⟨by have:=(M4 S.k0c).1;omega,λc hc=>by have:=R1 S.k0c.1 c hc;omega⟩
 obtain ⟨v,w,r⟩:=S.go (bw:=ws.take 2++ws.drop 3) (w3:=.lst ((ws.take 2).map W.str++(ws.drop 3).map W.str)) (by change W.lst _=W.lst _;rw[qB1]) I (A9 (λw hw=>hq w (qD0 hw)) (λw hw=>hq w (qF2 hw))) (by rw[hb];rfl) (by rw[hb];show λq p=>Z7 (by rw[hb]at I;omega) (λh=>bX S.k0c.1 (x:=Str.ofString "takes") (d:=116) Qx Qy (by injection h)) a3);have l1:((ws.take 2).map W.str).length+((ws.drop 3).map W.str).length<=1000:=by rw[qA0,qA0,qB9,qC9];omega
 exists rpB,d5,e0,la,a4,a1,w,c1,O
 first|show r|show ⟨_,rfl,r⟩
def GC (S:Sh pl ml j ws n c0 x0 T cP y):Ok (FM pl ml j 24) Ref:=by
 have e0:=S.e0;have la:=S.last;have a1:=S.at1;have a4:=S.at4;have l4:=S.l4;have wl:=S.len;have hq:=S.q;have c1:=S.to_ (a:=1) Qy;have O:=S.fr (a:=2) Qy;replace c1:k7 (ws.map W.str) none (some 1)=(ws.take 1).map W.str:=c1
 replace O:k7 (ws.map W.str) (some 2) none=(ws.drop 2).map W.str:=O
 have hb:ws.take 1++ws.drop 2=(Str.ofString "move" :: Str.ofString "takes" :: num c0::x0::(fl T ++ [Str.ofString "puts",num cP,y])):=by rw[S.hws];rfl
 have I:(ws.take 1++ws.drop 2).length<=30:=by rw[qA1,qB9,qC9];omega
 have a3:∀x,some (num c0)=some x->Sm x:=λx h=>by
  have e:num c0=x:=by injection h
  rw[<- e];show ⟨by have:=(M4 S.k0c).1;omega,λc hc=>by have:=R1 S.k0c.1 c hc;omega⟩
 obtain ⟨v,w,r⟩:=S.go (bw:=ws.take 1++ws.drop 2) (w3:=.lst ((ws.take 1).map W.str++(ws.drop 2).map W.str)) (by change W.lst _=W.lst _;rw[qB1]) I (A9 (λw hw=>hq w (qD0 hw)) (λw hw=>hq w (qF2 hw))) (by rw[hb];rfl) (by rw[hb];show λq p=>Z7 (by rw[hb]at I;omega) (λh=>bX S.k0c.1 (x:=Str.ofString "takes") (d:=116) Qx Qy (by injection h)) a3);have l1:((ws.take 1).map W.str).length+((ws.drop 2).map W.str).length<=1000:=by rw[qA0,qA0,qB9,qC9];omega
 exists rpB,d5,e0,la,a4,a1,w,c1,O
 first|show r|show ⟨_,rfl,r⟩
def GB (S:Sh pl ml j ws n c0 x0 T cP y):Ok (FM pl ml j 25) Ref:=by
 have e0:=S.e0;have la:=S.last;have a1:=S.at1;have a4:=S.at4;have l4:=S.l4;have wl:=S.len;have O:=S.q;have c1:k7 (ws.map W.str) none (some 3)=(ws.take 3).map W.str:=S.to_ (a:=3) Qy;have c2:k7 (ws.map W.str) (some 4) none=(ws.drop 4).map W.str:=S.fr (a:=4) Qy;have hb:ws.take 3 ++ [Str.ofString "0"]++ws.drop 4=mg "move" n (Str.ofString "0" :: x0::fl T) [num cP,y]:=by rw[S.hws];rfl
 have I:(ws.take 3 ++ [Str.ofString "0"]++ws.drop 4).length<=30:=by rw[qA1,qA1,qB9,qC9];change _+1+_<=_;rw[wl];omega
 have np:∀i,i<T.length+1->(Str.ofString "0" :: x0::fl T)[2*i]?≠some (Str.ofString "puts"):=λi hi=>by
  cases i with
  |zero=>intro h;show (by decide +kernel:Str.ofString "0" ≠ Str.ofString "puts") (by injection h)
  | succ i=>
   rw[show 2*(i+1)=2*i+1+1 by omega];show bu (l:=T) (λp hp=>S.npT p (qA4 _ hp)) i
 obtain ⟨v,w,r⟩:=S.go (bw:=ws.take 3 ++ [Str.ofString "0"]++ws.drop 4) (w3:=.lst ((ws.take 3).map W.str ++ [W.str "0"]++(ws.drop 4).map W.str)) (by change W.lst _=W.lst _;rw[qB1,qB1];rfl) I (A9 (A9 (λw hw=>O w (qD0 hw)) (J5 vd U4)) (λw hw=>O w (qF2 hw))) (by rw[hb];rfl) (by rw[hb];show S.badA (t:=T.length+1) (by rw[qA3,qA3,i7];omega) (by rw[qA3,qA3,i7];change _+2<=_;omega) np λq=>B8 (l:=[]) (a:=Str.ofString "0") (b:=x0) (r:=fl T) R7 (.inr (.inr (.inr ⟨0,kL,⟨Qy,Qy⟩,Qy⟩))) (by rw[i7];omega) rfl);have l1:((ws.take 3).map W.str).length + [W.str "0"].length<=1000:=by rw[qA0,qB9];change _+1<=_;omega
 have l2:((ws.take 3).map W.str ++ [W.str "0"]).length+((ws.drop 4).map W.str).length<=1000:=by rw[qA1,qA0,qA0,qB9,qC9];change _+1+_<=_;omega
 exists rpB,d5,e0,la,a4,a1,w,c1,c2
 first|show r|show ⟨_,rfl,r⟩
def GA (S:Sh pl ml j ws n c0 x0 T cP y):Ok (FM pl ml j 26) Ref:=by
 have e0:=S.e0;have la:=S.last;have a1:=S.at1;have a4:=S.at4;have l4:=S.l4;have wl:=S.len;have hq:=S.q;have c1:k7 (ws.map W.str) none (some 3)=(ws.take 3).map W.str:=S.to_ (a:=3) Qy;have c2:k7 (ws.map W.str) (some 3) none=(ws.drop 3).map W.str:=S.fr (a:=3) Qy;have hb:ws.take 3 ++ [Str.ofString "1",x0]++ws.drop 3=mg "move" n (Str.ofString "1" :: x0::fl ((c0,x0)::T)) [num cP,y]:=by rw[S.hws];rfl
 have I:(ws.take 3 ++ [Str.ofString "1",x0]++ws.drop 3).length<=30:=by rw[qA1,qA1,qB9,qC9];change _+2+_<=_;rw[wl];omega
 have np:∀i,i<T.length+2->(Str.ofString "1" :: x0::fl ((c0,x0)::T))[2*i]?≠some (Str.ofString "puts"):=λi hi=>by
  cases i with
  |zero=>intro h;show (by decide +kernel:Str.ofString "1" ≠ Str.ofString "puts") (by injection h)
  | succ i=>
   rw[show 2*(i+1)=2*i+1+1 by omega];show bu (l:=(c0,x0)::T) (λp O=>S.npT p O) i
 obtain ⟨v,w,r⟩:=S.go (bw:=ws.take 3 ++ [Str.ofString "1",x0]++ws.drop 3) (w3:=.lst ((ws.take 3).map W.str ++ [W.str "1",W.str x0]++(ws.drop 3).map W.str)) (by change W.lst _=W.lst _;rw[qB1,qB1];rfl) I (A9 (A9 (λw hw=>hq w (qD0 hw)) (aT vb S.x20)) (λw hw=>hq w (qF2 hw))) (by rw[hb];rfl) (by rw[hb];show S.badA (t:=T.length+2) (by rw[qA3,qA3,i7,qA3];omega) (by rw[qA3,qA3,i7,qA3];change _+2<=_;omega) np λq=>B8 (l:=[(1,x0)]) (a:=num c0) (b:=x0) (r:=fl T) ⟨λp O=>by rw[qC4.mp O];show ⟨by change (1:Int)<=1;decide,⟨by change (0:Int)<=1;decide,by change (1:Int)<=1000000000;decide⟩,S.x0k⟩,Qj,by change 1<=100;decide⟩ (.inr (.inl (qA2 ..))) (by rw[i7];omega) (by rw[one_num];rfl));have l1:((ws.take 3).map W.str).length + [W.str "1",W.str x0].length<=1000:=by rw[qA0,qB9];change _+2<=_;omega
 have l2:((ws.take 3).map W.str ++ [W.str "1",W.str x0]).length+((ws.drop 3).map W.str).length<=1000:=by rw[qA1,qA0,qA0,qB9,qC9];change _+2+_<=_;omega
 exists rpB,d5,e0,la,a4,a1,w,c1,c2
 first|show r|show ⟨_,rfl,r⟩
def GE (S:Sh pl ml j ws n c0 x0 T cP y):Ok (FM pl ml j 22) Ref:=by
 have e0:=S.e0;have la:=S.last;have a1:=S.at1;have a4:=S.at4;have l4:=S.l4;have wl:=S.len;have O:=S.q;have ly:=S.lk S.x0k;obtain ⟨k,hk⟩:∃k:Nat,9-(x0.length:Int)=(k:Int):=⟨9-x0.length,Qo⟩;have hmul:fMulS (.str "b") (.int (k:Int))=.ok (.str (Txt.mul (Str.ofString "b") (k:Int))):=qA9 ⟨Qx,Qo,Qo⟩;have mb:=sR k Qo;have zl:(Txt.mul (Str.ofString "b") (k:Int)).length=9-x0.length:=by rw[iS k Qo];omega
 generalize Txt.mul (Str.ofString "b") (k:Int)=z at *
 have a3:x0.length<=100000:=Qo;have c1:k7 (ws.map W.str) none (some 4)=(ws.take 4).map W.str:=S.to_ (a:=4) Qy;have c2:k7 (ws.map W.str) (some 5) none=(ws.drop 5).map W.str:=S.fr (a:=5) Qy;have hb:ws.take 4 ++ [z]++ws.drop 5=mg "move" n (num c0::z::fl T) [num cP,y]:=by rw[S.hws];rfl
 have I:(ws.take 4 ++ [z]++ws.drop 5).length<=30:=by rw[qA1,qA1,qB9,qC9];change _+1+_<=_;rw[wl];omega
 have np:∀i,i<T.length+1->(num c0::z::fl T)[2*i]?≠some (Str.ofString "puts"):=λi hi=>by
  cases i with
  |zero=>intro h;show bX S.k0c.1 (x:=Str.ofString "puts") (d:=112) Qx Qy (by injection h)
  | succ i=>
   rw[show 2*(i+1)=2*i+1+1 by omega];show bu (l:=T) (λp hp=>S.npT p (qA4 _ hp)) i
 obtain ⟨v,w,r⟩:=S.go (bw:=ws.take 4 ++ [z]++ws.drop 5) (w3:=.lst ((ws.take 4).map W.str ++ [W.str z]++(ws.drop 5).map W.str)) (by change W.lst _=W.lst _;rw[qB1,qB1];rfl) I (A9 (A9 (λw hw=>O w (qD0 hw)) (J5 mb U4)) (λw hw=>O w (qF2 hw))) (by rw[hb];rfl) (by rw[hb];show S.badA (t:=T.length+1) (by rw[qA3,qA3,i7];omega) (by rw[qA3,qA3,i7];change _+2<=_;omega) np λq=>B8 (l:=[]) (a:=num c0) (b:=z) (r:=fl T) R7 (.inl (S.newp zl S.x0k)) (by rw[i7];omega) rfl);have l1:((ws.take 4).map W.str).length + [W.str z].length<=1000:=by rw[qA0,qB9];change _+1<=_;omega
 have l2:((ws.take 4).map W.str ++ [W.str z]).length+((ws.drop 5).map W.str).length<=1000:=by rw[qA1,qA0,qA0,qB9,qC9];change _+1+_<=_;omega
 exists rpB,d5,e0,la,a4,a1,w,c1,c2,hk,hmul
 first|show r|show ⟨_,rfl,r⟩
def GH (S:Sh pl ml j ws n c0 x0 T cP y):Ok (FM pl ml j 19) Ref:=by
 have D:=S.D;have n5:=D.n5;have m7:=D.m7;have e0:=S.e0;have hlen:=D.len;have l1:((a9 pl ml).map lS).length + [lS ws].length<=1000:=by rw[qA0,hlen];change _+1<=_;omega
 have O:∀q∈a9 pl ml ++ [ws],Q20 q:=λq O=>by
  rcases qB7.mp O with O|O
  .show D.q q O
  .rw [qC4.mp O]
   show D.q ws (by rw[S.hws];show qC2 _ (qA6.mpr ⟨_,qB5 S.hm,rfl⟩))
 have I:(a9 pl ml ++ [ws]).length<=40:=by rw[qA1,hlen];change _+1<=_;omega
 have r:Ref (.lst ((a9 pl ml ++ [ws]).map lS)):=⟨_,rfl,by rw[qA1,hlen];change 1<=_+1;omega,I,O,refuse D.sm_ I O (.inl ⟨by rw[S.hws];rfl,by
  rw[S.hws];show S.badN (n':=n) (B:=[num cP,y]) (by change 2<=100;decide) ⟨by have:=S.nm.2.1;omega,λc hc=>by have:=S.nm.2.2 c hc;omega⟩ (.inr (qA6.mpr ⟨_,qB5 S.hm,rfl⟩))⟩)⟩
 rw[qB1]at r;exists rpB,d5,e0
 first|show r|show ⟨_,rfl,r⟩
inductive Rp (y z:JZ):List Nat->List Nat->Prop
 |nil:Rp y z [] []
 |hit (s t:JZ):Rp y z s t->Rp y z (y++s) (z++t)
 |skip (c:Nat) (s t:JZ):¬ y <+: c::s->Rp y z s t->Rp y z (c::s) (c::t)
def FE (hy:1<=y.length) (h:Rp (cl y) (cl z) s t):∃p ps,cl (Str.join y (p::ps))=s/\cl (Str.join z (p::ps))=t/\Tg y p ps:=by
 induction h with
 | nil=>
  refine ⟨Str.empty,[],rfl,rfl,λk I=>?_⟩
  have:=I.length_le
  rw[j5,qC9]at this;have e:(cl Str.empty).length=0:=rfl;omega
 | hit s t _ ih=>
  obtain ⟨p,ps,O,e2,h⟩:=ih;refine ⟨Str.empty,p::ps,?_,?_,λk I=>absurd I (qU3 _),h⟩
  .rw[g6,d7,d7,O];rfl
  .rw[g6,d7,d7,e2];rfl
 | skip c s t hn _ ih=>
  obtain ⟨p,ps,O,e2,h⟩:=ih;have jc:∀w:Str,cl (Str.join w ((⟨#[c]⟩++p)::ps))=c::cl (Str.join w (p::ps)):=λw=>by
   cases ps with
   |nil=>change cl (⟨#[c]⟩++p)=_;rw[d7];rfl
   |cons q r=>rw[g6,g6,d7,d7,d7,d7,d7];rfl
  refine ⟨⟨#[c]⟩++p,ps,by rw[jc,O],by rw[jc,e2],?_⟩;cases ps with
  | nil=>
   intro k I;have j1:cl (⟨#[c]⟩++p)=c::cl p:=by rw[d7];rfl
   rw[j1]at I;cases k with
   |zero=>show hn (by rw[<- O];show I)
   |succ k=>show h k I
  | cons q r=>
   refine ⟨λk I hp=>?_,h.2⟩;rw[jc]at hp;cases k with
   |zero=>show hn (by rw[<- O];show hp)
   | succ k=>
    refine h.1 k ?_ hp
    have:(⟨#[c]⟩++p:Str).length=p.length+1:=by rw[qF6];change 1+_=_;omega
    omega
def Q4 (I:1<=y.length) (h:Rp (cl y) (cl z) (cl x) t):cl (Txt.replace x y z)=t:=by
 obtain ⟨p,ps,O,e2,h⟩:=FE I h;rw[<- O4 O,dI I h,e2]
def cz (y s:JZ):Prop:=∀c r,s=c::r->c∉y
def bg:∀{y w s:JZ},cz y s->y <+: w++s->y <+: w
 | [],_,_,_,_=>List.nil_prefix
 | a::y,[],s,hs,h=>by
  obtain ⟨r,e⟩:=h;show absurd (qA2 ..) (hs a (y++r) (by rw[<- qG6,e];rfl))
 | a::y,b::w,s,hs,h=>by
  rw[qG6,qE8]at h;rw[qE8];show ⟨h.1,bg (λc r e hc=>hs c r e (qA4 _ hc)) h.2⟩
def aA:∀{w s t:JZ},a∉w->Rp (a::y) z s t->Rp (a::y) z (w++s) (w++t)
 | [],_,_,_,h=>h
 |c::w,s,t,hw,h=>.skip c _ _ (λI=>hw (by rw[(qE8.mp I).1];show qA2 ..)) (aA (λhc=>hw (qA4 _ hc)) h)
def km (hs:cz y s) (hw:Rp y z w w') (h:Rp y z s t):Rp y z (w++s) (w'++t):=by
 induction hw with
 |nil=>show h
 |hit O t0 _ I=>rw[qB6,qB6];show .hit _ _ I
 |skip c O t0 hn _ I=>show .skip c _ _ (λhp=>hn (bg hs hp)) I
def N6 (y:Str):∀(p:Str) (l:Jk),cl (Str.join y (p::l))=cl p++(l.map λq=>cl y++cl q).flatten
 |p,[]=>by rw[qG1,qT3,qD1];rfl
 | p,q::l=>by
  rw[g6,d7,d7,N6 y q l,qB2,qE4,qB6,qB6]
def du (y s r:Str) (l:Jk):Str.join y ((s++r)::l)=s++Str.join y (r::l):=by
 apply O4;rw[N6,d7,d7,N6,qB6]
def ci (y s:Str):∀(A:Jk) (l r:Str) (I:Jk),Str.join y (A ++ [l])++s++Str.join y (r::I)=Str.join y (A++(l++s++r)::I)
 | [],l,r,I=>by change l++s++_=Str.join y ((l++s++r)::I);rw[du]
 | [a],l,r,I=>by
  change Str.join y [a,l]++s++_=Str.join y (a::(l++s++r)::I);rw[g6,g6,du]
  change a++y++l++s++_=a++y++(l++s++_);simp only [qK6]
 | a::b::A,l,r,I=>by
  have:=ci y s (b::A) l r I
  change Str.join y (a::b::(A ++ [l]))++s++_=Str.join y (a::b::(A++(l++s++r)::I));rw[g6,g6,<- show Str.join y ((b::A) ++ [l])++s++Str.join y (r::I)=Str.join y (b::(A++(l++s++r)::I)) from this];simp only [qK6];rfl
def bq (y s:Str):∀(A:Jk) (l:Str),Str.join y (A ++ [l])++s=Str.join y (A ++ [l++s])
 | [],l=>rfl
 | [a],l=>by
  change Str.join y [a,l]++s=Str.join y [a,l++s];rw[g6,g6]
  change a++y++l++s=a++y++(l++s);simp only [qK6]
 | a::b::A,l=>by
  have:=bq y s (b::A) l
  change Str.join y (a::b::(A ++ [l]))++s=Str.join y (a::b::(A ++ [l++s]));rw[g6,g6,<- show Str.join y ((b::A) ++ [l])++s=Str.join y (b::(A ++ [l++s])) from this];simp only [qK6];rfl
def dv (y:Str) (b:Str) (B:Jk):∀(a:Str) (A:Jk),Str.join y (a::A++b::B)=Str.join y (a::A)++y++Str.join y (b::B)
 |a,[]=>rfl
 | a,c::A=>by
  have:=dv y b B c A
  change Str.join y (a::c::(A++b::B))=_;rw[g6,g6,show Str.join y (c::(A++b::B))=_ from this];simp only [qK6]
def nU:∀c∈cl (Txt.slice x l u),c∈cl x:=by
 change ∀c∈cl (StrLaws.sliceText x l u),c∈cl x;intro c hc;unfold StrLaws.sliceText at hc
 split at hc
 .show hc
 .obtain ⟨i,_,hi⟩:=qQ2.mp hc;show Array.mem_toList_iff.mpr (Array.mem_of_getElem? hi)
def lF (ha:0<=a) (I:b<=8):(sliceRange a b 1).length<=8:=by
 unfold sliceRange;rw[qA0,qG0]
 split
 .split <;> omega
 .omega
def E2 (h:x.length<=8):(Txt.slice x l u).length<=8:=by
 change (StrLaws.sliceText x l u).length<=8;unfold StrLaws.sliceText
 split
 .show h
 .change (List.filterMap _ _).toArray.size<=8;rw[qD6];refine qD9 (List.length_filterMap_le ..) ?_;unfold Builtin.Str.strSliceIndices;refine lF ?_ ?_
  .cases l with
   |none=>show Int.le_refl 0
   |some i=>change 0<=max 0 _;omega
  .cases u with
   |none=>change (x.length:Int)<=8;omega
   |some i=>change max 0 (min _ (x.length:Int))<=8;omega
def NoN (w:Str):Prop:=Sm w/\¬ Nm w/\W20 w
def pe (hl:w.length<=20) (hc:∀x∈cl w,(97<=x/\x<=122)\/x=c) (hm:c∈cl w) (h1:c<97) (h2:c≠32/\c≠59):NoN w:=
 ⟨⟨Qo,λx I=>by rcases hc x I with h|h <;> omega⟩,λh=>by have:=h.2.2 c hm;omega,Qo,λI=>by rcases hc _ I with h|h <;> omega,λI=>by rcases hc _ I with h|h <;> omega⟩
def ve:NoN (Str.ofString ""):=⟨Qx,λh=>absurd h.1 Qx,Qx⟩
def Gb:NoN (Str.ofString "abcdefghi"):=⟨Qx,λh=>absurd h.2.1 Qx,Qx⟩
def Bu (h:Nm n):NoN (Txt.upper n):=⟨(X1 h).2.1,(X1 h).1,(X1 h).2.2.1⟩
def lH (h:Nm n):∀c∈cl (Txt.slice n l u),97<=c/\c<=122:=λc hc=>h.2.2 c (nU c hc)
def vf (h:Nm n) (I:cl x = [c]) (h1:c<97) (h2:c≠32/\c≠59):NoN (Txt.slice n l u++x):=by
 have e:cl (Txt.slice n l u++x)=cl (Txt.slice n l u) ++ [c]:=by rw[d7,I]
 have O:=E2 (l:=l) (u:=u) h.2.1;refine pe (c:=c) ?_ (λx I=>?_) (by rw[e];show qC2 _ (qA2 ..)) h1 h2
 .rw[<- j5,e,qA1,j5];change _+1<=_;omega
 .rw [e]at I
  rcases qB7.mp I with I|I
  .show .inl (lH h x I)
  .show .inr (qC4.mp I)
def ul:cl "_" = [95]:=Qx
def c_1:cl "1" = [49]:=Qx
def c_2:cl "2" = [50]:=Qx
def vg (h:Nm n):NoN (Txt.slice n l u++Str.ofString "_" ++ Txt.slice n l' u'):=by
 have e:cl (Txt.slice n l u++Str.ofString "_" ++ Txt.slice n l' u')=cl (Txt.slice n l u) ++ [95]++cl (Txt.slice n l' u'):=by rw[d7,d7,ul]
 have l8:=E2 (l:=l) (u:=u) h.2.1;have O:=E2 (l:=l') (u:=u') h.2.1;refine pe (c:=95) ?_ (λx I=>?_) (by rw[e];show qE3 _ (qC2 _ (qA2 ..))) Qy Qy
 .rw[<- j5,e,qA1,qA1,j5,j5];change _+1+_<=_;omega
 .rw [e]at I
  rcases qB7.mp I with I|I
  .rcases qB7.mp I with I|I
   .show .inl (lH h x I)
   .show .inr (qC4.mp I)
  .show .inl (lH h x I)
def no5 (n:Str):List Str:=[Str.ofString "",Str.ofString "abcdefghi",Txt.upper n,Txt.slice n none (some 3)++Str.ofString "_" ++ Txt.slice n (some 3) (some 7),Txt.slice n none (some 7)++Str.ofString "2"]
def By (h:Nm n):∀w∈no5 n,NoN w:=by
 intro w hw;rcases qA7.mp hw with rfl|hw
 .show ve
 rcases qA7.mp hw with rfl|hw
 .show Gb
 rcases qA7.mp hw with rfl|hw
 .show Bu h
 rcases qA7.mp hw with rfl|hw
 .show vg h
 rcases qA7.mp hw with rfl|hw
 .show vf h c_2 Qy Qy
 cases hw
def aw (h:Nm n)(l u:Jv):slS (.str n) l u=.ok (.str (Txt.slice n l u)):=qA9 (by have:=h.2.1;omega)
def tF (S:Sh pl ml j ws n c0 x0 T cP y) (hi:i<5):Ok (w6 [.lst ((a9 pl ml).map lS),.int (i:Nat),.int ((pl.length+j:Nat):Int)]) Ref:=by
 have e0:=S.e0;have a1:=S.at1;have wl:=S.len;have l4:=S.l4;have h5:=By S.nm;have O:k7 (ws.map W.str) (some 2) none=(ws.drop 2).map W.str:=S.fr (a:=2) Qy;obtain ⟨u1,u2,u3,u4⟩:=X1 S.nm;have hu:gX (.str n)=.ok (.str (Txt.upper n)):=qA9 u4;have I:∀(m:JV) (ρ:Rho),fC m ρ=(m ρ>>=gX):=λ_ _=>rfl;have ma:=cy (ts:=no5 n) (i:=(i:Int)) ⟨Qo,by change (i:Int)<5;omega⟩;have s1:=aw S.nm none (some 3);have s2:=aw S.nm (some 3) (some 7);have s3:=aw S.nm none (some 7);have b1:=E2 (l:=none) (u:=some 3) S.nm.2.1;have b2:=E2 (l:=some 3) (u:=some 7) S.nm.2.1;have b3:=E2 (l:=none) (u:=some 7) S.nm.2.1;have f1:(Txt.slice n none (some 3)).length+(Str.ofString "_").length<=100000:=by rw[show (Str.ofString "_").length=1 by decide +kernel];omega
 have f2:(Txt.slice n none (some 3)++Str.ofString "_").length+(Txt.slice n (some 3) (some 7)).length<=100000:=by rw[qF6,show (Str.ofString "_").length=1 by decide +kernel];omega
 have f3:(Txt.slice n none (some 7)).length+(Str.ofString "2").length<=100000:=by rw[show (Str.ofString "2").length=1 by decide +kernel];omega
 have hw:=h5 _ (show (no5 n).getD (i:Int).toNat Str.empty∈no5 n by
  rw[qF1,qD4,qC3 (show i<(no5 n).length from hi)];show qH4 _)
 generalize (no5 n).getD (i:Int).toNat Str.empty=z at *
 unfold no5 at ma;rw[qB2,qB2,qB2,qB2,qB2,qG1]at ma;have hb:[Str.ofString "move",z]++ws.drop 2=mg "move" z (fl ((c0,x0)::T)) [num cP,y]:=by rw[S.hws];rfl
 obtain ⟨v,w,r⟩:=S.go (bw:=[Str.ofString "move",z]++ws.drop 2) (w3:=.lst (.str "move" :: .str z::(ws.drop 2).map W.str)) rfl (by rw[qA1,qC9];change 2+_<=30;omega) (A9 (aT (x4 eN) hw.2.2) λw hw=>S.q w (qF2 hw)) rfl (by rw[hb];show S.badN (by change 2<=100;decide) hw.1 (.inl hw.2.1));generalize Txt.slice n none (some 3)=A1 at *
 generalize Txt.slice n (some 3) (some 7)=A2 at *
 generalize Txt.slice n none (some 7)=A3 at *
 generalize Txt.upper n=A4 at *
 have l1:[W.str "move",W.str z].length+((ws.drop 2).map W.str).length<=1000:=by rw[qA0,qC9];change 2+_<=_;omega
 exists rpB,K4,e0,a1,I,hu,s1,s2,s3,ma,O,w
 first|show r|show ⟨_,rfl,r⟩
def Cy (S:Sh pl ml j ws n c0 x0 T cP y){i:Nat}(hi:i<5):Ok (FM pl ml j (27+(i:Int))) Ref:=by
 obtain ⟨v,e,r⟩:=tF S hi;have e0:=S.e0;have d:decide (26<27+(i:Int))=true:=qL6 Qo;have s:27+(i:Int)-27=(i:Int):=Qo;exists rpB,d5,e0,d,s,e
 first|show r|show ⟨_,rfl,r⟩
def L8:List Nat:=[98,99,100,101,102,103,104,105]
def seq8:bG (.str "bcdefghi")=.ok (L8.map λc=>W.str ⟨#[c]⟩):=by
 have e:cl "bcdefghi" = L8:=Qx;have a:(Str.ofString "bcdefghi").cps.all (·<128)=true:=Qx;have s:(Str.ofString "bcdefghi").cps.size<=1000:=Qx
 change (if _ then _ else _)=_;rw[qA9 ⟨a,s⟩];show congrArg (λl=>R.ok (l.map λc=>W.str ⟨#[c]⟩)) e
abbrev mc (k:Nat)(c:Nat):Str:=Txt.mul ⟨#[c]⟩ (k:Int)
instance (w:Str):Decidable (Nm w):=by unfold Nm;infer_instance
def vo:∀k:Nat,k<9->1<=k->∀c∈L8,Nm (mc k c)/\(mc k c).length=k:=Qx
def vp:∀k:Nat,k<9->1<=k->(L8.map (mc k)).Nodup:=Qx
def pz {k:Nat}(I:k<9):fMulS (.str ⟨#[c]⟩) (.int (k:Int))=.ok (.str (mc k c)):=qA9 ⟨by change 1<=100;decide,Qo,Qo⟩
def GD (S:Sh pl ml j ws n c0 x0 T cP y):Ok (FM pl ml j 23) Ref:=by
 have D:=S.D;have n5:=D.n5;have m7:=D.m7;have m1:=D.m1;have n1:=S.nm.1;have n8:=S.nm.2.1;have e0:=S.e0;have a1:=S.at1;have wl:=S.len;have l4:=S.l4;have hlen:=D.len;have c2:k7 (ws.map W.str) (some 2) none=(ws.drop 2).map W.str:=S.fr (a:=2) Qy;obtain ⟨k,hk⟩:∃k:Nat,9-(n.length:Int)=(k:Int):=⟨9-n.length,Qo⟩;have ok:=vo k Qo Qo;have nd:=vp k Qo Qo;have a4:n.length<=100000:=Qo;have lL:L8.length=8:=rfl
 let O:Nat->Mt:=λc=>(mc k c,(c0,x0)::T,[(cP,y)])
 have a3:∀c,mws (O c)=Str.ofString "move" :: mc k c::ws.drop 2:=λc=>by rw[S.hws];rfl
 have F:K6 pl (ml++L8.map O):=by
  refine ⟨Qo,by rw[qA1,qA0,lL];omega,λp hp=>⟨(D.np p hp).1,(D.np p hp).2.1⟩,λm hm=>?_,D.d1,?_⟩
  .rcases qB7.mp hm with hm|hm
   .show ⟨D.nn m hm,D.tol m hm⟩
   .obtain ⟨c,hc,rfl⟩:=qA6.mp hm;show ⟨(ok c hc).1,S.tT,S.tP⟩
  .rw [qB1,qD5]
   refine qO0.mpr ⟨D.d2,nd,λa ha b hb e=>?_⟩;obtain ⟨c,hc,rfl⟩:=qA6.mp hb;obtain ⟨m,hm,rfl⟩:=qA6.mp ha;obtain ⟨L,hL⟩:=D.lm;have q1:=hL m hm;have q2:n.length=L:=hL _ (qB5 S.hm);have q3:=(ok c hc).2;have q4:m.1.length=(mc k c).length:=congrArg Str.length e;omega
 have I:∀q∈a9 pl (ml++L8.map O),Q20 q:=λq I=>by
  rcases qB7.mp I with I|I
  .show D.q q (qE3 _ I)
  .obtain ⟨m,hm,rfl⟩:=qA6.mp I;rcases qB7.mp hm with hm|hm
   .show D.q _ (qC2 _ (qA6.mpr ⟨m,hm,rfl⟩))
   .obtain ⟨c,hc,rfl⟩:=qA6.mp hm;rw[a3];show ⟨by rw[qA3];omega,by rw[qA3,qA3,qC9];omega,J5 (x4 eN) (J5 (x4 (P1 (ok c hc).1)) λw hw=>S.q w (qF2 hw))⟩
 have ae:(a9 pl (ml++L8.map O)).length=pl.length+(ml.length+8):=by rw[qA1,qA0,qA0,qA1,qA0,lL]
 have r:Ref (.lst ((a9 pl (ml++L8.map O)).map lS)):=⟨_,rfl,Qo,Qo,I,cW F Qo I (.inr (.inr (by rw[qA1,qA0,lL];omega)))⟩;have hw:a9 pl (ml++L8.map O)=a9 pl ml++L8.map λc=>Str.ofString "move" :: mc k c::ws.drop 2:=by
  change pl.map pw++(ml++L8.map O).map mws=pl.map pw++ml.map mws++_;rw[qB1,qD5,qB6];congr 2;show qJ4 λc _=>a3 c
 rw[hw,qB1,qD5]at r;exists rpB,d5,e0,seq8;rw[P8 (λc=>W.lst (.str "move" :: .str (mc k c)::(ws.drop 2).map W.str)) (λc=>W.str ⟨#[c]⟩) L8 _ (by rw[lL];decide) ?_]
 .have l1:((a9 pl ml).map lS).length+(L8.map λc=>W.lst (.str "move" :: .str (mc k c)::(ws.drop 2).map W.str)).length<=1000:=by rw[qA0,qA0,lL,hlen];omega
  exists rp18
  first|show r|show ⟨_,rfl,r⟩
 .intro c hc;refine ⟨_,rfl,?_⟩;have hm:=pz (k:=k) (c:=c) Qo;have l1:[W.str "move",W.str (mc k c)].length+((ws.drop 2).map W.str).length<=1000:=by rw[qA0,qC9];change 2+_<=_;omega
  exists a1,hk,hm,c2
def fQ (h:Told ks l)(O:∀k∈ks,k∈ks'):Told ks' l:=⟨λp I=>⟨(h.1 p I).1,(h.1 p I).2.1,O _ (h.1 p I).2.2⟩,h.2⟩
def seq6 {d:Nat}(hd:d<=6):slS (.str "bcdefg") none (some (d:Int))=.ok (.str (Txt.slice (Str.ofString "bcdefg") none (some (d:Int))))/\bG (.str (Txt.slice (Str.ofString "bcdefg") none (some (d:Int))))=.ok ((L8.take d).map λc=>W.str ⟨#[c]⟩):=by
 have I:(Str.ofString "bcdefg").length=6:=Qx;have e:cl (Txt.slice (Str.ofString "bcdefg") none (some (d:Int)))=L8.take d:=by
  rw[uP (by rw[I];show hd),show cl "bcdefg" = L8.take 6 by decide +kernel,List.take_take,qH1 hd]
 have f:slS (.str "bcdefg") none (some (d:Int))=.ok (.str (Txt.slice (Str.ofString "bcdefg") none (some (d:Int)))):=by
  have O:(Str.ofString "bcdefg").length<=100000:=by rw[I];decide
  generalize Str.ofString "bcdefg" = x at *
  show qA9 O
 refine ⟨f,?_⟩;clear f;generalize Txt.slice (Str.ofString "bcdefg") none (some (d:Int))=x at *
 change (if _ then R.ok ((cl x).map λc=>W.str ⟨#[c]⟩) else _)=_;rw[e];refine qA9 ⟨?_,?_⟩
 .rw [<- qT1,qG5]
  intro c hc
  have:c∈L8.take d:=by rw[<- e];show hc
  have h8:∀c∈L8,c<128:=Qy;show qL6 (h8 c (qD0 this))
 .have:=congrArg List.length e
  rw[j5,qB9]at this
  have:x.cps.size=min d L8.length:=this
  omega
def Gq (D:Dw pl ml) (I:pl[a]?=some p):Ok (FP pl ml a 21) Ref:=by
 have a3:=D.np p (qB5 I);have n5:=D.n5;have n1:=D.n1;have m7:=D.m7;have l1:=a3.1.1;have l8:=a3.1.2.1;have hlen:=D.len;have e0:=atQ (D.atp I);have c:=ar lS (Q:=a9 pl ml) (a:=pl.length) Qo;have t1:(a9 pl ml).take pl.length=pl.map pw:=by
  change (pl.map pw++ml.map mws).take pl.length=pl.map pw;rw[qU4 (by rw[qA0])]
 have t2:(a9 pl ml).drop pl.length=ml.map mws:=by
  change (pl.map pw++ml.map mws).drop pl.length=_;rw[qU5 (by rw[qA0])]
 rw[t1,t2]at c;obtain ⟨k,hk⟩:∃k:Nat,9-(p.1.length:Int)=(k:Int):=⟨9-p.1.length,Qo⟩;obtain ⟨d,hd⟩:∃d:Nat,7-(pl.length:Int)=(d:Int):=⟨7-pl.length,Qo⟩;obtain ⟨q1,q2⟩:=seq6 (d:=d) Qo;have ok:=vo k Qo Qo;have nd:=vp k Qo Qo;have ae:p.1.length<=100000:=Qo;have lL:(L8.take d).length=d:=by rw[qB9];change min d 8=d;omega
 let O:Nat->Pl:=λc=>(mc k c,1)
 have a4:((pl++(L8.take d).map O).map (·.1)).Nodup:=by
  rw[qB1,qD5];refine qO0.mpr ⟨D.d1,?_,λa ha b hb e=>?_⟩
  .change ((L8.take d).map (mc k)).Nodup;rw[qG8];show qH7 (qH9 _ _) nd
  .obtain ⟨c,hc,rfl⟩:=qA6.mp hb;obtain ⟨m,hm,rfl⟩:=qA6.mp ha;obtain ⟨L,hL⟩:=D.ls;have q1:=hL m hm;have q2:=hL p (qB5 I);have q3:=(ok c (qD0 hc)).2;have q4:m.1.length=(mc k c).length:=congrArg Str.length e;omega
 have sub:∀x∈pl.map (·.1),x∈(pl++(L8.take d).map O).map (·.1):=λx hx=>by rw[qB1];show qE3 _ hx
 have c1:Cn 1:=⟨Qy,Qy⟩;have F:K6 (pl++(L8.take d).map O) ml:=by
  refine ⟨by rw[qA1,qA0,lL];omega,Qo,λp I=>?_,λm hm=>⟨D.nn m hm,fQ (D.tol m hm).1 sub,fQ (D.tol m hm).2 sub⟩,a4,D.d2⟩;rcases qB7.mp I with I|I
  .show ⟨(D.np p I).1,(D.np p I).2.1⟩
  .obtain ⟨c,hc,rfl⟩:=qA6.mp I;show ⟨(ok c (qD0 hc)).1,c1⟩
 have hq:∀q∈a9 (pl++(L8.take d).map O) ml,Q20 q:=λq hq=>by
  rcases qB7.mp hq with hq|hq
  .obtain ⟨p,I,rfl⟩:=qA6.mp hq;show AO (F.np p I)
  .show D.q q (qC2 _ hq)
 have b0:(a9 (pl++(L8.take d).map O) ml).length=pl.length+d+ml.length:=by rw[qA1,qA0,qA0,qA1,qA0,lL]
 have r:Ref (.lst ((a9 (pl++(L8.take d).map O) ml).map lS)):=⟨_,rfl,Qo,Qo,hq,cW F Qo hq (.inr (.inl (by rw[qA1,qA0,lL];omega)))⟩;have hw:(a9 (pl++(L8.take d).map O) ml).map lS=(pl.map pw).map lS++((L8.take d).map λc=>W.lst [.str "place",.str (mc k c),.str "1"])++(ml.map mws).map lS:=by
  change ((pl++(L8.take d).map O).map pw++ml.map mws).map lS=_;rw[qB1,qB1,qB1,qD5 (g:=pw),qD5 (g:=lS) (f:=pw∘O)];rw[one_num];rfl
 rw[hw]at r;exists F5,d6,e0,a30,a31,a32,hd,q1,q2;rw[P8 (λc=>W.lst [.str "place",.str (mc k c),.str "1"]) (λc=>W.str ⟨#[c]⟩) (L8.take d) _ (by rw[lL];omega) ?_]
 .have l1:((pl.map pw).map lS).length+((L8.take d).map λc=>W.lst [.str "place",.str (mc k c),.str "1"]).length<=1000:=by rw[qA0,qA0,qA0,lL];omega
  have l2:((pl.map pw).map lS++(L8.take d).map λc=>W.lst [.str "place",.str (mc k c),.str "1"]).length+((ml.map mws).map lS).length<=1000:=by rw[qA1,qA0,qA0,qA0,lL,qA0,qA0];omega
  exists c.1,c.2
  first|show r|show ⟨_,rfl,r⟩
 .intro c hc;refine ⟨_,rfl,?_⟩;have hm:=pz (k:=k) (c:=c) Qo;exists a31,hk,hm
def Aj {Q:List Jk}(hl:Q.length<=100) (hq:∀q∈Q,q.length<=100):r9 [.lst (Q.map lS),.str o,.str n]=.ok (.lst ((Q.map (ren o n)).map lS)):=by
 have I:Ok (r9 [.lst (Q.map lS),.str o,.str n]) λv=>v=.lst ((Q.map (ren o n)).map lS):=by
  exists rpB,S2;refine R0 (F6 (λi ρ=>∃a b:Sl,ρ = [.par (.lst (Q.map lS)),.par (.str o),.par (.str n),.own (((Q.take i).map (ren o n)).map lS),a,b]) ⟨_,_,by rw[qI9];rfl⟩ ?_ ?_)
  .rintro i w ρ O ⟨a,b,rfl⟩;rw[qC1]at O;obtain ⟨q,h,rfl⟩:=qF3.mp O;have hi:=(qA5.mp h).1;have hm:=hq q (qB5 h);have e:iU 3 5 4 1 2 [.par (.lst (Q.map lS)),.par (.str o),.par (.str n),.own (((Q.take i).map (ren o n)).map lS),.par (lS q),b]=.ok (.nx [.par (.lst (Q.map lS)),.par (.str o),.par (.str n),.own (((Q.take (i+1)).map (ren o n)).map lS),.par (lS q),.un]):=by
    change (if (3:Nat)≠5/\(4:Nat)≠5/\(1:Nat)≠5/\(2:Nat)≠5/\5<6 then lN 3 5 (((Q.take i).map (ren o n)).map lS) o n [.par (.lst (Q.map lS)),.par (.str o),.par (.str n),.own (((Q.take i).map (ren o n)).map lS),.par (lS q),b] (T7 (q.map W.str)) else R.stuck)=_;rw[qA9 Qy,U9];unfold lN;dsimp only;rw[qA9 ⟨by rw[qA0,qA0,qB9];omega,Qo⟩,take_one h,qB1,qB1];rfl
   refine ⟨_,rfl,?_⟩;refine Eq.mpr (congrArg (λr=>TP.Po r _ _) e) ?_;show ⟨_,_,rfl⟩
  .rintro ρ ⟨a,b,rfl⟩;rw[qA0,qG3];exists rp18
 obtain ⟨v,e,rfl⟩:=I;show e
def kq (o n:Str)(q:Jk):(ren o n q).length=q.length:=qA0 ..
def FF (hn:W20 n) (h:Q20 q):Q20 (ren o n q):=⟨by rw[kq];show h.1,by rw[kq];show h.2.1,λw hw=>by
 obtain ⟨x,I,rfl⟩:=qA6.mp hw
 change W20 (if x=o then n else x)
 split
 .show hn
 .show h.2.2 x I⟩
def rS (h:o∉q):ren o n q=q:=by
 conv=>rhs;rw[<- List.map_id q]
 refine qJ4 λx I=>qB4 λe=>h (by rw[<- e];show I)
def pi (h:Nm w) (hc:0<=c):w≠num c:=λe=>by
 have h1:=h.1;cases q:cl w with
 |nil=>have:=congrArg List.length q;rw[j5]at this;have:w.length=0:=this;omega
 | cons x r=>
  have a:=h.2.2 x (by rw[q];show qA2 ..);have b:=R1 hc x (by rw[<- e,q];show qA2 ..);omega
def pc (h:NoN w):w≠Str.ofString "move" /\ w≠Str.ofString "place" := ⟨λe=>h.2.1 (by rw[e];decide +kernel),λe=>h.2.1 (by rw[e];decide +kernel)⟩
def eY {a:Nat}(D:Dw pl ml) (hp:pl[a]?=some p) (hn:NoN n):Ref (.lst (((a9 pl ml).map (ren p.1 n)).map lS)):=by
 have ha:=(qA5.mp hp).1;have O:=D.np p (qB5 hp);have n5:=D.n5;have m7:=D.m7;have hlen:=D.len;have I:∀q∈(a9 pl ml).map (ren p.1 n),Q20 q:=λq I=>by
  obtain ⟨r,hr,rfl⟩:=qA6.mp I;show FF hn.2.2 (D.q r hr)
 have hl:((a9 pl ml).map (ren p.1 n)).length<=40:=by rw[qA0];omega
 refine ⟨_,rfl,by rw[qA0];omega,hl,I,?_⟩;by_cases c:p.1=Str.ofString "place"
 .obtain ⟨b,r,e⟩:∃b r,a9 pl ml=pw b::r:=by
   cases pl with
   |nil=>show absurd ha (qU3 _)
   |cons b r=>show ⟨b,r.map pw++ml.map mws,rfl⟩
  rw[e,qB2]at I hl ⊢;refine refuse (ps:=[]) (ms:=[]) ⟨qD7 _,qD7 _,(λ_ h=>by cases h),(λ_ h=>by cases h),List.Pairwise.nil,List.Pairwise.nil⟩ hl I (.inr (.inr ⟨n,?_,(pc hn).1,.inl (pc hn).2⟩))
  change some (if Str.ofString "place" = p.1 then n else Str.ofString "place")=some n;rw[qA9 c.symm]
 .have e1:a9 pl ml=(pl.take a).map pw++pw p::(a9 pl ml).drop (a+1):=by
   have h1:=qK4 a (a9 pl ml);rw[qG4 Qo]at h1;rw[show (a9 pl ml)[a]=pw p from (qA5.mp (D.atp hp)).2]at h1
   rw [show (a9 pl ml).take a=(pl.take a).map pw by
    change (pl.map pw++ml.map mws).take a=_;rw[qG8,qN1 (by rw[qA0];omega)]]at h1
   show h1.symm
  have e2:((pl.take a).map pw).map (ren p.1 n)=a9 (pl.take a) []:=by
   change _=(pl.take a).map pw ++ [];rw[qD1]
   conv=>rhs;rw[<- List.map_id ((pl.take a).map pw)]
   refine qJ4 λq I=>?_;obtain ⟨b,hb,rfl⟩:=qA6.mp I;have a3:=D.np b (qD0 hb);refine rS λh=>?_;rcases qA7.mp h with h|h
   .show c h
   rcases qA7.mp h with h|h
   .show D.fresh hp (qA6.mpr ⟨b,hb,h.symm⟩)
   .show pi O.1 a3.2.1.1 (qC4.mp h)
  have e3:ren p.1 n (pw p) = [Str.ofString "place",n,num p.2]:=by
   change [if Str.ofString "place" = p.1 then n else Str.ofString "place",if p.1=p.1 then n else p.1,if num p.2=p.1 then n else num p.2]=_;rw[qB4 (λh=>c h.symm),qA9 rfl,qB4 (λh=>pi O.1 O.2.1.1 h.symm)]
  have e4:(a9 pl ml).map (ren p.1 n)=a9 (pl.take a) [] ++ [Str.ofString "place",n,num p.2]::((a9 pl ml).drop (a+1)).map (ren p.1 n):=by
   conv=>lhs;rw[e1]
   rw[qB1,e2,qB2,e3]
  rw[e4]at I hl ⊢;show refuse ⟨by rw[qB9];omega,qD7 _,λp hp=>⟨(D.np p (qD0 hp)).1,(D.np p (qD0 hp)).2.1⟩,(λ_ h=>by cases h),by rw[qG8];show qH7 (qH9 _ _) D.d1,List.Pairwise.nil⟩ hl I (.inr (.inl ⟨rfl,rfl,λq=>Q9 rfl hn.1 (.inl hn.2.1)⟩))
def eZ (D:Dw pl ml) (o n:Str):r9 [.lst ((a9 pl ml).map lS),.str o,.str n]=.ok (.lst (((a9 pl ml).map (ren o n)).map lS)):=
 Aj (by rw[qA1,qA0,qA0];have:=D.n5;have:=D.m7;omega) λq I=>by have:=(D.q q I).2.1;omega
def Gp (D:Dw pl ml) (O:pl[a]?=some p):Ok (FP pl ml a 22) Ref:=by
 have I:=D.np p (qB5 O);have e0:=atQ (D.atp O);have s1:=aw I.1 none (some 7);have b1:=E2 (l:=none) (u:=some 7) I.1.2.1;have nn:=vf (l:=none) (u:=some 7) I.1 c_1 Qy Qy;have f1:(Txt.slice p.1 none (some 7)).length+(Str.ofString "1").length<=100000:=by rw[show (Str.ofString "1").length=1 by decide +kernel];omega
 generalize Txt.slice p.1 none (some 7)=A at *
 have r:=eY D O nn;have w:=eZ D p.1 (A++Str.ofString "1");exists F5,d6,e0,a30,a31,a32,s1,w
 first|show r|show ⟨_,rfl,r⟩
def Go (D:Dw pl ml) (O:pl[a]?=some p):Ok (FP pl ml a 23) Ref:=by
 have I:=D.np p (qB5 O);have e0:=atQ (D.atp O);have s1:=aw I.1 none (some 3);have s2:=aw I.1 (some 3) (some 7);have b1:=E2 (l:=none) (u:=some 3) I.1.2.1;have b2:=E2 (l:=some 3) (u:=some 7) I.1.2.1;have nn:=vg (l:=none) (u:=some 3) (l':=some 3) (u':=some 7) I.1;have f1:(Txt.slice p.1 none (some 3)).length+(Str.ofString "_").length<=100000:=by rw[show (Str.ofString "_").length=1 by decide +kernel];omega
 have f2:(Txt.slice p.1 none (some 3)++Str.ofString "_").length+(Txt.slice p.1 (some 3) (some 7)).length<=100000:=by rw[qF6,show (Str.ofString "_").length=1 by decide +kernel];omega
 generalize Txt.slice p.1 none (some 3)=A at *
 generalize Txt.slice p.1 (some 3) (some 7)=B at *
 have r:=eY D O nn;have w:=eZ D p.1 (A++Str.ofString "_" ++ B);exists F5,d6,e0,a30,a31,a32,s1,s2,w
 first|show r|show ⟨_,rfl,r⟩
def Gn (D:Dw pl ml) (I:pl[a]?=some p):Ok (FP pl ml a 24) Ref:=by
 have e0:=atQ (D.atp I);have r:=eY D I ve;have w:=eZ D p.1 (Str.ofString "");exists F5,d6,e0,a30,a31,a32,w
 first|show r|show ⟨_,rfl,r⟩
abbrev Bt (t:Str):Prop:=u8 [.str t]=NX
def lG:K6 [] []:=⟨qD7 _,qD7 _,(λ_ h=>by cases h),(λ_ h=>by cases h),List.Pairwise.nil,List.Pairwise.nil⟩
def e20:W20 (Str.ofString ""):=Qx
def emp:Str.ofString "" = Str.empty:=Qx
def gY (q r:Jk) (P Q:List Jk):told (q::P++r::Q)=told (q::P)++B2++told (r::Q):=by
 unfold told;rw[qB1,qB2,qB2,dv]
def Fo:Bt (Str.ofString ""):=by
 have h:told [[Str.ofString ""]]=Str.ofString "" := rfl;rw[<- h];show refuse (ps:=[]) (ms:=[]) (bad:=[Str.ofString ""]) (rest:=[]) lG (by change 1<=40;decide) (λq I=>by rw[qC4.mp I];show ⟨by change 1<=1;decide,by change 1<=30;decide,J5 e20 U4⟩) (.inr (.inr ⟨_,rfl,Qx,.inl Qx⟩))
def Dw.cons (D:Dw pl ml):∃p ps,pl=p::ps:=by
 cases pl with
 |nil=>show absurd D.n1 (by change ¬ 1<=0;decide)
 |cons p ps=>show ⟨p,ps,rfl⟩
def Dw.last (D:Dw pl ml):∃j n c0 x0 T cP y ws,Sh pl ml j ws n c0 x0 T cP y/\a9 pl ml=a9 pl (ml.take j) ++ [ws]:=by
 have m1:=D.m1;have hm:ml[ml.length-1]?=some (ml[ml.length-1]'Qo):=qC3 _;obtain ⟨n,c0,x0,T,cP,y,S⟩:=D.shape hm;refine ⟨ml.length-1,n,c0,x0,T,cP,y,_,S,?_⟩
 change pl.map pw++ml.map mws=pl.map pw++(ml.take (ml.length-1)).map mws++_;rw[qB6];congr 1
 have:=take_one hm
 rw[show ml.length-1+1=ml.length by omega,qG3]at this
 conv=>lhs;rw[this]
 rw[qB1];rfl
def Fu (D:Dw pl ml):Bt (told (a9 pl ml)++B2):=by
 have n5:=D.n5;have m7:=D.m7;have hl:=D.len;have e:told (a9 pl ml)++B2=told (a9 pl ml ++ [[Str.ofString ""]]):=by
  obtain ⟨p,ps,rfl⟩:=D.cons
  change told (pw p::(ps.map pw++ml.map mws))++B2=told (pw p::(ps.map pw++ml.map mws) ++ [[Str.ofString ""]]);rw[gY]
  change _=_++B2++Str.ofString "";rw[emp,qS8]
 rw[e];show refuse D.sm_ (by rw[qA1,hl];change _+1<=_;omega) (λq I=>by
  rcases qB7.mp I with I|I
  .show D.q q I
  .rw[qC4.mp I];show ⟨by change 1<=1;decide,by change 1<=30;decide,J5 e20 U4⟩) (.inr (.inr ⟨_,rfl,Qx,.inl Qx⟩))
def Ft (D:Dw pl ml):Bt (B1++told (a9 pl ml)):=by
 have n5:=D.n5;have m7:=D.m7;have hl:=D.len;have O:=D.q;obtain ⟨p,ps,rfl⟩:=D.cons;have e:B1++told (a9 (p::ps) ml)=told ((Str.ofString "" :: pw p)::(ps.map pw++ml.map mws)):=by
  change B1++Str.join B2 (Str.join B1 (pw p)::(ps.map pw++ml.map mws).map (Str.join B1))=Str.join B2 (Str.join B1 (Str.ofString "" :: pw p)::(ps.map pw++ml.map mws).map (Str.join B1));rw[<- du];rfl
 rw[e];have h0:=O (pw p) (qA2 ..);show refuse (ps:=[]) (ms:=[]) lG (by have:(ps.map pw++ml.map mws).length+1=_:=hl;change (ps.map pw++ml.map mws).length+1<=40;omega) (λq I=>by
  rcases qA7.mp I with rfl|I
  .show ⟨by change 1<=4;decide,by change 4<=30;decide,J5 e20 h0.2.2⟩
  .show O q (qA4 _ I)) (.inr (.inr ⟨_,rfl,Qx,.inl Qx⟩))
def Fk (D:Dw pl ml):Bt (Str.join B2 [told (a9 pl ml),told (a9 pl ml)]):=by
 have n5:=D.n5;have m7:=D.m7;have m1:=D.m1;have hl:=D.len;have hq:=D.q;have e:Str.join B2 [told (a9 pl ml),told (a9 pl ml)]=told (a9 pl ml++a9 pl ml):=by
  obtain ⟨p,ps,rfl⟩:=D.cons
  change told (pw p::(ps.map pw++ml.map mws))++B2++told (pw p::(ps.map pw++ml.map mws))=told (pw p::(ps.map pw++ml.map mws)++pw p::(ps.map pw++ml.map mws));rw[gY]
 rw[e];have I:(a9 pl ml++a9 pl ml).length<=40:=by rw[qA1,hl];omega
 have O:∀q∈a9 pl ml++a9 pl ml,Q20 q:=λq h=>by
  rcases qB7.mp h with h|h
  .show hq q h
  .show hq q h
 obtain ⟨p,r,e2⟩:∃p r,a9 pl ml=pw p::r:=by
  obtain ⟨p,ps,rfl⟩:=D.cons;show ⟨p,ps.map pw++ml.map mws,rfl⟩
 have e3:a9 pl ml++a9 pl ml=a9 pl ml++pw p::r:=by rw[<- e2]
 rw[e3]at I O ⊢;show refuse D.sm_ I O (.inr (.inr ⟨_,rfl,Qx,.inr (λh=>by rw[h]at m1;show absurd m1 (by change ¬ 1<=0;decide))⟩))
def de (P:List Jk) (q:Jk) (x:Str):told (P ++ [q])++x=Str.join B2 (P.map (Str.join B1) ++ [Str.join B1 q++x]):=by
 unfold told;rw[qB1]
 change Str.join B2 (P.map (Str.join B1) ++ [Str.join B1 q])++x=_;rw[bq]
def fP (P:List Jk) (q:Jk):told (P ++ [q])=Str.join B2 (P.map (Str.join B1) ++ [Str.join B1 q]):=by
 unfold told;rw[qB1];rfl
def Fs (D:Dw pl ml):Bt (told (a9 pl ml)++B1):=by
 have n5:=D.n5;have m7:=D.m7;obtain ⟨j,n,c0,x0,T,cP,y,ws,S,e⟩:=D.last;have hl:=D.len;have l4:=S.l4;have wl:=S.len;have ew:Str.join B1 ws++B1=Str.join B1 (ws ++ [Str.ofString ""]):=by
  rw[S.hws]
  change Str.join B1 (Str.ofString "move" :: _)++B1=Str.join B1 (Str.ofString "move" :: _ ++ [Str.ofString ""]);rw[dv]
  change _=_++B1++Str.ofString "";rw[emp,qS8]
 have e2:told (a9 pl ml)++B1=told (a9 pl (ml.take j) ++ [ws ++ [Str.ofString ""]]):=by
  rw[e,de,ew,fP]
 have O:ws ++ [Str.ofString ""]=mg "move" n (fl ((c0,x0)::T)) [num cP,y,Str.ofString ""]:=by rw[S.end_,qB6];rfl
 rw[e2];refine refuse (D.sub j) (by rw[e,qA1]at hl;rw[qA1];change _+1<=40;have:(a9 pl (ml.take j)).length+1=_:=hl;omega) (λq I=>?_) (.inl ⟨by rw[O];rfl,by rw[O];show S.badB (by change 3<=100;decide) λq=>eF (by change 3%2=1;rfl)⟩);rcases qB7.mp I with I|I
 .show D.q q (by rw[e];show qE3 _ I)
 .rw [qC4.mp I]
  show ⟨by rw[qA1];change 1<=_+1;omega,by rw[qA1];change _+1<=_;omega,A9 S.q (J5 e20 U4)⟩
def Sh.yx (S:Sh pl ml j ws n c0 x0 T cP y) (hx:cl x = [c]) (hc:c<97):(y++x)∉pl.map (·.1):=λh=>by
 obtain ⟨p2,I,O⟩:=qA6.mp h;have h2:=(S.D.np p2 I).1;replace O:p2.1=y++x:=O
 rw[O]at h2
 have:=h2.2.2 c (by rw[d7,hx];show qC2 _ (qA2 ..))
 omega
abbrev hdT (n:Str) (c0:Int)(x0:Str)(T:List Pr) (cP:Int):List Str:=Str.ofString "move" :: n::Str.ofString "takes" :: fl ((c0,x0)::T) ++ [Str.ofString "puts",num cP]
def Sh.end2 (S:Sh pl ml j ws n c0 x0 T cP y):ws=hdT n c0 x0 T cP ++ [y]:=by
 rw[S.end_,qB6];rfl
def Sh.badY (S:Sh pl ml j ws n c0 x0 T cP y) (O:cl x = [c]) (hc:c<97):bD pl (ml.take j) (hdT n c0 x0 T cP ++ [y++x]):=by
 have I:hdT n c0 x0 T cP ++ [y++x]=mg "move" n (fl ((c0,x0)::T)) [num cP,y++x]:=by rw[qB6];rfl
 show .inl ⟨by rw[I];rfl,by rw[I];show S.badB (by change 2<=100;decide) λq=>B8 (l:=[]) (a:=num cP) (b:=y++x) (r:=[]) R7 (.inl (S.yx O hc)) rfl rfl⟩
def Fm (D:Dw pl ml):Bt (told (a9 pl ml)++Str.ofString "\n"):=by
 have n5:=D.n5;have m7:=D.m7;obtain ⟨j,n,c0,x0,T,cP,y,ws,S,e⟩:=D.last;have hl:=D.len;have l4:=S.l4;have wl:=S.len;have O:cl "\n" = [10]:=Qx;have ln:(Str.ofString "\n").length=1:=Qx;have e2:told (a9 pl ml)++Str.ofString "\n" = told (a9 pl (ml.take j) ++ [hdT n c0 x0 T cP ++ [y++Str.ofString "\n"]]):=by
  rw[e,de,S.end2,bq,fP]
 rw[e2];refine refuse (D.sub j) (by rw[e,qA1]at hl;rw[qA1];change _+1<=40;have:(a9 pl (ml.take j)).length+1=_:=hl;omega) (λq I=>?_) (S.badY O Qy);rcases qB7.mp I with I|I
 .show D.q q (by rw[e];show qE3 _ I)
 .rw [qC4.mp I]
  have y2:=S.y20;have ly:=S.ly;rw[S.end2,qA1]at wl;have a3:(hdT n c0 x0 T cP).length+1=_:=wl;refine ⟨by rw[qA1];change 1<=_+1;omega,by rw[qA1];change _+1<=_;omega,A9 (λw hw=>S.q w (by rw[S.end2];show qE3 _ hw)) (J5 ⟨by rw[qF6,ln];omega,?_,?_⟩ U4)⟩
  .rw [d7,O];intro h
   rcases qB7.mp h with h|h
   .show y2.2.1 h
   .show absurd (qC4.mp h) Qy
  .rw [d7,O];intro h
   rcases qB7.mp h with h|h
   .show y2.2.2 h
   .show absurd (qC4.mp h) Qy
def jG:1<=B2.length:=by rw[lB2];decide
def gZ (I:cl y=c::s) (O:Tg y x []):∀(ps:Jk),(∀q∈ps,c∉cl q)->∀p,c∉cl p->Tg y p (ps ++ [x])
 | [],_,p,hp=>eR I hp O
 |q::ps,h,p,hp=>eR I hp (gZ I O ps (λz hz=>h z (qA4 _ hz)) q (h q (qA2 ..)))
def dF (h:Txt.split x y=l) (O:1<=y.length) (I:x.length<=100000) (hl:l.length<=1000):F1 x (.str y)=.ok (lS l):=by
 change (if _ then R.ok (W.lst ((Txt.split x y).map W.str)) else _)=_;rw[qA9 ⟨qM7.mpr Qo,I,by rw[h];show hl⟩,h]
def X6 (h:Q20 q):59∉cl (Str.join B1 q):=cj (by rw[cB1];decide) q λw hw=>(h.2.2 w hw).2.2
def Fv (D:Dw pl ml):Bt (told (a9 pl ml)++Str.ofString ";"):=by
 have n5:=D.n5;have m7:=D.m7;obtain ⟨j,n,c0,x0,T,cP,y,ws,S,e⟩:=D.last;have hl:=D.len;have l4:=S.l4;have wl:=S.len;have ly:=S.ly;have cn:cl ";" = [59]:=Qx;have ln:(Str.ofString ";").length=1:=Qx;have qs:Q20 ws:=D.q ws (by rw[e];show qC2 _ (qA2 ..));have fr:59∉cl (Str.join B1 ws):=X6 qs;have ll:=S0 qs;have tg:Tg B2 (Str.join B1 ws++Str.ofString ";") []:=λk hk=>by
  rw[d7,cn,cB2]at hk;obtain ⟨u,e⟩:=hk;have e0:((cl (Str.join B1 ws) ++ [59]).drop k)[0]?=some 59:=by rw[<- e];rfl
  have e1:((cl (Str.join B1 ws) ++ [59]).drop k)[1]?=some 32:=by rw[<- e];rfl
  rw[qJ9]at e0 e1;by_cases hk:k<(cl (Str.join B1 ws)).length
  .rw [Nat.add_zero,qD2 hk]at e0
   show fr (qB5 e0)
  .have:=(qA5.mp e1).1
   rw[qA1]at this
   have:k+1<(cl (Str.join B1 ws)).length+1:=this
   omega
 have hW:F1 (Str.join B1 ws++Str.ofString ";") (.str B1)=.ok (lS (hdT n c0 x0 T cP ++ [y++Str.ofString ";"])):=by
  have ej:Str.join B1 ws++Str.ofString ";" = Str.join B1 (hdT n c0 x0 T cP ++ [y++Str.ofString ";"]):=by rw[S.end2,bq]
  have hlen:(hdT n c0 x0 T cP ++ [y++Str.ofString ";"]).length=ws.length:=by rw[S.end2,qA1 (bs:=[y++Str.ofString ";"]),qA1 (bs:=[y])];rfl
  have I:Txt.split (Str.join B1 (hdT n c0 x0 T cP ++ [y++Str.ofString ";"])) B1=hdT n c0 x0 T cP ++ [y++Str.ofString ";"]:=by
   refine Q3 cB1 Qx (Str.ofString "move") _ λq O=>?_
   have:q∈hdT n c0 x0 T cP ++ [y++Str.ofString ";"]:=O
   rcases qB7.mp this with h|h
   .show (S.q q (by rw[S.end2];show qE3 _ h)).2.1
   .rw [qC4.mp h,d7,cn]
    intro h;rcases qB7.mp h with h|h
    .show S.y20.2.1 h
    .show absurd (qC4.mp h) Qy
  rw[<- ej]at I;refine dF I (by rw[lB1];decide) (by rw[qF6,ln];omega) Qo
 obtain ⟨p,ps,a3⟩:=D.cons;obtain ⟨P0,eP⟩:∃P0,a9 pl (ml.take j)=pw p::P0:=by subst a3;show ⟨_,rfl⟩
 have qa:∀q∈a9 pl (ml.take j),Q20 q:=λq O=>D.q q (by rw[e];show qE3 _ O);have hP:(a9 pl (ml.take j)).length+1=pl.length+ml.length:=by rw[e,qA1]at hl;show hl
 have hs:F1 (told (a9 pl ml)++Str.ofString ";") (.str B2)=.ok (lS (pts pl (ml.take j)++(Str.join B1 ws++Str.ofString ";") :: [])):=by
  rw[<- aP];have lt:(told (a9 pl ml)++Str.ofString ";").length<=100000:=by
   have l:=S6 (B:=630) B2 ((a9 pl ml).map (Str.join B1)) λp hp=>by
    obtain ⟨r,hr,rfl⟩:=qA6.mp hp;show S0 (D.q r hr)
   rw[lB2,qA0,hl]at l;have l2:(pl.length+ml.length)*(630+2)<=12*632:=qI8 _ Qo;rw[qF6,ln]
   change (Str.join B2 ((a9 pl ml).map (Str.join B1))).length+1<=_;omega
  have ej:told (a9 pl ml)++Str.ofString ";" = Str.join B2 ((a9 pl (ml.take j)).map (Str.join B1) ++ [Str.join B1 ws++Str.ofString ";"]):=by rw[e,de]
  have hf:∀q∈(a9 pl (ml.take j)).map (Str.join B1),59∉cl q:=λq O=>by
   obtain ⟨r,hr,rfl⟩:=qA6.mp O;show X6 (qa r hr)
  have I:Txt.split (Str.join B2 ((a9 pl (ml.take j)).map (Str.join B1) ++ [Str.join B1 ws++Str.ofString ";"])) B2=(a9 pl (ml.take j)).map (Str.join B1) ++ [Str.join B1 ws++Str.ofString ";"]:=by
   rw[eP,qB2]at hf ⊢;show dh jG Qx (gZ cB2 tg _ (λq O=>hf q (qA4 _ O)) _ (hf _ (qA2 ..)))
  rw[<- ej]at I;show dF I jG lt (by rw[qA1,qA0];change _+1<=_;omega)
 show fb (D.sub j) hs hW (S.badY cn Qy)
def Beg (q:Jk):Prop:=∃c r,cl (Str.join B1 q)=c::r/\c≠32
def qJ (I:cl x=c::r)(h:c≠32)(l:Jk):Beg (x::l):=⟨c,r++(l.map λq=>cl B1++cl q).flatten,by rw[N6,I];rfl,h⟩
def Dw.beg (D:Dw pl ml):∀q∈a9 pl ml,Beg q:=λq I=>by
 rcases qB7.mp I with I|I
 .obtain ⟨p,O,rfl⟩:=qA6.mp I;show qJ (x:=Str.ofString "place") (c:=112) (r:=[108,97,99,101]) Qx Qy _
 .obtain ⟨p,O,rfl⟩:=qA6.mp I;show qJ (x:=Str.ofString "move") (c:=109) (r:=[111,118,101]) Qx Qy _
abbrev SC:Str:=Str.ofString ";"
def cSC:cl SC = [59]:=Qx
def vh:∀(Q:List Jk) (q:Jk),(∀r∈q::Q,Q20 r/\Beg r)->∀k,¬ cl B2 <+: (cl (Str.join SC ((q::Q).map (Str.join B1)))).drop k
 | [],q,h,k,hk=>by
  show ka cB2 (X6 (h q (qA2 ..)).1) k hk
 | r::Q,q,h,k,hk=>by
  have I:=vh Q r (λz hz=>h z (qA4 _ hz));have fr:=X6 (h q (qA2 ..)).1;obtain ⟨c,w,hc,O⟩:=(h r (qA4 _ (qA2 ..))).2;rw[qB2,qB2,g6,d7,d7,cSC,qB6]at hk;rw[qB2]at I;generalize hs:cl (Str.join SC (Str.join B1 r::Q.map (Str.join B1)))=s at hk I
  rw[N6,hc]at hs;generalize cl (Str.join B1 q)=a at fr hk
  rw[List.drop_append]at hk;by_cases h1:k<a.length
  .rw [cB2]at hk
   obtain ⟨u,e⟩:=hk;have e0:(a.drop k++([59]++s).drop (k-a.length))[0]?=some 59:=by rw[<- e];rfl
   rw[qD2 (by rw[qC9];omega),qJ9]at e0;show fr (qB5 e0)
  .rw [qO2 Qo,qH8]at hk
   obtain ⟨d,hd⟩:∃d,k-a.length=d:=⟨_,rfl⟩;rw[hd]at hk;cases d with
   | zero=>
    rw[qL2,cB2,<- hs]at hk
    have:=(qE8.mp (qE8.mp hk).2).1
    show O this.symm
   |succ d=>show I d hk
def kh:∀{l:Jk},2<=l.length->∃a A x,l=a::A ++ [x]
 | [],h=>absurd h (by change ¬ 2<=0;decide)
 | [_],h=>absurd h (by change ¬ 2<=1;decide)
 | [a,b],_=>⟨a,[],b,rfl⟩
 | a::b::c::l,_=>by
  obtain ⟨I,A,x,e⟩:=kh (l:=b::c::l) (by rw[qA3,qA3];omega);show ⟨a,I::A,x,by rw[e];rfl⟩
def kO:∀(Q:List Jk) (q:Jk),(∀r∈q::Q,Q20 r/\2<=r.length)->∃r O,Str.join SC ((q::Q).map (Str.join B1))=Str.join B1 (r::O)/\(∀w∈r::O,32∉cl w)/\1<=O.length/\O.length<=30*(Q.length+1)
 | [],q,h=>by
  have I:=h q (qA2 ..);cases q with
  |nil=>show absurd I.2 (by change ¬ 2<=0;decide)
  | cons a A=>
   have h2:=I.2;have h3:=I.1.2.1;rw[qA3]at h2 h3;show ⟨a,A,rfl,λw hw=>(I.1.2.2 w hw).2.1,Qo,by rw[qI4];omega⟩
 | q2::Q,q,h=>by
  obtain ⟨r,O,e,hw,h1,h2⟩:=kO Q q2 λz hz=>h z (qA4 _ hz);have I:=h q (qA2 ..);obtain ⟨a,A,x,rfl⟩:=kh I.2;have h3:=I.1.2.1;rw[qA1,qA3]at h3;have a4:A.length+1+1<=30:=h3;refine ⟨a,A++(x++SC++r)::O,?_,λw a3=>?_,by rw[qA1,qA3];omega,by rw[qA1,qA3,qA3];omega⟩
  .rw[qB2,qB2,g6,<- qB2,e,ci];rfl
  .have:w∈(a::A)++(x++SC++r)::O:=a3
   rcases qB7.mp this with h|h
   .show (I.1.2.2 w (qE3 _ h)).2.1
   .rcases qA7.mp h with rfl|h
    .rw [d7,d7,cSC]
     intro z;rcases qB7.mp z with z|z
     .rcases qB7.mp z with z|z
      .show (I.1.2.2 x (qC2 _ (qA2 ..))).2.1 z
      .show absurd (qC4.mp z) Qy
     .show hw r (qA2 ..) z
    .show hw w (qA4 _ h)
def Dw.two (D:Dw pl ml):∀q∈a9 pl ml,2<=q.length:=λq I=>by
 rcases qB7.mp I with I|I
 .obtain ⟨p,O,rfl⟩:=qA6.mp I
  change 2<=3;decide
 .obtain ⟨p,O,rfl⟩:=qA6.mp I
  change 2<=(mw p.1 p.2.1 p.2.2).length;rw[V1];omega
def Fq (D:Dw pl ml):Bt (Txt.replace (told (a9 pl ml)) B2 SC):=by
 have n5:=D.n5;have m7:=D.m7;have m1:=D.m1;have hl:=D.len;have hq:=D.q;have a3:=D.beg;have h2:=D.two;obtain ⟨p,ps,rfl⟩:=D.cons;have hf:∀q∈(a9 (p::ps) ml).map (Str.join B1),59∉cl q:=λq I=>by
  obtain ⟨r,O,rfl⟩:=qA6.mp I;show X6 (hq r O)
 have er:Txt.replace (told (a9 (p::ps) ml)) B2 SC=Str.join SC ((a9 (p::ps) ml).map (Str.join B1)):=dI jG (eO cB2 _ _ hf);rw[er];have no:=vh (ps.map pw++ml.map mws) (pw p) λr O=>⟨hq r O,a3 r O⟩;obtain ⟨Q2,q2,eQ⟩:∃Q2 q2,ps.map pw++ml.map mws=q2::Q2:=by
  cases hc:ps.map pw++ml.map mws with
  | nil=>
   have:=congrArg List.length hc
   rw[qA1,qA0,qA0,qI4]at this;omega
  |cons a b=>show ⟨b,a,rfl⟩
 have a4:Q2.length+1+1<=12:=by
  have:(ps.map pw++ml.map mws).length+1=_:=hl
  rw[eQ,qA3]at this;omega
 obtain ⟨r,rs,e,hw,h1,hb⟩:=kO Q2 q2 λz hz=>⟨hq z (by change z∈pw p::(ps.map pw++ml.map mws);rw[eQ];show qA4 _ hz),h2 z (by change z∈pw p::(ps.map pw++ml.map mws);rw[eQ];show qA4 _ hz)⟩;have lt:(Str.join SC ((a9 (p::ps) ml).map (Str.join B1))).length<=100000:=by
  have l:=S6 (B:=630) SC ((a9 (p::ps) ml).map (Str.join B1)) λp hp=>by
   obtain ⟨r,O,rfl⟩:=qA6.mp hp;show S0 (hq r O)
  rw[show SC.length=1 by decide +kernel,qA0,hl]at l;have l2:((p::ps).length+ml.length)*(630+1)<=12*631:=qI8 _ Qo;omega
 have ew:Str.join SC ((a9 (p::ps) ml).map (Str.join B1))=Str.join B1 ([Str.ofString "place",p.1]++(num p.2++SC++r)::rs):=by
  change Str.join SC ((pw p::(ps.map pw++ml.map mws)).map (Str.join B1))=_;rw[eQ,qB2,qB2,g6,<- qB2,e];show ci B1 SC [Str.ofString "place",p.1] (num p.2) r rs
 have hs:F1 (Str.join SC ((a9 (p::ps) ml).map (Str.join B1))) (.str B2)=.ok (lS (pts [] []++Str.join SC ((a9 (p::ps) ml).map (Str.join B1)) :: [])):=dF (dh (ps:=[]) jG Qx no) jG lt (by change 1<=1000;decide);have h0:=hq (pw p) (qA2 ..);have hW:F1 (Str.join SC ((a9 (p::ps) ml).map (Str.join B1))) (.str B1)=.ok (lS ([Str.ofString "place",p.1]++(num p.2++SC++r)::rs)):=by
  refine dF ?_ (by rw[lB1];decide) lt (by rw[qA1,qA3];change 2+(_+1)<=1000;omega);rw[ew];refine Q3 cB1 Qx (Str.ofString "place") _ λq I=>?_;rcases qA7.mp I with rfl|I
  .show (h0.2.2 _ (qA2 ..)).2.1
  rcases qA7.mp I with rfl|I
  .show (h0.2.2 _ (qA4 _ (qA2 ..))).2.1
  rcases qA7.mp I with rfl|I
  .rw [d7,d7,cSC]
   intro z;rcases qB7.mp z with z|z
   .rcases qB7.mp z with z|z
    .show (h0.2.2 _ (qA4 _ (qA4 _ (qA2 ..)))).2.1 z
    .show absurd (qC4.mp z) Qy
   .show hw r (qA2 ..) z
  .show hw q (qA4 _ I)
 show fb lG hs hW (.inr (.inl ⟨rfl,rfl,λq=>place_len (by rw[qA1,qA3 (a:=num p.2++SC++r)];change 2+(_+1)≠3;omega)⟩))
def gq (D:Dw pl ml) (hq:∀q∈a9 pl ml,Q20 (g q)) (hp:∀p∈pl,g (pw p)≠pw p->∀a,pl[a]?=some p->bD (pl.take a) [] (g (pw p))) (hm:∀m∈ml,bD pl [] (g (mws m))):Bt (told ((a9 pl ml).map g)):=by
 have n5:=D.n5;have m7:=D.m7;have m1:=D.m1;have hl:=D.len;have O:∀q∈(a9 pl ml).map g,Q20 q:=λq h=>by
  obtain ⟨r,hr,rfl⟩:=qA6.mp h;show hq r hr
 have I:((a9 pl ml).map g).length<=40:=by rw[qA0];omega
 have a3:∀a,K6 (pl.take a) []:=λa=>⟨by rw[qB9];omega,qD7 _,λp hp=>⟨(D.np p (qD0 hp)).1,(D.np p (qD0 hp)).2.1⟩,(λ_ h=>by cases h),by rw[qG8];show qH7 (qH9 _ _) D.d1,List.Pairwise.nil⟩
 let P:Pl->Bool:=λp=>decide (g (pw p)≠pw p)
 obtain ⟨a,ha⟩:∃a,pl.findIdx P=a:=⟨_,rfl⟩;have same:∀b,b<=a->((pl.take b).map pw).map g=a9 (pl.take b) []:=λb hb=>by
  change _=(pl.take b).map pw ++ [];rw[qD1]
  conv=>rhs;rw[<- List.map_id ((pl.take b).map pw)]
  refine qJ4 λq hq=>?_;obtain ⟨x,hx,rfl⟩:=qA6.mp hq;obtain ⟨i,hi,rfl⟩:=List.getElem_of_mem hx;rw[qB9]at hi;have nf:=List.not_of_lt_findIdx (p:=P) (xs:=pl) (i:=i) (by rw[ha];omega);rw[List.getElem_take];have ae:decide (g (pw pl[i])≠pw pl[i])=false:=nf
  have:=of_decide_eq_false ae
  show Decidable.not_not.mp this
 by_cases c:a<pl.length
 .have a4:pl[a]?=some pl[a]:=qC3 c;have bad:g (pw pl[a])≠pw pl[a]:=by
   have:pl.findIdx P<pl.length:=by rw[ha];show c
   have h:=List.findIdx_getElem (p:=P) (xs:=pl) (w:=this);have h2:P pl[a]=true:=by
    have:pl[pl.findIdx P]=pl[a]:=by congr 1
    rw[<- this];show h
   show qN9 h2
  have e1:a9 pl ml=(pl.take a).map pw++pw pl[a]::(a9 pl ml).drop (a+1):=by
   have h1:=qK4 a (a9 pl ml);rw[qG4 Qo]at h1;rw[show (a9 pl ml)[a]=pw pl[a] from (qA5.mp (D.atp a4)).2]at h1
   rw [show (a9 pl ml).take a=(pl.take a).map pw by
    change (pl.map pw++ml.map mws).take a=_;rw[qG8,qN1 (by rw[qA0];omega)]]at h1
   show h1.symm
  have e4:(a9 pl ml).map g=a9 (pl.take a) []++g (pw pl[a])::((a9 pl ml).drop (a+1)).map g:=by
   conv=>lhs;rw[e1]
   rw[qB1,same a (qB8 _),qB2]
  rw[e4]at O I ⊢;show refuse (a3 a) I O (hp _ (qH4 c) bad a a4)
 .cases ml with
  |nil=>show absurd m1 (by change ¬ 1<=0;decide)
  | cons m ml=>
   have s:=same pl.length Qo;rw[qG3]at s;have e4:(a9 pl (m::ml)).map g=a9 pl []++g (mws m)::(ml.map mws).map g:=by
    change (pl.map pw++mws m::ml.map mws).map g=_;rw[qB1,s,qB2]
   have F:=a3 pl.length;rw[qG3]at F;rw[e4]at O I ⊢;show refuse F I O (hm m (qA2 ..))
def yg (q:Jk) (Q:List Jk):cl (told (q::Q))=cl (Str.join B1 q)++(Q.map λr=>59::32::cl (Str.join B1 r)).flatten:=by
 unfold told;rw[qB2,N6,qD5,cB2];rfl
def mm (h:59∉y) (Q:List Jk):cz y (Q.map λr=>59::32::cl (Str.join B1 r)).flatten:=by
 cases Q with
 |nil=>intro c r e;cases e
 |cons q Q=>intro c r e;rw[qB2,qE4,qG6]at e;injection e with e1 _;rw[<- e1];show h
def dP (h:32∉y) (I:cz y s) (ws:Jk):cz y ((ws.map λq=>cl B1++cl q).flatten++s):=by
 cases ws with
 |nil=>show I
 |cons w ws=>intro c r e;rw[qB2,qE4,cB1,qB6,qB6]at e;injection e with e1 _;rw[<- e1];show h
abbrev mv:Str:=Str.ofString "move"
abbrev Mv:Str:=Str.ofString "Move"
def bz:cl mv = [109,111,118,101]:=Qx
def uv:cl Mv = [77,111,118,101]:=Qx
def lM:∀(N:Nat) (s:JZ),s.length<=N->∃t,Rp (cl mv) (cl Mv) s t/\t.length=s.length/\(∀c∈t,c∈s\/c=77)/\(t=s\/77∈t)
 |_,[],_=>⟨[],.nil,rfl,(λ_ h=>by cases h),.inl rfl⟩
 |0,c::s,h=>absurd h (by rw[qA3];omega)
 | N+1,c::s,h=>by
  rw[qA3]at h;by_cases hp:cl mv <+: c::s
  .obtain ⟨r,e⟩:=hp;have hr:r.length<=N:=by
    have:=congrArg List.length e
    rw[qA1,qA3,bz]at this
    have:4+r.length=s.length+1:=this
    omega
   obtain ⟨t,h1,h2,h3,O⟩:=lM N r hr;rw[<- e];refine ⟨cl Mv++t,.hit _ _ h1,by rw[qA1,qA1,h2,bz,uv];rfl,λx I=>?_,.inr (by rw[uv];show qA2 ..)⟩;rcases qB7.mp I with I|I
   .rw [uv]at I
    rcases qA7.mp I with rfl|I
    .show .inr rfl
    .show .inl (qE3 _ (by rw[bz];show qA4 _ I))
   .rcases h3 x I with h|h
    .show .inl (qC2 _ h)
    .show .inr h
  .obtain ⟨t,h1,h2,h3,O⟩:=lM N s Qo;refine ⟨c::t,.skip c _ _ hp h1,by rw[qA3,qA3,h2],λx I=>?_,?_⟩
   .rcases qA7.mp I with rfl|I
    .show .inl (qA2 ..)
    .rcases h3 x I with h|h
     .show .inl (qA4 _ h)
     .show .inr h
   .rcases O with h|h
    .show .inl (by rw[h])
    .show .inr (qA4 _ h)
abbrev rM (w:Str):Str:=Txt.replace w mv Mv
def mv1:1<=mv.length:=Qx
def gI (w:Str):Rp (cl mv) (cl Mv) (cl w) (cl (rM w))/\(rM w).length=w.length/\(∀c∈cl (rM w),c∈cl w\/c=77)/\(rM w=w\/77∈cl (rM w)):=by
 obtain ⟨t,h1,h2,h3,I⟩:=lM _ (cl w) (qB8 _);have e:=Q4 mv1 h1;rw[<- e]at h1 h2 h3 I;refine ⟨h1,by rw[<- j5,<- j5,h2],h3,?_⟩;rcases I with h|h
 .show .inl (O4 h)
 .show .inr h
def kt (h:109∉cl w):rM w=w:=by
 apply O4;refine Q4 mv1 ?_
 have:=aA (a:=109) (y:=[111,118,101]) (z:=cl Mv) (w:=cl w) (s:=[]) (t:=[]) h .nil
 rw[qD1]at this;rw[bz];show this
def FH:rM mv=Mv:=by
 apply O4;refine Q4 mv1 ?_
 have:=Rp.hit (y:=cl mv) (z:=cl Mv) [] [] .nil
 rw[qD1,qD1]at this;show this
def fc (I:cz (cl mv) s) (h:Rp (cl mv) (cl Mv) s t):∀(ws:Jk) (w:Str),Rp (cl mv) (cl Mv) (cl (Str.join B1 (w::ws))++s) (cl (Str.join B1 ((w::ws).map rM))++t)
 | [],w=>km I (gI w).1 h
 | v::ws,w=>by
  have ih:=fc I h ws v;rw[qB2,qB2,g6,g6,d7,d7,d7,d7,cB1,qB6,qB6,qB6,qB6];refine km (λc r e=>?_) (gI w).1 (.skip 32 _ _ (λO=>?_) ih)
  .injection e with e1 _;rw[<- e1,bz];decide
  .rw[bz]at O;show absurd (qE8.mp O).1 Qy
def kr:∀(Q:List Jk) (q:Jk),(∀r∈q::Q,1<=r.length)->Rp (cl mv) (cl Mv) (cl (told (q::Q))) (cl (told ((q::Q).map λr=>r.map rM)))
 | [],q,h=>by
  cases q with
  |nil=>show absurd (h [] (qA2 ..)) (by change ¬ 1<=0;decide)
  | cons w ws=>
   have:=fc (s:=[]) (t:=[]) (λc r e=>by cases e) .nil ws w
   rw[qD1,qD1]at this;show this
 | r::Q,q,h=>by
  have O:=kr Q r λz hz=>h z (qA4 _ hz);cases q with
  |nil=>show absurd (h [] (qA2 ..)) (by change ¬ 1<=0;decide)
  | cons w ws=>
   change Rp _ _ (cl (Str.join B1 (w::ws)++B2++told (r::Q))) (cl (Str.join B1 ((w::ws).map rM)++B2++told ((r::Q).map λr=>r.map rM)));rw[d7,d7,d7,d7,cB2,qB6,qB6];refine fc (λc r e=>?_) (.skip 59 _ _ (λI=>?_) (.skip 32 _ _ (λI=>?_) O)) ws w
   .injection e with e1 _;rw[<- e1,bz];decide
   .rw[bz]at I;show absurd (qE8.mp I).1 Qy
   .rw[bz]at I;show absurd (qE8.mp I).1 Qy
def Ga (h:0<=c):109∉cl (num c):=λhm=>by have:=R1 h _ hm;omega
def Fn (D:Dw pl ml):Bt (Txt.replace (told (a9 pl ml)) mv Mv):=by
 have e:Txt.replace (told (a9 pl ml)) mv Mv=told ((a9 pl ml).map λr=>r.map rM):=by
  apply O4;refine Q4 mv1 ?_;have hq:=D.q;obtain ⟨p,ps,rfl⟩:=D.cons;show kr (ps.map pw++ml.map mws) (pw p) λr hr=>(hq r hr).1
 rw[e];refine gq D (λq hq=>?_) (λp hp a4 a ha=>?_) (λm hm=>?_)
 .have h:=D.q q hq;refine ⟨by rw[qA0];show h.1,by rw[qA0];show h.2.1,λw hw=>?_⟩;obtain ⟨x,O,rfl⟩:=qA6.mp hw;have O:=h.2.2 x O;obtain ⟨_,h2,h3,_⟩:=gI x;show ⟨by rw[h2];show O.1,λhc=>by rcases h3 _ hc with h|h;show O.2.1 h;omega,λhc=>by rcases h3 _ hc with h|h;show O.2.2 h;omega⟩
 .have I:=D.np p hp;have e1:rM "place" = Str.ofString "place" := kt Qx;have e2:rM (num p.2)=num p.2:=kt (Ga I.2.1.1);have eq:(pw p).map rM = [Str.ofString "place",rM p.1,num p.2]:=by
   change [rM "place",rM p.1,rM (num p.2)]=_;rw[e1,e2]
  obtain ⟨_,h2,h3,h4⟩:=gI p.1;have a3:77∈cl (rM p.1):=by
   rcases h4 with h|h
   .show absurd (by rw[eq,h]) a4
   .show h
  have l8:=I.1.2.1;rw[eq];show .inr (.inl ⟨rfl,rfl,λq=>Q9 rfl ⟨Qo,λc hc=>by rcases h3 c hc with h|h;have:=I.1.2.2 c h;omega;omega⟩ (.inl λhN=>by have:=hN.2.2 77 a3;omega)⟩)
 .show .inr (.inr ⟨Mv,by change some (rM mv)=_;rw[FH],Qx,.inl Qx⟩)
abbrev tk:Str:=Str.ofString "takes"
abbrev tk1:Str:=Str.ofString " takes"
abbrev tk2:Str:=Str.ofString "  takes"
def jw:cl tk = [116,97,107,101,115]:=Qx
def gQ:cl tk1=32::cl tk:=Qx
def Hj:cl tk2=32::32::cl tk:=Qx
def tk11:1<=tk1.length:=Qx
def ins (w:Str):List Str:=if cl tk <+: cl w then [Str.empty,w] else [w]
def Y5:List Str->List Str
 | []=>[]
 |w::ws=>w::(ws.map ins).flatten
def gP (h:cl tk <+: cl w):ins w = [Str.empty,w]:=qA9 h
def em (h:¬ cl tk <+: cl w):ins w = [w]:=qB4 h
abbrev bw (ws:Jk):List Nat:=(ws.map λq=>cl B1++cl q).flatten
def cU (w:Str) (ws:Jk):bw (w::ws)=32::(cl w++bw ws):=by
 change ((w::ws).map λq=>cl B1++cl q).flatten=_;rw[qB2,qE4,cB1];rfl
def EA (a b:Jk):bw (a++b)=bw a++bw b:=by
 change ((a++b).map _).flatten=_;rw[qB1,List.flatten_append]
def uH (hs:cz (cl tk) s) (h:Rp (cl tk1) (cl tk2) s t):∀ws:List Str,(∀w∈ws,32∉cl w)->Rp (cl tk1) (cl tk2) (bw ws++s) (bw (ws.map ins).flatten++t)
 | [],_=>h
 | w::ws,hw=>by
  have ih:=uH hs h ws λz hz=>hw z (qA4 _ hz);have I:=hw w (qA2 ..);have ps:=dP (y:=cl tk) (by rw[jw];decide) hs ws;rw[qB2,qE4,EA,cU,qB6,qG6,qB6];rw[gQ,Hj]at ih ⊢;by_cases O:cl tk <+: cl w
  .rw [gP O,cU,cU,show cl Str.empty = [] from rfl,qH8]
   obtain ⟨r,e⟩:=O;have hr:32∉r:=λhx=>I (by rw[<- e];show qC2 _ hx)
   have:=Rp.hit (y:=32::cl tk) (z:=32::32::cl tk) _ _ (aA (w:=r) hr ih)
   rw[<- e];simp only [qG6,qB6,qG1,qT3,qD1,qH8]at this ⊢;show this
  .rw [em O,cU]
   have:=Rp.skip (y:=32::cl tk) (z:=32::32::cl tk) 32 _ _ (λhq=>O (bg ps (qE8.mp hq).2)) (aA (w:=cl w) I ih)
   simp only [qG6,qB6,qG1,qT3,qD1,qH8]at this ⊢;show this
def jZ (I:cz (cl tk) s) (h:Rp (cl tk1) (cl tk2) s t) (hw:∀z∈w::ws,32∉cl z):Rp (cl tk1) (cl tk2) (cl (Str.join B1 (w::ws))++s) (cl (Str.join B1 (Y5 (w::ws)))++t):=by
 change Rp _ _ _ (cl (Str.join B1 (w::(ws.map ins).flatten))++t)
 have:=uH I h ws λz hz=>hw z (qA4 _ hz)
 rw[N6,N6,qB6,qB6];rw[gQ]at this ⊢;show aA (hw w (qA2 ..)) this
def jY:∀(Q:List Jk) (q:Jk),(∀r∈q::Q,Q20 r/\∀w,r[0]?=some w->¬ cl tk <+: cl w)->Rp (cl tk1) (cl tk2) (cl (told (q::Q))) (cl (told ((q::Q).map Y5)))
 | [],q,h=>by
  have I:=(h q (qA2 ..)).1;cases q with
  |nil=>show absurd I.1 (by change ¬ 1<=0;decide)
  | cons w ws=>
   have:=jZ (s:=[]) (t:=[]) (λc r e=>by cases e) .nil λz hz=>(I.2.2 z hz).2.1
   rw[qD1,qD1]at this;show this
 | r::Q,q,h=>by
  have ih:=jY Q r λz hz=>h z (qA4 _ hz);have I:=(h q (qA2 ..)).1;have hr:=h r (qA4 _ (qA2 ..));cases q with
  |nil=>show absurd I.1 (by change ¬ 1<=0;decide)
  | cons w ws=>
   change Rp _ _ (cl (Str.join B1 (w::ws)++B2++told (r::Q))) (cl (Str.join B1 (Y5 (w::ws))++B2++told ((r::Q).map Y5)));rw[d7,d7,d7,d7,cB2,qB6,qB6];refine jZ (λc r e=>?_) (.skip 59 _ _ (λhp=>?_) (.skip 32 _ _ (λhp=>?_) ih)) λz hz=>(I.2.2 z hz).2.1
   .injection e with e1 _;rw[<- e1,jw];decide
   .rw[gQ]at hp;show absurd (qE8.mp hp).1 Qy
   .rw [gQ]at hp
    have O:=(qE8.mp hp).2;cases r with
    |nil=>show absurd hr.1.1 (by change ¬ 1<=0;decide)
    | cons v vs=>
     refine hr.2 v rfl (bg ?_ (s:=bw vs++(Q.map λr=>59::32::cl (Str.join B1 r)).flatten) ?_)
     .show dP (by rw[jw];decide) (mm (by rw[jw];decide) Q) vs
     .rw[yg,N6,qB6]at O;show O
def fG:∀ws:List Str,(ws.map ins).flatten.length<=2*ws.length
 | []=>qB8 0
 | w::ws=>by
  have:=fG ws
  rw[qB2,qE4,qA1,qA3]
  have:(ins w).length<=2:=by unfold ins;split;show qB8 2;show Nat.le_succ 1
  omega
def kR:∀(ws:Jk){x:Str},x∈ws->¬ cl tk <+: cl x->(ws.map ins).flatten.length<2*ws.length
 | [],x,h,_=>by cases h
 | w::ws,x,h,hx=>by
  rw[qB2,qE4,qA1,qA3];rcases qA7.mp h with rfl|h
  .have:=fG ws
   rw[em hx];change 1+_<_;omega
  .have:=kR ws h hx
   have:(ins w).length<=2:=by unfold ins;split;show qB8 2;show Nat.le_succ 1
   omega
def Gz (h:∀w∈q,W20 w):∀w∈Y5 q,W20 w:=by
 cases q with
 |nil=>show h
 | cons a ws=>
  refine J5 (h a (qA2 ..)) λw hw=>?_;obtain ⟨l,hl,hw⟩:=List.mem_flatten.mp hw;obtain ⟨x,I,rfl⟩:=qA6.mp hl;unfold ins at hw
  split at hw
  .rcases qA7.mp hw with rfl|hw
   .rw[<- emp];show e20
   .rw[qC4.mp hw];show h x (qA4 _ I)
  .rw[qC4.mp hw];show h x (qA4 _ I)
def pb (h:0<=c):¬ cl tk <+: cl (num c):=λI=>by
 rw[jw]at I;obtain ⟨r,e⟩:=I
 have:=R1 h 116 (by rw[<- e];show qA2 ..)
 omega
def BF (hl:ws.length<=900) (h1:ws[1]?=some n) (hn:Sm n/\¬ Nm n) (O:∀x,ws[2]?=some x->Sm x):i1 [lS ws,.dst true q ks vs,.dst false p ks2 vs2]=NX:=by
 by_cases h:ws[2]?=some (Str.ofString "takes")
 .obtain ⟨v,e,I⟩:=iy hl;rcases I with rfl|⟨m,rfl⟩
  .show gd h e
  .show ge h e h1 hn.1 (.inl hn.2)
 .show Z7 hl h O
def Fp (D:Dw pl ml):Bt (Txt.replace (told (a9 pl ml)) tk1 tk2):=by
 have hq:=D.q;have n5:=D.n5;have h0:∀r∈a9 pl ml,∀w,r[0]?=some w->¬ cl tk <+: cl w:=λr hr w hw=>by
  rcases qB7.mp hr with hr|hr
  .obtain ⟨p,_,rfl⟩:=qA6.mp hr
   have:Str.ofString "place" = w:=by injection hw
   rw[<- this];decide +kernel
  .obtain ⟨p,_,rfl⟩:=qA6.mp hr
   have:Str.ofString "move" = w:=by injection hw
   rw[<- this];decide +kernel
 have e:Txt.replace (told (a9 pl ml)) tk1 tk2=told ((a9 pl ml).map Y5):=by
  apply O4;refine Q4 tk11 ?_;obtain ⟨p,ps,rfl⟩:=D.cons;show jY (ps.map pw++ml.map mws) (pw p) λr hr=>⟨hq r hr,h0 r hr⟩
 rw[e];have a4:∀m∈ml,∃n c0 x0 T cP y,Nm n/\0<=c0/\mws m=Str.ofString "move" :: n::tk::num c0::x0::(fl T ++ [Str.ofString "puts",num cP,y])/\T.length<=4:=λm hm=>by
  obtain ⟨j,hj,rfl⟩:=List.getElem_of_mem hm;obtain ⟨n,c0,x0,T,cP,y,S⟩:=D.shape (qC3 hj);show ⟨n,c0,x0,T,cP,y,S.nm,S.k0c.1,S.hws,S.l4⟩
 have ql:∀q∈a9 pl ml,1<=(Y5 q).length/\(Y5 q).length<=30:=λq I=>by
  rcases qB7.mp I with h|h
  .obtain ⟨p,_,rfl⟩:=qA6.mp h
   have:=fG [p.1,num p.2]
   change 1<=(([p.1,num p.2]).map ins).flatten.length+1/\_+1<=30
   have:(([p.1,num p.2]).map ins).flatten.length<=4:=this
   show ⟨Qo,Qo⟩
  .obtain ⟨m,hm,rfl⟩:=qA6.mp h;obtain ⟨n,c0,x0,T,cP,y,hn,hc,ew,l4⟩:=a4 m hm;rw[ew];have l1:=kR (n::tk::num c0::x0::(fl T ++ [Str.ofString "puts",num cP,y])) (x:=num c0) (qA4 _ (qA4 _ (qA2 ..))) (pb hc);rw[qA3,qA3,qA3,qA3,qA1,i7]at l1;have b3:((n::tk::num c0::x0::(fl T ++ [Str.ofString "puts",num cP,y])).map ins).flatten.length<2*(2*T.length+3+1+1+1+1):=l1
   change 1<=((n::tk::num c0::x0::(fl T ++ [Str.ofString "puts",num cP,y])).map ins).flatten.length+1/\((n::tk::num c0::x0::(fl T ++ [Str.ofString "puts",num cP,y])).map ins).flatten.length+1<=30;show ⟨Qo,Qo⟩
 have O:cl tk <+: cl tk:=List.prefix_refl _;have a3:Sm Str.empty/\¬ Nm Str.empty:=⟨⟨qD7 _,λc hc=>by cases hc⟩,λh=>absurd h.1 (by change ¬ 1<=0;decide)⟩;refine gq D (λq I=>⟨(ql q I).1,(ql q I).2,Gz (hq q I).2.2⟩) (λp hp ae a ha=>?_) (λm hm=>?_)
 .have b0:=D.np p hp;have en:ins (num p.2) = [num p.2]:=em (pb b0.2.1.1);have hy:cl tk <+: cl p.1:=by
   refine Decidable.byContradiction λhx=>ae ?_
   change Str.ofString "place" :: (ins p.1++(ins (num p.2) ++ []))=_;rw[en,em hx];rfl
  have eq:Y5 (pw p) = [Str.ofString "place",Str.empty,p.1,num p.2]:=by
   change Str.ofString "place" :: (ins p.1++(ins (num p.2) ++ []))=_;rw[en,gP hy];rfl
  rw[eq];show .inr (.inl ⟨rfl,rfl,λq=>place_len (by change 4≠3;decide)⟩)
 .have lq:=(ql (mws m) (qC2 _ (qA6.mpr ⟨m,hm,rfl⟩))).2;obtain ⟨n,c0,x0,T,cP,y,hn,hc,ew,l4⟩:=a4 m hm;rw[ew]at lq ⊢;have sn:Sm n:=⟨by have:=hn.2.1;omega,λc hc=>by have:=hn.2.2 c hc;omega⟩;refine .inl ⟨rfl,λq p=>?_⟩;by_cases h:cl tk <+: cl n
  .have eq:Y5 (Str.ofString "move" :: n::tk::num c0::x0::(fl T ++ [Str.ofString "puts",num cP,y]))=Str.ofString "move" :: Str.empty::n::(((tk::num c0::x0::(fl T ++ [Str.ofString "puts",num cP,y])).map ins).flatten):=by
    change Str.ofString "move" :: (ins n++_)=_;rw[gP h];rfl
   rw[eq]at lq ⊢;show BF Qo rfl a3 λx hx=>by
    have:n=x:=by injection hx
    rw[<- this];show sn
  .have eq:Y5 (Str.ofString "move" :: n::tk::num c0::x0::(fl T ++ [Str.ofString "puts",num cP,y]))=Str.ofString "move" :: n::Str.empty::tk::(((num c0::x0::(fl T ++ [Str.ofString "puts",num cP,y])).map ins).flatten):=by
    change Str.ofString "move" :: (ins n++(ins tk++_))=_;rw[em h,gP O];rfl
   rw[eq]at lq ⊢;show Z7 Qo (λh=>by
    have:Str.empty=Str.ofString "takes" := by injection h
    show absurd this Qx) λx hx=>by
    have:Str.empty=x:=by injection hx
    rw[<- this];show a3.1
def Cw (D:Dw pl ml) (I:pl[a]?=some p) (h0:0<=k) (a3:k<26):Ok (FP pl ml a k) Ref:=by
 by_cases c:k<14
 .obtain ⟨i,rfl⟩:∃i:Nat,k=(i:Int):=⟨k.toNat,Qo⟩;show Cv D I Qo
 .by_cases O:25<=k
  .show Gm D I O
  .have hk:k=14\/k=15\/k=16\/k=17\/k=18\/k=19\/k=20\/k=21\/k=22\/k=23\/k=24:=Qo;rcases hk with rfl|rfl|rfl|rfl|rfl|rfl|rfl|rfl|rfl|rfl|rfl
   .show Gy D I
   .show Gx D I
   .show Gw D I
   .show Gv D I
   .show Gu D I
   .show Gs D I
   .show Gr D I
   .show Gq D I
   .show Gp D I
   .show Go D I
   .show Gn D I
def CA (D:Dw pl ml) (hm:ml[j]?=some m) (h0:0<=k) (O:k<32):Ok (FM pl ml j k) Ref:=by
 by_cases c:k<14
 .obtain ⟨i,rfl⟩:∃i:Nat,k=(i:Int):=⟨k.toNat,Qo⟩;show Cz D hm Qo
 .obtain ⟨n,c0,x0,T,cP,y,S⟩:=D.shape hm;by_cases I:27<=k
  .have:=Cy S (i:=(k-27).toNat) Qo
   rw[show 27+(((k-27).toNat:Nat):Int)=k by omega]at this;show this
  .have hk:k=14\/k=15\/k=16\/k=17\/k=18\/k=19\/k=20\/k=21\/k=22\/k=23\/k=24\/k=25\/k=26:=Qo;rcases hk with rfl|rfl|rfl|rfl|rfl|rfl|rfl|rfl|rfl|rfl|rfl|rfl|rfl
   .show GM S
   .show GL S
   .show GK S
   .show GJ S
   .show GI S
   .show GH S
   .show GG S
   .show GF S
   .show GE S
   .show GD S
   .show GC S
   .show GB S
   .show GA S
def db (t:Str):List Str:=[t++Str.ofString ";",t++Str.ofString "; ",Str.ofString " " ++ t,t++Str.ofString " ",Txt.replace t (Str.ofString "; ") (Str.ofString ";"),Txt.replace t (Str.ofString " takes") (Str.ofString "  takes"),Str.ofString "",Txt.replace t (Str.ofString "move") (Str.ofString "Move"),t++Str.ofString "\n",Str.join (Str.ofString "; ") [t,t]]
def vX (D:Dw pl ml):∀w∈db (told (a9 pl ml)),Bt w:=by
 intro w hw;rcases qA7.mp hw with rfl|hw
 .show Fv D
 rcases qA7.mp hw with rfl|hw
 .show Fu D
 rcases qA7.mp hw with rfl|hw
 .show Ft D
 rcases qA7.mp hw with rfl|hw
 .show Fs D
 rcases qA7.mp hw with rfl|hw
 .show Fq D
 rcases qA7.mp hw with rfl|hw
 .show Fp D
 rcases qA7.mp hw with rfl|hw
 .show Fo
 rcases qA7.mp hw with rfl|hw
 .show Fn D
 rcases qA7.mp hw with rfl|hw
 .show Fm D
 rcases qA7.mp hw with rfl|hw
 .show Fk D
 cases hw
def qd (D:Dw pl ml){ns:JQ}(hb:∀x∈ns,Builtin.Int.intBits x<=1048576):∃t,L0 [.lst ((a9 pl ml).map lS),.int (pl.length:Nat),.scr (ns.map W.int)]=.ok (.str t)/\Bt t:=by
 have n5:=D.n5;have n1:=D.n1;have m7:=D.m7;have m1:=D.m1;have hl:=D.len;obtain ⟨z,ez⟩:=P9 hb (k:=2) Qy Qy;have k0:0<=z%68:=Qo;have k1:z%68<68:=Qo;by_cases c:z%68<26
 .have q0:=qK8 (z/68) (show (pl.length:Int)≠0 by omega);have q1:=qK0 (z/68) (show (0:Int)<pl.length by omega);obtain ⟨a,ha⟩:∃a:Nat,z/68%(pl.length:Int)=(a:Int):=⟨(z/68%(pl.length:Int)).toNat,Qo⟩;have hp:pl[a]?=some (pl[a]'Qo):=qC3 _;obtain ⟨v,ev,Q,rfl,h1,I,hQ,O⟩:=Cw D hp k0 c;have ct:=λρ (h:ρ.length=8)=>Z8 (ρ:=ρ) (N':=9) (k:=8) h rfl I hQ;have tj:=Y9 I hQ;have d:decide (z%68<26)=true:=qL6 c;refine ⟨told Q,?_,O⟩;exists rpB,K9,ez,d,ha,ev;rw[ct _ rfl];exists tj
 .have d:decide (z%68<26)=false:=qL1 c;by_cases c2:z%68<58
  .have d2:decide (z%68<58)=true:=qL6 c2;have ll:((pl.length+ml.length:Nat):Int)-(pl.length:Int)=(ml.length:Int):=Qo;have q0:=qK8 (z/68) (show (ml.length:Int)≠0 by omega);have q1:=qK0 (z/68) (show (0:Int)<ml.length by omega);obtain ⟨a,ha⟩:∃a:Nat,z/68%(ml.length:Int)=(a:Int):=⟨(z/68%(ml.length:Int)).toNat,Qo⟩;have hm:ml[a]?=some (ml[a]'Qo):=qC3 _;obtain ⟨v,ev,Q,rfl,h1,I,hQ,O⟩:=CA D hm (k:=z%68-26) Qo Qo;have ct:=λρ (h:ρ.length=8)=>Z8 (ρ:=ρ) (N':=9) (k:=8) h rfl I hQ;have tj:=Y9 I hQ;have ad:(pl.length:Int)+(a:Int)=((pl.length+a:Nat):Int):=Qo;refine ⟨told Q,?_,O⟩;have lq:((a9 pl ml).map lS).length<=1000:=by rw[qA0];omega
   have a3:m5 [.lst ((a9 pl ml).map lS),.int (z%68-26),.int ((pl.length:Int)+(a:Int))]=.ok (.lst (Q.map lS)):=by rw[ad];show ev
   exists rpB,K9,ez,d,d2,ll,ha,a3;rw[ct _ rfl];exists tj
  .have d2:decide (z%68<58)=false:=qL1 c2;obtain ⟨i,hi⟩:∃i:Nat,z%68-58=(i:Int):=⟨(z%68-58).toNat,Qo⟩;have I:(a9 pl ml).length<=40:=Qo;have ct:=λρ (h:ρ.length=8)=>Z8 (ρ:=ρ) (N':=9) (k:=8) h rfl I D.q;have tj:=Y9 I D.q;have lt:(told (a9 pl ml)).length<=10000:=by
    have l:=S6 (B:=630) B2 ((a9 pl ml).map (Str.join B1)) λp hp=>by
     obtain ⟨r,O,rfl⟩:=qA6.mp hp;show S0 (D.q r O)
    rw[lB2,qA0,hl]at l;have l2:(pl.length+ml.length)*(630+2)<=12*632:=qI8 _ Qo
    change (Str.join B2 ((a9 pl ml).map (Str.join B1))).length<=_;omega
   have bad:=vX D;have ma:=cy (ts:=db (told (a9 pl ml))) (i:=(i:Int)) ⟨Qo,by change (i:Int)<10;omega⟩;have hb:=bad _ (show (db (told (a9 pl ml))).getD (i:Int).toNat Str.empty∈db (told (a9 pl ml)) by
    rw[qF1,qD4,qC3 (show i<(db (told (a9 pl ml))).length from (by change i<10;omega))];show qH4 _)
   clear bad;generalize (db (told (a9 pl ml))).getD (i:Int).toNat Str.empty=v at *
   refine ⟨v,?_,hb⟩;unfold db at ma;generalize told (a9 pl ml)=t at *
   have rp:∀(y z:Str) (ρ:Rho),fD 6 y z ρ=(a6 .B 6 ρ>>=rep1 y z):=λ_ _ _=>rfl;have r1:∀y z:Str,rep1 y z (.str t)=.ok (.str (Txt.replace t y z)):=λy z=>qA9 Qo;have f1:t.length+(Str.ofString ";").length<=100000:=by rw[show (Str.ofString ";").length=1 by decide +kernel];omega
   have f2:t.length+(Str.ofString "; ").length<=100000:=by rw[show (Str.ofString "; ").length=2 by decide +kernel];omega
   have f3:(Str.ofString " ").length+t.length<=100000:=by rw[show (Str.ofString " ").length=1 by decide +kernel];omega
   have f4:t.length+(Str.ofString " ").length<=100000:=by rw[show (Str.ofString " ").length=1 by decide +kernel];omega
   have f5:t.length+(Str.ofString "\n").length<=100000:=by rw[show (Str.ofString "\n").length=1 by decide +kernel];omega
   have j2:ck (Str.ofString "; ") (.lst [.str t,.str t])=.ok (.str (Str.join B2 [t,t])):=jb (a:=B2) (ts:=[t,t]) (B:=10000) (λy hy=>by
    rcases qA7.mp hy with rfl|hy
    .show lt
    .rw[qC4.mp hy];show lt) (by rw[lB2];change 2*10000+2*2<=_;decide)
   have fr:mO true (.lst [.str t]) (.int 2)=.ok (.lst [.str t,.str t]):=rfl;rw[qB2,qB2,qB2,qB2,qB2,qB2,qB2,qB2,qB2,qB2,qG1]at ma;exists rpB,K9,ez,d,d2;rw[ct _ rfl];exists tj;exists rp,r1,fr,j2,hi,ma
def isNo:t7 "NoneType" "str" = some false:=Qy
def isIn:t7 "int" "str" = some false:=Qy
def isLi:t7 "list" "str" = some false:=Qy
def isBo:t7 "bool" "str" = some false:=Qy
def eg (h:tyW w=some A) (h2:t7 A "str" = some false):fIsi [w,.ty "str"]=.ok (.bl false):=by
 rw[kU,h]
 change toR (t7 A "str")>>=_=_;rw[h2];rfl
def things:∀(i:Nat) (w:W),[W.non,.int 7,.lst [.str t],.bl true][i]?=some w->u8 [w]=NX:=λi w h=>by
 match i,h with
 |0,h=>cases h;show V8 (eg rfl isNo)
 |1,h=>cases h;show V8 (eg rfl isIn)
 |2,h=>cases h;show V8 (eg rfl isLi)
 |3,h=>cases h;show V8 (eg rfl isBo)
 |i+4,h=>cases h
def law_pure (ns:JQ) (hn:ns.length<=63) (O:∀x∈ns,Builtin.Int.intBits x<=1048576):eA [.scr (ns.map W.int)]=.ok (.bl true):=by
 have ae:Ok (eA [.scr (ns.map W.int)]) λv=>v=.bl true:=by
  obtain ⟨z0,e0⟩:=P9 O (k:=0) Qy Qy;obtain ⟨z1,e1⟩:=P9 O (k:=1) Qy Qy;obtain ⟨z3,e3⟩:=P9 O (k:=3) Qy Qy;obtain ⟨z4,e4⟩:=P9 O (k:=4) Qy Qy;obtain ⟨a,ha⟩:∃a:Nat,1+z0%5=(a:Int):=⟨(1+z0%5).toNat,Qo⟩;obtain ⟨b,b4⟩:∃b:Nat,1+z1%7=(b:Int):=⟨(1+z1%7).toNat,Qo⟩;obtain ⟨ps,ep,np,Lp,a4⟩:=iR (z:=z3) (n:=a) Qo;obtain ⟨qs,eq,nq,Lq,b0⟩:=iR (z:=z4) (n:=b) Qo;obtain ⟨pl,ml,b3,h1,h2,h3,h4⟩:=pG O (ps:=ps) (ns:=qs) (by rw[np.1];omega) (by rw[np.1];omega) (by rw[nq.1];omega);have lp:pl.length=a:=by rw[<- np.1,<- h1,qA0]
  have lm:ml.length=b:=by rw[<- nq.1,<- h2,qA0]
  have D:Dw pl ml:=⟨Qo,Qo,Qo,Qo,λp I=>⟨np.2.1 _ (by rw[<- h1];show qA6.mpr ⟨p,I,rfl⟩),(h3 p I).2,(h3 p I).1⟩,λm hm=>nq.2.1 _ (by rw[<- h2];show qA6.mpr ⟨m,hm,rfl⟩),by rw[h1];show np.2.2,by rw[h2];show nq.2.2,by rw[h1];show h4,⟨Lp,λp I=>a4 _ (by rw[<- h1];show qA6.mpr ⟨p,I,rfl⟩)⟩,⟨Lq,λm hm=>b0 _ (by rw[<- h2];show qA6.mpr ⟨m,hm,rfl⟩)⟩⟩;have a3:(a9 pl ml).length<=40:=by rw[D.len];omega
  have rd:=D.reads;obtain ⟨tf,ef,bf⟩:=qd D O;have rf:=dJ bf;have rb:=yA bf;rw[h1,h2]at rd;rw[lp]at ef;have c:=(ar lS (Q:=a9 pl ml) (a:=a) (by rw[D.len];omega)).1;have t1:(a9 pl ml).take a=pl.map pw:=by
   change (pl.map pw++ml.map mws).take a=_;rw[qU4 (by rw[qA0,lp])]
  rw[t1,qD5]at c;have ct:=λρ (h:ρ.length=9)=>Z8 (ρ:=ρ) (N':=10) (k:=9) h rfl a3 D.q;have tj:=Y9 a3 D.q;exists rpB,mI,e0,ha,e3,ep,e4,e1,b4,eq,b3,c;have hint:∀p∈pl,fIntS [.str (num p.2)]=.ok (.int p.2):=λp I=>by
   have c:=(h3 p I).2;have l:=cJ c.1 (show p.2<10^10 by have:=c.2;omega)
   change (if (num p.2).length<=640 then _ else _)=_;rw[qA9 Qo,num_reads c.1 (show p.2<10^10 by have:=c.2;omega)]
  rw[P8 (λp=>W.int p.2) (lS∘pw) pl _ Qo ?_]
  .have ti:tI (pl.map (·.2))=W.tup (pl.map λp=>W.int p.2):=by change W.tup _=_;rw[qD5];rfl
   rw[ti]at rd;have lq:pl.length<=1000:=Qo;have nl:u6 (pl.map λp=>W.int p.2)=true:=S1 (λp:Pl=>W.int p.2) (λ_=>rfl) pl;exists nl;rw[ct _ rfl];exists tj;generalize told (a9 pl ml)=tt at *
   have ap:∀(f:List W->R W) (ma:JK) (ρ:Rho),bAS f ma ρ=(ma ρ>>=λws=>f ws>>=mz):=λ_ _ _=>rfl;have os:∀x:Str,mz (.str x)=.ok (.str x):=λ_=>rfl;exists rd,ap,ef,os,rf,rb;refine R0 (F6 (λi ρ=>∃v:Sl,ρ = [.par (.scr (ns.map W.int)),.val (.int (a:Nat)),.own (ps.map W.str),.own (qs.map W.str),.val (.lst ((a9 pl ml).map lS)),.val (.tup (pl.map λp=>W.int p.2)),.val (.str tt),.val (.str tf),v]) ⟨_,rfl⟩ ?_ ?_)
   .rintro i w ρ hu ⟨v,rfl⟩;have rt:=dJ (things i w hu);refine ⟨_,rfl,?_⟩;exists rt;show ⟨_,rfl⟩
   .rintro ρ ⟨v,rfl⟩;exists rd
  .intro p I;have e2:fIx ((lS∘pw) p) (.int 2)=.ok (.str (num p.2)):=rfl;refine ⟨_,rfl,?_⟩;exists e2,hint p I,a32
 obtain ⟨v,e,rfl⟩:=ae;show e
end K91
set_option maxHeartbeats 4000000
open PySem L2 TP
namespace K91
def L4 {K:Frag}{d:Mode}:=(dS (K:=K) (d:=d) (g:=J1) (λ_ _=>rfl) (λ_ _ _=>.int))
def X0 {K:Frag}{d:Mode}:=(dS (K:=K) (d:=d) (g:=gSub) (λ_ _=>rfl) (λ_ _ _=>.int))
def xLt {K:Frag}{d:Mode}:=(dS (K:=K) (d:=d) (g:=gLt) (λ_ _=>rfl) (λ_ _ _=>.bl))
def xLe {K:Frag}{d:Mode}:=(dS (K:=K) (d:=d) (g:=gLe) (λ_ _=>rfl) (λ_ _ _=>.bl))
def xGt {K:Frag}{d:Mode}:=(dS (K:=K) (d:=d) (g:=gGt) (λ_ _=>rfl) (λ_ _ _=>.bl))
local macro_rules | `(tactic| trivial)=>`(tactic| first | exact Or.inl rfl | exact Or.inr rfl | exact Or.inr (Or.inl rfl) | exact Or.inr (Or.inr rfl) | assumption | exact ⟨rfl,rfl,rfl,by decide +kernel,rfl,by decide +kernel,by decide +kernel⟩ | exact Room.mono (by assumption) (by decide) | exact dU _ | rfl | exact ⟨rfl,by decide +kernel,by decide +kernel,by decide +kernel,by decide +kernel,by decide,by decide +kernel,by decide +kernel⟩)
def top (i:Nat):Stmt:=PySem.Challenge.pw_tokenmoor_k91_no_text_of_a_moor.main.body.getD i (.Pass ⟨0,0,0,0⟩)
abbrev cB:Stmt:=top 14
abbrev T8:Stmt:=top 15
abbrev V6:Stmt:=top 16
abbrev M8:Stmt:=top 17
abbrev M1:Stmt:=top 18
abbrev O2:Stmt:=top 19
abbrev Z5:Stmt:=top 20
abbrev B4:Stmt:=top 21
abbrev L1:Stmt:=top 22
abbrev N2:Stmt:=top 24
abbrev O9:Stmt:=top 25
abbrev U1:Stmt:=top 26
abbrev U2:Stmt:=top 27
abbrev U0:Stmt:=top 28
abbrev N1:Stmt:=top 29
abbrev K7:Stmt:=top 30
abbrev O7:Stmt:=top 31
abbrev v8:Stmt:=top 32
abbrev C7:Stmt:=top 33
abbrev x6:Stmt:=top 34
abbrev C2:Stmt:=top 35
abbrev O8:Stmt:=top 36
abbrev A7:Stmt:=top 37
abbrev T9:Stmt:=top 38
abbrev ag:Stmt:=top 39
structure Blt (mg:Jz):Prop where
 ValueError_:mg "ValueError" = none
 all_:mg "all" = none
 int_:mg "int" = none
 isinstance_:mg "isinstance" = none
 len_:mg "len" = none
 list_:mg "list" = none
 range_:mg "range" = none
 str_:mg "str" = none
 tuple_:mg "tuple" = none
 zip_:mg "zip" = none
structure Cst (mg:Jz):Prop where
 GREATEST_COUNT:∃t,mg "GREATEST_COUNT" = some (.int 1000000000 t)
 MOST_PLACES:∃t,mg "MOST_PLACES" = some (.int 6 t)
 MOST_MOVES:∃t,mg "MOST_MOVES" = some (.int 8 t)
 LONGEST_NAME:∃t,mg "LONGEST_NAME" = some (.int 8 t)
 FIGURES:∃t,mg "FIGURES" = some (.str "0123456789" t)
 LETTERS:∃t,mg "LETTERS" = some (.str "abcdefghijklmnopqrstuvwxyz" t)
def ax:i4 ["text","begin","moves","part","words","moor"] ["text"] (c7 cB):=Qz
def ic:i4 ["words","begin"] ["words","begin"] (c7 T8):=Qz
def cV:i4 ["words","begin","moves","middle"] ["words","begin","moves"] (c7 V6):=Qz
def Z4:i4 ["words","at"] ["words"] (c7 M8):=Qz
def O6:i4 ["words","begin","counts","number","name"] ["words","begin"] (c7 M1):=Qz
def bH:i4 ["word","fewest","number"] ["word","fewest"] (c7 O2):=Qz
def dH:i4 ["word","number"] ["word"] (c7 Z5):=Qz
def bJ:i4 ["word","known"] ["word","known"] (c7 B4):=Qz
def ie:i4 ["word","signs"] ["word","signs"] (c7 L1):=Qz
def ah:i4 ["_law_script","_law_k","_law_number"] ["_law_script","_law_k"] (c7 N2):=Qz
def F3:i4 ["_law_number","_law_size","_law_word","_law_k"] ["_law_number","_law_size"] (c7 O9):=Qz
def F2:i4 ["_law_cell_here","_law_many","_law_size","_law_base","_law_place","_law_names_here","_law_k"] ["_law_cell_here","_law_many"] (c7 U1):=Qz
def ii:i4 ["_law_cell_here"] ["_law_cell_here"] (c7 U2):=Qz
def y8:i4 ["_law_script","_law_places","_law_names_here","_law_parts_here","_law_p","_law_k","_law_words"] ["_law_script","_law_places","_law_names_here"] (c7 U0):=Qz
def jI:i4 ["_law_parts_here","_law_at","_law_words"] ["_law_parts_here","_law_at","_law_words"] (c7 N1):=Qz
def ay:i4 ["_law_kind","_law_some"] ["_law_kind"] (c7 K7):=Qz
def M9:i4 ["_law_parts_here","_law_old","_law_new","_law_some","_law_words","_law_word"] ["_law_parts_here","_law_old","_law_new"] (c7 O7):=Qz
def F4:i4 ["_law_parts_here","_law_many","_law_kind","_law_at","_law_words","_law_more"] ["_law_parts_here","_law_many","_law_kind","_law_at"] (c7 v8):=Qz
def K1:i4 ["_law_parts_here","_law_kind","_law_at","_law_words","_law_some"] ["_law_parts_here","_law_kind","_law_at"] (c7 C7):=Qz
def K2:i4 ["_law_parts_here","_law_kind","_law_at","_law_words","_law_more"] ["_law_parts_here","_law_kind","_law_at"] (c7 x6):=Qz
def B0:i4 ["_law_parts_here","_law_many","_law_script","_law_cell_here","_law_kind","_law_at","_law_text","_law_some"] ["_law_parts_here","_law_many","_law_script"] (c7 C2):=Qz
def B9:i4 ["_law_thing","_law_right","_law_other","e"] ["_law_thing"] (c7 O8):=Qz
def y4:i4 ["_law_thing","_law_refused_here","e"] ["_law_thing"] (c7 A7):=Qz
def bK:i4 ["_law_text","_law_places","_law_names_here","_law_begin","_law_found"] ["_law_text","_law_places","_law_names_here","_law_begin"] (c7 T9):=Qz
def V7:i4 ["_law_script","_law_many","_law_places","_law_names_here","_law_parts_here","_law_begin","_law_text","_law_faulty_here","_law_thing"] ["_law_script"] (c7 ag):=Qz
structure Xf (K:Frag) (mg:Jz) (c_MoorError c_NoMoor c_NoName c_NoRow c_NoText c_Stuck:Addr):Prop where
 mk0:fN K c_NoText
 is:XIs K c_NoText
 nd:∀C,PySem.W.nsIn K mainGlobals ".d" ≠ some (some (.ref C))
 ns_MoorError:PySem.W.nsIn K mainGlobals "MoorError" = some (some (.ref c_MoorError))
 m_MoorError:mg "MoorError" = some (.ref c_MoorError)
 ns_NoMoor:PySem.W.nsIn K mainGlobals "NoMoor" = some (some (.ref c_NoMoor))
 m_NoMoor:mg "NoMoor" = some (.ref c_NoMoor)
 ns_NoName:PySem.W.nsIn K mainGlobals "NoName" = some (some (.ref c_NoName))
 m_NoName:mg "NoName" = some (.ref c_NoName)
 ns_NoRow:PySem.W.nsIn K mainGlobals "NoRow" = some (some (.ref c_NoRow))
 m_NoRow:mg "NoRow" = some (.ref c_NoRow)
 ns_NoText:PySem.W.nsIn K mainGlobals "NoText" = some (some (.ref c_NoText))
 m_NoText:mg "NoText" = some (.ref c_NoText)
 ns_Stuck:PySem.W.nsIn K mainGlobals "Stuck" = some (some (.ref c_Stuck))
 m_Stuck:mg "Stuck" = some (.ref c_Stuck)
 ex_MoorError:PySem.W.exmOne K (.ref c_NoText) (.ref c_MoorError)=some true
 ex_NoText:PySem.W.exmOne K (.ref c_NoText) (.ref c_NoText)=some true
 ki_MoorError:PySem.W.kitOne K (.ref c_NoText) (.ref c_MoorError)=some true
 ki_NoMoor:PySem.W.kitOne K (.ref c_NoText) (.ref c_NoMoor)=some false
 ki_NoName:PySem.W.kitOne K (.ref c_NoText) (.ref c_NoName)=some false
 ki_NoRow:PySem.W.kitOne K (.ref c_NoText) (.ref c_NoRow)=some false
 ki_NoText:PySem.W.kitOne K (.ref c_NoText) (.ref c_NoText)=some true
 ki_Stuck:PySem.W.kitOne K (.ref c_NoText) (.ref c_Stuck)=some false
 kt_ValueError:PySem.W.kitOne K (.ref c_NoText) (.type "ValueError")=some true
def R9 {X:Cx}{K:Frag}{EX:EXT}{cs:Scope}{N':Jk}{n:Nat}{tg iter O:Expr}{I:Jx}{dd:Mode}{g:TG}{mg:JY}{mi:JK}{ta:JX}{ma:JV}{pos:Pos}(S:l6 X.env.scope cs X.N N') (hc:X.calm=true) (hi:PI X tg iter (tIt K EX false dd mi))
  (hg:∀cl ex s H,PG (i2 X cs cl N' ex s H) tg g) (a3:Gt K dd g mg) (hk:W5 X.N.length g) (ht:∀cl ex s H,PIf (i2 X cs cl N' ex s H) I (tT K EX ta)) (he:∀cl ex s H,PE (i2 X cs cl N' ex s H) O (tM K EX .V ma))
  (hn:N'.length=n:=by rfl) (hs:∀x,foldedSetIterable iter X.env x=pure x:=by intro _;rfl):PE X (.ListComp O [⟨tg,iter,I,0⟩] cs pos) (tM K EX .F (J9 n mi mg ta ma)):=by
 subst hn;show AM S hc hi hg a3 hk ht he hs
def kA {X:Cx}{K:Frag}{EX:EXT}{d:Mode}{i n:Nat}{y:Str}{py:Pos}{cs:Scope}{N':Jk}{tg iter a3:Expr}{O:Jx}{dd:Mode}{g:TG}{mg:JY}{mi:JK}{ta:JX}{ma:JV}{I pos:Pos}(S:l6 X.env.scope cs X.N N') (hc:X.calm=true) (hi:PI X tg iter (tIt K EX false dd mi))
  (hg:∀cl ex s H,PG (i2 X cs cl N' ex s H) tg g) (ae:Gt K dd g mg) (hk:W5 X.N.length g) (ht:∀cl ex s H,PIf (i2 X cs cl N' ex s H) O (tT K EX ta)) (he:∀cl ex s H,PE (i2 X cs cl N' ex s H) a3 (tM K EX .V ma))
  (hN:X.N.Nodup) (hy:X.N[i]?=some y) (hl:Loc X.env.scope y)
  (hn:N'.length=n:=by rfl) (a4:swapsWith (.ListComp a3 [⟨tg,iter,O,0⟩] cs I) (some (.Name y py)) pos.line X.env=pure true:=by rfl) (hf:X.fn y=true\/X.env.scope.names.lookup y=some .local:=by first|show .inl rfl|show .inr rfl|assumption)
  (hs:∀x,foldedSetIterable iter X.env x=pure x:=by intro _;rfl):PS X (.Assign [.Name y py] (.ListComp a3 [⟨tg,iter,O,0⟩] cs I) pos) (tSt K EX d (sF i (J9 n mi mg ta ma))):=by
 subst hn;show AF S hc hi hg ae hk ht he hN hy hl a4 hf hs
def dQ {mg:Jz}(D:Def K mg "place_of_puts" M8 ["words"] f fd) (B:Blt mg) (C:Cst mg):FnOk P w K mg base CX0 1 f fd ["words"] (spM K 1 .F (g7)):=by
 refine D.F.ok Z4 (λvs H Q E h=>h.1) (λcdv A outer s H vs Q E I h=>?_);show ⟨tSt K (λ_ _=>False) .F E4,(b7 (@U3 _ _ _ _ _ _ _ _ _ _ _ _ _ qH2 rfl (@AG _ _ _ _ _ _ _ _ _ _ _ Qq B.range_ (E3 (a5 (@B3 _ _ _ _ _ _ _ _ _ _ _ _ _ _ U8 U7 Qq B.len_ qE2 (a5 (qv .B 0) a7) Qy Qy Qq Qq) (E3 a7))) Qq Qq) (@n6 _ _ 1 _ Z4.nd rfl Qz Qz) J0 (b8 (g5 (@e8 _ _ _ _ _ _ _ _ _ _ _ _ l9 j4 (t6 (j0 (qv .B 0) (qv .B 1))) c8 Qz) (b8 (@X5 _ _ _ _ _ 1 _ _ (.inl rfl) Qq Qz Qy Qy)) g9)) (by intro _;rfl)) (b8 (e9 cF))),
  E5 (n:=1) (Nl:=["words","at"]) (.inl rfl) h⟩
def iJ {mg:Jz}(D:Def K mg "is_made_of" L1 ["word","signs"] f fd) (B:Blt mg) (C:Cst mg):FnOk P w K mg base CX0 1 f fd ["word","signs"] (spM K 2 .F (r6)):=by
 refine D.F.ok ie (λvs H Q E h=>h.1) (λcdv A outer s H vs Q E I h=>?_);show ⟨tSt K (λ_ _=>False) .F R3,(b8 (e9 (dO (@dL _ _ _ _ _ _ _ _ _ _ _ _ _ cI xGt (@B3 _ _ _ _ _ _ _ _ _ _ _ _ _ _ w8 R6 Qq B.len_ qE2 (a5 (qv .B 0) a7) Qy Qy Qq Qq) a8 Qz) (gJ (@B3 _ _ _ _ _ _ _ _ _ _ _ _ _ _ (qy rfl) (yC (g:=jf)) Qq B.all_ EB (a5 (w4 (d8 (R9 (show l6 (c7 L1) _ ["word","signs"] ["word","signs","sign"] from Qz) rfl (ir (qv .B 0)) (λ_ _ _ _=>(@n6 _ _ 2 _ (by decide +kernel:(["word","signs","sign"]:Jk).Nodup) rfl (Or.inl rfl) (.inr rfl))) J0 (N4 (show 2<=2 by decide)) (λ_ _ _ _=>Q6) (λ_ _ _ _=>(@dL _ _ _ _ _ _ _ _ _ _ _ _ _ oX Bs (qv .B 2) (qv .B 1) Qz))))) a7) Qy Qy Qq Qq))))),
  E5 (n:=2) (Nl:=["word","signs"]) (.inl rfl) h⟩
def bW {mg:Jz}(D:Def K mg "must_be_new_name" B4 ["word","known"] f fd) (B:Blt mg) (C:Cst mg) (I:Def K mg "is_made_of" L1 ["word","signs"] fis_made_of fdis_made_of) (a3:FnOk P w K mg base CX0 1 fis_made_of fdis_made_of ["word","signs"] (spM K 2 .F (r6))) (XF:Xf K mg c_MoorError c_NoMoor c_NoName c_NoRow c_NoText c_Stuck):FnOk P w K mg base (CXW P w) 3 f fd ["word","known"] (spR K 2 .F (l5)):=by
 refine D.F.okX bJ (λvs H Q E h=>h.1) (λcdv A outer s H vs Q E hr h=>?_);obtain ⟨ae,O⟩:=C.LONGEST_NAME;obtain ⟨b0,a4⟩:=C.LETTERS;show ⟨tSt K (XE1 K E) .F o9,(b7 (g5 (PW.pt (bd (V0 (@bb _ _ _ _ _ (w4 (d8 (@fj _ _ _ _ _ _ _ _ _ _ _ _ _ _ _ _ _ a3 (.inl rfl) Qz Qq I.m I.F.kp I.b (a5 (qv .B 0) (a5 (@kF _ _ _ _ _ _ _ _ rfl a4 Qy) a7)) Qy Qq Qq))) (by intro _;rfl))) (X4 (@e8 _ _ _ _ _ _ _ _ _ _ _ _ cI xGt (@B3 _ _ _ _ _ _ _ _ _ _ _ _ _ _ w8 R6 Qq B.len_ qE2 (a5 (qv .B 0) a7) Qy Qy Qq Qq) (@aB _ _ _ _ _ _ _ _ rfl O Qy) Qz)))) (b8 (@E6 _ _ _ _ _ _ _ _ _ _ _ _ _ _ _ _ _ _ _ _ _ _ _ _ XF.mk0 Qq XF.m_NoText XF.ns_NoText (a5 c8 a7) Qy Qq Qq)) g9) (b8 (g5 (@oy _ _ _ _ _ _ 1 _ _ (aq hr) rfl Qz (qv .B 0) Qy Qy Qq) (b8 (@E6 _ _ _ _ _ _ _ _ _ _ _ _ _ _ _ _ _ _ _ _ _ _ _ _ XF.mk0 Qq XF.m_NoText XF.ns_NoText (a5 c8 a7) Qy Qq Qq)) g9))),
  cT (n:=2) (Nl:=["word","known"]) (.inl rfl) h⟩
def mB {mg:Jz}(D:Def K mg "count_of" Z5 ["word"] f fd) (B:Blt mg) (C:Cst mg) (O:Def K mg "is_made_of" L1 ["word","signs"] fis_made_of fdis_made_of) (a3:FnOk P w K mg base CX0 1 fis_made_of fdis_made_of ["word","signs"] (spM K 2 .F (r6))):FnOk P w K mg base CX0 2 f fd ["word"] (spM K 1 .F (K5)):=by
 refine D.F.ok dH (λvs H Q E h=>h.1) (λcdv A outer s H vs Q E hr h=>?_);obtain ⟨ae,I⟩:=C.GREATEST_COUNT;obtain ⟨b0,a4⟩:=C.FIGURES;show ⟨tSt K (λ_ _=>False) .F K3,(b7 (g5 (PW.pt (bd (@e8 _ _ _ _ _ _ _ _ _ _ _ _ cI xGt (@B3 _ _ _ _ _ _ _ _ _ _ _ _ _ _ w8 R6 Qq B.len_ qE2 (a5 (qv .B 0) a7) Qy Qy Qq Qq) (@B3 _ _ _ _ _ _ _ _ _ _ _ _ _ _ w8 R6 Qq B.len_ qE2 (a5 (@bT _ _ _ _ _ _ _ _ _ _ _ _ _ _ R5 gS Qq B.str_ cx (a5 (@aB _ _ _ _ _ _ _ _ rfl I Qy) a7) Qy Qy Qq Qq) a7) Qy Qy Qq Qq) Qz) (X4 (V0 (@bb _ _ _ _ _ (w4 (d8 (@k6 _ _ _ _ _ _ _ _ _ _ _ _ _ _ _ _ a3 (.inl rfl) Qz Qq O.m O.F.kp O.b (a5 (qv .B 0) (a5 (@kF _ _ _ _ _ _ _ _ rfl a4 Qy) a7)) Qy Qq Qq))) (by intro _;rfl)))))) (b8 (e9 cF)) g9) (b7 (@n3 _ _ _ _ _ _ _ 1 _ _ dH.nd rfl Qz (@bT _ _ _ _ _ _ _ _ _ _ _ _ _ _ gy qK Qq B.int_ qE (a5 (qv .B 0) a7) Qy Qy Qq Qq) Qq Qz) (b8 (e9 (q_if (PW.pt (on (@e8 _ _ _ _ _ _ _ _ _ _ _ _ l9 j4 (@bT _ _ _ _ _ _ _ _ _ _ _ _ _ _ R5 gS Qq B.str_ cx (a5 (qv .B 1) a7) Qy Qy Qq Qq) (qv .B 0) Qz) (kx (@e8 _ _ _ _ _ _ _ _ _ _ _ _ mq xLe (qv .B 1) (@aB _ _ _ _ _ _ _ _ rfl I Qy) Qz)))) (qv .F 1) cF))))),
  E5 (n:=1) (Nl:=["word","number"]) (.inl rfl) h⟩
def iI {mg:Jz}(D:Def K mg "read_count" O2 ["word","fewest"] f fd) (B:Blt mg) (C:Cst mg) (I:Def K mg "count_of" Z5 ["word"] fcount_of fdcount_of) (O:FnOk P w K mg base CX0 2 fcount_of fdcount_of ["word"] (spM K 1 .F (K5))) (XF:Xf K mg c_MoorError c_NoMoor c_NoName c_NoRow c_NoText c_Stuck):FnOk P w K mg base (CXW P w) 3 f fd ["word","fewest"] (spR K 2 .F (t9)):=by
 refine D.F.okX bH (λvs H Q E h=>h.1) (λcdv A outer s H vs Q E hr h=>?_);show ⟨tSt K (XE1 K E) .F M6,(b7 (@n3 _ _ _ _ _ _ _ 2 _ _ bH.nd rfl Qz (@fj _ _ _ _ _ _ _ _ _ _ _ _ _ _ _ _ _ O (.inl rfl) Qz Qq I.m I.F.kp I.b (a5 (qv .B 0) a7) Qy Qq Qq) Qq Qz) (b7 (g5 (PW.pt (bd (@e8 _ _ _ _ _ _ _ _ _ _ _ _ oV oZ (qv .B 2) cF Qz) (X4 (@e8 _ _ _ _ _ _ _ _ _ _ _ _ cH xLt (qv .B 2) (qv .B 1) Qz)))) (b8 (@E6 _ _ _ _ _ _ _ _ _ _ _ _ _ _ _ _ _ _ _ _ _ _ _ _ XF.mk0 Qq XF.m_NoText XF.ns_NoText (a5 c8 a7) Qy Qq Qq)) g9) (b8 (@X5 _ _ _ _ _ 2 _ _ (.inl rfl) Qq Qz Qy Qy)))),
  cT (n:=2) (Nl:=["word","fewest","number"]) (.inl rfl) h⟩
def gB {mg:Jz}(D:Def K mg "read_counts" M1 ["words","begin"] f fd) (B:Blt mg) (C:Cst mg) (I:Def K mg "read_count" O2 ["word","fewest"] fread_count fdread_count) (O:FnOk P w K mg base (CXW P w) 3 fread_count fdread_count ["word","fewest"] (spR K 2 .F (t9))) (XF:Xf K mg c_MoorError c_NoMoor c_NoName c_NoRow c_NoText c_Stuck):FnOk P w K mg base (CXW P w) 4 f fd ["words","begin"] (spR K 2 .F (i9)):=by
 refine D.F.okX O6 (λvs H Q E h=>h.1) (λcdv A outer s H vs Q E hr h=>?_);show ⟨tSt K (XE1 K E) .F K8,(b7 (g5 (@e8 _ _ _ _ _ _ _ _ _ _ _ _ l9 j4 (b9 y9 (n9 (C:=o7) (g:=r0) (λ_ _=>rfl) (λ_ _ _=>.int)) (@B3 _ _ _ _ _ _ _ _ _ _ _ _ _ _ U8 U7 Qq B.len_ qE2 (a5 (qv .B 0) a7) Qy Qy Qq Qq) a8) a8 Qz) (b8 (@E6 _ _ _ _ _ _ _ _ _ _ _ _ _ _ _ _ _ _ _ _ _ _ _ _ XF.mk0 Qq XF.m_NoText XF.ns_NoText (a5 c8 a7) Qy Qq Qq)) g9) (b7 (@fh _ _ _ _ _ 2 _ _ _ O6.nd rfl Qz Qq Qz) (b7 (@U3 _ _ _ _ _ _ _ _ _ _ _ _ _ iE rfl (@AC _ _ _ _ _ _ _ _ _ _ _ Qq B.zip_ (a5 (iw (i0 (@uU _ _ _ _ _ _ false _ _ _ _ _ (qv .B 0) o6 (j3 a8) Qq))) (a5 (iw (i0 (@uU _ _ _ _ _ _ false _ _ _ _ _ (qv .B 0) (j3 a8) (j3 a8) Qq))) a7)) Qq Qq Qq) (@wO _ K _ _ _ _ 2 rfl (@iB _ _ _ _ _ (@n6 _ _ 3 _ O6.nd rfl Qz Qz) (@iB _ _ _ _ _ (@n6 _ _ 4 _ O6.nd rfl Qz Qz) wN Qq) Qq) Qq Qq Qq) (CK (.inr rfl) (jd (.inr rfl) J0 (jd (.inr rfl) J0 xH))) (b7 (g5 (PW.pt (bd (@ow _ _ _ _ _ _ 1 _ _ (aq hr) rfl Qz (qv .B 4) Qy Qy Qq) (X4 (@oy _ _ _ _ _ _ 2 _ _ (aq hr) rfl Qz (qv .B 4) Qy Qy Qq)))) (b8 (@E6 _ _ _ _ _ _ _ _ _ _ _ _ _ _ _ _ _ _ _ _ _ _ _ _ XF.mk0 Qq XF.m_NoText XF.ns_NoText (a5 c8 a7) Qy Qq Qq)) g9) (b8 (@wF _ _ _ _ _ _ _ _ _ 2 _ _ _ (aq hr) rfl Qz (qv .B 4) (i0 (@W6 _ _ _ _ _ _ _ _ _ _ _ _ _ _ _ _ _ _ _ _ _ _ _ _ _ _ _ _ _ O (.inl rfl) Qz Qq I.m I.F.kp I.b (a5 (qv .B 3) (E3 a7)) Qy Qq Qq)) Qy Qy Qq))) (by intro _;rfl)) (b8 (e9 (@bT _ _ _ _ _ _ _ _ _ _ _ _ _ _ vH (vE (c:=true)) Qq B.tuple_ dz (a5 (d8 (R9 (show l6 (c7 M1) _ ["words","begin","counts","number","name"] ["words","begin","counts","number","#name","name"] from Qz) rfl (@AK _ _ _ _ _ 1 _ _ rfl Qz Qy Qy) (λ_ _ _ _=>(@n6 _ _ 5 _ (by decide +kernel:(["words","begin","counts","number","#name","name"]:Jk).Nodup) rfl (Or.inl rfl) (.inr rfl))) J0 (N4 (show 5<=5 by decide)) (λ_ _ _ _=>Q6) (λ_ _ _ _=>(@AL _ _ _ _ _ _ _ 2 _ _ _ _ rfl Qz (qv .B 5) a8 Qq Qy Qy Qq Qq Qq Qq Qq Qq)))) a7) Qy Qy Qq Qq)))))),
  cT (n:=2) (Nl:=["words","begin","counts","number","name"]) (.inl rfl) h⟩
def jL {mg:Jz}(D:Def K mg "read_move" V6 ["words","begin","moves"] f fd) (B:Blt mg) (C:Cst mg) (a3:Def K mg "place_of_puts" M8 ["words"] fplace_of_puts fdplace_of_puts) (b0:FnOk P w K mg base CX0 1 fplace_of_puts fdplace_of_puts ["words"] (spM K 1 .F (g7))) (O:Def K mg "must_be_new_name" B4 ["word","known"] fmust_be_new_name fdmust_be_new_name) (ae:FnOk P w K mg base (CXW P w) 3 fmust_be_new_name fdmust_be_new_name ["word","known"] (spR K 2 .F (l5))) (I:Def K mg "read_counts" M1 ["words","begin"] fread_counts fdread_counts) (a4:FnOk P w K mg base (CXW P w) 4 fread_counts fdread_counts ["words","begin"] (spR K 2 .F (i9))) (XF:Xf K mg c_MoorError c_NoMoor c_NoName c_NoRow c_NoText c_Stuck):FnOk P w K mg base (CXW P w) 5 f fd ["words","begin","moves"] (X2 K 3 (i1)):=by
 refine D.F.okX cV (λvs H Q E h=>h.1) (λcdv A outer s H vs Q E hr h=>?_);show ⟨tStP K (XE1 K E) y6,(@aD _ _ _ .F _ _ _ _ (@n3 _ _ _ _ _ _ _ 3 _ _ cV.nd rfl Qz (@fj _ _ _ _ _ _ _ _ _ _ _ _ _ _ _ _ _ b0 (.inl rfl) Qz Qq a3.m a3.F.kp a3.b (a5 (qv .B 0) a7) Qy Qq Qq) Qq Qz) (@aD _ _ _ .F _ _ _ _ (g5 (PW.pt (bd (@e8 _ _ _ _ _ _ _ _ _ _ _ _ (Bj (aq hr)) (dR (neg:=true)) (w4 (d8 (@v6 _ _ _ _ _ _ false _ _ _ _ _ (qv .B 0) (j3 a8) (j3 a8) Qq))) (w4 (d8 (i6 (a5 c8 a7)))) Qz) (X4 (@e8 _ _ _ _ _ _ _ _ _ _ _ _ oV oZ (qv .B 3) cF Qz)))) (b8 (@E6 _ _ _ _ _ _ _ _ _ _ _ _ _ _ _ _ _ _ _ _ _ _ _ _ XF.mk0 Qq XF.m_NoText XF.ns_NoText (a5 c8 a7) Qy Qq Qq)) g9) (@aD _ _ _ .F _ _ _ _ (@oq _ _ _ _ _ _ _ _ (@W6 _ _ _ _ _ _ _ _ _ _ _ _ _ _ _ _ _ _ _ _ _ _ _ _ _ _ _ _ _ ae (.inl rfl) Qz Qq O.m O.F.kp O.b (a5 (t6 (j0 (qv .B 0) a8)) (a5 (qv .B 2) a7)) Qy Qq Qq) Qq) (kC (@oo _ _ _ _ _ _ _ _ 2 _ _ _ (aq hr) rfl Qz (t6 (j0 (qv .B 0) a8)) (i0 (lR (a5 (i0 (@W6 _ _ _ _ _ _ _ _ _ _ _ _ _ _ _ _ _ _ _ _ _ _ _ _ _ _ _ _ _ a4 (.inl rfl) Qz Qq I.m I.F.kp I.b (a5 (w4 (d8 (@v6 _ _ _ _ _ _ false _ _ _ _ _ (qv .B 0) (j3 a8) (j3 (qv .B 3)) Qq))) (a5 (qv .B 1) a7)) Qy Qq Qq)) (a5 (i0 (@W6 _ _ _ _ _ _ _ _ _ _ _ _ _ _ _ _ _ _ _ _ _ _ _ _ _ _ _ _ _ a4 (.inl rfl) Qz Qq I.m I.F.kp I.b (a5 (w4 (d8 (@v6 _ _ _ _ _ _ false _ _ _ _ _ (qv .B 0) (j3 (b9 x8 L4 (qv .B 3) a8)) o6 Qq))) (a5 (qv .B 1) a7)) Qy Qq Qq)) a7)))) Qy Qy Qq))))),
  jz (n:=3) (Nl:=["words","begin","moves","middle"]) h⟩
def iH {mg:Jz}(D:Def K mg "read_place" T8 ["words","begin"] f fd) (B:Blt mg) (C:Cst mg) (I:Def K mg "must_be_new_name" B4 ["word","known"] fmust_be_new_name fdmust_be_new_name) (a3:FnOk P w K mg base (CXW P w) 3 fmust_be_new_name fdmust_be_new_name ["word","known"] (spR K 2 .F (l5))) (O:Def K mg "read_count" O2 ["word","fewest"] fread_count fdread_count) (a4:FnOk P w K mg base (CXW P w) 3 fread_count fdread_count ["word","fewest"] (spR K 2 .F (t9))) (XF:Xf K mg c_MoorError c_NoMoor c_NoName c_NoRow c_NoText c_Stuck):FnOk P w K mg base (CXW P w) 4 f fd ["words","begin"] (X2 K 2 (n4)):=by
 refine D.F.okX ic (λvs H Q E h=>h.1) (λcdv A outer s H vs Q E hr h=>?_);show ⟨tStP K (XE1 K E) F8,(@aD _ _ _ .F _ _ _ _ (g5 (@e8 _ _ _ _ _ _ _ _ _ _ _ _ FY Bo (@B3 _ _ _ _ _ _ _ _ _ _ _ _ _ _ U8 U7 Qq B.len_ qE2 (a5 (qv .B 0) a7) Qy Qy Qq Qq) a8 Qz) (b8 (@E6 _ _ _ _ _ _ _ _ _ _ _ _ _ _ _ _ _ _ _ _ _ _ _ _ XF.mk0 Qq XF.m_NoText XF.ns_NoText (a5 c8 a7) Qy Qq Qq)) g9) (@aD _ _ _ .F _ _ _ _ (@oq _ _ _ _ _ _ _ _ (@W6 _ _ _ _ _ _ _ _ _ _ _ _ _ _ _ _ _ _ _ _ _ _ _ _ _ _ _ _ _ a3 (.inl rfl) Qz Qq I.m I.F.kp I.b (a5 (t6 (j0 (qv .B 0) a8)) (a5 (qv .B 1) a7)) Qy Qq Qq) Qq) (kC (@oo _ _ _ _ _ _ _ _ 1 _ _ _ (aq hr) rfl Qz (t6 (j0 (qv .B 0) a8)) (i0 (@W6 _ _ _ _ _ _ _ _ _ _ _ _ _ _ _ _ _ _ _ _ _ _ _ _ _ _ _ _ _ a4 (.inl rfl) Qz Qq O.m O.F.kp O.b (a5 (t6 (j0 (qv .B 0) a8)) (E3 a7)) Qy Qq Qq)) Qy Qy Qq)))),
  jz (n:=2) (Nl:=["words","begin"]) h⟩
def Bl {mg:Jz}(D:Def K mg "read" cB ["text"] f fd) (B:Blt mg) (C:Cst mg) (O:Def K mg "read_move" V6 ["words","begin","moves"] fread_move fdread_move) (b0:FnOk P w K mg base (CXW P w) 5 fread_move fdread_move ["words","begin","moves"] (X2 K 3 (i1))) (I:Def K mg "read_place" T8 ["words","begin"] fread_place fdread_place) (ae:FnOk P w K mg base (CXW P w) 4 fread_place fdread_place ["words","begin"] (X2 K 2 (n4))) (XF:Xf K mg c_MoorError c_NoMoor c_NoName c_NoRow c_NoText c_Stuck):FnOk P w K mg base (CXW P w) 6 f fd ["text"] (spR K 1 .V (u8)):=by
 refine D.F.okX ax (λvs H Q E h=>h.1) (λcdv A outer s H vs Q E hr h=>?_);obtain ⟨b3,a3⟩:=C.MOST_PLACES;obtain ⟨b4,a4⟩:=C.MOST_MOVES;show ⟨tSt K (XE1 K E) .V aJ,(b7 (g5 (V0 (@bb _ _ _ _ _ (@B3 _ _ _ _ _ _ _ _ _ _ _ _ _ _ uk HC Qq B.isinstance_ qG9 (a5 (qv .B 0) (a5 (@AD _ _ _ _ _ _ _ Qq B.str_ cx Qy Qy) a7)) Qy Qy Qq Qq) (by intro _;rfl))) (b8 (@E6 _ _ _ _ _ _ _ _ _ _ _ _ _ _ _ _ _ _ _ _ _ _ _ _ XF.mk0 Qq XF.m_NoText XF.ns_NoText (a5 c8 a7) Qy Qq Qq)) g9) (b7 (@fh _ _ _ _ _ 1 _ _ _ ax.nd rfl Qz Qq Qz) (b7 (@fh _ _ _ _ _ 2 _ _ _ ax.nd rfl Qz Qq Qz) (b7 (@U3 _ _ _ _ _ _ _ _ _ _ _ _ _ iE rfl (@iu _ _ _ _ _ _ (iw (i0 (@kz _ _ _ _ _ _ _ _ _ (qv .B 0) c8 Qq Qq Qq Qq Qq Qq))) Qq) (@n6 _ _ 3 _ ax.nd rfl Qz Qz) J0 (b7 (@n3 _ _ _ _ _ _ _ 4 _ _ ax.nd rfl Qz (@kz _ _ _ _ _ _ _ _ _ (qv .B 3) c8 Qq Qq Qq Qq Qq Qq) Qq Qz) (b8 (g5 (@e8 _ _ _ _ _ _ _ _ _ _ _ _ l9 j4 (t6 (j0 (qv .B 4) a8)) c8 Qz) (b8 (@oA _ _ _ _ _ _ _ _ _ _ _ _ _ _ _ _ _ _ 1 2 _ _ _ _ _ _ _ _ _ _ _ _ _ _ rfl Qz rfl Qz b0 Qz Qq O.m O.F.kp O.b (qv .B 4) Qy Qy Qy Qy Qy Qq Qq Qq Qq Qq)) (b8 (g5 (PW.pt (on (@e8 _ _ _ _ _ _ _ _ _ _ _ _ l9 j4 (t6 (j0 (qv .B 4) a8)) c8 Qz) (kx (@e8 _ _ _ _ _ _ _ _ _ _ _ _ l9 j4 (@iq _ _ _ _ _ 2 _ _ _ Qq B.len_ rfl Qz Qy Qy Qq Qq) a8 Qz)))) (b8 (@oB _ _ _ _ _ _ _ _ _ _ _ _ _ _ _ _ _ _ 1 _ _ _ _ _ _ _ _ _ _ _ _ rfl Qz ae Qz Qq I.m I.F.kp I.b (qv .B 4) Qy Qy Qy Qq Qq Qq Qq)) (b8 (@E6 _ _ _ _ _ _ _ _ _ _ _ _ _ _ _ _ _ _ _ _ _ _ _ _ XF.mk0 Qq XF.m_NoText XF.ns_NoText (a5 c8 a7) Qy Qq Qq))))))) (by intro _;rfl)) (b7 (g5 (PW.pt (bd (V0 (@sf _ _ _ _ _ _ _ _ _ _ _ _ _ _ _ _ _ mq xLe mq xLe a8 (@iq _ _ _ _ _ 1 _ _ _ Qq B.len_ rfl Qz Qy Qy Qq Qq) (@aB _ _ _ _ _ _ _ _ rfl a3 Qy) (by with_unfolding_all rfl))) (X4 (@e8 _ _ _ _ _ _ _ _ _ _ _ _ cI xGt (@iq _ _ _ _ _ 2 _ _ _ Qq B.len_ rfl Qz Qy Qy Qq Qq) (@aB _ _ _ _ _ _ _ _ rfl a4 Qy) Qz)))) (b8 (@E6 _ _ _ _ _ _ _ _ _ _ _ _ _ _ _ _ _ _ _ _ _ _ _ _ XF.mk0 Qq XF.m_NoText XF.ns_NoText (a5 c8 a7) Qy Qq Qq)) g9) (b7 (@n3 _ _ _ _ _ _ _ 5 _ _ ax.nd rfl Qz (lR (a5 (i0 (@ku _ _ _ _ 1 _ _ _ _ _ rfl Qq B.tuple_ rfl Qz Qy Qy Qq Qq Qq)) (a5 (i0 (@ku _ _ _ _ 2 _ _ _ _ _ rfl Qq B.tuple_ rfl Qz Qy Qy Qq Qq Qq)) a7))) Qq Qz) (b8 (e9 (i0 (lR (a5 (qv .V 5) (a5 (i0 (@kD _ _ _ _ 1 _ _ _ rfl Qq B.list_ rfl Qz Qy Qy Qq Qq)) (a5 (i0 (@kD _ _ _ _ 2 _ _ _ rfl Qq B.list_ rfl Qz Qy Qy Qq Qq)) a7))))))))))))),
  cT (n:=1) (Nl:=["text","begin","moves","part","words","moor"]) (.inr rfl) h⟩
def jN {mg:Jz}(D:Def K mg "_law_cell" N2 ["_law_script","_law_k"] f fd) (B:Blt mg) (C:Cst mg):FnOk P w K mg base CX0 1 f fd ["_law_script","_law_k"] (spM K 2 .F (j9)):=by
 refine D.F.ok ah (λvs H Q E h=>h.1) (λcdv A outer s H vs Q E I h=>?_);show ⟨tSt K (λ_ _=>False) .F O3,(b7 (g5 (@e8 _ _ _ _ _ _ _ _ _ _ _ _ cH xLt (qv .B 1) (@B3 _ _ _ _ _ _ _ _ _ _ _ _ _ _ U8 U7 Qq B.len_ qE2 (a5 (qv .B 0) a7) Qy Qy Qq Qq) Qz) (b8 (e9 (oz (j0 (qv .B 0) (qv .B 1))))) g9) (b7 (@v9 _ _ _ _ _ _ _ 2 _ _ ah.nd rfl Qz (b9 x8 L4 (b9 P6 (n9 (C:=CMulB) (g:=E9) (λ_ _=>rfl) (λ_ _ _=>.int)) a8 (qv .B 1)) a8) Qq Qz) (b7 (g5 (@e8 _ _ _ _ _ _ _ _ _ _ _ _ cI xGt (@B3 _ _ _ _ _ _ _ _ _ _ _ _ _ _ U8 U7 Qq B.len_ qE2 (a5 (qv .B 0) a7) Qy Qy Qq Qq) a8 Qz) (b8 (@v9 _ _ _ _ _ _ _ 2 _ _ ah.nd rfl Qz (b9 x8 L4 (b9 x8 L4 (b9 P6 (n9 (C:=CMulB) (g:=E9) (λ_ _=>rfl) (λ_ _ _=>.int)) (t6 (j0 (qv .B 0) (b9 y9 (n9 (C:=o7) (g:=r0) (λ_ _=>rfl) (λ_ _ _=>.int)) (b9 P6 (n9 (C:=CMulB) (g:=E9) (λ_ _=>rfl) (λ_ _ _=>.int)) (qv .B 1) a8) (@B3 _ _ _ _ _ _ _ _ _ _ _ _ _ _ U8 U7 Qq B.len_ qE2 (a5 (qv .B 0) a7) Qy Qy Qq Qq)))) a8) (b9 P6 (n9 (C:=CMulB) (g:=E9) (λ_ _=>rfl) (λ_ _ _=>.int)) (b9 P6 (n9 (C:=CMulB) (g:=E9) (λ_ _=>rfl) (λ_ _ _=>.int)) (qv .B 1) (qv .B 1)) a8)) a8) Qq Qz)) g9) (b8 (e9 (b9 y9 (n9 (C:=o7) (g:=r0) (λ_ _=>rfl) (λ_ _ _=>.int)) (b9 P6 (n9 (C:=CMulB) (g:=E9) (λ_ _=>rfl) (λ_ _ _=>.int)) (qv .B 2) (qv .B 2)) a8)))))),
  E5 (n:=2) (Nl:=["_law_script","_law_k","_law_number"]) (.inl rfl) h⟩
def fq {mg:Jz}(D:Def K mg "_law_letters" O9 ["_law_number","_law_size"] f fd) (B:Blt mg) (C:Cst mg):FnOk P w K mg base CX0 1 f fd ["_law_number","_law_size"] (spM K 2 .F (u9)):=by
 refine D.F.ok F3 (λvs H Q E h=>h.1) (λcdv A outer s H vs Q E I h=>?_);show ⟨tSt K (λ_ _=>False) .F S4,(b7 (@v9 _ _ _ _ _ _ _ 2 _ _ F3.nd rfl Qz c8 Qq Qz) (b7 (@U3 _ _ _ _ _ _ _ _ _ _ _ _ _ qH2 rfl (@bQ _ _ _ _ _ _ _ _ _ Qq B.range_ (a5 (qv .B 1) a7) Qq) (@n6 _ _ 3 _ F3.nd rfl Qz Qz) J0 (b7 (@v9 _ _ _ _ _ _ _ 2 _ _ F3.nd rfl Qz (b9 o5 x9 (qv .B 2) (@FN _ _ _ _ _ _ _ _ _ c8 (b9 y9 (n9 (C:=o7) (g:=r0) (λ_ _=>rfl) (λ_ _ _=>.int)) (qv .B 0) a8) (by show λ_ _=>rfl))) Qq Qz) (b8 (@v9 _ _ _ _ _ _ _ 0 _ _ F3.nd rfl Qz (b9 L3 (n9 (C:=A6) (g:=F0) (λ_ _=>rfl) (λ_ _ _=>.int)) (qv .B 0) a8) Qq Qz))) (by intro _;rfl)) (b8 (@X5 _ _ _ _ _ 2 _ _ (.inl rfl) Qq Qz Qy Qy)))),
  E5 (n:=2) (Nl:=["_law_number","_law_size","_law_word","_law_k"]) (.inl rfl) h⟩
def iM {mg:Jz}(D:Def K mg "_law_names" U1 ["_law_cell_here","_law_many"] f fd) (B:Blt mg) (C:Cst mg) (I:Def K mg "_law_letters" O9 ["_law_number","_law_size"] f_law_letters fd_law_letters) (O:FnOk P w K mg base CX0 1 f_law_letters fd_law_letters ["_law_number","_law_size"] (spM K 2 .F (u9))):FnOk P w K mg base CX0 2 f fd ["_law_cell_here","_law_many"] (spM K 2 .F (C4)):=by
 refine D.F.ok F2 (λvs H Q E h=>h.1) (λcdv A outer s H vs Q E hr h=>?_);show ⟨tSt K (λ_ _=>False) .F Y0,(b7 (@v9 _ _ _ _ _ _ _ 2 _ _ F2.nd rfl Qz (b9 x8 L4 a8 (b9 y9 (n9 (C:=o7) (g:=r0) (λ_ _=>rfl) (λ_ _ _=>.int)) (qv .B 0) a8)) Qq Qz) (b7 (@n3 _ _ _ _ _ _ _ 3 _ _ F2.nd rfl Qz (@k6 _ _ _ _ _ _ _ _ _ _ _ _ _ _ _ _ O (.inl rfl) Qz Qq I.m I.F.kp I.b (a5 (b9 y9 (n9 (C:=o7) (g:=r0) (λ_ _=>rfl) (λ_ _ _=>.int)) (b9 L3 (n9 (C:=A6) (g:=F0) (λ_ _=>rfl) (λ_ _ _=>.int)) (qv .B 0) a8) (b9 oU (n9 (C:=bC) (g:=je) (λ_ _=>rfl) (λ_ _ _=>.int)) a8 a8)) (a5 (qv .B 2) a7)) Qy Qq Qq) Qq Qz) (b7 (@v9 _ _ _ _ _ _ _ 4 _ _ F2.nd rfl Qz (b9 y9 (n9 (C:=o7) (g:=r0) (λ_ _=>rfl) (λ_ _ _=>.int)) (b9 L3 (n9 (C:=A6) (g:=F0) (λ_ _=>rfl) (λ_ _ _=>.int)) (qv .B 0) a8) (qv .B 2)) Qq Qz) (b7 (@n3 _ _ _ _ _ _ _ 5 _ _ F2.nd rfl Qz (i6 a7) Qq Qz) (b7 (@U3 _ _ _ _ _ _ _ _ _ _ _ _ _ qH2 rfl (@bQ _ _ _ _ _ _ _ _ _ Qq B.range_ (a5 (qv .B 1) a7) Qq) (@n6 _ _ 6 _ F2.nd rfl Qz Qz) J0 (b8 (@lW _ _ _ _ _ _ _ 5 _ _ _ _ rfl Qz (b9 o5 x9 (b9 o5 x9 (V9 (qv .B 3) o6 (j3 (qv .B 4))) (w4 (d8 (@k6 _ _ _ _ _ _ _ _ _ _ _ _ _ _ _ _ O (.inl rfl) Qz Qq I.m I.F.kp I.b (a5 (b9 x8 L4 (b9 L3 (n9 (C:=A6) (g:=F0) (λ_ _=>rfl) (λ_ _ _=>.int)) (qv .B 0) a8) (b9 P6 (n9 (C:=CMulB) (g:=E9) (λ_ _=>rfl) (λ_ _ _=>.int)) a8 (qv .B 6))) (E3 a7)) Qy Qq Qq)))) (V9 (qv .B 3) (j3 (b9 x8 L4 (qv .B 4) a8)) o6)) Qy Qy Qq Qq Qq Qq Qq)) (by intro _;rfl)) (b8 (@X5 _ _ _ _ _ 5 _ _ (.inl rfl) Qq Qz Qy Qy))))))),
  E5 (n:=2) (Nl:=["_law_cell_here","_law_many","_law_size","_law_base","_law_place","_law_names_here","_law_k"]) (.inl rfl) h⟩
def iN {mg:Jz}(D:Def K mg "_law_count" U2 ["_law_cell_here"] f fd) (B:Blt mg) (C:Cst mg):FnOk P w K mg base CX0 1 f fd ["_law_cell_here"] (spM K 1 .F (C5)):=by
 refine D.F.ok ii (λvs H Q E h=>h.1) (λcdv A outer s H vs Q E I h=>?_);show ⟨tSt K (λ_ _=>False) .F F9,(b7 (g5 (@e8 _ _ _ _ _ _ _ _ _ _ _ _ l9 j4 (b9 y9 (n9 (C:=o7) (g:=r0) (λ_ _=>rfl) (λ_ _ _=>.int)) (qv .B 0) a8) a8 Qz) (b8 (e9 (@bT _ _ _ _ _ _ _ _ _ _ _ _ _ _ R5 gS Qq B.str_ cx (a5 (b9 M3 X0 (b9 oU (n9 (C:=bC) (g:=je) (λ_ _=>rfl) (λ_ _ _=>.int)) a8 a8) (b9 y9 (n9 (C:=o7) (g:=r0) (λ_ _=>rfl) (λ_ _ _=>.int)) (b9 L3 (n9 (C:=A6) (g:=F0) (λ_ _=>rfl) (λ_ _ _=>.int)) (qv .B 0) a8) a8)) a7) Qy Qy Qq Qq))) g9) (b8 (e9 (@bT _ _ _ _ _ _ _ _ _ _ _ _ _ _ R5 gS Qq B.str_ cx (a5 (b9 x8 L4 a8 (b9 y9 (n9 (C:=o7) (g:=r0) (λ_ _=>rfl) (λ_ _ _=>.int)) (b9 L3 (n9 (C:=A6) (g:=F0) (λ_ _=>rfl) (λ_ _ _=>.int)) (qv .B 0) a8) (t6 (j0 (w4 (d8 (i6 (E3 (E3 (E3 a7)))))) (b9 y9 (n9 (C:=o7) (g:=r0) (λ_ _=>rfl) (λ_ _ _=>.int)) (b9 L3 (n9 (C:=A6) (g:=F0) (λ_ _=>rfl) (λ_ _ _=>.int)) (qv .B 0) a8) a8))))) a7) Qy Qy Qq Qq)))),
  E5 (n:=1) (Nl:=["_law_cell_here"]) (.inl rfl) h⟩
def iL {mg:Jz}(D:Def K mg "_law_parts" U0 ["_law_script","_law_places","_law_names_here"] f fd) (B:Blt mg) (C:Cst mg) (O:Def K mg "_law_count" U2 ["_law_cell_here"] f_law_count fd_law_count) (a4:FnOk P w K mg base CX0 1 f_law_count fd_law_count ["_law_cell_here"] (spM K 1 .F (C5))) (I:Def K mg "_law_cell" N2 ["_law_script","_law_k"] f_law_cell fd_law_cell) (a3:FnOk P w K mg base CX0 1 f_law_cell fd_law_cell ["_law_script","_law_k"] (spM K 2 .F (j9))):FnOk P w K mg base CX0 2 f fd ["_law_script","_law_places","_law_names_here"] (spM K 3 .V (J3)):=by
 refine D.F.ok y8 (λvs H Q E h=>h.1) (λcdv A outer s H vs Q E hr h=>?_);show ⟨tSt K (λ_ _=>False) .V X9,(b7 (@n3 _ _ _ _ _ _ _ 3 _ _ y8.nd rfl Qz (i6 a7) Qq Qz) (b7 (@U3 _ _ _ _ _ _ _ _ _ _ _ _ _ qH2 rfl (@bQ _ _ _ _ _ _ _ _ _ Qq B.range_ (a5 (@B3 _ _ _ _ _ _ _ _ _ _ _ _ _ _ U8 U7 Qq B.len_ qE2 (a5 (qv .B 1) a7) Qy Qy Qq Qq) a7) Qq) (@n6 _ _ 4 _ y8.nd rfl Qz Qz) J0 (b8 (@lW _ _ _ _ _ _ _ 3 _ _ _ _ rfl Qz (i0 (i6 (a5 c8 (a5 (dN (j0 (qv .B 1) (qv .B 4))) (a5 (i0 (@k6 _ _ _ _ _ _ _ _ _ _ _ _ _ _ _ _ a4 (.inl rfl) Qz Qq O.m O.F.kp O.b (a5 (w4 (d8 (@k6 _ _ _ _ _ _ _ _ _ _ _ _ _ _ _ _ a3 (.inl rfl) Qz Qq I.m I.F.kp I.b (a5 (qv .B 0) (a5 (b9 x8 L4 a8 (qv .B 4)) a7)) Qy Qq Qq))) a7) Qy Qq Qq)) a7))))) Qy Qy Qq Qq Qq Qq Qq)) (by intro _;rfl)) (b7 (@U3 _ _ _ _ _ _ _ _ _ _ _ _ _ qH2 rfl (@bQ _ _ _ _ _ _ _ _ _ Qq B.range_ (a5 (@B3 _ _ _ _ _ _ _ _ _ _ _ _ _ _ U8 U7 Qq B.len_ qE2 (a5 (qv .B 2) a7) Qy Qy Qq Qq) a7) Qq) (@n6 _ _ 5 _ y8.nd rfl Qz Qz) J0 (b7 (@n3 _ _ _ _ _ _ _ 6 _ _ y8.nd rfl Qz (i6 (a5 c8 (a5 (dN (j0 (qv .B 2) (qv .B 5))) (a5 c8 a7)))) Qq Qz) (b7 (@U3 _ _ _ _ _ _ _ _ _ _ _ _ _ qH2 rfl (@bQ _ _ _ _ _ _ _ _ _ Qq B.range_ (a5 (b9 x8 L4 a8 (b9 y9 (n9 (C:=o7) (g:=r0) (λ_ _=>rfl) (λ_ _ _=>.int)) (w4 (d8 (@k6 _ _ _ _ _ _ _ _ _ _ _ _ _ _ _ _ a3 (.inl rfl) Qz Qq I.m I.F.kp I.b (a5 (qv .B 0) (a5 (b9 x8 L4 a8 (qv .B 5)) a7)) Qy Qq Qq))) (@B3 _ _ _ _ _ _ _ _ _ _ _ _ _ _ U8 U7 Qq B.len_ qE2 (a5 (qv .B 1) a7) Qy Qy Qq Qq))) a7) Qq) (@n6 _ _ 4 _ y8.nd rfl Qz Qz) J0 (b8 (@n3 _ _ _ _ _ _ _ 6 _ _ y8.nd rfl Qz (b9 j7 (j8 (c:=true)) (qv .C 6) (d8 (i6 (a5 (i0 (@k6 _ _ _ _ _ _ _ _ _ _ _ _ _ _ _ _ a4 (.inl rfl) Qz Qq O.m O.F.kp O.b (a5 (w4 (d8 (@k6 _ _ _ _ _ _ _ _ _ _ _ _ _ _ _ _ a3 (.inl rfl) Qz Qq I.m I.F.kp I.b (a5 (qv .B 0) (a5 (b9 x8 L4 (b9 x8 L4 a8 (b9 P6 (n9 (C:=CMulB) (g:=E9) (λ_ _=>rfl) (λ_ _ _=>.int)) a8 (qv .B 5))) (qv .B 4)) a7)) Qy Qq Qq))) a7) Qy Qq Qq)) (a5 (dN (j0 (qv .B 1) (qv .B 4))) a7))))) Qq Qz)) (by intro _;rfl)) (b7 (@n3 _ _ _ _ _ _ _ 6 _ _ y8.nd rfl Qz (b9 j7 (j8 (c:=true)) (qv .C 6) (d8 (i6 (a5 c8 (a5 (i0 (@k6 _ _ _ _ _ _ _ _ _ _ _ _ _ _ _ _ a4 (.inl rfl) Qz Qq O.m O.F.kp O.b (a5 (b9 L3 (n9 (C:=A6) (g:=F0) (λ_ _=>rfl) (λ_ _ _=>.int)) (w4 (d8 (@k6 _ _ _ _ _ _ _ _ _ _ _ _ _ _ _ _ a3 (.inl rfl) Qz Qq I.m I.F.kp I.b (a5 (qv .B 0) (a5 (b9 x8 L4 a8 (qv .B 5)) a7)) Qy Qq Qq))) a8) a7) Qy Qq Qq)) (a5 (dN (j0 (qv .B 1) (ai M0 (ak (g:=E8) (λ_=>rfl) (λ_ _=>.int)) a8))) a7)))))) Qq Qz) (b8 (lV (@lW _ _ _ _ _ _ _ 3 _ _ _ _ rfl Qz (qv .V 6) Qy Qy Qq Qq Qq Qq Qq)))))) (by intro _;rfl)) (b8 (@X5 _ _ _ _ _ 3 _ _ (.inr rfl) Qq Qz Qy Qy))))),
  E5 (n:=3) (Nl:=["_law_script","_law_places","_law_names_here","_law_parts_here","_law_p","_law_k","_law_words"]) (.inr rfl) h⟩
def jM {mg:Jz}(D:Def K mg "_law_with" N1 ["_law_parts_here","_law_at","_law_words"] f fd) (B:Blt mg) (C:Cst mg):FnOk P w K mg base CX0 1 f fd ["_law_parts_here","_law_at","_law_words"] (spX K 3 (d4)):=by
 refine D.F.ok jI (λvs H Q E h=>h.1) (λcdv A outer s H vs Q E I h=>?_);show ⟨tSt K (λ_ _=>False) .V al,(b8 (e9 (i0 (b9 j7 (j8 (c:=true)) (d8 (b9 j7 (j8 (c:=true)) (d8 (@v6 _ _ _ _ _ _ true _ _ _ _ _ (qv .C 0) o6 (j3 (qv .B 1)) Qq)) (d8 (i6 (a5 (qv .V 2) a7))))) (d8 (@v6 _ _ _ _ _ _ true _ _ _ _ _ (qv .C 0) (j3 (b9 x8 L4 (qv .B 1) a8)) o6 Qq)))))),
  aM (n:=3) (Nl:=["_law_parts_here","_law_at","_law_words"]) h⟩
def ft {mg:Jz}(D:Def K mg "_law_a_count" K7 ["_law_kind"] f fd) (B:Blt mg) (C:Cst mg):FnOk P w K mg base CX0 1 f fd ["_law_kind"] (spM K 1 .F (y0)):=by
 refine D.F.ok ay (λvs H Q E h=>h.1) (λcdv A outer s H vs Q E I h=>?_);show ⟨tSt K (λ_ _=>False) .F S5,(@b7 _ _ _ _ _ _ _ _ (@n3 _ _ _ _ _ _ _ 1 _ _ ay.nd rfl Qz (@i6 _ _ _ _ _ _ (@a5 _ _ _ _ _ _ _ _ (@c8 _ _ _ _ _ _ _) (@a5 _ _ _ _ _ _ _ _ (@c8 _ _ _ _ _ _ _) (@a5 _ _ _ _ _ _ _ _ (@c8 _ _ _ _ _ _ _) (@a5 _ _ _ _ _ _ _ _ (@c8 _ _ _ _ _ _ _) (@a5 _ _ _ _ _ _ _ _ (@c8 _ _ _ _ _ _ _) (@a5 _ _ _ _ _ _ _ _ (@c8 _ _ _ _ _ _ _) (@a5 _ _ _ _ _ _ _ _ (@c8 _ _ _ _ _ _ _) (@a5 _ _ _ _ _ _ _ _ (@c8 _ _ _ _ _ _ _) (@a5 _ _ _ _ _ _ _ _ (@c8 _ _ _ _ _ _ _) (@a5 _ _ _ _ _ _ _ _ (@c8 _ _ _ _ _ _ _) (@a5 _ _ _ _ _ _ _ _ (@c8 _ _ _ _ _ _ _) (@a5 _ _ _ _ _ _ _ _ (@c8 _ _ _ _ _ _ _) (@a5 _ _ _ _ _ _ _ _ (@c8 _ _ _ _ _ _ _) (@a5 _ _ _ _ _ _ _ _ (@c8 _ _ _ _ _ _ _) (@a7 _ _ _ _) Qq) Qq) Qq) Qq) Qq) Qq) Qq) Qq) Qq) Qq) Qq) Qq) Qq) Qq)) Qq Qz) (@b8 _ _ _ _ _ _ (@e9 _ _ _ _ _ _ _ (@oz _ _ _ _ _ (@iw _ _ _ _ _ (@x5 _ _ _ _ _ _ _ _ (@qv _ _ _ _ .C 1 _ Qq Qz Qy Qy) (@qv _ _ _ _ .C 0 _ Qq Qz Qy Qy) (by show λ_ _=>rfl) Qq)))))),
  E5 (n:=1) (Nl:=["_law_kind","_law_some"]) (.inl rfl) h⟩
def fm {mg:Jz}(D:Def K mg "_law_renamed" O7 ["_law_parts_here","_law_old","_law_new"] f fd) (B:Blt mg) (C:Cst mg):FnOk P w K mg base CX0 1 f fd ["_law_parts_here","_law_old","_law_new"] (spM K 3 .F (r9)):=by
 refine D.F.ok M9 (λvs H Q E h=>h.1) (λcdv A outer s H vs Q E I h=>?_);show ⟨tSt K (λ_ _=>False) .F S2,(b7 (@n3 _ _ _ _ _ _ _ 3 _ _ M9.nd rfl Qz (i6 a7) Qq Qz) (b7 (@U3 _ _ _ _ _ _ _ _ _ _ _ _ _ qH2 rfl (@iu _ _ _ _ _ _ (qv .U 0) Qq) (@n6 _ _ 4 _ M9.nd rfl Qz Qz) J0 (FK (@AI _ 3 _ _ _ _ _ _ rfl Qz Qy Qy Qq Qq Qq Qq Qq) (@sh _ _ 3 5 4 1 2 _ _ _ _ _ _ _ _ _ _ _ _ qH2 rfl M9.nd rfl Qz Qz rfl Qz rfl Qz (@kE _ _ 3 _ _ _ _ _ _ _ _ _ _ _ rfl Qz (@pv _ 2 _ _ Qq Qz Qy Qy) Qq Qy Qy (by show λ_ _=>rfl) Qq Qq Qq Qq Qq) (@kE _ _ 3 _ _ _ _ _ _ _ _ _ _ _ rfl Qz (@pv _ 5 _ _ Qq Qz Qy Qy) Qq Qy Qy (by show λ_ _=>rfl) Qq Qq Qq Qq Qq) Qq Qz Qy Qy Qy Qy Qy Qy Qz (by intro _;rfl))) (by intro _;rfl)) (b8 (@X5 _ _ _ _ _ 3 _ _ (.inl rfl) Qq Qz Qy Qy)))),
  E5 (n:=3) (Nl:=["_law_parts_here","_law_old","_law_new","_law_some","_law_words","_law_word"]) (.inl rfl) h⟩
def aG {mg:Jz}(D:Def K mg "_law_fault_in_place" v8 ["_law_parts_here","_law_many","_law_kind","_law_at"] f fd) (B:Blt mg) (C:Cst mg) (I:Def K mg "_law_with" N1 ["_law_parts_here","_law_at","_law_words"] f_law_with fd_law_with) (a3:FnOk P w K mg base CX0 1 f_law_with fd_law_with ["_law_parts_here","_law_at","_law_words"] (spX K 3 (d4))) (O:Def K mg "_law_renamed" O7 ["_law_parts_here","_law_old","_law_new"] f_law_renamed fd_law_renamed) (a4:FnOk P w K mg base CX0 1 f_law_renamed fd_law_renamed ["_law_parts_here","_law_old","_law_new"] (spM K 3 .F (r9))) (ae:Def K mg "_law_a_count" K7 ["_law_kind"] f_law_a_count fd_law_a_count) (b0:FnOk P w K mg base CX0 1 f_law_a_count fd_law_a_count ["_law_kind"] (spM K 1 .F (y0))):FnOk P w K mg base CX0 2 f fd ["_law_parts_here","_law_many","_law_kind","_law_at"] (spX K 4 (v5)):=by
 refine D.F.ok F4 (λvs H Q E h=>h.1) (λcdv A outer s H vs Q E hr h=>?_);show ⟨tSt K (λ_ _=>False) .V d6,(b7 (@v9 _ _ _ _ _ _ _ 4 _ _ F4.nd rfl Qz (x5 (qv .C 0) (qv .C 3)) Qq Qz) (b7 (g5 (@e8 _ _ _ _ _ _ _ _ _ _ _ _ cH xLt (qv .B 2) a8 Qz) (b8 (e9 (@l7 _ _ _ _ _ _ _ _ _ _ _ _ _ _ _ a3 Qz Qq I.m I.F.kp I.b (a5 (qv .V 0) (a5 (qv .V 3) (a5 (i0 (i6 (a5 (x5 (qv .C 4) a8) (a5 (x5 (qv .C 4) a8) (a5 (i0 (@k6 _ _ _ _ _ _ _ _ _ _ _ _ _ _ _ _ b0 (.inl rfl) Qz Qq ae.m ae.F.kp ae.b (a5 (qv .B 2) a7) Qy Qq Qq)) a7))))) a7))) Qy Qq Qq))) g9) (b7 (g5 (@e8 _ _ _ _ _ _ _ _ _ _ _ _ l9 j4 (qv .B 2) a8 Qz) (b8 (e9 (@l7 _ _ _ _ _ _ _ _ _ _ _ _ _ _ _ a3 Qz Qq I.m I.F.kp I.b (a5 (qv .V 0) (a5 (qv .V 3) (a5 (i0 (i6 (a5 (x5 (qv .C 4) a8) (a5 (x5 (qv .C 4) a8) a7)))) a7))) Qy Qq Qq))) g9) (b7 (g5 (@e8 _ _ _ _ _ _ _ _ _ _ _ _ l9 j4 (qv .B 2) a8 Qz) (b8 (e9 (@l7 _ _ _ _ _ _ _ _ _ _ _ _ _ _ _ a3 Qz Qq I.m I.F.kp I.b (a5 (qv .V 0) (a5 (qv .V 3) (a5 (i0 (b9 j7 (j8 (c:=true)) (qv .C 4) (d8 (i6 (a5 c8 a7))))) a7))) Qy Qq Qq))) g9) (b7 (g5 (@e8 _ _ _ _ _ _ _ _ _ _ _ _ l9 j4 (qv .B 2) a8 Qz) (b8 (e9 (@l7 _ _ _ _ _ _ _ _ _ _ _ _ _ _ _ a3 Qz Qq I.m I.F.kp I.b (a5 (qv .V 0) (a5 (qv .V 3) (a5 (i0 (i6 (a5 (x5 (qv .C 4) a8) (a5 (@uT _ _ _ _ _ _ _ _ (t6 (j0 (qv .B 4) a8)) Qq Qq Qq) (a5 (x5 (qv .C 4) a8) a7))))) a7))) Qy Qq Qq))) g9) (b7 (g5 (@e8 _ _ _ _ _ _ _ _ _ _ _ _ l9 j4 (qv .B 2) a8 Qz) (b8 (e9 (@l7 _ _ _ _ _ _ _ _ _ _ _ _ _ _ _ a3 Qz Qq I.m I.F.kp I.b (a5 (qv .V 0) (a5 (qv .V 3) (a5 (i0 (i6 (a5 (x5 (qv .C 4) a8) (a5 c8 (a5 (x5 (qv .C 4) a8) a7))))) a7))) Qy Qq Qq))) g9) (b7 (g5 (@e8 _ _ _ _ _ _ _ _ _ _ _ _ l9 j4 (qv .B 2) a8 Qz) (b8 (e9 (i0 (b9 j7 (j8 (c:=true)) (d8 (b9 j7 (j8 (c:=true)) (d8 (@v6 _ _ _ _ _ _ true _ _ _ _ _ (qv .C 0) o6 (j3 (qv .B 1)) Qq)) (d8 (i6 (a5 (i0 (i6 (a5 (x5 (qv .C 4) a8) (a5 (x5 (qv .C 4) a8) (a5 c8 a7))))) a7))))) (d8 (@v6 _ _ _ _ _ _ true _ _ _ _ _ (qv .C 0) (j3 (qv .B 1)) o6 Qq)))))) g9) (b7 (g5 (@e8 _ _ _ _ _ _ _ _ _ _ _ _ l9 j4 (qv .B 2) a8 Qz) (b8 (e9 (i0 (b9 j7 (j8 (c:=true)) (qv .C 0) (d8 (i6 (a5 (i0 (i6 (a5 c8 (a5 (b9 aF aH c8 (b9 M3 X0 a8 (@B3 _ _ _ _ _ _ _ _ _ _ _ _ _ _ w8 R6 Qq B.len_ qE2 (a5 (t6 (j0 (qv .B 4) a8)) a7) Qy Qy Qq Qq))) (a5 (x5 (qv .C 4) a8) a7))))) a7))))))) g9) (b7 (g5 (@e8 _ _ _ _ _ _ _ _ _ _ _ _ l9 j4 (qv .B 2) a8 Qz) (b8 (e9 (@l7 _ _ _ _ _ _ _ _ _ _ _ _ _ _ _ a3 Qz Qq I.m I.F.kp I.b (a5 (qv .V 0) (a5 (qv .V 3) (a5 (i0 (i6 (a5 c8 (a5 (x5 (qv .C 4) a8) (a5 (x5 (qv .C 4) a8) a7))))) a7))) Qy Qq Qq))) g9) (b7 (g5 (@e8 _ _ _ _ _ _ _ _ _ _ _ _ l9 j4 (qv .B 2) a8 Qz) (b7 (kA (i:=5) (show l6 (c7 v8) _ ["_law_parts_here","_law_many","_law_kind","_law_at","_law_words","_law_more"] ["_law_parts_here","_law_many","_law_kind","_law_at","_law_words","_law_more","_law_letter"] from Qz) rfl (ir (V9 c8 o6 (j3 (b9 M3 X0 a8 (qv .B 1))))) (λ_ _ _ _=>(@n6 _ _ 6 _ (by decide +kernel:(["_law_parts_here","_law_many","_law_kind","_law_at","_law_words","_law_more","_law_letter"]:Jk).Nodup) rfl (Or.inl rfl) (.inr rfl))) J0 (N4 (show 6<=6 by decide)) (λ_ _ _ _=>Q6) (λ_ _ _ _=>(i0 (i6 (a5 c8 (a5 (b9 aF aH (qv .B 6) (b9 M3 X0 a8 (@B3 _ _ _ _ _ _ _ _ _ _ _ _ _ _ w8 R6 Qq B.len_ qE2 (a5 (t6 (j0 (qv .B 4) a8)) a7) Qy Qy Qq Qq))) (a5 c8 a7)))))) F4.nd rfl Qz) (b8 (e9 (i0 (b9 j7 (j8 (c:=true)) (d8 (b9 j7 (j8 (c:=true)) (d8 (@v6 _ _ _ _ _ _ true _ _ _ _ _ (qv .C 0) o6 (j3 (qv .B 1)) Qq)) (qv .C 5))) (d8 (@v6 _ _ _ _ _ _ true _ _ _ _ _ (qv .C 0) (j3 (qv .B 1)) o6 Qq))))))) g9) (b7 (g5 (@e8 _ _ _ _ _ _ _ _ _ _ _ _ l9 j4 (qv .B 2) a8 Qz) (b8 (e9 (i0 (@k6 _ _ _ _ _ _ _ _ _ _ _ _ _ _ _ _ a4 (.inl rfl) Qz Qq O.m O.F.kp O.b (a5 (qv .B 0) (a5 (t6 (j0 (qv .B 4) a8)) (a5 (b9 o5 x9 (V9 (t6 (j0 (qv .B 4) a8)) o6 (j3 a8)) c8) a7))) Qy Qq Qq)))) g9) (b7 (g5 (@e8 _ _ _ _ _ _ _ _ _ _ _ _ l9 j4 (qv .B 2) a8 Qz) (b8 (e9 (i0 (@k6 _ _ _ _ _ _ _ _ _ _ _ _ _ _ _ _ a4 (.inl rfl) Qz Qq O.m O.F.kp O.b (a5 (qv .B 0) (a5 (t6 (j0 (qv .B 4) a8)) (a5 (b9 o5 x9 (b9 o5 x9 (V9 (t6 (j0 (qv .B 4) a8)) o6 (j3 a8)) c8) (V9 (t6 (j0 (qv .B 4) a8)) (j3 a8) (j3 a8))) a7))) Qy Qq Qq)))) g9) (b7 (g5 (@e8 _ _ _ _ _ _ _ _ _ _ _ _ l9 j4 (qv .B 2) a8 Qz) (b8 (e9 (i0 (@k6 _ _ _ _ _ _ _ _ _ _ _ _ _ _ _ _ a4 (.inl rfl) Qz Qq O.m O.F.kp O.b (a5 (qv .B 0) (a5 (t6 (j0 (qv .B 4) a8)) (a5 c8 a7))) Qy Qq Qq)))) g9) (b8 (e9 (i0 (@v6 _ _ _ _ _ _ true _ _ _ _ _ (qv .C 0) (j3 (qv .B 1)) o6 Qq))))))))))))))))),
  aM (n:=4) (Nl:=["_law_parts_here","_law_many","_law_kind","_law_at","_law_words","_law_more"]) h⟩
def bi {mg:Jz}(D:Def K mg "_law_fault_in_name" C7 ["_law_parts_here","_law_kind","_law_at"] f fd) (B:Blt mg) (C:Cst mg) (I:Def K mg "_law_with" N1 ["_law_parts_here","_law_at","_law_words"] f_law_with fd_law_with) (O:FnOk P w K mg base CX0 1 f_law_with fd_law_with ["_law_parts_here","_law_at","_law_words"] (spX K 3 (d4))):FnOk P w K mg base CX0 2 f fd ["_law_parts_here","_law_kind","_law_at"] (spX K 3 (w6)):=by
 refine D.F.ok K1 (λvs H Q E h=>h.1) (λcdv A outer s H vs Q E hr h=>?_);show ⟨tSt K (λ_ _=>False) .V K4,(b7 (@v9 _ _ _ _ _ _ _ 3 _ _ K1.nd rfl Qz (x5 (qv .C 0) (qv .C 2)) Qq Qz) (b7 (@n3 _ _ _ _ _ _ _ 4 _ _ K1.nd rfl Qz (i6 (a5 c8 (a5 c8 (a5 (@uT _ _ _ _ _ _ _ _ (t6 (j0 (qv .B 3) a8)) Qq Qq Qq) (a5 (b9 o5 x9 (b9 o5 x9 (V9 (t6 (j0 (qv .B 3) a8)) o6 (j3 a8)) c8) (V9 (t6 (j0 (qv .B 3) a8)) (j3 a8) (j3 a8))) (a5 (b9 o5 x9 (V9 (t6 (j0 (qv .B 3) a8)) o6 (j3 a8)) c8) a7)))))) Qq Qz) (b8 (lV (e9 (@l7 _ _ _ _ _ _ _ _ _ _ _ _ _ _ _ O Qz Qq I.m I.F.kp I.b (a5 (qv .V 0) (a5 (qv .V 2) (a5 (i0 (b9 j7 (j8 (c:=true)) (d8 (i6 (a5 c8 (a5 (x5 (qv .C 4) (qv .C 1)) a7)))) (d8 (@v6 _ _ _ _ _ _ true _ _ _ _ _ (qv .C 3) (j3 a8) o6 Qq)))) a7))) Qy Qq Qq)))))),
  aM (n:=3) (Nl:=["_law_parts_here","_law_kind","_law_at","_law_words","_law_some"]) h⟩
def bj {mg:Jz}(D:Def K mg "_law_fault_in_move" x6 ["_law_parts_here","_law_kind","_law_at"] f fd) (B:Blt mg) (C:Cst mg) (I:Def K mg "_law_with" N1 ["_law_parts_here","_law_at","_law_words"] f_law_with fd_law_with) (O:FnOk P w K mg base CX0 1 f_law_with fd_law_with ["_law_parts_here","_law_at","_law_words"] (spX K 3 (d4))) (a3:Def K mg "_law_fault_in_name" C7 ["_law_parts_here","_law_kind","_law_at"] f_law_fault_in_name fd_law_fault_in_name) (ae:FnOk P w K mg base CX0 2 f_law_fault_in_name fd_law_fault_in_name ["_law_parts_here","_law_kind","_law_at"] (spX K 3 (w6))) (a4:Def K mg "_law_a_count" K7 ["_law_kind"] f_law_a_count fd_law_a_count) (b0:FnOk P w K mg base CX0 1 f_law_a_count fd_law_a_count ["_law_kind"] (spM K 1 .F (y0))):FnOk P w K mg base CX0 3 f fd ["_law_parts_here","_law_kind","_law_at"] (spX K 3 (m5)):=by
 refine D.F.ok K2 (λvs H Q E h=>h.1) (λcdv A outer s H vs Q E hr h=>?_);show ⟨tSt K (λ_ _=>False) .V d5,(b7 (@v9 _ _ _ _ _ _ _ 3 _ _ K2.nd rfl Qz (x5 (qv .C 0) (qv .C 2)) Qq Qz) (b7 (g5 (@e8 _ _ _ _ _ _ _ _ _ _ _ _ cI xGt (qv .B 1) a8 Qz) (b8 (e9 (@l7 _ _ _ _ _ _ _ _ _ _ _ _ _ _ _ ae Qz Qq a3.m a3.F.kp a3.b (a5 (qv .V 0) (a5 (b9 M3 X0 (qv .B 1) a8) (a5 (qv .V 2) a7))) Qy Qq Qq))) g9) (b7 (g5 (@e8 _ _ _ _ _ _ _ _ _ _ _ _ cH xLt (qv .B 1) a8 Qz) (b8 (e9 (@l7 _ _ _ _ _ _ _ _ _ _ _ _ _ _ _ O Qz Qq I.m I.F.kp I.b (a5 (qv .V 0) (a5 (qv .V 2) (a5 (i0 (b9 j7 (j8 (c:=true)) (d8 (b9 j7 (j8 (c:=true)) (d8 (@v6 _ _ _ _ _ _ true _ _ _ _ _ (qv .C 3) o6 (j3 a8) Qq)) (d8 (i6 (a5 (i0 (@k6 _ _ _ _ _ _ _ _ _ _ _ _ _ _ _ _ b0 (.inl rfl) Qz Qq a4.m a4.F.kp a4.b (a5 (qv .B 1) a7) Qy Qq Qq)) a7))))) (d8 (@v6 _ _ _ _ _ _ true _ _ _ _ _ (qv .C 3) (j3 a8) o6 Qq)))) a7))) Qy Qq Qq))) g9) (b7 (g5 (@e8 _ _ _ _ _ _ _ _ _ _ _ _ l9 j4 (qv .B 1) a8 Qz) (b8 (e9 (@l7 _ _ _ _ _ _ _ _ _ _ _ _ _ _ _ O Qz Qq I.m I.F.kp I.b (a5 (qv .V 0) (a5 (qv .V 2) (a5 (i0 (b9 j7 (j8 (c:=true)) (d8 (@v6 _ _ _ _ _ _ true _ _ _ _ _ (qv .C 3) o6 (j3 (ai M0 (ak (g:=E8) (λ_=>rfl) (λ_ _=>.int)) a8)) Qq)) (d8 (i6 (a5 c8 (a5 (x5 (qv .C 3) (ai M0 (ak (g:=E8) (λ_=>rfl) (λ_ _=>.int)) a8)) a7)))))) a7))) Qy Qq Qq))) g9) (b7 (g5 (@e8 _ _ _ _ _ _ _ _ _ _ _ _ l9 j4 (qv .B 1) a8 Qz) (b8 (e9 (@l7 _ _ _ _ _ _ _ _ _ _ _ _ _ _ _ O Qz Qq I.m I.F.kp I.b (a5 (qv .V 0) (a5 (qv .V 2) (a5 (i0 (b9 j7 (j8 (c:=true)) (qv .C 3) (d8 (i6 (a5 c8 (a5 (x5 (qv .C 3) (ai M0 (ak (g:=E8) (λ_=>rfl) (λ_ _=>.int)) a8)) a7)))))) a7))) Qy Qq Qq))) g9) (b7 (g5 (@e8 _ _ _ _ _ _ _ _ _ _ _ _ l9 j4 (qv .B 1) a8 Qz) (b8 (e9 (@l7 _ _ _ _ _ _ _ _ _ _ _ _ _ _ _ O Qz Qq I.m I.F.kp I.b (a5 (qv .V 0) (a5 (qv .V 2) (a5 (i0 (@v6 _ _ _ _ _ _ true _ _ _ _ _ (qv .C 3) o6 (j3 (ai M0 (ak (g:=E8) (λ_=>rfl) (λ_ _=>.int)) a8)) Qq)) a7))) Qy Qq Qq))) g9) (b7 (g5 (@e8 _ _ _ _ _ _ _ _ _ _ _ _ l9 j4 (qv .B 1) a8 Qz) (b8 (e9 (@l7 _ _ _ _ _ _ _ _ _ _ _ _ _ _ _ O Qz Qq I.m I.F.kp I.b (a5 (qv .V 0) (a5 (qv .V 2) (a5 (i0 (@v6 _ _ _ _ _ _ true _ _ _ _ _ (qv .C 3) o6 (j3 (ai M0 (ak (g:=E8) (λ_=>rfl) (λ_ _=>.int)) a8)) Qq)) a7))) Qy Qq Qq))) g9) (b7 (g5 (@e8 _ _ _ _ _ _ _ _ _ _ _ _ l9 j4 (qv .B 1) a8 Qz) (b8 (e9 (@l7 _ _ _ _ _ _ _ _ _ _ _ _ _ _ _ O Qz Qq I.m I.F.kp I.b (a5 (qv .V 0) (a5 (qv .V 2) (a5 (i0 (b9 j7 (j8 (c:=true)) (d8 (@v6 _ _ _ _ _ _ true _ _ _ _ _ (qv .C 3) o6 (j3 a8) Qq)) (d8 (@v6 _ _ _ _ _ _ true _ _ _ _ _ (qv .C 3) (j3 a8) o6 Qq)))) a7))) Qy Qq Qq))) g9) (b7 (g5 (@e8 _ _ _ _ _ _ _ _ _ _ _ _ l9 j4 (qv .B 1) a8 Qz) (b8 (e9 (i0 (b9 j7 (j8 (c:=true)) (qv .C 0) (d8 (i6 (a5 (qv .V 3) a7))))))) g9) (b7 (g5 (@e8 _ _ _ _ _ _ _ _ _ _ _ _ l9 j4 (qv .B 1) a8 Qz) (b8 (e9 (@l7 _ _ _ _ _ _ _ _ _ _ _ _ _ _ _ O Qz Qq I.m I.F.kp I.b (a5 (qv .V 0) (a5 (qv .V 2) (a5 (i0 (b9 j7 (j8 (c:=true)) (d8 (@v6 _ _ _ _ _ _ true _ _ _ _ _ (qv .C 3) o6 (j3 (ai M0 (ak (g:=E8) (λ_=>rfl) (λ_ _=>.int)) a8)) Qq)) (d8 (i6 (a5 (b9 o5 x9 (t6 (j0 (qv .B 3) (ai M0 (ak (g:=E8) (λ_=>rfl) (λ_ _=>.int)) a8))) c8) a7))))) a7))) Qy Qq Qq))) g9) (b7 (g5 (@e8 _ _ _ _ _ _ _ _ _ _ _ _ l9 j4 (qv .B 1) a8 Qz) (b8 (e9 (@l7 _ _ _ _ _ _ _ _ _ _ _ _ _ _ _ O Qz Qq I.m I.F.kp I.b (a5 (qv .V 0) (a5 (qv .V 2) (a5 (i0 (b9 j7 (j8 (c:=true)) (d8 (@v6 _ _ _ _ _ _ true _ _ _ _ _ (qv .C 3) o6 (j3 (ai M0 (ak (g:=E8) (λ_=>rfl) (λ_ _=>.int)) a8)) Qq)) (d8 (i6 (a5 (b9 aF aH c8 (b9 M3 X0 a8 (@B3 _ _ _ _ _ _ _ _ _ _ _ _ _ _ w8 R6 Qq B.len_ qE2 (a5 (t6 (j0 (qv .B 3) (ai M0 (ak (g:=E8) (λ_=>rfl) (λ_ _=>.int)) a8))) a7) Qy Qy Qq Qq))) a7))))) a7))) Qy Qq Qq))) g9) (b7 (g5 (@e8 _ _ _ _ _ _ _ _ _ _ _ _ l9 j4 (qv .B 1) a8 Qz) (b8 (e9 (@l7 _ _ _ _ _ _ _ _ _ _ _ _ _ _ _ O Qz Qq I.m I.F.kp I.b (a5 (qv .V 0) (a5 (qv .V 2) (a5 (i0 (b9 j7 (j8 (c:=true)) (d8 (b9 j7 (j8 (c:=true)) (d8 (@v6 _ _ _ _ _ _ true _ _ _ _ _ (qv .C 3) o6 (j3 a8) Qq)) (d8 (i6 (a5 (b9 aF aH c8 (b9 M3 X0 a8 (@B3 _ _ _ _ _ _ _ _ _ _ _ _ _ _ w8 R6 Qq B.len_ qE2 (a5 (t6 (j0 (qv .B 3) a8)) a7) Qy Qy Qq Qq))) a7))))) (d8 (@v6 _ _ _ _ _ _ true _ _ _ _ _ (qv .C 3) (j3 a8) o6 Qq)))) a7))) Qy Qq Qq))) g9) (b7 (g5 (@e8 _ _ _ _ _ _ _ _ _ _ _ _ l9 j4 (qv .B 1) a8 Qz) (b7 (kA (i:=4) (show l6 (c7 x6) _ ["_law_parts_here","_law_kind","_law_at","_law_words","_law_more"] ["_law_parts_here","_law_kind","_law_at","_law_words","_law_more","_law_letter"] from Qz) rfl (ir c8) (λ_ _ _ _=>(@n6 _ _ 5 _ (by decide +kernel:(["_law_parts_here","_law_kind","_law_at","_law_words","_law_more","_law_letter"]:Jk).Nodup) rfl (Or.inl rfl) (.inr rfl))) J0 (N4 (show 5<=5 by decide)) (λ_ _ _ _=>Q6) (λ_ _ _ _=>(i0 (b9 j7 (j8 (c:=true)) (d8 (i6 (a5 c8 (a5 (b9 aF aH (qv .B 5) (b9 M3 X0 a8 (@B3 _ _ _ _ _ _ _ _ _ _ _ _ _ _ w8 R6 Qq B.len_ qE2 (a5 (t6 (j0 (qv .B 3) a8)) a7) Qy Qy Qq Qq))) a7)))) (d8 (@v6 _ _ _ _ _ _ true _ _ _ _ _ (qv .C 3) (j3 a8) o6 Qq))))) K2.nd rfl Qz) (b8 (e9 (i0 (b9 j7 (j8 (c:=true)) (qv .C 0) (qv .C 4)))))) g9) (b7 (g5 (@e8 _ _ _ _ _ _ _ _ _ _ _ _ l9 j4 (qv .B 1) a8 Qz) (b8 (e9 (@l7 _ _ _ _ _ _ _ _ _ _ _ _ _ _ _ O Qz Qq I.m I.F.kp I.b (a5 (qv .V 0) (a5 (qv .V 2) (a5 (i0 (b9 j7 (j8 (c:=true)) (d8 (@v6 _ _ _ _ _ _ true _ _ _ _ _ (qv .C 3) o6 (j3 a8) Qq)) (d8 (@v6 _ _ _ _ _ _ true _ _ _ _ _ (qv .C 3) (j3 a8) o6 Qq)))) a7))) Qy Qq Qq))) g9) (b7 (g5 (@e8 _ _ _ _ _ _ _ _ _ _ _ _ l9 j4 (qv .B 1) a8 Qz) (b8 (e9 (@l7 _ _ _ _ _ _ _ _ _ _ _ _ _ _ _ O Qz Qq I.m I.F.kp I.b (a5 (qv .V 0) (a5 (qv .V 2) (a5 (i0 (b9 j7 (j8 (c:=true)) (d8 (b9 j7 (j8 (c:=true)) (d8 (@v6 _ _ _ _ _ _ true _ _ _ _ _ (qv .C 3) o6 (j3 a8) Qq)) (d8 (i6 (a5 c8 a7))))) (d8 (@v6 _ _ _ _ _ _ true _ _ _ _ _ (qv .C 3) (j3 a8) o6 Qq)))) a7))) Qy Qq Qq))) g9) (b8 (e9 (@l7 _ _ _ _ _ _ _ _ _ _ _ _ _ _ _ O Qz Qq I.m I.F.kp I.b (a5 (qv .V 0) (a5 (qv .V 2) (a5 (i0 (b9 j7 (j8 (c:=true)) (d8 (b9 j7 (j8 (c:=true)) (d8 (@v6 _ _ _ _ _ _ true _ _ _ _ _ (qv .C 3) o6 (j3 a8) Qq)) (d8 (i6 (a5 c8 (a5 (x5 (qv .C 3) a8) a7)))))) (d8 (@v6 _ _ _ _ _ _ true _ _ _ _ _ (qv .C 3) (j3 a8) o6 Qq)))) a7))) Qy Qq Qq)))))))))))))))))),
  aM (n:=3) (Nl:=["_law_parts_here","_law_kind","_law_at","_law_words","_law_more"]) h⟩
def gC {mg:Jz}(D:Def K mg "_law_faulty" C2 ["_law_parts_here","_law_many","_law_script"] f fd) (B:Blt mg) (C:Cst mg) (ae:Def K mg "_law_cell" N2 ["_law_script","_law_k"] f_law_cell fd_law_cell) (b0:FnOk P w K mg base CX0 1 f_law_cell fd_law_cell ["_law_script","_law_k"] (spM K 2 .F (j9))) (I:Def K mg "_law_fault_in_place" v8 ["_law_parts_here","_law_many","_law_kind","_law_at"] f_law_fault_in_place fd_law_fault_in_place) (a3:FnOk P w K mg base CX0 2 f_law_fault_in_place fd_law_fault_in_place ["_law_parts_here","_law_many","_law_kind","_law_at"] (spX K 4 (v5))) (O:Def K mg "_law_fault_in_move" x6 ["_law_parts_here","_law_kind","_law_at"] f_law_fault_in_move fd_law_fault_in_move) (a4:FnOk P w K mg base CX0 3 f_law_fault_in_move fd_law_fault_in_move ["_law_parts_here","_law_kind","_law_at"] (spX K 3 (m5))):FnOk P w K mg base CX0 4 f fd ["_law_parts_here","_law_many","_law_script"] (spX K 3 (L0)):=by
 refine D.F.ok B0 (λvs H Q E h=>h.1) (λcdv A outer s H vs Q E hr h=>?_);show ⟨tSt K (λ_ _=>False) .V K9,(b7 (@n3 _ _ _ _ _ _ _ 3 _ _ B0.nd rfl Qz (@k6 _ _ _ _ _ _ _ _ _ _ _ _ _ _ _ _ b0 (.inl rfl) Qz Qq ae.m ae.F.kp ae.b (a5 (qv .B 2) (E3 a7)) Qy Qq Qq) Qq Qz) (b7 (@v9 _ _ _ _ _ _ _ 4 _ _ B0.nd rfl Qz (b9 y9 (n9 (C:=o7) (g:=r0) (λ_ _=>rfl) (λ_ _ _=>.int)) (qv .B 3) a8) Qq Qz) (b7 (g5 (@e8 _ _ _ _ _ _ _ _ _ _ _ _ cH xLt (qv .B 4) a8 Qz) (b8 (lV (e9 (@Q7 _ _ _ _ _ _ _ _ _ _ c8 (w4 (d8 (R9 (show l6 (c7 C2) _ ["_law_parts_here","_law_many","_law_script","_law_cell_here","_law_kind","_law_at","_law_text","_law_some"] ["_law_parts_here","_law_many","_law_script","_law_cell_here","_law_kind","_law_at","_law_text","_law_some","_law_words"] from Qz) rfl (@bR _ _ _ _ _ _ (w4 (AN (@l7 _ _ _ _ _ _ _ _ _ _ _ _ _ _ _ a3 Qz Qq I.m I.F.kp I.b (a5 (qv .V 0) (a5 (qv .V 1) (a5 (qv .V 4) (a5 (b9 y9 (n9 (C:=o7) (g:=r0) (λ_ _=>rfl) (λ_ _ _=>.int)) (b9 L3 (n9 (C:=A6) (g:=F0) (λ_ _=>rfl) (λ_ _ _=>.int)) (qv .B 3) a8) (qv .B 1)) a7)))) Qy Qq Qq))) Qq) (λ_ _ _ _=>(@n6 _ _ 8 _ (by decide +kernel:(["_law_parts_here","_law_many","_law_script","_law_cell_here","_law_kind","_law_at","_law_text","_law_some","_law_words"]:Jk).Nodup) rfl (Or.inl rfl) (.inr rfl))) J0 (N4 (show 8<=8 by decide)) (λ_ _ _ _=>Q6) (λ_ _ _ _=>(@Q7 _ _ _ _ _ _ _ _ _ _ c8 (qv .B 8) Qq Qq Qq Qq Qq Qq))))) Qq Qq Qq Qq Qq Qq)))) g9) (b7 (g5 (@e8 _ _ _ _ _ _ _ _ _ _ _ _ cH xLt (qv .B 4) a8 Qz) (b7 (@v9 _ _ _ _ _ _ _ 5 _ _ B0.nd rfl Qz (b9 x8 L4 (qv .B 1) (b9 y9 (n9 (C:=o7) (g:=r0) (λ_ _=>rfl) (λ_ _ _=>.int)) (b9 L3 (n9 (C:=A6) (g:=F0) (λ_ _=>rfl) (λ_ _ _=>.int)) (qv .B 3) a8) (b9 M3 X0 (@B3 _ _ _ _ _ _ _ _ _ _ _ _ _ _ U8 U7 Qq B.len_ qE2 (a5 (qv .B 0) a7) Qy Qy Qq Qq) (qv .B 1)))) Qq Qz) (b8 (e9 (@Q7 _ _ _ _ _ _ _ _ _ _ c8 (w4 (d8 (R9 (show l6 (c7 C2) _ ["_law_parts_here","_law_many","_law_script","_law_cell_here","_law_kind","_law_at","_law_text","_law_some"] ["_law_parts_here","_law_many","_law_script","_law_cell_here","_law_kind","_law_at","_law_text","_law_some","_law_words"] from Qz) rfl (@bR _ _ _ _ _ _ (w4 (AN (@l7 _ _ _ _ _ _ _ _ _ _ _ _ _ _ _ a4 Qz Qq O.m O.F.kp O.b (a5 (qv .V 0) (a5 (b9 M3 X0 (qv .B 4) a8) (a5 (qv .V 5) a7))) Qy Qq Qq))) Qq) (λ_ _ _ _=>(@n6 _ _ 8 _ (by decide +kernel:(["_law_parts_here","_law_many","_law_script","_law_cell_here","_law_kind","_law_at","_law_text","_law_some","_law_words"]:Jk).Nodup) rfl (Or.inl rfl) (.inr rfl))) J0 (N4 (show 8<=8 by decide)) (λ_ _ _ _=>Q6) (λ_ _ _ _=>(@Q7 _ _ _ _ _ _ _ _ _ _ c8 (qv .B 8) Qq Qq Qq Qq Qq Qq))))) Qq Qq Qq Qq Qq Qq)))) g9) (b7 (@n3 _ _ _ _ _ _ _ 6 _ _ B0.nd rfl Qz (@Q7 _ _ _ _ _ _ _ _ _ _ c8 (w4 (d8 (R9 (show l6 (c7 C2) _ ["_law_parts_here","_law_many","_law_script","_law_cell_here","_law_kind","_law_at","_law_text","_law_some"] ["_law_parts_here","_law_many","_law_script","_law_cell_here","_law_kind","_law_at","_law_text","_law_some","_law_words"] from Qz) rfl (@bR _ _ _ _ _ _ (qv .B 0) Qq) (λ_ _ _ _=>(@n6 _ _ 8 _ (by decide +kernel:(["_law_parts_here","_law_many","_law_script","_law_cell_here","_law_kind","_law_at","_law_text","_law_some","_law_words"]:Jk).Nodup) rfl (Or.inl rfl) (.inr rfl))) J0 (N4 (show 8<=8 by decide)) (λ_ _ _ _=>Q6) (λ_ _ _ _=>(@Q7 _ _ _ _ _ _ _ _ _ _ c8 (qv .B 8) Qq Qq Qq Qq Qq Qq))))) Qq Qq Qq Qq Qq Qq) Qq Qz) (b7 (@n3 _ _ _ _ _ _ _ 7 _ _ B0.nd rfl Qz (i6 (a5 (b9 o5 x9 (qv .B 6) c8) (a5 (b9 o5 x9 (qv .B 6) c8) (a5 (b9 o5 x9 c8 (qv .B 6)) (@kB _ _ _ _ _ _ _ _ (AJ (qv .B 6)) (@fg _ _ _ _ _ _ _ _ (@lU _ _ _ _ 6 _ _ _ _ _ _ _ _ _ _ Qx Qx rfl Qz Qy Qy Qq Qq Qq Qq) (@fg _ _ _ _ _ _ _ _ (@lU _ _ _ _ 6 _ _ _ _ _ _ _ _ _ _ Qx Qx rfl Qz Qy Qy Qq Qq Qq Qq) (uV a7) Qq) Qq) Qq))))) Qq Qz) (b7 (@n3 _ _ _ _ _ _ _ 7 _ _ B0.nd rfl Qz (b9 j7 (j8 (c:=true)) (qv .C 7) (d8 (i6 (@kB _ _ _ _ _ _ _ _ AH (@fg _ _ _ _ _ _ _ _ (@lU _ _ _ _ 6 _ _ _ _ _ _ _ _ _ _ Qx Qx rfl Qz Qy Qy Qq Qq Qq Qq) (uV (a5 (b9 o5 x9 (qv .B 6) c8) (a5 (@Q7 _ _ _ _ _ _ _ _ _ _ c8 (w4 (d8 (b9 Bi (Bm (c:=true)) (d8 (i6 (a5 (qv .V 6) a7))) a8))) Qq Qq Qq Qq Qq Qq) a7))) Qq) Qq)))) Qq Qz) (b8 (e9 (x5 (qv .C 7) (b9 M3 X0 (qv .B 4) a8))))))))))),
  aM (n:=3) (Nl:=["_law_parts_here","_law_many","_law_script","_law_cell_here","_law_kind","_law_at","_law_text","_law_some"]) h⟩
def fo {mg:Jz}(D:Def K mg "_law_refused" O8 ["_law_thing"] f fd) (B:Blt mg) (C:Cst mg) (O:Def K mg "read" cB ["text"] fread fdread) (a3:FnOk P w K mg base (CXW P w) 6 fread fdread ["text"] (spR K 1 .V (u8))) (I:Xf K mg c_MoorError c_NoMoor c_NoName c_NoRow c_NoText c_Stuck):FnOk P w K mg base CX0 7 f fd ["_law_thing"] (spM K 1 .F (C0)):=by
 refine D.F.ok B9 (λvs H Q E h=>h.1) (λcdv A outer s H vs Q E hr h=>?_);show ⟨tSt K (λ_ _=>False) .F S3,(b7 (@v9 _ _ _ _ _ _ _ 1 _ _ B9.nd rfl Qz dj Qq Qz) (b7 (@v9 _ _ _ _ _ _ _ 2 _ _ B9.nd rfl Qz dj Qq Qz) (b7 (@om _ _ _ _ _ _ _ _ _ _ _ _ _ _ _ 3 _ _ _ _ _ _ _ _ _ _ _ _ _ _ _ B9.nd a3 Qz Qq O.m O.F.kp O.b (a5 (qv .B 0) a7) rfl Qq I.m_NoText I.ns_NoText I.ex_NoText (λe E=>(b7 (@v9 _ _ _ _ _ _ _ 1 _ _ B9.nd rfl Qz (dO (@B3 _ _ _ _ _ _ _ _ _ _ _ _ _ _ (gx I.is I.ki_MoorError) (vD I.ns_NoText I.ns_MoorError) Qq B.isinstance_ qG9 (a5 (qv .B 3) (a5 (@uX _ _ _ _ _ _ Qq I.m_MoorError I.ns_MoorError Qy) a7)) Qy Qy Qq Qq) (gJ (@B3 _ _ _ _ _ _ _ _ _ _ _ _ _ _ (qu I.is I.kt_ValueError) (EC I.ns_NoText) Qq B.isinstance_ qG9 (a5 (qv .B 3) (a5 (@AD _ _ _ _ _ _ _ Qq B.ValueError_ PyProof.Rows.Boot.«ValueError» Qy Qy) a7)) Qy Qy Qq Qq))) Qq Qz) (b8 (@n3 _ _ _ _ _ _ _ 2 _ _ B9.nd rfl Qz (@B3 _ _ _ _ _ _ _ _ _ _ _ _ _ _ (qw I.is) (ED I.ns_NoText (cN I.ns_NoMoor I.ki_NoMoor (cN I.ns_NoName I.ki_NoName (cN I.ns_NoRow I.ki_NoRow (cN I.ns_Stuck I.ki_Stuck CJ))))) Qq B.isinstance_ qG9 (a5 (qv .B 3) (a5 (t6 (AE (a5 (@dM _ _ _ _ _ _ Qq I.m_NoMoor I.ns_NoMoor Qy) (a5 (@dM _ _ _ _ _ _ Qq I.m_NoName I.ns_NoName Qy) (a5 (@dM _ _ _ _ _ _ Qq I.m_NoRow I.ns_NoRow Qy) (a5 (@dM _ _ _ _ _ _ Qq I.m_Stuck I.ns_Stuck Qy) a7)))))) a7)) Qy Qy Qq Qq) Qq Qz)))) Qq Qq Qq Qq Qq Qy Qq Qq Qq Qy) (b8 (e9 (dO (qv .B 1) (gJ (FL (qv .B 2))))))))),
  E5 (n:=1) (Nl:=["_law_thing","_law_right","_law_other","e"]) (.inl rfl) h⟩
def aj {mg:Jz}(D:Def K mg "_law_refused_by_base" A7 ["_law_thing"] f fd) (B:Blt mg) (C:Cst mg) (I:Def K mg "read" cB ["text"] fread fdread) (a3:FnOk P w K mg base (CXW P w) 6 fread fdread ["text"] (spR K 1 .V (u8))) (O:Xf K mg c_MoorError c_NoMoor c_NoName c_NoRow c_NoText c_Stuck):FnOk P w K mg base CX0 7 f fd ["_law_thing"] (spM K 1 .F (u5)):=by
 refine D.F.ok y4 (λvs H Q E h=>h.1) (λcdv A outer s H vs Q E hr h=>?_);show ⟨tSt K (λ_ _=>False) .F E7,(b7 (@v9 _ _ _ _ _ _ _ 1 _ _ y4.nd rfl Qz dj Qq Qz) (b7 (@om _ _ _ _ _ _ _ _ _ _ _ _ _ _ _ 2 _ _ _ _ _ _ _ _ _ _ _ _ _ _ _ y4.nd a3 Qz Qq I.m I.F.kp I.b (a5 (qv .B 0) a7) rfl Qq O.m_MoorError O.ns_NoText O.ex_MoorError (λe E=>(b8 (@n3 _ _ _ _ _ _ _ 1 _ _ y4.nd rfl Qz (@B3 _ _ _ _ _ _ _ _ _ _ _ _ _ _ (gx O.is O.ki_NoText) (vD O.ns_NoText O.ns_NoText) Qq B.isinstance_ qG9 (a5 (qv .B 2) (a5 (@uX _ _ _ _ _ _ Qq O.m_NoText O.ns_NoText Qy) a7)) Qy Qy Qq Qq) Qq Qz))) Qq Qq Qq Qq Qq Qy Qq Qq Qq Qy) (b8 (@X5 _ _ _ _ _ 1 _ _ (.inl rfl) Qq Qz Qy Qy)))),
  E5 (n:=1) (Nl:=["_law_thing","_law_refused_here","e"]) (.inl rfl) h⟩
def iK {mg:Jz}(D:Def K mg "_law_reads" T9 ["_law_text","_law_places","_law_names_here","_law_begin"] f fd) (B:Blt mg) (C:Cst mg) (I:Def K mg "read" cB ["text"] fread fdread) (O:FnOk P w K mg base (CXW P w) 6 fread fdread ["text"] (spR K 1 .V (u8))):FnOk P w K mg base CX0 7 f fd ["_law_text","_law_places","_law_names_here","_law_begin"] (spM K 4 .F (J2)):=by
 refine D.F.ok bK (λvs H Q E h=>h.1) (λcdv A outer s H vs Q E hr h=>?_);show ⟨tSt K (λ_ _=>False) .F X8,(b7 (@v9 _ _ _ _ _ _ _ 4 _ _ bK.nd rfl Qz (@wG _ _ _ _ _ _ _ _ _ _ _ _ _ _ _ _ _ O (.inr rfl) Qz Qq I.m I.F.kp I.b (a5 (qv .B 0) a7) Qy Qq Qq) Qq Qz) (b8 (e9 (dO (@dL _ _ _ _ _ _ _ _ _ _ _ _ _ (iG (aq hr)) (dR (neg:=false)) (t6 (j0 (t6 (j0 (qv .B 4) a8)) a8)) (qv .B 3) Qz) (dO (@dL _ _ _ _ _ _ _ _ _ _ _ _ _ (iG (aq hr)) (dR (neg:=false)) (t6 (j0 (qv .B 4) a8)) (qv .B 1) Qz) (gJ (@dL _ _ _ _ _ _ _ _ _ _ _ _ _ (iG (aq hr)) (dR (neg:=false)) (t6 (j0 (qv .B 4) a8)) (qv .B 2) Qz))))))),
  E5 (n:=4) (Nl:=["_law_text","_law_places","_law_names_here","_law_begin","_law_found"]) (.inl rfl) h⟩
def FZ {mg:Jz}(D:Def K mg "law" ag ["_law_script"] f fd) (B:Blt mg) (C:Cst mg) (ae:Def K mg "_law_names" U1 ["_law_cell_here","_law_many"] f_law_names fd_law_names) (bf:FnOk P w K mg base CX0 2 f_law_names fd_law_names ["_law_cell_here","_law_many"] (spM K 2 .F (C4))) (b5:Def K mg "_law_parts" U0 ["_law_script","_law_places","_law_names_here"] f_law_parts fd_law_parts) (c3:FnOk P w K mg base CX0 2 f_law_parts fd_law_parts ["_law_script","_law_places","_law_names_here"] (spM K 3 .V (J3))) (b3:Def K mg "_law_faulty" C2 ["_law_parts_here","_law_many","_law_script"] f_law_faulty fd_law_faulty) (c2:FnOk P w K mg base CX0 4 f_law_faulty fd_law_faulty ["_law_parts_here","_law_many","_law_script"] (spX K 3 (L0))) (a4:Def K mg "_law_reads" T9 ["_law_text","_law_places","_law_names_here","_law_begin"] f_law_reads fd_law_reads) (c1:FnOk P w K mg base CX0 7 f_law_reads fd_law_reads ["_law_text","_law_places","_law_names_here","_law_begin"] (spM K 4 .F (J2))) (I:Def K mg "_law_cell" N2 ["_law_script","_law_k"] f_law_cell fd_law_cell) (b0:FnOk P w K mg base CX0 1 f_law_cell fd_law_cell ["_law_script","_law_k"] (spM K 2 .F (j9))) (O:Def K mg "_law_refused" O8 ["_law_thing"] f_law_refused fd_law_refused) (bc:FnOk P w K mg base CX0 7 f_law_refused fd_law_refused ["_law_thing"] (spM K 1 .F (C0))) (a3:Def K mg "_law_refused_by_base" A7 ["_law_thing"] f_law_refused_by_base fd_law_refused_by_base) (b4:FnOk P w K mg base CX0 7 f_law_refused_by_base fd_law_refused_by_base ["_law_thing"] (spM K 1 .F (u5))):FnOk P w K mg base CX0 8 f fd ["_law_script"] (spM K 1 .F (eA)):=by
 refine D.F.ok V7 (λvs H Q E h=>h.1) (λcdv A outer s H vs Q E hr h=>?_);show ⟨tSt K (λ_ _=>False) .F mI,(b7 (@v9 _ _ _ _ _ _ _ 1 _ _ V7.nd rfl Qz (b9 x8 L4 a8 (b9 y9 (n9 (C:=o7) (g:=r0) (λ_ _=>rfl) (λ_ _ _=>.int)) (w4 (d8 (@k6 _ _ _ _ _ _ _ _ _ _ _ _ _ _ _ _ b0 (.inl rfl) Qz Qq I.m I.F.kp I.b (a5 (qv .B 0) (E3 a7)) Qy Qq Qq))) a8)) Qq Qz) (b7 (@n3 _ _ _ _ _ _ _ 2 _ _ V7.nd rfl Qz (@k6 _ _ _ _ _ _ _ _ _ _ _ _ _ _ _ _ bf (.inl rfl) Qz Qq ae.m ae.F.kp ae.b (a5 (w4 (d8 (@k6 _ _ _ _ _ _ _ _ _ _ _ _ _ _ _ _ b0 (.inl rfl) Qz Qq I.m I.F.kp I.b (a5 (qv .B 0) (E3 a7)) Qy Qq Qq))) (a5 (qv .B 1) a7)) Qy Qq Qq) Qq Qz) (b7 (@n3 _ _ _ _ _ _ _ 3 _ _ V7.nd rfl Qz (@k6 _ _ _ _ _ _ _ _ _ _ _ _ _ _ _ _ bf (.inl rfl) Qz Qq ae.m ae.F.kp ae.b (a5 (w4 (d8 (@k6 _ _ _ _ _ _ _ _ _ _ _ _ _ _ _ _ b0 (.inl rfl) Qz Qq I.m I.F.kp I.b (a5 (qv .B 0) (E3 a7)) Qy Qq Qq))) (a5 (b9 x8 L4 a8 (b9 y9 (n9 (C:=o7) (g:=r0) (λ_ _=>rfl) (λ_ _ _=>.int)) (w4 (d8 (@k6 _ _ _ _ _ _ _ _ _ _ _ _ _ _ _ _ b0 (.inl rfl) Qz Qq I.m I.F.kp I.b (a5 (qv .B 0) (E3 a7)) Qy Qq Qq))) a8)) a7)) Qy Qq Qq) Qq Qz) (b7 (@v9 _ _ _ _ _ _ _ 4 _ _ V7.nd rfl Qz (@k6 _ _ _ _ _ _ _ _ _ _ _ _ _ _ _ _ c3 (.inr rfl) Qz Qq b5.m b5.F.kp b5.b (a5 (qv .B 0) (a5 (qv .B 2) (a5 (qv .B 3) a7))) Qy Qq Qq) Qq Qz) (b7 (@n3 _ _ _ _ _ _ _ 5 _ _ V7.nd rfl Qz (@bT _ _ _ _ _ _ _ _ _ _ _ _ _ _ vH (vE (c:=true)) Qq B.tuple_ dz (a5 (d8 (R9 (show l6 (c7 ag) _ ["_law_script","_law_many","_law_places","_law_names_here","_law_parts_here","_law_begin","_law_text","_law_faulty_here","_law_thing"] ["_law_script","_law_many","_law_places","_law_names_here","_law_parts_here","_law_begin","_law_text","_law_faulty_here","_law_thing","_law_words"] from Qz) rfl (@bR _ _ _ _ _ _ (w4 (d8 (@v6 _ _ _ _ _ _ true _ _ _ _ _ (qv .C 4) o6 (j3 (qv .B 1)) Qq))) Qq) (λ_ _ _ _=>(@n6 _ _ 9 _ (by decide +kernel:(["_law_script","_law_many","_law_places","_law_names_here","_law_parts_here","_law_begin","_law_text","_law_faulty_here","_law_thing","_law_words"]:Jk).Nodup) rfl (Or.inl rfl) (.inr rfl))) J0 (N4 (show 9<=9 by decide)) (λ_ _ _ _=>Q6) (λ_ _ _ _=>(@bT _ _ _ _ _ _ _ _ _ _ _ _ _ _ gy qK Qq B.int_ qE (a5 (t6 (j0 (qv .B 9) a8)) a7) Qy Qy Qq Qq)))) a7) Qy Qy Qq Qq) Qq Qz) (b7 (@n3 _ _ _ _ _ _ _ 6 _ _ V7.nd rfl Qz (@Q7 _ _ _ _ _ _ _ _ _ _ c8 (w4 (d8 (R9 (show l6 (c7 ag) _ ["_law_script","_law_many","_law_places","_law_names_here","_law_parts_here","_law_begin","_law_text","_law_faulty_here","_law_thing"] ["_law_script","_law_many","_law_places","_law_names_here","_law_parts_here","_law_begin","_law_text","_law_faulty_here","_law_thing","_law_words"] from Qz) rfl (@bR _ _ _ _ _ _ (qv .B 4) Qq) (λ_ _ _ _=>(@n6 _ _ 9 _ (by decide +kernel:(["_law_script","_law_many","_law_places","_law_names_here","_law_parts_here","_law_begin","_law_text","_law_faulty_here","_law_thing","_law_words"]:Jk).Nodup) rfl (Or.inl rfl) (.inr rfl))) J0 (N4 (show 9<=9 by decide)) (λ_ _ _ _=>Q6) (λ_ _ _ _=>(@Q7 _ _ _ _ _ _ _ _ _ _ c8 (qv .B 9) Qq Qq Qq Qq Qq Qq))))) Qq Qq Qq Qq Qq Qq) Qq Qz) (b7 (g5 (V0 (@bb _ _ _ _ _ (w4 (d8 (@k6 _ _ _ _ _ _ _ _ _ _ _ _ _ _ _ _ c1 (.inl rfl) Qz Qq a4.m a4.F.kp a4.b (a5 (qv .B 6) (a5 (qv .B 2) (a5 (qv .B 3) (a5 (qv .B 5) a7)))) Qy Qq Qq))) (by intro _;rfl))) (b8 (e9 dj)) g9) (b7 (@n3 _ _ _ _ _ _ _ 7 _ _ V7.nd rfl Qz (@si _ _ _ _ _ _ _ _ _ _ _ _ _ _ _ _ c2 Qz Qq b3.m b3.F.kp b3.b (a5 (qv .B 4) (a5 (qv .B 1) (a5 (qv .B 0) a7))) Qy Qq Qq) Qq Qz) (b7 (g5 (PW.pt (bd (V0 (@bb _ _ _ _ _ (w4 (d8 (@k6 _ _ _ _ _ _ _ _ _ _ _ _ _ _ _ _ bc (.inl rfl) Qz Qq O.m O.F.kp O.b (a5 (qv .B 7) a7) Qy Qq Qq))) (by intro _;rfl))) (X4 (V0 (@bb _ _ _ _ _ (w4 (d8 (@k6 _ _ _ _ _ _ _ _ _ _ _ _ _ _ _ _ b4 (.inl rfl) Qz Qq a3.m a3.F.kp a3.b (a5 (qv .B 7) a7) Qy Qq Qq))) (by intro _;rfl)))))) (b8 (e9 dj)) g9) (b7 (@U3 _ _ _ _ _ _ _ _ _ _ _ _ _ qH2 rfl (@iu _ _ _ _ _ _ (iw (i0 (i6 (a5 cF (E3 (a5 (i0 (i6 (a5 (qv .V 6) a7))) (a5 dj a7))))))) Qq) (@n6 _ _ 8 _ V7.nd rfl Qz Qz) J0 (b8 (g5 (V0 (@bb _ _ _ _ _ (w4 (d8 (@k6 _ _ _ _ _ _ _ _ _ _ _ _ _ _ _ _ bc (.inl rfl) Qz Qq O.m O.F.kp O.b (a5 (qv .B 8) a7) Qy Qq Qq))) (by intro _;rfl))) (b8 (e9 dj)) g9)) (by intro _;rfl)) (b8 (e9 (@k6 _ _ _ _ _ _ _ _ _ _ _ _ _ _ _ _ c1 (.inl rfl) Qz Qq a4.m a4.F.kp a4.b (a5 (qv .B 6) (a5 (qv .B 2) (a5 (qv .B 3) (a5 (qv .B 5) a7)))) Qy Qq Qq))))))))))))),
  E5 (n:=1) (Nl:=["_law_script","_law_many","_law_places","_law_names_here","_law_parts_here","_law_begin","_law_text","_law_faulty_here","_law_thing"]) (.inl rfl) h⟩
def us0 {P:List Value->Prop}(h:P []):∀us:List Value,us.length=0->P us:=λus e=>by
 rw[qN8.mp e];show h
def us1 {P:List Value->Prop}(h:∀a0,P [a0]):∀us:List Value,us.length=1->P us:=λus e=>by
 cases us with
 |nil=>cases e
 |cons a us=>show us0 (P:=λus=>P (a::us)) (h a) us (Nat.succ.inj e)
def us2 {P:List Value->Prop}(h:∀a0 I,P [a0,I]):∀us:List Value,us.length=2->P us:=λus e=>by
 cases us with
 |nil=>cases e
 |cons a us=>show us1 (P:=λus=>P (a::us)) (λI=>h a I) us (Nat.succ.inj e)
def us3 {P:List Value->Prop}(h:∀a0 O I,P [a0,O,I]):∀us:List Value,us.length=3->P us:=λus e=>by
 cases us with
 |nil=>cases e
 |cons a us=>show us2 (P:=λus=>P (a::us)) (λO I=>h a O I) us (Nat.succ.inj e)
def us4 {P:List Value->Prop}(h:∀a0 O I a3,P [a0,O,I,a3]):∀us:List Value,us.length=4->P us:=λus e=>by
 cases us with
 |nil=>cases e
 |cons a us=>show us3 (P:=λus=>P (a::us)) (λO I a3=>h a O I a3) us (Nat.succ.inj e)
def Pk (K:Frag)(nm:Str)(st:Stmt)(f:Addr):Prop:=∃(oc:Value)(od an:Option Addr)(sl:Array (Option Value))(kV I pm cd ct:Value),PySem.W.nsIn K mainGlobals nm=some (some (.ref f))/\K.lookup f=some ⟨oc,od,.func (PySem.W.fnOf nm nm (N5 st) (J4 st) (c7 st) .none kV I pm an cd ct),sl⟩/\PySem.W.codeIn K cd nm=true/\PySem.W.keepIn K (.ref f)=true
def pk_mk {kV:Value}(a:PySem.W.nsIn K mainGlobals nm=some (some (.ref f)))(l:K.lookup f=some ⟨oc,od,.func (PySem.W.fnOf nm nm (N5 st) (J4 st) (c7 st) .none kV dc pm an cd ct),sl⟩)(c:PySem.W.codeIn K cd nm=true)(k:PySem.W.keepIn K (.ref f)=true):Pk K nm st f:=⟨_,_,_,_,_,_,_,_,_,a,l,c,k⟩
def o0 {mg:Jz}(ps:Jk) (X:K.In h) (G:h.Ns mainGlobals mg) (p:Pk K nm st f) (I:∀(kV doc pm:Value) (an:Option Addr) (cdv ct:Value) (us:Jw),us.length=ps.length->bindArgs (PySem.W.fnOf nm nm (N5 st) (J4 st) (c7 st) .none kV doc pm an cdv ct) ⟨us,[]⟩=pure (ps.zip us)):∃fd,Def K mg nm st ps f fd:=by
 obtain ⟨oc,od,an,sl,kV,O,pm,cd,ct,a,l,c,k⟩:=p;have F:=pY (st:=st) l c k;show ⟨_,F,qF4 X G a,F.binds I⟩
def spLaw (K:Frag):Sp:=λvs H Q _=>∃(a:Addr)(ns:JQ),vs = [.ref a]/\SqL K H a (ns.map V.int)/\ns.length<=63/\(∀x∈ns,Builtin.Int.intBits x<=1048576)/\∀H',Q (.bl true) H'
def all_mk (hp:∀ns:List Int,ns.length<=63->(∀x∈ns,Builtin.Int.intBits x<=1048576)->eA [.scr (ns.map W.int)]=.ok (.bl true)){l:PySem.W.OpenLaw}{mg:Jz}(X:K.In h) (G:h.Ns mainGlobals mg) (ec:mg "law" = some (.ref fa)){f2:Addr}(p0:Pk K "read" cB f0) (p1:Pk K "read_place" T8 f1) (p2:Pk K "read_move" V6 f2) (p3:Pk K "place_of_puts" M8 f3) (p4:Pk K "read_counts" M1 f4) (p5:Pk K "read_count" O2 f5) (p6:Pk K "count_of" Z5 f6) (p7:Pk K "must_be_new_name" B4 f7) (p8:Pk K "is_made_of" L1 f8) (p9:Pk K "_law_cell" N2 f9) (p10:Pk K "_law_letters" O9 f10) (p11:Pk K "_law_names" U1 f11) (p12:Pk K "_law_count" U2 f12) (p13:Pk K "_law_parts" U0 f13) (p14:Pk K "_law_with" N1 f14) (p15:Pk K "_law_a_count" K7 f15) (p16:Pk K "_law_renamed" O7 f16) (p17:Pk K "_law_fault_in_place" v8 f17) (p18:Pk K "_law_fault_in_name" C7 f18) (p19:Pk K "_law_fault_in_move" x6 f19) (p20:Pk K "_law_faulty" C2 f20) (p21:Pk K "_law_refused" O8 f21) (p22:Pk K "_law_refused_by_base" A7 f22) (p23:Pk K "_law_reads" T9 f23) (p24:Pk K "law" ag f24) (z0:PySem.W.nsIn K mainGlobals "ValueError" = some none) (z1:PySem.W.nsIn K mainGlobals "all" = some none) (z2:PySem.W.nsIn K mainGlobals "int" = some none) (z3:PySem.W.nsIn K mainGlobals "isinstance" = some none) (z4:PySem.W.nsIn K mainGlobals "len" = some none) (z5:PySem.W.nsIn K mainGlobals "list" = some none) (z6:PySem.W.nsIn K mainGlobals "range" = some none) (z7:PySem.W.nsIn K mainGlobals "str" = some none) (z8:PySem.W.nsIn K mainGlobals "tuple" = some none) (z9:PySem.W.nsIn K mainGlobals "zip" = some none) (cst0:PySem.W.nsIn K mainGlobals "GREATEST_COUNT" = some (some (.int 1000000000 t0))) (cst1:PySem.W.nsIn K mainGlobals "MOST_PLACES" = some (some (.int 6 t1))) (cst2:PySem.W.nsIn K mainGlobals "MOST_MOVES" = some (some (.int 8 t2))) (cst3:PySem.W.nsIn K mainGlobals "LONGEST_NAME" = some (some (.int 8 t3))) (cst4:PySem.W.nsIn K mainGlobals "FIGURES" = some (some (.str "0123456789" t4))) (cst5:PySem.W.nsIn K mainGlobals "LETTERS" = some (some (.str "abcdefghijklmnopqrstuvwxyz" t5))) (n_MoorError:PySem.W.nsIn K mainGlobals "MoorError" = some (some (.ref c_MoorError))) (n_NoMoor:PySem.W.nsIn K mainGlobals "NoMoor" = some (some (.ref c_NoMoor))) (n_NoName:PySem.W.nsIn K mainGlobals "NoName" = some (some (.ref c_NoName))) (n_NoRow:PySem.W.nsIn K mainGlobals "NoRow" = some (some (.ref c_NoRow))) (n_NoText:PySem.W.nsIn K mainGlobals "NoText" = some (some (.ref c_NoText))) (n_Stuck:PySem.W.nsIn K mainGlobals "Stuck" = some (some (.ref c_Stuck))) (xok0:fN K c_NoText/\XIs K c_NoText) (xnd:PySem.W.nsIn K mainGlobals ".d" = some none) (ex_MoorError:PySem.W.exmOne K (.ref c_NoText) (.ref c_MoorError)=some true) (ex_NoText:PySem.W.exmOne K (.ref c_NoText) (.ref c_NoText)=some true) (ki_MoorError:PySem.W.kitOne K (.ref c_NoText) (.ref c_MoorError)=some true) (ki_NoMoor:PySem.W.kitOne K (.ref c_NoText) (.ref c_NoMoor)=some false) (ki_NoName:PySem.W.kitOne K (.ref c_NoText) (.ref c_NoName)=some false) (ki_NoRow:PySem.W.kitOne K (.ref c_NoText) (.ref c_NoRow)=some false) (ki_NoText:PySem.W.kitOne K (.ref c_NoText) (.ref c_NoText)=some true) (ki_Stuck:PySem.W.kitOne K (.ref c_NoText) (.ref c_Stuck)=some false) (kt_ValueError:PySem.W.kitOne K (.ref c_NoText) (.type "ValueError")=some true):
  ∃fd:FuncData,(∀(s:Shared) (v:Value),BindsTo s fd ⟨[v],[]⟩ [("_law_script",v)])/\∀base:Heap,K.In base->base.Ns mainGlobals mg->FnOk l.prog w K mg base CX0 8 fa fd ["_law_script"] (spLaw K):=by
 obtain ⟨oc,od,an,sl,kV,dc,pm,cd,ct,a,l0,c,k⟩:=p24;have e:=ec.symm.trans (qF4 X G a);have e2:f24=fa:=by cases e;rfl
 subst e2;have B:Blt mg:=⟨qF8 X G z0,qF8 X G z1,qF8 X G z2,qF8 X G z3,qF8 X G z4,qF8 X G z5,qF8 X G z6,qF8 X G z7,qF8 X G z8,qF8 X G z9⟩;have C:Cst mg:=⟨⟨t0,qF4 X G cst0⟩,⟨t1,qF4 X G cst1⟩,⟨t2,qF4 X G cst2⟩,⟨t3,qF4 X G cst3⟩,⟨t4,qF4 X G cst4⟩,⟨t5,qF4 X G cst5⟩⟩;obtain ⟨fi,D0⟩:=o0 ["text"] X G p0 λ_ _ _ _ _ _=>us1 (λ_=>rfl);obtain ⟨gi,D1⟩:=o0 ["words","begin"] X G p1 λ_ _ _ _ _ _=>us2 (λ_ _=>rfl);obtain ⟨g4,D2⟩:=o0 ["words","begin","moves"] X G p2 λ_ _ _ _ _ _=>us3 (λ_ _ _=>rfl);obtain ⟨gn,D3⟩:=o0 ["words"] X G p3 λ_ _ _ _ _ _=>us1 (λ_=>rfl);obtain ⟨h1,D4⟩:=o0 ["words","begin"] X G p4 λ_ _ _ _ _ _=>us2 (λ_ _=>rfl);obtain ⟨ez,D5⟩:=o0 ["word","fewest"] X G p5 λ_ _ _ _ _ _=>us2 (λ_ _=>rfl);obtain ⟨gj,D6⟩:=o0 ["word"] X G p6 λ_ _ _ _ _ _=>us1 (λ_=>rfl);obtain ⟨gv,D7⟩:=o0 ["word","known"] X G p7 λ_ _ _ _ _ _=>us2 (λ_ _=>rfl);obtain ⟨gp,D8⟩:=o0 ["word","signs"] X G p8 λ_ _ _ _ _ _=>us2 (λ_ _=>rfl);obtain ⟨ff,D9⟩:=o0 ["_law_script","_law_k"] X G p9 λ_ _ _ _ _ _=>us2 (λ_ _=>rfl);obtain ⟨eu,c5⟩:=o0 ["_law_number","_law_size"] X G p10 λ_ _ _ _ _ _=>us2 (λ_ _=>rfl);obtain ⟨ep,b0⟩:=o0 ["_law_cell_here","_law_many"] X G p11 λ_ _ _ _ _ _=>us2 (λ_ _=>rfl);obtain ⟨ed,cn⟩:=o0 ["_law_cell_here"] X G p12 λ_ _ _ _ _ _=>us1 (λ_=>rfl);obtain ⟨ei,b5⟩:=o0 ["_law_script","_law_places","_law_names_here"] X G p13 λ_ _ _ _ _ _=>us3 (λ_ _ _=>rfl);obtain ⟨eo,I⟩:=o0 ["_law_parts_here","_law_at","_law_words"] X G p14 λ_ _ _ _ _ _=>us3 (λ_ _ _=>rfl);obtain ⟨en,a3⟩:=o0 ["_law_kind"] X G p15 λ_ _ _ _ _ _=>us1 (λ_=>rfl);obtain ⟨ew,c4⟩:=o0 ["_law_parts_here","_law_old","_law_new"] X G p16 λ_ _ _ _ _ _=>us3 (λ_ _ _=>rfl);obtain ⟨ey,c3⟩:=o0 ["_law_parts_here","_law_many","_law_kind","_law_at"] X G p17 λ_ _ _ _ _ _=>us4 (λ_ _ _ _=>rfl);obtain ⟨ej,cc⟩:=o0 ["_law_parts_here","_law_kind","_law_at"] X G p18 λ_ _ _ _ _ _=>us3 (λ_ _ _=>rfl);obtain ⟨er,c2⟩:=o0 ["_law_parts_here","_law_kind","_law_at"] X G p19 λ_ _ _ _ _ _=>us3 (λ_ _ _=>rfl);obtain ⟨et,ae⟩:=o0 ["_law_parts_here","_law_many","_law_script"] X G p20 λ_ _ _ _ _ _=>us3 (λ_ _ _=>rfl);obtain ⟨el,b3⟩:=o0 ["_law_thing"] X G p21 λ_ _ _ _ _ _=>us1 (λ_=>rfl);obtain ⟨ek,bc⟩:=o0 ["_law_thing"] X G p22 λ_ _ _ _ _ _=>us1 (λ_=>rfl);obtain ⟨ef,bf⟩:=o0 ["_law_text","_law_places","_law_names_here","_law_begin"] X G p23 λ_ _ _ _ _ _=>us4 (λ_ _ _ _=>rfl);have c1:=pY (st:=ag) l0 c k;have d3:Def K mg "law" ag ["_law_script"] f24 _:=⟨c1,qF4 X G a,c1.binds (ps:=["_law_script"]) λ_ _ _ _ _ _=>us1 (λ_=>rfl)⟩;have O:Xf K mg c_MoorError c_NoMoor c_NoName c_NoRow c_NoText c_Stuck:=⟨xok0.1,xok0.2,(λC z=>by rw[xnd]at z;cases z),n_MoorError,qF4 X G n_MoorError,n_NoMoor,qF4 X G n_NoMoor,n_NoName,qF4 X G n_NoName,n_NoRow,qF4 X G n_NoRow,n_NoText,qF4 X G n_NoText,n_Stuck,qF4 X G n_Stuck,ex_MoorError,ex_NoText,ki_MoorError,ki_NoMoor,ki_NoName,ki_NoRow,ki_NoText,ki_Stuck,kt_ValueError⟩;refine ⟨PySem.W.fnOf "law" "law" (N5 ag) (J4 ag) (c7 ag) .none kV dc pm an cd ct,λs v=>.of_eq rfl,λbase _ _=>?_⟩;have G3:FnOk l.prog w K mg base CX0 1 f3 _ ["words"] (spM K 1 .F (g7)):=dQ D3 B C ;have G8:FnOk l.prog w K mg base CX0 1 f8 _ ["word","signs"] (spM K 2 .F (r6)):=iJ D8 B C ;have G7:FnOk l.prog w K mg base (CXW l.prog w) 3 f7 _ ["word","known"] (spR K 2 .F (l5)):=bW D7 B C D8 G8 O;have G6:FnOk l.prog w K mg base CX0 2 f6 _ ["word"] (spM K 1 .F (K5)):=mB D6 B C D8 G8;have G5:FnOk l.prog w K mg base (CXW l.prog w) 3 f5 _ ["word","fewest"] (spR K 2 .F (t9)):=iI D5 B C D6 G6 O;have G4:FnOk l.prog w K mg base (CXW l.prog w) 4 f4 _ ["words","begin"] (spR K 2 .F (i9)):=gB D4 B C D5 G5 O;have G2:FnOk l.prog w K mg base (CXW l.prog w) 5 f2 _ ["words","begin","moves"] (X2 K 3 (i1)):=jL D2 B C D3 G3 D7 G7 D4 G4 O;have G1:FnOk l.prog w K mg base (CXW l.prog w) 4 f1 _ ["words","begin"] (X2 K 2 (n4)):=iH D1 B C D7 G7 D5 G5 O;have G0:FnOk l.prog w K mg base (CXW l.prog w) 6 f0 _ ["text"] (spR K 1 .V (u8)):=Bl D0 B C D2 G2 D1 G1 O;have G9:FnOk l.prog w K mg base CX0 1 f9 _ ["_law_script","_law_k"] (spM K 2 .F (j9)):=jN D9 B C ;have d0:FnOk l.prog w K mg base CX0 1 f10 _ ["_law_number","_law_size"] (spM K 2 .F (u9)):=fq c5 B C 
 have cp:FnOk l.prog w K mg base CX0 2 f11 _ ["_law_cell_here","_law_many"] (spM K 2 .F (C4)):=iM b0 B C c5 d0;have dt:FnOk l.prog w K mg base CX0 1 f12 _ ["_law_cell_here"] (spM K 1 .F (C5)):=iN cn B C ;have ea:FnOk l.prog w K mg base CX0 2 f13 _ ["_law_script","_law_places","_law_names_here"] (spM K 3 .V (J3)):=iL b5 B C cn dt D9 G9;have a4:FnOk l.prog w K mg base CX0 1 f14 _ ["_law_parts_here","_law_at","_law_words"] (spX K 3 (d4)):=jM I B C ;have b4:FnOk l.prog w K mg base CX0 1 f15 _ ["_law_kind"] (spM K 1 .F (y0)):=ft a3 B C ;have e5:FnOk l.prog w K mg base CX0 1 f16 _ ["_law_parts_here","_law_old","_law_new"] (spM K 3 .F (r9)):=fm c4 B C ;have e3:FnOk l.prog w K mg base CX0 2 f17 _ ["_law_parts_here","_law_many","_law_kind","_law_at"] (spX K 4 (v5)):=aG c3 B C I a4 c4 e5 a3 b4;have da:FnOk l.prog w K mg base CX0 2 f18 _ ["_law_parts_here","_law_kind","_law_at"] (spX K 3 (w6)):=bi cc B C I a4;have e4:FnOk l.prog w K mg base CX0 3 f19 _ ["_law_parts_here","_law_kind","_law_at"] (spX K 3 (m5)):=bj c2 B C I a4 cc da a3 b4;have e6:FnOk l.prog w K mg base CX0 4 f20 _ ["_law_parts_here","_law_many","_law_script"] (spX K 3 (L0)):=gC ae B C D9 G9 c3 e3 c2 e4;have e1:FnOk l.prog w K mg base CX0 7 f21 _ ["_law_thing"] (spM K 1 .F (C0)):=fo b3 B C D0 G0 O;have dm:FnOk l.prog w K mg base CX0 7 f22 _ ["_law_thing"] (spM K 1 .F (u5)):=aj bc B C D0 G0 O;have eb:FnOk l.prog w K mg base CX0 7 f23 _ ["_law_text","_law_places","_law_names_here","_law_begin"] (spM K 4 .F (J2)):=iK bf B C D0 G0;have cv:FnOk l.prog w K mg base CX0 8 f24 _ ["_law_script"] (spM K 1 .F (eA)):=FZ d3 B C b0 cp b5 ea ae e6 bf eb D9 G9 b3 e1 bc dm;show xA cv hp
end K91
open PySem PySem.W PyProof.Rows
namespace K91
open L2
abbrev hxS (s:String)(t:Nat):Value:=.str (Str.ofString s) t
abbrev hxI (i:Int):Value:=.int i 0
abbrev hxO (c:String)(d:Data):Obj:=⟨.type c,none,d,#[]⟩
abbrev hxE (P:Params)(s:String)(t:Nat)(v:Value):DictEntry:=⟨PyData.keyHash P (Str.ofString s),.str (Str.ofString s) t,v⟩
abbrev hxF (n q:String)(st:Stmt)(I kV doc pm:Value)(an:Option Addr)(cd ct:Value):Data:=.func (PySem.W.fnOf (Str.ofString n) (Str.ofString q) (N5 st) (J4 st) (c7 st) I kV doc pm an cd ct)
abbrev hxG (n:String)(i:Nat)(pm:Value)(c:Nat):Obj:=hxO "function" (hxF n n (top i) .none .none .none pm none (.ref c) .none)
abbrev hxD (n:String)(t:Nat) (l a:Int)(r8:Nat)(b0:Nat)(a3 a4:Value)(ae:Nat) (I:Int)(O:Nat):Data:=.fields #[.str (Str.ofString n) t,.str (Str.ofString n) (t+1),.str (Str.ofString "/claim/cut.py") (t+2),hxI l,hxI a,hxI 0,hxI 0,hxI 3,.ref r8,.bool true,hxI 181,.ref b0,.none,a3,a4,.ref ae,hxI I,hxI l,.str (Str.ofString "/claim/cut.py") O]
abbrev O0:Value:=hxS "law_tokenmoor_k91_no_text_of_a_moor" 385
abbrev br:Value:=hxS "tokenmoor.texts" 302
@[irreducible] def CI:Params->Frag:=λP=>
 (nat_lit 2,⟨.none,none,(.dict #[] 0),#[]⟩) ::
 (nat_lit 3,hxO "dict" (.dict #[hxE P "__name__" 165 (hxS "law_tokenmoor_k91_no_text_of_a_moor" 385),hxE P "__doc__" 166 .none,hxE P "__package__" 167 .none,hxE P "__loader__" 168 (.builtin "__main__.__loader__#opaque"),hxE P "__spec__" 169 .none,hxE P "__annotations__" 170 (.ref 6),hxE P "__builtins__" 171 (.ref 4),hxE P "__file__" 173 (hxS "/claim/cut.py" 172),hxE P "__cached__" 174 .none,hxE P "MoorError" 206 (.ref 24),hxE P "NoMoor" 222 (.ref 37),hxE P "Stuck" 247 (.ref 56),hxE P "NoText" 263 (.ref 68),hxE P "NoName" 279 (.ref 80),hxE P "NoRow" 295 (.ref 92),hxE P "GREATEST_COUNT" 297 (.int 1000000000 296),hxE P "MOST_PLACES" 299 (.int 6 298),hxE P "MOST_MOVES" 301 (.int 8 300),hxE P "FIGURES" 305 (hxS "0123456789" 304),hxE P "LETTERS" 307 (hxS "abcdefghijklmnopqrstuvwxyz" 306),hxE P "LONGEST_NAME" 309 (.int 8 308),hxE P "read" 321 (.ref 101),hxE P "read_place" 329 (.ref 108),hxE P "read_move" 339 (.ref 115),hxE P "place_of_puts" 347 (.ref 122),hxE P "read_counts" 353 (.ref 127),hxE P "read_count" 362 (.ref 134),hxE P "count_of" 370 (.ref 141),hxE P "must_be_new_name" 378 (.ref 148),hxE P "is_made_of" 384 (.ref 153),hxE P "_law_cell" 395 (.ref 160),hxE P "_law_letters" 405 (.ref 167),hxE P "_law_names" 418 (.ref 174),hxE P "_law_count" 425 (.ref 181),hxE P "_law_parts" 438 (.ref 188),hxE P "_law_with" 447 (.ref 195),hxE P "_law_a_count" 455 (.ref 202),hxE P "_law_renamed" 467 (.ref 209),hxE P "_law_fault_in_place" 473 (.ref 214),hxE P "_law_fault_in_name" 484 (.ref 221),hxE P "_law_fault_in_move" 490 (.ref 226),hxE P "_law_faulty" 496 (.ref 231),hxE P "_law_refused" 506 (.ref 238),hxE P "_law_refused_by_base" 515 (.ref 245),hxE P "_law_reads" 526 (.ref 252),hxE P "law" 532 (.ref 257)] 46)) ::
 (nat_lit 15,hxO "tuple" (.seq #[(.type "ValueError")] 0)) ::
 (nat_lit 22,hxO "tuple" (.seq #[] 0)) ::
 (nat_lit 23,hxO "dict" (.dict #[hxE P "__module__" 196 (hxS "tokenmoor.errors" 187),hxE P "__firstlineno__" 200 (.int 2 199),hxE P "__static_attributes__" 201 (.ref 22),hxE P "__weakref__" 203 (.ref 25),hxE P "__doc__" 204 .none] 3)) ::
 (nat_lit 24,⟨(.type "type"),none,(.cls { name := "MoorError",bases:=[(.type "ValueError")],mro:=[(.ref 24),(.type "ValueError"),(.type "Exception"),(.type "BaseException"),(.type "object")],ns:=23,qualname := "MoorError",hasDict:=true,slotNames:=[],subclasses:=[(.ref 37),(.ref 56),(.ref 68),(.ref 80),(.ref 92)],abstract:=false,collection:=none,hasDel:=false }),#[(some (.ref 15)),none,(some (hxS "MoorError" 189)),(some (hxS "MoorError" 197)),(some (.builtin "ValueError.__new__")),(some (.bool true))]⟩) ::
 (nat_lit 25,hxO "getset_descriptor" (.fields #[(hxS "__weakref__" 202),(.ref 24),(.builtin "ExceptionGroup.__weakref__"),.none])) ::
 (nat_lit 28,hxO "tuple" (.seq #[(.ref 24)] 0)) ::
 (nat_lit 35,hxO "tuple" (.seq #[] 0)) ::
 (nat_lit 36,hxO "dict" (.dict #[hxE P "__module__" 214 (hxS "tokenmoor.errors" 187),hxE P "__firstlineno__" 218 (.int 4 217),hxE P "__static_attributes__" 219 (.ref 35),hxE P "__doc__" 220 .none] 2)) ::
 (nat_lit 37,⟨(.type "type"),none,(.cls { name := "NoMoor",bases:=[(.ref 24)],mro:=[(.ref 37),(.ref 24),(.type "ValueError"),(.type "Exception"),(.type "BaseException"),(.type "object")],ns:=36,qualname := "NoMoor",hasDict:=true,slotNames:=[],subclasses:=[],abstract:=false,collection:=none,hasDel:=false }),#[(some (.ref 28)),none,(some (hxS "NoMoor" 207)),(some (hxS "NoMoor" 215)),(some (.builtin "ValueError.__new__")),(some (.bool true))]⟩) ::
 (nat_lit 40,hxO "tuple" (.seq #[(.ref 24)] 0)) ::
 (nat_lit 52,hxO "code" (.fields #[(hxS "__init__" 235),(hxS "Stuck.__init__" 236),(hxS "/claim/cut.py" 237),(hxI 8),(hxI 2),(hxI 0),(hxI 0),(hxI 3),(.ref 47),(.bool true),(hxI 181),(.ref 48),.none,(.ref 49),(.ref 50),(.ref 51),(hxI 240),(hxI 8),(hxS "/claim/cut.py" 241)])) ::
 (nat_lit 53,hxO "function" (hxF "__init__" "Stuck.__init__" (uh (top 3)) .none .none .none (hxS "tokenmoor.errors" 187) none (.ref 52) .none)) ::
 (nat_lit 54,hxO "tuple" (.seq #[(hxS "at" 243)] 0)) ::
 (nat_lit 55,hxO "dict" (.dict #[hxE P "__module__" 230 (hxS "tokenmoor.errors" 187),hxE P "__firstlineno__" 234 (.int 6 233),hxE P "__init__" 242 (.ref 53),hxE P "__static_attributes__" 244 (.ref 54),hxE P "__doc__" 245 .none] 2)) ::
 (nat_lit 56,⟨(.type "type"),none,(.cls { name := "Stuck",bases:=[(.ref 24)],mro:=[(.ref 56),(.ref 24),(.type "ValueError"),(.type "Exception"),(.type "BaseException"),(.type "object")],ns:=55,qualname := "Stuck",hasDict:=true,slotNames:=[],subclasses:=[],abstract:=false,collection:=none,hasDel:=false }),#[(some (.ref 40)),none,(some (hxS "Stuck" 223)),(some (hxS "Stuck" 231)),(some (.builtin "ValueError.__new__")),(some (.bool true))]⟩) ::
 (nat_lit 59,hxO "tuple" (.seq #[(.ref 24)] 0)) ::
 (nat_lit 66,hxO "tuple" (.seq #[] 0)) ::
 (nat_lit 67,hxO "dict" (.dict #[hxE P "__module__" 255 (hxS "tokenmoor.errors" 187),hxE P "__firstlineno__" 259 (.int 10 258),hxE P "__static_attributes__" 260 (.ref 66),hxE P "__doc__" 261 .none] 2)) ::
 (nat_lit 68,⟨(.type "type"),none,(.cls { name := "NoText",bases:=[(.ref 24)],mro:=[(.ref 68),(.ref 24),(.type "ValueError"),(.type "Exception"),(.type "BaseException"),(.type "object")],ns:=67,qualname := "NoText",hasDict:=true,slotNames:=[],subclasses:=[],abstract:=false,collection:=none,hasDel:=false }),#[(some (.ref 59)),none,(some (hxS "NoText" 248)),(some (hxS "NoText" 256)),(some (.builtin "ValueError.__new__")),(some (.bool true))]⟩) ::
 (nat_lit 71,hxO "tuple" (.seq #[(.ref 24)] 0)) ::
 (nat_lit 78,hxO "tuple" (.seq #[] 0)) ::
 (nat_lit 79,hxO "dict" (.dict #[hxE P "__module__" 271 (hxS "tokenmoor.errors" 187),hxE P "__firstlineno__" 275 (.int 12 274),hxE P "__static_attributes__" 276 (.ref 78),hxE P "__doc__" 277 .none] 2)) ::
 (nat_lit 80,⟨(.type "type"),none,(.cls { name := "NoName",bases:=[(.ref 24)],mro:=[(.ref 80),(.ref 24),(.type "ValueError"),(.type "Exception"),(.type "BaseException"),(.type "object")],ns:=79,qualname := "NoName",hasDict:=true,slotNames:=[],subclasses:=[],abstract:=false,collection:=none,hasDel:=false }),#[(some (.ref 71)),none,(some (hxS "NoName" 264)),(some (hxS "NoName" 272)),(some (.builtin "ValueError.__new__")),(some (.bool true))]⟩) ::
 (nat_lit 83,hxO "tuple" (.seq #[(.ref 24)] 0)) ::
 (nat_lit 90,hxO "tuple" (.seq #[] 0)) ::
 (nat_lit 91,hxO "dict" (.dict #[hxE P "__module__" 287 (hxS "tokenmoor.errors" 187),hxE P "__firstlineno__" 291 (.int 14 290),hxE P "__static_attributes__" 292 (.ref 90),hxE P "__doc__" 293 .none] 2)) ::
 (nat_lit 92,⟨(.type "type"),none,(.cls { name := "NoRow",bases:=[(.ref 24)],mro:=[(.ref 92),(.ref 24),(.type "ValueError"),(.type "Exception"),(.type "BaseException"),(.type "object")],ns:=91,qualname := "NoRow",hasDict:=true,slotNames:=[],subclasses:=[],abstract:=false,collection:=none,hasDel:=false }),#[(some (.ref 83)),none,(some (hxS "NoRow" 280)),(some (hxS "NoRow" 288)),(some (.builtin "ValueError.__new__")),(some (.bool true))]⟩) ::
 (nat_lit 100,hxO "code" (hxD "read" 310 23 1 95 96 (.ref 97) (.ref 98) 99 319 320)) ::
 (nat_lit 101,hxG "read" 14 br 100) ::
 (nat_lit 107,hxO "code" (hxD "read_place" 322 40 2 102 103 (.ref 104) (.ref 105) 106 327 328)) ::
 (nat_lit 108,hxG "read_place" 15 br 107) ::
 (nat_lit 114,hxO "code" (hxD "read_move" 330 45 3 109 110 (.ref 111) (.ref 112) 113 337 338)) ::
 (nat_lit 115,hxG "read_move" 16 br 114) ::
 (nat_lit 121,hxO "code" (hxD "place_of_puts" 340 51 1 116 117 (.ref 118) (.ref 119) 120 345 346)) ::
 (nat_lit 122,hxG "place_of_puts" 17 br 121) ::
 (nat_lit 126,hxO "code" (hxD "read_counts" 348 56 2 123 124 .none .none 125 351 352)) ::
 (nat_lit 127,hxG "read_counts" 18 br 126) ::
 (nat_lit 133,hxO "code" (hxD "read_count" 354 65 2 128 129 (.ref 130) (.ref 131) 132 360 361)) ::
 (nat_lit 134,hxG "read_count" 19 br 133) ::
 (nat_lit 140,hxO "code" (hxD "count_of" 363 70 1 135 136 (.ref 137) (.ref 138) 139 368 369)) ::
 (nat_lit 141,hxG "count_of" 20 br 140) ::
 (nat_lit 147,hxO "code" (hxD "must_be_new_name" 371 75 2 142 143 (.ref 144) (.ref 145) 146 376 377)) ::
 (nat_lit 148,hxG "must_be_new_name" 21 br 147) ::
 (nat_lit 152,hxO "code" (hxD "is_made_of" 379 80 2 149 150 .none .none 151 382 383)) ::
 (nat_lit 153,hxG "is_made_of" 22 br 152) ::
 (nat_lit 159,hxO "code" (hxD "_law_cell" 387 83 2 154 155 (.ref 156) (.ref 157) 158 393 394)) ::
 (nat_lit 160,hxG "_law_cell" 24 O0 159) ::
 (nat_lit 166,hxO "code" (hxD "_law_letters" 396 90 2 161 162 (.ref 163) (.ref 164) 165 403 404)) ::
 (nat_lit 167,hxG "_law_letters" 25 O0 166) ::
 (nat_lit 173,hxO "code" (hxD "_law_names" 406 96 2 168 169 (.ref 170) (.ref 171) 172 416 417)) ::
 (nat_lit 174,hxG "_law_names" 26 O0 173) ::
 (nat_lit 180,hxO "code" (hxD "_law_count" 419 104 1 175 176 (.ref 177) (.ref 178) 179 423 424)) ::
 (nat_lit 181,hxG "_law_count" 27 O0 180) ::
 (nat_lit 187,hxO "code" (hxD "_law_parts" 426 108 3 182 183 (.ref 184) (.ref 185) 186 436 437)) ::
 (nat_lit 188,hxG "_law_parts" 28 O0 187) ::
 (nat_lit 194,hxO "code" (hxD "_law_with" 439 119 3 189 190 (.ref 191) (.ref 192) 193 445 446)) ::
 (nat_lit 195,hxG "_law_with" 29 O0 194) ::
 (nat_lit 201,hxO "code" (hxD "_law_a_count" 448 121 1 196 197 (.ref 198) (.ref 199) 200 453 454)) ::
 (nat_lit 202,hxG "_law_a_count" 30 O0 201) ::
 (nat_lit 208,hxO "code" (hxD "_law_renamed" 456 124 3 203 204 (.ref 205) (.ref 206) 207 465 466)) ::
 (nat_lit 209,hxG "_law_renamed" 31 O0 208) ::
 (nat_lit 213,hxO "code" (hxD "_law_fault_in_place" 468 134 4 210 211 .none .none 212 471 472)) ::
 (nat_lit 214,hxG "_law_fault_in_place" 32 O0 213) ::
 (nat_lit 220,hxO "code" (hxD "_law_fault_in_name" 474 162 3 215 216 (.ref 217) (.ref 218) 219 482 483)) ::
 (nat_lit 221,hxG "_law_fault_in_name" 33 O0 220) ::
 (nat_lit 225,hxO "code" (hxD "_law_fault_in_move" 485 166 3 222 223 .none .none 224 488 489)) ::
 (nat_lit 226,hxG "_law_fault_in_move" 34 O0 225) ::
 (nat_lit 230,hxO "code" (hxD "_law_faulty" 491 198 3 227 228 .none .none 229 494 495)) ::
 (nat_lit 231,hxG "_law_faulty" 35 O0 230) ::
 (nat_lit 237,hxO "code" (hxD "_law_refused" 497 210 1 232 233 (.ref 234) (.ref 235) 236 504 505)) ::
 (nat_lit 238,hxG "_law_refused" 36 O0 237) ::
 (nat_lit 244,hxO "code" (hxD "_law_refused_by_base" 507 219 1 239 240 (.ref 241) (.ref 242) 243 513 514)) ::
 (nat_lit 245,hxG "_law_refused_by_base" 37 O0 244) ::
 (nat_lit 251,hxO "code" (hxD "_law_reads" 516 226 4 246 247 (.ref 248) (.ref 249) 250 524 525)) ::
 (nat_lit 252,hxG "_law_reads" 38 O0 251) ::
 (nat_lit 256,hxO "code" (hxD "law" 527 229 1 253 254 .none .none 255 530 531)) ::
 (nat_lit 257,hxG "law" 39 O0 256) ::
 []
def hxas:List Addr:=[2,3,15,22,23,24,25,28,35,36,37,40,52,53,54,55,56,59,66,67,68,71,78,79,80,83,90,91,92,100,101,107,108,114,115,121,122,126,127,133,134,140,141,147,148,152,153,159,160,166,167,173,174,180,181,187,188,194,195,201,202,208,209,213,214,220,221,225,226,230,231,237,238,244,245,251,252,256,257]
def view:Program:={ PySem.Challenge.pw_tokenmoor_k91_no_text_of_a_moor with main:={ PySem.Challenge.pw_tokenmoor_k91_no_text_of_a_moor.main with body:=[1,2,3,4,5,6,7,8,9,11,12,13,14,15,16,17,18,19,20,21,22,24,25,26,27,28,29,30,31,32,33,34,35,36,37,38,39].map top } }
def hook:PySem.W.Hook:=PySem.W.kHook CI hxas (λ_=>Qv)
end K91
set_option maxHeartbeats 0 in
theorem PySem.Challenge.cw_tokenmoor_k91_no_text_of_a_moor_holds : PySem.Challenge.rw_tokenmoor_k91_no_text_of_a_moor.Holds := by
 w_on;o_law
 refine holds_open (q:=K91.view) (loose:=[]) (Xt:=λs=>xlAt K91.view [] s&&recOk [] s) (XP:=XL K91.view [])
  (Yf:=K91.hook.obs) (Ya:=K91.hook.val) (YP:=K91.hook.says) (N:=4372) ?hl K91.hook.of K91.hook.keeps
  (λs e=>xl_of s (Bool.and_eq_true_iff.mp e).1) XL.keeps (by rfl) (by rfl) (by rfl)
  (λs e=>recFacts_of (Bool.and_eq_true_iff.mp e).2) (by rfl) (by first|assumption|decide +kernel)
  (by decide +kernel) ⟨rfl,rfl,rfl,rfl,rfl,by decide +kernel⟩ ?hw ?hc
 (case hl=>intro w;kernel_rfl)
 (case hw=>w_witness2)
 refine L2.walk_ofKB (l:=PySem.Challenge.rw_tokenmoor_k91_no_text_of_a_moor) (n:=63) (k:=8) (x := "_law_script") (CX:=L2.CX0) (sp:=K91.spLaw) rfl (by decide) rfl ⟨rfl,by decide,by decide⟩ (λw h Y=>PySem.W.kIn_of Y) ?F ?S ?C
 case F=>
  k_fill
  intro w mg fa h KX G hmg
  refine' K91.all_mk K91.law_pure KX G hmg ?p0 ?p1 ?p2 ?p3 ?p4 ?p5 ?p6 ?p7 ?p8 ?p9 ?p10 ?p11 ?p12 ?p13 ?p14 ?p15 ?p16 ?p17 ?p18 ?p19 ?p20 ?p21 ?p22 ?p23 ?p24 ?z0 ?z1 ?z2 ?z3 ?z4 ?z5 ?z6 ?z7 ?z8 ?z9 ?cst0 ?cst1 ?cst2 ?cst3 ?cst4 ?cst5 ?n_MoorError ?n_NoMoor ?n_NoName ?n_NoRow ?n_NoText ?n_Stuck ?xok0 ?xnd ?ex_MoorError ?ex_NoText ?ki_MoorError ?ki_NoMoor ?ki_NoName ?ki_NoRow ?ki_NoText ?ki_Stuck ?kt_ValueError
  (case p0=>refine' K91.pk_mk ?a ?l ?c ?k;(case a=>k_is);(case l=>k_is);(case c=>k_is);(case k=>k_is))
  (case p1=>refine' K91.pk_mk ?a ?l ?c ?k;(case a=>k_is);(case l=>k_is);(case c=>k_is);(case k=>k_is))
  (case p2=>refine' K91.pk_mk ?a ?l ?c ?k;(case a=>k_is);(case l=>k_is);(case c=>k_is);(case k=>k_is))
  (case p3=>refine' K91.pk_mk ?a ?l ?c ?k;(case a=>k_is);(case l=>k_is);(case c=>k_is);(case k=>k_is))
  (case p4=>refine' K91.pk_mk ?a ?l ?c ?k;(case a=>k_is);(case l=>k_is);(case c=>k_is);(case k=>k_is))
  (case p5=>refine' K91.pk_mk ?a ?l ?c ?k;(case a=>k_is);(case l=>k_is);(case c=>k_is);(case k=>k_is))
  (case p6=>refine' K91.pk_mk ?a ?l ?c ?k;(case a=>k_is);(case l=>k_is);(case c=>k_is);(case k=>k_is))
  (case p7=>refine' K91.pk_mk ?a ?l ?c ?k;(case a=>k_is);(case l=>k_is);(case c=>k_is);(case k=>k_is))
  (case p8=>refine' K91.pk_mk ?a ?l ?c ?k;(case a=>k_is);(case l=>k_is);(case c=>k_is);(case k=>k_is))
  (case p9=>refine' K91.pk_mk ?a ?l ?c ?k;(case a=>k_is);(case l=>k_is);(case c=>k_is);(case k=>k_is))
  (case p10=>refine' K91.pk_mk ?a ?l ?c ?k;(case a=>k_is);(case l=>k_is);(case c=>k_is);(case k=>k_is))
  (case p11=>refine' K91.pk_mk ?a ?l ?c ?k;(case a=>k_is);(case l=>k_is);(case c=>k_is);(case k=>k_is))
  (case p12=>refine' K91.pk_mk ?a ?l ?c ?k;(case a=>k_is);(case l=>k_is);(case c=>k_is);(case k=>k_is))
  (case p13=>refine' K91.pk_mk ?a ?l ?c ?k;(case a=>k_is);(case l=>k_is);(case c=>k_is);(case k=>k_is))
  (case p14=>refine' K91.pk_mk ?a ?l ?c ?k;(case a=>k_is);(case l=>k_is);(case c=>k_is);(case k=>k_is))
  (case p15=>refine' K91.pk_mk ?a ?l ?c ?k;(case a=>k_is);(case l=>k_is);(case c=>k_is);(case k=>k_is))
  (case p16=>refine' K91.pk_mk ?a ?l ?c ?k;(case a=>k_is);(case l=>k_is);(case c=>k_is);(case k=>k_is))
  (case p17=>refine' K91.pk_mk ?a ?l ?c ?k;(case a=>k_is);(case l=>k_is);(case c=>k_is);(case k=>k_is))
  (case p18=>refine' K91.pk_mk ?a ?l ?c ?k;(case a=>k_is);(case l=>k_is);(case c=>k_is);(case k=>k_is))
  (case p19=>refine' K91.pk_mk ?a ?l ?c ?k;(case a=>k_is);(case l=>k_is);(case c=>k_is);(case k=>k_is))
  (case p20=>refine' K91.pk_mk ?a ?l ?c ?k;(case a=>k_is);(case l=>k_is);(case c=>k_is);(case k=>k_is))
  (case p21=>refine' K91.pk_mk ?a ?l ?c ?k;(case a=>k_is);(case l=>k_is);(case c=>k_is);(case k=>k_is))
  (case p22=>refine' K91.pk_mk ?a ?l ?c ?k;(case a=>k_is);(case l=>k_is);(case c=>k_is);(case k=>k_is))
  (case p23=>refine' K91.pk_mk ?a ?l ?c ?k;(case a=>k_is);(case l=>k_is);(case c=>k_is);(case k=>k_is))
  (case p24=>refine' K91.pk_mk ?a ?l ?c ?k;(case a=>k_is);(case l=>k_is);(case c=>k_is);(case k=>k_is))
  (case z0=>k_is)
  (case z1=>k_is)
  (case z2=>k_is)
  (case z3=>k_is)
  (case z4=>k_is)
  (case z5=>k_is)
  (case z6=>k_is)
  (case z7=>k_is)
  (case z8=>k_is)
  (case z9=>k_is)
  (case cst0=>k_is)
  (case cst1=>k_is)
  (case cst2=>k_is)
  (case cst3=>k_is)
  (case cst4=>k_is)
  (case cst5=>k_is)
  (case n_MoorError=>k_is)
  (case n_NoMoor=>k_is)
  (case n_NoName=>k_is)
  (case n_NoRow=>k_is)
  (case n_NoText=>k_is)
  (case n_Stuck=>k_is)
  (case xok0=>refine' L2.xok0_mk ?lk ?ht ?ty ?be ?kp ?ob ?ga ?gh ?cl ?gt ?tk ?su;(case lk=>k_is);(case ht=>k_exc);(case ty=>k_is);(case be=>k_is);(case kp=>k_is);(case ob=>k_is);(case ga=>k_is);(case gh=>k_is);(case cl=>k_is);(case gt=>k_is);(case tk=>k_is);(case su=>k_is))
  (case xnd=>k_is)
  (case ex_MoorError=>refine' L2.exm_mk ?h0 ?h1 ?h2 ?h3;(case h0=>k_is);(case h1=>k_is);(case h2=>k_is);(case h3=>k_is))
  (case ex_NoText=>refine' L2.exm_mk ?h0 ?h1 ?h2 ?h3;(case h0=>k_is);(case h1=>k_is);(case h2=>k_is);(case h3=>k_is))
  (case ki_MoorError=>refine' L2.kitOne_ne ?h0 ?h1 ?h2 ?h3;(case h0=>rfl);(case h1=>k_is);(case h2=>k_is);(case h3=>k_is))
  (case ki_NoMoor=>refine' L2.kitOne_ne ?h0 ?h1 ?h2 ?h3;(case h0=>rfl);(case h1=>k_is);(case h2=>k_is);(case h3=>k_is))
  (case ki_NoName=>refine' L2.kitOne_ne ?h0 ?h1 ?h2 ?h3;(case h0=>rfl);(case h1=>k_is);(case h2=>k_is);(case h3=>k_is))
  (case ki_NoRow=>refine' L2.kitOne_ne ?h0 ?h1 ?h2 ?h3;(case h0=>rfl);(case h1=>k_is);(case h2=>k_is);(case h3=>k_is))
  (case ki_NoText=>exact L2.kitOne_self)
  (case ki_Stuck=>refine' L2.kitOne_ne ?h0 ?h1 ?h2 ?h3;(case h0=>rfl);(case h1=>k_is);(case h2=>k_is);(case h3=>k_is))
  (case kt_ValueError=>refine' L2.kitOne_ty ?h0 ?h3;(case h0=>decide);(case h3=>k_is))
 case S=>exact λK H a ns hl hb hO hS=>⟨a,ns,rfl,hS,hl,hb,λ_=>rfl⟩
 case C=>exact λ_ _ _ _ z=>z
