import PyProof.Rows.All
import Wide.All
import OpenK.AllK
import Wide.FinOn
import Lean
import PyProof.EqAt
import PyProof.EqKinds
import PyProof.TupleCall
import PyProof.ZipIter
import PyProof.TupleIter
import PyProof.WalksMore
import PyProof.EnumMake
import PyProof.Draws
import PyProof.P3In
import KE.KSortTup
import PyProof.Rows.SortWalk
import KE.IntBitsLaws
import KE.KRevIter
import PyProof.TupleOfGen
import PyProof.SetRoads
import PyProof.TupleKey
import PyProof.InstSpecial
import PyProof.Rows.SetFrom
import PyProof.WalksS
import PyProof.Walks
import PyProof.Rows.FactsT2
import PySem.Challenge.RW_tokenmoor_k86_whole_lost_and_found_moves
open PySem.W (Frag)
set_option Elab.async false
set_option linter.all false
set_option compiler.extract_closed false
def ox {p:Prop}(h:p:=by omega):p:=h
def QZ {p:Prop}(h:p:=by rfl):p:=h
def QY {p:Prop}(h:p:=by trivial):p:=h
def QV {p:Prop}(h:p:=by decide):p:=h
def QX {p:Prop}(h:p:=by simp):p:=h
def QW {p:Prop}(h:p:=by kernel_rfl):p:=h
def Zo {p:Prop}(h:p:=by decide +kernel):p:=h
abbrev Jq:=List (PySem.Addr×PySem.Obj)
abbrev Jz:=PySem.Str->Option PySem.Value
abbrev Jj:=List (Option Int)
abbrev Jv:=Option Int
abbrev Jw:=List PySem.Value
abbrev Jk:=List PySem.Str
abbrev Jx:=List PySem.Expr
abbrev Jy:=Array PySem.Value
abbrev Jp:=PySem.Value->PySem.Shared->Prop
abbrev Jo:=List (List Int)
abbrev Jg:=List Int
abbrev JQ:=List Nat
def qN6:=@PySem.wpAny_pure
def qN7:=@decide_eq_false
def qN8:=@decide_eq_true
def qN9:=@if_true
def qO0:=@if_false
def qO1:=@PySem.wpAny_Call_Name_kw
def qO2:=@of_decide_eq_false
def qO3:=@PySem.wpAny_holding
def qO4:=@of_decide_eq_true
def qO5:=@PySem.wpAny_seqItems
def qO6:=@PySem.wpAny_field
def qO7:=@PySem.wpAny_truthy_bool
def qO8:=@PySem.wpAny_callSpecial?_slot
def qO9:=@or_false
def qP0:=@PyProof.Rows.F.plain_set_update_loop
def qP1:=@PySem.wpAny_passesOwn
def qP2:=@List.pairwise_iff_getElem
def qP3:=@List.mem_flatMap
def qP4:=@List.mem_filter
def qP5:=@PySem.wpAny_rule
def qP6:=@PySem.wpAny_setField_rec
def qP7:=@PySem.wpAny_pyIter_tuple
def qP8:=@PySem.wpAny_pyIter_list
def qP9:=@PySem.wpAny_setState_of
def qQ0:=@List.mem_iff_getElem?
def qQ1:=@PySem.wpAny_mono
def qQ2:=@PySem.wpAny_call_entry
def qQ3:=@Array.toList_setIfInBounds
def qQ4:=@List.getElem?_take_eq_none
def qQ5:=@PySem.sizeLine_eq
def qQ6:=@List.mem_filterMap
def qQ7:=@List.pairwise_cons
def qQ8:=@Array.size_setIfInBounds
def qQ9:=@PySem.AutoSeq1.wpAny_loadPart'
def qR0:=@PyProof.Rows.F.entry_set_update_loop
def qR1:=@Nat.succ_add_eq_add_succ
def qR2:=@PySem.F.plainAttrs_list
def qR3:=@List.getElem?_cons_succ
def qR4:=@PySem.wpAny_newObj_type
def qR5:=@PySem.Heap.get?_update_other
def qR6:=@beq_self_eq_true
def qR7:=@List.getElem?_reverse
def qR8:=@List.Perm.append_left
def qR9:=@List.take_append_drop
def qS0:=@List.length_filter_le
def qS1:=@PySem.wpAny_execs_nil
def qS2:=@Array.mem_toList_iff
def qS3:=@PySem.codeAny_mono
def qS4:=@PyProof.Rows.callWith_builtin1
def qS5:=@PySem.F.slot_zip_next
def qS6:=@PySem.wpAny_pyIter_revIter
def qS7:=@Array.toList_extract
def qS8:=@Bool.or_eq_true
def qS9:=@List.take_append_of_le_length
def qT0:=@Nat.sub_le_sub_left
def qT1:=@List.replicate_succ
def qT2:=@Bool.false_and
def qT4:=@List.forIn_nil
def qT5:=@PySem.wpAny_newTuple
def qT6:=@Int.mul_nonneg
def qT7:=@PySem.Calls.spliced_cons
def qT9:=@List.length_mapIdx
def qU0:=@Nat.pos_of_ne_zero
def qU2:=@List.any_cons
def qU3:=@Array.perm_iff_toList_perm
def qU4:=@List.perm_ext_iff_of_nodup
def qU5:=@List.any_eq_false
def qU6:=@PySem.Calls.spliced_nil
def qU7:=@Nat.sub_pos_of_lt
def qU8:=@List.reverse_perm
def qV0:=@List.length_drop
def qV1:=@List.zipIdx_cons
def qV3:=@Nat.lt_succ_self
def qV4:=@Nat.add_comm
def qV5:=@List.mem_reverse
def qV6:=@Array.toList_inj
def qV7:=@List.Pairwise.imp_of_mem
def qV8:=@List.length_erase_of_mem
def qV9:=@PySem.wpAny_forIn_list
def qW0:=@decide_eq_decide
def qW1:=@List.filter_cons
def qW2:=@List.length_eq_zero_iff
def qW3:=@PySem.F.slot_list_index
def qW4:=@Nat.add_sub_cancel_left
def qW5:=@List.of_mem_zip
def qW8:=@Nat.le_antisymm
def qW9:=@List.foldl_cons
def qX1:=@List.range_succ
def qY8:=@Bool.and_false
def qZ3:=@List.drop_drop
def qZ7:=@Nat.mul_le_mul
def xB1:=@Bool.or_false
def xB2:=@Bool.false_or
def qA0:=@PySem.wpAny_bind
def qA1:=@List.getD_eq_getElem?_getD
def qA2:=@if_pos
def qA3:=@Bool.false_ne_true
def qA4:=@if_neg
def qA5:=@PySem.Heap.get?_push_of_some
def qA6:=@List.mem_cons_of_mem
def qA7:=@List.length_map
def qA8:=@List.getElem?_eq_some_iff
def qA9:=@List.mem_map
def qB0:=@Nat.lt_of_lt_of_le
def qB1:=@Nat.le_trans
def qB2:=@List.mem_cons_self
def qB3:=@PySem.Heap.lt_size
def qB4:=@List.getElem?_eq_getElem
def qB5:=@Nat.le_refl
def qB6:=@List.mem_cons
def qB7:=@List.getElem?_set_ne
def qB8:=@List.size_toArray
def qB9:=@Bool.false_eq_true
def qC0:=@List.map_cons
def qC1:=@List.length_cons
def qC2:=@PySem.Heap.get?_push_size
def qC3:=@List.mem_singleton
def qC4:=@PySem.boot_len
def qC5:=@List.length_append
def qC6:=@List.mem_append
def qC7:=@Array.length_toList
def qC8:=@Nat.ne_of_lt
def qC9:=@List.getElem?_map
def qD0:=@PySem.PassesOwn.never
def qD1:=@List.map_append
def qD2:=@Nat.zero_le
def qD3:=@List.getElem?_set
def qD4:=@List.any_eq_true
def qD5:=@List.mem_append_left
def qD6:=@List.not_mem_nil
def qD7:=@List.map_map
def qD8:=@Nat.le_add_right
def qD9:=@Nat.lt_of_le_of_lt
def qE0:=@Nat.not_lt_zero
def qE1:=@Nat.add_sub_cancel'
def qE2:=@List.mem_iff_getElem
def qE3:=@List.mem_append_right
def qE4:=@List.length_range
def qE5:=@Array.getElem?_eq_getElem
def qE6:=@Nat.add_le_add_left
def qE7:=@List.all_eq_true
def qE8:=@List.getElem?_append_left
def qE9:=@List.length_set
def qF0:=@List.mem_range
def qF1:=@PyProof.Rows.boot_isinstance
def qF2:=@Nat.lt_irrefl
def qF3:=@List.pairwise_append
def qF4:=@PyProof.Rows.callWith_type1
def qF5:=@List.length_singleton
def qF6:=@List.mem_of_getElem?
def qF7:=@List.drop_eq_nil_of_le
def qF8:=@Array.toList_append
def qF9:=@Array.getD_eq_getD_getElem?
def qG0:=@List.append_assoc
def qG1:=@Option.some.injEq
def qG2:=@List.getElem?_replicate
def qG3:=@Int.toNat_natCast
def qG4:=@PySem.W.kia_one
def qG5:=@Bool.and_eq_true
def qG6:=@Nat.succ_le_succ
def qG7:=@List.filterMap_cons
def qG8:=@Nat.sub_le
def qG9:=@Array.getElem?_toList
def qH0:=@List.length_take
def qH1:=@List.getElem?_take_of_lt
def qH2:=@PySem.Heap.size_push
def qH3:=@List.pairwise_map
def qH4:=@Nat.add_sub_assoc
def qH5:=@Array.toList_push
def qH6:=@List.append_nil
def qH7:=@PySem.mem_of_lookup
def qH8:=@Int.le_refl
def qH9:=@List.getElem?_append_right
def qI0:=@Nat.sub_lt
def qI1:=@Nat.add_assoc
def qI2:=@Nat.min_le_right
def qI3:=@PySem.Heap.get?_update_self
def qI4:=@List.getElem?_drop
def qI5:=@List.extract_eq_take_drop
def qI6:=@Nat.le_of_lt
def qI7:=@List.mem_of_mem_drop
def qI8:=@Bool.true_and
def qI9:=@PySem.Heap.SameBut.update
def qJ0:=@List.getElem?_set_self
def qJ1:=@Nat.le_of_eq
def qJ2:=@Nat.zero_add
def qJ3:=@Bool.eq_iff_iff
def qJ4:=@List.getElem?_zipWith
def qJ5:=@Nat.add_lt_of_lt_sub'
def qJ6:=@PySem.F.slot_tuple_iterator_next
def qJ7:=@Nat.le_pred_of_lt
def qJ8:=@Nat.le_of_lt_succ
def qJ9:=@List.drop_eq_getElem_cons
def qK0:=@Nat.sub_lt_left_of_lt_add
def qK1:=@List.take_succ
def qK2:=@List.lookup_cons
def qK3:=@List.getElem_mem
def qK4:=@List.take_length
def qK5:=@List.ext_getElem
def qK6:=@Nat.add_zero
def qK7:=@List.length_reverse
def qK8:=@List.map_congr_left
def qK9:=@List.pairwise_singleton
def qL0:=@Bool.not_true
def qL1:=@List.find?_cons
def qL2:=@List.length_nil
def qL3:=@List.forIn_cons
def qL4:=@Nat.min_le_left
def qL5:=@Int.emod_lt_of_pos
def qL6:=@List.take_of_length_le
def qL7:=@List.reverse_cons
def qL8:=@Nat.lt_succ_of_lt
def qL9:=@Nat.ne_of_gt
def qM0:=@List.map_nil
def qM1:=@Bool.or_true
def qM2:=@Bool.and_self
def qM3:=@Bool.and_true
def qM4:=@List.nodup_cons
def qM5:=@Nat.min_eq_left
def qM6:=@List.nil_append
def qM7:=@Int.emod_nonneg
def qM8:=@Nat.add_right_comm
def qM9:=@Bool.not_false
def qN0:=@List.ext_getElem?
def qN1:=@Nat.lt_of_succ_lt
def qN2:=@Nat.lt_trichotomy
def qN3:=@Nat.lt_of_not_le
def qN4:=@Nat.not_le_of_lt
def qN5:=@List.cons_append
set_option maxRecDepth 100000
theorem Z1 (a:p)(b:q):p/\q:=⟨a,b⟩
noncomputable section
local macro_rules | `(tactic| omega)=>`(tactic| first | with_reducible assumption | decide | lia)
local macro_rules | `(tactic| show $e)=>`(tactic| exact $e)
set_option genSizeOf false
set_option genSizeOfSpec false
namespace L2
open PySem PySem.Spec PyProof.Rows
abbrev Key:=Sum Int Str
def bJ:Key->Value->Bool
 | .inl k,v=>Value.isInt k v
 | .inr x,v=>Value.isStrOf x v
def keyH (w:World):Key->Int
 | .inl k=>hashInt k
 | .inr x=>hashStr w x
def v7:∀{k:Key}{v:Value},bJ k v=true->(∃i t,k=Sum.inl i/\v=Value.int i t)\/(∃x t,k=Sum.inr x/\v=Value.str x t)
 | .inl i,v,h=>by
  obtain ⟨t,e⟩:=Value.isInt_shape (k:=i) (v:=v) h;show .inl ⟨i,t,rfl,e⟩
 | .inr x,v,h=>by
  obtain ⟨t,e⟩:=Value.isStrOf_shape (x:=x) (v:=v) h;show .inr ⟨x,t,rfl,e⟩
def pK (i:Int)(t:Tok):bJ (.inl i) (.int i t)=true:=by simp [bJ,Value.isInt]
def pJ (x:Str)(t:Tok):bJ (.inr x) (.str x t)=true:=by simp [bJ,Value.isStrOf]
def Bi (a b:Int):decide ((Sum.inl a:Key)=Sum.inl b)=(a == b):=by
 by_cases e:a=b
 .subst e;simp
 .have h:¬ (Sum.inl a:Key)=Sum.inl b:=λq=>e (Sum.inl.inj q);rw[qN7 h];show (beq_eq_false_iff_ne.mpr e).symm
def Bf (a b:Str):decide ((Sum.inr a:Key)=Sum.inr b)=decide (a=b):=by
 by_cases e:a=b
 .subst e;simp
 .have h:¬ (Sum.inr a:Key)=Sum.inr b:=λq=>e (Sum.inr.inj q);rw[qN7 h,qN7 e]
def Bh (a:Int)(b:Str):decide ((Sum.inl a:Key)=Sum.inr b)=false:=qN7 (λq=>nomatch q)
def Bg (a:Str) (b:Int):decide ((Sum.inr a:Key)=Sum.inl b)=false:=qN7 (λq=>nomatch q)
def t9 (prog:Program) (w:World):PySem.KeyKind prog w Key where
 is:=bJ
 hash:=keyH w
 inj:=λv a b ha hb=>by
  rcases v7 ha with ⟨i,t,rfl,rfl⟩|⟨x,t,rfl,rfl⟩
  .rcases v7 hb with ⟨j,u,rfl,e⟩|⟨y,u,rfl,e⟩
   .injection e with e1 _;rw[e1]
   .show nomatch e
  .rcases v7 hb with ⟨j,u,rfl,e⟩|⟨y,u,rfl,e⟩
   .show nomatch e
   .injection e with e1 _;rw[e1]
 byValue:=λk v h=>by
  rcases v7 h with ⟨i,t,rfl,rfl⟩|⟨x,t,rfl,rfl⟩ <;> rfl
 pyHash:=λq h=>by
  rcases v7 q with ⟨i,t,rfl,rfl⟩|⟨x,t,rfl,rfl⟩
  .show wpAny_pyHash_int h
  .show wpAny_pyHash_str h
 eqBool:=λhu q h=>by
  rcases v7 hu with ⟨i,t,rfl,rfl⟩|⟨x,t,rfl,rfl⟩
  .rcases v7 q with ⟨j,u,rfl,rfl⟩|⟨y,u,rfl,rfl⟩
   .rw[Bi]at h;show wpAny_eqBool_int h
   .rw[Bh]at h;show SeqAt.EqAt.int_str i t y u _ _ _ _ h
  .rcases v7 q with ⟨j,u,rfl,rfl⟩|⟨y,u,rfl,rfl⟩
   .rw[Bg]at h;show SeqAt.EqAt.str_int x t j u _ _ _ _ h
   .rw[Bf]at h;show wpAny_eqBool_str h
 «strs»:=λk x t v h=>by
  rcases v7 h with ⟨i,u,rfl,e⟩|⟨y,u,rfl,e⟩
  .show nomatch e
  .injection e with e1 _
   subst e1;cases v <;> rfl
def jR (prog:Program)(w:World) (i:Int)(t:Tok):(t9 prog w).is (.inl i) (.int i t)=true:=pK i t
def jQ (prog:Program)(w:World)(x:Str)(t:Tok):(t9 prog w).is (.inr x) (.str x t)=true:=pJ x t
inductive V where
 |non|bl (b:Bool)|int (i:Int)|str (x:Str)|byt (b:Array UInt8)|flt (b:UInt64)|ref (a:Addr)|ty (n:String)
 deriving DecidableEq
def RelV:V->Value->Prop
 | .non,u=>u=Value.none
 | .bl b,u=>u=Value.bool b
 | .int i,u=>∃t,u=Value.int i t
 | .str x,u=>∃t,u=Value.str x t
 | .byt b,u=>∃t,u=Value.bytes b t
 | .flt b,u=>∃t,u=Value.float b t
 | .ref a,u=>u=Value.ref a
 | .ty n,u=>u=Value.type n
abbrev Vals:List V->List Value->Prop:=Paired RelV
def Vals.length (r:Vals xs us):xs.length=us.length:=Paired.length r
def Vals.get:∀{xs:List V}{us:Jw}{i:Nat}{x:V},Vals xs us->xs[i]?=some x->∃u,us[i]?=some u/\RelV x u:=by
 intro xs us i x a
 induction a generalizing i with
 |nil=>intro e;cases e
 | cons r t q=>
  intro e;cases i with
  |zero=>cases e;show ⟨_,rfl,r⟩
  |succ i=>show q e
def Vals.set (r:RelV x u):∀{xs:List V}{us:Jw}(i:Nat),Vals xs us->Vals (xs.set i x) (us.set i u):=by
 intro xs us i h
 induction h generalizing i with
 |nil=>show .nil
 | cons q t L=>
  cases i with
  |zero=>show .cons r t
  |succ i=>show .cons q (L i)
def Vals.append:∀{xs q:List V}{us ws:Jw},Vals xs us->Vals q ws->Vals (xs++q) (us++ws):=by
 intro xs q us ws a s
 induction a with
 |nil=>show s
 |cons r t L=>show .cons r L
def Vals.take:∀{xs:List V}{us:Jw}(n:Nat),Vals xs us->Vals (xs.take n) (us.take n):=by
 intro xs us n h
 induction h generalizing n with
 |nil=>cases n <;> show .nil
 | cons r t q=>
  cases n with
  |zero=>show .nil
  |succ n=>show .cons r (q n)
def Vals.drop:∀{xs:List V}{us:Jw}(n:Nat),Vals xs us->Vals (xs.drop n) (us.drop n)
 |_,_,0,r=>r
 |_,_,_+1,.nil=>.nil
 |_,_,n+1,.cons _ t=>Vals.drop n t
def RelO:Option V->Option Value->Prop
 |some v,some u=>RelV v u
 |none,none=>True
 |_,_=>False
def KV {κ:Type}:List (κ×V)->List (κ×Value)->Prop:=Paired λ(p:κ×V)(q:κ×Value)=>p.1=q.1/\RelV p.2 q.2
def kV:Key->V
 | .inl i=>.int i
 | .inr x=>.str x
inductive HO where
 |lst (xs:List V)
 |tup (xs:List V)
 |dK (kvs:List (Key×V))|dT (kvs:List (List Key×V))
 |set (S:Int->Bool) (n:Nat)
 |ins (C dx:Addr) (fs:List (Str×V))
 |own (x:Addr)
 |xd (fs:List (Str×V))
 |met (f x:Addr)
 |rng (lo hi:Int)
 |frz (o:Obj) (u:HO)
 |tbl (ps:Jy)
 |ext (φ:Heap->Prop)
abbrev Hp:=Addr->Option HO
def upd (H:Hp)(a:Addr)(o:HO):Hp:=λb=>if b=a then some o else H b
def i7:upd H a o a=some o:=by unfold upd;rw[qA2 rfl]
def c8 (h:b≠a):upd H a o b=H b:=by unfold upd;rw[qA4 h]
def uT {H:Hp}(h:H a=some o) (h':H b=some u) (d:o≠u):a≠b:=by
 intro e;subst e;rw[h]at h';show d (Option.some.inj h')
def d8 {H:Hp}(h:H a=some o) (h':H b=none):a≠b:=by
 intro e;subst e;rw[h]at h';cases h'
section
variable (P:Program)(w:World)
def ObjOk (H:Hp) (h:Heap) (a:Addr):HO->Prop
 | .lst xs=>xs.length<=sizeLine/\∃(its:Jw) (n:Nat),Vals xs its/\h.get? a=some { cls:=.type "list",data:=.seq its.toArray n }
 | .tup xs=>xs.length<=sizeLine/\∃its:List Value,Vals xs its/\IsTup h a its.toArray
 | .dK kvs=>kvs.length<=sizeLine/\(a == sysModules)=false/\∃vs,KV kvs vs/\h.DictOf (t9 P w) a vs
 | .dT kvs=>kvs.length<=sizeLine/\(a == sysModules)=false/\∃xs:List (List Key×Addr×Value),
   Paired (λ(p:List Key×V) (q:List Key×Addr×Value)=>p.1=q.1/\H q.2.1=some (.tup (p.1.map kV))/\RelV p.2 q.2.2) kvs xs /\
   ∃o es ep,h.get? a=some o/\o.ExactDict/\o.data=.dict es ep/\es.toList=xs.map (entryOfKey (tupleKind (t9 P w)))/\(xs.map (·.1)).Nodup
 | .set S n=>h.SetOf (intKind P w) a S n
 | .ins C dx fs=>H dx=some (.own a)/\fs.length<=1000/\dx≠a/\h.get? a=some (PySem.W.instObj C dx) /\
   ∃mA,h.Ns1 dx mA/\(∀f,RelO (fs.lookup f) (mA f))/\PySem.Within mA (fs.map (·.1))
 | .own _=>∃o,h.get? a=some o
 | .xd fs=>∃mA,h.Ns1 a mA/\∀f,RelO (fs.lookup f) (mA f)
 | .rng lo hi=>∃t u v,h.get? a=some { cls:=.type "range",data:=.fields #[.int lo t,.int hi u,.int 1 v] }
 | .frz o u=>h.get? a=some o/\ObjOk H h a u
 | .tbl ps=>h.get? a=some { cls:=.none,data:=.fields ps }
 | .met f x=>h.get? a=some (PySem.W.methodObj (.ref f) (.ref x))
 | .ext φ=>φ h/\(∃o,h.get? a=some o)/\∀L O:Heap,φ L->(∀o,L.get? a=some o->O.get? a=some o)->φ O
def HOk (H:Hp)(h:Heap):Prop:=∀a o,H a=some o->ObjOk P w H h a o
end
def ObjOk.lt (x:ObjOk P w H h a o):a<h.objs.size:=by
 cases o with
 |lst xs=>obtain ⟨_,_,_,_,e⟩:=x;show qB3 e
 |tup xs=>obtain ⟨_,_,_,p⟩:=x;show p.lt
 |dK kvs=>obtain ⟨_,_,_,_,o,_,_,e,_⟩:=x;show qB3 e
 |dT kvs=>obtain ⟨_,_,_,_,o,_,_,e,_⟩:=x;show qB3 e
 |set S n=>obtain ⟨o,_,_,_,e,_⟩:=x;show qB3 e
 |ins C dx fs=>obtain ⟨_,_,_,e,_⟩:=x;show qB3 e
 |own y=>obtain ⟨_,e⟩:=x;show qB3 e
 |xd fs=>obtain ⟨_,⟨_,_,_,e,_⟩,_⟩:=x;show qB3 e
 |rng lo hi=>obtain ⟨_,_,_,e⟩:=x;show qB3 e
 |frz ob u=>obtain ⟨e,_⟩:=x;show qB3 e
 |tbl ps=>show qB3 (show h.get? a=some _ from x)
 |met f y=>show qB3 (show h.get? a=some _ from x)
 |ext φ=>obtain ⟨_,⟨_,e⟩,_⟩:=x;show qB3 e
def Paired.mapP:∀{l₁:List α}{q:List β},Paired F l₁ q->(∀a b,F a b->G a b)->Paired G l₁ q:=by
 intro l₁ q h f
 induction h with
 |nil=>show .nil
 |cons r t L=>show .cons (f _ _ r) L
def ObjOk.stay (x:ObjOk P w H h a o) (k:∀b u,(b=a\/H b=some (.own a))->h.get? b=some u->h'.get? b=some u) (ho:∀b,H b=some (.own a)->H' b=some (.own a)) (ht:∀b xs,H b=some (.tup xs)->H' b=some (.tup xs)):ObjOk P w H' h' a o:=by
 induction o with
 |lst xs=>obtain ⟨z,its,n,r,e⟩:=x;show ⟨z,its,n,r,k _ _ (.inl rfl) e⟩
 |tup xs=>obtain ⟨z,its,r,ob,e,c⟩:=x;show ⟨z,its,r,ob,k _ _ (.inl rfl) e,c⟩
 |dK kvs=>obtain ⟨z,y,vs,r,ob,es,L,e,c⟩:=x;show ⟨z,y,vs,r,ob,es,L,k _ _ (.inl rfl) e,c⟩
 | dT kvs=>
  obtain ⟨z,y,xs,r,ob,es,L,e,c⟩:=x;show ⟨z,y,xs,Paired.mapP r λp q z=>⟨z.1,ht _ _ z.2.1,z.2.2⟩,ob,es,L,k _ _ (.inl rfl) e,c⟩
 |set S n=>obtain ⟨ob,es,L,t,e,c⟩:=x;show ⟨ob,es,L,t,k _ _ (.inl rfl) e,c⟩
 | ins C dx fs=>
  obtain ⟨d,z,ne,e,mA,⟨od,es,L,e2,c⟩,r⟩:=x;show ⟨ho _ d,z,ne,k _ _ (.inl rfl) e,mA,⟨od,es,L,k _ _ (.inr d) e2,c⟩,r⟩
 |own y=>obtain ⟨ob,e⟩:=x;show ⟨ob,k _ _ (.inl rfl) e⟩
 |xd fs=>obtain ⟨mA,⟨od,es,L,e,c⟩,r⟩:=x;show ⟨mA,⟨od,es,L,k _ _ (.inl rfl) e,c⟩,r⟩
 |rng lo hi=>obtain ⟨t,u,v,e⟩:=x;show ⟨t,u,v,k _ _ (.inl rfl) e⟩
 |frz ob u O=>obtain ⟨e,q⟩:=x;show ⟨k _ _ (.inl rfl) e,O q⟩
 | tbl ps=>
  have e:h.get? a=some { cls:=.none,data:=.fields ps }:=x
  change h'.get? a=some { cls:=.none,data:=.fields ps };show k a _ (.inl rfl) e
 | met f y=>
  have e:h.get? a=some (PySem.W.methodObj (.ref f) (.ref y)):=x
  change h'.get? a=some (PySem.W.methodObj (.ref f) (.ref y));show k a _ (.inl rfl) e
 |ext φ=>obtain ⟨p,⟨o,e⟩,st⟩:=x;show ⟨st _ _ p λo q=>k _ _ (.inl rfl) q,⟨o,k _ _ (.inl rfl) e⟩,st⟩
def HOk.lt (x:HOk P w H h)(e:H a=some o):a<h.objs.size:=(x a o e).lt
def HOk.fresh {a:Addr}(x:HOk P w H h) (e:h.objs.size<=a):H a=none:=by
 cases q:H a with
 |none=>rfl
 |some u=>show absurd (qB0 (x.lt q) e) (qF2 _)
def HOk.kept (x:HOk P w H h) (k:∀b u,h.get? b=some u->h'.get? b=some u):HOk P w H h':=λa o e=>
 (x a o e).stay (λb u _ q=>k b u q) (λ_ q=>q) λ_ _ q=>q
def HOk.laid {a:Addr}(x:HOk P w H h) (k:∀b u,h.get? b=some u->h'.get? b=some u) (O:h.objs.size<=a) (L:ObjOk P w (upd H a o) h' a o):HOk P w (upd H a o) h':=λb u e=>by
 have hn:=x.fresh O;by_cases hb:b=a
 .subst hb;rw[i7]at e;cases e;show L
 .rw [c8 hb]at e
  show (x b u e).stay (λc v _ q=>k c v q) (λc q=>by rw[c8 (d8 q hn)];show q) λc xs q=>by rw[c8 (d8 q hn)];show q
def Rd (H:Hp)(a:Addr)(u:HO):Prop:=H a=some u\/∃o,H a=some (.frz o u)
def Rd.ok (r:Rd H a u) (x:HOk P w H h):ObjOk P w H h a u:=by
 rcases r with r|⟨o,r⟩
 .show x a u r
 .obtain ⟨_,q⟩:=x a _ r;show q
def Mut:Option HO->Prop
 |some (.lst _)=>True
 |some (.dK _)=>True
 |some (.dT _)=>True
 |some (.set _ _)=>True
 |some (.ins _ _ _)=>True
 |some (.ext _)=>True
 |_=>False
def HOk.write (ok:HOk P w H h) (mu:Mut (H x)) (he:e=x\/H e=some (.own x)) (k:∀b u,b≠e->h.get? b=some u->h'.get? b=some u) (a4:∃u,h'.get? e=some u) (a5:ObjOk P w (upd H x o') h' x o'):HOk P w (upd H x o') h':=λb u q=>by
 have O:∀c y,H c=some (.own y)->c≠x:=λc y r z=>by subst z;rw[r]at mu;show mu
 have a3:∀c xs,H c=some (.tup xs)->c≠x:=λc xs r z=>by subst z;rw[r]at mu;show mu
 by_cases hb:b=x
 .subst hb;rw[i7]at q;cases q;show a5
 .rw [c8 hb]at q
  by_cases L:b=e
  .have q':H b=some (.own x):=by
    rcases he with z|z
    .show absurd (L.trans z) hb
    .rw[L];show z
   rw[q]at q';cases q';obtain ⟨v,hv⟩:=a4;show ⟨v,by rw[L];show hv⟩
  .refine (ok b u q).stay (λc v hc r=>k c v ?_ r) (λc r=>by rw[c8 (O c b r)];show r) λc xs r=>by rw[c8 (a3 c xs r)];show r
   rcases hc with rfl|hc
   .show L
   .rintro rfl;rcases he with z|z
    .show O c b hc z
    .rw[hc]at z;cases z;show hb rfl
structure Un (fs ex:List Addr) (H H':Hp) (h h':Heap):Prop where
 keep:∀b o,h.get? b=some o->H b=none->b∉fs->b∉ex->h'.get? b=some o
 slot:∀b o,h.get? b=some o->H b=none->b∈fs->b∉ex->∃sl,h'.get? b=some { o with slots:=sl }
 free:∀b o,h.get? b=some o->H b=none->b∉ex->H' b=none
 there:∀b o,h.get? b=some o->b∉ex->∃o',h'.get? b=some o'
 tups:∀b xs,H b=some (.tup xs)->H' b=some (.tup xs)
 frzs:∀b o u,H b=some (.frz o u)->H' b=some (.frz o u)
 tbls:∀b ps,H b=some (.tbl ps)->∃more,H' b=some (.tbl (ps++more))
def Un.any (u:Un fs ex H H1 h h1) (q:h.get? b=some ob) (n:H b=none) (L:b∉ex):∃sl,h1.get? b=some { ob with slots:=sl }:=by
 by_cases hb:b∈fs
 .show u.slot b ob q n hb L
 .show ⟨ob.slots,u.keep b ob q n hb L⟩
def Un.kept (k:∀b u,h.get? b=some u->h'.get? b=some u):Un fs ex H H h h':=
 ⟨λb ob q _ _ _=>k b ob q,λb ob q _ _ _=>⟨ob.slots,k b ob q⟩,λ_ _ _ n _=>n,λb ob q _=>⟨ob,k b ob q⟩,λ_ _ q=>q,λ_ _ _ q=>q,λ_ ps q=>⟨#[],by rw[q];simp⟩⟩
def Un.refl:Un fs ex H H h h:=Un.kept λ_ _ q=>q
def Un.laid (k:∀b u,h.get? b=some u->h'.get? b=some u) (L:h.objs.size<=a) (hn:H a=none):Un fs ex H (upd H a o) h h' where
 keep:=λb u q _ _ _=>k b u q
 slot:=λb u q _ _ _=>⟨u.slots,k b u q⟩
 free:=λb u q n _=>by rw[c8 (qC8 (qB0 (qB3 q) L))];show n
 there:=λb u q _=>⟨u,k b u q⟩
 tups:=λb xs q=>by rw[c8 (d8 q hn)];show q
 frzs:=λb u xs q=>by rw[c8 (d8 q hn)];show q
 tbls:=λb ps q=>⟨#[],by rw[c8 (d8 q hn),q];simp⟩
def Un.write (O:Mut (H x)) (he:e=x\/H e=some (.own x)) (k:∀b u,b≠e->h.get? b=some u->h'.get? b=some u) (a3:∃u,h'.get? e=some u):Un fs ex H (upd H x o) h h':=by
 have hx:∀b,H b=none->b≠x:=λb n z=>by subst z;rw[n]at O;show O
 have hb:∀b,H b=none->b≠e:=λb n z=>by
  subst z;rcases he with r|r
  .show hx b n r
  .rw[n]at r;cases r
 have hm:∀b u,H b=some u->¬ Mut (some u)->b≠x:=λb u q nm z=>by subst z;rw[q]at O;show nm O
 refine ⟨λb u q n _ _=>k b u (hb b n) q,λb u q n _ _=>⟨u.slots,k b u (hb b n) q⟩,λb u q n _=>by rw[c8 (hx b n)];show n,λb u q _=>?_,
  λb xs q=>by rw[c8 (hm b _ q λz=>z)];show q,λb u xs q=>by rw[c8 (hm b _ q λz=>z)];show q,λb ps q=>⟨#[],by rw[c8 (hm b _ q λz=>z),q];simp⟩⟩
 by_cases L:b=e
 .subst L;show a3
 .show ⟨u,k b u L q⟩
def trk (h:Heap)(H:Hp):List Addr:=(List.range h.objs.size).filter λa=>(H a).isSome
def Z2 (h:Heap)(H:Hp):Heap:=PySem.W.hideAll h (trk h H)
def pX (h:Heap)(H:Hp):(Z2 h H).objs.size=h.objs.size:=PySem.W.hideAll_size _ _
def tG (e:h.get? b=some o) (n:H b=none):(Z2 h H).get? b=some o:=
 PySem.W.hideAll_get _ e λhm=>by
  have q:(H b).isSome=true:=(qP4.mp hm).2;rw[n]at q;simp at q
def wK (e:(Z2 h H).get? b=some o):h.get? b=some o/\H b=none:=by
 have L:h.get? b=some o:=PySem.W.of_hideAll (trk h H) e;refine ⟨L,?_⟩;cases q:H b with
 |none=>rfl
 | some x=>
  have hm:b∈trk h H:=qP4.mpr ⟨qF0.mpr (qB3 L),by simp [q]⟩;have z:(Z2 h H).get? b=none:=PySem.W.hideAll_none (trk h H) hm;rw[z]at e;cases e
def yn (g h:Heap)(L:Addr):List (Addr×Obj):=(List.range h.objs.size).filterMap λa=>if a=L\/(g.get? a).isSome=true then none else (h.get? a).map λo=>(a,o)
def rest (g h:Heap)(L d:Addr):List (Addr×Obj):=(yn g h L).filter λp=>decide (p.1≠d)
structure Mod (K:Frag) (mg:Jz) (base:Heap):Prop where
 kin:K.In base
 glob:base.Ns mainGlobals mg
 blt:∃mb,base.Ns builtinsNs mb/\∀x:Str,x ≠ "__name__" -> mb x=bootBuiltins x
 nolimit:base.NoLimit
structure Cx where
 prog:Program
 w:World
 K:Frag
 mg:Str->Option Value
 base:Heap
 A:Around
 N:List Str
 s₀:Shared
 H₀:Hp
 env:Env
 outer:List Env
 stack:List Env
 ex:List Addr
 fn:Str->Bool
 calm:Bool
 pn:List (Addr×Obj)
 xe:Value->Shared->Prop
def frs (l:List Env):List Addr:=l.filterMap (·.frame)
abbrev Cx.fs (X:Cx):List Addr:=frs X.outer
def Vis (sc:Scope)(x:Str):Prop:=sc.names.lookup x=some .local\/sc.names.lookup x=some .cell\/sc.names.lookup x=some .free
def Loc (sc:Scope)(x:Str):Prop:=sc.names.lookup x=some .local\/sc.names.lookup x=some .cell
def Look (env:Env) (h:Heap) (m:Jz) (x:Str) (u:Value):Prop:=
 (env.kindOf x=some .local/\m x=some u)\/((env.kindOf x=some .cell\/env.kindOf x=some .free)/\∃c,env.cells.lookup x=some c/\h.IsCell c (some u))
structure Cx.Ok (X:Cx):Prop where
 mod:Mod X.K X.mg X.base
 kind:X.env.scope.kind=.function
 glob:X.env.globals=mainGlobals
 blt:X.env.builtins=builtinsNs
 above:X.s₀.heap.objs.size<=X.env.locals
 inj:∀x y c,X.env.cells.lookup x=some c->X.env.cells.lookup y=some c->x=y
 has:∀x,(X.env.kindOf x=some .cell\/X.env.kindOf x=some .free)->∃c,X.env.cells.lookup x=some c
 cab:∀x c,X.fn x=true->X.env.cells.lookup x=some c->X.s₀.heap.objs.size<=c
 hd:X.calm=true->X.A.handled=none
 frames:X.A.frames=some X.stack
 stk:X.stack=X.outer\/(X.stack=X.env::X.outer/\X.env.frame=some X.env.locals)
 exf:∀b∈X.ex,b≠X.env.locals/\∀x c,X.env.cells.lookup x=some c->c≠b
 bs:∀b o,X.base.get? b=some o->X.s₀.heap.get? b=some o/\X.H₀ b=none
 bsz:X.base.objs.size<=X.s₀.heap.objs.size
 noex:∀b o,X.base.get? b=some o->b∉X.ex
 exfs:∀b∈X.ex,b∉X.fs
 funs:X.s₀.heap.FunFrames X.base X.outer
 frf:∀b∈X.fs,X.H₀ b=none
structure Inv (X:Cx) (pins:Jq) (σ:List (Option V)) (H:Hp) (s:Shared):Prop where
 ok:X.Ok
 os:s.os=X.s₀.os
 bare:AllBare s.gens
 base:Un X.fs X.ex X.H₀ H X.s₀.heap s.heap
 loc:∃m,s.heap.Ns X.env.locals m/\∀(i:Nat) (x:Str) (v:V),X.N[i]?=some x->σ[i]?=some (some v)->Vis X.env.scope x->∃u,RelV v u/\Look X.env s.heap m x u
 cell:∀x c,X.env.cells.lookup x=some c->∃v,s.heap.IsCell c v
 free:H X.env.locals=none
 freeC:∀x c,X.env.cells.lookup x=some c->H c=none
 pin:∀p∈X.pn++pins,s.heap.get? p.1=some p.2/\H p.1=none/\p.1≠X.env.locals/\p.1∉X.fs/\∀v,p.2.data≠.cell v
 hok:HOk X.prog X.w H s.heap
 len:σ.length=X.N.length
def Cx.Ok.nofr {X:Cx}(ok:X.Ok) (e:X.base.get? b=some o):b∉X.fs:=λhb=>by
 have:=(ok.funs.mem hb).1
 rw[e]at this;cases this
def Inv.bs (I:Inv X pins σ H s):∀b o,X.base.get? b=some o->s.heap.get? b=some o/\H b=none:=λb o e=>
 ⟨I.base.keep b o (I.ok.bs b o e).1 (I.ok.bs b o e).2 (I.ok.nofr e) (I.ok.noex b o e),I.base.free b o (I.ok.bs b o e).1 (I.ok.bs b o e).2 (I.ok.noex b o e)⟩
def Inv.bk (I:Inv X pins σ H s):∀b o,X.base.get? b=some o->s.heap.get? b=some o:=λb o e=>(I.bs b o e).1
def Inv.mod (I:Inv X pins σ H s):Mod X.K X.mg X.base:=I.ok.mod
def Inv.kIn (I:Inv X pins σ H s):X.K.In s.heap:=I.ok.mod.kin.keeps I.bk
def Inv.fr (I:Inv X pins σ H s):∃m,Fr X.base X.env.locals s.heap m:=
 let ⟨m,hn,_⟩:=I.loc
 ⟨m,hn,I.bk,qB1 I.ok.bsz I.ok.above⟩
def Inv.lt (I:Inv X pins σ H s):X.env.locals<s.heap.objs.size:=let ⟨_,hn,_⟩:=I.loc;hn.lt
def Inv.sz (I:Inv X pins σ H s):X.s₀.heap.objs.size<=s.heap.objs.size:=qB1 I.ok.above (qI6 I.lt)
def Inv.nofs (I:Inv X pins σ H s){a:Addr}(h:s.heap.objs.size<=a):a∉X.fs:=λhb=>by
 obtain ⟨_,o,q,_⟩:=I.ok.funs.mem hb;show absurd (qB0 (qB3 q) (qB1 I.sz h)) (qF2 _)
def Inv.cne (I:Inv X pins σ H s):∀x c,X.env.cells.lookup x=some c->c≠X.env.locals:=λx c e z=>by
 obtain ⟨v,o,O,hd⟩:=I.cell x c e;obtain ⟨m,⟨o',es,ep,L,q,_⟩,_⟩:=I.loc;rw[z,L]at O;cases O;rw[q]at hd;cases hd
def Inv.funs (I:Inv X pins σ H s):s.heap.FunFrames X.base X.outer:=by
 have all:∀(l:List Env),(∀b∈frs l,b∈X.fs)->X.s₀.heap.FunFrames X.base l->s.heap.FunFrames X.base l:=by
  intro l
  induction l with
  |nil=>intro _ _;trivial
  | cons env r ih=>
   intro hs hl;obtain ⟨hk,⟨L,o,O,hn,ho,hd⟩,hr⟩:=hl;have q:L∈X.fs:=hs L (by unfold frs;rw[qG7,O];show qB2);obtain ⟨sl,e⟩:=I.base.slot L o ho (I.ok.frf L q) q λz=>I.ok.exfs L z q;show ⟨hk,⟨L,_,O,hn,e,hd⟩,ih (λb hb=>hs b (by unfold frs;rw[qG7,O];show qA6 _ hb)) hr⟩
 show all X.outer (λ_ hb=>hb) I.ok.funs
def Inv.stack (I:Inv X pins σ H s):s.heap.FunFrames X.base X.stack:=by
 rcases I.ok.stk with e|⟨e,hf⟩
 .rw[e];show I.funs
 .rw [e]
  obtain ⟨m,hn,_⟩:=I.loc;refine .cons (by rw[I.ok.kind];decide) hf hn ?_ I.funs;show Heap.get?_none_of_le (qB1 I.ok.bsz I.ok.above)
def Inv.stkSub (I:Inv X pins σ H s):∀b∈frs X.stack,b∈X.env.locals::X.fs:=λb hb=>by
 rcases I.ok.stk with e|⟨e,hf⟩
 .rw[e]at hb;show qA6 _ hb
 .rw [e]at hb
  unfold frs at hb;rw[qG7,hf]at hb;show hb
def Inv.stkFree (I:Inv X pins σ H s):∀b∈frs X.stack,H b=none:=λb hb=>by
 rcases qB6.mp (I.stkSub b hb) with e|hb
 .rw[e];show I.free
 .obtain ⟨_,o,q,_⟩:=I.ok.funs.mem hb;show I.base.free b o q (I.ok.frf b hb) λz=>I.ok.exfs b z hb
def Inv.step {ch:List Addr}(I:Inv X pins σ H s) (a3:∀b∈ch,(b∈X.ex\/X.s₀.heap.objs.size<=b)/\b≠X.env.locals/\(∀x c,X.env.cells.lookup x=some c->c≠b)/\∀p∈X.pn++pins,p.1≠b) (keep:∀b o,b≠X.env.locals->b∉X.fs->b∉ch->s.heap.get? b=some o->H b=none->h'.get? b=some o) (slot:∀b o,b≠X.env.locals->b∈X.fs->b∉ch->s.heap.get? b=some o->H b=none->∃sl,h'.get? b=some { o with slots:=sl }) (free:∀b o,b∉ch->s.heap.get? b=some o->H b=none->H' b=none) (there:∀b o,b∉ch->s.heap.get? b=some o->∃o',h'.get? b=some o') (tups:∀b xs,H b=some (.tup xs)->H' b=some (.tup xs)) (frzs:∀b o u,H b=some (.frz o u)->H' b=some (.frz o u)) (tbls:∀b ps,H b=some (.tbl ps)->∃more,H' b=some (.tbl (ps++more))) (ns:∀m,s.heap.Ns X.env.locals m->h'.Ns X.env.locals m) (hok:HOk X.prog X.w H' h') (hg:AllBare g'):
  Inv X pins σ H' { s with heap:=h',gens:=g',drawn:=d',toks:=t' }:=by
 have a5:∀b o,X.s₀.heap.get? b=some o->b≠X.env.locals:=λb o e=>qC8 (qB0 (qB3 e) I.ok.above);have a4:∀b o,X.s₀.heap.get? b=some o->b∉X.ex->b∉ch:=λb o e L hb=>by
  rcases (a3 b hb).1 with z|z
  .show L z
  .show absurd (qB0 (qB3 e) z) (qF2 _)
 have cellK:∀x c,X.env.cells.lookup x=some c->∀v,s.heap.IsCell c v->h'.IsCell c v:=λx c e v a6=>by
  obtain ⟨o,ho,hd⟩:=a6;have O:c∉ch:=λz=>(a3 c z).2.2.1 x c e rfl;by_cases hc:c∈X.fs
  .obtain ⟨sl,q⟩:=slot c o (I.cne x c e) hc O ho (I.freeC x c e);show ⟨_,q,hd⟩
  .show ⟨o,keep c o (I.cne x c e) hc O ho (I.freeC x c e),hd⟩
 refine ⟨I.ok,I.os,hg,⟨λb o e n hb L=>?_,λb o e n hb L=>?_,λb o e n L=>?_,λb o e L=>?_,λb xs e=>tups b xs (I.base.tups b xs e),λb o xs e=>frzs b o xs (I.base.frzs b o xs e),λb ps e=>?_⟩,?_,λx c e=>?_,?_,λx c e=>?_,λp hp=>?_,hok,I.len⟩
 .show keep b o (a5 b o e) hb (a4 b o e L) (I.base.keep b o e n hb L) (I.base.free b o e n L)
 .obtain ⟨sl,e1⟩:=I.base.slot b o e n hb L;obtain ⟨a7,e2⟩:=slot b _ (a5 b o e) hb (a4 b o e L) e1 (I.base.free b o e n L);show ⟨a7,e2⟩
 .obtain ⟨o',e1⟩:=I.base.there b o e L;show free b o' (a4 b o e L) e1 (I.base.free b o e n L)
 .obtain ⟨o',e1⟩:=I.base.there b o e L;show there b o' (a4 b o e L) e1
 .obtain ⟨m1,e1⟩:=I.base.tbls b ps e;obtain ⟨m2,e2⟩:=tbls b _ e1;show ⟨m1++m2,by rw[e2,Array.append_assoc]⟩
 .obtain ⟨m,hn,hl⟩:=I.loc;refine ⟨m,ns m hn,λi x v e1 e2 e3=>?_⟩;obtain ⟨u,r,l⟩:=hl i x v e1 e2 e3;refine ⟨u,r,?_⟩;rcases l with l|⟨k,c,e,z⟩
  .show .inl l
  .show .inr ⟨k,c,e,cellK x c e _ z⟩
 .obtain ⟨v,z⟩:=I.cell x c e;show ⟨v,cellK x c e v z⟩
 .obtain ⟨m,⟨o,_,_,ho,_⟩,_⟩:=I.loc;show free _ o (λz=>(a3 _ z).2.1 rfl) ho I.free
 .obtain ⟨v,o,ho,hd⟩:=I.cell x c e;show free c o (λz=>(a3 c z).2.2.1 x c e rfl) ho (I.freeC x c e)
 .obtain ⟨e,n,ne,nf,d⟩:=I.pin p hp;have O:p.1∉ch:=λz=>(a3 p.1 z).2.2.2 p hp rfl;show ⟨keep p.1 p.2 ne nf O e n,free p.1 p.2 O e n,ne,nf,d⟩
def Inv.un (I:Inv X pins σ H s) (u:Un X.fs [] H H' s.heap h') (hok:HOk X.prog X.w H' h'):Inv X pins σ H' { s with heap:=h',toks:=t' }:=by
 obtain ⟨m,⟨o,es,ep,ho,r⟩,_⟩:=id I.loc;obtain ⟨sl,hL⟩:=u.any ho I.free QX;show I.step (g':=s.gens) (d':=s.drawn) (ch:=[]) (λ_ z=>nomatch z) (λb o _ hb _ e n=>u.keep b o e n hb QX) (λb o _ hb _ e n=>u.slot b o e n hb QX) (λb o _ e n=>u.free b o e n QX) (λb o _ e=>u.there b o e QX) u.tups u.frzs u.tbls (λm' hm=>by
  obtain ⟨o',O,L,q,r'⟩:=hm;rw[ho]at q;cases q;show ⟨_,O,L,hL,r'⟩) hok I.bare
def Inv.call (I:Inv X pins σ H s) (u:Un (frs X.stack) ch H H' s.heap h') (hok:HOk X.prog X.w H' h') (hg:AllBare g') (L:∀b∈ch,(b∈X.ex\/X.s₀.heap.objs.size<=b)/\b≠X.env.locals/\(∀x c,X.env.cells.lookup x=some c->c≠b)/\∀p∈X.pn++pins,p.1≠b):
  Inv X pins σ H' { s with heap:=h',gens:=g',drawn:=d',toks:=t' }:=by
 obtain ⟨m,⟨o,es,ep,ho,r⟩,_⟩:=id I.loc;obtain ⟨sl,O⟩:=u.any ho I.free λz=>(L _ z).2.1 rfl;show I.step (ch:=ch) L (λb o O hb hc e n=>u.keep b o e n (λz=>(qB6.mp (I.stkSub b z)).elim O hb) hc) (λb o _ _ hc e n=>u.any e n hc) (λb o hc e n=>u.free b o e n hc) (λb o hc e=>u.there b o e hc) u.tups u.frzs u.tbls (λm' hm=>by
  obtain ⟨o',a4,a3,q,r'⟩:=hm;rw[ho]at q;cases q;show ⟨_,a4,a3,O,r'⟩) hok hg
def Inv.turned (I:Inv X pins σ H s) (k:∀b o,b≠it->s.heap.get? b=some o->h'.get? b=some o) (hn:H it=none) (O:it≠X.env.locals) (h1:it∈X.ex\/X.s₀.heap.objs.size<=it) (h2:∀x c,X.env.cells.lookup x=some c->c≠it) (h3:∀p∈X.pn++pins,p.1≠it):Inv X pins σ H { s with heap:=h',toks:=t' }:=by
 have L:∀b u,H b=some u->b≠it:=λb u e z=>by rw[z,hn]at e;cases e
 refine I.step (g':=s.gens) (d':=s.drawn) (ch:=[it]) (λb hb=>?_) (λb o _ _ hc e _=>k b o (λz=>hc (by simp [z])) e) (λb o _ _ hc e _=>⟨o.slots,k b o (λz=>hc (by simp [z])) e⟩) (λ_ _ _ _ n=>n)
  (λb o hc e=>⟨o,k b o (λz=>hc (by simp [z])) e⟩) (λ_ _ e=>e) (λ_ _ _ e=>e) (λb ps e=>⟨#[],by rw[e];simp⟩) (λm hm=>?_) (λb u e=>?_) I.bare
 .have e:b=it:=by simpa using hb
  subst e;show ⟨h1,O,h2,h3⟩
 .obtain ⟨o,es,ep,ho,r⟩:=hm;show ⟨o,es,ep,k _ o (Ne.symm O) ho,r⟩
 .refine (I.hok b u e).stay (λc v hc q=>k c v ?_ q) (λ_ q=>q) λ_ _ q=>q;rcases hc with z|z
  .rw[z];show L b u e
  .show L c _ z
def Inv.tok (I:Inv X pins σ H s)(t:Nat):Inv X pins σ H { s with toks:=t }:=I.un (h':=s.heap) (t':=t) Un.refl I.hok
def Inv.kept (I:Inv X pins σ H s)(k:∀b u,s.heap.get? b=some u->h'.get? b=some u):Inv X pins σ H { s with heap:=h',toks:=t' }:=I.un (Un.kept k) (I.hok.kept k)
def Inv.laid {a:Addr}(I:Inv X pins σ H s) (k:∀b u,s.heap.get? b=some u->h'.get? b=some u) (L:s.heap.objs.size<=a) (q:ObjOk X.prog X.w (upd H a o) h' a o):
  Inv X pins σ (upd H a o) { s with heap:=h',toks:=t' }:=I.un (Un.laid k L (I.hok.fresh L)) (I.hok.laid k L q)
def Inv.write (I:Inv X pins σ H s)(O:Mut (H x))(he:e=x\/H e=some (.own x))(k:∀b u,b≠e->s.heap.get? b=some u->h'.get? b=some u)(q:∃u,h'.get? e=some u)(L:ObjOk X.prog X.w (upd H x o) h' x o):Inv X pins σ (upd H x o) { s with heap:=h',toks:=t' }:=I.un (Un.write O he k q) (I.hok.write O he k q L)
def Inv.weak (I:Inv X pins σ H s) (hl:σ'.length=σ.length) (w:∀(i:Nat) v,σ'[i]?=some (some v)->σ[i]?=some (some v)):Inv X pins σ' H s:=
 ⟨I.ok,I.os,I.bare,I.base,let ⟨m,hn,hl'⟩:=I.loc;⟨m,hn,λi x v e1 e2 q=>hl' i x v e1 (w i v e2) q⟩,I.cell,I.free,I.freeC,I.pin,I.hok,hl.trans I.len⟩
def Inv.pins_of (I:Inv X pins σ H s) (h:∀p∈pins',s.heap.get? p.1=some p.2/\H p.1=none/\p.1≠X.env.locals/\p.1∉X.fs/\∀v,p.2.data≠.cell v):Inv X pins' σ H s:=
 ⟨I.ok,I.os,I.bare,I.base,I.loc,I.cell,I.free,I.freeC,λp q=>(qC6.mp q).elim (λz=>I.pin p (qD5 _ z)) (h p),I.hok,I.len⟩
def iL {N:Jk}(q:N.Nodup){i:Nat}(a:N[i]?=some x) (b:N[j]?=some x):i=j:=by
 obtain ⟨L,e1⟩:=qA8.mp a;obtain ⟨O,e2⟩:=qA8.mp b;show (List.getElem_inj q).mp (e1.trans e2.symm)
def fB (I:Inv X pins σ H s) (hN:X.N.Nodup) (hi:X.N[i]?=some x) (L:Loc X.env.scope x) (r:RelV v u) (h:∀s',Inv X pins (σ.set i (some v)) H s'->(∃a,Heap.SameBut a s.heap s'.heap/\(a=X.env.locals\/X.env.cells.lookup x=some a))->Q () s') (hf:X.fn x=true\/X.env.scope.names.lookup x=some .local:=by first|show .inl rfl|show .inr rfl|assumption):wpAny M A (storeName X.env x u) Q E s:=by
 obtain ⟨m,hn,hl⟩:=id I.loc;have a7:(X.env.scope.kind == .class||(X.env.scope.kind == .module&&X.env.locals != X.env.globals))=false:=by rw[I.ok.kind];rfl
 have a3:i<σ.length:=by rw[I.len];show (qA8.mp hi).1
 have cne:=I.cne;have tracked:∀{a:Addr}{h':Heap},(∃o,s.heap.get? a=some o/\H a=none)->Heap.SameBut a s.heap h'->HOk X.prog X.w H h':=λ{a h'} ha hs b ob e=>by
  obtain ⟨_,_,O⟩:=ha;refine (I.hok b ob e).stay (λc w' hc q=>(hs.2 c ?_).trans q) (λ_ q=>q) λ_ _ q=>q;rintro rfl;rcases hc with rfl|hc
  .rw[O]at e;cases e
  .rw[O]at hc;cases hc
 rcases L with hk|hk
 .refine wpAny_storeName_local hk hn (λh' b0 hs=>?_) a7;obtain ⟨oL,_,_,b3,_⟩:=id hn;refine h _ ⟨I.ok,I.os,I.bare,⟨λb o e n hb L=>?_,λb o e n hb L=>?_,I.base.free,λb o e L=>?_,I.base.tups,I.base.frzs,I.base.tbls⟩,⟨_,b0,λj y v' e1 e2 e3=>?_⟩,λy c e=>?_,I.free,I.freeC,λp hp=>?_,tracked ⟨oL,b3,I.free⟩ hs,by simpa using I.len⟩ ⟨_,hs,.inl rfl⟩
  .show (hs.2 b (qC8 (qB0 (qB3 e) I.ok.above))).trans (I.base.keep b o e n hb L)
  .obtain ⟨sl,e1⟩:=I.base.slot b o e n hb L;show ⟨sl,(hs.2 b (qC8 (qB0 (qB3 e) I.ok.above))).trans e1⟩
  .obtain ⟨o',e1⟩:=I.base.there b o e L;show ⟨o',(hs.2 b (qC8 (qB0 (qB3 e) I.ok.above))).trans e1⟩
  .by_cases hj:j=i
   .subst hj;rw[hi]at e1;cases e1;rw[qJ0 a3]at e2;cases e2;show ⟨u,r,.inl ⟨hk,QX⟩⟩
   .rw [qB7 (Ne.symm hj)]at e2
    obtain ⟨u',r',q⟩:=hl j y v' e1 e2 e3;refine ⟨u',r',?_⟩;rcases q with ⟨k,e⟩|⟨k,c,e,z⟩
    .refine .inl ⟨k,?_⟩
     have:y≠x:=λe=>hj (iL hN e1 (e ▸ hi))
     simp [this,e]
    .show .inr ⟨k,c,e,z.sameBut hs (cne y c e)⟩
  .obtain ⟨w',z⟩:=I.cell y c e;show ⟨w',z.sameBut hs (cne y c e)⟩
  .obtain ⟨e,n,ne,nf,d⟩:=I.pin p hp;show ⟨(hs.2 p.1 ne).trans e,n,ne,nf,d⟩
 .have a4:X.fn x=true:=by
   rcases hf with z|z
   .show z
   .rw[z]at hk;cases hk
  obtain ⟨c,hc⟩:=I.ok.has x (.inl hk);obtain ⟨w',z⟩:=I.cell x c hc;refine wpAny_storeName_cell I.ok.kind hk hc z (λh' a6 hs=>?_);obtain ⟨oc,a5,a8⟩:=id z;refine h { s with heap:=h' } ⟨I.ok,I.os,I.bare,⟨λb o e n hb L=>?_,λb o e n hb L=>?_,I.base.free,λb o e L=>?_,I.base.tups,I.base.frzs,I.base.tbls⟩,⟨m,hn.sameBut hs (Ne.symm (cne x c hc)),λj y v' e1 e2 e3=>?_⟩,λy c' e=>?_,I.free,I.freeC,λp hp=>?_,tracked ⟨oc,a5,I.freeC x c hc⟩ hs,by simpa using I.len⟩ ⟨c,hs,.inr hc⟩
  .show (hs.2 b (qC8 (qB0 (qB3 e) (I.ok.cab x c a4 hc)))).trans (I.base.keep b o e n hb L)
  .obtain ⟨sl,e1⟩:=I.base.slot b o e n hb L;show ⟨sl,(hs.2 b (qC8 (qB0 (qB3 e) (I.ok.cab x c a4 hc)))).trans e1⟩
  .obtain ⟨o',e1⟩:=I.base.there b o e L;show ⟨o',(hs.2 b (qC8 (qB0 (qB3 e) (I.ok.cab x c a4 hc)))).trans e1⟩
  .by_cases hj:j=i
   .subst hj;rw[hi]at e1;cases e1;rw[qJ0 a3]at e2;cases e2;show ⟨u,r,.inr ⟨.inl hk,c,hc,a6⟩⟩
   .rw [qB7 (Ne.symm hj)]at e2
    obtain ⟨u',r',q⟩:=hl j y v' e1 e2 e3;refine ⟨u',r',?_⟩;rcases q with q|⟨k,c',e,z'⟩
    .show .inl q
    .refine .inr ⟨k,c',e,z'.sameBut hs ?_⟩;rintro rfl;show hj (iL hN e1 (I.ok.inj _ _ _ e hc ▸ hi))
  .by_cases ab:c'=c
   .subst ab;show ⟨_,a6⟩
   .obtain ⟨w2,z2⟩:=I.cell y c' e;show ⟨w2,z2.sameBut hs ab⟩
  .obtain ⟨e,n,ne,nf,d⟩:=I.pin p hp;refine ⟨(hs.2 p.1 ?_).trans e,n,ne,nf,d⟩;intro q;rw[q,a5]at e;have q':oc=p.2:=Option.some.inj e;show d w' (by rw[<- q'];show a8)
def cw (I:Inv X pins σ H s) (q:X.N.Nodup) (hi:X.N[i]?=some x) (L:Loc X.env.scope x) (r:RelV v u) (h:∀s',Inv X pins (σ.set i (some v)) H s'->Q () s') (O:X.fn x=true\/X.env.scope.names.lookup x=some .local:=by first|show .inl rfl|show .inr rfl|assumption):wpAny M A (storeName X.env x u) Q E s:=
 fB I q hi L r (λs' I' _=>h s' I') O
def Inv.call' (I:Inv X pins σ H s) (O:s'.os=s.os) (u:Un (frs X.stack) ch H H' s.heap s'.heap) (hok:HOk X.prog X.w H' s'.heap) (L:AllBare s'.gens) (q:∀b∈ch,(b∈X.ex\/X.s₀.heap.objs.size<=b)/\b≠X.env.locals/\(∀x c,X.env.cells.lookup x=some c->c≠b)/\∀p∈X.pn++pins,p.1≠b):Inv X pins σ H' s':=by
 obtain ⟨h',g',d',t',o'⟩:=s';have e:o'=s.os:=O;subst e;show I.call (g':=g') (t':=t') (d':=d') u hok L q
abbrev XK:=Value->Option Addr->Hp->Prop
abbrev St:=List (Option V)
abbrev VK:=V->Hp->Prop
abbrev TE:=St->Hp->VK->Prop
abbrev TT:=St->Hp->(Bool->Hp->Prop)->Prop
abbrev TA:=St->Hp->(List V->Hp->Prop)->Prop
structure Ends where
 nx:St->Hp->Prop
 rt:VK
 bk:St->Hp->Prop:=λ_ _=>False
 ct:St->Hp->Prop:=λ_ _=>False
abbrev TS:=Ends->St->Hp->Prop
def EP (X:Cx)(pins:Jq)(σ:St)(Q:VK)(u:Value)(s':Shared):Prop:=∃v H',Inv X pins σ H' s'/\RelV v u/\Q v H'
def TP (X:Cx)(pins:Jq)(σ:St)(Q:Bool->Hp->Prop)(b:Bool)(s':Shared):Prop:=∃H',Inv X pins σ H' s'/\Q b H'
def AP (X:Cx)(pins:Jq)(σ:St)(Q:List V->Hp->Prop)(us:Jw)(s':Shared):Prop:=∃vs H',Inv X pins σ H' s'/\Vals vs us/\Q vs H'
def SP (X:Cx) (pins:Jq) (D:Ends) (f:Flow) (s':Shared):Prop:=
 match f with
 | .next=>∃q H',Inv X pins q H' s'/\D.nx q H'
 | .brk=>∃q H',Inv X pins q H' s'/\D.bk q H'
 | .cont=>∃q H',Inv X pins q H' s'/\D.ct q H'
 | .ret u=>∃v q H',Inv X pins q H' s'/\RelV v u/\D.rt v H'
def PE (X:Cx) (e:Expr) (t:TE):Prop:=
 ∀(pins:Jq) (s:Shared) (σ:St) (H:Hp) (Q:VK),Inv X pins σ H s->t σ H Q->wpAny (model X.prog X.w) X.A (eval e X.env) (EP X pins σ Q) X.xe s
def PT (X:Cx) (e:Expr) (t:TT):Prop:=
 ∀(pins:Jq) (s:Shared) (σ:St) (H:Hp) (Q:Bool->Hp->Prop),Inv X pins σ H s->t σ H Q->wpAny (model X.prog X.w) X.A (isTrue e X.env (eval e X.env)) (TP X pins σ Q) X.xe s
def PW (X:Cx) (e:Expr) (t:TT):Prop:=
 ∀(whole:Sem Value) (pins:Jq) (s:Shared) (σ:St) (H:Hp) (Q:Bool->Hp->Prop),Inv X pins σ H s->t σ H Q->wpAny (model X.prog X.w) X.A (isTrue e X.env whole) (TP X pins σ Q) X.xe s
def PW.pt (h:PW X e t):PT X e t:=h _
def PA (X:Cx) (es:Jx) (t:TA):Prop:=
 ∀(pos:Pos) (pins:Jq) (s:Shared) (σ:St) (H:Hp) (Q:List V->Hp->Prop),Inv X pins σ H s->t σ H Q->wpAny (model X.prog X.w) X.A (spliced (backTo pos (starEach es X.env))) (AP X pins σ Q) X.xe s
def PS (X:Cx) (st:Stmt) (t:TS):Prop:=
 ∀(pins:Jq) (s:Shared) (σ:St) (H:Hp) (D:Ends),Inv X pins σ H s->t D σ H->wpAny (model X.prog X.w) X.A (exec st X.env) (SP X pins D) X.xe s
def PSs (X:Cx) (st:List Stmt) (t:TS):Prop:=
 ∀(pins:Jq) (s:Shared) (σ:St) (H:Hp) (D:Ends),Inv X pins σ H s->t D σ H->wpAny (model X.prog X.w) X.A (execs st X.env) (SP X pins D) X.xe s
def thn {t:Sem α}(h:wpAny M A t Q E s)(q:∀a s,Q a s->Q' a s):wpAny M A t Q' E s:=qQ1 h q λ_ _ x=>x
def S9 (i:Nat):TE:=λσ H Q=>∃v,σ[i]?=some (some v)/\Q v H
def tC (v:V):TE:=λ_ H Q=>Q v H
def Q2 {X:Cx}{i:Nat}{x:Str}{pos:Pos}(O:X.N[i]?=some x) (L:Vis X.env.scope x) (hd:(x == ("__debug__" : Str))=false:=by decide) (q:(x == ("__classdict__" : Str))=false:=by decide):PE X (.Name x pos) (S9 i):=by
 intro pins s σ H Q I h;obtain ⟨v,e,h⟩:=h;obtain ⟨m,hn,hl⟩:=I.loc;obtain ⟨u,r,l⟩:=hl i x v O e L;have fin:EP X pins σ Q u s:=⟨v,H,I,r,h⟩;rcases l with ⟨hk,hm⟩|⟨hk,c,hc,hcell⟩
 .show wpAny_Name (wpAny_loadName_local I.ok.kind hk hn hm fin) hd
 .rcases hk with hk|hk
  .show wpAny_Name (wpAny_loadName_cell I.ok.kind hk hc hcell fin) hd
  .show wpAny_Name (wpAny_loadName_free I.ok.kind hk hc hcell fin q) hd
def pe_int {i j pos}:PE X (.Constant (.int i) j pos) (tC (.int i)):=λ_ _ _ H _ I h=>wpAny_Constant_int ⟨.int i,H,I.tok _,⟨_,rfl⟩,h⟩
def pe_bl {b j pos}:PE X (.Constant (.bool b) j pos) (tC (.bl b)):=λ_ _ _ H _ I h=>Constant_bool ⟨.bl b,H,I,rfl,h⟩
def pe_non {j pos}:PE X (.Constant .none j pos) (tC .non):=λ_ _ _ H _ I h=>Constant_none ⟨.non,H,I,rfl,h⟩
def pe_str {x j pos}:PE X (.Constant (.str x) j pos) (tC (.str x)):=λ_ _ _ H _ I h=>Calls.Constant_str ⟨.str x,H,I.tok _,⟨_,rfl⟩,h⟩
def Gl (X:Cx)(x:Str):Prop:=X.env.kindOf x=some .globalImplicit
def xl {X:Cx}{E:Jp}{pins:Jq}{s:Shared}{σ:St}{H:Hp}{x:Str}{u:Value}{pos:Pos}{Q:Jp}(I:Inv X pins σ H s) (q:Gl X x) (hm:X.mg x=some u) (h:Q u s) (hd:(x == ("__debug__" : Str))=false:=by decide):wpAny (model X.prog X.w) X.A (eval (.Name x pos) X.env) Q E s:=
 Calls.Name_function_global I.ok.kind q (Calls.loadGlobal_global (by rw[I.ok.glob];show I.mod.glob.keeps I.bk) hm h) hd
def F4 {X:Cx}{E:Jp}{pins:Jq}{s:Shared}{σ:St}{H:Hp}{x:Str}{u:Value}{pos:Pos}{Q:Jp}(I:Inv X pins σ H s) (O:Gl X x) (hm:X.mg x=none) (q:bootBuiltins x=some u) (h:Q u s) (hn:x ≠ "__name__" := by decide) (hd:(x == ("__debug__" : Str))=false:=by decide):wpAny (model X.prog X.w) X.A (eval (.Name x pos) X.env) Q E s:=by
 obtain ⟨mb,L,h2⟩:=I.mod.blt;show Calls.Name_function_global I.ok.kind O (Calls.loadGlobal_builtin (by rw[I.ok.glob];show I.mod.glob.keeps I.bk) hm (by rw[I.ok.blt];show L.keeps I.bk) ((h2 x hn).trans q) h) hd
def wC {X:Cx}{x:Str}{v:V}{u:Value}{pos:Pos}(q:Gl X x) (hm:X.mg x=none) (L:bootBuiltins x=some u) (r:RelV v u) (hn:x ≠ "__name__" := by decide) (hd:(x == ("__debug__" : Str))=false:=by decide):PE X (.Name x pos) (tC v):=
 λ_ _ _ H _ I h=>F4 I q hm L ⟨v,H,I,r,h⟩ hn hd
def PC (X:Cx) (O:CmpOp) (a b:Expr) (t:TE):Prop:=
 ∀ (pins:Jq) (s:Shared) (σ:St) (H:Hp) (Q:VK),Inv X pins σ H s->t σ H Q ->
  wpAny (model X.prog X.w) X.A (eval a X.env) (λv q=>wpAny (model X.prog X.w) X.A (eval b X.env) (λu L=>wpAny (model X.prog X.w) X.A (compareOp O v u) (EP X pins σ Q) X.xe L) X.xe q) X.xe s
def sE (b:Expr) (h:op≠.In) (q:op≠.NotIn):behindInMarks op b=false:=by
 have e1:(op == CmpOp.In)=false:=by cases op <;> first|rfl|show absurd rfl h
 have e2:(op == CmpOp.NotIn)=false:=by cases op <;> first|rfl|show absurd rfl q
 cases b <;> simp [behindInMarks,e1,e2]
def tB (t:TE):TT:=λσ H Q=>t σ H λx H1=>∃c,x=.bl c/\Q c H1
def Ay (h:PC X op a b t) (L:behindInMarks op b=false:=by first|show sE _ QV QV|rfl):PT X (.Compare a [op] [b] pos) (tB t):=by
 intro pins s σ H Q I hw;refine wpAny_isTrue_Compare1 (thn (h pins s σ H _ I hw) λv s1 L=>thn L λu s2 h2=>thn h2 λc s3 O=>?_) L;obtain ⟨x,H1,I1,r1,q1⟩:=O;obtain ⟨d,rfl,q⟩:=q1;cases r1;show qO7 ⟨H1,I1,q⟩
def Aw (h:PE X e t) (he:∀whole,isTrue e X.env whole=(do let v <- whole;standAt e.pos;holding [v] (truthy v)):=by intro _;rfl):PT X e (tB t):=by
 intro pins s σ H Q I hw;refine isTrue_plain (thn (h pins s σ H _ I hw) λv s1 L=>?_) (he _);obtain ⟨x,H1,I1,r1,O⟩:=L;obtain ⟨d,rfl,q⟩:=O;cases r1;show qO7 ⟨H1,I1,q⟩
def yS (t u:TT):TT:=λσ H Q=>t σ H λc H1=>if c=true then u σ H1 Q else Q false H1
def tOr (t u:TT):TT:=λσ H Q=>t σ H λc H1=>if c=true then Q true H1 else u σ H1 Q
def yK (t:TT):TT:=λσ H Q=>t σ H λc H1=>Q (!c) H1
def wm (ha:PT X a tA):PW X (.BoolOp .And [a] pos) tA:=by
 intro wh pins s σ H Q I h;refine isTrue_and (thn (ha pins s σ H Q I h) λc s1 e=>?_);cases c with
 |true=>show isTrue_and_nil e
 |false=>show e
def As (ha:PT X a tA):PW X (.BoolOp .Or [a] pos) tA:=by
 intro wh pins s σ H Q I h;refine isTrue_or (thn (ha pins s σ H Q I h) λc s1 e=>?_);cases c with
 |false=>show isTrue_or_nil e
 |true=>show e
def Au {rest:Jx}(ha:PT X a tA) (hb:PW X (.BoolOp .And (b::rest) pos) tB'):PW X (.BoolOp .And (a::b::rest) pos) (yS tA tB'):=by
 intro wh pins s σ H Q I h;refine isTrue_and (thn (ha pins s σ H _ I h) λc s1 q=>?_);obtain ⟨H1,O,L⟩:=q;cases c with
 |true=>show hb wh pins s1 σ H1 Q O L
 |false=>show ⟨H1,O,L⟩
def Ec {rest:Jx}(ha:PT X a tA) (hb:PW X (.BoolOp .Or (b::rest) pos) tB'):PW X (.BoolOp .Or (a::b::rest) pos) (tOr tA tB'):=by
 intro wh pins s σ H Q I h;refine isTrue_or (thn (ha pins s σ H _ I h) λc s1 q=>?_);obtain ⟨H1,O,L⟩:=q;cases c with
 |true=>show ⟨H1,O,L⟩
 |false=>show hb wh pins s1 σ H1 Q O L
def Ax (ha:PT X a tA):PT X (.UnaryOp .Not a pos) (yK tA):=by
 intro pins s σ H Q I h;show isTrue_not (ha pins s σ H (λc H1=>Q (!c) H1) I h)
def uH (q L:TE):TE:=λσ H Q=>q σ H λx H1=>∃c,x=.bl c/\if c=true then L σ H1 Q else Q (.bl false) H1
def AH {op}(h:PE X a t):PE X (.BoolOp op [a] pos) t:=λpins s σ H Q I hw=>BoolOp_one (h pins s σ H Q I hw)
def AJ {rest:Jx}(ha:PE X a ta) (hb:PE X (.BoolOp .And (b::rest) pos) tb):PE X (.BoolOp .And (a::b::rest) pos) (uH ta tb):=by
 intro pins s σ H Q I h;refine BoolOp_and (thn (ha pins s σ H _ I h) λv s1 L=>?_);obtain ⟨x,H1,O,r1,q⟩:=L;obtain ⟨c,rfl,q⟩:=q;cases r1;refine qO7 ?_;cases c with
 |true=>show hb pins s1 σ H1 Q O q
 |false=>show ⟨.bl false,H1,O,rfl,q⟩
def tIf (t:TT)(q L:TE):TE:=λσ H Q=>t σ H λc H1=>if c=true then q σ H1 Q else L σ H1 Q
def sf (hc:PT X c tA) (ha:PE X a ta) (hb:PE X b tb):PE X (.IfExp c a b pos) (tIf tA ta tb):=by
 intro pins s σ H Q I h;refine wpAny_IfExp (thn (hc pins s σ H _ I h) λd s1 q=>?_);obtain ⟨H1,O,L⟩:=q;cases d with
 |true=>show ha pins s1 σ H1 Q O L
 |false=>show hb pins s1 σ H1 Q O L
def SqL (K:Frag) (H:Hp) (a:Addr) (xs:List V):Prop:=
 Rd H a (.lst xs) \/
  ∃(o:Obj) (its:Jy) (n:Nat),K.lookup a=some o/\o.cls=.type "list" /\ o.dict=none/\o.data=.seq its n/\its.size<=sizeLine/\Vals xs its.toList
def SqT (K:Frag) (H:Hp) (a:Addr) (xs:List V):Prop:=
 Rd H a (.tup xs) \/
  ∃(o:Obj) (its:Jy) (n:Nat),K.lookup a=some o/\o.cls=.type "tuple" /\ o.data=.seq its n/\its.size<=sizeLine/\Vals xs its.toList
def absV:Value->Option V
 | .none=>some .non
 | .bool b=>some (.bl b)
 | .int i _=>some (.int i)
 | .str x _=>some (.str x)
 | .bytes b _=>some (.byt b)
 | .float b _=>some (.flt b)
 | .ref a=>some (.ref a)
 | .type n=>some (.ty n)
 |_=>none
def RelV.abs (r:RelV x u):absV u=some x:=by
 cases x with
 |non=>cases r;rfl
 |bl _=>cases r;rfl
 |int _=>obtain ⟨t,rfl⟩:=r;rfl
 |str _=>obtain ⟨t,rfl⟩:=r;rfl
 |byt _=>obtain ⟨t,rfl⟩:=r;rfl
 |flt _=>obtain ⟨t,rfl⟩:=r;rfl
 |ref _=>cases r;rfl
 |ty _=>cases r;rfl
def RelV.inj (r:RelV x u)(q:RelV y u):x=y:=Option.some.inj (r.abs.symm.trans q.abs)
def Vals.inj:∀{xs q:List V}{us:Jw},Vals xs us->Vals q us->xs=q:=by
 intro xs q us a
 induction a generalizing q with
 |nil=>intro b;cases b;rfl
 | cons r t L=>
  intro b;cases b with
  |cons O t'=>rw[r.inj O,L t']
def SqL.of {K:Frag}(h:H a=some (.lst xs)):SqL K H a xs:=.inl (.inl h)
def SqT.of {K:Frag}(h:H a=some (.tup xs)):SqT K H a xs:=.inl (.inl h)
def Inv.list {σ:St}(I:Inv X pins σ H s) (h:SqL X.K H a xs):∃its:List Value,Vals xs its/\PlainL s.heap a its.toArray/\xs.length<=sizeLine:=by
 rcases h with h|⟨o,its,n,hk,hc,hd,hs,hz,r⟩
 .obtain ⟨z,its,n,r,e⟩:=h.ok I.hok;show ⟨its,r,⟨_,n,e,rfl,rfl,rfl⟩,z⟩
 .refine ⟨its.toList,r,⟨o,n,I.kIn a o hk,hc,hd,by simpa using hs⟩,?_⟩;have e:=r.length;simp only [qC7]at e;omega
def Inv.tuple {σ:St}(I:Inv X pins σ H s) (h:SqT X.K H a xs):∃its:List Value,Vals xs its/\IsTup s.heap a its.toArray/\xs.length<=sizeLine:=by
 rcases h with h|⟨o,its,n,hk,hc,hs,hz,r⟩
 .obtain ⟨z,its,r,p⟩:=h.ok I.hok;show ⟨its,r,p,z⟩
 .refine ⟨its.toList,r,⟨o,I.kIn a o hk,hc,n,by simpa using hs⟩,?_⟩;have e:=r.length;simp only [qC7]at e;omega
def Inv.list_inj {σ:St}(I:Inv X pins σ H s) (h:SqL X.K H a xs) (h':SqL X.K H a ys):xs=ys:=by
 obtain ⟨its,r,⟨o,n,e,_,_,d⟩,_⟩:=I.list h;obtain ⟨its',L,⟨o',O,q,_,_,d'⟩,_⟩:=I.list h';rw[e]at q;cases q;rw[d]at d';injection d' with d1 _
 have:its=its':=by simpa using congrArg Array.toList d1
 subst this;show r.inj L
def Inv.tuple_inj {σ:St}(I:Inv X pins σ H s) (h:SqT X.K H a xs) (h':SqT X.K H a ys):xs=ys:=by
 obtain ⟨its,r,⟨o,e,_,n,d⟩,_⟩:=I.tuple h;obtain ⟨its',L,⟨o',q,_,O,d'⟩,_⟩:=I.tuple h';rw[e]at q;cases q;rw[d]at d';injection d' with d1 _
 have:its=its':=by simpa using congrArg Array.toList d1
 subst this;show r.inj L
abbrev Cx.wish (X:Cx)(E:Jp):Cx:={ X with xe:=E }
abbrev Cx.nox (X:Cx):Cx:=X.wish λ_ _=>False
def Cx.Ok.wish {X:Cx}(ok:X.Ok) (E:Jp):(X.wish E).Ok:=
 ⟨ok.mod,ok.kind,ok.glob,ok.blt,ok.above,ok.inj,ok.has,ok.cab,ok.hd,ok.frames,ok.stk,ok.exf,ok.bs,ok.bsz,ok.noex,ok.exfs,ok.funs,ok.frf⟩
def Cx.Ok.unwish {X:Cx}(ok:(X.wish E).Ok):X.Ok:=
 ⟨ok.mod,ok.kind,ok.glob,ok.blt,ok.above,ok.inj,ok.has,ok.cab,ok.hd,ok.frames,ok.stk,ok.exf,ok.bs,ok.bsz,ok.noex,ok.exfs,ok.funs,ok.frf⟩
def Inv.wish {σ:St}(I:Inv X pins σ H s)(E:Jp):Inv (X.wish E) pins σ H s:=⟨I.ok.wish E,I.os,I.bare,I.base,I.loc,I.cell,I.free,I.freeC,I.pin,I.hok,I.len⟩
def Inv.unwish {σ:St}(I:Inv (X.wish E) pins σ H s):Inv X pins σ H s:=⟨I.ok.unwish,I.os,I.bare,I.base,I.loc,I.cell,I.free,I.freeC,I.pin,I.hok,I.len⟩
def SP.unwish (h:SP (X.wish E) pins D f s'):SP X pins D f s':=by
 cases f with
 |next=>obtain ⟨L,H',I,q⟩:=h;show ⟨L,H',I.unwish,q⟩
 |brk=>obtain ⟨L,H',I,q⟩:=h;show ⟨L,H',I.unwish,q⟩
 |cont=>obtain ⟨L,H',I,q⟩:=h;show ⟨L,H',I.unwish,q⟩
 |ret u=>obtain ⟨v,L,H',I,r,q⟩:=h;show ⟨v,L,H',I.unwish,r,q⟩
def PSs.nox {st:List Stmt}(h:PSs X.nox st t):PSs X st t:=λpins s σ H D I hw=>
 qQ1 (h pins s σ H D (I.wish _) hw) (λ_ _ q=>q.unwish) λ_ _ z=>False.elim z
def tNext:TS:=λD σ H=>D.nx σ H
def yI (t u:TS):TS:=λD σ H=>t { D with nx:=u D } σ H
def pss_nil:PSs X [] tNext:=λ_ _ σ H _ I h=>qS1 ⟨σ,H,I,h⟩
def rX {st:Stmt}{rest:List Stmt}(O:PS X st t) (h2:PSs X rest u):PSs X (st::rest) (yI t u):=by
 intro pins s σ H D I h;refine wpAny_execs_cons (thn (O pins s σ H { D with nx:=u D } I h) λf s1 q=>?_);cases f with
 | next=>
  obtain ⟨L,H',I',q⟩:=q;show h2 pins s1 L H' D I' q
 |ret v=>show q
 |brk=>show q
 |cont=>show q
def wo {st:Stmt}(L:PS X st t):PSs X [st] t:=by
 intro pins s σ H D I h;refine wpAny_execs_cons (thn (L pins s σ H D I h) λf s1 q=>?_);cases f with
 |next=>show qS1 q
 |ret v=>show q
 |brk=>show q
 |cont=>show q
def tCont:TS:=λD σ H=>D.ct σ H
def ps_continue:PS X (.Continue pos) tCont:=λ_ _ σ H _ I h=>wpAny_Continue ⟨σ,H,I,h⟩
def Inv.quiet {σ:St}(I:Inv X pins σ H s):interactive X.env=false:=by simp [interactive,I.ok.kind]
def lZ (q:TE):TS:=λD σ H=>q σ H λ_ H1=>D.nx σ H1
def kK (O:PE X e te) (hs:swapsWith e none pos.line X.env=pure false:=by rfl):PS X (.Expr e pos) (lZ te):=by
 intro pins s σ H D I h;show wpAny_Expr_any (thn (O pins s σ H _ I h) λv s1 q=>by obtain ⟨x,H1,I1,r1,L⟩:=q;show ⟨σ,H1,I1,L⟩) I.quiet hs
def lY (q:TE):TS:=λD σ H=>q σ H D.rt
def oK (O:PE X e te):PS X (.Return (some e) pos) (lY te):=by
 intro pins s σ H D I h;show wpAny_Return_some (thn (O pins s σ H _ I h) λv s1 q=>by obtain ⟨x,H1,I1,r1,L⟩:=q;show ⟨x,σ,H1,I1,r1,L⟩)
def yM (c:TT)(t u:TS):TS:=λD σ H=>c σ H λb H1=>if b=true then t D σ H1 else u D σ H1
def Ed (hc:PT X c tc) (ha:PSs X a t) (hb:PSs X b u):PS X (.If c a b pos) (yM tc t u):=by
 intro pins s σ H D I h;refine wpAny_If (thn (hc pins s σ H _ I h) λd s1 q=>?_);obtain ⟨H1,O,L⟩:=q;cases d with
 |true=>show ha pins s1 σ H1 D O L
 |false=>show hb pins s1 σ H1 D O L
def tNever:TS:=λ_ _ _=>False
def ps_never {st:Stmt}:PS X st tNever:=λ_ _ _ _ _ _ h=>h.elim
abbrev TG:=V->St->Hp->(St->Hp->Prop)->Prop
abbrev TGs:=List V->St->Hp->(St->Hp->Prop)->Prop
def PG (X:Cx) (target:Expr) (t:TG):Prop:=
 ∀ (pins:Jq) (s:Shared) (σ:St) (H:Hp) (v:V) (u:Value) (Q:St->Hp->Prop),Inv X pins σ H s->RelV v u->t v σ H Q ->
  wpAny (model X.prog X.w) X.A (assign target X.env u) (λ_ s'=>∃q H',Inv X pins q H' s'/\Q q H') X.xe s
def PGs (X:Cx) (L:Jx) (t:TGs):Prop:=
 ∀ (pins:Jq) (s:Shared) (σ:St) (H:Hp) (vs:List V) (us:Jw) (Q:St->Hp->Prop),Inv X pins σ H s->Vals vs us->t vs σ H Q ->
  wpAny (model X.prog X.w) X.A (assignInOrder ((assignEach L X.env).map (·.2)) us) (λ_ s'=>∃q H',Inv X pins q H' s'/\Q q H') X.xe s
abbrev TSet:=V->V->V->Hp->(Hp->Prop)->Prop
def DL (X:Cx) (t:TSet):Prop:=
 ∀ (pins:Jq) (s:Shared) (σ:St) (H:Hp) (o i v:V) (q L u:Value) (Q:Hp->Prop),Inv X pins σ H s->RelV o q->RelV i L->RelV v u->t o i v H Q ->
  wpAny (model X.prog X.w) X.A (setItem q L u) (λ_ s'=>∃H',Inv X pins σ H' s'/\Q H') X.xe s
abbrev TIp:=V->V->Hp->VK->Prop
def PIp (X:Cx) (q:Operator) (t:TIp):Prop:=
 ∀ (pins:Jq) (s:Shared) (σ:St) (H:Hp) (x y:V) (v u:Value) (Q:VK),Inv X pins σ H s->RelV x v->RelV y u->t x y H Q ->
  wpAny (model X.prog X.w) X.A (inplaceOp q v u) (EP X pins σ Q) X.xe s
def G8 (i:Nat):TG:=λv σ H Q=>Q (σ.set i (some v)) H
def e7 {X:Cx}{pos:Pos}{i:Nat}{x:Str}(O:X.N.Nodup) (hi:X.N[i]?=some x) (q:Loc X.env.scope x) (hf:X.fn x=true\/X.env.scope.names.lookup x=some .local:=by first|show .inl rfl|show .inr rfl|assumption):PG X (.Name x pos) (G8 i):=by
 intro pins s σ H v u Q I r h;show wpAny_assign_Name (cw I O hi q r (λs' L=>⟨_,H,L,h⟩) hf)
def gNil:TGs:=λvs σ H Q=>vs = []/\Q σ H
def mU (t:TG)(u:TGs):TGs:=λvs σ H Q=>∃v r,vs=v::r/\t v σ H λq H'=>u r q H' Q
def C7:PGs X [] gNil:=by
 intro pins s σ H vs us Q I r h;obtain ⟨e,h⟩:=h;subst e;cases r;show assignInOrder_nil ⟨σ,H,I,h⟩
def j7 (h1:PG X e t) (h2:PGs X es u) (hs:(assignEach (e::es) X.env).map (·.2)=assign e X.env::(assignEach es X.env).map (·.2):=by rfl):PGs X (e::es) (mU t u):=by
 intro pins s σ H vs us Q I r h;obtain ⟨v,vr,e1,h⟩:=h;subst e1;cases r with
 | cons r rr=>
  rw[hs];refine assignInOrder_cons (thn (h1 pins s σ H _ _ _ I r h) λ_ s1 q=>?_);obtain ⟨L,H1,I1,O⟩:=q;show h2 pins s1 L H1 _ _ Q I1 rr O
def mT (K:Frag)(n:Nat)(t:TGs):TG:=λv σ H Q=>∃a xs,v=.ref a/\SqT K H a xs/\xs.length=n/\t xs σ H Q
def AF {X:Cx}{pos:Pos}{es:Jx}{k:Nat}{t:TGs}{n:Nat}(hc:X.calm=true) (h:PGs X es t) (hn:(assignEach es X.env).length=n:=by rfl) (q:(assignEach es X.env).findIdx? (·.1)=none:=by rfl):PG X (.Tuple es k pos) (mT X.K n t):=by
 intro pins s σ H v u Q I r hw;obtain ⟨a,xs,e1,O,hl,hw⟩:=hw;subst e1;cases r;obtain ⟨its,rv,ht,hz⟩:=I.tuple O;refine assign_Tuple_tuple (I.ok.hd hc) ht (by simp [hn,<- hl,rv.length]) q λh' L=>?_;have I1:Inv X pins σ H { s with heap:=h' }:=I.kept (t':=s.toks) λb o e=>L b o (qC8 (qB3 e)) e;show h pins _ σ H xs _ Q I1 (by simpa using rv) hw
def gSub (L ti:TE)(t:TSet):TG:=λv σ H Q=>L σ H λo H1=>ti σ H1 λi H2=>t o i v H2 λq=>Q σ q
def AG {X:Cx}{pos:Pos}{o i:Expr}{to ti:TE}{t:TSet}(ho:PE X o to) (hi:PE X i ti) (hs:DL X t) (ha:∀v,assign (.Subscript o i pos) X.env v=(do
   let q <- holding [v] (eval o X.env)
   let iv <- holding [v,q] (eval i X.env)
   standAt pos
   holding [v,q,iv] (setItem q iv v)
   release [v,q,iv] []):=by intro _;rfl):PG X (.Subscript o i pos) (gSub to ti t):=by
 intro pins s σ H v u Q I r h;rw[ha];refine qA0 (qO3 (thn (ho pins s σ H _ I h) λq s1 O=>?_));obtain ⟨x,H1,I1,r1,q1⟩:=O;refine qA0 (qO3 (thn (hi pins s1 σ H1 _ I1 q1) λiv s2 a3=>?_));obtain ⟨y,H2,I2,r2,q2⟩:=a3;refine qA0 (wpAny_standAt (qA0 (qO3 (thn (hs pins s2 σ H2 x y v q iv u _ I2 r1 r2 r q2) λ_ s3 L=>?_))));obtain ⟨H3,I3,q3⟩:=L;show wpAny_release ⟨σ,H3,I3,q3⟩
def V9 (q:TE)(g:TG):TS:=λD σ H=>q σ H λx H1=>g x σ H1 D.nx
def AB {X:Cx}{pos:Pos}{tg e:Expr}{O:TE}{g:TG}(he:PE X e O) (hg:PG X tg g) (hs:swapsWithSole [tg] e pos.line X.env=pure false:=by rfl) (hw:swappedStores [tg] e X.env=pure none:=by rfl) (h1:(assignEach [tg] X.env).map (·.2) = [assign tg X.env]:=by rfl):PS X (.Assign [tg] e pos) (V9 O g):=by
 intro pins s σ H D I h;refine wpAny_Assign_stores (thn (he pins s σ H _ I h) λv s1 L=>?_) hs hw;obtain ⟨x,H1,I1,r1,q1⟩:=L;rw[h1];show thn (hg pins s1 σ H1 x v _ I1 r1 q1) λ_ s2 q=>q
def W8 {X:Cx}{pos:Pos}{i:Nat}{x:Str}{e:Expr}{L:TE}{pos':Pos}(hN:X.N.Nodup) (hi:X.N[i]?=some x) (O:Loc X.env.scope x) (he:PE X e L) (hs:swapsWith e (some (.Name x pos')) pos.line X.env=pure false:=by rfl) (hf:X.fn x=true\/X.env.scope.names.lookup x=some .local:=by first|show .inl rfl|show .inr rfl|assumption):
  PS X (.Assign [.Name x pos'] e pos) (V9 L (G8 i)):=by
 intro pins s σ H D I h;refine wpAny_Assign_Name (thn (he pins s σ H _ I h) λv s1 q=>?_) hs;obtain ⟨y,H1,I1,r1,q1⟩:=q;show cw I1 hN hi O r1 (λs2 I2=>⟨_,H1,I2,q1⟩) hf
def yQ (i:Nat)(q:TE)(ti:TIp):TS:=λD σ H=>∃x,σ[i]?=some (some x)/\q σ H λy H1=>ti x y H1 λz H2=>D.nx (σ.set i (some z)) H2
def AA (hN:X.N.Nodup) (hi:X.N[i]?=some x) (hx:Loc X.env.scope x) (he:PE X e te) (ho:PIp X op ti) (hf:X.fn x=true\/X.env.scope.names.lookup x=some .local:=by first|show .inl rfl|show .inr rfl|assumption):
  PS X (.AugAssign (.Name x pos') op e pos) (yQ i te ti):=by
 intro pins s σ H D I h;obtain ⟨v,e1,h⟩:=h;obtain ⟨m,hn,hl⟩:=I.loc;have a4:Vis X.env.scope x:=by rcases hx with k|k;show .inl k;show .inr (.inl k)
 obtain ⟨u,r,l⟩:=hl i x v hi e1 a4;refine wpAny_AugAssign_Name ?_;have go:wpAny (model X.prog X.w) X.A (eval e X.env) (λw q=>wpAny (model X.prog X.w) X.A (inplaceOp op u w) (λr a3=>wpAny (model X.prog X.w) X.A (storeName X.env x r) (λ_=>SP X pins D .next) X.xe a3) X.xe q) X.xe s:=by
  refine thn (he pins s σ H _ I h) λw s1 L=>?_;obtain ⟨y,H1,I1,r1,q1⟩:=L;refine thn (ho pins s1 σ H1 v y u w _ I1 r r1 q1) λz s2 O=>?_;obtain ⟨zv,H2,I2,r2,q2⟩:=O;show cw I2 hN hi hx r2 (λs3 I3=>⟨_,H2,I3,q2⟩) hf
 rcases l with ⟨hk,hm⟩|⟨hk,c,hc,hcell⟩
 .show wpAny_loadName_local I.ok.kind hk hn hm go
 .rcases hk with hk|hk
  .show wpAny_loadName_cell I.ok.kind hk hc hcell go
  .rcases hx with k|k
   .have:X.env.scope.names.lookup x=some .free:=hk
    rw[k]at this;cases this
   .have:X.env.scope.names.lookup x=some .free:=hk
    rw[k]at this;cases this
def ipI (f:Int->Int->Int):TIp:=λx y H Q=>∃i j,x=.int i/\y=.int j/\Q (.int (f i j)) H
def BM:PIp X .Add (ipI λi j=>i+j):=by
 intro pins s σ H x y v u Q I O L h;obtain ⟨i,j,e1,e2,q⟩:=h;subst e1;subst e2;obtain ⟨t,rfl⟩:=O;obtain ⟨t',rfl⟩:=L;show iadd_int ⟨.int _,H,I.tok _,⟨_,rfl⟩,q⟩
def nT (c:TT) (O:TS):TS:=λD σ H=>∃W:Nat->St->Hp->Prop,(∃m,W m σ H)/\∀m σ H,W m σ H ->
 c σ H λb H1=>if b=true then ∃N:St->Hp->Prop,(∀q H',N q H'->∃L,L<m/\W L q H')/\O { D with nx:=N,ct:=N,bk:=D.nx } σ H1 else D.nx σ H1
def rY (hp:PassesOwn (model X.prog X.w) X.A X.env X.xe) (hc:PT X c tc) (hb:PSs X body tb):PS X (.While c body [] pos) (nT tc tb):=by
 intro pins s σ H D I h;obtain ⟨W,⟨m0,w0⟩,turn⟩:=h;refine wpAny_While (codeAny_whileLoop (λn s'=>∃a3 H',Inv X pins a3 H' s'/\W n a3 H') ?_ m0 ⟨σ,H,I,w0⟩);rintro n s1 ⟨L,H1,I1,w1⟩;refine qP1 hp (thn (hc pins s1 L H1 _ I1 (turn n L H1 w1)) λb s2 O=>?_);obtain ⟨H2,I2,q2⟩:=O;cases b with
 | true=>
  obtain ⟨N,hN,q2⟩:=q2;rw[qA2 rfl];refine qP1 hp (thn (hb pins s2 L H2 _ I2 q2) λf s3 q3=>?_);cases f with
  | next=>
   obtain ⟨q,H3,I3,n3⟩:=q3;obtain ⟨m',hm,w3⟩:=hN q H3 n3;show ⟨m',hm,q,H3,I3,w3⟩
  | cont=>
   obtain ⟨q,H3,I3,n3⟩:=q3;obtain ⟨m',hm,w3⟩:=hN q H3 n3;show ⟨m',hm,q,H3,I3,w3⟩
  |brk=>show q3
  |ret v=>show q3
 | false=>
  rw[qA4 qA3];show qS1 ⟨L,H2,I2,q2⟩
structure It where
 go:Nat->Hp->Prop
 yld:Nat->Hp->V->Hp->Prop
 stop:Nat->Hp->Prop
def E6 (X:Cx) (pins:Jq) (H:Hp) (b:Addr):Prop:=
 H b=none/\b≠X.env.locals/\b∉X.fs/\(b∈X.ex\/X.s₀.heap.objs.size<=b)/\(∀x c,X.env.cells.lookup x=some c->c≠b)/\∀p∈X.pn++pins,p.1≠b
def Inv.fpOk {σ:St}{b:Addr}(I:Inv X pins σ H s) (hb:s.heap.objs.size<=b) (hn:H' b=none):E6 X pins H' b:=by
 refine ⟨hn,qL9 (qB0 I.lt hb),I.nofs hb,.inr (qB1 I.sz hb),λx c e z=>?_,λp L z=>?_⟩
 .obtain ⟨v,q⟩:=I.cell x c e;show absurd (qB0 q.lt (by rw[z];show hb)) (qF2 _)
 .show absurd (qB0 (qB3 (I.pin p L).1) (by rw[z];show hb)) (qF2 _)
structure Turn (P:Program) (w:World) (K:Frag) (tg:Expr) (J:It) (fp:List Addr) (it:Addr) (tn:Nat->Heap->Prop):Prop where
 mem:it∈fp
 obj:∀i h,tn i h->∀b∈fp,∃o,h.get? b=some o/\∀v,o.data≠.cell v
 keep:∀i h h',tn i h->(∀b∈fp,∀o,h.get? b=some o->h'.get? b=some o)->tn i h'
 item:∀(X:Cx),X.prog=P->X.w=w->X.K=K->X.calm=true->∀(i:Nat) (pins:Jq) (s:Shared) (σ:St) (H:Hp) (E:Jp),Inv X pins σ H s->(∀b∈fp,E6 X pins H b)->tn i s.heap->J.go i H ->
  wpAny (model P w) X.A (pyNext (.ref it)) (λr s1=>∃u,r=some u /\
   wpAny (model P w) X.A (letOwnedTupleGo tg (.ref it) u) (λ_ s2=>∃x H',Inv X pins σ H' s2/\RelV x u/\J.yld i H x H'/\tn (i+1) s2.heap/\∀b∈fp,H' b=none) E s1) E s
 done:∀(X:Cx),X.prog=P->X.w=w->X.K=K->X.calm=true->∀(i:Nat) (pins:Jq) (s:Shared) (σ:St) (H:Hp) (E:Jp),Inv X pins σ H s->(∀b∈fp,E6 X pins H b)->tn i s.heap->J.stop i H ->
  wpAny (model P w) X.A (pyNext (.ref it)) (λr s1=>r=none/\Inv X pins σ H s1) E s
 self:∀(A:Around) (i:Nat) (s:Shared) (Q:Jp) (E:Jp),tn i s.heap->Q (.ref it) s->wpAny (model P w) A (pyIter (.ref it)) Q E s
abbrev TI:=St->Hp->(It->Hp->Prop)->Prop
def PIE (X:Cx) (pins:Jq) (σ:St) (tg:Expr) (R:It->Hp->Prop) (q:Value) (s2:Shared):Prop:=
 ∃(it:Addr) (fp:List Addr) (tn:Nat->Heap->Prop) (J:It) (H':Hp),q=.ref it/\Inv X pins σ H' s2/\Turn X.prog X.w X.K tg J fp it tn/\tn 0 s2.heap/\(∀b∈fp,E6 X pins H' b)/\R J H'
def PI (X:Cx) (tg iter:Expr) (q:TI):Prop:=
 ∀ (pins:Jq) (s:Shared) (σ:St) (H:Hp) (R:It->Hp->Prop),Inv X pins σ H s->q σ H R ->
  wpAny (model X.prog X.w) X.A (eval iter X.env) (λv s1=>wpAny (model X.prog X.w) X.A (pyIter v) (PIE X pins σ tg R) X.xe s1) X.xe s
def gE (L:s.heap.get? it=some o) (hc:o.cls=.type n) (hd:o.data=.fields vs) (hn:["enumerate","zip","dict_itemiterator","dict_reverseitemiterator","odict_iterator","itertools.zip_longest","itertools.pairwise"].contains n=false) (q:Q () s):wpAny M A (letOwnedTupleGo tg (.ref it) u) Q E s:=by
  unfold letOwnedTupleGo;cases tg <;> first
    |show qN6 q
    | (cases u <;> first
        |show qN6 q
        | (refine qA0 (wpAny_load L ?_)
           rw[hc,hd]
           change wpAny M A (if (["enumerate","zip","dict_itemiterator","dict_reverseitemiterator","odict_iterator","itertools.zip_longest","itertools.pairwise"].contains n&&vs[0]? == some (rawInt _))=true then _ else _) Q E s;rw[qA4 (by intro h;rw[hn,qT2]at h;cases h)];show qN6 q))
def Itl (K:Frag) (a:Addr):It:=
 ⟨λi H=>∃xs x,SqL K H a xs/\xs[i]?=some x,λi H x H'=>H'=H/\∀xs,SqL K H a xs->xs[i]?=some x,λi H=>∃xs,SqL K H a xs/\xs.length<=i⟩
def Itt (K:Frag) (a:Addr):It:=
 ⟨λi H=>∃xs x,SqT K H a xs/\xs[i]?=some x,λi H x H'=>H'=H/\∀xs,SqT K H a xs->xs[i]?=some x,λi H=>∃xs,SqT K H a xs/\xs.length<=i⟩
def Itr (lo:Int)(n:Nat):It:=⟨λi _=>i<n,λi H x H'=>H'=H/\x=.int (lo+i),λi _=>n<=i⟩
def nQ {K:Frag}(a it:Addr):Turn P w K tg (Itl K a) [it] it (λi h=>h.IsListIter it a i) where
 mem:=QX
 obj:=λi h st b hb=>by
  have e:b=it:=by simpa using hb
  subst e;obtain ⟨o,e,c,d⟩:=st;show ⟨o,e,λv z=>by rw[d]at z;cases z⟩
 keep:=λi h h' st k=>st.at λo e=>k it QX o e
 item:=by
  intro X hP hw hK hc i pins s σ H E I O st hg;subst hP hw hK;obtain ⟨xs,x,L,hx⟩:=hg;obtain ⟨its,rv,p,hz⟩:=I.list L;obtain ⟨u,hu,ru⟩:=rv.get hx;obtain ⟨f0,f1,f2,f3,f4,f5⟩:=O it QX;refine wpAny_pyNext_list_item st p.isList (x:=u) (by simpa using hu) λh' q sb=>?_;have I1:Inv X pins σ H { s with heap:=h' }:=I.turned (t':=s.toks) (λb o hb e=>(sb.2 b hb).trans e) f0 f1 f3 f4 f5;obtain ⟨o,e,c,d⟩:=id q;show ⟨u,rfl,gE (s:={ s with heap:=h' }) e c d QV ⟨x,H,I1,ru,⟨rfl,λys hy=>by rw[I.list_inj hy L];show hx⟩,q,λb hb=>(O b hb).1⟩⟩
 done:=by
  intro X hP hw hK hc i pins s σ H E I O st hg;subst hP hw hK;obtain ⟨xs,L,hx⟩:=hg;obtain ⟨its,rv,p,hz⟩:=I.list L;obtain ⟨f0,f1,f2,f3,f4,f5⟩:=O it QX;have hl:=rv.length;show wpAny_pyNext_list_end (I.ok.hd hc) st p.isList (by simp;omega) λh' eb=>⟨rfl,I.turned (t':=s.toks) (λb o hb e=>eb b o hb e) f0 f1 f3 f4 f5⟩
 self:=λ_ _ _ _ _ st h=>wpAny_pyIter_listiter st h
def lU {K:Frag}(a it:Addr):Turn P w K tg (Itt K a) [it] it (λi h=>h.IsTupleIter it a i) where
 mem:=QX
 obj:=λi h st b hb=>by
  have e:b=it:=by simpa using hb
  subst e;obtain ⟨o,e,c,d⟩:=st;show ⟨o,e,λv z=>by rw[d]at z;cases z⟩
 keep:=λi h h' st k=>st.at λo e=>k it QX o e
 item:=by
  intro X hP hw hK hc i pins s σ H E I O st hg;subst hP hw hK;obtain ⟨xs,x,L,hx⟩:=hg;obtain ⟨its,rv,p,hz⟩:=I.tuple L;obtain ⟨u,hu,ru⟩:=rv.get hx;obtain ⟨f0,f1,f2,f3,f4,f5⟩:=O it QX;refine wpAny_pyNext_tuple_item st (show s.heap.IsTuple a its.toArray from p) (x:=u) (by simpa using hu) λh' q sb=>?_;have I1:Inv X pins σ H { s with heap:=h' }:=I.turned (t':=s.toks) (λb o hb e=>(sb.2 b hb).trans e) f0 f1 f3 f4 f5;obtain ⟨o,e,c,d⟩:=id q;show ⟨u,rfl,gE (s:={ s with heap:=h' }) e c d QV ⟨x,H,I1,ru,⟨rfl,λys hy=>by rw[I.tuple_inj hy L];show hx⟩,q,λb hb=>(O b hb).1⟩⟩
 done:=by
  intro X hP hw hK hc i pins s σ H E I O st hg;subst hP hw hK;obtain ⟨xs,L,hx⟩:=hg;obtain ⟨its,rv,p,hz⟩:=I.tuple L;obtain ⟨f0,f1,f2,f3,f4,f5⟩:=O it QX;have hl:=rv.length;show wpAny_pyNext_tuple_end (I.ok.hd hc) st (show s.heap.IsTuple a its.toArray from p) (by simp;omega) λh' eb=>⟨rfl,I.turned (t':=s.toks) (λb o hb e=>eb b o hb e) f0 f1 f3 f4 f5⟩
 self:=λ_ _ _ _ _ st h=>wpAny_pyIter_tupleiter st h
def lV {K:Frag}(it:Addr) (lo:Int) (n:Nat):Turn P w K tg (Itr lo n) [it] it (λi h=>IsRangeIter h it (lo+(i:Nat)*1) ((n:Int)-(i:Nat)) 1) where
 mem:=QX
 obj:=λi h st b hb=>by
  have e:b=it:=by simpa using hb
  subst e;show ⟨_,st,λv z=>by
   have z':Data.fields _=Data.cell v:=z;cases z'⟩
 keep:=λi h h' st k=>k it QX _ st
 item:=by
  intro X hP hw O hc i pins s σ H E I L st hg;subst hP hw O;obtain ⟨f0,f1,f2,f3,f4,f5⟩:=L it QX;have W:=Walks.range (prog:=X.prog) (w:=X.w) (I.ok.hd hc) it lo 1 n;refine W.item i s _ _ hg st λv h' tk hv q kk=>?_;obtain ⟨t,rfl⟩:=hv;have I1:Inv X pins σ H { s with heap:=h',toks:=tk }:=I.turned (λb o hb e=>kk b o (by simpa using hb) e) f0 f1 f3 f4 f5;refine ⟨_,rfl,gE (s:={ s with heap:=h',toks:=tk }) (n := "range_iterator") q rfl rfl QV ⟨.int (lo+i),H,I1,⟨t,?_⟩,⟨rfl,rfl⟩,q,λb hb=>(L b hb).1⟩⟩;rw[Int.mul_one]
 done:=by
  intro X hP hw O hc i pins s σ H E I L st hg;subst hP hw O;obtain ⟨f0,f1,f2,f3,f4,f5⟩:=L it QX;show wpAny_pyNext_range_end (I.ok.hd hc) st (by have:n<=i:=hg;omega) λh' eb=>⟨rfl,I.turned (t':=s.toks) (λb o hb e=>eb b o hb e) f0 f1 f3 f4 f5⟩
 self:=λ_ _ _ _ _ st h=>wpAny_pyIter_rangeiter st h
def rN {σ:St}{lo:Int}(I:Inv X pins σ H s) (O:-(2^62)<=lo) (h2:lo<2^62) (h3:-(2^62)<=hi) (h4:hi<2^62) (q:R (Itr lo (hi-lo).toNat) H):wpAny (model X.prog X.w) X.A (pyIter (.ref s.heap.objs.size)) (PIE X pins σ tg R) E { s with heap:=s.heap.push { cls:=.type "range",data:=.fields #[.int lo t,.int hi u,.int 1 v] },toks:=tk }:=by
 refine wpAny_pyIter_range (IsRange.new ..) (small_one O h2 h3 h4) ?_;have L:Inv X pins σ H { s with heap:=s.heap.push { cls:=.type "range",data:=.fields #[.int lo t,.int hi u,.int 1 v] },toks:=tk }:=I.kept λb o e=>qA5 _ e;refine ⟨(s.heap.push { cls:=.type "range",data:=.fields #[.int lo t,.int hi u,.int 1 v] }).objs.size,[(s.heap.push { cls:=.type "range",data:=.fields #[.int lo t,.int hi u,.int 1 v] }).objs.size],_,_,H,rfl,
  L.kept (t':=tk) λb o e=>qA5 _ e,lV _ lo (hi-lo).toNat,?_,λb hb=>?_,q⟩
 .have e1:lo+((0:Nat):Int)*1=lo:=QX;have e2:(((hi-lo).toNat:Nat):Int)-((0:Nat):Int)=Builtin.Range.rangeSize lo hi 1:=by rw[rangeSize_one];split <;> omega
  change IsRangeIter _ _ (lo+((0:Nat):Int)*1) ((((hi-lo).toNat:Nat):Int)-((0:Nat):Int)) 1;rw[e1,e2];show qC2 _ rfl
 .have e:b=(s.heap.push { cls:=.type "range",data:=.fields #[.int lo t,.int hi u,.int 1 v] }).objs.size:=by simpa using hb
  subst e;show L.fpOk (qB5 _) (L.hok.fresh (qB5 _))
def uZ (q:TA):TI:=λσ H R=>q σ H λvs H1=>∃j:Int,vs = [.int j] /\ -(2^62)<=j/\j<2^62/\R (Itr 0 j.toNat) H1
def oP (hg:Gl X "range") (hm:X.mg "range" = none) (ha:PA X [a] ta) (hs:starEach [a] X.env = [(false,eval a X.env)]:=by rfl):PI X tg (.Call (.Name "range" p) [a] [] pos) (uZ ta):=by
 intro pins s σ H R I h;refine Call_ (F4 I hg hm boot_range (qF4 (thn (ha pos pins s σ H _ I h) λus s1 L=>?_) hs rfl));obtain ⟨vs,H1,I1,r1,O⟩:=L;obtain ⟨j,e,O,q2,q⟩:=O;subst e;cases r1 with
 | cons r rr=>
  cases rr;obtain ⟨t,rfl⟩:=r;show call_range_1 (rN I1 ox ox O q2 (by simpa using q))
def yN (wi:TI) (g:TG) (tb:TS):TS:=λD σ H=>wi σ H λJ H1=>∃W:Nat->Nat->St->Hp->Prop,(∃m,W 0 m σ H1)/\∀i m σ H,W i m σ H ->
 (J.stop i H/\D.nx σ H)\/(J.go i H/\∃N:St->Hp->Prop,(∀q H',N q H'->∃O,O<m/\W (i+1) O q H')/\∀x H',J.yld i H x H'->g x σ H' λL H2=>tb { D with nx:=N,ct:=N,bk:=D.nx } L H2)
def aB (fp:List Addr)(h:Heap):List (Addr×Obj):=fp.filterMap λb=>(h.get? b).map λo=>(b,o)
def R9 (hb:b∈fp)(e:h.get? b=some o):(b,o)∈aB fp h:=qQ6.mpr ⟨b,hb,by rw[e];rfl⟩
def ph (L:p∈aB fp h):p.1∈fp/\h.get? p.1=some p.2:=by
 obtain ⟨b,hb,e⟩:=qQ6.mp L;cases q:h.get? b with
 |none=>rw[q]at e;cases e
 | some o=>
  rw[q]at e;have O:(b,o)=p:=Option.some.inj e;subst O;show ⟨hb,q⟩
def Inv.pinned {σ:St}(I:Inv X pins σ H s) (L:∀b∈fp,E6 X pins H b) (ho:∀b∈fp,∃o,s.heap.get? b=some o/\∀v,o.data≠.cell v):Inv X (pins++aB fp s.heap) σ H s:=
 I.pins_of λp O=>(qC6.mp O).elim (λz=>I.pin p (qE3 _ z)) λz=>by
  obtain ⟨hb,e⟩:=ph z;obtain ⟨f0,f1,f2,_⟩:=L p.1 hb;obtain ⟨o,q,d⟩:=ho p.1 hb;rw[e]at q;cases q;show ⟨e,f0,f1,f2,d⟩
def Inv.unpinned {σ:St}(I:Inv X (pins++pl) σ H s):Inv X pins σ H s:=I.pins_of λp q=>I.pin p (qE3 _ (qD5 _ q))
def Az (hp:PassesOwn (model X.prog X.w) X.A X.env X.xe) (hc:X.calm=true) (hi:PI X tg iter wi) (hg:PG X tg g) (hb:PSs X body tb) (hs:∀x,foldedSetIterable iter X.env x=pure x:=by intro _;rfl):PS X (.For tg iter body [] pos) (yN wi g tb):=by
 intro pins s σ H D I h;refine wpAny_For (thn (hi pins s σ H _ I h) λv s1 h1=>thn h1 λb5 s2 h2=>?_) hs;obtain ⟨it,fp,tn,J,H2,e,I2,T,b3,f2,W,⟨m0,w0⟩,turn⟩:=h2;subst e
 -- what stays true of the iterator's objects through the loop
 have stat:∀{H':Hp},(∀b∈fp,H' b=none)->∀b∈fp,E6 X pins H' b:=λhn b hb=>⟨hn b hb,(f2 b hb).2⟩;refine codeAny_forLoop_any (λn s'=>∃i a3 H',Inv X pins a3 H' s'/\tn i s'.heap/\(∀b∈fp,H' b=none)/\W i n a3 H') ?_ m0 ⟨0,σ,H2,I2,b3,λb hb=>(f2 b hb).1,w0⟩;rintro n s3 ⟨i,O,H3,I3,a6,a8,w3⟩;rcases turn i n O H3 w3 with ⟨stop,qn⟩|⟨go,N,hN,step⟩
 .refine qP1 hp (thn (T.done X rfl rfl rfl hc i pins s3 O H3 X.xe I3 (stat a8) a6 stop) λr s4 ⟨hr,I4⟩=>?_);subst hr;show qS1 ⟨O,H3,I4,qn⟩
 .refine qP1 hp (thn (T.item X rfl rfl rfl hc i pins s3 O H3 X.xe I3 (stat a8) a6 go) λr s4 ⟨u,hr,h4⟩=>?_);subst hr;refine qP1 hp (thn h4 λ_ s5 a7=>?_);obtain ⟨x,H5,I5,r5,y5,a4,b4⟩:=a7;have ab:=I5.pinned (stat b4) (T.obj _ _ a4);refine qP1 hp (thn (hg _ s5 O H5 x u _ ab r5 (step x H5 y5)) λ_ s6 a5=>?_);obtain ⟨b0,H6,I6,q6⟩:=a5;refine qP1 hp (thn (hb _ s6 b0 H6 _ I6 q6) λf s7 q7=>?_);have again:∀{q:St}{L:Hp},Inv X (pins++aB fp s5.heap) q L s7->N q L->∃m,m<n/\∃i a3 H',Inv X pins a3 H' s7/\tn i s7.heap/\(∀b∈fp,H' b=none)/\W i m a3 H':=λ{q L} I7 n7=>by
   obtain ⟨m',hm,w7⟩:=hN q L n7;refine ⟨m',hm,i+1,q,L,I7.unpinned,T.keep _ _ _ a4 λb hb o e=>(I7.pin (b,o) (qE3 _ (qE3 _ (R9 hb e)))).1,λb hb=>?_,w7⟩;obtain ⟨o,e,d⟩:=T.obj _ _ a4 b hb;show (I7.pin (b,o) (qE3 _ (qE3 _ (R9 hb e)))).2.1
  cases f with
  |next=>obtain ⟨q,L,I7,n7⟩:=q7;show again I7 n7
  |cont=>obtain ⟨q,L,I7,n7⟩:=q7;show again I7 n7
  |brk=>obtain ⟨q,L,I7,q7⟩:=q7;show ⟨q,L,I7.unpinned,q7⟩
  |ret v=>obtain ⟨x7,q,L,I7,r7,q7⟩:=q7;show ⟨x7,q,L,I7.unpinned,r7,q7⟩
abbrev R2:=V->V->Hp->VK->Prop
def OpR (X:Cx) (f:Value->Value->Sem Value) (r:R2):Prop:=
 ∀ (pins:Jq) (s:Shared) (σ:St) (H:Hp) (x y:V) (v u:Value) (Q:VK),Inv X pins σ H s->RelV x v->RelV y u->r x y H Q ->
  wpAny (model X.prog X.w) X.A (f v u) (EP X pins σ Q) X.xe s
def UnR (X:Cx) (f:Value->Sem Value) (r:V->Hp->VK->Prop):Prop:=
 ∀ (pins:Jq) (s:Shared) (σ:St) (H:Hp) (x:V) (v:Value) (Q:VK),Inv X pins σ H s->RelV x v->r x H Q ->
  wpAny (model X.prog X.w) X.A (f v) (EP X pins σ Q) X.xe s
def B0 (X:Cx) (f:Value) (r:List V->Hp->VK->Prop):Prop:=
 ∀ (pins:Jq) (s:Shared) (σ:St) (H:Hp) (xs:List V) (us:Jw) (Q:VK),Inv X pins σ H s->Vals xs us->r xs H Q ->
  wpAny (model X.prog X.w) X.A (call f us) (EP X pins σ Q) X.xe s
def tOp (r:R2)(q L:TE):TE:=λσ H Q=>q σ H λx H1=>L σ H1 λy H2=>r x y H2 Q
def tUn (r:V->Hp->VK->Prop)(q:TE):TE:=λσ H Q=>q σ H λx H1=>r x H1 Q
def rI (C:Int->Int->Prop)(g:Int->Int->V):R2:=λx y H Q=>∃i j,x=.int i/\y=.int j/\C i j/\Q (g i j) H
def rI0 (g:Int->Int->V):R2:=λx y H Q=>∃i j,x=.int i/\y=.int j/\Q (g i j) H
def rU (g:Int->V):V->Hp->VK->Prop:=λx H Q=>∃i,x=.int i/\Q (g i) H
def ul (ha:PE X a ta) (hb:PE X b tb){σ:St}{R:V->V->Hp->Prop}(I:Inv X pins σ H s) (h:ta σ H λx H1=>tb σ H1 λy H2=>R x y H2){f:Value->Value->Sem Value}(hf:∀v u s2 x y H2,Inv X pins σ H2 s2->RelV x v->RelV y u->R x y H2->wpAny (model X.prog X.w) X.A (f v u) Q X.xe s2):
  wpAny (model X.prog X.w) X.A (eval a X.env) (λv O=>wpAny (model X.prog X.w) X.A (eval b X.env) (λu q=>wpAny (model X.prog X.w) X.A (f v u) Q X.xe q) X.xe O) X.xe s:=by
 refine thn (ha pins s σ H _ I h) λv s1 L=>?_;obtain ⟨x,H1,I1,r1,q1⟩:=L;refine thn (hb pins s1 σ H1 _ I1 q1) λu s2 a3=>?_;obtain ⟨y,H2,I2,r2,q2⟩:=a3;show hf v u s2 x y H2 I2 r1 r2 q2
def Em (ho:OpR X (binaryOp op) r) (ha:PE X a ta) (hb:PE X b tb):PE X (.BinOp a op b pos) (tOp r ta tb):=by
 intro pins s σ H Q I h;show wpAny_BinOp (ul ha hb I h λv u s2 x y H2 I2 O L q=>ho pins s2 σ H2 x y v u Q I2 O L q)
def El (ho:UnR X (unaryOp op) r) (ha:PE X a ta):PE X (.UnaryOp op a pos) (tUn r ta):=by
 intro pins s σ H Q I h;show UnaryOp_ (thn (ha pins s σ H _ I h) λv s1 q=>by obtain ⟨x,H1,O,r1,L⟩:=q;show ho pins s1 σ H1 x v Q O r1 L)
def opI {g:Int->Int->Int}(rule:∀(i j:Int) (t u:Tok) (s:Shared) (Q:Jp) (E:Jp),C i j->Q (.int (g i j) s.toks) { s with toks:=s.toks+1 }->wpAny (model X.prog X.w) X.A (f (.int i t) (.int j u)) Q E s):
  OpR X f (rI C λi j=>.int (g i j)):=by
 intro pins s σ H x y v u Q I O L h;obtain ⟨i,j,rfl,rfl,hc,q⟩:=h;obtain ⟨t,rfl⟩:=O;obtain ⟨t',rfl⟩:=L;show rule i j t t' s _ _ hc ⟨.int (g i j),H,I.tok _,⟨_,rfl⟩,q⟩
def AO {g:Int->Int->Int}(rule:∀(i j:Int) (t u:Tok) (s:Shared) (Q:Jp) (E:Jp),Q (.int (g i j) s.toks) { s with toks:=s.toks+1 }->wpAny (model X.prog X.w) X.A (f (.int i t) (.int j u)) Q E s):
  OpR X f (rI0 λi j=>.int (g i j)):=by
 intro pins s σ H x y v u Q I O L h;obtain ⟨i,j,rfl,rfl,q⟩:=h;obtain ⟨t,rfl⟩:=O;obtain ⟨t',rfl⟩:=L;show rule i j t t' s _ _ ⟨.int (g i j),H,I.tok _,⟨_,rfl⟩,q⟩
def si {g:Int->Int->Bool}(rule:∀(i j:Int) (t u:Tok) (s:Shared) (Q:Jp) (E:Jp),Q (.bool (g i j)) s->wpAny (model X.prog X.w) X.A (f (.int i t) (.int j u)) Q E s):
  OpR X f (rI0 λi j=>.bl (g i j)):=by
 intro pins s σ H x y v u Q I O L h;obtain ⟨i,j,rfl,rfl,q⟩:=h;obtain ⟨t,rfl⟩:=O;obtain ⟨t',rfl⟩:=L;show rule i j t t' s _ _ ⟨.bl (g i j),H,I,rfl,q⟩
def J2 (i j:Int):Prop:=0<j/\j<1073741824
def cS (i j:Int):Prop:=0<=j/\j<=1000000/\i.natAbs<2^64
def CMul (i j:Int):Prop:=(-(2^64)<i/\i<2^64)\/(-(2^64)<j/\j<2^64)
def CMul.ok (h:CMul i j):IntMulOk i j:=by
 rcases h with ⟨h1,h2⟩|⟨h1,h2⟩
 .show .of_left (intBits_le_64 h1 h2)
 .show .of_right (intBits_le_64 h1 h2)
def v4:OpR X (binaryOp .Add) (rI0 λi j=>.int (i+j)):=AO λ_ _ _ _ _ _ _ q=>add_int q
def aD:OpR X (binaryOp .Sub) (rI0 λi j=>.int (i-j)):=AO λ_ _ _ _ _ _ _ q=>sub_int q
def W9:OpR X (binaryOp .FloorDiv) (rI J2 λi j=>.int (i/j)):=opI λi j _ _ _ _ _ hc q=>by
 have L:(0:Int)<j:=hc.1;have O:j<1073741824:=hc.2;show floordiv_int ox (by rw[Int.fdiv_eq_ediv_of_nonneg i ox];show q) (.inl (PyProof.noPylong_small ox))
def v0:OpR X (binaryOp .Mod) (rI (λ_ j=>0<j) λi j=>.int (i%j)):=opI λi j _ _ _ _ _ hc q=>by
 have L:(0:Int)<j:=hc;show mod_int' ox (by rw[Int.fmod_eq_emod_of_nonneg i ox];show q)
def AM:OpR X (binaryOp .Pow) (rI cS λi j=>.int (i^j.toNat)):=opI λ_ _ _ _ _ _ _ hc q=>pow_int_small hc.1 hc.2.1 hc.2.2 q
def unI {g:Int->Int}(rule:∀(i:Int) (t:Tok) (s:Shared) (Q:Jp) (E:Jp),Q (.int (g i) s.toks) { s with toks:=s.toks+1 }->wpAny (model X.prog X.w) X.A (f (.int i t)) Q E s):
  UnR X f (rU λi=>.int (g i)):=by
 intro pins s σ H x v Q I L h;obtain ⟨i,rfl,q⟩:=h;obtain ⟨t,rfl⟩:=L;show rule i t s _ _ ⟨.int (g i),H,I.tok _,⟨_,rfl⟩,q⟩
def S8:UnR X (unaryOp .USub) (rU λi=>.int (-i)):=unI λ_ _ _ _ _ q=>neg_int q
def ie:V->V->Bool
 | .non,.non=>true | .non,.int _=>true | .int _,.non=>true | .non,.bl _=>true | .bl _,.non=>true | .non,.str _=>true | .str _,.non=>true
 | .int _,.int _=>true | .bl _,.bl _=>true | .str _,.str _=>true | .byt _,.byt _=>true
 | .int _,.str _=>true | .str _,.int _=>true | .bl _,.str _=>true | .str _,.bl _=>true
 |_,_=>false
def rEq:R2:=λx y H Q=>ie x y=true/\Q (.bl (decide (x=y))) H
def rNe:R2:=λx y H Q=>ie x y=true/\Q (.bl (!decide (x=y))) H
def lH:decide (V.int i=V.int j)=(i == j):=by
 rw[qJ3];simp
def qk:decide (V.bl i=V.bl j)=(i == j):=by
 rw[qJ3];simp
def lG:decide (V.str i=V.str j)=(i == j):=by
 rw[qJ3];simp
def lJ:decide (V.byt i=V.byt j)=(i.toList == j.toList):=by
 rw[qJ3];cases i;cases j;simp
def j5 {σ:St}(I:Inv X pins σ H s) (q:Q (.bl k) H) (e:k=k'):EP X pins σ Q (.bool k') s:=by
 subst e;show ⟨.bl k,H,I,rfl,q⟩
def E8:OpR X (compareOp .Eq) rEq:=by
 intro pins s σ H x y v u Q I O L h;obtain ⟨hs,q⟩:=h;cases x with
 | non=>
  cases O;cases y with
  |non=>cases L;show PySem.EqNone.eq_none_none (j5 I q QX)
  |bl j=>cases L;show PySem.EqNone.eq_none_bool (j5 I q QX)
  |int j=>obtain ⟨t',rfl⟩:=L;show PySem.EqNone.eq_none_int (j5 I q QX)
  |str j=>obtain ⟨t',rfl⟩:=L;show PySem.EqNone.eq_none_str (j5 I q QX)
  |_=>show absurd (show false=true from hs) qA3
 | bl i=>
  cases O;cases y with
  |non=>cases L;show PySem.EqNone.eq_bool_none (j5 I q QX)
  |bl j=>cases L;show eq_bool (j5 I q qk)
  |str j=>obtain ⟨t',rfl⟩:=L;show PySem.EqMixed.eq_bool_str (j5 I q QX)
  |_=>show absurd (show false=true from hs) qA3
 | int i=>
  obtain ⟨t,rfl⟩:=O;cases y with
  |non=>cases L;show PySem.EqNone.eq_int_none (j5 I q QX)
  |int j=>obtain ⟨t',rfl⟩:=L;show eq_int (j5 I q lH)
  |str j=>obtain ⟨t',rfl⟩:=L;show PySem.EqMixed.eq_int_str (j5 I q QX)
  |_=>show absurd (show false=true from hs) qA3
 | str i=>
  obtain ⟨t,rfl⟩:=O;cases y with
  |non=>cases L;show PySem.EqNone.eq_str_none (j5 I q QX)
  |bl j=>cases L;show PySem.EqMixed.eq_str_bool (j5 I q QX)
  |int j=>obtain ⟨t',rfl⟩:=L;show PySem.EqMixed.eq_str_int (j5 I q QX)
  |str j=>obtain ⟨t',rfl⟩:=L;show eq_str (j5 I q lG)
  |_=>show absurd (show false=true from hs) qA3
 | byt i=>
  obtain ⟨t,rfl⟩:=O;cases y with
  |byt j=>obtain ⟨t',rfl⟩:=L;show PySem.W.eq_bytes (j5 I q lJ)
  |_=>show absurd (show false=true from hs) qA3
 |_=>cases y <;> show absurd (show false=true from hs) qA3
def bB:OpR X (compareOp .NotEq) rNe:=by
 intro pins s σ H x y v u Q I O L h;obtain ⟨hs,q⟩:=h;cases x with
 | non=>
  cases O;cases y with
  |non=>cases L;show PySem.EqNone.ne_none_none (j5 I q QX)
  |bl j=>cases L;show PySem.EqNone.ne_none_bool (j5 I q QX)
  |int j=>obtain ⟨t',rfl⟩:=L;show PySem.EqNone.ne_none_int (j5 I q QX)
  |str j=>obtain ⟨t',rfl⟩:=L;show PySem.EqNone.ne_none_str (j5 I q QX)
  |_=>show absurd (show false=true from hs) qA3
 | bl i=>
  cases O;cases y with
  |non=>cases L;show PySem.EqNone.ne_bool_none (j5 I q QX)
  |bl j=>cases L;show ne_bool (j5 I q (congrArg not qk))
  |str j=>obtain ⟨t',rfl⟩:=L;show PySem.EqMixed.ne_bool_str (j5 I q QX)
  |_=>show absurd (show false=true from hs) qA3
 | int i=>
  obtain ⟨t,rfl⟩:=O;cases y with
  |non=>cases L;show PySem.EqNone.ne_int_none (j5 I q QX)
  |int j=>obtain ⟨t',rfl⟩:=L;show ne_int (j5 I q (congrArg not lH))
  |str j=>obtain ⟨t',rfl⟩:=L;show PySem.EqMixed.ne_int_str (j5 I q QX)
  |_=>show absurd (show false=true from hs) qA3
 | str i=>
  obtain ⟨t,rfl⟩:=O;cases y with
  |non=>cases L;show PySem.EqNone.ne_str_none (j5 I q QX)
  |bl j=>cases L;show PySem.EqMixed.ne_str_bool (j5 I q QX)
  |int j=>obtain ⟨t',rfl⟩:=L;show PySem.EqMixed.ne_str_int (j5 I q QX)
  |str j=>obtain ⟨t',rfl⟩:=L;show ne_str (j5 I q (congrArg not lG))
  |_=>show absurd (show false=true from hs) qA3
 | byt i=>
  obtain ⟨t,rfl⟩:=O;cases y with
  |byt j=>obtain ⟨t',rfl⟩:=L;show PySem.W.ne_bytes (j5 I q (congrArg not lJ))
  |_=>show absurd (show false=true from hs) qA3
 |_=>cases y <;> show absurd (show false=true from hs) qA3
def bC:OpR X (compareOp .Lt) (rI0 λi j=>.bl (decide (i<j))):=si λ_ _ _ _ _ _ _ q=>lt_int q
def Er:OpR X (compareOp .LtE) (rI0 λi j=>.bl (decide (i<=j))):=si λ_ _ _ _ _ _ _ q=>le_int q
def bD:OpR X (compareOp .Gt) (rI0 λi j=>.bl (decide (j<i))):=si λ_ _ _ _ _ _ _ q=>gt_int q
def iC:OpR X (compareOp .Is) (λx y H Q=>y=.non/\Q (.bl (decide (x=.non))) H):=by
 intro pins s σ H x y v u Q I L O h;obtain ⟨rfl,q⟩:=h;cases O;refine is_none_gen (j5 I q ?_);cases x <;> first
  | (cases L;rfl)
  | (obtain ⟨t,rfl⟩:=L;rfl)
def kO:OpR X (compareOp .IsNot) (λx y H Q=>y=.non/\Q (.bl (!decide (x=.non))) H):=by
 intro pins s σ H x y v u Q I L O h;obtain ⟨rfl,q⟩:=h;cases O;refine isnot_none_gen (j5 I q ?_);cases x <;> first
  | (cases L;rfl)
  | (obtain ⟨t,rfl⟩:=L;rfl)
def pi (b:Expr) (h:op≠.In:=by decide) (q:op≠.NotIn:=by decide):behindInMarks op b=false:=by
 have e1:(op == CmpOp.In)=false:=by cases op <;> first|rfl|show absurd rfl h
 have e2:(op == CmpOp.NotIn)=false:=by cases op <;> first|rfl|show absurd rfl q
 cases b <;> simp [behindInMarks,e1,e2]
def wB (ho:OpR X (compareOp op) r) (ha:PE X a ta) (hb:PE X b tb) (hm:behindInMarks op b=false):PE X (.Compare a [op] [b] pos) (tOp r ta tb):=by
 intro pins s σ H Q I h;show wpAny_Compare1 (ul ha hb I h λv u s2 x y H2 I2 O L q=>ho pins s2 σ H2 x y v u Q I2 O L q) hm
def lX (t:TE):TT:=λσ H Q=>t σ H λx H'=>∃k,x=.bl k/\Q k H'
def wn (q:OpR X (compareOp op) r) (ha:PE X a ta) (hb:PE X b tb) (hm:behindInMarks op b=false):PT X (.Compare a [op] [b] pos) (lX (tOp r ta tb)):=by
 intro pins s σ H Q I h;refine wpAny_isTrue_Compare1 (thn (ha pins s σ H _ I h) λv s1 ⟨x,H1,I1,r1,q1⟩=>thn (hb pins s1 σ H1 _ I1 q1) λu s2 ⟨y,H2,I2,r2,q2⟩=>
  thn (q pins s2 σ H2 x y v u _ I2 r1 r2 q2) λc L ⟨z,H3,I3,r3,k,e,q3⟩=>?_) hm
 subst e;cases r3;show qO7 ⟨H3,I3,q3⟩
def yP (r L:R2) (ta tb tc:TE):TE:=λσ H Q=>ta σ H λx H1=>tb σ H1 λy H2=>r x y H2 λz q=>∃k,z=.bl k /\
 (if k=true then tc σ q λO H4=>L y O H4 Q else Q (.bl false) q)
def rW (ho:OpR X (compareOp op) r) (L:OpR X (compareOp op') r') (ha:PE X a ta) (hb:PE X b tb) (hc:PE X c tc) (hm:lastMarks [op,op'] [b,c]=false:=by with_unfolding_all rfl):PT X (.Compare a [op,op'] [b,c] pos) (lX (yP r r' ta tb tc)):=by
 intro pins s σ H Q I h;refine isTrue_chain (thn (ha pins s σ H _ I h) λv s1 ⟨x,H1,I1,r1,q1⟩=>test_link (thn (hb pins s1 σ H1 _ I1 q1) λu s2 ⟨y,H2,I2,r2,q2⟩=>
  thn (ho pins s2 σ H2 x y v u _ I2 r1 r2 q2) λd s3 ⟨z,H3,I3,r3,k,e,q3⟩=>?_)) hm
 subst e;cases r3;refine qO7 ?_;cases k with
 | false=>
  obtain ⟨k',O,q'⟩:=q3;cases O;show ite_ff ⟨H3,I3,q'⟩
 | true=>
  refine ite_tt (test_last (thn (hc pins s3 σ H3 _ I3 q3) λw' s4 ⟨z',H4,I4,r4,q4⟩=>thn (L pins s4 σ H4 y z' u w' _ I4 r2 r4 q4) λd' s5 q=>?_));obtain ⟨z2,H5,I5,r5,k2,e2,q5⟩:=q;subst e2;cases r5;show qO7 ⟨H5,I5,q5⟩
def aO:(sizeLine:Nat)<2^63:=by rw[qQ5];decide
def vals1 (r:Vals [x] us):∃u,us = [u]/\RelV x u:=by
 cases r with
 |cons L q=>cases q;show ⟨_,rfl,L⟩
def vals2 (r:Vals [x,y] us):∃u q,us = [u,q]/\RelV x u/\RelV y q:=by
 cases r with
 | cons O L=>
  cases L with
  |cons r3 r4=>cases r4;show ⟨_,_,rfl,O,r3⟩
def bh (hc:X.calm=true):B0 X (.builtin "max") (λxs H Q=>∃i j,xs = [.int i,.int j]/\Q (.int (if j>i then j else i)) H):=by
 intro pins s σ H xs us Q I r h;obtain ⟨i,j,rfl,q⟩:=h;obtain ⟨u,O,rfl,⟨t,rfl⟩,⟨t',rfl⟩⟩:=vals2 r;refine max_two_ints (I.ok.hd hc) λh' tk k=>⟨_,H,I.kept k,?_,q⟩;by_cases L:j>i
 .rw[qA2 L,qA2 L];show ⟨_,rfl⟩
 .rw[qA4 L,qA4 L];show ⟨_,rfl⟩
def qu (hc:X.calm=true):B0 X (.builtin "min") (λxs H Q=>∃i j,xs = [.int i,.int j]/\Q (.int (if j<i then j else i)) H):=by
 intro pins s σ H xs us Q I r h;obtain ⟨i,j,rfl,q⟩:=h;obtain ⟨u,O,rfl,⟨t,rfl⟩,⟨t',rfl⟩⟩:=vals2 r;refine min_two_ints (I.ok.hd hc) λh' tk k=>⟨_,H,I.kept k,?_,q⟩;by_cases L:j<i
 .rw[qA2 L,qA2 L];show ⟨_,rfl⟩
 .rw[qA4 L,qA4 L];show ⟨_,rfl⟩
def gd:B0 X (.type "int") (λxs H Q=>(∃i,xs = [.int i]/\Q (.int i) H)\/∃k,xs = [.bl k]/\Q (.int (if k then 1 else 0)) H):=by
 intro pins s σ H xs us Q I r h;rcases h with ⟨i,rfl,q⟩|⟨k,rfl,q⟩
 .obtain ⟨u,rfl,t,rfl⟩:=vals1 r;show call_int_int ⟨.int i,H,I,⟨_,rfl⟩,q⟩
 .obtain ⟨u,rfl,L⟩:=vals1 r;cases L;show call_int_bool ⟨.int (if k then 1 else 0),H,I.tok _,⟨_,rfl⟩,q⟩
structure ObjM (h:Heap) (x dx C:Addr) (mA:Jz):Prop where
 obj:h.get? x=some (PySem.W.instObj C dx)
 ns:h.Ns1 dx mA
 ne:dx≠x
def pH {h:Heap}(n:h.Ns1 dx mA):∃od,h.get? dx=some od/\∀name,PySem.W.lookIn name od=some (mA name):=by
 obtain ⟨o,es,ep,ho,hd,hk,_,hm⟩:=n;refine ⟨o,ho,λname=>?_⟩;have e:=hm name;unfold nsFind findBy at e;rw[<- Array.find?_toList]at e;unfold PySem.W.lookIn;rw[hd];dsimp only
 split
 .rename_i y q
  rw[q]at e;show congrArg some e
 .rename_i q
  rw[q]at e;have a:es.toList.any (·.refKey)=false:=by
   rw[qU5];intro y O;obtain ⟨z,t,L⟩:=hk y (qS2.mp O);simp [DictEntry.refKey,L]
  have a':¬ es.toList.any (·.refKey)=true:=by rw[a];show qA3
  rw[qA4 a'];show congrArg some e
def ObjM.look (I:ObjM h x dx C mA):∃od,PySem.W.InstAt h x (PySem.W.instObj C dx) C (some od)/\∀name,PySem.W.lookIn name od=some (mA name):=
 let ⟨od,ho,hl⟩:=pH I.ns
 ⟨od,⟨I.obj,rfl,rfl,ho⟩,hl⟩
def xt (hok:HOk P w H h) (e:H a=some (.ins C dx fs)):∃mA,ObjM h a dx C mA/\(∀f,RelO (fs.lookup f) (mA f))/\PySem.Within mA (fs.map (·.1))/\fs.length<=1000/\H dx=some (.own a):=by
 obtain ⟨d,z,ne,ob,mA,n,r,q⟩:=(show ObjOk P w H h a (.ins C dx fs) from hok a _ e);show ⟨mA,⟨ob,n,ne⟩,r,q,z,d⟩
structure Cls (K:Frag) (C:Addr):Prop where
 pg:PySem.W.plainGet K C Str.empty=true
 hd:PySem.W.hasDictIn K C=true
 po:PySem.W.plainOver K C=true
 sa:PySem.W.findIn K (.ref C) "__setattr__" = some (some (.builtin "object.__setattr__"))
def Cls.get {K:Frag}(c:Cls K C)(f:Str):PySem.W.plainGet K C f=true:=c.pg
section
variable {X:Cx}{pins:Jq}{σ:St}{H:Hp}{s:Shared}{A:Around}{E:Jp}{Q:Jp}{c:Value}{b:Bool}
inductive O8 (K:Frag) (H:Hp):V->Value->Prop where
 |non:O8 K H .non (.type "NoneType")
 |bl (x:Bool):O8 K H (.bl x) (.type "bool")
 |int (i:Int):O8 K H (.int i) (.type "int")
 |str (x:Str):O8 K H (.str x) (.type "str")
 |flt (x:UInt64):O8 K H (.flt x) (.type "float")
 |lst {a:Addr}{xs:List V}(e:H a=some (.lst xs)):O8 K H (.ref a) (.type "list")
 |frz {a:Addr}{o:Obj}{xs:List V}(e:H a=some (.frz o (.lst xs))):O8 K H (.ref a) (.type "list")
 |tup {a:Addr}{xs:List V}(e:H a=some (.tup xs)):O8 K H (.ref a) (.type "tuple")
 |dK {a:Addr}{kvs:List (Key×V)}(e:H a=some (.dK kvs)):O8 K H (.ref a) (.type "dict")
 |dT {a:Addr}{kvs:List (List Key×V)}(e:H a=some (.dT kvs)):O8 K H (.ref a) (.type "dict")
 | ins {a C dx:Addr}{fs:List (Str×V)}(e:H a=some (.ins C dx fs)) (cl:Cls K C) (ha:PySem.W.findIn K (.ref C) "__class__" = some (some (.builtin "object.__class__")))
   (hn:PySem.W.specialIn K (.builtin "object.__class__") "__get__" = some (some (.builtin "getset_descriptor.__get__"))) (htk:PySem.W.takesIn K (.builtin "object.__class__")=some true)
   (hm:PySem.W.mroIn K C (.type "object")=some true):O8 K H (.ref a) (.ref C)
def pQ (I:Inv X pins σ H s) (rx:RelV x u) (ty:O8 X.K H x t) (e:PySem.W.kitOne X.K t c=some b) (h:∀tk,Q (.bool b) { s with toks:=tk }):
  wpAny (model X.prog X.w) A (call (.builtin "isinstance") [u,c]) Q E s:=by
 cases ty with
 |non=>cases (show u=Value.none from rx);show qG4 PySem.W.kitx_none I.kIn True.intro e (λz=>nomatch z) h
 |bl y=>cases (show u=Value.bool y from rx);show qG4 PySem.W.kitx_bool I.kIn True.intro e (λz=>nomatch z) h
 |int i=>obtain ⟨t,q⟩:=(show ∃t,u=Value.int i t from rx);cases q;show qG4 PySem.W.kitx_int I.kIn True.intro e (λz=>nomatch z) h
 |str y=>obtain ⟨t,q⟩:=(show ∃t,u=Value.str y t from rx);cases q;show qG4 PySem.W.kitx_str I.kIn True.intro e (λz=>nomatch z) h
 |flt y=>obtain ⟨t,q⟩:=(show ∃t,u=Value.float y t from rx);cases q;show qG4 PySem.W.kitx_float I.kIn True.intro e (λz=>nomatch z) h
 | @lst a xs L=>
  cases (show u=Value.ref a from rx);obtain ⟨_,_,n,_,h1⟩:=(show ObjOk X.prog X.w H s.heap a (.lst xs) from I.hok a _ L);show qG4 PySem.W.kitx_list I.kIn ⟨_,h1,rfl⟩ e (λz=>nomatch z) h
 | @frz a ob xs L=>
  cases (show u=Value.ref a from rx);obtain ⟨_,_,_,n,_,h1⟩:=(show ObjOk X.prog X.w H s.heap a (.frz ob (.lst xs)) from I.hok a _ L);show qG4 PySem.W.kitx_list I.kIn ⟨_,h1,rfl⟩ e (λz=>nomatch z) h
 | @tup a xs L=>
  cases (show u=Value.ref a from rx);obtain ⟨_,_,_,p⟩:=(show ObjOk X.prog X.w H s.heap a (.tup xs) from I.hok a _ L);obtain ⟨o,h1,h2,_⟩:=p;show qG4 PySem.W.kitx_tuple I.kIn ⟨o,h1,h2⟩ e (λz=>nomatch z) h
 | @dK a kvs L=>
  cases (show u=Value.ref a from rx);obtain ⟨_,_,vs,_,p⟩:=(show ObjOk X.prog X.w H s.heap a (.dK kvs) from I.hok a _ L);obtain ⟨o,es,ep,h1,h2,_⟩:=p;show qG4 PySem.W.kitx_dict I.kIn ⟨o,h1,h2.1⟩ e (λz=>nomatch z) h
 | @dT a kvs L=>
  cases (show u=Value.ref a from rx);obtain ⟨_,_,xs,_,o,es,ep,h1,h2,_⟩:=(show ObjOk X.prog X.w H s.heap a (.dT kvs) from I.hok a _ L);show qG4 PySem.W.kitx_dict I.kIn ⟨o,h1,h2.1⟩ e (λz=>nomatch z) h
 | @ins a C dx fs L cl ha hn htk hm=>
  cases (show u=Value.ref a from rx);obtain ⟨mA,O,_⟩:=xt I.hok L;obtain ⟨od,J,_⟩:=O.look;show qG4 (PySem.W.kitx_own (cl.get _) cl.hd ha hn htk hm) I.kIn J e (λz=>nomatch z) h
end
structure Room (k:Nat) (A:Around):Prop where
 hd:A.handled=none
 dp:A.depth+3*k+5<recursionLimit
 un:A.units+16*k+200<cLine
def Room.mono (r:Room k A)(h:j<=k):Room j A:=⟨r.hd,by have:=r.dp;omega,by have:=r.un;omega⟩
def Room.deeper (r:Room (k+1) A) (env:Env):Room k (A.deeper env):=
 ⟨r.hd,by have:=r.dp;change A.depth+1+3*k+5<_;omega,by have:=r.un;change A.units+3+16*k+200<_;omega⟩
def Room.depth (r:Room k A):A.depth<recursionLimit:=by have:=r.dp;omega
def Room.units (r:Room k A):A.units+64<cLine:=by have:=r.un;omega
def tNil:TA:=λ_ H Q=>Q [] H
def gu (L:TE)(q:TA):TA:=λσ H Q=>L σ H λx H1=>q σ H1 λxs H2=>Q (x::xs) H2
def pa_nil:PA X [] tNil:=λ_ _ _ _ H Q I h=>qU6 ⟨[],H,I,.nil,h⟩
def bz (ha:PE X e te) (hr:PA X es t) (hs:starEach (e::es) X.env=(false,eval e X.env)::starEach es X.env:=by rfl):PA X (e::es) (gu te t):=by
 intro pos pins s σ H Q I h;rw[hs]
 change wpAny _ _ (spliced ((false,eval e X.env)::backTo pos (starEach es X.env))) _ _ s;refine qT7 (thn (ha pins s σ H _ I h) λu s1 q=>?_);obtain ⟨x,H1,I1,r1,O⟩:=q;show thn (hr pos pins s1 σ H1 _ I1 O) λus s2 L=>by obtain ⟨xs,H2,I2,r2,q2⟩:=L;show ⟨x::xs,H2,I2,.cons r1 r2,q2⟩
def qY (t:TA):TE:=λσ H Q=>t σ H λxs H1=>xs.length<=sizeLine/\∀p,H1 p=none->Q (.ref p) (upd H1 p (.tup xs))
def yL (t:TA):TE:=λσ H Q=>t σ H λxs H1=>xs.length<=sizeLine/\∀p,H1 p=none->Q (.ref p) (upd H1 p (.lst xs))
def oQ {x1}(h:PA X es t):PE X (.Tuple es x1 pos) (qY t):=by
 intro pins s σ H Q I O;refine wpAny_Tuple_spliced (thn (h pos pins s σ H _ I O) λus s1 ⟨xs,H1,I1,r,z,q⟩=>⟨by rw[<- r.length];show z,?_⟩);have L:H1 s1.heap.objs.size=none:=I1.hok.fresh (qB5 _);refine ⟨.ref s1.heap.objs.size,upd H1 s1.heap.objs.size (.tup xs),I1.laid (t':=s1.toks) (λb u e=>qA5 _ e) (qB5 _) ?_,rfl,q _ L⟩;show ⟨z,us,r,⟨_,qC2 _ rfl,rfl,_,rfl⟩⟩
def AI (h:PA X es t):PE X (.List es pos) (yL t):=by
 intro pins s σ H Q I O;refine wpAny_List_spliced (thn (h pos pins s σ H _ I O) λus s1 ⟨xs,H1,I1,r,z,q⟩=>⟨by rw[<- r.length];show z,?_⟩);have L:H1 s1.heap.objs.size=none:=I1.hok.fresh (qB5 _);refine ⟨.ref s1.heap.objs.size,upd H1 s1.heap.objs.size (.lst xs),I1.laid (t':=s1.toks) (λb u e=>qA5 _ e) (qB5 _) ?_,rfl,q _ L⟩;show ⟨z,us,0,r,qC2 _ rfl⟩
abbrev Sp:=List V->Hp->VK->XK->Prop
abbrev CXT:=List Env->Hp->Shared->XK->Value->Shared->Prop
structure nB (P:Program) (w:World) (K:Frag) (mg:Jz) (base:Heap) (A:Around) (outer:List Env) (s:Shared) (H:Hp):Prop where
 frames:A.frames=some outer
 mod:Mod K mg base
 bs:∀b o,base.get? b=some o->s.heap.get? b=some o/\H b=none
 bsz:base.objs.size<=s.heap.objs.size
 funs:s.heap.FunFrames base outer
 frf:∀b∈frs outer,H b=none
 hok:HOk P w H s.heap
 bare:AllBare s.gens
def CE (outer:List Env) (P:Program) (w:World) (H:Hp) (s:Shared) (Q:VK) (u:Value) (s':Shared):Prop:=
 ∃v H',s'.os=s.os/\AllBare s'.gens/\Un (frs outer) [] H H' s.heap s'.heap/\HOk P w H' s'.heap/\RelV v u/\Q v H'
def CR (CX:CXT) (outer:List Env) (P:Program) (w:World) (H:Hp) (s:Shared) (Q:VK) (E:XK) (r:Result) (s':Shared):Prop:=
 match r with
 | .ok (.ret u)=>CE outer P w H s Q u s'
 | .ok _=>False
 | .error e=>CX outer H s E e s'
structure FnOk (P:Program) (w:World) (K:Frag) (mg:Jz) (base:Heap) (CX:CXT) (k:Nat) (f:Addr) (fd:FuncData) (ps:Jk) (sp:Sp):Prop where
 len:∀vs H Q E,sp vs H Q E->vs.length=ps.length
 run:∀(A:Around) (outer:List Env) (s:Shared) (H:Hp) (args:Args) (us:Jw) (vs:List V) (Q:VK) (E:XK),Room k A->nB P w K mg base A outer s H->BindsTo s fd args (ps.zip us)->Vals vs us->sp vs H Q E ->
  codeAny (model P w) A (.call (.ref f) args) (CR CX outer P w H s Q E) s
def FnOk.imp {K:Frag}(F:FnOk P w K mg base CX k f fd ps sp) (h:∀vs H Q E,sp' vs H Q E->sp vs H Q E):FnOk P w K mg base CX k f fd ps sp':=
 ⟨λvs H Q E q=>F.len vs H Q E (h _ _ _ _ q),λA outer s H args us vs Q E L he hb O hs=>F.run A outer s H args us vs Q E L he hb O (h _ _ _ _ hs)⟩
def Inv.env0 {σ:St}(I:Inv X pins σ H s):nB X.prog X.w X.K X.mg X.base X.A X.stack s H:=
 ⟨I.ok.frames,I.ok.mod,I.bs,qB1 I.ok.bsz I.sz,I.stack,I.stkFree,I.hok,I.bare⟩
def Inv.after {σ:St}(I:Inv X pins σ H s) (h:CE X.stack X.prog X.w H s Q u s'):EP X pins σ Q u s':=by
 obtain ⟨v,H',os,bare,un,hok,r,q⟩:=h;obtain ⟨hh,g,d,t,L⟩:=s';obtain rfl:L=s.os:=os;show ⟨v,H',I.call (h':=hh) (g':=g) (d':=d) (t':=t) (ch:=[]) un hok bare (λb z=>absurd z QX),r,q⟩
def gx (sp:Sp)(q:List V)(E:XK)(t:TA):TE:=λσ H Q=>t σ H λvs H1=>sp (vs++q) H1 Q E
def Binds (K:Frag) (fd:FuncData) (ps:Jk) (q:Jw):Prop:=
 ∀(s:Shared) (us:Jw),K.In s.heap->(us++q).length=ps.length->BindsTo s fd ⟨us,[]⟩ (ps.zip (us++q))
def Binds.all {K:Frag}(h:∀us:List Value,us.length=ps.length->bindArgs fd ⟨us,[]⟩=pure (ps.zip us)):Binds K fd ps []:=λs us _ hl=>by
 rw[qH6]at hl ⊢;show .of_eq (h us hl)
def jI (CX:CXT)(X:Cx)(E:XK):Prop:=∀(pins:Jq)(σ:St)(H:Hp)(s:Shared)(e:Value)(s':Shared),Inv X pins σ H s->CX X.stack H s E e s'->X.xe e s'
def zj {σ:St}(F:FnOk X.prog X.w X.K X.mg X.base CX k f fd ps sp) (hr:Room k X.A) (hb:Binds X.K fd ps ds) (hd:Vals dvs ds) (O:jI CX X E) (I:Inv X pins σ H s) (r:Vals vs us) (h:sp (vs++dvs) H Q E):wpAny (model X.prog X.w) X.A (call (.ref f) us) (EP X pins σ Q) X.xe s:=by
 have L:Vals (vs++dvs) (us++ds):=r.append hd;have hl:(us++ds).length=ps.length:=by rw[<- L.length];show F.len _ _ _ _ h
 refine wpAny_call (qS3 (F.run X.A X.stack s H ⟨us,[]⟩ (us++ds) (vs++dvs) Q E hr I.env0 (hb s us I.kIn hl) L h) λr s' q=>?_);cases r with
 |error e=>show O pins σ H s e s' I q
 | ok fl=>
  cases fl with
  |ret u=>show I.after q
  |next=>show False.elim q
  |brk=>show False.elim q
  |cont=>show False.elim q
def eK {X:Cx}{CX:CXT}{k:Nat}{f:Addr}{fd:FuncData}{ps:Jk}{sp:Sp}{L:List V}{ds:Jw}{E:XK}{x:Str}{p pos:Pos}{e:Expr}{es:Jx}{t:TA}(F:FnOk X.prog X.w X.K X.mg X.base CX k f fd ps sp) (hr:Room k X.A) (hg:Gl X x) (hm:X.mg x=some (.ref f)) (hk:PySem.W.keepIn X.K (.ref f)=true) (hb:Binds X.K fd ps ds) (hd:Vals L ds) (hx:jI CX X E) (ha:PA X (e::es) t) (a3:(x == ("__debug__" : Str))=false:=by decide) (he:starEach (e::es) X.env=(false,eval e X.env)::starEach es X.env:=by rfl) (O:(backTo pos (starEach es X.env)).any (·.1)=false:=by rfl):
  PE X (.Call (.Name x p) (e::es) [] pos) (gx sp L E t):=by
 intro pins s σ H Q I h;refine qO1 (xl I hg hm ?_ a3);refine PySem.W.callWith_K (h₀:=X.base) I.ok.mod.kin hk (thn (ha pos pins s σ H _ I h) λus s1 ⟨vs,H1,I1,r,q⟩=>⟨I1.kIn,?_⟩) he O;show zj F hr hb hd hx I1 r q
structure f7 (N P:Jk) (sc:Scope):Prop where
 kind:sc.kind=.function
 co:sc.isCoroutine=false
 gen:sc.isGenerator=false
 nd:N.Nodup
 pre:N.take P.length=P
 par:∀x∈P,sc.names.lookup x=some .local\/sc.names.lookup x=some .cell
 nofree:∀y∈sc.names,y.2≠.free
def qD {kindOf:Str->Option NameKind}:∀{binds:List (Str×Value)}{m:Jz},(∀v,(x,v)∉binds)->bindL kindOf binds m x=m x:=by
 intro binds
 induction binds with
 |nil=>intro m _;rfl
 | cons p r q=>
  intro m h;unfold bindL;rw[q λw hw=>h w (qA6 _ hw)]
  split
  .have:x≠p.1:=by rintro rfl;show h p.2 qB2
   simp [this]
  .rfl
def qF {kindOf:Str->Option NameKind}:∀{binds:List (Str×Value)}{m:Jz},(∀v,(x,v)∉binds)->bindC kindOf binds m x=m x:=by
 intro binds
 induction binds with
 |nil=>intro m _;rfl
 | cons p r q=>
  intro m h;unfold bindC;rw[q λw hw=>h w (qA6 _ hw)]
  split
  .rfl
  .have:x≠p.1:=by rintro rfl;show h p.2 qB2
   simp [this]
def qE {kindOf:Str->Option NameKind}:∀{P:Jk}{vs:Jw}{i:Nat}{m:Jz},P.Nodup->P[i]?=some x->vs[i]?=some v->kindOf x=some .local ->
  bindL kindOf (P.zip vs) m x=some v:=by
 intro P
 induction P with
 |nil=>intro vs i m _ h _ _;cases h
 | cons p P O=>
  intro vs i m nd L q hk;cases vs with
  |nil=>cases q
  | cons w vs=>
   change bindL kindOf ((p,w)::P.zip vs) m x=_;unfold bindL;cases i with
   | zero=>
    cases L;cases q;rw[qD λv hv=>(qM4.mp nd).1 (qW5 hv).1,qA2 hk];simp
   |succ i=>show O (qM4.mp nd).2 L q hk
def qG {kindOf:Str->Option NameKind}:∀{P:Jk}{vs:Jw}{i:Nat}{m:Jz},P.Nodup->P[i]?=some x->vs[i]?=some v->kindOf x≠some .local ->
  bindC kindOf (P.zip vs) m x=some v:=by
 intro P
 induction P with
 |nil=>intro vs i m _ h _ _;cases h
 | cons p P O=>
  intro vs i m nd L q hk;cases vs with
  |nil=>cases q
  | cons w vs=>
   change bindC kindOf ((p,w)::P.zip vs) m x=_;unfold bindC;cases i with
   | zero=>
    cases L;cases q;rw[qF λv hv=>(qM4.mp nd).1 (qW5 hv).1,qA4 hk];simp
   |succ i=>show O (qM4.mp nd).2 L q hk
def start (N:Jk)(vs:List V):St:=vs.map some++List.replicate (N.length-vs.length) none
def bd (CX:CXT) (P:Program) (w:World) (K:Frag) (mg:Jz) (base:Heap) (N:Jk) (qual:Str) (scope:Scope) (f:Addr) (cd:Value) (A:Around) (outer:List Env) (s:Shared) (H:Hp) (E:XK):Cx where
 prog:=P
 w:=w
 K:=K
 mg:=mg
 base:=base
 A:=A.deeper (envOfC qual scope s.heap.objs.size f cd)
 N:=N
 s₀:=s
 H₀:=H
 env:=envOfC qual scope s.heap.objs.size f cd
 outer:=outer
 stack:=envOfC qual scope s.heap.objs.size f cd::outer
 ex:=[]
 calm:=true
 fn:=λ_=>true
 pn:=[]
 xe:=λe s'=>wpAny (model P w) (A.deeper (envOfC qual scope s.heap.objs.size f cd)) (leaving (envOfC qual scope s.heap.objs.size f cd) e) (λ_ q=>CX outer H s E e q) (λL q=>CX outer H s E L q) s'
def jy {sc:Scope}(h:sc.names.lookup x=some .cell):∃c,(cellsFrom n sc.names []).lookup x=some c:=by
 have q:=PySem.W.cellsFrom_some sc.names n [] (.inl h);show Option.isSome_iff_exists.mp q
def pT {K:Frag}(S:f7 N ps scope) (hd:A.handled=none) (O:nB P w K mg base A outer s H) (hl:vs.length=ps.length) (r:Vals vs us) (x:InCallC s s.heap.objs.size (bindL (envOfC qual scope s.heap.objs.size f cd).kindOf (ps.zip us) λ_=>none) (cellsFrom (s.heap.objs.size+1) scope.names []) (bindC (envOfC qual scope s.heap.objs.size f cd).kindOf (ps.zip us) λ_=>none) s1):
  Inv (bd CX P w K mg base N qual scope f cd A outer s H E) [] (start N vs) H s1:=by
 have a5:ps.length<=N.length:=by have:=congrArg List.length S.pre;rw[qH0]at this;omega
 obtain ⟨h1,tk,rfl,hk⟩:=x.done;have a3:∀b:Addr,b∉(bd CX P w K mg base N qual scope f cd A outer s H E).ex:=λb z=>absurd (show b∈([]:List Addr) from z) QX;refine ⟨⟨O.mod,S.kind,rfl,rfl,qB5 _,λy z c h1 L=>?_,λy hy=>?_,λy c _ h=>?_,λ_=>hd,Around.frames_deeper O.frames,.inr ⟨rfl,rfl⟩,λb z=>absurd z (a3 b),O.bs,O.bsz,λb _ _=>a3 b,λb z=>absurd z (a3 b),O.funs,O.frf⟩,
  rfl,O.bare,Un.kept hk,⟨_,x.toInCall.ns,λi y v h1 L h3=>?_⟩,λy c h=>⟨_,x.cell y c h⟩,O.hok.fresh (qB5 _),λy c h=>?_,λp hp=>absurd (show p∈([]:Jq) from hp) QX,O.hok.kept hk,?_⟩
 .show name_of_addr x.apart (qH7 h1) (qH7 L)
 .have hy:scope.names.lookup y=some .cell\/scope.names.lookup y=some .free:=hy;rcases hy with hy|hy
  .show jy hy
  .show absurd rfl (S.nofree _ (qH7 hy))
 .show qI6 (x.above y c (qH7 h))
 .have hi:i<vs.length:=by
   unfold start at L;by_cases hi:i<vs.length
   .show hi
   .rw [qH9 (by simpa using hi)]at L
    rw[qG2]at L
    split at L <;> cases L
  have ha:vs[i]?=some v:=by
   unfold start at L;rw[qE8 (by simpa using hi),qC9]at L;cases e:vs[i]? with
   |none=>rw[e]at L;cases L
   |some a=>rw[e]at L;cases L;rfl
  obtain ⟨u,hu,rv⟩:=r.get ha;have hp:ps[i]?=some y:=by
   rw[<- S.pre,qH1 ox];show h1
  have a4:ps.Nodup:=by rw[<- S.pre];show S.nd.sublist (List.take_sublist _ _)
  refine ⟨u,rv,?_⟩;rcases S.par y (qF6 hp) with k|k
  .show .inl ⟨k,qE a4 hp hu k⟩
  .obtain ⟨c,e⟩:=jy (n:=s.heap.objs.size+1) k;refine .inr ⟨.inl k,c,e,?_⟩;have q:=x.cell y c e;rw[qG a4 hp hu (by change scope.names.lookup y≠_;rw[k];decide)]at q;show q
 .show O.hok.fresh (qI6 (x.above y c (qH7 h)))
 .unfold start
  change _=N.length;rw[qC5,qA7,List.length_replicate];omega
def EG {K:Frag}{kV:Value}(lk:K.lookup f=some ⟨oc,od,.func (PySem.W.fnOf name qual params body scope dV kV doc pm an cdv ct),osl⟩) (a6:PySem.W.codeIn K cdv qual=true) (S:f7 N ps scope) (len:∀vs H Q E,sp vs H Q E->vs.length=ps.length) (a3:∀(A:Around) (outer:List Env) (s:Shared) (H:Hp) (vs:List V) (Q:VK) (E:XK),Room k (A.deeper (envOfC qual scope s.heap.objs.size f cdv))->sp vs H Q E ->
   ∃t,PSs (bd CX P w K mg base N qual scope f cdv A outer s H E) body t/\t { nx:=λ_ H'=>Q .non H',rt:=Q } (start N vs) H):
  FnOk P w K mg base CX (k+1) f (PySem.W.fnOf name qual params body scope dV kV doc pm an cdv ct) ps sp:=by
 refine ⟨len,λA outer s H args us vs Q E hr e0 hb r a4=>?_⟩;have hl:=len _ _ _ _ a4;have KX:K.In s.heap:=e0.mod.kin.keeps λb o e=>(e0.bs b o e).1;have lim:s.heap.NoLimit:=e0.mod.nolimit.keeps λb o e=>(e0.bs b o e).1;have O:∀y∈ps.zip us,scope.names.lookup y.1=some .local\/(scope.names.lookup y.1=some .cell/\((cellsFrom (s.heap.objs.size+1) scope.names []).lookup y.1).isSome=true):=λa5 hy=>by
  obtain ⟨n,v⟩:=a5;rcases S.par n (qW5 hy).1 with q|q
  .show .inl q
  .show .inr ⟨q,PySem.W.cellsFrom_some _ _ _ (.inl q)⟩
 refine codeAny_call_function hr.depth (KX _ _ lk) rfl S.co S.gen rfl (PySem.W.codeRec_of KX a6) (hb _ _ _ _ ?_);refine wpAny_newFunctionEnv_cells S.kind O λenv he s1 x=>?_;subst he;refine ⟨lim.keeps x.toInCall.keep,codeAny_func ?_⟩;obtain ⟨t,ht,hq⟩:=a3 A outer s H vs Q E (hr.deeper _) a4;have I:Inv (bd CX P w K mg base N qual scope f cdv A outer s H E) [] (start N vs) H s1:=pT S hr.hd e0 hl r x;refine qQ1 (ht [] s1 (start N vs) H _ I hq) (λfl s' hs=>?_) λe s' hs=>hs;have fin:∀{L:St}{H':Hp}{v:V}{u:Value},Inv (bd CX P w K mg base N qual scope f cdv A outer s H E) [] L H' s'->RelV v u->Q v H'->CE outer P w H s Q u s':=
  λ{L H' v u} J rv q=>⟨v,H',J.os,J.bare,J.base,J.hok,rv,q⟩
 cases fl with
 | ret u=>
  obtain ⟨v,L,H',J,rv,q⟩:=hs;show fin J rv q
 | next=>
  obtain ⟨L,H',J,q⟩:=hs;show fin (v:=V.non) (u:=Value.none) J rfl q
 | brk=>
  obtain ⟨_,_,_,q⟩:=hs;show False.elim q
 | cont=>
  obtain ⟨_,_,_,q⟩:=hs;show False.elim q
def tCB (r:List V->Hp->VK->Prop)(t:TA):TE:=λσ H Q=>t σ H λvs H1=>r vs H1 Q
def iy {X:Cx}{x:Str}{p pos:Pos}{e:Expr}{es:Jx}{t:TA}{id:String}{r:List V->Hp->VK->Prop}(hc:B0 X (.builtin id) r) (hg:Gl X x) (hm:X.mg x=none) (hv:bootBuiltins x=some (.builtin id)) (ha:PA X (e::es) t) (hn:x ≠ "__name__" := by decide) (O:(x == ("__debug__" : Str))=false:=by decide) (he:starEach (e::es) X.env=(false,eval e X.env)::starEach es X.env:=by rfl) (L:(backTo pos (starEach es X.env)).any (·.1)=false:=by rfl):PE X (.Call (.Name x p) (e::es) [] pos) (tCB r t):=by
 intro pins s σ H Q I h;refine qO1 (F4 I hg hm hv ?_ hn O);show qS4 (thn (ha pos pins s σ H _ I h) λus s1 q=>by obtain ⟨vs,H1,I1,r1,q1⟩:=q;show hc pins s1 σ H1 vs us Q I1 r1 q1) he L
def oT {X:Cx}{x:Str}{p pos:Pos}{e:Expr}{es:Jx}{t:TA}{T:String}{r:List V->Hp->VK->Prop}(hc:B0 X (.type T) r) (hg:Gl X x) (hm:X.mg x=none) (hv:bootBuiltins x=some (.type T)) (ha:PA X (e::es) t) (hn:x ≠ "__name__" := by decide) (O:(x == ("__debug__" : Str))=false:=by decide) (he:starEach (e::es) X.env=(false,eval e X.env)::starEach es X.env:=by rfl) (L:(backTo pos (starEach es X.env)).any (·.1)=false:=by rfl):PE X (.Call (.Name x p) (e::es) [] pos) (tCB r t):=by
 intro pins s σ H Q I h;refine qO1 (F4 I hg hm hv ?_ hn O);show qF4 (thn (ha pos pins s σ H _ I h) λus s1 q=>by obtain ⟨vs,H1,I1,r1,q1⟩:=q;show hc pins s1 σ H1 vs us Q I1 r1 q1) he L
end L2
namespace HT
open PySem PyProof.Rows
def lexLt:List Int->List Int->Bool
 | [],[]=>false
 | [],_::_=>true
 |_::_,[]=>false
 |x::xs,y::ys=>if x=y then lexLt xs ys else decide (x<y)
section
open PySem.SeqAt
open PySem.AutoSeq1 (wpAny_loadPart')
open PySem.MeetsSeq PySem.MeetsSeq2 PySem.MeetsSeq3
end
def sIx (n d:Nat):Option Int->Nat
 |none=>d
 |some v=>if v<0 then (v+(n:Int)).toNat else min v.toNat n
def sIx_none (n d:Nat):sIx n d none=d:=rfl
def sIx_nat (n d k:Nat):sIx n d (some (k:Int))=min k n:=by
 change (if (k:Int)<0 then ((k:Int)+(n:Int)).toNat else min (k:Int).toNat n)=min k n;rw[qA4 ox,qG3]
end HT
namespace L2
open PySem PySem.Spec PyProof.Rows
abbrev TO:=St->Hp->(Option Int->Hp->Prop)->Prop
def PO (X:Cx) (e:Option Expr) (t:TO):Prop:=
 ∀ (pins:Jq) (s:Shared) (σ:St) (H:Hp) (Q:Option Int->Hp->Prop),Inv X pins σ H s->t σ H Q ->
  wpAny (model X.prog X.w) X.A (evalPart e X.env) (λu s'=>∃o H',Inv X pins σ H' s'/\IsPart u o/\Q o H') X.xe s
def tNoPart:TO:=λ_ H Q=>Q none H
def uG (t:TE):TO:=λσ H Q=>t σ H λx H1=>∃i,x=.int i/\Q (some i) H1
def po_none:PO X none tNoPart:=by
 intro pins s σ H Q I h;rw[evalPart_none];show qN6 ⟨none,H,I,.none,h⟩
def wv (h:PE X e te):PO X (some e) (uG te):=by
 intro pins s σ H Q I hw;rw[evalPart_some];refine thn (h pins s σ H _ I hw) λu s1 L=>?_;obtain ⟨x,H1,I1,r1,O⟩:=L;obtain ⟨i,rfl,q⟩:=O;obtain ⟨t,rfl⟩:=r1;show ⟨some i,H1,I1,.int i t,q⟩
def SlR (X:Cx) (r:V->Option Int->Option Int->Hp->VK->Prop):Prop:=
 ∀ (pins:Jq) (s:Shared) (σ:St) (H:Hp) (x:V) (v L q:Value) (lo hi:Jv) (sl:Addr) (Q:VK),Inv X pins σ H s->RelV x v->s.heap.IsSliceOf sl L q .none->IsPart L lo->IsPart q hi->r x lo hi H Q ->
  ∃T id,typeLookup (.type T) "__getitem__" = pure (some (.builtin id))/\s.TypeIs v T/\wpAny (model X.prog X.w) X.A (getItem v (.ref sl)) (EP X pins σ Q) X.xe s
def tSl (r:V->Option Int->Option Int->Hp->VK->Prop)(L:TE)(tl q:TO):TE:=λσ H Q=>L σ H λx H1=>tl σ H1 λl H2=>q σ H2 λu O=>r x l u O Q
def se {lo:Option Expr}(hr:SlR X r) (he:PE X e te) (hl:PO X lo tl) (hu:PO X hi th):PE X (.Subscript e (.Slice lo hi none p2) pos) (tSl r te tl th):=by
 intro pins s σ H Q I h;refine Subscript_ (thn (he pins s σ H _ I h) λv s1 a3=>?_);obtain ⟨x,H1,I1,r1,q1⟩:=a3;refine wpAny_Slice (thn (hl pins s1 σ H1 _ I1 q1) λvl s2 ⟨l,H2,I2,pl,q2⟩=>thn (hu pins s2 σ H2 _ I2 q2) λvu L O=>?_);obtain ⟨u,H3,I3,pu,q3⟩:=O;rw[evalPart_none];refine qN6 ?_;have I4:Inv X pins σ H3 { L with heap:=L.heap.push { cls:=.type "slice",data:=.fields #[vl,vu,.none] } }:=I3.kept (t':=L.toks) λb ob q=>qA5 _ q;obtain ⟨T,id,hT,ht,hg⟩:=hr pins { L with heap:=L.heap.push { cls:=.type "slice",data:=.fields #[vl,vu,.none] } } σ H3 x v vl vu l u L.heap.objs.size Q I4 r1 (Heap.IsSliceOf.new ..) pl pu q3
 change wpAny (model X.prog X.w) X.A (subscriptTail e (.Slice lo hi none p2) v (.ref L.heap.objs.size)) (EP X pins σ Q) X.xe { L with heap:=L.heap.push { cls:=.type "slice",data:=.fields #[vl,vu,.none] } };show tail_any (ops:=[.ref L.heap.objs.size,v]) ht hT hg (by with_unfolding_all rfl)
def fk (xs:List V)(lo hi:Jv):List V:=(xs.drop (HT.sIx xs.length 0 lo)).take (HT.sIx xs.length xs.length hi-HT.sIx xs.length 0 lo)
def jW (xs:List V) (lo hi:Jv):(fk xs lo hi).length<=xs.length:=by
 unfold fk;rw[qH0,qV0];omega
def ixN (n:Nat) (i:Int):Option Nat:=if 0<=i then (if i<n then some i.toNat else none) else if -(n:Int)<=i then some (i+n).toNat else none
def atI {α:Type}(xs:List α) (i:Int):Option α:=(ixN xs.length i).bind λj=>xs[j]?
def lm (h:ixN n i=some j):seqIndex? i n=some j/\j<n /\ -(n:Int)<=i/\i<n:=by
 unfold ixN at h;by_cases h0:0<=i
 .rw [qA2 h0]at h
  by_cases q:i<n
  .rw [qA2 q]at h
   have e:i.toNat=j:=Option.some.inj h;show ⟨by rw[seqIndex_of h0 q,e],ox,ox,q⟩
  .rw[qA4 q]at h;cases h
 .rw [qA4 h0]at h
  by_cases q:-(n:Int)<=i
  .rw [qA2 q]at h
   have e:(i+n).toNat=j:=Option.some.inj h;show ⟨by rw[seqIndex_neg ox q,e],ox,q,ox⟩
  .rw[qA4 q]at h;cases h
def ft {xs:List α}(h:atI xs i=some v):∃j,seqIndex? i xs.length=some j/\xs[j]?=some v/\j<xs.length /\ -(xs.length:Int)<=i/\i<xs.length:=by
 unfold atI at h;cases e:ixN xs.length i with
 |none=>rw[e]at h;cases h
 | some j=>
  rw[e]at h;obtain ⟨q,O,h3,L⟩:=lm e;show ⟨j,q,h,O,h3,L⟩
def fw (b:Expr):Prop:=∀o i,subscripted b false o i=operate [o,i] (getItem o i)
def IxR (X:Cx) (r:R2):Prop:=
 ∀ (value slice:Expr) (pins:Jq) (s:Shared) (σ:St) (H:Hp) (x y:V) (v u:Value) (Q:VK),Inv X pins σ H s->RelV x v->RelV y u->r x y H Q ->
  subscripted slice false v u=operate [v,u] (getItem v u)->wpAny (model X.prog X.w) X.A (subscriptTail value slice v u) (EP X pins σ Q) X.xe s
def MtR (X:Cx) (id:String) (r:V->List V->Hp->VK->Prop):Prop:=
 ∀ (pins:Jq) (s:Shared) (σ:St) (H:Hp) (x:V) (xs:List V) (v:Value) (us:Jw) (Q:VK),Inv X pins σ H s->RelV x v->Vals xs us->r x xs H Q ->
  wpAny (model X.prog X.w) X.A (call (.builtin id) (v::us)) (EP X pins σ Q) X.xe s
def IxR.or (h:IxR X r) (h':IxR X r'):IxR X (λx y H Q=>r x y H Q\/r' x y H Q):=by
 intro value slice pins s σ H x y v u Q I L O q hs;rcases q with q|q
 .show h value slice pins s σ H x y v u Q I L O q hs
 .show h' value slice pins s σ H x y v u Q I L O q hs
def uP (O:IxR X r) (ha:PE X a ta) (hb:PE X b tb) (hs:fw b):PE X (.Subscript a b pos) (tOp r ta tb):=by
 intro pins s σ H Q I h;show Subscript_ (ul ha hb I h λv u s2 x y H2 I2 rx L q=>O a b pins s2 σ H2 x y v u Q I2 rx L q (hs _ _))
def Ab (K:Frag):R2:=λx y H Q=>∃p xs i v,x=.ref p/\y=.int i/\SqL K H p xs/\atI xs i=some v/\Q v H
def Aa (K:Frag):R2:=λx y H Q=>∃p xs i v,x=.ref p/\y=.int i/\SqT K H p xs/\atI xs i=some v/\Q v H
def rIxS:R2:=λx y H Q=>∃z i c,x=.str z/\y=.int i/\z.length<=sizeLine/\atI z.cps.toList i=some c/\Q (.str ⟨#[c]⟩) H
def ix_list:IxR X (Ab X.K):=by
 intro value slice pins s σ H x y v u Q I rx ry h hs;obtain ⟨p,xs,i,z,rfl,rfl,hq,he,q⟩:=h;cases rx;obtain ⟨t,rfl⟩:=ry;obtain ⟨its,r,pl,hz⟩:=I.list hq;obtain ⟨j,L,h2,h3,h4,h5⟩:=ft he;obtain ⟨w,ew,O⟩:=r.get h2;have hl:=r.length;have hn:=aO;have fin:EP X pins σ Q w s:=⟨z,H,I,O,q⟩;by_cases h0:0<=i
 .have hj:i.toNat=j:=by
   rw[seqIndex_of h0 h5]at L;show Option.some.inj L
  show item_listR pl.isList h0 ox (by rw[hj];simpa using ew) fin hs
 .have hj:(i+(its.toArray.size:Int)).toNat=j:=by
   rw[seqIndex_neg ox h4]at L;rw[qB8,<- hl];show Option.some.inj L
  show subscriptTail_builtinR (x:=w) pl.isList.typeIs slot_list_getitem.lookup
   (wpAny_getItem_list_neg (Q:=λr s'=>r=w/\EP X pins σ Q r s') pl.isList ox (by rw[qB8] <;> omega) ox (by rw[hj];simpa using ew) ⟨rfl,fin⟩) hs
def ix_tup:IxR X (Aa X.K):=by
 intro value slice pins s σ H x y v u Q I rx O h hs;obtain ⟨p,xs,i,z,rfl,rfl,hq,he,q⟩:=h;cases rx;obtain ⟨t,rfl⟩:=O;obtain ⟨its,r,pl,hz⟩:=I.tuple hq;obtain ⟨j,h1,h2,h3,h4,h5⟩:=ft he;obtain ⟨w,ew,L⟩:=r.get h2;have hl:=r.length;have hn:=aO;have fin:EP X pins σ Q w s:=⟨z,H,I,L,q⟩;show subscriptTail_builtinR (x:=w) pl.typeIs slot_tuple_getitem.lookup
  (getItem_tuple (j:=j) (Q:=λr s'=>r=w/\EP X pins σ Q r s') pl ox ox (by rw[qB8,<- hl];show h1) (by simpa using ew) ⟨rfl,fin⟩) hs
def Bl:IxR X rIxS:=by
 intro value slice pins s σ H x y v u Q I rx O h hs;obtain ⟨z,i,c,rfl,rfl,hz,he,q⟩:=h;obtain ⟨t,rfl⟩:=rx;obtain ⟨t',rfl⟩:=O;obtain ⟨j,L,h2,h3,h4,h5⟩:=ft he;have hl:z.cps.toList.length=z.length:=by simp [Str.length]
 rw[hl]at L h4 h5;have hn:=aO;show tail_any (typeIs_str s z t) slot_str_getitem.lookup (getItem_str (c:=c) (by
  have e1:decide (i < -(2^63:Int))=false:=qN7 ox;have e2:decide (i≥2^63)=false:=qN7 ox;rw[e1,e2,xB1]) (by rw[L];simpa using h2) ⟨.str ⟨#[c]⟩,H,I.tok _,⟨_,rfl⟩,q⟩) hs
def rIx (K:Frag):R2:=λx y H Q=>Ab K x y H Q\/Aa K x y H Q\/rIxS x y H Q
def pL:IxR X (rIx X.K):=ix_list.or (ix_tup.or Bl)
def mJ (its:Jw) (n j:Nat) (u:Value):Obj.mapSeq (·.setIfInBounds j u) { cls:=.type "list",data:=.seq its.toArray n }={ cls:=.type "list",data:=.seq (its.set j u).toArray n }:=by
 simp [Obj.mapSeq]
def Inv.lst {σ:St}(I:Inv X pins σ H s) (h:H p=some (.lst xs)):
  ∃(its:Jw) (n:Nat),Vals xs its/\s.heap.get? p=some { cls:=.type "list",data:=.seq its.toArray n }/\xs.length<=sizeLine:=by
 obtain ⟨z,its,n,r,e⟩:=I.hok p _ h;show ⟨its,n,r,e,z⟩
def Inv.lstUpd {σ:St}{its:Jw}(I:Inv X pins σ H s) (h:H p=some (.lst xs)) (O:s.heap.get? p=some { cls:=.type "list",data:=.seq its.toArray n }) (L:f { cls:=.type "list",data:=.seq its.toArray n }={ cls:=.type "list",data:=.seq its'.toArray n' }) (r:Vals ys its') (hz:ys.length<=sizeLine) (t:Nat):
  Inv X pins σ (upd H p (.lst ys)) { s with heap:=s.heap.update p f,toks:=t }:=by
 have e:(s.heap.update p f).get? p=some { cls:=.type "list",data:=.seq its'.toArray n' }:=by
  rw[qI3 f O (by rw[L] <;> rfl),L]
 refine I.write (x:=p) (e:=p) (by rw[h];trivial) (.inl rfl) (λb u hb q=>(qR5 _ _ (Ne.symm hb)).trans q) ⟨_,e⟩ ?_;show ⟨hz,its',n',r,e⟩
def rSetL:V->V->V->Hp->(Hp->Prop)->Prop:=λo i v H Q=>∃p xs k j,o=.ref p/\i=.int k/\H p=some (.lst xs)/\ixN xs.length k=some j/\Q (upd H p (.lst (xs.set j v)))
def set_list:DL X rSetL:=by
 intro pins s σ H o i v ov iv u Q I ro ri rv h;obtain ⟨p,xs,k,j,rfl,rfl,hp,hj,q⟩:=h;cases ro;obtain ⟨t,rfl⟩:=ri;obtain ⟨its,n,r,O,hz⟩:=I.lst hp;obtain ⟨L,h2,h3,h4⟩:=lm hj;have hl:=r.length;have hn:=aO;have I':Inv X pins σ (upd H p (.lst (xs.set j v))) { s with heap:=s.heap.update p (Obj.mapSeq (·.setIfInBounds j u)) }:=
  I.lstUpd hp O (mJ its n j u) (r.set rv j) (by rw[qE9];show hz) s.toks
 by_cases h0:0<=k
 .have hk:k.toNat=j:=by
   rw[seqIndex_of h0 h4]at L;show Option.some.inj L
  show PySem.W.ki_setAt O h0 ox (by rw[qB8,<- hl];show h4) (by rw[hk];show ⟨_,I',q⟩)
 .have hk:(k+(its.toArray.size:Int)).toNat=j:=by
   rw[seqIndex_neg ox h3]at L;rw[qB8,<- hl];show Option.some.inj L
  show PySem.W.ki_setBack O ox (by rw[qB8,<- hl];show h3) ox (by rw[hk];show ⟨_,I',q⟩)
def hJ (lo hi:Jv) (n:Nat):(sliceBounds lo hi none n).1=((HT.sIx n 0 lo:Nat):Int)/\(sliceBounds lo hi none n).2.1=((HT.sIx n n hi:Nat):Int)/\(sliceBounds lo hi none n).2.2=1:=by
 refine ⟨?_,?_,rfl⟩
 .cases lo with
  |none=>simp [sliceBounds,HT.sIx]
  | some i=>
   simp only [sliceBounds,HT.sIx,Option.getD_none,show (1:Int)>0 by decide,qN9];by_cases h:i<0
   .simp only [h,qN9] <;> omega
   .simp only [h,qO0] <;> omega
 .cases hi with
  |none=>simp [sliceBounds,HT.sIx]
  | some i=>
   simp only [sliceBounds,HT.sIx,Option.getD_none,show (1:Int)>0 by decide,qN9];by_cases h:i<0
   .simp only [h,qN9] <;> omega
   .simp only [h,qO0] <;> omega
def gi (its:Jw) (lo hi:Jv):slicePick its.toArray lo hi none=((its.drop (HT.sIx its.length 0 lo)).take (HT.sIx its.length its.length hi-HT.sIx its.length 0 lo)).toArray:=by
 obtain ⟨q,L,O⟩:=hJ lo hi its.toArray.size;unfold slicePick;rw[q,L,O];simp only [sliceRange_one,pick_run,qB8] <;> rfl
def zW (K:Frag):V->Option Int->Option Int->Hp->VK->Prop:=λx lo hi H Q=>∃a xs,x=.ref a/\SqL K H a xs/\∀p,H p=none->Q (.ref p) (upd H p (.lst (fk xs lo hi)))
def vK:SlR X (zW X.K):=by
 intro pins s σ H x v vl vu lo hi sl Q I rx hs pl O h;obtain ⟨a,xs,rfl,L,q⟩:=h;cases rx;obtain ⟨its,r,ht,hz⟩:=I.list L;have hlen:=r.length;refine ⟨"list",_,slot_list_getitem.lookup,ht.isList.typeIs,?_⟩;refine wpAny_getItem_list_slice ht.isList hs pl O .none QX ?_ (by rw[qB8] <;> omega)
 rw[gi,<- hlen];refine ⟨.ref s.heap.objs.size,_,I.laid (t':=s.toks) (o:=.lst (fk xs lo hi)) (λb ob q=>qA5 _ q) (qB5 _) ?_,rfl,q _ (I.hok.fresh (qB5 _))⟩;show ⟨qB1 (jW xs lo hi) hz,_,0,(r.drop (HT.sIx xs.length 0 lo)).take (HT.sIx xs.length xs.length hi-HT.sIx xs.length 0 lo),qC2 _ rfl⟩
def vc:V->Bool
 | .non=>true
 | .bl _=>true
 | .int _=>true
 | .str _=>true
 |_=>false
def eqV:V->V->Bool
 | .non,.non=>true
 | .bl a,.bl b=>a == b
 | .bl a,.int b=>(if a then 1 else 0) == b
 | .int a,.bl b=>a == (if b then 1 else 0)
 | .int a,.int b=>a == b
 | .str a,.str b=>a == b
 |_,_=>false
def inV (x:V)(xs:List V):Bool:=xs.any λy=>eqV y x
def rIn (K:Frag)(neg:Bool):R2:=λx y H Q=>∃p xs,y=.ref p/\(SqL K H p xs\/SqT K H p xs)/\vc x=true/\xs.all vc=true/\Q (.bl (if neg then !inV x xs else inV x xs)) H
def jA:B0 X (.builtin "len") (λxs H Q=>∃p L,xs = [.ref p]/\(SqL X.K H p L\/SqT X.K H p L)/\Q (.int L.length) H):=by
 intro pins s σ H xs us Q I r h;obtain ⟨p,L,rfl,O,q⟩:=h;obtain ⟨u,rfl,rx⟩:=vals1 r;cases rx;have hn:=aO;rcases O with O|O
 .obtain ⟨its,r',pl,hz⟩:=I.list O;have hlen:=r'.length;show Calls.call_len_list pl.isList (by simp only [qB8] <;> omega) ⟨.int L.length,H,I.tok _,⟨s.toks+1,by rw[qB8,hlen]⟩,q⟩
 .obtain ⟨its,r',pl,hz⟩:=I.tuple O;have hlen:=r'.length;show len_tuple pl (by simp only [qB8] <;> omega) ⟨.int L.length,H,I.tok _,⟨s.toks+1,by rw[qB8,hlen]⟩,q⟩
def jz:B0 X (.type "list") (λxs H Q=>∃p L,xs = [.ref p]/\(SqL X.K H p L\/SqT X.K H p L)/\∀l,H l=none->Q (.ref l) (upd H l (.lst L))):=by
 intro pins s σ H xs us Q I r h;obtain ⟨p,L,rfl,hq,q⟩:=h;obtain ⟨u,rfl,rx⟩:=vals1 r;cases rx;have fin:∀(its:Jw),Vals L its->L.length<=sizeLine->∀(h':Heap) (c':Nat),(∀b o',s.heap.get? b=some o'->h'.get? b=some o') ->
   h'.get? s.heap.objs.size=some { cls:=.type "list",dict:=none,data:=.seq its.toArray c',slots:=#[] }->EP X pins σ Q (.ref s.heap.objs.size) { s with heap:=h' }:=λits O hz h' c' kp e=>
  ⟨.ref s.heap.objs.size,_,I.laid (t':=s.toks) kp (qB5 _) (show ObjOk X.prog X.w _ h' _ (.lst L) from ⟨hz,its,c',O,e⟩),rfl,q _ (I.hok.fresh (qB5 _))⟩
 rcases hq with hq|hq
 .obtain ⟨its,O,pl,hz⟩:=I.list hq;have hlen:=O.length;obtain ⟨o,ho,hc,n,hd⟩:=pl.isList;show call_list_seq p (.inl rfl) ho hc hd (λh' c' kp e=>fin its O hz h' c' kp e) (by simp only [qB8] <;> omega)
 .obtain ⟨its,O,pl,hz⟩:=I.tuple hq;have hlen:=O.length;obtain ⟨o,ho,hc,n,hd⟩:=pl;show call_list_seq p (.inr rfl) ho hc hd (λh' c' kp e=>fin its O hz h' c' kp e) (by simp only [qB8] <;> omega)
def gr:B0 X (.type "tuple") (λxs H Q=>∃p L,xs = [.ref p]/\((SqL X.K H p L/\∀l,H l=none->Q (.ref l) (upd H l (.tup L)))\/(SqT X.K H p L/\Q (.ref p) H))):=by
 intro pins s σ H xs us Q I r h;obtain ⟨p,L,rfl,h⟩:=h;obtain ⟨u,rfl,rx⟩:=vals1 r;cases rx;rcases h with ⟨hq,q⟩|⟨hq,q⟩
 .obtain ⟨its,O,pl,hz⟩:=I.list hq;have hlen:=O.length;refine call_tuple_list pl.isList (λh' kp=>?_) (by simp only [qB8] <;> omega)
  have I1:Inv X pins σ H { s with heap:=h' }:=I.kept (t':=s.toks) kp;have I2:Inv X pins σ (upd H h'.objs.size (.tup L)) { s with heap:=h'.push { cls:=.type "tuple",data:=.seq its.toArray } }:=
   I1.laid (t':=s.toks) (λb o e=>qA5 _ e) (qB5 _) (show ObjOk X.prog X.w _ _ _ (.tup L) from ⟨hz,its,O,IsTup.new _ _⟩)
  show ⟨.ref h'.objs.size,_,I2,rfl,q _ (I1.hok.fresh (qB5 _))⟩
 .obtain ⟨its,O,pl,hz⟩:=I.tuple hq;show call_tuple_same pl ⟨.ref p,H,I,rfl,q⟩
def tyV (K:Frag) (T:String) (x:V) (H:Hp):Prop:=match x with
 | .str _=>T = "str"
 | .int _=>T = "int"
 | .ref p=>(T = "list" /\ ∃xs,SqL K H p xs)\/(T = "tuple" /\ ∃o,K.lookup p=some o/\o.cls=.type "tuple" /\ o.dict=none) \/
   (T = "dict" /\ ((∃kvs,H p=some (.dK kvs))\/∃kvs,H p=some (.dT kvs)))\/(T = "set" /\ ∃S n,H p=some (.set S n))
 |_=>False
def nP {σ:St}(I:Inv X pins σ H s) (r:RelV x v) (ty:tyV X.K T x H):
  s.TypeIs v T/\∀a,v=.ref a->∃ob,s.heap.get? a=some ob/\ob.dict=none:=by
 cases x with
 | str z=>
  obtain ⟨t,rfl⟩:=r;cases (show T = "str" from ty);show ⟨typeIs_str s z t,λ_ e=>nomatch e⟩
 | int i=>
  obtain ⟨t,rfl⟩:=r;cases (show T = "int" from ty);show ⟨typeIs_int s i t,λ_ e=>nomatch e⟩
 | ref p=>
  cases r;rcases ty with ⟨rfl,xs,hq⟩|⟨rfl,o,hk,hc,hd⟩|⟨rfl,hk⟩|⟨rfl,S,n,hk⟩
  .obtain ⟨its,_,pl,_⟩:=I.list hq;refine ⟨pl.isList.typeIs,λa e=>?_⟩;cases e;obtain ⟨o,n,e,c,hd,_⟩:=pl;show ⟨o,e,hd⟩
  .refine ⟨⟨o,I.kIn p o hk,hc⟩,λa e=>?_⟩;cases e;show ⟨o,I.kIn _ o hk,hd⟩
  .have z:∃o,s.heap.get? p=some o/\o.ExactDict:=by
    rcases hk with ⟨kvs,hk⟩|⟨kvs,hk⟩
    .obtain ⟨_,_,_,_,o,_,_,e,ex,_⟩:=I.hok p _ hk;show ⟨o,e,ex⟩
    .obtain ⟨_,_,_,_,o,_,_,e,ex,_⟩:=I.hok p _ hk;show ⟨o,e,ex⟩
   obtain ⟨o,e,ex⟩:=z;refine ⟨⟨o,e,ex.1⟩,λa e2=>?_⟩;cases e2;show ⟨o,e,ex.2.1⟩
  .obtain ⟨o,_,_,_,e,ex,_⟩:=I.hok p _ hk;refine ⟨⟨o,e,ex.1⟩,λa e2=>?_⟩;cases e2;show ⟨o,e,ex.2.1⟩
 |_=>show False.elim ty
def tBM (K:Frag)(T:String)(r:V->List V->Hp->VK->Prop)(q:TE)(t:TA):TE:=λσ H Q=>q σ H λx H1=>tyV K T x H1/\t σ H1 λxs H2=>r x xs H2 Q
def uQ {X:Cx}{o e:Expr}{es:Jx}{to:TE}{t:TA}{name:Str}{apos q:Pos}{T id:String}{r:V->List V->Hp->VK->Prop}(pa:PlainAttrs T) (slot:Slot T name id) (a7:typeOf (.builtin id)=pure (.type "method_descriptor")) (hm:MtR X id r) (ho:PE X o to) (ha:PA X (e::es) t) (O:attributeBase o name X.env (eval o X.env)=eval o X.env:=by rfl) (a5:((backTo q (starEach (e::es) X.env)).all (λx=>!x.1)&&(backToKw q (keywordEach [] X.env)).all (λx=>x.1.isSome)
   && decide ((e::es).length+([]:List Keyword).length+(if ([]:List Keyword).isEmpty then 0 else 1)<30))=true:=by rfl) (a3:(apos.endLine == q.line)=true:=by rfl) (hs:starEach (e::es) X.env=(false,eval e X.env)::starEach es X.env:=by rfl) (L:(backTo q (starEach es X.env)).any (·.1)=false:=by rfl):
  PE X (.Call (.Attribute o name apos) (e::es) [] q) (tBM X.K T r to t):=by
 intro pins s σ H Q I h;refine wpAny_Call_method_late O a5 a3 rfl (thn (ho pins s σ H _ I h) λv s1 a6=>?_);obtain ⟨x,H1,I1,r1,ty,q1⟩:=a6;obtain ⟨h1,h2⟩:=nP I1 r1 ty;refine ⟨T,id,pa,slot,a7,h1,h2,?_⟩;have hA:=ha q pins s1 σ H1 _ I1 q1;rw[hs]at hA ⊢;refine Calls.callWith_builtin (by change (false||(backTo q (starEach es X.env)).any (·.1))=false;rw[L] <;> rfl) (Calls.evalArgs_plain ?_)
 show thn hA λus s2 a4=>by obtain ⟨vs,H2,I2,r2,q2⟩:=a4;show hm pins s2 σ H2 x vs v us Q I2 r1 r2 q2
def MtM (X:Cx) (id:String) (r:V->List V->Hp->VK->Prop):Prop:=
 ∀ (pins:Jq) (s:Shared) (σ:St) (H:Hp) (x:V) (xs:List V) (v:Value) (us:Jw) (Q:VK),Inv X pins σ H s->RelV x v->Vals xs us->r x xs H Q ->
  wpAny (model X.prog X.w) X.A (call (.builtin id) (v::us)) (EP X pins σ Q) X.xe s
def Vals.one:∀{x:V}{us:Jw},Vals [x] us->∃u,us = [u]/\RelV x u:=by
 intro x us r;cases r with
 |cons r t=>cases t;show ⟨_,rfl,r⟩
def Vals.reverse (h:Vals xs us):Vals xs.reverse us.reverse:=by
 induction h with
 |nil=>show .nil
 |cons r t q=>rw[qL7,qL7];show Vals.append q (.cons r .nil)
def Inv.lset {σ:St}{its:Jw}(I:Inv X pins σ H s) (hH:H l=some (.lst xs)) (e:s.heap.get? l=some { cls:=.type "list",data:=.seq its.toArray n }) (L:f its.toArray=its'.toArray) (O:Vals ys its') (hz:ys.length<=sizeLine):
  Inv X pins σ (upd H l (.lst ys)) { s with heap:=s.heap.update l (Obj.mapSeq f),toks:=t' }:=by
 have q:=PySem.IsL.update e f;rw[L]at q;refine I.write (x:=l) (e:=l) (by rw[hH];show trivial) (.inl rfl) (λb' u hb hu=>(qR5 s.heap (Obj.mapSeq f) (Ne.symm hb)).trans hu) ⟨_,q⟩ ?_;show ⟨hz,its',_,O,q⟩
def Inv.lnew {σ:St}(I:Inv X pins σ H s) (L:Vals ys its) (hz:ys.length<=sizeLine):
  Inv X pins σ (upd H s.heap.objs.size (.lst ys)) { s with heap:=s.heap.push { cls:=.type "list",data:=.seq its.toArray },toks:=t' }:=
 I.laid (λ_ _ q=>qA5 _ q) (qB5 _) ⟨hz,its,0,L,qC2 _ rfl⟩
def Inv.fresh {σ:St}(I:Inv X pins σ H s):H s.heap.objs.size=none:=I.hok.fresh (qB5 _)
def Inv.lstM {σ:St}(I:Inv X pins σ H s) (q:H l=some (.lst xs)):xs.length<=sizeLine/\∃(its:Jw) (n:Nat),Vals xs its/\xs.length=its.length/\s.heap.get? l=some { cls:=.type "list",data:=.seq its.toArray n }:=by
 obtain ⟨z,its,n,r,e⟩:=I.hok l _ q;show ⟨z,its,n,r,r.length,e⟩
def sD (h:n<=sizeLine):Builtin.List.listTooLong n=false:=by
 unfold Builtin.List.listTooLong;show qN7 ox
def rAppend:V->List V->Hp->VK->Prop:=λx vs H Q=>∃l xs y,x=.ref l/\vs = [y]/\H l=some (.lst xs)/\xs.length<sizeLine/\Q .non (upd H l (.lst (xs ++ [y])))
def fH:MtM X "list.append" rAppend:=by
 intro pins s σ H x vs v us Q I O rv h;obtain ⟨l,xs,y,rfl,rfl,L,hz,q⟩:=h;cases O;obtain ⟨u,rfl,ru⟩:=rv.one;obtain ⟨z,its,n,r,hl,e⟩:=I.lstM L;refine call_meets F.slot_list_append ⟨_,e,rfl⟩ F.entry_list_append (F.args_list_append_2 _ _) (PySem.list_append l its.toArray n u (by rw[qB8];omega)) ⟨e,?_⟩;refine ⟨.non,_,I.lset (its':=its ++ [u]) L e QX (r.append (.cons ru .nil)) ?_,rfl,q⟩;rw[qC5,qF5];omega
def rExtend:V->List V->Hp->VK->Prop:=λx vs H Q=>∃l b xs q,x=.ref l/\vs = [.ref b]/\H l=some (.lst xs)/\H b=some (.lst q)/\xs.length+q.length<=sizeLine/\Q .non (upd H l (.lst (xs++q)))
def pC:MtM X "list.extend" rExtend:=by
 intro pins s σ H x vs v us Q I rx rv h;obtain ⟨l,b,xs,zs,rfl,rfl,hH,hB,hz,q⟩:=h;cases rx;obtain ⟨u,rfl,ru⟩:=rv.one;cases ru;obtain ⟨z,its,n,r,hl,e⟩:=I.lstM hH;obtain ⟨z2,L,n2,r2,a3,e2⟩:=I.lstM hB;have hsz:its.toArray.size+L.toArray.size<=sizeLine:=by rw[qB8,qB8];omega
 have O:¬ (!its.toArray.isEmpty&&Builtin.List.listTooLong (its.toArray.size+L.toArray.size))=true:=by
  rw[sD hsz,qY8];show qA3
 refine call_meets F.slot_list_extend ⟨_,e,rfl⟩ F.entry_list_extend (F.args_list_extend_2 _ _)
  (AutoSeq1.list_extend_list_list_0 l its.toArray n b L.toArray n2 O (by rw[qB8];omega) ox) ⟨e,e2,?_⟩
 refine ⟨.non,_,I.lset (its':=its++L) hH e QX (r.append r2) ?_,rfl,q⟩;rw[qC5];omega
def rCat:R2:=λx y H Q=>∃l b xs q,x=.ref l/\y=.ref b/\H l=some (.lst xs)/\H b=some (.lst q)/\xs.length+q.length<=sizeLine/\∀p,H p=none->Q (.ref p) (upd H p (.lst (xs++q)))
def AN:OpR X (binaryOp .Add) rCat:=by
 intro pins s σ H x y v u Q I rx O h;obtain ⟨l,b,xs,zs,rfl,rfl,hH,hB,hz,q⟩:=h;cases rx;cases O;obtain ⟨z,its,n,r,hl,e⟩:=I.lstM hH;obtain ⟨z2,L,n2,r2,a3,e2⟩:=I.lstM hB;refine PySem.P.add_list e e2 ?_ (by rw[qB8,qB8];omega);have ea:its.toArray++L.toArray=(its++L).toArray:=QX;rw[ea];show ⟨.ref _,_,I.lnew (t':=s.toks) (r.append r2) (by rw[qC5];omega),rfl,q _ I.fresh⟩
end L2
namespace Att
open PySem PySem.W PySem.Calls PyProof.Rows
def dF:∀(ns:Jg) (vs:Jw),WellAll P h vs (ns.map WData.int)->IntsAre vs ns:=by
 intro ns
 induction ns with
 | nil=>
  intro vs w;rw[qM0]at w;cases w;show .nil
 | cons n ns q=>
  intro vs w;rw[qC0]at w;cases w with
  | cons a b=>
   cases a;show .cons _ _ (q _ b)
def on {l:OpenLaw}(hn:l.most=some n) (L:l.row.toRowW.claim.pre args=true) (a4:WellAll P h vals args):
  ∃a vs ns,vals = [Value.ref a]/\args = [WData.list (ns.map WData.int)]/\h.get? a=some { cls:=.type "list",data:=.seq vs.toArray }/\IntsAre vs ns/\ns.length<=n:=by
 have a3:WShape.hasAll [] args [.list .int]=true:=(pre_splitW L).1;have hc:l.pre.holds [] { args:=args }=true:=(pre_splitW L).2;obtain ⟨d,r,rfl,h1,h2⟩:=hasAllW_cons a3;obtain rfl:=hasAllW_nil h2;obtain ⟨xs,rfl,h3⟩:=hasW_list h1;obtain ⟨ns,rfl⟩:=items_int h3;have hlen:ns.length<=n:=by
  unfold OpenLaw.pre at hc;have h4:(WTm.not (.lt (.lit (.int (n:Int))) (.len (.arg 0)))).holds [] { args:=[.list (ns.map .int)] }=true:=by
   have h4:=(holds_andW hc).1;rw[hn]at h4;show h4
  have h5:=condW_of h4 (w_not (w_lt w_lit (w_len_list (w_arg rfl))));rw[qA7]at h5;refine Nat.le_of_not_lt λq=>?_;have q':(n:Int)<((ns.length:Nat):Int):=ox
  first
   | (rw[qN8 q']at h5;show absurd h5 QV)
   | (simp at h5;omega)
 cases a4 with
 | cons w1 w2=>
  cases w2;cases w1 with
  |list ho O=>show ⟨_,_,ns,rfl,rfl,ho,dF ns _ O,hlen⟩
def oM (l:OpenLaw) (args:List WData):l.row.toRowW.claim.post args (.bool true) args=true:=
 postW_of (r:=l.row.toRowW) (X:=(true == true))
  (show WShape.has [] (.bool true) .bool=true by first|rfl|decide|simp [WShape.has,WShape.arms,WShape.armsAll])
  (show (WTm.eq .res (.lit (.bool true))).value [] { args:=args,res:=some (.bool true),after:=args }=some (.bool (true == true)) from w_eq_bool (w_res rfl) w_lit) rfl
end Att
namespace L2
open PySem PySem.Spec PyProof.Rows
def nL:∀{vs:Jw}{ns:Jg},IntsAre vs ns->Vals (ns.map V.int) vs:=by
 intro vs ns h
 induction h with
 |nil=>show .nil
 |cons n t h q=>show .cons ⟨t,rfl⟩ q
def nz (H:Hp):Prop:=∀b,H b=none\/∃o xs,H b=some (.frz o (.lst xs))
def sZ {K:Frag}(KX:K.In s₁.heap) (a4:s₁.heap.Ns mainGlobals mg) (hb:s₁.heap.Ns builtinsNs mb) (b0:∀x:Str,x ≠ "__name__" -> mb x=bootBuiltins x) (a6:s₁.heap.NoLimit) (hg:s₁.gens=#[]) (ha:s₁.heap.get? a=some { cls:=.type "list",data:=.seq vs.toArray }) (hi:IntsAre vs ns) (hl:ns.length<=sizeLine) (hr:Room k callerA) (F:∀base:Heap,K.In base->base.Ns mainGlobals mg->FnOk P w K mg base CX k fa fd [x] sp) (a3:∀(s:Shared) (u:Value),BindsTo s fd ⟨[u],[]⟩ [(x,u)]) (b4:∀H:Hp,nz H->SqL K H a (ns.map V.int)->sp [.ref a] H (λv _=>v=.bl true) λ_ _ _=>False) (b3:∀H e s',CX [] H s₁ (λ_ _ _=>False) e s'->False):
  codeAny (model P w) callerA (.call (.ref fa) ⟨[.ref a],[]⟩) (λr s'=>r=.ok (.ret (.bool true))/\OldK s₁.heap s'.heap/\s'.os=s₁.os/\AllBare s'.gens) s₁:=by
 have rv:=nL hi;have a8:=hi.length
 -- from an abstract heap in which nothing but the script may be tracked
 have core:∀H:Hp,nz H->SqL K H a (ns.map V.int)->HOk P w H s₁.heap->(∀b,H b≠none->b=a)->(H a≠none->K.lookup a=none) ->
   codeAny (model P w) callerA (.call (.ref fa) ⟨[.ref a],[]⟩) (λr s'=>r=.ok (.ret (.bool true))/\OldK s₁.heap s'.heap/\s'.os=s₁.os/\AllBare s'.gens) s₁:=by
  intro H hO hS hok hA hK;have L:∀{b:Addr}{o:Obj},s₁.heap.get? b=some o->H b=none->(Z2 s₁.heap H).get? b=some o:=λe n=>tG e n;have ab:∀{b:Addr}{o:Obj}{es:Array DictEntry}{ep:Nat},s₁.heap.get? b=some o->o.data=.dict es ep->H b=none:=λ{b o es ep} e d=>by
   cases q:H b with
   |none=>rfl
   | some u=>
    have e':b=a:=hA b (by rw[q];simp);subst e';rw[ha]at e;cases e;have d':Data.seq vs.toArray _=Data.dict es ep:=d;cases d'
  have O:∀{b:Addr}{m:Jz},s₁.heap.Ns b m->(Z2 s₁.heap H).Ns b m:=λ{b m} zz50=>by obtain ⟨o,es,ep,e,d,r⟩:=zz50;show ⟨o,es,ep,L e (ab e d),d,r⟩
  have a5:K.In (Z2 s₁.heap H):=λb o e=>L (KX b o e) (by
   cases q:H b with
   |none=>rfl
   | some u=>
    have e':b=a:=hA b (by rw[q];simp);subst e';rw[hK (by rw[q];simp)]at e;cases e)
  have hM:Mod K mg (Z2 s₁.heap H):=⟨a5,O a4,⟨mb,O hb,b0⟩,let ⟨mc,h1,h2⟩:=a6;⟨mc,O h1,h2⟩⟩;have e0:nB P w K mg (Z2 s₁.heap H) callerA [] s₁ H:=⟨rfl,hM,λb o e=>wK e,qJ1 (pX _ _),trivial,λb hb=>absurd (show b∈([]:List Addr) from hb) QX,hok,.of_eq hg⟩;refine qS3 ((F _ a5 (O a4)).run callerA [] s₁ H ⟨[.ref a],[]⟩ [.ref a] [.ref a] _ _ hr e0 (a3 s₁ (.ref a)) (.cons rfl .nil) (b4 H hO hS)) λr s' h=>?_;cases r with
  |error e=>show (b3 H e s' h).elim
  | ok fl=>
   cases fl with
   |next=>show False.elim h
   |brk=>show False.elim h
   |cont=>show False.elim h
   | ret u=>
    obtain ⟨v,H',os,bare,un,a7,r',q⟩:=h;have q':v=.bl true:=q;subst q';obtain rfl:u=Value.bool true:=r';refine ⟨rfl,OldK.of_keep λb o e=>?_,os,bare⟩;cases q:H b with
    |none=>show un.keep b o e q (by intro z;show absurd (show b∈([]:List Addr) from z) QX) QX
    | some u=>
     rcases hO b with z|⟨ob,xs,z⟩
     .rw[q]at z;cases z
     .have z2:=un.frzs b ob _ z;obtain ⟨e1,_⟩:=hok b _ z;obtain ⟨e2,_⟩:=a7 b _ z2;rw[e]at e1;cases e1;show e2
 cases hk:K.lookup a with
 | some o=>
  -- the script is one of the module's own objects
  have e:=KX a o hk;rw[ha]at e;cases e;refine core (λ_=>none) (λ_=>.inl rfl) (.inr ⟨_,vs.toArray,_,hk,rfl,rfl,rfl,by rw[qB8,a8];show hl,by simpa using rv⟩) (λb u z=>by have z':(none:Option HO)=some u:=z;cases z') (λb z=>absurd rfl z) λz=>absurd rfl z
 | none=>
  refine core (λb=>if b=a then some (.frz { cls:=.type "list",data:=.seq vs.toArray } (.lst (ns.map V.int))) else none) (λb=>?_) (.inl (.inr ⟨{ cls:=.type "list",data:=.seq vs.toArray },qA2 rfl⟩)) (λb u z=>?_) (λb z=>?_) λ_=>hk
  .by_cases hb:b=a
   .show .inr ⟨_,_,qA2 hb⟩
   .show .inl (qA4 hb)
  .by_cases hb:b=a
   .have z':=(qA2 hb).symm.trans z;cases z';subst hb;show ⟨ha,by rw[qA7];show hl,vs,_,rv,ha⟩
   .have z':=(qA4 hb).symm.trans z;cases z'
  .by_cases hb:b=a
   .show hb
   .show absurd (qA4 hb) z
def O6 (s:Stmt):Arguments:=match s with
 | .FunctionDef _ a _ _ _ _ _ _ _ _=>a
 |_=>{ posonlyargs:=[],args:=[],vararg:=none,kwonlyargs:=[],kw_defaults:=[],kwarg:=none,defaults:=[] }
def E2 (s:Stmt):List Stmt:=match s with
 | .FunctionDef _ _ b _ _ _ _ _ _ _=>b
 |_=>[]
def c6 (s:Stmt):Scope:=match s with
 | .FunctionDef _ _ _ _ _ _ sc _ _ _=>sc
 |_=>{ kind:=.function,names:=[],isGenerator:=false,isCoroutine:=false }
abbrev CX0:CXT:=λ_ _ _ _ _ _=>False
abbrev E0:XK:=λ_ _ _=>False
def mB:jI CX0 X E0:=λ_ _ _ _ _ _ _ h=>h.elim
structure Fun (K:Frag) (x qual:Str) (st:Stmt) (f:Addr) (fd:FuncData):Prop where
 ex:∃(oc:Value) (od:Option Addr) (kV doc pm:Value) (an:Option Addr) (cdv ct:Value) (osl:Array (Option Value)),
  fd=PySem.W.fnOf x qual (O6 st) (E2 st) (c6 st) .none kV doc pm an cdv ct/\K.lookup f=some ⟨oc,od,.func fd,osl⟩/\PySem.W.codeIn K cdv qual=true
 kp:PySem.W.keepIn K (.ref f)=true
def Fun.ok {K:Frag}{st:Stmt}(F:Fun K x qual st f fd) (S:f7 N ps (c6 st)) (len:∀vs H Q E,sp vs H Q E->vs.length=ps.length) (L:∀(cdv:Value) (A:Around) (outer:List Env) (s:Shared) (H:Hp) (vs:List V) (Q:VK) (E:XK),Room k (A.deeper (envOfC qual (c6 st) s.heap.objs.size f cdv))->sp vs H Q E ->
   ∃t,PSs (bd CX0 P w K mg base N qual (c6 st) f cdv A outer s H E).nox (E2 st) t/\t { nx:=λ_ H'=>Q .non H',rt:=Q } (start N vs) H):FnOk P w K mg base CX0 (k+1) f fd ps sp:=by
 obtain ⟨oc,od,kV,doc,pm,an,cdv,ct,osl,rfl,lk,O⟩:=F.ex;refine EG lk O S len λA outer s H vs Q E hr a3=>?_;obtain ⟨t,h,q⟩:=L cdv A outer s H vs Q E hr a3;show ⟨t,h.nox,q⟩
def Fun.binds {K:Frag}{st:Stmt}(F:Fun K x qual st f fd) (h:∀(kV doc pm:Value) (an:Option Addr) (cdv ct:Value) (us:Jw),us.length=ps.length->bindArgs (PySem.W.fnOf x qual (O6 st) (E2 st) (c6 st) .none kV doc pm an cdv ct) ⟨us,[]⟩=pure (ps.zip us)):Binds K fd ps []:=by
 obtain ⟨oc,od,kV,doc,pm,an,cdv,ct,osl,rfl,L,q⟩:=F.ex;show .all (h kV doc pm an cdv ct)
def BW {K:Frag}{st:Stmt}{kV:Value}(l:K.lookup f=some ⟨oc,od,.func (PySem.W.fnOf x qual (O6 st) (E2 st) (c6 st) .none kV doc pm an cdv ct),osl⟩)(c:PySem.W.codeIn K cdv qual=true)(k:PySem.W.keepIn K (.ref f)=true):Fun K x qual st f (PySem.W.fnOf x qual (O6 st) (E2 st) (c6 st) .none kV doc pm an cdv ct):=⟨⟨oc,od,kV,doc,pm,an,cdv,ct,osl,rfl,l,c⟩,k⟩
def pv {X:Cx}(i:Nat){x:Str}{pos:Pos}(L:X.N[i]?=some x:=by rfl)(O:Vis X.env.scope x:=by first|show Or.inl rfl|show Or.inr (Or.inl rfl)|show Or.inr (Or.inr rfl))(hd:(x == ("__debug__" : Str))=false:=by decide)(q:(x == ("__classdict__" : Str))=false:=by decide):PE X (.Name x pos) (S9 i):=Q2 L O hd q
def Same (H H':Hp):Prop:=∀b o,H b=some o->H' b=some o
def Same.refl (H:Hp):Same H H:=λ_ _ h=>h
def Same.trans (a:Same H H1)(b:Same H1 H2):Same H H2:=λc o h=>b c o (a c o h)
def Same.free (e:Same H H') (h:H' l=Option.none):H l=Option.none:=by
 cases q:H l with
 |none=>rfl
 | some o=>
  rw[e l o q]at h;cases h
def Same.seq {K:Frag}(e:Same H H') (h:SqL K H a xs):SqL K H' a xs:=by
 rcases h with (h|⟨o,h⟩)|h
 .show .inl (.inl (e _ _ h))
 .show .inl (.inr ⟨o,e _ _ h⟩)
 .show .inr h
def Dk (h h':Heap):Prop:=∀b o,h.get? b=some o->∃o',h'.get? b=some o'/\o'.cls=o.cls/\o'.dict=o.dict
structure KD {α:Type}(t:Sem α):Prop where
 out:∀(M:Model) (Γ:PySem.Ctx) (P:α->Pos->Shared->Prop) (Ee:Value->Pos->Shared->Prop) (p:Pos) (s:Shared),
  Sem.wp M Γ t P Ee p s->Sem.wp M Γ t (λa p' s'=>P a p' s'/\Dk s.heap s'.heap) Ee p s
def cut (h:Heap)(fs:List Addr):Heap:={ h with objs:=h.objs.mapIdx λi o=>if i∈fs then { o with data:=.freed } else o }
structure FA (P:Program) (w:World) (outer:List Env) (H:Hp) (s:Shared) (a:Addr) (B:Heap) (H':Hp) (cls:Value) (od:Option Addr) (s':Shared):Prop where
 fl:∃a0,B.FlyingW outer a cls a0 s'.heap
 dict:∃o,s'.heap.get? a=some o/\o.dict=od
 os:s'.os=s.os
 bare:AllBare s'.gens
 un:Un (frs outer) [] H H' s.heap s'.heap
 hok:HOk P w H' s'.heap
 inB:∀b o,H' b=some o->∃ob,B.get? b=some ob
 all:∀b o,s.heap.get? b=some o->b∉frs outer->∃o',B.get? b=some o'
def CXW (P:Program)(w:World):CXT:=λouter H s E e s'=>∃a B H' cls od,e=.ref a/\FA P w outer H s a B H' cls od s'/\E cls od H'
section
variable {X:Cx}{pins:Jq}{σ:St}{H H':Hp}{s s1:Shared}{a:Addr}{B:Heap}{cls:Value}{od:Option Addr}
structure Here (X:Cx) (pins:Jq) (σ:St) (H':Hp) (a:Addr) (B:Heap) (cls:Value) (od:Option Addr) (s:Shared):Prop where
 inv:Inv X pins σ H' s
 dict:∃o,s.heap.get? a=some o/\o.dict=od
end
def tCatch (X:Cx) (C:Addr) (L:Nat) (tb:TS) (D:Ends) (σ:St):XK:=λcls od H'=>∃O,cls=.ref O/\PySem.W.exmOne X.K (.ref O) (.ref C)=some true /\
 ∀ (a:Addr) (o:Obj),H' a=none->o.cls=cls->o.dict=od->(∃vs:Array Value,o.data=.fields vs) ->
  tb { nx:=λq H'=>D.nx (q.set L none) H',rt:=D.rt,bk:=λq H'=>D.bk (q.set L none) H',ct:=λq H'=>D.ct (q.set L none) H' } (σ.set L (some (.ref a))) (upd H' a (.ext λh=>h.get? a=some o))
end L2
namespace L2
open PySem
structure Nx {α:Type}(t:Sem α):Prop where
 out:∀(M:Model) (Γ:PySem.Ctx) (P:α->Pos->Shared->Prop) (Ee Ef:Value->Pos->Shared->Prop) (p:Pos) (s:Shared),Sem.wp M Γ t P Ee p s->Sem.wp M Γ t P Ef p s
structure Po {α:Type}(t:Sem α) (pre:Shared->Prop) (post:α->Shared->Prop):Prop where
 out:∀(M:Model) (Γ:PySem.Ctx) (P:α->Pos->Shared->Prop) (Ee Ef:Value->Pos->Shared->Prop) (p:Pos) (s:Shared),
  pre s->Sem.wp M Γ t P Ee p s->Sem.wp M Γ t (λa p' s'=>P a p' s'/\post a s') Ef p s
def vp (v:Value)(i:Nat)(x:Value)(h:Heap):Prop:=∃(a:Addr)(o:Obj)(vs:Jy),v=.ref a/\h.get? a=some o/\o.data=.fields vs/\vs[i]?=some x
def Marked (e:Value)(f:Addr)(h:Heap):Prop:=∃t,vp e 1 t h/\vp t 3 (rawInt f) h/\t≠.none
structure Free {α:Type}(t:Sem α):Prop where
 out:∀(M:Model) (Γ Γ':PySem.Ctx) (P P':α->Pos->Shared->Prop) (E E':Value->Pos->Shared->Prop) (p p':Pos) (s:Shared),(∀a p p' s,P a p s->P' a p' s)->(∀a p p' s,E a p s->E' a p' s)->Sem.wp M Γ t P E p s->Sem.wp M Γ' t P' E' p' s
end L2
namespace L2
open PySem PySem.Spec PyProof.Rows
section
variable {κ:Type} [DecidableEq κ]
def S7 (kvs:List (κ×V))(k:κ):Option V:=(kvs.find? λq=>decide (q.1=k)).map (·.2)
def putK (kvs:List (κ×V)) (k:κ) (v:V):List (κ×V):=
 if (kvs.any λq=>decide (q.1=k))=true then kvs.map (λq=>if q.1=k then (q.1,v) else q) else kvs ++ [(k,v)]
def dropK (kvs:List (κ×V))(k:κ):List (κ×V):=kvs.filter λq=>decide (q.1≠k)
def cr {p:κ×V}(e:p.1=k):S7 (p::r) k=some p.2:=by simp [S7,qL1,e]
def cu {p:κ×V}(e:¬ p.1=k):S7 (p::r) k=S7 r k:=by simp [S7,qL1,e]
def cv (k:κ):∀kvs:List (κ×V),(kvs.any λq=>decide (q.1=k))=(S7 kvs k).isSome
 | []=>rfl
 | p::r=>by
  rw[qU2];by_cases e:p.1=k
  .simp only [cr e,qN8 e,Bool.true_or,Option.isSome_some]
  .rw[cu e,qN7 e,xB2];show cv k r
def bX (kvs:List (κ×V)) (k:κ) (v:V):(putK kvs k v).length<=kvs.length+1:=by
 unfold putK
 split
 .rw[qA7];omega
 .rw[qC5,qC1,qL2];omega
def RelO.isSome_eq (r:RelO o u):o.isSome=u.isSome:=by
 cases o with
 | none=>cases u with
  |none=>rfl
  |some _=>show (show False from r).elim
 | some _=>cases u with
  |none=>show (show False from r).elim
  |some _=>rfl
def KV.val (r:KV kvs vs) (k:κ):RelO (S7 kvs k) (valueAt vs k):=by
 unfold KV at r
 induction r with
 |nil=>show True.intro
 | @cons p q ps O h t ih=>
  obtain ⟨h1,h2⟩:=h;by_cases e:p.1=k
  .have L:q.1=k:=h1.symm.trans e;have b:valueAt (q::O) k=some q.2:=by simp [valueAt,qL1,L]
   rw[cr e,b];show h2
  .have L:¬ q.1=k:=λz=>e (h1.trans z);have b:valueAt (q::O) k=valueAt O k:=by simp [valueAt,qL1,L]
   rw[cu e,b];show ih
def KV.any (r:KV kvs vs) (k:κ):(kvs.any λq=>decide (q.1=k))=vs.any λq=>decide (q.1=k):=by
 unfold KV at r
 induction r with
 |nil=>rfl
 |cons h t L=>rw[qU2,qU2,L,h.1]
def KV.repl (r:KV kvs vs) (k:κ) (ry:RelV y u):
  KV (kvs.map λL=>if L.1=k then (L.1,y) else L) (vs.map λL=>if L.1=k then (L.1,u) else L):=by
 unfold KV at r ⊢
 induction r with
 |nil=>show .nil
 | @cons p q ps qs h t ih=>
  rw[qC0,qC0];refine .cons ?_ ih;obtain ⟨O,h2⟩:=h;by_cases e:p.1=k
  .rw[qA2 e,qA2 (O.symm.trans e)];show ⟨O,ry⟩
  .rw[qA4 e,qA4 (λz=>e (O.trans z))];show ⟨O,h2⟩
def KV.put (r:KV kvs vs) (k:κ) (q:RelV y u):KV (putK kvs k y) (stored vs k u):=by
 unfold putK stored;rw[r.any k];by_cases e:(vs.any λL=>decide (L.1=k))=true
 .rw[qA2 e,qA2 e];show r.repl k q
 .rw[qA4 e,qA4 e];show Paired.snoc r ⟨rfl,q⟩
def KV.length {vs:List (κ×Value)}(r:KV kvs vs):kvs.length=vs.length:=Paired.length r
end
def mR (r:RelV (kV k) u):(t9 P w).is k u=true:=by
 cases k with
 |inl i=>obtain ⟨t,e⟩:=(show ∃t,u=Value.int i t from r);subst e;show jR P w i t
 |inr x=>obtain ⟨t,e⟩:=(show ∃t,u=Value.str x t from r);subst e;show jQ P w x t
def fQ:∀{ks:List Key}{us:Jw},Vals (ks.map kV) us->ItemsAre (t9 P w) ks us
 | [],_,r=>by rw[qM0]at r;cases r;show .nil
 | k::ks,_,r=>by
  rw[qC0]at r;cases r with
  |cons h t=>show .cons (mR h) (fQ t)
abbrev KT (H:Hp):List (List Key×V)->List (List Key×Addr×Value)->Prop:=Paired λp q=>p.1=q.1/\H q.2.1=some (.tup (p.1.map kV))/\RelV p.2 q.2.2
def KT.val (r:KT H kvs xs) (k:List Key):RelO (S7 kvs k) ((atKey xs k).map (·.2)):=by
 induction r with
 |nil=>show True.intro
 | @cons p q ps O h t ih=>
  obtain ⟨h1,_,h2⟩:=h;by_cases e:p.1=k
  .have L:q.1=k:=h1.symm.trans e;have b:atKey (q::O) k=some q.2:=by simp [atKey,qL1,L]
   rw[cr e,b];show h2
  .have L:¬ q.1=k:=λz=>e (h1.trans z);have b:atKey (q::O) k=atKey O k:=by simp [atKey,qL1,L]
   rw[cu e,b];show ih
def KT.repl (r:KT H kvs xs) (k:List Key) (ry:RelV y u):
  KT H (kvs.map λO=>if O.1=k then (O.1,y) else O) (xs.map (putAt k u)):=by
 induction r with
 |nil=>show .nil
 | @cons p q ps qs h t ih=>
  rw[qC0,qC0];refine .cons ?_ ih;obtain ⟨L,h2,h3⟩:=h;unfold putAt;by_cases e:p.1=k
  .rw[qA2 e,qA2 (L.symm.trans e)];show ⟨L,h2,ry⟩
  .rw[qA4 e,qA4 (λz=>e (L.trans z))];show ⟨L,h2,h3⟩
def KT.put (r:KT H kvs xs) (k:List Key) (hb:H b=some (.tup (k.map kV))) (L:RelV y u):
  KT H (putK kvs k y) (storedH xs k b u):=by
 have e:(kvs.any λO=>decide (O.1=k))=(atKey xs k).isSome:=by
  rw[cv,(r.val k).isSome_eq,Option.isSome_map]
 unfold putK storedH;rw[e];by_cases q:(atKey xs k).isSome=true
 .rw[qA2 q,qA2 q];show r.repl k L
 .rw[qA4 q,qA4 q];show Paired.snoc r ⟨rfl,hb,L⟩
def KT.keeps (r:KT H kvs xs) (ht:∀b q,H b=some (.tup q)->H' b=some (.tup q)):KT H' kvs xs:=
 Paired.mapP r λ_ _ z=>⟨z.1,ht _ _ z.2.1,z.2.2⟩
def uL (ok:HOk P w H h)(e:Rd H a u):ObjOk P w H h a u:=e.ok ok
def ve (ok:HOk P w H h) (e:Rd H a (.dK kvs)):kvs.length<=sizeLine/\(a == sysModules)=false/\∃vs,KV kvs vs/\h.DictOf (t9 P w) a vs:=
 show ObjOk P w H h a (.dK kvs) from uL ok e
def EQ (ok:HOk P w H h)(e:H a=some (.dK kvs)):kvs.length<=sizeLine/\(a == sysModules)=false/\∃vs,KV kvs vs/\h.DictOf (t9 P w) a vs:=ve ok (.inl e)
def aQ (ok:HOk P w H h) (e:H a=some (.tup (ks.map kV))):(tupleKind (t9 P w)).is h ks a:=by
 obtain ⟨_,its,r,o,q,L,n,O⟩:=(show ObjOk P w H h a (.tup (ks.map kV)) from ok a _ e);show ⟨o,its.toArray,n,q,L,O,by simpa using fQ r⟩
def vd (ok:HOk P w H h) (e:Rd H a (.dT kvs)):kvs.length<=sizeLine/\(a == sysModules)=false /\
  ∃xs,KT H kvs xs/\h.DictOfH (tupleKind (t9 P w)) a xs:=by
 obtain ⟨z,y,xs,r,o,es,ep,h1,h2,h3,h4,h5⟩:=(show ObjOk P w H h a (.dT kvs) from uL ok e);refine ⟨z,y,xs,r,o,es,ep,h1,h2,h3,h4,λx L=>?_,h5⟩;have all:∀{l:List (List Key×V)}{m:List (List Key×Addr×Value)},KT H l m->∀x∈m,(tupleKind (t9 P w)).is h x.1 x.2.1:=by
  intro l m q
  induction q with
  |nil=>intro x L;show nomatch L
  | @cons p q ps qs O t ih=>
   intro x L;rcases qB6.mp L with e|L
   .subst e;show aQ ok (by rw[<- O.1];show O.2.1)
   .show ih x L
 show all r x L
def mZ (ok:HOk P w H h) (e:H a=some (.dT kvs)):kvs.length<=sizeLine/\(a == sysModules)=false /\
  ∃xs,KT H kvs xs/\h.DictOfH (tupleKind (t9 P w)) a xs:=vd ok (.inl e)
def DGet (H:Hp) (a:Addr) (y:V) (r:Option V):Prop:=
 (∃kvs k,Rd H a (.dK kvs)/\y=kV k/\r=S7 kvs k)\/∃kvs k b,Rd H a (.dT kvs)/\y=.ref b/\H b=some (.tup (k.map kV))/\r=S7 kvs k
def DPut (H:Hp) (a:Addr) (y v:V) (H':Hp):Prop:=
 (∃kvs k,H a=some (.dK kvs)/\y=kV k/\kvs.length<sizeLine/\H'=upd H a (.dK (putK kvs k v))) \/
 ∃kvs k b,H a=some (.dT kvs)/\y=.ref b/\H b=some (.tup (k.map kV))/\kvs.length<sizeLine/\H'=upd H a (.dT (putK kvs k v))
def DGet.t (e:H a=some (.dT kvs))(q:H b=some (.tup (k.map kV))):DGet H a (.ref b) (S7 kvs k):=.inr ⟨kvs,k,b,.inl e,rfl,q,rfl⟩
def DPut.t (e:H a=some (.dT kvs)) (q:H b=some (.tup (k.map kV))) (hl:kvs.length<sizeLine):
  DPut H a (.ref b) v (upd H a (.dT (putK kvs k v))):=.inr ⟨kvs,k,b,e,rfl,q,hl,rfl⟩
def Inv.big {σ:St}(I:Inv X pins σ H s):sysModules<s.heap.objs.size:=by
 have h:mainGlobals<s.heap.objs.size:=(I.mod.glob.keeps I.bk).lt;show Nat.lt_trans QV h
def d_in {σ:St}(hu:A.units+1<cLine) (I:Inv X pins σ H s) (g:DGet H a y o) (ry:RelV y u) (h:∀s',Inv X pins σ H s'->Q (.bool o.isSome) s'):
  wpAny (model X.prog X.w) A (compareOp .In u (.ref a)) Q E s:=by
 rcases g with ⟨kvs,k,e,ey,l⟩|⟨kvs,k,b,e,ey,eb,l⟩
 .subst ey;obtain ⟨z,hd,vs,L,O⟩:=ve I.hok e;refine wpAny_in_of (mR ry) hd O.mapOf ?_;rw[<- (L.val k).isSome_eq,<- l];show h _ (I.tok _)
 .subst ey;cases (show u=Value.ref b from ry);obtain ⟨z,hd,xs,L,O⟩:=vd I.hok e;refine wpAny_in_heap (tupleKind_room_in1 hu) (aQ I.hok eb) hd O ?_;have q:=(L.val k).isSome_eq;rw[Option.isSome_map]at q;rw[<- q,<- l];show h _ (I.tok _)
def fj {σ:St}(I:Inv X pins σ H s) (O:Mut (H a)) (hs:Heap.SameBut a s.heap h') (he:∃q,h'.get? a=some q) (L:ObjOk X.prog X.w (upd H a ob) h' a ob):
  Inv X pins σ (upd H a ob) { s with heap:=h',toks:=t' }:=
 I.write (x:=a) (e:=a) O (.inl rfl) (λb q hb z=>(hs.2 b hb).trans z) he L
def CC (z:kvs.length<=sizeLine) (hd:(a == sysModules)=false) (q:KV kvs vs) (L:h'.DictOf (t9 P w) a vs):
  ObjOk P w H' h' a (.dK kvs):=⟨z,hd,vs,q,L⟩
def qq {σ:St}(hu:A.units+1<cLine) (I:Inv X pins σ H s) (g:DPut H a y v H') (ry:RelV y u) (rv:RelV v r) (h:∀s',Inv X pins σ H' s'->Q () s'):
  wpAny (model X.prog X.w) A (setItem (.ref a) u r) Q E s:=by
 rcases g with ⟨kvs,k,e,ey,l,eH⟩|⟨kvs,k,b,e,ey,eb,l,eH⟩
 .subst ey eH;obtain ⟨z,hd,vs,L,dd⟩:=EQ I.hok e;have hz:vs.length<=sizeLine:=by rw[<- L.length];show z
  have hl:(putK kvs k v).length<=sizeLine:=by have:=bX kvs k v;omega
  refine wpAny_setItem_pairs (hsz:=hz) (mR ry) dd λh' O hs=>h _ ?_;have he:∃q,h'.get? a=some q:=let ⟨q,_,_,hq,_⟩:=O;⟨q,hq⟩;show fj I (by rw[e];show True.intro) hs he (CC hl hd (L.put k rv) O)
 .subst ey eH;cases (show u=Value.ref b from ry);obtain ⟨z,hd,xs,L,dd⟩:=mZ I.hok e;have hz:xs.length<=sizeLine:=by rw[<- Paired.length L];show z
  have hl:(putK kvs k v).length<=sizeLine:=by have:=bX kvs k v;omega
  refine wpAny_setItem_heap (hsz:=hz) (tupleKind_room_in1 hu) (aQ I.hok eb) dd λh' O hs=>h _ ?_;obtain ⟨q,es,ep,hq,h2,h3,h4,_,h5⟩:=O;refine fj I (by rw[e];show True.intro) hs ⟨q,hq⟩ ⟨hl,hd,_,(L.put k eb rv).keeps λc ys ec=>?_,q,es,ep,hq,h2,h3,h4,h5⟩;rw[c8 (uT ec e (λz=>nomatch z))];show ec
def yO (ty q:TE):TE:=λσ H Q=>ty σ H λy H1=>q σ H1 λx H2=>∃a o,x=.ref a/\DGet H2 a y o/\Q (.bl o.isSome) H2
def uI (L ty tv:TE):TS:=λD σ H=>tv σ H λv H1=>L σ H1 λx H2=>ty σ H2 λy O=>∃a q,x=.ref a/\DPut O a y v q/\D.nx σ q
def AL (hu:X.A.units+1<cLine) (hi:PE X i ty) (ho:PE X o td):PC X .In i o (yO ty td):=by
 intro pins s σ H Q I h;refine thn (hi pins s σ H _ I h) λiv s1 ⟨y,H1,I1,ry,q1⟩=>thn (ho pins s1 σ H1 _ I1 q1) λu s2 q=>?_;obtain ⟨x,H2,I2,rx,a,L,ex,g,O⟩:=q;subst ex;obtain rfl:u=Value.ref a:=rx;show d_in hu I2 g ry λs3 I3=>⟨.bl L.isSome,H2,I3,rfl,O⟩
def wu (hu:X.A.units+1<cLine) (ho:PE X o td) (hi:PE X i ty) (L:PE X value tv) (hs:swapsWith value (some (.Subscript o i pos')) pos.line X.env=pure false):
  PS X (.Assign [.Subscript o i pos'] value pos) (uI td ty tv):=by
 intro pins s σ H D I h;refine wpAny_Assign_Subscript (thn (L pins s σ H _ I h) λr s1 ⟨v,H1,I1,rv,q1⟩=>thn (ho pins s1 σ H1 _ I1 q1) λu s2 ⟨x,H2,I2,rx,q2⟩=>thn (hi pins s2 σ H2 _ I2 q2) λiv s3 q=>?_) hs;obtain ⟨y,H3,I3,O,a,H4,ex,g,q3⟩:=q;subst ex;obtain rfl:u=Value.ref a:=rx;show qq hu I3 g O rv λs4 I4=>⟨σ,H4,I4,q3⟩
def jt (h:Heap) (hb:sysModules<h.objs.size):ObjOk P w H (h.push { cls:=.type "dict",data:=.dict #[] }) h.objs.size (.dT []):=
 ⟨qD2 _,beq_eq_false_iff_ne.mpr (Ne.symm (qC8 hb)),[],.nil,_,#[],0,qC2 _ rfl,⟨rfl,rfl,rfl⟩,rfl,rfl,List.nodup_nil⟩
def tDNewT:TE:=λ_ H Q=>∀p,H p=none->Q (.ref p) (upd H p (.dT []))
def sh:PE X (.Dict [] [] pos) tDNewT:=λpins s σ H Q I h=>
 wpAny_Dict_empty ⟨.ref s.heap.objs.size,_,I.laid (a:=s.heap.objs.size) (o:=.dT []) (t':=s.toks) (λ_ _ q=>qA5 _ q) (qB5 _) (jt s.heap I.big),rfl,h _ (I.hok.fresh (qB5 _))⟩
end L2
namespace L2
open PySem
structure Sub where
 t:Bool
 i:Addr
 l:Addr
def Sub.At (u:Sub)(h:Heap)(n:Nat):Prop:=if u.t=true then h.IsTupleIter u.i u.l n else h.IsListIter u.i u.l n
def Sub.Src (u:Sub)(h:Heap)(xs:Jy):Prop:=if u.t=true then h.IsTuple u.l xs else h.IsList u.l xs
def Sub.At.obj {u:Sub}(x:u.At h n):∃o,h.get? u.i=some o/\o.data=.fields #[.ref u.l,.int n 0]:=by
 unfold Sub.At at x
 split at x <;> (obtain ⟨o,e,_,d⟩:=x;show ⟨o,e,d⟩)
def Sub.At.keep {u:Sub}(x:u.At h n) (k:∀o,h.get? u.i=some o->h'.get? u.i=some o):u.At h' n:=by
 unfold Sub.At at x ⊢
 split at x <;> (rename_i ht;obtain ⟨o,e,r⟩:=x;simp only [ht,qN9,qO0,qB9];show ⟨o,k o e,r⟩)
def Sub.Src.keep {u:Sub}(x:u.Src h xs) (k:∀o,h.get? u.l=some o->h'.get? u.l=some o):u.Src h' xs:=by
 unfold Sub.Src at x ⊢
 split at x <;> (rename_i ht;obtain ⟨o,e,r⟩:=x;simp only [ht,qN9,qO0,qB9];show ⟨o,k o e,r⟩)
def dw (q:s.heap.IsTupleIter it t i) (ht:s.heap.IsTuple t items) (hx:items[i]?=some x) (hQ:∀h',h'.IsTupleIter it t (i+1)->Heap.SameBut it s.heap h'->Q x { s with heap:=h' }):wpAny (model prog w) A (Builtin.SmallTypes.nextOf (.ref it)) Q E s:=by
 obtain ⟨o,L,hc,hd⟩:=id q;obtain ⟨ol,O,_,nl,a3⟩:=ht;unfold Builtin.SmallTypes.nextOf;refine qA0 (qO8 (name:=Str.ofString "__next__") q.typeIs qJ6 (qQ2 qJ6 q.typeIs F.entry_tuple_iterator_next ?_ (F.args_tuple_iterator_next_1 _)))
 change wpAny _ _ (field (.ref it) 0>>=_) _ _ s;refine qA0 (qO6 L hd (x:=.ref t) rfl ?_)
 change wpAny _ _ (if (Value.ref t == Value.none)=true then _ else _) _ _ s;rw[qA4 (show ¬ ((Value.ref t == Value.none)=true) from qA3)]
 change wpAny _ _ (field (.ref it) 1>>=_) _ _ s;refine qA0 (qO6 L hd (x:=.int i 0) rfl ?_)
 change wpAny _ _ (seqItems? (.ref t)>>=_) _ _ s;refine qA0 (qO5 O a3 ?_);simp only [qG3,hx];refine qA0 (wpAny_setField L hd QX (qN6 ⟨x,rfl,qN6 (hQ _ ?_ (qI9 ..))⟩));show ⟨_,qI3 _ L (Obj.isFreed_of_fields (Obj.data_mapFields hd _)),(Obj.cls_mapFields ..).trans hc,by rw[Obj.data_mapFields hd];simp [rawInt]⟩
def eO (hh:A.handled=none) (q:s.heap.IsTupleIter it t i) (ht:s.heap.IsTuple t items) (hx:items[i]?=none) (hE:∀h' e,Heap.ExtBut it s.heap h'->(∃o,h'.get? e=some o/\o.cls=.type "StopIteration")->E (.ref e) { s with heap:=h' }):wpAny (model prog w) A (Builtin.SmallTypes.nextOf (.ref it)) Q E s:=by
 obtain ⟨o,ho,hc,hd⟩:=id q;obtain ⟨ol,L,_,nl,O⟩:=ht;unfold Builtin.SmallTypes.nextOf;refine qA0 (qO8 (name:=Str.ofString "__next__") q.typeIs qJ6 (qQ2 qJ6 q.typeIs F.entry_tuple_iterator_next ?_ (F.args_tuple_iterator_next_1 _)))
 change wpAny _ _ (field (.ref it) 0>>=_) _ _ s;refine qA0 (qO6 ho hd (x:=.ref t) rfl ?_)
 change wpAny _ _ (if (Value.ref t == Value.none)=true then _ else _) _ _ s;rw[qA4 (show ¬ ((Value.ref t == Value.none)=true) from qA3)]
 change wpAny _ _ (field (.ref it) 1>>=_) _ _ s;refine qA0 (qO6 ho hd (x:=.int i 0) rfl ?_)
 change wpAny _ _ (seqItems? (.ref t)>>=_) _ _ s;refine qA0 (qO5 L O ?_);simp only [qG3,hx];refine qA0 (qP5 (qA0 (wpAny_setField ho hd QX ?_)));change wpAny _ _ (newExc (.type "StopIteration") []>>=_) _ _ _;refine qA0 ?_;simp only [newExc,newTuple];refine qA0 (qR4 ?_ (by size_fits));refine qA0 (m:=firstArgMember _ _) (wpAny_of_eq (a:=Value.none) (by first|rfl | (simp only [firstArgMember];rfl)) ?_);refine qR4 ?_ (by size_fits);simp only [raiseNew];refine qA0 (wpAny_handled ?_);first|rw[show A.in1.handled=none from hh] |rw[hh]
 refine qA0 (qN6 (wpAny_throw ?_));show hE _ _ (((qI9 ..).extBut.push _).push _) ⟨_,qC2 _ rfl,rfl⟩
def Sub.item {u:Sub}(ha:u.At s.heap n) (hs:u.Src s.heap xs) (L:xs[n]?=some x) (q:∀h',u.At h' (n+1)->Heap.SameBut u.i s.heap h'->Q x { s with heap:=h' }):wpAny (model prog w) A (Builtin.SmallTypes.nextOf (.ref u.i)) Q E s:=by
 unfold Sub.At at ha q;unfold Sub.Src at hs;cases ht:u.t with
 |true=>simp only [ht,qN9]at ha hs q;show dw ha hs L q
 |false=>simp only [ht,qO0,qB9]at ha hs q;show wpAny_nextOf_list_item ha hs L q
def Sub.ends {u:Sub}(hh:A.handled=none) (ha:u.At s.heap n) (hs:u.Src s.heap xs) (q:xs[n]?=none) (L:∀h' e,Heap.ExtBut u.i s.heap h'->(∃o,h'.get? e=some o/\o.cls=.type "StopIteration")->E (.ref e) { s with heap:=h' }):wpAny (model prog w) A (Builtin.SmallTypes.nextOf (.ref u.i)) Q E s:=by
 unfold Sub.At at ha;unfold Sub.Src at hs;cases ht:u.t with
 |true=>simp only [ht,qN9]at ha hs;show eO hh ha hs q L
 |false=>simp only [ht,qO0,qB9]at ha hs;show wpAny_nextOf_list_end hh ha hs q L
abbrev D3 (h:Heap)(T:Addr)(arr:Jy):Prop:=h.get? T=some { cls:=.type "tuple",data:=.seq arr }
def drawn (n:Nat):List (Sub×Array Value)->Nat->Array Value->Array Value
 | [],_,arr=>arr
 |u::r,c,arr=>drawn n r (c+1) (arr.setIfInBounds c (u.2.getD n .none))
def vq (prog:Program) (w:World) (A:Around) (z TO:Addr) (E:Jp) (B:Value×Nat->Option Fin×Unit->Sem (ForInStep (Option Fin×Unit))):Prop:=
 ∀ (v:Value) (k:Nat) (s:Shared) (Q:ForInStep (Option Fin×Unit)->Shared->Prop),
  wpAny (model prog w) A (Builtin.SmallTypes.nextOf v) (λx s1=>∃arr,D3 s1.heap TO arr/\arr.size<=sizeLine/\∀h',D3 h' TO (arr.setIfInBounds k x)->Heap.SameBut TO s1.heap h'->Q (.yield (none,())) { s1 with heap:=h' })
   (λe s1=>wpAny (model prog w) A (setField (.ref z) 0 .none) (λ_ s2=>E e s2) E s1) s->wpAny (model prog w) A (B (v,k) (none,())) Q E s
structure Apart (z TO:Addr) (ss:List (Sub×Array Value)):Prop where
 zTO:z≠TO
 zi:∀u∈ss,u.1.i≠z
 ti:∀u∈ss,u.1.i≠TO
 nd:ss.Pairwise λu v=>u.1.i≠v.1.i
 lz:∀u∈ss,u.1.l≠z
 lt:∀u∈ss,u.1.l≠TO
 li:∀u∈ss,∀v∈ss,u.1.l≠v.1.i
def Apart.tail {TO:Addr}(D:Apart z TO (u::ss)):Apart z TO ss:=
 ⟨D.zTO,λv q=>D.zi v (qA6 _ q),λv q=>D.ti v (qA6 _ q),(qQ7.mp D.nd).2,λv q=>D.lz v (qA6 _ q),λv q=>D.lt v (qA6 _ q),
  λv q x L=>D.li v (qA6 _ q) x (qA6 _ L)⟩
def draws {TI TO:Addr}(hB:vq prog w A z TO E B):
  ∀ (ss:List (Sub×Array Value)) (c:Nat) (arr:Jy) (s:Shared) (Q:Option Fin×Unit->Shared->Prop),Apart z TO ss->IsZip s.heap z TI TO .ellipsis->D3 s.heap TO arr->arr.size<=sizeLine ->
   (∀u∈ss,u.1.At s.heap n/\u.1.Src s.heap u.2/\∃x,u.2[n]?=some x) ->
   (∀ h',IsZip h' z TI TO .ellipsis->D3 h' TO (drawn n ss c arr)->(∀u∈ss,u.1.At h' (n+1))->h'.objs.size=s.heap.objs.size ->
    (∀b o,b≠TO->(∀u∈ss,b≠u.1.i)->s.heap.get? b=some o->h'.get? b=some o)->Q (none,()) { s with heap:=h' }) ->
   wpAny (model prog w) A (forIn ((ss.map λu=>Value.ref u.1.i).zipIdx c) (none,()) B) Q E s:=by
 intro ss
 induction ss with
 | nil=>
  intro c arr s Q D hz hT hl hu hQ;simp only [qM0,List.zipIdx_nil,qT4];show qN6 (hQ s.heap hz hT (λ_ h=>absurd h qD6) rfl λ_ _ _ _ e=>e)
 | cons u r ih=>
  intro c arr s Q D hz hT hl hu hQ;simp only [qC0,qV1,qL3];obtain ⟨ha,a4,x,hx⟩:=hu u qB2;refine qA0 (hB _ _ _ _ (Sub.item ha a4 hx λO a7 sb1=>⟨arr,sb1.extBut _ _ (D.ti u qB2).symm hT,hl,λL a8 sb2=>?_⟩));have uz:=D.zi u qB2;have ut:=D.ti u qB2;have kp:∀b o,b≠TO->b≠u.1.i->s.heap.get? b=some o->L.get? b=some o:=λb o O L e=>sb2.extBut _ _ O (sb1.extBut _ _ L e);have a5:∀v∈r,v.1.i≠u.1.i:=λv q=>((qQ7.mp D.nd).1 v q).symm;refine ih (c+1) (arr.setIfInBounds c x) { s with heap:=L } Q D.tail (kp _ _ D.zTO uz.symm hz) a8 (by simpa using hl) (λv q=>?_) λh3 z3 T3 a3 s3 k3=>?_
  .obtain ⟨a,b,y⟩:=hu v (qA6 _ q);show ⟨a.keep λo e=>kp _ o (D.ti v (qA6 _ q)) (a5 v q) e,b.keep λo e=>kp _ o (D.lt v (qA6 _ q)) (D.li v (qA6 _ q) u qB2) e,y⟩
  .refine hQ h3 z3 ?_ (λv q=>?_) (by rw[s3];change L.objs.size=_;rw[sb2.1,sb1.1]) λb o O L e=>k3 b o O (λv q=>L v (qA6 _ q)) (kp b o O (L u qB2) e)
   .have e:u.2.getD n .none=x:=by simp [qF9,hx]
    change D3 h3 TO (drawn n r (c+1) (arr.setIfInBounds c (u.2.getD n .none)));rw[e];show T3
   .rcases qB6.mp q with rfl|q
    .show a7.keep λo e=>k3 _ o ut (λv' a6=>(a5 v' a6).symm) (sb2.extBut _ _ ut e)
    .show a3 v q
def qf {TI TO:Addr}(hh:A.handled=none) (hB:vq prog w A z TO E B):
  ∀ (ss:List (Sub×Array Value)) (c:Nat) (arr:Jy) (s:Shared) (Q:Option Fin×Unit->Shared->Prop),Apart z TO ss->IsZip s.heap z TI TO .ellipsis->D3 s.heap TO arr->arr.size<=sizeLine ->
   (∀u∈ss,u.1.At s.heap n/\u.1.Src s.heap u.2)->(∃u∈ss,u.2[n]?=none) ->
   (∀h' e,(∀b o,b≠z->b≠TO->(∀u∈ss,b≠u.1.i)->s.heap.get? b=some o->h'.get? b=some o)->(∃o,h'.get? e=some o/\o.cls=.type "StopIteration")->E (.ref e) { s with heap:=h' }) ->
   wpAny (model prog w) A (forIn ((ss.map λu=>Value.ref u.1.i).zipIdx c) (none,()) B) Q E s:=by
 intro ss
 induction ss with
 | nil=>
  intro c arr s Q D hz hT hl hu hx hQ;obtain ⟨_,h,_⟩:=hx;show absurd h qD6
 | cons u r ih=>
  intro c arr s Q D hz hT hl hu hx hQ;simp only [qC0,qV1,qL3];obtain ⟨ha,O⟩:=hu u qB2;have uz:=D.zi u qB2;have ut:=D.ti u qB2;cases a4:u.2[n]? with
  | none=>
   refine qA0 (hB _ _ _ _ (Sub.ends hh ha O a4 λh1 e eb he=>?_));obtain ⟨oe,a3,a6⟩:=he;have a5:IsZip h1 z TI TO .ellipsis:=eb _ _ uz.symm hz;have a7:e≠z:=λx=>by subst x;rw[a5]at a3;cases a3;simp at a6
   show qP6 a5 QX λh3 _ sb3=>hQ h3 e (λb o b1 b2 b3 q=>sb3.extBut _ _ b1 (eb _ _ (b3 u qB2) q)) ⟨oe,sb3.extBut _ _ a7 a3,a6⟩
  | some x=>
   refine qA0 (hB _ _ _ _ (Sub.item ha O a4 λh1 b0 sb1=>⟨arr,sb1.extBut _ _ ut.symm hT,hl,λh2 a8 sb2=>?_⟩));have kp:∀b o,b≠TO->b≠u.1.i->s.heap.get? b=some o->h2.get? b=some o:=λb o h1 h2 e=>sb2.extBut _ _ h1 (sb1.extBut _ _ h2 e);have ab:∀v∈r,v.1.i≠u.1.i:=λv L=>((qQ7.mp D.nd).1 v L).symm;refine ih (c+1) (arr.setIfInBounds c x) { s with heap:=h2 } Q D.tail (kp _ _ D.zTO uz.symm hz) a8 (by simpa using hl) (λv L=>?_) ?_ λh3 e k3 he=>?_
   .obtain ⟨a,b⟩:=hu v (qA6 _ L);show ⟨a.keep λo e=>kp _ o (D.ti v (qA6 _ L)) (ab v L) e,b.keep λo e=>kp _ o (D.lt v (qA6 _ L)) (D.li v (qA6 _ L) u qB2) e⟩
   .obtain ⟨v,L,e⟩:=hx;rcases qB6.mp L with rfl|L
    .rw[a4]at e;cases e
    .show ⟨v,L,e⟩
   .show hQ h3 e (λb o b1 b2 b3 q=>k3 b o b1 b2 (λv L=>b3 v (qA6 _ L)) (kp b o b2 (b3 u qB2) q)) he
def nc (n:Nat):∀(ss:List (Sub×Array Value)) (c:Nat) (arr:Jy),(drawn n ss c arr).size=arr.size:=by
 intro ss
 induction ss with
 |nil=>intro c arr;rfl
 |cons u r q=>intro c arr;unfold drawn;rw[q];simp
def qg (n:Nat):∀(ss:List (Sub×Array Value)) (c:Nat) (arr:Jy),c+ss.length=arr.size->(drawn n ss c arr).toList=arr.toList.take c++ss.map λu=>u.2.getD n .none:=by
 intro ss
 induction ss with
 | nil=>
  intro c arr h;unfold drawn;simp at h;subst h;rw[qM0,qH6];show (qL6 QX).symm
 | cons u r q=>
  intro c arr h;unfold drawn;have hc:c<arr.size:=by simp at h;omega
  rw[q (c+1) _ (by simp at h ⊢;omega)];rw[qC0,qQ3]
  have:(arr.toList.set c (u.2.getD n Value.none)).take (c+1)=arr.toList.take c ++ [u.2.getD n Value.none]:=by
   rw[List.take_add_one,List.take_set,qJ0 (by simpa using hc)];rw[List.set_eq_of_length_le (by simp;omega)];rfl
  rw[this,qG0];rfl
def qM {TI TO:Addr}(D:Apart z TO ss) (a6:ss ≠ []) (hsz:arr.size=ss.length) (L:ss.length<=sizeLine) (hz:IsZip s.heap z TI TO .none) (a4:D3 s.heap TI (ss.map λu=>Value.ref u.1.i).toArray) (a5:D3 s.heap TO arr) (hu:∀u∈ss,u.1.At s.heap n/\u.1.Src s.heap u.2/\∃x,u.2[n]?=some x) (hQ:∀h',IsZip h' z TI TO (rawInt s.heap.objs.size)->(∃arr',D3 h' TO arr'/\arr'.size=ss.length)->(∀u∈ss,u.1.At h' (n+1))->D3 h' s.heap.objs.size (ss.map λu=>u.2.getD n .none).toArray ->
   (∀b o,b≠z->b≠TO->(∀u∈ss,b≠u.1.i)->s.heap.get? b=some o->h'.get? b=some o)->Q (some (.ref s.heap.objs.size)) { s with heap:=h' }):
  wpAny (model prog w) A (pyNext (.ref z)) Q E s:=by
 have hT:s.TypeIs (.ref z) "zip" := ⟨_,hz,rfl⟩;unfold pyNext;refine qA0 (wpAny_attempt (qO8 (name:=Str.ofString "__next__") hT qS5 (qQ2 qS5 hT F.entry_zip_next ?_ (F.args_zip_next_1 _))))
 change wpAny _ _ (field (.ref z) 2>>=_) _ _ _;refine qA0 (qO6 hz rfl (x:=.bool false) rfl ?_)
 change wpAny _ _ (field (.ref z) 3>>=_) _ _ _;refine qA0 (qO6 hz rfl (x:=.ref TI) rfl ?_);refine qA0 (qO5 a4 rfl ?_);have e1:(ss.map λu=>Value.ref u.1.i).toArray.isEmpty=false:=by cases ss <;> simp_all
 simp only [e1];refine qA0 ?_;unfold Builtin.SmallTypes.ownedTupleIsFree;refine qA0 (qO6 hz rfl (x:=.none) rfl (qN6 ?_));simp only [qN9];refine qA0 (qP5 ?_);refine qA0 (qO6 hz rfl (x:=.ref TO) rfl ?_);refine qA0 (qP6 hz QX λh1 z1 sb1=>?_);replace z1:IsZip h1 z TI TO .ellipsis:=z1
 refine qA0 (draws (TI:=TI) (n:=n) (z:=z) (TO:=TO) ?_ ss 0 arr _ _ D z1 (sb1.extBut _ _ D.zTO.symm a5) ox (λu hm=>?_) λq z2 T2 a2 s2 k2=>?_)
 .intro v k s Q h;refine qA0 (wpAny_onRaise ?_)
  change wpAny _ _ (Builtin.SmallTypes.nextOf v>>=_) _ _ _;refine qA0 (qQ1 h (λx s1 ⟨arr,hT1,hl,hq⟩=>qN6 ?_) λe s1 he=>he);refine qA0 (qO5 hT1 rfl ?_);refine qA0 (wpAny_updateSeq hT1 rfl ?_ hl (by rw[qQ8];omega));refine qA0 (wpAny_letGo (qN6 (hq _ ?_ (qI9 ..))))
  change Heap.get? _ _=_;rw[qI3 _ hT1 rfl];simp [Obj.mapSeq]
 .obtain ⟨a,b,x⟩:=hu u hm;show ⟨a.keep λo e=>sb1.extBut _ _ (D.zi u hm) e,b.keep λo e=>sb1.extBut _ _ (D.lz u hm) e,x⟩
 .have ed:(drawn n ss 0 arr).toList=ss.map λu=>u.2.getD n .none:=by rw[qg n ss 0 arr ox];simp
  refine qA0 (qO5 T2 rfl ?_);have a3:q.objs.size=s.heap.objs.size:=by rw[s2];show sb1.1
  have O:z<q.objs.size:=qB3 z2;refine qA0 (qT5 (qA0 ?_) (by rw[ed,qA7];show L));unfold Builtin.SmallTypes.ownedTupleHandOut;have z3:IsZip (q.push { cls:=.type "tuple",data:=.seq (drawn n ss 0 arr).toList.toArray }) z TI TO .ellipsis:=qA5 _ z2;refine qA0 (qP6 z3 QX λh4 z4 sb4=>?_);replace z4:IsZip h4 z TI TO (rawInt q.objs.size):=z4
  refine qP6 z4 QX λh5 z5 sb5=>?_;replace z5:IsZip h5 z TI TO (rawInt q.objs.size):=z5
  have up:∀b o,b≠z->q.get? b=some o->h5.get? b=some o:=λb o hb e=>sb5.extBut _ _ hb (sb4.extBut _ _ hb (qA5 _ e));have T5:D3 h5 q.objs.size (drawn n ss 0 arr).toList.toArray:=sb5.extBut _ _ (qL9 O) (sb4.extBut _ _ (qL9 O) (qC2 _ rfl));rw[ed]at T5;rw[a3]at z5 T5;refine qN6 ⟨_,rfl,qN6 ?_⟩
  change Q (some (.ref q.objs.size)) _;rw[a3];show hQ h5 z5 ⟨_,up _ _ D.zTO.symm T2,by rw[nc,hsz]⟩ (λu hm=>(a2 u hm).keep λo e=>up _ o (D.zi u hm) e) T5 λb o b1 b2 b3 e=>up b o b1 (k2 b o b2 b3 (sb1.extBut _ _ b1 e))
def qL {TI TO:Addr}(hh:A.handled=none) (D:Apart z TO ss) (hsz:arr.size=ss.length) (O:ss.length<=sizeLine) (hz:IsZip s.heap z TI TO .none) (q:D3 s.heap TI (ss.map λu=>Value.ref u.1.i).toArray) (a3:D3 s.heap TO arr) (hu:∀u∈ss,u.1.At s.heap n/\u.1.Src s.heap u.2) (hx:∃u∈ss,u.2[n]?=none) (hQ:∀h',(∀b o,b≠z->b≠TO->(∀u∈ss,b≠u.1.i)->s.heap.get? b=some o->h'.get? b=some o)->Q none { s with heap:=h' }):
  wpAny (model prog w) A (pyNext (.ref z)) Q E s:=by
 have hT:s.TypeIs (.ref z) "zip" := ⟨_,hz,rfl⟩;unfold pyNext;refine qA0 (wpAny_attempt (qO8 (name:=Str.ofString "__next__") hT qS5 (qQ2 qS5 hT F.entry_zip_next ?_ (F.args_zip_next_1 _))))
 change wpAny _ _ (field (.ref z) 2>>=_) _ _ _;refine qA0 (qO6 hz rfl (x:=.bool false) rfl ?_)
 change wpAny _ _ (field (.ref z) 3>>=_) _ _ _;refine qA0 (qO6 hz rfl (x:=.ref TI) rfl ?_);refine qA0 (qO5 q rfl ?_);have e1:(ss.map λu=>Value.ref u.1.i).toArray.isEmpty=false:=by
  obtain ⟨u,hm,_⟩:=hx;cases ss with
  |nil=>show nomatch hm
  |cons a b=>simp
 simp only [e1];refine qA0 ?_;unfold Builtin.SmallTypes.ownedTupleIsFree;refine qA0 (qO6 hz rfl (x:=.none) rfl (qN6 ?_));simp only [qN9];refine qA0 (qP5 ?_);refine qA0 (qO6 hz rfl (x:=.ref TO) rfl ?_);refine qA0 (qP6 hz QX λh1 L sb1=>?_);replace L:IsZip h1 z TI TO .ellipsis:=L
 refine qA0 (qf (A:=A.in1) (TI:=TI) (n:=n) (z:=z) (TO:=TO) (show A.in1.handled=none from hh) ?_ ss 0 arr _ _ D L (sb1.extBut _ _ D.zTO.symm a3) ox (λu hm=>?_) hx λh2 e k2 he=>?_)
 .intro v k s Q h;refine qA0 (wpAny_onRaise ?_)
  change wpAny _ _ (Builtin.SmallTypes.nextOf v>>=_) _ _ _;refine qA0 (qQ1 h (λx s1 ⟨arr,hT1,hl,hq⟩=>qN6 ?_) λe s1 he=>he);refine qA0 (qO5 hT1 rfl ?_);refine qA0 (wpAny_updateSeq hT1 rfl ?_ hl (by rw[qQ8];omega));refine qA0 (wpAny_letGo (qN6 (hq _ ?_ (qI9 ..))))
  change Heap.get? _ _=_;rw[qI3 _ hT1 rfl];simp [Obj.mapSeq]
 .obtain ⟨a,b⟩:=hu u hm;show ⟨a.keep λo e=>sb1.extBut _ _ (D.zi u hm) e,b.keep λo e=>sb1.extBut _ _ (D.lz u hm) e⟩
 .obtain ⟨o,ho,hc⟩:=he;refine qA0 (wpAny_isInstance (T := "StopIteration") (b:=true) ⟨o,ho,hc⟩ isSubtype_stop ?_);show qN6 (hQ _ λb o b1 b2 b3 e=>k2 b o b1 b2 b3 (sb1.extBut _ _ b1 e))
def SrcAt (h:Heap)(u:Bool×Addr×Array Value):Prop:=if u.1=true then h.IsTuple u.2.1 u.2.2 else h.IsList u.2.1 u.2.2
def g8 (n:Nat):List (Bool×Addr×Array Value)->List (Sub×Array Value)
 | []=>[]
 |u::r=>(⟨u.1,n,u.2.1⟩,u.2.2)::g8 (n+1) r
def tw (hs:SrcAt s.heap u) (q:∀h',(Sub.mk u.1 s.heap.objs.size u.2.1).At h' 0->h'.objs.size=s.heap.objs.size+1->(∀b o,s.heap.get? b=some o->h'.get? b=some o)->Q (.ref s.heap.objs.size) { s with heap:=h' }):
  wpAny (model prog w) A (pyIter (.ref u.2.1)) Q E s:=by
 unfold SrcAt at hs;cases ht:u.1 with
 | true=>
  simp only [ht,qN9]at hs;refine qP7 hs (q _ ?_ (qH2 ..) λb o e=>qA5 _ e);unfold Sub.At;simp only [ht,qN9];show ⟨_,qC2 _ rfl,rfl,rfl⟩
 | false=>
  simp only [ht,qB9,qO0]at hs;refine qP8 hs (q _ ?_ (qH2 ..) λb o e=>qA5 _ e);unfold Sub.At;simp only [ht,qB9,qO0];show ⟨_,qC2 _ rfl,rfl,rfl⟩
def SrcAt.keep (x:SrcAt h u) (k:∀b o,h.get? b=some o->h'.get? b=some o):SrcAt h' u:=by
 unfold SrcAt at x ⊢
 split at x <;> (rename_i ht;obtain ⟨o,e,r⟩:=x;simp only [ht,qN9,qO0,qB9];show ⟨o,k _ o e,r⟩)
def jU:∀(us:List (Bool×Addr×Array Value)) (L:Jy) (s:Shared) (Q:Array Value->Shared->Prop),(∀u∈us,SrcAt s.heap u) ->
  (∀ h',(∀v∈g8 s.heap.objs.size us,v.1.At h' 0)->h'.objs.size=s.heap.objs.size+us.length->(∀b o,s.heap.get? b=some o->h'.get? b=some o) ->
   Q (L++((g8 s.heap.objs.size us).map λv=>Value.ref v.1.i).toArray) { s with heap:=h' }) ->
  wpAny (model prog w) A (forIn (us.map λu=>Value.ref u.2.1) L λx r=>do let y <- holding r.toList (pyIter x);pure (ForInStep.yield (r.push y))) Q E s:=by
 intro us
 induction us with
 | nil=>
  intro L s Q _ hQ;simp only [qM0,qT4]
  have:=hQ s.heap (λ_ h=>absurd h qD6) rfl λ_ _ e=>e
  show qN6 (by simpa [g8]using this)
 | cons u r ih=>
  intro L s Q hs hQ;simp only [qC0,qL3];refine qA0 (qA0 (qO3 (tw (hs u qB2) λO a1 s1 k1=>qN6 ?_)));refine ih (L.push (.ref s.heap.objs.size)) { s with heap:=O } Q (λv hv=>(hs v (qA6 _ hv)).keep k1) λh2 a2 s2 k2=>?_;have e0:g8 O.objs.size r=g8 (s.heap.objs.size+1) r:=by rw[s1]
  have q:=hQ h2 (λv hv=>?_) (by rw[s2];change O.objs.size+_=_;rw[s1,qC1];omega) λb o e=>k2 b o (k1 b o e)
  .have e:L.push (Value.ref s.heap.objs.size)++(List.map (λv=>Value.ref v.1.i) (g8 O.objs.size r)).toArray=L++(List.map (λv=>Value.ref v.1.i) (g8 s.heap.objs.size (u::r))).toArray:=by
    rw[e0];simp [g8]
   change Q (L.push (Value.ref s.heap.objs.size)++(List.map (λv=>Value.ref v.1.i) (g8 O.objs.size r)).toArray) _;rw[e];show q
  .rcases qB6.mp hv with rfl|hv
   .show a1.keep λo e=>k2 _ o e
   .show a2 v (by change v∈g8 O.objs.size r;rw[e0];show hv)
def tz (hs:∀u∈us,SrcAt s.heap u) (L:∀h',(∀v∈g8 s.heap.objs.size us,v.1.At h' 0)->h'.objs.size=s.heap.objs.size+us.length->(∀b o,s.heap.get? b=some o->h'.get? b=some o) ->
   Q ((g8 s.heap.objs.size us).map λv=>Value.ref v.1.i) { s with heap:=h' }):wpAny (model prog w) A (Builtin.SmallTypes.iterAll (us.map λu=>Value.ref u.2.1)) Q E s:=by
 unfold Builtin.SmallTypes.iterAll;refine qA0 (jU us #[] s _ hs λh' a1 s1 q=>qN6 ?_)
 have:=L h' a1 s1 q
 simpa using this
def O9:∀(us:List (Bool×Addr×Array Value)) (n:Nat),(g8 n us).length=us.length:=by
 intro us
 induction us with
 |nil=>intro n;rfl
 |cons u r q=>intro n;unfold g8;rw[qC1,q,qC1]
def fJ (us:List (Bool×Addr×Array Value)) (hl:us.length<=sizeLine) :
  Meets (Builtin.«zip.__new__» ⟨.type "zip" :: us.map λu=>Value.ref u.2.1,[]⟩) (λ_ R s=>(∀u∈us,SrcAt s.heap u) /\
   ∀ h',(∀v∈g8 s.heap.objs.size us,v.1.At h' 0)->D3 h' (s.heap.objs.size+us.length) ((g8 s.heap.objs.size us).map λv=>Value.ref v.1.i).toArray ->
    (∃arr,D3 h' (s.heap.objs.size+us.length+1) arr/\arr.size=us.length)->IsZip h' (s.heap.objs.size+us.length+2) (s.heap.objs.size+us.length) (s.heap.objs.size+us.length+1) .none ->
    (∀b o,s.heap.get? b=some o->h'.get? b=some o)->R (.ok (.ret (.ref (s.heap.objs.size+us.length+2)))) { s with heap:=h' }):=
 .of_wp λprog w A R s h=>by
  obtain ⟨hs,h⟩:=h
  change wpAny _ _ (Builtin.SmallTypes.newClass "zip" _>>=_) _ _ _;refine qA0 ?_;unfold Builtin.SmallTypes.newClass;refine qA0 (wpAny_of_eq (a:=true) rfl ?_);simp only [qL0,qB9,qO0];refine qA0 (wpAny_of_eq (a:=true) sub_zip ?_);simp only [qL0,qB9,qO0];refine qN6 ?_;simp only [qL2,show ¬ (0>1) by decide,qO0];refine qA0 (tz hs λq a1 s1 k1=>?_);refine qA0 (qT5 ?_ (by simp [O9,hl]));refine qA0 (qT5 ?_ (by simp [O9,hl]));generalize hI:((g8 s.heap.objs.size us).map λv=>Value.ref v.1.i)=I at h ⊢
  have O:I.length=us.length:=by rw[<- hI,qA7,O9]
  refine qA0 ?_
  change wpAny _ _ (newObj (.type "zip") (.fields #[.none,.bool false,.bool false,.ref q.objs.size,.ref (q.push { cls:=.type "tuple",data:=.seq I.toArray }).objs.size]) none) _ _ _;refine qR4 (qN6 ?_) (by size_fits);have z0:q.objs.size=s.heap.objs.size+us.length:=s1;have L:(q.push { cls:=.type "tuple",data:=.seq I.toArray }).objs.size=s.heap.objs.size+us.length+1:=by rw[qH2,s1]
  have z2:((q.push { cls:=.type "tuple",data:=.seq I.toArray }).push { cls:=.type "tuple",data:=.seq (I.map λ_=>Value.none).toArray }).objs.size=s.heap.objs.size+us.length+2:=by rw[qH2,L]
  refine ⟨_,rfl,?_⟩;have g:=h (((q.push { cls:=.type "tuple",data:=.seq I.toArray }).push { cls:=.type "tuple",data:=.seq (I.map λ_=>Value.none).toArray }).push { cls:=.type "zip",data:=.fields #[.none,.bool false,.bool false,.ref q.objs.size,.ref (q.push { cls:=.type "tuple",data:=.seq I.toArray }).objs.size] })
   (λv hv=>(a1 v hv).keep λo e=>qA5 _ (qA5 _ (qA5 _ e))) ?_ ⟨(I.map λ_=>Value.none).toArray,?_,by simp [O]⟩ ?_ λb o e=>qA5 _ (qA5 _ (qA5 _ (k1 b o e)))
  .rw [<- z2]at g
   show g
  .rw[<- z0];show qA5 _ (qA5 _ (qC2 _ rfl))
  .rw[<- L];show qA5 _ (qC2 _ rfl)
  .rw[<- z2,<- L,<- z0];show qC2 _ rfl
def lW (a b c:Value):checkTypeCall "zip" ⟨[a,b,c],[]⟩=pure ():=QW
def mF (a b c:Value):checkBuiltinCall "zip.__new__" ⟨[.type "zip",a,b,c],[]⟩=pure ():=QW
def nr (a b c d:Value):argsOk "object.__init__" ⟨[a,b,c,d],[]⟩:=by
 unfold argsOk;rw[signature?_of (id := "object.__init__") (n:=['_','_','t','i','n','i','_','_']) (o:=['t','c','e','j','b','o']) QW F.owner_object];kernel_rfl
def ug (us:List (Bool×Addr×Array Value)) (hl:us.length=2\/us.length=3) (hs:∀u∈us,SrcAt s.heap u) (h:∀h',(∀v∈g8 s.heap.objs.size us,v.1.At h' 0)->D3 h' (s.heap.objs.size+us.length) ((g8 s.heap.objs.size us).map λv=>Value.ref v.1.i).toArray ->
    (∃arr,D3 h' (s.heap.objs.size+us.length+1) arr/\arr.size=us.length)->IsZip h' (s.heap.objs.size+us.length+2) (s.heap.objs.size+us.length) (s.heap.objs.size+us.length+1) .none ->
    (∀b o,s.heap.get? b=some o->h'.get? b=some o)->Q (.ref (s.heap.objs.size+us.length+2)) { s with heap:=h' }):
  wpAny (model prog w) A (call (.type "zip") (us.map λu=>Value.ref u.2.1)) Q E s:=by
 have q:us.length<=sizeLine:=qB1 (show us.length<=3 by omega) QV;have k:∀h',_->_->_->_->_->({ s with heap:=h' }:Shared).TypeIs (.ref (s.heap.objs.size+us.length+2)) "zip" /\ Q (.ref (s.heap.objs.size+us.length+2)) { s with heap:=h' }:=λh' c1 c2 c3 L O=>⟨⟨_,L,rfl⟩,h h' c1 c2 c3 L O⟩;cases us with
 |nil=>rcases hl with hl|hl <;> cases hl
 | cons a us=>
  cases us with
  |nil=>rcases hl with hl|hl <;> cases hl
  | cons b us=>
   cases us with
   |nil=>show callType_new F.called_zip QV (F.typeCall_zip_2 _ _) (F.newCall_zip_2 _ _) (λobj=>F.args_object_init_3 obj _ _) F.entry_zip_new (fJ [a,b] q) ⟨hs,k⟩
   | cons c us=>
    cases us with
    |nil=>show callType_new F.called_zip QV (lW _ _ _) (mF _ _ _) (λobj=>nr obj _ _ _) F.entry_zip_new (fJ [a,b,c] q) ⟨hs,k⟩
    |cons d us=>rcases hl with hl|hl <;> (simp only [qC1]at hl;omega)
end L2
namespace L2
open PySem PySem.Spec PyProof.Rows
def W6 {α β:Type}{R:α->β->Prop}:∀{l:List α},(∀a∈l,∃b,R a b)->∃L:List (α×β),L.map (·.1)=l/\∀p∈L,R p.1 p.2:=by
 intro l
 induction l with
 |nil=>show λ_=>⟨[],rfl,λ_ h=>absurd h qD6⟩
 | cons a l ih=>
  intro h;obtain ⟨b,hb⟩:=h a qB2;obtain ⟨L,e,q⟩:=ih λx hx=>h x (qA6 _ hx);refine ⟨(a,b)::L,by rw[qC0,e],λp O=>?_⟩;rcases qB6.mp O with rfl|O
  .show hb
  .show q p O
def Sq (K:Frag)(H:Hp)(t:Bool)(a:Addr)(xs:List V):Prop:=if t=true then SqT K H a xs else SqL K H a xs
def kne {σ:St}(I:Inv X pins σ H s) (h:X.K.lookup a=some o) (f:E6 X pins H b):a≠b:=by
 intro e;subst e;have hb:X.base.get? a=some o:=I.mod.kin a o h;obtain ⟨L,f1,f2,q,O,f5⟩:=f;rcases q with z|z
 .show I.ok.noex a o hb z
 .show absurd (qB0 (qB3 (I.ok.bs a o hb).1) z) (qF2 _)
def Sq.ne {σ:St}(I:Inv X pins σ H s) (h:Sq X.K H t a xs) (f:E6 X pins H b):a≠b:=by
 have q:∀{u:HO},Rd H a u->a≠b:=λ{u} r e=>by
  subst e;have L:=f.1;rcases r with r|⟨o,r⟩ <;> (rw[L]at r;cases r)
 unfold Sq at h
 split at h
 .rcases h with h|⟨o,its,n,hk,_⟩
  .show q h
  .show kne I hk f
 .rcases h with h|⟨o,its,n,hk,_⟩
  .show q h
  .show kne I hk f
def Sq.src {σ:St}(I:Inv X pins σ H s) (h:Sq X.K H t a xs):∃its:List Value,Vals xs its/\(Sub.mk t 0 a).Src s.heap its.toArray:=by
 unfold Sq at h;unfold Sub.Src
 split at h
 .rename_i ht
  obtain ⟨its,r,p,_⟩:=I.tuple h;show ⟨its,r,by simp only [ht,qN9];show p⟩
 .rename_i ht
  obtain ⟨its,r,p,_⟩:=I.list h;show ⟨its,r,by simp only [ht,qO0];show p.isList⟩
def Sq.inj {σ:St}(I:Inv X pins σ H s) (h:Sq X.K H t a xs) (h':Sq X.K H t a ys):xs=ys:=by
 unfold Sq at h h'
 split at h
 .rename_i ht;simp only [ht,qN9]at h';show I.tuple_inj h h'
 .rename_i ht;simp only [ht,qO0]at h';show I.list_inj h h'
def ItZ (K:Frag) (us:List (Bool×Addr)):It:=
  ⟨fun i H=>∀u∈us,∃xs x,Sq K H u.1 u.2 xs/\xs[i]?=some x,
   λi H x H'=>∃p q,x=.ref p/\H p=none/\H'=upd H p (.tup q)/\Paired (λ(u:Bool×Addr) (y:V)=>∀xs,Sq K H u.1 u.2 xs->xs[i]?=some y) us q,
   λi H=>(∀u∈us,∃xs,Sq K H u.1 u.2 xs)/\∃u∈us,∃xs,Sq K H u.1 u.2 xs/\xs.length<=i⟩
structure ZSt (z TI TO:Addr) (subs:List Sub):Prop where
 zTO:z≠TO
 TIz:TI≠z
 TITO:TI≠TO
 zi:∀u∈subs,u.i≠z
 ti:∀u∈subs,u.i≠TO
 Ii:∀u∈subs,u.i≠TI
 nd:subs.Pairwise λu v=>u.i≠v.i
abbrev zTn (z TI TO:Addr) (subs:List Sub) (i:Nat) (h:Heap):Prop:=
 IsZip h z TI TO .none/\D3 h TI (subs.map λu=>Value.ref u.i).toArray/\(∃arr,D3 h TO arr/\arr.size=subs.length)/\∀u∈subs,u.At h i
def R8 {q:Type}{F:α->γ->Prop}{f:q->α}{g:q->γ}:∀{l:List q},(∀b∈l,F (f b) (g b))->Paired F (l.map f) (l.map g)
 | [],_=>.nil
 |_::_,h=>.cons (h _ qB2) (R8 λb hb=>h b (qA6 _ hb))
def qR {K:Frag}{TI TO:Addr}(D:ZSt z TI TO subs) (cg:subs ≠ []) (b0:subs.length<=sizeLine):
  Turn P w K (.Tuple elts k tp) (ItZ K (subs.map λu=>(u.t,u.l))) (z::TI::TO::subs.map (·.i)) z (zTn z TI TO subs) where
 mem:=QX
 obj:=λi h st b hb=>by
  obtain ⟨hz,a6,⟨arr,a7,_⟩,hs⟩:=st;simp only [qB6,qA9]at hb;rcases hb with rfl|rfl|rfl|⟨u,hu,rfl⟩
  .show ⟨_,hz,λv q=>by cases q⟩
  .show ⟨_,a6,λv q=>by cases q⟩
  .show ⟨_,a7,λv q=>by cases q⟩
  .obtain ⟨o,e,d⟩:=(hs u hu).obj;show ⟨o,e,λv q=>by rw[d]at q;cases q⟩
 keep:=λi h h' st kp=>by
  obtain ⟨hz,a6,⟨arr,a7,ha⟩,hs⟩:=st;show ⟨kp z QX _ hz,kp TI QX _ a6,⟨arr,kp TO QX _ a7,ha⟩,λu hu=>(hs u hu).keep λo e=>kp u.i (by simp only [qB6,qA9];show .inr (.inr (.inr ⟨u,hu,rfl⟩))) o e⟩
 item:=by
  intro X hP hw hK hc i pins s σ H E I hf st hg;subst hP hw hK;obtain ⟨hz,a6,⟨arr,a7,ha⟩,hs⟩:=st;have fz:=hf z QX;have fT:=hf TO QX;have fi:∀u∈subs,E6 X pins H u.i:=λu hu=>hf u.i (by simp only [qB6,qA9];show .inr (.inr (.inr ⟨u,hu,rfl⟩)));obtain ⟨ss,a3,O⟩:=W6 (R:=λ(u:Sub) (q:List Value×List V×V)=>Sq X.K H u.t u.l q.2.1/\Vals q.2.1 q.1/\u.Src s.heap q.1.toArray/\q.2.1[i]?=some q.2.2) (l:=subs) (λu hu=>by
   obtain ⟨xs,x,h1,h2⟩:=hg (u.t,u.l) (qA9.mpr ⟨u,hu,rfl⟩);obtain ⟨its,r,ab⟩:=Sq.src I h1;show ⟨(its,xs,x),h1,r,ab,h2⟩)
  have a4:∀v∈ss,v.1∈subs:=λv L=>by rw[<- a3];show qA9.mpr ⟨v,L,rfl⟩
  have b4:ss.Pairwise λu v=>u.1.i≠v.1.i:=by
   have:=D.nd
   rw[<- a3,qH3]at this;show this
  have DA:Apart z TO (ss.map λv=>(v.1,v.2.1.toArray)):=by
   refine ⟨D.zTO,?_,?_,?_,?_,?_,?_⟩
   .rintro _ hu;obtain ⟨v,L,rfl⟩:=qA9.mp hu;show D.zi _ (a4 v L)
   .rintro _ hu;obtain ⟨v,L,rfl⟩:=qA9.mp hu;show D.ti _ (a4 v L)
   .rw[qH3];show b4
   .rintro _ hu;obtain ⟨v,L,rfl⟩:=qA9.mp hu;show Sq.ne I (O v L).1 fz
   .rintro _ hu;obtain ⟨v,L,rfl⟩:=qA9.mp hu;show Sq.ne I (O v L).1 fT
   .rintro _ hu _ bc;obtain ⟨v,L,rfl⟩:=qA9.mp hu;obtain ⟨v2,b5,rfl⟩:=qA9.mp bc;show Sq.ne I (O v L).1 (fi _ (a4 v2 b5))
  have el:(ss.map λv=>(v.1,v.2.1.toArray)).length=subs.length:=by rw[qA7,<- a3,qA7]
  have eI:((ss.map λv=>(v.1,v.2.1.toArray)).map λu=>Value.ref u.1.i)=subs.map λu=>Value.ref u.i:=by rw[<- a3,qD7,qD7];rfl
  have ys:∀v∈ss,∃u,v.2.1.toArray[i]?=some u/\RelV v.2.2.2 u:=λv L=>by
   obtain ⟨u,e,r⟩:=(O v L).2.1.get (O v L).2.2.2;show ⟨u,by simpa using e,r⟩
  refine qM (n:=i) DA (by intro q;apply cg;have:=congrArg List.length q;rw[el]at this;show qW2.mp this) (by rw[ha,el]) (by rw[el];show b0) hz (by rw[eI];show a6) a7 (λu hu=>?_) λh1 z1 T1 a1 p1 k1=>?_
  .obtain ⟨v,L,rfl⟩:=qA9.mp hu;obtain ⟨u,e,_⟩:=ys v L;show ⟨hs _ (a4 v L),(O v L).2.2.1,u,e⟩
  refine ⟨_,rfl,wpAny_letOwnedTupleGo_zip z1 λh2 z2 sb2=>?_⟩;have c0:z<s.heap.objs.size:=qB3 hz;have kp:∀b o,b≠z->b≠TO->(∀u∈subs,b≠u.i)->s.heap.get? b=some o->h2.get? b=some o:=λb o b1 b2 b3 e=>sb2.extBut _ _ b1 (k1 b o b1 b2 (λu hu=>by obtain ⟨v,L,rfl⟩:=qA9.mp hu;show b3 _ (a4 v L)) e);have a8:H s.heap.objs.size=none:=I.hok.fresh (qB5 _);have trk:∀b u,H b=some u->b≠z/\b≠TO/\∀v∈subs,b≠v.i:=λb u e=>⟨λq=>(by subst q;rw[fz.1]at e;cases e),λq=>(by subst q;rw[fT.1]at e;cases e),λv L q=>(by subst q;rw[(fi v L).1]at e;cases e)⟩;have cj:D3 h2 s.heap.objs.size (ss.map λv=>v.2.1.toArray.getD i .none).toArray:=by
   have:=sb2.extBut _ _ (qL9 c0) p1
   rw[qD7]at this;show this
  have c4:Vals (ss.map λv=>v.2.2.2) (ss.map λv=>v.2.1.toArray.getD i .none):=R8 λv L=>by
   obtain ⟨u,e,r⟩:=ys v L;rw[show v.2.1.toArray.getD i Value.none=u by simp only [qF9,e,Option.getD_some]];show r
  have len:(ss.map λv=>v.2.2.2).length<=sizeLine:=by rw[qA7,show ss.length=subs.length by rw[<- a3,qA7]];show b0
  refine ⟨.ref s.heap.objs.size,upd H s.heap.objs.size (.tup (ss.map λv=>v.2.2.2)),?_,rfl,⟨_,_,rfl,a8,rfl,?_⟩,⟨z2,?_,?_,λu hu=>?_⟩,λb hb=>?_⟩
  .change Inv X pins σ _ { s with heap:=h2 };refine I.step (g':=s.gens) (t':=s.toks) (d':=s.drawn) (ch:=z::TO::subs.map (·.i)) (λb hb=>?_) (λb o _ _ hc e _=>kp b o ?_ ?_ ?_ e) (λb o _ _ hc e _=>⟨o.slots,kp b o ?_ ?_ ?_ e⟩) (λb o hc e n=>?_) (λb o hc e=>⟨o,kp b o ?_ ?_ ?_ e⟩) (λb xs e=>?_) (λb o u e=>?_) (λb ps e=>?_) (λm hm=>?_) ?_ I.bare
   .simp only [qB6,qA9]at hb;rcases hb with rfl|rfl|⟨u,hu,rfl⟩
    .show ⟨fz.2.2.2.1,fz.2.1,fz.2.2.2.2.1,fz.2.2.2.2.2⟩
    .show ⟨fT.2.2.2.1,fT.2.1,fT.2.2.2.2.1,fT.2.2.2.2.2⟩
    .have f:=fi u hu;show ⟨f.2.2.2.1,f.2.1,f.2.2.2.2.1,f.2.2.2.2.2⟩
   all_goals first
    | (intro q;show hc (by simp [q];done))
    | (intro u hu q;show hc (by rw[q];show qA6 _ (qA6 _ (qA9.mpr ⟨u,hu,rfl⟩))))
    |skip
   .rw[c8 (qC8 (qB3 e))];show n
   .rw[c8 (d8 e a8)];show e
   .rw[c8 (d8 e a8)];show e
   .show ⟨#[],by rw[c8 (d8 e a8),e];simp⟩
   .obtain ⟨o,es,ep,ho,r⟩:=hm;show ⟨o,es,ep,kp _ o (Ne.symm fz.2.1) (Ne.symm fT.2.1) (λu hu=>Ne.symm (fi u hu).2.1) ho,r⟩
   .intro b u e;by_cases hb:b=s.heap.objs.size
    .subst hb;rw[i7]at e;cases e;show ⟨len,_,c4,⟨_,cj,rfl,_,rfl⟩⟩
    .rw [c8 hb]at e
     refine (I.hok b u e).stay (λc v a5 q=>?_) (λc q=>by rw[c8 (d8 q a8)];show q) λc xs q=>by rw[c8 (d8 q a8)];show q
     rcases a5 with rfl|a5
     .show kp _ v (trk _ _ e).1 (trk _ _ e).2.1 (trk _ _ e).2.2 q
     .show kp _ v (trk _ _ a5).1 (trk _ _ a5).2.1 (trk _ _ a5).2.2 q
  .rw [<- a3,qD7]
   show R8 λv L xs hx=>by rw[Sq.inj I hx (O v L).1];show (O v L).2.2.2
  .show kp TI _ D.TIz D.TITO (λu hu=>Ne.symm (D.Ii u hu)) a6
  .obtain ⟨arr',c5,cc⟩:=T1;show ⟨arr',sb2.extBut _ _ D.zTO.symm c5,by rw[cc,el]⟩
  .have L:∃v∈ss,v.1=u:=by rw[<- a3]at hu;show qA9.mp hu
   obtain ⟨v,L,rfl⟩:=L;show (a1 (v.1,v.2.1.toArray) (qA9.mpr ⟨v,L,rfl⟩)).keep λo e=>sb2.extBut _ _ (D.zi _ (a4 v L)) e
  .have:b≠s.heap.objs.size:=by
    simp only [qB6,qA9]at hb;rcases hb with rfl|rfl|rfl|⟨u,hu,rfl⟩
    .show qC8 c0
    .show qC8 (qB3 a6)
    .show qC8 (qB3 a7)
    .obtain ⟨o,e,_⟩:=(hs u hu).obj;show qC8 (qB3 e)
   rw[c8 this];show (hf b hb).1
 done:=by
  intro X hP hw hK hc i pins s σ H E I hf st hg;subst hP hw hK;obtain ⟨hz,a6,⟨arr,a7,ha⟩,hs⟩:=st;obtain ⟨c1,u0,c2,ck,c3,cm⟩:=hg;have fz:=hf z QX;have fT:=hf TO QX;have fi:∀u∈subs,E6 X pins H u.i:=λu hu=>hf u.i (by simp only [qB6,qA9];show .inr (.inr (.inr ⟨u,hu,rfl⟩)));obtain ⟨ss,a3,O⟩:=W6 (R:=λ(u:Sub) (q:List Value×List V)=>Sq X.K H u.t u.l q.2/\Vals q.2 q.1/\u.Src s.heap q.1.toArray) (l:=subs) (λu hu=>by
   obtain ⟨xs,h1⟩:=c1 (u.t,u.l) (qA9.mpr ⟨u,hu,rfl⟩);obtain ⟨its,r,ab⟩:=Sq.src I h1;show ⟨(its,xs),h1,r,ab⟩)
  have a4:∀v∈ss,v.1∈subs:=λv L=>by rw[<- a3];show qA9.mpr ⟨v,L,rfl⟩
  have b4:ss.Pairwise λu v=>u.1.i≠v.1.i:=by
   have:=D.nd
   rw[<- a3,qH3]at this;show this
  have DA:Apart z TO (ss.map λv=>(v.1,v.2.1.toArray)):=by
   refine ⟨D.zTO,?_,?_,?_,?_,?_,?_⟩
   .rintro _ hu;obtain ⟨v,L,rfl⟩:=qA9.mp hu;show D.zi _ (a4 v L)
   .rintro _ hu;obtain ⟨v,L,rfl⟩:=qA9.mp hu;show D.ti _ (a4 v L)
   .rw[qH3];show b4
   .rintro _ hu;obtain ⟨v,L,rfl⟩:=qA9.mp hu;show Sq.ne I (O v L).1 fz
   .rintro _ hu;obtain ⟨v,L,rfl⟩:=qA9.mp hu;show Sq.ne I (O v L).1 fT
   .rintro _ hu _ bc;obtain ⟨v,L,rfl⟩:=qA9.mp hu;obtain ⟨v2,b5,rfl⟩:=qA9.mp bc;show Sq.ne I (O v L).1 (fi _ (a4 v2 b5))
  have el:(ss.map λv=>(v.1,v.2.1.toArray)).length=subs.length:=by rw[qA7,<- a3,qA7]
  have eI:((ss.map λv=>(v.1,v.2.1.toArray)).map λu=>Value.ref u.1.i)=subs.map λu=>Value.ref u.i:=by rw[<- a3,qD7,qD7];rfl
  refine qL (n:=i) (I.ok.hd hc) DA (by rw[ha,el]) (by rw[el];show b0) hz (by rw[eI];show a6) a7 (λu hu=>?_) ?_ λh1 k1=>⟨rfl,?_⟩
  .obtain ⟨v,L,rfl⟩:=qA9.mp hu;show ⟨hs _ (a4 v L),(O v L).2.2⟩
  .obtain ⟨u,hu,e0⟩:=qA9.mp c2;have L:∃v∈ss,v.1=u:=by rw[<- a3]at hu;show qA9.mp hu
   obtain ⟨v,L,rfl⟩:=L;subst e0;refine ⟨(v.1,v.2.1.toArray),qA9.mpr ⟨v,L,rfl⟩,?_⟩;have e1:=Sq.inj I (O v L).1 c3;have e2:=(O v L).2.1.length;rw[e1]at e2;simp only [List.getElem?_toArray];show List.getElem?_eq_none ox
  .have kp:∀b o,b≠z->b≠TO->(∀u∈subs,b≠u.i)->s.heap.get? b=some o->h1.get? b=some o:=λb o b1 b2 b3 e=>k1 b o b1 b2 (λu hu=>by obtain ⟨v,L,rfl⟩:=qA9.mp hu;show b3 _ (a4 v L)) e;have trk:∀b u,H b=some u->b≠z/\b≠TO/\∀v∈subs,b≠v.i:=λb u e=>⟨λq=>(by subst q;rw[fz.1]at e;cases e),λq=>(by subst q;rw[fT.1]at e;cases e),λv L q=>(by subst q;rw[(fi v L).1]at e;cases e)⟩;refine I.step (g':=s.gens) (t':=s.toks) (d':=s.drawn) (ch:=z::TO::subs.map (·.i)) (λb hb=>?_) (λb o _ _ hc e _=>kp b o ?_ ?_ ?_ e) (λb o _ _ hc e _=>⟨o.slots,kp b o ?_ ?_ ?_ e⟩) (λb o hc e n=>n) (λb o hc e=>⟨o,kp b o ?_ ?_ ?_ e⟩) (λb xs e=>e) (λb o u e=>e) (λb ps e=>⟨#[],by rw[e];simp⟩) (λm hm=>?_) (λb u e=>?_) I.bare
   .simp only [qB6,qA9]at hb;rcases hb with rfl|rfl|⟨u,hu,rfl⟩
    .show ⟨fz.2.2.2.1,fz.2.1,fz.2.2.2.2.1,fz.2.2.2.2.2⟩
    .show ⟨fT.2.2.2.1,fT.2.1,fT.2.2.2.2.1,fT.2.2.2.2.2⟩
    .have f:=fi u hu;show ⟨f.2.2.2.1,f.2.1,f.2.2.2.2.1,f.2.2.2.2.2⟩
   all_goals first
    | (intro q;show hc (by simp [q];done))
    | (intro u hu q;show hc (by rw[q];show qA6 _ (qA6 _ (qA9.mpr ⟨u,hu,rfl⟩))))
    |skip
   .obtain ⟨o,es,ep,ho,r⟩:=hm;show ⟨o,es,ep,kp _ o (Ne.symm fz.2.1) (Ne.symm fT.2.1) (λu hu=>Ne.symm (fi u hu).2.1) ho,r⟩
   .refine (I.hok b u e).stay (λc v a5 q=>?_) (λc q=>q) λc xs q=>q;rcases a5 with rfl|a5
    .show kp _ v (trk _ _ e).1 (trk _ _ e).2.1 (trk _ _ e).2.2 q
    .show kp _ v (trk _ _ a5).1 (trk _ _ a5).2.1 (trk _ _ a5).2.2 q
 self:=λ_ _ _ _ _ st h=>wpAny_pyIter_zip st.1 h
def BP (K:Frag)(q:TA):TI:=λσ H R=>q σ H λvs H1=>∃us:List (Bool×Addr),vs=us.map (λu=>V.ref u.2)/\(us.length=2\/us.length=3)/\(∀u∈us,∃xs,Sq K H1 u.1 u.2 xs)/\R (ItZ K us) H1
def neN {b:Nat}(h:a≠b):(a:Addr)≠b:=h
def nJ:∀{us:List (Bool×Addr)}{vs:Jw},Vals (us.map λu=>V.ref u.2) vs->vs=us.map λu=>Value.ref u.2:=by
 intro us
 induction us with
 |nil=>intro vs h;cases h;rfl
 | cons u us q=>
  intro vs h;cases h with
  | cons r t=>
   have L:_=Value.ref _:=r;rw[L,q t];rfl
def ao:∀(us:List (Bool×Addr×Array Value)) (n:Nat),∀v∈g8 n us,n<=v.1.i/\n+us.length>v.1.i:=by
 intro us
 induction us with
 |nil=>show λ_ _ h=>absurd h qD6
 | cons u r q=>
  intro n v h;rcases qB6.mp h with rfl|h
  .show ⟨qB5 _,by change n+(r.length+1)>n;omega⟩
  .have:=q (n+1) v h
   rw[qC1];omega
def kq:∀(us:List (Bool×Addr×Array Value)) (n:Nat),(g8 n us).Pairwise λu v=>u.1.i≠v.1.i
 | [],_=>.nil
 | u::r,n=>by
  refine qQ7.mpr ⟨λv q=>?_,kq r (n+1)⟩
  have:=ao r (n+1) v q
  change (n:Nat)≠v.1.i;omega
def gW:∀(us:List (Bool×Addr×Array Value)) (n:Nat),(g8 n us).map (λu=>(u.1.t,u.1.l))=us.map λu=>(u.1,u.2.1)
 | [],_=>rfl
 |u::r,n=>by unfold g8;rw[qC0,gW r,qC0]
def AD {X:Cx}{a:Expr}{es elts:Jx}{ta:TA}{p pos tp:Pos}{k:Nat}(hg:Gl X "zip") (hm:X.mg "zip" = none) (ha:PA X (a::es) ta) (hs:starEach (a::es) X.env=(false,eval a X.env)::starEach es X.env:=by rfl) (a6:(backTo pos (starEach es X.env)).any (·.1)=false:=by rfl):PI X (.Tuple elts k tp) (.Call (.Name "zip" p) (a::es) [] pos) (BP X.K ta):=by
 intro pins s σ H R I h;refine Call_ (F4 I hg hm boot_zip (qF4 (thn (ha pos pins s σ H _ I h) λvs s1 a4=>?_) hs a6));obtain ⟨xs,H1,I1,r1,us,e1,hl,a7,q⟩:=a4;subst e1;have e2:=nJ r1;subst e2;obtain ⟨ws,ew,ab⟩:=W6 (R:=λ(u:Bool×Addr) (its:Jy)=>SrcAt s1.heap (u.1,u.2,its)) (l:=us) (λu hu=>by
  obtain ⟨ys,hy⟩:=a7 u hu;obtain ⟨its,_,O⟩:=Sq.src I1 hy;show ⟨its.toArray,by unfold SrcAt;unfold Sub.Src at O;show O⟩)
 have ev:us.map (λu=>Value.ref u.2)=(ws.map λw=>(w.1.1,w.1.2,w.2)).map λu=>Value.ref u.2.1:=by rw[<- ew,qD7,qD7];rfl
 have el:(ws.map λw=>(w.1.1,w.1.2,w.2)).length=us.length:=by rw[<- ew,qA7,qA7]
 rw[ev];generalize hW:(ws.map λw=>(w.1.1,w.1.2,w.2))=W at el ev
 have a8:∀u∈W,SrcAt s1.heap u:=λu hu=>by
  rw[<- hW]at hu;obtain ⟨w,hw,rfl⟩:=qA9.mp hu;show ab w hw
 refine ug W (by rw[el];show hl) a8 λh' hA a5 b0 hz hk=>wpAny_pyIter_zip hz ?_;have I2:Inv X pins σ H1 { s1 with heap:=h' }:=I1.kept (t':=s1.toks) hk;have eS:((g8 s1.heap.objs.size W).map (·.1)).map (λu=>(u.t,u.l))=us:=by
  rw[qD7]
  change (g8 s1.heap.objs.size W).map (λu=>(u.1.t,u.1.l))=us;rw[gW,<- hW,qD7,<- ew];rfl
 have D:ZSt (s1.heap.objs.size+W.length+2) (s1.heap.objs.size+W.length) (s1.heap.objs.size+W.length+1) ((g8 s1.heap.objs.size W).map (·.1)):=by
  refine ⟨neN ox,neN ox,neN ox,?_,?_,?_,?_⟩
  .rintro _ hu;obtain ⟨v,L,rfl⟩:=qA9.mp hu;have:=ao W _ v L;show neN ox
  .rintro _ hu;obtain ⟨v,L,rfl⟩:=qA9.mp hu;have:=ao W _ v L;show neN ox
  .rintro _ hu;obtain ⟨v,L,rfl⟩:=qA9.mp hu;have:=ao W _ v L;show neN ox
  .rw[qH3];show kq W _
 have ls:((g8 s1.heap.objs.size W).map (·.1)).length=W.length:=by rw[qA7,O9]
 have TZ:=qR (P:=X.prog) (w:=X.w) (K:=X.K) (elts:=elts) (k:=k) (tp:=tp) D (by intro q;have:=congrArg List.length q;rw[ls,el]at this;have h0:us.length=0:=this;omega) (by rw[ls,el];show qB1 (show us.length<=3 by omega) QV);rw[eS]at TZ;refine ⟨_,_,_,_,H1,rfl,I2,TZ,⟨hz,?_,?_,λu hu=>?_⟩,λb hb=>?_,q⟩
 .rw[qD7];show a5
 .obtain ⟨arr,h1,h2⟩:=b0;show ⟨arr,h1,by rw[ls];show h2⟩
 .obtain ⟨v,L,rfl⟩:=qA9.mp hu;show hA v L
 .have a3:s1.heap.objs.size<=b:=by
   simp only [qB6,qA9]at hb;rcases hb with rfl|rfl|rfl|⟨_,⟨v,L,rfl⟩,rfl⟩
   .omega
   .omega
   .omega
   .show (ao W _ v L).1
  have f:=I1.fpOk (H':=H1) a3 (I1.hok.fresh a3);show f
def F9 (cs:Scope) (env:Env) (x:Str):(relabel cs env).names.lookup x=(cs.names.lookup x).map λk=>if (k == .free&&env.scope.kind == .function&&env.kindOf x == some .cell)=true then .cell else k:=by
 unfold relabel
 change List.lookup x (cs.names.map _)=_
 induction cs.names with
 |nil=>rfl
 | cons p r L=>
  obtain ⟨n,k⟩:=p;by_cases q:x=n
  .subst q;rw[qC0];simp only [qK2]
   split <;> simp_all
  .have hb:(x == n)=false:=by simpa using q
   have O:List.lookup x ((n,k)::r)=List.lookup x r:=by rw[qK2,hb]
   rw[qC0,O];refine Eq.trans ?_ L;dsimp only;by_cases hc:(k == NameKind.free&&env.scope.kind == ScopeKind.function&&env.kindOf n == some NameKind.cell)=true
   .rw[qA2 hc,qK2,hb]
   .rw[qA4 hc,qK2,hb]
def dP: ∀ (names : List (Str × NameKind)) (O : List (Str × Addr)), (∀x ∈ names, x.2 = .free -> ∃c, env.cells.lookup x.1 = some c) -> (∀x c, O.lookup x = some c -> env.cells.lookup x = some c) ->
    ∃ cl, (forIn (m := Sem) names O λx __s => if (x.snd == NameKind.free) = true then do
              let __do_lift <- cellOf env x.fst
              pure (ForInStep.yield ((x.fst, __do_lift) :: __s))
            else pure (ForInStep.yield __s)) = pure cl /\ (∀x c, cl.lookup x = some c -> env.cells.lookup x = some c) /\ (∀x, (x, NameKind.free) ∈ names -> ∃c, cl.lookup x = some c) /\ ∀x c, O.lookup x = some c -> ∃c', cl.lookup x = some c' := by
  intro names
  induction names with
  | nil =>
    intro O _ h0;show ⟨O, by simp only [qT4], h0, λ_ h => absurd h qD6, λ_ c h => ⟨c, h⟩⟩
  | cons p r ih =>
    intro O hf h0;obtain ⟨n, k⟩ := p;by_cases hk : k = .free
    · subst hk
      obtain ⟨c, hc⟩ := hf (n, .free) qB2 rfl;obtain ⟨cl, e, h1, h2, h3⟩ := ih ((n, c) :: O) (λx L => hf x (qA6 _ L)) (λx c' L => by
        rw[qK2]at L
        split at L
        · rename_i hb
          have a3 : x = n := by simpa using hb
          cases L;rw[a3];show hc
        · show h0 x c' L)
      have hn : ∃c', cl.lookup n = some c' := h3 n c QX;refine ⟨cl, ?_, h1, λx L => ?_, λx c' L => ?_⟩
      · rw [qL3]
        simp only [qR6, qN9, cellOf, hc];show e
      · rcases qB6.mp L with q|L
        · cases q;show hn
        · show h2 x L
      · by_cases a3 : x = n
        · subst a3;show hn
        · show h3 x c' (by
            have hb : (x == n) = false := by simpa using a3
            rw[qK2, hb];show L)
    · have hb : (k == NameKind.free) = false := by simpa using hk
      obtain ⟨cl, e, h1, h2, h3⟩ := ih O (λx L => hf x (qA6 _ L)) h0;refine ⟨cl, ?_, h1, λx L => ?_, h3⟩
      · rw [qL3]
        simp only [hb, qB9, qO0];show e
      · rcases qB6.mp L with q|L
        · cases q;show absurd rfl hk
        · show h2 x L
structure g5 (sc cs:Scope) (N N':Jk):Prop where
 kind:cs.kind=.function
 ncell:∀x∈cs.names,x.2≠.cell
 loc:∀x∈cs.names,x.2=.local->cs.names.lookup x.1=some .local
 free:∀x∈cs.names,x.2=.free->sc.names.lookup x.1=some .cell\/sc.names.lookup x.1=some .free
 nd:N'.Nodup
 len:N.length<=N'.length
 same:∀i∈List.range N.length,N'[i]?=N[i]?\/∀x∈N'[i]?,cs.names.lookup x=none
 out:∀x∈N'.take N.length,cs.names.lookup x≠some .local
abbrev i9 (X:Cx) (cs:Scope) (cl:List (Str×Addr)) (N':Jk) (ex:List Addr) (s:Shared) (H:Hp):Cx:=
 { X with N:=N',s₀:=s,H₀:=H,env:=compEnvC cs cl s.heap.objs.size X.env,outer:=X.stack,stack:=X.stack,ex:=ex,fn:=λ_=>false,pn:=[],xe:=λ_ _=>False }
def inner (N':Jk)(σ:St):St:=σ++List.replicate (N'.length-σ.length) none
def fS {i:Nat}(h:(inner N' σ)[i]?=some (some v)):σ[i]?=some (some v):=by
 unfold inner at h;by_cases hi:i<σ.length
 .rwa [qE8 hi]at h
 .rw [qH9 ox,qG2]at h
  split at h <;> cases h
def uf {σ:St}{fp:List Addr}(S:g5 X.env.scope cs X.N N') (I:Inv X pins σ H s3) (L:∀x c,cl.lookup x=some c->X.env.cells.lookup x=some c) (a5:∀x,(x,NameKind.free)∈cs.names->∃c,cl.lookup x=some c) (hf:∀b∈fp,E6 X pins H b) (bc:∀b∈fp,b<s3.heap.objs.size) (kp:∀b o,s3.heap.get? b=some o->s4.heap.get? b=some o) (hn:s4.heap.Ns s3.heap.objs.size m) (c0:s4.os=s3.os) (hg:s4.gens=s3.gens):Inv (i9 X cs cl N' fp s3 H) [] (inner N' σ) H s4:=by
 have a4:∀{c:Addr}{v:Option Value},s3.heap.IsCell c v->s4.heap.IsCell c v:=λ{c v} z=>by obtain ⟨o,e,d⟩:=z;show ⟨o,kp c o e,d⟩
 refine ⟨⟨I.ok.mod,S.kind,I.ok.glob,I.ok.blt,qB5 _,λx y c h1 h2=>I.ok.inj x y c (L x c h1) (L y c h2),λx hx=>?_,λx c h _=>absurd (show false=true from h) QV,I.ok.hd,I.ok.frames,.inl rfl,λb hb=>⟨?_,λx c e=>(hf b hb).2.2.2.2.1 x c (L x c e)⟩,I.bs,qB1 I.ok.bsz I.sz,λb o e hb=>?_,λb hb c3=>?_,I.stack,I.stkFree⟩,
  c0,by rw[hg];show I.bare,Un.kept kp,⟨m,hn,λi x v e1 e2 e3=>?_⟩,λx c e=>?_,I.hok.fresh (qB5 _),λx c e=>I.freeC x c (L x c e),λp hp=>absurd (show p∈([]:Jq) from hp) QX,I.hok.kept kp,?_⟩
 .have a3:(relabel cs X.env).names.lookup x=some .cell\/(relabel cs X.env).names.lookup x=some .free:=hx;rw[F9]at a3;cases hl:cs.names.lookup x with
  |none=>rw[hl]at a3;rcases a3 with h|h <;> cases h
  | some k=>
   have hm:=qH7 hl;by_cases hk:k=.free
   .subst hk;show a5 x hm
   .exfalso;have hb:(k == NameKind.free)=false:=by simpa using hk
    rw[hl]at a3;simp only [Option.map_some,hb,qT2,qB9,qO0]at a3;rcases a3 with h|h
    .cases h;show S.ncell _ hm rfl
    .cases h;show hk rfl
 .intro q;have c1:b=s3.heap.objs.size:=q;show absurd (bc b hb) (by rw[c1];show qF2 _)
 .obtain ⟨f0,f1,f2,f3,f4,f5⟩:=hf b hb;rcases f3 with z|z
  .show I.ok.noex b o e z
  .show absurd (qB0 (qB3 (I.ok.bs b o e).1) z) (qF2 _)
 .have b0:b∈frs X.stack:=c3;rcases qB6.mp (I.stkSub b b0) with z|z
  .show (hf b hb).2.1 z
  .show (hf b hb).2.2.1 z
 .have ab:=fS e2;have hi:i<X.N.length:=by rw[<- I.len];show (qA8.mp ab).1
  have a8:N'[i]?=some x:=e1;have O:Vis (relabel cs X.env) x:=e3;have hv:∃k,cs.names.lookup x=some k:=by
   unfold Vis at O;rw[F9]at O;cases hl:cs.names.lookup x with
   |none=>rw[hl]at O;rcases O with h|h|h <;> cases h
   |some k=>show ⟨k,rfl⟩
  obtain ⟨k,hk⟩:=hv;have hN:X.N[i]?=some x:=by
   rcases S.same i (qF0.mpr hi) with q|q
   .rw[<- q];show a8
   .have:=q x (by rw[a8];rfl)
    rw[hk]at this;cases this
  have b5:k≠.local:=λq=>by
   subst q;show S.out x (qF6 (i:=i) (by rw[qH1 hi];show a8)) hk
  have hm:=qH7 hk;have a7:k=.free:=by
   unfold Vis at O;rw[F9,hk]at O;by_cases a6:k=.free
   .show a6
   .exfalso;have hb:(k == NameKind.free)=false:=by simpa using a6
    simp only [Option.map_some,hb,qT2,qB9,qO0]at O;rcases O with h|h|h
    .show b5 (Option.some.inj h)
    .show S.ncell _ hm (Option.some.inj h)
    .show a6 (Option.some.inj h)
  subst a7;obtain ⟨m0,c4,c2⟩:=I.loc;have b3:Vis X.env.scope x:=by
   rcases S.free _ hm rfl with h|h
   .show .inr (.inl h)
   .show .inr (.inr h)
  obtain ⟨u,r,l⟩:=c2 i x v hN ab b3;refine ⟨u,r,.inr ⟨?_,?_⟩⟩
  .change (relabel cs X.env).names.lookup x=some .cell\/(relabel cs X.env).names.lookup x=some .free;rw[F9,hk]
   change some (if _ then _ else _)=_\/some (if _ then _ else _)=_
   split
   .show .inl rfl
   .show .inr rfl
  .obtain ⟨c,hc⟩:=a5 x hm;have b4:=L x c hc;rcases l with ⟨q,_⟩|⟨_,c',e,z⟩
   .exfalso;have q':X.env.scope.names.lookup x=some .local:=q;rcases S.free _ hm rfl with h|h <;> (rw[q']at h;cases h)
   .rw [b4]at e;cases e
    show ⟨c,hc,a4 z⟩
 .obtain ⟨v,z⟩:=I.cell x c (L x c e);show ⟨v,a4 z⟩
 .unfold inner;rw[qC5,List.length_replicate,I.len]
  have:=S.len
  change _=N'.length;omega
def P8 (n:Nat)(g:TG):Prop:=∀(v:V)(σ:St)(H:Hp)(Q:St->Hp->Prop),g v σ H Q->g v σ H λq H2=>Q q H2/\q.length=σ.length/\∀j,j<n->q[j]?=σ[j]?
def dZ (n:Nat)(g:TGs):Prop:=∀(vs:List V)(σ:St)(H:Hp)(Q:St->Hp->Prop),g vs σ H Q->g vs σ H λq H2=>Q q H2/\q.length=σ.length/\∀j,j<n->q[j]?=σ[j]?
def v5 (h:n<=i):P8 n (G8 i):=λv σ H Q q=>⟨q,QX,λj L=>qB7 ox⟩
def U0:dZ n gNil:=λvs σ H Q L=>by obtain ⟨e,q⟩:=L;show ⟨e,q,rfl,λ_ _=>rfl⟩
def v6 (h:n<=i) (hu:dZ n u):dZ n (mU (G8 i) u):=λvs σ H Q a3=>by
 obtain ⟨v,r,e,q⟩:=a3;refine ⟨v,r,e,?_⟩;have q':=hu r (σ.set i (some v)) H Q q
 change u r (σ.set i (some v)) H _;have e1:∀L:St,(L.length=(σ.set i (some v)).length/\∀j,j<n->L[j]?=(σ.set i (some v))[j]?)=(L.length=σ.length/\∀j,j<n->L[j]?=σ[j]?):=λL=>by
  have:∀j,j<n->(σ.set i (some v))[j]?=σ[j]?:=λj O=>qB7 ox
  rw[qE9];show propext ⟨λa5=>by obtain ⟨a,b⟩:=a5;show ⟨a,λj O=>(b j O).trans (this j O)⟩,λa4=>by obtain ⟨a,b⟩:=a4;show ⟨a,λj O=>(b j O).trans (this j O).symm⟩⟩
 have e2:(λ(L:St) (H2:Hp)=>Q L H2/\L.length=σ.length/\∀j,j<n->L[j]?=σ[j]?)=λL H2=>Q L H2/\L.length=(σ.set i (some v)).length/\∀j,j<n->L[j]?=(σ.set i (some v))[j]?:=by
  funext L H2;rw[e1]
 rw[e2];show q'
def T9 {K:Frag}(hu:dZ n u):P8 n (mT K k u):=λv σ H Q L=>by obtain ⟨a,xs,e,O,h2,q⟩:=L;show ⟨a,xs,e,O,h2,hu xs σ H Q q⟩
def PIf (X:Cx) (q:Jx) (t:TT):Prop:=
 ∀ (pins:Jq) (s:Shared) (σ:St) (H:Hp) (Q:Bool->Hp->Prop),Inv X pins σ H s->t σ H Q ->
  wpAny (model X.prog X.w) X.A (forIn q true λc r=>if r=true then do let ok <- isTrue c X.env (eval c X.env);pure (ForInStep.yield ok) else pure (ForInStep.yield r)) (TP X pins σ Q) X.xe s
def tYes:TT:=λ_ H Q=>Q true H
def wx:PIf X [] tYes:=λ_ _ _ H _ I h=>wpAny_tests_nil ⟨H,I,h⟩
def ww (h:PT X c t):PIf X [c] t:=λpins s σ H Q I q=>wpAny_tests_one (h pins s σ H Q I q)
def vt (J:It) (D:Addr) (g:TG) (tc:TT) (te:TE) (a3:St) (H1:Hp) (Q:Hp->Prop):Prop:=
 ∃ W:Nat->Nat->Hp->Prop,(∃m,W 0 m (upd H1 D (.lst [])))/\∀i m H2,W i m H2 ->
  (J.stop i H2/\Q H2)\/(J.go i H2/\∀x H3,J.yld i H2 x H3->g x a3 H3 λq H4=>tc q H4 λb H5=>
   if b=true then te q H5 λy H6=>∃O,H6 D=some (.lst O)/\O.length<sizeLine/\∃L,L<m/\W (i+1) L (upd H6 D (.lst (O ++ [y])))
   else ∃L,L<m/\W (i+1) L H5)
def mf (N':Jk)(O:TI)(g:TG)(L:TT)(q:TE):TE:=λσ H Q=>O σ H λJ H1=>∀D,H1 D=none->vt J D g L q (inner N' σ) H1 (Q (.ref D))
def EF (L:∀x c,cl.lookup x=some c->X.env.cells.lookup x=some c) (stk:∀b∈frs X.stack,b∈X.env.locals::X.fs) (O:∀b∈fp,E6 X pins H3 b) (a3:∀b∈fp,b<s3.heap.objs.size) (hn:∀b∈fp,H' b=none):∀b∈fp,E6 (i9 X cs cl N' fp s3 H3) [] H' b:=λb hb=>by
 obtain ⟨f0,f1,f2,f3,f4,f5⟩:=O b hb;refine ⟨hn b hb,qC8 (a3 b hb),λa4=>?_,.inl hb,λx c e=>f4 x c (L x c e),λp hp=>absurd (show p∈([]:Jq) from hp) QX⟩;have q:b∈frs X.stack:=a4;rcases qB6.mp (stk b q) with z|z
 .show f1 z
 .show f2 z
def qr {σ:St}{Q:Hp->Prop}{W:Nat->Nat->Hp->Prop}(hc:X.calm=true) (hg:PG (i9 X cs cl N' fp s3 O) tg g) (hk:P8 X.N.length g) (ht:PIf (i9 X cs cl N' fp s3 O) ifs tc) (he:PE (i9 X cs cl N' fp s3 O) elt te) (b4:∀x c,cl.lookup x=some c->X.env.cells.lookup x=some c) (I3:Inv X pins σ O s3) (I4:Inv (i9 X cs cl N' fp s3 O) [] (inner N' σ) O s4) (T:Turn X.prog X.w X.K tg J fp it tn) (st:tn 0 s4.heap) (a8:∀b∈fp,E6 X pins O b) (cg:∀b∈fp,b<s3.heap.objs.size) (w0:W 0 m0 O) (turn:∀i m H2,W i m H2->(J.stop i H2/\Q H2)\/(J.go i H2/\∀x O,J.yld i H2 x O->g x (inner N' σ) O λb5 H4=>tc b5 H4 λb H5=>
   if b=true then te b5 H5 λy H6=>∃ys,H6 D=some (.lst ys)/\ys.length<sizeLine/\∃L,L<m/\W (i+1) L (upd H6 D (.lst (ys ++ [y])))
   else ∃L,L<m/\W (i+1) L H5)) (hR:∀(H':Hp) (s':Shared),Inv X pins σ H' s'->Q H'->(∃m,s'.heap.Ns s3.heap.objs.size m)->E6 X pins H' s3.heap.objs.size->R (.ok .next) s'):
  codeAny (model X.prog X.w) X.A (.compLoop (.ListComp elt [⟨tg,iter,ifs,0⟩] cs pos) 0 (.ref it) (.ref D) (i9 X cs cl N' fp s3 O).env) R s4:=by
 have a6:∀{H':Hp},(∀b∈fp,H' b=none)->∀b∈fp,E6 (i9 X cs cl N' fp s3 O) [] H' b:=λhn=>EF b4 I3.stkSub a8 cg hn;have cy:(inner N' σ).length=N'.length:=I4.len;refine codeAny_loop rfl (λn s'=>∃i H',Inv (i9 X cs cl N' fp s3 O) [] (inner N' σ) H' s'/\tn i s'.heap/\(∀b∈fp,H' b=none)/\W i n H') (λn s5 hI=>?_) m0 ⟨0,O,I4,st,λb hb=>(a8 b hb).1,w0⟩;obtain ⟨i,H5,I5,c0,c2,w5⟩:=hI
 change wpAny _ _ ((compTurn (.ListComp elt [⟨tg,iter,ifs,0⟩] cs pos) 0 (.ref it) (.ref D) (i9 X cs cl N' fp s3 O).env).onRaise _) _ _ s5;refine wpAny_noted ?_;rw[compTurn_list];refine qA0 (wpAny_standAt (qA0 ?_));have a4:∀{α:Type}{t:Sem α}{P:α->Shared->Prop}{E':Jp}{s:Shared},wpAny (model X.prog X.w) X.A t P (λ_ _=>False) s->wpAny (model X.prog X.w) X.A t P E' s:=λh=>qQ1 h (λ_ _ q=>q) λ_ _ q=>q.elim;rcases turn i n H5 w5 with ⟨stop,q⟩|⟨go,step⟩
 .refine thn (T.done (i9 X cs cl N' fp s3 O) rfl rfl rfl hc i [] s5 _ H5 _ I5 (a6 c2) c0 stop) λr s6 ⟨hr,I6⟩=>?_;subst hr;refine qN6 ?_;have J6:Inv X pins σ H5 s6:=I3.call' (H':=H5) (ch:=fp) I6.os I6.base I6.hok I6.bare λb hb=>by
   obtain ⟨f0,f1,f2,f3,f4,f5⟩:=a8 b hb;show ⟨f3,f1,f4,f5⟩
  obtain ⟨m,hn,_⟩:=I6.loc;show hR H5 s6 J6 q ⟨m,hn⟩ (I3.fpOk (qB5 _) I6.free)
 .refine thn (T.item (i9 X cs cl N' fp s3 O) rfl rfl rfl hc i [] s5 _ H5 _ I5 (a6 c2) c0 go) λr s6 ⟨u,hr,h6⟩=>?_;subst hr;refine qA0 (thn h6 λ_ s7 c1=>?_);obtain ⟨x,H7,I7,r7,y7,a5,cn⟩:=c1;have cm:=I7.pinned (a6 cn) (T.obj _ _ a5);refine qA0 (a4 (thn (hg _ s7 _ H7 x u _ cm r7 (hk x _ H7 _ (step x H7 y7))) λ_ s8 bc=>?_));obtain ⟨a3,H8,I8,q8,l8,k8⟩:=bc;refine qA0 (a4 (thn (ht _ s8 a3 H8 _ I8 q8) λb s9 b0=>?_));obtain ⟨H9,I9,q9⟩:=b0;have again:∀{s':Shared}{H':Hp},Inv (i9 X cs cl N' fp s3 O) ([]++aB fp s7.heap) a3 H' s'->(∃L,L<n/\W (i+1) L H') ->
    ∃L,L<n/\∃i H',Inv (i9 X cs cl N' fp s3 O) [] (inner N' σ) H' s'/\tn i s'.heap/\(∀b∈fp,H' b=none)/\W i L H':=λ{s' H'} I' zz69=>by
   obtain ⟨L,hm,w'⟩:=zz69;refine ⟨L,hm,i+1,H',(I'.unpinned).weak (by rw[l8]) (λj v e=>?_),T.keep _ _ _ a5 λb hb o e=>(I'.pin (b,o) (qE3 _ (qE3 _ (R9 hb e)))).1,λb hb=>?_,w'⟩
   .have hj:j<X.N.length:=by rw[<- I3.len];show (qA8.mp (fS e)).1
    rw[k8 j hj];show e
   .obtain ⟨o,e,d⟩:=T.obj _ _ a5 b hb;show (I'.pin (b,o) (qE3 _ (qE3 _ (R9 hb e)))).2.1
  cases b with
  | false=>
   have a7:∃L,L<n/\W (i+1) L H9:=q9;show qN6 ⟨rfl,again I9 a7⟩
  | true=>
   have a7:te a3 H9 _:=q9;refine qA0 (qA0 (a4 (thn (he _ s9 a3 H9 _ I9 a7) λv c4 ab=>?_)));obtain ⟨y,cc,cp,c3,ys,hD,hy,cj⟩:=ab;refine qA0 (a4 (thn (fH _ c4 a3 cc (.ref D) [y] (.ref D) [v] (λ_ H'=>∃L,L<n/\W (i+1) L H') cp rfl (.cons c3 .nil) ⟨D,ys,y,rfl,rfl,hD,hy,cj⟩) λ_ cx b3=>?_));obtain ⟨_,d0,ck,_,c5⟩:=b3;show qN6 (qN6 ⟨rfl,again ck c5⟩)
def fZ {R:Value->Addr->Result->Shared->Prop}{Q:V->Hp->Prop}(S:g5 X.env.scope cs X.N N') (hc:X.calm=true) (hg:∀cl ex s H,PG (i9 X cs cl N' ex s H) tg g) (hk:P8 X.N.length g) (ht:∀cl ex s H,PIf (i9 X cs cl N' ex s H) ifs tc) (he:∀cl ex s H,PE (i9 X cs cl N' ex s H) elt te) (a5:∀x c,cl.lookup x=some c->X.env.cells.lookup x=some c) (b5:∀x,(x,NameKind.free)∈cs.names->∃c,cl.lookup x=some c) (h:PIE X pins σ tg (λJ H1=>∀D,H1 D=none->vt J D g tc te (inner N' σ) H1 (Q (.ref D))) itv s2) (hR:∀(D C:Addr) (H':Hp) (s':Shared),Inv X pins σ H' s'->Q (.ref D) H'->(∃m,s'.heap.Ns C m)->E6 X pins H' C->R (.ref D) C (.ok .next) s'):
  wpAny (model X.prog X.w) X.A (newList []) (λa8 b4=>wpAny (model X.prog X.w) X.A (newFunctionEnv cs X.env.globals cl [] X.env.qual none .none (some X.env)) (λa4 b3=>
   codeAny (model X.prog X.w) X.A (.compStart (.ListComp elt [⟨tg,iter,ifs,0⟩] cs pos) 0 itv a8 { a4 with scope:=relabel cs X.env }) (R a8 a4.locals) b3) X.xe b4) X.xe s2:=by
 obtain ⟨it,fp,tn,J,H2,e,I2,T,b0,f2,hw⟩:=h;subst e;refine qR4 (wpAny_newFunctionEnv S.ncell (by intro y hy;simp at hy) (λh1 L O=>?_) S.kind);dsimp only at L O ⊢;have hD:=I2.hok.fresh (qB5 _);obtain ⟨W,⟨m0,w0⟩,turn⟩:=hw s2.heap.objs.size hD;have I3:Inv X pins σ (upd H2 s2.heap.objs.size (.lst [])) { s2 with heap:=s2.heap.push { cls:=.type "list",dict:=none,data:=.seq ([]:Jw).toArray } }:=I2.lnew (t':=s2.toks) .nil (qD2 _);have a3:∀b∈fp,b<s2.heap.objs.size:=λb hb=>by
  obtain ⟨o,e,_⟩:=T.obj 0 _ b0 b hb;show qB3 e
 have a6:∀b∈fp,E6 X pins (upd H2 s2.heap.objs.size (.lst [])) b:=λb hb=>by
  obtain ⟨f0,r⟩:=f2 b hb;show ⟨by rw[c8 (qC8 (a3 b hb))];show f0,r⟩
 have a7:∀b∈fp,b<(s2.heap.push { cls:=.type "list",dict:=none,data:=.seq ([]:Jw).toArray }).objs.size:=λb hb=>by rw[qH2];show qL8 (a3 b hb)
 have kp:∀b o,(s2.heap.push { cls:=.type "list",dict:=none,data:=.seq ([]:Jw).toArray }).get? b=some o->h1.get? b=some o:=λb o e=>O.extBut b o (qC8 (qB3 e)) (qA5 _ e);have I4:=uf (cs:=cs) (cl:=cl) (N':=N') (fp:=fp) (s4:={ s2 with heap:=h1,toks:=s2.toks+([]:List (Str×Value)).length }) S I3 a5 b5 a6 a7 kp L rfl rfl;have ab:tn 0 h1:=T.keep 0 _ _ b0 λb hb o e=>kp b o (qA5 _ e);have loop:=qr (R:=R (.ref s2.heap.objs.size) (s2.heap.push { cls:=.type "list",dict:=none,data:=.seq ([]:Jw).toArray }).objs.size) (D:=s2.heap.objs.size) (iter:=iter) (pos:=pos) (it:=it) (Q:=Q (.ref s2.heap.objs.size)) hc (hg cl fp _ _) hk (ht cl fp _ _) (he cl fp _ _) a5 I3 I4 T ab a6 a7 w0 turn λH' s' I' q n f=>hR _ _ H' s' I' q n f;show codeAny_compStart_list loop (T.self _ 0 _ _ _ ab loop)
def wA (S:g5 X.env.scope cs X.N N') (hc:X.calm=true) (hi:PI X tg iter wi) (hg:∀cl ex s H,PG (i9 X cs cl N' ex s H) tg g) (hk:P8 X.N.length g) (ht:∀cl ex s H,PIf (i9 X cs cl N' ex s H) ifs tc) (he:∀cl ex s H,PE (i9 X cs cl N' ex s H) elt te) (hs:∀x,foldedSetIterable iter X.env x=pure x:=by intro _;rfl):PE X (.ListComp elt [⟨tg,iter,ifs,0⟩] cs pos) (mf N' wi g tc te):=by
 intro pins s σ H Q I h;obtain ⟨cl,e,h1,h2,_⟩:=dP (env:=X.env) cs.names [] (λx hx hk=>I.ok.has x.1 (S.free x hx hk)) (λ_ _ z=>nomatch z);have L:closureFor cs X.env=pure cl:=by
  simp only [closureFor];rw[e];rfl
 rw[eval_ListComp];refine wpAny_comprehension_free (use:=none) rfl hs L S.kind S.loc (thn (hi pins s σ H _ I h) λv s1 q1=>thn q1 λa3 s2 q2=>?_);refine fZ (R:=λO C=>compPost (model X.prog X.w) X.A X.xe none (EP X pins σ Q) O C) (Q:=Q) S hc hg hk ht he h1 h2 q2 λD C H' s' I' q n f=>?_;obtain ⟨m,hn⟩:=n;obtain ⟨f0,f1,f2,f3,f4,f5⟩:=f;show ⟨m,hn,λh' sb=>⟨.ref D,H',I'.turned (t':=s'.toks) (λb o hb e=>sb.extBut b o hb e) f0 f1 f3 f4 f5,rfl,q⟩⟩
def wq {X:Cx}{cs:Scope}{N':Jk}{tg iter L:Expr}{O:Jx}{wi:TI}{g:TG}{tc:TT}{te:TE}{pos:Pos}{i:Nat}{y:Str}{py a3:Pos}(S:g5 X.env.scope cs X.N N') (hc:X.calm=true) (hi:PI X tg iter wi) (hg:∀cl ex s H,PG (i9 X cs cl N' ex s H) tg g) (hk:P8 X.N.length g) (ht:∀cl ex s H,PIf (i9 X cs cl N' ex s H) O tc) (he:∀cl ex s H,PE (i9 X cs cl N' ex s H) L te) (hN:X.N.Nodup) (hy:X.N[i]?=some y) (hl:Loc X.env.scope y) (b0:swapsWith (.ListComp L [⟨tg,iter,O,0⟩] cs pos) (some (.Name y py)) a3.line X.env=pure true:=by rfl) (hf:X.fn y=true\/X.env.scope.names.lookup y=some .local:=by first|show .inl rfl|show .inr rfl|assumption) (hs:∀x,foldedSetIterable iter X.env x=pure x:=by intro _;rfl):PS X (.Assign [.Name y py] (.ListComp L [⟨tg,iter,O,0⟩] cs pos) a3) (V9 (mf N' wi g tc te) (G8 i)):=by
 intro pins s σ H Q I h;obtain ⟨cl,e,h1,h2,_⟩:=dP (env:=X.env) cs.names [] (λx hx hk=>I.ok.has x.1 (S.free x hx hk)) (λ_ _ z=>nomatch z);have a4:closureFor cs X.env=pure cl:=by
  simp only [closureFor];rw[e];rfl
 rw[exec_Assign_Name_used _ _ _ _ b0];refine qA0 (wpAny_standAt (qA0 ?_))
 change wpAny _ _ (comprehension (.ListComp L [⟨tg,iter,O,0⟩] cs pos) cs X.env _ (newList []) false (eval iter X.env) (some (assign (.Name y py) X.env))>>=_) _ _ s;refine qA0 (thn (wpAny_comprehension_free (use:=some (assign (.Name y py) X.env)) (Q:=λ_ s'=>SP X pins Q .next s') rfl hs a4 S.kind S.loc (thn (hi pins s σ H _ I h) λv s1 q1=>thn q1 λb4 s2 q2=>?_)) λ_ s' q=>qN6 (qN6 q));refine fZ (R:=λa8 C=>compPost (model X.prog X.w) X.A X.xe (some (assign (.Name y py) X.env)) (λ_ s'=>SP X pins Q .next s') a8 C) (Q:=λx H1=>G8 i x σ H1 Q.nx) S hc hg hk ht he h1 h2 q2 λD C H' s' I' q n f=>?_;obtain ⟨m,hn⟩:=n;obtain ⟨f0,f1,f2,f3,f4,f5⟩:=f
 change wpAny _ _ (assign (.Name y py) X.env (.ref D)) _ _ _;refine wpAny_assign_Name (fB (v:=.ref D) (u:=.ref D) I' hN hy hl rfl (λb3 ab a5=>?_) hf);obtain ⟨a,sb,ha⟩:=a5;have a6:C≠a:=by
  rcases ha with rfl|ha
  .show f1
  .show λq=>f4 _ _ ha q.symm
 refine ⟨m,hn.sameBut sb a6,λh' a7=>?_⟩;show ⟨_,H',ab.turned (t':=b3.toks) (λb o hb e=>a7.extBut b o hb e) f0 f1 f3 f4 f5,q⟩
def Sq.same {K:Frag}(e:Same H H') (h:Sq K H t a xs):Sq K H' t a xs:=by
 unfold Sq at h ⊢
 split
 .rename_i ht;rw[qA2 ht]at h
  rcases h with (h|⟨o,h⟩)|h
  .show .inl (.inl (e _ _ h))
  .show .inl (.inr ⟨o,e _ _ h⟩)
  .show .inr h
 .rename_i ht;rw[qA4 ht]at h
  show e.seq h
def seqAt (K:Frag) (H:Hp) (p:Addr) (R:List V->Prop):Prop:=match H p with
 |some (.tup xs)=>R xs
 |some (.lst xs)=>R xs
 |_=>∃t xs,Sq K H t p xs/\R xs
def ItQ (K:Frag)(t:Bool)(a:Addr):It:=if t=true then Itt K a else Itl K a
def iSq (K:Frag)(q:TE):TI:=λσ H R=>q σ H λx H1=>∃a,x=.ref a/\∃t xs,Sq K H1 t a xs/\R (ItQ K t a) H1
def Ek (hl:PE X l tl):PI X tg l (iSq X.K tl):=by
 intro pins s σ H R I h;refine thn (hl pins s σ H _ I h) λv s1 a3=>?_;obtain ⟨x,H1,L,r1,q1⟩:=a3;obtain ⟨a,e,t,xs,hq,q⟩:=q1;subst e;cases r1;cases t with
 | true=>
  have O:SqT X.K H1 a xs:=by unfold Sq at hq;rw[qA2 rfl]at hq;show hq
  obtain ⟨its,rv,p,hz⟩:=L.tuple O;refine qP7 (show s1.heap.IsTuple a its.toArray from p) ?_;refine ⟨s1.heap.objs.size,[s1.heap.objs.size],_,Itt X.K a,H1,rfl,L.kept (t':=s1.toks) λb o e=>qA5 _ e,lU a _,⟨_,qC2 _ rfl,rfl,rfl⟩,λb hb=>?_,q⟩;have e:b=s1.heap.objs.size:=by simpa using hb
  subst e;show L.fpOk (qB5 _) (L.hok.fresh (qB5 _))
 | false=>
  have O:SqL X.K H1 a xs:=by unfold Sq at hq;rw[qA4 qA3]at hq;show hq
  obtain ⟨its,rv,p,hz⟩:=L.list O;refine qP8 p.isList ?_;refine ⟨s1.heap.objs.size,[s1.heap.objs.size],_,Itl X.K a,H1,rfl,L.kept (t':=s1.toks) λb o e=>qA5 _ e,nQ a _,⟨_,qC2 _ rfl,rfl,rfl⟩,λb hb=>?_,q⟩;have e:b=s1.heap.objs.size:=by simpa using hb
  subst e;show L.fpOk (qB5 _) (L.hok.fresh (qB5 _))
def lN:bootBuiltins "bool" = some (.type "bool"):=Zo
def dS:bootBuiltins "int" = some (.type "int"):=Zo
def bN:bootBuiltins "list" = some (.type "list"):=Zo
def y9:bootBuiltins "tuple" = some (.type "tuple"):=Zo
def dR:bootBuiltins "max" = some (.builtin "max"):=Zo
def Du:bootBuiltins "min" = some (.builtin "min"):=Zo
def tyO:Option HO->Option String
 |some (.lst _)=>some "list"
 |some (.tup _)=>some "tuple"
 |some (.dK _)=>some "dict"
 |_=>none
def tyB (H:Hp):V->Option String
 | .non=>some "NoneType"
 | .bl _=>some "bool"
 | .int _=>some "int"
 | .str _=>some "str"
 | .ref a=>tyO (H a)
 |_=>none
def w8 (A T:String):Option Bool:=
 if A=T then some true else if A = "bool" /\ T = "int" then some true
 else if (A = "NoneType" \/ A = "bool" \/ A = "int" \/ A = "str" \/ A = "list" \/ A = "tuple" \/ A = "dict")/\(T = "bool" \/ T = "int" \/ T = "list" \/ T = "tuple") then some false else none
def yF {K:Frag}(h:tyB H x=some A):O8 K H x (.type A):=by
 cases x with
 |non=>cases h;show .non
 |bl _=>cases h;show .bl _
 |int _=>cases h;show .int _
 |str _=>cases h;show .str _
 | ref a=>
  have h:tyO (H a)=some A:=h;cases e:H a with
  |none=>rw[e]at h;cases h
  | some o=>
   rw[e]at h;cases o <;> first | (cases h;show .lst e) | (cases h;show .tup e) | (cases h;show .dK e)|cases h
 |_=>cases h
def xp {K:Frag}(h:w8 A T=some b):PySem.W.kitOne K (.type A) (.type T)=some b:=by
 unfold w8 at h
 split at h
 .rename_i e;subst e;cases h
  unfold PySem.W.kitOne;rw[qA2 QX]
 .split at h
  .rename_i e;obtain ⟨rfl,rfl⟩:=e;cases h;with_unfolding_all rfl
  .split at h
   .rename_i h1 h2 e
    obtain ⟨e1,e2⟩:=e;cases h;rcases e1 with rfl|rfl|rfl|rfl|rfl|rfl|rfl <;> rcases e2 with rfl|rfl|rfl|rfl <;>
     first|show absurd rfl h1|show absurd ⟨rfl,rfl⟩ h2|with_unfolding_all rfl
   .cases h
def rIsi:List V->Hp->VK->Prop:=λxs H Q=>∃x T,xs = [x,.ty T]/\∃A,tyB H x=some A/\∃b,w8 A T=some b/\Q (.bl b) H
def F7:B0 X (.builtin "isinstance") rIsi:=by
 intro pins s σ H xs us Q I r h;obtain ⟨x,T,rfl,A,ty,b,e,q⟩:=h;obtain ⟨u,L,rfl,r1,O⟩:=vals2 r;have e2:L=Value.type T:=O;subst e2;show pQ I r1 (yF ty) (xp e) λtk=>⟨.bl b,H,I.tok tk,rfl,q⟩
def BE:w8 "bool" "bool" = some true:=QV
def BD:w8 "bool" "int" = some true:=QV
def BC:w8 "int" "bool" = some false:=QV
def BB:w8 "int" "int" = some true:=QV
def Bm:w8 "tuple" "tuple" = some true:=QV
def By:w8 "list" "list" = some true:=QV
def Bv:w8 "NoneType" "int" = some false:=QV
def Bw:w8 "NoneType" "bool" = some false:=QV
def Br:w8 "str" "int" = some false:=QV
def Bs:w8 "str" "bool" = some false:=QV
def Bz:w8 "list" "int" = some false:=QV
def BA:w8 "list" "bool" = some false:=QV
def Bp:w8 "tuple" "int" = some false:=QV
def Bq:w8 "tuple" "bool" = some false:=QV
def X2 {n:Nat}{i:Int}(h0:0<=i)(q:i<n):ixN n i=some i.toNat:=by unfold ixN;rw[qA2 h0,qA2 q]
def mem_getD {ms:Jg}{P:Int->Prop}(h:∀x∈ms,P x) (hi:i<ms.length):P (ms.getD i 0):=by
 have:ms.getD i 0=ms[i]:=by simp [hi]
 rw[this];show h _ (qK3 hi)
structure Runs (J:It) (n:Nat) (H1:Hp) (Y:Nat->V->Hp->Hp->Prop):Prop where
 go:∀i H,i<n->Same H1 H->J.go i H
 stop:∀H,Same H1 H->J.stop n H
 yld:∀i H x H',i<n->Same H1 H->J.yld i H x H'->Y i x H H'
def oz {K:Frag}(h:Sq K H1 t a xs) (h':Sq K H1 u b ys):
  Runs (ItZ K [(t,a),(u,b)]) (min xs.length ys.length) H1 λi x H H'=>∃p y z,x=.ref p/\H p=none/\H'=upd H p (.tup [y,z])/\xs[i]?=some y/\ys[i]?=some z:=by
 refine ⟨λi H hi s v L=>?_,λH s=>⟨λv L=>?_,?_⟩,λi H x H' hi s hy=>?_⟩
 .simp only [qB6,qD6,qO9]at L;rcases L with rfl|rfl
  .show ⟨xs,xs[i]'(qB0 hi (qL4 _ _)),Sq.same s h,QX⟩
  .show ⟨ys,ys[i]'(qB0 hi (qI2 _ _)),Sq.same s h',QX⟩
 .simp only [qB6,qD6,qO9]at L;rcases L with rfl|rfl
  .show ⟨xs,Sq.same s h⟩
  .show ⟨ys,Sq.same s h'⟩
 .rcases Nat.le_total xs.length ys.length with q|q
  .show ⟨(t,a),QX,xs,Sq.same s h,ox⟩
  .show ⟨(u,b),QX,ys,Sq.same s h',ox⟩
 .obtain ⟨p,zs,e1,e2,e3,O⟩:=hy;cases O with
  | cons r1 O=>
   cases O with
   | cons r2 O=>
    cases O;show ⟨p,_,_,e1,e2,e3,r1 xs (Sq.same s h),r2 ys (Sq.same s h')⟩
def oy {K:Frag}(h:Sq K H1 t a xs) (h':Sq K H1 u b ys) (L:Sq K H1 w c zs):
  Runs (ItZ K [(t,a),(u,b),(w,c)]) (min xs.length (min ys.length zs.length)) H1 λi x H H'=>∃p y z v,x=.ref p/\H p=none/\H'=upd H p (.tup [y,z,v])/\xs[i]?=some y/\ys[i]?=some z/\zs[i]?=some v:=by
 refine ⟨λi H hi s v hv=>?_,λH s=>⟨λv hv=>?_,?_⟩,λi H x H' hi s hy=>?_⟩
 .simp only [qB6,qD6,qO9]at hv;rcases hv with rfl|rfl|rfl
  .show ⟨xs,xs[i]'(qB0 hi (qL4 _ _)),Sq.same s h,QX⟩
  .show ⟨ys,ys[i]'(qB0 hi (qB1 (qI2 _ _) (qL4 _ _))),Sq.same s h',QX⟩
  .show ⟨zs,zs[i]'(qB0 hi (qB1 (qI2 _ _) (qI2 _ _))),Sq.same s L,QX⟩
 .simp only [qB6,qD6,qO9]at hv;rcases hv with rfl|rfl|rfl
  .show ⟨xs,Sq.same s h⟩
  .show ⟨ys,Sq.same s h'⟩
  .show ⟨zs,Sq.same s L⟩
 .have:min xs.length (min ys.length zs.length)=xs.length\/min xs.length (min ys.length zs.length)=ys.length\/min xs.length (min ys.length zs.length)=zs.length:=ox
  rcases this with q|q|q
  .show ⟨(t,a),QX,xs,Sq.same s h,ox⟩
  .show ⟨(u,b),QX,ys,Sq.same s h',ox⟩
  .show ⟨(w,c),QX,zs,Sq.same s L,ox⟩
 .obtain ⟨p,vs,e1,e2,e3,O⟩:=hy;cases O with
  | cons r1 O=>
   cases O with
   | cons r2 O=>
    cases O with
    | cons r3 O=>
     cases O;show ⟨p,_,_,_,e1,e2,e3,r1 xs (Sq.same s h),r2 ys (Sq.same s h'),r3 zs (Sq.same s L)⟩
structure Def (K:Frag) (mg:Jz) (x:Str) (st:Stmt) (ps:Jk) (f:Addr) (fd:FuncData):Prop where
 F:Fun K x x st f fd
 m:mg x=some (.ref f)
 b:Binds K fd ps []
def C8 {X:Cx}(K:Frag){es:Jx}{pos:Pos}{k:Nat}{t:TGs}(n:Nat)(hc:X.calm=true)(h:PGs X es t)(L:X.K=K:=by rfl)(hn:(assignEach es X.env).length=n:=by rfl)(q:(assignEach es X.env).findIdx? (·.1)=none:=by rfl):PG X (.Tuple es k pos) (mT K n t):=by subst L;show AF hc h hn q
def yR (L:TE) (q:TE):TE:=λσ H Q=>L σ H λx H1=>∃p,x=.ref p/\(∃xs,H1 p=some (.lst xs))/\q σ H1 λy H2=>match H2 p with
 |some (.lst xs)=>xs.length<sizeLine/\Q .non (upd H2 p (.lst (xs ++ [y])))
 |_=>False
def oU {X:Cx}{o e:Expr}{to te:TE}{apos L:Pos}(ho:PE X o to) (ha:PE X e te) (O:attributeBase o "append" X.env (eval o X.env)=eval o X.env:=by rfl) (a7:((backTo L (starEach [e] X.env)).all (λx=>!x.1)&&(backToKw L (keywordEach [] X.env)).all (λx=>x.1.isSome)
   && decide (([e]:Jx).length+([]:List Keyword).length+(if ([]:List Keyword).isEmpty then 0 else 1)<30))=true:=by rfl) (a3:(apos.endLine == L.line)=true:=by rfl) (hs:starEach [e] X.env=(false,eval e X.env)::starEach [] X.env:=by rfl):PE X (.Call (.Attribute o "append" apos) [e] [] L) (yR to te):=by
 intro pins s σ H Q I h;refine wpAny_Call_method_late O a7 a3 rfl (thn (ho pins s σ H _ I h) λv s1 a6=>?_);obtain ⟨x,H1,I1,r1,p,ex,⟨xs,e1⟩,q1⟩:=a6;subst ex;obtain ⟨h1,h2⟩:=nP (T := "list") I1 r1 (.inl ⟨rfl,xs,SqL.of e1⟩);refine ⟨"list","list.append",qR2,PySem.F.slot_list_append,PySem.F.type_list_append,h1,h2,?_⟩;have hA:=bz ha pa_nil hs L pins s1 σ H1 (λvs H2=>∃y,vs = [y]/\match H2 p with
  |some (.lst xs)=>xs.length<sizeLine/\Q .non (upd H2 p (.lst (xs ++ [y])))
  | _=>False) I1 (by
   have e:(λ(y:V) (H2:Hp)=>match H2 p with
     |some (.lst xs)=>xs.length<sizeLine/\Q .non (upd H2 p (.lst (xs ++ [y])))
     |_=>False)=λ(y:V) (H2:Hp)=>∃y',[y] = [y']/\match H2 p with
     |some (.lst xs)=>xs.length<sizeLine/\Q .non (upd H2 p (.lst (xs ++ [y'])))
     |_=>False:=by
    funext y H2
    show propext ⟨λq=>⟨y,rfl,q⟩,λa4=>by obtain ⟨y',e,q⟩:=a4;cases e;show q⟩
   rw[e]at q1;show q1)
 rw[hs]at hA ⊢;refine Calls.callWith_builtin rfl (Calls.evalArgs_plain ?_);refine thn hA λus s2 a5=>?_;obtain ⟨vs,H2,I2,r2,y,ev,q2⟩:=a5;subst ev;refine fH pins s2 σ H2 (.ref p) [y] v us Q I2 r1 r2 ?_
 split at q2
 .rename_i ys e2;show ⟨p,ys,y,rfl,rfl,e2,q2.1,q2.2⟩
 .show q2.elim
def vv (i j:Int):Prop:=0<=j/\(Builtin.Int.intBits i:Int)*j<=2^27
def xv {ns:Jg}(h:ns[i]?=some z):ns.getD i 0=z:=by rw[qA1,h];rfl
def L5 {ns:Jg}(h:i<ns.length):ns[i]?=some (ns.getD i 0):=by rw[qA1];simp [h]
end L2
namespace TP
open PySem L2
inductive W where
 |non|bl (b:Bool)|int (i:Int)|str (x:Str)|ty (n:String)|tup (ws:List W)|lst (ws:List W)|scr (ws:List W)
 |exc (c:Str) (i:Jv)|cls (c:Str)
abbrev JZ:=List W
def XD (F:Hp) (od:Option Addr):Option Int->Prop
 |none=>od=none
 |some i=>∃d,od=some d/\F d=some (.xd [("at",.int i)])
mutual
inductive Rep (K:Frag) (F:Hp):V->W->Prop where
 |non:Rep K F .non .non
 |bl {b:Bool}:Rep K F (.bl b) (.bl b)
 |int {i:Int}:Rep K F (.int i) (.int i)
 |str {x:Str}:Rep K F (.str x) (.str x)
 |ty {n:String}:Rep K F (.ty n) (.ty n)
 |tup {a:Addr}{vs:List V}{ws:JZ}:F a=some (.tup vs)->Reps K F vs ws->Rep K F (.ref a) (.tup ws)
 |lst {a:Addr}{vs:List V}{ws:JZ}:F a=some (.lst vs)->Reps K F vs ws->Rep K F (.ref a) (.lst ws)
 |scr {a:Addr}{vs:List V}{ws:JZ}:SqL K F a vs->Reps K F vs ws->Rep K F (.ref a) (.scr ws)
 |exc {a C:Addr}{o:Obj}{vs:Jy}{c:Str}{i:Jv}:F a=some (.ext λh=>h.get? a=some o)->o.cls=.ref C->o.data=.fields vs->PySem.W.nsIn K mainGlobals c=some (some (.ref C))->XD F o.dict i->Rep K F (.ref a) (.exc c i)
 |cls {C:Addr}{c:Str}:PySem.W.nsIn K mainGlobals c=some (some (.ref C))->Rep K F (.ref C) (.cls c)
inductive Reps (K:Frag) (F:Hp):List V->List W->Prop where
 |nil:Reps K F [] []
 |cons {v:V}{w:W}{vs:List V}{ws:JZ}:Rep K F v w->Reps K F vs ws->Reps K F (v::vs) (w::ws)
end
def rd (e:Same F F') (h:SqT K F a xs):SqT K F' a xs:=by
 rcases h with (h|⟨o,h⟩)|h
 .show .inl (.inl (e _ _ h))
 .show .inl (.inr ⟨o,e _ _ h⟩)
 .show .inr h
def XD.same (e:Same F F'):∀{i:Jv},XD F od i->XD F' od i:=by
 intro i h;cases i with
 |none=>show h
 |some _=>obtain ⟨d,q,L⟩:=h;show ⟨d,q,e _ _ L⟩
def Rep.same (e:Same F F') (r:Rep K F v w):Rep K F' v w:=
 @Rep.rec K F (λv w _=>Rep K F' v w) (λvs ws _=>Reps K F' vs ws) .non .bl .int .str .ty (λh _ r=>.tup (e _ _ h) r) (λh _ r=>.lst (e _ _ h) r) (λh _ r=>.scr (Same.seq e h) r) (λL h2 h3 O q=>.exc (e _ _ L) h2 h3 O (XD.same e q)) (λh=>.cls h) .nil (λ_ _ a b=>.cons a b) v w r
def Reps.same (e:Same F F') (r:Reps K F vs ws):Reps K F' vs ws:=
 @Reps.rec K F (λ_ _ _=>True) (λvs ws _=>Reps K F' vs ws) trivial trivial trivial trivial trivial (λ_ _ _=>trivial) (λ_ _ _=>trivial) (λ_ _ _=>trivial) (λ_ _ _ _ _=>trivial) (λ_=>trivial) .nil (λh _ _ b=>.cons (Rep.same e h) b) vs ws r
def Reps.ind {P:List V->List W->Prop}(h0:P [] []) (q:∀{v:V}{w:W}{vs:List V}{ws:JZ},Rep K F v w->Reps K F vs ws->P vs ws->P (v::vs) (w::ws)) (r:Reps K F vs ws):P vs ws:=
 @Reps.rec K F (λ_ _ _=>True) (λvs ws _=>P vs ws) trivial trivial trivial trivial trivial (λ_ _ _=>trivial) (λ_ _ _=>trivial) (λ_ _ _=>trivial) (λ_ _ _ _ _=>trivial) (λ_=>trivial) h0 (λh r _ b=>q h r b) vs ws r
def DH (K:Frag) (F:Hp) (v:V):W->Prop
 | .non=>v=.non
 | .bl b=>v=.bl b
 | .int i=>v=.int i
 | .str x=>v=.str x
 | .ty n=>v=.ty n
 | .tup ws=>∃a vs,v=.ref a/\F a=some (.tup vs)/\Reps K F vs ws
 | .lst ws=>∃a vs,v=.ref a/\F a=some (.lst vs)/\Reps K F vs ws
 | .scr ws=>∃a vs,v=.ref a/\SqL K F a vs/\Reps K F vs ws
 | .exc _ _=>True
 | .cls _=>True
def Rep.inv (r:Rep K F v w):DH K F v w:=
 @Rep.rec K F (λv w _=>DH K F v w) (λ_ _ _=>True) rfl rfl rfl rfl rfl (λh r _=>⟨_,_,rfl,h,r⟩) (λh r _=>⟨_,_,rfl,h,r⟩) (λh r _=>⟨_,_,rfl,h,r⟩) (λ_ _ _ _ _=>trivial) (λ_=>trivial) trivial (λ_ _ _ _=>trivial) v w r
def RepsI (K:Frag) (F:Hp) (vs:List V):List W->Prop
 | []=>vs = []
 |w::ws=>∃v us,vs=v::us/\Rep K F v w/\Reps K F us ws
def Reps.length (r:Reps K F vs ws):vs.length=ws.length:=
 Reps.ind (P:=λvs ws=>vs.length=ws.length) rfl (λ_ _ h=>congrArg (·+1) h) r
def Reps.get {i:Nat}(r:Reps K F vs ws):ws[i]?=some w->∃v,vs[i]?=some v/\Rep K F v w:=
 Reps.ind (P:=λvs ws=>∀(i:Nat) (w:W),ws[i]?=some w->∃v,vs[i]?=some v/\Rep K F v w) (λi w e=>by cases e) (λh _ b i w e=>by
  cases i with
  |zero=>cases e;show ⟨_,rfl,h⟩
  |succ i=>show b i w e) r i w
def Reps.get' {i:Nat}(r:Reps K F vs ws):vs[i]?=some v->∃w,ws[i]?=some w/\Rep K F v w:=
 Reps.ind (P:=λvs ws=>∀(i:Nat) (v:V),vs[i]?=some v->∃w,ws[i]?=some w/\Rep K F v w) (λi w e=>by cases e) (λh _ b i w e=>by
  cases i with
  |zero=>cases e;show ⟨_,rfl,h⟩
  |succ i=>show b i w e) r i v
def Reps.append (r:Reps K F vs ws) (s:Reps K F us xs):Reps K F (vs++us) (ws++xs):=
 Reps.ind (P:=λvs ws=>Reps K F (vs++us) (ws++xs)) s (λh _ b=>.cons h b) r
def Reps.take (n:Nat) (r:Reps K F vs ws):Reps K F (vs.take n) (ws.take n):=
 Reps.ind (P:=λvs ws=>∀n,Reps K F (vs.take n) (ws.take n)) (λn=>by simpa using .nil) (λh _ b n=>by
  cases n with
  |zero=>show .nil
  |succ n=>show .cons h (b n)) r n
def Reps.drop (n:Nat) (r:Reps K F vs ws):Reps K F (vs.drop n) (ws.drop n):=
 Reps.ind (P:=λvs ws=>∀n,Reps K F (vs.drop n) (ws.drop n)) (λn=>by simpa using .nil) (λh r b n=>by
  cases n with
  |zero=>show .cons h r
  |succ n=>show b n) r n
def Reps.reverse (r:Reps K F vs ws):Reps K F vs.reverse ws.reverse:=by
 induction r using Reps.rec (motive_1:=λ_ _ _=>True) with
 |nil=>show .nil
 |cons h _ _ q=>rw[qL7,qL7];show Reps.append q (.cons h .nil)
 |_=>trivial
def Reps.set (h:Rep K F v w) (i:Nat) (r:Reps K F vs ws):Reps K F (vs.set i v) (ws.set i w):=
 Reps.ind (P:=λvs ws=>∀i,Reps K F (vs.set i v) (ws.set i w)) (λ_=>.nil) (λq t b i=>by
  cases i with
  |zero=>show .cons h t
  |succ i=>show .cons q (b i)) r i
def Reps.snoc (r:Reps K F vs ws)(h:Rep K F v w):Reps K F (vs ++ [v]) (ws ++ [w]):=r.append (.cons h .nil)
mutual
def noL:W->Bool
 | .lst _=>false
 | .scr _=>false
 | .tup ws=>l9 ws
 |_=>true
def l9:List W->Bool
 | []=>true
 |w::ws=>noL w&&l9 ws
end
def isL:HO->Bool
 | .lst _=>true
 | .dT _=>true
 | .dK _=>true
 | .frz _ (.lst _)=>true
 |_=>false
def join (H0 G:Hp):Hp:=λa=>match H0 a with
 |some o=>if isL o then some o else G a
 |none=>G a
inductive Sl where
 |un|val (w:W)|par (w:W)|own (ws:JZ)|dic (ks:Jo)|dik (ks:Jg)|iop (p:Addr) (ws:JZ)|hz (w:W)
abbrev Rho:=List Sl
def eN (G:Hp):Hp:=λa=>match G a with
 |some o=>if isL o then none else some o
 |none=>none
def aF (h:Same G G'):Same (eN G) (eN G'):=λa o e=>by
 unfold eN at e ⊢;cases q:G a with
 |none=>rw[q]at e;cases e
 |some u=>rw[q]at e;rw[h a u q];show e
def sI:Same (eN G) G:=λa o e=>by
 unfold eN at e;cases q:G a with
 |none=>rw[q]at e;cases e
 | some u=>
  rw[q]at e;dsimp only at e;cases hl:isL u
  .rw[hl]at e;show e
  .rw[hl]at e;cases e
def SlR (K:Frag) (H0 G H:Hp):Sl->Option V->Prop
 | .un,_=>True
 | .val w,o=>∃v,o=some v/\Rep K G v w
 | .par w,o=>∃v,o=some v/\Rep K (join H0 G) v w
 | .own ws,o=>∃a vs,o=some (.ref a)/\H a=some (.lst vs)/\G a=none/\H0 a=none/\Reps K G vs ws
 | .dic ks,o=>∃(a:Addr) (kvs:List (List Key×V)),o=some (.ref a)/\H a=some (.dT kvs)/\G a=none/\H0 a=none/\kvs.map (·.1)=ks.map λk=>k.map Sum.inl
 | .dik ks,o=>∃(a:Addr) (kvs:List (Key×V)),o=some (.ref a)/\H a=some (.dK kvs)/\G a=none/\H0 a=none/\kvs.map (·.1)=ks.map Sum.inl
 | .iop p ws,o=>o=some (.ref p)/\∃vs,H0 p=some (.lst vs)/\Reps K G vs ws
 | .hz w,o=>∃v,o=some v/\Rep K (join H0 (eN G)) v w
structure PIv (K:Frag) (H0 G:Hp) (ρ:Rho) (σ:St) (H:Hp):Prop where
 g0:∀a o,H0 a=some o->isL o=false->G a=some o
 gl:∀a o,H0 a=some o->isL o=true->G a=none
 gh:Same G H
 hh:Same H0 H
 len:ρ.length=σ.length
 sl:∀(i:Nat) (x:Sl) (o:Option V),ρ[i]?=some x->σ[i]?=some o->SlR K H0 G H x o
 ne:∀(i j:Nat) (ws us:JZ) (a:Addr),i≠j->ρ[i]?=some (.own ws)->ρ[j]?=some (.own us)->σ[i]?=some (some (.ref a))->σ[j]?≠some (some (.ref a))
structure Ext (G H G' H':Hp):Prop where
 gg:Same G G'
 hh:Same H H'
 gh:Same G' H'
 keep:∀a o,H a=some o->isL o=true->G a=none->G' a=none
def Ext.refl (h:Same G H):Ext G H G H:=⟨Same.refl G,Same.refl H,h,λ_ _ _ _ e=>e⟩
def Ext.trans (a:Ext G H G1 H1) (b:Ext G1 H1 G2 H2):Ext G H G2 H2:=
 ⟨a.gg.trans b.gg,a.hh.trans b.hh,b.gh,λx o h l e=>b.keep x o (a.hh x o h) l (a.keep x o h l e)⟩
def w6 (h:Same G G'):Same (join H0 G) (join H0 G'):=λa o e=>by
 unfold join at e ⊢;cases q:H0 a with
 |none=>rw[q]at e;show h a o e
 | some u=>
  rw[q]at e;dsimp only at e ⊢;by_cases hl:isL u=true
  .rw[qA2 hl]at e ⊢;show e
  .rw[qA4 hl]at e ⊢;show h a o e
def PIv.G_join (I:PIv K H0 G ρ σ H):Same G (join H0 G):=λa o e=>by
 unfold join;cases q:H0 a with
 |none=>show e
 | some u=>
  dsimp only;by_cases hl:isL u=true
  .rw[I.gl a u q hl]at e;cases e
  .rw[qA4 hl];show e
def PIv.join_H (I:PIv K H0 G ρ σ H):Same (join H0 G) H:=λa o e=>by
 unfold join at e;cases q:H0 a with
 |none=>rw[q]at e;show I.gh a o e
 | some u=>
  rw[q]at e;dsimp only at e;by_cases hl:isL u=true
  .rw[qA2 hl]at e;cases e;show I.hh a _ q
  .rw[qA4 hl]at e;show I.gh a o e
def PIv.ext (I:PIv K H0 G ρ σ H) (x:Ext G H G' H'):PIv K H0 G' ρ σ H' where
 g0 a o e l:=x.gg a o (I.g0 a o e l)
 gl a o e l:=x.keep a o (I.hh a o e) l (I.gl a o e l)
 gh:=x.gh
 hh:=I.hh.trans x.hh
 len:=I.len
 sl i s o h1 h2:=by
  have:=I.sl i s o h1 h2
  cases s with
  |un=>trivial
  |val w=>obtain ⟨v,e,r⟩:=this;show ⟨v,e,r.same x.gg⟩
  |par w=>obtain ⟨v,e,r⟩:=this;show ⟨v,e,r.same (w6 x.gg)⟩
  | own ws=>
   obtain ⟨a,vs,e,h,g,h0,r⟩:=this;show ⟨a,vs,e,x.hh a _ h,x.keep a _ h rfl g,h0,r.same x.gg⟩
  | dic ks=>
   obtain ⟨a,kvs,e,h,g,h0,r⟩:=this;show ⟨a,kvs,e,x.hh a _ h,x.keep a _ h rfl g,h0,r⟩
  | dik ks=>
   obtain ⟨a,kvs,e,h,g,h0,r⟩:=this;show ⟨a,kvs,e,x.hh a _ h,x.keep a _ h rfl g,h0,r⟩
  | iop p ws=>
   obtain ⟨e,vs,h,r⟩:=this;show ⟨e,vs,h,r.same x.gg⟩
  |hz w=>obtain ⟨v,e,r⟩:=this;show ⟨v,e,r.same (w6 (aF x.gg))⟩
 ne:=I.ne
def cK (h:join H0 G a=some o) (l:isL o=false):G a=some o:=by
 unfold join at h;cases q:H0 a with
 |none=>rw[q]at h;show h
 | some u=>
  rw[q]at h;dsimp only at h;by_cases hl:isL u=true
  .rw[qA2 hl]at h;cases h;rw[hl]at l;cases l
  .rw[qA4 hl]at h;show h
def XD.clean:∀{i:Jv},XD (join H0 G) od i->XD G od i
 |none,h=>h
 |some _,⟨d,h1,h2⟩=>⟨d,h1,cK h2 rfl⟩
def Rep.clean (I:PIv K H0 G ρ σ H) (r:Rep K (join H0 G) v w):noL w=true->Rep K G v w:=
 @Rep.rec K (join H0 G) (λv w _=>noL w=true->Rep K G v w) (λvs ws _=>l9 ws=true->Reps K G vs ws) (λ_=>.non) (λ_=>.bl) (λ_=>.int) (λ_=>.str) (λ_=>.ty)
  (λh _ r n=>.tup (cK h rfl) (r n)) (λ_ _ _ n=>by cases n) (λ_ _ _ n=>by cases n) (λL O h3 h4 q _=>.exc (cK L rfl) O h3 h4 (XD.clean q)) (λh _=>.cls h) (λ_=>.nil)
  (λ_ _ a b n=>by rw[l9,qG5]at n;show .cons (a n.1) (b n.2)) v w r
def Reps.clean (I:PIv K H0 G ρ σ H) (r:Reps K (join H0 G) vs ws):l9 ws=true->Reps K G vs ws:=
 @Reps.rec K (join H0 G) (λ_ _ _=>True) (λvs ws _=>l9 ws=true->Reps K G vs ws) trivial trivial trivial trivial trivial (λ_ _ _=>trivial) (λ_ _ _=>trivial) (λ_ _ _=>trivial) (λ_ _ _ _ _=>trivial) (λ_=>trivial) (λ_=>.nil)
  (λh _ _ b n=>by rw[l9,qG5]at n;show .cons (Rep.clean I h n.1) (b n.2)) vs ws r
structure XW where
 cls:Str
 at_:Option Int
inductive R (α:Type) where
 |ok (a:α)|ex (e:XW)|stuck
def R.bind {α q:Type}(x:R α) (f:α->R q):R q:=match x with
 | .ok a=>f a
 | .ex e=>.ex e
 | .stuck=>.stuck
instance:Monad R where
 pure:=R.ok
 bind:=R.bind
@[simp] theorem R.ok_bind {α q:Type}(a:α) (f:α->R q):((R.ok a:R α)>>=f)=f a:=rfl
@[simp] theorem R.stuck_bind {α q:Type}(f:α->R q):((R.stuck:R α)>>=f)=.stuck:=rfl
@[simp] theorem R.ex_bind {α q:Type}(e:XW) (f:α->R q):((R.ex e:R α)>>=f)=.ex e:=rfl
@[simp] theorem R.pure_eq (a:α):(pure a:R α)=.ok a:=rfl
inductive Mode where
 |F|V|U|C|B
def Md (K:Frag) (H0 H G' H':Hp) (v:V) (w:W):Mode->Prop
 | .V=>Rep K G' v w
 | .U=>Rep K (join H0 G') v w
 | .F=>match w with
  | .lst ws=>∃a vs,v=.ref a/\H' a=some (.lst vs)/\G' a=none/\H a=none/\Reps K G' vs ws
  |w=>Rep K G' v w
 | .C=>Rep K G' v w\/∃a vs ws,v=.ref a/\w=.lst ws/\H' a=some (.lst vs)/\Reps K G' vs ws
 | .B=>Rep K (join H0 G') v w\/∃a vs ws,v=.ref a/\w=.lst ws/\H' a=some (.lst vs)/\Reps K G' vs ws
abbrev EXT:=XW->Hp->Prop
def Out {α q:Type}(EX:EXT) (G H:Hp) (md:α->q->Hp->Hp->Prop) (r:R α) (Q:q->Hp->Prop):Prop:=match r with
 | .ok w=>∀v G' H',Ext G H G' H'->md w v G' H'->Q v H'
 | .ex e=>∀H',Same H H'->EX e H'
 | .stuck=>False
abbrev mdW (K:Frag)(d:Mode)(H0 H:Hp):W->V->Hp->Hp->Prop:=λw v G' H'=>Md K H0 H G' H' v w d
abbrev mdB:Bool->Bool->Hp->Hp->Prop:=λb c _ _=>c=b
inductive MdA (K:Frag) (d:Mode) (H0 H G' H':Hp):List W->List V->Prop where
 |nil:MdA K d H0 H G' H' [] []
 |cons {w:W}{v:V}{ws:JZ}{vs:List V}:Md K H0 H G' H' v w d->MdA K d H0 H G' H' ws vs->MdA K d H0 H G' H' (w::ws) (v::vs)
def MdAI (K:Frag) (d:Mode) (H0 H G' H':Hp) (vs:List V):List W->Prop
 | []=>vs = []
 |w::ws=>∃v us,vs=v::us/\Md K H0 H G' H' v w d/\MdA K d H0 H G' H' ws us
abbrev mdA (K:Frag)(d:Mode)(H0 H:Hp):List W->List V->Hp->Hp->Prop:=λws vs G' H'=>MdA K d H0 H G' H' ws vs
def tM (K:Frag)(EX:EXT)(d:Mode)(m:Rho->R W):TE:=λσ H Q=>∃H0 G ρ,PIv K H0 G ρ σ H/\Out EX G H (mdW K d H0 H) (m ρ) Q
def tT (K:Frag)(EX:EXT)(m:Rho->R Bool):TT:=λσ H Q=>∃H0 G ρ,PIv K H0 G ρ σ H/\Out EX G H mdB (m ρ) Q
def tA (K:Frag)(EX:EXT)(d:Mode)(m:Rho->R JZ):TA:=λσ H Q=>∃H0 G ρ,PIv K H0 G ρ σ H/\Out EX G H (mdA K d H0 H) (m ρ) Q
def Out.bind {md:α->β->Hp->Hp->Prop}{q:γ->δ->Hp->Hp->Prop}{m:R α}{k:α->R γ}{Q:δ->Hp->Prop}{L:β->Hp->Prop}(o:Out EX G H q (m>>=k) Q) (h:∀x G1 H1 w,Ext G H G1 H1->md w x G1 H1->Out EX G1 H1 q (k w) Q->L x H1):Out EX G H md m L:=by
 cases m with
 | ok w=>
  intro v G' H' e d;refine h v G' H' w e d ?_;rw[R.ok_bind]at o
  revert o
  cases k w with
  |ok u=>show λo v2 G2 H2 e2 O=>o v2 G2 H2 (e.trans e2) O
  |ex x=>show λo H2 s2=>o H2 (e.hh.trans s2)
  |stuck=>show λo=>o
 |ex x=>show o
 |stuck=>show o
def Md.start (s:Same H H1) (h:Md K H0 H1 G2 H2 v w d):Md K H0 H G2 H2 v w d:=by
 cases d with
 | F=>
  cases w with
  |lst ws=>obtain ⟨a,vs,e,q,L,O,r⟩:=h;show ⟨a,vs,e,q,L,s.free O,r⟩
  |_=>show h
 |_=>show h
def Md.move (x:Ext G1 H1 G2 H2) (h:Md K H0 H G1 H1 v w d):Md K H0 H G2 H2 v w d:=by
 cases d with
 |V=>show Rep.same x.gg h
 |U=>show Rep.same (w6 x.gg) h
 | F=>
  cases w with
  |lst ws=>obtain ⟨a,vs,e,q,L,O,r⟩:=h;show ⟨a,vs,e,x.hh _ _ q,x.keep _ _ q rfl L,O,r.same x.gg⟩
  |non=>show Rep.same x.gg h
  |bl _=>show Rep.same x.gg h
  |int _=>show Rep.same x.gg h
  |str _=>show Rep.same x.gg h
  |ty _=>show Rep.same x.gg h
  |tup _=>show Rep.same x.gg h
  |scr _=>show Rep.same x.gg h
  |exc _ _=>show Rep.same x.gg h
  |cls _=>show Rep.same x.gg h
 | C=>
  rcases h with h|⟨a,vs,ws,e,e2,q,r⟩
  .show .inl (h.same x.gg)
  .show .inr ⟨a,vs,ws,e,e2,x.hh _ _ q,r.same x.gg⟩
 | B=>
  rcases h with h|⟨a,vs,ws,e,e2,q,r⟩
  .show .inl (h.same (w6 x.gg))
  .show .inr ⟨a,vs,ws,e,e2,x.hh _ _ q,r.same x.gg⟩
def Md.CB (I:PIv K H0 G1 ρ σ H1) (h:Md K H0 H G1 H1 v w .C):Md K H0 H G1 H1 v w .B:=by
 rcases h with h|h
 .show .inl (h.same I.G_join)
 .show .inr h
def sca:W->Bool
 | .tup _=>false
 | .scr _=>false
 | .lst _=>false
 |_=>true
def Md.sca (hs:sca w=true) (r:∀F,Rep K F v w) (d:Mode):Md K H0 H G1 H1 v w d:=by
 cases d with
 |V=>show r _
 |U=>show r _
 |C=>show .inl (r _)
 |B=>show .inl (r _)
 |F=>cases w <;> first|show r _|cases hs
def Md.repB (h:Md K H0 H G1 H1 v w .B)(n:∀us,w≠.lst us):Rep K (join H0 G1) v w:=Or.elim h id λq=>by obtain ⟨_,_,us,_,e,_⟩:=q;show absurd e (n us)
def Md.repC (h:Md K H0 H G1 H1 v w .C)(n:∀us,w≠.lst us):Rep K G1 v w:=Or.elim h id λq=>by obtain ⟨_,_,us,_,e,_⟩:=q;show absurd e (n us)
def Md.lstB (I:PIv K H0 G1 ρ σ H1) (h:Md K H0 H G1 H1 v (.lst ws) .B):∃a vs,v=.ref a/\H1 a=some (.lst vs)/\Reps K (join H0 G1) vs ws:=by
 rcases h with h|⟨a,vs,us,e,e2,h1,r⟩
 .obtain ⟨a,vs,e,s,r⟩:=h.inv;show ⟨a,vs,e,I.join_H _ _ s,r⟩
 .rw[W.lst.inj e2];show ⟨a,vs,e,h1,r.same I.G_join⟩
def Md.scrB (I:PIv K H0 G1 ρ σ H1) (h:Md K H0 H G1 H1 v (.scr ws) .B):∃a vs,v=.ref a/\SqL K H1 a vs/\Reps K (join H0 G1) vs ws:=by
 obtain ⟨a,vs,e,s,r⟩:=(h.repB λ_=>W.noConfusion).inv;show ⟨a,vs,e,Same.seq I.join_H s,r⟩
def Md.lstC (I:PIv K H0 G1 ρ σ H1) (h:Md K H0 H G1 H1 v (.lst ws) .C):∃a vs,v=.ref a/\H1 a=some (.lst vs)/\Reps K G1 vs ws:=by
 rcases h with h|⟨a,vs,us,e,e2,h1,r⟩
 .obtain ⟨a,vs,e,s,r⟩:=h.inv;show ⟨a,vs,e,I.gh _ _ s,r⟩
 .rw[W.lst.inj e2];show ⟨a,vs,e,h1,r⟩
def Md.tupB (I:PIv K H0 G1 ρ σ H1) (h:Md K H0 H G1 H1 v (.tup ws) .B):∃a vs,v=.ref a/\H1 a=some (.tup vs)/\Reps K (join H0 G1) vs ws:=by
 obtain ⟨a,vs,e,s,r⟩:=(h.repB λ_=>W.noConfusion).inv;show ⟨a,vs,e,I.join_H _ _ s,r⟩
def Md.tupC (I:PIv K H0 G1 ρ σ H1) (h:Md K H0 H G1 H1 v (.tup ws) .C):∃a vs,v=.ref a/\H1 a=some (.tup vs)/\Reps K G1 vs ws:=by
 obtain ⟨a,vs,e,s,r⟩:=(h.repC λ_=>W.noConfusion).inv;show ⟨a,vs,e,I.gh _ _ s,r⟩
def Md.intB (h:Md K H0 H G1 H1 v (.int i) .B):v=.int i:=(h.repB λ_=>W.noConfusion).inv
def Md.blB (h:Md K H0 H G1 H1 v (.bl i) .B):v=.bl i:=(h.repB λ_=>W.noConfusion).inv
def Md.strB (h:Md K H0 H G1 H1 v (.str i) .B):v=.str i:=(h.repB λ_=>W.noConfusion).inv
def Md.nonB (h:Md K H0 H G1 H1 v .non .B):v=.non:=(h.repB λ_=>W.noConfusion).inv
def Md.tyB (h:Md K H0 H G1 H1 v (.ty n) .B):v=.ty n:=(h.repB λ_=>W.noConfusion).inv
def wT (h:tM K EX .V m σ H Q):tM K EX .F m σ H Q:=by
 obtain ⟨H0,G,ρ,I,o⟩:=h;refine ⟨H0,G,ρ,I,?_⟩
 revert o
 cases m ρ with
 |ex e=>show id
 |stuck=>show id
 | ok w=>
  intro o v G' H' e d;cases w with
  | lst ws=>
   obtain ⟨a,vs,rfl,L,O,h3,r⟩:=d;have s1:Same G' (upd G' a (.lst vs)):=λb o q=>by rw[c8 (d8 q O)];show q
   refine o _ (upd G' a (.lst vs)) H' ⟨e.gg.trans s1,e.hh,λb o q=>?_,λb o q l g=>?_⟩ (.lst i7 (r.same s1))
   .by_cases hb:b=a
    .subst hb;rw[i7]at q;cases q;show L
    .rw[c8 hb]at q;show e.gh b o q
   .rw[c8 (d8 q h3)];show e.keep b o q l g
  |_=>show o v G' H' e d
def wQ (h:tM K EX .U m σ H Q):tM K EX .V m σ H Q:=by
 obtain ⟨H0,G,ρ,I,o⟩:=h;refine ⟨H0,G,ρ,I,?_⟩
 revert o
 cases m ρ with
 |ex e=>show id
 |stuck=>show id
 |ok w=>show λo v G' H' e d=>o v G' H' e (Rep.same (I.ext e).G_join d)
def wR (h:tM K EX .C m σ H Q):tM K EX .V m σ H Q:=by
 obtain ⟨H0,G,ρ,I,o⟩:=h;refine ⟨H0,G,ρ,I,?_⟩
 revert o
 cases m ρ with
 |ex e=>show id
 |stuck=>show id
 |ok w=>show λo v G' H' e d=>o v G' H' e (.inl d)
def wS (h:tM K EX .B m σ H Q):tM K EX .U m σ H Q:=by
 obtain ⟨H0,G,ρ,I,o⟩:=h;refine ⟨H0,G,ρ,I,?_⟩
 revert o
 cases m ρ with
 |ex e=>show id
 |stuck=>show id
 |ok w=>show λo v G' H' e d=>o v G' H' e (.inl d)
def wV (h:tM K EX .B m σ H Q):tM K EX .C m σ H Q:=by
 obtain ⟨H0,G,ρ,I,o⟩:=h;refine ⟨H0,G,ρ,I,?_⟩
 revert o
 cases m ρ with
 |ex e=>show id
 |stuck=>show id
 |ok w=>show λo v G' H' e d=>o v G' H' e (Md.CB (H:=H) (I.ext e) d)
def wU (h:tM K EX .C m σ H Q):tM K EX .F m σ H Q:=by
 obtain ⟨H0,G,ρ,I,o⟩:=h;refine ⟨H0,G,ρ,I,?_⟩
 revert o
 cases m ρ with
 |ex e=>show id
 |stuck=>show id
 | ok w=>
  intro o v G' H' e d;cases w with
  |lst ws=>obtain ⟨a,vs,rfl,q,L,O,r⟩:=d;show o _ G' H' e (.inr ⟨a,vs,ws,rfl,rfl,q,r⟩)
  |_=>show o v G' H' e (.inl d)
def chk (w:W):R W:=if noL w then .ok w else .stuck
def mE (n:noL w=true) (r:Rep K G1 v w):Md K H0 H G1 H1 v w .F:=by
 cases w with
 |lst ws=>cases n
 |_=>show r
def iO (hd:d=.F\/d=.V) (h:tM K EX d (λρ=>m ρ>>=chk) σ H Q):tM K EX .U m σ H Q:=by
 obtain ⟨H0,G,ρ,I,o⟩:=h;refine ⟨H0,G,ρ,I,Out.bind o λx G1 H1 w e L q=>?_⟩;unfold chk at q;by_cases n:noL w=true
 .rw [qA2 n]at q
  have r:=Rep.clean (I.ext e) L n;refine q x G1 H1 (Ext.refl e.gh) ?_;rcases hd with rfl|rfl
  .show mE n r
  .show r
 .rw[qA4 n]at q;show q.elim
def X8 (hs:sca w=true) (r:∀F,Rep K F v w) (h:tM K EX d (λ_=>.ok w) σ H Q):tC v σ H Q:=by
 obtain ⟨H0,G,ρ,I,o⟩:=h;show o v G H (Ext.refl I.gh) (Md.sca hs r d)
def b6 (d:Mode) (i:Nat):Rho->R W:=λρ=>match ρ[i]? with
 |some (.val w)=>(match d with | .F=>chk w|_=>.ok w)
 |some (.par w)=>(match d with | .F=>chk w | .V=>chk w | .C=>chk w|_=>.ok w)
 |some (.own ws)=>(match d with | .C=>.ok (.lst ws) | .B=>.ok (.lst ws)|_=>.stuck)
 |some (.iop _ ws)=>(match d with | .B=>.ok (.lst ws) | .U=>.ok (.lst ws)|_=>.stuck)
 |some (.hz w)=>(match d with | .B=>.ok w | .U=>.ok w|_=>.stuck)
 |_=>.stuck
def Out.chk {v:V}{md:W->α->Hp->Hp->Prop}(o:Out EX G H md (chk w) Q):noL w=true/\Out EX G H md (.ok w) Q:=by
 unfold TP.chk at o;by_cases n:noL w=true
 .rw[qA2 n]at o;show ⟨n,o⟩
 .rw[qA4 n]at o;show o.elim
def nq (h:tM K EX d (b6 d i) σ H Q):S9 i σ H Q:=by
 obtain ⟨H0,G,ρ,I,o⟩:=h;unfold b6 at o;cases e:ρ[i]? with
 |none=>rw[e]at o;show o.elim
 | some s=>
  rw[e]at o;have hi:i<σ.length:=by rw[<- I.len];show (qA8.mp e).1
  have es:σ[i]?=some σ[i]:=QX;have r:=I.sl i s _ e es;cases s with
  |un=>show o.elim
  | val w=>
   obtain ⟨v,q,r⟩:=r;refine ⟨v,by rw[es,q],?_⟩;cases d with
   |F=>obtain ⟨n,o⟩:=Out.chk (v:=v) o;show o v G H (Ext.refl I.gh) (mE n r)
   |V=>show o v G H (Ext.refl I.gh) r
   |U=>show o v G H (Ext.refl I.gh) (r.same I.G_join)
   |C=>show o v G H (Ext.refl I.gh) (.inl r)
   |B=>show o v G H (Ext.refl I.gh) (.inl (r.same I.G_join))
  | par w=>
   obtain ⟨v,q,r⟩:=r;refine ⟨v,by rw[es,q],?_⟩;cases d with
   |F=>obtain ⟨n,o⟩:=Out.chk (v:=v) o;show o v G H (Ext.refl I.gh) (mE n (Rep.clean I r n))
   |V=>obtain ⟨n,o⟩:=Out.chk (v:=v) o;show o v G H (Ext.refl I.gh) (Rep.clean I r n)
   |U=>show o v G H (Ext.refl I.gh) r
   |C=>obtain ⟨n,o⟩:=Out.chk (v:=v) o;show o v G H (Ext.refl I.gh) (.inl (Rep.clean I r n))
   |B=>show o v G H (Ext.refl I.gh) (.inl r)
  | own ws=>
   obtain ⟨a,vs,q,ha,O,h0,r⟩:=r;refine ⟨.ref a,by rw[es,q],?_⟩;cases d with
   |F=>show o.elim
   |V=>show o.elim
   |U=>show o.elim
   |C=>show o _ G H (Ext.refl I.gh) (.inr ⟨a,vs,ws,rfl,rfl,ha,r⟩)
   |B=>show o _ G H (Ext.refl I.gh) (.inr ⟨a,vs,ws,rfl,rfl,ha,r⟩)
  |dic ks=>show o.elim
  |dik ks=>show o.elim
  | hz w=>
   obtain ⟨v,q,r⟩:=r;refine ⟨v,by rw[es,q],?_⟩;have L:=r.same (w6 (H0:=H0) (sI (G:=G)));cases d with
   |F=>show o.elim
   |V=>show o.elim
   |C=>show o.elim
   |U=>show o v G H (Ext.refl I.gh) L
   |B=>show o v G H (Ext.refl I.gh) (.inl L)
  | iop p ws=>
   obtain ⟨q,vs,h0,r⟩:=r;refine ⟨.ref p,by rw[es,q],?_⟩;have L:Rep K (join H0 G) (.ref p) (.lst ws):=by
    refine .lst (vs:=vs) ?_ (r.same I.G_join);unfold join;rw[h0];rfl
   cases d with
   |F=>show o.elim
   |V=>show o.elim
   |U=>show o _ G H (Ext.refl I.gh) L
   |C=>show o.elim
   |B=>show o _ G H (Ext.refl I.gh) (.inl L)
def Op2 (K:Frag) (b d:Mode) (r:R2) (f:W->W->R W):Prop:=∀(EX:EXT) (H0 Hs G H:Hp) (ρ:Rho) (σ:St) (L q:Hp) (x y:V) (u v:W) (Q:VK),PIv K H0 G ρ σ H->Same Hs H->Md K H0 L G H x u b->Md K H0 q G H y v b ->
 Out EX G H (mdW K d H0 Hs) (f u v) Q->r x y H Q
def jC (hr:Op2 K b d r f) (h:tM K EX d (λρ=>ma ρ>>=λx=>mb ρ>>=λy=>f x y) σ H Q):tOp r (tM K EX b ma) (tM K EX b mb) σ H Q:=by
 obtain ⟨H0,G,ρ,I,o⟩:=h;refine ⟨H0,G,ρ,I,Out.bind o λx G1 H1 u e1 m1 q=>⟨H0,G1,ρ,I.ext e1,Out.bind q λy G2 H2 v e2 L O=>?_⟩⟩;show hr EX H0 H G2 H2 ρ σ H H1 x y u v Q ((I.ext e1).ext e2) (e1.hh.trans e2.hh) (m1.move e2) L O
def Op1 (K:Frag) (b d:Mode) (r:V->Hp->VK->Prop) (f:W->R W):Prop:=∀(EX:EXT) (H0 Hs G H:Hp) (ρ:Rho) (σ:St) (q:Hp) (x:V) (u:W) (Q:VK),PIv K H0 G ρ σ H->Same Hs H->Md K H0 q G H x u b ->
 Out EX G H (mdW K d H0 Hs) (f u) Q->r x H Q
def c_un (q:Op1 K b d r f) (h:tM K EX d (λρ=>ma ρ>>=λx=>f x) σ H Q):tUn r (tM K EX b ma) σ H Q:=by
 obtain ⟨H0,G,ρ,I,o⟩:=h;show ⟨H0,G,ρ,I,Out.bind o λx G1 H1 u e1 O L=>q EX H0 H G1 H1 ρ σ H x u Q (I.ext e1) e1.hh O L⟩
def fI (C:Int->Int->Prop) [∀i j,Decidable (C i j)] (g:Int->Int->W):W->W->R W
 | .int i,.int j=>if C i j then .ok (g i j) else .stuck
 |_,_=>.stuck
def fI0 (g:Int->Int->W):W->W->R W
 | .int i,.int j=>.ok (g i j)
 |_,_=>.stuck
def o8 [∀i j,Decidable (C i j)](hs:∀i j,sca (g i j)=true) (q:∀i j F,Rep K F (gv i j) (g i j)):Op2 K .B d (rI C gv) (fI C g):=by
 intro EX H0 Hs G H ρ σ Ha Hb x y u v Q I s O L o;cases u <;> first|show o.elim|skip
 all_goals (cases v <;> first|show o.elim|skip)
 rename_i i j
 have o':Out EX G H (mdW K d H0 Hs) (if C i j then R.ok (g i j) else .stuck) Q:=o;by_cases c:C i j
 .rw [qA2 c]at o'
  show ⟨i,j,O.intB,L.intB,c,o' _ G H (Ext.refl I.gh) (Md.sca (hs i j) (q i j) d)⟩
 .rw[qA4 c]at o';show o'.elim
def dq (hs:∀i j,sca (g i j)=true) (q:∀i j F,Rep K F (gv i j) (g i j)):Op2 K .B d (rI0 gv) (fI0 g):=by
 intro EX H0 Hs G H ρ σ Ha Hb x y u v Q I s O L o;cases u <;> first|show o.elim|skip
 all_goals (cases v <;> first|show o.elim|skip)
 rename_i i j
 show ⟨i,j,O.intB,L.intB,o _ G H (Ext.refl I.gh) (Md.sca (hs i j) (q i j) d)⟩
def fU (g:Int->W):W->R W
 | .int i=>.ok (g i)
 |_=>.stuck
def cF (hs:∀i,sca (g i)=true) (q:∀i F,Rep K F (gv i) (g i)):Op1 K .B d (rU gv) (fU g):=by
 intro EX H0 Hs G H ρ σ O x u Q I s L o;cases u <;> first|show o.elim|skip
 rename_i i
 show ⟨i,L.intB,o _ G H (Ext.refl I.gh) (Md.sca (hs i) (q i) d)⟩
def isN:W->Bool
 | .non=>true
 |_=>false
def aW (neg:Bool):W->W->R W
 |u,.non=>.ok (.bl (if neg then !isN u else isN u))
 |_,_=>.stuck
def pR (hb:b=.B\/b=.U\/b=.V\/b=.C) (h:Md K H0 Hs G1 H1 v w b):decide (v=.non)=isN w:=by
 have key:∀F,Rep K F v w->decide (v=.non)=isN w:=λF r=>by
  cases r <;> first|rfl | (apply qN7;intro z;cases z)
 rcases hb with rfl|rfl|rfl|rfl
 .rcases h with h|⟨a,vs,ws,rfl,rfl,_⟩
  .show key _ h
  .apply qN7;intro z;cases z
 .show key _ h
 .show key _ h
 .rcases h with h|⟨a,vs,ws,rfl,rfl,_⟩
  .show key _ h
  .apply qN7;intro z;cases z
def iK:Op2 K .B d (λx y H Q=>y=.non/\Q (.bl (decide (x=.non))) H) (aW false):=by
 intro EX H0 Hs G H ρ σ Ha O x y u v Q I s L q o;cases v <;> first|show o.elim|skip
 refine ⟨q.nonB,?_⟩;rw[pR (.inl rfl) L];show o _ G H (Ext.refl I.gh) (Md.sca rfl (λ_=>.bl) d)
def kP:Op2 K .B d (λx y H Q=>y=.non/\Q (.bl (!decide (x=.non))) H) (aW true):=by
 intro EX H0 Hs G H ρ σ Ha O x y u v Q I s L q o;cases v <;> first|show o.elim|skip
 refine ⟨q.nonB,?_⟩;rw[pR (.inl rfl) L];show o _ G H (Ext.refl I.gh) (Md.sca rfl (λ_=>.bl) d)
def toB:W->R Bool
 | .bl b=>.ok b
 |_=>.stuck
def jB (h:tT K EX (λρ=>ma ρ>>=toB) σ H Q):lX (tM K EX .B ma) σ H Q:=by
 obtain ⟨H0,G,ρ,I,o⟩:=h;refine ⟨H0,G,ρ,I,Out.bind o λx G1 H1 u e1 L q=>?_⟩;cases u <;> first|show q.elim|skip
 rename_i b
 show ⟨b,L.blB,q b G1 H1 (Ext.refl e1.gh) rfl⟩
def c_tB (h:tT K EX (λρ=>ma ρ>>=toB) σ H Q):tB (tM K EX .B ma) σ H Q:=jB h
def rAnd (a b:R Bool):R Bool:=a>>=λc=>if c then b else .ok false
def rOr (a b:R Bool):R Bool:=a>>=λc=>if c then .ok true else b
def mv (a:R Bool):R Bool:=a>>=λc=>.ok (!c)
def Fk (h:tT K EX (λρ=>rAnd (ma ρ) (mb ρ)) σ H Q):yS (tT K EX ma) (tT K EX mb) σ H Q:=by
 obtain ⟨H0,G,ρ,I,o⟩:=h;refine ⟨H0,G,ρ,I,Out.bind o λx G1 H1 u e1 L q=>?_⟩;cases L;cases x with
 |true=>show ⟨H0,G1,ρ,I.ext e1,q⟩
 |false=>show q false G1 H1 (Ext.refl e1.gh) rfl
def c_or (h:tT K EX (λρ=>rOr (ma ρ) (mb ρ)) σ H Q):tOr (tT K EX ma) (tT K EX mb) σ H Q:=by
 obtain ⟨H0,G,ρ,I,o⟩:=h;refine ⟨H0,G,ρ,I,Out.bind o λx G1 H1 u e1 L q=>?_⟩;cases L;cases x with
 |true=>show q true G1 H1 (Ext.refl e1.gh) rfl
 |false=>show ⟨H0,G1,ρ,I.ext e1,q⟩
def EZ (h:tT K EX (λρ=>mv (ma ρ)) σ H Q):yK (tT K EX ma) σ H Q:=by
 obtain ⟨H0,G,ρ,I,o⟩:=h;refine ⟨H0,G,ρ,I,Out.bind o λx G1 H1 u e1 L q=>?_⟩;cases L;show q _ G1 H1 (Ext.refl e1.gh) rfl
def bv (a b:R W):R W:=a>>=λx=>toB x>>=λc=>if c then b else .ok (.bl false)
def ip (a b:R W):R W:=a>>=λx=>toB x>>=λc=>if c then .ok (.bl true) else b
def mq (a:R W):R W:=a>>=λx=>toB x>>=λc=>.ok (.bl (!c))
def Ds (h:tM K EX d (λρ=>bv (ma ρ) (mb ρ)) σ H Q):uH (tM K EX .B ma) (tM K EX d mb) σ H Q:=by
 obtain ⟨H0,G,ρ,I,o⟩:=h;refine ⟨H0,G,ρ,I,Out.bind o λx G1 H1 u e1 m1 q=>?_⟩;cases u <;> first|show q.elim|skip
 rename_i b
 refine ⟨b,m1.blB,?_⟩;cases b with
 | true=>
  rw[qA2 rfl];refine ⟨H0,G1,ρ,I.ext e1,?_⟩;have L:Out EX G1 H1 (mdW K d H0 H) (mb ρ) Q:=q
  revert L
  cases mb ρ with
  |ok w=>show λL v G2 H2 e2 O=>L v G2 H2 e2 (O.start e1.hh)
  |ex _=>show id
  |stuck=>show id
 | false=>
  rw[qA4 qA3];show q _ G1 H1 (Ext.refl e1.gh) (Md.sca rfl (λ_=>.bl) d)
def Out.restart {Q:VK}(s:Same H H1) (o:Out EX G1 H1 (mdW K d H0 H) r Q):Out EX G1 H1 (mdW K d H0 H1) r Q:=by
 revert o
 cases r with
 |ok w=>show λo v G2 H2 e2 q=>o v G2 H2 e2 (q.start s)
 |ex _=>show id
 |stuck=>show id
def c_if (h:tM K EX d (λρ=>mc ρ>>=λc=>if c then ma ρ else mb ρ) σ H Q):tIf (tT K EX mc) (tM K EX d ma) (tM K EX d mb) σ H Q:=by
 obtain ⟨H0,G,ρ,I,o⟩:=h;refine ⟨H0,G,ρ,I,Out.bind o λx G1 H1 u e1 L q=>?_⟩;cases L;cases x with
 |true=>show ⟨H0,G1,ρ,I.ext e1,Out.restart e1.hh q⟩
 |false=>show ⟨H0,G1,ρ,I.ext e1,Out.restart e1.hh q⟩
def yd (hr:Op2 K b .B r f) (a3:Op2 K b d r' f') (h:tM K EX d (λρ=>ma ρ>>=λx=>mb ρ>>=λy=>f x y>>=λz=>toB z>>=λc=>if c then mc ρ>>=λu=>f' y u else .ok (.bl false)) σ H Q):
  (λσ H Q=>tM K EX b ma σ H λx H1=>tM K EX b mb σ H1 λy H2=>r x y H2 λz q=>∃k,z=.bl k/\if k=true then tM K EX b mc σ q λu H4=>r' y u H4 Q else Q (.bl false) q) σ H Q:=by
 obtain ⟨H0,G,ρ,I,o⟩:=h;refine ⟨H0,G,ρ,I,Out.bind o λx G1 H1 u e1 m1 o1=>⟨H0,G1,ρ,I.ext e1,Out.bind o1 λy G2 H2 v e2 m2 o2=>?_⟩⟩;have I2:=(I.ext e1).ext e2;refine hr EX H0 H G2 H2 ρ σ H H1 x y u v _ I2 (e1.hh.trans e2.hh) (m1.move e2) m2 (Out.bind o2 λz G3 q wz L m3 O=>?_);cases wz <;> first|show O.elim|skip
 rename_i k
 refine ⟨k,m3.blB,?_⟩;cases k with
 | true=>
  rw[qA2 rfl];refine ⟨H0,G3,ρ,I2.ext L,Out.bind (k:=λu=>f' v u) O λt G4 H4 wt e4 m4 o4=>?_⟩;show a3 EX H0 H G4 H4 ρ σ H1 q y t v wt Q ((I2.ext L).ext e4) (((e1.hh.trans e2.hh).trans L.hh).trans e4.hh) ((m2.move L).move e4) m4 o4
 | false=>
  rw[qA4 qA3];show O _ G3 q (Ext.refl L.gh) (Md.sca rfl (λ_=>.bl) d)
def Fa (h:tA K EX d (λ_=>.ok []) σ H QA):tNil σ H QA:=by
 obtain ⟨H0,G,ρ,I,o⟩:=h;show o [] G H (Ext.refl I.gh) .nil
def Dp (h:tA K EX d (λρ=>ma ρ>>=λx=>mr ρ>>=λxs=>.ok (x::xs)) σ H QA):gu (tM K EX d ma) (tA K EX d mr) σ H QA:=by
 obtain ⟨H0,G,ρ,I,o⟩:=h;refine ⟨H0,G,ρ,I,Out.bind o λx G1 H1 u e1 m1 L=>⟨H0,G1,ρ,I.ext e1,Out.bind L λxs G2 H2 us e2 O o2=>?_⟩⟩;refine o2 (x::xs) G2 H2 (Ext.refl e2.gh) (.cons (m1.move e2) ?_);have go:∀{ws:JZ}{vs:List V},MdA K d H0 H1 G2 H2 ws vs->MdA K d H0 H G2 H2 ws vs:=λ{ws vs} q=>by
  induction q with
  |nil=>show .nil
  |cons a _ ih=>show .cons (a.start e1.hh) ih
 show go O
def MdA.reps (h:MdA K .V H0 H G1 H1 ws vs):Reps K G1 vs ws:=
 @MdA.rec K .V H0 H G1 H1 (λws vs _=>Reps K G1 vs ws) .nil (λh _ b=>.cons h b) ws vs h
def MdA.repsU (h:MdA K .U H0 H G1 H1 ws vs):Reps K (join H0 G1) vs ws:=
 @MdA.rec K .U H0 H G1 H1 (λws vs _=>Reps K (join H0 G1) vs ws) .nil (λh _ b=>.cons h b) ws vs h
def wO (O:Same G H) (L:H p=none):Ext G H G (upd H p o):=
 ⟨Same.refl G,λb u q=>by rw[c8 (d8 q L)];show q,λb u q=>by rw[c8 (d8 (O b u q) L)];show O b u q,λ_ _ _ _ e=>e⟩
def cH (O:Same G H) (L:H p=none):Ext G H (upd G p o) (upd H p o):=by
 have gp:G p=none:=O.free L;refine ⟨λb u q=>by rw[c8 (d8 q gp)];show q,λb u q=>by rw[c8 (d8 q L)];show q,λb u q=>?_,λb u q l g=>?_⟩
 .by_cases hb:b=p
  .subst hb;rw[i7]at q ⊢;show q
  .rw[c8 hb]at q ⊢;show O b u q
 .rw[c8 (d8 q L)];show g
def Out.newL {Q:VK}(I:PIv K H0 G ρ σ H) (s:Same Hs H) (r:Reps K G vs ws) (q:H p=none) (o:Out EX G H (mdW K .F H0 Hs) (.ok (.lst ws)) Q):Q (.ref p) (upd H p (.lst vs)):=
 o _ G _ (wO I.gh q) ⟨p,vs,rfl,i7,I.gh.free q,s.free q,r⟩
def Out.newTF {Q:VK}(I:PIv K H0 G ρ σ H) (r:Reps K G vs ws) (L:H p=none) (o:Out EX G H (mdW K .F H0 Hs) (.ok (.tup ws)) Q):Q (.ref p) (upd H p (.tup vs)):=
 o _ (upd G p (.tup vs)) _ (cH I.gh L) (.tup i7 (r.same λb u q=>by rw[c8 (d8 q (I.gh.free L))];show q))
def lim (n:Nat)(w:W):R W:=if n<=1000 then .ok w else .stuck
def Out.lim {md:W->α->Hp->Hp->Prop}(o:Out EX G H md (lim n w) Q):n<=1000/\Out EX G H md (.ok w) Q:=by
 unfold TP.lim at o;by_cases n:n<=1000
 .rw[qA2 n]at o;show ⟨n,o⟩
 .rw[qA4 n]at o;show o.elim
def X1 (h:n<=1000):n<=sizeLine:=qB1 h QV
def EU (h:tM K EX .F (λρ=>ma ρ>>=λws=>lim ws.length (.tup ws)) σ H Q):qY (tA K EX .V ma) σ H Q:=by
 obtain ⟨H0,G,ρ,I,o⟩:=h;refine ⟨H0,G,ρ,I,Out.bind o λxs G1 H1 ws e1 O L=>?_⟩;obtain ⟨hl,o2⟩:=Out.lim L;have r:=MdA.reps O;show ⟨by rw[r.length];show X1 hl,λp q=>Out.newTF (I.ext e1) r q o2⟩
def Fb (h:tM K EX .F (λρ=>ma ρ>>=λws=>lim ws.length (.lst ws)) σ H Q):yL (tA K EX .V ma) σ H Q:=by
 obtain ⟨H0,G,ρ,I,o⟩:=h;refine ⟨H0,G,ρ,I,Out.bind o λxs G1 H1 ws e1 O L=>?_⟩;obtain ⟨hl,o2⟩:=Out.lim L;have r:=MdA.reps O;show ⟨by rw[r.length];show X1 hl,λp q=>Out.newL (I.ext e1) e1.hh r q o2⟩
def jg (h:H0 p=none):join H0 (upd G p o)=upd (join H0 G) p o:=by
 funext b
 by_cases hb:b=p
 .subst hb;unfold join;rw[h];dsimp only;rw[i7,i7]
 .rw [c8 hb];unfold join;cases H0 b with
  |none=>dsimp only;rw[c8 hb]
  |some u=>dsimp only;rw[c8 hb]
def Db (h:tM K EX .U (λρ=>ma ρ>>=λws=>lim ws.length (.tup ws)) σ H Q):qY (tA K EX .U ma) σ H Q:=by
 obtain ⟨H0,G,ρ,I,o⟩:=h;refine ⟨H0,G,ρ,I,Out.bind o λxs G1 H1 ws e1 m1 o1=>?_⟩;obtain ⟨hl,o2⟩:=Out.lim o1;have r:=MdA.repsU m1;have O:=I.ext e1;refine ⟨by rw[r.length];show X1 hl,λp L=>o2 _ (upd G1 p (.tup xs)) _ (cH O.gh L) ?_⟩
 change Rep K (join H0 (upd G1 p (.tup xs))) _ _;rw[jg (O.hh.free L)];show .tup i7 (r.same λb u q=>by rw[c8 (d8 (O.join_H b u q) L)];show q)
inductive Fl where
 |nx (ρ:Rho)|rt (w:W)|bk (ρ:Rho)|ct (ρ:Rho)
abbrev JX:=W->Rho->Option Rho
abbrev JK:=Rho->R Bool
abbrev JW:=Rho->R JZ
abbrev JV:=Rho->R Fl
abbrev JJ:=Rho->R W
def OutS (K:Frag) (EX:EXT) (d:Mode) (H0 G:Hp) (r:R Fl) (D:Ends):Prop:=match r with
 | .ok (.nx ρ)=>∀G' q H',Same G G'->PIv K H0 G' ρ q H'->D.nx q H'
 | .ok (.bk ρ)=>∀G' q H',Same G G'->PIv K H0 G' ρ q H'->D.bk q H'
 | .ok (.ct ρ)=>∀G' q H',Same G G'->PIv K H0 G' ρ q H'->D.ct q H'
 | .ok (.rt w)=>∀v G' H',Same G G'->Same G' H'->Same H0 H'->(∀a o,H0 a=some o->isL o=true->G' a=none)->Md K H0 H0 G' H' v w d->D.rt v H'
 | .ex e=>∀H',Same H0 H'->EX e H'
 | .stuck=>False
def tSt (K:Frag)(EX:EXT)(d:Mode)(m:JV):TS:=λD σ H=>∃H0 G ρ,PIv K H0 G ρ σ H/\OutS K EX d H0 G (m ρ) D
def OutS.move (s:Same G G1) (o:OutS K EX d H0 G r D):OutS K EX d H0 G1 r D:=by
 cases r with
 |stuck=>show o
 |ex e=>show o
 | ok f=>
  cases f with
  |nx L=>show λG' q H' s' O=>o G' q H' (s.trans s') O
  |bk L=>show λG' q H' s' O=>o G' q H' (s.trans s') O
  |ct L=>show λG' q H' s' O=>o G' q H' (s.trans s') O
  |rt w=>show λv G' H' s0 s1 s2 c md=>o v G' H' (s.trans s0) s1 s2 c md
def OutS.bind {md:α->β->Hp->Hp->Prop}(I:PIv K H0 G ρ σ H) (o:OutS K EX d H0 G (m>>=k) D) (h:∀x G1 H1 w,Ext G H G1 H1->md w x G1 H1->OutS K EX d H0 G1 (k w) D->Q1 x H1):Out EX G H md m Q1:=by
 cases m with
 |ok w=>show λv G' H' e q=>h v G' H' w e q (OutS.move e.gg o)
 |ex e=>show λH' s=>o H' (I.hh.trans s)
 |stuck=>show o
def c9 (m n:JV):JV:=λρ=>m ρ>>=λf=>match f with
 | .nx q=>n q
 | .rt w=>.ok (.rt w)
 | .bk q=>.ok (.bk q)
 | .ct q=>.ok (.ct q)
def Di (h:tSt K EX d (λρ=>.ok (.nx ρ)) D σ H):tNext D σ H:=by
 obtain ⟨H0,G,ρ,I,o⟩:=h;show o G σ H (Same.refl G) I
def EW (h:tSt K EX d (c9 m n) D σ H):yI (tSt K EX d m) (tSt K EX d n) D σ H:=by
 obtain ⟨H0,G,ρ,I,o⟩:=h;refine ⟨H0,G,ρ,I,?_⟩;unfold c9 at o
 revert o
 cases m ρ with
 |stuck=>show id
 |ex e=>show id
 | ok f=>
  cases f with
  |nx q=>show λo G' L H' s' O=>⟨H0,G',q,O,OutS.move s' o⟩
  |_=>show id
def Do (h:tSt K EX d (λρ=>.ok (.ct ρ)) D σ H):tCont D σ H:=by
 obtain ⟨H0,G,ρ,I,o⟩:=h;show o G σ H (Same.refl G) I
def xZ (h:tSt K EX d (λ_=>.stuck) D σ H):tNever D σ H:=by
 obtain ⟨H0,G,ρ,I,o⟩:=h;show o
def vg (h:tSt K EX d (λρ=>m ρ>>=λw=>.ok (.rt w)) D σ H):lY (tM K EX d m) D σ H:=by
 obtain ⟨H0,G,ρ,I,o⟩:=h;refine ⟨H0,G,ρ,I,OutS.bind I o λx G1 H1 w e1 O L=>?_⟩;have q:=I.ext e1;show L x G1 H1 (Same.refl _) e1.gh q.hh q.gl (O.start I.hh)
def x8 (d:Mode) (i:Nat):JV:=λρ=>match ρ[i]? with
 |some (.own ws)=>.ok (.rt (.lst ws))
 |_=>b6 d i ρ>>=λw=>.ok (.rt w)
def uh (hd:d=.F\/d=.V) (h:tSt K EX d (x8 d i) D σ H):lY (S9 i) D σ H:=by
 obtain ⟨H0,G,ρ,I,o⟩:=h;unfold x8 at o;by_cases O:∃ws,ρ[i]?=some (.own ws)
 .obtain ⟨ws,e⟩:=O;rw[e]at o;have hi:i<σ.length:=by rw[<- I.len];show (qA8.mp e).1
  have es:σ[i]?=some σ[i]:=QX;obtain ⟨a,vs,ev,ha,L,h0,r⟩:=I.sl i _ _ e es;refine ⟨.ref a,by rw[es,ev],?_⟩;rcases hd with rfl|rfl
  .show o _ G H (Same.refl _) I.gh I.hh I.gl ⟨a,vs,rfl,ha,L,h0,r⟩
  .have s1:Same G (upd G a (.lst vs)):=λb o q=>by rw[c8 (d8 q L)];show q
   refine o _ (upd G a (.lst vs)) H s1 (λb o q=>?_) I.hh (λb u q l=>?_) (.lst i7 (r.same s1))
   .by_cases hb:b=a
    .subst hb;rw[i7]at q;cases q;show ha
    .rw[c8 hb]at q;show I.gh b o q
   .rw[c8 (d8 q h0)];show I.gl b u q l
 .have o':OutS K EX d H0 G (b6 d i ρ>>=λw=>.ok (.rt w)) D:=by
   revert o
   split
   .rename_i ws e;show absurd ⟨ws,e⟩ O
   .show id
  have c:lY (tM K EX d (b6 d i)) D σ H:=vg (m:=b6 d i) ⟨H0,G,ρ,I,o'⟩;show nq c
def PIv.setV (I:PIv K H0 G ρ σ H) (r:Rep K G v w):PIv K H0 G (ρ.set i (.val w)) (σ.set i (some v)) H where
 g0:=I.g0
 gl:=I.gl
 gh:=I.gh
 hh:=I.hh
 len:=by rw[qE9,qE9];show I.len
 sl j x o h1 h2:=by
  by_cases q:i=j
  .subst q;rw[qD3]at h1 h2;simp only [qN9]at h1 h2
   split at h1 <;> split at h2 <;> simp only [qG1,reduceCtorEq]at h1 h2
   subst h1;subst h2;show ⟨v,rfl,r⟩
  .rw[qB7 q]at h1 h2;show I.sl j x o h1 h2
 ne a b ws us c hab h1 h2 h3 h4:=by
  have na:i≠a:=by
   rintro rfl;rw[qD3]at h1;simp only [qN9]at h1
   split at h1 <;> simp at h1
  have nb:i≠b:=by
   rintro rfl;rw[qD3]at h2;simp only [qN9]at h2
   split at h2 <;> simp at h2
  rw[qB7 na]at h1 h3;rw[qB7 nb]at h2 h4;show I.ne a b ws us c hab h1 h2 h3 h4
def PIv.setU (I:PIv K H0 G ρ σ H) (r:Rep K (join H0 G) v w):PIv K H0 G (ρ.set i (.par w)) (σ.set i (some v)) H where
 g0:=I.g0
 gl:=I.gl
 gh:=I.gh
 hh:=I.hh
 len:=by rw[qE9,qE9];show I.len
 sl j x o h1 h2:=by
  by_cases q:i=j
  .subst q;rw[qD3]at h1 h2;simp only [qN9]at h1 h2
   split at h1 <;> split at h2 <;> simp only [qG1,reduceCtorEq]at h1 h2
   subst h1;subst h2;show ⟨v,rfl,r⟩
  .rw[qB7 q]at h1 h2;show I.sl j x o h1 h2
 ne a b ws us c hab h1 h2 h3 h4:=by
  have na:i≠a:=by
   rintro rfl;rw[qD3]at h1;simp only [qN9]at h1
   split at h1 <;> simp at h1
  have nb:i≠b:=by
   rintro rfl;rw[qD3]at h2;simp only [qN9]at h2
   split at h2 <;> simp at h2
  rw[qB7 na]at h1 h3;rw[qB7 nb]at h2 h4;show I.ne a b ws us c hab h1 h2 h3 h4
def PIv.setO (I:PIv K H0 G ρ σ H) (ha:H a=some (.lst vs)) (hg:G a=none) (h0:H0 a=none) (r:Reps K G vs ws) (nw:∀(j:Nat) (us:JZ),ρ[j]?=some (Sl.own us)->σ[j]?≠some (some (V.ref a))):PIv K H0 G (ρ.set i (.own ws)) (σ.set i (some (.ref a))) H where
 g0:=I.g0
 gl:=I.gl
 gh:=I.gh
 hh:=I.hh
 len:=by rw[qE9,qE9];show I.len
 sl j x o h1 h2:=by
  by_cases L:i=j
  .subst L;rw[qD3]at h1 h2;simp only [qN9]at h1 h2
   split at h1 <;> split at h2 <;> simp only [qG1,reduceCtorEq]at h1 h2
   subst h1;subst h2;show ⟨a,vs,rfl,ha,hg,h0,r⟩
  .rw[qB7 L]at h1 h2;show I.sl j x o h1 h2
 ne p q ws' us c hab h1 h2 h3 h4:=by
  by_cases O:i=p
  .subst O;rw[qB7 hab]at h2 h4;rw[qD3]at h3;simp only [qN9]at h3
   split at h3 <;> simp only [qG1,reduceCtorEq,V.ref.injEq]at h3
   subst h3;show nw q us h2 h4
  .rw [qB7 O]at h1 h3
   by_cases hq:i=q
   .subst hq;rw[qD3]at h4;simp only [qN9]at h4
    split at h4 <;> simp only [qG1,reduceCtorEq,V.ref.injEq]at h4
    subst h4;show nw p ws' h1 h3
   .rw [qB7 hq]at h2 h4
    show I.ne p q ws' us c hab h1 h2 h3 h4
def P0:W->Sl
 | .lst ws=>.own ws
 |w=>.val w
def De (h:tSt K EX d (λρ=>m ρ>>=λw=>.ok (.nx (ρ.set i (.val w)))) D σ H):V9 (tM K EX .V m) (G8 i) D σ H:=by
 obtain ⟨H0,G,ρ,I,o⟩:=h;show ⟨H0,G,ρ,I,OutS.bind I o λx G1 H1 w e1 L q=>q G1 _ H1 (Same.refl _) ((I.ext e1).setV L)⟩
def Df (h:tSt K EX d (λρ=>m ρ>>=λw=>.ok (.nx (ρ.set i (.par w)))) D σ H):V9 (tM K EX .U m) (G8 i) D σ H:=by
 obtain ⟨H0,G,ρ,I,o⟩:=h;show ⟨H0,G,ρ,I,OutS.bind I o λx G1 H1 w e1 L q=>q G1 _ H1 (Same.refl _) ((I.ext e1).setU L)⟩
def qy (h:tSt K EX d (λρ=>m ρ>>=λw=>.ok (.nx (ρ.set i (P0 w)))) D σ H):V9 (tM K EX .F m) (G8 i) D σ H:=by
 obtain ⟨H0,G,ρ,I,o⟩:=h;refine ⟨H0,G,ρ,I,OutS.bind I o λx G1 H1 w e1 m1 L=>?_⟩;have O:=I.ext e1;cases w with
 | lst ws=>
  obtain ⟨a,vs,rfl,h1,h2,h3,r⟩:=m1;refine L G1 _ H1 (Same.refl _) (O.setO h1 h2 (I.hh.free h3) r λj us q z=>?_);obtain ⟨b,a3,eb,hb,_⟩:=I.sl j _ _ q z;cases eb;rw[h3]at hb;cases hb
 |non=>show L G1 _ H1 (Same.refl _) (O.setV m1)
 |bl _=>show L G1 _ H1 (Same.refl _) (O.setV m1)
 |int _=>show L G1 _ H1 (Same.refl _) (O.setV m1)
 |str _=>show L G1 _ H1 (Same.refl _) (O.setV m1)
 |ty _=>show L G1 _ H1 (Same.refl _) (O.setV m1)
 |tup _=>show L G1 _ H1 (Same.refl _) (O.setV m1)
 |scr _=>show L G1 _ H1 (Same.refl _) (O.setV m1)
 |exc _ _=>show L G1 _ H1 (Same.refl _) (O.setV m1)
 |cls _=>show L G1 _ H1 (Same.refl _) (O.setV m1)
instance:DecidableEq Mode:=λa b=>by cases a <;> cases b <;> first|show isTrue rfl|show isFalse (by intro h;cases h)
def Gt (K:Frag) (e:Mode) (g:TG) (mg:JX):Prop:=∀(H0 Hs G:Hp) (ρ:Rho) (σ:St) (H:Hp) (v:V) (w:W) (q:Rho) (Q:St->Hp->Prop),PIv K H0 G ρ σ H->Md K H0 Hs G H v w e->mg w ρ=some q ->
 (∀L,PIv K H0 G q L H->Q L H)->g v σ H Q
def Gts (K:Frag) (e:Mode) (g:TGs) (mg:List W->Rho->Option Rho):Prop:=∀(H0 G:Hp) (ρ:Rho) (σ:St) (H:Hp) (vs:List V) (ws:JZ) (q:Rho) (Q:St->Hp->Prop),PIv K H0 G ρ σ H->Reps K (if e=.V then G else join H0 G) vs ws->mg ws ρ=some q ->
 (∀L,PIv K H0 G q L H->Q L H)->g vs σ H Q
def gN (e:Mode)(i:Nat):JX:=λw ρ=>some (ρ.set i (if e=.V then .val w else .par w))
def h9:Gt K .U (G8 i) (gN .U i):=λH0 Hs G ρ σ H v w q Q I m e h=>by
 cases e;show h _ (I.setU m)
def gsNil:List W->Rho->Option Rho
 | [],ρ=>some ρ
 |_,_=>none
def l4 (f:JX) (g:List W->Rho->Option Rho):List W->Rho->Option Rho
 |w::ws,ρ=>(f w ρ).bind (g ws)
 | [],_=>none
def D0:Gts K e gNil gsNil:=λH0 G ρ σ H vs ws q Q I r e h=>by
 cases r with
 |nil=>cases e;show ⟨rfl,h _ I⟩
 |cons _ _=>cases e
def j8 (he:e=.V\/e=.U) (h1:Gt K e t f) (h2:Gts K e u g):Gts K e (mU t u) (l4 f g):=λH0 G ρ σ H vs ws O Q I r q h=>by
 cases r with
 |nil=>cases q
 | cons a b=>
  unfold l4 at q;obtain ⟨L,q1,q2⟩:=Option.bind_eq_some_iff.mp q;refine ⟨_,_,rfl,h1 H0 H G ρ σ H _ _ L _ I ?_ q1 λa3 I1=>h2 H0 G L a3 H _ _ O Q I1 b q2 h⟩;rcases he with rfl|rfl
  .show a
  .show a
def gT (n:Nat) (g:List W->Rho->Option Rho):W->Rho->Option Rho
 | .tup ws,ρ=>if ws.length=n then g ws ρ else none
 |_,_=>none
def F5 (he:e=.V\/e=.U) (h:Gts K e u g):Gt K e (mT K n u) (gT n g):=λH0 Hs G ρ σ H v w L Q I m q k=>by
 cases w <;> first|cases q|skip
 rename_i ws
 have O:(if ws.length=n then g ws ρ else none)=some L:=q;by_cases hn:ws.length=n
 .rw [qA2 hn]at O
  rcases he with rfl|rfl
  .obtain ⟨a,vs,e,s,r⟩:=Rep.inv m;show ⟨a,vs,e,SqT.of (I.gh _ _ s),by rw[r.length];show hn,h H0 G ρ σ H _ ws L Q I (by rw[qA2 rfl];show r) O k⟩
  .obtain ⟨a,vs,e,s,r⟩:=Rep.inv m;show ⟨a,vs,e,SqT.of (I.join_H _ _ s),by rw[r.length];show hn,h H0 G ρ σ H _ ws L Q I (by rw[qA4 (by intro z;cases z)];show r) O k⟩
 .rw[qA4 hn]at O;cases O
def toR {α:Type}:Option α->R α
 |some a=>.ok a
 |none=>.stuck
def PIv.own_upd (I:PIv K H0 G ρ σ H) (e:ρ[i]?=some (.own ws)) (es:σ[i]?=some (some (.ref a))) (r:Reps K G vs' ws'):PIv K H0 G (ρ.set i (.own ws')) σ (upd H a (.lst vs')):=by
 obtain ⟨a',vs,ev,ha,hg,h0,_⟩:=I.sl i _ _ e es;cases ev;refine ⟨I.g0,I.gl,λb o q=>by rw[c8 (d8 q hg)];show I.gh b o q,λb o q=>by rw[c8 (d8 q h0)];show I.hh b o q,by rw[qE9];show I.len,λj x o h1 h2=>?_,λp q a7 us c a6 h1 h2 h3 h4=>?_⟩
 .by_cases hj:i=j
  .subst hj;rw[qD3]at h1;simp only [qN9]at h1
   split at h1 <;> simp only [qG1,reduceCtorEq]at h1
   subst h1;rw[es]at h2;cases h2;show ⟨a,vs',rfl,i7,hg,h0,r⟩
  .rw [qB7 hj]at h1
   have:=I.sl j x o h1 h2
   cases x with
   | own us=>
    obtain ⟨b,L,eb,hb,a3,a4,rb⟩:=this;subst eb;have O:b≠a:=by
     rintro rfl;show I.ne i j ws us b hj e h1 es h2
    show ⟨b,L,rfl,by rw[c8 O];show hb,a3,a4,rb⟩
   | dic ks=>
    obtain ⟨b,L,eb,hb,a3,a4,rb⟩:=this;have O:b≠a:=by
     rintro rfl;rw[ha]at hb;cases hb
    show ⟨b,L,eb,by rw[c8 O];show hb,a3,a4,rb⟩
   | dik ks=>
    obtain ⟨b,L,eb,hb,a3,a4,rb⟩:=this;have O:b≠a:=by
     rintro rfl;rw[ha]at hb;cases hb
    show ⟨b,L,eb,by rw[c8 O];show hb,a3,a4,rb⟩
   |un=>show this
   |val _=>show this
   |par _=>show this
   |iop _ _=>show this
   |hz _=>show this
 .have key:∀{k:Nat}{us:JZ},(ρ.set i (.own ws'))[k]?=some (.own us)->∃L,ρ[k]?=some (.own L):=λ{k us} hk=>by
   by_cases a5:i=k
   .subst a5;show ⟨ws,e⟩
   .rw[qB7 a5]at hk;show ⟨us,hk⟩
  obtain ⟨w1,k1⟩:=key h1;obtain ⟨w2,k2⟩:=key h2;show I.ne p q w1 w2 c a6 k1 k2 h3 h4
def PIv.own_at {i:Nat}(I:PIv K H0 G ρ σ H) (e:ρ[i]?=some (.own ws)):∃a vs,σ[i]?=some (some (.ref a))/\H a=some (.lst vs)/\G a=none/\H0 a=none/\Reps K G vs ws:=by
 have hi:i<σ.length:=by rw[<- I.len];show (qA8.mp e).1
 have es:σ[i]?=some σ[i]:=QX;obtain ⟨a,vs,q,r⟩:=I.sl i _ _ e es;show ⟨a,vs,by rw[es,q],r⟩
def K6 (i:Nat) (m:JJ):JV:=λρ=>match ρ[i]? with
 |some (.own ws)=>m ρ>>=λw=>if ws.length<1000 then .ok (.nx (ρ.set i (.own (ws ++ [w])))) else .stuck
 |_=>.stuck
def Fj (h:tSt K EX d (K6 i m) D σ H):lZ (yR (S9 i) (tM K EX .V m)) D σ H:=by
 obtain ⟨H0,G,ρ,I,o⟩:=h;unfold K6 at o
 split at o
 .rename_i ws e
  obtain ⟨a,vs,es,ha,hg,h0,r⟩:=I.own_at e;refine ⟨.ref a,es,a,rfl,⟨vs,ha⟩,H0,G,ρ,I,OutS.bind I o λx G1 H1 w e1 O q=>?_⟩;by_cases hl:ws.length<1000
  .rw [qA2 hl]at q
   have L:=e1.hh a _ ha;dsimp only;rw[L];dsimp only;have hlen:vs.length=ws.length:=r.length;show ⟨qB0 (by omega:vs.length<1000) QV,q G1 σ _ (Same.refl _) ((I.ext e1).own_upd e es ((r.same e1.gg).snoc O))⟩
  .rw[qA4 hl]at q;show q.elim
 .show o.elim
def iX (i:Nat) (q me:JJ):JV:=λρ=>match ρ[i]? with
 | some (.own ws)=>me ρ>>=λw=>q ρ>>=λk=>(match k with
  | .int k=>(match ixN ws.length k with
   |some j=>.ok (.nx (ρ.set i (.own (ws.set j w))))
   |none=>.stuck)
  |_=>.stuck)
 |_=>.stuck
def EV (h:tSt K EX d (iX i mk me) D σ H):V9 (tM K EX .V me) (gSub (S9 i) (tM K EX .B mk) rSetL) D σ H:=by
 obtain ⟨H0,G,ρ,I,o⟩:=h;unfold iX at o
 split at o
 .rename_i ws e
  obtain ⟨a,vs,es,ha,hg,h0,r⟩:=I.own_at e;refine ⟨H0,G,ρ,I,OutS.bind I o λx G1 H1 w e1 m1 O=>⟨.ref a,es,H0,G1,ρ,I.ext e1,OutS.bind (I.ext e1) O λy G2 H2 k e2 m2 L=>?_⟩⟩;cases k <;> first|show L.elim|skip
  rename_i k
  dsimp only at L;cases q:ixN ws.length k with
  |none=>rw[q]at L;show L.elim
  | some j=>
   rw[q]at L;refine ⟨a,vs,k,j,rfl,m2.intB,e2.hh _ _ (e1.hh _ _ ha),by rw[r.length];show q,?_⟩;show L G2 σ _ (Same.refl _) (((I.ext e1).ext e2).own_upd e es (Reps.set (Rep.same e2.gg m1) j ((r.same e1.gg).same e2.gg)))
 .show o.elim
def jb (i:Nat) (f:Int->Int->Int) (m:JJ):JV:=λρ=>b6 .B i ρ>>=λx=>m ρ>>=λy=>match x,y with
 | .int a,.int b=>.ok (.nx (ρ.set i (.val (.int (f a b)))))
 |_,_=>.stuck
def Fi (h:tSt K EX d (jb i f m) D σ H):yQ i (tM K EX .B m) (ipI f) D σ H:=by
 obtain ⟨H0,G,ρ,I,o⟩:=h;unfold jb at o;have c:tM K EX .B (b6 .B i) σ H (λx H1=>∃G1 w,Ext G H G1 H1/\Md K H0 H G1 H1 x w .B/\OutS K EX d H0 G1 (m ρ>>=λy=>match w,y with
   | .int a,.int b=>.ok (.nx (ρ.set i (.val (.int (f a b)))))
   |_,_=>.stuck) D):=⟨H0,G,ρ,I,OutS.bind I o λx G1 H1 w e1 m1 q=>⟨G1,w,e1,m1,q⟩⟩
 obtain ⟨v,es,G1,w,e1,m1,q⟩:=nq c;have O:=I.ext e1;refine ⟨v,es,H0,G1,ρ,O,OutS.bind O q λy G2 H2 u e2 m2 L=>?_⟩;cases w <;> first|show L.elim|skip
 cases u <;> first|show L.elim|skip
 rename_i a b
 show ⟨a,b,m1.intB,m2.intB,L G2 _ H2 (Same.refl _) ((O.ext e2).setV .int)⟩
def mIf (c:JK)(m n:JV):JV:=λρ=>c ρ>>=λb=>if b then m ρ else n ρ
def Fc (h:tSt K EX d (mIf c m n) D σ H):yM (tT K EX c) (tSt K EX d m) (tSt K EX d n) D σ H:=by
 obtain ⟨H0,G,ρ,I,o⟩:=h;refine ⟨H0,G,ρ,I,OutS.bind I o λx G1 H1 w e1 L q=>?_⟩;cases L;cases x with
 |true=>show ⟨H0,G1,ρ,I.ext e1,q⟩
 |false=>show ⟨H0,G1,ρ,I.ext e1,q⟩
def frz (i:Nat) (ρ:Rho):Rho:=match ρ[i]? with
 |some (.own ws)=>ρ.set i (.val (.lst ws))
 |_=>ρ
def PIv.frz (I:PIv K H0 G ρ σ H):∃G',Same G G'/\PIv K H0 G' (frz i ρ) σ H:=by
 unfold TP.frz
 split
 .rename_i ws e
  obtain ⟨a,vs,es,ha,hg,h0,r⟩:=I.own_at e;have s1:Same G (upd G a (.lst vs)):=λb o q=>by rw[c8 (d8 q hg)];show q
  refine ⟨upd G a (.lst vs),s1,?_⟩;have I1:PIv K H0 G (ρ.set i .un) σ H:=by
   refine ⟨I.g0,I.gl,I.gh,I.hh,by rw[qE9];show I.len,λj x o L O=>?_,λp q a8 us c b0 L O h3 h4=>?_⟩
   .by_cases hj:i=j
    .subst hj;rw[qD3]at L;simp only [qN9]at L
     split at L <;> simp only [qG1,reduceCtorEq]at L
     subst L;trivial
    .rw[qB7 hj]at L;show I.sl j x o L O
   .have na:i≠p:=by
     rintro rfl;rw[qD3]at L;simp only [qN9]at L
     split at L <;> simp at L
    have nb:i≠q:=by
     rintro rfl;rw[qD3]at O;simp only [qN9]at O
     split at O <;> simp at O
    rw[qB7 na]at L;rw[qB7 nb]at O;show I.ne p q a8 us c b0 L O h3 h4
  have I2:PIv K H0 (upd G a (.lst vs)) (ρ.set i .un) σ H:=by
   refine ⟨λb o q l=>s1 b o (I.g0 b o q l),λb o q l=>by rw[c8 (d8 q h0)];show I.gl b o q l,λb o q=>?_,I.hh,I1.len,λj x o L O=>?_,I1.ne⟩
   .by_cases hb:b=a
    .subst hb;rw[i7]at q;cases q;show ha
    .rw[c8 hb]at q;show I.gh b o q
   .have:=I1.sl j x o L O
    cases x with
    |un=>trivial
    |val w=>obtain ⟨v,e1,r1⟩:=this;show ⟨v,e1,r1.same s1⟩
    |par w=>obtain ⟨v,e1,r1⟩:=this;show ⟨v,e1,r1.same (w6 s1)⟩
    | own us=>
     obtain ⟨b,a5,eb,hb,a4,a6,rb⟩:=this;subst eb;have a7:i≠j:=by
      rintro rfl;rw[qD3]at L;simp only [qN9]at L
      split at L <;> simp at L
     rw[qB7 a7]at L;have a3:b≠a:=by
      rintro rfl;show I.ne i j ws us b a7 e L es O
     show ⟨b,a5,rfl,hb,by rw[c8 a3];show a4,a6,rb.same s1⟩
    | dic ks=>
     obtain ⟨b,a5,eb,hb,a4,a6,rb⟩:=this;have a3:b≠a:=by
      rintro rfl;rw[ha]at hb;cases hb
     show ⟨b,a5,eb,hb,by rw[c8 a3];show a4,a6,rb⟩
    | dik ks=>
     obtain ⟨b,a5,eb,hb,a4,a6,rb⟩:=this;have a3:b≠a:=by
      rintro rfl;rw[ha]at hb;cases hb
     show ⟨b,a5,eb,hb,by rw[c8 a3];show a4,a6,rb⟩
    |iop p us=>obtain ⟨e1,b3,ab,r1⟩:=this;show ⟨e1,b3,ab,r1.same s1⟩
    |hz w=>obtain ⟨v,e,r⟩:=this;show ⟨v,e,r.same (w6 (aF s1))⟩
  have I3:=I2.setV (i:=i) (v:=.ref a) (w:=.lst ws) (.lst i7 (r.same s1));have e3:σ.set i (some (V.ref a))=σ:=by
   apply qN0;intro j;by_cases hj:i=j
   .subst hj;rw[es,qD3];simp only [qN9];rw[qA2 (qA8.mp es).1]
   .rw[qB7 hj]
  rw[e3,List.set_set]at I3;show I3
 .show ⟨G,Same.refl G,I⟩
def Fe (h:tSt K EX d (λρ=>m (frz i ρ)) D σ H):tSt K EX d m D σ H:=by
 obtain ⟨H0,G,ρ,I,o⟩:=h;obtain ⟨G',s,q⟩:=I.frz (i:=i);show ⟨H0,G',_,q,OutS.move s o⟩
section
variable {K:Frag}{EX:EXT}{H0 G H G1 H1 G2 H2:Hp}{ρ:Rho}{σ:St}{d:Mode}{D:Ends}
structure Z7 (K:Frag) (e:Mode) (H0 Z G:Hp) (J:It) (ws:JZ):Prop where
 go:∀i H,i<ws.length->Same Z H->J.go i H
 stop:∀H,Same Z H->J.stop ws.length H
 yld:∀i H x H' w,ws[i]?=some w->Same Z H->J.yld i H x H'->∀G2 ρ σ,PIv K H0 G2 ρ σ H->Same G G2->∃G3,Ext G2 H G3 H'/\Md K H0 H G3 H' x w e
def jJ (K:Frag) (EX:EXT) (lp:Bool) (e:Mode) (H0 G H:Hp) (r:R JZ) (q:It->Hp->Prop):Prop:=match r with
 | .ok ws=>∀J G' H',Ext G H G' H'->Z7 K e H0 (if lp then join H0 G' else H') G' J ws->q J H'
 | .ex x=>∀H',Same H H'->EX x H'
 | .stuck=>False
def tIt (K:Frag)(EX:EXT)(lp:Bool)(e:Mode)(m:JW):TI:=λσ H q=>∃H0 G ρ,PIv K H0 G ρ σ H/\jJ K EX lp e H0 G H (m ρ) q
def B2 (mg:JX) (mb:JV):List W->Rho->R Fl
 | [],ρ=>.ok (.nx ρ)
 | w::ws,ρ=>toR (mg w ρ)>>=λL=>mb L>>=λf=>match f with
  | .nx q=>B2 mg mb ws q
  | .ct q=>B2 mg mb ws q
  | .bk q=>.ok (.nx q)
  | .rt w=>.ok (.rt w)
def Ff (hg:Gt K e g mg) (h:tSt K EX d (λρ=>mi ρ>>=λws=>B2 mg mb ws ρ) D σ H):
  yN (tIt K EX true e mi) g (tSt K EX d mb) D σ H:=by
 obtain ⟨H0,G,ρ,I,o⟩:=h;refine ⟨H0,G,ρ,I,?_⟩;replace o:OutS K EX d H0 G (mi ρ>>=λws=>B2 mg mb ws ρ) D:=o
 revert o
 cases mi ρ with
 |stuck=>show id
 |ex x=>show λo H' s=>o H' (I.hh.trans s)
 | ok ws=>
  intro o J G1 H1 e1 T;have o1:OutS K EX d H0 G1 (B2 mg mb ws ρ) D:=OutS.move e1.gg o;refine ⟨λi m σ H=>m=ws.length-i/\i<=ws.length/\∃G2 L,Same G1 G2/\PIv K H0 G2 L σ H/\OutS K EX d H0 G2 (B2 mg mb (ws.drop i) L) D,⟨_,rfl,qD2 _,G1,ρ,Same.refl _,I.ext e1,o1⟩,?_⟩;rintro i m a4 Hh ⟨rfl,hi,G2,L,s2,I2,o2⟩;have hz:Same (join H0 G1) Hh:=(w6 s2).trans I2.join_H;by_cases a5:i<ws.length
  .refine .inr ⟨T.go i Hh a5 hz,λa6 H'=>∃G4 O,Same G1 G4/\PIv K H0 G4 O a6 H'/\OutS K EX d H0 G4 (B2 mg mb (ws.drop (i+1)) O) D,λa6 H' a7=>by obtain ⟨G4,O,s4,I4,o4⟩:=a7;show ⟨ws.length-(i+1),ox,rfl,a5,G4,O,s4,I4,o4⟩,λx H' y=>?_⟩;obtain ⟨G3,e3,m3⟩:=T.yld i Hh x H' ws[i] QX hz y G2 L a4 I2 s2;rw[qJ9 a5]at o2;unfold B2 at o2;cases q:mg ws[i] L with
   |none=>rw[q]at o2;show o2.elim
   | some a3=>
    rw[q]at o2;refine hg H0 Hh G3 L a4 H' x _ a3 _ (I2.ext e3) m3 q λa6 I'=>⟨H0,G3,a3,I',?_⟩;have o3:OutS K EX d H0 G3 (mb a3>>=λf=>match f with
     | .nx L=>B2 mg mb (ws.drop (i+1)) L
     | .ct L=>B2 mg mb (ws.drop (i+1)) L
     | .bk L=>.ok (.nx L)
     | .rt w=>.ok (.rt w)) D:=OutS.move e3.gg o2
    revert o3
    have s3:Same G1 G3:=s2.trans e3.gg;cases mb a3 with
    |stuck=>show id
    |ex x=>show id
    | ok f=>
     cases f with
     |nx O=>show λo4 G4 a8 H4 s4 I4=>⟨G4,O,s3.trans s4,I4,OutS.move s4 o4⟩
     |ct O=>show λo4 G4 a8 H4 s4 I4=>⟨G4,O,s3.trans s4,I4,OutS.move s4 o4⟩
     |bk O=>show id
     |rt w=>show id
  .have e:i=ws.length:=ox;subst e;refine .inl ⟨T.stop Hh hz,?_⟩;rw[List.drop_length]at o2;show o2 G2 a4 Hh (Same.refl _) I2
def E9 (c:JK) (b:JV):Nat->Rho->Option (R Fl)
 |0,_=>none
 | n+1,ρ=>match c ρ with
  | .ok false=>some (.ok (.nx ρ))
  | .ok true=>(match b ρ with
   | .ok (.nx ρ')=>E9 c b n ρ'
   | .ok (.ct ρ')=>E9 c b n ρ'
   | .ok (.bk ρ')=>some (.ok (.nx ρ'))
   | .ok (.rt w)=>some (.ok (.rt w))
   | .ex e=>some (.ex e)
   | .stuck=>some .stuck)
  | .ex e=>some (.ex e)
  | .stuck=>some .stuck
def Z0:∀(n:Nat) (ρ:Rho) (r:R Fl),E9 c b n ρ=some r->∀m,n<=m->E9 c b m ρ=some r:=by
 intro n
 induction n with
 |zero=>intro ρ r h;cases h
 | succ n L=>
  intro ρ r h m hm;obtain ⟨k,rfl⟩:∃k,m=k+1:=⟨m-1,ox⟩;have hk:=Nat.le_of_succ_le_succ hm;unfold E9 at h ⊢
  revert h
  cases c ρ with
  |ex e=>show id
  |stuck=>show id
  | ok t=>
   cases t with
   |false=>show id
   | true=>
    cases b ρ with
    |ex e=>show id
    |stuck=>show id
    | ok f=>
     cases f with
     |nx q=>show λh=>L q r h k hk
     |ct q=>show λh=>L q r h k hk
     |bk q=>show id
     |rt w=>show id
open Classical in
def J5 (c:JK)(b:JV):JV:=λρ=>if h:∃r n,E9 c b n ρ=some r then h.choose else .stuck
def fM (h:E9 c b n ρ=some r):J5 c b ρ=r:=by
 unfold J5;have q:∃r n,E9 c b n ρ=some r:=⟨r,n,h⟩;rw[dif_pos q];obtain ⟨m,hm⟩:=q.choose_spec;have a:=Z0 n ρ r h (max n m) (Nat.le_max_left _ _);have b:=Z0 m ρ _ hm (max n m) (Nat.le_max_right _ _);rw[a]at b;show (Option.some.inj b).symm
def xY (h:tSt K EX d (J5 c b) D σ H):nT (tT K EX c) (tSt K EX d b) D σ H:=by
 obtain ⟨H0,G,ρ,I,o⟩:=h;by_cases hx:∃r n,E9 c b n ρ=some r
 .obtain ⟨r,n,hn⟩:=hx;rw[fM hn]at o;refine ⟨λm a4 Hh=>∃G2 a3,Same G G2/\PIv K H0 G2 a3 a4 Hh/\E9 c b m a3=some r,⟨n,G,ρ,Same.refl _,I,hn⟩,?_⟩;rintro m a4 Hh ⟨G2,a3,s2,I2,L⟩;have o2:OutS K EX d H0 G2 r D:=OutS.move s2 o;refine ⟨H0,G2,a3,I2,?_⟩;cases m with
  |zero=>cases L
  | succ m=>
   unfold E9 at L
   revert L
   cases c a3 with
   |stuck=>intro L;cases L;show o2
   |ex x=>intro L;cases L;show λH' s=>o2 H' (I2.hh.trans s)
   | ok t=>
    cases t with
    | false=>
     intro L;cases L;intro v G3 H3 e3 q;cases q;rw[qA4 qA3];show o2 G3 a4 H3 e3.gg (I2.ext e3)
    | true=>
     intro L v G3 H3 e3 q;cases q;rw[qA2 rfl];refine ⟨λa5 H'=>∃G4 O,Same G G4/\PIv K H0 G4 O a5 H'/\E9 c b m O=some r,λa5 H' a6=>by obtain ⟨G4,O,s4,I4,h4⟩:=a6;show ⟨m,qV3 m,G4,O,s4,I4,h4⟩,H0,G3,a3,I2.ext e3,?_⟩;have o3:OutS K EX d H0 G3 r D:=OutS.move e3.gg o2;have s3:Same G G3:=s2.trans e3.gg
     revert L
     cases b a3 with
     |stuck=>intro L;cases L;show o3
     |ex x=>intro L;cases L;show o3
     | ok f=>
      cases f with
      |nx O=>show λL G4 a7 H4 s4 I4=>⟨G4,O,s3.trans s4,I4,L⟩
      |ct O=>show λL G4 a7 H4 s4 I4=>⟨G4,O,s3.trans s4,I4,L⟩
      |bk O=>intro L;cases L;show o3
      |rt w=>intro L;cases L;show o3
 .unfold J5 at o;rw[dif_neg hx]at o;show o.elim
def Md.whole (I:PIv K H0 G ρ σ H) (h:Md K H0 Hs G H v w .B):Rep K H v w:=by
 rcases h with h|⟨a,vs,ws,rfl,rfl,h1,r⟩
 .show h.same I.join_H
 .show .lst h1 (r.same I.gh)
def MdA.whole (I:PIv K H0 G ρ σ H) (h:MdA K .B H0 Hs G H ws vs):Reps K H vs ws:=
 @MdA.rec K .B H0 Hs G H (λws vs _=>Reps K H vs ws) .nil (λh _ b=>.cons (h.whole I) b) ws vs h
def XE (_:XK):EXT:=λ_ _=>False
def spM (K:Frag) (n:Nat) (d:Mode) (f:List W->R W):Sp:=λvs H Q E=>vs.length=n/\∃ws,Reps K H vs ws/\match f ws with
 | .ok w=>∀v G' H',Same H H'->Same G' H'->(∀a o,H a=some o->isL o=true->G' a=none)->Md K H H G' H' v w d->Q v H'
 | .ex e=>∀H',Same H H'->XE E e H'
 | .stuck=>False
def j1 (n N:Nat) (m:JV) (ws:JZ):R W:=if ws.length=n then (m (ws.map Sl.par++List.replicate (N-n) Sl.un)>>=λf=>match f with
 | .rt w=>.ok w
 | .nx _=>.ok .non
 |_=>.stuck) else .stuck
def rC (ws:JZ) (h:j1 n N m ws≠.stuck):ws.length=n:=by
 unfold j1 at h;by_cases e:ws.length=n
 .show e
 .rw[qA4 e]at h;show absurd rfl h
def both (G G':Hp):Hp:=λb=>match G b with
 |some o=>some o
 |none=>G' b
def Dq (hd:d=.F\/d=.V) (hf:∀ws,f ws≠.stuck->ws.length=n) (hE:∀e H,EX e H->XE E e H) (h:tM K EX d (λρ=>ma ρ>>=λws=>f ws) σ H Q):
  gx (spM K n d f) [] E (tA K EX .B ma) σ H Q:=by
 obtain ⟨H0,G,ρ,I,o⟩:=h;refine ⟨H0,G,ρ,I,Out.bind o λxs G1 H1 ws e1 m1 O=>?_⟩;have I1:=I.ext e1;have r:=MdA.whole I1 m1;rw[qH6];refine ⟨?_,ws,r,?_⟩
 .rw [r.length]
  refine hf ws λz=>?_;rw[z]at O;show O
 .revert O
  cases f ws with
  |stuck=>show id
  |ex e=>show λO H' s=>hE e H' (O H' s)
  | ok w=>
   intro O v G' H' sH gH cl md;have sB:Same G1 (both G1 G'):=λb o q=>by unfold both;rw[q]
   have L:Same G' (both G1 G'):=λb o q=>by
    unfold both;cases q1:G1 b with
    |none=>show q
    | some u=>
     have a1:=sH b u (I1.gh b u q1);rw[gH b o q]at a1;show a1.symm
   have a3:Same (both G1 G') H':=λb o q=>by
    unfold both at q;cases q1:G1 b with
    |none=>rw[q1]at q;show gH b o q
    |some u=>rw[q1]at q;cases q;show sH b _ (I1.gh b _ q1)
   have ex:Ext G1 H1 (both G1 G') H':=⟨sB,sH,a3,λb o q l g=>by unfold both;rw[g];show cl b o q l⟩;refine O v (both G1 G') H' ex ?_;rcases hd with rfl|rfl
   .cases w with
    | lst us=>
     obtain ⟨a,vs,rfl,h1,h2,h3,r3⟩:=md;show ⟨a,vs,rfl,h1,by unfold both;rw[I1.gh.free h3];show h2,e1.hh.free h3,r3.same L⟩
    |non=>show Rep.same L md
    |bl _=>show Rep.same L md
    |int _=>show Rep.same L md
    |str _=>show Rep.same L md
    |ty _=>show Rep.same L md
    |tup _=>show Rep.same L md
    |scr _=>show Rep.same L md
    |exc _ _=>show Rep.same L md
    |cls _=>show Rep.same L md
   .show Rep.same L md
def A8 (H:Hp):Hp:=λa=>match H a with
 |some o=>if isL o then none else some o
 |none=>none
def fP:join H (A8 H)=H:=by
 funext a
 unfold join A8;cases q:H a with
 |none=>rfl
 | some o=>
  dsimp only;cases isL o <;> rfl
def Reps.slots {i:Nat}(r:Reps K H vs ws):(ws.map Sl.par++List.replicate k Sl.un)[i]?=some x->(vs.map some++List.replicate k' none)[i]?=some o->x=.un\/∃v w,x=.par w/\o=some v/\Rep K H v w:=
 Reps.ind (P:=λvs ws=>∀i,(ws.map Sl.par++List.replicate k Sl.un)[i]?=some x->(vs.map some++List.replicate k' none)[i]?=some o->x=.un\/∃v w,x=.par w/\o=some v/\Rep K H v w) (λi q L=>by
  have q:(List.replicate k Sl.un)[i]?=some x:=q;rw[qG2]at q;by_cases hk:i<k
  .rw[qA2 hk]at q;show .inl (Option.some.inj q).symm
  .rw[qA4 hk]at q;cases q) (λr _ b i q L=>by
  cases i with
  |zero=>show .inr ⟨_,_,(Option.some.inj q).symm,(Option.some.inj L).symm,r⟩
  |succ i=>show b i q L) r i
def PIv.begin (r:Reps K H vs ws) (hk:k=k'):PIv K H (A8 H) (ws.map Sl.par++List.replicate k Sl.un) (vs.map some++List.replicate k' none) H where
 g0 a o e l:=by unfold A8;rw[e];dsimp only;rw[l];rfl
 gl a o e l:=by unfold A8;rw[e];dsimp only;rw[l];rfl
 gh a o e:=by
  unfold A8 at e;cases q:H a with
  |none=>rw[q]at e;cases e
  | some u=>
   rw[q]at e;dsimp only at e;cases hl:isL u
   .rw[hl]at e;show e
   .rw[hl]at e;cases e
 hh:=Same.refl H
 len:=by subst hk;simp [r.length]
 sl i x o h1 h2:=by
  rcases Reps.slots r h1 h2 with rfl|⟨v,w,rfl,rfl,q⟩
  .trivial
  .show ⟨v,rfl,by rw[fP];show q⟩
 ne i j us xs a hij h1 _ _ _:=by
  have:∀(i:Nat) (us:JZ),(ws.map Sl.par++List.replicate k Sl.un)[i]?≠some (Sl.own us):=λi us q=>by
   rw[List.getElem?_append]at q
   split at q
   .rw [qC9]at q
    cases hh:ws[i]? <;> rw[hh]at q <;> cases q
   .rw [qG2]at q
    split at q <;> cases q
  show absurd h1 (this i us)
def Dr (hd:d=.F\/d=.V) (h:spM K n d (j1 n Nl.length m) vs H Q E):tSt K (λ_ _=>False) d m { nx:=λ_ H'=>Q .non H',rt:=Q } (L2.start Nl vs) H:=by
 obtain ⟨hl,ws,r,o⟩:=h;have hw:ws.length=n:=by rw[<- r.length];show hl
 unfold j1 at o;rw[qA2 hw]at o;refine ⟨H,A8 H,_,PIv.begin (k:=Nl.length-n) r (by rw[hl]),?_⟩
 revert o
 cases m (ws.map Sl.par++List.replicate (Nl.length-n) Sl.un) with
 |stuck=>show id
 |ex e=>show λo=>(o H (Same.refl H)).elim
 | ok f=>
  cases f with
  |nx L=>show λo G' O H' s' q=>o .non G' H' q.hh q.gh q.gl (Md.sca rfl (λ_=>.non) d)
  |rt w=>show λo v G' H' _ s1 s2 c md=>o v G' H' s2 s1 c md
  |bk _=>show λo=>o.elim
  |ct _=>show λo=>o.elim
end
def elR (mg:JX) (mc:JK) (me:JJ) (ρ:Rho) (w:W):R (Option W):=match mg w ρ with
 |none=>.stuck
 | some q=>(match mc q with
  | .ok true=>(match me q with
   | .ok y=>.ok (some y)
   |_=>.stuck)
  | .ok false=>.ok none
  |_=>.stuck)
def mapR (f:W->R (Option W)):List W->R JZ
 | []=>.ok []
 | w::ws=>match f w,mapR f ws with
  | .ok (some y),.ok ys=>.ok (y::ys)
  | .ok none,.ok ys=>.ok ys
  |_,_=>.stuck
def n5 (N':Nat) (mg:JX) (mc:JK) (me:JJ) (ws:JZ) (ρ:Rho):R W:=
 if ws.length<=1000 then (match mapR (elR mg mc me (ρ++List.replicate (N'-ρ.length) Sl.un)) ws with
  | .ok q=>.ok (.lst q)
  |_=>.stuck) else .stuck
def xa:∀{ws L:JZ},mapR f ws=.ok L->(∀w∈ws,∃o,f w=.ok o)/\L=ws.filterMap λw=>match f w with
  | .ok o=>o
  |_=>none:=by
 intro ws
 induction ws with
 |nil=>intro L h;cases h;show ⟨QX,rfl⟩
 | cons w ws ih=>
  intro L h;unfold mapR at h;cases q:f w with
  |stuck=>rw[q]at h;cases h
  |ex e=>rw[q]at h;cases h
  | ok o=>
   rw[q]at h;cases hm:mapR f ws with
   |stuck=>rw[hm]at h;cases o <;> cases h
   |ex e=>rw[hm]at h;cases o <;> cases h
   | ok zs=>
    rw[hm]at h;obtain ⟨h1,O⟩:=ih hm;refine ⟨λu hu=>?_,?_⟩
    .rcases qB6.mp hu with rfl|hu
     .show ⟨o,q⟩
     .show h1 u hu
    .cases o with
     |none=>cases h;rw[qG7,q];show O
     |some y=>cases h;rw[qG7,q,O]
def PIv.inner (I:PIv K H0 G ρ σ H):PIv K H0 G (ρ++List.replicate (N'.length-ρ.length) Sl.un) (inner N' σ) H:=by
 have hl:=I.len;unfold L2.inner;rw[hl];refine ⟨I.g0,I.gl,I.gh,I.hh,by simp [hl],λi x o L O=>?_,λp q ws us c a3 L O h3 h4=>?_⟩
 .by_cases hi:i<ρ.length
  .rw [qE8 hi]at L
   rw[qE8 ox]at O;show I.sl i x o L O
  .rw [qH9 ox,qG2]at L
   split at L <;> simp only [qG1,reduceCtorEq]at L
   subst L;trivial
 .have key:∀{k:Nat}{us:JZ},(ρ++List.replicate (N'.length-σ.length) Sl.un)[k]?=some (Sl.own us)->k<ρ.length/\ρ[k]?=some (Sl.own us):=λ{k us} hk=>by
   by_cases hi:k<ρ.length
   .rw[qE8 hi]at hk;show ⟨hi,hk⟩
   .rw [qH9 ox,qG2]at hk
    split at hk <;> simp at hk
  obtain ⟨l1,k1⟩:=key L;obtain ⟨l2,k2⟩:=key O;rw[qE8 ox]at h3 h4;show I.ne p q ws us c a3 k1 k2 h3 h4
open Classical in
def rest (G H:Hp)(Dd:Addr)(H':Hp):Hp:=λb=>if b=Dd\/∃o,H b=some o/\isL o=true/\G b=none then none else H' b
def B4 (h:b=Dd\/∃o,H b=some o/\isL o=true/\G b=none):rest G H Dd H' b=none:=by unfold rest;rw[qA2 h]
def V2 (h:¬ (b=Dd\/∃o,H b=some o/\isL o=true/\G b=none)):rest G H Dd H' b=H' b:=by unfold rest;rw[qA4 h]
def kG (h:rest G H Dd H' b=some o):H' b=some o/\¬ (b=Dd\/∃o,H b=some o/\isL o=true/\G b=none):=by
 by_cases c:b=Dd\/∃o,H b=some o/\isL o=true/\G b=none
 .rw[B4 c]at h;cases h
 .rw[V2 c]at h;show ⟨h,c⟩
def PIv.rest (I:PIv K H0 G ρ σ H) (hD:H Dd=none) (s:Same H H'):Same G (rest G H Dd H')/\PIv K H0 (rest G H Dd H') ρ σ H':=by
 have sG:Same G (TP.rest G H Dd H'):=λb o q=>by
  rw[V2]
  .show s b o (I.gh b o q)
  .rintro (rfl|⟨u,h1,h2,h3⟩)
   .rw[I.gh _ _ q]at hD;cases hD
   .rw[q]at h3;cases h3
 refine ⟨sG,λa o e l=>sG a o (I.g0 a o e l),λa o e l=>B4 (.inr ⟨o,I.hh a o e,l,I.gl a o e l⟩),λb o q=>(kG q).1,I.hh.trans s,I.len,λi x o h1 h2=>?_,I.ne⟩
 have:=I.sl i x o h1 h2
 cases x with
 |un=>trivial
 |val w=>obtain ⟨v,e,r⟩:=this;show ⟨v,e,r.same sG⟩
 |par w=>obtain ⟨v,e,r⟩:=this;show ⟨v,e,r.same (w6 sG)⟩
 | own ws=>
  obtain ⟨a,vs,e,h,g,h0,r⟩:=this;show ⟨a,vs,e,s a _ h,B4 (.inr ⟨_,h,rfl,g⟩),h0,r.same sG⟩
 | dic ks=>
  obtain ⟨a,vs,e,h,g,h0,r⟩:=this;show ⟨a,vs,e,s a _ h,B4 (.inr ⟨_,h,rfl,g⟩),h0,r⟩
 | dik ks=>
  obtain ⟨a,vs,e,h,g,h0,r⟩:=this;show ⟨a,vs,e,s a _ h,B4 (.inr ⟨_,h,rfl,g⟩),h0,r⟩
 |iop p ws=>obtain ⟨e1,O,L,r1⟩:=this;show ⟨e1,O,L,r1.same sG⟩
 |hz w=>obtain ⟨v,e,r⟩:=this;show ⟨v,e,r.same (w6 (aF sG))⟩
def ay (s:∀b o,b≠Dd->Ha b=some o->Hb b=some o):Same (rest G H Dd Ha) (rest G H Dd Hb):=λb o q=>by
 obtain ⟨h,c⟩:=kG q;rw[V2 c];show s b o (λz=>c (.inl z)) h
def rL (hl:∃L,Ha Dd=some (.lst L)) (s:Same H Ha) (e:Ext (rest G H Dd Ha) Ha G' Hb):Same G' (rest G H Dd Hb):=λb o q=>by
 rw[V2]
 .show e.gh b o q
 .rintro (rfl|⟨u,h1,h2,h3⟩)
  .obtain ⟨L,hl⟩:=hl;rw[e.keep _ _ hl rfl (B4 (.inl rfl))]at q;cases q
  .rw[e.keep _ _ (s _ _ h1) h2 (B4 (.inr ⟨u,h1,h2,h3⟩))]at q;cases q
def qA (hg:Gt K e g mg) (h:tM K EX .F (λρ=>mi ρ>>=λws=>n5 N'.length mg mc me ws ρ) σ H Q):
  mf N' (tIt K EX false e mi) g (tT K EX mc) (tM K EX .V me) σ H Q:=by
 obtain ⟨H0,G,ρ,I,o⟩:=h;refine ⟨H0,G,ρ,I,?_⟩;replace o:Out EX G H (mdW K .F H0 H) (mi ρ>>=λws=>n5 N'.length mg mc me ws ρ) Q:=o
 revert o
 cases mi ρ with
 |stuck=>show id
 |ex x=>show id
 | ok ws=>
  intro o J G1 H1 e1 T Dd hD;have I1:=I.ext e1;replace o:Out EX G H (mdW K .F H0 H) (n5 N'.length mg mc me ws ρ) Q:=o
  unfold n5 at o;by_cases hlen:ws.length<=1000
  .rw [qA2 hlen]at o
   cases hm:mapR (elR mg mc me (ρ++List.replicate (N'.length-ρ.length) Sl.un)) ws with
   |stuck=>rw[hm]at o;show o.elim
   |ex x=>rw[hm]at o;show o.elim
   | ok ys=>
    rw[hm]at o;obtain ⟨a7,b4⟩:=xa hm;have T':Z7 K e H0 H1 G1 J ws:=by
     have:=T
     rw[qA4 qA3]at this;show this
    generalize b5:ρ++List.replicate (N'.length-ρ.length) Sl.un=a8 at hm a7 b4
    refine ⟨λi m H2=>m=ws.length-i/\i<=ws.length/\Same H1 H2/\∃vs,H2 Dd=some (.lst vs)/\vs.length<=i/\Reps K (rest G1 H1 Dd H2) vs ((ws.take i).filterMap λw=>match elR mg mc me a8 w with
     | .ok o=>o
     |_=>none),⟨_,rfl,qD2 _,λb u q=>by rw[c8 (d8 q hD)];show q,[],i7,qB5 _,.nil⟩,?_⟩
    rintro i m H2 ⟨rfl,hi,s2,vs,a5,bc,r2⟩;by_cases a3:i<ws.length
    .refine .inr ⟨T'.go i H2 a3 s2,λx H3 y=>?_⟩;obtain ⟨sG,I2⟩:=I1.rest (Dd:=Dd) hD s2;have b3:=I2.inner (N':=N');obtain ⟨G3,e3,m3⟩:=T'.yld i H2 x H3 ws[i] QX s2 y _ _ _ b3 sG;obtain ⟨op,hop⟩:=a7 ws[i] (qK3 a3);have a6:=hop;unfold elR at hop;rw[<- b5]at hop;have O:ws.take (i+1)=ws.take i ++ [ws[i]]:=by rw[List.take_succ_eq_append_getElem a3]
     cases q:mg ws[i] (ρ++List.replicate (N'.length-ρ.length) Sl.un) with
     |none=>rw[q]at hop;cases hop
     | some L=>
      rw[q]at hop;dsimp only at hop;refine hg H0 H2 G3 _ _ H3 x _ L _ (b3.ext e3) m3 q λc0 I4=>⟨H0,G3,L,I4,?_⟩;cases hc:mc L with
      |stuck=>rw[hc]at hop;cases hop
      |ex x=>rw[hc]at hop;cases hop
      | ok b=>
       intro b' G5 H5 e5 eb;cases eb;rw[hc]at hop;cases b with
       | false=>
        rw[qA4 qA3];have a4:op=none:=by cases hop;rfl
        have s5:Same H2 H5:=e3.hh.trans e5.hh;refine ⟨ws.length-(i+1),ox,rfl,a3,s2.trans s5,vs,s5 _ _ a5,ox,?_⟩;rw[O,List.filterMap_append]
        have:([ws[i]].filterMap λw=>match elR mg mc me a8 w with
         | .ok o=>o
         |_=>none) = []:=by
         rw[qG7,a6,a4];rfl
        rw[this,qH6];show r2.same (ay λb o _ q=>s5 b o q)
       | true=>
        dsimp only at hop;rw[qA2 rfl];refine ⟨H0,G5,L,I4.ext e5,?_⟩;cases ab:me L with
        |stuck=>rw[ab]at hop;cases hop
        |ex x=>rw[ab]at hop;cases hop
        | ok z=>
         rw[ab]at hop;have a4:op=some z:=by cases hop;rfl
         intro yv G6 H6 e6 m6;have b0:Ext (TP.rest G1 H1 Dd H2) H2 G6 H6:=(e3.trans e5).trans e6;have s6:Same H2 H6:=b0.hh;refine ⟨vs,s6 _ _ a5,qD9 bc (qB0 (by omega:i<1000) QV),ws.length-(i+1),ox,rfl,a3,λb u q=>by rw[c8 (d8 q hD)];show s6 b u (s2 b u q),vs ++ [yv],i7,by rw[qC5];simp;omega,?_⟩;rw[O,List.filterMap_append]
         have:([ws[i]].filterMap λw=>match elR mg mc me a8 w with
          | .ok o=>o
          |_=>none) = [z]:=by
          rw[qG7,a6,a4];rfl
         rw[this];have k1:Same (TP.rest G1 H1 Dd H2) (TP.rest G1 H1 Dd (upd H6 Dd (.lst (vs ++ [yv])))):=ay λb o hb q=>by rw[c8 hb];show s6 b o q
         have k2:Same G6 (TP.rest G1 H1 Dd (upd H6 Dd (.lst (vs ++ [yv])))):=(rL ⟨vs,a5⟩ s2 b0).trans (ay λb o hb q=>by rw[c8 hb];show q);show (r2.same k1).snoc (Rep.same k2 m6)
    .have ei:i=ws.length:=ox;subst ei;refine .inl ⟨T'.stop H2 s2,?_⟩;rw[qK4,<- b4]at r2;obtain ⟨sG,I2⟩:=I1.rest (Dd:=Dd) hD s2;refine o _ (TP.rest G1 H1 Dd H2) H2 ⟨e1.gg.trans sG,e1.hh.trans s2,I2.gh,λb u q l g=>B4 (.inr ⟨u,e1.hh b u q,l,e1.keep b u q l g⟩)⟩ ⟨Dd,vs,rfl,a5,B4 (.inl rfl),e1.hh.free hD,r2⟩
  .rw[qA4 hlen]at o;show o.elim
def y4:W->R JZ
 | .lst ws=>.ok ws
 | .tup ws=>.ok ws
 | .scr ws=>.ok ws
 |_=>.stuck
def D7 (e:Same H H1) (h:Sq K H t a xs):Sq K H1 t a xs:=by
 unfold Sq at h ⊢
 split at h
 .rename_i ht;rw[qA2 ht];show rd e h
 .rename_i ht;rw[qA4 ht];show Same.seq e h
def sqT (h:SqT K H a xs):Sq K H true a xs:=by unfold Sq;rw[qA2 rfl];show h
def sqL (h:SqL K H a xs):Sq K H false a xs:=by unfold Sq;rw[qA4 qA3];show h
def Rep.sq (h:Rep K F x w) (hw:y4 w=.ok ws):∃t a vs,x=.ref a/\Sq K F t a vs/\Reps K F vs ws:=by
 cases w <;> first | (cases hw;done)|skip
 .obtain ⟨a,vs,e,s,r⟩:=h.inv;show ⟨true,a,vs,e,sqT (SqT.of s),R.ok.inj hw ▸ r⟩
 .obtain ⟨a,vs,e,s,r⟩:=h.inv;show ⟨false,a,vs,e,sqL (SqL.of s),R.ok.inj hw ▸ r⟩
 .obtain ⟨a,vs,e,s,r⟩:=h.inv;show ⟨false,a,vs,e,sqL s,R.ok.inj hw ▸ r⟩
def ar:Bool->Mode->Mode
 |true,e=>e
 |false,.V=>.C
 |false,_=>.B
def fz (e:Mode)(H0 G:Hp):Hp:=if e=.V then G else join H0 G
def Md.src (L:e=.V\/e=.U) (I:PIv K H0 G ρ σ H) (m:Md K H0 Hs G H x w (ar lp e)) (hw:y4 w=.ok ws):
  ∃t a vs,x=.ref a/\Sq K (if lp then join H0 G else H) t a vs/\Reps K (fz e H0 G) vs ws:=by
 unfold fz;rcases L with rfl|rfl
 .rw [qA2 rfl]
  cases lp with
  | true=>
   obtain ⟨t,a,vs,e1,e2,q⟩:=Rep.sq m hw;show ⟨t,a,vs,e1,by rw[qA2 rfl];show D7 I.G_join e2,q⟩
  | false=>
   rw[qA4 qA3];rcases m with m|⟨a,vs,us,rfl,rfl,h1,r⟩
   .obtain ⟨t,a,vs,e1,e2,q⟩:=Rep.sq m hw;show ⟨t,a,vs,e1,D7 I.gh e2,q⟩
   .cases hw;show ⟨false,a,vs,rfl,sqL (SqL.of h1),r⟩
 .rw [qA4 (show ¬ (Mode.U=Mode.V) by intro z;cases z)]
  cases lp with
  | true=>
   obtain ⟨t,a,vs,e1,e2,q⟩:=Rep.sq m hw;show ⟨t,a,vs,e1,by rw[qA2 rfl];show e2,q⟩
  | false=>
   rw[qA4 qA3];rcases m with m|⟨a,vs,us,rfl,rfl,h1,r⟩
   .obtain ⟨t,a,vs,e1,e2,q⟩:=Rep.sq m hw;show ⟨t,a,vs,e1,D7 I.join_H e2,q⟩
   .cases hw;show ⟨false,a,vs,rfl,sqL (SqL.of h1),r.same I.G_join⟩
def Md.of_fz (q:e=.V\/e=.U) (h:Rep K (fz e H0 G) v w):Md K H0 Hs G H v w e:=by
 unfold fz at h;rcases q with rfl|rfl
 .rw[qA2 rfl]at h;show h
 .rw[qA4 (show ¬ (Mode.U=Mode.V) by intro z;cases z)]at h;show h
def G9 (s:Same G G1):Same (fz e H0 G) (fz e H0 G1):=by
 unfold fz
 split
 .show s
 .show w6 s
def xn (he:e=.V\/e=.U) (s:Sq K Z t a vs) (r:Reps K (fz e H0 G) vs ws):Z7 K e H0 Z G (ItQ K t a) ws:=by
 have hl:=r.length;cases t with
 | true=>
  have q:∀H,Same Z H->SqT K H a vs:=λH z=>by have:=D7 z s;unfold Sq at this;rw[qA2 rfl]at this;show this
  refine ⟨λi H hi z=>⟨vs,vs[i]'ox,q H z,QX⟩,λH z=>⟨vs,q H z,ox⟩,λi H x H' w hw z a3 G2 ρ σ I sg=>?_⟩;obtain ⟨e1,y⟩:=a3;subst e1;have hx:=y vs (q _ z);obtain ⟨v,L,rv⟩:=Reps.get r hw;rw[hx]at L;cases L;show ⟨G2,Ext.refl I.gh,Md.of_fz he (rv.same (G9 sg))⟩
 | false=>
  have q:∀H,Same Z H->SqL K H a vs:=λH z=>by have:=D7 z s;unfold Sq at this;rw[qA4 qA3]at this;show this
  refine ⟨λi H hi z=>⟨vs,vs[i]'ox,q H z,QX⟩,λH z=>⟨vs,q H z,ox⟩,λi H x H' w hw z O G2 ρ σ I sg=>?_⟩;obtain ⟨e1,y⟩:=O;subst e1;have hx:=y vs (q _ z);obtain ⟨v,L,rv⟩:=Reps.get r hw;rw[hx]at L;cases L;show ⟨G2,Ext.refl I.gh,Md.of_fz he (rv.same (G9 sg))⟩
def eT {lp:Bool}(I:PIv K H0 G ρ σ H):Same (if lp then join H0 G else H) H:=by
 cases lp
 .show Same.refl H
 .show I.join_H
def Fd (O:e=.V\/e=.U) (h:tIt K EX lp e (λρ=>ml ρ>>=y4) σ H Rr):iSq K (tM K EX (ar lp e) ml) σ H Rr:=by
 obtain ⟨H0,G,ρ,I,o⟩:=h;refine ⟨H0,G,ρ,I,?_⟩;replace o:jJ K EX lp e H0 G H (ml ρ>>=y4) Rr:=o
 revert o
 cases ml ρ with
 |stuck=>show id
 |ex x=>show id
 | ok w=>
  intro o x G1 H1 e1 m1;have L:=I.ext e1;have o':jJ K EX lp e H0 G H (y4 w) Rr:=o;cases q:y4 w with
  |stuck=>rw[q]at o';show o'.elim
  |ex z=>cases w <;> cases q
  | ok ws=>
   rw[q]at o';obtain ⟨t,a,vs,ex,s,r⟩:=Md.src O L m1 q;show ⟨a,ex,t,vs,D7 (eT L) s,o' _ G1 H1 e1 (xn O s r)⟩
def M1 (lo hi:Int):R JZ:=if -1000000<=lo/\lo<=1000000 /\ -1000000<=hi/\hi<=1000000 then .ok ((List.range (hi-lo).toNat).map λk=>W.int (lo+(k:Nat))) else .stuck
def N8:List W->R JZ
 | [.int j]=>M1 0 j
 |_=>.stuck
def rng2:List W->R JZ
 | [.int i,.int j]=>M1 i j
 |_=>.stuck
def tq (he:e=.V\/e=.U):Z7 K e H0 Z G (Itr lo n) ((List.range n).map λk=>W.int (lo+(k:Nat))):=by
 refine ⟨λi H hi _=>by change i<n;simpa using hi,λH _=>by simp [Itr],λi H x H' w hw _ L G2 ρ σ I _=>?_⟩;obtain ⟨e1,e2⟩:=L;subst e1;subst e2;rw[qC9]at hw;cases q:(List.range n)[i]? with
 |none=>rw[q]at hw;cases hw
 | some k=>
  rw[q]at hw;have hk:k=i:=by
   have:=qA8.mp q
   obtain ⟨h1,O⟩:=this;simpa using O.symm
  subst hk;cases hw;refine ⟨G2,Ext.refl I.gh,Md.sca rfl (λ_=>.int) e⟩
def X9 (h:tIt K EX lp e (λρ=>ma ρ>>=k) σ H Rr) (O:∀H0 G ρ G1 H1 xs ws us,PIv K H0 G ρ σ H->Ext G H G1 H1->MdA K b H0 H G1 H1 ws xs->k ws=.ok us->(∀J G' H',Ext G H G' H'->Z7 K e H0 (if lp then join H0 G' else H') G' J us->Rr J H')->Q xs H1) (L:∀ws e,k ws≠.ex e):tA K EX b ma σ H Q:=by
 obtain ⟨H0,G,ρ,I,o⟩:=h;refine ⟨H0,G,ρ,I,?_⟩;replace o:jJ K EX lp e H0 G H (ma ρ>>=k) Rr:=o
 revert o
 cases ma ρ with
 |stuck=>show id
 |ex x=>show id
 | ok ws=>
  intro o xs G1 H1 e1 m1;have o':jJ K EX lp e H0 G H (k ws) Rr:=o;cases q:k ws with
  |stuck=>rw[q]at o';show o'.elim
  |ex z=>show absurd q (L ws z)
  |ok us=>rw[q]at o';show O H0 G ρ G1 H1 xs ws us I e1 m1 q o'
def vS (h:M1 lo hi=.ok us):(-1000000<=lo/\lo<=1000000 /\ -1000000<=hi/\hi<=1000000)/\us=(List.range (hi-lo).toNat).map λk=>W.int (lo+(k:Nat)):=by
 unfold M1 at h
 split at h
 .cases h;rename_i c;show ⟨c,rfl⟩
 .cases h
def rE (h:M1 lo hi=.ex e):False:=by
 unfold M1 at h;by_cases c:-1000000<=lo/\lo<=1000000 /\ -1000000<=hi/\hi<=1000000
 .rw[qA2 c]at h;cases h
 .rw[qA4 c]at h;cases h
def Dg (L:e=.V\/e=.U) (h:tIt K EX lp e (λρ=>ma ρ>>=N8) σ H Rr):uZ (tA K EX .B ma) σ H Rr:=by
 refine X9 h (λH0 G ρ G1 H1 xs ws us I e1 O q o=>?_) (λws e z=>?_)
 .cases O with
  |nil=>cases q
  | @cons w _ _ _ a t=>
   cases t with
   |cons _ _=>first | (cases q;done) | (cases w <;> cases q)
   | nil=>
    cases w <;> first | (cases q;done)|skip
    rename_i j
    obtain ⟨c,rfl⟩:=vS (show M1 0 j=_ from q);refine ⟨j,by rw[Md.intB a],ox,ox,?_⟩
    have:=o (Itr 0 j.toNat) G1 H1 e1
    rw[Int.sub_zero]at this;show this (tq L)
 .cases ws with
  |nil=>cases z
  | cons w t=>
   cases t with
   |cons _ _=>first | (cases z;done) | (cases w <;> cases z)
   | nil=>
    cases w <;> first | (cases z;done)|skip
    show rE (lo:=0) z
def ci:List JZ->List JZ
 | [xs,ys]=>xs.zipWith (λx y=>[x,y]) ys
 | [xs,ys,zs]=>(xs.zip ys).zipWith (λp z=>[p.1,p.2,z]) zs
 |_=>[]
def R4:List W->R (List JZ)
 | []=>.ok []
 | w::ws=>match y4 w,R4 ws with
  | .ok x,.ok xs=>.ok (x::xs)
  |_,_=>.stuck
def K2 (ws:JZ):R JZ:=if ws.length=2\/ws.length=3 then (match R4 ws with
 | .ok xs=>.ok ((ci xs).map W.tup)
 |_=>.stuck) else .stuck
def eG (O:e=.V\/e=.U) (I:PIv K H0 G ρ σ H) (L:H p=none) (r:Reps K (fz e H0 G) vs ws):Ext G H (upd G p (.tup vs)) (upd H p (.tup vs))/\Md K H0 Hs (upd G p (.tup vs)) (upd H p (.tup vs)) (.ref p) (.tup ws) e:=by
 refine ⟨cH I.gh L,?_⟩;have gp:G p=none:=I.gh.free L;rcases O with rfl|rfl
 .unfold fz at r;rw[qA2 rfl]at r;show .tup i7 (r.same λb u q=>by rw[c8 (d8 q gp)];show q)
 .unfold fz at r;rw[qA4 (show ¬ (Mode.U=Mode.V) by intro z;cases z)]at r
  change Rep K (join H0 (upd G p (.tup vs))) _ _;rw[jg (I.hh.free L)];show .tup i7 (r.same λb u q=>by rw[c8 (d8 (I.join_H b u q) L)];show q)
def pO (he:e=.V\/e=.U) (s1:Sq K Z t a xs) (s2:Sq K Z u b ys) (r1:Reps K (fz e H0 G) xs us) (O:Reps K (fz e H0 G) ys vs):
  Z7 K e H0 Z G (ItZ K [(t,a),(u,b)]) ((us.zipWith (λx y=>[x,y]) vs).map W.tup):=by
 have L:=oz s1 s2;have l1:=r1.length;have l2:=O.length;have hl:((us.zipWith (λx y=>[x,y]) vs).map W.tup).length=min xs.length ys.length:=by simp [l1,l2]
 refine ⟨λi H hi z=>L.go i H ox z,λH z=>by rw[hl];show L.stop H z,λi H x H' w hw z y G2 ρ σ I sg=>?_⟩;have hi:i<min xs.length ys.length:=by
  rw[<- hl];show (qA8.mp hw).1
 obtain ⟨p,y1,z1,rfl,hp,rfl,hy,hz⟩:=L.yld i H x H' hi z y;obtain ⟨w1,e1,q1⟩:=Reps.get' r1 hy;obtain ⟨w2,e2,q2⟩:=Reps.get' O hz;have q:w=.tup [w1,w2]:=by
  rw[qC9,qJ4,e1,e2]at hw;cases hw;rfl
 subst q;obtain ⟨x1,x2⟩:=eG (Hs:=H) he I hp (.cons (q1.same (G9 sg)) (.cons (q2.same (G9 sg)) .nil));show ⟨_,x1,x2⟩
def pM (he:e=.V\/e=.U) (s1:Sq K Z t a xs) (s2:Sq K Z u b ys) (s3:Sq K Z v c zs) (r1:Reps K (fz e H0 G) xs us) (r2:Reps K (fz e H0 G) ys vs) (r3:Reps K (fz e H0 G) zs ts):
  Z7 K e H0 Z G (ItZ K [(t,a),(u,b),(v,c)]) (((us.zip vs).zipWith (λp z=>[p.1,p.2,z]) ts).map W.tup):=by
 have O:=oy s1 s2 s3;have l1:=r1.length;have l2:=r2.length;have l3:=r3.length;have hl:(((us.zip vs).zipWith (λp z=>[p.1,p.2,z]) ts).map W.tup).length=min xs.length (min ys.length zs.length):=by simp [l1,l2,l3,Nat.min_assoc]
 refine ⟨λi H hi z=>O.go i H ox z,λH z=>by rw[hl];show O.stop H z,λi H x H' w hw z y G2 ρ σ I L=>?_⟩;have hi:i<min xs.length (min ys.length zs.length):=by
  rw[<- hl];show (qA8.mp hw).1
 obtain ⟨p,y1,z1,t1,rfl,hp,rfl,hy,hz,ht⟩:=O.yld i H x H' hi z y;obtain ⟨w1,e1,q1⟩:=Reps.get' r1 hy;obtain ⟨w2,e2,q2⟩:=Reps.get' r2 hz;obtain ⟨w3,e3,q3⟩:=Reps.get' r3 ht;have q:w=.tup [w1,w2,w3]:=by
  rw[qC9,qJ4,List.zip,qJ4,e1,e2,e3]at hw;cases hw;rfl
 subst q;obtain ⟨x1,x2⟩:=eG (Hs:=H) he I hp (.cons (q1.same (G9 L)) (.cons (q2.same (G9 L)) (.cons (q3.same (G9 L)) .nil)));show ⟨_,x1,x2⟩
def Y2 (h:R4 (w::ws)=.ok xs):∃y q,y4 w=.ok y/\R4 ws=.ok q/\xs=y::q:=by
 unfold R4 at h;cases L:y4 w with
 |stuck=>rw[L]at h;cases h
 |ex _=>rw[L]at h;cases h
 | ok y=>
  rw[L]at h;cases O:R4 ws with
  |stuck=>rw[O]at h;cases h
  |ex _=>rw[O]at h;cases h
  |ok q=>rw[O]at h;cases h;show ⟨y,q,rfl,rfl,rfl⟩
def ET (he:e=.V\/e=.U) (h:tIt K EX lp e (λρ=>ma ρ>>=K2) σ H Rr):BP K (tA K EX (ar lp e) ma) σ H Rr:=by
 refine X9 h (λH0 G ρ G1 H1 xs ws us I e1 L q o=>?_) (λws e z=>?_)
 .have O:=I.ext e1;unfold K2 at q
  split at q
  .rename_i hn
   cases hs:R4 ws with
   |stuck=>rw[hs]at q;cases q
   |ex _=>rw[hs]at q;cases q
   | ok ls=>
    rw[hs]at q;cases q;cases L with
    |nil=>simp at hn
    | cons a1 L=>
     cases L with
     |nil=>simp at hn
     | cons a2 L=>
      obtain ⟨y1,ys,h1,a6,rfl⟩:=Y2 hs;obtain ⟨y2,ys,h2,a4,rfl⟩:=Y2 a6;obtain ⟨t1,p1,v1,rfl,q1,r1⟩:=Md.src he O a1 h1;obtain ⟨t2,p2,v2,rfl,q2,r2⟩:=Md.src he O a2 h2;have k1:=D7 (eT O) q1;have k2:=D7 (eT O) q2;cases L with
      | nil=>
       cases a4;refine ⟨[(t1,p1),(t2,p2)],rfl,.inl rfl,λu hu=>?_,o _ G1 H1 e1 (pO he q1 q2 r1 r2)⟩;simp only [qB6,qD6,qO9]at hu;rcases hu with rfl|rfl
       .show ⟨_,k1⟩
       .show ⟨_,k2⟩
      | cons a3 L=>
       cases L with
       |cons _ _=>simp at hn
       | nil=>
        obtain ⟨y3,ys,h3,a5,rfl⟩:=Y2 a4;cases a5;obtain ⟨t3,p3,v3,rfl,q3,r3⟩:=Md.src he O a3 h3;refine ⟨[(t1,p1),(t2,p2),(t3,p3)],rfl,.inr rfl,λu hu=>?_,o _ G1 H1 e1 (pM he q1 q2 q3 r1 r2 r3)⟩;simp only [qB6,qD6,qO9]at hu;rcases hu with rfl|rfl|rfl
        .show ⟨_,k1⟩
        .show ⟨_,k2⟩
        .show ⟨_,D7 (eT O) q3⟩
  .cases q
 .unfold K2 at z
  split at z
  .split at z <;> cases z
  .cases z
def Reps.atI (r:Reps K F vs ws) (h:L2.atI ws i=some w):∃v,L2.atI vs i=some v/\Rep K F v w:=by
 unfold L2.atI at h ⊢;rw[r.length];cases q:ixN ws.length i with
 |none=>rw[q]at h;cases h
 |some j=>rw[q]at h;show Reps.get r h
def fIx:W->W->R W
 | .lst ws,.int i=>toR (L2.atI ws i)
 | .tup ws,.int i=>toR (L2.atI ws i)
 | .scr ws,.int i=>toR (L2.atI ws i)
 |_,_=>.stuck
def AR:Op2 K .B .U (rIx K) fIx:=by
 intro EX H0 Hs G H ρ σ Ha Hb x y u v Q I s mx O o;cases u <;> first|show o.elim|skip
 all_goals (cases v <;> first|show o.elim|skip)
 .rename_i ws i
  obtain ⟨a,vs,rfl,hs,r⟩:=mx.tupB I;replace o:Out EX G H (mdW K .U H0 Hs) (toR (L2.atI ws i)) Q:=o
  cases q:L2.atI ws i with
  |none=>rw[q]at o;show o.elim
  | some w=>
   rw[q]at o;obtain ⟨v,L,rv⟩:=r.atI q;show .inr (.inl ⟨a,vs,i,v,rfl,O.intB,SqT.of hs,L,o v G H (Ext.refl I.gh) rv⟩)
 .rename_i ws i
  obtain ⟨a,vs,rfl,hs,r⟩:=mx.lstB I;replace o:Out EX G H (mdW K .U H0 Hs) (toR (L2.atI ws i)) Q:=o
  cases q:L2.atI ws i with
  |none=>rw[q]at o;show o.elim
  | some w=>
   rw[q]at o;obtain ⟨v,L,rv⟩:=r.atI q;show .inl ⟨a,vs,i,v,rfl,O.intB,SqL.of hs,L,o v G H (Ext.refl I.gh) rv⟩
 .rename_i ws i
  obtain ⟨a,vs,rfl,hs,r⟩:=mx.scrB I;replace o:Out EX G H (mdW K .U H0 Hs) (toR (L2.atI ws i)) Q:=o
  cases q:L2.atI ws i with
  |none=>rw[q]at o;show o.elim
  | some w=>
   rw[q]at o;obtain ⟨v,L,rv⟩:=r.atI q;show .inl ⟨a,vs,i,v,rfl,O.intB,hs,L,o v G H (Ext.refl I.gh) rv⟩
def AQ:Op2 K .C .V (rIx K) fIx:=by
 intro EX H0 Hs G H ρ σ Ha Hb x y u v Q I s mx O o;cases u <;> first|show o.elim|skip
 all_goals (cases v <;> first|show o.elim|skip)
 .rename_i ws i
  obtain ⟨a,vs,rfl,hs,r⟩:=mx.tupC I;replace o:Out EX G H (mdW K .V H0 Hs) (toR (L2.atI ws i)) Q:=o
  cases q:L2.atI ws i with
  |none=>rw[q]at o;show o.elim
  | some w=>
   rw[q]at o;obtain ⟨v,L,rv⟩:=r.atI q;show .inr (.inl ⟨a,vs,i,v,rfl,Md.intB (Md.CB I O),SqT.of hs,L,o v G H (Ext.refl I.gh) rv⟩)
 .rename_i ws i
  obtain ⟨a,vs,rfl,hs,r⟩:=mx.lstC I;replace o:Out EX G H (mdW K .V H0 Hs) (toR (L2.atI ws i)) Q:=o
  cases q:L2.atI ws i with
  |none=>rw[q]at o;show o.elim
  | some w=>
   rw[q]at o;obtain ⟨v,L,rv⟩:=r.atI q;show .inl ⟨a,vs,i,v,rfl,Md.intB (Md.CB I O),SqL.of hs,L,o v G H (Ext.refl I.gh) rv⟩
 .rename_i ws i
  obtain ⟨a,vs,rfl,hs,r⟩:=(Md.repC mx λ_=>W.noConfusion).inv;replace o:Out EX G H (mdW K .V H0 Hs) (toR (L2.atI ws i)) Q:=o
  cases q:L2.atI ws i with
  |none=>rw[q]at o;show o.elim
  | some w=>
    rw[q]at o;obtain ⟨v,L,rv⟩:=r.atI q;show .inl ⟨_,_,i,v,rfl,Md.intB (Md.CB I O),Same.seq I.gh hs,L,o v G H (Ext.refl I.gh) rv⟩
def am (K:Frag)(EX:EXT)(m:Rho->R Jv):TO:=λσ H Q=>∃H0 G ρ,PIv K H0 G ρ σ H/\Out EX G H (λ(b c:Jv) _ _=>c=b) (m ρ) Q
def gB:W->R Jv
 | .int i=>.ok (some i)
 |_=>.stuck
def ui (h:am K EX (λ_=>.ok none) σ H Q):tNoPart σ H Q:=by
 obtain ⟨H0,G,ρ,I,o⟩:=h;show o none G H (Ext.refl I.gh) rfl
def Dh (h:am K EX (λρ=>m ρ>>=gB) σ H Q):uG (tM K EX .B m) σ H Q:=by
 obtain ⟨H0,G,ρ,I,o⟩:=h;refine ⟨H0,G,ρ,I,Out.bind o λx G1 H1 u e1 L q=>?_⟩;cases u <;> first|show q.elim|skip
 rename_i i
 show ⟨i,L.intB,q _ G1 H1 (Ext.refl e1.gh) rfl⟩
def E5 (xs:JZ)(lo hi:Jv):JZ:=(xs.drop (HT.sIx xs.length 0 lo)).take (HT.sIx xs.length xs.length hi-HT.sIx xs.length 0 lo)
def Reps.cut (r:Reps K F vs ws) (lo hi:Jv):Reps K F (fk vs lo hi) (E5 ws lo hi):=by
 unfold fk E5;rw[r.length];show (r.drop _).take _
def lstOf:W->Option JZ
 | .lst ws=>some ws
 | .scr ws=>some ws
 |_=>none
def chks (c:Bool)(ws:JZ):R W:=if c||l9 ws then .ok (.lst ws) else .stuck
def cb (c:Bool):Mode:=if c then .C else .B
def Md.lstOf (I:PIv K H0 G ρ σ H) (m:Md K H0 Ha G H x w (cb c)) (h:lstOf w=some ws):∃a vs,x=.ref a/\SqL K H a vs/\Reps K (if c then G else join H0 G) vs ws:=by
 cases c with
 | true=>
  rw[qA2 rfl];cases w <;> first|cases h|skip
  .obtain ⟨a,vs,e,hs,r⟩:=Md.lstC (H:=Ha) I m;show ⟨a,vs,e,SqL.of hs,r⟩
  .obtain ⟨a,vs,e,hs,r⟩:=(Md.repC m λ_=>W.noConfusion).inv;show ⟨a,vs,e,Same.seq I.gh hs,r⟩
 | false=>
  rw[qA4 qA3];cases w <;> first|cases h|skip
  .obtain ⟨a,vs,e,hs,r⟩:=Md.lstB (H:=Ha) I m;show ⟨a,vs,e,SqL.of hs,r⟩
  .show Md.scrB (H:=Ha) I m
def Out.chks {Q:VK}(I:PIv K H0 G ρ σ H) (s:Same Hs H) (r:Reps K (if c then G else join H0 G) vs ws) (o:Out EX G H (mdW K .F H0 Hs) (chks c ws) Q):∀p,H p=none->Q (.ref p) (upd H p (.lst vs)):=by
 unfold TP.chks at o;by_cases n:(c||l9 ws)=true
 .rw [qA2 n]at o
  have L:Reps K G vs ws:=by
   cases c with
   |true=>rw[qA2 rfl]at r;show r
   |false=>rw[qA4 qA3]at r;show Reps.clean I r (by simpa using n)
  show λp q=>Out.newL I s L q o
 .rw[qA4 n]at o;show o.elim
def c_sl (h:tM K EX .F (λρ=>m ρ>>=λx=>ml ρ>>=λl=>mh ρ>>=λu=>toR (lstOf x)>>=λws=>chks c (E5 ws l u)) σ H Q):
  tSl (zW K) (tM K EX (cb c) m) (am K EX ml) (am K EX mh) σ H Q:=by
 obtain ⟨H0,G,ρ,I,o⟩:=h;refine ⟨H0,G,ρ,I,Out.bind o λx G1 H1 w e1 m1 o1=>⟨H0,G1,ρ,I.ext e1,Out.bind o1 λl' G2 H2 l e2 m2 o2=>⟨H0,G2,ρ,(I.ext e1).ext e2,Out.bind o2 λu' G3 H3 u O m3 L=>?_⟩⟩⟩;subst m2;subst m3;have I3:=((I.ext e1).ext e2).ext O;cases q:lstOf w with
 |none=>rw[q]at L;show L.elim
 | some ws=>
  rw[q]at L;obtain ⟨a,vs,ex,hs,r⟩:=Md.lstOf I3 ((m1.move e2).move O) q;refine ⟨a,vs,ex,hs,Out.chks I3 ((e1.hh.trans e2.hh).trans O.hh) (c:=c) ?_ L⟩;cases c with
  |true=>rw[qA2 rfl]at r ⊢;show r.cut _ _
  |false=>rw[qA4 qA3]at r ⊢;show r.cut _ _
def Cal (K:Frag) (b d:Mode) (r:List V->Hp->VK->Prop) (f:List W->R W):Prop:=∀(EX:EXT) (H0 Hs G H:Hp) (ρ:Rho) (σ:St) (q:Hp) (vs:List V) (ws:JZ) (Q:VK),PIv K H0 G ρ σ H->Same Hs H->MdA K b H0 q G H ws vs ->
 Out EX G H (mdW K d H0 Hs) (f ws) Q->r vs H Q
def uj (q:Cal K b d r f) (h:tM K EX d (λρ=>ma ρ>>=λws=>f ws) σ H Q):tCB r (tA K EX b ma) σ H Q:=by
 obtain ⟨H0,G,ρ,I,o⟩:=h;show ⟨H0,G,ρ,I,Out.bind o λxs G1 H1 ws e1 O L=>q EX H0 H G1 H1 ρ σ H xs ws Q (I.ext e1) e1.hh O L⟩
def fLen:List W->R W
 | [w]=>y4 w>>=λws=>.ok (.int ws.length)
 |_=>.stuck
def m9:Cal K .B d (λxs H Q=>∃p q,xs = [.ref p]/\(SqL K H p q\/SqT K H p q)/\Q (.int q.length) H) fLen:=by
 intro EX H0 Hs G H ρ σ L vs ws Q I s m o;cases m with
 |nil=>show o.elim
 | cons a t=>
  cases t with
  |cons _ _=>show o.elim
  | nil=>
   rename_i w v
   cases w <;> first|show o.elim|skip
   .obtain ⟨p,q,rfl,hs,r⟩:=a.tupB I;show ⟨p,q,rfl,.inr (SqT.of hs),by rw[r.length];show o _ G H (Ext.refl I.gh) (Md.sca rfl (λ_=>.int) d)⟩
   .obtain ⟨p,q,rfl,hs,r⟩:=a.lstB I;show ⟨p,q,rfl,.inl (SqL.of hs),by rw[r.length];show o _ G H (Ext.refl I.gh) (Md.sca rfl (λ_=>.int) d)⟩
   .obtain ⟨p,q,rfl,hs,r⟩:=a.scrB I;show ⟨p,q,rfl,.inl hs,by rw[r.length];show o _ G H (Ext.refl I.gh) (Md.sca rfl (λ_=>.int) d)⟩
def gJ (c:Bool):List W->R W
 | [w]=>y4 w>>=chks c
 |_=>.stuck
def Dx:Cal K (cb c) .F (λxs H Q=>∃p q,xs = [.ref p]/\(SqL K H p q\/SqT K H p q)/\∀l,H l=none->Q (.ref l) (upd H l (.lst q))) (gJ c):=by
 intro EX H0 Hs G H ρ σ L vs ws Q I s m o;cases m with
 |nil=>show o.elim
 | cons a t=>
  cases t with
  |cons _ _=>show o.elim
  | nil=>
   rename_i w v
   cases w <;> first|show o.elim|skip
   .rename_i us
    cases c with
    | true=>
     obtain ⟨p,q,rfl,hs,r⟩:=Md.tupC (H:=L) I a;show ⟨p,q,rfl,.inr (SqT.of hs),Out.chks (c:=true) I s r o⟩
    | false=>
     obtain ⟨p,q,rfl,hs,r⟩:=Md.tupB (H:=L) I a;show ⟨p,q,rfl,.inr (SqT.of hs),Out.chks (c:=false) I s r o⟩
   .obtain ⟨p,q,rfl,hs,r⟩:=Md.lstOf I a rfl;show ⟨p,q,rfl,.inl hs,Out.chks I s r o⟩
   .obtain ⟨p,q,rfl,hs,r⟩:=Md.lstOf I a rfl;show ⟨p,q,rfl,.inl hs,Out.chks I s r o⟩
def U8 (c:Bool)(ws:JZ):R W:=if c||l9 ws then .ok (.tup ws) else .stuck
def L1 (c:Bool):List W->R W
 | [w]=>y4 w>>=U8 c
 |_=>.stuck
def P6:Cal K (cb c) .F (λxs H Q=>∃p O,xs = [.ref p]/\((SqL K H p O/\∀l,H l=none->Q (.ref l) (upd H l (.tup O)))\/(SqT K H p O/\Q (.ref p) H))) (L1 c):=by
 intro EX H0 Hs G H ρ σ Ha vs ws Q I s m o;have key:∀{vs:List V}{us:JZ},Reps K (if c then G else join H0 G) vs us->Out EX G H (mdW K .F H0 Hs) (U8 c us) Q->Reps K G vs us/\Out EX G H (mdW K .F H0 Hs) (.ok (.tup us)) Q:=λ{vs us} r o=>by
  unfold U8 at o;by_cases n:(c||l9 us)=true
  .rw [qA2 n]at o
   refine ⟨?_,o⟩;cases c with
   |true=>rw[qA2 rfl]at r;show r
   |false=>rw[qA4 qA3]at r;show Reps.clean I r (by simpa using n)
  .rw[qA4 n]at o;show o.elim
 cases m with
 |nil=>show o.elim
 | cons a t=>
  cases t with
  |cons _ _=>show o.elim
  | nil=>
   rename_i w v
   cases w <;> first|show o.elim|skip
   .rename_i us
    have hx:∃p O,v=.ref p/\(if c then G else join H0 G) p=some (.tup O)/\Reps K (if c then G else join H0 G) O us:=by
     cases c with
     |true=>rw[qA2 rfl];show (Md.repC a λ_=>W.noConfusion).inv
     |false=>rw[qA4 qA3];show (Md.repB a λ_=>W.noConfusion).inv
    obtain ⟨p,O,rfl,L,r⟩:=hx;obtain ⟨r',o'⟩:=key r o;have hH:H p=some (.tup O):=by
     cases c with
     |true=>rw[qA2 rfl]at L;show I.gh _ _ L
     |false=>rw[qA4 qA3]at L;show I.join_H _ _ L
    have hG:G p=some (.tup O):=by
     cases c with
     |true=>rw[qA2 rfl]at L;show L
     | false=>
      rw[qA4 qA3]at L;unfold join at L;cases q:H0 p with
      |none=>rw[q]at L;show L
      | some u=>
       rw[q]at L;dsimp only at L;by_cases hl:isL u=true
       .rw[qA2 hl]at L;cases L;cases hl
       .rw[qA4 hl]at L;show L
    show ⟨p,O,rfl,.inr ⟨SqT.of hH,o' _ G H (Ext.refl I.gh) (.tup hG r')⟩⟩
   .obtain ⟨p,O,rfl,hs,r⟩:=Md.lstOf I a rfl;obtain ⟨r',o'⟩:=key r o;show ⟨p,O,rfl,.inl ⟨hs,λl hl=>Out.newTF I r' hl o'⟩⟩
   .obtain ⟨p,O,rfl,hs,r⟩:=Md.lstOf I a rfl;obtain ⟨r',o'⟩:=key r o;show ⟨p,O,rfl,.inl ⟨hs,λl hl=>Out.newTF I r' hl o'⟩⟩
def f2 (g:Int->Int->Int):List W->R W
 | [.int i,.int j]=>.ok (.int (g i j))
 |_=>.stuck
def b_2:Cal K .B d (λxs H Q=>∃i j,xs = [.int i,.int j]/\Q (.int (g i j)) H) (f2 g):=by
 intro EX H0 Hs G H ρ σ q vs ws Q I s m o;unfold f2 at o
 split at o
 .cases m with
  | cons a t=>
   cases t with
   | cons b t=>
    cases t;show ⟨_,_,by rw[a.intB,b.intB],o _ G H (Ext.refl I.gh) (Md.sca rfl (λ_=>.int) d)⟩
 .show o.elim
def tyW:W->Option String
 | .non=>some "NoneType"
 | .bl _=>some "bool"
 | .int _=>some "int"
 | .str _=>some "str"
 | .tup _=>some "tuple"
 | .lst _=>some "list"
 |_=>none
def fIsi:List W->R W
 | [x,.ty T]=>toR ((tyW x).bind λA=>w8 A T)>>=λb=>.ok (.bl b)
 |_=>.stuck
def yE (I:PIv K H0 G ρ σ H) (m:Md K H0 Ha G H v w .B) (h:tyW w=some A):L2.tyB H v=some A:=by
 cases w <;> first|cases h|skip
 .rw[m.nonB];rfl
 .rw[m.blB];rfl
 .rw[m.intB];rfl
 .rw[m.strB];rfl
 .obtain ⟨a,vs,rfl,hs,r⟩:=m.tupB I
  change L2.tyO (H a)=_;rw[hs];rfl
 .obtain ⟨a,vs,rfl,hs,r⟩:=m.lstB I
  change L2.tyO (H a)=_;rw[hs];rfl
def V8:Cal K .B d rIsi fIsi:=by
 intro EX H0 Hs G H ρ σ O vs ws Q I s m o;cases m with
 |nil=>show o.elim
 | @cons x _ _ _ a t=>
  cases t with
  |nil=>show o.elim
  | @cons y _ _ _ b t=>
   cases t with
   |cons _ _=>first|show o.elim | (cases y <;> show o.elim)
   | nil=>
    cases y <;> first|show o.elim|skip
    rename_i T
    replace o:Out EX G H (mdW K d H0 Hs) (toR ((tyW x).bind λA=>w8 A T)>>=λb=>.ok (.bl b)) Q:=o
    cases q:tyW x with
    |none=>rw[q]at o;show o.elim
    | some A=>
     rw[q]at o;replace o:Out EX G H (mdW K d H0 Hs) (toR (w8 A T)>>=λb=>.ok (.bl b)) Q:=o
     cases L:w8 A T with
     |none=>rw[L]at o;show o.elim
     | some c=>
      rw[L]at o;show ⟨_,T,by rw[b.tyB],A,yE I a q,c,L,o _ G H (Ext.refl I.gh) (Md.sca rfl (λ_=>.bl) d)⟩
def mY (c:Bool):W->W->R W
 | .lst us,.lst vs=>if us.length+vs.length<=1000 then chks c (us++vs) else .stuck
 |_,_=>.stuck
def AS:Op2 K (cb c) .F rCat (mY c):=by
 intro EX H0 Hs G H ρ σ Ha q x y u v Q I s O L o;cases u <;> first|show o.elim|skip
 all_goals (cases v <;> first|show o.elim|skip)
 rename_i us vs
 replace o:Out EX G H (mdW K .F H0 Hs) (if us.length+vs.length<=1000 then chks c (us++vs) else .stuck) Q:=o
 by_cases hn:us.length+vs.length<=1000
 .rw [qA2 hn]at o
  have h1:∃a ws,x=.ref a/\H a=some (.lst ws)/\Reps K (if c then G else join H0 G) ws us:=by
   cases c with
   |true=>show Md.lstC (H:=Ha) I O
   |false=>show Md.lstB (H:=Ha) I O
  have h2:∃a ws,y=.ref a/\H a=some (.lst ws)/\Reps K (if c then G else join H0 G) ws vs:=by
   cases c with
   |true=>show Md.lstC (H:=q) I L
   |false=>show Md.lstB (H:=q) I L
  obtain ⟨a,xs,rfl,ha,ra⟩:=h1;obtain ⟨b,ys,rfl,hb,rb⟩:=h2;show ⟨a,b,xs,ys,rfl,rfl,ha,hb,by rw[ra.length,rb.length];show X1 hn,Out.chks I s (ra.append rb) o⟩
 .rw[qA4 hn]at o;show o.elim
def fRep (c:Bool):W->W->R W
 | .lst us,.int k=>if us.length*k.toNat<=1000 /\ -1000<=k/\k<=1000 then chks c (List.replicate k.toNat us).flatten else .stuck
 |_,_=>.stuck
def mC (w:W):JJ:=λ_=>.ok w
def b1 (f:W->R W)(ma:JJ):JJ:=λρ=>ma ρ>>=λx=>f x
def b2 (f:W->W->R W)(ma mb:JJ):JJ:=λρ=>ma ρ>>=λx=>mb ρ>>=λy=>f x y
def bA (f:List W->R W)(ma:JW):JJ:=λρ=>ma ρ>>=λws=>f ws
def bI (f:List W->R JZ)(ma:JW):JW:=λρ=>ma ρ>>=f
def bS (ma:JJ):JW:=λρ=>ma ρ>>=y4
def aN:JW:=λ_=>.ok []
def aC (ma:JJ)(q:JW):JW:=λρ=>ma ρ>>=λx=>q ρ>>=λxs=>.ok (x::xs)
def bj (ma:JJ):JJ:=λρ=>ma ρ>>=chk
def e9 (ma:JJ):JK:=λρ=>ma ρ>>=toB
def gy (a b:JK):JK:=λρ=>rAnd (a ρ) (b ρ)
def J0 (a b:JK):JK:=λρ=>rOr (a ρ) (b ρ)
def t7 (a:JK):JK:=λρ=>mv (a ρ)
def qQ (a b:JJ):JJ:=λρ=>bv (a ρ) (b ρ)
def vOr (a b:JJ):JJ:=λρ=>ip (a ρ) (b ρ)
def vNot (a:JJ):JJ:=λρ=>mq (a ρ)
def vIf (c:JK)(a b:JJ):JJ:=λρ=>c ρ>>=λt=>if t then a ρ else b ρ
def cV (f q:W->W->R W)(ma mb mc:JJ):JJ:=λρ=>ma ρ>>=λx=>mb ρ>>=λy=>f x y>>=λz=>toB z>>=λc=>if c then mc ρ>>=λu=>q y u else .ok (.bl false)
def B1 (ma:JW):JJ:=λρ=>ma ρ>>=λws=>lim ws.length (.tup ws)
def C0 (ma:JW):JJ:=λρ=>ma ρ>>=λws=>lim ws.length (.lst ws)
def pN:Rho->R Jv:=λ_=>.ok none
def pS (m:JJ):Rho->R Jv:=λρ=>m ρ>>=gB
def vSl (c:Bool)(m:JJ)(q L:Rho->R Jv):JJ:=λρ=>m ρ>>=λx=>q ρ>>=λl=>L ρ>>=λu=>toR (lstOf x)>>=λws=>chks c (E5 ws l u)
def n8 (n:Nat)(q:JW)(mg:JX)(mc:JK)(me:JJ):JJ:=λρ=>q ρ>>=λws=>n5 n mg mc me ws ρ
def yes:JK:=λ_=>.ok true
def sNx:JV:=λρ=>.ok (.nx ρ)
def DU (m:JJ):JV:=λρ=>m ρ>>=λ_=>.ok (.nx ρ)
def g7 (m:JJ):JV:=λρ=>m ρ>>=λw=>.ok (.rt w)
def DR:JV:=λ_=>.ok (.rt .non)
def sV (i:Nat)(m:JJ):JV:=λρ=>m ρ>>=λw=>.ok (.nx (ρ.set i (.val w)))
def sU (i:Nat)(m:JJ):JV:=λρ=>m ρ>>=λw=>.ok (.nx (ρ.set i (.par w)))
def sF (i:Nat)(m:JJ):JV:=λρ=>m ρ>>=λw=>.ok (.nx (ρ.set i (P0 w)))
def sG (mg:JX)(m:JJ):JV:=λρ=>m ρ>>=λw=>toR (mg w ρ)>>=λq=>.ok (.nx q)
def z6 (q:JW)(mg:JX)(mb:JV):JV:=λρ=>q ρ>>=λws=>B2 mg mb ws ρ
def eE (i:Nat)(m:JV):JV:=λρ=>m (frz i ρ)
def oq:JV:=λ_=>.stuck
def sBk:JV:=λρ=>.ok (.bk ρ)
def sCt:JV:=λρ=>.ok (.ct ρ)
def _root_.L2.PE.mono {X:Cx}{e:Expr}{t t':TE}(h:PE X e t)(hm:∀σ H Q,t' σ H Q->t σ H Q):PE X e t':=λpins s σ H Q I q=>h pins s σ H Q I (hm σ H Q q)
def _root_.L2.PT.mono {X:Cx}{e:Expr}{t t':TT}(h:PT X e t)(hm:∀σ H Q,t' σ H Q->t σ H Q):PT X e t':=λpins s σ H Q I q=>h pins s σ H Q I (hm σ H Q q)
def _root_.L2.PW.mono {X:Cx}{e:Expr}{t t':TT}(h:PW X e t)(hm:∀σ H Q,t' σ H Q->t σ H Q):PW X e t':=λwh pins s σ H Q I q=>h wh pins s σ H Q I (hm σ H Q q)
def _root_.L2.PA.mono {X:Cx}{es:Jx}{t t':TA}(h:PA X es t)(hm:∀σ H Q,t' σ H Q->t σ H Q):PA X es t':=λpos pins s σ H Q I q=>h pos pins s σ H Q I (hm σ H Q q)
def _root_.L2.PS.mono {X:Cx}{st:Stmt}{t t':TS}(h:PS X st t)(hm:∀D σ H,t' D σ H->t D σ H):PS X st t':=λpins s σ H D I q=>h pins s σ H D I (hm D σ H q)
def _root_.L2.PSs.mono {X:Cx}{L:List Stmt}{t t':TS}(h:PSs X L t)(hm:∀D σ H,t' D σ H->t D σ H):PSs X L t':=λpins s σ H D I q=>h pins s σ H D I (hm D σ H q)
def _root_.L2.PI.mono {X:Cx}{e:Expr}{tg:Expr}{t t':TI}(h:PI X tg e t)(hm:∀σ H Q,t' σ H Q->t σ H Q):PI X tg e t':=λpins s σ H Q I q=>h pins s σ H Q I (hm σ H Q q)
def _root_.L2.PO.mono {X:Cx}{L:Option Expr}{t t':TO}(h:PO X L t) (hm:∀σ H Q,t' σ H Q->t σ H Q):PO X L t':=by
 intro pins s σ H Q I q;show h pins s σ H Q I (hm σ H Q q)
def n9 (h:PE X e (tM K EX .F ma)):PE X e (tM K EX .V ma):=h.mono λ_ _ _ q=>wT q
def iu (h:PE X e (tM K EX .V ma)):PE X e (tM K EX .U ma):=h.mono λ_ _ _ q=>wQ q
def q_VC (h:PE X e (tM K EX .V ma)):PE X e (tM K EX .C ma):=h.mono λ_ _ _ q=>wR q
def g6 (h:PE X e (tM K EX .F ma)):PE X e (tM K EX .C ma):=h.mono λ_ _ _ q=>wU q
def f9 (h:PE X e (tM K EX .U ma)):PE X e (tM K EX .B ma):=h.mono λ_ _ _ q=>wS q
def i8 (h:PE X e (tM K EX .C ma)):PE X e (tM K EX .B ma):=h.mono λ_ _ _ q=>wV q
def df (h:PE X e (tM K EX .U ma)):PE X e (tM K EX .V (bj ma)):=h.mono λ_ _ _ q=>iO (.inr rfl) q
def Aq (h:PE X e (tM K EX .U ma)):PE X e (tM K EX .F (bj ma)):=h.mono λ_ _ _ q=>iO (.inl rfl) q
def qv {X:Cx}{K:Frag}{EX:EXT}{pos:Pos}(d:Mode)(i:Nat){x:Str}(O:X.N[i]?=some x:=by rfl)(hv:Vis X.env.scope x:=by first|show Or.inl rfl|show Or.inr (Or.inl rfl)|show Or.inr (Or.inr rfl))(hd:(x == ("__debug__" : Str))=false:=by decide)(L:(x == ("__classdict__" : Str))=false:=by decide):PE X (.Name x pos) (tM K EX d (b6 d i)):=(Q2 O hv hd L).mono λ_ _ _ q=>nq q
def c7 {i j}:PE X (.Constant (.int i) j pos) (tM K EX d (mC (.int i))):=pe_int.mono λ_ _ _ q=>X8 rfl (λ_=>.int) q
def t5 {t j}:PE X (.Constant (.bool t) j pos) (tM K EX d (mC (.bl t))):=pe_bl.mono λ_ _ _ q=>X8 rfl (λ_=>.bl) q
def M3 {j}:PE X (.Constant .none j pos) (tM K EX d (mC .non)):=pe_non.mono λ_ _ _ q=>X8 rfl (λ_=>.non) q
def B6 {x j}:PE X (.Constant (.str x) j pos) (tM K EX d (mC (.str x))):=pe_str.mono λ_ _ _ q=>X8 rfl (λ_=>.str) q
def az {X:Cx}{K:Frag}{EX:EXT}{d:Mode}{pos:Pos}{x:Str}{n:String}(L:Gl X x) (hm:X.mg x=none) (O:bootBuiltins x=some (.type n)) (hn:x ≠ "__name__" := by decide) (hd:(x == ("__debug__" : Str))=false:=by decide):PE X (.Name x pos) (tM K EX d (mC (.ty n))):=
 (wC (v:=.ty n) L hm O rfl hn hd).mono λ_ _ _ q=>X8 rfl (λ_=>.ty) q
def g9 (O:OpR X (binaryOp op) r) (L:Op2 K b d r f) (ha:PE X a (tM K EX b ma)) (hb:PE X c (tM K EX b mb)):PE X (.BinOp a op c pos) (tM K EX d (b2 f ma mb)):=
 (Em O ha hb).mono λ_ _ _ q=>jC L q
def R7 (O:OpR X (compareOp op) r) (L:Op2 K b d r f) (ha:PE X a (tM K EX b ma)) (hb:PE X c (tM K EX b mb)) (hm:behindInMarks op c=false:=by first|show pi _|rfl):PE X (.Compare a [op] [c] pos) (tM K EX d (b2 f ma mb)):=
 (wB O ha hb hm).mono λ_ _ _ q=>jC L q
def j3 (O:OpR X (compareOp op) r) (L:Op2 K b .B r f) (ha:PE X a (tM K EX b ma)) (hb:PE X c (tM K EX b mb)) (hm:behindInMarks op c=false:=by first|show pi _|rfl):PT X (.Compare a [op] [c] pos) (tT K EX (e9 (b2 f ma mb))):=
 (wn O ha hb hm).mono λσ H Q q=>by
  obtain ⟨H0,G,ρ,I,o⟩:=q
  have:=jB (ma:=b2 f ma mb) ⟨H0,G,ρ,I,o⟩
  show jC L this
def cD (O:UnR X (unaryOp op) r) (L:Op1 K b d r f) (ha:PE X a (tM K EX b ma)):PE X (.UnaryOp op a pos) (tM K EX d (b1 f ma)):=
 (El O ha).mono λ_ _ _ q=>c_un L q
def k7 (ha:PE X a (tM K EX .B ma)) (L:∀whole,isTrue a X.env whole=(do let v <- whole;standAt a.pos;holding [v] (truthy v)):=by intro _;rfl):PT X a (tT K EX (e9 ma)):=
 (Aw ha L).mono λ_ _ _ q=>c_tB q
def kJ (ha:PT X a (tT K EX ta)):PW X (.BoolOp .And [a] pos) (tT K EX ta):=wm ha
def J3 (ha:PT X a (tT K EX ta)):PW X (.BoolOp .Or [a] pos) (tT K EX ta):=As ha
def oI {rest:Jx}(ha:PT X a (tT K EX ta))(hb:PW X (.BoolOp .And (b::rest) pos) (tT K EX tb)):PW X (.BoolOp .And (a::b::rest) pos) (tT K EX (gy ta tb)):=(Au ha hb).mono λ_ _ _ q=>Fk q
def E7 {rest:Jx}(ha:PT X a (tT K EX ta))(hb:PW X (.BoolOp .Or (b::rest) pos) (tT K EX tb)):PW X (.BoolOp .Or (a::b::rest) pos) (tT K EX (J0 ta tb)):=(Ec ha hb).mono λ_ _ _ q=>c_or q
def p9 (ha:PT X a (tT K EX ta)):PT X (.UnaryOp .Not a pos) (tT K EX (t7 ta)):=(Ax ha).mono λ_ _ _ q=>EZ q
def DY {op}(h:PE X a (tM K EX d ma)):PE X (.BoolOp op [a] pos) (tM K EX d ma):=AH h
def Eb {rest:Jx}(ha:PE X a (tM K EX .B ma))(hb:PE X (.BoolOp .And (b::rest) pos) (tM K EX d mb)):PE X (.BoolOp .And (a::b::rest) pos) (tM K EX d (qQ ma mb)):=(AJ ha hb).mono λ_ _ _ q=>Ds q
def q_if (ht:PT X t (tT K EX ta))(ha:PE X a (tM K EX d ma))(hb:PE X c (tM K EX d mb)):PE X (.IfExp t a c pos) (tM K EX d (vIf ta ma mb)):=(sf ht ha hb).mono λ_ _ _ q=>c_if q
def rT {X:Cx}{K:Frag}{EX:EXT}{b:Mode}{pos:Pos}{ma mb mc:JJ}{O L:CmpOp}{r r':R2}{f f':W->W->R W}{x y z:Expr}(ho:OpR X (compareOp O) r) (hr:Op2 K b .B r f) (a3:OpR X (compareOp L) r') (a4:Op2 K b .B r' f') (ha:PE X x (tM K EX b ma)) (hb:PE X y (tM K EX b mb)) (hc:PE X z (tM K EX b mc)) (hm:lastMarks [O,L] [y,z]=false:=by with_unfolding_all rfl):PT X (.Compare x [O,L] [y,z] pos) (tT K EX (e9 (cV f f' ma mb mc))):=
 (rW ho a3 ha hb hc hm).mono λσ H Q q=>by
  obtain ⟨H0,G,ρ,I,o⟩:=q
  have:=jB (ma:=cV f f' ma mb mc) ⟨H0,G,ρ,I,o⟩
  show yd hr a4 this
def b7:PA X [] (tA K EX d aN):=pa_nil.mono λ_ _ _ q=>Fa q
def a9 (ha:PE X e (tM K EX d ma))(L:PA X es (tA K EX d mr))(hs:starEach (e::es) X.env=(false,eval e X.env)::starEach es X.env:=by rfl):PA X (e::es) (tA K EX d (aC ma mr)):=(bz ha L hs).mono λ_ _ _ q=>Dp q
def B5 {x1}(h:PA X es (tA K EX .V mr)):PE X (.Tuple es x1 pos) (tM K EX .F (B1 mr)):=(oQ h).mono λ_ _ _ q=>EU q
def oH {x1}(h:PA X es (tA K EX .U mr)):PE X (.Tuple es x1 pos) (tM K EX .U (B1 mr)):=(oQ h).mono λ_ _ _ q=>Db q
def B7 (h:PA X es (tA K EX .V mr)):PE X (.List es pos) (tM K EX .F (C0 mr)):=(AI h).mono λ_ _ _ q=>Fb q
def e8 {X:Cx}{K:Frag}{EX:EXT}{a c:Expr}{pos:Pos}{ma mb:JJ}(ha:PE X a (tM K EX .B ma)) (hb:PE X c (tM K EX .B mb)) (hs:fw c:=by show λ_ _=>rfl) (L:X.K=K:=by rfl):PE X (.Subscript a c pos) (tM K EX .U (b2 fIx ma mb)):=by
 subst L;show (uP pL ha hb hs).mono λ_ _ _ q=>jC AR q
def V3 {X:Cx}{K:Frag}{EX:EXT}{a c:Expr}{pos:Pos}{ma mb:JJ}(ha:PE X a (tM K EX .C ma)) (hb:PE X c (tM K EX .C mb)) (hs:fw c:=by show λ_ _=>rfl) (L:X.K=K:=by rfl):PE X (.Subscript a c pos) (tM K EX .V (b2 fIx ma mb)):=by
 subst L;show (uP pL ha hb hs).mono λ_ _ _ q=>jC AQ q
def Ah:PO X none (am K EX pN):=po_none.mono λ_ _ _ q=>ui q
def Ag (h:PE X e (tM K EX .B ma)):PO X (some e) (am K EX (pS ma)):=(wv h).mono λ_ _ _ q=>Dh q
def Ae {X:Cx}{K:Frag}{EX:EXT}{e:Expr}{pos:Pos}{ma:JJ}(k:Bool){lo hi:Option Expr}{p2:Pos}{L O:Rho->R Jv}(he:PE X e (tM K EX (cb k) ma)) (hl:PO X lo (am K EX L)) (hu:PO X hi (am K EX O)) (hK:X.K=K:=by rfl):PE X (.Subscript e (.Slice lo hi none p2) pos) (tM K EX .F (vSl k ma L O)):=by
 subst hK;show (se vK he hl hu).mono λ_ _ _ q=>c_sl q
def j6 {X:Cx}{K:Frag}{EX:EXT}{d b:Mode}{e:Expr}{es:Jx}{pos:Pos}{mr:JW}{x:Str}{id:String}{r:List V->Hp->VK->Prop}{f:List W->R W}{p:Pos}(hc:B0 X (.builtin id) r) (hr:Cal K b d r f) (hg:Gl X x) (hm:X.mg x=none) (hv:bootBuiltins x=some (.builtin id)) (ha:PA X (e::es) (tA K EX b mr)) (hn:x ≠ "__name__" := by decide) (O:(x == ("__debug__" : Str))=false:=by decide) (he:starEach (e::es) X.env=(false,eval e X.env)::starEach es X.env:=by rfl) (L:(backTo pos (starEach es X.env)).any (·.1)=false:=by rfl):
  PE X (.Call (.Name x p) (e::es) [] pos) (tM K EX d (bA f mr)):=(iy hc hg hm hv ha hn O he L).mono λ_ _ _ q=>uj hr q
def N9 {X:Cx}{K:Frag}{EX:EXT}{d b:Mode}{e:Expr}{es:Jx}{pos:Pos}{mr:JW}{x:Str}{T:String}{r:List V->Hp->VK->Prop}{f:List W->R W}{p:Pos}(hc:B0 X (.type T) r) (hr:Cal K b d r f) (hg:Gl X x) (hm:X.mg x=none) (hv:bootBuiltins x=some (.type T)) (ha:PA X (e::es) (tA K EX b mr)) (hn:x ≠ "__name__" := by decide) (O:(x == ("__debug__" : Str))=false:=by decide) (he:starEach (e::es) X.env=(false,eval e X.env)::starEach es X.env:=by rfl) (L:(backTo pos (starEach es X.env)).any (·.1)=false:=by rfl):
  PE X (.Call (.Name x p) (e::es) [] pos) (tM K EX d (bA f mr)):=(oT hc hg hm hv ha hn O he L).mono λ_ _ _ q=>uj hr q
def n0 (L:X.K=K:=by rfl):B0 X (.builtin "len") (λxs H Q=>∃p q,xs = [.ref p]/\(SqL K H p q\/SqT K H p q)/\Q (.int q.length) H):=by subst L;show jA
def DM (L:X.K=K:=by rfl):B0 X (.type "list") (λxs H Q=>∃p q,xs = [.ref p]/\(SqL K H p q\/SqT K H p q)/\∀l,H l=none->Q (.ref l) (upd H l (.lst q))):=by subst L;show jz
def P7 (L:X.K=K:=by rfl):B0 X (.type "tuple") (λxs H Q=>∃p q,xs = [.ref p]/\((SqL K H p q/\∀l,H l=none->Q (.ref l) (upd H l (.tup q)))\/(SqT K H p q/\Q (.ref p) H))):=by subst L;show gr
def Ar {X:Cx}{K:Frag}{d:Mode}{e:Expr}{es:Jx}{pos:Pos}{mr:JW}{k:Nat}{f:Addr}{fd:FuncData}{ps:Jk}{x:Str}{p:Pos}{n N:Nat}{m:JV}(F:FnOk X.prog X.w X.K X.mg X.base CX0 k f fd ps (spM K n d (j1 n N m))) (hd:d=.F\/d=.V) (hr:Room k X.A) (hg:Gl X x) (hm:X.mg x=some (.ref f)) (hk:PySem.W.keepIn X.K (.ref f)=true) (hb:Binds X.K fd ps []) (ha:PA X (e::es) (tA K (λ_ _=>False) .B mr)) (O:(x == ("__debug__" : Str))=false:=by decide) (he:starEach (e::es) X.env=(false,eval e X.env)::starEach es X.env:=by rfl) (L:(backTo pos (starEach es X.env)).any (·.1)=false:=by rfl):
  PE X (.Call (.Name x p) (e::es) [] pos) (tM K (λ_ _=>False) d (bA (j1 n N m) mr)):=
 (eK F hr hg hm hk hb .nil mB ha O he L).mono λ_ _ _ q=>Dq hd (λws h=>rC ws h) (λ_ _ z=>z) q
def uN (h:PE X e (tM K EX (ar lp .U) ma))(L:X.K=K:=by rfl):PI X tg e (tIt K EX lp .U (bS ma)):=by subst L;show (Ek h).mono λ_ _ _ q=>Fd (.inr rfl) q
def J4 (L:Gl X "range") (hm:X.mg "range" = none) (ha:PA X [a] (tA K EX .B mr)) (hs:starEach [a] X.env = [(false,eval a X.env)]:=by rfl):PI X tg (.Call (.Name "range" p) [a] [] pos) (tIt K EX lp .U (bI N8 mr)):=
 (oP L hm ha hs).mono λ_ _ _ q=>Dg (.inr rfl) q
def uM {X:Cx}{K:Frag}{EX:EXT}{a:Expr}{es:Jx}{pos:Pos}{O:JW}{lp:Bool}{elts:Jx}{p tp:Pos}{k:Nat}(hg:Gl X "zip") (hm:X.mg "zip" = none) (ha:PA X (a::es) (tA K EX (ar lp .U) O)) (hK:X.K=K:=by rfl) (hs:starEach (a::es) X.env=(false,eval a X.env)::starEach es X.env:=by rfl) (L:(backTo pos (starEach es X.env)).any (·.1)=false:=by rfl):
  PI X (.Tuple elts k tp) (.Call (.Name "zip" p) (a::es) [] pos) (tIt K EX lp .U (bI K2 O)):=by subst hK;show (AD hg hm ha hs L).mono λ_ _ _ q=>ET (.inr rfl) q
def Ap (S:g5 X.env.scope cs X.N N') (hc:X.calm=true) (hi:PI X tg iter (tIt K EX false dd mi)) (O:∀cl ex s H,PG (i9 X cs cl N' ex s H) tg g) (L:Gt K dd g mg) (hk:P8 X.N.length g) (ht:∀cl ex s H,PIf (i9 X cs cl N' ex s H) ifs (tT K EX ta)) (he:∀cl ex s H,PE (i9 X cs cl N' ex s H) elt (tM K EX .V ma)) (hs:∀x,foldedSetIterable iter X.env x=pure x:=by intro _;rfl):PE X (.ListComp elt [⟨tg,iter,ifs,0⟩] cs pos) (tM K EX .F (n8 N'.length mi mg ta ma)):=
 (wA S hc hi O hk ht he hs).mono λ_ _ _ q=>qA L q
def Af {X:Cx}{K:Frag}{EX:EXT}{d:Mode}{pos:Pos}{ma:JJ}{ta:JK}{i:Nat}{y:Str}{py:Pos}{cs:Scope}{N':Jk}{tg iter O:Expr}{a3:Jx}{dd:Mode}{g:TG}{mg:JX}{mi:JW}{L:Pos}(S:g5 X.env.scope cs X.N N') (hc:X.calm=true) (hi:PI X tg iter (tIt K EX false dd mi)) (hg:∀cl ex s H,PG (i9 X cs cl N' ex s H) tg g) (a5:Gt K dd g mg) (hk:P8 X.N.length g) (ht:∀cl ex s H,PIf (i9 X cs cl N' ex s H) a3 (tT K EX ta)) (he:∀cl ex s H,PE (i9 X cs cl N' ex s H) O (tM K EX .V ma)) (hN:X.N.Nodup) (hy:X.N[i]?=some y) (hl:Loc X.env.scope y) (a4:swapsWith (.ListComp O [⟨tg,iter,a3,0⟩] cs L) (some (.Name y py)) pos.line X.env=pure true:=by rfl) (hf:X.fn y=true\/X.env.scope.names.lookup y=some .local:=by first|show .inl rfl|show .inr rfl|assumption) (hs:∀x,foldedSetIterable iter X.env x=pure x:=by intro _;rfl):PS X (.Assign [.Name y py] (.ListComp O [⟨tg,iter,a3,0⟩] cs L) pos) (tSt K EX d (sF i (n8 N'.length mi mg ta ma))):=
 (wq S hc hi hg hk ht he hN hy hl a4 hf hs).mono λD σ H q=>by
  have:=qy (m:=n8 N'.length mi mg ta ma) q
  show qA a5 this
def A0:PIf X [] (tT K EX yes):=λpins s σ H Q I q=>wx pins s σ H Q I (by obtain ⟨H0,G,ρ,L,o⟩:=q;show o true G H (Ext.refl L.gh) rfl)
def T4 (h:PT X c (tT K EX ta)):PIf X [c] (tT K EX ta):=ww h
def i5:PSs X [] (tSt K EX d sNx):=pss_nil.mono λ_ _ _ q=>Di q
def b9 (L:PS X st (tSt K EX d m))(O:PSs X sts (tSt K EX d n)):PSs X (st::sts) (tSt K EX d (c9 m n)):=(rX L O).mono λ_ _ _ q=>EW q
def b8 (q:PS X st (tSt K EX d m)):PSs X [st] (tSt K EX d m):=wo q
def gA (h:PS X st (tSt K EX d m)):PS X st (tSt K EX d (eE i m)):=h.mono λ_ _ _ q=>Fe q
def Ao:PS X (.Continue pos) (tSt K EX d sCt):=ps_continue.mono λ_ _ _ q=>Do q
def wf:PS X st (tSt K EX d oq):=ps_never.mono λ_ _ _ q=>xZ q
def f6 (L:PE X e (tM K EX d ma)):PS X (.Return (some e) pos) (tSt K EX d (g7 ma)):=(oK L).mono λ_ _ _ q=>vg q
def M2 {X:Cx}{K:Frag}{EX:EXT}{d:Mode}{pos:Pos}(i:Nat){x:Str}{p:Pos}(hd:d=.F\/d=.V)(hN:X.N[i]?=some x:=by rfl)(hv:Vis X.env.scope x:=by first|show Or.inl rfl|show Or.inr (Or.inl rfl)|show Or.inr (Or.inr rfl))(O:(x == ("__debug__" : Str))=false:=by decide)(L:(x == ("__classdict__" : Str))=false:=by decide):PS X (.Return (some (.Name x p)) pos) (tSt K EX d (x8 d i)):=(oK (Q2 hN hv O L)).mono λ_ _ _ q=>uh hd q
def t4 {X:Cx}{K:Frag}{EX:EXT}{d:Mode}{e:Expr}{pos:Pos}{ma:JJ}{i:Nat}{x:Str}{pos':Pos}(L:X.N.Nodup) (hi:X.N[i]?=some x) (O:Loc X.env.scope x) (he:PE X e (tM K EX .V ma)) (hs:swapsWith e (some (.Name x pos')) pos.line X.env=pure false:=by rfl) (hf:X.fn x=true\/X.env.scope.names.lookup x=some .local:=by first|show .inl rfl|show .inr rfl|assumption):
  PS X (.Assign [.Name x pos'] e pos) (tSt K EX d (sV i ma)):=(W8 L hi O he hs hf).mono λ_ _ _ q=>De q
def de {X:Cx}{K:Frag}{EX:EXT}{d:Mode}{e:Expr}{pos:Pos}{ma:JJ}{i:Nat}{x:Str}{pos':Pos}(L:X.N.Nodup) (hi:X.N[i]?=some x) (O:Loc X.env.scope x) (he:PE X e (tM K EX .U ma)) (hs:swapsWith e (some (.Name x pos')) pos.line X.env=pure false:=by rfl) (hf:X.fn x=true\/X.env.scope.names.lookup x=some .local:=by first|show .inl rfl|show .inr rfl|assumption):
  PS X (.Assign [.Name x pos'] e pos) (tSt K EX d (sU i ma)):=(W8 L hi O he hs hf).mono λ_ _ _ q=>Df q
def o7 {X:Cx}{K:Frag}{EX:EXT}{d:Mode}{e:Expr}{pos:Pos}{ma:JJ}{i:Nat}{x:Str}{pos':Pos}(L:X.N.Nodup) (hi:X.N[i]?=some x) (O:Loc X.env.scope x) (he:PE X e (tM K EX .F ma)) (hs:swapsWith e (some (.Name x pos')) pos.line X.env=pure false:=by rfl) (hf:X.fn x=true\/X.env.scope.names.lookup x=some .local:=by first|show .inl rfl|show .inr rfl|assumption):
  PS X (.Assign [.Name x pos'] e pos) (tSt K EX d (sF i ma)):=(W8 L hi O he hs hf).mono λ_ _ _ q=>qy q
def M4 {X:Cx}{K:Frag}{EX:EXT}{d:Mode}{e:Expr}{pos:Pos}{ma:JJ}{i:Nat}{x:Str}{p apos L:Pos}(hN:X.N[i]?=some x) (hv:Vis X.env.scope x) (ha:PE X e (tM K EX .V ma)) (hd:(x == ("__debug__" : Str))=false:=by decide) (a6:(x == ("__classdict__" : Str))=false:=by decide) (O:attributeBase (.Name x p) "append" X.env (eval (.Name x p) X.env)=eval (.Name x p) X.env:=by rfl) (a4:((backTo L (starEach [e] X.env)).all (λx=>!x.1)&&(backToKw L (keywordEach [] X.env)).all (λx=>x.1.isSome)
   && decide (([e]:Jx).length+([]:List Keyword).length+(if ([]:List Keyword).isEmpty then 0 else 1)<30))=true:=by rfl) (a3:(apos.endLine == L.line)=true:=by rfl) (hs:starEach [e] X.env=(false,eval e X.env)::starEach [] X.env:=by rfl) (a5:swapsWith (.Call (.Attribute (.Name x p) "append" apos) [e] [] L) none pos.line X.env=pure false:=by rfl):
  PS X (.Expr (.Call (.Attribute (.Name x p) "append" apos) [e] [] L) pos) (tSt K EX d (K6 i ma)):=(kK (oU (Q2 hN hv hd a6) ha O a4 a3 hs) a5).mono λ_ _ _ q=>Fj q
def i6 (hc:PT X c (tT K EX ta))(ha:PSs X x (tSt K EX d m))(hb:PSs X y (tSt K EX d n)):PS X (.If c x y pos) (tSt K EX d (mIf ta m n)):=(Ed hc ha hb).mono λ_ _ _ q=>Fc q
def bw (L:PassesOwn (model X.prog X.w) X.A X.env X.xe)(hc:PT X c (tT K EX ta))(hb:PSs X body (tSt K EX d m)):PS X (.While c body [] pos) (tSt K EX d (J5 ta m)):=(rY L hc hb).mono λ_ _ _ q=>xY q
def u9 (hp:PassesOwn (model X.prog X.w) X.A X.env X.xe)(hc:X.calm=true)(hi:PI X tg iter (tIt K EX true dd mi))(O:PG X tg g)(L:Gt K dd g mg)(hb:PSs X body (tSt K EX d m))(hs:∀x,foldedSetIterable iter X.env x=pure x:=by intro _;rfl):PS X (.For tg iter body [] pos) (tSt K EX d (z6 mi mg m)):=(Az hp hc hi O hb hs).mono λ_ _ _ q=>Ff L q
def Ea {X:Cx}{K:Frag}{EX:EXT}{d:Mode}{e:Expr}{pos:Pos}{ma:JJ}{i:Nat}{x:Str}{L:Operator}{f:Int->Int->Int}{pos':Pos}(hN:X.N.Nodup) (hi:X.N[i]?=some x) (O:Loc X.env.scope x) (he:PE X e (tM K EX .B ma)) (ho:PIp X L (ipI f)) (hf:X.fn x=true\/X.env.scope.names.lookup x=some .local:=by first|show .inl rfl|show .inr rfl|assumption):
  PS X (.AugAssign (.Name x pos') L e pos) (tSt K EX d (jb i f ma)):=(AA hN hi O he ho hf).mono λ_ _ _ q=>Fi q
def DW {X:Cx}{K:Frag}{EX:EXT}{d:Mode}{e:Expr}{pos:Pos}{ma mb:JJ}{i:Nat}{x:Str}{k:Expr}{p L:Pos}(hN:X.N[i]?=some x) (hv:Vis X.env.scope x) (hk:PE X k (tM K EX .B mb)) (he:PE X e (tM K EX .V ma)) (hd:(x == ("__debug__" : Str))=false:=by decide) (a3:(x == ("__classdict__" : Str))=false:=by decide) (O:PG X (.Subscript (.Name x p) k L) (gSub (S9 i) (tM K EX .B mb) rSetL)) (hs:swapsWithSole [.Subscript (.Name x p) k L] e pos.line X.env=pure false:=by rfl) (hw:swappedStores [.Subscript (.Name x p) k L] e X.env=pure none:=by rfl):PS X (.Assign [.Subscript (.Name x p) k L] e pos) (tSt K EX d (iX i mb ma)):=
 (AB he O hs hw).mono λ_ _ _ q=>EV q
abbrev gLt (i j:Int):W:=.bl (decide (i<j))
abbrev gLe (i j:Int):W:=.bl (decide (i<=j))
abbrev gGt (i j:Int):W:=.bl (decide (j<i))
abbrev gGe (i j:Int):W:=.bl (decide (j<=i))
abbrev D1 (i j:Int):W:=.int (i+j)
abbrev gSub (i j:Int):W:=.int (i-j)
abbrev A9 (i j:Int):W:=.int (i*j)
abbrev n6 (i j:Int):W:=.int (i%j)
abbrev U1 (i j:Int):W:=.int (i/j)
abbrev tL (i j:Int):W:=.int (i^j.toNat)
abbrev K9 (i:Int):W:=.int (-i)
abbrev aS (i j:Int):Int:=if j>i then j else i
abbrev fb (i j:Int):Int:=if j<i then j else i
abbrev vb (i j:Int):Int:=i+j
abbrev ED (i j:Int):Int:=i-j
abbrev n4 (_ j:Int):Prop:=0<j
instance (i j:Int):Decidable (CMul i j):=by unfold CMul;infer_instance
instance (i j:Int):Decidable (J2 i j):=by unfold J2;infer_instance
instance (i j:Int):Decidable (cS i j):=by unfold cS;infer_instance
instance (i j:Int):Decidable (vv i j):=by unfold vv;infer_instance
def vOf:W->Option V
 | .non=>some .non
 | .bl b=>some (.bl b)
 | .int i=>some (.int i)
 | .str x=>some (.str x)
 |_=>none
def tY (u v:W):Option Bool:=match vOf u,vOf v with
 |some x,some y=>if ie x y then some (decide (x=y)) else none
 |_,_=>none
def l5 (neg:Bool) (u v:W):R W:=match tY u v with
 |some b=>.ok (.bl (if neg then !b else b))
 |none=>.stuck
def gs (h:Md K H0 Ha G H v w .B) (e:vOf w=some x):v=x:=by
 cases w <;> first|cases e|skip
 .show h.nonB
 .show h.blB
 .show h.intB
 .show h.strB
def B9:Op2 K .B d rEq (l5 false):=by
 intro EX H0 Hs G H ρ σ Ha Hb x y u v Q I s mx O o;unfold l5 tY at o;cases hu:vOf u with
 |none=>rw[hu]at o;show o.elim
 | some p=>
  cases L:vOf v with
  |none=>rw[hu,L]at o;show o.elim
  | some q=>
   rw[hu,L]at o;cases gs mx hu;cases gs O L;dsimp only at o;by_cases c:ie x y=true
   .rw [qA2 c]at o
    show ⟨c,o _ G H (Ext.refl I.gh) (Md.sca rfl (λ_=>.bl) d)⟩
   .rw[qA4 c]at o;show o.elim
def X0:Op2 K .B d rNe (l5 true):=by
 intro EX H0 Hs G H ρ σ Ha Hb x y u v Q I s mx O o;unfold l5 tY at o;cases hu:vOf u with
 |none=>rw[hu]at o;show o.elim
 | some p=>
  cases L:vOf v with
  |none=>rw[hu,L]at o;show o.elim
  | some q=>
   rw[hu,L]at o;cases gs mx hu;cases gs O L;dsimp only at o;by_cases c:ie x y=true
   .rw [qA2 c]at o
    show ⟨c,o _ G H (Ext.refl I.gh) (Md.sca rfl (λ_=>.bl) d)⟩
   .rw[qA4 c]at o;show o.elim
mutual
def pd:W->PyData
 | .non=>.none
 | .bl b=>.bool b
 | .int i=>.int i
 | .str x=>.str x
 | .ty _=>.none
 | .exc _ _=>.none
 | .cls _=>.none
 | .tup ws=>.tuple (pds ws)
 | .lst ws=>.list (pds ws)
 | .scr ws=>.list (pds ws)
def pds:List W->List PyData
 | []=>[]
 |w::ws=>pd w::pds ws
end
mutual
def shp:Nat->W->Bool
 |_,.non=>true
 |_,.bl _=>true
 |_,.int _=>true
 |_,.str x=>PyData.strOk x
 |n+1,.tup ws=>J1 n ws
 |n+1,.lst ws=>J1 n ws
 |n+1,.scr ws=>J1 n ws
 |_,_=>false
def J1:Nat->List W->Bool
 |_,[]=>true
 |n,w::ws=>shp n w&&J1 n ws
end
def cX:∀(w:W) (n:Nat),shp n w=true->(pd w).canLay0=true/\(pd w).depth<=n:=by
 intro w;have tl:∀(ws:JZ) (c:List PyData->PyData),(∀l,(c l).canLay0=PyData.canLayAll0 l)->(∀l,(c l).depth=PyData.depthAll l+1)->(∀n:Nat,J1 n ws=true->PyData.canLayAll0 (pds ws)=true/\PyData.depthAll (pds ws)<=n)->∀n:Nat,(match n with|0=>false|n+1=>J1 n ws)=true->(c (pds ws)).canLay0=true/\(c (pds ws)).depth<=n:=λws c O L q n h=>by
  cases n with
  |zero=>cases h
  |succ n=>have:=q n h;show ⟨by rw[O];show this.1,by rw[L];show qG6 this.2⟩
 have fl:∀{n:Nat}{w:W}{P:Prop},shp n w=false->shp n w=true->P:=λO L=>by rw[O]at L;cases L
 induction w using W.rec (motive_2:=λws=>∀n:Nat,J1 n ws=true->PyData.canLayAll0 (pds ws)=true/\PyData.depthAll (pds ws)<=n) with
 |non=>show λn _=>⟨rfl,qD2 _⟩
 |bl b=>show λn _=>⟨rfl,qD2 _⟩
 |int i=>show λn _=>⟨rfl,qD2 _⟩
 |str x=>show λn h=>⟨by cases n <;> show h,qD2 _⟩
 |ty a=>show λn h=>fl (by cases n <;> rfl) h
 |exc a b=>show λn h=>fl (by cases n <;> rfl) h
 |cls a=>show λn h=>fl (by cases n <;> rfl) h
 |tup ws q=>show λn h=>tl ws .tuple (λ_=>rfl) (λ_=>rfl) q n (by cases n <;> show h)
 |lst ws q=>show λn h=>tl ws .list (λ_=>rfl) (λ_=>rfl) q n (by cases n <;> show h)
 |scr ws q=>show λn h=>tl ws .list (λ_=>rfl) (λ_=>rfl) q n (by cases n <;> show h)
 |nil=>show ⟨rfl,qD2 _⟩
 | cons w ws O L=>
  rename_i n h
  have h':shp n w=true/\J1 n ws=true:=(qG5 _ _).mp h;have a:=O n h'.1;have b:=L n h'.2;show ⟨by change (PyData.canLay0 _&&PyData.canLayAll0 _)=true;rw[a.1,b.1];rfl,Nat.max_le.mpr ⟨a.2,b.2⟩⟩
def kA (ws:JZ) (n:Nat) (h:J1 n ws=true):PyData.canLayAll0 (pds ws)=true/\PyData.depthAll (pds ws)<=n:=by
 have:=cX (.tup ws) (n+1) h
 show ⟨this.1,Nat.le_of_succ_le_succ this.2⟩
def Rep.reads {σ:St}(I:Inv X pins σ H s) (n:Nat) (r:Rep X.K H x w):shp n w=true->RelV x u->∃as,Reads s.heap u (pd w) as:=by
 have fl:∀{n:Nat}{w:W}{P:Prop},shp n w=false->shp n w=true->P:=λh1 h2=>by rw[h1]at h2;cases h2
 induction r using Rep.rec (motive_2:=λxs ws _=>∀(us:Jw) (n:Nat),J1 n ws=true->Vals xs us->∃as,ReadsAll s.heap us (pds ws) as) generalizing u n with
 |non=>intro _ r;cases r;show ⟨_,.none⟩
 |bl=>intro _ r;cases r;show ⟨_,.bool _⟩
 |int=>intro _ r;obtain ⟨t,rfl⟩:=r;show ⟨_,.int _ _⟩
 |str=>intro _ r;obtain ⟨t,rfl⟩:=r;show ⟨_,.str _ _⟩
 |ty=>show λh _=>fl (by cases n <;> rfl) h
 |exc=>show λh _=>fl (by cases n <;> rfl) h
 |cls=>show λh _=>fl (by cases n <;> rfl) h
 | tup ha _ O=>
  intro h r;cases r;cases n with
  |zero=>cases h
  | succ n=>
   obtain ⟨its,rv,⟨o,e,c,k,L⟩,_⟩:=I.tuple (SqT.of ha);obtain ⟨as,q⟩:=O _ n h rv;show ⟨_,.tuple e c L (by simpa using q)⟩
 | lst ha _ O=>
  intro h r;cases r;cases n with
  |zero=>cases h
  | succ n=>
   obtain ⟨its,rv,pl,_⟩:=I.list (SqL.of ha);obtain ⟨o,e,c,k,L⟩:=pl.isList;obtain ⟨as,q⟩:=O _ n h rv;show ⟨_,.list e c L (by simpa using q)⟩
 | scr ha _ O=>
  intro h r;cases r;cases n with
  |zero=>cases h
  | succ n=>
   obtain ⟨its,rv,pl,_⟩:=I.list ha;obtain ⟨o,e,c,k,L⟩:=pl.isList;obtain ⟨as,q⟩:=O _ n h rv;show ⟨_,.list e c L (by simpa using q)⟩
 |nil=>rename_i us n _ r;cases r;show ⟨_,.nil⟩
 | cons _ _ h1 h2=>
  rename_i us n h r
  cases r with
  | cons r1 r2=>
   have h':=(qG5 _ _).mp h;obtain ⟨as,q1⟩:=h1 n h'.1 r1;obtain ⟨bs,q2⟩:=h2 _ n h'.2 r2;show ⟨_,.cons q1 q2⟩
def eqW (u v:W):Bool:=PyData.eqv (pd u) (pd v)
def Ac (K:Frag)(neg:Bool):R2:=λx y H Q=>∃u v,Rep K H x u/\Rep K H y v/\shp 8 u=true/\shp 8 v=true/\Q (.bl (if neg then !eqW u v else eqW u v)) H
def fC (h:shp 8 w=true):SeqAt.shaped (pd w)=true:=by
 obtain ⟨a,b⟩:=cX w 8 h;unfold SeqAt.shaped;rw[a,qI8];show qN8 (qB1 b QV)
def di (hu:X.A.units+64<cLine):OpR X (compareOp .Eq) (Ac X.K false):=by
 intro pins s σ H x y v u Q I rx O h;obtain ⟨a,b,ra,rb,sa,L,q⟩:=h;obtain ⟨as,qa⟩:=Rep.reads I 8 ra sa rx;obtain ⟨bs,qb⟩:=Rep.reads I 8 rb L O;show PyProof.Rows.eq_dataH qa qb (fC sa) (fC L) hu ⟨.bl (eqW a b),H,I,rfl,q⟩
def fEq (neg:Bool)(u v:W):R W:=if shp 8 u&&shp 8 v then .ok (.bl (if neg then !eqW u v else eqW u v)) else .stuck
def dn:Op2 K .B d (Ac K neg) (fEq neg):=by
 intro EX H0 Hs G H ρ σ Ha Hb x y u v Q I s O L o;unfold fEq at o;by_cases c:(shp 8 u&&shp 8 v)=true
 .rw [qA2 c]at o
  have q:shp 8 u=true/\shp 8 v=true:=by simpa using c
  show ⟨u,v,O.whole I,L.whole I,q.1,q.2,o _ G H (Ext.refl I.gh) (Md.sca rfl (λ_=>.bl) d)⟩
 .rw[qA4 c]at o;show o.elim
def W2:W->Bool->Bool
 | .bl a,b=>a == b
 |_,_=>false
def fIsB (neg:Bool):W->W->R W
 |u,.bl b=>.ok (.bl (if neg then !W2 u b else W2 u b))
 |_,_=>.stuck
def M8 (q:Room k A):A.units+64<cLine:=q.units
def K4 (r:Vals [x] us):∃u,us = [u]/\RelV x u:=by
 cases r with
 |cons a t=>cases t;show ⟨_,rfl,a⟩
def aR {s:Shared}{h':Heap}(hk:∀b u,b ∉ [s.heap.objs.size]->(s.heap.push o).get? b=some u->h'.get? b=some u):∀b u,s.heap.get? b=some u->h'.get? b=some u:=λb u e=>
 hk b u (by simp;show qC8 (qB3 e)) (qA5 _ e)
def nM {α:Type}{f:α->V}{g:α->Value->Prop}(L:∀a u,RelV (f a) u->g a u){as:List α}(r:Vals (as.map f) its){i:Nat}(h:its.toArray[i]?=some v):∃a,as[i]?=some a/\g a v:=by
 have h':its[i]?=some v:=by simpa using h
 induction as generalizing its i with
 |nil=>cases r;simp at h'
 | cons a as O=>
  cases r with
  | cons q t=>
   cases i with
   |zero=>simp at h';subst h';show ⟨a,rfl,L _ _ q⟩
   |succ i=>simpa using O t (i:=i) (by simpa using h') (by simpa using h')
def fy {σ:St}(I:Inv X pins σ H s) (hc:X.calm=true) (L:H p=some (.lst xs)):∃its:List Value,Vals xs its/\s.heap.IsList p its.toArray/\xs.length=its.toArray.size/\p≠s.heap.objs.size /\
  Walks X.prog X.w X.A.in1 s.heap.objs.size [s.heap.objs.size,p] [s.heap.objs.size] its.toArray.size (λi v=>its.toArray[i]?=some v) (λi h=>h.IsListIter s.heap.objs.size p i/\h.IsList p its.toArray):=by
 obtain ⟨its,rv,pl,hz⟩:=I.list (SqL.of L);obtain ⟨o,e,_⟩:=pl.isList;have q:p≠s.heap.objs.size:=qC8 (qB3 e);show ⟨its,rv,pl.isList,by rw[qB8];show rv.length,q,Walks.list (show X.A.in1.handled=none from I.ok.hd hc) _ p q _⟩
def all_range {bs:List Bool}:(List.range bs.length).all (λi=>bs.getD i false)=bs.all id:=by
 rw[qJ3,qE7,qE7];constructor
 .intro h x q;obtain ⟨i,hi,e⟩:=qE2.mp q
  have:=h i (by simpa using hi)
  rw[qA1]at this;simpa [hi,e]using this
 .intro h i hi;have hi:i<bs.length:=by simpa using hi
  rw[qA1];simpa [hi]using h bs[i] (qK3 hi)
def qV {X:Cx}{bs:List Bool}(rv:Vals (bs.map V.bl) its):TruthOf X.prog X.w A (λi v=>its.toArray[i]?=some v) (λi=>bs.getD i false):=λi v s' L E O hq=>by
 obtain ⟨b,hb,e⟩:=nM (f:=V.bl) (g:=λb u=>u=.bool b) (λb u r=>r) rv O;subst e
 have:bs.getD i false=b:=by rw[qA1,hb];rfl
 have q:L (bs.getD i false) s':=hq;rw[this]at q;show qO7 q
def ge (hc:X.calm=true):B0 X (.builtin "all") (λxs H Q=>∃(p:Addr) (bs:List Bool),xs = [.ref p]/\H p=some (.lst (bs.map V.bl))/\Q (.bl (bs.all id)) H):=by
 intro pins s σ H xs us Q I r h;obtain ⟨p,bs,rfl,L,q⟩:=h;obtain ⟨u,rfl,rx⟩:=K4 r;cases rx;obtain ⟨its,rv,hl,hlen,a3,O⟩:=fy I hc L;rw[qA7]at hlen;refine call_all_walk (qP8 hl ⟨_,_,_,_,_,_,_,rfl,O,⟨⟨_,qC2 _ rfl,rfl,rfl⟩,hl.push _⟩,qV rv,λh' tk hk=>?_⟩);rw[<- hlen,all_range];show ⟨.bl (bs.all id),H,I.kept (t':=tk) (aR hk),rfl,q⟩
def U9:List W->Option (List Bool)
 | []=>some []
 | .bl b::ws=>(U9 ws).map (b::·)
 |_=>none
def yg (bs:List Bool):U9 (bs.map W.bl)=some bs:=by
 induction bs with
 |nil=>rfl
 |cons b bs q=>rw[qC0,U9,q];rfl
def Reps.bls (r:Reps K F vs ws):U9 ws=some bs->vs=bs.map V.bl:=
 Reps.ind (P:=λvs ws=>∀bs,U9 ws=some bs->vs=bs.map V.bl) (λbs h=>by cases h;rfl) (λ{v w vs ws} r _ ih bs h=>by
  cases w <;> first|cases h|skip
  rename_i b
  have e:v=.bl b:=r.inv;subst e;have h':(U9 ws).map (b::·)=some bs:=h;cases q:U9 ws with
  |none=>rw[q]at h';cases h'
  |some cs=>rw[q]at h';cases h';rw[ih cs q];rfl) r bs
def dL (g:List Bool->Bool):List W->R W
 | [.lst ws]=>toR (U9 ws)>>=λbs=>.ok (.bl (g bs))
 |_=>.stuck
def lO:Cal K .B d (λxs H Q=>∃(p:Addr) (bs:List Bool),xs = [.ref p]/\H p=some (.lst (bs.map V.bl))/\Q (.bl (g bs)) H) (dL g):=by
 intro EX H0 Hs G H ρ σ Ha vs ws Q I s m o;cases m with
 |nil=>show o.elim
 | @cons w v L O a t=>
  cases t with
  |cons _ _=>first|show o.elim | (cases w <;> show o.elim)
  | nil=>
   cases w <;> first|show o.elim|skip
   rename_i ws
   obtain ⟨p,ys,rfl,hs,r⟩:=a.lstB I;replace o:Out EX G H (mdW K d H0 Hs) (toR (U9 ws)>>=λbs=>.ok (.bl (g bs))) Q:=o
   cases q:U9 ws with
   |none=>rw[q]at o;show o.elim
   | some bs=>
    rw[q]at o;rw[Reps.bls r q]at hs;show ⟨p,bs,rfl,hs,o _ G H (Ext.refl I.gh) (Md.sca rfl (λ_=>.bl) d)⟩
def cL (bs:List Bool):Bool:=bs.all id
def qC:bootBuiltins "all" = some (.builtin "all"):=Zo
def v8:List W->Option Jg
 | []=>some []
 | .int b::ws=>(v8 ws).map (b::·)
 |_=>none
def ints_map (bs:Jg):v8 (bs.map W.int)=some bs:=by
 induction bs with
 |nil=>rfl
 |cons b bs q=>rw[qC0,v8,q];rfl
def Reps.ints (r:Reps K F vs ws):v8 ws=some bs->vs=bs.map V.int:=
 Reps.ind (P:=λvs ws=>∀bs,v8 ws=some bs->vs=bs.map V.int) (λbs h=>by cases h;rfl) (λ{v w vs ws} r _ ih bs h=>by
  cases w <;> first|cases h|skip
  rename_i b
  have e:v=.int b:=r.inv;subst e;have h':(v8 ws).map (b::·)=some bs:=h;cases q:v8 ws with
  |none=>rw[q]at h';cases h'
  |some cs=>rw[q]at h';cases h';rw[ih cs q];rfl) r bs
def EN (g:List Int->Int):List W->R W
 | [.lst ws]=>toR (v8 ws)>>=λbs=>.ok (.int (g bs))
 |_=>.stuck
def fAbs:List W->R W
 | [.int i]=>.ok (.int (if i<0 then -i else i))
 |_=>.stuck
def fInt:List W->R W
 | [.int i]=>.ok (.int i)
 | [.bl k]=>.ok (.int (if k then 1 else 0))
 |_=>.stuck
def vk:Cal K .B d (λxs H Q=>(∃i,xs = [.int i]/\Q (.int i) H)\/∃k:Bool,xs = [.bl k]/\Q (.int (if k then 1 else 0)) H) fInt:=by
 intro EX H0 Hs G H ρ σ O vs ws Q I s m o;cases m with
 |nil=>show o.elim
 | @cons w v q L a t=>
  cases t with
  |cons _ _=>first|show o.elim | (cases w <;> show o.elim)
  | nil=>
   cases w <;> first|show o.elim|skip
   .show .inr ⟨_,by rw[a.blB],o _ G H (Ext.refl I.gh) (Md.sca rfl (λ_=>.int) d)⟩
   .show .inl ⟨_,by rw[a.intB],o _ G H (Ext.refl I.gh) (Md.sca rfl (λ_=>.int) d)⟩
def fStr:List W->R W
 | [.int i]=>if i.natAbs.log2<1920 then .ok (.str (toString i)) else .stuck
 |_=>.stuck
def iZ (i:Nat) (c:Bool) (m:JJ):JV:=λρ=>match ρ[i]? with
 | some (.own ws)=>m ρ>>=λw=>(match w with
  | .lst us=>if ws.length+us.length<=1000 then (if c||l9 us then .ok (.nx (ρ.set i (.own (ws++us)))) else .stuck) else .stuck
  |_=>.stuck)
 |_=>.stuck
def mRev (i:Nat):JV:=λρ=>match ρ[i]? with
 |some (.own ws)=>.ok (.nx (ρ.set i (.own ws.reverse)))
 |_=>.stuck
def Fg (h:tSt K EX d (iZ i c m) D σ H):lZ (tBM K "list" rExtend (S9 i) (gu (tM K EX (cb c) m) tNil)) D σ H:=by
 obtain ⟨H0,G,ρ,I,o⟩:=h;unfold iZ at o
 split at o
 .rename_i ws e
  obtain ⟨a,vs,es,ha,hg,h0,r⟩:=I.own_at e;refine ⟨.ref a,es,.inl ⟨rfl,vs,SqL.of ha⟩,H0,G,ρ,I,OutS.bind I o λx G1 H1 w e1 m1 q=>?_⟩;cases w <;> first|show q.elim|skip
  rename_i us
  dsimp only at q;by_cases hn:ws.length+us.length<=1000
  .rw [qA2 hn]at q
   by_cases hc:(c||l9 us)=true
   .rw [qA2 hc]at q
    have O:=I.ext e1;have hx:∃b L,x=.ref b/\H1 b=some (.lst L)/\Reps K G1 L us:=by
     cases c with
     |true=>show Md.lstC (H:=H) O m1
     | false=>
      obtain ⟨b,L,ex,hb,rb⟩:=Md.lstB (H:=H) O m1;show ⟨b,L,ex,hb,Reps.clean O rb (by simpa using hc)⟩
    obtain ⟨b,L,rfl,hb,rb⟩:=hx;have h1:=e1.hh a _ ha;refine ⟨a,b,vs,L,rfl,rfl,h1,hb,by rw[r.length,rb.length];show X1 hn,?_⟩;show q G1 σ _ (Same.refl _) (O.own_upd e es ((r.same e1.gg).append rb))
   .rw[qA4 hc]at q;show q.elim
  .rw[qA4 hn]at q;show q.elim
 .show o.elim
def DZ {X:Cx}{K:Frag}{EX:EXT}{d:Mode}{e:Expr}{pos:Pos}{ma:JJ}{i:Nat}{c:Bool}{x:Str}{p apos L:Pos}(hN:X.N[i]?=some x) (hv:Vis X.env.scope x) (ha:PE X e (tM K EX (cb c) ma)) (hK:X.K=K:=by rfl) (hd:(x == ("__debug__" : Str))=false:=by decide) (a7:(x == ("__classdict__" : Str))=false:=by decide) (a3:attributeBase (.Name x p) "extend" X.env (eval (.Name x p) X.env)=eval (.Name x p) X.env:=by rfl) (a5:((backTo L (starEach [e] X.env)).all (λx=>!x.1)&&(backToKw L (keywordEach [] X.env)).all (λx=>x.1.isSome)
   && decide (([e]:Jx).length+([]:List Keyword).length+(if ([]:List Keyword).isEmpty then 0 else 1)<30))=true:=by rfl) (a4:(apos.endLine == L.line)=true:=by rfl) (hs:starEach [e] X.env=(false,eval e X.env)::starEach [] X.env:=by rfl) (O:(backTo L (starEach [] X.env)).any (·.1)=false:=by rfl) (a6:swapsWith (.Call (.Attribute (.Name x p) "extend" apos) [e] [] L) none pos.line X.env=pure false:=by rfl):
  PS X (.Expr (.Call (.Attribute (.Name x p) "extend" apos) [e] [] L) pos) (tSt K EX d (iZ i c ma)):=by
 subst hK;show (kK (uQ qR2 PySem.F.slot_list_extend PySem.F.type_list_extend pC (Q2 hN hv hd a7) (bz ha pa_nil hs) a3 a5 a4 hs O) a6).mono λ_ _ _ q=>Fg q
def F2 (h:PE X e (tM K EX .B ma))(q:X.K=K:=by rfl):PI X tg e (tIt K EX false .U (bS ma)):=uN (lp:=false) h q
def B8 (h:PE X e (tM K EX .U ma))(q:X.K=K:=by rfl):PI X tg e (tIt K EX true .U (bS ma)):=uN (lp:=true) h q
def dc {X:Cx}{K:Frag}{EX:EXT}{a:Expr}{es:Jx}{pos:Pos}{L:JW}{elts:Jx}{p tp:Pos}{k:Nat}(hg:Gl X "zip") (hm:X.mg "zip" = none) (ha:PA X (a::es) (tA K EX .B L)) (O:X.K=K:=by rfl) (hs:starEach (a::es) X.env=(false,eval a X.env)::starEach es X.env:=by rfl) (q:(backTo pos (starEach es X.env)).any (·.1)=false:=by rfl):
  PI X (.Tuple elts k tp) (.Call (.Name "zip" p) (a::es) [] pos) (tIt K EX false .U (bI K2 L)):=uM (lp:=false) hg hm ha O hs q
def Ad {X:Cx}{K:Frag}{EX:EXT}{a:Expr}{es:Jx}{pos:Pos}{L:JW}{elts:Jx}{p tp:Pos}{k:Nat}(hg:Gl X "zip") (hm:X.mg "zip" = none) (ha:PA X (a::es) (tA K EX .U L)) (O:X.K=K:=by rfl) (hs:starEach (a::es) X.env=(false,eval a X.env)::starEach es X.env:=by rfl) (q:(backTo pos (starEach es X.env)).any (·.1)=false:=by rfl):
  PI X (.Tuple elts k tp) (.Call (.Name "zip" p) (a::es) [] pos) (tIt K EX true .U (bI K2 L)):=uM (lp:=true) hg hm ha O hs q
def EC:Sl->Bool
 | .own _=>true
 | .dic _=>true
 | .dik _=>true
 |_=>false
def noOwn (ρ:Rho):Bool:=ρ.all λs=>!EC s
def sCU (i:Nat)(f:List W->R W)(ma:JW):JV:=λρ=>if noOwn ρ then (ma ρ>>=λws=>f ws>>=λw=>.ok (.nx (ρ.set i (.par w)))) else .stuck
def nA (K:Frag) (a:Addr) (n:Nat):It:=
 ⟨λi H=>i<n/\∃xs x,SqL K H a xs/\xs.length=n/\xs[n-1-i]?=some x,λi H x H'=>H'=H/\∀xs,SqL K H a xs->xs[n-1-i]?=some x,λi H=>i=n/\∃xs,SqL K H a xs/\xs.length=n⟩
def qS (a it:Addr) (n:Nat):Turn P w K tg (nA K a n) [it] it (λi h=>i<=n/\h.IsRevIter it a ((n:Int)-1-(i:Int))) where
 mem:=QX
 obj:=λi h st b hb=>by
  have e:b=it:=by simpa using hb
  subst e;obtain ⟨_,o,e,c,d⟩:=st;show ⟨o,e,λv z=>by rw[d]at z;cases z⟩
 keep:=λi h h' st k=>⟨st.1,st.2.at λo e=>k it QX o e⟩
 item:=by
  intro X hP hw hK hc i pins s σ H E I O st hg;subst hP hw hK;obtain ⟨hi,xs,x,hq,hn,hx⟩:=hg;obtain ⟨its,rv,p,hz⟩:=I.list hq;obtain ⟨u,hu,ru⟩:=rv.get hx;obtain ⟨f0,f1,f2,f3,f4,f5⟩:=O it QX;have e1:(n:Int)-1-(i:Int)=((n-1-i:Nat):Int):=ox;have q:=st.2;rw[e1]at q;refine wpAny_pyNext_rev_item q p.isList (x:=u) (by simpa using hu) λh' L sb=>?_;have I1:Inv X pins σ H { s with heap:=h' }:=I.turned (t':=s.toks) (λb o hb e=>(sb.2 b hb).trans e) f0 f1 f3 f4 f5;have e2:((n-1-i:Nat):Int)-1=(n:Int)-1-((i+1:Nat):Int):=ox;rw[e2]at L;obtain ⟨o,e,c,d⟩:=id L;show ⟨u,rfl,gE (s:={ s with heap:=h' }) e c d QV ⟨x,H,I1,ru,⟨rfl,λys hy=>by rw[I.list_inj hy hq];show hx⟩,⟨hi,L⟩,λb hb=>(O b hb).1⟩⟩
 done:=by
  intro X hP hw hK hc i pins s σ H E I O st hg;subst hP hw hK;obtain ⟨rfl,xs,hq,hn⟩:=hg;obtain ⟨f0,f1,f2,f3,f4,f5⟩:=O it QX;have e1:(i:Int)-1-(i:Int) = -1:=ox;have q:=st.2;rw[e1]at q;show wpAny_pyNext_rev_end (I.ok.hd hc) q λh' eb=>⟨rfl,I.turned (t':=s.toks) (λb o hb e=>eb b o hb e) f0 f1 f3 f4 f5⟩
 self:=λ_ _ _ _ _ st h=>qS6 st.2 h
def BQ (K:Frag)(q:TA):TI:=λσ H R=>q σ H λvs H1=>∃a,vs = [.ref a]/\∃xs,SqL K H1 a xs/\R (nA K a xs.length) H1
def cf:bootBuiltins "reversed" = some (.type "reversed"):=Zo
def AE (hg:Gl X "reversed") (hm:X.mg "reversed" = none) (ha:PA X [a] ta) (hs:starEach [a] X.env = [(false,eval a X.env)]:=by rfl):PI X tg (.Call (.Name "reversed" p) [a] [] pos) (BQ X.K ta):=by
 intro pins s σ H R I h;refine qO1 (F4 I hg hm cf ?_ QV QV);refine qF4 (thn (ha pos pins s σ H _ I h) λus s1 L=>?_) hs QZ;obtain ⟨vs,H1,I1,r1,q1⟩:=L;obtain ⟨b,e,xs,hq,q⟩:=q1;subst e;obtain ⟨u,rfl,ru⟩:=K4 r1;cases ru;obtain ⟨its,rv,pl,hz⟩:=I1.list hq;have hl:=rv.length;refine call_reversed_list pl.isList ?_;have O:(s1.heap.push (revObj b ((its.toArray.size:Int)-1))).IsRevIter s1.heap.objs.size b ((xs.length:Int)-1-((0:Nat):Int)):=by
  refine ⟨_,qC2 _ rfl,rfl,?_⟩
  have:((xs.length:Int)-1-((0:Nat):Int))=((its.toArray.size:Int)-1):=by simp;omega
  rw[this];rfl
 refine qS6 O ?_;refine ⟨s1.heap.objs.size,[s1.heap.objs.size],_,nA X.K b xs.length,H1,rfl,I1.kept (t':=s1.toks) λb o e=>qA5 _ e,qS b _ _,⟨qD2 _,O⟩,λc hc=>?_,q⟩;have e:c=s1.heap.objs.size:=by simpa using hc
 subst e;show I1.fpOk (qB5 _) (I1.hok.fresh (qB5 _))
def eF:List W->R JZ
 | [.lst ws]=>.ok ws.reverse
 |_=>.stuck
def tu (he:e=.V\/e=.U) (s:SqL K Z a vs) (r:Reps K (fz e H0 G) vs ws):Z7 K e H0 Z G (nA K a vs.length) ws.reverse:=by
 have hl:=r.length;have q:∀H,Same Z H->SqL K H a vs:=λH z=>Same.seq z s;refine ⟨λi H hi z=>?_,λH z=>⟨by rw[qK7,hl],vs,q H z,rfl⟩,λi H x H' w hw z ⟨e1,y⟩ G2 ρ σ I sg=>?_⟩
 .rw [qK7]at hi
  show ⟨ox,vs,vs[vs.length-1-i]'(qD9 (qG8 _ _) (qI0 (hl ▸ qD9 (qD2 i) hi) QV)),q H z,rfl,QX⟩
 .subst e1;have hi:i<ws.length:=by have:=(qA8.mp hw).1;simpa using this
  have L:=y vs (q _ z);rw[qR7 hi]at hw;obtain ⟨v,O,rv⟩:=Reps.get r hw;rw[hl,O]at L;cases L;show ⟨G2,Ext.refl I.gh,Md.of_fz he (rv.same (G9 sg))⟩
def Md.srcL (I:PIv K H0 G ρ σ H) (m:Md K H0 Hs G H x (.lst ws) (ar lp .U)):∃a vs,x=.ref a/\SqL K (if lp then join H0 G else H) a vs/\Reps K (fz .U H0 G) vs ws:=by
 have q:fz .U H0 G=join H0 G:=by unfold fz;rw[qA4 (show ¬ (Mode.U=Mode.V) by intro z;cases z)]
 rw[q];cases lp with
 | true=>
  rw[qA2 rfl];obtain ⟨a,vs,e,s,r⟩:=Rep.inv m;show ⟨a,vs,e,SqL.of s,r⟩
 | false=>
  rw[qA4 qA3];rcases m with m|⟨a,vs,us,rfl,e2,h1,r⟩
  .obtain ⟨a,vs,e,s,r⟩:=Rep.inv m;show ⟨a,vs,e,SqL.of (I.join_H _ _ s),r⟩
  .rw[W.lst.inj e2];show ⟨a,vs,rfl,SqL.of h1,r.same I.G_join⟩
def EY (h:tIt K EX lp .U (λρ=>ma ρ>>=eF) σ H Rr):BQ K (tA K EX (ar lp .U) ma) σ H Rr:=by
 refine X9 h (λH0 G ρ G1 H1 xs ws us I e1 m1 q o=>?_) (λws e z=>?_)
 .have O:=I.ext e1;unfold eF at q
  split at q
  .rename_i ws'
   cases q;cases m1 with
   | cons a1 t=>
    cases t;obtain ⟨p,vs,rfl,L,r⟩:=Md.srcL O a1;show ⟨p,rfl,vs,Same.seq (eT O) L,o _ G1 H1 e1 (tu (.inr rfl) L r)⟩
  .cases q
 .unfold eF at z
  split at z <;> cases z
def DX {X:Cx}{K:Frag}{EX:EXT}{a tg:Expr}{pos:Pos}{L:JW}{p:Pos}(hg:Gl X "reversed") (hm:X.mg "reversed" = none) (ha:PA X [a] (tA K EX .U L)) (O:X.K=K:=by rfl) (hs:starEach [a] X.env = [(false,eval a X.env)]:=by rfl):PI X tg (.Call (.Name "reversed" p) [a] [] pos) (tIt K EX true .U (bI eF L)):=by
 subst O;show (AE hg hm ha hs).mono λ_ _ _ q=>EY (lp:=true) q
def cI (ns:Jg):Int:=ns.getD (argBest (λi j=>decide (ns.getD j 0<ns.getD i 0)) (ns.length-1)) 0
def int_at {ns:Jg}(rv:Vals (ns.map V.int) its){i:Nat}(h:its.toArray[i]?=some v):∃t,v=.int (ns.getD i 0) t:=by
 obtain ⟨n,hn,t,e⟩:=nM (f:=V.int) (g:=λn u=>∃t,u=.int n t) (λb u r=>r) rv h;show ⟨t,by rw[e,qA1,hn];rfl⟩
def cmp_gt {X:Cx}{ns:Jg}(rv:Vals (ns.map V.int) its):CmpOf X.prog X.w A .Gt (λi v=>its.toArray[i]?=some v) (λi j=>decide (ns.getD j 0<ns.getD i 0)):=λi j vi vj s' O E hi q L=>by
 obtain ⟨t,rfl⟩:=int_at rv hi;obtain ⟨u,rfl⟩:=int_at rv q;show PyProof.Rows.gt_int L
def lt2 {s:Shared}(e:s.heap.get? p=some u):∀b ∈ [s.heap.objs.size,p],b<(s.heap.push o).objs.size:=λb hb=>by
 have q:=qB3 e;simp at hb;rcases hb with rfl|rfl
 .simp [Heap.push]
 .show qB0 q (by simp [Heap.push])
def qw (hc:X.calm=true):B0 X (.builtin "max") (λxs H Q=>∃(p:Addr) (ns:Jg),xs = [.ref p]/\(H p=some (.lst (ns.map V.int))\/H p=some (.tup (ns.map V.int)))/\0<ns.length/\Q (.int (cI ns)) H):=by
 intro pins s σ H xs us Q I r h;obtain ⟨p,ns,rfl,L,hn,q⟩:=h;obtain ⟨u,rfl,rx⟩:=K4 r;cases rx;have hd:X.A.in1.handled=none:=I.ok.hd hc;rcases L with L|L
 .obtain ⟨its,rv,hl,hlen,O,Wk⟩:=fy I hc L;rw[qA7]at hlen;obtain ⟨o,e,_⟩:=id hl;refine call_max_walk (qP8 hl ⟨_,_,_,_,_,_,_,rfl,Wk,⟨⟨_,qC2 _ rfl,rfl,rfl⟩,hl.push _⟩,lt2 e,ox,cmp_gt rv,λv h' tk hv hk=>?_⟩);obtain ⟨t,rfl⟩:=int_at rv hv;rw[<- hlen];show ⟨.int (cI ns),H,I.kept (t':=tk) (aR hk),⟨t,rfl⟩,q⟩
 .obtain ⟨its,rv,pl,hz⟩:=I.tuple (SqT.of L);have hlen:ns.length=its.toArray.size:=by rw[qB8,<- rv.length,qA7]
  have ht:s.heap.IsTuple p its.toArray:=pl;obtain ⟨o,e,_⟩:=id ht;have O:p≠s.heap.objs.size:=qC8 (qB3 e);refine call_max_walk (qP7 ht ⟨_,_,_,_,_,_,_,rfl,Walks.tuple hd _ p O its.toArray,⟨⟨_,qC2 _ rfl,rfl,rfl⟩,ht.push _⟩,lt2 e,ox,cmp_gt rv,λv h' tk hv hk=>?_⟩);obtain ⟨t,rfl⟩:=int_at rv hv;rw[<- hlen];show ⟨.int (cI ns),H,I.kept (t':=tk) (aR hk),⟨t,rfl⟩,q⟩
def za:W->Option Jg
 | .lst ws=>v8 ws
 | .tup ws=>v8 ws
 |_=>none
def bM (g:List Int->Int):List W->R W
 | [w]=>toR (za w)>>=λns=>if 0<ns.length then .ok (.int (g ns)) else .stuck
 |_=>.stuck
def Dy:Cal K .B d (λxs H Q=>∃(p:Addr) (ns:Jg),xs = [.ref p]/\(H p=some (.lst (ns.map V.int))\/H p=some (.tup (ns.map V.int)))/\0<ns.length/\Q (.int (g ns)) H) (bM g):=by
 intro EX H0 Hs G H ρ σ O vs ws Q I s m o;unfold bM at o
 split at o
 .rename_i w
  cases m with
  | cons a t=>
   cases t;cases q:za w with
   |none=>rw[q]at o;show o.elim
   | some ns=>
    rw[q]at o;replace o:Out EX G H (mdW K d H0 Hs) (if 0<ns.length then R.ok (W.int (g ns)) else .stuck) Q:=o
    by_cases hn:0<ns.length
    .rw [qA2 hn]at o
     cases w <;> first|cases q|skip
     .obtain ⟨p,L,rfl,hs,r⟩:=a.tupB I;rw[Reps.ints r q]at hs;show ⟨p,ns,rfl,.inr hs,hn,o _ G H (Ext.refl I.gh) (Md.sca rfl (λ_=>.int) d)⟩
     .obtain ⟨p,L,rfl,hs,r⟩:=a.lstB I;rw[Reps.ints r q]at hs;show ⟨p,ns,rfl,.inl hs,hn,o _ G H (Ext.refl I.gh) (Md.sca rfl (λ_=>.int) d)⟩
    .rw[qA4 hn]at o;show o.elim
 .show o.elim
end TP
namespace HT
open PySem PySem.Spec PyProof.Rows
end HT
namespace TP
open PySem L2 PySem.Spec PyProof.Rows
end TP
namespace TP
open PySem PySem.W PyProof.Rows
section
variable (r:Nat->Int)
end
end TP
namespace TP
open PySem L2
def fA (hh:A.handled=none) (u:Sub) (q:u.l≠u.i) (its:Jy):
  Draws prog w A u.i [u.i,u.l] its.size (λi v=>its[i]?=some v) (λi h=>u.At h i/\u.Src h its) where
 live:=λ_ _ st=>by obtain ⟨o,e,_⟩:=st.1.obj;show ⟨o,e⟩
 frame:=λ_ _ _ st hk=>⟨st.1.keep λo e=>hk u.i QX o e,st.2.keep λo e=>hk u.l QX o e⟩
 item:=λi s Q E hi st hQ=>Sub.item st.1 st.2 (x:=its[i]) (by simp [hi]) λh' a L=>hQ _ h' s.toks (by simp [hi]) ⟨a,st.2.keep λo e=>L.extBut _ _ q e⟩ L
 done:=λs Q E st O=>Sub.ends hh st.1 st.2 QX O
def jS (l:Addr) (its:Jy) (m:Nat) (L:Option Addr) (sl:Array (Option Value)) :
  Meets (Builtin.«enumerate.__new__» ⟨[.type "enumerate",.ref l],[]⟩) (λ_ R s=>s.heap.get? l=some { cls:=.type "tuple",dict:=L,data:=.seq its m,slots:=sl } /\
   R (.ok (.ret (.ref (s.heap.push { cls:=.type "tuple_iterator",data:=.fields #[.ref l,.int 0 0] }).objs.size)))
    { s with heap:=(s.heap.push { cls:=.type "tuple_iterator",data:=.fields #[.ref l,.int 0 0] }).push { cls:=.type "enumerate",data:=.fields #[.none,.bool false,.ref s.heap.objs.size,rawInt 0,.none,.none] } }):=
 .of_wp λprog w A R s q=>by
  obtain ⟨hp,g,d,tk,os⟩:=s;obtain ⟨hl,q⟩:=q;have a3:=sub_enumerate;have O:Heap.IsTuple (Shared.heap ⟨hp,g,d,tk,os⟩) l its:=⟨_,hl,rfl,m,rfl⟩
  wp_walk using qQ9 hl
  refine wpAny_stack_any λstk=>qN6 ?_
  split
  .rename_i cc _ _ _ _ _
   cases (cc == Value.type "enumerate") <;>
   .wp_walk using qQ9 hl,qP7 O
    show ⟨_,rfl,q⟩
  .wp_walk using qQ9 hl,qP7 O
   show ⟨_,rfl,q⟩
def no (hL:s.heap.IsTuple l its) (q:∀h',IsEnum h' (s.heap.objs.size+1) s.heap.objs.size 0 .none->h'.IsTupleIter s.heap.objs.size l 0->(∀b o,s.heap.get? b=some o->h'.get? b=some o)->Q (.ref (s.heap.objs.size+1)) { s with heap:=h' }):
  wpAny (model prog w) A (call (.type "enumerate") [.ref l]) Q E s:=by
 obtain ⟨⟨c,O,dt,sl⟩,hl,hc,m,hd⟩:=hL;have L:c=.type "tuple" := hc;have a3:dt=.seq its m:=hd;subst L a3;refine callType_new F.called_enumerate QV (F.typeCall_enumerate_1 _) (F.newCall_enumerate_1 _) (λobj=>F.args_object_init_2 obj _) F.entry_enumerate_new (jS l its m O sl) ⟨hl,?_⟩;generalize hP:s.heap.push { cls:=.type "tuple_iterator",data:=.fields #[.ref l,.int 0 0] }=P
 have hz:P.objs.size=s.heap.objs.size+1:=by rw[<- hP];show qH2 ..
 have hi:P.get? s.heap.objs.size=some { cls:=.type "tuple_iterator",data:=.fields #[.ref l,.int 0 0] }:=by rw[<- hP];show qC2 _ rfl
 have hk:∀b o,s.heap.get? b=some o->P.get? b=some o:=λb o e=>by rw[<- hP];show qA5 _ e
 change _/\_;have en:IsEnum (P.push { cls:=.type "enumerate",data:=.fields #[.none,.bool false,.ref s.heap.objs.size,rawInt 0,.none,.none] }) (s.heap.objs.size+1) s.heap.objs.size 0 .none:=by rw[<- hz];show qC2 _ rfl
 rw[hz];show ⟨⟨_,en,rfl⟩,q _ en ⟨_,qA5 _ hi,rfl,rfl⟩ λb o e=>qA5 _ (hk b o e)⟩
def qx (L:SrcAt s.heap (t,l,its)) (q:∀h',IsEnum h' (s.heap.objs.size+1) s.heap.objs.size 0 .none->(L2.Sub.mk t s.heap.objs.size l).At h' 0->(∀b o,s.heap.get? b=some o->h'.get? b=some o)->Q (.ref (s.heap.objs.size+1)) { s with heap:=h' }):
  wpAny (model prog w) A (call (.type "enumerate") [.ref l]) Q E s:=by
 unfold SrcAt at L;cases t with
 |true=>show no L λh' a b c=>q h' a (by unfold Sub.At;show b) c
 |false=>show call_enumerate_list L λh' a b _ c=>q h' a (by unfold Sub.At;show b) c
def ItE (K:Frag) (t:Bool) (a:Addr):It:=
  ⟨fun i H=>∃xs x,Sq K H t a xs/\xs[i]?=some x,
   λi H x H'=>∃p y,x=.ref p/\H p=none/\H'=upd H p (.tup [.int (i:Int),y])/\∀xs,Sq K H t a xs->xs[i]?=some y,
   λi H=>∃xs,Sq K H t a xs/\xs.length=i⟩
abbrev eTn (e:Addr)(u:Sub)(i:Nat)(h:Heap):Prop:=(∃q,IsEnum h e u.i (i:Int) q)/\u.At h i
def nR (a6:e≠u.i):
  Turn P w K (.Tuple elts k tp) (ItE K u.t u.l) [e,u.i] e (eTn e u) where
 mem:=QX
 obj:=λi h st b hb=>by
  obtain ⟨⟨a3,he⟩,ha⟩:=st;simp only [qB6,qD6,qO9]at hb;rcases hb with rfl|rfl
  .show ⟨_,he,λv q=>by cases q⟩
  .obtain ⟨o,q,d⟩:=ha.obj;show ⟨o,q,λv z=>by rw[d]at z;cases z⟩
 keep:=λi h h' st kp=>⟨st.1.imp λa3 he=>kp e QX _ he,st.2.keep λo q=>kp u.i QX o q⟩
 item:=by
  intro X hP hw hK hc i pins s σ H E I hf st hg;subst hP hw hK;obtain ⟨⟨a3,he⟩,ha⟩:=st;obtain ⟨xs,x,hq,hx⟩:=hg;obtain ⟨its,rv,O⟩:=Sq.src I hq;obtain ⟨v,hv,rx⟩:=rv.get hx;have fe:=hf e QX;have fi:=hf u.i QX;have a5:u.l≠u.i:=Sq.ne I hq fi;have ab:u.l≠e:=Sq.ne I hq fe;have hi:i<its.toArray.size:=by have:=(qA8.mp hv).1;simpa using this
  refine wpAny_pyNext_enum_itemD (fA (prog:=X.prog) (w:=X.w) (show X.A.in1.handled=none from I.ok.hd hc) u a5 its.toArray) he ⟨ha,O⟩ hi a6 (by simp only [qB6,qD6,qO9,not_or];show ⟨a6,Ne.symm ab⟩) λy h1 tk hy z1 s1 p1 z2 k1=>?_;have ey:y=v:=by
   have e1:its[i]?=some y:=by simpa using hy
   rw[hv]at e1;cases e1;rfl
  subst ey;refine ⟨_,rfl,wpAny_letOwnedTupleGo_enum z1 λh2 e2 sb2=>?_⟩;have a7:e<s.heap.objs.size:=qB3 he;have a8:u.i<s.heap.objs.size:=by obtain ⟨o,q,_⟩:=ha.obj;show qB3 q
  have kp:∀b o,b≠e->b≠u.i->s.heap.get? b=some o->h2.get? b=some o:=λb o b1 b2 q=>sb2.extBut _ _ b1 (k1 b o b1 b2 q);have L:H s.heap.objs.size=none:=I.hok.fresh (qB5 _);have trk:∀b c,H b=some c->b≠e/\b≠u.i:=λb c q=>⟨λz=>(by subst z;rw[fe.1]at q;cases q),λz=>(by subst z;rw[fi.1]at q;cases q)⟩;have b4:h2.get? s.heap.objs.size=some { cls:=.type "tuple",data:=.seq #[.int i tk,y] }:=sb2.extBut _ _ (qL9 a7) p1;have b3:Vals [.int (i:Int),x] [.int i tk,y]:=.cons ⟨tk,rfl⟩ (.cons rx .nil);refine ⟨.ref s.heap.objs.size,upd H s.heap.objs.size (.tup [.int (i:Int),x]),?_,rfl,⟨_,_,rfl,L,rfl,?_⟩,⟨⟨y,?_⟩,?_⟩,λb hb=>?_⟩
  .change Inv X pins σ _ { s with heap:=h2,toks:=tk+1 };refine I.step (g':=s.gens) (t':=tk+1) (d':=s.drawn) (ch:=[e,u.i]) (λb hb=>?_) (λb o _ _ hc q _=>kp b o ?_ ?_ q) (λb o _ _ hc q _=>⟨o.slots,kp b o ?_ ?_ q⟩) (λb o hc q n=>?_) (λb o hc q=>⟨o,kp b o ?_ ?_ q⟩) (λb ys q=>?_) (λb o c q=>?_) (λb ps q=>?_) (λm hm=>?_) ?_ I.bare
   .simp only [qB6,qD6,qO9]at hb;rcases hb with rfl|rfl
    .show ⟨fe.2.2.2.1,fe.2.1,fe.2.2.2.2.1,fe.2.2.2.2.2⟩
    .show ⟨fi.2.2.2.1,fi.2.1,fi.2.2.2.2.1,fi.2.2.2.2.2⟩
   all_goals first
    | (intro z;show hc (by simp [z];done))
    |skip
   .rw[c8 (qC8 (qB3 q))];show n
   .rw[c8 (d8 q L)];show q
   .rw[c8 (d8 q L)];show q
   .show ⟨#[],by rw[c8 (d8 q L),q];simp⟩
   .obtain ⟨o,es,ep,ho,r⟩:=hm;show ⟨o,es,ep,kp _ o (Ne.symm fe.2.1) (Ne.symm fi.2.1) ho,r⟩
   .intro b c q;by_cases hb:b=s.heap.objs.size
    .subst hb;rw[i7]at q;cases q;show ⟨(show 2<=sizeLine by decide),_,b3,⟨_,b4,rfl,_,rfl⟩⟩
    .rw [c8 hb]at q
     refine (I.hok b c q).stay (λd v a4 z=>?_) (λd z=>by rw[c8 (d8 z L)];show z) λd ys z=>by rw[c8 (d8 z L)];show z
     rcases a4 with rfl|a4
     .show kp _ v (trk _ _ q).1 (trk _ _ q).2 z
     .show kp _ v (trk _ _ a4).1 (trk _ _ a4).2 z
  .intro ys b0;rw[Sq.inj I b0 hq];show hx
  .have:((i+1:Nat):Int)=(i:Int)+1:=ox
   rw[this];show e2
  .show s1.1.keep λo q=>sb2.extBut _ _ (Ne.symm a6) q
  .have:b≠s.heap.objs.size:=by
    simp only [qB6,qD6,qO9]at hb;rcases hb with rfl|rfl
    .show qC8 a7
    .show qC8 a8
   rw[c8 this];show (hf b hb).1
 done:=by
  intro X hP hw hK hc i pins s σ H E I hf st hg;subst hP hw hK;obtain ⟨⟨a3,he⟩,ha⟩:=st;obtain ⟨xs,hq,hn⟩:=hg;obtain ⟨its,rv,O⟩:=Sq.src I hq;have fe:=hf e QX;have fi:=hf u.i QX;have a5:u.l≠u.i:=Sq.ne I hq fi;have hsz:its.toArray.size=i:=by have:=rv.length;simp;omega
  subst hsz;refine wpAny_pyNext_enum_endD (fA (prog:=X.prog) (w:=X.w) (show X.A.in1.handled=none from I.ok.hd hc) u a5 its.toArray) he ⟨ha,O⟩ λh' eb=>⟨rfl,?_⟩;obtain ⟨f0,f1,f2,f3,f4,f5⟩:=fi;show I.turned (t':=s.toks) (λb o hb q=>eb b o hb q) f0 f1 f3 f4 f5
 self:=λA i s Q E st h=>by
  obtain ⟨⟨a3,he⟩,_⟩:=st;show wpAny_pyIter_enum he h
def va (K:Frag)(q:TA):TI:=λσ H R=>q σ H λvs H1=>∃t a xs,vs = [.ref a]/\Sq K H1 t a xs/\R (ItE K t a) H1
def jD:bootBuiltins "enumerate" = some (.type "enumerate"):=Zo
def kN (hg:Gl X "enumerate") (hm:X.mg "enumerate" = none) (ha:PA X [a] ta) (hs:starEach [a] X.env = [(false,eval a X.env)]:=by rfl):PI X (.Tuple elts k tp) (.Call (.Name "enumerate" p) [a] [] pos) (va X.K ta):=by
 intro pins s σ H R I h;refine qO1 (F4 I hg hm jD ?_ QV QV);refine qF4 (thn (ha pos pins s σ H _ I h) λus s1 a3=>?_) hs QZ;obtain ⟨vs,H1,I1,r1,t,b,xs,e1,hq,q⟩:=a3;subst e1;obtain ⟨u,rfl,ru⟩:=K4 r1;cases ru;obtain ⟨its,rv,L⟩:=Sq.src I1 hq;refine qx (t:=t) (its:=its.toArray) (by unfold SrcAt;unfold Sub.Src at L;show L) λh' he hA hk=>wpAny_pyIter_enum he ?_;have I2:Inv X pins σ H1 { s1 with heap:=h' }:=I1.kept (t':=s1.toks) hk;have TE:=nR (P:=X.prog) (w:=X.w) (K:=X.K) (elts:=elts) (k:=k) (tp:=tp) (e:=s1.heap.objs.size+1) (u:=⟨t,s1.heap.objs.size,b⟩) (neN (by change s1.heap.objs.size+1≠s1.heap.objs.size;omega));refine ⟨_,_,_,_,H1,rfl,I2,TE,⟨⟨_,he⟩,hA⟩,λc hc=>?_,q⟩;have O:s1.heap.objs.size<=c:=by
  simp only [qB6,qD6,qO9]at hc;rcases hc with rfl|rfl
  .omega
  .show qB5 _
 show I1.fpOk (H':=H1) O (I1.hok.fresh O)
def W4:List W->R JZ
 | [w]=>match y4 w with
  | .ok xs=>.ok (xs.mapIdx λi x=>W.tup [.int (i:Int),x])
  |_=>.stuck
 |_=>.stuck
def pP (he:e=.V\/e=.U) (s1:Sq K Z t a xs) (O:Reps K (fz e H0 G) xs us):Z7 K e H0 Z G (ItE K t a) (us.mapIdx λi x=>W.tup [.int (i:Int),x]):=by
 have l1:=O.length;have q:∀H,Same Z H->Sq K H t a xs:=λH z=>Sq.same z s1;refine ⟨λi H hi z=>?_,λH z=>⟨xs,q H z,by rw[qT9,l1]⟩,λi H x H' w hw z y G2 ρ σ I sg=>?_⟩
 .rw [qT9]at hi
  show ⟨xs,xs[i]'ox,q H z,QX⟩
 .obtain ⟨p,y1,rfl,hp,rfl,hy⟩:=y;obtain ⟨w1,e1,q1⟩:=Reps.get' O (hy xs (q H z));have L:w=.tup [.int (i:Int),w1]:=by
   rw[List.getElem?_mapIdx,e1]at hw;cases hw;rfl
  subst L;obtain ⟨x1,x2⟩:=eG (Hs:=H) he I hp (.cons .int (.cons (q1.same (G9 sg)) .nil));show ⟨_,x1,x2⟩
def qz (he:e=.V\/e=.U) (h:tIt K EX lp e (λρ=>ma ρ>>=W4) σ H Rr):va K (tA K EX (ar lp e) ma) σ H Rr:=by
 refine X9 h (λH0 G ρ G1 H1 xs ws us I e1 L q o=>?_) (λws e z=>?_)
 .have I1:=I.ext e1;unfold W4 at q
  split at q
  .rename_i w
   cases hw:y4 w with
   |stuck=>rw[hw]at q;cases q
   |ex _=>rw[hw]at q;cases q
   | ok ls=>
    rw[hw]at q;cases q;cases L with
    | cons a1 L=>
     cases L;obtain ⟨t1,p1,v1,rfl,O,r1⟩:=Md.src he I1 a1 hw;show ⟨t1,p1,v1,rfl,D7 (eT I1) O,o _ G1 H1 e1 (pP he O r1)⟩
  .cases q
 .unfold W4 at z
  split at z
  .split at z <;> cases z
  .cases z
def oJ {X:Cx}{K:Frag}{EX:EXT}{a:Expr}{pos:Pos}{L:JW}{elts:Jx}{p tp:Pos}{k:Nat}(hg:Gl X "enumerate") (hm:X.mg "enumerate" = none) (ha:PA X [a] (tA K EX .B L)) (O:X.K=K:=by rfl) (hs:starEach [a] X.env = [(false,eval a X.env)]:=by rfl):PI X (.Tuple elts k tp) (.Call (.Name "enumerate" p) [a] [] pos) (tIt K EX false .U (bI W4 L)):=by
 subst O;show (kN hg hm ha hs).mono λ_ _ _ q=>qz (lp:=false) (.inr rfl) q
def Am {X:Cx}{K:Frag}{EX:EXT}{a:Expr}{pos:Pos}{L:JW}{elts:Jx}{p tp:Pos}{k:Nat}(hg:Gl X "enumerate") (hm:X.mg "enumerate" = none) (ha:PA X [a] (tA K EX .U L)) (O:X.K=K:=by rfl) (hs:starEach [a] X.env = [(false,eval a X.env)]:=by rfl):PI X (.Tuple elts k tp) (.Call (.Name "enumerate" p) [a] [] pos) (tIt K EX true .U (bI W4 L)):=by
 subst O;show (kN hg hm ha hs).mono λ_ _ _ q=>qz (lp:=true) (.inr rfl) q
def inW (u:W):W->Option Bool
 | .tup ws=>some ((pds ws).any λy=>PyData.eqv y (pd u))
 | .lst ws=>some ((pds ws).any λy=>PyData.eqv y (pd u))
 | .scr ws=>some ((pds ws).any λy=>PyData.eqv y (pd u))
 |_=>none
def rIn (K:Frag)(neg:Bool):R2:=λx y H Q=>∃u v b,Rep K H x u/\Rep K H y v/\shp 8 u=true/\shp 8 v=true/\inW u v=some b/\Q (.bl (if neg then !b else b)) H
def oY (hu:X.A.units+64<cLine):OpR X (compareOp .NotIn) (rIn X.K true):=by
 intro pins s σ H x y v u Q I rx ry h;obtain ⟨a,c,b,ra,rc,sa,sc,e,q⟩:=h;obtain ⟨as,O⟩:=Rep.reads I 8 ra sa rx;obtain ⟨bs,qb⟩:=Rep.reads I 8 rc sc ry;have la:=cX a 8 sa;cases c <;> first | (cases e;done)|skip
 all_goals
  rename_i ws
  have L:=kA ws 7 sc;have hm:X.A.units+1+min (PyData.depthAll (pds ws)) (pd a).depth<cLine:=by have:=qL4 (PyData.depthAll (pds ws)) (pd a).depth;omega
  cases e
 .show SeqAt.notIn_tuple_reads qb O L.1 la.1 hm ⟨.bl _,H,I,rfl,q⟩
 .show SeqAt.notIn_list_reads qb O L.1 la.1 hm ⟨.bl _,H,I,rfl,q⟩
 .show SeqAt.notIn_list_reads qb O L.1 la.1 hm ⟨.bl _,H,I,rfl,q⟩
def fIn (neg:Bool) (u v:W):R W:=if shp 8 u&&shp 8 v then (match inW u v with
 |some b=>.ok (.bl (if neg then !b else b))
 |none=>.stuck) else .stuck
def uR:Op2 K .B d (rIn K neg) (fIn neg):=by
 intro EX H0 Hs G H ρ σ Ha Hb x y u v Q I s O L o;unfold fIn at o;by_cases c:(shp 8 u&&shp 8 v)=true
 .rw [qA2 c]at o
  have q:shp 8 u=true/\shp 8 v=true:=by simpa using c
  cases hb:inW u v with
  |none=>rw[hb]at o;show o.elim
  | some b=>
   rw[hb]at o;show ⟨u,v,b,O.whole I,L.whole I,q.1,q.2,hb,o _ G H (Ext.refl I.gh) (Md.sca rfl (λ_=>.bl) d)⟩
 .rw[qA4 c]at o;show o.elim
def lexLt:List Int->List Int->Bool
 | [],[]=>false
 | [],_::_=>true
 |_::_,[]=>false
 |a::as,b::bs=>if a=b then lexLt as bs else decide (a<b)
def eV:∀a,lexLt a a=false
 | []=>rfl
 |x::a=>by unfold lexLt;rw[qA2 rfl];show eV a
def aP:∀a b c,lexLt a b=true->lexLt b c=true->lexLt a c=true
 | [],[],_,h,_=>by cases h
 | [],_::_,[],_,h=>by cases h
 | [],_::_,_::_,_,_=>rfl
 |_::_,[],_,h,_=>by cases h
 |_::_,_::_,[],_,h=>by cases h
 | x::a,y::b,z::c,L,q=>by
  unfold lexLt at L q ⊢;by_cases e1:x=y
  .subst e1;rw[qA2 rfl]at L;by_cases e2:x=z
   .subst e2;rw[qA2 rfl]at q ⊢;show aP a b c L q
   .rw[qA4 e2]at q ⊢;show q
  .rw [qA4 e1]at L
   have L:=qO4 L;by_cases e2:y=z
   .subst e2;rw[qA4 e1];show qN8 L
   .rw [qA4 e2]at q
    have q:=qO4 q;rw[qA4 ox];show qN8 ox
def bH:∀a b,lexLt a b=false->lexLt b a=false->a=b
 | [],[],_,_=>rfl
 | [],_::_,h,_=>by cases h
 |_::_,[],_,h=>by cases h
 | x::a,y::b,q,L=>by
  unfold lexLt at q L;by_cases e:x=y
  .subst e;rw[qA2 rfl]at q L;rw[bH a b q L]
  .rw [qA4 e]at q
   rw[qA4 (λz=>e z.symm)]at L;have q:=qO2 q;have L:=qO2 L;omega
def R6 (ss:Jo)(i:Nat):Int:=((ss.countP λx=>lexLt x (ss.getD i [])):Nat)
def CM {α:Type}{p q:α->Bool}:∀{l:List α},(∀x∈l,p x=true->q x=true)->(∃x∈l,q x=true/\p x=false)->l.countP p<l.countP q:=by
 intro l
 induction l with
 |nil=>intro _ h;obtain ⟨_,h,_⟩:=h;show absurd h qD6
 | cons x l ih=>
  intro h h0;obtain ⟨y,L,hq,O⟩:=h0;have h':∀z∈l,p z=true->q z=true:=λz hz=>h z (qA6 _ hz);have le:l.countP p<=l.countP q:=List.countP_mono_left h';rw[List.countP_cons,List.countP_cons];rcases qB6.mp L with e|L
  .subst e;rw[qA2 hq,O,qA4 qA3];omega
  .have:=ih h' ⟨y,L,hq,O⟩
   by_cases c:p x=true
   .rw[qA2 c,qA2 (h x qB2 c)];omega
   .rw[qA4 c];split <;> omega
def getD_mem {ss:Jo}(h:i<ss.length):ss.getD i []∈ss:=by
 rw[qA1];simp [h]
def kI (hi:i<ss.length) (hj:j<ss.length):decide (R6 ss i<R6 ss j)=lexLt (ss.getD i []) (ss.getD j []):=by
 cases h:lexLt (ss.getD i []) (ss.getD j []) with
 | true=>
  apply qN8;unfold R6
  have:=CM (l:=ss) (p:=λx=>lexLt x (ss.getD i [])) (q:=λx=>lexLt x (ss.getD j [])) (λx _ L=>aP _ _ _ L h) ⟨_,getD_mem hi,h,eV _⟩
  omega
 | false=>
  apply qN7;unfold R6
  have:ss.countP (λx=>lexLt x (ss.getD j []))<=ss.countP λx=>lexLt x (ss.getD i []):=by
   apply List.countP_mono_left;intro x _ L;cases O:lexLt (ss.getD j []) (ss.getD i []) with
   |true=>show aP _ _ _ L O
   |false=>rw[bH _ _ h O];show L
  omega
def F8 (ss:Jo):List Jg:=ss.mergeSort λa b=>!lexLt b a
def oG (ss:Jo):(List.range ss.length).map (λi=>ss.getD i [])=ss:=by
 apply qK5
 .simp
 .intro i L q;simp [q]
def au (ss:Jo):(F8 ss).Perm ss:=List.mergeSort_perm _ _
def kw (ss:Jo):(F8 ss).Pairwise λa b=>lexLt b a=false:=by
 have h:=List.pairwise_mergeSort (le:=λa b=>!lexLt b a) (λa b c O L=>by
  simp only [Bool.not_eq_true']at O L ⊢;cases e:lexLt c a with
  |false=>rfl
  | true=>
   cases f:lexLt a b with
   |true=>rw[aP c a b e f]at L;cases L
   |false=>rw[bH a b f O]at e;rw[e]at L;cases L) (λa b=>by
  cases e:lexLt b a with
  |false=>rfl
  | true=>
   cases f:lexLt a b with
   |false=>rfl
   |true=>have:=aP a b a f e;rw[eV]at this;cases this) ss
 show h.imp λq=>by simpa using q
def allLt (n:Nat)(p:Array Nat):Prop:=∀x∈p,x<n
section
open PySem.W PyProof.Rows
variable {n:Nat}(h0:0<n)
include h0
end
def cJ (fin:Bool):List (Int×Int)->Bool
 | []=>fin
 | (a,b)::r=>if a=b then cJ fin r else decide (a<b)
def ll:∀xs q:List Int,cJ (decide (xs.length<q.length)) (xs.zip q)=lexLt xs q
 | [],[]=>rfl
 | [],_::_=>by simp [cJ,lexLt]
 |_::_,[]=>by simp [cJ,lexLt]
 | x::xs,y::q=>by
  have:=ll xs q
  simp only [List.zip_cons_cons,cJ,lexLt,qC1,Nat.add_lt_add_iff_right];rw[this]
section
open PySem.W PyProof.Rows
def pI:∀(xs q:Jg) (us vs:Jw) (i:Nat),Vals (xs.map V.int) us->Vals (q.map V.int) vs->Q (cJ fin (xs.zip q)) s->KatLex prog w A true fin Q (us.zip vs) i s
 | [],_,_,_,_,.nil,_,h=>h
 |_::_,[],_,_,_,.cons _ _,.nil,h=>h
 | x::xs,y::q,_,_,i,.cons r1 t1,.cons r2 t2,h=>by
  obtain ⟨t,rfl⟩:=r1;obtain ⟨u,rfl⟩:=r2;refine kat_cons (wpAny_eqBool_int ?_);simp only [List.zip_cons_cons,cJ]at h;by_cases e:x=y
  .rw [qA2 e]at h
   rw[show (x == y)=true by simpa using e];show kat_yes (pI xs q _ _ (i+1) t1 t2 h)
  .rw [qA4 e]at h
   rw[show (x == y)=false by simpa using e];refine kat_no ?_;cases i with
   |zero=>show oneLt_int h
   |succ i=>show kat_one _ _ (lt_int h)
def TupI (h:Heap)(v:Value)(xs:Jg):Prop:=∃(a:Addr)(o:Obj)(its:Jw)(m:Nat),v=.ref a/\h.get? a=some o/\o.cls=.type "tuple" /\ o.data=.seq its.toArray m/\Vals (xs.map V.int) its
def xj (hv:TupI s.heap v xs) (hu:TupI s.heap u ys) (h:Q (lexLt xs ys) s):wpAny (model prog w) A (keyLt' (tuples' true) v u) Q E s:=by
 obtain ⟨a,o,its,m,rfl,ho,_,hd,rv⟩:=hv;obtain ⟨b,o2,a3,m2,rfl,O,_,L,q⟩:=hu;refine kat_lt ho hd O L ?_;have l1:=rv.length;have l2:=q.length;rw[qA7]at l1 l2;refine pI xs ys _ _ 0 rv q ?_;simp only [qB8,<- l1,<- l2];rw[ll];show h
def qU (O:TupI h v xs) (q:xs ≠ []):∃(a:Addr) (o:Obj) (its:Jy) (m:Nat) (i:Int) (L:Tok),v=.ref a/\h.get? a=some o/\o.cls=.type "tuple" /\ o.data=.seq its m/\its[0]?=some (.int i L):=by
 obtain ⟨a,o,its,m,e,ho,hc,hd,rv⟩:=O;cases xs with
 |nil=>show absurd rfl q
 | cons x xs=>
  cases its with
  |nil=>cases rv
  | cons u its=>
   cases rv with
   | cons r1 _=>
    obtain ⟨L,rfl⟩:=r1;show ⟨a,o,_,m,x,L,e,ho,hc,hd,rfl⟩
def gU:∀{vs:Jw}{ss:Jo},Paired (λv xs=>TupI h v xs/\xs ≠ []) vs ss->∃fs:List Value,KatTups h vs fs/\fs.length=ss.length/\∀f∈fs,∃i t,f=.int i t
 |_,_,.nil=>⟨[],trivial,rfl,λ_ h=>nomatch h⟩
 | _,_,.cons hv t=>by
  obtain ⟨fs,k,hl,hi⟩:=gU t;obtain ⟨a,o,its,m,i,O,e,ho,hc,hd,h0⟩:=qU hv.1 hv.2;subst e;refine ⟨.int i O::fs,KatTups.cons ho hc hd h0 k,by rw[qC1,qC1,hl],λf L=>?_⟩;rcases qB6.mp L with q|L
  .show ⟨i,O,q⟩
  .show hi f L
end
def G0:∀{as:List α}{bs:List β}{i:Nat},Paired F as bs->i<as.length->∃b,bs[i]?=some b/\F (as.getD i d) b
 |_,_,_,.nil,h=>absurd h (qE0 _)
 |_,_,0,.cons r _,_=>⟨_,rfl,r⟩
 | _,_,i+1,.cons _ t,h=>by
  obtain ⟨b,e,q⟩:=G0 (d:=d) (i:=i) t (by simpa using h);show ⟨b,by simpa using e,by simpa using q⟩
def bP {R:β->γ->Prop}:∀{as:List α}{bs:List β}{cs:List γ},Paired F as bs->Paired G as cs->(∀a b c,F a b->G a c->R b c)->Paired R bs cs
 |_,_,_,.nil,.nil,_=>.nil
 |_,_,_,.cons a r,.cons b t,h=>.cons (h _ _ _ a b) (bP r t h)
section
open PySem.W PyProof.Rows
end
def qB:bootBuiltins "sorted" = some (.builtin "sorted"):=Zo
def R3:List W->Option Jo
 | []=>some []
 | .tup ws::r=>match v8 ws,R3 r with
  |some x,some xs=>some (x::xs)
  |_,_=>none
 |_=>none
def gR:∀ss:List Jg,R3 (ss.map λx=>W.tup (x.map W.int))=some ss
 | []=>rfl
 | x::ss=>by
  change (match v8 (x.map W.int),R3 (ss.map λx=>W.tup (x.map W.int)) with|some x,some xs=>_|_,_=>_)=_;rw[ints_map,gR ss]
def tD:∀{ws:JZ}{x:Jg},v8 ws=some x->ws=x.map W.int:=by
 intro ws
 induction ws with
 |nil=>intro x h;cases h;rfl
 | cons w ws q=>
  intro x h;cases w <;> first | (cases h;done)|skip
  rename_i i
  have h':(v8 ws).map (i::·)=some x:=h;cases hw:v8 ws with
  |none=>rw[hw]at h';cases h'
  |some bs=>rw[hw]at h';rw[q hw,<- Option.some.inj h'];rfl
def qT:∀{ws:JZ}{ss:Jo},R3 ws=some ss->ws=ss.map λx=>W.tup (x.map W.int):=by
 intro ws
 induction ws with
 |nil=>intro ss h;cases h;rfl
 | cons w r O=>
  intro ss h;cases w <;> first | (cases h;done)|skip
  rename_i ws
  have h':(match v8 ws,R3 r with|some x,some xs=>some (x::xs)|_,_=>none)=some ss:=h;cases q:v8 ws with
  |none=>rw[q]at h';cases h'
  | some x=>
   cases L:R3 r with
   |none=>rw[q,L]at h';cases h'
   |some xs=>rw[q,L]at h';rw[tD q,O L,<- Option.some.inj h'];rfl
def fG:∀ns:List Int,l9 (ns.map W.int)=true
 | []=>rfl
 |n::ns=>by rw[qC0];simp only [l9,noL,fG ns,qM2]
def iM:∀ss:List Jg,l9 (ss.map λx=>W.tup (x.map W.int))=true
 | []=>rfl
 |x::ss=>by rw[qC0];simp only [l9,noL,fG x,iM ss,qM2]
def fE:∀{q:List V}{ss:Jo},Reps K F q (ss.map λx=>W.tup (x.map W.int))->(∀x∈ss,x ≠ [])->Paired (λv L=>(∃a,v=.ref a/\F a=some (.tup (L.map V.int)))/\L ≠ []) q ss
 |_,[],.nil,_=>.nil
 | _,x::ss,.cons r t,hne=>by
  refine .cons ⟨?_,hne x qB2⟩ (fE t λy hy=>hne y (qA6 _ hy));cases r with
  |tup ha O=>show ⟨_,rfl,by rw[ha,Reps.ints O (ints_map x)]⟩
def kH:∀{L:List V}{ws:JZ}{i:Nat},Reps K F L ws->i<L.length->∃w,ws[i]?=some w/\Rep K F (L.getD i .non) w
 |_,_,_,.nil,h=>absurd h (qE0 _)
 |_,_,0,.cons r _,_=>⟨_,rfl,r⟩
 | _,_,i+1,.cons _ t,h=>by
  obtain ⟨b,e,q⟩:=kH (i:=i) t (by simpa using h);show ⟨b,by simpa using e,by simpa using q⟩
def io:∀{l:JQ},(∀i∈l,Rep K F (f i) (g i))->Reps K F (l.map f) (l.map g)
 | [],_=>.nil
 |_::_,h=>.cons (h _ qB2) (io λb hb=>h b (qA6 _ hb))
set_option maxHeartbeats 2000000
end TP
namespace L2
open PySem PySem.Spec PyProof.Rows
end L2
namespace TP
open PySem L2
end TP
namespace HT
open PySem PyProof.Rows
end HT
namespace TP
open PySem L2
def Rst (x:R W) (l u:R Jv):R W:=x>>=λx=>l>>=λl=>u>>=λu=>(match x with
 | .tup ws=>if l9 ws=true then .ok (.tup (E5 ws l u)) else .stuck
 |_=>.stuck)
def vSlT (m:JJ)(q L:Rho->R Jv):JJ:=λρ=>Rst (m ρ) (q ρ) (L ρ)
def kh (m:JJ)(q L:Rho->R Jv)(ρ:Rho):vSlT m q L ρ=Rst (m ρ) (q ρ) (L ρ):=rfl
def DF (h:l9 ws=true) (l u:Jv):Rst (.ok (.tup ws)) (.ok l) (.ok u)=.ok (.tup (E5 ws l u)):=by
 change (if l9 ws=true then _ else _)=_;rw[qA2 h]
def Y9:W->Option Jg
 | .tup ws=>v8 ws
 |_=>none
def dE (ns:Jg):Y9 (.tup (ns.map W.int))=some ns:=ints_map ns
abbrev M7 (k:Jg):List Key:=k.map Sum.inl
def ji (e:M7 a=M7 b):a=b:=by
 have:=congrArg (List.map λx:Key=>match x with | .inl i=>i | .inr _=>0) e
 simpa [M7,Function.comp_def]using this
def Bj (k:Jg):(M7 k).map kV=k.map V.int:=by rw[qD7];rfl
def lh (r:Rep K F v w) (e:Y9 w=some k):∃b,v=.ref b/\F b=some (.tup ((M7 k).map kV)):=by
 cases r <;> first|cases e|skip
 rename_i a vs ws h r
 refine ⟨a,rfl,?_⟩;rw[Bj,<- Reps.ints r e];show h
def jf (I:PIv K H0 G ρ σ H) (m:Md K H0 Hs G H v w .B) (e:Y9 w=some k):∃b,v=.ref b/\H b=some (.tup ((M7 k).map kV)):=by
 rcases m with r|⟨a,vs,ws,_,rfl,_⟩
 .obtain ⟨b,e1,e2⟩:=lh r e;show ⟨b,e1,I.join_H _ _ e2⟩
 .cases e
def any_keys {kvs:List (List Key×V)}{ks:Jo}(hk:kvs.map (·.1)=ks.map λk=>k.map Sum.inl):(kvs.any λkv=>decide (kv.1=M7 k))=decide (k∈ks):=by
 rw[qJ3,qD4,decide_eq_true_iff];constructor
 .rintro ⟨p,L,q⟩;have e:=qO4 q
  have:p.1∈ks.map λk=>k.map Sum.inl:=by rw[<- hk];show qA9.mpr ⟨p,L,rfl⟩
  obtain ⟨j,hj,O⟩:=qA9.mp this;rw[<- ji (O.trans e)];show hj
 .intro h
  have:M7 k∈kvs.map (·.1):=by rw[hk];show qA9.mpr ⟨k,h,rfl⟩
  obtain ⟨p,L,e⟩:=qA9.mp this;show ⟨p,L,qN8 e⟩
def V1 (ks:Jo)(k:Jg):List Jg:=if k∈ks then ks else ks ++ [k]
def tf (hk:kvs.map (·.1)=ks.map λk=>k.map Sum.inl):(putK kvs (M7 k) v).map (·.1)=(V1 ks k).map λk=>k.map Sum.inl:=by
 unfold putK V1;rw[any_keys hk];by_cases h:k∈ks
 .rw [qA2 (qN8 h),qA2 h,<- hk,qD7]
  refine qK8 λp _=>?_
  change (if p.1=M7 k then (p.1,v) else p).1=p.1
  split <;> rfl
 .rw[qA4 (by simpa using h),qA4 h,qD1,qD1,hk];rfl
def PIv.updD (I:PIv K H0 G ρ σ H) (ha:H a=some (.dT kvs)) (hg:G a=none) (h0:H0 a=none) (nd:∀(j:Nat) (ks:Jo),ρ[j]?=some (.dic ks)->σ[j]?≠some (some (.ref a))):PIv K H0 G ρ σ (upd H a (.dT kvs')):=by
 refine ⟨I.g0,I.gl,λb o q=>by rw[c8 (d8 q hg)];show I.gh b o q,λb o q=>by rw[c8 (d8 q h0)];show I.hh b o q,I.len,λj x o h1 h2=>?_,I.ne⟩
 have:=I.sl j x o h1 h2
 cases x with
 | own us=>
  obtain ⟨b,a3,eb,hb,O,a4,rb⟩:=this;have L:b≠a:=by
   rintro rfl;rw[ha]at hb;cases hb
  show ⟨b,a3,eb,by rw[c8 L];show hb,O,a4,rb⟩
 | dic ks=>
  obtain ⟨b,a3,eb,hb,O,a4,rb⟩:=this;subst eb;have L:b≠a:=by
   rintro rfl;show nd j ks h1 h2
  show ⟨b,a3,rfl,by rw[c8 L];show hb,O,a4,rb⟩
 | dik ks=>
  obtain ⟨b,a3,eb,hb,O,a4,rb⟩:=this;have L:b≠a:=by
   rintro rfl;rw[ha]at hb;cases hb
  show ⟨b,a3,eb,by rw[c8 L];show hb,O,a4,rb⟩
 |un=>show this
 |val _=>show this
 |par _=>show this
 |iop _ _=>show this
 |hz _=>show this
def PIv.setD (I:PIv K H0 G ρ σ H) (ha:H a=some (.dT kvs)) (L:G a=none) (h0:H0 a=none) (hk:kvs.map (·.1)=ks.map λk=>k.map Sum.inl):PIv K H0 G (ρ.set i (.dic ks)) (σ.set i (some (.ref a))) H where
 g0:=I.g0
 gl:=I.gl
 gh:=I.gh
 hh:=I.hh
 len:=by rw[qE9,qE9];show I.len
 sl j x o h1 h2:=by
  by_cases q:i=j
  .subst q;rw[qD3]at h1 h2;simp only [qN9]at h1 h2
   split at h1 <;> split at h2 <;> simp only [qG1,reduceCtorEq]at h1 h2
   subst h1;subst h2;show ⟨a,kvs,rfl,ha,L,h0,hk⟩
  .rw[qB7 q]at h1 h2;show I.sl j x o h1 h2
 ne a b ws us c hab h1 h2 h3 h4:=by
  have na:i≠a:=by
   rintro rfl;rw[qD3]at h1;simp only [qN9]at h1
   split at h1 <;> simp at h1
  have nb:i≠b:=by
   rintro rfl;rw[qD3]at h2;simp only [qN9]at h2
   split at h2 <;> simp at h2
  rw[qB7 na]at h1 h3;rw[qB7 nb]at h2 h4;show I.ne a b ws us c hab h1 h2 h3 h4
def PIv.dic_at {i:Nat}(I:PIv K H0 G ρ σ H) (e:ρ[i]?=some (.dic ks)):∃a kvs,σ[i]?=some (some (.ref a))/\H a=some (.dT kvs)/\G a=none/\H0 a=none/\kvs.map (·.1)=ks.map λk=>k.map Sum.inl:=by
 have hi:i<σ.length:=by rw[<- I.len];show (qA8.mp e).1
 have es:σ[i]?=some σ[i]:=QX;obtain ⟨a,kvs,q,r⟩:=I.sl i _ _ e es;show ⟨a,kvs,by rw[es,q],r⟩
def isDic:Sl->Bool
 | .dic _=>true
 |_=>false
def noDic (ρ:Rho):Bool:=ρ.all λs=>!isDic s
def sJ {ρ:Rho}(h:noDic (ρ.set i .un)=true) (q:i≠j):ρ[j]?≠some (.dic ks):=λe=>by
 have L:(ρ.set i .un)[j]?=some (.dic ks):=by rw[qB7 q];show e
 have:=qE7.mp h _ (qF6 L)
 simp [isDic]at this
def PIv.dic_upd (I:PIv K H0 G ρ σ H) (e:ρ[i]?=some (.dic ks)) (es:σ[i]?=some (some (.ref a))) (one:noDic (ρ.set i .un)=true) (hk:kvs'.map (·.1)=ks'.map λk=>k.map Sum.inl):
  PIv K H0 G (ρ.set i (.dic ks')) σ (upd H a (.dT kvs')):=by
 obtain ⟨a',kvs,ev,ha,hg,h0,_⟩:=I.sl i _ _ e es;cases ev;refine ⟨I.g0,I.gl,λb o q=>by rw[c8 (d8 q hg)];show I.gh b o q,λb o q=>by rw[c8 (d8 q h0)];show I.hh b o q,by rw[qE9];show I.len,λj x o L O=>?_,λp q a7 us c a8 L O h3 h4=>?_⟩
 .by_cases hj:i=j
  .subst hj;rw[qD3]at L;simp only [qN9]at L
   split at L <;> simp only [qG1,reduceCtorEq]at L
   subst L;rw[es]at O;cases O;show ⟨a,kvs',rfl,i7,hg,h0,hk⟩
  .rw [qB7 hj]at L
   have:=I.sl j x o L O
   cases x with
   | own us=>
    obtain ⟨b,a5,eb,hb,a4,a6,rb⟩:=this;have a3:b≠a:=by
     rintro rfl;rw[ha]at hb;cases hb
    show ⟨b,a5,eb,by rw[c8 a3];show hb,a4,a6,rb⟩
   |dic ls=>show absurd L (sJ one hj)
   | dik ks=>
    obtain ⟨b,a5,eb,hb,a4,a6,rb⟩:=this;have a3:b≠a:=by
     rintro rfl;rw[ha]at hb;cases hb
    show ⟨b,a5,eb,by rw[c8 a3];show hb,a4,a6,rb⟩
   |un=>show this
   |val _=>show this
   |par _=>show this
   |iop _ _=>show this
   |hz _=>show this
 .have na:i≠p:=by
   rintro rfl;rw[qD3]at L;simp only [qN9]at L
   split at L <;> simp at L
  have nb:i≠q:=by
   rintro rfl;rw[qD3]at O;simp only [qN9]at O
   split at O <;> simp at O
  rw[qB7 na]at L;rw[qB7 nb]at O;show I.ne p q a7 us c a8 L O h3 h4
def inD (o:Option Sl) (w:W) (neg:Bool):R Bool:=match o with
 | some (.dic ks)=>(match Y9 w with
  |some k=>.ok (if neg then !decide (k∈ks) else decide (k∈ks))
  |none=>.stuck)
 |_=>.stuck
def mIn (neg:Bool)(i:Nat)(q:JJ):JK:=λρ=>q ρ>>=λw=>inD ρ[i]? w neg
def Fh (h:tT K EX (mIn false i mk) σ H Q):tB (yO (tM K EX .B mk) (S9 i)) σ H Q:=by
 obtain ⟨H0,G,ρ,I,o⟩:=h;refine ⟨H0,G,ρ,I,Out.bind (md:=mdW K .B H0 H) o λy G1 H1 w e1 O q=>?_⟩;have L:=I.ext e1;unfold inD at q
 split at q
 .rename_i ks e
  split at q
  .rename_i k ek
   obtain ⟨a,kvs,es,ha,hg,h0,hk⟩:=L.dic_at e;obtain ⟨b,rfl,hb⟩:=jf L O ek;refine ⟨.ref a,es,a,_,rfl,DGet.t ha hb,_,rfl,?_⟩;rw[<- cv,any_keys hk];show q _ G1 H1 (Ext.refl L.gh) rfl
  .show q.elim
 .show q.elim
def putD (ks:Jo) (i:Nat) (w:W) (ρ:Rho):R Fl:=match Y9 w with
 |some k=>if noDic (ρ.set i .un)=true/\ks.length<1000 then .ok (.nx (ρ.set i (.dic (V1 ks k)))) else .stuck
 |none=>.stuck
def gK (o:Option Sl) (q rk:R W) (i:Nat) (ρ:Rho):R Fl:=match o with
 |some (.dic ks)=>q>>=λ_=>rk>>=λw=>putD ks i w ρ
 |_=>.stuck
def V6 (i:Nat)(q me:JJ):JV:=λρ=>gK ρ[i]? (me ρ) (q ρ) i ρ
def Dm (h:tSt K EX d (V6 i mk me) D σ H):uI (S9 i) (tM K EX .B mk) (tM K EX .B me) D σ H:=by
 obtain ⟨H0,G,ρ,I,o⟩:=h;unfold V6 gK at o
 split at o
 .rename_i ks e
  refine ⟨H0,G,ρ,I,OutS.bind I o λv G1 H1 w1 e1 m1 o1=>?_⟩;have L:=I.ext e1;obtain ⟨a,kvs,es,ha,hg,h0,hk⟩:=L.dic_at e;refine ⟨.ref a,es,H0,G1,ρ,L,OutS.bind L o1 λy G2 H2 w e2 m2 q=>?_⟩;have O:=L.ext e2;unfold putD at q
  split at q
  .rename_i k ek
   split at q
   .rename_i hc
    obtain ⟨b,rfl,hb⟩:=jf O m2 ek;have hl:kvs.length=ks.length:=by have:=congrArg List.length hk;simpa using this
    refine ⟨a,_,rfl,DPut.t (e2.hh a _ ha) hb (qB0 (show kvs.length<1000 by omega) QV),?_⟩;show q G2 σ _ (Same.refl _) (O.dic_upd e es hc.1 (tf hk))
   .show q.elim
  .show q.elim
 .show o.elim
def newD (i:Nat) (w:W) (ρ:Rho):R Fl:=match Y9 w with
 |some k=>.ok (.nx (ρ.set i (.dic [k])))
 |none=>.stuck
def gD (i:Nat)(q me:JJ):JV:=λρ=>q ρ>>=λw=>me ρ>>=λ_=>newD i w ρ
def ko (q L:TE):TE:=λσ H Q=>∀p,H p=none->q σ (upd H p (.dT [])) λx H1=>L σ H1 λy H2=>H2 p=some (.dT [])/\∃b k,x=.ref b/\H2 b=some (.tup (k.map kV))/\Q (.ref p) (upd H2 p (.dT [(k,y)]))
def Dn (h:tSt K EX d (gD i mk me) D σ H):V9 (ko (tM K EX .B mk) (tM K EX .B me)) (G8 i) D σ H:=by
 obtain ⟨H0,G,ρ,I,o⟩:=h;intro p L;have a5:G p=none:=by
  cases q:G p with
  |none=>rfl
  |some u=>rw[I.gh p u q]at L;cases L
 have a4:H0 p=none:=by
  cases q:H0 p with
  |none=>rfl
  |some u=>rw[I.hh p u q]at L;cases L
 have su:Same H (upd H p (.dT [])):=λb u q=>by rw[c8 (d8 q L)];show q
 have x0:Ext G H G (upd H p (.dT [])):=⟨Same.refl G,su,I.gh.trans su,λ_ _ _ _ e=>e⟩;have I0:=I.ext x0;have o':OutS K EX d H0 G (mk ρ>>=λw=>me ρ>>=λ_=>newD i w ρ) D:=o;refine ⟨H0,G,ρ,I0,OutS.bind I0 o' λx G1 H1 w e1 m1 o1=>?_⟩;have I1:=I0.ext e1;refine ⟨H0,G1,ρ,I1,OutS.bind I1 o1 λy G2 H2 w2 e2 m2 o2=>?_⟩;have I2:=I1.ext e2;have a3:H2 p=some (.dT []):=e2.hh p _ (e1.hh p _ i7);have O:G2 p=none:=e2.keep p _ (e1.hh p _ i7) rfl (e1.keep p _ i7 rfl a5);refine ⟨a3,?_⟩;unfold newD at o2
 split at o2
 .rename_i k ek
  obtain ⟨b,rfl,hb⟩:=jf I1 m1 ek;refine ⟨b,M7 k,rfl,e2.hh b _ hb,?_⟩;refine o2 G2 _ _ (Same.refl _) (PIv.setD (I2.updD a3 O a4 λj ks e1 e2=>?_) i7 O a4 rfl);obtain ⟨c,kvs,ec,hc,_⟩:=I.sl j _ _ e1 e2;cases ec;rw[L]at hc;cases hc
 .show o2.elim
def oS (hu:X.A.units+1<cLine) (hk:PE X k tk) (hv:PE X v tv):PE X (.Dict [some k] [v] pos) (ko tk tv):=by
 intro pins s σ H Q I q;have hn:=I.hok.fresh (qB5 s.heap.objs.size);have I1:=I.laid (a:=s.heap.objs.size) (o:=.dT []) (h':=s.heap.push { cls:=.type "dict",data:=.dict #[] }) (t':=s.toks) (λ_ _ q=>qA5 _ q) (qB5 _) (jt s.heap I.big);refine wpAny_Dict_any rfl rfl QX (Nat.le_of_ble_eq_true rfl) ?_;refine pairTrees_cons_walk (thn (hk pins _ σ _ _ I1 (q _ hn)) λu s1 ⟨x,H1,I2,rx,q1⟩=>thn (hv pins s1 σ H1 _ I2 q1) λw2 s2 ⟨y,H2,I3,ry,e,b,kk,ex,eb,q2⟩=>pairTrees_nil_walk ?_);subst ex;obtain rfl:u=Value.ref b:=rx;obtain ⟨z,hd,xs,O,dd⟩:=mZ I3.hok e;cases O;unfold storeAll;rw[qL3];refine qA0 (qA0 (wpAny_dictSet_heap (knd:=tupleKind (t9 X.prog X.w)) (hsz:=qD2 _) (show (tupleKind (t9 X.prog X.w)).room X.A from qN1 hu) (aQ I3.hok eb) dd λh' L hs=>qN6 ?_))
 change wpAny _ _ (forIn [] PUnit.unit _) _ _ _;rw[qT4];refine qN6 ⟨.ref s.heap.objs.size,_,?_,rfl,q2⟩;obtain ⟨qo,es,ep,hq,h2,h3,h4,_,h5⟩:=L;refine fj I3 (by rw[e];show True.intro) hs ⟨qo,hq⟩ ⟨Nat.succ_le_of_lt QV,hd,_,(KT.put (H:=H2) (kvs:=[]) (xs:=[]) .nil kk eb ry).keeps λc ys ec=>?_,qo,es,ep,hq,h2,h3,h4,h5⟩;rw[c8 (uT ec e (λz=>nomatch z))];show ec
def An {X:Cx}{K:Frag}{EX:EXT}{d:Mode}{k v:Expr}{pos:Pos}{L me:JJ}{i:Nat}{x:Str}{pos' pos2:Pos}(hu:X.A.units+64<cLine) (hN:X.N.Nodup) (hi:X.N[i]?=some x) (O:Loc X.env.scope x) (hk:PE X k (tM K EX .B L)) (hv:PE X v (tM K EX .B me)) (hs:swapsWith (.Dict [some k] [v] pos) (some (.Name x pos')) pos2.line X.env=pure false:=by rfl) (hf:X.fn x=true\/X.env.scope.names.lookup x=some .local:=by first|show Or.inl rfl|show Or.inr rfl|assumption):
  PS X (.Assign [.Name x pos'] (.Dict [some k] [v] pos) pos2) (tSt K EX d (gD i L me)):=(W8 hN hi O (oS ox hk hv) hs hf).mono λ_ _ _ q=>Dn q
def uO {X:Cx}{K:Frag}{EX:EXT}{k:Expr}{pos:Pos}{O:JJ}{i:Nat}{x:Str}{p:Pos}(hu:X.A.units+64<cLine)(hN:X.N[i]?=some x)(hv:Vis X.env.scope x)(hk:PE X k (tM K EX .B O))(hd:(x == ("__debug__" : Str))=false:=by decide)(L:(x == ("__classdict__" : Str))=false:=by decide)(hm:behindInMarks .In (.Name x p)=false:=by rfl):PT X (.Compare k [.In] [.Name x p] pos) (tT K EX (mIn false i O)):=(Ay (AL ox hk (Q2 hN hv hd L)) hm).mono λ_ _ _ q=>Fh q
def ir {X:Cx}{K:Frag}{EX:EXT}{d:Mode}{e k:Expr}{pos:Pos}{mk me:JJ}{i:Nat}{x:Str}{p O:Pos}(hu:X.A.units+64<cLine)(hN:X.N[i]?=some x)(hv:Vis X.env.scope x)(hk:PE X k (tM K EX .B mk))(he:PE X e (tM K EX .B me))(hd:(x == ("__debug__" : Str))=false:=by decide)(L:(x == ("__classdict__" : Str))=false:=by decide)(hs:swapsWith e (some (.Subscript (.Name x p) k O)) pos.line X.env=pure false:=by rfl):PS X (.Assign [.Subscript (.Name x p) k O] e pos) (tSt K EX d (V6 i mk me)):=(wu ox (Q2 hN hv hd L) hk he hs).mono λ_ _ _ q=>Dm q
set_option maxHeartbeats 2000000
def pE (neg:Bool)(i:Nat)(q:JJ)(ρ:Rho):mIn neg i q ρ=(q ρ>>=λw=>inD ρ[i]? w neg):=rfl
def pU (ks:Jo)(k:Jg):inD (some (.dic ks)) (.tup (k.map W.int)) false=.ok (decide (k∈ks)):=by unfold inD;rw[dE];rfl
def ja (i:Nat)(q me:JJ)(ρ:Rho):V6 i q me ρ=gK ρ[i]? (me ρ) (q ρ) i ρ:=rfl
def U7 (ks:Jo) (w:W) (k:Jg) (i:Nat) (ρ:Rho) (h:noDic (ρ.set i .un)=true) (hl:ks.length<1000):gK (some (.dic ks)) (.ok w) (.ok (.tup (k.map W.int))) i ρ=.ok (.nx (ρ.set i (.dic (V1 ks k)))):=by
 change putD ks i (.tup (k.map W.int)) ρ=_;unfold putD;rw[dE];show qA2 ⟨h,hl⟩
def sT (i:Nat)(q me:JJ)(ρ:Rho):gD i q me ρ=(q ρ>>=λw=>me ρ>>=λ_=>newD i w ρ):=rfl
def kR (i:Nat)(k:Jg)(ρ:Rho):newD i (.tup (k.map W.int)) ρ=.ok (.nx (ρ.set i (.dic [k]))):=by unfold newD;rw[dE]
def m7 {i j}(q:PA X es (tA K EX d mr)):PA X (.Constant (.int i) j p::es) (tA K EX d (aC (mC (.int i)) mr)):=a9 c7 q QZ
def Ak {a0 a1 a2 a3 a4 a5 a6}{u0 u1 u2 u3 u4 u5 u6}:PE X (.List [.Constant (.int a0) u0 p0,.Constant (.int a1) u1 p1,.Constant (.int a2) u2 p2,.Constant (.int a3) u3 p3,.Constant (.int a4) u4 p4,.Constant (.int a5) u5 p5,.Constant (.int a6) u6 p6] pos) (tM K EX .F (C0 (aC (mC (.int a0)) (aC (mC (.int a1)) (aC (mC (.int a2)) (aC (mC (.int a3)) (aC (mC (.int a4)) (aC (mC (.int a5)) (aC (mC (.int a6)) aN))))))))):=by
 refine B7 ?_;refine m7 ?_;refine m7 ?_;refine m7 ?_;refine m7 ?_;refine m7 ?_;refine m7 ?_;refine m7 ?_;show b7
def Aj {a0 a1 a2 a3 a4 a5 a6 a7}{u0 u1 u2 u3 u4 u5 u6 u7}:PE X (.List [.Constant (.int a0) u0 p0,.Constant (.int a1) u1 p1,.Constant (.int a2) u2 p2,.Constant (.int a3) u3 p3,.Constant (.int a4) u4 p4,.Constant (.int a5) u5 p5,.Constant (.int a6) u6 p6,.Constant (.int a7) u7 p7] pos) (tM K EX .F (C0 (aC (mC (.int a0)) (aC (mC (.int a1)) (aC (mC (.int a2)) (aC (mC (.int a3)) (aC (mC (.int a4)) (aC (mC (.int a5)) (aC (mC (.int a6)) (aC (mC (.int a7)) aN)))))))))):=by
 refine B7 ?_;refine m7 ?_;refine m7 ?_;refine m7 ?_;refine m7 ?_;refine m7 ?_;refine m7 ?_;refine m7 ?_;refine m7 ?_;show b7
end TP
namespace TB
open PySem PySem.W
def bits_of {ns:Jg}(h:WData.layableAll [WData.list (ns.map WData.int)]=true):∀x∈ns,Builtin.Int.intBits x<=1048576:=λx q=>by
 have O:(WData.list (ns.map WData.int)).layable=true:=by simpa [WData.layableAll]using h
 have h2:(WData.list (ns.map WData.int)).weight<=2^20:=(layableW_iff.mp O).2.2;have key:∀ms:List Int,x∈ms->Builtin.Int.intBits x<=WData.weightAll (ms.map WData.int):=by
  intro ms
  induction ms with
  |nil=>intro z;cases z
  | cons m ms L=>
   intro z;rw[qC0]
   change _<=WData.weight (.int m)+1+WData.weightAll (ms.map WData.int);rcases qB6.mp z with e|e
   .subst e
    have:WData.weight (.int x)=Builtin.Int.intBits x:=QZ
    omega
   .have:=L e
    omega
 show qB1 (key ns q) (by simpa [WData.weight]using h2)
end TB
namespace Att
open PySem PySem.W PySem.Calls PyProof.Rows
def attach_callB {l:OpenLaw}(hn:l.most=some n) (a8:d.params.defaults = []) (call:∀(w:World) (s₀ L:Shared) (mg mb:Jz) (fa:Addr) (o:Obj) (pm cd doc:Value) (a:Addr) (vs:Jw) (ns:Jg),
   Ground q loose [] XP w s₀ mg mb L.heap->YP w L.heap ->
   L.heap.get? fa=some o->o.data=.func (docDef d.name d.params d.body d.scope pm cd doc)->L.heap.CodeRec cd d.name->mg d.name=some (.ref fa) ->
   L.heap.get? a=some { cls:=.type "list",data:=.seq vs.toArray }->IntsAre vs ns->ns.length<=n->(∀x∈ns,Builtin.Int.intBits x<=1048576)->L.gens=#[] ->
   codeAny (model l.prog w) callerA (.call (.ref fa) ⟨[.ref a],[]⟩) (λr s'=>r=.ok (.ret (.bool true))/\OldK L.heap s'.heap/\s'.os=L.os/\AllBare s'.gens) L):
  WalkO q loose XP YP l.row.toRowW d [] (λf vs=>PySem.call f vs):=by
 intro w s₀ L mg mb G Y fa o pm cd doc dV kV ho hd a5 hD a6 hg args vals as a3 a4 ab a7 b0;obtain rfl:dV=.none:=Dflts.none hD a8;obtain rfl:kV=.none:=Dflts.noKw hD;obtain ⟨a,vs,ns,rfl,rfl,O,hints,hlen⟩:=on hn a3 a7;refine enter_call (qS3 (call w s₀ L mg mb fa o pm cd doc a vs ns G Y ho (fd_plain hd) a5 a6 O hints hlen (TB.bits_of a4) hg) λr s' hq=>?_);obtain ⟨rfl,h2,h3,h4⟩:=hq;show ⟨.inl ⟨.bool true,.bool true,[],rfl,λ_=>rfl,.bool true,oM l _,λ_=>⟨List.Pairwise.nil,λ_ hm=>(nomatch hm)⟩⟩,h2,h3,h4⟩
end Att
namespace L2
open PySem PySem.Spec PyProof.Rows
def qO {l:PySem.W.OpenLaw}{K:Params->Frag}{CX:World->CXT}{sp:World->Sp}(hn:l.most=some n) (a6:n<=sizeLine) (a8:d.params.defaults = []) (hr:Room k callerA) (hY:∀(w:World) (h:Heap),YP w h->(K w.params).In h) (F:∀(w:World) (mg:Jz) (fa:Addr) (h:Heap),(K w.params).In h->h.Ns mainGlobals mg->mg d.name=some (.ref fa) ->
   ∃ fd:FuncData,(∀(s:Shared) (u:Value),BindsTo s fd ⟨[u],[]⟩ [(x,u)]) /\
    ∀base:Heap,(K w.params).In base->base.Ns mainGlobals mg->FnOk l.prog w (K w.params) mg base (CX w) k fa fd [x] (sp w)) (a7:∀(w:World) (H:Hp) (a:Addr) (ns:Jg),ns.length<=n->(∀x∈ns,Builtin.Int.intBits x<=1048576)->nz H->SqL (K w.params) H a (ns.map V.int)->sp w [.ref a] H (λv _=>v=.bl true) λ_ _ _=>False) (a5:∀(w:World) (H:Hp) (s:Shared) (e:Value) (s':Shared),CX w [] H s (λ_ _ _=>False) e s'->False):
  PySem.W.WalkO q loose XP YP l.row.toRowW d [] (λf vs=>PySem.call f vs):=by
 refine Att.attach_callB hn a8 λw s₀ O mg mb fa o pm cd doc a vs ns G Y ho hd ab a3 L hints hlen a4 hg=>?_;have KX:=hY w _ Y;obtain ⟨fd,hb,hF⟩:=F w mg fa _ KX G.T.g a3;show sZ KX G.T.g G.T.b G.T.builtins G.T.nolimit hg L hints (qB1 hlen a6) hr hF hb (λH hO hS=>a7 w H a ns hlen a4 hO hS) λH e s'=>a5 w H O e s'
def walk_ofKB {l:PySem.W.OpenLaw}{K:Params->Frag}{sp:Frag->Sp}(hn:l.most=some n) (O:n<=sizeLine) (a4:d.params.defaults = []) (hr:Room k callerA) (hY:∀(w:World) (h:Heap),YP w h->(K w.params).In h) (F:∀(w:World) (mg:Jz) (fa:Addr) (h:Heap),(K w.params).In h->h.Ns mainGlobals mg->mg d.name=some (.ref fa) ->
   ∃ fd:FuncData,(∀(s:Shared) (u:Value),BindsTo s fd ⟨[u],[]⟩ [(x,u)]) /\
    ∀base:Heap,(K w.params).In base->base.Ns mainGlobals mg->FnOk l.prog w (K w.params) mg base CX k fa fd [x] (sp (K w.params))) (a3:∀(K:Frag) (H:Hp) (a:Addr) (ns:Jg),ns.length<=n->(∀x∈ns,Builtin.Int.intBits x<=1048576)->nz H->SqL K H a (ns.map V.int)->sp K [.ref a] H (λv _=>v=.bl true) λ_ _ _=>False) (L:∀(H:Hp) (s:Shared) (e:Value) (s':Shared),CX [] H s (λ_ _ _=>False) e s'->False):
  PySem.W.WalkO q loose XP YP l.row.toRowW d [] (λf vs=>PySem.call f vs):=
 qO (K:=K) (CX:=λ_=>CX) (sp:=λw=>sp (K w.params)) hn O a4 hr hY F (λw H a ns h1 hb h2 h3=>a3 (K w.params) H a ns h1 hb h2 h3) λ_ H s e s'=>L H s e s'
end L2
namespace TP
open PySem L2
def CMulB (i j:Int):Prop:=CMul i j\/Builtin.Int.intBits i+Builtin.Int.intBits j<=134217728
instance (i j:Int):Decidable (CMulB i j):=by unfold CMulB;infer_instance
def CMulB.ok (h:CMulB i j):IntMulOk i j:=by
 rcases h with h|h
 .show h.ok
 .show IntMulOk.of_le (qB5 _) (qB5 _) h
def G7:OpR X (binaryOp .Mult) (rI CMulB λi j=>.int (i*j)):=opI λ_ _ _ _ _ _ _ hc q=>PyProof.Rows.mul_int q hc.ok
def pB {i j:Int}(h:-18446744073709551616<i/\i<18446744073709551616):fI CMulB A9 (.int i) (.int j)=.ok (.int (i*j)):=by
 change (if CMulB i j then _ else _)=_;show qA2 (.inl (.inl h))
def pA {i j:Int}(h:-18446744073709551616<j/\j<18446744073709551616):fI CMulB A9 (.int i) (.int j)=.ok (.int (i*j)):=by
 change (if CMulB i j then _ else _)=_;show qA2 (.inl (.inr h))
def pz {i j:Int}(h:Builtin.Int.intBits i+Builtin.Int.intBits j<=134217728):fI CMulB A9 (.int i) (.int j)=.ok (.int (i*j)):=by
 change (if CMulB i j then _ else _)=_;show qA2 (.inr h)
def xm (G:FnOk P w K mg base CX0 k f fd ps (spM K 1 d F)) (h:∀ns:List Int,ns.length<=63->(∀x∈ns,Builtin.Int.intBits x<=1048576)->F [.scr (ns.map W.int)]=.ok (.bl true)):FnOk P w K mg base CX0 k f fd ps (λvs H Q _=>∃(a:Addr) (ns:Jg),vs = [.ref a]/\SqL K H a (ns.map V.int)/\ns.length<=63/\(∀x∈ns,Builtin.Int.intBits x<=1048576)/\∀H',Q (.bl true) H'):=
 G.imp λvs H Q E L=>by
  obtain ⟨a,ns,e,hs,hl,hb,q⟩:=L;subst e;refine ⟨rfl,[.scr (ns.map W.int)],.cons (.scr hs ?_) .nil,?_⟩
  .clear hs hl hb
   induction ns with
   |nil=>show .nil
   |cons n ns O=>show .cons .int O
  .rw [h ns hl hb]
   intro v G' H' _ _ _ m;have e:v=.bl true:=by
    cases d <;> first | (cases m;rfl) | (rcases m with m|⟨_,_,_,_,z,_⟩ <;> first | (cases m;rfl)|cases z)
   subst e;show q H'
end TP
namespace TL
open PySem
def AT:typeLookup (.type "list_reverseiterator") "__len__" = pure none:=by rw[typeLookup_type,builtinLookup_eq_fast];kernel_rfl
def tH:typeLookup (.type "list_reverseiterator") "__length_hint__" = pure (some (.builtin "list_reverseiterator.__length_hint__")):=by rw[typeLookup_type,builtinLookup_eq_fast];kernel_rfl
def sub_self:isSubtype (.type "list_reverseiterator") (.type "list_reverseiterator")=pure true:=by rw[isSubtype_type];kernel_rfl
def tF (a3:s.heap.IsRevIter I l i) (h:Q false s):wpAny (model prog w) A (Builtin.List.listLengthHint (.ref I)) Q E s:=by
 have L:=a3.typeIs;unfold Builtin.List.listLengthHint;refine qA0 (wpAny_specialOf L AT ?_)
 change wpAny _ _ (specialOf (Value.ref I) (Str.ofString "__length_hint__")>>=_) _ _ _;refine qA0 (wpAny_specialOf L tH ?_);have q:splitId "list_reverseiterator.__length_hint__" = some ("list_reverseiterator","__length_hint__"):=Zo;dsimp only;rw[q];dsimp only;refine qA0 (wpAny_isInstance (T := "list_reverseiterator") (b:=true) L sub_self ?_);rw[qA4 (show ¬ ((!true)=true) by decide)];refine wpAny_ite_split (λ_=>?_) (λO=>absurd Zo O);rw[qA4 (show ¬ ((Value.builtin "list_reverseiterator.__length_hint__" == Value.builtin "range_iterator.__length_hint__")=true) by decide)];show qN6 h
def xO (O:Value) (hh:A.handled=none) (ab:l≠I) (L:s.heap.IsRevIter I l ((items.size:Int)-1)) (hl:s.heap.IsList l items) (a4:S≠I) (a7:S≠l) (hn:items.size<=sizeLine) (hS:s.heap.get? S=some { cls:=.type "list",data:=.seq #[] c₀ }) (hR:∀h' tk q c',(∀b o,b≠S->b≠I->s.heap.get? b=some o->h'.get? b=some o)->h'.get? S=some { cls:=.type "list",dict:=none,data:=.seq q c',slots:=#[] }->ItemsOf (λi v=>items[items.size-1-i]?=some v) q items.size->R (.ok (.ret O)) { s with heap:=h',toks:=tk }):
  wpAny (model prog w) A.in1 (Builtin.List.listExtendWith (.ref S) (.ref I) O)
   (λfin s'=>match fin with | .done f=>R (.ok f) s' | .again c'=>c'.quiet=true/\codeAny (model prog w) A c' R s') (λe s'=>R (.error e) s') s:=by
 have W:=(Walks.listRev (prog:=prog) (w:=w) (A:=A.in1) hh I l ab items).toS;have a5:S ∉ [I,l]:=by simp [a4,a7]
 unfold Builtin.List.listExtendWith;refine qA0 (wpAny_typeOf L.typeIs ?_);have h1:Builtin.List.listSameRef (.ref S) (.ref I)=false:=by simp [Builtin.List.listSameRef,a4]
 have h2:(Value.type "list_reverseiterator" == Value.type "list")=false/\(Value.type "list_reverseiterator" == Value.type "tuple")=false:=QV;rw[h1,h2.1,h2.2];simp only [xB1,qB9,qO0];refine qA0 (qS6 L ?_);refine qA0 (qO3 (tF L ?_));refine wpAny_ite_split (λb0=>absurd b0 Zo) (λ_=>?_);refine qN6 ⟨plainId_quiet F.plain_extend_loop _,?_⟩;refine codeAny_extend_loopS W hn S a5 O items.size 0 s #[] c₀ rfl (qD2 _) ⟨qD2 _,by simpa using L,hl⟩ hS (ItemsOf.nil _) λs' q c' hm a6 a3=>?_;rw[Moved.eq_with hm];show hR s'.heap s'.toks q c' (λb o hb a8 e=>hm.heap b o (by simp [hb,a8]) e) a6 a3
def call_list_rev (hh:A.handled=none) (bc:l≠I) (a8:s.heap.IsRevIter I l ((items.size:Int)-1)) (hl:s.heap.IsList l items) (hn:items.size<=sizeLine) (hQ:∀h' tk q c',(∀b o,b≠I->s.heap.get? b=some o->h'.get? b=some o)->h'.get? s.heap.objs.size=some { cls:=.type "list",dict:=none,data:=.seq q c',slots:=#[] }->ItemsOf (λi v=>items[items.size-1-i]?=some v) q items.size->Q (.ref s.heap.objs.size) { s with heap:=h',toks:=tk }):
  wpAny (model prog w) A (call (.type "list") [.ref I]) Q E s:=by
 obtain ⟨oi,hi,b5⟩:=id a8;obtain ⟨ol,a5,a6⟩:=id hl;have b3:s.heap.objs.size≠I:=λe=>absurd (qB3 hi) (by rw[<- e];show qF2 _);have b0:s.heap.objs.size≠l:=λe=>absurd (qB3 a5) (by rw[<- e];show qF2 _);refine callType_codes (Q₁:=λobj L=>obj=.ref s.heap.objs.size/\L={ s with heap:=s.heap.push { cls:=.type "list",data:=.seq #[] } }) F.called_list (F.typeCall_list_1 _) F.entry_list_init (code_list_new _ ⟨rfl,rfl⟩) λobj L a7=>?_;obtain ⟨rfl,rfl⟩:=a7;have hS:(s.heap.push { cls:=.type "list",data:=.seq #[] }).get? s.heap.objs.size=some { cls:=.type "list",data:=.seq #[] }:=qC2 _ rfl;refine ⟨⟨_,hS,rfl⟩,F.args_list_init_2 _ _,?_⟩
 change wpAny _ _ (do let b4 <- Builtin.List.listItems (.ref s.heap.objs.size);Builtin.List.listUpdate (.ref s.heap.objs.size) (λ_=>#[]);letGo b4.toList.reverse;Builtin.List.listExtendWith (.ref s.heap.objs.size) (.ref I) .none) _ _ _;refine qA0 ?_;unfold Builtin.List.listItems;refine qA0 (qO5 hS rfl (qN6 ?_))
 change wpAny _ _ (updateSeq s.heap.objs.size (λ_=>#[])>>=λ_=>letGo (#[]:Jy).toList.reverse>>=λ_=>Builtin.List.listExtendWith (.ref s.heap.objs.size) (.ref I) .none) _ _ _;refine qA0 (wpAny_updateSeq hS rfl ?_);have a3:=qI3 (Obj.mapSeq (λ_=>(#[]:Jy))) hS rfl;have O:∀b o,s.heap.get? b=some o->((s.heap.push { cls:=.type "list",data:=.seq #[] }).update s.heap.objs.size (Obj.mapSeq (λ_=>(#[]:Jy)))).get? b=some o:=λb o e=>by
  have hb:b≠s.heap.objs.size:=λz=>absurd (qB3 e) (by rw[z];show qF2 _);show (qR5 _ _ (Ne.symm hb)).trans (qA5 _ e)
 refine qA0 (wpAny_letGo ?_);refine xO (s:={ s with heap:=(s.heap.push { cls:=.type "list",data:=.seq #[] }).update s.heap.objs.size (Obj.mapSeq (λ_=>(#[]:Jy))) }) .none hh bc ⟨oi,O _ _ hi,b5⟩ ⟨ol,O _ _ a5,a6⟩ b3 b0 hn a3 λh' tk q c' hk ab a4=>?_;refine ⟨rfl,hQ h' tk q c' (λb o hb e=>hk b o (λz=>absurd (qB3 e) (by rw[z];show qF2 _)) hb (O b o e)) ab a4⟩
end TL
namespace TP
open PySem L2
def oD {its:Jw}(h:ItemsOf (λi v=>its.toArray[its.toArray.size-1-i]?=some v) acc its.toArray.size):acc.toList=its.reverse:=by
 obtain ⟨q,O⟩:=h;have hl:its.toArray.size=its.length:=qB8;rw[hl]at q;apply qK5
 .rw[qC7,qK7,q]
 .intro i L q2;have hi:i<acc.size:=by simpa using L
  have:=O i acc[i] (qE5 hi)
  rw[hl]at this;rw[List.getElem_reverse,Array.getElem_toList];have e:its.toArray[its.length-1-i]?=some (its[its.length-1-i]'ox):=QX;rw[e]at this;show (Option.some.inj this).symm
def tRv (K:Frag)(f:List V->HO)(q:TA):TE:=λσ H Q=>q σ H λvs H1=>∃a xs,vs = [.ref a]/\SqL K H1 a xs/\∀p,H1 p=none->Q (.ref p) (upd H1 p (f xs.reverse))
def wy {X:Cx}{a:Expr}{ta:TA}{p pos p2 pos2:Pos}(hc:X.calm=true) (b0:Gl X "list") (a8:X.mg "list" = none) (hg:Gl X "reversed") (hm:X.mg "reversed" = none) (ha:PA X [a] ta) (hs:starEach [a] X.env = [(false,eval a X.env)]:=by rfl) (a7:starEach [.Call (.Name "reversed" p2) [a] [] pos2] X.env = [(false,eval (.Call (.Name "reversed" p2) [a] [] pos2) X.env)]:=by rfl):PE X (.Call (.Name "list" p) [.Call (.Name "reversed" p2) [a] [] pos2] [] pos) (tRv X.K .lst ta):=by
 intro pins s σ H Q I h;refine qO1 (F4 I b0 a8 bN ?_ QV QV);refine qF4 ?_ a7 QZ;rw[a7]
 change wpAny _ _ (spliced [(false,eval (.Call (.Name "reversed" p2) [a] [] pos2) X.env)]) _ _ s;refine qT7 ?_;refine qO1 (F4 I hg hm cf ?_ QV QV);refine qF4 (thn (ha pos2 pins s σ H _ I h) λus s1 a6=>?_) hs QZ;obtain ⟨vs,H1,I1,r1,q1⟩:=a6;obtain ⟨b,xs,e,hq,q⟩:=q1;subst e;obtain ⟨u,rfl,ru⟩:=K4 r1;cases ru;obtain ⟨its,rv,pl,hz⟩:=I1.list hq;have hl:=rv.length;have hsz:its.toArray.size<=sizeLine:=by rw[qB8,<- hl];show hz
 obtain ⟨ol,a4,a5⟩:=id pl.isList;have ab:b≠s1.heap.objs.size:=λz=>absurd (qB3 a4) (by rw[z];show qF2 _);refine call_reversed_list pl.isList (qU6 ?_);refine TL.call_list_rev (s:={ s1 with heap:=s1.heap.push (revObj b ((its.toArray.size:Int)-1)) }) (I1.ok.hd hc) ab ⟨_,qC2 _ rfl,rfl,rfl⟩ ⟨ol,qA5 _ a4,a5⟩ hsz λh' tk b3 c' hk hS O=>?_;have e1:=oD O;have L:∀b o,s1.heap.get? b=some o->h'.get? b=some o:=λb o e=>hk b o (λz=>absurd (qB3 e) (by rw[z];show qF2 _)) (qA5 _ e);have a3:s1.heap.objs.size<=(s1.heap.push (revObj b ((its.toArray.size:Int)-1))).objs.size:=by rw[show (s1.heap.push (revObj b ((its.toArray.size:Int)-1))).objs.size=s1.heap.objs.size+1 from by simp [Heap.push]];omega
 refine ⟨.ref (s1.heap.push (revObj b ((its.toArray.size:Int)-1))).objs.size,_,I1.laid (t':=tk) L a3 (show ObjOk X.prog X.w _ h' _ (.lst xs.reverse) from ⟨by rw[qK7];show hz,its.reverse,c',Vals.reverse rv,?_⟩),rfl,q _ (I1.hok.fresh a3)⟩;rw[<- e1];simpa using hS
def dJ:List W->R W
 | [w]=>match w with
  | .lst ws=>chks false ws.reverse
  |_=>.stuck
 |_=>.stuck
def Dj (h:tM K EX .F (bA dJ ma) σ H Q):tRv K .lst (tA K EX .B ma) σ H Q:=by
 obtain ⟨H0,G,ρ,I,o⟩:=h;replace o:Out EX G H (mdW K .F H0 H) (ma ρ>>=dJ) Q:=o
 refine ⟨H0,G,ρ,I,Out.bind o λxs G1 H1 ws e1 O q=>?_⟩;have L:=I.ext e1;cases O with
 |nil=>show q.elim
 | cons a t=>
  cases t with
  |cons _ _=>show q.elim
  | nil=>
   rename_i w v
   cases w <;> first|show q.elim|skip
   rename_i us
   obtain ⟨p,vs,rfl,hs,r⟩:=a.lstB L;show ⟨p,vs,rfl,SqL.of hs,Out.chks L e1.hh (c:=false) (by rw[qA4 qA3];show r.reverse) q⟩
def Ai {X:Cx}{K:Frag}{EX:EXT}{a:Expr}{pos:Pos}{mr:JW}{p O pos2:Pos}(hc:X.calm=true) (a4:Gl X "list") (L:X.mg "list" = none) (hg:Gl X "reversed") (hm:X.mg "reversed" = none) (ha:PA X [a] (tA K EX .B mr)) (hK:X.K=K:=by rfl) (hs:starEach [a] X.env = [(false,eval a X.env)]:=by rfl) (a3:starEach [.Call (.Name "reversed" O) [a] [] pos2] X.env = [(false,eval (.Call (.Name "reversed" O) [a] [] pos2) X.env)]:=by rfl):PE X (.Call (.Name "list" p) [.Call (.Name "reversed" O) [a] [] pos2] [] pos) (tM K EX .F (bA dJ mr)):=by
 subst hK;show (wy hc a4 L hg hm ha hs a3).mono λ_ _ _ q=>Dj q
def lA (ns:Jg):dJ [.lst (ns.map W.int)]=.ok (.lst (ns.reverse.map W.int)):=by
 have hn:∀l:List Int,l9 (l.map W.int)=true:=λl=>by induction l with|nil=>rfl|cons a l q=>simpa [l9,noL]using q
 change TP.chks false (ns.map W.int).reverse=_;rw[<- List.map_reverse];unfold TP.chks;rw[hn,qM1,qA2 rfl]
def mS (u:W)(ws:JZ):Option Nat:=(pds ws).findIdx? λy=>PyData.eqv y (pd u)
def iq (K:Frag):V->List V->Hp->VK->Prop:=λx vs H Q=>∃u ws y j,vs = [y]/\Rep K H y u/\Rep K H x (.lst ws)/\shp 8 u=true/\shp 8 (.lst ws)=true/\mS u ws=some j/\j<1000/\Q (.int (j:Int)) H
def sK (hu:X.A.units+64<cLine):MtR X "list.index" (iq X.K):=by
 intro pins s σ H x vs v us Q I rx rv h;obtain ⟨u,ws,y,j,rfl,ry,rc,su,sc,hj,a8,q⟩:=h;obtain ⟨uy,rfl,rr⟩:=rv.one;obtain ⟨as,qa⟩:=Rep.reads I 8 ry su rr;obtain ⟨bs,qb⟩:=Rep.reads I 8 rc sc rx;have la:=cX u 8 su;have lc:=kA ws 7 sc;have hm:X.A.units+1+min (PyData.depthAll (pds ws)) (pd u).depth<cLine:=by have:=qL4 (PyData.depthAll (pds ws)) (pd u).depth;omega
 have qb:Reads s.heap v (.list (pds ws)) bs:=qb;cases qb with
 | list h1 h2 h3 h4=>
  rename_i a o items n as'
  obtain ⟨oc,od,a6,osl⟩:=o;have h2:oc=.type "list" := h2;have h3:a6=.seq items n:=h3;subst h2 h3;have O:=SeqAt.readsAll_map (pds ws) _ _ lc.1 h4;have a5:=SeqAt.items_eqAt (A:=X.A) h4 qa lc.1 la.1 hm;unfold mS at hj;rw[<- O,List.findIdx?_map,List.findIdx?_eq_some_iff_getElem]at hj;obtain ⟨a4,ht,a7⟩:=hj;have L:j<items.size:=by simpa using a4
  refine call_meets qW3 ⟨_,h1,rfl⟩ PySem.F.entry_list_index (PySem.F.args_list_index_2 _ _) (SeqAt.list_indexAt a items n od osl uy (λz=>PyData.eqv (SeqAt.readOf s.heap z) (pd u)) j L ox (by simpa using ht) (λm ab a3=>by simpa using a7 m a3)) ⟨h1,a5,?_⟩;show ⟨.int (j:Int),H,I.tok _,⟨_,rfl⟩,q⟩
def jk (ws:JZ) (u:W):R W:=if (shp 8 u&&shp 8 (.lst ws))=true then (match mS u ws with
 |some j=>if j<1000 then .ok (.int (j:Int)) else .stuck
 |none=>.stuck) else .stuck
def Rix (x:R W) (y:R W):R W:=x>>=λx=>(match x with
 | .lst ws=>y>>=λy=>jk ws y
 |_=>.stuck)
def iY (q me:JJ):JJ:=λρ=>Rix (q ρ) (me ρ)
def kZ (q me:JJ)(ρ:Rho):iY q me ρ=Rix (q ρ) (me ρ):=rfl
def qJ (ws:JZ)(u:W):Rix (.ok (.lst ws)) (.ok u)=jk ws u:=rfl
def ya (h:tM K EX d (iY mo me) σ H Q):tBM K "list" (iq K) (tM K EX .B mo) (tA K EX .B (aC me aN)) σ H Q:=by
 obtain ⟨H0,G,ρ,I,o⟩:=h;unfold iY Rix at o;refine ⟨H0,G,ρ,I,Out.bind o λx G1 H1 w e1 m1 o1=>?_⟩;have O:=I.ext e1;cases w <;> first|show o1.elim|skip
 rename_i ws
 obtain ⟨p,vs,rfl,hs,_⟩:=m1.lstB O;refine ⟨.inl ⟨rfl,vs,SqL.of hs⟩,H0,G1,ρ,O,?_⟩;have key:Out EX G1 H1 (mdW K .B H0 H1) (me ρ) λy H2=>iq K (.ref p) [y] H2 Q:=Out.bind (md:=mdW K .B H0 H1) o1 λy G2 H2 u e2 L q=>by
  have I2:=O.ext e2;unfold jk at q;by_cases c:(shp 8 u&&shp 8 (.lst ws))=true
  .rw [qA2 c]at q
   have c':shp 8 u=true/\shp 8 (.lst ws)=true:=by simpa using c
   cases hj:mS u ws with
   |none=>rw[hj]at q;show q.elim
   | some j=>
    rw[hj]at q;by_cases hl:j<1000
    .dsimp only at q;rw[qA2 hl]at q;show ⟨u,ws,y,j,rfl,L.whole I2,(m1.move e2).whole I2,c'.1,c'.2,hj,hl,q _ G2 H2 (Ext.refl I2.gh) (Md.sca rfl (λ_=>.int) d)⟩
    .dsimp only at q;rw[qA4 hl]at q;show q.elim
  .rw[qA4 c]at q;show q.elim
 change Out EX G1 H1 (mdA K .B H0 H1) (me ρ>>=λw=>aN ρ>>=λws=>.ok (w::ws)) _
 revert key
 cases me ρ with
 |stuck=>show id
 |ex e=>show id
 | ok u=>
  intro key v G2 H2 e2 L;cases L with
  |cons a t=>cases t;show key _ G2 H2 e2 a
def wg {X:Cx}{K:Frag}{EX:EXT}{d:Mode}{o e:Expr}{apos L:Pos}{mo me:JJ}(hu:X.A.units+64<cLine) (ho:PE X o (tM K EX .B mo)) (he:PE X e (tM K EX .B me)) (hK:X.K=K:=by rfl) (a3:attributeBase o "index" X.env (eval o X.env)=eval o X.env:=by rfl) (a5:((backTo L (starEach [e] X.env)).all (λx=>!x.1)&&(backToKw L (keywordEach [] X.env)).all (λx=>x.1.isSome)
   && decide (([e]:Jx).length+([]:List Keyword).length+(if ([]:List Keyword).isEmpty then 0 else 1)<30))=true:=by rfl) (a4:(apos.endLine == L.line)=true:=by rfl) (hs:starEach [e] X.env=(false,eval e X.env)::starEach [] X.env:=by rfl) (O:(backTo L (starEach [] X.env)).any (·.1)=false:=by rfl):
  PE X (.Call (.Attribute o "index" apos) [e] [] L) (tM K EX d (iY mo me)):=by
 subst hK;show (uQ qR2 qW3 PySem.F.type_list_index (sK hu) ho (a9 he b7 hs) a3 a5 a4 hs O).mono λ_ _ _ q=>ya q
def OutW (K:Frag) (EX:EXT) (d:Mode) (H0:Hp) (r:R Fl) (D:Ends):Prop:=match r with
 | .ok (.nx ρ)=>∀G' q H',PIv K H0 G' ρ q H'->D.nx q H'
 | .ok (.bk ρ)=>∀G' q H',PIv K H0 G' ρ q H'->D.bk q H'
 | .ok (.ct ρ)=>∀G' q H',PIv K H0 G' ρ q H'->D.ct q H'
 | .ok (.rt w)=>∀v G' H',Same G' H'->Same H0 H'->(∀a o,H0 a=some o->isL o=true->G' a=none)->Md K H0 H0 G' H' v w d->D.rt v H'
 | .ex e=>∀H',Same H0 H'->EX e H'
 | .stuck=>False
def tStW (K:Frag)(EX:EXT)(d:Mode)(m:JV):TS:=λD σ H=>∃H0 G ρ,PIv K H0 G ρ σ H/\OutW K EX d H0 (m ρ) D
def clS:Sl->Sl
 | .un=>.un
 | .val w=>if noL w=true then .val w else .un
 | .par w=>if noL w=true then .val w else .un
 | .own ws=>if l9 ws=true then .own ws else .un
 | .dic ks=>.dic ks
 | .dik ks=>.dik ks
 | .iop p ws=>if l9 ws=true then .iop p ws else .un
 | .hz _=>.un
def subS (i j:Nat)(us q:JZ)(ρ:Rho):Rho:=(ρ.map clS).set i (.val (.tup (us.set j (.lst q))))
set_option maxHeartbeats 2000000
def Hx (p:Addr)(H0 H1:Hp):Prop:=(∀a,a≠p->H1 a=H0 a)/\∃vs,H1 p=some (.lst vs)
def Fy (K:Frag) (EX:EXT) (p:Addr) (H0:Hp) (r:R Fl) (D:Ends):Prop:=match r with
 | .ok (.nx ρ)=>∀q G' L H',Hx p H0 q->PIv K q G' ρ L H'->D.nx L H'
 | .ok (.bk ρ)=>∀q G' L H',Hx p H0 q->PIv K q G' ρ L H'->D.rt .non H'
 | .ex e=>∀H',EX e H'
 |_=>False
def tStI (K:Frag)(EX:EXT)(p:Addr)(m:JV):TS:=λD σ H=>∃H0 G ρ,PIv K H0 G ρ σ H/\(∃vs,H0 p=some (.lst vs))/\Fy K EX p H0 (m ρ) D
def nbR:R Fl->R Fl
 | .ok (.nx ρ)=>.ok (.nx ρ)
 | .ex e=>.ex e
 |_=>.stuck
def nb (m:JV):JV:=λρ=>nbR (m ρ)
def clI:Sl->Sl
 | .un=>.un
 | .val w=>.val w
 | .par w=>if noL w=true then .val w else .un
 | .own ws=>.own ws
 | .dic ks=>.dic ks
 | .dik ks=>.dik ks
 | .iop _ _=>.un
 | .hz _=>.un
def ioR (p:Addr) (ρ:Rho):R JZ:=match (ρ[1]?:Option Sl) with
 |some (.iop q cs)=>if q=p then .ok cs else .stuck
 |_=>.stuck
def DV (n N:Nat) (m:Addr->Rho->R Fl) (p:Addr) (q:W) (cs wr:JZ):R JZ:=if wr.length+2=n/\l9 cs=true then (match m p (.par q::.iop p cs::(wr.map Sl.par++List.replicate (N-n) Sl.un)) with
 | .ok (.nx ρ)=>ioR p ρ
 | .ok (.bk ρ)=>ioR p ρ
 |_=>.stuck) else .stuck
open Classical in
def runIOA (n N:Nat)(m:Addr->Rho->R Fl)(L:W)(cs wr:JZ):R JZ:=if h:∃q,∀p,DV n N m p L cs wr=.ok q then .ok (Classical.choose h) else .stuck
def Rep.ofNoL (r:Rep K H v w)(h:noL w=true):Rep K (A8 H) v w:=Rep.clean (PIv.begin (vs:=[]) (ws:=[]) (k:=0) (k':=0) .nil rfl) (by rw[fP];show r) h
def AV (K:Frag)(H:Hp):Same (A8 H) H:=(PIv.begin (K:=K) (H:=H) (vs:=[]) (ws:=[]) (k:=0) (k':=0) .nil rfl).gh
section
open PySem.W PyProof.Rows
def items_int:∀{xs:Jg}{its:Jw},Vals (xs.map V.int) its->ItemsAre (intKind prog w) xs its:=by
 intro xs
 induction xs with
 |nil=>intro its h;cases h;show .nil
 | cons x xs q=>
  intro its h;cases h with
  | cons r t=>
   obtain ⟨L,rfl⟩:=r;show .cons (by simp [intKind,Value.isInt]) (q t)
end
section
open PySem.W PyProof.Rows
end
section
open PySem.W PyProof.Rows
end
section
open PySem.W PyProof.Rows
end
section
open PySem.W PyProof.Rows
end
end TP
namespace TP
open PySem PyProof.Rows
def kk (rk:Keyed->Int) (xs:Array Keyed) (i:Nat):Int:=match xs[i]? with
 |some p=>rk p
 |none=>0
def mI (h:l<=r):l<=(l+r)/2:=(Nat.le_div_iff_mul_le QV).mpr (by rw[Nat.mul_two];show qE6 h _)
def gC (h:¬ l≥r):(l+r)/2<r:=(Nat.div_lt_iff_lt_mul QV).mpr (by rw[Nat.mul_two];show Nat.add_lt_add_right (qN3 h) _)
def bF {lo:Nat}(h:¬ lo≥hi):lo+(hi-lo)/2<hi:=qJ5 (Nat.div_lt_self (qU7 (qN3 h)) QV)
def zc (q:l<=m)(L:r-l<=n-x):r-(m+1)<=n-(x+1):=qB1 (qT0 (qG6 q) r) (Nat.pred_le_pred L)
def zd (q:l<=m)(L:m<r)(O:r-l<=n-x):m-l<=n-(x+1):=qJ7 (qB0 (Nat.sub_lt_sub_right q L) O)
def sb1 (h0:0<n) (h:n<=A):A-(n-1)=A-n+1:=by
 cases n with
 |zero=>show absurd h0 (qF2 _)
 |succ m=>show (Nat.succ_pred_eq_of_pos (qU7 h)).symm
def sb2 {A:Nat}(h:n<=A)(hk:k<=n):A-k=A-n+(n-k):=(Nat.sub_add_sub_cancel h hk).symm
def sb3 {lo:Nat}(L:q<=x)(h:lo+x-q<=k):x-q<=k-lo:=by rw[qH4 L]at h;show Nat.le_sub_of_add_le' h
def sb4 {lo:Nat}(L:q<=x)(h:lo+x-q<=k):lo+(k-lo)=k:=qE1 (qB1 (by rw[qH4 L];show qD8 _ _) h)
def sb5 {lo:Nat}(h:0<j):lo+(j-1)=lo+j-1:=(qH4 h lo).symm
def mr1 {lo:Nat}(h:i<m):lo+(lo+m)-1-(lo+i)=lo+(m-1-i):=ox
def ms0 (h:n+1+m+x+min y 1<=T):n+m+x+1<=T:=qB1 (qB1 (qJ1 (show n+1+m+x=n+m+x+1 by rw[qM8 n 1 m,qM8 (n+m) 1 x]).symm) (qD8 _ _)) h
def sL (h:n+m+x+min y 1<=T) (h0:0<n):n-1+m+x+1<=T:=by
 cases n with
 |zero=>show absurd h0 (qF2 _)
 |succ n=>show ms0 h
def ms1 (h:n+m+x+min y 1<=T)(h0:0<n):n-1+m+x+min (y+1) 1<=T:=qB1 (qE6 (qI2 (y+1) 1) _) (sL h h0)
def AX (h:n+m+x+min y 1<=T)(h0:0<m):n+(m-1)+x+1<=T:=by rw[qV4 n (m-1)];show sL (by rw[qV4 m n];show h) h0
def ms2 (h:n+m+x+min y 1<=T)(h0:0<m):n+(m-1)+x+min (y+1) 1<=T:=qB1 (qE6 (qI2 (y+1) 1) _) (AX h h0)
def ms3 (h:x+min y 1+1<=s):x+min (y+1) 1+1<=s+1:=qG6 (qB1 (qE6 (qI2 (y+1) 1) x) (qB1 (qG6 (qD8 x _)) h))
def AZ (h:i<=k/\k<j):i<=i+j-1-k/\i+j-1-k<j:=by
 have hk:k<=j-1:=qJ7 h.2;have e:i+j-1-k=i+(j-1-k):=by rw[qH4 (qD9 (qD2 k) h.2),qH4 hk]
 rw[e];show ⟨qD8 _ _,qD9 (qB1 (Nat.add_le_add_right h.1 _) (qJ1 (qE1 hk))) (qI0 (qD9 (qD2 k) h.2) QV)⟩
def sb6 {lo:Nat}(q:0<x)(h:lo+x<=A):lo+x-1<A:=qB0 (qI0 (qB0 q (Nat.le_add_left _ _)) QV) h
def Dt {f g:Nat->Int}(hl:l<=k) (hg:∀i,g i=if i=l then f k else if l<i/\i<=k then f (i-1) else f i) (u:∀i j,i<=j->j<k->f i<=f j) (a3:∀i,i<l->f i<=f k) (O:∀i,l<=i->i<k->f k<f i) (i j:Nat) (q:i<=j) (L:j<k+1):g i<=g j:=by
 have lt:∀i,i<l->g i=f i:=λi h=>by rw[hg,qA4 (qC8 h),qA4 λz=>Nat.lt_asymm z.1 h]
 have eq:g l=f k:=by rw[hg,qA2 rfl]
 have gt:∀i,l<i->i<=k->g i=f (i-1):=λi h h2=>by rw[hg,qA4 (qL9 h),qA2 ⟨h,h2⟩]
 have L:=qJ8 L;rcases qN2 j l with c|rfl|c
 .rw[lt j c,lt i (qD9 q c)];show u i j q (qB0 c hl)
 .rcases Nat.lt_or_eq_of_le q with d|rfl
  .rw[lt i d,eq];show a3 i d
  .show qH8 _
 .rw [gt j c L]
  cases j with
  |zero=>show absurd c (qE0 _)
  | succ j=>
   have cj:=qJ8 c;rcases qN2 i l with d|rfl|d
   .rw[lt i d];show u i j (qB1 (qI6 d) cj) L
   .rw[eq];show Int.le_of_lt (O j cj L)
   .rw[gt i d (qB1 q L)];show u (i-1) j (Nat.pred_le_pred q) L
def dD (h:xs[i]?=ys[j]?):kk rk xs i=kk rk ys j:=by unfold kk;rw[h]
def V7 (h:xs[i]?=some p):kk rk xs i=rk p:=by unfold kk;rw[h]
def Cmp (prog:Program)(w:World)(A:Around)(s:Shared)(κ:SortKind)(rk:Keyed->Int)(a₀:Array Keyed):Prop:=∀x∈a₀,∀y∈a₀,∀Q:Bool->Shared->Prop,Q (decide (rk x<rk y)) s->wpAny (model prog w) A (keyLt' κ x.1 y.1) Q (λ_ _=>False) s
def cU {st:SortSt}(hc:Cmp prog w A s κ rk a₀) (L:x∈a₀) (O:y∈a₀) (hk:kindOf st=κ) (h:Q (some (decide (rk x<rk y))) st):wpS (model prog w) A E s (lt' x y) Q st:=by
 rw[lt'_eq];refine wpS_bind (wpS_get ?_);rw[hk];refine wpS_bind (wpS_lift (wpAny_attempt (qQ1 (hc x L y O (λc s'=>c=decide (rk x<rk y)/\s'=s) ⟨rfl,rfl⟩) (λc s' q=>?_) λ_ _ hF=>hF.elim)));obtain ⟨rfl,rfl⟩:=q;show ⟨rfl,wpS_pure h⟩
def l6 {st:SortSt}(h:arr[i]?=some x) (q:Q x st):wpS (model prog w) A E s (elem' arr i) Q st:=by
 rw[elem'_eq,h];show wpS_pure q
def xw:Bool->Keyed->Array Keyed->Nat->Nat->Nat->StateT SortSt Sem (Option Nat):=sortPriv% PySem.Builtin.gallop
def bey (left:Bool) (key z:Int):Bool:=if left then decide (z<key) else !decide (key<z)
def Z5 (h:z<=y) (hb:bey left key y=true):bey left key z=true:=by
 unfold bey at hb ⊢;cases left
 .simp at hb ⊢;omega
 .simp at hb ⊢;omega
def bi (h:z<=y) (hb:bey left key z=false):bey left key y=false:=by
 cases q:bey left key y with
 |false=>rfl
 |true=>rw[Z5 h q]at hb;cases hb
def aj {st:SortSt}(hc:Cmp prog w A s κ rk a₀) (hk:kindOf st=κ) (q:key∈a₀) (L:∃x∈a₀,arr[j]?=some x) (h:Q (some (bey left (rk key) (kk rk arr j))) st):wpS (model prog w) A E s (elem' arr j>>=λx=>if left=true then lt' x key else lt' key x>>=λr=>pure (r.map (!·))) Q st:=by
 obtain ⟨x,O,e⟩:=L;rw[V7 e]at h;refine wpS_bind (l6 e ?_);cases left
 .show wpS_bind (cU hc q O hk (wpS_pure h))
 .show cU hc O q hk h
def L4 {st:SortSt}(hc:Cmp prog w A s κ rk a₀) (hk:kindOf st=κ) (a5:key∈a₀) (a4:∀i,i<n->∃x∈a₀,arr[base+i]?=some x) (hs:∀i j,i<=j->j<n->kk rk arr (base+i)<=kk rk arr (base+j)) (hh:hint<n) (h:∀k,k<=n->(∀i,i<k->bey left (rk key) (kk rk arr (base+i))=true)->(∀i,k<=i->i<n->bey left (rk key) (kk rk arr (base+i))=false)->Q (some k) st):wpS (model prog w) A E s (xw left key arr base n hint) Q st:=by
 have last:∀lo hi,hi<=n->lo<=hi->(∀i,i<lo->bey left (rk key) (kk rk arr (base+i))=true)->(∀i,hi<=i->i<n->bey left (rk key) (kk rk arr (base+i))=false) ->
   ∀{R:Option (Option Nat)×Nat×Nat->SortSt->Prop}{body:Nat->Option (Option Nat)×Nat×Nat->StateT SortSt Sem (ForInStep (Option (Option Nat)×Nat×Nat))},
   (∀x lo hi R',lo≥hi->R' (.done (none,lo,hi)) st->wpS (model prog w) A E s (body x (none,lo,hi)) R' st) ->
   (∀x lo hi R',lo<hi->hi<=n->R' (if bey left (rk key) (kk rk arr (base+(lo+(hi-lo)/2)))=true then .yield (none,lo+(hi-lo)/2+1,hi) else .yield (none,lo,lo+(hi-lo)/2)) st->wpS (model prog w) A E s (body x (none,lo,hi)) R' st) ->
   (∀lo hi,Q (some hi) st->R (none,lo,hi) st)->wpS (model prog w) A E s (forIn [0:n] (none,lo,hi) body) R st:=by
  intro lo hi hn hl h1 h2 R body a7 a8 hR;refine wpS_forRange (λx c a3=>a3=st/\∃lo hi,c=(none,lo,hi)/\hi<=n/\lo<=hi/\hi-lo<=n-x/\(∀i,i<lo->bey left (rk key) (kk rk arr (base+i))=true)/\(∀i,hi<=i->i<n->bey left (rk key) (kk rk arr (base+i))=false)) ?_ ?_ ⟨rfl,lo,hi,rfl,hn,hl,ox,h1,h2⟩
  .rintro x c a3 _ hx ⟨rfl,lo,hi,rfl,hn,hl,hd,h1,h2⟩;by_cases O:lo≥hi
   .refine a7 x lo hi _ O ?_
    have:lo=hi:=ox
    subst this;show hR _ _ (h lo hn h1 h2)
   .refine a8 x lo hi _ (qN3 O) hn ?_;cases q:bey left (rk key) (kk rk arr (base+(lo+(hi-lo)/2))) with
    | true=>
     rw[qA2 rfl];show ⟨rfl,_,_,rfl,hn,bF O,zc (qD8 _ _) hd,λi ab=>Z5 (hs i _ (qJ8 ab) (qB0 (bF O) hn)) q,h2⟩
    | false=>
     rw[qA4 qA3];show ⟨rfl,_,_,rfl,qI6 (qB0 (bF O) hn),qD8 _ _,zd (qD8 _ _) (bF O) hd,h1,λi a b=>bi (hs _ i a b) q⟩
  .rintro c a3 ⟨rfl,lo,hi,rfl,hn,hl,hd,h1,h2⟩
   have:lo=hi:=ox
   subst this;show hR _ _ (h lo hn h1 h2)
 refine wpS_bind (aj hc hk a5 (a4 hint hh) ?_);dsimp only;cases q0:bey left (rk key) (kk rk arr (base+hint)) with
 | true=>
  rw[qA2 rfl];refine wpS_bind (wpS_mono (wpS_forRange (λx c a3=>a3=st/\∃lo L,c=(none,lo,L)/\lo<L/\x<L/\hint+lo<n/\bey left (rk key) (kk rk arr (base+(hint+lo)))=true)
   (Q:=λc a3=>a3=st/\∃lo L,c=(none,lo,L)/\lo<L/\hint+lo<n/\bey left (rk key) (kk rk arr (base+(hint+lo)))=true/\(hint+L<n->bey left (rk key) (kk rk arr (base+(hint+L)))=false)) ?_ ?_ ⟨rfl,0,1,rfl,ox,ox,ox,q0⟩) ?_)
  .rintro x c a3 _ hx ⟨rfl,lo,L,rfl,h1,h2,h3,h4⟩;dsimp only;by_cases O:L≥n-hint
   .rw [qA2 O]
    show wpS_pure ⟨rfl,lo,L,rfl,h1,h3,h4,λ_=>ox⟩
   .rw [qA4 O]
    refine wpS_bind (aj hc hk a5 (a4 _ ox) ?_);dsimp only;cases q:bey left (rk key) (kk rk arr (base+(hint+L))) with
    |true=>show wpS_pure ⟨rfl,_,_,rfl,ox,ox,ox,q⟩
    |false=>show wpS_pure ⟨rfl,lo,L,rfl,h1,h3,h4,λ_=>q⟩
  .rintro c a3 ⟨rfl,lo,L,rfl,h1,h2,h3,h4⟩;show ⟨rfl,lo,L,rfl,h1,h3,h4,λ_=>ox⟩
  .rintro c a3 ⟨rfl,lo,L,rfl,h1,h3,h4,h5⟩;dsimp only;refine wpS_bind (last _ _ (qB1 (qE6 (qI2 _ _) hint) (qJ1 (qE1 (qI6 hh)))) (qE6 (Nat.le_min.mpr ⟨h1,Nat.lt_sub_iff_add_lt'.mpr h3⟩) hint) (λi hi=>Z5 (hs i (hint+lo) (qJ8 hi) h3) h4) (λi a b=>?_) ?_ ?_ λlo hi hq=>?_)
   .have:hint+L<n:=ox
    show bi (hs (hint+L) i ox b) (h5 this)
   .intro x lo hi R' O hR;dsimp only;rw[qA2 O];show wpS_pure hR
   .intro x lo hi R' O a6 hR;dsimp only;rw[qA4 (qN4 O)];refine wpS_bind (aj hc hk a5 (a4 _ (qB0 (bF (qN4 O)) a6)) ?_);dsimp only;cases q:bey left (rk key) (kk rk arr (base+(lo+(hi-lo)/2))) with
    |true=>rw[q,qA2 rfl]at hR;show wpS_pure hR
    |false=>rw[q,qA4 qA3]at hR;show wpS_pure hR
   .show wpS_pure hq
 | false=>
  rw[qA4 qA3];refine wpS_bind (wpS_mono (wpS_forRange (λx c a3=>a3=st/\∃lo L,c=(none,lo,L)/\lo<L/\x<L/\lo<=hint/\bey left (rk key) (kk rk arr (base+(hint-lo)))=false)
   (Q:=λc a3=>a3=st/\∃lo L,c=(none,lo,L)/\lo<L/\lo<=hint/\bey left (rk key) (kk rk arr (base+(hint-lo)))=false/\(L<=hint->bey left (rk key) (kk rk arr (base+(hint-L)))=true)) ?_ ?_ ⟨rfl,0,1,rfl,ox,ox,ox,q0⟩) ?_)
  .rintro x c a3 _ hx ⟨rfl,lo,L,rfl,h1,h2,h3,h4⟩;dsimp only;by_cases O:L≥hint+1
   .rw [qA2 O]
    show wpS_pure ⟨rfl,lo,L,rfl,h1,h3,h4,λ_=>ox⟩
   .rw [qA4 O]
    refine wpS_bind (aj hc hk a5 (a4 _ ox) ?_);dsimp only;cases q:bey left (rk key) (kk rk arr (base+(hint-L))) with
    |false=>show wpS_pure ⟨rfl,_,_,rfl,ox,ox,ox,q⟩
    |true=>show wpS_pure ⟨rfl,lo,L,rfl,h1,h3,h4,λ_=>q⟩
  .rintro c a3 ⟨rfl,lo,L,rfl,h1,h2,h3,h4⟩;show ⟨rfl,lo,L,rfl,h1,h3,h4,λ_=>ox⟩
  .rintro c a3 ⟨rfl,lo,L,rfl,h1,h3,h4,h5⟩;dsimp only;refine wpS_bind (last _ _ (qI6 (qD9 (qG8 _ _) hh)) (qB1 (qT0 (Nat.le_min.mpr ⟨h1,qG6 h3⟩) (hint+1)) (qJ1 (Nat.add_sub_add_right hint 1 lo))) (λi hi=>?_) (λi a b=>bi (hs (hint-lo) i a b) h4) ?_ ?_ λlo hi hq=>?_)
   .have:L<=hint:=Nat.le_of_not_lt λq=>by rw[Nat.min_eq_right q,Nat.sub_self]at hi;show absurd hi (qE0 _)
    rw[qM5 (Nat.le_succ_of_le this),Nat.succ_sub this]at hi;show Z5 (hs i (hint-L) (qJ8 hi) (qD9 (qG8 _ _) hh)) (h5 this)
   .intro x lo hi R' O hR;dsimp only;rw[qA2 O];show wpS_pure hR
   .intro x lo hi R' O a6 hR;dsimp only;rw[qA4 (qN4 O)];refine wpS_bind (aj hc hk a5 (a4 _ (qB0 (bF (qN4 O)) a6)) ?_);dsimp only;cases q:bey left (rk key) (kk rk arr (base+(lo+(hi-lo)/2))) with
    |true=>rw[q,qA2 rfl]at hR;show wpS_pure hR
    |false=>rw[q,qA4 qA3]at hR;show wpS_pure hR
   .show wpS_pure hq
def upL (rk:Keyed->Int)(l:List Keyed):Prop:=l.Pairwise λx y=>rk x<=rk y
structure Mg (rk:Keyed->Int) (t:List Keyed) (out ra rb:List Keyed):Prop where
 perm:(out++(ra++rb)).Perm t
 up:upL rk out
 le:∀x∈out,∀y∈ra++rb,rk x<=rk y
def Gd (rk:Keyed->Int)(t q:List Keyed):Prop:=q.Perm t/\upL rk q
def Mg.a (h:Mg rk t out (p++ra) rb) (hu:upL rk (p++ra)) (hl:∀x∈p,∀y∈rb,rk x<=rk y):Mg rk t (out++p) ra rb where
 perm:=by
  have:=h.perm
  rw[qG0]at this ⊢;show this
 up:=by
  rw[upL,qF3];show ⟨h.up,(qF3.mp hu).1,λx O y L=>h.le x O y (by simp [L])⟩
 le x O y L:=by
  rcases qC6.mp O with q|q
  .refine h.le x q y ?_;rcases qC6.mp L with r|r <;> simp [r]
  .rcases qC6.mp L with r|r
   .show (qF3.mp hu).2.2 x q y r
   .show hl x q y r
def Mg.swap (h:Mg rk t out ra rb):Mg rk t out rb ra where
 perm:=(qR8 out List.perm_append_comm).trans h.perm
 up:=h.up
 le x hx y hy:=h.le x hx y (by rcases qC6.mp hy with r|r <;> simp [r])
def Mg.fin (h:Mg rk t out ra rb) (ha:upL rk ra) (hb:upL rk rb) (hl:∀x∈ra,∀y∈rb,rk x<=rk y):Gd rk t (out++ra++rb):=by
 rw[qG0];refine ⟨h.perm,?_⟩;rw[upL,qF3];show ⟨h.up,qF3.mpr ⟨ha,hb,hl⟩,h.le⟩
def Mg.finB (h:Mg rk t out ra rb)(ha:upL rk ra)(hb:upL rk rb)(hl:∀x∈rb,∀y∈ra,rk x<=rk y):Gd rk t (out++rb++ra):=h.swap.fin hb ha hl
section
variable {prog:Program}{w:World}{A:Around}{E:Jp}{s:Shared}{a₀:Array Keyed}{κ:SortKind}{rk:Keyed->Int}
def nE [Decidable c]{X T:StateT SortSt Sem α}{Q:α->SortSt->Prop}{st:SortSt}(P:SortSt->Prop) (key:∀L,P L->wpS M A E s T Q L) (O:c->(∀L,P L->wpS M A E s T Q L)->wpS M A E s X Q st) (h2:¬c->P st):wpS M A E s (if c then X else T) Q st:=by
 by_cases q:c
 .rw[qA2 q];show O q key
 .rw[qA4 q];show key _ (h2 q)
def nH [Decidable c][Decidable c1]{O T T':StateT SortSt Sem α}{Q:α->SortSt->Prop}{st:SortSt}(hT:¬c->T'=T) (h1:c->c1->wpS M A E s O Q st) (h3:(c->¬c1)->wpS M A E s T Q st):wpS M A E s (if c then (if c1 then O else T) else T') Q st:=by
 by_cases q:c
 .rw [qA2 q]
  by_cases L:c1
  .rw[qA2 L];show h1 q L
  .rw[qA4 L];show h3 λ_=>L
 .rw[qA4 q,hT q];show h3 λr=>absurd r q
def nG [Decidable c][Decidable c1][Decidable c2]{R1 R2 T T':StateT SortSt Sem α}{Q:α->SortSt->Prop}{st:SortSt}(hT:¬c->T'=T) (h1:c->c1->wpS M A E s R1 Q st) (h2:c->¬c1->c2->wpS M A E s R2 Q st) (h3:(c->¬c1/\¬c2)->wpS M A E s T Q st):wpS M A E s (if c then (if c1 then R1 else if c2 then R2 else T) else T') Q st:=by
 by_cases q:c
 .rw [qA2 q]
  by_cases L:c1
  .rw[qA2 L];show h1 q L
  .rw [qA4 L]
   by_cases O:c2
   .rw[qA2 O];show h2 q L O
   .rw[qA4 O];show h3 λ_=>⟨L,O⟩
 .rw[qA4 q,hT q];show h3 λr=>absurd r q
def Cw (out a:Array Keyed) (i:Nat):out++(a.extract i i).reverse=out:=by
 have:a.extract i i=#[]:=by simp;omega
 rw[this];simp
def Cv (out a:Array Keyed) (i:Nat):out++a.extract i i=out:=by
 have:a.extract i i=#[]:=by simp;omega
 rw[this];simp
def sP:Array Keyed->Array Keyed->StateT SortSt Sem (Array Keyed):=sortPriv% PySem.Builtin.mergeLo
def sQ:Array Keyed->Array Keyed->StateT SortSt Sem (Array Keyed):=sortPriv% PySem.Builtin.mergeHi
def lE {l:List Keyed}(h:l[i]?=some x):l.drop i = [x]++l.drop (i+1):=by
 obtain ⟨hi,e⟩:=qA8.mp h;rw[qJ9 hi,e];rfl
def X6 (l:List Keyed)(i k:Nat):l.drop i=(l.drop i).take k++l.drop (i+k):=by rw[<- qZ3,qR9]
def C5 (h:upL rk l)(i:Nat):upL rk (l.drop i):=List.Pairwise.sublist (List.drop_sublist i l) h
def gQ (hu:upL rk l) (h:l[i]?=some x):∀y∈l.drop i,rk x<=rk y:=λy L=>by
 have:=C5 hu i
 rw[lE h]at this L;rcases qC6.mp L with q|q
 .rw[qC3.mp q];show qH8 _
 .show (qF3.mp this).2.2 x (qC3.mpr rfl) y q
def S6 {l:List Keyed}(h:x∈(l.drop i).take k):∃j,j<k/\l[i+j]?=some x:=by
 obtain ⟨j,q⟩:=qQ0.mp h;by_cases c:j<k
 .rw [qH1 c,qI4]at q
  show ⟨j,c,q⟩
 .rw[qQ4 ox]at q;cases q
def Mg.pa (m:Mg rk t out (l.drop i) rb) (hu:upL rk l) (h:l[i]?=some x) (hl:∀y∈rb,rk x<=rk y):Mg rk t (out ++ [x]) (l.drop (i+1)) rb:=by
 have u:=C5 hu i;rw[lE h]at m u;show m.a u λz hz y q=>by rw[qC3.mp hz];show hl y q
def Mg.pb (m:Mg rk t out ra (l.drop i))(hu:upL rk l)(h:l[i]?=some x)(hl:∀y∈ra,rk x<=rk y):Mg rk t (out ++ [x]) ra (l.drop (i+1)):=(m.swap.pa hu h hl).swap
def Mg.ka (m:Mg rk t out (l.drop i) rb) (hu:upL rk l) (hl:∀x∈(l.drop i).take k,∀y∈rb,rk x<=rk y):Mg rk t (out++(l.drop i).take k) (l.drop (i+k)) rb:=by
 have u:=C5 hu i;have q:Mg rk t out ((l.drop i).take k++l.drop (i+k)) rb:=by rw[<- X6];show m
 show q.a (by rw[<- X6];show u) hl
def Mg.kb (m:Mg rk t out ra (l.drop i))(hu:upL rk l)(hl:∀x∈(l.drop i).take k,∀y∈ra,rk x<=rk y):Mg rk t (out++(l.drop i).take k) ra (l.drop (i+k)):=(m.swap.ka hu hl).swap
def X4 (a:Array Keyed) (i k:Nat):(a.extract i (i+k)).toList=(a.toList.drop i).take k:=by
 rw[qS7,qI5];congr 1;omega
def X3 (a:Array Keyed) (i:Nat):(a.extract i a.size).toList=a.toList.drop i:=by
 rw[qS7,qI5,qL6 QX]
def V0 {a:Array Keyed}(h:i<a.size):∃x,x∈a.toList/\a[i]?=some x/\a.toList[i]?=some x:=⟨a[i],QX,QX,by simp [h]⟩
def t6 (h:a.toList[i]?=some x):kk rk a i=rk x:=V7 (by rw[<- qG9];show h)
def br (hu:upL rk a.toList) (h:i<=j) (q:j<a.size):kk rk a i<=kk rk a j:=by
 obtain ⟨x,hx,ex,L⟩:=V0 (a:=a) (i:=i) ox;obtain ⟨y,hy,O,ly⟩:=V0 (a:=a) (i:=j) q;rw[V7 ex,V7 O];refine gQ hu L y (qQ0.mpr ⟨j-i,?_⟩);rw[qI4,show i+(j-i)=j by omega];show ly
def U2 (hu:upL rk a.toList) (L:x∈a.toList.drop i):kk rk a i<=rk x:=by
 obtain ⟨j,q⟩:=qQ0.mp L;rw[qI4]at q;have hl:=(qA8.mp q).1;rw[<- t6 (rk:=rk) q];show br hu ox (by simp at hl;omega)
structure Js (rk:Keyed->Int) (a b:Array Keyed) (out:Array Keyed) (ia ib:Nat):Prop where
 mg:Mg rk (a.toList++b.toList) out.toList (a.toList.drop ia) (b.toList.drop ib)
 ha:ia+1<a.size
 hb:ib<b.size
abbrev gS (st:SortSt)(g:Nat):SortSt:=SortSt.mk' (kindOf st) (arrOf st) (pendingOf st) g (failedOf st)
def gG {a b:Array Keyed}(m:Mg rk (a.toList++b.toList) out.toList (a.toList.drop ia) (b.toList.drop ib)) (L:upL rk a.toList) (h:ib=b.size):Gd rk (a.toList++b.toList) (out++a.extract ia a.size++b.extract ib b.size).toList:=by
 rw[qF8,qF8,X3,X3];have e:b.toList.drop ib = []:=qF7 (by simp;omega);rw[e]at m ⊢;show m.fin (C5 L _) .nil λx O y q=>nomatch q
def EH {a b:Array Keyed}(m:Mg rk (a.toList++b.toList) out.toList (a.toList.drop ia) (b.toList.drop ib)) (L:upL rk b.toList) (h:ia=a.size):Gd rk (a.toList++b.toList) (out++a.extract ia a.size++b.extract ib b.size).toList:=by
 rw[qF8,qF8,X3,X3];have e:a.toList.drop ia = []:=qF7 (by simp;omega);rw[e]at m ⊢;show m.fin .nil (C5 L _) λx q y O=>nomatch q
def gF {b:Array Keyed}(m:Mg rk (a.toList++b.toList) out.toList (a.toList.drop ia) (b.toList.drop ib)) (q:upL rk a.toList) (ub:upL rk b.toList) (hl:∀x∈b.toList,rk x<=kk rk a (a.size-1)) (h:ia+1=a.size):Gd rk (a.toList++b.toList) (out++b.extract ib b.size++a.extract ia a.size).toList:=by
 rw[qF8,qF8,X3,X3];refine m.finB (C5 q _) (C5 ub _) λx L y O=>?_;have h1:=hl x (qI7 L);have h2:=U2 q O;rw[show a.size-1=ia by omega]at h1;omega
@[elab_as_elim] theorem nh {A1 A2 A3 A4 A5 C S:Type}{f:A1->A2->A3->A4->A5->C}{k:A1->A2->A3->A4->A5->S}{J:A1->A2->A3->A4->A5->Prop}{G:C->S->Prop}{c:C}{t:S}(h:∃O x2 x3 q L,c=f O x2 x3 q L/\t=k O x2 x3 q L/\J O x2 x3 q L) (g:∀O x2 x3 q L,J O x2 x3 q L->G (f O x2 x3 q L) (k O x2 x3 q L)):G c t:=by
 obtain ⟨_,_,_,_,_,rfl,rfl,j⟩:=h;show g _ _ _ _ _ j
@[elab_as_elim] theorem CL {A1 A2 A3 A4 A5 A6 A7 C S:Type}{f:A1->A2->A3->A4->A5->A6->A7->C}{k:A1->A2->A3->A4->A5->A6->A7->S}{J:A1->A2->A3->A4->A5->A6->A7->Prop}{G:C->S->Prop}{c:C}{t:S}(h:∃x1 x2 x3 q x5 O L,c=f x1 x2 x3 q x5 O L/\t=k x1 x2 x3 q x5 O L/\J x1 x2 x3 q x5 O L) (g:∀x1 x2 x3 q x5 O L,J x1 x2 x3 q x5 O L->G (f x1 x2 x3 q x5 O L) (k x1 x2 x3 q x5 O L)):G c t:=by
 obtain ⟨_,_,_,_,_,_,_,rfl,rfl,j⟩:=h;show g _ _ _ _ _ _ _ j
@[elab_as_elim] theorem CI {A1 A2 A3 A4 A5 R D S:Type}{f:A1->A2->A3->A4->A5->Option R×D}{J:A1->A2->A3->A4->A5->Prop}{L:R->Prop}{G:Option R×D->S->Prop}{c:Option R×D}{t t0:S}(h:t=t0/\((∃r,c.1=some r/\L r)\/∃x1 x2 x3 q O,c=f x1 x2 x3 q O/\J x1 x2 x3 q O)) (g1:∀r d,L r->G (some r,d) t0) (g2:∀x1 x2 x3 q O,J x1 x2 x3 q O->G (f x1 x2 x3 q O) t0):G c t:=by
 obtain ⟨c1,c2⟩:=c;obtain ⟨rfl,⟨r,e,l⟩|⟨_,_,_,_,_,e,j⟩⟩:=h
 .cases e;show g1 _ _ l
 .rw[e];show g2 _ _ _ _ _ j
@[elab_as_elim] theorem CJ {A1 A2 A3 A4 A5 A6 R D S N:Type}{k:N->S}{f:A1->A2->A3->A4->A5->A6->Option R×D}{J:A1->A2->A3->A4->A5->A6->Prop}{L:R->Prop}{G:Option R×D->S->Prop}{c:Option R×D}{t:S}(h:∃g,t=k g/\((∃r,c.1=some r/\L r)\/∃x1 x2 x3 q x5 O,c=f x1 x2 x3 q x5 O/\J x1 x2 x3 q x5 O)) (g1:∀g r d,L r->G (some r,d) (k g)) (g2:∀g x1 x2 x3 q x5 O,J x1 x2 x3 q x5 O->G (f x1 x2 x3 q x5 O) (k g)):G c t:=by
 obtain ⟨c1,c2⟩:=c;obtain ⟨g,rfl,⟨r,e,l⟩|⟨_,_,_,_,_,_,e,j⟩⟩:=h
 .cases e;show g1 _ _ _ l
 .rw[e];show g2 _ _ _ _ _ _ _ j
def N6 {G:Prop}{a:Array Keyed}(h:i<a.size)(g:∀x,x∈a.toList->a[i]?=some x->a.toList[i]?=some x->G):G:=let ⟨x,h1,h2,h3⟩:=V0 h;g x h1 h2 h3
def nF {q:Type}[Decidable c]{jp:Unit->q->StateT SortSt Sem α}{x y:q}{Q:α->SortSt->Prop}{st:SortSt}(h:∀z,wpS M A E s (jp () z) Q st):wpS M A E s (if c then jp () x else jp () y) Q st:=by
 split
 .show h _
 .show h _
def F1 {m:Nat}{X Y:StateT SortSt Sem α}{Q:α->SortSt->Prop}{st:SortSt}(q:m=n->wpS M A E s X Q st) (L:¬ m=n->wpS M A E s Y Q st):wpS M A E s (if (m == n)=true then X else Y) Q st:=by
 by_cases c:m=n
 .rw[qA2 (by simpa using c)];show q c
 .rw[qA4 (by simpa using c)];show L c
def P9 [Decidable c]{X Y:StateT SortSt Sem α}{Q:α->SortSt->Prop}{st:SortSt}(L:c->wpS M A E s X Q st) (O:¬ c->wpS M A E s Y Q st):wpS M A E s (if decide c=true then X else Y) Q st:=by
 by_cases q:c
 .rw[qA2 (by simpa using q)];show L q
 .rw[qA4 (by simpa using q)];show O q
@[elab_as_elim] theorem cpsA {q C S:Type}{f:q->C}{J:q->Prop}{G:C->S->Prop}{c:C}{t L:S}(h:t=L/\∃x,c=f x/\J x) (g:∀x,J x->G (f x) L):G c t:=by
 obtain ⟨rfl,_,rfl,j⟩:=h;show g _ j
@[elab_as_elim] theorem ES {q L C S:Type}{f:q->L->C}{J:q->L->Prop}{G:C->S->Prop}{c:C}{t O:S}(h:t=O/\∃x y,c=f x y/\J x y) (g:∀x y,J x y->G (f x y) O):G c t:=by
 obtain ⟨rfl,_,_,rfl,j⟩:=h;show g _ _ j
@[elab_as_elim] theorem CK {q S:Type}{k:q->S}{J:q->Prop}{G:S->Prop}{t:S}(h:∃x,t=k x/\J x) (g:∀x,J x->G (k x)):G t:=by
 obtain ⟨_,rfl,j⟩:=h;show g _ j
@[elab_as_elim] theorem cpsC {q L C S:Type}{k:q->L->S}{f:q->L->C}{J:q->L->Prop}{G:C->S->Prop}{c:C}{t:S}(h:∃x y,t=k x y/\c=f x y/\J x y) (g:∀x y,J x y->G (f x y) (k x y)):G c t:=by
 obtain ⟨_,_,rfl,rfl,j⟩:=h;show g _ _ j
@[elab_as_elim] theorem cpsD {q O L C S:Type}{k:q->O->L->S}{f:q->O->L->C}{J:q->O->L->Prop}{G:C->S->Prop}{c:C}{t:S}(h:∃x y z,t=k x y z/\c=f x y z/\J x y z) (g:∀x y z,J x y z->G (f x y z) (k x y z)):G c t:=by
 obtain ⟨_,_,_,rfl,rfl,j⟩:=h;show g _ _ _ j
@[elab_as_elim] theorem ER {q C S:Type}{k:q->S}{L:C}{J:q->Prop}{G:C->S->Prop}{c:C}{t:S}(h:∃x,t=k x/\c=L/\J x) (g:∀x,J x->G L (k x)):G c t:=by
 obtain ⟨_,rfl,rfl,j⟩:=h;show g _ j
def lQ {st:SortSt}(hc:Cmp prog w A s κ rk a₀) (hk:kindOf st=κ) (ha:∀x∈a.toList,x∈a₀) (hb:∀x∈b.toList,x∈a₀) (ua:upL rk a.toList) (ub:upL rk b.toList) (cj:0<a.size) (cc:0<b.size) (hf:∀x∈a.toList,kk rk b 0<=rk x) (hl:∀x∈b.toList,rk x<=kk rk a (a.size-1)) (h:∀O g,Gd rk (a.toList++b.toList) O.toList->Q O (gS st g)):wpS (model prog w) A E s (sP a b) Q st:=by
 refine wpS_bind (wpS_lift (qP5 ⟨rfl,?_⟩));refine N6 cc λy0 ck b5 a7=>?_;refine wpS_bind (l6 b5 ?_);dsimp (zeta:=false) only;have m0:Mg rk (a.toList++b.toList) #[y0].toList (a.toList.drop 0) (b.toList.drop 1):=by
  have:Mg rk (a.toList++b.toList) [] (a.toList.drop 0) (b.toList.drop 0):=⟨QX,.nil,λx hx=>nomatch hx⟩
  show this.pb ub a7 λy hy=>by rw[<- t6 (rk:=rk) a7];show hf y (qI7 hy)
 refine F1 (λc1=>wpS_pure (h _ (gallopOf st) (gG m0 ua c1))) λc1=>?_;by_cases c2:0+1=a.size
 .rw [qA2 (by simpa using c2)]
  show wpS_pure (h _ (gallopOf st) (gF m0 ua ub hl c2))
 rw[qA4 (by simpa using c2)];refine wpS_bind (wpS_get ?_);have j0:Js rk a b #[y0] 0 1:=⟨m0,ox,ox⟩;refine wpS_bind (wpS_mono (wpS_forRange (λx c L=>∃out ia ib g g',c=(none,out,ia,ib,g)/\L=gS st g'/\Js rk a b out ia ib/\x+1<=ia+ib)
  (Q:=λc L=>∃O g,c.1=some O/\L=gS st g/\Gd rk (a.toList++b.toList) O.toList) ?step ?fin ⟨_,_,_,_,gallopOf st,rfl,rfl,j0,ox⟩) ?post)
 case fin=>
  rintro c L ⟨out,ia,ib,g,g',rfl,rfl,j,hm⟩
  have:=j.ha
  have:=j.hb
  omega
 case post=>
  rintro ⟨c1,c2⟩ L ⟨O,g,e,rfl,hg⟩;cases e;show wpS_pure (h O g hg)
 case step=>
  intro x c L _ _ hI;refine nh (c:=c) (t:=L) hI λout ia ib g g' jm=>?_;have j:=jm.1;have hm:=jm.2;clear hI jm c L;clear c1 c2 j0 m0;dsimp (zeta:=false) only;refine wpS_bind (wpS_mono (wpS_forRange (λy c L=>∃out ia ib ac bc,c=(none,out,ia,ib,ac,bc)/\L=gS st g'/\Js rk a b out ia ib/\x+min y 1+1<=ia+ib)
   (Q:=λc L=>L=gS st g'/\((∃O,c.1=some O/\Gd rk (a.toList++b.toList) O.toList)\/∃out ia ib ac bc,c=(none,out,ia,ib,ac,bc)/\Js rk a b out ia ib/\x+2<=ia+ib)) ?istep ?ifin ⟨out,ia,ib,0,0,rfl,rfl,j,ox⟩) ?ipost)
  case ifin=>
   rintro c L ⟨out,ia,ib,ac,bc,rfl,rfl,j,hm⟩
   have:=j.ha
   show ⟨rfl,.inr ⟨_,_,_,_,_,rfl,j,ox⟩⟩
  case istep=>
   clear j hm;intro y c L _ _ hI;refine nh (c:=c) (t:=L) hI λout ia ib ac bc jm=>?_;have j:=jm.1;have hm:=jm.2;clear hI jm c L;dsimp only;have a8:=j.ha;have a5:=j.hb;refine N6 (a:=b) (i:=ib) j.hb λu hu eu lu=>?_;refine N6 (a:=a) (i:=ia) ox λv hv ev lv=>?_;refine wpS_bind (l6 eu (wpS_bind (l6 ev (wpS_bind (cU hc (hb u hu) (ha v hv) hk ?_)))));dsimp only;refine P9 (λq=>?_) λq=>?_
   .skip
    refine wpS_bind (l6 eu ?_);have m:=j.mg.pb ub lu λz hz=>by
     have:=U2 ua hz
     rw[t6 (rk:=rk) lv]at this;omega
    rw[<- qH5]at m;refine F1 (λc=>wpS_pure ⟨rfl,.inl ⟨_,rfl,gG m ua c⟩⟩) λc=>?_
    .skip
     have j2:Js rk a b (out.push u) ia (ib+1):=⟨m,a8,ox⟩;have a6:x+2<=ia+ib+1:=qG6 (qB1 (qG6 (qD8 x _)) hm)
     split
     .show wpS_pure ⟨rfl,.inr ⟨_,_,_,_,_,rfl,j2,a6⟩⟩
     .show wpS_pure ⟨_,_,_,_,_,rfl,rfl,j2,ms3 hm⟩
   .skip
    refine wpS_bind (l6 ev ?_);have m:=j.mg.pa ua lv λz hz=>by
     have:=U2 ub hz
     rw[t6 (rk:=rk) lu]at this;omega
    rw[<- qH5]at m;refine F1 (λc=>wpS_pure ⟨rfl,.inl ⟨_,rfl,gF m ua ub hl c⟩⟩) λc=>?_
    .skip
     have j2:Js rk a b (out.push v) (ia+1) ib:=⟨m,ox,a5⟩;have a6:x+2<=ia+ib+1:=qG6 (qB1 (qG6 (qD8 x _)) hm)
     split
     .show wpS_pure ⟨rfl,.inr ⟨_,_,_,_,_,rfl,j2,qM8 ia ib 1 ▸ a6⟩⟩
     .show wpS_pure ⟨_,_,_,_,_,rfl,rfl,j2,qM8 ia ib 1 ▸ ms3 hm⟩
  case ipost=>
   clear j hm;intro c L hI;refine CI (c:=c) (t:=L) hI (λO _ hg=>wpS_pure ⟨O,g',rfl,rfl,hg⟩) λout ia ib ac bc jm=>?_;have j:=jm.1;have hm:=jm.2;clear hI jm c L;dsimp (zeta:=false) only;refine wpS_bind (wpS_lift (qP5 ⟨rfl,?_⟩));refine wpS_bind (wpS_mono (wpS_forRange (λy c L=>∃out ia ib mg ac bc g,c=(none,out,ia,ib,mg,ac,bc)/\L=gS st g/\Js rk a b out ia ib/\x+2<=ia+ib)
    (Q:=λc L=>∃g,L=gS st g/\((∃O,c.1=some O/\Gd rk (a.toList++b.toList) O.toList)\/∃out ia ib mg ac bc,c=(none,out,ia,ib,mg,ac,bc)/\Js rk a b out ia ib/\x+2<=ia+ib)) ?gstep ?gfin ⟨out,ia,ib,_,ac,bc,g',rfl,rfl,j,hm⟩) ?gpost)
   case gfin=>
    rintro c L ⟨out,ia,ib,mg,ac,bc,g,rfl,rfl,j,hm⟩;show ⟨g,rfl,.inr ⟨_,_,_,_,_,_,rfl,j,hm⟩⟩
   case gpost=>
    clear j hm;intro c L hI;refine CJ (c:=c) (t:=L) hI (λg O _ hg=>wpS_pure ⟨O,g,rfl,rfl,hg⟩) λg out ia ib mg ac bc jm=>?_;have j:=jm.1;have hm:=jm.2;clear hI jm c L
    try dsimp (zeta:=false) only
    show wpS_bind (wpS_modify (wpS_pure ⟨_,_,_,_,_,rfl,rfl,j,ox⟩))
   case gstep=>
    clear j hm;intro y c L _ _ hI;refine CL (c:=c) (t:=L) hI λout ia ib mg ac bc g jm=>?_;have j:=jm.1;have hm:=jm.2;clear hI jm c L
    try dsimp (zeta:=false) only
    have a8:=j.ha;have a5:=j.hb;refine N6 (a:=b) (i:=ib) j.hb λu hu eu lu=>?_
    extract_lets s0 o0 s1 i0 s2 i1 s3 m0 s4 a0 b0 ib1 jp mg1
    refine nF (jp:=jp) λcg=>?_;dsimp (zeta:=false) only [jp];clear jp;subst s0 o0 s1 i0 s2 i1 s3 m0 s4 a0 b0 ib1 mg1
    try dsimp (zeta:=false) only
    refine wpS_bind (wpS_modify ?_);refine wpS_bind (l6 eu (wpS_bind (L4 hc hk (hb u hu) (λi hi=>?ga) (λi j b3 hj=>br ua ox ox) ox λk k1 k2 k3=>?_)))
    case ga=>
     refine N6 (a:=a) (i:=ia+i) ox λv hv ev lv=>?_;show ⟨v,ha v hv,ev⟩
    try dsimp (zeta:=false) only
    extract_lets acnt jp2 a3 a4
    subst acnt a3 a4;have b4:ia<=ia+k/\ia+k<=a.size:=ox;have m1:Mg rk (a.toList++b.toList) (out++a.extract ia (ia+k)).toList (a.toList.drop (ia+k)) (b.toList.drop ib):=by
     rw[qF8,X4];refine j.mg.ka ua λz hz y hy=>?_;obtain ⟨i,hi,li⟩:=S6 hz;have h1:=k2 i hi;rw[t6 (rk:=rk) li]at h1;have h2:=U2 ub hy;rw[t6 (rk:=rk) lu]at h2;simp [bey]at h1;omega
    have b1:∀z∈a.toList.drop (ia+k),rk u<=rk z:=λz hz=>by
     by_cases c:ia+k<a.size
     .have h1:=k3 k (qB5 _) ox;have h2:=U2 ua hz;simp [bey]at h1;omega
     .rw[qF7 (by simp;omega)]at hz;cases hz
    refine nG (λq=>?e1) (λ_ c=>wpS_pure ⟨_,rfl,.inl ⟨_,rfl,gF m1 ua ub hl (by simpa using c)⟩⟩) (λ_ _ c=>wpS_pure ⟨_,rfl,.inl ⟨_,rfl,EH m1 ub (by simpa using c)⟩⟩) λq0=>?_
    case e1=>
     have k0:k=0:=ox;rw[k0,qK6,Cv]
    have q1:ia+k+1<a.size:=by
     by_cases kz:k>0
     .have:=q0 kz
      simp at this;omega
     .omega
    generalize out++a.extract ia (ia+k)=a3 at m1 ⊢
    generalize ia+k=a4 at m1 b1 b4 q1 ⊢
    dsimp (zeta:=false) only [jp2];clear jp2;refine wpS_bind (l6 eu ?_)
    extract_lets out3
    have m2:=m1.pb ub lu b1;rw[<- qH5]at m2;refine F1 (λc3=>wpS_pure ⟨_,rfl,.inl ⟨_,rfl,gG m2 ua c3⟩⟩) λc3=>?_;refine N6 (a:=a) (i:=a4) ox λv hv ev lv=>?_;refine wpS_bind (l6 ev (wpS_bind (L4 hc hk (ha v hv) (λi hi=>?gb) (λi j b3 hj=>br ub ox ox) ox λl l1 l2 l3=>?_)))
    case gb=>
     refine N6 (a:=b) (i:=ib+1+i) (qJ5 hi) λv hv ev lv=>?_;show ⟨v,hb v hv,ev⟩
    try dsimp (zeta:=false) only
    extract_lets bcnt jp3 out4 ib4
    subst out3 bcnt out4 ib4;have c0:ib+1<=ib+1+l/\ib+1+l<=b.size:=⟨qD8 _ _,qB1 (qE6 l1 _) (qJ1 (qE1 a5))⟩;have m3:Mg rk (a.toList++b.toList) (a3.push u++b.extract (ib+1) (ib+1+l)).toList (a.toList.drop a4) (b.toList.drop (ib+1+l)):=by
     rw[qF8,X4];refine m2.kb ub λz hz y hy=>?_;obtain ⟨i,hi,li⟩:=S6 hz;have h1:=l2 i hi;rw[t6 (rk:=rk) li]at h1;have h2:=U2 ua hy;rw[t6 (rk:=rk) lv]at h2;simp [bey]at h1;omega
    have b2:∀z∈b.toList.drop (ib+1+l),rk v<=rk z:=λz hz=>by
     by_cases c:ib+1+l<b.size
     .have h1:=l3 l (qB5 _) (Nat.lt_sub_iff_add_lt'.mpr c);have h2:=U2 ub hz;simp [bey]at h1;omega
     .rw[qF7 (by simp;omega)]at hz;cases hz
    refine nH (λq=>?e2) (λ_ c=>wpS_pure ⟨_,rfl,.inl ⟨_,rfl,gG m3 ua (by simpa using c)⟩⟩) λq0=>?_
    case e2=>
     have k0:l=0:=ox;rw[k0,qK6,Cv]
    have q2:ib+1+l<b.size:=by
     by_cases kz:l>0
     .have:=q0 kz
      simp at this;omega
     .omega
    generalize a3.push u++b.extract (ib+1) (ib+1+l)=ab at m3 ⊢
    generalize ib+1+l=c5 at m3 b2 c0 q2 ⊢
    dsimp (zeta:=false) only [jp3];clear jp3;refine wpS_bind (l6 ev ?_);dsimp only;have m4:=m3.pa ua lv b2;rw[<- qH5]at m4;refine F1 (λc4=>wpS_pure ⟨_,rfl,.inl ⟨_,rfl,gF m4 ua ub hl c4⟩⟩) λc4=>?_;have j4:Js rk a b (ab.push v) (a4+1) c5:=⟨m4,ox,q2⟩
    split
    .show wpS_pure ⟨_,rfl,.inr ⟨_,_,_,_,_,_,rfl,j4,ox⟩⟩
    .show wpS_pure ⟨_,_,_,_,_,_,_,rfl,rfl,j4,ox⟩
end
section
variable {prog:Program}{w:World}{A:Around}{E:Jp}{s:Shared}{a₀:Array Keyed}{κ:SortKind}{rk:Keyed->Int}
abbrev rn (rk:Keyed->Int)(x:Keyed):Int:=-rk x
abbrev rv (a:Array Keyed):List Keyed:=a.toList.reverse
def bq (h:upL rk l):upL (rn rk) l.reverse:=by
 unfold upL at h ⊢;rw[List.pairwise_reverse];show h.imp λq=>by change -_ <= -_;omega
def uJ (h0:0<k) (hk:k<=a.size) (h:a.toList[k-1]?=some x):(rv a)[a.size-k]?=some x:=by
 cases k with
 |zero=>show absurd h0 (qF2 _)
 | succ m=>
  have e:a.toList.length-1-(a.size-(m+1))=m:=by rw[qC7,show a.size-(m+1)=a.size-1-m by rw[Nat.sub_sub,qV4],Nat.sub_sub_self (show m<=a.size-1 from qJ7 hk)]
  rw[qR7 (by rw[qC7];show qI0 (qB0 h0 hk) h0),e,<- h];rfl
def S5:(rv a).drop (a.size-k)=(a.toList.take k).reverse:=by
 rw[List.reverse_take];simp
def Y5 (hu:upL rk a.toList) (h0:k<=a.size) (q:x∈(rv a).drop (a.size-k)):rk x<=kk rk a (k-1):=by
 rw[S5,qV5]at q;obtain ⟨j,O,L⟩:=S6 (i:=0) (k:=k) (l:=a.toList) (by simpa using q);rw[qJ2]at L;rw[<- t6 (rk:=rk) L];show br hu ox ox
def cZ (h:i<=k) (hk:k<=a.size):(a.extract i k).reverse.toList=((rv a).drop (a.size-k)).take (k-i):=by
 rw[S5,Array.toList_reverse,qS7,qI5,List.take_reverse,qH0];congr 1;rw[List.drop_take];simp
 have:min k a.size-(k-i)=i:=ox
 rw[this]
def Gd.rv (h:Gd (rn rk) (rv a++rv b) res.reverse):Gd rk (a.toList++b.toList) res:=by
 refine ⟨?_,?_⟩
 .refine (qU8 res).symm.trans (h.1.trans ?_);show List.Perm.append (qU8 _) (qU8 _)
 .have:=h.2
  unfold upL at this ⊢;rw[List.pairwise_reverse]at this;show this.imp λq=>by
   have q:-_ <= -_:=q;omega
def jl {out:Array Keyed}{nb:Nat}(h:Gd (rn rk) (rv a++rv b) (out.toList++(rv b).drop (b.size-nb)++(rv a).drop (a.size-na))):Gd rk (a.toList++b.toList) (a.extract 0 na++b.extract 0 nb++out.reverse).toList:=by
 refine Gd.rv ?_;rw[S5,S5]at h;have e:(a.extract 0 na++b.extract 0 nb++out.reverse).toList.reverse=out.toList++(b.toList.take nb).reverse++(a.toList.take na).reverse:=by
  simp [qI5]
 rw[e];show h
def dH {out:Array Keyed}{nb:Nat}(m:Mg (rn rk) (rv a++rv b) out.toList ((rv a).drop (a.size-na)) ((rv b).drop (b.size-nb))) (L:upL rk b.toList) (h:na=0):Gd rk (a.toList++b.toList) (a.extract 0 na++b.extract 0 nb++out.reverse).toList:=by
 refine jl ?_;have e:(rv a).drop (a.size-na) = []:=qF7 (by simp;omega);rw[e]at m ⊢;show m.finB .nil (C5 (bq L) _) λx O y q=>nomatch q
def BR {out:Array Keyed}{nb:Nat}(m:Mg (rn rk) (rv a++rv b) out.toList ((rv a).drop (a.size-na)) ((rv b).drop (b.size-nb))) (L:upL rk a.toList) (h:nb=0):Gd rk (a.toList++b.toList) (a.extract 0 na++b.extract 0 nb++out.reverse).toList:=by
 refine jl ?_;have e:(rv b).drop (b.size-nb) = []:=qF7 (by simp;omega);rw[e]at m ⊢;show m.finB (C5 (bq L) _) .nil λx q y O=>nomatch q
def dG {out:Array Keyed}{nb:Nat}(m:Mg (rn rk) (rv a++rv b) out.toList ((rv a).drop (a.size-na)) ((rv b).drop (b.size-nb))) (ua:upL rk a.toList) (L:upL rk b.toList) (hf:∀x∈a.toList,kk rk b 0<=rk x) (hn:nb<=b.size) (h:nb=1):Gd rk (a.toList++b.toList) (b.extract 0 nb++a.extract 0 na++out.reverse).toList:=by
 refine Gd.rv ?_;have e:(b.extract 0 nb++a.extract 0 na++out.reverse).toList.reverse=out.toList++(rv a).drop (a.size-na)++(rv b).drop (b.size-nb):=by
  rw[S5,S5];simp [qI5]
 rw[e];refine m.fin (C5 (bq ua) _) (C5 (bq L) _) λx O y hy=>?_;have h1:=hf x (qV5.mp (qI7 O));have q:=Y5 L hn hy;rw[h]at q
 change -_ <= -_;have q:rk y<=kk rk b 0:=q;omega
structure Jh (rk:Keyed->Int) (a b:Array Keyed) (out:Array Keyed) (na nb:Nat):Prop where
 mg:Mg (rn rk) (rv a++rv b) out.toList ((rv a).drop (a.size-na)) ((rv b).drop (b.size-nb))
 ha:0<na
 hb:1<nb
 la:na<=a.size
 lb:nb<=b.size
def lR {st:SortSt}(hc:Cmp prog w A s κ rk a₀) (hk:kindOf st=κ) (ha:∀x∈a.toList,x∈a₀) (hb:∀x∈b.toList,x∈a₀) (ua:upL rk a.toList) (ub:upL rk b.toList) (c5:0<a.size) (cn:0<b.size) (hf:∀x∈a.toList,kk rk b 0<=rk x) (hl:∀x∈b.toList,rk x<=kk rk a (a.size-1)) (h:∀O g,Gd rk (a.toList++b.toList) O.toList->Q O (gS st g)):wpS (model prog w) A E s (sQ a b) Q st:=by
 have uA:=bq ua;have uB:=bq ub;refine wpS_bind (wpS_lift (qP5 ⟨rfl,?_⟩));refine N6 (a:=a) (i:=a.size-1) ox λy0 cm cj b5=>?_;refine wpS_bind (l6 cj ?_);dsimp (zeta:=false) only;have a5:∀{out:Array Keyed}{na nb:Nat}{x:Keyed},Mg (rn rk) (rv a++rv b) out.toList ((rv a).drop (a.size-na)) ((rv b).drop (b.size-nb))->0<na->na<=a.size->nb<=b.size->a.toList[na-1]?=some x->(∀y∈(rv b).drop (b.size-nb),rk y<=rk x) ->
   Mg (rn rk) (rv a++rv b) (out.push x).toList ((rv a).drop (a.size-(na-1))) ((rv b).drop (b.size-nb)):=λ{out na nb x} m h1 h2 h3 lx hle=>by
  have:=m.pa uA (uJ h1 h2 lx) λy hy=>by change -_ <= -_;have:=hle y hy;omega
  rw[qH5,sb1 h1 h2];show this
 have a6:∀{out:Array Keyed}{na nb:Nat}{x:Keyed},Mg (rn rk) (rv a++rv b) out.toList ((rv a).drop (a.size-na)) ((rv b).drop (b.size-nb))->0<nb->nb<=b.size->b.toList[nb-1]?=some x->(∀y∈(rv a).drop (a.size-na),rk y<=rk x) ->
   Mg (rn rk) (rv a++rv b) (out.push x).toList ((rv a).drop (a.size-na)) ((rv b).drop (b.size-(nb-1))):=λ{out na nb x} m h1 h2 lx hle=>by
  have:=m.pb uB (uJ h1 h2 lx) λy hy=>by change -_ <= -_;have:=hle y hy;omega
  rw[qH5,sb1 h1 h2];show this
 have m0:Mg (rn rk) (rv a++rv b) #[y0].toList ((rv a).drop (a.size-(a.size-1))) ((rv b).drop (b.size-b.size)):=by
  have m:Mg (rn rk) (rv a++rv b) (#[]:Array Keyed).toList ((rv a).drop (a.size-a.size)) ((rv b).drop (b.size-b.size)):=⟨QX,.nil,λx hx=>nomatch hx⟩;show a5 m c5 (qB5 _) (qB5 _) b5 λy hy=>by
   rw[<- t6 (rk:=rk) b5];show hl y (qV5.mp (qI7 hy))
 refine F1 (λc1=>wpS_pure (h _ (gallopOf st) (dH m0 ub c1))) λc1=>?_;by_cases c2:b.size=1
 .rw [qA2 (by simpa using c2)]
  show wpS_pure (h _ (gallopOf st) (dG m0 ua ub hf (qB5 _) c2))
 rw[qA4 (by simpa using c2)];refine wpS_bind (wpS_get ?_);have j0:Jh rk a b #[y0] (a.size-1) b.size:=⟨m0,ox,ox,ox,ox⟩;refine wpS_bind (wpS_mono (wpS_forRange (λx c L=>∃out na nb g g',c=(none,na,nb,out,g)/\L=gS st g'/\Jh rk a b out na nb/\na+nb+x<=a.size+b.size)
  (Q:=λc L=>∃O g,c.1=some O/\L=gS st g/\Gd rk (a.toList++b.toList) O.toList) ?step ?fin ⟨_,_,_,_,gallopOf st,rfl,rfl,j0,ox⟩) ?post)
 case fin=>
  rintro c L ⟨out,na,nb,g,g',rfl,rfl,j,hm⟩
  have:=j.ha
  omega
 case post=>
  rintro ⟨c1,c2⟩ L ⟨O,g,e,rfl,hg⟩;cases e;show wpS_pure (h O g hg)
 case step=>
  intro x c L _ _ hI;refine nh (c:=c) (t:=L) hI λout na nb g g' jm=>?_;have j:=jm.1;have hm:=jm.2;clear hI jm c L;clear c1 c2 j0 m0;dsimp (zeta:=false) only;refine wpS_bind (wpS_mono (wpS_forRange (λy c L=>∃out na nb ac bc,c=(none,na,nb,out,ac,bc)/\L=gS st g'/\Jh rk a b out na nb/\na+nb+x+min y 1<=a.size+b.size)
   (Q:=λc L=>L=gS st g'/\((∃O,c.1=some O/\Gd rk (a.toList++b.toList) O.toList)\/∃out na nb ac bc,c=(none,na,nb,out,ac,bc)/\Jh rk a b out na nb/\na+nb+x+1<=a.size+b.size)) ?istep ?ifin ⟨out,na,nb,0,0,rfl,rfl,j,ox⟩) ?ipost)
  case ifin=>
   rintro c L ⟨out,na,nb,ac,bc,rfl,rfl,j,hm⟩
   have:=j.ha
   show ⟨rfl,.inr ⟨_,_,_,_,_,rfl,j,ox⟩⟩
  case istep=>
   clear j hm;intro y c L _ _ hI;refine nh (c:=c) (t:=L) hI λout na nb ac bc jm=>?_;have j:=jm.1;have hm:=jm.2;clear hI jm c L;dsimp only;have ab:=j.ha;have a8:=j.hb;have a4:=j.la;have a3:=j.lb;refine N6 (a:=b) (i:=nb-1) ox λu hu eu lu=>?_;refine N6 (a:=a) (i:=na-1) ox λv hv ev lv=>?_;refine wpS_bind (l6 eu (wpS_bind (l6 ev (wpS_bind (cU hc (hb u hu) (ha v hv) hk ?_)))));dsimp only;refine P9 (λq=>?_) λq=>?_
   .skip
    refine wpS_bind (l6 ev ?_);have m:=a5 j.mg ab a4 a3 lv λz hz=>by
     have:=Y5 ub a3 hz
     rw[t6 (rk:=rk) lu]at this;omega
    refine F1 (λc=>wpS_pure ⟨rfl,.inl ⟨_,rfl,dH m ub c⟩⟩) λc=>?_
    .skip
     have j2:Jh rk a b (out.push v) (na-1) nb:=⟨m,ox,a8,qB1 (qG8 _ _) a4,a3⟩
     split
     .show wpS_pure ⟨rfl,.inr ⟨_,_,_,_,_,rfl,j2,sL hm ab⟩⟩
     .show wpS_pure ⟨_,_,_,_,_,rfl,rfl,j2,ms1 hm ab⟩
   .skip
    refine wpS_bind (l6 eu ?_);have m:=a6 j.mg ox a3 lu λz hz=>by
     have:=Y5 ua a4 hz
     rw[t6 (rk:=rk) lv]at this;omega
    refine F1 (λc=>wpS_pure ⟨rfl,.inl ⟨_,rfl,dG m ua ub hf ox c⟩⟩) λc=>?_
    .skip
     have j2:Jh rk a b (out.push u) na (nb-1):=⟨m,ab,ox,a4,qB1 (qG8 _ _) a3⟩
     split
     .show wpS_pure ⟨rfl,.inr ⟨_,_,_,_,_,rfl,j2,AX hm (qN1 a8)⟩⟩
     .show wpS_pure ⟨_,_,_,_,_,rfl,rfl,j2,ms2 hm (qN1 a8)⟩
  case ipost=>
   clear j hm;intro c L hI;refine CI (c:=c) (t:=L) hI (λO _ hg=>wpS_pure ⟨O,g',rfl,rfl,hg⟩) λout na nb ac bc jm=>?_;have j:=jm.1;have hm:=jm.2;clear hI jm c L;dsimp (zeta:=false) only;refine wpS_bind (wpS_lift (qP5 ⟨rfl,?_⟩));refine wpS_bind (wpS_mono (wpS_forRange (λy c L=>∃out na nb mg ac bc g,c=(none,na,nb,out,mg,ac,bc)/\L=gS st g/\Jh rk a b out na nb/\na+nb+x+1<=a.size+b.size)
    (Q:=λc L=>∃g,L=gS st g/\((∃O,c.1=some O/\Gd rk (a.toList++b.toList) O.toList)\/∃out na nb mg ac bc,c=(none,na,nb,out,mg,ac,bc)/\Jh rk a b out na nb/\na+nb+x+1<=a.size+b.size)) ?gstep ?gfin ⟨out,na,nb,_,ac,bc,g',rfl,rfl,j,hm⟩) ?gpost)
   case gfin=>
    rintro c L ⟨out,na,nb,mg,ac,bc,g,rfl,rfl,j,hm⟩;show ⟨g,rfl,.inr ⟨_,_,_,_,_,_,rfl,j,hm⟩⟩
   case gpost=>
    clear j hm;intro c L hI;refine CJ (c:=c) (t:=L) hI (λg O _ hg=>wpS_pure ⟨O,g,rfl,rfl,hg⟩) λg out na nb mg ac bc jm=>?_;have j:=jm.1;have hm:=jm.2;clear hI jm c L
    try dsimp (zeta:=false) only
    show wpS_bind (wpS_modify (wpS_pure ⟨_,_,_,_,_,rfl,rfl,j,ox⟩))
   case gstep=>
    clear j hm;intro y c L _ _ hI;refine CL (c:=c) (t:=L) hI λout na nb mg ac bc g jm=>?_;have j:=jm.1;have hm:=jm.2;clear hI jm c L
    try dsimp (zeta:=false) only
    have ab:=j.ha;have a8:=j.hb;have a4:=j.la;have a3:=j.lb;refine N6 (a:=b) (i:=nb-1) ox λu hu eu lu=>?_
    extract_lets s0 o0 s1 i0 s2 i1 s3 m0 s4 a0 b0 ib1 jp mg1
    refine nF (jp:=jp) λck=>?_;dsimp (zeta:=false) only [jp];clear jp;subst s0 o0 s1 i0 s2 i1 s3 m0 s4 a0 b0 ib1 mg1
    try dsimp (zeta:=false) only
    refine wpS_bind (wpS_modify ?_);refine wpS_bind (l6 eu (wpS_bind (L4 hc hk (hb u hu) (λi hi=>?ga) (λi j cg hj=>br ua ox ox) ox λk k1 k2 k3=>?_)))
    case ga=>
     refine N6 (a:=a) (i:=0+i) ox λv hv ev lv=>?_;show ⟨v,ha v hv,ev⟩
    try dsimp (zeta:=false) only
    simp only [qJ2]at k2 k3
    extract_lets kc acnt jp2 a7 na1
    subst kc acnt a7 na1;have m1:Mg (rn rk) (rv a++rv b) (out++(a.extract k na).reverse).toList ((rv a).drop (a.size-k)) ((rv b).drop (b.size-nb)):=by
     rw[qF8,cZ k1 a4]
     have:a.size-k=a.size-na+(na-k):=sb2 a4 k1
     rw[this];refine j.mg.ka uA λz hz y hy=>?_;rw[<- cZ k1 a4]at hz;have hz:z∈(a.extract k na).toList:=by simpa using hz
     rw[show na=k+(na-k) from (qE1 k1).symm,X4]at hz;obtain ⟨i,hi,li⟩:=S6 hz;have h1:=k3 (k+i) (qD8 _ _) (qJ5 hi);rw[t6 (rk:=rk) li]at h1;have h2:=Y5 ub a3 hy;rw[t6 (rk:=rk) lu]at h2;simp [bey]at h1
     change -_ <= -_;omega
    have b1:∀z∈(rv a).drop (a.size-k),rk z<=rk u:=λz hz=>by
     by_cases c:0<k
     .have h1:=k2 (k-1) (qI0 c QV);have h2:=Y5 ua (qB1 k1 a4) hz;simp [bey]at h1;omega
     .rw[qF7 (by simp;omega)]at hz;cases hz
    refine nH (λq=>?e1) (λ_ c=>wpS_pure ⟨_,rfl,.inl ⟨_,rfl,dH m1 ub (by simpa using c)⟩⟩) λq0=>?_
    case e1=>
     have k0:k=na:=qW8 k1 (Nat.le_of_sub_eq_zero (Nat.eq_zero_of_not_pos q));rw[k0,Cw]
    have q1:0<k:=by
     by_cases kz:na-k>0
     .have:=q0 kz
      simp at this;omega
     .omega
    generalize out++(a.extract k na).reverse=a7 at m1 ⊢
    dsimp (zeta:=false) only [jp2];clear jp2;refine wpS_bind (l6 eu ?_)
    extract_lets out3
    have m2:=a6 m1 (qN1 a8) a3 lu b1;refine F1 (λc3=>wpS_pure ⟨_,rfl,.inl ⟨_,rfl,dG m2 ua ub hf ox c3⟩⟩) λc3=>?_;refine N6 (a:=a) (i:=k-1) (qD9 (Nat.sub_le_sub_right (qB1 k1 a4) 1) (qI0 c5 QV)) λv hv ev lv=>?_;refine wpS_bind (l6 ev (wpS_bind (L4 hc hk (ha v hv) (λi hi=>?gb) (λi j cg hj=>br ub ox ox) ox λl l1 l2 l3=>?_)))
    case gb=>
     refine N6 (a:=b) (i:=0+i) ox λv hv ev lv=>?_;show ⟨v,hb v hv,ev⟩
    try dsimp (zeta:=false) only
    simp only [qJ2]at l2 l3
    extract_lets lc bcnt jp3 out4 nb4
    subst out3 lc bcnt out4 nb4;have m3:Mg (rn rk) (rv a++rv b) (a7.push u++(b.extract l (nb-1)).reverse).toList ((rv a).drop (a.size-k)) ((rv b).drop (b.size-l)):=by
     rw[qF8,cZ l1 (qB1 (qG8 _ _) a3)]
     have:b.size-l=b.size-(nb-1)+(nb-1-l):=sb2 (qB1 (qG8 _ _) a3) l1
     rw[this];refine m2.kb uB λz hz y hy=>?_;rw[<- cZ l1 (qB1 (qG8 _ _) a3)]at hz;have hz:z∈(b.extract l (nb-1)).toList:=by simpa using hz
     rw[show nb-1=l+(nb-1-l) from (qE1 l1).symm,X4]at hz;obtain ⟨i,hi,li⟩:=S6 hz;have h1:=l3 (l+i) (qD8 _ _) (qJ5 hi);rw[t6 (rk:=rk) li]at h1;have h2:=Y5 ua (qB1 k1 a4) hy;rw[t6 (rk:=rk) lv]at h2;simp [bey]at h1
     change -_ <= -_;omega
    have b2:∀z∈(rv b).drop (b.size-l),rk z<=rk v:=λz hz=>by
     by_cases c:0<l
     .have h1:=l2 (l-1) (qI0 c QV);have h2:=Y5 ub (qB1 l1 (qB1 (qG8 _ _) a3)) hz;simp [bey]at h1;omega
     .rw[qF7 (by simp;omega)]at hz;cases hz
    refine nG (λq=>?e2) (λ_ c=>wpS_pure ⟨_,rfl,.inl ⟨_,rfl,dG m3 ua ub hf ox (by simpa using c)⟩⟩) (λ_ _ c=>wpS_pure ⟨_,rfl,.inl ⟨_,rfl,BR m3 ua (by simpa using c)⟩⟩) λq0=>?_
    case e2=>
     have k0:l=nb-1:=qW8 l1 (Nat.le_of_sub_eq_zero (Nat.eq_zero_of_not_pos q));rw[k0,Cw]
    have q2:1<l:=by
     by_cases kz:nb-1-l>0
     .have:=q0 kz
      simp at this;omega
     .omega
    generalize a7.push u++(b.extract l (nb-1)).reverse=c0 at m3 ⊢
    dsimp only [jp3];clear jp3;refine wpS_bind (l6 ev ?_)
    try dsimp only
    have b3:=qB1 k1 a4;have cc:=qB1 l1 (qB1 (qG8 _ _) a3);have m4:=a5 m3 q1 b3 cc lv b2;refine F1 (λc4=>wpS_pure ⟨_,rfl,.inl ⟨_,rfl,dH m4 ub c4⟩⟩) λc4=>?_;have j4:Jh rk a b (c0.push v) (k-1) l:=⟨m4,ox,q2,qB1 (qG8 _ _) b3,cc⟩;have b4:k-1+l+x+1<=a.size+b.size:=qB1 (qG6 (Nat.add_le_add_right (Nat.add_le_add (qB1 (qG8 _ _) k1) (qB1 l1 (qG8 _ _))) x)) hm
    split
    .show wpS_pure ⟨_,rfl,.inr ⟨_,_,_,_,_,_,rfl,j4,b4⟩⟩
    .show wpS_pure ⟨_,_,_,_,_,_,_,rfl,rfl,j4,b4⟩
end
def jY (sa:Nat):∀(ms:List Keyed) (j:Nat) (arr:Array Keyed),sa+j+ms.length<=arr.size->((ms.zipIdx j).foldl (λa x=>a.setIfInBounds (sa+x.2) x.1) arr).toList=arr.toList.take (sa+j)++ms++arr.toList.drop (sa+j+ms.length)
 | [],j,arr,_=>QX
 | m::ms,j,arr,h=>by
  rw[qV1,qW9];rw[qC1]at h;have q:sa+j<arr.toList.length:=by simp;omega
  rw[jY sa ms (j+1) _ (by simp;omega),qQ3];have e1:(arr.toList.set (sa+j) m).take (sa+(j+1))=arr.toList.take (sa+j) ++ [m]:=by
   rw[<- qI1,qK1,List.take_set_of_le (qB5 _),qJ0 q];rfl
  rw[e1,List.drop_set_of_lt ox,qC1,show sa+(j+1)+ms.length=sa+j+(ms.length+1) by omega];simp
abbrev rn_ (L:List Keyed)(i n:Nat):List Keyed:=(L.drop i).take n
def CH:L=L.take i++(rn_ L i n++rn_ L (i+n) m)++L.drop (i+n+m):=by
 have e1:L.drop i=rn_ L i n++L.drop (i+n):=X6 L i n;have e2:L.drop (i+n)=rn_ L (i+n) m++L.drop (i+n+m):=X6 L (i+n) m;rw[qG0,qG0,<- e2,<- e1,qR9]
def bu (h:j<n):(rn_ L i n)[j]?=L[i+j]?:=by
 rw[qH1 h,qI4]
def uK (hu:upL rk (rn_ a.toList i n)) (hn:i+n<=a.size):∀u v,u<=v->v<n->kk rk a (i+u)<=kk rk a (i+v):=λu v a3 L=>by
 have h1:u<(rn_ a.toList i n).length:=by simp;omega
 obtain ⟨x,hx,ex,q⟩:=V0 (a:=a) (i:=i+u) ox;obtain ⟨y,hy,O,ly⟩:=V0 (a:=a) (i:=i+v) ox;rw[V7 ex,V7 O];refine gQ hu (i:=u) (by rw[bu ox];show q) y (qQ0.mpr ⟨v-u,?_⟩);rw[qI4,show u+(v-u)=v by omega,bu L];show ly
def il (L:List Keyed) (i n k:Nat) (h:k<=n):rn_ L i n=rn_ L i k++rn_ L (i+k) (n-k):=by
 unfold rn_;rw[show n=k+(n-k) from (qE1 h).symm,List.take_add,qZ3,qW4]
def vA {st:σ}(h:Q ⟨⟩ x):wpS M A E s (set x:StateT σ Sem PUnit) Q st:=by
 unfold wpS;rw[StateT.run_set];show qN6 ⟨rfl,h⟩
abbrev sS (κ:SortKind)(arr:Array Keyed)(pd:Array (Nat×Nat×Nat))(g:Nat):SortSt:=SortSt.mk' κ arr pd g none
def lT {pd:Array (Nat×Nat×Nat)}{nb:Nat}(hc:Cmp prog w A s κ rk a₀) (a5:∀x∈arr.toList,x∈a₀) (e1:pd[i]?=some (sa,na,pw)) (e2:pd[i+1]?=some (sb,nb,pw2)) (a6:sb=sa+na) (hz:sb+nb<=arr.size) (a7:0<na) (bc:0<nb) (ux:upL rk (rn_ arr.toList sa na)) (uy:upL rk (rn_ arr.toList sb nb)) (h:∀M g,Gd rk (rn_ arr.toList sa na++rn_ arr.toList sb nb) M->Q true (sS κ (arr.toList.take sa++M++arr.toList.drop (sb+nb)).toArray ((pd.setIfInBounds i (sa,na+nb,pw)).eraseIdxIfInBounds (i+1)) g)):
  wpS (model prog w) A E s (mergeAt' i) Q (sS κ arr pd g0):=by
 refine wpS_bind (wpS_get ?_);dsimp only;rw[e1,e2];dsimp only;refine wpS_bind (vA ?_);obtain ⟨u,hu,eu,lu⟩:=V0 (a:=arr) (i:=sb) ox;have kx:=uK ux ox;have ky:=uK uy ox;have b0:∀g,upL rk (rn_ arr.toList sa na++rn_ arr.toList sb nb)->Q true (sS κ arr ((pd.setIfInBounds i (sa,na+nb,pw)).eraseIdxIfInBounds (i+1)) g):=λg hu=>by
  have:=h _ g ⟨List.Perm.refl _,hu⟩
  have e:=CH (L:=arr.toList) (i:=sa) (n:=na) (m:=nb);rw[<- a6]at e;rw[<- e]at this;show this
 have mx:∀{x:Keyed}{i n:Nat},x∈rn_ arr.toList i n->∃j,j<n/\arr.toList[i+j]?=some x:=λh=>S6 h;have a3:∀{p q:List Keyed},upL rk p->upL rk q->(∀x∈p,∀y∈q,rk x<=rk y)->upL rk (p++q):=λa b c=>qF3.mpr ⟨a,b,c⟩;refine wpS_bind (l6 eu (wpS_bind (L4 hc rfl (a5 u hu) (λi hi=>?ga) kx a7 λk k1 k2 k3=>?_)))
 case ga=>
  obtain ⟨v,hv,ev,lv⟩:=V0 (a:=arr) (i:=sa+i) ox;show ⟨v,a5 v hv,ev⟩
 dsimp only;have a4:∀y∈rn_ arr.toList sb nb,rk u<=rk y:=λy hy=>by
  obtain ⟨j,hj,lj⟩:=mx hy
  have:=ky 0 j ox hj
  rw[qK6,t6 (rk:=rk) lu,t6 (rk:=rk) lj]at this;show this
 by_cases c1:na-k=0
 .rw [qA2 (by simpa using c1)]
  refine wpS_pure (b0 _ (a3 ux uy λx hx y hy=>?_));obtain ⟨j,hj,lj⟩:=mx hx;have h1:=k2 j ox;rw[t6 (rk:=rk) lj]at h1;have h2:=a4 y hy;simp [bey]at h1;omega
 rw[qA4 (by simpa using c1)];rw[show sa+k+(na-k)-1=sa+na-1 by rw[qI1,qE1 k1]];obtain ⟨v,hv,ev,lv⟩:=V0 (a:=arr) (i:=sa+na-1) (qB0 (qI0 (qB0 a7 (Nat.le_add_left _ _)) QV) (qB1 (qJ1 a6.symm) (qB1 (qD8 _ _) hz)));refine wpS_bind (l6 ev (wpS_bind (L4 hc rfl (a5 v hv) (λi hi=>?gb) ky ox λl l1 l2 l3=>?_)))
 case gb=>
  obtain ⟨v,hv,ev,lv⟩:=V0 (a:=arr) (i:=sb+i) ox;show ⟨v,a5 v hv,ev⟩
 dsimp only;have xlast:∀x∈rn_ arr.toList sa na,rk x<=rk v:=λx hx=>by
  obtain ⟨j,hj,lj⟩:=mx hx
  have:=kx j (na-1) (qJ7 hj) (qI0 a7 QV)
  rw[sb5 a7,t6 (rk:=rk) lv,t6 (rk:=rk) lj]at this;show this
 by_cases c2:l=0
 .rw [qA2 (by simpa using c2)]
  refine wpS_pure (b0 _ (a3 ux uy λx hx y hy=>?_));obtain ⟨j,hj,lj⟩:=mx hy;have h1:=l3 j ox ox;rw[t6 (rk:=rk) lj]at h1;have h2:=xlast x hx;simp [bey]at h1;omega
 rw[qA4 (by simpa using c2)];have sx:=il arr.toList sa na k k1;have sy:=il arr.toList sb nb l l1;have ex:(arr.extract (sa+k) sb).toList=rn_ arr.toList (sa+k) (na-k):=by
  rw[show sb=sa+k+(na-k) by rw[qI1,qE1 k1];show a6,X4]
 have ey:(arr.extract sb (sb+l)).toList=rn_ arr.toList sb l:=X4 _ _ _;have zx:(arr.extract (sa+k) sb).size=na-k:=by rw[Array.size_extract,qM5 (qB1 (qD8 _ _) hz),a6,Nat.add_sub_add_left]
 have zy:(arr.extract sb (sb+l)).size=l:=by rw[Array.size_extract,qM5 (qB1 (qE6 l1 sb) hz),qW4]
 rw[sx]at ux xlast;rw[sy]at uy a4;have ab:=(qF3.mp ux);have a8:=(qF3.mp uy);have b5:kk rk (arr.extract (sa+k) sb) ((arr.extract (sa+k) sb).size-1)=rk v:=by
  refine t6 ?_;rw[ex,zx,bu (qI0 (qU0 c1) QV),sb5 (qU0 c1),qI1,qE1 k1];show lv
 have b4:kk rk (arr.extract sb (sb+l)) 0=rk u:=by
  refine t6 ?_;rw[ey,bu (qU0 c2)];show lu
 have p1:∀x∈(arr.extract (sa+k) sb).toList,kk rk (arr.extract sb (sb+l)) 0<=rk x:=λx hx=>by
  rw[b4];rw[ex]at hx;obtain ⟨j,hj,lj⟩:=mx hx;have h1:=k3 (k+j) ox ox;rw[<- qI1,t6 (rk:=rk) lj]at h1;simp [bey]at h1;omega
 have p2:∀x∈(arr.extract sb (sb+l)).toList,rk x<=kk rk (arr.extract (sa+k) sb) ((arr.extract (sa+k) sb).size-1):=λx hx=>by
  rw[b5];rw[ey]at hx;obtain ⟨j,hj,lj⟩:=mx hx;have h1:=l2 j hj;rw[t6 (rk:=rk) lj]at h1;simp [bey]at h1;omega
 have i1:∀x∈(arr.extract (sa+k) sb).toList,x∈a₀:=λx hx=>by
  rw[ex]at hx;show a5 x (qI7 (List.mem_of_mem_take hx))
 have i2:∀x∈(arr.extract sb (sb+l)).toList,x∈a₀:=λx hx=>by
  rw[ey]at hx;show a5 x (qI7 (List.mem_of_mem_take hx))
 have fin:∀(O:Array Keyed) (g:Nat),Gd rk ((arr.extract (sa+k) sb).toList++(arr.extract sb (sb+l)).toList) O.toList->Q true (sS κ (O.toList.zipIdx.foldl (λa x=>a.setIfInBounds (sa+k+x.2) x.1) arr) ((pd.setIfInBounds i (sa,na+nb,pw)).eraseIdxIfInBounds (i+1)) g):=λO g hg=>by
  have hlen:O.toList.length=(na-k)+l:=by
   rw[hg.1.length_eq,qC5,qC7,qC7,zx,zy]
  have e:=jY (sa+k) O.toList 0 arr ox;rw[hlen,qK6]at e;have e':O.toList.zipIdx.foldl (λa x=>a.setIfInBounds (sa+k+x.2) x.1) arr=(arr.toList.take sa++(rn_ arr.toList sa k++O.toList++rn_ arr.toList (sb+l) (nb-l))++arr.toList.drop (sb+nb)).toArray:=by
   apply qV6.mp;rw[e];have t1:arr.toList.take (sa+k)=arr.toList.take sa++rn_ arr.toList sa k:=List.take_add;have t2:arr.toList.drop (sb+l)=rn_ arr.toList (sb+l) (nb-l)++arr.toList.drop (sb+l+(nb-l)):=X6 _ _ _;rw[t1,show sa+k+(na-k+l)=sb+l by rw[<- qI1,qI1 sa,qE1 k1,a6],t2,show sb+l+(nb-l)=sb+nb by rw[qI1,qE1 l1]];simp
  rw[e'];refine h _ g ⟨?_,?_⟩
  .rw [sx,sy]
   have:=hg.1
   rw[ex,ey]at this;rw[qG0,qG0 (rn_ arr.toList sa k)];refine qR8 _ ?_;rw[<- qG0];show List.Perm.append_right _ this
  .have hm:∀x∈O.toList,x∈rn_ arr.toList (sa+k) (na-k)\/x∈rn_ arr.toList sb l:=λx hx=>by
    have:=hg.1.mem_iff.mp hx
    rw[ex,ey]at this;show qC6.mp this
   refine a3 (a3 ab.1 hg.2 λx hx y hy=>?_) a8.2.1 λx hx y hy=>?_
   .rcases hm y hy with q|q
    .show ab.2.2 x hx y q
    .obtain ⟨j,hj,lj⟩:=mx hx;have h1:=k2 j hj;rw[t6 (rk:=rk) lj]at h1;have h2:=a4 y (qD5 _ q);simp [bey]at h1;omega
   .have b3:∀z,z∈rn_ arr.toList sa k++rn_ arr.toList (sa+k) (na-k)->rk z<=rk y:=λz hz=>by
     obtain ⟨j,hj,lj⟩:=mx hy;have h1:=l3 (l+j) (qD8 _ _) (qJ5 hj);rw[<- qI1,t6 (rk:=rk) lj]at h1;have h2:=xlast z hz;simp [bey]at h1;omega
    rcases qC6.mp hx with q|q
    .show b3 x (qD5 _ q)
    .rcases hm x q with r|r
     .show b3 x (qE3 _ r)
     .show a8.2.2 x r y hy
 by_cases c3:na-k<=l
 .rw [qA2 c3]
  refine wpS_bind (lQ hc rfl i1 i2 (by rw[ex];show ab.2.1) (by rw[ey];show a8.1) ox ox p1 p2 λO g hg=>?_);refine wpS_bind (wpS_modify (wpS_bind (wpS_get (wpS_pure (fin O g hg)))))
 .rw [qA4 c3]
  refine wpS_bind (lR hc rfl i1 i2 (by rw[ex];show ab.2.1) (by rw[ey];show a8.1) ox ox p1 p2 λO g hg=>?_);refine wpS_bind (wpS_modify (wpS_bind (wpS_get (wpS_pure (fin O g hg)))))
section
variable {prog:Program}{w:World}{A:Around}{E:Jp}{s:Shared}{a₀:Array Keyed}{κ:SortKind}{rk:Keyed->Int}{arr:Array Keyed}{pd:Array (Nat×Nat×Nat)}{g lo:Nat}
def je (q:j<=xs.size) (k:Nat):kk rk (mirror xs i j ((j-i)/2)) k=if i<=k/\k<j then kk rk xs (i+j-1-k) else kk rk xs k:=by
 have e:=getElem?_mirror_all (i:=i) q k
 split
 .rename_i h;rw[qA2 h]at e;show dD e
 .rename_i h;rw[qA4 h]at e;show dD e
def eX (L:j<=xs.size) (q:∀k,i<=k->k<j->kk rk xs k=kk rk xs (j-1)) (k:Nat):kk rk (mirror xs i j ((j-i)/2)) k=kk rk xs k:=by
 rw[je L];by_cases c:i<=k/\k<j
 .rw[qA2 c,q _ (AZ c).1 (AZ c).2,q k c.1 c.2]
 .rw[qA4 c]
def Be (hs:src<xs.size) (hd:d<=src) (k:Nat):kk rk (bubble xs src d) k=if k=src-d then kk rk xs src else if src-d<k/\k<=src then kk rk xs (k-1) else kk rk xs k:=by
 have e:=getElem?_bubble hs d hd k
 split
 .rename_i h;rw[qA2 h]at e;show dD e
 .rename_i h
  rw[qA4 h]at e
  split
  .rename_i h2;rw[qA2 h2]at e;show dD e
  .rename_i h2;rw[qA4 h2]at e;show dD e
structure Rl (lo:Nat) (arr arr':Array Keyed):Prop where
 perm:arr'.toList.Perm arr.toList
 same:∀k,k<lo->arr'[k]?=arr[k]?
def Rl.refl:Rl lo arr arr:=⟨.refl _,λ_ _=>rfl⟩
def Rl.trans (q:Rl lo a b)(L:Rl lo b c):Rl lo a c:=⟨L.perm.trans q.perm,λk hk=>(L.same k hk).trans (q.same k hk)⟩
def Rl.size (h:Rl lo a b):b.size=a.size:=by
 have:=h.perm.length_eq
 simpa using this
def Rl.mem (h:Rl lo a b)(q:∀x∈a.toList,x∈a₀):∀x∈b.toList,x∈a₀:=λx L=>q x (h.perm.mem_iff.mp L)
def Rl.mir (hi:lo<=i) (q:j<=arr.size):Rl lo arr (mirror arr i j ((j-i)/2)):=⟨qU3.mp (mirror_perm _ _ _ _),λk hk=>by
 rw[getElem?_mirror_all q,qA4 ox]⟩
def Rl.bub (hs:src<arr.size) (hd:lo+d<=src):Rl lo arr (bubble arr src d):=⟨qU3.mp (bubble_perm _ _ _),λk hk=>by
 rw[getElem?_bubble hs d ox,qA4 ox,qA4 ox]⟩
def upA (rk:Keyed->Int)(xs:Array Keyed)(lo m:Nat):Prop:=∀i j,i<=j->j<m->kk rk xs (lo+i)<=kk rk xs (lo+j)
def dnA (rk:Keyed->Int)(xs:Array Keyed)(lo m:Nat):Prop:=∀i j,i<=j->j<m->kk rk xs (lo+j)<=kk rk xs (lo+i)
def S1 (hc:Cmp prog w A s κ rk a₀) (q:∀x∈arr.toList,x∈a₀) (hi:i<arr.size) (hj:j<arr.size) (h:Q (some (decide (kk rk arr i<kk rk arr j))) (sS κ arr pd g)):wpS (model prog w) A E s (ltAt' i j) Q (sS κ arr pd g):=by
 obtain ⟨x,O,ex,lx⟩:=V0 hi;obtain ⟨y,hy,L,ly⟩:=V0 hj;rw[V7 ex,V7 L]at h;rw[ltAt'_eq];show wpS_bind (wpS_get (wpS_bind (l6 ex (wpS_bind (l6 L (cU hc (q x O) (q y hy) rfl h))))))
def nO (h:upA rk arr lo m) (hm:¬ kk rk arr (lo+m)<kk rk arr (lo+m-1)) (h0:0<m):upA rk arr lo (m+1):=λi j L hj=>by
 by_cases O:j<m
 .show h i j L O
 .have a3:j=m:=ox;subst a3;by_cases q:i=j
  .subst q;show qH8 _
  .have:=h i (j-1) (qJ7 (Nat.lt_of_le_of_ne L q)) (qI0 h0 QV)
   rw[sb5 h0]at this;show Int.le_trans this (Int.not_lt.mp hm)
def qN (hc:Cmp prog w A s κ rk a₀) (b5:∀x∈arr.toList,x∈a₀) (h1:1<=nrem) (hz:lo+nrem<=arr.size) (h:∀m arr',Rl lo arr arr'->1<=m->m<=nrem->upA rk arr' lo m->Q (some m) (sS κ arr' pd g)):wpS (model prog w) A E s (countRun' lo nrem) Q (sS κ arr pd g):=by
 refine wpS_bind (wpS_mono (wpS_forRange (λx c O=>O=sS κ arr pd g/\c=(none,x)/\upA rk arr lo x)
  (Q:=λc O=>O=sS κ arr pd g/\∃n,c=(none,n)/\1<=n/\n<=nrem/\upA rk arr lo n/\(n=nrem\/kk rk arr (lo+n)<kk rk arr (lo+n-1))) ?step ?fin ⟨rfl,rfl,λi j a b=>by rw[show i=j by omega];show qH8 _⟩) ?post)
 case fin=>
  rintro c O ⟨rfl,rfl,hu⟩;rw[show max 1 nrem=nrem by omega]at hu ⊢;show ⟨rfl,nrem,rfl,h1,qB5 _,hu,.inl rfl⟩
 case step=>
  rintro x c O b3 hx ⟨rfl,rfl,hu⟩;dsimp only;refine wpS_bind (S1 hc b5 (qB0 (Nat.add_lt_add_left hx lo) hz) (sb6 b3 (qB1 (qE6 (qI6 hx) lo) hz)) ?_);refine P9 (λq=>?_) λq=>?_
  .skip
   show wpS_pure ⟨rfl,x,rfl,b3,ox,hu,.inr q⟩
  .skip
   show wpS_pure ⟨rfl,rfl,nO hu q ox⟩
 case post=>
  intro c O hI;refine cpsA (c:=c) (t:=O) hI λn jn=>?_;have n1:=jn.1;have n2:=jn.2.1;have hu:=jn.2.2.1;have cm:=jn.2.2.2;clear hI jn c O;dsimp only;refine F1 (λcn=>wpS_pure (h n arr .refl n1 n2 hu)) λcn=>?_;have c1:=cm.resolve_left cn;refine nE (λO=>∃a6,O=sS κ a6 pd g/\Rl lo arr a6/\dnA rk a6 lo (n+1)) ?key (λcg key=>?pos) (λcg=>⟨arr,rfl,.refl,?neg⟩)
  case pos=>
   refine wpS_bind (S1 hc b5 ox ox ?_);refine P9 (λq=>wpS_pure (h n arr .refl n1 n2 hu)) λq=>?_;have ab:∀k,lo<=k->k<lo+n->kk rk arr k=kk rk arr (lo+n-1):=λk a b=>by
    have a1:=hu 0 (k-lo) (qD2 _) (qK0 a b);have a2:=hu (k-lo) (n-1) (qJ7 (qK0 a b)) (qI0 n1 QV);rw[qE1 a]at a1 a2;rw[sb5 n1]at a2;rw[qK6]at a1;omega
   refine wpS_bind (wpS_modify ?_);have kE:=eX (rk:=rk) (xs:=arr) (i:=lo) (j:=lo+n) ox ab;refine key _ ⟨mirror arr lo (lo+n) ((lo+n-lo)/2),rfl,Rl.mir (qB5 _) ox,λi j a5 hj=>?_⟩;rw[kE,kE];by_cases cp:j<n
   .rw[ab (lo+i) ox ox,ab (lo+j) ox ox];show qH8 _
   .have b4:j=n:=ox;subst b4;by_cases a8:i=j
    .subst a8;show qH8 _
    .rw[ab (lo+i) ox ox];show Int.le_of_lt c1
  case neg=>
   intro i j a5 hj;by_cases a8:i=j
   .subst a8;show qH8 _
   .have cc:i=0:=ox;have ck:j=n:=ox;subst cc;subst ck;rw[show lo+j-1=lo+0 by omega]at c1;show Int.le_of_lt c1
  intro O hI;refine CK (t:=O) hI λa6 jn=>?_;have r1:=jn.1;have d1:=jn.2;clear hI jn O;refine wpS_bind (wpS_lift (qP5 ⟨rfl,?_⟩));have z1:a6.size=arr.size:=r1.size;refine wpS_bind (wpS_mono (wpS_forRange (λx c O=>∃L a3,O=sS κ L pd g/\c=(none,x,a3)/\Rl lo arr L/\dnA rk L lo x/\a3+1<=x/\∀i,x-(a3+1)<=i->i<x->kk rk L (lo+i)=kk rk L (lo+x-1))
   (Q:=λc O=>∃L m a3,O=sS κ L pd g/\c=(none,m,a3)/\n+1<=m/\m<=nrem/\Rl lo arr L/\dnA rk L lo m/\a3+1<=m/\∀i,m-(a3+1)<=i->i<m->kk rk L (lo+i)=kk rk L (lo+m-1)) ?dstep ?dfin ⟨a6,0,rfl,rfl,r1,d1,ox,λi a b=>by congr 1;omega⟩) ?dpost)
  case dfin=>
   rintro c O ⟨L,a3,rfl,rfl,r2,d2,q2,e2⟩;rw[show max (n+1) nrem=nrem by omega]at d2 q2 e2 ⊢;show ⟨L,nrem,a3,rfl,rfl,ox,qB5 _,r2,d2,q2,e2⟩
  case dstep=>
   intro x c O b3 hx hI;refine cpsC (c:=c) (t:=O) hI λL a3 jn=>?_;have r2:=jn.1;have d2:=jn.2.1;have q2:=jn.2.2.1;have e2:=jn.2.2.2;clear hI jn c O;dsimp only;have z2:=r2.size;have bc:=r2.mem b5;have c2:∀k,lo+x-(a3+1)<=k->k<lo+x->kk rk L k=kk rk L (lo+x-1):=λk a b=>by
    have:=e2 (k-lo) (sb3 q2 a) (qK0 (qB1 (by rw[qH4 q2];show qD8 _ _) a) b)
    rw[sb4 q2 a]at this;show this
   refine wpS_bind (S1 hc bc ox ox ?_);refine P9 (λq=>?_) λq=>?_
   .skip
    have b0:∀xs:Array Keyed,(∀k,kk rk xs k=kk rk L k)->dnA rk xs lo (x+1):=by
     intro xs hk i j a5 hj;rw[hk,hk];by_cases c3:j<x
     .show d2 i j a5 c3
     .have b4:j=x:=ox;subst b4;by_cases a8:i=j
      .subst a8;show qH8 _
      .have:=d2 i (j-1) ox ox
       rw[sb5 ox]at this;omega
    by_cases c0:a3>0
    .rw [qA2 c0]
     refine wpS_bind (wpS_modify (wpS_pure ⟨mirror L (lo+x-(a3+1)) (lo+x) ((lo+x-(lo+x-(a3+1)))/2),0,rfl,rfl,r2.trans (Rl.mir (arr:=L) ox ox),b0 _ (eX (xs:=L) ox c2),ox,λi a b=>by congr 1;omega⟩))
    .rw [qA4 c0]
     show wpS_pure ⟨_,0,rfl,rfl,r2,b0 _ (λ_=>rfl),ox,λi a b=>by congr 1;omega⟩
   .skip
    refine wpS_bind (S1 hc bc ox ox ?_);refine P9 (λq'=>?_) λq'=>?_
    .skip
     show wpS_pure ⟨L,x,a3,rfl,rfl,b3,ox,r2,d2,q2,e2⟩
    .skip
     have c5:kk rk L (lo+x)=kk rk L (lo+x-1):=ox;refine wpS_pure ⟨L,a3+1,rfl,rfl,r2,λi j a5 hj=>?_,ox,λi a b=>?_⟩
     .by_cases c3:j<x
      .show d2 i j a5 c3
      .have b4:j=x:=ox;subst b4;by_cases a8:i=j
       .subst a8;show qH8 _
       .have:=d2 i (j-1) ox ox
        rw[sb5 ox]at this;omega
     .rw [show lo+(x+1)-1=lo+x by omega]
      by_cases cj:i=x
      .subst cj;rfl
      .rw[c5];show e2 i ox ox
  case dpost=>
   intro c O hI;refine cpsD (c:=c) (t:=O) hI λL m a3 jn=>?_;have m1:=jn.1;have m2:=jn.2.1;have r2:=jn.2.2.1;have d2:=jn.2.2.2.1;have q2:=jn.2.2.2.2.1;have e2:=jn.2.2.2.2.2;clear hI jn c O;dsimp only;have z2:=r2.size;have c2:∀k,lo+m-(a3+1)<=k->k<lo+m->kk rk L k=kk rk L (lo+m-1):=λk a b=>by
    have:=e2 (k-lo) (sb3 q2 a) (qK0 (qB1 (by rw[qH4 q2];show qD8 _ _) a) b)
    rw[sb4 q2 a]at this;show this
   refine nE (λO=>∃a4,O=sS κ a4 pd g/\Rl lo arr a4/\dnA rk a4 lo m) ?key2 (λ_ key=>?pos2) (λ_=>⟨L,rfl,r2,d2⟩)
   case pos2=>
    refine wpS_bind (wpS_modify ?_);have kE:=eX (rk:=rk) (xs:=L) (i:=lo+m-(a3+1)) (j:=lo+m) ox c2;show key _ ⟨mirror L (lo+m-(a3+1)) (lo+m) ((lo+m-(lo+m-(a3+1)))/2),rfl,r2.trans (Rl.mir (arr:=L) ox ox),λi j a5 hj=>by rw[kE,kE];show d2 i j a5 hj⟩
   intro O hI;refine CK (t:=O) hI λa4 jn=>?_;have r3:=jn.1;have d3:=jn.2;clear hI jn O;have z3:=r3.size;refine wpS_bind (wpS_modify ?_);have r4:Rl lo arr (mirror a4 lo (lo+m) ((lo+m-lo)/2)):=r3.trans (Rl.mir (qB5 _) ox);have u4:upA rk (mirror a4 lo (lo+m) ((lo+m-lo)/2)) lo m:=λi j a5 hj=>by
    rw[je ox,je ox,qA2 ox,qA2 ox]
    have:=d3 (m-1-j) (m-1-i) (qT0 a5 _) (qD9 (qG8 _ _) (qI0 (qD9 (qD2 j) hj) QV))
    rw[mr1 (qD9 a5 hj),mr1 hj];show this
   change wpS _ _ _ _ _ _ (sS κ (mirror a4 lo (lo+m) ((lo+m-lo)/2)) pd g);generalize mirror a4 lo (lo+m) ((lo+m-lo)/2)=a7 at r4 u4 ⊢
   have z4:=r4.size;have c4:=r4.mem b5;refine wpS_bind (wpS_mono (wpS_forRange (λx c O=>O=sS κ a7 pd g/\c=(none,x)/\upA rk a7 lo x)
    (Q:=λc O=>O=sS κ a7 pd g/\∃n,c=(none,n)/\1<=n/\n<=nrem/\upA rk a7 lo n) ?ustep ?ufin ⟨rfl,rfl,u4⟩) ?upost)
   case ufin=>
    rintro c O ⟨rfl,rfl,hu⟩;rw[show max m nrem=nrem by omega]at hu ⊢;show ⟨rfl,nrem,rfl,h1,qB5 _,hu⟩
   case ustep=>
    rintro x c O b3 hx ⟨rfl,rfl,hu⟩;dsimp only;refine wpS_bind (S1 hc c4 ox ox ?_);refine P9 (λq=>?_) λq=>?_
    .skip
     show wpS_pure ⟨rfl,x,rfl,ox,ox,hu⟩
    .skip
     show wpS_pure ⟨rfl,rfl,nO hu q ox⟩
   case upost=>
    rintro c O ⟨rfl,k,rfl,k1,k2,hu⟩;show wpS_pure (h k a7 r4 k1 k2 hu)
def yy (hc:Cmp prog w A s κ rk a₀) (b3:∀x∈arr.toList,x∈a₀) (hok:ok<=n) (hz:lo+n<=arr.size) (hu:upA rk arr lo ok) (h:∀arr',Rl lo arr arr'->upA rk arr' lo n->Q true (sS κ arr' pd g)):wpS (model prog w) A E s (binarySort' lo n ok) Q (sS κ arr pd g):=by
 refine wpS_bind (wpS_mono (wpS_forRange (λk c L=>∃q,L=sS κ q pd g/\c=(none,())/\Rl lo arr q/\upA rk q lo (min k n))
  (Q:=λc L=>∃q,L=sS κ q pd g/\c=(none,())/\Rl lo arr q/\upA rk q lo n) ?step ?fin ⟨arr,rfl,rfl,.refl,?init⟩) ?post)
 case init=>
  intro i j b4 hj;by_cases h1:ok=0
  .rw[show i=j by omega];show qH8 _
  .show hu i j b4 ox
 case post=>
  rintro c L ⟨q,rfl,rfl,r1,u1⟩;show wpS_pure (h q r1 u1)
 case fin=>
  rintro c L ⟨q,rfl,rfl,r1,u1⟩;rw[show min (max (max ok 1) n) n=n by omega]at u1;show ⟨q,rfl,rfl,r1,u1⟩
 case step=>
  intro k c L bc hk hI;refine ER (c:=c) (t:=L) hI λq jn=>?_;have r1:=jn.1;have u1:=jn.2;clear hI jn c L;rw[show min k n=k by omega]at u1;have z1:=r1.size;have b0:=r1.mem b3;dsimp only;refine wpS_bind (wpS_mono (wpS_forRange (λx c L=>L=sS κ q pd g/\∃l r,c=(none,l,r)/\l<=r/\r<=k/\r-l<=k-x/\(∀i,i<l->kk rk q (lo+i)<=kk rk q (lo+k))/\(∀i,r<=i->i<k->kk rk q (lo+k)<kk rk q (lo+i)))
   (Q:=λc L=>L=sS κ q pd g/\∃l r,c=(none,l,r)/\l<=k/\(∀i,i<l->kk rk q (lo+i)<=kk rk q (lo+k))/\(∀i,l<=i->i<k->kk rk q (lo+k)<kk rk q (lo+i))) ?istep ?ifin ⟨rfl,0,k,rfl,ox,ox,ox,λi hi=>ox,λi h1 h2=>ox⟩) ?ipost)
  case ifin=>
   rintro c L ⟨rfl,l,r,rfl,a7,a6,hm,a5,a4⟩
   have:l=r:=ox
   subst this;show ⟨rfl,l,l,rfl,a6,a5,a4⟩
  case istep=>
   intro x c L _ hx hI;refine ES (c:=c) (t:=L) hI λl r jn=>?_;have a7:=jn.1;have a6:=jn.2.1;have hm:=jn.2.2.1;have a5:=jn.2.2.2.1;have a4:=jn.2.2.2.2;clear hI jn c L;dsimp only;by_cases a3:l≥r
   .rw [qA2 a3]
    have:l=r:=ox
    subst this;show wpS_pure ⟨rfl,l,l,rfl,a6,a5,a4⟩
   .rw [qA4 a3]
    refine wpS_bind (S1 hc b0 ox ox ?_);refine P9 (λO=>?_) λO=>?_
    .skip
     refine wpS_pure ⟨rfl,l,(l+r)/2,rfl,mI a7,qI6 (qB0 (gC a3) a6),zd (mI a7) (gC a3) hm,a5,λi h1 h2=>?_⟩;show Int.lt_of_lt_of_le O (u1 _ _ h1 h2)
    .skip
     refine wpS_pure ⟨rfl,(l+r)/2+1,r,rfl,gC a3,a6,zc (mI a7) hm,λi h1=>?_,a4⟩;show Int.le_trans (u1 i ((l+r)/2) (qJ8 h1) (qB0 (gC a3) a6)) (Int.not_lt.mp O)
  case ipost=>
   rintro c L ⟨rfl,l,r,rfl,a8,a5,a4⟩;refine wpS_bind (wpS_modify (wpS_pure ⟨bubble q (lo+k) (lo+k-(lo+l)),rfl,rfl,r1.trans (Rl.bub (arr:=q) ox ox),?_⟩));rw[show min (k+1) n=k+1 by omega];have ab:lo+l<=lo+k:=qE6 a8 lo;have b5:lo+k<q.size:=ox;refine Dt (f:=λi=>kk rk q (lo+i)) a8 (λi=>?_) u1 a5 a4
   change kk rk _ (lo+i)=_;rw[Be b5 (qG8 _ _),Nat.sub_sub_self ab];by_cases c1:i=l
   .rw[qA2 (by rw[c1]),qA2 c1]
   .rw [qA4 λz=>c1 (Nat.add_left_cancel z),qA4 c1]
    by_cases c2:l<i/\i<=k
    .rw[qA2 ⟨Nat.add_lt_add_left c2.1 lo,qE6 c2.2 lo⟩,qA2 c2,qH4 (qD9 (qD2 l) c2.1)]
    .rw[qA4 λz=>c2 ⟨Nat.lt_of_add_lt_add_left z.1,Nat.le_of_add_le_add_left z.2⟩,qA4 c2]
end
def Chn (rk:Keyed->Int) (L:List Keyed):List (Nat×Nat×Nat)->Nat->Nat->Prop
 | [],a,b=>a=b
 |r::rs,a,b=>r.1=a/\0<r.2.1/\upL rk (rn_ L a r.2.1)/\Chn rk L rs (a+r.2.1) b
def bg:∀{q:List (Nat×Nat×Nat)}{a b:Nat},Chn rk L q a b->a+q.length<=b
 | [],a,b,h=>by have h:a=b:=h;simp [h]
 | r::q,a,b,h=>by
  have:=bg h.2.2.2
  have:=h.2.1
  rw[qC1];omega
def chn_app:∀{r1 r2:List (Nat×Nat×Nat)}{a c:Nat},Chn rk L (r1++r2) a c↔∃b,Chn rk L r1 a b/\Chn rk L r2 b c
 | [],r2,a,c=>⟨λh=>⟨a,rfl,h⟩,λa3=>by obtain ⟨b,q,O⟩:=a3;have q:a=b:=q;subst q;show O⟩
 | r::r1,r2,a,c=>by
  constructor
  .rintro ⟨q,O,h3,h4⟩;obtain ⟨b,q1,q2⟩:=chn_app.mp h4;show ⟨b,⟨q,O,h3,q1⟩,q2⟩
  .rintro ⟨b,⟨q,O,h3,h4⟩,q2⟩;show ⟨q,O,h3,chn_app.mpr ⟨b,h4,q2⟩⟩
def dQ:∀{q:List (Nat×Nat×Nat)}{a b:Nat},(∀i n,a<=i->i+n<=b->rn_ L' i n=rn_ L i n)->Chn rk L q a b->Chn rk L' q a b
 | [],a,b,_,h=>h
 | r::q,a,b,he,h=>by
  have:=bg h.2.2.2
  refine ⟨h.1,h.2.1,?_,dQ (λi n h1 O=>he i n ox O) h.2.2.2⟩;rw[he a r.2.1 (qB5 _) ox];show h.2.2.1
def lL:∀{q:List (Nat×Nat×Nat)}{k a b:Nat},Chn rk L q a b->Chn rk L (q.modify k λr=>(r.1,r.2.1,pw)) a b
 | [],k,a,b,h=>by rw[List.modify_nil];show h
 |r::q,0,a,b,h=>h
 |r::q,k+1,a,b,h=>by rw[List.modify_succ_cons];show ⟨h.1,h.2.1,h.2.2.1,lL h.2.2.2⟩
def AK {pd:Array (Nat×Nat×Nat)}(e1:pd[i]?=some x) (e2:pd[i+1]?=some y):∃r1 O,pd.toList=r1++x::y::O/\((pd.setIfInBounds i z).eraseIdxIfInBounds (i+1)).toList=r1++z::O:=by
 rw[<- qG9]at e1 e2;have hi:=(qA8.mp e2).1;have hsz:i+1<pd.size:=by simpa using hi
 refine ⟨pd.toList.take i,pd.toList.drop (i+2),?_,?_⟩
 .have t1:pd.toList.drop i=x::pd.toList.drop (i+1):=by
   obtain ⟨q,L⟩:=qA8.mp e1;rw[qJ9 q,L]
  have t2:pd.toList.drop (i+1)=y::pd.toList.drop (i+2):=by
   obtain ⟨q,L⟩:=qA8.mp e2;rw[qJ9 q,L]
  rw[<- t2,<- t1,qR9]
 .rw [Array.eraseIdxIfInBounds,dif_pos (by simpa using hsz),Array.toList_eraseIdx,qQ3,List.eraseIdx_eq_take_drop_succ,List.drop_set_of_lt ox]
  have:(pd.toList.set i z).take (i+1)=pd.toList.take i ++ [z]:=by
   rw[qK1,List.take_set_of_le (qB5 _),qJ0 ox];rfl
  rw[this];simp
def zF (h:M.length=n):rn_ (P++M++S) P.length n=M:=by
 unfold rn_;rw[qG0,List.drop_left,<- h,List.take_left]
def uF {pd:Array (Nat×Nat×Nat)}{lo:Nat}(hc:Cmp prog w A s κ rk a₀) (a8:∀x∈arr.toList,x∈a₀) (C:Chn rk arr.toList pd.toList 0 lo) (b3:lo<=arr.size) (hi:i+1<pd.size) (h:∀arr' a4 g',arr'.toList.Perm arr.toList->arr'.toList.drop lo=arr.toList.drop lo->a4.size+1=pd.size->Chn rk arr'.toList a4.toList 0 lo->Q true (sS κ arr' a4 g')):wpS (model prog w) A E s (mergeAt' i) Q (sS κ arr pd g):=by
 obtain ⟨⟨sa,na,pw⟩,ex⟩:∃x,pd[i]?=some x:=⟨pd[i],QX⟩;obtain ⟨⟨sb,nb,b0⟩,ey⟩:∃y,pd[i+1]?=some y:=⟨pd[i+1],QX⟩;obtain ⟨r1,r2,el,em⟩:=AK (z:=(sa,na+nb,pw)) ex ey;rw[el]at C;obtain ⟨b1,C1,a5,a7,u1,O,a6,u2,C2⟩:=chn_app.mp C;have a5:sa=b1:=a5;have O:sb=b1+na:=O;have a7:0<na:=a7;have a6:0<nb:=a6;subst a5;have a3:=bg C2;have ab:=bg C1;refine lT hc a8 ex ey O (by change _<=arr.size;simp at a3;omega) a7 a6 u1 (by rw[O];show u2) λM g' hg=>?_;have hM:M.length=na+nb:=by
  rw[hg.1.length_eq,qC5,qH0,qH0,qV0,qV0,qC7];simp at a3;omega
 have ct:=CH (L:=arr.toList) (i:=sa) (n:=na) (m:=nb);rw[<- O]at ct;have zt:(arr.toList.take sa).length=sa:=by rw[qH0,qC7];simp at a3;omega
 have dr:∀k,sb+nb<=k->(arr.toList.take sa++M++arr.toList.drop (sb+nb)).drop k=arr.toList.drop k:=λk hk=>by
  rw[List.drop_append,qF7 (by rw[qC5,zt,hM];omega),qM6,qC5,zt,hM,qZ3];congr 1;omega
 have tk:∀i n,i+n<=sa->rn_ (arr.toList.take sa++M++arr.toList.drop (sb+nb)) i n=rn_ arr.toList i n:=λi n hk=>by
  unfold rn_;rw[qG0,List.take_drop,List.take_drop,qS9 ox,List.take_take,qM5 ox]
 refine h _ _ g' ?_ ?_ ?_ ?_
 .change (arr.toList.take sa++M++arr.toList.drop (sb+nb)).Perm arr.toList;refine List.Perm.trans (List.Perm.append_right _ (qR8 _ hg.1)) ?_;rw[<- ct]
 .show dr lo (by simp at a3;omega)
 .have:=congrArg List.length em
  have q:=congrArg List.length el;rw[qC7]at this q;rw[this,q];simp;omega
 .rw [em]
  refine chn_app.mpr ⟨sa,dQ (λi n h1 h2=>tk i n h2) C1,rfl,by change 0<na+nb;omega,?_,?_⟩
  .change upL rk (rn_ (arr.toList.take sa++M++arr.toList.drop (sb+nb)) sa (na+nb))
   have:=zF (P:=arr.toList.take sa) (S:=arr.toList.drop (sb+nb)) hM
   rw[zt]at this;rw[this];show hg.2
  .change Chn rk _ r2 (sa+(na+nb)) lo;rw[<- qI1];refine dQ (λi n h1 h2=>?_) C2
   change rn_ (arr.toList.take sa++M++arr.toList.drop (sb+nb)) i n=_;unfold rn_;rw[dr i ox]
def jK (hc:Cmp prog w A s κ rk a₀) (h2:2<=a₀.size) (h:∀O,(arrOf O).toList.Perm a₀.toList->failedOf O=none->upL rk (arrOf O).toList->Q () O):wpS (model prog w) A E s sortRuns' Q (sS κ a₀ #[] 7):=by
 refine wpS_bind (wpS_get ?_);dsimp only;generalize (sortPriv% PySem.Builtin.minRun) a₀.size a₀.size 0=mr
 have same:∀{L L':List Keyed}{i n:Nat},L'.drop i=L.drop i->rn_ L' i n=rn_ L i n:=λe=>by unfold rn_;rw[e]
 refine wpS_bind (wpS_mono (wpS_forRange (λx c O=>∃arr pd g lo,O=sS κ arr pd g/\c=(none,lo)/\arr.toList.Perm a₀.toList/\Chn rk arr.toList pd.toList 0 lo/\lo<=a₀.size/\x<=lo)
  (Q:=λc O=>∃arr pd g lo,O=sS κ arr pd g/\c=(none,lo)/\arr.toList.Perm a₀.toList/\Chn rk arr.toList pd.toList 0 a₀.size) ?step ?fin ⟨a₀,#[],7,0,rfl,rfl,.refl _,rfl,ox,ox⟩) ?post)
 case fin=>
  rintro c O ⟨arr,pd,g,lo,rfl,rfl,hp,C,h1,h2⟩
  have:lo=a₀.size:=ox
  subst this;show ⟨arr,pd,g,_,rfl,rfl,hp,C⟩
 case step=>
  rintro x c O _ hx ⟨arr,pd,g,lo,rfl,rfl,hp,C,h1,h2⟩;dsimp only;by_cases cl:lo≥a₀.size
  .rw [qA2 cl]
   have:lo=a₀.size:=ox
   subst this;show wpS_pure ⟨arr,pd,g,_,rfl,rfl,hp,C⟩
  rw[qA4 cl];have zz:arr.size=a₀.size:=by have:=hp.length_eq;simpa using this
  have c0:∀x∈arr.toList,x∈a₀:=λx hx=>by have:=hp.mem_iff.mp hx;simpa using this
  refine wpS_bind (qN hc c0 ox ox λn b0 r1 n1 n2 u1=>?_);dsimp only;have key:∀(n:Nat) (a3:Array Keyed),Rl lo arr a3->0<n->lo+n<=a₀.size->upA rk a3 lo n->a3.toList.Perm a₀.toList/\Chn rk a3.toList pd.toList 0 lo/\upL rk (rn_ a3.toList lo n):=λn a3 r2 hn hz u=>by
   refine ⟨r2.perm.trans hp,dQ (λi m _ hm=>?_) C,?_⟩
   .unfold rn_;apply qN0;intro k;by_cases ck:k<m
    .rw[qH1 ck,qH1 ck,qI4,qI4,qG9,qG9,r2.same _ ox]
    .rw[qQ4 ox,qQ4 ox]
   .unfold upL;rw[qP2];intro i j hi hj cn;have z2:=r2.size;simp at hi hj
    have:=u i j ox ox
    rw[t6 (rk:=rk) (x:=(rn_ a3.toList lo n)[i]) (by rw[<- bu (n:=n) ox];show qB4 _),t6 (rk:=rk) (x:=(rn_ a3.toList lo n)[j]) (by rw[<- bu (n:=n) ox];show qB4 _)]at this;show this
  by_cases cm:n<mr
  case' pos=>
   rw[qA2 cm];refine wpS_bind (wpS_lift (qP5 ⟨rfl,?_⟩));have z1:=r1.size;have fz:lo+min (a₀.size-lo) mr<=a₀.size:=qB1 (qE6 (qL4 _ _) lo) (qJ1 (qE1 h1));have fp:0<min (a₀.size-lo) mr:=Nat.lt_min.mpr ⟨qU7 (qN3 cl),qD9 (qD2 n) cm⟩;refine wpS_bind (yy hc (r1.mem c0) (n:=min (a₀.size-lo) mr) (Nat.le_min.mpr ⟨n2,qI6 cm⟩) (by rw[z1,zz];show fz) u1 λa3 r2 u2=>?_);have K:=key _ a3 (r1.trans r2) fp fz u2;have f0:0<min (a₀.size-lo) mr/\lo+min (a₀.size-lo) mr<=a₀.size:=⟨fp,fz⟩;clear fp fz;rw[qA4 QX];generalize min (a₀.size-lo) mr=m at K f0 ⊢
  case' neg=>
   rw[qA4 cm];have f0:0<n/\lo+n<=a₀.size:=⟨n1,qB1 (qE6 n2 lo) (qJ1 (qE1 h1))⟩;have K:=key n b0 r1 f0.1 f0.2 u1;obtain ⟨a3,ea⟩:∃o,o=b0:=⟨_,rfl⟩;obtain ⟨m,em⟩:∃o,o=n:=⟨_,rfl⟩;rw[<- ea,<- em]at K;rw[<- ea,<- em];rw[<- em]at f0
  all_goals
   obtain ⟨c5,C2,v2⟩:=K;refine wpS_bind (wpS_get ?_);dsimp only;cases hb:pd.back? with
   | none=>
    have pe:pd=#[]:=Array.back?_eq_none_iff.mp hb;subst pe;refine wpS_bind (wpS_modify (wpS_pure ⟨a3,#[].push (lo,m,0),g,lo+m,rfl,rfl,c5,?_,f0.2,ox⟩));have C2:0=lo:=C2;subst C2;show ⟨rfl,f0.1,v2,rfl⟩
   | some r=>
    obtain ⟨s1,n1,p0⟩:=r;dsimp only;have ab:∀{a:Array Keyed},a.toList.Perm a₀.toList->a.size=a₀.size:=λq=>by have:=q.length_eq;simpa using this
    have a8:∀{a:Array Keyed},a.toList.Perm a₀.toList->∀x∈a.toList,x∈a₀:=λq x hx=>by have:=q.mem_iff.mp hx;simpa using this
    refine wpS_bind (wpS_mono (wpS_forRange (λx c O=>∃arr pd g,O=sS κ arr pd g/\c=(none,())/\arr.toList.Perm a₀.toList/\Chn rk arr.toList pd.toList 0 lo/\upL rk (rn_ arr.toList lo m))
     (Q:=λc O=>∃arr pd g,O=sS κ arr pd g/\c=(none,())/\arr.toList.Perm a₀.toList/\Chn rk arr.toList pd.toList 0 lo/\upL rk (rn_ arr.toList lo m)) ?mstep ?mfin ⟨a3,pd,g,rfl,rfl,c5,C2,v2⟩) ?mpost)
    case mfin=>
     rintro c O q;show q
    case mstep=>
     rintro y c O _ hy ⟨a6,a4,g3,rfl,rfl,a5,C3,v3⟩;refine wpS_bind (wpS_get ?_);dsimp only;by_cases cs:a4.size>1
     .rw [qA2 cs]
      obtain ⟨⟨q1,q2,cc⟩,eo⟩:∃r,a4[a4.size-2]?=some r:=⟨a4[a4.size-2],QX⟩;rw[eo];dsimp only
      split
      .show wpS_pure ⟨a6,a4,g3,rfl,rfl,a5,C3,v3⟩
      .refine wpS_bind (uF hc (a8 a5) C3 (by rw[ab a5];omega) ox λa7 b5 g4 b3 bc cg b4=>?_);rw[qA4 QX];show wpS_pure ⟨a7,b5,g4,rfl,rfl,b3.trans a5,b4,by rw[same bc];show v3⟩
     .rw [qA4 cs]
      show wpS_pure ⟨a6,a4,g3,rfl,rfl,a5,C3,v3⟩
    case mpost=>
     rintro c O ⟨a6,a4,g3,rfl,rfl,a5,C3,v3⟩;dsimp only;refine wpS_bind (wpS_modify (wpS_bind (wpS_modify (wpS_pure ⟨a6,_,g3,lo+m,rfl,rfl,a5,?_,f0.2,ox⟩))));rw[qH5,Array.toList_modify];show chn_app.mpr ⟨lo,lL C3,rfl,f0.1,v3,rfl⟩
 case post=>
  rintro c O ⟨arr,pd,g,lo,rfl,rfl,hp,C⟩;dsimp only;have ab:∀{a:Array Keyed},a.toList.Perm a₀.toList->a.size=a₀.size:=λq=>by have:=q.length_eq;simpa using this
  have a8:∀{a:Array Keyed},a.toList.Perm a₀.toList->∀x∈a.toList,x∈a₀:=λq x hx=>by have:=q.mem_iff.mp hx;simpa using this
  have cj:=bg C;rw[qC7]at cj;refine wpS_bind (wpS_mono (wpS_forRange (λx c O=>∃arr pd g,O=sS κ arr pd g/\c=(none,())/\arr.toList.Perm a₀.toList/\Chn rk arr.toList pd.toList 0 a₀.size/\(pd.size<=1\/pd.size+x<=a₀.size))
   (Q:=λc O=>∃arr pd g,O=sS κ arr pd g/\c=(none,())/\arr.toList.Perm a₀.toList/\Chn rk arr.toList pd.toList 0 a₀.size/\pd.size<=1) ?lstep ?lfin ⟨arr,pd,g,rfl,rfl,hp,C,.inr ox⟩) ?lpost)
  case lfin=>
   rintro c O ⟨arr,pd,g,rfl,rfl,hp,C,hs⟩;show ⟨arr,pd,g,rfl,rfl,hp,C,ox⟩
  case lstep=>
   rintro x c O _ hx ⟨arr,pd,g,rfl,rfl,hp,C,hs⟩;refine wpS_bind (wpS_get ?_);dsimp only;by_cases cs:pd.size<=1
   .rw [qA2 cs]
    show wpS_pure ⟨arr,pd,g,rfl,rfl,hp,C,cs⟩
   rw[qA4 cs];refine wpS_bind (uF hc (a8 hp) C (by rw[ab hp];omega) ?_ λa7 b5 g4 b3 bc cg b4=>?_)
   .repeat' split
    all_goals omega
   rw[qA4 QX];show wpS_pure ⟨a7,b5,g4,rfl,rfl,b3.trans hp,b4,.inr ox⟩
  case lpost=>
   rintro c O ⟨arr,pd,g,rfl,rfl,hp,C,hs⟩;dsimp only;have hl:pd.toList.length<=1:=by rw[qC7];show hs
   refine wpS_pure (h _ hp rfl ?_)
   change upL rk arr.toList
   match hpd:pd.toList,hl,C with
   | [],_,C => 
    have C:0=a₀.size:=C;omega
   | [r],_,C=>
    obtain ⟨c1,c2,c3,c4⟩:=C;have c4:0+r.2.1=a₀.size:=c4;have e:rn_ arr.toList 0 r.2.1=arr.toList:=by
     unfold rn_;rw[List.drop_zero,qL6 (by rw[qC7,ab hp];omega)]
    rw[e]at c3;show c3
   |_::_::_,hl,_=>simp at hl
end TP
namespace TP
open PySem L2
def sd {α O:Type}{f:α->O}{m l':List O}(h:m.Perm l'):∀l:List α,l'=l.map f->∃o:List α,o.Perm l/\m=o.map f:=by
 induction h with
 |nil=>intro l e;show ⟨l,.refl _,e⟩
 | cons x _ ih=>
  intro l e;cases l with
  |nil=>cases e
  | cons a l=>
   rw[qC0]at e;obtain ⟨e1,e2⟩:=List.cons.inj e;obtain ⟨o,h1,h2⟩:=ih l e2;show ⟨a::o,h1.cons a,by rw[qC0,e1,h2]⟩
 | swap x y l0=>
  intro l e;cases l with
  |nil=>cases e
  | cons a l=>
   rw[qC0]at e;obtain ⟨e1,e2⟩:=List.cons.inj e;cases l with
   |nil=>cases e2
   | cons b l=>
    rw[qC0]at e2;obtain ⟨e3,e4⟩:=List.cons.inj e2;show ⟨b::a::l,.swap ..,by rw[qC0,qC0,e1,e3,e4]⟩
 | trans _ _ q L=>
  intro l e;obtain ⟨o2,p2,e2⟩:=L l e;obtain ⟨o1,p1,e1⟩:=q o2 e2;show ⟨o1,p1.trans p2,e1⟩
def gP:∀{xs q:Jg}{its:Jw},Vals (xs.map V.int) its->Vals (q.map V.int) its->xs=q
 | [],[],_,_,_=>rfl
 | [],y::q,_,h,h'=>by cases h;cases h'
 |x::xs,[],_,h,h'=>by cases h';cases h
 | x::xs,y::q,_,h,h'=>by
  cases h with
  | cons r t=>
   cases h' with
   | cons L t'=>
    obtain ⟨k,rfl⟩:=r;obtain ⟨k',e⟩:=L;cases e;rw[gP t t']
section
open PySem.W PyProof.Rows
def TupI.uniq (p:TupI h v xs) (q:TupI h v ys):xs=ys:=by
 obtain ⟨a,o,its,m,e,ho,_,hd,rv⟩:=p;obtain ⟨b,o2,a3,m2,e2,O,_,L,a4⟩:=q;rw[e]at e2;cases e2;rw[ho]at O;cases O;rw[hd]at L
 have:its=a3:=by injection L with q1 _;simpa using q1
 subst this;show gP rv a4
open Classical in
def rkV (vs:Jw)(ss:Jo)(p:Keyed):Int:=if h:∃i,i<vs.length/\vs.getD i Value.none=p.1 then R6 ss h.choose else 0
def da (O:Paired (λv xs=>TupI h v xs/\xs ≠ []) vs ss) (hi:i<vs.length):rkV vs ss (vs.getD i Value.none,u)=R6 ss i:=by
 have q:∃j,j<vs.length/\vs.getD j Value.none=vs.getD i Value.none:=⟨i,hi,rfl⟩;unfold rkV;rw[dif_pos q];obtain ⟨c1,L⟩:=q.choose_spec;generalize q.choose=j at c1 L
 obtain ⟨x,ex,tx⟩:=G0 (d:=Value.none) O hi;obtain ⟨y,ey,ty⟩:=G0 (d:=Value.none) O c1;rw[L]at ty;have e:=TupI.uniq tx.1 ty.1;unfold R6;have e1:ss.getD i []=x:=by rw[qA1,ex];rfl
 have e2:ss.getD j []=y:=by rw[qA1,ey];rfl
 rw[e1,e2,e]
def N7 (ss:Jo)(o:JQ):Prop:=o.Perm (List.range ss.length)/\o.map (λi=>ss.getD i [])=F8 ss
def oX (L:o.Perm (List.range ss.length)) (hu:o.Pairwise λi j=>R6 ss i<=R6 ss j):N7 ss o:=by
 refine ⟨L,?_⟩;refine List.Perm.eq_of_pairwise (le:=λa b=>lexLt b a=false) (λa b _ _ x y=>bH _ _ y x) ?_ (kw ss) ?_
 .rw [qH3]
  refine qV7 (λ{i j} hi O q=>?_) hu;have hi:=qF0.mp (L.mem_iff.mp hi);have O:=qF0.mp (L.mem_iff.mp O);rw[<- kI O hi];show qN7 ox
 .have:=L.map λi=>ss.getD i []
  rw[oG]at this;show this.trans (au ss).symm
abbrev E4 {α:Type}(o:JQ)(d:α)(vs:List α):List α:=o.map λi=>vs.getD i d
def iA (h:N7 ss o) (d:α) (vs:List α):(E4 o d vs).length=ss.length:=by
 rw[qA7,h.1.length_eq,qE4]
def mj (ho:s.heap.get? a=some (seqObj "list" vs.toArray n)) (hl:vs.length=ss.length) (ab:ss.length<=1000) (ht:∀h':Heap,(∀b o,b≠a->s.heap.get? b=some o->h'.get? b=some o)->Paired (λv xs=>TupI h' v xs/\xs ≠ []) vs ss) (a4:∀o,N7 ss o->P (.done (.ret .none)) { s with heap:=sortedHeap s.heap a vs (E4 o Value.none vs).toArray }):wpAny (model prog w) A (Builtin.«list.sort» ⟨[.ref a],[]⟩) P E s:=by
 rw[list_sort_plain];have ha:=qB3 ho;refine qA0 (listItems_at ho rfl (qA0 (listUpdate_at ho rfl ?_ (by rw[qB8,qQ5];omega) (qD2 _))));obtain ⟨ep,hp⟩:∃ep,(s.heap.update a (Obj.mapSeq λ_=>(#[]:Jy))).get? a=some (seqObj "list" #[] ep):=⟨_,get?_update_seq ho λ_=>#[]⟩;refine qA0 (seqEpoch_at hp rfl (qA0 (qT5 (qA0 (wpAny_newList (qO3 ?_) (qD2 _))) (by change vs.length<=_;rw[qQ5];omega))));generalize hh:((s.heap.update a (Obj.mapSeq λ_=>(#[]:Jy))).push (seqObj "tuple" vs.toArray 0)).push (seqObj "list" #[] 0)=h6
 have O:h6.get? a=some (seqObj "list" #[] ep):=by rw[<- hh];show qA5 _ (qA5 _ hp)
 have a6:∀b o,b≠a->s.heap.get? b=some o->h6.get? b=some o:=λb o hb e=>by rw[<- hh];show qA5 _ (qA5 _ (by rw[Heap.get?_update_ne _ _ _ _ hb];show e))
 have jl:∀o,sortedHeap s.heap a vs (E4 o Value.none vs).toArray=h6.update a (Obj.mapSeq λ_=>(E4 o Value.none vs).toArray):=λo=>by rw[<- hh];rfl
 change wpAny (model prog w) A _ P E { s with heap:=h6 };dsimp only;have b0:vs.toArray.size=vs.length:=QX;have a5:∀o,N7 ss o->(E4 o Value.none vs).toArray.size<=sizeLine+1:=λo ok=>by rw[qB8,iA ok,qQ5];omega
 by_cases c2:vs.toArray.size<2
 .rw [qA2 c2,qA2 c2]
  refine qA0 (qN6 ?_);rw[StateT.run_pure];refine qA0 (qN6 ?_);dsimp only;have ok:N7 ss (List.range ss.length):=oX (.refl _) (by have e:ss.length=0\/ss.length=1:=ox;rcases e with e|e <;> rw[e] <;> simp)
  have eo:Array.map (λx=>x.snd) (arrOf (SortSt.mk' general' (vs.toArray.zip vs.toArray) #[] 7 none))=(E4 (List.range ss.length) Value.none vs).toArray:=by
   change Array.map (λx=>x.snd) (vs.toArray.zip vs.toArray)=_;apply qV6.mp;rw[Array.toList_map,Array.toList_zip,<- hl];apply qK5
   .simp
   .intro i h1 h2;simp at h1 h2;simp [h1]
  rw[eo];refine qA0 (seqEpoch_at O rfl (qA0 (listUpdate_at O rfl ?_ (qD2 _) (a5 _ ok))));simp only [bne_self_eq_false,qB9,qO0];have q:=a4 _ ok;rw[jl]at q;show qN6 q
 .rw [qA4 c2,qA4 c2]
  have tt:=ht h6 a6;obtain ⟨fs,kt,fl,fi⟩:=gU tt;refine qA0 (kat_kind (s:={ s with heap:=h6 }) (T:=.type "int") kt ox (λv hv=>?_) QV ?_)
  .obtain ⟨i,t,rfl⟩:=fi v hv;show Looks.of_pure rfl
  have hz:(vs.toArray.zip vs.toArray).toList=(List.range vs.length).map λi=>(vs.getD i Value.none,vs.getD i Value.none):=by
   rw[Array.toList_zip];apply qK5
   .simp
   .intro i h1 h2;simp at h1 h2;simp [h1]
  have a3:∀x∈vs.toArray.zip vs.toArray,∃i,i<vs.length/\x=(vs.getD i Value.none,vs.getD i Value.none):=λx hx=>by
   have:x∈(vs.toArray.zip vs.toArray).toList:=by simpa using hx
   rw[hz]at this;obtain ⟨i,hi,e⟩:=qA9.mp this;show ⟨i,qF0.mp hi,e.symm⟩
  have cm:Cmp prog w A { s with heap:=h6 } (tuples' (Value.type "int" != Value.type "tuple")) (rkV vs ss) (vs.toArray.zip vs.toArray):=λx hx y hy Q hQ=>by
   obtain ⟨i,hi,rfl⟩:=a3 x hx;obtain ⟨j,hj,rfl⟩:=a3 y hy;rw[da tt hi,da tt hj,kI ox ox]at hQ;obtain ⟨x,hx,tx⟩:=G0 (d:=Value.none) tt hi;obtain ⟨y,hy,ty⟩:=G0 (d:=Value.none) tt hj;have ex:ss.getD i []=x:=by rw[qA1,hx];rfl
   have ey:ss.getD j []=y:=by rw[qA1,hy];rfl
   rw[ex,ey]at hQ;show xj (s:={ s with heap:=h6 }) tx.1 ty.1 hQ
  refine qA0 (qQ1 (jK (E:=E) (Q:=λ_ L=>failedOf L=none/\∃o,N7 ss o/\(arrOf L).map (·.2)=(E4 o Value.none vs).toArray) cm (by simp at c2 ⊢;omega) λL p1 p2 p3=>⟨p2,?_⟩) ?_ λ_ _ e=>e)
  .rw [hz]at p1
   obtain ⟨o,o1,o2⟩:=sd p1 _ rfl;refine ⟨o,oX (by rw[<- hl];show o1) ?_,?_⟩
   .unfold upL at p3;rw[o2,qH3]at p3;refine qV7 (λ{i j} hi hj q=>?_) p3;have hi:=qF0.mp (o1.mem_iff.mp hi);have hj:=qF0.mp (o1.mem_iff.mp hj);rw[da tt hi,da tt hj]at q;show q
   .apply qV6.mp;rw[Array.toList_map,o2,qD7];rfl
  rintro ⟨⟨⟩,L⟩ s' ⟨rfl,a8,o,ok,a7⟩;dsimp only;rw[a7];refine qA0 (seqEpoch_at O rfl (qA0 (listUpdate_at O rfl ?_ (qD2 _) (a5 o ok))));rw[a8];simp only [bne_self_eq_false,qB9,qO0];have q:=a4 o ok;rw[jl]at q;show qN6 q
def gY (hL:s.heap.IsList l vs.toArray) (hl:vs.length=ss.length) (a3:ss.length<=1000) (ht:Paired (λv xs=>TupI s.heap v xs/\xs ≠ []) vs ss) (L:∀o,N7 ss o->Q (.ref (s.heap.objs.size+1)) { s with heap:=sortedAll s.heap vs (E4 o Value.none vs).toArray }):wpAny (model prog w) A (call (.builtin "sorted") [.ref l]) Q E s:=by
 refine Calls.call_function_entry kind_sorted plain_sorted entry_sorted (args_sorted1 _) ?_;unfold Builtin.«sorted»;refine qA0 (m:=checkCount "sorted" 1 1 _) (qN6 (qA0 (collect_list hL (qA0 (wpAny_newList ?_ (by rw[qQ5];omega))) (by rw[qQ5];omega))));generalize hg:(s.heap.push (seqObj "list" #[] 0)).update s.heap.objs.size (Obj.mapSeq (·++vs.toArray))=g
 have gz:g.objs.size=s.heap.objs.size+1:=by rw[<- hg,Heap.size_update,size_push']
 have gk:∀b o,s.heap.get? b=some o->g.get? b=some o:=λb o e=>by
  have O:=qB3 e;rw[<- hg,Heap.get?_update_ne _ _ _ _ (qC8 O)];show qA5 _ e
 have go:(g.push (seqObj "list" vs.toArray 0)).get? (s.heap.objs.size+1)=some (seqObj "list" vs.toArray 0):=by rw[<- gz];show qC2 _ rfl
 have ea:∀o,sortedAll s.heap vs (E4 o Value.none vs).toArray=sortedHeap (g.push (seqObj "list" vs.toArray 0)) (s.heap.objs.size+1) vs (E4 o Value.none vs).toArray:=λo=>by rw[<- hg];rfl
 change wpAny _ _ _ _ _ { s with heap:=g.push (seqObj "list" vs.toArray 0) };rw[gz];refine qA0 (qO3 (qQ2 slot_list_sort ⟨_,go,rfl⟩ entry_list_sort (mj go hl a3 (λh' hk=>?_) λo ok=>⟨_,rfl,qN6 ⟨_,rfl,by have q:=L o ok;rw[ea]at q;show q⟩⟩) (args_list_sort _)));refine Paired.mapP ht λv xs hv=>⟨?_,hv.2⟩;obtain ⟨a,o,its,m,rfl,h1,h2,h3,h4⟩:=hv.1;show ⟨a,o,its,m,rfl,hk a o (qC8 (qL8 (qB3 h1))) (qA5 _ (gk a o h1)),h2,h3,h4⟩
end
def nK (ok:N7 ss o) (r:Vals ys its) (hl:ys.length=ss.length):Vals (E4 o V.non ys) (E4 o Value.none its):=R8 λi hi=>by
 have L:i<ys.length:=by have:=ok.1.mem_iff.mp hi;rw[qF0]at this;omega
 obtain ⟨u,e,q⟩:=G0 (d:=V.non) r L;rw[show its.getD i Value.none=u by rw[qA1,e];rfl];show q
def nk (hK:X.K=K:=by rfl):B0 X (.builtin "sorted") (λxs H Q=>∃p L ss,xs = [.ref p]/\SqL K H p L/\Paired (λv zs=>(∃a,v=.ref a/\SqT K H a (zs.map V.int))/\zs ≠ []) L ss/\ss.length<=1000/\∀l o,N7 ss o->H l=none->Q (.ref l) (upd H l (.lst (E4 o V.non L)))):=by
 subst hK;intro pins s σ H xs us Q I r h;obtain ⟨p,L,ss,rfl,hq,ht,O,q⟩:=h;obtain ⟨u,rfl,ru⟩:=K4 r;cases ru;obtain ⟨its,rv,pl,hz⟩:=I.list hq;have hlen:=rv.length;have a7:L.length=ss.length:=Paired.length ht;have tt:Paired (λv xs=>TupI s.heap v xs/\xs ≠ []) its ss:=bP rv ht λv u zs r1 r2=>by
  obtain ⟨⟨a,rfl,hs⟩,a6⟩:=r2;cases r1;obtain ⟨a4,a5,⟨o,e,c,k,dd⟩,_⟩:=I.tuple hs;show ⟨⟨a,o,a4,k,rfl,e,c,dd,a5⟩,a6⟩
 refine gY pl.isList ox O tt λo ok=>?_;obtain ⟨e,he⟩:=PyProof.Rows.sortedAll_at s.heap its (E4 o Value.none its).toArray;have a3:s.heap.objs.size<=s.heap.objs.size+1:=Nat.le_succ _;refine ⟨.ref (s.heap.objs.size+1),_,I.laid (t':=s.toks) (λb o q=>PyProof.Rows.sortedAll_old q) a3 (show ObjOk X.prog X.w _ _ _ (.lst (E4 o V.non L)) from ⟨by rw[iA ok];show qB1 O QV,E4 o Value.none its,e,nK ok rv ox,he⟩),rfl,q _ o ok (I.hok.fresh a3)⟩
def fSortA:List W->R W
 | [w]=>match lstOf w with
  | some ws=>match R3 ws with
   |some ss=>if ss.length<=1000/\ss.all (λx=>!x.isEmpty)=true then .ok (.lst ((F8 ss).map λx=>W.tup (x.map W.int))) else .stuck
   |none=>.stuck
  |none=>.stuck
 |_=>.stuck
def oE (ok:N7 ss o) (r:Reps K F ys (ss.map λx=>W.tup (x.map W.int))):Reps K F (E4 o V.non ys) ((F8 ss).map λx=>W.tup (x.map W.int)):=by
 have hl:=r.length;rw[qA7]at hl;rw[<- ok.2,qD7];refine io λi hi=>?_;have L:i<ss.length:=by have:=ok.1.mem_iff.mp hi;rwa [qF0]at this
 obtain ⟨w,e,q⟩:=kH (i:=i) r ox;rw[qC9]at e
 have:ss[i]?=some (ss.getD i []):=by rw[qA1];simp [L]
 rw[this]at e;cases e;show q
def yj:Cal K (cb c) .F (λxs H Q=>∃p L ss,xs = [.ref p]/\SqL K H p L/\Paired (λv zs=>(∃a,v=.ref a/\SqT K H a (zs.map V.int))/\zs ≠ []) L ss/\ss.length<=1000/\∀l o,N7 ss o->H l=none->Q (.ref l) (upd H l (.lst (E4 o V.non L)))) fSortA:=by
 intro EX H0 Hs G H ρ σ Ha vs ws Q I s m o;cases m with
 |nil=>show o.elim
 | cons a t=>
  cases t with
  |cons _ _=>show o.elim
  | nil=>
   rename_i w v
   unfold fSortA at o;cases hl:lstOf w with
   |none=>simp only [hl]at o;show o.elim
   | some us=>
    simp only [hl]at o;cases ht:R3 us with
    |none=>simp only [ht]at o;show o.elim
    | some ss=>
     simp only [ht]at o;by_cases hc:ss.length<=1000/\ss.all (λx=>!x.isEmpty)=true
     .rw [qA2 hc]at o
      obtain ⟨p,L,rfl,hs,r⟩:=Md.lstOf I a hl;rw[qT ht]at r;have O:∀x∈ss,x ≠ []:=λx hx=>by
       have:=qE7.mp hc.2 x hx
       intro e;subst e;simp at this
      have sm:Same (if c then G else join H0 G) H:=by
       cases c with
       |true=>rw[qA2 rfl];show I.gh
       |false=>rw[qA4 qA3];show I.join_H
      refine ⟨p,L,ss,rfl,hs,Paired.mapP (fE r O) λv zs h=>⟨?_,h.2⟩,hc.1,λl od ok=>Out.chks (EX:=EX) (c:=c) I s (oE ok r) ?_ l⟩
      .obtain ⟨b,e,q⟩:=h.1;show ⟨b,e,SqT.of (sm _ _ q)⟩
      .have e:TP.chks c ((F8 ss).map λx=>W.tup (x.map W.int))=.ok (.lst ((F8 ss).map λx=>W.tup (x.map W.int))):=by
        unfold TP.chks;rw[iM,qM1,qA2 rfl]
       rw[e];show o
     .rw[qA4 hc]at o;show o.elim
def spX (K:Frag) (n:Nat) (f:List W->R W):Sp:=λvs H Q E=>vs.length=n/\∃F ws,Same F H/\Reps K F vs ws/\match f ws with
 | .ok w=>∀v G' H',Same F G'->Same H H'->Same G' H'->(∀a o,H a=some o->isL o=true->F a=none->G' a=none)->Rep K G' v w->Q v H'
 | .ex e=>∀H',Same H H'->XE E e H'
 | .stuck=>False
def K5 (n N:Nat) (m:JV) (ws:JZ):R W:=if ws.length=n then (m (ws.map Sl.val++List.replicate (N-n) Sl.un)>>=λf=>match f with
 | .rt w=>.ok w
 | .nx _=>.ok .non
 |_=>.stuck) else .stuck
def ij (ws:JZ) (h:K5 n N m ws≠.stuck):ws.length=n:=by
 unfold K5 at h;by_cases e:ws.length=n
 .show e
 .rw[qA4 e]at h;show absurd rfl h
def less (H F:Hp):Hp:=λa=>match F a with
 |some _=>none
 |none=>H a
def jd (h:F a=none):less H F a=H a:=by unfold less;rw[h]
def jc (h:less H F a=some o):F a=none/\H a=some o:=by
 unfold less at h;cases q:F a with
 |none=>rw[q]at h;show ⟨rfl,h⟩
 |some u=>rw[q]at h;cases h
def fD (sF:Same F H) (L:Same (less H F) H') (O:Same F H'):Same H H':=λa o e=>by
 cases q:F a with
 |none=>show L a o (by rw[jd q];show e)
 | some u=>
  have:=sF a u q
  rw[e]at this;cases this;show O a o q
def AU (h:A8 H a=some o):H a=some o/\isL o=false:=by
 unfold A8 at h;cases q:H a with
 |none=>rw[q]at h;cases h
 | some u=>
  rw[q]at h;dsimp only at h;cases hl:isL u
  .rw[hl]at h;cases h;show ⟨rfl,hl⟩
  .rw[hl]at h;cases h
def nV:∀{vs:List V}{ws:JZ}{i:Nat}{x:Sl}{o:Option V}{k k':Nat},Reps K F vs ws->(ws.map Sl.val++List.replicate k Sl.un)[i]?=some x->(vs.map some++List.replicate k' none)[i]?=some o->x=.un\/∃v w,x=.val w/\o=some v/\Rep K F v w
 | _,_,i,x,o,k,k',.nil,h1,h2=>by
  simp only [qM0,qM6,qG2]at h1
  split at h1 <;> simp only [qG1,reduceCtorEq]at h1
  show .inl h1.symm
 | _,_,0,x,o,k,k',.cons r _,h1,h2=>by
  simp at h1 h2;show .inr ⟨_,_,h1.symm,h2.symm,r⟩
 | _,_,i+1,x,o,k,k',.cons _ t,h1,h2=>by
  simp only [qC0,qN5,qR3]at h1 h2;show nV t h1 h2
def PIv.beginX (sF:Same F H) (r:Reps K F vs ws) (hk:k=k'):PIv K (less H F) (both F (A8 H)) (ws.map Sl.val++List.replicate k Sl.un) (vs.map some++List.replicate k' none) H where
 g0 a o e l:=by
  obtain ⟨L,O⟩:=jc e;unfold both;rw[L];dsimp only;unfold A8;rw[O];dsimp only;rw[l];rfl
 gl a o e l:=by
  obtain ⟨L,O⟩:=jc e;unfold both;rw[L];dsimp only;unfold A8;rw[O];dsimp only;rw[l];rfl
 gh a o e:=by
  unfold both at e;cases q:F a with
  |none=>rw[q]at e;show (AU e).1
  |some u=>rw[q]at e;cases e;show sF a _ q
 hh a o e:=(jc e).2
 len:=by subst hk;simp [r.length]
 sl i x o L O:=by
  rcases nV r L O with rfl|⟨v,w,rfl,rfl,q⟩
  .trivial
  .show ⟨v,rfl,q.same λb u e=>by unfold both;rw[e]⟩
 ne i j us xs a hij L _ _ _:=by
  have:∀(i:Nat) (us:JZ),(ws.map Sl.val++List.replicate k Sl.un)[i]?≠some (Sl.own us):=λi us q=>by
   rw[List.getElem?_append]at q
   split at q
   .rw [qC9]at q
    cases hh:ws[i]? <;> rw[hh]at q <;> cases q
   .rw [qG2]at q
    split at q <;> cases q
  show absurd L (this i us)
def yf (h:spX K n (K5 n Nl.length m) vs H Q E):tSt K (λ_ _=>False) .V m { nx:=λ_ H'=>Q .non H',rt:=Q } (L2.start Nl vs) H:=by
 obtain ⟨hl,F,ws,sF,r,o⟩:=h;have hw:ws.length=n:=by rw[<- r.length];show hl
 unfold K5 at o;rw[qA2 hw]at o;have O:Same F (both F (A8 H)):=λb u e=>by unfold both;rw[e]
 refine ⟨less H F,both F (A8 H),_,PIv.beginX (k:=Nl.length-n) sF r (by rw[hl]),?_⟩
 revert o
 cases m (ws.map Sl.val++List.replicate (Nl.length-n) Sl.un) with
 |stuck=>show id
 |ex e=>show λo=>(o H (Same.refl H)).elim
 | ok f=>
  cases f with
  |nx a3=>show λo G' a4 H' s' L=>o .non G' H' (O.trans s') (fD sF L.hh ((O.trans s').trans L.gh)) L.gh (λa o e l q=>L.gl a o (by rw[jd q];show e) l) .non
  |rt w=>show λo v G' H' s0 s1 s2 c md=>o v G' H' (O.trans s0) (fD sF s2 ((O.trans s0).trans s1)) s1 (λa o e l q=>c a o (by rw[jd q];show e) l) md
  |bk _=>show λo=>o.elim
  |ct _=>show λo=>o.elim
def frzL:List Nat->Rho->Rho
 | [],ρ=>ρ
 |j::js,ρ=>frzL js (frz j ρ)
def PIv.frzL:∀{js:JQ}{G:Hp}{ρ:Rho},PIv K H0 G ρ σ H->∃G',Same G G'/\PIv K H0 G' (frzL js ρ) σ H
 | [],G,ρ,I=>⟨G,Same.refl G,I⟩
 | j::js,G,ρ,I=>by
  obtain ⟨G1,s1,L⟩:=I.frz (i:=j);obtain ⟨G2,s2,q⟩:=PIv.frzL (js:=js) L;show ⟨G2,s1.trans s2,q⟩
def cA (i:Nat)(js:JQ)(w:W)(ρ:Rho):Rho:=if noL w=true then ρ.set i (.val w) else (frzL js ρ).set i (.val w)
def sCX (i:Nat)(js:JQ)(f:List W->R W)(ma:JW):JV:=λρ=>ma (frzL js ρ)>>=λws=>f ws>>=λw=>.ok (.nx (cA i js w ρ))
def MdA.repsV:∀{ws:JZ}{vs:List V},MdA K .V H0 Hs G H ws vs->Reps K G vs ws
 |_,_,.nil=>.nil
 |_,_,.cons h t=>.cons h (MdA.repsV t)
def ye (hf:∀ws,f ws≠.stuck->ws.length=n) (hE:∀e H,EX e H->XE E e H) (h:tSt K EX d (sCX i js f ma) D σ H):
  V9 (gx (spX K n f) [] E (tA K EX .V ma)) (G8 i) D σ H:=by
 obtain ⟨H0,G,ρ,I,o⟩:=h;obtain ⟨G2,s2,I2⟩:=I.frzL (js:=js);refine ⟨H0,G2,frzL js ρ,I2,?_⟩;unfold sCX at o;cases O:ma (frzL js ρ) with
 |stuck=>rw[O]at o;show o.elim
 |ex e=>rw[O]at o;show λH' s=>o H' (I.hh.trans s)
 | ok ws=>
  rw[O,R.ok_bind]at o;intro xs G1 H1 e1 m1;have I1:=I2.ext e1;have r:=MdA.repsV m1;rw[qH6];refine ⟨?_,G1,ws,I1.gh,r,?_⟩
  .rw [r.length]
   refine hf ws λz=>?_;rw[z]at o;show o
  .revert o
   cases f ws with
   |stuck=>show id
   |ex e=>show λo H' s=>hE e H' (o H' (I1.hh.trans s))
   | ok w=>
    intro o v G' H' sG sH gH cl md;rw[R.ok_bind]at o;by_cases hn:noL w=true
    .have hs:cA i js w ρ=ρ.set i (.val w):=qA2 hn;rw[hs]at o;have L:Same H H':=e1.hh.trans sH;have rH:Rep K H' v w:=md.same gH;have sN:Same (A8 H') H':=AV K H';have sB:Same G (both G (A8 H')):=λb o q=>by unfold both;rw[q]
     have a3:Same (A8 H') (both G (A8 H')):=λb o q=>by
      unfold both;cases q1:G b with
      |none=>show q
      | some y=>
       have a1:=L b y (I.gh b y q1);rw[sN b o q]at a1;show a1.symm
     have a4:Same (both G (A8 H')) H':=λb o q=>by
      unfold both at q;cases q1:G b with
      |none=>rw[q1]at q;show sN b o q
      |some y=>rw[q1]at q;cases q;show L b _ (I.gh b _ q1)
     have ex:Ext G H (both G (A8 H')) H':=⟨sB,L,a4,λb o q l g=>by
      unfold both;rw[g];dsimp only;unfold A8;rw[L b o q];dsimp only;rw[qA2 l]⟩
     show o _ _ H' sB ((I.ext ex).setV ((Rep.ofNoL rH hn).same a3))
    .have hs:cA i js w ρ=(frzL js ρ).set i (.val w):=qA4 hn;rw[hs]at o;have ex:Ext G1 H1 G' H':=⟨sG,sH,gH,cl⟩;show o G' _ H' ((s2.trans e1.gg).trans sG) ((I1.ext ex).setV md)
def uk (hf:∀ws,f ws≠.stuck->ws.length=n) (L:∀e H,EX e H->XE E e H) (h:tM K EX .V (λρ=>ma ρ>>=λws=>f ws) σ H Q):
  gx (spX K n f) [] E (tA K EX .V ma) σ H Q:=by
 obtain ⟨H0,G,ρ,I,o⟩:=h;refine ⟨H0,G,ρ,I,Out.bind o λxs G1 H1 ws e1 m1 q=>?_⟩;have O:=I.ext e1;have r:=MdA.repsV m1;rw[qH6];refine ⟨?_,G1,ws,O.gh,r,?_⟩
 .rw [r.length]
  refine hf ws λz=>?_;rw[z]at q;show q
 .revert q
  cases f ws with
  |stuck=>show id
  |ex e=>show λq H' s=>L e H' (q H' s)
  |ok w=>show λq v G' H' sG sH gH cl md=>q v G' H' ⟨sG,sH,gH,cl⟩ md
def wl {X:Cx}{K:Frag}{e:Expr}{es:Jx}{pos:Pos}{mr:JW}{k:Nat}{f:Addr}{fd:FuncData}{ps:Jk}{x:Str}{p:Pos}{n N:Nat}{m:JV}(F:FnOk X.prog X.w X.K X.mg X.base CX0 k f fd ps (spX K n (K5 n N m))) (hr:Room k X.A) (hg:Gl X x) (hm:X.mg x=some (.ref f)) (hk:PySem.W.keepIn X.K (.ref f)=true) (hb:Binds X.K fd ps []) (ha:PA X (e::es) (tA K (λ_ _=>False) .V mr)) (O:(x == ("__debug__" : Str))=false:=by decide) (he:starEach (e::es) X.env=(false,eval e X.env)::starEach es X.env:=by rfl) (L:(backTo pos (starEach es X.env)).any (·.1)=false:=by rfl):
  PE X (.Call (.Name x p) (e::es) [] pos) (tM K (λ_ _=>False) .V (bA (K5 n N m) mr)):=
 (eK F hr hg hm hk hb .nil mB ha O he L).mono λ_ _ _ q=>uk (λws h=>ij ws h) (λ_ _ z=>z) q
def eJ {X:Cx}{K:Frag}{d:Mode}{e:Expr}{es:Jx}{pos:Pos}{mr:JW}{i k:Nat}{js:JQ}{y:Str}{pos':Pos}{f:Addr}{fd:FuncData}{ps:Jk}{x:Str}{p L:Pos}{n N:Nat}{m:JV}(hN:X.N.Nodup) (hi:X.N[i]?=some y) (hy:Loc X.env.scope y) (F:FnOk X.prog X.w X.K X.mg X.base CX0 k f fd ps (spX K n (K5 n N m))) (hr:Room k X.A) (hg:Gl X x) (hm:X.mg x=some (.ref f)) (hk:PySem.W.keepIn X.K (.ref f)=true) (hb:Binds X.K fd ps []) (ha:PA X (e::es) (tA K (λ_ _=>False) .V mr)) (a3:(x == ("__debug__" : Str))=false:=by decide) (he:starEach (e::es) X.env=(false,eval e X.env)::starEach es X.env:=by rfl) (O:(backTo L (starEach es X.env)).any (·.1)=false:=by rfl) (hs:swapsWith (.Call (.Name x p) (e::es) [] L) (some (.Name y pos')) pos.line X.env=pure false:=by rfl) (hf:X.fn y=true\/X.env.scope.names.lookup y=some .local:=by first|show .inl rfl|show .inr rfl|assumption):
  PS X (.Assign [.Name y pos'] (.Call (.Name x p) (e::es) [] L) pos) (tSt K (λ_ _=>False) d (sCX i js (K5 n N m) mr)):=
 (W8 hN hi hy (eK F hr hg hm hk hb .nil mB ha a3 he O) hs hf).mono λ_ _ _ q=>ye (λws h=>ij ws h) (λ_ _ z=>z) q
def cM (ρ:Rho):frzL [] ρ=ρ:=rfl
def aT (j:Nat)(js:JQ)(ρ:Rho):frzL (j::js) ρ=frzL js (frz j ρ):=rfl
def RcX (f:List W->R W) (i:Nat) (js:JQ) (ρ:Rho):R JZ->R Fl
 | .ok ws=>f ws>>=λw=>.ok (.nx (cA i js w ρ))
 | .ex e=>.ex e
 | .stuck=>.stuck
def ii (i:Nat) (js:JQ) (f:List W->R W) (ma:JW) (ρ:Rho):sCX i js f ma ρ=RcX f i js ρ (ma (frzL js ρ)):=by
 unfold sCX;cases ma (frzL js ρ) <;> rfl
def jH (f:List W->R W)(i:Nat)(js:JQ)(ρ:Rho)(ws:JZ):RcX f i js ρ (.ok ws)=(f ws>>=λw=>.ok (.nx (cA i js w ρ))):=rfl
def Fz (H:Hp):Prop:=∀a vs,H a≠some (.lst vs)
def OutN (K:Frag) (d:Mode) (q:Hp) (r:R Fl) (D:Ends):Prop:=match r with
 | .ok (.nx ρ)=>∀H0 G' L H',Same q H0->PIv K H0 G' ρ L H'->D.nx L H'
 | .ok (.rt w)=>∀v G' H',Same G' H'->Same q H'->(∀a o,q a=some o->isL o=true->G' a=none)->Md K q q G' H' v w d->D.rt v H'
 |_=>False
def tStN (K:Frag)(EX:EXT)(d:Mode)(m:JV):TS:=λD σ H=>∃q H0 G ρ,Fz q/\Same q H0/\PIv K H0 G ρ σ H/\OutN K d q (m ρ) D
end TP
namespace TP
open PySem L2
open PyProof.Rows (envOfC)
def XE1 (K:Frag)(E:XK):EXT:=λe H=>∀(C:Addr)(od:Option Addr),PySem.W.nsIn K mainGlobals e.cls=some (some (.ref C))->XD H od e.at_->E (.ref C) od H
def spR (K:Frag) (n:Nat) (d:Mode) (f:List W->R W):Sp:=λvs H Q E=>vs.length=n/\∃ws,Reps K H vs ws/\match f ws with
 | .ok w=>∀v G' H',Same H H'->Same G' H'->(∀a o,H a=some o->isL o=true->G' a=none)->Md K H H G' H' v w d->Q v H'
 | .ex e=>∀H',Same H H'->XE1 K E e H'
 | .stuck=>False
def calm (f:List W->R W):List W->R W:=λws=>match f ws with
 | .ok w=>.ok w
 |_=>.stuck
def flUn (j:Nat):Fl->R Fl
 | .nx ρ=>.ok (.nx (ρ.set j .un))
 | .bk ρ=>.ok (.bk (ρ.set j .un))
 | .ct ρ=>.ok (.ct (ρ.set j .un))
 | .rt w=>.ok (.rt w)
def mExc (c:Str)(j:Nat)(mb:JV)(e:XW)(ρ:Rho):R Fl:=if e.cls=c then mb (ρ.set j (.val (.exc e.cls e.at_)))>>=flUn j else .stuck
end TP
namespace TP
open PySem L2
def big8:Int:=2^2000
def vx (_ j:Int):Prop:=0<j/\j<big8
instance (i j:Int):Decidable (vx i j):=by unfold vx;infer_instance
def vw (_ j:Int):Prop:=j≠0/\j.natAbs<2^8999
instance (i j:Int):Decidable (vw i j):=by unfold vw;infer_instance
def vh (_ j:Int):Prop:=j≠0
instance (i j:Int):Decidable (vh i j):=by unfold vh;infer_instance
end TP
namespace HT
open PySem PySem.Spec PyProof.Rows PySem.W
end HT
namespace TP
open PySem L2
section
open PySem.W PyProof.Rows
end
def dB (i:Nat):JV:=λρ=>.ok (.nx (ρ.set i (.dic [])))
def yb (h:tSt K EX d (dB i) D σ H):V9 tDNewT (G8 i) D σ H:=by
 obtain ⟨H0,G,ρ,I,o⟩:=h;intro p L;have a3:G p=none:=by
  cases q:G p with
  |none=>rfl
  |some u=>rw[I.gh p u q]at L;cases L
 have O:H0 p=none:=by
  cases q:H0 p with
  |none=>rfl
  |some u=>rw[I.hh p u q]at L;cases L
 have su:Same H (upd H p (.dT [])):=λb u q=>by rw[c8 (d8 q L)];show q
 have x0:Ext G H G (upd H p (.dT [])):=⟨Same.refl G,su,I.gh.trans su,λ_ _ _ _ e=>e⟩;show o G _ _ (Same.refl _) (PIv.setD (I.ext x0) i7 a3 O rfl)
def mP:Option Sl->R W
 |some (.dic ks)=>.ok (.int (ks.length:Int))
 |_=>.stuck
def dM (i:Nat):JJ:=λρ=>mP ρ[i]?
abbrev rLenT:List V->Hp->VK->Prop:=λxs H Q=>∃p kvs,xs = [.ref p]/\H p=some (.dT kvs)/\Q (.int kvs.length) H
def Dl (h:tM K EX d (dM i) σ H Q):tCB rLenT (gu (S9 i) tNil) σ H Q:=by
 obtain ⟨H0,G,ρ,I,o⟩:=h;unfold dM mP at o
 split at o
 .rename_i ks e
  obtain ⟨a,kvs,es,ha,q,h0,hk⟩:=I.dic_at e;have hl:kvs.length=ks.length:=by have:=congrArg List.length hk;simpa using this
  refine ⟨_,es,a,kvs,rfl,ha,?_⟩;rw[hl];show o _ G H (Ext.refl I.gh) (Md.sca rfl (λ_=>.int) d)
 .show o.elim
def mO [DecidableEq kt]{knd:HeapKind prog w kt}(ha:(a == sysModules)=false) (hm:s.heap.DictOfH knd a xs) (hl:(xs.length:Int)<2^63) (q:Q (.int xs.length (s.toks+1)) { s with toks:=s.toks+1+1 }):wpAny (model prog w) A (call (.builtin "len") [.ref a]) Q E s:=by
 have g:MeetsIn prog w (Builtin.«dict.__len__» ⟨[.ref a],[]⟩) λ_ R s=>(∃xs,s.heap.DictOfH knd a xs/\R (.ok (.ret (.int xs.length s.toks))) { s with toks:=s.toks+1 }):=.of_wp λA R s L=>by
  obtain ⟨xs,⟨o,es,ep,O,_,h2,h3,_⟩,h⟩:=L
  change wpAny _ _ (dictSize a>>=_) _ _ _;unfold dictSize;refine qA0 (qA0 (wpAny_dictEntries O h2 (qN6 ?_)));refine qA0 (m:=Builtin.Dict.pendingCount a) (wpAny_pendingCount_other ha (wpAny_ret_mkInt ?_));rw[qK6,size_of_entries h3];show h
 refine Calls.call_function_entry kind_len plain_len entry_len (args_len1 _) ?_;unfold Builtin.«len»;refine qA0 (m:=oneArg "len" _) (qN6 (qA0 (m:=callSpecial? (.ref a) (Str.ofString "__len__")) (qO8 (name:=Str.ofString "__len__") hm.typeIs F.slot_dict_len
  (call_meetsIn F.slot_dict_len hm.typeIs F.entry_dict_len (F.args_dict_len_1 _) g ⟨xs,hm,?_⟩))))
 change wpAny _ _ _ _ _ { s with toks:=s.toks+1 };refine qA0 (qO3 (qN6 (qA0 (wpAny_letGo ?_))))
 change wpAny _ _ (if ((xs.length:Nat):Int)<0 then _ else if ((xs.length:Nat):Int)≥2^63 then _ else _) _ _ _;rw[qA4 ox,qA4 ox];show qA0 (wpAny_mkInt (qN6 ⟨_,rfl,q⟩))
def jX:B0 X (.builtin "len") rLenT:=by
 intro pins s σ H xs us Q I r h;obtain ⟨p,kvs,rfl,O,q⟩:=h;obtain ⟨u,rfl,rx⟩:=vals1 r;cases rx;obtain ⟨z,hd,vs,L,dd⟩:=mZ I.hok O;refine mO hd dd (by rw[<- L.length];rw[qQ5]at z;omega) ?_;rw[<- L.length];show ⟨.int kvs.length,_,I.tok _,⟨_,rfl⟩,q⟩
def wj {X:Cx}{K:Frag}{EX:EXT}{d:Mode}{pos:Pos}{i:Nat}{x:Str}{pos' pos2:Pos}(L:X.N.Nodup) (hi:X.N[i]?=some x) (O:Loc X.env.scope x) (hs:swapsWith (.Dict [] [] pos) (some (.Name x pos')) pos2.line X.env=pure false:=by rfl) (hf:X.fn x=true\/X.env.scope.names.lookup x=some .local:=by first|show Or.inl rfl|show Or.inr rfl):
  PS X (.Assign [.Name x pos'] (.Dict [] [] pos) pos2) (tSt K EX d (dB i)):=(W8 L hi O sh hs hf).mono λ_ _ _ q=>yb q
def Al {X:Cx}{K:Frag}{EX:EXT}{d:Mode}{pos:Pos}{i:Nat}{x:Str}{p p2:Pos}(hg:Gl X "len") (hm:X.mg "len" = none) (hN:X.N[i]?=some x) (hv:Vis X.env.scope x) (hd:(x == ("__debug__" : Str))=false:=by decide) (O:(x == ("__classdict__" : Str))=false:=by decide) (he:starEach [.Name x p] X.env=(false,eval (.Name x p) X.env)::starEach [] X.env:=by rfl) (L:(backTo pos (starEach [] X.env)).any (·.1)=false:=by rfl):
  PE X (.Call (.Name "len" p2) [.Name x p] [] pos) (tM K EX d (dM i)):=
 (iy jX hg hm qC4 (bz (Q2 hN hv hd O) pa_nil he) QV QV he L).mono λ_ _ _ q=>Dl q
def fN (i:Nat)(ρ:Rho):dB i ρ=.ok (.nx (ρ.set i (.dic []))):=rfl
def jr (i:Nat)(ρ:Rho):dM i ρ=mP ρ[i]?:=rfl
def lf (ks:Jo):mP (some (.dic ks))=.ok (.int (ks.length:Int)):=rfl
end TP
namespace L2
open PySem PySem.Spec PyProof.Rows
end L2
namespace TP
open PySem L2
end TP
namespace L2
open PySem PySem.Spec PyProof.Rows
end L2
namespace TP
open PySem L2
end TP
namespace TP.ST
open PySem PySem.SetTable
structure Tb (t:SetTable):Prop where
 m:t.mask=7\/t.mask=31
 d:t.dummies=#[]
 f:t.place.size<=t.mask
def gZ {t:SetTable}(h:t.dummies=#[]) (j:Nat):(t.slot j=.empty)\/∃i,t.slot j=.live i/\t.place[i]?=some j:=by
 unfold SetTable.slot;dsimp only
 split
 .rename_i q
  show .inr ⟨_,rfl,by simpa using q⟩
 .rw [h]
  refine .inl (qA4 ?_);unfold SetTable.has;simp
def nW {t:SetTable}(h:t.dummies=#[]) (L:j∉t.place.toList):t.slot j=.empty:=by
 rcases gZ h j with q|⟨i,_,q⟩
 .show q
 .show absurd (by rw[<- qG9]at q;show qF6 q) L
def ix:∀(n:Nat) (l:JQ),l.length<n->∃j,j<n/\j∉l
 |0,l,h=>absurd h (qE0 _)
 | n+1,l,h=>by
  by_cases hn:n∈l
  .have hl:(l.erase n).length<n:=by rw[qV8 hn];have:=List.length_pos_of_mem hn;omega
   obtain ⟨j,O,L⟩:=ix n (l.erase n) hl;show ⟨j,ox,λq=>L ((List.mem_erase_of_ne ox).mpr q)⟩
  .show ⟨n,ox,hn⟩
def wk (t:SetTable) (h:Int):Nat->Probe
 |0=>t.probeStart h
 |n+1=>t.advance (wk t h n)
def cq (t:SetTable) (h:Int):∀n,(wk t h n).dummy=none
 |0=>rfl
 | n+1=>by
  change (t.advance (wk t h n)).dummy=none;unfold SetTable.advance
  split
  .show cq t h n
  .show cq t h n
def lp (mask:Nat) (h:Int):Nat->Nat×Nat
 |0=>(bits h%(mask+1),bits h)
 |n+1=>leap mask (lp mask h n).1 (lp mask h n).2
def jE (mask:Nat)(p:Probe)(x:Nat×Nat):Prop:=p.j=x.1/\p.more=runEnd mask x.1-x.1/\p.i=x.1/\p.perturb=x.2
def rB {mask:Nat}:runEnd mask i-i<=9:=by unfold runEnd;split <;> omega
def nI (t:SetTable) (h:Int) (q:jE t.mask (wk t h n) x):∀k,k<=runEnd t.mask x.1-x.1->(wk t h (n+k)).more=runEnd t.mask x.1-x.1-k/\(wk t h (n+k)).i=x.1/\(wk t h (n+k)).perturb=x.2
 |0,_=>⟨q.2.1,q.2.2.1,q.2.2.2⟩
 | k+1,hk=>by
  obtain ⟨h1,L,O⟩:=nI t h q k ox;have e:wk t h (n+(k+1))=t.advance (wk t h (n+k)):=rfl;rw[e];unfold SetTable.advance;rw[qA2 ox];show ⟨by change (wk t h (n+k)).more-1=_;omega,L,O⟩
def jZ (t:SetTable) (h:Int):∀m,∃n,n<=10*m/\jE t.mask (wk t h n) (lp t.mask h m)
 |0=>⟨0,qB5 _,rfl,rfl,rfl,rfl⟩
 | m+1=>by
  obtain ⟨n,hn,q⟩:=jZ t h m;have hr:=rB (mask:=t.mask) (i:=(lp t.mask h m).1);obtain ⟨L,O,h3⟩:=nI t h q (runEnd t.mask (lp t.mask h m).1-(lp t.mask h m).1) (qB5 _);refine ⟨n+(runEnd t.mask (lp t.mask h m).1-(lp t.mask h m).1)+1,ox,?_⟩;have e:wk t h (n+(runEnd t.mask (lp t.mask h m).1-(lp t.mask h m).1)+1)=t.advance (wk t h (n+(runEnd t.mask (lp t.mask h m).1-(lp t.mask h m).1))):=rfl;rw[e];unfold SetTable.advance;rw[qA4 (by rw[L];omega),O,h3];show ⟨rfl,rfl,rfl,rfl⟩
def wk7 (t:SetTable) (h:Int) (hm:t.mask=7):∀m,jE t.mask (wk t h m) (lp t.mask h m)
 |0=>⟨rfl,rfl,rfl,rfl⟩
 | m+1=>by
  have q:=wk7 t h hm m;have e:wk t h (m+1)=t.advance (wk t h m):=rfl;have L:runEnd t.mask (lp t.mask h m).1-(lp t.mask h m).1=0:=by unfold runEnd;rw[qA4 ox];omega
  rw[e];unfold SetTable.advance;rw[qA4 (by rw[q.2.1,L];omega),q.2.2.1,q.2.2.2];show ⟨rfl,rfl,rfl,rfl⟩
def dC (mask:Nat) (h:Int):∀m,(lp mask h m).2=bits h/32^m
 |0=>by change bits h=_;rw[Nat.pow_zero,Nat.div_one]
 | m+1=>by
  change (lp mask h m).2/32=_;rw[dC mask h m,Nat.div_div_eq_div_mul,Nat.pow_succ]
def yh (h:Int):bits h<2^64:=by
 unfold bits;have h0:=qM7 h (show (2^64:Int)≠0 by decide);have q:=qL5 h (show (0:Int)<2^64 by decide);omega
def Ey (mask:Nat) (h:Int) (hm:13<=m):(lp mask h m).2=0:=by
 rw[dC];have q:=yh h;have L:(32:Nat)^13<=32^m:=Nat.pow_le_pow_right QV hm;show Nat.div_eq_of_lt (qB0 (Nat.lt_trans q QV) L)
def fx (mask i:Nat):Nat:=(i*5+1)%(mask+1)
def fxn (mask:Nat):Nat->Nat->Nat
 |0,i=>i
 |n+1,i=>fx mask (fxn mask n i)
def mM (mask:Nat) (h:Int):∀k,(lp mask h (12+k)).1=fxn mask k (lp mask h 12).1
 |0=>rfl
 | k+1=>by
  change (leap mask (lp mask h (12+k)).1 (lp mask h (12+k)).2).1=fx mask (fxn mask k (lp mask h 12).1);have e:(lp mask h (12+k)).2/32=0:=Ey mask h (m:=12+k+1) ox;unfold leap fx;dsimp only;rw[e,mM mask h k,qK6]
def Ez (mask:Nat) (h:Int):∀m,(lp mask h m).1<mask+1
 |0=>Nat.mod_lt _ ox
 |m+1=>Nat.mod_lt _ ox
def EE:∀i,i<8->∀j,j<8->∃k,k<8/\fxn 7 k i=j:=Zo
def BX:∀i,i<32->∀j,j<32->∃k,k<32/\fxn 31 k i=j:=Zo
def pG {mask:Nat}(hm:mask=7\/mask=31) (h:Int) (q:j<mask+1):∃m,m<=12+mask/\(lp mask h m).1=j:=by
 have hl:=Ez mask h 12;rcases hm with rfl|rfl
 .obtain ⟨k,hk,e⟩:=EE _ hl j q;show ⟨12+k,ox,by rw[mM,e]⟩
 .obtain ⟨k,hk,e⟩:=BX _ hl j q;show ⟨12+k,ox,by rw[mM,e]⟩
def yA (hm:t.mask=7\/t.mask=31) (h:Int) (L:j<t.mask+1):∃n,n<10*turns t.mask/\(wk t h n).j=j:=by
 obtain ⟨m,O,e⟩:=pG hm h L;rcases hm with h7|h31
 .refine ⟨m,by unfold turns;omega,?_⟩;rw[(wk7 t h h7 m).1];show e
 .obtain ⟨n,hn,q⟩:=jZ t h m;show ⟨n,by unfold turns;omega,by rw[q.1];show e⟩
def jV (T:Tb t) (h:Int):∃N,N<10*turns t.mask/\t.slot (wk t h N).j=.empty/\∀n,n<N->t.slot (wk t h n).j≠.empty:=by
 obtain ⟨j,hj,L⟩:=ix (t.mask+1) t.place.toList (by rw[qC7];have:=T.f;omega);obtain ⟨n,hn,e⟩:=yA T.m h hj;have hs:t.slot (wk t h n).j=.empty:=by rw[e];show nW T.d L
 clear e L hj
 induction n using Nat.strongRecOn with
 | _ n ih=>
  by_cases q:∃m,m<n/\t.slot (wk t h m).j=.empty
  .obtain ⟨m,hm,O⟩:=q;show ih m hm ox O
  .show ⟨n,hn,hs,λm hm z=>q ⟨m,hm,z⟩⟩
def lq (T:Tb t) (hashAt:Nat->Int) (h:Int) (L:t.slot (wk t h N).j=.empty) (hb:∀n,n<N->t.slot (wk t h n).j≠.empty):∀(d n fuel:Nat),N=n+d->d<fuel ->
  probe.go t hashAt h fuel (wk t h n)=some (.empty (wk t h N).j none)\/∃m i,n<=m/\m<N/\t.slot (wk t h m).j=.live i/\i<t.place.size/\hashAt i=h/\probe.go t hashAt h fuel (wk t h n)=some (.candidate (wk t h m).j i (wk t h (m+1)))
 | 0,n,fuel,e,hf=>by
  obtain ⟨f,rfl⟩:∃f,fuel=f+1:=⟨fuel-1,ox⟩;have e:N=n:=e;subst e;refine .inl ?_;unfold probe.go;rw[L,cq]
 | d+1,n,fuel,e,hf=>by
  obtain ⟨f,rfl⟩:∃f,fuel=f+1:=⟨fuel-1,ox⟩;rcases gZ T.d (wk t h n).j with q|⟨i,q,qi⟩
  .show absurd q (hb n ox)
  .have hi:i<t.place.size:=by
    rw[<- qG9]at qi
    have:=(qA8.mp qi).1
    rw[qC7]at this;show this
   unfold probe.go;rw[q];dsimp only;by_cases hh:hashAt i=h
   .rw [qA2 (by simpa using hh)]
    show .inr ⟨n,i,qB5 _,ox,q,hi,hh,rfl⟩
   .rw [qA4 (by simpa using hh)]
    rcases lq T hashAt h L hb d (n+1) f ox ox with r|⟨m,i',a,b,c⟩
    .show .inl r
    .show .inr ⟨m,i',ox,b,c⟩
def fV (hs:owner.size=32) (O:j<32) (L:owner.getD j (some 0)=none):∀(d m fuel:Nat),(lp 31 h (m+d)).1=j->d<fuel->∃k,layClean.free 31 owner fuel (lp 31 h m).1 (lp 31 h m).2=some k/\owner.getD k (some 0)=none
 | d,m,fuel,e,hd=>by
  obtain ⟨f,rfl⟩:∃f,fuel=f+1:=⟨fuel-1,ox⟩;unfold layClean.free;cases q:(List.range (runEnd 31 (lp 31 h m).1+1-(lp 31 h m).1)).find? λk=>(owner.getD ((lp 31 h m).1+k) (some 0)).isNone with
  | some k=>
   have:=List.find?_some q
   show ⟨_,rfl,by simpa using this⟩
  | none=>
   cases d with
   | zero=>
    rw[List.find?_eq_none]at q;have e:(lp 31 h m).1=j:=e
    have:=q 0 (by rw[qF0];unfold runEnd;split <;> omega)
    rw[qK6,e,L]at this;show absurd rfl this
   |succ d=>show fV hs O L d (m+1) f (by rw[<- e];congr 2;omega) ox
structure Ow (owner:Array (Option Nat)) (m:Nat):Prop where
 s:owner.size=32
 all:∀k:Nat,k<m->∃j:Nat,owner[j]?=some (some k)
 lt:∀j k:Nat,owner[j]?=some (some k)->k<m
 inj:∀j j' k:Nat,owner[j]?=some (some k)->owner[j']?=some (some k)->j=j'
def Ow.free (O:Ow owner m) (hm:m<32):∃j,j<32/\owner.getD j (some 0)=none:=by
 -- the slots of the m
 have:∃l:List Nat,l.length=m/\∀j k:Nat,owner[j]?=some (some k)->j∈l:=by
  have key:∀n,n<=m->∃l:List Nat,l.length=n/\∀j k:Nat,k<n->owner[j]?=some (some k)->j∈l:=by
   intro n
   induction n with
   |zero=>intro _;show ⟨[],rfl,λj k hk=>absurd hk (qE0 _)⟩
   | succ n ih=>
    intro hn;obtain ⟨l,hl,h⟩:=ih ox;obtain ⟨j0,a4⟩:=O.all n ox;refine ⟨j0::l,by rw[qC1,hl],λj k hk e=>?_⟩;by_cases q:k=n
    .subst q;rw[O.inj j j0 k e a4];show qB2
    .show qA6 _ (h j k ox e)
  obtain ⟨l,hl,h⟩:=key m (qB5 _);show ⟨l,hl,λj k e=>h j k (O.lt j k e) e⟩
 obtain ⟨l,hl,h⟩:=this;obtain ⟨j,hj,a3⟩:=ix 32 l ox;refine ⟨j,hj,?_⟩;have L:j<owner.size:=by rw[O.s];show hj
 rw[qF9,qE5 L];cases q:owner[j] with
 |none=>rfl
 |some k=>show absurd (h j k (by rw[qE5 L,q])) a3
def Ow.put (O:Ow owner m) (hj:owner.getD j (some 0)=none):Ow (owner.setIfInBounds j (some m)) (m+1):=by
 have L:j<owner.size:=by
  by_cases q:j<owner.size
  .show q
  .rw[qF9,Array.getElem?_eq_none ox]at hj;cases hj
 have a3:owner[j]?=some none:=by
  rw[qF9,qE5 L]at hj;rw[qE5 L];show congrArg some hj
 have gt:∀i:Nat,(owner.setIfInBounds j (some m))[i]?=if i=j then some (some m) else owner[i]?:=λi=>by
  rw[Array.getElem?_setIfInBounds];by_cases q:j=i
  .subst q;simp [L]
  .rw[qA4 q,qA4 λz=>q z.symm]
 refine ⟨by rw[qQ8];show O.s,λk hk=>?_,λi k e=>?_,λi i' k e e'=>?_⟩
 .by_cases q:k=m
  .subst q;show ⟨j,by rw[gt,qA2 rfl]⟩
  .obtain ⟨i,hi⟩:=O.all k ox;refine ⟨i,?_⟩;rw[gt,qA4 λz=>by rw[z,a3]at hi;cases hi];show hi
 .rw [gt]at e
  split at e
  .cases e;omega
  .have:=O.lt i k e;omega
 .rw [gt]at e e'
  split at e
  .rename_i q
   cases e
   split at e'
   .rename_i q';rw[q,q']
   .have:=O.lt i' m e';omega
  .split at e'
   .cases e';have:=O.lt i m e;omega
   .show O.inj i i' k e e'
def jx:∀(l:Jg) (owner:Array (Option Nat)) (m:Nat),Ow owner m->m+l.length<=31->∃o',Ow o' (m+l.length)/\l.foldl (λL h=>do
  let (owner,k) <- L
  let j <- layClean.free 31 owner (turns 31) (bits h%(31+1)) (bits h)
  pure (owner.setIfInBounds j (some k),k+1)) (some (owner,m))=some (o',m+l.length)
 | [],owner,m,O,_=>⟨owner,O,rfl⟩
 | h::l,owner,m,O,hl=>by
  rw[qC1]at hl;obtain ⟨j,hj,hf⟩:=O.free ox;obtain ⟨d,hd,e⟩:=pG (.inr rfl) h hj;obtain ⟨k,hk,q⟩:=fV (h:=h) O.s hj hf d 0 (turns 31) (by rw[qJ2];show e) (by unfold turns;omega);have hk:layClean.free 31 owner (turns 31) (bits h%(31+1)) (bits h)=some k:=hk;obtain ⟨o',O',e'⟩:=jx l _ (m+1) (O.put q) ox;refine ⟨o',by rw[qC1,show m+(l.length+1)=m+1+l.length by omega];show O',?_⟩;rw[qW9,qC1,show m+(l.length+1)=m+1+l.length by omega,<- e'];congr 1
  change (layClean.free 31 owner (turns 31) (bits h%(31+1)) (bits h)>>=λj=>some (owner.setIfInBounds j (some m),m+1))=_;rw[hk];rfl
def oF {t:SetTable}(hn:hs.size<=31) (hw:sizeAbove w=32):∃t' order,t.relaid hs w=some (t',order)/\Tb t'/\t'.mask=31/\t'.place.size=hs.size/\order.size=hs.size/\(∀k∈order.toList,k<hs.size)/\order.toList.Nodup/\t'.led=t.led:=by
 have O0:Ow (Array.replicate 32 none) 0:=by
  refine ⟨Array.size_replicate,λk hk=>absurd hk (qE0 _),λj k e=>?_,λj j' k e=>?_⟩
  all_goals
   rw[Array.getElem?_replicate]at e
   split at e <;> cases e
 obtain ⟨ow,O,e⟩:=jx hs.toList _ 0 O0 (by rw[qC7];omega);rw[qJ2,qC7]at O e;have a4:layClean 31 hs=some ow:=by
  unfold layClean;rw[<- Array.foldl_toList]
  change Option.map _ (List.foldl _ (some (Array.replicate 32 none,0)) hs.toList)=_;rw[e];rfl
 have live:∀x:Nat×Nat,x∈(List.range 32).filterMap (λj=>(ow.getD j none).map (j,·))↔ow[x.1]?=some (some x.2):=λa3=>by
  obtain ⟨j,k⟩:=a3;rw[qQ6];constructor
  .rintro ⟨i,hi,q⟩;have hi:i<ow.size:=by rw[O.s];simpa using hi
   rw[qF9,qE5 hi]at q;cases z:ow[i] with
   |none=>rw[z]at q;cases q
   | some k'=>
    rw[z]at q;cases q;rw[qE5 hi,z]
  .intro q;have hj:j<ow.size:=by
    by_cases z:j<ow.size
    .show z
    .rw[Array.getElem?_eq_none ox]at q;cases q
   refine ⟨j,by rw[qF0,<- O.s];show hj,?_⟩
   change (ow.getD j none).map (j,·)=_;have q:ow[j]?=some (some k):=q;rw[qF9,q];rfl
 generalize hL:(List.range 32).filterMap (λj=>(ow.getD j none).map (j,·))=L at live
 have pw:L.Pairwise λa b=>a.1≠b.1:=by
  rw[<- hL,List.pairwise_filterMap];refine List.Pairwise.imp ?_ List.pairwise_lt_range;intro a b a5 x hx y hy;cases z:ow.getD a none with
  |none=>rw[z]at hx;cases hx
  | some k=>
   cases z':ow.getD b none with
   |none=>rw[z']at hy;cases hy
   |some k'=>rw[z]at hx;rw[z']at hy;cases hx;cases hy;change a≠b;omega
 have nd:(L.map (·.2)).Nodup:=by
  rw[List.Nodup,qH3];refine (List.Pairwise.and_mem.mp pw).imp λ⟨ha,hb,hne⟩ z=>hne ?_;have h1:=(live _).mp ha;have h2:=(live _).mp hb;rw[<- z]at h2;show O.inj _ _ _ h1 h2
 have mem:∀k,k∈L.map (·.2)↔k∈List.range hs.size:=λk=>by
  rw[qA9,qF0];constructor
  .rintro ⟨x,hx,rfl⟩;show O.lt _ _ ((live x).mp hx)
  .intro hk;obtain ⟨j,hj⟩:=O.all k hk;show ⟨(j,k),(live _).mpr hj,rfl⟩
 have hp:(L.map (·.2)).Perm (List.range hs.size):=(qU4 nd List.nodup_range).mpr mem;have hlen:L.length=hs.size:=by have:=hp.length_eq;rwa [qA7,qE4]at this
 refine ⟨{ mask:=31,place:=(L.map (·.1)).toArray,dummies:=#[],finger:=t.finger,led:=t.led,moves:=t.movedTo 31,plain:=t.plain },(L.map (·.2)).toArray,?_,⟨.inr rfl,rfl,by simp [hlen];omega⟩,rfl,by simp [hlen],by simp [hlen],λk hk=>?_,by simpa using nd,rfl⟩
 .unfold SetTable.relaid;rw[hw]
  change SetTable.laid 31 t.finger (t.movedTo 31) t.led t.plain hs=_;unfold SetTable.laid;rw[a4]
  change some _=_;rw[<- hL]
 .have:k∈L.map (·.2):=by simpa using hk
  have:=(mem k).mp this
  simpa using this
end TP.ST
namespace TP.ST
open PySem
section
variable {prog:Program}{w:World}{K:Type} [DecidableEq K] {kd:KeyKind prog w K}{A:Around}{E:Jp}{s:Shared}{Pb:Addr->Prop}
def hbv (n:Nat) (h:carriedByValue v=true):∃b,hashByValue n v=pure b:=by
 cases v <;> first | (cases h;done)|show ⟨_,by unfold hashByValue;rfl⟩|show ⟨_,by cases n <;> rfl⟩
def eA (hk:IsTupleKey kd s.heap ks a) (h:∀b,Q b s):wpAny (model prog w) A (hashByValue 8 (.ref a)) Q E s:=by
 have hT:=hk.typeIs;obtain ⟨o,items,n,ho,_,hd,hi⟩:=hk;unfold hashByValue;refine qA0 (wpAny_specialOf hT F.slot_tuple_hash.lookup ?_)
 change wpAny _ _ (seqItems? (.ref a)>>=_) _ _ s;refine qA0 (qO5 ho hd ?_);refine qA0 ?_
 change wpAny _ _ (forIn items _ _) _ _ s;rw[<- Array.forIn_toList];refine qV9 _ (λrest r s'=>r.1=none/\s'=s/\∀v∈rest,carriedByValue v=true) _ ?_ ?_ _ _ ⟨rfl,rfl,hi.byValue⟩
 .rintro v rest r s' ⟨L,rfl,q⟩;obtain ⟨b,e⟩:=hbv 7 (q v qB2);rw[e];refine qA0 (qN6 ?_);cases b with
  | true=>
   simp only [qL0,qB9,qO0];show qN6 ⟨rfl,rfl,λu O=>q u (qA6 _ O)⟩
  | false=>
   simp only [qM9,qN9];refine qN6 ?_;show qN6 (h _)
 .rintro ⟨r1,r2⟩ s' ⟨L,rfl,_⟩;simp only at L;subst L;show qN6 (h _)
def oacs (n:Nat) (h:carriedByValue v=true):ofAClassStatement n v=pure false:=by
 cases v <;> first | (cases h;done) | (unfold ofAClassStatement;rfl) | (cases n <;> rfl)
def bO (hk:IsTupleKey kd s.heap ks a) (h:Q false s):wpAny (model prog w) A (ofAClassStatement 8 (.ref a)) Q E s:=by
 obtain ⟨o,items,n,ho,hc,hd,hi⟩:=hk;unfold ofAClassStatement;refine qA0 (wpAny_typeOf_ref ho ?_);rw[hc]
 change wpAny _ _ (do
  let u <- if ("tuple" : String) == "tuple" then pure true else isSubtype (.type "tuple") (.type "tuple")
  _) _ _ s
 rw[qA2 QV];refine qA0 (qN6 ?_);simp only [qL0,qB9,qO0];refine qA0 (qO5 ho hd ?_);dsimp only;refine qA0 ?_
 change wpAny _ _ (forIn items _ _) _ _ s;rw[<- Array.forIn_toList];refine qV9 _ (λrest r s'=>r.1=none/\s'=s/\∀v∈rest,carriedByValue v=true) _ ?_ ?_ _ _ ⟨rfl,rfl,hi.byValue⟩
 .rintro v rest r s' ⟨L,rfl,q⟩;rw[oacs 7 (q v qB2)];refine qA0 (qN6 ?_);simp only [qB9,qO0];show qN6 ⟨rfl,rfl,λu O=>q u (qA6 _ O)⟩
 .rintro ⟨r1,r2⟩ s' ⟨L,rfl,_⟩;simp only at L;subst L;show qN6 h
def vz {stored:Jw}(q:IsTupleKey kd s.heap k a) (L:∀v∈stored,∃k' b,v=.ref b/\IsTupleKey kd s.heap k' b) (h:Q false s):wpAny (model prog w) A (searchCouldBeSeen (.ref a) stored) Q E s:=by
 unfold searchCouldBeSeen;refine qA0 ?_;refine qV9 _ (λrest r s'=>s'=s/\r=(none,())/\∀v∈rest,∃k' b,v=.ref b/\IsTupleKey kd s.heap k' b) _ ?_ ?_ _ _ ⟨rfl,rfl,L⟩
 .rintro x rest r s' ⟨rfl,rfl,O⟩;obtain ⟨k',b,rfl,hb⟩:=O x qB2;have nx:(∀v∈rest,∃k' b,v=.ref b/\IsTupleKey kd s'.heap k' b):=λv hv=>O v (qA6 _ hv);dsimp only
  split
  .show qN6 ⟨rfl,rfl,nx⟩
  .refine qA0 (wpAny_eqIsQuiet_tuple q ?_);simp only [qL0,qB9,qO0];refine qA0 (wpAny_eqIsQuiet_tuple hb ?_);simp only [qL0,qB9,qO0];refine qA0 (bO q ?_);simp only [qB9,qO0];refine qA0 (bO hb ?_);simp only [qB9,qO0];show qN6 ⟨rfl,rfl,nx⟩
 .rintro r s' ⟨rfl,rfl,_⟩;show qN6 h
def Els (kd:KeyKind prog w K)(Pb:Addr->Prop)(h:Heap)(q:List (List K))(es:List (Int×Value)):Prop:=∀e∈es,∃ks∈q,∃b,Pb b/\e=(tupleKeyHash kd ks,.ref b)/\IsTupleKey kd h ks b
def nD (hu:A.units<cLine) (ho:s.heap.get? S=some o) (hd:o.data=.set es ep t) (T:Tb t) (hsz:t.place.size=es.size) (hE:Els kd Pb s.heap kss es.toList) (hk:IsTupleKey kd s.heap k x) (ab:k∉kss) (hN:t.slot (wk t (tupleKeyHash kd k) N).j=.empty) (hb:∀n,n<N->t.slot (wk t (tupleKeyHash kd k) n).j≠.empty) (c4:N<10*SetTable.turns t.mask) (h:Q (.free (wk t (tupleKeyHash kd k) N).j false) s):∀(d n fuel:Nat) (st:Option SetTable.Probe),N=n+d->d<fuel->st.getD (t.probeStart (tupleKeyHash kd k))=wk t (tupleKeyHash kd k) n->wpAny (model prog w) A (setSearchFrom S (.ref x) (tupleKeyHash kd k) true fuel st) Q E s:=by
 have L:t.fits es.size=true:=by
  unfold SetTable.fits SetTable.fill;rw[T.d,hsz]
  have:=T.f
  simp;omega
 intro d
 induction d using Nat.strongRecOn with
 | _ d ih=>
  intro n fuel st e hf c0;obtain ⟨f,rfl⟩:∃f,fuel=f+1:=⟨fuel-1,ox⟩;unfold setSearchFrom;refine qA0 (qP9 ho hd L ?_);dsimp only;have hg:t.gaveWay=false:=by unfold SetTable.gaveWay;rcases T.m with q|q <;> rw[q] <;> rfl
  rw[hg,c0];simp only [qB9,qO0];have gw:=lq T (λi=>(es[i]?.map (·.1)).getD 0) (tupleKeyHash kd k) hN hb d n (10*SetTable.turns t.mask) e ox
  split
  .rename_i met hmet
   rcases gw with r|⟨m,i,a1,a2,a3,a4,a5,r⟩
   .have hm:=Option.some.inj (hmet.symm.trans r);subst hm;show qN6 h
   .have hm:=Option.some.inj (hmet.symm.trans r);subst hm;dsimp only;have a7:i<es.size:=ox;have a6:es[i]∈es.toList:=by rw[<- Array.getElem_toList];show qK3 _
    obtain ⟨ks,b0,b,_,ee,c1⟩:=hE _ a6;have bc:ks≠k:=λz=>ab (z ▸ b0);have rest:wpAny (model prog w) A (do
      let some (_,y):=es[i]? |unsupported "internal:set-entry"
      let equal <- holding [y] (eqBool y (.ref x))
      let (es',_,t') <- setState S
      if true&&equal then return SetFound.there none
      let some same:=t'.sameMemory t.moves t.mask|unsupported "set.changed-during-lookup:is-the-new-block-at-the-old-address"
      let O <- match (if same then t'.slot (wk t (tupleKeyHash kd k) m).j else .empty) with
       | .live i'=>match es'[i']? with
        |some (_,y')=>do pure (if <- isSame y' y then some i' else none)
        |none=>pure none
       |_=>pure none
      match O with
      |none=>rule "set.search.anew";setSearchFrom S (.ref x) (tupleKeyHash kd k) true f none
      |some i'=>if equal then return SetFound.there (some i') else setSearchFrom S (.ref x) (tupleKeyHash kd k) true f (some (wk t (tupleKeyHash kd k) (m+1)))) Q E s:=by
     rw[qE5 a7,ee];dsimp only;refine qA0 (qO3 (wpAny_eqBool_tuple hu c1 hk ?_));rw[qN7 bc];refine qA0 (qP9 ho hd L ?_);dsimp only;simp only [qY8,qB9,qO0];have b5:t.sameMemory t.moves t.mask=some true:=by unfold SetTable.sameMemory;rw[qA2 QX]
     rw[b5];dsimp only;rw[qA2 rfl,a3];dsimp only;rw[qE5 a7,ee];dsimp only;refine qA0 ?_
     change wpAny _ _ (if (b == b)=true then pure true else _) _ _ s;rw[qA2 QX];refine qN6 ?_;rw[qA2 rfl];refine qA0 (qN6 ?_);dsimp only;show ih (N-(m+1)) ox (m+1) f _ ox ox rfl
    split
    .refine qA0 (vz hk (λv hv=>?_) ?_)
     .obtain ⟨e2,c3,rfl⟩:=qA9.mp hv;have a8:e2∈es.toList:=by
       have:=qS2.mp c3
       show qS2.mpr (Array.mem_filter.mp this).1
      obtain ⟨b3,_,b',_,c2,b4⟩:=hE _ a8;show ⟨b3,b',by rw[c2],b4⟩
     .simp only [qB9,qO0];show rest
    .show rest
  .rename_i hmet
   exfalso;rcases gw with r|⟨m,i,a1,a2,a3,a4,a5,r⟩
   .show hmet _ r
   .show hmet _ r
def SetT (kd:KeyKind prog w K) (Pb:Addr->Prop) (h:Heap) (S:Addr) (q:List (List K)):Prop:=
 ∃es L t,h.get? S=some { cls:=.type "set",dict:=none,data:=.set es L t,slots:=#[] }/\Tb t/\t.place.size=es.size/\es.size=q.length/\((t.mask=7/\es.size<=4)\/(t.mask=31/\es.size<=18))/\Els kd Pb h q es.toList
def tj (hk:IsTupleKey kd h ks b) (ho:h.get? S=some o) (hd:o.data=.set es ep t) (hs:Heap.SameBut S h h'):IsTupleKey kd h' ks b:=by
 obtain ⟨o',items,n,L,hc,q,hi⟩:=hk;have O:b≠S:=by
  rintro rfl;obtain rfl:o'=o:=Option.some.inj (L.symm.trans ho);rw[hd]at q;show nomatch q
 show ⟨o',items,n,by rw[hs.2 b O];show L,hc,q,hi⟩
def xr {xs:Array (Int×Value)}(h:e∈(SetTable.insertAt xs p x).toList):e∈xs.toList\/e=x:=by
 have:=(SetTable.insertAt_perm xs p x).mem_iff.mp h
 rw[qH5]at this;rcases qC6.mp this with q|q
 .show .inl q
 .show .inr (qC3.mp q)
def jh (xs:Array α) (p:Nat) (x:α):(SetTable.insertAt xs p x).size=xs.size+1:=by
 have:=(SetTable.insertAt_perm xs p x).length_eq
 rw[qC7,qC7,Array.size_push]at this;show this
def Av {t:SetTable}(hd:t.dummies=#[]) (j:Nat):(t.put j).1={ t with place:=SetTable.insertAt t.place (SetTable.below t.place j) j }:=by
 unfold SetTable.put;dsimp only;rw[hd]
 have:SetTable.has (#[]:Array Nat) j=false:=by unfold SetTable.has;simp
 rw[this];rfl
def Els.away (O:Els kd Pb h kss l) (ho:h.get? S=some o) (hd:o.data=.set es ep t) (hs:Heap.SameBut S h h'):Els kd Pb h' kss l:=λe L=>by
 obtain ⟨ks,hk,b,pb,q,hb⟩:=O e L;show ⟨ks,hk,b,pb,q,tj hb ho hd hs⟩
def BZ {es:Array (Int×Value)}{order:Array Nat}(h:e∈(order.filterMap (es[·]?)).toList):e∈es.toList:=by
 rw[Array.toList_filterMap]at h;obtain ⟨k,_,q⟩:=qQ6.mp h;rw[<- qG9]at q;show qF6 q
def xB {es:Array (Int×Value)}{order:Array Nat}(h:∀k∈order.toList,k<es.size):(order.filterMap (es[·]?)).size=order.size:=by
 rw[<- qC7,Array.toList_filterMap,<- qC7 (xs:=order)];generalize order.toList=l at h
 induction l with
 |nil=>rfl
 | cons k l L=>
  have hk:=h k qB2;rw[qG7,qE5 hk]
  change _+1=_;rw[L λq O=>h q (qA6 _ O)];rfl
def gX {h:Heap}(L:h.get? S=some { cls:=.type "set",dict:=none,data:=.set es ep t,slots:=#[] }) (q:Array (Int×Value)) (t':SetTable):(h.update S (Obj.putSet q t')).get? S=some { cls:=.type "set",dict:=none,data:=.set q (ep+1) t',slots:=#[] }:=by
 have:=qI3 (Obj.putSet q t') L (by rw[putSet_of q t' rfl];rfl)
 rw[putSet_of q t' rfl]at this;show this
def eh (ho:s.heap.get? S=some { cls:=.type "set",dict:=none,data:=.set es ep t,slots:=#[] }) (hm:(t2.mask=7/\es1.size<=5)\/(t2.mask=31/\es1.size<=18)) (a3:t2.dummies=#[]) (hp:t2.place.size=es1.size) (hn:es1.size=kss.length) (hz:es.size+1=es1.size) (hE:Els kd Pb s.heap kss es1.toList) (h:∀h',Heap.SameBut S s.heap h'->SetT kd Pb h' S kss->Q true { s with heap:=h' }):wpAny (model prog w) A (do
   storeSet S es1 t2
   if (!false&&t2.tooFull)=true then do
    setRelay S (SetTable.grown (es.size+1))
    pure true
   else pure true) Q E s:=by
 have b0:es1.size<scanBound:=by unfold scanBound;omega
 refine qA0 (wpAny_storeSet_of ho rfl ?_ (fits_of_scanBound b0));have O:=gX ho es1 t2;have L:=qI9 s.heap S (Obj.putSet es1 t2);have ab:=hE.away ho rfl L;have T2:Tb t2:=⟨ox,a3,ox⟩;have a8:t2.fits es1.size=true:=by
  unfold SetTable.fits SetTable.fill;rw[a3,hp];simp;omega
 rw[qM9,qI8];cases hf:t2.tooFull with
 | false=>
  rw[qA4 qA3];have b3:(t2.mask=7/\es1.size<=4)\/(t2.mask=31/\es1.size<=18):=by
   rcases hm with ⟨a,b⟩|q
   .have:¬ es1.size=5:=λz=>by
     unfold SetTable.tooFull SetTable.fill at hf;rw[a3,hp,z,a]at hf;show absurd hf QV
    show .inl ⟨a,ox⟩
   .show .inr q
  show qN6 (h _ L ⟨es1,ep+1,t2,O,T2,hp,hn,b3,ab⟩)
 | true=>
  rw[qA2 rfl];have h5:es1.size=5:=by
   unfold SetTable.tooFull SetTable.fill at hf;rw[a3,hp]at hf;have hf:=qO4 hf;have e0:(#[]:Array Nat).size=0:=rfl;rw[e0]at hf;rcases hm with ⟨a,b⟩|⟨a,b⟩ <;> rw[a]at hf <;> omega
  have hw:SetTable.sizeAbove (SetTable.grown (es.size+1))=32:=by rw[hz,h5];decide
  obtain ⟨t3,order,hr,T3,m3,p3,o3,a7,c0,_⟩:=oF (t:=t2) (hs:=es1.map (·.1)) (w:=SetTable.grown (es.size+1)) (by rw[Array.size_map];omega) hw;rw[Array.size_map]at p3 o3 a7;have a4:=xB (es:=es1) a7;unfold setRelay;refine qA0 ?_;refine qA0 (qP9 O rfl a8 ?_);dsimp only;rw[hw,qA4 QV,hr];refine qA0 ?_
  change wpAny _ _ (do
   if (order.filterMap (es1[·]?)).size != es1.size then unsupported "internal:set-table-lost-an-element"
   pure (order.filterMap (es1[·]?),t3)) _ _ _
  have b4:((order.filterMap (es1[·]?)).size != es1.size)=false:=by rw[a4,o3];simp
  rw[b4];simp only [qB9,qO0];refine qN6 ?_;dsimp only;have a6:(order.filterMap (es1[·]?)).size=5:=by rw[a4,o3,h5]
  refine wpAny_storeSet_of O rfl ?_ (fits_of_scanBound (by rw[a6];decide));have a5:=qI9 (s.heap.update S (Obj.putSet es1 t2)) S (Obj.putSet (order.filterMap (es1[·]?)) t3);have b5:=gX O (order.filterMap (es1[·]?)) t3;have bc:Els kd Pb _ kss (order.filterMap (es1[·]?)).toList:=λe he=>(ab.away O rfl a5) e (BZ he);show qN6 (h _ (L.trans a5) ⟨_,_,t3,b5,T3,by rw[p3,a6,h5],by rw[a6,<- hn,h5],.inr ⟨m3,ox⟩,bc⟩)
def yz (hu: A.units < cLine) (hS: SetT kd Pb s.heap S kss) (hl: kss.length <= 17) (hk: IsTupleKey kd s.heap k x) (b0: Pb x) (ab: k ∉ kss) (h: ∀h', Heap.SameBut S s.heap h' -> SetT kd Pb h' S (kss ++ [k]) -> Q true { s with heap := h' }): wpAny (model prog w) A (setAddHashed S (.ref x) (tupleKeyHash kd k)) Q E s := by
  obtain ⟨es, ep, t, ho, T, hsz, hn, b4, hE⟩ := hS;have a3 : t.fits es.size = true := by
    unfold SetTable.fits SetTable.fill;rw[T.d, hsz];have := T.f;simp;omega
  obtain ⟨N, a8, hN, hb⟩ := jV T (tupleKeyHash kd k);unfold setAddHashed setAddHashedIn;refine qO3 (qA0 (qP9 ho rfl a3 ?_));dsimp only;have b3 : byScan (.ref x) es = false := rfl;rw[b3];simp only [qB9, qO0];unfold setSearch;have bc : N < 460 := by have : SetTable.turns t.mask <= 46 := by { unfold SetTable.turns;rcases T.m with q|q <;> omega };omega
  refine qA0 (nD hu ho rfl T hsz hE hk ab hN hb a8 ?_ N 0 100000 none ox ox rfl);dsimp only;refine qA0 (qP9 ho rfl a3 ?_);dsimp only;generalize (wk t (tupleKeyHash kd k) N).j = j at *
  have a7 := Av T.d j;generalize b5 : (t.put j).2 = p at *
  rw[a7];have L : (SetTable.insertAt es p (tupleKeyHash kd k, Value.ref x)).size = es.size + 1 := jh _ _ _;have a6 : Els kd Pb s.heap (kss ++ [k]) (SetTable.insertAt es p (tupleKeyHash kd k, Value.ref x)).toList := λe he => by
    rcases xr he with q|q
    · obtain ⟨ks, a, b, c⟩ := hE e q
      show ⟨ks, qD5 _ a, b, c⟩
    · show ⟨k, QX, x, b0, q, hk⟩
  generalize c0 : SetTable.insertAt es p (tupleKeyHash kd k, Value.ref x) = O at *
  have a4 : (SetTable.insertAt t.place (SetTable.below t.place j) j).size = O.size := by rw[jh, hsz, L]
  have hmm : (t.mask = 7 /\ O.size <= 5) \/ (t.mask = 31 /\ O.size <= 18) := ox;have a5 : O.size = (kss ++ [k]).length := by rw[qC5, qF5];omega
  split
  · refine qA0 (eA hk λb => ?_)
    cases b with
    | true =>
      simp only [qN9];show eh ho hmm T.d a4 a5 L.symm a6 h
    | false =>
      simp only [qB9, qO0];show eh ho hmm T.d a4 a5 L.symm a6 h
  · refine qA0 (qN6 ?_)
    simp only [qN9];show eh ho hmm T.d a4 a5 L.symm a6 h
end
section
variable {prog:Program}{w:World}{K:Type} [DecidableEq K] {kd:KeyKind prog w K}{A:Around}{R:Result->Shared->Prop}{I:Addr}{fp wr:List Addr}{G:Array GenState->Array GenState->Prop}{n:Nat}{P:Nat->Value->Prop}{St:Nat->Shared->Prop}
def SetT.keep (hS:SetT kd (·∉S::wr) h S kss) (q:S∉wr) (hk:∀b o,b∉wr->h.get? b=some o->h'.get? b=some o):SetT kd (·∉S::wr) h' S kss:=by
 obtain ⟨es,ep,t,ho,T,a,b,c,hE⟩:=hS;refine ⟨es,ep,t,hk S _ q ho,T,a,b,c,λe he=>?_⟩;obtain ⟨ks,q1,x,O,q3,o,items,n,L,hc,hd,hi⟩:=hE e he;show ⟨ks,q1,x,O,q3,o,items,n,hk x o (λz=>O (qA6 _ z)) L,hc,hd,hi⟩
def jL (W:WalksS prog w A.in1 I fp wr G n P St) (S:Addr) (a8:S∉fp) (hu:A.in1.units<cLine) (key:Nat->List K) (b3:∀i v,i<n->P i v->∃b,v=.ref b/\b∉S::wr/\IsTupleKey kd h0 (key i) b) (c1:∀i j,i<j->j<n->key i≠key j) (hn:n<=18):
  ∀ (k i:Nat) (s:Shared),n-i=k->i<=n->St i s->SetT kd (·∉S::wr) s.heap S ((List.range i).map key)->(∀b o,b∉S::wr->h0.get? b=some o->s.heap.get? b=some o) ->
   (∀s',Moved (S::wr) G s s'->SetT kd (·∉S::wr) s'.heap S ((List.range n).map key)->R (.ok (.ret .none)) s') ->
   codeAny (model prog w) A (.builtin "set.update.loop" ⟨[.ref S,.ref I],[]⟩) R s:=by
 have ab:S∉wr:=λh=>a8 (W.sub _ h);have O:∀b∈wr,b∈S::wr:=λb hb=>qA6 _ hb;intro k
 induction k with
 | zero=>
  intro i s hk hi a4 hS b0 hR;have c3:i=n:=ox;subst c3;refine codeAny_builtin qR0 ?_;rw[Around.under_plainId qP0 _]
  change wpAny _ A.in1 (pyNext (.ref I)>>=_) _ _ s;refine qA0 (W.done s _ _ a4 λs' hm=>?_)
  change wpAny _ A.in1 (ret Value.none) _ _ s';show qN6 (hR s' (hm.mono O) (hS.keep ab λb o hb e=>hm.heap b o hb e))
 | succ k ih=>
  intro i s hk hi a4 hS b0 hR;have q:i<n:=ox;refine codeAny_builtin qR0 ?_;rw[Around.under_plainId qP0 _]
  change wpAny _ A.in1 (pyNext (.ref I)>>=_) _ _ s;refine qA0 (W.item i s _ _ q a4 λv s' hP a7 hm=>?_);obtain ⟨x,rfl,a5,c4⟩:=b3 i v q hP;have c2:=hS.keep ab λb o hb e=>hm.heap b o hb e;have L:∀b o,b∉S::wr->h0.get? b=some o->s'.heap.get? b=some o:=λb o hb e=>hm.heap b o (λz=>hb (qA6 _ z)) (b0 b o hb e);have hx:IsTupleKey kd s'.heap (key i) x:=by
   obtain ⟨o,items,n,c5,hc,hd,hi⟩:=c4;show ⟨o,items,n,L x o a5 c5,hc,hd,hi⟩
  change wpAny _ A.in1 (holding [Value.ref x] (setAdd S (.ref x))>>=_) _ _ s';refine qA0 (qO3 ?_);unfold setAdd;refine qO3 ?_;refine qA0 (wpAny_pyHash_tuple hu hx ?_);refine yz (s:={ s' with toks:=s'.toks+((key i).length+1) }) (Pb:=(·∉S::wr)) hu c2 (by rw[qA7,qE4];omega) hx a5 (λz=>?_) λh' a3 bc=>?_
  .obtain ⟨j,hj,e⟩:=qA9.mp z;show c1 j i (by simpa using hj) q e
  have c0:SetT kd (·∉S::wr) h' S ((List.range (i+1)).map key):=by
   rw[qX1,qD1];show bc
  refine qN6 ⟨plainId_quiet qP0 _,ih (i+1) _ ox q (W.frame _ s' _ _ a7 (qD8 _ _) λb hb o e=>?_) c0 (λb o hb e=>?_) λb5 b4 a6=>?_⟩
  .rw[a3.2 b (λh:b=S=>a8 (by rw[<- h];show hb))];show e
  .change h'.get? b=_;rw[a3.2 b (λh:b=S=>hb (by rw[h];show qB2))];show L b o hb e
  .refine hR b5 (Moved.trans W.gtrans ((hm.mono O).then_heap (qD8 _ _) λb o hb e=>?_) b4) a6;rw[a3.2 b (λh:b=S=>hb (by rw[h];show qB2))];show e
end
section
variable {prog:Program}{w:World}{K:Type} [DecidableEq K] {kd:KeyKind prog w K}{A:Around}{E:Jp}{s:Shared}
set_option maxHeartbeats 3200000 in
def call_set_tuples (hh:A.handled=none) (hu:A.units+64<cLine) (hl:s.heap.IsList l items) (b3:∀i v,items[i]?=some v->∃b,v=.ref b/\IsTupleKey kd s.heap (key i) b) (cn:∀i j,i<j->j<items.size->key i≠key j) (hb:items.size<=18) (h:∀(h':Heap) (tk:Nat) (wr:List Addr),SetT kd (·∉s.heap.objs.size::wr) h' s.heap.objs.size ((List.range items.size).map key) ->
   (∀b o,b<s.heap.objs.size->s.heap.get? b=some o->h'.get? b=some o)->Q (.ref s.heap.objs.size) { s with heap:=h',toks:=tk }):
  wpAny (model prog w) A (call (.type "set") [.ref l]) Q E s:=by
 obtain ⟨c,tl,d3⟩:=F.called_set.mro;have cg:=F.called_set.made;have d2:=F.called_set.sub;refine wpAny_call (codeAny_of_tree ?_)
 change wpAny _ _ (callAny (.type "set") _) _ _ _;refine qN6 ⟨Code.quiet_builtin _ Zo,codeAny_builtin F.entry_type_call ?_⟩;rw[Around.under_plain (weight_type_call_type "set" [.ref l] []) rfl];have h1:=F.called_set.notType;have h2:=F.called_set.canCreate;have d5:=F.typeCall_set_1 (.ref l)
 repeat (any_goals (first|assumption|wp_step))
 refine qS3 (code_set_new_1 (.ref l) (E:=E) (Q₁:=λobj O=>∃led:Bool,obj=.ref s.heap.objs.size/\O={ s with heap:=s.heap.push { cls:=.type "set",dict:=none,data:=.set #[] 0 (.fresh 0 0 led) } }) λled=>⟨led,rfl,rfl⟩) λr O hr=>?_;cases r with
 |error e=>show hr
 | ok fl=>
  cases fl with
  | ret obj=>
   obtain ⟨led,rfl,rfl⟩:=hr;have hS:(s.heap.push { cls:=.type "set",dict:=none,data:=.set #[] 0 (.fresh 0 0 led) }).get? s.heap.objs.size=some { cls:=.type "set",dict:=none,data:=.set #[] 0 (.fresh 0 0 led) }:=qC2 _ rfl;have hT:Shared.TypeIs { s with heap:=s.heap.push { cls:=.type "set",dict:=none,data:=.set #[] 0 (.fresh 0 0 led) } } (.ref s.heap.objs.size) "set" := ⟨_,hS,rfl⟩;have d7:=F.called_set.init.lookup;have d6:=F.called_set.init.bind (.ref s.heap.objs.size)
   repeat (any_goals (first|assumption|wp_step))
   refine qS3 (codeAny_call_builtin (R:=wants (λr a3=>r=.none/\∃h' tk wr,a3={ s with heap:=h',toks:=tk } /\
     SetT kd (·∉s.heap.objs.size::wr) h' s.heap.objs.size ((List.range items.size).map key) /\
     (∀b o,b<s.heap.objs.size->s.heap.get? b=some o->h'.get? b=some o)) E) F.called_set.init.plain F.entry_set_init (check_set_init_1 hT ?_)) λa7 a3 q=>?_
   .obtain ⟨ol,b5,c2,nl,ab⟩:=hl;obtain ⟨d0,a5,c3,L⟩:=ol;simp only at c2 ab;subst c2;subst ab;have b4:(s.heap.push { cls:=.type "set",dict:=none,data:=.set #[] 0 (.fresh 0 0 led) }).get? l=some { cls:=.type "list",dict:=a5,data:=.seq items nl,slots:=L }:=qA5 _ b5;have cy:=F.sub_list_set;have d1:=F.sub_list_frozenset;have d9:(Value.type "list" == Value.type "dict")=false:=QV;have bc:(s.heap.push { cls:=.type "set",dict:=none,data:=.set #[] 0 (.fresh 0 0 led) }).IsList l items:=⟨_,b4,rfl,nl,rfl⟩;unfold Builtin.«set.__init__» noKeywords Builtin.Frozenset.updateFrom;generalize cp:pyIter=PI
    wp_walk
    subst cp;refine qP8 bc ?_;refine qA0 (wpAny_runValue ?_);have b0:l<s.heap.objs.size:=qB3 b5;have c4:A.in1.in1.in1.handled=none:=by simp [hh]
    have a8:l≠(s.heap.push { cls:=.type "set",dict:=none,data:=.set #[] 0 (.fresh 0 0 led) }).objs.size:=by
     rw[qH2];show qC8 (qL8 b0)
    have cm:s.heap.objs.size ∉ [(s.heap.push { cls:=.type "set",dict:=none,data:=.set #[] 0 (.fresh 0 0 led) }).objs.size,l]:=by
     rw[qH2];simp only [qB6,qC3,qD6,qO9,not_or];show ⟨qC8 (qV3 _),qL9 b0⟩
    have c0:∀(i:Nat) (v:Value),i<items.size->items[i]?=some v->∃b,v=.ref b/\b ∉ [s.heap.objs.size,(s.heap.push { cls:=.type "set",dict:=none,data:=.set #[] 0 (.fresh 0 0 led) }).objs.size]/\IsTupleKey kd s.heap (key i) b:=λi v _ hv=>by
     obtain ⟨b,e,hb⟩:=b3 i v hv;refine ⟨b,e,?_,hb⟩;obtain ⟨o,_,_,ho,_⟩:=hb
     have:=qB3 ho
     rw[qH2];simp only [qB6,qD6,qO9,not_or];show ⟨qC8 this,qC8 (qL8 this)⟩
    refine jL (kd:=kd) ((Walks.list c4 _ l a8 items).toS) s.heap.objs.size
     cm ?hu key (h0:=s.heap) c0 cn hb (items.size-0) 0 _ ox (qD2 _)
     ⟨⟨_,qC2 _ rfl,rfl,rfl⟩,(bc.push _)⟩ ?hS0 ?hk0 ?hR
    case hu=>
     change A.units+1+1+1<cLine;omega
    case hS0=>
     have c1:((s.heap.push { cls:=.type "set",dict:=none,data:=.set #[] 0 (.fresh 0 0 led) }).push { cls:=.type "list_iterator",data:=.fields #[.ref l,.int 0 0] }).get? s.heap.objs.size
       = some { cls:=.type "set",dict:=none,data:=.set #[] 0 (.fresh 0 0 led) }:=qA5 _ hS
     show ⟨#[],0,.fresh 0 0 led,c1,⟨.inl rfl,rfl,qD2 _⟩,rfl,rfl,.inl ⟨rfl,qD2 _⟩,λe he=>by simp at he⟩
    case hk0=>
     intro b o hb e;show qA5 _ (qA5 _ e)
    case hR=>
     intro s' hm a4;obtain ⟨h',g',d',ck,cj⟩:=s';have eg:g'=s.gens:=hm.gens;have ed:d'=s.drawn:=hm.drawn;have eo:cj=s.os:=hm.os;subst eg;subst ed;subst eo
     change wpAny _ _ _ _ _ _;refine qN6 ?_
     change wpAny _ _ (ret Value.none) _ _ _;refine qN6 ⟨rfl,h',ck,_,rfl,a4,λb o hb e=>?_⟩;have cc:b≠s.heap.objs.size:=qC8 hb;have c5:b≠(s.heap.push { cls:=.type "set",dict:=none,data:=.set #[] 0 (.fresh 0 0 led) }).objs.size:=by
      rw[qH2];show qC8 (qL8 hb)
     show hm.heap b o (by simp only [qB6,qC3,qD6,qO9,not_or];show ⟨cc,c5⟩) (qA5 _ (qA5 _ e))
   .cases a7 with
    |error e=>show q
    | ok a6=>
     cases a6 with
     | ret r=>
      obtain ⟨rfl,h',tk,wr,rfl,a4,cx⟩:=q
      repeat (any_goals (first|assumption|wp_step))
      show h _ _ _ a4 cx
     |_=>show q.elim
  |_=>show hr.elim
end
end TP.ST
namespace TP
open PySem L2
def P2:List W->Option Jo
 | []=>some []
 | w::ws=>match Y9 w,P2 ws with
  |some k,some ks=>some (k::ks)
  |_,_=>none
def lg:∀ss:List Jg,P2 (ss.map λs:List Int=>W.tup (s.map W.int))=some ss
 | []=>rfl
 | s::ss=>by
  change (match Y9 (.tup (s.map W.int)),P2 (ss.map λs:List Int=>W.tup (s.map W.int)) with|some k,some ks=>some (k::ks)|_,_=>none)=_;rw[dE,lg ss]
def fLs:List W->R W
 | [.lst ws]=>match P2 ws with
  |some ks=>if ws.length<=18/\ks.Nodup then .ok (.int (ws.length:Int)) else .stuck
  |none=>.stuck
 |_=>.stuck
def EJ (a b:W)(l:JZ):fLs (a::b::l)=.stuck:=by cases a <;> rfl
def EI {ss:Jo}(h:ss.Nodup) (hl:ss.length<=18):fLs [.lst (ss.map λs:List Int=>W.tup (s.map W.int))]=.ok (.int (ss.length:Int)):=by
 change (match P2 (ss.map λs:List Int=>W.tup (s.map W.int)) with|some ks=>if (ss.map λs:List Int=>W.tup (s.map W.int)).length<=18/\ks.Nodup then R.ok (W.int ((ss.map λs:List Int=>W.tup (s.map W.int)).length:Int)) else .stuck|none=>.stuck)=_;rw[lg];dsimp only;rw[qA7,qA2 ⟨hl,h⟩]
def rLs (K:Frag):List V->Hp->VK->Prop:=λxs H Q=>∃(p:Addr)(vs:List V)(ks:Jo),xs = [.ref p]/\SqL K H p vs/\vs.length<=18/\vs.length=ks.length/\(∀(i:Nat)(v:V),vs[i]?=some v->∃b,v=.ref b/\H b=some (.tup ((M7 (ks.getD i [])).map kV)))/\ks.Nodup/\Q (.int vs.length) H
def oR {X:Cx}{a:Expr}{ta:TA}{p pos p2 pos2:Pos}(hc:X.calm=true) (hu:X.A.units+64<cLine) (ab:Gl X "len") (a7:X.mg "len" = none) (hg:Gl X "set") (hm:X.mg "set" = none) (ha:PA X [a] ta) (hs:starEach [a] X.env = [(false,eval a X.env)]:=by rfl) (a6:starEach [.Call (.Name "set" p2) [a] [] pos2] X.env = [(false,eval (.Call (.Name "set" p2) [a] [] pos2) X.env)]:=by rfl):PE X (.Call (.Name "len" p) [.Call (.Name "set" p2) [a] [] pos2] [] pos) (tCB (rLs X.K) ta):=by
 intro pins s σ H Q I h;refine qO1 (F4 I ab a7 qC4 ?_ QV QV);refine qS4 ?_ a6 QZ;rw[a6]
 change wpAny _ _ (spliced [(false,eval (.Call (.Name "set" p2) [a] [] pos2) X.env)]) _ _ s;refine qT7 ?_;refine qO1 (F4 I hg hm PyProof.Rows.boot_set ?_ QV QV);refine qF4 (thn (ha pos2 pins s σ H _ I h) λus s1 a3=>?_) hs QZ;obtain ⟨vs,H1,I1,r1,q1⟩:=a3;obtain ⟨q,O,ks,e,hq,b4,b3,hk,nd,hQ⟩:=q1;subst e;obtain ⟨u,rfl,ru⟩:=K4 r1;cases ru;obtain ⟨its,r',pl,hz⟩:=I1.list hq;have hlen:=r'.length;refine ST.call_set_tuples (kd:=t9 X.prog X.w) (key:=λi=>M7 (ks.getD i [])) (I1.ok.hd hc) ox pl.isList (λi v hv=>?_) (λi j a8 hj z=>?_) (by rw[qB8];omega) λh' tk wr hS L=>?_
 .have hv:its[i]?=some v:=by simpa using hv
  have hi:i<O.length:=by have:=(qA8.mp hv).1;omega
  obtain ⟨b,eb,hb⟩:=hk i O[i] (qB4 hi);obtain ⟨v',a4,rv⟩:=r'.get (qB4 hi);rw[hv]at a4;cases a4;rw[eb]at rv;cases rv;show ⟨b,rfl,aQ I1.hok hb⟩
 .rw [qB8]at hj
  have:=ji z
  rw[qA1,qA1,qB4 ox,qB4 ox]at this;show qP2.mp nd i j ox ox a8 this
 .refine qU6 ?_;obtain ⟨es,ep,t,ho,T,hsz,hn,_,_⟩:=hS;have a5:t.fits es.size=true:=by
   unfold SetTable.fits SetTable.fill;rw[T.d,hsz]
   have:=T.f
   simp;omega
  rw[qA7,qE4]at hn;have e0:its.toArray.size=its.length:=QX;have b0:es.size=O.length:=ox;refine call_len_set (s:={ s1 with heap:=h',toks:=tk }) ho ⟨rfl,rfl,rfl⟩ rfl a5 ox ⟨.int _,H1,(I1.kept (t':=tk) λb o e=>L b o (qB3 e) e).tok _,⟨tk+1,by rw[b0]⟩,hQ⟩
def fO:∀{vs:List V}{ws:JZ}{ks:Jo},Reps K G vs ws->P2 ws=some ks->vs.length=ks.length/\∀(i:Nat) (v:V),vs[i]?=some v->∃b,v=.ref b/\G b=some (.tup ((M7 (ks.getD i [])).map kV))
 |_,_,_,.nil,e=>by cases e;show ⟨rfl,λi v h=>by simp at h⟩
 | _,_,_,@Reps.cons _ _ v w vs ws r rs,e=>by
  unfold P2 at e;cases hw:Y9 w with
  |none=>rw[hw]at e;cases e
  | some k=>
   cases q:P2 ws with
   |none=>rw[hw,q]at e;cases e
   | some ks=>
    rw[hw,q]at e;cases e;obtain ⟨h1,h2⟩:=fO rs q;refine ⟨by rw[qC1,qC1,h1],λi O L=>?_⟩;cases i with
    | zero=>
     cases L;show lh r hw
    |succ i=>show h2 i O L
def um:Cal K .B d (rLs K) fLs:=by
 intro EX H0 Hs G H ρ σ Ha vs ws Q I s m o;cases m with
 |nil=>show o.elim
 | cons a t=>
  cases t with
  |cons _ _=>rw[EJ]at o;show o.elim
  | nil=>
   rename_i w v
   cases w <;> first|show o.elim|skip
   rename_i ws
   obtain ⟨p,O,rfl,hs,r⟩:=a.lstB I;change Out EX G H (mdW K d H0 Hs) (match P2 ws with|some ks=>if ws.length<=18/\ks.Nodup then R.ok (W.int (ws.length:Int)) else .stuck|none=>.stuck) Q at o;cases hk:P2 ws with
   |none=>rw[hk]at o;show o.elim
   | some ks=>
    rw[hk]at o;dsimp only at o;by_cases c:ws.length<=18/\ks.Nodup
    .rw [qA2 c]at o
     obtain ⟨L,h2⟩:=fO r hk;refine ⟨p,O,ks,rfl,SqL.of hs,by rw[r.length];show c.1,L,λi v q=>?_,c.2,by rw[r.length];show o _ G H (Ext.refl I.gh) (Md.sca rfl (λ_=>.int) d)⟩;obtain ⟨b,e1,e2⟩:=h2 i v q;show ⟨b,e1,I.join_H _ _ e2⟩
    .rw[qA4 c]at o;show o.elim
def rV {X:Cx}{K:Frag}{EX:EXT}{d:Mode}{a:Expr}{mr:JW}{p pos O pos2:Pos}(hc:X.calm=true) (hu:X.A.units+64<cLine) (a4:Gl X "len") (L:X.mg "len" = none) (hg:Gl X "set") (hm:X.mg "set" = none) (ha:PA X [a] (tA K EX .B mr)) (hK:X.K=K:=by rfl) (hs:starEach [a] X.env = [(false,eval a X.env)]:=by rfl) (a3:starEach [.Call (.Name "set" O) [a] [] pos2] X.env = [(false,eval (.Call (.Name "set" O) [a] [] pos2) X.env)]:=by rfl):PE X (.Call (.Name "len" p) [.Call (.Name "set" O) [a] [] pos2] [] pos) (tM K EX d (bA fLs mr)):=by
 subst hK;show (oR hc hu a4 L hg hm ha hs a3).mono λ_ _ _ q=>uj um q
abbrev tI (ns:Jg):W:=.tup (ns.map W.int)
abbrev lI (ns:Jg):W:=.lst (ns.map W.int)
def F3 (ns:Jg):l9 (ns.map W.int)=true:=by
 induction ns with
 |nil=>rfl
 |cons n ns q=>rw[qC0];simp only [l9,noL,q,qM2]
def xL (n:Bool) (i j:Int):l5 n (.int i) (.int j)=.ok (.bl (if n then !decide (i=j) else decide (i=j))):=by
 change R.ok (W.bl (if n then !decide (V.int i=V.int j) else decide (V.int i=V.int j)))=_;rw[show decide (V.int i=V.int j)=decide (i=j) from qW0.mpr ⟨V.int.inj,congrArg _⟩]
def xM (n:Bool) (i j:Bool):l5 n (.bl i) (.bl j)=.ok (.bl (if n then !decide (i=j) else decide (i=j))):=by
 change R.ok (W.bl (if n then !decide (V.bl i=V.bl j) else decide (V.bl i=V.bl j)))=_;rw[show decide (V.bl i=V.bl j)=decide (i=j) from qW0.mpr ⟨V.bl.inj,congrArg _⟩]
def xH (n:Bool) (i j:Str):l5 n (.str i) (.str j)=.ok (.bl (if n then !decide (i=j) else decide (i=j))):=by
 change R.ok (W.bl (if n then !decide (V.str i=V.str j) else decide (V.str i=V.str j)))=_;rw[show decide (V.str i=V.str j)=decide (i=j) from qW0.mpr ⟨V.str.inj,congrArg _⟩]
def xI (n:Bool):l5 n .non .non=.ok (.bl (!n)):=by cases n <;> rfl
def xJ (n:Bool) (i:Int):l5 n .non (.int i)=.ok (.bl n):=by cases n <;> rfl
def xK (n:Bool) (i:Int):l5 n (.int i) .non=.ok (.bl n):=by cases n <;> rfl
def atW {ns:Jg}{i:Int}(h0:0<=i) (q:i<ns.length):L2.atI (ns.map W.int) i=some (.int (ns.getD i.toNat 0)):=by
 unfold L2.atI;rw[qA7,X2 h0 q]
 change (ns.map W.int)[i.toNat]?=_;rw[qC9,L5 ox];rfl
def dW {k:Nat}{w:W}(h:ws[k]?=some w):L2.atI ws (k:Int)=some w:=by
 have hk:=(qA8.mp h).1;unfold L2.atI;rw[X2 ox ox,qG3];show h
def andThen (r:R Fl) (n:JV):R Fl:=r>>=λf=>match f with
 | .nx q=>n q
 | .rt w=>.ok (.rt w)
 | .bk q=>.ok (.bk q)
 | .ct q=>.ok (.ct q)
def xc (m n:JV)(ρ:Rho):c9 m n ρ=andThen (m ρ) n:=rfl
def nu (ρ:Rho)(n:JV):andThen (.ok (.nx ρ)) n=n ρ:=rfl
def nt (w:W)(n:JV):andThen (.ok (.rt w)) n=.ok (.rt w):=rfl
def ny (ρ:Rho)(n:JV):andThen (.ok (.bk ρ)) n=.ok (.bk ρ):=rfl
def nv (ρ:Rho)(n:JV):andThen (.ok (.ct ρ)) n=.ok (.ct ρ):=rfl
def Ex (w:W)(ρ:Rho):mC w ρ=.ok w:=rfl
def Fq (f:W->R W)(ma:JJ)(ρ:Rho):b1 f ma ρ=(ma ρ>>=f):=rfl
def R2b (a b:R W)(f:W->W->R W):R W:=a>>=λx=>b>>=λy=>f x y
def Fp (f:W->W->R W)(ma mb:JJ)(ρ:Rho):b2 f ma mb ρ=R2b (ma ρ) (mb ρ) f:=rfl
def DK (x y:W)(f:W->W->R W):R2b (.ok x) (.ok y) f=f x y:=rfl
def Fo (f:List W->R W)(ma:JW)(ρ:Rho):bA f ma ρ=(ma ρ>>=f):=rfl
def Fn (f:List W->R JZ)(ma:JW)(ρ:Rho):bI f ma ρ=(ma ρ>>=f):=rfl
def Fm (ma:JJ)(ρ:Rho):bS ma ρ=(ma ρ>>=y4):=rfl
def Fv (ρ:Rho):aN ρ=.ok []:=rfl
def dY (a:R W)(b:R JZ):R JZ:=a>>=λx=>b>>=λxs=>.ok (x::xs)
def Fw (ma:JJ)(q:JW)(ρ:Rho):aC ma q ρ=dY (ma ρ) (q ρ):=rfl
def uC (x:W)(xs:JZ):dY (.ok x) (.ok xs)=.ok (x::xs):=rfl
def yk (ma:JJ)(ρ:Rho):bj ma ρ=(ma ρ>>=chk):=rfl
def uo (ma:JJ)(ρ:Rho):e9 ma ρ=(ma ρ>>=toB):=rfl
def vI (a b:JK)(ρ:Rho):gy a b ρ=rAnd (a ρ) (b ρ):=rfl
def yJ (a b:JK)(ρ:Rho):J0 a b ρ=rOr (a ρ) (b ρ):=rfl
def vH (a:JK)(ρ:Rho):t7 a ρ=mv (a ρ):=rfl
def wd (x y:Bool):rAnd (.ok x) (.ok y)=.ok (x&&y):=by cases x <;> rfl
def we (r:R Bool):rAnd (.ok false) r=.ok false:=rfl
def wc (r:R Bool):rAnd (.ok true) r=r:=rfl
def zY (x y:Bool):rOr (.ok x) (.ok y)=.ok (x||y):=by cases x <;> rfl
def zX (r:R Bool):rOr (.ok true) r=.ok true:=rfl
def zZ (r:R Bool):rOr (.ok false) r=r:=rfl
def vY (x:Bool):mv (.ok x)=.ok (!x):=rfl
def vF (a b:JJ)(ρ:Rho):qQ a b ρ=bv (a ρ) (b ρ):=rfl
def yC (a b:JJ)(ρ:Rho):vOr a b ρ=ip (a ρ) (b ρ):=rfl
def vD (a:JJ)(ρ:Rho):vNot a ρ=mq (a ρ):=rfl
def rR (x y:Bool):bv (.ok (.bl x)) (.ok (.bl y))=.ok (.bl (x&&y)):=by cases x <;> rfl
def rS (r:R W):bv (.ok (.bl false)) r=.ok (.bl false):=rfl
def rQ (r:R W):bv (.ok (.bl true)) r=r:=rfl
def vW (x y:Bool):ip (.ok (.bl x)) (.ok (.bl y))=.ok (.bl (x||y)):=by cases x <;> rfl
def vV (r:R W):ip (.ok (.bl true)) r=.ok (.bl true):=rfl
def vX (r:R W):ip (.ok (.bl false)) r=r:=rfl
def rP (x:Bool):mq (.ok (.bl x))=.ok (.bl (!x)):=rfl
def mz (c:R Bool)(a b:R W):R W:=c>>=λt=>if t then a else b
def yD (c:JK)(a b:JJ)(ρ:Rho):vIf c a b ρ=mz (c ρ) (a ρ) (b ρ):=rfl
def vZ (a b:R W):mz (.ok true) a b=a:=rfl
def wb (a b:R W):mz (.ok false) a b=b:=rfl
def wa (t:Bool)(x y:W):mz (.ok t) (.ok x) (.ok y)=.ok (if t then x else y):=by cases t <;> rfl
def jG (f q:W->W->R W)(a b c:R W):R W:=a>>=λx=>b>>=λy=>f x y>>=λz=>toB z>>=λt=>if t then c>>=λu=>q y u else .ok (.bl false)
def nN (f q:W->W->R W)(ma mb mc:JJ)(ρ:Rho):cV f q ma mb mc ρ=jG f q (ma ρ) (mb ρ) (mc ρ):=rfl
def qK (g g':Int->Int->Bool) (i j k:Int):jG (fI0 λi j=>.bl (g i j)) (fI0 λi j=>.bl (g' i j)) (.ok (.int i)) (.ok (.int j)) (.ok (.int k))=.ok (.bl (g i j&&g' j k)):=by
 unfold jG
 change (if g i j=true then _ else _)=_;cases h:g i j <;> simp [fI0]
def mG (ws:JZ):R W:=lim ws.length (.tup ws)
def mH (ws:JZ):R W:=lim ws.length (.lst ws)
def vC (ma:JW)(ρ:Rho):B1 ma ρ=(ma ρ>>=mG):=rfl
def vE (ma:JW)(ρ:Rho):C0 ma ρ=(ma ρ>>=mH):=rfl
def Ep (ρ:Rho):pN ρ=.ok none:=rfl
def Eo (m:JJ)(ρ:Rho):pS m ρ=(m ρ>>=gB):=rfl
def oV (i:Int):gB (.int i)=.ok (some i):=rfl
def Rsl (c:Bool)(x:R W)(l u:R Jv):R W:=x>>=λx=>l>>=λl=>u>>=λu=>toR (lstOf x)>>=λws=>chks c (E5 ws l u)
def yB (c:Bool)(m:JJ)(q L:Rho->R Jv)(ρ:Rho):vSl c m q L ρ=Rsl c (m ρ) (q ρ) (L ρ):=rfl
def yq (c:Bool)(ws:JZ)(l u:Jv):Rsl c (.ok (.lst ws)) (.ok l) (.ok u)=chks c (E5 ws l u):=rfl
def yo (c:Bool)(ws:JZ)(l u:Jv):Rsl c (.ok (.scr ws)) (.ok l) (.ok u)=chks c (E5 ws l u):=rfl
def vo (r:R JZ)(n:Nat)(mg:JX)(mc:JK)(me:JJ)(ρ:Rho):R W:=r>>=λws=>n5 n mg mc me ws ρ
def qP (n:Nat)(q:JW)(mg:JX)(mc:JK)(me:JJ)(ρ:Rho):n8 n q mg mc me ρ=vo (q ρ) n mg mc me ρ:=rfl
def uD (ws:JZ)(n:Nat)(mg:JX)(mc:JK)(me:JJ)(ρ:Rho):vo (.ok ws) n mg mc me ρ=n5 n mg mc me ws ρ:=rfl
def ze (ρ:Rho):sNx ρ=.ok (.nx ρ):=rfl
def zh (ρ:Rho):sBk ρ=.ok (.bk ρ):=rfl
def zf (ρ:Rho):sCt ρ=.ok (.ct ρ):=rfl
def vn (r:R W)(ρ:Rho):R Fl:=r>>=λ_=>.ok (.nx ρ)
def rA (m:JJ)(ρ:Rho):DU m ρ=vn (m ρ) ρ:=rfl
def uw (w:W)(ρ:Rho):vn (.ok w) ρ=.ok (.nx ρ):=rfl
def im (w:W):R Fl:=.ok (.rt w)
def vO (m:JJ)(ρ:Rho):g7 m ρ=(m ρ>>=im):=rfl
def vU (w:W):im w=.ok (.rt w):=rfl
def rz (ρ:Rho):DR ρ=.ok (.rt .non):=rfl
def fv (r:R W)(f:W->Sl)(i:Nat)(ρ:Rho):R Fl:=r>>=λw=>.ok (.nx (ρ.set i (f w)))
def DP (i:Nat)(m:JJ)(ρ:Rho):sV i m ρ=fv (m ρ) Sl.val i ρ:=rfl
def DQ (i:Nat)(m:JJ)(ρ:Rho):sU i m ρ=fv (m ρ) Sl.par i ρ:=rfl
def DT (i:Nat)(m:JJ)(ρ:Rho):sF i m ρ=fv (m ρ) P0 i ρ:=rfl
def yr (w:W)(f:W->Sl)(i:Nat)(ρ:Rho):fv (.ok w) f i ρ=.ok (.nx (ρ.set i (f w))):=rfl
def oa (ws:JZ):P0 (.lst ws)=.own ws:=rfl
def nX (ws:JZ):P0 (.tup ws)=.val (.tup ws):=rfl
def og (i:Int):P0 (.int i)=.val (.int i):=rfl
def rg (i:Bool):P0 (.bl i)=.val (.bl i):=rfl
def nZ:P0 .non=.val .non:=rfl
def nY (i:Str):P0 (.str i)=.val (.str i):=rfl
def yG:Option Rho->R Fl
 |some ρ=>.ok (.nx ρ)
 |none=>.stuck
def DJ (r:R W)(mg:JX)(ρ:Rho):R Fl:=r>>=λw=>toR (mg w ρ)>>=λq=>.ok (.nx q)
def DS (mg:JX)(m:JJ)(ρ:Rho):sG mg m ρ=DJ (m ρ) mg ρ:=rfl
def yw (w:W) (mg:JX) (ρ:Rho):DJ (.ok w) mg ρ=yG (mg w ρ):=by
 change (toR (mg w ρ)>>=_)=_;cases mg w ρ <;> rfl
def nS (ρ:Rho):yG (some ρ)=.ok (.nx ρ):=rfl
def DG (r:R JZ)(mg:JX)(mb:JV)(ρ:Rho):R Fl:=r>>=λws=>B2 mg mb ws ρ
def vQ (q:JW)(mg:JX)(mb:JV)(ρ:Rho):z6 q mg mb ρ=DG (q ρ) mg mb ρ:=rfl
def yt (ws:JZ)(mg:JX)(mb:JV)(ρ:Rho):DG (.ok ws) mg mb ρ=B2 mg mb ws ρ:=rfl
def vP (i:Nat)(m:JV)(ρ:Rho):eE i m ρ=m (frz i ρ):=rfl
def fc:Option Sl->Nat->Rho->Rho
 |some (.own ws),i,ρ=>ρ.set i (.val (.lst ws))
 |_,_,ρ=>ρ
def BY (i:Nat) (ρ:Rho):frz i ρ=fc (ρ[i]?) i ρ:=by
 unfold frz fc;rcases h:ρ[i]? with _|s
 .rfl
 .cases s <;> rfl
def tS (ws:JZ)(i:Nat)(ρ:Rho):fc (some (.own ws)) i ρ=ρ.set i (.val (.lst ws)):=rfl
def tQ (w:W)(i:Nat)(ρ:Rho):fc (some (.val w)) i ρ=ρ:=rfl
def tR (w:W)(i:Nat)(ρ:Rho):fc (some (.par w)) i ρ=ρ:=rfl
def xA (i:Nat)(ρ:Rho):fc (some .un) i ρ=ρ:=rfl
def rdS (d:Mode):Option Sl->R W
 |some (.val w)=>(match d with | .F=>chk w|_=>.ok w)
 |some (.par w)=>(match d with | .F=>chk w | .V=>chk w | .C=>chk w|_=>.ok w)
 |some (.own ws)=>(match d with | .C=>.ok (.lst ws) | .B=>.ok (.lst ws)|_=>.stuck)
 |some (.iop _ ws)=>(match d with | .B=>.ok (.lst ws) | .U=>.ok (.lst ws)|_=>.stuck)
 |some (.hz w)=>(match d with | .B=>.ok w | .U=>.ok w|_=>.stuck)
 |_=>.stuck
def eR (d:Mode) (i:Nat) (ρ:Rho):b6 d i ρ=rdS d (ρ[i]?):=by
 unfold b6 rdS;rfl
def zM (w:W):rdS .F (some (.val w))=chk w:=rfl
def zK (w:W):rdS .V (some (.val w))=.ok w:=rfl
def zL (w:W):rdS .U (some (.val w))=.ok w:=rfl
def zN (w:W):rdS .C (some (.val w))=.ok w:=rfl
def zO (w:W):rdS .B (some (.val w))=.ok w:=rfl
def zR (w:W):rdS .F (some (.par w))=chk w:=rfl
def zP (w:W):rdS .V (some (.par w))=chk w:=rfl
def zQ (w:W):rdS .U (some (.par w))=.ok w:=rfl
def zS (w:W):rdS .C (some (.par w))=chk w:=rfl
def zT (w:W):rdS .B (some (.par w))=.ok w:=rfl
def zU (ws:JZ):rdS .C (some (.own ws))=.ok (.lst ws):=rfl
def zV (ws:JZ):rdS .B (some (.own ws))=.ok (.lst ws):=rfl
def retS (d:Mode):Option Sl->R Fl
 |some (.own ws)=>.ok (.rt (.lst ws))
 |o=>rdS d o>>=im
def mK (d:Mode) (i:Nat) (ρ:Rho):x8 d i ρ=retS d (ρ[i]?):=by
 unfold x8 retS;rw[eR];rcases h:ρ[i]? with _|s
 .rfl
 .cases s <;> rfl
def rK (d:Mode)(ws:JZ):retS d (some (.own ws))=.ok (.rt (.lst ws)):=rfl
def rG (d:Mode)(w:W):retS d (some (.val w))=(rdS d (some (.val w))>>=im):=rfl
def rJ (d:Mode)(w:W):retS d (some (.par w))=(rdS d (some (.par w))>>=im):=rfl
def uq (o:Option Sl) (r:R W) (i:Nat) (ρ:Rho):R Fl:=match o with
 |some (.own ws)=>r>>=λw=>if ws.length<1000 then .ok (.nx (ρ.set i (.own (ws ++ [w])))) else .stuck
 |_=>.stuck
def xi (i:Nat)(m:JJ)(ρ:Rho):K6 i m ρ=uq (ρ[i]?) (m ρ) i ρ:=rfl
def ym (ws:JZ)(w:W)(i:Nat)(ρ:Rho):uq (some (.own ws)) (.ok w) i ρ=if ws.length<1000 then .ok (.nx (ρ.set i (.own (ws ++ [w])))) else .stuck:=rfl
def yV (o:Option Sl) (a b:R W) (i:Nat) (ρ:Rho):R Fl:=match o with
 | some (.own ws)=>b>>=λw=>a>>=λk=>(match k with
  | .int k=>(match ixN ws.length k with
   |some j=>.ok (.nx (ρ.set i (.own (ws.set j w))))
   |none=>.stuck)
  |_=>.stuck)
 |_=>.stuck
def xb (i:Nat)(q me:JJ)(ρ:Rho):iX i q me ρ=yV (ρ[i]?) (q ρ) (me ρ) i ρ:=rfl
def yW (o:Option Nat) (ws:JZ) (w:W) (i:Nat) (ρ:Rho):R Fl:=match o with
 |some j=>.ok (.nx (ρ.set i (.own (ws.set j w))))
 |none=>.stuck
def vM (ws:JZ)(w:W) (k:Int)(i:Nat)(ρ:Rho):yV (some (.own ws)) (.ok (.int k)) (.ok w) i ρ=yW (ixN ws.length k) ws w i ρ:=rfl
def om (j:Nat)(ws:JZ)(w:W)(i:Nat)(ρ:Rho):yW (some j) ws w i ρ=.ok (.nx (ρ.set i (.own (ws.set j w)))):=rfl
def Dz (f:Int->Int->Int) (a b:R W) (i:Nat) (ρ:Rho):R Fl:=a>>=λx=>b>>=λy=>match x,y with
 | .int a,.int b=>.ok (.nx (ρ.set i (.val (.int (f a b)))))
 |_,_=>.stuck
def xh (i:Nat) (f:Int->Int->Int) (m:JJ) (ρ:Rho):jb i f m ρ=Dz f (rdS .B (ρ[i]?)) (m ρ) i ρ:=by
 rw[<- eR];rfl
def yl (f:Int->Int->Int) (a b:Int)(i:Nat)(ρ:Rho):Dz f (.ok (.int a)) (.ok (.int b)) i ρ=.ok (.nx (ρ.set i (.val (.int (f a b))))):=rfl
def ifS (c:R Bool)(m n:JV)(ρ:Rho):R Fl:=c>>=λb=>if b then m ρ else n ρ
def Bb (c:JK)(m n:JV)(ρ:Rho):mIf c m n ρ=ifS (c ρ) m n ρ:=rfl
def BN (m n:JV)(ρ:Rho):ifS (.ok true) m n ρ=m ρ:=rfl
def BO (m n:JV)(ρ:Rho):ifS (.ok false) m n ρ=n ρ:=rfl
def R0 (r:R Fl):R W:=r>>=λf=>match f with
 | .rt w=>.ok w
 | .nx _=>.ok .non
 |_=>.stuck
def W7 (h:ws.length=n):j1 n N m ws=R0 (m (ws.map Sl.par++List.replicate (N-n) Sl.un)):=by unfold j1;rw[qA2 h];rfl
def zq {N:Nat}{m:JV}(a:W):j1 1 N m [a]=R0 (m (Sl.par a::List.replicate (N-1) Sl.un)):=W7 rfl
def zp {N:Nat}{m:JV}(a b:W):j1 2 N m [a,b]=R0 (m (Sl.par a::Sl.par b::List.replicate (N-2) Sl.un)):=W7 rfl
def zo {N:Nat}{m:JV}(a b c:W):j1 3 N m [a,b,c]=R0 (m (Sl.par a::Sl.par b::Sl.par c::List.replicate (N-3) Sl.un)):=W7 rfl
def zn {N:Nat}{m:JV}(a b c d:W):j1 4 N m [a,b,c,d]=R0 (m (Sl.par a::Sl.par b::Sl.par c::Sl.par d::List.replicate (N-4) Sl.un)):=W7 rfl
def zm {N:Nat}{m:JV}(a b c d e:W):j1 5 N m [a,b,c,d,e]=R0 (m (Sl.par a::Sl.par b::Sl.par c::Sl.par d::Sl.par e::List.replicate (N-5) Sl.un)):=W7 rfl
def xS (w:W):R0 (.ok (.rt w))=.ok w:=rfl
def xT (ρ:Rho):R0 (.ok (.nx ρ))=.ok .non:=rfl
def Ck (g:Int->Int->W) (i j:Int):fI0 g (.int i) (.int j)=.ok (g i j):=rfl
def fU_i (g:Int->W) (i:Int):fU g (.int i)=.ok (g i):=rfl
def EM (ws:JZ) (i:Int):fIx (.lst ws) (.int i)=toR (L2.atI ws i):=rfl
def EK (ws:JZ) (i:Int):fIx (.tup ws) (.int i)=toR (L2.atI ws i):=rfl
def EL (ws:JZ) (i:Int):fIx (.scr ws) (.int i)=toR (L2.atI ws i):=rfl
def qW {α:Type}(a:α):toR (some a)=.ok a:=rfl
def yH (b:Bool):toB (.bl b)=.ok b:=rfl
def Cf (ws:JZ):fLen [.lst ws]=.ok (.int ws.length):=rfl
def Cd (ws:JZ):fLen [.tup ws]=.ok (.int ws.length):=rfl
def Ce (ws:JZ):fLen [.scr ws]=.ok (.int ws.length):=rfl
def xE (c:Bool)(ws:JZ):gJ c [.lst ws]=chks c ws:=rfl
def xD (c:Bool)(ws:JZ):gJ c [.tup ws]=chks c ws:=rfl
def pZ (c:Bool)(ws:JZ):L1 c [.lst ws]=U8 c ws:=rfl
def Ca (c:Bool)(ws:JZ):L1 c [.tup ws]=U8 c ws:=rfl
def CN (ws:JZ):chks true ws=.ok (.lst ws):=rfl
def CV (ws:JZ):U8 true ws=.ok (.tup ws):=rfl
def fm (h:l9 ws=true):chks c ws=.ok (.lst ws):=by unfold chks;rw[h,qM1,qA2 rfl]
def fo (h:l9 ws=true):U8 c ws=.ok (.tup ws):=by unfold U8;rw[h,qM1,qA2 rfl]
def CQ (c:Bool)(ns:Jg):chks c (ns.map W.int)=.ok (.lst (ns.map W.int)):=fm (F3 ns)
def qt (c:Bool)(ns:Jg):U8 c (ns.map W.int)=.ok (.tup (ns.map W.int)):=fo (F3 ns)
def o5 (h:noL w=true):chk w=.ok w:=by unfold chk;rw[qA2 h]
def xX (i:Int):chk (.int i)=.ok (.int i):=rfl
def CU (i:Bool):chk (.bl i)=.ok (.bl i):=rfl
def xV (i:Str):chk (.str i)=.ok (.str i):=rfl
def xW:chk .non=.ok .non:=rfl
def CS (ns:Jg):chk (.tup (ns.map W.int))=.ok (.tup (ns.map W.int)):=o5 (F3 ns)
def EO (g:Int->Int->Int) (i j:Int):f2 g [.int i,.int j]=.ok (.int (g i j)):=rfl
def yZ (ws:JZ):y4 (.lst ws)=.ok ws:=rfl
def yX (ws:JZ):y4 (.tup ws)=.ok ws:=rfl
def yY (ws:JZ):y4 (.scr ws)=.ok ws:=rfl
def zE (j:Int):N8 [.int j]=M1 0 j:=rfl
def zD (i j:Int):rng2 [.int i,.int j]=M1 i j:=rfl
def gN_U (i:Nat)(w:W)(ρ:Rho):gN .U i w ρ=some (ρ.set i (.par w)):=rfl
def gN_V (i:Nat)(w:W)(ρ:Rho):gN .V i w ρ=some (ρ.set i (.val w)):=rfl
def gT_t (n:Nat)(g:List W->Rho->Option Rho)(ws:JZ)(ρ:Rho):gT n g (.tup ws) ρ=if ws.length=n then g ws ρ else none:=rfl
def tJ (f:JX)(g:List W->Rho->Option Rho)(w:W)(ws:JZ)(ρ:Rho):l4 f g (w::ws) ρ=(f w ρ).bind (g ws):=rfl
def xu (ρ:Rho):gsNil [] ρ=some ρ:=rfl
def sM (ws:JZ):mG ws=if ws.length<=1000 then .ok (.tup ws) else .stuck:=rfl
def sO (ws:JZ):mH ws=if ws.length<=1000 then .ok (.lst ws) else .stuck:=rfl
def xF (x:W)(T:String):fIsi [x,.ty T]=(toR ((tyW x).bind λA=>w8 A T)>>=λb=>.ok (.bl b)):=rfl
def Bt:w8 "NoneType" "tuple" = some false:=QV
def Bu:w8 "NoneType" "list" = some false:=QV
def Bx:w8 "list" "tuple" = some false:=QV
def Bo:w8 "tuple" "list" = some false:=QV
def Cg (n:Bool)(u:W):aW n u .non=.ok (.bl (if n then !isN u else isN u)):=rfl
def sR {α:Type}(g:α->W) (s:α->W):∀(as:List α),(∀a∈as,f (s a)=.ok (some (g a)))->mapR f (as.map s)=.ok (as.map g):=by
 intro as
 induction as with
 |nil=>show λ_=>rfl
 | cons a as q=>
  intro h;rw[qC0,mapR,h a qB2,q λb hb=>h b (qA6 _ hb)];rfl
def jT {α:Type}(g:α->W) (s:α->W) (c:α->Bool):∀(as:List α),(∀a∈as,f (s a)=.ok (if c a then some (g a) else none))->mapR f (as.map s)=.ok ((as.filter c).map g):=by
 intro as
 induction as with
 |nil=>show λ_=>rfl
 | cons a as q=>
  intro h;rw[qC0,mapR,h a qB2,q λb hb=>h b (qA6 _ hb),qW1];cases c a <;> rfl
def w4 {α:Type}(g:α->W) (s:α->W) (as:List α) (ρ:Rho) (hl:as.length<=1000) (h:∀a∈as,∃q,mg (s a) (ρ++List.replicate (N'-ρ.length) Sl.un)=some q/\me q=.ok (g a)):n5 N' mg yes me (as.map s) ρ=.ok (.lst (as.map g)):=by
 unfold n5;rw[qA7,qA2 hl,sR g s as];intro a ha;obtain ⟨q,e1,e2⟩:=h a ha;unfold elR;rw[e1];have L:yes q=.ok true:=rfl;dsimp only;rw[L];dsimp only;rw[e2]
def T7 {α:Type}(g:α->W) (s:α->W) (c:α->Bool) (as:List α) (ρ:Rho) (hl:as.length<=1000) (h:∀a∈as,∃q,mg (s a) (ρ++List.replicate (N'-ρ.length) Sl.un)=some q/\mc q=.ok (c a)/\(c a=true->me q=.ok (g a))):n5 N' mg mc me (as.map s) ρ=.ok (.lst ((as.filter c).map g)):=by
 unfold n5;rw[qA7,qA2 hl,jT g s c as];intro a ha;obtain ⟨q,e1,e2,L⟩:=h a ha;unfold elR;rw[e1];dsimp only;rw[e2];cases hc:c a with
 |false=>rfl
 |true=>dsimp only;rw[L hc];rfl
def rF (h0:-1000000<=z) (h:z<=1000000):M1 0 z=.ok ((List.range z.toNat).map λk=>W.int (k:Nat)):=by
 unfold M1;rw[qA2 ox];simp
def ax (h:((List.range n).map λk=>W.int (k:Nat))[i]?=some w):i<n/\w=.int (i:Nat):=by
 rw[qC9]at h;cases q:(List.range n)[i]? with
 |none=>rw[q]at h;cases h
 | some k=>
  rw[q]at h;obtain ⟨L,O⟩:=qA8.mp q;simp at L O;subst O;cases h;show ⟨L,rfl⟩
def Ba {ns:Jg}(h:(ns.map W.int)[i]?=some w):i<ns.length/\w=.int (ns.getD i 0):=by
 rw[qC9]at h;cases q:ns[i]? with
 |none=>rw[q]at h;cases h
 | some k=>
  rw[q]at h;cases h;show ⟨(qA8.mp q).1,by rw[xv q]⟩
def ng (xs:Jg)(lo hi:Jv):List Int:=(xs.drop (HT.sIx xs.length 0 lo)).take (HT.sIx xs.length xs.length hi-HT.sIx xs.length 0 lo)
def CG (ns:Jg) (lo hi:Jv):E5 (ns.map W.int) lo hi=(ng ns lo hi).map W.int:=by
 unfold E5 ng;rw[qA7,<- List.map_drop,<- List.map_take]
def yU (ns:Jg)(j:Nat) (z:Int):(ns.map W.int).set j (.int z)=(ns.set j z).map W.int:=by rw[List.map_set]
def DD (ns:Jg) (z:Int):ns.map W.int ++ [.int z]=(ns ++ [z]).map W.int:=by rw[qD1];rfl
def zJ (k:Nat) (z:Int):(List.replicate k [W.int z]).flatten=(List.replicate k z).map W.int:=by
 induction k with
 |zero=>rfl
 |succ k q=>rw[qT1,List.flatten_cons,q,qT1,qC0];rfl
def iP {α:Type}(as:List α)(f:α->Int):(as.map λa=>W.int (f a))=(as.map f).map W.int:=by rw[qD7];rfl
def K3 {f:Nat->Int}(h:k<n):((List.range n).map f).getD k 0=f k:=by
 rw[qA1,qC9];simp [h]
def bp {a b:Jg}(h:b.length=a.length):(ci [a.map W.int,b.map W.int]).map W.tup=(List.range a.length).map λk=>W.tup [.int (a.getD k 0),.int (b.getD k 0)]:=by
 apply qN0;intro i;simp only [ci,qC9,qJ4];by_cases hi:i<a.length
 .rw[L5 hi,L5 (ns:=b) ox];simp [hi]
 .simp [hi]
def vy {a b c:Jg}(h:b.length=a.length) (h':c.length=a.length):(ci [a.map W.int,b.map W.int,c.map W.int]).map W.tup=(List.range a.length).map λk=>W.tup [.int (a.getD k 0),.int (b.getD k 0),.int (c.getD k 0)]:=by
 apply qN0;intro i;simp only [ci,qC9,qJ4,List.zip];by_cases hi:i<a.length
 .rw[L5 hi,L5 (ns:=b) ox,L5 (ns:=c) ox];simp [hi]
 .simp [hi]
def cT (x y:W) (xs q:JZ) (L:y4 x=.ok xs) (O:y4 y=.ok q):K2 [x,y]=.ok ((ci [xs,q]).map W.tup):=by
 unfold K2;simp only [qC1,qL2,R4,L,O,Nat.reduceAdd,true_or,qN9]
def yx (x y z:W) (xs q L:JZ) (O:y4 x=.ok xs) (hy:y4 y=.ok q) (hz:y4 z=.ok L):K2 [x,y,z]=.ok ((ci [xs,q,L]).map W.tup):=by
 unfold K2;simp only [qC1,qL2,R4,O,hy,hz,Nat.reduceAdd,or_true,qN9]
def Ew {i j:Int}(h:-18446744073709551616<i/\i<18446744073709551616):fI CMul A9 (.int i) (.int j)=.ok (.int (i*j)):=by
 change (if CMul i j then _ else _)=_;rw[qA2 (.inl (by simpa using h))]
def Ev {i j:Int}(h:-18446744073709551616<j/\j<18446744073709551616):fI CMul A9 (.int i) (.int j)=.ok (.int (i*j)):=by
 change (if CMul i j then _ else _)=_;rw[qA2 (.inr (by simpa using h))]
def AY {i j:Int}(h:0<j):fI n4 n6 (.int i) (.int j)=.ok (.int (i%j)):=by
 change (if n4 i j then _ else _)=_;rw[qA2 h]
def div_ii {i j:Int}(h:0<j/\j<1073741824):fI J2 U1 (.int i) (.int j)=.ok (.int (i/j)):=by
 change (if J2 i j then _ else _)=_;rw[qA2 (show J2 i j from h)]
def AC {i j:Int}(h:0<=j/\j<=1000000 /\ -18446744073709551616<i/\i<18446744073709551616):fI cS tL (.int i) (.int j)=.ok (.int (i^j.toNat)):=by
 change (if cS i j then _ else _)=_;rw[qA2 ⟨h.1,h.2.1,ox⟩]
def DE {ws:JZ}{w:W}{i:Nat}{ρ:Rho}(h:ws.length<1000):uq (some (.own ws)) (.ok w) i ρ=.ok (.nx (ρ.set i (.own (ws ++ [w])))):=by rw[ym,qA2 h]
def wW {ws:JZ}(h:ws.length<=1000):mG ws=.ok (.tup ws):=by rw[sM,qA2 h]
def wX {ws:JZ}(h:ws.length<=1000):mH ws=.ok (.lst ws):=by rw[sO,qA2 h]
def qd {c:Bool}{us vs:JZ}(h:us.length+vs.length<=1000):mY c (.lst us) (.lst vs)=chks c (us++vs):=by
 change (if us.length+vs.length<=1000 then _ else _)=_;rw[qA2 h]
def Cc {c:Bool}{z:W}{k:Int}(h:0<=k/\k<=1000):fRep c (.lst [z]) (.int k)=chks c (List.replicate k.toNat [z]).flatten:=by
 change (if [z].length*k.toNat<=1000 /\ -1000<=k/\k<=1000 then _ else _)=_;rw[qA2 ⟨by simp only [qC1,qL2];omega,ox,h.2⟩]
def Fs {ns:Jg}{i:Int}(h:0<=i/\i<ns.length):L2.atI (ns.map W.int) i=some (.int (ns.getD i.toNat 0)):=atW h.1 h.2
def EB {n:Nat}{i:Int}(h:0<=i/\i<n):ixN n i=some i.toNat:=X2 h.1 h.2
def zA {z:Int}(h:-1000000<=z/\z<=1000000):M1 0 z=.ok ((List.range z.toNat).map λk=>W.int (k:Nat)):=rF h.1 h.2
def Ok (r:R W)(P:W->Prop):Prop:=∃w,r=.ok w/\P w
def Po (r:R Fl) (q:Rho->Prop) (Jr:W->Prop):Prop:=match r with
 | .ok (.nx ρ)=>q ρ
 | .ok (.rt w)=>Jr w
 |_=>False
def r6 (h:Po r (λ_=>P .non) P):Ok (R0 r) P:=by
 cases r with
 |ex _=>show h.elim
 |stuck=>show h.elim
 | ok f=>cases f with
  |nx ρ=>show ⟨_,rfl,h⟩
  |rt w=>show ⟨_,rfl,h⟩
  |bk _=>show h.elim
  |ct _=>show h.elim
def Q0 (h:Po r (λρ=>Po (n ρ) Jn Jr) Jr):Po (andThen r n) Jn Jr:=by
 cases r with
 |ex _=>show h.elim
 |stuck=>show h.elim
 | ok f=>cases f with
  |nx ρ=>show h
  |rt w=>show h
  |bk _=>show h.elim
  |ct _=>show h.elim
def Eh {ρ:Rho}{q:Rho->Prop}{Jr:W->Prop}:Po (.ok (.nx ρ)) q Jr=q ρ:=rfl
def Eg {w:W}{q:Rho->Prop}{Jr:W->Prop}:Po (.ok (.rt w)) q Jr=Jr w:=rfl
def M5 (q:b=true->Po (m ρ) Jn Jr) (L:b=false->Po (n ρ) Jn Jr):Po (ifS (.ok b) m n ρ) Jn Jr:=by
 cases b with
 |true=>show q rfl
 |false=>show L rfl
def aA (q:b=true->Po (andThen (m ρ) k) Jn Jr) (L:b=false->Po (andThen (n ρ) k) Jn Jr):Po (andThen (ifS (.ok b) m n ρ) k) Jn Jr:=by
 cases b with
 |true=>show q rfl
 |false=>show L rfl
def Po.mono (h:Po r Jn Jr) (q:∀ρ,Jn ρ->Jn' ρ) (L:∀w,Jr w->Jr' w):Po r Jn' Jr':=by
 cases r with
 |ex _=>show h
 |stuck=>show h
 | ok f=>cases f with
  |nx ρ=>show q ρ h
  |rt w=>show L w h
  |bk _=>show h
  |ct _=>show h
def oO (I:Nat->Rho->Prop):∀(ws:JZ) (k:Nat) (ρ:Rho),I k ρ ->
  (∀(i:Nat) (w:W) (ρ:Rho),ws[i]?=some w->I (k+i) ρ->∃q,mg w ρ=some q/\Po (mb q) (I (k+i+1)) Jr)->Po (B2 mg mb ws ρ) (I (k+ws.length)) Jr:=by
 intro ws
 induction ws with
 |nil=>show λk ρ h _=>h
 | cons w ws ih=>
  intro k ρ h st;obtain ⟨q,e1,p⟩:=st 0 w ρ rfl h;unfold B2;rw[e1]
  change Po (mb q>>=_) _ _
  revert p
  cases mb q with
  |ex _=>show λp=>p.elim
  |stuck=>show λp=>p.elim
  | ok f=>cases f with
   |bk _=>show λp=>p.elim
   |ct _=>show λp=>p.elim
   |rt w=>show λp=>p
   | nx L=>
    intro p
    have:=ih (k+1) L p λi w ρ hw O=>by
     have:=st (i+1) w ρ hw (by rw[<- qR1 k i];show O)
     rw[<- qR1 k i]at this;show this
    rw[qC1,<- qR1 k ws.length];show this
def dh (I:Nat->Rho->Prop) (h0:I 0 ρ) (st:∀(i:Nat) (w:W) (ρ:Rho),ws[i]?=some w->I i ρ->∃q,mg w ρ=some q/\Po (mb q) (I (i+1)) Jr) (hn:∀ρ,I ws.length ρ->Jn ρ):Po (B2 mg mb ws ρ) Jn Jr:=by
 have:=oO (mg:=mg) (mb:=mb) (Jr:=Jr) I ws 0 ρ h0 λi w ρ hw L=>by rw[qJ2]at L ⊢;show st i w ρ hw L
 rw[qJ2]at this;show this.mono hn λ_ h=>h
def p8 (I:Nat->Rho->Prop)(h0:I 0 ρ)(st:∀(i:Nat)(w:W)(ρ:Rho),ws[i]?=some w->I i ρ->∃q,mg w ρ=some q/\Po (mb q) (I (i+1)) Jr)(hn:∀ρ,I ws.length ρ->Po (n ρ) Jn Jr):Po (andThen (B2 mg mb ws ρ) n) Jn Jr:=Q0 (dh I h0 st hn)
def Y6 (I:Nat->Rho->Prop) (st:∀m ρ,I m ρ->∃t,c ρ=.ok t/\if t=true then Po (b ρ) (λL=>∃O,O<m/\I O L) Jr else Jn ρ):∀(m:Nat) (ρ:Rho),I m ρ->Po (J5 c b ρ) Jn Jr:=by
 have key:∀(m:Nat) (ρ:Rho),I m ρ->∃r,E9 c b (m+1) ρ=some r/\Po r Jn Jr:=by
  intro m
  induction m using Nat.strongRecOn with
  | ind m ih=>
   intro ρ h;obtain ⟨t,e,q⟩:=st m ρ h;unfold E9;rw[e];cases t with
   |false=>rw[qA4 qA3]at q;show ⟨_,rfl,q⟩
   | true=>
    rw[qA2 rfl]at q;dsimp only
    revert q
    cases b ρ with
    |ex _=>show λq=>q.elim
    |stuck=>show λq=>q.elim
    | ok f=>cases f with
     |bk _=>show λq=>q.elim
     |ct _=>show λq=>q.elim
     |rt w=>show λq=>⟨_,rfl,q⟩
     | nx L=>
      intro ⟨O,hm,h'⟩;obtain ⟨r,e',q'⟩:=ih O hm L h';show ⟨r,Z0 (O+1) L r e' m ox,q'⟩
 intro m ρ h;obtain ⟨r,e,q⟩:=key m ρ h;rw[fM e];show q
def kT (s:α->W) (p:α->Int->Prop):∀(as:List α),(∀a∈as,∃z,f (s a)=.ok (some (.int z))/\p a z)->∃q:List Int,mapR f (as.map s)=.ok (q.map W.int)/\Paired p as q
 | [],_=>⟨[],rfl,.nil⟩
 | a::as,h=>by
  obtain ⟨z,e,hz⟩:=h a QX;obtain ⟨q,e2,L⟩:=kT s p as λb hb=>h b (by simp [hb]);refine ⟨z::q,?_,.cons hz L⟩;rw[qC0,mapR,e,e2];rfl
def mL (p:α->Int->Prop) (hl:as.length<=1000) (h:∀a∈as,∃q,mg (s a) (ρ++List.replicate (N'-ρ.length) Sl.un)=some q/\Ok (me q) λw=>∃z,w=.int z/\p a z):∃L:List Int,n5 N' mg yes me (as.map s) ρ=.ok (lI L)/\Paired p as L:=by
 obtain ⟨L,e,O⟩:=kT (f:=elR mg yes me (ρ++List.replicate (N'-ρ.length) Sl.un)) s p as λa ha=>by
  obtain ⟨q,e1,w,e2,z,rfl,hz⟩:=h a ha;refine ⟨z,?_,hz⟩;unfold elR;rw[e1];have hy:yes q=.ok true:=rfl;dsimp only;rw[hy];dsimp only;rw[e2]
 refine ⟨L,?_,O⟩;unfold n5;rw[qA7,qA2 hl,e]
def iz {p:Nat->Int->Prop}(h:Paired p (List.range n) L):L.length=n/\∀k,k<n->p k (L.getD k 0):=by
 have hl:(List.range n).length=L.length:=Paired.length h;rw[qE4]at hl;refine ⟨hl.symm,λk hk=>?_⟩;have key:∀(l:JQ) (L:Jg) (k:Nat) (a:Nat),Paired p l L->l[k]?=some a->p a (L.getD k 0):=by
  intro l
  induction l with
  |nil=>intro L k a _ e;simp at e
  | cons b l O=>
   intro L k a q e;cases q with
   | cons h1 h2=>
    cases k with
    |zero=>simp at e;subst e;show h1
    |succ k=>simp at e;simpa using O _ k a h2 e
 show key _ L k k h (by simp [hk])
def OkL (r:R JZ)(P:List W->Prop):Prop:=∃w,r=.ok w/\P w
def oN (h:Ok r λw=>Jn (ρ.set i (f w))):Po (fv r f i ρ) Jn Jr:=by
 obtain ⟨w,rfl,q⟩:=h;show q
def kL (h:Ok r λw=>Po (n (ρ.set i (f w))) Jn Jr):Po (andThen (fv r f i ρ) n) Jn Jr:=Q0 (oN h)
def sC (h:OkL r λw=>Ok (f w) P):Ok (r>>=f) P:=by
 obtain ⟨w,rfl,q⟩:=h;show q
def Eu (h:Ok a λx=>P (x::xs)):OkL (dY a (.ok xs)) P:=by
 obtain ⟨w,rfl,q⟩:=h;show ⟨_,rfl,q⟩
def eL (p:α->Int->Prop) (hl:as.length<=1000) (h:∀a∈as,∃L,mg (s a) (ρ++List.replicate (N'-ρ.length) Sl.un)=some L/\Ok (me L) λw=>∃z,w=.int z/\p a z) (hp:∀O,Paired p as O->P (lI O)):Ok (n5 N' mg yes me (as.map s) ρ) P:=by
 obtain ⟨O,e,q⟩:=mL (mg:=mg) (me:=me) (ρ:=ρ) (N':=N') p hl h;show ⟨_,e,hp O q⟩
def sv (p:α->Int->Prop) (hl:as.length<=1000) (h:∀a∈as,∃L,mg (s a) (ρ++List.replicate (N'-ρ.length) Sl.un)=some L/\Ok (me L) λw=>∃z,w=.int z/\p a z) (hp:∀O,Paired p as O->P (tI O)):Ok (dY (n5 N' mg yes me (as.map s) ρ) (.ok [])>>=L1 c) P:=
 sC (Eu (eL p hl h λO q=>⟨_,by rw[pZ,qt],hp O q⟩))
def pf (p:Nat->Int->Prop) (hl:n<=1000) (h:∀k,k<n->∃L,mg (.int (k:Nat)) (ρ++List.replicate (N'-ρ.length) Sl.un)=some L/\Ok (me L) λw=>∃z,w=.int z/\p k z) (hp:∀O:List Int,O.length=n->(∀k,k<n->p k (O.getD k 0))->P (tI O)):Ok (dY (n5 N' mg yes me ((List.range n).map λk=>W.int (k:Nat)) ρ) (.ok [])>>=L1 c) P:=
 sv p (by simpa using hl) (λa ha=>h a (by simpa using ha)) λO q=>let ⟨a,b⟩:=iz q;hp O a b
def tO (i j:Int):aS i j=max i j:=by unfold aS;omega
def tN (i j:Int):fb i j=min i j:=by unfold fb;omega
def oW:Option Int->W
 |none=>.non
 |some i=>.int i
def oW_n:oW none=.non:=rfl
def oW_s (i:Int):oW (some i)=.int i:=rfl
def pp (o:Jv):noL (oW o)=true:=by cases o <;> rfl
def CT (o:Jv):chk (oW o)=.ok (oW o):=o5 (pp o)
def cG {α:Type}(f:α->W) (h:∀a,noL (f a)=true) (as:List α):l9 (as.map f)=true:=by
 induction as with
 |nil=>rfl
 |cons a as q=>rw[qC0];simp only [l9,h,q,qM2]
def eM (cs:Jj):l9 (cs.map oW)=true:=cG oW pp cs
def CP (c:Bool)(cs:Jj):chks c (cs.map oW)=.ok (.lst (cs.map oW)):=fm (eM cs)
def CY (c:Bool)(cs:Jj):U8 c (cs.map oW)=.ok (.tup (cs.map oW)):=fo (eM cs)
def BF (o:Jv):isN (oW o)=o.isNone:=by cases o <;> rfl
def rf (o:Jv):P0 (oW o)=.val (oW o):=by cases o <;> rfl
def bo {α:Type}(f:α->W){as:List α}{d:α}{i:Int}(h:0<=i/\i<as.length):L2.atI (as.map f) i=some (f (as.getD i.toNat d)):=by
 unfold L2.atI;rw[qA7,X2 h.1 h.2]
 change (as.map f)[i.toNat]?=_;have hi:i.toNat<as.length:=ox;rw[qC9,qA1];simp [hi]
def Fu {cs:Jj}{i:Int}(h:0<=i/\i<cs.length):L2.atI (cs.map oW) i=some (oW (cs.getD i.toNat none)):=bo oW h
def appO (cs:Jj)(o:Jv):cs.map oW ++ [oW o]=(cs ++ [o]).map oW:=by rw[qD1];rfl
def rO {f:Nat->W}(h:((List.range n).map f)[i]?=some w):i<n/\w=f i:=by
 rw[qC9]at h;cases q:(List.range n)[i]? with
 |none=>rw[q]at h;cases h
 | some k=>
  rw[q]at h;obtain ⟨L,O⟩:=qA8.mp q;simp at L O;subst O;cases h;show ⟨L,rfl⟩
def v9 (ns:Jg):noL (tI ns)=true:=F3 ns
def du (ss:Jo):l9 (ss.map tI)=true:=cG tI v9 ss
def CO (c:Bool)(ss:Jo):chks c (ss.map tI)=.ok (.lst (ss.map tI)):=fm (du ss)
def CW (c:Bool)(ss:Jo):U8 c (ss.map tI)=.ok (.tup (ss.map tI)):=fo (du ss)
def Ft {ss:Jo}{i:Int}(h:0<=i/\i<ss.length):L2.atI (ss.map tI) i=some (tI (ss.getD i.toNat [])):=bo tI h
def DC (ss:Jo)(s:Jg):ss.map tI ++ [tI s]=(ss ++ [s]).map tI:=by rw[qD1];rfl
def ud {α:Type}(xs:List α)(lo hi:Jv):List α:=(xs.drop (HT.sIx xs.length 0 lo)).take (HT.sIx xs.length xs.length hi-HT.sIx xs.length 0 lo)
def uc (f:α->W) (as:List α) (lo hi:Jv):E5 (as.map f) lo hi=(ud as lo hi).map f:=by
 unfold E5 ud;rw[qA7,<- List.map_drop,<- List.map_take]
def CF (ss:Jo)(lo hi:Jv):E5 (ss.map tI) lo hi=(ud ss lo hi).map tI:=uc tI ss lo hi
def CZ (ss q:Jo):ss.map tI++q.map tI=(ss++q).map tI:=by rw[qD1]
def Da (ss q:Jg):ss.map W.int++q.map W.int=(ss++q).map W.int:=by rw[qD1]
def zB {lo hi:Int}(h:-1000000<=lo/\lo<=1000000 /\ -1000000<=hi/\hi<=1000000):M1 lo hi=.ok ((List.range (hi-lo).toNat).map λk=>W.int (lo+(k:Nat))):=by
 unfold M1;rw[qA2 h]
def eqv_refl:∀w:W,PyData.eqv (pd w) (pd w)=true:=by
 intro w;refine W.rec (motive_1:=λw=>PyData.eqv (pd w) (pd w)=true) (motive_2:=λws=>PyData.eqvAll (pds ws) (pds ws)=true) ?_ ?_ ?_ ?_ ?_ ?_ ?_ ?_ ?_ ?_ ?_ ?_ w
 .rfl
 .intro b;cases b <;> rfl
 .intro b;show qR6 b
 .intro b;show qR6 b
 .intro b;rfl
 .show λws h=>h
 .show λws h=>h
 .show λws h=>h
 .intro b c;rfl
 .intro b;rfl
 .rfl
 .intro w ws q L;show (qG5 _ _).mpr ⟨q,L⟩
def tX (w:W):eqW w w=true:=eqv_refl w
def T0 {α:Type}(f:α->W) (n:Nat) (h:∀a,shp n (f a)=true) (as:List α):J1 n (as.map f)=true:=by
 induction as with
 |nil=>rfl
 |cons a as q=>rw[qC0];simp only [J1,h,q,qM2]
def S3 (n:Nat) (i:Int):shp n (.int i)=true:=by cases n <;> rfl
def oj (n:Nat)(b:Bool):shp n (.bl b)=true:=by cases n <;> rfl
def av (n:Nat)(ns:Jg):shp (n+1) (tI ns)=true:=T0 W.int n (S3 n) ns
def oh (n:Nat)(ns:Jg):shp (n+1) (lI ns)=true:=T0 W.int n (S3 n) ns
def hU (n:Nat)(ss:Jo):shp (n+2) (.lst (ss.map tI))=true:=T0 tI (n+1) (av n) ss
def tV (h:shp 8 w=true):fEq neg w w=.ok (.bl (!neg)):=by
 unfold fEq;rw[h,tX];cases neg <;> rfl
def eqI:∀(a b:Jg),PyData.eqvAll (pds (a.map W.int)) (pds (b.map W.int))=decide (a=b)
 | [],[]=>by simp [pds,PyData.eqvAll]
 | [],_::_=>by simp [pds,PyData.eqvAll]
 |_::_,[]=>by simp [pds,PyData.eqvAll]
 | x::a,y::b=>by
  simp only [qC0,pds,pd,PyData.eqvAll,PyData.eqv,eqI a b];by_cases h:x=y <;> by_cases h':a=b <;> simp [h,h']
def Cl (neg:Bool) (a b:Jg):fEq neg (tI a) (tI b)=.ok (.bl (if neg then !decide (a=b) else decide (a=b))):=by
 unfold fEq;rw[av,av]
 have:eqW (tI a) (tI b)=decide (a=b):=eqI a b
 rw[this];rfl
def Cp (neg:Bool) (a b:Jg):fEq neg (lI a) (lI b)=.ok (.bl (if neg then !decide (a=b) else decide (a=b))):=by
 unfold fEq;rw[oh,oh]
 have:eqW (lI a) (lI b)=decide (a=b):=eqI a b
 rw[this];rfl
def Cy:∀(a b:Jo),PyData.eqvAll (pds (a.map tI)) (pds (b.map tI))=decide (a=b)
 | [],[]=>by simp [pds,PyData.eqvAll]
 | [],_::_=>by simp [pds,PyData.eqvAll]
 |_::_,[]=>by simp [pds,PyData.eqvAll]
 | x::a,y::b=>by
  simp only [qC0,pds,pd,PyData.eqvAll,PyData.eqv,Cy a b,eqI];by_cases h:x=y <;> by_cases h':a=b <;> simp [h,h']
def Co (neg:Bool) (a b:Jo):fEq neg (.lst (a.map tI)) (.lst (b.map tI))=.ok (.bl (if neg then !decide (a=b) else decide (a=b))):=by
 unfold fEq;rw[hU,hU]
 have:eqW (.lst (a.map tI)) (.lst (b.map tI))=decide (a=b):=Cy a b
 rw[this];rfl
def jq (neg:Bool) (i j:Int):fEq neg (.int i) (.int j)=.ok (.bl (if neg then !decide (i=j) else decide (i=j))):=by
 unfold fEq;rw[S3,S3]
 have:eqW (.int i) (.int j)=decide (i=j):=by
  by_cases h:i=j <;> simp [eqW,pd,PyData.eqv,h]
 rw[this];rfl
def Cr (neg:Bool) (i j:Bool):fEq neg (.bl i) (.bl j)=.ok (.bl (if neg then !decide (i=j) else decide (i=j))):=by
 unfold fEq;rw[oj,oj]
 have:eqW (.bl i) (.bl j)=decide (i=j):=by cases i <;> cases j <;> rfl
 rw[this];rfl
def Cn (neg:Bool) (j:Int):fEq neg .non (.int j)=.ok (.bl neg):=by cases neg <;> rfl
def Cq (neg:Bool) (j:Int):fEq neg (.int j) .non=.ok (.bl neg):=by cases neg <;> rfl
def Cm (neg:Bool):fEq neg .non .non=.ok (.bl (!neg)):=by cases neg <;> rfl
def tW (g:List Bool->Bool) (bs:List Bool):dL g [.lst (bs.map W.bl)]=.ok (.bl (g bs)):=by
 change (toR (U9 (bs.map W.bl))>>=_)=_;rw[yg];rfl
def xG (g:List Int->Int) (ns:Jg):EN g [.lst (ns.map W.int)]=.ok (.int (g ns)):=by
 change (toR (v8 (ns.map W.int))>>=_)=_;rw[ints_map];rfl
def Ci (i:Int):fInt [.int i]=.ok (.int i):=rfl
def Cj (b:Bool):fInt [.bl b]=.ok (.int (if b then 1 else 0)):=rfl
def Cs (i:Int):fAbs [.int i]=.ok (.int (if i<0 then -i else i)):=rfl
def Cu (o:Option Sl) (r:R W) (c:Bool) (i:Nat) (ρ:Rho):R Fl:=match o with
 | some (.own ws)=>r>>=λw=>(match w with
  | .lst us=>if ws.length+us.length<=1000 then (if c||l9 us then .ok (.nx (ρ.set i (.own (ws++us)))) else .stuck) else .stuck
  |_=>.stuck)
 |_=>.stuck
def xg (i:Nat)(c:Bool)(m:JJ)(ρ:Rho):iZ i c m ρ=Cu (ρ[i]?) (m ρ) c i ρ:=rfl
def Ct {ws us:JZ}{c:Bool}{i:Nat}{ρ:Rho}(h:ws.length+us.length<=1000):Cu (some (.own ws)) (.ok (.lst us)) c i ρ=if c||l9 us then .ok (.nx (ρ.set i (.own (ws++us)))) else .stuck:=by
 change (if ws.length+us.length<=1000 then _ else _)=_;rw[qA2 h]
def zI (o:Option Sl) (i:Nat) (ρ:Rho):R Fl:=match o with
 |some (.own ws)=>.ok (.nx (ρ.set i (.own ws.reverse)))
 |_=>.stuck
def xf (i:Nat)(ρ:Rho):mRev i ρ=zI (ρ[i]?) i ρ:=rfl
def vT (ws:JZ)(i:Nat)(ρ:Rho):zI (some (.own ws)) i ρ=.ok (.nx (ρ.set i (.own ws.reverse))):=rfl
def iw (J:Rho->Prop)(q:Po r J Jr)(L:∀ρ,J ρ->Po (n ρ) Jn Jr):Po (andThen r n) Jn Jr:=Q0 (q.mono L λ_ h=>h)
def xz (i j:Int):D1 i j=.int (i+j):=rfl
def xx (i j:Int):TP.gSub i j=.int (i-j):=rfl
def BS (i j:Int):gLt i j=.bl (decide (i<j)):=rfl
def BT (i j:Int):gLe i j=.bl (decide (i<=j)):=rfl
def BU (i j:Int):gGt i j=.bl (decide (j<i)):=rfl
def BV (i j:Int):gGe i j=.bl (decide (j<=i)):=rfl
def xy (i:Int):K9 i=.int (-i):=rfl
def tP (i j:Int):vb i j=i+j:=rfl
def tK (i j:Int):ED i j=i-j:=rfl
def Cb {i:Int}(h:0<=i/\i<1000):fStr [.int i]=.ok (.str (toString i)):=by
 change (if i.natAbs.log2<1920 then _ else _)=_;rw[qA2];refine qD9 (Nat.log2_le_self _) ?_;omega
def Ch (neg:Bool)(u:W)(b:Bool):fIsB neg u (.bl b)=.ok (.bl (if neg then !W2 u b else W2 u b)):=rfl
def BK (i:Int)(b:Bool):W2 (.int i) b=false:=rfl
def BI (b:Bool):W2 .non b=false:=rfl
def BH (x:Str)(b:Bool):W2 (.str x) b=false:=rfl
def BG (x:JZ)(b:Bool):W2 (.tup x) b=false:=rfl
def BJ (x:JZ)(b:Bool):W2 (.lst x) b=false:=rfl
def BL (a b:Bool):W2 (.bl a) b=(a == b):=rfl
def Rcu (c:Bool)(r:R JZ)(f:List W->R W)(i:Nat)(ρ:Rho):R Fl:=if c then (r>>=λws=>f ws>>=λw=>.ok (.nx (ρ.set i (.par w)))) else .stuck
def zg (i:Nat)(f:List W->R W)(ma:JW)(ρ:Rho):sCU i f ma ρ=Rcu (noOwn ρ) (ma ρ) f i ρ:=rfl
def DI (r:R W)(i:Nat)(ρ:Rho):R Fl:=r>>=λw=>.ok (.nx (ρ.set i (.par w)))
def Fx (ws:JZ)(f:List W->R W)(i:Nat)(ρ:Rho):Rcu true (.ok ws) f i ρ=DI (f ws) i ρ:=rfl
def yu (w:W)(i:Nat)(ρ:Rho):DI (.ok w) i ρ=.ok (.nx (ρ.set i (.par w))):=rfl
def pk:noOwn []=true:=rfl
def wL (w:W)(ρ:Rho):noOwn (.val w::ρ)=noOwn ρ:=rfl
def wN (w:W)(ρ:Rho):noOwn (.par w::ρ)=noOwn ρ:=rfl
def wM (ρ:Rho):noOwn (.un::ρ)=noOwn ρ:=rfl
def xN {g:List Int->Int}{ns:Jg}(h:0<ns.length):bM g [tI ns]=.ok (.int (g ns)):=by
 change (toR (v8 (ns.map W.int))>>=_)=_;rw[ints_map]
 change (if 0<ns.length then _ else _)=_;rw[qA2 h]
def lB {g:List Int->Int}{ns:Jg}(h:0<ns.length):bM g [lI ns]=.ok (.int (g ns)):=by
 change (toR (v8 (ns.map W.int))>>=_)=_;rw[ints_map]
 change (if 0<ns.length then _ else _)=_;rw[qA2 h]
def zH (ws:JZ):eF [.lst ws]=.ok ws.reverse:=rfl
def rp0:=Z1 (@tO) (Z1 (@tN) (Z1 (@Eh) (Z1 (@Eg) (Z1 (@Ew) (Z1 (@Ev) (Z1 (@AY) (Z1 (@div_ii) (Z1 (@AC) (Z1 (@DE) (Z1 (@wW) (Z1 (@wX) (Z1 (@qd) (Z1 (@Cc) (Z1 (@Fs) (Z1 (@EB) (Z1 (@zA) (Z1 (@CG) (Z1 (@yU) (Z1 (@DD) (Z1 (@zJ) (Z1 (@xc) (Z1 (@nu) (Z1 (@nt) (@ny))))))))))))))))))))))))
def rp1:=Z1 (@nv) (Z1 (@Ex) (Z1 (@Fq) (Z1 (@Fp) (Z1 (@DK) (Z1 (@Fo) (Z1 (@Fn) (Z1 (@Fm) (Z1 (@Fv) (Z1 (@Fw) (Z1 (@uC) (Z1 (@yk) (Z1 (@uo) (Z1 (@vI) (Z1 (@yJ) (Z1 (@vH) (Z1 (@wd) (Z1 (@we) (Z1 (@wc) (Z1 (@zY) (Z1 (@zX) (Z1 (@zZ) (Z1 (@vY) (Z1 (@vF) (@yC))))))))))))))))))))))))
def rp2:=Z1 (@vD) (Z1 (@rR) (Z1 (@rS) (Z1 (@rQ) (Z1 (@vW) (Z1 (@vV) (Z1 (@vX) (Z1 (@rP) (Z1 (@yD) (Z1 (@vZ) (Z1 (@wb) (Z1 (@wa) (Z1 (@nN) (Z1 (@qK) (Z1 (@vC) (Z1 (@vE) (Z1 (@Ep) (Z1 (@Eo) (Z1 (@oV) (Z1 (@yB) (Z1 (@yq) (Z1 (@yo) (Z1 (@qP) (Z1 (@uD) (@ze))))))))))))))))))))))))
def rp3:=Z1 (@zh) (Z1 (@zf) (Z1 (@rA) (Z1 (@uw) (Z1 (@vO) (Z1 (@vU) (Z1 (@rz) (Z1 (@DP) (Z1 (@DQ) (Z1 (@DT) (Z1 (@yr) (Z1 (@oa) (Z1 (@nX) (Z1 (@og) (Z1 (@rg) (Z1 (@nZ) (Z1 (@nY) (Z1 (@DS) (Z1 (@yw) (Z1 (@nS) (Z1 (@vQ) (Z1 (@yt) (Z1 (@vP) (Z1 (@BY) (@tS))))))))))))))))))))))))
def rp4:=Z1 (@tQ) (Z1 (@tR) (Z1 (@xA) (Z1 (@eR) (Z1 (@zM) (Z1 (@zK) (Z1 (@zL) (Z1 (@zN) (Z1 (@zO) (Z1 (@zR) (Z1 (@zP) (Z1 (@zQ) (Z1 (@zS) (Z1 (@zT) (Z1 (@zU) (Z1 (@zV) (Z1 (@mK) (Z1 (@rK) (Z1 (@rG) (Z1 (@rJ) (Z1 (@xi) (Z1 (@xb) (Z1 (@vM) (Z1 (@om) (@xh))))))))))))))))))))))))
def rp5:=Z1 (@yl) (Z1 (@Bb) (Z1 (@BN) (Z1 (@BO) ((((((Z1 (@xS) (Z1 (@xT) (Z1 (@Ck) (Z1 (@fU_i) (Z1 (@EM) (Z1 (@EK) (Z1 (@EL) (Z1 (@qW) (Z1 (@yH) (Z1 (@Cf) (Z1 (@Cd) (Z1 (@Ce) (Z1 (@xE) (Z1 (@xD) (Z1 (@pZ) (@Ca))))))))))))))))))))))))
def rp6:=Z1 (@CN) (Z1 (@CV) (Z1 (@CQ) (Z1 (@qt) (Z1 (@xX) (Z1 (@CU) (Z1 (@xV) (Z1 (@xW) (Z1 (@CS) (Z1 (@EO) (Z1 (@yZ) (Z1 (@yX) (Z1 (@yY) (Z1 (@zE) (Z1 (@zD) (Z1 (@gN_U) (Z1 (@gN_V) (Z1 (@gT_t) (Z1 (@tJ) (Z1 (@xu) (Z1 (@xF) (Z1 (@Bt) (Z1 (@Bu) (Z1 (@Bx) (@Bo))))))))))))))))))))))))
def rp7:=Z1 (@Cg) (Z1 (@F3) (Z1 (@xL) (Z1 (@xM) (Z1 (@xH) (Z1 (@xI) (Z1 (@xJ) (@xK)))))))
def rp8:=Z1 (@oW_n) (Z1 (@oW_s) (Z1 (@CT) (Z1 (@eM) (Z1 (@CP) (Z1 (@CY) (Z1 (@BF) (Z1 (@rf) (Z1 (@Fu) (@appO)))))))))
def rp9:=Z1 (@du) (Z1 (@CO) (Z1 (@CW) (Z1 (@Ft) (Z1 (@DC) (Z1 (@CF) (Z1 (@CZ) (Z1 (@Da) (Z1 (@zB) (Z1 (@Cl) (Z1 (@Cp) (Z1 (@Co) (Z1 (@jq) (Z1 (@Cr) (Z1 (@Cn) (Z1 (@Cq) (Z1 (@Cm) ((Z1 (@tW) (Z1 (@xG) (Z1 (@Ci) (Z1 (@Cj) (Z1 (@Cs) (Z1 (@xg) (Z1 (@Ct) (Z1 (@xf) (@vT))))))))))))))))))))))))))
def rp10:=Z1 (@xz) (Z1 (@xx) (Z1 (@BS) (Z1 (@BT) (Z1 (@BU) (Z1 (@BV) (Z1 (@xy) (Z1 (@tP) (@tK))))))))
def rp11:=Z1 (@Cb) (Z1 (@Ch) (Z1 (@BK) (Z1 (@BI) (Z1 (@BH) (Z1 (@BG) (Z1 (@BJ) (@BL)))))))
def rp12:=Z1 (@zg) (Z1 (@Fx) (Z1 (@yu) (Z1 (@pk) (Z1 (@wL) (Z1 (@wN) (@wM))))))
def rp13:=Z1 (@xN) (Z1 (@lB) (@zH))
end TP
set_option maxHeartbeats 4000000
open PySem L2 TP
namespace K86
def iV:JV:=
 (c9 (z6 (bI K2 (aC (b6 .U 0) (aC (b6 .U 1) aN))) (gT 2 (l4 (gN .U 2) (l4 (gN .U 3) gsNil)))
   (mIf (e9 (b2 (fI0 gLt) (b6 .B 2) (b6 .B 3))) (g7 (mC (.bl false))) sNx))
  (g7 (mC (.bl true))))
abbrev U5:List W->R W:=j1 2 4 iV
def pD:JV:=
 (g7 (bA U5 (aC (b6 .B 0) (aC (b2 fIx (b6 .B 1) (mC (.int 0))) aN))))
abbrev aV:List W->R W:=j1 2 2 pD
def iW:JV:=
 (g7 (bA (L1 true) (aC (n8 3 (bI K2 (aC (b2 fIx (b6 .B 0) (mC (.int 0))) (aC (b2 fIx (b6 .B 0) (mC (.int 1))) aN))) (gT 2 (l4 (gN .U 1) (l4 (gN .U 2) gsNil))) yes (b2 (fI0 gSub) (b6 .B 2) (b6 .B 1))) aN)))
abbrev cQ:List W->R W:=j1 1 1 iW
def kY:JV:=
 (c9 (mIf (t7 (e9 (bA aV (aC (b6 .B 0) (aC (b6 .B 1) aN))))) oq sNx)
  (g7 (bA (L1 true) (aC (n8 4 (bI K2 (aC (b6 .B 0) (aC (bA cQ (aC (b6 .B 1) aN)) aN))) (gT 2 (l4 (gN .U 2) (l4 (gN .U 3) gsNil))) yes (b2 (fI0 D1) (b6 .B 2) (b6 .B 3))) aN))))
abbrev L8:List W->R W:=j1 2 2 kY
def iS:JV:=
 (c9 (z6 (bS (b6 .U 1)) (gN .U 2)
   (mIf (e9 (bA U5 (aC (b6 .B 0) (aC (b6 .B 2) aN)))) (g7 (mC (.bl true))) sNx))
  (g7 (mC (.bl false))))
abbrev D4:List W->R W:=j1 2 3 iS
def kU:JV:=
 (c9 (sF 1 (C0 aN))
  (c9 (z6 (bS (bA fSortA (aC (b6 .B 0) aN))) (gN .U 2)
   (mIf (t7 (e9 (bA D4 (aC (b6 .B 2) (aC (b6 .B 1) aN))))) (K6 1 (b6 .V 2)) sNx))
  (x8 .F 1)))
abbrev bK:List W->R W:=j1 1 3 kU
def iQ:JV:=
 (g7 (bA (L1 true) (aC (n8 5 (bI K2 (aC (b6 .B 0) (aC (b2 fIx (b6 .B 1) (mC (.int 0))) (aC (b2 fIx (b6 .B 1) (mC (.int 1))) aN)))) (gT 3 (l4 (gN .U 2) (l4 (gN .U 3) (l4 (gN .U 4) gsNil)))) yes (bA (f2 aS) (aC (b6 .B 3) (aC (b2 (fI0 D1) (b2 (fI0 gSub) (b6 .B 2) (b6 .B 4)) (b6 .B 3)) aN)))) aN)))
abbrev cN:List W->R W:=j1 2 2 iQ
def fK:JV:=
 (c9 (sF 2 (C0 aN))
  (c9 (z6 (bS (b6 .U 0)) (gN .U 3)
   (iZ 2 true (n8 5 (bS (b6 .B 1)) (gN .U 4) yes (bA cN (aC (b6 .B 4) (aC (b6 .B 3) aN))))))
  (x8 .F 2)))
abbrev Q3:List W->R W:=j1 2 4 fK
def bT:JV:=
 (g7 (bA bK (aC (b2 (mY true) (bA (gJ false) (aC (b6 .B 1) aN)) (bA Q3 (aC (b6 .B 0) (aC (b6 .B 1) aN)))) aN)))
abbrev D9:List W->R W:=j1 2 2 bT
def fL:JV:=
 (g7 (bA (dL cL) (aC (n8 3 (bS (bA Q3 (aC (b6 .B 0) (aC (b6 .B 1) aN)))) (gN .U 2) yes (bA D4 (aC (b6 .B 2) (aC (b6 .B 1) aN)))) aN)))
abbrev aU:List W->R W:=j1 2 2 fL
def aJ:JV:=
 (g7 (bA (L1 true) (aC (n8 4 (bI K2 (aC (b6 .B 0) (aC (b6 .B 1) aN))) (gT 2 (l4 (gN .U 2) (l4 (gN .U 3) gsNil))) yes (bA (f2 aS) (aC (b6 .B 2) (aC (b6 .B 3) aN)))) aN)))
abbrev U4:List W->R W:=j1 2 2 aJ
def iU:JV:=
 (c9 (sV 4 (b2 fIx (b6 .C 1) (b1 (fU K9) (mC (.int 1)))))
  (c9 (sV 5 (b2 (fI0 gSub) (bA fLen (aC (b6 .B 1) aN)) (mC (.int 1))))
  (c9 (mIf (e9 (b2 (fI0 gGt) (bA fLen (aC (b6 .B 4) aN)) (b6 .B 2))) (g7 (B1 (aC (mC (.str "open")) (aC (b6 .V 5) aN)))) sNx)
  (c9 (mIf (e9 (bA aU (aC (b6 .B 0) (aC (b6 .B 4) aN)))) (g7 (B1 (aC (b6 .V 3) (aC (b6 .V 4) aN)))) sNx)
  (c9 (mIf (e9 (b2 (fEq false) (b6 .B 5) (b6 .B 2))) (g7 (B1 (aC (mC (.str "open")) (aC (b6 .V 5) aN)))) sNx)
  (g7 (mC .non)))))))
abbrev L0:List W->R W:=K5 4 6 iU
def iT:JV:=
 (c9 (sF 3 (C0 (aC (C0 (aC (b6 .V 1) aN)) aN)))
  (c9 (sCX 4 [3] L0 (aC (b6 .V 0) (aC (b6 .V 3) (aC (b6 .V 2) (aC (mC (.str "basis")) aN)))))
  (c9 (J5 (e9 (b2 (aW false) (b6 .B 4) (mC .non))) (c9 (K6 3 (bA D9 (aC (b6 .B 0) (aC (b2 fIx (b6 .B 3) (b1 (fU K9) (mC (.int 1)))) aN))))
   (sCX 4 [3] L0 (aC (b6 .V 0) (aC (b6 .V 3) (aC (b6 .V 2) (aC (mC (.str "basis")) aN)))))))
  (x8 .V 4))))
abbrev cP:List W->R W:=j1 3 5 iT
def aI:JV:=
 (g7 (n8 5 (bI W4 (aC (b6 .B 1) aN)) (gT 2 (l4 (gN .U 3) (l4 (gN .U 4) gsNil))) (gy (e9 (bA aV (aC (b6 .B 0) (aC (b6 .B 4) aN)))) (e9 (bA D4 (aC (bA L8 (aC (b6 .B 0) (aC (b6 .B 4) aN))) (aC (b6 .B 2) aN))))) (b6 .V 3)))
abbrev U3:List W->R W:=j1 3 3 aI
def aH:JV:=
 (c9 (sF 2 (C0 aN))
  (c9 (sV 3 (b2 fIx (b6 .C 0) (mC (.int 0))))
  (c9 (z6 (bI eF (aC (vSl true (b6 .C 1) pN (pS (b1 (fU K9) (mC (.int 1))))) aN)) (gN .U 4)
   (c9 (sV 5 (b2 fIx (bA U3 (aC (b6 .B 3) (aC (b2 fIx (b6 .B 0) (mC (.int 1))) (aC (b6 .B 4) aN)))) (mC (.int 0))))
   (c9 (K6 2 (b6 .V 5))
   (sF 3 (bA L8 (aC (b6 .B 3) (aC (b2 fIx (b2 fIx (b6 .B 0) (mC (.int 1))) (b6 .B 5)) aN)))))))
  (x8 .V 2))))
abbrev N0:List W->R W:=K5 2 6 aH
def kX:JV:=
 (c9 (sF 3 (C0 (aC (C0 (aC (b6 .V 1) aN)) aN)))
  (c9 (J5 (t7 (e9 (bA D4 (aC (b2 fIx (b6 .B 0) (mC (.int 0))) (aC (b2 fIx (b6 .B 3) (b1 (fU K9) (mC (.int 1)))) aN))))) (c9 (sCX 4 [3] L0 (aC (bj (b2 fIx (b6 .B 0) (mC (.int 1)))) (aC (b6 .V 3) (aC (b6 .V 2) (aC (mC (.str "wall")) aN)))))
   (c9 (mIf (e9 (b2 (aW true) (b6 .B 4) (mC .non))) (x8 .V 4) sNx)
   (K6 3 (bA D9 (aC (b2 fIx (b6 .B 0) (mC (.int 1))) (aC (b2 fIx (b6 .B 3) (b1 (fU K9) (mC (.int 1)))) aN)))))))
  (eE 3 (g7 (B1 (aC (mC (.str "row")) (aC (bA N0 (aC (b6 .V 0) (aC (b6 .V 3) aN))) aN)))))))
abbrev bL:List W->R W:=j1 3 5 kX
def dz:JV:=
 (c9 (sF 2 (C0 aN))
  (c9 (sV 3 (b6 .V 1))
  (c9 (J5 (e9 (b2 (aW true) (b6 .B 3) (mC .non))) (c9 (K6 2 (b6 .V 3))
   (sU 3 (b2 fIx (b2 fIx (b6 .B 0) (b6 .B 3)) (mC (.int 1))))))
  (x8 .F 2))))
abbrev S0:List W->R W:=j1 2 4 dz
def uU:JV:=
 (g7 (bA dJ (aC (bA S0 (aC (b6 .B 0) (aC (b6 .B 1) aN))) aN)))
abbrev mV:List W->R W:=j1 2 2 uU
def ad:JV:=
 (c9 (sF 3 (bA mV (aC (b6 .B 0) (aC (b6 .B 2) aN))))
  (g7 (n8 5 (bS (vSl true (b6 .C 3) (pS (b2 (fI0 D1) (iY (b6 .B 3) (b6 .B 1)) (mC (.int 1)))) pN)) (gN .U 4) yes (bj (b2 fIx (b2 fIx (b6 .B 0) (b6 .B 4)) (mC (.int 2)))))))
abbrev Q9:List W->R W:=j1 3 4 ad
def V4:JV:=
 (g7 (n8 4 (bI W4 (aC (b2 fIx (b6 .B 0) (mC (.int 1))) aN)) (gT 2 (l4 (gN .U 2) (l4 (gN .U 3) gsNil))) (e9 (bA aV (aC (b6 .B 1) (aC (b6 .B 3) aN)))) (B1 (aC (bA L8 (aC (b6 .B 1) (aC (b6 .B 3) aN))) (aC (b6 .V 2) aN)))))
abbrev M9:List W->R W:=j1 2 2 V4
def kW:JV:=
 (c9 (sF 2 (C0 (aC (B1 (aC (bj (b2 fIx (b6 .B 0) (mC (.int 0)))) (aC (mC .non) (aC (mC .non) aN)))) aN)))
  (c9 (gD 3 (b2 fIx (b6 .B 0) (mC (.int 0))) (mC (.bl true)))
  (c9 (sV 4 (mC (.int 0)))
  (c9 (J5 (e9 (b2 (fI0 gLt) (b6 .B 4) (bA fLen (aC (b6 .B 2) aN)))) (c9 (sV 5 (b2 fIx (b2 fIx (b6 .C 2) (b6 .C 4)) (mC (.int 0))))
   (c9 (z6 (bS (bA M9 (aC (b6 .B 0) (aC (b6 .B 5) aN)))) (gT 2 (l4 (gN .U 6) (l4 (gN .U 7) gsNil)))
    (c9 (mIf (mIn false 3 (b6 .B 6)) sCt sNx)
    (c9 (mIf (e9 (b2 (l5 false) (bA fLen (aC (b6 .B 2) aN)) (b6 .B 1))) (eE 2 (g7 (B1 (aC (b6 .V 2) (aC (mC (.bl false)) aN))))) sNx)
    (c9 (V6 3 (b6 .B 6) (mC (.bl true)))
    (K6 2 (B1 (aC (b6 .V 6) (aC (b6 .V 4) (aC (b6 .V 7) aN)))))))))
   (jb 4 vb (mC (.int 1))))))
  (eE 2 (g7 (B1 (aC (b6 .V 2) (aC (mC (.bl true)) aN)))))))))
abbrev ff:List W->R W:=j1 2 8 kW
def bU:JV:=
 (g7 (n8 2 (bS (b6 .B 0)) (gN .U 1) yes (bj (b2 fIx (b6 .B 1) (mC (.int 0))))))
abbrev P3:List W->R W:=j1 1 1 bU
def iR:JV:=
 (g7 (bA Q9 (aC (b6 .B 0) (aC (mC (.int 0)) (aC (b6 .B 1) aN)))))
abbrev cO:List W->R W:=j1 2 2 iR
def V5:JV:=
 (c9 (z6 (bS (b6 .U 0)) (gN .U 2)
   (c9 (sF 3 (n8 5 (bS (b6 .B 1)) (gN .U 4) yes (bA L8 (aC (bA U4 (aC (b6 .B 4) (aC (b2 fIx (b6 .B 2) (mC (.int 0))) aN))) (aC (b6 .B 2) aN)))))
   (mIf (t7 (e9 (bA (dL cL) (aC (n8 5 (bS (b6 .B 3)) (gN .U 4) yes (bA D4 (aC (b6 .B 4) (aC (b6 .B 1) aN)))) aN)))) (g7 (mC (.bl false))) sNx)))
  (g7 (mC (.bl true))))
abbrev F0:List W->R W:=j1 2 4 V5
def eQ:JV:=
 (c9 (sV 3 (bA cP (aC (b2 fIx (b6 .B 0) (mC (.int 1))) (aC (b2 fIx (b2 fIx (b2 fIx (b6 .B 0) (mC (.int 1))) (b6 .B 1)) (mC (.int 0))) (aC (b6 .B 2) aN)))))
  (c9 (mIf (e9 (b2 (l5 false) (b2 fIx (b6 .B 3) (mC (.int 0))) (mC (.str "open")))) (g7 (B1 (aC (mC (.str "open")) aN))) sNx)
  (c9 (sV 4 (b2 fIx (b6 .C 3) (mC (.int 1))))
  (c9 (sF 5 (bA ff (aC (b6 .B 0) (aC (b6 .B 2) aN))))
  (c9 (z6 (bI W4 (aC (bA P3 (aC (b2 fIx (b6 .B 5) (mC (.int 0))) aN)) aN)) (gT 2 (l4 (gN .U 6) (l4 (gN .U 7) gsNil)))
   (mIf (t7 (e9 (bA D4 (aC (b6 .B 7) (aC (b6 .B 4) aN))))) (g7 (B1 (aC (mC (.str "dies")) (aC (bA cO (aC (b2 fIx (b6 .B 5) (mC (.int 0))) (aC (b6 .B 6) aN))) (aC (b6 .V 4) aN))))) sNx))
  (c9 (mIf (e9 (b2 fIx (b6 .B 5) (mC (.int 1)))) (g7 (B1 (aC (mC (.str "lives")) (aC (bA P3 (aC (b2 fIx (b6 .B 5) (mC (.int 0))) aN)) aN)))) sNx)
  (g7 (vIf (e9 (bA F0 (aC (b2 fIx (b6 .B 0) (mC (.int 1))) (aC (b6 .B 4) aN)))) (B1 (aC (mC (.str "always")) (aC (b6 .V 4) aN))) (B1 (aC (mC (.str "open")) aN))))))))))
abbrev fg:List W->R W:=j1 3 8 eQ
def P1:JV:=
 (c9 (mIf (e9 (b2 (fI0 gLt) (b6 .B 1) (bA fLen (aC (b6 .B 0) aN)))) (g7 (bj (b2 fIx (b6 .B 0) (b6 .B 1)))) sNx)
  (c9 (sV 2 (b2 (fI0 D1) (b2 (fI CMulB A9) (mC (.int 50021)) (b6 .B 1)) (mC (.int 41))))
  (c9 (mIf (e9 (b2 (fI0 gGt) (bA fLen (aC (b6 .B 0) aN)) (mC (.int 0)))) (sV 2 (b2 (fI0 D1) (b2 (fI0 D1) (b2 (fI CMulB A9) (b2 fIx (b6 .B 0) (b2 (fI n4 n6) (b2 (fI CMulB A9) (b6 .B 1) (mC (.int 17))) (bA fLen (aC (b6 .B 0) aN)))) (mC (.int 27611))) (b2 (fI CMulB A9) (b2 (fI CMulB A9) (b6 .B 1) (b6 .B 1)) (mC (.int 7001)))) (mC (.int 37)))) sNx)
  (g7 (b2 (fI n4 n6) (b2 (fI CMulB A9) (b6 .B 2) (b6 .B 2)) (mC (.int 2147483497)))))))
abbrev j9:List W->R W:=j1 2 3 P1
def bV:JV:=
 (c9 (sF 5 (C0 aN))
  (c9 (sF 6 (C0 aN))
  (c9 (z6 (bI N8 (aC (b6 .B 2) aN)) (gN .U 7)
   (c9 (sF 8 (bA j9 (aC (b6 .B 0) (aC (b2 (fI0 D1) (b6 .B 1) (b6 .B 7)) aN))))
   (c9 (K6 5 (b2 fIx (C0 (aC (mC (.int 0)) (aC (mC (.int 1)) (aC (mC (.int 0)) (aC (mC (.int 0)) (aC (mC (.int 1)) (aC (mC (.int 2)) (aC (mC (.int 0)) (aC (mC (.int 1)) aN))))))))) (b2 (fI n4 n6) (b6 .B 8) (mC (.int 8)))))
   (K6 6 (b2 (fI CMulB A9) (b2 fIx (C0 (aC (mC (.int 0)) (aC (mC (.int 1)) (aC (mC (.int 0)) (aC (mC (.int 1)) (aC (mC (.int 0)) (aC (mC (.int 0)) (aC (mC (.int 2)) aN)))))))) (b2 (fI n4 n6) (b2 (fI J2 U1) (b6 .B 8) (mC (.int 8))) (mC (.int 7)))) (b6 .B 4))))))
  (c9 (sV 9 (b2 (fI n4 n6) (b2 (fI J2 U1) (bA j9 (aC (b6 .B 0) (aC (b6 .B 1) aN))) (mC (.int 56))) (b6 .B 2)))
  (c9 (mIf (e9 (b6 .B 3)) (c9 (sF 5 (n8 11 (bI N8 (aC (b6 .B 2) aN)) (gN .U 10) yes (bA fInt (aC (b2 (fEq false) (b6 .B 10) (b6 .B 9)) aN))))
   (sF 6 (n8 11 (bI N8 (aC (b6 .B 2) aN)) (gN .U 10) yes (bA fInt (aC (qQ (b2 (l5 false) (b6 .B 10) (b2 (fI n4 n6) (b2 (fI0 D1) (b6 .B 9) (mC (.int 1))) (b6 .B 2))) (b2 (fI0 gGt) (b2 (fI n4 n6) (bA j9 (aC (b6 .B 0) (aC (b2 (fI0 D1) (b6 .B 1) (mC (.int 1))) aN))) (mC (.int 4))) (mC (.int 0)))) aN))))) sNx)
  (c9 (mIf (gy (e9 (b2 (l5 false) (bA (bM cI) (aC (b6 .B 5) aN)) (mC (.int 0)))) (e9 (b2 (fI0 gGt) (b2 (fI n4 n6) (b2 (fI J2 U1) (bA j9 (aC (b6 .B 0) (aC (b6 .B 1) aN))) (mC (.int 56))) (mC (.int 5))) (mC (.int 0))))) (iX 5 (b6 .B 9) (mC (.int 1))) sNx)
  (g7 (B1 (aC (bA (L1 true) (aC (b6 .C 5) aN)) (aC (bA (L1 true) (aC (b6 .C 6) aN)) aN))))))))))
abbrev W3:List W->R W:=j1 5 10 bV
def ag:JV:=
 (c9 (z6 (bI N8 (aC (bA fLen (aC (b6 .B 0) aN)) aN)) (gN .U 2)
   (mIf (e9 (b2 (fI0 gLt) (b2 fIx (b6 .B 0) (b6 .B 2)) (b2 fIx (b6 .B 1) (b6 .B 2)))) (g7 (mC (.bl false))) sNx))
  (g7 (mC (.bl true))))
abbrev o6:List W->R W:=j1 2 3 ag
def ah:JV:=
 (g7 (bA (L1 true) (aC (n8 3 (bI N8 (aC (bA fLen (aC (b6 .B 0) aN)) aN)) (gN .U 2) yes (b2 (fI0 D1) (b2 (fI0 gSub) (b2 fIx (b6 .B 0) (b6 .B 2)) (b2 fIx (b2 fIx (b6 .B 1) (mC (.int 0))) (b6 .B 2))) (b2 fIx (b2 fIx (b6 .B 1) (mC (.int 1))) (b6 .B 2)))) aN)))
abbrev D6:List W->R W:=j1 2 2 ah
def af:JV:=
 (c9 (z6 (bS (b6 .U 1)) (gN .U 2)
   (mIf (e9 (bA o6 (aC (b6 .B 0) (aC (b6 .B 2) aN)))) (g7 (mC (.bl true))) sNx))
  (g7 (mC (.bl false))))
abbrev y8:List W->R W:=j1 2 3 af
def aM:JV:=
 (c9 (sF 3 (C0 (aC (b6 .V 1) aN)))
  (c9 (z6 (bI N8 (aC (bA (f2 fb) (aC (mC (.int 40)) (aC (b2 (fI0 D1) (mC (.int 8)) (bA fLen (aC (b6 .B 0) aN))) aN))) aN)) (gN .U 4)
   (c9 (sF 5 (n8 7 (bS (b6 .B 2)) (gN .U 6) (e9 (bA o6 (aC (b2 fIx (b6 .B 3) (b1 (fU K9) (mC (.int 1)))) (aC (b2 fIx (b6 .B 6) (mC (.int 0))) aN)))) (b6 .V 6)))
   (c9 (mIf (e9 (b2 (fEq false) (b6 .B 5) (C0 aN))) (x8 .F 3) sNx)
   (K6 3 (bA D6 (aC (b2 fIx (b6 .B 3) (b1 (fU K9) (mC (.int 1)))) (aC (b2 fIx (b6 .B 5) (b2 (fI n4 n6) (b2 (fI J2 U1) (bA j9 (aC (b6 .B 0) (aC (b6 .B 4) aN))) (mC (.int 5))) (bA fLen (aC (b6 .B 5) aN)))) aN)))))))
  (x8 .F 3)))
abbrev N3:List W->R W:=j1 3 6 aM
def dA:JV:=
 (c9 (mIf (t7 (e9 (bA fIsi (aC (b6 .B 0) (aC (mC (.ty "list")) aN))))) (g7 (mC .non)) sNx)
  (c9 (z6 (bS (b6 .U 0)) (gN .U 3)
   (c9 (mIf (J0 (t7 (e9 (bA fIsi (aC (b6 .B 3) (aC (mC (.ty "int")) aN))))) (J0 (e9 (bA fIsi (aC (b6 .B 3) (aC (mC (.ty "bool")) aN)))) (t7 (e9 (cV (fI0 gLe) (fI0 gLt) (mC (.int 0)) (b6 .B 3) (bA fLen (aC (b6 .B 2) aN))))))) (g7 (mC .non)) sNx)
   (c9 (mIf (t7 (e9 (bA o6 (aC (b6 .B 1) (aC (b2 fIx (b2 fIx (b6 .B 2) (b6 .B 3)) (mC (.int 0))) aN))))) (g7 (mC .non)) sNx)
   (sF 1 (bA D6 (aC (b6 .B 1) (aC (b2 fIx (b6 .B 2) (b6 .B 3)) aN)))))))
  (x8 .F 1)))
abbrev N2:List W->R W:=j1 3 4 dA
def aK:JV:=
 (c9 (mIf (J0 (t7 (e9 (bA fIsi (aC (b6 .B 0) (aC (mC (.ty "tuple")) aN))))) (e9 (b2 (l5 true) (bA fLen (aC (b6 .B 0) aN)) (b6 .B 1)))) (g7 (mC (.bl false))) sNx)
  (g7 (b2 (l5 false) (bA fLen (aC (n8 3 (bS (b6 .B 0)) (gN .U 2) (J0 (t7 (e9 (bA fIsi (aC (b6 .B 2) (aC (mC (.ty "int")) aN))))) (J0 (e9 (bA fIsi (aC (b6 .B 2) (aC (mC (.ty "bool")) aN)))) (e9 (b2 (fI0 gLt) (b6 .B 2) (mC (.int 0)))))) (b6 .V 2)) aN)) (mC (.int 0)))))
abbrev U6:List W->R W:=j1 2 2 aK
def ae:JV:=
 (c9 (mIf (t7 (e9 (bA fIsi (aC (b6 .B 0) (aC (mC (.ty "list")) aN))))) (g7 (mC (.bl false))) sNx)
  (g7 (b2 (l5 false) (bA fLen (aC (n8 3 (bS (b6 .B 0)) (gN .U 2) (t7 (e9 (bA U6 (aC (b6 .B 2) (aC (b6 .B 1) aN))))) (b6 .V 2)) aN)) (mC (.int 0)))))
abbrev D5:List W->R W:=j1 2 2 ae
def bW:JV:=
 (c9 (mIf (J0 (e9 (b2 (l5 true) (bA fLen (aC (b6 .B 1) aN)) (mC (.int 3)))) (t7 (e9 (bA D5 (aC (b2 fIx (b6 .B 1) (mC (.int 2))) (aC (bA fLen (aC (b6 .B 2) aN)) aN)))))) (g7 (mC (.bl false))) sNx)
  (c9 (sU 5 (b2 fIx (b6 .B 1) (mC (.int 2))))
  (c9 (sF 6 (bA N2 (aC (b2 fIx (b6 .B 1) (mC (.int 1))) (aC (b6 .B 2) (aC (b6 .B 3) aN)))))
  (c9 (mIf (J0 (e9 (b2 (aW false) (b6 .B 6) (mC .non))) (J0 (e9 (bA y8 (aC (b6 .B 6) (aC (b6 .B 5) aN)))) (t7 (e9 (bA y8 (aC (b2 fIx (b6 .B 4) (mC (.int 0))) (aC (b6 .B 5) aN))))))) (g7 (mC (.bl false))) sNx)
  (c9 (z6 (bS (b6 .U 5)) (gN .U 7)
   (z6 (bS (b6 .U 3)) (gN .U 8)
    (c9 (sF 9 (bA (L1 true) (aC (n8 11 (bI N8 (aC (bA fLen (aC (b6 .B 2) aN)) aN)) (gN .U 10) yes (b2 (fI0 D1) (b2 fIx (b2 fIx (b6 .B 8) (mC (.int 0))) (b6 .B 10)) (bA (f2 aS) (aC (mC (.int 0)) (aC (b2 (fI0 gSub) (b2 fIx (b6 .B 7) (b6 .B 10)) (b2 fIx (b2 fIx (b6 .B 8) (mC (.int 1))) (b6 .B 10))) aN))))) aN)))
    (mIf (t7 (e9 (bA y8 (aC (b6 .B 9) (aC (b6 .B 5) aN))))) (g7 (mC (.bl false))) sNx))))
  (g7 (b2 (l5 false) (bA fLen (aC (n8 11 (bS (bA N3 (aC (b6 .B 0) (aC (b6 .B 6) (aC (b6 .B 3) aN))))) (gN .U 10) (e9 (bA o6 (aC (b6 .B 10) (aC (b2 fIx (b6 .B 4) (mC (.int 0))) aN)))) (b6 .V 10)) aN)) (mC (.int 0)))))))))
abbrev P4:List W->R W:=j1 5 10 bW
def aL:JV:=
 (c9 (mIf (J0 (e9 (b2 (l5 true) (bA fLen (aC (b6 .B 0) aN)) (mC (.int 2)))) (t7 (e9 (bA D5 (aC (b2 fIx (b6 .B 0) (mC (.int 1))) (aC (bA fLen (aC (b6 .B 1) aN)) aN)))))) (g7 (mC (.bl false))) sNx)
  (c9 (sU 5 (b2 fIx (b6 .B 0) (mC (.int 1))))
  (c9 (mIf (J0 (e9 (b2 (fIn true) (b6 .B 1) (b6 .B 5))) (J0 (e9 (b2 (fI0 gGt) (bA fLen (aC (b6 .B 5) aN)) (b6 .B 4))) (e9 (b2 (l5 true) (bA fLs (aC (b6 .B 5) aN)) (bA fLen (aC (b6 .B 5) aN)))))) (g7 (mC (.bl false))) sNx)
  (c9 (dB 6)
  (c9 (sF 7 (C0 aN))
  (c9 (z6 (bS (b6 .U 5)) (gN .U 8)
   (c9 (mIf (e9 (bA o6 (aC (b6 .B 8) (aC (b2 fIx (b6 .B 3) (mC (.int 0))) aN)))) (V6 6 (b6 .B 8) (mC (.bl true))) sNx)
   (z6 (bS (b6 .U 2)) (gN .U 9)
    (mIf (e9 (bA o6 (aC (b6 .B 8) (aC (b2 fIx (b6 .B 9) (mC (.int 0))) aN)))) (K6 7 (B1 (aC (b6 .V 8) (aC (bA D6 (aC (b6 .B 8) (aC (b6 .B 9) aN))) aN)))) sNx))))
  (c9 (mIf (e9 (b2 (fI0 gGt) (bA fLen (aC (n8 14 (bS (b6 .B 7)) (gT 2 (l4 (gN .U 12) (l4 (gN .U 13) gsNil))) (e9 (b2 (fIn true) (b6 .B 13) (b6 .B 5))) (b6 .V 12)) aN)) (mC (.int 0)))) (g7 (mC (.bl false))) sNx)
  (c9 (z6 (bI N8 (aC (bA fLen (aC (b6 .B 5) aN)) aN)) (gN .U 10)
   (eE 7 (z6 (bS (b6 .U 7)) (gT 2 (l4 (gN .U 11) (l4 (gN .U 9) gsNil)))
    (mIf (mIn false 6 (b6 .B 9)) (V6 6 (b6 .B 11) (mC (.bl true))) sNx))))
  (g7 (b2 (l5 false) (dM 6) (bA fLen (aC (b6 .B 5) aN))))))))))))
abbrev N1:List W->R W:=j1 5 12 aL
def ai:JV:=
 (c9 (mIf (J0 (e9 (b2 (l5 true) (bA fLen (aC (b6 .B 1) aN)) (mC (.int 2)))) (t7 (e9 (bA D5 (aC (b2 fIx (b6 .B 1) (mC (.int 1))) (aC (bA fLen (aC (b2 fIx (b6 .B 2) (mC (.int 0))) aN)) aN)))))) (g7 (mC (.bl false))) sNx)
  (c9 (sU 5 (b2 fIx (b6 .B 1) (mC (.int 1))))
  (c9 (z6 (bS (bA N3 (aC (b6 .B 0) (aC (b2 fIx (b6 .B 2) (mC (.int 0))) (aC (b2 fIx (b6 .B 2) (mC (.int 1))) aN))))) (gN .U 6)
   (mIf (t7 (e9 (bA y8 (aC (b6 .B 6) (aC (b6 .B 5) aN))))) (g7 (mC (.bl false))) sNx))
  (c9 (z6 (bS (b6 .U 5)) (gN .U 6)
   (c9 (sV 7 (bA bL (aC (B1 (aC (b6 .U 6) (aC (b2 fIx (b6 .B 2) (mC (.int 1))) aN))) (aC (b2 fIx (b6 .B 3) (mC (.int 0))) (aC (b6 .B 4) aN)))))
   (c9 (mIf (e9 (b2 (l5 true) (b2 fIx (b6 .B 7) (mC (.int 0))) (mC (.str "row")))) (g7 (mC (.bl false))) sNx)
   (c9 (sF 8 (bA N2 (aC (b2 fIx (b6 .B 7) (mC (.int 1))) (aC (b6 .B 6) (aC (b2 fIx (b6 .B 2) (mC (.int 1))) aN)))))
   (mIf (J0 (e9 (b2 (aW false) (b6 .B 8) (mC .non))) (t7 (e9 (bA o6 (aC (b6 .B 8) (aC (b2 fIx (b6 .B 3) (mC (.int 0))) aN)))))) (g7 (mC (.bl false))) sNx)))))
  (g7 (mC (.bl true)))))))
abbrev K1:List W->R W:=j1 5 9 ai
def uV:JV:=
 (c9 (sV 1 (b2 (fI0 D1) (mC (.int 2)) (b2 (fI n4 n6) (bA j9 (aC (b6 .B 0) (aC (mC (.int 0)) aN))) (mC (.int 3)))))
  (c9 (sV 2 (b2 (fI0 D1) (mC (.int 1)) (b2 (fI n4 n6) (bA j9 (aC (b6 .B 0) (aC (mC (.int 1)) aN))) (mC (.int 12)))))
  (c9 (sV 3 (b2 (l5 false) (b2 (fI n4 n6) (bA j9 (aC (b6 .B 0) (aC (mC (.int 2)) aN))) (mC (.int 3))) (mC (.int 1))))
  (c9 (sV 4 (mC (.int 1)))
  (c9 (mIf (e9 (b2 (l5 false) (b2 (fI n4 n6) (bA j9 (aC (b6 .B 0) (aC (mC (.int 3)) aN))) (mC (.int 4))) (mC (.int 1)))) (sV 4 (b2 (fI0 D1) (mC (.int 1)) (b2 (fI n4 n6) (b2 (fI J2 U1) (bA j9 (aC (b6 .B 0) (aC (mC (.int 3)) aN))) (mC (.int 4))) (b2 (fI cS tL) (mC (.int 10)) (mC (.int 8)))))) sNx)
  (c9 (sF 5 (C0 aN))
  (c9 (z6 (bI N8 (aC (b2 (fI0 D1) (mC (.int 2)) (b2 (fI n4 n6) (bA j9 (aC (b6 .B 0) (aC (mC (.int 4)) aN))) (mC (.int 4)))) aN)) (gN .U 6)
   (K6 5 (bA W3 (aC (b6 .B 0) (aC (b2 (fI0 D1) (mC (.int 10)) (b2 (fI CMulB A9) (b6 .B 1) (b6 .B 6))) (aC (b6 .B 1) (aC (b6 .B 3) (aC (b6 .B 4) aN))))))))
  (c9 (sV 7 (b2 fIx (b6 .C 5) (b2 (fI n4 n6) (bA j9 (aC (b6 .B 0) (aC (mC (.int 5)) aN))) (bA fLen (aC (b6 .B 5) aN)))))
  (c9 (sF 8 (bA (L1 true) (aC (n8 12 (bI N8 (aC (b6 .B 1) aN)) (gN .U 11) yes (b2 (fI CMulB A9) (b2 (fI n4 n6) (bA j9 (aC (b6 .B 0) (aC (b2 (fI0 D1) (mC (.int 6)) (b6 .B 11)) aN))) (mC (.int 3))) (b6 .B 4))) aN)))
  (c9 (sF 9 (B1 (aC (b6 .V 8) (aC (bA (L1 true) (aC (b6 .C 5) aN)) aN))))
  (c9 (sV 10 (bA fg (aC (b6 .B 9) (aC (b2 (fI n4 n6) (bA j9 (aC (b6 .B 0) (aC (mC (.int 5)) aN))) (bA fLen (aC (b6 .B 5) aN))) (aC (b6 .B 2) aN)))))
  (c9 (mIf (J0 (t7 (e9 (bA fIsi (aC (b6 .B 10) (aC (mC (.ty "tuple")) aN))))) (e9 (b2 (l5 false) (bA fLen (aC (b6 .B 10) aN)) (mC (.int 0))))) (g7 (mC (.bl false))) sNx)
  (c9 (mIf (e9 (b2 (l5 false) (b2 fIx (b6 .B 10) (mC (.int 0))) (mC (.str "dies")))) (g7 (bA P4 (aC (b6 .B 0) (aC (b6 .B 10) (aC (b6 .B 8) (aC (b6 .B 5) (aC (b6 .B 7) aN))))))) sNx)
  (c9 (mIf (e9 (b2 (l5 false) (b2 fIx (b6 .B 10) (mC (.int 0))) (mC (.str "lives")))) (g7 (bA N1 (aC (b6 .B 10) (aC (b6 .B 8) (aC (b6 .B 5) (aC (b6 .B 7) (aC (b6 .B 2) aN))))))) sNx)
  (c9 (mIf (e9 (b2 (l5 false) (b2 fIx (b6 .B 10) (mC (.int 0))) (mC (.str "always")))) (g7 (bA K1 (aC (b6 .B 0) (aC (b6 .B 10) (aC (b6 .B 9) (aC (b6 .B 7) (aC (b6 .B 2) aN))))))) sNx)
  (g7 (b2 (fEq false) (b6 .B 10) (B1 (aC (mC (.str "open")) aN)))))))))))))))))))
abbrev gI:List W->R W:=j1 1 11 uV
end K86
set_option maxHeartbeats 4000000
open PySem L2 TP
namespace K86
abbrev ZX (N:Nat)(ρ:Rho)(mg:W→Rho→Option Rho)(x:W)(p:Rho→Prop):Prop:=∃q,mg x (ρ++List.replicate (N-ρ.length) Sl.un)=some q/\p q
def rp14:=Z1 (@BE) (Z1 (@BD) (Z1 (@BC) (Z1 (@BB) (Z1 (@Bm) (Z1 (@By) (Z1 (@Bv) (Z1 (@Bw) (Z1 (@Br) (Z1 (@Bs) (Z1 (@Bz) (Z1 (@BA) (Z1 (@Bp) (@Bq)))))))))))))
def rp15:=Z1 (@qL0) (Z1 (@qM9) (Z1 (@Bool.true_or) (Z1 (@qM1) (Z1 (@xB2) (Z1 (@xB1) (Z1 (@qI8) (Z1 (@qM3) (Z1 (@qT2) (Z1 (@qY8) (Z1 (@Int.sub_zero) (Z1 (@Int.zero_add) (Z1 (@qG3) (Z1 (@qB9) (Z1 (@Bool.true_eq_false) (Z1 (@and_true) (Z1 (@true_and) (Z1 (@or_true) (Z1 (@true_or) (@and_self)))))))))))))))))))
def rp18:=Z1 (@qC1.{0}) (Z1 (@qL2.{0}) (Z1 (@qA7.{0,0}) (Z1 (@qC5.{0}) (Z1 (@qE9.{0}) (@qE4)))))
def rp16:=Z1 rp14 (Z1 rp15 (Z1 rp13 (Z1 rp12 (Z1 rp11 (Z1 rp10 (Z1 rp9 (Z1 rp8 (Z1 rp0 (Z1 rp1 (Z1 rp2 (Z1 rp3 (Z1 rp4 (Z1 rp5 (Z1 rp6 rp7))))))))))))))
def rp17:=Z1 (@qC0.{0,0}) (Z1 (@qM0.{0,0}) (Z1 (@qT1.{0}) (Z1 (@List.replicate_zero.{0}) (Z1 (@qN5.{0}) (Z1 (@qM6.{0}) (Z1 (@qH6.{0}) (Z1 (@R.ok_bind) (Z1 (@R.stuck_bind) (@R.ex_bind)))))))))
def rp19:=Z1 (@qR6.{0}) (Z1 (@Option.isNone_none.{0}) (Z1 (@Option.isNone_some.{0}) (Z1 (@Option.bind_some.{0,0}) (Z1 (@qN9.{1}) (Z1 (@qO0.{1}) (Z1 (@decide_true) (@decide_false)))))))
def ak (r:R Fl):R Fl:=match r with
 | .ok (.ct ρ)=>.ok (.nx ρ)
 |r=>r
def kj (ρ:Rho):ak (.ok (.nx ρ))=.ok (.nx ρ):=rfl
def km (ρ:Rho):ak (.ok (.ct ρ))=.ok (.nx ρ):=rfl
def ki (w:W):ak (.ok (.rt w))=.ok (.rt w):=rfl
def dg (I:Nat->Rho->Prop):∀(ws:JZ) (k:Nat) (ρ:Rho),I k ρ ->
  (∀(i:Nat) (w:W) (ρ:Rho),ws[i]?=some w->I (k+i) ρ->∃L,mg w ρ=some L/\Po (ak (mb L)) (I (k+i+1)) Jr)->Po (B2 mg mb ws ρ) (I (k+ws.length)) Jr
 | [],k,ρ,h,_=>h
 | w::ws,k,ρ,h,st=>by
  obtain ⟨L,e1,p⟩:=st 0 w ρ rfl h;unfold B2;rw[e1]
  change Po (mb L>>=_) _ _;have go:∀q,I (k+0+1) q->Po (B2 mg mb ws q) (I (k+(w::ws).length)) Jr:=λq p=>by
   have:=dg (mg:=mg) (mb:=mb) I ws (k+1) q p λi w ρ hw O=>by
    have:=st (i+1) w ρ (by simpa using hw) (by rw[show k+(i+1)=k+1+i by omega];show O)
    rw[show k+(i+1)+1=k+1+i+1 by omega]at this;show this
   rw[qC1,show k+(ws.length+1)=k+1+ws.length by omega];show this
  revert p
  cases mb L with
  |ex _=>show λp=>p.elim
  |stuck=>show λp=>p.elim
  | ok f=>cases f with
   |bk _=>show λp=>p.elim
   |ct q=>show λp=>go q p
   |rt w=>show λp=>p
   |nx q=>show λp=>go q p
def rZ (I:Nat->Rho->Prop) (h0:I 0 ρ) (st:∀(i:Nat) (w:W) (ρ:Rho),ws[i]?=some w->I i ρ->∃q,mg w ρ=some q/\Po (ak (mb q)) (I (i+1)) Jr) (hn:∀ρ,I ws.length ρ->Po (n ρ) Jn Jr):Po (andThen (B2 mg mb ws ρ) n) Jn Jr:=by
 have:=dg (mg:=mg) (mb:=mb) (Jr:=Jr) I ws 0 ρ h0 λi w ρ hw L=>by rw[qJ2]at L ⊢;show st i w ρ hw L
 rw[qJ2]at this;show Q0 (this.mono hn λ_ h=>h)
def kM (q:b=true->Po (ak (andThen (m ρ) k)) Jn Jr) (L:b=false->Po (ak (andThen (n ρ) k)) Jn Jr):Po (ak (andThen (ifS (.ok b) m n ρ) k)) Jn Jr:=by
 cases b with
 |true=>show q rfl
 |false=>show L rfl
def vm (ns:Jg)(l u:Jv):Rst (.ok (.tup (ns.map W.int))) (.ok l) (.ok u)=.ok (.tup (E5 (ns.map W.int) l u)):=DF (F3 ns) l u
def rpZ:=Z1 rp19 (Z1 rp16 (Z1 rp17 (Z1 rp18 (Z1 @lA (Z1 @kZ (Z1 @qJ (Z1 @kh (Z1 @vm (Z1 @pE (Z1 @pU (Z1 @ja (Z1 @U7 (Z1 @kj (Z1 @km (Z1 @ki (Z1 @pB (Z1 @pA (Z1 @pz (Z1 @fN (Z1 @jr (Z1 @lf (@decide_eq_true_eq))))))))))))))))))))))
def rpB:=Z1 (@zq) (Z1 (@zp) (Z1 (@zo) (Z1 (@zn) (@zm))))
local macro_rules | `(tactic| exists $[$es],*)=>`(tactic| simp (disch:=first | with_reducible assumption | omega | (simp only [rp18]; omega)) only [List.getElem?_cons_zero,qR3,List.set_cons_succ,List.set_cons_zero,tyW,isN,simprocAttr,rpZ,$[$es:term],*])
def jo {α:Type}(g s:α->W) (c:α->Bool) (as:List α) (hl:as.length<=1000):∀N mg mc me ρ,(∀a∈as,ZX N ρ mg (s a) λ q=>mc q=.ok (c a)/\me q=.ok (g a))->n5 N mg mc me (as.map s) ρ=.ok (.lst ((as.filter c).map g)):=λN mg mc me ρ h=>
 T7 g s c as ρ hl λa ha=>by
  obtain ⟨q,e1,e2,L⟩:=h a ha;show ⟨q,e1,e2,λ_=>L⟩
def zC (f:Nat->Int) (hn:n<=6):∀N mg me ρ,(∀k,k<n->ZX N ρ mg (.int (k:Nat)) λ ρ1=>me ρ1=.ok (.int (f k)))->n5 N mg yes me ((List.range n).map λk=>W.int (k:Nat)) ρ=.ok (lI ((List.range n).map f)):=λN mg me ρ h=>by
 rw[w4 (λk=>.int (f k)) _ _ ρ (by simp;omega) λk hk=>h k (by simpa using hk),iP]
def DN {k:Int}(h0:0<=k) (q:k<=1000):0<=k*k/\k*k<=1000000:=⟨qT6 h0 h0,by
 have:=Int.mul_le_mul q q h0 (by omega:(0:Int)<=1000)
 omega⟩
def memD {ns:Jg}{P:Int->Prop}(h:∀x∈ns,P x)(hi:i<ns.length):P (ns.getD i 0):=mem_getD h hi
abbrev Mv:=List Int×List Int
abbrev mW (m:Mv):W:=.tup [tI m.1,tI m.2]
abbrev lS (ss:Jo):W:=.lst (ss.map tI)
abbrev tM_ (ms:List Mv):W:=.tup (ms.map mW)
def iN (m:Mv):noL (mW m)=true:=by simp [noL,l9,F3]
def dv (ms:List Mv):l9 (ms.map mW)=true:=cG mW iN ms
def bG {ms:List Mv}{i:Nat}(h:(ms.map mW)[i]?=some w):∃m,m∈ms/\ms[i]?=some m/\w=mW m:=by
 rw[qC9]at h;cases q:ms[i]? with
 |none=>rw[q]at h;cases h
 |some m=>rw[q]at h;cases h;show ⟨m,qF6 q,rfl,rfl⟩
def okM (n:Nat)(m:Mv):Prop:=m.1.length=n/\m.2.length=n
def nn (xs:Jg):Prop:=∀x∈xs,0<=x
def okN (n:Nat)(m:Mv):Prop:=m.1.length=n/\m.2.length=n/\nn m.1/\nn m.2
def uS (h:nn xs) (k:Nat):0<=xs.getD k 0:=by
 by_cases hk:k<xs.length
 .show memD h hk
 .rw[qA1];simp [hk]
def atM {ms:List Mv}{r:Int}(h0:0<=r) (q:r<ms.length):L2.atI (ms.map mW) r=some (mW (ms.getD r.toNat ([],[]))):=by
 unfold L2.atI;rw[X2 h0 (by rw[qA7];show q)]
 change (ms.map mW)[r.toNat]?=_;have hi:r.toNat<ms.length:=ox;rw[qC9,qA1];simp [hi]
def getM {ms:List Mv}(hm:∀m∈ms,okN n m) (q:i<ms.length):okN n (ms.getD i ([],[])):=by
 refine hm _ ?_;rw[qA1];simp [q]
def f8 (a b:Jg):Bool:=(List.range a.length).all λk=>decide (b.getD k 0<=a.getD k 0)
def vf (hi:i<a.length) (h:a.getD i 0<b.getD i 0):f8 a b=false:=by
 unfold f8;rw[List.all_eq_false];show ⟨i,by simpa using hi,λh'=>by have:=qO4 h';omega⟩
def gM (h:∀k,k<a.length->b.getD k 0<=a.getD k 0):f8 a b=true:=by
 unfold f8;rw[qE7];show λk hk=>qN8 (h k (by simpa using hk))
def fY (hl:b.length=a.length):U5 [tI a,tI b]=.ok (.bl (f8 a b)):=by
 have fin:Ok (U5 [tI a,tI b]) λv=>v=.bl (f8 a b):=by
  have hz:=cT (tI a) (tI b) _ _ rfl rfl;rw[bp hl]at hz;exists rpB,iV,hz;refine r6 (p8 (λi ρ=>∃u v,ρ = [.par (tI a),.par (tI b),u,v]/\∀k,k<i->b.getD k 0<=a.getD k 0) ⟨_,_,rfl,λk hk=>absurd hk (qE0 _)⟩ ?_ ?_)
  .rintro i u ρ hu ⟨_,_,rfl,q⟩;obtain ⟨hi,rfl⟩:=rO hu;refine ⟨_,rfl,?_⟩;exists rp18;refine M5 (λh=>?_) (λh=>?_)
   .exists rp18;rw[vf hi (by simpa using h)]
   .exists rp18;refine ⟨_,_,rfl,λk hk=>?_⟩;by_cases e:k=i
    .subst e;simpa using h
    .show q k ox
  .rintro ρ ⟨_,_,rfl,q⟩;rw[qA7,qE4]at q;exists rp18;rw[gM q]
 obtain ⟨v,e,rfl⟩:=fin;show e
def fu (h:m.1.length=s.length):aV [tI s,mW m]=.ok (.bl (f8 s m.1)):=by
 have a0:L2.atI [tI m.1,tI m.2] 0=some (tI m.1):=rfl;have k:=fY (a:=s) (b:=m.1) h;exists rpB,pD,a0,k
def nj (h6:n<=6) (h:okM n m):cQ [mW m]=.ok (tI ((List.range n).map λk=>m.2.getD k 0-m.1.getD k 0)):=by
 have a0:L2.atI [tI m.1,tI m.2] 0=some (tI m.1):=rfl;have a1:L2.atI [tI m.1,tI m.2] 1=some (tI m.2):=rfl;have hz:=cT (tI m.1) (tI m.2) _ _ rfl rfl;rw[bp (by rw[h.1,h.2]),h.1]at hz;exists rpB,iW,a0,a1,hz;have e:∀N mg me ρ (h:∀k,k<n->ZX N ρ mg (.tup [.int (m.1.getD k 0),.int (m.2.getD k 0)]) λ ρ1=>me ρ1=.ok (.int (m.2.getD k 0-m.1.getD k 0))),n5 N mg yes me ((List.range n).map λk=>W.tup [.int (m.1.getD k 0),.int (m.2.getD k 0)]) ρ=.ok (lI ((List.range n).map λk=>m.2.getD k 0-m.1.getD k 0)):=λN mg me ρ h=>by
  rw[w4 (λk=>.int (m.2.getD k 0-m.1.getD k 0)) _ _ ρ (by simpa using (by omega:n<=1000)) (λk hk=>h k (by simpa using hk)),iP]
 rw[e]
 .exists rp18
 .intro k hk;refine ⟨_,rfl,?_⟩;exists rp18
def dX (h6:n<=6) (h:okM n m) (hs:s.length=n) (hc:f8 s m.1=true):L8 [tI s,mW m]=.ok (tI ((List.range n).map λk=>s.getD k 0+(m.2.getD k 0-m.1.getD k 0))):=by
 have q:=fu (s:=s) (m:=m) (by rw[hs,h.1]);rw[hc]at q;have L:=nj h6 h;have hz:=cT (tI s) (tI ((List.range n).map λk=>m.2.getD k 0-m.1.getD k 0)) _ _ rfl rfl;rw[bp (by simp [hs]),hs]at hz;exists rpB,kY,q,L,hz;have e:∀N mg me ρ (h:∀k,k<n->ZX N ρ mg (.tup [.int (s.getD k 0),.int (((List.range n).map λk=>m.2.getD k 0-m.1.getD k 0).getD k 0)]) λ ρ1=>me ρ1=.ok (.int (s.getD k 0+(m.2.getD k 0-m.1.getD k 0)))),n5 N mg yes me ((List.range n).map λk=>W.tup [.int (s.getD k 0),.int (((List.range n).map λk=>m.2.getD k 0-m.1.getD k 0).getD k 0)]) ρ=.ok (lI ((List.range n).map λk=>s.getD k 0+(m.2.getD k 0-m.1.getD k 0))):=λN mg me ρ h=>by
  rw[w4 (λk=>.int (s.getD k 0+(m.2.getD k 0-m.1.getD k 0))) _ _ ρ (by simpa using (by omega:n<=1000)) (λk hk=>h k (by simpa using hk)),iP]
 rw[e]
 .exists rp18
 .intro k hk;refine ⟨_,rfl,?_⟩;exists rp18;rw[K3 hk]
def gf (h6:n<=6)(h:okN n m)(hs:s.length=n)(hc:f8 s m.1=true):L8 [tI s,mW m]=.ok (tI ((List.range n).map λk=>s.getD k 0+(m.2.getD k 0-m.1.getD k 0))):=dX h6 ⟨h.1,h.2.1⟩ hs hc
def k9 (s:Jg)(m:Mv):List Int:=(List.range s.length).map λk=>s.getD k 0+(m.2.getD k 0-m.1.getD k 0)
def L3 (s:Jg)(m:Mv):(k9 s m).length=s.length:=by simp [k9]
abbrev Ent:=List Int×Nat×Nat
abbrev eW (e:Ent):W:=.tup [tI e.1,.int (e.2.1:Int),.int (e.2.2:Int)]
abbrev r0 (b:Jg):W:=.tup [tI b,.non,.non]
abbrev z7 (b:Jg)(es:List Ent):JZ:=r0 b::es.map eW
def stS (b:Jg)(es:List Ent):List Jg:=b::es.map (·.1)
def cd (e:Ent):Nat:=e.2.1*8+e.2.2
def mvN (ms:List Mv)(k:Nat):Mv:=ms.getD k ([],[])
def sA (b:Jg)(es:List Ent)(a:Nat):List Int:=(stS b es).getD a []
def S2 (b:Jg)(es:List Ent):(stS b es).length=es.length+1:=by simp [stS]
def kB (h:a<es.length+1):sA b (es ++ [e]) a=sA b es a:=by
 unfold sA stS;rw[qD1,<- qN5,qA1,qA1,qE8 (by simpa using h)]
def ou (h:a<es.length+1):sA b es a∈stS b es:=by
 unfold sA;rw[qA1,qB4 (by rw[S2];show h)];show qK3 _
def abN (b:Jg)(ms:List Mv)(es:List Ent)(a k:Nat):Bool:=f8 (sA b es a) (mvN ms k).1
def bhN (b:Jg)(ms:List Mv)(es:List Ent)(a k:Nat):List Int:=k9 (sA b es a) (mvN ms k)
structure FlK (b:Jg) (ms:List Mv) (es:List Ent) (A:Nat) (T:JQ):Prop where
 len:∀e∈es,e.1.length=b.length
 k8:∀e∈es,e.2.2<ms.length
 lt:∀e∈es,e.2.1<A\/(e.2.1=A/\e.2.2∈T)
 inc:es.Pairwise λx y=>cd x<cd y
 par:∀(i:Nat) (e:Ent),es[i]?=some e->e.2.1<=i
 beh:∀e∈es,abN b ms es e.2.1 e.2.2=true/\e.1=bhN b ms es e.2.1 e.2.2
 nod:(stS b es).Nodup
 cl:∀t∈T,∀k,k<t->abN b ms es A k=true->k∈T
 set:∀a k,a<A\/(a=A/\k∈T)->k<ms.length->abN b ms es a k=true->(∃e∈es,e.2=(a,k))\/bhN b ms es a k=b\/∃e∈es,cd e<a*8+k/\e.1=bhN b ms es a k
def FlK.start (b:Jg) (ms:List Mv):FlK b ms [] 0 [] where
 len:=QX
 k8:=QX
 lt:=QX
 inc:=List.Pairwise.nil
 par:=QX
 beh:=QX
 nod:=by simp [stS]
 cl:=QX
 set:=λa k h=>by simp at h
def FlK.below (h:FlK b ms es A T) (h8:ms.length<=8) (O:∀t∈T,t<k):∀e∈es,cd e<A*8+k:=λe L=>by
 have:=h.k8 e L
 unfold cd;rcases h.lt e L with q|⟨q,q'⟩
 .omega
 .have:=O _ q';omega
def FlK.known (h:FlK b ms es A T) (h8:ms.length<=8) (hT:∀t∈T,t<k) (a5:∀j,j<k->abN b ms es A j=true->j∈T) (a4:bhN b ms es A k∈stS b es):FlK b ms es A (T ++ [k]) where
 len:=h.len
 k8:=h.k8
 lt:=λe he=>by
  rcases h.lt e he with q|⟨q,q'⟩
  .show .inl q
  .show .inr ⟨q,qD5 _ q'⟩
 inc:=h.inc
 par:=h.par
 beh:=h.beh
 nod:=h.nod
 cl:=λt ht j O L=>by
  rcases qC6.mp ht with q|q
  .show qD5 _ (h.cl t q j O L)
  .rw [qC3.mp q]at O
   show qD5 _ (a5 j O L)
 set:=λa j O a3 L=>by
  rcases O with q|⟨q,q'⟩
  .show h.set a j (.inl q) a3 L
  .rcases qC6.mp q' with q2|q2
   .show h.set a j (.inr ⟨q,q2⟩) a3 L
   .have ek:=qC3.mp q2;subst q ek;unfold stS at a4;rcases qB6.mp a4 with e|e
    .show .inr (.inl e)
    .obtain ⟨x,hx,ex⟩:=qA9.mp e;show .inr (.inr ⟨x,hx,h.below h8 hT x hx,ex⟩)
def FlK.snoc (h:FlK b ms es A T) (h8:ms.length<=8) (hA:A<es.length+1) (hk:k<ms.length) (hT:∀t∈T,t<k) (a6:∀j,j<k->abN b ms es A j=true->j∈T) (a7:abN b ms es A k=true) (ab:(bhN b ms es A k).length=b.length) (a4:bhN b ms es A k∉stS b es):FlK b ms (es ++ [(bhN b ms es A k,A,k)]) A (T ++ [k]):=by
 have hS:∀a j,a<es.length+1->abN b ms (es ++ [(bhN b ms es A k,A,k)]) a j=abN b ms es a j/\bhN b ms (es ++ [(bhN b ms es A k,A,k)]) a j=bhN b ms es a j:=λa j ha=>by
  unfold abN bhN;rw[kB ha];show ⟨rfl,rfl⟩
 have a3:∀e∈es,e.2.1<es.length+1:=λe O=>by
  obtain ⟨i,hi,ei⟩:=qE2.mp O
  have:=h.par i e (by rw[qB4 hi,ei])
  omega
 refine ⟨λe O=>?_,λe O=>?_,λe O=>?_,?_,λi e O=>?_,λe O=>?_,?_,λt ht j hj L=>?_,λa j hj a8 L=>?_⟩
 .rcases qC6.mp O with q|q
  .show h.len e q
  .rw[qC3.mp q];show ab
 .rcases qC6.mp O with q|q
  .show h.k8 e q
  .rw[qC3.mp q];show hk
 .rcases qC6.mp O with q|q
  .rcases h.lt e q with q1|⟨q1,q2⟩
   .show .inl q1
   .show .inr ⟨q1,qD5 _ q2⟩
  .rw[qC3.mp q];show .inr ⟨rfl,QX⟩
 .refine qF3.mpr ⟨h.inc,qK9 _ _,λx hx y hy=>?_⟩;rw[qC3.mp hy];show h.below h8 hT x hx
 .by_cases hi:i<es.length
  .rw [qE8 hi]at O
   show h.par i e O
  .have b0:=(qA8.mp O).1;rw[qC5,qF5]at b0
   have:i=es.length:=ox
   subst this;rw[qH9 (qB5 _),Nat.sub_self]at O;cases O
   change A<=es.length;omega
 .rcases qC6.mp O with q|q
  .rw[(hS _ _ (a3 e q)).1,(hS _ _ (a3 e q)).2];show h.beh e q
  .rw [qC3.mp q]
   rw[(hS A k hA).1,(hS A k hA).2];show ⟨a7,rfl⟩
 .unfold stS;rw[qD1,<- qN5];refine List.nodup_append.mpr ⟨h.nod,QX,λx hx y hy=>?_⟩;rw[List.map_singleton,qC3]at hy;subst hy;intro e;have e:x=bhN b ms es A k:=e;rw[e]at hx;show a4 hx
 .rw [(hS A j hA).1]at L
  rcases qC6.mp ht with q|q
  .show qD5 _ (h.cl t q j hj L)
  .rw [qC3.mp q]at hj
   show qD5 _ (a6 j hj L)
 .have ha:a<es.length+1:=by
   rcases hj with q|⟨q,_⟩
   .omega
   .omega
  rw[(hS a j ha).1]at L;rw[(hS a j ha).2];have a5:(a<A\/(a=A/\j∈T))->(∃e∈es ++ [(bhN b ms es A k,A,k)],e.2=(a,j))\/bhN b ms es a j=b\/∃e∈es ++ [(bhN b ms es A k,A,k)],cd e<a*8+j/\e.1=bhN b ms es a j:=λhj=>by
   rcases h.set a j hj a8 L with ⟨e,O,q⟩|q|⟨e,O,q⟩
   .show .inl ⟨e,qD5 _ O,q⟩
   .show .inr (.inl q)
   .show .inr (.inr ⟨e,qD5 _ O,q⟩)
  rcases hj with q|⟨q,q'⟩
  .show a5 (.inl q)
  .rcases qC6.mp q' with q2|q2
   .show a5 (.inr ⟨q,q2⟩)
   .have ek:=qC3.mp q2;subst q ek;show .inl ⟨_,qE3 _ (List.mem_singleton_self _),rfl⟩
def FlK.next (h:FlK b ms es A T) (hT:∀k,k<ms.length->abN b ms es A k=true->k∈T):FlK b ms es (A+1) [] where
 len:=h.len
 k8:=h.k8
 lt:=λe he=>by
  rcases h.lt e he with q|⟨q,q'⟩
  .show .inl ox
  .show .inl ox
 inc:=h.inc
 par:=h.par
 beh:=h.beh
 nod:=h.nod
 cl:=QX
 set:=λa k O hk L=>by
  rcases O with q|⟨_,q⟩
  .by_cases e:a=A
   .subst e;show h.set a k (.inr ⟨rfl,hT k hk L⟩) hk L
   .show h.set a k (.inl ox) hk L
  .simp at q
def fsN (ms:List Mv)(s:Jg):List Nat:=(List.range ms.length).filter λk=>f8 s (mvN ms k).1
def pY (ms:List Mv)(s:Jg):(fsN ms s).Pairwise (·<·):=List.Pairwise.filter _ List.pairwise_lt_range
def fs_mem:k∈fsN ms s↔k<ms.length/\f8 s (mvN ms k).1=true:=by
 unfold fsN;rw[qP4,qF0]
def vG {l:JQ}(h:l.Pairwise (·<·)) (hi:i<l.length):∀t∈l.take i,t<l[i]:=λt ht=>by
 obtain ⟨j,q,e⟩:=qE2.mp ht;rw[qH0]at q;rw[List.getElem_take]at e;subst e;show qP2.mp h j i ox hi ox
def xk {l:JQ}(h:l.Pairwise (·<·)) (hi:i<l.length) (ht:t∈l) (L:t<l[i]):t∈l.take i:=by
 obtain ⟨j,O,e⟩:=qE2.mp ht;subst e;have a3:j<i:=by
  rcases qN2 j i with q|q|q
  .show q
  .subst q;omega
  .have:=qP2.mp h i j hi O q;omega
 show qE2.mpr ⟨j,by rw[qH0];omega,by rw[List.getElem_take]⟩
def xP (ms:List Mv):((ms.map mW).mapIdx λi x=>W.tup [.int (i:Int),x])=(List.range ms.length).map λ(k:Nat)=>W.tup [.int (k:Int),mW (mvN ms k)]:=by
 apply qK5
 .simp
 .intro i q L;have hi:i<ms.length:=by simpa using q
  simp [mvN,qA1,qB4 hi]
def yi (h6:s.length<=6) (hm:∀m∈ms,okN s.length m) (hl:ms.length<=8):M9 [.tup [tI b,tM_ ms],tI s]=.ok (.lst ((fsN ms s).map λ(k:Nat)=>W.tup [tI (k9 s (mvN ms k)),.int (k:Int)])):=by
 have a1:L2.atI [tI b,tM_ ms] 1=some (tM_ ms):=rfl;have he:W4 [tM_ ms]=.ok ((List.range ms.length).map λ(k:Nat)=>W.tup [.int (k:Int),mW (mvN ms k)]):=by rw[<- xP];rfl
 exists rpB,V4,a1,he;have e:∀N mg mc me ρ,(∀k,k<ms.length->ZX N ρ mg (.tup [.int (k:Int),mW (mvN ms k)]) λ ρ1=>mc ρ1=.ok (f8 s (mvN ms k).1)/\(f8 s (mvN ms k).1=true->me ρ1=.ok (.tup [tI (k9 s (mvN ms k)),.int (k:Int)]))) ->
   n5 N mg mc me ((List.range ms.length).map λ(k:Nat)=>W.tup [.int (k:Int),mW (mvN ms k)]) ρ=.ok (.lst ((fsN ms s).map λ(k:Nat)=>W.tup [tI (k9 s (mvN ms k)),.int (k:Int)])):=λN mg mc me ρ h=>
  T7 (N':=N) (mg:=mg) (mc:=mc) (me:=me) (λk=>W.tup [tI (k9 s (mvN ms k)),.int (k:Int)]) (λk=>W.tup [.int (k:Int),mW (mvN ms k)]) (λk=>f8 s (mvN ms k).1) (List.range ms.length) ρ (by rw[qE4];omega) λk hk=>h k (qF0.mp hk)
 rw[e]
 .exists rp18
 .intro k hk;have q:okN s.length (mvN ms k):=getM hm hk;generalize mvN ms k=m at q
  have O:=fu (s:=s) (m:=m) (by rw[q.1]);refine ⟨_,rfl,?_,λhc=>?_⟩
  .exists O
  .have L:=gf h6 q rfl hc;have k3:(List.range s.length).map (λk=>s.getD k 0+(m.2.getD k 0-m.1.getD k 0))=k9 s m:=rfl;rw[k3]at L;exists L,o5 (v9 (k9 s m))
def FlEnd (b:Jg) (ms:List Mv) (most:Nat) (es:List Ent) (wh:Bool):Prop:=
 es.length+1<=most/\((wh=true/\FlK b ms es (es.length+1) []) \/
  (wh=false/\es.length+1=most/\∃A T k,FlK b ms es A T/\A<es.length+1/\k<ms.length/\(∀t∈T,t<k)/\abN b ms es A k=true/\bhN b ms es A k∉stS b es))
def uu (h:k∉ks):V1 ks k=ks ++ [k]:=qA4 h
def vR {es:List Ent}(h:a<es.length+1):∃x y:W,L2.atI (z7 b es) (a:Int)=some (.tup [tI (sA b es a),x,y]):=by
 cases a with
 |zero=>show ⟨.non,.non,dW (k:=0) rfl⟩
 | succ a=>
  have ha:a<es.length:=ox;have e1:(z7 b es)[a+1]?=some (eW es[a]):=by simp [ha]
  have e2:sA b es (a+1)=es[a].1:=by
   unfold sA stS;simp [qA1,ha]
  rw[e2];show ⟨_,_,dW (k:=a+1) e1⟩
def tU {most:Nat}(h6:b.length<=6) (hm:∀m∈ms,okN b.length m) (hl:ms.length<=8) (h1:1<=most) (h30:most<=100):Ok (ff [.tup [tI b,tM_ ms],.int (most:Int)]) λw=>∃(es:List Ent) (wh:Bool),w=.tup [.lst (z7 b es),.bl wh]/\FlEnd b ms most es wh:=by
 have a0:L2.atI [tI b,tM_ ms] 0=some (tI b):=rfl;have nw:=kR;exists rpB,kW,a0,o5 (v9 b),sT,kR;refine r6 (Q0 ?_);refine Y6 (λm ρ=>∃(es:List Ent) (at_:Nat) (a5 a6 a7:Sl),ρ = [.par (.tup [tI b,tM_ ms]),.par (.int (most:Int)),.own (z7 b es),.dic (stS b es),.val (.int (at_:Int)),a5,a6,a7]/\isDic a5=false/\isDic a6=false/\isDic a7=false/\FlK b ms es at_ []/\at_<=es.length+1/\es.length+1<=most/\m+at_=102) ?_ 102 _ ⟨[],0,.un,.un,.un,rfl,rfl,rfl,rfl,FlK.start b ms,ox,by simpa using h1,rfl⟩;rintro m ρ ⟨es,at_,a5,a6,a7,rfl,d5,d6,d7,hK,c5,c0,hmm⟩;by_cases b4:at_<es.length+1
 .refine ⟨true,?_,?_⟩
  .exists rp18;rw[show decide ((at_:Int)<((es.length+1:Nat):Int))=true from qN8 ox]
  rw[qA2 rfl];obtain ⟨x,y,er⟩:=vR (b:=b) (es:=es) b4;have c1:(sA b es at_).length=b.length:=by
   have:=ou (b:=b) (es:=es) b4
   unfold stS at this;rcases qB6.mp this with e|e
   .rw[e]
   .obtain ⟨z,hz,ez⟩:=qA9.mp e;rw[<- ez];show hK.len z hz
  have kb:=yi (b:=b) (s:=sA b es at_) ox (by rw[c1];show hm) hl;have c2:L2.atI [tI (sA b es at_),x,y] 0=some (tI (sA b es at_)):=rfl;exists er,c2,kb;generalize hs:sA b es at_=s at *
  have c4:(fsN ms s).length<=8:=by
   have:=qS0 (λk=>f8 s (mvN ms k).1) (List.range ms.length)
   rw[qE4]at this;unfold fsN;omega
  refine rZ (λi ρ=>∃(q:List Ent) (a6 a7:Sl),ρ = [.par (.tup [tI b,tM_ ms]),.par (.int (most:Int)),.own (z7 b q),.dic (stS b q),.val (.int (at_:Int)),.val (tI s),a6,a7]/\isDic a6=false/\isDic a7=false/\FlK b ms q at_ ((fsN ms s).take i)/\at_<q.length+1/\q.length+1<=most/\sA b q at_=s) ⟨es,a6,a7,rfl,d6,d7,hK,b4,c0,hs⟩ ?_ ?_
  .rintro i u ρ hu ⟨q,a6,a7,rfl,d6,d7,a8,O,a4,a3⟩;rw[qC9]at hu;cases hq:(fsN ms s)[i]? with
   |none=>rw[hq]at hu;cases hu
   | some k=>
    rw[hq]at hu;cases hu;obtain ⟨hi,b5⟩:=qA8.mp hq;have b3:=fs_mem.mp (qF6 hq);have htk:(fsN ms s).take (i+1)=(fsN ms s).take i ++ [k]:=by rw[qK1,hq];rfl
    have hT:∀t∈(fsN ms s).take i,t<k:=λt ht=>by rw[<- b5];show vG (pY ms s) hi t ht
    have bc:∀j,j<k->abN b ms q at_ j=true->j∈(fsN ms s).take i:=λj hj L=>by
     unfold abN at L;rw[a3]at L;show xk (pY ms s) hi (fs_mem.mpr ⟨ox,L⟩) (by rw[b5];show hj)
    have L:abN b ms q at_ k=true:=by unfold abN;rw[a3];show b3.2
    have ab:bhN b ms q at_ k=k9 s (mvN ms k):=by unfold bhN;rw[a3]
    have c3:(k9 s (mvN ms k)).length=b.length:=by rw[L3];show c1
    have b0:=U7 (stS b q) (.bl true) (k9 s (mvN ms k)) 3 [.par (.tup [tI b,tM_ ms]),.par (.int (most:Int)),.own (z7 b q),.dic (stS b q),.val (.int (at_:Int)),.val (tI s),.par (tI (k9 s (mvN ms k))),.par (.int (k:Int))] rfl (by rw[S2];omega);dsimp only;generalize hB:k9 s (mvN ms k)=B at *
    refine ⟨_,rfl,?_⟩;exists rp18;refine kM (λh=>?_) (λh=>?_)
    .have h:=qO4 h;exists rp18;show ⟨q,_,_,rfl,rfl,rfl,by rw[htk];show a8.known hl hT bc (by rw[ab];show h),O,a4,a3⟩
    .have h:=qO2 h;rw[uu h]at b0;exists rp18;refine kM (λh2=>?_) (λh2=>?_)
     .have h2:=qO4 h2;exists rp18;show ⟨q,false,rfl,a4,.inr ⟨rfl,ox,at_,_,k,a8,O,b3.1,hT,L,by rw[ab];show h⟩⟩
     .have h2:=qO2 h2;exists b0,o5 (v9 B);refine ⟨q ++ [(B,at_,k)],.par (tI B),.par (.int (k:Int)),?_,rfl,rfl,?_,?_,?_,?_⟩
      .simp [z7,stS]
      .rw [htk,<- ab]
       show a8.snoc hl O b3.1 hT bc L (by rw[ab];show c3) (by rw[ab];show h)
      .rw[qC5];omega
      .rw[qC5,qF5];omega
      .rw[kB O];show a3
  .rintro ρ ⟨q,a6,a7,rfl,d6,d7,a8,O,a4,a3⟩;rw[qA7,qK4]at a8;exists rp18;refine ⟨m-1,ox,q,at_+1,_,_,_,rfl,rfl,d6,d7,a8.next λk hk L=>fs_mem.mpr ⟨hk,?_⟩,ox,a4,ox⟩;unfold abN at L;rw[a3]at L;show L
 .refine ⟨false,?_,?_⟩
  .exists rp18;rw[show decide ((at_:Int)<((es.length+1:Nat):Int))=false from qN7 ox]
  .rw [qA4 qA3]
   have e:at_=es.length+1:=ox;subst e;exists rp18;show ⟨es,true,rfl,c0,.inl ⟨rfl,hK⟩⟩
def mm (b:Jg):Option Ent->W
 |none=>r0 b
 |some e=>eW e
def stO (b:Jg):Option Ent->List Int
 |none=>b
 |some e=>e.1
def zu (b:Jg) (es:List Ent):z7 b es=(none::es.map some).map (mm b):=by
 rw[qC0,qD7];rfl
def st_O (b:Jg) (es:List Ent):(none::es.map some).map (stO b)=stS b es:=by
 rw[qC0,qD7];rfl
inductive Pt (es:List Ent):Nat->List Int->List Int->Prop where
 |zero:Pt es 0 [0] []
 |succ {i:Nat}{e:Ent}{l r:Jg}:es[i]?=some e->Pt es e.2.1 l r->Pt es (i+1) (((i+1:Nat):Int)::l) (r ++ [(e.2.2:Int)])
def Pt.ex (q:∀(i:Nat) (e:Ent),es[i]?=some e->e.2.1<=i):∀n,n<=es.length->∃l r,Pt es n l r:=by
 intro n
 induction n using Nat.strongRecOn with
 | _ n L=>
  intro hn;cases n with
  |zero=>show ⟨_,_,.zero⟩
  | succ i=>
   have hi:es[i]?=some es[i]:=qB4 ox
   have:=q i _ hi
   obtain ⟨l,r,p⟩:=L es[i].2.1 ox ox;show ⟨_,_,.succ hi p⟩
def Pt.len (q:∀(i:Nat) (e:Ent),es[i]?=some e->e.2.1<=i):∀{n:Nat}{l r:Jg},Pt es n l r->l.length=r.length+1/\r.length<=n
 |_,_,_,.zero=>⟨rfl,qB5 _⟩
 | _,_,_,.succ h p=>by
  have:=Pt.len q p
  have:=q _ _ h
  rw[qC1,qC5,qF5];omega
def Pt.rev:∀{n:Nat}{l r:Jg},Pt es n l r->∃t:List Nat,l.reverse=0::t.map (λ(k:Nat)=>((k+1:Nat):Int))/\(∀k∈t,k<es.length)/\r=t.map λk=>((es.getD k ([],0,0)).2.2:Int)
 |_,_,_,.zero=>⟨[],rfl,QX,rfl⟩
 | _,_,_,.succ (i:=i) (e:=e) h p=>by
  obtain ⟨t,L,O,h3⟩:=Pt.rev p;have hi:=(qA8.mp h).1;refine ⟨t ++ [i],?_,λk hk=>?_,?_⟩
  .rw[qL7,L,qD1];rfl
  .rcases qC6.mp hk with q|q
   .show O k q
   .rw[qC3.mp q];show hi
  .rw [qD1,<- h3]
   have:es.getD i ([],0,0)=e:=by rw[qA1,h];rfl
   rw[List.map_singleton,this]
def ru (ms:List Mv)(b r:Jg):List Int:=r.foldl (λs k=>k9 s (mvN ms k.toNat)) b
def kD (ms:List Mv)(b r:Jg) (k:Int):ru ms b (r ++ [k])=k9 (ru ms b r) (mvN ms k.toNat):=by unfold ru;rw[List.foldl_append];rfl
def oA (ms:List Mv):∀(r b:Jg),(ru ms b r).length=b.length
 | [],b=>rfl
 | k::r,b=>by
  change (ru ms (k9 b (mvN ms k.toNat)) r).length=_;rw[oA ms r,L3]
def ot (h:es[i]?=some e):sA b es (i+1)=e.1:=by
 unfold sA stS;rw[qA1,qR3,qC9,h];rfl
def Pt.run (L:FlK b ms es A T):∀{n:Nat}{l r:Jg},Pt es n l r->ru ms b r=sA b es n/\∀j,j<r.length->(0<=r.getD j 0/\r.getD j 0<(ms.length:Int))/\f8 (ru ms b (r.take j)) (mvN ms (r.getD j 0).toNat).1=true
 |_,_,_,.zero=>⟨rfl,λj hj=>absurd hj (qE0 _)⟩
 | _,_,_,.succ (i:=i) (e:=e) (l:=l) (r:=r) h p=>by
  obtain ⟨h1,h2⟩:=Pt.run L p;have he:=qF6 h;have hb:=L.beh e he;have hk:=L.k8 e he;refine ⟨?_,λj hj=>?_⟩
  .rw [kD,h1,ot h,hb.2]
   unfold bhN;rw[qG3]
  .rw [qC5,qF5]at hj
   by_cases e1:j=r.length
   .subst e1;have g:(r ++ [(e.2.2:Int)]).getD r.length 0=(e.2.2:Int):=by rw[qA1];simp
    have O:(r ++ [(e.2.2:Int)]).take r.length=r:=QX;rw[g,O,h1,qG3];show ⟨ox,hb.1⟩
   .have q:j<r.length:=ox;have g:(r ++ [(e.2.2:Int)]).getD j 0=r.getD j 0:=by rw[qA1,qA1,qE8 q]
    have O:(r ++ [(e.2.2:Int)]).take j=r.take j:=qS9 ox;rw[g,O];show h2 j q
def kF (h:es[i]?=some e):L2.atI (z7 b es) ((i+1:Nat):Int)=some (eW e):=dW (k:=i+1) (by change (es.map eW)[i]?=_;rw[qC9,h];rfl)
def vB (hp:∀(i:Nat) (e:Ent),es[i]?=some e->e.2.1<=i) (hl:es.length<=100) (hn:n<=es.length) (p:Pt es n l r):S0 [.lst (z7 b es),.int (n:Int)]=.ok (lI l):=by
 have fin:Ok (S0 [.lst (z7 b es),.int (n:Int)]) λv=>v=lI l:=by
  have a5:=(Pt.len hp p).1;have a8:=(Pt.len hp p).2;exists rpB,dz;refine r6 (Q0 ?_);refine Y6 (λm ρ=>∃(xs l':Jg) (w:W) (a3:Sl),ρ = [.par (.lst (z7 b es)),.par (.int (n:Int)),.own (xs.map W.int),a3]/\(a3=.val w\/a3=.par w)/\xs++l'=l/\((w=.non/\l' = [])\/∃(n':Nat) (r':Jg),w=.int (n':Int)/\Pt es n' l' r'/\n'<m)) ?_ (n+1) _ ⟨[],l,.int (n:Int),.val (.int (n:Int)),rfl,.inl rfl,rfl,.inr ⟨n,r,rfl,p,qV3 n⟩⟩;rintro m ρ ⟨xs,l',w,a3,rfl,ha,L,hc⟩;rcases hc with ⟨rfl,rfl⟩|⟨n',r',rfl,p',hm⟩
  .refine ⟨false,?_,?_⟩
   .rcases ha with rfl|rfl
    .exists rp18
    .exists rp18
   .rw [qA4 qA3]
    rw[qH6]at L;subst L;exists rp18
  .refine ⟨true,?_,?_⟩
   .rcases ha with rfl|rfl
    .exists rp18
    .exists rp18
   .rw [qA2 rfl]
    have a6:xs.length<=l.length:=by rw[<- L,qC5];omega
    cases p' with
    | zero=>
     have q:L2.atI (z7 b es) (((0:Nat)):Int)=some (r0 b):=dW (k:=0) rfl;have a4:L2.atI (z7 b es) 0=some (r0 b):=q;have b1:L2.atI [tI b,W.non,W.non] 1=some W.non:=rfl;rcases ha with rfl|rfl
     .exists q,a4,b1;show ⟨0,ox,xs ++ [0],[],.non,_,by rw[qD1],.inr rfl,by simpa using L,.inl ⟨rfl,rfl⟩⟩
     .exists q,a4,b1;show ⟨0,ox,xs ++ [0],[],.non,_,by rw[qD1],.inr rfl,by simpa using L,.inl ⟨rfl,rfl⟩⟩
    | @succ i e l2 r2 h p2=>
     have r1:=kF (b:=b) h;have b1:L2.atI [tI e.1,.int (e.2.1:Int),.int (e.2.2:Int)] 1=some (.int (e.2.1:Int)):=rfl;have a7:=hp i e h;have O:(xs ++ [((i+1:Nat):Int)])++l2=l:=by rw[<- L];simp
     rcases ha with rfl|rfl
     .exists r1,b1;show ⟨i+1,ox,xs ++ [((i+1:Nat):Int)],l2,.int (e.2.1:Int),_,by rw[qD1],.inr rfl,O,.inr ⟨e.2.1,r2,rfl,p2,ox⟩⟩
     .exists r1,b1;show ⟨i+1,ox,xs ++ [((i+1:Nat):Int)],l2,.int (e.2.1:Int),_,by rw[qD1],.inr rfl,O,.inr ⟨e.2.1,r2,rfl,p2,ox⟩⟩
 obtain ⟨v,e,rfl⟩:=fin;show e
def rD (hp:∀(i:Nat) (e:Ent),es[i]?=some e->e.2.1<=i) (hl:es.length<=100) (hn:n<=es.length) (p:Pt es n l r):cO [.lst (z7 b es),.int (n:Int)]=.ok (lI r):=by
 have k1:=vB (b:=b) hp hl hn p;obtain ⟨t,h1,h2,h3⟩:=Pt.rev p;have a3:=Pt.len hp p;have a4:t.length=r.length:=by rw[h3,qA7]
 have k2:mV [.lst (z7 b es),.int (n:Int)]=.ok (lI l.reverse):=by
  exists rpB,uU,k1
 have k3:Q9 [.lst (z7 b es),.int 0,.int (n:Int)]=.ok (lI r):=by
  have L:jk (l.reverse.map W.int) (.int 0)=.ok (.int 0):=by
   rw[h1];have hs:(shp 8 (.int 0)&&shp 8 (.lst ((0::t.map λ(k:Nat)=>((k+1:Nat):Int)).map W.int)))=true:=by
    rw[S3,qI8];show T0 W.int 7 (S3 7) _
   unfold jk;rw[qA2 hs];rfl
  have q:ng l.reverse (some 1) none=t.map λ(k:Nat)=>((k+1:Nat):Int):=by
   rw[h1];unfold ng;rw[show (1:Int)=((1:Nat):Int) from rfl,HT.sIx_nat,HT.sIx_none];simp;show qL6 QX
  have e:∀N mg me ρ,(∀k∈t,ZX N ρ mg (.int ((k+1:Nat):Int)) λ ρ1=>me ρ1=.ok (.int ((es.getD k ([],0,0)).2.2:Int)))->n5 N mg yes me ((t.map λ(k:Nat)=>((k+1:Nat):Int)).map W.int) ρ=.ok (lI r):=λN mg me ρ h=>by
   rw[qD7];refine (w4 (λk=>W.int ((es.getD k ([],0,0)).2.2:Int)) (W.int∘λ(k:Nat)=>((k+1:Nat):Int)) t ρ ox h).trans ?_;rw[h3];show congrArg (λz=>R.ok (W.lst z)) (by rw[qD7];rfl)
  exists rpB,ad,k2,L;rw[q,e]
  .exists rp18
  .intro k hk;have O:=h2 k hk;have hg:es[k]?=some (es.getD k ([],0,0)):=by rw[qA1,qB4 O];rfl
   have r1:=kF (b:=b) hg;generalize es.getD k ([],0,0)=e at r1
   have b2:L2.atI [tI e.1,.int (e.2.1:Int),.int (e.2.2:Int)] 2=some (.int (e.2.2:Int)):=rfl;refine ⟨_,rfl,?_⟩;exists r1,b2
 exists rpB,iR,k3
def d4 (s:Jg)(ss:Jo):Bool:=ss.any (f8 s)
def aG {ss:Jo}(h:i<ss.length):ss.getD i []∈ss:=by
 rw[qA1];simp [h]
def O3 {ss:Jo}(h:(ss.map tI)[i]?=some w):i<ss.length/\w=tI (ss.getD i []):=by
 rw[qC9]at h;cases q:ss[i]? with
 |none=>rw[q]at h;cases h
 | some k=>
  rw[q]at h;cases h;show ⟨(qA8.mp q).1,by rw[qA1,q];rfl⟩
def uW (hi:i<ss.length) (h:f8 s (ss.getD i [])=true):d4 s ss=true:=by
 unfold d4;rw[qD4];show ⟨_,aG hi,h⟩
def uY (h:∀k,k<ss.length->f8 s (ss.getD k [])=false):d4 s ss=false:=by
 unfold d4;rw[qU5];intro x q;obtain ⟨i,hi,e⟩:=qE2.mp q
 have:=h i hi
 rw[qA1]at this;simp [hi,e]at this;simp [this]
def L7 (hl:∀x∈ss,x.length=s.length):D4 [tI s,.lst (ss.map tI)]=.ok (.bl (d4 s ss)):=by
 have fin:Ok (D4 [tI s,.lst (ss.map tI)]) λv=>v=.bl (d4 s ss):=by
  exists rpB,iS;refine r6 (p8 (λi ρ=>∃u,ρ = [.par (tI s),.par (.lst (ss.map tI)),u]/\∀k,k<i->f8 s (ss.getD k [])=false) ⟨_,rfl,λk hk=>absurd hk (qE0 _)⟩ ?_ ?_)
  .rintro i u ρ hu ⟨_,rfl,q⟩;obtain ⟨hi,rfl⟩:=O3 hu;have hc:=fY (a:=s) (b:=ss.getD i []) (hl _ (aG hi));refine ⟨_,rfl,?_⟩;exists hc;refine M5 (λh=>?_) (λh=>?_)
   .exists rp18;rw[uW hi h]
   .exists rp18;refine ⟨_,rfl,λk hk=>?_⟩;by_cases e:k=i
    .subst e;show h
    .show q k ox
  .rintro ρ ⟨_,rfl,q⟩;rw[qA7]at q;exists rp18;rw[uY q]
 obtain ⟨v,e,rfl⟩:=fin;show e
def srcL (g t p:Jg):List Int:=(List.range g.length).map λk=>max (t.getD k 0) (g.getD k 0-p.getD k 0+t.getD k 0)
def Y1 (g t p:Jg):(srcL g t p).length=g.length:=by simp [srcL]
def bt (h:k<g.length):(srcL g t p).getD k 0=max (t.getD k 0) (g.getD k 0-p.getD k 0+t.getD k 0):=K3 h
def nU (ht:t.length=g.length) (q:p.length=g.length) (L:g.length<=6):cN [tI g,.tup [tI t,tI p]]=.ok (tI (srcL g t p)):=by
 have a0:L2.atI [tI t,tI p] 0=some (tI t):=rfl;have a1:L2.atI [tI t,tI p] 1=some (tI p):=rfl;have hz:=yx (tI g) (tI t) (tI p) _ _ _ rfl rfl rfl;rw[vy ht q]at hz;exists rpB,iQ,a0,a1,hz;have e:∀N mg me ρ (h:∀k,k<g.length->ZX N ρ mg (.tup [.int (g.getD k 0),.int (t.getD k 0),.int (p.getD k 0)]) λ ρ1=>me ρ1=.ok (.int (max (t.getD k 0) (g.getD k 0-p.getD k 0+t.getD k 0)))),n5 N mg yes me ((List.range g.length).map λk=>.tup [.int (g.getD k 0),.int (t.getD k 0),.int (p.getD k 0)]) ρ=.ok (lI (srcL g t p)):=λN mg me ρ h=>by
  rw[w4 (λk=>.int (max (t.getD k 0) (g.getD k 0-p.getD k 0+t.getD k 0))) _ _ ρ (by simpa using (by omega:g.length<=1000)) (λk hk=>h k (by simpa using hk)),iP];rfl
 rw[e]
 .exists rp18
 .intro k hk;refine ⟨_,rfl,?_⟩;exists rp18
def x9 (ms:List Mv)(ss:Jo):List Jg:=ms.flatMap λm=>ss.map λs=>srcL s m.1 m.2
def Y0:(x9 ms ss).length=ms.length*ss.length:=by
 unfold x9
 induction ms with
 |nil=>simp
 |cons m ms q=>rw[List.flatMap_cons,qC5,q,qA7,qC1,Nat.succ_mul,qV4]
def cz (hs:∀x∈ss,x.length=n):∀x∈x9 ms ss,x.length=n:=λx q=>by
 unfold x9 at q;obtain ⟨m,_,q⟩:=qP3.mp q;obtain ⟨s,L,rfl⟩:=qA9.mp q;rw[Y1];show hs s L
def cW (h6:n<=6) (hm:∀m∈ms,okM n m) (hs:∀x∈ss,x.length=n) (a4:ms.length<=8) (O:ss.length<=100):Q3 [tM_ ms,lS ss]=.ok (lS (x9 ms ss)):=by
 have fin:Ok (Q3 [tM_ ms,lS ss]) λv=>v=lS (x9 ms ss):=by
  exists rpB,fK;refine r6 (p8 (λi ρ=>∃(u:Sl),ρ = [.par (tM_ ms),.par (lS ss),.own ((x9 (ms.take i) ss).map tI),u]/\i<=ms.length) ⟨_,rfl,qD2 _⟩ ?_ ?_)
  .rintro i w ρ hw ⟨u,rfl,hi⟩;obtain ⟨m,hmm,L,rfl⟩:=bG hw;have a3:i<ms.length:=(qA8.mp L).1;refine ⟨_,rfl,?_⟩;have e:∀N mg me ρ (h:∀s∈ss,ZX N ρ mg (tI s) λ ρ1=>me ρ1=.ok (tI (srcL s m.1 m.2))),n5 N mg yes me (ss.map tI) ρ=.ok (lS (ss.map λs=>srcL s m.1 m.2)):=λN mg me ρ h=>by
    rw[w4 (λs=>tI (srcL s m.1 m.2)) _ _ ρ ox h];show congrArg (λl=>R.ok (W.lst l)) (by rw[qD7];rfl)
   exists rp18;rw[e]
   .have hl:(x9 (ms.take i) ss).length+ss.length<=1000:=by
     rw[Y0,qH0,qM5 ox]
     have:=qZ7 (show i<=8 by omega) O
     omega
    exists rp18;refine ⟨.par (mW m),?_,a3⟩
    have:x9 (ms.take (i+1)) ss=x9 (ms.take i) ss++ss.map λs=>srcL s m.1 m.2:=by
     unfold x9;rw[qK1,L];simp
    rw[this]
   .intro s q;have hk:=nU (g:=s) (t:=m.1) (p:=m.2) (by rw[hs s q,(hm m hmm).1]) (by rw[hs s q,(hm m hmm).2]) (by rw[hs s q];show h6);refine ⟨_,rfl,?_⟩;exists hk
  .rintro ρ ⟨u,rfl,hi⟩;rw[qA7,qK4];exists rp18
 obtain ⟨v,e,rfl⟩:=fin;show e
def cov_iff:f8 a b=true↔∀k,k<a.length->b.getD k 0<=a.getD k 0:=by
 unfold f8;rw[qE7];show ⟨λh k hk=>qO4 (h k (by simpa using hk)),λh k hk=>qN8 (h k (by simpa using hk))⟩
def bst (q:Jo)(s:Jg):List Jg:=if d4 s q then q else q ++ [s]
def T6 (ss:Jo):List Jg:=(F8 ss).foldl bst []
def dU:∀(l q:Jo),(q.Pairwise λa b=>f8 b a=false) ->
  (∃t,t.Sublist l/\l.foldl bst q=q++t)/\((l.foldl bst q).Pairwise λa b=>f8 b a=false)/\∀z∈l,∃s∈l.foldl bst q,f8 z s=true
 | [],q,h2=>⟨⟨[],.slnil,QX⟩,h2,λ_ h=>nomatch h⟩
 | z::l,q,h2=>by
  rw[qW9];cases c:d4 z q with
  | true=>
   have e:bst q z=q:=by unfold bst;rw[qA2 c]
   rw[e];obtain ⟨⟨t,ht,O⟩,i3,i4⟩:=dU l q h2;refine ⟨⟨t,ht.cons z,O⟩,i3,λy L=>?_⟩;rcases qB6.mp L with rfl|L
   .unfold d4 at c;obtain ⟨s,hs,hw⟩:=qD4.mp c;show ⟨s,by rw[O];show qD5 _ hs,hw⟩
   .show i4 y L
  | false=>
   have e:bst q z=q ++ [z]:=by unfold bst;rw[qA4 (by rw[c];show qA3)]
   rw[e];have a3:∀s∈q,f8 z s=false:=λs hs=>by
    unfold d4 at c;rw[qU5]at c;simpa using c s hs
   obtain ⟨⟨t,ht,O⟩,i3,i4⟩:=dU l (q ++ [z]) (by
    rw[qF3];refine ⟨h2,qK9 _ _,λa ha b hb=>?_⟩;rw[qC3.mp hb];show a3 a ha)
   refine ⟨⟨z::t,ht.cons₂ z,by rw[O];simp⟩,i3,λy L=>?_⟩;rcases qB6.mp L with rfl|L
   .refine ⟨y,?_,gM λk hk=>qH8 _⟩;rw[O];simp
   .show i4 y L
structure Bas (n:Nat) (B:Jo):Prop where
 len:∀b∈B,b.length=n
 up:B.Pairwise λa b=>TP.lexLt b a=false
 a1:B.Pairwise λa b=>f8 b a=false
def jw (a:Jg):f8 a a=true:=gM λk hk=>qH8 _
def eP (h:∀s∈ss,s.length=n):Bas n (T6 ss)/\(∀b∈T6 ss,b∈ss)/\(∀s∈ss,∃b∈T6 ss,f8 s b=true)/\(T6 ss).length<=ss.length:=by
 have L:=au ss;obtain ⟨⟨t,ht,O⟩,i3,i4⟩:=dU (F8 ss) [] .nil;rw[qM6]at O;have hs:(T6 ss).Sublist (F8 ss):=by unfold T6;rw[O];show ht
 refine ⟨⟨λb hb=>h b (L.mem_iff.mp (hs.subset hb)),(kw ss).sublist hs,i3⟩,λb hb=>L.mem_iff.mp (hs.subset hb),λs q=>i4 s (L.mem_iff.mpr q),?_⟩
 have:=hs.length_le
 rw[L.length_eq]at this;show this
def xC (h:ss.length<=1000) (L:∀z∈ss,z ≠ []):fSortA [lS ss]=.ok (lS (F8 ss)):=by
 have q:ss.all (λx=>!x.isEmpty)=true:=by
  rw[qE7];intro x O
  have:=L x O
  cases x with
  |nil=>show absurd rfl this
  |cons _ _=>rfl
 change (match R3 (ss.map λx=>W.tup (x.map W.int)) with|some ss=>_|none=>_)=_;rw[gR]
 change (if _ then _ else _)=_;rw[qA2 ⟨h,q⟩]
def qX {l:Jo}(hi:i<l.length):(l.take (i+1)).foldl bst []=bst ((l.take i).foldl bst []) (l.getD i []):=by
 rw[qK1,List.foldl_append,qA1];simp [qB4 hi]
def fold_subB {l:Jo}:(l.foldl bst []).Sublist l:=by
 obtain ⟨⟨t,ht,q⟩,_⟩:=dU l [] .nil;rw[qM6]at q;rw[q];show ht
def sX (h1:1<=n) (h:∀s∈ss,s.length=n) (a5:ss.length<=900):bK [lS ss]=.ok (lS (T6 ss)):=by
 have fin:Ok (bK [lS ss]) λv=>v=lS (T6 ss):=by
  have k0:=xC (ss:=ss) ox λz hz e=>by have:=h z hz;rw[e]at this;simp at this;omega
  have hp:=au ss;have hlen:=hp.length_eq;have a3:∀s∈F8 ss,s.length=n:=λs hs=>h s (hp.mem_iff.mp hs);exists rpB,kU,k0;unfold T6;generalize F8 ss=S at hlen a3
  refine r6 (p8 (λi ρ=>∃a:Sl,ρ = [.par (lS ss),.own (((S.take i).foldl bst []).map tI),a]) ⟨_,rfl⟩ ?_ ?_)
  .rintro i u ρ hu ⟨a,rfl⟩;obtain ⟨hi,rfl⟩:=O3 hu;have O:=aG hi;have L:=qX hi;have q:((S.take i).foldl bst []).Sublist S:=fold_subB.trans (List.take_sublist _ _);generalize (S.take i).foldl bst []=F at L q
   generalize S.getD i []=z at O L
   have a4:F.length<=900:=by have:=q.length_le;omega
   have k1:=L7 (s:=z) (ss:=F) λx hx=>by rw[a3 x (q.subset hx),a3 z O]
   refine ⟨_,rfl,?_⟩;exists k1;refine M5 (λh=>?_) (λh=>?_)
   .exists o5 (v9 z);refine ⟨.par (tI z),?_⟩;rw[L];unfold bst;rw[qA4 (by simpa using h),qD1]
   .exists rp18;refine ⟨.par (tI z),?_⟩;rw[L];unfold bst;rw[qA2 (by simpa using h)]
  .rintro ρ ⟨a,rfl⟩;rw[qA7,qK4];exists rp18
 obtain ⟨v,e,rfl⟩:=fin;show e
def lr (p:Jg):∀L:List Jg,((pds (L.map tI)).any λy=>PyData.eqv y (pd (tI p)))=decide (p∈L)
 | []=>by simp [pds]
 | q::L=>by
  have g:=lr p L;have e:PyData.eqv (pd (tI q)) (pd (tI p))=decide (q=p):=eqI q p;simp only [qC0,pds,qU2,g,e];by_cases h:q=p
  .subst h;simp
  .have h':¬ p=q:=λe=>h e.symm;simp [h,h']
def qc (neg:Bool) (p:Jg) (q:Jo):fIn neg (tI p) (lS q)=.ok (.bl (if neg then !decide (p∈q) else decide (p∈q))):=by
 have e:inW (tI p) (lS q)=some (decide (p∈q)):=congrArg some (lr p q);unfold fIn;rw[av,hU,qM2,qA2 rfl,e]
def z8 (s:Jg)(m:Mv):List Int:=(List.range s.length).map λk=>s.getD k 0-m.1.getD k 0+m.2.getD k 0
def O7 (s:Jg)(m:Mv):(z8 s m).length=s.length:=by simp [z8]
def u8 (ss:Jo)(s:Jg)(m:Mv):Bool:=f8 s m.1&&d4 (z8 s m) ss
def mQ (ms:List Mv)(ss:Jo)(s:Jg):Bool:=d4 s ss||ms.any (u8 ss s)
def mN (s t:Jg):d4 s [t]=f8 s t:=by unfold d4;simp
def bf (L:a.length=b.length) (x:f8 a b=true) (y:f8 b c=true):f8 a c=true:=cov_iff.mpr λk hk=>by
 have p:=cov_iff.mp x k hk;have q:=cov_iff.mp y k ox;omega
def eB (hz:z.length=n) (hs:s.length=n):f8 z (srcL s m.1 m.2)=true↔f8 z m.1=true/\f8 (z8 z m) s=true:=by
 constructor
 .intro h;have h:=cov_iff.mp h;refine ⟨cov_iff.mpr λk hk=>?_,cov_iff.mpr λk hk=>?_⟩
  .have:=h k hk
   rw[bt ox]at this;omega
  .rw [O7]at hk
   have:=h k hk
   rw[bt ox]at this;rw[show (z8 z m).getD k 0=_ from K3 hk];omega
 .rintro ⟨h,h'⟩;have h:=cov_iff.mp h;have h':=cov_iff.mp h';refine cov_iff.mpr λk hk=>?_;have p:=h k hk;have q:=h' k (by rw[O7];show hk);rw[show (z8 z m).getD k 0=_ from K3 hk]at q;rw[bt ox];omega
section
variable {n:Nat}{ms:List Mv}{ss:Jo}(hs:∀x∈ss,x.length=n)
include hs
def ef:∀x∈ss++x9 ms ss,x.length=n:=λx L=>by
 rcases qC6.mp L with q|q
 .show hs x q
 .show cz hs x q
def sY (hz:z.length=n):mQ ms ss z=true↔∃d∈ss++x9 ms ss,f8 z d=true:=by
 unfold mQ;rw[qS8];constructor
 .rintro (h|h)
  .unfold d4 at h;obtain ⟨s,O,L⟩:=qD4.mp h;show ⟨s,qD5 _ O,L⟩
  .obtain ⟨m,O,L⟩:=qD4.mp h;unfold u8 at L;rw[qG5]at L;unfold d4 at L;obtain ⟨s,h3,h4⟩:=qD4.mp L.2;refine ⟨srcL s m.1 m.2,qE3 _ ?_,(eB hz (hs s h3)).mpr ⟨L.1,h4⟩⟩;unfold x9;show qP3.mpr ⟨m,O,qA9.mpr ⟨s,h3,rfl⟩⟩
 .rintro ⟨d,hd,hc⟩;rcases qC6.mp hd with q|q
  .show .inl (qD4.mpr ⟨d,q,hc⟩)
  .unfold x9 at q;obtain ⟨m,O,q⟩:=qP3.mp q;obtain ⟨s,h3,rfl⟩:=qA9.mp q
   have:=(eB hz (hs s h3)).mp hc
   refine .inr (qD4.mpr ⟨m,O,?_⟩);unfold u8;rw[this.1,qI8];show qD4.mpr ⟨s,h3,this.2⟩
end
def ku (h1:1<=n) (h6:n<=6) (hm:∀m∈ms,okM n m) (hs:∀x∈ss,x.length=n) (O:ms.length<=8) (q:ss.length<=100) (L:ss.length+ms.length*ss.length<=900):D9 [tM_ ms,lS ss]=.ok (lS (T6 (ss++x9 ms ss))):=by
 have k1:=cW h6 hm hs O q;have k2:=sX (ss:=ss++x9 ms ss) h1 (ef hs) (by rw[qC5,Y0];show L);have k3:mY true (.lst (ss.map tI)) (lS (x9 ms ss))=.ok (lS (ss++x9 ms ss)):=by
  rw[qd (by simp [Y0];omega),<- qD1];rfl
 exists rpB,bT,k1,k3,k2
def J8 (ms:List Mv)(ss:Jo):Bool:=(x9 ms ss).all λs=>d4 s ss
def vL (h6:n<=6) (hm:∀m∈ms,okM n m) (hs:∀x∈ss,x.length=n) (L:ms.length<=8) (q:ss.length<=100):aU [tM_ ms,lS ss]=.ok (.bl (J8 ms ss)):=by
 have k1:=cW h6 hm hs L q;have e:∀N mg me ρ (h:∀s∈x9 ms ss,ZX N ρ mg (tI s) λ ρ1=>me ρ1=.ok (.bl (d4 s ss))),n5 N mg yes me ((x9 ms ss).map tI) ρ=.ok (.lst (((x9 ms ss).map λs=>d4 s ss).map W.bl)):=λN mg me ρ h=>by
  rw[w4 (λs=>W.bl (d4 s ss)) _ _ ρ (by rw[Y0];have:=qZ7 L q;omega) h,qD7];rfl
 exists rpB,fL,k1;rw[e]
 .exists rp18;unfold cL J8;rw[List.all_map];rfl
 .intro s O;have hk:=L7 (s:=s) (ss:=ss) (λx hx=>by rw[hs x hx,cz hs s O]);refine ⟨_,rfl,?_⟩;exists hk
def Bk (ms:List Mv) (t:Jg):Nat->List Jg
 |0=>[t]
 |k+1=>T6 (Bk ms t k++x9 ms (Bk ms t k))
def J7 (ht:t.length=n):∀k,Bas n (Bk ms t k)
 |0=>⟨λb hb=>by rw[qC3.mp hb];show ht,qK9 _ _,qK9 _ _⟩
 |k+1=>(eP (ef (ms:=ms) (J7 ht k).len)).1
section
variable {n:Nat}{ms:List Mv}{t:Jg}(ht:t.length=n)
include ht
def K7 (k:Nat) (hs:s.length=n):d4 s (Bk ms t (k+1))=(d4 s (Bk ms t k)||ms.any (u8 (Bk ms t k) s)):=by
 have q:=J7 (ms:=ms) ht k;have hm:=eP (ef (ms:=ms) q.len);have e:d4 s (Bk ms t (k+1))=true↔mQ ms (Bk ms t k) s=true:=by
  rw[sY q.len hs];unfold d4;rw[qD4];constructor
  .rintro ⟨b,hb,hc⟩;show ⟨b,hm.2.1 b hb,hc⟩
  .rintro ⟨d,hd,hc⟩;obtain ⟨b,hb,L⟩:=hm.2.2.1 d hd;show ⟨b,hb,bf (by rw[hs,ef (ms:=ms) q.len d hd]) hc L⟩
 show qJ3.mpr e
def T8 (k:Nat) (hs:s.length=n) (h:d4 s (Bk ms t k)=true):d4 s (Bk ms t (k+1))=true:=by
 rw[K7 ht k hs,h];rfl
def eU:∀(k:Nat){s:Jg},s.length=n->f8 s t=true->d4 s (Bk ms t k)=true
 |0,s,_,h=>by change d4 s [t]=true;rw[mN];show h
 |k+1,s,hs,h=>T8 ht k hs (eU k hs h)
end
def kC (h:ws.length=n):K5 n N m ws=R0 (m (ws.map Sl.val++List.replicate (N-n) Sl.un)):=by unfold K5;rw[qA2 h];rfl
def zl (a b:W):K5 2 N m [a,b]=R0 (m (Sl.val a::Sl.val b::List.replicate (N-2) Sl.un)):=kC rfl
def zk (a b c d:W):K5 4 N m [a,b,c,d]=R0 (m (Sl.val a::Sl.val b::Sl.val c::Sl.val d::List.replicate (N-4) Sl.un)):=kC rfl
def rgW (ms:List Mv)(t:Jg)(j:Nat):JZ:=(List.range (j+1)).map λi=>lS (Bk ms t i)
def db (ms:List Mv)(t:Jg)(j:Nat):(rgW ms t j).length=j+1:=by simp [rgW]
def oC (ms:List Mv) (t:Jg) (j:Nat):rgW ms t (j+1)=rgW ms t j ++ [lS (Bk ms t (j+1))]:=by
 unfold rgW;rw[qX1,qD1];rfl
def mn (ms:List Mv) (t:Jg) (j:Nat):L2.atI (rgW ms t j) (-1)=some (lS (Bk ms t j)):=by
 unfold L2.atI
 have:L2.ixN (rgW ms t j).length (-1)=some j:=by
  unfold L2.ixN;rw[db];simp;omega
 rw[this]
 change (rgW ms t j)[j]?=_;unfold rgW;simp
def r9 (ms:List Mv)(t:Jg)(most:Nat)(word:String)(j:Nat):W:=if decide ((most:Int)<((Bk ms t j).length:Int))=true then .tup [.str "open",.int (j:Int)] else if J8 ms (Bk ms t j)=true then .tup [.str word,lS (Bk ms t j)] else if decide ((j:Int)=(most:Int))=true then .tup [.str "open",.int (j:Int)] else .non
def end_non:r9 ms t most word j=.non↔((Bk ms t j).length<=most/\J8 ms (Bk ms t j)=false/\j≠most):=by
 unfold r9;constructor
 .intro h
  split at h
  .cases h
  .rename_i L
   split at h
   .cases h
   .rename_i q
    split at h
    .cases h
    .rename_i O
     simp at L q O;show ⟨ox,q,ox⟩
 .rintro ⟨L,q,O⟩;rw[qA4 (by simp;omega),q,qA4 qA3,qA4 (by simp;omega)]
def aX {most:Nat}{word:String}(h6:n<=6) (hm:∀m∈ms,okM n m) (O:ms.length<=8) (ht:t.length=n) (a4:most<=30):L0 [tM_ ms,.lst (rgW ms t j),.int (most:Int),.str word]=.ok (r9 ms t most word j):=by
 have fin:Ok (L0 [tM_ ms,.lst (rgW ms t j),.int (most:Int),.str word]) λv=>v=r9 ms t most word j:=by
  have a1:=mn ms t j;have l1:=db ms t j;have hB:=J7 (ms:=ms) ht j;have q:(((j+1:Nat):Int))-1=(j:Int):=ox;have ee:fEq false (.int (j:Int)) (.int (most:Int))=.ok (.bl (decide ((j:Int)=(most:Int)))):=jq false _ _;have n1:l9 ((Bk ms t j).map tI)=true:=du _;exists zk,iU,a1,l1,q;refine r6 (aA (λh=>?_) (λh=>?_))
  .exists rp18;unfold r9;rw[qA2 h]
  have a3:(Bk ms t j).length<=most:=by have:=qO2 h;omega
  have k1:=vL h6 hm hB.len O ox;exists k1;refine aA (λL=>?_) (λL=>?_)
  .exists rp18;unfold r9;rw[qA4 (by rw[h];show qA3),qA2 L]
  exists ee;refine aA (λh3=>?_) (λh3=>?_)
  .exists rp18;unfold r9;rw[qA4 (by rw[h];show qA3),qA4 (by rw[L];show qA3),qA2 h3]
  .exists rp18;unfold r9;rw[qA4 (by rw[h];show qA3),qA4 (by rw[L];show qA3),qA4 (by rw[h3];show qA3)]
 obtain ⟨v,e,rfl⟩:=fin;show e
def hV {R:JZ}:cA 4 [3] w [a,b,c,.own R,x] = [a,b,c,if noL w=true then .own R else .val (.lst R),.val w]:=by
 unfold cA
 split <;> rfl
def oB {n:Nat}(q:ms.length<=8) (L:most<=30) (h:r9 ms t most word j=.non):(Bk ms t j).length<=100/\(Bk ms t j).length+ms.length*(Bk ms t j).length<=900:=by
 have h:=(end_non.mp h).1
 have:=qZ7 q (show (Bk ms t j).length<=30 by omega)
 omega
def qe {most:Nat}(h1:1<=n) (h6:n<=6) (hm:∀m∈ms,okM n m) (a4:ms.length<=8) (ht:t.length=n) (O:most<=30):Ok (cP [tM_ ms,tI t,.int (most:Int)]) λw=>∃j,w=r9 ms t most "basis" j/\w≠.non/\∀i,i<j->r9 ms t most "basis" i=.non:=by
 have e0:=aX (j:=0) (word := "basis") h6 hm ox ht O;have a5:L0 [tM_ ms,.lst [.lst [tI t]],.int (most:Int),.str "basis"]=.ok (r9 ms t most "basis" 0):=e0;have a6:∀w:W,isN w=true↔w=.non:=λw=>by cases w <;> simp [isN]
 have cm:chk (tM_ ms)=.ok (tM_ ms):=o5 (dv ms);have ct:=o5 (v9 t);exists rpB,iT,ii,aT,cM,jH,ct,cm,a5,hV;refine r6 (Q0 ?_);refine Y6 (λk ρ=>∃(j:Nat) (x:Sl),ρ = [.par (tM_ ms),.par (tI t),.par (.int (most:Int)),x,.val (r9 ms t most "basis" j)]/\(noL (r9 ms t most "basis" j)=true->x=.own (rgW ms t j))/\k=most-j/\∀i,i<j->r9 ms t most "basis" i=.non) ?_ most _ ⟨0,_,rfl,λh=>by rw[qA2 h];rfl,rfl,λi hi=>absurd hi (qE0 _)⟩;rintro k ρ ⟨j,x,rfl,hx,hk,L⟩;by_cases hw:r9 ms t most "basis" j=.non
 .refine ⟨true,?_,?_⟩
  .rw [hw]
   exists rp18
  rw[qA2 rfl];rw[hx (by rw[hw];rfl)];have rm:=oB (n:=n) a4 O hw;have hj:=(end_non.mp hw).2.2;have a1:=mn ms t j;have l1:=db ms t j;have k1:=ku h1 h6 hm (J7 (ms:=ms) ht j).len ox rm.1 rm.2;have a7:D9 [tM_ ms,lS (Bk ms t j)]=.ok (lS (Bk ms t (j+1))):=k1;have e1:=aX (j:=j+1) (word := "basis") h6 hm ox ht O;have a8:j<most:=by
   by_cases q:j<most
   .show q
   .exfalso
    have:=L most
    have a3:most<j:=ox;show (end_non.mp (this a3)).2.2 rfl
  have r1:=oC ms t j;exists a1,a7,ii,aT,cM,jH,ct,cm;rw[<- r1];exists e1,hV;refine ⟨most-(j+1),ox,j+1,_,rfl,λh=>by rw[qA2 h],rfl,λi hi=>?_⟩;by_cases q:i=j
  .rw[q];show hw
  .show L i ox
 .have hb:isN (r9 ms t most "basis" j)=false:=by
   cases q:isN (r9 ms t most "basis" j) with
   |false=>rfl
   |true=>show absurd ((a6 _).mp q) hw
  generalize hE:r9 ms t most "basis" j=w at hw hb
  refine ⟨false,?_,?_⟩
  .exists hb
  .rw [qA4 qA3]
   exists rp18;show ⟨j,hE.symm,hw,L⟩
def CD (ws:JZ) (w:W):E5 (ws ++ [w]) none (some (-1))=ws:=by
 unfold E5;rw[HT.sIx_none]
 have:HT.sIx (ws ++ [w]).length (ws ++ [w]).length (some (-1))=ws.length:=by
  change (if (-1:Int)<0 then ((-1:Int)+(((ws ++ [w]).length:Nat):Int)).toNat else min (-1:Int).toNat (ws ++ [w]).length)=_;rw[qA2 ox,qC5,qF5];omega
 rw[this];simp
def Dw (hs:s.length=n):(List.range n).map (λk=>s.getD k 0+(m.2.getD k 0-m.1.getD k 0))=z8 s m:=by
 unfold z8;rw[hs];refine qK8 λk _=>?_;omega
def qI (h6:n<=6) (h:okM n m) (hs:s.length=n) (hc:f8 s m.1=true):L8 [tI s,mW m]=.ok (tI (z8 s m)):=by
 rw[dX h6 h hs hc,Dw hs]
def M6 (ms:List Mv)(B:Jo)(s:Jg):List Nat:=(List.range ms.length).filter λk=>u8 B s (ms.getD k ([],[]))
def tZ (ms:List Mv):((ms.map mW).mapIdx λi x=>W.tup [.int (i:Int),x])=(List.range ms.length).map λ(k:Nat)=>W.tup [.int (k:Int),mW (ms.getD k ([],[]))]:=by
 apply qK5
 .simp
 .intro i q L;have hi:i<ms.length:=by simpa using q
  simp [hi]
def xq (h6:n<=6) (hm:∀m∈ms,okM n m) (a3:ms.length<=8) (hB:∀x∈B,x.length=n) (hs:s.length=n):U3 [tI s,tM_ ms,lS B]=.ok (lI ((M6 ms B s).map λ(k:Nat)=>(k:Int))):=by
 have he:W4 [tM_ ms]=.ok ((List.range ms.length).map λ(k:Nat)=>W.tup [.int (k:Int),mW (ms.getD k ([],[]))]):=congrArg R.ok (tZ ms);have e:∀N mg mc me ρ,(∀k:Nat,k<ms.length->ZX N ρ mg (.tup [.int (k:Int),mW (ms.getD k ([],[]))]) λ L=>mc L=.ok (u8 B s (ms.getD k ([],[])))/\me L=.ok (.int (k:Int))) ->
   n5 N mg mc me ((List.range ms.length).map λ(k:Nat)=>W.tup [.int (k:Int),mW (ms.getD k ([],[]))]) ρ=.ok (lI ((M6 ms B s).map λ(k:Nat)=>(k:Int))):=λN mg mc me ρ h=>by
  have:=T7 (N':=N) (mg:=mg) (mc:=mc) (me:=me) (λk:Nat=>W.int (k:Int)) (λk:Nat=>W.tup [.int (k:Int),mW (ms.getD k ([],[]))]) (λk=>u8 B s (ms.getD k ([],[]))) (List.range ms.length) ρ (by simp;omega) λk hk=>by
   obtain ⟨L,e1,e2,e3⟩:=h k (by simpa using hk);show ⟨L,e1,e2,λ_=>e3⟩
  rw[this];unfold lI M6;rw[qD7];rfl
 exists rpB,aI,he;rw[e]
 .exists rp18
 intro k hk;have hmm:ms.getD k ([],[])∈ms:=by rw[qA1];simp [hk]
 have hok:=hm _ hmm;generalize ms.getD k ([],[])=m at hok
 have O:=fu (s:=s) (m:=m) (by rw[hs];show hok.1);refine ⟨_,rfl,?_⟩;cases q:f8 s m.1 with
 | false=>
  have a0:∀r:R Bool,TP.rAnd (.ok false) r=.ok false:=λr=>rfl;have st:u8 B s m=false:=by unfold u8;rw[q];rfl
  rw[q]at O;exists O,a0,st
 | true=>
  have k2:=qI h6 hok hs q;have k3:=L7 (s:=z8 s m) (ss:=B) λx hx=>by rw[hB x hx,O7,hs]
  have st:u8 B s m=d4 (z8 s m) B:=by unfold u8;rw[q];rfl
  rw[q]at O;exists O,k2,k3,st
def Q4 (ms:List Mv) (t:Jg):Nat->List Int->List Int
 |0,_=>[]
 |k+1,s=>(((M6 ms (Bk ms t k) s).getD 0 0:Nat):Int)::Q4 ms t k (z8 s (ms.getD ((M6 ms (Bk ms t k) s).getD 0 0) ([],[])))
def fR (ht:t.length=n) (hs:s.length=n) (h1:d4 s (Bk ms t (k+1))=true) (h0:d4 s (Bk ms t k)=false):∃r O,M6 ms (Bk ms t k) s=r::O/\r<ms.length/\u8 (Bk ms t k) s (ms.getD r ([],[]))=true:=by
 rw[K7 ht k hs,h0,xB2]at h1;obtain ⟨m,hm,hq⟩:=qD4.mp h1;obtain ⟨i,hi,e⟩:=qE2.mp hm;have L:i∈M6 ms (Bk ms t k) s:=qP4.mpr ⟨qF0.mpr hi,by
  rw[qA1,qB4 hi]
  change u8 _ s ms[i]=true;rw[e];show hq⟩
 cases q:M6 ms (Bk ms t k) s with
 |nil=>rw[q]at L;cases L
 | cons r O=>
  have hr:r∈M6 ms (Bk ms t k) s:=by rw[q];show qB2
  obtain ⟨g1,g2⟩:=qP4.mp hr;show ⟨r,O,rfl,qF0.mp g1,g2⟩
def zG {f:Nat->W}(h:((List.range j).map f).reverse[i]?=some w):i<j/\w=f (j-1-i):=by
 have hi:i<j:=by have:=(qA8.mp h).1;simpa using this
 rw[qR7 (by simpa using hi)]at h;simp at h;obtain ⟨a,ha,e⟩:=h;rw[List.getElem?_range ox]at ha;cases ha;show ⟨hi,e.symm⟩
def zw (h6:n<=6) (hm:∀m∈ms,okM n m) (b5:ms.length<=8) (hb:b.length=n) (ht:t.length=n) (hj:j<=100) (hl:d4 b (Bk ms t j)=true) (hn:∀i,i<j->d4 b (Bk ms t i)=false):N0 [.tup [tI b,tM_ ms],.lst (rgW ms t j)]=.ok (lI (Q4 ms t j b)):=by
 have fin:Ok (N0 [.tup [tI b,tM_ ms],.lst (rgW ms t j)]) λw=>w=lI (Q4 ms t j b):=by
  have a0:L2.atI [tI b,tM_ ms] 0=some (tI b):=rfl;have a1:L2.atI [tI b,tM_ ms] 1=some (tM_ ms):=rfl;have cut:E5 (rgW ms t j) none (some (-1))=(List.range j).map λi=>lS (Bk ms t i):=by
   have:rgW ms t j=((List.range j).map λi=>lS (Bk ms t i)) ++ [lS (Bk ms t j)]:=by
    unfold rgW;rw[qX1,qD1];rfl
   rw[this,CD]
  exists zl,aH,a0,cut;refine r6 (p8 (λi ρ=>∃(R s:Jg) (a4 a5:Sl),ρ = [.val (.tup [tI b,tM_ ms]),.val (.lst (rgW ms t j)),.own (R.map W.int),.val (tI s),a4,a5]/\R.length=i/\i<=j/\Q4 ms t j b=R++Q4 ms t (j-i) s/\s.length=n/\d4 s (Bk ms t (j-i))=true/\(i<j->d4 s (Bk ms t (j-1-i))=false)) ⟨[],b,_,_,rfl,rfl,qD2 _,rfl,hb,hl,λh=>hn _ ox⟩ ?_ ?_)
  .rintro i w ρ hw ⟨R,s,a4,a5,rfl,hR,bc,L,hs,a7,O⟩;obtain ⟨hi,rfl⟩:=zG hw;obtain ⟨k,hk⟩:∃k,j-i=k+1:=⟨j-i-1,ox⟩;have ab:j-1-i=k:=ox;have a8:j-(i+1)=k:=ox;have O:=O hi;rw[hk]at L a7;rw[ab]at O;obtain ⟨r,tl,er,hr,a3⟩:=fR ht hs a7 O;have k1:=xq h6 hm b5 (J7 (ms:=ms) ht k).len hs;rw[er]at k1;have b0:L2.atI ((((r::tl).map λ(k:Nat)=>(k:Int))).map W.int) 0=some (.int (r:Int)):=bo W.int (as:=(r::tl).map λ(k:Nat)=>(k:Int)) (d:=0) (i:=0) ⟨ox,QX⟩;have b1:L2.atI (ms.map mW) (r:Int)=some (mW (ms.getD r ([],[]))):=by
    have:=bo mW (as:=ms) (d:=([],[])) (i:=(r:Int)) ox
    rw[qG3]at this;show this
   have hok:=hm (ms.getD r ([],[])) (by rw[qA1];simp [hr]);have b3:Q4 ms t (k+1) s=(r:Int)::Q4 ms t k (z8 s (ms.getD r ([],[]))):=by
    change (((M6 ms (Bk ms t k) s).getD 0 0:Nat):Int)::_=_;rw[er];rfl
   have a6:ms.getD r ([],[])∈ms:=by rw[qA1];simp [hr]
   generalize ms.getD r ([],[])=m at a3 b1 hok b3 a6
   have c0:=a3;unfold u8 at a3;rw[qG5]at a3;have k2:=qI h6 hok hs a3.1;refine ⟨_,rfl,?_⟩;rw[ab];generalize ((r::tl).map λ(k:Nat)=>(k:Int))=ql at k1 b0
   exists a1,k1,b0,b1,k2;refine ⟨R ++ [(r:Int)],z8 s m,_,_,by rw[qD1],by simp [hR],hi,?_,by rw[O7];show hs,by rw[a8];show a3.2,λh=>?_⟩
   .rw[a8,L,b3,qG0];rfl
   .obtain ⟨k',b4⟩:∃k',k=k'+1:=⟨k-1,ox⟩;rw[show j-1-(i+1)=k' by omega];cases q:d4 (z8 s m) (Bk ms t k') with
    |false=>rfl
    | true=>
     exfalso
     have:u8 (Bk ms t k') s m=true:=by unfold u8;rw[a3.1,q];rfl
     have l2:d4 s (Bk ms t (k'+1))=true:=by
      rw[K7 ht k' hs,qD4.mpr ⟨m,a6,this⟩,qM1]
     rw[b4]at O;rw[l2]at O;cases O
  .rintro ρ ⟨R,s,a4,a5,rfl,hR,bc,L,hs,a7,O⟩;rw[qK7,qA7,qE4]at L;exists rp18;rw[L,Nat.sub_self]
   change lI R=lI (R ++ []);rw[qH6]
 obtain ⟨v,e,rfl⟩:=fin;show e
def ue {most:Nat}(h1:1<=n) (h6:n<=6) (hm:∀m∈ms,okM n m) (a3:ms.length<=8) (hb:b.length=n) (ht:t.length=n) (O:most<=30):Ok (bL [.tup [tI b,tM_ ms],tI t,.int (most:Int)]) λw=>∃j,(∀i,i<j->d4 b (Bk ms t i)=false/\r9 ms t most "wall" i=.non)/\((d4 b (Bk ms t j)=true/\w=.tup [.str "row",lI (Q4 ms t j b)])\/(d4 b (Bk ms t j)=false/\r9 ms t most "wall" j≠.non/\w=r9 ms t most "wall" j)):=by
 have a6:∀w:W,isN w=true↔w=.non:=λw=>by cases w <;> simp [isN]
 have a0:L2.atI [tI b,tM_ ms] 0=some (tI b):=rfl;have a1:L2.atI [tI b,tM_ ms] 1=some (tM_ ms):=rfl;have cm:chk (tM_ ms)=.ok (tM_ ms):=o5 (dv ms);have ct:=o5 (v9 t);have cb:chk (.tup [tI b,tM_ ms])=.ok (.tup [tI b,tM_ ms]):=o5 (by
  change l9 [tI b,tM_ ms]=true;simp only [l9,v9,qI8,qM3];show dv ms)
 exists rpB,kX,ct;refine r6 (Q0 ?_);refine Y6 (λk ρ=>∃(j:Nat) (x:Sl),ρ = [.par (.tup [tI b,tM_ ms]),.par (tI t),.par (.int (most:Int)),.own (rgW ms t j),x]/\k=most-j/\j<=most/\∀i,i<j->d4 b (Bk ms t i)=false/\r9 ms t most "wall" i=.non) ?_ most _ ⟨0,_,rfl,rfl,qD2 _,λi hi=>absurd hi (qE0 _)⟩;rintro k ρ ⟨j,x,rfl,hk,a7,L⟩;have r0:=mn ms t j;have l1:=db ms t j;have hB:=J7 (ms:=ms) ht j;have k1:=L7 (s:=b) (ss:=Bk ms t j) λy hy=>by rw[hB.len y hy,hb]
 cases q:d4 b (Bk ms t j) with
 | true=>
  rw[q]at k1;have k2:=zw h6 hm ox hb ht ox q λi hi=>(L i hi).1;refine ⟨false,?_,?_⟩
  .exists a0,r0,k1
  rw[qA4 qA3];exists cb,k2;show ⟨j,L,.inl ⟨q,rfl⟩⟩
 | false=>
  rw[q]at k1;refine ⟨true,?_,?_⟩
  .exists a0,r0,k1
  rw[qA2 rfl];have e1:=aX (j:=j) (word := "wall") h6 hm ox ht O;exists ii,aT,cM,jH,a1,cm,e1,hV;by_cases hw:r9 ms t most "wall" j=.non
  .have rm:=oB (n:=n) a3 O hw;have hj:=(end_non.mp hw).2.2;have k3:=ku h1 h6 hm hB.len ox rm.1 rm.2;have a4:D9 [tM_ ms,lS (Bk ms t j)]=.ok (lS (Bk ms t (j+1))):=k3;have r1:=oC ms t j;have a5:noL W.non=true:=rfl;rw[hw];exists a5,a1,r0,a4;refine ⟨most-(j+1),ox,j+1,_,by rw[<- r1],rfl,ox,λi hi=>?_⟩;by_cases e:i=j
   .rw[e];show ⟨q,hw⟩
   .show L i ox
  .have hbn:isN (r9 ms t most "wall" j)=false:=by
    cases q:isN (r9 ms t most "wall" j) with
    |false=>rfl
    |true=>show absurd ((a6 _).mp q) hw
   generalize hE:r9 ms t most "wall" j=w at hw hbn
   exists hbn;show ⟨j,L,.inr ⟨q,by rw[hE];show hw,hE.symm⟩⟩
def wJ:PyData.strOk "open" = true:=Zo
def dI (ms:List Mv):List Int->List Int->Option Jg
 | [],s=>some s
 |r::rs,s=>if f8 s (ms.getD r.toNat ([],[])).1=true then dI ms rs (z8 s (ms.getD r.toNat ([],[]))) else none
def ik (ht:t.length=n):∀(k:Nat) (s:Jg),s.length=n->d4 s (Bk ms t k)=true->(∀i,i<k->d4 s (Bk ms t i)=false)->(∃s',dI ms (Q4 ms t k s) s=some s'/\s'.length=n/\f8 s' t=true)/\∀r∈Q4 ms t k s,0<=r/\r<(ms.length:Int)
 |0,s,hs,hl,_=>⟨⟨s,rfl,hs,by rw[show Bk ms t 0 = [t] from rfl,mN]at hl;show hl⟩,λr h=>nomatch h⟩
 | k+1,s,hs,hl,hn=>by
  obtain ⟨r,tl,er,hr,a4⟩:=fR ht hs hl (hn k ox);have a3:Q4 ms t (k+1) s=(r:Int)::Q4 ms t k (z8 s (ms.getD r ([],[]))):=by
   change (((M6 ms (Bk ms t k) s).getD 0 0:Nat):Int)::_=_;rw[er];rfl
  have O:ms.getD r ([],[])∈ms:=by rw[qA1];simp [hr]
  have L:=a4;unfold u8 at L;rw[qG5]at L;have ih:=ik ht k (z8 s (ms.getD r ([],[]))) (by rw[O7];show hs) L.2 λi hi=>by
   cases q:d4 (z8 s (ms.getD r ([],[]))) (Bk ms t i) with
   |false=>rfl
   | true=>
    exfalso
    have:u8 (Bk ms t i) s (ms.getD r ([],[]))=true:=by unfold u8;rw[L.1,q];rfl
    have l2:d4 s (Bk ms t (i+1))=true:=by
     rw[K7 ht i hs,qD4.mpr ⟨_,O,this⟩,qM1]
    rw[hn (i+1) ox]at l2;cases l2
  rw[a3];refine ⟨?_,λx hx=>?_⟩
  .obtain ⟨s',e,h1,h2⟩:=ih.1;refine ⟨s',?_,h1,h2⟩;unfold dI;rw[qG3,qA2 L.1];show e
  .rcases qB6.mp hx with rfl|hx
   .omega
   .show ih.2 x hx
def tm (hs:∀x∈ss,x.length=n) (L:J8 ms ss=true) (hm:m∈ms) (hl:s.length=n) (hc:f8 s m.1=true) (h0:d4 s ss=false):d4 (z8 s m) ss=false:=by
 cases q:d4 (z8 s m) ss with
 |false=>rfl
 | true=>
  exfalso;unfold d4 at q;obtain ⟨b,hb,cb⟩:=qD4.mp q;have c1:=(eB (m:=m) hl (hs b hb)).mpr ⟨hc,cb⟩;have O:srcL b m.1 m.2∈x9 ms ss:=qP3.mpr ⟨m,hm,qA9.mpr ⟨b,hb,rfl⟩⟩;unfold J8 at L;have c2:=qE7.mp L _ O;unfold d4 at c2;obtain ⟨d,hd,cd⟩:=qD4.mp c2
  have:d4 s ss=true:=qD4.mpr ⟨d,hd,bf (by rw[hl];show (cz hs _ O).symm) c1 cd⟩
  rw[this]at h0;cases h0
inductive Rch (ms:List Mv) (b:Jg):List Int->Prop where
 |beg:Rch ms b b
 |go {s:Jg}{m:Mv}:Rch ms b s->m∈ms->f8 s m.1=true->Rch ms b (z8 s m)
def Rch.len (h:Rch ms b s):s.length=b.length:=by
 induction h with
 |beg=>rfl
 |go _ _ _ q=>rw[O7];show q
def Rch.out (hs:∀x∈ss,x.length=n) (q:J8 ms ss=true) (hb:b.length=n) (h0:d4 b ss=false) (h:Rch ms b s):d4 s ss=false:=by
 induction h with
 |beg=>show h0
 |go r hm hc L=>show tm hs q hm (by rw[r.len];show hb) hc L
def FlEnd.K (h:FlEnd b ms most es wh):∃A T,FlK b ms es A T:=by
 rcases h.2 with ⟨_,h⟩|⟨_,_,A,T,_,h,_⟩
 .show ⟨_,_,h⟩
 .show ⟨_,_,h⟩
def vJ (hl:es.length<=100):P3 [.lst (z7 b es)]=.ok (lS (stS b es)):=by
 rw[zu,<- st_O];have L:(none::es.map some).length<=1000:=by rw[qC1,qA7];omega
 generalize (none::es.map some)=os at L
 exists rpB,bU;rw[w4 (λo=>tI (stO b o)) (mm b) os _ L λo _=>?_]
 .exists rp18;rw[show lS (os.map (stO b))=.lst ((os.map (stO b)).map tI) from rfl,qD7];rfl
 .cases o with
  | none=>
   have a0:L2.atI [tI b,W.non,W.non] 0=some (tI b):=rfl;have ct:=o5 (v9 b);refine ⟨_,rfl,?_⟩
   change _=R.ok (tI b);exists mm,a0,ct
  | some q=>
   have a0:L2.atI [tI q.1,W.int (q.2.1:Int),W.int (q.2.2:Int)] 0=some (tI q.1):=rfl;have ct:=o5 (v9 q.1);refine ⟨_,rfl,?_⟩
   change _=R.ok (tI q.1);exists mm,a0,ct
def xQ {ss:Jo}(h:((ss.map tI).mapIdx λi x=>W.tup [.int (i:Int),x])[i]?=some w):i<ss.length/\w=.tup [.int (i:Int),tI (ss.getD i [])]:=by
 rw[List.getElem?_mapIdx,qC9]at h;by_cases hi:i<ss.length
 .rw [qB4 hi]at h
  cases h;show ⟨hi,by rw[qA1,qB4 hi];rfl⟩
 .rw[List.getElem?_eq_none ox]at h;cases h
def FlK.slen (q:FlK b ms es A T) (ha:a<es.length+1):(sA b es a).length=b.length:=by
 have:=ou (b:=b) (es:=es) ha
 rcases qB6.mp this with h|h
 .rw[h]
 .obtain ⟨e,L,h⟩:=qA9.mp h;rw[<- h];show q.len e L
def px {k:Nat}(h:k<ms.length):L2.atI (ms.map mW) (k:Int)=some (mW (mvN ms k)):=by
 have:=atM (ms:=ms) (r:=(k:Int)) ox ox
 rw[qG3]at this;show this
def dy (h:k<ms.length):mvN ms k∈ms:=by
 unfold mvN;rw[qA1,qB4 h];show qK3 _
def opB (ms:List Mv)(t:Jg)(most j:Nat):Bool:=decide (most<(Bk ms t j).length)||!J8 ms (Bk ms t j)
def uE (ms:List Mv)(t:Jg)(most j:Nat):Prop:=r9 ms t most "basis" j≠.non/\∀i,i<j->r9 ms t most "basis" i=.non
def xR (h:r9 ms t most "basis" j≠.non):r9 ms t most "basis" j=if opB ms t most j=true then .tup [.str "open",.int (j:Int)] else .tup [.str "basis",lS (Bk ms t j)]:=by
 have hn:=λz=>h (end_non.mpr z);unfold r9 opB;by_cases q:most<(Bk ms t j).length
 .rw[qA2 (qN8 ox),qN8 q];rfl
 .rw [qA4 (by simp;omega),qN7 q]
  cases L:J8 ms (Bk ms t j) with
  |true=>rfl
  | false=>
   have:j=most:=Classical.byContradiction λz=>hn ⟨ox,L,z⟩
   subst this;simp
def C9 (s t:Jg):List Int:=(List.range s.length).map λk=>max (s.getD k 0) (t.getD k 0)
def O2 (s t:Jg):(C9 s t).length=s.length:=by simp [C9]
def W1 (ms:List Mv)(B:Jo):Bool:=ms.all λm=>B.all λs=>d4 (k9 (C9 s m.1) m) B
def EA (h:∀m∈ms,∀s∈B,d4 (k9 (C9 s m.1) m) B=true):W1 ms B=true:=qE7.mpr λm hm=>qE7.mpr λs hs=>h m hm s hs
def wD (h6:s.length<=6) (ht:t.length=s.length):U4 [tI s,tI t]=.ok (tI (C9 s t)):=by
 have hz:=cT (tI s) (tI t) _ _ rfl rfl;rw[bp ht]at hz;exists rpB,aJ,hz;have e:∀N mg me ρ (h:∀k,k<s.length->ZX N ρ mg (.tup [.int (s.getD k 0),.int (t.getD k 0)]) λ ρ1=>me ρ1=.ok (.int (max (s.getD k 0) (t.getD k 0)))),n5 N mg yes me ((List.range s.length).map λk=>.tup [.int (s.getD k 0),.int (t.getD k 0)]) ρ=.ok (lI (C9 s t)):=λN mg me ρ h=>by
  rw[w4 (λk=>.int (max (s.getD k 0) (t.getD k 0))) _ _ ρ (by simpa using (by omega:s.length<=1000)) (λk hk=>h k (by simpa using hk)),iP];rfl
 rw[e]
 .exists rp18
 .intro k hk;refine ⟨_,rfl,?_⟩;exists rp18
def xo (h6:n<=6) (hm:∀m∈ms,okN n m) (hB:∀x∈B,x.length=n) (a5:B.length<=900):F0 [tM_ ms,lS B]=.ok (.bl (W1 ms B)):=by
 have fin:Ok (F0 [tM_ ms,lS B]) λv=>v=.bl (W1 ms B):=by
  exists rpB,V5;refine r6 (p8 (λi ρ=>∃(a2 a3:Sl),ρ = [.par (tM_ ms),.par (lS B),a2,a3]/\∀q m,q<i->ms[q]?=some m->∀s∈B,d4 (k9 (C9 s m.1) m) B=true) ⟨_,_,rfl,λq m hq=>absurd hq (qE0 _)⟩ ?_ ?_)
  .rintro i u ρ hu ⟨a2,a3,rfl,L⟩;obtain ⟨m,hmm,a7,rfl⟩:=bG hu;have hok:=hm m hmm;have a0:L2.atI [tI m.1,tI m.2] 0=some (tI m.1):=rfl;have e:∀N mg me ρ (h:∀s∈B,ZX N ρ mg (tI s) λ ρ1=>me ρ1=.ok (tI (k9 (C9 s m.1) m))),n5 N mg yes me (B.map tI) ρ=.ok (lS (B.map λs=>k9 (C9 s m.1) m)):=λN mg me ρ h=>by
    rw[w4 (λs=>tI (k9 (C9 s m.1) m)) _ _ ρ ox h];show congrArg (λl=>R.ok (W.lst l)) (by rw[qD7];rfl)
   refine ⟨_,rfl,?_⟩;exists rp18;rw[e]
   .generalize hC:(B.map λs=>k9 (C9 s m.1) m)=C
    have a8:C.length<=900:=by rw[<- hC,qA7];show a5
    have a6:∀x∈C,x.length=n:=λx hx=>by
     rw[<- hC]at hx;obtain ⟨s,hs,rfl⟩:=qA9.mp hx;rw[L3,O2,hB s hs]
    have e2:∀N mg me ρ (h:∀s∈C,ZX N ρ mg (tI s) λ ρ1=>me ρ1=.ok (.bl (d4 s B))),n5 N mg yes me (C.map tI) ρ=.ok (.lst ((C.map λs=>d4 s B).map W.bl)):=λN mg me ρ h=>by
     rw[w4 (λs=>W.bl (d4 s B)) _ _ ρ ox h,qD7];rfl
    have hg:cL (C.map λs=>d4 s B)=B.all λs=>d4 (k9 (C9 s m.1) m) B:=by
     unfold cL;rw[<- hC,List.all_map,List.all_map];rfl
    exists rp18;rw[e2]
    .exists hg;refine M5 (λh=>?_) (λh=>?_)
     .have h:(B.all λs=>d4 (k9 (C9 s m.1) m) B)=false:=by simpa using h
      have hl:W1 ms B=false:=by
       rw[Bool.eq_false_iff];intro z
       have:=qE7.mp z m hmm
       rw[h]at this;cases this
      exists rp18;rw[hl]
     .have h:(B.all λs=>d4 (k9 (C9 s m.1) m) B)=true:=by simpa using h
      exists rp18;refine ⟨_,_,rfl,λq m' hq O=>?_⟩;by_cases e:q=i
      .subst e;rw[a7]at O;cases O;show qE7.mp h
      .show L q m' ox O
    .intro s hs;have hk:=L7 (s:=s) (ss:=B) (λx hx=>by rw[hB x hx,a6 s hs]);refine ⟨_,rfl,?_⟩;exists hk
   .intro s hs;have a4:=hB s hs;have k1:=wD (s:=s) (t:=m.1) ox (by rw[hok.1,a4]);have k2:=gf (s:=C9 s m.1) h6 hok (by rw[O2,a4]) (cov_iff.mpr λk hk=>by
     rw[O2]at hk;unfold C9;rw[K3 hk];omega)
    have k3:(List.range n).map (λk=>(C9 s m.1).getD k 0+(m.2.getD k 0-m.1.getD k 0))=k9 (C9 s m.1) m:=by unfold k9;rw[O2,a4]
    rw[k3]at k2;refine ⟨_,rfl,?_⟩;exists a0,k1,k2
  .rintro ρ ⟨a2,a3,rfl,L⟩;rw[qA7]at L;exists rp18;rw[EA λm hmm s hs=>?_];obtain ⟨q,hq,e⟩:=qE2.mp hmm;show L q m hq (by rw[qB4 hq,e]) s hs
 obtain ⟨v,e,rfl⟩:=fin;show e
inductive Rest (b:Jg) (ms:List Mv) (B:Jo) (es:List Ent) (wh:Bool):W->Prop where
 |dies {a:Nat}{l r:Jg}:a<=es.length->d4 (sA b es a) B=false->(∀i,i<a->d4 (sA b es i) B=true)->Pt es a l r->Rest b ms B es wh (.tup [.str "dies",lI r,lS B])
 |else_ {w:W}:(∀i,i<=es.length->d4 (sA b es i) B=true)->w=(if wh=true then .tup [.str "lives",lS (stS b es)] else if W1 ms B=true then .tup [.str "always",lS B] else .tup [.str "open"])->Rest b ms B es wh w
def Ans (b:Jg)(ms:List Mv)(t:Jg)(most:Nat)(w:W):Prop:=∃j,uE ms t most j/\((opB ms t most j=true/\w=.tup [.str "open"])\/(opB ms t most j=false/\∃es wh,FlEnd b ms most es wh/\Rest b ms (Bk ms t j) es wh w))
def iB (h:opB ms t most j=false):(Bk ms t j).length<=most:=by
 unfold opB at h;rw[Bool.or_eq_false_iff]at h
 have:=qO2 h.1
 omega
def ur {ms:List Mv}{most:Nat}(h1:1<=b.length) (h6:b.length<=6) (hm:∀m∈ms,okN b.length m) (h8:ms.length<=8) (hk:k<ms.length) (a7:1<=most) (h30:most<=30):Ok (fg [.tup [tI b,tM_ ms],.int (k:Int),.int (most:Int)]) (Ans b ms (mvN ms k).1 most):=by
 have a1:L2.atI [tI b,tM_ ms] 1=some (tM_ ms):=rfl;have f0:∀x y:W,L2.atI [x,y] 0=some x:=λ_ _=>rfl;have f1:∀x y:W,L2.atI [x,y] 1=some y:=λ_ _=>rfl;have hok:=hm _ (dy hk);have e1:=px (ms:=ms) hk;have a5:∀m∈ms,okM b.length m:=λm q=>⟨(hm m q).1,(hm m q).2.1⟩;obtain ⟨_,ke,j,ej,a6,a8⟩:=qe (t:=(mvN ms k).1) h1 h6 a5 h8 hok.1 h30;have hP:uE ms (mvN ms k).1 most j:=⟨by rw[<- ej];show a6,a8⟩;rw[ej,xR hP.1]at ke;generalize ht:(mvN ms k).1=t at *
 have mw:mW (mvN ms k)=.tup [tI t,tI (mvN ms k).2]:=by rw[<- ht]
 rw[mw]at e1;cases ho:opB ms t most j with
 | true=>
  rw[ho,qA2 rfl]at ke;have s1:l5 false (.str "open") (.str "open")=.ok (.bl true):=rfl;exists rpB,eQ,a1,e1,f0,ke,s1;show ⟨_,rfl,j,hP,.inl ⟨ho,rfl⟩⟩
 | false=>
  rw[ho,qA4 qA3]at ke;have s1:l5 false (.str "basis") (.str "open")=.ok (.bl false):=rfl;have b0:=iB ho;have a4:=(J7 (ms:=ms) (t:=t) (n:=b.length) (by rw[<- ht];show hok.1) j).len;generalize hB:Bk ms t j=B at *
  obtain ⟨_,kf,es,wh,rfl,hE⟩:=tU (b:=b) (ms:=ms) (most:=most) h6 hm h8 a7 ox;have b3:es.length+1<=most:=hE.1;have ks:=vJ (b:=b) (es:=es) ox;obtain ⟨A,T,hK⟩:=hE.K;have b4:=S2 b es;have ab:(stS b es).length<=100:=ox;have out:∀w,Rest b ms B es wh w->Ans b ms t most w:=λw r=>⟨j,hP,.inr ⟨ho,es,wh,hE,by rw[hB];show r⟩⟩;exists rpB,eQ,a1,e1,f0,f1,ke,s1,kf,ks;refine r6 (p8 (λi ρ=>∃(x y:Sl),ρ = [.par (.tup [tI b,tM_ ms]),.par (.int (k:Int)),.par (.int (most:Int)),.val (.tup [.str "basis",lS B]),.val (lS B),.val (.tup [.lst (z7 b es),.bl wh]),x,y]/\∀q,q<i->d4 (sA b es q) B=true) ⟨_,_,rfl,λq hq=>absurd hq (qE0 _)⟩ ?_ ?_)
  .rintro i u ρ hu ⟨x,y,rfl,O⟩;obtain ⟨hi,rfl⟩:=xQ hu;have a3:((stS b es).getD i []).length=b.length:=hK.slen ox;have k1:=L7 (s:=(stS b es).getD i []) (ss:=B) (λx hx=>by rw[a3];show a4 x hx);refine ⟨_,rfl,?_⟩;exists k1;refine M5 (λh=>?_) (λh=>?_)
   .have h:d4 (sA b es i) B=false:=by unfold sA;simpa using h
    obtain ⟨l,r,p⟩:=Pt.ex hK.par i ox;have kr:=rD (b:=b) hK.par ox (show i<=es.length by omega) p;exists f0,kr;show out _ (.dies ox h O p)
   .have h:d4 (sA b es i) B=true:=by unfold sA;simpa using h
    exists rp18;refine ⟨_,_,rfl,λq hq=>?_⟩;by_cases e:q=i
    .subst e;show h
    .show O q ox
  .rintro ρ ⟨x,y,rfl,O⟩;have L:∀i,i<=es.length->d4 (sA b es i) B=true:=λi hi=>O i (by rw[qT9,qA7];omega);cases wh with
   | true=>
    exists f0,f1,ks;show out _ (.else_ L rfl)
   | false=>
    have kn:=xo (B:=B) h6 hm a4 ox;cases hl:W1 ms B with
    | true=>
     rw[hl]at kn;exists f0,f1,a1,kn;show out _ (.else_ L (by rw[hl];rfl))
    | false=>
     rw[hl]at kn;exists f0,f1,a1,kn;show out _ (.else_ L (by rw[hl];rfl))
def small (h:-18446744073709551616<z/\z<18446744073709551616):Builtin.Int.intBits z<=64:=intBits_le_64 ox ox
def D2 {ns:Jg}(hb:∀x∈ns,Builtin.Int.intBits x<=1048576) (h0:0<=k) (q:k<=1000):Ok (j9 [.scr (ns.map W.int),.int k]) λw=>∃z:Int,w=.int z:=by
 have L:=DN h0 q;by_cases h:k<(ns.length:Int)
 .exists rpB,P1,qN8 h;show ⟨_,rfl,_,rfl⟩
 .by_cases hl:0<(ns.length:Int)
  .have m0:0<=k*17%(ns.length:Int):=qM7 _ ox;have m1:k*17%(ns.length:Int)<(ns.length:Int):=qL5 _ hl;have hz:=memD (P:=λx=>Builtin.Int.intBits x<=1048576) hb (i:=(k*17%(ns.length:Int)).toNat) ox;exists rpB,P1,qN7 h,qN8 hl;generalize ns.getD (k*17%(ns.length:Int)).toNat 0=z at *
   have b1:=intBits_mul_le hz (small (z:=27611) ox);have b2:Builtin.Int.intBits (k*k*7001)<=64:=small ox;have O:=intBits_add_le b1 b2;have b4:=intBits_add_le O (small (z:=37) ox);have b5:Builtin.Int.intBits (z*27611+k*k*7001+37)+Builtin.Int.intBits (z*27611+k*k*7001+37)<=134217728:=ox;exists rp18;show ⟨_,rfl,_,rfl⟩
  .exists rpB,P1,qN7 h,qN7 hl;show ⟨_,rfl,_,rfl⟩
def Ei:∃z:Int,L2.atI [W.int 0,W.int 1,W.int 0,W.int 0,W.int 1,W.int 2,W.int 0,W.int 1] (c%8)=some (.int z)/\0<=z/\z<=2:=by
 have h:c%8=0\/c%8=1\/c%8=2\/c%8=3\/c%8=4\/c%8=5\/c%8=6\/c%8=7:=ox;rcases h with h|h|h|h|h|h|h|h <;> rw[h] <;> show ⟨_,rfl,QV,QV⟩
def Ej:∃z:Int,L2.atI [W.int 0,W.int 1,W.int 0,W.int 1,W.int 0,W.int 0,W.int 2] (c/8%7)=some (.int z)/\0<=z/\z<=2:=by
 have h:c/8%7=0\/c/8%7=1\/c/8%7=2\/c/8%7=3\/c/8%7=4\/c/8%7=5\/c/8%7=6:=ox;rcases h with h|h|h|h|h|h|h <;> rw[h] <;> show ⟨_,rfl,QV,QV⟩
def mX (b:Bool):∃z:Int,fInt [.bl b]=.ok (.int z)/\0<=z:=by
 cases b
 .show ⟨0,rfl,ox⟩
 .show ⟨1,rfl,ox⟩
def kQ (h:nn xs) (hz:0<=z):nn (xs ++ [z]):=λx L=>by
 rcases qC6.mp L with q|q
 .show h x q
 .rw[qC3.mp q];show hz
def pn (h:Paired (λ(_:Nat) z=>0<=z) (List.range n) L):nn L/\L.length=n:=by
 refine ⟨λz hz=>?_,by have:=Paired.length h;simpa using this.symm⟩
 have:∀(l:JQ) (L:Jg),Paired (λ(_:Nat) z=>0<=z) l L->∀z∈L,0<=z:=λl L q=>by
  induction q with
  |nil=>intro z hz;cases hz
  | cons r _ O=>
   intro z hz;rcases qB6.mp hz with rfl|hz
   .show r
   .show O z hz
 show this _ _ h z hz
def AW (h:nn xs):nn (xs.set k 1):=λx L=>by
 rcases List.mem_or_eq_of_mem_set L with q|q
 .show h x q
 .rw[q];decide
def wP {ns:Jg}(hb:∀x∈ns,Builtin.Int.intBits x<=1048576){n:Nat}(h1:1<=n) (h6:n<=6) (a0:0<=a) (a1:a<=200) (hf:0<=f/\f<=100000001):Ok (W3 [.scr (ns.map W.int),.int a,.int (n:Int),.bl pl,.int f]) λw=>∃m:Mv,w=mW m/\okN n m:=by
 obtain ⟨_,ea,c,rfl⟩:=D2 hb (k:=a) ox ox;obtain ⟨_,eb,d,rfl⟩:=D2 hb (k:=a+1) ox ox;have o0:=qM7 (c/56) (show (n:Int)≠0 by omega);have o1:=qL5 (c/56) (show (0:Int)<(n:Int) by omega);exists rpB,bV;refine r6 (p8 (λi ρ=>∃(xs ys:Jg) (a7 a8:Sl),ρ = [.par (.scr (ns.map W.int)),.par (.int a),.par (.int (n:Int)),.par (.bl pl),.par (.int f),.own (xs.map W.int),.own (ys.map W.int),a7,a8,.un]/\xs.length=i/\ys.length=i/\nn xs/\nn ys) ⟨[],[],_,_,rfl,rfl,rfl,λx h=>(nomatch h),λx h=>(nomatch h)⟩ ?_ ?_)
 .rintro i u ρ hu ⟨xs,ys,a7,a8,rfl,O,L,hx,hy⟩;obtain ⟨hi,rfl⟩:=ax hu;obtain ⟨_,e1,c,rfl⟩:=D2 hb (k:=a+(i:Int)) ox ox;obtain ⟨x,ex,x0,x2⟩:=Ei (c:=c);obtain ⟨y,ey,y0,y2⟩:=Ej (c:=c);refine ⟨_,rfl,?_⟩;exists e1,ex,ey;show ⟨xs ++ [x],ys ++ [y*f],_,_,rfl,by simp [O],by simp [L],kQ hx x0,kQ hy (qT6 y0 hf.1)⟩
 .rintro ρ ⟨xs,ys,a7,a8,rfl,O,L,hx,hy⟩;rw[qA7,qE4]at O L;exists ea;generalize c/56%(n:Int)=p at *
  refine iw (λρ=>∃(xs ys:Jg) (a7 a8:Sl),ρ = [.par (.scr (ns.map W.int)),.par (.int a),.par (.int (n:Int)),.par (.bl pl),.par (.int f),.own (xs.map W.int),.own (ys.map W.int),a7,a8,.val (.int p)]/\xs.length=n/\ys.length=n/\nn xs/\nn ys) ?_ ?_
  .cases pl
   .exists rp18;show ⟨xs,ys,_,_,rfl,O,L,hx,hy⟩
   .exists rp18;refine kL ?_;refine eL (λ_ z=>0<=z) (by simp;omega) ?_ ?_
    .intro j hj;obtain ⟨z,ez,hz⟩:=mX (decide ((j:Int)=p));refine ⟨_,rfl,?_⟩;exists jq,ez;show ⟨_,rfl,_,rfl,hz⟩
    intro us hu;obtain ⟨a6,a3⟩:=pn hu;exists rp18;refine oN ?_;refine eL (λ_ z=>0<=z) (by simp;omega) ?_ ?_
    .intro j hj;refine ⟨_,rfl,?_⟩;cases q:decide ((j:Int)=(p+1)%(n:Int)) with
     | false=>
      obtain ⟨z,ez,hz⟩:=mX false;exists q,ez;show ⟨_,rfl,_,rfl,hz⟩
     | true=>
      obtain ⟨z,ez,hz⟩:=mX (decide (0<d%4));exists q,eb,ez;show ⟨_,rfl,_,rfl,hz⟩
    intro vs hv;obtain ⟨a5,a4⟩:=pn hv;exists rp18;show ⟨us,vs,_,_,rfl,a3,a4,a6,a5⟩
  rintro ρ ⟨xs,ys,a7,a8,rfl,O,L,hx,hy⟩;have kb:bM cI [lI xs]=.ok (.int (cI xs)):=lB ox;exists kb,ea;refine aA (λh=>?_) (λh=>?_)
  .exists rp18;show ⟨(xs.set p.toNat 1,ys),rfl,by rw[qE9];show O,L,AW hx,hy⟩
  .exists rp18;show ⟨(xs,ys),rfl,O,L,hx,hy⟩
def O4 (h6:a.length<=6) (hl:b.length=a.length):o6 [tI a,tI b]=.ok (.bl (f8 a b)):=by
 have fin:Ok (o6 [tI a,tI b]) λv=>v=.bl (f8 a b):=by
  exists rpB,ag;refine r6 (p8 (λi ρ=>∃x,ρ = [.par (tI a),.par (tI b),x]/\∀k,k<i->b.getD k 0<=a.getD k 0) ⟨_,rfl,λk hk=>absurd hk (qE0 _)⟩ ?_ ?_)
  .rintro i u ρ hu ⟨x,rfl,q⟩;obtain ⟨hi,rfl⟩:=ax hu;refine ⟨_,rfl,?_⟩;exists rp18;refine M5 (λh=>?_) (λh=>?_)
   .have h:=qO4 h;exists vf hi h
   .have h:=qO2 h;exists rp18;refine ⟨_,rfl,λk hk=>?_⟩;by_cases e:k=i
    .subst e;omega
    .show q k ox
  .rintro ρ ⟨x,rfl,q⟩;rw[qA7,qE4]at q;exists gM q
 obtain ⟨v,e,rfl⟩:=fin;show e
def Y8 (h6:s.length<=6) (hm:okN s.length m):D6 [tI s,mW m]=.ok (tI (k9 s m)):=by
 have a0:L2.atI [tI m.1,tI m.2] 0=some (tI m.1):=rfl;have a1:L2.atI [tI m.1,tI m.2] 1=some (tI m.2):=rfl;have e1:=hm.1;have e2:=hm.2.1;have e:=zC (n:=s.length) (λk=>s.getD k 0-m.1.getD k 0+m.2.getD k 0) h6;have q:(List.range s.length).map (λk=>s.getD k 0-m.1.getD k 0+m.2.getD k 0)=k9 s m:=qK8 λk _=>ox;rw[q]at e;exists rpB,ah;rw[e]
 .exists rp18
 .intro k hk;refine ⟨_,rfl,?_⟩;exists a0,a1
abbrev lM (ms:List Mv):W:=.lst (ms.map mW)
def yT (n:Nat) (m:Mv):shp (n+2) (mW m)=true:=by
 change J1 (n+1) [tI m.1,tI m.2]=true;simp only [J1,av,qI8,qM3]
def Bd (ms:List Mv):fEq false (lM ms) (.lst [])=.ok (.bl (decide (ms = []))):=by
 unfold fEq;have h:shp 8 (lM ms)=true:=T0 mW 7 (yT 5) ms;rw[h];cases ms <;> rfl
def DB (ws:JZ) (w:W):L2.atI (ws ++ [w]) (-1)=some w:=by
 unfold L2.atI
 have:L2.ixN (ws ++ [w]).length (-1)=some ws.length:=by
  unfold L2.ixN;rw[qC5,qF5];simp;omega
 rw[this]
 change (ws ++ [w])[ws.length]?=_;simp
def ni (h:f8 a b=true)(hk:k<a.length):b.getD k 0<=a.getD k 0:=cov_iff.mp h k hk
def fq (hk:k<s.length):(k9 s m).getD k 0=s.getD k 0+(m.2.getD k 0-m.1.getD k 0):=K3 hk
def Z6 (s:Jg)(m:Mv):z8 s m=k9 s m:=qK8 λk _=>ox
def jF (h:∀k,k<s.length->0<=s.getD k 0):nn s:=λx q=>by
 obtain ⟨k,hk,e⟩:=qE2.mp q
 have:=h k hk
 rw[qA1,qB4 hk,e]at this;show this
def Dv (hs:s.length=n) (hm:okN n m) (hn:nn s) (hc:f8 s m.1=true):nn (k9 s m):=jF λk hk=>by
 rw[L3]at hk;rw[fq hk]
 have:=ni hc hk
 have:=uS hm.2.2.2 k
 omega
def Rch.nn (hm:∀m∈ms,okN b.length m) (hb:nn b) (h:Rch ms b s):nn s:=by
 induction h with
 |beg=>show hb
 | @go s m h hmm hc q=>rw[Z6];show Dv h.len (hm m hmm) q hc
def ju {ns:Jg}(hb:∀x∈ns,Builtin.Int.intBits x<=1048576) (hw:w=lM ms\/w=tM_ ms) (h6:b.length<=6) (hm:∀m∈ms,okN b.length m) (h8:ms.length<=8):Ok (N3 [.scr (ns.map W.int),tI b,w]) λv=>∃ss:List Jg,v=lS ss/\(∀s∈ss,Rch ms b s)/\ss.length<=41:=by
 have ct:=o5 (v9 b);obtain ⟨M,hM,a7⟩:∃m:Nat,fb 40 (8+(ns.length:Int))=(m:Int)/\m<=40:=by
  unfold fb
  split
  .show ⟨(8+(ns.length:Int)).toNat,ox,ox⟩
  .show ⟨40,rfl,ox⟩
 have sw:y4 w=.ok (ms.map mW):=by rcases hw with rfl|rfl <;> rfl
 exists rpB,aM,ct,hM;refine r6 (p8 (λi ρ=>∃(pre:Jo) (s:Jg) (x y:Sl),ρ = [.par (.scr (ns.map W.int)),.par (tI b),.par w,.own ((pre ++ [s]).map tI),x,y]/\pre.length=i/\∀q∈pre ++ [s],Rch ms b q) ⟨[],b,_,_,rfl,rfl,λs hs=>by rw[qC3.mp hs];show .beg⟩ ?_ ?_)
 .rintro i u ρ hu ⟨pre,s,x,y,rfl,O,hD⟩;obtain ⟨hi,rfl⟩:=ax hu;have a3:=hD s QX;have a4:s.length=b.length:=a3.len;have al:L2.atI ((pre ++ [s]).map tI) (-1)=some (tI s):=by rw[qD1];show DB _ _
  obtain ⟨ow,L⟩:∃ow,ow=(pre ++ [s]).map tI:=⟨_,rfl⟩;have a8:ow.length<=64:=by rw[L,qA7,qC5,qF5];omega
  have e:=jo mW mW (λm=>f8 s m.1) ms ox;obtain ⟨_,e4,d,rfl⟩:=D2 hb (k:=(i:Int)) ox ox;have kn:=Bd (ms.filter λm=>f8 s m.1);have a5:(ms.filter λm=>f8 s m.1).length<=8:=qB1 (qS0 _ _) h8;have fin:∀m,m∈(ms.filter λm=>f8 s m.1)->m∈ms/\f8 s m.1=true:=λm hm=>by simpa using qP4.mp hm
  rw[<- L]at al ⊢;refine ⟨_,rfl,?_⟩;exists sw;rw[e];rotate_left
  .intro m hmm;have a0:L2.atI [tI m.1,tI m.2] 0=some (tI m.1):=rfl;have k1:=O4 (a:=s) (b:=m.1) ox (by rw[(hm m hmm).1,a4]);have cm:=o5 (iN m);refine ⟨_,rfl,?_⟩;exists al,a0,k1,cm
  generalize (ms.filter λm=>f8 s m.1)=fs at kn a5 fin
  exists kn;refine aA (λh=>?_) (λh=>?_)
  .exists rp18;show ⟨pre ++ [s],by rw[L],hD,by simp;omega⟩
  .have a6:fs ≠ []:=qO2 h;have hp:0<fs.length:=List.length_pos_iff.mpr a6;have g0:=qM7 (d/5) (show (fs.length:Int)≠0 by omega);have g1:=qL5 (d/5) (show (0:Int)<(fs.length:Int) by omega);have ea:L2.atI (fs.map mW) (d/5%(fs.length:Int))=some (mW (fs.getD (d/5%(fs.length:Int)).toNat ([],[]))):=bo mW (as:=fs) (d:=([],[])) ⟨g0,g1⟩;have hk:=fin (fs.getD (d/5%(fs.length:Int)).toNat ([],[])) (by rw[qA1];simp [show (d/5%(fs.length:Int)).toNat<fs.length by omega]);generalize fs.getD (d/5%(fs.length:Int)).toNat ([],[])=m at ea hk
   have hok:=hm m hk.1;have k2:=Y8 (s:=s) (m:=m) ox (by rw[a4];show hok);exists e4,ea,al,k2;refine ⟨pre ++ [s],k9 s m,_,_,by rw[L,qD1 (l₁:=pre ++ [s])];rfl,by simp [O],λq hq=>?_⟩;rcases qC6.mp hq with q1|q1
   .show hD q q1
   .rw[qC3.mp q1,<- Z6];show .go a3 hk.1 hk.2
 .rintro ρ ⟨pre,s,x,y,rfl,O,hD⟩;rw[qA7,qE4]at O;exists rp18;show ⟨pre ++ [s],rfl,hD,by simp;omega⟩
def zr {r:Jg}(hi:i<r.length):ru ms b (r.take (i+1))=k9 (ru ms b (r.take i)) (mvN ms (r.getD i 0).toNat):=by
 rw[qK1,qB4 hi,qA1,qB4 hi];show kD ms b _ _
def goR (ms:List Mv)(b r:Jg):Prop:=∀j,j<r.length->(0<=r.getD j 0/\r.getD j 0<(ms.length:Int))/\f8 (ru ms b (r.take j)) (mvN ms (r.getD j 0).toNat).1=true
def ld (hw:w=lM ms\/w=tM_ ms) (h6:b.length<=6) (hm:∀m∈ms,okN b.length m) (hr:goR ms b r):N2 [lI r,tI b,w]=.ok (tI (ru ms b r)):=by
 have fin:Ok (N2 [lI r,tI b,w]) λv=>v=tI (ru ms b r):=by
  have i1:fIsi [lI r,.ty "list"]=.ok (.bl true):=rfl;have lw:fLen [w]=.ok (.int (ms.length:Int)):=by rcases hw with rfl|rfl <;> (change R.ok (W.int ((ms.map mW).length:Int))=_;rw[qA7])
  exists rpB,dA,i1;refine r6 (p8 (λi ρ=>∃(a1 L:Sl),ρ = [.par (lI r),a1,.par w,L]/\(a1=.par (tI (ru ms b (r.take i)))\/a1=.val (tI (ru ms b (r.take i))))) ⟨_,_,rfl,.inl rfl⟩ ?_ ?_)
  .rintro i u ρ hu ⟨a1,L,rfl,ha⟩;obtain ⟨hi,rfl⟩:=Ba hu;obtain ⟨⟨r0,r1⟩,hc⟩:=hr i hi;have hl:(ru ms b (r.take i)).length=b.length:=oA ms _ _;have es:=zr (ms:=ms) (b:=b) hi;have e1:L2.atI (ms.map mW) (r.getD i 0)=some (mW (mvN ms (r.getD i 0).toNat)):=atM r0 r1;have q:fIx w (.int (r.getD i 0))=.ok (mW (mvN ms (r.getD i 0).toNat)):=by
    rcases hw with rfl|rfl
    all_goals
     exists e1
   have hok:=hm _ (dy (ms:=ms) (k:=(r.getD i 0).toNat) ox);generalize ru ms b (r.take i)=s at *
   generalize mvN ms (r.getD i 0).toNat=m at *
   have c0:L2.atI [tI m.1,tI m.2] 0=some (tI m.1):=rfl;have O:=O4 (a:=s) (b:=m.1) ox (by rw[hok.1,hl]);rw[hc]at O;have k2:=Y8 (s:=s) (m:=m) ox (by rw[hl];show hok);have d0:decide (0<=r.getD i 0)=true:=qN8 r0;have d1:decide (r.getD i 0<(ms.length:Int))=true:=qN8 r1;rcases ha with rfl|rfl
   all_goals
    refine ⟨_,rfl,?_⟩;exists d0,d1,lw,q,c0,O,k2;show ⟨_,_,rfl,.inr (by rw[es])⟩
  .rintro ρ ⟨a1,L,rfl,ha⟩;rw[qA7,qK4]at ha;have ct:=o5 (v9 (ru ms b r));rcases ha with rfl|rfl
   all_goals exists ct
 obtain ⟨v,e,rfl⟩:=fin;show e
def qZ {n:Nat}(hl:s.length=n) (h6:n<=6) (hn:nn s):U6 [tI s,.int (n:Int)]=.ok (.bl true):=by
 have O:fIsi [tI s,.ty "tuple"]=.ok (.bl true):=rfl;have d1:decide ((s.length:Int)=(n:Int))=true:=qN8 ox;have q:decide (((0:Nat):Int)=0)=true:=rfl;have e:=jo W.int W.int (λ_=>false) s ox;rw[show s.filter (λ_=>false) = [] by simp]at e;exists rpB,aK,O,d1;rw[e]
 .exists q
 .intro x L;have dx:decide (x<0)=false:=qN7 (by have:=hn x L;omega);refine ⟨_,rfl,?_⟩;exists dx
def aq {n:Nat}(hl:∀s∈ss,s.length=n/\nn s) (h6:n<=6) (h30:ss.length<=30):D5 [lS ss,.int (n:Int)]=.ok (.bl true):=by
 have O:fIsi [lS ss,.ty "list"]=.ok (.bl true):=rfl;have q:decide (((0:Nat):Int)=0)=true:=rfl;have e:=jo tI tI (λ_=>false) ss ox;rw[show ss.filter (λ_=>false) = [] by simp]at e;exists rpB,ae,O;rw[e]
 .exists q
 .intro x L;have k1:=qZ (hl x L).1 h6 (hl x L).2;have ct:=o5 (v9 x);refine ⟨_,rfl,?_⟩;exists k1,ct
def pF {m:Mv}(h6:s.length<=6):∀N mg me ρ,(∀k,k<s.length->ZX N ρ mg (.int (k:Nat)) λ ρ1=>me ρ1=.ok (.int (m.1.getD k 0+max 0 (s.getD k 0-m.2.getD k 0))))->n5 N mg yes me ((List.range s.length).map λk=>W.int (k:Nat)) ρ=.ok (lI (srcL s m.1 m.2)):=by
 have e:=zC (n:=s.length) (λk=>m.1.getD k 0+max 0 (s.getD k 0-m.2.getD k 0)) h6;rw[show (List.range s.length).map (λk=>m.1.getD k 0+max 0 (s.getD k 0-m.2.getD k 0))=srcL s m.1 m.2 from qK8 λk _=>ox]at e;show e
def uX (h:d4 s B=true):∃x∈B,f8 s x=true:=qD4.mp h
def Y7 (h6:s.length<=6) (hl:∀x∈ss,x.length=s.length):y8 [tI s,lS ss]=.ok (.bl (d4 s ss)):=by
 have fin:Ok (y8 [tI s,lS ss]) λv=>v=.bl (d4 s ss):=by
  exists rpB,af;refine r6 (p8 (λi ρ=>∃u,ρ = [.par (tI s),.par (lS ss),u]/\∀k,k<i->f8 s (ss.getD k [])=false) ⟨_,rfl,λk hk=>absurd hk (qE0 _)⟩ ?_ ?_)
  .rintro i u ρ hu ⟨_,rfl,q⟩;obtain ⟨hi,rfl⟩:=O3 hu;have hc:=O4 (a:=s) (b:=ss.getD i []) h6 (hl _ (aG hi));refine ⟨_,rfl,?_⟩;exists hc;refine M5 (λh=>?_) (λh=>?_)
   .exists rp18;rw[uW hi h]
   .exists rp18;refine ⟨_,rfl,λk hk=>?_⟩;by_cases e:k=i
    .subst e;show h
    .show q k ox
  .rintro ρ ⟨_,rfl,q⟩;rw[qA7]at q;exists rp18;rw[uY q]
 obtain ⟨v,e,rfl⟩:=fin;show e
def nC (ht:t.length=n) (hn:nn t) (hm:∀m∈ms,okN n m):∀k,∀x∈Bk ms t k,nn x
 |0,x,hx=>by rw[qC3.mp hx];show hn
 | k+1,x,hx=>by
  have O:=J7 (ms:=ms) ht k
  have:=(eP (ef (ms:=ms) O.len)).2.1 x hx
  rcases qC6.mp this with q|q
  .show nC ht hn hm k x q
  .obtain ⟨m,hmm,q⟩:=qP3.mp q;obtain ⟨s,hs,rfl⟩:=qA9.mp q;refine jF λp L=>?_;rw[Y1]at L;rw[bt L]
   have:=uS (hm m hmm).2.2.1 p
   omega
def rh (h:J8 ms ss=true) (hs:s∈ss) (hm:m∈ms):d4 (srcL s m.1 m.2) ss=true:=by
 unfold J8 at h;show qE7.mp h _ (qP3.mpr ⟨m,hm,qA9.mpr ⟨s,hs,rfl⟩⟩)
def wE (h:opB ms t most j=false):J8 ms (Bk ms t j)=true:=by
 unfold opB at h;rw[Bool.or_eq_false_iff]at h;simpa using h.2
section
variable {ns:Jg}{ms:List Mv}{b:Jg}{m:Mv}{most j:Nat}(hb:∀x∈ns,Builtin.Int.intBits x<=1048576)(h6:b.length<=6)(hm:∀m∈ms,okN b.length m)(h8:ms.length<=8)(hmm:m∈ms)(hbn:nn b)(hop:opB ms m.1 most j=false)(h30:most<=18)
include hb h6 hm h8 hmm hbn hop h30
theorem xU (hK:FlK b ms es A T) (ha:a<=es.length) (hl:d4 (sA b es a) (Bk ms m.1 j)=false) (p:Pt es a l r):P4 [.scr (ns.map W.int),.tup [.str "dies",lI r,lS (Bk ms m.1 j)],tI b,lM ms,mW m]=.ok (.bl true):=by
 have ht:=(hm m hmm).1;have q:=J7 (ms:=ms) ht j;have hlen:=iB hop;have a6:=wE hop;have a4:=eU (ms:=ms) ht j ht (jw m.1);have k1:=aq (n:=b.length) (λs hs=>⟨q.len s hs,nC ht (hm m hmm).2.2.1 hm j s hs⟩) h6 ox;obtain ⟨r1,r2⟩:=Pt.run hK p;have k2:=ld (w:=lM ms) (.inl rfl) h6 hm r2;rw[r1]at k2;have a3:=hK.slen (a:=a) ox;have out:∀s,Rch ms (sA b es a) s->f8 s m.1=false:=λs hs=>by
  have:=hs.out q.len a6 a3 hl
  cases c:f8 s m.1 with
  |false=>rfl
  |true=>rw[eU ht j (by rw[hs.len];show a3) c]at this;cases this
 generalize sA b es a=here at *
 generalize Bk ms m.1 j=B at *
 have k3:=Y7 (s:=here) (ss:=B) ox (λx hx=>by rw[q.len x hx,a3]);have k4:=Y7 (s:=m.1) (ss:=B) ox (λx hx=>by rw[q.len x hx,ht]);rw[hl]at k3;rw[a4]at k4;obtain ⟨_,kd,ss,rfl,a8,b4⟩:=ju hb (b:=here) (w:=lM ms) (.inl rfl) ox (by rw[a3];show hm) h8;have d3:decide (((3:Nat):Int)=3)=true:=rfl;have ab:decide (((0:Nat):Int)=0)=true:=rfl;have a1:∀x y z:W,L2.atI [x,y,z] 1=some y:=λ_ _ _=>rfl;have a2:∀x y z:W,L2.atI [x,y,z] 2=some z:=λ_ _ _=>rfl;have c0:L2.atI [tI m.1,tI m.2] 0=some (tI m.1):=rfl;have fin:Ok (P4 [.scr (ns.map W.int),.tup [.str "dies",lI r,lS B],tI b,lM ms,mW m]) λv=>v=.bl true:=by
  exists rpB,bW,d3,a2,k1,a1,k2,k3,c0,k4;refine r6 (p8 (λi ρ=>∃x y z:Sl,ρ = [.par (.scr (ns.map W.int)),.par (.tup [.str "dies",lI r,lS B]),.par (tI b),.par (lM ms),.par (mW m),.par (lS B),.val (tI here),x,y,z]) ⟨_,_,_,rfl⟩ ?_ ?_)
  .rintro i u ρ hu ⟨x,y,z,rfl⟩;obtain ⟨hi,rfl⟩:=O3 hu;have L:=aG hi;generalize B.getD i []=t at L
   have a7:=q.len t L;refine ⟨_,rfl,?_⟩;exists rp18;refine dh (λj ρ=>∃y z:Sl,ρ = [.par (.scr (ns.map W.int)),.par (.tup [.str "dies",lI r,lS B]),.par (tI b),.par (lM ms),.par (mW m),.par (lS B),.val (tI here),.par (tI t),y,z]) ⟨_,_,rfl⟩ ?_ ?_
   .rintro j u ρ hu ⟨y,z,rfl⟩;obtain ⟨O,a5,_,rfl⟩:=bG hu;have hok:=hm O a5;have b0:L2.atI [tI O.1,tI O.2] 0=some (tI O.1):=rfl;have b3:L2.atI [tI O.1,tI O.2] 1=some (tI O.2):=rfl;have e1:=hok.1;have e2:=hok.2.1;have k5:=Y7 (s:=srcL t O.1 O.2) (ss:=B) (by rw[Y1];omega) (λx hx=>by rw[Y1,a7,q.len x hx]);rw[rh a6 L a5]at k5;have hr:List.range b.length=List.range t.length:=by rw[a7]
    refine ⟨_,rfl,?_⟩;exists rp18;rw[hr,pF (s:=t) (m:=O) ox]
    .exists k5;show ⟨_,_,rfl⟩
    .intro k hk;refine ⟨_,rfl,?_⟩;exists b0,b3
   .rintro ρ ⟨y,z,rfl⟩;show ⟨_,_,_,rfl⟩
  .rintro ρ ⟨x,y,z,rfl⟩;have e:=jo tI tI (λs=>f8 s m.1) ss ox;rw[show ss.filter (λs=>f8 s m.1) = [] from List.filter_eq_nil_iff.mpr λs hs=>by rw[out s (a8 s hs)];show qA3]at e;exists kd;rw[e]
   .exists ab
   .intro s hs;have sl:=(a8 s hs).len;have k6:=O4 (a:=s) (b:=m.1) ox ox;have ct:=o5 (v9 s);refine ⟨_,rfl,?_⟩;exists c0,k6,ct
 obtain ⟨v,e,rfl⟩:=fin;show e
end
def addK_mem:p∈V1 ks k↔p∈ks\/p=k:=by
 unfold V1
 split
 .rename_i h
  show ⟨.inl,λq=>q.elim id λe=>e ▸ h⟩
 .simp
def lP (h:ks.Nodup):(V1 ks k).Nodup:=by
 unfold V1
 split
 .show h
 .rename_i q
  refine List.nodup_append.mpr ⟨h,QX,λa ha b hb=>?_⟩;rw[qC3.mp hb];show λe=>q (e ▸ ha)
def uv:(V1 ks k).length<=ks.length+1:=by
 unfold V1
 split
 .omega
 .simp
def pq:∀{A B:Jo},A.Nodup->(∀x∈A,x∈B)->A.length<=B.length
 | [],_,_,_=>qD2 _
 | a::A,B,hA,h=>by
  obtain ⟨L,O⟩:=qM4.mp hA;have ha:=h a qB2
  have:=pq (B:=B.erase a) O λx q=>(List.mem_erase_of_ne (show x≠a from λe=>L (e ▸ q))).mpr (h x (qA6 _ q))
  rw[qV8 ha]at this
  have:=List.length_pos_of_mem ha
  rw[qC1];omega
def FlK.closed (hK:FlK b ms es (es.length+1) []) (hs:s∈stS b es) (hm:m∈ms) (hc:f8 s m.1=true):k9 s m∈stS b es:=by
 obtain ⟨k,hk,e0⟩:=qE2.mp hm;have em:mvN ms k=m:=by unfold mvN;rw[qA1,qB4 hk,e0];rfl
 subst em;obtain ⟨a,ha,e⟩:=qE2.mp hs;have O:a<es.length+1:=by rw[S2]at ha;show ha
 have L:sA b es a=s:=by unfold sA;rw[qA1,qB4 ha,e];rfl
 have a4:abN b ms es a k=true:=by unfold abN;rw[L];show hc
 have a3:bhN b ms es a k=k9 s (mvN ms k):=by unfold bhN;rw[L]
 rw[<- a3];rcases hK.set a k (.inl O) hk a4 with ⟨e,he,q⟩|q|⟨e,he,_,q⟩
 .have:=(hK.beh e he).2
  rw[q]at this;show qA6 _ (qA9.mpr ⟨e,he,this⟩)
 .rw[q];show qB2
 .show qA6 _ (qA9.mpr ⟨e,he,q⟩)
def rM {S:Jo}(ht:t.length=n) (hS:∀s∈S,s.length=n) (a4:∀s∈S,∀m∈ms,f8 s m.1=true->z8 s m∈S) (hj:∀s∈S,d4 s (Bk ms t j)=true):∀s∈S,d4 s (Bk ms t S.length)=true:=by
 have mono:∀{k d:Nat}{s:Jg},s∈S->d4 s (Bk ms t k)=true->d4 s (Bk ms t (k+d))=true:=by
  intro k d
  induction d with
  |zero=>intro s _ h;show h
  |succ d O=>intro s hs h;show T8 ht (k+d) (hS s hs) (O hs h)
 have key:∀k,(∀s∈S,d4 s (Bk ms t k)=true)\/k<=(S.filter λs=>d4 s (Bk ms t k)).length:=by
  intro k
  induction k with
  |zero=>show .inr (qD2 _)
  | succ k O=>
   rcases O with O|O
   .show .inl λs hs=>T8 ht k (hS s hs) (O s hs)
   .by_cases q:∃s∈S,d4 s (Bk ms t (k+1))=true/\d4 s (Bk ms t k)=false
    .obtain ⟨s,hs,h1,h0⟩:=q;refine .inr ?_
     have:∀L:List Jg,(∀x∈L,x∈S)->(L.filter λs=>d4 s (Bk ms t k)).length+(if s∈L then 1 else 0)<=(L.filter λs=>d4 s (Bk ms t (k+1))).length:=by
      intro L
      induction L with
      |nil=>intro _;simp
      | cons x L a5=>
       intro hL
       have:=a5 λy hy=>hL y (qA6 _ hy)
       have hx:=hL x qB2;rw[qW1,qW1];by_cases e:s=x
       .subst e;rw[h0,h1,qA4 qA3,qA2 rfl,qA2 qB2,qC1]
        split at this <;> omega
       .have e2:(s∈x::L)=(s∈L):=by rw[qB6];show propext ⟨λz=>z.resolve_left e,.inr⟩
        simp only [e2];cases c:d4 x (Bk ms t k) with
        | true=>
         rw[T8 ht k (hS x hx) c,qA2 rfl,qA2 rfl,qC1,qC1];omega
        | false=>
         rw[qA4 qA3];cases c2:d4 x (Bk ms t (k+1)) with
         |true=>rw[qA2 rfl,qC1];omega
         |false=>rw[qA4 qA3];show this
     have:=this S λx hx=>hx
     rw[qA2 hs]at this;omega
    .have q:∀s∈S,d4 s (Bk ms t (k+1))=true->d4 s (Bk ms t k)=true:=λs hs h=>by
      cases c:d4 s (Bk ms t k) with
      |true=>rfl
      |false=>show absurd ⟨s,hs,h,c⟩ q
     have st:∀d,∀s∈S,d4 s (Bk ms t (k+d))=true->d4 s (Bk ms t k)=true:=by
      intro d
      induction d with
      |zero=>intro s _ h;show h
      | succ d a3=>
       intro s hs h;have h:d4 s (Bk ms t (k+d+1))=true:=h;rw[K7 ht (k+d) (hS s hs),qS8]at h;rcases h with h|h
       .show a3 s hs h
       .obtain ⟨m,hm,h⟩:=qD4.mp h;unfold u8 at h;rw[qG5]at h
        have:=a3 _ (a4 s hs m hm h.1) h.2
        refine q s hs ?_;rw[K7 ht k (hS s hs),qS8];refine .inr (qD4.mpr ⟨m,hm,?_⟩);unfold u8;rw[h.1,this];rfl
     refine .inl λs hs=>T8 ht k (hS s hs) ?_;by_cases z:j<=k
     .have:=mono (d:=k-j) hs (hj s hs)
      rw[show j+(k-j)=k by omega]at this;show this
     .refine st (j-k) s hs ?_;rw[show k+(j-k)=j by omega];show hj s hs
 rcases key S.length with h|h
 .show h
 .intro s hs
  have:=List.length_filter_eq_length_iff.mp (qW8 (qS0 _ _) h) s hs
  show this
abbrev pW (p:List Int×List Int):W:=.tup [tI p.1,tI p.2]
def wZ {ps:List (List Int×List Int)}{i:Nat}(h:(ps.map pW)[i]?=some w):∃p,ps[i]?=some p/\w=pW p:=by
 rw[qC9]at h;cases q:ps[i]? with
 |none=>rw[q]at h;cases h
 |some m=>rw[q]at h;cases h;show ⟨m,rfl,rfl⟩
def sW (h6:b.length<=6) (hm:∀m∈ms,okN b.length m) (h8:ms.length<=8) (hmm:m∈ms) (hbn:nn b) (e5:most<=18) (hK:FlK b ms es (es.length+1) []) (e2:es.length+1<=most) (d5:∀s∈stS b es,d4 s (Bk ms m.1 j)=true) (dr:∀s∈stS b es,nn s):N1 [.tup [.str "lives",lS (stS b es)],tI b,lM ms,mW m,.int (most:Int)]=.ok (.bl true):=by
 have ht:=(hm m hmm).1;have a4:∀s∈stS b es,s.length=b.length:=λs hs=>by
  unfold stS at hs;rcases qB6.mp hs with e|e
  .rw[e]
  .obtain ⟨z,hz,ez⟩:=qA9.mp e;rw[<- ez];show hK.len z hz
 have c5:=λ(s:Jg) (hs:s∈stS b es) (m:Mv) (hm:m∈ms) (hc:f8 s m.1=true)=>hK.closed hs hm hc;have hR:=rM ht a4 (λs hs m hm hc=>by rw[Z6];show c5 s hs m hm hc) d5;have d7:b∈stS b es:=qB2;have cj:=hK.nod;have e3:=S2 b es;generalize stS b es=S at *
 have k1:=aq (n:=b.length) (ss:=S) (λs hs=>⟨a4 s hs,dr s hs⟩) h6 ox;have d2:decide (((2:Nat):Int)=2)=true:=rfl;have d3:decide ((0:Int)<((0:Nat):Int))=false:=rfl;have a1:∀x y:W,L2.atI [x,y] 1=some y:=λ_ _=>rfl;have c0:L2.atI [tI m.1,tI m.2] 0=some (tI m.1):=rfl;have f1:fIn true (tI b) (lS S)=.ok (.bl false):=by rw[qc,qN8 d7];rfl
 have d1:decide ((most:Int)<(S.length:Int))=false:=qN7 ox;have kl:fLs [lS S]=.ok (.int (S.length:Int)):=EI cj ox;have dd:decide ((S.length:Int)=(S.length:Int))=true:=qN8 rfl;have fin:Ok (N1 [.tup [.str "lives",lS S],tI b,lM ms,mW m,.int (most:Int)]) λv=>v=.bl true:=by
  exists rpB,aL,d2,a1,k1,f1,d1,kl,dd;refine r6 (p8 (λi ρ=>∃(ks:Jo) (ps:List (List Int×List Int)) (x y:Sl),ρ = [.par (.tup [.str "lives",lS S]),.par (tI b),.par (lM ms),.par (mW m),.par (.int (most:Int)),.par (lS S),.dic ks,.own (ps.map pW),x,y,.un,.un]/\TP.isDic x=false/\TP.isDic y=false/\ks.Nodup/\(∀s∈ks,s∈S)/\ks.length<=i/\ps.length<=8*i/\(∀p∈ps,p.1∈S/\p.2∈S)/\(∀s∈S.take i,f8 s m.1=true->s∈ks)/\(∀s∈S.take i,∀m'∈ms,f8 s m'.1=true->(s,k9 s m')∈ps)) ⟨[],[],_,_,rfl,rfl,rfl,List.nodup_nil,QX,QX,QX,QX,QX,QX⟩ ?_ ?_)
  .rintro i u ρ hu ⟨ks,ps,x,y,rfl,hx,hy,knd,kS,cx,pl,pS,kc,pc⟩;obtain ⟨hi,rfl⟩:=O3 hu;have ab:=aG hi;have et:∀s,s∈S.take (i+1)↔s∈S.take i\/s=S.getD i []:=λs=>by
    have:S[i]?=some (S.getD i []):=by rw[qA1];simp [hi]
    rw[qK1,this,qC6,Option.toList_some,qC3]
   generalize S.getD i []=s at *
   have cm:=a4 s ab;have k2:=O4 (a:=s) (b:=m.1) ox ox;have cs:=o5 (v9 s);refine ⟨_,rfl,?_⟩;exists c0,k2;refine iw (λρ=>∃(a5:Jo),ρ = [.par (.tup [.str "lives",lS S]),.par (tI b),.par (lM ms),.par (mW m),.par (.int (most:Int)),.par (lS S),.dic a5,.own (ps.map pW),.par (tI s),y,.un,.un]/\a5.Nodup/\(∀s∈a5,s∈S)/\a5.length<=i+1/\(∀s∈S.take (i+1),f8 s m.1=true->s∈a5)) ?_ ?_
   .refine M5 (λh=>?_) (λh=>?_)
    .have nd:TP.noDic [.par (.tup [.str "lives",lS S]),.par (tI b),.par (lM ms),.par (mW m),.par (.int (most:Int)),.par (lS S),.un,.own (ps.map pW),.par (tI s),y,.un,.un]=true:=by
      simp only [TP.noDic,List.all_cons,List.all_nil,hy,qM9,qM3,qI8];rfl
     have bc:=U7 ks (.bl true) s 6 [.par (.tup [.str "lives",lS S]),.par (tI b),.par (lM ms),.par (mW m),.par (.int (most:Int)),.par (lS S),.dic ks,.own (ps.map pW),.par (tI s),y,.un,.un] nd ox;exists bc;refine ⟨_,rfl,lP knd,λq L=>?_,by have:=uv (ks:=ks) (k:=s);omega,λq L hc=>?_⟩
     .rcases addK_mem.mp L with z|z
      .show kS q z
      .rw[z];show ab
     .rcases (et q).mp L with z|z
      .show addK_mem.mpr (.inl (kc q z hc))
      .show addK_mem.mpr (.inr z)
    .exists rp18;refine ⟨_,rfl,knd,kS,ox,λq L hc=>?_⟩;rcases (et q).mp L with z|z
     .show kc q z hc
     .rw[z,h]at hc;cases hc
   rintro ρ ⟨a5,rfl,ck,d6,cc,d0⟩;exists rp18;refine dh (λjj ρ=>∃(O:List (List Int×List Int)) (y:Sl),ρ = [.par (.tup [.str "lives",lS S]),.par (tI b),.par (lM ms),.par (mW m),.par (.int (most:Int)),.par (lS S),.dic a5,.own (O.map pW),.par (tI s),y,.un,.un]/\TP.isDic y=false/\O.length<=8*i+jj/\(∀p∈O,p.1∈S/\p.2∈S)/\(∀p∈ps,p∈O)/\∀q m',q<jj->ms[q]?=some m'->f8 s m'.1=true->(s,k9 s m')∈O) ⟨ps,_,rfl,hy,ox,pS,λp h=>h,λq m' L=>absurd L (qE0 _)⟩ ?_ ?_
   .rintro jj u ρ hu ⟨O,y,rfl,cn,cg,c1,b0,pj⟩;obtain ⟨m',b3,c4,rfl⟩:=bG hu;have e1:jj<ms.length:=(qA8.mp c4).1;have hok:=hm m' b3;have e0:L2.atI [tI m'.1,tI m'.2] 0=some (tI m'.1):=rfl;have k3:=O4 (a:=s) (b:=m'.1) ox (by rw[hok.1,cm]);have k4:=Y8 (s:=s) (m:=m') ox (by rw[cm];show hok);refine ⟨_,rfl,?_⟩;exists e0,k3;refine M5 (λh=>?_) (λh=>?_)
    .exists cs,k4;refine ⟨O ++ [(s,k9 s m')],_,by rw[qD1];rfl,rfl,by rw[qC5,qF5];omega,λp hp=>?_,λp hp=>qD5 _ (b0 p hp),λq m2 L a3 hc=>?_⟩
     .rcases qC6.mp hp with z|z
      .show c1 p z
      .rw[qC3.mp z];show ⟨ab,c5 s ab m' b3 h⟩
     .by_cases e:q=jj
      .subst e;rw[c4]at a3;cases a3;simp
      .show qD5 _ (pj q m2 ox a3 hc)
    .exists rp18;refine ⟨O,_,rfl,rfl,ox,c1,b0,λq m2 L a3 hc=>?_⟩;by_cases e:q=jj
     .subst e;rw[c4]at a3;cases a3;rw[h]at hc;cases hc
     .show pj q m2 ox a3 hc
   .rintro ρ ⟨O,y,rfl,cn,cg,c1,b0,pj⟩;rw[qA7]at cg pj;refine ⟨a5,O,_,_,rfl,rfl,cn,ck,d6,cc,ox,c1,d0,λq L m2 a3 hc=>?_⟩;rcases (et q).mp L with z|z
    .show b0 _ (pc q z m2 a3 hc)
    .subst z;obtain ⟨k,hk,e⟩:=qE2.mp a3;show pj k m2 hk (by rw[qB4 hk,e]) hc
  rintro ρ ⟨ks,ps,x,y,rfl,hx,hy,knd,kS,cx,pl,pS,kc,pc⟩;rw[qA7,qK4]at kc pc;rw[qA7]at pl;have e:=jo (λp:List Int×List Int=>tI p.1) pW (λp=>false) ps ox;rw[show ps.filter (λp=>false) = [] by simp]at e;exists rp18;rw[e];rotate_left
  .rintro p hp;have f2:fIn true (tI p.2) (lS S)=.ok (.bl false):=by rw[qc,qN8 (pS p hp).2];rfl
   have ct:=o5 (v9 p.1);refine ⟨_,rfl,?_⟩;exists f2,ct
  exists d3;refine p8 (λk ρ=>∃(ks:Jo) (a7 x y z u:Sl),ρ = [.par (.tup [.str "lives",lS S]),.par (tI b),.par (lM ms),.par (mW m),.par (.int (most:Int)),.par (lS S),.dic ks,a7,x,y,z,u]/\(a7=.own (ps.map pW)\/a7=.val (.lst (ps.map pW)))/\TP.isDic x=false/\TP.isDic y=false/\TP.isDic z=false/\TP.isDic u=false/\ks.Nodup/\(∀s∈ks,s∈S)/\∀s∈S,d4 s (Bk ms m.1 k)=true->s∈ks) ⟨ks,_,_,_,_,_,rfl,.inl rfl,hx,hy,rfl,rfl,knd,kS,λs hs h=>kc s hs (by rw[show Bk ms m.1 0 = [m.1] from rfl,mN]at h;show h)⟩ ?_ ?_
  .rintro k u ρ hu ⟨ks,a7,x,y,z,u',rfl,h7,hx,hy,hz,cp,knd,kS,kk⟩;obtain ⟨hk,rfl⟩:=ax hu;have inner:Po (B2 (gT 2 (l4 (gN Mode.U 11) (l4 (gN Mode.U 9) gsNil))) (mIf (mIn false 6 (b6 Mode.B 9)) (V6 6 (b6 Mode.B 11) (mC (W.bl true))) sNx) (ps.map pW) [.par (.tup [.str "lives",lS S]),.par (tI b),.par (lM ms),.par (mW m),.par (.int (most:Int)),.par (lS S),.dic ks,.val (.lst (ps.map pW)),x,y,.par (.int (k:Int)),u']) (λρ=>∃(ks:Jo) (a7 x y z u:Sl),ρ = [.par (.tup [.str "lives",lS S]),.par (tI b),.par (lM ms),.par (mW m),.par (.int (most:Int)),.par (lS S),.dic ks,a7,x,y,z,u]/\(a7=.own (ps.map pW)\/a7=.val (.lst (ps.map pW)))/\TP.isDic x=false/\TP.isDic y=false/\TP.isDic z=false/\TP.isDic u=false/\ks.Nodup/\(∀s∈ks,s∈S)/\∀s∈S,d4 s (Bk ms m.1 (k+1))=true->s∈ks) λv=>v=.bl true:=by
    refine dh (λi ρ=>∃(ls:Jo) (y u:Sl),ρ = [.par (.tup [.str "lives",lS S]),.par (tI b),.par (lM ms),.par (mW m),.par (.int (most:Int)),.par (lS S),.dic ls,.val (.lst (ps.map pW)),x,y,.par (.int (k:Int)),u]/\TP.isDic y=false/\TP.isDic u=false/\ls.Nodup/\(∀s∈ls,s∈S)/\(∀s∈ks,s∈ls)/\∀q p,q<i->ps[q]?=some p->p.2∈ks->p.1∈ls) ⟨ks,_,_,rfl,hy,cp,knd,kS,λs h=>h,λq p L=>absurd L (qE0 _)⟩ ?_ ?_
    .rintro i w ρ hw ⟨ls,y,u,rfl,hy,hu,b5,b4,a6,lp⟩;obtain ⟨p,c3,rfl⟩:=wZ hw;have cy:=qF6 c3;have e4:=pq b5 b4;have nd:TP.noDic [.par (.tup [.str "lives",lS S]),.par (tI b),.par (lM ms),.par (mW m),.par (.int (most:Int)),.par (lS S),.un,.val (.lst (ps.map pW)),x,.par (tI p.2),.par (.int (k:Int)),.par (tI p.1)]=true:=by
      simp only [TP.noDic,List.all_cons,List.all_nil,hx,qM9,qM3,qI8];rfl
     have bc:=U7 ls (.bl true) p.1 6 [.par (.tup [.str "lives",lS S]),.par (tI b),.par (lM ms),.par (mW m),.par (.int (most:Int)),.par (lS S),.dic ls,.val (.lst (ps.map pW)),x,.par (tI p.2),.par (.int (k:Int)),.par (tI p.1)] nd ox;refine ⟨_,rfl,?_⟩;exists rp18;refine M5 (λh=>?_) (λh=>?_)
     .exists bc;refine ⟨_,_,_,rfl,rfl,rfl,lP b5,λq L=>?_,λq L=>addK_mem.mpr (.inl (a6 q L)),λq p' L a8 c2=>?_⟩
      .rcases addK_mem.mp L with z|z
       .show b4 q z
       .rw[z];show (pS p cy).1
      .by_cases e:q=i
       .subst e;rw[c3]at a8;cases a8;show addK_mem.mpr (.inr rfl)
       .show addK_mem.mpr (.inl (lp q p' ox a8 c2))
     .have h:=qO2 h;exists rp18;refine ⟨_,_,_,rfl,rfl,rfl,b5,b4,a6,λq p' L a8 c2=>?_⟩;by_cases e:q=i
      .subst e;rw[c3]at a8;cases a8;show absurd (a6 _ c2) h
      .show lp q p' ox a8 c2
    .rintro ρ ⟨ls,y,u,rfl,hy,hu,b5,b4,a6,lp⟩;rw[qA7]at lp;refine ⟨ls,_,_,_,_,_,rfl,.inr rfl,hx,hy,rfl,hu,b5,b4,λs hs h=>?_⟩;rw[K7 ht k (a4 s hs),qS8]at h;rcases h with h|h
     .show a6 s (kk s hs h)
     .obtain ⟨m',b3,h⟩:=qD4.mp h;unfold u8 at h;rw[qG5,Z6]at h;have h2:=kk _ (c5 s hs m' b3 h.1) h.2;have dt:=pc s hs m' b3 h.1;obtain ⟨q,L,e⟩:=qE2.mp dt;show lp q (s,k9 s m') L (by rw[qB4 L,e]) h2
   rcases h7 with rfl|rfl
   all_goals
    refine ⟨_,rfl,?_⟩;exists rp18;show inner
  .rintro ρ ⟨ks,a7,x,y,z,u',rfl,h7,hx,hy,hz,cp,knd,kS,kk⟩;rw[qA7,qE4]at kk;have hlen:ks.length=S.length:=((qU4 knd cj).mpr λs=>⟨kS s,λhs=>kk s hs (hR s hs)⟩).length_eq;have d9:decide ((ks.length:Int)=(S.length:Int))=true:=qN8 ox;exists d9
 obtain ⟨v,e,rfl⟩:=fin;show e
def wY (hk:k<s.length):(C9 s t).getD k 0=max (s.getD k 0) (t.getD k 0):=K3 hk
def Bc (hB:∀x∈B,x.length=n) (hL:W1 ms B=true) (hs:s.length=n) (hm:m∈ms) (hc:f8 s m.1=true) (hl:d4 s B=true):d4 (k9 s m) B=true:=by
 obtain ⟨x,L,O⟩:=uX hl;have q:=hB x L
 have:=qE7.mp (qE7.mp hL m hm) x L
 obtain ⟨y,hy,cy⟩:=uX this;refine qD4.mpr ⟨y,hy,bf (b:=k9 (C9 x m.1) m) (by rw[L3,L3,O2,hs,q]) (cov_iff.mpr λk hk=>?_) cy⟩;rw[L3]at hk;rw[fq hk,fq (by rw[O2];omega),wY ox]
 have:=ni O hk
 have:=ni hc hk
 omega
def Rch.led (O:∀x∈B,x.length=n) (L:W1 ms B=true) (hb:b.length=n) (h0:d4 b B=true) (h:Rch ms b s):d4 s B=true:=by
 induction h with
 |beg=>show h0
 | @go s m h hm hc q=>rw[Z6];show Bc O L (by rw[h.len];show hb) hm hc q
def ln:∀{r s s':Jg},dI ms r s=some s'->(∀x∈r,0<=x/\x<(ms.length:Int))->goR ms s r/\ru ms s r=s'
 | [],s,s',h,_=>by cases h;show ⟨λj q=>absurd q (qE0 _),rfl⟩
 | x::r,s,s',h,hr=>by
  unfold dI at h
  split at h
  .rename_i hc
   rw[Z6]at h;obtain ⟨g,e⟩:=ln h λy L=>hr y (qA6 _ L);refine ⟨λj q=>?_,e⟩;cases j with
   |zero=>show ⟨hr x qB2,hc⟩
   |succ j=>show g j (by simpa using q)
  .cases h
def qH {ns:Jg}(hb:∀x∈ns,Builtin.Int.intBits x<=1048576) (h1:1<=b.length) (h6:b.length<=6) (hm:∀m∈ms,okN b.length m) (h8:ms.length<=8) (hmm:m∈ms) (hop:opB ms m.1 most j=false) (hE:uE ms m.1 most j) (b4:most<=18) (b3:d4 b (Bk ms m.1 j)=true) (hL:W1 ms (Bk ms m.1 j)=true):K1 [.scr (ns.map W.int),.tup [.str "always",lS (Bk ms m.1 j)],.tup [tI b,tM_ ms],mW m,.int (most:Int)]=.ok (.bl true):=by
 have ht:=(hm m hmm).1;have O:=J7 (ms:=ms) ht j;have hlen:=iB hop;have a8:∀m∈ms,okM b.length m:=λm q=>⟨(hm m q).1,(hm m q).2.1⟩;have k1:=aq (n:=b.length) (λs hs=>⟨O.len s hs,nC ht (hm m hmm).2.2.1 hm j s hs⟩) h6 ox;have ab:∀s∈Bk ms m.1 j,∃r s':List Int,bL [.tup [tI s,tM_ ms],tI m.1,.int (most:Int)]=.ok (.tup [.str "row",lI r])/\goR ms s r/\ru ms s r=s'/\f8 s' m.1=true/\s'.length=b.length:=λs hs=>by
  have a6:=O.len s hs;have a4:d4 s (Bk ms m.1 j)=true:=qD4.mpr ⟨s,hs,jw s⟩;obtain ⟨w,kc,j',a3,hw⟩:=ue (most:=most) h1 h6 a8 h8 a6 ht ox;rcases hw with ⟨hl,rfl⟩|⟨hl,hne,_⟩
  .obtain ⟨⟨s',g,gl,gc⟩,hr⟩:=ik ht j' s a6 hl λi hi=>(a3 i hi).1;obtain ⟨g1,g2⟩:=ln g hr;show ⟨_,s',kc,g1,g2,gc,gl⟩
  .exfalso;rcases qN2 j' j with q|q|q
   .show hne (end_non.mpr (end_non.mp (hE.2 j' q)))
   .rw[q,a4]at hl;cases hl
   .rw[(a3 j q).1]at a4;cases a4
 have b0:=λ(s:Jg) (hs:Rch ms b s)=>hs.led O.len hL rfl b3;generalize Bk ms m.1 j=B at *
 obtain ⟨_,kd,ss,rfl,a7,a6⟩:=ju hb (b:=b) (w:=tM_ ms) (.inr rfl) h6 hm h8;have d2:decide (((2:Nat):Int)=2)=true:=rfl;have a0:∀x y:W,L2.atI [x,y] 0=some x:=λ_ _=>rfl;have a1:∀x y:W,L2.atI [x,y] 1=some y:=λ_ _=>rfl;have s1:l5 true (W.str "row") (W.str "row")=.ok (.bl false):=rfl;have fin:Ok (K1 [.scr (ns.map W.int),.tup [.str "always",lS B],.tup [tI b,tM_ ms],mW m,.int (most:Int)]) λv=>v=.bl true:=by
  exists rpB,ai,d2,a1,a0,k1,kd;refine r6 (p8 (λi ρ=>∃x:Sl,ρ = [.par (.scr (ns.map W.int)),.par (.tup [.str "always",lS B]),.par (.tup [tI b,tM_ ms]),.par (mW m),.par (.int (most:Int)),.par (lS B),x,.un,.un]) ⟨_,rfl⟩ ?_ ?_)
  .rintro i u ρ hu ⟨x,rfl⟩;obtain ⟨hi,rfl⟩:=O3 hu;have L:=aG hi;generalize ss.getD i []=s at L
   have a5:=(a7 s L).len;have k2:=Y7 (s:=s) (ss:=B) ox (λx hx=>by rw[O.len x hx,a5]);rw[b0 s (a7 s L)]at k2;refine ⟨_,rfl,?_⟩;exists k2;show ⟨_,rfl⟩
  rintro ρ ⟨x,rfl⟩;exists rp18;refine p8 (λi ρ=>∃x y z:Sl,ρ = [.par (.scr (ns.map W.int)),.par (.tup [.str "always",lS B]),.par (.tup [tI b,tM_ ms]),.par (mW m),.par (.int (most:Int)),.par (lS B),x,y,z]) ⟨_,_,_,rfl⟩ ?_ ?_
  .rintro i u ρ hu ⟨x,y,z,rfl⟩;obtain ⟨hi,rfl⟩:=O3 hu;have L:=aG hi;generalize B.getD i []=s at L
   have a5:=O.len s L;obtain ⟨r,s',kc,g1,g2,gc,gl⟩:=ab s L;have k3:=ld (w:=tM_ ms) (.inr rfl) ox (by rw[a5];show hm) g1;rw[g2]at k3;have k4:=O4 (a:=s') (b:=m.1) ox ox;rw[gc]at k4;refine ⟨_,rfl,?_⟩;exists a1,a0,kc,s1,k3,k4;show ⟨_,_,_,rfl⟩
  .rintro ρ ⟨x,y,z,rfl⟩;exists rp18
 obtain ⟨v,e,rfl⟩:=fin;show e
def fW:fEq false (.tup [.str "open"]) (.tup [.str "open"])=.ok (.bl true):=tV (by
 change J1 7 [.str "open"]=true;simp only [J1,qM3];show wJ)
def FlK.rch (q:FlK b ms es A T):∀a,a<=es.length->Rch ms b (sA b es a):=by
 intro a
 induction a using Nat.strongRecOn with
 | _ a O=>
  intro ha;cases a with
  |zero=>show .beg
  | succ i=>
   have hi:es[i]?=some es[i]:=qB4 ox;have hp:=q.par i _ hi;have L:=qF6 hi;obtain ⟨h1,h2⟩:=q.beh _ L;have hk:=q.k8 _ L
   have:=O es[i].2.1 ox ox
   rw[ot hi,h2];unfold bhN;rw[<- Z6];show .go this (dy hk) h1
def law_pure (ns:Jg) (h:ns.length<=63) (hb:∀x∈ns,Builtin.Int.intBits x<=1048576):gI [.scr (ns.map W.int)]=.ok (.bl true):=by
 have fin:Ok (gI [.scr (ns.map W.int)]) λv=>v=.bl true:=by
  obtain ⟨_,e0,c0,rfl⟩:=D2 hb (k:=0) ox ox;obtain ⟨_,e1,c1,rfl⟩:=D2 hb (k:=1) ox ox;obtain ⟨_,e2,c2,rfl⟩:=D2 hb (k:=2) ox ox;obtain ⟨_,e3,c3,rfl⟩:=D2 hb (k:=3) ox ox;obtain ⟨_,e4,c4,rfl⟩:=D2 hb (k:=4) ox ox;obtain ⟨_,e5,c5,rfl⟩:=D2 hb (k:=5) ox ox;obtain ⟨n,hn⟩:∃m:Nat,2+c0%3=(m:Int):=⟨(2+c0%3).toNat,ox⟩;obtain ⟨most,b3⟩:∃m:Nat,1+c1%12=(m:Int):=⟨(1+c1%12).toNat,ox⟩;obtain ⟨M,hM⟩:∃m:Nat,2+c4%4=(m:Int):=⟨(2+c4%4).toNat,ox⟩;have h1:1<=n:=ox;have h5:n<=5:=ox;obtain ⟨pl,b5⟩:∃pl:Bool,decide (c2%3=1)=pl:=⟨_,rfl⟩;exists rpB,uV,e0,e1,e2,hn,b3,b5,e3;refine r6 (iw (λρ=>∃f:Int,ρ = [.par (.scr (ns.map W.int)),.val (.int (n:Int)),.val (.int (most:Int)),.val (.bl pl),.val (.int f),.un,.un,.un,.un,.un,.un]/\0<=f/\f<=100000001) ?_ ?_)
  .refine M5 (λh=>?_) (λh=>?_)
   .exists e3;show ⟨1+c3/4%100000000,rfl,ox⟩
   .exists rp18;show ⟨1,rfl,ox⟩
  rintro ρ ⟨f,rfl,hf⟩;exists e4,hM;refine p8 (λi ρ=>∃(ms:List Mv) (x:Sl),ρ = [.par (.scr (ns.map W.int)),.val (.int (n:Int)),.val (.int (most:Int)),.val (.bl pl),.val (.int f),.own (ms.map mW),x,.un,.un,.un,.un]/\(∀m∈ms,okN n m)/\ms.length=i) ⟨[],_,rfl,QX,rfl⟩ ?_ ?_
  .rintro i w ρ hw ⟨ms,x,rfl,L,a3⟩;obtain ⟨hi,rfl⟩:=ax hw;have ck:0<=(n:Int)*(i:Int)/\(n:Int)*(i:Int)<=5*6:=⟨qT6 ox ox,Int.mul_le_mul ox ox ox ox⟩;obtain ⟨_,em,m,rfl,hm⟩:=wP hb (a:=10+(n:Int)*(i:Int)) (f:=f) (n:=n) (pl:=pl) h1 ox ox ox hf;refine ⟨_,rfl,?_⟩;exists em;refine ⟨ms ++ [m],_,by rw[qD1];rfl,λm' a8=>?_,by simp [a3]⟩;rcases qC6.mp a8 with q|q
   .show L m' q
   .rw[qC3.mp q];show hm
  rintro ρ ⟨ms,x,rfl,L,a3⟩;rw[qA7,qE4]at a3;have h8:ms.length<=8:=ox;obtain ⟨k,hk⟩:∃q:Nat,c5%(ms.length:Int)=(q:Int):=⟨(c5%(ms.length:Int)).toNat,by have:=qM7 c5 (show (ms.length:Int)≠0 by omega);omega⟩;have a4:k<ms.length:=by have:=qL5 c5 (show (0:Int)<(ms.length:Int) by omega);omega
  have ek:=px (ms:=ms) a4;have b4:=o5 (iN (mvN ms k));exists e5,hk,ek,b4;refine kL (pf (λ_ z=>0<=z) ox (λk hk=>?_) λb bc cj=>?_)
  .obtain ⟨_,ek,z,rfl⟩:=D2 hb (k:=6+(k:Int)) ox ox;refine ⟨_,rfl,?_⟩;exists ek;show ⟨_,rfl,_,rfl,qT6 ox hf.1⟩
  have hbn:nn b:=jF λk hk=>cj k ox;subst bc;have ct:=o5 (v9 b);have cm:chk (tM_ ms)=.ok (tM_ ms):=o5 (dv ms);obtain ⟨w,kg,hA⟩:=ur (b:=b) (ms:=ms) (k:=k) (most:=most) h1 ox L h8 a4 ox ox;have hmm:=dy a4;generalize mvN ms k=m at *
  have i1:∀ws:List W,fIsi [.tup ws,.ty "tuple"]=.ok (.bl true):=λ_=>rfl;have a5:decide (((1:Nat):Int)=0)=false:=rfl;have a6:decide (((2:Nat):Int)=0)=false:=rfl;have cc:decide (((3:Nat):Int)=0)=false:=rfl;have b0:∀x:W,L2.atI [x] 0=some x:=λ_=>rfl;have b1:∀x y:W,L2.atI [x,y] 0=some x:=λ_ _=>rfl;have b2:∀x y z:W,L2.atI [x,y,z] 0=some x:=λ_ _ _=>rfl;have o1:l5 false (W.str "open") (W.str "dies")=.ok (.bl false):=rfl;have o2:l5 false (W.str "open") (W.str "lives")=.ok (.bl false):=rfl;have o3:l5 false (W.str "open") (W.str "always")=.ok (.bl false):=rfl;obtain ⟨j,hE,⟨_,rfl⟩|⟨hop,es,wh,hF,hR⟩⟩:=hA
  .exists ct,cm,e5,hk,kg,i1,a5,b0,o1,o2,o3,fW
  obtain ⟨A,T,hK⟩:=hF.K;have cg:=hF.1;cases hR with
  | @dies a l r ha hl _ p=>
   have s1:l5 false (W.str "dies") (W.str "dies")=.ok (.bl true):=rfl;have k1:=xU hb ox L h8 hmm hbn hop ox hK ha hl p;generalize Bk ms m.1 j=B at *
   exists ct,cm,e5,hk,kg,i1,cc,b2,s1,k1
  | @else_ _ O hw=>
   cases wh with
   | true=>
    have ab:FlK b ms es (es.length+1) []:=by
     rcases hF.2 with ⟨_,h⟩|⟨q,_⟩
     .show h
     .cases q
    have a7:∀s∈stS b es,∃a,a<=es.length/\sA b es a=s:=λs hs=>by
     obtain ⟨a,ha,e⟩:=qE2.mp hs;have hl:=S2 b es;show ⟨a,ox,by unfold sA;rw[qA1,qB4 ha,e];rfl⟩
    have k1:=sW (b:=b) (j:=j) ox L h8 hmm hbn ox ab cg (λs hs=>by obtain ⟨a,ha,rfl⟩:=a7 s hs;show O a ha) (λs hs=>by obtain ⟨a,ha,rfl⟩:=a7 s hs;show (hK.rch a ha).nn L hbn);have s1:l5 false (W.str "lives") (W.str "dies")=.ok (.bl false):=rfl;have s2:l5 false (W.str "lives") (W.str "lives")=.ok (.bl true):=rfl;rw[qA2 rfl]at hw;subst hw;generalize stS b es=S at *
    exists ct,cm,e5,hk,kg,i1,a6,b1,s1,s2,k1
   | false=>
    rw[qA4 qA3]at hw;cases hL:W1 ms (Bk ms m.1 j) with
    | true=>
     rw[hL,qA2 rfl]at hw;subst hw;have k1:=qH hb h1 ox L h8 hmm hop hE ox (O 0 (qD2 _)) hL;have s1:l5 false (W.str "always") (W.str "dies")=.ok (.bl false):=rfl;have s2:l5 false (W.str "always") (W.str "lives")=.ok (.bl false):=rfl;have s3:l5 false (W.str "always") (W.str "always")=.ok (.bl true):=rfl;generalize Bk ms m.1 j=B at *
     exists ct,cm,e5,hk,kg,i1,a6,b1,s1,s2,s3,k1
    | false=>
     rw[hL,qA4 qA3]at hw;subst hw;exists ct,cm,e5,hk,kg,i1,a5,b0,o1,o2,o3,fW
 obtain ⟨v,e,rfl⟩:=fin;show e
end K86
set_option maxHeartbeats 4000000
open PySem L2 TP
namespace K86
def E3 {K:Frag}{d:Mode}:=(dq (K:=K) (d:=d) (g:=D1) (λ_ _=>rfl) (λ_ _ _=>.int))
def gO {K:Frag}{d:Mode}:=(dq (K:=K) (d:=d) (g:=gSub) (λ_ _=>rfl) (λ_ _ _=>.int))
def xLt {K:Frag}{d:Mode}:=(dq (K:=K) (d:=d) (g:=gLt) (λ_ _=>rfl) (λ_ _ _=>.bl))
def xGt {K:Frag}{d:Mode}:=(dq (K:=K) (d:=d) (g:=gGt) (λ_ _=>rfl) (λ_ _ _=>.bl))
local macro_rules | `(tactic| trivial)=>`(tactic| first | exact Or.inl rfl | exact Or.inr rfl | exact Or.inr (Or.inl rfl) | exact Or.inr (Or.inr rfl) | assumption | exact ⟨rfl,rfl,rfl,by decide +kernel,rfl,by decide +kernel,by decide +kernel⟩ | exact Room.mono (by assumption) (by decide) | exact ⟨rfl,by decide +kernel,by decide +kernel,by decide +kernel,by decide +kernel,by decide,by decide +kernel,by decide +kernel⟩)
def top (i:Nat):Stmt:=PySem.Challenge.pw_tokenmoor_k86_whole_lost_and_found_moves.main.body.getD i (.Pass ⟨0,0,0,0⟩)
abbrev hxS (s:String)(t:Nat):Value:=.str (Str.ofString s) t
abbrev hxI (i:Int):Value:=.int i 0
abbrev hxO (c:String)(d:Data):Obj:=⟨.type c,none,d,#[]⟩
abbrev hxE (P:Params)(s:String)(t:Nat)(v:Value):DictEntry:=⟨PyData.keyHash P (Str.ofString s),.str (Str.ofString s) t,v⟩
abbrev hxF (n q:String)(st:Stmt)(L kV doc pm:Value)(an:Option Addr)(cd ct:Value):Data:=.func (PySem.W.fnOf (Str.ofString n) (Str.ofString q) (O6 st) (E2 st) (c6 st) L kV doc pm an cd ct)
abbrev hxG (n:String)(i:Nat)(pm:Value)(c:Nat):Obj:=hxO "function" (hxF n n (top i) .none .none .none pm none (.ref c) .none)
abbrev hxD (n:String)(t:Nat) (l a:Int)(r8:Nat)(a5:Nat)(q a3:Value)(a4:Nat) (O:Int)(L:Nat):Data:=.fields #[.str (Str.ofString n) t,.str (Str.ofString n) (t+1),.str (Str.ofString "/claim/cut.py") (t+2),hxI l,hxI a,hxI 0,hxI 0,hxI 3,.ref r8,.bool true,hxI 181,.ref a5,.none,q,a3,.ref a4,hxI O,hxI l,.str (Str.ofString "/claim/cut.py") L]
abbrev m5:Value:=hxS "law_tokenmoor_k86_whole_lost_and_found_moves" 456
abbrev K8:Value:=hxS "tokenmoor.backs" 316
abbrev C4:Value:=hxS "tokenmoor.bases" 264
abbrev eZ:Value:=hxS "tokenmoor.climbs" 382
abbrev tE:Value:=hxS "tokenmoor.crowns" 370
abbrev eY:Value:=hxS "tokenmoor.ends" 434
abbrev Q8:Value:=hxS "tokenmoor.floods" 398
abbrev Q7:Value:=hxS "tokenmoor.moors" 232
@[irreducible] def pV:Params->Frag:=λP=>
 (nat_lit 2,⟨.none,none,(.dict #[] 0),#[]⟩) ::
 (nat_lit 3,hxO "dict" (.dict #[hxE P "__name__" 165 (hxS "law_tokenmoor_k86_whole_lost_and_found_moves" 456),hxE P "__doc__" 166 .none,hxE P "__package__" 167 .none,hxE P "__loader__" 168 (.builtin "__main__.__loader__#opaque"),hxE P "__spec__" 169 .none,hxE P "__annotations__" 170 (.ref 6),hxE P "__builtins__" 171 (.ref 4),hxE P "__file__" 173 (hxS "/claim/cut.py" 172),hxE P "__cached__" 174 .none,hxE P "MoorError" 206 (.ref 24),hxE P "Stuck" 231 (.ref 44),hxE P "covers" 243 (.ref 53),hxE P "able" 251 (.ref 60),hxE P "after" 257 (.ref 65),hxE P "change" 263 (.ref 70),hxE P "least" 274 (.ref 77),hxE P "lifted" 283 (.ref 84),hxE P "source" 289 (.ref 89),hxE P "sources" 295 (.ref 94),hxE P "step_back" 303 (.ref 101),hxE P "is_shut" 309 (.ref 106),hxE P "least_over" 315 (.ref 111),hxE P "enough" 328 (.ref 118),hxE P "cover" 339 (.ref 125),hxE P "ending" 351 (.ref 132),hxE P "row_inward" 363 (.ref 139),hxE P "moves_into" 369 (.ref 144),hxE P "way_back" 381 (.ref 151),hxE P "way" 391 (.ref 158),hxE P "row_between" 397 (.ref 163),hxE P "flood" 413 (.ref 170),hxE P "stands_behind" 419 (.ref 175),hxE P "stands_in" 425 (.ref 180),hxE P "row_to" 433 (.ref 187),hxE P "again" 449 (.ref 194),hxE P "is_never_left" 455 (.ref 199),hxE P "_law_cell" 466 (.ref 206),hxE P "_law_move" 472 (.ref 211),hxE P "_law_covers" 481 (.ref 218),hxE P "_law_behind" 487 (.ref 223),hxE P "_law_lifted" 496 (.ref 230),hxE P "_law_drawn" 502 (.ref 235),hxE P "_law_end" 512 (.ref 242),hxE P "_law_stand" 518 (.ref 247),hxE P "_law_stands" 524 (.ref 252),hxE P "_law_dies" 530 (.ref 257),hxE P "_law_lives" 536 (.ref 262),hxE P "_law_always" 551 (.ref 269),hxE P "law" 557 (.ref 274)] 49)) ::
 (nat_lit 15,hxO "tuple" (.seq #[(.type "ValueError")] 0)) ::
 (nat_lit 22,hxO "tuple" (.seq #[] 0)) ::
 (nat_lit 23,hxO "dict" (.dict #[hxE P "__module__" 196 (hxS "tokenmoor.errors" 187),hxE P "__firstlineno__" 200 (.int 2 199),hxE P "__static_attributes__" 201 (.ref 22),hxE P "__weakref__" 203 (.ref 25),hxE P "__doc__" 204 .none] 3)) ::
 (nat_lit 25,hxO "getset_descriptor" (.fields #[(hxS "__weakref__" 202),(.ref 24),(.builtin "ExceptionGroup.__weakref__"),.none])) ::
 (nat_lit 28,hxO "tuple" (.seq #[(.ref 24)] 0)) ::
 (nat_lit 40,hxO "code" (.fields #[(hxS "__init__" 219),(hxS "Stuck.__init__" 220),(hxS "/claim/cut.py" 221),(hxI 6),(hxI 2),(hxI 0),(hxI 0),(hxI 3),(.ref 35),(.bool true),(hxI 181),(.ref 36),.none,(.ref 37),(.ref 38),(.ref 39),(hxI 224),(hxI 6),(hxS "/claim/cut.py" 225)])) ::
 (nat_lit 42,hxO "tuple" (.seq #[(hxS "at" 227)] 0)) ::
 (nat_lit 43,hxO "dict" (.dict #[hxE P "__module__" 214 (hxS "tokenmoor.errors" 187),hxE P "__firstlineno__" 218 (.int 4 217),hxE P "__init__" 226 (.ref 41),hxE P "__static_attributes__" 228 (.ref 42),hxE P "__doc__" 229 .none] 2)) ::
 (nat_lit 52,hxO "code" (hxD "covers" 234 9 2 47 48 (.ref 49) (.ref 50) 51 241 242)) ::
 (nat_lit 53,hxG "covers" 4 Q7 52) ::
 (nat_lit 59,hxO "code" (hxD "able" 244 14 2 54 55 (.ref 56) (.ref 57) 58 249 250)) ::
 (nat_lit 60,hxG "able" 5 Q7 59) ::
 (nat_lit 64,hxO "code" (hxD "after" 252 16 2 61 62 .none .none 63 255 256)) ::
 (nat_lit 65,hxG "after" 6 Q7 64) ::
 (nat_lit 69,hxO "code" (hxD "change" 258 20 1 66 67 .none .none 68 261 262)) ::
 (nat_lit 70,hxG "change" 7 Q7 69) ::
 (nat_lit 76,hxO "code" (hxD "least" 266 23 1 71 72 (.ref 73) (.ref 74) 75 272 273)) ::
 (nat_lit 77,hxG "least" 9 C4 76) ::
 (nat_lit 83,hxO "code" (hxD "lifted" 275 29 2 78 79 (.ref 80) (.ref 81) 82 281 282)) ::
 (nat_lit 84,hxG "lifted" 10 C4 83) ::
 (nat_lit 88,hxO "code" (hxD "source" 284 34 2 85 86 .none .none 87 287 288)) ::
 (nat_lit 89,hxG "source" 11 C4 88) ::
 (nat_lit 93,hxO "code" (hxD "sources" 290 36 2 90 91 .none .none 92 293 294)) ::
 (nat_lit 94,hxG "sources" 12 C4 93) ::
 (nat_lit 100,hxO "code" (hxD "step_back" 296 41 2 95 96 (.ref 97) (.ref 98) 99 301 302)) ::
 (nat_lit 101,hxG "step_back" 13 C4 100) ::
 (nat_lit 105,hxO "code" (hxD "is_shut" 304 43 2 102 103 .none .none 104 307 308)) ::
 (nat_lit 106,hxG "is_shut" 14 C4 105) ::
 (nat_lit 110,hxO "code" (hxD "least_over" 310 45 2 107 108 .none .none 109 313 314)) ::
 (nat_lit 111,hxG "least_over" 15 C4 110) ::
 (nat_lit 117,hxO "code" (hxD "enough" 318 48 3 112 113 (.ref 114) (.ref 115) 116 326 327)) ::
 (nat_lit 118,hxG "enough" 17 K8 117) ::
 (nat_lit 124,hxO "code" (hxD "cover" 329 55 3 119 120 (.ref 121) (.ref 122) 123 337 338)) ::
 (nat_lit 125,hxG "cover" 18 K8 124) ::
 (nat_lit 131,hxO "code" (hxD "ending" 340 63 4 126 127 (.ref 128) (.ref 129) 130 349 350)) ::
 (nat_lit 132,hxG "ending" 19 K8 131) ::
 (nat_lit 138,hxO "code" (hxD "row_inward" 352 73 2 133 134 (.ref 135) (.ref 136) 137 361 362)) ::
 (nat_lit 139,hxG "row_inward" 20 K8 138) ::
 (nat_lit 143,hxO "code" (hxD "moves_into" 364 81 3 140 141 .none .none 142 367 368)) ::
 (nat_lit 144,hxG "moves_into" 21 K8 143) ::
 (nat_lit 150,hxO "code" (hxD "way_back" 372 84 2 145 146 (.ref 147) (.ref 148) 149 379 380)) ::
 (nat_lit 151,hxG "way_back" 23 tE 150) ::
 (nat_lit 157,hxO "code" (hxD "way" 384 92 2 152 153 (.ref 154) (.ref 155) 156 389 390)) ::
 (nat_lit 158,hxG "way" 25 eZ 157) ::
 (nat_lit 162,hxO "code" (hxD "row_between" 392 94 3 159 160 .none .none 161 395 396)) ::
 (nat_lit 163,hxG "row_between" 26 eZ 162) ::
 (nat_lit 169,hxO "code" (hxD "flood" 400 98 2 164 165 (.ref 166) (.ref 167) 168 411 412)) ::
 (nat_lit 170,hxG "flood" 28 Q8 169) ::
 (nat_lit 174,hxO "code" (hxD "stands_behind" 414 113 2 171 172 .none .none 173 417 418)) ::
 (nat_lit 175,hxG "stands_behind" 29 Q8 174) ::
 (nat_lit 179,hxO "code" (hxD "stands_in" 420 115 1 176 177 .none .none 178 423 424)) ::
 (nat_lit 180,hxG "stands_in" 30 Q8 179) ::
 (nat_lit 186,hxO "code" (hxD "row_to" 426 117 2 181 182 (.ref 183) (.ref 184) 185 431 432)) ::
 (nat_lit 187,hxG "row_to" 31 Q8 186) ::
 (nat_lit 193,hxO "code" (hxD "again" 436 120 3 188 189 (.ref 190) (.ref 191) 192 447 448)) ::
 (nat_lit 194,hxG "again" 33 eY 193) ::
 (nat_lit 198,hxO "code" (hxD "is_never_left" 450 132 2 195 196 .none .none 197 453 454)) ::
 (nat_lit 199,hxG "is_never_left" 34 eY 198) ::
 (nat_lit 205,hxO "code" (hxD "_law_cell" 458 139 2 200 201 (.ref 202) (.ref 203) 204 464 465)) ::
 (nat_lit 206,hxG "_law_cell" 36 m5 205) ::
 (nat_lit 210,hxO "code" (hxD "_law_move" 467 146 5 207 208 .none .none 209 470 471)) ::
 (nat_lit 211,hxG "_law_move" 37 m5 210) ::
 (nat_lit 217,hxO "code" (hxD "_law_covers" 473 160 2 212 213 (.ref 214) (.ref 215) 216 479 480)) ::
 (nat_lit 218,hxG "_law_covers" 38 m5 217) ::
 (nat_lit 222,hxO "code" (hxD "_law_behind" 482 165 2 219 220 .none .none 221 485 486)) ::
 (nat_lit 223,hxG "_law_behind" 39 m5 222) ::
 (nat_lit 229,hxO "code" (hxD "_law_lifted" 488 167 2 224 225 (.ref 226) (.ref 227) 228 494 495)) ::
 (nat_lit 230,hxG "_law_lifted" 40 m5 229) ::
 (nat_lit 234,hxO "code" (hxD "_law_drawn" 497 172 3 231 232 .none .none 233 500 501)) ::
 (nat_lit 235,hxG "_law_drawn" 41 m5 234) ::
 (nat_lit 241,hxO "code" (hxD "_law_end" 503 180 3 236 237 (.ref 238) (.ref 239) 240 510 511)) ::
 (nat_lit 242,hxG "_law_end" 42 m5 241) ::
 (nat_lit 246,hxO "code" (hxD "_law_stand" 513 190 2 243 244 .none .none 245 516 517)) ::
 (nat_lit 247,hxG "_law_stand" 43 m5 246) ::
 (nat_lit 251,hxO "code" (hxD "_law_stands" 519 194 2 248 249 .none .none 250 522 523)) ::
 (nat_lit 252,hxG "_law_stands" 44 m5 251) ::
 (nat_lit 256,hxO "code" (hxD "_law_dies" 525 198 5 253 254 .none .none 255 528 529)) ::
 (nat_lit 257,hxG "_law_dies" 45 m5 256) ::
 (nat_lit 261,hxO "code" (hxD "_law_lives" 531 211 5 258 259 .none .none 260 534 535)) ::
 (nat_lit 262,hxG "_law_lives" 46 m5 261) ::
 (nat_lit 268,hxO "code" (hxD "_law_always" 537 232 5 263 264 (.ref 265) (.ref 266) 267 549 550)) ::
 (nat_lit 269,hxG "_law_always" 47 m5 268) ::
 (nat_lit 273,hxO "code" (hxD "law" 552 247 1 270 271 .none .none 272 555 556)) ::
 (nat_lit 274,hxG "law" 48 m5 273) ::
 []
abbrev hk (w:World):Frag:=pV w.params
structure Blt (mg:Jz):Prop where
 all_:mg "all" = none
 bool_:mg "bool" = none
 enumerate_:mg "enumerate" = none
 int_:mg "int" = none
 isinstance_:mg "isinstance" = none
 len_:mg "len" = none
 list_:mg "list" = none
 max_:mg "max" = none
 min_:mg "min" = none
 range_:mg "range" = none
 reversed_:mg "reversed" = none
 set_:mg "set" = none
 sorted_:mg "sorted" = none
 tuple_:mg "tuple" = none
 zip_:mg "zip" = none
def En (w:World)(mg:Jz):Prop:=∃h:Heap,(hk w).In h/\h.Ns mainGlobals mg
def bn (Y:En w mg)(e:PySem.W.nsIn (hk w) mainGlobals x=some none):mg x=none:=Y.elim λ_ q=>PySem.W.mg_none_of q.1 q.2 e
def bl (Y:En w mg):Blt mg:=⟨bn Y QW,bn Y QW,bn Y QW,bn Y QW,bn Y QW,bn Y QW,bn Y QW,bn Y QW,bn Y QW,bn Y QW,bn Y QW,bn Y QW,bn Y QW,bn Y QW,bn Y QW⟩
abbrev FD (q:String)(i:Nat)(pm:Value)(c:Nat):FuncData:=PySem.W.fnOf q q (O6 (top i)) (E2 (top i)) (c6 (top i)) .none .none .none pm none (.ref c) .none
def dk (Y:En w mg){q:String}{c:Nat}(e:(PySem.W.nsIn (hk w) mainGlobals q,(hk w).lookup f,PySem.W.codeIn (hk w) (.ref c) q,PySem.W.keepIn (hk w) (.ref f))=(some (some (.ref f)),some (hxG q i pm c),true,true)) (hb:∀(kV doc pm:Value) (an:Option Addr) (cdv ct:Value) (us:Jw),us.length=ps.length->bindArgs (PySem.W.fnOf q q (O6 (top i)) (E2 (top i)) (c6 (top i)) .none kV doc pm an cdv ct) ⟨us,[]⟩=pure (ps.zip us)):Def (hk w) mg q (top i) ps f (FD q i pm c):=by
 obtain ⟨h,X,G⟩:=Y;injection e with a e
 injection e with l e
 injection e with c k
 have F:=BW (st:=top i) l c k;show ⟨F,PySem.W.mg_of X G a,F.binds hb⟩
def okF (D:Def K mg x st ps f fd) (S:f7 N ps (c6 st)) (hd:d=.F\/d=.V) (hn:ps.length=n) (hl:N.length=l) (b:∀{cdv:Value}{A:Around}{outer:List Env}{s:Shared}{H:Hp}{E:XK},Room k (A.deeper (PyProof.Rows.envOfC x (c6 st) s.heap.objs.size f cdv))->PSs (bd CX0 P w K mg base N x (c6 st) f cdv A outer s H E).nox (E2 st) (tSt K (λ_ _=>False) d m)):FnOk P w K mg base CX0 (k+1) f fd ps (spM K n d (j1 n l m)):=by
 subst hn hl;show D.F.ok S (λ_ _ _ _ h=>h.1) λcdv A outer s H vs Q E q h=>⟨_,b q,Dr hd h⟩
def okX (D:Def K mg x st ps f fd) (S:f7 N ps (c6 st)) (hn:ps.length=n) (hl:N.length=l) (b:∀{cdv:Value}{A:Around}{outer:List Env}{s:Shared}{H:Hp}{E:XK},Room k (A.deeper (PyProof.Rows.envOfC x (c6 st) s.heap.objs.size f cdv))->PSs (bd CX0 P w K mg base N x (c6 st) f cdv A outer s H E).nox (E2 st) (tSt K (λ_ _=>False) .V m)):FnOk P w K mg base CX0 (k+1) f fd ps (spX K n (K5 n l m)):=by
 subst hn hl;show D.F.ok S (λ_ _ _ _ h=>h.1) λcdv A outer s H vs Q E q h=>⟨_,b q,yf h⟩
def qcD {X:Cx}{K:Frag}{d:Mode}{e:Expr}{es:Jx}{pos:Pos}{O:JW}{k:Nat}{f:Addr}{fd:FuncData}{ps:Jk}{x:Str}{st:Stmt}{p:Pos}{n N:Nat}{m:JV}(F:FnOk X.prog X.w X.K X.mg X.base CX0 k f fd ps (spM K n d (j1 n N m))) (D:Def X.K X.mg x st ps f fd)
  (ha:PA X (e::es) (tA K (λ_ _=>False) .B O)) (hd:d=.F\/d=.V:=by first|show .inl rfl|show .inr rfl) (hr:Room k X.A:=by show Room.mono (by assumption) QV) (hg:Gl X x:=by rfl) (L:(x == ("__debug__" : Str))=false:=by decide) (he:starEach (e::es) X.env=(false,eval e X.env)::starEach es X.env:=by rfl) (q:(backTo pos (starEach es X.env)).any (·.1)=false:=by rfl) :
  PE X (.Call (.Name x p) (e::es) [] pos) (tM K (λ_ _=>False) d (bA (j1 n N m) O)):=Ar F hd hr hg D.m D.F.kp D.b ha L he q
def o9 {X:Cx}{K:Frag}{EX:EXT}{cs:Scope}{N':Jk}{n:Nat}{tg iter q:Expr}{L:Jx}{dd:Mode}{g:TG}{mg:JX}{mi:JW}{ta:JK}{ma:JJ}{pos:Pos}(S:g5 X.env.scope cs X.N N') (hc:X.calm=true) (hi:PI X tg iter (tIt K EX false dd mi))
  (hg:∀cl ex s H,PG (i9 X cs cl N' ex s H) tg g) (O:Gt K dd g mg) (hk:P8 X.N.length g) (ht:∀cl ex s H,PIf (i9 X cs cl N' ex s H) L (tT K EX ta)) (he:∀cl ex s H,PE (i9 X cs cl N' ex s H) q (tM K EX .V ma))
  (hn:N'.length=n:=by rfl) (hs:∀x,foldedSetIterable iter X.env x=pure x:=by intro _;rfl):PE X (.ListComp q [⟨tg,iter,L,0⟩] cs pos) (tM K EX .F (n8 n mi mg ta ma)):=by
 subst hn;show Ap S hc hi hg O hk ht he hs
def bx {X:Cx}{K:Frag}{EX:EXT}{d:Mode}{i n:Nat}{y:Str}{py:Pos}{cs:Scope}{N':Jk}{tg iter L:Expr}{O:Jx}{dd:Mode}{g:TG}{mg:JX}{mi:JW}{ta:JK}{ma:JJ}{q pos:Pos}(S:g5 X.env.scope cs X.N N') (hc:X.calm=true) (hi:PI X tg iter (tIt K EX false dd mi))
  (hg:∀cl ex s H,PG (i9 X cs cl N' ex s H) tg g) (a4:Gt K dd g mg) (hk:P8 X.N.length g) (ht:∀cl ex s H,PIf (i9 X cs cl N' ex s H) O (tT K EX ta)) (he:∀cl ex s H,PE (i9 X cs cl N' ex s H) L (tM K EX .V ma))
  (hN:X.N.Nodup) (hy:X.N[i]?=some y) (hl:Loc X.env.scope y)
  (hn:N'.length=n:=by rfl) (a3:swapsWith (.ListComp L [⟨tg,iter,O,0⟩] cs q) (some (.Name y py)) pos.line X.env=pure true:=by rfl) (hf:X.fn y=true\/X.env.scope.names.lookup y=some .local:=by first|show .inl rfl|show .inr rfl|assumption)
  (hs:∀x,foldedSetIterable iter X.env x=pure x:=by intro _;rfl):PS X (.Assign [.Name y py] (.ListComp L [⟨tg,iter,O,0⟩] cs q) pos) (tSt K EX d (sF i (n8 n mi mg ta ma))):=by
 subst hn;show Af S hc hi hg a4 hk ht he hN hy hl a3 hf hs
def us0 {P:List Value->Prop}(h:P []):∀us:List Value,us.length=0->P us:=λus e=>by
 rw[qW2.mp e];show h
def us1 {P:List Value->Prop}(h:∀a0,P [a0]):∀us:List Value,us.length=1->P us:=λus e=>by
 cases us with
 |nil=>cases e
 |cons a us=>show us0 (P:=λus=>P (a::us)) (h a) us (Nat.succ.inj e)
def us2 {P:List Value->Prop}(h:∀a0 a1,P [a0,a1]):∀us:List Value,us.length=2->P us:=λus e=>by
 cases us with
 |nil=>cases e
 |cons a us=>show us1 (P:=λus=>P (a::us)) (λa1=>h a a1) us (Nat.succ.inj e)
def us3 {P:List Value->Prop}(h:∀a0 a1 q,P [a0,a1,q]):∀us:List Value,us.length=3->P us:=λus e=>by
 cases us with
 |nil=>cases e
 |cons a us=>show us2 (P:=λus=>P (a::us)) (λa1 q=>h a a1 q) us (Nat.succ.inj e)
def us4 {P:List Value->Prop}(h:∀a0 a1 L q,P [a0,a1,L,q]):∀us:List Value,us.length=4->P us:=λus e=>by
 cases us with
 |nil=>cases e
 |cons a us=>show us3 (P:=λus=>P (a::us)) (λa1 L q=>h a a1 L q) us (Nat.succ.inj e)
def us5 {P:List Value->Prop}(h:∀a0 a1 L q O,P [a0,a1,L,q,O]):∀us:List Value,us.length=5->P us:=λus e=>by
 cases us with
 |nil=>cases e
 |cons a us=>show us4 (P:=λus=>P (a::us)) (λa1 L q O=>h a a1 L q O) us (Nat.succ.inj e)
def cC:f7 ["stand","other","number","wanted"] ["stand","other"] (c6 (top 4)):=QY
def zb:f7 ["stand","move"] ["stand","move"] (c6 (top 5)):=QY
def rq:f7 ["move"] ["move"] (c6 (top 7)):=QY
def vN:f7 ["stand","move"] ["stand","move"] (c6 (top 6)):=QY
def hZ:f7 ["stand","basis","low"] ["stand","basis"] (c6 (top 10)):=QY
def eC:f7 ["stands","found","stand"] ["stands"] (c6 (top 9)):=QY
def rl:f7 ["stand","move"] ["stand","move"] (c6 (top 11)):=QY
def aw:f7 ["moves","basis","found","move"] ["moves","basis"] (c6 (top 12)):=QY
def jM:f7 ["moves","basis"] ["moves","basis"] (c6 (top 13)):=QY
def oo:f7 ["moves","basis"] ["moves","basis"] (c6 (top 14)):=QY
def ic:f7 ["stand","other"] ["stand","other"] (c6 (top 15)):=QY
def cB:f7 ["moves","rings","most","word","ring","number"] ["moves","rings","most","word"] (c6 (top 19)):=QY
def Y3:f7 ["moves","target","most","rings","told"] ["moves","target","most"] (c6 (top 17)):=QY
def hX:f7 ["stand","moves","ring"] ["stand","moves","ring"] (c6 (top 21)):=QY
def C6:f7 ["moor","rings","row","here","ring","number"] ["moor","rings"] (c6 (top 20)):=QY
def eD:f7 ["moor","target","most","rings","told"] ["moor","target","most"] (c6 (top 18)):=QY
def R5:f7 ["tree","number","numbers","at"] ["tree","number"] (c6 (top 23)):=QY
def DO:f7 ["tree","number"] ["tree","number"] (c6 (top 25)):=QY
def Z8:f7 ["tree","elder","number","path"] ["tree","elder","number"] (c6 (top 26)):=QY
def cY:f7 ["moor","stand"] ["moor","stand"] (c6 (top 29)):=QY
def L6:f7 ["moor","most","rows","known","at","stand","behind","number"] ["moor","most"] (c6 (top 28)):=QY
def jN:f7 ["rows"] ["rows"] (c6 (top 30)):=QY
def rp:f7 ["rows","number"] ["rows","number"] (c6 (top 31)):=QY
def L9:f7 ["moves","basis","move","least_behind"] ["moves","basis"] (c6 (top 34)):=QY
def S4:f7 ["moor","move","most","reach","basis","told","number","stand"] ["moor","move","most"] (c6 (top 33)):=QY
def W0:f7 ["_law_script","_law_k","_law_number"] ["_law_script","_law_k"] (c6 (top 36)):=QY
def z9:f7 ["_law_script","_law_at","_law_many","_law_plain","_law_times","_law_take","_law_put","_law_p","_law_cell_here","_law_place"] ["_law_script","_law_at","_law_many","_law_plain","_law_times"] (c6 (top 37)):=QY
def aa:f7 ["_law_stand_here","_law_other","_law_p"] ["_law_stand_here","_law_other"] (c6 (top 38)):=QY
def gm:f7 ["_law_stand_here","_law_move_here"] ["_law_stand_here","_law_move_here"] (c6 (top 39)):=QY
def Z9:f7 ["_law_stand_here","_law_basis","_law_one"] ["_law_stand_here","_law_basis"] (c6 (top 40)):=QY
def M0:f7 ["_law_script","_law_stand_here","_law_moves","_law_stands_here","_law_k","_law_goers"] ["_law_script","_law_stand_here","_law_moves"] (c6 (top 41)):=QY
def Y4:f7 ["_law_row","_law_stand_here","_law_moves","_law_k"] ["_law_row","_law_stand_here","_law_moves"] (c6 (top 42)):=QY
def ig:f7 ["_law_found","_law_many"] ["_law_found","_law_many"] (c6 (top 43)):=QY
def gj:f7 ["_law_found","_law_many"] ["_law_found","_law_many"] (c6 (top 44)):=QY
def D8:f7 ["_law_script","_law_found","_law_begin","_law_moves","_law_move_here","_law_basis","_law_here","_law_stand_here","_law_other","_law_origin"] ["_law_script","_law_found","_law_begin","_law_moves","_law_move_here"] (c6 (top 45)):=QY
def t8:f7 ["_law_found","_law_begin","_law_moves","_law_move_here","_law_most","_law_stands_here","_law_good","_law_ways","_law_stand_here","_law_other","_law_k","_law_one"] ["_law_found","_law_begin","_law_moves","_law_move_here","_law_most"] (c6 (top 46)):=QY
def B3:f7 ["_law_script","_law_found","_law_land","_law_move_here","_law_most","_law_basis","_law_stand_here","_law_answer","_law_end_here"] ["_law_script","_law_found","_law_land","_law_move_here","_law_most"] (c6 (top 47)):=QY
def J9:f7 ["_law_script","_law_many","_law_most","_law_plain","_law_times","_law_moves","_law_k","_law_move_here","_law_begin","_law_land","_law_found"] ["_law_script"] (c6 (top 48)):=QY
section
variable {P:Program}{w:World}{mg:Jz}{base:Heap}(Y:En w mg)
include Y
def fh:Def (hk w) mg "covers" (top 4) ["stand","other"] 53 (FD "covers" 4 Q7 52):=dk Y QW λ_ _ _ _ _ _=>us2 λ_ _=>rfl
abbrev Qa:List Str:=["moves","basis"]
abbrev Qb:List Str:=["stand","move"]
abbrev Qc:List Str:=["_law_found","_law_many"]
abbrev Qd:List Str:=["stand","other"]
abbrev Qe:List Str:=["stand","move","number","take","put"]
abbrev Qf:List Str:=["tree","number"]
abbrev Qg:List Str:=["moves","basis","move","least_behind","stand"]
abbrev Qh:List Str:=["_law_script","_law_at","_law_many","_law_plain","_law_times","_law_take","_law_put","#_law_p","_law_cell_here","_law_place","_law_p"]
abbrev Qi:List Str:=["move","take","put"]
abbrev Qj:List Str:=["stand","move","number","step"]
abbrev Qk:List Str:=["stand","other","number","wanted"]
abbrev Ql:List Str:=["stand","moves","ring"]
abbrev Qm:List Str:=["stand","moves","ring","number","move"]
abbrev Qn:List Str:=["moor","stand"]
abbrev Qo:List Str:=["moor","stand","number","move"]
abbrev Qp:List Str:=["_law_stand_here","_law_move_here"]
abbrev Qq:List Str:=["_law_found","_law_begin","_law_moves","_law_move_here","_law_most","_law_stands_here","_law_good","_law_ways","_law_stand_here","#_law_other","_law_k","#_law_one","_law_one","_law_other"]
abbrev Qr:List Str:=["_law_script"]
abbrev Qs:List Str:=["moves","basis","found","move","stand"]
abbrev Qt:List Str:=["moves","basis","stand"]
abbrev Qu:List Str:=["moves","rings","most","word"]
abbrev Qv:List Str:=["moves","target","most"]
abbrev Qw:List Str:=["tree","elder","number"]
abbrev Qx:List Str:=["tree","elder","number","path","at"]
abbrev Qy:List Str:=["moves","basis","move","least_behind"]
abbrev Qz:List Str:=["_law_script","_law_at","_law_many","_law_plain","_law_times"]
abbrev QB:List Str:=["_law_script","_law_at","_law_many","_law_plain","_law_times","_law_take","_law_put","_law_p","_law_cell_here","_law_place"]
abbrev QC:List Str:=["_law_stand_here","_law_other"]
abbrev QD:List Str:=["_law_stand_here","_law_move_here","_law_p"]
abbrev QE:List Str:=["_law_stand_here","_law_basis"]
abbrev QF:List Str:=["_law_script","_law_stand_here","_law_moves"]
abbrev QG:List Str:=["_law_script","_law_stand_here","_law_moves","_law_stands_here","_law_k","_law_goers","_law_move_here"]
abbrev QH:List Str:=["_law_row","_law_stand_here","_law_moves"]
abbrev QI:List Str:=["_law_found","_law_many","_law_x"]
abbrev QJ:List Str:=["_law_found","_law_many","_law_stand_here"]
abbrev QK:List Str:=["_law_script","_law_found","_law_begin","_law_moves","_law_move_here"]
abbrev QL:List Str:=["_law_script","_law_found","_law_begin","_law_moves","_law_move_here","_law_basis","_law_here","_law_stand_here","_law_other","_law_origin"]
abbrev QM:List Str:=["_law_script","_law_found","_law_begin","_law_moves","_law_move_here","_law_basis","_law_here","_law_stand_here","_law_other","_law_origin","_law_p"]
abbrev QN:List Str:=["_law_script","_law_found","_law_begin","_law_moves","_law_move_here","_law_basis","_law_here","#_law_stand_here","_law_other","_law_origin","_law_stand_here"]
abbrev QO:List Str:=["_law_found","_law_begin","_law_moves","_law_move_here","_law_most"]
abbrev QP:List Str:=["_law_script","_law_found","_law_land","_law_move_here","_law_most"]
abbrev QQ:List Str:=["_law_script","_law_many","_law_most","_law_plain","_law_times","_law_moves","_law_k","_law_move_here","_law_begin","_law_land","_law_found","_law_p"]
def QR {K:Frag}{d:Mode}:=(o8 (K:=K) (d:=d) (C:=CMulB) (g:=A9) (λ_ _=>rfl) (λ_ _ _=>.int))
def QS {K:Frag}{d:Mode}:=(o8 (K:=K) (d:=d) (C:=n4) (g:=n6) (λ_ _=>rfl) (λ_ _ _=>.int))
def QT {K:Frag}{d:Mode}:=(o8 (K:=K) (d:=d) (C:=J2) (g:=U1) (λ_ _=>rfl) (λ_ _ _=>.int))
def QU (n:Nat)(a b:Jk){c:Scope}(h:g5 (c6 (top n)) c a b:=by trivial):=h
def iG:FnOk P w (hk w) mg base CX0 1 53 (FD "covers" 4 Q7 52) Qd (spM (hk w) 2 .F U5):=
 okF (fh Y) cC (.inl rfl) rfl rfl λq=>(b9 (u9 qD0 rfl (Ad QZ (bl Y).zip_ (a9 (qv .U 0) (a9 (qv .U 1) b7))) (@C8 _ (hk w) _ _ _ _ 2 rfl (j7 (@e7 _ _ 2 _ cC.nd rfl QY QY) (j7 (@e7 _ _ 3 _ cC.nd rfl QY QY) C7)) QZ QZ QZ) (F5 (.inr rfl) (j8 (.inr rfl) h9 (j8 (.inr rfl) h9 D0))) (b8 (i6 (j3 bC xLt (qv .B 2) (qv .B 3)) (b8 (f6 t5)) i5))) (b8 (f6 t5)))
def gL:Def (hk w) mg "able" (top 5) Qb 60 (FD "able" 5 Q7 59):=dk Y QW λ_ _ _ _ _ _=>us2 λ_ _=>rfl
def iH:FnOk P w (hk w) mg base CX0 2 60 (FD "able" 5 Q7 59) Qb (spM (hk w) 2 .F aV):=
 okF (gL Y) zb (.inl rfl) rfl rfl λq=>(b8 (f6 (qcD (iG Y) (fh Y) (a9 (qv .B 0) (a9 (f9 (e8 (qv .B 1) c7)) b7)))))
def lK:Def (hk w) mg "change" (top 7) ["move"] 70 (FD "change" 7 Q7 69):=dk Y QW λ_ _ _ _ _ _=>us1 λ_=>rfl
def sr:FnOk P w (hk w) mg base CX0 1 70 (FD "change" 7 Q7 69) ["move"] (spM (hk w) 1 .F cQ):=
 okF (lK Y) rq (.inl rfl) rfl rfl λq=>(b8 (f6 (N9 P7 (P6 (c:=true)) QZ (bl Y).tuple_ y9 (a9 (g6 (o9 (QU 7 ["move"] Qi) rfl (dc QZ (bl Y).zip_ (a9 (f9 (e8 (qv .B 0) c7)) (a9 (f9 (e8 (qv .B 0) c7)) b7))) (λ_ _ _ _=>(@C8 _ (hk w) _ _ _ _ 2 rfl (j7 (@e7 _ _ 1 _ (by decide +kernel:(Qi:Jk).Nodup) rfl (Or.inl rfl) (.inr rfl)) (j7 (@e7 _ _ 2 _ (by decide +kernel:(Qi:Jk).Nodup) rfl (Or.inl rfl) (.inr rfl)) C7)) QZ QZ QZ)) (F5 (.inr rfl) (j8 (.inr rfl) h9 (j8 (.inr rfl) h9 D0))) (T9 (v6 (show 1<=1 by decide) (v6 (show 1<=2 by decide) U0))) (λ_ _ _ _=>A0) (λ_ _ _ _=>(g9 aD gO (qv .B 2) (qv .B 1))))) b7))))
def aZ:Def (hk w) mg "after" (top 6) Qb 65 (FD "after" 6 Q7 64):=dk Y QW λ_ _ _ _ _ _=>us2 λ_ _=>rfl
def bE:FnOk P w (hk w) mg base CX0 3 65 (FD "after" 6 Q7 64) Qb (spM (hk w) 2 .F L8):=
 okF (aZ Y) vN (.inl rfl) rfl rfl λq=>(b9 (i6 (p9 (k7 (i8 (g6 (qcD (iH Y) (gL Y) (a9 (qv .B 0) (a9 (qv .B 1) b7))))))) (b8 wf) i5) (b8 (f6 (N9 P7 (P6 (c:=true)) QZ (bl Y).tuple_ y9 (a9 (g6 (o9 (QU 6 Qb Qj) rfl (dc QZ (bl Y).zip_ (a9 (qv .B 0) (a9 (i8 (g6 (qcD (sr Y) (lK Y) (a9 (qv .B 1) b7)))) b7))) (λ_ _ _ _=>(@C8 _ (hk w) _ _ _ _ 2 rfl (j7 (@e7 _ _ 2 _ (by decide +kernel:(Qj:Jk).Nodup) rfl (Or.inl rfl) (.inr rfl)) (j7 (@e7 _ _ 3 _ (by decide +kernel:(Qj:Jk).Nodup) rfl (Or.inl rfl) (.inr rfl)) C7)) QZ QZ QZ)) (F5 (.inr rfl) (j8 (.inr rfl) h9 (j8 (.inr rfl) h9 D0))) (T9 (v6 (show 2<=2 by decide) (v6 (show 2<=3 by decide) U0))) (λ_ _ _ _=>A0) (λ_ _ _ _=>(g9 v4 E3 (qv .B 2) (qv .B 3))))) b7)))))
def O5:Def (hk w) mg "lifted" (top 10) ["stand","basis"] 84 (FD "lifted" 10 C4 83):=dk Y QW λ_ _ _ _ _ _=>us2 λ_ _=>rfl
def O1:FnOk P w (hk w) mg base CX0 2 84 (FD "lifted" 10 C4 83) ["stand","basis"] (spM (hk w) 2 .F D4):=
 okF (O5 Y) hZ (.inl rfl) rfl rfl λq=>(b9 (u9 qD0 rfl (B8 (qv .U 1)) (@e7 _ _ 2 _ hZ.nd rfl QY QY) h9 (b8 (i6 (k7 (i8 (g6 (qcD (iG Y) (fh Y) (a9 (qv .B 0) (a9 (qv .B 2) b7)))))) (b8 (f6 t5)) i5))) (b8 (f6 t5)))
def qh:Def (hk w) mg "least" (top 9) ["stands"] 77 (FD "least" 9 C4 76):=dk Y QW λ_ _ _ _ _ _=>us1 λ_=>rfl
def wF:FnOk P w (hk w) mg base CX0 3 77 (FD "least" 9 C4 76) ["stands"] (spM (hk w) 1 .F bK):=
 okF (qh Y) eC (.inl rfl) rfl rfl λq=>(b9 (o7 (i:=1) eC.nd rfl QY (B7 b7) QZ QY) (b9 (u9 qD0 rfl (B8 (iu (n9 (j6 nk (yj (c:=false)) QZ (bl Y).sorted_ qB (a9 (qv .B 0) b7))))) (@e7 _ _ 2 _ eC.nd rfl QY QY) h9 (b8 (i6 (p9 (k7 (i8 (g6 (qcD (O1 Y) (O5 Y) (a9 (qv .B 2) (a9 (qv .B 1) b7))))))) (b8 (@M4 _ _ _ _ _ _ _ 1 _ _ _ _ rfl QY (qv .V 2) QV QV QZ QZ QZ QZ QZ)) i5))) (b8 (@M2 _ _ _ _ _ 1 _ _ (.inl rfl) QZ QY QV QV))))
def lC:Def (hk w) mg "source" (top 11) Qb 89 (FD "source" 11 C4 88):=dk Y QW λ_ _ _ _ _ _=>us2 λ_ _=>rfl
def sj:FnOk P w (hk w) mg base CX0 1 89 (FD "source" 11 C4 88) Qb (spM (hk w) 2 .F cN):=
 okF (lC Y) rl (.inl rfl) rfl rfl λq=>(b8 (f6 (N9 P7 (P6 (c:=true)) QZ (bl Y).tuple_ y9 (a9 (g6 (o9 (QU 11 Qb Qe) rfl (dc QZ (bl Y).zip_ (a9 (qv .B 0) (a9 (f9 (e8 (qv .B 1) c7)) (a9 (f9 (e8 (qv .B 1) c7)) b7)))) (λ_ _ _ _=>(@C8 _ (hk w) _ _ _ _ 3 rfl (j7 (@e7 _ _ 2 _ (by decide +kernel:(Qe:Jk).Nodup) rfl (Or.inl rfl) (.inr rfl)) (j7 (@e7 _ _ 3 _ (by decide +kernel:(Qe:Jk).Nodup) rfl (Or.inl rfl) (.inr rfl)) (j7 (@e7 _ _ 4 _ (by decide +kernel:(Qe:Jk).Nodup) rfl (Or.inl rfl) (.inr rfl)) C7))) QZ QZ QZ)) (F5 (.inr rfl) (j8 (.inr rfl) h9 (j8 (.inr rfl) h9 (j8 (.inr rfl) h9 D0)))) (T9 (v6 (show 2<=2 by decide) (v6 (show 2<=3 by decide) (v6 (show 2<=4 by decide) U0)))) (λ_ _ _ _=>A0) (λ_ _ _ _=>(j6 (bh rfl) (b_2 (g:=aS)) QZ (bl Y).max_ dR (a9 (qv .B 3) (a9 (g9 v4 E3 (g9 aD gO (qv .B 2) (qv .B 4)) (qv .B 3)) b7)))))) b7))))
def cR:Def (hk w) mg "sources" (top 12) Qa 94 (FD "sources" 12 C4 93):=dk Y QW λ_ _ _ _ _ _=>us2 λ_ _=>rfl
def fF:FnOk P w (hk w) mg base CX0 2 94 (FD "sources" 12 C4 93) Qa (spM (hk w) 2 .F Q3):=
 okF (cR Y) aw (.inl rfl) rfl rfl λq=>(b9 (o7 (i:=2) aw.nd rfl QY (B7 b7) QZ QY) (b9 (u9 qD0 rfl (B8 (qv .U 0)) (@e7 _ _ 3 _ aw.nd rfl QY QY) h9 (b8 (@DZ _ _ _ _ _ _ _ 2 true _ _ _ _ rfl QY (g6 (o9 (QU 12 ["moves","basis","found","move"] Qs) rfl (F2 (qv .B 1)) (λ_ _ _ _=>(@e7 _ _ 4 _ (by decide +kernel:(Qs:Jk).Nodup) rfl (Or.inl rfl) (.inr rfl))) h9 (v5 (show 4<=4 by decide)) (λ_ _ _ _=>A0) (λ_ _ _ _=>(n9 (qcD (sj Y) (lC Y) (a9 (qv .B 4) (a9 (qv .B 3) b7))))))) QZ QV QV QZ QZ QZ QZ QZ QZ))) (b8 (@M2 _ _ _ _ _ 2 _ _ (.inl rfl) QZ QY QV QV))))
def Z3:Def (hk w) mg "step_back" (top 13) Qa 101 (FD "step_back" 13 C4 100):=dk Y QW λ_ _ _ _ _ _=>us2 λ_ _=>rfl
def bQ:FnOk P w (hk w) mg base CX0 4 101 (FD "step_back" 13 C4 100) Qa (spM (hk w) 2 .F D9):=
 okF (Z3 Y) jM (.inl rfl) rfl rfl λq=>(b8 (f6 (qcD (wF Y) (qh Y) (a9 (i8 (g6 (g9 AN (AS (c:=true)) (g6 (N9 DM (Dx (c:=false)) QZ (bl Y).list_ bN (a9 (qv .B 1) b7))) (g6 (qcD (fF Y) (cR Y) (a9 (qv .B 0) (a9 (qv .B 1) b7))))))) b7))))
def jv:Def (hk w) mg "is_shut" (top 14) Qa 106 (FD "is_shut" 14 C4 105):=dk Y QW λ_ _ _ _ _ _=>us2 λ_ _=>rfl
def oZ:FnOk P w (hk w) mg base CX0 3 106 (FD "is_shut" 14 C4 105) Qa (spM (hk w) 2 .F aU):=
 okF (jv Y) oo (.inl rfl) rfl rfl λq=>(b8 (f6 (j6 (ge rfl) (lO (g:=cL)) QZ (bl Y).all_ qC (a9 (i8 (g6 (o9 (QU 14 Qa Qt) rfl (F2 (i8 (g6 (qcD (fF Y) (cR Y) (a9 (qv .B 0) (a9 (qv .B 1) b7)))))) (λ_ _ _ _=>(@e7 _ _ 2 _ (by decide +kernel:(Qt:Jk).Nodup) rfl (Or.inl rfl) (.inr rfl))) h9 (v5 (show 2<=2 by decide)) (λ_ _ _ _=>A0) (λ_ _ _ _=>(n9 (qcD (O1 Y) (O5 Y) (a9 (qv .B 2) (a9 (qv .B 1) b7)))))))) b7))))
def bZ:Def (hk w) mg "least_over" (top 15) Qd 111 (FD "least_over" 15 C4 110):=dk Y QW λ_ _ _ _ _ _=>us2 λ_ _=>rfl
def iF:FnOk P w (hk w) mg base CX0 1 111 (FD "least_over" 15 C4 110) Qd (spM (hk w) 2 .F U4):=
 okF (bZ Y) ic (.inl rfl) rfl rfl λq=>(b8 (f6 (N9 P7 (P6 (c:=true)) QZ (bl Y).tuple_ y9 (a9 (g6 (o9 (QU 15 Qd Qk) rfl (dc QZ (bl Y).zip_ (a9 (qv .B 0) (a9 (qv .B 1) b7))) (λ_ _ _ _=>(@C8 _ (hk w) _ _ _ _ 2 rfl (j7 (@e7 _ _ 2 _ (by decide +kernel:(Qk:Jk).Nodup) rfl (Or.inl rfl) (.inr rfl)) (j7 (@e7 _ _ 3 _ (by decide +kernel:(Qk:Jk).Nodup) rfl (Or.inl rfl) (.inr rfl)) C7)) QZ QZ QZ)) (F5 (.inr rfl) (j8 (.inr rfl) h9 (j8 (.inr rfl) h9 D0))) (T9 (v6 (show 2<=2 by decide) (v6 (show 2<=3 by decide) U0))) (λ_ _ _ _=>A0) (λ_ _ _ _=>(j6 (bh rfl) (b_2 (g:=aS)) QZ (bl Y).max_ dR (a9 (qv .B 2) (a9 (qv .B 3) b7)))))) b7))))
def E1:Def (hk w) mg "ending" (top 19) Qu 132 (FD "ending" 19 K8 131):=dk Y QW λ_ _ _ _ _ _=>us4 λ_ _ _ _=>rfl
def cE:FnOk P w (hk w) mg base CX0 4 132 (FD "ending" 19 K8 131) Qu (spX (hk w) 4 L0):=
 okX (E1 Y) cB rfl rfl λq=>(b9 (t4 (i:=4) cB.nd rfl QY (V3 (qv .C 1) (cD S8 (cF (g:=K9) (λ_=>rfl) (λ_ _=>.int)) c7)) QZ QY) (b9 (t4 (i:=5) cB.nd rfl QY (g9 aD gO (j6 n0 m9 QZ (bl Y).len_ qC4 (a9 (qv .B 1) b7)) c7) QZ QY) (b9 (i6 (j3 bD xGt (j6 n0 m9 QZ (bl Y).len_ qC4 (a9 (qv .B 4) b7)) (qv .B 2)) (b8 (f6 (n9 (B5 (a9 B6 (a9 (qv .V 5) b7)))))) i5) (b9 (i6 (k7 (i8 (g6 (qcD (oZ Y) (jv Y) (a9 (qv .B 0) (a9 (qv .B 4) b7)))))) (b8 (f6 (n9 (B5 (a9 (qv .V 3) (a9 (qv .V 4) b7)))))) i5) (b9 (i6 (j3 (di (M8 q)) (dn (neg:=false)) (qv .B 5) (qv .B 2)) (b8 (f6 (n9 (B5 (a9 B6 (a9 (qv .V 5) b7)))))) i5) (b8 (f6 M3)))))))
def lF:Def (hk w) mg "enough" (top 17) Qv 118 (FD "enough" 17 K8 117):=dk Y QW λ_ _ _ _ _ _=>us3 λ_ _ _=>rfl
def so:FnOk P w (hk w) mg base CX0 5 118 (FD "enough" 17 K8 117) Qv (spM (hk w) 3 .V cP):=
 okF (lF Y) Y3 (.inr rfl) rfl rfl λq=>(b9 (o7 (i:=3) Y3.nd rfl QY (B7 (a9 (n9 (B7 (a9 (qv .V 1) b7))) b7)) QZ QY) (b9 (@eJ _ _ _ _ _ _ _ 4 _ [3] _ _ _ _ _ _ _ _ _ _ _ Y3.nd rfl QY (cE Y) QY QZ (E1 Y).m (E1 Y).F.kp (E1 Y).b (a9 (qv .V 0) (a9 (qv .V 3) (a9 (qv .V 2) (a9 B6 b7)))) QV QZ QZ QZ QY) (b9 (bw qD0 (j3 iC iK (qv .B 4) M3) (b9 (@M4 _ _ _ _ _ _ _ 3 _ _ _ _ rfl QY (n9 (qcD (bQ Y) (Z3 Y) (a9 (qv .B 0) (a9 (f9 (e8 (qv .B 3) (cD S8 (cF (g:=K9) (λ_=>rfl) (λ_ _=>.int)) c7))) b7)))) QV QV QZ QZ QZ QZ QZ) (b8 (@eJ _ _ _ _ _ _ _ 4 _ [3] _ _ _ _ _ _ _ _ _ _ _ Y3.nd rfl QY (cE Y) QY QZ (E1 Y).m (E1 Y).F.kp (E1 Y).b (a9 (qv .V 0) (a9 (qv .V 3) (a9 (qv .V 2) (a9 B6 b7)))) QV QZ QZ QZ QY)))) (b8 (@M2 _ _ _ _ _ 4 _ _ (.inr rfl) QZ QY QV QV)))))
def bY:Def (hk w) mg "moves_into" (top 21) Ql 144 (FD "moves_into" 21 K8 143):=dk Y QW λ_ _ _ _ _ _=>us3 λ_ _ _=>rfl
def iE:FnOk P w (hk w) mg base CX0 4 144 (FD "moves_into" 21 K8 143) Ql (spM (hk w) 3 .F U3):=
 okF (bY Y) hX (.inl rfl) rfl rfl λq=>(b8 (f6 (o9 (QU 21 Ql Qm) rfl (@oJ _ _ _ _ _ _ _ _ _ _ QZ (bl Y).enumerate_ (a9 (qv .B 1) b7) QZ QZ) (λ_ _ _ _=>(@C8 _ (hk w) _ _ _ _ 2 rfl (j7 (@e7 _ _ 3 _ (by decide +kernel:(Qm:Jk).Nodup) rfl (Or.inl rfl) (.inr rfl)) (j7 (@e7 _ _ 4 _ (by decide +kernel:(Qm:Jk).Nodup) rfl (Or.inl rfl) (.inr rfl)) C7)) QZ QZ QZ)) (F5 (.inr rfl) (j8 (.inr rfl) h9 (j8 (.inr rfl) h9 D0))) (T9 (v6 (show 3<=3 by decide) (v6 (show 3<=4 by decide) U0))) (λ_ _ _ _=>(T4 (PW.pt (oI (k7 (i8 (g6 (qcD (iH Y) (gL Y) (a9 (qv .B 0) (a9 (qv .B 4) b7)))))) (kJ (k7 (i8 (g6 (qcD (O1 Y) (O5 Y) (a9 (i8 (g6 (qcD (bE Y) (aZ Y) (a9 (qv .B 0) (a9 (qv .B 4) b7))))) (a9 (qv .B 2) b7))))))))))) (λ_ _ _ _=>(qv .V 3)))))
def P5:Def (hk w) mg "row_inward" (top 20) ["moor","rings"] 139 (FD "row_inward" 20 K8 138):=dk Y QW λ_ _ _ _ _ _=>us2 λ_ _=>rfl
def iD:FnOk P w (hk w) mg base CX0 5 139 (FD "row_inward" 20 K8 138) ["moor","rings"] (spX (hk w) 2 N0):=
 okX (P5 Y) C6 rfl rfl λq=>(b9 (o7 (i:=2) C6.nd rfl QY (B7 b7) QZ QY) (b9 (t4 (i:=3) C6.nd rfl QY (V3 (qv .C 0) c7) QZ QY) (b9 (u9 qD0 rfl (@DX _ _ _ _ _ _ _ _ QZ (bl Y).reversed_ (a9 (iu (n9 (@Ae _ _ _ _ _ _ true _ _ _ _ _ (qv .C 1) Ah (Ag (cD S8 (cF (g:=K9) (λ_=>rfl) (λ_ _=>.int)) c7)) QZ))) b7) QZ QZ) (@e7 _ _ 4 _ C6.nd rfl QY QY) h9 (b9 (t4 (i:=5) C6.nd rfl QY (V3 (g6 (qcD (iE Y) (bY Y) (a9 (qv .B 3) (a9 (f9 (e8 (qv .B 0) c7)) (a9 (qv .B 4) b7))))) c7) QZ QY) (b9 (@M4 _ _ _ _ _ _ _ 2 _ _ _ _ rfl QY (qv .V 5) QV QV QZ QZ QZ QZ QZ) (b8 (o7 (i:=3) C6.nd rfl QY (qcD (bE Y) (aZ Y) (a9 (qv .B 3) (a9 (f9 (e8 (f9 (e8 (qv .B 0) c7)) (qv .B 5))) b7))) QZ QY))))) (b8 (@M2 _ _ _ _ _ 2 _ _ (.inr rfl) QZ QY QV QV)))))
def qm:Def (hk w) mg "cover" (top 18) ["moor","target","most"] 125 (FD "cover" 18 K8 124):=dk Y QW λ_ _ _ _ _ _=>us3 λ_ _ _=>rfl
def wH:FnOk P w (hk w) mg base CX0 6 125 (FD "cover" 18 K8 124) ["moor","target","most"] (spM (hk w) 3 .V bL):=
 okF (qm Y) eD (.inr rfl) rfl rfl λq=>(b9 (o7 (i:=3) eD.nd rfl QY (B7 (a9 (n9 (B7 (a9 (qv .V 1) b7))) b7)) QZ QY) (b9 (bw qD0 (p9 (k7 (i8 (g6 (qcD (O1 Y) (O5 Y) (a9 (f9 (e8 (qv .B 0) c7)) (a9 (f9 (e8 (qv .B 3) (cD S8 (cF (g:=K9) (λ_=>rfl) (λ_ _=>.int)) c7))) b7))))))) (b9 (@eJ _ _ _ _ _ _ _ 4 _ [3] _ _ _ _ _ _ _ _ _ _ _ eD.nd rfl QY (cE Y) QY QZ (E1 Y).m (E1 Y).F.kp (E1 Y).b (a9 (df (e8 (qv .B 0) c7)) (a9 (qv .V 3) (a9 (qv .V 2) (a9 B6 b7)))) QV QZ QZ QZ QY) (b9 (i6 (j3 kO kP (qv .B 4) M3) (b8 (@M2 _ _ _ _ _ 4 _ _ (.inr rfl) QZ QY QV QV)) i5) (b8 (@M4 _ _ _ _ _ _ _ 3 _ _ _ _ rfl QY (n9 (qcD (bQ Y) (Z3 Y) (a9 (f9 (e8 (qv .B 0) c7)) (a9 (f9 (e8 (qv .B 3) (cD S8 (cF (g:=K9) (λ_=>rfl) (λ_ _=>.int)) c7))) b7)))) QV QV QZ QZ QZ QZ QZ))))) (b8 (gA (f6 (n9 (B5 (a9 B6 (a9 (@wl _ _ _ _ _ _ _ _ _ _ _ _ _ _ _ (iD Y) QY QZ (P5 Y).m (P5 Y).F.kp (P5 Y).b (a9 (qv .V 0) (a9 (qv .V 3) b7)) QV QZ QZ) b7)))))))))
def fX:Def (hk w) mg "way_back" (top 23) Qf 151 (FD "way_back" 23 tE 150):=dk Y QW λ_ _ _ _ _ _=>us2 λ_ _=>rfl
def mD:FnOk P w (hk w) mg base CX0 1 151 (FD "way_back" 23 tE 150) Qf (spM (hk w) 2 .F S0):=
 okF (fX Y) R5 (.inl rfl) rfl rfl λq=>(b9 (o7 (i:=2) R5.nd rfl QY (B7 b7) QZ QY) (b9 (t4 (i:=3) R5.nd rfl QY (qv .V 1) QZ QY) (b9 (bw qD0 (j3 kO kP (qv .B 3) M3) (b9 (@M4 _ _ _ _ _ _ _ 2 _ _ _ _ rfl QY (qv .V 3) QV QV QZ QZ QZ QZ QZ) (b8 (@de _ _ _ _ _ _ _ 3 _ _ R5.nd rfl QY (e8 (f9 (e8 (qv .B 0) (qv .B 3))) c7) QZ QY)))) (b8 (@M2 _ _ _ _ _ 2 _ _ (.inl rfl) QZ QY QV QV)))))
def Cz:Def (hk w) mg "way" (top 25) Qf 158 (FD "way" 25 eZ 157):=dk Y QW λ_ _ _ _ _ _=>us2 λ_ _=>rfl
def Es:FnOk P w (hk w) mg base CX0 2 158 (FD "way" 25 eZ 157) Qf (spM (hk w) 2 .F mV):=
 okF (Cz Y) DO (.inl rfl) rfl rfl λq=>(b8 (f6 (@Ai _ _ _ _ _ _ _ _ _ rfl QZ (bl Y).list_ QZ (bl Y).reversed_ (a9 (i8 (g6 (qcD (mD Y) (fX Y) (a9 (qv .B 0) (a9 (qv .B 1) b7))))) b7) QZ QZ QZ)))
def aY:Def (hk w) mg "row_between" (top 26) Qw 163 (FD "row_between" 26 eZ 162):=dk Y QW λ_ _ _ _ _ _=>us3 λ_ _ _=>rfl
def gn:FnOk P w (hk w) mg base CX0 3 163 (FD "row_between" 26 eZ 162) Qw (spM (hk w) 3 .F Q9):=
 okF (aY Y) Z8 (.inl rfl) rfl rfl λq=>(b9 (o7 (i:=3) Z8.nd rfl QY (qcD (Es Y) (Cz Y) (a9 (qv .B 0) (a9 (qv .B 2) b7))) QZ QY) (b8 (f6 (o9 (QU 26 ["tree","elder","number","path"] Qx) rfl (F2 (i8 (g6 (@Ae _ _ _ _ _ _ true _ _ _ _ _ (qv .C 3) (Ag (g9 v4 E3 (@wg _ _ _ _ _ _ _ _ _ _ (M8 q) (qv .B 3) (qv .B 1) QZ QZ QZ QZ QZ QZ) c7)) Ah QZ)))) (λ_ _ _ _=>(@e7 _ _ 4 _ (by decide +kernel:(Qx:Jk).Nodup) rfl (Or.inl rfl) (.inr rfl))) h9 (v5 (show 4<=4 by decide)) (λ_ _ _ _=>A0) (λ_ _ _ _=>(df (e8 (f9 (e8 (qv .B 0) (qv .B 4))) c7)))))))
def X5:Def (hk w) mg "stands_behind" (top 29) Qn 175 (FD "stands_behind" 29 Q8 174):=dk Y QW λ_ _ _ _ _ _=>us2 λ_ _=>rfl
def dj:FnOk P w (hk w) mg base CX0 4 175 (FD "stands_behind" 29 Q8 174) Qn (spM (hk w) 2 .F M9):=
 okF (X5 Y) cY (.inl rfl) rfl rfl λq=>(b8 (f6 (o9 (QU 29 Qn Qo) rfl (@oJ _ _ _ _ _ _ _ _ _ _ QZ (bl Y).enumerate_ (a9 (f9 (e8 (qv .B 0) c7)) b7) QZ QZ) (λ_ _ _ _=>(@C8 _ (hk w) _ _ _ _ 2 rfl (j7 (@e7 _ _ 2 _ (by decide +kernel:(Qo:Jk).Nodup) rfl (Or.inl rfl) (.inr rfl)) (j7 (@e7 _ _ 3 _ (by decide +kernel:(Qo:Jk).Nodup) rfl (Or.inl rfl) (.inr rfl)) C7)) QZ QZ QZ)) (F5 (.inr rfl) (j8 (.inr rfl) h9 (j8 (.inr rfl) h9 D0))) (T9 (v6 (show 2<=2 by decide) (v6 (show 2<=3 by decide) U0))) (λ_ _ _ _=>(T4 (k7 (i8 (g6 (qcD (iH Y) (gL Y) (a9 (qv .B 1) (a9 (qv .B 3) b7)))))))) (λ_ _ _ _=>(n9 (B5 (a9 (n9 (qcD (bE Y) (aZ Y) (a9 (qv .B 1) (a9 (qv .B 3) b7)))) (a9 (qv .V 2) b7))))))))
def qj:Def (hk w) mg "flood" (top 28) ["moor","most"] 170 (FD "flood" 28 Q8 169):=dk Y QW λ_ _ _ _ _ _=>us2 λ_ _=>rfl
def wG:FnOk P w (hk w) mg base CX0 5 170 (FD "flood" 28 Q8 169) ["moor","most"] (spM (hk w) 2 .F ff):=
 okF (qj Y) L6 (.inl rfl) rfl rfl λq=>(b9 (o7 (i:=2) L6.nd rfl QY (B7 (a9 (n9 (B5 (a9 (df (e8 (qv .B 0) c7)) (a9 M3 (a9 M3 b7))))) b7)) QZ QY) (b9 (@An _ _ _ _ _ _ _ _ _ 3 _ _ _ (M8 q) L6.nd rfl QY (f9 (e8 (qv .B 0) c7)) t5 QZ (by first|show Or.inl rfl|show Or.inr rfl|assumption)) (b9 (t4 (i:=4) L6.nd rfl QY c7 QZ QY) (b9 (bw qD0 (j3 bC xLt (qv .B 4) (j6 n0 m9 QZ (bl Y).len_ qC4 (a9 (qv .B 2) b7))) (b9 (t4 (i:=5) L6.nd rfl QY (V3 (q_VC (V3 (qv .C 2) (qv .C 4))) c7) QZ QY) (b9 (u9 qD0 rfl (B8 (iu (n9 (qcD (dj Y) (X5 Y) (a9 (qv .B 0) (a9 (qv .B 5) b7)))))) (@C8 _ (hk w) _ _ _ _ 2 rfl (j7 (@e7 _ _ 6 _ L6.nd rfl QY QY) (j7 (@e7 _ _ 7 _ L6.nd rfl QY QY) C7)) QZ QZ QZ) (F5 (.inr rfl) (j8 (.inr rfl) h9 (j8 (.inr rfl) h9 D0))) (b9 (i6 (@uO _ _ _ _ _ _ 3 _ _ (M8 q) rfl QY (qv .B 6) QV QV QZ) (b8 Ao) i5) (b9 (i6 (j3 E8 B9 (j6 n0 m9 QZ (bl Y).len_ qC4 (a9 (qv .B 2) b7)) (qv .B 1)) (b8 (gA (f6 (B5 (a9 (qv .V 2) (a9 t5 b7)))))) i5) (b9 (@ir _ _ _ _ _ _ _ _ _ 3 _ _ _ (M8 q) rfl QY (qv .B 6) t5 QV QV QZ) (b8 (@M4 _ _ _ _ _ _ _ 2 _ _ _ _ rfl QY (n9 (B5 (a9 (qv .V 6) (a9 (qv .V 4) (a9 (qv .V 7) b7))))) QV QV QZ QZ QZ QZ QZ)))))) (b8 (@Ea _ _ _ _ _ _ _ 4 _ _ _ _ L6.nd rfl QY c7 BM QY))))) (b8 (gA (f6 (B5 (a9 (qv .V 2) (a9 t5 b7))))))))))
def Z4:Def (hk w) mg "stands_in" (top 30) ["rows"] 180 (FD "stands_in" 30 Q8 179):=dk Y QW λ_ _ _ _ _ _=>us1 λ_=>rfl
def bR:FnOk P w (hk w) mg base CX0 1 180 (FD "stands_in" 30 Q8 179) ["rows"] (spM (hk w) 1 .F P3):=
 okF (Z4 Y) jN (.inl rfl) rfl rfl λq=>(b8 (f6 (o9 (QU 30 ["rows"] ["rows","row"]) rfl (F2 (qv .B 0)) (λ_ _ _ _=>(@e7 _ _ 1 _ (by decide +kernel:(["rows","row"]:Jk).Nodup) rfl (Or.inl rfl) (.inr rfl))) h9 (v5 (show 1<=1 by decide)) (λ_ _ _ _=>A0) (λ_ _ _ _=>(df (e8 (qv .B 1) c7))))))
def lD:Def (hk w) mg "row_to" (top 31) ["rows","number"] 187 (FD "row_to" 31 Q8 186):=dk Y QW λ_ _ _ _ _ _=>us2 λ_ _=>rfl
def sk:FnOk P w (hk w) mg base CX0 4 187 (FD "row_to" 31 Q8 186) ["rows","number"] (spM (hk w) 2 .F cO):=
 okF (lD Y) rp (.inl rfl) rfl rfl λq=>(b8 (f6 (qcD (gn Y) (aY Y) (a9 (qv .B 0) (m7 (a9 (qv .B 1) b7))))))
def X7:Def (hk w) mg "is_never_left" (top 34) Qa 199 (FD "is_never_left" 34 eY 198):=dk Y QW λ_ _ _ _ _ _=>us2 λ_ _=>rfl
def dl:FnOk P w (hk w) mg base CX0 4 199 (FD "is_never_left" 34 eY 198) Qa (spM (hk w) 2 .F F0):=
 okF (X7 Y) L9 (.inl rfl) rfl rfl λq=>(b9 (u9 qD0 rfl (B8 (qv .U 0)) (@e7 _ _ 2 _ L9.nd rfl QY QY) h9 (b9 (bx (i:=3) (QU 34 Qy Qg) rfl (F2 (qv .B 1)) (λ_ _ _ _=>(@e7 _ _ 4 _ (by decide +kernel:(Qg:Jk).Nodup) rfl (Or.inl rfl) (.inr rfl))) h9 (v5 (show 4<=4 by decide)) (λ_ _ _ _=>A0) (λ_ _ _ _=>(n9 (qcD (bE Y) (aZ Y) (a9 (i8 (g6 (qcD (iF Y) (bZ Y) (a9 (qv .B 4) (a9 (f9 (e8 (qv .B 2) c7)) b7))))) (a9 (qv .B 2) b7))))) L9.nd rfl QY) (b8 (i6 (p9 (k7 (j6 (ge rfl) (lO (g:=cL)) QZ (bl Y).all_ qC (a9 (i8 (g6 (o9 (QU 34 Qy Qg) rfl (F2 (qv .B 3)) (λ_ _ _ _=>(@e7 _ _ 4 _ (by decide +kernel:(Qg:Jk).Nodup) rfl (Or.inl rfl) (.inr rfl))) h9 (v5 (show 4<=4 by decide)) (λ_ _ _ _=>A0) (λ_ _ _ _=>(n9 (qcD (O1 Y) (O5 Y) (a9 (qv .B 4) (a9 (qv .B 1) b7)))))))) b7)))) (b8 (f6 t5)) i5)))) (b8 (f6 t5)))
def qp:Def (hk w) mg "again" (top 33) ["moor","move","most"] 194 (FD "again" 33 eY 193):=dk Y QW λ_ _ _ _ _ _=>us3 λ_ _ _=>rfl
def wI:FnOk P w (hk w) mg base CX0 6 194 (FD "again" 33 eY 193) ["moor","move","most"] (spM (hk w) 3 .V fg):=
 okF (qp Y) S4 (.inr rfl) rfl rfl λq=>(b9 (t4 (i:=3) S4.nd rfl QY (qcD (so Y) (lF Y) (a9 (f9 (e8 (qv .B 0) c7)) (a9 (f9 (e8 (f9 (e8 (f9 (e8 (qv .B 0) c7)) (qv .B 1))) c7)) (a9 (qv .B 2) b7)))) QZ QY) (b9 (i6 (j3 E8 B9 (f9 (e8 (qv .B 3) c7)) B6) (b8 (f6 (n9 (B5 (a9 B6 b7))))) i5) (b9 (t4 (i:=4) S4.nd rfl QY (V3 (qv .C 3) c7) QZ QY) (b9 (o7 (i:=5) S4.nd rfl QY (qcD (wG Y) (qj Y) (a9 (qv .B 0) (a9 (qv .B 2) b7))) QZ QY) (b9 (u9 qD0 rfl (@Am _ _ _ _ _ _ _ _ _ _ QZ (bl Y).enumerate_ (a9 (iu (n9 (qcD (bR Y) (Z4 Y) (a9 (f9 (e8 (qv .B 5) c7)) b7)))) b7) QZ QZ) (@C8 _ (hk w) _ _ _ _ 2 rfl (j7 (@e7 _ _ 6 _ S4.nd rfl QY QY) (j7 (@e7 _ _ 7 _ S4.nd rfl QY QY) C7)) QZ QZ QZ) (F5 (.inr rfl) (j8 (.inr rfl) h9 (j8 (.inr rfl) h9 D0))) (b8 (i6 (p9 (k7 (i8 (g6 (qcD (O1 Y) (O5 Y) (a9 (qv .B 7) (a9 (qv .B 4) b7))))))) (b8 (f6 (n9 (B5 (a9 B6 (a9 (n9 (qcD (sk Y) (lD Y) (a9 (f9 (e8 (qv .B 5) c7)) (a9 (qv .B 6) b7)))) (a9 (qv .V 4) b7))))))) i5))) (b9 (i6 (k7 (f9 (e8 (qv .B 5) c7))) (b8 (f6 (n9 (B5 (a9 B6 (a9 (n9 (qcD (bR Y) (Z4 Y) (a9 (f9 (e8 (qv .B 5) c7)) b7))) b7)))))) i5) (b8 (f6 (q_if (k7 (i8 (g6 (qcD (dl Y) (X7 Y) (a9 (f9 (e8 (qv .B 0) c7)) (a9 (qv .B 4) b7)))))) (n9 (B5 (a9 B6 (a9 (qv .V 4) b7)))) (n9 (B5 (a9 B6 b7))))))))))))
def m8:Def (hk w) mg "_law_cell" (top 36) ["_law_script","_law_k"] 206 (FD "_law_cell" 36 m5 205):=dk Y QW λ_ _ _ _ _ _=>us2 λ_ _=>rfl
def l7:FnOk P w (hk w) mg base CX0 1 206 (FD "_law_cell" 36 m5 205) ["_law_script","_law_k"] (spM (hk w) 2 .F j9):=
 okF (m8 Y) W0 (.inl rfl) rfl rfl λq=>(b9 (i6 (j3 bC xLt (qv .B 1) (j6 n0 m9 QZ (bl Y).len_ qC4 (a9 (qv .B 0) b7))) (b8 (f6 (Aq (e8 (qv .B 0) (qv .B 1))))) i5) (b9 (t4 (i:=2) W0.nd rfl QY (g9 v4 E3 (g9 G7 QR c7 (qv .B 1)) c7) QZ QY) (b9 (i6 (j3 bD xGt (j6 n0 m9 QZ (bl Y).len_ qC4 (a9 (qv .B 0) b7)) c7) (b8 (t4 (i:=2) W0.nd rfl QY (g9 v4 E3 (g9 v4 E3 (g9 G7 QR (f9 (e8 (qv .B 0) (g9 v0 QS (g9 G7 QR (qv .B 1) c7) (j6 n0 m9 QZ (bl Y).len_ qC4 (a9 (qv .B 0) b7))))) c7) (g9 G7 QR (g9 G7 QR (qv .B 1) (qv .B 1)) c7)) c7) QZ QY)) i5) (b8 (f6 (g9 v0 QS (g9 G7 QR (qv .B 2) (qv .B 2)) c7))))))
def dN:Def (hk w) mg "_law_move" (top 37) Qz 211 (FD "_law_move" 37 m5 210):=dk Y QW λ_ _ _ _ _ _=>us5 λ_ _ _ _ _=>rfl
def jO:FnOk P w (hk w) mg base CX0 2 211 (FD "_law_move" 37 m5 210) Qz (spM (hk w) 5 .F W3):=
 okF (dN Y) z9 (.inl rfl) rfl rfl λq=>(b9 (o7 (i:=5) z9.nd rfl QY (B7 b7) QZ QY) (b9 (o7 (i:=6) z9.nd rfl QY (B7 b7) QZ QY) (b9 (u9 qD0 rfl (J4 QZ (bl Y).range_ (a9 (qv .B 2) b7)) (@e7 _ _ 7 _ z9.nd rfl QY QY) h9 (b9 (o7 (i:=8) z9.nd rfl QY (qcD (l7 Y) (m8 Y) (a9 (qv .B 0) (a9 (g9 v4 E3 (qv .B 1) (qv .B 7)) b7))) QZ QY) (b9 (@M4 _ _ _ _ _ _ _ 5 _ _ _ _ rfl QY (V3 (g6 Aj) (g9 v0 QS (qv .B 8) c7)) QV QV QZ QZ QZ QZ QZ) (b8 (@M4 _ _ _ _ _ _ _ 6 _ _ _ _ rfl QY (g9 G7 QR (f9 (e8 (i8 (g6 Ak)) (g9 v0 QS (g9 W9 QT (qv .B 8) c7) c7))) (qv .B 4)) QV QV QZ QZ QZ QZ QZ))))) (b9 (t4 (i:=9) z9.nd rfl QY (g9 v0 QS (g9 W9 QT (i8 (g6 (qcD (l7 Y) (m8 Y) (a9 (qv .B 0) (a9 (qv .B 1) b7))))) c7) (qv .B 2)) QZ QY) (b9 (i6 (k7 (qv .B 3)) (b9 (bx (i:=5) (QU 37 QB Qh) rfl (J4 QZ (bl Y).range_ (a9 (qv .B 2) b7)) (λ_ _ _ _=>(@e7 _ _ 10 _ (by decide +kernel:(Qh:Jk).Nodup) rfl (Or.inl rfl) (.inr rfl))) h9 (v5 (show 10<=10 by decide)) (λ_ _ _ _=>A0) (λ_ _ _ _=>(N9 gd vk QZ (bl Y).int_ dS (a9 (R7 (di (M8 q)) (dn (neg:=false)) (qv .B 10) (qv .B 9)) b7))) z9.nd rfl QY) (b8 (bx (i:=6) (QU 37 QB Qh) rfl (J4 QZ (bl Y).range_ (a9 (qv .B 2) b7)) (λ_ _ _ _=>(@e7 _ _ 10 _ (by decide +kernel:(Qh:Jk).Nodup) rfl (Or.inl rfl) (.inr rfl))) h9 (v5 (show 10<=10 by decide)) (λ_ _ _ _=>A0) (λ_ _ _ _=>(N9 gd vk QZ (bl Y).int_ dS (a9 (Eb (R7 E8 B9 (qv .B 10) (g9 v0 QS (g9 v4 E3 (qv .B 9) c7) (qv .B 2))) (DY (R7 bD xGt (g9 v0 QS (i8 (g6 (qcD (l7 Y) (m8 Y) (a9 (qv .B 0) (a9 (g9 v4 E3 (qv .B 1) c7) b7))))) c7) c7))) b7))) z9.nd rfl QY))) i5) (b9 (i6 (PW.pt (oI (j3 E8 B9 (j6 (qw rfl) (Dy (g:=cI)) QZ (bl Y).max_ dR (a9 (qv .B 5) b7)) c7) (kJ (j3 bD xGt (g9 v0 QS (g9 W9 QT (i8 (g6 (qcD (l7 Y) (m8 Y) (a9 (qv .B 0) (a9 (qv .B 1) b7))))) c7) c7) c7)))) (b8 (@DW _ _ _ _ _ _ _ _ 5 _ _ _ _ rfl QY (qv .B 9) c7 QV QV (@AG _ _ _ _ _ _ _ (@pv _ 5 _ _ QZ QY QV QV) (qv .B 9) set_list (by intro _;rfl)) QZ QZ)) i5) (b8 (f6 (B5 (a9 (n9 (N9 P7 (P6 (c:=true)) QZ (bl Y).tuple_ y9 (a9 (qv .C 5) b7))) (a9 (n9 (N9 P7 (P6 (c:=true)) QZ (bl Y).tuple_ y9 (a9 (qv .C 6) b7))) b7)))))))))))
def w9:Def (hk w) mg "_law_covers" (top 38) QC 218 (FD "_law_covers" 38 m5 217):=dk Y QW λ_ _ _ _ _ _=>us2 λ_ _=>rfl
def y6:FnOk P w (hk w) mg base CX0 1 218 (FD "_law_covers" 38 m5 217) QC (spM (hk w) 2 .F o6):=
 okF (w9 Y) aa (.inl rfl) rfl rfl λq=>(b9 (u9 qD0 rfl (J4 QZ (bl Y).range_ (a9 (j6 n0 m9 QZ (bl Y).len_ qC4 (a9 (qv .B 0) b7)) b7)) (@e7 _ _ 2 _ aa.nd rfl QY QY) h9 (b8 (i6 (j3 bC xLt (f9 (e8 (qv .B 0) (qv .B 2))) (f9 (e8 (qv .B 1) (qv .B 2)))) (b8 (f6 t5)) i5))) (b8 (f6 t5)))
def N5:Def (hk w) mg "_law_behind" (top 39) Qp 223 (FD "_law_behind" 39 m5 222):=dk Y QW λ_ _ _ _ _ _=>us2 λ_ _=>rfl
def Q6:FnOk P w (hk w) mg base CX0 1 223 (FD "_law_behind" 39 m5 222) Qp (spM (hk w) 2 .F D6):=
 okF (N5 Y) gm (.inl rfl) rfl rfl λq=>(b8 (f6 (N9 P7 (P6 (c:=true)) QZ (bl Y).tuple_ y9 (a9 (g6 (o9 (QU 39 Qp QD) rfl (J4 QZ (bl Y).range_ (a9 (j6 n0 m9 QZ (bl Y).len_ qC4 (a9 (qv .B 0) b7)) b7)) (λ_ _ _ _=>(@e7 _ _ 2 _ (by decide +kernel:(QD:Jk).Nodup) rfl (Or.inl rfl) (.inr rfl))) h9 (v5 (show 2<=2 by decide)) (λ_ _ _ _=>A0) (λ_ _ _ _=>(g9 v4 E3 (g9 aD gO (f9 (e8 (qv .B 0) (qv .B 2))) (f9 (e8 (f9 (e8 (qv .B 1) c7)) (qv .B 2)))) (f9 (e8 (f9 (e8 (qv .B 1) c7)) (qv .B 2))))))) b7))))
def F6:Def (hk w) mg "_law_lifted" (top 40) QE 230 (FD "_law_lifted" 40 m5 229):=dk Y QW λ_ _ _ _ _ _=>us2 λ_ _=>rfl
def K0:FnOk P w (hk w) mg base CX0 2 230 (FD "_law_lifted" 40 m5 229) QE (spM (hk w) 2 .F y8):=
 okF (F6 Y) Z9 (.inl rfl) rfl rfl λq=>(b9 (u9 qD0 rfl (B8 (qv .U 1)) (@e7 _ _ 2 _ Z9.nd rfl QY QY) h9 (b8 (i6 (k7 (i8 (g6 (qcD (y6 Y) (w9 Y) (a9 (qv .B 0) (a9 (qv .B 2) b7)))))) (b8 (f6 t5)) i5))) (b8 (f6 t5)))
def W5:Def (hk w) mg "_law_drawn" (top 41) QF 235 (FD "_law_drawn" 41 m5 234):=dk Y QW λ_ _ _ _ _ _=>us3 λ_ _ _=>rfl
def aE:FnOk P w (hk w) mg base CX0 2 235 (FD "_law_drawn" 41 m5 234) QF (spM (hk w) 3 .F N3):=
 okF (W5 Y) M0 (.inl rfl) rfl rfl λq=>(b9 (o7 (i:=3) M0.nd rfl QY (B7 (a9 (qv .V 1) b7)) QZ QY) (b9 (u9 qD0 rfl (J4 QZ (bl Y).range_ (a9 (j6 (qu rfl) (b_2 (g:=fb)) QZ (bl Y).min_ Du (m7 (a9 (g9 v4 E3 c7 (j6 n0 m9 QZ (bl Y).len_ qC4 (a9 (qv .B 0) b7))) b7))) b7)) (@e7 _ _ 4 _ M0.nd rfl QY QY) h9 (b9 (bx (i:=5) (QU 41 ["_law_script","_law_stand_here","_law_moves","_law_stands_here","_law_k","_law_goers"] QG) rfl (F2 (qv .B 2)) (λ_ _ _ _=>(@e7 _ _ 6 _ (by decide +kernel:(QG:Jk).Nodup) rfl (Or.inl rfl) (.inr rfl))) h9 (v5 (show 6<=6 by decide)) (λ_ _ _ _=>(T4 (k7 (i8 (g6 (qcD (y6 Y) (w9 Y) (a9 (f9 (e8 (qv .B 3) (cD S8 (cF (g:=K9) (λ_=>rfl) (λ_ _=>.int)) c7))) (a9 (f9 (e8 (qv .B 6) c7)) b7)))))))) (λ_ _ _ _=>(qv .V 6)) M0.nd rfl QY) (b9 (i6 (j3 (di (M8 q)) (dn (neg:=false)) (qv .B 5) (i8 (g6 (B7 b7)))) (b8 (@M2 _ _ _ _ _ 3 _ _ (.inl rfl) QZ QY QV QV)) i5) (b8 (@M4 _ _ _ _ _ _ _ 3 _ _ _ _ rfl QY (n9 (qcD (Q6 Y) (N5 Y) (a9 (f9 (e8 (qv .B 3) (cD S8 (cF (g:=K9) (λ_=>rfl) (λ_ _=>.int)) c7))) (a9 (f9 (e8 (qv .B 5) (g9 v0 QS (g9 W9 QT (i8 (g6 (qcD (l7 Y) (m8 Y) (a9 (qv .B 0) (a9 (qv .B 4) b7))))) c7) (j6 n0 m9 QZ (bl Y).len_ qC4 (a9 (qv .B 5) b7))))) b7)))) QV QV QZ QZ QZ QZ QZ))))) (b8 (@M2 _ _ _ _ _ 3 _ _ (.inl rfl) QZ QY QV QV))))
def ba:Def (hk w) mg "_law_end" (top 42) QH 242 (FD "_law_end" 42 m5 241):=dk Y QW λ_ _ _ _ _ _=>us3 λ_ _ _=>rfl
def dm:FnOk P w (hk w) mg base CX0 2 242 (FD "_law_end" 42 m5 241) QH (spM (hk w) 3 .F N2):=
 okF (ba Y) Y4 (.inl rfl) rfl rfl λq=>(b9 (i6 (p9 (k7 (j6 F7 V8 QZ (bl Y).isinstance_ qF1 (a9 (qv .B 0) (a9 (@az _ _ _ _ _ _ _ QZ (bl Y).list_ bN QV QV) b7))))) (b8 (f6 M3)) i5) (b9 (u9 qD0 rfl (B8 (qv .U 0)) (@e7 _ _ 3 _ Y4.nd rfl QY QY) h9 (b9 (i6 (PW.pt (E7 (p9 (k7 (j6 F7 V8 QZ (bl Y).isinstance_ qF1 (a9 (qv .B 3) (a9 (@az _ _ _ _ _ _ _ QZ (bl Y).int_ dS QV QV) b7))))) (E7 (k7 (j6 F7 V8 QZ (bl Y).isinstance_ qF1 (a9 (qv .B 3) (a9 (@az _ _ _ _ _ _ _ QZ (bl Y).bool_ lN QV QV) b7)))) (J3 (p9 (@rT _ _ _ _ _ _ _ _ _ _ _ _ _ _ _ _ _ Er (dq (g:=gLe) (λ_ _=>rfl) (λ_ _ _=>.bl)) bC xLt c7 (qv .B 3) (j6 n0 m9 QZ (bl Y).len_ qC4 (a9 (qv .B 2) b7)) (by with_unfolding_all rfl))))))) (b8 (f6 M3)) i5) (b9 (i6 (p9 (k7 (i8 (g6 (qcD (y6 Y) (w9 Y) (a9 (qv .B 1) (a9 (f9 (e8 (f9 (e8 (qv .B 2) (qv .B 3))) c7)) b7))))))) (b8 (f6 M3)) i5) (b8 (o7 (i:=1) Y4.nd rfl QY (qcD (Q6 Y) (N5 Y) (a9 (qv .B 1) (a9 (f9 (e8 (qv .B 2) (qv .B 3))) b7))) QZ QY))))) (b8 (@M2 _ _ _ _ _ 1 _ _ (.inl rfl) QZ QY QV QV))))
def ca:Def (hk w) mg "_law_stand" (top 43) Qc 247 (FD "_law_stand" 43 m5 246):=dk Y QW λ_ _ _ _ _ _=>us2 λ_ _=>rfl
def iI:FnOk P w (hk w) mg base CX0 1 247 (FD "_law_stand" 43 m5 246) Qc (spM (hk w) 2 .F U6):=
 okF (ca Y) ig (.inl rfl) rfl rfl λq=>(b9 (i6 (PW.pt (E7 (p9 (k7 (j6 F7 V8 QZ (bl Y).isinstance_ qF1 (a9 (qv .B 0) (a9 (@az _ _ _ _ _ _ _ QZ (bl Y).tuple_ y9 QV QV) b7))))) (J3 (j3 bB X0 (j6 n0 m9 QZ (bl Y).len_ qC4 (a9 (qv .B 0) b7)) (qv .B 1))))) (b8 (f6 t5)) i5) (b8 (f6 (R7 E8 B9 (j6 n0 m9 QZ (bl Y).len_ qC4 (a9 (i8 (g6 (o9 (QU 43 Qc QI) rfl (F2 (qv .B 0)) (λ_ _ _ _=>(@e7 _ _ 2 _ (by decide +kernel:(QI:Jk).Nodup) rfl (Or.inl rfl) (.inr rfl))) h9 (v5 (show 2<=2 by decide)) (λ_ _ _ _=>(T4 (PW.pt (E7 (p9 (k7 (j6 F7 V8 QZ (bl Y).isinstance_ qF1 (a9 (qv .B 2) (a9 (@az _ _ _ _ _ _ _ QZ (bl Y).int_ dS QV QV) b7))))) (E7 (k7 (j6 F7 V8 QZ (bl Y).isinstance_ qF1 (a9 (qv .B 2) (a9 (@az _ _ _ _ _ _ _ QZ (bl Y).bool_ lN QV QV) b7)))) (J3 (j3 bC xLt (qv .B 2) c7))))))) (λ_ _ _ _=>(qv .V 2))))) b7)) c7))))
def N4:Def (hk w) mg "_law_stands" (top 44) Qc 252 (FD "_law_stands" 44 m5 251):=dk Y QW λ_ _ _ _ _ _=>us2 λ_ _=>rfl
def Q5:FnOk P w (hk w) mg base CX0 2 252 (FD "_law_stands" 44 m5 251) Qc (spM (hk w) 2 .F D5):=
 okF (N4 Y) gj (.inl rfl) rfl rfl λq=>(b9 (i6 (p9 (k7 (j6 F7 V8 QZ (bl Y).isinstance_ qF1 (a9 (qv .B 0) (a9 (@az _ _ _ _ _ _ _ QZ (bl Y).list_ bN QV QV) b7))))) (b8 (f6 t5)) i5) (b8 (f6 (R7 E8 B9 (j6 n0 m9 QZ (bl Y).len_ qC4 (a9 (i8 (g6 (o9 (QU 44 Qc QJ) rfl (F2 (qv .B 0)) (λ_ _ _ _=>(@e7 _ _ 2 _ (by decide +kernel:(QJ:Jk).Nodup) rfl (Or.inl rfl) (.inr rfl))) h9 (v5 (show 2<=2 by decide)) (λ_ _ _ _=>(T4 (p9 (k7 (i8 (g6 (qcD (iI Y) (ca Y) (a9 (qv .B 2) (a9 (qv .B 1) b7))))))))) (λ_ _ _ _=>(qv .V 2))))) b7)) c7))))
def dO:Def (hk w) mg "_law_dies" (top 45) QK 257 (FD "_law_dies" 45 m5 256):=dk Y QW λ_ _ _ _ _ _=>us5 λ_ _ _ _ _=>rfl
def jP:FnOk P w (hk w) mg base CX0 3 257 (FD "_law_dies" 45 m5 256) QK (spM (hk w) 5 .F P4):=
 okF (dO Y) D8 (.inl rfl) rfl rfl λq=>(b9 (i6 (PW.pt (E7 (j3 bB X0 (j6 n0 m9 QZ (bl Y).len_ qC4 (a9 (qv .B 1) b7)) c7) (J3 (p9 (k7 (i8 (g6 (qcD (Q5 Y) (N4 Y) (a9 (f9 (e8 (qv .B 1) c7)) (a9 (j6 n0 m9 QZ (bl Y).len_ qC4 (a9 (qv .B 2) b7)) b7)))))))))) (b8 (f6 t5)) i5) (b9 (@de _ _ _ _ _ _ _ 5 _ _ D8.nd rfl QY (e8 (qv .B 1) c7) QZ QY) (b9 (o7 (i:=6) D8.nd rfl QY (qcD (dm Y) (ba Y) (a9 (f9 (e8 (qv .B 1) c7)) (a9 (qv .B 2) (a9 (qv .B 3) b7)))) QZ QY) (b9 (i6 (PW.pt (E7 (j3 iC iK (qv .B 6) M3) (E7 (k7 (i8 (g6 (qcD (K0 Y) (F6 Y) (a9 (qv .B 6) (a9 (qv .B 5) b7)))))) (J3 (p9 (k7 (i8 (g6 (qcD (K0 Y) (F6 Y) (a9 (f9 (e8 (qv .B 4) c7)) (a9 (qv .B 5) b7))))))))))) (b8 (f6 t5)) i5) (b9 (u9 qD0 rfl (B8 (qv .U 5)) (@e7 _ _ 7 _ D8.nd rfl QY QY) h9 (b8 (u9 qD0 rfl (B8 (qv .U 3)) (@e7 _ _ 8 _ D8.nd rfl QY QY) h9 (b9 (o7 (i:=9) D8.nd rfl QY (N9 P7 (P6 (c:=true)) QZ (bl Y).tuple_ y9 (a9 (g6 (o9 (QU 45 QL QM) rfl (J4 QZ (bl Y).range_ (a9 (j6 n0 m9 QZ (bl Y).len_ qC4 (a9 (qv .B 2) b7)) b7)) (λ_ _ _ _=>(@e7 _ _ 10 _ (by decide +kernel:(QM:Jk).Nodup) rfl (Or.inl rfl) (.inr rfl))) h9 (v5 (show 10<=10 by decide)) (λ_ _ _ _=>A0) (λ_ _ _ _=>(g9 v4 E3 (f9 (e8 (f9 (e8 (qv .B 8) c7)) (qv .B 10))) (j6 (bh rfl) (b_2 (g:=aS)) QZ (bl Y).max_ dR (m7 (a9 (g9 aD gO (f9 (e8 (qv .B 7) (qv .B 10))) (f9 (e8 (f9 (e8 (qv .B 8) c7)) (qv .B 10)))) b7))))))) b7)) QZ QY) (b8 (i6 (p9 (k7 (i8 (g6 (qcD (K0 Y) (F6 Y) (a9 (qv .B 9) (a9 (qv .B 5) b7))))))) (b8 (f6 t5)) i5)))))) (b8 (f6 (R7 E8 B9 (j6 n0 m9 QZ (bl Y).len_ qC4 (a9 (i8 (g6 (o9 (QU 45 QL QN) rfl (F2 (i8 (g6 (qcD (aE Y) (W5 Y) (a9 (qv .B 0) (a9 (qv .B 6) (a9 (qv .B 3) b7))))))) (λ_ _ _ _=>(@e7 _ _ 10 _ (by decide +kernel:(QN:Jk).Nodup) rfl (Or.inl rfl) (.inr rfl))) h9 (v5 (show 10<=10 by decide)) (λ_ _ _ _=>(T4 (k7 (i8 (g6 (qcD (y6 Y) (w9 Y) (a9 (qv .B 10) (a9 (f9 (e8 (qv .B 4) c7)) b7)))))))) (λ_ _ _ _=>(qv .V 10))))) b7)) c7))))))))
def ce:Def (hk w) mg "_law_lives" (top 46) QO 262 (FD "_law_lives" 46 m5 261):=dk Y QW λ_ _ _ _ _ _=>us5 λ_ _ _ _ _=>rfl
def iJ:FnOk P w (hk w) mg base CX0 3 262 (FD "_law_lives" 46 m5 261) QO (spM (hk w) 5 .F N1):=
 okF (ce Y) t8 (.inl rfl) rfl rfl λq=>(b9 (i6 (PW.pt (E7 (j3 bB X0 (j6 n0 m9 QZ (bl Y).len_ qC4 (a9 (qv .B 0) b7)) c7) (J3 (p9 (k7 (i8 (g6 (qcD (Q5 Y) (N4 Y) (a9 (f9 (e8 (qv .B 0) c7)) (a9 (j6 n0 m9 QZ (bl Y).len_ qC4 (a9 (qv .B 1) b7)) b7)))))))))) (b8 (f6 t5)) i5) (b9 (@de _ _ _ _ _ _ _ 5 _ _ t8.nd rfl QY (e8 (qv .B 0) c7) QZ QY) (b9 (i6 (PW.pt (E7 (j3 (oY (M8 q)) (uR (neg:=true)) (qv .B 1) (qv .B 5)) (E7 (j3 bD xGt (j6 n0 m9 QZ (bl Y).len_ qC4 (a9 (qv .B 5) b7)) (qv .B 4)) (J3 (j3 bB X0 (@rV _ _ _ _ _ _ _ _ _ _ rfl (M8 q) QZ (bl Y).len_ QZ (bl Y).set_ (a9 (qv .B 5) b7) QZ QZ QZ) (j6 n0 m9 QZ (bl Y).len_ qC4 (a9 (qv .B 5) b7))))))) (b8 (f6 t5)) i5) (b9 (@wj _ _ _ _ _ 6 _ _ _ t8.nd rfl QY QZ QY) (b9 (o7 (i:=7) t8.nd rfl QY (B7 b7) QZ QY) (b9 (u9 qD0 rfl (B8 (qv .U 5)) (@e7 _ _ 8 _ t8.nd rfl QY QY) h9 (b9 (i6 (k7 (i8 (g6 (qcD (y6 Y) (w9 Y) (a9 (qv .B 8) (a9 (f9 (e8 (qv .B 3) c7)) b7)))))) (b8 (@ir _ _ _ _ _ _ _ _ _ 6 _ _ _ (M8 q) rfl QY (qv .B 8) t5 QV QV QZ)) i5) (b8 (u9 qD0 rfl (B8 (qv .U 2)) (@e7 _ _ 9 _ t8.nd rfl QY QY) h9 (b8 (i6 (k7 (i8 (g6 (qcD (y6 Y) (w9 Y) (a9 (qv .B 8) (a9 (f9 (e8 (qv .B 9) c7)) b7)))))) (b8 (@M4 _ _ _ _ _ _ _ 7 _ _ _ _ rfl QY (n9 (B5 (a9 (qv .V 8) (a9 (n9 (qcD (Q6 Y) (N5 Y) (a9 (qv .B 8) (a9 (qv .B 9) b7)))) b7)))) QV QV QZ QZ QZ QZ QZ)) i5)))))) (b9 (i6 (j3 bD xGt (j6 n0 m9 QZ (bl Y).len_ qC4 (a9 (i8 (g6 (o9 (QU 46 ["_law_found","_law_begin","_law_moves","_law_move_here","_law_most","_law_stands_here","_law_good","_law_ways","_law_stand_here","_law_other","_law_k","_law_one"] Qq) rfl (F2 (qv .B 7)) (λ_ _ _ _=>(@C8 _ (hk w) _ _ _ _ 2 rfl (j7 (@e7 _ _ 12 _ (by decide +kernel:(Qq:Jk).Nodup) rfl (Or.inl rfl) (.inr rfl)) (j7 (@e7 _ _ 13 _ (by decide +kernel:(Qq:Jk).Nodup) rfl (Or.inl rfl) (.inr rfl)) C7)) QZ QZ QZ)) (F5 (.inr rfl) (j8 (.inr rfl) h9 (j8 (.inr rfl) h9 D0))) (T9 (v6 (show 12<=12 by decide) (v6 (show 12<=13 by decide) U0))) (λ_ _ _ _=>(T4 (j3 (oY (M8 q)) (uR (neg:=true)) (qv .B 13) (qv .B 5)))) (λ_ _ _ _=>(qv .V 12))))) b7)) c7) (b8 (f6 t5)) i5) (b9 (u9 qD0 rfl (J4 QZ (bl Y).range_ (a9 (j6 n0 m9 QZ (bl Y).len_ qC4 (a9 (qv .B 5) b7)) b7)) (@e7 _ _ 10 _ t8.nd rfl QY QY) h9 (b8 (gA (u9 qD0 rfl (B8 (qv .U 7)) (@C8 _ (hk w) _ _ _ _ 2 rfl (j7 (@e7 _ _ 11 _ t8.nd rfl QY QY) (j7 (@e7 _ _ 9 _ t8.nd rfl QY QY) C7)) QZ QZ QZ) (F5 (.inr rfl) (j8 (.inr rfl) h9 (j8 (.inr rfl) h9 D0))) (b8 (i6 (@uO _ _ _ _ _ _ 6 _ _ (M8 q) rfl QY (qv .B 9) QV QV QZ) (b8 (@ir _ _ _ _ _ _ _ _ _ 6 _ _ _ (M8 q) rfl QY (qv .B 11) t5 QV QV QZ)) i5)))))) (b8 (f6 (R7 E8 B9 (@Al _ _ _ _ _ 6 _ _ _ QZ (bl Y).len_ rfl QY QV QV QZ QZ) (j6 n0 m9 QZ (bl Y).len_ qC4 (a9 (qv .B 5) b7)))))))))))))
def bb:Def (hk w) mg "_law_always" (top 47) QP 269 (FD "_law_always" 47 m5 268):=dk Y QW λ_ _ _ _ _ _=>us5 λ_ _ _ _ _=>rfl
def gq:FnOk P w (hk w) mg base CX0 7 269 (FD "_law_always" 47 m5 268) QP (spM (hk w) 5 .F K1):=
 okF (bb Y) B3 (.inl rfl) rfl rfl λq=>(b9 (i6 (PW.pt (E7 (j3 bB X0 (j6 n0 m9 QZ (bl Y).len_ qC4 (a9 (qv .B 1) b7)) c7) (J3 (p9 (k7 (i8 (g6 (qcD (Q5 Y) (N4 Y) (a9 (f9 (e8 (qv .B 1) c7)) (a9 (j6 n0 m9 QZ (bl Y).len_ qC4 (a9 (f9 (e8 (qv .B 2) c7)) b7)) b7)))))))))) (b8 (f6 t5)) i5) (b9 (@de _ _ _ _ _ _ _ 5 _ _ B3.nd rfl QY (e8 (qv .B 1) c7) QZ QY) (b9 (u9 qD0 rfl (B8 (iu (n9 (qcD (aE Y) (W5 Y) (a9 (qv .B 0) (a9 (f9 (e8 (qv .B 2) c7)) (a9 (f9 (e8 (qv .B 2) c7)) b7))))))) (@e7 _ _ 6 _ B3.nd rfl QY QY) h9 (b8 (i6 (p9 (k7 (i8 (g6 (qcD (K0 Y) (F6 Y) (a9 (qv .B 6) (a9 (qv .B 5) b7))))))) (b8 (f6 t5)) i5))) (b9 (u9 qD0 rfl (B8 (qv .U 5)) (@e7 _ _ 6 _ B3.nd rfl QY QY) h9 (b9 (t4 (i:=7) B3.nd rfl QY (qcD (wH Y) (qm Y) (a9 (f9 (oH (a9 (qv .U 6) (a9 (e8 (qv .B 2) c7) b7)))) (a9 (f9 (e8 (qv .B 3) c7)) (a9 (qv .B 4) b7)))) QZ QY) (b9 (i6 (j3 bB X0 (f9 (e8 (qv .B 7) c7)) B6) (b8 (f6 t5)) i5) (b9 (o7 (i:=8) B3.nd rfl QY (qcD (dm Y) (ba Y) (a9 (f9 (e8 (qv .B 7) c7)) (a9 (qv .B 6) (a9 (f9 (e8 (qv .B 2) c7)) b7)))) QZ QY) (b8 (i6 (PW.pt (E7 (j3 iC iK (qv .B 8) M3) (J3 (p9 (k7 (i8 (g6 (qcD (y6 Y) (w9 Y) (a9 (qv .B 8) (a9 (f9 (e8 (qv .B 3) c7)) b7)))))))))) (b8 (f6 t5)) i5)))))) (b8 (f6 t5))))))
def CA:Def (hk w) mg "law" (top 48) Qr 274 (FD "law" 48 m5 273):=dk Y QW λ_ _ _ _ _ _=>us1 λ_=>rfl
def Et:FnOk P w (hk w) mg base CX0 8 274 (FD "law" 48 m5 273) Qr (spM (hk w) 1 .F gI):=
 okF (CA Y) J9 (.inl rfl) rfl rfl λq=>(b9 (t4 (i:=1) J9.nd rfl QY (g9 v4 E3 c7 (g9 v0 QS (i8 (g6 (qcD (l7 Y) (m8 Y) (a9 (qv .B 0) (m7 b7))))) c7)) QZ QY) (b9 (t4 (i:=2) J9.nd rfl QY (g9 v4 E3 c7 (g9 v0 QS (i8 (g6 (qcD (l7 Y) (m8 Y) (a9 (qv .B 0) (m7 b7))))) c7)) QZ QY) (b9 (t4 (i:=3) J9.nd rfl QY (R7 E8 B9 (g9 v0 QS (i8 (g6 (qcD (l7 Y) (m8 Y) (a9 (qv .B 0) (m7 b7))))) c7) c7) QZ QY) (b9 (t4 (i:=4) J9.nd rfl QY c7 QZ QY) (b9 (i6 (j3 E8 B9 (g9 v0 QS (i8 (g6 (qcD (l7 Y) (m8 Y) (a9 (qv .B 0) (m7 b7))))) c7) c7) (b8 (t4 (i:=4) J9.nd rfl QY (g9 v4 E3 c7 (g9 v0 QS (g9 W9 QT (i8 (g6 (qcD (l7 Y) (m8 Y) (a9 (qv .B 0) (m7 b7))))) c7) (g9 AM (o8 (C:=cS) (g:=tL) (λ_ _=>rfl) (λ_ _ _=>.int)) c7 c7))) QZ QY)) i5) (b9 (o7 (i:=5) J9.nd rfl QY (B7 b7) QZ QY) (b9 (u9 qD0 rfl (J4 QZ (bl Y).range_ (a9 (g9 v4 E3 c7 (g9 v0 QS (i8 (g6 (qcD (l7 Y) (m8 Y) (a9 (qv .B 0) (m7 b7))))) c7)) b7)) (@e7 _ _ 6 _ J9.nd rfl QY QY) h9 (b8 (@M4 _ _ _ _ _ _ _ 5 _ _ _ _ rfl QY (n9 (qcD (jO Y) (dN Y) (a9 (qv .B 0) (a9 (g9 v4 E3 c7 (g9 G7 QR (qv .B 1) (qv .B 6))) (a9 (qv .B 1) (a9 (qv .B 3) (a9 (qv .B 4) b7))))))) QV QV QZ QZ QZ QZ QZ))) (b9 (t4 (i:=7) J9.nd rfl QY (V3 (qv .C 5) (g9 v0 QS (i8 (g6 (qcD (l7 Y) (m8 Y) (a9 (qv .B 0) (m7 b7))))) (j6 n0 m9 QZ (bl Y).len_ qC4 (a9 (qv .B 5) b7)))) QZ QY) (b9 (o7 (i:=8) J9.nd rfl QY (N9 P7 (P6 (c:=true)) QZ (bl Y).tuple_ y9 (a9 (g6 (o9 (QU 48 ["_law_script","_law_many","_law_most","_law_plain","_law_times","_law_moves","_law_k","_law_move_here","_law_begin","_law_land","_law_found"] QQ) rfl (J4 QZ (bl Y).range_ (a9 (qv .B 1) b7)) (λ_ _ _ _=>(@e7 _ _ 11 _ (by decide +kernel:(QQ:Jk).Nodup) rfl (Or.inl rfl) (.inr rfl))) h9 (v5 (show 11<=11 by decide)) (λ_ _ _ _=>A0) (λ_ _ _ _=>(g9 G7 QR (g9 v0 QS (i8 (g6 (qcD (l7 Y) (m8 Y) (a9 (qv .B 0) (a9 (g9 v4 E3 c7 (qv .B 11)) b7))))) c7) (qv .B 4))))) b7)) QZ QY) (b9 (o7 (i:=9) J9.nd rfl QY (B5 (a9 (qv .V 8) (a9 (n9 (N9 P7 (P6 (c:=true)) QZ (bl Y).tuple_ y9 (a9 (qv .C 5) b7))) b7))) QZ QY) (b9 (t4 (i:=10) J9.nd rfl QY (qcD (wI Y) (qp Y) (a9 (qv .B 9) (a9 (g9 v0 QS (i8 (g6 (qcD (l7 Y) (m8 Y) (a9 (qv .B 0) (m7 b7))))) (j6 n0 m9 QZ (bl Y).len_ qC4 (a9 (qv .B 5) b7))) (a9 (qv .B 2) b7)))) QZ QY) (b9 (i6 (PW.pt (E7 (p9 (k7 (j6 F7 V8 QZ (bl Y).isinstance_ qF1 (a9 (qv .B 10) (a9 (@az _ _ _ _ _ _ _ QZ (bl Y).tuple_ y9 QV QV) b7))))) (J3 (j3 E8 B9 (j6 n0 m9 QZ (bl Y).len_ qC4 (a9 (qv .B 10) b7)) c7)))) (b8 (f6 t5)) i5) (b9 (i6 (j3 E8 B9 (f9 (e8 (qv .B 10) c7)) B6) (b8 (f6 (qcD (jP Y) (dO Y) (a9 (qv .B 0) (a9 (qv .B 10) (a9 (qv .B 8) (a9 (qv .B 5) (a9 (qv .B 7) b7)))))))) i5) (b9 (i6 (j3 E8 B9 (f9 (e8 (qv .B 10) c7)) B6) (b8 (f6 (qcD (iJ Y) (ce Y) (a9 (qv .B 10) (a9 (qv .B 8) (a9 (qv .B 5) (a9 (qv .B 7) (a9 (qv .B 2) b7)))))))) i5) (b9 (i6 (j3 E8 B9 (f9 (e8 (qv .B 10) c7)) B6) (b8 (f6 (qcD (gq Y) (bb Y) (a9 (qv .B 0) (a9 (qv .B 10) (a9 (qv .B 9) (a9 (qv .B 7) (a9 (qv .B 2) b7)))))))) i5) (b8 (f6 (R7 (di (M8 q)) (dn (neg:=false)) (qv .B 10) (f9 (oH (a9 B6 b7)))))))))))))))))))))
end
def spLaw (K:Frag):Sp:=λvs H Q _=>∃(a:Addr)(ns:Jg),vs = [.ref a]/\SqL K H a (ns.map V.int)/\ns.length<=63/\(∀x∈ns,Builtin.Int.intBits x<=1048576)/\∀H',Q (.bl true) H'
def all_ {l:PySem.W.OpenLaw}(Y:En w mg) (q:∀ns:List Int,ns.length<=63->(∀x∈ns,Builtin.Int.intBits x<=1048576)->gI [.scr (ns.map W.int)]=.ok (.bl true)) (e:mg "law" = some (.ref fa)):∃fd:FuncData,(∀(s:Shared) (v:Value),BindsTo s fd ⟨[v],[]⟩ [("_law_script",v)])/\∀base:Heap,(hk w).In base->base.Ns mainGlobals mg->FnOk l.prog w (hk w) mg base CX0 8 fa fd Qr (spLaw (hk w)):=by
 cases e.symm.trans (CA Y).m;show ⟨FD "law" 48 m5 273,λs v=>.of_eq rfl,λbase _ _=>xm (Et Y) q⟩
end K86
open PySem PySem.W PyProof.Rows
namespace K86
def hxas:List Addr:=[2,3,15,22,23,25,28,40,42,43,52,53,59,60,64,65,69,70,76,77,83,84,88,89,93,94,100,101,105,106,110,111,117,118,124,125,131,132,138,139,143,144,150,151,157,158,162,163,169,170,174,175,179,180,186,187,193,194,198,199,205,206,210,211,217,218,222,223,229,230,234,235,241,242,246,247,251,252,256,257,261,262,268,269,273,274]
def view:Program:={ PySem.Challenge.pw_tokenmoor_k86_whole_lost_and_found_moves with main:={ PySem.Challenge.pw_tokenmoor_k86_whole_lost_and_found_moves.main with body:=[1,2,4,5,6,7,9,10,11,12,13,14,15,17,18,19,20,21,23,25,26,28,29,30,31,33,34,36,37,38,39,40,41,42,43,44,45,46,47,48].map top } }
def hook:PySem.W.Hook:=PySem.W.kHook pV hxas (λ_=>QW)
end K86
set_option maxHeartbeats 0 in
theorem PySem.Challenge.cw_tokenmoor_k86_whole_lost_and_found_moves_holds : PySem.Challenge.rw_tokenmoor_k86_whole_lost_and_found_moves.Holds := by
 w_on;o_law
 refine holds_open (q:=K86.view) (loose:=[]) (Xt:=λs=>xlAt K86.view [] s&&recOk [] s) (XP:=XL K86.view [])
  (Yf:=K86.hook.obs) (Ya:=K86.hook.val) (YP:=K86.hook.says) (N:=3366) ?hl K86.hook.of K86.hook.keeps
  (λs e=>xl_of s (Bool.and_eq_true_iff.mp e).1) XL.keeps (by rfl) (by rfl) (by rfl)
  (λs e=>recFacts_of (Bool.and_eq_true_iff.mp e).2) (by rfl) (by first|assumption|decide +kernel)
  (by decide +kernel) ⟨rfl,rfl,rfl,rfl,rfl,by decide +kernel⟩ ?hw ?hc
 (case hl=>intro w;kernel_rfl)
 (case hw=>w_witness2)
 refine L2.walk_ofKB (l:=PySem.Challenge.rw_tokenmoor_k86_whole_lost_and_found_moves) (n:=63) (k:=8) (x := "_law_script") (CX:=L2.CX0) (sp:=K86.spLaw) rfl (by decide) rfl ⟨rfl,by decide,by decide⟩ (λw h Y=>PySem.W.kIn_of Y)
  (λw mg fa h X G e=>K86.all_ ⟨h,X,G⟩ K86.law_pure e)
  (λK H a ns hl hb hO hS=>⟨a,ns,rfl,hS,hl,hb,λ_=>rfl⟩) λ_ _ _ _ z=>z
