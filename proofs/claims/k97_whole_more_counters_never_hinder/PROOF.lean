import PyProof.Rows.All
import Wide.All
import OpenK.AllK
import Wide.FinOn
import Lean
import PyProof.EqAt
import PyProof.EqKinds
import PyProof.TupleCall
import PyProof.ZipIter
import PyProof.TupleIter
import PyProof.WalksMore
import PyProof.EnumMake
import PyProof.Draws
import PyProof.P3In
import KE.KSortTup
import PyProof.Rows.SortWalk
import KE.IntBitsLaws
import KE.KRevIter
import PyProof.TupleOfGen
import PySem.Challenge.RW_tokenmoor_k97_whole_more_counters_never
open PySem.W (Frag)
set_option Elab.async false
set_option linter.all false
def qA0:=@List.getD_eq_getElem?_getD
def qA1:=@if_pos
def qA2:=@PySem.wpAny_bind
def qA3:=@if_neg
def qA4:=@Bool.false_ne_true
def qA5:=@List.length_map
def qA6:=@PySem.Heap.get?_push_of_some
def qA7:=@List.getElem?_eq_some_iff
def qA8:=@List.mem_cons_of_mem
def qA9:=@Nat.le_trans
def qB0:=@Nat.lt_of_lt_of_le
def qB1:=@Nat.le_refl
def qB2:=@List.getElem?_eq_getElem
def qB3:=@List.mem_cons
def qB4:=@List.mem_map
def qB5:=@List.getElem?_map
def qB6:=@List.mem_cons_self
def qB7:=@PySem.Heap.lt_size
def qB8:=@List.length_reverse
def qB9:=@List.getElem?_set_ne
def qC0:=@List.map_cons
def qC1:=@List.size_toArray
def qC2:=@List.length_cons
def qC3:=@Nat.zero_le
def qC4:=@List.mem_append_right
def qC5:=@List.length_append
def qC6:=@PySem.Heap.get?_push_size
def qC7:=@Nat.ne_of_lt
def qC8:=@List.any_eq_true
def qC9:=@PySem.boot_len
def qD0:=@List.map_map
def qD1:=@List.map_append
def qD2:=@Nat.add_sub_cancel'
def qD3:=@Nat.le_add_right
def qD4:=@PySem.PassesOwn.never
def qD5:=@Bool.false_eq_true
def qD6:=@List.not_mem_nil
def qD7:=@Nat.lt_of_le_of_lt
def qD8:=@List.mem_singleton
def qD9:=@List.mem_append
def qE0:=@Nat.add_le_add_left
def qE1:=@List.getElem?_set
def qE2:=@List.getElem?_append_left
def qE3:=@Array.getD_eq_getD_getElem?
def qE4:=@List.getElem?_set_self
def qE5:=@List.pairwise_append
def qE6:=@Array.length_toList
def qE7:=@Nat.not_lt_zero
def qE8:=@Nat.succ_le_succ
def qE9:=@List.append_assoc
def qF0:=@Nat.le_of_lt_succ
def qF1:=@List.length_range
def qF2:=@List.mem_range
def qF3:=@List.mem_append_left
def qF4:=@List.drop_eq_nil_of_le
def qF5:=@List.length_set
def qF6:=@List.all_eq_true
def qF7:=@Array.toList_append
def qF8:=@List.length_singleton
def qF9:=@Int.le_refl
def qG0:=@List.getElem?_replicate
def qG1:=@List.append_nil
def qG2:=@List.mem_of_getElem?
def qG3:=@List.mem_iff_getElem
def qG4:=@List.getElem_mem
def qG5:=@Nat.sub_le
def qG6:=@Nat.succ_add_eq_add_succ
def qG7:=@Int.mul_nonneg
def qG8:=@Bool.and_eq_true
def qG9:=@Nat.lt_irrefl
def qH0:=@List.getElem?_append_right
def qH1:=@Array.perm_iff_toList_perm
def qH2:=@List.pairwise_map
def qH3:=@Option.some.injEq
def qH4:=@Nat.le_of_lt
def qH5:=@List.getElem?_take_of_lt
def qH6:=@Nat.add_sub_assoc
def qH7:=@PyProof.Rows.callWith_type1
def qH8:=@List.filterMap_cons
def qH9:=@PySem.mem_of_lookup
def qI0:=@Nat.le_of_eq
def qI1:=@Nat.sub_lt
def qI2:=@Nat.add_assoc
def qI3:=@List.length_take
def qI4:=@Nat.min_le_right
def qI5:=@List.getElem?_zipWith
def qI6:=@List.getElem?_drop
def qI7:=@List.drop_eq_getElem_cons
def qI8:=@List.extract_eq_take_drop
def qI9:=@List.map_nil
def qJ0:=@PySem.AutoSeq1.wpAny_loadPart'
def qJ1:=@List.mem_of_mem_drop
def qJ2:=@Int.toNat_natCast
def qJ3:=@Nat.le_of_succ_le
def qJ4:=@Array.toList_push
def qJ5:=@List.pairwise_singleton
def qJ6:=@List.ext_getElem
def qJ7:=@Nat.le_of_succ_le_succ
def qJ8:=@Option.map_eq_some_iff
def qJ9:=@Nat.ne_of_gt
def qK0:=@List.zip_cons_cons
def qK1:=@Nat.le_antisymm
def qK2:=@Nat.add_lt_of_lt_sub'
def qK3:=@PySem.F.slot_tuple_iterator_next
def qK4:=@List.reverse_cons
def qK5:=@Nat.lt_of_succ_lt
def qK6:=@Nat.le_pred_of_lt
def qK7:=@List.any_eq_false
def qK8:=@Nat.sub_lt_left_of_lt_add
def qK9:=@List.lookup_cons
def qL0:=@Nat.lt_succ_self
def qL1:=@Int.le_of_lt
def qL2:=@List.Pairwise.imp_of_mem
def qL3:=@List.getElem?_range
def qL4:=@Bool.eq_iff_iff
def qL5:=@List.forIn_cons
def qL6:=@Nat.lt_or_eq_of_le
def qL7:=@List.ext_getElem?
def qL8:=@List.reverse_perm
def qL9:=@PySem.Heap.size_push
def qM0:=@Int.le_trans
def qM1:=@Array.getElem?_toList
def qM2:=@List.pairwise_reverse
def qM3:=@List.take_length
def qM4:=@Nat.lt_of_not_le
def qM5:=@PySem.Heap.SameBut.update
def qM6:=@Nat.sub_le_sub_left
def qM7:=@PySem.Heap.get?_update_ne
def qM8:=@List.map_congr_left
def qM9:=@List.length_nil
def qN0:=@Nat.min_eq_left
def qN1:=@List.nil_append
def qN2:=@Nat.zero_add
def qN3:=@Nat.add_right_comm
def qN4:=@Bool.or_true
def qN5:=@Int.not_lt
def qN6:=@Nat.sub_pos_of_lt
def qN7:=@Bool.and_self
def qN8:=@Array.toList_inj
def qN9:=@Nat.not_le_of_lt
def qO0:=@List.map_reverse
set_option maxRecDepth 100000
def Z1 {p q:Prop} (a:p) (b:q):p/\q:=⟨a,b⟩
noncomputable section
local macro_rules | `(tactic| omega)=>`(tactic| first | with_reducible assumption | decide | lia)
set_option genSizeOf false
set_option genSizeOfSpec false
namespace L2
open PySem PySem.Spec PyProof.Rows
abbrev Key:=Sum Int Str
def vO:Key->Value->Bool
 | .inl k,v=>Value.isInt k v
 | .inr x,v=>Value.isStrOf x v
def keyH (w:World):Key->Int
 | .inl k=>hashInt k
 | .inr x=>hashStr w x
def x9:∀ {k:Key} {v:Value},vO k v=true->(∃ i t,k=Sum.inl i/\v=Value.int i t)\/(∃ x t,k=Sum.inr x/\v=Value.str x t)
 | .inl i,v,h=>by
  obtain ⟨t,e⟩:=Value.isInt_shape (k:=i) (v:=v) h
  exact .inl ⟨i,t,rfl,e⟩
 | .inr x,v,h=>by
  obtain ⟨t,e⟩:=Value.isStrOf_shape (x:=x) (v:=v) h
  exact .inr ⟨x,t,rfl,e⟩
def Bw (a b:Int):decide ((Sum.inl a:Key)=Sum.inl b)=(a == b):=by
 by_cases e:a=b
 ·subst e; simp
 ·have h:¬ (Sum.inl a:Key)=Sum.inl b:=fun q=>e (Sum.inl.inj q)
  rw [decide_eq_false h]
  exact (beq_eq_false_iff_ne.mpr e).symm
def Bt (a b:Str):decide ((Sum.inr a:Key)=Sum.inr b)=decide (a=b):=by
 by_cases e:a=b
 ·subst e; simp
 ·have h:¬ (Sum.inr a:Key)=Sum.inr b:=fun q=>e (Sum.inr.inj q)
  rw [decide_eq_false h,decide_eq_false e]
def Bv (a:Int) (b:Str):decide ((Sum.inl a:Key)=Sum.inr b)=false:=decide_eq_false (fun q=>nomatch q)
def Bu (a:Str) (b:Int):decide ((Sum.inr a:Key)=Sum.inl b)=false:=decide_eq_false (fun q=>nomatch q)
def mG (prog:Program) (w:World):PySem.KeyKind prog w Key where
 is:=vO
 hash:=keyH w
 inj:=fun v a b ha hb=>by
  rcases x9 ha with ⟨i,t,rfl,rfl⟩ | ⟨x,t,rfl,rfl⟩
  ·rcases x9 hb with ⟨j,u,rfl,e⟩ | ⟨y,u,rfl,e⟩
   ·injection e with e1 _; rw [e1]
   ·exact nomatch e
  ·rcases x9 hb with ⟨j,u,rfl,e⟩ | ⟨y,u,rfl,e⟩
   ·exact nomatch e
   ·injection e with e1 _; rw [e1]
 byValue:=fun k v h=>by
  rcases x9 h with ⟨i,t,rfl,rfl⟩ | ⟨x,t,rfl,rfl⟩ <;> rfl
 pyHash:=fun hv h=>by
  rcases x9 hv with ⟨i,t,rfl,rfl⟩ | ⟨x,t,rfl,rfl⟩
  ·exact wpAny_pyHash_int h
  ·exact wpAny_pyHash_str h
 eqBool:=fun hu hv h=>by
  rcases x9 hu with ⟨i,t,rfl,rfl⟩ | ⟨x,t,rfl,rfl⟩
  ·rcases x9 hv with ⟨j,u,rfl,rfl⟩ | ⟨y,u,rfl,rfl⟩
   ·rw [Bw] at h; exact wpAny_eqBool_int h
   ·rw [Bv] at h; exact SeqAt.EqAt.int_str i t y u _ _ _ _ h
  ·rcases x9 hv with ⟨j,u,rfl,rfl⟩ | ⟨y,u,rfl,rfl⟩
   ·rw [Bu] at h; exact SeqAt.EqAt.str_int x t j u _ _ _ _ h
   ·rw [Bt] at h; exact wpAny_eqBool_str h
 «strs»:=fun k x t v h=>by
  rcases x9 h with ⟨i,u,rfl,e⟩ | ⟨y,u,rfl,e⟩
  ·exact nomatch e
  ·injection e with e1 _
   subst e1
   cases v <;> rfl
end L2
namespace L2
open PySem PySem.Spec PyProof.Rows
inductive V where
 | non | bl (b:Bool) | int (i:Int) | str (x:Str) | byt (b:Array UInt8) | flt (b:UInt64) | ref (a:Addr) | ty (n:String)
 deriving DecidableEq
def RelV:V->Value->Prop
 | .non,u=>u=Value.none
 | .bl b,u=>u=Value.bool b
 | .int i,u=>∃ t,u=Value.int i t
 | .str x,u=>∃ t,u=Value.str x t
 | .byt b,u=>∃ t,u=Value.bytes b t
 | .flt b,u=>∃ t,u=Value.float b t
 | .ref a,u=>u=Value.ref a
 | .ty n,u=>u=Value.type n
abbrev Vals:List V->List Value->Prop:=Paired RelV
def Vals.length {xs:List V} {us:List Value} (r:Vals xs us):xs.length=us.length:=Paired.length r
def Vals.get:∀ {xs:List V} {us:List Value} {i:Nat} {x:V},Vals xs us->xs[i]?=some x->∃ u,us[i]?=some u/\RelV x u:=by
 intro xs us i x a
 induction a generalizing i with
 | nil=>intro e; cases e
 | cons r t ih=>
  intro e
  cases i with
  | zero=>cases e; exact ⟨_,rfl,r⟩
  | succ i=>exact ih e
def Vals.append:∀ {xs ys:List V} {us ws:List Value},Vals xs us->Vals ys ws->Vals (xs++ys) (us++ws):=by
 intro xs ys us ws a s
 induction a with
 | nil=>exact s
 | cons r t ih=>exact .cons r ih
def Vals.take:∀ {xs:List V} {us:List Value} (n:Nat),Vals xs us->Vals (xs.take n) (us.take n):=by
 intro xs us n h
 induction h generalizing n with
 | nil=>cases n <;> exact .nil
 | cons r t ih=>
  cases n with
  | zero=>exact .nil
  | succ n=>exact .cons r (ih n)
def Vals.drop:∀ {xs:List V} {us:List Value} (n:Nat),Vals xs us->Vals (xs.drop n) (us.drop n)
 | _,_,0,r=>r
 | _,_,_+1,.nil=>.nil
 | _,_,n+1,.cons _ t=>Vals.drop n t
def DS:Option V->Option Value->Prop
 | some v,some u=>RelV v u
 | none,none=>True
 | _,_=>False
def KV {κ:Type}:List (κ×V)->List (κ×Value)->Prop:=Paired fun (p:κ×V) (q:κ×Value)=>p.1=q.1/\RelV p.2 q.2
def kV:Key->V
 | .inl i=>.int i
 | .inr x=>.str x
inductive HO where
 | lst (xs:List V)
 | tup (xs:List V)
 | dK (Gm:List (Key×V)) | dT (Gm:List (List Key×V))
 | set (S:Int->Bool) (n:Nat)
 | ins (C dx:Addr) (fs:List (Str×V))
 | own (x:Addr)
 | xd (fs:List (Str×V))
 | met (f x:Addr)
 | rng (lo hi:Int)
 | frz (o:Obj) (u:HO)
 | tbl (ps:Array Value)
 | ext (φ:Heap->Prop)
abbrev Hp:=Addr->Option HO
def upd (H:Hp) (a:Addr) (o:HO):Hp:=fun b=>if b=a then some o else H b
def l4 {H:Hp} {a:Addr} {o:HO}:upd H a o a=some o:=by unfold upd; rw [qA1 rfl]
def c9 {H:Hp} {a b:Addr} {o:HO} (h:b≠a):upd H a o b=H b:=by unfold upd; rw [qA3 h]
def d8 {H:Hp} {a b:Addr} {o:HO} (h:H a=some o) (h':H b=none):a≠b:=by
 intro e; subst e; rw [h] at h'; cases h'
section
variable (P:Program) (w:World)
def ObjOk (H:Hp) (h:Heap) (a:Addr):HO->Prop
 | .lst xs=>xs.length<=sizeLine/\∃ (its:List Value) (n:Nat),Vals xs its/\h.get? a=some { cls:=.type "list",data:=.seq its.toArray n }
 | .tup xs=>xs.length<=sizeLine/\∃ its:List Value,Vals xs its/\IsTup h a its.toArray
 | .dK Gm=>Gm.length<=sizeLine/\(a == sysModules)=false/\∃ vs,KV Gm vs/\h.DictOf (mG P w) a vs
 | .dT Gm=>Gm.length<=sizeLine/\(a == sysModules)=false/\∃ xs:List (List Key×Addr×Value),
   Paired (fun (p:List Key×V) (q:List Key×Addr×Value)=>p.1=q.1/\H q.2.1=some (.tup (p.1.map kV))/\RelV p.2 q.2.2) Gm xs /\
   ∃ o es ep,h.get? a=some o/\o.ExactDict/\o.data=.dict es ep/\es.toList=xs.map (entryOfKey (tupleKind (mG P w)))/\(xs.map (·.1)).Nodup
 | .set S n=>h.SetOf (intKind P w) a S n
 | .ins C dx fs=>H dx=some (.own a)/\fs.length<=1000/\dx≠a/\h.get? a=some (PySem.W.instObj C dx) /\
   ∃ mA,h.Ns1 dx mA/\(∀ f,DS (fs.lookup f) (mA f))/\PySem.Within mA (fs.map (·.1))
 | .own _=>∃ o,h.get? a=some o
 | .xd fs=>∃ mA,h.Ns1 a mA/\∀ f,DS (fs.lookup f) (mA f)
 | .rng lo hi=>∃ t u v,h.get? a=some { cls:=.type "range",data:=.fields #[.int lo t,.int hi u,.int 1 v] }
 | .frz o u=>h.get? a=some o/\ObjOk H h a u
 | .tbl ps=>h.get? a=some { cls:=.none,data:=.fields ps }
 | .met f x=>h.get? a=some (PySem.W.methodObj (.ref f) (.ref x))
 | .ext φ=>φ h/\(∃ o,h.get? a=some o)/\∀ h1 h2:Heap,φ h1->(∀ o,h1.get? a=some o->h2.get? a=some o)->φ h2
def HOk (H:Hp) (h:Heap):Prop:=∀ a o,H a=some o->ObjOk P w H h a o
end
section
variable {P:Program} {w:World} {H H':Hp} {h h':Heap} {a:Addr} {o:HO}
def ObjOk.lt (x:ObjOk P w H h a o):a<h.objs.size:=by
 cases o with
 | lst xs=>obtain ⟨_,_,_,_,e⟩:=x; exact qB7 e
 | tup xs=>obtain ⟨_,_,_,p⟩:=x; exact p.lt
 | dK Gm=>obtain ⟨_,_,_,_,o,_,_,e,_⟩:=x; exact qB7 e
 | dT Gm=>obtain ⟨_,_,_,_,o,_,_,e,_⟩:=x; exact qB7 e
 | set S n=>obtain ⟨o,_,_,_,e,_⟩:=x; exact qB7 e
 | ins C dx fs=>obtain ⟨_,_,_,e,_⟩:=x; exact qB7 e
 | own y=>obtain ⟨_,e⟩:=x; exact qB7 e
 | xd fs=>obtain ⟨_,⟨_,_,_,e,_⟩,_⟩:=x; exact qB7 e
 | rng lo hi=>obtain ⟨_,_,_,e⟩:=x; exact qB7 e
 | frz ob u=>obtain ⟨e,_⟩:=x; exact qB7 e
 | tbl ps=>exact qB7 (show h.get? a=some _ from x)
 | met f y=>exact qB7 (show h.get? a=some _ from x)
 | ext φ=>obtain ⟨_,⟨_,e⟩,_⟩:=x; exact qB7 e
def Paired.mapP {α β:Type} {F G:α->β->Prop}:∀ {l₁:List α} {l₂:List β},Paired F l₁ l₂->(∀ a b,F a b->G a b)->Paired G l₁ l₂:=by
 intro l₁ l₂ h f
 induction h with
 | nil=>exact .nil
 | cons r t ih=>exact .cons (f _ _ r) ih
def ObjOk.stay (x:ObjOk P w H h a o) (k:∀ b u,(b=a\/H b=some (.own a))->h.get? b=some u->h'.get? b=some u)
  (ho:∀ b,H b=some (.own a)->H' b=some (.own a)) (ht:∀ b xs,H b=some (.tup xs)->H' b=some (.tup xs)):ObjOk P w H' h' a o:=by
 induction o with
 | lst xs=>obtain ⟨z,its,n,r,e⟩:=x; exact ⟨z,its,n,r,k _ _ (.inl rfl) e⟩
 | tup xs=>obtain ⟨z,its,r,ob,e,c⟩:=x; exact ⟨z,its,r,ob,k _ _ (.inl rfl) e,c⟩
 | dK Gm=>obtain ⟨z,y,vs,r,ob,es,ep,e,c⟩:=x; exact ⟨z,y,vs,r,ob,es,ep,k _ _ (.inl rfl) e,c⟩
 | dT Gm=>
  obtain ⟨z,y,xs,r,ob,es,ep,e,c⟩:=x
  exact ⟨z,y,xs,Paired.mapP r fun p q z=>⟨z.1,ht _ _ z.2.1,z.2.2⟩,ob,es,ep,k _ _ (.inl rfl) e,c⟩
 | set S n=>obtain ⟨ob,es,ep,t,e,c⟩:=x; exact ⟨ob,es,ep,t,k _ _ (.inl rfl) e,c⟩
 | ins C dx fs=>
  obtain ⟨d,z,ne,e,mA,⟨od,es,ep,e2,c⟩,r⟩:=x
  exact ⟨ho _ d,z,ne,k _ _ (.inl rfl) e,mA,⟨od,es,ep,k _ _ (.inr d) e2,c⟩,r⟩
 | own y=>obtain ⟨ob,e⟩:=x; exact ⟨ob,k _ _ (.inl rfl) e⟩
 | xd fs=>obtain ⟨mA,⟨od,es,ep,e,c⟩,r⟩:=x; exact ⟨mA,⟨od,es,ep,k _ _ (.inl rfl) e,c⟩,r⟩
 | rng lo hi=>obtain ⟨t,u,v,e⟩:=x; exact ⟨t,u,v,k _ _ (.inl rfl) e⟩
 | frz ob u ih=>obtain ⟨e,q⟩:=x; exact ⟨k _ _ (.inl rfl) e,ih q⟩
 | tbl ps=>
  have e:h.get? a=some { cls:=.none,data:=.fields ps }:=x
  show h'.get? a=some { cls:=.none,data:=.fields ps }
  exact k a _ (.inl rfl) e
 | met f y=>
  have e:h.get? a=some (PySem.W.methodObj (.ref f) (.ref y)):=x
  show h'.get? a=some (PySem.W.methodObj (.ref f) (.ref y))
  exact k a _ (.inl rfl) e
 | ext φ=>obtain ⟨p,⟨o,e⟩,st⟩:=x; exact ⟨st _ _ p fun o q=>k _ _ (.inl rfl) q,⟨o,k _ _ (.inl rfl) e⟩,st⟩
def HOk.lt (x:HOk P w H h) (e:H a=some o):a<h.objs.size:=(x a o e).lt
def HOk.fresh (x:HOk P w H h) (e:h.objs.size<=a):H a=none:=by
 cases q:H a with
 | none=>rfl
 | some u=>exact absurd (qB0 (x.lt q) e) (qG9 _)
def HOk.kept (x:HOk P w H h) (k:∀ b u,h.get? b=some u->h'.get? b=some u):HOk P w H h':=fun a o e=>
 (x a o e).stay (fun b u _ q=>k b u q) (fun _ q=>q) fun _ _ q=>q
def HOk.laid (x:HOk P w H h) (k:∀ b u,h.get? b=some u->h'.get? b=some u) (hp:h.objs.size<=a) (new:ObjOk P w (upd H a o) h' a o):HOk P w (upd H a o) h':=fun b u e=>by
 have hn:=x.fresh hp
 by_cases hb:b=a
 ·subst hb; rw [l4] at e; cases e; exact new
 ·rw [c9 hb] at e
  exact (x b u e).stay (fun c v _ q=>k c v q) (fun c q=>by rw [c9 (d8 q hn)]; exact q) fun c xs q=>by rw [c9 (d8 q hn)]; exact q
end
def Rd (H:Hp) (a:Addr) (u:HO):Prop:=H a=some u\/∃ o,H a=some (.frz o u)
def Rd.ok {P:Program} {w:World} {H:Hp} {h:Heap} {a:Addr} {u:HO} (r:Rd H a u) (x:HOk P w H h):ObjOk P w H h a u:=by
 rcases r with r | ⟨o,r⟩
 ·exact x a u r
 ·obtain ⟨_,q⟩:=x a _ r
  exact q
def Mut:Option HO->Prop
 | some (.lst _)=>True
 | some (.dK _)=>True
 | some (.dT _)=>True
 | some (.set _ _)=>True
 | some (.ins _ _ _)=>True
 | some (.ext _)=>True
 | _=>False
section
variable {P:Program} {w:World} {H:Hp} {h h':Heap} {x e:Addr} {o':HO}
def HOk.write (ok:HOk P w H h) (mu:Mut (H x)) (he:e=x\/H e=some (.own x)) (k:∀ b u,b≠e->h.get? b=some u->h'.get? b=some u) (Jv:∃ u,h'.get? e=some u)
  (new:ObjOk P w (upd H x o') h' x o'):HOk P w (upd H x o') h':=fun b u q=>by
 have JD:∀ c y,H c=some (.own y)->c≠x:=fun c y r z=>by subst z; rw [r] at mu; exact mu
 have ntup:∀ c xs,H c=some (.tup xs)->c≠x:=fun c xs r z=>by subst z; rw [r] at mu; exact mu
 by_cases hb:b=x
 ·subst hb; rw [l4] at q; cases q; exact new
 ·rw [c9 hb] at q
  by_cases Iu:b=e
  ·have q':H b=some (.own x):=by
    rcases he with z | z
    ·exact absurd (Iu.trans z) hb
    ·rw [Iu]; exact z
   rw [q] at q'; cases q'
   obtain ⟨v,hv⟩:=Jv
   exact ⟨v,by rw [Iu]; exact hv⟩
  ·refine (ok b u q).stay (fun c v hc r=>k c v ?_ r) (fun c r=>by rw [c9 (JD c b r)]; exact r) fun c xs r=>by rw [c9 (ntup c xs r)]; exact r
   rcases hc with rfl | hc
   ·exact Iu
   ·rintro rfl
    rcases he with z | z
    ·exact JD c b hc z
    ·rw [hc] at z; cases z; exact hb rfl
end
structure Un (fs ex:List Addr) (H H':Hp) (h h':Heap):Prop where
 keep:∀ b o,h.get? b=some o->H b=none->b∉fs->b∉ex->h'.get? b=some o
 slot:∀ b o,h.get? b=some o->H b=none->b∈fs->b∉ex->∃ sl,h'.get? b=some { o with slots:=sl }
 free:∀ b o,h.get? b=some o->H b=none->b∉ex->H' b=none
 there:∀ b o,h.get? b=some o->b∉ex->∃ o',h'.get? b=some o'
 tups:∀ b xs,H b=some (.tup xs)->H' b=some (.tup xs)
 frzs:∀ b o u,H b=some (.frz o u)->H' b=some (.frz o u)
 tbls:∀ b ps,H b=some (.tbl ps)->∃ more,H' b=some (.tbl (ps++more))
section
variable {fs fs' ex ex':List Addr} {H H1 H2:Hp} {h h1 h2 h':Heap} {a x e:Addr} {o:HO}
def Un.any (u:Un fs ex H H1 h h1) {b:Addr} {ob:Obj} (q:h.get? b=some ob) (n:H b=none) (hx:b∉ex):∃ sl,h1.get? b=some { ob with slots:=sl }:=by
 by_cases hb:b∈fs
 ·exact u.slot b ob q n hb hx
 ·exact ⟨ob.slots,u.keep b ob q n hb hx⟩
def Un.kept (k:∀ b u,h.get? b=some u->h'.get? b=some u):Un fs ex H H h h':=
 ⟨fun b ob q _ _ _=>k b ob q,fun b ob q _ _ _=>⟨ob.slots,k b ob q⟩,fun _ _ _ n _=>n,fun b ob q _=>⟨ob,k b ob q⟩,fun _ _ q=>q,fun _ _ _ q=>q,fun _ ps q=>⟨#[],by rw [q]; simp⟩⟩
def Un.refl:Un fs ex H H h h:=Un.kept fun _ _ q=>q
def Un.laid (k:∀ b u,h.get? b=some u->h'.get? b=some u) (hp:h.objs.size<=a) (hn:H a=none):Un fs ex H (upd H a o) h h' where
 keep:=fun b u q _ _ _=>k b u q
 slot:=fun b u q _ _ _=>⟨u.slots,k b u q⟩
 free:=fun b u q n _=>by rw [c9 (qC7 (qB0 (qB7 q) hp))]; exact n
 there:=fun b u q _=>⟨u,k b u q⟩
 tups:=fun b xs q=>by rw [c9 (d8 q hn)]; exact q
 frzs:=fun b u xs q=>by rw [c9 (d8 q hn)]; exact q
 tbls:=fun b ps q=>⟨#[],by rw [c9 (d8 q hn),q]; simp⟩
def Un.write (mu:Mut (H x)) (he:e=x\/H e=some (.own x)) (k:∀ b u,b≠e->h.get? b=some u->h'.get? b=some u) (Jv:∃ u,h'.get? e=some u):Un fs ex H (upd H x o) h h':=by
 have hx:∀ b,H b=none->b≠x:=fun b n z=>by subst z; rw [n] at mu; exact mu
 have hb:∀ b,H b=none->b≠e:=fun b n z=>by
  subst z
  rcases he with r | r
  ·exact hx b n r
  ·rw [n] at r; cases r
 have hm:∀ b u,H b=some u->¬ Mut (some u)->b≠x:=fun b u q nm z=>by subst z; rw [q] at mu; exact nm mu
 refine ⟨fun b u q n _ _=>k b u (hb b n) q,fun b u q n _ _=>⟨u.slots,k b u (hb b n) q⟩,fun b u q n _=>by rw [c9 (hx b n)]; exact n,fun b u q _=>?_,
  fun b xs q=>by rw [c9 (hm b _ q fun z=>z)]; exact q,fun b u xs q=>by rw [c9 (hm b _ q fun z=>z)]; exact q,fun b ps q=>⟨#[],by rw [c9 (hm b _ q fun z=>z),q]; simp⟩⟩
 by_cases Iu:b=e
 ·subst Iu; exact Jv
 ·exact ⟨u,k b u Iu q⟩
end
def trk (h:Heap) (H:Hp):List Addr:=(List.range h.objs.size).filter fun a=>(H a).isSome
def bh (h:Heap) (H:Hp):Heap:=PySem.W.hideAll h (trk h H)
def qX (h:Heap) (H:Hp):(bh h H).objs.size=h.objs.size:=PySem.W.hideAll_size _ _
def uM {h:Heap} {H:Hp} {b:Addr} {o:Obj} (e:h.get? b=some o) (n:H b=none):(bh h H).get? b=some o:=
 PySem.W.hideAll_get _ e fun hm=>by
  have q:(H b).isSome=true:=(List.mem_filter.mp hm).2
  rw [n] at q; simp at q
def xj {h:Heap} {H:Hp} {b:Addr} {o:Obj} (e:(bh h H).get? b=some o):h.get? b=some o/\H b=none:=by
 have e':h.get? b=some o:=PySem.W.of_hideAll (trk h H) e
 refine ⟨e',?_⟩
 cases q:H b with
 | none=>rfl
 | some x=>
  have hm:b∈trk h H:=List.mem_filter.mpr ⟨qF2.mpr (qB7 e'),by simp [q]⟩
  have z:(bh h H).get? b=none:=PySem.W.hideAll_none (trk h H) hm
  rw [z] at e; cases e
def yQ (g h:Heap) (L:Addr):List (Addr×Obj):=(List.range h.objs.size).filterMap fun a=>if a=L\/(g.get? a).isSome=true then none else (h.get? a).map fun o=>(a,o)
def rest (g h:Heap) (L d:Addr):List (Addr×Obj):=(yQ g h L).filter fun p=>decide (p.1≠d)
end L2
namespace L2
open PySem PySem.Spec PyProof.Rows
structure Mod (K:Frag) (mg:Str->Option Value) (base:Heap):Prop where
 kin:K.In base
 glob:base.Ns mainGlobals mg
 blt:∃ mb,base.Ns builtinsNs mb/\∀ x:Str,x ≠ "__name__" -> mb x=bootBuiltins x
 nolimit:base.NoLimit
structure Cx where
 prog:Program
 w:World
 K:Frag
 mg:Str->Option Value
 base:Heap
 A:Around
 N:List Str
 s₀:Shared
 H₀:Hp
 env:Env
 outer:List Env
 stack:List Env
 ex:List Addr
 fn:Str->Bool
 calm:Bool
 pn:List (Addr×Obj)
 xe:Value->Shared->Prop
def frs (l:List Env):List Addr:=l.filterMap (·.frame)
abbrev Cx.fs (X:Cx):List Addr:=frs X.outer
def Vis (sc:Scope) (x:Str):Prop:=sc.names.lookup x=some .local\/sc.names.lookup x=some .cell\/sc.names.lookup x=some .free
def Loc (sc:Scope) (x:Str):Prop:=sc.names.lookup x=some .local\/sc.names.lookup x=some .cell
def Look (env:Env) (h:Heap) (m:Str->Option Value) (x:Str) (u:Value):Prop:=
 (env.kindOf x=some .local/\m x=some u)\/((env.kindOf x=some .cell\/env.kindOf x=some .free)/\∃ c,env.cells.lookup x=some c/\h.IsCell c (some u))
structure Cx.Ok (X:Cx):Prop where
 mod:Mod X.K X.mg X.base
 kind:X.env.scope.kind=.function
 glob:X.env.globals=mainGlobals
 blt:X.env.builtins=builtinsNs
 above:X.s₀.heap.objs.size<=X.env.locals
 inj:∀ x y c,X.env.cells.lookup x=some c->X.env.cells.lookup y=some c->x=y
 has:∀ x,(X.env.kindOf x=some .cell\/X.env.kindOf x=some .free)->∃ c,X.env.cells.lookup x=some c
 cab:∀ x c,X.fn x=true->X.env.cells.lookup x=some c->X.s₀.heap.objs.size<=c
 hd:X.calm=true->X.A.handled=none
 frames:X.A.frames=some X.stack
 stk:X.stack=X.outer\/(X.stack=X.env::X.outer/\X.env.frame=some X.env.locals)
 exf:∀ b∈X.ex,b≠X.env.locals/\∀ x c,X.env.cells.lookup x=some c->c≠b
 bs:∀ b o,X.base.get? b=some o->X.s₀.heap.get? b=some o/\X.H₀ b=none
 bsz:X.base.objs.size<=X.s₀.heap.objs.size
 noex:∀ b o,X.base.get? b=some o->b∉X.ex
 exfs:∀ b∈X.ex,b∉X.fs
 funs:X.s₀.heap.FunFrames X.base X.outer
 frf:∀ b∈X.fs,X.H₀ b=none
structure Inv (X:Cx) (pins:List (Addr×Obj)) (σ:List (Option V)) (H:Hp) (s:Shared):Prop where
 ok:X.Ok
 os:s.os=X.s₀.os
 bare:AllBare s.gens
 base:Un X.fs X.ex X.H₀ H X.s₀.heap s.heap
 loc:∃ m,s.heap.Ns X.env.locals m/\∀ (i:Nat) (x:Str) (v:V),X.N[i]?=some x->σ[i]?=some (some v)->Vis X.env.scope x->∃ u,RelV v u/\Look X.env s.heap m x u
 cell:∀ x c,X.env.cells.lookup x=some c->∃ v,s.heap.IsCell c v
 free:H X.env.locals=none
 freeC:∀ x c,X.env.cells.lookup x=some c->H c=none
 pin:∀ p∈X.pn++pins,s.heap.get? p.1=some p.2/\H p.1=none/\p.1≠X.env.locals/\p.1∉X.fs/\∀ v,p.2.data≠.cell v
 hok:HOk X.prog X.w H s.heap
 len:σ.length=X.N.length
section
variable {X:Cx} {pins:List (Addr×Obj)} {σ:List (Option V)} {H H':Hp} {s:Shared} {h':Heap}
def Cx.Ok.nofr (ok:X.Ok) {b:Addr} {o:Obj} (e:X.base.get? b=some o):b∉X.fs:=fun hb=>by
 have:=(ok.funs.mem hb).1
 rw [e] at this; cases this
def Inv.bs (I:Inv X pins σ H s):∀ b o,X.base.get? b=some o->s.heap.get? b=some o/\H b=none:=fun b o e=>
 ⟨I.base.keep b o (I.ok.bs b o e).1 (I.ok.bs b o e).2 (I.ok.nofr e) (I.ok.noex b o e),I.base.free b o (I.ok.bs b o e).1 (I.ok.bs b o e).2 (I.ok.noex b o e)⟩
def Inv.bk (I:Inv X pins σ H s):∀ b o,X.base.get? b=some o->s.heap.get? b=some o:=fun b o e=>(I.bs b o e).1
def Inv.mod (I:Inv X pins σ H s):Mod X.K X.mg X.base:=I.ok.mod
def Inv.kIn (I:Inv X pins σ H s):X.K.In s.heap:=I.ok.mod.kin.keeps I.bk
def Inv.lt (I:Inv X pins σ H s):X.env.locals<s.heap.objs.size:=let ⟨_,hn,_⟩:=I.loc; hn.lt
def Inv.sz (I:Inv X pins σ H s):X.s₀.heap.objs.size<=s.heap.objs.size:=qA9 I.ok.above (qH4 I.lt)
def Inv.nofs (I:Inv X pins σ H s) {a:Addr} (h:s.heap.objs.size<=a):a∉X.fs:=fun hb=>by
 obtain ⟨_,o,ho,_⟩:=I.ok.funs.mem hb
 exact absurd (qB0 (qB7 ho) (qA9 I.sz h)) (qG9 _)
def Inv.cne (I:Inv X pins σ H s):∀ x c,X.env.cells.lookup x=some c->c≠X.env.locals:=fun x c e z=>by
 obtain ⟨v,o,ho,hd⟩:=I.cell x c e
 obtain ⟨m,⟨o',es,ep,Ho,Jw,_⟩,_⟩:=I.loc
 rw [z,Ho] at ho; cases ho; rw [Jw] at hd; cases hd
def Inv.funs (I:Inv X pins σ H s):s.heap.FunFrames X.base X.outer:=by
 have all:∀ (l:List Env),(∀ b∈frs l,b∈X.fs)->X.s₀.heap.FunFrames X.base l->s.heap.FunFrames X.base l:=by
  intro l
  induction l with
  | nil=>intro _ _; trivial
  | cons env r ih=>
   intro hs hl
   obtain ⟨hk,⟨L,o,hf,hn,ho,hd⟩,hr⟩:=hl
   have hL:L∈X.fs:=hs L (by unfold frs; rw [qH8,hf]; exact qB6)
   obtain ⟨sl,e⟩:=I.base.slot L o ho (I.ok.frf L hL) hL fun z=>I.ok.exfs L z hL
   exact ⟨hk,⟨L,_,hf,hn,e,hd⟩,ih (fun b hb=>hs b (by unfold frs; rw [qH8,hf]; exact qA8 _ hb)) hr⟩
 exact all X.outer (fun _ hb=>hb) I.ok.funs
def Inv.stack (I:Inv X pins σ H s):s.heap.FunFrames X.base X.stack:=by
 rcases I.ok.stk with e | ⟨e,hf⟩
 ·rw [e]; exact I.funs
 ·rw [e]
  obtain ⟨m,hn,_⟩:=I.loc
  refine .cons (by rw [I.ok.kind]; decide) hf hn ?_ I.funs
  exact Heap.get?_none_of_le (qA9 I.ok.bsz I.ok.above)
def Inv.stkSub (I:Inv X pins σ H s):∀ b∈frs X.stack,b∈X.env.locals::X.fs:=fun b hb=>by
 rcases I.ok.stk with e | ⟨e,hf⟩
 ·rw [e] at hb; exact qA8 _ hb
 ·rw [e] at hb
  unfold frs at hb
  rw [qH8,hf] at hb
  exact hb
def Inv.stkFree (I:Inv X pins σ H s):∀ b∈frs X.stack,H b=none:=fun b hb=>by
 rcases qB3.mp (I.stkSub b hb) with e | hb
 ·rw [e]; exact I.free
 ·obtain ⟨_,o,ho,_⟩:=I.ok.funs.mem hb
  exact I.base.free b o ho (I.ok.frf b hb) fun z=>I.ok.exfs b z hb
def Inv.step {g':Array GenState} {t':Nat} {d':Drawn} {ch:List Addr} (I:Inv X pins σ H s)
  (Ik:∀ b∈ch,(b∈X.ex\/X.s₀.heap.objs.size<=b)/\b≠X.env.locals/\(∀ x c,X.env.cells.lookup x=some c->c≠b)/\∀ p∈X.pn++pins,p.1≠b)
  (keep:∀ b o,b≠X.env.locals->b∉X.fs->b∉ch->s.heap.get? b=some o->H b=none->h'.get? b=some o)
  (slot:∀ b o,b≠X.env.locals->b∈X.fs->b∉ch->s.heap.get? b=some o->H b=none->∃ sl,h'.get? b=some { o with slots:=sl }) (free:∀ b o,b∉ch->s.heap.get? b=some o->H b=none->H' b=none)
  (there:∀ b o,b∉ch->s.heap.get? b=some o->∃ o',h'.get? b=some o')
  (tups:∀ b xs,H b=some (.tup xs)->H' b=some (.tup xs)) (frzs:∀ b o u,H b=some (.frz o u)->H' b=some (.frz o u)) (tbls:∀ b ps,H b=some (.tbl ps)->∃ more,H' b=some (.tbl (ps++more)))
  (ns:∀ m,s.heap.Ns X.env.locals m->h'.Ns X.env.locals m) (hok:HOk X.prog X.w H' h') (hg:AllBare g') :
  Inv X pins σ H' { s with heap:=h',gens:=g',drawn:=d',toks:=t' }:=by
 have Ko:∀ b o,X.s₀.heap.get? b=some o->b≠X.env.locals:=fun b o e=>qC7 (qB0 (qB7 e) I.ok.above)
 have Kp:∀ b o,X.s₀.heap.get? b=some o->b∉X.ex->b∉ch:=fun b o e hx hb=>by
  rcases (Ik b hb).1 with z | z
  ·exact hx z
  ·exact absurd (qB0 (qB7 e) z) (qG9 _)
 have cellK:∀ x c,X.env.cells.lookup x=some c->∀ v,s.heap.IsCell c v->h'.IsCell c v:=fun x c e v zz1=>by
  obtain ⟨o,ho,hd⟩:=zz1
  have JF:c∉ch:=fun z=>(Ik c z).2.2.1 x c e rfl
  by_cases hc:c∈X.fs
  ·obtain ⟨sl,q⟩:=slot c o (I.cne x c e) hc JF ho (I.freeC x c e)
   exact ⟨_,q,hd⟩
  ·exact ⟨o,keep c o (I.cne x c e) hc JF ho (I.freeC x c e),hd⟩
 refine ⟨I.ok,I.os,hg,⟨fun b o e n hb hx=>?_,fun b o e n hb hx=>?_,fun b o e n hx=>?_,fun b o e hx=>?_,fun b xs e=>tups b xs (I.base.tups b xs e),fun b o xs e=>frzs b o xs (I.base.frzs b o xs e),fun b ps e=>?_⟩,?_,fun x c e=>?_,?_,fun x c e=>?_,fun p hp=>?_,hok,I.len⟩
 ·exact keep b o (Ko b o e) hb (Kp b o e hx) (I.base.keep b o e n hb hx) (I.base.free b o e n hx)
 ·obtain ⟨sl,e1⟩:=I.base.slot b o e n hb hx
  obtain ⟨sl',e2⟩:=slot b _ (Ko b o e) hb (Kp b o e hx) e1 (I.base.free b o e n hx)
  exact ⟨sl',e2⟩
 ·obtain ⟨o',e1⟩:=I.base.there b o e hx
  exact free b o' (Kp b o e hx) e1 (I.base.free b o e n hx)
 ·obtain ⟨o',e1⟩:=I.base.there b o e hx
  exact there b o' (Kp b o e hx) e1
 ·obtain ⟨m1,e1⟩:=I.base.tbls b ps e
  obtain ⟨m2,e2⟩:=tbls b _ e1
  exact ⟨m1++m2,by rw [e2,Array.append_assoc]⟩
 ·obtain ⟨m,hn,hl⟩:=I.loc
  refine ⟨m,ns m hn,fun i x v e1 e2 e3=>?_⟩
  obtain ⟨u,r,l⟩:=hl i x v e1 e2 e3
  refine ⟨u,r,?_⟩
  rcases l with l | ⟨k,c,e,z⟩
  ·exact .inl l
  ·exact .inr ⟨k,c,e,cellK x c e _ z⟩
 ·obtain ⟨v,z⟩:=I.cell x c e
  exact ⟨v,cellK x c e v z⟩
 ·obtain ⟨m,⟨o,_,_,ho,_⟩,_⟩:=I.loc
  exact free _ o (fun z=>(Ik _ z).2.1 rfl) ho I.free
 ·obtain ⟨v,o,ho,hd⟩:=I.cell x c e
  exact free c o (fun z=>(Ik c z).2.2.1 x c e rfl) ho (I.freeC x c e)
 ·obtain ⟨e,n,ne,nf,d⟩:=I.pin p hp
  have JF:p.1∉ch:=fun z=>(Ik p.1 z).2.2.2 p hp rfl
  exact ⟨keep p.1 p.2 ne nf JF e n,free p.1 p.2 JF e n,ne,nf,d⟩
def Inv.un {t':Nat} (I:Inv X pins σ H s) (u:Un X.fs [] H H' s.heap h') (hok:HOk X.prog X.w H' h'):Inv X pins σ H' { s with heap:=h',toks:=t' }:=by
 obtain ⟨m,⟨o,es,ep,ho,r⟩,_⟩:=id I.loc
 obtain ⟨sl,hL⟩:=u.any ho I.free (by simp)
 exact I.step (g':=s.gens) (d':=s.drawn) (ch:=[]) (fun _ z=>nomatch z) (fun b o _ hb _ e n=>u.keep b o e n hb (by simp)) (fun b o _ hb _ e n=>u.slot b o e n hb (by simp)) (fun b o _ e n=>u.free b o e n (by simp)) (fun b o _ e=>u.there b o e (by simp)) u.tups u.frzs u.tbls (fun m' hm=>by
  obtain ⟨o',Iv,LF,Ho,r'⟩:=hm
  rw [ho] at Ho; cases Ho
  exact ⟨_,Iv,LF,hL,r'⟩) hok I.bare
def Inv.call {g':Array GenState} {t':Nat} {d':Drawn} {ch:List Addr} (I:Inv X pins σ H s) (u:Un (frs X.stack) ch H H' s.heap h') (hok:HOk X.prog X.w H' h') (hg:AllBare g')
  (Ik:∀ b∈ch,(b∈X.ex\/X.s₀.heap.objs.size<=b)/\b≠X.env.locals/\(∀ x c,X.env.cells.lookup x=some c->c≠b)/\∀ p∈X.pn++pins,p.1≠b) :
  Inv X pins σ H' { s with heap:=h',gens:=g',drawn:=d',toks:=t' }:=by
 obtain ⟨m,⟨o,es,ep,ho,r⟩,_⟩:=id I.loc
 obtain ⟨sl,hL⟩:=u.any ho I.free fun z=>(Ik _ z).2.1 rfl
 exact I.step (ch:=ch) Ik (fun b o hL hb hc e n=>u.keep b o e n (fun z=>(qB3.mp (I.stkSub b z)).elim hL hb) hc) (fun b o _ _ hc e n=>u.any e n hc) (fun b o hc e n=>u.free b o e n hc) (fun b o hc e=>u.there b o e hc) u.tups u.frzs u.tbls (fun m' hm=>by
  obtain ⟨o',Iv,LF,Ho,r'⟩:=hm
  rw [ho] at Ho; cases Ho
  exact ⟨_,Iv,LF,hL,r'⟩) hok hg
def Inv.turned {t':Nat} {it:Addr} (I:Inv X pins σ H s) (k:∀ b o,b≠it->s.heap.get? b=some o->h'.get? b=some o) (hn:H it=none) (hL:it≠X.env.locals)
  (h1:it∈X.ex\/X.s₀.heap.objs.size<=it) (h2:∀ x c,X.env.cells.lookup x=some c->c≠it) (h3:∀ p∈X.pn++pins,p.1≠it):Inv X pins σ H { s with heap:=h',toks:=t' }:=by
 have Il:∀ b u,H b=some u->b≠it:=fun b u e z=>by rw [z,hn] at e; cases e
 refine I.step (g':=s.gens) (d':=s.drawn) (ch:=[it]) (fun b hb=>?_) (fun b o _ _ hc e _=>k b o (fun z=>hc (by simp [z])) e) (fun b o _ _ hc e _=>⟨o.slots,k b o (fun z=>hc (by simp [z])) e⟩) (fun _ _ _ _ n=>n)
  (fun b o hc e=>⟨o,k b o (fun z=>hc (by simp [z])) e⟩) (fun _ _ e=>e) (fun _ _ _ e=>e) (fun b ps e=>⟨#[],by rw [e]; simp⟩) (fun m hm=>?_) (fun b u e=>?_) I.bare
 ·have e:b=it:=by simpa using hb
  subst e
  exact ⟨h1,hL,h2,h3⟩
 ·obtain ⟨o,es,ep,ho,r⟩:=hm
  exact ⟨o,es,ep,k _ o (Ne.symm hL) ho,r⟩
 ·refine (I.hok b u e).stay (fun c v hc q=>k c v ?_ q) (fun _ q=>q) fun _ _ q=>q
  rcases hc with z | z
  ·rw [z]; exact Il b u e
  ·exact Il c _ z
def Inv.tok (I:Inv X pins σ H s) (t:Nat):Inv X pins σ H { s with toks:=t }:=I.un (h':=s.heap) (t':=t) Un.refl I.hok
def Inv.kept {t':Nat} (I:Inv X pins σ H s) (k:∀ b u,s.heap.get? b=some u->h'.get? b=some u):Inv X pins σ H { s with heap:=h',toks:=t' }:=I.un (Un.kept k) (I.hok.kept k)
def Inv.laid {a:Addr} {o:HO} {t':Nat} (I:Inv X pins σ H s) (k:∀ b u,s.heap.get? b=some u->h'.get? b=some u) (hp:s.heap.objs.size<=a) (new:ObjOk X.prog X.w (upd H a o) h' a o) :
  Inv X pins σ (upd H a o) { s with heap:=h',toks:=t' }:=I.un (Un.laid k hp (I.hok.fresh hp)) (I.hok.laid k hp new)
def Inv.write {x e:Addr} {o:HO} {t':Nat} (I:Inv X pins σ H s) (mu:Mut (H x)) (he:e=x\/H e=some (.own x)) (k:∀ b u,b≠e->s.heap.get? b=some u->h'.get? b=some u) (Jv:∃ u,h'.get? e=some u)
  (new:ObjOk X.prog X.w (upd H x o) h' x o):Inv X pins σ (upd H x o) { s with heap:=h',toks:=t' }:=I.un (Un.write mu he k Jv) (I.hok.write mu he k Jv new)
def Inv.weak {σ':List (Option V)} (I:Inv X pins σ H s) (hl:σ'.length=σ.length) (w:∀ (i:Nat) v,σ'[i]?=some (some v)->σ[i]?=some (some v)):Inv X pins σ' H s:=
 ⟨I.ok,I.os,I.bare,I.base,let ⟨m,hn,IZ⟩:=I.loc; ⟨m,hn,fun i x v e1 e2 e3=>IZ i x v e1 (w i v e2) e3⟩,I.cell,I.free,I.freeC,I.pin,I.hok,hl.trans I.len⟩
def Inv.pins_of {pins':List (Addr×Obj)} (I:Inv X pins σ H s) (h:∀ p∈pins',s.heap.get? p.1=some p.2/\H p.1=none/\p.1≠X.env.locals/\p.1∉X.fs/\∀ v,p.2.data≠.cell v):Inv X pins' σ H s:=
 ⟨I.ok,I.os,I.bare,I.base,I.loc,I.cell,I.free,I.freeC,fun p hp=>(qD9.mp hp).elim (fun z=>I.pin p (qF3 _ z)) (h p),I.hok,I.len⟩
def jU {N:List Str} (hN:N.Nodup) {i j:Nat} {x:Str} (a:N[i]?=some x) (b:N[j]?=some x):i=j:=by
 obtain ⟨h1,e1⟩:=qA7.mp a
 obtain ⟨h2,e2⟩:=qA7.mp b
 exact (List.getElem_inj hN).mp (e1.trans e2.symm)
def hV {M:Model} {A:Around} {E:Value->Shared->Prop} {i:Nat} {x:Str} {v:V} {u:Value} {Q:Unit->Shared->Prop} (I:Inv X pins σ H s) (hN:X.N.Nodup) (hi:X.N[i]?=some x) (hx:Loc X.env.scope x) (r:RelV v u)
  (h:∀ s',Inv X pins (σ.set i (some v)) H s'->(∃ a,Heap.SameBut a s.heap s'.heap/\(a=X.env.locals\/X.env.cells.lookup x=some a))->Q () s') (hf:X.fn x=true\/X.env.scope.names.lookup x=some .local:=by first | exact .inl rfl | exact .inr rfl | assumption):wpAny M A (storeName X.env x u) Q E s:=by
 obtain ⟨m,hn,hl⟩:=id I.loc
 have hcls:(X.env.scope.kind == .class||(X.env.scope.kind == .module&&X.env.locals != X.env.globals))=false:=by rw [I.ok.kind]; rfl
 have hiσ:i<σ.length:=by rw [I.len]; exact (qA7.mp hi).1
 have cne:=I.cne
 have tracked:∀ {a:Addr} {h':Heap},(∃ o,s.heap.get? a=some o/\H a=none)->Heap.SameBut a s.heap h'->HOk X.prog X.w H h':=fun {a h'} ha hs b ob e=>by
  obtain ⟨_,_,Hv⟩:=ha
  refine (I.hok b ob e).stay (fun c w' hc q=>(hs.2 c ?_).trans q) (fun _ q=>q) fun _ _ q=>q
  rintro rfl
  rcases hc with rfl | hc
  ·rw [Hv] at e; cases e
  ·rw [Hv] at hc; cases hc
 rcases hx with hk | hk
 ·refine wpAny_storeName_local hk hn (fun h' hn' hs=>?_) hcls
  obtain ⟨oL,_,_,hoL,_⟩:=id hn
  refine h _ ⟨I.ok,I.os,I.bare,⟨fun b o e n hb hx=>?_,fun b o e n hb hx=>?_,I.base.free,fun b o e hx=>?_,I.base.tups,I.base.frzs,I.base.tbls⟩,⟨_,hn',fun j y v' e1 e2 e3=>?_⟩,fun y c e=>?_,I.free,I.freeC,fun p hp=>?_,tracked ⟨oL,hoL,I.free⟩ hs,by simpa using I.len⟩ ⟨_,hs,.inl rfl⟩
  ·exact (hs.2 b (qC7 (qB0 (qB7 e) I.ok.above))).trans (I.base.keep b o e n hb hx)
  ·obtain ⟨sl,e1⟩:=I.base.slot b o e n hb hx
   exact ⟨sl,(hs.2 b (qC7 (qB0 (qB7 e) I.ok.above))).trans e1⟩
  ·obtain ⟨o',e1⟩:=I.base.there b o e hx
   exact ⟨o',(hs.2 b (qC7 (qB0 (qB7 e) I.ok.above))).trans e1⟩
  ·by_cases hj:j=i
   ·subst hj
    rw [hi] at e1; cases e1
    rw [qE4 hiσ] at e2
    cases e2
    exact ⟨u,r,.inl ⟨hk,by simp⟩⟩
   ·rw [qB9 (Ne.symm hj)] at e2
    obtain ⟨u',r',q⟩:=hl j y v' e1 e2 e3
    refine ⟨u',r',?_⟩
    rcases q with ⟨k,e⟩ | ⟨k,c,e,z⟩
    ·refine .inl ⟨k,?_⟩
     have:y≠x:=fun e=>hj (jU hN e1 (e ▸ hi))
     simp [this,e]
    ·exact .inr ⟨k,c,e,z.sameBut hs (cne y c e)⟩
  ·obtain ⟨w',z⟩:=I.cell y c e
   exact ⟨w',z.sameBut hs (cne y c e)⟩
  ·obtain ⟨e,n,ne,nf,d⟩:=I.pin p hp
   exact ⟨(hs.2 p.1 ne).trans e,n,ne,nf,d⟩
 ·have JW:X.fn x=true:=by
   rcases hf with z | z
   ·exact z
   ·rw [z] at hk; cases hk
  obtain ⟨c,hc⟩:=I.ok.has x (.inl hk)
  obtain ⟨w',z⟩:=I.cell x c hc
  refine wpAny_storeName_cell I.ok.kind hk hc z (fun h' IJ hs=>?_)
  obtain ⟨oc,hoc,hocd⟩:=id z
  refine h { s with heap:=h' } ⟨I.ok,I.os,I.bare,⟨fun b o e n hb hx=>?_,fun b o e n hb hx=>?_,I.base.free,fun b o e hx=>?_,I.base.tups,I.base.frzs,I.base.tbls⟩,⟨m,hn.sameBut hs (Ne.symm (cne x c hc)),fun j y v' e1 e2 e3=>?_⟩,fun y c' e=>?_,I.free,I.freeC,fun p hp=>?_,tracked ⟨oc,hoc,I.freeC x c hc⟩ hs,by simpa using I.len⟩ ⟨c,hs,.inr hc⟩
  ·exact (hs.2 b (qC7 (qB0 (qB7 e) (I.ok.cab x c JW hc)))).trans (I.base.keep b o e n hb hx)
  ·obtain ⟨sl,e1⟩:=I.base.slot b o e n hb hx
   exact ⟨sl,(hs.2 b (qC7 (qB0 (qB7 e) (I.ok.cab x c JW hc)))).trans e1⟩
  ·obtain ⟨o',e1⟩:=I.base.there b o e hx
   exact ⟨o',(hs.2 b (qC7 (qB0 (qB7 e) (I.ok.cab x c JW hc)))).trans e1⟩
  ·by_cases hj:j=i
   ·subst hj
    rw [hi] at e1; cases e1
    rw [qE4 hiσ] at e2
    cases e2
    exact ⟨u,r,.inr ⟨.inl hk,c,hc,IJ⟩⟩
   ·rw [qB9 (Ne.symm hj)] at e2
    obtain ⟨u',r',q⟩:=hl j y v' e1 e2 e3
    refine ⟨u',r',?_⟩
    rcases q with q | ⟨k,c',e,z'⟩
    ·exact .inl q
    ·refine .inr ⟨k,c',e,z'.sameBut hs ?_⟩
     rintro rfl
     exact hj (jU hN e1 (I.ok.inj _ _ _ e hc ▸ hi))
  ·by_cases GP:c'=c
   ·subst GP; exact ⟨_,IJ⟩
   ·obtain ⟨w2,z2⟩:=I.cell y c' e
    exact ⟨w2,z2.sameBut hs GP⟩
  ·obtain ⟨e,n,ne,nf,d⟩:=I.pin p hp
   refine ⟨(hs.2 p.1 ?_).trans e,n,ne,nf,d⟩
   intro q
   rw [q,hoc] at e
   have q':oc=p.2:=Option.some.inj e
   exact d w' (by rw [<- q']; exact hocd)
def dX {M:Model} {A:Around} {E:Value->Shared->Prop} {i:Nat} {x:Str} {v:V} {u:Value} {Q:Unit->Shared->Prop} (I:Inv X pins σ H s) (hN:X.N.Nodup) (hi:X.N[i]?=some x) (hx:Loc X.env.scope x) (r:RelV v u)
  (h:∀ s',Inv X pins (σ.set i (some v)) H s'->Q () s') (hf:X.fn x=true\/X.env.scope.names.lookup x=some .local:=by first | exact .inl rfl | exact .inr rfl | assumption):wpAny M A (storeName X.env x u) Q E s:=
 hV I hN hi hx r (fun s' I' _=>h s' I') hf
def Inv.call' {s':Shared} {ch:List Addr} (I:Inv X pins σ H s) (ho:s'.os=s.os) (u:Un (frs X.stack) ch H H' s.heap s'.heap) (hok:HOk X.prog X.w H' s'.heap) (hg:AllBare s'.gens)
  (Ik:∀ b∈ch,(b∈X.ex\/X.s₀.heap.objs.size<=b)/\b≠X.env.locals/\(∀ x c,X.env.cells.lookup x=some c->c≠b)/\∀ p∈X.pn++pins,p.1≠b):Inv X pins σ H' s':=by
 obtain ⟨h',g',d',t',o'⟩:=s'
 have e:o'=s.os:=ho
 subst e
 exact I.call (g':=g') (t':=t') (d':=d') u hok hg Ik
end
abbrev XK:=Value->Option Addr->Hp->Prop
abbrev St:=List (Option V)
abbrev VK:=V->Hp->Prop
abbrev TE:=St->Hp->VK->Prop
abbrev TT:=St->Hp->(Bool->Hp->Prop)->Prop
abbrev TA:=St->Hp->(List V->Hp->Prop)->Prop
structure Ends where
 nx:St->Hp->Prop
 rt:VK
 bk:St->Hp->Prop:=fun _ _=>False
 ct:St->Hp->Prop:=fun _ _=>False
abbrev TS:=Ends->St->Hp->Prop
def EP (X:Cx) (pins:List (Addr×Obj)) (σ:St) (Q:VK) (u:Value) (s':Shared):Prop:=∃ v H',Inv X pins σ H' s'/\RelV v u/\Q v H'
def TP (X:Cx) (pins:List (Addr×Obj)) (σ:St) (Q:Bool->Hp->Prop) (b:Bool) (s':Shared):Prop:=∃ H',Inv X pins σ H' s'/\Q b H'
def AP (X:Cx) (pins:List (Addr×Obj)) (σ:St) (Q:List V->Hp->Prop) (us:List Value) (s':Shared):Prop:=∃ vs H',Inv X pins σ H' s'/\Vals vs us/\Q vs H'
def SP (X:Cx) (pins:List (Addr×Obj)) (D:Ends) (f:Flow) (s':Shared):Prop:=
 match f with
 | .next=>∃ σ' H',Inv X pins σ' H' s'/\D.nx σ' H'
 | .brk=>∃ σ' H',Inv X pins σ' H' s'/\D.bk σ' H'
 | .cont=>∃ σ' H',Inv X pins σ' H' s'/\D.ct σ' H'
 | .ret u=>∃ v σ' H',Inv X pins σ' H' s'/\RelV v u/\D.rt v H'
def PE (X:Cx) (e:Expr) (t:TE):Prop:=
 ∀ (pins:List (Addr×Obj)) (s:Shared) (σ:St) (H:Hp) (Q:VK),Inv X pins σ H s->t σ H Q->wpAny (model X.prog X.w) X.A (eval e X.env) (EP X pins σ Q) X.xe s
def PT (X:Cx) (e:Expr) (t:TT):Prop:=
 ∀ (pins:List (Addr×Obj)) (s:Shared) (σ:St) (H:Hp) (Q:Bool->Hp->Prop),Inv X pins σ H s->t σ H Q->wpAny (model X.prog X.w) X.A (isTrue e X.env (eval e X.env)) (TP X pins σ Q) X.xe s
def PW (X:Cx) (e:Expr) (t:TT):Prop:=
 ∀ (whole:Sem Value) (pins:List (Addr×Obj)) (s:Shared) (σ:St) (H:Hp) (Q:Bool->Hp->Prop),Inv X pins σ H s->t σ H Q->wpAny (model X.prog X.w) X.A (isTrue e X.env whole) (TP X pins σ Q) X.xe s
def PW.pt {X:Cx} {e:Expr} {t:TT} (h:PW X e t):PT X e t:=h _
def PA (X:Cx) (es:List Expr) (t:TA):Prop:=
 ∀ (pos:Pos) (pins:List (Addr×Obj)) (s:Shared) (σ:St) (H:Hp) (Q:List V->Hp->Prop),Inv X pins σ H s->t σ H Q->wpAny (model X.prog X.w) X.A (spliced (backTo pos (starEach es X.env))) (AP X pins σ Q) X.xe s
def PS (X:Cx) (st:Stmt) (t:TS):Prop:=
 ∀ (pins:List (Addr×Obj)) (s:Shared) (σ:St) (H:Hp) (D:Ends),Inv X pins σ H s->t D σ H->wpAny (model X.prog X.w) X.A (exec st X.env) (SP X pins D) X.xe s
def PSs (X:Cx) (st:List Stmt) (t:TS):Prop:=
 ∀ (pins:List (Addr×Obj)) (s:Shared) (σ:St) (H:Hp) (D:Ends),Inv X pins σ H s->t D σ H->wpAny (model X.prog X.w) X.A (execs st X.env) (SP X pins D) X.xe s
def thn {α:Type} {t:Sem α} {Q Q':α->Shared->Prop} {M:Model} {A:Around} {E:Value->Shared->Prop} {s:Shared} (h:wpAny M A t Q E s) (hQ:∀ a s,Q a s->Q' a s):wpAny M A t Q' E s:=wpAny_mono h hQ fun _ _ x=>x
end L2
namespace L2
open PySem PySem.Spec PyProof.Rows
section
variable {X:Cx}
def bH (i:Nat):TE:=fun σ H Q=>∃ v,σ[i]?=some (some v)/\Q v H
def tC (v:V):TE:=fun _ H Q=>Q v H
def X2 {i:Nat} {x:Str} {pos:Pos} (hN:X.N[i]?=some x) (hv:Vis X.env.scope x) (hd:(x == ("__debug__" : Str))=false:=by decide) (GN:(x == ("__classdict__" : Str))=false:=by decide):PE X (.Name x pos) (bH i):=by
 intro pins s σ H Q I h
 obtain ⟨v,e,h⟩:=h
 obtain ⟨m,hn,hl⟩:=I.loc
 obtain ⟨u,r,l⟩:=hl i x v hN e hv
 have fin:EP X pins σ Q u s:=⟨v,H,I,r,h⟩
 rcases l with ⟨hk,hm⟩ | ⟨hk,c,hc,hcell⟩
 ·exact wpAny_Name (wpAny_loadName_local I.ok.kind hk hn hm fin) hd
 ·rcases hk with hk | hk
  ·exact wpAny_Name (wpAny_loadName_cell I.ok.kind hk hc hcell fin) hd
  ·exact wpAny_Name (wpAny_loadName_free I.ok.kind hk hc hcell fin GN) hd
def pe_int {i j pos}:PE X (.Constant (.int i) j pos) (tC (.int i)):=fun _ _ _ H _ I h=>wpAny_Constant_int ⟨.int i,H,I.tok _,⟨_,rfl⟩,h⟩
def pe_bl {b j pos}:PE X (.Constant (.bool b) j pos) (tC (.bl b)):=fun _ _ _ H _ I h=>Constant_bool ⟨.bl b,H,I,rfl,h⟩
def pe_non {j pos}:PE X (.Constant .none j pos) (tC .non):=fun _ _ _ H _ I h=>Constant_none ⟨.non,H,I,rfl,h⟩
def pe_str {x j pos}:PE X (.Constant (.str x) j pos) (tC (.str x)):=fun _ _ _ H _ I h=>Calls.Constant_str ⟨.str x,H,I.tok _,⟨_,rfl⟩,h⟩
def Gl (X:Cx) (x:Str):Prop:=X.env.kindOf x=some .globalImplicit
def mS {E:Value->Shared->Prop} {pins:List (Addr×Obj)} {s:Shared} {σ:St} {H:Hp} {x:Str} {u:Value} {pos:Pos} {Q:Value->Shared->Prop} (I:Inv X pins σ H s) (hg:Gl X x) (hm:X.mg x=some u) (h:Q u s)
  (hd:(x == ("__debug__" : Str))=false:=by decide):wpAny (model X.prog X.w) X.A (eval (.Name x pos) X.env) Q E s:=
 Calls.Name_function_global I.ok.kind hg (Calls.loadGlobal_global (by rw [I.ok.glob]; exact I.mod.glob.keeps I.bk) hm h) hd
def X7 {E:Value->Shared->Prop} {pins:List (Addr×Obj)} {s:Shared} {σ:St} {H:Hp} {x:Str} {u:Value} {pos:Pos} {Q:Value->Shared->Prop} (I:Inv X pins σ H s) (hg:Gl X x) (hm:X.mg x=none) (hv:bootBuiltins x=some u) (h:Q u s)
  (hn:x ≠ "__name__" := by decide) (hd:(x == ("__debug__" : Str))=false:=by decide):wpAny (model X.prog X.w) X.A (eval (.Name x pos) X.env) Q E s:=by
 obtain ⟨mb,h1,h2⟩:=I.mod.blt
 exact Calls.Name_function_global I.ok.kind hg (Calls.loadGlobal_builtin (by rw [I.ok.glob]; exact I.mod.glob.keeps I.bk) hm (by rw [I.ok.blt]; exact h1.keeps I.bk) ((h2 x hn).trans hv) h) hd
variable {a b:Expr} {ta tb:TE} {pos:Pos}
def tB (t:TE):TT:=fun σ H Q=>t σ H fun x H1=>∃ c,x=.bl c/\Q c H1
def AJ {e:Expr} {t:TE} (h:PE X e t) (he:∀ whole,isTrue e X.env whole=(do let v <- whole; standAt e.pos; holding [v] (truthy v)):=by intro _; rfl):PT X e (tB t):=by
 intro pins s σ H Q I hw
 refine isTrue_plain (thn (h pins s σ H _ I hw) fun v s1 Je=>?_) (he _)
 obtain ⟨x,H1,I1,r1,q1⟩:=Je
 obtain ⟨d,rfl,q⟩:=q1
 cases r1
 exact wpAny_truthy_bool ⟨H1,I1,q⟩
variable {tA Kk:TT} {rest:List Expr}
def zr (t u:TT):TT:=fun σ H Q=>t σ H fun c H1=>if c=true then u σ H1 Q else Q false H1
def tOr (t u:TT):TT:=fun σ H Q=>t σ H fun c H1=>if c=true then Q true H1 else u σ H1 Q
def zl (t:TT):TT:=fun σ H Q=>t σ H fun c H1=>Q (!c) H1
def wU (ha:PT X a tA):PW X (.BoolOp .And [a] pos) tA:=by
 intro wh pins s σ H Q I h
 refine isTrue_and (thn (ha pins s σ H Q I h) fun c s1 e=>?_)
 cases c with
 | true=>exact isTrue_and_nil e
 | false=>exact e
def AH (ha:PT X a tA):PW X (.BoolOp .Or [a] pos) tA:=by
 intro wh pins s σ H Q I h
 refine isTrue_or (thn (ha pins s σ H Q I h) fun c s1 e=>?_)
 cases c with
 | false=>exact isTrue_or_nil e
 | true=>exact e
def AI (ha:PT X a tA) (hb:PW X (.BoolOp .And (b::rest) pos) Kk):PW X (.BoolOp .And (a::b::rest) pos) (zr tA Kk):=by
 intro wh pins s σ H Q I h
 refine isTrue_and (thn (ha pins s σ H _ I h) fun c s1 zz3=>?_)
 obtain ⟨H1,I1,q1⟩:=zz3
 cases c with
 | true=>exact hb wh pins s1 σ H1 Q I1 q1
 | false=>exact ⟨H1,I1,q1⟩
def Ek (ha:PT X a tA) (hb:PW X (.BoolOp .Or (b::rest) pos) Kk):PW X (.BoolOp .Or (a::b::rest) pos) (tOr tA Kk):=by
 intro wh pins s σ H Q I h
 refine isTrue_or (thn (ha pins s σ H _ I h) fun c s1 zz4=>?_)
 obtain ⟨H1,I1,q1⟩:=zz4
 cases c with
 | true=>exact ⟨H1,I1,q1⟩
 | false=>exact hb wh pins s1 σ H1 Q I1 q1
def AK (ha:PT X a tA):PT X (.UnaryOp .Not a pos) (zl tA):=by
 intro pins s σ H Q I h
 exact isTrue_not (ha pins s σ H (fun c H1=>Q (!c) H1) I h)
def vx (ta tb:TE):TE:=fun σ H Q=>ta σ H fun x H1=>∃ c,x=.bl c/\if c=true then tb σ H1 Q else Q (.bl false) H1
def AT {op} {t:TE} (h:PE X a t):PE X (.BoolOp op [a] pos) t:=fun pins s σ H Q I hw=>BoolOp_one (h pins s σ H Q I hw)
def AW (ha:PE X a ta) (hb:PE X (.BoolOp .And (b::rest) pos) tb):PE X (.BoolOp .And (a::b::rest) pos) (vx ta tb):=by
 intro pins s σ H Q I h
 refine BoolOp_and (thn (ha pins s σ H _ I h) fun v s1 zz5=>?_)
 obtain ⟨x,H1,I1,r1,q1⟩:=zz5
 obtain ⟨c,rfl,q1⟩:=q1
 cases r1
 refine wpAny_truthy_bool ?_
 cases c with
 | true=>exact hb pins s1 σ H1 Q I1 q1
 | false=>exact ⟨.bl false,H1,I1,rfl,q1⟩
def tIf (t:TT) (ta tb:TE):TE:=fun σ H Q=>t σ H fun c H1=>if c=true then ta σ H1 Q else tb σ H1 Q
def tV {c:Expr} (hc:PT X c tA) (ha:PE X a ta) (hb:PE X b tb):PE X (.IfExp c a b pos) (tIf tA ta tb):=by
 intro pins s σ H Q I h
 refine wpAny_IfExp (thn (hc pins s σ H _ I h) fun d s1 zz6=>?_)
 obtain ⟨H1,I1,q1⟩:=zz6
 cases d with
 | true=>exact ha pins s1 σ H1 Q I1 q1
 | false=>exact hb pins s1 σ H1 Q I1 q1
end
end L2
namespace L2
open PySem PySem.Spec PyProof.Rows
def SqL (K:Frag) (H:Hp) (a:Addr) (xs:List V):Prop:=
 Rd H a (.lst xs) \/
  ∃ (o:Obj) (its:Array Value) (n:Nat),K.lookup a=some o/\o.cls=.type "list" /\ o.dict=none/\o.data=.seq its n/\its.size<=sizeLine/\Vals xs its.toList
def SqT (K:Frag) (H:Hp) (a:Addr) (xs:List V):Prop:=
 Rd H a (.tup xs) \/
  ∃ (o:Obj) (its:Array Value) (n:Nat),K.lookup a=some o/\o.cls=.type "tuple" /\ o.data=.seq its n/\its.size<=sizeLine/\Vals xs its.toList
def absV:Value->Option V
 | .none=>some .non
 | .bool b=>some (.bl b)
 | .int i _=>some (.int i)
 | .str x _=>some (.str x)
 | .bytes b _=>some (.byt b)
 | .float b _=>some (.flt b)
 | .ref a=>some (.ref a)
 | .type n=>some (.ty n)
 | _=>none
def RelV.abs {x:V} {u:Value} (r:RelV x u):absV u=some x:=by
 cases x with
 | non=>cases r; rfl
 | bl _=>cases r; rfl
 | int _=>obtain ⟨t,rfl⟩:=r; rfl
 | str _=>obtain ⟨t,rfl⟩:=r; rfl
 | byt _=>obtain ⟨t,rfl⟩:=r; rfl
 | flt _=>obtain ⟨t,rfl⟩:=r; rfl
 | ref _=>cases r; rfl
 | ty _=>cases r; rfl
def RelV.inj {x y:V} {u:Value} (r:RelV x u) (q:RelV y u):x=y:=Option.some.inj (r.abs.symm.trans q.abs)
def Vals.inj:∀ {xs ys:List V} {us:List Value},Vals xs us->Vals ys us->xs=ys:=by
 intro xs ys us a
 induction a generalizing ys with
 | nil=>intro b; cases b; rfl
 | cons r t ih=>
  intro b
  cases b with
  | cons r' t'=>rw [r.inj r',ih t']
section
variable {X:Cx} {pins:List (Addr×Obj)} {σ:St} {H:Hp} {s:Shared} {a:Addr} {xs ys:List V}
def SqL.of {K:Frag} (h:H a=some (.lst xs)):SqL K H a xs:=.inl (.inl h)
def SqT.of {K:Frag} (h:H a=some (.tup xs)):SqT K H a xs:=.inl (.inl h)
def Inv.list (I:Inv X pins σ H s) (h:SqL X.K H a xs):∃ its:List Value,Vals xs its/\PlainL s.heap a its.toArray/\xs.length<=sizeLine:=by
 rcases h with h | ⟨o,its,n,hk,hc,hd,hs,hz,r⟩
 ·obtain ⟨z,its,n,r,e⟩:=h.ok I.hok
  exact ⟨its,r,⟨_,n,e,rfl,rfl,rfl⟩,z⟩
 ·refine ⟨its.toList,r,⟨o,n,I.kIn a o hk,hc,hd,by simpa using hs⟩,?_⟩
  have e:=r.length
  simp only [qE6] at e
  omega
def Inv.tuple (I:Inv X pins σ H s) (h:SqT X.K H a xs):∃ its:List Value,Vals xs its/\IsTup s.heap a its.toArray/\xs.length<=sizeLine:=by
 rcases h with h | ⟨o,its,n,hk,hc,hs,hz,r⟩
 ·obtain ⟨z,its,r,p⟩:=h.ok I.hok
  exact ⟨its,r,p,z⟩
 ·refine ⟨its.toList,r,⟨o,I.kIn a o hk,hc,n,by simpa using hs⟩,?_⟩
  have e:=r.length
  simp only [qE6] at e
  omega
def Inv.list_inj (I:Inv X pins σ H s) (h:SqL X.K H a xs) (h':SqL X.K H a ys):xs=ys:=by
 obtain ⟨its,r,⟨o,n,e,_,_,d⟩,_⟩:=I.list h
 obtain ⟨its',r',⟨o',n',e',_,_,d'⟩,_⟩:=I.list h'
 rw [e] at e'; cases e'
 rw [d] at d'
 injection d' with d1 _
 have:its=its':=by simpa using congrArg Array.toList d1
 subst this
 exact r.inj r'
def Inv.tuple_inj (I:Inv X pins σ H s) (h:SqT X.K H a xs) (h':SqT X.K H a ys):xs=ys:=by
 obtain ⟨its,r,⟨o,e,_,n,d⟩,_⟩:=I.tuple h
 obtain ⟨its',r',⟨o',e',_,n',d'⟩,_⟩:=I.tuple h'
 rw [e] at e'; cases e'
 rw [d] at d'
 injection d' with d1 _
 have:its=its':=by simpa using congrArg Array.toList d1
 subst this
 exact r.inj r'
end
abbrev Cx.wish (X:Cx) (E:Value->Shared->Prop):Cx:={ X with xe:=E }
abbrev Cx.nox (X:Cx):Cx:=X.wish fun _ _=>False
def Cx.Ok.wish {X:Cx} (ok:X.Ok) (E:Value->Shared->Prop):(X.wish E).Ok:=
 ⟨ok.mod,ok.kind,ok.glob,ok.blt,ok.above,ok.inj,ok.has,ok.cab,ok.hd,ok.frames,ok.stk,ok.exf,ok.bs,ok.bsz,ok.noex,ok.exfs,ok.funs,ok.frf⟩
def Cx.Ok.unwish {X:Cx} {E:Value->Shared->Prop} (ok:(X.wish E).Ok):X.Ok:=
 ⟨ok.mod,ok.kind,ok.glob,ok.blt,ok.above,ok.inj,ok.has,ok.cab,ok.hd,ok.frames,ok.stk,ok.exf,ok.bs,ok.bsz,ok.noex,ok.exfs,ok.funs,ok.frf⟩
section
variable {X:Cx} {pins:List (Addr×Obj)} {σ:St} {H:Hp} {s:Shared} {E:Value->Shared->Prop}
def Inv.wish (I:Inv X pins σ H s) (E:Value->Shared->Prop):Inv (X.wish E) pins σ H s:=⟨I.ok.wish E,I.os,I.bare,I.base,I.loc,I.cell,I.free,I.freeC,I.pin,I.hok,I.len⟩
def Inv.unwish (I:Inv (X.wish E) pins σ H s):Inv X pins σ H s:=⟨I.ok.unwish,I.os,I.bare,I.base,I.loc,I.cell,I.free,I.freeC,I.pin,I.hok,I.len⟩
def SP.unwish {D:Ends} {f:Flow} {s':Shared} (h:SP (X.wish E) pins D f s'):SP X pins D f s':=by
 cases f with
 | next=>obtain ⟨σ',H',I,q⟩:=h; exact ⟨σ',H',I.unwish,q⟩
 | brk=>obtain ⟨σ',H',I,q⟩:=h; exact ⟨σ',H',I.unwish,q⟩
 | cont=>obtain ⟨σ',H',I,q⟩:=h; exact ⟨σ',H',I.unwish,q⟩
 | ret u=>obtain ⟨v,σ',H',I,r,q⟩:=h; exact ⟨v,σ',H',I.unwish,r,q⟩
def PSs.nox {st:List Stmt} {t:TS} (h:PSs X.nox st t):PSs X st t:=fun pins s σ H D I hw=>
 wpAny_mono (h pins s σ H D (I.wish _) hw) (fun _ _ q=>q.unwish) fun _ _ z=>False.elim z
end
section
variable {X:Cx} {st:Stmt} {rest:List Stmt} {t u:TS} {e:Expr} {te:TE} {pos:Pos}
def tNext:TS:=fun D σ H=>D.nx σ H
def sD (t u:TS):TS:=fun D σ H=>t { D with nx:=u D } σ H
def pss_nil:PSs X [] tNext:=fun _ _ σ H _ I h=>wpAny_execs_nil ⟨σ,H,I,h⟩
def jF (h1:PS X st t) (h2:PSs X rest u):PSs X (st::rest) (sD t u):=by
 intro pins s σ H D I h
 refine wpAny_execs_cons (thn (h1 pins s σ H { D with nx:=u D } I h) fun f s1 q=>?_)
 cases f with
 | next=>
  obtain ⟨σ',H',I',q⟩:=q
  exact h2 pins s1 σ' H' D I' q
 | ret v=>exact q
 | brk=>exact q
 | cont=>exact q
def mw (h1:PS X st t):PSs X [st] t:=by
 intro pins s σ H D I h
 refine wpAny_execs_cons (thn (h1 pins s σ H D I h) fun f s1 q=>?_)
 cases f with
 | next=>exact wpAny_execs_nil q
 | ret v=>exact q
 | brk=>exact q
 | cont=>exact q
def Inv.quiet {pins:List (Addr×Obj)} {σ:St} {H:Hp} {s:Shared} (I:Inv X pins σ H s):interactive X.env=false:=by simp [interactive,I.ok.kind]
def cN (te:TE):TS:=fun D σ H=>te σ H fun _ H1=>D.nx σ H1
def aA (he:PE X e te) (hs:swapsWith e none pos.line X.env=pure false:=by rfl):PS X (.Expr e pos) (cN te):=by
 intro pins s σ H D I h
 exact wpAny_Expr_any (thn (he pins s σ H _ I h) fun v s1 zz7=>by obtain ⟨x,H1,I1,r1,q1⟩:=zz7; exact ⟨σ,H1,I1,q1⟩) I.quiet hs
def nB (te:TE):TS:=fun D σ H=>te σ H D.rt
def qi (he:PE X e te):PS X (.Return (some e) pos) (nB te):=by
 intro pins s σ H D I h
 exact wpAny_Return_some (thn (he pins s σ H _ I h) fun v s1 zz8=>by obtain ⟨x,H1,I1,r1,q1⟩:=zz8; exact ⟨x,σ,H1,I1,r1,q1⟩)
def tRetN:TS:=fun D _ H=>D.rt .non H
def ps_retN:PS X (.Return none pos) tRetN:=fun _ _ σ H _ I h=>wpAny_Return_none ⟨.non,σ,H,I,rfl,h⟩
def sE (c:TT) (t u:TS):TS:=fun D σ H=>c σ H fun b H1=>if b=true then t D σ H1 else u D σ H1
def vH {c:Expr} {a b:List Stmt} {tc:TT} (hc:PT X c tc) (ha:PSs X a t) (hb:PSs X b u):PS X (.If c a b pos) (sE tc t u):=by
 intro pins s σ H D I h
 refine wpAny_If (thn (hc pins s σ H _ I h) fun d s1 zz9=>?_)
 obtain ⟨H1,I1,q1⟩:=zz9
 cases d with
 | true=>exact ha pins s1 σ H1 D I1 q1
 | false=>exact hb pins s1 σ H1 D I1 q1
def tNever:TS:=fun _ _ _=>False
def ps_never:PS X st tNever:=fun _ _ _ _ _ _ h=>h.elim
end
abbrev TG:=V->St->Hp->(St->Hp->Prop)->Prop
abbrev TGs:=List V->St->Hp->(St->Hp->Prop)->Prop
def PG (X:Cx) (target:Expr) (t:TG):Prop:=
 ∀ (pins:List (Addr×Obj)) (s:Shared) (σ:St) (H:Hp) (v:V) (u:Value) (Q:St->Hp->Prop),Inv X pins σ H s->RelV v u->t v σ H Q ->
  wpAny (model X.prog X.w) X.A (assign target X.env u) (fun _ s'=>∃ σ' H',Inv X pins σ' H' s'/\Q σ' H') X.xe s
def PGs (X:Cx) (ts:List Expr) (t:TGs):Prop:=
 ∀ (pins:List (Addr×Obj)) (s:Shared) (σ:St) (H:Hp) (vs:List V) (us:List Value) (Q:St->Hp->Prop),Inv X pins σ H s->Vals vs us->t vs σ H Q ->
  wpAny (model X.prog X.w) X.A (assignInOrder ((assignEach ts X.env).map (·.2)) us) (fun _ s'=>∃ σ' H',Inv X pins σ' H' s'/\Q σ' H') X.xe s
abbrev TSet:=V->V->V->Hp->(Hp->Prop)->Prop
abbrev TIp:=V->V->Hp->VK->Prop
def PIp (X:Cx) (op:Operator) (t:TIp):Prop:=
 ∀ (pins:List (Addr×Obj)) (s:Shared) (σ:St) (H:Hp) (x y:V) (v u:Value) (Q:VK),Inv X pins σ H s->RelV x v->RelV y u->t x y H Q ->
  wpAny (model X.prog X.w) X.A (inplaceOp op v u) (EP X pins σ Q) X.xe s
section
variable {X:Cx} {pos:Pos}
def P4 (i:Nat):TG:=fun v σ H Q=>Q (σ.set i (some v)) H
def e8 {i:Nat} {x:Str} (hN:X.N.Nodup) (hi:X.N[i]?=some x) (hx:Loc X.env.scope x) (hf:X.fn x=true\/X.env.scope.names.lookup x=some .local:=by first | exact .inl rfl | exact .inr rfl | assumption):PG X (.Name x pos) (P4 i):=by
 intro pins s σ H v u Q I r h
 exact wpAny_assign_Name (dX I hN hi hx r (fun s' I'=>⟨_,H,I',h⟩) hf)
def gNil:TGs:=fun vs σ H Q=>vs = []/\Q σ H
def ov (t:TG) (u:TGs):TGs:=fun vs σ H Q=>∃ v r,vs=v::r/\t v σ H fun σ' H'=>u r σ' H' Q
def O2:PGs X [] gNil:=by
 intro pins s σ H vs us Q I r h
 obtain ⟨e,h⟩:=h
 subst e
 cases r
 exact assignInOrder_nil ⟨σ,H,I,h⟩
def n9 {e:Expr} {es:List Expr} {t:TG} {u:TGs} (h1:PG X e t) (h2:PGs X es u)
  (hs:(assignEach (e::es) X.env).map (·.2)=assign e X.env::(assignEach es X.env).map (·.2):=by rfl):PGs X (e::es) (ov t u):=by
 intro pins s σ H vs us Q I r h
 obtain ⟨v,vr,e1,h⟩:=h
 subst e1
 cases r with
 | cons r rr=>
  rw [hs]
  refine assignInOrder_cons (thn (h1 pins s σ H _ _ _ I r h) fun _ s1 zz10=>?_)
  obtain ⟨σ1,H1,I1,q1⟩:=zz10
  exact h2 pins s1 σ1 H1 _ _ Q I1 rr q1
def ot (K:Frag) (n:Nat) (t:TGs):TG:=fun v σ H Q=>∃ a xs,v=.ref a/\SqT K H a xs/\xs.length=n/\t xs σ H Q
def AS {es:List Expr} {k:Nat} {t:TGs} {n:Nat} (hc:X.calm=true) (h:PGs X es t)
  (hn:(assignEach es X.env).length=n:=by rfl) (GZ:(assignEach es X.env).findIdx? (·.1)=none:=by rfl):PG X (.Tuple es k pos) (ot X.K n t):=by
 intro pins s σ H v u Q I r hw
 obtain ⟨a,xs,e1,hq,hl,hw⟩:=hw
 subst e1
 cases r
 obtain ⟨its,rv,ht,hz⟩:=I.tuple hq
 refine assign_Tuple_tuple (I.ok.hd hc) ht (by simp [hn,<- hl,rv.length]) GZ fun h' hx=>?_
 have I1:Inv X pins σ H { s with heap:=h' }:=I.kept (t':=s.toks) fun b o e=>hx b o (qC7 (qB7 e)) e
 exact h pins _ σ H xs _ Q I1 (by simpa using rv) hw
def gSub (to ti:TE) (t:TSet):TG:=fun v σ H Q=>to σ H fun o H1=>ti σ H1 fun i H2=>t o i v H2 fun H3=>Q σ H3
def fW (te:TE) (g:TG):TS:=fun D σ H=>te σ H fun x H1=>g x σ H1 D.nx
def ff {i:Nat} {x:Str} {e:Expr} {te:TE} {pos':Pos} (hN:X.N.Nodup) (hi:X.N[i]?=some x) (hx:Loc X.env.scope x) (he:PE X e te) (hs:swapsWith e (some (.Name x pos')) pos.line X.env=pure false:=by rfl) (hf:X.fn x=true\/X.env.scope.names.lookup x=some .local:=by first | exact .inl rfl | exact .inr rfl | assumption) :
  PS X (.Assign [.Name x pos'] e pos) (fW te (P4 i)):=by
 intro pins s σ H D I h
 refine wpAny_Assign_Name (thn (he pins s σ H _ I h) fun v s1 zz11=>?_) hs
 obtain ⟨y,H1,I1,r1,q1⟩:=zz11
 exact dX I1 hN hi hx r1 (fun s2 I2=>⟨_,H1,I2,q1⟩) hf
def zq (i:Nat) (te:TE) (ti:TIp):TS:=fun D σ H=>∃ x,σ[i]?=some (some x)/\te σ H fun y H1=>ti x y H1 fun z H2=>D.nx (σ.set i (some z)) H2
def AM {i:Nat} {x:Str} {e:Expr} {te:TE} {op:Operator} {ti:TIp} {pos':Pos} (hN:X.N.Nodup) (hi:X.N[i]?=some x) (hx:Loc X.env.scope x) (he:PE X e te) (ho:PIp X op ti) (hf:X.fn x=true\/X.env.scope.names.lookup x=some .local:=by first | exact .inl rfl | exact .inr rfl | assumption) :
  PS X (.AugAssign (.Name x pos') op e pos) (zq i te ti):=by
 intro pins s σ H D I h
 obtain ⟨v,e1,h⟩:=h
 obtain ⟨m,hn,hl⟩:=I.loc
 have vis:Vis X.env.scope x:=by rcases hx with k | k; exact .inl k; exact .inr (.inl k)
 obtain ⟨u,r,l⟩:=hl i x v hi e1 vis
 refine wpAny_AugAssign_Name ?_
 have go:wpAny (model X.prog X.w) X.A (eval e X.env) (fun w s₂=>wpAny (model X.prog X.w) X.A (inplaceOp op u w) (fun r s₃=>wpAny (model X.prog X.w) X.A (storeName X.env x r) (fun _=>SP X pins D .next) X.xe s₃) X.xe s₂) X.xe s:=by
  refine thn (he pins s σ H _ I h) fun w s1 zz12=>?_
  obtain ⟨y,H1,I1,r1,q1⟩:=zz12
  refine thn (ho pins s1 σ H1 v y u w _ I1 r r1 q1) fun z s2 zz13=>?_
  obtain ⟨zv,H2,I2,r2,q2⟩:=zz13
  exact dX I2 hN hi hx r2 (fun s3 I3=>⟨_,H2,I3,q2⟩) hf
 rcases l with ⟨hk,hm⟩ | ⟨hk,c,hc,hcell⟩
 ·exact wpAny_loadName_local I.ok.kind hk hn hm go
 ·rcases hk with hk | hk
  ·exact wpAny_loadName_cell I.ok.kind hk hc hcell go
  ·rcases hx with k | k
   ·have:X.env.scope.names.lookup x=some .free:=hk
    rw [k] at this; cases this
   ·have:X.env.scope.names.lookup x=some .free:=hk
    rw [k] at this; cases this
def ipI (f:Int->Int->Int):TIp:=fun x y H Q=>∃ i j,x=.int i/\y=.int j/\Q (.int (f i j)) H
def Ca:PIp X .Add (ipI fun i j=>i+j):=by
 intro pins s σ H x y v u Q I r1 r2 h
 obtain ⟨i,j,e1,e2,q⟩:=h
 subst e1; subst e2
 obtain ⟨t,rfl⟩:=r1
 obtain ⟨t',rfl⟩:=r2
 exact iadd_int ⟨.int _,H,I.tok _,⟨_,rfl⟩,q⟩
end
section
variable {X:Cx} {pos:Pos}
def pA (c:TT) (tb:TS):TS:=fun D σ H=>∃ W:Nat->St->Hp->Prop,(∃ m,W m σ H)/\∀ m σ H,W m σ H ->
 c σ H fun b H1=>if b=true then ∃ N:St->Hp->Prop,(∀ σ' H',N σ' H'->∃ m',m'<m/\W m' σ' H')/\tb { D with nx:=N,ct:=N,bk:=D.nx } σ H1 else D.nx σ H1
def tQ {c:Expr} {body:List Stmt} {tc:TT} {tb:TS} (hp:PassesOwn (model X.prog X.w) X.A X.env X.xe) (hc:PT X c tc) (hb:PSs X body tb):PS X (.While c body [] pos) (pA tc tb):=by
 intro pins s σ H D I h
 obtain ⟨W,⟨m0,w0⟩,turn⟩:=h
 refine wpAny_While (codeAny_whileLoop (fun n s'=>∃ σ' H',Inv X pins σ' H' s'/\W n σ' H') ?_ m0 ⟨σ,H,I,w0⟩)
 rintro n s1 ⟨σ1,H1,I1,w1⟩
 refine wpAny_passesOwn hp (thn (hc pins s1 σ1 H1 _ I1 (turn n σ1 H1 w1)) fun b s2 zz14=>?_)
 obtain ⟨H2,I2,q2⟩:=zz14
 cases b with
 | true=>
  obtain ⟨N,hN,q2⟩:=q2
  rw [qA1 rfl]
  refine wpAny_passesOwn hp (thn (hb pins s2 σ1 H2 _ I2 q2) fun f s3 q3=>?_)
  cases f with
  | next=>
   obtain ⟨σ3,H3,I3,n3⟩:=q3
   obtain ⟨m',hm,w3⟩:=hN σ3 H3 n3
   exact ⟨m',hm,σ3,H3,I3,w3⟩
  | cont=>
   obtain ⟨σ3,H3,I3,n3⟩:=q3
   obtain ⟨m',hm,w3⟩:=hN σ3 H3 n3
   exact ⟨m',hm,σ3,H3,I3,w3⟩
  | brk=>exact q3
  | ret v=>exact q3
 | false=>
  rw [qA3 qA4]
  exact wpAny_execs_nil ⟨σ1,H2,I2,q2⟩
end
structure It where
 go:Nat->Hp->Prop
 yld:Nat->Hp->V->Hp->Prop
 stop:Nat->Hp->Prop
def J7 (X:Cx) (pins:List (Addr×Obj)) (H:Hp) (b:Addr):Prop:=
 H b=none/\b≠X.env.locals/\b∉X.fs/\(b∈X.ex\/X.s₀.heap.objs.size<=b)/\(∀ x c,X.env.cells.lookup x=some c->c≠b)/\∀ p∈X.pn++pins,p.1≠b
def Inv.fpOk {X:Cx} {pins:List (Addr×Obj)} {σ:St} {H H':Hp} {s:Shared} {b:Addr} (I:Inv X pins σ H s) (hb:s.heap.objs.size<=b) (hn:H' b=none):J7 X pins H' b:=by
 refine ⟨hn,qJ9 (qB0 I.lt hb),I.nofs hb,.inr (qA9 I.sz hb),fun x c e z=>?_,fun p hp z=>?_⟩
 ·obtain ⟨v,q⟩:=I.cell x c e
  exact absurd (qB0 q.lt (by rw [z]; exact hb)) (qG9 _)
 ·exact absurd (qB0 (qB7 (I.pin p hp).1) (by rw [z]; exact hb)) (qG9 _)
structure Turn (P:Program) (w:World) (K:Frag) (tg:Expr) (J:It) (fp:List Addr) (it:Addr) (tn:Nat->Heap->Prop):Prop where
 mem:it∈fp
 obj:∀ i h,tn i h->∀ b∈fp,∃ o,h.get? b=some o/\∀ v,o.data≠.cell v
 keep:∀ i h h',tn i h->(∀ b∈fp,∀ o,h.get? b=some o->h'.get? b=some o)->tn i h'
 item:∀ (X:Cx),X.prog=P->X.w=w->X.K=K->X.calm=true->∀ (i:Nat) (pins:List (Addr×Obj)) (s:Shared) (σ:St) (H:Hp) (E:Value->Shared->Prop),Inv X pins σ H s->(∀ b∈fp,J7 X pins H b)->tn i s.heap->J.go i H ->
  wpAny (model P w) X.A (pyNext (.ref it)) (fun r s1=>∃ u,r=some u /\
   wpAny (model P w) X.A (letOwnedTupleGo tg (.ref it) u) (fun _ s2=>∃ x H',Inv X pins σ H' s2/\RelV x u/\J.yld i H x H'/\tn (i+1) s2.heap/\∀ b∈fp,H' b=none) E s1) E s
 done:∀ (X:Cx),X.prog=P->X.w=w->X.K=K->X.calm=true->∀ (i:Nat) (pins:List (Addr×Obj)) (s:Shared) (σ:St) (H:Hp) (E:Value->Shared->Prop),Inv X pins σ H s->(∀ b∈fp,J7 X pins H b)->tn i s.heap->J.stop i H ->
  wpAny (model P w) X.A (pyNext (.ref it)) (fun r s1=>r=none/\Inv X pins σ H s1) E s
 self:∀ (A:Around) (i:Nat) (s:Shared) (Q:Value->Shared->Prop) (E:Value->Shared->Prop),tn i s.heap->Q (.ref it) s->wpAny (model P w) A (pyIter (.ref it)) Q E s
abbrev TI:=St->Hp->(It->Hp->Prop)->Prop
def PIE (X:Cx) (pins:List (Addr×Obj)) (σ:St) (tg:Expr) (R:It->Hp->Prop) (IR:Value) (s2:Shared):Prop:=
 ∃ (it:Addr) (fp:List Addr) (tn:Nat->Heap->Prop) (J:It) (H':Hp),IR=.ref it/\Inv X pins σ H' s2/\Turn X.prog X.w X.K tg J fp it tn/\tn 0 s2.heap/\(∀ b∈fp,J7 X pins H' b)/\R J H'
def PI (X:Cx) (tg iter:Expr) (wi:TI):Prop:=
 ∀ (pins:List (Addr×Obj)) (s:Shared) (σ:St) (H:Hp) (R:It->Hp->Prop),Inv X pins σ H s->wi σ H R ->
  wpAny (model X.prog X.w) X.A (eval iter X.env) (fun v s1=>wpAny (model X.prog X.w) X.A (pyIter v) (PIE X pins σ tg R) X.xe s1) X.xe s
def iL {M:Model} {A:Around} {E:Value->Shared->Prop} {s:Shared} {tg:Expr} {it:Addr} {u:Value} {o:Obj} {n:String} {vs:Array Value} {Q:Unit->Shared->Prop} (ho:s.heap.get? it=some o) (hc:o.cls=.type n) (hd:o.data=.fields vs)
    (hn:["enumerate", "zip", "dict_itemiterator", "dict_reverseitemiterator", "odict_iterator", "itertools.zip_longest", "itertools.pairwise"].contains n=false) (hQ:Q () s):wpAny M A (letOwnedTupleGo tg (.ref it) u) Q E s:=by
  unfold letOwnedTupleGo
  cases tg <;> first
    | exact wpAny_pure hQ
    | (cases u <;> first
        | exact wpAny_pure hQ
        | (refine qA2 (wpAny_load ho ?_)
           rw [hc,hd]
           show wpAny M A (if (["enumerate", "zip", "dict_itemiterator", "dict_reverseitemiterator", "odict_iterator", "itertools.zip_longest", "itertools.pairwise"].contains n&&vs[0]? == some (rawInt _))=true then _ else _) Q E s
           rw [qA3 (by intro h; rw [hn,Bool.false_and] at h; cases h)]
           exact wpAny_pure hQ))
def Itl (K:Frag) (a:Addr):It:=
 ⟨fun i H=>∃ xs x,SqL K H a xs/\xs[i]?=some x,fun i H x H'=>H'=H/\∀ xs,SqL K H a xs->xs[i]?=some x,fun i H=>∃ xs,SqL K H a xs/\xs.length<=i⟩
def Itt (K:Frag) (a:Addr):It:=
 ⟨fun i H=>∃ xs x,SqT K H a xs/\xs[i]?=some x,fun i H x H'=>H'=H/\∀ xs,SqT K H a xs->xs[i]?=some x,fun i H=>∃ xs,SqT K H a xs/\xs.length<=i⟩
def Itr (lo:Int) (n:Nat):It:=⟨fun i _=>i<n,fun i H x H'=>H'=H/\x=.int (lo+i),fun i _=>n<=i⟩
def pv {P:Program} {w:World} {K:Frag} {tg:Expr} (a it:Addr):Turn P w K tg (Itl K a) [it] it (fun i h=>h.IsListIter it a i) where
 mem:=by simp
 obj:=fun i h st b hb=>by
  have e:b=it:=by simpa using hb
  subst e
  obtain ⟨o,e,c,d⟩:=st
  exact ⟨o,e,fun v z=>by rw [d] at z; cases z⟩
 keep:=fun i h h' st k=>st.at fun o e=>k it (by simp) o e
 item:=by
  intro X hP hw hK hc i pins s σ H E I hf st hg
  subst hP hw hK
  obtain ⟨xs,x,hq,hx⟩:=hg
  obtain ⟨its,rv,p,hz⟩:=I.list hq
  obtain ⟨u,hu,ru⟩:=rv.get hx
  obtain ⟨f0,f1,f2,f3,f4,f5⟩:=hf it (by simp)
  refine wpAny_pyNext_list_item st p.isList (x:=u) (by simpa using hu) fun h' Gg sb=>?_
  have I1:Inv X pins σ H { s with heap:=h' }:=I.turned (t':=s.toks) (fun b o hb e=>(sb.2 b hb).trans e) f0 f1 f3 f4 f5
  obtain ⟨o,e,c,d⟩:=id Gg
  exact ⟨u,rfl,iL (s:={ s with heap:=h' }) e c d (by decide) ⟨x,H,I1,ru,⟨rfl,fun ys hy=>by rw [I.list_inj hy hq]; exact hx⟩,Gg,fun b hb=>(hf b hb).1⟩⟩
 done:=by
  intro X hP hw hK hc i pins s σ H E I hf st hg
  subst hP hw hK
  obtain ⟨xs,hq,hx⟩:=hg
  obtain ⟨its,rv,p,hz⟩:=I.list hq
  obtain ⟨f0,f1,f2,f3,f4,f5⟩:=hf it (by simp)
  have hl:=rv.length
  exact wpAny_pyNext_list_end (I.ok.hd hc) st p.isList (by simp; omega) fun h' eb=>⟨rfl,I.turned (t':=s.toks) (fun b o hb e=>eb b o hb e) f0 f1 f3 f4 f5⟩
 self:=fun _ _ _ _ _ st h=>wpAny_pyIter_listiter st h
def nv {P:Program} {w:World} {K:Frag} {tg:Expr} (a it:Addr):Turn P w K tg (Itt K a) [it] it (fun i h=>h.IsTupleIter it a i) where
 mem:=by simp
 obj:=fun i h st b hb=>by
  have e:b=it:=by simpa using hb
  subst e
  obtain ⟨o,e,c,d⟩:=st
  exact ⟨o,e,fun v z=>by rw [d] at z; cases z⟩
 keep:=fun i h h' st k=>st.at fun o e=>k it (by simp) o e
 item:=by
  intro X hP hw hK hc i pins s σ H E I hf st hg
  subst hP hw hK
  obtain ⟨xs,x,hq,hx⟩:=hg
  obtain ⟨its,rv,p,hz⟩:=I.tuple hq
  obtain ⟨u,hu,ru⟩:=rv.get hx
  obtain ⟨f0,f1,f2,f3,f4,f5⟩:=hf it (by simp)
  refine wpAny_pyNext_tuple_item st (show s.heap.IsTuple a its.toArray from p) (x:=u) (by simpa using hu) fun h' Gg sb=>?_
  have I1:Inv X pins σ H { s with heap:=h' }:=I.turned (t':=s.toks) (fun b o hb e=>(sb.2 b hb).trans e) f0 f1 f3 f4 f5
  obtain ⟨o,e,c,d⟩:=id Gg
  exact ⟨u,rfl,iL (s:={ s with heap:=h' }) e c d (by decide) ⟨x,H,I1,ru,⟨rfl,fun ys hy=>by rw [I.tuple_inj hy hq]; exact hx⟩,Gg,fun b hb=>(hf b hb).1⟩⟩
 done:=by
  intro X hP hw hK hc i pins s σ H E I hf st hg
  subst hP hw hK
  obtain ⟨xs,hq,hx⟩:=hg
  obtain ⟨its,rv,p,hz⟩:=I.tuple hq
  obtain ⟨f0,f1,f2,f3,f4,f5⟩:=hf it (by simp)
  have hl:=rv.length
  exact wpAny_pyNext_tuple_end (I.ok.hd hc) st (show s.heap.IsTuple a its.toArray from p) (by simp; omega) fun h' eb=>⟨rfl,I.turned (t':=s.toks) (fun b o hb e=>eb b o hb e) f0 f1 f3 f4 f5⟩
 self:=fun _ _ _ _ _ st h=>wpAny_pyIter_tupleiter st h
def ny {P:Program} {w:World} {K:Frag} {tg:Expr} (it:Addr) (lo:Int) (n:Nat):Turn P w K tg (Itr lo n) [it] it (fun i h=>IsRangeIter h it (lo+(i:Nat)*1) ((n:Int)-(i:Nat)) 1) where
 mem:=by simp
 obj:=fun i h st b hb=>by
  have e:b=it:=by simpa using hb
  subst e
  exact ⟨_,st,fun v z=>by
   have z':Data.fields _=Data.cell v:=z
   cases z'⟩
 keep:=fun i h h' st k=>k it (by simp) _ st
 item:=by
  intro X hP hw hK hc i pins s σ H E I hf st hg
  subst hP hw hK
  obtain ⟨f0,f1,f2,f3,f4,f5⟩:=hf it (by simp)
  have W:=Walks.range (prog:=X.prog) (w:=X.w) (I.ok.hd hc) it lo 1 n
  refine W.item i s _ _ hg st fun v h' tk hv Gg kk=>?_
  obtain ⟨t,rfl⟩:=hv
  have I1:Inv X pins σ H { s with heap:=h',toks:=tk }:=I.turned (fun b o hb e=>kk b o (by simpa using hb) e) f0 f1 f3 f4 f5
  refine ⟨_,rfl,iL (s:={ s with heap:=h',toks:=tk }) (n := "range_iterator") Gg rfl rfl (by decide) ⟨.int (lo+i),H,I1,⟨t,?_⟩,⟨rfl,rfl⟩,Gg,fun b hb=>(hf b hb).1⟩⟩
  rw [Int.mul_one]
 done:=by
  intro X hP hw hK hc i pins s σ H E I hf st hg
  subst hP hw hK
  obtain ⟨f0,f1,f2,f3,f4,f5⟩:=hf it (by simp)
  exact wpAny_pyNext_range_end (I.ok.hd hc) st (by have:n<=i:=hg; omega) fun h' eb=>⟨rfl,I.turned (t':=s.toks) (fun b o hb e=>eb b o hb e) f0 f1 f3 f4 f5⟩
 self:=fun _ _ _ _ _ st h=>wpAny_pyIter_rangeiter st h
end L2
namespace L2
open PySem PySem.Spec PyProof.Rows
section
variable {X:Cx} {tg:Expr}
def tF {pins:List (Addr×Obj)} {σ:St} {H:Hp} {s:Shared} {R:It->Hp->Prop} {E:Value->Shared->Prop} {lo hi:Int} {t u v:Tok} {tk:Nat} (I:Inv X pins σ H s) (h1:-(2^62)<=lo) (h2:lo<2^62) (h3:-(2^62)<=hi) (h4:hi<2^62)
  (q:R (Itr lo (hi-lo).toNat) H):wpAny (model X.prog X.w) X.A (pyIter (.ref s.heap.objs.size)) (PIE X pins σ tg R) E { s with heap:=s.heap.push { cls:=.type "range",data:=.fields #[.int lo t,.int hi u,.int 1 v] },toks:=tk }:=by
 refine wpAny_pyIter_range (IsRange.new ..) (small_one h1 h2 h3 h4) ?_
 have I1:Inv X pins σ H { s with heap:=s.heap.push { cls:=.type "range",data:=.fields #[.int lo t,.int hi u,.int 1 v] },toks:=tk }:=I.kept fun b o e=>qA6 _ e
 refine ⟨(s.heap.push { cls:=.type "range",data:=.fields #[.int lo t,.int hi u,.int 1 v] }).objs.size,[(s.heap.push { cls:=.type "range",data:=.fields #[.int lo t,.int hi u,.int 1 v] }).objs.size],_,_,H,rfl,
  I1.kept (t':=tk) fun b o e=>qA6 _ e,ny _ lo (hi-lo).toNat,?_,fun b hb=>?_,q⟩
 ·have e1:lo+((0:Nat):Int)*1=lo:=by simp
  have e2:(((hi-lo).toNat:Nat):Int)-((0:Nat):Int)=Builtin.Range.rangeSize lo hi 1:=by rw [rangeSize_one]; split <;> omega
  show IsRangeIter _ _ (lo+((0:Nat):Int)*1) ((((hi-lo).toNat:Nat):Int)-((0:Nat):Int)) 1
  rw [e1,e2]
  exact qC6 _ rfl
 ·have e:b=(s.heap.push { cls:=.type "range",data:=.fields #[.int lo t,.int hi u,.int 1 v] }).objs.size:=by simpa using hb
  subst e
  exact I1.fpOk (qB1 _) (I1.hok.fresh (qB1 _))
def vP (ta:TA):TI:=fun σ H R=>ta σ H fun vs H1=>∃ j:Int,vs = [.int j] /\ -(2^62)<=j/\j<2^62/\R (Itr 0 j.toNat) H1
def qp {a:Expr} {ta:TA} {p pos:Pos} (hg:Gl X "range") (hm:X.mg "range" = none) (ha:PA X [a] ta) (hs:starEach [a] X.env = [(false,eval a X.env)]:=by rfl):PI X tg (.Call (.Name "range" p) [a] [] pos) (vP ta):=by
 intro pins s σ H R I h
 refine Call_ (X7 I hg hm boot_range (qH7 (thn (ha pos pins s σ H _ I h) fun us s1 zz15=>?_) hs rfl))
 obtain ⟨vs,H1,I1,r1,q1⟩:=zz15
 obtain ⟨j,e,q1,q2,q⟩:=q1
 subst e
 cases r1 with
 | cons r rr=>
  cases rr
  obtain ⟨t,rfl⟩:=r
  exact call_range_1 (tF I1 (by omega) (by omega) q1 q2 (by simpa using q))
def zn (wi:TI) (g:TG) (tb:TS):TS:=fun D σ H=>wi σ H fun J H1=>∃ W:Nat->Nat->St->Hp->Prop,(∃ m,W 0 m σ H1)/\∀ i m σ H,W i m σ H ->
 (J.stop i H/\D.nx σ H)\/(J.go i H/\∃ N:St->Hp->Prop,(∀ σ' H',N σ' H'->∃ m',m'<m/\W (i+1) m' σ' H')/\∀ x H',J.yld i H x H'->g x σ H' fun σ2 H2=>tb { D with nx:=N,ct:=N,bk:=D.nx } σ2 H2)
def bX (fp:List Addr) (h:Heap):List (Addr×Obj):=fp.filterMap fun b=>(h.get? b).map fun o=>(b,o)
def V1 {fp:List Addr} {h:Heap} {b:Addr} {o:Obj} (hb:b∈fp) (e:h.get? b=some o):(b,o)∈bX fp h:=List.mem_filterMap.mpr ⟨b,hb,by rw [e]; rfl⟩
def qz {fp:List Addr} {h:Heap} {p:Addr×Obj} (hp:p∈bX fp h):p.1∈fp/\h.get? p.1=some p.2:=by
 obtain ⟨b,hb,e⟩:=List.mem_filterMap.mp hp
 cases q:h.get? b with
 | none=>rw [q] at e; cases e
 | some o=>
  rw [q] at e
  have e':(b,o)=p:=Option.some.inj e
  subst e'
  exact ⟨hb,q⟩
def Inv.pinned {pins:List (Addr×Obj)} {σ:St} {H:Hp} {s:Shared} {fp:List Addr} (I:Inv X pins σ H s) (hf:∀ b∈fp,J7 X pins H b) (ho:∀ b∈fp,∃ o,s.heap.get? b=some o/\∀ v,o.data≠.cell v):Inv X (pins++bX fp s.heap) σ H s:=
 I.pins_of fun p hp=>(qD9.mp hp).elim (fun z=>I.pin p (qC4 _ z)) fun z=>by
  obtain ⟨hb,e⟩:=qz z
  obtain ⟨f0,f1,f2,_⟩:=hf p.1 hb
  obtain ⟨o,e',d⟩:=ho p.1 hb
  rw [e] at e'; cases e'
  exact ⟨e,f0,f1,f2,d⟩
def Inv.unpinned {pins pl:List (Addr×Obj)} {σ:St} {H:Hp} {s:Shared} (I:Inv X (pins++pl) σ H s):Inv X pins σ H s:=I.pins_of fun p hp=>I.pin p (qC4 _ (qF3 _ hp))
def AL {iter:Expr} {body:List Stmt} {wi:TI} {g:TG} {tb:TS} {pos:Pos} (hp:PassesOwn (model X.prog X.w) X.A X.env X.xe) (hc:X.calm=true) (hi:PI X tg iter wi) (hg:PG X tg g) (hb:PSs X body tb)
  (hs:∀ x,foldedSetIterable iter X.env x=pure x:=by intro _; rfl):PS X (.For tg iter body [] pos) (zn wi g tb):=by
 intro pins s σ H D I h
 refine wpAny_For (thn (hi pins s σ H _ I h) fun v s1 h1=>thn h1 fun IR s2 h2=>?_) hs
 obtain ⟨it,fp,tn,J,H2,e,I2,T,Ic,f2,W,⟨m0,w0⟩,turn⟩:=h2
 subst e
 -- what stays true of the iterator's objects through the loop
 have IO:∀ {H':Hp},(∀ b∈fp,H' b=none)->∀ b∈fp,J7 X pins H' b:=fun hn b hb=>⟨hn b hb,(f2 b hb).2⟩
 refine codeAny_forLoop_any (fun n s'=>∃ i σ' H',Inv X pins σ' H' s'/\tn i s'.heap/\(∀ b∈fp,H' b=none)/\W i n σ' H') ?_ m0 ⟨0,σ,H2,I2,Ic,fun b hb=>(f2 b hb).1,w0⟩
 rintro n s3 ⟨i,σ3,H3,I3,st3,fr3,w3⟩
 rcases turn i n σ3 H3 w3 with ⟨stop,qn⟩ | ⟨go,N,hN,step⟩
 ·refine wpAny_passesOwn hp (thn (T.done X rfl rfl rfl hc i pins s3 σ3 H3 X.xe I3 (IO fr3) st3 stop) fun r s4 ⟨hr,I4⟩=>?_)
  subst hr
  exact wpAny_execs_nil ⟨σ3,H3,I4,qn⟩
 ·refine wpAny_passesOwn hp (thn (T.item X rfl rfl rfl hc i pins s3 σ3 H3 X.xe I3 (IO fr3) st3 go) fun r s4 ⟨u,hr,h4⟩=>?_)
  subst hr
  refine wpAny_passesOwn hp (thn h4 fun _ s5 zz18=>?_)
  obtain ⟨x,H5,I5,r5,y5,Jg,KJ⟩:=zz18
  have I5':=I5.pinned (IO KJ) (T.obj _ _ Jg)
  refine wpAny_passesOwn hp (thn (hg _ s5 σ3 H5 x u _ I5' r5 (step x H5 y5)) fun _ s6 zz19=>?_)
  obtain ⟨σ6,H6,I6,q6⟩:=zz19
  refine wpAny_passesOwn hp (thn (hb _ s6 σ6 H6 _ I6 q6) fun f s7 q7=>?_)
  have again:∀ {σ7:St} {H7:Hp},Inv X (pins++bX fp s5.heap) σ7 H7 s7->N σ7 H7->∃ m,m<n/\∃ i σ' H',Inv X pins σ' H' s7/\tn i s7.heap/\(∀ b∈fp,H' b=none)/\W i m σ' H':=fun {σ7 H7} I7 n7=>by
   obtain ⟨m',hm,w7⟩:=hN σ7 H7 n7
   refine ⟨m',hm,i+1,σ7,H7,I7.unpinned,T.keep _ _ _ Jg fun b hb o e=>(I7.pin (b,o) (qC4 _ (qC4 _ (V1 hb e)))).1,fun b hb=>?_,w7⟩
   obtain ⟨o,e,d⟩:=T.obj _ _ Jg b hb
   exact (I7.pin (b,o) (qC4 _ (qC4 _ (V1 hb e)))).2.1
  cases f with
  | next=>obtain ⟨σ7,H7,I7,n7⟩:=q7; exact again I7 n7
  | cont=>obtain ⟨σ7,H7,I7,n7⟩:=q7; exact again I7 n7
  | brk=>obtain ⟨σ7,H7,I7,q7⟩:=q7; exact ⟨σ7,H7,I7.unpinned,q7⟩
  | ret v=>obtain ⟨x7,σ7,H7,I7,r7,q7⟩:=q7; exact ⟨x7,σ7,H7,I7.unpinned,r7,q7⟩
end
end L2
namespace L2
open PySem PySem.Spec PyProof.Rows
abbrev R2:=V->V->Hp->VK->Prop
def OpR (X:Cx) (f:Value->Value->Sem Value) (r:R2):Prop:=
 ∀ (pins:List (Addr×Obj)) (s:Shared) (σ:St) (H:Hp) (x y:V) (v u:Value) (Q:VK),Inv X pins σ H s->RelV x v->RelV y u->r x y H Q ->
  wpAny (model X.prog X.w) X.A (f v u) (EP X pins σ Q) X.xe s
def UnR (X:Cx) (f:Value->Sem Value) (r:V->Hp->VK->Prop):Prop:=
 ∀ (pins:List (Addr×Obj)) (s:Shared) (σ:St) (H:Hp) (x:V) (v:Value) (Q:VK),Inv X pins σ H s->RelV x v->r x H Q ->
  wpAny (model X.prog X.w) X.A (f v) (EP X pins σ Q) X.xe s
def K0 (X:Cx) (f:Value) (r:List V->Hp->VK->Prop):Prop:=
 ∀ (pins:List (Addr×Obj)) (s:Shared) (σ:St) (H:Hp) (xs:List V) (us:List Value) (Q:VK),Inv X pins σ H s->Vals xs us->r xs H Q ->
  wpAny (model X.prog X.w) X.A (call f us) (EP X pins σ Q) X.xe s
def tOp (r:R2) (ta tb:TE):TE:=fun σ H Q=>ta σ H fun x H1=>tb σ H1 fun y H2=>r x y H2 Q
def tUn (r:V->Hp->VK->Prop) (ta:TE):TE:=fun σ H Q=>ta σ H fun x H1=>r x H1 Q
def rI (C:Int->Int->Prop) (g:Int->Int->V):R2:=fun x y H Q=>∃ i j,x=.int i/\y=.int j/\C i j/\Q (g i j) H
def rI0 (g:Int->Int->V):R2:=fun x y H Q=>∃ i j,x=.int i/\y=.int j/\Q (g i j) H
def rU (g:Int->V):V->Hp->VK->Prop:=fun x H Q=>∃ i,x=.int i/\Q (g i) H
section
variable {X:Cx} {a b c:Expr} {ta tb tc:TE} {pos:Pos}
def vj (ha:PE X a ta) (hb:PE X b tb) {pins:List (Addr×Obj)} {s:Shared} {σ:St} {H:Hp} {R:V->V->Hp->Prop} (I:Inv X pins σ H s)
  (h:ta σ H fun x H1=>tb σ H1 fun y H2=>R x y H2) {Q:Value->Shared->Prop} {f:Value->Value->Sem Value}
  (hf:∀ v u s2 x y H2,Inv X pins σ H2 s2->RelV x v->RelV y u->R x y H2->wpAny (model X.prog X.w) X.A (f v u) Q X.xe s2) :
  wpAny (model X.prog X.w) X.A (eval a X.env) (fun v s₁=>wpAny (model X.prog X.w) X.A (eval b X.env) (fun u s₂=>wpAny (model X.prog X.w) X.A (f v u) Q X.xe s₂) X.xe s₁) X.xe s:=by
 refine thn (ha pins s σ H _ I h) fun v s1 zz20=>?_
 obtain ⟨x,H1,I1,r1,q1⟩:=zz20
 refine thn (hb pins s1 σ H1 _ I1 q1) fun u s2 zz21=>?_
 obtain ⟨y,H2,I2,r2,q2⟩:=zz21
 exact hf v u s2 x y H2 I2 r1 r2 q2
def Et {op:Operator} {r:R2} (ho:OpR X (binaryOp op) r) (ha:PE X a ta) (hb:PE X b tb):PE X (.BinOp a op b pos) (tOp r ta tb):=by
 intro pins s σ H Q I h
 exact wpAny_BinOp (vj ha hb I h fun v u s2 x y H2 I2 rx ry q=>ho pins s2 σ H2 x y v u Q I2 rx ry q)
def Es {op:UnaryOp} {r:V->Hp->VK->Prop} (ho:UnR X (unaryOp op) r) (ha:PE X a ta):PE X (.UnaryOp op a pos) (tUn r ta):=by
 intro pins s σ H Q I h
 exact UnaryOp_ (thn (ha pins s σ H _ I h) fun v s1 zz22=>by obtain ⟨x,H1,I1,r1,q1⟩:=zz22; exact ho pins s1 σ H1 x v Q I1 r1 q1)
def opI {f:Value->Value->Sem Value} {C:Int->Int->Prop} {g:Int->Int->Int}
  (rule:∀ (i j:Int) (t u:Tok) (s:Shared) (Q:Value->Shared->Prop) (E:Value->Shared->Prop),C i j->Q (.int (g i j) s.toks) { s with toks:=s.toks+1 }->wpAny (model X.prog X.w) X.A (f (.int i t) (.int j u)) Q E s) :
  OpR X f (rI C fun i j=>.int (g i j)):=by
 intro pins s σ H x y v u Q I rx ry h
 obtain ⟨i,j,rfl,rfl,hc,q⟩:=h
 obtain ⟨t,rfl⟩:=rx
 obtain ⟨t',rfl⟩:=ry
 exact rule i j t t' s _ _ hc ⟨.int (g i j),H,I.tok _,⟨_,rfl⟩,q⟩
def Ba {f:Value->Value->Sem Value} {g:Int->Int->Int}
  (rule:∀ (i j:Int) (t u:Tok) (s:Shared) (Q:Value->Shared->Prop) (E:Value->Shared->Prop),Q (.int (g i j) s.toks) { s with toks:=s.toks+1 }->wpAny (model X.prog X.w) X.A (f (.int i t) (.int j u)) Q E s) :
  OpR X f (rI0 fun i j=>.int (g i j)):=by
 intro pins s σ H x y v u Q I rx ry h
 obtain ⟨i,j,rfl,rfl,q⟩:=h
 obtain ⟨t,rfl⟩:=rx
 obtain ⟨t',rfl⟩:=ry
 exact rule i j t t' s _ _ ⟨.int (g i j),H,I.tok _,⟨_,rfl⟩,q⟩
def tZ {f:Value->Value->Sem Value} {g:Int->Int->Bool}
  (rule:∀ (i j:Int) (t u:Tok) (s:Shared) (Q:Value->Shared->Prop) (E:Value->Shared->Prop),Q (.bool (g i j)) s->wpAny (model X.prog X.w) X.A (f (.int i t) (.int j u)) Q E s) :
  OpR X f (rI0 fun i j=>.bl (g i j)):=by
 intro pins s σ H x y v u Q I rx ry h
 obtain ⟨i,j,rfl,rfl,q⟩:=h
 obtain ⟨t,rfl⟩:=rx
 obtain ⟨t',rfl⟩:=ry
 exact rule i j t t' s _ _ ⟨.bl (g i j),H,I,rfl,q⟩
def B6 (i j:Int):Prop:=0<j/\j<1073741824
def bv (i j:Int):Prop:=0<=j/\j<=1000000/\i.natAbs<2^64
def CMul (i j:Int):Prop:=(-(2^64)<i/\i<2^64)\/(-(2^64)<j/\j<2^64)
def CMul.ok {i j:Int} (h:CMul i j):IntMulOk i j:=by
 rcases h with ⟨h1,h2⟩ | ⟨h1,h2⟩
 ·exact .of_left (intBits_le_64 h1 h2)
 ·exact .of_right (intBits_le_64 h1 h2)
def o9:OpR X (binaryOp .Add) (rI0 fun i j=>.int (i+j)):=Ba fun _ _ _ _ _ _ _ q=>add_int q
def fj:OpR X (binaryOp .Sub) (rI0 fun i j=>.int (i-j)):=Ba fun _ _ _ _ _ _ _ q=>sub_int q
def L3:OpR X (binaryOp .FloorDiv) (rI B6 fun i j=>.int (i/j)):=opI fun i j _ _ _ _ _ hc q=>by
 have h1:(0:Int)<j:=hc.1
 have h2:j<1073741824:=hc.2
 exact floordiv_int (by omega) (by rw [Int.fdiv_eq_ediv_of_nonneg i (by omega)]; exact q) (.inl (PyProof.noPylong_small (by omega)))
def r9:OpR X (binaryOp .Mod) (rI (fun _ j=>0<j) fun i j=>.int (i%j)):=opI fun i j _ _ _ _ _ hc q=>by
 have h1:(0:Int)<j:=hc
 exact mod_int' (by omega) (by rw [Int.fmod_eq_emod_of_nonneg i (by omega)]; exact q)
def qu:OpR X (binaryOp .Pow) (rI bv fun i j=>.int (i^j.toNat)):=opI fun _ _ _ _ _ _ _ hc q=>pow_int_small hc.1 hc.2.1 hc.2.2 q
def unI {f:Value->Sem Value} {g:Int->Int}
  (rule:∀ (i:Int) (t:Tok) (s:Shared) (Q:Value->Shared->Prop) (E:Value->Shared->Prop),Q (.int (g i) s.toks) { s with toks:=s.toks+1 }->wpAny (model X.prog X.w) X.A (f (.int i t)) Q E s) :
  UnR X f (rU fun i=>.int (g i)):=by
 intro pins s σ H x v Q I rx h
 obtain ⟨i,rfl,q⟩:=h
 obtain ⟨t,rfl⟩:=rx
 exact rule i t s _ _ ⟨.int (g i),H,I.tok _,⟨_,rfl⟩,q⟩
def bG:UnR X (unaryOp .USub) (rU fun i=>.int (-i)):=unI fun _ _ _ _ _ q=>neg_int q
end
def jq:V->V->Bool
 | .non,.non=>true | .non,.int _=>true | .int _,.non=>true | .non,.bl _=>true | .bl _,.non=>true | .non,.str _=>true | .str _,.non=>true
 | .int _,.int _=>true | .bl _,.bl _=>true | .str _,.str _=>true | .byt _,.byt _=>true
 | .int _,.str _=>true | .str _,.int _=>true | .bl _,.str _=>true | .str _,.bl _=>true
 | _,_=>false
def rEq:R2:=fun x y H Q=>jq x y=true/\Q (.bl (decide (x=y))) H
def rNe:R2:=fun x y H Q=>jq x y=true/\Q (.bl (!decide (x=y))) H
def nc {i j:Int}:decide (V.int i=V.int j)=(i == j):=by
 rw [qL4]
 simp
def ri {i j:Bool}:decide (V.bl i=V.bl j)=(i == j):=by
 rw [qL4]
 simp
def mZ {i j:Str}:decide (V.str i=V.str j)=(i == j):=by
 rw [qL4]
 simp
def ng {i j:Array UInt8}:decide (V.byt i=V.byt j)=(i.toList == j.toList):=by
 rw [qL4]
 cases i
 cases j
 simp
section
variable {X:Cx} {a b c:Expr} {ta tb tc:TE} {pos:Pos}
def i5 {pins:List (Addr×Obj)} {σ:St} {H:Hp} {s:Shared} {Q:VK} {k k':Bool} (I:Inv X pins σ H s) (q:Q (.bl k) H) (e:k=k'):EP X pins σ Q (.bool k') s:=by
 subst e
 exact ⟨.bl k,H,I,rfl,q⟩
def L4:OpR X (compareOp .Eq) rEq:=by
 intro pins s σ H x y v u Q I rx ry h
 obtain ⟨hs,q⟩:=h
 cases x with
 | non=>
  cases rx
  cases y with
  | non=>cases ry; exact PySem.EqNone.eq_none_none (i5 I q (by simp))
  | bl j=>cases ry; exact PySem.EqNone.eq_none_bool (i5 I q (by simp))
  | int j=>obtain ⟨t',rfl⟩:=ry; exact PySem.EqNone.eq_none_int (i5 I q (by simp))
  | str j=>obtain ⟨t',rfl⟩:=ry; exact PySem.EqNone.eq_none_str (i5 I q (by simp))
  | _=>exact absurd (show false=true from hs) qA4
 | bl i=>
  cases rx
  cases y with
  | non=>cases ry; exact PySem.EqNone.eq_bool_none (i5 I q (by simp))
  | bl j=>cases ry; exact eq_bool (i5 I q ri)
  | str j=>obtain ⟨t',rfl⟩:=ry; exact PySem.EqMixed.eq_bool_str (i5 I q (by simp))
  | _=>exact absurd (show false=true from hs) qA4
 | int i=>
  obtain ⟨t,rfl⟩:=rx
  cases y with
  | non=>cases ry; exact PySem.EqNone.eq_int_none (i5 I q (by simp))
  | int j=>obtain ⟨t',rfl⟩:=ry; exact eq_int (i5 I q nc)
  | str j=>obtain ⟨t',rfl⟩:=ry; exact PySem.EqMixed.eq_int_str (i5 I q (by simp))
  | _=>exact absurd (show false=true from hs) qA4
 | str i=>
  obtain ⟨t,rfl⟩:=rx
  cases y with
  | non=>cases ry; exact PySem.EqNone.eq_str_none (i5 I q (by simp))
  | bl j=>cases ry; exact PySem.EqMixed.eq_str_bool (i5 I q (by simp))
  | int j=>obtain ⟨t',rfl⟩:=ry; exact PySem.EqMixed.eq_str_int (i5 I q (by simp))
  | str j=>obtain ⟨t',rfl⟩:=ry; exact eq_str (i5 I q mZ)
  | _=>exact absurd (show false=true from hs) qA4
 | byt i=>
  obtain ⟨t,rfl⟩:=rx
  cases y with
  | byt j=>obtain ⟨t',rfl⟩:=ry; exact PySem.W.eq_bytes (i5 I q ng)
  | _=>exact absurd (show false=true from hs) qA4
 | _=>cases y <;> exact absurd (show false=true from hs) qA4
def aX:OpR X (compareOp .NotEq) rNe:=by
 intro pins s σ H x y v u Q I rx ry h
 obtain ⟨hs,q⟩:=h
 cases x with
 | non=>
  cases rx
  cases y with
  | non=>cases ry; exact PySem.EqNone.ne_none_none (i5 I q (by simp))
  | bl j=>cases ry; exact PySem.EqNone.ne_none_bool (i5 I q (by simp))
  | int j=>obtain ⟨t',rfl⟩:=ry; exact PySem.EqNone.ne_none_int (i5 I q (by simp))
  | str j=>obtain ⟨t',rfl⟩:=ry; exact PySem.EqNone.ne_none_str (i5 I q (by simp))
  | _=>exact absurd (show false=true from hs) qA4
 | bl i=>
  cases rx
  cases y with
  | non=>cases ry; exact PySem.EqNone.ne_bool_none (i5 I q (by simp))
  | bl j=>cases ry; exact ne_bool (i5 I q (congrArg not ri))
  | str j=>obtain ⟨t',rfl⟩:=ry; exact PySem.EqMixed.ne_bool_str (i5 I q (by simp))
  | _=>exact absurd (show false=true from hs) qA4
 | int i=>
  obtain ⟨t,rfl⟩:=rx
  cases y with
  | non=>cases ry; exact PySem.EqNone.ne_int_none (i5 I q (by simp))
  | int j=>obtain ⟨t',rfl⟩:=ry; exact ne_int (i5 I q (congrArg not nc))
  | str j=>obtain ⟨t',rfl⟩:=ry; exact PySem.EqMixed.ne_int_str (i5 I q (by simp))
  | _=>exact absurd (show false=true from hs) qA4
 | str i=>
  obtain ⟨t,rfl⟩:=rx
  cases y with
  | non=>cases ry; exact PySem.EqNone.ne_str_none (i5 I q (by simp))
  | bl j=>cases ry; exact PySem.EqMixed.ne_str_bool (i5 I q (by simp))
  | int j=>obtain ⟨t',rfl⟩:=ry; exact PySem.EqMixed.ne_str_int (i5 I q (by simp))
  | str j=>obtain ⟨t',rfl⟩:=ry; exact ne_str (i5 I q (congrArg not mZ))
  | _=>exact absurd (show false=true from hs) qA4
 | byt i=>
  obtain ⟨t,rfl⟩:=rx
  cases y with
  | byt j=>obtain ⟨t',rfl⟩:=ry; exact PySem.W.ne_bytes (i5 I q (congrArg not ng))
  | _=>exact absurd (show false=true from hs) qA4
 | _=>cases y <;> exact absurd (show false=true from hs) qA4
def fk:OpR X (compareOp .Lt) (rI0 fun i j=>.bl (decide (i<j))):=tZ fun _ _ _ _ _ _ _ q=>lt_int q
def vJ:OpR X (compareOp .LtE) (rI0 fun i j=>.bl (decide (i<=j))):=tZ fun _ _ _ _ _ _ _ q=>le_int q
def cX:OpR X (compareOp .Gt) (rI0 fun i j=>.bl (decide (j<i))):=tZ fun _ _ _ _ _ _ _ q=>gt_int q
def L8:OpR X (compareOp .Is) (fun x y H Q=>y=.non/\Q (.bl (decide (x=.non))) H):=by
 intro pins s σ H x y v u Q I rx ry h
 obtain ⟨rfl,q⟩:=h
 cases ry
 refine is_none_gen (i5 I q ?_)
 cases x <;> first
  | (cases rx; rfl)
  | (obtain ⟨t,rfl⟩:=rx; rfl)
def cW:OpR X (compareOp .IsNot) (fun x y H Q=>y=.non/\Q (.bl (!decide (x=.non))) H):=by
 intro pins s σ H x y v u Q I rx ry h
 obtain ⟨rfl,q⟩:=h
 cases ry
 refine isnot_none_gen (i5 I q ?_)
 cases x <;> first
  | (cases rx; rfl)
  | (obtain ⟨t,rfl⟩:=rx; rfl)
def jT (b:Expr) {op:CmpOp} (h:op≠.In:=by decide) (h2:op≠.NotIn:=by decide):behindInMarks op b=false:=by
 have e1:(op == CmpOp.In)=false:=by cases op <;> first | rfl | exact absurd rfl h
 have e2:(op == CmpOp.NotIn)=false:=by cases op <;> first | rfl | exact absurd rfl h2
 cases b <;> simp [behindInMarks,e1,e2]
def xc {op:CmpOp} {r:R2} (ho:OpR X (compareOp op) r) (ha:PE X a ta) (hb:PE X b tb) (hm:behindInMarks op b=false):PE X (.Compare a [op] [b] pos) (tOp r ta tb):=by
 intro pins s σ H Q I h
 exact wpAny_Compare1 (vj ha hb I h fun v u s2 x y H2 I2 rx ry q=>ho pins s2 σ H2 x y v u Q I2 rx ry q) hm
def nA (t:TE):TT:=fun σ H Q=>t σ H fun x H'=>∃ k,x=.bl k/\Q k H'
def wV {op:CmpOp} {r:R2} (ho:OpR X (compareOp op) r) (ha:PE X a ta) (hb:PE X b tb) (hm:behindInMarks op b=false):PT X (.Compare a [op] [b] pos) (nA (tOp r ta tb)):=by
 intro pins s σ H Q I h
 refine wpAny_isTrue_Compare1 (thn (ha pins s σ H _ I h) fun v s1 ⟨x,H1,I1,r1,q1⟩=>thn (hb pins s1 σ H1 _ I1 q1) fun u s2 ⟨y,H2,I2,r2,q2⟩=>
  thn (ho pins s2 σ H2 x y v u _ I2 r1 r2 q2) fun c s3 ⟨z,H3,I3,r3,k,e,q3⟩=>?_) hm
 subst e
 cases r3
 exact wpAny_truthy_bool ⟨H3,I3,q3⟩
def zo (r r':R2) (ta tb tc:TE):TE:=fun σ H Q=>ta σ H fun x H1=>tb σ H1 fun y H2=>r x y H2 fun z H3=>∃ k,z=.bl k /\
 (if k=true then tc σ H3 fun w' H4=>r' y w' H4 Q else Q (.bl false) H3)
def tP {op IP:CmpOp} {r r':R2} (ho:OpR X (compareOp op) r) (Ho:OpR X (compareOp IP) r') (ha:PE X a ta) (hb:PE X b tb) (hc:PE X c tc)
  (hm:lastMarks [op,IP] [b,c]=false:=by with_unfolding_all rfl):PT X (.Compare a [op,IP] [b,c] pos) (nA (zo r r' ta tb tc)):=by
 intro pins s σ H Q I h
 refine isTrue_chain (thn (ha pins s σ H _ I h) fun v s1 ⟨x,H1,I1,r1,q1⟩=>test_link (thn (hb pins s1 σ H1 _ I1 q1) fun u s2 ⟨y,H2,I2,r2,q2⟩=>
  thn (ho pins s2 σ H2 x y v u _ I2 r1 r2 q2) fun d s3 ⟨z,H3,I3,r3,k,e,q3⟩=>?_)) hm
 subst e
 cases r3
 refine wpAny_truthy_bool ?_
 cases k with
 | false=>
  obtain ⟨k',e',q'⟩:=q3
  cases e'
  exact ite_ff ⟨H3,I3,q'⟩
 | true=>
  refine ite_tt (test_last (thn (hc pins s3 σ H3 _ I3 q3) fun w' s4 ⟨z',H4,I4,r4,q4⟩=>thn (Ho pins s4 σ H4 y z' u w' _ I4 r2 r4 q4) fun d' s5 zz30=>?_))
  obtain ⟨z2,H5,I5,r5,k2,e2,q5⟩:=zz30
  subst e2
  cases r5
  exact wpAny_truthy_bool ⟨H5,I5,q5⟩
def fA:(sizeLine:Nat)<2^63:=by rw [sizeLine_eq]; decide
def vals1 {x:V} {us:List Value} (r:Vals [x] us):∃ u,us = [u]/\RelV x u:=by
 cases r with
 | cons r1 r2=>cases r2; exact ⟨_,rfl,r1⟩
def vals2 {x y:V} {us:List Value} (r:Vals [x,y] us):∃ u w',us = [u,w']/\RelV x u/\RelV y w':=by
 cases r with
 | cons r1 r2=>
  cases r2 with
  | cons r3 r4=>cases r4; exact ⟨_,_,rfl,r1,r3⟩
def rF (hc:X.calm=true):K0 X (.builtin "max") (fun xs H Q=>∃ i j,xs = [.int i,.int j]/\Q (.int (if j>i then j else i)) H):=by
 intro pins s σ H xs us Q I r h
 obtain ⟨i,j,rfl,q⟩:=h
 obtain ⟨u,w',rfl,⟨t,rfl⟩,⟨t',rfl⟩⟩:=vals2 r
 refine max_two_ints (I.ok.hd hc) fun h' tk k=>⟨_,H,I.kept k,?_,q⟩
 by_cases hj:j>i
 ·rw [qA1 hj,qA1 hj]; exact ⟨_,rfl⟩
 ·rw [qA3 hj,qA3 hj]; exact ⟨_,rfl⟩
def iA:K0 X (.type "int") (fun xs H Q=>(∃ i,xs = [.int i]/\Q (.int i) H)\/∃ k,xs = [.bl k]/\Q (.int (if k then 1 else 0)) H):=by
 intro pins s σ H xs us Q I r h
 rcases h with ⟨i,rfl,q⟩ | ⟨k,rfl,q⟩
 ·obtain ⟨u,rfl,t,rfl⟩:=vals1 r
  exact call_int_int ⟨.int i,H,I,⟨_,rfl⟩,q⟩
 ·obtain ⟨u,rfl,r1⟩:=vals1 r
  cases r1
  exact call_int_bool ⟨.int (if k then 1 else 0),H,I.tok _,⟨_,rfl⟩,q⟩
end
end L2
namespace L2
open PySem PySem.Spec PyProof.Rows
section
variable {prog:Program} {w:World} {A:Around} {E:Value->Shared->Prop} {s:Shared} {K:Frag} {x dx C f:Addr} {mA:Str->Option Value} {name:Str} {v:Value}
end
section
variable {P:Program} {w:World} {H H':Hp} {h h':Heap} {a C dx:Addr} {fs fs':List (Str×V)}
end
structure Cls (K:Frag) (C:Addr):Prop where
 pg:PySem.W.plainGet K C Str.empty=true
 hd:PySem.W.hasDictIn K C=true
 po:PySem.W.plainOver K C=true
 sa:PySem.W.findIn K (.ref C) "__setattr__" = some (some (.builtin "object.__setattr__"))
section
variable {X:Cx} {pins:List (Addr×Obj)} {σ:St} {H:Hp} {s:Shared} {a C dx:Addr} {fs:List (Str×V)} {f:Str} {v:V} {A:Around} {E:Value->Shared->Prop}
end
section
variable {X:Cx} {o e value:Expr} {f:Str} {pos pos' tpos:Pos} {ta tv:TE}
end
section
variable {X:Cx} {pins:List (Addr×Obj)} {σ:St} {H:Hp} {s:Shared} {A:Around} {E:Value->Shared->Prop} {Q:Value->Shared->Prop} {c:Value} {b:Bool}
end
end L2
namespace L2
open PySem PySem.Spec PyProof.Rows
structure Room (k:Nat) (A:Around):Prop where
 hd:A.handled=none
 dp:A.depth+3*k+5<recursionLimit
 un:A.units+16*k+200<cLine
def Room.mono {j k:Nat} {A:Around} (r:Room k A) (h:j<=k):Room j A:=⟨r.hd,by have:=r.dp; omega,by have:=r.un; omega⟩
def Room.deeper {k:Nat} {A:Around} (r:Room (k+1) A) (env:Env):Room k (A.deeper env):=
 ⟨r.hd,by have:=r.dp; show A.depth+1+3*k+5<_; omega,by have:=r.un; show A.units+3+16*k+200<_; omega⟩
def Room.in1 {k:Nat} {A:Around} (r:Room (k+1) A):Room k A.in1:=
 ⟨r.hd,by have:=r.dp; show A.depth+3*k+5<_; omega,by have:=r.un; show A.units+1+16*k+200<_; omega⟩
def Room.depth {k:Nat} {A:Around} (r:Room k A):A.depth<recursionLimit:=by have:=r.dp; omega
def Room.units {k:Nat} {A:Around} (r:Room k A):A.units+64<cLine:=by have:=r.un; omega
def tNil:TA:=fun _ H Q=>Q [] H
def Z6 (ta:TE) (tr:TA):TA:=fun σ H Q=>ta σ H fun x H1=>tr σ H1 fun xs H2=>Q (x::xs) H2
section
variable {X:Cx} {e:Expr} {es:List Expr} {te:TE} {t:TA} {pos:Pos}
def pa_nil:PA X [] tNil:=fun _ _ _ _ H Q I h=>Calls.spliced_nil ⟨[],H,I,.nil,h⟩
def aB (ha:PE X e te) (hr:PA X es t) (hs:starEach (e::es) X.env=(false,eval e X.env)::starEach es X.env:=by rfl):PA X (e::es) (Z6 te t):=by
 intro pos pins s σ H Q I h
 rw [hs]
 show wpAny _ _ (spliced ((false,eval e X.env)::backTo pos (starEach es X.env))) _ _ s
 refine Calls.spliced_cons (thn (ha pins s σ H _ I h) fun u s1 zz31=>?_)
 obtain ⟨x,H1,I1,r1,q1⟩:=zz31
 exact thn (hr pos pins s1 σ H1 _ I1 q1) fun us s2 zz32=>by obtain ⟨xs,H2,I2,r2,q2⟩:=zz32; exact ⟨x::xs,H2,I2,.cons r1 r2,q2⟩
def sA (t:TA):TE:=fun σ H Q=>t σ H fun xs H1=>xs.length<=sizeLine/\∀ p,H1 p=none->Q (.ref p) (upd H1 p (.tup xs))
def zm (t:TA):TE:=fun σ H Q=>t σ H fun xs H1=>xs.length<=sizeLine/\∀ p,H1 p=none->Q (.ref p) (upd H1 p (.lst xs))
def qq {x1} (h:PA X es t):PE X (.Tuple es x1 pos) (sA t):=by
 intro pins s σ H Q I hq
 refine wpAny_Tuple_spliced (thn (h pos pins s σ H _ I hq) fun us s1 ⟨xs,H1,I1,r,z,q⟩=>⟨by rw [<- r.length]; exact z,?_⟩)
 have hf:H1 s1.heap.objs.size=none:=I1.hok.fresh (qB1 _)
 refine ⟨.ref s1.heap.objs.size,upd H1 s1.heap.objs.size (.tup xs),I1.laid (t':=s1.toks) (fun b u e=>qA6 _ e) (qB1 _) ?_,rfl,q _ hf⟩
 exact ⟨z,us,r,⟨_,qC6 _ rfl,rfl,_,rfl⟩⟩
def AU (h:PA X es t):PE X (.List es pos) (zm t):=by
 intro pins s σ H Q I hq
 refine wpAny_List_spliced (thn (h pos pins s σ H _ I hq) fun us s1 ⟨xs,H1,I1,r,z,q⟩=>⟨by rw [<- r.length]; exact z,?_⟩)
 have hf:H1 s1.heap.objs.size=none:=I1.hok.fresh (qB1 _)
 refine ⟨.ref s1.heap.objs.size,upd H1 s1.heap.objs.size (.lst xs),I1.laid (t':=s1.toks) (fun b u e=>qA6 _ e) (qB1 _) ?_,rfl,q _ hf⟩
 exact ⟨z,us,0,r,qC6 _ rfl⟩
end
abbrev Sp:=List V->Hp->VK->XK->Prop
abbrev CXT:=List Env->Hp->Shared->XK->Value->Shared->Prop
structure oP (P:Program) (w:World) (K:Frag) (mg:Str->Option Value) (base:Heap) (A:Around) (outer:List Env) (s:Shared) (H:Hp):Prop where
 frames:A.frames=some outer
 mod:Mod K mg base
 bs:∀ b o,base.get? b=some o->s.heap.get? b=some o/\H b=none
 bsz:base.objs.size<=s.heap.objs.size
 funs:s.heap.FunFrames base outer
 frf:∀ b∈frs outer,H b=none
 hok:HOk P w H s.heap
 bare:AllBare s.gens
def CE (outer:List Env) (P:Program) (w:World) (H:Hp) (s:Shared) (Q:VK) (u:Value) (s':Shared):Prop:=
 ∃ v H',s'.os=s.os/\AllBare s'.gens/\Un (frs outer) [] H H' s.heap s'.heap/\HOk P w H' s'.heap/\RelV v u/\Q v H'
def CR (CX:CXT) (outer:List Env) (P:Program) (w:World) (H:Hp) (s:Shared) (Q:VK) (E:XK) (r:Result) (s':Shared):Prop:=
 match r with
 | .ok (.ret u)=>CE outer P w H s Q u s'
 | .ok _=>False
 | .error e=>CX outer H s E e s'
structure FnOk (P:Program) (w:World) (K:Frag) (mg:Str->Option Value) (base:Heap) (CX:CXT) (k:Nat) (f:Addr) (fd:FuncData) (ps:List Str) (sp:Sp):Prop where
 len:∀ vs H Q E,sp vs H Q E->vs.length=ps.length
 run:∀ (A:Around) (outer:List Env) (s:Shared) (H:Hp) (args:Args) (us:List Value) (vs:List V) (Q:VK) (E:XK),Room k A->oP P w K mg base A outer s H->BindsTo s fd args (ps.zip us)->Vals vs us->sp vs H Q E ->
  codeAny (model P w) A (.call (.ref f) args) (CR CX outer P w H s Q E) s
def FnOk.imp {P:Program} {w:World} {K:Frag} {mg:Str->Option Value} {base:Heap} {CX:CXT} {k:Nat} {f:Addr} {fd:FuncData} {ps:List Str} {sp sp':Sp} (F:FnOk P w K mg base CX k f fd ps sp)
  (h:∀ vs H Q E,sp' vs H Q E->sp vs H Q E):FnOk P w K mg base CX k f fd ps sp':=
 ⟨fun vs H Q E q=>F.len vs H Q E (h _ _ _ _ q),fun A outer s H args us vs Q E hr he hb hv hs=>F.run A outer s H args us vs Q E hr he hb hv (h _ _ _ _ hs)⟩
section
variable {X:Cx} {pins:List (Addr×Obj)} {σ:St} {H:Hp} {s s':Shared}
def Inv.env0 (I:Inv X pins σ H s):oP X.prog X.w X.K X.mg X.base X.A X.stack s H:=
 ⟨I.ok.frames,I.ok.mod,I.bs,qA9 I.ok.bsz I.sz,I.stack,I.stkFree,I.hok,I.bare⟩
def Inv.after {Q:VK} {u:Value} (I:Inv X pins σ H s) (h:CE X.stack X.prog X.w H s Q u s'):EP X pins σ Q u s':=by
 obtain ⟨v,H',os,bare,un,hok,r,q⟩:=h
 obtain ⟨hh,g,d,t,os'⟩:=s'
 obtain rfl:os'=s.os:=os
 exact ⟨v,H',I.call (h':=hh) (g':=g) (d':=d) (t':=t) (ch:=[]) un hok bare (fun b z=>absurd z (by simp)),r,q⟩
end
def eW (sp:Sp) (IL:List V) (E:XK) (t:TA):TE:=fun σ H Q=>t σ H fun vs H1=>sp (vs++IL) H1 Q E
def Binds (K:Frag) (fd:FuncData) (ps:List Str) (ds:List Value):Prop:=
 ∀ (s:Shared) (us:List Value),K.In s.heap->(us++ds).length=ps.length->BindsTo s fd ⟨us,[]⟩ (ps.zip (us++ds))
def Binds.all {K:Frag} {fd:FuncData} {ps:List Str} (h:∀ us:List Value,us.length=ps.length->bindArgs fd ⟨us,[]⟩=pure (ps.zip us)):Binds K fd ps []:=fun s us _ hl=>by
 rw [qG1] at hl ⊢
 exact .of_eq (h us hl)
def lD (CX:CXT) (X:Cx) (E:XK):Prop:=∀ (pins:List (Addr×Obj)) (σ:St) (H:Hp) (s:Shared) (e:Value) (s':Shared),Inv X pins σ H s->CX X.stack H s E e s'->X.xe e s'
section
variable {X:Cx} {CX:CXT} {k:Nat} {f C:Addr} {fd:FuncData} {ps:List Str} {sp:Sp} {IL:List V} {ds:List Value} {E:XK} {x m:Str} {p pos apos:Pos} {e o:Expr} {es:List Expr} {ta:TE} {t:TA}
def pV {pins:List (Addr×Obj)} {σ:St} {H:Hp} {s:Shared} {Q:VK} {us:List Value} {vs:List V} (F:FnOk X.prog X.w X.K X.mg X.base CX k f fd ps sp) (hr:Room k X.A) (hb:Binds X.K fd ps ds) (hd:Vals IL ds) (hx:lD CX X E)
  (I:Inv X pins σ H s) (r:Vals vs us) (h:sp (vs++IL) H Q E):wpAny (model X.prog X.w) X.A (call (.ref f) us) (EP X pins σ Q) X.xe s:=by
 have r2:Vals (vs++IL) (us++ds):=r.append hd
 have hl:(us++ds).length=ps.length:=by rw [<- r2.length]; exact F.len _ _ _ _ h
 refine wpAny_call (codeAny_mono (F.run X.A X.stack s H ⟨us,[]⟩ (us++ds) (vs++IL) Q E hr I.env0 (hb s us I.kIn hl) r2 h) fun r s' hq=>?_)
 cases r with
 | error e=>exact hx pins σ H s e s' I hq
 | ok fl=>
  cases fl with
  | ret u=>exact I.after hq
  | next=>exact False.elim hq
  | brk=>exact False.elim hq
  | cont=>exact False.elim hq
def cV (F:FnOk X.prog X.w X.K X.mg X.base CX k f fd ps sp) (hr:Room k X.A) (hg:Gl X x) (hm:X.mg x=some (.ref f)) (hk:PySem.W.keepIn X.K (.ref f)=true) (hb:Binds X.K fd ps ds) (hd:Vals IL ds) (hx:lD CX X E)
  (ha:PA X (e::es) t) (GR:(x == ("__debug__" : Str))=false:=by decide) (he:starEach (e::es) X.env=(false,eval e X.env)::starEach es X.env:=by rfl) (GH:(backTo pos (starEach es X.env)).any (·.1)=false:=by rfl) :
  PE X (.Call (.Name x p) (e::es) [] pos) (eW sp IL E t):=by
 intro pins s σ H Q I h
 refine wpAny_Call_Name_kw (mS I hg hm ?_ GR)
 refine PySem.W.callWith_K (h₀:=X.base) I.ok.mod.kin hk (thn (ha pos pins s σ H _ I h) fun us s1 ⟨vs,H1,I1,r,q⟩=>⟨I1.kIn,?_⟩) he GH
 exact pV F hr hb hd hx I1 r q
end
def PK (X:Cx) (JH:List Keyword) (t:TA):Prop:=
 ∀ (pos:Pos) (pins:List (Addr×Obj)) (s:Shared) (σ:St) (H:Hp) (Q:List V->Hp->Prop),Inv X pins σ H s->t σ H Q->wpAny (model X.prog X.w) X.A (evalAll ((backToKw pos (keywordEach JH X.env)).map (·.2))) (AP X pins σ Q) X.xe s
section
variable {X:Cx} {CX:CXT} {k:Nat} {f C:Addr} {fd:FuncData} {ps ks:List Str} {sp:Sp} {E:XK} {x m:Str} {p pos apos kpos:Pos} {e o:Expr} {es:List Expr} {JH:List Keyword} {te ta:TE} {t tk:TA} {nm:Option Str}
def AO:PK X [] tNil:=fun _ _ _ _ H Q I h=>wpAny_evalAll_nil ⟨[],H,I,.nil,h⟩
def mz (ha:PE X e te) (hr:PK X JH t):PK X (⟨nm,e,kpos⟩::JH) (Z6 te t):=by
 intro pos pins s σ H Q I h
 show wpAny _ _ (evalAll ((do let v <- eval e X.env; standAt pos; pure v)::(backToKw pos (keywordEach JH X.env)).map (·.2))) _ _ s
 refine wpAny_evalAll_cons (qA2 (thn (ha pins s σ H _ I h) fun u s1 ⟨x,H1,I1,r1,q1⟩=>qA2 (wpAny_standAt (wpAny_pure ?_))))
 exact thn (hr pos pins s1 σ H1 _ I1 q1) fun us s2 zz37=>by obtain ⟨xs,H2,I2,r2,q2⟩:=zz37; exact ⟨x::xs,H2,I2,.cons r1 r2,q2⟩
variable {g:List Value->List Value->List Value} {gV:List V->List V->List V}
end
structure e9 (N P:List Str) (sc:Scope):Prop where
 kind:sc.kind=.function
 co:sc.isCoroutine=false
 gen:sc.isGenerator=false
 nd:N.Nodup
 pre:N.take P.length=P
 par:∀ x∈P,sc.names.lookup x=some .local\/sc.names.lookup x=some .cell
 nofree:∀ y∈sc.names,y.2≠.free
def rN {kindOf:Str->Option NameKind} {x:Str}:∀ {binds:List (Str×Value)} {m:Str->Option Value},(∀ v,(x,v)∉binds)->bindL kindOf binds m x=m x:=by
 intro binds
 induction binds with
 | nil=>intro m _; rfl
 | cons p r ih=>
  intro m h
  unfold bindL
  rw [ih fun w hw=>h w (qA8 _ hw)]
  split
  ·have:x≠p.1:=by rintro rfl; exact h p.2 qB6
   simp [this]
  ·rfl
def rP {kindOf:Str->Option NameKind} {x:Str}:∀ {binds:List (Str×Value)} {m:Str->Option Value},(∀ v,(x,v)∉binds)->bindC kindOf binds m x=m x:=by
 intro binds
 induction binds with
 | nil=>intro m _; rfl
 | cons p r ih=>
  intro m h
  unfold bindC
  rw [ih fun w hw=>h w (qA8 _ hw)]
  split
  ·rfl
  ·have:x≠p.1:=by rintro rfl; exact h p.2 qB6
   simp [this]
def rO {kindOf:Str->Option NameKind} {x:Str} {v:Value}:∀ {P:List Str} {vs:List Value} {i:Nat} {m:Str->Option Value},P.Nodup->P[i]?=some x->vs[i]?=some v->kindOf x=some .local ->
  bindL kindOf (P.zip vs) m x=some v:=by
 intro P
 induction P with
 | nil=>intro vs i m _ h _ _; cases h
 | cons p P ih=>
  intro vs i m nd h1 h2 hk
  cases vs with
  | nil=>cases h2
  | cons w vs=>
   show bindL kindOf ((p,w)::P.zip vs) m x=_
   unfold bindL
   cases i with
   | zero=>
    cases h1
    cases h2
    rw [rN fun v hv=>(List.nodup_cons.mp nd).1 (List.of_mem_zip hv).1,qA1 hk]
    simp
   | succ i=>exact ih (List.nodup_cons.mp nd).2 h1 h2 hk
def rQ {kindOf:Str->Option NameKind} {x:Str} {v:Value}:∀ {P:List Str} {vs:List Value} {i:Nat} {m:Str->Option Value},P.Nodup->P[i]?=some x->vs[i]?=some v->kindOf x≠some .local ->
  bindC kindOf (P.zip vs) m x=some v:=by
 intro P
 induction P with
 | nil=>intro vs i m _ h _ _; cases h
 | cons p P ih=>
  intro vs i m nd h1 h2 hk
  cases vs with
  | nil=>cases h2
  | cons w vs=>
   show bindC kindOf ((p,w)::P.zip vs) m x=_
   unfold bindC
   cases i with
   | zero=>
    cases h1
    cases h2
    rw [rP fun v hv=>(List.nodup_cons.mp nd).1 (List.of_mem_zip hv).1,qA3 hk]
    simp
   | succ i=>exact ih (List.nodup_cons.mp nd).2 h1 h2 hk
def start (N:List Str) (vs:List V):St:=vs.map some++List.replicate (N.length-vs.length) none
def bo (CX:CXT) (P:Program) (w:World) (K:Frag) (mg:Str->Option Value) (base:Heap) (N:List Str) (qual:Str) (scope:Scope) (f:Addr) (cd:Value) (A:Around) (outer:List Env) (s:Shared) (H:Hp) (E:XK):Cx where
 prog:=P
 w:=w
 K:=K
 mg:=mg
 base:=base
 A:=A.deeper (envOfC qual scope s.heap.objs.size f cd)
 N:=N
 s₀:=s
 H₀:=H
 env:=envOfC qual scope s.heap.objs.size f cd
 outer:=outer
 stack:=envOfC qual scope s.heap.objs.size f cd::outer
 ex:=[]
 calm:=true
 fn:=fun _=>true
 pn:=[]
 xe:=fun e s'=>wpAny (model P w) (A.deeper (envOfC qual scope s.heap.objs.size f cd)) (leaving (envOfC qual scope s.heap.objs.size f cd) e) (fun _ HI=>CX outer H s E e HI) (fun e' HI=>CX outer H s E e' HI) s'
def lg {sc:Scope} {n:Nat} {x:Str} (h:sc.names.lookup x=some .cell):∃ c,(cellsFrom n sc.names []).lookup x=some c:=by
 have q:=PySem.W.cellsFrom_some sc.names n [] (.inl h)
 exact Option.isSome_iff_exists.mp q
def qU {CX:CXT} {P:Program} {w:World} {K:Frag} {mg:Str->Option Value} {base:Heap} {N ps:List Str} {qual:Str} {scope:Scope} {f:Addr} {cd:Value} {A:Around} {outer:List Env} {s s1:Shared} {H:Hp} {E:XK} {us:List Value} {vs:List V}
  (S:e9 N ps scope) (hd:A.handled=none) (e0:oP P w K mg base A outer s H) (hl:vs.length=ps.length) (r:Vals vs us)
  (x:InCallC s s.heap.objs.size (bindL (envOfC qual scope s.heap.objs.size f cd).kindOf (ps.zip us) fun _=>none) (cellsFrom (s.heap.objs.size+1) scope.names []) (bindC (envOfC qual scope s.heap.objs.size f cd).kindOf (ps.zip us) fun _=>none) s1) :
  Inv (bo CX P w K mg base N qual scope f cd A outer s H E) [] (start N vs) H s1:=by
 have GH:ps.length<=N.length:=by have:=congrArg List.length S.pre; rw [qI3] at this; omega
 obtain ⟨h1,tk,rfl,hk⟩:=x.done
 have JE:∀ b:Addr,b∉(bo CX P w K mg base N qual scope f cd A outer s H E).ex:=fun b z=>absurd (show b∈([]:List Addr) from z) (by simp)
 refine ⟨⟨e0.mod,S.kind,rfl,rfl,qB1 _,fun y z c h1 h2=>?_,fun y hy=>?_,fun y c _ h=>?_,fun _=>hd,Around.frames_deeper e0.frames,.inr ⟨rfl,rfl⟩,fun b z=>absurd z (JE b),e0.bs,e0.bsz,fun b _ _=>JE b,fun b z=>absurd z (JE b),e0.funs,e0.frf⟩,
  rfl,e0.bare,Un.kept hk,⟨_,x.toInCall.ns,fun i y v h1 h2 h3=>?_⟩,fun y c h=>⟨_,x.cell y c h⟩,e0.hok.fresh (qB1 _),fun y c h=>?_,fun p hp=>absurd (show p∈([]:List (Addr×Obj)) from hp) (by simp),e0.hok.kept hk,?_⟩
 ·exact name_of_addr x.apart (qH9 h1) (qH9 h2)
 ·have hy:scope.names.lookup y=some .cell\/scope.names.lookup y=some .free:=hy
  rcases hy with hy | hy
  ·exact lg hy
  ·exact absurd rfl (S.nofree _ (qH9 hy))
 ·exact qH4 (x.above y c (qH9 h))
 ·have hi:i<vs.length:=by
   unfold start at h2
   by_cases hi:i<vs.length
   ·exact hi
   ·rw [qH0 (by simpa using hi)] at h2
    rw [qG0] at h2
    split at h2 <;> cases h2
  have ha:vs[i]?=some v:=by
   unfold start at h2
   rw [qE2 (by simpa using hi),qB5] at h2
   cases e:vs[i]? with
   | none=>rw [e] at h2; cases h2
   | some a=>rw [e] at h2; cases h2; rfl
  obtain ⟨u,hu,rv⟩:=r.get ha
  have hp:ps[i]?=some y:=by
   rw [<- S.pre,qH5 (by omega)]; exact h1
  have ndP:ps.Nodup:=by rw [<- S.pre]; exact S.nd.sublist (List.take_sublist _ _)
  refine ⟨u,rv,?_⟩
  rcases S.par y (qG2 hp) with k | k
  ·exact .inl ⟨k,rO ndP hp hu k⟩
  ·obtain ⟨c,e⟩:=lg (n:=s.heap.objs.size+1) k
   refine .inr ⟨.inl k,c,e,?_⟩
   have q:=x.cell y c e
   rw [rQ ndP hp hu (by show scope.names.lookup y≠_; rw [k]; decide)] at q
   exact q
 ·exact e0.hok.fresh (qH4 (x.above y c (qH9 h)))
 ·unfold start
  show _=N.length
  rw [qC5,qA5,List.length_replicate]
  omega
def EI {CX:CXT} {P:Program} {w:World} {K:Frag} {mg:Str->Option Value} {base:Heap} {k:Nat} {f:Addr} {name qual:Str} {params:Arguments} {body:List Stmt} {scope:Scope} {dV kV doc pm Gs ct oc:Value} {an od:Option Addr}
  {Ix:Array (Option Value)} {N ps:List Str} {sp:Sp} (lk:K.lookup f=some ⟨oc,od,.func (PySem.W.fnOf name qual params body scope dV kV doc pm an Gs ct),Ix⟩) (GN:PySem.W.codeIn K Gs qual=true) (S:e9 N ps scope)
  (len:∀ vs H Q E,sp vs H Q E->vs.length=ps.length)
  (He:∀ (A:Around) (outer:List Env) (s:Shared) (H:Hp) (vs:List V) (Q:VK) (E:XK),Room k (A.deeper (envOfC qual scope s.heap.objs.size f Gs))->sp vs H Q E ->
   ∃ t,PSs (bo CX P w K mg base N qual scope f Gs A outer s H E) body t/\t { nx:=fun _ H'=>Q .non H',rt:=Q } (start N vs) H) :
  FnOk P w K mg base CX (k+1) f (PySem.W.fnOf name qual params body scope dV kV doc pm an Gs ct) ps sp:=by
 refine ⟨len,fun A outer s H args us vs Q E hr e0 hb r Ie=>?_⟩
 have hl:=len _ _ _ _ Ie
 have KX:K.In s.heap:=e0.mod.kin.keeps fun b o e=>(e0.bs b o e).1
 have lim:s.heap.NoLimit:=e0.mod.nolimit.keeps fun b o e=>(e0.bs b o e).1
 have hkind:∀ y∈ps.zip us,scope.names.lookup y.1=some .local\/(scope.names.lookup y.1=some .cell/\((cellsFrom (s.heap.objs.size+1) scope.names []).lookup y.1).isSome=true):=fun zz38 hy=>by
  obtain ⟨n,v⟩:=zz38
  rcases S.par n (List.of_mem_zip hy).1 with q | q
  ·exact .inl q
  ·exact .inr ⟨q,PySem.W.cellsFrom_some _ _ _ (.inl q)⟩
 refine codeAny_call_function hr.depth (KX _ _ lk) rfl S.co S.gen rfl (PySem.W.codeRec_of KX GN) (hb _ _ _ _ ?_)
 refine wpAny_newFunctionEnv_cells S.kind hkind fun env he s1 x=>?_
 subst he
 refine ⟨lim.keeps x.toInCall.keep,codeAny_func ?_⟩
 obtain ⟨t,ht,hq⟩:=He A outer s H vs Q E (hr.deeper _) Ie
 have I:Inv (bo CX P w K mg base N qual scope f Gs A outer s H E) [] (start N vs) H s1:=qU S hr.hd e0 hl r x
 refine wpAny_mono (ht [] s1 (start N vs) H _ I hq) (fun fl s' hs=>?_) fun e s' hs=>hs
 have fin:∀ {σ':St} {H':Hp} {v:V} {u:Value},Inv (bo CX P w K mg base N qual scope f Gs A outer s H E) [] σ' H' s'->RelV v u->Q v H'->CE outer P w H s Q u s':=
  fun {σ' H' v u} J rv q=>⟨v,H',J.os,J.bare,J.base,J.hok,rv,q⟩
 cases fl with
 | ret u=>
  obtain ⟨v,σ',H',J,rv,q⟩:=hs
  exact fin J rv q
 | next=>
  obtain ⟨σ',H',J,q⟩:=hs
  exact fin (v:=V.non) (u:=Value.none) J rfl q
 | brk=>
  obtain ⟨_,_,_,q⟩:=hs
  exact False.elim q
 | cont=>
  obtain ⟨_,_,_,q⟩:=hs
  exact False.elim q
end L2
namespace L2
open PySem PySem.Spec PyProof.Rows
section
variable {X:Cx} {x:Str} {p pos:Pos} {e:Expr} {es:List Expr} {t:TA} {id T:String} {r:List V->Hp->VK->Prop}
def tCB (r:List V->Hp->VK->Prop) (t:TA):TE:=fun σ H Q=>t σ H fun vs H1=>r vs H1 Q
def tW (hc:K0 X (.builtin id) r) (hg:Gl X x) (hm:X.mg x=none) (hv:bootBuiltins x=some (.builtin id)) (ha:PA X (e::es) t) (hn:x ≠ "__name__" := by decide) (GR:(x == ("__debug__" : Str))=false:=by decide)
  (he:starEach (e::es) X.env=(false,eval e X.env)::starEach es X.env:=by rfl) (GH:(backTo pos (starEach es X.env)).any (·.1)=false:=by rfl):PE X (.Call (.Name x p) (e::es) [] pos) (tCB r t):=by
 intro pins s σ H Q I h
 refine wpAny_Call_Name_kw (X7 I hg hm hv ?_ hn GR)
 exact PyProof.Rows.callWith_builtin1 (thn (ha pos pins s σ H _ I h) fun us s1 zz39=>by obtain ⟨vs,H1,I1,r1,q1⟩:=zz39; exact hc pins s1 σ H1 vs us Q I1 r1 q1) he GH
def qr (hc:K0 X (.type T) r) (hg:Gl X x) (hm:X.mg x=none) (hv:bootBuiltins x=some (.type T)) (ha:PA X (e::es) t) (hn:x ≠ "__name__" := by decide) (GR:(x == ("__debug__" : Str))=false:=by decide)
  (he:starEach (e::es) X.env=(false,eval e X.env)::starEach es X.env:=by rfl) (GH:(backTo pos (starEach es X.env)).any (·.1)=false:=by rfl):PE X (.Call (.Name x p) (e::es) [] pos) (tCB r t):=by
 intro pins s σ H Q I h
 refine wpAny_Call_Name_kw (X7 I hg hm hv ?_ hn GR)
 exact qH7 (thn (ha pos pins s σ H _ I h) fun us s1 zz40=>by obtain ⟨vs,H1,I1,r1,q1⟩:=zz40; exact hc pins s1 σ H1 vs us Q I1 r1 q1) he GH
end
end L2
namespace HT
open PySem PyProof.Rows
def lexLt:List Int->List Int->Bool
 | [],[]=>false
 | [],_::_=>true
 | _::_,[]=>false
 | x::xs,y::ys=>if x=y then lexLt xs ys else decide (x<y)
section
open PySem.SeqAt
open PySem.AutoSeq1 (wpAny_loadPart')
open PySem.MeetsSeq PySem.MeetsSeq2 PySem.MeetsSeq3
end
section
variable {prog:Program} {w:World} {A:Around} {E:Value->Shared->Prop} {s:Shared}
def sIx (n d:Nat):Option Int->Nat
 | none=>d
 | some v=>if v<0 then (v+(n:Int)).toNat else min v.toNat n
def sIx_none (n d:Nat):sIx n d none=d:=rfl
end
end HT
namespace L2
open PySem PySem.Spec PyProof.Rows
abbrev TO:=St->Hp->(Option Int->Hp->Prop)->Prop
def PO (X:Cx) (e:Option Expr) (t:TO):Prop:=
 ∀ (pins:List (Addr×Obj)) (s:Shared) (σ:St) (H:Hp) (Q:Option Int->Hp->Prop),Inv X pins σ H s->t σ H Q ->
  wpAny (model X.prog X.w) X.A (evalPart e X.env) (fun u s'=>∃ o H',Inv X pins σ H' s'/\IsPart u o/\Q o H') X.xe s
def tNoPart:TO:=fun _ H Q=>Q none H
def vv (t:TE):TO:=fun σ H Q=>t σ H fun x H1=>∃ i,x=.int i/\Q (some i) H1
section
variable {X:Cx} {e:Expr} {te:TE} {lo hi:Option Expr} {tl th:TO} {pos p2:Pos}
def po_none:PO X none tNoPart:=by
 intro pins s σ H Q I h
 rw [evalPart_none]
 exact wpAny_pure ⟨none,H,I,.none,h⟩
def wX (h:PE X e te):PO X (some e) (vv te):=by
 intro pins s σ H Q I hw
 rw [evalPart_some]
 refine thn (h pins s σ H _ I hw) fun u s1 zz41=>?_
 obtain ⟨x,H1,I1,r1,q1⟩:=zz41
 obtain ⟨i,rfl,q⟩:=q1
 obtain ⟨t,rfl⟩:=r1
 exact ⟨some i,H1,I1,.int i t,q⟩
def SlR (X:Cx) (r:V->Option Int->Option Int->Hp->VK->Prop):Prop:=
 ∀ (pins:List (Addr×Obj)) (s:Shared) (σ:St) (H:Hp) (x:V) (v vl vu:Value) (lo hi:Option Int) (sl:Addr) (Q:VK),Inv X pins σ H s->RelV x v->s.heap.IsSliceOf sl vl vu .none->IsPart vl lo->IsPart vu hi->r x lo hi H Q ->
  ∃ T id,typeLookup (.type T) "__getitem__" = pure (some (.builtin id))/\s.TypeIs v T/\wpAny (model X.prog X.w) X.A (getItem v (.ref sl)) (EP X pins σ Q) X.xe s
def tSl (r:V->Option Int->Option Int->Hp->VK->Prop) (te:TE) (tl th:TO):TE:=fun σ H Q=>te σ H fun x H1=>tl σ H1 fun l H2=>th σ H2 fun u H3=>r x l u H3 Q
def tU {r:V->Option Int->Option Int->Hp->VK->Prop} (hr:SlR X r) (he:PE X e te) (hl:PO X lo tl) (hu:PO X hi th):PE X (.Subscript e (.Slice lo hi none p2) pos) (tSl r te tl th):=by
 intro pins s σ H Q I h
 refine Subscript_ (thn (he pins s σ H _ I h) fun v s1 zz42=>?_)
 obtain ⟨x,H1,I1,r1,q1⟩:=zz42
 refine wpAny_Slice (thn (hl pins s1 σ H1 _ I1 q1) fun vl s2 ⟨l,H2,I2,pl,q2⟩=>thn (hu pins s2 σ H2 _ I2 q2) fun vu s3 zz44=>?_)
 obtain ⟨u,H3,I3,pu,q3⟩:=zz44
 rw [evalPart_none]
 refine wpAny_pure ?_
 have I4:Inv X pins σ H3 { s3 with heap:=s3.heap.push { cls:=.type "slice",data:=.fields #[vl,vu,.none] } }:=I3.kept (t':=s3.toks) fun b ob q=>qA6 _ q
 obtain ⟨T,id,hT,ht,hg⟩:=hr pins { s3 with heap:=s3.heap.push { cls:=.type "slice",data:=.fields #[vl,vu,.none] } } σ H3 x v vl vu l u s3.heap.objs.size Q I4 r1 (Heap.IsSliceOf.new ..) pl pu q3
 show wpAny (model X.prog X.w) X.A (subscriptTail e (.Slice lo hi none p2) v (.ref s3.heap.objs.size)) (EP X pins σ Q) X.xe { s3 with heap:=s3.heap.push { cls:=.type "slice",data:=.fields #[vl,vu,.none] } }
 exact tail_any (ops:=[.ref s3.heap.objs.size,v]) ht hT hg (by with_unfolding_all rfl)
def gP (xs:List V) (lo hi:Option Int):List V:=(xs.drop (HT.sIx xs.length 0 lo)).take (HT.sIx xs.length xs.length hi-HT.sIx xs.length 0 lo)
def lR (xs:List V) (lo hi:Option Int):(gP xs lo hi).length<=xs.length:=by
 unfold gP
 rw [qI3,List.length_drop]
 omega
end
end L2
namespace L2
open PySem PySem.Spec PyProof.Rows
def ixN (n:Nat) (i:Int):Option Nat:=if 0<=i then (if i<n then some i.toNat else none) else if -(n:Int)<=i then some (i+n).toNat else none
def atI {α:Type} (xs:List α) (i:Int):Option α:=(ixN xs.length i).bind fun j=>xs[j]?
def xO {n:Nat} {i:Int} {j:Nat} (h:ixN n i=some j):seqIndex? i n=some j/\j<n /\ -(n:Int)<=i/\i<n:=by
 unfold ixN at h
 by_cases h0:0<=i
 ·rw [qA1 h0] at h
  by_cases h1:i<n
  ·rw [qA1 h1] at h
   have e:i.toNat=j:=Option.some.inj h
   exact ⟨by rw [seqIndex_of h0 h1,e],by omega,by omega,h1⟩
  ·rw [qA3 h1] at h; cases h
 ·rw [qA3 h0] at h
  by_cases h1:-(n:Int)<=i
  ·rw [qA1 h1] at h
   have e:(i+n).toNat=j:=Option.some.inj h
   exact ⟨by rw [seqIndex_neg (by omega) h1,e],by omega,h1,by omega⟩
  ·rw [qA3 h1] at h; cases h
def gQ {α:Type} {xs:List α} {i:Int} {v:α} (h:atI xs i=some v):∃ j,seqIndex? i xs.length=some j/\xs[j]?=some v/\j<xs.length /\ -(xs.length:Int)<=i/\i<xs.length:=by
 unfold atI at h
 cases e:ixN xs.length i with
 | none=>rw [e] at h; cases h
 | some j=>
  rw [e] at h
  obtain ⟨h1,h2,h3,h4⟩:=xO e
  exact ⟨j,h1,h,h2,h3,h4⟩
def gY (b:Expr):Prop:=∀ o i,subscripted b false o i=operate [o,i] (getItem o i)
def IxR (X:Cx) (r:R2):Prop:=
 ∀ (value slice:Expr) (pins:List (Addr×Obj)) (s:Shared) (σ:St) (H:Hp) (x y:V) (v u:Value) (Q:VK),Inv X pins σ H s->RelV x v->RelV y u->r x y H Q ->
  subscripted slice false v u=operate [v,u] (getItem v u)->wpAny (model X.prog X.w) X.A (subscriptTail value slice v u) (EP X pins σ Q) X.xe s
def MtR (X:Cx) (id:String) (r:V->List V->Hp->VK->Prop):Prop:=
 ∀ (pins:List (Addr×Obj)) (s:Shared) (σ:St) (H:Hp) (x:V) (xs:List V) (v:Value) (us:List Value) (Q:VK),Inv X pins σ H s->RelV x v->Vals xs us->r x xs H Q ->
  wpAny (model X.prog X.w) X.A (call (.builtin id) (v::us)) (EP X pins σ Q) X.xe s
section
variable {X:Cx} {a b:Expr} {ta tb:TE} {pos:Pos}
def IxR.or {r r':R2} (h:IxR X r) (h':IxR X r'):IxR X (fun x y H Q=>r x y H Q\/r' x y H Q):=by
 intro value slice pins s σ H x y v u Q I rx ry q hs
 rcases q with q | q
 ·exact h value slice pins s σ H x y v u Q I rx ry q hs
 ·exact h' value slice pins s σ H x y v u Q I rx ry q hs
def vI {r:R2} (hr:IxR X r) (ha:PE X a ta) (hb:PE X b tb) (hs:gY b):PE X (.Subscript a b pos) (tOp r ta tb):=by
 intro pins s σ H Q I h
 exact Subscript_ (vj ha hb I h fun v u s2 x y H2 I2 rx ry q=>hr a b pins s2 σ H2 x y v u Q I2 rx ry q (hs _ _))
def Az (K:Frag):R2:=fun x y H Q=>∃ p xs i v,x=.ref p/\y=.int i/\SqL K H p xs/\atI xs i=some v/\Q v H
def Ay (K:Frag):R2:=fun x y H Q=>∃ p xs i v,x=.ref p/\y=.int i/\SqT K H p xs/\atI xs i=some v/\Q v H
def rIxS:R2:=fun x y H Q=>∃ z i c,x=.str z/\y=.int i/\z.length<=sizeLine/\atI z.cps.toList i=some c/\Q (.str ⟨#[c]⟩) H
def ix_list:IxR X (Az X.K):=by
 intro value slice pins s σ H x y v u Q I rx ry h hs
 obtain ⟨p,xs,i,z,rfl,rfl,hq,he,q⟩:=h
 cases rx
 obtain ⟨t,rfl⟩:=ry
 obtain ⟨its,r,pl,hz⟩:=I.list hq
 obtain ⟨j,h1,h2,h3,h4,h5⟩:=gQ he
 obtain ⟨w,ew,KR⟩:=r.get h2
 have hl:=r.length
 have hn:=fA
 have fin:EP X pins σ Q w s:=⟨z,H,I,KR,q⟩
 by_cases h0:0<=i
 ·have hj:i.toNat=j:=by
   rw [seqIndex_of h0 h5] at h1
   exact Option.some.inj h1
  exact item_listR pl.isList h0 (by omega) (by rw [hj]; simpa using ew) fin hs
 ·have hj:(i+(its.toArray.size:Int)).toNat=j:=by
   rw [seqIndex_neg (by omega) h4] at h1
   rw [qC1,<- hl]
   exact Option.some.inj h1
  exact subscriptTail_builtinR (x:=w) pl.isList.typeIs slot_list_getitem.lookup
   (wpAny_getItem_list_neg (Q:=fun r s'=>r=w/\EP X pins σ Q r s') pl.isList (by omega) (by rw [qC1] <;> omega) (by omega) (by rw [hj]; simpa using ew) ⟨rfl,fin⟩) hs
def ix_tup:IxR X (Ay X.K):=by
 intro value slice pins s σ H x y v u Q I rx ry h hs
 obtain ⟨p,xs,i,z,rfl,rfl,hq,he,q⟩:=h
 cases rx
 obtain ⟨t,rfl⟩:=ry
 obtain ⟨its,r,pl,hz⟩:=I.tuple hq
 obtain ⟨j,h1,h2,h3,h4,h5⟩:=gQ he
 obtain ⟨w,ew,KR⟩:=r.get h2
 have hl:=r.length
 have hn:=fA
 have fin:EP X pins σ Q w s:=⟨z,H,I,KR,q⟩
 exact subscriptTail_builtinR (x:=w) pl.typeIs slot_tuple_getitem.lookup
  (getItem_tuple (j:=j) (Q:=fun r s'=>r=w/\EP X pins σ Q r s') pl (by omega) (by omega) (by rw [qC1,<- hl]; exact h1) (by simpa using ew) ⟨rfl,fin⟩) hs
def Bz:IxR X rIxS:=by
 intro value slice pins s σ H x y v u Q I rx ry h hs
 obtain ⟨z,i,c,rfl,rfl,hz,he,q⟩:=h
 obtain ⟨t,rfl⟩:=rx
 obtain ⟨t',rfl⟩:=ry
 obtain ⟨j,h1,h2,h3,h4,h5⟩:=gQ he
 have hl:z.cps.toList.length=z.length:=by simp [Str.length]
 rw [hl] at h1 h4 h5
 have hn:=fA
 exact tail_any (typeIs_str s z t) slot_str_getitem.lookup (getItem_str (c:=c) (by
  have e1:decide (i < -(2^63:Int))=false:=decide_eq_false (by omega)
  have e2:decide (i≥2^63)=false:=decide_eq_false (by omega)
  rw [e1,e2,Bool.or_false]) (by rw [h1]; simpa using h2) ⟨.str ⟨#[c]⟩,H,I.tok _,⟨_,rfl⟩,q⟩) hs
def rIx (K:Frag):R2:=fun x y H Q=>Az K x y H Q\/Ay K x y H Q\/rIxS x y H Q
def qP:IxR X (rIx X.K):=ix_list.or (ix_tup.or Bz)
def jg (lo hi:Option Int) (n:Nat):(sliceBounds lo hi none n).1=((HT.sIx n 0 lo:Nat):Int)/\(sliceBounds lo hi none n).2.1=((HT.sIx n n hi:Nat):Int)/\(sliceBounds lo hi none n).2.2=1:=by
 refine ⟨?_,?_,rfl⟩
 ·cases lo with
  | none=>simp [sliceBounds,HT.sIx]
  | some i=>
   simp only [sliceBounds,HT.sIx,Option.getD_none,show (1:Int)>0 by decide,if_true]
   by_cases h:i<0
   ·simp only [h,if_true] <;> omega
   ·simp only [h,if_false] <;> omega
 ·cases hi with
  | none=>simp [sliceBounds,HT.sIx]
  | some i=>
   simp only [sliceBounds,HT.sIx,Option.getD_none,show (1:Int)>0 by decide,if_true]
   by_cases h:i<0
   ·simp only [h,if_true] <;> omega
   ·simp only [h,if_false] <;> omega
def iD (its:List Value) (lo hi:Option Int):slicePick its.toArray lo hi none=((its.drop (HT.sIx its.length 0 lo)).take (HT.sIx its.length its.length hi-HT.sIx its.length 0 lo)).toArray:=by
 obtain ⟨h1,h2,h3⟩:=jg lo hi its.toArray.size
 unfold slicePick
 rw [h1,h2,h3]
 simp only [sliceRange_one,pick_run,qC1] <;> rfl
def Au (K:Frag):V->Option Int->Option Int->Hp->VK->Prop:=fun x lo hi H Q=>∃ a xs,x=.ref a/\SqL K H a xs/\∀ p,H p=none->Q (.ref p) (upd H p (.lst (gP xs lo hi)))
def wq:SlR X (Au X.K):=by
 intro pins s σ H x v vl vu lo hi sl Q I rx hs pl pu h
 obtain ⟨a,xs,rfl,hx,q⟩:=h
 cases rx
 obtain ⟨its,r,ht,hz⟩:=I.list hx
 have hlen:=r.length
 refine ⟨"list",_,slot_list_getitem.lookup,ht.isList.typeIs,?_⟩
 refine wpAny_getItem_list_slice ht.isList hs pl pu .none (by simp) ?_ (by rw [qC1] <;> omega)
 rw [iD,<- hlen]
 refine ⟨.ref s.heap.objs.size,_,I.laid (t':=s.toks) (o:=.lst (gP xs lo hi)) (fun b ob q=>qA6 _ q) (qB1 _) ?_,rfl,q _ (I.hok.fresh (qB1 _))⟩
 exact ⟨qA9 (lR xs lo hi) hz,_,0,(r.drop (HT.sIx xs.length 0 lo)).take (HT.sIx xs.length xs.length hi-HT.sIx xs.length 0 lo),qC6 _ rfl⟩
def lm:K0 X (.builtin "len") (fun xs H Q=>∃ p ys,xs = [.ref p]/\(SqL X.K H p ys\/SqT X.K H p ys)/\Q (.int ys.length) H):=by
 intro pins s σ H xs us Q I r h
 obtain ⟨p,ys,rfl,hq,q⟩:=h
 obtain ⟨u,rfl,rx⟩:=vals1 r
 cases rx
 have hn:=fA
 rcases hq with hq | hq
 ·obtain ⟨its,r',pl,hz⟩:=I.list hq
  have hlen:=r'.length
  exact Calls.call_len_list pl.isList (by simp only [qC1] <;> omega) ⟨.int ys.length,H,I.tok _,⟨s.toks+1,by rw [qC1,hlen]⟩,q⟩
 ·obtain ⟨its,r',pl,hz⟩:=I.tuple hq
  have hlen:=r'.length
  exact len_tuple pl (by simp only [qC1] <;> omega) ⟨.int ys.length,H,I.tok _,⟨s.toks+1,by rw [qC1,hlen]⟩,q⟩
def ll:K0 X (.type "list") (fun xs H Q=>∃ p ys,xs = [.ref p]/\(SqL X.K H p ys\/SqT X.K H p ys)/\∀ l,H l=none->Q (.ref l) (upd H l (.lst ys))):=by
 intro pins s σ H xs us Q I r h
 obtain ⟨p,ys,rfl,hq,q⟩:=h
 obtain ⟨u,rfl,rx⟩:=vals1 r
 cases rx
 have fin:∀ (its:List Value),Vals ys its->ys.length<=sizeLine->∀ (h':Heap) (c':Nat),(∀ b o',s.heap.get? b=some o'->h'.get? b=some o') ->
   h'.get? s.heap.objs.size=some { cls:=.type "list",dict:=none,data:=.seq its.toArray c',slots:=#[] }->EP X pins σ Q (.ref s.heap.objs.size) { s with heap:=h' }:=fun its r' hz h' c' kp e=>
  ⟨.ref s.heap.objs.size,_,I.laid (t':=s.toks) kp (qB1 _) (show ObjOk X.prog X.w _ h' _ (.lst ys) from ⟨hz,its,c',r',e⟩),rfl,q _ (I.hok.fresh (qB1 _))⟩
 rcases hq with hq | hq
 ·obtain ⟨its,r',pl,hz⟩:=I.list hq
  have hlen:=r'.length
  obtain ⟨o,ho,hc,n,hd⟩:=pl.isList
  exact call_list_seq p (.inl rfl) ho hc hd (fun h' c' kp e=>fin its r' hz h' c' kp e) (by simp only [qC1] <;> omega)
 ·obtain ⟨its,r',pl,hz⟩:=I.tuple hq
  have hlen:=r'.length
  obtain ⟨o,ho,hc,n,hd⟩:=pl
  exact call_list_seq p (.inr rfl) ho hc hd (fun h' c' kp e=>fin its r' hz h' c' kp e) (by simp only [qC1] <;> omega)
def iH:K0 X (.type "tuple") (fun xs H Q=>∃ p ys,xs = [.ref p]/\((SqL X.K H p ys/\∀ l,H l=none->Q (.ref l) (upd H l (.tup ys)))\/(SqT X.K H p ys/\Q (.ref p) H))):=by
 intro pins s σ H xs us Q I r h
 obtain ⟨p,ys,rfl,h⟩:=h
 obtain ⟨u,rfl,rx⟩:=vals1 r
 cases rx
 rcases h with ⟨hq,q⟩ | ⟨hq,q⟩
 ·obtain ⟨its,r',pl,hz⟩:=I.list hq
  have hlen:=r'.length
  refine call_tuple_list pl.isList (fun h' kp=>?_) (by simp only [qC1] <;> omega)
  have I1:Inv X pins σ H { s with heap:=h' }:=I.kept (t':=s.toks) kp
  have I2:Inv X pins σ (upd H h'.objs.size (.tup ys)) { s with heap:=h'.push { cls:=.type "tuple",data:=.seq its.toArray } }:=
   I1.laid (t':=s.toks) (fun b o e=>qA6 _ e) (qB1 _) (show ObjOk X.prog X.w _ _ _ (.tup ys) from ⟨hz,its,r',IsTup.new _ _⟩)
  exact ⟨.ref h'.objs.size,_,I2,rfl,q _ (I1.hok.fresh (qB1 _))⟩
 ·obtain ⟨its,r',pl,hz⟩:=I.tuple hq
  exact call_tuple_same pl ⟨.ref p,H,I,rfl,q⟩
def tyV (K:Frag) (T:String) (x:V) (H:Hp):Prop:=match x with
 | .str _=>T = "str"
 | .int _=>T = "int"
 | .ref p=>(T = "list" /\ ∃ xs,SqL K H p xs)\/(T = "tuple" /\ ∃ o,K.lookup p=some o/\o.cls=.type "tuple" /\ o.dict=none) \/
   (T = "dict" /\ ((∃ Gm,H p=some (.dK Gm))\/∃ Gm,H p=some (.dT Gm)))\/(T = "set" /\ ∃ S n,H p=some (.set S n))
 | _=>False
def iX {pins:List (Addr×Obj)} {σ:St} {H:Hp} {s:Shared} {T:String} {x:V} {v:Value} (I:Inv X pins σ H s) (r:RelV x v) (ty:tyV X.K T x H) :
  s.TypeIs v T/\∀ a,v=.ref a->∃ ob,s.heap.get? a=some ob/\ob.dict=none:=by
 cases x with
 | str z=>
  obtain ⟨t,rfl⟩:=r
  cases (show T = "str" from ty)
  exact ⟨typeIs_str s z t,fun _ e=>nomatch e⟩
 | int i=>
  obtain ⟨t,rfl⟩:=r
  cases (show T = "int" from ty)
  exact ⟨typeIs_int s i t,fun _ e=>nomatch e⟩
 | ref p=>
  cases r
  rcases ty with ⟨rfl,xs,hq⟩ | ⟨rfl,o,hk,hc,hd⟩ | ⟨rfl,hk⟩ | ⟨rfl,S,n,hk⟩
  ·obtain ⟨its,_,pl,_⟩:=I.list hq
   refine ⟨pl.isList.typeIs,fun a e=>?_⟩
   cases e
   obtain ⟨o,n,e,c,hd,_⟩:=pl
   exact ⟨o,e,hd⟩
  ·refine ⟨⟨o,I.kIn p o hk,hc⟩,fun a e=>?_⟩
   cases e
   exact ⟨o,I.kIn _ o hk,hd⟩
  ·have z:∃ o,s.heap.get? p=some o/\o.ExactDict:=by
    rcases hk with ⟨Gm,hk⟩ | ⟨Gm,hk⟩
    ·obtain ⟨_,_,_,_,o,_,_,e,ex,_⟩:=I.hok p _ hk
     exact ⟨o,e,ex⟩
    ·obtain ⟨_,_,_,_,o,_,_,e,ex,_⟩:=I.hok p _ hk
     exact ⟨o,e,ex⟩
   obtain ⟨o,e,ex⟩:=z
   refine ⟨⟨o,e,ex.1⟩,fun a e2=>?_⟩
   cases e2
   exact ⟨o,e,ex.2.1⟩
  ·obtain ⟨o,_,_,_,e,ex,_⟩:=I.hok p _ hk
   refine ⟨⟨o,e,ex.1⟩,fun a e2=>?_⟩
   cases e2
   exact ⟨o,e,ex.2.1⟩
 | _=>exact False.elim ty
def zp (K:Frag) (T:String) (r:V->List V->Hp->VK->Prop) (to:TE):TE:=fun σ H Q=>to σ H fun x H1=>tyV K T x H1/\r x [] H1 Q
def tBM (K:Frag) (T:String) (r:V->List V->Hp->VK->Prop) (to:TE) (t:TA):TE:=fun σ H Q=>to σ H fun x H1=>tyV K T x H1/\t σ H1 fun xs H2=>r x xs H2 Q
variable {o e:Expr} {es:List Expr} {to:TE} {t:TA} {name:Str} {apos Gi:Pos} {T id:String} {r:V->List V->Hp->VK->Prop}
def AV (pa:PlainAttrs T) (slot:Slot T name id) (Lf:typeOf (.builtin id)=pure (.type "method_descriptor")) (hm:MtR X id r) (ho:PE X o to)
  (Go:attributeBase o name X.env (eval o X.env)=eval o X.env:=by rfl) (Gn:(apos.endLine == Gi.line)=true:=by rfl):PE X (.Call (.Attribute o name apos) [] [] Gi) (zp X.K T r to):=by
 intro pins s σ H Q I h
 refine wpAny_Call_method0_late Go Gn (thn (ho pins s σ H _ I h) fun v s1 zz45=>?_)
 obtain ⟨x,H1,I1,r1,ty,q1⟩:=zz45
 obtain ⟨h1,h2⟩:=iX I1 r1 ty
 exact ⟨T,id,pa,slot,Lf,h1,h2,Calls.callWith_builtin rfl (PySem.evalArgs_none (hm pins s1 σ H1 x [] v [] Q I1 r1 .nil q1))⟩
def Eu (pa:PlainAttrs T) (slot:Slot T name id) (Lf:typeOf (.builtin id)=pure (.type "method_descriptor")) (hm:MtR X id r) (ho:PE X o to) (ha:PA X (e::es) t)
  (Go:attributeBase o name X.env (eval o X.env)=eval o X.env:=by rfl)
  (GV:((backTo Gi (starEach (e::es) X.env)).all (fun x=>!x.1)&&(backToKw Gi (keywordEach [] X.env)).all (fun x=>x.1.isSome)
   && decide ((e::es).length+([]:List Keyword).length+(if ([]:List Keyword).isEmpty then 0 else 1)<30))=true:=by rfl)
  (Gn:(apos.endLine == Gi.line)=true:=by rfl) (hs:starEach (e::es) X.env=(false,eval e X.env)::starEach es X.env:=by rfl) (GL:(backTo Gi (starEach es X.env)).any (·.1)=false:=by rfl) :
  PE X (.Call (.Attribute o name apos) (e::es) [] Gi) (tBM X.K T r to t):=by
 intro pins s σ H Q I h
 refine wpAny_Call_method_late Go GV Gn rfl (thn (ho pins s σ H _ I h) fun v s1 zz46=>?_)
 obtain ⟨x,H1,I1,r1,ty,q1⟩:=zz46
 obtain ⟨h1,h2⟩:=iX I1 r1 ty
 refine ⟨T,id,pa,slot,Lf,h1,h2,?_⟩
 have hA:=ha Gi pins s1 σ H1 _ I1 q1
 rw [hs] at hA ⊢
 refine Calls.callWith_builtin (by show (false||(backTo Gi (starEach es X.env)).any (·.1))=false; rw [GL] <;> rfl) (Calls.evalArgs_plain ?_)
 exact thn hA fun us s2 zz47=>by obtain ⟨vs,H2,I2,r2,q2⟩:=zz47; exact hm pins s2 σ H2 x vs v us Q I2 r1 r2 q2
end
end L2
namespace L2
open PySem PySem.Spec PyProof.Rows
def MtM (X:Cx) (id:String) (r:V->List V->Hp->VK->Prop):Prop:=
 ∀ (pins:List (Addr×Obj)) (s:Shared) (σ:St) (H:Hp) (x:V) (xs:List V) (v:Value) (us:List Value) (Q:VK),Inv X pins σ H s->RelV x v->Vals xs us->r x xs H Q ->
  wpAny (model X.prog X.w) X.A (call (.builtin id) (v::us)) (EP X pins σ Q) X.xe s
def Vals.one:∀ {x:V} {us:List Value},Vals [x] us->∃ u,us = [u]/\RelV x u:=by
 intro x us r
 cases r with
 | cons r t=>cases t; exact ⟨_,rfl,r⟩
def Vals.zero:∀ {us:List Value},Vals [] us->us = []
 | _,.nil=>rfl
def Vals.reverse {xs:List V} {us:List Value} (h:Vals xs us):Vals xs.reverse us.reverse:=by
 induction h with
 | nil=>exact .nil
 | cons r t ih=>rw [qK4,qK4]; exact Vals.append ih (.cons r .nil)
section
variable {X:Cx} {pins:List (Addr×Obj)} {σ:St} {H:Hp} {s:Shared} {l b:Addr} {xs ys zs:List V}
def Inv.lset {its its':List Value} {n:Nat} {f:Array Value->Array Value} {t':Nat} (I:Inv X pins σ H s) (hH:H l=some (.lst xs))
  (e:s.heap.get? l=some { cls:=.type "list",data:=.seq its.toArray n }) (hf:f its.toArray=its'.toArray) (hv:Vals ys its') (hz:ys.length<=sizeLine) :
  Inv X pins σ (upd H l (.lst ys)) { s with heap:=s.heap.update l (Obj.mapSeq f),toks:=t' }:=by
 have q:=PySem.IsL.update e f
 rw [hf] at q
 refine I.write (x:=l) (e:=l) (by rw [hH]; exact trivial) (.inl rfl) (fun b' u hb hu=>(Heap.get?_update_other s.heap (Obj.mapSeq f) (Ne.symm hb)).trans hu) ⟨_,q⟩ ?_
 exact ⟨hz,its',_,hv,q⟩
def Inv.lnew {its:List Value} {t':Nat} (I:Inv X pins σ H s) (hv:Vals ys its) (hz:ys.length<=sizeLine) :
  Inv X pins σ (upd H s.heap.objs.size (.lst ys)) { s with heap:=s.heap.push { cls:=.type "list",data:=.seq its.toArray },toks:=t' }:=
 I.laid (fun _ _ q=>qA6 _ q) (qB1 _) ⟨hz,its,0,hv,qC6 _ rfl⟩
def Inv.fresh (I:Inv X pins σ H s):H s.heap.objs.size=none:=I.hok.fresh (qB1 _)
def Inv.lstM (I:Inv X pins σ H s) (hH:H l=some (.lst xs)):xs.length<=sizeLine/\∃ (its:List Value) (n:Nat),Vals xs its/\xs.length=its.length/\s.heap.get? l=some { cls:=.type "list",data:=.seq its.toArray n }:=by
 obtain ⟨z,its,n,r,e⟩:=I.hok l _ hH
 exact ⟨z,its,n,r,r.length,e⟩
def ui {n:Nat} (h:n<=sizeLine):Builtin.List.listTooLong n=false:=by
 unfold Builtin.List.listTooLong
 exact decide_eq_false (by omega)
end
section
variable {X:Cx}
def rAppend:V->List V->Hp->VK->Prop:=fun x vs H Q=>∃ l xs y,x=.ref l/\vs = [y]/\H l=some (.lst xs)/\xs.length<sizeLine/\Q .non (upd H l (.lst (xs ++ [y])))
def il:MtM X "list.append" rAppend:=by
 intro pins s σ H x vs v us Q I rx rv h
 obtain ⟨l,xs,y,rfl,rfl,hH,hz,q⟩:=h
 cases rx
 obtain ⟨u,rfl,ru⟩:=rv.one
 obtain ⟨z,its,n,r,hl,e⟩:=I.lstM hH
 refine call_meets F.slot_list_append ⟨_,e,rfl⟩ F.entry_list_append (F.args_list_append_2 _ _) (PySem.list_append l its.toArray n u (by rw [qC1]; omega)) ⟨e,?_⟩
 refine ⟨.non,_,I.lset (its':=its ++ [u]) hH e (by simp) (r.append (.cons ru .nil)) ?_,rfl,q⟩
 rw [qC5,qF8]
 omega
def rExtend:V->List V->Hp->VK->Prop:=fun x vs H Q=>∃ l b xs zs,x=.ref l/\vs = [.ref b]/\H l=some (.lst xs)/\H b=some (.lst zs)/\xs.length+zs.length<=sizeLine/\Q .non (upd H l (.lst (xs++zs)))
def qJ:MtM X "list.extend" rExtend:=by
 intro pins s σ H x vs v us Q I rx rv h
 obtain ⟨l,b,xs,zs,rfl,rfl,hH,hB,hz,q⟩:=h
 cases rx
 obtain ⟨u,rfl,ru⟩:=rv.one
 cases ru
 obtain ⟨z,its,n,r,hl,e⟩:=I.lstM hH
 obtain ⟨z2,Gu,n2,r2,hl2,e2⟩:=I.lstM hB
 have Id:its.toArray.size+Gu.toArray.size<=sizeLine:=by rw [qC1,qC1]; omega
 have hlong:¬ (!its.toArray.isEmpty&&Builtin.List.listTooLong (its.toArray.size+Gu.toArray.size))=true:=by
  rw [ui Id,Bool.and_false]
  exact qA4
 refine call_meets F.slot_list_extend ⟨_,e,rfl⟩ F.entry_list_extend (F.args_list_extend_2 _ _)
  (AutoSeq1.list_extend_list_list_0 l its.toArray n b Gu.toArray n2 hlong (by rw [qC1]; omega) (by omega)) ⟨e,e2,?_⟩
 refine ⟨.non,_,I.lset (its':=its++Gu) hH e (by simp) (r.append r2) ?_,rfl,q⟩
 rw [qC5]
 omega
def rReverse:V->List V->Hp->VK->Prop:=fun x vs H Q=>∃ l xs,x=.ref l/\vs = []/\H l=some (.lst xs)/\Q .non (upd H l (.lst xs.reverse))
def nZ:MtM X "list.reverse" rReverse:=by
 intro pins s σ H x vs v us Q I rx rv h
 obtain ⟨l,xs,rfl,rfl,hH,q⟩:=h
 cases rx
 have hus:=rv.zero
 subst hus
 obtain ⟨z,its,n,r,hl,e⟩:=I.lstM hH
 refine call_meets F.slot_list_reverse ⟨_,e,rfl⟩ F.entry_list_reverse (F.args_list_reverse_1 _) (AutoSeq1.list_reverse_list_0 l its.toArray n (by rw [qC1]; omega)) ⟨e,?_⟩
 refine ⟨.non,_,I.lset (its':=its.reverse) hH e (by simp) r.reverse ?_,rfl,q⟩
 rw [qB8]
 omega
def rCat:R2:=fun x y H Q=>∃ l b xs zs,x=.ref l/\y=.ref b/\H l=some (.lst xs)/\H b=some (.lst zs)/\xs.length+zs.length<=sizeLine/\∀ p,H p=none->Q (.ref p) (upd H p (.lst (xs++zs)))
def AZ:OpR X (binaryOp .Add) rCat:=by
 intro pins s σ H x y v u Q I rx ry h
 obtain ⟨l,b,xs,zs,rfl,rfl,hH,hB,hz,q⟩:=h
 cases rx
 cases ry
 obtain ⟨z,its,n,r,hl,e⟩:=I.lstM hH
 obtain ⟨z2,Gu,n2,r2,hl2,e2⟩:=I.lstM hB
 refine PySem.P.add_list e e2 ?_ (by rw [qC1,qC1]; omega)
 have ea:its.toArray++Gu.toArray=(its++Gu).toArray:=by simp
 rw [ea]
 exact ⟨.ref _,_,I.lnew (t':=s.toks) (r.append r2) (by rw [qC5]; omega),rfl,q _ I.fresh⟩
end
section
variable {prog:Program} {w:World} {A:Around} {E:Value->Shared->Prop} {s:Shared}
end
section
variable {X:Cx}
end
end L2
namespace Att
open PySem PySem.W PySem.Calls PyProof.Rows
def fF {P:Params} {h:Heap}:∀ (ns:List Int) (vs:List Value),WellAll P h vs (ns.map WData.int)->IntsAre vs ns:=by
 intro ns
 induction ns with
 | nil=>
  intro vs w
  rw [qI9] at w
  cases w
  exact .nil
 | cons n ns ih=>
  intro vs w
  rw [qC0] at w
  cases w with
  | cons a b=>
   cases a
   exact .cons _ _ (ih _ b)
def pP {l:OpenLaw} {n:Nat} (hn:l.most=some n) {P:Params} {h:Heap} {args:List WData} {vals:List Value}
  (Iq:l.row.toRowW.claim.pre args=true) (Jm:WellAll P h vals args) :
  ∃ a vs ns,vals = [Value.ref a]/\args = [WData.list (ns.map WData.int)]/\h.get? a=some { cls:=.type "list",data:=.seq vs.toArray }/\IntsAre vs ns/\ns.length<=n:=by
 have Hu:WShape.hasAll [] args [.list .int]=true:=(pre_splitW Iq).1
 have hc:l.pre.holds [] { args:=args }=true:=(pre_splitW Iq).2
 obtain ⟨d,r,rfl,h1,h2⟩:=hasAllW_cons Hu
 obtain rfl:=hasAllW_nil h2
 obtain ⟨xs,rfl,h3⟩:=hasW_list h1
 obtain ⟨ns,rfl⟩:=items_int h3
 have hlen:ns.length<=n:=by
  unfold OpenLaw.pre at hc
  have h4:(WTm.not (.lt (.lit (.int (n:Int))) (.len (.arg 0)))).holds [] { args:=[.list (ns.map .int)] }=true:=by
   have h4:=(holds_andW hc).1
   rw [hn] at h4
   exact h4
  have h5:=condW_of h4 (w_not (w_lt w_lit (w_len_list (w_arg rfl))))
  rw [qA5] at h5
  refine Nat.le_of_not_lt fun q=>?_
  have q':(n:Int)<((ns.length:Nat):Int):=by omega
  first
   | (rw [decide_eq_true q'] at h5; exact absurd h5 (by decide))
   | (simp at h5; omega)
 cases Jm with
 | cons w1 w2=>
  cases w2
  cases w1 with
  | list ho Gh=>exact ⟨_,_,ns,rfl,rfl,ho,fF ns _ Gh,hlen⟩
def qj (l:OpenLaw) (args:List WData):l.row.toRowW.claim.post args (.bool true) args=true:=
 postW_of (r:=l.row.toRowW) (X:=(true == true))
  (show WShape.has [] (.bool true) .bool=true by first | rfl | decide | simp [WShape.has,WShape.arms,WShape.armsAll])
  (show (WTm.eq .res (.lit (.bool true))).value [] { args:=args,res:=some (.bool true),after:=args }=some (.bool (true == true)) from w_eq_bool (w_res rfl) w_lit) rfl
section
variable {prog:Program} {w:World} {A:Around} {E:Value->Shared->Prop} {s:Shared} {K:Frag}
end
end Att
namespace L2
open PySem PySem.Spec PyProof.Rows
def pf:∀ {vs:List Value} {ns:List Int},IntsAre vs ns->Vals (ns.map V.int) vs:=by
 intro vs ns h
 induction h with
 | nil=>exact .nil
 | cons n t h ih=>exact .cons ⟨t,rfl⟩ ih
def oN (H:Hp):Prop:=∀ b,H b=none\/∃ o xs,H b=some (.frz o (.lst xs))
def uE {P:Program} {w:World} {K:Frag} {mg mb:Str->Option Value} {CX:CXT} {k:Nat} {fa a:Addr} {fd:FuncData} {x:Str} {sp:Sp} {s₁:Shared} {vs:List Value} {ns:List Int}
  (KX:K.In s₁.heap) (hns:s₁.heap.Ns mainGlobals mg) (hb:s₁.heap.Ns builtinsNs mb) (Lr:∀ x:Str,x ≠ "__name__" -> mb x=bootBuiltins x) (hlim:s₁.heap.NoLimit) (hg:s₁.gens=#[])
  (ha:s₁.heap.get? a=some { cls:=.type "list",data:=.seq vs.toArray }) (hi:IntsAre vs ns) (hl:ns.length<=sizeLine) (hr:Room k callerA)
  (F:∀ base:Heap,K.In base->base.Ns mainGlobals mg->FnOk P w K mg base CX k fa fd [x] sp) (hbind:∀ (s:Shared) (u:Value),BindsTo s fd ⟨[u],[]⟩ [(x,u)])
  (Ie:∀ H:Hp,oN H->SqL K H a (ns.map V.int)->sp [.ref a] H (fun v _=>v=.bl true) fun _ _ _=>False)
  (Kd:∀ H e s',CX [] H s₁ (fun _ _ _=>False) e s'->False) :
  codeAny (model P w) callerA (.call (.ref fa) ⟨[.ref a],[]⟩) (fun r s'=>r=.ok (.ret (.bool true))/\OldK s₁.heap s'.heap/\s'.os=s₁.os/\AllBare s'.gens) s₁:=by
 have rv:=pf hi
 have lenV:=hi.length
 -- from an abstract heap in which nothing but the script may be tracked
 have core:∀ H:Hp,oN H->SqL K H a (ns.map V.int)->HOk P w H s₁.heap->(∀ b,H b≠none->b=a)->(H a≠none->K.lookup a=none) ->
   codeAny (model P w) callerA (.call (.ref fa) ⟨[.ref a],[]⟩) (fun r s'=>r=.ok (.ret (.bool true))/\OldK s₁.heap s'.heap/\s'.os=s₁.os/\AllBare s'.gens) s₁:=by
  intro H hO hS hok hA hK
  have Hz:∀ {b:Addr} {o:Obj},s₁.heap.get? b=some o->H b=none->(bh s₁.heap H).get? b=some o:=fun e n=>uM e n
  have JE:∀ {b:Addr} {o:Obj} {es:Array DictEntry} {ep:Nat},s₁.heap.get? b=some o->o.data=.dict es ep->H b=none:=fun {b o es ep} e d=>by
   cases q:H b with
   | none=>rfl
   | some u=>
    have e':b=a:=hA b (by rw [q]; simp)
    subst e'
    rw [ha] at e; cases e
    have d':Data.seq vs.toArray _=Data.dict es ep:=d
    cases d'
  have Kn:∀ {b:Addr} {m:Str->Option Value},s₁.heap.Ns b m->(bh s₁.heap H).Ns b m:=fun {b m} zz48=>by obtain ⟨o,es,ep,e,d,r⟩:=zz48; exact ⟨o,es,ep,Hz e (JE e d),d,r⟩
  have hKb:K.In (bh s₁.heap H):=fun b o e=>Hz (KX b o e) (by
   cases q:H b with
   | none=>rfl
   | some u=>
    have e':b=a:=hA b (by rw [q]; simp)
    subst e'
    rw [hK (by rw [q]; simp)] at e; cases e)
  have hM:Mod K mg (bh s₁.heap H):=⟨hKb,Kn hns,⟨mb,Kn hb,Lr⟩,let ⟨mc,h1,h2⟩:=hlim; ⟨mc,Kn h1,h2⟩⟩
  have e0:oP P w K mg (bh s₁.heap H) callerA [] s₁ H:=⟨rfl,hM,fun b o e=>xj e,qI0 (qX _ _),trivial,fun b hb=>absurd (show b∈([]:List Addr) from hb) (by simp),hok,.of_eq hg⟩
  refine codeAny_mono ((F _ hKb (Kn hns)).run callerA [] s₁ H ⟨[.ref a],[]⟩ [.ref a] [.ref a] _ _ hr e0 (hbind s₁ (.ref a)) (.cons rfl .nil) (Ie H hO hS)) fun r s' h=>?_
  cases r with
  | error e=>exact (Kd H e s' h).elim
  | ok fl=>
   cases fl with
   | next=>exact False.elim h
   | brk=>exact False.elim h
   | cont=>exact False.elim h
   | ret u=>
    obtain ⟨v,H',os,bare,un,hok',r',q⟩:=h
    have q':v=.bl true:=q
    subst q'
    obtain rfl:u=Value.bool true:=r'
    refine ⟨rfl,OldK.of_keep fun b o e=>?_,os,bare⟩
    cases q:H b with
    | none=>exact un.keep b o e q (by intro z; exact absurd (show b∈([]:List Addr) from z) (by simp)) (by simp)
    | some u=>
     rcases hO b with z | ⟨ob,xs,z⟩
     ·rw [q] at z; cases z
     ·have z2:=un.frzs b ob _ z
      obtain ⟨e1,_⟩:=hok b _ z
      obtain ⟨e2,_⟩:=hok' b _ z2
      rw [e] at e1; cases e1
      exact e2
 cases hk:K.lookup a with
 | some o=>
  -- the script is one of the module's own objects
  have e:=KX a o hk
  rw [ha] at e
  cases e
  refine core (fun _=>none) (fun _=>.inl rfl) (.inr ⟨_,vs.toArray,_,hk,rfl,rfl,rfl,by rw [qC1,lenV]; exact hl,by simpa using rv⟩) (fun b u z=>by have z':(none:Option HO)=some u:=z; cases z') (fun b z=>absurd rfl z) fun z=>absurd rfl z
 | none=>
  refine core (fun b=>if b=a then some (.frz { cls:=.type "list",data:=.seq vs.toArray } (.lst (ns.map V.int))) else none) (fun b=>?_) (.inl (.inr ⟨{ cls:=.type "list",data:=.seq vs.toArray },qA1 rfl⟩)) (fun b u z=>?_) (fun b z=>?_) fun _=>hk
  ·by_cases hb:b=a
   ·exact .inr ⟨_,_,qA1 hb⟩
   ·exact .inl (qA3 hb)
  ·by_cases hb:b=a
   ·have z':=(qA1 hb).symm.trans z
    cases z'
    subst hb
    exact ⟨ha,by rw [qA5]; exact hl,vs,_,rv,ha⟩
   ·have z':=(qA3 hb).symm.trans z
    cases z'
  ·by_cases hb:b=a
   ·exact hb
   ·exact absurd (qA3 hb) z
end L2
namespace L2
open PySem PySem.Spec PyProof.Rows
end L2
namespace L2
open PySem PySem.Spec PyProof.Rows
def Q8 (s:Stmt):Arguments:=match s with
 | .FunctionDef _ a _ _ _ _ _ _ _ _=>a
 | _=>{ posonlyargs:=[],args:=[],vararg:=none,kwonlyargs:=[],kw_defaults:=[],kwarg:=none,defaults:=[] }
def E8 (s:Stmt):List Stmt:=match s with
 | .FunctionDef _ _ b _ _ _ _ _ _ _=>b
 | _=>[]
def b9 (s:Stmt):Scope:=match s with
 | .FunctionDef _ _ _ _ _ _ sc _ _ _=>sc
 | _=>{ kind:=.function,names:=[],isGenerator:=false,isCoroutine:=false }
abbrev CX0:CXT:=fun _ _ _ _ _ _=>False
abbrev E0:XK:=fun _ _ _=>False
def fg {X:Cx}:lD CX0 X E0:=fun _ _ _ _ _ _ _ h=>h.elim
structure Fun (K:Frag) (x qual:Str) (st:Stmt) (f:Addr) (fd:FuncData):Prop where
 ex:∃ (oc:Value) (od:Option Addr) (kV doc pm:Value) (an:Option Addr) (Gs ct:Value) (Ix:Array (Option Value)),
  fd=PySem.W.fnOf x qual (Q8 st) (E8 st) (b9 st) .none kV doc pm an Gs ct/\K.lookup f=some ⟨oc,od,.func fd,Ix⟩/\PySem.W.codeIn K Gs qual=true
 kp:PySem.W.keepIn K (.ref f)=true
section
variable {P:Program} {w:World} {K:Frag} {mg:Str->Option Value} {base:Heap}
def Fun.ok {x qual:Str} {st:Stmt} {f:Addr} {fd:FuncData} {N ps:List Str} {k:Nat} {sp:Sp} (F:Fun K x qual st f fd) (S:e9 N ps (b9 st)) (len:∀ vs H Q E,sp vs H Q E->vs.length=ps.length)
  (He:∀ (Gs:Value) (A:Around) (outer:List Env) (s:Shared) (H:Hp) (vs:List V) (Q:VK) (E:XK),Room k (A.deeper (envOfC qual (b9 st) s.heap.objs.size f Gs))->sp vs H Q E ->
   ∃ t,PSs (bo CX0 P w K mg base N qual (b9 st) f Gs A outer s H E).nox (E8 st) t/\t { nx:=fun _ H'=>Q .non H',rt:=Q } (start N vs) H):FnOk P w K mg base CX0 (k+1) f fd ps sp:=by
 obtain ⟨oc,od,kV,doc,pm,an,Gs,ct,Ix,rfl,lk,GN⟩:=F.ex
 refine EI lk GN S len fun A outer s H vs Q E hr Ie=>?_
 obtain ⟨t,h,q⟩:=He Gs A outer s H vs Q E hr Ie
 exact ⟨t,h.nox,q⟩
def Fun.binds {x qual:Str} {st:Stmt} {f:Addr} {fd:FuncData} {ps:List Str} (F:Fun K x qual st f fd)
  (h:∀ (kV doc pm:Value) (an:Option Addr) (Gs ct:Value) (us:List Value),us.length=ps.length->bindArgs (PySem.W.fnOf x qual (Q8 st) (E8 st) (b9 st) .none kV doc pm an Gs ct) ⟨us,[]⟩=pure (ps.zip us)):Binds K fd ps []:=by
 obtain ⟨oc,od,kV,doc,pm,an,Gs,ct,Ix,rfl,lk,GN⟩:=F.ex
 exact .all (h kV doc pm an Gs ct)
def Cn {x qual:Str} {st:Stmt} {f:Addr} {oc:Value} {od an:Option Addr} {Ix:Array (Option Value)} {kV doc pm Gs ct:Value} (l:K.lookup f=some ⟨oc,od,.func (PySem.W.fnOf x qual (Q8 st) (E8 st) (b9 st) .none kV doc pm an Gs ct),Ix⟩)
  (c:PySem.W.codeIn K Gs qual=true) (k:PySem.W.keepIn K (.ref f)=true):Fun K x qual st f (PySem.W.fnOf x qual (Q8 st) (E8 st) (b9 st) .none kV doc pm an Gs ct):=⟨⟨oc,od,kV,doc,pm,an,Gs,ct,Ix,rfl,l,c⟩,k⟩
end
section
variable {X:Cx}
end
def Same (H H':Hp):Prop:=∀ b o,H b=some o->H' b=some o
def Same.refl (H:Hp):Same H H:=fun _ _ h=>h
def Same.trans {H H1 H2:Hp} (a:Same H H1) (b:Same H1 H2):Same H H2:=fun c o h=>b c o (a c o h)
def Same.free {H H':Hp} (e:Same H H') {l:Addr} (h:H' l=Option.none):H l=Option.none:=by
 cases q:H l with
 | none=>rfl
 | some o=>
  rw [e l o q] at h
  cases h
def Same.seq {K:Frag} {H H':Hp} {a:Addr} {xs:List V} (e:Same H H') (h:SqL K H a xs):SqL K H' a xs:=by
 rcases h with (h | ⟨o,h⟩) | h
 ·exact .inl (.inl (e _ _ h))
 ·exact .inl (.inr ⟨o,e _ _ h⟩)
 ·exact .inr h
end L2
namespace L2
open PySem PySem.Spec PyProof.Rows
section
variable {κ:Type} [DecidableEq κ]
def zb (Gm:List (κ×V)) (k:κ):Option V:=(Gm.find? fun kv=>decide (kv.1=k)).map (·.2)
def putK (Gm:List (κ×V)) (k:κ) (v:V):List (κ×V):=
 if (Gm.any fun kv=>decide (kv.1=k))=true then Gm.map (fun kv=>if kv.1=k then (kv.1,v) else kv) else Gm ++ [(k,v)]
def dropK (Gm:List (κ×V)) (k:κ):List (κ×V):=Gm.filter fun kv=>decide (kv.1≠k)
end
abbrev KT (H:Hp):List (List Key×V)->List (List Key×Addr×Value)->Prop:=Paired fun p q=>p.1=q.1/\H q.2.1=some (.tup (p.1.map kV))/\RelV p.2 q.2.2
section
variable {P:Program} {w:World} {H:Hp} {h:Heap} {a:Addr}
end
def DGet (H:Hp) (a:Addr) (y:V) (r:Option V):Prop:=
 (∃ Gm k,Rd H a (.dK Gm)/\y=kV k/\r=zb Gm k)\/∃ Gm k b,Rd H a (.dT Gm)/\y=.ref b/\H b=some (.tup (k.map kV))/\r=zb Gm k
def DPut (H:Hp) (a:Addr) (y v:V) (H':Hp):Prop:=
 (∃ Gm k,H a=some (.dK Gm)/\y=kV k/\Gm.length<sizeLine/\H'=upd H a (.dK (putK Gm k v))) \/
 ∃ Gm k b,H a=some (.dT Gm)/\y=.ref b/\H b=some (.tup (k.map kV))/\Gm.length<sizeLine/\H'=upd H a (.dT (putK Gm k v))
section
variable {X:Cx} {pins:List (Addr×Obj)} {σ:St} {H:Hp} {s:Shared} {a:Addr} {y v:V} {u r:Value} {o:Option V} {A:Around} {E:Value->Shared->Prop}
end
section
variable {X:Cx} {pins:List (Addr×Obj)} {σ:St} {H:Hp} {s:Shared} {a:Addr} {Gm:List (Key×V)} {k:Key} {u:Value} {A:Around} {E:Value->Shared->Prop}
end
section
variable {X:Cx} {o i e value:Expr} {pos pos' tpos:Pos} {td ty tv:TE}
end
section
variable {X:Cx} {pos:Pos}
end
end L2
namespace L2
open PySem
structure Sub where
 t:Bool
 i:Addr
 l:Addr
def Sub.At (u:Sub) (h:Heap) (n:Nat):Prop:=if u.t=true then h.IsTupleIter u.i u.l n else h.IsListIter u.i u.l n
def Sub.Src (u:Sub) (h:Heap) (xs:Array Value):Prop:=if u.t=true then h.IsTuple u.l xs else h.IsList u.l xs
def Sub.At.obj {u:Sub} {h:Heap} {n:Nat} (x:u.At h n):∃ o,h.get? u.i=some o/\o.data=.fields #[.ref u.l,.int n 0]:=by
 unfold Sub.At at x
 split at x <;> (obtain ⟨o,e,_,d⟩:=x; exact ⟨o,e,d⟩)
def Sub.At.keep {u:Sub} {h h':Heap} {n:Nat} (x:u.At h n) (k:∀ o,h.get? u.i=some o->h'.get? u.i=some o):u.At h' n:=by
 unfold Sub.At at x ⊢
 split at x <;> (rename_i ht; obtain ⟨o,e,r⟩:=x; simp only [ht,if_true,if_false,qD5]; exact ⟨o,k o e,r⟩)
def Sub.Src.keep {u:Sub} {h h':Heap} {xs:Array Value} (x:u.Src h xs) (k:∀ o,h.get? u.l=some o->h'.get? u.l=some o):u.Src h' xs:=by
 unfold Sub.Src at x ⊢
 split at x <;> (rename_i ht; obtain ⟨o,e,r⟩:=x; simp only [ht,if_true,if_false,qD5]; exact ⟨o,k o e,r⟩)
section
variable {prog:Program} {w:World} {A:Around} {E:Value->Shared->Prop} {s:Shared}
def fu {it t:Addr} {i:Nat} {items:Array Value} {x:Value} {Q:Value->Shared->Prop} (hit:s.heap.IsTupleIter it t i) (ht:s.heap.IsTuple t items) (hx:items[i]?=some x)
  (hQ:∀ h',h'.IsTupleIter it t (i+1)->Heap.SameBut it s.heap h'->Q x { s with heap:=h' }):wpAny (model prog w) A (Builtin.SmallTypes.nextOf (.ref it)) Q E s:=by
 obtain ⟨o,ho,hc,hd⟩:=id hit; obtain ⟨ol,Lh,_,nl,KF⟩:=ht; unfold Builtin.SmallTypes.nextOf
 refine qA2 (wpAny_callSpecial?_slot (name:=Str.ofString "__next__") hit.typeIs qK3 (wpAny_call_entry qK3 hit.typeIs F.entry_tuple_iterator_next ?_ (F.args_tuple_iterator_next_1 _)))
 show wpAny _ _ (field (.ref it) 0>>=_) _ _ s; refine qA2 (wpAny_field ho hd (x:=.ref t) rfl ?_)
 show wpAny _ _ (if (Value.ref t == Value.none)=true then _ else _) _ _ s; rw [qA3 (show ¬ ((Value.ref t == Value.none)=true) from qA4)]
 show wpAny _ _ (field (.ref it) 1>>=_) _ _ s; refine qA2 (wpAny_field ho hd (x:=.int i 0) rfl ?_)
 show wpAny _ _ (seqItems? (.ref t)>>=_) _ _ s; refine qA2 (wpAny_seqItems Lh KF ?_); simp only [qJ2,hx]
 refine qA2 (wpAny_setField ho hd (by simp) (wpAny_pure ⟨x,rfl,wpAny_pure (hQ _ ?_ (qM5 ..))⟩)); exact ⟨_,Heap.get?_update_self _ ho (Obj.isFreed_of_fields (Obj.data_mapFields hd _)),(Obj.cls_mapFields ..).trans hc,by rw [Obj.data_mapFields hd]; simp [rawInt]⟩
def gD {it t:Addr} {i:Nat} {items:Array Value} {Q:Value->Shared->Prop} (hh:A.handled=none) (hit:s.heap.IsTupleIter it t i) (ht:s.heap.IsTuple t items) (hx:items[i]?=none)
  (hE:∀ h' e,Heap.ExtBut it s.heap h'->(∃ o,h'.get? e=some o/\o.cls=.type "StopIteration")->E (.ref e) { s with heap:=h' }):wpAny (model prog w) A (Builtin.SmallTypes.nextOf (.ref it)) Q E s:=by
 obtain ⟨o,ho,hc,hd⟩:=id hit; obtain ⟨ol,Lh,_,nl,KF⟩:=ht; unfold Builtin.SmallTypes.nextOf
 refine qA2 (wpAny_callSpecial?_slot (name:=Str.ofString "__next__") hit.typeIs qK3 (wpAny_call_entry qK3 hit.typeIs F.entry_tuple_iterator_next ?_ (F.args_tuple_iterator_next_1 _)))
 show wpAny _ _ (field (.ref it) 0>>=_) _ _ s; refine qA2 (wpAny_field ho hd (x:=.ref t) rfl ?_)
 show wpAny _ _ (if (Value.ref t == Value.none)=true then _ else _) _ _ s; rw [qA3 (show ¬ ((Value.ref t == Value.none)=true) from qA4)]
 show wpAny _ _ (field (.ref it) 1>>=_) _ _ s; refine qA2 (wpAny_field ho hd (x:=.int i 0) rfl ?_)
 show wpAny _ _ (seqItems? (.ref t)>>=_) _ _ s; refine qA2 (wpAny_seqItems Lh KF ?_); simp only [qJ2,hx]
 refine qA2 (wpAny_rule (qA2 (wpAny_setField ho hd (by simp) ?_))); show wpAny _ _ (newExc (.type "StopIteration") []>>=_) _ _ _
 refine qA2 ?_; simp only [newExc,newTuple]; refine qA2 (wpAny_newObj_type ?_ (by size_fits))
 refine qA2 (m:=firstArgMember _ _) (wpAny_of_eq (a:=Value.none) (by first | rfl | (simp only [firstArgMember]; rfl)) ?_); refine wpAny_newObj_type ?_ (by size_fits); simp only [raiseNew]
 refine qA2 (wpAny_handled ?_); first | rw [show A.in1.handled=none from hh] | rw [hh]
 refine qA2 (wpAny_pure (wpAny_throw ?_)); exact hE _ _ (((qM5 ..).extBut.push _).push _) ⟨_,qC6 _ rfl,rfl⟩
def Sub.item {u:Sub} {n:Nat} {xs:Array Value} {x:Value} {Q:Value->Shared->Prop} (ha:u.At s.heap n) (hs:u.Src s.heap xs) (hx:xs[n]?=some x)
  (hQ:∀ h',u.At h' (n+1)->Heap.SameBut u.i s.heap h'->Q x { s with heap:=h' }):wpAny (model prog w) A (Builtin.SmallTypes.nextOf (.ref u.i)) Q E s:=by
 unfold Sub.At at ha hQ; unfold Sub.Src at hs
 cases ht:u.t with
 | true=>simp only [ht,if_true] at ha hs hQ; exact fu ha hs hx hQ
 | false=>simp only [ht,if_false,qD5] at ha hs hQ; exact wpAny_nextOf_list_item ha hs hx hQ
def Sub.ends {u:Sub} {n:Nat} {xs:Array Value} {Q:Value->Shared->Prop} (hh:A.handled=none) (ha:u.At s.heap n) (hs:u.Src s.heap xs) (hx:xs[n]?=none)
  (hE:∀ h' e,Heap.ExtBut u.i s.heap h'->(∃ o,h'.get? e=some o/\o.cls=.type "StopIteration")->E (.ref e) { s with heap:=h' }):wpAny (model prog w) A (Builtin.SmallTypes.nextOf (.ref u.i)) Q E s:=by
 unfold Sub.At at ha; unfold Sub.Src at hs
 cases ht:u.t with
 | true=>simp only [ht,if_true] at ha hs; exact gD hh ha hs hx hE
 | false=>simp only [ht,if_false,qD5] at ha hs; exact wpAny_nextOf_list_end hh ha hs hx hE
abbrev F1 (h:Heap) (T:Addr) (arr:Array Value):Prop:=h.get? T=some { cls:=.type "tuple",data:=.seq arr }
def drawn (n:Nat):List (Sub×Array Value)->Nat->Array Value->Array Value
 | [],_,arr=>arr
 | u::r,c,arr=>drawn n r (c+1) (arr.setIfInBounds c (u.2.getD n .none))
def wa (prog:Program) (w:World) (A:Around) (z TO:Addr) (E:Value->Shared->Prop) (B:Value×Nat->Option Fin×Unit->Sem (ForInStep (Option Fin×Unit))):Prop:=
 ∀ (v:Value) (k:Nat) (s:Shared) (Q:ForInStep (Option Fin×Unit)->Shared->Prop),
  wpAny (model prog w) A (Builtin.SmallTypes.nextOf v) (fun x s1=>∃ arr,F1 s1.heap TO arr/\arr.size<=sizeLine/\∀ h',F1 h' TO (arr.setIfInBounds k x)->Heap.SameBut TO s1.heap h'->Q (.yield (none,())) { s1 with heap:=h' })
   (fun e s1=>wpAny (model prog w) A (setField (.ref z) 0 .none) (fun _ s2=>E e s2) E s1) s->wpAny (model prog w) A (B (v,k) (none,())) Q E s
structure Apart (z TO:Addr) (ss:List (Sub×Array Value)):Prop where
 zTO:z≠TO
 zi:∀ u∈ss,u.1.i≠z
 ti:∀ u∈ss,u.1.i≠TO
 nd:ss.Pairwise fun u v=>u.1.i≠v.1.i
 lz:∀ u∈ss,u.1.l≠z
 lt:∀ u∈ss,u.1.l≠TO
 li:∀ u∈ss,∀ v∈ss,u.1.l≠v.1.i
def Apart.tail {z TO:Addr} {u:Sub×Array Value} {ss:List (Sub×Array Value)} (D:Apart z TO (u::ss)):Apart z TO ss:=
 ⟨D.zTO,fun v hv=>D.zi v (qA8 _ hv),fun v hv=>D.ti v (qA8 _ hv),(List.pairwise_cons.mp D.nd).2,fun v hv=>D.lz v (qA8 _ hv),fun v hv=>D.lt v (qA8 _ hv),
  fun v hv x hx=>D.li v (qA8 _ hv) x (qA8 _ hx)⟩
def draws {z TI TO:Addr} {n:Nat} {B:Value×Nat->Option Fin×Unit->Sem (ForInStep (Option Fin×Unit))} (hB:wa prog w A z TO E B) :
  ∀ (ss:List (Sub×Array Value)) (c:Nat) (arr:Array Value) (s:Shared) (Q:Option Fin×Unit->Shared->Prop),Apart z TO ss->IsZip s.heap z TI TO .ellipsis->F1 s.heap TO arr->arr.size<=sizeLine ->
   (∀ u∈ss,u.1.At s.heap n/\u.1.Src s.heap u.2/\∃ x,u.2[n]?=some x) ->
   (∀ h',IsZip h' z TI TO .ellipsis->F1 h' TO (drawn n ss c arr)->(∀ u∈ss,u.1.At h' (n+1))->h'.objs.size=s.heap.objs.size ->
    (∀ b o,b≠TO->(∀ u∈ss,b≠u.1.i)->s.heap.get? b=some o->h'.get? b=some o)->Q (none,()) { s with heap:=h' }) ->
   wpAny (model prog w) A (forIn ((ss.map fun u=>Value.ref u.1.i).zipIdx c) (none,()) B) Q E s:=by
 intro ss
 induction ss with
 | nil=>
  intro c arr s Q D hz hT hl hu hQ
  simp only [qI9,List.zipIdx_nil,List.forIn_nil]
  exact wpAny_pure (hQ s.heap hz hT (fun _ h=>absurd h qD6) rfl fun _ _ _ _ e=>e)
 | cons u r ih=>
  intro c arr s Q D hz hT hl hu hQ
  simp only [qC0,List.zipIdx_cons,qL5]
  obtain ⟨ha,Gv,x,hx⟩:=hu u qB6
  refine qA2 (hB _ _ _ _ (Sub.item ha Gv hx fun h1 ha1 sb1=>⟨arr,sb1.extBut _ _ (D.ti u qB6).symm hT,hl,fun h2 Lw sb2=>?_⟩))
  have uz:=D.zi u qB6
  have ut:=D.ti u qB6
  have kp:∀ b o,b≠TO->b≠u.1.i->s.heap.get? b=some o->h2.get? b=some o:=fun b o h1 h2 e=>sb2.extBut _ _ h1 (sb1.extBut _ _ h2 e)
  have Kw:∀ v∈r,v.1.i≠u.1.i:=fun v hv=>((List.pairwise_cons.mp D.nd).1 v hv).symm
  refine ih (c+1) (arr.setIfInBounds c x) { s with heap:=h2 } Q D.tail (kp _ _ D.zTO uz.symm hz) Lw (by simpa using hl) (fun v hv=>?_) fun h3 z3 T3 a3 s3 k3=>?_
  ·obtain ⟨a,b,y⟩:=hu v (qA8 _ hv)
   exact ⟨a.keep fun o e=>kp _ o (D.ti v (qA8 _ hv)) (Kw v hv) e,b.keep fun o e=>kp _ o (D.lt v (qA8 _ hv)) (D.li v (qA8 _ hv) u qB6) e,y⟩
  ·refine hQ h3 z3 ?_ (fun v hv=>?_) (by rw [s3]; show h2.objs.size=_; rw [sb2.1,sb1.1]) fun b o h1 h2 e=>k3 b o h1 (fun v hv=>h2 v (qA8 _ hv)) (kp b o h1 (h2 u qB6) e)
   ·have e:u.2.getD n .none=x:=by simp [qE3,hx]
    show F1 h3 TO (drawn n r (c+1) (arr.setIfInBounds c (u.2.getD n .none)))
    rw [e]; exact T3
   ·rcases qB3.mp hv with rfl | hv
    ·exact ha1.keep fun o e=>k3 _ o ut (fun v' Ku=>(Kw v' Ku).symm) (sb2.extBut _ _ ut e)
    ·exact a3 v hv
def rg {z TI TO:Addr} {n:Nat} {B:Value×Nat->Option Fin×Unit->Sem (ForInStep (Option Fin×Unit))} (hh:A.handled=none) (hB:wa prog w A z TO E B) :
  ∀ (ss:List (Sub×Array Value)) (c:Nat) (arr:Array Value) (s:Shared) (Q:Option Fin×Unit->Shared->Prop),Apart z TO ss->IsZip s.heap z TI TO .ellipsis->F1 s.heap TO arr->arr.size<=sizeLine ->
   (∀ u∈ss,u.1.At s.heap n/\u.1.Src s.heap u.2)->(∃ u∈ss,u.2[n]?=none) ->
   (∀ h' e,(∀ b o,b≠z->b≠TO->(∀ u∈ss,b≠u.1.i)->s.heap.get? b=some o->h'.get? b=some o)->(∃ o,h'.get? e=some o/\o.cls=.type "StopIteration")->E (.ref e) { s with heap:=h' }) ->
   wpAny (model prog w) A (forIn ((ss.map fun u=>Value.ref u.1.i).zipIdx c) (none,()) B) Q E s:=by
 intro ss
 induction ss with
 | nil=>
  intro c arr s Q D hz hT hl hu hx hQ
  obtain ⟨_,h,_⟩:=hx
  exact absurd h qD6
 | cons u r ih=>
  intro c arr s Q D hz hT hl hu hx hQ
  simp only [qC0,List.zipIdx_cons,qL5]
  obtain ⟨ha,Gv⟩:=hu u qB6
  have uz:=D.zi u qB6
  have ut:=D.ti u qB6
  cases IT:u.2[n]? with
  | none=>
   refine qA2 (hB _ _ _ _ (Sub.ends hh ha Gv IT fun h1 e eb he=>?_))
   obtain ⟨oe,Li,hce⟩:=he
   have IB:IsZip h1 z TI TO .ellipsis:=eb _ _ uz.symm hz
   have hez:e≠z:=fun x=>by subst x; rw [IB] at Li; cases Li; simp at hce
   exact wpAny_setField_rec IB (by simp) fun h3 _ sb3=>hQ h3 e (fun b o b1 b2 b3 q=>sb3.extBut _ _ b1 (eb _ _ (b3 u qB6) q)) ⟨oe,sb3.extBut _ _ hez Li,hce⟩
  | some x=>
   refine qA2 (hB _ _ _ _ (Sub.item ha Gv IT fun h1 ha1 sb1=>⟨arr,sb1.extBut _ _ ut.symm hT,hl,fun h2 Lw sb2=>?_⟩))
   have kp:∀ b o,b≠TO->b≠u.1.i->s.heap.get? b=some o->h2.get? b=some o:=fun b o h1 h2 e=>sb2.extBut _ _ h1 (sb1.extBut _ _ h2 e)
   have Kw:∀ v∈r,v.1.i≠u.1.i:=fun v hv=>((List.pairwise_cons.mp D.nd).1 v hv).symm
   refine ih (c+1) (arr.setIfInBounds c x) { s with heap:=h2 } Q D.tail (kp _ _ D.zTO uz.symm hz) Lw (by simpa using hl) (fun v hv=>?_) ?_ fun h3 e k3 he=>?_
   ·obtain ⟨a,b⟩:=hu v (qA8 _ hv)
    exact ⟨a.keep fun o e=>kp _ o (D.ti v (qA8 _ hv)) (Kw v hv) e,b.keep fun o e=>kp _ o (D.lt v (qA8 _ hv)) (D.li v (qA8 _ hv) u qB6) e⟩
   ·obtain ⟨v,hv,e⟩:=hx
    rcases qB3.mp hv with rfl | hv
    ·rw [IT] at e; cases e
    ·exact ⟨v,hv,e⟩
   ·exact hQ h3 e (fun b o b1 b2 b3 q=>k3 b o b1 b2 (fun v hv=>b3 v (qA8 _ hv)) (kp b o b2 (b3 u qB6) q)) he
def ox (n:Nat):∀ (ss:List (Sub×Array Value)) (c:Nat) (arr:Array Value),(drawn n ss c arr).size=arr.size:=by
 intro ss
 induction ss with
 | nil=>intro c arr; rfl
 | cons u r ih=>intro c arr; unfold drawn; rw [ih]; simp
def rh (n:Nat):∀ (ss:List (Sub×Array Value)) (c:Nat) (arr:Array Value),c+ss.length=arr.size->(drawn n ss c arr).toList=arr.toList.take c++ss.map fun u=>u.2.getD n .none:=by
 intro ss
 induction ss with
 | nil=>
  intro c arr h
  unfold drawn
  simp at h; subst h
  rw [qI9,qG1]
  exact (List.take_of_length_le (by simp)).symm
 | cons u r ih=>
  intro c arr h
  unfold drawn
  have hc:c<arr.size:=by simp at h; omega
  rw [ih (c+1) _ (by simp at h ⊢; omega)]
  rw [qC0,Array.toList_setIfInBounds]
  have:(arr.toList.set c (u.2.getD n Value.none)).take (c+1)=arr.toList.take c ++ [u.2.getD n Value.none]:=by
   rw [List.take_add_one,List.take_set,qE4 (by simpa using hc)]
   rw [List.set_eq_of_length_le (by simp; omega)]; rfl
  rw [this,qE9]; rfl
def rY {z TI TO:Addr} {n:Nat} {ss:List (Sub×Array Value)} {arr:Array Value} {Q:Option Value->Shared->Prop} (D:Apart z TO ss) (Gr:ss ≠ []) (Id:arr.size=ss.length) (Gn:ss.length<=sizeLine)
  (hz:IsZip s.heap z TI TO .none) (Hr:F1 s.heap TI (ss.map fun u=>Value.ref u.1.i).toArray) (Hy:F1 s.heap TO arr) (hu:∀ u∈ss,u.1.At s.heap n/\u.1.Src s.heap u.2/\∃ x,u.2[n]?=some x)
  (hQ:∀ h',IsZip h' z TI TO (rawInt s.heap.objs.size)->(∃ Gq,F1 h' TO Gq/\Gq.size=ss.length)->(∀ u∈ss,u.1.At h' (n+1))->F1 h' s.heap.objs.size (ss.map fun u=>u.2.getD n .none).toArray ->
   (∀ b o,b≠z->b≠TO->(∀ u∈ss,b≠u.1.i)->s.heap.get? b=some o->h'.get? b=some o)->Q (some (.ref s.heap.objs.size)) { s with heap:=h' }) :
  wpAny (model prog w) A (pyNext (.ref z)) Q E s:=by
 have hT:s.TypeIs (.ref z) "zip" := ⟨_,hz,rfl⟩
 unfold pyNext
 refine qA2 (wpAny_attempt (wpAny_callSpecial?_slot (name:=Str.ofString "__next__") hT F.slot_zip_next (wpAny_call_entry F.slot_zip_next hT F.entry_zip_next ?_ (F.args_zip_next_1 _))))
 show wpAny _ _ (field (.ref z) 2>>=_) _ _ _; refine qA2 (wpAny_field hz rfl (x:=.bool false) rfl ?_)
 show wpAny _ _ (field (.ref z) 3>>=_) _ _ _; refine qA2 (wpAny_field hz rfl (x:=.ref TI) rfl ?_); refine qA2 (wpAny_seqItems Hr rfl ?_)
 have e1:(ss.map fun u=>Value.ref u.1.i).toArray.isEmpty=false:=by cases ss <;> simp_all
 simp only [e1]
 refine qA2 ?_; unfold Builtin.SmallTypes.ownedTupleIsFree; refine qA2 (wpAny_field hz rfl (x:=.none) rfl (wpAny_pure ?_)); simp only [if_true]
 refine qA2 (wpAny_rule ?_); refine qA2 (wpAny_field hz rfl (x:=.ref TO) rfl ?_)
 refine qA2 (wpAny_setField_rec hz (by simp) fun h1 z1 sb1=>?_); replace z1:IsZip h1 z TI TO .ellipsis:=z1
 refine qA2 (draws (TI:=TI) (n:=n) (z:=z) (TO:=TO) ?_ ss 0 arr _ _ D z1 (sb1.extBut _ _ D.zTO.symm Hy) (by omega) (fun u hm=>?_) fun h2 z2 T2 a2 s2 k2=>?_)
 ·intro v k s Q h
  refine qA2 (wpAny_onRaise ?_)
  show wpAny _ _ (Builtin.SmallTypes.nextOf v>>=_) _ _ _
  refine qA2 (wpAny_mono h (fun x s1 ⟨arr,hT1,hl,hq⟩=>wpAny_pure ?_) fun e s1 he=>he)
  refine qA2 (wpAny_seqItems hT1 rfl ?_)
  refine qA2 (wpAny_updateSeq hT1 rfl ?_ hl (by rw [Array.size_setIfInBounds]; omega))
  refine qA2 (wpAny_letGo (wpAny_pure (hq _ ?_ (qM5 ..))))
  show Heap.get? _ _=_
  rw [Heap.get?_update_self _ hT1 rfl]; simp [Obj.mapSeq]
 ·obtain ⟨a,b,x⟩:=hu u hm
  exact ⟨a.keep fun o e=>sb1.extBut _ _ (D.zi u hm) e,b.keep fun o e=>sb1.extBut _ _ (D.lz u hm) e,x⟩
 ·have ed:(drawn n ss 0 arr).toList=ss.map fun u=>u.2.getD n .none:=by rw [rh n ss 0 arr (by omega)]; simp
  refine qA2 (wpAny_seqItems T2 rfl ?_)
  have HU:h2.objs.size=s.heap.objs.size:=by rw [s2]; exact sb1.1
  have hlz:z<h2.objs.size:=qB7 z2
  refine qA2 (wpAny_newTuple (qA2 ?_) (by rw [ed,qA5]; exact Gn))
  unfold Builtin.SmallTypes.ownedTupleHandOut
  have z3:IsZip (h2.push { cls:=.type "tuple",data:=.seq (drawn n ss 0 arr).toList.toArray }) z TI TO .ellipsis:=qA6 _ z2
  refine qA2 (wpAny_setField_rec z3 (by simp) fun h4 z4 sb4=>?_); replace z4:IsZip h4 z TI TO (rawInt h2.objs.size):=z4
  refine wpAny_setField_rec z4 (by simp) fun h5 z5 sb5=>?_; replace z5:IsZip h5 z TI TO (rawInt h2.objs.size):=z5
  have up:∀ b o,b≠z->h2.get? b=some o->h5.get? b=some o:=fun b o hb e=>sb5.extBut _ _ hb (sb4.extBut _ _ hb (qA6 _ e))
  have T5:F1 h5 h2.objs.size (drawn n ss 0 arr).toList.toArray:=sb5.extBut _ _ (qJ9 hlz) (sb4.extBut _ _ (qJ9 hlz) (qC6 _ rfl))
  rw [ed] at T5
  rw [HU] at z5 T5
  refine wpAny_pure ⟨_,rfl,wpAny_pure ?_⟩
  show Q (some (.ref h2.objs.size)) _
  rw [HU]
  exact hQ h5 z5 ⟨_,up _ _ D.zTO.symm T2,by rw [ox,Id]⟩ (fun u hm=>(a2 u hm).keep fun o e=>up _ o (D.zi u hm) e) T5 fun b o b1 b2 b3 e=>up b o b1 (k2 b o b2 b3 (sb1.extBut _ _ b1 e))
def rX {z TI TO:Addr} {n:Nat} {ss:List (Sub×Array Value)} {arr:Array Value} {Q:Option Value->Shared->Prop} (hh:A.handled=none) (D:Apart z TO ss) (Id:arr.size=ss.length) (Gn:ss.length<=sizeLine)
  (hz:IsZip s.heap z TI TO .none) (Hr:F1 s.heap TI (ss.map fun u=>Value.ref u.1.i).toArray) (Hy:F1 s.heap TO arr) (hu:∀ u∈ss,u.1.At s.heap n/\u.1.Src s.heap u.2) (hx:∃ u∈ss,u.2[n]?=none)
  (hQ:∀ h',(∀ b o,b≠z->b≠TO->(∀ u∈ss,b≠u.1.i)->s.heap.get? b=some o->h'.get? b=some o)->Q none { s with heap:=h' }) :
  wpAny (model prog w) A (pyNext (.ref z)) Q E s:=by
 have hT:s.TypeIs (.ref z) "zip" := ⟨_,hz,rfl⟩
 unfold pyNext
 refine qA2 (wpAny_attempt (wpAny_callSpecial?_slot (name:=Str.ofString "__next__") hT F.slot_zip_next (wpAny_call_entry F.slot_zip_next hT F.entry_zip_next ?_ (F.args_zip_next_1 _))))
 show wpAny _ _ (field (.ref z) 2>>=_) _ _ _; refine qA2 (wpAny_field hz rfl (x:=.bool false) rfl ?_)
 show wpAny _ _ (field (.ref z) 3>>=_) _ _ _; refine qA2 (wpAny_field hz rfl (x:=.ref TI) rfl ?_); refine qA2 (wpAny_seqItems Hr rfl ?_)
 have e1:(ss.map fun u=>Value.ref u.1.i).toArray.isEmpty=false:=by
  obtain ⟨u,hm,_⟩:=hx
  cases ss with
  | nil=>exact nomatch hm
  | cons a b=>simp
 simp only [e1]
 refine qA2 ?_; unfold Builtin.SmallTypes.ownedTupleIsFree; refine qA2 (wpAny_field hz rfl (x:=.none) rfl (wpAny_pure ?_)); simp only [if_true]
 refine qA2 (wpAny_rule ?_); refine qA2 (wpAny_field hz rfl (x:=.ref TO) rfl ?_)
 refine qA2 (wpAny_setField_rec hz (by simp) fun h1 z1 sb1=>?_); replace z1:IsZip h1 z TI TO .ellipsis:=z1
 refine qA2 (rg (A:=A.in1) (TI:=TI) (n:=n) (z:=z) (TO:=TO) (show A.in1.handled=none from hh) ?_ ss 0 arr _ _ D z1 (sb1.extBut _ _ D.zTO.symm Hy) (by omega) (fun u hm=>?_) hx fun h2 e k2 he=>?_)
 ·intro v k s Q h
  refine qA2 (wpAny_onRaise ?_)
  show wpAny _ _ (Builtin.SmallTypes.nextOf v>>=_) _ _ _
  refine qA2 (wpAny_mono h (fun x s1 ⟨arr,hT1,hl,hq⟩=>wpAny_pure ?_) fun e s1 he=>he)
  refine qA2 (wpAny_seqItems hT1 rfl ?_)
  refine qA2 (wpAny_updateSeq hT1 rfl ?_ hl (by rw [Array.size_setIfInBounds]; omega))
  refine qA2 (wpAny_letGo (wpAny_pure (hq _ ?_ (qM5 ..))))
  show Heap.get? _ _=_
  rw [Heap.get?_update_self _ hT1 rfl]; simp [Obj.mapSeq]
 ·obtain ⟨a,b⟩:=hu u hm
  exact ⟨a.keep fun o e=>sb1.extBut _ _ (D.zi u hm) e,b.keep fun o e=>sb1.extBut _ _ (D.lz u hm) e⟩
 ·obtain ⟨o,ho,hc⟩:=he
  refine qA2 (wpAny_isInstance (T := "StopIteration") (b:=true) ⟨o,ho,hc⟩ isSubtype_stop ?_)
  exact wpAny_pure (hQ _ fun b o b1 b2 b3 e=>k2 b o b1 b2 b3 (sb1.extBut _ _ b1 e))
def SrcAt (h:Heap) (u:Bool×Addr×Array Value):Prop:=if u.1=true then h.IsTuple u.2.1 u.2.2 else h.IsList u.2.1 u.2.2
def g9 (n:Nat):List (Bool×Addr×Array Value)->List (Sub×Array Value)
 | []=>[]
 | u::r=>(⟨u.1,n,u.2.1⟩,u.2.2)::g9 (n+1) r
def uJ {u:Bool×Addr×Array Value} {Q:Value->Shared->Prop} (hs:SrcAt s.heap u)
  (hQ:∀ h',(Sub.mk u.1 s.heap.objs.size u.2.1).At h' 0->h'.objs.size=s.heap.objs.size+1->(∀ b o,s.heap.get? b=some o->h'.get? b=some o)->Q (.ref s.heap.objs.size) { s with heap:=h' }) :
  wpAny (model prog w) A (pyIter (.ref u.2.1)) Q E s:=by
 unfold SrcAt at hs
 cases ht:u.1 with
 | true=>
  simp only [ht,if_true] at hs
  refine wpAny_pyIter_tuple hs (hQ _ ?_ (qL9 ..) fun b o e=>qA6 _ e)
  unfold Sub.At
  simp only [ht,if_true]
  exact ⟨_,qC6 _ rfl,rfl,rfl⟩
 | false=>
  simp only [ht,qD5,if_false] at hs
  refine wpAny_pyIter_list hs (hQ _ ?_ (qL9 ..) fun b o e=>qA6 _ e)
  unfold Sub.At
  simp only [ht,qD5,if_false]
  exact ⟨_,qC6 _ rfl,rfl,rfl⟩
def SrcAt.keep {h h':Heap} {u:Bool×Addr×Array Value} (x:SrcAt h u) (k:∀ b o,h.get? b=some o->h'.get? b=some o):SrcAt h' u:=by
 unfold SrcAt at x ⊢
 split at x <;> (rename_i ht; obtain ⟨o,e,r⟩:=x; simp only [ht,if_true,if_false,qD5]; exact ⟨o,k _ o e,r⟩)
def lQ:∀ (us:List (Bool×Addr×Array Value)) (acc:Array Value) (s:Shared) (Q:Array Value->Shared->Prop),(∀ u∈us,SrcAt s.heap u) ->
  (∀ h',(∀ v∈g9 s.heap.objs.size us,v.1.At h' 0)->h'.objs.size=s.heap.objs.size+us.length->(∀ b o,s.heap.get? b=some o->h'.get? b=some o) ->
   Q (acc++((g9 s.heap.objs.size us).map fun v=>Value.ref v.1.i).toArray) { s with heap:=h' }) ->
  wpAny (model prog w) A (forIn (us.map fun u=>Value.ref u.2.1) acc fun x r=>do let y <- holding r.toList (pyIter x); pure (ForInStep.yield (r.push y))) Q E s:=by
 intro us
 induction us with
 | nil=>
  intro acc s Q _ hQ
  simp only [qI9,List.forIn_nil]
  have:=hQ s.heap (fun _ h=>absurd h qD6) rfl fun _ _ e=>e
  exact wpAny_pure (by simpa [g9] using this)
 | cons u r ih=>
  intro acc s Q hs hQ
  simp only [qC0,qL5]
  refine qA2 (qA2 (wpAny_holding (uJ (hs u qB6) fun h1 a1 s1 k1=>wpAny_pure ?_)))
  refine ih (acc.push (.ref s.heap.objs.size)) { s with heap:=h1 } Q (fun v hv=>(hs v (qA8 _ hv)).keep k1) fun h2 a2 s2 k2=>?_
  have e0:g9 h1.objs.size r=g9 (s.heap.objs.size+1) r:=by rw [s1]
  have q:=hQ h2 (fun v hv=>?_) (by rw [s2]; show h1.objs.size+_=_; rw [s1,qC2]; omega) fun b o e=>k2 b o (k1 b o e)
  ·have e:acc.push (Value.ref s.heap.objs.size)++(List.map (fun v=>Value.ref v.1.i) (g9 h1.objs.size r)).toArray=acc++(List.map (fun v=>Value.ref v.1.i) (g9 s.heap.objs.size (u::r))).toArray:=by
    rw [e0]; simp [g9]
   show Q (acc.push (Value.ref s.heap.objs.size)++(List.map (fun v=>Value.ref v.1.i) (g9 h1.objs.size r)).toArray) _
   rw [e]; exact q
  ·rcases qB3.mp hv with rfl | hv
   ·exact a1.keep fun o e=>k2 _ o e
   ·exact a2 v (by show v∈g9 h1.objs.size r; rw [e0]; exact hv)
def uK {us:List (Bool×Addr×Array Value)} {Q:List Value->Shared->Prop} (hs:∀ u∈us,SrcAt s.heap u)
  (hQ:∀ h',(∀ v∈g9 s.heap.objs.size us,v.1.At h' 0)->h'.objs.size=s.heap.objs.size+us.length->(∀ b o,s.heap.get? b=some o->h'.get? b=some o) ->
   Q ((g9 s.heap.objs.size us).map fun v=>Value.ref v.1.i) { s with heap:=h' }):wpAny (model prog w) A (Builtin.SmallTypes.iterAll (us.map fun u=>Value.ref u.2.1)) Q E s:=by
 unfold Builtin.SmallTypes.iterAll
 refine qA2 (lQ us #[] s _ hs fun h' a1 s1 k1=>wpAny_pure ?_)
 have:=hQ h' a1 s1 k1
 simpa using this
def R7:∀ (us:List (Bool×Addr×Array Value)) (n:Nat),(g9 n us).length=us.length:=by
 intro us
 induction us with
 | nil=>intro n; rfl
 | cons u r ih=>intro n; unfold g9; rw [qC2,ih,qC2]
def im (us:List (Bool×Addr×Array Value)) (hl:us.length<=sizeLine) :
  Meets (Builtin.«zip.__new__» ⟨.type "zip" :: us.map fun u=>Value.ref u.2.1,[]⟩) (fun _ R s=>(∀ u∈us,SrcAt s.heap u) /\
   ∀ h',(∀ v∈g9 s.heap.objs.size us,v.1.At h' 0)->F1 h' (s.heap.objs.size+us.length) ((g9 s.heap.objs.size us).map fun v=>Value.ref v.1.i).toArray ->
    (∃ arr,F1 h' (s.heap.objs.size+us.length+1) arr/\arr.size=us.length)->IsZip h' (s.heap.objs.size+us.length+2) (s.heap.objs.size+us.length) (s.heap.objs.size+us.length+1) .none ->
    (∀ b o,s.heap.get? b=some o->h'.get? b=some o)->R (.ok (.ret (.ref (s.heap.objs.size+us.length+2)))) { s with heap:=h' }):=
 .of_wp fun prog w A R s h=>by
  obtain ⟨hs,h⟩:=h
  show wpAny _ _ (Builtin.SmallTypes.newClass "zip" _>>=_) _ _ _
  refine qA2 ?_
  unfold Builtin.SmallTypes.newClass
  refine qA2 (wpAny_of_eq (a:=true) rfl ?_)
  simp only [Bool.not_true,qD5,if_false]
  refine qA2 (wpAny_of_eq (a:=true) sub_zip ?_)
  simp only [Bool.not_true,qD5,if_false]
  refine wpAny_pure ?_
  simp only [qM9,show ¬ (0>1) by decide,if_false]
  refine qA2 (uK hs fun h1 a1 s1 k1=>?_)
  refine qA2 (wpAny_newTuple ?_ (by simp [R7,hl]))
  refine qA2 (wpAny_newTuple ?_ (by simp [R7,hl]))
  generalize hI:((g9 s.heap.objs.size us).map fun v=>Value.ref v.1.i)=I at h ⊢
  have hIl:I.length=us.length:=by rw [<- hI,qA5,R7]
  refine qA2 ?_
  show wpAny _ _ (newObj (.type "zip") (.fields #[.none,.bool false,.bool false,.ref h1.objs.size,.ref (h1.push { cls:=.type "tuple",data:=.seq I.toArray }).objs.size]) none) _ _ _
  refine wpAny_newObj_type (wpAny_pure ?_) (by size_fits)
  have z0:h1.objs.size=s.heap.objs.size+us.length:=s1
  have z1:(h1.push { cls:=.type "tuple",data:=.seq I.toArray }).objs.size=s.heap.objs.size+us.length+1:=by rw [qL9,s1]
  have z2:((h1.push { cls:=.type "tuple",data:=.seq I.toArray }).push { cls:=.type "tuple",data:=.seq (I.map fun _=>Value.none).toArray }).objs.size=s.heap.objs.size+us.length+2:=by rw [qL9,z1]
  refine ⟨_,rfl,?_⟩
  have g:=h (((h1.push { cls:=.type "tuple",data:=.seq I.toArray }).push { cls:=.type "tuple",data:=.seq (I.map fun _=>Value.none).toArray }).push { cls:=.type "zip",data:=.fields #[.none,.bool false,.bool false,.ref h1.objs.size,.ref (h1.push { cls:=.type "tuple",data:=.seq I.toArray }).objs.size] })
   (fun v hv=>(a1 v hv).keep fun o e=>qA6 _ (qA6 _ (qA6 _ e))) ?_ ⟨(I.map fun _=>Value.none).toArray,?_,by simp [hIl]⟩ ?_ fun b o e=>qA6 _ (qA6 _ (qA6 _ (k1 b o e)))
  ·rw [<- z2] at g
   exact g
  ·rw [<- z0]; exact qA6 _ (qA6 _ (qC6 _ rfl))
  ·rw [<- z1]; exact qA6 _ (qC6 _ rfl)
  ·rw [<- z2,<- z1,<- z0]; exact qC6 _ rfl
def nz (a b c:Value):checkTypeCall "zip" ⟨[a,b,c],[]⟩=pure ():=by kernel_rfl
def nY (a b c:Value):checkBuiltinCall "zip.__new__" ⟨[.type "zip",a,b,c],[]⟩=pure ():=by kernel_rfl
def oH (a b c d:Value):argsOk "object.__init__" ⟨[a,b,c,d],[]⟩:=by
 unfold argsOk; rw [signature?_of (id := "object.__init__") (n:=['_','_','t','i','n','i','_','_']) (o:=['t','c','e','j','b','o']) (by kernel_rfl) F.owner_object]; kernel_rfl
def ve (us:List (Bool×Addr×Array Value)) (hl:us.length=2\/us.length=3) {Q:Value->Shared->Prop} (hs:∀ u∈us,SrcAt s.heap u)
  (h:∀ h',(∀ v∈g9 s.heap.objs.size us,v.1.At h' 0)->F1 h' (s.heap.objs.size+us.length) ((g9 s.heap.objs.size us).map fun v=>Value.ref v.1.i).toArray ->
    (∃ arr,F1 h' (s.heap.objs.size+us.length+1) arr/\arr.size=us.length)->IsZip h' (s.heap.objs.size+us.length+2) (s.heap.objs.size+us.length) (s.heap.objs.size+us.length+1) .none ->
    (∀ b o,s.heap.get? b=some o->h'.get? b=some o)->Q (.ref (s.heap.objs.size+us.length+2)) { s with heap:=h' }) :
  wpAny (model prog w) A (call (.type "zip") (us.map fun u=>Value.ref u.2.1)) Q E s:=by
 have hle:us.length<=sizeLine:=qA9 (show us.length<=3 by omega) (by decide)
 have k:∀ h',_->_->_->_->_->({ s with heap:=h' }:Shared).TypeIs (.ref (s.heap.objs.size+us.length+2)) "zip" /\ Q (.ref (s.heap.objs.size+us.length+2)) { s with heap:=h' }:=fun h' c1 c2 c3 c4 c5=>⟨⟨_,c4,rfl⟩,h h' c1 c2 c3 c4 c5⟩
 cases us with
 | nil=>rcases hl with hl | hl <;> cases hl
 | cons a us=>
  cases us with
  | nil=>rcases hl with hl | hl <;> cases hl
  | cons b us=>
   cases us with
   | nil=>exact callType_new F.called_zip (by decide) (F.typeCall_zip_2 _ _) (F.newCall_zip_2 _ _) (fun obj=>F.args_object_init_3 obj _ _) F.entry_zip_new (im [a,b] hle) ⟨hs,k⟩
   | cons c us=>
    cases us with
    | nil=>exact callType_new F.called_zip (by decide) (nz _ _ _) (nY _ _ _) (fun obj=>oH obj _ _ _) F.entry_zip_new (im [a,b,c] hle) ⟨hs,k⟩
    | cons d us=>rcases hl with hl | hl <;> (simp only [qC2] at hl; omega)
end
end L2
namespace L2
open PySem PySem.Spec PyProof.Rows
def au {α β:Type} {R:α->β->Prop}:∀ {l:List α},(∀ a∈l,∃ b,R a b)->∃ l':List (α×β),l'.map (·.1)=l/\∀ p∈l',R p.1 p.2:=by
 intro l
 induction l with
 | nil=>exact fun _=>⟨[],rfl,fun _ h=>absurd h qD6⟩
 | cons a l ih=>
  intro h
  obtain ⟨b,hb⟩:=h a qB6
  obtain ⟨l',e,q⟩:=ih fun x hx=>h x (qA8 _ hx)
  refine ⟨(a,b)::l',by rw [qC0,e],fun p hp=>?_⟩
  rcases qB3.mp hp with rfl | hp
  ·exact hb
  ·exact q p hp
def Sq (K:Frag) (H:Hp) (t:Bool) (a:Addr) (xs:List V):Prop:=if t=true then SqT K H a xs else SqL K H a xs
section
variable {X:Cx} {pins:List (Addr×Obj)} {σ:St} {H:Hp} {s:Shared}
def kne {b a:Addr} {o:Obj} (I:Inv X pins σ H s) (h:X.K.lookup a=some o) (f:J7 X pins H b):a≠b:=by
 intro e
 subst e
 have hb:X.base.get? a=some o:=I.mod.kin a o h
 obtain ⟨f0,f1,f2,f3,f4,f5⟩:=f
 rcases f3 with z | z
 ·exact I.ok.noex a o hb z
 ·exact absurd (qB0 (qB7 (I.ok.bs a o hb).1) z) (qG9 _)
def Sq.ne {t:Bool} {a b:Addr} {xs:List V} (I:Inv X pins σ H s) (h:Sq X.K H t a xs) (f:J7 X pins H b):a≠b:=by
 have tr:∀ {u:HO},Rd H a u->a≠b:=fun {u} r e=>by
  subst e
  have f0:=f.1
  rcases r with r | ⟨o,r⟩ <;> (rw [f0] at r; cases r)
 unfold Sq at h
 split at h
 ·rcases h with h | ⟨o,its,n,hk,_⟩
  ·exact tr h
  ·exact kne I hk f
 ·rcases h with h | ⟨o,its,n,hk,_⟩
  ·exact tr h
  ·exact kne I hk f
def Sq.src {t:Bool} {a:Addr} {xs:List V} (I:Inv X pins σ H s) (h:Sq X.K H t a xs):∃ its:List Value,Vals xs its/\(Sub.mk t 0 a).Src s.heap its.toArray:=by
 unfold Sq at h
 unfold Sub.Src
 split at h
 ·rename_i ht
  obtain ⟨its,r,p,_⟩:=I.tuple h
  exact ⟨its,r,by simp only [ht,if_true]; exact p⟩
 ·rename_i ht
  obtain ⟨its,r,p,_⟩:=I.list h
  exact ⟨its,r,by simp only [ht,if_false]; exact p.isList⟩
def Sq.inj {t:Bool} {a:Addr} {xs ys:List V} (I:Inv X pins σ H s) (h:Sq X.K H t a xs) (h':Sq X.K H t a ys):xs=ys:=by
 unfold Sq at h h'
 split at h
 ·rename_i ht; simp only [ht,if_true] at h'; exact I.tuple_inj h h'
 ·rename_i ht; simp only [ht,if_false] at h'; exact I.list_inj h h'
end
def ItZ (K:Frag) (us:List (Bool×Addr)):It:=
  ⟨fun i H=>∀ u∈us,∃ xs x,Sq K H u.1 u.2 xs/\xs[i]?=some x,
   fun i H x H'=>∃ p ys,x=.ref p/\H p=none/\H'=upd H p (.tup ys)/\Paired (fun (u:Bool×Addr) (y:V)=>∀ xs,Sq K H u.1 u.2 xs->xs[i]?=some y) us ys,
   fun i H=>(∀ u∈us,∃ xs,Sq K H u.1 u.2 xs)/\∃ u∈us,∃ xs,Sq K H u.1 u.2 xs/\xs.length<=i⟩
structure ZSt (z TI TO:Addr) (subs:List Sub):Prop where
 zTO:z≠TO
 TIz:TI≠z
 TITO:TI≠TO
 zi:∀ u∈subs,u.i≠z
 ti:∀ u∈subs,u.i≠TO
 Ii:∀ u∈subs,u.i≠TI
 nd:subs.Pairwise fun u v=>u.i≠v.i
abbrev zTn (z TI TO:Addr) (subs:List Sub) (i:Nat) (h:Heap):Prop:=
 IsZip h z TI TO .none/\F1 h TI (subs.map fun u=>Value.ref u.i).toArray/\(∃ arr,F1 h TO arr/\arr.size=subs.length)/\∀ u∈subs,u.At h i
def P1 {α β γ:Type} {F:α->γ->Prop} {f:β->α} {g:β->γ}:∀ {l:List β},(∀ b∈l,F (f b) (g b))->Paired F (l.map f) (l.map g)
 | [],_=>.nil
 | _::_,h=>.cons (h _ qB6) (P1 fun b hb=>h b (qA8 _ hb))
def sk {P:Program} {w:World} {K:Frag} {elts:List Expr} {k:Nat} {tp:Pos} {z TI TO:Addr} {subs:List Sub} (D:ZSt z TI TO subs) (Gr:subs ≠ []) (IE:subs.length<=sizeLine) :
  Turn P w K (.Tuple elts k tp) (ItZ K (subs.map fun u=>(u.t,u.l))) (z::TI::TO::subs.map (·.i)) z (zTn z TI TO subs) where
 mem:=by simp
 obj:=fun i h st b hb=>by
  obtain ⟨hz,Hr,⟨arr,Hy,_⟩,hs⟩:=st
  simp only [qB3,qB4] at hb
  rcases hb with rfl | rfl | rfl | ⟨u,hu,rfl⟩
  ·exact ⟨_,hz,fun v q=>by cases q⟩
  ·exact ⟨_,Hr,fun v q=>by cases q⟩
  ·exact ⟨_,Hy,fun v q=>by cases q⟩
  ·obtain ⟨o,e,d⟩:=(hs u hu).obj
   exact ⟨o,e,fun v q=>by rw [d] at q; cases q⟩
 keep:=fun i h h' st kp=>by
  obtain ⟨hz,Hr,⟨arr,Hy,ha⟩,hs⟩:=st
  exact ⟨kp z (by simp) _ hz,kp TI (by simp) _ Hr,⟨arr,kp TO (by simp) _ Hy,ha⟩,fun u hu=>(hs u hu).keep fun o e=>kp u.i (by simp only [qB3,qB4]; exact .inr (.inr (.inr ⟨u,hu,rfl⟩))) o e⟩
 item:=by
  intro X hP hw hK hc i pins s σ H E I hf st hg
  subst hP hw hK
  obtain ⟨hz,Hr,⟨arr,Hy,ha⟩,hs⟩:=st
  have fz:=hf z (by simp)
  have fT:=hf TO (by simp)
  have fi:∀ u∈subs,J7 X pins H u.i:=fun u hu=>hf u.i (by simp only [qB3,qB4]; exact .inr (.inr (.inr ⟨u,hu,rfl⟩)))
  obtain ⟨ss,HG,GJ⟩:=au (R:=fun (u:Sub) (q:List Value×List V×V)=>Sq X.K H u.t u.l q.2.1/\Vals q.2.1 q.1/\u.Src s.heap q.1.toArray/\q.2.1[i]?=some q.2.2) (l:=subs) (fun u hu=>by
   obtain ⟨xs,x,h1,h2⟩:=hg (u.t,u.l) (qB4.mpr ⟨u,hu,rfl⟩)
   obtain ⟨its,r,Gv⟩:=Sq.src I h1
   exact ⟨(its,xs,x),h1,r,Gv,h2⟩)
  have HJ:∀ v∈ss,v.1∈subs:=fun v hv=>by rw [<- HG]; exact qB4.mpr ⟨v,hv,rfl⟩
  have KY:ss.Pairwise fun u v=>u.1.i≠v.1.i:=by
   have:=D.nd
   rw [<- HG,qH2] at this
   exact this
  have DA:Apart z TO (ss.map fun v=>(v.1,v.2.1.toArray)):=by
   refine ⟨D.zTO,?_,?_,?_,?_,?_,?_⟩
   ·rintro _ hu; obtain ⟨v,hv,rfl⟩:=qB4.mp hu; exact D.zi _ (HJ v hv)
   ·rintro _ hu; obtain ⟨v,hv,rfl⟩:=qB4.mp hu; exact D.ti _ (HJ v hv)
   ·rw [qH2]; exact KY
   ·rintro _ hu; obtain ⟨v,hv,rfl⟩:=qB4.mp hu; exact Sq.ne I (GJ v hv).1 fz
   ·rintro _ hu; obtain ⟨v,hv,rfl⟩:=qB4.mp hu; exact Sq.ne I (GJ v hv).1 fT
   ·rintro _ hu _ Le; obtain ⟨v,hv,rfl⟩:=qB4.mp hu; obtain ⟨v2,Kt,rfl⟩:=qB4.mp Le; exact Sq.ne I (GJ v hv).1 (fi _ (HJ v2 Kt))
  have el:(ss.map fun v=>(v.1,v.2.1.toArray)).length=subs.length:=by rw [qA5,<- HG,qA5]
  have eI:((ss.map fun v=>(v.1,v.2.1.toArray)).map fun u=>Value.ref u.1.i)=subs.map fun u=>Value.ref u.i:=by rw [<- HG,qD0,qD0]; rfl
  have ys:∀ v∈ss,∃ u,v.2.1.toArray[i]?=some u/\RelV v.2.2.2 u:=fun v hv=>by
   obtain ⟨u,e,r⟩:=(GJ v hv).2.1.get (GJ v hv).2.2.2
   exact ⟨u,by simpa using e,r⟩
  refine rY (n:=i) DA (by intro q; apply Gr; have:=congrArg List.length q; rw [el] at this; exact List.length_eq_zero_iff.mp this) (by rw [ha,el]) (by rw [el]; exact IE) hz (by rw [eI]; exact Hr) Hy (fun u hu=>?_) fun h1 z1 T1 a1 p1 k1=>?_
  ·obtain ⟨v,hv,rfl⟩:=qB4.mp hu
   obtain ⟨u,e,_⟩:=ys v hv
   exact ⟨hs _ (HJ v hv),(GJ v hv).2.2.1,u,e⟩
  refine ⟨_,rfl,wpAny_letOwnedTupleGo_zip z1 fun h2 z2 sb2=>?_⟩
  have IS:z<s.heap.objs.size:=qB7 hz
  have kp:∀ b o,b≠z->b≠TO->(∀ u∈subs,b≠u.i)->s.heap.get? b=some o->h2.get? b=some o:=fun b o b1 b2 b3 e=>sb2.extBut _ _ b1 (k1 b o b1 b2 (fun u hu=>by obtain ⟨v,hv,rfl⟩:=qB4.mp hu; exact b3 _ (HJ v hv)) e)
  have HE:H s.heap.objs.size=none:=I.hok.fresh (qB1 _)
  have trk:∀ b u,H b=some u->b≠z/\b≠TO/\∀ v∈subs,b≠v.i:=fun b u e=>⟨fun q=>(by subst q; rw [fz.1] at e; cases e),fun q=>(by subst q; rw [fT.1] at e; cases e),fun v hv q=>(by subst q; rw [(fi v hv).1] at e; cases e)⟩
  have Ly:F1 h2 s.heap.objs.size (ss.map fun v=>v.2.1.toArray.getD i .none).toArray:=by
   have:=sb2.extBut _ _ (qJ9 IS) p1
   rw [qD0] at this
   exact this
  have rel:Vals (ss.map fun v=>v.2.2.2) (ss.map fun v=>v.2.1.toArray.getD i .none):=P1 fun v hv=>by
   obtain ⟨u,e,r⟩:=ys v hv
   rw [show v.2.1.toArray.getD i Value.none=u by simp only [qE3,e,Option.getD_some]]
   exact r
  have len:(ss.map fun v=>v.2.2.2).length<=sizeLine:=by rw [qA5,show ss.length=subs.length by rw [<- HG,qA5]]; exact IE
  refine ⟨.ref s.heap.objs.size,upd H s.heap.objs.size (.tup (ss.map fun v=>v.2.2.2)),?_,rfl,⟨_,_,rfl,HE,rfl,?_⟩,⟨z2,?_,?_,fun u hu=>?_⟩,fun b hb=>?_⟩
  ·show Inv X pins σ _ { s with heap:=h2 }
   refine I.step (g':=s.gens) (t':=s.toks) (d':=s.drawn) (ch:=z::TO::subs.map (·.i)) (fun b hb=>?_) (fun b o _ _ hc e _=>kp b o ?_ ?_ ?_ e) (fun b o _ _ hc e _=>⟨o.slots,kp b o ?_ ?_ ?_ e⟩) (fun b o hc e n=>?_) (fun b o hc e=>⟨o,kp b o ?_ ?_ ?_ e⟩) (fun b xs e=>?_) (fun b o u e=>?_) (fun b ps e=>?_) (fun m hm=>?_) ?_ I.bare
   ·simp only [qB3,qB4] at hb
    rcases hb with rfl | rfl | ⟨u,hu,rfl⟩
    ·exact ⟨fz.2.2.2.1,fz.2.1,fz.2.2.2.2.1,fz.2.2.2.2.2⟩
    ·exact ⟨fT.2.2.2.1,fT.2.1,fT.2.2.2.2.1,fT.2.2.2.2.2⟩
    ·have f:=fi u hu; exact ⟨f.2.2.2.1,f.2.1,f.2.2.2.2.1,f.2.2.2.2.2⟩
   all_goals first
    | (intro q; exact hc (by simp [q]; done))
    | (intro u hu q; exact hc (by rw [q]; exact qA8 _ (qA8 _ (qB4.mpr ⟨u,hu,rfl⟩))))
    | skip
   ·rw [c9 (qC7 (qB7 e))]; exact n
   ·rw [c9 (d8 e HE)]; exact e
   ·rw [c9 (d8 e HE)]; exact e
   ·exact ⟨#[],by rw [c9 (d8 e HE),e]; simp⟩
   ·obtain ⟨o,es,ep,ho,r⟩:=hm
    exact ⟨o,es,ep,kp _ o (Ne.symm fz.2.1) (Ne.symm fT.2.1) (fun u hu=>Ne.symm (fi u hu).2.1) ho,r⟩
   ·intro b u e
    by_cases hb:b=s.heap.objs.size
    ·subst hb
     rw [l4] at e; cases e
     exact ⟨len,_,rel,⟨_,Ly,rfl,_,rfl⟩⟩
    ·rw [c9 hb] at e
     refine (I.hok b u e).stay (fun c v GP q=>?_) (fun c q=>by rw [c9 (d8 q HE)]; exact q) fun c xs q=>by rw [c9 (d8 q HE)]; exact q
     rcases GP with rfl | GP
     ·exact kp _ v (trk _ _ e).1 (trk _ _ e).2.1 (trk _ _ e).2.2 q
     ·exact kp _ v (trk _ _ GP).1 (trk _ _ GP).2.1 (trk _ _ GP).2.2 q
  ·rw [<- HG,qD0]
   exact P1 fun v hv xs hx=>by rw [Sq.inj I hx (GJ v hv).1]; exact (GJ v hv).2.2.2
  ·exact kp TI _ D.TIz D.TITO (fun u hu=>Ne.symm (D.Ii u hu)) Hr
  ·obtain ⟨Gq,hT',ha'⟩:=T1
   exact ⟨Gq,sb2.extBut _ _ D.zTO.symm hT',by rw [ha',el]⟩
  ·have hv:∃ v∈ss,v.1=u:=by rw [<- HG] at hu; exact qB4.mp hu
   obtain ⟨v,hv,rfl⟩:=hv
   exact (a1 (v.1,v.2.1.toArray) (qB4.mpr ⟨v,hv,rfl⟩)).keep fun o e=>sb2.extBut _ _ (D.zi _ (HJ v hv)) e
  ·have:b≠s.heap.objs.size:=by
    simp only [qB3,qB4] at hb
    rcases hb with rfl | rfl | rfl | ⟨u,hu,rfl⟩
    ·exact qC7 IS
    ·exact qC7 (qB7 Hr)
    ·exact qC7 (qB7 Hy)
    ·obtain ⟨o,e,_⟩:=(hs u hu).obj; exact qC7 (qB7 e)
   rw [c9 this]
   exact (hf b hb).1
 done:=by
  intro X hP hw hK hc i pins s σ H E I hf st hg
  subst hP hw hK
  obtain ⟨hz,Hr,⟨arr,Hy,ha⟩,hs⟩:=st
  obtain ⟨Gh,u0,IT,xs0,KA,HY⟩:=hg
  have fz:=hf z (by simp)
  have fT:=hf TO (by simp)
  have fi:∀ u∈subs,J7 X pins H u.i:=fun u hu=>hf u.i (by simp only [qB3,qB4]; exact .inr (.inr (.inr ⟨u,hu,rfl⟩)))
  obtain ⟨ss,HG,GJ⟩:=au (R:=fun (u:Sub) (q:List Value×List V)=>Sq X.K H u.t u.l q.2/\Vals q.2 q.1/\u.Src s.heap q.1.toArray) (l:=subs) (fun u hu=>by
   obtain ⟨xs,h1⟩:=Gh (u.t,u.l) (qB4.mpr ⟨u,hu,rfl⟩)
   obtain ⟨its,r,Gv⟩:=Sq.src I h1
   exact ⟨(its,xs),h1,r,Gv⟩)
  have HJ:∀ v∈ss,v.1∈subs:=fun v hv=>by rw [<- HG]; exact qB4.mpr ⟨v,hv,rfl⟩
  have KY:ss.Pairwise fun u v=>u.1.i≠v.1.i:=by
   have:=D.nd
   rw [<- HG,qH2] at this
   exact this
  have DA:Apart z TO (ss.map fun v=>(v.1,v.2.1.toArray)):=by
   refine ⟨D.zTO,?_,?_,?_,?_,?_,?_⟩
   ·rintro _ hu; obtain ⟨v,hv,rfl⟩:=qB4.mp hu; exact D.zi _ (HJ v hv)
   ·rintro _ hu; obtain ⟨v,hv,rfl⟩:=qB4.mp hu; exact D.ti _ (HJ v hv)
   ·rw [qH2]; exact KY
   ·rintro _ hu; obtain ⟨v,hv,rfl⟩:=qB4.mp hu; exact Sq.ne I (GJ v hv).1 fz
   ·rintro _ hu; obtain ⟨v,hv,rfl⟩:=qB4.mp hu; exact Sq.ne I (GJ v hv).1 fT
   ·rintro _ hu _ Le; obtain ⟨v,hv,rfl⟩:=qB4.mp hu; obtain ⟨v2,Kt,rfl⟩:=qB4.mp Le; exact Sq.ne I (GJ v hv).1 (fi _ (HJ v2 Kt))
  have el:(ss.map fun v=>(v.1,v.2.1.toArray)).length=subs.length:=by rw [qA5,<- HG,qA5]
  have eI:((ss.map fun v=>(v.1,v.2.1.toArray)).map fun u=>Value.ref u.1.i)=subs.map fun u=>Value.ref u.i:=by rw [<- HG,qD0,qD0]; rfl
  refine rX (n:=i) (I.ok.hd hc) DA (by rw [ha,el]) (by rw [el]; exact IE) hz (by rw [eI]; exact Hr) Hy (fun u hu=>?_) ?_ fun h1 k1=>⟨rfl,?_⟩
  ·obtain ⟨v,hv,rfl⟩:=qB4.mp hu
   exact ⟨hs _ (HJ v hv),(GJ v hv).2.2⟩
  ·obtain ⟨u,hu,e0⟩:=qB4.mp IT
   have hv:∃ v∈ss,v.1=u:=by rw [<- HG] at hu; exact qB4.mp hu
   obtain ⟨v,hv,rfl⟩:=hv
   subst e0
   refine ⟨(v.1,v.2.1.toArray),qB4.mpr ⟨v,hv,rfl⟩,?_⟩
   have e1:=Sq.inj I (GJ v hv).1 KA
   have e2:=(GJ v hv).2.1.length
   rw [e1] at e2
   simp only [List.getElem?_toArray]
   exact List.getElem?_eq_none (by omega)
  ·have kp:∀ b o,b≠z->b≠TO->(∀ u∈subs,b≠u.i)->s.heap.get? b=some o->h1.get? b=some o:=fun b o b1 b2 b3 e=>k1 b o b1 b2 (fun u hu=>by obtain ⟨v,hv,rfl⟩:=qB4.mp hu; exact b3 _ (HJ v hv)) e
   have trk:∀ b u,H b=some u->b≠z/\b≠TO/\∀ v∈subs,b≠v.i:=fun b u e=>⟨fun q=>(by subst q; rw [fz.1] at e; cases e),fun q=>(by subst q; rw [fT.1] at e; cases e),fun v hv q=>(by subst q; rw [(fi v hv).1] at e; cases e)⟩
   refine I.step (g':=s.gens) (t':=s.toks) (d':=s.drawn) (ch:=z::TO::subs.map (·.i)) (fun b hb=>?_) (fun b o _ _ hc e _=>kp b o ?_ ?_ ?_ e) (fun b o _ _ hc e _=>⟨o.slots,kp b o ?_ ?_ ?_ e⟩) (fun b o hc e n=>n) (fun b o hc e=>⟨o,kp b o ?_ ?_ ?_ e⟩) (fun b xs e=>e) (fun b o u e=>e) (fun b ps e=>⟨#[],by rw [e]; simp⟩) (fun m hm=>?_) (fun b u e=>?_) I.bare
   ·simp only [qB3,qB4] at hb
    rcases hb with rfl | rfl | ⟨u,hu,rfl⟩
    ·exact ⟨fz.2.2.2.1,fz.2.1,fz.2.2.2.2.1,fz.2.2.2.2.2⟩
    ·exact ⟨fT.2.2.2.1,fT.2.1,fT.2.2.2.2.1,fT.2.2.2.2.2⟩
    ·have f:=fi u hu; exact ⟨f.2.2.2.1,f.2.1,f.2.2.2.2.1,f.2.2.2.2.2⟩
   all_goals first
    | (intro q; exact hc (by simp [q]; done))
    | (intro u hu q; exact hc (by rw [q]; exact qA8 _ (qA8 _ (qB4.mpr ⟨u,hu,rfl⟩))))
    | skip
   ·obtain ⟨o,es,ep,ho,r⟩:=hm
    exact ⟨o,es,ep,kp _ o (Ne.symm fz.2.1) (Ne.symm fT.2.1) (fun u hu=>Ne.symm (fi u hu).2.1) ho,r⟩
   ·refine (I.hok b u e).stay (fun c v GP q=>?_) (fun c q=>q) fun c xs q=>q
    rcases GP with rfl | GP
    ·exact kp _ v (trk _ _ e).1 (trk _ _ e).2.1 (trk _ _ e).2.2 q
    ·exact kp _ v (trk _ _ GP).1 (trk _ _ GP).2.1 (trk _ _ GP).2.2 q
 self:=fun _ _ _ _ _ st h=>wpAny_pyIter_zip st.1 h
def Cf (K:Frag) (ta:TA):TI:=fun σ H R=>ta σ H fun vs H1=>∃ us:List (Bool×Addr),vs=us.map (fun u=>V.ref u.2)/\(us.length=2\/us.length=3)/\(∀ u∈us,∃ xs,Sq K H1 u.1 u.2 xs)/\R (ItZ K us) H1
def neN {a b:Nat} (h:a≠b):(a:Addr)≠b:=h
def oY:∀ {us:List (Bool×Addr)} {vs:List Value},Vals (us.map fun u=>V.ref u.2) vs->vs=us.map fun u=>Value.ref u.2:=by
 intro us
 induction us with
 | nil=>intro vs h; cases h; rfl
 | cons u us ih=>
  intro vs h
  cases h with
  | cons r t=>
   have r':_=Value.ref _:=r
   rw [r',ih t]; rfl
def bK:∀ (us:List (Bool×Addr×Array Value)) (n:Nat),∀ v∈g9 n us,n<=v.1.i/\n+us.length>v.1.i:=by
 intro us
 induction us with
 | nil=>exact fun _ _ h=>absurd h qD6
 | cons u r ih=>
  intro n v h
  rcases qB3.mp h with rfl | h
  ·exact ⟨qB1 _,by show n+(r.length+1)>n; omega⟩
  ·have:=ih (n+1) v h
   rw [qC2]; omega
def lX:∀ (us:List (Bool×Addr×Array Value)) (n:Nat),(g9 n us).Pairwise fun u v=>u.1.i≠v.1.i
 | [],_=>.nil
 | u::r,n=>by
  refine List.pairwise_cons.mpr ⟨fun v hv=>?_,lX r (n+1)⟩
  have:=bK r (n+1) v hv
  show (n:Nat)≠v.1.i
  omega
def jc:∀ (us:List (Bool×Addr×Array Value)) (n:Nat),(g9 n us).map (fun u=>(u.1.t,u.1.l))=us.map fun u=>(u.1,u.2.1)
 | [],_=>rfl
 | u::r,n=>by unfold g9; rw [qC0,jc r,qC0]
section
variable {X:Cx}
def AQ {a:Expr} {es elts:List Expr} {ta:TA} {p pos tp:Pos} {k:Nat} (hg:Gl X "zip") (hm:X.mg "zip" = none) (ha:PA X (a::es) ta) (hs:starEach (a::es) X.env=(false,eval a X.env)::starEach es X.env:=by rfl)
  (GH:(backTo pos (starEach es X.env)).any (·.1)=false:=by rfl):PI X (.Tuple elts k tp) (.Call (.Name "zip" p) (a::es) [] pos) (Cf X.K ta):=by
 intro pins s σ H R I h
 refine Call_ (X7 I hg hm boot_zip (qH7 (thn (ha pos pins s σ H _ I h) fun vs s1 zz51=>?_) hs GH))
 obtain ⟨xs,H1,I1,r1,us,e1,hl,hsq,q⟩:=zz51
 subst e1
 have e2:=oY r1
 subst e2
 obtain ⟨ws,ew,hws⟩:=au (R:=fun (u:Bool×Addr) (its:Array Value)=>SrcAt s1.heap (u.1,u.2,its)) (l:=us) (fun u hu=>by
  obtain ⟨ys,hy⟩:=hsq u hu
  obtain ⟨its,_,Gv⟩:=Sq.src I1 hy
  exact ⟨its.toArray,by unfold SrcAt; unfold Sub.Src at Gv; exact Gv⟩)
 have ev:us.map (fun u=>Value.ref u.2)=(ws.map fun w=>(w.1.1,w.1.2,w.2)).map fun u=>Value.ref u.2.1:=by rw [<- ew,qD0,qD0]; rfl
 have el:(ws.map fun w=>(w.1.1,w.1.2,w.2)).length=us.length:=by rw [<- ew,qA5,qA5]
 rw [ev]
 generalize hW:(ws.map fun w=>(w.1.1,w.1.2,w.2))=W at el ev
 have Hl:∀ u∈W,SrcAt s1.heap u:=fun u hu=>by
  rw [<- hW] at hu
  obtain ⟨w,hw,rfl⟩:=qB4.mp hu
  exact hws w hw
 refine ve W (by rw [el]; exact hl) Hl fun h' hA Hr Hy hz hk=>wpAny_pyIter_zip hz ?_
 have I2:Inv X pins σ H1 { s1 with heap:=h' }:=I1.kept (t':=s1.toks) hk
 have eS:((g9 s1.heap.objs.size W).map (·.1)).map (fun u=>(u.t,u.l))=us:=by
  rw [qD0]
  show (g9 s1.heap.objs.size W).map (fun u=>(u.1.t,u.1.l))=us
  rw [jc,<- hW,qD0,<- ew]
  rfl
 have D:ZSt (s1.heap.objs.size+W.length+2) (s1.heap.objs.size+W.length) (s1.heap.objs.size+W.length+1) ((g9 s1.heap.objs.size W).map (·.1)):=by
  refine ⟨neN (by omega),neN (by omega),neN (by omega),?_,?_,?_,?_⟩
  ·rintro _ hu; obtain ⟨v,hv,rfl⟩:=qB4.mp hu; have:=bK W _ v hv; exact neN (by omega)
  ·rintro _ hu; obtain ⟨v,hv,rfl⟩:=qB4.mp hu; have:=bK W _ v hv; exact neN (by omega)
  ·rintro _ hu; obtain ⟨v,hv,rfl⟩:=qB4.mp hu; have:=bK W _ v hv; exact neN (by omega)
  ·rw [qH2]; exact lX W _
 have ls:((g9 s1.heap.objs.size W).map (·.1)).length=W.length:=by rw [qA5,R7]
 have TZ:=sk (P:=X.prog) (w:=X.w) (K:=X.K) (elts:=elts) (k:=k) (tp:=tp) D (by intro q; have:=congrArg List.length q; rw [ls,el] at this; have h0:us.length=0:=this; omega) (by rw [ls,el]; exact qA9 (show us.length<=3 by omega) (by decide))
 rw [eS] at TZ
 refine ⟨_,_,_,_,H1,rfl,I2,TZ,⟨hz,?_,?_,fun u hu=>?_⟩,fun b hb=>?_,q⟩
 ·rw [qD0]; exact Hr
 ·obtain ⟨arr,h1,h2⟩:=Hy
  exact ⟨arr,h1,by rw [ls]; exact h2⟩
 ·obtain ⟨v,hv,rfl⟩:=qB4.mp hu
  exact hA v hv
 ·have Hw:s1.heap.objs.size<=b:=by
   simp only [qB3,qB4] at hb
   rcases hb with rfl | rfl | rfl | ⟨_,⟨v,hv,rfl⟩,rfl⟩
   ·omega
   ·omega
   ·omega
   ·exact (bK W _ v hv).1
  have f:=I1.fpOk (H':=H1) Hw (I1.hok.fresh Hw)
  exact f
end
end L2
namespace L2
open PySem PySem.Spec PyProof.Rows
def L0 (cs:Scope) (env:Env) (x:Str):(relabel cs env).names.lookup x=(cs.names.lookup x).map fun k=>if (k == .free&&env.scope.kind == .function&&env.kindOf x == some .cell)=true then .cell else k:=by
 unfold relabel
 show List.lookup x (cs.names.map _)=_
 induction cs.names with
 | nil=>rfl
 | cons p r ih=>
  obtain ⟨n,k⟩:=p
  by_cases hx:x=n
  ·subst hx
   rw [qC0]
   simp only [qK9]
   split <;> simp_all
  ·have hb:(x == n)=false:=by simpa using hx
   have er:List.lookup x ((n,k)::r)=List.lookup x r:=by rw [qK9,hb]
   rw [qC0,er]
   refine Eq.trans ?_ ih
   dsimp only
   by_cases hc:(k == NameKind.free&&env.scope.kind == ScopeKind.function&&env.kindOf n == some NameKind.cell)=true
   ·rw [qA1 hc,qK9,hb]
   ·rw [qA3 hc,qK9,hb]
def fM {env : Env} : ∀ (names : List (Str × NameKind)) (IM : List (Str × Addr)), (∀ x ∈ names, x.2 = .free -> ∃ c, env.cells.lookup x.1 = some c) -> (∀ x c, IM.lookup x = some c -> env.cells.lookup x = some c) ->
    ∃ cl, (forIn (m := Sem) names IM fun x __s => if (x.snd == NameKind.free) = true then do
              let __do_lift <- cellOf env x.fst
              pure (ForInStep.yield ((x.fst, __do_lift) :: __s))
            else pure (ForInStep.yield __s)) = pure cl /\ (∀ x c, cl.lookup x = some c -> env.cells.lookup x = some c) /\ (∀ x, (x, NameKind.free) ∈ names -> ∃ c, cl.lookup x = some c) /\ ∀ x c, IM.lookup x = some c -> ∃ c', cl.lookup x = some c' := by
  intro names
  induction names with
  | nil =>
    intro IM _ h0
    exact ⟨IM, by simp only [List.forIn_nil], h0, fun _ h => absurd h qD6, fun _ c h => ⟨c, h⟩⟩
  | cons p r ih =>
    intro IM hf h0
    obtain ⟨n, k⟩ := p
    by_cases hk : k = .free
    · subst hk
      obtain ⟨c, hc⟩ := hf (n, .free) qB6 rfl
      obtain ⟨cl, e, h1, h2, h3⟩ := ih ((n, c) :: IM) (fun x hx => hf x (qA8 _ hx)) (fun x c' hx => by
        rw [qK9] at hx
        split at hx
        · rename_i hb
          have Ks : x = n := by simpa using hb
          cases hx; rw [Ks]; exact hc
        · exact h0 x c' hx)
      have hn : ∃ c', cl.lookup n = some c' := h3 n c (by simp)
      refine ⟨cl, ?_, h1, fun x hx => ?_, fun x c' hx => ?_⟩
      · rw [qL5]
        simp only [beq_self_eq_true, if_true, cellOf, hc]
        exact e
      · rcases qB3.mp hx with q | hx
        · cases q; exact hn
        · exact h2 x hx
      · by_cases Ks : x = n
        · subst Ks; exact hn
        · exact h3 x c' (by
            have hb : (x == n) = false := by simpa using Ks
            rw [qK9, hb]; exact hx)
    · have hb : (k == NameKind.free) = false := by simpa using hk
      obtain ⟨cl, e, h1, h2, h3⟩ := ih IM (fun x hx => hf x (qA8 _ hx)) h0
      refine ⟨cl, ?_, h1, fun x hx => ?_, h3⟩
      · rw [qL5]
        simp only [hb, qD5, if_false]
        exact e
      · rcases qB3.mp hx with q | hx
        · cases q; exact absurd rfl hk
        · exact h2 x hx
structure g6 (sc cs:Scope) (N N':List Str):Prop where
 kind:cs.kind=.function
 ncell:∀ x∈cs.names,x.2≠.cell
 loc:∀ x∈cs.names,x.2=.local->cs.names.lookup x.1=some .local
 free:∀ x∈cs.names,x.2=.free->sc.names.lookup x.1=some .cell\/sc.names.lookup x.1=some .free
 nd:N'.Nodup
 len:N.length<=N'.length
 same:∀ i∈List.range N.length,N'[i]?=N[i]?\/∀ x∈N'[i]?,cs.names.lookup x=none
 out:∀ x∈N'.take N.length,cs.names.lookup x≠some .local
abbrev k7 (X:Cx) (cs:Scope) (cl:List (Str×Addr)) (N':List Str) (ex:List Addr) (s:Shared) (H:Hp):Cx:=
 { X with N:=N',s₀:=s,H₀:=H,env:=compEnvC cs cl s.heap.objs.size X.env,outer:=X.stack,stack:=X.stack,ex:=ex,fn:=fun _=>false,pn:=[],xe:=fun _ _=>False }
def inner (N':List Str) (σ:St):St:=σ++List.replicate (N'.length-σ.length) none
def iw {N':List Str} {σ:St} {i:Nat} {v:V} (h:(inner N' σ)[i]?=some (some v)):σ[i]?=some (some v):=by
 unfold inner at h
 by_cases hi:i<σ.length
 ·rwa [qE2 hi] at h
 ·rw [qH0 (by omega),qG0] at h
  split at h <;> cases h
def vc {X:Cx} {pins:List (Addr×Obj)} {σ:St} {H:Hp} {s3 s4:Shared} {cs:Scope} {cl:List (Str×Addr)} {N':List Str} {fp:List Addr} {m:Str->Option Value} (S:g6 X.env.scope cs X.N N') (I:Inv X pins σ H s3)
  (GF:∀ x c,cl.lookup x=some c->X.env.cells.lookup x=some c) (Ir:∀ x,(x,NameKind.free)∈cs.names->∃ c,cl.lookup x=some c) (hf:∀ b∈fp,J7 X pins H b) (GA:∀ b∈fp,b<s3.heap.objs.size)
  (kp:∀ b o,s3.heap.get? b=some o->s4.heap.get? b=some o) (hn:s4.heap.Ns s3.heap.objs.size m) (hos:s4.os=s3.os) (hg:s4.gens=s3.gens):Inv (k7 X cs cl N' fp s3 H) [] (inner N' σ) H s4:=by
 have Iz:∀ {c:Addr} {v:Option Value},s3.heap.IsCell c v->s4.heap.IsCell c v:=fun {c v} z=>by obtain ⟨o,e,d⟩:=z; exact ⟨o,kp c o e,d⟩
 refine ⟨⟨I.ok.mod,S.kind,I.ok.glob,I.ok.blt,qB1 _,fun x y c h1 h2=>I.ok.inj x y c (GF x c h1) (GF y c h2),fun x hx=>?_,fun x c h _=>absurd (show false=true from h) (by decide),I.ok.hd,I.ok.frames,.inl rfl,fun b hb=>⟨?_,fun x c e=>(hf b hb).2.2.2.2.1 x c (GF x c e)⟩,I.bs,qA9 I.ok.bsz I.sz,fun b o e hb=>?_,fun b hb Lp=>?_,I.stack,I.stkFree⟩,
  hos,by rw [hg]; exact I.bare,Un.kept kp,⟨m,hn,fun i x v e1 e2 e3=>?_⟩,fun x c e=>?_,I.hok.fresh (qB1 _),fun x c e=>I.freeC x c (GF x c e),fun p hp=>absurd (show p∈([]:List (Addr×Obj)) from hp) (by simp),I.hok.kept kp,?_⟩
 ·have Jl:(relabel cs X.env).names.lookup x=some .cell\/(relabel cs X.env).names.lookup x=some .free:=hx
  rw [L0] at Jl
  cases hl:cs.names.lookup x with
  | none=>rw [hl] at Jl; rcases Jl with h | h <;> cases h
  | some k=>
   have hm:=qH9 hl
   by_cases hk:k=.free
   ·subst hk; exact Ir x hm
   ·exfalso
    have hb:(k == NameKind.free)=false:=by simpa using hk
    rw [hl] at Jl
    simp only [Option.map_some,hb,Bool.false_and,qD5,if_false] at Jl
    rcases Jl with h | h
    ·cases h; exact S.ncell _ hm rfl
    ·cases h; exact hk rfl
 ·intro q
  have Hw:b=s3.heap.objs.size:=q
  exact absurd (GA b hb) (by rw [Hw]; exact qG9 _)
 ·obtain ⟨f0,f1,f2,f3,f4,f5⟩:=hf b hb
  rcases f3 with z | z
  ·exact I.ok.noex b o e z
  ·exact absurd (qB0 (qB7 (I.ok.bs b o e).1) z) (qG9 _)
 ·have Jc:b∈frs X.stack:=Lp
  rcases qB3.mp (I.stkSub b Jc) with z | z
  ·exact (hf b hb).2.1 z
  ·exact (hf b hb).2.2.1 z
 ·have JA:=iw e2
  have hi:i<X.N.length:=by rw [<- I.len]; exact (qA7.mp JA).1
  have LH:N'[i]?=some x:=e1
  have IK:Vis (relabel cs X.env) x:=e3
  have hv:∃ k,cs.names.lookup x=some k:=by
   unfold Vis at IK
   rw [L0] at IK
   cases hl:cs.names.lookup x with
   | none=>rw [hl] at IK; rcases IK with h | h | h <;> cases h
   | some k=>exact ⟨k,rfl⟩
  obtain ⟨k,hk⟩:=hv
  have hN:X.N[i]?=some x:=by
   rcases S.same i (qF2.mpr hi) with q | q
   ·rw [<- q]; exact LH
   ·have:=q x (by rw [LH]; rfl)
    rw [hk] at this; cases this
  have Jt:k≠.local:=fun q=>by
   subst q
   exact S.out x (qG2 (i:=i) (by rw [qH5 hi]; exact LH)) hk
  have hm:=qH9 hk
  have Hv:k=.free:=by
   unfold Vis at IK
   rw [L0,hk] at IK
   by_cases hkf:k=.free
   ·exact hkf
   ·exfalso
    have hb:(k == NameKind.free)=false:=by simpa using hkf
    simp only [Option.map_some,hb,Bool.false_and,qD5,if_false] at IK
    rcases IK with h | h | h
    ·exact Jt (Option.some.inj h)
    ·exact S.ncell _ hm (Option.some.inj h)
    ·exact hkf (Option.some.inj h)
  subst Hv
  obtain ⟨m0,hn0,HY⟩:=I.loc
  have hvis:Vis X.env.scope x:=by
   rcases S.free _ hm rfl with h | h
   ·exact .inr (.inl h)
   ·exact .inr (.inr h)
  obtain ⟨u,r,l⟩:=HY i x v hN JA hvis
  refine ⟨u,r,.inr ⟨?_,?_⟩⟩
  ·show (relabel cs X.env).names.lookup x=some .cell\/(relabel cs X.env).names.lookup x=some .free
   rw [L0,hk]
   show some (if _ then _ else _)=_\/some (if _ then _ else _)=_
   split
   ·exact .inl rfl
   ·exact .inr rfl
  ·obtain ⟨c,hc⟩:=Ir x hm
   have IJ:=GF x c hc
   rcases l with ⟨q,_⟩ | ⟨_,c',e,z⟩
   ·exfalso
    have q':X.env.scope.names.lookup x=some .local:=q
    rcases S.free _ hm rfl with h | h <;> (rw [q'] at h; cases h)
   ·rw [IJ] at e; cases e
    exact ⟨c,hc,Iz z⟩
 ·obtain ⟨v,z⟩:=I.cell x c (GF x c e)
  exact ⟨v,Iz z⟩
 ·unfold inner
  rw [qC5,List.length_replicate,I.len]
  have:=S.len
  show _=N'.length
  omega
def ak (n:Nat) (g:TG):Prop:=∀ (v:V) (σ:St) (H:Hp) (Q:St->Hp->Prop),g v σ H Q->g v σ H fun σ2 H2=>Q σ2 H2/\σ2.length=σ.length/\∀ j,j<n->σ2[j]?=σ[j]?
def fS (n:Nat) (g:TGs):Prop:=∀ (vs:List V) (σ:St) (H:Hp) (Q:St->Hp->Prop),g vs σ H Q->g vs σ H fun σ2 H2=>Q σ2 H2/\σ2.length=σ.length/\∀ j,j<n->σ2[j]?=σ[j]?
def v5 {n i:Nat} (h:n<=i):ak n (P4 i):=fun v σ H Q q=>⟨q,by simp,fun j hj=>qB9 (by omega)⟩
def aG {n:Nat}:fS n gNil:=fun vs σ H Q zz52=>by obtain ⟨e,q⟩:=zz52; exact ⟨e,q,rfl,fun _ _=>rfl⟩
def B8 {n i:Nat} {u:TGs} (h:n<=i) (hu:fS n u):fS n (ov (P4 i) u):=fun vs σ H Q zz53=>by
 obtain ⟨v,r,e,q⟩:=zz53
 refine ⟨v,r,e,?_⟩
 have q':=hu r (σ.set i (some v)) H Q q
 show u r (σ.set i (some v)) H _
 have e1:∀ σ2:St,(σ2.length=(σ.set i (some v)).length/\∀ j,j<n->σ2[j]?=(σ.set i (some v))[j]?)=(σ2.length=σ.length/\∀ j,j<n->σ2[j]?=σ[j]?):=fun σ2=>by
  have:∀ j,j<n->(σ.set i (some v))[j]?=σ[j]?:=fun j hj=>qB9 (by omega)
  rw [qF5]
  exact propext ⟨fun zz54=>by obtain ⟨a,b⟩:=zz54; exact ⟨a,fun j hj=>(b j hj).trans (this j hj)⟩,fun zz55=>by obtain ⟨a,b⟩:=zz55; exact ⟨a,fun j hj=>(b j hj).trans (this j hj).symm⟩⟩
 have e2:(fun (σ2:St) (H2:Hp)=>Q σ2 H2/\σ2.length=σ.length/\∀ j,j<n->σ2[j]?=σ[j]?)=fun σ2 H2=>Q σ2 H2/\σ2.length=(σ.set i (some v)).length/\∀ j,j<n->σ2[j]?=(σ.set i (some v))[j]?:=by
  funext σ2 H2; rw [e1]
 rw [e2]; exact q'
def aF {K:Frag} {n k:Nat} {u:TGs} (hu:fS n u):ak n (ot K k u):=fun v σ H Q zz56=>by obtain ⟨a,xs,e,h1,h2,q⟩:=zz56; exact ⟨a,xs,e,h1,h2,hu xs σ H Q q⟩
def PIf (X:Cx) (ifs:List Expr) (t:TT):Prop:=
 ∀ (pins:List (Addr×Obj)) (s:Shared) (σ:St) (H:Hp) (Q:Bool->Hp->Prop),Inv X pins σ H s->t σ H Q ->
  wpAny (model X.prog X.w) X.A (forIn ifs true fun c r=>if r=true then do let ok <- isTrue c X.env (eval c X.env); pure (ForInStep.yield ok) else pure (ForInStep.yield r)) (TP X pins σ Q) X.xe s
def tYes:TT:=fun _ H Q=>Q true H
def wZ {X:Cx}:PIf X [] tYes:=fun _ _ _ H _ I h=>wpAny_tests_nil ⟨H,I,h⟩
def wY {X:Cx} {c:Expr} {t:TT} (h:PT X c t):PIf X [c] t:=fun pins s σ H Q I q=>wpAny_tests_one (h pins s σ H Q I q)
def wb (J:It) (D:Addr) (g:TG) (tc:TT) (te:TE) (σ':St) (H1:Hp) (Q:Hp->Prop):Prop:=
 ∃ W:Nat->Nat->Hp->Prop,(∃ m,W 0 m (upd H1 D (.lst [])))/\∀ i m H2,W i m H2 ->
  (J.stop i H2/\Q H2)\/(J.go i H2/\∀ x H3,J.yld i H2 x H3->g x σ' H3 fun σ4 H4=>tc σ4 H4 fun b H5=>
   if b=true then te σ4 H5 fun y H6=>∃ ys,H6 D=some (.lst ys)/\ys.length<sizeLine/\∃ m',m'<m/\W (i+1) m' (upd H6 D (.lst (ys ++ [y])))
   else ∃ m',m'<m/\W (i+1) m' H5)
def nC (N':List Str) (wi:TI) (g:TG) (tc:TT) (te:TE):TE:=fun σ H Q=>wi σ H fun J H1=>∀ D,H1 D=none->wb J D g tc te (inner N' σ) H1 (Q (.ref D))
section
variable {X:Cx} {cs:Scope} {N':List Str} {tg iter elt:Expr} {ifs:List Expr} {wi:TI} {g:TG} {tc:TT} {te:TE} {pos:Pos}
def EH {cl:List (Str×Addr)} {pins:List (Addr×Obj)} {fp:List Addr} {H3 H':Hp} {s3:Shared} (GF:∀ x c,cl.lookup x=some c->X.env.cells.lookup x=some c) (stk:∀ b∈frs X.stack,b∈X.env.locals::X.fs)
  (IH:∀ b∈fp,J7 X pins H3 b) (GA:∀ b∈fp,b<s3.heap.objs.size) (hn:∀ b∈fp,H' b=none):∀ b∈fp,J7 (k7 X cs cl N' fp s3 H3) [] H' b:=fun b hb=>by
 obtain ⟨f0,f1,f2,f3,f4,f5⟩:=IH b hb
 refine ⟨hn b hb,qC7 (GA b hb),fun Lp=>?_,.inl hb,fun x c e=>f4 x c (GF x c e),fun p hp=>absurd (show p∈([]:List (Addr×Obj)) from hp) (by simp)⟩
 have Jc:b∈frs X.stack:=Lp
 rcases qB3.mp (stk b Jc) with z | z
 ·exact f1 z
 ·exact f2 z
def rA {cl:List (Str×Addr)} {pins:List (Addr×Obj)} {σ:St} {R:Result->Shared->Prop} {Q:Hp->Prop} {s3 s4:Shared} {H3:Hp} {it D:Addr} {fp:List Addr} {tn:Nat->Heap->Prop} {J:It} {W:Nat->Nat->Hp->Prop} {m0:Nat}
  (hc:X.calm=true) (hg:PG (k7 X cs cl N' fp s3 H3) tg g) (hk:ak X.N.length g) (ht:PIf (k7 X cs cl N' fp s3 H3) ifs tc) (he:PE (k7 X cs cl N' fp s3 H3) elt te)
  (GF:∀ x c,cl.lookup x=some c->X.env.cells.lookup x=some c)
  (I3:Inv X pins σ H3 s3) (I4:Inv (k7 X cs cl N' fp s3 H3) [] (inner N' σ) H3 s4) (T:Turn X.prog X.w X.K tg J fp it tn) (st:tn 0 s4.heap) (IH:∀ b∈fp,J7 X pins H3 b) (GA:∀ b∈fp,b<s3.heap.objs.size)
  (w0:W 0 m0 H3)
  (turn:∀ i m H2,W i m H2->(J.stop i H2/\Q H2)\/(J.go i H2/\∀ x H3,J.yld i H2 x H3->g x (inner N' σ) H3 fun σ4 H4=>tc σ4 H4 fun b H5=>
   if b=true then te σ4 H5 fun y H6=>∃ ys,H6 D=some (.lst ys)/\ys.length<sizeLine/\∃ m',m'<m/\W (i+1) m' (upd H6 D (.lst (ys ++ [y])))
   else ∃ m',m'<m/\W (i+1) m' H5))
  (hR:∀ (H':Hp) (s':Shared),Inv X pins σ H' s'->Q H'->(∃ m,s'.heap.Ns s3.heap.objs.size m)->J7 X pins H' s3.heap.objs.size->R (.ok .next) s') :
  codeAny (model X.prog X.w) X.A (.compLoop (.ListComp elt [⟨tg,iter,ifs,0⟩] cs pos) 0 (.ref it) (.ref D) (k7 X cs cl N' fp s3 H3).env) R s4:=by
 have LC:∀ {H':Hp},(∀ b∈fp,H' b=none)->∀ b∈fp,J7 (k7 X cs cl N' fp s3 H3) [] H' b:=fun hn=>EH GF I3.stkSub IH GA hn
 have lσ:(inner N' σ).length=N'.length:=I4.len
 refine codeAny_loop rfl (fun n s'=>∃ i H',Inv (k7 X cs cl N' fp s3 H3) [] (inner N' σ) H' s'/\tn i s'.heap/\(∀ b∈fp,H' b=none)/\W i n H') (fun n s5 hI=>?_) m0 ⟨0,H3,I4,st,fun b hb=>(IH b hb).1,w0⟩
 obtain ⟨i,H5,I5,Jg,KJ,w5⟩:=hI
 show wpAny _ _ ((compTurn (.ListComp elt [⟨tg,iter,ifs,0⟩] cs pos) 0 (.ref it) (.ref D) (k7 X cs cl N' fp s3 H3).env).onRaise _) _ _ s5
 refine wpAny_noted ?_
 rw [compTurn_list]
 refine qA2 (wpAny_standAt (qA2 ?_))
 have KM:∀ {α:Type} {t:Sem α} {P:α->Shared->Prop} {E':Value->Shared->Prop} {s:Shared},wpAny (model X.prog X.w) X.A t P (fun _ _=>False) s->wpAny (model X.prog X.w) X.A t P E' s:=fun h=>wpAny_mono h (fun _ _ q=>q) fun _ _ q=>q.elim
 rcases turn i n H5 w5 with ⟨stop,q⟩ | ⟨go,step⟩
 ·refine thn (T.done (k7 X cs cl N' fp s3 H3) rfl rfl rfl hc i [] s5 _ H5 _ I5 (LC KJ) Jg stop) fun r s6 ⟨hr,I6⟩=>?_
  subst hr
  refine wpAny_pure ?_
  have J6:Inv X pins σ H5 s6:=I3.call' (H':=H5) (ch:=fp) I6.os I6.base I6.hok I6.bare fun b hb=>by
   obtain ⟨f0,f1,f2,f3,f4,f5⟩:=IH b hb
   exact ⟨f3,f1,f4,f5⟩
  obtain ⟨m,hn,_⟩:=I6.loc
  exact hR H5 s6 J6 q ⟨m,hn⟩ (I3.fpOk (qB1 _) I6.free)
 ·refine thn (T.item (k7 X cs cl N' fp s3 H3) rfl rfl rfl hc i [] s5 _ H5 _ I5 (LC KJ) Jg go) fun r s6 ⟨u,hr,h6⟩=>?_
  subst hr
  refine qA2 (thn h6 fun _ s7 zz59=>?_)
  obtain ⟨x,H7,I7,r7,y7,KO,fr7⟩:=zz59
  have I7':=I7.pinned (LC fr7) (T.obj _ _ KO)
  refine qA2 (KM (thn (hg _ s7 _ H7 x u _ I7' r7 (hk x _ H7 _ (step x H7 y7))) fun _ s8 zz60=>?_))
  obtain ⟨σ8,H8,I8,q8,l8,k8⟩:=zz60
  refine qA2 (KM (thn (ht _ s8 σ8 H8 _ I8 q8) fun b s9 zz61=>?_))
  obtain ⟨H9,I9,q9⟩:=zz61
  have again:∀ {s':Shared} {H':Hp},Inv (k7 X cs cl N' fp s3 H3) ([]++bX fp s7.heap) σ8 H' s'->(∃ m',m'<n/\W (i+1) m' H') ->
    ∃ m',m'<n/\∃ i H',Inv (k7 X cs cl N' fp s3 H3) [] (inner N' σ) H' s'/\tn i s'.heap/\(∀ b∈fp,H' b=none)/\W i m' H':=fun {s' H'} I' zz62=>by
   obtain ⟨m',hm,w'⟩:=zz62
   refine ⟨m',hm,i+1,H',(I'.unpinned).weak (by rw [l8]) (fun j v e=>?_),T.keep _ _ _ KO fun b hb o e=>(I'.pin (b,o) (qC4 _ (qC4 _ (V1 hb e)))).1,fun b hb=>?_,w'⟩
   ·have hj:j<X.N.length:=by rw [<- I3.len]; exact (qA7.mp (iw e)).1
    rw [k8 j hj]; exact e
   ·obtain ⟨o,e,d⟩:=T.obj _ _ KO b hb
    exact (I'.pin (b,o) (qC4 _ (qC4 _ (V1 hb e)))).2.1
  cases b with
  | false=>
   have KU:∃ m',m'<n/\W (i+1) m' H9:=q9
   exact wpAny_pure ⟨rfl,again I9 KU⟩
  | true=>
   have KU:te σ8 H9 _:=q9
   refine qA2 (qA2 (KM (thn (he _ s9 σ8 H9 _ I9 KU) fun v s10 zz63=>?_)))
   obtain ⟨y,H10,I10,r10,ys,hD,hy,q10⟩:=zz63
   refine qA2 (KM (thn (il _ s10 σ8 H10 (.ref D) [y] (.ref D) [v] (fun _ H'=>∃ m',m'<n/\W (i+1) m' H') I10 rfl (.cons r10 .nil) ⟨D,ys,y,rfl,rfl,hD,hy,q10⟩) fun _ s11 zz64=>?_))
   obtain ⟨_,H11,I11,_,q11⟩:=zz64
   exact wpAny_pure (wpAny_pure ⟨rfl,again I11 q11⟩)
def iz {cl:List (Str×Addr)} {pins:List (Addr×Obj)} {σ:St} {R:Value->Addr->Result->Shared->Prop} {Q:V->Hp->Prop} {s2:Shared} {IR:Value} (S:g6 X.env.scope cs X.N N') (hc:X.calm=true)
  (hg:∀ cl ex s H,PG (k7 X cs cl N' ex s H) tg g) (hk:ak X.N.length g) (ht:∀ cl ex s H,PIf (k7 X cs cl N' ex s H) ifs tc) (he:∀ cl ex s H,PE (k7 X cs cl N' ex s H) elt te)
  (GF:∀ x c,cl.lookup x=some c->X.env.cells.lookup x=some c) (Ir:∀ x,(x,NameKind.free)∈cs.names->∃ c,cl.lookup x=some c)
  (h:PIE X pins σ tg (fun J H1=>∀ D,H1 D=none->wb J D g tc te (inner N' σ) H1 (Q (.ref D))) IR s2)
  (hR:∀ (D C:Addr) (H':Hp) (s':Shared),Inv X pins σ H' s'->Q (.ref D) H'->(∃ m,s'.heap.Ns C m)->J7 X pins H' C->R (.ref D) C (.ok .next) s') :
  wpAny (model X.prog X.w) X.A (newList []) (fun acc s₃=>wpAny (model X.prog X.w) X.A (newFunctionEnv cs X.env.globals cl [] X.env.qual none .none (some X.env)) (fun Kg s₄=>
   codeAny (model X.prog X.w) X.A (.compStart (.ListComp elt [⟨tg,iter,ifs,0⟩] cs pos) 0 IR acc { Kg with scope:=relabel cs X.env }) (R acc Kg.locals) s₄) X.xe s₃) X.xe s2:=by
 obtain ⟨it,fp,tn,J,H2,e,I2,T,Ic,f2,hw⟩:=h
 subst e
 refine wpAny_newObj_type (wpAny_newFunctionEnv S.ncell (by intro y hy; simp at hy) (fun h1 JP JL=>?_) S.kind)
 dsimp only at JP JL ⊢
 have hD:=I2.hok.fresh (qB1 _)
 obtain ⟨W,⟨m0,w0⟩,turn⟩:=hw s2.heap.objs.size hD
 have I3:Inv X pins σ (upd H2 s2.heap.objs.size (.lst [])) { s2 with heap:=s2.heap.push { cls:=.type "list",dict:=none,data:=.seq ([]:List Value).toArray } }:=I2.lnew (t':=s2.toks) .nil (qC3 _)
 have JV:∀ b∈fp,b<s2.heap.objs.size:=fun b hb=>by
  obtain ⟨o,e,_⟩:=T.obj 0 _ Ic b hb
  exact qB7 e
 have IH:∀ b∈fp,J7 X pins (upd H2 s2.heap.objs.size (.lst [])) b:=fun b hb=>by
  obtain ⟨f0,r⟩:=f2 b hb
  exact ⟨by rw [c9 (qC7 (JV b hb))]; exact f0,r⟩
 have GA:∀ b∈fp,b<(s2.heap.push { cls:=.type "list",dict:=none,data:=.seq ([]:List Value).toArray }).objs.size:=fun b hb=>by rw [qL9]; exact Nat.lt_succ_of_lt (JV b hb)
 have kp:∀ b o,(s2.heap.push { cls:=.type "list",dict:=none,data:=.seq ([]:List Value).toArray }).get? b=some o->h1.get? b=some o:=fun b o e=>JL.extBut b o (qC7 (qB7 e)) (qA6 _ e)
 have I4:=vc (cs:=cs) (cl:=cl) (N':=N') (fp:=fp) (s4:={ s2 with heap:=h1,toks:=s2.toks+([]:List (Str×Value)).length }) S I3 GF Ir IH GA kp JP rfl rfl
 have st4:tn 0 h1:=T.keep 0 _ _ Ic fun b hb o e=>kp b o (qA6 _ e)
 have loop:=rA (R:=R (.ref s2.heap.objs.size) (s2.heap.push { cls:=.type "list",dict:=none,data:=.seq ([]:List Value).toArray }).objs.size) (D:=s2.heap.objs.size) (iter:=iter) (pos:=pos) (it:=it) (Q:=Q (.ref s2.heap.objs.size)) hc (hg cl fp _ _) hk (ht cl fp _ _) (he cl fp _ _) GF I3 I4 T st4 IH GA w0 turn fun H' s' I' q n f=>hR _ _ H' s' I' q n f
 exact codeAny_compStart_list loop (T.self _ 0 _ _ _ st4 loop)
def xb (S:g6 X.env.scope cs X.N N') (hc:X.calm=true) (hi:PI X tg iter wi)
  (hg:∀ cl ex s H,PG (k7 X cs cl N' ex s H) tg g) (hk:ak X.N.length g) (ht:∀ cl ex s H,PIf (k7 X cs cl N' ex s H) ifs tc) (he:∀ cl ex s H,PE (k7 X cs cl N' ex s H) elt te)
  (hs:∀ x,foldedSetIterable iter X.env x=pure x:=by intro _; rfl):PE X (.ListComp elt [⟨tg,iter,ifs,0⟩] cs pos) (nC N' wi g tc te):=by
 intro pins s σ H Q I h
 obtain ⟨cl,e,h1,h2,_⟩:=fM (env:=X.env) cs.names [] (fun x hx hk=>I.ok.has x.1 (S.free x hx hk)) (fun _ _ z=>nomatch z)
 have HZ:closureFor cs X.env=pure cl:=by
  simp only [closureFor]
  rw [e]; rfl
 rw [eval_ListComp]
 refine wpAny_comprehension_free (use:=none) rfl hs HZ S.kind S.loc (thn (hi pins s σ H _ I h) fun v s1 q1=>thn q1 fun IR s2 q2=>?_)
 refine iz (R:=fun acc C=>compPost (model X.prog X.w) X.A X.xe none (EP X pins σ Q) acc C) (Q:=Q) S hc hg hk ht he h1 h2 q2 fun D C H' s' I' q n f=>?_
 obtain ⟨m,hn⟩:=n
 obtain ⟨f0,f1,f2,f3,f4,f5⟩:=f
 exact ⟨m,hn,fun h' sb=>⟨.ref D,H',I'.turned (t':=s'.toks) (fun b o hb e=>sb.extBut b o hb e) f0 f1 f3 f4 f5,rfl,q⟩⟩
def wW {i:Nat} {y:Str} {py JB:Pos} (S:g6 X.env.scope cs X.N N') (hc:X.calm=true) (hi:PI X tg iter wi)
  (hg:∀ cl ex s H,PG (k7 X cs cl N' ex s H) tg g) (hk:ak X.N.length g) (ht:∀ cl ex s H,PIf (k7 X cs cl N' ex s H) ifs tc) (he:∀ cl ex s H,PE (k7 X cs cl N' ex s H) elt te)
  (hN:X.N.Nodup) (hy:X.N[i]?=some y) (hl:Loc X.env.scope y)
  (Hl:swapsWith (.ListComp elt [⟨tg,iter,ifs,0⟩] cs pos) (some (.Name y py)) JB.line X.env=pure true:=by rfl) (hf:X.fn y=true\/X.env.scope.names.lookup y=some .local:=by first | exact .inl rfl | exact .inr rfl | assumption)
  (hs:∀ x,foldedSetIterable iter X.env x=pure x:=by intro _; rfl):PS X (.Assign [.Name y py] (.ListComp elt [⟨tg,iter,ifs,0⟩] cs pos) JB) (fW (nC N' wi g tc te) (P4 i)):=by
 intro pins s σ H Q I h
 obtain ⟨cl,e,h1,h2,_⟩:=fM (env:=X.env) cs.names [] (fun x hx hk=>I.ok.has x.1 (S.free x hx hk)) (fun _ _ z=>nomatch z)
 have HZ:closureFor cs X.env=pure cl:=by
  simp only [closureFor]
  rw [e]; rfl
 rw [exec_Assign_Name_used _ _ _ _ Hl]
 refine qA2 (wpAny_standAt (qA2 ?_))
 show wpAny _ _ (comprehension (.ListComp elt [⟨tg,iter,ifs,0⟩] cs pos) cs X.env _ (newList []) false (eval iter X.env) (some (assign (.Name y py) X.env))>>=_) _ _ s
 refine qA2 (thn (wpAny_comprehension_free (use:=some (assign (.Name y py) X.env)) (Q:=fun _ s'=>SP X pins Q .next s') rfl hs HZ S.kind S.loc (thn (hi pins s σ H _ I h) fun v s1 q1=>thn q1 fun IR s2 q2=>?_)) fun _ s' q=>wpAny_pure (wpAny_pure q))
 refine iz (R:=fun acc C=>compPost (model X.prog X.w) X.A X.xe (some (assign (.Name y py) X.env)) (fun _ s'=>SP X pins Q .next s') acc C) (Q:=fun x H1=>P4 i x σ H1 Q.nx) S hc hg hk ht he h1 h2 q2 fun D C H' s' I' q n f=>?_
 obtain ⟨m,hn⟩:=n
 obtain ⟨f0,f1,f2,f3,f4,f5⟩:=f
 show wpAny _ _ (assign (.Name y py) X.env (.ref D)) _ _ _
 refine wpAny_assign_Name (hV (v:=.ref D) (u:=.ref D) I' hN hy hl rfl (fun HI I'' zz65=>?_) hf)
 obtain ⟨a,sb,ha⟩:=zz65
 have hCa:C≠a:=by
  rcases ha with rfl | ha
  ·exact f1
  ·exact fun q=>f4 _ _ ha q.symm
 refine ⟨m,hn.sameBut sb hCa,fun h' sb'=>?_⟩
 exact ⟨_,H',I''.turned (t':=HI.toks) (fun b o hb e=>sb'.extBut b o hb e) f0 f1 f3 f4 f5,q⟩
end
end L2
namespace L2
open PySem PySem.Spec PyProof.Rows
def Sq.same {K:Frag} {H H':Hp} {t:Bool} {a:Addr} {xs:List V} (e:Same H H') (h:Sq K H t a xs):Sq K H' t a xs:=by
 unfold Sq at h ⊢
 split
 ·rename_i ht; rw [qA1 ht] at h
  rcases h with (h | ⟨o,h⟩) | h
  ·exact .inl (.inl (e _ _ h))
  ·exact .inl (.inr ⟨o,e _ _ h⟩)
  ·exact .inr h
 ·rename_i ht; rw [qA3 ht] at h
  exact e.seq h
def seqAt (K:Frag) (H:Hp) (p:Addr) (R:List V->Prop):Prop:=match H p with
 | some (.tup xs)=>R xs
 | some (.lst xs)=>R xs
 | _=>∃ t xs,Sq K H t p xs/\R xs
section
variable {X:Cx}
def ItQ (K:Frag) (t:Bool) (a:Addr):It:=if t=true then Itt K a else Itl K a
def iSq (K:Frag) (tl:TE):TI:=fun σ H R=>tl σ H fun x H1=>∃ a,x=.ref a/\∃ t xs,Sq K H1 t a xs/\R (ItQ K t a) H1
def Er {tg l:Expr} {tl:TE} (hl:PE X l tl):PI X tg l (iSq X.K tl):=by
 intro pins s σ H R I h
 refine thn (hl pins s σ H _ I h) fun v s1 zz66=>?_
 obtain ⟨x,H1,I1,r1,q1⟩:=zz66
 obtain ⟨a,e,t,xs,hq,q⟩:=q1
 subst e
 cases r1
 cases t with
 | true=>
  have Ih:SqT X.K H1 a xs:=by unfold Sq at hq; rw [qA1 rfl] at hq; exact hq
  obtain ⟨its,rv,p,hz⟩:=I1.tuple Ih
  refine wpAny_pyIter_tuple (show s1.heap.IsTuple a its.toArray from p) ?_
  refine ⟨s1.heap.objs.size,[s1.heap.objs.size],_,Itt X.K a,H1,rfl,I1.kept (t':=s1.toks) fun b o e=>qA6 _ e,nv a _,⟨_,qC6 _ rfl,rfl,rfl⟩,fun b hb=>?_,q⟩
  have e:b=s1.heap.objs.size:=by simpa using hb
  subst e
  exact I1.fpOk (qB1 _) (I1.hok.fresh (qB1 _))
 | false=>
  have Ih:SqL X.K H1 a xs:=by unfold Sq at hq; rw [qA3 qA4] at hq; exact hq
  obtain ⟨its,rv,p,hz⟩:=I1.list Ih
  refine wpAny_pyIter_list p.isList ?_
  refine ⟨s1.heap.objs.size,[s1.heap.objs.size],_,Itl X.K a,H1,rfl,I1.kept (t':=s1.toks) fun b o e=>qA6 _ e,pv a _,⟨_,qC6 _ rfl,rfl,rfl⟩,fun b hb=>?_,q⟩
  have e:b=s1.heap.objs.size:=by simpa using hb
  subst e
  exact I1.fpOk (qB1 _) (I1.hok.fresh (qB1 _))
def rM:bootBuiltins "int" = some (.type "int"):=by decide +kernel
def yI:bootBuiltins "list" = some (.type "list"):=by decide +kernel
def t7:bootBuiltins "tuple" = some (.type "tuple"):=by decide +kernel
def DE:bootBuiltins "max" = some (.builtin "max"):=by decide +kernel
def E5 (A T:String):Option Bool:=
 if A=T then some true else if A = "bool" /\ T = "int" then some true
 else if (A = "NoneType" \/ A = "bool" \/ A = "int" \/ A = "str" \/ A = "list" \/ A = "tuple" \/ A = "dict")/\(T = "bool" \/ T = "int" \/ T = "list" \/ T = "tuple") then some false else none
end
def BR:E5 "bool" "bool" = some true:=by decide
def BQ:E5 "bool" "int" = some true:=by decide
def BP:E5 "int" "bool" = some false:=by decide
def BO:E5 "int" "int" = some true:=by decide
def BA:E5 "tuple" "tuple" = some true:=by decide
def BL:E5 "list" "list" = some true:=by decide
def BI:E5 "NoneType" "int" = some false:=by decide
def BJ:E5 "NoneType" "bool" = some false:=by decide
def BE:E5 "str" "int" = some false:=by decide
def BF:E5 "str" "bool" = some false:=by decide
def BM:E5 "list" "int" = some false:=by decide
def BN:E5 "list" "bool" = some false:=by decide
def BC:E5 "tuple" "int" = some false:=by decide
def BD:E5 "tuple" "bool" = some false:=by decide
def aE {n:Nat} {i:Int} (h0:0<=i) (h1:i<n):ixN n i=some i.toNat:=by unfold ixN; rw [qA1 h0,qA1 h1]
def mem_getD {ms:List Int} {P:Int->Prop} (h:∀ x∈ms,P x) {i:Nat} (hi:i<ms.length):P (ms.getD i 0):=by
 have:ms.getD i 0=ms[i]:=by simp [hi]
 rw [this]; exact h _ (qG4 hi)
structure Runs (J:It) (n:Nat) (H1:Hp) (Y:Nat->V->Hp->Hp->Prop):Prop where
 go:∀ i H,i<n->Same H1 H->J.go i H
 stop:∀ H,Same H1 H->J.stop n H
 yld:∀ i H x H',i<n->Same H1 H->J.yld i H x H'->Y i x H H'
def pU {K:Frag} {t u:Bool} {a b:Addr} {xs ys:List V} {H1:Hp} (h:Sq K H1 t a xs) (h':Sq K H1 u b ys) :
  Runs (ItZ K [(t,a),(u,b)]) (min xs.length ys.length) H1 fun i x H H'=>∃ p y z,x=.ref p/\H p=none/\H'=upd H p (.tup [y,z])/\xs[i]?=some y/\ys[i]?=some z:=by
 refine ⟨fun i H hi s v hv=>?_,fun H s=>⟨fun v hv=>?_,?_⟩,fun i H x H' hi s hy=>?_⟩
 ·simp only [qB3,qD6,or_false] at hv
  rcases hv with rfl | rfl
  ·exact ⟨xs,xs[i]'(qB0 hi (Nat.min_le_left _ _)),Sq.same s h,by simp⟩
  ·exact ⟨ys,ys[i]'(qB0 hi (qI4 _ _)),Sq.same s h',by simp⟩
 ·simp only [qB3,qD6,or_false] at hv
  rcases hv with rfl | rfl
  ·exact ⟨xs,Sq.same s h⟩
  ·exact ⟨ys,Sq.same s h'⟩
 ·rcases Nat.le_total xs.length ys.length with q | q
  ·exact ⟨(t,a),by simp,xs,Sq.same s h,by omega⟩
  ·exact ⟨(u,b),by simp,ys,Sq.same s h',by omega⟩
 ·obtain ⟨p,zs,e1,e2,e3,pr⟩:=hy
  cases pr with
  | cons r1 pr=>
   cases pr with
   | cons r2 pr=>
    cases pr
    exact ⟨p,_,_,e1,e2,e3,r1 xs (Sq.same s h),r2 ys (Sq.same s h')⟩
def pT {K:Frag} {t u w:Bool} {a b c:Addr} {xs ys zs:List V} {H1:Hp} (h:Sq K H1 t a xs) (h':Sq K H1 u b ys) (KI:Sq K H1 w c zs) :
  Runs (ItZ K [(t,a),(u,b),(w,c)]) (min xs.length (min ys.length zs.length)) H1 fun i x H H'=>∃ p y z v,x=.ref p/\H p=none/\H'=upd H p (.tup [y,z,v])/\xs[i]?=some y/\ys[i]?=some z/\zs[i]?=some v:=by
 refine ⟨fun i H hi s v hv=>?_,fun H s=>⟨fun v hv=>?_,?_⟩,fun i H x H' hi s hy=>?_⟩
 ·simp only [qB3,qD6,or_false] at hv
  rcases hv with rfl | rfl | rfl
  ·exact ⟨xs,xs[i]'(qB0 hi (Nat.min_le_left _ _)),Sq.same s h,by simp⟩
  ·exact ⟨ys,ys[i]'(qB0 hi (qA9 (qI4 _ _) (Nat.min_le_left _ _))),Sq.same s h',by simp⟩
  ·exact ⟨zs,zs[i]'(qB0 hi (qA9 (qI4 _ _) (qI4 _ _))),Sq.same s KI,by simp⟩
 ·simp only [qB3,qD6,or_false] at hv
  rcases hv with rfl | rfl | rfl
  ·exact ⟨xs,Sq.same s h⟩
  ·exact ⟨ys,Sq.same s h'⟩
  ·exact ⟨zs,Sq.same s KI⟩
 ·have:min xs.length (min ys.length zs.length)=xs.length\/min xs.length (min ys.length zs.length)=ys.length\/min xs.length (min ys.length zs.length)=zs.length:=by omega
  rcases this with q | q | q
  ·exact ⟨(t,a),by simp,xs,Sq.same s h,by omega⟩
  ·exact ⟨(u,b),by simp,ys,Sq.same s h',by omega⟩
  ·exact ⟨(w,c),by simp,zs,Sq.same s KI,by omega⟩
 ·obtain ⟨p,vs,e1,e2,e3,pr⟩:=hy
  cases pr with
  | cons r1 pr=>
   cases pr with
   | cons r2 pr=>
    cases pr with
    | cons r3 pr=>
     cases pr
     exact ⟨p,_,_,_,e1,e2,e3,r1 xs (Sq.same s h),r2 ys (Sq.same s h'),r3 zs (Sq.same s KI)⟩
structure Def (K:Frag) (mg:Str->Option Value) (x:Str) (st:Stmt) (ps:List Str) (f:Addr) (fd:FuncData):Prop where
 F:Fun K x x st f fd
 m:mg x=some (.ref f)
 b:Binds K fd ps []
section
variable {X:Cx}
def O3 (K:Frag) {es:List Expr} {pos:Pos} {k:Nat} {t:TGs} (n:Nat) (hc:X.calm=true) (h:PGs X es t) (hK:X.K=K:=by rfl)
  (hn:(assignEach es X.env).length=n:=by rfl) (GZ:(assignEach es X.env).findIdx? (·.1)=none:=by rfl):PG X (.Tuple es k pos) (ot K n t):=by subst hK; exact AS hc h hn GZ
def sI (to:TE) (te:TE):TE:=fun σ H Q=>to σ H fun x H1=>∃ p,x=.ref p/\(∃ xs,H1 p=some (.lst xs))/\te σ H1 fun y H2=>match H2 p with
 | some (.lst xs)=>xs.length<sizeLine/\Q .non (upd H2 p (.lst (xs ++ [y])))
 | _=>False
def ii {o e:Expr} {to te:TE} {apos Gi:Pos} (ho:PE X o to) (ha:PE X e te)
  (Go:attributeBase o "append" X.env (eval o X.env)=eval o X.env:=by rfl)
  (GV:((backTo Gi (starEach [e] X.env)).all (fun x=>!x.1)&&(backToKw Gi (keywordEach [] X.env)).all (fun x=>x.1.isSome)
   && decide (([e]:List Expr).length+([]:List Keyword).length+(if ([]:List Keyword).isEmpty then 0 else 1)<30))=true:=by rfl)
  (Gn:(apos.endLine == Gi.line)=true:=by rfl) (hs:starEach [e] X.env=(false,eval e X.env)::starEach [] X.env:=by rfl):PE X (.Call (.Attribute o "append" apos) [e] [] Gi) (sI to te):=by
 intro pins s σ H Q I h
 refine wpAny_Call_method_late Go GV Gn rfl (thn (ho pins s σ H _ I h) fun v s1 zz67=>?_)
 obtain ⟨x,H1,I1,r1,p,ex,⟨xs,e1⟩,q1⟩:=zz67
 subst ex
 obtain ⟨h1,h2⟩:=iX (T := "list") I1 r1 (.inl ⟨rfl,xs,SqL.of e1⟩)
 refine ⟨"list", "list.append",PySem.F.plainAttrs_list,PySem.F.slot_list_append,PySem.F.type_list_append,h1,h2,?_⟩
 have hA:=aB ha pa_nil hs Gi pins s1 σ H1 (fun vs H2=>∃ y,vs = [y]/\match H2 p with
  | some (.lst xs)=>xs.length<sizeLine/\Q .non (upd H2 p (.lst (xs ++ [y])))
  | _=>False) I1 (by
   have e:(fun (y:V) (H2:Hp)=>match H2 p with
     | some (.lst xs)=>xs.length<sizeLine/\Q .non (upd H2 p (.lst (xs ++ [y])))
     | _=>False)=fun (y:V) (H2:Hp)=>∃ y',[y] = [y']/\match H2 p with
     | some (.lst xs)=>xs.length<sizeLine/\Q .non (upd H2 p (.lst (xs ++ [y'])))
     | _=>False:=by
    funext y H2
    exact propext ⟨fun q=>⟨y,rfl,q⟩,fun zz68=>by obtain ⟨y',e,q⟩:=zz68; cases e; exact q⟩
   rw [e] at q1
   exact q1)
 rw [hs] at hA ⊢
 refine Calls.callWith_builtin rfl (Calls.evalArgs_plain ?_)
 refine thn hA fun us s2 zz69=>?_
 obtain ⟨vs,H2,I2,r2,y,ev,q2⟩:=zz69
 subst ev
 refine il pins s2 σ H2 (.ref p) [y] v us Q I2 r1 r2 ?_
 split at q2
 ·rename_i ys e2; exact ⟨p,ys,y,rfl,rfl,e2,q2.1,q2.2⟩
 ·exact q2.elim
end
section
variable {X:Cx}
end
def wc (i j:Int):Prop:=0<=j/\(Builtin.Int.intBits i:Int)*j<=2^27
def xU {ns:List Int} {i:Nat} {z:Int} (h:ns[i]?=some z):ns.getD i 0=z:=by rw [qA0,h]; rfl
def O0 {ns:List Int} {i:Nat} (h:i<ns.length):ns[i]?=some (ns.getD i 0):=by rw [qA0]; simp [h]
end L2
namespace TP
open PySem L2
inductive W where
 | non | bl (b:Bool) | int (i:Int) | str (x:Str) | ty (n:String) | tup (ws:List W) | lst (ws:List W) | scr (ws:List W)
 | exc (c:Str) (i:Option Int) | cls (c:Str)
def XD (F:Hp) (od:Option Addr):Option Int->Prop
 | none=>od=none
 | some i=>∃ d,od=some d/\F d=some (.xd [("at",.int i)])
mutual
inductive Rep (K:Frag) (F:Hp):V->W->Prop where
 | non:Rep K F .non .non
 | bl {b:Bool}:Rep K F (.bl b) (.bl b)
 | int {i:Int}:Rep K F (.int i) (.int i)
 | str {x:Str}:Rep K F (.str x) (.str x)
 | ty {n:String}:Rep K F (.ty n) (.ty n)
 | tup {a:Addr} {vs:List V} {ws:List W}:F a=some (.tup vs)->Reps K F vs ws->Rep K F (.ref a) (.tup ws)
 | lst {a:Addr} {vs:List V} {ws:List W}:F a=some (.lst vs)->Reps K F vs ws->Rep K F (.ref a) (.lst ws)
 | scr {a:Addr} {vs:List V} {ws:List W}:SqL K F a vs->Reps K F vs ws->Rep K F (.ref a) (.scr ws)
 | exc {a C:Addr} {o:Obj} {vs:Array Value} {c:Str} {i:Option Int}:F a=some (.ext fun h=>h.get? a=some o)->o.cls=.ref C->o.data=.fields vs->PySem.W.nsIn K mainGlobals c=some (some (.ref C))->XD F o.dict i->Rep K F (.ref a) (.exc c i)
 | cls {C:Addr} {c:Str}:PySem.W.nsIn K mainGlobals c=some (some (.ref C))->Rep K F (.ref C) (.cls c)
inductive Reps (K:Frag) (F:Hp):List V->List W->Prop where
 | nil:Reps K F [] []
 | cons {v:V} {w:W} {vs:List V} {ws:List W}:Rep K F v w->Reps K F vs ws->Reps K F (v::vs) (w::ws)
end
section
variable {K:Frag} {F F':Hp}
def sM {a:Addr} {xs:List V} (e:Same F F') (h:SqT K F a xs):SqT K F' a xs:=by
 rcases h with (h | ⟨o,h⟩) | h
 ·exact .inl (.inl (e _ _ h))
 ·exact .inl (.inr ⟨o,e _ _ h⟩)
 ·exact .inr h
def XD.same (e:Same F F') {od:Option Addr}:∀ {i:Option Int},XD F od i->XD F' od i:=by
 intro i h
 cases i with
 | none=>exact h
 | some _=>obtain ⟨d,h1,h2⟩:=h; exact ⟨d,h1,e _ _ h2⟩
def Rep.same (e:Same F F') {v:V} {w:W} (r:Rep K F v w):Rep K F' v w:=
 @Rep.rec K F (fun v w _=>Rep K F' v w) (fun vs ws _=>Reps K F' vs ws) .non .bl .int .str .ty (fun h _ r=>.tup (e _ _ h) r) (fun h _ r=>.lst (e _ _ h) r) (fun h _ r=>.scr (Same.seq e h) r) (fun h1 h2 h3 h4 h5=>.exc (e _ _ h1) h2 h3 h4 (XD.same e h5)) (fun h=>.cls h) .nil (fun _ _ a b=>.cons a b) v w r
def Reps.same (e:Same F F') {vs:List V} {ws:List W} (r:Reps K F vs ws):Reps K F' vs ws:=
 @Reps.rec K F (fun _ _ _=>True) (fun vs ws _=>Reps K F' vs ws) trivial trivial trivial trivial trivial (fun _ _ _=>trivial) (fun _ _ _=>trivial) (fun _ _ _=>trivial) (fun _ _ _ _ _=>trivial) (fun _=>trivial) .nil (fun h _ _ b=>.cons (Rep.same e h) b) vs ws r
def Reps.ind {P:List V->List W->Prop} (h0:P [] []) (h1:∀ {v:V} {w:W} {vs:List V} {ws:List W},Rep K F v w->Reps K F vs ws->P vs ws->P (v::vs) (w::ws)) {vs:List V} {ws:List W} (r:Reps K F vs ws):P vs ws:=
 @Reps.rec K F (fun _ _ _=>True) (fun vs ws _=>P vs ws) trivial trivial trivial trivial trivial (fun _ _ _=>trivial) (fun _ _ _=>trivial) (fun _ _ _=>trivial) (fun _ _ _ _ _=>trivial) (fun _=>trivial) h0 (fun h r _ b=>h1 h r b) vs ws r
def DR (K:Frag) (F:Hp) (v:V):W->Prop
 | .non=>v=.non
 | .bl b=>v=.bl b
 | .int i=>v=.int i
 | .str x=>v=.str x
 | .ty n=>v=.ty n
 | .tup ws=>∃ a vs,v=.ref a/\F a=some (.tup vs)/\Reps K F vs ws
 | .lst ws=>∃ a vs,v=.ref a/\F a=some (.lst vs)/\Reps K F vs ws
 | .scr ws=>∃ a vs,v=.ref a/\SqL K F a vs/\Reps K F vs ws
 | .exc _ _=>True
 | .cls _=>True
def Rep.inv {v:V} {w:W} (r:Rep K F v w):DR K F v w:=
 @Rep.rec K F (fun v w _=>DR K F v w) (fun _ _ _=>True) rfl rfl rfl rfl rfl (fun h r _=>⟨_,_,rfl,h,r⟩) (fun h r _=>⟨_,_,rfl,h,r⟩) (fun h r _=>⟨_,_,rfl,h,r⟩) (fun _ _ _ _ _=>trivial) (fun _=>trivial) trivial (fun _ _ _ _=>trivial) v w r
def vX (K:Frag) (F:Hp) (vs:List V):List W->Prop
 | []=>vs = []
 | w::ws=>∃ v us,vs=v::us/\Rep K F v w/\Reps K F us ws
def Reps.inv {vs:List V} {ws:List W} (r:Reps K F vs ws):vX K F vs ws:=
 Reps.ind (P:=fun vs ws=>vX K F vs ws) rfl (fun h t _=>⟨_,_,rfl,h,t⟩) r
def Reps.length {vs:List V} {ws:List W} (r:Reps K F vs ws):vs.length=ws.length:=
 Reps.ind (P:=fun vs ws=>vs.length=ws.length) rfl (fun _ _ h=>congrArg (·+1) h) r
def Reps.get {vs:List V} {ws:List W} {i:Nat} {w:W} (r:Reps K F vs ws):ws[i]?=some w->∃ v,vs[i]?=some v/\Rep K F v w:=
 Reps.ind (P:=fun vs ws=>∀ (i:Nat) (w:W),ws[i]?=some w->∃ v,vs[i]?=some v/\Rep K F v w) (fun i w e=>by cases e) (fun h _ b i w e=>by
  cases i with
  | zero=>cases e; exact ⟨_,rfl,h⟩
  | succ i=>exact b i w e) r i w
def Reps.get' {vs:List V} {ws:List W} {i:Nat} {v:V} (r:Reps K F vs ws):vs[i]?=some v->∃ w,ws[i]?=some w/\Rep K F v w:=
 Reps.ind (P:=fun vs ws=>∀ (i:Nat) (v:V),vs[i]?=some v->∃ w,ws[i]?=some w/\Rep K F v w) (fun i w e=>by cases e) (fun h _ b i w e=>by
  cases i with
  | zero=>cases e; exact ⟨_,rfl,h⟩
  | succ i=>exact b i w e) r i v
def Reps.append {vs us:List V} {ws xs:List W} (r:Reps K F vs ws) (s:Reps K F us xs):Reps K F (vs++us) (ws++xs):=
 Reps.ind (P:=fun vs ws=>Reps K F (vs++us) (ws++xs)) s (fun h _ b=>.cons h b) r
def Reps.take {vs:List V} {ws:List W} (n:Nat) (r:Reps K F vs ws):Reps K F (vs.take n) (ws.take n):=
 Reps.ind (P:=fun vs ws=>∀ n,Reps K F (vs.take n) (ws.take n)) (fun n=>by simpa using .nil) (fun h _ b n=>by
  cases n with
  | zero=>exact .nil
  | succ n=>exact .cons h (b n)) r n
def Reps.drop {vs:List V} {ws:List W} (n:Nat) (r:Reps K F vs ws):Reps K F (vs.drop n) (ws.drop n):=
 Reps.ind (P:=fun vs ws=>∀ n,Reps K F (vs.drop n) (ws.drop n)) (fun n=>by simpa using .nil) (fun h r b n=>by
  cases n with
  | zero=>exact .cons h r
  | succ n=>exact b n) r n
def Reps.reverse {vs:List V} {ws:List W} (r:Reps K F vs ws):Reps K F vs.reverse ws.reverse:=by
 induction r using Reps.rec (motive_1:=fun _ _ _=>True) with
 | nil=>exact .nil
 | cons h _ _ ih=>rw [qK4,qK4]; exact Reps.append ih (.cons h .nil)
 | _=>trivial
def Reps.snoc {vs:List V} {ws:List W} {v:V} {w:W} (r:Reps K F vs ws) (h:Rep K F v w):Reps K F (vs ++ [v]) (ws ++ [w]):=r.append (.cons h .nil)
end
mutual
def noL:W->Bool
 | .lst _=>false
 | .scr _=>false
 | .tup ws=>m5 ws
 | _=>true
def m5:List W->Bool
 | []=>true
 | w::ws=>noL w&&m5 ws
end
def isL:HO->Bool
 | .lst _=>true
 | .dT _=>true
 | .dK _=>true
 | .frz _ (.lst _)=>true
 | _=>false
def join (H0 G:Hp):Hp:=fun a=>match H0 a with
 | some o=>if isL o then some o else G a
 | none=>G a
inductive Sl where
 | un | val (w:W) | par (w:W) | own (ws:List W) | dic (ks:List (List Int)) | dik (ks:List Int) | iop (p:Addr) (ws:List W) | hz (w:W)
abbrev Rho:=List Sl
def gC (G:Hp):Hp:=fun a=>match G a with
 | some o=>if isL o then none else some o
 | none=>none
def ad {G G':Hp} (h:Same G G'):Same (gC G) (gC G'):=fun a o e=>by
 unfold gC at e ⊢
 cases q:G a with
 | none=>rw [q] at e; cases e
 | some u=>rw [q] at e; rw [h a u q]; exact e
def uj {G:Hp}:Same (gC G) G:=fun a o e=>by
 unfold gC at e
 cases q:G a with
 | none=>rw [q] at e; cases e
 | some u=>
  rw [q] at e
  dsimp only at e
  cases hl:isL u
  ·rw [hl] at e; exact e
  ·rw [hl] at e; cases e
def SlR (K:Frag) (H0 G H:Hp):Sl->Option V->Prop
 | .un,_=>True
 | .val w,o=>∃ v,o=some v/\Rep K G v w
 | .par w,o=>∃ v,o=some v/\Rep K (join H0 G) v w
 | .own ws,o=>∃ a vs,o=some (.ref a)/\H a=some (.lst vs)/\G a=none/\H0 a=none/\Reps K G vs ws
 | .dic ks,o=>∃ (a:Addr) (Gm:List (List Key×V)),o=some (.ref a)/\H a=some (.dT Gm)/\G a=none/\H0 a=none/\Gm.map (·.1)=ks.map fun k=>k.map Sum.inl
 | .dik ks,o=>∃ (a:Addr) (Gm:List (Key×V)),o=some (.ref a)/\H a=some (.dK Gm)/\G a=none/\H0 a=none/\Gm.map (·.1)=ks.map Sum.inl
 | .iop p ws,o=>o=some (.ref p)/\∃ vs,H0 p=some (.lst vs)/\Reps K G vs ws
 | .hz w,o=>∃ v,o=some v/\Rep K (join H0 (gC G)) v w
structure PIv (K:Frag) (H0 G:Hp) (ρ:Rho) (σ:St) (H:Hp):Prop where
 g0:∀ a o,H0 a=some o->isL o=false->G a=some o
 gl:∀ a o,H0 a=some o->isL o=true->G a=none
 gh:Same G H
 hh:Same H0 H
 len:ρ.length=σ.length
 sl:∀ (i:Nat) (x:Sl) (o:Option V),ρ[i]?=some x->σ[i]?=some o->SlR K H0 G H x o
 ne:∀ (i j:Nat) (ws us:List W) (a:Addr),i≠j->ρ[i]?=some (.own ws)->ρ[j]?=some (.own us)->σ[i]?=some (some (.ref a))->σ[j]?≠some (some (.ref a))
structure Ext (G H G' H':Hp):Prop where
 gg:Same G G'
 hh:Same H H'
 gh:Same G' H'
 keep:∀ a o,H a=some o->isL o=true->G a=none->G' a=none
def Ext.refl {G H:Hp} (h:Same G H):Ext G H G H:=⟨Same.refl G,Same.refl H,h,fun _ _ _ _ e=>e⟩
def Ext.trans {G H G1 H1 G2 H2:Hp} (a:Ext G H G1 H1) (b:Ext G1 H1 G2 H2):Ext G H G2 H2:=
 ⟨a.gg.trans b.gg,a.hh.trans b.hh,b.gh,fun x o h l e=>b.keep x o (a.hh x o h) l (a.keep x o h l e)⟩
section
variable {K:Frag} {H0 G H G' H':Hp} {ρ:Rho} {σ:St}
def u9 (h:Same G G'):Same (join H0 G) (join H0 G'):=fun a o e=>by
 unfold join at e ⊢
 cases q:H0 a with
 | none=>rw [q] at e; exact h a o e
 | some u=>
  rw [q] at e
  dsimp only at e ⊢
  by_cases hl:isL u=true
  ·rw [qA1 hl] at e ⊢; exact e
  ·rw [qA3 hl] at e ⊢; exact h a o e
def PIv.G_join (I:PIv K H0 G ρ σ H):Same G (join H0 G):=fun a o e=>by
 unfold join
 cases q:H0 a with
 | none=>exact e
 | some u=>
  dsimp only
  by_cases hl:isL u=true
  ·rw [I.gl a u q hl] at e; cases e
  ·rw [qA3 hl]; exact e
def PIv.join_H (I:PIv K H0 G ρ σ H):Same (join H0 G) H:=fun a o e=>by
 unfold join at e
 cases q:H0 a with
 | none=>rw [q] at e; exact I.gh a o e
 | some u=>
  rw [q] at e
  dsimp only at e
  by_cases hl:isL u=true
  ·rw [qA1 hl] at e; cases e; exact I.hh a _ q
  ·rw [qA3 hl] at e; exact I.gh a o e
def PIv.ext (I:PIv K H0 G ρ σ H) (x:Ext G H G' H'):PIv K H0 G' ρ σ H' where
 g0 a o e l:=x.gg a o (I.g0 a o e l)
 gl a o e l:=x.keep a o (I.hh a o e) l (I.gl a o e l)
 gh:=x.gh
 hh:=I.hh.trans x.hh
 len:=I.len
 sl i s o h1 h2:=by
  have:=I.sl i s o h1 h2
  cases s with
  | un=>trivial
  | val w=>obtain ⟨v,e,r⟩:=this; exact ⟨v,e,r.same x.gg⟩
  | par w=>obtain ⟨v,e,r⟩:=this; exact ⟨v,e,r.same (u9 x.gg)⟩
  | own ws=>
   obtain ⟨a,vs,e,h,g,h0,r⟩:=this
   exact ⟨a,vs,e,x.hh a _ h,x.keep a _ h rfl g,h0,r.same x.gg⟩
  | dic ks=>
   obtain ⟨a,Gm,e,h,g,h0,r⟩:=this
   exact ⟨a,Gm,e,x.hh a _ h,x.keep a _ h rfl g,h0,r⟩
  | dik ks=>
   obtain ⟨a,Gm,e,h,g,h0,r⟩:=this
   exact ⟨a,Gm,e,x.hh a _ h,x.keep a _ h rfl g,h0,r⟩
  | iop p ws=>
   obtain ⟨e,vs,h,r⟩:=this
   exact ⟨e,vs,h,r.same x.gg⟩
  | hz w=>obtain ⟨v,e,r⟩:=this; exact ⟨v,e,r.same (u9 (ad x.gg))⟩
 ne:=I.ne
def eL {a:Addr} {o:HO} (h:join H0 G a=some o) (l:isL o=false):G a=some o:=by
 unfold join at h
 cases q:H0 a with
 | none=>rw [q] at h; exact h
 | some u=>
  rw [q] at h
  dsimp only at h
  by_cases hl:isL u=true
  ·rw [qA1 hl] at h; cases h; rw [hl] at l; cases l
  ·rw [qA3 hl] at h; exact h
def XD.clean {od:Option Addr}:∀ {i:Option Int},XD (join H0 G) od i->XD G od i
 | none,h=>h
 | some _,⟨d,h1,h2⟩=>⟨d,h1,eL h2 rfl⟩
def Rep.clean (I:PIv K H0 G ρ σ H) {v:V} {w:W} (r:Rep K (join H0 G) v w):noL w=true->Rep K G v w:=
 @Rep.rec K (join H0 G) (fun v w _=>noL w=true->Rep K G v w) (fun vs ws _=>m5 ws=true->Reps K G vs ws) (fun _=>.non) (fun _=>.bl) (fun _=>.int) (fun _=>.str) (fun _=>.ty)
  (fun h _ r n=>.tup (eL h rfl) (r n)) (fun _ _ _ n=>by cases n) (fun _ _ _ n=>by cases n) (fun h1 h2 h3 h4 h5 _=>.exc (eL h1 rfl) h2 h3 h4 (XD.clean h5)) (fun h _=>.cls h) (fun _=>.nil)
  (fun _ _ a b n=>by rw [m5,qG8] at n; exact .cons (a n.1) (b n.2)) v w r
def Reps.clean (I:PIv K H0 G ρ σ H) {vs:List V} {ws:List W} (r:Reps K (join H0 G) vs ws):m5 ws=true->Reps K G vs ws:=
 @Reps.rec K (join H0 G) (fun _ _ _=>True) (fun vs ws _=>m5 ws=true->Reps K G vs ws) trivial trivial trivial trivial trivial (fun _ _ _=>trivial) (fun _ _ _=>trivial) (fun _ _ _=>trivial) (fun _ _ _ _ _=>trivial) (fun _=>trivial) (fun _=>.nil)
  (fun h _ _ b n=>by rw [m5,qG8] at n; exact .cons (Rep.clean I h n.1) (b n.2)) vs ws r
end
structure XW where
 cls:Str
 at_:Option Int
inductive R (α:Type) where
 | ok (a:α) | ex (e:XW) | stuck
def R.bind {α β:Type} (x:R α) (f:α->R β):R β:=match x with
 | .ok a=>f a
 | .ex e=>.ex e
 | .stuck=>.stuck
instance:Monad R where
 pure:=R.ok
 bind:=R.bind
@[simp] theorem R.ok_bind {α β:Type} (a:α) (f:α->R β):((R.ok a:R α)>>=f)=f a:=rfl
@[simp] theorem R.stuck_bind {α β:Type} (f:α->R β):((R.stuck:R α)>>=f)=.stuck:=rfl
@[simp] theorem R.ex_bind {α β:Type} (e:XW) (f:α->R β):((R.ex e:R α)>>=f)=.ex e:=rfl
@[simp] theorem R.pure_eq {α:Type} (a:α):(pure a:R α)=.ok a:=rfl
inductive Mode where
 | F | V | U | C | B
def Md (K:Frag) (H0 H G' H':Hp) (v:V) (w:W):Mode->Prop
 | .V=>Rep K G' v w
 | .U=>Rep K (join H0 G') v w
 | .F=>match w with
  | .lst ws=>∃ a vs,v=.ref a/\H' a=some (.lst vs)/\G' a=none/\H a=none/\Reps K G' vs ws
  | w=>Rep K G' v w
 | .C=>Rep K G' v w\/∃ a vs ws,v=.ref a/\w=.lst ws/\H' a=some (.lst vs)/\Reps K G' vs ws
 | .B=>Rep K (join H0 G') v w\/∃ a vs ws,v=.ref a/\w=.lst ws/\H' a=some (.lst vs)/\Reps K G' vs ws
abbrev EXT:=XW->Hp->Prop
def Out {α β:Type} (EX:EXT) (G H:Hp) (md:α->β->Hp->Hp->Prop) (r:R α) (Q:β->Hp->Prop):Prop:=match r with
 | .ok w=>∀ v G' H',Ext G H G' H'->md w v G' H'->Q v H'
 | .ex e=>∀ H',Same H H'->EX e H'
 | .stuck=>False
abbrev mdW (K:Frag) (d:Mode) (H0 H:Hp):W->V->Hp->Hp->Prop:=fun w v G' H'=>Md K H0 H G' H' v w d
abbrev mdB:Bool->Bool->Hp->Hp->Prop:=fun b c _ _=>c=b
inductive MdA (K:Frag) (d:Mode) (H0 H G' H':Hp):List W->List V->Prop where
 | nil:MdA K d H0 H G' H' [] []
 | cons {w:W} {v:V} {ws:List W} {vs:List V}:Md K H0 H G' H' v w d->MdA K d H0 H G' H' ws vs->MdA K d H0 H G' H' (w::ws) (v::vs)
def MdAI (K:Frag) (d:Mode) (H0 H G' H':Hp) (vs:List V):List W->Prop
 | []=>vs = []
 | w::ws=>∃ v us,vs=v::us/\Md K H0 H G' H' v w d/\MdA K d H0 H G' H' ws us
abbrev mdA (K:Frag) (d:Mode) (H0 H:Hp):List W->List V->Hp->Hp->Prop:=fun ws vs G' H'=>MdA K d H0 H G' H' ws vs
def tM (K:Frag) (EX:EXT) (d:Mode) (m:Rho->R W):TE:=fun σ H Q=>∃ H0 G ρ,PIv K H0 G ρ σ H/\Out EX G H (mdW K d H0 H) (m ρ) Q
def tT (K:Frag) (EX:EXT) (m:Rho->R Bool):TT:=fun σ H Q=>∃ H0 G ρ,PIv K H0 G ρ σ H/\Out EX G H mdB (m ρ) Q
def tA (K:Frag) (EX:EXT) (d:Mode) (m:Rho->R (List W)):TA:=fun σ H Q=>∃ H0 G ρ,PIv K H0 G ρ σ H/\Out EX G H (mdA K d H0 H) (m ρ) Q
section
variable {K:Frag} {EX:EXT} {H0 G H G1 H1 G2 H2:Hp} {ρ:Rho} {σ:St}
def Out.bind {α β γ δ:Type} {md:α->β->Hp->Hp->Prop} {md':γ->δ->Hp->Hp->Prop} {m:R α} {k:α->R γ} {Q:δ->Hp->Prop} {Q1:β->Hp->Prop} (o:Out EX G H md' (m>>=k) Q)
  (h:∀ x G1 H1 w,Ext G H G1 H1->md w x G1 H1->Out EX G1 H1 md' (k w) Q->Q1 x H1):Out EX G H md m Q1:=by
 cases m with
 | ok w=>
  intro v G' H' e d
  refine h v G' H' w e d ?_
  rw [R.ok_bind] at o
  revert o
  cases k w with
  | ok u=>exact fun o v2 G2 H2 e2 d2=>o v2 G2 H2 (e.trans e2) d2
  | ex x=>exact fun o H2 s2=>o H2 (e.hh.trans s2)
  | stuck=>exact fun o=>o
 | ex x=>exact o
 | stuck=>exact o
def Md.start {v:V} {w:W} {d:Mode} (s:Same H H1) (h:Md K H0 H1 G2 H2 v w d):Md K H0 H G2 H2 v w d:=by
 cases d with
 | F=>
  cases w with
  | lst ws=>obtain ⟨a,vs,e,h1,h2,h3,r⟩:=h; exact ⟨a,vs,e,h1,h2,s.free h3,r⟩
  | _=>exact h
 | _=>exact h
def Md.move {v:V} {w:W} {d:Mode} (x:Ext G1 H1 G2 H2) (h:Md K H0 H G1 H1 v w d):Md K H0 H G2 H2 v w d:=by
 cases d with
 | V=>exact Rep.same x.gg h
 | U=>exact Rep.same (u9 x.gg) h
 | F=>
  cases w with
  | lst ws=>obtain ⟨a,vs,e,h1,h2,h3,r⟩:=h; exact ⟨a,vs,e,x.hh _ _ h1,x.keep _ _ h1 rfl h2,h3,r.same x.gg⟩
  | non=>exact Rep.same x.gg h
  | bl _=>exact Rep.same x.gg h
  | int _=>exact Rep.same x.gg h
  | str _=>exact Rep.same x.gg h
  | ty _=>exact Rep.same x.gg h
  | tup _=>exact Rep.same x.gg h
  | scr _=>exact Rep.same x.gg h
  | exc _ _=>exact Rep.same x.gg h
  | cls _=>exact Rep.same x.gg h
 | C=>
  rcases h with h | ⟨a,vs,ws,e,e2,h1,r⟩
  ·exact .inl (h.same x.gg)
  ·exact .inr ⟨a,vs,ws,e,e2,x.hh _ _ h1,r.same x.gg⟩
 | B=>
  rcases h with h | ⟨a,vs,ws,e,e2,h1,r⟩
  ·exact .inl (h.same (u9 x.gg))
  ·exact .inr ⟨a,vs,ws,e,e2,x.hh _ _ h1,r.same x.gg⟩
def Md.CB {v:V} {w:W} (I:PIv K H0 G1 ρ σ H1) (h:Md K H0 H G1 H1 v w .C):Md K H0 H G1 H1 v w .B:=by
 rcases h with h | h
 ·exact .inl (h.same I.G_join)
 ·exact .inr h
def sca:W->Bool
 | .tup _=>false
 | .scr _=>false
 | .lst _=>false
 | _=>true
def Md.sca {v:V} {w:W} (hs:sca w=true) (r:∀ F,Rep K F v w) (d:Mode):Md K H0 H G1 H1 v w d:=by
 cases d with
 | V=>exact r _
 | U=>exact r _
 | C=>exact .inl (r _)
 | B=>exact .inl (r _)
 | F=>cases w <;> first | exact r _ | cases hs
def Md.repB {v:V} {w:W} (h:Md K H0 H G1 H1 v w .B) (n:∀ us,w≠.lst us):Rep K (join H0 G1) v w:=Or.elim h id fun zz70=>by obtain ⟨_,_,us,_,e,_⟩:=zz70; exact absurd e (n us)
def Md.repC {v:V} {w:W} (h:Md K H0 H G1 H1 v w .C) (n:∀ us,w≠.lst us):Rep K G1 v w:=Or.elim h id fun zz71=>by obtain ⟨_,_,us,_,e,_⟩:=zz71; exact absurd e (n us)
def Md.lstB {v:V} {ws:List W} (I:PIv K H0 G1 ρ σ H1) (h:Md K H0 H G1 H1 v (.lst ws) .B):∃ a vs,v=.ref a/\H1 a=some (.lst vs)/\Reps K (join H0 G1) vs ws:=by
 rcases h with h | ⟨a,vs,us,e,e2,h1,r⟩
 ·obtain ⟨a,vs,e,s,r⟩:=h.inv; exact ⟨a,vs,e,I.join_H _ _ s,r⟩
 ·rw [W.lst.inj e2]; exact ⟨a,vs,e,h1,r.same I.G_join⟩
def Md.scrB {v:V} {ws:List W} (I:PIv K H0 G1 ρ σ H1) (h:Md K H0 H G1 H1 v (.scr ws) .B):∃ a vs,v=.ref a/\SqL K H1 a vs/\Reps K (join H0 G1) vs ws:=by
 obtain ⟨a,vs,e,s,r⟩:=(h.repB fun _=>W.noConfusion).inv; exact ⟨a,vs,e,Same.seq I.join_H s,r⟩
def Md.lstC {v:V} {ws:List W} (I:PIv K H0 G1 ρ σ H1) (h:Md K H0 H G1 H1 v (.lst ws) .C):∃ a vs,v=.ref a/\H1 a=some (.lst vs)/\Reps K G1 vs ws:=by
 rcases h with h | ⟨a,vs,us,e,e2,h1,r⟩
 ·obtain ⟨a,vs,e,s,r⟩:=h.inv; exact ⟨a,vs,e,I.gh _ _ s,r⟩
 ·rw [W.lst.inj e2]; exact ⟨a,vs,e,h1,r⟩
def Md.tupB {v:V} {ws:List W} (I:PIv K H0 G1 ρ σ H1) (h:Md K H0 H G1 H1 v (.tup ws) .B):∃ a vs,v=.ref a/\H1 a=some (.tup vs)/\Reps K (join H0 G1) vs ws:=by
 obtain ⟨a,vs,e,s,r⟩:=(h.repB fun _=>W.noConfusion).inv; exact ⟨a,vs,e,I.join_H _ _ s,r⟩
def Md.tupC {v:V} {ws:List W} (I:PIv K H0 G1 ρ σ H1) (h:Md K H0 H G1 H1 v (.tup ws) .C):∃ a vs,v=.ref a/\H1 a=some (.tup vs)/\Reps K G1 vs ws:=by
 obtain ⟨a,vs,e,s,r⟩:=(h.repC fun _=>W.noConfusion).inv; exact ⟨a,vs,e,I.gh _ _ s,r⟩
def Md.intB {v:V} {i:Int} (h:Md K H0 H G1 H1 v (.int i) .B):v=.int i:=(h.repB fun _=>W.noConfusion).inv
def Md.blB {v:V} {i:Bool} (h:Md K H0 H G1 H1 v (.bl i) .B):v=.bl i:=(h.repB fun _=>W.noConfusion).inv
def Md.strB {v:V} {i:Str} (h:Md K H0 H G1 H1 v (.str i) .B):v=.str i:=(h.repB fun _=>W.noConfusion).inv
def Md.nonB {v:V} (h:Md K H0 H G1 H1 v .non .B):v=.non:=(h.repB fun _=>W.noConfusion).inv
def xu {m:Rho->R W} {Q:VK} (h:tM K EX .V m σ H Q):tM K EX .F m σ H Q:=by
 obtain ⟨H0,G,ρ,I,o⟩:=h
 refine ⟨H0,G,ρ,I,?_⟩
 revert o
 cases m ρ with
 | ex e=>exact id
 | stuck=>exact id
 | ok w=>
  intro o v G' H' e d
  cases w with
  | lst ws=>
   obtain ⟨a,vs,rfl,h1,h2,h3,r⟩:=d
   have s1:Same G' (upd G' a (.lst vs)):=fun b o q=>by rw [c9 (d8 q h2)]; exact q
   refine o _ (upd G' a (.lst vs)) H' ⟨e.gg.trans s1,e.hh,fun b o q=>?_,fun b o q l g=>?_⟩ (.lst l4 (r.same s1))
   ·by_cases hb:b=a
    ·subst hb; rw [l4] at q; cases q; exact h1
    ·rw [c9 hb] at q; exact e.gh b o q
   ·rw [c9 (d8 q h3)]; exact e.keep b o q l g
  | _=>exact o v G' H' e d
def xq {m:Rho->R W} {Q:VK} (h:tM K EX .U m σ H Q):tM K EX .V m σ H Q:=by
 obtain ⟨H0,G,ρ,I,o⟩:=h
 refine ⟨H0,G,ρ,I,?_⟩
 revert o
 cases m ρ with
 | ex e=>exact id
 | stuck=>exact id
 | ok w=>exact fun o v G' H' e d=>o v G' H' e (Rep.same (I.ext e).G_join d)
def xr {m:Rho->R W} {Q:VK} (h:tM K EX .C m σ H Q):tM K EX .V m σ H Q:=by
 obtain ⟨H0,G,ρ,I,o⟩:=h
 refine ⟨H0,G,ρ,I,?_⟩
 revert o
 cases m ρ with
 | ex e=>exact id
 | stuck=>exact id
 | ok w=>exact fun o v G' H' e d=>o v G' H' e (.inl d)
def xt {m:Rho->R W} {Q:VK} (h:tM K EX .B m σ H Q):tM K EX .U m σ H Q:=by
 obtain ⟨H0,G,ρ,I,o⟩:=h
 refine ⟨H0,G,ρ,I,?_⟩
 revert o
 cases m ρ with
 | ex e=>exact id
 | stuck=>exact id
 | ok w=>exact fun o v G' H' e d=>o v G' H' e (.inl d)
def xw {m:Rho->R W} {Q:VK} (h:tM K EX .B m σ H Q):tM K EX .C m σ H Q:=by
 obtain ⟨H0,G,ρ,I,o⟩:=h
 refine ⟨H0,G,ρ,I,?_⟩
 revert o
 cases m ρ with
 | ex e=>exact id
 | stuck=>exact id
 | ok w=>exact fun o v G' H' e d=>o v G' H' e (Md.CB (H:=H) (I.ext e) d)
def xv {m:Rho->R W} {Q:VK} (h:tM K EX .C m σ H Q):tM K EX .F m σ H Q:=by
 obtain ⟨H0,G,ρ,I,o⟩:=h
 refine ⟨H0,G,ρ,I,?_⟩
 revert o
 cases m ρ with
 | ex e=>exact id
 | stuck=>exact id
 | ok w=>
  intro o v G' H' e d
  cases w with
  | lst ws=>obtain ⟨a,vs,rfl,h1,h2,h3,r⟩:=d; exact o _ G' H' e (.inr ⟨a,vs,ws,rfl,rfl,h1,r⟩)
  | _=>exact o v G' H' e (.inl d)
def chk (w:W):R W:=if noL w then .ok w else .stuck
def nX {v:V} {w:W} (n:noL w=true) (r:Rep K G1 v w):Md K H0 H G1 H1 v w .F:=by
 cases w with
 | lst ws=>cases n
 | _=>exact r
def jX {m:Rho->R W} {Q:VK} {d:Mode} (hd:d=.F\/d=.V) (h:tM K EX d (fun ρ=>m ρ>>=chk) σ H Q):tM K EX .U m σ H Q:=by
 obtain ⟨H0,G,ρ,I,o⟩:=h
 refine ⟨H0,G,ρ,I,Out.bind o fun x G1 H1 w e m1 o1=>?_⟩
 unfold chk at o1
 by_cases n:noL w=true
 ·rw [qA1 n] at o1
  have r:=Rep.clean (I.ext e) m1 n
  refine o1 x G1 H1 (Ext.refl e.gh) ?_
  rcases hd with rfl | rfl
  ·exact nX n r
  ·exact r
 ·rw [qA3 n] at o1; exact o1.elim
end
end TP
namespace TP
open PySem L2
section
variable {K:Frag} {EX:EXT} {H0 G H G1 H1 G2 H2:Hp} {ρ:Rho} {σ:St} {d:Mode} {Q:VK}
def dB {v:V} {w:W} (hs:sca w=true) (r:∀ F,Rep K F v w) (h:tM K EX d (fun _=>.ok w) σ H Q):tC v σ H Q:=by
 obtain ⟨H0,G,ρ,I,o⟩:=h
 exact o v G H (Ext.refl I.gh) (Md.sca hs r d)
def b7 (d:Mode) (i:Nat):Rho->R W:=fun ρ=>match ρ[i]? with
 | some (.val w)=>(match d with | .F=>chk w | _=>.ok w)
 | some (.par w)=>(match d with | .F=>chk w | .V=>chk w | .C=>chk w | _=>.ok w)
 | some (.own ws)=>(match d with | .C=>.ok (.lst ws) | .B=>.ok (.lst ws) | _=>.stuck)
 | some (.iop _ ws)=>(match d with | .B=>.ok (.lst ws) | .U=>.ok (.lst ws) | _=>.stuck)
 | some (.hz w)=>(match d with | .B=>.ok w | .U=>.ok w | _=>.stuck)
 | _=>.stuck
def Out.chk {α:Type} {v:V} {w:W} {md:W->α->Hp->Hp->Prop} {Q:α->Hp->Prop} (o:Out EX G H md (chk w) Q):noL w=true/\Out EX G H md (.ok w) Q:=by
 unfold TP.chk at o
 by_cases n:noL w=true
 ·rw [qA1 n] at o; exact ⟨n,o⟩
 ·rw [qA3 n] at o; exact o.elim
def oG {i:Nat} (h:tM K EX d (b7 d i) σ H Q):bH i σ H Q:=by
 obtain ⟨H0,G,ρ,I,o⟩:=h
 unfold b7 at o
 cases e:ρ[i]? with
 | none=>rw [e] at o; exact o.elim
 | some s=>
  rw [e] at o
  have hi:i<σ.length:=by rw [<- I.len]; exact (qA7.mp e).1
  have es:σ[i]?=some σ[i]:=by simp
  have r:=I.sl i s _ e es
  cases s with
  | un=>exact o.elim
  | val w=>
   obtain ⟨v,ev,r⟩:=r
   refine ⟨v,by rw [es,ev],?_⟩
   cases d with
   | F=>obtain ⟨n,o⟩:=Out.chk (v:=v) o; exact o v G H (Ext.refl I.gh) (nX n r)
   | V=>exact o v G H (Ext.refl I.gh) r
   | U=>exact o v G H (Ext.refl I.gh) (r.same I.G_join)
   | C=>exact o v G H (Ext.refl I.gh) (.inl r)
   | B=>exact o v G H (Ext.refl I.gh) (.inl (r.same I.G_join))
  | par w=>
   obtain ⟨v,ev,r⟩:=r
   refine ⟨v,by rw [es,ev],?_⟩
   cases d with
   | F=>obtain ⟨n,o⟩:=Out.chk (v:=v) o; exact o v G H (Ext.refl I.gh) (nX n (Rep.clean I r n))
   | V=>obtain ⟨n,o⟩:=Out.chk (v:=v) o; exact o v G H (Ext.refl I.gh) (Rep.clean I r n)
   | U=>exact o v G H (Ext.refl I.gh) r
   | C=>obtain ⟨n,o⟩:=Out.chk (v:=v) o; exact o v G H (Ext.refl I.gh) (.inl (Rep.clean I r n))
   | B=>exact o v G H (Ext.refl I.gh) (.inl r)
  | own ws=>
   obtain ⟨a,vs,ev,ha,hg,h0,r⟩:=r
   refine ⟨.ref a,by rw [es,ev],?_⟩
   cases d with
   | F=>exact o.elim
   | V=>exact o.elim
   | U=>exact o.elim
   | C=>exact o _ G H (Ext.refl I.gh) (.inr ⟨a,vs,ws,rfl,rfl,ha,r⟩)
   | B=>exact o _ G H (Ext.refl I.gh) (.inr ⟨a,vs,ws,rfl,rfl,ha,r⟩)
  | dic ks=>exact o.elim
  | dik ks=>exact o.elim
  | hz w=>
   obtain ⟨v,ev,r⟩:=r
   refine ⟨v,by rw [es,ev],?_⟩
   have rj:=r.same (u9 (H0:=H0) (uj (G:=G)))
   cases d with
   | F=>exact o.elim
   | V=>exact o.elim
   | C=>exact o.elim
   | U=>exact o v G H (Ext.refl I.gh) rj
   | B=>exact o v G H (Ext.refl I.gh) (.inl rj)
  | iop p ws=>
   obtain ⟨ev,vs,h0,r⟩:=r
   refine ⟨.ref p,by rw [es,ev],?_⟩
   have rj:Rep K (join H0 G) (.ref p) (.lst ws):=by
    refine .lst (vs:=vs) ?_ (r.same I.G_join)
    unfold join
    rw [h0]; rfl
   cases d with
   | F=>exact o.elim
   | V=>exact o.elim
   | U=>exact o _ G H (Ext.refl I.gh) rj
   | C=>exact o.elim
   | B=>exact o _ G H (Ext.refl I.gh) (.inl rj)
def Op2 (K:Frag) (b d:Mode) (r:R2) (f:W->W->R W):Prop:=∀ (EX:EXT) (H0 Hs G H:Hp) (ρ:Rho) (σ:St) (Ha Hb:Hp) (x y:V) (u v:W) (Q:VK),PIv K H0 G ρ σ H->Same Hs H->Md K H0 Ha G H x u b->Md K H0 Hb G H y v b ->
 Out EX G H (mdW K d H0 Hs) (f u v) Q->r x y H Q
def lq {b:Mode} {r:R2} {f:W->W->R W} {ma mb:Rho->R W} (hr:Op2 K b d r f) (h:tM K EX d (fun ρ=>ma ρ>>=fun x=>mb ρ>>=fun y=>f x y) σ H Q):tOp r (tM K EX b ma) (tM K EX b mb) σ H Q:=by
 obtain ⟨H0,G,ρ,I,o⟩:=h
 refine ⟨H0,G,ρ,I,Out.bind o fun x G1 H1 u e1 m1 o1=>⟨H0,G1,ρ,I.ext e1,Out.bind o1 fun y G2 H2 v e2 m2 o2=>?_⟩⟩
 exact hr EX H0 H G2 H2 ρ σ H H1 x y u v Q ((I.ext e1).ext e2) (e1.hh.trans e2.hh) (m1.move e2) m2 o2
def Op1 (K:Frag) (b d:Mode) (r:V->Hp->VK->Prop) (f:W->R W):Prop:=∀ (EX:EXT) (H0 Hs G H:Hp) (ρ:Rho) (σ:St) (Ha:Hp) (x:V) (u:W) (Q:VK),PIv K H0 G ρ σ H->Same Hs H->Md K H0 Ha G H x u b ->
 Out EX G H (mdW K d H0 Hs) (f u) Q->r x H Q
def c_un {b:Mode} {r:V->Hp->VK->Prop} {f:W->R W} {ma:Rho->R W} (hr:Op1 K b d r f) (h:tM K EX d (fun ρ=>ma ρ>>=fun x=>f x) σ H Q):tUn r (tM K EX b ma) σ H Q:=by
 obtain ⟨H0,G,ρ,I,o⟩:=h
 exact ⟨H0,G,ρ,I,Out.bind o fun x G1 H1 u e1 m1 o1=>hr EX H0 H G1 H1 ρ σ H x u Q (I.ext e1) e1.hh m1 o1⟩
def fI (C:Int->Int->Prop) [∀ i j,Decidable (C i j)] (g:Int->Int->W):W->W->R W
 | .int i,.int j=>if C i j then .ok (g i j) else .stuck
 | _,_=>.stuck
def fI0 (g:Int->Int->W):W->W->R W
 | .int i,.int j=>.ok (g i j)
 | _,_=>.stuck
def j7 {C:Int->Int->Prop} [∀ i j,Decidable (C i j)] {g:Int->Int->W} {gv:Int->Int->V} (hs:∀ i j,sca (g i j)=true) (hg:∀ i j F,Rep K F (gv i j) (g i j)):Op2 K .B d (rI C gv) (fI C g):=by
 intro EX H0 Hs G H ρ σ Ha Hb x y u v Q I s mx my o
 cases u <;> first | exact o.elim | skip
 all_goals (cases v <;> first | exact o.elim | skip)
 rename_i i j
 have o':Out EX G H (mdW K d H0 Hs) (if C i j then R.ok (g i j) else .stuck) Q:=o
 by_cases c:C i j
 ·rw [qA1 c] at o'
  exact ⟨i,j,mx.intB,my.intB,c,o' _ G H (Ext.refl I.gh) (Md.sca (hs i j) (hg i j) d)⟩
 ·rw [qA3 c] at o'; exact o'.elim
def fr {g:Int->Int->W} {gv:Int->Int->V} (hs:∀ i j,sca (g i j)=true) (hg:∀ i j F,Rep K F (gv i j) (g i j)):Op2 K .B d (rI0 gv) (fI0 g):=by
 intro EX H0 Hs G H ρ σ Ha Hb x y u v Q I s mx my o
 cases u <;> first | exact o.elim | skip
 all_goals (cases v <;> first | exact o.elim | skip)
 rename_i i j
 exact ⟨i,j,mx.intB,my.intB,o _ G H (Ext.refl I.gh) (Md.sca (hs i j) (hg i j) d)⟩
def fU (g:Int->W):W->R W
 | .int i=>.ok (g i)
 | _=>.stuck
def jS {g:Int->W} {gv:Int->V} (hs:∀ i,sca (g i)=true) (hg:∀ i F,Rep K F (gv i) (g i)):Op1 K .B d (rU gv) (fU g):=by
 intro EX H0 Hs G H ρ σ Ha x u Q I s mx o
 cases u <;> first | exact o.elim | skip
 rename_i i
 exact ⟨i,mx.intB,o _ G H (Ext.refl I.gh) (Md.sca (hs i) (hg i) d)⟩
def isN:W->Bool
 | .non=>true
 | _=>false
def E7 (neg:Bool):W->W->R W
 | u,.non=>.ok (.bl (if neg then !isN u else isN u))
 | _,_=>.stuck
def qT {b:Mode} (hb:b=.B\/b=.U\/b=.V\/b=.C) {v:V} {w:W} {Hs:Hp} (h:Md K H0 Hs G1 H1 v w b):decide (v=.non)=isN w:=by
 have key:∀ F,Rep K F v w->decide (v=.non)=isN w:=fun F r=>by
  cases r <;> first | rfl | (apply decide_eq_false; intro z; cases z)
 rcases hb with rfl | rfl | rfl | rfl
 ·rcases h with h | ⟨a,vs,ws,rfl,rfl,_⟩
  ·exact key _ h
  ·apply decide_eq_false; intro z; cases z
 ·exact key _ h
 ·exact key _ h
 ·rcases h with h | ⟨a,vs,ws,rfl,rfl,_⟩
  ·exact key _ h
  ·apply decide_eq_false; intro z; cases z
def L9:Op2 K .B d (fun x y H Q=>y=.non/\Q (.bl (decide (x=.non))) H) (E7 false):=by
 intro EX H0 Hs G H ρ σ Ha Hb x y u v Q I s mx my o
 cases v <;> first | exact o.elim | skip
 refine ⟨my.nonB,?_⟩
 rw [qT (.inl rfl) mx]
 exact o _ G H (Ext.refl I.gh) (Md.sca rfl (fun _=>.bl) d)
def cZ:Op2 K .B d (fun x y H Q=>y=.non/\Q (.bl (!decide (x=.non))) H) (E7 true):=by
 intro EX H0 Hs G H ρ σ Ha Hb x y u v Q I s mx my o
 cases v <;> first | exact o.elim | skip
 refine ⟨my.nonB,?_⟩
 rw [qT (.inl rfl) mx]
 exact o _ G H (Ext.refl I.gh) (Md.sca rfl (fun _=>.bl) d)
def toB:W->R Bool
 | .bl b=>.ok b
 | _=>.stuck
def ln {ma:Rho->R W} {Q:Bool->Hp->Prop} (h:tT K EX (fun ρ=>ma ρ>>=toB) σ H Q):nA (tM K EX .B ma) σ H Q:=by
 obtain ⟨H0,G,ρ,I,o⟩:=h
 refine ⟨H0,G,ρ,I,Out.bind o fun x G1 H1 u e1 m1 o1=>?_⟩
 cases u <;> first | exact o1.elim | skip
 rename_i b
 exact ⟨b,m1.blB,o1 b G1 H1 (Ext.refl e1.gh) rfl⟩
def c_tB {ma:Rho->R W} {Q:Bool->Hp->Prop} (h:tT K EX (fun ρ=>ma ρ>>=toB) σ H Q):tB (tM K EX .B ma) σ H Q:=ln h
def rAnd (a b:R Bool):R Bool:=a>>=fun c=>if c then b else .ok false
def rOr (a b:R Bool):R Bool:=a>>=fun c=>if c then .ok true else b
def nP (a:R Bool):R Bool:=a>>=fun c=>.ok (!c)
def Fj {ma mb:Rho->R Bool} {Q:Bool->Hp->Prop} (h:tT K EX (fun ρ=>rAnd (ma ρ) (mb ρ)) σ H Q):zr (tT K EX ma) (tT K EX mb) σ H Q:=by
 obtain ⟨H0,G,ρ,I,o⟩:=h
 refine ⟨H0,G,ρ,I,Out.bind o fun x G1 H1 u e1 m1 o1=>?_⟩
 cases m1
 cases x with
 | true=>exact ⟨H0,G1,ρ,I.ext e1,o1⟩
 | false=>exact o1 false G1 H1 (Ext.refl e1.gh) rfl
def c_or {ma mb:Rho->R Bool} {Q:Bool->Hp->Prop} (h:tT K EX (fun ρ=>rOr (ma ρ) (mb ρ)) σ H Q):tOr (tT K EX ma) (tT K EX mb) σ H Q:=by
 obtain ⟨H0,G,ρ,I,o⟩:=h
 refine ⟨H0,G,ρ,I,Out.bind o fun x G1 H1 u e1 m1 o1=>?_⟩
 cases m1
 cases x with
 | true=>exact o1 true G1 H1 (Ext.refl e1.gh) rfl
 | false=>exact ⟨H0,G1,ρ,I.ext e1,o1⟩
def EY {ma:Rho->R Bool} {Q:Bool->Hp->Prop} (h:tT K EX (fun ρ=>nP (ma ρ)) σ H Q):zl (tT K EX ma) σ H Q:=by
 obtain ⟨H0,G,ρ,I,o⟩:=h
 refine ⟨H0,G,ρ,I,Out.bind o fun x G1 H1 u e1 m1 o1=>?_⟩
 cases m1
 exact o1 _ G1 H1 (Ext.refl e1.gh) rfl
def cR (a b:R W):R W:=a>>=fun x=>toB x>>=fun c=>if c then b else .ok (.bl false)
def jC (a b:R W):R W:=a>>=fun x=>toB x>>=fun c=>if c then .ok (.bl true) else b
def nO (a:R W):R W:=a>>=fun x=>toB x>>=fun c=>.ok (.bl (!c))
def DC {ma mb:Rho->R W} (h:tM K EX d (fun ρ=>cR (ma ρ) (mb ρ)) σ H Q):vx (tM K EX .B ma) (tM K EX d mb) σ H Q:=by
 obtain ⟨H0,G,ρ,I,o⟩:=h
 refine ⟨H0,G,ρ,I,Out.bind o fun x G1 H1 u e1 m1 o1=>?_⟩
 cases u <;> first | exact o1.elim | skip
 rename_i b
 refine ⟨b,m1.blB,?_⟩
 cases b with
 | true=>
  rw [qA1 rfl]
  refine ⟨H0,G1,ρ,I.ext e1,?_⟩
  have o2:Out EX G1 H1 (mdW K d H0 H) (mb ρ) Q:=o1
  revert o2
  cases mb ρ with
  | ok w=>exact fun o2 v G2 H2 e2 m2=>o2 v G2 H2 e2 (m2.start e1.hh)
  | ex _=>exact id
  | stuck=>exact id
 | false=>
  rw [qA3 qA4]
  exact o1 _ G1 H1 (Ext.refl e1.gh) (Md.sca rfl (fun _=>.bl) d)
def Out.restart {r:R W} (s:Same H H1) (o:Out EX G1 H1 (mdW K d H0 H) r Q):Out EX G1 H1 (mdW K d H0 H1) r Q:=by
 revert o
 cases r with
 | ok w=>exact fun o v G2 H2 e2 m2=>o v G2 H2 e2 (m2.start s)
 | ex _=>exact id
 | stuck=>exact id
def c_if {mc:Rho->R Bool} {ma mb:Rho->R W} (h:tM K EX d (fun ρ=>mc ρ>>=fun c=>if c then ma ρ else mb ρ) σ H Q):tIf (tT K EX mc) (tM K EX d ma) (tM K EX d mb) σ H Q:=by
 obtain ⟨H0,G,ρ,I,o⟩:=h
 refine ⟨H0,G,ρ,I,Out.bind o fun x G1 H1 u e1 m1 o1=>?_⟩
 cases m1
 cases x with
 | true=>exact ⟨H0,G1,ρ,I.ext e1,Out.restart e1.hh o1⟩
 | false=>exact ⟨H0,G1,ρ,I.ext e1,Out.restart e1.hh o1⟩
def yD {b:Mode} {r r':R2} {f f':W->W->R W} {ma mb mc:Rho->R W} (hr:Op2 K b .B r f) (Lg:Op2 K b d r' f')
  (h:tM K EX d (fun ρ=>ma ρ>>=fun x=>mb ρ>>=fun y=>f x y>>=fun z=>toB z>>=fun c=>if c then mc ρ>>=fun u=>f' y u else .ok (.bl false)) σ H Q) :
  (fun σ H Q=>tM K EX b ma σ H fun x H1=>tM K EX b mb σ H1 fun y H2=>r x y H2 fun z H3=>∃ k,z=.bl k/\if k=true then tM K EX b mc σ H3 fun u H4=>r' y u H4 Q else Q (.bl false) H3) σ H Q:=by
 obtain ⟨H0,G,ρ,I,o⟩:=h
 refine ⟨H0,G,ρ,I,Out.bind o fun x G1 H1 u e1 m1 o1=>⟨H0,G1,ρ,I.ext e1,Out.bind o1 fun y G2 H2 v e2 m2 o2=>?_⟩⟩
 have I2:=(I.ext e1).ext e2
 refine hr EX H0 H G2 H2 ρ σ H H1 x y u v _ I2 (e1.hh.trans e2.hh) (m1.move e2) m2 (Out.bind o2 fun z G3 H3 wz e3 m3 o3=>?_)
 cases wz <;> first | exact o3.elim | skip
 rename_i k
 refine ⟨k,m3.blB,?_⟩
 cases k with
 | true=>
  rw [qA1 rfl]
  refine ⟨H0,G3,ρ,I2.ext e3,Out.bind (k:=fun u=>f' v u) o3 fun t G4 H4 wt e4 m4 o4=>?_⟩
  exact Lg EX H0 H G4 H4 ρ σ H1 H3 y t v wt Q ((I2.ext e3).ext e4) (((e1.hh.trans e2.hh).trans e3.hh).trans e4.hh) ((m2.move e3).move e4) m4 o4
 | false=>
  rw [qA3 qA4]
  exact o3 _ G3 H3 (Ext.refl e3.gh) (Md.sca rfl (fun _=>.bl) d)
def EZ {QA:List V->Hp->Prop} (h:tA K EX d (fun _=>.ok []) σ H QA):tNil σ H QA:=by
 obtain ⟨H0,G,ρ,I,o⟩:=h
 exact o [] G H (Ext.refl I.gh) .nil
def Dx {ma:Rho->R W} {mr:Rho->R (List W)} {QA:List V->Hp->Prop} (h:tA K EX d (fun ρ=>ma ρ>>=fun x=>mr ρ>>=fun xs=>.ok (x::xs)) σ H QA):Z6 (tM K EX d ma) (tA K EX d mr) σ H QA:=by
 obtain ⟨H0,G,ρ,I,o⟩:=h
 refine ⟨H0,G,ρ,I,Out.bind o fun x G1 H1 u e1 m1 o1=>⟨H0,G1,ρ,I.ext e1,Out.bind o1 fun xs G2 H2 us e2 m2 o2=>?_⟩⟩
 refine o2 (x::xs) G2 H2 (Ext.refl e2.gh) (.cons (m1.move e2) ?_)
 have go:∀ {ws:List W} {vs:List V},MdA K d H0 H1 G2 H2 ws vs->MdA K d H0 H G2 H2 ws vs:=fun {ws vs} q=>by
  induction q with
  | nil=>exact .nil
  | cons a _ ih=>exact .cons (a.start e1.hh) ih
 exact go m2
def MdA.reps {ws:List W} {vs:List V} (h:MdA K .V H0 H G1 H1 ws vs):Reps K G1 vs ws:=
 @MdA.rec K .V H0 H G1 H1 (fun ws vs _=>Reps K G1 vs ws) .nil (fun h _ b=>.cons h b) ws vs h
def MdA.repsU {ws:List W} {vs:List V} (h:MdA K .U H0 H G1 H1 ws vs):Reps K (join H0 G1) vs ws:=
 @MdA.rec K .U H0 H G1 H1 (fun ws vs _=>Reps K (join H0 G1) vs ws) .nil (fun h _ b=>.cons h b) ws vs h
def xn {p:Addr} {o:HO} (hG:Same G H) (hp:H p=none):Ext G H G (upd H p o):=
 ⟨Same.refl G,fun b u q=>by rw [c9 (d8 q hp)]; exact q,fun b u q=>by rw [c9 (d8 (hG b u q) hp)]; exact hG b u q,fun _ _ _ _ e=>e⟩
def eG {p:Addr} {o:HO} (hG:Same G H) (hp:H p=none):Ext G H (upd G p o) (upd H p o):=by
 have gp:G p=none:=hG.free hp
 refine ⟨fun b u q=>by rw [c9 (d8 q gp)]; exact q,fun b u q=>by rw [c9 (d8 q hp)]; exact q,fun b u q=>?_,fun b u q l g=>?_⟩
 ·by_cases hb:b=p
  ·subst hb; rw [l4] at q ⊢; exact q
  ·rw [c9 hb] at q ⊢; exact hG b u q
 ·rw [c9 (d8 q hp)]; exact g
def Out.newL {p:Addr} {vs:List V} {ws:List W} {Hs:Hp} (I:PIv K H0 G ρ σ H) (s:Same Hs H) (r:Reps K G vs ws) (hp:H p=none) (o:Out EX G H (mdW K .F H0 Hs) (.ok (.lst ws)) Q):Q (.ref p) (upd H p (.lst vs)):=
 o _ G _ (xn I.gh hp) ⟨p,vs,rfl,l4,I.gh.free hp,s.free hp,r⟩
def Out.newTF {p:Addr} {vs:List V} {ws:List W} {Hs:Hp} (I:PIv K H0 G ρ σ H) (r:Reps K G vs ws) (hp:H p=none) (o:Out EX G H (mdW K .F H0 Hs) (.ok (.tup ws)) Q):Q (.ref p) (upd H p (.tup vs)):=
 o _ (upd G p (.tup vs)) _ (eG I.gh hp) (.tup l4 (r.same fun b u q=>by rw [c9 (d8 q (I.gh.free hp))]; exact q))
def lim (n:Nat) (w:W):R W:=if n<=1000 then .ok w else .stuck
def Out.lim {α:Type} {n:Nat} {w:W} {md:W->α->Hp->Hp->Prop} {Q:α->Hp->Prop} (o:Out EX G H md (lim n w) Q):n<=1000/\Out EX G H md (.ok w) Q:=by
 unfold TP.lim at o
 by_cases n:n<=1000
 ·rw [qA1 n] at o; exact ⟨n,o⟩
 ·rw [qA3 n] at o; exact o.elim
def aD {n:Nat} (h:n<=1000):n<=sizeLine:=qA9 h (by decide)
def ET {ma:Rho->R (List W)} (h:tM K EX .F (fun ρ=>ma ρ>>=fun ws=>lim ws.length (.tup ws)) σ H Q):sA (tA K EX .V ma) σ H Q:=by
 obtain ⟨H0,G,ρ,I,o⟩:=h
 refine ⟨H0,G,ρ,I,Out.bind o fun xs G1 H1 ws e1 m1 o1=>?_⟩
 obtain ⟨hl,o2⟩:=Out.lim o1
 have r:=MdA.reps m1
 exact ⟨by rw [r.length]; exact aD hl,fun p hp=>Out.newTF (I.ext e1) r hp o2⟩
def Fa {ma:Rho->R (List W)} (h:tM K EX .F (fun ρ=>ma ρ>>=fun ws=>lim ws.length (.lst ws)) σ H Q):zm (tA K EX .V ma) σ H Q:=by
 obtain ⟨H0,G,ρ,I,o⟩:=h
 refine ⟨H0,G,ρ,I,Out.bind o fun xs G1 H1 ws e1 m1 o1=>?_⟩
 obtain ⟨hl,o2⟩:=Out.lim o1
 have r:=MdA.reps m1
 exact ⟨by rw [r.length]; exact aD hl,fun p hp=>Out.newL (I.ext e1) e1.hh r hp o2⟩
def kM {p:Addr} {o:HO} (h:H0 p=none):join H0 (upd G p o)=upd (join H0 G) p o:=by
 funext b
 by_cases hb:b=p
 ·subst hb; unfold join; rw [h]; dsimp only; rw [l4,l4]
 ·rw [c9 hb]; unfold join; cases H0 b with
  | none=>dsimp only; rw [c9 hb]
  | some u=>dsimp only; rw [c9 hb]
def Do {ma:Rho->R (List W)} (h:tM K EX .U (fun ρ=>ma ρ>>=fun ws=>lim ws.length (.tup ws)) σ H Q):sA (tA K EX .U ma) σ H Q:=by
 obtain ⟨H0,G,ρ,I,o⟩:=h
 refine ⟨H0,G,ρ,I,Out.bind o fun xs G1 H1 ws e1 m1 o1=>?_⟩
 obtain ⟨hl,o2⟩:=Out.lim o1
 have r:=MdA.repsU m1
 have I1:=I.ext e1
 refine ⟨by rw [r.length]; exact aD hl,fun p hp=>o2 _ (upd G1 p (.tup xs)) _ (eG I1.gh hp) ?_⟩
 show Rep K (join H0 (upd G1 p (.tup xs))) _ _
 rw [kM (I1.hh.free hp)]
 exact .tup l4 (r.same fun b u q=>by rw [c9 (d8 (I1.join_H b u q) hp)]; exact q)
end
end TP
namespace TP
open PySem L2
inductive Fl where
 | nx (ρ:Rho) | rt (w:W) | bk (ρ:Rho) | ct (ρ:Rho)
def OutS (K:Frag) (EX:EXT) (d:Mode) (H0 G:Hp) (r:R Fl) (D:Ends):Prop:=match r with
 | .ok (.nx ρ)=>∀ G' σ' H',Same G G'->PIv K H0 G' ρ σ' H'->D.nx σ' H'
 | .ok (.bk ρ)=>∀ G' σ' H',Same G G'->PIv K H0 G' ρ σ' H'->D.bk σ' H'
 | .ok (.ct ρ)=>∀ G' σ' H',Same G G'->PIv K H0 G' ρ σ' H'->D.ct σ' H'
 | .ok (.rt w)=>∀ v G' H',Same G G'->Same G' H'->Same H0 H'->(∀ a o,H0 a=some o->isL o=true->G' a=none)->Md K H0 H0 G' H' v w d->D.rt v H'
 | .ex e=>∀ H',Same H0 H'->EX e H'
 | .stuck=>False
def tSt (K:Frag) (EX:EXT) (d:Mode) (m:Rho->R Fl):TS:=fun D σ H=>∃ H0 G ρ,PIv K H0 G ρ σ H/\OutS K EX d H0 G (m ρ) D
section
variable {K:Frag} {EX:EXT} {H0 G H G1 H1 G2 H2:Hp} {ρ:Rho} {σ:St} {d:Mode} {D:Ends}
def OutS.move {r:R Fl} (s:Same G G1) (o:OutS K EX d H0 G r D):OutS K EX d H0 G1 r D:=by
 cases r with
 | stuck=>exact o
 | ex e=>exact o
 | ok f=>
  cases f with
  | nx ρ'=>exact fun G' σ' H' s' I'=>o G' σ' H' (s.trans s') I'
  | bk ρ'=>exact fun G' σ' H' s' I'=>o G' σ' H' (s.trans s') I'
  | ct ρ'=>exact fun G' σ' H' s' I'=>o G' σ' H' (s.trans s') I'
  | rt w=>exact fun v G' H' s0 s1 s2 c md=>o v G' H' (s.trans s0) s1 s2 c md
def OutS.bind {α β:Type} {md:α->β->Hp->Hp->Prop} {m:R α} {k:α->R Fl} {Q1:β->Hp->Prop} (I:PIv K H0 G ρ σ H) (o:OutS K EX d H0 G (m>>=k) D)
  (h:∀ x G1 H1 w,Ext G H G1 H1->md w x G1 H1->OutS K EX d H0 G1 (k w) D->Q1 x H1):Out EX G H md m Q1:=by
 cases m with
 | ok w=>exact fun v G' H' e q=>h v G' H' w e q (OutS.move e.gg o)
 | ex e=>exact fun H' s=>o H' (I.hh.trans s)
 | stuck=>exact o
def d6 (m n:Rho->R Fl):Rho->R Fl:=fun ρ=>m ρ>>=fun f=>match f with
 | .nx ρ'=>n ρ'
 | .rt w=>.ok (.rt w)
 | .bk ρ'=>.ok (.bk ρ')
 | .ct ρ'=>.ok (.ct ρ')
def Dv (h:tSt K EX d (fun ρ=>.ok (.nx ρ)) D σ H):tNext D σ H:=by
 obtain ⟨H0,G,ρ,I,o⟩:=h
 exact o G σ H (Same.refl G) I
def EU {m n:Rho->R Fl} (h:tSt K EX d (d6 m n) D σ H):sD (tSt K EX d m) (tSt K EX d n) D σ H:=by
 obtain ⟨H0,G,ρ,I,o⟩:=h
 refine ⟨H0,G,ρ,I,?_⟩
 unfold d6 at o
 revert o
 cases m ρ with
 | stuck=>exact id
 | ex e=>exact id
 | ok f=>
  cases f with
  | nx ρ'=>exact fun o G' σ' H' s' I'=>⟨H0,G',ρ',I',OutS.move s' o⟩
  | _=>exact id
def yC (h:tSt K EX d (fun _=>.stuck) D σ H):tNever D σ H:=by
 obtain ⟨H0,G,ρ,I,o⟩:=h
 exact o
def vV {m:Rho->R W} (h:tSt K EX d (fun ρ=>m ρ>>=fun w=>.ok (.rt w)) D σ H):nB (tM K EX d m) D σ H:=by
 obtain ⟨H0,G,ρ,I,o⟩:=h
 refine ⟨H0,G,ρ,I,OutS.bind I o fun x G1 H1 w e1 m1 o1=>?_⟩
 have I1:=I.ext e1
 exact o1 x G1 H1 (Same.refl _) e1.gh I1.hh I1.gl (m1.start I.hh)
def v9 (d:Mode) (i:Nat):Rho->R Fl:=fun ρ=>match ρ[i]? with
 | some (.own ws)=>.ok (.rt (.lst ws))
 | _=>b7 d i ρ>>=fun w=>.ok (.rt w)
def vf {i:Nat} (hd:d=.F\/d=.V) (h:tSt K EX d (v9 d i) D σ H):nB (bH i) D σ H:=by
 obtain ⟨H0,G,ρ,I,o⟩:=h
 unfold v9 at o
 by_cases ho:∃ ws,ρ[i]?=some (.own ws)
 ·obtain ⟨ws,e⟩:=ho
  rw [e] at o
  have hi:i<σ.length:=by rw [<- I.len]; exact (qA7.mp e).1
  have es:σ[i]?=some σ[i]:=by simp
  obtain ⟨a,vs,ev,ha,hg,h0,r⟩:=I.sl i _ _ e es
  refine ⟨.ref a,by rw [es,ev],?_⟩
  rcases hd with rfl | rfl
  ·exact o _ G H (Same.refl _) I.gh I.hh I.gl ⟨a,vs,rfl,ha,hg,h0,r⟩
  ·have s1:Same G (upd G a (.lst vs)):=fun b o q=>by rw [c9 (d8 q hg)]; exact q
   refine o _ (upd G a (.lst vs)) H s1 (fun b o q=>?_) I.hh (fun b u q l=>?_) (.lst l4 (r.same s1))
   ·by_cases hb:b=a
    ·subst hb; rw [l4] at q; cases q; exact ha
    ·rw [c9 hb] at q; exact I.gh b o q
   ·rw [c9 (d8 q h0)]; exact I.gl b u q l
 ·have o':OutS K EX d H0 G (b7 d i ρ>>=fun w=>.ok (.rt w)) D:=by
   revert o
   split
   ·rename_i ws e; exact absurd ⟨ws,e⟩ ho
   ·exact id
  have c:nB (tM K EX d (b7 d i)) D σ H:=vV (m:=b7 d i) ⟨H0,G,ρ,I,o'⟩
  exact oG c
def PIv.setV {i:Nat} {v:V} {w:W} (I:PIv K H0 G ρ σ H) (r:Rep K G v w):PIv K H0 G (ρ.set i (.val w)) (σ.set i (some v)) H where
 g0:=I.g0
 gl:=I.gl
 gh:=I.gh
 hh:=I.hh
 len:=by rw [qF5,qF5]; exact I.len
 sl j x o h1 h2:=by
  by_cases hj:i=j
  ·subst hj
   rw [qE1] at h1 h2
   simp only [if_true] at h1 h2
   split at h1 <;> split at h2 <;> simp only [qH3,reduceCtorEq] at h1 h2
   subst h1; subst h2
   exact ⟨v,rfl,r⟩
  ·rw [qB9 hj] at h1 h2; exact I.sl j x o h1 h2
 ne a b ws us c Gp h1 h2 h3 h4:=by
  have na:i≠a:=by
   rintro rfl
   rw [qE1] at h1
   simp only [if_true] at h1
   split at h1 <;> simp at h1
  have nb:i≠b:=by
   rintro rfl
   rw [qE1] at h2
   simp only [if_true] at h2
   split at h2 <;> simp at h2
  rw [qB9 na] at h1 h3
  rw [qB9 nb] at h2 h4
  exact I.ne a b ws us c Gp h1 h2 h3 h4
def PIv.setU {i:Nat} {v:V} {w:W} (I:PIv K H0 G ρ σ H) (r:Rep K (join H0 G) v w):PIv K H0 G (ρ.set i (.par w)) (σ.set i (some v)) H where
 g0:=I.g0
 gl:=I.gl
 gh:=I.gh
 hh:=I.hh
 len:=by rw [qF5,qF5]; exact I.len
 sl j x o h1 h2:=by
  by_cases hj:i=j
  ·subst hj
   rw [qE1] at h1 h2
   simp only [if_true] at h1 h2
   split at h1 <;> split at h2 <;> simp only [qH3,reduceCtorEq] at h1 h2
   subst h1; subst h2
   exact ⟨v,rfl,r⟩
  ·rw [qB9 hj] at h1 h2; exact I.sl j x o h1 h2
 ne a b ws us c Gp h1 h2 h3 h4:=by
  have na:i≠a:=by
   rintro rfl
   rw [qE1] at h1
   simp only [if_true] at h1
   split at h1 <;> simp at h1
  have nb:i≠b:=by
   rintro rfl
   rw [qE1] at h2
   simp only [if_true] at h2
   split at h2 <;> simp at h2
  rw [qB9 na] at h1 h3
  rw [qB9 nb] at h2 h4
  exact I.ne a b ws us c Gp h1 h2 h3 h4
def PIv.setO {i:Nat} {a:Addr} {vs:List V} {ws:List W} (I:PIv K H0 G ρ σ H) (ha:H a=some (.lst vs)) (hg:G a=none) (h0:H0 a=none) (r:Reps K G vs ws)
  (nw:∀ (j:Nat) (us:List W),ρ[j]?=some (Sl.own us)->σ[j]?≠some (some (V.ref a))):PIv K H0 G (ρ.set i (.own ws)) (σ.set i (some (.ref a))) H where
 g0:=I.g0
 gl:=I.gl
 gh:=I.gh
 hh:=I.hh
 len:=by rw [qF5,qF5]; exact I.len
 sl j x o h1 h2:=by
  by_cases hj:i=j
  ·subst hj
   rw [qE1] at h1 h2
   simp only [if_true] at h1 h2
   split at h1 <;> split at h2 <;> simp only [qH3,reduceCtorEq] at h1 h2
   subst h1; subst h2
   exact ⟨a,vs,rfl,ha,hg,h0,r⟩
  ·rw [qB9 hj] at h1 h2; exact I.sl j x o h1 h2
 ne p q IN us c Gp h1 h2 h3 h4:=by
  by_cases hp:i=p
  ·subst hp
   rw [qB9 Gp] at h2 h4
   rw [qE1] at h3
   simp only [if_true] at h3
   split at h3 <;> simp only [qH3,reduceCtorEq,V.ref.injEq] at h3
   subst h3
   exact nw q us h2 h4
  ·rw [qB9 hp] at h1 h3
   by_cases hq:i=q
   ·subst hq
    rw [qE1] at h4
    simp only [if_true] at h4
    split at h4 <;> simp only [qH3,reduceCtorEq,V.ref.injEq] at h4
    subst h4
    exact nw p IN h1 h3
   ·rw [qB9 hq] at h2 h4
    exact I.ne p q IN us c Gp h1 h2 h3 h4
def R8:W->Sl
 | .lst ws=>.own ws
 | w=>.val w
def Dp {i:Nat} {m:Rho->R W} (h:tSt K EX d (fun ρ=>m ρ>>=fun w=>.ok (.nx (ρ.set i (.val w)))) D σ H):fW (tM K EX .V m) (P4 i) D σ H:=by
 obtain ⟨H0,G,ρ,I,o⟩:=h
 exact ⟨H0,G,ρ,I,OutS.bind I o fun x G1 H1 w e1 m1 o1=>o1 G1 _ H1 (Same.refl _) ((I.ext e1).setV m1)⟩
def Dq {i:Nat} {m:Rho->R W} (h:tSt K EX d (fun ρ=>m ρ>>=fun w=>.ok (.nx (ρ.set i (.par w)))) D σ H):fW (tM K EX .U m) (P4 i) D σ H:=by
 obtain ⟨H0,G,ρ,I,o⟩:=h
 exact ⟨H0,G,ρ,I,OutS.bind I o fun x G1 H1 w e1 m1 o1=>o1 G1 _ H1 (Same.refl _) ((I.ext e1).setU m1)⟩
def rK {i:Nat} {m:Rho->R W} (h:tSt K EX d (fun ρ=>m ρ>>=fun w=>.ok (.nx (ρ.set i (R8 w)))) D σ H):fW (tM K EX .F m) (P4 i) D σ H:=by
 obtain ⟨H0,G,ρ,I,o⟩:=h
 refine ⟨H0,G,ρ,I,OutS.bind I o fun x G1 H1 w e1 m1 o1=>?_⟩
 have I1:=I.ext e1
 cases w with
 | lst ws=>
  obtain ⟨a,vs,rfl,h1,h2,h3,r⟩:=m1
  refine o1 G1 _ H1 (Same.refl _) (I1.setO h1 h2 (I.hh.free h3) r fun j us q z=>?_)
  obtain ⟨b,Gz,eb,hb,_⟩:=I.sl j _ _ q z
  cases eb
  rw [h3] at hb; cases hb
 | non=>exact o1 G1 _ H1 (Same.refl _) (I1.setV m1)
 | bl _=>exact o1 G1 _ H1 (Same.refl _) (I1.setV m1)
 | int _=>exact o1 G1 _ H1 (Same.refl _) (I1.setV m1)
 | str _=>exact o1 G1 _ H1 (Same.refl _) (I1.setV m1)
 | ty _=>exact o1 G1 _ H1 (Same.refl _) (I1.setV m1)
 | tup _=>exact o1 G1 _ H1 (Same.refl _) (I1.setV m1)
 | scr _=>exact o1 G1 _ H1 (Same.refl _) (I1.setV m1)
 | exc _ _=>exact o1 G1 _ H1 (Same.refl _) (I1.setV m1)
 | cls _=>exact o1 G1 _ H1 (Same.refl _) (I1.setV m1)
instance:DecidableEq Mode:=fun a b=>by cases a <;> cases b <;> first | exact isTrue rfl | exact isFalse (by intro h; cases h)
def Gt (K:Frag) (e:Mode) (g:TG) (mg:W->Rho->Option Rho):Prop:=∀ (H0 Hs G:Hp) (ρ:Rho) (σ:St) (H:Hp) (v:V) (w:W) (ρ':Rho) (Q:St->Hp->Prop),PIv K H0 G ρ σ H->Md K H0 Hs G H v w e->mg w ρ=some ρ' ->
 (∀ σ',PIv K H0 G ρ' σ' H->Q σ' H)->g v σ H Q
def Gts (K:Frag) (e:Mode) (g:TGs) (mg:List W->Rho->Option Rho):Prop:=∀ (H0 G:Hp) (ρ:Rho) (σ:St) (H:Hp) (vs:List V) (ws:List W) (ρ':Rho) (Q:St->Hp->Prop),PIv K H0 G ρ σ H->Reps K (if e=.V then G else join H0 G) vs ws->mg ws ρ=some ρ' ->
 (∀ σ',PIv K H0 G ρ' σ' H->Q σ' H)->g vs σ H Q
def gN (e:Mode) (i:Nat):W->Rho->Option Rho:=fun w ρ=>some (ρ.set i (if e=.V then .val w else .par w))
def i7 {i:Nat}:Gt K .U (P4 i) (gN .U i):=fun H0 Hs G ρ σ H v w ρ' Q I m e h=>by
 cases e; exact h _ (I.setU m)
def gsNil:List W->Rho->Option Rho
 | [],ρ=>some ρ
 | _,_=>none
def v4 (f:W->Rho->Option Rho) (g:List W->Rho->Option Rho):List W->Rho->Option Rho
 | w::ws,ρ=>(f w ρ).bind (g ws)
 | [],_=>none
def O6 {e:Mode}:Gts K e gNil gsNil:=fun H0 G ρ σ H vs ws ρ' Q I r e h=>by
 cases r with
 | nil=>cases e; exact ⟨rfl,h _ I⟩
 | cons _ _=>cases e
def o6 {e:Mode} {t:TG} {u:TGs} {f:W->Rho->Option Rho} {g:List W->Rho->Option Rho} (he:e=.V\/e=.U) (h1:Gt K e t f) (h2:Gts K e u g):Gts K e (ov t u) (v4 f g):=fun H0 G ρ σ H vs ws ρ' Q I r q h=>by
 cases r with
 | nil=>cases q
 | cons a b=>
  unfold v4 at q
  obtain ⟨ρ1,q1,q2⟩:=Option.bind_eq_some_iff.mp q
  refine ⟨_,_,rfl,h1 H0 H G ρ σ H _ _ ρ1 _ I ?_ q1 fun σ1 I1=>h2 H0 G ρ1 σ1 H _ _ ρ' Q I1 b q2 h⟩
  rcases he with rfl | rfl
  ·exact a
  ·exact a
def gT (n:Nat) (g:List W->Rho->Option Rho):W->Rho->Option Rho
 | .tup ws,ρ=>if ws.length=n then g ws ρ else none
 | _,_=>none
def U4 {e:Mode} {n:Nat} {u:TGs} {g:List W->Rho->Option Rho} (he:e=.V\/e=.U) (h:Gts K e u g):Gt K e (ot K n u) (gT n g):=fun H0 Hs G ρ σ H v w ρ' Q I m q k=>by
 cases w <;> first | cases q | skip
 rename_i ws
 have q':(if ws.length=n then g ws ρ else none)=some ρ':=q
 by_cases hn:ws.length=n
 ·rw [qA1 hn] at q'
  rcases he with rfl | rfl
  ·obtain ⟨a,vs,e,s,r⟩:=Rep.inv m
   exact ⟨a,vs,e,SqT.of (I.gh _ _ s),by rw [r.length]; exact hn,h H0 G ρ σ H _ ws ρ' Q I (by rw [qA1 rfl]; exact r) q' k⟩
  ·obtain ⟨a,vs,e,s,r⟩:=Rep.inv m
   exact ⟨a,vs,e,SqT.of (I.join_H _ _ s),by rw [r.length]; exact hn,h H0 G ρ σ H _ ws ρ' Q I (by rw [qA3 (by intro z; cases z)]; exact r) q' k⟩
 ·rw [qA3 hn] at q'; cases q'
def toR {α:Type}:Option α->R α
 | some a=>.ok a
 | none=>.stuck
def PIv.own_upd {i:Nat} {a:Addr} {Ib:List V} {ws IN:List W} (I:PIv K H0 G ρ σ H) (e:ρ[i]?=some (.own ws)) (es:σ[i]?=some (some (.ref a))) (r:Reps K G Ib IN):PIv K H0 G (ρ.set i (.own IN)) σ (upd H a (.lst Ib)):=by
 obtain ⟨a',vs,ev,ha,hg,h0,_⟩:=I.sl i _ _ e es
 cases ev
 refine ⟨I.g0,I.gl,fun b o q=>by rw [c9 (d8 q hg)]; exact I.gh b o q,fun b o q=>by rw [c9 (d8 q h0)]; exact I.hh b o q,by rw [qF5]; exact I.len,fun j x o h1 h2=>?_,fun p q ws1 us c Gp h1 h2 h3 h4=>?_⟩
 ·by_cases hj:i=j
  ·subst hj
   rw [qE1] at h1
   simp only [if_true] at h1
   split at h1 <;> simp only [qH3,reduceCtorEq] at h1
   subst h1
   rw [es] at h2; cases h2
   exact ⟨a,Ib,rfl,l4,hg,h0,r⟩
  ·rw [qB9 hj] at h1
   have:=I.sl j x o h1 h2
   cases x with
   | own us=>
    obtain ⟨b,Gz,eb,hb,GM,GE,rb⟩:=this
    subst eb
    have Gr:b≠a:=by
     rintro rfl
     exact I.ne i j ws us b hj e h1 es h2
    exact ⟨b,Gz,rfl,by rw [c9 Gr]; exact hb,GM,GE,rb⟩
   | dic ks=>
    obtain ⟨b,Gz,eb,hb,GM,GE,rb⟩:=this
    have Gr:b≠a:=by
     rintro rfl
     rw [ha] at hb; cases hb
    exact ⟨b,Gz,eb,by rw [c9 Gr]; exact hb,GM,GE,rb⟩
   | dik ks=>
    obtain ⟨b,Gz,eb,hb,GM,GE,rb⟩:=this
    have Gr:b≠a:=by
     rintro rfl
     rw [ha] at hb; cases hb
    exact ⟨b,Gz,eb,by rw [c9 Gr]; exact hb,GM,GE,rb⟩
   | un=>exact this
   | val _=>exact this
   | par _=>exact this
   | iop _ _=>exact this
   | hz _=>exact this
 ·have key:∀ {k:Nat} {us:List W},(ρ.set i (.own IN))[k]?=some (.own us)->∃ Gz,ρ[k]?=some (.own Gz):=fun {k us} hk=>by
   by_cases hik:i=k
   ·subst hik; exact ⟨ws,e⟩
   ·rw [qB9 hik] at hk; exact ⟨us,hk⟩
  obtain ⟨w1,k1⟩:=key h1
  obtain ⟨w2,k2⟩:=key h2
  exact I.ne p q w1 w2 c Gp k1 k2 h3 h4
def PIv.own_at {i:Nat} {ws:List W} (I:PIv K H0 G ρ σ H) (e:ρ[i]?=some (.own ws)):∃ a vs,σ[i]?=some (some (.ref a))/\H a=some (.lst vs)/\G a=none/\H0 a=none/\Reps K G vs ws:=by
 have hi:i<σ.length:=by rw [<- I.len]; exact (qA7.mp e).1
 have es:σ[i]?=some σ[i]:=by simp
 obtain ⟨a,vs,ev,r⟩:=I.sl i _ _ e es
 exact ⟨a,vs,by rw [es,ev],r⟩
def N2 (i:Nat) (m:Rho->R W):Rho->R Fl:=fun ρ=>match ρ[i]? with
 | some (.own ws)=>m ρ>>=fun w=>if ws.length<1000 then .ok (.nx (ρ.set i (.own (ws ++ [w])))) else .stuck
 | _=>.stuck
def Fi {i:Nat} {m:Rho->R W} (h:tSt K EX d (N2 i m) D σ H):cN (sI (bH i) (tM K EX .V m)) D σ H:=by
 obtain ⟨H0,G,ρ,I,o⟩:=h
 unfold N2 at o
 split at o
 ·rename_i ws e
  obtain ⟨a,vs,es,ha,hg,h0,r⟩:=I.own_at e
  refine ⟨.ref a,es,a,rfl,⟨vs,ha⟩,H0,G,ρ,I,OutS.bind I o fun x G1 H1 w e1 m1 o1=>?_⟩
  by_cases hl:ws.length<1000
  ·rw [qA1 hl] at o1
   have h1:=e1.hh a _ ha
   dsimp only
   rw [h1]
   dsimp only
   have hlen:vs.length=ws.length:=r.length
   exact ⟨qB0 (by omega:vs.length<1000) (by decide),o1 G1 σ _ (Same.refl _) ((I.ext e1).own_upd e es ((r.same e1.gg).snoc m1))⟩
  ·rw [qA3 hl] at o1; exact o1.elim
 ·exact o.elim
def mSet (i:Nat) (mk me:Rho->R W):Rho->R Fl:=fun ρ=>match ρ[i]? with
 | some (.own ws)=>me ρ>>=fun w=>mk ρ>>=fun k=>(match k with
  | .int k=>(match ixN ws.length k with
   | some j=>.ok (.nx (ρ.set i (.own (ws.set j w))))
   | none=>.stuck)
  | _=>.stuck)
 | _=>.stuck
def kC (i:Nat) (f:Int->Int->Int) (m:Rho->R W):Rho->R Fl:=fun ρ=>b7 .B i ρ>>=fun x=>m ρ>>=fun y=>match x,y with
 | .int a,.int b=>.ok (.nx (ρ.set i (.val (.int (f a b)))))
 | _,_=>.stuck
def Fh {i:Nat} {f:Int->Int->Int} {m:Rho->R W} (h:tSt K EX d (kC i f m) D σ H):zq i (tM K EX .B m) (ipI f) D σ H:=by
 obtain ⟨H0,G,ρ,I,o⟩:=h
 unfold kC at o
 have c:tM K EX .B (b7 .B i) σ H (fun x H1=>∃ G1 w,Ext G H G1 H1/\Md K H0 H G1 H1 x w .B/\OutS K EX d H0 G1 (m ρ>>=fun y=>match w,y with
   | .int a,.int b=>.ok (.nx (ρ.set i (.val (.int (f a b)))))
   | _,_=>.stuck) D):=⟨H0,G,ρ,I,OutS.bind I o fun x G1 H1 w e1 m1 o1=>⟨G1,w,e1,m1,o1⟩⟩
 obtain ⟨v,es,G1,w,e1,m1,o1⟩:=oG c
 have I1:=I.ext e1
 refine ⟨v,es,H0,G1,ρ,I1,OutS.bind I1 o1 fun y G2 H2 u e2 m2 o2=>?_⟩
 cases w <;> first | exact o2.elim | skip
 cases u <;> first | exact o2.elim | skip
 rename_i a b
 exact ⟨a,b,m1.intB,m2.intB,o2 G2 _ H2 (Same.refl _) ((I1.ext e2).setV .int)⟩
def mIf (c:Rho->R Bool) (m n:Rho->R Fl):Rho->R Fl:=fun ρ=>c ρ>>=fun b=>if b then m ρ else n ρ
def Fb {c:Rho->R Bool} {m n:Rho->R Fl} (h:tSt K EX d (mIf c m n) D σ H):sE (tT K EX c) (tSt K EX d m) (tSt K EX d n) D σ H:=by
 obtain ⟨H0,G,ρ,I,o⟩:=h
 refine ⟨H0,G,ρ,I,OutS.bind I o fun x G1 H1 w e1 m1 o1=>?_⟩
 cases m1
 cases x with
 | true=>exact ⟨H0,G1,ρ,I.ext e1,o1⟩
 | false=>exact ⟨H0,G1,ρ,I.ext e1,o1⟩
def frz (i:Nat) (ρ:Rho):Rho:=match ρ[i]? with
 | some (.own ws)=>ρ.set i (.val (.lst ws))
 | _=>ρ
def PIv.frz {i:Nat} (I:PIv K H0 G ρ σ H):∃ G',Same G G'/\PIv K H0 G' (frz i ρ) σ H:=by
 unfold TP.frz
 split
 ·rename_i ws e
  obtain ⟨a,vs,es,ha,hg,h0,r⟩:=I.own_at e
  have s1:Same G (upd G a (.lst vs)):=fun b o q=>by rw [c9 (d8 q hg)]; exact q
  refine ⟨upd G a (.lst vs),s1,?_⟩
  have I1:PIv K H0 G (ρ.set i .un) σ H:=by
   refine ⟨I.g0,I.gl,I.gh,I.hh,by rw [qF5]; exact I.len,fun j x o h1 h2=>?_,fun p q ws1 us c Gp h1 h2 h3 h4=>?_⟩
   ·by_cases hj:i=j
    ·subst hj
     rw [qE1] at h1
     simp only [if_true] at h1
     split at h1 <;> simp only [qH3,reduceCtorEq] at h1
     subst h1; trivial
    ·rw [qB9 hj] at h1; exact I.sl j x o h1 h2
   ·have na:i≠p:=by
     rintro rfl
     rw [qE1] at h1
     simp only [if_true] at h1
     split at h1 <;> simp at h1
    have nb:i≠q:=by
     rintro rfl
     rw [qE1] at h2
     simp only [if_true] at h2
     split at h2 <;> simp at h2
    rw [qB9 na] at h1
    rw [qB9 nb] at h2
    exact I.ne p q ws1 us c Gp h1 h2 h3 h4
  have I2:PIv K H0 (upd G a (.lst vs)) (ρ.set i .un) σ H:=by
   refine ⟨fun b o q l=>s1 b o (I.g0 b o q l),fun b o q l=>by rw [c9 (d8 q h0)]; exact I.gl b o q l,fun b o q=>?_,I.hh,I1.len,fun j x o h1 h2=>?_,I1.ne⟩
   ·by_cases hb:b=a
    ·subst hb; rw [l4] at q; cases q; exact ha
    ·rw [c9 hb] at q; exact I.gh b o q
   ·have:=I1.sl j x o h1 h2
    cases x with
    | un=>trivial
    | val w=>obtain ⟨v,e1,r1⟩:=this; exact ⟨v,e1,r1.same s1⟩
    | par w=>obtain ⟨v,e1,r1⟩:=this; exact ⟨v,e1,r1.same (u9 s1)⟩
    | own us=>
     obtain ⟨b,Gz,eb,hb,GM,GE,rb⟩:=this
     subst eb
     have Gw:i≠j:=by
      rintro rfl
      rw [qE1] at h1
      simp only [if_true] at h1
      split at h1 <;> simp at h1
     rw [qB9 Gw] at h1
     have Gr:b≠a:=by
      rintro rfl
      exact I.ne i j ws us b Gw e h1 es h2
     exact ⟨b,Gz,rfl,hb,by rw [c9 Gr]; exact GM,GE,rb.same s1⟩
    | dic ks=>
     obtain ⟨b,Gz,eb,hb,GM,GE,rb⟩:=this
     have Gr:b≠a:=by
      rintro rfl
      rw [ha] at hb; cases hb
     exact ⟨b,Gz,eb,hb,by rw [c9 Gr]; exact GM,GE,rb⟩
    | dik ks=>
     obtain ⟨b,Gz,eb,hb,GM,GE,rb⟩:=this
     have Gr:b≠a:=by
      rintro rfl
      rw [ha] at hb; cases hb
     exact ⟨b,Gz,eb,hb,by rw [c9 Gr]; exact GM,GE,rb⟩
    | iop p us=>obtain ⟨e1,Jf,Kf,r1⟩:=this; exact ⟨e1,Jf,Kf,r1.same s1⟩
    | hz w=>obtain ⟨v,e,r⟩:=this; exact ⟨v,e,r.same (u9 (ad s1))⟩
  have I3:=I2.setV (i:=i) (v:=.ref a) (w:=.lst ws) (.lst l4 (r.same s1))
  have e3:σ.set i (some (V.ref a))=σ:=by
   apply qL7
   intro j
   by_cases hj:i=j
   ·subst hj; rw [es,qE1]; simp only [if_true]; rw [qA1 (qA7.mp es).1]
   ·rw [qB9 hj]
  rw [e3,List.set_set] at I3
  exact I3
 ·exact ⟨G,Same.refl G,I⟩
def Fe {i:Nat} {m:Rho->R Fl} (h:tSt K EX d (fun ρ=>m (frz i ρ)) D σ H):tSt K EX d m D σ H:=by
 obtain ⟨H0,G,ρ,I,o⟩:=h
 obtain ⟨G',s,I'⟩:=I.frz (i:=i)
 exact ⟨H0,G',_,I',OutS.move s o⟩
end
end TP
namespace TP
open PySem L2
section
variable {K:Frag} {EX:EXT} {H0 G H G1 H1 G2 H2:Hp} {ρ:Rho} {σ:St} {d:Mode} {D:Ends}
structure bu (K:Frag) (e:Mode) (H0 Z G:Hp) (J:It) (ws:List W):Prop where
 go:∀ i H,i<ws.length->Same Z H->J.go i H
 stop:∀ H,Same Z H->J.stop ws.length H
 yld:∀ i H x H' w,ws[i]?=some w->Same Z H->J.yld i H x H'->∀ G2 ρ σ,PIv K H0 G2 ρ σ H->Same G G2->∃ G3,Ext G2 H G3 H'/\Md K H0 H G3 H' x w e
def lE (K:Frag) (EX:EXT) (lp:Bool) (e:Mode) (H0 G H:Hp) (r:R (List W)) (Rr:It->Hp->Prop):Prop:=match r with
 | .ok ws=>∀ J G' H',Ext G H G' H'->bu K e H0 (if lp then join H0 G' else H') G' J ws->Rr J H'
 | .ex x=>∀ H',Same H H'->EX x H'
 | .stuck=>False
def tIt (K:Frag) (EX:EXT) (lp:Bool) (e:Mode) (m:Rho->R (List W)):TI:=fun σ H Rr=>∃ H0 G ρ,PIv K H0 G ρ σ H/\lE K EX lp e H0 G H (m ρ) Rr
def K5 (mg:W->Rho->Option Rho) (mb:Rho->R Fl):List W->Rho->R Fl
 | [],ρ=>.ok (.nx ρ)
 | w::ws,ρ=>toR (mg w ρ)>>=fun ρ1=>mb ρ1>>=fun f=>match f with
  | .nx ρ2=>K5 mg mb ws ρ2
  | .ct ρ2=>K5 mg mb ws ρ2
  | .bk ρ2=>.ok (.nx ρ2)
  | .rt w=>.ok (.rt w)
def Ff {e:Mode} {g:TG} {mg:W->Rho->Option Rho} {mi:Rho->R (List W)} {mb:Rho->R Fl} (hg:Gt K e g mg) (h:tSt K EX d (fun ρ=>mi ρ>>=fun ws=>K5 mg mb ws ρ) D σ H) :
  zn (tIt K EX true e mi) g (tSt K EX d mb) D σ H:=by
 obtain ⟨H0,G,ρ,I,o⟩:=h
 refine ⟨H0,G,ρ,I,?_⟩
 replace o:OutS K EX d H0 G (mi ρ>>=fun ws=>K5 mg mb ws ρ) D:=o
 revert o
 cases mi ρ with
 | stuck=>exact id
 | ex x=>exact fun o H' s=>o H' (I.hh.trans s)
 | ok ws=>
  intro o J G1 H1 e1 T
  have o1:OutS K EX d H0 G1 (K5 mg mb ws ρ) D:=OutS.move e1.gg o
  refine ⟨fun i m σ H=>m=ws.length-i/\i<=ws.length/\∃ G2 ρ2,Same G1 G2/\PIv K H0 G2 ρ2 σ H/\OutS K EX d H0 G2 (K5 mg mb (ws.drop i) ρ2) D,⟨_,rfl,qC3 _,G1,ρ,Same.refl _,I.ext e1,o1⟩,?_⟩
  rintro i m σ2 Hh ⟨rfl,hi,G2,ρ2,s2,I2,o2⟩
  have hz:Same (join H0 G1) Hh:=(u9 s2).trans I2.join_H
  by_cases GA:i<ws.length
  ·refine .inr ⟨T.go i Hh GA hz,fun σ' H'=>∃ G4 ρ4,Same G1 G4/\PIv K H0 G4 ρ4 σ' H'/\OutS K EX d H0 G4 (K5 mg mb (ws.drop (i+1)) ρ4) D,fun σ' H' zz72=>by obtain ⟨G4,ρ4,s4,I4,o4⟩:=zz72; exact ⟨ws.length-(i+1),by omega,rfl,GA,G4,ρ4,s4,I4,o4⟩,fun x H' y=>?_⟩
   obtain ⟨G3,e3,m3⟩:=T.yld i Hh x H' ws[i] (by simp) hz y G2 ρ2 σ2 I2 s2
   rw [qI7 GA] at o2
   unfold K5 at o2
   cases q:mg ws[i] ρ2 with
   | none=>rw [q] at o2; exact o2.elim
   | some ρ'=>
    rw [q] at o2
    refine hg H0 Hh G3 ρ2 σ2 H' x _ ρ' _ (I2.ext e3) m3 q fun σ' I'=>⟨H0,G3,ρ',I',?_⟩
    have o3:OutS K EX d H0 G3 (mb ρ'>>=fun f=>match f with
     | .nx ρ2=>K5 mg mb (ws.drop (i+1)) ρ2
     | .ct ρ2=>K5 mg mb (ws.drop (i+1)) ρ2
     | .bk ρ2=>.ok (.nx ρ2)
     | .rt w=>.ok (.rt w)) D:=OutS.move e3.gg o2
    revert o3
    have s3:Same G1 G3:=s2.trans e3.gg
    cases mb ρ' with
    | stuck=>exact id
    | ex x=>exact id
    | ok f=>
     cases f with
     | nx ρ4=>exact fun o4 G4 σ4 H4 s4 I4=>⟨G4,ρ4,s3.trans s4,I4,OutS.move s4 o4⟩
     | ct ρ4=>exact fun o4 G4 σ4 H4 s4 I4=>⟨G4,ρ4,s3.trans s4,I4,OutS.move s4 o4⟩
     | bk ρ4=>exact id
     | rt w=>exact id
  ·have e:i=ws.length:=by omega
   subst e
   refine .inl ⟨T.stop Hh hz,?_⟩
   rw [List.drop_length] at o2
   exact o2 G2 σ2 Hh (Same.refl _) I2
def J9 (c:Rho->R Bool) (b:Rho->R Fl):Nat->Rho->Option (R Fl)
 | 0,_=>none
 | n+1,ρ=>match c ρ with
  | .ok false=>some (.ok (.nx ρ))
  | .ok true=>(match b ρ with
   | .ok (.nx ρ')=>J9 c b n ρ'
   | .ok (.ct ρ')=>J9 c b n ρ'
   | .ok (.bk ρ')=>some (.ok (.nx ρ'))
   | .ok (.rt w)=>some (.ok (.rt w))
   | .ex e=>some (.ex e)
   | .stuck=>some .stuck)
  | .ex e=>some (.ex e)
  | .stuck=>some .stuck
def bf {c:Rho->R Bool} {b:Rho->R Fl}:∀ (n:Nat) (ρ:Rho) (r:R Fl),J9 c b n ρ=some r->∀ m,n<=m->J9 c b m ρ=some r:=by
 intro n
 induction n with
 | zero=>intro ρ r h; cases h
 | succ n ih=>
  intro ρ r h m hm
  obtain ⟨k,rfl⟩:∃ k,m=k+1:=⟨m-1,by omega⟩
  have hk:=qJ7 hm
  unfold J9 at h ⊢
  revert h
  cases c ρ with
  | ex e=>exact id
  | stuck=>exact id
  | ok t=>
   cases t with
   | false=>exact id
   | true=>
    cases b ρ with
    | ex e=>exact id
    | stuck=>exact id
    | ok f=>
     cases f with
     | nx ρ'=>exact fun h=>ih ρ' r h k hk
     | ct ρ'=>exact fun h=>ih ρ' r h k hk
     | bk ρ'=>exact id
     | rt w=>exact id
open Classical in
def M0 (c:Rho->R Bool) (b:Rho->R Fl):Rho->R Fl:=fun ρ=>if h:∃ r n,J9 c b n ρ=some r then h.choose else .stuck
def iq {c:Rho->R Bool} {b:Rho->R Fl} {n:Nat} {r:R Fl} (h:J9 c b n ρ=some r):M0 c b ρ=r:=by
 unfold M0
 have hx:∃ r n,J9 c b n ρ=some r:=⟨r,n,h⟩
 rw [dif_pos hx]
 obtain ⟨m,hm⟩:=hx.choose_spec
 have a:=bf n ρ r h (max n m) (Nat.le_max_left _ _)
 have b:=bf m ρ _ hm (max n m) (Nat.le_max_right _ _)
 rw [a] at b
 exact (Option.some.inj b).symm
def yB {c:Rho->R Bool} {b:Rho->R Fl} (h:tSt K EX d (M0 c b) D σ H):pA (tT K EX c) (tSt K EX d b) D σ H:=by
 obtain ⟨H0,G,ρ,I,o⟩:=h
 by_cases hx:∃ r n,J9 c b n ρ=some r
 ·obtain ⟨r,n,hn⟩:=hx
  rw [iq hn] at o
  refine ⟨fun m σ2 Hh=>∃ G2 ρ2,Same G G2/\PIv K H0 G2 ρ2 σ2 Hh/\J9 c b m ρ2=some r,⟨n,G,ρ,Same.refl _,I,hn⟩,?_⟩
  rintro m σ2 Hh ⟨G2,ρ2,s2,I2,h2⟩
  have o2:OutS K EX d H0 G2 r D:=OutS.move s2 o
  refine ⟨H0,G2,ρ2,I2,?_⟩
  cases m with
  | zero=>cases h2
  | succ m=>
   unfold J9 at h2
   revert h2
   cases c ρ2 with
   | stuck=>intro h2; cases h2; exact o2
   | ex x=>intro h2; cases h2; exact fun H' s=>o2 H' (I2.hh.trans s)
   | ok t=>
    cases t with
    | false=>
     intro h2; cases h2
     intro v G3 H3 e3 q
     cases q
     rw [qA3 qA4]
     exact o2 G3 σ2 H3 e3.gg (I2.ext e3)
    | true=>
     intro h2 v G3 H3 e3 q
     cases q
     rw [qA1 rfl]
     refine ⟨fun σ' H'=>∃ G4 ρ4,Same G G4/\PIv K H0 G4 ρ4 σ' H'/\J9 c b m ρ4=some r,fun σ' H' zz73=>by obtain ⟨G4,ρ4,s4,I4,h4⟩:=zz73; exact ⟨m,qL0 m,G4,ρ4,s4,I4,h4⟩,H0,G3,ρ2,I2.ext e3,?_⟩
     have o3:OutS K EX d H0 G3 r D:=OutS.move e3.gg o2
     have s3:Same G G3:=s2.trans e3.gg
     revert h2
     cases b ρ2 with
     | stuck=>intro h2; cases h2; exact o3
     | ex x=>intro h2; cases h2; exact o3
     | ok f=>
      cases f with
      | nx ρ4=>exact fun h2 G4 σ4 H4 s4 I4=>⟨G4,ρ4,s3.trans s4,I4,h2⟩
      | ct ρ4=>exact fun h2 G4 σ4 H4 s4 I4=>⟨G4,ρ4,s3.trans s4,I4,h2⟩
      | bk ρ4=>intro h2; cases h2; exact o3
      | rt w=>intro h2; cases h2; exact o3
 ·unfold M0 at o
  rw [dif_neg hx] at o
  exact o.elim
def Md.whole {v:V} {w:W} {Hs:Hp} (I:PIv K H0 G ρ σ H) (h:Md K H0 Hs G H v w .B):Rep K H v w:=by
 rcases h with h | ⟨a,vs,ws,rfl,rfl,h1,r⟩
 ·exact h.same I.join_H
 ·exact .lst h1 (r.same I.gh)
def MdA.whole {Hs:Hp} (I:PIv K H0 G ρ σ H) {ws:List W} {vs:List V} (h:MdA K .B H0 Hs G H ws vs):Reps K H vs ws:=
 @MdA.rec K .B H0 Hs G H (fun ws vs _=>Reps K H vs ws) .nil (fun h _ b=>.cons (h.whole I) b) ws vs h
def XE (_:XK):EXT:=fun _ _=>False
def spM (K:Frag) (n:Nat) (d:Mode) (f:List W->R W):Sp:=fun vs H Q E=>vs.length=n/\∃ ws,Reps K H vs ws/\match f ws with
 | .ok w=>∀ v G' H',Same H H'->Same G' H'->(∀ a o,H a=some o->isL o=true->G' a=none)->Md K H H G' H' v w d->Q v H'
 | .ex e=>∀ H',Same H H'->XE E e H'
 | .stuck=>False
def g8 (n N:Nat) (m:Rho->R Fl) (ws:List W):R W:=if ws.length=n then (m (ws.map Sl.par++List.replicate (N-n) Sl.un)>>=fun f=>match f with
 | .rt w=>.ok w
 | .nx _=>.ok .non
 | _=>.stuck) else .stuck
def tf {n N:Nat} {m:Rho->R Fl} (ws:List W) (h:g8 n N m ws≠.stuck):ws.length=n:=by
 unfold g8 at h
 by_cases e:ws.length=n
 ·exact e
 ·rw [qA3 e] at h; exact absurd rfl h
def both (G G':Hp):Hp:=fun b=>match G b with
 | some o=>some o
 | none=>G' b
def Dy {n:Nat} {f:List W->R W} {E:XK} {ma:Rho->R (List W)} {Q:VK} (hd:d=.F\/d=.V) (hf:∀ ws,f ws≠.stuck->ws.length=n) (hE:∀ e H,EX e H->XE E e H) (h:tM K EX d (fun ρ=>ma ρ>>=fun ws=>f ws) σ H Q) :
  eW (spM K n d f) [] E (tA K EX .B ma) σ H Q:=by
 obtain ⟨H0,G,ρ,I,o⟩:=h
 refine ⟨H0,G,ρ,I,Out.bind o fun xs G1 H1 ws e1 m1 o1=>?_⟩
 have I1:=I.ext e1
 have r:=MdA.whole I1 m1
 rw [qG1]
 refine ⟨?_,ws,r,?_⟩
 ·rw [r.length]
  refine hf ws fun z=>?_
  rw [z] at o1; exact o1
 ·revert o1
  cases f ws with
  | stuck=>exact id
  | ex e=>exact fun o1 H' s=>hE e H' (o1 H' s)
  | ok w=>
   intro o1 v G' H' sH gH cl md
   have sB:Same G1 (both G1 G'):=fun b o q=>by unfold both; rw [q]
   have GY:Same G' (both G1 G'):=fun b o q=>by
    unfold both
    cases q1:G1 b with
    | none=>exact q
    | some u=>
     have a1:=sH b u (I1.gh b u q1)
     rw [gH b o q] at a1
     exact a1.symm
   have JC:Same (both G1 G') H':=fun b o q=>by
    unfold both at q
    cases q1:G1 b with
    | none=>rw [q1] at q; exact gH b o q
    | some u=>rw [q1] at q; cases q; exact sH b _ (I1.gh b _ q1)
   have ex:Ext G1 H1 (both G1 G') H':=⟨sB,sH,JC,fun b o q l g=>by unfold both; rw [g]; exact cl b o q l⟩
   refine o1 v (both G1 G') H' ex ?_
   rcases hd with rfl | rfl
   ·cases w with
    | lst us=>
     obtain ⟨a,vs,rfl,h1,h2,h3,r3⟩:=md
     exact ⟨a,vs,rfl,h1,by unfold both; rw [I1.gh.free h3]; exact h2,e1.hh.free h3,r3.same GY⟩
    | non=>exact Rep.same GY md
    | bl _=>exact Rep.same GY md
    | int _=>exact Rep.same GY md
    | str _=>exact Rep.same GY md
    | ty _=>exact Rep.same GY md
    | tup _=>exact Rep.same GY md
    | scr _=>exact Rep.same GY md
    | exc _ _=>exact Rep.same GY md
    | cls _=>exact Rep.same GY md
   ·exact Rep.same GY md
def A0 (H:Hp):Hp:=fun a=>match H a with
 | some o=>if isL o then none else some o
 | none=>none
def cr:join H (A0 H)=H:=by
 funext a
 unfold join A0
 cases q:H a with
 | none=>rfl
 | some o=>
  dsimp only
  cases isL o <;> rfl
def Reps.slots {vs:List V} {ws:List W} {i:Nat} {x:Sl} {o:Option V} {k k':Nat} (r:Reps K H vs ws):(ws.map Sl.par++List.replicate k Sl.un)[i]?=some x->(vs.map some++List.replicate k' none)[i]?=some o->x=.un\/∃ v w,x=.par w/\o=some v/\Rep K H v w:=
 Reps.ind (P:=fun vs ws=>∀ i,(ws.map Sl.par++List.replicate k Sl.un)[i]?=some x->(vs.map some++List.replicate k' none)[i]?=some o->x=.un\/∃ v w,x=.par w/\o=some v/\Rep K H v w) (fun i h1 h2=>by
  have h1:(List.replicate k Sl.un)[i]?=some x:=h1
  rw [qG0] at h1
  by_cases hk:i<k
  ·rw [qA1 hk] at h1; exact .inl (Option.some.inj h1).symm
  ·rw [qA3 hk] at h1; cases h1) (fun r _ b i h1 h2=>by
  cases i with
  | zero=>exact .inr ⟨_,_,(Option.some.inj h1).symm,(Option.some.inj h2).symm,r⟩
  | succ i=>exact b i h1 h2) r i
def PIv.begin {vs:List V} {ws:List W} {k k':Nat} (r:Reps K H vs ws) (hk:k=k'):PIv K H (A0 H) (ws.map Sl.par++List.replicate k Sl.un) (vs.map some++List.replicate k' none) H where
 g0 a o e l:=by unfold A0; rw [e]; dsimp only; rw [l]; rfl
 gl a o e l:=by unfold A0; rw [e]; dsimp only; rw [l]; rfl
 gh a o e:=by
  unfold A0 at e
  cases q:H a with
  | none=>rw [q] at e; cases e
  | some u=>
   rw [q] at e
   dsimp only at e
   cases hl:isL u
   ·rw [hl] at e; exact e
   ·rw [hl] at e; cases e
 hh:=Same.refl H
 len:=by subst hk; simp [r.length]
 sl i x o h1 h2:=by
  rcases Reps.slots r h1 h2 with rfl | ⟨v,w,rfl,rfl,q⟩
  ·trivial
  ·exact ⟨v,rfl,by rw [cr]; exact q⟩
 ne i j us xs a Gw h1 _ _ _:=by
  have:∀ (i:Nat) (us:List W),(ws.map Sl.par++List.replicate k Sl.un)[i]?≠some (Sl.own us):=fun i us q=>by
   rw [List.getElem?_append] at q
   split at q
   ·rw [qB5] at q
    cases hh:ws[i]? <;> rw [hh] at q <;> cases q
   ·rw [qG0] at q
    split at q <;> cases q
  exact absurd h1 (this i us)
def Dz {n:Nat} {Nl:List Str} {m:Rho->R Fl} {vs:List V} {Q:VK} {E:XK} (hd:d=.F\/d=.V) (h:spM K n d (g8 n Nl.length m) vs H Q E):tSt K (fun _ _=>False) d m { nx:=fun _ H'=>Q .non H',rt:=Q } (L2.start Nl vs) H:=by
 obtain ⟨hl,ws,r,o⟩:=h
 have hw:ws.length=n:=by rw [<- r.length]; exact hl
 unfold g8 at o
 rw [qA1 hw] at o
 refine ⟨H,A0 H,_,PIv.begin (k:=Nl.length-n) r (by rw [hl]),?_⟩
 revert o
 cases m (ws.map Sl.par++List.replicate (Nl.length-n) Sl.un) with
 | stuck=>exact id
 | ex e=>exact fun o=>(o H (Same.refl H)).elim
 | ok f=>
  cases f with
  | nx ρ'=>exact fun o G' σ' H' s' I'=>o .non G' H' I'.hh I'.gh I'.gl (Md.sca rfl (fun _=>.non) d)
  | rt w=>exact fun o v G' H' _ s1 s2 c md=>o v G' H' s2 s1 c md
  | bk _=>exact fun o=>o.elim
  | ct _=>exact fun o=>o.elim
end
end TP
namespace TP
open PySem L2
section
variable {K:Frag} {EX:EXT} {H0 G H G1 H1 G2 H2:Hp} {ρ:Rho} {σ:St} {d:Mode} {D:Ends}
def elR (mg:W->Rho->Option Rho) (mc:Rho->R Bool) (me:Rho->R W) (ρ:Rho) (w:W):R (Option W):=match mg w ρ with
 | none=>.stuck
 | some ρ1=>(match mc ρ1 with
  | .ok true=>(match me ρ1 with
   | .ok y=>.ok (some y)
   | _=>.stuck)
  | .ok false=>.ok none
  | _=>.stuck)
def mapR (f:W->R (Option W)):List W->R (List W)
 | []=>.ok []
 | w::ws=>match f w,mapR f ws with
  | .ok (some y),.ok ys=>.ok (y::ys)
  | .ok none,.ok ys=>.ok ys
  | _,_=>.stuck
def m9 (N':Nat) (mg:W->Rho->Option Rho) (mc:Rho->R Bool) (me:Rho->R W) (ws:List W) (ρ:Rho):R W:=
 if ws.length<=1000 then (match mapR (elR mg mc me (ρ++List.replicate (N'-ρ.length) Sl.un)) ws with
  | .ok ys=>.ok (.lst ys)
  | _=>.stuck) else .stuck
def xA {f:W->R (Option W)}:∀ {ws ys:List W},mapR f ws=.ok ys->(∀ w∈ws,∃ o,f w=.ok o)/\ys=ws.filterMap fun w=>match f w with
  | .ok o=>o
  | _=>none:=by
 intro ws
 induction ws with
 | nil=>intro ys h; cases h; exact ⟨by simp,rfl⟩
 | cons w ws ih=>
  intro ys h
  unfold mapR at h
  cases hf:f w with
  | stuck=>rw [hf] at h; cases h
  | ex e=>rw [hf] at h; cases h
  | ok o=>
   rw [hf] at h
   cases hm:mapR f ws with
   | stuck=>rw [hm] at h; cases o <;> cases h
   | ex e=>rw [hm] at h; cases o <;> cases h
   | ok zs=>
    rw [hm] at h
    obtain ⟨h1,h2⟩:=ih hm
    refine ⟨fun u hu=>?_,?_⟩
    ·rcases qB3.mp hu with rfl | hu
     ·exact ⟨o,hf⟩
     ·exact h1 u hu
    ·cases o with
     | none=>cases h; rw [qH8,hf]; exact h2
     | some y=>cases h; rw [qH8,hf,h2]
def PIv.inner {N':List Str} (I:PIv K H0 G ρ σ H):PIv K H0 G (ρ++List.replicate (N'.length-ρ.length) Sl.un) (inner N' σ) H:=by
 have hl:=I.len
 unfold L2.inner
 rw [hl]
 refine ⟨I.g0,I.gl,I.gh,I.hh,by simp [hl],fun i x o h1 h2=>?_,fun p q ws us c Gp h1 h2 h3 h4=>?_⟩
 ·by_cases hi:i<ρ.length
  ·rw [qE2 hi] at h1
   rw [qE2 (by omega)] at h2
   exact I.sl i x o h1 h2
  ·rw [qH0 (by omega),qG0] at h1
   split at h1 <;> simp only [qH3,reduceCtorEq] at h1
   subst h1; trivial
 ·have key:∀ {k:Nat} {us:List W},(ρ++List.replicate (N'.length-σ.length) Sl.un)[k]?=some (Sl.own us)->k<ρ.length/\ρ[k]?=some (Sl.own us):=fun {k us} hk=>by
   by_cases hi:k<ρ.length
   ·rw [qE2 hi] at hk; exact ⟨hi,hk⟩
   ·rw [qH0 (by omega),qG0] at hk
    split at hk <;> simp at hk
  obtain ⟨l1,k1⟩:=key h1
  obtain ⟨l2,k2⟩:=key h2
  rw [qE2 (by omega)] at h3 h4
  exact I.ne p q ws us c Gp k1 k2 h3 h4
open Classical in
def rest (G H:Hp) (Dd:Addr) (H':Hp):Hp:=fun b=>if b=Dd\/∃ o,H b=some o/\isL o=true/\G b=none then none else H' b
def D3 {Dd b:Addr} {H':Hp} (h:b=Dd\/∃ o,H b=some o/\isL o=true/\G b=none):rest G H Dd H' b=none:=by unfold rest; rw [qA1 h]
def aa {Dd b:Addr} {H':Hp} (h:¬ (b=Dd\/∃ o,H b=some o/\isL o=true/\G b=none)):rest G H Dd H' b=H' b:=by unfold rest; rw [qA3 h]
def mq {Dd b:Addr} {H':Hp} {o:HO} (h:rest G H Dd H' b=some o):H' b=some o/\¬ (b=Dd\/∃ o,H b=some o/\isL o=true/\G b=none):=by
 by_cases c:b=Dd\/∃ o,H b=some o/\isL o=true/\G b=none
 ·rw [D3 c] at h; cases h
 ·rw [aa c] at h; exact ⟨h,c⟩
def PIv.rest {Dd:Addr} {H':Hp} (I:PIv K H0 G ρ σ H) (hD:H Dd=none) (s:Same H H'):Same G (rest G H Dd H')/\PIv K H0 (rest G H Dd H') ρ σ H':=by
 have sG:Same G (TP.rest G H Dd H'):=fun b o q=>by
  rw [aa]
  ·exact s b o (I.gh b o q)
  ·rintro (rfl | ⟨u,h1,h2,h3⟩)
   ·rw [I.gh _ _ q] at hD; cases hD
   ·rw [q] at h3; cases h3
 refine ⟨sG,fun a o e l=>sG a o (I.g0 a o e l),fun a o e l=>D3 (.inr ⟨o,I.hh a o e,l,I.gl a o e l⟩),fun b o q=>(mq q).1,I.hh.trans s,I.len,fun i x o h1 h2=>?_,I.ne⟩
 have:=I.sl i x o h1 h2
 cases x with
 | un=>trivial
 | val w=>obtain ⟨v,e,r⟩:=this; exact ⟨v,e,r.same sG⟩
 | par w=>obtain ⟨v,e,r⟩:=this; exact ⟨v,e,r.same (u9 sG)⟩
 | own ws=>
  obtain ⟨a,vs,e,h,g,h0,r⟩:=this
  exact ⟨a,vs,e,s a _ h,D3 (.inr ⟨_,h,rfl,g⟩),h0,r.same sG⟩
 | dic ks=>
  obtain ⟨a,vs,e,h,g,h0,r⟩:=this
  exact ⟨a,vs,e,s a _ h,D3 (.inr ⟨_,h,rfl,g⟩),h0,r⟩
 | dik ks=>
  obtain ⟨a,vs,e,h,g,h0,r⟩:=this
  exact ⟨a,vs,e,s a _ h,D3 (.inr ⟨_,h,rfl,g⟩),h0,r⟩
 | iop p ws=>obtain ⟨e1,Jf,Kf,r1⟩:=this; exact ⟨e1,Jf,Kf,r1.same sG⟩
 | hz w=>obtain ⟨v,e,r⟩:=this; exact ⟨v,e,r.same (u9 (ad sG))⟩
def bP {Dd:Addr} {Ha Hb:Hp} (s:∀ b o,b≠Dd->Ha b=some o->Hb b=some o):Same (rest G H Dd Ha) (rest G H Dd Hb):=fun b o q=>by
 obtain ⟨h,c⟩:=mq q
 rw [aa c]
 exact s b o (fun z=>c (.inl z)) h
def tE {Dd:Addr} {Ha Hb G':Hp} (hl:∃ ys,Ha Dd=some (.lst ys)) (s:Same H Ha) (e:Ext (rest G H Dd Ha) Ha G' Hb):Same G' (rest G H Dd Hb):=fun b o q=>by
 rw [aa]
 ·exact e.gh b o q
 ·rintro (rfl | ⟨u,h1,h2,h3⟩)
  ·obtain ⟨ys,hl⟩:=hl
   rw [e.keep _ _ hl rfl (D3 (.inl rfl))] at q; cases q
  ·rw [e.keep _ _ (s _ _ h1) h2 (D3 (.inr ⟨u,h1,h2,h3⟩))] at q; cases q
def rL {Q:VK} {e:Mode} {N':List Str} {g:TG} {mg:W->Rho->Option Rho} {mi:Rho->R (List W)} {mc:Rho->R Bool} {me:Rho->R W} (hg:Gt K e g mg) (h:tM K EX .F (fun ρ=>mi ρ>>=fun ws=>m9 N'.length mg mc me ws ρ) σ H Q) :
  nC N' (tIt K EX false e mi) g (tT K EX mc) (tM K EX .V me) σ H Q:=by
 obtain ⟨H0,G,ρ,I,o⟩:=h
 refine ⟨H0,G,ρ,I,?_⟩
 replace o:Out EX G H (mdW K .F H0 H) (mi ρ>>=fun ws=>m9 N'.length mg mc me ws ρ) Q:=o
 revert o
 cases mi ρ with
 | stuck=>exact id
 | ex x=>exact id
 | ok ws=>
  intro o J G1 H1 e1 T Dd hD
  have I1:=I.ext e1
  replace o:Out EX G H (mdW K .F H0 H) (m9 N'.length mg mc me ws ρ) Q:=o
  unfold m9 at o
  by_cases hlen:ws.length<=1000
  ·rw [qA1 hlen] at o
   cases hm:mapR (elR mg mc me (ρ++List.replicate (N'.length-ρ.length) Sl.un)) ws with
   | stuck=>rw [hm] at o; exact o.elim
   | ex x=>rw [hm] at o; exact o.elim
   | ok ys=>
    rw [hm] at o
    obtain ⟨Gh,Lb⟩:=xA hm
    have T':bu K e H0 H1 G1 J ws:=by
     have:=T
     rw [qA3 qA4] at this
     exact this
    generalize hρ:ρ++List.replicate (N'.length-ρ.length) Sl.un=ρi at hm Gh Lb
    refine ⟨fun i m H2=>m=ws.length-i/\i<=ws.length/\Same H1 H2/\∃ vs,H2 Dd=some (.lst vs)/\vs.length<=i/\Reps K (rest G1 H1 Dd H2) vs ((ws.take i).filterMap fun w=>match elR mg mc me ρi w with
     | .ok o=>o
     | _=>none),⟨_,rfl,qC3 _,fun b u q=>by rw [c9 (d8 q hD)]; exact q,[],l4,qB1 _,.nil⟩,?_⟩
    rintro i m H2 ⟨rfl,hi,s2,vs,hDv,Ld,r2⟩
    by_cases GA:i<ws.length
    ·refine .inr ⟨T'.go i H2 GA s2,fun x H3 y=>?_⟩
     obtain ⟨sG,I2⟩:=I1.rest (Dd:=Dd) hD s2
     have I2i:=I2.inner (N':=N')
     obtain ⟨G3,e3,m3⟩:=T'.yld i H2 x H3 ws[i] (by simp) s2 y _ _ _ I2i sG
     obtain ⟨op,GS⟩:=Gh ws[i] (qG4 GA)
     have JO:=GS
     unfold elR at GS
     rw [<- hρ] at GS
     have IC:ws.take (i+1)=ws.take i ++ [ws[i]]:=by rw [List.take_succ_eq_append_getElem GA]
     cases q:mg ws[i] (ρ++List.replicate (N'.length-ρ.length) Sl.un) with
     | none=>rw [q] at GS; cases GS
     | some ρ1=>
      rw [q] at GS
      dsimp only at GS
      refine hg H0 H2 G3 _ _ H3 x _ ρ1 _ (I2i.ext e3) m3 q fun σ4 I4=>⟨H0,G3,ρ1,I4,?_⟩
      cases hc:mc ρ1 with
      | stuck=>rw [hc] at GS; cases GS
      | ex x=>rw [hc] at GS; cases GS
      | ok b=>
       intro b' G5 H5 e5 eb
       cases eb
       rw [hc] at GS
       cases b with
       | false=>
        rw [qA3 qA4]
        have IV:op=none:=by cases GS; rfl
        have s5:Same H2 H5:=e3.hh.trans e5.hh
        refine ⟨ws.length-(i+1),by omega,rfl,GA,s2.trans s5,vs,s5 _ _ hDv,by omega,?_⟩
        rw [IC,List.filterMap_append]
        have:([ws[i]].filterMap fun w=>match elR mg mc me ρi w with
         | .ok o=>o
         | _=>none) = []:=by
         rw [qH8,JO,IV]; rfl
        rw [this,qG1]
        exact r2.same (bP fun b o _ q=>s5 b o q)
       | true=>
        dsimp only at GS
        rw [qA1 rfl]
        refine ⟨H0,G5,ρ1,I4.ext e5,?_⟩
        cases hme:me ρ1 with
        | stuck=>rw [hme] at GS; cases GS
        | ex x=>rw [hme] at GS; cases GS
        | ok z=>
         rw [hme] at GS
         have IV:op=some z:=by cases GS; rfl
         intro yv G6 H6 e6 m6
         have e36:Ext (TP.rest G1 H1 Dd H2) H2 G6 H6:=(e3.trans e5).trans e6
         have s6:Same H2 H6:=e36.hh
         refine ⟨vs,s6 _ _ hDv,qD7 Ld (qB0 (by omega:i<1000) (by decide)),ws.length-(i+1),by omega,rfl,GA,fun b u q=>by rw [c9 (d8 q hD)]; exact s6 b u (s2 b u q),vs ++ [yv],l4,by rw [qC5]; simp; omega,?_⟩
         rw [IC,List.filterMap_append]
         have:([ws[i]].filterMap fun w=>match elR mg mc me ρi w with
          | .ok o=>o
          | _=>none) = [z]:=by
          rw [qH8,JO,IV]; rfl
         rw [this]
         have k1:Same (TP.rest G1 H1 Dd H2) (TP.rest G1 H1 Dd (upd H6 Dd (.lst (vs ++ [yv])))):=bP fun b o hb q=>by rw [c9 hb]; exact s6 b o q
         have k2:Same G6 (TP.rest G1 H1 Dd (upd H6 Dd (.lst (vs ++ [yv])))):=(tE ⟨vs,hDv⟩ s2 e36).trans (bP fun b o hb q=>by rw [c9 hb]; exact q)
         exact (r2.same k1).snoc (Rep.same k2 m6)
    ·have ei:i=ws.length:=by omega
     subst ei
     refine .inl ⟨T'.stop H2 s2,?_⟩
     rw [qM3,<- Lb] at r2
     obtain ⟨sG,I2⟩:=I1.rest (Dd:=Dd) hD s2
     refine o _ (TP.rest G1 H1 Dd H2) H2 ⟨e1.gg.trans sG,e1.hh.trans s2,I2.gh,fun b u q l g=>D3 (.inr ⟨u,e1.hh b u q,l,e1.keep b u q l g⟩)⟩ ⟨Dd,vs,rfl,hDv,D3 (.inl rfl),e1.hh.free hD,r2⟩
  ·rw [qA3 hlen] at o; exact o.elim
def B3:W->R (List W)
 | .lst ws=>.ok ws
 | .tup ws=>.ok ws
 | .scr ws=>.ok ws
 | _=>.stuck
def G9 {t:Bool} {a:Addr} {xs:List V} (e:Same H H1) (h:Sq K H t a xs):Sq K H1 t a xs:=by
 unfold Sq at h ⊢
 split at h
 ·rename_i ht; rw [qA1 ht]; exact sM e h
 ·rename_i ht; rw [qA3 ht]; exact Same.seq e h
def sqT {a:Addr} {xs:List V} (h:SqT K H a xs):Sq K H true a xs:=by unfold Sq; rw [qA1 rfl]; exact h
def sqL {a:Addr} {xs:List V} (h:SqL K H a xs):Sq K H false a xs:=by unfold Sq; rw [qA3 qA4]; exact h
def Rep.sq {F:Hp} {x:V} {w:W} {ws:List W} (h:Rep K F x w) (hw:B3 w=.ok ws):∃ t a vs,x=.ref a/\Sq K F t a vs/\Reps K F vs ws:=by
 cases w <;> first | (cases hw; done) | skip
 ·obtain ⟨a,vs,e,s,r⟩:=h.inv; exact ⟨true,a,vs,e,sqT (SqT.of s),R.ok.inj hw ▸ r⟩
 ·obtain ⟨a,vs,e,s,r⟩:=h.inv; exact ⟨false,a,vs,e,sqL (SqL.of s),R.ok.inj hw ▸ r⟩
 ·obtain ⟨a,vs,e,s,r⟩:=h.inv; exact ⟨false,a,vs,e,sqL s,R.ok.inj hw ▸ r⟩
def bL:Bool->Mode->Mode
 | true,e=>e
 | false,.V=>.C
 | false,_=>.B
def fz (e:Mode) (H0 G:Hp):Hp:=if e=.V then G else join H0 G
def Md.src {lp:Bool} {e:Mode} {Hs:Hp} {x:V} {w:W} {ws:List W} (he:e=.V\/e=.U) (I:PIv K H0 G ρ σ H) (m:Md K H0 Hs G H x w (bL lp e)) (hw:B3 w=.ok ws) :
  ∃ t a vs,x=.ref a/\Sq K (if lp then join H0 G else H) t a vs/\Reps K (fz e H0 G) vs ws:=by
 unfold fz
 rcases he with rfl | rfl
 ·rw [qA1 rfl]
  cases lp with
  | true=>
   obtain ⟨t,a,vs,e1,e2,e3⟩:=Rep.sq m hw
   exact ⟨t,a,vs,e1,by rw [qA1 rfl]; exact G9 I.G_join e2,e3⟩
  | false=>
   rw [qA3 qA4]
   rcases m with m | ⟨a,vs,us,rfl,rfl,h1,r⟩
   ·obtain ⟨t,a,vs,e1,e2,e3⟩:=Rep.sq m hw
    exact ⟨t,a,vs,e1,G9 I.gh e2,e3⟩
   ·cases hw; exact ⟨false,a,vs,rfl,sqL (SqL.of h1),r⟩
 ·rw [qA3 (show ¬ (Mode.U=Mode.V) by intro z; cases z)]
  cases lp with
  | true=>
   obtain ⟨t,a,vs,e1,e2,e3⟩:=Rep.sq m hw
   exact ⟨t,a,vs,e1,by rw [qA1 rfl]; exact e2,e3⟩
  | false=>
   rw [qA3 qA4]
   rcases m with m | ⟨a,vs,us,rfl,rfl,h1,r⟩
   ·obtain ⟨t,a,vs,e1,e2,e3⟩:=Rep.sq m hw
    exact ⟨t,a,vs,e1,G9 I.join_H e2,e3⟩
   ·cases hw; exact ⟨false,a,vs,rfl,sqL (SqL.of h1),r.same I.G_join⟩
def Md.of_fz {e:Mode} {Hs:Hp} {v:V} {w:W} (he:e=.V\/e=.U) (h:Rep K (fz e H0 G) v w):Md K H0 Hs G H v w e:=by
 unfold fz at h
 rcases he with rfl | rfl
 ·rw [qA1 rfl] at h; exact h
 ·rw [qA3 (show ¬ (Mode.U=Mode.V) by intro z; cases z)] at h; exact h
def L5 {e:Mode} (s:Same G G1):Same (fz e H0 G) (fz e H0 G1):=by
 unfold fz
 split
 ·exact s
 ·exact u9 s
def xP {e:Mode} {Z:Hp} {t:Bool} {a:Addr} {vs:List V} {ws:List W} (he:e=.V\/e=.U) (s:Sq K Z t a vs) (r:Reps K (fz e H0 G) vs ws):bu K e H0 Z G (ItQ K t a) ws:=by
 have hl:=r.length
 cases t with
 | true=>
  have hq:∀ H,Same Z H->SqT K H a vs:=fun H z=>by have:=G9 z s; unfold Sq at this; rw [qA1 rfl] at this; exact this
  refine ⟨fun i H hi z=>⟨vs,vs[i]'(by omega),hq H z,by simp⟩,fun H z=>⟨vs,hq H z,by omega⟩,fun i H x H' w hw z zz74 G2 ρ σ I sg=>?_⟩
  obtain ⟨e1,y⟩:=zz74
  subst e1
  have hx:=y vs (hq _ z)
  obtain ⟨v,hv,rv⟩:=Reps.get r hw
  rw [hx] at hv; cases hv
  exact ⟨G2,Ext.refl I.gh,Md.of_fz he (rv.same (L5 sg))⟩
 | false=>
  have hq:∀ H,Same Z H->SqL K H a vs:=fun H z=>by have:=G9 z s; unfold Sq at this; rw [qA3 qA4] at this; exact this
  refine ⟨fun i H hi z=>⟨vs,vs[i]'(by omega),hq H z,by simp⟩,fun H z=>⟨vs,hq H z,by omega⟩,fun i H x H' w hw z zz75 G2 ρ σ I sg=>?_⟩
  obtain ⟨e1,y⟩:=zz75
  subst e1
  have hx:=y vs (hq _ z)
  obtain ⟨v,hv,rv⟩:=Reps.get r hw
  rw [hx] at hv; cases hv
  exact ⟨G2,Ext.refl I.gh,Md.of_fz he (rv.same (L5 sg))⟩
def gG {lp:Bool} (I:PIv K H0 G ρ σ H):Same (if lp then join H0 G else H) H:=by
 cases lp
 ·exact Same.refl H
 ·exact I.join_H
def Fd {lp:Bool} {e:Mode} {ml:Rho->R W} {Rr:It->Hp->Prop} (he:e=.V\/e=.U) (h:tIt K EX lp e (fun ρ=>ml ρ>>=B3) σ H Rr):iSq K (tM K EX (bL lp e) ml) σ H Rr:=by
 obtain ⟨H0,G,ρ,I,o⟩:=h
 refine ⟨H0,G,ρ,I,?_⟩
 replace o:lE K EX lp e H0 G H (ml ρ>>=B3) Rr:=o
 revert o
 cases ml ρ with
 | stuck=>exact id
 | ex x=>exact id
 | ok w=>
  intro o x G1 H1 e1 m1
  have I1:=I.ext e1
  have o':lE K EX lp e H0 G H (B3 w) Rr:=o
  cases q:B3 w with
  | stuck=>rw [q] at o'; exact o'.elim
  | ex z=>cases w <;> cases q
  | ok ws=>
   rw [q] at o'
   obtain ⟨t,a,vs,ex,s,r⟩:=Md.src he I1 m1 q
   exact ⟨a,ex,t,vs,G9 (gG I1) s,o' _ G1 H1 e1 (xP he s r)⟩
def O8 (lo hi:Int):R (List W):=if -1000000<=lo/\lo<=1000000 /\ -1000000<=hi/\hi<=1000000 then .ok ((List.range (hi-lo).toNat).map fun k=>W.int (lo+(k:Nat))) else .stuck
def J2:List W->R (List W)
 | [.int j]=>O8 0 j
 | _=>.stuck
def rng2:List W->R (List W)
 | [.int i,.int j]=>O8 i j
 | _=>.stuck
def uH {e:Mode} {Z:Hp} {lo:Int} {n:Nat} (he:e=.V\/e=.U):bu K e H0 Z G (Itr lo n) ((List.range n).map fun k=>W.int (lo+(k:Nat))):=by
 refine ⟨fun i H hi _=>by show i<n; simpa using hi,fun H _=>by simp [Itr],fun i H x H' w hw _ zz76 G2 ρ σ I _=>?_⟩
 obtain ⟨e1,e2⟩:=zz76
 subst e1; subst e2
 rw [qB5] at hw
 cases q:(List.range n)[i]? with
 | none=>rw [q] at hw; cases hw
 | some k=>
  rw [q] at hw
  have hk:k=i:=by
   have:=qA7.mp q
   obtain ⟨h1,h2⟩:=this
   simpa using h2.symm
  subst hk
  cases hw
  refine ⟨G2,Ext.refl I.gh,Md.sca rfl (fun _=>.int) e⟩
def aP {lp:Bool} {e b:Mode} {ma:Rho->R (List W)} {k:List W->R (List W)} {Rr:It->Hp->Prop} {Q:List V->Hp->Prop} (h:tIt K EX lp e (fun ρ=>ma ρ>>=k) σ H Rr)
  (hq:∀ H0 G ρ G1 H1 xs ws us,PIv K H0 G ρ σ H->Ext G H G1 H1->MdA K b H0 H G1 H1 ws xs->k ws=.ok us->(∀ J G' H',Ext G H G' H'->bu K e H0 (if lp then join H0 G' else H') G' J us->Rr J H')->Q xs H1)
  (hx:∀ ws e,k ws≠.ex e):tA K EX b ma σ H Q:=by
 obtain ⟨H0,G,ρ,I,o⟩:=h
 refine ⟨H0,G,ρ,I,?_⟩
 replace o:lE K EX lp e H0 G H (ma ρ>>=k) Rr:=o
 revert o
 cases ma ρ with
 | stuck=>exact id
 | ex x=>exact id
 | ok ws=>
  intro o xs G1 H1 e1 m1
  have o':lE K EX lp e H0 G H (k ws) Rr:=o
  cases q:k ws with
  | stuck=>rw [q] at o'; exact o'.elim
  | ex z=>exact absurd q (hx ws z)
  | ok us=>rw [q] at o'; exact hq H0 G ρ G1 H1 xs ws us I e1 m1 q o'
def wE {lo hi:Int} {us:List W} (h:O8 lo hi=.ok us):(-1000000<=lo/\lo<=1000000 /\ -1000000<=hi/\hi<=1000000)/\us=(List.range (hi-lo).toNat).map fun k=>W.int (lo+(k:Nat)):=by
 unfold O8 at h
 split at h
 ·cases h; rename_i c; exact ⟨c,rfl⟩
 ·cases h
def tj {lo hi:Int} {e:XW} (h:O8 lo hi=.ex e):False:=by
 unfold O8 at h
 by_cases c:-1000000<=lo/\lo<=1000000 /\ -1000000<=hi/\hi<=1000000
 ·rw [qA1 c] at h; cases h
 ·rw [qA3 c] at h; cases h
def Ds {lp:Bool} {e:Mode} {ma:Rho->R (List W)} {Rr:It->Hp->Prop} (he:e=.V\/e=.U) (h:tIt K EX lp e (fun ρ=>ma ρ>>=J2) σ H Rr):vP (tA K EX .B ma) σ H Rr:=by
 refine aP h (fun H0 G ρ G1 H1 xs ws us I e1 m1 q o=>?_) (fun ws e z=>?_)
 ·cases m1 with
  | nil=>cases q
  | @cons w _ _ _ a t=>
   cases t with
   | cons _ _=>first | (cases q; done) | (cases w <;> cases q)
   | nil=>
    cases w <;> first | (cases q; done) | skip
    rename_i j
    obtain ⟨c,rfl⟩:=wE (show O8 0 j=_ from q)
    refine ⟨j,by rw [Md.intB a],by omega,by omega,?_⟩
    have:=o (Itr 0 j.toNat) G1 H1 e1
    rw [Int.sub_zero] at this
    exact this (uH he)
 ·cases ws with
  | nil=>cases z
  | cons w t=>
   cases t with
   | cons _ _=>first | (cases z; done) | (cases w <;> cases z)
   | nil=>
    cases w <;> first | (cases z; done) | skip
    exact tj (lo:=0) z
def aO:List (List W)->List (List W)
 | [xs,ys]=>xs.zipWith (fun x y=>[x,y]) ys
 | [xs,ys,zs]=>(xs.zip ys).zipWith (fun p z=>[p.1,p.2,z]) zs
 | _=>[]
def U8:List W->R (List (List W))
 | []=>.ok []
 | w::ws=>match B3 w,U8 ws with
  | .ok x,.ok xs=>.ok (x::xs)
  | _,_=>.stuck
def K1 (ws:List W):R (List W):=if ws.length=2\/ws.length=3 then (match U8 ws with
 | .ok xs=>.ok ((aO xs).map W.tup)
 | _=>.stuck) else .stuck
def gq {e:Mode} {p:Addr} {vs:List V} {ws:List W} {Hs:Hp} (he:e=.V\/e=.U) (I:PIv K H0 G ρ σ H) (hp:H p=none) (r:Reps K (fz e H0 G) vs ws):Ext G H (upd G p (.tup vs)) (upd H p (.tup vs))/\Md K H0 Hs (upd G p (.tup vs)) (upd H p (.tup vs)) (.ref p) (.tup ws) e:=by
 refine ⟨eG I.gh hp,?_⟩
 have gp:G p=none:=I.gh.free hp
 rcases he with rfl | rfl
 ·unfold fz at r
  rw [qA1 rfl] at r
  exact .tup l4 (r.same fun b u q=>by rw [c9 (d8 q gp)]; exact q)
 ·unfold fz at r
  rw [qA3 (show ¬ (Mode.U=Mode.V) by intro z; cases z)] at r
  show Rep K (join H0 (upd G p (.tup vs))) _ _
  rw [kM (I.hh.free hp)]
  exact .tup l4 (r.same fun b u q=>by rw [c9 (d8 (I.join_H b u q) hp)]; exact q)
def qR {e:Mode} {Z:Hp} {t u:Bool} {a b:Addr} {xs ys:List V} {us vs:List W} (he:e=.V\/e=.U) (s1:Sq K Z t a xs) (s2:Sq K Z u b ys) (r1:Reps K (fz e H0 G) xs us) (r2:Reps K (fz e H0 G) ys vs) :
  bu K e H0 Z G (ItZ K [(t,a),(u,b)]) ((us.zipWith (fun x y=>[x,y]) vs).map W.tup):=by
 have Rn:=pU s1 s2
 have l1:=r1.length
 have l2:=r2.length
 have hl:((us.zipWith (fun x y=>[x,y]) vs).map W.tup).length=min xs.length ys.length:=by simp [l1,l2]
 refine ⟨fun i H hi z=>Rn.go i H (by omega) z,fun H z=>by rw [hl]; exact Rn.stop H z,fun i H x H' w hw z y G2 ρ σ I sg=>?_⟩
 have hi:i<min xs.length ys.length:=by
  rw [<- hl]; exact (qA7.mp hw).1
 obtain ⟨p,y1,z1,rfl,hp,rfl,hy,hz⟩:=Rn.yld i H x H' hi z y
 obtain ⟨w1,e1,q1⟩:=Reps.get' r1 hy
 obtain ⟨w2,e2,q2⟩:=Reps.get' r2 hz
 have JK:w=.tup [w1,w2]:=by
  rw [qB5,qI5,e1,e2] at hw
  cases hw; rfl
 subst JK
 obtain ⟨x1,x2⟩:=gq (Hs:=H) he I hp (.cons (q1.same (L5 sg)) (.cons (q2.same (L5 sg)) .nil))
 exact ⟨_,x1,x2⟩
def qQ {e:Mode} {Z:Hp} {t u v:Bool} {a b c:Addr} {xs ys zs:List V} {us vs ts:List W} (he:e=.V\/e=.U) (s1:Sq K Z t a xs) (s2:Sq K Z u b ys) (s3:Sq K Z v c zs) (r1:Reps K (fz e H0 G) xs us) (r2:Reps K (fz e H0 G) ys vs) (r3:Reps K (fz e H0 G) zs ts) :
  bu K e H0 Z G (ItZ K [(t,a),(u,b),(v,c)]) (((us.zip vs).zipWith (fun p z=>[p.1,p.2,z]) ts).map W.tup):=by
 have Rn:=pT s1 s2 s3
 have l1:=r1.length
 have l2:=r2.length
 have l3:=r3.length
 have hl:(((us.zip vs).zipWith (fun p z=>[p.1,p.2,z]) ts).map W.tup).length=min xs.length (min ys.length zs.length):=by simp [l1,l2,l3,Nat.min_assoc]
 refine ⟨fun i H hi z=>Rn.go i H (by omega) z,fun H z=>by rw [hl]; exact Rn.stop H z,fun i H x H' w hw z y G2 ρ σ I sg=>?_⟩
 have hi:i<min xs.length (min ys.length zs.length):=by
  rw [<- hl]; exact (qA7.mp hw).1
 obtain ⟨p,y1,z1,t1,rfl,hp,rfl,hy,hz,ht⟩:=Rn.yld i H x H' hi z y
 obtain ⟨w1,e1,q1⟩:=Reps.get' r1 hy
 obtain ⟨w2,e2,q2⟩:=Reps.get' r2 hz
 obtain ⟨w3,e3,q3⟩:=Reps.get' r3 ht
 have JK:w=.tup [w1,w2,w3]:=by
  rw [qB5,qI5,List.zip,qI5,e1,e2,e3] at hw
  cases hw; rfl
 subst JK
 obtain ⟨x1,x2⟩:=gq (Hs:=H) he I hp (.cons (q1.same (L5 sg)) (.cons (q2.same (L5 sg)) (.cons (q3.same (L5 sg)) .nil)))
 exact ⟨_,x1,x2⟩
def aS {w:W} {ws:List W} {xs:List (List W)} (h:U8 (w::ws)=.ok xs):∃ y ys,B3 w=.ok y/\U8 ws=.ok ys/\xs=y::ys:=by
 unfold U8 at h
 cases h1:B3 w with
 | stuck=>rw [h1] at h; cases h
 | ex _=>rw [h1] at h; cases h
 | ok y=>
  rw [h1] at h
  cases h2:U8 ws with
  | stuck=>rw [h2] at h; cases h
  | ex _=>rw [h2] at h; cases h
  | ok ys=>rw [h2] at h; cases h; exact ⟨y,ys,rfl,rfl,rfl⟩
def ES {lp:Bool} {e:Mode} {ma:Rho->R (List W)} {Rr:It->Hp->Prop} (he:e=.V\/e=.U) (h:tIt K EX lp e (fun ρ=>ma ρ>>=K1) σ H Rr):Cf K (tA K EX (bL lp e) ma) σ H Rr:=by
 refine aP h (fun H0 G ρ G1 H1 xs ws us I e1 m1 q o=>?_) (fun ws e z=>?_)
 ·have I1:=I.ext e1
  unfold K1 at q
  split at q
  ·rename_i hn
   cases hs:U8 ws with
   | stuck=>rw [hs] at q; cases q
   | ex _=>rw [hs] at q; cases q
   | ok ls=>
    rw [hs] at q
    cases q
    cases m1 with
    | nil=>simp at hn
    | cons a1 m1=>
     cases m1 with
     | nil=>simp at hn
     | cons a2 m1=>
      obtain ⟨y1,ys,h1,JM,rfl⟩:=aS hs
      obtain ⟨y2,ys,h2,HU,rfl⟩:=aS JM
      obtain ⟨t1,p1,v1,rfl,q1,r1⟩:=Md.src he I1 a1 h1
      obtain ⟨t2,p2,v2,rfl,q2,r2⟩:=Md.src he I1 a2 h2
      have k1:=G9 (gG I1) q1
      have k2:=G9 (gG I1) q2
      cases m1 with
      | nil=>
       cases HU
       refine ⟨[(t1,p1),(t2,p2)],rfl,.inl rfl,fun u hu=>?_,o _ G1 H1 e1 (qR he q1 q2 r1 r2)⟩
       simp only [qB3,qD6,or_false] at hu
       rcases hu with rfl | rfl
       ·exact ⟨_,k1⟩
       ·exact ⟨_,k2⟩
      | cons a3 m1=>
       cases m1 with
       | cons _ _=>simp at hn
       | nil=>
        obtain ⟨y3,ys,h3,hs3,rfl⟩:=aS HU
        cases hs3
        obtain ⟨t3,p3,v3,rfl,q3,r3⟩:=Md.src he I1 a3 h3
        refine ⟨[(t1,p1),(t2,p2),(t3,p3)],rfl,.inr rfl,fun u hu=>?_,o _ G1 H1 e1 (qQ he q1 q2 q3 r1 r2 r3)⟩
        simp only [qB3,qD6,or_false] at hu
        rcases hu with rfl | rfl | rfl
        ·exact ⟨_,k1⟩
        ·exact ⟨_,k2⟩
        ·exact ⟨_,G9 (gG I1) q3⟩
  ·cases q
 ·unfold K1 at z
  split at z
  ·split at z <;> cases z
  ·cases z
end
end TP
namespace TP
open PySem L2
section
variable {K:Frag} {EX:EXT} {H0 G H G1 H1 G2 H2:Hp} {ρ:Rho} {σ:St} {d:Mode} {D:Ends} {Q:VK}
def Reps.atI {F:Hp} {vs:List V} {ws:List W} {i:Int} {w:W} (r:Reps K F vs ws) (h:L2.atI ws i=some w):∃ v,L2.atI vs i=some v/\Rep K F v w:=by
 unfold L2.atI at h ⊢
 rw [r.length]
 cases q:ixN ws.length i with
 | none=>rw [q] at h; cases h
 | some j=>rw [q] at h; exact Reps.get r h
def fIx:W->W->R W
 | .lst ws,.int i=>toR (L2.atI ws i)
 | .tup ws,.int i=>toR (L2.atI ws i)
 | .scr ws,.int i=>toR (L2.atI ws i)
 | _,_=>.stuck
def Be:Op2 K .B .U (rIx K) fIx:=by
 intro EX H0 Hs G H ρ σ Ha Hb x y u v Q I s mx my o
 cases u <;> first | exact o.elim | skip
 all_goals (cases v <;> first | exact o.elim | skip)
 ·rename_i ws i
  obtain ⟨a,vs,rfl,hs,r⟩:=mx.tupB I
  replace o:Out EX G H (mdW K .U H0 Hs) (toR (L2.atI ws i)) Q:=o
  cases q:L2.atI ws i with
  | none=>rw [q] at o; exact o.elim
  | some w=>
   rw [q] at o
   obtain ⟨v,hv,rv⟩:=r.atI q
   exact .inr (.inl ⟨a,vs,i,v,rfl,my.intB,SqT.of hs,hv,o v G H (Ext.refl I.gh) rv⟩)
 ·rename_i ws i
  obtain ⟨a,vs,rfl,hs,r⟩:=mx.lstB I
  replace o:Out EX G H (mdW K .U H0 Hs) (toR (L2.atI ws i)) Q:=o
  cases q:L2.atI ws i with
  | none=>rw [q] at o; exact o.elim
  | some w=>
   rw [q] at o
   obtain ⟨v,hv,rv⟩:=r.atI q
   exact .inl ⟨a,vs,i,v,rfl,my.intB,SqL.of hs,hv,o v G H (Ext.refl I.gh) rv⟩
 ·rename_i ws i
  obtain ⟨a,vs,rfl,hs,r⟩:=mx.scrB I
  replace o:Out EX G H (mdW K .U H0 Hs) (toR (L2.atI ws i)) Q:=o
  cases q:L2.atI ws i with
  | none=>rw [q] at o; exact o.elim
  | some w=>
   rw [q] at o
   obtain ⟨v,hv,rv⟩:=r.atI q
   exact .inl ⟨a,vs,i,v,rfl,my.intB,hs,hv,o v G H (Ext.refl I.gh) rv⟩
def Bd:Op2 K .C .V (rIx K) fIx:=by
 intro EX H0 Hs G H ρ σ Ha Hb x y u v Q I s mx my o
 cases u <;> first | exact o.elim | skip
 all_goals (cases v <;> first | exact o.elim | skip)
 ·rename_i ws i
  obtain ⟨a,vs,rfl,hs,r⟩:=mx.tupC I
  replace o:Out EX G H (mdW K .V H0 Hs) (toR (L2.atI ws i)) Q:=o
  cases q:L2.atI ws i with
  | none=>rw [q] at o; exact o.elim
  | some w=>
   rw [q] at o
   obtain ⟨v,hv,rv⟩:=r.atI q
   exact .inr (.inl ⟨a,vs,i,v,rfl,Md.intB (Md.CB I my),SqT.of hs,hv,o v G H (Ext.refl I.gh) rv⟩)
 ·rename_i ws i
  obtain ⟨a,vs,rfl,hs,r⟩:=mx.lstC I
  replace o:Out EX G H (mdW K .V H0 Hs) (toR (L2.atI ws i)) Q:=o
  cases q:L2.atI ws i with
  | none=>rw [q] at o; exact o.elim
  | some w=>
   rw [q] at o
   obtain ⟨v,hv,rv⟩:=r.atI q
   exact .inl ⟨a,vs,i,v,rfl,Md.intB (Md.CB I my),SqL.of hs,hv,o v G H (Ext.refl I.gh) rv⟩
 ·rename_i ws i
  obtain ⟨a,vs,rfl,hs,r⟩:=(Md.repC mx fun _=>W.noConfusion).inv
  replace o:Out EX G H (mdW K .V H0 Hs) (toR (L2.atI ws i)) Q:=o
  cases q:L2.atI ws i with
  | none=>rw [q] at o; exact o.elim
  | some w=>
    rw [q] at o
    obtain ⟨v,hv,rv⟩:=r.atI q
    exact .inl ⟨_,_,i,v,rfl,Md.intB (Md.CB I my),Same.seq I.gh hs,hv,o v G H (Ext.refl I.gh) rv⟩
def bJ (K:Frag) (EX:EXT) (m:Rho->R (Option Int)):TO:=fun σ H Q=>∃ H0 G ρ,PIv K H0 G ρ σ H/\Out EX G H (fun (b c:Option Int) _ _=>c=b) (m ρ) Q
def iJ:W->R (Option Int)
 | .int i=>.ok (some i)
 | _=>.stuck
def vg {Q:Option Int->Hp->Prop} (h:bJ K EX (fun _=>.ok none) σ H Q):tNoPart σ H Q:=by
 obtain ⟨H0,G,ρ,I,o⟩:=h
 exact o none G H (Ext.refl I.gh) rfl
def Du {m:Rho->R W} {Q:Option Int->Hp->Prop} (h:bJ K EX (fun ρ=>m ρ>>=iJ) σ H Q):vv (tM K EX .B m) σ H Q:=by
 obtain ⟨H0,G,ρ,I,o⟩:=h
 refine ⟨H0,G,ρ,I,Out.bind o fun x G1 H1 u e1 m1 o1=>?_⟩
 cases u <;> first | exact o1.elim | skip
 rename_i i
 exact ⟨i,m1.intB,o1 _ G1 H1 (Ext.refl e1.gh) rfl⟩
def N7 (xs:List W) (lo hi:Option Int):List W:=(xs.drop (HT.sIx xs.length 0 lo)).take (HT.sIx xs.length xs.length hi-HT.sIx xs.length 0 lo)
def Reps.cut {F:Hp} {vs:List V} {ws:List W} (r:Reps K F vs ws) (lo hi:Option Int):Reps K F (gP vs lo hi) (N7 ws lo hi):=by
 unfold gP N7
 rw [r.length]
 exact (r.drop _).take _
def lstOf:W->Option (List W)
 | .lst ws=>some ws
 | .scr ws=>some ws
 | _=>none
def chks (c:Bool) (ws:List W):R W:=if c||m5 ws then .ok (.lst ws) else .stuck
def cb (c:Bool):Mode:=if c then .C else .B
def Md.lstOf {c:Bool} {Ha:Hp} {x:V} {w:W} {ws:List W} (I:PIv K H0 G ρ σ H) (m:Md K H0 Ha G H x w (cb c)) (h:lstOf w=some ws):∃ a vs,x=.ref a/\SqL K H a vs/\Reps K (if c then G else join H0 G) vs ws:=by
 cases c with
 | true=>
  rw [qA1 rfl]
  cases w <;> first | cases h | skip
  ·obtain ⟨a,vs,e,hs,r⟩:=Md.lstC (H:=Ha) I m
   exact ⟨a,vs,e,SqL.of hs,r⟩
  ·obtain ⟨a,vs,e,hs,r⟩:=(Md.repC m fun _=>W.noConfusion).inv
   exact ⟨a,vs,e,Same.seq I.gh hs,r⟩
 | false=>
  rw [qA3 qA4]
  cases w <;> first | cases h | skip
  ·obtain ⟨a,vs,e,hs,r⟩:=Md.lstB (H:=Ha) I m
   exact ⟨a,vs,e,SqL.of hs,r⟩
  ·exact Md.scrB (H:=Ha) I m
def Out.chks {c:Bool} {Hs:Hp} {vs:List V} {ws:List W} (I:PIv K H0 G ρ σ H) (s:Same Hs H) (r:Reps K (if c then G else join H0 G) vs ws) (o:Out EX G H (mdW K .F H0 Hs) (chks c ws) Q):∀ p,H p=none->Q (.ref p) (upd H p (.lst vs)):=by
 unfold TP.chks at o
 by_cases n:(c||m5 ws)=true
 ·rw [qA1 n] at o
  have r':Reps K G vs ws:=by
   cases c with
   | true=>rw [qA1 rfl] at r; exact r
   | false=>rw [qA3 qA4] at r; exact Reps.clean I r (by simpa using n)
  exact fun p hp=>Out.newL I s r' hp o
 ·rw [qA3 n] at o; exact o.elim
def c_sl {c:Bool} {m:Rho->R W} {ml mh:Rho->R (Option Int)} (h:tM K EX .F (fun ρ=>m ρ>>=fun x=>ml ρ>>=fun l=>mh ρ>>=fun u=>toR (lstOf x)>>=fun ws=>chks c (N7 ws l u)) σ H Q) :
  tSl (Au K) (tM K EX (cb c) m) (bJ K EX ml) (bJ K EX mh) σ H Q:=by
 obtain ⟨H0,G,ρ,I,o⟩:=h
 refine ⟨H0,G,ρ,I,Out.bind o fun x G1 H1 w e1 m1 o1=>⟨H0,G1,ρ,I.ext e1,Out.bind o1 fun l' G2 H2 l e2 m2 o2=>⟨H0,G2,ρ,(I.ext e1).ext e2,Out.bind o2 fun u' G3 H3 u e3 m3 o3=>?_⟩⟩⟩
 subst m2; subst m3
 have I3:=((I.ext e1).ext e2).ext e3
 cases q:lstOf w with
 | none=>rw [q] at o3; exact o3.elim
 | some ws=>
  rw [q] at o3
  obtain ⟨a,vs,ex,hs,r⟩:=Md.lstOf I3 ((m1.move e2).move e3) q
  refine ⟨a,vs,ex,hs,Out.chks I3 ((e1.hh.trans e2.hh).trans e3.hh) (c:=c) ?_ o3⟩
  cases c with
  | true=>rw [qA1 rfl] at r ⊢; exact r.cut _ _
  | false=>rw [qA3 qA4] at r ⊢; exact r.cut _ _
def Cal (K:Frag) (b d:Mode) (r:List V->Hp->VK->Prop) (f:List W->R W):Prop:=∀ (EX:EXT) (H0 Hs G H:Hp) (ρ:Rho) (σ:St) (Ha:Hp) (vs:List V) (ws:List W) (Q:VK),PIv K H0 G ρ σ H->Same Hs H->MdA K b H0 Ha G H ws vs ->
 Out EX G H (mdW K d H0 Hs) (f ws) Q->r vs H Q
def vh {b:Mode} {r:List V->Hp->VK->Prop} {f:List W->R W} {ma:Rho->R (List W)} (hr:Cal K b d r f) (h:tM K EX d (fun ρ=>ma ρ>>=fun ws=>f ws) σ H Q):tCB r (tA K EX b ma) σ H Q:=by
 obtain ⟨H0,G,ρ,I,o⟩:=h
 exact ⟨H0,G,ρ,I,Out.bind o fun xs G1 H1 ws e1 m1 o1=>hr EX H0 H G1 H1 ρ σ H xs ws Q (I.ext e1) e1.hh m1 o1⟩
def fLen:List W->R W
 | [w]=>B3 w>>=fun ws=>.ok (.int ws.length)
 | _=>.stuck
def t5:Cal K .B d (fun xs H Q=>∃ p ys,xs = [.ref p]/\(SqL K H p ys\/SqT K H p ys)/\Q (.int ys.length) H) fLen:=by
 intro EX H0 Hs G H ρ σ Ha vs ws Q I s m o
 cases m with
 | nil=>exact o.elim
 | cons a t=>
  cases t with
  | cons _ _=>exact o.elim
  | nil=>
   rename_i w v
   cases w <;> first | exact o.elim | skip
   ·obtain ⟨p,ys,rfl,hs,r⟩:=a.tupB I
    exact ⟨p,ys,rfl,.inr (SqT.of hs),by rw [r.length]; exact o _ G H (Ext.refl I.gh) (Md.sca rfl (fun _=>.int) d)⟩
   ·obtain ⟨p,ys,rfl,hs,r⟩:=a.lstB I
    exact ⟨p,ys,rfl,.inl (SqL.of hs),by rw [r.length]; exact o _ G H (Ext.refl I.gh) (Md.sca rfl (fun _=>.int) d)⟩
   ·obtain ⟨p,ys,rfl,hs,r⟩:=a.scrB I
    exact ⟨p,ys,rfl,.inl hs,by rw [r.length]; exact o _ G H (Ext.refl I.gh) (Md.sca rfl (fun _=>.int) d)⟩
def iP (c:Bool):List W->R W
 | [w]=>B3 w>>=chks c
 | _=>.stuck
def DI {c:Bool}:Cal K (cb c) .F (fun xs H Q=>∃ p ys,xs = [.ref p]/\(SqL K H p ys\/SqT K H p ys)/\∀ l,H l=none->Q (.ref l) (upd H l (.lst ys))) (iP c):=by
 intro EX H0 Hs G H ρ σ Ha vs ws Q I s m o
 cases m with
 | nil=>exact o.elim
 | cons a t=>
  cases t with
  | cons _ _=>exact o.elim
  | nil=>
   rename_i w v
   cases w <;> first | exact o.elim | skip
   ·rename_i us
    cases c with
    | true=>
     obtain ⟨p,ys,rfl,hs,r⟩:=Md.tupC (H:=Ha) I a
     exact ⟨p,ys,rfl,.inr (SqT.of hs),Out.chks (c:=true) I s r o⟩
    | false=>
     obtain ⟨p,ys,rfl,hs,r⟩:=Md.tupB (H:=Ha) I a
     exact ⟨p,ys,rfl,.inr (SqT.of hs),Out.chks (c:=false) I s r o⟩
   ·obtain ⟨p,ys,rfl,hs,r⟩:=Md.lstOf I a rfl
    exact ⟨p,ys,rfl,.inl hs,Out.chks I s r o⟩
   ·obtain ⟨p,ys,rfl,hs,r⟩:=Md.lstOf I a rfl
    exact ⟨p,ys,rfl,.inl hs,Out.chks I s r o⟩
def Z0 (c:Bool) (ws:List W):R W:=if c||m5 ws then .ok (.tup ws) else .stuck
def E6 (c:Bool):List W->R W
 | [w]=>B3 w>>=Z0 c
 | _=>.stuck
def F9 {c:Bool}:Cal K (cb c) .F (fun xs H Q=>∃ p ys,xs = [.ref p]/\((SqL K H p ys/\∀ l,H l=none->Q (.ref l) (upd H l (.tup ys)))\/(SqT K H p ys/\Q (.ref p) H))) (E6 c):=by
 intro EX H0 Hs G H ρ σ Ha vs ws Q I s m o
 have key:∀ {vs:List V} {us:List W},Reps K (if c then G else join H0 G) vs us->Out EX G H (mdW K .F H0 Hs) (Z0 c us) Q->Reps K G vs us/\Out EX G H (mdW K .F H0 Hs) (.ok (.tup us)) Q:=fun {vs us} r o=>by
  unfold Z0 at o
  by_cases n:(c||m5 us)=true
  ·rw [qA1 n] at o
   refine ⟨?_,o⟩
   cases c with
   | true=>rw [qA1 rfl] at r; exact r
   | false=>rw [qA3 qA4] at r; exact Reps.clean I r (by simpa using n)
  ·rw [qA3 n] at o; exact o.elim
 cases m with
 | nil=>exact o.elim
 | cons a t=>
  cases t with
  | cons _ _=>exact o.elim
  | nil=>
   rename_i w v
   cases w <;> first | exact o.elim | skip
   ·rename_i us
    have hx:∃ p ys,v=.ref p/\(if c then G else join H0 G) p=some (.tup ys)/\Reps K (if c then G else join H0 G) ys us:=by
     cases c with
     | true=>rw [qA1 rfl]; exact (Md.repC a fun _=>W.noConfusion).inv
     | false=>rw [qA3 qA4]; exact (Md.repB a fun _=>W.noConfusion).inv
    obtain ⟨p,ys,rfl,hp,r⟩:=hx
    obtain ⟨r',o'⟩:=key r o
    have hH:H p=some (.tup ys):=by
     cases c with
     | true=>rw [qA1 rfl] at hp; exact I.gh _ _ hp
     | false=>rw [qA3 qA4] at hp; exact I.join_H _ _ hp
    have hG:G p=some (.tup ys):=by
     cases c with
     | true=>rw [qA1 rfl] at hp; exact hp
     | false=>
      rw [qA3 qA4] at hp
      unfold join at hp
      cases q:H0 p with
      | none=>rw [q] at hp; exact hp
      | some u=>
       rw [q] at hp
       dsimp only at hp
       by_cases hl:isL u=true
       ·rw [qA1 hl] at hp; cases hp; cases hl
       ·rw [qA3 hl] at hp; exact hp
    exact ⟨p,ys,rfl,.inr ⟨SqT.of hH,o' _ G H (Ext.refl I.gh) (.tup hG r')⟩⟩
   ·obtain ⟨p,ys,rfl,hs,r⟩:=Md.lstOf I a rfl
    obtain ⟨r',o'⟩:=key r o
    exact ⟨p,ys,rfl,.inl ⟨hs,fun l hl=>Out.newTF I r' hl o'⟩⟩
   ·obtain ⟨p,ys,rfl,hs,r⟩:=Md.lstOf I a rfl
    obtain ⟨r',o'⟩:=key r o
    exact ⟨p,ys,rfl,.inl ⟨hs,fun l hl=>Out.newTF I r' hl o'⟩⟩
def f2 (g:Int->Int->Int):List W->R W
 | [.int i,.int j]=>.ok (.int (g i j))
 | _=>.stuck
def b_2 {g:Int->Int->Int}:Cal K .B d (fun xs H Q=>∃ i j,xs = [.int i,.int j]/\Q (.int (g i j)) H) (f2 g):=by
 intro EX H0 Hs G H ρ σ Ha vs ws Q I s m o
 unfold f2 at o
 split at o
 ·cases m with
  | cons a t=>
   cases t with
   | cons b t=>
    cases t
    exact ⟨_,_,by rw [a.intB,b.intB],o _ G H (Ext.refl I.gh) (Md.sca rfl (fun _=>.int) d)⟩
 ·exact o.elim
def tyW:W->Option String
 | .non=>some "NoneType"
 | .bl _=>some "bool"
 | .int _=>some "int"
 | .str _=>some "str"
 | .tup _=>some "tuple"
 | .lst _=>some "list"
 | _=>none
def fIsi:List W->R W
 | [x,.ty T]=>toR ((tyW x).bind fun A=>E5 A T)>>=fun b=>.ok (.bl b)
 | _=>.stuck
def ow (c:Bool):W->W->R W
 | .lst us,.lst vs=>if us.length+vs.length<=1000 then chks c (us++vs) else .stuck
 | _,_=>.stuck
def Bf {c:Bool}:Op2 K (cb c) .F rCat (ow c):=by
 intro EX H0 Hs G H ρ σ Ha Hb x y u v Q I s mx my o
 cases u <;> first | exact o.elim | skip
 all_goals (cases v <;> first | exact o.elim | skip)
 rename_i us vs
 replace o:Out EX G H (mdW K .F H0 Hs) (if us.length+vs.length<=1000 then chks c (us++vs) else .stuck) Q:=o
 by_cases hn:us.length+vs.length<=1000
 ·rw [qA1 hn] at o
  have h1:∃ a ws,x=.ref a/\H a=some (.lst ws)/\Reps K (if c then G else join H0 G) ws us:=by
   cases c with
   | true=>exact Md.lstC (H:=Ha) I mx
   | false=>exact Md.lstB (H:=Ha) I mx
  have h2:∃ a ws,y=.ref a/\H a=some (.lst ws)/\Reps K (if c then G else join H0 G) ws vs:=by
   cases c with
   | true=>exact Md.lstC (H:=Hb) I my
   | false=>exact Md.lstB (H:=Hb) I my
  obtain ⟨a,xs,rfl,ha,ra⟩:=h1
  obtain ⟨b,ys,rfl,hb,rb⟩:=h2
  exact ⟨a,b,xs,ys,rfl,rfl,ha,hb,by rw [ra.length,rb.length]; exact aD hn,Out.chks I s (ra.append rb) o⟩
 ·rw [qA3 hn] at o; exact o.elim
def fRep (c:Bool):W->W->R W
 | .lst us,.int k=>if us.length*k.toNat<=1000 /\ -1000<=k/\k<=1000 then chks c (List.replicate k.toNat us).flatten else .stuck
 | _,_=>.stuck
end
end TP
namespace TP
open PySem L2
def mC (w:W):Rho->R W:=fun _=>.ok w
def b1 (f:W->R W) (ma:Rho->R W):Rho->R W:=fun ρ=>ma ρ>>=fun x=>f x
def b2 (f:W->W->R W) (ma mb:Rho->R W):Rho->R W:=fun ρ=>ma ρ>>=fun x=>mb ρ>>=fun y=>f x y
def bA (f:List W->R W) (ma:Rho->R (List W)):Rho->R W:=fun ρ=>ma ρ>>=fun ws=>f ws
def bI (f:List W->R (List W)) (ma:Rho->R (List W)):Rho->R (List W):=fun ρ=>ma ρ>>=f
def bS (ma:Rho->R W):Rho->R (List W):=fun ρ=>ma ρ>>=B3
def aN:Rho->R (List W):=fun _=>.ok []
def aC (ma:Rho->R W) (mr:Rho->R (List W)):Rho->R (List W):=fun ρ=>ma ρ>>=fun x=>mr ρ>>=fun xs=>.ok (x::xs)
def cE (ma:Rho->R W):Rho->R W:=fun ρ=>ma ρ>>=chk
def d9 (ma:Rho->R W):Rho->R Bool:=fun ρ=>ma ρ>>=toB
def R6 (a b:Rho->R Bool):Rho->R Bool:=fun ρ=>rAnd (a ρ) (b ρ)
def al (a b:Rho->R Bool):Rho->R Bool:=fun ρ=>rOr (a ρ) (b ρ)
def J8 (a:Rho->R Bool):Rho->R Bool:=fun ρ=>nP (a ρ)
def nt (a b:Rho->R W):Rho->R W:=fun ρ=>cR (a ρ) (b ρ)
def vOr (a b:Rho->R W):Rho->R W:=fun ρ=>jC (a ρ) (b ρ)
def vNot (a:Rho->R W):Rho->R W:=fun ρ=>nO (a ρ)
def vIf (c:Rho->R Bool) (a b:Rho->R W):Rho->R W:=fun ρ=>c ρ>>=fun t=>if t then a ρ else b ρ
def eT (f f':W->W->R W) (ma mb mc:Rho->R W):Rho->R W:=fun ρ=>ma ρ>>=fun x=>mb ρ>>=fun y=>f x y>>=fun z=>toB z>>=fun c=>if c then mc ρ>>=fun u=>f' y u else .ok (.bl false)
def F2 (ma:Rho->R (List W)):Rho->R W:=fun ρ=>ma ρ>>=fun ws=>lim ws.length (.tup ws)
def D5 (ma:Rho->R (List W)):Rho->R W:=fun ρ=>ma ρ>>=fun ws=>lim ws.length (.lst ws)
def pN:Rho->R (Option Int):=fun _=>.ok none
def pS (m:Rho->R W):Rho->R (Option Int):=fun ρ=>m ρ>>=iJ
def vSl (c:Bool) (m:Rho->R W) (ml mh:Rho->R (Option Int)):Rho->R W:=fun ρ=>m ρ>>=fun x=>ml ρ>>=fun l=>mh ρ>>=fun u=>toR (lstOf x)>>=fun ws=>chks c (N7 ws l u)
def o8 (n:Nat) (mi:Rho->R (List W)) (mg:W->Rho->Option Rho) (mc:Rho->R Bool) (me:Rho->R W):Rho->R W:=fun ρ=>mi ρ>>=fun ws=>m9 n mg mc me ws ρ
def yes:Rho->R Bool:=fun _=>.ok true
def sNx:Rho->R Fl:=fun ρ=>.ok (.nx ρ)
def Ee (m:Rho->R W):Rho->R Fl:=fun ρ=>m ρ>>=fun _=>.ok (.nx ρ)
def h7 (m:Rho->R W):Rho->R Fl:=fun ρ=>m ρ>>=fun w=>.ok (.rt w)
def Eb:Rho->R Fl:=fun _=>.ok (.rt .non)
def sV (i:Nat) (m:Rho->R W):Rho->R Fl:=fun ρ=>m ρ>>=fun w=>.ok (.nx (ρ.set i (.val w)))
def sU (i:Nat) (m:Rho->R W):Rho->R Fl:=fun ρ=>m ρ>>=fun w=>.ok (.nx (ρ.set i (.par w)))
def sF (i:Nat) (m:Rho->R W):Rho->R Fl:=fun ρ=>m ρ>>=fun w=>.ok (.nx (ρ.set i (R8 w)))
def sG (mg:W->Rho->Option Rho) (m:Rho->R W):Rho->R Fl:=fun ρ=>m ρ>>=fun w=>toR (mg w ρ)>>=fun ρ'=>.ok (.nx ρ')
def E3 (mi:Rho->R (List W)) (mg:W->Rho->Option Rho) (mb:Rho->R Fl):Rho->R Fl:=fun ρ=>mi ρ>>=fun ws=>K5 mg mb ws ρ
def nL (i:Nat) (m:Rho->R Fl):Rho->R Fl:=fun ρ=>m (frz i ρ)
def jt:Rho->R Fl:=fun _=>.stuck
def sBk:Rho->R Fl:=fun ρ=>.ok (.bk ρ)
def sCt:Rho->R Fl:=fun ρ=>.ok (.ct ρ)
section
variable {X:Cx} {e:Expr} {es:List Expr} {st:Stmt} {HH:List Stmt}
def _root_.L2.PE.mono {t t':TE} (h:PE X e t) (hm:∀ σ H Q,t' σ H Q->t σ H Q):PE X e t':=fun pins s σ H Q I q=>h pins s σ H Q I (hm σ H Q q)
def _root_.L2.PT.mono {t t':TT} (h:PT X e t) (hm:∀ σ H Q,t' σ H Q->t σ H Q):PT X e t':=fun pins s σ H Q I q=>h pins s σ H Q I (hm σ H Q q)
def _root_.L2.PW.mono {t t':TT} (h:PW X e t) (hm:∀ σ H Q,t' σ H Q->t σ H Q):PW X e t':=fun wh pins s σ H Q I q=>h wh pins s σ H Q I (hm σ H Q q)
def _root_.L2.PA.mono {t t':TA} (h:PA X es t) (hm:∀ σ H Q,t' σ H Q->t σ H Q):PA X es t':=fun pos pins s σ H Q I q=>h pos pins s σ H Q I (hm σ H Q q)
def _root_.L2.PS.mono {t t':TS} (h:PS X st t) (hm:∀ D σ H,t' D σ H->t D σ H):PS X st t':=fun pins s σ H D I q=>h pins s σ H D I (hm D σ H q)
def _root_.L2.PSs.mono {t t':TS} (h:PSs X HH t) (hm:∀ D σ H,t' D σ H->t D σ H):PSs X HH t':=fun pins s σ H D I q=>h pins s σ H D I (hm D σ H q)
def _root_.L2.PI.mono {tg:Expr} {t t':TI} (h:PI X tg e t) (hm:∀ σ H Q,t' σ H Q->t σ H Q):PI X tg e t':=fun pins s σ H Q I q=>h pins s σ H Q I (hm σ H Q q)
def _root_.L2.PO.mono {oe:Option Expr} {t t':TO} (h:PO X oe t) (hm:∀ σ H Q,t' σ H Q->t σ H Q):PO X oe t':=by
 intro pins s σ H Q I q
 exact h pins s σ H Q I (hm σ H Q q)
end
section
variable {X:Cx} {K:Frag} {EX:EXT} {d b:Mode} {a c e:Expr} {es rest:List Expr} {pos:Pos} {ma mb mc:Rho->R W} {ta tb:Rho->R Bool} {mr:Rho->R (List W)}
def C5 (h:PE X e (tM K EX .F ma)):PE X e (tM K EX .V ma):=h.mono fun _ _ _ q=>xu q
def nS (h:PE X e (tM K EX .V ma)):PE X e (tM K EX .U ma):=h.mono fun _ _ _ q=>xq q
def q_VC (h:PE X e (tM K EX .V ma)):PE X e (tM K EX .C ma):=h.mono fun _ _ _ q=>xr q
def g7 (h:PE X e (tM K EX .F ma)):PE X e (tM K EX .C ma):=h.mono fun _ _ _ q=>xv q
def f6 (h:PE X e (tM K EX .U ma)):PE X e (tM K EX .B ma):=h.mono fun _ _ _ q=>xt q
def i6 (h:PE X e (tM K EX .C ma)):PE X e (tM K EX .B ma):=h.mono fun _ _ _ q=>xw q
def fc (h:PE X e (tM K EX .U ma)):PE X e (tM K EX .V (cE ma)):=h.mono fun _ _ _ q=>jX (.inr rfl) q
def AF (h:PE X e (tM K EX .U ma)):PE X e (tM K EX .F (cE ma)):=h.mono fun _ _ _ q=>jX (.inl rfl) q
def qv (d:Mode) (i:Nat) {x:Str} (hN:X.N[i]?=some x:=by rfl) (hv:Vis X.env.scope x:=by first | exact Or.inl rfl | exact Or.inr (Or.inl rfl) | exact Or.inr (Or.inr rfl)) (hd:(x == ("__debug__" : Str))=false:=by decide)
  (GN:(x == ("__classdict__" : Str))=false:=by decide):PE X (.Name x pos) (tM K EX d (b7 d i)):=(X2 hN hv hd GN).mono fun _ _ _ q=>oG q
def c7 {i j}:PE X (.Constant (.int i) j pos) (tM K EX d (mC (.int i))):=pe_int.mono fun _ _ _ q=>dB rfl (fun _=>.int) q
def z9 {t j}:PE X (.Constant (.bool t) j pos) (tM K EX d (mC (.bl t))):=pe_bl.mono fun _ _ _ q=>dB rfl (fun _=>.bl) q
def v7 {j}:PE X (.Constant .none j pos) (tM K EX d (mC .non)):=pe_non.mono fun _ _ _ q=>dB rfl (fun _=>.non) q
def C9 {x j}:PE X (.Constant (.str x) j pos) (tM K EX d (mC (.str x))):=pe_str.mono fun _ _ _ q=>dB rfl (fun _=>.str) q
def f7 {op:Operator} {r:R2} {f:W->W->R W} (ho:OpR X (binaryOp op) r) (hr:Op2 K b d r f) (ha:PE X a (tM K EX b ma)) (hb:PE X c (tM K EX b mb)):PE X (.BinOp a op c pos) (tM K EX d (b2 f ma mb)):=
 (Et ho ha hb).mono fun _ _ _ q=>lq hr q
def S4 {op:CmpOp} {r:R2} {f:W->W->R W} (ho:OpR X (compareOp op) r) (hr:Op2 K b d r f) (ha:PE X a (tM K EX b ma)) (hb:PE X c (tM K EX b mb)) (hm:behindInMarks op c=false:=by first | exact jT _ | rfl):PE X (.Compare a [op] [c] pos) (tM K EX d (b2 f ma mb)):=
 (xc ho ha hb hm).mono fun _ _ _ q=>lq hr q
def f9 {op:CmpOp} {r:R2} {f:W->W->R W} (ho:OpR X (compareOp op) r) (hr:Op2 K b .B r f) (ha:PE X a (tM K EX b ma)) (hb:PE X c (tM K EX b mb)) (hm:behindInMarks op c=false:=by first | exact jT _ | rfl):PT X (.Compare a [op] [c] pos) (tT K EX (d9 (b2 f ma mb))):=
 (wV ho ha hb hm).mono fun σ H Q q=>by
  obtain ⟨H0,G,ρ,I,o⟩:=q
  have:=ln (ma:=b2 f ma mb) ⟨H0,G,ρ,I,o⟩
  exact lq hr this
def jD {op:UnaryOp} {r:V->Hp->VK->Prop} {f:W->R W} (ho:UnR X (unaryOp op) r) (hr:Op1 K b d r f) (ha:PE X a (tM K EX b ma)):PE X (.UnaryOp op a pos) (tM K EX d (b1 f ma)):=
 (Es ho ha).mono fun _ _ _ q=>c_un hr q
def y4 (ha:PE X a (tM K EX .B ma)) (he:∀ whole,isTrue a X.env whole=(do let v <- whole; standAt a.pos; holding [v] (truthy v)):=by intro _; rfl):PT X a (tT K EX (d9 ma)):=
 (AJ ha he).mono fun _ _ _ q=>c_tB q
def O1 (ha:PT X a (tT K EX ta)):PW X (.BoolOp .And [a] pos) (tT K EX ta):=wU ha
def X0 (ha:PT X a (tT K EX ta)):PW X (.BoolOp .Or [a] pos) (tT K EX ta):=AH ha
def U1 {b:Expr} (ha:PT X a (tT K EX ta)) (hb:PW X (.BoolOp .And (b::rest) pos) (tT K EX tb)):PW X (.BoolOp .And (a::b::rest) pos) (tT K EX (R6 ta tb)):=(AI ha hb).mono fun _ _ _ q=>Fj q
def ab {b:Expr} (ha:PT X a (tT K EX ta)) (hb:PW X (.BoolOp .Or (b::rest) pos) (tT K EX tb)):PW X (.BoolOp .Or (a::b::rest) pos) (tT K EX (al ta tb)):=(Ek ha hb).mono fun _ _ _ q=>c_or q
def G8 (ha:PT X a (tT K EX ta)):PT X (.UnaryOp .Not a pos) (tT K EX (J8 ta)):=(AK ha).mono fun _ _ _ q=>EY q
def vC {op} (h:PE X a (tM K EX d ma)):PE X (.BoolOp op [a] pos) (tM K EX d ma):=AT h
def vG {b:Expr} (ha:PE X a (tM K EX .B ma)) (hb:PE X (.BoolOp .And (b::rest) pos) (tM K EX d mb)):PE X (.BoolOp .And (a::b::rest) pos) (tM K EX d (nt ma mb)):=(AW ha hb).mono fun _ _ _ q=>DC q
def tO {t:Expr} (ht:PT X t (tT K EX ta)) (ha:PE X a (tM K EX d ma)) (hb:PE X c (tM K EX d mb)):PE X (.IfExp t a c pos) (tM K EX d (vIf ta ma mb)):=(tV ht ha hb).mono fun _ _ _ q=>c_if q
def tN {op IP:CmpOp} {r r':R2} {f f':W->W->R W} {x y z:Expr} (ho:OpR X (compareOp op) r) (hr:Op2 K b .B r f) (Ho:OpR X (compareOp IP) r') (Lg:Op2 K b .B r' f') (ha:PE X x (tM K EX b ma)) (hb:PE X y (tM K EX b mb)) (hc:PE X z (tM K EX b mc))
  (hm:lastMarks [op,IP] [y,z]=false:=by with_unfolding_all rfl):PT X (.Compare x [op,IP] [y,z] pos) (tT K EX (d9 (eT f f' ma mb mc))):=
 (tP ho Ho ha hb hc hm).mono fun σ H Q q=>by
  obtain ⟨H0,G,ρ,I,o⟩:=q
  have:=ln (ma:=eT f f' ma mb mc) ⟨H0,G,ρ,I,o⟩
  exact yD hr Lg this
def b8:PA X [] (tA K EX d aN):=pa_nil.mono fun _ _ _ q=>EZ q
def b6 (ha:PE X e (tM K EX d ma)) (hr:PA X es (tA K EX d mr)) (hs:starEach (e::es) X.env=(false,eval e X.env)::starEach es X.env:=by rfl):PA X (e::es) (tA K EX d (aC ma mr)):=(aB ha hr hs).mono fun _ _ _ q=>Dx q
def S3 {x1} (h:PA X es (tA K EX .V mr)):PE X (.Tuple es x1 pos) (tM K EX .F (F2 mr)):=(qq h).mono fun _ _ _ q=>ET q
def az {x1} (h:PA X es (tA K EX .U mr)):PE X (.Tuple es x1 pos) (tM K EX .U (F2 mr)):=(qq h).mono fun _ _ _ q=>Do q
def D4 (h:PA X es (tA K EX .V mr)):PE X (.List es pos) (tM K EX .F (D5 mr)):=(AU h).mono fun _ _ _ q=>Fa q
def d7 (ha:PE X a (tM K EX .B ma)) (hb:PE X c (tM K EX .B mb)) (hs:gY c:=by exact fun _ _=>rfl) (hK:X.K=K:=by rfl):PE X (.Subscript a c pos) (tM K EX .U (b2 fIx ma mb)):=by
 subst hK; exact (vI qP ha hb hs).mono fun _ _ _ q=>lq Be q
def nR (ha:PE X a (tM K EX .C ma)) (hb:PE X c (tM K EX .C mb)) (hs:gY c:=by exact fun _ _=>rfl) (hK:X.K=K:=by rfl):PE X (.Subscript a c pos) (tM K EX .V (b2 fIx ma mb)):=by
 subst hK; exact (vI qP ha hb hs).mono fun _ _ _ q=>lq Bd q
def q_pN:PO X none (bJ K EX pN):=po_none.mono fun _ _ _ q=>vg q
def q_pS (h:PE X e (tM K EX .B ma)):PO X (some e) (bJ K EX (pS ma)):=(wX h).mono fun _ _ _ q=>Du q
def q_sl (k:Bool) {lo hi:Option Expr} {p2:Pos} {ml mh:Rho->R (Option Int)} (he:PE X e (tM K EX (cb k) ma)) (hl:PO X lo (bJ K EX ml)) (hu:PO X hi (bJ K EX mh)) (hK:X.K=K:=by rfl):PE X (.Subscript e (.Slice lo hi none p2) pos) (tM K EX .F (vSl k ma ml mh)):=by
 subst hK; exact (tU wq he hl hu).mono fun _ _ _ q=>c_sl q
def w4 {x:Str} {id:String} {r:List V->Hp->VK->Prop} {f:List W->R W} {p:Pos} (hc:K0 X (.builtin id) r) (hr:Cal K b d r f) (hg:Gl X x) (hm:X.mg x=none) (hv:bootBuiltins x=some (.builtin id)) (ha:PA X (e::es) (tA K EX b mr))
  (hn:x ≠ "__name__" := by decide) (GR:(x == ("__debug__" : Str))=false:=by decide) (he:starEach (e::es) X.env=(false,eval e X.env)::starEach es X.env:=by rfl) (GH:(backTo pos (starEach es X.env)).any (·.1)=false:=by rfl) :
  PE X (.Call (.Name x p) (e::es) [] pos) (tM K EX d (bA f mr)):=(tW hc hg hm hv ha hn GR he GH).mono fun _ _ _ q=>vh hr q
def J3 {x:Str} {T:String} {r:List V->Hp->VK->Prop} {f:List W->R W} {p:Pos} (hc:K0 X (.type T) r) (hr:Cal K b d r f) (hg:Gl X x) (hm:X.mg x=none) (hv:bootBuiltins x=some (.type T)) (ha:PA X (e::es) (tA K EX b mr))
  (hn:x ≠ "__name__" := by decide) (GR:(x == ("__debug__" : Str))=false:=by decide) (he:starEach (e::es) X.env=(false,eval e X.env)::starEach es X.env:=by rfl) (GH:(backTo pos (starEach es X.env)).any (·.1)=false:=by rfl) :
  PE X (.Call (.Name x p) (e::es) [] pos) (tM K EX d (bA f mr)):=(qr hc hg hm hv ha hn GR he GH).mono fun _ _ _ q=>vh hr q
def t6 (hK:X.K=K:=by rfl):K0 X (.builtin "len") (fun xs H Q=>∃ p ys,xs = [.ref p]/\(SqL K H p ys\/SqT K H p ys)/\Q (.int ys.length) H):=by subst hK; exact lm
def DW (hK:X.K=K:=by rfl):K0 X (.type "list") (fun xs H Q=>∃ p ys,xs = [.ref p]/\(SqL K H p ys\/SqT K H p ys)/\∀ l,H l=none->Q (.ref l) (upd H l (.lst ys))):=by subst hK; exact ll
def G0 (hK:X.K=K:=by rfl):K0 X (.type "tuple") (fun xs H Q=>∃ p ys,xs = [.ref p]/\((SqL K H p ys/\∀ l,H l=none->Q (.ref l) (upd H l (.tup ys)))\/(SqT K H p ys/\Q (.ref p) H))):=by subst hK; exact iH
def d5 {k:Nat} {f:Addr} {fd:FuncData} {ps:List Str} {x:Str} {p:Pos} {n N:Nat} {m:Rho->R Fl} (F:FnOk X.prog X.w X.K X.mg X.base CX0 k f fd ps (spM K n d (g8 n N m))) (hd:d=.F\/d=.V) (hr:Room k X.A) (hg:Gl X x) (hm:X.mg x=some (.ref f)) (hk:PySem.W.keepIn X.K (.ref f)=true) (hb:Binds X.K fd ps [])
  (ha:PA X (e::es) (tA K (fun _ _=>False) .B mr)) (GR:(x == ("__debug__" : Str))=false:=by decide) (he:starEach (e::es) X.env=(false,eval e X.env)::starEach es X.env:=by rfl) (GH:(backTo pos (starEach es X.env)).any (·.1)=false:=by rfl) :
  PE X (.Call (.Name x p) (e::es) [] pos) (tM K (fun _ _=>False) d (bA (g8 n N m) mr)):=
 (cV F hr hg hm hk hb .nil fg ha GR he GH).mono fun _ _ _ q=>Dy hd (fun ws h=>tf ws h) (fun _ _ z=>z) q
variable {tg:Expr} {lp:Bool}
def vE (h:PE X e (tM K EX (bL lp .U) ma)) (hK:X.K=K:=by rfl):PI X tg e (tIt K EX lp .U (bS ma)):=by subst hK; exact (Er h).mono fun _ _ _ q=>Fd (.inr rfl) q
def C4 {p:Pos} (hg:Gl X "range") (hm:X.mg "range" = none) (ha:PA X [a] (tA K EX .B mr)) (hs:starEach [a] X.env = [(false,eval a X.env)]:=by rfl):PI X tg (.Call (.Name "range" p) [a] [] pos) (tIt K EX lp .U (bI J2 mr)):=
 (qp hg hm ha hs).mono fun _ _ _ q=>Ds (.inr rfl) q
def vB {elts:List Expr} {p tp:Pos} {k:Nat} (hg:Gl X "zip") (hm:X.mg "zip" = none) (ha:PA X (a::es) (tA K EX (bL lp .U) mr)) (hK:X.K=K:=by rfl) (hs:starEach (a::es) X.env=(false,eval a X.env)::starEach es X.env:=by rfl) (GH:(backTo pos (starEach es X.env)).any (·.1)=false:=by rfl) :
  PI X (.Tuple elts k tp) (.Call (.Name "zip" p) (a::es) [] pos) (tIt K EX lp .U (bI K1 mr)):=by subst hK; exact (AQ hg hm ha hs GH).mono fun _ _ _ q=>ES (.inr rfl) q
end
section
variable {X:Cx} {K:Frag} {EX:EXT} {d b:Mode} {e:Expr} {st:Stmt} {HH:List Stmt} {pos:Pos} {ma mb:Rho->R W} {ta:Rho->R Bool} {m n:Rho->R Fl}
def u7 {cs:Scope} {N':List Str} {tg iter elt:Expr} {ifs:List Expr} {dd:Mode} {g:TG} {mg:W->Rho->Option Rho} {mi:Rho->R (List W)} (S:g6 X.env.scope cs X.N N') (hc:X.calm=true) (hi:PI X tg iter (tIt K EX false dd mi))
  (hg:∀ cl ex s H,PG (k7 X cs cl N' ex s H) tg g) (JT:Gt K dd g mg) (hk:ak X.N.length g) (ht:∀ cl ex s H,PIf (k7 X cs cl N' ex s H) ifs (tT K EX ta)) (he:∀ cl ex s H,PE (k7 X cs cl N' ex s H) elt (tM K EX .V ma))
  (hs:∀ x,foldedSetIterable iter X.env x=pure x:=by intro _; rfl):PE X (.ListComp elt [⟨tg,iter,ifs,0⟩] cs pos) (tM K EX .F (o8 N'.length mi mg ta ma)):=
 (xb S hc hi hg hk ht he hs).mono fun _ _ _ q=>rL JT q
def jE {i:Nat} {y:Str} {py:Pos} {cs:Scope} {N':List Str} {tg iter elt:Expr} {ifs:List Expr} {dd:Mode} {g:TG} {mg:W->Rho->Option Rho} {mi:Rho->R (List W)} {Gi:Pos} (S:g6 X.env.scope cs X.N N') (hc:X.calm=true) (hi:PI X tg iter (tIt K EX false dd mi))
  (hg:∀ cl ex s H,PG (k7 X cs cl N' ex s H) tg g) (JT:Gt K dd g mg) (hk:ak X.N.length g) (ht:∀ cl ex s H,PIf (k7 X cs cl N' ex s H) ifs (tT K EX ta)) (he:∀ cl ex s H,PE (k7 X cs cl N' ex s H) elt (tM K EX .V ma))
  (hN:X.N.Nodup) (hy:X.N[i]?=some y) (hl:Loc X.env.scope y)
  (Hl:swapsWith (.ListComp elt [⟨tg,iter,ifs,0⟩] cs Gi) (some (.Name y py)) pos.line X.env=pure true:=by rfl) (hf:X.fn y=true\/X.env.scope.names.lookup y=some .local:=by first | exact .inl rfl | exact .inr rfl | assumption)
  (hs:∀ x,foldedSetIterable iter X.env x=pure x:=by intro _; rfl):PS X (.Assign [.Name y py] (.ListComp elt [⟨tg,iter,ifs,0⟩] cs Gi) pos) (tSt K EX d (sF i (o8 N'.length mi mg ta ma))):=
 (wW S hc hi hg hk ht he hN hy hl Hl hf hs).mono fun D σ H q=>by
  have:=rK (m:=o8 N'.length mi mg ta ma) q
  exact rL JT this
def w8:PIf X [] (tT K EX yes):=fun pins s σ H Q I q=>wZ pins s σ H Q I (by obtain ⟨H0,G,ρ,I0,o⟩:=q; exact o true G H (Ext.refl I0.gh) rfl)
def bU {c:Expr} (h:PT X c (tT K EX ta)):PIf X [c] (tT K EX ta):=wY h
def j5:PSs X [] (tSt K EX d sNx):=pss_nil.mono fun _ _ _ q=>Dv q
def c8 (h1:PS X st (tSt K EX d m)) (h2:PSs X HH (tSt K EX d n)):PSs X (st::HH) (tSt K EX d (d6 m n)):=(jF h1 h2).mono fun _ _ _ q=>EU q
def c6 (h1:PS X st (tSt K EX d m)):PSs X [st] (tSt K EX d m):=mw h1
def vF {i:Nat} (h:PS X st (tSt K EX d m)):PS X st (tSt K EX d (nL i m)):=h.mono fun _ _ _ q=>Fe q
def mt:PS X st (tSt K EX d jt):=ps_never.mono fun _ _ _ q=>yC q
def g5 (he:PE X e (tM K EX d ma)):PS X (.Return (some e) pos) (tSt K EX d (h7 ma)):=(qi he).mono fun _ _ _ q=>vV q
def K4 (i:Nat) {x:Str} {p:Pos} (hd:d=.F\/d=.V) (hN:X.N[i]?=some x:=by rfl) (hv:Vis X.env.scope x:=by first | exact Or.inl rfl | exact Or.inr (Or.inl rfl) | exact Or.inr (Or.inr rfl)) (hdd:(x == ("__debug__" : Str))=false:=by decide)
  (GN:(x == ("__classdict__" : Str))=false:=by decide):PS X (.Return (some (.Name x p)) pos) (tSt K EX d (v9 d i)):=(qi (X2 hN hv hdd GN)).mono fun _ _ _ q=>vf hd q
def t9 {i:Nat} {x:Str} {pos':Pos} (hN:X.N.Nodup) (hi:X.N[i]?=some x) (hx:Loc X.env.scope x) (he:PE X e (tM K EX .V ma)) (hs:swapsWith e (some (.Name x pos')) pos.line X.env=pure false:=by rfl) (hf:X.fn x=true\/X.env.scope.names.lookup x=some .local:=by first | exact .inl rfl | exact .inr rfl | assumption) :
  PS X (.Assign [.Name x pos'] e pos) (tSt K EX d (sV i ma)):=(ff hN hi hx he hs hf).mono fun _ _ _ q=>Dp q
def qh {i:Nat} {x:Str} {pos':Pos} (hN:X.N.Nodup) (hi:X.N[i]?=some x) (hx:Loc X.env.scope x) (he:PE X e (tM K EX .U ma)) (hs:swapsWith e (some (.Name x pos')) pos.line X.env=pure false:=by rfl) (hf:X.fn x=true\/X.env.scope.names.lookup x=some .local:=by first | exact .inl rfl | exact .inr rfl | assumption) :
  PS X (.Assign [.Name x pos'] e pos) (tSt K EX d (sU i ma)):=(ff hN hi hx he hs hf).mono fun _ _ _ q=>Dq q
def i8 {i:Nat} {x:Str} {pos':Pos} (hN:X.N.Nodup) (hi:X.N[i]?=some x) (hx:Loc X.env.scope x) (he:PE X e (tM K EX .F ma)) (hs:swapsWith e (some (.Name x pos')) pos.line X.env=pure false:=by rfl) (hf:X.fn x=true\/X.env.scope.names.lookup x=some .local:=by first | exact .inl rfl | exact .inr rfl | assumption) :
  PS X (.Assign [.Name x pos'] e pos) (tSt K EX d (sF i ma)):=(ff hN hi hx he hs hf).mono fun _ _ _ q=>rK q
def P0 {i:Nat} {x:Str} {p apos Gi:Pos} (hN:X.N[i]?=some x) (hv:Vis X.env.scope x) (ha:PE X e (tM K EX .V ma)) (hd:(x == ("__debug__" : Str))=false:=by decide) (GN:(x == ("__classdict__" : Str))=false:=by decide)
  (Go:attributeBase (.Name x p) "append" X.env (eval (.Name x p) X.env)=eval (.Name x p) X.env:=by rfl)
  (GV:((backTo Gi (starEach [e] X.env)).all (fun x=>!x.1)&&(backToKw Gi (keywordEach [] X.env)).all (fun x=>x.1.isSome)
   && decide (([e]:List Expr).length+([]:List Keyword).length+(if ([]:List Keyword).isEmpty then 0 else 1)<30))=true:=by rfl)
  (Gn:(apos.endLine == Gi.line)=true:=by rfl) (hs:starEach [e] X.env=(false,eval e X.env)::starEach [] X.env:=by rfl) (Hl:swapsWith (.Call (.Attribute (.Name x p) "append" apos) [e] [] Gi) none pos.line X.env=pure false:=by rfl) :
  PS X (.Expr (.Call (.Attribute (.Name x p) "append" apos) [e] [] Gi) pos) (tSt K EX d (N2 i ma)):=(aA (ii (X2 hN hv hd GN) ha Go GV Gn hs) Hl).mono fun _ _ _ q=>Fi q
def j6 {c:Expr} {x y:List Stmt} (hc:PT X c (tT K EX ta)) (ha:PSs X x (tSt K EX d m)) (hb:PSs X y (tSt K EX d n)):PS X (.If c x y pos) (tSt K EX d (mIf ta m n)):=(vH hc ha hb).mono fun _ _ _ q=>Fb q
def cS {c:Expr} {body:List Stmt} (hp:PassesOwn (model X.prog X.w) X.A X.env X.xe) (hc:PT X c (tT K EX ta)) (hb:PSs X body (tSt K EX d m)):PS X (.While c body [] pos) (tSt K EX d (M0 ta m)):=(tQ hp hc hb).mono fun _ _ _ q=>yB q
def D0 {tg iter:Expr} {body:List Stmt} {dd:Mode} {g:TG} {mg:W->Rho->Option Rho} {mi:Rho->R (List W)} (hp:PassesOwn (model X.prog X.w) X.A X.env X.xe) (hc:X.calm=true) (hi:PI X tg iter (tIt K EX true dd mi)) (hg:PG X tg g) (JT:Gt K dd g mg) (hb:PSs X body (tSt K EX d m))
  (hs:∀ x,foldedSetIterable iter X.env x=pure x:=by intro _; rfl):PS X (.For tg iter body [] pos) (tSt K EX d (E3 mi mg m)):=(AL hp hc hi hg hb hs).mono fun _ _ _ q=>Ff JT q
def Ej {i:Nat} {x:Str} {op:Operator} {f:Int->Int->Int} {pos':Pos} (hN:X.N.Nodup) (hi:X.N[i]?=some x) (hx:Loc X.env.scope x) (he:PE X e (tM K EX .B ma)) (ho:PIp X op (ipI f)) (hf:X.fn x=true\/X.env.scope.names.lookup x=some .local:=by first | exact .inl rfl | exact .inr rfl | assumption) :
  PS X (.AugAssign (.Name x pos') op e pos) (tSt K EX d (kC i f ma)):=(AM hN hi hx he ho hf).mono fun _ _ _ q=>Fh q
end
end TP
namespace TP
open PySem L2
abbrev gLt (i j:Int):W:=.bl (decide (i<j))
abbrev gLe (i j:Int):W:=.bl (decide (i<=j))
abbrev gGt (i j:Int):W:=.bl (decide (j<i))
abbrev gGe (i j:Int):W:=.bl (decide (j<=i))
abbrev B5 (i j:Int):W:=.int (i+j)
abbrev gSub (i j:Int):W:=.int (i-j)
abbrev p9 (i j:Int):W:=.int (i*j)
abbrev l6 (i j:Int):W:=.int (i%j)
abbrev F5 (i j:Int):W:=.int (i/j)
abbrev kR (i j:Int):W:=.int (i^j.toNat)
abbrev X9 (i:Int):W:=.int (-i)
abbrev ou (i j:Int):Int:=if j>i then j else i
abbrev Ci (i j:Int):Int:=if j<i then j else i
abbrev vR (i j:Int):Int:=i+j
abbrev EG (i j:Int):Int:=i-j
abbrev k9 (_ j:Int):Prop:=0<j
instance (i j:Int):Decidable (CMul i j):=by unfold CMul; infer_instance
instance (i j:Int):Decidable (B6 i j):=by unfold B6; infer_instance
instance (i j:Int):Decidable (bv i j):=by unfold bv; infer_instance
instance (i j:Int):Decidable (wc i j):=by unfold wc; infer_instance
def vOf:W->Option V
 | .non=>some .non
 | .bl b=>some (.bl b)
 | .int i=>some (.int i)
 | .str x=>some (.str x)
 | _=>none
def uY (u v:W):Option Bool:=match vOf u,vOf v with
 | some x,some y=>if jq x y then some (decide (x=y)) else none
 | _,_=>none
def j9 (neg:Bool) (u v:W):R W:=match uY u v with
 | some b=>.ok (.bl (if neg then !b else b))
 | none=>.stuck
section
variable {K:Frag} {H0 G H:Hp} {ρ:Rho} {σ:St} {d:Mode}
def iI {Ha:Hp} {v:V} {w:W} {x:V} (h:Md K H0 Ha G H v w .B) (e:vOf w=some x):v=x:=by
 cases w <;> first | cases e | skip
 ·exact h.nonB
 ·exact h.blB
 ·exact h.intB
 ·exact h.strB
def E4:Op2 K .B d rEq (j9 false):=by
 intro EX H0 Hs G H ρ σ Ha Hb x y u v Q I s mx my o
 unfold j9 uY at o
 cases hu:vOf u with
 | none=>rw [hu] at o; exact o.elim
 | some p=>
  cases hv:vOf v with
  | none=>rw [hu,hv] at o; exact o.elim
  | some q=>
   rw [hu,hv] at o
   cases iI mx hu
   cases iI my hv
   dsimp only at o
   by_cases c:jq x y=true
   ·rw [qA1 c] at o
    exact ⟨c,o _ G H (Ext.refl I.gh) (Md.sca rfl (fun _=>.bl) d)⟩
   ·rw [qA3 c] at o; exact o.elim
def X3:Op2 K .B d rNe (j9 true):=by
 intro EX H0 Hs G H ρ σ Ha Hb x y u v Q I s mx my o
 unfold j9 uY at o
 cases hu:vOf u with
 | none=>rw [hu] at o; exact o.elim
 | some p=>
  cases hv:vOf v with
  | none=>rw [hu,hv] at o; exact o.elim
  | some q=>
   rw [hu,hv] at o
   cases iI mx hu
   cases iI my hv
   dsimp only at o
   by_cases c:jq x y=true
   ·rw [qA1 c] at o
    exact ⟨c,o _ G H (Ext.refl I.gh) (Md.sca rfl (fun _=>.bl) d)⟩
   ·rw [qA3 c] at o; exact o.elim
end
end TP
namespace TP
open PySem L2
mutual
def pd:W->PyData
 | .non=>.none
 | .bl b=>.bool b
 | .int i=>.int i
 | .str x=>.str x
 | .ty _=>.none
 | .exc _ _=>.none
 | .cls _=>.none
 | .tup ws=>.tuple (pds ws)
 | .lst ws=>.list (pds ws)
 | .scr ws=>.list (pds ws)
def pds:List W->List PyData
 | []=>[]
 | w::ws=>pd w::pds ws
end
mutual
def shp:Nat->W->Bool
 | _,.non=>true
 | _,.bl _=>true
 | _,.int _=>true
 | _,.str x=>PyData.strOk x
 | n+1,.tup ws=>W7 n ws
 | n+1,.lst ws=>W7 n ws
 | n+1,.scr ws=>W7 n ws
 | _,_=>false
def W7:Nat->List W->Bool
 | _,[]=>true
 | n,w::ws=>shp n w&&W7 n ws
end
def zu:∀ (w:W) (n:Nat),shp n w=true->(pd w).canLay0=true/\(pd w).depth<=n:=by
 intro w
 have tl:∀ (ws:List W) (c:List PyData->PyData),(∀ l,(c l).canLay0=PyData.canLayAll0 l)->(∀ l,(c l).depth=PyData.depthAll l+1)->(∀ n:Nat,W7 n ws=true->PyData.canLayAll0 (pds ws)=true/\PyData.depthAll (pds ws)<=n)->∀ n:Nat,(match n with | 0=>false | n+1=>W7 n ws)=true->(c (pds ws)).canLay0=true/\(c (pds ws)).depth<=n:=fun ws c h1 h2 ih n h=>by
  cases n with
  | zero=>cases h
  | succ n=>have:=ih n h; exact ⟨by rw [h1]; exact this.1,by rw [h2]; exact qE8 this.2⟩
 have fl:∀ {n:Nat} {w:W} {P:Prop},shp n w=false->shp n w=true->P:=fun h1 h2=>by rw [h1] at h2; cases h2
 induction w using W.rec (motive_2:=fun ws=>∀ n:Nat,W7 n ws=true->PyData.canLayAll0 (pds ws)=true/\PyData.depthAll (pds ws)<=n) with
 | non=>exact fun n _=>⟨rfl,qC3 _⟩
 | bl b=>exact fun n _=>⟨rfl,qC3 _⟩
 | int i=>exact fun n _=>⟨rfl,qC3 _⟩
 | str x=>exact fun n h=>⟨by cases n <;> exact h,qC3 _⟩
 | ty a=>exact fun n h=>fl (by cases n <;> rfl) h
 | exc a b=>exact fun n h=>fl (by cases n <;> rfl) h
 | cls a=>exact fun n h=>fl (by cases n <;> rfl) h
 | tup ws ih=>exact fun n h=>tl ws .tuple (fun _=>rfl) (fun _=>rfl) ih n (by cases n <;> exact h)
 | lst ws ih=>exact fun n h=>tl ws .list (fun _=>rfl) (fun _=>rfl) ih n (by cases n <;> exact h)
 | scr ws ih=>exact fun n h=>tl ws .list (fun _=>rfl) (fun _=>rfl) ih n (by cases n <;> exact h)
 | nil=>exact ⟨rfl,qC3 _⟩
 | cons w ws h1 h2=>
  rename_i n h
  have h':shp n w=true/\W7 n ws=true:=(qG8 _ _).mp h
  have a:=h1 n h'.1
  have b:=h2 n h'.2
  exact ⟨by show (PyData.canLay0 _&&PyData.canLayAll0 _)=true; rw [a.1,b.1]; rfl,Nat.max_le.mpr ⟨a.2,b.2⟩⟩
section
variable {X:Cx} {pins:List (Addr×Obj)} {σ:St} {H:Hp} {s:Shared}
def Rep.reads (I:Inv X pins σ H s) {x:V} {w:W} {u:Value} (n:Nat) (r:Rep X.K H x w):shp n w=true->RelV x u->∃ as,Reads s.heap u (pd w) as:=by
 have fl:∀ {n:Nat} {w:W} {P:Prop},shp n w=false->shp n w=true->P:=fun h1 h2=>by rw [h1] at h2; cases h2
 induction r using Rep.rec (motive_2:=fun xs ws _=>∀ (us:List Value) (n:Nat),W7 n ws=true->Vals xs us->∃ as,ReadsAll s.heap us (pds ws) as) generalizing u n with
 | non=>intro _ r; cases r; exact ⟨_,.none⟩
 | bl=>intro _ r; cases r; exact ⟨_,.bool _⟩
 | int=>intro _ r; obtain ⟨t,rfl⟩:=r; exact ⟨_,.int _ _⟩
 | str=>intro _ r; obtain ⟨t,rfl⟩:=r; exact ⟨_,.str _ _⟩
 | ty=>exact fun h _=>fl (by cases n <;> rfl) h
 | exc=>exact fun h _=>fl (by cases n <;> rfl) h
 | cls=>exact fun h _=>fl (by cases n <;> rfl) h
 | tup ha _ ih=>
  intro h r
  cases r
  cases n with
  | zero=>cases h
  | succ n=>
   obtain ⟨its,rv,⟨o,e,c,k,dd⟩,_⟩:=I.tuple (SqT.of ha)
   obtain ⟨as,q⟩:=ih _ n h rv
   exact ⟨_,.tuple e c dd (by simpa using q)⟩
 | lst ha _ ih=>
  intro h r
  cases r
  cases n with
  | zero=>cases h
  | succ n=>
   obtain ⟨its,rv,pl,_⟩:=I.list (SqL.of ha)
   obtain ⟨o,e,c,k,dd⟩:=pl.isList
   obtain ⟨as,q⟩:=ih _ n h rv
   exact ⟨_,.list e c dd (by simpa using q)⟩
 | scr ha _ ih=>
  intro h r
  cases r
  cases n with
  | zero=>cases h
  | succ n=>
   obtain ⟨its,rv,pl,_⟩:=I.list ha
   obtain ⟨o,e,c,k,dd⟩:=pl.isList
   obtain ⟨as,q⟩:=ih _ n h rv
   exact ⟨_,.list e c dd (by simpa using q)⟩
 | nil=>rename_i us n _ r; cases r; exact ⟨_,.nil⟩
 | cons _ _ h1 h2=>
  rename_i us n h r
  cases r with
  | cons r1 r2=>
   have h':=(qG8 _ _).mp h
   obtain ⟨as,q1⟩:=h1 n h'.1 r1
   obtain ⟨bs,q2⟩:=h2 _ n h'.2 r2
   exact ⟨_,.cons q1 q2⟩
def eqW (u v:W):Bool:=PyData.eqv (pd u) (pd v)
def tH (K:Frag) (neg:Bool):R2:=fun x y H Q=>∃ u v,Rep K H x u/\Rep K H y v/\shp 8 u=true/\shp 8 v=true/\Q (.bl (if neg then !eqW u v else eqW u v)) H
def Z7 {w:W} (h:shp 8 w=true):SeqAt.shaped (pd w)=true:=by
 obtain ⟨a,b⟩:=zu w 8 h
 unfold SeqAt.shaped
 rw [a,Bool.true_and]
 exact decide_eq_true (qA9 b (by decide))
def fm (hu:X.A.units+64<cLine):OpR X (compareOp .Eq) (tH X.K false):=by
 intro pins s σ H x y v u Q I rx ry h
 obtain ⟨a,b,ra,rb,sa,sb,q⟩:=h
 obtain ⟨as,qa⟩:=Rep.reads I 8 ra sa rx
 obtain ⟨bs,qb⟩:=Rep.reads I 8 rb sb ry
 exact PyProof.Rows.eq_dataH qa qb (Z7 sa) (Z7 sb) hu ⟨.bl (eqW a b),H,I,rfl,q⟩
def bZ (hu:X.A.units+64<cLine):OpR X (compareOp .NotEq) (tH X.K true):=by
 intro pins s σ H x y v u Q I rx ry h
 obtain ⟨a,b,ra,rb,sa,sb,q⟩:=h
 obtain ⟨as,qa⟩:=Rep.reads I 8 ra sa rx
 obtain ⟨bs,qb⟩:=Rep.reads I 8 rb sb ry
 exact PyProof.Rows.ne_dataH qa qb (Z7 sa) (Z7 sb) hu ⟨.bl (!eqW a b),H,I,rfl,q⟩
def fEq (neg:Bool) (u v:W):R W:=if shp 8 u&&shp 8 v then .ok (.bl (if neg then !eqW u v else eqW u v)) else .stuck
def P2 {K:Frag} {d:Mode} {neg:Bool}:Op2 K .B d (tH K neg) (fEq neg):=by
 intro EX H0 Hs G H ρ σ Ha Hb x y u v Q I s mx my o
 unfold fEq at o
 by_cases c:(shp 8 u&&shp 8 v)=true
 ·rw [qA1 c] at o
  have c':shp 8 u=true/\shp 8 v=true:=by simpa using c
  exact ⟨u,v,mx.whole I,my.whole I,c'.1,c'.2,o _ G H (Ext.refl I.gh) (Md.sca rfl (fun _=>.bl) d)⟩
 ·rw [qA3 c] at o; exact o.elim
def qw:OpR X (compareOp .Is) (fun x y H Q=>∃ b,y=.bl b/\Q (.bl (decide (x=.bl b))) H):=by
 intro pins s σ H x y v u Q I rx ry h
 obtain ⟨b,rfl,q⟩:=h
 cases ry
 cases x <;> first
  | (cases rx; exact wpAny_is_plain rfl (i5 I q (by cases b <;> first | rfl | (rename_i c; cases c <;> rfl))))
  | (obtain ⟨t,rfl⟩:=rx; exact wpAny_is_plain rfl (i5 I q (by cases b <;> rfl)))
def X8:W->Bool->Bool
 | .bl a,b=>a == b
 | _,_=>false
def cz (neg:Bool):W->W->R W
 | u,.bl b=>.ok (.bl (if neg then !X8 u b else X8 u b))
 | _,_=>.stuck
def BT {K:Frag} {H0 Hs G1 H1:Hp} {v:V} {w:W} {b:Bool} (h:Md K H0 Hs G1 H1 v w .B):decide (v=.bl b)=X8 w b:=by
 rcases h with h | ⟨a,vs,ws,rfl,rfl,_⟩
 ·cases h <;> first
   | (rename_i c; cases c <;> cases b <;> rfl)
   | (apply decide_eq_false; intro z; cases z)
 ·apply decide_eq_false; intro z; cases z
def qA {K:Frag} {d:Mode}:Op2 K .B d (fun x y H Q=>∃ b,y=.bl b/\Q (.bl (decide (x=.bl b))) H) (cz false):=by
 intro EX H0 Hs G H ρ σ Ha Hb x y u v Q I s mx my o
 cases v <;> first | exact o.elim | skip
 rename_i b
 refine ⟨b,my.blB,?_⟩
 rw [BT mx]
 exact o _ G H (Ext.refl I.gh) (Md.sca rfl (fun _=>.bl) d)
end
def bg {A:Around} {k:Nat} (hr:Room k A):A.units+64<cLine:=hr.units
end TP
namespace TP
open PySem L2
section
variable {X:Cx} {pins:List (Addr×Obj)} {σ:St} {H:Hp} {s:Shared}
def Q2 {x:V} {us:List Value} (r:Vals [x] us):∃ u,us = [u]/\RelV x u:=by
 cases r with
 | cons a t=>cases t; exact ⟨_,rfl,a⟩
def qO {h':Heap} {o:Obj} (hk:∀ b u,b ∉ [s.heap.objs.size]->(s.heap.push o).get? b=some u->h'.get? b=some u):∀ b u,s.heap.get? b=some u->h'.get? b=some u:=fun b u e=>
 hk b u (by simp; exact qC7 (qB7 e)) (qA6 _ e)
def za {α:Type} {f:α->V} {g:α->Value->Prop} (hg:∀ a u,RelV (f a) u->g a u) {as:List α} {its:List Value} (r:Vals (as.map f) its) {i:Nat} {v:Value} (h:its.toArray[i]?=some v):∃ a,as[i]?=some a/\g a v:=by
 have h':its[i]?=some v:=by simpa using h
 induction as generalizing its i with
 | nil=>cases r; simp at h'
 | cons a as ih=>
  cases r with
  | cons q t=>
   cases i with
   | zero=>simp at h'; subst h'; exact ⟨a,rfl,hg _ _ q⟩
   | succ i=>simpa using ih t (i:=i) (by simpa using h') (by simpa using h')
def oX {p:Addr} {xs:List V} (I:Inv X pins σ H s) (hc:X.calm=true) (hp:H p=some (.lst xs)):∃ its:List Value,Vals xs its/\s.heap.IsList p its.toArray/\xs.length=its.toArray.size/\p≠s.heap.objs.size /\
  Walks X.prog X.w X.A.in1 s.heap.objs.size [s.heap.objs.size,p] [s.heap.objs.size] its.toArray.size (fun i v=>its.toArray[i]?=some v) (fun i h=>h.IsListIter s.heap.objs.size p i/\h.IsList p its.toArray):=by
 obtain ⟨its,rv,pl,hz⟩:=I.list (SqL.of hp)
 obtain ⟨o,e,_⟩:=pl.isList
 have Gr:p≠s.heap.objs.size:=qC7 (qB7 e)
 exact ⟨its,rv,pl.isList,by rw [qC1]; exact rv.length,Gr,Walks.list (show X.A.in1.handled=none from I.ok.hd hc) _ p Gr _⟩
def all_range {bs:List Bool}:(List.range bs.length).all (fun i=>bs.getD i false)=bs.all id:=by
 rw [qL4,qF6,qF6]
 constructor
 ·intro h x hx
  obtain ⟨i,hi,e⟩:=qG3.mp hx
  have:=h i (by simpa using hi)
  rw [qA0] at this
  simpa [hi,e] using this
 ·intro h i hi
  have hi:i<bs.length:=by simpa using hi
  rw [qA0]
  simpa [hi] using h bs[i] (qG4 hi)
def sr {A:Around} {bs:List Bool} {its:List Value} (rv:Vals (bs.map V.bl) its):TruthOf X.prog X.w A (fun i v=>its.toArray[i]?=some v) (fun i=>bs.getD i false):=fun i v s' Q' E hv hq=>by
 obtain ⟨b,hb,e⟩:=za (f:=V.bl) (g:=fun b u=>u=.bool b) (fun b u r=>r) rv hv
 subst e
 have:bs.getD i false=b:=by rw [qA0,hb]; rfl
 have Ih:Q' (bs.getD i false) s':=hq
 rw [this] at Ih
 exact wpAny_truthy_bool Ih
def rJ (hc:X.calm=true):K0 X (.builtin "all") (fun xs H Q=>∃ (p:Addr) (bs:List Bool),xs = [.ref p]/\H p=some (.lst (bs.map V.bl))/\Q (.bl (bs.all id)) H):=by
 intro pins s σ H xs us Q I r h
 obtain ⟨p,bs,rfl,hp,q⟩:=h
 obtain ⟨u,rfl,rx⟩:=Q2 r
 cases rx
 obtain ⟨its,rv,hl,hlen,Gr,Wk⟩:=oX I hc hp
 rw [qA5] at hlen
 refine call_all_walk (wpAny_pyIter_list hl ⟨_,_,_,_,_,_,_,rfl,Wk,⟨⟨_,qC6 _ rfl,rfl,rfl⟩,hl.push _⟩,sr rv,fun h' tk hk=>?_⟩)
 rw [<- hlen,all_range]
 exact ⟨.bl (bs.all id),H,I.kept (t':=tk) (qO hk),rfl,q⟩
def Z2:List W->Option (List Bool)
 | []=>some []
 | .bl b::ws=>(Z2 ws).map (b::·)
 | _=>none
def yJ (bs:List Bool):Z2 (bs.map W.bl)=some bs:=by
 induction bs with
 | nil=>rfl
 | cons b bs ih=>rw [qC0,Z2,ih]; rfl
def Reps.bls {K:Frag} {F:Hp} {vs:List V} {ws:List W} {bs:List Bool} (r:Reps K F vs ws):Z2 ws=some bs->vs=bs.map V.bl:=
 Reps.ind (P:=fun vs ws=>∀ bs,Z2 ws=some bs->vs=bs.map V.bl) (fun bs h=>by cases h; rfl) (fun {v w vs ws} r _ ih bs h=>by
  cases w <;> first | cases h | skip
  rename_i b
  have e:v=.bl b:=r.inv
  subst e
  have h':(Z2 ws).map (b::·)=some bs:=h
  cases q:Z2 ws with
  | none=>rw [q] at h'; cases h'
  | some cs=>rw [q] at h'; cases h'; rw [ih cs q]; rfl) r bs
def kY (g:List Bool->Bool):List W->R W
 | [.lst ws]=>toR (Z2 ws)>>=fun bs=>.ok (.bl (g bs))
 | _=>.stuck
def yM {K:Frag} {d:Mode} {g:List Bool->Bool}:Cal K .B d (fun xs H Q=>∃ (p:Addr) (bs:List Bool),xs = [.ref p]/\H p=some (.lst (bs.map V.bl))/\Q (.bl (g bs)) H) (kY g):=by
 intro EX H0 Hs G H ρ σ Ha vs ws Q I s m o
 cases m with
 | nil=>exact o.elim
 | @cons w v ws2 vs2 a t=>
  cases t with
  | cons _ _=>first | exact o.elim | (cases w <;> exact o.elim)
  | nil=>
   cases w <;> first | exact o.elim | skip
   rename_i ws
   obtain ⟨p,ys,rfl,hs,r⟩:=a.lstB I
   replace o:Out EX G H (mdW K d H0 Hs) (toR (Z2 ws)>>=fun bs=>.ok (.bl (g bs))) Q:=o
   cases q:Z2 ws with
   | none=>rw [q] at o; exact o.elim
   | some bs=>
    rw [q] at o
    rw [Reps.bls r q] at hs
    exact ⟨p,bs,rfl,hs,o _ G H (Ext.refl I.gh) (Md.sca rfl (fun _=>.bl) d)⟩
def uR (bs:List Bool):Bool:=bs.all id
end
def DF:bootBuiltins "all" = some (.builtin "all"):=by decide +kernel
section
variable {X:Cx} {K:Frag} {d:Mode}
def y8:List W->Option (List Int)
 | []=>some []
 | .int b::ws=>(y8 ws).map (b::·)
 | _=>none
def ints_map (bs:List Int):y8 (bs.map W.int)=some bs:=by
 induction bs with
 | nil=>rfl
 | cons b bs ih=>rw [qC0,y8,ih]; rfl
def Reps.ints {F:Hp} {vs:List V} {ws:List W} {bs:List Int} (r:Reps K F vs ws):y8 ws=some bs->vs=bs.map V.int:=
 Reps.ind (P:=fun vs ws=>∀ bs,y8 ws=some bs->vs=bs.map V.int) (fun bs h=>by cases h; rfl) (fun {v w vs ws} r _ ih bs h=>by
  cases w <;> first | cases h | skip
  rename_i b
  have e:v=.int b:=r.inv
  subst e
  have h':(y8 ws).map (b::·)=some bs:=h
  cases q:y8 ws with
  | none=>rw [q] at h'; cases h'
  | some cs=>rw [q] at h'; cases h'; rw [ih cs q]; rfl) r bs
def EN (g:List Int->Int):List W->R W
 | [.lst ws]=>toR (y8 ws)>>=fun bs=>.ok (.int (g bs))
 | _=>.stuck
def fAbs:List W->R W
 | [.int i]=>.ok (.int (if i<0 then -i else i))
 | _=>.stuck
def fInt:List W->R W
 | [.int i]=>.ok (.int i)
 | [.bl k]=>.ok (.int (if k then 1 else 0))
 | _=>.stuck
def vW:Cal K .B d (fun xs H Q=>(∃ i,xs = [.int i]/\Q (.int i) H)\/∃ k:Bool,xs = [.bl k]/\Q (.int (if k then 1 else 0)) H) fInt:=by
 intro EX H0 Hs G H ρ σ Ha vs ws Q I s m o
 cases m with
 | nil=>exact o.elim
 | @cons w v ws2 vs2 a t=>
  cases t with
  | cons _ _=>first | exact o.elim | (cases w <;> exact o.elim)
  | nil=>
   cases w <;> first | exact o.elim | skip
   ·exact .inr ⟨_,by rw [a.blB],o _ G H (Ext.refl I.gh) (Md.sca rfl (fun _=>.int) d)⟩
   ·exact .inl ⟨_,by rw [a.intB],o _ G H (Ext.refl I.gh) (Md.sca rfl (fun _=>.int) d)⟩
def fStr:List W->R W
 | [.int i]=>if i.natAbs.log2<1920 then .ok (.str (toString i)) else .stuck
 | _=>.stuck
end
end TP
namespace TP
open PySem L2
def kB (i:Nat) (c:Bool) (m:Rho->R W):Rho->R Fl:=fun ρ=>match ρ[i]? with
 | some (.own ws)=>m ρ>>=fun w=>(match w with
  | .lst us=>if ws.length+us.length<=1000 then (if c||m5 us then .ok (.nx (ρ.set i (.own (ws++us)))) else .stuck) else .stuck
  | _=>.stuck)
 | _=>.stuck
def kA (i:Nat):Rho->R Fl:=fun ρ=>match ρ[i]? with
 | some (.own ws)=>.ok (.nx (ρ.set i (.own ws.reverse)))
 | _=>.stuck
section
variable {K:Frag} {EX:EXT} {H0 G H:Hp} {ρ:Rho} {σ:St} {d:Mode} {D:Ends}
def Fg {i:Nat} {c:Bool} {m:Rho->R W} (h:tSt K EX d (kB i c m) D σ H):cN (tBM K "list" rExtend (bH i) (Z6 (tM K EX (cb c) m) tNil)) D σ H:=by
 obtain ⟨H0,G,ρ,I,o⟩:=h
 unfold kB at o
 split at o
 ·rename_i ws e
  obtain ⟨a,vs,es,ha,hg,h0,r⟩:=I.own_at e
  refine ⟨.ref a,es,.inl ⟨rfl,vs,SqL.of ha⟩,H0,G,ρ,I,OutS.bind I o fun x G1 H1 w e1 m1 o1=>?_⟩
  cases w <;> first | exact o1.elim | skip
  rename_i us
  dsimp only at o1
  by_cases hn:ws.length+us.length<=1000
  ·rw [qA1 hn] at o1
   by_cases hc:(c||m5 us)=true
   ·rw [qA1 hc] at o1
    have I1:=I.ext e1
    have hx:∃ b zs,x=.ref b/\H1 b=some (.lst zs)/\Reps K G1 zs us:=by
     cases c with
     | true=>exact Md.lstC (H:=H) I1 m1
     | false=>
      obtain ⟨b,zs,ex,hb,rb⟩:=Md.lstB (H:=H) I1 m1
      exact ⟨b,zs,ex,hb,Reps.clean I1 rb (by simpa using hc)⟩
    obtain ⟨b,zs,rfl,hb,rb⟩:=hx
    have h1:=e1.hh a _ ha
    refine ⟨a,b,vs,zs,rfl,rfl,h1,hb,by rw [r.length,rb.length]; exact aD hn,?_⟩
    exact o1 G1 σ _ (Same.refl _) (I1.own_upd e es ((r.same e1.gg).append rb))
   ·rw [qA3 hc] at o1; exact o1.elim
  ·rw [qA3 hn] at o1; exact o1.elim
 ·exact o.elim
def EW {i:Nat} (h:tSt K EX d (kA i) D σ H):cN (zp K "list" rReverse (bH i)) D σ H:=by
 obtain ⟨H0,G,ρ,I,o⟩:=h
 unfold kA at o
 split at o
 ·rename_i ws e
  obtain ⟨a,vs,es,ha,hg,h0,r⟩:=I.own_at e
  exact ⟨.ref a,es,.inl ⟨rfl,vs,SqL.of ha⟩,a,vs,rfl,rfl,ha,o G σ _ (Same.refl _) (I.own_upd e es r.reverse)⟩
 ·exact o.elim
end
section
variable {X:Cx} {K:Frag} {EX:EXT} {d:Mode} {e:Expr} {pos:Pos} {ma:Rho->R W}
def Ei {i:Nat} {c:Bool} {x:Str} {p apos Gi:Pos} (hN:X.N[i]?=some x) (hv:Vis X.env.scope x) (ha:PE X e (tM K EX (cb c) ma)) (hK:X.K=K:=by rfl) (hd:(x == ("__debug__" : Str))=false:=by decide) (GN:(x == ("__classdict__" : Str))=false:=by decide)
  (Go:attributeBase (.Name x p) "extend" X.env (eval (.Name x p) X.env)=eval (.Name x p) X.env:=by rfl)
  (GV:((backTo Gi (starEach [e] X.env)).all (fun x=>!x.1)&&(backToKw Gi (keywordEach [] X.env)).all (fun x=>x.1.isSome)
   && decide (([e]:List Expr).length+([]:List Keyword).length+(if ([]:List Keyword).isEmpty then 0 else 1)<30))=true:=by rfl)
  (Gn:(apos.endLine == Gi.line)=true:=by rfl) (hs:starEach [e] X.env=(false,eval e X.env)::starEach [] X.env:=by rfl) (GL:(backTo Gi (starEach [] X.env)).any (·.1)=false:=by rfl)
  (Hl:swapsWith (.Call (.Attribute (.Name x p) "extend" apos) [e] [] Gi) none pos.line X.env=pure false:=by rfl) :
  PS X (.Expr (.Call (.Attribute (.Name x p) "extend" apos) [e] [] Gi) pos) (tSt K EX d (kB i c ma)):=by
 subst hK; exact (aA (Eu PySem.F.plainAttrs_list PySem.F.slot_list_extend PySem.F.type_list_extend qJ (X2 hN hv hd GN) (aB ha pa_nil hs) Go GV Gn hs GL) Hl).mono fun _ _ _ q=>Fg q
def Eh {i:Nat} {x:Str} {p apos Gi:Pos} (hN:X.N[i]?=some x) (hv:Vis X.env.scope x) (hK:X.K=K:=by rfl) (hd:(x == ("__debug__" : Str))=false:=by decide) (GN:(x == ("__classdict__" : Str))=false:=by decide)
  (Go:attributeBase (.Name x p) "reverse" X.env (eval (.Name x p) X.env)=eval (.Name x p) X.env:=by rfl) (Gn:(apos.endLine == Gi.line)=true:=by rfl)
  (Hl:swapsWith (.Call (.Attribute (.Name x p) "reverse" apos) [] [] Gi) none pos.line X.env=pure false:=by rfl) :
  PS X (.Expr (.Call (.Attribute (.Name x p) "reverse" apos) [] [] Gi) pos) (tSt K EX d (kA i)):=by
 subst hK; exact (aA (AV PySem.F.plainAttrs_list PySem.F.slot_list_reverse PySem.F.type_list_reverse nZ (X2 hN hv hd GN) Go Gn) Hl).mono fun _ _ _ q=>EW q
end
section
variable {X:Cx} {K:Frag} {EX:EXT} {a e tg:Expr} {es:List Expr} {pos:Pos} {ma:Rho->R W} {mr:Rho->R (List W)}
def O9 (h:PE X e (tM K EX .B ma)) (hK:X.K=K:=by rfl):PI X tg e (tIt K EX false .U (bS ma)):=vE (lp:=false) h hK
def U2 (h:PE X e (tM K EX .U ma)) (hK:X.K=K:=by rfl):PI X tg e (tIt K EX true .U (bS ma)):=vE (lp:=true) h hK
def bT {elts:List Expr} {p tp:Pos} {k:Nat} (hg:Gl X "zip") (hm:X.mg "zip" = none) (ha:PA X (a::es) (tA K EX .B mr)) (hK:X.K=K:=by rfl) (hs:starEach (a::es) X.env=(false,eval a X.env)::starEach es X.env:=by rfl) (GH:(backTo pos (starEach es X.env)).any (·.1)=false:=by rfl) :
  PI X (.Tuple elts k tp) (.Call (.Name "zip" p) (a::es) [] pos) (tIt K EX false .U (bI K1 mr)):=vB (lp:=false) hg hm ha hK hs GH
def qg {elts:List Expr} {p tp:Pos} {k:Nat} (hg:Gl X "zip") (hm:X.mg "zip" = none) (ha:PA X (a::es) (tA K EX .U mr)) (hK:X.K=K:=by rfl) (hs:starEach (a::es) X.env=(false,eval a X.env)::starEach es X.env:=by rfl) (GH:(backTo pos (starEach es X.env)).any (·.1)=false:=by rfl) :
  PI X (.Tuple elts k tp) (.Call (.Name "zip" p) (a::es) [] pos) (tIt K EX true .U (bI K1 mr)):=vB (lp:=true) hg hm ha hK hs GH
end
end TP
namespace TP
open PySem L2
section
variable {K:Frag} {EX:EXT} {H0 G H G1 H1:Hp} {ρ:Rho} {σ:St} {d:Mode} {D:Ends}
def EF:Sl->Bool
 | .own _=>true
 | .dic _=>true
 | .dik _=>true
 | _=>false
def noOwn (ρ:Rho):Bool:=ρ.all fun s=>!EF s
def sCU (i:Nat) (f:List W->R W) (ma:Rho->R (List W)):Rho->R Fl:=fun ρ=>if noOwn ρ then (ma ρ>>=fun ws=>f ws>>=fun w=>.ok (.nx (ρ.set i (.par w)))) else .stuck
end
section
variable {X:Cx} {K:Frag} {d:Mode} {e:Expr} {es:List Expr} {pos:Pos} {mr:Rho->R (List W)}
end
end TP
namespace TP
open PySem L2
def oO (K:Frag) (a:Addr) (n:Nat):It:=
 ⟨fun i H=>i<n/\∃ xs x,SqL K H a xs/\xs.length=n/\xs[n-1-i]?=some x,fun i H x H'=>H'=H/\∀ xs,SqL K H a xs->xs[n-1-i]?=some x,fun i H=>i=n/\∃ xs,SqL K H a xs/\xs.length=n⟩
def sn {P:Program} {w:World} {K:Frag} {tg:Expr} (a it:Addr) (n:Nat):Turn P w K tg (oO K a n) [it] it (fun i h=>i<=n/\h.IsRevIter it a ((n:Int)-1-(i:Int))) where
 mem:=by simp
 obj:=fun i h st b hb=>by
  have e:b=it:=by simpa using hb
  subst e
  obtain ⟨_,o,e,c,d⟩:=st
  exact ⟨o,e,fun v z=>by rw [d] at z; cases z⟩
 keep:=fun i h h' st k=>⟨st.1,st.2.at fun o e=>k it (by simp) o e⟩
 item:=by
  intro X hP hw hK hc i pins s σ H E I hf st hg
  subst hP hw hK
  obtain ⟨hi,xs,x,hq,hn,hx⟩:=hg
  obtain ⟨its,rv,p,hz⟩:=I.list hq
  obtain ⟨u,hu,ru⟩:=rv.get hx
  obtain ⟨f0,f1,f2,f3,f4,f5⟩:=hf it (by simp)
  have e1:(n:Int)-1-(i:Int)=((n-1-i:Nat):Int):=by omega
  have Ic:=st.2
  rw [e1] at Ic
  refine wpAny_pyNext_rev_item Ic p.isList (x:=u) (by simpa using hu) fun h' Gg sb=>?_
  have I1:Inv X pins σ H { s with heap:=h' }:=I.turned (t':=s.toks) (fun b o hb e=>(sb.2 b hb).trans e) f0 f1 f3 f4 f5
  have e2:((n-1-i:Nat):Int)-1=(n:Int)-1-((i+1:Nat):Int):=by omega
  rw [e2] at Gg
  obtain ⟨o,e,c,d⟩:=id Gg
  exact ⟨u,rfl,iL (s:={ s with heap:=h' }) e c d (by decide) ⟨x,H,I1,ru,⟨rfl,fun ys hy=>by rw [I.list_inj hy hq]; exact hx⟩,⟨hi,Gg⟩,fun b hb=>(hf b hb).1⟩⟩
 done:=by
  intro X hP hw hK hc i pins s σ H E I hf st hg
  subst hP hw hK
  obtain ⟨rfl,xs,hq,hn⟩:=hg
  obtain ⟨f0,f1,f2,f3,f4,f5⟩:=hf it (by simp)
  have e1:(i:Int)-1-(i:Int) = -1:=by omega
  have Ic:=st.2
  rw [e1] at Ic
  exact wpAny_pyNext_rev_end (I.ok.hd hc) Ic fun h' eb=>⟨rfl,I.turned (t':=s.toks) (fun b o hb e=>eb b o hb e) f0 f1 f3 f4 f5⟩
 self:=fun _ _ _ _ _ st h=>wpAny_pyIter_revIter st.2 h
def Cg (K:Frag) (ta:TA):TI:=fun σ H R=>ta σ H fun vs H1=>∃ a,vs = [.ref a]/\∃ xs,SqL K H1 a xs/\R (oO K a xs.length) H1
def lU:bootBuiltins "reversed" = some (.type "reversed"):=by decide +kernel
section
variable {X:Cx} {tg:Expr}
def AR {a:Expr} {ta:TA} {p pos:Pos} (hg:Gl X "reversed") (hm:X.mg "reversed" = none) (ha:PA X [a] ta) (hs:starEach [a] X.env = [(false,eval a X.env)]:=by rfl):PI X tg (.Call (.Name "reversed" p) [a] [] pos) (Cg X.K ta):=by
 intro pins s σ H R I h
 refine wpAny_Call_Name_kw (X7 I hg hm lU ?_ (by decide) (by decide))
 refine qH7 (thn (ha pos pins s σ H _ I h) fun us s1 zz77=>?_) hs (by rfl)
 obtain ⟨vs,H1,I1,r1,q1⟩:=zz77
 obtain ⟨b,e,xs,hq,q⟩:=q1
 subst e
 obtain ⟨u,rfl,ru⟩:=Q2 r1
 cases ru
 obtain ⟨its,rv,pl,hz⟩:=I1.list hq
 have hl:=rv.length
 refine call_reversed_list pl.isList ?_
 have hit:(s1.heap.push (revObj b ((its.toArray.size:Int)-1))).IsRevIter s1.heap.objs.size b ((xs.length:Int)-1-((0:Nat):Int)):=by
  refine ⟨_,qC6 _ rfl,rfl,?_⟩
  have:((xs.length:Int)-1-((0:Nat):Int))=((its.toArray.size:Int)-1):=by simp; omega
  rw [this]; rfl
 refine wpAny_pyIter_revIter hit ?_
 refine ⟨s1.heap.objs.size,[s1.heap.objs.size],_,oO X.K b xs.length,H1,rfl,I1.kept (t':=s1.toks) fun b o e=>qA6 _ e,sn b _ _,⟨qC3 _,hit⟩,fun c hc=>?_,q⟩
 have e:c=s1.heap.objs.size:=by simpa using hc
 subst e
 exact I1.fpOk (qB1 _) (I1.hok.fresh (qB1 _))
end
def gj:List W->R (List W)
 | [.lst ws]=>.ok ws.reverse
 | _=>.stuck
section
variable {K:Frag} {EX:EXT} {H0 G H:Hp} {ρ:Rho} {σ:St}
def uI {e:Mode} {Z:Hp} {a:Addr} {vs:List V} {ws:List W} (he:e=.V\/e=.U) (s:SqL K Z a vs) (r:Reps K (fz e H0 G) vs ws):bu K e H0 Z G (oO K a vs.length) ws.reverse:=by
 have hl:=r.length
 have hq:∀ H,Same Z H->SqL K H a vs:=fun H z=>Same.seq z s
 refine ⟨fun i H hi z=>?_,fun H z=>⟨by rw [qB8,hl],vs,hq H z,rfl⟩,fun i H x H' w hw z ⟨e1,y⟩ G2 ρ σ I sg=>?_⟩
 ·rw [qB8] at hi
  exact ⟨by omega,vs,vs[vs.length-1-i]'(qD7 (qG5 _ _) (qI1 (hl ▸ qD7 (qC3 i) hi) (by decide))),hq H z,rfl,by simp⟩
 ·subst e1
  have hi:i<ws.length:=by have:=(qA7.mp hw).1; simpa using this
  have hx:=y vs (hq _ z)
  rw [List.getElem?_reverse hi] at hw
  obtain ⟨v,hv,rv⟩:=Reps.get r hw
  rw [hl,hv] at hx
  cases hx
  exact ⟨G2,Ext.refl I.gh,Md.of_fz he (rv.same (L5 sg))⟩
def Md.srcL {lp:Bool} {Hs:Hp} {x:V} {ws:List W} (I:PIv K H0 G ρ σ H) (m:Md K H0 Hs G H x (.lst ws) (bL lp .U)):∃ a vs,x=.ref a/\SqL K (if lp then join H0 G else H) a vs/\Reps K (fz .U H0 G) vs ws:=by
 have ez:fz .U H0 G=join H0 G:=by unfold fz; rw [qA3 (show ¬ (Mode.U=Mode.V) by intro z; cases z)]
 rw [ez]
 cases lp with
 | true=>
  rw [qA1 rfl]
  obtain ⟨a,vs,e,s,r⟩:=Rep.inv m
  exact ⟨a,vs,e,SqL.of s,r⟩
 | false=>
  rw [qA3 qA4]
  rcases m with m | ⟨a,vs,us,rfl,e2,h1,r⟩
  ·obtain ⟨a,vs,e,s,r⟩:=Rep.inv m
   exact ⟨a,vs,e,SqL.of (I.join_H _ _ s),r⟩
  ·rw [W.lst.inj e2]; exact ⟨a,vs,rfl,SqL.of h1,r.same I.G_join⟩
def EV {lp:Bool} {ma:Rho->R (List W)} {Rr:It->Hp->Prop} (h:tIt K EX lp .U (fun ρ=>ma ρ>>=gj) σ H Rr):Cg K (tA K EX (bL lp .U) ma) σ H Rr:=by
 refine aP h (fun H0 G ρ G1 H1 xs ws us I e1 m1 q o=>?_) (fun ws e z=>?_)
 ·have I1:=I.ext e1
  unfold gj at q
  split at q
  ·rename_i IN
   cases q
   cases m1 with
   | cons a1 t=>
    cases t
    obtain ⟨p,vs,rfl,hL,r⟩:=Md.srcL I1 a1
    exact ⟨p,rfl,vs,Same.seq (gG I1) hL,o _ G1 H1 e1 (uI (.inr rfl) hL r)⟩
  ·cases q
 ·unfold gj at z
  split at z <;> cases z
end
section
variable {X:Cx} {K:Frag} {EX:EXT} {a tg:Expr} {pos:Pos} {mr:Rho->R (List W)}
def Eg {p:Pos} (hg:Gl X "reversed") (hm:X.mg "reversed" = none) (ha:PA X [a] (tA K EX .U mr)) (hK:X.K=K:=by rfl) (hs:starEach [a] X.env = [(false,eval a X.env)]:=by rfl):PI X tg (.Call (.Name "reversed" p) [a] [] pos) (tIt K EX true .U (bI gj mr)):=by
 subst hK; exact (AR hg hm ha hs).mono fun _ _ _ q=>EV (lp:=true) q
end
end TP
namespace TP
open PySem L2
section
variable {X:Cx} {pins:List (Addr×Obj)} {σ:St} {H:Hp} {s:Shared}
end
def seqI:W->Option (List Int)
 | .lst ws=>y8 ws
 | .tup ws=>y8 ws
 | _=>none
def vT (g:List Int->Int):List W->R W
 | [w]=>toR (seqI w)>>=fun ns=>if 0<ns.length then .ok (.int (g ns)) else .stuck
 | _=>.stuck
end TP
namespace HT
open PySem PySem.Spec PyProof.Rows
end HT
namespace TP
open PySem L2 PySem.Spec PyProof.Rows
variable {X:Cx} {K:Frag}
end TP
namespace TP
open PySem PySem.W PyProof.Rows
section
variable (r:Nat->Int)
def runK {α:Type}:KasT α->α
 | .ret a=>a
 | .ask i j k=>runK (k (decide (r i<r j)))
def U0 {α β:Type} (f:α->KasT β) (t:KasT α):runK r (t.bind f)=runK r (f (runK r t)):=by
 induction t with
 | ret _=>rfl
 | ask i j k ih=>exact ih _
def fQ {α:Type} {i j:Nat} {k:Bool->KasT α} (h:r i<r j):runK r (.ask i j k)=runK r (k true):=congrArg (fun b=>runK r (k b)) (decide_eq_true h)
def dC {α:Type} {i j:Nat} {k:Bool->KasT α} (h:¬ r i<r j):runK r (.ask i j k)=runK r (k false):=congrArg (fun b=>runK r (k b)) (decide_eq_false h)
def ky (p:Array Nat) (k:Nat):Int:=r (p.getD k 0)
def fD {p q:Array Nat} {k l:Nat} (h:p[k]?=q[l]?):ky r p k=ky r q l:=by
 unfold ky
 rw [qE3,qE3,h]
def kJ {p:Array Nat} {i j:Nat} (hj:j<=p.size) (k:Nat):ky r (kas_rev p i j) k=if i<=k/\k<j then ky r p (i+j-1-k) else ky r p k:=by
 have e:=getElem?_mirror_all (i:=i) hj k
 by_cases h:i<=k/\k<j
 ·rw [qA1 h] at e ⊢; exact fD r e
 ·rw [qA3 h] at e ⊢; exact fD r e
def Br {p:Array Nat} {k d:Nat} (hs:k<p.size) (hd:d<=k) (i:Nat):ky r (bubble p k d) i=if i=k-d then ky r p k else if k-d<i/\i<=k then ky r p (i-1) else ky r p i:=by
 have e:=getElem?_bubble hs d hd i
 by_cases h:i=k-d
 ·rw [qA1 h] at e ⊢; exact fD r e
 ·rw [qA3 h] at e ⊢
  by_cases h2:k-d<i/\i<=k
  ·rw [qA1 h2] at e ⊢; exact fD r e
  ·rw [qA3 h2] at e ⊢; exact fD r e
def rev_eq {p:Array Nat} {i j:Nat} {c:Int} (hj:j<=p.size) (h:∀ k,i<=k->k<j->ky r p k=c) (k:Nat):ky r (kas_rev p i j) k=ky r p k:=by
 rw [kJ r hj]
 by_cases hk:i<=k/\k<j
 ·rw [qA1 hk,h k hk.1 hk.2,h _ (by omega) (by omega)]
 ·rw [qA3 hk]
def up (p:Array Nat) (n:Nat):Prop:=∀ k,k+1<n->ky r p k<=ky r p (k+1)
def dn (p:Array Nat) (n:Nat):Prop:=∀ k,k+1<n->ky r p (k+1)<=ky r p k
def wl {p:Array Nat} {n:Nat} (h:up r p (n+1)) (e:ky r p n<=ky r p (n+1)):up r p (n+2):=fun k hk=>by
 rcases qL6 (qJ7 (qJ7 hk)) with q | rfl
 ·exact h k (Nat.succ_lt_succ q)
 ·exact e
def aL {p:Array Nat} {n:Nat} (h:dn r p (n+1)) (e:ky r p (n+1)<=ky r p n):dn r p (n+2):=fun k hk=>by
 rcases qL6 (qJ7 (qJ7 hk)) with q | rfl
 ·exact h k (Nat.succ_lt_succ q)
 ·exact e
def rS (p:Array Nat):∀ (f m:Nat),up r p (m+1)->∃ R,runK r (kas_asc p f (m+1))=R+1/\m<=R/\R<=m+f/\up r p (R+1)/\(R<m+f->ky r p (R+1)<ky r p R):=by
 intro f
 induction f with
 | zero=>exact fun m hu=>⟨m,rfl,qB1 _,qB1 _,hu,fun h=>absurd h (qG9 _)⟩
 | succ f ih=>
  intro m hu
  by_cases h:ky r p (m+1)<ky r p m
  ·exact ⟨m,fQ r h,qB1 _,qD3 _ _,hu,fun _=>h⟩
  ·obtain ⟨R,e,a,b,c,d⟩:=ih (m+1) (wl r hu (qN5.mp h))
   have hf:m+1+f=m+(f+1):=qG6 m f
   rw [hf] at b d
   exact ⟨R,(dC r h).trans e,qJ3 a,b,c,d⟩
def yu:∀ (f:Nat) (p:Array Nat) (m q:Nat),m+1+f<=p.size->q<=m->dn r p (m+1)->(∀ k,m+1-(q+1)<=k->k<=m->ky r p k=ky r p m) ->
  ∃ p' m' q',runK r (kas_desc f p (m+1) q)=(p',m'+1,q')/\p'.Perm p/\m<=m'/\m'<=m+f/\dn r p' (m'+1)/\∀ k,m'+1-(q'+1)<=k->k<=m'->ky r p' k=ky r p' m':=by
 intro f
 induction f with
 | zero=>exact fun p m q _ _ hd he=>⟨p,m,q,rfl,.refl _,qB1 _,qB1 _,hd,he⟩
 | succ f ih=>
  intro p m q hz hq hd he
  have hf:m+1+f=m+(f+1):=qG6 m f
  have IB:m+1+1+f<=p.size:=by rw [qG6 (m+1) f]; exact hz
  by_cases h:ky r p (m+1)<ky r p m
  ·have e0:runK r (kas_desc (f+1) p (m+1) q)=runK r (if q>0 then kas_desc f (kas_rev p (m+1-(q+1)) (m+1)) (m+1+1) 0 else kas_desc f p (m+1+1) 0):=fQ r h
   by_cases KA:q>0
   ·have key:=rev_eq r (p:=p) (i:=m+1-(q+1)) (j:=m+1) (c:=ky r p m) (qA9 (qD3 _ _) hz) fun k a b=>he k a (qF0 b)
    obtain ⟨p',m',q',e,h1,h2,h3,h5⟩:=ih (kas_rev p (m+1-(q+1)) (m+1)) (m+1) 0 (by rw [kas_rev_size]; exact IB) (qC3 _) (aL r (fun k hk=>by rw [key,key]; exact hd k hk) (by rw [key,key]; exact qL1 h)) fun k a b=>by rw [qK1 b a]
    rw [e0,qA1 KA]
    rw [hf] at h3
    exact ⟨p',m',q',e,h1.trans (mirror_perm _ _ _ _),qJ3 h2,h3,h5⟩
   ·obtain ⟨p',m',q',e,h1,h2,h3,h5⟩:=ih p (m+1) 0 IB (qC3 _) (aL r hd (qL1 h)) fun k a b=>by rw [qK1 b a]
    rw [e0,qA3 KA]
    rw [hf] at h3
    exact ⟨p',m',q',e,h1,qJ3 h2,h3,h5⟩
  ·by_cases h2:ky r p m<ky r p (m+1)
   ·exact ⟨p,m,q,(dC r h).trans (fQ r h2),.refl _,qB1 _,qD3 _ _,hd,he⟩
   ·have ee:ky r p (m+1)=ky r p m:=Int.le_antisymm (qN5.mp h2) (qN5.mp h)
    obtain ⟨p',m',q',e,h1,h2',h3,h5⟩:=ih p (m+1) (q+1) IB (qE8 hq) (aL r hd (Int.le_of_eq ee)) fun k a b=>by
     rcases qL6 b with b | rfl
     ·rw [ee]; exact he k (by rw [Nat.add_sub_add_right] at a; exact a) (qF0 b)
     ·rfl
    rw [hf] at h3
    exact ⟨p',m',q',(dC r h).trans ((dC r h2).trans e),h1,qJ3 h2',h3,h5⟩
def oA (nrem:Nat) (p:Array Nat) (R:Nat×Array Nat):Prop:=R.2.Perm p/\R.1<=nrem/\up r R.2 R.1
def jb {p:Array Nat} {m nrem:Nat} (hn:m+1<=nrem) (hz:nrem<=p.size) (hd:dn r p (m+1)):oA r nrem p (runK r (kas_tail3 (m+1) nrem p)):=by
 unfold kas_tail3
 rw [U0]
 have hm:=qA9 hn hz
 have hu:up r (kas_rev p 0 (m+1)) (m+1):=fun k hk=>by
  rw [kJ r hm,kJ r hm,qA1 ⟨qC3 _,qK5 hk⟩,qA1 ⟨qC3 _,hk⟩,qN2,Nat.add_sub_cancel]
  have e:m-k=m-(k+1)+1:=(Nat.succ_pred_eq_of_pos (qN6 (Nat.lt_of_succ_lt_succ hk))).symm
  rw [e]
  exact hd _ (by rw [<- e]; exact Nat.lt_succ_of_le (qG5 _ _))
 obtain ⟨R,e,a,b,c,_⟩:=rS r (kas_rev p 0 (m+1)) (nrem-(m+1)) m hu
 rw [e]
 exact ⟨mirror_perm _ _ _ _,by show R+1<=nrem; omega,c⟩
def dQ {p:Array Nat} {m nrem:Nat} (hn:m+1<=nrem) (hz:nrem<=p.size) (hd:dn r p (m+1)):oA r nrem p (runK r (kas_descPart m nrem p)):=by
 unfold kas_descPart
 rw [U0]
 obtain ⟨p',m',q',e,h1,h2,h3,h5,h6⟩:=yu r (nrem-(m+1)) p m 0 (by rw [qD2 hn]; exact hz) (qC3 _) hd fun k a b=>by rw [qK1 b a]
 rw [e]
 show oA r nrem p (runK r (if q'>0 then kas_tail3 (m'+1) nrem (kas_rev p' (m'+1-(q'+1)) (m'+1)) else kas_tail3 (m'+1) nrem p'))
 have hm:m'+1<=nrem:=by omega
 have Jk:nrem<=p'.size:=by rw [h1.size_eq]; exact hz
 by_cases hq:q'>0
 ·rw [qA1 hq]
  have key:=rev_eq r (p:=p') (i:=m'+1-(q'+1)) (j:=m'+1) (c:=ky r p' m') (qA9 hm Jk) fun k a b=>h6 k a (qF0 b)
  obtain ⟨t1,t2⟩:=jb r (p:=kas_rev p' (m'+1-(q'+1)) (m'+1)) hm (by rw [kas_rev_size]; exact Jk) fun k hk=>by rw [key,key]; exact h5 k hk
  exact ⟨(t1.trans (mirror_perm _ _ _ _)).trans h1,t2⟩
 ·rw [qA3 hq]
  obtain ⟨t1,t2⟩:=jb r hm Jk h5
  exact ⟨t1.trans h1,t2⟩
def aw {p:Array Nat} {n:Nat} (h:up r p n):∀ j i,i<=j->j<n->ky r p i<=ky r p j:=by
 intro j
 induction j with
 | zero=>intro i a _; rw [Nat.le_zero.mp a]; exact qF9 _
 | succ j ih=>
  intro i a b
  rcases qL6 a with q | rfl
  ·exact qM0 (ih i (qF0 q) (qK5 b)) (h j b)
  ·exact qF9 _
def rq {p:Array Nat} {nrem:Nat} (h2:2<=nrem) (hz:nrem<=p.size):oA r nrem p (runK r (kas_count nrem p)):=by
 unfold kas_count
 rw [U0]
 obtain ⟨R,e,_,b,c,d⟩:=rS r p (nrem-1) 0 fun k hk=>absurd hk (Nat.not_lt_of_le (qE8 (qC3 k)))
 have e:runK r (kas_asc p (nrem-1) 1)=R+1:=e
 rw [e]
 by_cases e1:R+1=nrem
 ·rw [qA1 (beq_iff_eq.mpr e1)]
  exact ⟨.refl _,qI0 e1,c⟩
 ·rw [qA3 fun q=>e1 (beq_iff_eq.mp q)]
  have hR:R+1+1<=nrem:=by omega
  have GA:=d (by omega)
  by_cases h1:R+1>1
  ·rw [qA1 h1]
   by_cases h:ky r p 0<ky r p R
   ·have q:runK r (KasT.ask (p.getD 0 0) (p.getD (R+1-1) 0) fun c=>if c=true then .ret (R+1,p) else kas_descPart (R+1) nrem (kas_rev p 0 (R+1)))=(R+1,p):=fQ r h
    rw [q]
    exact ⟨.refl _,qJ3 hR,c⟩
   ·have q:runK r (KasT.ask (p.getD 0 0) (p.getD (R+1-1) 0) fun c=>if c=true then .ret (R+1,p) else kas_descPart (R+1) nrem (kas_rev p 0 (R+1)))=runK r (kas_descPart (R+1) nrem (kas_rev p 0 (R+1))):=dC r h
    rw [q]
    have Gh:∀ k,k<R+1->ky r p k=ky r p 0:=fun k hk=>
     Int.le_antisymm (qM0 (aw r c R k (qF0 hk) (qL0 _)) (qN5.mp h)) (aw r c k 0 (qC3 _) hk)
    have key:=rev_eq r (p:=p) (i:=0) (j:=R+1) (c:=ky r p 0) (qA9 (qJ3 hR) hz) fun k _ hk=>Gh k hk
    obtain ⟨t1,t2⟩:=dQ r (p:=kas_rev p 0 (R+1)) (m:=R+1) hR (by rw [kas_rev_size]; exact hz) (aL r (fun k hk=>by rw [key,key,Gh _ hk,Gh k (qK5 hk)]; exact qF9 _) (by rw [key,key]; exact qL1 GA))
    exact ⟨t1.trans (mirror_perm _ _ _ _),t2⟩
  ·rw [qA3 h1]
   have hn0:R=0:=by omega
   exact dQ r hR hz (aL r (fun k hk=>absurd hk (by rw [hn0]; exact Nat.not_lt_of_le (qE8 (qC3 k)))) (qL1 GA))
def tR {p:Array Nat} {k:Nat} (hu:up r p k):∀ (f l h:Nat),h-l<=f->l<=h->h<=k->(∀ i,i<l->ky r p i<=ky r p k)->(∀ i,h<=i->i<k->ky r p k<ky r p i) ->
  ∃ R,runK r (kas_place p k f l h)=R/\R<=k/\(∀ i,i<R->ky r p i<=ky r p k)/\∀ i,R<=i->i<k->ky r p k<ky r p i:=by
 intro f
 induction f with
 | zero=>
  intro l h hf hl hk a b
  have e:h=l:=by omega
  subst e
  exact ⟨h,rfl,hk,a,b⟩
 | succ f ih=>
  intro l h hf hl hk a b
  by_cases hlh:l≥h
  ·have e:h=l:=qK1 hlh hl
   subst e
   exact ⟨h,by show runK r (if h≥h then .ret h else _)=h; rw [qA1 (qB1 _)]; rfl,hk,a,b⟩
  ·obtain ⟨md,Ll⟩:∃ md,md=(l+h)/2:=⟨_,rfl⟩
   have m1:l<=md:=by rw [Ll]; exact (Nat.le_div_iff_mul_le (by decide)).mpr (by rw [Nat.mul_two]; exact qE0 hl _)
   have m2:md<h:=by rw [Ll]; exact (Nat.div_lt_iff_lt_mul (by decide)).mpr (by rw [Nat.mul_two]; exact Nat.add_lt_add_right (qM4 hlh) _)
   have m3:md-l<=f:=qF0 (qB0 (Nat.sub_lt_sub_right m1 m2) hf)
   have m4:h-(md+1)<=f:=qA9 (qM6 (qE8 m1) h) (Nat.pred_le_pred hf)
   have e0:runK r (kas_place p k (f+1) l h)=runK r (.ask (p.getD k 0) (p.getD md 0) fun c=>if c=true then kas_place p k f l md else kas_place p k f (md+1) h):=by
    rw [Ll]
    show runK r (if l≥h then .ret l else _)=_
    rw [qA3 hlh]
   by_cases c:ky r p k<ky r p md
   ·obtain ⟨R,e,x⟩:=ih l md m3 m1 (qA9 (qH4 m2) hk) a fun i x y=>Int.lt_of_lt_of_le c (aw r hu i md x y)
    exact ⟨R,e0.trans ((fQ r c).trans e),x⟩
   ·obtain ⟨R,e,x⟩:=ih (md+1) h m4 m2 hk (fun i x=>qM0 (aw r hu md i (qF0 x) (qB0 m2 hk)) (qN5.mp c)) b
    exact ⟨R,e0.trans ((dC r c).trans e),x⟩
def DG:∀ (f:Nat) (p:Array Nat) (k:Nat),k+f<=p.size->up r p k->(runK r (kas_bin f p k)).Perm p/\up r (runK r (kas_bin f p k)) (k+f):=by
 intro f
 induction f with
 | zero=>exact fun p k _ hu=>⟨.refl _,hu⟩
 | succ f ih=>
  intro p k hz hu
  obtain ⟨l,e,p1,p2,p3⟩:=tR r hu k 0 k (qB1 _) (qC3 _) (qB1 _) (fun i x=>absurd x (qE7 _)) fun i x y=>absurd y (Nat.not_lt_of_le x)
  have e0:runK r (kas_bin (f+1) p k)=runK r (kas_bin f (bubble p k (k-l)) (k+1)):=by
   show runK r ((kas_place p k k 0 k).bind _)=_
   rw [U0,e]
  have hf:k+(f+1)=k+1+f:=(qG6 k f).symm
  rw [hf] at hz
  have bub:=fun i=>Br r (p:=p) (k:=k) (d:=k-l) (qB0 (qL0 k) (qA9 (qD3 _ _) hz)) (qG5 _ _) i
  rw [Nat.sub_sub_self p1] at bub
  have ih:=ih (bubble p k (k-l)) (k+1) (by rw [bubble_size]; exact hz) fun i hi=>by
   rw [bub,bub]
   have hi:=Nat.lt_of_succ_lt_succ hi
   rcases Nat.lt_trichotomy i l with c | c | c
   ·rw [qA3 (qC7 c),qA3 fun z=>Nat.lt_asymm z.1 c]
    by_cases c2:i+1=l
    ·rw [qA1 c2]; exact p2 i c
    ·have c3:i+1<l:=Nat.lt_of_le_of_ne c c2
     rw [qA3 c2,qA3 fun z=>Nat.lt_asymm z.1 c3]
     exact hu i (qB0 c3 p1)
   ·subst c
    rw [qA1 rfl,qA3 (Nat.succ_ne_self _),qA1 ⟨qL0 _,hi⟩]
    exact qL1 (p3 i (qB1 _) hi)
   ·have c2:=Nat.lt_succ_of_lt c
    rw [qA3 (qJ9 c),qA1 ⟨c,qH4 hi⟩,qA3 (qJ9 c2),qA1 ⟨c2,hi⟩]
    cases i with
    | zero=>exact absurd c (qE7 _)
    | succ j=>exact hu j hi
  rw [e0,hf]
  exact ⟨ih.1.trans (bubble_perm _ _ _),ih.2⟩
def cO {n:Nat} (h2:2<=n):(runK r (kas_sort n)).Perm (List.toArray (List.range n))/\up r (runK r (kas_sort n)) n:=by
 unfold kas_sort
 rw [U0]
 have c:=rq r (p:=List.toArray (List.range n)) (nrem:=n) h2 (by simp)
 generalize runK r (kas_count n (List.toArray (List.range n)))=R at c
 obtain ⟨c1,c2,c3⟩:=c
 by_cases h:R.1<n
 ·rw [qA1 h]
  have hm:max R.1 1<=n:=Nat.max_le.mpr ⟨c2,qJ3 h2⟩
  have b:=DG r (n-max R.1 1) R.2 (max R.1 1) (by rw [qD2 hm,c1.size_eq]; simp) fun k hk=>c3 k (by omega)
  rw [qD2 hm] at b
  exact ⟨b.1.trans c1,b.2⟩
 ·rw [qA3 h]
  rw [qK1 c2 (Nat.not_lt.mp h)] at c3
  exact ⟨c1,c3⟩
end
end TP
namespace TP
open PySem L2
section
variable {prog:Program} {w:World} {A:Around} {E:Value->Shared->Prop} {s:Shared}
def hJ (hh:A.handled=none) (u:Sub) (Gr:u.l≠u.i) (its:Array Value) :
  Draws prog w A u.i [u.i,u.l] its.size (fun i v=>its[i]?=some v) (fun i h=>u.At h i/\u.Src h its) where
 live:=fun _ _ st=>by obtain ⟨o,e,_⟩:=st.1.obj; exact ⟨o,e⟩
 frame:=fun _ _ _ st hk=>⟨st.1.keep fun o e=>hk u.i (by simp) o e,st.2.keep fun o e=>hk u.l (by simp) o e⟩
 item:=fun i s Q E hi st hQ=>Sub.item st.1 st.2 (x:=its[i]) (by simp [hi]) fun h' a sb=>hQ _ h' s.toks (by simp [hi]) ⟨a,st.2.keep fun o e=>sb.extBut _ _ Gr e⟩ sb
 done:=fun s Q E st hE=>Sub.ends hh st.1 st.2 (by simp) hE
def lO (l:Addr) (its:Array Value) (m:Nat) (LJ:Option Addr) (sl:Array (Option Value)) :
  Meets (Builtin.«enumerate.__new__» ⟨[.type "enumerate",.ref l],[]⟩) (fun _ R s=>s.heap.get? l=some { cls:=.type "tuple",dict:=LJ,data:=.seq its m,slots:=sl } /\
   R (.ok (.ret (.ref (s.heap.push { cls:=.type "tuple_iterator",data:=.fields #[.ref l,.int 0 0] }).objs.size)))
    { s with heap:=(s.heap.push { cls:=.type "tuple_iterator",data:=.fields #[.ref l,.int 0 0] }).push { cls:=.type "enumerate",data:=.fields #[.none,.bool false,.ref s.heap.objs.size,rawInt 0,.none,.none] } }):=
 .of_wp fun prog w A R s hyp=>by
  obtain ⟨hp,g,d,tk,os⟩:=s; obtain ⟨hl,hyp⟩:=hyp
  have Jo:=sub_enumerate
  have hT:Heap.IsTuple (Shared.heap ⟨hp,g,d,tk,os⟩) l its:=⟨_,hl,rfl,m,rfl⟩
  wp_walk using qJ0 hl
  refine wpAny_stack_any fun stk=>wpAny_pure ?_
  split
  ·rename_i cc _ _ _ _ _
   cases (cc == Value.type "enumerate") <;>
   ·wp_walk using qJ0 hl,wpAny_pyIter_tuple hT
    exact ⟨_,rfl,hyp⟩
  ·wp_walk using qJ0 hl,wpAny_pyIter_tuple hT
   exact ⟨_,rfl,hyp⟩
def oF {l:Addr} {its:Array Value} {Q:Value->Shared->Prop} (hL:s.heap.IsTuple l its)
  (hyp:∀ h',IsEnum h' (s.heap.objs.size+1) s.heap.objs.size 0 .none->h'.IsTupleIter s.heap.objs.size l 0->(∀ b o,s.heap.get? b=some o->h'.get? b=some o)->Q (.ref (s.heap.objs.size+1)) { s with heap:=h' }) :
  wpAny (model prog w) A (call (.type "enumerate") [.ref l]) Q E s:=by
 obtain ⟨⟨c,LJ,dt,sl⟩,hl,hc,m,hd⟩:=hL
 have IJ:c=.type "tuple" := hc; have Jw:dt=.seq its m:=hd; subst IJ Jw
 refine callType_new F.called_enumerate (by decide) (F.typeCall_enumerate_1 _) (F.newCall_enumerate_1 _) (fun obj=>F.args_object_init_2 obj _) F.entry_enumerate_new (lO l its m LJ sl) ⟨hl,?_⟩
 generalize hP:s.heap.push { cls:=.type "tuple_iterator",data:=.fields #[.ref l,.int 0 0] }=P
 have hz:P.objs.size=s.heap.objs.size+1:=by rw [<- hP]; exact qL9 ..
 have hi:P.get? s.heap.objs.size=some { cls:=.type "tuple_iterator",data:=.fields #[.ref l,.int 0 0] }:=by rw [<- hP]; exact qC6 _ rfl
 have hk:∀ b o,s.heap.get? b=some o->P.get? b=some o:=fun b o e=>by rw [<- hP]; exact qA6 _ e
 show _/\_
 have en:IsEnum (P.push { cls:=.type "enumerate",data:=.fields #[.none,.bool false,.ref s.heap.objs.size,rawInt 0,.none,.none] }) (s.heap.objs.size+1) s.heap.objs.size 0 .none:=by rw [<- hz]; exact qC6 _ rfl
 rw [hz]
 exact ⟨⟨_,en,rfl⟩,hyp _ en ⟨_,qA6 _ hi,rfl,rfl⟩ fun b o e=>qA6 _ (hk b o e)⟩
def rG {t:Bool} {l:Addr} {its:Array Value} {Q:Value->Shared->Prop} (hL:SrcAt s.heap (t,l,its))
  (hyp:∀ h',IsEnum h' (s.heap.objs.size+1) s.heap.objs.size 0 .none->(L2.Sub.mk t s.heap.objs.size l).At h' 0->(∀ b o,s.heap.get? b=some o->h'.get? b=some o)->Q (.ref (s.heap.objs.size+1)) { s with heap:=h' }) :
  wpAny (model prog w) A (call (.type "enumerate") [.ref l]) Q E s:=by
 unfold SrcAt at hL
 cases t with
 | true=>exact oF hL fun h' a b c=>hyp h' a (by unfold Sub.At; exact b) c
 | false=>exact call_enumerate_list hL fun h' a b _ c=>hyp h' a (by unfold Sub.At; exact b) c
end
def ItE (K:Frag) (t:Bool) (a:Addr):It:=
  ⟨fun i H=>∃ xs x,Sq K H t a xs/\xs[i]?=some x,
   fun i H x H'=>∃ p y,x=.ref p/\H p=none/\H'=upd H p (.tup [.int (i:Int),y])/\∀ xs,Sq K H t a xs->xs[i]?=some y,
   fun i H=>∃ xs,Sq K H t a xs/\xs.length=i⟩
abbrev eTn (e:Addr) (u:Sub) (i:Nat) (h:Heap):Prop:=(∃ old,IsEnum h e u.i (i:Int) old)/\u.At h i
def px {P:Program} {w:World} {K:Frag} {elts:List Expr} {k:Nat} {tp:Pos} {e:Addr} {u:Sub} (Gr:e≠u.i) :
  Turn P w K (.Tuple elts k tp) (ItE K u.t u.l) [e,u.i] e (eTn e u) where
 mem:=by simp
 obj:=fun i h st b hb=>by
  obtain ⟨⟨old,he⟩,ha⟩:=st
  simp only [qB3,qD6,or_false] at hb
  rcases hb with rfl | rfl
  ·exact ⟨_,he,fun v q=>by cases q⟩
  ·obtain ⟨o,q,d⟩:=ha.obj
   exact ⟨o,q,fun v z=>by rw [d] at z; cases z⟩
 keep:=fun i h h' st kp=>⟨st.1.imp fun old he=>kp e (by simp) _ he,st.2.keep fun o q=>kp u.i (by simp) o q⟩
 item:=by
  intro X hP hw hK hc i pins s σ H E I hf st hg
  subst hP hw hK
  obtain ⟨⟨old,he⟩,ha⟩:=st
  obtain ⟨xs,x,hq,hx⟩:=hg
  obtain ⟨its,rv,Gv⟩:=Sq.src I hq
  obtain ⟨v,hv,rx⟩:=rv.get hx
  have fe:=hf e (by simp)
  have fi:=hf u.i (by simp)
  have Lm:u.l≠u.i:=Sq.ne I hq fi
  have hle:u.l≠e:=Sq.ne I hq fe
  have hi:i<its.toArray.size:=by have:=(qA7.mp hv).1; simpa using this
  refine wpAny_pyNext_enum_itemD (hJ (prog:=X.prog) (w:=X.w) (show X.A.in1.handled=none from I.ok.hd hc) u Lm its.toArray) he ⟨ha,Gv⟩ hi Gr (by simp only [qB3,qD6,or_false,not_or]; exact ⟨Gr,Ne.symm hle⟩) fun y h1 tk hy z1 s1 p1 z2 k1=>?_
  have ey:y=v:=by
   have e1:its[i]?=some y:=by simpa using hy
   rw [hv] at e1; cases e1; rfl
  subst ey
  refine ⟨_,rfl,wpAny_letOwnedTupleGo_enum z1 fun h2 e2 sb2=>?_⟩
  have IS:e<s.heap.objs.size:=qB7 he
  have hil:u.i<s.heap.objs.size:=by obtain ⟨o,q,_⟩:=ha.obj; exact qB7 q
  have kp:∀ b o,b≠e->b≠u.i->s.heap.get? b=some o->h2.get? b=some o:=fun b o b1 b2 q=>sb2.extBut _ _ b1 (k1 b o b1 b2 q)
  have HE:H s.heap.objs.size=none:=I.hok.fresh (qB1 _)
  have trk:∀ b c,H b=some c->b≠e/\b≠u.i:=fun b c q=>⟨fun z=>(by subst z; rw [fe.1] at q; cases q),fun z=>(by subst z; rw [fi.1] at q; cases q)⟩
  have Ly:h2.get? s.heap.objs.size=some { cls:=.type "tuple",data:=.seq #[.int i tk,y] }:=sb2.extBut _ _ (qJ9 IS) p1
  have rel:Vals [.int (i:Int),x] [.int i tk,y]:=.cons ⟨tk,rfl⟩ (.cons rx .nil)
  refine ⟨.ref s.heap.objs.size,upd H s.heap.objs.size (.tup [.int (i:Int),x]),?_,rfl,⟨_,_,rfl,HE,rfl,?_⟩,⟨⟨y,?_⟩,?_⟩,fun b hb=>?_⟩
  ·show Inv X pins σ _ { s with heap:=h2,toks:=tk+1 }
   refine I.step (g':=s.gens) (t':=tk+1) (d':=s.drawn) (ch:=[e,u.i]) (fun b hb=>?_) (fun b o _ _ hc q _=>kp b o ?_ ?_ q) (fun b o _ _ hc q _=>⟨o.slots,kp b o ?_ ?_ q⟩) (fun b o hc q n=>?_) (fun b o hc q=>⟨o,kp b o ?_ ?_ q⟩) (fun b ys q=>?_) (fun b o c q=>?_) (fun b ps q=>?_) (fun m hm=>?_) ?_ I.bare
   ·simp only [qB3,qD6,or_false] at hb
    rcases hb with rfl | rfl
    ·exact ⟨fe.2.2.2.1,fe.2.1,fe.2.2.2.2.1,fe.2.2.2.2.2⟩
    ·exact ⟨fi.2.2.2.1,fi.2.1,fi.2.2.2.2.1,fi.2.2.2.2.2⟩
   all_goals first
    | (intro z; exact hc (by simp [z]; done))
    | skip
   ·rw [c9 (qC7 (qB7 q))]; exact n
   ·rw [c9 (d8 q HE)]; exact q
   ·rw [c9 (d8 q HE)]; exact q
   ·exact ⟨#[],by rw [c9 (d8 q HE),q]; simp⟩
   ·obtain ⟨o,es,ep,ho,r⟩:=hm
    exact ⟨o,es,ep,kp _ o (Ne.symm fe.2.1) (Ne.symm fi.2.1) ho,r⟩
   ·intro b c q
    by_cases hb:b=s.heap.objs.size
    ·subst hb
     rw [l4] at q; cases q
     exact ⟨(show 2<=sizeLine by decide),_,rel,⟨_,Ly,rfl,_,rfl⟩⟩
    ·rw [c9 hb] at q
     refine (I.hok b c q).stay (fun d v GP z=>?_) (fun d z=>by rw [c9 (d8 z HE)]; exact z) fun d ys z=>by rw [c9 (d8 z HE)]; exact z
     rcases GP with rfl | GP
     ·exact kp _ v (trk _ _ q).1 (trk _ _ q).2 z
     ·exact kp _ v (trk _ _ GP).1 (trk _ _ GP).2 z
  ·intro ys hy2
   rw [Sq.inj I hy2 hq]; exact hx
  ·have:((i+1:Nat):Int)=(i:Int)+1:=by omega
   rw [this]; exact e2
  ·exact s1.1.keep fun o q=>sb2.extBut _ _ (Ne.symm Gr) q
  ·have:b≠s.heap.objs.size:=by
    simp only [qB3,qD6,or_false] at hb
    rcases hb with rfl | rfl
    ·exact qC7 IS
    ·exact qC7 hil
   rw [c9 this]
   exact (hf b hb).1
 done:=by
  intro X hP hw hK hc i pins s σ H E I hf st hg
  subst hP hw hK
  obtain ⟨⟨old,he⟩,ha⟩:=st
  obtain ⟨xs,hq,hn⟩:=hg
  obtain ⟨its,rv,Gv⟩:=Sq.src I hq
  have fe:=hf e (by simp)
  have fi:=hf u.i (by simp)
  have Lm:u.l≠u.i:=Sq.ne I hq fi
  have Id:its.toArray.size=i:=by have:=rv.length; simp; omega
  subst Id
  refine wpAny_pyNext_enum_endD (hJ (prog:=X.prog) (w:=X.w) (show X.A.in1.handled=none from I.ok.hd hc) u Lm its.toArray) he ⟨ha,Gv⟩ fun h' eb=>⟨rfl,?_⟩
  obtain ⟨f0,f1,f2,f3,f4,f5⟩:=fi
  exact I.turned (t':=s.toks) (fun b o hb q=>eb b o hb q) f0 f1 f3 f4 f5
 self:=fun A i s Q E st h=>by
  obtain ⟨⟨old,he⟩,_⟩:=st
  exact wpAny_pyIter_enum he h
def vQ (K:Frag) (ta:TA):TI:=fun σ H R=>ta σ H fun vs H1=>∃ t a xs,vs = [.ref a]/\Sq K H1 t a xs/\R (ItE K t a) H1
def lr:bootBuiltins "enumerate" = some (.type "enumerate"):=by decide +kernel
section
variable {X:Cx}
def xa {a:Expr} {elts:List Expr} {ta:TA} {p pos tp:Pos} {k:Nat} (hg:Gl X "enumerate") (hm:X.mg "enumerate" = none) (ha:PA X [a] ta) (hs:starEach [a] X.env = [(false,eval a X.env)]:=by rfl):PI X (.Tuple elts k tp) (.Call (.Name "enumerate" p) [a] [] pos) (vQ X.K ta):=by
 intro pins s σ H R I h
 refine wpAny_Call_Name_kw (X7 I hg hm lr ?_ (by decide) (by decide))
 refine qH7 (thn (ha pos pins s σ H _ I h) fun us s1 zz79=>?_) hs (by rfl)
 obtain ⟨vs,H1,I1,r1,t,b,xs,e1,hq,q⟩:=zz79
 subst e1
 obtain ⟨u,rfl,ru⟩:=Q2 r1
 cases ru
 obtain ⟨its,rv,Gv⟩:=Sq.src I1 hq
 refine rG (t:=t) (its:=its.toArray) (by unfold SrcAt; unfold Sub.Src at Gv; exact Gv) fun h' he hA hk=>wpAny_pyIter_enum he ?_
 have I2:Inv X pins σ H1 { s1 with heap:=h' }:=I1.kept (t':=s1.toks) hk
 have TE:=px (P:=X.prog) (w:=X.w) (K:=X.K) (elts:=elts) (k:=k) (tp:=tp) (e:=s1.heap.objs.size+1) (u:=⟨t,s1.heap.objs.size,b⟩) (neN (by show s1.heap.objs.size+1≠s1.heap.objs.size; omega))
 refine ⟨_,_,_,_,H1,rfl,I2,TE,⟨⟨_,he⟩,hA⟩,fun c hc=>?_,q⟩
 have Hw:s1.heap.objs.size<=c:=by
  simp only [qB3,qD6,or_false] at hc
  rcases hc with rfl | rfl
  ·omega
  ·exact qB1 _
 exact I1.fpOk (H':=H1) Hw (I1.hok.fresh Hw)
end
def gO:List W->R (List W)
 | [w]=>match B3 w with
  | .ok xs=>.ok (xs.mapIdx fun i x=>W.tup [.int (i:Int),x])
  | _=>.stuck
 | _=>.stuck
section
variable {K:Frag} {EX:EXT} {H0 G H:Hp} {ρ:Rho} {σ:St}
def qS {e:Mode} {Z:Hp} {t:Bool} {a:Addr} {xs:List V} {us:List W} (he:e=.V\/e=.U) (s1:Sq K Z t a xs) (r1:Reps K (fz e H0 G) xs us):bu K e H0 Z G (ItE K t a) (us.mapIdx fun i x=>W.tup [.int (i:Int),x]):=by
 have l1:=r1.length
 have hq:∀ H,Same Z H->Sq K H t a xs:=fun H z=>Sq.same z s1
 refine ⟨fun i H hi z=>?_,fun H z=>⟨xs,hq H z,by rw [List.length_mapIdx,l1]⟩,fun i H x H' w hw z y G2 ρ σ I sg=>?_⟩
 ·rw [List.length_mapIdx] at hi
  exact ⟨xs,xs[i]'(by omega),hq H z,by simp⟩
 ·obtain ⟨p,y1,rfl,hp,rfl,hy⟩:=y
  obtain ⟨w1,e1,q1⟩:=Reps.get' r1 (hy xs (hq H z))
  have JK:w=.tup [.int (i:Int),w1]:=by
   rw [List.getElem?_mapIdx,e1] at hw
   cases hw; rfl
  subst JK
  obtain ⟨x1,x2⟩:=gq (Hs:=H) he I hp (.cons .int (.cons (q1.same (L5 sg)) .nil))
  exact ⟨_,x1,x2⟩
def Dw {lp:Bool} {e:Mode} {ma:Rho->R (List W)} {Rr:It->Hp->Prop} (he:e=.V\/e=.U) (h:tIt K EX lp e (fun ρ=>ma ρ>>=gO) σ H Rr):vQ K (tA K EX (bL lp e) ma) σ H Rr:=by
 refine aP h (fun H0 G ρ G1 H1 xs ws us I e1 m1 q o=>?_) (fun ws e z=>?_)
 ·have I1:=I.ext e1
  unfold gO at q
  split at q
  ·rename_i w
   cases hw:B3 w with
   | stuck=>rw [hw] at q; cases q
   | ex _=>rw [hw] at q; cases q
   | ok ls=>
    rw [hw] at q
    cases q
    cases m1 with
    | cons a1 m1=>
     cases m1
     obtain ⟨t1,p1,v1,rfl,q1,r1⟩:=Md.src he I1 a1 hw
     exact ⟨t1,p1,v1,rfl,G9 (gG I1) q1,o _ G1 H1 e1 (qS he q1 r1)⟩
  ·cases q
 ·unfold gO at z
  split at z
  ·split at z <;> cases z
  ·cases z
end
section
variable {X:Cx} {K:Frag} {EX:EXT} {a:Expr} {pos:Pos} {mr:Rho->R (List W)}
def AE {elts:List Expr} {p tp:Pos} {k:Nat} (hg:Gl X "enumerate") (hm:X.mg "enumerate" = none) (ha:PA X [a] (tA K EX .B mr)) (hK:X.K=K:=by rfl) (hs:starEach [a] X.env = [(false,eval a X.env)]:=by rfl):PI X (.Tuple elts k tp) (.Call (.Name "enumerate" p) [a] [] pos) (tIt K EX false .U (bI gO mr)):=by
 subst hK; exact (xa hg hm ha hs).mono fun _ _ _ q=>Dw (lp:=false) (.inr rfl) q
end
section
variable {X:Cx}
end
end TP
namespace TP
open PySem L2
def lexLt:List Int->List Int->Bool
 | [],[]=>false
 | [],_::_=>true
 | _::_,[]=>false
 | a::as,b::bs=>if a=b then lexLt as bs else decide (a<b)
def gI:∀ a,lexLt a a=false
 | []=>rfl
 | x::a=>by unfold lexLt; rw [qA1 rfl]; exact gI a
def fB:∀ a b c,lexLt a b=true->lexLt b c=true->lexLt a c=true
 | [],[],_,h,_=>by cases h
 | [],_::_,[],_,h=>by cases h
 | [],_::_,_::_,_,_=>rfl
 | _::_,[],_,h,_=>by cases h
 | _::_,_::_,[],_,h=>by cases h
 | x::a,y::b,z::c,h1,h2=>by
  unfold lexLt at h1 h2 ⊢
  by_cases e1:x=y
  ·subst e1
   rw [qA1 rfl] at h1
   by_cases e2:x=z
   ·subst e2; rw [qA1 rfl] at h2 ⊢; exact fB a b c h1 h2
   ·rw [qA3 e2] at h2 ⊢; exact h2
  ·rw [qA3 e1] at h1
   have h1:=of_decide_eq_true h1
   by_cases e2:y=z
   ·subst e2; rw [qA3 e1]; exact decide_eq_true h1
   ·rw [qA3 e2] at h2
    have h2:=of_decide_eq_true h2
    rw [qA3 (by omega)]; exact decide_eq_true (by omega)
def de:∀ a b,lexLt a b=false->lexLt b a=false->a=b
 | [],[],_,_=>rfl
 | [],_::_,h,_=>by cases h
 | _::_,[],_,h=>by cases h
 | x::a,y::b,h1,h2=>by
  unfold lexLt at h1 h2
  by_cases e:x=y
  ·subst e
   rw [qA1 rfl] at h1 h2
   rw [de a b h1 h2]
  ·rw [qA3 e] at h1
   rw [qA3 (fun z=>e z.symm)] at h2
   have h1:=of_decide_eq_false h1
   have h2:=of_decide_eq_false h2
   omega
def D9 (ss:List (List Int)) (i:Nat):Int:=((ss.countP fun x=>lexLt x (ss.getD i [])):Nat)
def rB {α:Type} {p q:α->Bool}:∀ {l:List α},(∀ x∈l,p x=true->q x=true)->(∃ x∈l,q x=true/\p x=false)->l.countP p<l.countP q:=by
 intro l
 induction l with
 | nil=>intro _ h; obtain ⟨_,h,_⟩:=h; exact absurd h qD6
 | cons x l ih=>
  intro h h0
  obtain ⟨y,hy,hq,hp⟩:=h0
  have h':∀ z∈l,p z=true->q z=true:=fun z hz=>h z (qA8 _ hz)
  have le:l.countP p<=l.countP q:=List.countP_mono_left h'
  rw [List.countP_cons,List.countP_cons]
  rcases qB3.mp hy with e | hy
  ·subst e
   rw [qA1 hq,hp,qA3 qA4]; omega
  ·have:=ih h' ⟨y,hy,hq,hp⟩
   by_cases c:p x=true
   ·rw [qA1 c,qA1 (h x qB6 c)]; omega
   ·rw [qA3 c]; split <;> omega
def getD_mem {ss:List (List Int)} {i:Nat} (h:i<ss.length):ss.getD i []∈ss:=by
 rw [qA0]; simp [h]
def gu {ss:List (List Int)} {i j:Nat} (hi:i<ss.length) (hj:j<ss.length):decide (D9 ss i<D9 ss j)=lexLt (ss.getD i []) (ss.getD j []):=by
 cases h:lexLt (ss.getD i []) (ss.getD j []) with
 | true=>
  apply decide_eq_true
  unfold D9
  have:=rB (l:=ss) (p:=fun x=>lexLt x (ss.getD i [])) (q:=fun x=>lexLt x (ss.getD j [])) (fun x _ hx=>fB _ _ _ hx h) ⟨_,getD_mem hi,h,gI _⟩
  omega
 | false=>
  apply decide_eq_false
  unfold D9
  have:ss.countP (fun x=>lexLt x (ss.getD j []))<=ss.countP fun x=>lexLt x (ss.getD i []):=by
   apply List.countP_mono_left
   intro x _ hx
   cases h2:lexLt (ss.getD j []) (ss.getD i []) with
   | true=>exact fB _ _ _ hx h2
   | false=>rw [de _ _ h h2]; exact hx
  omega
def jK (ss:List (List Int)):List Nat:=if ss.length<2 then List.range ss.length else (runK (D9 ss) (PySem.W.kas_sort ss.length)).toList
def F3 (ss:List (List Int)):List (List Int):=(jK ss).map fun i=>ss.getD i []
def tY (ss:List (List Int)):(jK ss).Perm (List.range ss.length):=by
 unfold jK
 split
 ·exact .refl _
 ·rename_i h
  have:=(cO (D9 ss) (n:=ss.length) (by omega)).1
  exact (qH1.mp this).trans (by simp)
def ig (ss:List (List Int)):(List.range ss.length).map (fun i=>ss.getD i [])=ss:=by
 apply qJ6
 ·simp
 ·intro i h1 h2; simp [h2]
def bM (ss:List (List Int)):(F3 ss).Perm ss:=by
 have:=(tY ss).map fun i=>ss.getD i []
 rw [ig] at this
 exact this
def lZ (ss:List (List Int)):(F3 ss).Pairwise fun a b=>lexLt b a=false:=by
 unfold F3
 rw [qH2]
 unfold jK
 split
 ·rename_i h
  have:ss.length=0\/ss.length=1:=by omega
  rcases this with e | e <;> rw [e] <;> simp
 ·rename_i h
  have k:=cO (D9 ss) (n:=ss.length) (by omega)
  have hp:=qH1.mp k.1
  have hl:(runK (D9 ss) (PySem.W.kas_sort ss.length)).toList.length=ss.length:=by have:=hp.length_eq; simpa using this
  have hm:∀ x∈(runK (D9 ss) (PySem.W.kas_sort ss.length)).toList,x<ss.length:=fun x hx=>by have:=hp.mem_iff.mp hx; simpa using this
  have hu:=aw (D9 ss) k.2
  generalize runK (D9 ss) (PySem.W.kas_sort ss.length)=p at hl hm hu
  rw [List.pairwise_iff_getElem]
  intro i j hi hj Gw
  have:=hu j i (by omega) (by omega)
  unfold ky at this
  have ei:p.getD i 0=p.toList[i]:=by rw [qE3]; simp at hi ⊢; simp [hi]
  have ej:p.getD j 0=p.toList[j]:=by rw [qE3]; simp at hj ⊢; simp [hj]
  rw [ei,ej] at this
  rw [<- gu (hm _ (qG4 hj)) (hm _ (qG4 hi))]
  exact decide_eq_false (by omega)
def R4 {α:Type} (n:Nat) (P:α->Prop):PySem.W.KasT α->Prop
 | .ret a=>P a
 | .ask i j k=>i<n/\j<n/\∀ b,R4 n P (k b)
def R3 {α β:Type} {n:Nat} {P:α->Prop} {P':β->Prop} {f:α->PySem.W.KasT β}:∀ {t:PySem.W.KasT α},R4 n P t->(∀ a,P a->R4 n P' (f a))->R4 n P' (t.bind f)
 | .ret a,h,hf=>hf a h
 | .ask i j k,h,hf=>⟨h.1,h.2.1,fun b=>R3 (h.2.2 b) hf⟩
def allLt (n:Nat) (p:Array Nat):Prop:=∀ x∈p,x<n
def allLt.perm {n:Nat} {p q:Array Nat} (h:allLt n p) (hp:q.Perm p):allLt n q:=fun x hx=>h x (hp.mem_iff.mp hx)
def allLt.at {n:Nat} {p:Array Nat} (h:allLt n p) (h0:0<n) (k:Nat):p.getD k 0<n:=by
 rw [qE3]
 cases e:p[k]? with
 | none=>exact h0
 | some x=>exact h x (Array.mem_of_getElem? e)
section
open PySem.W PyProof.Rows
variable {n:Nat} (h0:0<n)
include h0
def gR {p:Array Nat} (h:allLt n p):∀ f k,R4 n (fun _=>True) (kas_asc p f k)
 | 0,_=>trivial
 | f+1,k=>⟨h.at h0 _,h.at h0 _,fun b=>by cases b <;> first | exact gR h f (k+1) | trivial⟩
def bt:∀ (f:Nat) (p:Array Nat) (k q:Nat),allLt n p->R4 n (fun r:Array Nat×Nat×Nat=>allLt n r.1) (kas_desc f p k q)
 | 0,p,k,q,h=>h
 | f+1,p,k,q,h=>by
  refine ⟨h.at h0 _,h.at h0 _,fun b=>?_⟩
  cases b with
  | true=>
   dsimp only; rw [qA1 rfl]
   split
   ·exact bt f _ _ _ (h.perm (mirror_perm _ _ _ _))
   ·exact bt f _ _ _ h
  | false=>
   dsimp only; rw [qA3 qA4]
   refine ⟨h.at h0 _,h.at h0 _,fun b=>?_⟩
   cases b with
   | true=>dsimp only; rw [qA1 rfl]; exact h
   | false=>dsimp only; rw [qA3 qA4]; exact bt f _ _ _ h
def iC {p:Array Nat} {k m:Nat} (h:allLt n p):R4 n (fun r:Nat×Array Nat=>allLt n r.2) (kas_tail3 k m p):=
 R3 (gR h0 (h.perm (mirror_perm _ _ _ _)) _ _) fun _ _=>h.perm (mirror_perm _ _ _ _)
def cH {p:Array Nat} {k m:Nat} (h:allLt n p):R4 n (fun r:Nat×Array Nat=>allLt n r.2) (kas_descPart k m p):=by
 refine R3 (bt h0 _ _ _ _ h) fun r hr=>?_
 split
 ·exact iC h0 (hr.perm (mirror_perm _ _ _ _))
 ·exact iC h0 hr
def rR {p:Array Nat} {m:Nat} (h:allLt n p):R4 n (fun r:Nat×Array Nat=>allLt n r.2) (kas_count m p):=by
 refine R3 (gR h0 h _ _) fun r hr=>?_
 split
 ·exact h
 ·split
  ·refine ⟨h.at h0 _,h.at h0 _,fun b=>?_⟩
   cases b with
   | true=>dsimp only; rw [qA1 rfl]; exact h
   | false=>dsimp only; rw [qA3 qA4]; exact cH h0 (h.perm (mirror_perm _ _ _ _))
  ·exact cH h0 h
def cG {p:Array Nat} {k:Nat} (h:allLt n p):∀ f l m,R4 n (fun _=>True) (kas_place p k f l m)
 | 0,_,_=>trivial
 | f+1,l,m=>by
  unfold kas_place
  split
  ·trivial
  ·refine ⟨h.at h0 _,h.at h0 _,fun b=>?_⟩
   cases b with
   | true=>dsimp only; rw [qA1 rfl]; exact cG h f _ _
   | false=>dsimp only; rw [qA3 qA4]; exact cG h f _ _
def ni:∀ (f:Nat) (p:Array Nat) (k:Nat),allLt n p->R4 n (fun _=>True) (kas_bin f p k)
 | 0,_,_,_=>trivial
 | f+1,p,k,h=>R3 (cG h0 h _ _ _) fun l _=>ni f _ _ (h.perm (bubble_perm _ _ _))
def vm:R4 n (fun _=>True) (kas_sort n):=by
 refine R3 (rR h0 fun x hx=>by simpa using hx) fun r hr=>?_
 split
 ·exact ni h0 _ _ _ hr
 ·trivial
end
def wp_run {n:Nat} {r:Nat->Int} {cmp:Nat->Nat->(Bool->Shared->Prop)->Shared->Prop} {s:Shared} (hc:∀ i j C,i<n->j<n->C (decide (r i<r j)) s->cmp i j C s) {α:Type} {P:α->Prop} {Q:α->Shared->Prop} :
  ∀ {t:PySem.W.KasT α},R4 n P t->Q (runK r t) s->t.kasWp cmp Q s
 | .ret _,_,h=>h
 | .ask i j k,a,h=>hc i j _ a.1 a.2.1 (wp_run hc (a.2.2 _) h)
def ao (fin:Bool):List (Int×Int)->Bool
 | []=>fin
 | (a,b)::r=>if a=b then ao fin r else decide (a<b)
def gL:∀ xs ys:List Int,ao (decide (xs.length<ys.length)) (xs.zip ys)=lexLt xs ys
 | [],[]=>rfl
 | [],_::_=>by simp [ao,lexLt]
 | _::_,[]=>by simp [ao,lexLt]
 | x::xs,y::ys=>by
  have:=gL xs ys
  simp only [qK0,ao,lexLt,qC2,Nat.add_lt_add_iff_right]
  rw [this]
section
open PySem.W PyProof.Rows
variable {prog:Program} {w:World} {A:Around} {E:Value->Shared->Prop} {s:Shared}
def qM {fin:Bool} {Q:Bool->Shared->Prop}:∀ (xs ys:List Int) (us vs:List Value) (i:Nat),Vals (xs.map V.int) us->Vals (ys.map V.int) vs->Q (ao fin (xs.zip ys)) s->KatLex prog w A true fin Q (us.zip vs) i s
 | [],_,_,_,_,.nil,_,h=>h
 | _::_,[],_,_,_,.cons _ _,.nil,h=>h
 | x::xs,y::ys,_,_,i,.cons r1 t1,.cons r2 t2,h=>by
  obtain ⟨t,rfl⟩:=r1
  obtain ⟨u,rfl⟩:=r2
  refine kat_cons (wpAny_eqBool_int ?_)
  simp only [qK0,ao] at h
  by_cases e:x=y
  ·rw [qA1 e] at h
   rw [show (x == y)=true by simpa using e]
   exact kat_yes (qM xs ys _ _ (i+1) t1 t2 h)
  ·rw [qA3 e] at h
   rw [show (x == y)=false by simpa using e]
   refine kat_no ?_
   cases i with
   | zero=>exact oneLt_int h
   | succ i=>exact kat_one _ _ (lt_int h)
def TupI (h:Heap) (v:Value) (xs:List Int):Prop:=∃ (a:Addr) (o:Obj) (its:List Value) (m:Nat),v=.ref a/\h.get? a=some o/\o.cls=.type "tuple" /\ o.data=.seq its.toArray m/\Vals (xs.map V.int) its
def xI {v u:Value} {xs ys:List Int} {Q:Bool->Shared->Prop} (hv:TupI s.heap v xs) (hu:TupI s.heap u ys) (h:Q (lexLt xs ys) s):wpAny (model prog w) A (keyLt' (tuples' true) v u) Q E s:=by
 obtain ⟨a,o,its,m,rfl,ho,_,hd,rv⟩:=hv
 obtain ⟨b,o2,Gu,m2,rfl,HV,_,hd2,Hj⟩:=hu
 refine kat_lt ho hd HV hd2 ?_
 have l1:=rv.length
 have l2:=Hj.length
 rw [qA5] at l1 l2
 refine qM xs ys _ _ 0 rv Hj ?_
 simp only [qC1,<- l1,<- l2]
 rw [gL]; exact h
def so {h:Heap} {v:Value} {xs:List Int} (hv:TupI h v xs) (Gr:xs ≠ []):∃ (a:Addr) (o:Obj) (its:Array Value) (m:Nat) (i:Int) (tk:Tok),v=.ref a/\h.get? a=some o/\o.cls=.type "tuple" /\ o.data=.seq its m/\its[0]?=some (.int i tk):=by
 obtain ⟨a,o,its,m,e,ho,hc,hd,rv⟩:=hv
 cases xs with
 | nil=>exact absurd rfl Gr
 | cons x xs=>
  cases its with
  | nil=>cases rv
  | cons u its=>
   cases rv with
   | cons r1 _=>
    obtain ⟨tk,rfl⟩:=r1
    exact ⟨a,o,_,m,x,tk,e,ho,hc,hd,rfl⟩
def iY {h:Heap}:∀ {vs:List Value} {ss:List (List Int)},Paired (fun v xs=>TupI h v xs/\xs ≠ []) vs ss->∃ fs:List Value,KatTups h vs fs/\fs.length=ss.length/\∀ f∈fs,∃ i t,f=.int i t
 | _,_,.nil=>⟨[],trivial,rfl,fun _ h=>nomatch h⟩
 | _,_,.cons hv t=>by
  obtain ⟨fs,k,hl,hi⟩:=iY t
  obtain ⟨a,o,its,m,i,tk,e,ho,hc,hd,h0⟩:=so hv.1 hv.2
  subst e
  refine ⟨.int i tk::fs,KatTups.cons ho hc hd h0 k,by rw [qC2,qC2,hl],fun f hf=>?_⟩
  rcases qB3.mp hf with q | hf
  ·exact ⟨i,tk,q⟩
  ·exact hi f hf
end
def B4 {α β:Type} {F:α->β->Prop} {d:α}:∀ {as:List α} {bs:List β} {i:Nat},Paired F as bs->i<as.length->∃ b,bs[i]?=some b/\F (as.getD i d) b
 | _,_,_,.nil,h=>absurd h (qE7 _)
 | _,_,0,.cons r _,_=>⟨_,rfl,r⟩
 | _,_,i+1,.cons _ t,h=>by
  obtain ⟨b,e,q⟩:=B4 (d:=d) (i:=i) t (by simpa using h)
  exact ⟨b,by simpa using e,by simpa using q⟩
def dG {α β γ:Type} {F:α->β->Prop} {G:α->γ->Prop} {R:β->γ->Prop}:∀ {as:List α} {bs:List β} {cs:List γ},Paired F as bs->Paired G as cs->(∀ a b c,F a b->G a c->R b c)->Paired R bs cs
 | _,_,_,.nil,.nil,_=>.nil
 | _,_,_,.cons a r,.cons b t,h=>.cons (h _ _ _ a b) (dG r t h)
section
open PySem.W PyProof.Rows
variable {prog:Program} {w:World} {A:Around} {E:Value->Shared->Prop} {s:Shared}
end
def iB:bootBuiltins "sorted" = some (.builtin "sorted"):=by decide +kernel
section
variable {X:Cx} {K:Frag}
end
def O7:List W->Option (List (List Int))
 | []=>some []
 | .tup ws::r=>match y8 ws,O7 r with
  | some x,some xs=>some (x::xs)
  | _,_=>none
 | _=>none
def dW:∀ ss:List (List Int),O7 (ss.map fun x=>W.tup (x.map W.int))=some ss
 | []=>rfl
 | x::ss=>by
  show (match y8 (x.map W.int),O7 (ss.map fun x=>W.tup (x.map W.int)) with | some x,some xs=>_ | _,_=>_)=_
  rw [ints_map,dW ss]
def uL:∀ {ws:List W} {x:List Int},y8 ws=some x->ws=x.map W.int:=by
 intro ws
 induction ws with
 | nil=>intro x h; cases h; rfl
 | cons w ws ih=>
  intro x h
  cases w <;> first | (cases h; done) | skip
  rename_i i
  have h':(y8 ws).map (i::·)=some x:=h
  cases hw:y8 ws with
  | none=>rw [hw] at h'; cases h'
  | some bs=>rw [hw] at h'; rw [ih hw,<- Option.some.inj h']; rfl
def iZ:∀ {ws:List W} {ss:List (List Int)},O7 ws=some ss->ws=ss.map fun x=>W.tup (x.map W.int):=by
 intro ws
 induction ws with
 | nil=>intro ss h; cases h; rfl
 | cons w r ih=>
  intro ss h
  cases w <;> first | (cases h; done) | skip
  rename_i ws
  have h':(match y8 ws,O7 r with | some x,some xs=>some (x::xs) | _,_=>none)=some ss:=h
  cases h1:y8 ws with
  | none=>rw [h1] at h'; cases h'
  | some x=>
   cases h2:O7 r with
   | none=>rw [h1,h2] at h'; cases h'
   | some xs=>rw [h1,h2] at h'; rw [uL h1,ih h2,<- Option.some.inj h']; rfl
def ik:∀ ns:List Int,m5 (ns.map W.int)=true
 | []=>rfl
 | n::ns=>by rw [qC0]; simp only [m5,noL,ik ns,qN7]
def eF:∀ ss:List (List Int),m5 (ss.map fun x=>W.tup (x.map W.int))=true
 | []=>rfl
 | x::ss=>by rw [qC0]; simp only [m5,noL,ik x,eF ss,qN7]
section
variable {K:Frag}
def ie {F:Hp}:∀ {ys:List V} {ss:List (List Int)},Reps K F ys (ss.map fun x=>W.tup (x.map W.int))->(∀ x∈ss,x ≠ [])->Paired (fun v zs=>(∃ a,v=.ref a/\F a=some (.tup (zs.map V.int)))/\zs ≠ []) ys ss
 | _,[],.nil,_=>.nil
 | _,x::ss,.cons r t,Gr=>by
  refine .cons ⟨?_,Gr x qB6⟩ (ie t fun y hy=>Gr y (qA8 _ hy))
  cases r with
  | tup ha hr=>exact ⟨_,rfl,by rw [ha,Reps.ints hr (ints_map x)]⟩
def gn {F:Hp}:∀ {ys:List V} {ws:List W} {i:Nat},Reps K F ys ws->i<ys.length->∃ w,ws[i]?=some w/\Rep K F (ys.getD i .non) w
 | _,_,_,.nil,h=>absurd h (qE7 _)
 | _,_,0,.cons r _,_=>⟨_,rfl,r⟩
 | _,_,i+1,.cons _ t,h=>by
  obtain ⟨b,e,q⟩:=gn (i:=i) t (by simpa using h)
  exact ⟨b,by simpa using e,by simpa using q⟩
def eC {F:Hp} {f:Nat->V} {g:Nat->W}:∀ {l:List Nat},(∀ i∈l,Rep K F (f i) (g i))->Reps K F (l.map f) (l.map g)
 | [],_=>.nil
 | _::_,h=>.cons (h _ qB6) (eC fun b hb=>h b (qA8 _ hb))
end
end TP
namespace TP
open PySem L2
set_option maxHeartbeats 2000000
def zg (l b:Addr) (us vs:List Value) (m m2:Nat) (dd LI:Option Addr) (sl KP:Array (Option Value)) (xs ys:List Int) (rx:Vals (xs.map V.int) us) (ry:Vals (ys.map V.int) vs) :
  Meets (Builtin.«tuple.__lt__» ⟨[.ref l,.ref b],[]⟩) (fun _ R s=>s.heap.get? l=some { cls:=.type "tuple",dict:=dd,data:=.seq us.toArray m,slots:=sl }/\s.heap.get? b=some { cls:=.type "tuple",dict:=LI,data:=.seq vs.toArray m2,slots:=KP }/\R (.ok (.ret (.bool (lexLt xs ys)))) s):=
 .of_wp fun prog w A R s hyp=>by
  obtain ⟨hp,g,d,tk,os⟩:=s; obtain ⟨hl,hb,hyp⟩:=hyp; have g1:=AutoSeq1.sub_tuple_tuple
  have l1:=rx.length
  have l2:=ry.length
  rw [qA5] at l1 l2
  wp_walk using qJ0 hl,qJ0 hb,wpAny_forIn_list _ (fun rest b s'=>b.1=none/\s'=⟨hp,g,d,tk,os⟩/\∃ (zs ts:List Int) (us vs:List Value),rest=us.zip vs/\Vals (zs.map V.int) us/\Vals (ts.map V.int) vs/\R (.ok (.ret (.bool (ao (decide (xs.length<ys.length)) (zs.zip ts))))) ⟨hp,g,d,tk,os⟩) _
  case turn=>
   rintro ⟨y,x⟩ rest b s' ⟨Hw,rfl,zs,ts,Gz,Ib,hz,r1,r2,hR⟩
   cases zs with
   | nil=>cases r1; cases hz
   | cons z zs=>
    cases ts with
    | nil=>cases r2; cases Gz <;> cases hz
    | cons t ts=>
     cases r1 with
     | cons a1 r1=>
      cases r2 with
      | cons a2 r2=>
       obtain ⟨k1,rfl⟩:=a1
       obtain ⟨k2,rfl⟩:=a2
       rw [qK0] at hz
       injection hz with h1 h2
       injection h1 with h3 h4
       subst h3 h4 h2
       simp only [qK0,ao] at hR
       refine qA2 (wpAny_eqBool_int ?_)
       by_cases e:z=t
       ·rw [qA1 e] at hR
        rw [show (z == t)=true by simpa using e]
        wp_walk
        exact ⟨rfl,rfl,zs,ts,_,_,rfl,r1,r2,hR⟩
       ·rw [qA3 e] at hR
        rw [show (z == t)=false by simpa using e]
        rw [qA1 (show (!false)=true from rfl)]
        refine qA2 (wpAny_rule (qA2 (PyProof.Rows.lt_int ?_)))
        wp_walk
        exact ⟨_,rfl,hR⟩
  case fin=>
   rintro ⟨b1,b2⟩ s' ⟨Hw,rfl,zs,ts,Gz,Ib,hz,r1,r2,hR⟩
   simp only at Hw
   subst Hw
   have hk:ao (decide (xs.length<ys.length)) (zs.zip ts)=decide (xs.length<ys.length):=by
    cases zs with
    | nil=>rfl
    | cons z zs=>
     cases ts with
     | nil=>rfl
     | cons t ts=>cases r1; cases r2; cases hz
   rw [hk] at hR
   wp_walk
   refine ⟨_,rfl,?_⟩
   simpa [Builtin.Tuple.tupleCompareSizes,<- l1,<- l2] using hR
  case h=>
   exact ⟨rfl,rfl,xs,ys,us,vs,rfl,rx,ry,by rw [gL]; exact hyp⟩
section
variable {X:Cx} {K:Frag}
end
section
variable {K:Frag}
end
end TP
namespace L2
open PySem PySem.Spec PyProof.Rows
section
variable {X:Cx} {pins:List (Addr×Obj)} {σ:St} {H:Hp} {s:Shared} {A:Around} {E:Value->Shared->Prop} {Q:Value->Shared->Prop} {b:Bool}
end
end L2
namespace TP
open PySem L2
section
variable {K:Frag} {d:Mode}
end
end TP
namespace HT
open PySem PyProof.Rows
section
variable {prog:Program} {w:World} {A:Around} {E:Value->Shared->Prop} {s:Shared}
end
end HT
namespace TP
open PySem L2
section
variable {X:Cx}
end
section
variable {K:Frag} {EX:EXT} {H0 G H:Hp} {ρ:Rho} {σ:St} {Q:VK}
end
section
variable {X:Cx} {K:Frag} {EX:EXT} {e:Expr} {pos:Pos} {ma:Rho->R W}
end
end TP
namespace TP
open PySem L2
section
variable {K:Frag} {EX:EXT} {H0 G H G1 H1 F:Hp} {ρ:Rho} {σ:St} {d:Mode} {D:Ends}
end
section
variable {X:Cx} {K:Frag} {EX:EXT} {d:Mode} {e k v:Expr} {pos:Pos} {mk me:Rho->R W}
end
end TP
namespace TP
open PySem L2
set_option maxHeartbeats 2000000
section
variable {X:Cx} {K:Frag}
end
section
variable {K:Frag}
end
end TP
namespace TP
open PySem L2
section
variable {X:Cx} {K:Frag} {EX:EXT} {d:Mode} {p:Pos} {es:List Expr} {mr:Rho->R (List W)}
def n8 {i j} (hr:PA X es (tA K EX d mr)):PA X (.Constant (.int i) j p::es) (tA K EX d (aC (mC (.int i)) mr)):=b6 c7 hr (by rfl)
def AC {a0 a1 a2 a3 a4 a5} {u0 u1 u2 u3 u4 u5} {p0 p1 p2 p3 p4 p5:Pos} {pos:Pos}:PE X (.List [.Constant (.int a0) u0 p0,.Constant (.int a1) u1 p1,.Constant (.int a2) u2 p2,.Constant (.int a3) u3 p3,.Constant (.int a4) u4 p4,.Constant (.int a5) u5 p5] pos) (tM K EX .F (D5 (aC (mC (.int a0)) (aC (mC (.int a1)) (aC (mC (.int a2)) (aC (mC (.int a3)) (aC (mC (.int a4)) (aC (mC (.int a5)) aN)))))))):=by
 refine D4 ?_
 refine n8 ?_
 refine n8 ?_
 refine n8 ?_
 refine n8 ?_
 refine n8 ?_
 refine n8 ?_
 exact b8
def AB {a0 a1 a2 a3 a4 a5 a6} {u0 u1 u2 u3 u4 u5 u6} {p0 p1 p2 p3 p4 p5 p6:Pos} {pos:Pos}:PE X (.List [.Constant (.int a0) u0 p0,.Constant (.int a1) u1 p1,.Constant (.int a2) u2 p2,.Constant (.int a3) u3 p3,.Constant (.int a4) u4 p4,.Constant (.int a5) u5 p5,.Constant (.int a6) u6 p6] pos) (tM K EX .F (D5 (aC (mC (.int a0)) (aC (mC (.int a1)) (aC (mC (.int a2)) (aC (mC (.int a3)) (aC (mC (.int a4)) (aC (mC (.int a5)) (aC (mC (.int a6)) aN))))))))):=by
 refine D4 ?_
 refine n8 ?_
 refine n8 ?_
 refine n8 ?_
 refine n8 ?_
 refine n8 ?_
 refine n8 ?_
 refine n8 ?_
 exact b8
end
end TP
namespace TB
open PySem PySem.W
def bits_of {ns:List Int} (h:WData.layableAll [WData.list (ns.map WData.int)]=true):∀ x∈ns,Builtin.Int.intBits x<=1048576:=fun x hx=>by
 have h1:(WData.list (ns.map WData.int)).layable=true:=by simpa [WData.layableAll] using h
 have h2:(WData.list (ns.map WData.int)).weight<=2^20:=(layableW_iff.mp h1).2.2
 have key:∀ ms:List Int,x∈ms->Builtin.Int.intBits x<=WData.weightAll (ms.map WData.int):=by
  intro ms
  induction ms with
  | nil=>intro z; cases z
  | cons m ms ih=>
   intro z
   rw [qC0]
   show _<=WData.weight (.int m)+1+WData.weightAll (ms.map WData.int)
   rcases qB3.mp z with e | e
   ·subst e
    have:WData.weight (.int x)=Builtin.Int.intBits x:=by rfl
    omega
   ·have:=ih e
    omega
 exact qA9 (key ns hx) (by simpa [WData.weight] using h2)
end TB
namespace Att
open PySem PySem.W PySem.Calls PyProof.Rows
def attach_callB {l:OpenLaw} {n:Nat} {q:Program} {loose:List Str} {XP:(Str->Option Value)->Heap->Prop} {YP:World->Heap->Prop} {d:DefRec}
  (hn:l.most=some n) (JX:d.params.defaults = [])
  (call:∀ (w:World) (s₀ s₁:Shared) (mg mb:Str->Option Value) (fa:Addr) (o:Obj) (pm cd doc:Value) (a:Addr) (vs:List Value) (ns:List Int),
   Ground q loose [] XP w s₀ mg mb s₁.heap->YP w s₁.heap ->
   s₁.heap.get? fa=some o->o.data=.func (docDef d.name d.params d.body d.scope pm cd doc)->s₁.heap.CodeRec cd d.name->mg d.name=some (.ref fa) ->
   s₁.heap.get? a=some { cls:=.type "list",data:=.seq vs.toArray }->IntsAre vs ns->ns.length<=n->(∀ x∈ns,Builtin.Int.intBits x<=1048576)->s₁.gens=#[] ->
   codeAny (model l.prog w) callerA (.call (.ref fa) ⟨[.ref a],[]⟩) (fun r s'=>r=.ok (.ret (.bool true))/\OldK s₁.heap s'.heap/\s'.os=s₁.os/\AllBare s'.gens) s₁) :
  WalkO q loose XP YP l.row.toRowW d [] (fun f vs=>PySem.call f vs):=by
 intro w s₀ s₁ mg mb G Y fa o pm cd doc dV kV ho hd GN hD Lk hg args vals as Iq hlay hrd Jm Ij
 obtain rfl:dV=.none:=Dflts.none hD JX
 obtain rfl:kV=.none:=Dflts.noKw hD
 obtain ⟨a,vs,ns,rfl,rfl,IW,hints,hlen⟩:=pP hn Iq Jm
 refine enter_call (codeAny_mono (call w s₀ s₁ mg mb fa o pm cd doc a vs ns G Y ho (fd_plain hd) GN Lk IW hints hlen (TB.bits_of hlay) hg) fun r s' hq=>?_)
 obtain ⟨rfl,h2,h3,h4⟩:=hq
 exact ⟨.inl ⟨.bool true,.bool true,[],rfl,fun _=>rfl,.bool true,qj l _,fun _=>⟨List.Pairwise.nil,fun _ hm=>(nomatch hm)⟩⟩,h2,h3,h4⟩
end Att
namespace L2
open PySem PySem.Spec PyProof.Rows
def sf {l:PySem.W.OpenLaw} {n k:Nat} {q:Program} {loose:List Str} {XP:(Str->Option Value)->Heap->Prop} {YP:World->Heap->Prop} {d:DefRec} {K:Params->Frag} {CX:World->CXT} {sp:World->Sp} {x:Str}
  (hn:l.most=some n) (IY:n<=sizeLine) (JX:d.params.defaults = []) (hr:Room k callerA)
  (hY:∀ (w:World) (h:Heap),YP w h->(K w.params).In h)
  (F:∀ (w:World) (mg:Str->Option Value) (fa:Addr) (h:Heap),(K w.params).In h->h.Ns mainGlobals mg->mg d.name=some (.ref fa) ->
   ∃ fd:FuncData,(∀ (s:Shared) (u:Value),BindsTo s fd ⟨[u],[]⟩ [(x,u)]) /\
    ∀ base:Heap,(K w.params).In base->base.Ns mainGlobals mg->FnOk l.prog w (K w.params) mg base (CX w) k fa fd [x] (sp w))
  (Ie:∀ (w:World) (H:Hp) (a:Addr) (ns:List Int),ns.length<=n->(∀ x∈ns,Builtin.Int.intBits x<=1048576)->oN H->SqL (K w.params) H a (ns.map V.int)->sp w [.ref a] H (fun v _=>v=.bl true) fun _ _ _=>False)
  (Kd:∀ (w:World) (H:Hp) (s:Shared) (e:Value) (s':Shared),CX w [] H s (fun _ _ _=>False) e s'->False) :
  PySem.W.WalkO q loose XP YP l.row.toRowW d [] (fun f vs=>PySem.call f vs):=by
 refine Att.attach_callB hn JX fun w s₀ s₁ mg mb fa o pm cd doc a vs ns G Y ho hd GN Lk IW hints hlen hbi hg=>?_
 have KX:=hY w _ Y
 obtain ⟨fd,hb,hF⟩:=F w mg fa _ KX G.T.g Lk
 exact uE KX G.T.g G.T.b G.T.builtins G.T.nolimit hg IW hints (qA9 hlen IY) hr hF hb (fun H hO hS=>Ie w H a ns hlen hbi hO hS) fun H e s'=>Kd w H s₁ e s'
def walk_ofKB {l:PySem.W.OpenLaw} {n k:Nat} {q:Program} {loose:List Str} {XP:(Str->Option Value)->Heap->Prop} {YP:World->Heap->Prop} {d:DefRec} {K:Params->Frag} {CX:CXT} {sp:Frag->Sp} {x:Str}
  (hn:l.most=some n) (IY:n<=sizeLine) (JX:d.params.defaults = []) (hr:Room k callerA)
  (hY:∀ (w:World) (h:Heap),YP w h->(K w.params).In h)
  (F:∀ (w:World) (mg:Str->Option Value) (fa:Addr) (h:Heap),(K w.params).In h->h.Ns mainGlobals mg->mg d.name=some (.ref fa) ->
   ∃ fd:FuncData,(∀ (s:Shared) (u:Value),BindsTo s fd ⟨[u],[]⟩ [(x,u)]) /\
    ∀ base:Heap,(K w.params).In base->base.Ns mainGlobals mg->FnOk l.prog w (K w.params) mg base CX k fa fd [x] (sp (K w.params)))
  (Ie:∀ (K:Frag) (H:Hp) (a:Addr) (ns:List Int),ns.length<=n->(∀ x∈ns,Builtin.Int.intBits x<=1048576)->oN H->SqL K H a (ns.map V.int)->sp K [.ref a] H (fun v _=>v=.bl true) fun _ _ _=>False)
  (Kd:∀ (H:Hp) (s:Shared) (e:Value) (s':Shared),CX [] H s (fun _ _ _=>False) e s'->False) :
  PySem.W.WalkO q loose XP YP l.row.toRowW d [] (fun f vs=>PySem.call f vs):=
 sf (K:=K) (CX:=fun _=>CX) (sp:=fun w=>sp (K w.params)) hn IY JX hr hY F (fun w H a ns h1 hb h2 h3=>Ie (K w.params) H a ns h1 hb h2 h3) fun _ H s e s'=>Kd H s e s'
end L2
namespace TP
open PySem L2
def CMulB (i j:Int):Prop:=CMul i j\/Builtin.Int.intBits i+Builtin.Int.intBits j<=134217728
instance (i j:Int):Decidable (CMulB i j):=by unfold CMulB; infer_instance
def CMulB.ok {i j:Int} (h:CMulB i j):IntMulOk i j:=by
 rcases h with h | h
 ·exact h.ok
 ·exact IntMulOk.of_le (qB1 _) (qB1 _) h
section
variable {X:Cx}
def y6:OpR X (binaryOp .Mult) (rI CMulB fun i j=>.int (i*j)):=opI fun _ _ _ _ _ _ _ hc q=>PyProof.Rows.mul_int q hc.ok
end
def qI {i j:Int} (h:-18446744073709551616<i/\i<18446744073709551616):fI CMulB p9 (.int i) (.int j)=.ok (.int (i*j)):=by
 show (if CMulB i j then _ else _)=_
 exact qA1 (.inl (.inl h))
def qH {i j:Int} (h:-18446744073709551616<j/\j<18446744073709551616):fI CMulB p9 (.int i) (.int j)=.ok (.int (i*j)):=by
 show (if CMulB i j then _ else _)=_
 exact qA1 (.inl (.inr h))
def qG {i j:Int} (h:Builtin.Int.intBits i+Builtin.Int.intBits j<=134217728):fI CMulB p9 (.int i) (.int j)=.ok (.int (i*j)):=by
 show (if CMulB i j then _ else _)=_
 exact qA1 (.inr h)
def xM {P:Program} {w:World} {K:Frag} {mg:Str->Option Value} {base:Heap} {k:Nat} {f:Addr} {fd:FuncData} {ps:List Str} {d:Mode} {F:List W->R W} (G:FnOk P w K mg base CX0 k f fd ps (spM K 1 d F))
  (h:∀ ns:List Int,ns.length<=63->(∀ x∈ns,Builtin.Int.intBits x<=1048576)->F [.scr (ns.map W.int)]=.ok (.bl true)):FnOk P w K mg base CX0 k f fd ps (fun vs H Q _=>∃ (a:Addr) (ns:List Int),vs = [.ref a]/\SqL K H a (ns.map V.int)/\ns.length<=63/\(∀ x∈ns,Builtin.Int.intBits x<=1048576)/\∀ H',Q (.bl true) H'):=
 G.imp fun vs H Q E zz80=>by
  obtain ⟨a,ns,e,hs,hl,hb,q⟩:=zz80
  subst e
  refine ⟨rfl,[.scr (ns.map W.int)],.cons (.scr hs ?_) .nil,?_⟩
  ·clear hs hl hb
   induction ns with
   | nil=>exact .nil
   | cons n ns ih=>exact .cons .int ih
  ·rw [h ns hl hb]
   intro v G' H' _ _ _ m
   have e:v=.bl true:=by
    cases d <;> first | (cases m; rfl) | (rcases m with m | ⟨_,_,_,_,z,_⟩ <;> first | (cases m; rfl) | cases z)
   subst e
   exact q H'
end TP
namespace TL
open PySem
section
variable {prog:Program} {w:World} {A:Around} {E:Value->Shared->Prop} {s:Shared}
end
end TL
namespace TP
open PySem L2
section
variable {X:Cx}
end
section
variable {K:Frag} {EX:EXT} {σ:St} {H:Hp} {Q:VK}
end
section
variable {X:Cx} {K:Frag} {EX:EXT} {a:Expr} {pos:Pos} {mr:Rho->R (List W)}
end
end TP
namespace TP
open PySem L2
section
variable {X:Cx}
end
section
variable {K:Frag} {EX:EXT} {d:Mode} {σ:St} {H:Hp} {Q:VK}
end
section
variable {X:Cx} {K:Frag} {EX:EXT} {d:Mode} {o e:Expr} {apos Gi:Pos} {mo me:Rho->R W}
end
end TP
namespace TP
open PySem L2
def OutW (K:Frag) (EX:EXT) (d:Mode) (H0:Hp) (r:R Fl) (D:Ends):Prop:=match r with
 | .ok (.nx ρ)=>∀ G' σ' H',PIv K H0 G' ρ σ' H'->D.nx σ' H'
 | .ok (.bk ρ)=>∀ G' σ' H',PIv K H0 G' ρ σ' H'->D.bk σ' H'
 | .ok (.ct ρ)=>∀ G' σ' H',PIv K H0 G' ρ σ' H'->D.ct σ' H'
 | .ok (.rt w)=>∀ v G' H',Same G' H'->Same H0 H'->(∀ a o,H0 a=some o->isL o=true->G' a=none)->Md K H0 H0 G' H' v w d->D.rt v H'
 | .ex e=>∀ H',Same H0 H'->EX e H'
 | .stuck=>False
def tStW (K:Frag) (EX:EXT) (d:Mode) (m:Rho->R Fl):TS:=fun D σ H=>∃ H0 G ρ,PIv K H0 G ρ σ H/\OutW K EX d H0 (m ρ) D
section
variable {K:Frag} {EX:EXT} {H0 G H G1 H1 G2 H2:Hp} {ρ:Rho} {σ:St} {d:Mode} {D:Ends}
def T8 {H:Hp} {a:Addr} {o:HO}:upd H a o a=some o:=by unfold upd; rw [qA1 rfl]
end
section
variable {X:Cx} {K:Frag} {EX:EXT} {d:Mode} {e:Expr} {pos:Pos} {ma:Rho->R W} {m n:Rho->R Fl} {ta:Rho->R Bool} {st:Stmt} {HH:List Stmt}
end
end TP
namespace TP
open PySem L2
set_option maxHeartbeats 2000000
section
variable {X:Cx} {K:Frag}
end
section
variable {K:Frag}
end
end TP
namespace TP
open PySem L2
def Hx (p:Addr) (H0 H1:Hp):Prop:=(∀ a,a≠p->H1 a=H0 a)/\∃ vs,H1 p=some (.lst vs)
def OutIo (K:Frag) (EX:EXT) (p:Addr) (H0:Hp) (r:R Fl) (D:Ends):Prop:=match r with
 | .ok (.nx ρ)=>∀ Hg G' σ' H',Hx p H0 Hg->PIv K Hg G' ρ σ' H'->D.nx σ' H'
 | .ok (.bk ρ)=>∀ Hg G' σ' H',Hx p H0 Hg->PIv K Hg G' ρ σ' H'->D.rt .non H'
 | .ex e=>∀ H',EX e H'
 | _=>False
def tStI (K:Frag) (EX:EXT) (p:Addr) (m:Rho->R Fl):TS:=fun D σ H=>∃ H0 G ρ,PIv K H0 G ρ σ H/\(∃ vs,H0 p=some (.lst vs))/\OutIo K EX p H0 (m ρ) D
def nbR:R Fl->R Fl
 | .ok (.nx ρ)=>.ok (.nx ρ)
 | .ex e=>.ex e
 | _=>.stuck
def nb (m:Rho->R Fl):Rho->R Fl:=fun ρ=>nbR (m ρ)
section
variable {K:Frag} {EX:EXT} {H0 Hg G H G1 H1 G2 H2:Hp} {ρ:Rho} {σ:St} {d:Mode} {D:Ends} {p:Addr}
def Hx.refl (h:∃ vs,H0 p=some (.lst vs)):Hx p H0 H0:=⟨fun _ _=>rfl,h⟩
def Hx.trans {A B C:Hp} (h:Hx p A B) (g:Hx p B C):Hx p A C:=⟨fun a q=>(g.1 a q).trans (h.1 a q),g.2⟩
def OutIo.move {r:R Fl} (s:Hx p H0 Hg) (o:OutIo K EX p H0 r D):OutIo K EX p Hg r D:=by
 cases r with
 | stuck=>exact o
 | ex e=>exact o
 | ok f=>
  cases f with
  | nx ρ'=>exact fun A G' σ' H' h I'=>o A G' σ' H' (s.trans h) I'
  | bk ρ'=>exact fun A G' σ' H' h I'=>o A G' σ' H' (s.trans h) I'
  | ct ρ'=>exact o
  | rt w=>exact o
def OutIo.bind {α β:Type} {md:α->β->Hp->Hp->Prop} {m:R α} {k:α->R Fl} {Q1:β->Hp->Prop} (o:OutIo K EX p H0 (m>>=k) D)
  (h:∀ x G1 H1 w,Ext G H G1 H1->md w x G1 H1->OutIo K EX p H0 (k w) D->Q1 x H1):Out EX G H md m Q1:=by
 cases m with
 | ok w=>exact fun v G' H' e q=>h v G' H' w e q o
 | ex e=>exact fun H' _=>o H'
 | stuck=>exact o
def tStI.toS {m:Rho->R Fl} (h:tStI K EX p (nb m) D σ H):tSt K EX d m D σ H:=by
 obtain ⟨H0,G,ρ,I,hp,o⟩:=h
 refine ⟨H0,G,ρ,I,?_⟩
 unfold nb at o
 revert o
 cases m ρ with
 | stuck=>exact id
 | ex e=>exact fun o H' _=>o H'
 | ok f=>
  cases f with
  | nx ρ'=>exact fun o G' σ' H' _ I'=>o H0 G' σ' H' (Hx.refl hp) I'
  | bk ρ'=>exact fun o=>o.elim
  | ct ρ'=>exact fun o=>o.elim
  | rt w=>exact fun o=>o.elim
def Dr {m n:Rho->R Fl} (h:tStI K EX p (d6 m n) D σ H):sD (tStI K EX p m) (tStI K EX p n) D σ H:=by
 obtain ⟨H0,G,ρ,I,hp,o⟩:=h
 refine ⟨H0,G,ρ,I,hp,?_⟩
 unfold d6 at o
 revert o
 cases m ρ with
 | stuck=>exact id
 | ex e=>exact id
 | ok f=>
  cases f with
  | nx ρ'=>exact fun o A G' σ' H' s I'=>⟨A,G',ρ',I',s.2,OutIo.move s o⟩
  | _=>exact id
def Fc {c:Rho->R Bool} {m n:Rho->R Fl} (h:tStI K EX p (mIf c m n) D σ H):sE (tT K EX c) (tStI K EX p m) (tStI K EX p n) D σ H:=by
 obtain ⟨H0,G,ρ,I,hp,o⟩:=h
 refine ⟨H0,G,ρ,I,OutIo.bind o fun x G1 H1 w e1 m1 o1=>?_⟩
 cases m1
 cases x with
 | true=>exact ⟨H0,G1,ρ,I.ext e1,hp,o1⟩
 | false=>exact ⟨H0,G1,ρ,I.ext e1,hp,o1⟩
def nM:Rho->R Fl:=fun ρ=>.ok (.bk ρ)
def Dt (h:tStI K EX p nM D σ H):tRetN D σ H:=by
 obtain ⟨H0,G,ρ,I,hp,o⟩:=h
 exact o H0 G σ H (Hx.refl hp) I
def clI:Sl->Sl
 | .un=>.un
 | .val w=>.val w
 | .par w=>if noL w=true then .val w else .un
 | .own ws=>.own ws
 | .dic ks=>.dic ks
 | .dik ks=>.dik ks
 | .iop _ _=>.un
 | .hz _=>.un
def yw {s:Sl} {ws:List W} (h:clI s=.own ws):s=.own ws:=by
 cases s with
 | un=>cases h
 | val w=>cases h
 | par w=>
  by_cases c:noL w=true
  ·rw [clI,qA1 c] at h; cases h
  ·rw [clI,qA3 c] at h; cases h
 | own us=>exact h
 | dic ks=>cases h
 | dik ks=>cases h
 | iop q us=>cases h
 | hz _=>cases h
def appI (i:Nat) (p:Addr) (ws:List W) (ρ:Rho):Rho:=(ρ.map clI).set i (.iop p ws)
def PIv.appI {i:Nat} {ws:List W} {vs Ib:List V} (I:PIv K H0 G ρ σ H) (hi:i<ρ.length) (es:σ[i]?=some (some (.ref p))) (hp:H0 p=some (.lst vs)) (rv:Reps K G Ib ws):PIv K (upd H0 p (.lst Ib)) G (appI i p ws ρ) σ (upd H p (.lst Ib)):=by
 have gp:G p=none:=I.gl p _ hp rfl
 refine ⟨fun b o hb hl=>?_,fun b o hb hl=>?_,fun b o hb=>?_,fun b o hb=>?_,?_,fun k x o h1 h2=>?_,fun x y u1 u2 c Gp h1 h2 h3 h4=>?_⟩
 ·by_cases q:b=p
  ·subst q; rw [T8] at hb; cases hb; cases hl
  ·rw [c9 q] at hb; exact I.g0 b o hb hl
 ·by_cases q:b=p
  ·subst q; exact gp
  ·rw [c9 q] at hb; exact I.gl b o hb hl
 ·have q:b≠p:=by rintro rfl; rw [gp] at hb; cases hb
  rw [c9 q]; exact I.gh b o hb
 ·by_cases q:b=p
  ·subst q; rw [T8] at hb ⊢; exact hb
  ·rw [c9 q] at hb ⊢; exact I.hh b o hb
 ·unfold TP.appI; rw [qF5,qA5]; exact I.len
 ·unfold TP.appI at h1
  by_cases q:i=k
  ·subst q
   rw [qE4 (by rw [qA5]; exact hi)] at h1
   cases h1
   rw [es] at h2; cases h2
   exact ⟨rfl,Ib,T8,rv⟩
  ·rw [qB9 q,qB5] at h1
   obtain ⟨s,hs,rfl⟩:=qJ8.mp h1
   have old:=I.sl k s o hs h2
   cases s with
   | un=>trivial
   | val w=>exact old
   | par w=>
    rw [clI]
    by_cases c:noL w=true
    ·rw [qA1 c]
     obtain ⟨v,ev,r⟩:=old
     exact ⟨v,ev,Rep.clean I r c⟩
    ·rw [qA3 c]; trivial
   | own ws=>
    obtain ⟨b,Gz,eb,hb,GM,GE,rb⟩:=old
    have GW:b≠p:=by rintro rfl; rw [hp] at GE; cases GE
    exact ⟨b,Gz,eb,by rw [c9 GW]; exact hb,GM,by rw [c9 GW]; exact GE,rb⟩
   | dic ks=>
    obtain ⟨b,Gz,eb,hb,GM,GE,rb⟩:=old
    have GW:b≠p:=by rintro rfl; rw [hp] at GE; cases GE
    exact ⟨b,Gz,eb,by rw [c9 GW]; exact hb,GM,by rw [c9 GW]; exact GE,rb⟩
   | dik ks=>
    obtain ⟨b,Gz,eb,hb,GM,GE,rb⟩:=old
    have GW:b≠p:=by rintro rfl; rw [hp] at GE; cases GE
    exact ⟨b,Gz,eb,by rw [c9 GW]; exact hb,GM,by rw [c9 GW]; exact GE,rb⟩
   | iop q us=>trivial
   | hz _=>trivial
 ·have key:∀ {k:Nat} {u:List W},(TP.appI i p ws ρ)[k]?=some (.own u)->ρ[k]?=some (.own u):=fun {k u} hk=>by
   unfold TP.appI at hk
   by_cases q:i=k
   ·subst q
    rw [qE4 (by rw [qA5]; exact hi)] at hk
    cases hk
   ·rw [qB9 q,qB5] at hk
    obtain ⟨s,hs,h⟩:=qJ8.mp hk
    rw [hs,yw h]
  exact I.ne x y u1 u2 c Gp (key h1) (key h2) h3 h4
def dc (p:Addr) (i:Nat) (m:Rho->R W):Rho->R Fl:=fun ρ=>match ρ[i]? with
 | some (.iop q ws)=>m ρ>>=fun w=>if q=p/\ws.length<1000 then .ok (.nx (appI i p (ws ++ [w]) ρ)) else .stuck
 | _=>.stuck
def DB {i:Nat} {m:Rho->R W} (h:tStI K EX p (dc p i m) D σ H):cN (sI (bH i) (tM K EX .V m)) D σ H:=by
 obtain ⟨H0,G,ρ,I,hp,o⟩:=h
 unfold dc at o
 split at o
 ·rename_i q ws e
  have hi:=(qA7.mp e).1
  have hs:i<σ.length:=by rw [<- I.len]; exact hi
  have es:σ[i]?=some σ[i]:=by simp
  obtain ⟨ev,vs,h0,r⟩:=I.sl i _ _ e es
  have hq:=I.hh q _ h0
  refine ⟨.ref q,by rw [es,ev],q,rfl,⟨vs,hq⟩,H0,G,ρ,I,OutIo.bind o fun x G1 H1 w e1 m1 o1=>?_⟩
  by_cases hl:q=p/\ws.length<1000
  ·rw [qA1 hl] at o1
   obtain ⟨rfl,hl⟩:=hl
   have h1:=e1.hh q _ hq
   dsimp only
   rw [h1]
   dsimp only
   have hlen:vs.length=ws.length:=r.length
   exact ⟨qB0 (by omega:vs.length<1000) (by decide),o1 _ G1 σ _ ⟨fun a ha=>c9 ha,_,T8⟩ ((I.ext e1).appI hi (by rw [es,ev]) h0 ((r.same e1.gg).snoc m1))⟩
  ·rw [qA3 hl] at o1; exact o1.elim
 ·exact o.elim
def ioR (p:Addr) (ρ:Rho):R (List W):=match (ρ[1]?:Option Sl) with
 | some (.iop q cs)=>if q=p then .ok cs else .stuck
 | _=>.stuck
def Z8 (n N:Nat) (m:Addr->Rho->R Fl) (p:Addr) (w1:W) (cs wr:List W):R (List W):=if wr.length+2=n/\m5 cs=true then (match m p (.par w1::.iop p cs::(wr.map Sl.par++List.replicate (N-n) Sl.un)) with
 | .ok (.nx ρ)=>ioR p ρ
 | .ok (.bk ρ)=>ioR p ρ
 | _=>.stuck) else .stuck
open Classical in
def G7 (n N:Nat) (m:Addr->Rho->R Fl) (w1:W) (cs wr:List W):R (List W):=if h:∃ Gy,∀ p,Z8 n N m p w1 cs wr=.ok Gy then .ok (Classical.choose h) else .stuck
def dF {n N:Nat} {m:Addr->Rho->R Fl} {w1:W} {cs wr Gy:List W} (h:G7 n N m w1 cs wr=.ok Gy) (p:Addr):Z8 n N m p w1 cs wr=.ok Gy:=by
 unfold G7 at h
 split at h
 ·rename_i q
  cases h
  exact Classical.choose_spec q p
 ·cases h
def pW {n N:Nat} {m:Addr->Rho->R Fl} {w1:W} {cs wr Gy:List W} (h:∀ p,Z8 n N m p w1 cs wr=.ok Gy):G7 n N m w1 cs wr=.ok Gy:=by
 have hx:∃ Gy,∀ p,Z8 n N m p w1 cs wr=.ok Gy:=⟨Gy,h⟩
 unfold G7
 rw [dif_pos hx]
 have:=Classical.choose_spec hx (0:Nat)
 rw [h] at this
 cases this
 rfl
def pX {n N:Nat} {m:Addr->Rho->R Fl} {w1:W} {cs wr:List W}:G7 n N m w1 cs wr=.stuck\/∃ Gy,G7 n N m w1 cs wr=.ok Gy:=by
 unfold G7
 split
 ·exact .inr ⟨_,rfl⟩
 ·exact .inl rfl
def hZ {n N:Nat} {m:Addr->Rho->R Fl} {p:Addr} {w1:W} {cs wr Gy:List W} (h:Z8 n N m p w1 cs wr=.ok Gy):wr.length+2=n/\m5 cs=true:=by
 unfold Z8 at h
 by_cases e:wr.length+2=n/\m5 cs=true
 ·exact e
 ·rw [qA3 e] at h; cases h
def fZ (K:Frag) (n:Nat) (f:W->List W->List W->R (List W)):Sp:=fun vs H Q _=>vs.length=n/\∃ v1 p vr w1 cs wr us Gy,vs=v1::.ref p::vr/\H p=some (.lst us)/\Rep K H v1 w1/\Reps K H vr wr/\Reps K H us cs/\f w1 cs wr=.ok Gy /\
 ∀ H' Gz G',(∀ a o,a≠p->H a=some o->H' a=some o)->H' p=some (.lst Gz)->Same G' H'->(∀ a o,H a=some o->isL o=true->G' a=none)->Reps K G' Gz Gy->Q .non H'
def PIv.toIop {i:Nat} {cs:List W} {us:List V} (I:PIv K H0 G ρ σ H) (hi:i<ρ.length) (es:σ[i]?=some (some (.ref p))) (hp:H0 p=some (.lst us)) (r:Reps K G us cs):PIv K H0 G (ρ.set i (.iop p cs)) σ H:=by
 refine ⟨I.g0,I.gl,I.gh,I.hh,by rw [qF5]; exact I.len,fun k x o h1 h2=>?_,fun x y u1 u2 c Gp h1 h2 h3 h4=>?_⟩
 ·by_cases q:i=k
  ·subst q
   rw [qE4 hi] at h1
   cases h1
   rw [es] at h2; cases h2
   exact ⟨rfl,us,hp,r⟩
  ·rw [qB9 q] at h1
   exact I.sl k x o h1 h2
 ·have key:∀ {k:Nat} {u:List W},(ρ.set i (.iop p cs))[k]?=some (.own u)->ρ[k]?=some (.own u):=fun {k u} hk=>by
   by_cases q:i=k
   ·subst q
    rw [qE4 hi] at hk
    cases hk
   ·rw [qB9 q] at hk; exact hk
  exact I.ne x y u1 u2 c Gp (key h1) (key h2) h3 h4
def yH {n:Nat} {Nl:List Str} {m:Addr->Rho->R Fl} {vs:List V} {Q:VK} {E:XK} (h:fZ K n (G7 n Nl.length m) vs H Q E):∃ p,tStI K (fun _ _=>False) p (m p) { nx:=fun _ H'=>Q .non H',rt:=Q } (L2.start Nl vs) H:=by
 obtain ⟨hl,v1,p,vr,w1,cs,wr,us,Gy,rfl,hp,r1,rr,ru,hf,hq⟩:=h
 have Ip:=dF hf p
 obtain ⟨hn,Jt⟩:=hZ Ip
 have ra:Reps K H (v1::.ref p::vr) (w1::.lst cs::wr):=.cons r1 (.cons (.lst hp ru) rr)
 have I0:=PIv.begin (k:=Nl.length-n) (k':=Nl.length-n) ra rfl
 have ru':Reps K (A0 H) us cs:=Reps.clean I0 (by rw [cr]; exact ru) Jt
 have I1:=I0.toIop (i:=1) (p:=p) (cs:=cs) (us:=us) (by simp) rfl hp ru'
 refine ⟨p,H,A0 H,Sl.par w1::.iop p cs::(wr.map Sl.par++List.replicate (Nl.length-n) Sl.un),?_,⟨us,hp⟩,?_⟩
 ·have e:L2.start Nl (v1::.ref p::vr)=((v1::.ref p::vr).map some++List.replicate (Nl.length-n) none):=by unfold L2.start; rw [hl]
  rw [e]
  exact I1
 ·unfold Z8 at Ip
  rw [qA1 ⟨hn,Jt⟩] at Ip
  have fin:∀ ρ,ioR p ρ=.ok Gy->∀ Hg G' σ' H',Hx p H Hg->PIv K Hg G' ρ σ' H'->Q .non H':=fun ρ hr Hg G' σ' H' hx I'=>by
   unfold ioR at hr
   split at hr
   ·rename_i q cs2 e2
    by_cases e3:q=p
    ·rw [qA1 e3] at hr
     cases hr
     subst e3
     have hi:1<σ'.length:=by rw [<- I'.len]; exact (qA7.mp e2).1
     obtain ⟨_,Gz,h0',r'⟩:=I'.sl 1 _ _ e2 (show σ'[1]?=some σ'[1] by simp)
     refine hq H' Gz G' (fun a o ha hb=>I'.hh a o (by rw [hx.1 a ha]; exact hb)) (I'.hh _ _ h0') I'.gh (fun a o hb hl=>?_) r'
     by_cases e4:a=q
     ·subst e4; exact I'.gl a _ h0' rfl
     ·exact I'.gl a o (by rw [hx.1 a e4]; exact hb) hl
    ·rw [qA3 e3] at hr; cases hr
   ·cases hr
  revert Ip
  cases m p (.par w1::.iop p cs::(wr.map Sl.par++List.replicate (Nl.length-n) Sl.un)) with
  | stuck=>exact fun h=>nomatch h
  | ex e=>exact fun h=>nomatch h
  | ok f=>
   cases f with
   | nx ρ'=>exact fun h Hg G' σ' H' hx I'=>fin ρ' h Hg G' σ' H' hx I'
   | bk ρ'=>exact fun h Hg G' σ' H' hx I'=>fin ρ' h Hg G' σ' H' hx I'
   | ct ρ'=>exact fun h=>nomatch h
   | rt w=>exact fun h=>nomatch h
def mIO (i:Nat) (f:W->List W->List W->R (List W)) (m1:Rho->R W) (mr:Rho->R (List W)):Rho->R Fl:=fun ρ=>match ρ[i]? with
 | some (.own cs)=>m1 ρ>>=fun w1=>mr ρ>>=fun wr=>f w1 cs wr>>=fun Gy=>.ok (.nx (ρ.set i (.own Gy)))
 | _=>.stuck
def yF {i n:Nat} {f:W->List W->List W->R (List W)} {E:XK} {m1:Rho->R W} {mr:Rho->R (List W)} (hf:∀ w1 cs wr,f w1 cs wr=.stuck\/∃ Gy,f w1 cs wr=.ok Gy/\wr.length+2=n) (h:tSt K EX d (mIO i f m1 mr) D σ H) :
  cN (eW (fZ K n f) [] E (Z6 (tM K EX .B m1) (Z6 (bH i) (tA K EX .B mr)))) D σ H:=by
 obtain ⟨H0,G,ρ,I,o⟩:=h
 unfold mIO at o
 split at o
 ·rename_i cs e
  obtain ⟨a,vs,es,ha,hg,h0,r⟩:=I.own_at e
  refine ⟨H0,G,ρ,I,OutS.bind I o fun x G1 H1 w1 e1 m1 o1=>⟨.ref a,es,H0,G1,ρ,I.ext e1,OutS.bind (I.ext e1) o1 fun xs G2 H2 wr e2 m2 o2=>?_⟩⟩
  have I2:=(I.ext e1).ext e2
  rcases hf w1 cs wr with hs | ⟨Gy,hs,hn⟩
  ·rw [hs] at o2; exact o2.elim
  rw [hs,R.ok_bind] at o2
  have rx:=MdA.whole I2 m2
  have Kb:H2 a=some (.lst vs):=e2.hh _ _ (e1.hh _ _ ha)
  have g2a:G2 a=none:=e2.keep _ _ (e1.hh _ _ ha) rfl (e1.keep _ _ ha rfl hg)
  have r2:Reps K G2 vs cs:=(r.same e1.gg).same e2.gg
  show fZ K n f ((x::.ref a::xs) ++ []) H2 (fun _ H1=>D.nx σ H1) E
  rw [qG1]
  refine ⟨?_,x,a,xs,w1,cs,wr,vs,Gy,rfl,Kb,(m1.move e2).whole I2,rx,r2.same I2.gh,hs,fun H' Gz G' k1 k2 gH cl rr=>?_⟩
  ·rw [qC2,qC2,rx.length]; exact hn
  have ga':G' a=none:=cl a _ Kb rfl
  have hk:∀ b o,G2 b=some o->H' b=some o:=fun b o q=>k1 b o (by rintro rfl; rw [g2a] at q; cases q) (I2.gh b o q)
  have sB:Same G2 (both G2 G'):=fun b o q=>by unfold both; rw [q]
  have GY:Same G' (both G2 G'):=fun b o q=>by
   unfold both
   cases q1:G2 b with
   | none=>exact q
   | some u=>
    have a1:=hk b u q1
    rw [gH b o q] at a1
    exact a1.symm
  have JC:Same (both G2 G') H':=fun b o q=>by
   unfold both at q
   cases q1:G2 b with
   | none=>rw [q1] at q; exact gH b o q
   | some u=>rw [q1] at q; cases q; exact hk b _ q1
  have bn:∀ b o,H2 b=some o->isL o=true->G2 b=none->both G2 G' b=none:=fun b o q l g=>by unfold both; rw [g]; exact cl b o q l
  have hi:=(qA7.mp e).1
  refine o2 (both G2 G') σ H' sB ⟨fun b o q l=>sB b o (I2.g0 b o q l),fun b o q l=>bn b o (I2.hh b o q) l (I2.gl b o q l),JC,fun b o q=>k1 b o (by rintro rfl; rw [h0] at q; cases q) (I2.hh b o q),by rw [qF5]; exact I2.len,fun k y o h1 h2=>?_,fun x1 y1 u1 u2 c Gp h1 h2 h3 h4=>?_⟩
  ·by_cases q:i=k
   ·subst q
    rw [qE4 hi] at h1
    cases h1
    rw [es] at h2; cases h2
    exact ⟨a,Gz,rfl,k2,bn a _ Kb rfl g2a,h0,rr.same GY⟩
   ·rw [qB9 q] at h1
    have old:=I2.sl k y o h1 h2
    cases y with
    | un=>trivial
    | val w=>obtain ⟨v,ev,r⟩:=old; exact ⟨v,ev,r.same sB⟩
    | par w=>obtain ⟨v,ev,r⟩:=old; exact ⟨v,ev,r.same (u9 sB)⟩
    | own ws=>
     obtain ⟨b,us2,eb,hb,GM,GE,rb⟩:=old
     subst eb
     have JY:b≠a:=by
      rintro rfl
      exact I.ne i k cs ws b q e h1 es h2
     exact ⟨b,us2,rfl,k1 b _ JY hb,bn b _ hb rfl GM,GE,rb.same sB⟩
    | dic ks=>
     obtain ⟨b,us2,eb,hb,GM,GE,rb⟩:=old
     have JY:b≠a:=by
      rintro rfl
      rw [Kb] at hb; cases hb
     exact ⟨b,us2,eb,k1 b _ JY hb,bn b _ hb rfl GM,GE,rb⟩
    | dik ks=>
     obtain ⟨b,us2,eb,hb,GM,GE,rb⟩:=old
     have JY:b≠a:=by
      rintro rfl
      rw [Kb] at hb; cases hb
     exact ⟨b,us2,eb,k1 b _ JY hb,bn b _ hb rfl GM,GE,rb⟩
    | iop q us=>obtain ⟨ev,Jf,Kf,r1⟩:=old; exact ⟨ev,Jf,Kf,r1.same sB⟩
    | hz w=>obtain ⟨v,ev,r⟩:=old; exact ⟨v,ev,r.same (u9 (ad sB))⟩
  ·have key:∀ {k:Nat} {u:List W},(ρ.set i (.own Gy))[k]?=some (.own u)->∃ u',ρ[k]?=some (.own u'):=fun {k u} hk=>by
    by_cases q:i=k
    ·subst q; exact ⟨cs,e⟩
    ·rw [qB9 q] at hk; exact ⟨u,hk⟩
   obtain ⟨v1,KZ⟩:=key h1
   obtain ⟨v2,k2'⟩:=key h2
   exact I.ne x1 y1 v1 v2 c Gp KZ k2' h3 h4
 ·exact o.elim
end
section
variable {X:Cx} {K:Frag} {EX:EXT} {d:Mode} {e:Expr} {es:List Expr} {pos:Pos} {ma:Rho->R W} {m n:Rho->R Fl} {ta:Rho->R Bool} {st:Stmt} {HH:List Stmt} {p:Addr} {mr:Rho->R (List W)}
def q_i (h:PS X st (tSt K EX d m)):PS X st (tStI K EX p (nb m)):=h.mono fun _ _ _ q=>q.toS
def AD (h:PSs X HH (tSt K EX d m)):PSs X HH (tStI K EX p (nb m)):=h.mono fun _ _ _ q=>q.toS
def cT (h1:PS X st (tStI K EX p m)) (h2:PSs X HH (tStI K EX p n)):PSs X (st::HH) (tStI K EX p (d6 m n)):=(jF h1 h2).mono fun _ _ _ q=>Dr q
def gy (h1:PS X st (tStI K EX p m)):PSs X [st] (tStI K EX p m):=mw h1
def vD {c:Expr} {x y:List Stmt} (hc:PT X c (tT K EX ta)) (ha:PSs X x (tStI K EX p m)) (hb:PSs X y (tStI K EX p n)):PS X (.If c x y pos) (tStI K EX p (mIf ta m n)):=(vH hc ha hb).mono fun _ _ _ q=>Fc q
def AA:PS X (.Return none pos) (tStI K EX p nM):=ps_retN.mono fun _ _ _ q=>Dt q
def AG {i:Nat} {x:Str} {p1 apos Gi:Pos} (hN:X.N[i]?=some x) (hv:Vis X.env.scope x) (ha:PE X e (tM K EX .V ma)) (hd:(x == ("__debug__" : Str))=false:=by decide) (GN:(x == ("__classdict__" : Str))=false:=by decide)
  (Go:attributeBase (.Name x p1) "append" X.env (eval (.Name x p1) X.env)=eval (.Name x p1) X.env:=by rfl)
  (GV:((backTo Gi (starEach [e] X.env)).all (fun x=>!x.1)&&(backToKw Gi (keywordEach [] X.env)).all (fun x=>x.1.isSome)
   && decide (([e]:List Expr).length+([]:List Keyword).length+(if ([]:List Keyword).isEmpty then 0 else 1)<30))=true:=by rfl)
  (Gn:(apos.endLine == Gi.line)=true:=by rfl) (hs:starEach [e] X.env=(false,eval e X.env)::starEach [] X.env:=by rfl) (Hl:swapsWith (.Call (.Attribute (.Name x p1) "append" apos) [e] [] Gi) none pos.line X.env=pure false:=by rfl) :
  PS X (.Expr (.Call (.Attribute (.Name x p1) "append" apos) [e] [] Gi) pos) (tStI K EX p (dc p i ma)):=(aA (ii (X2 hN hv hd GN) ha Go GV Gn hs) Hl).mono fun _ _ _ q=>DB q
def wT {i k:Nat} {y:Str} {p1 p2 Gi:Pos} {f:Addr} {fd:FuncData} {ps:List Str} {x:Str} {n N:Nat} {m:Addr->Rho->R Fl} (hN:X.N[i]?=some y) (hv:Vis X.env.scope y)
  (F:FnOk X.prog X.w X.K X.mg X.base CX0 k f fd ps (fZ K n (G7 n N m))) (hr:Room k X.A) (hg:Gl X x) (hm:X.mg x=some (.ref f)) (hk:PySem.W.keepIn X.K (.ref f)=true) (hb:Binds X.K fd ps [])
  (h1:PE X e (tM K (fun _ _=>False) .B ma)) (h2:PA X es (tA K (fun _ _=>False) .B mr)) (hd:(y == ("__debug__" : Str))=false:=by decide) (GN:(y == ("__classdict__" : Str))=false:=by decide)
  (GR:(x == ("__debug__" : Str))=false:=by decide) (he:starEach (e::.Name y p2::es) X.env=(false,eval e X.env)::starEach (.Name y p2::es) X.env:=by rfl) (he2:starEach (.Name y p2::es) X.env=(false,eval (.Name y p2) X.env)::starEach es X.env:=by rfl) (GH:(backTo Gi (starEach (.Name y p2::es) X.env)).any (·.1)=false:=by rfl)
  (Hl:swapsWith (.Call (.Name x p1) (e::.Name y p2::es) [] Gi) none pos.line X.env=pure false:=by rfl) :
  PS X (.Expr (.Call (.Name x p1) (e::.Name y p2::es) [] Gi) pos) (tSt K (fun _ _=>False) d (mIO i (G7 n N m) ma mr)):=
 (aA (cV F hr hg hm hk hb .nil fg (aB h1 (aB (X2 hN hv hd GN) h2 he2) he) GR he GH) Hl).mono fun _ _ _ q=>yF (fun w1 cs wr=>by
  rcases pX (n:=n) (N:=N) (m:=m) (w1:=w1) (cs:=cs) (wr:=wr) with h | ⟨Gy,h⟩
  ·exact .inl h
  ·exact .inr ⟨Gy,h,(hZ (dF h (0:Nat))).1⟩) q
end
end TP
namespace TP
open PySem L2
section
variable {K:Frag} {EX:EXT} {H0 G H:Hp} {ρ:Rho} {σ:St}
def Rep.ofNoL {v:V} {w:W} (r:Rep K H v w) (h:noL w=true):Rep K (A0 H) v w:=Rep.clean (PIv.begin (vs:=[]) (ws:=[]) (k:=0) (k':=0) .nil rfl) (by rw [cr]; exact r) h
def Bh (K:Frag) (H:Hp):Same (A0 H) H:=(PIv.begin (K:=K) (H:=H) (vs:=[]) (ws:=[]) (k:=0) (k':=0) .nil rfl).gh
end
section
variable {X:Cx} {K:Frag} {e:Expr} {es:List Expr} {pos:Pos} {mr:Rho->R (List W)}
end
end TP
namespace TP
open PySem L2
section
variable {X:Cx}
end
section
variable {K:Frag} {EX:EXT} {H0 G H:Hp} {ρ:Rho} {σ:St} {d:Mode} {D:Ends}
end
section
variable {X:Cx} {K:Frag} {EX:EXT} {d:Mode} {e:Expr} {pos:Pos} {ma:Rho->R W}
end
end TP
namespace TP
open PySem L2
def t4:List (List Int)->List (List Int)->Bool
 | [],[]=>false
 | [],_::_=>true
 | _::_,[]=>false
 | a::as,b::bs=>if a=b then t4 as bs else lexLt a b
def kG:∀ a,t4 a a=false
 | []=>rfl
 | x::a=>by unfold t4; rw [qA1 rfl]; exact kG a
def gJ:∀ a b c,t4 a b=true->t4 b c=true->t4 a c=true
 | [],[],_,h,_=>by cases h
 | [],_::_,[],_,h=>by cases h
 | [],_::_,_::_,_,_=>rfl
 | _::_,[],_,h,_=>by cases h
 | _::_,_::_,[],_,h=>by cases h
 | x::a,y::b,z::c,h1,h2=>by
  unfold t4 at h1 h2 ⊢
  by_cases e1:x=y
  ·subst e1
   rw [qA1 rfl] at h1
   by_cases e2:x=z
   ·subst e2; rw [qA1 rfl] at h2 ⊢; exact gJ a b c h1 h2
   ·rw [qA3 e2] at h2 ⊢; exact h2
  ·rw [qA3 e1] at h1
   by_cases e2:y=z
   ·subst e2; rw [qA3 e1]; exact h1
   ·rw [qA3 e2] at h2
    have h3:=fB _ _ _ h1 h2
    by_cases e3:x=z
    ·subst e3; rw [gI] at h3; cases h3
    ·rw [qA3 e3]; exact h3
def ba:∀ a b,t4 a b=false->t4 b a=false->a=b
 | [],[],_,_=>rfl
 | [],_::_,h,_=>by cases h
 | _::_,[],_,h=>by cases h
 | x::a,y::b,h1,h2=>by
  unfold t4 at h1 h2
  by_cases e:x=y
  ·subst e
   rw [qA1 rfl] at h1 h2
   rw [ba a b h1 h2]
  ·rw [qA3 e] at h1
   rw [qA3 (fun z=>e z.symm)] at h2
   exact absurd (de _ _ h1 h2) e
def M3 (ss:List (List (List Int))) (i:Nat):Int:=((ss.countP fun x=>t4 x (ss.getD i [])):Nat)
def qZ {ss:List (List (List Int))} {i:Nat} (h:i<ss.length):ss.getD i []∈ss:=by
 rw [qA0]; simp [h]
def jA {ss:List (List (List Int))} {i j:Nat} (hi:i<ss.length) (hj:j<ss.length):decide (M3 ss i<M3 ss j)=t4 (ss.getD i []) (ss.getD j []):=by
 cases h:t4 (ss.getD i []) (ss.getD j []) with
 | true=>
  apply decide_eq_true
  unfold M3
  have:=rB (l:=ss) (p:=fun x=>t4 x (ss.getD i [])) (q:=fun x=>t4 x (ss.getD j [])) (fun x _ hx=>gJ _ _ _ hx h) ⟨_,qZ hi,h,kG _⟩
  omega
 | false=>
  apply decide_eq_false
  unfold M3
  have:ss.countP (fun x=>t4 x (ss.getD j []))<=ss.countP fun x=>t4 x (ss.getD i []):=by
   apply List.countP_mono_left
   intro x _ hx
   cases h2:t4 (ss.getD j []) (ss.getD i []) with
   | true=>exact gJ _ _ _ hx h2
   | false=>rw [ba _ _ h h2]; exact hx
  omega
def Q5 (ss:List (List (List Int))):List Nat:=if ss.length<2 then List.range ss.length else (runK (M3 ss) (PySem.W.kas_sort ss.length)).toList
def O4 (ss:List (List (List Int))):(Q5 ss).Perm (List.range ss.length):=by
 unfold Q5
 split
 ·exact .refl _
 ·rename_i h
  have:=(cO (M3 ss) (n:=ss.length) (by omega)).1
  exact (qH1.mp this).trans (by simp)
def xf (ss:List (List (List Int))):(Q5 ss).Pairwise fun i j=>t4 (ss.getD j []) (ss.getD i [])=false:=by
 unfold Q5
 split
 ·rename_i h
  have:ss.length=0\/ss.length=1:=by omega
  rcases this with e | e <;> rw [e] <;> simp
 ·rename_i h
  have k:=cO (M3 ss) (n:=ss.length) (by omega)
  have hp:=qH1.mp k.1
  have hl:(runK (M3 ss) (PySem.W.kas_sort ss.length)).toList.length=ss.length:=by have:=hp.length_eq; simpa using this
  have hm:∀ x∈(runK (M3 ss) (PySem.W.kas_sort ss.length)).toList,x<ss.length:=fun x hx=>by have:=hp.mem_iff.mp hx; simpa using this
  have hu:=aw (M3 ss) k.2
  generalize runK (M3 ss) (PySem.W.kas_sort ss.length)=p at hl hm hu
  rw [List.pairwise_iff_getElem]
  intro i j hi hj Gw
  have:=hu j i (by omega) (by omega)
  unfold ky at this
  have ei:p.getD i 0=p.toList[i]:=by rw [qE3]; simp at hi ⊢; simp [hi]
  have ej:p.getD j 0=p.toList[j]:=by rw [qE3]; simp at hj ⊢; simp [hj]
  rw [ei,ej] at this
  rw [<- jA (hm _ (qG4 hj)) (hm _ (qG4 hi))]
  exact decide_eq_false (by omega)
def w6 {α:Type} (ks:List (List (List Int))) (d:α) (vs:List α):List α:=((Q5 ks.reverse).map fun i=>vs.reverse.getD i d).reverse
def jJ {α:Type} (ks:List (List (List Int))) (d:α) (vs:List α):(w6 ks d vs).length=ks.length:=by
 unfold w6
 rw [qB8,qA5,(O4 ks.reverse).length_eq,qF1,qB8]
def ic {α:Type} (d:α) (vs:List α):(List.range vs.length).map (fun i=>vs.getD i d)=vs:=by
 apply qJ6
 ·simp
 ·intro i h1 h2; simp [h2]
def qt {α:Type} {ks:List (List (List Int))} {d:α} {vs:List α} (hl:vs.length=ks.length):(w6 ks d vs).Perm vs:=by
 unfold w6
 refine (qL8 _).trans ?_
 have:=(O4 ks.reverse).map fun i=>vs.reverse.getD i d
 rw [show ks.reverse.length=vs.reverse.length by rw [qB8,qB8,hl],ic] at this
 exact this.trans (qL8 _)
def eK (fin:Bool):List (List Int×List Int)->Bool
 | []=>fin
 | (a,b)::r=>if a=b then eK fin r else lexLt a b
def mT:∀ xs ys:List (List Int),eK (decide (xs.length<ys.length)) (xs.zip ys)=t4 xs ys
 | [],[]=>rfl
 | [],_::_=>by simp [eK,t4]
 | _::_,[]=>by simp [eK,t4]
 | x::xs,y::ys=>by
  have:=mT xs ys
  simp only [qK0,eK,t4,qC2,Nat.add_lt_add_iff_right]
  rw [this]
section
open PySem.W PyProof.Rows
variable {prog:Program} {w:World} {A:Around} {E:Value->Shared->Prop} {s:Shared}
def items_int:∀ {xs:List Int} {its:List Value},Vals (xs.map V.int) its->ItemsAre (intKind prog w) xs its:=by
 intro xs
 induction xs with
 | nil=>intro its h; cases h; exact .nil
 | cons x xs ih=>
  intro its h
  cases h with
  | cons r t=>
   obtain ⟨tk,rfl⟩:=r
   exact .cons (by simp [intKind,Value.isInt]) (ih t)
def yo {v u:Value} {xs ys:List Int} {Q:Bool->Shared->Prop} (hu:A.units<cLine) (hv:TupI s.heap v xs) (hw:TupI s.heap u ys) (h:Q (decide (xs=ys)) s):wpAny (model prog w) A (eqBool v u) Q E s:=by
 obtain ⟨a,o,its,m,rfl,ho,hc,hd,rv⟩:=hv
 obtain ⟨b,o2,Gu,m2,rfl,HV,KG,hd2,Hj⟩:=hw
 exact wpAny_eqBool_tuple (knd:=intKind prog w) hu ⟨o,_,m,ho,hc,hd,by simpa using items_int rv⟩ ⟨o2,_,m2,HV,KG,hd2,by simpa using items_int Hj⟩ h
def xJ {v u:Value} {xs ys:List Int} {Q:Bool->Shared->Prop} (hu:A.units+64<cLine) (hv:TupI s.heap v xs) (hw:TupI s.heap u ys) (h:Q (lexLt xs ys) s):wpAny (model prog w) A (compareOp .Lt v u) (PySem.W.BoolBack Q) E s:=by
 obtain ⟨a,⟨c1,d1,t1,sl1⟩,its,m,rfl,ho,hc,hd,rv⟩:=hv
 obtain ⟨b,⟨c2,d2,t2,KP⟩,Gu,m2,rfl,HV,KG,hd2,Hj⟩:=hw
 simp only at hc hd KG hd2
 subst hc hd KG hd2
 exact richCompare_meets_room (op:=.Lt) ⟨_,ho,rfl⟩ ⟨_,HV,rfl⟩ PySem.F.slot_tuple_lt PySem.F.entry_tuple_lt (PySem.F.args_tuple_lt_2 _ _) (zg a b its Gu m m2 d1 d2 sl1 KP xs ys rv Hj) ⟨ho,HV,(fun x=>nomatch x),h⟩ (by omega)
def xL {fin:Bool} {Q:Bool->Shared->Prop} (hu:A.units+64<cLine):∀ (xs ys:List (List Int)) (us vs:List Value) (i:Nat),Paired (TupI s.heap) us xs->Paired (TupI s.heap) vs ys->Q (eK fin (xs.zip ys)) s->KatLex prog w A false fin Q (us.zip vs) i s:=by
 intro xs
 induction xs with
 | nil=>intro ys us vs i a b h; cases a; exact h
 | cons x xs ih=>
  intro ys us vs i a b h
  cases a with
  | cons r1 t1=>
   cases ys with
   | nil=>cases b; exact h
   | cons y ys=>
    cases b with
    | cons r2 t2=>
     simp only [qK0,eK] at h
     refine kat_cons (yo (by omega) r1 r2 ?_)
     by_cases e:x=y
     ·rw [qA1 e] at h
      rw [decide_eq_true e]
      exact kat_yes (ih ys _ _ (i+1) t1 t2 h)
     ·rw [qA3 e] at h
      rw [decide_eq_false e]
      exact kat_no (kat_one _ _ (xJ hu r1 r2 h))
def lw (h:Heap) (v:Value) (xs:List (List Int)):Prop:=∃ (a:Addr) (o:Obj) (its:List Value) (m:Nat),v=.ref a/\h.get? a=some o/\o.cls=.type "tuple" /\ o.data=.seq its.toArray m/\Paired (TupI h) its xs
def xK {v u:Value} {xs ys:List (List Int)} {Q:Bool->Shared->Prop} (hu:A.units+64<cLine) (hv:lw s.heap v xs) (hw:lw s.heap u ys) (h:Q (t4 xs ys) s):wpAny (model prog w) A (keyLt' (tuples' false) v u) Q E s:=by
 obtain ⟨a,o,its,m,rfl,ho,_,hd,rv⟩:=hv
 obtain ⟨b,o2,Gu,m2,rfl,HV,_,hd2,Hj⟩:=hw
 refine kat_lt ho hd HV hd2 ?_
 have l1:=Paired.length rv
 have l2:=Paired.length Hj
 refine xL hu xs ys _ _ 0 rv Hj ?_
 simp only [qC1,l1,l2]
 rw [mT]; exact h
def ja {h:Heap}:∀ {vs:List Value} {ss:List (List (List Int))},Paired (fun v xs=>lw h v xs/\xs ≠ []) vs ss->∃ fs:List Value,KatTups h vs fs/\fs.length=ss.length/\∀ f∈fs,∃ x,TupI h f x
 | _,_,.nil=>⟨[],trivial,rfl,fun _ h=>nomatch h⟩
 | _,_,.cons hv t=>by
  obtain ⟨fs,k,hl,hi⟩:=ja t
  obtain ⟨⟨a,o,its,m,rfl,ho,hc,hd,rv⟩,Gr⟩:=hv
  cases rv with
  | nil=>exact absurd rfl Gr
  | cons r1 r2=>
   rename_i v0 x0 l1 l2
   refine ⟨v0::fs,KatTups.cons ho hc hd (by simp) k,by rw [qC2,qC2,hl],fun f hf=>?_⟩
   rcases qB3.mp hf with q | hf
   ·subst q; exact ⟨_,r1⟩
   ·exact hi f hf
end
end TP
namespace TP
open PySem L2
def eV (k:List (List Int)):List W:=k.map fun x=>W.tup (x.map W.int)
def kW (k:List (List Int)):W:=.tup (eV k)
def keyOf:R W->Option (List (List Int))
 | .ok (.tup us)=>(match O7 us with
  | some (a::k)=>some (a::k)
  | _=>none)
 | _=>none
def F4 (f:List W->R W):List W->Option (List (List (List Int)))
 | []=>some []
 | w::r=>match keyOf (f [w]),F4 f r with
  | some k,some ks=>some (k::ks)
  | _,_=>none
def iu {r:R W} {k:List (List Int)} (h:keyOf r=some k):r=.ok (kW k)/\k ≠ []:=by
 unfold keyOf at h
 split at h
 ·rename_i us
  split at h
  ·rename_i a k' e
   cases h
   rw [iZ e]
   exact ⟨rfl,by simp⟩
  ·cases h
 ·cases h
def bd {f:List W->R W} {w:W} {r:List W} {ks:List (List (List Int))} (h:F4 f (w::r)=some ks):∃ k Iy,ks=k::Iy/\f [w]=.ok (kW k)/\k ≠ []/\F4 f r=some Iy:=by
 unfold F4 at h
 split at h
 ·rename_i k Iy e1 e2
  cases h
  exact ⟨k,Iy,rfl,(iu e1).1,(iu e1).2,e2⟩
 ·cases h
def cq {f:List W->R W}:∀ {ws:List W} {ks:List (List (List Int))},F4 f ws=some ks->ks.length=ws.length
 | [],_,h=>by cases h; rfl
 | w::r,_,h=>by
  obtain ⟨k,Iy,rfl,_,_,e⟩:=bd h
  rw [qC2,qC2,cq e]
def kL {f:List W->R W}:∀ {ws:List W} {ks:List (List (List Int))},F4 f ws=some ks->∀ k∈ks,k ≠ []
 | [],_,h=>by cases h; simp
 | w::r,_,h=>by
  obtain ⟨k,Iy,rfl,_,hn,e⟩:=bd h
  intro x hx
  rcases qB3.mp hx with rfl | hx
  ·exact hn
  ·exact kL e x hx
def inK (X:Cx):Cx:={ X with A:=X.A.in1.in1,xe:=fun _ _=>False }
section
variable {X:Cx} {pins:List (Addr×Obj)} {σ:L2.St} {H:Hp} {s:Shared}
def Cc (I:Inv X pins σ H s):Inv (inK X) pins σ H s:=
 ⟨⟨I.ok.mod,I.ok.kind,I.ok.glob,I.ok.blt,I.ok.above,I.ok.inj,I.ok.has,I.ok.cab,I.ok.hd,I.ok.frames,I.ok.stk,I.ok.exf,I.ok.bs,I.ok.bsz,I.ok.noex,I.ok.exfs,I.ok.funs,I.ok.frf⟩,I.os,I.bare,I.base,I.loc,I.cell,I.free,I.freeC,I.pin,I.hok,I.len⟩
def xQ (I:Inv (inK X) pins σ H s):Inv X pins σ H s:=
 ⟨⟨I.ok.mod,I.ok.kind,I.ok.glob,I.ok.blt,I.ok.above,I.ok.inj,I.ok.has,I.ok.cab,I.ok.hd,I.ok.frames,I.ok.stk,I.ok.exf,I.ok.bs,I.ok.bsz,I.ok.noex,I.ok.exfs,I.ok.funs,I.ok.frf⟩,I.os,I.bare,I.base,I.loc,I.cell,I.free,I.freeC,I.pin,I.hok,I.len⟩
def qV {D:Addr} {ys:List V} {its:List Value} {n:Nat} {h':Heap} {t':Nat} (I:Inv X pins σ H s) (k:∀ b o,b≠D->s.heap.get? b=some o->h'.get? b=some o) (hn:H D=none) (hL:D≠X.env.locals)
  (h1:X.s₀.heap.objs.size<=D) (h2:∀ x c,X.env.cells.lookup x=some c->c≠D) (h3:∀ p∈X.pn++pins,p.1≠D) (hz:ys.length<=sizeLine) (hv:Vals ys its) (e:h'.get? D=some { cls:=.type "list",data:=.seq its.toArray n }) :
  Inv X pins σ (upd H D (.lst ys)) { s with heap:=h',toks:=t' }:=by
 have Il:∀ b u,H b=some u->b≠D:=fun b u e z=>by rw [z,hn] at e; cases e
 refine I.step (g':=s.gens) (d':=s.drawn) (ch:=[D]) (fun b hb=>?_) (fun b o _ _ hc e _=>k b o (fun z=>hc (by simp [z])) e) (fun b o _ _ hc e _=>⟨o.slots,k b o (fun z=>hc (by simp [z])) e⟩) (fun b _ hc _ n=>by rw [c9 (fun z=>hc (by simp [z]))]; exact n)
  (fun b o hc e=>⟨o,k b o (fun z=>hc (by simp [z])) e⟩) (fun b _ e=>by rw [c9 (Il b _ e)]; exact e) (fun b _ _ e=>by rw [c9 (Il b _ e)]; exact e) (fun b ps e=>⟨#[],by rw [c9 (Il b _ e),e]; simp⟩) (fun m hm=>?_) (fun b u e1=>?_) I.bare
 ·have e:b=D:=by simpa using hb
  subst e
  exact ⟨.inr h1,hL,h2,h3⟩
 ·obtain ⟨o,es,ep,ho,r⟩:=hm
  exact ⟨o,es,ep,k _ o (Ne.symm hL) ho,r⟩
 ·by_cases q:b=D
  ·subst q
   rw [T8] at e1
   cases e1
   exact ⟨hz,its,n,hv,e⟩
  ·rw [c9 q] at e1
   refine (I.hok b u e1).stay (fun c v hc q'=>k c v ?_ q') (fun c q'=>by rw [c9 (Il c _ q')]; exact q') fun c _ q'=>by rw [c9 (Il c _ q')]; exact q'
   rcases hc with z | z
   ·rw [z]; exact q
   ·exact Il c _ z
end
section
open PySem.W PyProof.Rows
variable {Y:Cx} {K:Frag} {pn:List (Addr×Obj)} {σ:L2.St}
def uF {k:Nat} {f kS:Addr} {fd:FuncData} {ps:List Str} {N:Nat} {m:Rho->R Fl} {E:Value->Shared->Prop} {body:Value->PUnit->Sem (ForInStep PUnit)} (Lc:Y.xe=fun _ _=>False)
  (F:FnOk Y.prog Y.w Y.K Y.mg Y.base CX0 k f fd ps (spM K 1 .F (g8 1 N m))) (hr:Room k Y.A) (hb:Binds Y.K fd ps [])
  (He:∀ (x:Value) (s:Shared) (P:Value->Shared->Prop) (C:Shared->Prop),wpAny (model Y.prog Y.w) Y.A (call (.ref f) [x]) P (fun _ _=>False) s ->
   (∀ u s',P u s'->∃ its n,s'.heap.get? kS=some (seqObj "list" its n)/\its.size<64/\C { s' with heap:=s'.heap.update kS (Obj.mapSeq (·.push u)) })->wpAny (model Y.prog Y.w) Y.A (body x ⟨⟩) (fun r s'=>r=.yield ⟨⟩/\C s') E s) :
  ∀ (r:List Value) (yr:List V) (wr:List W) (kr:List (List (List Int))) (Gm:List V) (kd:List (List (List Int))) (s:Shared) (H G:Hp),Inv Y pn σ H s->Vals yr r->Reps K G yr wr->F4 (g8 1 N m) wr=some kr ->
   H kS=some (.lst Gm)->Same G H->G kS=none->Reps K G Gm (kd.map kW)->Gm.length+r.length<64 ->
   wpAny (model Y.prog Y.w) Y.A (forIn r PUnit.unit body) (fun _ s'=>∃ H' G' IQ,Inv Y pn σ H' s'/\H' kS=some (.lst IQ)/\Same G G'/\Same G' H'/\G' kS=none/\Reps K G' IQ ((kd++kr).map kW)) E s
 := by
 intro r
 induction r with
 | nil=>
  intro yr wr kr Gm kd s H G I rv GB hk hS sG gk rk hl
  cases rv
  cases GB
  rw [List.forIn_nil]
  cases hk
  rw [qG1]
  exact wpAny_pure ⟨H,G,Gm,I,hS,Same.refl G,sG,gk,rk⟩
 | cons x r ih=>
  intro yr wr kr Gm kd s H G I rv GB hk hS sG gk rk hl
  obtain ⟨y,yr,rfl,rx,rr⟩:∃ y yr',yr=y::yr'/\RelV y x/\Vals yr' r:=by
   cases rv with
   | cons a b=>exact ⟨_,_,rfl,a,b⟩
  obtain ⟨w,wr,rfl,ry,rws⟩:∃ w wr',wr=w::wr'/\Rep K G y w/\Reps K G yr wr':=by
   cases GB with
   | cons a b=>exact ⟨_,_,rfl,a,b⟩
  obtain ⟨key,Iy,rfl,hf,Gr,Lo⟩:=bd hk
  rw [qC2] at hl
  rw [qL5]
  have call:=pV (X:=Y) (us:=[x]) (vs:=[y]) (E:=fun _ _ _=>False) (Q:=fun v H2=>∃ G2,Same H H2/\Same G2 H2/\G2 kS=none/\Rep K G2 v (kW key)) F hr hb .nil fg I (.cons rx .nil) ⟨rfl,[w],.cons (ry.same sG) .nil,by
   rw [hf]
   exact fun v G2 H2 s1 s2 cl md=>⟨G2,s1,s2,cl kS _ hS rfl,md⟩⟩
  rw [Lc] at call
  refine qA2 (wpAny_mono (He x s _ (fun HI=>∃ H3 G3 HR,Inv Y pn σ H3 HI/\H3 kS=some (.lst HR)/\HR.length=Gm.length+1/\Same G G3/\Same G3 H3/\G3 kS=none/\Reps K G3 HR ((kd ++ [key]).map kW)) call fun u s' hp=>?_) (fun q s' hq=>?_) fun _ _ x=>x)
  ·obtain ⟨v,H2,I2,rv,G2,sH,s2,g2,r2⟩:=hp
   have hS2:=sH _ _ hS
   obtain ⟨z,its,n,rI,hlen,e⟩:=I2.lstM hS2
   refine ⟨its.toArray,n,e,by rw [qC1]; omega,?_⟩
   have sB:Same G (both G G2):=fun b o q=>by unfold both; rw [q]
   have GY:Same G2 (both G G2):=fun b o q=>by
    unfold both
    cases q1:G b with
    | none=>exact q
    | some u=>
     have a1:=sH b u (sG b u q1)
     rw [s2 b o q] at a1
     exact a1.symm
   have sBH:Same (both G G2) H2:=fun b o q=>by
    unfold both at q
    cases q1:G b with
    | none=>rw [q1] at q; exact s2 b o q
    | some u=>rw [q1] at q; cases q; exact sH b _ (sG b _ q1)
   have bk:both G G2 kS=none:=by unfold both; rw [gk]; exact g2
   refine ⟨upd H2 kS (.lst (Gm ++ [v])),both G G2,Gm ++ [v],I2.lset (t':=s'.toks) (its':=its ++ [u]) hS2 e (by simp) (rI.append (.cons rv .nil)) (by rw [qC5,qF8,sizeLine_eq]; omega),T8,by rw [qC5,qF8],sB,fun b o q=>?_,bk,?_⟩
   ·rw [c9 (d8 q bk)]; exact sBH b o q
   ·rw [qD1]
    exact (rk.same sB).append (.cons (r2.same GY) .nil)
  ·obtain ⟨rfl,H3,G3,HR,I3,hS3,hl3,s3,sH3,g3,r3⟩:=hq
   show wpAny (model Y.prog Y.w) Y.A (forIn r PUnit.unit body) _ E s'
   refine wpAny_mono (ih yr wr Iy HR (kd ++ [key]) s' H3 G3 I3 rr (rws.same s3) Lo hS3 sH3 g3 r3 (by omega)) (fun _ HI hq=>?_) fun _ _ x=>x
   obtain ⟨H4,G4,kvs4,I4,hS4,s4,sH4,g4,r4⟩:=hq
   exact ⟨H4,G4,kvs4,I4,hS4,s3.trans s4,sH4,g4,by rw [qE9] at r4; exact r4⟩
def Bx {H G:Hp} {s:Shared} {v:V} {u:Value} {k:List (List Int)} (hK:Y.K=K) (I:Inv Y pn σ H s) (sG:Same G H) (r:Rep K G v (kW k)) (ru:RelV v u):lw s.heap u k:=by
 subst hK
 obtain ⟨a0,vs0,rfl,h0,r0⟩:=r.inv
 ·cases ru
  obtain ⟨its,rv,⟨o,e,c,n,dd⟩,_⟩:=I.tuple (SqT.of (sG _ _ h0))
  refine ⟨_,o,its,n,rfl,e,c,dd,?_⟩
  have go:∀ {vs:List V} {its:List Value} {k:List (List Int)},Vals vs its->Reps Y.K G vs (k.map fun x=>W.tup (x.map W.int))->Paired (TupI s.heap) its k:=by
   intro vs its k
   induction k generalizing vs its with
   | nil=>intro a b; have b:vs = []:=b.inv; subst b; cases a; exact .nil
   | cons x k ih=>
    intro a b
    obtain ⟨v1,Jf,rfl,b1,b2⟩:=b.inv
    ·cases a with
     | cons a1 a2=>
      refine .cons ?_ (ih a2 b2)
      obtain ⟨a3,vs3,rfl,h1,r1⟩:=b1.inv
      ·cases a1
       have e1:=Reps.ints r1 (ints_map x)
       subst e1
       obtain ⟨Gu,Hj,⟨o2,e2,c2,n2,LI⟩,_⟩:=I.tuple (SqT.of (sG _ _ h1))
       exact ⟨_,o2,Gu,n2,rfl,e2,c2,LI,Hj⟩
  exact go rv r0
def xN {H G:Hp} {s:Shared} (hK:Y.K=K) (I:Inv Y pn σ H s) (sG:Same G H):∀ {vs:List V} {its:List Value} {ks:List (List (List Int))},Vals vs its->Reps K G vs (ks.map kW)->(∀ k∈ks,k ≠ [])->Paired (fun v xs=>lw s.heap v xs/\xs ≠ []) its ks:=by
 intro vs its ks
 induction ks generalizing vs its with
 | nil=>intro a b _; cases b; cases a; exact .nil
 | cons x k ih=>
  intro a b hn
  cases b with
  | cons b1 b2=>
   cases a with
   | cons a1 a2=>exact .cons ⟨Bx hK I sG b1 a1,hn x qB6⟩ (ih a2 b2 fun k hk=>hn k (qA8 _ hk))
end
end TP
namespace TP
open PySem L2
section
open PySem.W PyProof.Rows
variable {Y:Cx} {K:Frag} {pins:List (Addr×Obj)} {σ:L2.St}
def fh {α:Type} {F:Value->α->Prop}:∀ {as as':List Value} {bs bs':List α},Paired F as bs->Paired F as' bs'->Paired F (as++as') (bs++bs')
 | _,_,_,_,.nil,h=>h
 | _,_,_,_,.cons a t,h=>.cons a (fh t h)
def tq {α:Type} {as:List Value} {bs:List α} {F:Value->α->Prop} (h:Paired F as bs):Paired F as.reverse bs.reverse:=by
 induction h with
 | nil=>exact .nil
 | cons a _ ih=>
  rw [qK4,qK4]
  exact fh ih (.cons a .nil)
def pE {D kS:Addr} {e1:Nat} {H G:Hp} {s:Shared} {vs:List Value} {ys:List V} {Gm:List V} {ks:List (List (List Int))} {P:PySem.Fin->Shared->Prop} {E:Value->Shared->Prop} (hK:Y.K=K) (hu:Y.A.units+64<cLine)
  (I:Inv Y ((D,seqObj "list" #[] e1)::pins) σ H s) (Lz:Y.s₀.heap.objs.size<=D) (Kc:∀ p∈Y.pn++pins,p.1≠D) (hDk:D≠kS) (hS:H kS=some (.lst Gm)) (sG:Same G H) (gk:G kS=none) (rk:Reps K G Gm (ks.map kW)) (Gr:∀ k∈ks,k ≠ [])
  (rv:Vals ys vs) (hl:ks.length=vs.length) (GT:vs.length<64)
  (h:∀ s' H',Inv Y pins σ H' s'->Same G H'->H' D=some (.lst (w6 ks V.non ys))->P (.done (.ret .none)) s'):∀ its n,s.heap.get? kS=some (seqObj "list" its n)->wpAny (model Y.prog Y.w) Y.A (ksk_end D true vs.toArray e1 (.ref kS) its) P E s:=by
 intro its n hits
 obtain ⟨z,kl,n',rI,hlen,e⟩:=I.lstM hS
 rw [e] at hits
 cases hits
 have Ju:kl.length=vs.length:=by rw [<- hlen,rk.length,qA5,hl]
 have hly:ys.length=vs.length:=rv.length
 obtain ⟨pD,nD,Ko,nfs,_⟩:=I.pin (D,seqObj "list" #[] e1) (qC4 _ qB6)
 have pD:s.heap.get? D=some (seqObj "list" #[] e1):=pD
 have nD:H D=none:=nD
 -- the tail
 have tail:∀ st:SortSt,failedOf st=none->(arrOf st).map (·.2)=(((Q5 ks.reverse).map fun i=>vs.reverse.getD i Value.none)).toArray->wpAny (model Y.prog Y.w) Y.A (ksk_tail D true e1 (.ref kS) st) P E s:=fun st hf GZ=>by
  have hrev:((Q5 ks.reverse).map fun i=>vs.reverse.getD i Value.none).toArray.reverse=(w6 ks Value.none vs).toArray:=by unfold w6; simp
  have I1:=I.lset (t':=s.toks) (f:=fun _=>#[]) (its':=[]) (ys:=[]) hS e rfl .nil (qC3 _)
  obtain ⟨p1,n1,_⟩:=I1.pin (D,seqObj "list" #[] e1) (qC4 _ qB6)
  have I2:=I1.pins_of (pins':=pins) fun p hp=>I1.pin p (qC4 _ (qA8 _ hp))
  have Id:(w6 ks Value.none vs).toArray.size<=sizeLine:=by rw [qC1,jJ,sizeLine_eq]; omega
  unfold ksk_tail
  dsimp only
  rw [GZ,qA1 rfl,hrev]
  refine qA2 (listUpdate_at e rfl ?_ (by rw [qC1,sizeLine_eq]; omega) (qC3 _))
  refine qA2 (wpAny_letGo ?_)
  refine qA2 (seqEpoch_at p1 rfl ?_)
  refine qA2 (listUpdate_at p1 rfl ?_ (qC3 _) (Nat.le_succ_of_le Id))
  rw [hf]
  simp only [bne_self_eq_false,qD5,if_false]
  refine wpAny_pure (h _ (upd (upd H kS (.lst [])) D (.lst (w6 ks V.non ys))) (qV (s:={ s with heap:=s.heap.update kS (Obj.mapSeq fun _=>(#[]:Array Value)) }) (t':=s.toks) (its:=w6 ks Value.none vs) (n:=_) I2 (fun b o hb q=>(Heap.get?_update_other _ _ (Ne.symm hb)).trans q) n1 Ko Lz (fun x c hc=>?_) Kc (by rw [jJ,sizeLine_eq]; omega) ?_ (get?_update_seq p1 fun _=>(w6 ks Value.none vs).toArray)) (fun b o q=>?_) T8)
  ·rintro rfl
   obtain ⟨v,o,ho,hd⟩:=I1.cell x _ hc
   have p1':_=some (seqObj "list" #[] e1):=p1
   rw [p1'] at ho
   cases ho
   cases hd
  ·unfold w6
   have hrr:Vals ys.reverse vs.reverse:=rv.reverse
   refine Vals.reverse (P1 fun i hi=>?_)
   have GC:i<ys.reverse.length:=by
    have:=(O4 ks.reverse).mem_iff.mp hi
    rw [qF2,qB8] at this
    rw [qB8]; omega
   obtain ⟨u,eu,q⟩:=B4 (d:=V.non) hrr GC
   rw [show vs.reverse.getD i Value.none=u by rw [qA0,eu]; rfl]
   exact q
  ·have hbD:b≠D:=by rintro rfl; rw [sG b o q] at nD; cases nD
   have hbk:b≠kS:=by rintro rfl; rw [gk] at q; cases q
   rw [c9 hbD,c9 hbk]; exact sG b o q
 have hpairs:((List.toArray kl).zip vs.toArray).reverse=(List.toArray kl.reverse).zip (List.toArray vs.reverse):=kat_pairs true Ju
 unfold ksk_end
 dsimp only
 rw [qA1 rfl,qA1 rfl,hpairs]
 refine qA2 (wpAny_rule ?_)
 by_cases c2:vs.toArray.size<2
 ·rw [qA1 c2,qA1 c2]
  refine qA2 (wpAny_pure ?_)
  rw [StateT.run_pure]
  refine qA2 (wpAny_pure ?_)
  dsimp only
  refine tail _ rfl ?_
  have Kt:vs.length<2:=by simpa using c2
  have e3:(Q5 ks.reverse).map (fun i=>vs.reverse.getD i Value.none)=vs.reverse:=by
   unfold Q5
   rw [qA1 (by rw [qB8]; omega),show ks.reverse.length=vs.reverse.length by rw [qB8,qB8,hl],ic]
  rw [e3]
  show Array.map (fun x=>x.snd) ((List.toArray kl.reverse).zip (List.toArray vs.reverse))=vs.reverse.toArray
  apply qN8.mp
  rw [Array.toList_map,Array.toList_zip]
  apply qJ6
  ·simp [Ju]
  ·intro i h1 h2; simp
 ·rw [qA3 c2,qA3 c2]
  have h2:2<=vs.length:=by simpa using c2
  have tt:=xN hK I sG rI rk Gr
  obtain ⟨fs,kt,fl,fi⟩:=ja tt
  have ttr:=tq tt
  refine qA2 (kat_kind (T:=.type "tuple") kt (by omega) (fun v hv=>?_) (by decide) ?_)
  ·obtain ⟨x,a,o,its,m,rfl,ho,hc,_⟩:=fi v hv
   rw [<- hc]
   exact (Looks.ld ho).andThen .now
  have ID:kl.reverse.length=vs.reverse.length:=by rw [qB8,qB8,Ju]
  have hw:(kas_sort vs.reverse.length).kasWp (kas_ask Y.prog Y.w Y.A (tuples' (Value.type "tuple" != Value.type "tuple")) kl.reverse) (fun p s'=>s'=s/\p.toList=Q5 ks.reverse) s:=by
   refine wp_run (n:=vs.reverse.length) (r:=M3 ks.reverse) (fun i j C hi hj hC=>?_) (vm (by rw [qB8]; omega)) ⟨rfl,?_⟩
   ·rw [<- ID] at hi hj
    obtain ⟨x,hx,tx⟩:=B4 (d:=Value.none) ttr hi
    obtain ⟨y,hy,ty⟩:=B4 (d:=Value.none) ttr hj
    have hkl:ks.reverse.length=kl.reverse.length:=by rw [qB8,qB8]; omega
    rw [jA (by omega) (by omega)] at hC
    have ex:ks.reverse.getD i []=x:=by rw [qA0,hx]; rfl
    have ey:ks.reverse.getD j []=y:=by rw [qA0,hy]; rfl
    rw [ex,ey] at hC
    exact xK hu tx.1 ty.1 hC
   ·unfold Q5
    rw [qA3 (by rw [qB8]; omega),show ks.reverse.length=vs.reverse.length by rw [qB8,qB8,hl]]
  refine qA2 (wpAny_mono (kat_run (Q:=fun Gg s'=>s'=s/\(arrOf Gg).map (·.2)=((Q5 ks.reverse).map fun i=>vs.reverse.getD i Value.none).toArray/\failedOf Gg=none) ID (by rw [qB8]; exact h2) (by rw [qB8]; exact GT) (fun p Gg s' a1 a2 a3 a4=>⟨a4.1,by rw [kat_snds ID a2,a4.2],a3⟩) hw) ?_ fun _ _ e=>e)
  rintro ⟨⟨⟩,Gg⟩ s' ⟨rfl,Ho,hf'⟩
  exact tail Gg hf' Ho
def nG {k:Nat} {f D kS:Addr} {fd:FuncData} {ps:List Str} {N:Nat} {m:Rho->R Fl} {e1:Nat} {H G:Hp} {s:Shared} {vs:List Value} {ys:List V} {ws:List W} {ks:List (List (List Int))} {P:PySem.Fin->Shared->Prop} {E:Value->Shared->Prop} (Lc:Y.xe=fun _ _=>False) (hK:Y.K=K)
  (F:FnOk Y.prog Y.w Y.K Y.mg Y.base CX0 k f fd ps (spM K 1 .F (g8 1 N m))) (hr:Room k Y.A) (hb:Binds Y.K fd ps [])
  (I:Inv Y ((D,seqObj "list" #[] e1)::pins) σ H s) (Lz:Y.s₀.heap.objs.size<=D) (Kc:∀ p∈Y.pn++pins,p.1≠D) (hDk:D≠kS) (hS:H kS=some (.lst [])) (sG:Same G H) (gk:G kS=none)
  (rv:Vals ys vs) (GB:Reps K G ys ws) (Ja:F4 (g8 1 N m) ws=some ks) (GT:vs.length<64)
  (h:∀ s' H',Inv Y pins σ H' s'->Same G H'->H' D=some (.lst (w6 ks V.non ys))->P (.done (.ret .none)) s'):wpAny (model Y.prog Y.w) Y.A (ksk_rest D (.ref f) true vs.toArray e1 (.ref kS)) P E s:=by
 have hl:ks.length=vs.length:=by rw [cq Ja,<- GB.length,rv.length]
 unfold ksk_rest
 refine qA2 (wpAny_rule ?_)
 first
  | rw [List.forIn_toArray]
  | (rw [<- Array.forIn_toList]; simp only [List.toList_toArray])
  | rw [<- Array.forIn_toList]
 refine qA2 (wpAny_mono (uF (kS:=kS) (E:=E) Lc F hr hb (fun x s' Pc C hc hP=>?_) vs ys ws ks [] [] s H G I rv GB Ja hS sG gk .nil (by simpa using GT)) (fun _ s' hd=>?_) fun _ _ x=>x)
 ·refine qA2 (wpAny_attempt (wpAny_mono hc (fun u HI hk=>?_) fun _ _ hF=>hF.elim))
  obtain ⟨its,n,hk1,hz,hC⟩:=hP u HI hk
  dsimp only
  refine qA2 (listUpdate_at hk1 rfl ?_ (by rw [sizeLine_eq]; omega) (qA9 (qI0 (Array.size_push ..)) (by rw [sizeLine_eq]; omega)))
  exact wpAny_pure ⟨rfl,hC⟩
 ·obtain ⟨H',G',IQ,I',hS',s1,s2,g',r'⟩:=hd
  obtain ⟨z,kl,n',rI,hlen,e⟩:=I'.lstM hS'
  refine qA2 (listItems_at e rfl ?_)
  exact pE hK (by have:=hr.units; omega) I' Lz Kc hDk hS' s2 g' (by simpa using r') (kL Ja) rv hl GT (fun HI H'' I'' q1 q2=>h HI H'' I'' (s1.trans q1) q2) _ _ e
end
section
open PySem.W PyProof.Rows
variable {X:Cx} {K:Frag}
def oD {k:Nat} {f:Addr} {fd:FuncData} {ps:List Str} {N:Nat} {m:Rho->R Fl} (F:FnOk X.prog X.w X.K X.mg X.base CX0 k f fd ps (spM K 1 .F (g8 1 N m))) (hr:Room (k+2) X.A) (hb:Binds X.K fd ps []) (hK:X.K=K) {pins:List (Addr×Obj)} {s:Shared} {σ:L2.St} {H:Hp} {p:Addr} {ys:List V} {ws:List W} {ks:List (List (List Int))} {Q:VK}
  (I:Inv X pins σ H s) (hq:SqL K H p ys) (GB:Reps K H ys ws) (Ja:F4 (g8 1 N m) ws=some ks) (GT:ws.length<64)
  (h:∀ l H',H l=none->Same H H'->H' l=some (.lst (w6 ks V.non ys))->Q (.ref l) H') :
  wpAny (model X.prog X.w) X.A (call (.builtin "sorted") [.ref p] [(Str.ofString "key",.ref f),(Str.ofString "reverse",.bool true)]) (EP X pins σ Q) X.xe s:=by
 subst hK
 obtain ⟨vs,rv,pl,hz⟩:=I.list hq
 have hlen:ys.length=vs.length:=rv.length
 have hlw:ys.length=ws.length:=GB.length
 refine call_function_entry_kw kind_sorted plain_sorted entry_sorted (ksk_s2 _ _ _) ?_
 unfold Builtin.«sorted»
 refine qA2 (m:=checkCount "sorted" 1 1 _) (wpAny_pure ?_)
 refine qA2 (collect_list pl.isList ?_ (by rw [sizeLine_eq]; omega))
 refine qA2 (wpAny_newList ?_ (by rw [sizeLine_eq]; omega))
 generalize hg:(s.heap.push (seqObj "list" #[] 0)).update s.heap.objs.size (Obj.mapSeq (·++vs.toArray))=g
 have gz:g.objs.size=s.heap.objs.size+1:=by rw [<- hg,Heap.size_update,size_push']
 have gk:∀ b o,s.heap.get? b=some o->g.get? b=some o:=fun b o e=>by
  have GA:=qB7 e
  rw [<- hg,qM7 _ _ _ _ (qC7 GA)]; exact qA6 _ e
 have go:(g.push (seqObj "list" vs.toArray 0)).get? (s.heap.objs.size+1)=some (seqObj "list" vs.toArray 0):=by rw [<- gz]; exact qC6 _ rfl
 show wpAny _ _ _ _ _ { s with heap:=g.push (seqObj "list" vs.toArray 0) }
 rw [gz]
 refine qA2 (wpAny_holding (wpAny_call_entry_kw slot_list_sort ⟨_,go,rfl⟩ entry_list_sort ?body (ksk_l2 _ _ _)))
 case body=>
  generalize hDe:s.heap.objs.size+1=D at *
  show wpAny (model X.prog X.w) X.A.in1.in1 (Builtin.«list.sort» ⟨[.ref D],[(Str.ofString "key",.ref f),(Str.ofString "reverse",.bool true)]⟩) _ _ _
  rw [ksk_t2]
  generalize KD:g.push (seqObj "list" vs.toArray 0)=g2 at *
  have g2z:g2.objs.size=D+1:=by rw [<- KD,size_push',gz]
  have g2k:∀ b o,s.heap.get? b=some o->g2.get? b=some o:=fun b o e=>by rw [<- KD]; exact qA6 _ (gk b o e)
  obtain ⟨e1,ho1⟩:∃ e1,(g2.update D (Obj.mapSeq fun _=>(#[]:Array Value))).get? D=some (seqObj "list" #[] e1):=⟨_,get?_update_seq go fun _=>#[]⟩
  unfold ksk_tree
  refine qA2 (listItems_at go rfl ?_)
  refine qA2 (listUpdate_at go rfl ?_ (by rw [qC1,sizeLine_eq]; omega) (qC3 _))
  refine qA2 (seqEpoch_at ho1 rfl ?_)
  refine qA2 (wpAny_newTuple ?_ (by show vs.length<=_; rw [sizeLine_eq]; omega))
  refine qA2 (wpAny_newList ?_ (qC3 _))
  refine wpAny_holding ?_
  have Jy:s.heap.objs.size<=D:=by omega
  have hHD:H D=none:=I.hok.fresh Jy
  generalize hg3:(g2.update D (Obj.mapSeq fun _=>(#[]:Array Value))).push (seqObj "tuple" vs.toArray 0)=g3
  have g3z:g3.objs.size=D+2:=by rw [<- hg3,size_push',Heap.size_update,g2z]
  have g3k:∀ b o,s.heap.get? b=some o->g3.get? b=some o:=fun b o e=>by
   rw [<- hg3]
   exact qA6 _ (by rw [qM7 _ _ _ _ (qC7 (qB0 (qB7 e) Jy))]; exact g2k b o e)
  have g3D:g3.get? D=some (seqObj "list" #[] e1):=by rw [<- hg3]; exact qA6 _ ho1
  have I3:=I.kept (t':=s.toks) g3k
  have hDL:D≠X.env.locals:=qJ9 (qB0 I.lt Jy)
  have I4:=I3.pins_of (pins':=(D,seqObj "list" #[] e1)::pins) fun q hq=>by
   rcases qB3.mp hq with rfl | hq
   ·exact ⟨g3D,hHD,hDL,I.nofs Jy,fun v z=>by cases z⟩
   ·exact I3.pin q (qC4 _ hq)
  have hkS:H g3.objs.size=none:=I.hok.fresh (by omega)
  have I5:=I4.lnew (t':=s.toks) (its:=[]) (ys:=[]) .nil (qC3 _)
  refine nG (Y:=inK X) (K:=X.K) (G:=H) (ys:=ys) (ws:=ws) (ks:=ks) (kS:=g3.objs.size) rfl rfl F (hr.in1.in1) hb (Cc I5) ?_ ?_ ?_ T8 (fun b o q=>?_) hkS rv GB Ja (by omega) fun s' H' I' sH hD'=>?_
  ·exact qA9 I.sz Jy
  ·intro q hq
   exact qC7 (qB0 (qB7 (I.pin q hq).1) Jy)
  ·rw [g3z]; exact qC7 (Nat.lt_add_of_pos_right (by decide))
  ·rw [c9 (d8 q hkS)]; exact q
  ·exact ⟨_,rfl,wpAny_pure ⟨_,rfl,.ref D,H',xQ I',rfl,h D H' hHD sH hD'⟩⟩
end
def cy (c:Bool) (f:List W->R W):List W->R W
 | [w]=>(match lstOf w with
  | some ws=>(match F4 f ws with
   | some ks=>if ws.length<64 then chks c (w6 ks W.non ws) else .stuck
   | none=>.stuck)
  | none=>.stuck)
 | _=>.stuck
section
variable {K:Frag}
def qd {F:Hp} {ys:List V} {ws:List W} {ks:List (List (List Int))} (r:Reps K F ys ws) (hl:ks.length=ws.length):Reps K F (w6 ks V.non ys) (w6 ks W.non ws):=by
 unfold w6
 refine Reps.reverse (eC fun i hi=>?_)
 have GC:i<ys.reverse.length:=by
  have:=(O4 ks.reverse).mem_iff.mp hi
  have:=r.length
  rw [qF2,qB8] at *
  omega
 obtain ⟨w,e,q⟩:=gn (i:=i) r.reverse GC
 rw [show ws.reverse.getD i W.non=w by rw [qA0,e]; rfl]
 exact q
def qf (K:Frag) (f:List W->R W):List V->Hp->VK->Prop:=fun xs H Q=>∃ p ys ws ks,xs = [.ref p]/\SqL K H p ys/\Reps K H ys ws/\F4 f ws=some ks/\ws.length<64/\∀ l H',H l=none->Same H H'->H' l=some (.lst (w6 ks V.non ys))->Q (.ref l) H'
def yK {c:Bool} {f:List W->R W}:Cal K (cb c) .F (qf K f) (cy c f):=by
 intro EX H0 Hs G H ρ σ Ha vs ws Q I s m o
 cases m with
 | nil=>exact o.elim
 | cons a t=>
  cases t with
  | cons _ _=>exact o.elim
  | nil=>
   rename_i w v
   unfold cy at o
   cases hl:lstOf w with
   | none=>simp only [hl] at o; exact o.elim
   | some us=>
    simp only [hl] at o
    cases ht:F4 f us with
    | none=>simp only [ht] at o; exact o.elim
    | some ks=>
     simp only [ht] at o
     by_cases hc:us.length<64
     ·rw [qA1 hc] at o
      obtain ⟨p,ys,rfl,hs,r⟩:=Md.lstOf I a hl
      have sm:Same (if c then G else join H0 G) H:=by
       cases c with
       | true=>rw [qA1 rfl]; exact I.gh
       | false=>rw [qA3 qA4]; exact I.join_H
      refine ⟨p,ys,us,ks,rfl,hs,r.same sm,ht,hc,fun l H' hn sH IZ=>?_⟩
      unfold TP.chks at o
      by_cases n:(c||m5 (w6 ks W.non us))=true
      ·rw [qA1 n] at o
       have ro:=qd r (cq ht)
       have r':Reps K G (w6 ks V.non ys) (w6 ks W.non us):=by
        cases c with
        | true=>rw [qA1 rfl] at ro; exact ro
        | false=>rw [qA3 qA4] at ro; exact Reps.clean I ro (by simpa using n)
       exact o _ G H' ⟨Same.refl G,sH,I.gh.trans sH,fun _ _ _ _ e=>e⟩ ⟨l,_,rfl,IZ,I.gh.free hn,s.free hn,r'⟩
      ·rw [qA3 n] at o; exact o.elim
     ·rw [qA3 hc] at o; exact o.elim
end
section
variable {X:Cx} {K:Frag} {EX:EXT} {e:Expr} {pos:Pos} {mr:Rho->R (List W)}
def Ep {f:Addr} {x:Str} {p Jj Ji p2:Pos} {n1 n2:Option Str} {kt:Nat} (hg:Gl X x) (hm:X.mg x=some (.ref f)) (GR:(x == ("__debug__" : Str))=false:=by decide):PK X [⟨n1,.Name x p,Jj⟩,⟨n2,.Constant (.bool true) kt p2,Ji⟩] (Z6 (tC (.ref f)) (Z6 (tC (.bl true)) tNil)):=
 mz (fun pins s σ H Q I h=>mS I hg hm ⟨.ref f,H,I,rfl,h⟩ GR) (mz pe_bl AO)
def wR {k:Nat} {f:Addr} {fd:FuncData} {ps:List Str} {x y:Str} {p p1 p2 Jj Ji:Pos} {kt:Nat} {N:Nat} {m:Rho->R Fl} {c:Bool} (F:FnOk X.prog X.w X.K X.mg X.base CX0 k f fd ps (spM K 1 .F (g8 1 N m))) (hr:Room (k+2) X.A) (hg:Gl X x) (hm:X.mg x=some (.ref f)) (hb:Binds X.K fd ps [])
  (hgs:Gl X y) (HW:X.mg y=none) (hvs:bootBuiltins y=some (.builtin "sorted")) (ha:PA X [e] (tA K EX (cb c) mr)) (hK:X.K=K:=by rfl) (GR:(x == ("__debug__" : Str))=false:=by decide) (hn:y ≠ "__name__" := by decide) (hdb2:(y == ("__debug__" : Str))=false:=by decide)
  (he:backTo pos (starEach [e] X.env)=(false,eval e X.env)::backTo pos (starEach [] X.env):=by rfl) (GL:(backTo pos (starEach [e] X.env)).any (·.1)=false:=by rfl)
  (Gh:(backToKw pos (keywordEach [⟨some "key",.Name x p1,Jj⟩,⟨some "reverse",.Constant (.bool true) kt p2,Ji⟩] X.env)).all (·.1.isSome)=true:=by rfl)
  (hkw:(backToKw pos (keywordEach [⟨some "key",.Name x p1,Jj⟩,⟨some "reverse",.Constant (.bool true) kt p2,Ji⟩] X.env)).any (·.1.isNone)=false:=by rfl)
  (Ja:(backToKw pos (keywordEach [⟨some "key",.Name x p1,Jj⟩,⟨some "reverse",.Constant (.bool true) kt p2,Ji⟩] X.env)).filterMap (·.1) = [Str.ofString "key",Str.ofString "reverse"]:=by rfl) :
  PE X (.Call (.Name y p) [e] [⟨some "key",.Name x p1,Jj⟩,⟨some "reverse",.Constant (.bool true) kt p2,Ji⟩] pos) (tM K EX .F (bA (cy c (g8 1 N m)) mr)):=by
 intro pins s σ H Q I h
 have h:=vh (yK (c:=c) (f:=g8 1 N m)) h
 refine wpAny_Call_Name_kw (X7 I hgs HW hvs ?_ hn hdb2)
 refine PyProof.Rows.callWith_kw (thn (ha pos pins s σ H _ I h) fun us s1 zz81=>?_) he GL Gh hkw
 obtain ⟨vs,H1,I1,r1,q1⟩:=zz81
 refine thn (Ep hg hm GR pos pins s1 σ H1 (fun zs H2=>zs = [.ref f,.bl true]/\qf K (g8 1 N m) vs H2 Q) I1 ⟨rfl,q1⟩) fun us2 s2 zz82=>?_
 obtain ⟨zs,H2,I2,rz,hz,q2⟩:=zz82
 subst hz
 obtain ⟨p0,ys,ws,ks,rfl,hq,GB,hks',GT,hQ⟩:=q2
 obtain ⟨u,rfl,ru⟩:=Q2 r1
 cases ru
 rw [Ja]
 cases rz with
 | cons r2 rz=>
  cases r2
  obtain ⟨u2,rfl,ru2⟩:=Q2 rz
  cases ru2
  exact oD F hr hb hK I2 hq GB hks' GT hQ
end
end TP
namespace TP
open PySem L2
section
open PySem.W PyProof.Rows
variable {X:Cx} {e:Expr} {te:TE} {st:Expr} {tk:TO} {pos p2:Pos}
end
section
variable {K:Frag} {EX:EXT} {σ:St} {H:Hp} {Q:VK}
end
section
variable {X:Cx} {K:Frag} {EX:EXT} {e:Expr} {pos:Pos} {ma:Rho->R W}
end
end TP
namespace TP
open PySem L2
section
variable {K:Frag} {EX:EXT} {H0 G H:Hp} {ρ:Rho} {σ:St} {d:Mode} {D:Ends}
end
section
variable {X:Cx} {K:Frag} {EX:EXT} {d:Mode} {e:Expr} {pos:Pos} {ma:Rho->R W}
end
end TP
namespace TP
open PySem L2
section
variable {K:Frag} {EX:EXT} {H0 G H G1 H1 F:Hp} {ρ:Rho} {σ:St} {d:Mode} {D:Ends}
end
section
variable {X:Cx} {K:Frag} {EX:EXT} {d:Mode} {e k v:Expr} {pos:Pos} {mk me:Rho->R W}
end
end TP
namespace TP
open PySem PyProof.Rows
def kk (rk:Keyed->Int) (xs:Array Keyed) (i:Nat):Int:=match xs[i]? with
 | some p=>rk p
 | none=>0
def oh {l r:Nat} (h:l<=r):l<=(l+r)/2:=(Nat.le_div_iff_mul_le (by decide)).mpr (by rw [Nat.mul_two]; exact qE0 h _)
def iK {l r:Nat} (h:¬ l≥r):(l+r)/2<r:=(Nat.div_lt_iff_lt_mul (by decide)).mpr (by rw [Nat.mul_two]; exact Nat.add_lt_add_right (qM4 h) _)
def db {lo hi:Nat} (h:¬ lo≥hi):lo+(hi-lo)/2<hi:=qK2 (Nat.div_lt_self (qN6 (qM4 h)) (by decide))
def zH {r m l n x:Nat} (h1:l<=m) (hf:r-l<=n-x):r-(m+1)<=n-(x+1):=qA9 (qM6 (qE8 h1) r) (Nat.pred_le_pred hf)
def zI {r m l n x:Nat} (h1:l<=m) (h2:m<r) (hf:r-l<=n-x):m-l<=n-(x+1):=qK6 (qB0 (Nat.sub_lt_sub_right h1 h2) hf)
def sb1 {A n:Nat} (h0:0<n) (h:n<=A):A-(n-1)=A-n+1:=by
 cases n with
 | zero=>exact absurd h0 (qG9 _)
 | succ m=>exact (Nat.succ_pred_eq_of_pos (qN6 h)).symm
def sb2 {A n k:Nat} (h:n<=A) (hk:k<=n):A-k=A-n+(n-k):=(Nat.sub_add_sub_cancel h hk).symm
def sb3 {lo x q k:Nat} (hq:q<=x) (h:lo+x-q<=k):x-q<=k-lo:=by rw [qH6 hq] at h; exact Nat.le_sub_of_add_le' h
def sb4 {lo x q k:Nat} (hq:q<=x) (h:lo+x-q<=k):lo+(k-lo)=k:=qD2 (qA9 (by rw [qH6 hq]; exact qD3 _ _) h)
def sb5 {lo j:Nat} (h:0<j):lo+(j-1)=lo+j-1:=(qH6 h lo).symm
def mr1 {lo m i:Nat} (h:i<m):lo+(lo+m)-1-(lo+i)=lo+(m-1-i):=by omega
def ms0 {n m x y T:Nat} (h:n+1+m+x+min y 1<=T):n+m+x+1<=T:=qA9 (qA9 (qI0 (show n+1+m+x=n+m+x+1 by rw [qN3 n 1 m,qN3 (n+m) 1 x]).symm) (qD3 _ _)) h
def uk {n m x y T:Nat} (h:n+m+x+min y 1<=T) (h0:0<n):n-1+m+x+1<=T:=by
 cases n with
 | zero=>exact absurd h0 (qG9 _)
 | succ n=>exact ms0 h
def ms1 {n m x y T:Nat} (h:n+m+x+min y 1<=T) (h0:0<n):n-1+m+x+min (y+1) 1<=T:=qA9 (qE0 (qI4 (y+1) 1) _) (uk h h0)
def Bl {n m x y T:Nat} (h:n+m+x+min y 1<=T) (h0:0<m):n+(m-1)+x+1<=T:=by rw [Nat.add_comm n (m-1)]; exact uk (by rw [Nat.add_comm m n]; exact h) h0
def ms2 {n m x y T:Nat} (h:n+m+x+min y 1<=T) (h0:0<m):n+(m-1)+x+min (y+1) 1<=T:=qA9 (qE0 (qI4 (y+1) 1) _) (Bl h h0)
def ms3 {x y s:Nat} (h:x+min y 1+1<=s):x+min (y+1) 1+1<=s+1:=qE8 (qA9 (qE0 (qI4 (y+1) 1) x) (qA9 (qE8 (qD3 x _)) h))
def Bn {i j k:Nat} (h:i<=k/\k<j):i<=i+j-1-k/\i+j-1-k<j:=by
 have hk:k<=j-1:=qK6 h.2
 have e:i+j-1-k=i+(j-1-k):=by rw [qH6 (qD7 (qC3 k) h.2),qH6 hk]
 rw [e]
 exact ⟨qD3 _ _,qD7 (qA9 (Nat.add_le_add_right h.1 _) (qI0 (qD2 hk))) (qI1 (qD7 (qC3 k) h.2) (by decide))⟩
def sb6 {lo x A:Nat} (hx:0<x) (h:lo+x<=A):lo+x-1<A:=qB0 (qI1 (qB0 hx (Nat.le_add_left _ _)) (by decide)) h
def DD {f g:Nat->Int} {k l:Nat} (hl:l<=k) (hg:∀ i,g i=if i=l then f k else if l<i/\i<=k then f (i-1) else f i) (u:∀ i j,i<=j->j<k->f i<=f j) (Ij:∀ i,i<l->f i<=f k) (IG:∀ i,l<=i->i<k->f k<f i) (i j:Nat) (Gw:i<=j) (hj:j<k+1):g i<=g j:=by
 have lt:∀ i,i<l->g i=f i:=fun i h=>by rw [hg,qA3 (qC7 h),qA3 fun z=>Nat.lt_asymm z.1 h]
 have eq:g l=f k:=by rw [hg,qA1 rfl]
 have gt:∀ i,l<i->i<=k->g i=f (i-1):=fun i h h2=>by rw [hg,qA3 (qJ9 h),qA1 ⟨h,h2⟩]
 have hj:=qF0 hj
 rcases Nat.lt_trichotomy j l with c | rfl | c
 ·rw [lt j c,lt i (qD7 Gw c)]; exact u i j Gw (qB0 c hl)
 ·rcases qL6 Gw with d | rfl
  ·rw [lt i d,eq]; exact Ij i d
  ·exact qF9 _
 ·rw [gt j c hj]
  cases j with
  | zero=>exact absurd c (qE7 _)
  | succ j=>
   have cj:=qF0 c
   rcases Nat.lt_trichotomy i l with d | rfl | d
   ·rw [lt i d]; exact u i j (qA9 (qH4 d) cj) hj
   ·rw [eq]; exact qL1 (IG j cj hj)
   ·rw [gt i d (qA9 Gw hj)]; exact u (i-1) j (Nat.pred_le_pred Gw) hj
def fE {rk:Keyed->Int} {xs ys:Array Keyed} {i j:Nat} (h:xs[i]?=ys[j]?):kk rk xs i=kk rk ys j:=by unfold kk; rw [h]
def af {rk:Keyed->Int} {xs:Array Keyed} {i:Nat} {p:Keyed} (h:xs[i]?=some p):kk rk xs i=rk p:=by unfold kk; rw [h]
def Cmp (prog:Program) (w:World) (A:Around) (s:Shared) (κ:SortKind) (rk:Keyed->Int) (a₀:Array Keyed):Prop:=∀ x∈a₀,∀ y∈a₀,∀ Q:Bool->Shared->Prop,Q (decide (rk x<rk y)) s->wpAny (model prog w) A (keyLt' κ x.1 y.1) Q (fun _ _=>False) s
section
variable {prog:Program} {w:World} {A:Around} {E:Value->Shared->Prop} {s:Shared} {a₀:Array Keyed} {κ:SortKind} {rk:Keyed->Int}
def eR {st:SortSt} {x y:Keyed} {Q:Option Bool->SortSt->Prop} (hc:Cmp prog w A s κ rk a₀) (hx:x∈a₀) (hy:y∈a₀) (hk:kindOf st=κ) (h:Q (some (decide (rk x<rk y))) st):wpS (model prog w) A E s (lt' x y) Q st:=by
 rw [lt'_eq]
 refine wpS_bind (wpS_get ?_)
 rw [hk]
 refine wpS_bind (wpS_lift (wpAny_attempt (wpAny_mono (hc x hx y hy (fun c s'=>c=decide (rk x<rk y)/\s'=s) ⟨rfl,rfl⟩) (fun c s' hcs=>?_) fun _ _ hF=>hF.elim)))
 obtain ⟨rfl,rfl⟩:=hcs
 exact ⟨rfl,wpS_pure h⟩
def l9 {st:SortSt} {arr:Array Keyed} {i:Nat} {x:Keyed} {Q:Keyed->SortSt->Prop} (h:arr[i]?=some x) (q:Q x st):wpS (model prog w) A E s (elem' arr i) Q st:=by
 rw [elem'_eq,h]
 exact wpS_pure q
def xV:Bool->Keyed->Array Keyed->Nat->Nat->Nat->StateT SortSt Sem (Option Nat):=sortPriv% PySem.Builtin.gallop
def bey (left:Bool) (key z:Int):Bool:=if left then decide (z<key) else !decide (key<z)
def br {left:Bool} {key z y:Int} (h:z<=y) (hb:bey left key y=true):bey left key z=true:=by
 unfold bey at hb ⊢
 cases left
 ·simp at hb ⊢; omega
 ·simp at hb ⊢; omega
def cD {left:Bool} {key z y:Int} (h:z<=y) (hb:bey left key z=false):bey left key y=false:=by
 cases q:bey left key y with
 | false=>rfl
 | true=>rw [br h q] at hb; cases hb
def bF {st:SortSt} {left:Bool} {key:Keyed} {arr:Array Keyed} {j:Nat} {Q:Option Bool->SortSt->Prop} (hc:Cmp prog w A s κ rk a₀) (hk:kindOf st=κ) (Hc:key∈a₀) (Hq:∃ x∈a₀,arr[j]?=some x)
  (h:Q (some (bey left (rk key) (kk rk arr j))) st):wpS (model prog w) A E s (elem' arr j>>=fun x=>if left=true then lt' x key else lt' key x>>=fun r=>pure (r.map (!·))) Q st:=by
 obtain ⟨x,hx,e⟩:=Hq
 rw [af e] at h
 refine wpS_bind (l9 e ?_)
 cases left
 ·exact wpS_bind (eR hc Hc hx hk (wpS_pure h))
 ·exact eR hc hx Hc hk h
def N8 {st:SortSt} {left:Bool} {key:Keyed} {arr:Array Keyed} {base n hint:Nat} {Q:Option Nat->SortSt->Prop} (hc:Cmp prog w A s κ rk a₀) (hk:kindOf st=κ) (Hc:key∈a₀) (Hq:∀ i,i<n->∃ x∈a₀,arr[base+i]?=some x)
  (hs:∀ i j,i<=j->j<n->kk rk arr (base+i)<=kk rk arr (base+j)) (hh:hint<n)
  (h:∀ k,k<=n->(∀ i,i<k->bey left (rk key) (kk rk arr (base+i))=true)->(∀ i,k<=i->i<n->bey left (rk key) (kk rk arr (base+i))=false)->Q (some k) st):wpS (model prog w) A E s (xV left key arr base n hint) Q st:=by
 have last:∀ lo hi,hi<=n->lo<=hi->(∀ i,i<lo->bey left (rk key) (kk rk arr (base+i))=true)->(∀ i,hi<=i->i<n->bey left (rk key) (kk rk arr (base+i))=false) ->
   ∀ {R:Option (Option Nat)×Nat×Nat->SortSt->Prop} {body:Nat->Option (Option Nat)×Nat×Nat->StateT SortSt Sem (ForInStep (Option (Option Nat)×Nat×Nat))},
   (∀ x lo hi R',lo≥hi->R' (.done (none,lo,hi)) st->wpS (model prog w) A E s (body x (none,lo,hi)) R' st) ->
   (∀ x lo hi R',lo<hi->hi<=n->R' (if bey left (rk key) (kk rk arr (base+(lo+(hi-lo)/2)))=true then .yield (none,lo+(hi-lo)/2+1,hi) else .yield (none,lo,lo+(hi-lo)/2)) st->wpS (model prog w) A E s (body x (none,lo,hi)) R' st) ->
   (∀ lo hi,Q (some hi) st->R (none,lo,hi) st)->wpS (model prog w) A E s (forIn [0:n] (none,lo,hi) body) R st:=by
  intro lo hi hn hl h1 h2 R body hb1 hb2 hR
  refine wpS_forRange (fun x c Gg=>Gg=st/\∃ lo hi,c=(none,lo,hi)/\hi<=n/\lo<=hi/\hi-lo<=n-x/\(∀ i,i<lo->bey left (rk key) (kk rk arr (base+i))=true)/\(∀ i,hi<=i->i<n->bey left (rk key) (kk rk arr (base+i))=false)) ?_ ?_ ⟨rfl,lo,hi,rfl,hn,hl,by omega,h1,h2⟩
  ·rintro x c Gg _ hx ⟨rfl,lo,hi,rfl,hn,hl,hd,h1,h2⟩
   by_cases GD:lo≥hi
   ·refine hb1 x lo hi _ GD ?_
    have:lo=hi:=by omega
    subst this
    exact hR _ _ (h lo hn h1 h2)
   ·refine hb2 x lo hi _ (qM4 GD) hn ?_
    cases q:bey left (rk key) (kk rk arr (base+(lo+(hi-lo)/2))) with
    | true=>
     rw [qA1 rfl]
     exact ⟨rfl,_,_,rfl,hn,db GD,zH (qD3 _ _) hd,fun i GC=>br (hs i _ (qF0 GC) (qB0 (db GD) hn)) q,h2⟩
    | false=>
     rw [qA3 qA4]
     exact ⟨rfl,_,_,rfl,qH4 (qB0 (db GD) hn),qD3 _ _,zI (qD3 _ _) (db GD) hd,h1,fun i a b=>cD (hs _ i a b) q⟩
  ·rintro c Gg ⟨rfl,lo,hi,rfl,hn,hl,hd,h1,h2⟩
   have:lo=hi:=by omega
   subst this
   exact hR _ _ (h lo hn h1 h2)
 refine wpS_bind (bF hc hk Hc (Hq hint hh) ?_)
 dsimp only
 cases q0:bey left (rk key) (kk rk arr (base+hint)) with
 | true=>
  rw [qA1 rfl]
  refine wpS_bind (wpS_mono (wpS_forRange (fun x c Gg=>Gg=st/\∃ lo ofs,c=(none,lo,ofs)/\lo<ofs/\x<ofs/\hint+lo<n/\bey left (rk key) (kk rk arr (base+(hint+lo)))=true)
   (Q:=fun c Gg=>Gg=st/\∃ lo ofs,c=(none,lo,ofs)/\lo<ofs/\hint+lo<n/\bey left (rk key) (kk rk arr (base+(hint+lo)))=true/\(hint+ofs<n->bey left (rk key) (kk rk arr (base+(hint+ofs)))=false)) ?_ ?_ ⟨rfl,0,1,rfl,by omega,by omega,by omega,q0⟩) ?_)
  ·rintro x c Gg _ hx ⟨rfl,lo,ofs,rfl,h1,h2,h3,h4⟩
   dsimp only
   by_cases GD:ofs≥n-hint
   ·rw [qA1 GD]
    exact wpS_pure ⟨rfl,lo,ofs,rfl,h1,h3,h4,fun _=>by omega⟩
   ·rw [qA3 GD]
    refine wpS_bind (bF hc hk Hc (Hq _ (by omega)) ?_)
    dsimp only
    cases q:bey left (rk key) (kk rk arr (base+(hint+ofs))) with
    | true=>exact wpS_pure ⟨rfl,_,_,rfl,by omega,by omega,by omega,q⟩
    | false=>exact wpS_pure ⟨rfl,lo,ofs,rfl,h1,h3,h4,fun _=>q⟩
  ·rintro c Gg ⟨rfl,lo,ofs,rfl,h1,h2,h3,h4⟩
   exact ⟨rfl,lo,ofs,rfl,h1,h3,h4,fun _=>by omega⟩
  ·rintro c Gg ⟨rfl,lo,ofs,rfl,h1,h3,h4,h5⟩
   dsimp only
   refine wpS_bind (last _ _ (qA9 (qE0 (qI4 _ _) hint) (qI0 (qD2 (qH4 hh)))) (qE0 (Nat.le_min.mpr ⟨h1,Nat.lt_sub_iff_add_lt'.mpr h3⟩) hint) (fun i hi=>br (hs i (hint+lo) (qF0 hi) h3) h4) (fun i a b=>?_) ?_ ?_ fun lo hi hq=>?_)
   ·have:hint+ofs<n:=by omega
    exact cD (hs (hint+ofs) i (by omega) b) (h5 this)
   ·intro x lo hi R' GD hR
    dsimp only
    rw [qA1 GD]
    exact wpS_pure hR
   ·intro x lo hi R' GD Gx hR
    dsimp only
    rw [qA3 (qN9 GD)]
    refine wpS_bind (bF hc hk Hc (Hq _ (qB0 (db (qN9 GD)) Gx)) ?_)
    dsimp only
    cases q:bey left (rk key) (kk rk arr (base+(lo+(hi-lo)/2))) with
    | true=>rw [q,qA1 rfl] at hR; exact wpS_pure hR
    | false=>rw [q,qA3 qA4] at hR; exact wpS_pure hR
   ·exact wpS_pure hq
 | false=>
  rw [qA3 qA4]
  refine wpS_bind (wpS_mono (wpS_forRange (fun x c Gg=>Gg=st/\∃ lo ofs,c=(none,lo,ofs)/\lo<ofs/\x<ofs/\lo<=hint/\bey left (rk key) (kk rk arr (base+(hint-lo)))=false)
   (Q:=fun c Gg=>Gg=st/\∃ lo ofs,c=(none,lo,ofs)/\lo<ofs/\lo<=hint/\bey left (rk key) (kk rk arr (base+(hint-lo)))=false/\(ofs<=hint->bey left (rk key) (kk rk arr (base+(hint-ofs)))=true)) ?_ ?_ ⟨rfl,0,1,rfl,by omega,by omega,by omega,q0⟩) ?_)
  ·rintro x c Gg _ hx ⟨rfl,lo,ofs,rfl,h1,h2,h3,h4⟩
   dsimp only
   by_cases GD:ofs≥hint+1
   ·rw [qA1 GD]
    exact wpS_pure ⟨rfl,lo,ofs,rfl,h1,h3,h4,fun _=>by omega⟩
   ·rw [qA3 GD]
    refine wpS_bind (bF hc hk Hc (Hq _ (by omega)) ?_)
    dsimp only
    cases q:bey left (rk key) (kk rk arr (base+(hint-ofs))) with
    | false=>exact wpS_pure ⟨rfl,_,_,rfl,by omega,by omega,by omega,q⟩
    | true=>exact wpS_pure ⟨rfl,lo,ofs,rfl,h1,h3,h4,fun _=>q⟩
  ·rintro c Gg ⟨rfl,lo,ofs,rfl,h1,h2,h3,h4⟩
   exact ⟨rfl,lo,ofs,rfl,h1,h3,h4,fun _=>by omega⟩
  ·rintro c Gg ⟨rfl,lo,ofs,rfl,h1,h3,h4,h5⟩
   dsimp only
   refine wpS_bind (last _ _ (qH4 (qD7 (qG5 _ _) hh)) (qA9 (qM6 (Nat.le_min.mpr ⟨h1,qE8 h3⟩) (hint+1)) (qI0 (Nat.add_sub_add_right hint 1 lo))) (fun i hi=>?_) (fun i a b=>cD (hs (hint-lo) i a b) h4) ?_ ?_ fun lo hi hq=>?_)
   ·have:ofs<=hint:=Nat.le_of_not_lt fun q=>by rw [Nat.min_eq_right q,Nat.sub_self] at hi; exact absurd hi (qE7 _)
    rw [qN0 (Nat.le_succ_of_le this),Nat.succ_sub this] at hi
    exact br (hs i (hint-ofs) (qF0 hi) (qD7 (qG5 _ _) hh)) (h5 this)
   ·intro x lo hi R' GD hR
    dsimp only
    rw [qA1 GD]
    exact wpS_pure hR
   ·intro x lo hi R' GD Gx hR
    dsimp only
    rw [qA3 (qN9 GD)]
    refine wpS_bind (bF hc hk Hc (Hq _ (qB0 (db (qN9 GD)) Gx)) ?_)
    dsimp only
    cases q:bey left (rk key) (kk rk arr (base+(lo+(hi-lo)/2))) with
    | true=>rw [q,qA1 rfl] at hR; exact wpS_pure hR
    | false=>rw [q,qA3 qA4] at hR; exact wpS_pure hR
   ·exact wpS_pure hq
end
def upL (rk:Keyed->Int) (l:List Keyed):Prop:=l.Pairwise fun x y=>rk x<=rk y
structure Mg (rk:Keyed->Int) (t:List Keyed) (out ra rb:List Keyed):Prop where
 perm:(out++(ra++rb)).Perm t
 up:upL rk out
 le:∀ x∈out,∀ y∈ra++rb,rk x<=rk y
def Gd (rk:Keyed->Int) (t res:List Keyed):Prop:=res.Perm t/\upL rk res
section
variable {rk:Keyed->Int} {t out p ra rb:List Keyed}
def Mg.a (h:Mg rk t out (p++ra) rb) (hu:upL rk (p++ra)) (hl:∀ x∈p,∀ y∈rb,rk x<=rk y):Mg rk t (out++p) ra rb where
 perm:=by
  have:=h.perm
  rw [qE9] at this ⊢
  exact this
 up:=by
  rw [upL,qE5]
  exact ⟨h.up,(qE5.mp hu).1,fun x hx y hy=>h.le x hx y (by simp [hy])⟩
 le x hx y hy:=by
  rcases qD9.mp hx with q | q
  ·refine h.le x q y ?_
   rcases qD9.mp hy with r | r <;> simp [r]
  ·rcases qD9.mp hy with r | r
   ·exact (qE5.mp hu).2.2 x q y r
   ·exact hl x q y r
def Mg.swap (h:Mg rk t out ra rb):Mg rk t out rb ra where
 perm:=(List.Perm.append_left out List.perm_append_comm).trans h.perm
 up:=h.up
 le x hx y hy:=h.le x hx y (by rcases qD9.mp hy with r | r <;> simp [r])
def Mg.fin (h:Mg rk t out ra rb) (ha:upL rk ra) (hb:upL rk rb) (hl:∀ x∈ra,∀ y∈rb,rk x<=rk y):Gd rk t (out++ra++rb):=by
 rw [qE9]
 refine ⟨h.perm,?_⟩
 rw [upL,qE5]
 exact ⟨h.up,qE5.mpr ⟨ha,hb,hl⟩,h.le⟩
def Mg.finB (h:Mg rk t out ra rb) (ha:upL rk ra) (hb:upL rk rb) (hl:∀ x∈rb,∀ y∈ra,rk x<=rk y):Gd rk t (out++rb++ra):=h.swap.fin hb ha hl
end
section
variable {prog:Program} {w:World} {A:Around} {E:Value->Shared->Prop} {s:Shared} {a₀:Array Keyed} {κ:SortKind} {rk:Keyed->Int}
def oQ {α:Type} {c:Prop} [Decidable c] {X T:StateT SortSt Sem α} {Q:α->SortSt->Prop} {st:SortSt} {M:Model} (P:SortSt->Prop) (key:∀ Gg,P Gg->wpS M A E s T Q Gg) (h1:c->(∀ Gg,P Gg->wpS M A E s T Q Gg)->wpS M A E s X Q st) (h2:¬c->P st):wpS M A E s (if c then X else T) Q st:=by
 by_cases q:c
 ·rw [qA1 q]; exact h1 q key
 ·rw [qA3 q]; exact key _ (h2 q)
def oT {α:Type} {c c1:Prop} [Decidable c] [Decidable c1] {R1 T T':StateT SortSt Sem α} {Q:α->SortSt->Prop} {st:SortSt} {M:Model} (hT:¬c->T'=T) (h1:c->c1->wpS M A E s R1 Q st) (h3:(c->¬c1)->wpS M A E s T Q st):wpS M A E s (if c then (if c1 then R1 else T) else T') Q st:=by
 by_cases q:c
 ·rw [qA1 q]
  by_cases q1:c1
  ·rw [qA1 q1]; exact h1 q q1
  ·rw [qA3 q1]; exact h3 fun _=>q1
 ·rw [qA3 q,hT q]; exact h3 fun r=>absurd r q
def oS {α:Type} {c c1 c2:Prop} [Decidable c] [Decidable c1] [Decidable c2] {R1 R2 T T':StateT SortSt Sem α} {Q:α->SortSt->Prop} {st:SortSt} {M:Model} (hT:¬c->T'=T) (h1:c->c1->wpS M A E s R1 Q st) (h2:c->¬c1->c2->wpS M A E s R2 Q st) (h3:(c->¬c1/\¬c2)->wpS M A E s T Q st):wpS M A E s (if c then (if c1 then R1 else if c2 then R2 else T) else T') Q st:=by
 by_cases q:c
 ·rw [qA1 q]
  by_cases q1:c1
  ·rw [qA1 q1]; exact h1 q q1
  ·rw [qA3 q1]
   by_cases q2:c2
   ·rw [qA1 q2]; exact h2 q q1 q2
   ·rw [qA3 q2]; exact h3 fun _=>⟨q1,q2⟩
 ·rw [qA3 q,hT q]; exact h3 fun r=>absurd r q
def CO (out a:Array Keyed) (i:Nat):out++(a.extract i i).reverse=out:=by
 have:a.extract i i=#[]:=by simp; omega
 rw [this]; simp
def CN (out a:Array Keyed) (i:Nat):out++a.extract i i=out:=by
 have:a.extract i i=#[]:=by simp; omega
 rw [this]; simp
def uo:Array Keyed->Array Keyed->StateT SortSt Sem (Array Keyed):=sortPriv% PySem.Builtin.mergeLo
def uq:Array Keyed->Array Keyed->StateT SortSt Sem (Array Keyed):=sortPriv% PySem.Builtin.mergeHi
def mY {l:List Keyed} {i:Nat} {x:Keyed} (h:l[i]?=some x):l.drop i = [x]++l.drop (i+1):=by
 obtain ⟨hi,e⟩:=qA7.mp h
 rw [qI7 hi,e]; rfl
def aK (l:List Keyed) (i k:Nat):l.drop i=(l.drop i).take k++l.drop (i+k):=by rw [<- List.drop_drop,List.take_append_drop]
def E1 {l:List Keyed} (h:upL rk l) (i:Nat):upL rk (l.drop i):=List.Pairwise.sublist (List.drop_sublist i l) h
def iV {l:List Keyed} {i:Nat} {x:Keyed} (hu:upL rk l) (h:l[i]?=some x):∀ y∈l.drop i,rk x<=rk y:=fun y hy=>by
 have:=E1 hu i
 rw [mY h] at this hy
 rcases qD9.mp hy with q | q
 ·rw [qD8.mp q]; exact qF9 _
 ·exact (qE5.mp this).2.2 x (qD8.mpr rfl) y q
def W4 {l:List Keyed} {i k:Nat} {x:Keyed} (h:x∈(l.drop i).take k):∃ j,j<k/\l[i+j]?=some x:=by
 obtain ⟨j,hj⟩:=List.mem_iff_getElem?.mp h
 by_cases c:j<k
 ·rw [qH5 c,qI6] at hj
  exact ⟨j,c,hj⟩
 ·rw [List.getElem?_take_eq_none (by omega)] at hj; cases hj
def Mg.pa {t out l rb:List Keyed} {i:Nat} {x:Keyed} (m:Mg rk t out (l.drop i) rb) (hu:upL rk l) (h:l[i]?=some x) (hl:∀ y∈rb,rk x<=rk y):Mg rk t (out ++ [x]) (l.drop (i+1)) rb:=by
 have u:=E1 hu i
 rw [mY h] at m u
 exact m.a u fun z hz y hy=>by rw [qD8.mp hz]; exact hl y hy
def Mg.pb {t out l ra:List Keyed} {i:Nat} {x:Keyed} (m:Mg rk t out ra (l.drop i)) (hu:upL rk l) (h:l[i]?=some x) (hl:∀ y∈ra,rk x<=rk y):Mg rk t (out ++ [x]) ra (l.drop (i+1)):=(m.swap.pa hu h hl).swap
def Mg.ka {t out l rb:List Keyed} {i k:Nat} (m:Mg rk t out (l.drop i) rb) (hu:upL rk l) (hl:∀ x∈(l.drop i).take k,∀ y∈rb,rk x<=rk y):Mg rk t (out++(l.drop i).take k) (l.drop (i+k)) rb:=by
 have u:=E1 hu i
 have m2:Mg rk t out ((l.drop i).take k++l.drop (i+k)) rb:=by rw [<- aK]; exact m
 exact m2.a (by rw [<- aK]; exact u) hl
def Mg.kb {t out l ra:List Keyed} {i k:Nat} (m:Mg rk t out ra (l.drop i)) (hu:upL rk l) (hl:∀ x∈(l.drop i).take k,∀ y∈ra,rk x<=rk y):Mg rk t (out++(l.drop i).take k) ra (l.drop (i+k)):=(m.swap.ka hu hl).swap
def aJ (a:Array Keyed) (i k:Nat):(a.extract i (i+k)).toList=(a.toList.drop i).take k:=by
 rw [Array.toList_extract,qI8]; congr 1; omega
def aI (a:Array Keyed) (i:Nat):(a.extract i a.size).toList=a.toList.drop i:=by
 rw [Array.toList_extract,qI8,List.take_of_length_le (by simp)]
def Z3 {a:Array Keyed} {i:Nat} (h:i<a.size):∃ x,x∈a.toList/\a[i]?=some x/\a.toList[i]?=some x:=⟨a[i],by simp,by simp,by simp [h]⟩
def v6 {a:Array Keyed} {i:Nat} {x:Keyed} (h:a.toList[i]?=some x):kk rk a i=rk x:=af (by rw [<- qM1]; exact h)
def cL {a:Array Keyed} (hu:upL rk a.toList) {i j:Nat} (h:i<=j) (hj:j<a.size):kk rk a i<=kk rk a j:=by
 obtain ⟨x,hx,ex,lx⟩:=Z3 (a:=a) (i:=i) (by omega)
 obtain ⟨y,hy,ey,ly⟩:=Z3 (a:=a) (i:=j) hj
 rw [af ex,af ey]
 refine iV hu lx y (List.mem_iff_getElem?.mpr ⟨j-i,?_⟩)
 rw [qI6,show i+(j-i)=j by omega]; exact ly
def Y0 {a:Array Keyed} (hu:upL rk a.toList) {i:Nat} {x:Keyed} (hx:x∈a.toList.drop i):kk rk a i<=rk x:=by
 obtain ⟨j,hj⟩:=List.mem_iff_getElem?.mp hx
 rw [qI6] at hj
 have hl:=(qA7.mp hj).1
 rw [<- v6 (rk:=rk) hj]
 exact cL hu (by omega) (by simp at hl; omega)
structure Js (rk:Keyed->Int) (a b:Array Keyed) (out:Array Keyed) (ia ib:Nat):Prop where
 mg:Mg rk (a.toList++b.toList) out.toList (a.toList.drop ia) (b.toList.drop ib)
 ha:ia+1<a.size
 hb:ib<b.size
abbrev gS (st:SortSt) (g:Nat):SortSt:=SortSt.mk' (kindOf st) (arrOf st) (pendingOf st) g (failedOf st)
def iN {a b out:Array Keyed} {ia ib:Nat} (m:Mg rk (a.toList++b.toList) out.toList (a.toList.drop ia) (b.toList.drop ib)) (ua:upL rk a.toList) (h:ib=b.size):Gd rk (a.toList++b.toList) (out++a.extract ia a.size++b.extract ib b.size).toList:=by
 rw [qF7,qF7,aI,aI]
 have e:b.toList.drop ib = []:=qF4 (by simp; omega)
 rw [e] at m ⊢
 exact m.fin (E1 ua _) .nil fun x hx y hy=>nomatch hy
def EJ {a b out:Array Keyed} {ia ib:Nat} (m:Mg rk (a.toList++b.toList) out.toList (a.toList.drop ia) (b.toList.drop ib)) (ub:upL rk b.toList) (h:ia=a.size):Gd rk (a.toList++b.toList) (out++a.extract ia a.size++b.extract ib b.size).toList:=by
 rw [qF7,qF7,aI,aI]
 have e:a.toList.drop ia = []:=qF4 (by simp; omega)
 rw [e] at m ⊢
 exact m.fin .nil (E1 ub _) fun x hx y hy=>nomatch hx
def iM {a b out:Array Keyed} {ia ib:Nat} (m:Mg rk (a.toList++b.toList) out.toList (a.toList.drop ia) (b.toList.drop ib)) (ua:upL rk a.toList) (ub:upL rk b.toList) (hl:∀ x∈b.toList,rk x<=kk rk a (a.size-1)) (h:ia+1=a.size):Gd rk (a.toList++b.toList) (out++b.extract ib b.size++a.extract ia a.size).toList:=by
 rw [qF7,qF7,aI,aI]
 refine m.finB (E1 ua _) (E1 ub _) fun x hx y hy=>?_
 have h1:=hl x (qJ1 hx)
 have h2:=Y0 ua hy
 rw [show a.size-1=ia by omega] at h1
 omega
@[elab_as_elim] theorem oy {A1 A2 A3 A4 A5 C S:Type} {f:A1->A2->A3->A4->A5->C} {k:A1->A2->A3->A4->A5->S} {J:A1->A2->A3->A4->A5->Prop} {G:C->S->Prop} {c:C} {t:S} (h:∃ x1 x2 x3 x4 x5,c=f x1 x2 x3 x4 x5/\t=k x1 x2 x3 x4 x5/\J x1 x2 x3 x4 x5) (g:∀ x1 x2 x3 x4 x5,J x1 x2 x3 x4 x5->G (f x1 x2 x3 x4 x5) (k x1 x2 x3 x4 x5)):G c t:=by
 obtain ⟨_,_,_,_,_,rfl,rfl,j⟩:=h
 exact g _ _ _ _ _ j
@[elab_as_elim] theorem Db {A1 A2 A3 A4 A5 A6 A7 C S:Type} {f:A1->A2->A3->A4->A5->A6->A7->C} {k:A1->A2->A3->A4->A5->A6->A7->S} {J:A1->A2->A3->A4->A5->A6->A7->Prop} {G:C->S->Prop} {c:C} {t:S} (h:∃ x1 x2 x3 x4 x5 x6 x7,c=f x1 x2 x3 x4 x5 x6 x7/\t=k x1 x2 x3 x4 x5 x6 x7/\J x1 x2 x3 x4 x5 x6 x7) (g:∀ x1 x2 x3 x4 x5 x6 x7,J x1 x2 x3 x4 x5 x6 x7->G (f x1 x2 x3 x4 x5 x6 x7) (k x1 x2 x3 x4 x5 x6 x7)):G c t:=by
 obtain ⟨_,_,_,_,_,_,_,rfl,rfl,j⟩:=h
 exact g _ _ _ _ _ _ _ j
@[elab_as_elim] theorem CY {A1 A2 A3 A4 A5 R D S:Type} {f:A1->A2->A3->A4->A5->Option R×D} {J:A1->A2->A3->A4->A5->Prop} {L:R->Prop} {G:Option R×D->S->Prop} {c:Option R×D} {t t0:S} (h:t=t0/\((∃ r,c.1=some r/\L r)\/∃ x1 x2 x3 x4 x5,c=f x1 x2 x3 x4 x5/\J x1 x2 x3 x4 x5)) (g1:∀ r d,L r->G (some r,d) t0) (g2:∀ x1 x2 x3 x4 x5,J x1 x2 x3 x4 x5->G (f x1 x2 x3 x4 x5) t0):G c t:=by
 obtain ⟨c1,c2⟩:=c
 obtain ⟨rfl,⟨r,e,l⟩ | ⟨_,_,_,_,_,e,j⟩⟩:=h
 ·cases e; exact g1 _ _ l
 ·rw [e]; exact g2 _ _ _ _ _ j
@[elab_as_elim] theorem CZ {A1 A2 A3 A4 A5 A6 R D S N:Type} {k:N->S} {f:A1->A2->A3->A4->A5->A6->Option R×D} {J:A1->A2->A3->A4->A5->A6->Prop} {L:R->Prop} {G:Option R×D->S->Prop} {c:Option R×D} {t:S} (h:∃ g,t=k g/\((∃ r,c.1=some r/\L r)\/∃ x1 x2 x3 x4 x5 x6,c=f x1 x2 x3 x4 x5 x6/\J x1 x2 x3 x4 x5 x6)) (g1:∀ g r d,L r->G (some r,d) (k g)) (g2:∀ g x1 x2 x3 x4 x5 x6,J x1 x2 x3 x4 x5 x6->G (f x1 x2 x3 x4 x5 x6) (k g)):G c t:=by
 obtain ⟨c1,c2⟩:=c
 obtain ⟨g,rfl,⟨r,e,l⟩ | ⟨_,_,_,_,_,_,e,j⟩⟩:=h
 ·cases e; exact g1 _ _ _ l
 ·rw [e]; exact g2 _ _ _ _ _ _ _ j
def P8 {G:Prop} {a:Array Keyed} {i:Nat} (h:i<a.size) (g:∀ x,x∈a.toList->a[i]?=some x->a.toList[i]?=some x->G):G:=let ⟨x,h1,h2,h3⟩:=Z3 h; g x h1 h2 h3
def oR {α β:Type} {c:Prop} [Decidable c] {jp:Unit->β->StateT SortSt Sem α} {x y:β} {Q:α->SortSt->Prop} {st:SortSt} {M:Model} (h:∀ z,wpS M A E s (jp () z) Q st):wpS M A E s (if c then jp () x else jp () y) Q st:=by
 split
 ·exact h _
 ·exact h _
def K2 {α:Type} {m n:Nat} {X Y:StateT SortSt Sem α} {Q:α->SortSt->Prop} {st:SortSt} {M:Model} (h1:m=n->wpS M A E s X Q st) (h2:¬ m=n->wpS M A E s Y Q st):wpS M A E s (if (m == n)=true then X else Y) Q st:=by
 by_cases c:m=n
 ·rw [qA1 (by simpa using c)]; exact h1 c
 ·rw [qA3 (by simpa using c)]; exact h2 c
def T7 {α:Type} {c:Prop} [Decidable c] {X Y:StateT SortSt Sem α} {Q:α->SortSt->Prop} {st:SortSt} {M:Model} (h1:c->wpS M A E s X Q st) (h2:¬ c->wpS M A E s Y Q st):wpS M A E s (if decide c=true then X else Y) Q st:=by
 by_cases q:c
 ·rw [qA1 (by simpa using q)]; exact h1 q
 ·rw [qA3 (by simpa using q)]; exact h2 q
@[elab_as_elim] theorem cpsA {A1 C S:Type} {f:A1->C} {J:A1->Prop} {G:C->S->Prop} {c:C} {t t0:S} (h:t=t0/\∃ x,c=f x/\J x) (g:∀ x,J x->G (f x) t0):G c t:=by
 obtain ⟨rfl,_,rfl,j⟩:=h
 exact g _ j
@[elab_as_elim] theorem ER {A1 A2 C S:Type} {f:A1->A2->C} {J:A1->A2->Prop} {G:C->S->Prop} {c:C} {t t0:S} (h:t=t0/\∃ x y,c=f x y/\J x y) (g:∀ x y,J x y->G (f x y) t0):G c t:=by
 obtain ⟨rfl,_,_,rfl,j⟩:=h
 exact g _ _ j
@[elab_as_elim] theorem Da {A1 S:Type} {k:A1->S} {J:A1->Prop} {G:S->Prop} {t:S} (h:∃ x,t=k x/\J x) (g:∀ x,J x->G (k x)):G t:=by
 obtain ⟨_,rfl,j⟩:=h
 exact g _ j
@[elab_as_elim] theorem cpsC {A1 A2 C S:Type} {k:A1->A2->S} {f:A1->A2->C} {J:A1->A2->Prop} {G:C->S->Prop} {c:C} {t:S} (h:∃ x y,t=k x y/\c=f x y/\J x y) (g:∀ x y,J x y->G (f x y) (k x y)):G c t:=by
 obtain ⟨_,_,rfl,rfl,j⟩:=h
 exact g _ _ j
@[elab_as_elim] theorem cpsD {A1 A2 A3 C S:Type} {k:A1->A2->A3->S} {f:A1->A2->A3->C} {J:A1->A2->A3->Prop} {G:C->S->Prop} {c:C} {t:S} (h:∃ x y z,t=k x y z/\c=f x y z/\J x y z) (g:∀ x y z,J x y z->G (f x y z) (k x y z)):G c t:=by
 obtain ⟨_,_,_,rfl,rfl,j⟩:=h
 exact g _ _ _ j
@[elab_as_elim] theorem EQ {A1 C S:Type} {k:A1->S} {c0:C} {J:A1->Prop} {G:C->S->Prop} {c:C} {t:S} (h:∃ x,t=k x/\c=c0/\J x) (g:∀ x,J x->G c0 (k x)):G c t:=by
 obtain ⟨_,rfl,rfl,j⟩:=h
 exact g _ j
def np {st:SortSt} {a b:Array Keyed} {Q:Array Keyed->SortSt->Prop} (hc:Cmp prog w A s κ rk a₀) (hk:kindOf st=κ) (ha:∀ x∈a.toList,x∈a₀) (hb:∀ x∈b.toList,x∈a₀) (ua:upL rk a.toList) (ub:upL rk b.toList)
  (Lu:0<a.size) (JZ:0<b.size) (hf:∀ x∈a.toList,kk rk b 0<=rk x) (hl:∀ x∈b.toList,rk x<=kk rk a (a.size-1))
  (h:∀ res g,Gd rk (a.toList++b.toList) res.toList->Q res (gS st g)):wpS (model prog w) A E s (uo a b) Q st:=by
 refine wpS_bind (wpS_lift (wpAny_rule ⟨rfl,?_⟩))
 refine P8 JZ fun y0 hy0 LE JG=>?_
 refine wpS_bind (l9 LE ?_)
 dsimp (zeta:=false) only
 have m0:Mg rk (a.toList++b.toList) #[y0].toList (a.toList.drop 0) (b.toList.drop 1):=by
  have:Mg rk (a.toList++b.toList) [] (a.toList.drop 0) (b.toList.drop 0):=⟨by simp,.nil,fun x hx=>nomatch hx⟩
  exact this.pb ub JG fun y hy=>by rw [<- v6 (rk:=rk) JG]; exact hf y (qJ1 hy)
 refine K2 (fun c1=>wpS_pure (h _ (gallopOf st) (iN m0 ua c1))) fun c1=>?_
 by_cases c2:0+1=a.size
 ·rw [qA1 (by simpa using c2)]
  exact wpS_pure (h _ (gallopOf st) (iM m0 ua ub hl c2))
 rw [qA3 (by simpa using c2)]
 refine wpS_bind (wpS_get ?_)
 have j0:Js rk a b #[y0] 0 1:=⟨m0,by omega,by omega⟩
 refine wpS_bind (wpS_mono (wpS_forRange (fun x c Gg=>∃ out ia ib g g',c=(none,out,ia,ib,g)/\Gg=gS st g'/\Js rk a b out ia ib/\x+1<=ia+ib)
  (Q:=fun c Gg=>∃ res g,c.1=some res/\Gg=gS st g/\Gd rk (a.toList++b.toList) res.toList) ?step ?fin ⟨_,_,_,_,gallopOf st,rfl,rfl,j0,by omega⟩) ?post)
 case fin=>
  rintro c Gg ⟨out,ia,ib,g,g',rfl,rfl,j,hm⟩
  have:=j.ha
  have:=j.hb
  omega
 case post=>
  rintro ⟨c1,c2⟩ Gg ⟨res,g,e,rfl,hg⟩
  cases e
  exact wpS_pure (h res g hg)
 case step=>
  intro x c Gg _ _ hI
  refine oy (c:=c) (t:=Gg) hI fun out ia ib g g' jm=>?_
  have j:=jm.1
  have hm:=jm.2
  clear hI jm c Gg
  clear c1 c2 j0 m0
  dsimp (zeta:=false) only
  refine wpS_bind (wpS_mono (wpS_forRange (fun y c Gg=>∃ out ia ib ac bc,c=(none,out,ia,ib,ac,bc)/\Gg=gS st g'/\Js rk a b out ia ib/\x+min y 1+1<=ia+ib)
   (Q:=fun c Gg=>Gg=gS st g'/\((∃ res,c.1=some res/\Gd rk (a.toList++b.toList) res.toList)\/∃ out ia ib ac bc,c=(none,out,ia,ib,ac,bc)/\Js rk a b out ia ib/\x+2<=ia+ib)) ?istep ?ifin ⟨out,ia,ib,0,0,rfl,rfl,j,by omega⟩) ?ipost)
  case ifin=>
   rintro c Gg ⟨out,ia,ib,ac,bc,rfl,rfl,j,hm⟩
   have:=j.ha
   exact ⟨rfl,.inr ⟨_,_,_,_,_,rfl,j,by omega⟩⟩
  case istep=>
   clear j hm
   intro y c Gg _ _ hI
   refine oy (c:=c) (t:=Gg) hI fun out ia ib ac bc jm=>?_
   have j:=jm.1
   have hm:=jm.2
   clear hI jm c Gg
   dsimp only
   have IA:=j.ha
   have Io:=j.hb
   refine P8 (a:=b) (i:=ib) j.hb fun u hu eu lu=>?_
   refine P8 (a:=a) (i:=ia) (by omega) fun v hv ev lv=>?_
   refine wpS_bind (l9 eu (wpS_bind (l9 ev (wpS_bind (eR hc (hb u hu) (ha v hv) hk ?_)))))
   dsimp only
   refine T7 (fun q=>?_) fun q=>?_
   ·skip
    refine wpS_bind (l9 eu ?_)
    have m:=j.mg.pb ub lu fun z hz=>by
     have:=Y0 ua hz
     rw [v6 (rk:=rk) lv] at this
     omega
    rw [<- qJ4] at m
    refine K2 (fun c=>wpS_pure ⟨rfl,.inl ⟨_,rfl,iN m ua c⟩⟩) fun c=>?_
    ·skip
     have j2:Js rk a b (out.push u) ia (ib+1):=⟨m,IA,by omega⟩
     have JS:x+2<=ia+ib+1:=qE8 (qA9 (qE8 (qD3 x _)) hm)
     split
     ·exact wpS_pure ⟨rfl,.inr ⟨_,_,_,_,_,rfl,j2,JS⟩⟩
     ·exact wpS_pure ⟨_,_,_,_,_,rfl,rfl,j2,ms3 hm⟩
   ·skip
    refine wpS_bind (l9 ev ?_)
    have m:=j.mg.pa ua lv fun z hz=>by
     have:=Y0 ub hz
     rw [v6 (rk:=rk) lu] at this
     omega
    rw [<- qJ4] at m
    refine K2 (fun c=>wpS_pure ⟨rfl,.inl ⟨_,rfl,iM m ua ub hl c⟩⟩) fun c=>?_
    ·skip
     have j2:Js rk a b (out.push v) (ia+1) ib:=⟨m,by omega,Io⟩
     have JS:x+2<=ia+ib+1:=qE8 (qA9 (qE8 (qD3 x _)) hm)
     split
     ·exact wpS_pure ⟨rfl,.inr ⟨_,_,_,_,_,rfl,j2,qN3 ia ib 1 ▸ JS⟩⟩
     ·exact wpS_pure ⟨_,_,_,_,_,rfl,rfl,j2,qN3 ia ib 1 ▸ ms3 hm⟩
  case ipost=>
   clear j hm
   intro c Gg hI
   refine CY (c:=c) (t:=Gg) hI (fun res _ hg=>wpS_pure ⟨res,g',rfl,rfl,hg⟩) fun out ia ib ac bc jm=>?_
   have j:=jm.1
   have hm:=jm.2
   clear hI jm c Gg
   dsimp (zeta:=false) only
   refine wpS_bind (wpS_lift (wpAny_rule ⟨rfl,?_⟩))
   refine wpS_bind (wpS_mono (wpS_forRange (fun y c Gg=>∃ out ia ib mg ac bc g,c=(none,out,ia,ib,mg,ac,bc)/\Gg=gS st g/\Js rk a b out ia ib/\x+2<=ia+ib)
    (Q:=fun c Gg=>∃ g,Gg=gS st g/\((∃ res,c.1=some res/\Gd rk (a.toList++b.toList) res.toList)\/∃ out ia ib mg ac bc,c=(none,out,ia,ib,mg,ac,bc)/\Js rk a b out ia ib/\x+2<=ia+ib)) ?gstep ?gfin ⟨out,ia,ib,_,ac,bc,g',rfl,rfl,j,hm⟩) ?gpost)
   case gfin=>
    rintro c Gg ⟨out,ia,ib,mg,ac,bc,g,rfl,rfl,j,hm⟩
    exact ⟨g,rfl,.inr ⟨_,_,_,_,_,_,rfl,j,hm⟩⟩
   case gpost=>
    clear j hm
    intro c Gg hI
    refine CZ (c:=c) (t:=Gg) hI (fun g res _ hg=>wpS_pure ⟨res,g,rfl,rfl,hg⟩) fun g out ia ib mg ac bc jm=>?_
    have j:=jm.1
    have hm:=jm.2
    clear hI jm c Gg
    try dsimp (zeta:=false) only
    exact wpS_bind (wpS_modify (wpS_pure ⟨_,_,_,_,_,rfl,rfl,j,by omega⟩))
   case gstep=>
    clear j hm
    intro y c Gg _ _ hI
    refine Db (c:=c) (t:=Gg) hI fun out ia ib mg ac bc g jm=>?_
    have j:=jm.1
    have hm:=jm.2
    clear hI jm c Gg
    try dsimp (zeta:=false) only
    have IA:=j.ha
    have Io:=j.hb
    refine P8 (a:=b) (i:=ib) j.hb fun u hu eu lu=>?_
    extract_lets s0 o0 s1 i0 s2 i1 s3 m0 s4 a0 b0 ib1 jp mg1
    refine oR (jp:=jp) fun mg2=>?_
    dsimp (zeta:=false) only [jp]
    clear jp
    subst s0 o0 s1 i0 s2 i1 s3 m0 s4 a0 b0 ib1 mg1
    try dsimp (zeta:=false) only
    refine wpS_bind (wpS_modify ?_)
    refine wpS_bind (l9 eu (wpS_bind (N8 hc hk (hb u hu) (fun i hi=>?ga) (fun i j Gw hj=>cL ua (by omega) (by omega)) (by omega) fun k k1 k2 k3=>?_)))
    case ga=>
     refine P8 (a:=a) (i:=ia+i) (by omega) fun v hv ev lv=>?_
     exact ⟨v,ha v hv,ev⟩
    try dsimp (zeta:=false) only
    extract_lets acnt jp2 out1 ia1
    subst acnt out1 ia1
    have hia:ia<=ia+k/\ia+k<=a.size:=by omega
    have m1:Mg rk (a.toList++b.toList) (out++a.extract ia (ia+k)).toList (a.toList.drop (ia+k)) (b.toList.drop ib):=by
     rw [qF7,aJ]
     refine j.mg.ka ua fun z hz y hy=>?_
     obtain ⟨i,hi,li⟩:=W4 hz
     have h1:=k2 i hi
     rw [v6 (rk:=rk) li] at h1
     have h2:=Y0 ub hy
     rw [v6 (rk:=rk) lu] at h2
     simp [bey] at h1
     omega
    have b1:∀ z∈a.toList.drop (ia+k),rk u<=rk z:=fun z hz=>by
     by_cases c:ia+k<a.size
     ·have h1:=k3 k (qB1 _) (by omega)
      have h2:=Y0 ua hz
      simp [bey] at h1
      omega
     ·rw [qF4 (by simp; omega)] at hz; cases hz
    refine oS (fun q=>?e1) (fun _ c=>wpS_pure ⟨_,rfl,.inl ⟨_,rfl,iM m1 ua ub hl (by simpa using c)⟩⟩) (fun _ _ c=>wpS_pure ⟨_,rfl,.inl ⟨_,rfl,EJ m1 ub (by simpa using c)⟩⟩) fun q0=>?_
    case e1=>
     have k0:k=0:=by omega
     rw [k0,Nat.add_zero,CN]
    have q1:ia+k+1<a.size:=by
     by_cases kz:k>0
     ·have:=q0 kz
      simp at this
      omega
     ·omega
    generalize out++a.extract ia (ia+k)=out1 at m1 ⊢
    generalize ia+k=ia1 at m1 b1 hia q1 ⊢
    dsimp (zeta:=false) only [jp2]
    clear jp2
    refine wpS_bind (l9 eu ?_)
    extract_lets out3
    have m2:=m1.pb ub lu b1
    rw [<- qJ4] at m2
    refine K2 (fun c3=>wpS_pure ⟨_,rfl,.inl ⟨_,rfl,iN m2 ua c3⟩⟩) fun c3=>?_
    refine P8 (a:=a) (i:=ia1) (by omega) fun v hv ev lv=>?_
    refine wpS_bind (l9 ev (wpS_bind (N8 hc hk (ha v hv) (fun i hi=>?gb) (fun i j Gw hj=>cL ub (by omega) (by omega)) (by omega) fun l l1 l2 l3=>?_)))
    case gb=>
     refine P8 (a:=b) (i:=ib+1+i) (qK2 hi) fun v hv ev lv=>?_
     exact ⟨v,hb v hv,ev⟩
    try dsimp (zeta:=false) only
    extract_lets bcnt jp3 out4 ib4
    subst out3 bcnt out4 ib4
    have hib:ib+1<=ib+1+l/\ib+1+l<=b.size:=⟨qD3 _ _,qA9 (qE0 l1 _) (qI0 (qD2 Io))⟩
    have m3:Mg rk (a.toList++b.toList) (out1.push u++b.extract (ib+1) (ib+1+l)).toList (a.toList.drop ia1) (b.toList.drop (ib+1+l)):=by
     rw [qF7,aJ]
     refine m2.kb ub fun z hz y hy=>?_
     obtain ⟨i,hi,li⟩:=W4 hz
     have h1:=l2 i hi
     rw [v6 (rk:=rk) li] at h1
     have h2:=Y0 ua hy
     rw [v6 (rk:=rk) lv] at h2
     simp [bey] at h1
     omega
    have b2:∀ z∈b.toList.drop (ib+1+l),rk v<=rk z:=fun z hz=>by
     by_cases c:ib+1+l<b.size
     ·have h1:=l3 l (qB1 _) (Nat.lt_sub_iff_add_lt'.mpr c)
      have h2:=Y0 ub hz
      simp [bey] at h1
      omega
     ·rw [qF4 (by simp; omega)] at hz; cases hz
    refine oT (fun q=>?e2) (fun _ c=>wpS_pure ⟨_,rfl,.inl ⟨_,rfl,iN m3 ua (by simpa using c)⟩⟩) fun q0=>?_
    case e2=>
     have k0:l=0:=by omega
     rw [k0,Nat.add_zero,CN]
    have q2:ib+1+l<b.size:=by
     by_cases kz:l>0
     ·have:=q0 kz
      simp at this
      omega
     ·omega
    generalize out1.push u++b.extract (ib+1) (ib+1+l)=out2 at m3 ⊢
    generalize ib+1+l=ib2 at m3 b2 hib q2 ⊢
    dsimp (zeta:=false) only [jp3]
    clear jp3
    refine wpS_bind (l9 ev ?_)
    dsimp only
    have m4:=m3.pa ua lv b2
    rw [<- qJ4] at m4
    refine K2 (fun c4=>wpS_pure ⟨_,rfl,.inl ⟨_,rfl,iM m4 ua ub hl c4⟩⟩) fun c4=>?_
    have j4:Js rk a b (out2.push v) (ia1+1) ib2:=⟨m4,by omega,q2⟩
    split
    ·exact wpS_pure ⟨_,rfl,.inr ⟨_,_,_,_,_,_,rfl,j4,by omega⟩⟩
    ·exact wpS_pure ⟨_,_,_,_,_,_,_,rfl,rfl,j4,by omega⟩
end
section
variable {prog:Program} {w:World} {A:Around} {E:Value->Shared->Prop} {s:Shared} {a₀:Array Keyed} {κ:SortKind} {rk:Keyed->Int}
abbrev rn (rk:Keyed->Int) (x:Keyed):Int:=-rk x
abbrev rv (a:Array Keyed):List Keyed:=a.toList.reverse
def cK {l:List Keyed} (h:upL rk l):upL (rn rk) l.reverse:=by
 unfold upL at h ⊢
 rw [qM2]
 exact h.imp fun q=>by show -_ <= -_; omega
def vz {a:Array Keyed} {k:Nat} {x:Keyed} (h0:0<k) (hk:k<=a.size) (h:a.toList[k-1]?=some x):(rv a)[a.size-k]?=some x:=by
 cases k with
 | zero=>exact absurd h0 (qG9 _)
 | succ m=>
  have e:a.toList.length-1-(a.size-(m+1))=m:=by rw [qE6,show a.size-(m+1)=a.size-1-m by rw [Nat.sub_sub,Nat.add_comm],Nat.sub_sub_self (show m<=a.size-1 from qK6 hk)]
  rw [List.getElem?_reverse (by rw [qE6]; exact qI1 (qB0 h0 hk) h0),e,<- h]; rfl
def W2 {a:Array Keyed} {k:Nat}:(rv a).drop (a.size-k)=(a.toList.take k).reverse:=by
 rw [List.reverse_take]; simp
def aV {a:Array Keyed} (hu:upL rk a.toList) {k:Nat} {x:Keyed} (h0:k<=a.size) (hx:x∈(rv a).drop (a.size-k)):rk x<=kk rk a (k-1):=by
 rw [W2,List.mem_reverse] at hx
 obtain ⟨j,hj,lj⟩:=W4 (i:=0) (k:=k) (l:=a.toList) (by simpa using hx)
 rw [qN2] at lj
 rw [<- v6 (rk:=rk) lj]
 exact cL hu (by omega) (by omega)
def eY {a:Array Keyed} {i k:Nat} (h:i<=k) (hk:k<=a.size):(a.extract i k).reverse.toList=((rv a).drop (a.size-k)).take (k-i):=by
 rw [W2,Array.toList_reverse,Array.toList_extract,qI8,List.take_reverse,qI3]
 congr 1
 rw [List.drop_take]
 simp
 have:min k a.size-(k-i)=i:=by omega
 rw [this]
def Gd.rv {a b:Array Keyed} {res:List Keyed} (h:Gd (rn rk) (rv a++rv b) res.reverse):Gd rk (a.toList++b.toList) res:=by
 refine ⟨?_,?_⟩
 ·refine (qL8 res).symm.trans (h.1.trans ?_)
  exact List.Perm.append (qL8 _) (qL8 _)
 ·have:=h.2
  unfold upL at this ⊢
  rw [qM2] at this
  exact this.imp fun q=>by
   have q:-_ <= -_:=q
   omega
def kN {a b out:Array Keyed} {na nb:Nat} (h:Gd (rn rk) (rv a++rv b) (out.toList++(rv b).drop (b.size-nb)++(rv a).drop (a.size-na))):Gd rk (a.toList++b.toList) (a.extract 0 na++b.extract 0 nb++out.reverse).toList:=by
 refine Gd.rv ?_
 rw [W2,W2] at h
 have e:(a.extract 0 na++b.extract 0 nb++out.reverse).toList.reverse=out.toList++(b.toList.take nb).reverse++(a.toList.take na).reverse:=by
  simp [qI8]
 rw [e]; exact h
def fH {a b out:Array Keyed} {na nb:Nat} (m:Mg (rn rk) (rv a++rv b) out.toList ((rv a).drop (a.size-na)) ((rv b).drop (b.size-nb))) (ub:upL rk b.toList) (h:na=0):Gd rk (a.toList++b.toList) (a.extract 0 na++b.extract 0 nb++out.reverse).toList:=by
 refine kN ?_
 have e:(rv a).drop (a.size-na) = []:=qF4 (by simp; omega)
 rw [e] at m ⊢
 exact m.finB .nil (E1 (cK ub) _) fun x hx y hy=>nomatch hy
def Ch {a b out:Array Keyed} {na nb:Nat} (m:Mg (rn rk) (rv a++rv b) out.toList ((rv a).drop (a.size-na)) ((rv b).drop (b.size-nb))) (ua:upL rk a.toList) (h:nb=0):Gd rk (a.toList++b.toList) (a.extract 0 na++b.extract 0 nb++out.reverse).toList:=by
 refine kN ?_
 have e:(rv b).drop (b.size-nb) = []:=qF4 (by simp; omega)
 rw [e] at m ⊢
 exact m.finB (E1 (cK ua) _) .nil fun x hx y hy=>nomatch hx
def fG {a b out:Array Keyed} {na nb:Nat} (m:Mg (rn rk) (rv a++rv b) out.toList ((rv a).drop (a.size-na)) ((rv b).drop (b.size-nb))) (ua:upL rk a.toList) (ub:upL rk b.toList) (hf:∀ x∈a.toList,kk rk b 0<=rk x) (hn:nb<=b.size) (h:nb=1):Gd rk (a.toList++b.toList) (b.extract 0 nb++a.extract 0 na++out.reverse).toList:=by
 refine Gd.rv ?_
 have e:(b.extract 0 nb++a.extract 0 na++out.reverse).toList.reverse=out.toList++(rv a).drop (a.size-na)++(rv b).drop (b.size-nb):=by
  rw [W2,W2]
  simp [qI8]
 rw [e]
 refine m.fin (E1 (cK ua) _) (E1 (cK ub) _) fun x hx y hy=>?_
 have h1:=hf x (List.mem_reverse.mp (qJ1 hx))
 have h2:=aV ub hn hy
 rw [h] at h2
 show -_ <= -_
 have h2:rk y<=kk rk b 0:=h2
 omega
structure Jh (rk:Keyed->Int) (a b:Array Keyed) (out:Array Keyed) (na nb:Nat):Prop where
 mg:Mg (rn rk) (rv a++rv b) out.toList ((rv a).drop (a.size-na)) ((rv b).drop (b.size-nb))
 ha:0<na
 hb:1<nb
 la:na<=a.size
 lb:nb<=b.size
def nq {st:SortSt} {a b:Array Keyed} {Q:Array Keyed->SortSt->Prop} (hc:Cmp prog w A s κ rk a₀) (hk:kindOf st=κ) (ha:∀ x∈a.toList,x∈a₀) (hb:∀ x∈b.toList,x∈a₀) (ua:upL rk a.toList) (ub:upL rk b.toList)
  (Lu:0<a.size) (JZ:0<b.size) (hf:∀ x∈a.toList,kk rk b 0<=rk x) (hl:∀ x∈b.toList,rk x<=kk rk a (a.size-1))
  (h:∀ res g,Gd rk (a.toList++b.toList) res.toList->Q res (gS st g)):wpS (model prog w) A E s (uq a b) Q st:=by
 have uA:=cK ua
 have uB:=cK ub
 refine wpS_bind (wpS_lift (wpAny_rule ⟨rfl,?_⟩))
 refine P8 (a:=a) (i:=a.size-1) (by omega) fun y0 hy0 LE JG=>?_
 refine wpS_bind (l9 LE ?_)
 dsimp (zeta:=false) only
 have Hk:∀ {out:Array Keyed} {na nb:Nat} {x:Keyed},Mg (rn rk) (rv a++rv b) out.toList ((rv a).drop (a.size-na)) ((rv b).drop (b.size-nb))->0<na->na<=a.size->nb<=b.size->a.toList[na-1]?=some x->(∀ y∈(rv b).drop (b.size-nb),rk y<=rk x) ->
   Mg (rn rk) (rv a++rv b) (out.push x).toList ((rv a).drop (a.size-(na-1))) ((rv b).drop (b.size-nb)):=fun {out na nb x} m h1 h2 h3 lx hle=>by
  have:=m.pa uA (vz h1 h2 lx) fun y hy=>by show -_ <= -_; have:=hle y hy; omega
  rw [qJ4,sb1 h1 h2]
  exact this
 have HQ:∀ {out:Array Keyed} {na nb:Nat} {x:Keyed},Mg (rn rk) (rv a++rv b) out.toList ((rv a).drop (a.size-na)) ((rv b).drop (b.size-nb))->0<nb->nb<=b.size->b.toList[nb-1]?=some x->(∀ y∈(rv a).drop (a.size-na),rk y<=rk x) ->
   Mg (rn rk) (rv a++rv b) (out.push x).toList ((rv a).drop (a.size-na)) ((rv b).drop (b.size-(nb-1))):=fun {out na nb x} m h1 h2 lx hle=>by
  have:=m.pb uB (vz h1 h2 lx) fun y hy=>by show -_ <= -_; have:=hle y hy; omega
  rw [qJ4,sb1 h1 h2]
  exact this
 have m0:Mg (rn rk) (rv a++rv b) #[y0].toList ((rv a).drop (a.size-(a.size-1))) ((rv b).drop (b.size-b.size)):=by
  have m:Mg (rn rk) (rv a++rv b) (#[]:Array Keyed).toList ((rv a).drop (a.size-a.size)) ((rv b).drop (b.size-b.size)):=⟨by simp,.nil,fun x hx=>nomatch hx⟩
  exact Hk m Lu (qB1 _) (qB1 _) JG fun y hy=>by
   rw [<- v6 (rk:=rk) JG]; exact hl y (List.mem_reverse.mp (qJ1 hy))
 refine K2 (fun c1=>wpS_pure (h _ (gallopOf st) (fH m0 ub c1))) fun c1=>?_
 by_cases c2:b.size=1
 ·rw [qA1 (by simpa using c2)]
  exact wpS_pure (h _ (gallopOf st) (fG m0 ua ub hf (qB1 _) c2))
 rw [qA3 (by simpa using c2)]
 refine wpS_bind (wpS_get ?_)
 have j0:Jh rk a b #[y0] (a.size-1) b.size:=⟨m0,by omega,by omega,by omega,by omega⟩
 refine wpS_bind (wpS_mono (wpS_forRange (fun x c Gg=>∃ out na nb g g',c=(none,na,nb,out,g)/\Gg=gS st g'/\Jh rk a b out na nb/\na+nb+x<=a.size+b.size)
  (Q:=fun c Gg=>∃ res g,c.1=some res/\Gg=gS st g/\Gd rk (a.toList++b.toList) res.toList) ?step ?fin ⟨_,_,_,_,gallopOf st,rfl,rfl,j0,by omega⟩) ?post)
 case fin=>
  rintro c Gg ⟨out,na,nb,g,g',rfl,rfl,j,hm⟩
  have:=j.ha
  omega
 case post=>
  rintro ⟨c1,c2⟩ Gg ⟨res,g,e,rfl,hg⟩
  cases e
  exact wpS_pure (h res g hg)
 case step=>
  intro x c Gg _ _ hI
  refine oy (c:=c) (t:=Gg) hI fun out na nb g g' jm=>?_
  have j:=jm.1
  have hm:=jm.2
  clear hI jm c Gg
  clear c1 c2 j0 m0
  dsimp (zeta:=false) only
  refine wpS_bind (wpS_mono (wpS_forRange (fun y c Gg=>∃ out na nb ac bc,c=(none,na,nb,out,ac,bc)/\Gg=gS st g'/\Jh rk a b out na nb/\na+nb+x+min y 1<=a.size+b.size)
   (Q:=fun c Gg=>Gg=gS st g'/\((∃ res,c.1=some res/\Gd rk (a.toList++b.toList) res.toList)\/∃ out na nb ac bc,c=(none,na,nb,out,ac,bc)/\Jh rk a b out na nb/\na+nb+x+1<=a.size+b.size)) ?istep ?ifin ⟨out,na,nb,0,0,rfl,rfl,j,by omega⟩) ?ipost)
  case ifin=>
   rintro c Gg ⟨out,na,nb,ac,bc,rfl,rfl,j,hm⟩
   have:=j.ha
   exact ⟨rfl,.inr ⟨_,_,_,_,_,rfl,j,by omega⟩⟩
  case istep=>
   clear j hm
   intro y c Gg _ _ hI
   refine oy (c:=c) (t:=Gg) hI fun out na nb ac bc jm=>?_
   have j:=jm.1
   have hm:=jm.2
   clear hI jm c Gg
   dsimp only
   have IA:=j.ha
   have Io:=j.hb
   have HK:=j.la
   have HA:=j.lb
   refine P8 (a:=b) (i:=nb-1) (by omega) fun u hu eu lu=>?_
   refine P8 (a:=a) (i:=na-1) (by omega) fun v hv ev lv=>?_
   refine wpS_bind (l9 eu (wpS_bind (l9 ev (wpS_bind (eR hc (hb u hu) (ha v hv) hk ?_)))))
   dsimp only
   refine T7 (fun q=>?_) fun q=>?_
   ·skip
    refine wpS_bind (l9 ev ?_)
    have m:=Hk j.mg IA HK HA lv fun z hz=>by
     have:=aV ub HA hz
     rw [v6 (rk:=rk) lu] at this
     omega
    refine K2 (fun c=>wpS_pure ⟨rfl,.inl ⟨_,rfl,fH m ub c⟩⟩) fun c=>?_
    ·skip
     have j2:Jh rk a b (out.push v) (na-1) nb:=⟨m,by omega,Io,qA9 (qG5 _ _) HK,HA⟩
     split
     ·exact wpS_pure ⟨rfl,.inr ⟨_,_,_,_,_,rfl,j2,uk hm IA⟩⟩
     ·exact wpS_pure ⟨_,_,_,_,_,rfl,rfl,j2,ms1 hm IA⟩
   ·skip
    refine wpS_bind (l9 eu ?_)
    have m:=HQ j.mg (by omega) HA lu fun z hz=>by
     have:=aV ua HK hz
     rw [v6 (rk:=rk) lv] at this
     omega
    refine K2 (fun c=>wpS_pure ⟨rfl,.inl ⟨_,rfl,fG m ua ub hf (by omega) c⟩⟩) fun c=>?_
    ·skip
     have j2:Jh rk a b (out.push u) na (nb-1):=⟨m,IA,by omega,HK,qA9 (qG5 _ _) HA⟩
     split
     ·exact wpS_pure ⟨rfl,.inr ⟨_,_,_,_,_,rfl,j2,Bl hm (qK5 Io)⟩⟩
     ·exact wpS_pure ⟨_,_,_,_,_,rfl,rfl,j2,ms2 hm (qK5 Io)⟩
  case ipost=>
   clear j hm
   intro c Gg hI
   refine CY (c:=c) (t:=Gg) hI (fun res _ hg=>wpS_pure ⟨res,g',rfl,rfl,hg⟩) fun out na nb ac bc jm=>?_
   have j:=jm.1
   have hm:=jm.2
   clear hI jm c Gg
   dsimp (zeta:=false) only
   refine wpS_bind (wpS_lift (wpAny_rule ⟨rfl,?_⟩))
   refine wpS_bind (wpS_mono (wpS_forRange (fun y c Gg=>∃ out na nb mg ac bc g,c=(none,na,nb,out,mg,ac,bc)/\Gg=gS st g/\Jh rk a b out na nb/\na+nb+x+1<=a.size+b.size)
    (Q:=fun c Gg=>∃ g,Gg=gS st g/\((∃ res,c.1=some res/\Gd rk (a.toList++b.toList) res.toList)\/∃ out na nb mg ac bc,c=(none,na,nb,out,mg,ac,bc)/\Jh rk a b out na nb/\na+nb+x+1<=a.size+b.size)) ?gstep ?gfin ⟨out,na,nb,_,ac,bc,g',rfl,rfl,j,hm⟩) ?gpost)
   case gfin=>
    rintro c Gg ⟨out,na,nb,mg,ac,bc,g,rfl,rfl,j,hm⟩
    exact ⟨g,rfl,.inr ⟨_,_,_,_,_,_,rfl,j,hm⟩⟩
   case gpost=>
    clear j hm
    intro c Gg hI
    refine CZ (c:=c) (t:=Gg) hI (fun g res _ hg=>wpS_pure ⟨res,g,rfl,rfl,hg⟩) fun g out na nb mg ac bc jm=>?_
    have j:=jm.1
    have hm:=jm.2
    clear hI jm c Gg
    try dsimp (zeta:=false) only
    exact wpS_bind (wpS_modify (wpS_pure ⟨_,_,_,_,_,rfl,rfl,j,by omega⟩))
   case gstep=>
    clear j hm
    intro y c Gg _ _ hI
    refine Db (c:=c) (t:=Gg) hI fun out na nb mg ac bc g jm=>?_
    have j:=jm.1
    have hm:=jm.2
    clear hI jm c Gg
    try dsimp (zeta:=false) only
    have IA:=j.ha
    have Io:=j.hb
    have HK:=j.la
    have HA:=j.lb
    refine P8 (a:=b) (i:=nb-1) (by omega) fun u hu eu lu=>?_
    extract_lets s0 o0 s1 i0 s2 i1 s3 m0 s4 a0 b0 ib1 jp mg1
    refine oR (jp:=jp) fun mg2=>?_
    dsimp (zeta:=false) only [jp]
    clear jp
    subst s0 o0 s1 i0 s2 i1 s3 m0 s4 a0 b0 ib1 mg1
    try dsimp (zeta:=false) only
    refine wpS_bind (wpS_modify ?_)
    refine wpS_bind (l9 eu (wpS_bind (N8 hc hk (hb u hu) (fun i hi=>?ga) (fun i j Gw hj=>cL ua (by omega) (by omega)) (by omega) fun k k1 k2 k3=>?_)))
    case ga=>
     refine P8 (a:=a) (i:=0+i) (by omega) fun v hv ev lv=>?_
     exact ⟨v,ha v hv,ev⟩
    try dsimp (zeta:=false) only
    simp only [qN2] at k2 k3
    extract_lets kc acnt jp2 out1 na1
    subst kc acnt out1 na1
    have m1:Mg (rn rk) (rv a++rv b) (out++(a.extract k na).reverse).toList ((rv a).drop (a.size-k)) ((rv b).drop (b.size-nb)):=by
     rw [qF7,eY k1 HK]
     have:a.size-k=a.size-na+(na-k):=sb2 HK k1
     rw [this]
     refine j.mg.ka uA fun z hz y hy=>?_
     rw [<- eY k1 HK] at hz
     have hz:z∈(a.extract k na).toList:=by simpa using hz
     rw [show na=k+(na-k) from (qD2 k1).symm,aJ] at hz
     obtain ⟨i,hi,li⟩:=W4 hz
     have h1:=k3 (k+i) (qD3 _ _) (qK2 hi)
     rw [v6 (rk:=rk) li] at h1
     have h2:=aV ub HA hy
     rw [v6 (rk:=rk) lu] at h2
     simp [bey] at h1
     show -_ <= -_
     omega
    have b1:∀ z∈(rv a).drop (a.size-k),rk z<=rk u:=fun z hz=>by
     by_cases c:0<k
     ·have h1:=k2 (k-1) (qI1 c (by decide))
      have h2:=aV ua (qA9 k1 HK) hz
      simp [bey] at h1
      omega
     ·rw [qF4 (by simp; omega)] at hz; cases hz
    refine oT (fun q=>?e1) (fun _ c=>wpS_pure ⟨_,rfl,.inl ⟨_,rfl,fH m1 ub (by simpa using c)⟩⟩) fun q0=>?_
    case e1=>
     have k0:k=na:=qK1 k1 (Nat.le_of_sub_eq_zero (Nat.eq_zero_of_not_pos q))
     rw [k0,CO]
    have q1:0<k:=by
     by_cases kz:na-k>0
     ·have:=q0 kz
      simp at this
      omega
     ·omega
    generalize out++(a.extract k na).reverse=out1 at m1 ⊢
    dsimp (zeta:=false) only [jp2]
    clear jp2
    refine wpS_bind (l9 eu ?_)
    extract_lets out3
    have m2:=HQ m1 (qK5 Io) HA lu b1
    refine K2 (fun c3=>wpS_pure ⟨_,rfl,.inl ⟨_,rfl,fG m2 ua ub hf (by omega) c3⟩⟩) fun c3=>?_
    refine P8 (a:=a) (i:=k-1) (qD7 (Nat.sub_le_sub_right (qA9 k1 HK) 1) (qI1 Lu (by decide))) fun v hv ev lv=>?_
    refine wpS_bind (l9 ev (wpS_bind (N8 hc hk (ha v hv) (fun i hi=>?gb) (fun i j Gw hj=>cL ub (by omega) (by omega)) (by omega) fun l l1 l2 l3=>?_)))
    case gb=>
     refine P8 (a:=b) (i:=0+i) (by omega) fun v hv ev lv=>?_
     exact ⟨v,hb v hv,ev⟩
    try dsimp (zeta:=false) only
    simp only [qN2] at l2 l3
    extract_lets lc bcnt jp3 out4 nb4
    subst out3 lc bcnt out4 nb4
    have m3:Mg (rn rk) (rv a++rv b) (out1.push u++(b.extract l (nb-1)).reverse).toList ((rv a).drop (a.size-k)) ((rv b).drop (b.size-l)):=by
     rw [qF7,eY l1 (qA9 (qG5 _ _) HA)]
     have:b.size-l=b.size-(nb-1)+(nb-1-l):=sb2 (qA9 (qG5 _ _) HA) l1
     rw [this]
     refine m2.kb uB fun z hz y hy=>?_
     rw [<- eY l1 (qA9 (qG5 _ _) HA)] at hz
     have hz:z∈(b.extract l (nb-1)).toList:=by simpa using hz
     rw [show nb-1=l+(nb-1-l) from (qD2 l1).symm,aJ] at hz
     obtain ⟨i,hi,li⟩:=W4 hz
     have h1:=l3 (l+i) (qD3 _ _) (qK2 hi)
     rw [v6 (rk:=rk) li] at h1
     have h2:=aV ua (qA9 k1 HK) hy
     rw [v6 (rk:=rk) lv] at h2
     simp [bey] at h1
     show -_ <= -_
     omega
    have b2:∀ z∈(rv b).drop (b.size-l),rk z<=rk v:=fun z hz=>by
     by_cases c:0<l
     ·have h1:=l2 (l-1) (qI1 c (by decide))
      have h2:=aV ub (qA9 l1 (qA9 (qG5 _ _) HA)) hz
      simp [bey] at h1
      omega
     ·rw [qF4 (by simp; omega)] at hz; cases hz
    refine oS (fun q=>?e2) (fun _ c=>wpS_pure ⟨_,rfl,.inl ⟨_,rfl,fG m3 ua ub hf (by omega) (by simpa using c)⟩⟩) (fun _ _ c=>wpS_pure ⟨_,rfl,.inl ⟨_,rfl,Ch m3 ua (by simpa using c)⟩⟩) fun q0=>?_
    case e2=>
     have k0:l=nb-1:=qK1 l1 (Nat.le_of_sub_eq_zero (Nat.eq_zero_of_not_pos q))
     rw [k0,CO]
    have q2:1<l:=by
     by_cases kz:nb-1-l>0
     ·have:=q0 kz
      simp at this
      omega
     ·omega
    generalize out1.push u++(b.extract l (nb-1)).reverse=out2 at m3 ⊢
    dsimp only [jp3]
    clear jp3
    refine wpS_bind (l9 ev ?_)
    try dsimp only
    have hkA:=qA9 k1 HK
    have hlB:=qA9 l1 (qA9 (qG5 _ _) HA)
    have m4:=Hk m3 q1 hkA hlB lv b2
    refine K2 (fun c4=>wpS_pure ⟨_,rfl,.inl ⟨_,rfl,fH m4 ub c4⟩⟩) fun c4=>?_
    have j4:Jh rk a b (out2.push v) (k-1) l:=⟨m4,by omega,q2,qA9 (qG5 _ _) hkA,hlB⟩
    have hm4:k-1+l+x+1<=a.size+b.size:=qA9 (qE8 (Nat.add_le_add_right (Nat.add_le_add (qA9 (qG5 _ _) k1) (qA9 l1 (qG5 _ _))) x)) hm
    split
    ·exact wpS_pure ⟨_,rfl,.inr ⟨_,_,_,_,_,_,rfl,j4,hm4⟩⟩
    ·exact wpS_pure ⟨_,_,_,_,_,_,_,rfl,rfl,j4,hm4⟩
end
section
variable {prog:Program} {w:World} {A:Around} {E:Value->Shared->Prop} {s:Shared} {a₀:Array Keyed} {κ:SortKind} {rk:Keyed->Int}
def lV (sa:Nat):∀ (ms:List Keyed) (j:Nat) (arr:Array Keyed),sa+j+ms.length<=arr.size->((ms.zipIdx j).foldl (fun a x=>a.setIfInBounds (sa+x.2) x.1) arr).toList=arr.toList.take (sa+j)++ms++arr.toList.drop (sa+j+ms.length)
 | [],j,arr,_=>by simp
 | m::ms,j,arr,h=>by
  rw [List.zipIdx_cons,List.foldl_cons]
  rw [qC2] at h
  have hj:sa+j<arr.toList.length:=by simp; omega
  rw [lV sa ms (j+1) _ (by simp; omega),Array.toList_setIfInBounds]
  have e1:(arr.toList.set (sa+j) m).take (sa+(j+1))=arr.toList.take (sa+j) ++ [m]:=by
   rw [<- qI2,List.take_succ,List.take_set_of_le (qB1 _),qE4 hj]; rfl
  rw [e1,List.drop_set_of_lt (by omega),qC2,show sa+(j+1)+ms.length=sa+j+(ms.length+1) by omega]
  simp
abbrev rn_ (L:List Keyed) (i n:Nat):List Keyed:=(L.drop i).take n
def CW {L:List Keyed} {i n m:Nat}:L=L.take i++(rn_ L i n++rn_ L (i+n) m)++L.drop (i+n+m):=by
 have e1:L.drop i=rn_ L i n++L.drop (i+n):=aK L i n
 have e2:L.drop (i+n)=rn_ L (i+n) m++L.drop (i+n+m):=aK L (i+n) m
 rw [qE9,qE9,<- e2,<- e1,List.take_append_drop]
def cQ {L:List Keyed} {i n j:Nat} (h:j<n):(rn_ L i n)[j]?=L[i+j]?:=by
 rw [qH5 h,qI6]
def vA {a:Array Keyed} {i n:Nat} (hu:upL rk (rn_ a.toList i n)) (hn:i+n<=a.size):∀ u v,u<=v->v<n->kk rk a (i+u)<=kk rk a (i+v):=fun u v huv hv=>by
 have h1:u<(rn_ a.toList i n).length:=by simp; omega
 obtain ⟨x,hx,ex,lx⟩:=Z3 (a:=a) (i:=i+u) (by omega)
 obtain ⟨y,hy,ey,ly⟩:=Z3 (a:=a) (i:=i+v) (by omega)
 rw [af ex,af ey]
 refine iV hu (i:=u) (by rw [cQ (by omega)]; exact lx) y (List.mem_iff_getElem?.mpr ⟨v-u,?_⟩)
 rw [qI6,show u+(v-u)=v by omega,cQ hv]; exact ly
def jz (L:List Keyed) (i n k:Nat) (h:k<=n):rn_ L i n=rn_ L i k++rn_ L (i+k) (n-k):=by
 unfold rn_
 rw [show n=k+(n-k) from (qD2 h).symm,List.take_add,List.drop_drop,Nat.add_sub_cancel_left]
def we {σ:Type} {M:Model} {x:σ} {Q:PUnit->σ->Prop} {st:σ} (h:Q ⟨⟩ x):wpS M A E s (set x:StateT σ Sem PUnit) Q st:=by
 unfold wpS; rw [StateT.run_set]; exact wpAny_pure ⟨rfl,h⟩
abbrev sS (κ:SortKind) (arr:Array Keyed) (pd:Array (Nat×Nat×Nat)) (g:Nat):SortSt:=SortSt.mk' κ arr pd g none
def nr {arr:Array Keyed} {pd:Array (Nat×Nat×Nat)} {g0 i sa na pw sb nb pw2:Nat} {Q:Bool->SortSt->Prop} (hc:Cmp prog w A s κ rk a₀) (Gx:∀ x∈arr.toList,x∈a₀) (e1:pd[i]?=some (sa,na,pw)) (e2:pd[i+1]?=some (sb,nb,pw2))
  (Jo:sb=sa+na) (hz:sb+nb<=arr.size) (Kq:0<na) (nb0:0<nb) (ux:upL rk (rn_ arr.toList sa na)) (uy:upL rk (rn_ arr.toList sb nb))
  (h:∀ M g,Gd rk (rn_ arr.toList sa na++rn_ arr.toList sb nb) M->Q true (sS κ (arr.toList.take sa++M++arr.toList.drop (sb+nb)).toArray ((pd.setIfInBounds i (sa,na+nb,pw)).eraseIdxIfInBounds (i+1)) g)) :
  wpS (model prog w) A E s (mergeAt' i) Q (sS κ arr pd g0):=by
 refine wpS_bind (wpS_get ?_)
 dsimp only
 rw [e1,e2]
 dsimp only
 refine wpS_bind (we ?_)
 obtain ⟨u,hu,eu,lu⟩:=Z3 (a:=arr) (i:=sb) (by omega)
 have kx:=vA ux (by omega)
 have ky:=vA uy (by omega)
 have Kh:∀ g,upL rk (rn_ arr.toList sa na++rn_ arr.toList sb nb)->Q true (sS κ arr ((pd.setIfInBounds i (sa,na+nb,pw)).eraseIdxIfInBounds (i+1)) g):=fun g hu=>by
  have:=h _ g ⟨List.Perm.refl _,hu⟩
  have e:=CW (L:=arr.toList) (i:=sa) (n:=na) (m:=nb)
  rw [<- Jo] at e
  rw [<- e] at this
  exact this
 have mx:∀ {x:Keyed} {i n:Nat},x∈rn_ arr.toList i n->∃ j,j<n/\arr.toList[i+j]?=some x:=fun h=>W4 h
 have GU:∀ {p q:List Keyed},upL rk p->upL rk q->(∀ x∈p,∀ y∈q,rk x<=rk y)->upL rk (p++q):=fun a b c=>qE5.mpr ⟨a,b,c⟩
 refine wpS_bind (l9 eu (wpS_bind (N8 hc rfl (Gx u hu) (fun i hi=>?ga) kx Kq fun k k1 k2 k3=>?_)))
 case ga=>
  obtain ⟨v,hv,ev,lv⟩:=Z3 (a:=arr) (i:=sa+i) (by omega)
  exact ⟨v,Gx v hv,ev⟩
 dsimp only
 have Hi:∀ y∈rn_ arr.toList sb nb,rk u<=rk y:=fun y hy=>by
  obtain ⟨j,hj,lj⟩:=mx hy
  have:=ky 0 j (by omega) hj
  rw [Nat.add_zero,v6 (rk:=rk) lu,v6 (rk:=rk) lj] at this
  exact this
 by_cases c1:na-k=0
 ·rw [qA1 (by simpa using c1)]
  refine wpS_pure (Kh _ (GU ux uy fun x hx y hy=>?_))
  obtain ⟨j,hj,lj⟩:=mx hx
  have h1:=k2 j (by omega)
  rw [v6 (rk:=rk) lj] at h1
  have h2:=Hi y hy
  simp [bey] at h1
  omega
 rw [qA3 (by simpa using c1)]
 rw [show sa+k+(na-k)-1=sa+na-1 by rw [qI2,qD2 k1]]
 obtain ⟨v,hv,ev,lv⟩:=Z3 (a:=arr) (i:=sa+na-1) (qB0 (qI1 (qB0 Kq (Nat.le_add_left _ _)) (by decide)) (qA9 (qI0 Jo.symm) (qA9 (qD3 _ _) hz)))
 refine wpS_bind (l9 ev (wpS_bind (N8 hc rfl (Gx v hv) (fun i hi=>?gb) ky (by omega) fun l l1 l2 l3=>?_)))
 case gb=>
  obtain ⟨v,hv,ev,lv⟩:=Z3 (a:=arr) (i:=sb+i) (by omega)
  exact ⟨v,Gx v hv,ev⟩
 dsimp only
 have xlast:∀ x∈rn_ arr.toList sa na,rk x<=rk v:=fun x hx=>by
  obtain ⟨j,hj,lj⟩:=mx hx
  have:=kx j (na-1) (qK6 hj) (qI1 Kq (by decide))
  rw [sb5 Kq,v6 (rk:=rk) lv,v6 (rk:=rk) lj] at this
  exact this
 by_cases c2:l=0
 ·rw [qA1 (by simpa using c2)]
  refine wpS_pure (Kh _ (GU ux uy fun x hx y hy=>?_))
  obtain ⟨j,hj,lj⟩:=mx hy
  have h1:=l3 j (by omega) (by omega)
  rw [v6 (rk:=rk) lj] at h1
  have h2:=xlast x hx
  simp [bey] at h1
  omega
 rw [qA3 (by simpa using c2)]
 have sx:=jz arr.toList sa na k k1
 have sy:=jz arr.toList sb nb l l1
 have ex:(arr.extract (sa+k) sb).toList=rn_ arr.toList (sa+k) (na-k):=by
  rw [show sb=sa+k+(na-k) by rw [qI2,qD2 k1]; exact Jo,aJ]
 have ey:(arr.extract sb (sb+l)).toList=rn_ arr.toList sb l:=aJ _ _ _
 have zx:(arr.extract (sa+k) sb).size=na-k:=by rw [Array.size_extract,qN0 (qA9 (qD3 _ _) hz),Jo,Nat.add_sub_add_left]
 have zy:(arr.extract sb (sb+l)).size=l:=by rw [Array.size_extract,qN0 (qA9 (qE0 l1 sb) hz),Nat.add_sub_cancel_left]
 rw [sx] at ux xlast
 rw [sy] at uy Hi
 have Kj:=(qE5.mp ux)
 have Ki:=(qE5.mp uy)
 have k0x:kk rk (arr.extract (sa+k) sb) ((arr.extract (sa+k) sb).size-1)=rk v:=by
  refine v6 ?_
  rw [ex,zx,cQ (qI1 (Nat.pos_of_ne_zero c1) (by decide)),sb5 (Nat.pos_of_ne_zero c1),qI2,qD2 k1]; exact lv
 have k0y:kk rk (arr.extract sb (sb+l)) 0=rk u:=by
  refine v6 ?_
  rw [ey,cQ (Nat.pos_of_ne_zero c2)]; exact lu
 have p1:∀ x∈(arr.extract (sa+k) sb).toList,kk rk (arr.extract sb (sb+l)) 0<=rk x:=fun x hx=>by
  rw [k0y]
  rw [ex] at hx
  obtain ⟨j,hj,lj⟩:=mx hx
  have h1:=k3 (k+j) (by omega) (by omega)
  rw [<- qI2,v6 (rk:=rk) lj] at h1
  simp [bey] at h1
  omega
 have p2:∀ x∈(arr.extract sb (sb+l)).toList,rk x<=kk rk (arr.extract (sa+k) sb) ((arr.extract (sa+k) sb).size-1):=fun x hx=>by
  rw [k0x]
  rw [ey] at hx
  obtain ⟨j,hj,lj⟩:=mx hx
  have h1:=l2 j hj
  rw [v6 (rk:=rk) lj] at h1
  simp [bey] at h1
  omega
 have i1:∀ x∈(arr.extract (sa+k) sb).toList,x∈a₀:=fun x hx=>by
  rw [ex] at hx; exact Gx x (qJ1 (List.mem_of_mem_take hx))
 have i2:∀ x∈(arr.extract sb (sb+l)).toList,x∈a₀:=fun x hx=>by
  rw [ey] at hx; exact Gx x (qJ1 (List.mem_of_mem_take hx))
 have fin:∀ (res:Array Keyed) (g:Nat),Gd rk ((arr.extract (sa+k) sb).toList++(arr.extract sb (sb+l)).toList) res.toList->Q true (sS κ (res.toList.zipIdx.foldl (fun a x=>a.setIfInBounds (sa+k+x.2) x.1) arr) ((pd.setIfInBounds i (sa,na+nb,pw)).eraseIdxIfInBounds (i+1)) g):=fun res g hg=>by
  have hlen:res.toList.length=(na-k)+l:=by
   rw [hg.1.length_eq,qC5,qE6,qE6,zx,zy]
  have e:=lV (sa+k) res.toList 0 arr (by omega)
  rw [hlen,Nat.add_zero] at e
  have e':res.toList.zipIdx.foldl (fun a x=>a.setIfInBounds (sa+k+x.2) x.1) arr=(arr.toList.take sa++(rn_ arr.toList sa k++res.toList++rn_ arr.toList (sb+l) (nb-l))++arr.toList.drop (sb+nb)).toArray:=by
   apply qN8.mp
   rw [e]
   have t1:arr.toList.take (sa+k)=arr.toList.take sa++rn_ arr.toList sa k:=List.take_add
   have t2:arr.toList.drop (sb+l)=rn_ arr.toList (sb+l) (nb-l)++arr.toList.drop (sb+l+(nb-l)):=aK _ _ _
   rw [t1,show sa+k+(na-k+l)=sb+l by rw [<- qI2,qI2 sa,qD2 k1,Jo],t2,show sb+l+(nb-l)=sb+nb by rw [qI2,qD2 l1]]
   simp
  rw [e']
  refine h _ g ⟨?_,?_⟩
  ·rw [sx,sy]
   have:=hg.1
   rw [ex,ey] at this
   rw [qE9,qE9 (rn_ arr.toList sa k)]
   refine List.Perm.append_left _ ?_
   rw [<- qE9]
   exact List.Perm.append_right _ this
  ·have hm:∀ x∈res.toList,x∈rn_ arr.toList (sa+k) (na-k)\/x∈rn_ arr.toList sb l:=fun x hx=>by
    have:=hg.1.mem_iff.mp hx
    rw [ex,ey] at this
    exact qD9.mp this
   refine GU (GU Kj.1 hg.2 fun x hx y hy=>?_) Ki.2.1 fun x hx y hy=>?_
   ·rcases hm y hy with q | q
    ·exact Kj.2.2 x hx y q
    ·obtain ⟨j,hj,lj⟩:=mx hx
     have h1:=k2 j hj
     rw [v6 (rk:=rk) lj] at h1
     have h2:=Hi y (qF3 _ q)
     simp [bey] at h1
     omega
   ·have Ku:∀ z,z∈rn_ arr.toList sa k++rn_ arr.toList (sa+k) (na-k)->rk z<=rk y:=fun z hz=>by
     obtain ⟨j,hj,lj⟩:=mx hy
     have h1:=l3 (l+j) (qD3 _ _) (qK2 hj)
     rw [<- qI2,v6 (rk:=rk) lj] at h1
     have h2:=xlast z hz
     simp [bey] at h1
     omega
    rcases qD9.mp hx with q | q
    ·exact Ku x (qF3 _ q)
    ·rcases hm x q with r | r
     ·exact Ku x (qC4 _ r)
     ·exact Ki.2.2 x r y hy
 by_cases c3:na-k<=l
 ·rw [qA1 c3]
  refine wpS_bind (np hc rfl i1 i2 (by rw [ex]; exact Kj.2.1) (by rw [ey]; exact Ki.1) (by omega) (by omega) p1 p2 fun res g hg=>?_)
  refine wpS_bind (wpS_modify (wpS_bind (wpS_get (wpS_pure (fin res g hg)))))
 ·rw [qA3 c3]
  refine wpS_bind (nq hc rfl i1 i2 (by rw [ex]; exact Kj.2.1) (by rw [ey]; exact Ki.1) (by omega) (by omega) p1 p2 fun res g hg=>?_)
  refine wpS_bind (wpS_modify (wpS_bind (wpS_get (wpS_pure (fin res g hg)))))
end
section
variable {prog:Program} {w:World} {A:Around} {E:Value->Shared->Prop} {s:Shared} {a₀:Array Keyed} {κ:SortKind} {rk:Keyed->Int} {arr:Array Keyed} {pd:Array (Nat×Nat×Nat)} {g lo:Nat}
def kK {xs:Array Keyed} {i j:Nat} (hj:j<=xs.size) (k:Nat):kk rk (mirror xs i j ((j-i)/2)) k=if i<=k/\k<j then kk rk xs (i+j-1-k) else kk rk xs k:=by
 have e:=getElem?_mirror_all (i:=i) hj k
 split
 ·rename_i h; rw [qA1 h] at e; exact fE e
 ·rename_i h; rw [qA3 h] at e; exact fE e
def gK {xs:Array Keyed} {i j:Nat} (hj:j<=xs.size) (heq:∀ k,i<=k->k<j->kk rk xs k=kk rk xs (j-1)) (k:Nat):kk rk (mirror xs i j ((j-i)/2)) k=kk rk xs k:=by
 rw [kK hj]
 by_cases c:i<=k/\k<j
 ·rw [qA1 c,heq _ (Bn c).1 (Bn c).2,heq k c.1 c.2]
 ·rw [qA3 c]
def Bs {xs:Array Keyed} {src d:Nat} (hs:src<xs.size) (hd:d<=src) (k:Nat):kk rk (bubble xs src d) k=if k=src-d then kk rk xs src else if src-d<k/\k<=src then kk rk xs (k-1) else kk rk xs k:=by
 have e:=getElem?_bubble hs d hd k
 split
 ·rename_i h; rw [qA1 h] at e; exact fE e
 ·rename_i h
  rw [qA3 h] at e
  split
  ·rename_i h2; rw [qA1 h2] at e; exact fE e
  ·rename_i h2; rw [qA3 h2] at e; exact fE e
structure Rl (lo:Nat) (arr Gq:Array Keyed):Prop where
 perm:Gq.toList.Perm arr.toList
 same:∀ k,k<lo->Gq[k]?=arr[k]?
def Rl.refl:Rl lo arr arr:=⟨.refl _,fun _ _=>rfl⟩
def Rl.trans {a b c:Array Keyed} (h1:Rl lo a b) (h2:Rl lo b c):Rl lo a c:=⟨h2.perm.trans h1.perm,fun k hk=>(h2.same k hk).trans (h1.same k hk)⟩
def Rl.size {a b:Array Keyed} (h:Rl lo a b):b.size=a.size:=by
 have:=h.perm.length_eq
 simpa using this
def Rl.mem {a b:Array Keyed} (h:Rl lo a b) (Gx:∀ x∈a.toList,x∈a₀):∀ x∈b.toList,x∈a₀:=fun x hx=>Gx x (h.perm.mem_iff.mp hx)
def Rl.mir {i j:Nat} (hi:lo<=i) (hj:j<=arr.size):Rl lo arr (mirror arr i j ((j-i)/2)):=⟨qH1.mp (mirror_perm _ _ _ _),fun k hk=>by
 rw [getElem?_mirror_all hj,qA3 (by omega)]⟩
def Rl.bub {src d:Nat} (hs:src<arr.size) (hd:lo+d<=src):Rl lo arr (bubble arr src d):=⟨qH1.mp (bubble_perm _ _ _),fun k hk=>by
 rw [getElem?_bubble hs d (by omega),qA3 (by omega),qA3 (by omega)]⟩
def upA (rk:Keyed->Int) (xs:Array Keyed) (lo m:Nat):Prop:=∀ i j,i<=j->j<m->kk rk xs (lo+i)<=kk rk xs (lo+j)
def dnA (rk:Keyed->Int) (xs:Array Keyed) (lo m:Nat):Prop:=∀ i j,i<=j->j<m->kk rk xs (lo+j)<=kk rk xs (lo+i)
def W0 {i j:Nat} {Q:Option Bool->SortSt->Prop} (hc:Cmp prog w A s κ rk a₀) (Gx:∀ x∈arr.toList,x∈a₀) (hi:i<arr.size) (hj:j<arr.size) (h:Q (some (decide (kk rk arr i<kk rk arr j))) (sS κ arr pd g)):wpS (model prog w) A E s (ltAt' i j) Q (sS κ arr pd g):=by
 obtain ⟨x,hx,ex,lx⟩:=Z3 hi
 obtain ⟨y,hy,ey,ly⟩:=Z3 hj
 rw [af ex,af ey] at h
 rw [ltAt'_eq]
 exact wpS_bind (wpS_get (wpS_bind (l9 ex (wpS_bind (l9 ey (eR hc (Gx x hx) (Gx y hy) rfl h))))))
def pi {m:Nat} (h:upA rk arr lo m) (hm:¬ kk rk arr (lo+m)<kk rk arr (lo+m-1)) (h0:0<m):upA rk arr lo (m+1):=fun i j Gw hj=>by
 by_cases hjx:j<m
 ·exact h i j Gw hjx
 ·have Jb:j=m:=by omega
  subst Jb
  by_cases GC:i=j
  ·subst GC; exact qF9 _
  ·have:=h i (j-1) (qK6 (Nat.lt_of_le_of_ne Gw GC)) (qI1 h0 (by decide))
   rw [sb5 h0] at this
   exact qM0 this (qN5.mp hm)
def rZ {nrem:Nat} {Q:Option Nat->SortSt->Prop} (hc:Cmp prog w A s κ rk a₀) (Gx:∀ x∈arr.toList,x∈a₀) (h1:1<=nrem) (hz:lo+nrem<=arr.size)
  (h:∀ m Gq,Rl lo arr Gq->1<=m->m<=nrem->upA rk Gq lo m->Q (some m) (sS κ Gq pd g)):wpS (model prog w) A E s (countRun' lo nrem) Q (sS κ arr pd g):=by
 refine wpS_bind (wpS_mono (wpS_forRange (fun x c Gg=>Gg=sS κ arr pd g/\c=(none,x)/\upA rk arr lo x)
  (Q:=fun c Gg=>Gg=sS κ arr pd g/\∃ n,c=(none,n)/\1<=n/\n<=nrem/\upA rk arr lo n/\(n=nrem\/kk rk arr (lo+n)<kk rk arr (lo+n-1))) ?step ?fin ⟨rfl,rfl,fun i j a b=>by rw [show i=j by omega]; exact qF9 _⟩) ?post)
 case fin=>
  rintro c Gg ⟨rfl,rfl,hu⟩
  rw [show max 1 nrem=nrem by omega] at hu ⊢
  exact ⟨rfl,nrem,rfl,h1,qB1 _,hu,.inl rfl⟩
 case step=>
  rintro x c Gg JJ hx ⟨rfl,rfl,hu⟩
  dsimp only
  refine wpS_bind (W0 hc Gx (qB0 (Nat.add_lt_add_left hx lo) hz) (sb6 JJ (qA9 (qE0 (qH4 hx) lo) hz)) ?_)
  refine T7 (fun q=>?_) fun q=>?_
  ·skip
   exact wpS_pure ⟨rfl,x,rfl,JJ,by omega,hu,.inr q⟩
  ·skip
   exact wpS_pure ⟨rfl,rfl,pi hu q (by omega)⟩
 case post=>
  intro c Gg hI
  refine cpsA (c:=c) (t:=Gg) hI fun n jn=>?_
  have n1:=jn.1
  have n2:=jn.2.1
  have hu:=jn.2.2.1
  have hor:=jn.2.2.2
  clear hI jn c Gg
  dsimp only
  refine K2 (fun cn=>wpS_pure (h n arr .refl n1 n2 hu)) fun cn=>?_
  have GA:=hor.resolve_left cn
  refine oQ (fun Gg=>∃ Gk,Gg=sS κ Gk pd g/\Rl lo arr Gk/\dnA rk Gk lo (n+1)) ?key (fun cg key=>?pos) (fun cg=>⟨arr,rfl,.refl,?neg⟩)
  case pos=>
   refine wpS_bind (W0 hc Gx (by omega) (by omega) ?_)
   refine T7 (fun q=>wpS_pure (h n arr .refl n1 n2 hu)) fun q=>?_
   have Gh:∀ k,lo<=k->k<lo+n->kk rk arr k=kk rk arr (lo+n-1):=fun k a b=>by
    have a1:=hu 0 (k-lo) (qC3 _) (qK8 a b)
    have a2:=hu (k-lo) (n-1) (qK6 (qK8 a b)) (qI1 n1 (by decide))
    rw [qD2 a] at a1 a2
    rw [sb5 n1] at a2
    rw [Nat.add_zero] at a1
    omega
   refine wpS_bind (wpS_modify ?_)
   have kE:=gK (rk:=rk) (xs:=arr) (i:=lo) (j:=lo+n) (by omega) Gh
   refine key _ ⟨mirror arr lo (lo+n) ((lo+n-lo)/2),rfl,Rl.mir (qB1 _) (by omega),fun i j Gw hj=>?_⟩
   rw [kE,kE]
   by_cases hjn:j<n
   ·rw [Gh (lo+i) (by omega) (by omega),Gh (lo+j) (by omega) (by omega)]; exact qF9 _
   ·have Jb:j=n:=by omega
    subst Jb
    by_cases GC:i=j
    ·subst GC; exact qF9 _
    ·rw [Gh (lo+i) (by omega) (by omega)]; exact qL1 GA
  case neg=>
   intro i j Gw hj
   by_cases GC:i=j
   ·subst GC; exact qF9 _
   ·have hi0:i=0:=by omega
    have hj1:j=n:=by omega
    subst hi0; subst hj1
    rw [show lo+j-1=lo+0 by omega] at GA
    exact qL1 GA
  intro Gg hI
  refine Da (t:=Gg) hI fun Gk jn=>?_
  have r1:=jn.1
  have d1:=jn.2
  clear hI jn Gg
  refine wpS_bind (wpS_lift (wpAny_rule ⟨rfl,?_⟩))
  have z1:Gk.size=arr.size:=r1.size
  refine wpS_bind (wpS_mono (wpS_forRange (fun x c Gg=>∃ Gj GQ,Gg=sS κ Gj pd g/\c=(none,x,GQ)/\Rl lo arr Gj/\dnA rk Gj lo x/\GQ+1<=x/\∀ i,x-(GQ+1)<=i->i<x->kk rk Gj (lo+i)=kk rk Gj (lo+x-1))
   (Q:=fun c Gg=>∃ Gj m GQ,Gg=sS κ Gj pd g/\c=(none,m,GQ)/\n+1<=m/\m<=nrem/\Rl lo arr Gj/\dnA rk Gj lo m/\GQ+1<=m/\∀ i,m-(GQ+1)<=i->i<m->kk rk Gj (lo+i)=kk rk Gj (lo+m-1)) ?dstep ?dfin ⟨Gk,0,rfl,rfl,r1,d1,by omega,fun i a b=>by congr 1; omega⟩) ?dpost)
  case dfin=>
   rintro c Gg ⟨Gj,GQ,rfl,rfl,r2,d2,q2,e2⟩
   rw [show max (n+1) nrem=nrem by omega] at d2 q2 e2 ⊢
   exact ⟨Gj,nrem,GQ,rfl,rfl,by omega,qB1 _,r2,d2,q2,e2⟩
  case dstep=>
   intro x c Gg JJ hx hI
   refine cpsC (c:=c) (t:=Gg) hI fun Gj GQ jn=>?_
   have r2:=jn.1
   have d2:=jn.2.1
   have q2:=jn.2.2.1
   have e2:=jn.2.2.2
   clear hI jn c Gg
   dsimp only
   have z2:=r2.size
   have HD:=r2.mem Gx
   have JA:∀ k,lo+x-(GQ+1)<=k->k<lo+x->kk rk Gj k=kk rk Gj (lo+x-1):=fun k a b=>by
    have:=e2 (k-lo) (sb3 q2 a) (qK8 (qA9 (by rw [qH6 q2]; exact qD3 _ _) a) b)
    rw [sb4 q2 a] at this; exact this
   refine wpS_bind (W0 hc HD (by omega) (by omega) ?_)
   refine T7 (fun q=>?_) fun q=>?_
   ·skip
    have Iw:∀ xs:Array Keyed,(∀ k,kk rk xs k=kk rk Gj k)->dnA rk xs lo (x+1):=by
     intro xs hk i j Gw hj
     rw [hk,hk]
     by_cases hjx:j<x
     ·exact d2 i j Gw hjx
     ·have Jb:j=x:=by omega
      subst Jb
      by_cases GC:i=j
      ·subst GC; exact qF9 _
      ·have:=d2 i (j-1) (by omega) (by omega)
       rw [sb5 (by omega)] at this
       omega
    by_cases hneq:GQ>0
    ·rw [qA1 hneq]
     refine wpS_bind (wpS_modify (wpS_pure ⟨mirror Gj (lo+x-(GQ+1)) (lo+x) ((lo+x-(lo+x-(GQ+1)))/2),0,rfl,rfl,r2.trans (Rl.mir (arr:=Gj) (by omega) (by omega)),Iw _ (gK (xs:=Gj) (by omega) JA),by omega,fun i a b=>by congr 1; omega⟩))
    ·rw [qA3 hneq]
     exact wpS_pure ⟨_,0,rfl,rfl,r2,Iw _ (fun _=>rfl),by omega,fun i a b=>by congr 1; omega⟩
   ·skip
    refine wpS_bind (W0 hc HD (by omega) (by omega) ?_)
    refine T7 (fun q'=>?_) fun q'=>?_
    ·skip
     exact wpS_pure ⟨Gj,x,GQ,rfl,rfl,JJ,by omega,r2,d2,q2,e2⟩
    ·skip
     have heqx:kk rk Gj (lo+x)=kk rk Gj (lo+x-1):=by omega
     refine wpS_pure ⟨Gj,GQ+1,rfl,rfl,r2,fun i j Gw hj=>?_,by omega,fun i a b=>?_⟩
     ·by_cases hjx:j<x
      ·exact d2 i j Gw hjx
      ·have Jb:j=x:=by omega
       subst Jb
       by_cases GC:i=j
       ·subst GC; exact qF9 _
       ·have:=d2 i (j-1) (by omega) (by omega)
        rw [sb5 (by omega)] at this
        omega
     ·rw [show lo+(x+1)-1=lo+x by omega]
      by_cases hix:i=x
      ·subst hix; rfl
      ·rw [heqx]; exact e2 i (by omega) (by omega)
  case dpost=>
   intro c Gg hI
   refine cpsD (c:=c) (t:=Gg) hI fun Gj m GQ jn=>?_
   have m1:=jn.1
   have m2:=jn.2.1
   have r2:=jn.2.2.1
   have d2:=jn.2.2.2.1
   have q2:=jn.2.2.2.2.1
   have e2:=jn.2.2.2.2.2
   clear hI jn c Gg
   dsimp only
   have z2:=r2.size
   have JA:∀ k,lo+m-(GQ+1)<=k->k<lo+m->kk rk Gj k=kk rk Gj (lo+m-1):=fun k a b=>by
    have:=e2 (k-lo) (sb3 q2 a) (qK8 (qA9 (by rw [qH6 q2]; exact qD3 _ _) a) b)
    rw [sb4 q2 a] at this; exact this
   refine oQ (fun Gg=>∃ GG,Gg=sS κ GG pd g/\Rl lo arr GG/\dnA rk GG lo m) ?key2 (fun _ key=>?pos2) (fun _=>⟨Gj,rfl,r2,d2⟩)
   case pos2=>
    refine wpS_bind (wpS_modify ?_)
    have kE:=gK (rk:=rk) (xs:=Gj) (i:=lo+m-(GQ+1)) (j:=lo+m) (by omega) JA
    exact key _ ⟨mirror Gj (lo+m-(GQ+1)) (lo+m) ((lo+m-(lo+m-(GQ+1)))/2),rfl,r2.trans (Rl.mir (arr:=Gj) (by omega) (by omega)),fun i j Gw hj=>by rw [kE,kE]; exact d2 i j Gw hj⟩
   intro Gg hI
   refine Da (t:=Gg) hI fun GG jn=>?_
   have r3:=jn.1
   have d3:=jn.2
   clear hI jn Gg
   have z3:=r3.size
   refine wpS_bind (wpS_modify ?_)
   have r4:Rl lo arr (mirror GG lo (lo+m) ((lo+m-lo)/2)):=r3.trans (Rl.mir (qB1 _) (by omega))
   have u4:upA rk (mirror GG lo (lo+m) ((lo+m-lo)/2)) lo m:=fun i j Gw hj=>by
    rw [kK (by omega),kK (by omega),qA1 (by omega),qA1 (by omega)]
    have:=d3 (m-1-j) (m-1-i) (qM6 Gw _) (qD7 (qG5 _ _) (qI1 (qD7 (qC3 j) hj) (by decide)))
    rw [mr1 (qD7 Gw hj),mr1 hj]
    exact this
   show wpS _ _ _ _ _ _ (sS κ (mirror GG lo (lo+m) ((lo+m-lo)/2)) pd g)
   generalize mirror GG lo (lo+m) ((lo+m-lo)/2)=GX at r4 u4 ⊢
   have z4:=r4.size
   have hin4:=r4.mem Gx
   refine wpS_bind (wpS_mono (wpS_forRange (fun x c Gg=>Gg=sS κ GX pd g/\c=(none,x)/\upA rk GX lo x)
    (Q:=fun c Gg=>Gg=sS κ GX pd g/\∃ n,c=(none,n)/\1<=n/\n<=nrem/\upA rk GX lo n) ?ustep ?ufin ⟨rfl,rfl,u4⟩) ?upost)
   case ufin=>
    rintro c Gg ⟨rfl,rfl,hu⟩
    rw [show max m nrem=nrem by omega] at hu ⊢
    exact ⟨rfl,nrem,rfl,h1,qB1 _,hu⟩
   case ustep=>
    rintro x c Gg JJ hx ⟨rfl,rfl,hu⟩
    dsimp only
    refine wpS_bind (W0 hc hin4 (by omega) (by omega) ?_)
    refine T7 (fun q=>?_) fun q=>?_
    ·skip
     exact wpS_pure ⟨rfl,x,rfl,by omega,by omega,hu⟩
    ·skip
     exact wpS_pure ⟨rfl,rfl,pi hu q (by omega)⟩
   case upost=>
    rintro c Gg ⟨rfl,k,rfl,k1,k2,hu⟩
    exact wpS_pure (h k GX r4 k1 k2 hu)
def yZ {n ok:Nat} {Q:Bool->SortSt->Prop} (hc:Cmp prog w A s κ rk a₀) (Gx:∀ x∈arr.toList,x∈a₀) (hok:ok<=n) (hz:lo+n<=arr.size) (hu:upA rk arr lo ok)
  (h:∀ Gq,Rl lo arr Gq->upA rk Gq lo n->Q true (sS κ Gq pd g)):wpS (model prog w) A E s (binarySort' lo n ok) Q (sS κ arr pd g):=by
 refine wpS_bind (wpS_mono (wpS_forRange (fun k c Gg=>∃ Gk,Gg=sS κ Gk pd g/\c=(none,())/\Rl lo arr Gk/\upA rk Gk lo (min k n))
  (Q:=fun c Gg=>∃ Gk,Gg=sS κ Gk pd g/\c=(none,())/\Rl lo arr Gk/\upA rk Gk lo n) ?step ?fin ⟨arr,rfl,rfl,.refl,?init⟩) ?post)
 case init=>
  intro i j Gw hj
  by_cases h1:ok=0
  ·rw [show i=j by omega]; exact qF9 _
  ·exact hu i j Gw (by omega)
 case post=>
  rintro c Gg ⟨Gk,rfl,rfl,r1,u1⟩
  exact wpS_pure (h Gk r1 u1)
 case fin=>
  rintro c Gg ⟨Gk,rfl,rfl,r1,u1⟩
  rw [show min (max (max ok 1) n) n=n by omega] at u1
  exact ⟨Gk,rfl,rfl,r1,u1⟩
 case step=>
  intro k c Gg hk1 hk hI
  refine EQ (c:=c) (t:=Gg) hI fun Gk jn=>?_
  have r1:=jn.1
  have u1:=jn.2
  clear hI jn c Gg
  rw [show min k n=k by omega] at u1
  have z1:=r1.size
  have hin1:=r1.mem Gx
  dsimp only
  refine wpS_bind (wpS_mono (wpS_forRange (fun x c Gg=>Gg=sS κ Gk pd g/\∃ l r,c=(none,l,r)/\l<=r/\r<=k/\r-l<=k-x/\(∀ i,i<l->kk rk Gk (lo+i)<=kk rk Gk (lo+k))/\(∀ i,r<=i->i<k->kk rk Gk (lo+k)<kk rk Gk (lo+i)))
   (Q:=fun c Gg=>Gg=sS κ Gk pd g/\∃ l r,c=(none,l,r)/\l<=k/\(∀ i,i<l->kk rk Gk (lo+i)<=kk rk Gk (lo+k))/\(∀ i,l<=i->i<k->kk rk Gk (lo+k)<kk rk Gk (lo+i))) ?istep ?ifin ⟨rfl,0,k,rfl,by omega,by omega,by omega,fun i hi=>by omega,fun i h1 h2=>by omega⟩) ?ipost)
  case ifin=>
   rintro c Gg ⟨rfl,l,r,rfl,ID,Jp,hm,Ij,IG⟩
   have:l=r:=by omega
   subst this
   exact ⟨rfl,l,l,rfl,Jp,Ij,IG⟩
  case istep=>
   intro x c Gg _ hx hI
   refine ER (c:=c) (t:=Gg) hI fun l r jn=>?_
   have ID:=jn.1
   have Jp:=jn.2.1
   have hm:=jn.2.2.1
   have Ij:=jn.2.2.2.1
   have IG:=jn.2.2.2.2
   clear hI jn c Gg
   dsimp only
   by_cases GD:l≥r
   ·rw [qA1 GD]
    have:l=r:=by omega
    subst this
    exact wpS_pure ⟨rfl,l,l,rfl,Jp,Ij,IG⟩
   ·rw [qA3 GD]
    refine wpS_bind (W0 hc hin1 (by omega) (by omega) ?_)
    refine T7 (fun HX=>?_) fun HX=>?_
    ·skip
     refine wpS_pure ⟨rfl,l,(l+r)/2,rfl,oh ID,qH4 (qB0 (iK GD) Jp),zI (oh ID) (iK GD) hm,Ij,fun i h1 h2=>?_⟩
     exact Int.lt_of_lt_of_le HX (u1 _ _ h1 h2)
    ·skip
     refine wpS_pure ⟨rfl,(l+r)/2+1,r,rfl,iK GD,Jp,zH (oh ID) hm,fun i h1=>?_,IG⟩
     exact qM0 (u1 i ((l+r)/2) (qF0 h1) (qB0 (iK GD) Jp)) (qN5.mp HX)
  case ipost=>
   rintro c Gg ⟨rfl,l,r,rfl,Ju,Ij,IG⟩
   refine wpS_bind (wpS_modify (wpS_pure ⟨bubble Gk (lo+k) (lo+k-(lo+l)),rfl,rfl,r1.trans (Rl.bub (arr:=Gk) (by omega) (by omega)),?_⟩))
   rw [show min (k+1) n=k+1 by omega]
   have hlk':lo+l<=lo+k:=qE0 Ju lo
   have IB:lo+k<Gk.size:=by omega
   refine DD (f:=fun i=>kk rk Gk (lo+i)) Ju (fun i=>?_) u1 Ij IG
   show kk rk _ (lo+i)=_
   rw [Bs IB (qG5 _ _),Nat.sub_sub_self hlk']
   by_cases c1:i=l
   ·rw [qA1 (by rw [c1]),qA1 c1]
   ·rw [qA3 fun z=>c1 (Nat.add_left_cancel z),qA3 c1]
    by_cases c2:l<i/\i<=k
    ·rw [qA1 ⟨Nat.add_lt_add_left c2.1 lo,qE0 c2.2 lo⟩,qA1 c2,qH6 (qD7 (qC3 l) c2.1)]
    ·rw [qA3 fun z=>c2 ⟨Nat.lt_of_add_lt_add_left z.1,Nat.le_of_add_le_add_left z.2⟩,qA3 c2]
end
section
variable {prog:Program} {w:World} {A:Around} {E:Value->Shared->Prop} {s:Shared} {a₀:Array Keyed} {κ:SortKind} {rk:Keyed->Int} {arr:Array Keyed} {pd:Array (Nat×Nat×Nat)} {g lo:Nat}
def Chn (rk:Keyed->Int) (L:List Keyed):List (Nat×Nat×Nat)->Nat->Nat->Prop
 | [],a,b=>a=b
 | r::rs,a,b=>r.1=a/\0<r.2.1/\upL rk (rn_ L a r.2.1)/\Chn rk L rs (a+r.2.1) b
def cC {L:List Keyed}:∀ {rs:List (Nat×Nat×Nat)} {a b:Nat},Chn rk L rs a b->a+rs.length<=b
 | [],a,b,h=>by have h:a=b:=h; simp [h]
 | r::rs,a,b,h=>by
  have:=cC h.2.2.2
  have:=h.2.1
  rw [qC2]; omega
def chn_app {L:List Keyed}:∀ {r1 r2:List (Nat×Nat×Nat)} {a c:Nat},Chn rk L (r1++r2) a c↔∃ b,Chn rk L r1 a b/\Chn rk L r2 b c
 | [],r2,a,c=>⟨fun h=>⟨a,rfl,h⟩,fun zz83=>by obtain ⟨b,h1,h2⟩:=zz83; have h1:a=b:=h1; subst h1; exact h2⟩
 | r::r1,r2,a,c=>by
  constructor
  ·rintro ⟨h1,h2,h3,h4⟩
   obtain ⟨b,q1,q2⟩:=chn_app.mp h4
   exact ⟨b,⟨h1,h2,h3,q1⟩,q2⟩
  ·rintro ⟨b,⟨h1,h2,h3,h4⟩,q2⟩
   exact ⟨h1,h2,h3,chn_app.mpr ⟨b,h4,q2⟩⟩
def fN {L L':List Keyed}:∀ {rs:List (Nat×Nat×Nat)} {a b:Nat},(∀ i n,a<=i->i+n<=b->rn_ L' i n=rn_ L i n)->Chn rk L rs a b->Chn rk L' rs a b
 | [],a,b,_,h=>h
 | r::rs,a,b,he,h=>by
  have:=cC h.2.2.2
  refine ⟨h.1,h.2.1,?_,fN (fun i n h1 h2=>he i n (by omega) h2) h.2.2.2⟩
  rw [he a r.2.1 (qB1 _) (by omega)]; exact h.2.2.1
def nh {L:List Keyed} {pw:Nat}:∀ {rs:List (Nat×Nat×Nat)} {k a b:Nat},Chn rk L rs a b->Chn rk L (rs.modify k fun r=>(r.1,r.2.1,pw)) a b
 | [],k,a,b,h=>by rw [List.modify_nil]; exact h
 | r::rs,0,a,b,h=>h
 | r::rs,k+1,a,b,h=>by rw [List.modify_succ_cons]; exact ⟨h.1,h.2.1,h.2.2.1,nh h.2.2.2⟩
def AX {i:Nat} {x y z:Nat×Nat×Nat} (e1:pd[i]?=some x) (e2:pd[i+1]?=some y):∃ r1 r2,pd.toList=r1++x::y::r2/\((pd.setIfInBounds i z).eraseIdxIfInBounds (i+1)).toList=r1++z::r2:=by
 rw [<- qM1] at e1 e2
 have hi:=(qA7.mp e2).1
 have Id:i+1<pd.size:=by simpa using hi
 refine ⟨pd.toList.take i,pd.toList.drop (i+2),?_,?_⟩
 ·have t1:pd.toList.drop i=x::pd.toList.drop (i+1):=by
   obtain ⟨h1,h2⟩:=qA7.mp e1
   rw [qI7 h1,h2]
  have t2:pd.toList.drop (i+1)=y::pd.toList.drop (i+2):=by
   obtain ⟨h1,h2⟩:=qA7.mp e2
   rw [qI7 h1,h2]
  rw [<- t2,<- t1,List.take_append_drop]
 ·rw [Array.eraseIdxIfInBounds,dif_pos (by simpa using Id),Array.toList_eraseIdx,Array.toList_setIfInBounds,List.eraseIdx_eq_take_drop_succ,List.drop_set_of_lt (by omega)]
  have:(pd.toList.set i z).take (i+1)=pd.toList.take i ++ [z]:=by
   rw [List.take_succ,List.take_set_of_le (qB1 _),qE4 (by omega)]; rfl
  rw [this]; simp
def Aa {P M S:List Keyed} {n:Nat} (h:M.length=n):rn_ (P++M++S) P.length n=M:=by
 unfold rn_
 rw [qE9,List.drop_left,<- h,List.take_left]
def vt {i:Nat} {Q:Bool->SortSt->Prop} (hc:Cmp prog w A s κ rk a₀) (Gx:∀ x∈arr.toList,x∈a₀) (C:Chn rk arr.toList pd.toList 0 lo) (Ij:lo<=arr.size) (hi:i+1<pd.size)
  (h:∀ Gq pd' g',Gq.toList.Perm arr.toList->Gq.toList.drop lo=arr.toList.drop lo->pd'.size+1=pd.size->Chn rk Gq.toList pd'.toList 0 lo->Q true (sS κ Gq pd' g')):wpS (model prog w) A E s (mergeAt' i) Q (sS κ arr pd g):=by
 obtain ⟨⟨sa,na,pw⟩,ex⟩:∃ x,pd[i]?=some x:=⟨pd[i],by simp⟩
 obtain ⟨⟨sb,nb,pw2⟩,ey⟩:∃ y,pd[i+1]?=some y:=⟨pd[i+1],by simp⟩
 obtain ⟨r1,r2,el,em⟩:=AX (z:=(sa,na+nb,pw)) ex ey
 rw [el] at C
 obtain ⟨b1,C1,JM,Lj,u1,HU,IY,u2,C2⟩:=chn_app.mp C
 have JM:sa=b1:=JM
 have HU:sb=b1+na:=HU
 have Lj:0<na:=Lj
 have IY:0<nb:=IY
 subst JM
 have hle:=cC C2
 have hle1:=cC C1
 refine nr hc Gx ex ey HU (by show _<=arr.size; simp at hle; omega) Lj IY u1 (by rw [HU]; exact u2) fun M g' hg=>?_
 have hM:M.length=na+nb:=by
  rw [hg.1.length_eq,qC5,qI3,qI3,List.length_drop,List.length_drop,qE6]
  simp at hle; omega
 have ct:=CW (L:=arr.toList) (i:=sa) (n:=na) (m:=nb)
 rw [<- HU] at ct
 have zt:(arr.toList.take sa).length=sa:=by rw [qI3,qE6]; simp at hle; omega
 have dr:∀ k,sb+nb<=k->(arr.toList.take sa++M++arr.toList.drop (sb+nb)).drop k=arr.toList.drop k:=fun k hk=>by
  rw [List.drop_append,qF4 (by rw [qC5,zt,hM]; omega),qN1,qC5,zt,hM,List.drop_drop]
  congr 1; omega
 have tk:∀ i n,i+n<=sa->rn_ (arr.toList.take sa++M++arr.toList.drop (sb+nb)) i n=rn_ arr.toList i n:=fun i n hk=>by
  unfold rn_
  rw [qE9,List.take_drop,List.take_drop,List.take_append_of_le_length (by omega),List.take_take,qN0 (by omega)]
 refine h _ _ g' ?_ ?_ ?_ ?_
 ·show (arr.toList.take sa++M++arr.toList.drop (sb+nb)).Perm arr.toList
  refine List.Perm.trans (List.Perm.append_right _ (List.Perm.append_left _ hg.1)) ?_
  rw [<- ct]
 ·exact dr lo (by simp at hle; omega)
 ·have:=congrArg List.length em
  have q:=congrArg List.length el
  rw [qE6] at this q
  rw [this,q]; simp; omega
 ·rw [em]
  refine chn_app.mpr ⟨sa,fN (fun i n h1 h2=>tk i n h2) C1,rfl,by show 0<na+nb; omega,?_,?_⟩
  ·show upL rk (rn_ (arr.toList.take sa++M++arr.toList.drop (sb+nb)) sa (na+nb))
   have:=Aa (P:=arr.toList.take sa) (S:=arr.toList.drop (sb+nb)) hM
   rw [zt] at this
   rw [this]; exact hg.2
  ·show Chn rk _ r2 (sa+(na+nb)) lo
   rw [<- qI2]
   refine fN (fun i n h1 h2=>?_) C2
   show rn_ (arr.toList.take sa++M++arr.toList.drop (sb+nb)) i n=_
   unfold rn_
   rw [dr i (by omega)]
def lF {Q:Unit->SortSt->Prop} (hc:Cmp prog w A s κ rk a₀) (h2:2<=a₀.size)
  (h:∀ Gg,(arrOf Gg).toList.Perm a₀.toList->failedOf Gg=none->upL rk (arrOf Gg).toList->Q () Gg):wpS (model prog w) A E s sortRuns' Q (sS κ a₀ #[] 7):=by
 refine wpS_bind (wpS_get ?_)
 dsimp only
 generalize (sortPriv% PySem.Builtin.minRun) a₀.size a₀.size 0=mr
 have same:∀ {L L':List Keyed} {i n:Nat},L'.drop i=L.drop i->rn_ L' i n=rn_ L i n:=fun e=>by unfold rn_; rw [e]
 refine wpS_bind (wpS_mono (wpS_forRange (fun x c Gg=>∃ arr pd g lo,Gg=sS κ arr pd g/\c=(none,lo)/\arr.toList.Perm a₀.toList/\Chn rk arr.toList pd.toList 0 lo/\lo<=a₀.size/\x<=lo)
  (Q:=fun c Gg=>∃ arr pd g lo,Gg=sS κ arr pd g/\c=(none,lo)/\arr.toList.Perm a₀.toList/\Chn rk arr.toList pd.toList 0 a₀.size) ?step ?fin ⟨a₀,#[],7,0,rfl,rfl,.refl _,rfl,by omega,by omega⟩) ?post)
 case fin=>
  rintro c Gg ⟨arr,pd,g,lo,rfl,rfl,hp,C,h1,h2⟩
  have:lo=a₀.size:=by omega
  subst this
  exact ⟨arr,pd,g,_,rfl,rfl,hp,C⟩
 case step=>
  rintro x c Gg _ hx ⟨arr,pd,g,lo,rfl,rfl,hp,C,h1,h2⟩
  dsimp only
  by_cases cl:lo≥a₀.size
  ·rw [qA1 cl]
   have:lo=a₀.size:=by omega
   subst this
   exact wpS_pure ⟨arr,pd,g,_,rfl,rfl,hp,C⟩
  rw [qA3 cl]
  have zz:arr.size=a₀.size:=by have:=hp.length_eq; simpa using this
  have Gx:∀ x∈arr.toList,x∈a₀:=fun x hx=>by have:=hp.mem_iff.mp hx; simpa using this
  refine wpS_bind (rZ hc Gx (by omega) (by omega) fun n Gk r1 n1 n2 u1=>?_)
  dsimp only
  have key:∀ (n:Nat) (Gj:Array Keyed),Rl lo arr Gj->0<n->lo+n<=a₀.size->upA rk Gj lo n->Gj.toList.Perm a₀.toList/\Chn rk Gj.toList pd.toList 0 lo/\upL rk (rn_ Gj.toList lo n):=fun n Gj r2 hn hz u=>by
   refine ⟨r2.perm.trans hp,fN (fun i m _ hm=>?_) C,?_⟩
   ·unfold rn_
    apply qL7
    intro k
    by_cases ck:k<m
    ·rw [qH5 ck,qH5 ck,qI6,qI6,qM1,qM1,r2.same _ (by omega)]
    ·rw [List.getElem?_take_eq_none (by omega),List.getElem?_take_eq_none (by omega)]
   ·unfold upL
    rw [List.pairwise_iff_getElem]
    intro i j hi hj Gw
    have z2:=r2.size
    simp at hi hj
    have:=u i j (by omega) (by omega)
    rw [v6 (rk:=rk) (x:=(rn_ Gj.toList lo n)[i]) (by rw [<- cQ (n:=n) (by omega)]; exact qB2 _),v6 (rk:=rk) (x:=(rn_ Gj.toList lo n)[j]) (by rw [<- cQ (n:=n) (by omega)]; exact qB2 _)] at this
    exact this
  by_cases cm:n<mr
  case' pos=>
   rw [qA1 cm]
   refine wpS_bind (wpS_lift (wpAny_rule ⟨rfl,?_⟩))
   have z1:=r1.size
   have fz:lo+min (a₀.size-lo) mr<=a₀.size:=qA9 (qE0 (Nat.min_le_left _ _) lo) (qI0 (qD2 h1))
   have fp:0<min (a₀.size-lo) mr:=Nat.lt_min.mpr ⟨qN6 (qM4 cl),qD7 (qC3 n) cm⟩
   refine wpS_bind (yZ hc (r1.mem Gx) (n:=min (a₀.size-lo) mr) (Nat.le_min.mpr ⟨n2,qH4 cm⟩) (by rw [z1,zz]; exact fz) u1 fun Gj r2 u2=>?_)
   have K:=key _ Gj (r1.trans r2) fp fz u2
   have f0:0<min (a₀.size-lo) mr/\lo+min (a₀.size-lo) mr<=a₀.size:=⟨fp,fz⟩
   clear fp fz
   rw [qA3 (by simp)]
   generalize min (a₀.size-lo) mr=m at K f0 ⊢
  case' neg=>
   rw [qA3 cm]
   have f0:0<n/\lo+n<=a₀.size:=⟨n1,qA9 (qE0 n2 lo) (qI0 (qD2 h1))⟩
   have K:=key n Gk r1 f0.1 f0.2 u1
   obtain ⟨Gj,ea⟩:∃ o,o=Gk:=⟨_,rfl⟩
   obtain ⟨m,em⟩:∃ o,o=n:=⟨_,rfl⟩
   rw [<- ea,<- em] at K
   rw [<- ea,<- em]
   rw [<- em] at f0
  all_goals
   obtain ⟨hp2,C2,v2⟩:=K
   refine wpS_bind (wpS_get ?_)
   dsimp only
   cases hb:pd.back? with
   | none=>
    have pe:pd=#[]:=Array.back?_eq_none_iff.mp hb
    subst pe
    refine wpS_bind (wpS_modify (wpS_pure ⟨Gj,#[].push (lo,m,0),g,lo+m,rfl,rfl,hp2,?_,f0.2,by omega⟩))
    have C2:0=lo:=C2
    subst C2
    exact ⟨rfl,f0.1,v2,rfl⟩
   | some r=>
    obtain ⟨s1,n1,p0⟩:=r
    dsimp only
    have Je:∀ {a:Array Keyed},a.toList.Perm a₀.toList->a.size=a₀.size:=fun q=>by have:=q.length_eq; simpa using this
    have HD:∀ {a:Array Keyed},a.toList.Perm a₀.toList->∀ x∈a.toList,x∈a₀:=fun q x hx=>by have:=q.mem_iff.mp hx; simpa using this
    refine wpS_bind (wpS_mono (wpS_forRange (fun x c Gg=>∃ arr pd g,Gg=sS κ arr pd g/\c=(none,())/\arr.toList.Perm a₀.toList/\Chn rk arr.toList pd.toList 0 lo/\upL rk (rn_ arr.toList lo m))
     (Q:=fun c Gg=>∃ arr pd g,Gg=sS κ arr pd g/\c=(none,())/\arr.toList.Perm a₀.toList/\Chn rk arr.toList pd.toList 0 lo/\upL rk (rn_ arr.toList lo m)) ?mstep ?mfin ⟨Gj,pd,g,rfl,rfl,hp2,C2,v2⟩) ?mpost)
    case mfin=>
     rintro c Gg q
     exact q
    case mstep=>
     rintro y c Gg _ hy ⟨GG,pd3,g3,rfl,rfl,hp3,C3,v3⟩
     refine wpS_bind (wpS_get ?_)
     dsimp only
     by_cases cs:pd3.size>1
     ·rw [qA1 cs]
      obtain ⟨⟨q1,q2,older⟩,eo⟩:∃ r,pd3[pd3.size-2]?=some r:=⟨pd3[pd3.size-2],by simp⟩
      rw [eo]
      dsimp only
      split
      ·exact wpS_pure ⟨GG,pd3,g3,rfl,rfl,hp3,C3,v3⟩
      ·refine wpS_bind (vt hc (HD hp3) C3 (by rw [Je hp3]; omega) (by omega) fun GX KW g4 LB h42 h43 LA=>?_)
       rw [qA3 (by simp)]
       exact wpS_pure ⟨GX,KW,g4,rfl,rfl,LB.trans hp3,LA,by rw [same h42]; exact v3⟩
     ·rw [qA3 cs]
      exact wpS_pure ⟨GG,pd3,g3,rfl,rfl,hp3,C3,v3⟩
    case mpost=>
     rintro c Gg ⟨GG,pd3,g3,rfl,rfl,hp3,C3,v3⟩
     dsimp only
     refine wpS_bind (wpS_modify (wpS_bind (wpS_modify (wpS_pure ⟨GG,_,g3,lo+m,rfl,rfl,hp3,?_,f0.2,by omega⟩))))
     rw [qJ4,Array.toList_modify]
     exact chn_app.mpr ⟨lo,nh C3,rfl,f0.1,v3,rfl⟩
 case post=>
  rintro c Gg ⟨arr,pd,g,lo,rfl,rfl,hp,C⟩
  dsimp only
  have Je:∀ {a:Array Keyed},a.toList.Perm a₀.toList->a.size=a₀.size:=fun q=>by have:=q.length_eq; simpa using this
  have HD:∀ {a:Array Keyed},a.toList.Perm a₀.toList->∀ x∈a.toList,x∈a₀:=fun q x hx=>by have:=q.mem_iff.mp hx; simpa using this
  have ple:=cC C
  rw [qE6] at ple
  refine wpS_bind (wpS_mono (wpS_forRange (fun x c Gg=>∃ arr pd g,Gg=sS κ arr pd g/\c=(none,())/\arr.toList.Perm a₀.toList/\Chn rk arr.toList pd.toList 0 a₀.size/\(pd.size<=1\/pd.size+x<=a₀.size))
   (Q:=fun c Gg=>∃ arr pd g,Gg=sS κ arr pd g/\c=(none,())/\arr.toList.Perm a₀.toList/\Chn rk arr.toList pd.toList 0 a₀.size/\pd.size<=1) ?lstep ?lfin ⟨arr,pd,g,rfl,rfl,hp,C,.inr (by omega)⟩) ?lpost)
  case lfin=>
   rintro c Gg ⟨arr,pd,g,rfl,rfl,hp,C,hs⟩
   exact ⟨arr,pd,g,rfl,rfl,hp,C,by omega⟩
  case lstep=>
   rintro x c Gg _ hx ⟨arr,pd,g,rfl,rfl,hp,C,hs⟩
   refine wpS_bind (wpS_get ?_)
   dsimp only
   by_cases cs:pd.size<=1
   ·rw [qA1 cs]
    exact wpS_pure ⟨arr,pd,g,rfl,rfl,hp,C,cs⟩
   rw [qA3 cs]
   refine wpS_bind (vt hc (HD hp) C (by rw [Je hp]; omega) ?_ fun GX KW g4 LB h42 h43 LA=>?_)
   ·repeat' split
    all_goals omega
   rw [qA3 (by simp)]
   exact wpS_pure ⟨GX,KW,g4,rfl,rfl,LB.trans hp,LA,.inr (by omega)⟩
  case lpost=>
   rintro c Gg ⟨arr,pd,g,rfl,rfl,hp,C,hs⟩
   dsimp only
   have hl:pd.toList.length<=1:=by rw [qE6]; exact hs
   refine wpS_pure (h _ hp rfl ?_)
   show upL rk arr.toList
   match hpd:pd.toList,hl,C with
   | [],_,C => 
    have C:0=a₀.size:=C
    omega
   | [r],_,C=>
    obtain ⟨c1,c2,c3,c4⟩:=C
    have c4:0+r.2.1=a₀.size:=c4
    have e:rn_ arr.toList 0 r.2.1=arr.toList:=by
     unfold rn_
     rw [List.drop_zero,List.take_of_length_le (by rw [qE6,Je hp]; omega)]
    rw [e] at c3
    exact c3
   | _::_::_,hl,_=>simp at hl
end
end TP
namespace TP
open PySem L2
def tS {α β:Type} {f:α->β} {m l':List β} (h:m.Perm l'):∀ l:List α,l'=l.map f->∃ o:List α,o.Perm l/\m=o.map f:=by
 induction h with
 | nil=>intro l e; exact ⟨l,.refl _,e⟩
 | cons x _ ih=>
  intro l e
  cases l with
  | nil=>cases e
  | cons a l=>
   rw [qC0] at e
   obtain ⟨e1,e2⟩:=List.cons.inj e
   obtain ⟨o,h1,h2⟩:=ih l e2
   exact ⟨a::o,h1.cons a,by rw [qC0,e1,h2]⟩
 | swap x y l0=>
  intro l e
  cases l with
  | nil=>cases e
  | cons a l=>
   rw [qC0] at e
   obtain ⟨e1,e2⟩:=List.cons.inj e
   cases l with
   | nil=>cases e2
   | cons b l=>
    rw [qC0] at e2
    obtain ⟨e3,e4⟩:=List.cons.inj e2
    exact ⟨b::a::l,.swap ..,by rw [qC0,qC0,e1,e3,e4]⟩
 | trans _ _ ih1 ih2=>
  intro l e
  obtain ⟨o2,p2,e2⟩:=ih2 l e
  obtain ⟨o1,p1,e1⟩:=ih1 o2 e2
  exact ⟨o1,p1.trans p2,e1⟩
def iU:∀ {xs ys:List Int} {its:List Value},Vals (xs.map V.int) its->Vals (ys.map V.int) its->xs=ys
 | [],[],_,_,_=>rfl
 | [],y::ys,_,h,h'=>by cases h; cases h'
 | x::xs,[],_,h,h'=>by cases h'; cases h
 | x::xs,y::ys,_,h,h'=>by
  cases h with
  | cons r t=>
   cases h' with
   | cons r' t'=>
    obtain ⟨k,rfl⟩:=r
    obtain ⟨k',e⟩:=r'
    cases e
    rw [iU t t']
section
open PySem.W PyProof.Rows
variable {prog:Program} {w:World} {A:Around} {E:Value->Shared->Prop} {s:Shared}
def TupI.uniq {h:Heap} {v:Value} {xs ys:List Int} (p:TupI h v xs) (q:TupI h v ys):xs=ys:=by
 obtain ⟨a,o,its,m,e,ho,_,hd,rv⟩:=p
 obtain ⟨b,o2,Gu,m2,e2,HV,_,hd2,Hj⟩:=q
 rw [e] at e2; cases e2
 rw [ho] at HV; cases HV
 rw [hd] at hd2
 have:its=Gu:=by injection hd2 with q1 _; simpa using q1
 subst this
 exact iU rv Hj
open Classical in
def rkV (vs:List Value) (ss:List (List Int)) (p:Keyed):Int:=if h:∃ i,i<vs.length/\vs.getD i Value.none=p.1 then D9 ss h.choose else 0
def eZ {h:Heap} {vs:List Value} {ss:List (List Int)} (tt:Paired (fun v xs=>TupI h v xs/\xs ≠ []) vs ss) {i:Nat} (hi:i<vs.length) {u:Value}:rkV vs ss (vs.getD i Value.none,u)=D9 ss i:=by
 have hx:∃ j,j<vs.length/\vs.getD j Value.none=vs.getD i Value.none:=⟨i,hi,rfl⟩
 unfold rkV
 rw [dif_pos hx]
 obtain ⟨c1,c2⟩:=hx.choose_spec
 generalize hx.choose=j at c1 c2
 obtain ⟨x,ex,tx⟩:=B4 (d:=Value.none) tt hi
 obtain ⟨y,ey,ty⟩:=B4 (d:=Value.none) tt c1
 rw [c2] at ty
 have e:=TupI.uniq tx.1 ty.1
 unfold D9
 have e1:ss.getD i []=x:=by rw [qA0,ex]; rfl
 have e2:ss.getD j []=y:=by rw [qA0,ey]; rfl
 rw [e1,e2,e]
def P9 (ss:List (List Int)) (o:List Nat):Prop:=o.Perm (List.range ss.length)/\o.map (fun i=>ss.getD i [])=F3 ss
def AY {ss:List (List Int)} {o:List Nat} (hp:o.Perm (List.range ss.length)) (hu:o.Pairwise fun i j=>D9 ss i<=D9 ss j):P9 ss o:=by
 refine ⟨hp,?_⟩
 refine List.Perm.eq_of_pairwise (le:=fun a b=>lexLt b a=false) (fun a b _ _ x y=>de _ _ y x) ?_ (lZ ss) ?_
 ·rw [qH2]
  refine qL2 (fun {i j} hi hj q=>?_) hu
  have hi:=qF2.mp (hp.mem_iff.mp hi)
  have hj:=qF2.mp (hp.mem_iff.mp hj)
  rw [<- gu hj hi]
  exact decide_eq_false (by omega)
 ·have:=hp.map fun i=>ss.getD i []
  rw [ig] at this
  exact this.trans (bM ss).symm
abbrev J4 {α:Type} (o:List Nat) (d:α) (vs:List α):List α:=o.map fun i=>vs.getD i d
def jI {α:Type} {ss:List (List Int)} {o:List Nat} (h:P9 ss o) (d:α) (vs:List α):(J4 o d vs).length=ss.length:=by
 rw [qA5,h.1.length_eq,qF1]
def nF {a:Addr} {vs:List Value} {ss:List (List Int)} {n:Nat} {P:PySem.Fin->Shared->Prop} (ho:s.heap.get? a=some (seqObj "list" vs.toArray n)) (hl:vs.length=ss.length) (GT:ss.length<=1000)
  (ht:∀ h':Heap,(∀ b o,b≠a->s.heap.get? b=some o->h'.get? b=some o)->Paired (fun v xs=>TupI h' v xs/\xs ≠ []) vs ss)
  (hyp:∀ o,P9 ss o->P (.done (.ret .none)) { s with heap:=sortedHeap s.heap a vs (J4 o Value.none vs).toArray }):wpAny (model prog w) A (Builtin.«list.sort» ⟨[.ref a],[]⟩) P E s:=by
 rw [list_sort_plain]; have ha:=qB7 ho
 refine qA2 (listItems_at ho rfl (qA2 (listUpdate_at ho rfl ?_ (by rw [qC1,sizeLine_eq]; omega) (qC3 _))))
 obtain ⟨ep,hp⟩:∃ ep,(s.heap.update a (Obj.mapSeq fun _=>(#[]:Array Value))).get? a=some (seqObj "list" #[] ep):=⟨_,get?_update_seq ho fun _=>#[]⟩
 refine qA2 (seqEpoch_at hp rfl (qA2 (wpAny_newTuple (qA2 (wpAny_newList (wpAny_holding ?_) (qC3 _))) (by show vs.length<=_; rw [sizeLine_eq]; omega))))
 generalize hh:((s.heap.update a (Obj.mapSeq fun _=>(#[]:Array Value))).push (seqObj "tuple" vs.toArray 0)).push (seqObj "list" #[] 0)=h6
 have KH:h6.get? a=some (seqObj "list" #[] ep):=by rw [<- hh]; exact qA6 _ (qA6 _ hp)
 have h6k:∀ b o,b≠a->s.heap.get? b=some o->h6.get? b=some o:=fun b o hb e=>by rw [<- hh]; exact qA6 _ (qA6 _ (by rw [qM7 _ _ _ _ hb]; exact e))
 have kN:∀ o,sortedHeap s.heap a vs (J4 o Value.none vs).toArray=h6.update a (Obj.mapSeq fun _=>(J4 o Value.none vs).toArray):=fun o=>by rw [<- hh]; rfl
 show wpAny (model prog w) A _ P E { s with heap:=h6 }
 dsimp only
 have hs0:vs.toArray.size=vs.length:=by simp
 have hz2:∀ o,P9 ss o->(J4 o Value.none vs).toArray.size<=sizeLine+1:=fun o ok=>by rw [qC1,jI ok,sizeLine_eq]; omega
 by_cases c2:vs.toArray.size<2
 ·rw [qA1 c2,qA1 c2]
  refine qA2 (wpAny_pure ?_)
  rw [StateT.run_pure]
  refine qA2 (wpAny_pure ?_)
  dsimp only
  have ok:P9 ss (List.range ss.length):=⟨.refl _,by unfold F3 jK; rw [qA1 (by omega)]⟩
  have eo:Array.map (fun x=>x.snd) (arrOf (SortSt.mk' general' (vs.toArray.zip vs.toArray) #[] 7 none))=(J4 (List.range ss.length) Value.none vs).toArray:=by
   show Array.map (fun x=>x.snd) (vs.toArray.zip vs.toArray)=_
   apply qN8.mp
   rw [Array.toList_map,Array.toList_zip,<- hl]
   apply qJ6
   ·simp
   ·intro i h1 h2; simp at h1 h2; simp [h1]
  rw [eo]
  refine qA2 (seqEpoch_at KH rfl (qA2 (listUpdate_at KH rfl ?_ (qC3 _) (hz2 _ ok))))
  simp only [bne_self_eq_false,qD5,if_false]
  have q:=hyp _ ok
  rw [kN] at q
  exact wpAny_pure q
 ·rw [qA3 c2,qA3 c2]
  have tt:=ht h6 h6k
  obtain ⟨fs,kt,fl,fi⟩:=iY tt
  refine qA2 (kat_kind (s:={ s with heap:=h6 }) (T:=.type "int") kt (by omega) (fun v hv=>?_) (by decide) ?_)
  ·obtain ⟨i,t,rfl⟩:=fi v hv
   exact Looks.of_pure rfl
  have hz:(vs.toArray.zip vs.toArray).toList=(List.range vs.length).map fun i=>(vs.getD i Value.none,vs.getD i Value.none):=by
   rw [Array.toList_zip]
   apply qJ6
   ·simp
   ·intro i h1 h2; simp at h1 h2; simp [h1]
  have GI:∀ x∈vs.toArray.zip vs.toArray,∃ i,i<vs.length/\x=(vs.getD i Value.none,vs.getD i Value.none):=fun x hx=>by
   have:x∈(vs.toArray.zip vs.toArray).toList:=by simpa using hx
   rw [hz] at this
   obtain ⟨i,hi,e⟩:=qB4.mp this
   exact ⟨i,qF2.mp hi,e.symm⟩
  have cm:Cmp prog w A { s with heap:=h6 } (tuples' (Value.type "int" != Value.type "tuple")) (rkV vs ss) (vs.toArray.zip vs.toArray):=fun x hx y hy Q hQ=>by
   obtain ⟨i,hi,rfl⟩:=GI x hx
   obtain ⟨j,hj,rfl⟩:=GI y hy
   rw [eZ tt hi,eZ tt hj,gu (by omega) (by omega)] at hQ
   obtain ⟨x,hx,tx⟩:=B4 (d:=Value.none) tt hi
   obtain ⟨y,hy,ty⟩:=B4 (d:=Value.none) tt hj
   have ex:ss.getD i []=x:=by rw [qA0,hx]; rfl
   have ey:ss.getD j []=y:=by rw [qA0,hy]; rfl
   rw [ex,ey] at hQ
   exact xI (s:={ s with heap:=h6 }) tx.1 ty.1 hQ
  refine qA2 (wpAny_mono (lF (E:=E) (Q:=fun _ Gg=>failedOf Gg=none/\∃ o,P9 ss o/\(arrOf Gg).map (·.2)=(J4 o Value.none vs).toArray) cm (by simp at c2 ⊢; omega) fun Gg p1 p2 p3=>⟨p2,?_⟩) ?_ fun _ _ e=>e)
  ·rw [hz] at p1
   obtain ⟨o,o1,o2⟩:=tS p1 _ rfl
   refine ⟨o,AY (by rw [<- hl]; exact o1) ?_,?_⟩
   ·unfold upL at p3
    rw [o2,qH2] at p3
    refine qL2 (fun {i j} hi hj q=>?_) p3
    have hi:=qF2.mp (o1.mem_iff.mp hi)
    have hj:=qF2.mp (o1.mem_iff.mp hj)
    rw [eZ tt hi,eZ tt hj] at q
    exact q
   ·apply qN8.mp
    rw [Array.toList_map,o2,qD0]
    rfl
  rintro ⟨⟨⟩,Gg⟩ s' ⟨rfl,hf',o,ok,Ho⟩
  dsimp only
  rw [Ho]
  refine qA2 (seqEpoch_at KH rfl (qA2 (listUpdate_at KH rfl ?_ (qC3 _) (hz2 o ok))))
  rw [hf']
  simp only [bne_self_eq_false,qD5,if_false]
  have q:=hyp o ok
  rw [kN] at q
  exact wpAny_pure q
def je {l:Addr} {vs:List Value} {ss:List (List Int)} {Q:Value->Shared->Prop} (hL:s.heap.IsList l vs.toArray) (hl:vs.length=ss.length) (GT:ss.length<=1000)
  (ht:Paired (fun v xs=>TupI s.heap v xs/\xs ≠ []) vs ss) (hyp:∀ o,P9 ss o->Q (.ref (s.heap.objs.size+1)) { s with heap:=sortedAll s.heap vs (J4 o Value.none vs).toArray }):wpAny (model prog w) A (call (.builtin "sorted") [.ref l]) Q E s:=by
 refine Calls.call_function_entry kind_sorted plain_sorted entry_sorted (args_sorted1 _) ?_
 unfold Builtin.«sorted»; refine qA2 (m:=checkCount "sorted" 1 1 _) (wpAny_pure (qA2 (collect_list hL (qA2 (wpAny_newList ?_ (by rw [sizeLine_eq]; omega))) (by rw [sizeLine_eq]; omega))))
 generalize hg:(s.heap.push (seqObj "list" #[] 0)).update s.heap.objs.size (Obj.mapSeq (·++vs.toArray))=g
 have gz:g.objs.size=s.heap.objs.size+1:=by rw [<- hg,Heap.size_update,size_push']
 have gk:∀ b o,s.heap.get? b=some o->g.get? b=some o:=fun b o e=>by
  have GA:=qB7 e
  rw [<- hg,qM7 _ _ _ _ (qC7 GA)]; exact qA6 _ e
 have go:(g.push (seqObj "list" vs.toArray 0)).get? (s.heap.objs.size+1)=some (seqObj "list" vs.toArray 0):=by rw [<- gz]; exact qC6 _ rfl
 have ea:∀ o,sortedAll s.heap vs (J4 o Value.none vs).toArray=sortedHeap (g.push (seqObj "list" vs.toArray 0)) (s.heap.objs.size+1) vs (J4 o Value.none vs).toArray:=fun o=>by rw [<- hg]; rfl
 show wpAny _ _ _ _ _ { s with heap:=g.push (seqObj "list" vs.toArray 0) }
 rw [gz]
 refine qA2 (wpAny_holding (wpAny_call_entry slot_list_sort ⟨_,go,rfl⟩ entry_list_sort (nF go hl GT (fun h' hk=>?_) fun o ok=>⟨_,rfl,wpAny_pure ⟨_,rfl,by have q:=hyp o ok; rw [ea] at q; exact q⟩⟩) (args_list_sort _)))
 refine Paired.mapP ht fun v xs hv=>⟨?_,hv.2⟩
 obtain ⟨a,o,its,m,rfl,h1,h2,h3,h4⟩:=hv.1
 exact ⟨a,o,its,m,rfl,hk a o (qC7 (Nat.lt_succ_of_lt (qB7 h1))) (qA6 _ (gk a o h1)),h2,h3,h4⟩
end
def oZ {ss:List (List Int)} {o:List Nat} {ys:List V} {its:List Value} (ok:P9 ss o) (r:Vals ys its) (hl:ys.length=ss.length):Vals (J4 o V.non ys) (J4 o Value.none its):=P1 fun i hi=>by
 have GC:i<ys.length:=by have:=ok.1.mem_iff.mp hi; rw [qF2] at this; omega
 obtain ⟨u,e,q⟩:=B4 (d:=V.non) r GC
 rw [show its.getD i Value.none=u by rw [qA0,e]; rfl]
 exact q
section
variable {X:Cx} {K:Frag}
def oE (hK:X.K=K:=by rfl):K0 X (.builtin "sorted") (fun xs H Q=>∃ p ys ss,xs = [.ref p]/\SqL K H p ys/\Paired (fun v zs=>(∃ a,v=.ref a/\SqT K H a (zs.map V.int))/\zs ≠ []) ys ss/\ss.length<=1000/\∀ l o,P9 ss o->H l=none->Q (.ref l) (upd H l (.lst (J4 o V.non ys)))):=by
 subst hK
 intro pins s σ H xs us Q I r h
 obtain ⟨p,ys,ss,rfl,hq,ht,GT,q⟩:=h
 obtain ⟨u,rfl,ru⟩:=Q2 r
 cases ru
 obtain ⟨its,rv,pl,hz⟩:=I.list hq
 have hlen:=rv.length
 have Lb:ys.length=ss.length:=Paired.length ht
 have tt:Paired (fun v xs=>TupI s.heap v xs/\xs ≠ []) its ss:=dG rv ht fun v u zs r1 r2=>by
  obtain ⟨⟨a,rfl,hs⟩,Gr⟩:=r2
  cases r1
  obtain ⟨Gu,Hj,⟨o,e,c,k,dd⟩,_⟩:=I.tuple hs
  exact ⟨⟨a,o,Gu,k,rfl,e,c,dd,Hj⟩,Gr⟩
 refine je pl.isList (by omega) GT tt fun o ok=>?_
 obtain ⟨e,he⟩:=PyProof.Rows.sortedAll_at s.heap its (J4 o Value.none its).toArray
 have hle:s.heap.objs.size<=s.heap.objs.size+1:=Nat.le_succ _
 refine ⟨.ref (s.heap.objs.size+1),_,I.laid (t':=s.toks) (fun b o q=>PyProof.Rows.sortedAll_old q) hle (show ObjOk X.prog X.w _ _ _ (.lst (J4 o V.non ys)) from ⟨by rw [jI ok]; exact qA9 GT (by decide),J4 o Value.none its,e,oZ ok rv (by omega),he⟩),rfl,q _ o ok (I.hok.fresh hle)⟩
end
def fSortA:List W->R W
 | [w]=>match lstOf w with
  | some ws=>match O7 ws with
   | some ss=>if ss.length<=1000/\ss.all (fun x=>!x.isEmpty)=true then .ok (.lst ((F3 ss).map fun x=>W.tup (x.map W.int))) else .stuck
   | none=>.stuck
  | none=>.stuck
 | _=>.stuck
section
variable {K:Frag}
def qc {F:Hp} {ys:List V} {ss:List (List Int)} {o:List Nat} (ok:P9 ss o) (r:Reps K F ys (ss.map fun x=>W.tup (x.map W.int))):Reps K F (J4 o V.non ys) ((F3 ss).map fun x=>W.tup (x.map W.int)):=by
 have hl:=r.length
 rw [qA5] at hl
 rw [<- ok.2,qD0]
 refine eC fun i hi=>?_
 have GC:i<ss.length:=by have:=ok.1.mem_iff.mp hi; rwa [qF2] at this
 obtain ⟨w,e,q⟩:=gn (i:=i) r (by omega)
 rw [qB5] at e
 have:ss[i]?=some (ss.getD i []):=by rw [qA0]; simp [GC]
 rw [this] at e
 cases e
 exact q
def yL {c:Bool}:Cal K (cb c) .F (fun xs H Q=>∃ p ys ss,xs = [.ref p]/\SqL K H p ys/\Paired (fun v zs=>(∃ a,v=.ref a/\SqT K H a (zs.map V.int))/\zs ≠ []) ys ss/\ss.length<=1000/\∀ l o,P9 ss o->H l=none->Q (.ref l) (upd H l (.lst (J4 o V.non ys)))) fSortA:=by
 intro EX H0 Hs G H ρ σ Ha vs ws Q I s m o
 cases m with
 | nil=>exact o.elim
 | cons a t=>
  cases t with
  | cons _ _=>exact o.elim
  | nil=>
   rename_i w v
   unfold fSortA at o
   cases hl:lstOf w with
   | none=>simp only [hl] at o; exact o.elim
   | some us=>
    simp only [hl] at o
    cases ht:O7 us with
    | none=>simp only [ht] at o; exact o.elim
    | some ss=>
     simp only [ht] at o
     by_cases hc:ss.length<=1000/\ss.all (fun x=>!x.isEmpty)=true
     ·rw [qA1 hc] at o
      obtain ⟨p,ys,rfl,hs,r⟩:=Md.lstOf I a hl
      rw [iZ ht] at r
      have Gr:∀ x∈ss,x ≠ []:=fun x hx=>by
       have:=qF6.mp hc.2 x hx
       intro e; subst e; simp at this
      have sm:Same (if c then G else join H0 G) H:=by
       cases c with
       | true=>rw [qA1 rfl]; exact I.gh
       | false=>rw [qA3 qA4]; exact I.join_H
      refine ⟨p,ys,ss,rfl,hs,Paired.mapP (ie r Gr) fun v zs h=>⟨?_,h.2⟩,hc.1,fun l od ok=>Out.chks (EX:=EX) (c:=c) I s (qc ok r) ?_ l⟩
      ·obtain ⟨b,e,q⟩:=h.1
       exact ⟨b,e,SqT.of (sm _ _ q)⟩
      ·have e:TP.chks c ((F3 ss).map fun x=>W.tup (x.map W.int))=.ok (.lst ((F3 ss).map fun x=>W.tup (x.map W.int))):=by
        unfold TP.chks
        rw [eF,qN4,qA1 rfl]
       rw [e]; exact o
     ·rw [qA3 hc] at o; exact o.elim
end
end TP
namespace TP
open PySem L2
def spX (K:Frag) (n:Nat) (f:List W->R W):Sp:=fun vs H Q E=>vs.length=n/\∃ F ws,Same F H/\Reps K F vs ws/\match f ws with
 | .ok w=>∀ v G' H',Same F G'->Same H H'->Same G' H'->(∀ a o,H a=some o->isL o=true->F a=none->G' a=none)->Rep K G' v w->Q v H'
 | .ex e=>∀ H',Same H H'->XE E e H'
 | .stuck=>False
def N1 (n N:Nat) (m:Rho->R Fl) (ws:List W):R W:=if ws.length=n then (m (ws.map Sl.val++List.replicate (N-n) Sl.un)>>=fun f=>match f with
 | .rt w=>.ok w
 | .nx _=>.ok .non
 | _=>.stuck) else .stuck
def jw {n N:Nat} {m:Rho->R Fl} (ws:List W) (h:N1 n N m ws≠.stuck):ws.length=n:=by
 unfold N1 at h
 by_cases e:ws.length=n
 ·exact e
 ·rw [qA3 e] at h; exact absurd rfl h
def less (H F:Hp):Hp:=fun a=>match F a with
 | some _=>none
 | none=>H a
section
variable {K:Frag} {EX:EXT} {H0 G H G1 H1 F:Hp} {ρ:Rho} {σ:St} {d:Mode} {D:Ends}
def kI {a:Addr} (h:F a=none):less H F a=H a:=by unfold less; rw [h]
def kH {a:Addr} {o:HO} (h:less H F a=some o):F a=none/\H a=some o:=by
 unfold less at h
 cases q:F a with
 | none=>rw [q] at h; exact ⟨rfl,h⟩
 | some u=>rw [q] at h; cases h
def hX {H':Hp} (sF:Same F H) (h1:Same (less H F) H') (h2:Same F H'):Same H H':=fun a o e=>by
 cases q:F a with
 | none=>exact h1 a o (by rw [kI q]; exact e)
 | some u=>
  have:=sF a u q
  rw [e] at this; cases this
  exact h2 a o q
def Bg {a:Addr} {o:HO} (h:A0 H a=some o):H a=some o/\isL o=false:=by
 unfold A0 at h
 cases q:H a with
 | none=>rw [q] at h; cases h
 | some u=>
  rw [q] at h
  dsimp only at h
  cases hl:isL u
  ·rw [hl] at h; cases h; exact ⟨rfl,hl⟩
  ·rw [hl] at h; cases h
def pF:∀ {vs:List V} {ws:List W} {i:Nat} {x:Sl} {o:Option V} {k k':Nat},Reps K F vs ws->(ws.map Sl.val++List.replicate k Sl.un)[i]?=some x->(vs.map some++List.replicate k' none)[i]?=some o->x=.un\/∃ v w,x=.val w/\o=some v/\Rep K F v w
 | _,_,i,x,o,k,k',.nil,h1,h2=>by
  simp only [qI9,qN1,qG0] at h1
  split at h1 <;> simp only [qH3,reduceCtorEq] at h1
  exact .inl h1.symm
 | _,_,0,x,o,k,k',.cons r _,h1,h2=>by
  simp at h1 h2
  exact .inr ⟨_,_,h1.symm,h2.symm,r⟩
 | _,_,i+1,x,o,k,k',.cons _ t,h1,h2=>by
  simp only [qC0,List.cons_append,List.getElem?_cons_succ] at h1 h2
  exact pF t h1 h2
def PIv.beginX {vs:List V} {ws:List W} {k k':Nat} (sF:Same F H) (r:Reps K F vs ws) (hk:k=k'):PIv K (less H F) (both F (A0 H)) (ws.map Sl.val++List.replicate k Sl.un) (vs.map some++List.replicate k' none) H where
 g0 a o e l:=by
  obtain ⟨h1,h2⟩:=kH e
  unfold both; rw [h1]; dsimp only
  unfold A0; rw [h2]; dsimp only; rw [l]; rfl
 gl a o e l:=by
  obtain ⟨h1,h2⟩:=kH e
  unfold both; rw [h1]; dsimp only
  unfold A0; rw [h2]; dsimp only; rw [l]; rfl
 gh a o e:=by
  unfold both at e
  cases q:F a with
  | none=>rw [q] at e; exact (Bg e).1
  | some u=>rw [q] at e; cases e; exact sF a _ q
 hh a o e:=(kH e).2
 len:=by subst hk; simp [r.length]
 sl i x o h1 h2:=by
  rcases pF r h1 h2 with rfl | ⟨v,w,rfl,rfl,q⟩
  ·trivial
  ·exact ⟨v,rfl,q.same fun b u e=>by unfold both; rw [e]⟩
 ne i j us xs a Gw h1 _ _ _:=by
  have:∀ (i:Nat) (us:List W),(ws.map Sl.val++List.replicate k Sl.un)[i]?≠some (Sl.own us):=fun i us q=>by
   rw [List.getElem?_append] at q
   split at q
   ·rw [qB5] at q
    cases hh:ws[i]? <;> rw [hh] at q <;> cases q
   ·rw [qG0] at q
    split at q <;> cases q
  exact absurd h1 (this i us)
def yG {n:Nat} {Nl:List Str} {m:Rho->R Fl} {vs:List V} {Q:VK} {E:XK} (h:spX K n (N1 n Nl.length m) vs H Q E):tSt K (fun _ _=>False) .V m { nx:=fun _ H'=>Q .non H',rt:=Q } (L2.start Nl vs) H:=by
 obtain ⟨hl,F,ws,sF,r,o⟩:=h
 have hw:ws.length=n:=by rw [<- r.length]; exact hl
 unfold N1 at o
 rw [qA1 hw] at o
 have sB:Same F (both F (A0 H)):=fun b u e=>by unfold both; rw [e]
 refine ⟨less H F,both F (A0 H),_,PIv.beginX (k:=Nl.length-n) sF r (by rw [hl]),?_⟩
 revert o
 cases m (ws.map Sl.val++List.replicate (Nl.length-n) Sl.un) with
 | stuck=>exact id
 | ex e=>exact fun o=>(o H (Same.refl H)).elim
 | ok f=>
  cases f with
  | nx ρ'=>exact fun o G' σ' H' s' I'=>o .non G' H' (sB.trans s') (hX sF I'.hh ((sB.trans s').trans I'.gh)) I'.gh (fun a o e l q=>I'.gl a o (by rw [kI q]; exact e) l) .non
  | rt w=>exact fun o v G' H' s0 s1 s2 c md=>o v G' H' (sB.trans s0) (hX sF s2 ((sB.trans s0).trans s1)) s1 (fun a o e l q=>c a o (by rw [kI q]; exact e) l) md
  | bk _=>exact fun o=>o.elim
  | ct _=>exact fun o=>o.elim
def frzL:List Nat->Rho->Rho
 | [],ρ=>ρ
 | j::js,ρ=>frzL js (frz j ρ)
def PIv.frzL:∀ {js:List Nat} {G:Hp} {ρ:Rho},PIv K H0 G ρ σ H->∃ G',Same G G'/\PIv K H0 G' (frzL js ρ) σ H
 | [],G,ρ,I=>⟨G,Same.refl G,I⟩
 | j::js,G,ρ,I=>by
  obtain ⟨G1,s1,I1⟩:=I.frz (i:=j)
  obtain ⟨G2,s2,I2⟩:=PIv.frzL (js:=js) I1
  exact ⟨G2,s1.trans s2,I2⟩
def dZ (i:Nat) (js:List Nat) (w:W) (ρ:Rho):Rho:=if noL w=true then ρ.set i (.val w) else (frzL js ρ).set i (.val w)
def sCX (i:Nat) (js:List Nat) (f:List W->R W) (ma:Rho->R (List W)):Rho->R Fl:=fun ρ=>ma (frzL js ρ)>>=fun ws=>f ws>>=fun w=>.ok (.nx (dZ i js w ρ))
def MdA.repsV {Hs:Hp}:∀ {ws:List W} {vs:List V},MdA K .V H0 Hs G H ws vs->Reps K G vs ws
 | _,_,.nil=>.nil
 | _,_,.cons h t=>.cons h (MdA.repsV t)
def yE {i n:Nat} {js:List Nat} {f:List W->R W} {E:XK} {ma:Rho->R (List W)} (hf:∀ ws,f ws≠.stuck->ws.length=n) (hE:∀ e H,EX e H->XE E e H) (h:tSt K EX d (sCX i js f ma) D σ H) :
  fW (eW (spX K n f) [] E (tA K EX .V ma)) (P4 i) D σ H:=by
 obtain ⟨H0,G,ρ,I,o⟩:=h
 obtain ⟨G2,s2,I2⟩:=I.frzL (js:=js)
 refine ⟨H0,G2,frzL js ρ,I2,?_⟩
 unfold sCX at o
 cases hma:ma (frzL js ρ) with
 | stuck=>rw [hma] at o; exact o.elim
 | ex e=>rw [hma] at o; exact fun H' s=>o H' (I.hh.trans s)
 | ok ws=>
  rw [hma,R.ok_bind] at o
  intro xs G1 H1 e1 m1
  have I1:=I2.ext e1
  have r:=MdA.repsV m1
  rw [qG1]
  refine ⟨?_,G1,ws,I1.gh,r,?_⟩
  ·rw [r.length]
   refine hf ws fun z=>?_
   rw [z] at o; exact o
  ·revert o
   cases f ws with
   | stuck=>exact id
   | ex e=>exact fun o H' s=>hE e H' (o H' (I1.hh.trans s))
   | ok w=>
    intro o v G' H' sG sH gH cl md
    rw [R.ok_bind] at o
    by_cases hn:noL w=true
    ·have hs:dZ i js w ρ=ρ.set i (.val w):=qA1 hn
     rw [hs] at o
     have Kl:Same H H':=e1.hh.trans sH
     have rH:Rep K H' v w:=md.same gH
     have sN:Same (A0 H') H':=Bh K H'
     have sB:Same G (both G (A0 H')):=fun b o q=>by unfold both; rw [q]
     have GY:Same (A0 H') (both G (A0 H')):=fun b o q=>by
      unfold both
      cases q1:G b with
      | none=>exact q
      | some y=>
       have a1:=Kl b y (I.gh b y q1)
       rw [sN b o q] at a1
       exact a1.symm
     have JC:Same (both G (A0 H')) H':=fun b o q=>by
      unfold both at q
      cases q1:G b with
      | none=>rw [q1] at q; exact sN b o q
      | some y=>rw [q1] at q; cases q; exact Kl b _ (I.gh b _ q1)
     have ex:Ext G H (both G (A0 H')) H':=⟨sB,Kl,JC,fun b o q l g=>by
      unfold both; rw [g]; dsimp only
      unfold A0; rw [Kl b o q]; dsimp only; rw [qA1 l]⟩
     exact o _ _ H' sB ((I.ext ex).setV ((Rep.ofNoL rH hn).same GY))
    ·have hs:dZ i js w ρ=(frzL js ρ).set i (.val w):=qA3 hn
     rw [hs] at o
     have ex:Ext G1 H1 G' H':=⟨sG,sH,gH,cl⟩
     exact o G' _ H' ((s2.trans e1.gg).trans sG) ((I1.ext ex).setV md)
def vi {n:Nat} {f:List W->R W} {E:XK} {ma:Rho->R (List W)} {Q:VK} (hf:∀ ws,f ws≠.stuck->ws.length=n) (hE:∀ e H,EX e H->XE E e H) (h:tM K EX .V (fun ρ=>ma ρ>>=fun ws=>f ws) σ H Q) :
  eW (spX K n f) [] E (tA K EX .V ma) σ H Q:=by
 obtain ⟨H0,G,ρ,I,o⟩:=h
 refine ⟨H0,G,ρ,I,Out.bind o fun xs G1 H1 ws e1 m1 o1=>?_⟩
 have I1:=I.ext e1
 have r:=MdA.repsV m1
 rw [qG1]
 refine ⟨?_,G1,ws,I1.gh,r,?_⟩
 ·rw [r.length]
  refine hf ws fun z=>?_
  rw [z] at o1; exact o1
 ·revert o1
  cases f ws with
  | stuck=>exact id
  | ex e=>exact fun o1 H' s=>hE e H' (o1 H' s)
  | ok w=>exact fun o1 v G' H' sG sH gH cl md=>o1 v G' H' ⟨sG,sH,gH,cl⟩ md
end
section
variable {X:Cx} {K:Frag} {d:Mode} {e:Expr} {es:List Expr} {pos:Pos} {mr:Rho->R (List W)}
def wS {k:Nat} {f:Addr} {fd:FuncData} {ps:List Str} {x:Str} {p:Pos} {n N:Nat} {m:Rho->R Fl} (F:FnOk X.prog X.w X.K X.mg X.base CX0 k f fd ps (spX K n (N1 n N m))) (hr:Room k X.A) (hg:Gl X x) (hm:X.mg x=some (.ref f)) (hk:PySem.W.keepIn X.K (.ref f)=true) (hb:Binds X.K fd ps [])
  (ha:PA X (e::es) (tA K (fun _ _=>False) .V mr)) (GR:(x == ("__debug__" : Str))=false:=by decide) (he:starEach (e::es) X.env=(false,eval e X.env)::starEach es X.env:=by rfl) (GH:(backTo pos (starEach es X.env)).any (·.1)=false:=by rfl) :
  PE X (.Call (.Name x p) (e::es) [] pos) (tM K (fun _ _=>False) .V (bA (N1 n N m) mr)):=
 (cV F hr hg hm hk hb .nil fg ha GR he GH).mono fun _ _ _ q=>vi (fun ws h=>jw ws h) (fun _ _ z=>z) q
def gx {i k:Nat} {js:List Nat} {y:Str} {pos':Pos} {f:Addr} {fd:FuncData} {ps:List Str} {x:Str} {p Gi:Pos} {n N:Nat} {m:Rho->R Fl} (hN:X.N.Nodup) (hi:X.N[i]?=some y) (hy:Loc X.env.scope y)
  (F:FnOk X.prog X.w X.K X.mg X.base CX0 k f fd ps (spX K n (N1 n N m))) (hr:Room k X.A) (hg:Gl X x) (hm:X.mg x=some (.ref f)) (hk:PySem.W.keepIn X.K (.ref f)=true) (hb:Binds X.K fd ps [])
  (ha:PA X (e::es) (tA K (fun _ _=>False) .V mr)) (GR:(x == ("__debug__" : Str))=false:=by decide) (he:starEach (e::es) X.env=(false,eval e X.env)::starEach es X.env:=by rfl) (GH:(backTo Gi (starEach es X.env)).any (·.1)=false:=by rfl)
  (hs:swapsWith (.Call (.Name x p) (e::es) [] Gi) (some (.Name y pos')) pos.line X.env=pure false:=by rfl) (hf:X.fn y=true\/X.env.scope.names.lookup y=some .local:=by first | exact .inl rfl | exact .inr rfl | assumption) :
  PS X (.Assign [.Name y pos'] (.Call (.Name x p) (e::es) [] Gi) pos) (tSt K (fun _ _=>False) d (sCX i js (N1 n N m) mr)):=
 (ff hN hi hy (cV F hr hg hm hk hb .nil fg ha GR he GH) hs hf).mono fun _ _ _ q=>yE (fun ws h=>jw ws h) (fun _ _ z=>z) q
end
def eM (ρ:Rho):frzL [] ρ=ρ:=rfl
def cv (j:Nat) (js:List Nat) (ρ:Rho):frzL (j::js) ρ=frzL js (frz j ρ):=rfl
def RcX (f:List W->R W) (i:Nat) (js:List Nat) (ρ:Rho):R (List W)->R Fl
 | .ok ws=>f ws>>=fun w=>.ok (.nx (dZ i js w ρ))
 | .ex e=>.ex e
 | .stuck=>.stuck
def jv (i:Nat) (js:List Nat) (f:List W->R W) (ma:Rho->R (List W)) (ρ:Rho):sCX i js f ma ρ=RcX f i js ρ (ma (frzL js ρ)):=by
 unfold sCX
 cases ma (frzL js ρ) <;> rfl
def lB (f:List W->R W) (i:Nat) (js:List Nat) (ρ:Rho) (ws:List W):RcX f i js ρ (.ok ws)=(f ws>>=fun w=>.ok (.nx (dZ i js w ρ))):=rfl
end TP
namespace TP
open PySem L2
section
variable {K:Frag} {EX:EXT} {X:Cx} {tg e:Expr} {ma:Rho->R W}
end
end TP
namespace TP
open PySem L2
def Fw (H:Hp):Prop:=∀ a vs,H a≠some (.lst vs)
def OutN (K:Frag) (d:Mode) (Hb:Hp) (r:R Fl) (D:Ends):Prop:=match r with
 | .ok (.nx ρ)=>∀ H0 G' σ' H',Same Hb H0->PIv K H0 G' ρ σ' H'->D.nx σ' H'
 | .ok (.rt w)=>∀ v G' H',Same G' H'->Same Hb H'->(∀ a o,Hb a=some o->isL o=true->G' a=none)->Md K Hb Hb G' H' v w d->D.rt v H'
 | _=>False
def tStN (K:Frag) (EX:EXT) (d:Mode) (m:Rho->R Fl):TS:=fun D σ H=>∃ Hb H0 G ρ,Fw Hb/\Same Hb H0/\PIv K H0 G ρ σ H/\OutN K d Hb (m ρ) D
section
variable {K:Frag} {EX:EXT} {Hb H0 G H G1 H1 G2 H2:Hp} {ρ:Rho} {σ:St} {d:Mode} {D:Ends}
end
section
variable {X:Cx} {K:Frag} {EX:EXT} {d:Mode} {e:Expr} {es:List Expr} {pos:Pos} {ma:Rho->R W} {mr:Rho->R (List W)} {m n:Rho->R Fl} {ta:Rho->R Bool} {st:Stmt} {HH:List Stmt}
end
end TP
namespace TP
open PySem L2
abbrev tI (ns:List Int):W:=.tup (ns.map W.int)
abbrev lI (ns:List Int):W:=.lst (ns.map W.int)
def O5 (ns:List Int):m5 (ns.map W.int)=true:=by
 induction ns with
 | nil=>rfl
 | cons n ns ih=>rw [qC0]; simp only [m5,noL,ih,qN7]
def yk (n:Bool) (i j:Int):j9 n (.int i) (.int j)=.ok (.bl (if n then !decide (i=j) else decide (i=j))):=by
 show R.ok (W.bl (if n then !decide (V.int i=V.int j) else decide (V.int i=V.int j)))=_
 rw [show decide (V.int i=V.int j)=decide (i=j) from decide_eq_decide.mpr ⟨V.int.inj,congrArg _⟩]
def yl (n:Bool) (i j:Bool):j9 n (.bl i) (.bl j)=.ok (.bl (if n then !decide (i=j) else decide (i=j))):=by
 show R.ok (W.bl (if n then !decide (V.bl i=V.bl j) else decide (V.bl i=V.bl j)))=_
 rw [show decide (V.bl i=V.bl j)=decide (i=j) from decide_eq_decide.mpr ⟨V.bl.inj,congrArg _⟩]
def yg (n:Bool) (i j:Str):j9 n (.str i) (.str j)=.ok (.bl (if n then !decide (i=j) else decide (i=j))):=by
 show R.ok (W.bl (if n then !decide (V.str i=V.str j) else decide (V.str i=V.str j)))=_
 rw [show decide (V.str i=V.str j)=decide (i=j) from decide_eq_decide.mpr ⟨V.str.inj,congrArg _⟩]
def yh (n:Bool):j9 n .non .non=.ok (.bl (!n)):=by cases n <;> rfl
def yi (n:Bool) (i:Int):j9 n .non (.int i)=.ok (.bl n):=by cases n <;> rfl
def yj (n:Bool) (i:Int):j9 n (.int i) .non=.ok (.bl n):=by cases n <;> rfl
def atW {ns:List Int} {i:Int} (h0:0<=i) (h1:i<ns.length):L2.atI (ns.map W.int) i=some (.int (ns.getD i.toNat 0)):=by
 unfold L2.atI
 rw [qA5,aE h0 h1]
 show (ns.map W.int)[i.toNat]?=_
 rw [qB5,O0 (by omega)]; rfl
def cF {ws:List W} {k:Nat} {w:W} (h:ws[k]?=some w):L2.atI ws (k:Int)=some w:=by
 have hk:=(qA7.mp h).1
 unfold L2.atI
 rw [aE (by omega) (by omega),qJ2]
 exact h
def andThen (r:R Fl) (n:Rho->R Fl):R Fl:=r>>=fun f=>match f with
 | .nx ρ'=>n ρ'
 | .rt w=>.ok (.rt w)
 | .bk ρ'=>.ok (.bk ρ')
 | .ct ρ'=>.ok (.ct ρ')
def xC (m n:Rho->R Fl) (ρ:Rho):d6 m n ρ=andThen (m ρ) n:=rfl
def oJ (ρ:Rho) (n:Rho->R Fl):andThen (.ok (.nx ρ)) n=n ρ:=rfl
def oI (w:W) (n:Rho->R Fl):andThen (.ok (.rt w)) n=.ok (.rt w):=rfl
def oM (ρ:Rho) (n:Rho->R Fl):andThen (.ok (.bk ρ)) n=.ok (.bk ρ):=rfl
def oK (ρ:Rho) (n:Rho->R Fl):andThen (.ok (.ct ρ)) n=.ok (.ct ρ):=rfl
def EB (w:W) (ρ:Rho):mC w ρ=.ok w:=rfl
def Fp (f:W->R W) (ma:Rho->R W) (ρ:Rho):b1 f ma ρ=(ma ρ>>=f):=rfl
def R2b (a b:R W) (f:W->W->R W):R W:=a>>=fun x=>b>>=fun y=>f x y
def Fo (f:W->W->R W) (ma mb:Rho->R W) (ρ:Rho):b2 f ma mb ρ=R2b (ma ρ) (mb ρ) f:=rfl
def DV (x y:W) (f:W->W->R W):R2b (.ok x) (.ok y) f=f x y:=rfl
def Fn (f:List W->R W) (ma:Rho->R (List W)) (ρ:Rho):bA f ma ρ=(ma ρ>>=f):=rfl
def Fm (f:List W->R (List W)) (ma:Rho->R (List W)) (ρ:Rho):bI f ma ρ=(ma ρ>>=f):=rfl
def Fk (ma:Rho->R W) (ρ:Rho):bS ma ρ=(ma ρ>>=B3):=rfl
def Ft (ρ:Rho):aN ρ=.ok []:=rfl
def fR (a:R W) (b:R (List W)):R (List W):=a>>=fun x=>b>>=fun xs=>.ok (x::xs)
def Fu (ma:Rho->R W) (mr:Rho->R (List W)) (ρ:Rho):aC ma mr ρ=fR (ma ρ) (mr ρ):=rfl
def vp (x:W) (xs:List W):fR (.ok x) (.ok xs)=.ok (x::xs):=rfl
def yN (ma:Rho->R W) (ρ:Rho):cE ma ρ=(ma ρ>>=chk):=rfl
def vk (ma:Rho->R W) (ρ:Rho):d9 ma ρ=(ma ρ>>=toB):=rfl
def wp (a b:Rho->R Bool) (ρ:Rho):R6 a b ρ=rAnd (a ρ) (b ρ):=rfl
def zk (a b:Rho->R Bool) (ρ:Rho):al a b ρ=rOr (a ρ) (b ρ):=rfl
def wo (a:Rho->R Bool) (ρ:Rho):J8 a ρ=nP (a ρ):=rfl
def wP (x y:Bool):rAnd (.ok x) (.ok y)=.ok (x&&y):=by cases x <;> rfl
def wQ (r:R Bool):rAnd (.ok false) r=.ok false:=rfl
def wO (r:R Bool):rAnd (.ok true) r=r:=rfl
def Aw (x y:Bool):rOr (.ok x) (.ok y)=.ok (x||y):=by cases x <;> rfl
def Av (r:R Bool):rOr (.ok true) r=.ok true:=rfl
def Ax (r:R Bool):rOr (.ok false) r=r:=rfl
def wK (x:Bool):nP (.ok x)=.ok (!x):=rfl
def wk (a b:Rho->R W) (ρ:Rho):nt a b ρ=cR (a ρ) (b ρ):=rfl
def zd (a b:Rho->R W) (ρ:Rho):vOr a b ρ=jC (a ρ) (b ρ):=rfl
def wg (a:Rho->R W) (ρ:Rho):vNot a ρ=nO (a ρ):=rfl
def tK (x y:Bool):cR (.ok (.bl x)) (.ok (.bl y))=.ok (.bl (x&&y)):=by cases x <;> rfl
def tL (r:R W):cR (.ok (.bl false)) r=.ok (.bl false):=rfl
def tJ (r:R W):cR (.ok (.bl true)) r=r:=rfl
def wI (x y:Bool):jC (.ok (.bl x)) (.ok (.bl y))=.ok (.bl (x||y)):=by cases x <;> rfl
def wH (r:R W):jC (.ok (.bl true)) r=.ok (.bl true):=rfl
def wJ (r:R W):jC (.ok (.bl false)) r=r:=rfl
def tG (x:Bool):nO (.ok (.bl x))=.ok (.bl (!x)):=rfl
def nQ (c:R Bool) (a b:R W):R W:=c>>=fun t=>if t then a else b
def ze (c:Rho->R Bool) (a b:Rho->R W) (ρ:Rho):vIf c a b ρ=nQ (c ρ) (a ρ) (b ρ):=rfl
def wL (a b:R W):nQ (.ok true) a b=a:=rfl
def wN (a b:R W):nQ (.ok false) a b=b:=rfl
def wM (t:Bool) (x y:W):nQ (.ok t) (.ok x) (.ok y)=.ok (if t then x else y):=by cases t <;> rfl
def lA (f f':W->W->R W) (a b c:R W):R W:=a>>=fun x=>b>>=fun y=>f x y>>=fun z=>toB z>>=fun t=>if t then c>>=fun u=>f' y u else .ok (.bl false)
def ph (f f':W->W->R W) (ma mb mc:Rho->R W) (ρ:Rho):eT f f' ma mb mc ρ=lA f f' (ma ρ) (mb ρ) (mc ρ):=rfl
def rW (g g':Int->Int->Bool) (i j k:Int):lA (fI0 fun i j=>.bl (g i j)) (fI0 fun i j=>.bl (g' i j)) (.ok (.int i)) (.ok (.int j)) (.ok (.int k))=.ok (.bl (g i j&&g' j k)):=by
 unfold lA
 show (if g i j=true then _ else _)=_
 cases h:g i j <;> simp [fI0]
def oa (ws:List W):R W:=lim ws.length (.tup ws)
def og (ws:List W):R W:=lim ws.length (.lst ws)
def wf (ma:Rho->R (List W)) (ρ:Rho):F2 ma ρ=(ma ρ>>=oa):=rfl
def wj (ma:Rho->R (List W)) (ρ:Rho):D5 ma ρ=(ma ρ>>=og):=rfl
def Ew (ρ:Rho):pN ρ=.ok none:=rfl
def Ev (m:Rho->R W) (ρ:Rho):pS m ρ=(m ρ>>=iJ):=rfl
def qs (i:Int):iJ (.int i)=.ok (some i):=rfl
def Rsl (c:Bool) (x:R W) (l u:R (Option Int)):R W:=x>>=fun x=>l>>=fun l=>u>>=fun u=>toR (lstOf x)>>=fun ws=>chks c (N7 ws l u)
def zc (c:Bool) (m:Rho->R W) (ml mh:Rho->R (Option Int)) (ρ:Rho):vSl c m ml mh ρ=Rsl c (m ρ) (ml ρ) (mh ρ):=rfl
def yT (c:Bool) (ws:List W) (l u:Option Int):Rsl c (.ok (.lst ws)) (.ok l) (.ok u)=chks c (N7 ws l u):=rfl
def yS (c:Bool) (ws:List W) (l u:Option Int):Rsl c (.ok (.scr ws)) (.ok l) (.ok u)=chks c (N7 ws l u):=rfl
def vZ (r:R (List W)) (n:Nat) (mg:W->Rho->Option Rho) (mc:Rho->R Bool) (me:Rho->R W) (ρ:Rho):R W:=r>>=fun ws=>m9 n mg mc me ws ρ
def sh (n:Nat) (mi:Rho->R (List W)) (mg:W->Rho->Option Rho) (mc:Rho->R Bool) (me:Rho->R W) (ρ:Rho):o8 n mi mg mc me ρ=vZ (mi ρ) n mg mc me ρ:=rfl
def vq (ws:List W) (n:Nat) (mg:W->Rho->Option Rho) (mc:Rho->R Bool) (me:Rho->R W) (ρ:Rho):vZ (.ok ws) n mg mc me ρ=m9 n mg mc me ws ρ:=rfl
def zJ (ρ:Rho):sNx ρ=.ok (.nx ρ):=rfl
def zM (ρ:Rho):sBk ρ=.ok (.bk ρ):=rfl
def zK (ρ:Rho):sCt ρ=.ok (.ct ρ):=rfl
def vY (r:R W) (ρ:Rho):R Fl:=r>>=fun _=>.ok (.nx ρ)
def sZ (m:Rho->R W) (ρ:Rho):Ee m ρ=vY (m ρ) ρ:=rfl
def vo (w:W) (ρ:Rho):vY (.ok w) ρ=.ok (.nx ρ):=rfl
def gm (w:W):R Fl:=.ok (.rt w)
def wy (m:Rho->R W) (ρ:Rho):h7 m ρ=(m ρ>>=gm):=rfl
def wG (w:W):gm w=.ok (.rt w):=rfl
def sY (ρ:Rho):Eb ρ=.ok (.rt .non):=rfl
def gX (r:R W) (f:W->Sl) (i:Nat) (ρ:Rho):R Fl:=r>>=fun w=>.ok (.nx (ρ.set i (f w)))
def DZ (i:Nat) (m:Rho->R W) (ρ:Rho):sV i m ρ=gX (m ρ) Sl.val i ρ:=rfl
def Ea (i:Nat) (m:Rho->R W) (ρ:Rho):sU i m ρ=gX (m ρ) Sl.par i ρ:=rfl
def Ed (i:Nat) (m:Rho->R W) (ρ:Rho):sF i m ρ=gX (m ρ) R8 i ρ:=rfl
def yU (w:W) (f:W->Sl) (i:Nat) (ρ:Rho):gX (.ok w) f i ρ=.ok (.nx (ρ.set i (f w))):=rfl
def pJ (ws:List W):R8 (.lst ws)=.own ws:=rfl
def pG (ws:List W):R8 (.tup ws)=.val (.tup ws):=rfl
def pK (i:Int):R8 (.int i)=.val (.int i):=rfl
def sP (i:Bool):R8 (.bl i)=.val (.bl i):=rfl
def pI:R8 .non=.val .non:=rfl
def pH (i:Str):R8 (.str i)=.val (.str i):=rfl
def zh:Option Rho->R Fl
 | some ρ=>.ok (.nx ρ)
 | none=>.stuck
def DU (r:R W) (mg:W->Rho->Option Rho) (ρ:Rho):R Fl:=r>>=fun w=>toR (mg w ρ)>>=fun ρ'=>.ok (.nx ρ')
def Ec (mg:W->Rho->Option Rho) (m:Rho->R W) (ρ:Rho):sG mg m ρ=DU (m ρ) mg ρ:=rfl
def yX (w:W) (mg:W->Rho->Option Rho) (ρ:Rho):DU (.ok w) mg ρ=zh (mg w ρ):=by
 show (toR (mg w ρ)>>=_)=_
 cases mg w ρ <;> rfl
def pz (ρ:Rho):zh (some ρ)=.ok (.nx ρ):=rfl
def DQ (r:R (List W)) (mg:W->Rho->Option Rho) (mb:Rho->R Fl) (ρ:Rho):R Fl:=r>>=fun ws=>K5 mg mb ws ρ
def wB (mi:Rho->R (List W)) (mg:W->Rho->Option Rho) (mb:Rho->R Fl) (ρ:Rho):E3 mi mg mb ρ=DQ (mi ρ) mg mb ρ:=rfl
def yV (ws:List W) (mg:W->Rho->Option Rho) (mb:Rho->R Fl) (ρ:Rho):DQ (.ok ws) mg mb ρ=K5 mg mb ws ρ:=rfl
def wA (i:Nat) (m:Rho->R Fl) (ρ:Rho):nL i m ρ=m (frz i ρ):=rfl
def gM:Option Sl->Nat->Rho->Rho
 | some (.own ws),i,ρ=>ρ.set i (.val (.lst ws))
 | _,_,ρ=>ρ
def Co (i:Nat) (ρ:Rho):frz i ρ=gM (ρ[i]?) i ρ:=by
 unfold frz gM
 rcases h:ρ[i]? with _ | s
 ·rfl
 ·cases s <;> rfl
def uV (ws:List W) (i:Nat) (ρ:Rho):gM (some (.own ws)) i ρ=ρ.set i (.val (.lst ws)):=rfl
def uT (w:W) (i:Nat) (ρ:Rho):gM (some (.val w)) i ρ=ρ:=rfl
def uU (w:W) (i:Nat) (ρ:Rho):gM (some (.par w)) i ρ=ρ:=rfl
def xZ (i:Nat) (ρ:Rho):gM (some .un) i ρ=ρ:=rfl
def rdS (d:Mode):Option Sl->R W
 | some (.val w)=>(match d with | .F=>chk w | _=>.ok w)
 | some (.par w)=>(match d with | .F=>chk w | .V=>chk w | .C=>chk w | _=>.ok w)
 | some (.own ws)=>(match d with | .C=>.ok (.lst ws) | .B=>.ok (.lst ws) | _=>.stuck)
 | some (.iop _ ws)=>(match d with | .B=>.ok (.lst ws) | .U=>.ok (.lst ws) | _=>.stuck)
 | some (.hz w)=>(match d with | .B=>.ok w | .U=>.ok w | _=>.stuck)
 | _=>.stuck
def gF (d:Mode) (i:Nat) (ρ:Rho):b7 d i ρ=rdS d (ρ[i]?):=by
 unfold b7 rdS
 rfl
def Ah (w:W):rdS .F (some (.val w))=chk w:=rfl
def Af (w:W):rdS .V (some (.val w))=.ok w:=rfl
def Ag (w:W):rdS .U (some (.val w))=.ok w:=rfl
def Ai (w:W):rdS .C (some (.val w))=.ok w:=rfl
def Aj (w:W):rdS .B (some (.val w))=.ok w:=rfl
def Am (w:W):rdS .F (some (.par w))=chk w:=rfl
def Ak (w:W):rdS .V (some (.par w))=chk w:=rfl
def Al (w:W):rdS .U (some (.par w))=.ok w:=rfl
def An (w:W):rdS .C (some (.par w))=chk w:=rfl
def Ao (w:W):rdS .B (some (.par w))=.ok w:=rfl
def Ap (ws:List W):rdS .C (some (.own ws))=.ok (.lst ws):=rfl
def Aq (ws:List W):rdS .B (some (.own ws))=.ok (.lst ws):=rfl
def retS (d:Mode):Option Sl->R Fl
 | some (.own ws)=>.ok (.rt (.lst ws))
 | o=>rdS d o>>=gm
def oj (d:Mode) (i:Nat) (ρ:Rho):v9 d i ρ=retS d (ρ[i]?):=by
 unfold v9 retS
 rw [gF]
 rcases h:ρ[i]? with _ | s
 ·rfl
 ·cases s <;> rfl
def tD (d:Mode) (ws:List W):retS d (some (.own ws))=.ok (.rt (.lst ws)):=rfl
def tu (d:Mode) (w:W):retS d (some (.val w))=(rdS d (some (.val w))>>=gm):=rfl
def tz (d:Mode) (w:W):retS d (some (.par w))=(rdS d (some (.par w))>>=gm):=rfl
def vn (o:Option Sl) (r:R W) (i:Nat) (ρ:Rho):R Fl:=match o with
 | some (.own ws)=>r>>=fun w=>if ws.length<1000 then .ok (.nx (ρ.set i (.own (ws ++ [w])))) else .stuck
 | _=>.stuck
def xG (i:Nat) (m:Rho->R W) (ρ:Rho):N2 i m ρ=vn (ρ[i]?) (m ρ) i ρ:=rfl
def yP (ws:List W) (w:W) (i:Nat) (ρ:Rho):vn (some (.own ws)) (.ok w) i ρ=if ws.length<1000 then .ok (.nx (ρ.set i (.own (ws ++ [w])))) else .stuck:=rfl
def zB (o:Option Sl) (a b:R W) (i:Nat) (ρ:Rho):R Fl:=match o with
 | some (.own ws)=>b>>=fun w=>a>>=fun k=>(match k with
  | .int k=>(match ixN ws.length k with
   | some j=>.ok (.nx (ρ.set i (.own (ws.set j w))))
   | none=>.stuck)
  | _=>.stuck)
 | _=>.stuck
def xB (i:Nat) (mk me:Rho->R W) (ρ:Rho):mSet i mk me ρ=zB (ρ[i]?) (mk ρ) (me ρ) i ρ:=rfl
def zC (o:Option Nat) (ws:List W) (w:W) (i:Nat) (ρ:Rho):R Fl:=match o with
 | some j=>.ok (.nx (ρ.set i (.own (ws.set j w))))
 | none=>.stuck
def wv (ws:List W) (w:W) (k:Int) (i:Nat) (ρ:Rho):zB (some (.own ws)) (.ok (.int k)) (.ok w) i ρ=zC (ixN ws.length k) ws w i ρ:=rfl
def pO (j:Nat) (ws:List W) (w:W) (i:Nat) (ρ:Rho):zC (some j) ws w i ρ=.ok (.nx (ρ.set i (.own (ws.set j w)))):=rfl
def DJ (f:Int->Int->Int) (a b:R W) (i:Nat) (ρ:Rho):R Fl:=a>>=fun x=>b>>=fun y=>match x,y with
 | .int a,.int b=>.ok (.nx (ρ.set i (.val (.int (f a b)))))
 | _,_=>.stuck
def xF (i:Nat) (f:Int->Int->Int) (m:Rho->R W) (ρ:Rho):kC i f m ρ=DJ f (rdS .B (ρ[i]?)) (m ρ) i ρ:=by
 rw [<- gF]; rfl
def yO (f:Int->Int->Int) (a b:Int) (i:Nat) (ρ:Rho):DJ f (.ok (.int a)) (.ok (.int b)) i ρ=.ok (.nx (ρ.set i (.val (.int (f a b))))):=rfl
def ifS (c:R Bool) (m n:Rho->R Fl) (ρ:Rho):R Fl:=c>>=fun b=>if b then m ρ else n ρ
def Bp (c:Rho->R Bool) (m n:Rho->R Fl) (ρ:Rho):mIf c m n ρ=ifS (c ρ) m n ρ:=rfl
def Cd (m n:Rho->R Fl) (ρ:Rho):ifS (.ok true) m n ρ=m ρ:=rfl
def Ce (m n:Rho->R Fl) (ρ:Rho):ifS (.ok false) m n ρ=n ρ:=rfl
def Q7 (r:R Fl):R W:=r>>=fun f=>match f with
 | .rt w=>.ok w
 | .nx _=>.ok .non
 | _=>.stuck
def W3 {n N:Nat} {m:Rho->R Fl} {ws:List W} (h:ws.length=n):g8 n N m ws=Q7 (m (ws.map Sl.par++List.replicate (N-n) Sl.un)):=by unfold g8; rw [qA1 h]; rfl
def zU {N:Nat} {m:Rho->R Fl} (a:W):g8 1 N m [a]=Q7 (m (Sl.par a::List.replicate (N-1) Sl.un)):=W3 rfl
def zT {N:Nat} {m:Rho->R Fl} (a b:W):g8 2 N m [a,b]=Q7 (m (Sl.par a::Sl.par b::List.replicate (N-2) Sl.un)):=W3 rfl
def zS {N:Nat} {m:Rho->R Fl} (a b c:W):g8 3 N m [a,b,c]=Q7 (m (Sl.par a::Sl.par b::Sl.par c::List.replicate (N-3) Sl.un)):=W3 rfl
def zR {N:Nat} {m:Rho->R Fl} (a b c d:W):g8 4 N m [a,b,c,d]=Q7 (m (Sl.par a::Sl.par b::Sl.par c::Sl.par d::List.replicate (N-4) Sl.un)):=W3 rfl
def zQ {N:Nat} {m:Rho->R Fl} (a b c d e:W):g8 5 N m [a,b,c,d,e]=Q7 (m (Sl.par a::Sl.par b::Sl.par c::Sl.par d::Sl.par e::List.replicate (N-5) Sl.un)):=W3 rfl
def yq (w:W):Q7 (.ok (.rt w))=.ok w:=rfl
def yt (ρ:Rho):Q7 (.ok (.nx ρ))=.ok .non:=rfl
def CA (g:Int->Int->W) (i j:Int):fI0 g (.int i) (.int j)=.ok (g i j):=rfl
def fU_i (g:Int->W) (i:Int):fU g (.int i)=.ok (g i):=rfl
def EM (ws:List W) (i:Int):fIx (.lst ws) (.int i)=toR (L2.atI ws i):=rfl
def EK (ws:List W) (i:Int):fIx (.tup ws) (.int i)=toR (L2.atI ws i):=rfl
def EL (ws:List W) (i:Int):fIx (.scr ws) (.int i)=toR (L2.atI ws i):=rfl
def sv {α:Type} (a:α):toR (some a)=.ok a:=rfl
def zj (b:Bool):toB (.bl b)=.ok b:=rfl
def Cu (ws:List W):fLen [.lst ws]=.ok (.int ws.length):=rfl
def Cs (ws:List W):fLen [.tup ws]=.ok (.int ws.length):=rfl
def Ct (ws:List W):fLen [.scr ws]=.ok (.int ws.length):=rfl
def yd (c:Bool) (ws:List W):iP c [.lst ws]=chks c ws:=rfl
def yc (c:Bool) (ws:List W):iP c [.tup ws]=chks c ws:=rfl
def kX (c:Bool) (ws:List W):E6 c [.lst ws]=Z0 c ws:=rfl
def Cp (c:Bool) (ws:List W):E6 c [.tup ws]=Z0 c ws:=rfl
def Dc (ws:List W):chks true ws=.ok (.lst ws):=rfl
def Dk (ws:List W):Z0 true ws=.ok (.tup ws):=rfl
def dy {c:Bool} {ws:List W} (h:m5 ws=true):chks c ws=.ok (.lst ws):=by unfold chks; rw [h,qN4,qA1 rfl]
def dA {c:Bool} {ws:List W} (h:m5 ws=true):Z0 c ws=.ok (.tup ws):=by unfold Z0; rw [h,qN4,qA1 rfl]
def Dg (c:Bool) (ns:List Int):chks c (ns.map W.int)=.ok (.lst (ns.map W.int)):=dy (O5 ns)
def rD (c:Bool) (ns:List Int):Z0 c (ns.map W.int)=.ok (.tup (ns.map W.int)):=dA (O5 ns)
def j8 {w:W} (h:noL w=true):chk w=.ok w:=by unfold chk; rw [qA1 h]
def yz (i:Int):chk (.int i)=.ok (.int i):=rfl
def Dj (i:Bool):chk (.bl i)=.ok (.bl i):=rfl
def yx (i:Str):chk (.str i)=.ok (.str i):=rfl
def yy:chk .non=.ok .non:=rfl
def Dh (ns:List Int):chk (.tup (ns.map W.int))=.ok (.tup (ns.map W.int)):=j8 (O5 ns)
def EO (g:Int->Int->Int) (i j:Int):f2 g [.int i,.int j]=.ok (.int (g i j)):=rfl
def zF (ws:List W):B3 (.lst ws)=.ok ws:=rfl
def zD (ws:List W):B3 (.tup ws)=.ok ws:=rfl
def zE (ws:List W):B3 (.scr ws)=.ok ws:=rfl
def zZ (j:Int):J2 [.int j]=O8 0 j:=rfl
def zY (i j:Int):rng2 [.int i,.int j]=O8 i j:=rfl
def gN_U (i:Nat) (w:W) (ρ:Rho):gN .U i w ρ=some (ρ.set i (.par w)):=rfl
def gN_V (i:Nat) (w:W) (ρ:Rho):gN .V i w ρ=some (ρ.set i (.val w)):=rfl
def gT_t (n:Nat) (g:List W->Rho->Option Rho) (ws:List W) (ρ:Rho):gT n g (.tup ws) ρ=if ws.length=n then g ws ρ else none:=rfl
def uN (f:W->Rho->Option Rho) (g:List W->Rho->Option Rho) (w:W) (ws:List W) (ρ:Rho):v4 f g (w::ws) ρ=(f w ρ).bind (g ws):=rfl
def xS (ρ:Rho):gsNil [] ρ=some ρ:=rfl
def ul (ws:List W):oa ws=if ws.length<=1000 then .ok (.tup ws) else .stuck:=rfl
def um (ws:List W):og ws=if ws.length<=1000 then .ok (.lst ws) else .stuck:=rfl
def ye (x:W) (T:String):fIsi [x,.ty T]=(toR ((tyW x).bind fun A=>E5 A T)>>=fun b=>.ok (.bl b)):=rfl
def BG:E5 "NoneType" "tuple" = some false:=by decide
def BH:E5 "NoneType" "list" = some false:=by decide
def BK:E5 "list" "tuple" = some false:=by decide
def BB:E5 "tuple" "list" = some false:=by decide
def Cv (n:Bool) (u:W):E7 n u .non=.ok (.bl (if n then !isN u else isN u)):=rfl
def uu {f:W->R (Option W)} {α:Type} (g:α->W) (s:α->W):∀ (as:List α),(∀ a∈as,f (s a)=.ok (some (g a)))->mapR f (as.map s)=.ok (as.map g):=by
 intro as
 induction as with
 | nil=>exact fun _=>rfl
 | cons a as ih=>
  intro h
  rw [qC0,mapR,h a qB6,ih fun b hb=>h b (qA8 _ hb)]
  rfl
def lP {f:W->R (Option W)} {α:Type} (g:α->W) (s:α->W) (c:α->Bool):∀ (as:List α),(∀ a∈as,f (s a)=.ok (if c a then some (g a) else none))->mapR f (as.map s)=.ok ((as.filter c).map g):=by
 intro as
 induction as with
 | nil=>exact fun _=>rfl
 | cons a as ih=>
  intro h
  rw [qC0,mapR,h a qB6,ih fun b hb=>h b (qA8 _ hb),List.filter_cons]
  cases c a <;> rfl
def u8 {N':Nat} {mg:W->Rho->Option Rho} {me:Rho->R W} {α:Type} (g:α->W) (s:α->W) (as:List α) (ρ:Rho) (hl:as.length<=1000)
  (h:∀ a∈as,∃ ρ1,mg (s a) (ρ++List.replicate (N'-ρ.length) Sl.un)=some ρ1/\me ρ1=.ok (g a)):m9 N' mg yes me (as.map s) ρ=.ok (.lst (as.map g)):=by
 unfold m9
 rw [qA5,qA1 hl,uu g s as]
 intro a ha
 obtain ⟨ρ1,e1,e2⟩:=h a ha
 unfold elR
 rw [e1]
 have hy:yes ρ1=.ok true:=rfl
 dsimp only
 rw [hy]
 dsimp only
 rw [e2]
def K6 {N':Nat} {mg:W->Rho->Option Rho} {mc:Rho->R Bool} {me:Rho->R W} {α:Type} (g:α->W) (s:α->W) (c:α->Bool) (as:List α) (ρ:Rho) (hl:as.length<=1000)
  (h:∀ a∈as,∃ ρ1,mg (s a) (ρ++List.replicate (N'-ρ.length) Sl.un)=some ρ1/\mc ρ1=.ok (c a)/\(c a=true->me ρ1=.ok (g a))):m9 N' mg mc me (as.map s) ρ=.ok (.lst ((as.filter c).map g)):=by
 unfold m9
 rw [qA5,qA1 hl,lP g s c as]
 intro a ha
 obtain ⟨ρ1,e1,e2,e3⟩:=h a ha
 unfold elR
 rw [e1]
 dsimp only
 rw [e2]
 cases hc:c a with
 | false=>rfl
 | true=>dsimp only; rw [e3 hc]; rfl
def tm {z:Int} (h0:-1000000<=z) (h:z<=1000000):O8 0 z=.ok ((List.range z.toNat).map fun k=>W.int (k:Nat)):=by
 unfold O8
 rw [qA1 (by omega)]
 simp
def W9 {n i:Nat} {w:W} (h:((List.range n).map fun k=>W.int (k:Nat))[i]?=some w):i<n/\w=.int (i:Nat):=by
 rw [qB5] at h
 cases q:(List.range n)[i]? with
 | none=>rw [q] at h; cases h
 | some k=>
  rw [q] at h
  obtain ⟨h1,h2⟩:=qA7.mp q
  simp at h1 h2
  subst h2
  cases h
  exact ⟨h1,rfl⟩
def Bo {ns:List Int} {i:Nat} {w:W} (h:(ns.map W.int)[i]?=some w):i<ns.length/\w=.int (ns.getD i 0):=by
 rw [qB5] at h
 cases q:ns[i]? with
 | none=>rw [q] at h; cases h
 | some k=>
  rw [q] at h
  cases h
  exact ⟨(qA7.mp q).1,by rw [xU q]⟩
def CV (xs:List Int) (lo hi:Option Int):List Int:=(xs.drop (HT.sIx xs.length 0 lo)).take (HT.sIx xs.length xs.length hi-HT.sIx xs.length 0 lo)
def CU (ns:List Int) (lo hi:Option Int):N7 (ns.map W.int) lo hi=(CV ns lo hi).map W.int:=by
 unfold N7 CV
 rw [qA5,<- List.map_drop,<- List.map_take]
def zA (ns:List Int) (j:Nat) (z:Int):(ns.map W.int).set j (.int z)=(ns.set j z).map W.int:=by rw [List.map_set]
def DM (ns:List Int) (z:Int):ns.map W.int ++ [.int z]=(ns ++ [z]).map W.int:=by rw [qD1]; rfl
def Ae (k:Nat) (z:Int):(List.replicate k [W.int z]).flatten=(List.replicate k z).map W.int:=by
 induction k with
 | zero=>rfl
 | succ k ih=>rw [List.replicate_succ,List.flatten_cons,ih,List.replicate_succ,qC0]; rfl
def oi {α:Type} (as:List α) (f:α->Int):(as.map fun a=>W.int (f a))=(as.map f).map W.int:=by rw [qD0]; rfl
def M9 {n k:Nat} {f:Nat->Int} (h:k<n):((List.range n).map f).getD k 0=f k:=by
 rw [qA0,qB5]
 simp [h]
def cI {a b:List Int} (h:b.length=a.length):(aO [a.map W.int,b.map W.int]).map W.tup=(List.range a.length).map fun k=>W.tup [.int (a.getD k 0),.int (b.getD k 0)]:=by
 apply qL7
 intro i
 simp only [aO,qB5,qI5]
 by_cases hi:i<a.length
 ·rw [O0 hi,O0 (ns:=b) (by omega)]; simp [hi]
 ·simp [hi]
def wd {a b c:List Int} (h:b.length=a.length) (h':c.length=a.length):(aO [a.map W.int,b.map W.int,c.map W.int]).map W.tup=(List.range a.length).map fun k=>W.tup [.int (a.getD k 0),.int (b.getD k 0),.int (c.getD k 0)]:=by
 apply qL7
 intro i
 simp only [aO,qB5,qI5,List.zip]
 by_cases hi:i<a.length
 ·rw [O0 hi,O0 (ns:=b) (by omega),O0 (ns:=c) (by omega)]; simp [hi]
 ·simp [hi]
def W6 (x y:W) (xs ys:List W) (hx:B3 x=.ok xs) (hy:B3 y=.ok ys):K1 [x,y]=.ok ((aO [xs,ys]).map W.tup):=by
 unfold K1
 simp only [qC2,qM9,U8,hx,hy,Nat.reduceAdd,true_or,if_true]
def yY (x y z:W) (xs ys zs:List W) (hx:B3 x=.ok xs) (hy:B3 y=.ok ys) (hz:B3 z=.ok zs):K1 [x,y,z]=.ok ((aO [xs,ys,zs]).map W.tup):=by
 unfold K1
 simp only [qC2,qM9,U8,hx,hy,hz,Nat.reduceAdd,or_true,if_true]
def EA {i j:Int} (h:-18446744073709551616<i/\i<18446744073709551616):fI CMul p9 (.int i) (.int j)=.ok (.int (i*j)):=by
 show (if CMul i j then _ else _)=_
 rw [qA1 (.inl (by simpa using h))]
def Ez {i j:Int} (h:-18446744073709551616<j/\j<18446744073709551616):fI CMul p9 (.int i) (.int j)=.ok (.int (i*j)):=by
 show (if CMul i j then _ else _)=_
 rw [qA1 (.inr (by simpa using h))]
def Bm {i j:Int} (h:0<j):fI k9 l6 (.int i) (.int j)=.ok (.int (i%j)):=by
 show (if k9 i j then _ else _)=_
 rw [qA1 h]
def div_ii {i j:Int} (h:0<j/\j<1073741824):fI B6 F5 (.int i) (.int j)=.ok (.int (i/j)):=by
 show (if B6 i j then _ else _)=_
 rw [qA1 (show B6 i j from h)]
def AN {i j:Int} (h:0<=j/\j<=1000000 /\ -18446744073709551616<i/\i<18446744073709551616):fI bv kR (.int i) (.int j)=.ok (.int (i^j.toNat)):=by
 show (if bv i j then _ else _)=_
 rw [qA1 ⟨h.1,h.2.1,by omega⟩]
def DN {ws:List W} {w:W} {i:Nat} {ρ:Rho} (h:ws.length<1000):vn (some (.own ws)) (.ok w) i ρ=.ok (.nx (ρ.set i (.own (ws ++ [w])))):=by rw [yP,qA1 h]
def xx {ws:List W} (h:ws.length<=1000):oa ws=.ok (.tup ws):=by rw [ul,qA1 h]
def xy {ws:List W} (h:ws.length<=1000):og ws=.ok (.lst ws):=by rw [um,qA1 h]
def rd {c:Bool} {us vs:List W} (h:us.length+vs.length<=1000):ow c (.lst us) (.lst vs)=chks c (us++vs):=by
 show (if us.length+vs.length<=1000 then _ else _)=_
 rw [qA1 h]
def Cr {c:Bool} {z:W} {k:Int} (h:0<=k/\k<=1000):fRep c (.lst [z]) (.int k)=chks c (List.replicate k.toNat [z]).flatten:=by
 show (if [z].length*k.toNat<=1000 /\ -1000<=k/\k<=1000 then _ else _)=_
 rw [qA1 ⟨by simp only [qC2,qM9]; omega,by omega,h.2⟩]
def Fq {ns:List Int} {i:Int} (h:0<=i/\i<ns.length):L2.atI (ns.map W.int) i=some (.int (ns.getD i.toNat 0)):=atW h.1 h.2
def EE {n:Nat} {i:Int} (h:0<=i/\i<n):ixN n i=some i.toNat:=aE h.1 h.2
def zW {z:Int} (h:-1000000<=z/\z<=1000000):O8 0 z=.ok ((List.range z.toNat).map fun k=>W.int (k:Nat)):=tm h.1 h.2
def Ok (r:R W) (P:W->Prop):Prop:=∃ w,r=.ok w/\P w
def Po (r:R Fl) (Jn:Rho->Prop) (Jr:W->Prop):Prop:=match r with
 | .ok (.nx ρ)=>Jn ρ
 | .ok (.rt w)=>Jr w
 | _=>False
def o5 {r:R Fl} {P:W->Prop} (h:Po r (fun _=>P .non) P):Ok (Q7 r) P:=by
 cases r with
 | ex _=>exact h.elim
 | stuck=>exact h.elim
 | ok f=>cases f with
  | nx ρ=>exact ⟨_,rfl,h⟩
  | rt w=>exact ⟨_,rfl,h⟩
  | bk _=>exact h.elim
  | ct _=>exact h.elim
def X1 {r:R Fl} {n:Rho->R Fl} {Jn:Rho->Prop} {Jr:W->Prop} (h:Po r (fun ρ=>Po (n ρ) Jn Jr) Jr):Po (andThen r n) Jn Jr:=by
 cases r with
 | ex _=>exact h.elim
 | stuck=>exact h.elim
 | ok f=>cases f with
  | nx ρ=>exact h
  | rt w=>exact h
  | bk _=>exact h.elim
  | ct _=>exact h.elim
def Em {ρ:Rho} {Jn:Rho->Prop} {Jr:W->Prop}:Po (.ok (.nx ρ)) Jn Jr=Jn ρ:=rfl
def El {w:W} {Jn:Rho->Prop} {Jr:W->Prop}:Po (.ok (.rt w)) Jn Jr=Jr w:=rfl
def V0 {b:Bool} {m n:Rho->R Fl} {ρ:Rho} {Jn:Rho->Prop} {Jr:W->Prop} (h1:b=true->Po (m ρ) Jn Jr) (h2:b=false->Po (n ρ) Jn Jr):Po (ifS (.ok b) m n ρ) Jn Jr:=by
 cases b with
 | true=>exact h1 rfl
 | false=>exact h2 rfl
def bV {b:Bool} {m n:Rho->R Fl} {ρ:Rho} {k:Rho->R Fl} {Jn:Rho->Prop} {Jr:W->Prop} (h1:b=true->Po (andThen (m ρ) k) Jn Jr) (h2:b=false->Po (andThen (n ρ) k) Jn Jr):Po (andThen (ifS (.ok b) m n ρ) k) Jn Jr:=by
 cases b with
 | true=>exact h1 rfl
 | false=>exact h2 rfl
def Po.mono {r:R Fl} {Jn Jn':Rho->Prop} {Jr Jr':W->Prop} (h:Po r Jn Jr) (h1:∀ ρ,Jn ρ->Jn' ρ) (h2:∀ w,Jr w->Jr' w):Po r Jn' Jr':=by
 cases r with
 | ex _=>exact h
 | stuck=>exact h
 | ok f=>cases f with
  | nx ρ=>exact h1 ρ h
  | rt w=>exact h2 w h
  | bk _=>exact h
  | ct _=>exact h
def qo {mg:W->Rho->Option Rho} {mb:Rho->R Fl} {Jr:W->Prop} (I:Nat->Rho->Prop):∀ (ws:List W) (k:Nat) (ρ:Rho),I k ρ ->
  (∀ (i:Nat) (w:W) (ρ:Rho),ws[i]?=some w->I (k+i) ρ->∃ ρ1,mg w ρ=some ρ1/\Po (mb ρ1) (I (k+i+1)) Jr)->Po (K5 mg mb ws ρ) (I (k+ws.length)) Jr:=by
 intro ws
 induction ws with
 | nil=>exact fun k ρ h _=>h
 | cons w ws ih=>
  intro k ρ h st
  obtain ⟨ρ1,e1,p⟩:=st 0 w ρ rfl h
  unfold K5
  rw [e1]
  show Po (mb ρ1>>=_) _ _
  revert p
  cases mb ρ1 with
  | ex _=>exact fun p=>p.elim
  | stuck=>exact fun p=>p.elim
  | ok f=>cases f with
   | bk _=>exact fun p=>p.elim
   | ct _=>exact fun p=>p.elim
   | rt w=>exact fun p=>p
   | nx ρ2=>
    intro p
    have:=ih (k+1) ρ2 p fun i w ρ hw hp=>by
     have:=st (i+1) w ρ hw (by rw [<- qG6 k i]; exact hp)
     rw [<- qG6 k i] at this
     exact this
    rw [qC2,<- qG6 k ws.length]
    exact this
def jG {mg:W->Rho->Option Rho} {mb:Rho->R Fl} {ws:List W} {ρ:Rho} {Jn:Rho->Prop} {Jr:W->Prop} (I:Nat->Rho->Prop) (h0:I 0 ρ)
  (st:∀ (i:Nat) (w:W) (ρ:Rho),ws[i]?=some w->I i ρ->∃ ρ1,mg w ρ=some ρ1/\Po (mb ρ1) (I (i+1)) Jr) (hn:∀ ρ,I ws.length ρ->Jn ρ):Po (K5 mg mb ws ρ) Jn Jr:=by
 have:=qo (mg:=mg) (mb:=mb) (Jr:=Jr) I ws 0 ρ h0 fun i w ρ hw hp=>by rw [qN2] at hp ⊢; exact st i w ρ hw hp
 rw [qN2] at this
 exact this.mono hn fun _ h=>h
def v8 {mg:W->Rho->Option Rho} {mb n:Rho->R Fl} {ws:List W} {ρ:Rho} {Jn:Rho->Prop} {Jr:W->Prop} (I:Nat->Rho->Prop) (h0:I 0 ρ)
  (st:∀ (i:Nat) (w:W) (ρ:Rho),ws[i]?=some w->I i ρ->∃ ρ1,mg w ρ=some ρ1/\Po (mb ρ1) (I (i+1)) Jr) (hn:∀ ρ,I ws.length ρ->Po (n ρ) Jn Jr):Po (andThen (K5 mg mb ws ρ) n) Jn Jr:=X1 (jG I h0 st hn)
def aW {c:Rho->R Bool} {b:Rho->R Fl} {Jn:Rho->Prop} {Jr:W->Prop} (I:Nat->Rho->Prop)
  (st:∀ m ρ,I m ρ->∃ t,c ρ=.ok t/\if t=true then Po (b ρ) (fun ρ'=>∃ m',m'<m/\I m' ρ') Jr else Jn ρ):∀ (m:Nat) (ρ:Rho),I m ρ->Po (M0 c b ρ) Jn Jr:=by
 have key:∀ (m:Nat) (ρ:Rho),I m ρ->∃ r,J9 c b (m+1) ρ=some r/\Po r Jn Jr:=by
  intro m
  induction m using Nat.strongRecOn with
  | ind m ih=>
   intro ρ h
   obtain ⟨t,e,q⟩:=st m ρ h
   unfold J9
   rw [e]
   cases t with
   | false=>rw [qA3 qA4] at q; exact ⟨_,rfl,q⟩
   | true=>
    rw [qA1 rfl] at q
    dsimp only
    revert q
    cases b ρ with
    | ex _=>exact fun q=>q.elim
    | stuck=>exact fun q=>q.elim
    | ok f=>cases f with
     | bk _=>exact fun q=>q.elim
     | ct _=>exact fun q=>q.elim
     | rt w=>exact fun q=>⟨_,rfl,q⟩
     | nx ρ'=>
      intro ⟨m',hm,h'⟩
      obtain ⟨r,e',q'⟩:=ih m' hm ρ' h'
      exact ⟨r,bf (m'+1) ρ' r e' m (by omega),q'⟩
 intro m ρ h
 obtain ⟨r,e,q⟩:=key m ρ h
 rw [iq e]
 exact q
def mJ {f:W->R (Option W)} {α:Type} (s:α->W) (p:α->Int->Prop):∀ (as:List α),(∀ a∈as,∃ z,f (s a)=.ok (some (.int z))/\p a z)->∃ zs:List Int,mapR f (as.map s)=.ok (zs.map W.int)/\Paired p as zs
 | [],_=>⟨[],rfl,.nil⟩
 | a::as,h=>by
  obtain ⟨z,e,hz⟩:=h a (by simp)
  obtain ⟨zs,e2,hp⟩:=mJ s p as fun b hb=>h b (by simp [hb])
  refine ⟨z::zs,?_,.cons hz hp⟩
  rw [qC0,mapR,e,e2]; rfl
def om {N':Nat} {mg:W->Rho->Option Rho} {me:Rho->R W} {α:Type} {as:List α} {s:α->W} {ρ:Rho} (p:α->Int->Prop) (hl:as.length<=1000)
  (h:∀ a∈as,∃ ρ1,mg (s a) (ρ++List.replicate (N'-ρ.length) Sl.un)=some ρ1/\Ok (me ρ1) fun w=>∃ z,w=.int z/\p a z):∃ zs:List Int,m9 N' mg yes me (as.map s) ρ=.ok (lI zs)/\Paired p as zs:=by
 obtain ⟨zs,e,hp⟩:=mJ (f:=elR mg yes me (ρ++List.replicate (N'-ρ.length) Sl.un)) s p as fun a ha=>by
  obtain ⟨ρ1,e1,w,e2,z,rfl,hz⟩:=h a ha
  refine ⟨z,?_,hz⟩
  unfold elR
  rw [e1]
  have hy:yes ρ1=.ok true:=rfl
  dsimp only
  rw [hy]
  dsimp only
  rw [e2]
 refine ⟨zs,?_,hp⟩
 unfold m9
 rw [qA5,qA1 hl,e]
def jH {n:Nat} {p:Nat->Int->Prop} {zs:List Int} (h:Paired p (List.range n) zs):zs.length=n/\∀ k,k<n->p k (zs.getD k 0):=by
 have hl:(List.range n).length=zs.length:=Paired.length h
 rw [qF1] at hl
 refine ⟨hl.symm,fun k hk=>?_⟩
 have key:∀ (l:List Nat) (zs:List Int) (k:Nat) (a:Nat),Paired p l zs->l[k]?=some a->p a (zs.getD k 0):=by
  intro l
  induction l with
  | nil=>intro zs k a _ e; simp at e
  | cons b l ih=>
   intro zs k a q e
   cases q with
   | cons h1 h2=>
    cases k with
    | zero=>simp at e; subst e; exact h1
    | succ k=>simp at e; simpa using ih _ k a h2 e
 exact key _ zs k k h (by simp [hk])
def OkL (r:R (List W)) (P:List W->Prop):Prop:=∃ w,r=.ok w/\P w
def qm {r:R W} {Jn:Rho->Prop} {Jr:W->Prop} (h:Ok r Jr):Po (r>>=gm) Jn Jr:=by
 obtain ⟨w,rfl,q⟩:=h; exact q
def qk {r:R W} {f:W->Sl} {i:Nat} {ρ:Rho} {Jn:Rho->Prop} {Jr:W->Prop} (h:Ok r fun w=>Jn (ρ.set i (f w))):Po (gX r f i ρ) Jn Jr:=by
 obtain ⟨w,rfl,q⟩:=h; exact q
def cU {r:R W} {f:W->Sl} {i:Nat} {ρ:Rho} {n:Rho->R Fl} {Jn:Rho->Prop} {Jr:W->Prop} (h:Ok r fun w=>Po (n (ρ.set i (f w))) Jn Jr):Po (andThen (gX r f i ρ) n) Jn Jr:=X1 (qk h)
def jR {r:R (List W)} {f:List W->R W} {P:W->Prop} (h:OkL r fun w=>Ok (f w) P):Ok (r>>=f) P:=by
 obtain ⟨w,rfl,q⟩:=h; exact q
def vK {a:R W} {xs:List W} {P:List W->Prop} (h:Ok a fun x=>P (x::xs)):OkL (fR a (.ok xs)) P:=by
 obtain ⟨w,rfl,q⟩:=h; exact ⟨_,rfl,q⟩
def gB {N':Nat} {mg:W->Rho->Option Rho} {me:Rho->R W} {α:Type} {as:List α} {s:α->W} {ρ:Rho} {P:W->Prop} (p:α->Int->Prop) (hl:as.length<=1000)
  (h:∀ a∈as,∃ ρ1,mg (s a) (ρ++List.replicate (N'-ρ.length) Sl.un)=some ρ1/\Ok (me ρ1) fun w=>∃ z,w=.int z/\p a z) (hp:∀ zs,Paired p as zs->P (lI zs)):Ok (m9 N' mg yes me (as.map s) ρ) P:=by
 obtain ⟨zs,e,q⟩:=om (mg:=mg) (me:=me) (ρ:=ρ) (N':=N') p hl h
 exact ⟨_,e,hp zs q⟩
def ug {N':Nat} {mg:W->Rho->Option Rho} {me:Rho->R W} {α:Type} {as:List α} {s:α->W} {ρ:Rho} {P:W->Prop} {c:Bool} (p:α->Int->Prop) (hl:as.length<=1000)
  (h:∀ a∈as,∃ ρ1,mg (s a) (ρ++List.replicate (N'-ρ.length) Sl.un)=some ρ1/\Ok (me ρ1) fun w=>∃ z,w=.int z/\p a z) (hp:∀ zs,Paired p as zs->P (tI zs)):Ok (fR (m9 N' mg yes me (as.map s) ρ) (.ok [])>>=E6 c) P:=
 jR (vK (gB p hl h fun zs q=>⟨_,by rw [kX,rD],hp zs q⟩))
def ca {N' n:Nat} {mg:W->Rho->Option Rho} {me:Rho->R W} {ρ:Rho} {P:W->Prop} {c:Bool} (p:Nat->Int->Prop) (hl:n<=1000)
  (h:∀ k,k<n->∃ ρ1,mg (.int (k:Nat)) (ρ++List.replicate (N'-ρ.length) Sl.un)=some ρ1/\Ok (me ρ1) fun w=>∃ z,w=.int z/\p k z)
  (hp:∀ zs:List Int,zs.length=n->(∀ k,k<n->p k (zs.getD k 0))->P (tI zs)):Ok (fR (m9 N' mg yes me ((List.range n).map fun k=>W.int (k:Nat)) ρ) (.ok [])>>=E6 c) P:=
 ug p (by simpa using hl) (fun a ha=>h a (by simpa using ha)) fun zs q=>let ⟨a,b⟩:=jH q; hp zs a b
def uQ (i j:Int):ou i j=max i j:=by unfold ou; omega
def uP (i j:Int):Ci i j=min i j:=by unfold Ci; omega
def oW:Option Int->W
 | none=>.non
 | some i=>.int i
def oW_n:oW none=.non:=rfl
def oW_s (i:Int):oW (some i)=.int i:=rfl
def qD (o:Option Int):noL (oW o)=true:=by cases o <;> rfl
def Di (o:Option Int):chk (oW o)=.ok (oW o):=j8 (qD o)
def X4 {α:Type} (f:α->W) (h:∀ a,noL (f a)=true) (as:List α):m5 (as.map f)=true:=by
 induction as with
 | nil=>rfl
 | cons a as ih=>rw [qC0]; simp only [m5,h,ih,qN7]
def B7 (cs:List (Option Int)):m5 (cs.map oW)=true:=X4 oW qD cs
def Df (c:Bool) (cs:List (Option Int)):chks c (cs.map oW)=.ok (.lst (cs.map oW)):=dy (B7 cs)
def rC (c:Bool) (cs:List (Option Int)):Z0 c (cs.map oW)=.ok (.tup (cs.map oW)):=dA (B7 cs)
def BS (o:Option Int):isN (oW o)=o.isNone:=by cases o <;> rfl
def sO (o:Option Int):R8 (oW o)=.val (oW o):=by cases o <;> rfl
def aM {α:Type} (f:α->W) {as:List α} {d:α} {i:Int} (h:0<=i/\i<as.length):L2.atI (as.map f) i=some (f (as.getD i.toNat d)):=by
 unfold L2.atI
 rw [qA5,aE h.1 h.2]
 show (as.map f)[i.toNat]?=_
 have hi:i.toNat<as.length:=by omega
 rw [qB5,qA0]
 simp [hi]
def Fs {cs:List (Option Int)} {i:Int} (h:0<=i/\i<cs.length):L2.atI (cs.map oW) i=some (oW (cs.getD i.toNat none)):=aM oW h
def appO (cs:List (Option Int)) (o:Option Int):cs.map oW ++ [oW o]=(cs ++ [o]).map oW:=by rw [qD1]; rfl
def fV {α β:Type} (f:α->W) (g:β->W) {a:List α} {b:List β} (h:b.length=a.length) (x:α) (y:β):(aO [a.map f,b.map g]).map W.tup=(List.range a.length).map fun k=>W.tup [f (a.getD k x),g (b.getD k y)]:=by
 apply qL7
 intro i
 simp only [aO,qB5,qI5]
 by_cases hi:i<a.length
 ·have hb:i<b.length:=by omega
  simp [hi,hb]
 ·simp [hi]
def jB {n i:Nat} {f:Nat->W} {w:W} (h:((List.range n).map f)[i]?=some w):i<n/\w=f i:=by
 rw [qB5] at h
 cases q:(List.range n)[i]? with
 | none=>rw [q] at h; cases h
 | some k=>
  rw [q] at h
  obtain ⟨h1,h2⟩:=qA7.mp q
  simp at h1 h2
  subst h2
  cases h
  exact ⟨h1,rfl⟩
def C6 (ns:List Int):noL (tI ns)=true:=O5 ns
def ft (ss:List (List Int)):m5 (ss.map tI)=true:=X4 tI C6 ss
def De (c:Bool) (ss:List (List Int)):chks c (ss.map tI)=.ok (.lst (ss.map tI)):=dy (ft ss)
def Dl (c:Bool) (ss:List (List Int)):Z0 c (ss.map tI)=.ok (.tup (ss.map tI)):=dA (ft ss)
def Fr {ss:List (List Int)} {i:Int} (h:0<=i/\i<ss.length):L2.atI (ss.map tI) i=some (tI (ss.getD i.toNat [])):=aM tI h
def DL (ss:List (List Int)) (s:List Int):ss.map tI ++ [tI s]=(ss ++ [s]).map tI:=by rw [qD1]; rfl
def vb {α:Type} (xs:List α) (lo hi:Option Int):List α:=(xs.drop (HT.sIx xs.length 0 lo)).take (HT.sIx xs.length xs.length hi-HT.sIx xs.length 0 lo)
def va {α:Type} (f:α->W) (as:List α) (lo hi:Option Int):N7 (as.map f) lo hi=(vb as lo hi).map f:=by
 unfold N7 vb
 rw [qA5,<- List.map_drop,<- List.map_take]
def CT (ss:List (List Int)) (lo hi:Option Int):N7 (ss.map tI) lo hi=(vb ss lo hi).map tI:=va tI ss lo hi
def Dm (ss ts:List (List Int)):ss.map tI++ts.map tI=(ss++ts).map tI:=by rw [qD1]
def Dn (ss ts:List Int):ss.map W.int++ts.map W.int=(ss++ts).map W.int:=by rw [qD1]
def jY {f:W->R (Option W)} {α β:Type} (s:α->W) (g:β->W) (p:α->β->Prop):∀ (as:List α),(∀ a∈as,∃ z,f (s a)=.ok (some (g z))/\p a z)->∃ zs:List β,mapR f (as.map s)=.ok (zs.map g)/\Paired p as zs
 | [],_=>⟨[],rfl,.nil⟩
 | a::as,h=>by
  obtain ⟨z,e,hz⟩:=h a (by simp)
  obtain ⟨zs,e2,hp⟩:=jY s g p as fun b hb=>h b (by simp [hb])
  refine ⟨z::zs,?_,.cons hz hp⟩
  rw [qC0,mapR,e,e2]; rfl
def uh {N':Nat} {mg:W->Rho->Option Rho} {me:Rho->R W} {α β:Type} {as:List α} {s:α->W} {ρ:Rho} {P:W->Prop} (g:β->W) (p:α->β->Prop) (hl:as.length<=1000)
  (h:∀ a∈as,∃ ρ1,mg (s a) (ρ++List.replicate (N'-ρ.length) Sl.un)=some ρ1/\Ok (me ρ1) fun w=>∃ z,w=g z/\p a z) (hp:∀ zs:List β,Paired p as zs->P (.lst (zs.map g))):Ok (m9 N' mg yes me (as.map s) ρ) P:=by
 obtain ⟨zs,e,q⟩:=jY (f:=elR mg yes me (ρ++List.replicate (N'-ρ.length) Sl.un)) s g p as fun a ha=>by
  obtain ⟨ρ1,e1,w,e2,z,rfl,hz⟩:=h a ha
  refine ⟨z,?_,hz⟩
  unfold elR
  rw [e1]
  have hy:yes ρ1=.ok true:=rfl
  dsimp only
  rw [hy]
  dsimp only
  rw [e2]
 refine ⟨_,?_,hp zs q⟩
 unfold m9
 rw [qA5,qA1 hl,e]
def zX {lo hi:Int} (h:-1000000<=lo/\lo<=1000000 /\ -1000000<=hi/\hi<=1000000):O8 lo hi=.ok ((List.range (hi-lo).toNat).map fun k=>W.int (lo+(k:Nat))):=by
 unfold O8
 rw [qA1 h]
def eqv_refl:∀ w:W,PyData.eqv (pd w) (pd w)=true:=by
 intro w
 refine W.rec (motive_1:=fun w=>PyData.eqv (pd w) (pd w)=true) (motive_2:=fun ws=>PyData.eqvAll (pds ws) (pds ws)=true) ?_ ?_ ?_ ?_ ?_ ?_ ?_ ?_ ?_ ?_ ?_ ?_ w
 ·rfl
 ·intro b; cases b <;> rfl
 ·intro b; exact beq_self_eq_true b
 ·intro b; exact beq_self_eq_true b
 ·intro b; rfl
 ·exact fun ws h=>h
 ·exact fun ws h=>h
 ·exact fun ws h=>h
 ·intro b c; rfl
 ·intro b; rfl
 ·rfl
 ·intro w ws h1 h2; exact (qG8 _ _).mpr ⟨h1,h2⟩
def uX (w:W):eqW w w=true:=eqv_refl w
def aR {α:Type} (f:α->W) (n:Nat) (h:∀ a,shp n (f a)=true) (as:List α):W7 n (as.map f)=true:=by
 induction as with
 | nil=>rfl
 | cons a as ih=>rw [qC0]; simp only [W7,h,ih,qN7]
def cP (n:Nat) (i:Int):shp n (.int i)=true:=by cases n <;> rfl
def pM (n:Nat) (b:Bool):shp n (.bl b)=true:=by cases n <;> rfl
def ay (n:Nat) (ns:List Int):shp (n+1) (tI ns)=true:=aR W.int n (cP n) ns
def pL (n:Nat) (ns:List Int):shp (n+1) (lI ns)=true:=aR W.int n (cP n) ns
def jh (n:Nat) (ss:List (List Int)):shp (n+2) (.lst (ss.map tI))=true:=aR tI (n+1) (ay n) ss
def eP {neg:Bool} {w:W} (h:shp 8 w=true):fEq neg w w=.ok (.bl (!neg)):=by
 unfold fEq
 rw [h,uX]
 cases neg <;> rfl
def eqI:∀ (a b:List Int),PyData.eqvAll (pds (a.map W.int)) (pds (b.map W.int))=decide (a=b)
 | [],[]=>by simp [pds,PyData.eqvAll]
 | [],_::_=>by simp [pds,PyData.eqvAll]
 | _::_,[]=>by simp [pds,PyData.eqvAll]
 | x::a,y::b=>by
  simp only [qC0,pds,pd,PyData.eqvAll,PyData.eqv,eqI a b]
  by_cases h:x=y <;> by_cases h':a=b <;> simp [h,h']
def CC (neg:Bool) (a b:List Int):fEq neg (tI a) (tI b)=.ok (.bl (if neg then !decide (a=b) else decide (a=b))):=by
 unfold fEq
 rw [ay,ay]
 have:eqW (tI a) (tI b)=decide (a=b):=eqI a b
 rw [this]; rfl
def CH (neg:Bool) (a b:List Int):fEq neg (lI a) (lI b)=.ok (.bl (if neg then !decide (a=b) else decide (a=b))):=by
 unfold fEq
 rw [pL,pL]
 have:eqW (lI a) (lI b)=decide (a=b):=eqI a b
 rw [this]; rfl
def CP:∀ (a b:List (List Int)),PyData.eqvAll (pds (a.map tI)) (pds (b.map tI))=decide (a=b)
 | [],[]=>by simp [pds,PyData.eqvAll]
 | [],_::_=>by simp [pds,PyData.eqvAll]
 | _::_,[]=>by simp [pds,PyData.eqvAll]
 | x::a,y::b=>by
  simp only [qC0,pds,pd,PyData.eqvAll,PyData.eqv,CP a b,eqI]
  by_cases h:x=y <;> by_cases h':a=b <;> simp [h,h']
def CG (neg:Bool) (a b:List (List Int)):fEq neg (.lst (a.map tI)) (.lst (b.map tI))=.ok (.bl (if neg then !decide (a=b) else decide (a=b))):=by
 unfold fEq
 rw [jh,jh]
 have:eqW (.lst (a.map tI)) (.lst (b.map tI))=decide (a=b):=CP a b
 rw [this]; rfl
def rc (neg:Bool) (i j:Int):fEq neg (.int i) (.int j)=.ok (.bl (if neg then !decide (i=j) else decide (i=j))):=by
 unfold fEq
 rw [cP,cP]
 have:eqW (.int i) (.int j)=decide (i=j):=by
  by_cases h:i=j <;> simp [eqW,pd,PyData.eqv,h]
 rw [this]; rfl
def CJ (neg:Bool) (i j:Bool):fEq neg (.bl i) (.bl j)=.ok (.bl (if neg then !decide (i=j) else decide (i=j))):=by
 unfold fEq
 rw [pM,pM]
 have:eqW (.bl i) (.bl j)=decide (i=j):=by cases i <;> cases j <;> rfl
 rw [this]; rfl
def CF (neg:Bool) (j:Int):fEq neg .non (.int j)=.ok (.bl neg):=by cases neg <;> rfl
def CI (neg:Bool) (j:Int):fEq neg (.int j) .non=.ok (.bl neg):=by cases neg <;> rfl
def CD (neg:Bool):fEq neg .non .non=.ok (.bl (!neg)):=by cases neg <;> rfl
def uW (g:List Bool->Bool) (bs:List Bool):kY g [.lst (bs.map W.bl)]=.ok (.bl (g bs)):=by
 show (toR (Z2 (bs.map W.bl))>>=_)=_
 rw [yJ]; rfl
def yf (g:List Int->Int) (ns:List Int):EN g [.lst (ns.map W.int)]=.ok (.int (g ns)):=by
 show (toR (y8 (ns.map W.int))>>=_)=_
 rw [ints_map]; rfl
def Cy (i:Int):fInt [.int i]=.ok (.int i):=rfl
def Cz (b:Bool):fInt [.bl b]=.ok (.int (if b then 1 else 0)):=rfl
def CK (i:Int):fAbs [.int i]=.ok (.int (if i<0 then -i else i)):=rfl
def CM (o:Option Sl) (r:R W) (c:Bool) (i:Nat) (ρ:Rho):R Fl:=match o with
 | some (.own ws)=>r>>=fun w=>(match w with
  | .lst us=>if ws.length+us.length<=1000 then (if c||m5 us then .ok (.nx (ρ.set i (.own (ws++us)))) else .stuck) else .stuck
  | _=>.stuck)
 | _=>.stuck
def xE (i:Nat) (c:Bool) (m:Rho->R W) (ρ:Rho):kB i c m ρ=CM (ρ[i]?) (m ρ) c i ρ:=rfl
def CL {ws us:List W} {c:Bool} {i:Nat} {ρ:Rho} (h:ws.length+us.length<=1000):CM (some (.own ws)) (.ok (.lst us)) c i ρ=if c||m5 us then .ok (.nx (ρ.set i (.own (ws++us)))) else .stuck:=by
 show (if ws.length+us.length<=1000 then _ else _)=_
 rw [qA1 h]
def Ad (o:Option Sl) (i:Nat) (ρ:Rho):R Fl:=match o with
 | some (.own ws)=>.ok (.nx (ρ.set i (.own ws.reverse)))
 | _=>.stuck
def xD (i:Nat) (ρ:Rho):kA i ρ=Ad (ρ[i]?) i ρ:=rfl
def wF (ws:List W) (i:Nat) (ρ:Rho):Ad (some (.own ws)) i ρ=.ok (.nx (ρ.set i (.own ws.reverse))):=rfl
def bW {r:R Fl} {n:Rho->R Fl} {Jn:Rho->Prop} {Jr:W->Prop} (J:Rho->Prop) (h1:Po r J Jr) (h2:∀ ρ,J ρ->Po (n ρ) Jn Jr):Po (andThen r n) Jn Jr:=X1 (h1.mono h2 fun _ h=>h)
def xY (i j:Int):B5 i j=.int (i+j):=rfl
def xW (i j:Int):TP.gSub i j=.int (i-j):=rfl
def Cj (i j:Int):gLt i j=.bl (decide (i<j)):=rfl
def Ck (i j:Int):gLe i j=.bl (decide (i<=j)):=rfl
def Cl (i j:Int):gGt i j=.bl (decide (j<i)):=rfl
def Cm (i j:Int):gGe i j=.bl (decide (j<=i)):=rfl
def xX (i:Int):X9 i=.int (-i):=rfl
def uS (i j:Int):vR i j=i+j:=rfl
def uO (i j:Int):EG i j=i-j:=rfl
def Cq {i:Int} (h:0<=i/\i<1000):fStr [.int i]=.ok (.str (toString i)):=by
 show (if i.natAbs.log2<1920 then _ else _)=_
 rw [qA1]
 refine qD7 (Nat.log2_le_self _) ?_
 omega
def Cw (neg:Bool) (u:W) (b:Bool):cz neg u (.bl b)=.ok (.bl (if neg then !X8 u b else X8 u b)):=rfl
def BY (i:Int) (b:Bool):X8 (.int i) b=false:=rfl
def BW (b:Bool):X8 .non b=false:=rfl
def BV (x:Str) (b:Bool):X8 (.str x) b=false:=rfl
def BU (x:List W) (b:Bool):X8 (.tup x) b=false:=rfl
def BX (x:List W) (b:Bool):X8 (.lst x) b=false:=rfl
def BZ (a b:Bool):X8 (.bl a) b=(a == b):=rfl
def Rcu (c:Bool) (r:R (List W)) (f:List W->R W) (i:Nat) (ρ:Rho):R Fl:=if c then (r>>=fun ws=>f ws>>=fun w=>.ok (.nx (ρ.set i (.par w)))) else .stuck
def zL (i:Nat) (f:List W->R W) (ma:Rho->R (List W)) (ρ:Rho):sCU i f ma ρ=Rcu (noOwn ρ) (ma ρ) f i ρ:=rfl
def DT (r:R W) (i:Nat) (ρ:Rho):R Fl:=r>>=fun w=>.ok (.nx (ρ.set i (.par w)))
def Fv (ws:List W) (f:List W->R W) (i:Nat) (ρ:Rho):Rcu true (.ok ws) f i ρ=DT (f ws) i ρ:=rfl
def yW (w:W) (i:Nat) (ρ:Rho):DT (.ok w) i ρ=.ok (.nx (ρ.set i (.par w))):=rfl
def qB:noOwn []=true:=rfl
def xk (w:W) (ρ:Rho):noOwn (.val w::ρ)=noOwn ρ:=rfl
def xm (w:W) (ρ:Rho):noOwn (.par w::ρ)=noOwn ρ:=rfl
def xl (ρ:Rho):noOwn (.un::ρ)=noOwn ρ:=rfl
def ym {g:List Int->Int} {ns:List Int} (h:0<ns.length):vT g [tI ns]=.ok (.int (g ns)):=by
 show (toR (y8 (ns.map W.int))>>=_)=_
 rw [ints_map]
 show (if 0<ns.length then _ else _)=_
 rw [qA1 h]
def yn {g:List Int->Int} {ns:List Int} (h:0<ns.length):vT g [lI ns]=.ok (.int (g ns)):=by
 show (toR (y8 (ns.map W.int))>>=_)=_
 rw [ints_map]
 show (if 0<ns.length then _ else _)=_
 rw [qA1 h]
def Ac (ws:List W):gj [.lst ws]=.ok ws.reverse:=rfl
def rp0:=Z1 (@uQ) (Z1 (@uP) (Z1 (@Em) (Z1 (@El) (Z1 (@EA) (Z1 (@Ez) (Z1 (@Bm) (Z1 (@div_ii) (Z1 (@AN) (Z1 (@DN) (Z1 (@xx) (Z1 (@xy) (Z1 (@rd) (Z1 (@Cr) (Z1 (@Fq) (Z1 (@EE) (Z1 (@zW) (Z1 (@CU) (Z1 (@zA) (Z1 (@DM) (Z1 (@Ae) (Z1 (@xC) (Z1 (@oJ) (Z1 (@oI) (@oM))))))))))))))))))))))))
def rp1:=Z1 (@oK) (Z1 (@EB) (Z1 (@Fp) (Z1 (@Fo) (Z1 (@DV) (Z1 (@Fn) (Z1 (@Fm) (Z1 (@Fk) (Z1 (@Ft) (Z1 (@Fu) (Z1 (@vp) (Z1 (@yN) (Z1 (@vk) (Z1 (@wp) (Z1 (@zk) (Z1 (@wo) (Z1 (@wP) (Z1 (@wQ) (Z1 (@wO) (Z1 (@Aw) (Z1 (@Av) (Z1 (@Ax) (Z1 (@wK) (Z1 (@wk) (@zd))))))))))))))))))))))))
def rp2:=Z1 (@wg) (Z1 (@tK) (Z1 (@tL) (Z1 (@tJ) (Z1 (@wI) (Z1 (@wH) (Z1 (@wJ) (Z1 (@tG) (Z1 (@ze) (Z1 (@wL) (Z1 (@wN) (Z1 (@wM) (Z1 (@ph) (Z1 (@rW) (Z1 (@wf) (Z1 (@wj) (Z1 (@Ew) (Z1 (@Ev) (Z1 (@qs) (Z1 (@zc) (Z1 (@yT) (Z1 (@yS) (Z1 (@sh) (Z1 (@vq) (@zJ))))))))))))))))))))))))
def rp3:=Z1 (@zM) (Z1 (@zK) (Z1 (@sZ) (Z1 (@vo) (Z1 (@wy) (Z1 (@wG) (Z1 (@sY) (Z1 (@DZ) (Z1 (@Ea) (Z1 (@Ed) (Z1 (@yU) (Z1 (@pJ) (Z1 (@pG) (Z1 (@pK) (Z1 (@sP) (Z1 (@pI) (Z1 (@pH) (Z1 (@Ec) (Z1 (@yX) (Z1 (@pz) (Z1 (@wB) (Z1 (@yV) (Z1 (@wA) (Z1 (@Co) (@uV))))))))))))))))))))))))
def rp4:=Z1 (@uT) (Z1 (@uU) (Z1 (@xZ) (Z1 (@gF) (Z1 (@Ah) (Z1 (@Af) (Z1 (@Ag) (Z1 (@Ai) (Z1 (@Aj) (Z1 (@Am) (Z1 (@Ak) (Z1 (@Al) (Z1 (@An) (Z1 (@Ao) (Z1 (@Ap) (Z1 (@Aq) (Z1 (@oj) (Z1 (@tD) (Z1 (@tu) (Z1 (@tz) (Z1 (@xG) (Z1 (@xB) (Z1 (@wv) (Z1 (@pO) (@xF))))))))))))))))))))))))
def rp5:=Z1 (@yO) (Z1 (@Bp) (Z1 (@Cd) (Z1 (@Ce) ((((((Z1 (@yq) (Z1 (@yt) (Z1 (@CA) (Z1 (@fU_i) (Z1 (@EM) (Z1 (@EK) (Z1 (@EL) (Z1 (@sv) (Z1 (@zj) (Z1 (@Cu) (Z1 (@Cs) (Z1 (@Ct) (Z1 (@yd) (Z1 (@yc) (Z1 (@kX) (@Cp))))))))))))))))))))))))
def rp6:=Z1 (@Dc) (Z1 (@Dk) (Z1 (@Dg) (Z1 (@rD) (Z1 (@yz) (Z1 (@Dj) (Z1 (@yx) (Z1 (@yy) (Z1 (@Dh) (Z1 (@EO) (Z1 (@zF) (Z1 (@zD) (Z1 (@zE) (Z1 (@zZ) (Z1 (@zY) (Z1 (@gN_U) (Z1 (@gN_V) (Z1 (@gT_t) (Z1 (@uN) (Z1 (@xS) (Z1 (@ye) (Z1 (@BG) (Z1 (@BH) (Z1 (@BK) (@BB))))))))))))))))))))))))
def rp7:=Z1 (@Cv) (Z1 (@O5) (Z1 (@yk) (Z1 (@yl) (Z1 (@yg) (Z1 (@yh) (Z1 (@yi) (@yj)))))))
def rp8:=Z1 (@oW_n) (Z1 (@oW_s) (Z1 (@Di) (Z1 (@B7) (Z1 (@Df) (Z1 (@rC) (Z1 (@BS) (Z1 (@sO) (Z1 (@Fs) (@appO)))))))))
def rp9:=Z1 (@ft) (Z1 (@De) (Z1 (@Dl) (Z1 (@Fr) (Z1 (@DL) (Z1 (@CT) (Z1 (@Dm) (Z1 (@Dn) (Z1 (@zX) (Z1 (@CC) (Z1 (@CH) (Z1 (@CG) (Z1 (@rc) (Z1 (@CJ) (Z1 (@CF) (Z1 (@CI) (Z1 (@CD) ((Z1 (@uW) (Z1 (@yf) (Z1 (@Cy) (Z1 (@Cz) (Z1 (@CK) (Z1 (@xE) (Z1 (@CL) (Z1 (@xD) (@wF))))))))))))))))))))))))))
def rp10:=Z1 (@xY) (Z1 (@xW) (Z1 (@Cj) (Z1 (@Ck) (Z1 (@Cl) (Z1 (@Cm) (Z1 (@xX) (Z1 (@uS) (@uO))))))))
def rp11:=Z1 (@Cq) (Z1 (@Cw) (Z1 (@BY) (Z1 (@BW) (Z1 (@BV) (Z1 (@BU) (Z1 (@BX) (@BZ)))))))
def rp12:=Z1 (@zL) (Z1 (@Fv) (Z1 (@yW) (Z1 (@qB) (Z1 (@xk) (Z1 (@xm) (@xl))))))
def rp13:=Z1 (@ym) (Z1 (@yn) (@Ac))
end TP
set_option maxHeartbeats 4000000
open PySem L2 TP
namespace K97
def kq:Rho->R Fl:=
 (d6 (E3 (bI K1 (aC (b7 .U 0) (aC (b7 .U 1) aN))) (gT 2 (v4 (gN .U 2) (v4 (gN .U 3) gsNil)))
   (mIf (d9 (b2 (fI0 gLt) (b7 .B 2) (b7 .B 3))) (h7 (mC (.bl false))) sNx))
  (h7 (mC (.bl true))))
abbrev Y3:List W->R W:=g8 2 4 kq
def qL:Rho->R Fl:=
 (h7 (bA Y3 (aC (b7 .B 0) (aC (b2 fIx (b7 .B 1) (mC (.int 0))) aN))))
abbrev fK:List W->R W:=g8 2 2 qL
def eH:Rho->R Fl:=
 (h7 (bA (E6 true) (aC (o8 3 (bI K1 (aC (b2 fIx (b7 .B 0) (mC (.int 0))) (aC (b2 fIx (b7 .B 0) (mC (.int 1))) aN))) (gT 2 (v4 (gN .U 1) (v4 (gN .U 2) gsNil))) yes (b2 (fI0 gSub) (b7 .B 2) (b7 .B 1))) aN)))
abbrev Y4:List W->R W:=g8 1 1 eH
def mO:Rho->R Fl:=
 (d6 (mIf (J8 (d9 (bA fK (aC (b7 .B 0) (aC (b7 .B 1) aN))))) jt sNx)
  (h7 (bA (E6 true) (aC (o8 4 (bI K1 (aC (b7 .B 0) (aC (bA Y4 (aC (b7 .B 1) aN)) aN))) (gT 2 (v4 (gN .U 2) (v4 (gN .U 3) gsNil))) yes (b2 (fI0 B5) (b7 .B 2) (b7 .B 3))) aN))))
abbrev aH:List W->R W:=g8 2 2 mO
def kh:Rho->R Fl:=
 (d6 (E3 (bS (b7 .U 1)) (gN .U 2)
   (mIf (d9 (bA Y3 (aC (b7 .B 0) (aC (b7 .B 2) aN)))) (h7 (mC (.bl true))) sNx))
  (h7 (mC (.bl false))))
abbrev N4:List W->R W:=g8 2 3 kh
def mM:Rho->R Fl:=
 (d6 (sF 1 (D5 aN))
  (d6 (E3 (bS (bA fSortA (aC (b7 .B 0) aN))) (gN .U 2)
   (mIf (J8 (d9 (bA N4 (aC (b7 .B 2) (aC (b7 .B 1) aN))))) (N2 1 (b7 .V 2)) sNx))
  (v9 .F 1)))
abbrev di:List W->R W:=g8 1 3 mM
def jZ:Rho->R Fl:=
 (h7 (bA (E6 true) (aC (o8 5 (bI K1 (aC (b7 .B 0) (aC (b2 fIx (b7 .B 1) (mC (.int 0))) (aC (b2 fIx (b7 .B 1) (mC (.int 1))) aN)))) (gT 3 (v4 (gN .U 2) (v4 (gN .U 3) (v4 (gN .U 4) gsNil)))) yes (bA (f2 ou) (aC (b7 .B 3) (aC (b2 (fI0 B5) (b2 (fI0 gSub) (b7 .B 2) (b7 .B 4)) (b7 .B 3)) aN)))) aN)))
abbrev eN:List W->R W:=g8 2 2 jZ
def io:Rho->R Fl:=
 (d6 (sF 2 (D5 aN))
  (d6 (E3 (bS (b7 .U 0)) (gN .U 3)
   (kB 2 true (o8 5 (bS (b7 .B 1)) (gN .U 4) yes (bA eN (aC (b7 .B 4) (aC (b7 .B 3) aN))))))
  (v9 .F 2)))
abbrev U5:List W->R W:=g8 2 4 io
def dL:Rho->R Fl:=
 (h7 (bA di (aC (b2 (ow true) (bA (iP false) (aC (b7 .B 1) aN)) (bA U5 (aC (b7 .B 0) (aC (b7 .B 1) aN)))) aN)))
abbrev J0:List W->R W:=g8 2 2 dL
def ip:Rho->R Fl:=
 (h7 (bA (kY uR) (aC (o8 3 (bS (bA U5 (aC (b7 .B 0) (aC (b7 .B 1) aN)))) (gN .U 2) yes (bA N4 (aC (b7 .B 2) (aC (b7 .B 1) aN)))) aN)))
abbrev cw:List W->R W:=g8 2 2 ip
def ko:Rho->R Fl:=
 (d6 (sV 4 (b2 fIx (b7 .C 1) (b1 (fU X9) (mC (.int 1)))))
  (d6 (sV 5 (b2 (fI0 gSub) (bA fLen (aC (b7 .B 1) aN)) (mC (.int 1))))
  (d6 (mIf (d9 (b2 (fI0 gGt) (bA fLen (aC (b7 .B 4) aN)) (b7 .B 2))) (h7 (F2 (aC (mC (.str "open")) (aC (b7 .V 5) aN)))) sNx)
  (d6 (mIf (d9 (bA cw (aC (b7 .B 0) (aC (b7 .B 4) aN)))) (h7 (F2 (aC (b7 .V 3) (aC (b7 .V 4) aN)))) sNx)
  (d6 (mIf (d9 (b2 (fEq false) (b7 .B 5) (b7 .B 2))) (h7 (F2 (aC (mC (.str "open")) (aC (b7 .V 5) aN)))) sNx)
  (h7 (mC .non)))))))
abbrev N5:List W->R W:=N1 4 6 ko
def kj:Rho->R Fl:=
 (d6 (sF 3 (D5 (aC (D5 (aC (b7 .V 1) aN)) aN)))
  (d6 (sCX 4 [3] N5 (aC (b7 .V 0) (aC (b7 .V 3) (aC (b7 .V 2) (aC (mC (.str "basis")) aN)))))
  (d6 (M0 (d9 (b2 (E7 false) (b7 .B 4) (mC .non))) (d6 (N2 3 (bA J0 (aC (b7 .B 0) (aC (b2 fIx (b7 .B 3) (b1 (fU X9) (mC (.int 1)))) aN))))
   (sCX 4 [3] N5 (aC (b7 .V 0) (aC (b7 .V 3) (aC (b7 .V 2) (aC (mC (.str "basis")) aN)))))))
  (v9 .V 4))))
abbrev eO:List W->R W:=g8 3 5 kj
def cf:Rho->R Fl:=
 (h7 (o8 5 (bI gO (aC (b7 .B 1) aN)) (gT 2 (v4 (gN .U 3) (v4 (gN .U 4) gsNil))) (R6 (d9 (bA fK (aC (b7 .B 0) (aC (b7 .B 4) aN)))) (d9 (bA N4 (aC (bA aH (aC (b7 .B 0) (aC (b7 .B 4) aN))) (aC (b7 .B 2) aN))))) (b7 .V 3)))
abbrev Y1:List W->R W:=g8 3 3 cf
def ce:Rho->R Fl:=
 (d6 (sF 2 (D5 aN))
  (d6 (sV 3 (b2 fIx (b7 .C 0) (mC (.int 0))))
  (d6 (E3 (bI gj (aC (vSl true (b7 .C 1) pN (pS (b1 (fU X9) (mC (.int 1))))) aN)) (gN .U 4)
   (d6 (sV 5 (b2 fIx (bA Y1 (aC (b7 .B 3) (aC (b2 fIx (b7 .B 0) (mC (.int 1))) (aC (b7 .B 4) aN)))) (mC (.int 0))))
   (d6 (N2 2 (b7 .V 5))
   (sF 3 (bA aH (aC (b7 .B 3) (aC (b2 fIx (b2 fIx (b7 .B 0) (mC (.int 1))) (b7 .B 5)) aN)))))))
  (v9 .V 2))))
abbrev P5:List W->R W:=N1 2 6 ce
def mN:Rho->R Fl:=
 (d6 (sF 3 (D5 (aC (D5 (aC (b7 .V 1) aN)) aN)))
  (d6 (M0 (J8 (d9 (bA N4 (aC (b2 fIx (b7 .B 0) (mC (.int 0))) (aC (b2 fIx (b7 .B 3) (b1 (fU X9) (mC (.int 1)))) aN))))) (d6 (sCX 4 [3] N5 (aC (cE (b2 fIx (b7 .B 0) (mC (.int 1)))) (aC (b7 .V 3) (aC (b7 .V 2) (aC (mC (.str "wall")) aN)))))
   (d6 (mIf (d9 (b2 (E7 true) (b7 .B 4) (mC .non))) (v9 .V 4) sNx)
   (N2 3 (bA J0 (aC (b2 fIx (b7 .B 0) (mC (.int 1))) (aC (b2 fIx (b7 .B 3) (b1 (fU X9) (mC (.int 1)))) aN)))))))
  (nL 3 (h7 (F2 (aC (mC (.str "row")) (aC (bA P5 (aC (b7 .V 0) (aC (b7 .V 3) aN))) aN)))))))
abbrev Q6:List W->R W:=g8 3 5 mN
def V2:Rho->R Fl:=
 (d6 (mIf (d9 (b2 (j9 false) (b2 fIx (b7 .B 0) (mC (.int 0))) (mC (.str "open")))) (h7 (mC .non)) sNx)
  (h7 (b2 (j9 false) (b2 fIx (b7 .B 0) (mC (.int 0))) (mC (.str "wall")))))
abbrev L7:List W->R W:=g8 1 1 V2
def mL:Rho->R Fl:=
 (h7 (o8 3 (bS (b2 fIx (b7 .B 0) (mC (.int 1)))) (gN .U 2) yes (bA L7 (aC (bA Q6 (aC (b7 .B 0) (aC (b2 fIx (b7 .B 2) (mC (.int 0))) (aC (b7 .B 1) aN)))) aN))))
abbrev dh:List W->R W:=g8 2 2 mL
def mK:Rho->R Fl:=
 (d6 (E3 (bI K1 (aC (b7 .U 0) (aC (b7 .U 1) aN))) (gT 2 (v4 (gN .U 2) (v4 (gN .U 3) gsNil)))
   (mIf (R6 (d9 (b2 (E7 true) (b7 .B 3) (mC .non))) (al (d9 (b2 (E7 false) (b7 .B 2) (mC .non))) (d9 (b2 (fI0 gGt) (b7 .B 2) (b7 .B 3))))) (h7 (mC (.bl false))) sNx))
  (h7 (mC (.bl true))))
abbrev W5:List W->R W:=g8 2 4 mK
def dJ:Rho->R Fl:=
 (d6 (E3 (bS (b7 .U 1)) (gN .U 2)
   (mIf (d9 (bA W5 (aC (b7 .B 0) (aC (b7 .B 2) aN)))) (h7 (mC (.bl true))) sNx))
  (h7 (mC (.bl false))))
abbrev M1:List W->R W:=g8 2 3 dJ
def fx:Rho->R Fl:=
 (h7 (bA W5 (aC (b2 fIx (b7 .B 1) (mC (.int 0))) (aC (b7 .B 0) aN))))
abbrev V4:List W->R W:=g8 2 2 fx
def dM:Rho->R Fl:=
 (d6 (mIf (J8 (d9 (bA V4 (aC (b7 .B 0) (aC (b7 .B 1) aN))))) jt sNx)
  (h7 (bA (E6 true) (aC (o8 4 (bI K1 (aC (b7 .B 0) (aC (bA Y4 (aC (b7 .B 1) aN)) aN))) (gT 2 (v4 (gN .U 2) (v4 (gN .U 3) gsNil))) yes (vIf (d9 (b2 (E7 false) (b7 .B 2) (mC .non))) (mC .non) (b2 (fI0 B5) (b7 .B 2) (b7 .B 3)))) aN))))
abbrev ap:List W->R W:=g8 2 2 dM
def kf:Rho->R Fl:=
 (d6 (mIf (J8 (d9 (bA W5 (aC (b7 .B 1) (aC (b7 .B 0) aN))))) (v9 .F 0) sNx)
  (h7 (bA (E6 true) (aC (o8 4 (bI K1 (aC (b7 .B 0) (aC (b7 .B 1) aN))) (gT 2 (v4 (gN .U 2) (v4 (gN .U 3) gsNil))) yes (vIf (d9 (b2 (fEq false) (b7 .B 2) (b7 .B 3))) (b7 .V 2) (mC .non))) aN))))
abbrev bi:List W->R W:=g8 2 2 kf
def fw:Rho->R Fl:=
 (h7 (bA (E6 true) (aC (o8 2 (bS (b7 .B 0)) (gN .U 1) yes (vIf (d9 (b2 (E7 false) (b7 .B 1) (mC .non))) (F2 (aC (mC (.int 1)) (aC (mC (.int 0)) aN))) (F2 (aC (mC (.int 0)) (aC (b7 .V 1) aN))))) aN)))
abbrev L6:List W->R W:=g8 1 1 fw
def qK:Rho->R Fl:=
 (d6 (sF 1 (D5 aN))
  (d6 (E3 (bS (bA (cy false L6) (aC (b7 .B 0) aN))) (gN .U 2)
   (mIf (J8 (d9 (bA M1 (aC (b7 .B 2) (aC (b7 .B 1) aN))))) (N2 1 (b7 .V 2)) sNx))
  (d6 (kA 1)
  (v9 .F 1))))
abbrev kT:List W->R W:=g8 1 3 qK
def fv:Rho->R Fl:=
 (d6 (sF 2 (D5 aN))
  (d6 (sV 3 (b7 .V 1))
  (d6 (M0 (d9 (b2 (E7 true) (b7 .B 3) (mC .non))) (d6 (N2 2 (b7 .V 3))
   (sU 3 (b2 fIx (b2 fIx (b7 .B 0) (b7 .B 3)) (mC (.int 1))))))
  (v9 .F 2))))
abbrev V3:List W->R W:=g8 2 4 fv
def U3 (p:Addr):Rho->R Fl:=
 (d6 (nb (sU 4 (b2 fIx (b2 fIx (b7 .B 0) (mC (.int 1))) (b7 .B 3))))
  (d6 (mIf (J8 (d9 (bA V4 (aC (b2 fIx (b2 fIx (b7 .B 1) (b7 .B 2)) (mC (.int 0))) (aC (b7 .B 4) aN))))) nM (nb sNx))
  (d6 (nb (sF 5 (bA ap (aC (b2 fIx (b2 fIx (b7 .B 1) (b7 .B 2)) (mC (.int 0))) (aC (b7 .B 4) aN)))))
  (d6 (nb (E3 (bS (bA V3 (aC (b7 .B 1) (aC (b7 .B 2) aN)))) (gN .U 6)
   (sF 5 (bA bi (aC (b7 .B 5) (aC (b2 fIx (b2 fIx (b7 .B 1) (b7 .B 6)) (mC (.int 0))) aN))))))
  (mIf (J8 (d9 (bA M1 (aC (b7 .B 5) (aC (o8 8 (bS (b7 .B 1)) (gN .U 7) yes (cE (b2 fIx (b7 .B 7) (mC (.int 0))))) aN))))) (dc p 1 (F2 (aC (b7 .V 5) (aC (b7 .V 2) (aC (b7 .V 3) aN))))) (nb sNx))))))
abbrev fJ:W->List W->List W->R (List W):=G7 4 7 U3
def ki:Rho->R Fl:=
 (d6 (sF 2 (D5 (aC (F2 (aC (cE (b2 fIx (b7 .B 0) (mC (.int 0)))) (aC (mC .non) (aC (mC .non) aN)))) aN)))
  (d6 (sV 3 (mC (.int 0)))
  (d6 (M0 (d9 (b2 (fI0 gLt) (b7 .B 3) (bA fLen (aC (b7 .B 2) aN)))) (d6 (E3 (bI J2 (aC (bA fLen (aC (b2 fIx (b7 .B 0) (mC (.int 1))) aN)) aN)) (gN .U 4)
    (mIO 2 fJ (b7 .B 0) (aC (b7 .B 3) (aC (b7 .B 4) aN))))
   (d6 (mIf (d9 (b2 (fI0 gGt) (bA fLen (aC (b7 .B 2) aN)) (b7 .B 1))) (h7 (mC .non)) sNx)
   (kC 3 vR (mC (.int 1))))))
  (v9 .F 2))))
abbrev Y2:List W->R W:=g8 2 5 ki
def gE:Rho->R Fl:=
 (d6 (sF 2 (bA Y2 (aC (b7 .B 0) (aC (b7 .B 1) aN))))
  (d6 (mIf (d9 (b2 (E7 false) (b7 .B 2) (mC .non))) (h7 (mC .non)) sNx)
  (h7 (bA kT (aC (o8 4 (bS (b7 .B 2)) (gN .U 3) yes (cE (b2 fIx (b7 .B 3) (mC (.int 0))))) aN)))))
abbrev dj:List W->R W:=g8 2 3 gE
def S5:Rho->R Fl:=
 (d6 (mIf (d9 (b2 (fI0 gLt) (b7 .B 1) (bA fLen (aC (b7 .B 0) aN)))) (h7 (cE (b2 fIx (b7 .B 0) (b7 .B 1)))) sNx)
  (d6 (sV 2 (b2 (fI0 B5) (b2 (fI CMulB p9) (mC (.int 150001)) (b7 .B 1)) (mC (.int 61))))
  (d6 (mIf (d9 (b2 (fI0 gGt) (bA fLen (aC (b7 .B 0) aN)) (mC (.int 0)))) (sV 2 (b2 (fI0 B5) (b2 (fI0 B5) (b2 (fI CMulB p9) (b2 fIx (b7 .B 0) (b2 (fI k9 l6) (b2 (fI CMulB p9) (b7 .B 1) (mC (.int 59))) (bA fLen (aC (b7 .B 0) aN)))) (mC (.int 27611))) (b2 (fI CMulB p9) (b2 (fI CMulB p9) (b7 .B 1) (b7 .B 1)) (mC (.int 3023)))) (mC (.int 7)))) sNx)
  (h7 (b2 (fI k9 l6) (b2 (fI CMulB p9) (b7 .B 2) (b7 .B 2)) (mC (.int 2147483423)))))))
abbrev i9:List W->R W:=g8 2 3 S5
def dO:Rho->R Fl:=
 (d6 (sF 5 (D5 aN))
  (d6 (sF 6 (D5 aN))
  (d6 (E3 (bI J2 (aC (b7 .B 2) aN)) (gN .U 7)
   (d6 (sF 8 (bA i9 (aC (b7 .B 0) (aC (b2 (fI0 B5) (b7 .B 1) (b7 .B 7)) aN))))
   (d6 (N2 5 (b2 (fI CMulB p9) (b2 fIx (D5 (aC (mC (.int 0)) (aC (mC (.int 1)) (aC (mC (.int 0)) (aC (mC (.int 0)) (aC (mC (.int 1)) (aC (mC (.int 2)) aN))))))) (b2 (fI k9 l6) (b7 .B 8) (mC (.int 6)))) (b7 .B 4)))
   (N2 6 (b2 (fI CMulB p9) (b2 fIx (D5 (aC (mC (.int 0)) (aC (mC (.int 1)) (aC (mC (.int 0)) (aC (mC (.int 0)) (aC (mC (.int 1)) (aC (mC (.int 2)) (aC (mC (.int 0)) aN)))))))) (b2 (fI k9 l6) (b2 (fI B6 F5) (b7 .B 8) (mC (.int 6))) (mC (.int 7)))) (b7 .B 4))))))
  (d6 (mIf (d9 (b7 .B 3)) (d6 (sV 9 (b2 (fI k9 l6) (b2 (fI B6 F5) (bA i9 (aC (b7 .B 0) (aC (b7 .B 1) aN))) (mC (.int 42))) (b7 .B 2)))
   (d6 (sV 10 (b2 (fI k9 l6) (b2 (fI B6 F5) (bA i9 (aC (b7 .B 0) (aC (b2 (fI0 B5) (b7 .B 1) (mC (.int 1))) aN))) (mC (.int 42))) (b7 .B 2)))
   (d6 (sF 5 (o8 12 (bI J2 (aC (b7 .B 2) aN)) (gN .U 11) yes (b2 (fI CMulB p9) (bA fInt (aC (b2 (fEq false) (b7 .B 11) (b7 .B 9)) aN)) (b7 .B 4))))
   (sF 6 (o8 12 (bI J2 (aC (b7 .B 2) aN)) (gN .U 11) yes (b2 (fI CMulB p9) (b2 (fI CMulB p9) (bA fInt (aC (b2 (fEq false) (b7 .B 11) (b7 .B 10)) aN)) (b2 (fI0 B5) (mC (.int 1)) (b2 (fI k9 l6) (b7 .B 9) (mC (.int 2))))) (b7 .B 4))))))) sNx)
  (h7 (F2 (aC (bA (E6 true) (aC (b7 .C 5) aN)) (aC (bA (E6 true) (aC (b7 .C 6) aN)) aN))))))))
abbrev aq:List W->R W:=g8 5 11 dO
def bD:Rho->R Fl:=
 (d6 (E3 (bI J2 (aC (bA fLen (aC (b7 .B 0) aN)) aN)) (gN .U 2)
   (mIf (d9 (b2 (fI0 gLt) (b2 fIx (b7 .B 0) (b7 .B 2)) (b2 fIx (b7 .B 1) (b7 .B 2)))) (h7 (mC (.bl false))) sNx))
  (h7 (mC (.bl true))))
abbrev A8:List W->R W:=g8 2 3 bD
def bE:Rho->R Fl:=
 (h7 (bA (E6 true) (aC (o8 3 (bI J2 (aC (bA fLen (aC (b7 .B 0) aN)) aN)) (gN .U 2) yes (b2 (fI0 B5) (b2 (fI0 gSub) (b2 fIx (b7 .B 0) (b7 .B 2)) (b2 fIx (b2 fIx (b7 .B 1) (mC (.int 0))) (b7 .B 2))) (b2 fIx (b2 fIx (b7 .B 1) (mC (.int 1))) (b7 .B 2)))) aN)))
abbrev M8:List W->R W:=g8 2 2 bE
def cp:Rho->R Fl:=
 (d6 (sV 3 (b7 .V 1))
  (d6 (E3 (bI J2 (aC (b2 (fI k9 l6) (b2 (fI B6 F5) (bA i9 (aC (b7 .B 0) (aC (mC (.int 3)) aN))) (mC (.int 4))) (mC (.int 9))) aN)) (gN .U 4)
   (d6 (sF 5 (o8 7 (bS (b7 .B 2)) (gN .U 6) (d9 (bA A8 (aC (b7 .B 3) (aC (b2 fIx (b7 .B 6) (mC (.int 0))) aN)))) (b7 .V 6)))
   (mIf (d9 (b2 (fEq true) (b7 .B 5) (D5 aN))) (sF 3 (bA M8 (aC (b7 .B 3) (aC (b2 fIx (b7 .B 5) (b2 (fI k9 l6) (b2 (fI B6 F5) (bA i9 (aC (b7 .B 0) (aC (b2 (fI0 B5) (mC (.int 40)) (b7 .B 4)) aN))) (mC (.int 3))) (bA fLen (aC (b7 .B 5) aN)))) aN)))) sNx)))
  (v9 .F 3)))
abbrev Y6:List W->R W:=g8 3 6 cp
def fy:Rho->R Fl:=
 (d6 (E3 (bS (b7 .U 0)) (gN .U 3)
   (d6 (mIf (al (J8 (d9 (eT (fI0 gLe) (fI0 gLt) (mC (.int 0)) (b7 .B 3) (bA fLen (aC (b7 .B 2) aN))))) (J8 (d9 (bA A8 (aC (b7 .B 1) (aC (b2 fIx (b2 fIx (b7 .B 2) (b7 .B 3)) (mC (.int 0))) aN)))))) (h7 (mC .non)) sNx)
   (sF 1 (bA M8 (aC (b7 .B 1) (aC (b2 fIx (b7 .B 2) (b7 .B 3)) aN))))))
  (v9 .F 1))
abbrev P6:List W->R W:=g8 3 4 fy
def dP:Rho->R Fl:=
 (d6 (sF 2 (D5 aN))
  (d6 (E3 (bI J2 (aC (bA fLen (aC (b7 .B 1) aN)) aN)) (gN .U 3)
   (d6 (sF 4 (bA i9 (aC (b7 .B 0) (aC (b2 (fI0 B5) (mC (.int 14)) (b7 .B 3)) aN))))
   (mIf (d9 (b2 (j9 false) (b2 (fI k9 l6) (b7 .B 4) (mC (.int 4))) (mC (.int 1)))) (N2 2 (b2 (fI k9 l6) (b2 (fI B6 F5) (b7 .B 4) (mC (.int 4))) (b2 (fI0 B5) (b2 (fI bv kR) (mC (.int 10)) (mC (.int 9))) (mC (.int 1))))) (N2 2 (b2 (fI k9 l6) (b2 (fI B6 F5) (b7 .B 4) (mC (.int 4))) (mC (.int 3)))))))
  (h7 (bA (E6 true) (aC (b7 .C 2) aN)))))
abbrev ar:List W->R W:=g8 2 5 dP
def ci:Rho->R Fl:=
 (h7 (b2 (j9 false) (bA fLen (aC (o8 3 (bI J2 (aC (bA fLen (aC (b7 .B 0) aN)) aN)) (gN .U 2) (R6 (d9 (b2 (E7 true) (b2 fIx (b7 .B 1) (b7 .B 2)) (mC .non))) (al (d9 (b2 (E7 false) (b2 fIx (b7 .B 0) (b7 .B 2)) (mC .non))) (d9 (b2 (fI0 gGt) (b2 fIx (b7 .B 0) (b7 .B 2)) (b2 fIx (b7 .B 1) (b7 .B 2)))))) (b7 .V 2)) aN)) (mC (.int 0))))
abbrev Y5:List W->R W:=g8 2 2 ci
def bC:Rho->R Fl:=
 (h7 (b2 (fI0 gGt) (bA fLen (aC (o8 3 (bS (b7 .B 1)) (gN .U 2) (d9 (bA A8 (aC (b7 .B 0) (aC (b7 .B 2) aN)))) (b7 .V 2)) aN)) (mC (.int 0))))
abbrev M7:List W->R W:=g8 2 2 bC
def dN:Rho->R Fl:=
 (d6 (sF 6 (bA P6 (aC (b2 fIx (b7 .B 0) (mC (.int 1))) (aC (b2 fIx (b7 .B 1) (mC (.int 0))) (aC (b2 fIx (b7 .B 1) (mC (.int 1))) aN)))))
  (d6 (sF 7 (bA P6 (aC (b2 fIx (b7 .B 0) (mC (.int 1))) (aC (b7 .B 2) (aC (b2 fIx (b7 .B 1) (mC (.int 1))) aN)))))
  (d6 (mIf (al (d9 (b2 (E7 false) (b7 .B 6) (mC .non))) (al (d9 (b2 (E7 false) (b7 .B 7) (mC .non))) (J8 (d9 (bA A8 (aC (b7 .B 6) (aC (b7 .B 4) aN))))))) (h7 (mC (.bl false))) sNx)
  (d6 (mIf (d9 (b2 (fEq true) (b7 .B 7) (bA (E6 true) (aC (o8 10 (bI J2 (aC (bA fLen (aC (b7 .B 3) aN)) aN)) (gN .U 9) yes (b2 (fI0 B5) (b2 fIx (b7 .B 6) (b7 .B 9)) (b2 fIx (b7 .B 3) (b7 .B 9)))) aN)))) (h7 (mC (.bl false))) sNx)
  (d6 (sV 8 (bA Q6 (aC (F2 (aC (b7 .U 2) (aC (b2 fIx (b7 .B 1) (mC (.int 1))) aN))) (aC (b7 .B 4) (aC (b7 .B 5) aN)))))
  (h7 (nt (b2 (j9 false) (b2 fIx (b7 .B 8) (mC (.int 0))) (mC (.str "row"))) (b2 (fI0 gLe) (bA fLen (aC (b2 fIx (b7 .B 8) (mC (.int 1))) aN)) (bA fLen (aC (b2 fIx (b7 .B 0) (mC (.int 1))) aN))))))))))
abbrev S7:List W->R W:=g8 6 9 dN
def S6:Rho->R Fl:=
 (d6 (sF 3 (bA dj (aC (b7 .B 0) (aC (b7 .B 2) aN))))
  (d6 (sF 4 (bA dj (aC (F2 (aC (b7 .U 1) (aC (b2 fIx (b7 .B 0) (mC (.int 1))) aN))) (aC (b7 .B 2) aN))))
  (d6 (mIf (al (d9 (b2 (E7 false) (b7 .B 3) (mC .non))) (d9 (b2 (E7 false) (b7 .B 4) (mC .non)))) (h7 (mC (.bl true))) sNx)
  (d6 (nL 3 (E3 (bS (b7 .U 3)) (gN .U 5)
   (mIf (d9 (b2 (j9 false) (bA fLen (aC (o8 7 (bS (b7 .B 4)) (gN .U 6) (d9 (bA Y5 (aC (b7 .B 5) (aC (b7 .B 6) aN)))) (b7 .V 6)) aN)) (mC (.int 0)))) (h7 (mC (.bl false))) sNx)))
  (h7 (mC (.bl true)))))))
abbrev S8:List W->R W:=g8 3 6 S6
def bB:Rho->R Fl:=
 (d6 (sF 3 (bA dh (aC (b7 .B 0) (aC (b7 .B 2) aN))))
  (d6 (sF 4 (bA dh (aC (F2 (aC (b7 .U 1) (aC (b2 fIx (b7 .B 0) (mC (.int 1))) aN))) (aC (b7 .B 2) aN))))
  (d6 (mIf (al (d9 (b2 (j9 true) (bA fLen (aC (b7 .B 3) aN)) (bA fLen (aC (b2 fIx (b7 .B 0) (mC (.int 1))) aN)))) (d9 (b2 (j9 true) (bA fLen (aC (b7 .B 4) aN)) (bA fLen (aC (b2 fIx (b7 .B 0) (mC (.int 1))) aN))))) (h7 (mC (.bl false))) sNx)
  (d6 (E3 (bI J2 (aC (bA fLen (aC (b7 .B 3) aN)) aN)) (gN .U 5)
   (mIf (R6 (d9 (b2 (cz false) (b2 fIx (b7 .B 4) (b7 .B 5)) (mC (.bl true)))) (d9 (b2 (cz false) (b2 fIx (b7 .B 3) (b7 .B 5)) (mC (.bl false))))) (h7 (mC (.bl false))) sNx))
  (h7 (mC (.bl true)))))))
abbrev M6:List W->R W:=g8 3 6 bB
def vN:Rho->R Fl:=
 (d6 (sV 1 (b2 (fI0 B5) (mC (.int 2)) (b2 (fI k9 l6) (bA i9 (aC (b7 .B 0) (aC (mC (.int 0)) aN))) (mC (.int 3)))))
  (d6 (sV 2 (b2 (fI0 B5) (mC (.int 1)) (b2 (fI k9 l6) (bA i9 (aC (b7 .B 0) (aC (mC (.int 1)) aN))) (mC (.int 10)))))
  (d6 (sV 3 (b2 (j9 false) (b2 (fI k9 l6) (bA i9 (aC (b7 .B 0) (aC (mC (.int 2)) aN))) (mC (.int 3))) (mC (.int 1))))
  (d6 (sV 4 (mC (.int 1)))
  (d6 (mIf (d9 (b2 (j9 false) (b2 (fI k9 l6) (bA i9 (aC (b7 .B 0) (aC (mC (.int 3)) aN))) (mC (.int 4))) (mC (.int 1)))) (sV 4 (b2 (fI0 B5) (mC (.int 1)) (b2 (fI k9 l6) (b2 (fI B6 F5) (bA i9 (aC (b7 .B 0) (aC (mC (.int 3)) aN))) (mC (.int 4))) (b2 (fI bv kR) (mC (.int 10)) (mC (.int 8)))))) sNx)
  (d6 (sF 5 (D5 aN))
  (d6 (E3 (bI J2 (aC (b2 (fI0 B5) (mC (.int 1)) (b2 (fI k9 l6) (bA i9 (aC (b7 .B 0) (aC (mC (.int 4)) aN))) (mC (.int 5)))) aN)) (gN .U 6)
   (N2 5 (bA aq (aC (b7 .B 0) (aC (b2 (fI0 B5) (mC (.int 20)) (b2 (fI CMulB p9) (b7 .B 1) (b7 .B 6))) (aC (b7 .B 1) (aC (b7 .B 3) (aC (b7 .B 4) aN))))))))
  (d6 (sF 7 (bA (E6 true) (aC (o8 16 (bI J2 (aC (b7 .B 1) aN)) (gN .U 15) yes (b2 (fI CMulB p9) (b2 (fI k9 l6) (bA i9 (aC (b7 .B 0) (aC (b2 (fI0 B5) (mC (.int 6)) (b7 .B 15)) aN))) (mC (.int 3))) (b7 .B 4))) aN)))
  (d6 (sF 8 (F2 (aC (b7 .V 7) (aC (bA (E6 true) (aC (b7 .C 5) aN)) aN))))
  (d6 (sF 9 (bA ar (aC (b7 .B 0) (aC (b7 .B 7) aN))))
  (d6 (sF 10 (bA (E6 true) (aC (o8 16 (bI J2 (aC (b7 .B 1) aN)) (gN .U 15) yes (b2 (fI0 B5) (b2 fIx (b7 .B 7) (b7 .B 15)) (b2 fIx (b7 .B 9) (b7 .B 15)))) aN)))
  (d6 (sF 11 (bA (E6 true) (aC (o8 16 (bI J2 (aC (b7 .B 1) aN)) (gN .U 15) yes (b2 (fI CMulB p9) (b2 (fI k9 l6) (b2 (fI B6 F5) (bA i9 (aC (b7 .B 0) (aC (b2 (fI0 B5) (mC (.int 10)) (b7 .B 15)) aN))) (mC (.int 3))) (mC (.int 4))) (b7 .B 4))) aN)))
  (d6 (mIf (d9 (b2 (j9 false) (b2 (fI k9 l6) (bA i9 (aC (b7 .B 0) (aC (mC (.int 5)) aN))) (mC (.int 2))) (mC (.int 1)))) (sF 11 (bA Y6 (aC (b7 .B 0) (aC (b7 .B 7) (aC (b7 .B 5) aN))))) sNx)
  (d6 (sV 12 (bA Q6 (aC (b7 .B 8) (aC (b7 .B 11) (aC (b7 .B 2) aN)))))
  (d6 (mIf (R6 (d9 (b2 (j9 false) (b2 fIx (b7 .B 12) (mC (.int 0))) (mC (.str "row")))) (J8 (d9 (bA S7 (aC (b7 .B 12) (aC (b7 .B 8) (aC (b7 .B 10) (aC (b7 .B 9) (aC (b7 .B 11) (aC (b7 .B 2) aN)))))))))) (h7 (mC (.bl false))) sNx)
  (d6 (sV 13 (bA eO (aC (b2 fIx (b7 .B 8) (mC (.int 1))) (aC (b7 .B 11) (aC (b7 .B 2) aN)))))
  (d6 (mIf (d9 (b2 (j9 false) (b2 fIx (b7 .B 13) (mC (.int 0))) (mC (.str "basis")))) (d6 (sV 14 (bA Q6 (aC (F2 (aC (b7 .U 10) (aC (b2 fIx (b7 .B 8) (mC (.int 1))) aN))) (aC (b7 .B 11) (aC (b7 .B 2) aN)))))
   (d6 (mIf (d9 (b2 (j9 true) (b2 (j9 false) (b2 fIx (b7 .B 12) (mC (.int 0))) (mC (.str "row"))) (bA M7 (aC (b7 .B 7) (aC (b2 fIx (b7 .B 13) (mC (.int 1))) aN))))) (h7 (mC (.bl false))) sNx)
   (d6 (mIf (d9 (b2 (j9 true) (b2 (j9 false) (b2 fIx (b7 .B 14) (mC (.int 0))) (mC (.str "row"))) (bA M7 (aC (b7 .B 10) (aC (b2 fIx (b7 .B 13) (mC (.int 1))) aN))))) (h7 (mC (.bl false))) sNx)
   (mIf (al (R6 (d9 (b2 (j9 true) (b2 fIx (b7 .B 12) (mC (.int 0))) (mC (.str "row")))) (d9 (b2 (fEq true) (b7 .B 12) (F2 (aC (mC (.str "wall")) (aC (b2 fIx (b7 .B 13) (mC (.int 1))) aN)))))) (R6 (d9 (b2 (j9 true) (b2 fIx (b7 .B 14) (mC (.int 0))) (mC (.str "row")))) (d9 (b2 (fEq true) (b7 .B 14) (F2 (aC (mC (.str "wall")) (aC (b2 fIx (b7 .B 13) (mC (.int 1))) aN))))))) (h7 (mC (.bl false))) sNx)))) (mIf (R6 (d9 (b2 (j9 true) (b2 fIx (b7 .B 12) (mC (.int 0))) (mC (.str "row")))) (d9 (b2 (fEq true) (b7 .B 12) (b7 .B 13)))) (h7 (mC (.bl false))) sNx))
  (h7 (nt (bA S8 (aC (b7 .B 8) (aC (b7 .B 10) (aC (b7 .B 2) aN)))) (bA M6 (aC (b7 .B 8) (aC (b7 .B 10) (aC (b7 .B 2) aN)))))))))))))))))))))))
abbrev iO:List W->R W:=g8 1 15 vN
end K97
set_option maxHeartbeats 4000000
open PySem L2 TP
namespace K97
--RPX: rpio, qI, qH, qG
def rp14:=Z1 (@BR) (Z1 (@BQ) (Z1 (@BP) (Z1 (@BO) (Z1 (@BA) (Z1 (@BL) (Z1 (@BI) (Z1 (@BJ) (Z1 (@BE) (Z1 (@BF) (Z1 (@BM) (Z1 (@BN) (Z1 (@BC) (@BD)))))))))))))
def rp15:=Z1 (@Bool.not_true) (Z1 (@Bool.not_false) (Z1 (@Bool.true_or) (Z1 (@qN4) (Z1 (@Bool.false_or) (Z1 (@Bool.or_false) (Z1 (@Bool.true_and) (Z1 (@Bool.and_true) (Z1 (@Bool.false_and) (Z1 (@Bool.and_false) (Z1 (@Int.sub_zero) (Z1 (@Int.zero_add) (Z1 (@qJ2) (Z1 (@qD5) (Z1 (@Bool.true_eq_false) (Z1 (@and_true) (Z1 (@true_and) (Z1 (@or_true) (Z1 (@true_or) (@and_self)))))))))))))))))))
def rp18:=Z1 (@qC2.{0}) (Z1 (@qM9.{0}) (Z1 (@qA5.{0,0}) (Z1 (@qC5.{0}) (Z1 (@qF5.{0}) (@qF1)))))
def rp16:=Z1 rp14 (Z1 rp15 (Z1 rp13 (Z1 rp12 (Z1 rp11 (Z1 rp10 (Z1 rp9 (Z1 rp8 (Z1 rp0 (Z1 rp1 (Z1 rp2 (Z1 rp3 (Z1 rp4 (Z1 rp5 (Z1 rp6 rp7))))))))))))))
def rp17:=Z1 (@qC0.{0,0}) (Z1 (@qI9.{0,0}) (Z1 (@List.replicate_succ.{0}) (Z1 (@List.replicate_zero.{0}) (Z1 (@List.cons_append.{0}) (Z1 (@qN1.{0}) (Z1 (@qG1.{0}) (Z1 (@R.ok_bind) (Z1 (@R.stuck_bind) (@R.ex_bind)))))))))
def rp19:=Z1 (@beq_self_eq_true.{0}) (Z1 (@Option.isNone_none.{0}) (Z1 (@Option.isNone_some.{0}) (Z1 (@Option.bind_some.{0,0}) (Z1 (@if_true.{1}) (Z1 (@if_false.{1}) (Z1 (@decide_true) (@decide_false)))))))
def Ey (m:Rho->R Fl) (ρ:Rho):nb m ρ=nbR (m ρ):=rfl
def Bj (ρ:Rho):nbR (.ok (.nx ρ))=.ok (.nx ρ):=rfl
def wC (ρ:Rho):nM ρ=.ok (.bk ρ):=rfl
def As (q:Addr) (ws:List W):rdS .B (some (.iop q ws))=.ok (.lst ws):=rfl
def Ar (q:Addr) (ws:List W):rdS .U (some (.iop q ws))=.ok (.lst ws):=rfl
def ioS (o:Option Sl) (f:W->List W->List W->R (List W)) (r1:R W) (rr:R (List W)) (i:Nat) (ρ:Rho):R Fl:=match o with
 | some (.own cs)=>r1>>=fun w1=>rr>>=fun wr=>f w1 cs wr>>=fun Gy=>.ok (.nx (ρ.set i (.own Gy)))
 | _=>.stuck
def Bq (i:Nat) (f:W->List W->List W->R (List W)) (m1:Rho->R W) (mr:Rho->R (List W)) (ρ:Rho):mIO i f m1 mr ρ=ioS (ρ[i]?) f (m1 ρ) (mr ρ) i ρ:=rfl
def Cb (cs:List W) (f:W->List W->List W->R (List W)) (w1:W) (wr:List W) (i:Nat) (ρ:Rho):ioS (some (.own cs)) f (.ok w1) (.ok wr) i ρ=(f w1 cs wr>>=fun Gy=>.ok (.nx (ρ.set i (.own Gy)))):=rfl
def Eo {r:R Fl} {P:Rho->Prop} {Q:W->Prop} (h:Po r P fun _=>False):Po (nbR r) P Q:=by
 cases r with
 | ok f=>
  cases f with
  | nx ρ=>exact h
  | rt w=>exact h.elim
  | bk ρ=>exact h
  | ct ρ=>exact h
 | ex e=>exact h
 | stuck=>exact h
def uv {p:Addr} {i:Nat} {m:Rho->R W} {ws:List W} {w:W} {ρ:Rho} (h1:ρ[i]?=some (.iop p ws)) (hm:m ρ=.ok w) (hl:ws.length<1000):dc p i m ρ=.ok (.nx (appI i p (ws ++ [w]) ρ)):=by
 unfold dc
 rw [h1]
 dsimp only
 rw [hm,R.ok_bind,qA1 ⟨rfl,hl⟩]
def rpio:=Z1 (@Ey) (Z1 (@Bj) (Z1 (@wC) (Z1 (@As) (Z1 (@Ar) (Z1 (@Bq) (@Cb))))))
def rpZ:=Z1 rp19 (Z1 rp16 (Z1 rp17 (Z1 rp18 (Z1 rpio (Z1 @qI (Z1 @qH (Z1 @qG (@decide_eq_true_eq))))))))
def rpB:=Z1 (@zU) (Z1 (@zT) (Z1 (@zS) (Z1 (@zR) (@zQ))))
local macro_rules | `(tactic| exists $[$es],*)=>`(tactic| simp (disch:=first | with_reducible assumption | omega | (simp only [rp18]; omega)) only [List.getElem?_cons_zero,List.getElem?_cons_succ,List.set_cons_succ,List.set_cons_zero,tyW,isN,simprocAttr,rpZ,$[$es:term],*])
def memD {ns:List Int} {P:Int->Prop} (h:∀ x∈ns,P x) {i:Nat} (hi:i<ns.length):P (ns.getD i 0):=mem_getD h hi
def h9 (a b:List Int):Bool:=(List.range a.length).all fun k=>decide (b.getD k 0<=a.getD k 0)
def vU {a b:List Int} {i:Nat} (hi:i<a.length) (h:a.getD i 0<b.getD i 0):h9 a b=false:=by
 unfold h9
 rw [List.all_eq_false]
 exact ⟨i,by simpa using hi,fun h'=>by have:=of_decide_eq_true h'; omega⟩
def oz {a b:List Int} (h:∀ k,k<a.length->b.getD k 0<=a.getD k 0):h9 a b=true:=by
 unfold h9
 rw [qF6]
 exact fun k hk=>decide_eq_true (h k (by simpa using hk))
def ix {a b:List Int} (hl:b.length=a.length):Y3 [tI a,tI b]=.ok (.bl (h9 a b)):=by
 have fin:Ok (Y3 [tI a,tI b]) fun v=>v=.bl (h9 a b):=by
  have hz:=W6 (tI a) (tI b) _ _ rfl rfl
  rw [cI hl] at hz
  exists rpB,kq,hz
  refine o5 (v8 (fun i ρ=>∃ u v,ρ = [.par (tI a),.par (tI b),u,v]/\∀ k,k<i->b.getD k 0<=a.getD k 0) ⟨_,_,rfl,fun k hk=>absurd hk (qE7 _)⟩ ?_ ?_)
  ·rintro i u ρ hu ⟨_,_,rfl,Gh⟩
   obtain ⟨hi,rfl⟩:=jB hu
   refine ⟨_,rfl,?_⟩
   exists rp18
   refine V0 (fun h=>?_) (fun h=>?_)
   ·exists rp18
    rw [vU hi (by simpa using h)]
   ·exists rp18
    refine ⟨_,_,rfl,fun k hk=>?_⟩
    by_cases e:k=i
    ·subst e; simpa using h
    ·exact Gh k (by omega)
  ·rintro ρ ⟨_,_,rfl,Gh⟩
   rw [qA5,qF1] at Gh
   exists rp18
   rw [oz Gh]
 obtain ⟨v,e,rfl⟩:=fin
 exact e
def f8 (s:List Int) (ss:List (List Int)):Bool:=ss.any (h9 s)
def ur {ss:List (List Int)} {i:Nat} (h:i<ss.length):ss.getD i []∈ss:=by
 rw [qA0]; simp [h]
def mI {ss:List (List Int)} {i:Nat} {w:W} (h:(ss.map tI)[i]?=some w):i<ss.length/\w=tI (ss.getD i []):=by
 rw [qB5] at h
 cases q:ss[i]? with
 | none=>rw [q] at h; cases h
 | some k=>
  rw [q] at h
  cases h
  exact ⟨(qA7.mp q).1,by rw [qA0,q]; rfl⟩
def EC {s:List Int} {ss:List (List Int)} {i:Nat} (hi:i<ss.length) (h:h9 s (ss.getD i [])=true):f8 s ss=true:=by
 unfold f8
 rw [qC8]
 exact ⟨_,ur hi,h⟩
def ED {s:List Int} {ss:List (List Int)} (h:∀ k,k<ss.length->h9 s (ss.getD k [])=false):f8 s ss=false:=by
 unfold f8
 rw [qK7]
 intro x hx
 obtain ⟨i,hi,e⟩:=qG3.mp hx
 have:=h i hi
 rw [qA0] at this
 simp [hi,e] at this
 simp [this]
def ae {s:List Int} {ss:List (List Int)} (hl:∀ x∈ss,x.length=s.length):N4 [tI s,.lst (ss.map tI)]=.ok (.bl (f8 s ss)):=by
 have fin:Ok (N4 [tI s,.lst (ss.map tI)]) fun v=>v=.bl (f8 s ss):=by
  exists rpB,kh
  refine o5 (v8 (fun i ρ=>∃ u,ρ = [.par (tI s),.par (.lst (ss.map tI)),u]/\∀ k,k<i->h9 s (ss.getD k [])=false) ⟨_,rfl,fun k hk=>absurd hk (qE7 _)⟩ ?_ ?_)
  ·rintro i u ρ hu ⟨_,rfl,Gh⟩
   obtain ⟨hi,rfl⟩:=mI hu
   have hc:=ix (a:=s) (b:=ss.getD i []) (hl _ (ur hi))
   refine ⟨_,rfl,?_⟩
   exists hc
   refine V0 (fun h=>?_) (fun h=>?_)
   ·exists rp18
    rw [EC hi h]
   ·exists rp18
    refine ⟨_,rfl,fun k hk=>?_⟩
    by_cases e:k=i
    ·subst e; exact h
    ·exact Gh k (by omega)
  ·rintro ρ ⟨_,rfl,Gh⟩
   rw [qA5] at Gh
   exists rp18
   rw [ED Gh]
 obtain ⟨v,e,rfl⟩:=fin
 exact e
def srcL (g t p:List Int):List Int:=(List.range g.length).map fun k=>max (t.getD k 0) (g.getD k 0-p.getD k 0+t.getD k 0)
def sL (g t p:List Int):(srcL g t p).length=g.length:=by simp [srcL]
def fY {g t p:List Int} {k:Nat} (h:k<g.length):(srcL g t p).getD k 0=max (t.getD k 0) (g.getD k 0-p.getD k 0+t.getD k 0):=M9 h
def pC {g t p:List Int} (ht:t.length=g.length) (hp:p.length=g.length) (hg:g.length<=6):eN [tI g,.tup [tI t,tI p]]=.ok (tI (srcL g t p)):=by
 have a0:L2.atI [tI t,tI p] 0=some (tI t):=rfl
 have a1:L2.atI [tI t,tI p] 1=some (tI p):=rfl
 have hz:=yY (tI g) (tI t) (tI p) _ _ _ rfl rfl rfl
 rw [wd ht hp] at hz
 exists rpB,jZ,a0,a1,hz
 have e:∀ N mg me ρ (h:∀ k,k<g.length->∃ ρ1,mg (.tup [.int (g.getD k 0),.int (t.getD k 0),.int (p.getD k 0)]) (ρ++List.replicate (N-ρ.length) Sl.un)=some ρ1/\me ρ1=.ok (.int (max (t.getD k 0) (g.getD k 0-p.getD k 0+t.getD k 0)))),m9 N mg yes me ((List.range g.length).map fun k=>.tup [.int (g.getD k 0),.int (t.getD k 0),.int (p.getD k 0)]) ρ=.ok (lI (srcL g t p)):=fun N mg me ρ h=>by
  rw [u8 (fun k=>.int (max (t.getD k 0) (g.getD k 0-p.getD k 0+t.getD k 0))) _ _ ρ (by simpa using (by omega:g.length<=1000)) (fun k hk=>h k (by simpa using hk)),oi]
  rfl
 rw [e]
 ·exists rp18
 ·intro k hk
  refine ⟨_,rfl,?_⟩
  exists rp18
abbrev Mv:=List Int×List Int
abbrev mW (m:Mv):W:=.tup [tI m.1,tI m.2]
abbrev lS (ss:List (List Int)):W:=.lst (ss.map tI)
abbrev tM_ (ms:List Mv):W:=.tup (ms.map mW)
def qE (m:Mv):noL (mW m)=true:=by simp [noL,m5,O5]
def X5 (ms:List Mv):m5 (ms.map mW)=true:=X4 mW qE ms
def xz {ms:List Mv} {i:Nat} {w:W} (h:(ms.map mW)[i]?=some w):∃ m,m∈ms/\ms[i]?=some m/\w=mW m:=by
 rw [qB5] at h
 cases q:ms[i]? with
 | none=>rw [q] at h; cases h
 | some m=>rw [q] at h; cases h; exact ⟨m,qG2 q,rfl,rfl⟩
def okM (n:Nat) (m:Mv):Prop:=m.1.length=n/\m.2.length=n
def z8 (ms:List Mv) (ss:List (List Int)):List (List Int):=ms.flatMap fun m=>ss.map fun s=>srcL s m.1 m.2
def aQ {ms:List Mv} {ss:List (List Int)}:(z8 ms ss).length=ms.length*ss.length:=by
 unfold z8
 induction ms with
 | nil=>simp
 | cons m ms ih=>rw [List.flatMap_cons,qC5,ih,qA5,qC2,Nat.succ_mul,Nat.add_comm]
def dY {n:Nat} {ms:List Mv} {ss:List (List Int)} (hs:∀ x∈ss,x.length=n):∀ x∈z8 ms ss,x.length=n:=fun x hx=>by
 unfold z8 at hx
 obtain ⟨m,_,hx⟩:=List.mem_flatMap.mp hx
 obtain ⟨s,Ky,rfl⟩:=qB4.mp hx
 rw [sL]; exact hs s Ky
def eX {n:Nat} {ms:List Mv} {ss:List (List Int)} (h6:n<=6) (hm:∀ m∈ms,okM n m) (hs:∀ x∈ss,x.length=n) (GO:ms.length<=8) (HL:ss.length<=100):U5 [tM_ ms,lS ss]=.ok (lS (z8 ms ss)):=by
 have fin:Ok (U5 [tM_ ms,lS ss]) fun v=>v=lS (z8 ms ss):=by
  exists rpB,io
  refine o5 (v8 (fun i ρ=>∃ (u:Sl),ρ = [.par (tM_ ms),.par (lS ss),.own ((z8 (ms.take i) ss).map tI),u]/\i<=ms.length) ⟨_,rfl,qC3 _⟩ ?_ ?_)
  ·rintro i w ρ hw ⟨u,rfl,hi⟩
   obtain ⟨m,HN,hmi,rfl⟩:=xz hw
   have GC:i<ms.length:=(qA7.mp hmi).1
   refine ⟨_,rfl,?_⟩
   have e:∀ N mg me ρ (h:∀ s∈ss,∃ ρ1,mg (tI s) (ρ++List.replicate (N-ρ.length) Sl.un)=some ρ1/\me ρ1=.ok (tI (srcL s m.1 m.2))),m9 N mg yes me (ss.map tI) ρ=.ok (lS (ss.map fun s=>srcL s m.1 m.2)):=fun N mg me ρ h=>by
    rw [u8 (fun s=>tI (srcL s m.1 m.2)) _ _ ρ (by omega) h]; exact congrArg (fun l=>R.ok (W.lst l)) (by rw [qD0]; rfl)
   exists rp18
   rw [e]
   ·have hl:(z8 (ms.take i) ss).length+ss.length<=1000:=by
     rw [aQ,qI3,qN0 (by omega)]
     have:=Nat.mul_le_mul (show i<=8 by omega) HL
     omega
    exists rp18
    refine ⟨.par (mW m),?_,GC⟩
    have:z8 (ms.take (i+1)) ss=z8 (ms.take i) ss++ss.map fun s=>srcL s m.1 m.2:=by
     unfold z8
     rw [List.take_succ,hmi]
     simp
    rw [this]
   ·intro s GJ
    have hk:=pC (g:=s) (t:=m.1) (p:=m.2) (by rw [hs s GJ,(hm m HN).1]) (by rw [hs s GJ,(hm m HN).2]) (by rw [hs s GJ]; exact h6)
    refine ⟨_,rfl,?_⟩
    exists hk
  ·rintro ρ ⟨u,rfl,hi⟩
   rw [qA5,qM3]
   exists rp18
 obtain ⟨v,e,rfl⟩:=fin
 exact e
def cov_iff {a b:List Int}:h9 a b=true↔∀ k,k<a.length->b.getD k 0<=a.getD k 0:=by
 unfold h9
 rw [qF6]
 exact ⟨fun h k hk=>of_decide_eq_true (h k (by simpa using hk)),fun h k hk=>decide_eq_true (h k (by simpa using hk))⟩
def bst (acc:List (List Int)) (s:List Int):List (List Int):=if f8 s acc then acc else acc ++ [s]
def X6 (ss:List (List Int)):List (List Int):=(F3 ss).foldl bst []
def fP:∀ (l acc:List (List Int)),(acc.Pairwise fun a b=>h9 b a=false) ->
  (∃ t,t.Sublist l/\l.foldl bst acc=acc++t)/\((l.foldl bst acc).Pairwise fun a b=>h9 b a=false)/\∀ z∈l,∃ s∈l.foldl bst acc,h9 z s=true
 | [],acc,h2=>⟨⟨[],.slnil,by simp⟩,h2,fun _ h=>nomatch h⟩
 | z::l,acc,h2=>by
  rw [List.foldl_cons]
  cases c:f8 z acc with
  | true=>
   have e:bst acc z=acc:=by unfold bst; rw [qA1 c]
   rw [e]
   obtain ⟨⟨t,ht,et⟩,i3,i4⟩:=fP l acc h2
   refine ⟨⟨t,ht.cons z,et⟩,i3,fun y hy=>?_⟩
   rcases qB3.mp hy with rfl | hy
   ·unfold f8 at c
    obtain ⟨s,hs,hw⟩:=qC8.mp c
    exact ⟨s,by rw [et]; exact qF3 _ hs,hw⟩
   ·exact i4 y hy
  | false=>
   have e:bst acc z=acc ++ [z]:=by unfold bst; rw [qA3 (by rw [c]; exact qA4)]
   rw [e]
   have IX:∀ s∈acc,h9 z s=false:=fun s hs=>by
    unfold f8 at c
    rw [qK7] at c
    simpa using c s hs
   obtain ⟨⟨t,ht,et⟩,i3,i4⟩:=fP l (acc ++ [z]) (by
    rw [qE5]
    refine ⟨h2,qJ5 _ _,fun a ha b hb=>?_⟩
    rw [qD8.mp hb]; exact IX a ha)
   refine ⟨⟨z::t,ht.cons₂ z,by rw [et]; simp⟩,i3,fun y hy=>?_⟩
   rcases qB3.mp hy with rfl | hy
   ·refine ⟨y,?_,oz fun k hk=>qF9 _⟩
    rw [et]; simp
   ·exact i4 y hy
structure Bas (n:Nat) (B:List (List Int)):Prop where
 len:∀ b∈B,b.length=n
 up:B.Pairwise fun a b=>TP.lexLt b a=false
 a1:B.Pairwise fun a b=>h9 b a=false
def mH {n:Nat} {ss:List (List Int)} (h:∀ s∈ss,s.length=n):Bas n (X6 ss)/\(∀ b∈X6 ss,b∈ss)/\(∀ s∈ss,∃ b∈X6 ss,h9 s b=true)/\(X6 ss).length<=ss.length:=by
 have hp:=bM ss
 obtain ⟨⟨t,ht,et⟩,i3,i4⟩:=fP (F3 ss) [] .nil
 rw [qN1] at et
 have hs:(X6 ss).Sublist (F3 ss):=by unfold X6; rw [et]; exact ht
 refine ⟨⟨fun b hb=>h b (hp.mem_iff.mp (hs.subset hb)),(lZ ss).sublist hs,i3⟩,fun b hb=>hp.mem_iff.mp (hs.subset hb),fun s q=>i4 s (hp.mem_iff.mpr q),?_⟩
 have:=hs.length_le
 rw [hp.length_eq] at this
 exact this
def yb {ss:List (List Int)} (h:ss.length<=1000) (Gr:∀ z∈ss,z ≠ []):fSortA [lS ss]=.ok (lS (F3 ss)):=by
 have Gh:ss.all (fun x=>!x.isEmpty)=true:=by
  rw [qF6]
  intro x hx
  have:=Gr x hx
  cases x with
  | nil=>exact absurd rfl this
  | cons _ _=>rfl
 show (match O7 (ss.map fun x=>W.tup (x.map W.int)) with | some ss=>_ | none=>_)=_
 rw [dW]
 show (if _ then _ else _)=_
 rw [qA1 ⟨h,Gh⟩]
def sw {l:List (List Int)} {i:Nat} (hi:i<l.length):(l.take (i+1)).foldl bst []=bst ((l.take i).foldl bst []) (l.getD i []):=by
 rw [List.take_succ,List.foldl_append,qA0]
 simp [qB2 hi]
def fold_subB {l:List (List Int)}:(l.foldl bst []).Sublist l:=by
 obtain ⟨⟨t,ht,et⟩,_⟩:=fP l [] .nil
 rw [qN1] at et
 rw [et]; exact ht
def uC {n:Nat} {ss:List (List Int)} (h1:1<=n) (h:∀ s∈ss,s.length=n) (GT:ss.length<=900):di [lS ss]=.ok (lS (X6 ss)):=by
 have fin:Ok (di [lS ss]) fun v=>v=lS (X6 ss):=by
  have k0:=yb (ss:=ss) (by omega) fun z hz e=>by have:=h z hz; rw [e] at this; simp at this; omega
  have hp:=bM ss
  have hlen:=hp.length_eq
  have Lx:∀ s∈F3 ss,s.length=n:=fun s hs=>h s (hp.mem_iff.mp hs)
  exists rpB,mM,k0
  unfold X6
  generalize F3 ss=S at hlen Lx
  refine o5 (v8 (fun i ρ=>∃ a:Sl,ρ = [.par (lS ss),.own (((S.take i).foldl bst []).map tI),a]) ⟨_,rfl⟩ ?_ ?_)
  ·rintro i u ρ hu ⟨a,rfl⟩
   obtain ⟨hi,rfl⟩:=mI hu
   have GI:=ur hi
   have KK:=sw hi
   have IU:((S.take i).foldl bst []).Sublist S:=fold_subB.trans (List.take_sublist _ _)
   generalize (S.take i).foldl bst []=F at KK IU
   generalize S.getD i []=z at GI KK
   have hFl:F.length<=900:=by have:=IU.length_le; omega
   have k1:=ae (s:=z) (ss:=F) fun x hx=>by rw [Lx x (IU.subset hx),Lx z GI]
   refine ⟨_,rfl,?_⟩
   exists k1
   refine V0 (fun h=>?_) (fun h=>?_)
   ·exists j8 (C6 z)
    refine ⟨.par (tI z),?_⟩
    rw [KK]
    unfold bst
    rw [qA3 (by simpa using h),qD1]
   ·exists rp18
    refine ⟨.par (tI z),?_⟩
    rw [KK]
    unfold bst
    rw [qA1 (by simpa using h)]
  ·rintro ρ ⟨a,rfl⟩
   rw [qA5,qM3]
   exists rp18
 obtain ⟨v,e,rfl⟩:=fin
 exact e
def t8 (s:List Int) (m:Mv):List Int:=(List.range s.length).map fun k=>s.getD k 0-m.1.getD k 0+m.2.getD k 0
def F8 (s:List Int) (m:Mv):(t8 s m).length=s.length:=by simp [t8]
def B0 (ss:List (List Int)) (s:List Int) (m:Mv):Bool:=h9 s m.1&&f8 (t8 s m) ss
def oo (ms:List Mv) (ss:List (List Int)) (s:List Int):Bool:=f8 s ss||ms.any (B0 ss s)
def on (s t:List Int):f8 s [t]=h9 s t:=by unfold f8; simp
def iy {a b c:List Int} (h1:a.length=b.length) (x:h9 a b=true) (y:h9 b c=true):h9 a c=true:=cov_iff.mpr fun k hk=>by
 have p:=cov_iff.mp x k hk
 have q:=cov_iff.mp y k (by omega)
 omega
def fX {n:Nat} {s z:List Int} {m:Mv} (hz:z.length=n) (hs:s.length=n):h9 z (srcL s m.1 m.2)=true↔h9 z m.1=true/\h9 (t8 z m) s=true:=by
 constructor
 ·intro h
  have h:=cov_iff.mp h
  refine ⟨cov_iff.mpr fun k hk=>?_,cov_iff.mpr fun k hk=>?_⟩
  ·have:=h k hk
   rw [fY (by omega)] at this
   omega
  ·rw [F8] at hk
   have:=h k hk
   rw [fY (by omega)] at this
   rw [show (t8 z m).getD k 0=_ from M9 hk]
   omega
 ·rintro ⟨h,h'⟩
  have h:=cov_iff.mp h
  have h':=cov_iff.mp h'
  refine cov_iff.mpr fun k hk=>?_
  have p:=h k hk
  have q:=h' k (by rw [F8]; exact hk)
  rw [show (t8 z m).getD k 0=_ from M9 hk] at q
  rw [fY (by omega)]
  omega
section
variable {n:Nat} {ms:List Mv} {ss:List (List Int)} (hs:∀ x∈ss,x.length=n)
include hs
def iS:∀ x∈ss++z8 ms ss,x.length=n:=fun x hx=>by
 rcases qD9.mp hx with q | q
 ·exact hs x q
 ·exact dY hs x q
def uD {z:List Int} (hz:z.length=n):oo ms ss z=true↔∃ d∈ss++z8 ms ss,h9 z d=true:=by
 unfold oo
 rw [Bool.or_eq_true]
 constructor
 ·rintro (h | h)
  ·unfold f8 at h
   obtain ⟨s,h1,h2⟩:=qC8.mp h
   exact ⟨s,qF3 _ h1,h2⟩
  ·obtain ⟨m,h1,h2⟩:=qC8.mp h
   unfold B0 at h2
   rw [qG8] at h2
   unfold f8 at h2
   obtain ⟨s,h3,h4⟩:=qC8.mp h2.2
   refine ⟨srcL s m.1 m.2,qC4 _ ?_,(fX hz (hs s h3)).mpr ⟨h2.1,h4⟩⟩
   unfold z8
   exact List.mem_flatMap.mpr ⟨m,h1,qB4.mpr ⟨s,h3,rfl⟩⟩
 ·rintro ⟨d,hd,hc⟩
  rcases qD9.mp hd with q | q
  ·exact .inl (qC8.mpr ⟨d,q,hc⟩)
  ·unfold z8 at q
   obtain ⟨m,h1,q⟩:=List.mem_flatMap.mp q
   obtain ⟨s,h3,rfl⟩:=qB4.mp q
   have:=(fX hz (hs s h3)).mp hc
   refine .inr (qC8.mpr ⟨m,h1,?_⟩)
   unfold B0
   rw [this.1,Bool.true_and]
   exact qC8.mpr ⟨s,h3,this.2⟩
end
def lY {n:Nat} {ms:List Mv} {ss:List (List Int)} (h1:1<=n) (h6:n<=6) (hm:∀ m∈ms,okM n m) (hs:∀ x∈ss,x.length=n) (GO:ms.length<=8) (HL:ss.length<=100) (GT:ss.length+ms.length*ss.length<=900):J0 [tM_ ms,lS ss]=.ok (lS (X6 (ss++z8 ms ss))):=by
 have k1:=eX h6 hm hs GO HL
 have k2:=uC (ss:=ss++z8 ms ss) h1 (iS hs) (by rw [qC5,aQ]; exact GT)
 have k3:ow true (.lst (ss.map tI)) (lS (z8 ms ss))=.ok (lS (ss++z8 ms ss)):=by
  rw [rd (by simp [aQ]; omega),<- qD1]; rfl
 exists rpB,dL,k1,k3,k2
def R9 (ms:List Mv) (ss:List (List Int)):Bool:=(z8 ms ss).all fun s=>f8 s ss
def wu {n:Nat} {ms:List Mv} {ss:List (List Int)} (h6:n<=6) (hm:∀ m∈ms,okM n m) (hs:∀ x∈ss,x.length=n) (GO:ms.length<=8) (HL:ss.length<=100):cw [tM_ ms,lS ss]=.ok (.bl (R9 ms ss)):=by
 have k1:=eX h6 hm hs GO HL
 have e:∀ N mg me ρ (h:∀ s∈z8 ms ss,∃ ρ1,mg (tI s) (ρ++List.replicate (N-ρ.length) Sl.un)=some ρ1/\me ρ1=.ok (.bl (f8 s ss))),m9 N mg yes me ((z8 ms ss).map tI) ρ=.ok (.lst (((z8 ms ss).map fun s=>f8 s ss).map W.bl)):=fun N mg me ρ h=>by
  rw [u8 (fun s=>W.bl (f8 s ss)) _ _ ρ (by rw [aQ]; have:=Nat.mul_le_mul GO HL; omega) h,qD0]; rfl
 exists rpB,ip,k1
 rw [e]
 ·exists rp18
  unfold uR R9
  rw [List.all_map]; rfl
 ·intro s GJ
  have hk:=ae (s:=s) (ss:=ss) (fun x hx=>by rw [hs x hx,dY hs s GJ])
  refine ⟨_,rfl,?_⟩
  exists hk
def Bk (ms:List Mv) (t:List Int):Nat->List (List Int)
 | 0=>[t]
 | k+1=>X6 (Bk ms t k++z8 ms (Bk ms t k))
def Q0 {n:Nat} {ms:List Mv} {t:List Int} (ht:t.length=n):∀ k,Bas n (Bk ms t k)
 | 0=>⟨fun b hb=>by rw [qD8.mp hb]; exact ht,qJ5 _ _,qJ5 _ _⟩
 | k+1=>(mH (iS (ms:=ms) (Q0 ht k).len)).1
section
variable {n:Nat} {ms:List Mv} {t:List Int} (ht:t.length=n)
include ht
def aZ (k:Nat) {s:List Int} (hs:s.length=n):f8 s (Bk ms t (k+1))=(f8 s (Bk ms t k)||ms.any (B0 (Bk ms t k) s)):=by
 have hB:=Q0 (ms:=ms) ht k
 have hm:=mH (iS (ms:=ms) hB.len)
 have e:f8 s (Bk ms t (k+1))=true↔oo ms (Bk ms t k) s=true:=by
  rw [uD hB.len hs]
  unfold f8
  rw [qC8]
  constructor
  ·rintro ⟨b,hb,hc⟩
   exact ⟨b,hm.2.1 b hb,hc⟩
  ·rintro ⟨d,hd,hc⟩
   obtain ⟨b,hb,IJ⟩:=hm.2.2.1 d hd
   exact ⟨b,hb,iy (by rw [hs,iS (ms:=ms) hB.len d hd]) hc IJ⟩
 exact qL4.mpr e
def kF (k:Nat) {s:List Int} (hs:s.length=n) (h:f8 s (Bk ms t k)=true):f8 s (Bk ms t (k+1))=true:=by
 rw [aZ ht k hs,h]; rfl
def mQ:∀ (k:Nat) {s:List Int},s.length=n->h9 s t=true->f8 s (Bk ms t k)=true
 | 0,s,_,h=>by show f8 s [t]=true; rw [on]; exact h
 | k+1,s,hs,h=>kF ht k hs (mQ k hs h)
end
def nk {s:List Int} {m:Mv} (h:m.1.length=s.length):fK [tI s,mW m]=.ok (.bl (h9 s m.1)):=by
 have a0:L2.atI [tI m.1,tI m.2] 0=some (tI m.1):=rfl
 have k:=ix (a:=s) (b:=m.1) h
 exists rpB,qL,a0,k
def oB {n:Nat} {m:Mv} (h6:n<=6) (h:okM n m):Y4 [mW m]=.ok (tI ((List.range n).map fun k=>m.2.getD k 0-m.1.getD k 0)):=by
 have a0:L2.atI [tI m.1,tI m.2] 0=some (tI m.1):=rfl
 have a1:L2.atI [tI m.1,tI m.2] 1=some (tI m.2):=rfl
 have hz:=W6 (tI m.1) (tI m.2) _ _ rfl rfl
 rw [cI (by rw [h.1,h.2]),h.1] at hz
 exists rpB,eH,a0,a1,hz
 have e:∀ N mg me ρ (h:∀ k,k<n->∃ ρ1,mg (.tup [.int (m.1.getD k 0),.int (m.2.getD k 0)]) (ρ++List.replicate (N-ρ.length) Sl.un)=some ρ1/\me ρ1=.ok (.int (m.2.getD k 0-m.1.getD k 0))),m9 N mg yes me ((List.range n).map fun k=>W.tup [.int (m.1.getD k 0),.int (m.2.getD k 0)]) ρ=.ok (lI ((List.range n).map fun k=>m.2.getD k 0-m.1.getD k 0)):=fun N mg me ρ h=>by
  rw [u8 (fun k=>.int (m.2.getD k 0-m.1.getD k 0)) _ _ ρ (by simpa using (by omega:n<=1000)) (fun k hk=>h k (by simpa using hk)),oi]
 rw [e]
 ·exists rp18
 ·intro k hk
  refine ⟨_,rfl,?_⟩
  exists rp18
def DK (s:List Int):(List.range s.length).map (fun k=>s.getD k 0)=s:=by
 apply qJ6
 ·simp
 ·intro i h1 h2; simp [h2]
def rT {n:Nat} {s:List Int} {m:Mv} (h6:n<=6) (h:okM n m) (hs:s.length=n) (hc:h9 s m.1=true):aH [tI s,mW m]=.ok (tI ((List.range n).map fun k=>s.getD k 0+(m.2.getD k 0-m.1.getD k 0))):=by
 have k1:=nk (s:=s) (m:=m) (by rw [hs,h.1])
 rw [hc] at k1
 have k2:=oB h6 h
 have hz:=W6 (tI s) (tI ((List.range n).map fun k=>m.2.getD k 0-m.1.getD k 0)) _ _ rfl rfl
 rw [cI (by simp [hs]),hs] at hz
 exists rpB,mO,k1,k2,hz
 have e:∀ N mg me ρ (h:∀ k,k<n->∃ ρ1,mg (.tup [.int (s.getD k 0),.int (((List.range n).map fun k=>m.2.getD k 0-m.1.getD k 0).getD k 0)]) (ρ++List.replicate (N-ρ.length) Sl.un)=some ρ1/\me ρ1=.ok (.int (s.getD k 0+(m.2.getD k 0-m.1.getD k 0)))),m9 N mg yes me ((List.range n).map fun k=>W.tup [.int (s.getD k 0),.int (((List.range n).map fun k=>m.2.getD k 0-m.1.getD k 0).getD k 0)]) ρ=.ok (lI ((List.range n).map fun k=>s.getD k 0+(m.2.getD k 0-m.1.getD k 0))):=fun N mg me ρ h=>by
  rw [u8 (fun k=>.int (s.getD k 0+(m.2.getD k 0-m.1.getD k 0))) _ _ ρ (by simpa using (by omega:n<=1000)) (fun k hk=>h k (by simpa using hk)),oi]
 rw [e]
 ·exists rp18
 ·intro k hk
  refine ⟨_,rfl,?_⟩
  exists rp18
  rw [M9 hk]
def mj {n N:Nat} {m:Rho->R Fl} {ws:List W} (h:ws.length=n):N1 n N m ws=Q7 (m (ws.map Sl.val++List.replicate (N-n) Sl.un)):=by unfold N1; rw [qA1 h]; rfl
def zO {N:Nat} {m:Rho->R Fl} (a b:W):N1 2 N m [a,b]=Q7 (m (Sl.val a::Sl.val b::List.replicate (N-2) Sl.un)):=mj rfl
def zN {N:Nat} {m:Rho->R Fl} (a b c d:W):N1 4 N m [a,b,c,d]=Q7 (m (Sl.val a::Sl.val b::Sl.val c::Sl.val d::List.replicate (N-4) Sl.un)):=mj rfl
def rgW (ms:List Mv) (t:List Int) (j:Nat):List W:=(List.range (j+1)).map fun i=>lS (Bk ms t i)
def fb (ms:List Mv) (t:List Int) (j:Nat):(rgW ms t j).length=j+1:=by simp [rgW]
def pZ (ms:List Mv) (t:List Int) (j:Nat):rgW ms t (j+1)=rgW ms t j ++ [lS (Bk ms t (j+1))]:=by
 unfold rgW
 rw [List.range_succ,qD1]; rfl
def nN (ms:List Mv) (t:List Int) (j:Nat):L2.atI (rgW ms t j) (-1)=some (lS (Bk ms t j)):=by
 unfold L2.atI
 have:L2.ixN (rgW ms t j).length (-1)=some j:=by
  unfold L2.ixN
  rw [fb]
  simp
  omega
 rw [this]
 show (rgW ms t j)[j]?=_
 unfold rgW
 simp
def k4 (ms:List Mv) (t:List Int) (most:Nat) (word:String) (j:Nat):W:=if decide ((most:Int)<((Bk ms t j).length:Int))=true then .tup [.str "open",.int (j:Int)] else if R9 ms (Bk ms t j)=true then .tup [.str word,lS (Bk ms t j)] else if decide ((j:Int)=(most:Int))=true then .tup [.str "open",.int (j:Int)] else .non
def end_non {ms:List Mv} {t:List Int} {most:Nat} {word:String} {j:Nat}:k4 ms t most word j=.non↔((Bk ms t j).length<=most/\R9 ms (Bk ms t j)=false/\j≠most):=by
 unfold k4
 constructor
 ·intro h
  split at h
  ·cases h
  ·rename_i h1
   split at h
   ·cases h
   ·rename_i h2
    split at h
    ·cases h
    ·rename_i h3
     simp at h1 h2 h3
     exact ⟨by omega,h2,by omega⟩
 ·rintro ⟨h1,h2,h3⟩
  rw [qA3 (by simp; omega),h2,qA3 qA4,qA3 (by simp; omega)]
def cA {n:Nat} {ms:List Mv} {t:List Int} {most j:Nat} {word:String} (h6:n<=6) (hm:∀ m∈ms,okM n m) (GO:ms.length<=8) (ht:t.length=n) (HM:most<=30):N5 [tM_ ms,.lst (rgW ms t j),.int (most:Int),.str word]=.ok (k4 ms t most word j):=by
 have fin:Ok (N5 [tM_ ms,.lst (rgW ms t j),.int (most:Int),.str word]) fun v=>v=k4 ms t most word j:=by
  have a1:=nN ms t j
  have l1:=fb ms t j
  have hB:=Q0 (ms:=ms) ht j
  have hnum:(((j+1:Nat):Int))-1=(j:Int):=by omega
  have ee:fEq false (.int (j:Int)) (.int (most:Int))=.ok (.bl (decide ((j:Int)=(most:Int)))):=rc false _ _
  have n1:m5 ((Bk ms t j).map tI)=true:=ft _
  exists zN,ko,a1,l1,hnum
  refine o5 (bV (fun h=>?_) (fun h=>?_))
  ·exists rp18
   unfold k4
   rw [qA1 h]
  have hle:(Bk ms t j).length<=most:=by have:=of_decide_eq_false h; omega
  have k1:=wu h6 hm hB.len GO (by omega)
  exists k1
  refine bV (fun h2=>?_) (fun h2=>?_)
  ·exists rp18
   unfold k4
   rw [qA3 (by rw [h]; exact qA4),qA1 h2]
  exists ee
  refine bV (fun h3=>?_) (fun h3=>?_)
  ·exists rp18
   unfold k4
   rw [qA3 (by rw [h]; exact qA4),qA3 (by rw [h2]; exact qA4),qA1 h3]
  ·exists rp18
   unfold k4
   rw [qA3 (by rw [h]; exact qA4),qA3 (by rw [h2]; exact qA4),qA3 (by rw [h3]; exact qA4)]
 obtain ⟨v,e,rfl⟩:=fin
 exact e
def ji {a b c x:Sl} {R:List W} {w:W}:dZ 4 [3] w [a,b,c,.own R,x] = [a,b,c,if noL w=true then .own R else .val (.lst R),.val w]:=by
 unfold dZ
 split <;> rfl
def pY {n:Nat} {ms:List Mv} {t:List Int} {most j:Nat} {word:String} (GO:ms.length<=8) (HM:most<=30) (h:k4 ms t most word j=.non):(Bk ms t j).length<=100/\(Bk ms t j).length+ms.length*(Bk ms t j).length<=900:=by
 have h:=(end_non.mp h).1
 have:=Nat.mul_le_mul GO (show (Bk ms t j).length<=30 by omega)
 omega
def CS (ws:List W) (w:W):N7 (ws ++ [w]) none (some (-1))=ws:=by
 unfold N7
 rw [HT.sIx_none]
 have:HT.sIx (ws ++ [w]).length (ws ++ [w]).length (some (-1))=ws.length:=by
  show (if (-1:Int)<0 then ((-1:Int)+(((ws ++ [w]).length:Nat):Int)).toNat else min (-1:Int).toNat (ws ++ [w]).length)=_
  rw [qA1 (by omega),qC5,qF8]
  omega
 rw [this]
 simp
def DH {n:Nat} {s:List Int} {m:Mv} (hs:s.length=n):(List.range n).map (fun k=>s.getD k 0+(m.2.getD k 0-m.1.getD k 0))=t8 s m:=by
 unfold t8
 rw [hs]
 refine qM8 fun k _=>?_
 omega
def rV {n:Nat} {s:List Int} {m:Mv} (h6:n<=6) (h:okM n m) (hs:s.length=n) (hc:h9 s m.1=true):aH [tI s,mW m]=.ok (tI (t8 s m)):=by
 rw [rT h6 h hs hc,DH hs]
def P3 (ms:List Mv) (B:List (List Int)) (s:List Int):List Nat:=(List.range ms.length).filter fun k=>B0 B s (ms.getD k ([],[]))
def yp (ms:List Mv):((ms.map mW).mapIdx fun i x=>W.tup [.int (i:Int),x])=(List.range ms.length).map fun (k:Nat)=>W.tup [.int (k:Int),mW (ms.getD k ([],[]))]:=by
 apply qJ6
 ·simp
 ·intro i h1 h2
  have hi:i<ms.length:=by simpa using h1
  simp [hi]
def xR {n:Nat} {ms:List Mv} {B:List (List Int)} {s:List Int} (h6:n<=6) (hm:∀ m∈ms,okM n m) (GO:ms.length<=8) (hB:∀ x∈B,x.length=n) (hs:s.length=n):Y1 [tI s,tM_ ms,lS B]=.ok (lI ((P3 ms B s).map fun (k:Nat)=>(k:Int))):=by
 have he:gO [tM_ ms]=.ok ((List.range ms.length).map fun (k:Nat)=>W.tup [.int (k:Int),mW (ms.getD k ([],[]))]):=congrArg R.ok (yp ms)
 have e:∀ N mg mc me ρ,(∀ k:Nat,k<ms.length->∃ ρ1,mg (.tup [.int (k:Int),mW (ms.getD k ([],[]))]) (ρ++List.replicate (N-ρ.length) Sl.un)=some ρ1/\mc ρ1=.ok (B0 B s (ms.getD k ([],[])))/\me ρ1=.ok (.int (k:Int))) ->
   m9 N mg mc me ((List.range ms.length).map fun (k:Nat)=>W.tup [.int (k:Int),mW (ms.getD k ([],[]))]) ρ=.ok (lI ((P3 ms B s).map fun (k:Nat)=>(k:Int))):=fun N mg mc me ρ h=>by
  have:=K6 (N':=N) (mg:=mg) (mc:=mc) (me:=me) (fun k:Nat=>W.int (k:Int)) (fun k:Nat=>W.tup [.int (k:Int),mW (ms.getD k ([],[]))]) (fun k=>B0 B s (ms.getD k ([],[]))) (List.range ms.length) ρ (by simp; omega) fun k hk=>by
   obtain ⟨ρ1,e1,e2,e3⟩:=h k (by simpa using hk)
   exact ⟨ρ1,e1,e2,fun _=>e3⟩
  rw [this]
  unfold lI P3
  rw [qD0]; rfl
 exists rpB,cf,he
 rw [e]
 ·exists rp18
 intro k hk
 have HN:ms.getD k ([],[])∈ms:=by rw [qA0]; simp [hk]
 have hok:=hm _ HN
 generalize ms.getD k ([],[])=m at hok
 have k1:=nk (s:=s) (m:=m) (by rw [hs]; exact hok.1)
 refine ⟨_,rfl,?_⟩
 cases q:h9 s m.1 with
 | false=>
  have a0:∀ r:R Bool,TP.rAnd (.ok false) r=.ok false:=fun r=>rfl
  have st:B0 B s m=false:=by unfold B0; rw [q]; rfl
  rw [q] at k1
  exists k1,a0,st
 | true=>
  have k2:=rV h6 hok hs q
  have k3:=ae (s:=t8 s m) (ss:=B) fun x hx=>by rw [hB x hx,F8,hs]
  have st:B0 B s m=f8 (t8 s m) B:=by unfold B0; rw [q]; rfl
  rw [q] at k1
  exists k1,k2,k3,st
def D6 (ms:List Mv) (t:List Int):Nat->List Int->List Int
 | 0,_=>[]
 | k+1,s=>(((P3 ms (Bk ms t k) s).getD 0 0:Nat):Int)::D6 ms t k (t8 s (ms.getD ((P3 ms (Bk ms t k) s).getD 0 0) ([],[])))
def eB (ms:List Mv) (t:List Int):∀ (k:Nat) (s:List Int),(D6 ms t k s).length=k
 | 0,_=>rfl
 | k+1,s=>by
  show (D6 ms t k _).length+1=k+1
  rw [eB ms t k]
def iv {n:Nat} {ms:List Mv} {t s:List Int} {k:Nat} (ht:t.length=n) (hs:s.length=n) (h1:f8 s (Bk ms t (k+1))=true) (h0:f8 s (Bk ms t k)=false):∃ r tl,P3 ms (Bk ms t k) s=r::tl/\r<ms.length/\B0 (Bk ms t k) s (ms.getD r ([],[]))=true:=by
 rw [aZ ht k hs,h0,Bool.false_or] at h1
 obtain ⟨m,hm,hq⟩:=qC8.mp h1
 obtain ⟨i,hi,e⟩:=qG3.mp hm
 have Gx:i∈P3 ms (Bk ms t k) s:=List.mem_filter.mpr ⟨qF2.mpr hi,by
  rw [qA0,qB2 hi]
  show B0 _ s ms[i]=true
  rw [e]; exact hq⟩
 cases q:P3 ms (Bk ms t k) s with
 | nil=>rw [q] at Gx; cases Gx
 | cons r tl=>
  have hr:r∈P3 ms (Bk ms t k) s:=by rw [q]; exact qB6
  obtain ⟨g1,g2⟩:=List.mem_filter.mp hr
  exact ⟨r,tl,rfl,qF2.mp g1,g2⟩
def Ab {f:Nat->W} {j i:Nat} {w:W} (h:((List.range j).map f).reverse[i]?=some w):i<j/\w=f (j-1-i):=by
 have hi:i<j:=by have:=(qA7.mp h).1; simpa using this
 rw [List.getElem?_reverse (by simpa using hi)] at h
 simp at h
 obtain ⟨a,ha,e⟩:=h
 rw [qL3 (by omega)] at ha
 cases ha
 exact ⟨hi,e.symm⟩
def zV {n:Nat} {ms:List Mv} {b t:List Int} {j:Nat} (h6:n<=6) (hm:∀ m∈ms,okM n m) (GO:ms.length<=8) (hb:b.length=n) (ht:t.length=n) (hj:j<=100) (hl:f8 b (Bk ms t j)=true) (hn:∀ i,i<j->f8 b (Bk ms t i)=false):P5 [.tup [tI b,tM_ ms],.lst (rgW ms t j)]=.ok (lI (D6 ms t j b)):=by
 have fin:Ok (P5 [.tup [tI b,tM_ ms],.lst (rgW ms t j)]) fun w=>w=lI (D6 ms t j b):=by
  have a0:L2.atI [tI b,tM_ ms] 0=some (tI b):=rfl
  have a1:L2.atI [tI b,tM_ ms] 1=some (tM_ ms):=rfl
  have cut:N7 (rgW ms t j) none (some (-1))=(List.range j).map fun i=>lS (Bk ms t i):=by
   have:rgW ms t j=((List.range j).map fun i=>lS (Bk ms t i)) ++ [lS (Bk ms t j)]:=by
    unfold rgW
    rw [List.range_succ,qD1]; rfl
   rw [this,CS]
  exists zO,ce,a0,cut
  refine o5 (v8 (fun i ρ=>∃ (R s:List Int) (a4 a5:Sl),ρ = [.val (.tup [tI b,tM_ ms]),.val (.lst (rgW ms t j)),.own (R.map W.int),.val (tI s),a4,a5]/\R.length=i/\i<=j/\D6 ms t j b=R++D6 ms t (j-i) s/\s.length=n/\f8 s (Bk ms t (j-i))=true/\(i<j->f8 s (Bk ms t (j-1-i))=false)) ⟨[],b,_,_,rfl,rfl,qC3 _,rfl,hb,hl,fun h=>hn _ (by omega)⟩ ?_ ?_)
  ·rintro i w ρ hw ⟨R,s,a4,a5,rfl,hR,Gw,Hm,hs,hl1,HY⟩
   obtain ⟨hi,rfl⟩:=Ab hw
   obtain ⟨k,hk⟩:∃ k,j-i=k+1:=⟨j-i-1,by omega⟩
   have Ln:j-1-i=k:=by omega
   have hk3:j-(i+1)=k:=by omega
   have HY:=HY hi
   rw [hk] at Hm hl1
   rw [Ln] at HY
   obtain ⟨r,tl,er,hr,GZ⟩:=iv ht hs hl1 HY
   have k1:=xR h6 hm GO (Q0 (ms:=ms) ht k).len hs
   rw [er] at k1
   have b0:L2.atI ((((r::tl).map fun (k:Nat)=>(k:Int))).map W.int) 0=some (.int (r:Int)):=aM W.int (as:=(r::tl).map fun (k:Nat)=>(k:Int)) (d:=0) (i:=0) ⟨by omega,by simp⟩
   have b1:L2.atI (ms.map mW) (r:Int)=some (mW (ms.getD r ([],[]))):=by
    have:=aM mW (as:=ms) (d:=([],[])) (i:=(r:Int)) (by omega)
    rw [qJ2] at this
    exact this
   have hok:=hm (ms.getD r ([],[])) (by rw [qA0]; simp [hr])
   have Jq:D6 ms t (k+1) s=(r:Int)::D6 ms t k (t8 s (ms.getD r ([],[]))):=by
    show (((P3 ms (Bk ms t k) s).getD 0 0:Nat):Int)::_=_
    rw [er]; rfl
   have GI:ms.getD r ([],[])∈ms:=by rw [qA0]; simp [hr]
   generalize ms.getD r ([],[])=m at GZ b1 hok Jq GI
   have hst':=GZ
   unfold B0 at GZ
   rw [qG8] at GZ
   have k2:=rV h6 hok hs GZ.1
   refine ⟨_,rfl,?_⟩
   rw [Ln]
   generalize ((r::tl).map fun (k:Nat)=>(k:Int))=ql at k1 b0
   exists a1,k1,b0,b1,k2
   refine ⟨R ++ [(r:Int)],t8 s m,_,_,by rw [qD1],by simp [hR],hi,?_,by rw [F8]; exact hs,by rw [hk3]; exact GZ.2,fun h=>?_⟩
   ·rw [hk3,Hm,Jq,qE9]; rfl
   ·obtain ⟨k',Lo⟩:∃ k',k=k'+1:=⟨k-1,by omega⟩
    rw [show j-1-(i+1)=k' by omega]
    cases q:f8 (t8 s m) (Bk ms t k') with
    | false=>rfl
    | true=>
     exfalso
     have:B0 (Bk ms t k') s m=true:=by unfold B0; rw [GZ.1,q]; rfl
     have l2:f8 s (Bk ms t (k'+1))=true:=by
      rw [aZ ht k' hs,qC8.mpr ⟨m,GI,this⟩,qN4]
     rw [Lo] at HY
     rw [l2] at HY; cases HY
  ·rintro ρ ⟨R,s,a4,a5,rfl,hR,Gw,Hm,hs,hl1,HY⟩
   rw [qB8,qA5,qF1] at Hm
   exists rp18
   rw [Hm,Nat.sub_self]
   show lI R=lI (R ++ [])
   rw [qG1]
 obtain ⟨v,e,rfl⟩:=fin
 exact e
def bp {n:Nat} {ms:List Mv} {b t:List Int} {most:Nat} (h1:1<=n) (h6:n<=6) (hm:∀ m∈ms,okM n m) (GO:ms.length<=8) (hb:b.length=n) (ht:t.length=n) (HM:most<=30):Ok (Q6 [.tup [tI b,tM_ ms],tI t,.int (most:Int)]) fun w=>∃ j,(∀ i,i<j->f8 b (Bk ms t i)=false/\k4 ms t most "wall" i=.non)/\((f8 b (Bk ms t j)=true/\w=.tup [.str "row",lI (D6 ms t j b)])\/(f8 b (Bk ms t j)=false/\k4 ms t most "wall" j≠.non/\w=k4 ms t most "wall" j)):=by
 have La:∀ w:W,isN w=true↔w=.non:=fun w=>by cases w <;> simp [isN]
 have a0:L2.atI [tI b,tM_ ms] 0=some (tI b):=rfl
 have a1:L2.atI [tI b,tM_ ms] 1=some (tM_ ms):=rfl
 have cm:chk (tM_ ms)=.ok (tM_ ms):=j8 (X5 ms)
 have ct:=j8 (C6 t)
 have cb:chk (.tup [tI b,tM_ ms])=.ok (.tup [tI b,tM_ ms]):=j8 (by
  show m5 [tI b,tM_ ms]=true
  simp only [m5,C6,Bool.true_and,Bool.and_true]
  exact X5 ms)
 exists rpB,mN,ct
 refine o5 (X1 ?_)
 refine aW (fun k ρ=>∃ (j:Nat) (x:Sl),ρ = [.par (.tup [tI b,tM_ ms]),.par (tI t),.par (.int (most:Int)),.own (rgW ms t j),x]/\k=most-j/\j<=most/\∀ i,i<j->f8 b (Bk ms t i)=false/\k4 ms t most "wall" i=.non) ?_ most _ ⟨0,_,rfl,rfl,qC3 _,fun i hi=>absurd hi (qE7 _)⟩
 rintro k ρ ⟨j,x,rfl,hk,hjm,Gh⟩
 have r0:=nN ms t j
 have l1:=fb ms t j
 have hB:=Q0 (ms:=ms) ht j
 have k1:=ae (s:=b) (ss:=Bk ms t j) fun y hy=>by rw [hB.len y hy,hb]
 cases q:f8 b (Bk ms t j) with
 | true=>
  rw [q] at k1
  have k2:=zV h6 hm (by omega) hb ht (by omega) q fun i hi=>(Gh i hi).1
  refine ⟨false,?_,?_⟩
  ·exists a0,r0,k1
  rw [qA3 qA4]
  exists cb,k2
  exact ⟨j,Gh,.inl ⟨q,rfl⟩⟩
 | false=>
  rw [q] at k1
  refine ⟨true,?_,?_⟩
  ·exists a0,r0,k1
  rw [qA1 rfl]
  have e1:=cA (j:=j) (word := "wall") h6 hm (by omega) ht HM
  exists jv,cv,eM,lB,a1,cm,e1,ji
  by_cases hw:k4 ms t most "wall" j=.non
  ·have rm:=pY (n:=n) GO HM hw
   have hj:=(end_non.mp hw).2.2
   have k3:=lY h1 h6 hm hB.len (by omega) rm.1 rm.2
   have k3':J0 [tM_ ms,lS (Bk ms t j)]=.ok (lS (Bk ms t (j+1))):=k3
   have r1:=pZ ms t j
   have nn0:noL W.non=true:=rfl
   rw [hw]
   exists nn0,a1,r0,k3'
   refine ⟨most-(j+1),by omega,j+1,_,by rw [<- r1],rfl,by omega,fun i hi=>?_⟩
   by_cases e:i=j
   ·rw [e]; exact ⟨q,hw⟩
   ·exact Gh i (by omega)
  ·have hbn:isN (k4 ms t most "wall" j)=false:=by
    cases q:isN (k4 ms t most "wall" j) with
    | false=>rfl
    | true=>exact absurd ((La _).mp q) hw
   generalize hE:k4 ms t most "wall" j=w at hw hbn
   exists hbn
   exact ⟨j,Gh,.inr ⟨q,by rw [hE]; exact hw,hE.symm⟩⟩
def ag (ms:List Mv) (t:List Int) (most:Nat) (word:String) (j:Nat):k4 ms t most word j=.non\/k4 ms t most word j=.tup [.str "open",.int (j:Int)]\/(k4 ms t most word j=.tup [.str word,lS (Bk ms t j)]/\(Bk ms t j).length<=most/\R9 ms (Bk ms t j)=true):=by
 unfold k4
 split
 ·exact .inr (.inl rfl)
 ·rename_i h1
  split
  ·rename_i h2
   exact .inr (.inr ⟨rfl,by simp at h1; omega,h2⟩)
  ·split
   ·exact .inr (.inl rfl)
   ·exact .inl rfl
def eQ {ms:List Mv} {t:List Int} {most:Nat} {word:String} {j:Nat} (h1:(Bk ms t j).length<=most) (h2:R9 ms (Bk ms t j)=true):k4 ms t most word j=.tup [.str word,lS (Bk ms t j)]:=by
 unfold k4
 rw [qA3 (by simp; omega),qA1 h2]
def xh:PyData.strOk "wall" = true:=by decide +kernel
def xi:PyData.strOk "open" = true:=by decide +kernel
def lf (ms:List Mv) (b t:List Int) (most:Nat) (w:W):Prop:=∃ j,(∀ i,i<j->f8 b (Bk ms t i)=false/\k4 ms t most "wall" i=.non)/\((f8 b (Bk ms t j)=true/\w=.tup [.str "row",lI (D6 ms t j b)])\/(f8 b (Bk ms t j)=false/\k4 ms t most "wall" j≠.non/\w=k4 ms t most "wall" j))
def M5 (ms:List Mv):List Int->List Int->Option (List Int)
 | [],s=>some s
 | r::rs,s=>if h9 s (ms.getD r.toNat ([],[])).1=true then M5 ms rs (t8 s (ms.getD r.toNat ([],[]))) else none
def eA {n:Nat} {ms:List Mv} {t:List Int} (ht:t.length=n):∀ (k:Nat) (s:List Int),s.length=n->f8 s (Bk ms t k)=true->(∀ i,i<k->f8 s (Bk ms t i)=false)->(∃ s',M5 ms (D6 ms t k s) s=some s'/\s'.length=n/\h9 s' t=true)/\∀ r∈D6 ms t k s,0<=r/\r<(ms.length:Int)
 | 0,s,hs,hl,_=>⟨⟨s,rfl,hs,by rw [show Bk ms t 0 = [t] from rfl,on] at hl; exact hl⟩,fun r h=>nomatch h⟩
 | k+1,s,hs,hl,hn=>by
  obtain ⟨r,tl,er,hr,GZ⟩:=iv ht hs hl (hn k (by omega))
  have Jq:D6 ms t (k+1) s=(r:Int)::D6 ms t k (t8 s (ms.getD r ([],[]))):=by
   show (((P3 ms (Bk ms t k) s).getD 0 0:Nat):Int)::_=_
   rw [er]; rfl
  have GI:ms.getD r ([],[])∈ms:=by rw [qA0]; simp [hr]
  have HS:=GZ
  unfold B0 at HS
  rw [qG8] at HS
  have ih:=eA ht k (t8 s (ms.getD r ([],[]))) (by rw [F8]; exact hs) HS.2 fun i hi=>by
   cases q:f8 (t8 s (ms.getD r ([],[]))) (Bk ms t i) with
   | false=>rfl
   | true=>
    exfalso
    have:B0 (Bk ms t i) s (ms.getD r ([],[]))=true:=by unfold B0; rw [HS.1,q]; rfl
    have l2:f8 s (Bk ms t (i+1))=true:=by
     rw [aZ ht i hs,qC8.mpr ⟨_,GI,this⟩,qN4]
    rw [hn (i+1) (by omega)] at l2; cases l2
  rw [Jq]
  refine ⟨?_,fun x hx=>?_⟩
  ·obtain ⟨s',e,h1,h2⟩:=ih.1
   refine ⟨s',?_,h1,h2⟩
   unfold M5
   rw [qJ2,qA1 HS.1]; exact e
  ·rcases qB3.mp hx with rfl | hx
   ·omega
   ·exact ih.2 x hx
def uG {n:Nat} {ms:List Mv} {ss:List (List Int)} (hs:∀ x∈ss,x.length=n) (Hu:R9 ms ss=true) {s:List Int} {m:Mv} (hm:m∈ms) (hl:s.length=n) (hc:h9 s m.1=true) (h0:f8 s ss=false):f8 (t8 s m) ss=false:=by
 cases q:f8 (t8 s m) ss with
 | false=>rfl
 | true=>
  exfalso
  unfold f8 at q
  obtain ⟨b,hb,cb⟩:=qC8.mp q
  have c1:=(fX (m:=m) hl (hs b hb)).mpr ⟨hc,cb⟩
  have Gx:srcL b m.1 m.2∈z8 ms ss:=List.mem_flatMap.mpr ⟨m,hm,qB4.mpr ⟨b,hb,rfl⟩⟩
  unfold R9 at Hu
  have c2:=qF6.mp Hu _ Gx
  unfold f8 at c2
  obtain ⟨d,hd,cd⟩:=qC8.mp c2
  have:f8 s ss=true:=qC8.mpr ⟨d,hd,iy (by rw [hl]; exact (dY hs _ Gx).symm) c1 cd⟩
  rw [this] at h0; cases h0
inductive Rch (ms:List Mv) (b:List Int):List Int->Prop where
 | beg:Rch ms b b
 | go {s:List Int} {m:Mv}:Rch ms b s->m∈ms->h9 s m.1=true->Rch ms b (t8 s m)
def Rch.len {ms:List Mv} {b s:List Int} (h:Rch ms b s):s.length=b.length:=by
 induction h with
 | beg=>rfl
 | go _ _ _ ih=>rw [F8]; exact ih
def Rch.out {n:Nat} {ms:List Mv} {b s:List Int} {ss:List (List Int)} (hs:∀ x∈ss,x.length=n) (Hu:R9 ms ss=true) (hb:b.length=n) (h0:f8 b ss=false) (h:Rch ms b s):f8 s ss=false:=by
 induction h with
 | beg=>exact h0
 | go r hm hc ih=>exact uG hs Hu hm (by rw [r.len]; exact hb) hc ih
def rp {n:Nat} {ms:List Mv} {b t:List Int} {most:Nat} {w:W} (hb:b.length=n) (ht:t.length=n) (h:lf ms b t most w):(∃ j,w=.tup [.str "row",lI (D6 ms t j b)]/\f8 b (Bk ms t j)=true/\∀ i,i<j->f8 b (Bk ms t i)=false)\/(∃ L:List (List Int),w=.tup [.str "wall",lS L]/\(∀ s,Rch ms b s->h9 s t=false))\/∃ z,w=.tup [.str "open",.int z]/\h9 b t=false:=by
 obtain ⟨j,a,⟨l,rfl⟩ | ⟨l,ne,rfl⟩⟩:=h
 ·exact .inl ⟨j,rfl,l,fun i hi=>(a i hi).1⟩
 ·rcases ag ms t most "wall" j with q | q | ⟨q,_,Hu⟩
  ·exact absurd q ne
  ·refine .inr (.inr ⟨_,q,?_⟩)
   have:f8 b (Bk ms t 0)=false:=by
    cases j with
    | zero=>exact l
    | succ j=>exact (a 0 (by omega)).1
   rw [show Bk ms t 0 = [t] from rfl,on] at this
   exact this
  ·refine .inr (.inl ⟨_,q,fun s hs=>?_⟩)
   have:=hs.out (Q0 (ms:=ms) ht j).len Hu hb l
   cases c:h9 s t with
   | false=>rfl
   | true=>
    rw [mQ ht j (by rw [hs.len]; exact hb) c] at this; cases this
def re {n:Nat} {ms:List Mv} {t:List Int} {most:Nat} (h1:1<=n) (h6:n<=6) (hm:∀ m∈ms,okM n m) (GO:ms.length<=8) (ht:t.length=n) (HM:most<=30):Ok (eO [tM_ ms,tI t,.int (most:Int)]) fun w=>∃ j,w=k4 ms t most "basis" j/\w≠.non/\∀ i,i<j->k4 ms t most "basis" i=.non:=by
 have e0:=cA (j:=0) (word := "basis") h6 hm (by omega) ht HM
 have e0':N5 [tM_ ms,.lst [.lst [tI t]],.int (most:Int),.str "basis"]=.ok (k4 ms t most "basis" 0):=e0
 have La:∀ w:W,isN w=true↔w=.non:=fun w=>by cases w <;> simp [isN]
 have cm:chk (tM_ ms)=.ok (tM_ ms):=j8 (X5 ms)
 have ct:=j8 (C6 t)
 exists rpB,kj,jv,cv,eM,lB,ct,cm,e0',ji
 refine o5 (X1 ?_)
 refine aW (fun k ρ=>∃ (j:Nat) (x:Sl),ρ = [.par (tM_ ms),.par (tI t),.par (.int (most:Int)),x,.val (k4 ms t most "basis" j)]/\(noL (k4 ms t most "basis" j)=true->x=.own (rgW ms t j))/\k=most-j/\∀ i,i<j->k4 ms t most "basis" i=.non) ?_ most _ ⟨0,_,rfl,fun h=>by rw [qA1 h]; rfl,rfl,fun i hi=>absurd hi (qE7 _)⟩
 rintro k ρ ⟨j,x,rfl,hx,hk,Gh⟩
 by_cases hw:k4 ms t most "basis" j=.non
 ·refine ⟨true,?_,?_⟩
  ·rw [hw]
   exists rp18
  rw [qA1 rfl]
  rw [hx (by rw [hw]; rfl)]
  have rm:=pY (n:=n) GO HM hw
  have hj:=(end_non.mp hw).2.2
  have a1:=nN ms t j
  have l1:=fb ms t j
  have k1:=lY h1 h6 hm (Q0 (ms:=ms) ht j).len (by omega) rm.1 rm.2
  have KZ:J0 [tM_ ms,lS (Bk ms t j)]=.ok (lS (Bk ms t (j+1))):=k1
  have e1:=cA (j:=j+1) (word := "basis") h6 hm (by omega) ht HM
  have hjm:j<most:=by
   by_cases q:j<most
   ·exact q
   ·exfalso
    have:=Gh most
    have JS:most<j:=by omega
    exact (end_non.mp (this JS)).2.2 rfl
  have r1:=pZ ms t j
  exists a1,KZ,jv,cv,eM,lB,ct,cm
  rw [<- r1]
  exists e1,ji
  refine ⟨most-(j+1),by omega,j+1,_,rfl,fun h=>by rw [qA1 h],rfl,fun i hi=>?_⟩
  by_cases q:i=j
  ·rw [q]; exact hw
  ·exact Gh i (by omega)
 ·have hb:isN (k4 ms t most "basis" j)=false:=by
   cases q:isN (k4 ms t most "basis" j) with
   | false=>rfl
   | true=>exact absurd ((La _).mp q) hw
  generalize hE:k4 ms t most "basis" j=w at hw hb
  refine ⟨false,?_,?_⟩
  ·exists hb
  ·rw [qA3 qA4]
   exists rp18
   exact ⟨j,hE.symm,hw,Gh⟩
def nn (xs:List Int):Prop:=∀ x∈xs,0<=x
def okN (n:Nat) (m:Mv):Prop:=m.1.length=n/\m.2.length=n/\nn m.1/\nn m.2
def vL {xs:List Int} (h:nn xs) (k:Nat):0<=xs.getD k 0:=by
 by_cases hk:k<xs.length
 ·exact memD h hk
 ·rw [qA0]; simp [hk]
def atM {ms:List Mv} {r:Int} (h0:0<=r) (h1:r<ms.length):L2.atI (ms.map mW) r=some (mW (ms.getD r.toNat ([],[]))):=by
 unfold L2.atI
 rw [aE h0 (by rw [qA5]; exact h1)]
 show (ms.map mW)[r.toNat]?=_
 have hi:r.toNat<ms.length:=by omega
 rw [qB5,qA0]
 simp [hi]
def getM {n:Nat} {ms:List Mv} {i:Nat} (hm:∀ m∈ms,okN n m) (h1:i<ms.length):okN n (ms.getD i ([],[])):=by
 refine hm _ ?_
 rw [qA0]; simp [h1]
def A9 (a b:Option Int):Bool:=match b with
 | none=>true
 | some y=>match a with
  | none=>false
  | some x=>decide (x<=y)
def j3 (cs ds:List (Option Int)):Bool:=(List.range cs.length).all fun k=>A9 (cs.getD k none) (ds.getD k none)
abbrev tC (cs:List (Option Int)):W:=.tup (cs.map oW)
abbrev lC (cs:List (Option Int)):W:=.lst (cs.map oW)
def DX {cs ds:List (Option Int)} {i:Nat} (hi:i<cs.length) (h:A9 (cs.getD i none) (ds.getD i none)=false):j3 cs ds=false:=by
 unfold j3
 rw [List.all_eq_false]
 exact ⟨i,by simpa using hi,by rw [h]; exact qA4⟩
def eU {cs ds:List (Option Int)} (h:∀ k,k<cs.length->A9 (cs.getD k none) (ds.getD k none)=true):j3 cs ds=true:=by
 unfold j3
 rw [qF6]
 exact fun k hk=>h k (by simpa using hk)
def dS {cs ds:List (Option Int)} (hl:ds.length=cs.length):W5 [tC cs,tC ds]=.ok (.bl (j3 cs ds)):=by
 have fin:Ok (W5 [tC cs,tC ds]) fun v=>v=.bl (j3 cs ds):=by
  have hz:=W6 (tC cs) (tC ds) _ _ rfl rfl
  rw [fV oW oW hl none none] at hz
  exists rpB,mK,hz
  refine o5 (v8 (fun i ρ=>∃ a b,ρ = [.par (tC cs),.par (tC ds),a,b]/\∀ k,k<i->A9 (cs.getD k none) (ds.getD k none)=true) ⟨_,_,rfl,fun k hk=>absurd hk (qE7 _)⟩ ?_ ?_)
  ·rintro i u ρ hu ⟨a,b,rfl,Gh⟩
   obtain ⟨hi,rfl⟩:=jB hu
   refine ⟨_,rfl,?_⟩
   have key:A9 (cs.getD i none) (ds.getD i none)=true->∀ k,k<i+1->A9 (cs.getD k none) (ds.getD k none)=true:=fun h k hk=>by
    by_cases e:k=i
    ·subst e; exact h
    ·exact Gh k (by omega)
   have bad:=DX (ds:=ds) hi
   revert key bad
   cases hd:ds.getD i none with
   | none=>
    intro key bad
    exists rp18
    exact ⟨_,_,rfl,key rfl⟩
   | some y=>
    cases hc:cs.getD i none with
    | none=>
     intro key bad
     exists rp18
     rw [bad rfl]
    | some x=>
     intro key bad
     exists rp18
     refine V0 (fun h=>?_) (fun h=>?_)
     ·exists rp18
      rw [bad (by show decide (x<=y)=false; simp only [decide_eq_true_eq] at h; exact decide_eq_false (by omega))]
     ·exists rp18
      exact ⟨_,_,rfl,key (by show decide (x<=y)=true; simp only [decide_eq_false_iff_not] at h; exact decide_eq_true (by omega))⟩
  ·rintro ρ ⟨a,b,rfl,Gh⟩
   rw [qA5,qF1] at Gh
   exists rp18
   rw [eU Gh]
 obtain ⟨v,e,rfl⟩:=fin
 exact e
def bR (c e:Option Int):Option Int:=if c=e then c else none
def C0 (cs es:List (Option Int)):List (Option Int):=if j3 es cs=true then (List.range cs.length).map fun k=>bR (cs.getD k none) (es.getD k none) else cs
def eD (cs es:List (Option Int)):(C0 cs es).length=cs.length:=by unfold C0; split <;> simp
def qe {cs es:List (Option Int)} (hl:es.length=cs.length) (h6:cs.length<=6):bi [tC cs,tC es]=.ok (tC (C0 cs es)):=by
 have hu:=dS (cs:=es) (ds:=cs) hl.symm
 have fin:Ok (bi [tC cs,tC es]) fun v=>v=tC (C0 cs es):=by
  have hz:=W6 (tC cs) (tC es) _ _ rfl rfl
  rw [fV oW oW hl none none] at hz
  exists rpB,kf,hu
  refine o5 (bV (fun h=>?_) (fun h=>?_))
  ·exists j8 (show noL (tC cs)=true from B7 cs)
   unfold C0
   rw [qA3 (by simpa using h)]
  ·exists hz
   refine qm (jR (vK ?_))
   refine ⟨lC (C0 cs es),?_,?_⟩
   ·rw [u8 (fun k=>oW (bR (cs.getD k none) (es.getD k none))) _ _ _ (by simpa using (by omega:cs.length<=1000))]
    ·unfold C0
     rw [qA1 (by simpa using h)]
     exact congrArg (fun l=>R.ok (W.lst l)) (by rw [qD0]; rfl)
    ·intro k hk
     refine ⟨_,rfl,?_⟩
     have hk:k<cs.length:=by simpa using hk
     cases hc:cs.getD k none with
     | none=>
      cases he:es.getD k none with
      | none=>
       exists rp18
       rfl
      | some y=>
       exists rp18
       rfl
     | some x=>
      cases he:es.getD k none with
      | none=>
       exists rp18
       rfl
      | some y=>
       exists rp18
       unfold bR
       by_cases e:x=y
       ·subst e; simp; rfl
       ·simp [e]; rfl
   ·exact ⟨_,by rw [kX,rC],rfl⟩
 obtain ⟨v,e,rfl⟩:=fin
 exact e
def rE {n:Nat} {m:Mv} (h6:n<=6) (h:okN n m):Y4 [mW m]=.ok (tI ((List.range n).map fun k=>m.2.getD k 0-m.1.getD k 0)):=by
 have a0:L2.atI [tI m.1,tI m.2] 0=some (tI m.1):=rfl
 have a1:L2.atI [tI m.1,tI m.2] 1=some (tI m.2):=rfl
 have hz:=W6 (tI m.1) (tI m.2) _ _ rfl rfl
 rw [cI (by rw [h.1,h.2.1]),h.1] at hz
 exists rpB,eH,a0,a1,hz
 have e:∀ N mg me ρ (h:∀ k,k<n->∃ ρ1,mg (.tup [.int (m.1.getD k 0),.int (m.2.getD k 0)]) (ρ++List.replicate (N-ρ.length) Sl.un)=some ρ1/\me ρ1=.ok (.int (m.2.getD k 0-m.1.getD k 0))),m9 N mg yes me ((List.range n).map fun k=>W.tup [.int (m.1.getD k 0),.int (m.2.getD k 0)]) ρ=.ok (lI ((List.range n).map fun k=>m.2.getD k 0-m.1.getD k 0)):=fun N mg me ρ h=>by
  rw [u8 (fun k=>.int (m.2.getD k 0-m.1.getD k 0)) _ _ ρ (by simpa using (by omega:n<=1000)) (fun k hk=>h k (by simpa using hk)),oi]
 rw [e]
 ·exists rp18
 ·intro k hk
  refine ⟨_,rfl,?_⟩
  exists rp18
abbrev Cap:=List (Option Int)
abbrev GEnt:=Cap×Nat×Nat
abbrev gW (e:GEnt):W:=.tup [tC e.1,.int (e.2.1:Int),.int (e.2.2:Int)]
abbrev g0 (c:Cap):W:=.tup [tC c,.non,.non]
abbrev l7 (c:Cap) (es:List GEnt):List W:=g0 c::es.map gW
def stC (c:Cap) (es:List GEnt):List Cap:=c::es.map (·.1)
def sC (c:Cap) (es:List GEnt) (a:Nat):Cap:=(stC c es).getD a []
def mvN (ms:List Mv) (k:Nat):Mv:=ms.getD k ([],[])
def cdG (e:GEnt):Nat:=e.2.1*8+e.2.2
def W1 (c:Cap) (es:List GEnt):(stC c es).length=es.length+1:=by simp [stC]
def gf {c:Cap} {es:List GEnt} {e:GEnt} {a:Nat} (h:a<=es.length):sC c (es ++ [e]) a=sC c es a:=by
 unfold sC stC
 rw [qD1,<- List.cons_append,qA0,qA0,qE2 (by simp; omega)]
def pR {c:Cap} {es:List GEnt} {i:Nat} {e:GEnt} (h:es[i]?=some e):sC c es (i+1)=e.1:=by
 unfold sC stC
 rw [qA0,List.getElem?_cons_succ,qB5,h]; rfl
def ju {c:Cap} {es:List GEnt} {a:Nat} (h:a<=es.length):sC c es a∈stC c es:=by
 unfold sC
 rw [qA0,qB2 (by rw [W1]; omega)]
 exact qG4 _
def vw (b:List Int):tI b=tC (b.map some):=congrArg W.tup (by rw [qD0]; rfl)
def dR (es:List GEnt):Nat->Nat->List Nat
 | _,0=>[0]
 | 0,n+1=>[n+1]
 | f+1,i+1=>(i+1)::dR es f (es.getD i ([],0,0)).2.1
def w9 (es:List GEnt) (n:Nat):List Nat:=dR es n n
def av (es:List GEnt):Prop:=∀ (i:Nat) (e:GEnt),es[i]?=some e->e.2.1<=i
def iT (es:List GEnt):w9 es 0 = [0]:=rfl
def getD_at {es:List GEnt} {i:Nat} {e:GEnt} (h:es[i]?=some e):es.getD i ([],0,0)=e:=by rw [qA0,h]; rfl
def oU {es:List GEnt} (hp:av es):∀ n f,n<=f->n<=es.length->dR es f n=dR es n n:=by
 intro n
 induction n using Nat.strongRecOn with
 | _ n ih=>
  intro f hf hn
  cases n with
  | zero=>cases f <;> rfl
  | succ i=>
   obtain ⟨f,rfl⟩:∃ g,f=g+1:=⟨f-1,by omega⟩
   have he:es[i]?=some es[i]:=qB2 (by omega)
   have hq:=hp i _ he
   show (i+1)::dR es f (es.getD i ([],0,0)).2.1=(i+1)::dR es i (es.getD i ([],0,0)).2.1
   rw [getD_at he,ih es[i].2.1 (by omega) f (by omega) (by omega),ih es[i].2.1 (by omega) i (by omega) (by omega)]
def N9 {es:List GEnt} (hp:av es) {i:Nat} {e:GEnt} (h:es[i]?=some e):w9 es (i+1)=(i+1)::w9 es e.2.1:=by
 have hi:=(qA7.mp h).1
 have hq:=hp i e h
 show (i+1)::dR es i (es.getD i ([],0,0)).2.1=_
 rw [getD_at h,oU hp e.2.1 i hq (by omega)]; rfl
def cJ {es:List GEnt} (hp:av es):∀ n,n<=es.length->(∀ q∈w9 es n,q<=n)/\(w9 es n).length<=n+1:=by
 intro n
 induction n using Nat.strongRecOn with
 | _ n ih=>
  intro hn
  cases n with
  | zero=>rw [iT]; exact ⟨by simp,by simp⟩
  | succ i=>
   have he:es[i]?=some es[i]:=qB2 (by omega)
   have hq:=hp i _ he
   obtain ⟨h1,h2⟩:=ih es[i].2.1 (by omega) (by omega)
   rw [N9 hp he]
   refine ⟨fun q Ih=>?_,by rw [qC2]; omega⟩
   rcases qB3.mp Ih with rfl | h
   ·exact qB1 _
   ·have:=h1 q h; omega
def oV {es:List GEnt} {x:GEnt} (hp:av es) (hx:x.2.1<=es.length):∀ n,n<=es.length->w9 (es ++ [x]) n=w9 es n:=by
 have hp':av (es ++ [x]):=fun i e he=>by
  by_cases hi:i<es.length
  ·rw [qE2 hi] at he; exact hp i e he
  ·have GC:=(qA7.mp he).1
   rw [qC5,qF8] at GC
   have:i=es.length:=by omega
   subst this
   rw [qH0 (qB1 _),Nat.sub_self] at he
   cases he; exact hx
 intro n
 induction n using Nat.strongRecOn with
 | _ n ih=>
  intro hn
  cases n with
  | zero=>rfl
  | succ i=>
   have he:es[i]?=some es[i]:=qB2 (by omega)
   have he':(es ++ [x])[i]?=some es[i]:=by rw [qE2 (by omega)]; exact he
   have hq:=hp i _ he
   rw [N9 hp he,N9 hp' he',ih es[i].2.1 (by omega) (by omega)]
def U7 (c:Cap) (m:Mv):Bool:=j3 (m.1.map some) c
def F0 (c:Cap) (m:Mv):Cap:=(List.range c.length).map fun k=>(c.getD k none).map fun x=>x+(m.2.getD k 0-m.1.getD k 0)
def Z4 (c:Cap) (m:Mv):(F0 c m).length=c.length:=by simp [F0]
def fO {c:Cap} {m:Mv} (hm:okN c.length m):V4 [tC c,mW m]=.ok (.bl (U7 c m)):=by
 have a0:L2.atI [tI m.1,tI m.2] 0=some (tI m.1):=rfl
 have k:=dS (cs:=m.1.map some) (ds:=c) (by rw [qA5,hm.1])
 rw [<- vw] at k
 exists rpB,fx,a0,k
 rfl
def lT {c:Cap} {m:Mv} (h6:c.length<=6) (hm:okN c.length m) (ha:U7 c m=true):ap [tC c,mW m]=.ok (tC (F0 c m)):=by
 have k1:=fO hm
 rw [ha] at k1
 have k2:=rE h6 hm
 have hz:=W6 (tC c) (tI ((List.range c.length).map fun k=>m.2.getD k 0-m.1.getD k 0)) _ _ rfl rfl
 rw [fV oW W.int (by simp) none 0] at hz
 exists rpB,dM,k1,k2,hz
 have e:∀ N mg me ρ (h:∀ k,k<c.length->∃ ρ1,mg (.tup [oW (c.getD k none),.int (((List.range c.length).map fun k=>m.2.getD k 0-m.1.getD k 0).getD k 0)]) (ρ++List.replicate (N-ρ.length) Sl.un)=some ρ1/\me ρ1=.ok (oW ((c.getD k none).map fun x=>x+(m.2.getD k 0-m.1.getD k 0)))),m9 N mg yes me ((List.range c.length).map fun k=>W.tup [oW (c.getD k none),.int (((List.range c.length).map fun k=>m.2.getD k 0-m.1.getD k 0).getD k 0)]) ρ=.ok (lC (F0 c m)):=fun N mg me ρ h=>by
  rw [u8 (fun k=>oW ((c.getD k none).map fun x=>x+(m.2.getD k 0-m.1.getD k 0))) _ _ ρ (by simp; omega) (fun k hk=>h k (by simpa using hk))]
  unfold F0
  exact congrArg (fun l=>R.ok (W.lst l)) (by rw [qD0]; rfl)
 rw [e]
 ·exists rp18
 ·intro k hk
  refine ⟨_,rfl,?_⟩
  have hg:((List.range c.length).map fun k=>m.2.getD k 0-m.1.getD k 0).getD k 0=m.2.getD k 0-m.1.getD k 0:=by rw [qA0,qB5,qL3 hk]; rfl
  rw [hg]
  cases c.getD k none with
  | none=>
   exists rp18
   rfl
  | some x=>
   exists rp18
   rfl
def R5 (cs:List Cap) (x:Cap):Bool:=cs.any fun d=>j3 x d
def dD {cs:List Cap} {x:Cap} (hl:∀ d∈cs,d.length=x.length):M1 [tC x,.lst (cs.map tC)]=.ok (.bl (R5 cs x)):=by
 have fin:Ok (M1 [tC x,.lst (cs.map tC)]) fun v=>v=.bl (R5 cs x):=by
  exists rpB,dJ
  refine o5 (v8 (fun i ρ=>∃ a2,ρ = [.par (tC x),.par (.lst (cs.map tC)),a2]/\∀ k (hk:k<cs.length),k<i->j3 x cs[k]=false) ⟨_,rfl,fun k _ hk=>absurd hk (qE7 _)⟩ ?_ ?_)
  ·rintro i u ρ hu ⟨a2,rfl,Gh⟩
   rw [qB5] at hu
   obtain ⟨d,hd,rfl⟩:=qJ8.mp hu
   obtain ⟨hi,ed⟩:=qA7.mp hd
   have hdm:=qG2 hd
   have k:=dS (cs:=x) (ds:=d) (hl d hdm)
   refine ⟨_,rfl,?_⟩
   exists k
   refine V0 (fun h=>?_) (fun h=>?_)
   ·exists rp18
    have:R5 cs x=true:=qC8.mpr ⟨d,hdm,h⟩
    rw [this]
   ·exists rp18
    refine ⟨_,rfl,fun k hk hki=>?_⟩
    by_cases e:k=i
    ·subst e; rw [ed]; exact h
    ·exact Gh k hk (by omega)
  ·rintro ρ ⟨a2,rfl,Gh⟩
   exists rp18
   have:R5 cs x=false:=by
    unfold R5
    rw [qK7]
    intro d hd
    obtain ⟨k,hk,e⟩:=qG3.mp hd
    have:=Gh k hk (by rw [qA5]; exact hk)
    rw [e] at this
    rw [this]; decide
   rw [this]
 obtain ⟨v,e,rfl⟩:=fin
 exact e
def mn {c:Cap} {es:List GEnt} {i:Nat} {e:GEnt} (h:es[i]?=some e):L2.atI (l7 c es) ((i+1:Nat):Int)=some (gW e):=cF (k:=i+1) (by show (es.map gW)[i]?=_; rw [qB5,h]; rfl)
def jx {c:Cap} {es:List GEnt} {a:Nat} (h:a<=es.length):∃ x y:W,L2.atI (l7 c es) (a:Int)=some (.tup [tC (sC c es a),x,y]):=by
 cases a with
 | zero=>exact ⟨.non,.non,cF (k:=0) rfl⟩
 | succ a=>
  have he:es[a]?=some es[a]:=qB2 (by omega)
  rw [pR he]
  exact ⟨_,_,mn he⟩
def sd {c:Cap} {es:List GEnt} {n:Nat} (hp:av es) (hl:es.length<=100) (hn:n<=es.length):V3 [.lst (l7 c es),.int (n:Int)]=.ok (lI ((w9 es n).map fun (k:Nat)=>(k:Int))):=by
 have fin:Ok (V3 [.lst (l7 c es),.int (n:Int)]) fun v=>v=lI ((w9 es n).map fun (k:Nat)=>(k:Int)):=by
  have Jm:=(cJ hp n hn).2
  exists rpB,fv
  refine o5 (X1 ?_)
  refine aW (fun m ρ=>∃ (xs l':List Nat) (w:W) (a3:Sl),ρ = [.par (.lst (l7 c es)),.par (.int (n:Int)),.own ((xs.map fun (k:Nat)=>(k:Int)).map W.int),a3]/\(a3=.val w\/a3=.par w)/\xs++l'=w9 es n/\((w=.non/\l' = [])\/∃ (n':Nat),w=.int (n':Int)/\l'=w9 es n'/\n'<m/\n'<=es.length)) ?_ (n+1) _ ⟨[],w9 es n,.int (n:Int),.val (.int (n:Int)),rfl,.inl rfl,rfl,.inr ⟨n,rfl,rfl,qL0 n,hn⟩⟩
  rintro m ρ ⟨xs,l',w,a3,rfl,ha,hx,hc⟩
  rcases hc with ⟨rfl,rfl⟩ | ⟨n',rfl,rfl,hm,hn'⟩
  ·refine ⟨false,?_,?_⟩
   ·rcases ha with rfl | rfl
    ·exists rp18
    ·exists rp18
   ·rw [qA3 qA4]
    rw [qG1] at hx
    subst hx
    exists rp18
  ·refine ⟨true,?_,?_⟩
   ·rcases ha with rfl | rfl
    ·exists rp18
    ·exists rp18
   ·rw [qA1 rfl]
    have HB:xs.length<=(w9 es n).length:=by rw [<- hx,qC5]; omega
    cases n' with
    | zero=>
     have KS:L2.atI (l7 c es) (((0:Nat)):Int)=some (g0 c):=cF (k:=0) rfl
     have r01:L2.atI (l7 c es) 0=some (g0 c):=KS
     have b1:L2.atI [tC c,W.non,W.non] 1=some W.non:=rfl
     have JI:(xs ++ [0]) ++ []=w9 es n:=by rw [<- hx,qG1]; rfl
     rcases ha with rfl | rfl
     ·exists KS,r01,b1
      exact ⟨0,by omega,xs ++ [0],[],.non,_,by simp only [qD1,qC0,qI9]; rfl,.inr rfl,JI,.inl ⟨rfl,rfl⟩⟩
     ·exists KS,r01,b1
      exact ⟨0,by omega,xs ++ [0],[],.non,_,by simp only [qD1,qC0,qI9]; rfl,.inr rfl,JI,.inl ⟨rfl,rfl⟩⟩
    | succ i=>
     have h:es[i]?=some es[i]:=qB2 (by omega)
     generalize es[i]=e at h
     have r1:=mn (c:=c) h
     have b1:L2.atI [tC e.1,.int (e.2.1:Int),.int (e.2.2:Int)] 1=some (.int (e.2.1:Int)):=rfl
     have hpi:=hp i e h
     have JI:(xs ++ [i+1])++w9 es e.2.1=w9 es n:=by rw [<- hx,N9 hp h,qE9]; rfl
     rcases ha with rfl | rfl
     ·exists r1,b1
      exact ⟨i+1,by omega,xs ++ [i+1],w9 es e.2.1,.int (e.2.1:Int),_,by simp only [qD1,qC0,qI9],.inr rfl,JI,.inr ⟨e.2.1,rfl,rfl,by omega,by omega⟩⟩
     ·exists r1,b1
      exact ⟨i+1,by omega,xs ++ [i+1],w9 es e.2.1,.int (e.2.1:Int),_,by simp only [qD1,qC0,qI9],.inr rfl,JI,.inr ⟨e.2.1,rfl,rfl,by omega,by omega⟩⟩
 obtain ⟨v,e,rfl⟩:=fin
 exact e
def upC (c:Cap) (es:List GEnt) (l:List Nat) (x:Cap):Cap:=l.foldl (fun y q=>C0 y (sC c es q)) x
def r6 (c:Cap) (ms:List Mv) (es:List GEnt) (a k:Nat):Cap:=upC c es (w9 es a) (F0 (sC c es a) (mvN ms k))
def ax (c:Cap) (es:List GEnt):∀ (l:List Nat) (x:Cap),(upC c es l x).length=x.length
 | [],_=>rfl
 | q::l,x=>by
  show (upC c es l (C0 x (sC c es q))).length=_
  rw [ax c es l,eD]
def aj (c:Cap) (ms:List Mv) (es:List GEnt) (a k:Nat):(r6 c ms es a k).length=(sC c es a).length:=by unfold r6; rw [ax,Z4]
def iW {c:Cap} {es:List GEnt} {e:GEnt}:∀ (l:List Nat) (x:Cap),(∀ q∈l,q<=es.length)->upC c (es ++ [e]) l x=upC c es l x
 | [],_,_=>rfl
 | q::l,x,h=>by
  show upC c (es ++ [e]) l (C0 x (sC c (es ++ [e]) q))=upC c es l (C0 x (sC c es q))
  rw [gf (h q qB6),iW l _ fun q' Ih=>h q' (qA8 _ Ih)]
def oC {c:Cap} {ms:List Mv} {es:List GEnt} {e:GEnt} {a k:Nat} (hp:av es) (hx:e.2.1<=es.length) (ha:a<=es.length):r6 c ms (es ++ [e]) a k=r6 c ms es a k:=by
 unfold r6
 rw [oV hp hx a ha,gf ha,iW]
 intro q hq
 have:=(cJ hp a ha).1 q hq
 omega
def K9 (c:Cap) (ms:List Mv) (es:List GEnt) (a k:Nat):List GEnt:=if (U7 (sC c es a) (mvN ms k)&&!R5 (stC c es) (r6 c ms es a k))=true then es ++ [(r6 c ms es a k,a,k)] else es
def bq (c:Cap):Option GEnt->Cap
 | none=>c
 | some e=>e.1
def Z9 (c:Cap):Option GEnt->W
 | none=>g0 c
 | some e=>gW e
def gi (c:Cap) (es:List GEnt):l7 c es=(none::es.map some).map (Z9 c):=by rw [qC0,qD0]; rfl
def vy (c:Cap) (es:List GEnt):(none::es.map some).map (bq c)=stC c es:=by rw [qC0,qD0]; rfl
def nW (c:Cap) (es:List GEnt):m5 (l7 c es)=true:=by
 rw [gi]
 refine X4 (Z9 c) (fun o=>?_) _
 cases o with
 | none=>show (m5 (c.map oW)&&(true&&(true&&true)))=true; rw [B7]; rfl
 | some e=>show (m5 (e.1.map oW)&&(true&&(true&&true)))=true; rw [B7]; rfl
def T9 {c:Cap} {es:List GEnt} (hl:∀ e∈es,e.1.length=c.length) {a:Nat} (ha:a<=es.length):(sC c es a).length=c.length:=by
 have:=ju (c:=c) ha
 unfold stC at this
 rcases qB3.mp this with e | e
 ·rw [e]
 ·obtain ⟨z,hz,ez⟩:=qB4.mp e
  rw [<- ez]; exact hl z hz
def xT {b:List Int} {ms:List Mv} {es:List GEnt} {a k:Nat} (h6:b.length<=6) (hm:∀ m∈ms,okN b.length m) (hp:av es) (hl:∀ e∈es,e.1.length=b.length) (h100:es.length<=90) (ha:a<=es.length) (hk:k<ms.length):fJ (.tup [tI b,tM_ ms]) (l7 (b.map some) es) [.int (a:Int),.int (k:Int)]=.ok (l7 (b.map some) (K9 (b.map some) ms es a k)):=by
 obtain ⟨c,hc⟩:∃ c:Cap,c=b.map some:=⟨_,rfl⟩
 have HF:c.length=b.length:=by rw [hc,qA5]
 rw [<- hc]
 refine pW fun p=>?_
 have IZ:∀ e∈es,e.1.length=c.length:=fun e he=>by rw [HF]; exact hl e he
 have HL:=T9 IZ ha
 have hmk:okN (sC c es a).length (mvN ms k):=by rw [HL,HF]; exact getM hm hk
 have a1:L2.atI [tI b,tM_ ms] 1=some (tM_ ms):=rfl
 have ej:L2.atI (ms.map mW) (k:Int)=some (mW (mvN ms k)):=by
  have:=atM (ms:=ms) (r:=(k:Int)) (by omega) (by omega)
  rw [qJ2] at this
  exact this
 obtain ⟨x,y,er⟩:=jx (c:=c) (es:=es) ha
 have b0:L2.atI [tC (sC c es a),x,y] 0=some (tC (sC c es a)):=rfl
 have k1:=fO (c:=sC c es a) hmk
 have Jt:=nW c es
 unfold Z8
 rw [qA1 ⟨rfl,Jt⟩]
 obtain ⟨GB,HC⟩:∃ GB,GB=l7 c es:=⟨_,rfl⟩
 rw [<- HC] at er
 cases Gp:U7 (sC c es a) (mvN ms k) with
 | false=>
  rw [Gp] at k1
  have e:U3 p [.par (.tup [tI b,tM_ ms]),.iop p GB,.par (.int (a:Int)),.par (.int (k:Int)),.un,.un,.un]=.ok (.bk [.par (.tup [tI b,tM_ ms]),.iop p GB,.par (.int (a:Int)),.par (.int (k:Int)),.par (mW (mvN ms k)),.un,.un]):=by
   exists rpB,U3,a1,ej,er,b0,k1
  rw [HC] at e
  show (match U3 p [.par (.tup [tI b,tM_ ms]),.iop p (l7 c es),.par (.int (a:Int)),.par (.int (k:Int)),.un,.un,.un] with | .ok (.nx ρ)=>ioR p ρ | .ok (.bk ρ)=>ioR p ρ | _=>.stuck)=_
  rw [e]
  show (if p=p then R.ok (l7 c es) else .stuck)=_
  rw [qA1 rfl]
  unfold K9
  rw [Gp]; rfl
 | true=>
  rw [Gp] at k1
  have h6':(sC c es a).length<=6:=by omega
  have k2:=lT h6' hmk Gp
  have kw:=sd (c:=c) hp (by omega) ha
  have Jm:=cJ hp a ha
  have Ls:(F0 (sC c es a) (mvN ms k)).length=c.length:=by rw [Z4,HL]
  have kU:=dD (cs:=stC c es) (x:=r6 c ms es a k) (fun d hd=>by
   rw [aj,HL]
   unfold stC at hd
   rcases qB3.mp hd with q | q
   ·rw [q]
   ·obtain ⟨z,hz,ez⟩:=qB4.mp q
    rw [<- ez]; exact IZ z hz)
  have KL:∀ N mg me ρ (h:∀ o∈(none::es.map some:List (Option GEnt)),∃ ρ1,mg (Z9 c o) (ρ++List.replicate (N-ρ.length) Sl.un)=some ρ1/\me ρ1=.ok (tC (bq c o))),m9 N mg yes me GB ρ=.ok (.lst ((stC c es).map tC)):=fun N mg me ρ h=>by
   rw [HC,gi,u8 (fun o=>tC (bq c o)) _ _ ρ (by simp; omega) h]
   rw [<- vy]
   refine congrArg (fun l=>R.ok (W.lst l)) ?_
   rw [qD0]; rfl
  have Ig:GB.length=es.length+1:=by rw [HC]; simp
  have hsel:∀ q,q<=es.length->∃ x y:W,L2.atI GB (q:Int)=some (.tup [tC (sC c es q),x,y]):=fun q hq=>by rw [HC]; exact jx hq
  rw [<- HC] at kw
  have po:Po (U3 p [.par (.tup [tI b,tM_ ms]),.iop p GB,.par (.int (a:Int)),.par (.int (k:Int)),.un,.un,.un]) (fun ρ=>ρ[1]?=some (.iop p (l7 c (K9 c ms es a k)))) (fun _=>False):=by
   exists rpB,U3,a1,ej,er,b0,k1,k2,kw
   refine bW (fun ρ=>∃ a6,ρ = [.par (.tup [tI b,tM_ ms]),.iop p GB,.par (.int (a:Int)),.par (.int (k:Int)),.par (mW (mvN ms k)),.val (tC (r6 c ms es a k)),a6]) (Eo ?_) ?_
   ·refine jG (fun i ρ=>∃ a6,ρ = [.par (.tup [tI b,tM_ ms]),.iop p GB,.par (.int (a:Int)),.par (.int (k:Int)),.par (mW (mvN ms k)),.val (tC (upC c es ((w9 es a).take i) (F0 (sC c es a) (mvN ms k)))),a6]) ⟨_,rfl⟩ ?_ ?_
    ·rintro i u ρ hu ⟨a6,rfl⟩
     rw [qD0,qB5] at hu
     obtain ⟨q,hq,rfl⟩:=qJ8.mp hu
     have hqn:=Jm.1 q (qG2 hq)
     obtain ⟨x2,y2,er2⟩:=hsel q (by omega)
     have b2:L2.atI [tC (sC c es q),x2,y2] 0=some (tC (sC c es q)):=rfl
     have kr:=qe (cs:=upC c es ((w9 es a).take i) (F0 (sC c es a) (mvN ms k))) (es:=sC c es q) (by rw [ax,Ls]; exact T9 IZ (by omega)) (by rw [ax,Ls]; omega)
     have GZ:C0 (upC c es ((w9 es a).take i) (F0 (sC c es a) (mvN ms k))) (sC c es q)=upC c es ((w9 es a).take (i+1)) (F0 (sC c es a) (mvN ms k)):=by
      rw [List.take_add_one,hq]
      unfold upC
      rw [List.foldl_append]; rfl
     rw [GZ] at kr
     refine ⟨_,rfl,?_⟩
     have hcq:(W.int∘fun (k:Nat)=>(k:Int)) q=.int (q:Int):=rfl
     exists hcq,er2,b2,kr
     exact ⟨_,rfl⟩
    ·rintro ρ ⟨a6,rfl⟩
     rw [qA5,qA5,qM3]
     exact ⟨_,rfl⟩
   ·rintro ρ ⟨a6,rfl⟩
    exists rp18
    rw [KL]
    rotate_left
    ·intro o ho
     refine ⟨_,rfl,?_⟩
     cases o with
     | none=>
      have b0:L2.atI [tC c,W.non,W.non] 0=some (tC c):=rfl
      have b1:Z9 c none=.tup [tC c,.non,.non]:=rfl
      have b2:bq c none=c:=rfl
      exists b1,b0,b2,j8 (show noL (tC c)=true from B7 c)
     | some e=>
      have b0:L2.atI [tC e.1,.int (e.2.1:Int),.int (e.2.2:Int)] 0=some (tC e.1):=rfl
      have b1:Z9 c (some e)=.tup [tC e.1,.int (e.2.1:Int),.int (e.2.2:Int)]:=rfl
      have b2:bq c (some e)=e.1:=rfl
      exists b1,b0,b2,j8 (show noL (tC e.1)=true from B7 e.1)
    exists kU
    cases hU:R5 (stC c es) (r6 c ms es a k) with
    | true=>
     exists rp18
     unfold K9
     rw [Gp,hU,HC]
     rfl
    | false=>
     exists rp18
     rw [uv (ws:=GB) (w:=gW (r6 c ms es a k,a,k)) rfl ?_ (by omega)]
     ·show ((List.map clI _).set 1 _)[1]?=_
      rw [qE4 (by simp)]
      unfold K9
      rw [Gp,hU,HC]
      show some (Sl.iop p (g0 c::es.map gW ++ [_]))=some (Sl.iop p (g0 c::(es ++ [_]).map gW))
      rw [qD1]; rfl
     ·exists rp18
  rw [HC] at po
  show (match U3 p [.par (.tup [tI b,tM_ ms]),.iop p (l7 c es),.par (.int (a:Int)),.par (.int (k:Int)),.un,.un,.un] with | .ok (.nx ρ)=>ioR p ρ | .ok (.bk ρ)=>ioR p ρ | _=>.stuck)=_
  revert po
  cases U3 p [.par (.tup [tI b,tM_ ms]),.iop p (l7 c es),.par (.int (a:Int)),.par (.int (k:Int)),.un,.un,.un] with
  | stuck=>exact fun h=>h.elim
  | ex e=>exact fun h=>h.elim
  | ok f=>
   cases f with
   | nx ρ=>
    intro h
    have h:ρ[1]?=some (.iop p (l7 c (K9 c ms es a k))):=h
    show ioR p ρ=_
    unfold ioR
    rw [h]
    exact qA1 rfl
   | rt w=>exact fun h=>h.elim
   | bk ρ=>exact fun h=>h.elim
   | ct ρ=>exact fun h=>h.elim
structure GK (c:Cap) (ms:List Mv) (es:List GEnt) (A kk:Nat):Prop where
 len:∀ e∈es,e.1.length=c.length
 k8:∀ e∈es,e.2.2<ms.length
 lt:∀ e∈es,e.2.1<A\/(e.2.1=A/\e.2.2<kk)
 inc:es.Pairwise fun x y=>cdG x<cdG y
 par:av es
 beh:∀ (i:Nat) (e:GEnt),es[i]?=some e->U7 (sC c es e.2.1) (mvN ms e.2.2)=true/\e.1=r6 c ms es e.2.1 e.2.2/\∀ j,j<=i->j3 e.1 (sC c es j)=false
 set:∀ a k,(a<A\/(a=A/\k<kk))->k<ms.length->U7 (sC c es a) (mvN ms k)=true->(∃ e∈es,e.2=(a,k))\/∃ j,j<=es.length/\(∀ (i:Nat) (e:GEnt),j=i+1->es[i]?=some e->cdG e<a*8+k)/\j3 (r6 c ms es a k) (sC c es j)=true
def GK.start (c:Cap) (ms:List Mv):GK c ms [] 0 0 where
 len:=by simp
 k8:=by simp
 lt:=by simp
 inc:=List.Pairwise.nil
 par:=fun i e h=>by simp at h
 beh:=fun i e h=>by simp at h
 set:=fun a k h=>by omega
section
variable {c:Cap} {ms:List Mv} {es:List GEnt} {A kk:Nat}
def GK.below (h:GK c ms es A kk) (h8:ms.length<=8):∀ e∈es,cdG e<A*8+kk:=fun e he=>by
 have:=h.k8 e he
 unfold cdG
 rcases h.lt e he with q | ⟨q,q'⟩
 ·omega
 ·omega
def GK.stay (h:GK c ms es A kk) (h8:ms.length<=8) (IX:U7 (sC c es A) (mvN ms kk)=true->R5 (stC c es) (r6 c ms es A kk)=true):GK c ms es A (kk+1) where
 len:=h.len
 k8:=h.k8
 lt:=fun e he=>by
  rcases h.lt e he with q | ⟨q,q'⟩
  ·exact .inl q
  ·exact .inr ⟨q,by omega⟩
 inc:=h.inc
 par:=h.par
 beh:=h.beh
 set:=fun a k hj hk Gp=>by
  by_cases e:a=A/\k=kk
  ·obtain ⟨rfl,rfl⟩:=e
   obtain ⟨d,hd,hu⟩:=qC8.mp (IX Gp)
   obtain ⟨j,hj,ej⟩:=qG3.mp hd
   rw [W1] at hj
   refine .inr ⟨j,by omega,fun i e _ he=>h.below h8 e (qG2 he),?_⟩
   have:sC c es j=d:=by unfold sC; rw [qA0,qB2 (by rw [W1]; exact hj),ej]; rfl
   rw [this]; exact hu
  ·exact h.set a k (by omega) hk Gp
def GK.snoc (h:GK c ms es A kk) (h8:ms.length<=8) (hA:A<=es.length) (hk:kk<ms.length) (Gp:U7 (sC c es A) (mvN ms kk)=true) (IX:R5 (stC c es) (r6 c ms es A kk)=false):GK c ms (es ++ [(r6 c ms es A kk,A,kk)]) A (kk+1):=by
 have hS:∀ a,a<=es.length->sC c (es ++ [(r6 c ms es A kk,A,kk)]) a=sC c es a:=fun a ha=>gf ha
 have hC:∀ a k,a<=es.length->r6 c ms (es ++ [(r6 c ms es A kk,A,kk)]) a k=r6 c ms es a k:=fun a k ha=>oC h.par hA ha
 have hpar:∀ (i:Nat) (e:GEnt),es[i]?=some e->e.2.1<=es.length:=fun i e he=>by
  have:=h.par i e he
  have:=(qA7.mp he).1
  omega
 have Ht:∀ (i:Nat) (e:GEnt),(es ++ [(r6 c ms es A kk,A,kk)])[i]?=some e->(es[i]?=some e/\i<es.length)\/(i=es.length/\e=(r6 c ms es A kk,A,kk)):=fun i e he=>by
  by_cases hi:i<es.length
  ·rw [qE2 hi] at he; exact .inl ⟨he,hi⟩
  ·have GC:=(qA7.mp he).1
   rw [qC5,qF8] at GC
   have:i=es.length:=by omega
   subst this
   rw [qH0 (qB1 _),Nat.sub_self] at he
   cases he; exact .inr ⟨rfl,rfl⟩
 refine ⟨fun e he=>?_,fun e he=>?_,fun e he=>?_,?_,fun i e he=>?_,fun i e he=>?_,fun a k hj hkm Ka=>?_⟩
 ·rcases qD9.mp he with q | q
  ·exact h.len e q
  ·rw [qD8.mp q]
   show (r6 c ms es A kk).length=_
   rw [aj]; exact T9 h.len hA
 ·rcases qD9.mp he with q | q
  ·exact h.k8 e q
  ·rw [qD8.mp q]; exact hk
 ·rcases qD9.mp he with q | q
  ·rcases h.lt e q with q1 | ⟨q1,q2⟩
   ·exact .inl q1
   ·exact .inr ⟨q1,by omega⟩
  ·rw [qD8.mp q]; exact .inr ⟨rfl,qL0 kk⟩
 ·refine qE5.mpr ⟨h.inc,qJ5 _ _,fun x hx y hy=>?_⟩
  rw [qD8.mp hy]
  exact h.below h8 x hx
 ·rcases Ht i e he with ⟨q,_⟩ | ⟨rfl,rfl⟩
  ·exact h.par i e q
  ·exact hA
 ·rcases Ht i e he with ⟨q,hi⟩ | ⟨rfl,rfl⟩
  ·obtain ⟨p1,p2,p3⟩:=h.beh i e q
   have hp:=hpar i e q
   rw [hS _ hp,hC _ _ hp]
   exact ⟨p1,p2,fun j hj=>by rw [hS j (by omega)]; exact p3 j hj⟩
  ·refine ⟨by rw [hS _ hA]; exact Gp,by rw [hC _ _ hA],fun j hj=>?_⟩
   rw [hS j hj]
   unfold R5 at IX
   rw [qK7] at IX
   have:=IX _ (ju hj)
   simpa using this
 ·have ha:a<=es.length:=by omega
  rw [hS a ha] at Ka
  rw [hC a k ha]
  by_cases e:a=A/\k=kk
  ·obtain ⟨rfl,rfl⟩:=e
   exact .inl ⟨_,qC4 _ (List.mem_singleton_self _),rfl⟩
  ·rcases h.set a k (by omega) hkm Ka with ⟨e,he,q⟩ | ⟨j,hj,h1,h2⟩
   ·exact .inl ⟨e,qF3 _ he,q⟩
   ·refine .inr ⟨j,by rw [qC5,qF8]; omega,fun i e hji he=>?_,by rw [hS j hj]; exact h2⟩
    rcases Ht i e he with ⟨q,_⟩ | ⟨rfl,_⟩
    ·exact h1 i e hji q
    ·omega
def GK.step (h:GK c ms es A kk) (h8:ms.length<=8) (hA:A<=es.length) (hk:kk<ms.length):GK c ms (K9 c ms es A kk) A (kk+1):=by
 unfold K9
 cases Gp:U7 (sC c es A) (mvN ms kk) with
 | false=>
  rw [qA3 (by simp)]
  exact h.stay h8 fun q=>by rw [Gp] at q; cases q
 | true=>
  cases hU:R5 (stC c es) (r6 c ms es A kk) with
  | true=>
   rw [qA3 (by simp)]
   exact h.stay h8 fun _=>hU
  | false=>
   rw [qA1 (by simp)]
   exact h.snoc h8 hA hk Gp hU
def GK.next (h:GK c ms es A ms.length):GK c ms es (A+1) 0 where
 len:=h.len
 k8:=h.k8
 lt:=fun e he=>by
  have:=h.k8 e he
  rcases h.lt e he with q | ⟨q,q'⟩
  ·exact .inl (by omega)
  ·exact .inl (by omega)
 inc:=h.inc
 par:=h.par
 beh:=h.beh
 set:=fun a k hj hk Gp=>h.set a k (by omega) hk Gp
def pB (c:Cap) (ms:List Mv) (es:List GEnt) (a k:Nat):es.length<=(K9 c ms es a k).length/\(K9 c ms es a k).length<=es.length+1:=by
 unfold K9
 split
 ·rw [qC5,qF8]; omega
 ·omega
end
def oq {b:List Int} {ms:List Mv} {most:Nat} (h6:b.length<=6) (hm:∀ m∈ms,okN b.length m) (h8:ms.length<=8) (h1:1<=most) (HP:most<=30):Ok (Y2 [.tup [tI b,tM_ ms],.int (most:Int)]) fun w=>(w=.non/\∃ es A,GK (b.map some) ms es A 0/\most<es.length+1)\/∃ es,w=.lst (l7 (b.map some) es)/\es.length+1<=most/\GK (b.map some) ms es (es.length+1) 0:=by
 have HF:(b.map some).length=b.length:=qA5 ..
 have a0:L2.atI [tI b,tM_ ms] 0=some (tI b):=rfl
 have a1:L2.atI [tI b,tM_ ms] 1=some (tM_ ms):=rfl
 have gr:∀ (es:List GEnt) (A k:Nat),GK (b.map some) ms es A k->A<=es.length->k<ms.length->es.length<=90->fJ (.tup [tI b,tM_ ms]) (l7 (b.map some) es) [.int (A:Int),.int (k:Int)]=.ok (l7 (b.map some) (K9 (b.map some) ms es A k)):=fun es A k hK hA hk hl=>xT h6 hm hK.par (fun e he=>by rw [<- HF]; exact hK.len e he) hl hA hk
 have JZ:(.lst [.tup [tI b,.non,.non]]:W)=.lst (l7 (b.map some) []):=by rw [vw]; rfl
 generalize hc:b.map some=c at *
 exists rpB,ki,a0,j8 (C6 b)
 refine o5 (X1 ?_)
 refine aW (fun m ρ=>∃ (es:List GEnt) (at_:Nat) (a4:Sl),ρ = [.par (.tup [tI b,tM_ ms]),.par (.int (most:Int)),.own (l7 c es),.val (.int (at_:Int)),a4]/\GK c ms es at_ 0/\at_<=es.length+1/\es.length+1<=most/\m+at_=102) ?_ 102 _ ⟨[],0,_,by rw [show l7 c [] = [.tup [tI b,.non,.non]] from by injection JZ with h; exact h.symm]; rfl,GK.start c ms,by simp,by simpa using h1,rfl⟩
 rintro m ρ ⟨es,at_,a4,rfl,hK,hat,hmost,HN⟩
 have Ig:(l7 c es).length=es.length+1:=by simp
 by_cases GA:at_<es.length+1
 ·refine ⟨true,?_,?_⟩
  ·have d1:decide ((at_:Int)<((es.length+1:Nat):Int))=true:=decide_eq_true (by omega)
   exists Ig,d1
  ·rw [qA1 rfl]
   exists a1
   refine bW (fun ρ=>∃ (es:List GEnt) (a4:Sl),ρ = [.par (.tup [tI b,tM_ ms]),.par (.int (most:Int)),.own (l7 c es),.val (.int (at_:Int)),a4]/\GK c ms es at_ ms.length/\at_<=es.length/\es.length<=60) ?_ ?_
   ·refine jG (fun i ρ=>∃ (es:List GEnt) (a4:Sl),ρ = [.par (.tup [tI b,tM_ ms]),.par (.int (most:Int)),.own (l7 c es),.val (.int (at_:Int)),a4]/\GK c ms es at_ i/\at_<=es.length/\es.length<=30+i) ⟨es,_,rfl,hK,by omega,by omega⟩ ?_ ?_
    ·rintro i u ρ hu ⟨es,a4,rfl,hK,hA,hl⟩
     obtain ⟨hi,rfl⟩:=W9 hu
     have kg:=gr es at_ i hK hA hi (by omega)
     have HL:=pB c ms es at_ i
     refine ⟨_,rfl,?_⟩
     obtain ⟨GB,HC⟩:∃ GB,GB=l7 c es:=⟨_,rfl⟩
     rw [<- HC] at kg ⊢
     exists kg
     exact ⟨K9 c ms es at_ i,_,rfl,hK.step h8 hA hi,by omega,by omega⟩
    ·rintro ρ ⟨es,a4,rfl,hK,hA,hl⟩
     simp only [qA5,qF1] at hK hl
     exact ⟨es,_,rfl,hK,hA,by omega⟩
   ·rintro ρ ⟨es,a4,rfl,hK,hA,hl⟩
    have Ig:(l7 c es).length=es.length+1:=by simp
    exists Ig
    refine bV (fun h=>?_) (fun h=>?_)
    ·have h:=of_decide_eq_true h
     exists rp18
     exact .inl ⟨es,at_+1,hK.next,by omega⟩
    ·have h:=of_decide_eq_false h
     exists rp18
     exact ⟨101-at_,by omega,es,at_+1,_,by rw [show ((at_+1:Nat):Int)=(at_:Int)+1 by omega],hK.next,by omega,by omega,by omega⟩
 ·refine ⟨false,?_,?_⟩
  ·have d1:decide ((at_:Int)<((es.length+1:Nat):Int))=false:=decide_eq_false (by omega)
   exists Ig,d1
  ·rw [qA3 qA4]
   exists rp18
   have:at_=es.length+1:=by omega
   subst this
   exact .inr ⟨es,rfl,hmost,hK⟩
def qY {b:List Int} {ms:List Mv} {most:Nat} (h6:b.length<=6) (hm:∀ m∈ms,okN b.length m) (h8:ms.length<=8) (h1:1<=most) (HP:most<=30):Ok (Y2 [.tup [tI b,tM_ ms],.int (most:Int)]) fun w=>w=.non\/∃ es,w=.lst (l7 (b.map some) es)/\es.length+1<=most/\GK (b.map some) ms es (es.length+1) 0:=by
 obtain ⟨w,e,h⟩:=oq h6 hm h8 h1 HP
 refine ⟨w,e,?_⟩
 rcases h with ⟨h,_⟩ | h
 ·exact .inl h
 ·exact .inr h
def kO:Option Int->List Int
 | none=>[1,0]
 | some n=>[0,n]
def n6 (c:Cap):List (List Int):=c.map kO
def By {x y:Option Int} (h:kO x=kO y):x=y:=by
 cases x with
 | none=>
  cases y with
  | none=>rfl
  | some m=>simp [kO] at h
 | some n=>
  cases y with
  | none=>simp [kO] at h
  | some m=>simp [kO] at h; rw [h]
def eJ:∀ {a b:Cap},n6 a=n6 b->a=b
 | [],[],_=>rfl
 | [],_::_,h=>by simp [n6] at h
 | _::_,[],h=>by simp [n6] at h
 | x::a,y::b,h=>by
  have h:kO x::n6 a=kO y::n6 b:=h
  injection h with h1 h2
  rw [By h1,eJ h2]
def gZ (x y:Option Int) (a b:Cap):j3 (x::a) (y::b)=(A9 x y&&j3 a b):=by
 unfold j3
 rw [qC2,List.range_succ_eq_map,List.all_cons,List.all_map]
 rfl
def sj {x y:Option Int} (h:A9 x y=true) (hn:kO y≠kO x):lexLt (kO y) (kO x)=false:=by
 cases y with
 | none=>
  cases x with
  | none=>exact absurd rfl hn
  | some n=>simp [kO,TP.lexLt]
 | some m=>
  cases x with
  | none=>cases h
  | some n=>
   have h:n<=m:=of_decide_eq_true h
   simp [kO,TP.lexLt]
   omega
def lW:∀ {a b:Cap},a.length=b.length->j3 a b=true->t4 (n6 b) (n6 a)=false
 | [],[],_,_=>rfl
 | [],_::_,h,_=>by simp at h
 | _::_,[],h,_=>by simp at h
 | x::a,y::b,hl,h=>by
  rw [gZ,qG8] at h
  show (if kO y=kO x then t4 (n6 b) (n6 a) else lexLt (kO y) (kO x))=false
  by_cases e:kO y=kO x
  ·rw [qA1 e]; exact lW (by simpa using hl) h.2
  ·rw [qA3 e]; exact sj h.1 e
def Q3 (a:Cap):j3 a a=true:=eU fun k _=>by
 cases a.getD k none with
 | none=>rfl
 | some x=>exact decide_eq_true (qF9 x)
def zf {a b:Cap} (hl:a.length=b.length) (h1:t4 (n6 a) (n6 b)=false) (h2:j3 a b=true):a=b:=eJ (ba _ _ h1 (lW hl h2))
def nE {c:Cap} (h6:c.length<=6):L6 [tC c]=.ok (kW (n6 c)):=by
 have e:∀ N mg me ρ (h:∀ z:Option Int,∃ ρ1,mg (oW z) (ρ++List.replicate (N-ρ.length) Sl.un)=some ρ1/\me ρ1=.ok (.tup ((kO z).map W.int))),m9 N mg yes me (c.map oW) ρ=.ok (.lst (eV (n6 c))):=fun N mg me ρ h=>by
  rw [u8 (fun z=>.tup ((kO z).map W.int)) oW c ρ (by omega) (fun z _=>h z)]
  unfold eV n6
  exact congrArg (fun l=>R.ok (W.lst l)) (by rw [qD0]; rfl)
 exists rpB,fw
 rw [e]
 ·have hn:m5 (eV (n6 c))=true:=eF (n6 c)
  exists dA hn
  rfl
 ·intro z
  refine ⟨_,rfl,?_⟩
  cases z with
  | none=>
   exists rp18
   rfl
  | some n=>
   exists rp18
   rfl
def qN {c:Cap} (h1:1<=c.length):keyOf (.ok (kW (n6 c)))=some (n6 c):=by
 have ht:O7 (eV (n6 c))=some (n6 c):=dW _
 unfold keyOf kW
 dsimp only
 rw [ht]
 cases c with
 | nil=>simp at h1
 | cons a c=>rfl
def ir:∀ {cs:List Cap},(∀ c∈cs,1<=c.length/\c.length<=6)->F4 L6 (cs.map tC)=some (cs.map n6)
 | [],_=>rfl
 | c::cs,h=>by
  have hc:=h c qB6
  rw [qC0]
  unfold F4
  rw [nE hc.2,qN hc.1,ir fun d hd=>h d (qA8 _ hd)]
  rfl
def tX {α β:Type} (f:α->β) {ks:List (List (List Int))} {d:α} {e:β} {vs:List α} (hl:vs.length=ks.length):w6 ks e (vs.map f)=(w6 ks d vs).map f:=by
 unfold w6
 rw [qO0,qD0]
 refine congrArg List.reverse (qM8 fun i hi=>?_)
 have GC:i<vs.reverse.length:=by
  have:=(O4 ks.reverse).mem_iff.mp hi
  rw [qF2,qB8] at this
  rw [qB8]; omega
 rw [<- qO0,qA0,qB5,qB2 GC]
 show _=f (vs.reverse.getD i d)
 rw [qA0,qB2 GC]
 rfl
def srt (cs:List Cap):List Cap:=w6 (cs.map n6) [] cs
def sJ (cs:List Cap):(srt cs).Perm cs:=qt (by simp)
def sK (cs:List Cap):(srt cs).Pairwise fun a b=>t4 (n6 a) (n6 b)=false:=by
 unfold srt w6
 rw [qM2,qH2]
 have hm:∀ i∈Q5 (cs.map n6).reverse,i<cs.reverse.length:=fun i hi=>by
  have:=(O4 (cs.map n6).reverse).mem_iff.mp hi
  rw [qF2,qB8,qA5] at this
  rw [qB8]; exact this
 have hk:∀ i,i<cs.reverse.length->(cs.map n6).reverse.getD i []=n6 (cs.reverse.getD i []):=fun i hi=>by
  rw [<- qO0,qA0,qB5,qB2 hi,qA0,qB2 hi]
  rfl
 refine qL2 (fun {i j} hi hj h=>?_) (xf (cs.map n6).reverse)
 rw [hk i (hm i hi),hk j (hm j hj)] at h
 exact h
def qC (cs:List Cap):m5 (cs.map tC)=true:=X4 tC (fun c=>B7 c) cs
def nH {cs:List Cap} {c:Bool} (hl:∀ c∈cs,1<=c.length/\c.length<=6) (GT:cs.length<64):cy c L6 [.lst (cs.map tC)]=.ok (.lst ((srt cs).map tC)):=by
 show (match F4 L6 (cs.map tC) with | some ks=>if (cs.map tC).length<64 then chks c (w6 ks W.non (cs.map tC)) else .stuck | none=>.stuck)=_
 rw [ir hl]
 dsimp only
 rw [qA1 (by rw [qA5]; exact GT),tX tC (d:=[]) (by simp),dy (qC _)]
 rfl
def wn {cs:List Cap} {n:Nat} (hl:∀ c∈cs,c.length=n) (h1:1<=n) (h6:n<=6) (GT:cs.length<64):Ok (kT [.lst (cs.map tC)]) fun w=>∃ ts:List Cap,w=.lst (ts.map tC)/\(∀ t∈ts,t∈cs)/\ts.length<=cs.length/\(ts.Pairwise fun a b=>t4 (n6 a) (n6 b)=true/\j3 a b=false/\j3 b a=false)/\∀ c∈cs,∃ t∈ts,j3 c t=true:=by
 have hs:=nH (cs:=cs) (c:=false) (fun c hc=>by rw [hl c hc]; exact ⟨h1,h6⟩) GT
 have hp:=sJ cs
 have hd:=sK cs
 have HL:(srt cs).length=cs.length:=hp.length_eq
 have IE:∀ c∈srt cs,c.length=n:=fun c hc=>hl c (hp.mem_iff.mp hc)
 generalize srt cs=ss at *
 exists rpB,qK,hs
 refine o5 (v8 (fun i ρ=>∃ (fs:List Cap) (a2:Sl),ρ = [.par (.lst (cs.map tC)),.own (fs.map tC),a2]/\(∀ t∈fs,t∈ss.take i)/\fs.length<=i/\(fs.Pairwise fun a b=>t4 (n6 a) (n6 b)=false/\j3 b a=false)/\∀ c∈ss.take i,∃ t∈fs,j3 c t=true) ⟨[],_,rfl,by simp,by simp,List.Pairwise.nil,by simp⟩ ?_ ?_)
 ·rintro i u ρ hu ⟨fs,a2,rfl,hfm,hfl,hfp,hfc⟩
  rw [qB5] at hu
  obtain ⟨x,hx,rfl⟩:=qJ8.mp hu
  obtain ⟨hi,ex⟩:=qA7.mp hx
  have hxm:=qG2 hx
  have ht:ss.take (i+1)=ss.take i ++ [x]:=by rw [List.take_add_one,hx]; rfl
  have JW:∀ t∈fs,t.length=x.length:=fun t Kx=>by rw [IE t (List.mem_of_mem_take (hfm t Kx)),IE x hxm]
  have ku:=dD (cs:=fs) (x:=x) JW
  have hf64:fs.length<64:=by omega
  refine ⟨_,rfl,?_⟩
  exists ku
  cases hU:R5 fs x with
  | true=>
   exists rp18
   refine ⟨fs,_,rfl,fun t q=>by rw [ht]; exact qF3 _ (hfm t q),by omega,hfp,fun c hc=>?_⟩
   rw [ht] at hc
   rcases qD9.mp hc with q | q
   ·exact hfc c q
   ·rw [qD8.mp q]
    obtain ⟨t,h1,h2⟩:=qC8.mp hU
    exact ⟨t,h1,h2⟩
  | false=>
   exists j8 (show noL (tC x)=true from B7 x)
   refine ⟨fs ++ [x],_,by rw [qD1]; rfl,fun t q=>?_,by rw [qC5,qF8]; omega,?_,fun c hc=>?_⟩
   ·rw [ht]
    rcases qD9.mp q with q | q
    ·exact qF3 _ (hfm t q)
    ·exact qC4 _ q
   ·refine qE5.mpr ⟨hfp,qJ5 _ _,fun t Kx y hy=>?_⟩
    rw [qD8.mp hy]
    refine ⟨?_,?_⟩
    ·obtain ⟨j,hj,ej⟩:=qG3.mp (hfm t Kx)
     rw [qI3] at hj
     rw [List.getElem_take] at ej
     have:=List.pairwise_iff_getElem.mp hd j i (by omega) hi (by omega)
     rw [ej,ex] at this
     exact this
    ·unfold R5 at hU
     rw [qK7] at hU
     have:=hU t Kx
     simpa using this
   ·rw [ht] at hc
    rcases qD9.mp hc with q | q
    ·obtain ⟨t,h1,h2⟩:=hfc c q
     exact ⟨t,qF3 _ h1,h2⟩
    ·rw [qD8.mp q]
     exact ⟨x,qC4 _ (List.mem_singleton_self _),Q3 x⟩
 ·rintro ρ ⟨fs,a2,rfl,hfm,hfl,hfp,hfc⟩
  rw [qA5] at hfl
  rw [qA5,qM3] at hfm hfc
  exists rp18
  refine ⟨fs.reverse,by rw [qO0],fun t q=>hp.mem_iff.mp (hfm t (List.mem_reverse.mp q)),by rw [qB8]; omega,?_,fun c hc=>?_⟩
  ·rw [qM2]
   refine qL2 (fun {b a} hb ha h=>?_) hfp
   have GW:=IE b (hfm b hb)
   have Ls:=IE a (hfm a ha)
   have key:j3 b a=false:=by
    cases hq:j3 b a with
    | false=>rfl
    | true=>
     have:=zf (by omega) h.1 hq
     subst this
     rw [Q3] at hq
     have h2:=h.2
     rw [Q3] at h2
     cases h2
   refine ⟨?_,h.2,key⟩
   cases hq:t4 (n6 a) (n6 b) with
   | true=>rfl
   | false=>
    have:=eJ (ba _ _ h.1 hq)
    subst this
    rw [Q3] at key
    cases key
  ·obtain ⟨t,q1,q2⟩:=hfc c (hp.mem_iff.mpr hc)
   exact ⟨t,List.mem_reverse.mpr q1,q2⟩
def nu {x y z:Option Int} (h1:A9 x y=true) (h2:A9 y z=true):A9 x z=true:=by
 cases z with
 | none=>rfl
 | some c=>
  cases y with
  | none=>cases h2
  | some b=>
   cases x with
   | none=>cases h1
   | some a=>
    have h1:a<=b:=of_decide_eq_true h1
    have h2:b<=c:=of_decide_eq_true h2
    exact decide_eq_true (by omega)
def Z5:∀ {a b c:Cap},a.length=b.length->b.length=c.length->j3 a b=true->j3 b c=true->j3 a c=true
 | [],[],[],_,_,_,_=>rfl
 | [],_::_,_,h,_,_,_=>by simp at h
 | _::_,[],_,h,_,_,_=>by simp at h
 | _,[],_::_,_,h,_,_=>by simp at h
 | _,_::_,[],_,h,_,_=>by simp at h
 | x::a,y::b,z::c,h1,h2,h3,h4=>by
  rw [gZ,qG8] at h3 h4 ⊢
  exact ⟨nu h3.1 h4.1,Z5 (by simpa using h1) (by simpa using h2) h3.2 h4.2⟩
def kZ {b:List Int} {ms:List Mv} {most:Nat} (h1:1<=b.length) (h6:b.length<=6) (hm:∀ m∈ms,okN b.length m) (h8:ms.length<=8) (KB:1<=most) (HP:most<=30):∃ w u:W,Y2 [.tup [tI b,tM_ ms],.int (most:Int)]=.ok w/\dj [.tup [tI b,tM_ ms],.int (most:Int)]=.ok u/\((w=.non/\u=.non)\/∃ (es:List GEnt) (ts:List Cap),w=.lst (l7 (b.map some) es)/\es.length+1<=most/\GK (b.map some) ms es (es.length+1) 0/\u=.lst (ts.map tC)/\(∀ t∈ts,t∈stC (b.map some) es)/\ts.length<=es.length+1/\(ts.Pairwise fun a b=>t4 (n6 a) (n6 b)=true/\j3 a b=false/\j3 b a=false)/\∀ c∈stC (b.map some) es,∃ t∈ts,j3 c t=true):=by
 obtain ⟨w,eg,hw⟩:=qY (most:=most) h6 hm h8 KB HP
 have HF:(b.map some).length=b.length:=qA5 ..
 rcases hw with rfl | ⟨es,rfl,hes,hK⟩
 ·refine ⟨_,.non,eg,?_,.inl ⟨rfl,rfl⟩⟩
  exists rpB,gE,eg
 ·generalize hc:b.map some=c at *
  have hsn:∀ d∈stC c es,d.length=b.length:=fun d hd=>by
   unfold stC at hd
   rcases qB3.mp hd with q | q
   ·rw [q,HF]
   ·obtain ⟨z,hz,ez⟩:=qB4.mp q
    rw [<- ez,hK.len z hz,HF]
  obtain ⟨u,et,ts,rfl,q1,q2,q3,q4⟩:=wn (cs:=stC c es) (n:=b.length) hsn h1 h6 (by rw [W1]; omega)
  rw [W1] at q2
  refine ⟨_,.lst (ts.map tC),eg,?_,.inr ⟨es,ts,rfl,hes,hK,rfl,q1,q2,q3,q4⟩⟩
  have KL:∀ N mg me ρ (h:∀ o∈(none::es.map some:List (Option GEnt)),∃ ρ1,mg (Z9 c o) (ρ++List.replicate (N-ρ.length) Sl.un)=some ρ1/\me ρ1=.ok (tC (bq c o))),m9 N mg yes me (l7 c es) ρ=.ok (.lst ((stC c es).map tC)):=fun N mg me ρ h=>by
   rw [gi,u8 (fun o=>tC (bq c o)) _ _ ρ (by simp; omega) h]
   rw [<- vy]
   refine congrArg (fun l=>R.ok (W.lst l)) ?_
   rw [qD0]; rfl
  obtain ⟨GB,HC⟩:∃ GB,GB=l7 c es:=⟨_,rfl⟩
  rw [<- HC] at eg KL
  exists rpB,gE,eg
  rw [KL]
  ·exists et
  ·intro o ho
   refine ⟨_,rfl,?_⟩
   cases o with
   | none=>
    have b0:L2.atI [tC c,W.non,W.non] 0=some (tC c):=rfl
    have b1:Z9 c none=.tup [tC c,.non,.non]:=rfl
    have b2:bq c none=c:=rfl
    exists b1,b0,b2,j8 (show noL (tC c)=true from B7 c)
   | some e=>
    have b0:L2.atI [tC e.1,.int (e.2.1:Int),.int (e.2.2:Int)] 0=some (tC e.1):=rfl
    have b1:Z9 c (some e)=.tup [tC e.1,.int (e.2.1:Int),.int (e.2.2:Int)]:=rfl
    have b2:bq c (some e)=e.1:=rfl
    exists b1,b0,b2,j8 (show noL (tC e.1)=true from B7 e.1)
def jf {l:List Int} {k:Nat} (h:k<l.length):(l.map some).getD k none=some (l.getD k 0):=by
 rw [qA0,qB5,qB2 h,qA0,qB2 h]; rfl
def si {cs ds:Cap} (h:j3 cs ds=true) {k:Nat} (hk:k<cs.length):A9 (cs.getD k none) (ds.getD k none)=true:=by
 unfold j3 at h
 exact qF6.mp h k (by simpa using hk)
def pq (x:Option Int):A9 x x=true:=by
 cases x with
 | none=>rfl
 | some a=>exact decide_eq_true (qF9 a)
def jy {α:Type} (n k:Nat) (f:Nat->α) (d:α) (h:k<n):((List.range n).map f).getD k d=f k:=by
 rw [qA0,qB5,qL3 h]; rfl
def wm (x e:Cap):j3 x (C0 x e)=true:=by
 unfold C0
 by_cases h:j3 e x=true
 ·rw [qA1 h]
  refine eU fun k hk=>?_
  rw [jy _ _ _ _ hk]
  unfold bR
  by_cases q:x.getD k none=e.getD k none
  ·rw [qA1 q]; exact pq _
  ·rw [qA3 q]; rfl
 ·rw [qA3 h]; exact Q3 x
def pk (c:Cap) (es:List GEnt):∀ (l:List Nat) (x:Cap),j3 x (upC c es l x)=true
 | [],x=>Q3 x
 | q::l,x=>Z5 (eD x (sC c es q)).symm (ax c es l (C0 x (sC c es q))).symm (wm x (sC c es q)) (pk c es l (C0 x (sC c es q)))
def jd {c:Cap} {es:List GEnt} {t:Cap} (h:t∈stC c es):∃ a,a<=es.length/\t=sC c es a:=by
 obtain ⟨a,ha,ea⟩:=qG3.mp h
 refine ⟨a,by rw [W1] at ha; omega,?_⟩
 unfold sC
 rw [qA0,qB2 ha,ea]; rfl
def vM {ms:List Mv} {m:Mv} (h:m∈ms):∃ k,k<ms.length/\m=mvN ms k:=by
 obtain ⟨k,hk,ek⟩:=qG3.mp h
 refine ⟨k,hk,?_⟩
 unfold mvN
 rw [qA0,qB2 hk,ek]; rfl
def su {c:Cap} {ms:List Mv} {es:List GEnt} {t:Cap} {m:Mv} (hK:GK c ms es (es.length+1) 0) (ht:t∈stC c es) (hm:m∈ms) (Gp:U7 t m=true):∃ d∈stC c es,j3 (F0 t m) d=true:=by
 obtain ⟨a,ha,rfl⟩:=jd ht
 obtain ⟨k,hk,rfl⟩:=vM hm
 have hl:=T9 hK.len ha
 have h1:j3 (F0 (sC c es a) (mvN ms k)) (r6 c ms es a k)=true:=pk c es (w9 es a) _
 rcases hK.set a k (by omega) hk Gp with ⟨e,he,q⟩ | ⟨j,hj,_,h2⟩
 ·obtain ⟨i,hi,ei⟩:=qG3.mp he
  have:=(hK.beh i e (by rw [qB2 hi,ei])).2.1
  rw [q] at this
  refine ⟨e.1,qA8 _ (qB4.mpr ⟨e,he,rfl⟩),?_⟩
  rw [this]; exact h1
 ·exact ⟨_,ju hj,Z5 (by rw [Z4,aj]) (by rw [aj,hl]; exact (T9 hK.len hj).symm) h1 h2⟩
def Q4 {c:Cap} {ms:List Mv} {es:List GEnt} {A kk:Nat} (hK:GK c ms es A kk):∀ d∈stC c es,d.length=c.length:=fun d hd=>by
 obtain ⟨a,ha,rfl⟩:=jd hd
 exact T9 hK.len ha
def atO {cs:List (Option Int)} {k:Nat} (h:k<cs.length):L2.atI (cs.map oW) (k:Int)=some (oW (cs.getD k none)):=cF (by rw [qB5,qA0,qB2 h]; rfl)
def mvD (m:Mv) (p:Nat):Int:=m.2.getD p 0-m.1.getD p 0
def dsp (ms:List Mv):List Nat->Nat->Int
 | [],_=>0
 | k::r,p=>mvD (mvN ms k) p+dsp ms r p
def gos (n:Nat) (ms:List Mv):List Nat->(Nat->Int)->Prop
 | [],_=>True
 | k::r,s=>k<ms.length/\(∀ p,p<n->(mvN ms k).1.getD p 0<=s p)/\gos n ms r fun p=>s p+mvD (mvN ms k) p
section
variable {n:Nat} {ms:List Mv}
def N3:∀ (r:List Nat) (s t:Nat->Int),(∀ p,p<n->s p<=t p)->gos n ms r s->gos n ms r t
 | [],_,_,_,_=>trivial
 | k::r,s,t,h,⟨h1,h2,h3⟩=>⟨h1,fun p hp=>qM0 (h2 p hp) (h p hp),N3 r _ _ (fun p hp=>by have:=h p hp; show s p+_<=t p+_; omega) h3⟩
def dm (q:List Nat) (p:Nat):∀ r:List Nat,dsp ms (r++q) p=dsp ms r p+dsp ms q p
 | []=>by show dsp ms q p=0+dsp ms q p; omega
 | k::r=>by
  show mvD (mvN ms k) p+dsp ms (r++q) p=mvD (mvN ms k) p+dsp ms r p+dsp ms q p
  rw [dm q p r]; omega
def dg (q:List Nat):∀ (r:List Nat) (s:Nat->Int),gos n ms r s->gos n ms q (fun p=>s p+dsp ms r p)->gos n ms (r++q) s
 | [],s,_,h=>N3 q _ s (fun p _=>by show s p+0<=s p; omega) h
 | k::r,s,⟨h1,h2,h3⟩,h=>⟨h1,h2,dg q r _ h3 (N3 q _ _ (fun p _=>by show s p+(mvD (mvN ms k) p+dsp ms r p)<=s p+mvD (mvN ms k) p+dsp ms r p; omega) h)⟩
def bQ (r:List Nat):Nat->List Nat
 | 0=>[]
 | k+1=>r++bQ r k
def mX (r:List Nat) (p:Nat):∀ k:Nat,dsp ms (bQ r k) p=(k:Int)*dsp ms r p
 | 0=>by show (0:Int)=((0:Nat):Int)*_; simp
 | k+1=>by
  show dsp ms (r++bQ r k) p=_
  rw [dm,mX r p k]
  push_cast
  rw [Int.add_mul]; omega
def mU (r:List Nat):∀ (k:Nat) (s:Nat->Int),(∀ j:Nat,j<k->gos n ms r fun p=>s p+(j:Int)*dsp ms r p)->gos n ms (bQ r k) s
 | 0,_,_=>trivial
 | k+1,s,h=>by
  refine dg _ r s (N3 r _ s (fun p _=>by simp) (h 0 (by omega))) (mU r k _ fun j hj=>N3 r _ _ (fun p _=>?_) (h (j+1) (by omega)))
  push_cast
  rw [Int.add_mul]; omega
end
def bnd (g:Nat->Int):∀ n:Nat,∃ B:Int,0<=B/\∀ p,p<n->g p<=B
 | 0=>⟨0,qF9 0,fun p hp=>absurd hp (qE7 _)⟩
 | n+1=>by
  obtain ⟨B,h0,hB⟩:=bnd g n
  refine ⟨max B (g n),by omega,fun p hp=>?_⟩
  by_cases e:p=n
  ·subst e; omega
  ·have:=hB p (by omega); omega
def o7 (c:Cap) (N:Int) (p:Nat):Int:=(c.getD p none).getD N
def Ef (n:Nat) (N:Int) (c:Cap) (s:Nat->Int):Prop:=∀ p,p<n->(∀ v,c.getD p none=some v->s p=v)/\(c.getD p none=none->N<=s p)
def Rz (n:Nat) (ms:List Mv) (x c:Cap):Prop:=∀ N:Int,∃ (N0:Int) (r:List Nat),gos n ms r (o7 x N0)/\Ef n N c fun p=>o7 x N0 p+dsp ms r p
section
variable {n:Nat} {ms:List Mv} {x c e:Cap}
def Rz.refl (c:Cap):Rz n ms c c:=fun N=>⟨N,[],trivial,fun p _=>⟨fun v h=>by show o7 c N p+0=v; unfold o7; rw [h]; simp,fun h=>by show N<=o7 c N p+0; unfold o7; rw [h]; simp⟩⟩
def pp {a b:Cap} (h:j3 a b=true) {p:Nat} (hp:p<a.length):A9 (a.getD p none) (b.getD p none)=true:=by
 unfold j3 at h
 rw [qF6] at h
 exact h p (by simpa using hp)
def Rz.aft {k:Nat} (h:Rz n ms x c) (hk:k<ms.length) (hl:c.length=n) (hm:(mvN ms k).1.length=n) (ha:U7 c (mvN ms k)=true):Rz n ms x (F0 c (mvN ms k)):=fun N=>by
 obtain ⟨B1,b1,hB1⟩:=bnd (fun p=>(mvN ms k).1.getD p 0) n
 obtain ⟨B2,b2,hB2⟩:=bnd (fun p =>-mvD (mvN ms k) p) n
 obtain ⟨MN,n0,n1⟩:∃ x:Int,0<=x/\N<=x:=⟨max N 0,Int.le_max_right _ _,Int.le_max_left _ _⟩
 obtain ⟨N0,r,hg,hr⟩:=h (MN+B1+B2)
 refine ⟨N0,r ++ [k],dg _ r _ hg ⟨hk,fun p hp=>?_,trivial⟩,fun p hp=>?_⟩
 ·obtain ⟨h1,h2⟩:(∀ v,c.getD p none=some v->o7 x N0 p+dsp ms r p=v)/\(c.getD p none=none->MN+B1+B2<=o7 x N0 p+dsp ms r p):=hr p hp
  have hu:=pp ha (p:=p) (by rw [qA5,hm]; exact hp)
  have e1:((mvN ms k).1.map some).getD p none=some ((mvN ms k).1.getD p 0):=by
   rw [qA0,qB5,qA0,qB2 (by omega)]; rfl
  rw [e1] at hu
  show (mvN ms k).1.getD p 0<=o7 x N0 p+dsp ms r p
  cases q:c.getD p none with
  | some v=>
   rw [q] at hu
   have hu:(mvN ms k).1.getD p 0<=v:=of_decide_eq_true hu
   rw [h1 v q]; exact hu
  | none=>
   have:=h2 q
   have:(mvN ms k).1.getD p 0<=B1:=hB1 p hp
   omega
 ·obtain ⟨h1,h2⟩:(∀ v,c.getD p none=some v->o7 x N0 p+dsp ms r p=v)/\(c.getD p none=none->MN+B1+B2<=o7 x N0 p+dsp ms r p):=hr p hp
  show (∀ v,(F0 c (mvN ms k)).getD p none=some v->o7 x N0 p+dsp ms (r ++ [k]) p=v)/\((F0 c (mvN ms k)).getD p none=none->N<=o7 x N0 p+dsp ms (r ++ [k]) p)
  have ed:dsp ms (r ++ [k]) p=dsp ms r p+mvD (mvN ms k) p:=by
   rw [dm]
   show _+(mvD (mvN ms k) p+0)=_
   omega
  have ea:(F0 c (mvN ms k)).getD p none=(c.getD p none).map fun x=>x+mvD (mvN ms k) p:=by
   unfold F0 mvD
   rw [qA0,qB5,qL3 (by omega)]; rfl
  rw [ea,ed]
  refine ⟨fun v hv=>?_,fun hv=>?_⟩
  ·cases q:c.getD p none with
   | none=>rw [q] at hv; cases hv
   | some u=>
    rw [q] at hv
    have:=h1 u q
    have hv:u+mvD (mvN ms k) p=v:=Option.some.inj hv
    omega
  ·cases q:c.getD p none with
   | some u=>rw [q] at hv; cases hv
   | none=>
    have h2:=h2 q
    have :-mvD (mvN ms k) p<=B2:=hB2 p hp
    omega
def Rz.rai (h:Rz n ms x c) (he:Rz n ms e c) (hl:c.length=n) (Lq:e.length=n):Rz n ms x (C0 c e):=by
 by_cases hu:¬ j3 e c=true
 ·unfold C0
  rw [qA3 hu]; exact h
 have hu:j3 e c=true:=by simpa using hu
 intro N
 obtain ⟨L1,l1,hL1⟩:=bnd (fun p=>(e.getD p none).getD 0) n
 obtain ⟨U,u0,hU⟩:=bnd (fun p =>-(c.getD p none).getD 0) n
 obtain ⟨Ne,rl,JU,Ig⟩:=he (L1+1)
 obtain ⟨D,d0,hD⟩:=bnd (fun p =>-dsp ms rl p) n
 obtain ⟨MN,n0,n1⟩:∃ x:Int,0<=x/\N<=x:=⟨max N 0,Int.le_max_right _ _,Int.le_max_left _ _⟩
 obtain ⟨ME,e0,e1⟩:∃ x:Int,0<=x/\Ne<=x:=⟨max Ne 0,Int.le_max_right _ _,Int.le_max_left _ _⟩
 obtain ⟨k,hk⟩:∃ k:Nat,(k:Int)=MN+U:=⟨(MN+U).toNat,Int.toNat_of_nonneg (Int.add_nonneg n0 u0)⟩
 have kD:0<=(k:Int)*D:=qG7 (by omega) d0
 obtain ⟨Nx,r1,hg1,hr1⟩:=h (MN+ME+L1+1+(k:Int)*D)
 -- how the loop moves each place
 have mv:∀ p,p<n->(∃ v u,e.getD p none=some v/\c.getD p none=some u/\v<=u/\v+dsp ms rl p=u)\/(∃ v,e.getD p none=some v/\c.getD p none=none/\1<=dsp ms rl p/\v<=L1)\/(e.getD p none=none/\c.getD p none=none):=fun p hp=>by
  have Kv:=pp hu (p:=p) (by omega)
  obtain ⟨g1,g2⟩:(∀ v,c.getD p none=some v->o7 e Ne p+dsp ms rl p=v)/\(c.getD p none=none->L1+1<=o7 e Ne p+dsp ms rl p):=Ig p hp
  cases q:e.getD p none with
  | none=>
   cases q2:c.getD p none with
   | none=>exact .inr (.inr ⟨rfl,rfl⟩)
   | some u=>rw [q,q2] at Kv; cases Kv
  | some v=>
   have II:o7 e Ne p=v:=by unfold o7; rw [q]; rfl
   have hL:(e.getD p none).getD 0<=L1:=hL1 p hp
   rw [q] at hL
   have hL:v<=L1:=hL
   cases q2:c.getD p none with
   | none=>
    have g2:=g2 q2
    rw [II] at g2
    exact .inr (.inl ⟨v,rfl,rfl,by omega,hL⟩)
   | some u=>
    have g1:=g1 u q2
    rw [II] at g1
    rw [q,q2] at Kv
    exact .inl ⟨v,u,rfl,rfl,of_decide_eq_true Kv,g1⟩
 refine ⟨Nx,r1++bQ rl k,dg _ r1 _ hg1 (mU rl k _ fun j hj=>N3 rl _ _ (fun p hp=>?_) JU),fun p hp=>?_⟩
 ·obtain ⟨g1,g2⟩:(∀ v,c.getD p none=some v->o7 x Nx p+dsp ms r1 p=v)/\(c.getD p none=none->MN+ME+L1+1+(k:Int)*D<=o7 x Nx p+dsp ms r1 p):=hr1 p hp
  have Kc :-dsp ms rl p<=D:=hD p hp
  show o7 e Ne p<=o7 x Nx p+dsp ms r1 p+(j:Int)*dsp ms rl p
  have j0:(0:Int)<=(j:Int):=by omega
  have jk:(j:Int)*D<=(k:Int)*D:=Int.mul_le_mul_of_nonneg_right (by omega) d0
  rcases mv p hp with ⟨v,u,q1,q2,h1,h2⟩ | ⟨v,q1,q2,h1,h2⟩ | ⟨q1,q2⟩
  ·have:=g1 u q2
   have hj:=qG7 j0 (show 0<=dsp ms rl p by omega)
   have II:o7 e Ne p=v:=by unfold o7; rw [q1]; rfl
   rw [II]; omega
  ·have:=g2 q2
   have hj:=qG7 j0 (show 0<=dsp ms rl p by omega)
   have II:o7 e Ne p=v:=by unfold o7; rw [q1]; rfl
   rw [II]; omega
  ·have:=g2 q2
   have hj:(j:Int)*(-D)<=(j:Int)*dsp ms rl p:=Int.mul_le_mul_of_nonneg_left (by omega) j0
   rw [Int.mul_neg] at hj
   have II:o7 e Ne p=Ne:=by unfold o7; rw [q1]; rfl
   rw [II]; omega
 ·obtain ⟨g1,g2⟩:(∀ v,c.getD p none=some v->o7 x Nx p+dsp ms r1 p=v)/\(c.getD p none=none->MN+ME+L1+1+(k:Int)*D<=o7 x Nx p+dsp ms r1 p):=hr1 p hp
  have Kc :-dsp ms rl p<=D:=hD p hp
  have Lv :-(c.getD p none).getD 0<=U:=hU p hp
  show (∀ v,(C0 c e).getD p none=some v->o7 x Nx p+dsp ms (r1++bQ rl k) p=v)/\((C0 c e).getD p none=none->N<=o7 x Nx p+dsp ms (r1++bQ rl k) p)
  have k0:(0:Int)<=(k:Int):=by omega
  have ed:dsp ms (r1++bQ rl k) p=dsp ms r1 p+(k:Int)*dsp ms rl p:=by rw [dm,mX]
  have er:(C0 c e).getD p none=bR (c.getD p none) (e.getD p none):=by
   unfold C0
   rw [qA1 hu,qA0,qB5,qL3 (by omega)]; rfl
  rw [er,ed]
  rcases mv p hp with ⟨v,u,q1,q2,h1,h2⟩ | ⟨v,q1,q2,h1,h2⟩ | ⟨q1,q2⟩
  ·have g1:=g1 u q2
   rw [q1,q2]
   unfold bR
   by_cases euv:u=v
   ·subst euv
    have hz:dsp ms rl p=0:=by omega
    rw [qA1 rfl,hz]
    exact ⟨(fun w hw=>by have hw:=Option.some.inj hw; omega),(fun hw=>by cases hw)⟩
   ·rw [qA3 (fun z=>euv (Option.some.inj z))]
    refine ⟨(fun w hw=>by cases hw),fun _=>?_⟩
    have hj:(k:Int)*1<=(k:Int)*dsp ms rl p:=Int.mul_le_mul_of_nonneg_left (by omega) k0
    rw [q2] at Lv
    have Lv:-u<=U:=Lv
    omega
  ·have g2:=g2 q2
   rw [q1,q2]
   unfold bR
   rw [qA3 (fun z=>by cases z)]
   refine ⟨(fun w hw=>by cases hw),fun _=>?_⟩
   have hj:=qG7 k0 (show 0<=dsp ms rl p by omega)
   omega
  ·have g2:=g2 q2
   rw [q1,q2]
   unfold bR
   rw [qA1 rfl]
   refine ⟨(fun w hw=>by cases hw),fun _=>?_⟩
   have hj:(k:Int)*(-D)<=(k:Int)*dsp ms rl p:=Int.mul_le_mul_of_nonneg_left (by omega) k0
   rw [Int.mul_neg] at hj
   omega
end
section
variable {c:Cap} {ms:List Mv} {es:List GEnt} {A kk:Nat}
def pj {n:Nat} {S:List Nat}:∀ (l:List Nat) (x:Cap),(∀ q∈l,q∈S)->(∀ q∈S,(sC c es q).length=n)->x.length=n->(∀ q∈S,Rz n ms (sC c es q) x)->∀ q∈S,Rz n ms (sC c es q) (upC c es l x)
 | [],_,_,_,_,h=>h
 | a::l,x,hl,hn,hx,h=>by
  show ∀ q∈S,Rz n ms (sC c es q) (upC c es l (C0 x (sC c es a)))
  have ha:=hl a qB6
  exact pj l _ (fun q hq=>hl q (qA8 _ hq)) hn (by rw [eD]; exact hx) fun q hq=>(h q hq).rai (h a ha) hx (hn a ha)
def GK.rz (h:GK c ms es A kk) (hm:∀ m∈ms,m.1.length=c.length):∀ j,j<=es.length->∀ i∈w9 es j,Rz c.length ms (sC c es i) (sC c es j):=by
 intro j
 induction j using Nat.strongRecOn with
 | _ j ih=>
  intro hj i hi
  cases j with
  | zero=>rw [iT] at hi; rw [qD8.mp hi]; exact .refl _
  | succ j=>
   have he:es[j]?=some es[j]:=qB2 (by omega)
   have hp:=h.par j _ he
   rw [N9 h.par he] at hi
   rcases qB3.mp hi with rfl | hi
   ·exact .refl _
   obtain ⟨Gp,Iu,_⟩:=h.beh j _ he
   have hk:=h.k8 _ (qG2 he)
   have hle:=(cJ h.par es[j].2.1 (by omega)).1
   have hlen:∀ q∈w9 es es[j].2.1,(sC c es q).length=c.length:=fun q hq=>T9 h.len (by have:=hle q hq; omega)
   have HN:(mvN ms es[j].2.2).1.length=c.length:=hm _ (by unfold mvN; rw [qA0,qB2 hk]; exact qG4 _)
   have hla:=T9 h.len (a:=es[j].2.1) (by omega)
   rw [pR he,Iu]
   unfold r6
   exact pj _ _ (fun q hq=>hq) hlen (by rw [Z4]; exact hla) (fun q hq=>(ih es[j].2.1 (by omega) (by omega) q hq).aft hk hla HN Gp) i hi
def se (hp:av es):∀ j,j<=es.length->0∈w9 es j:=by
 intro j
 induction j using Nat.strongRecOn with
 | _ j ih=>
  intro hj
  cases j with
  | zero=>rw [iT]; exact qD8.mpr rfl
  | succ j=>
   have he:es[j]?=some es[j]:=qB2 (by omega)
   have:=hp j _ he
   rw [N9 hp he]
   exact qA8 _ (ih es[j].2.1 (by omega) (by omega))
end
def cM {x:Int} {o:Option Int} (h:∀ y,o=some y->x<=y):A9 (some x) o=true:=by
 cases o with
 | none=>rfl
 | some y=>exact decide_eq_true (h y rfl)
def dU {x:Int} {o:Option Int} (h:A9 (some x) o=true):∀ y,o=some y->x<=y:=fun y e=>by
 subst e; exact of_decide_eq_true h
def DO {c:Cap} {m:Mv} {p:Nat} (h:p<c.length):(F0 c m).getD p none=(c.getD p none).map fun x=>x+mvD m p:=by
 unfold F0 mvD
 rw [jy _ _ _ _ h]
def mF {ms:List Mv} {k:Nat} (h:k<ms.length):mvN ms k∈ms:=by
 unfold mvN; rw [qA0,qB2 h]; exact qG4 _
def kP {c:Cap} {ms:List Mv} {es:List GEnt} (hK:GK c ms es (es.length+1) 0) (HW:∀ m∈ms,m.1.length=c.length):∀ (r:List Nat) (s:Nat->Int) (d:Cap),d∈stC c es->(∀ p,p<c.length->A9 (some (s p)) (d.getD p none)=true)->gos c.length ms r s->∃ d'∈stC c es,∀ p,p<c.length->A9 (some (s p+dsp ms r p)) (d'.getD p none)=true
 | [],s,d,hd,h,_=>⟨d,hd,fun p hp=>by show A9 (some (s p+0)) _=true; rw [Int.add_zero]; exact h p hp⟩
 | k::r,s,d,hd,h,⟨h1,h2,h3⟩=>by
  have hm:=mF h1
  have hl:=HW _ hm
  have KF:=Q4 hK d hd
  have Gp:U7 d (mvN ms k)=true:=eU fun p hp=>by
   rw [qA5] at hp
   rw [jf hp]
   refine cM fun y e=>?_
   have a:=h2 p (by omega)
   have b:=dU (h p (by omega)) y e
   omega
  obtain ⟨d1,hd1,hu⟩:=su hK hd hm Gp
  obtain ⟨d2,hd2,h4⟩:=kP hK HW r (fun p=>s p+mvD (mvN ms k) p) d1 hd1 (fun p hp=>by
   have:=si hu (k:=p) (by rw [Z4]; omega)
   rw [DO (by omega)] at this
   refine cM fun y e=>?_
   rw [e] at this
   cases q:d.getD p none with
   | none=>rw [q] at this; cases this
   | some x=>
    rw [q] at this
    have t:x+mvD (mvN ms k) p<=y:=of_decide_eq_true this
    have b:=dU (h p hp) x q
    omega) h3
  refine ⟨d2,hd2,fun p hp=>?_⟩
  have:=h4 p hp
  rw [show s p+dsp ms (k::r) p=s p+mvD (mvN ms k) p+dsp ms r p from by show s p+(mvD (mvN ms k) p+dsp ms r p)=_; omega]
  exact this
def mm {n:Nat} {ms Im:List Mv} (hs:∀ m∈ms,m∈Im):∀ (r:List Nat) (s:Nat->Int),gos n ms r s->∃ r',gos n Im r' s/\∀ p,dsp Im r' p=dsp ms r p
 | [],_,_=>⟨[],trivial,fun _=>rfl⟩
 | k::r,s,⟨h1,h2,h3⟩=>by
  obtain ⟨j,hj,e⟩:=vM (hs _ (mF h1))
  obtain ⟨r',g1,g2⟩:=mm hs r _ h3
  rw [e] at h2 g1
  refine ⟨j::r',⟨hj,h2,g1⟩,fun p=>?_⟩
  show mvD (mvN Im j) p+dsp Im r' p=mvD (mvN ms k) p+dsp ms r p
  rw [g2,e]
def lh (n:Nat):∀ l:List Cap,∃ N:Int,∀ d∈l,∀ p,p<n->∀ v,d.getD p none=some v->v<N
 | []=>⟨0,fun d h=>(nomatch h)⟩
 | c::l=>by
  obtain ⟨N,h⟩:=lh n l
  obtain ⟨B,_,hB⟩:=bnd (fun p=>(c.getD p none).getD 0) n
  refine ⟨max N (B+1),fun d hd p hp v e=>?_⟩
  rcases qB3.mp hd with rfl | q
  ·have:(d.getD p none).getD 0<=B:=hB p hp
   rw [e] at this
   have:v<=B:=this
   omega
  ·have:=h d q p hp v e
   omega
def vd {b b':List Int} {ms Im:List Mv} {es Iv:List GEnt} {A kk:Nat} (hK:GK (b.map some) ms es A kk) (Jx:GK (b'.map some) Im Iv (Iv.length+1) 0) (hl:b'.length=b.length) (hle:∀ p,p<b.length->b.getD p 0<=b'.getD p 0) (hs:∀ m∈ms,m∈Im) (KC:∀ m∈Im,m.1.length=b.length):∀ c∈stC (b.map some) es,∃ d∈stC (b'.map some) Iv,j3 c d=true:=by
 intro c hc
 obtain ⟨j,hj,rfl⟩:=jd hc
 have HF:(b.map some).length=b.length:=qA5 ..
 have Hd:(b'.map some).length=b.length:=by rw [qA5,hl]
 obtain ⟨N,hN⟩:=lh b.length (stC (b'.map some) Iv)
 obtain ⟨N0,r,hg,hr⟩:=hK.rz (by rw [HF]; exact fun m h=>KC m (hs m h)) j hj 0 (se hK.par j hj) N
 rw [HF] at hg hr
 have h0:sC (b.map some) es 0=b.map some:=rfl
 have GP:∀ p,p<b.length->o7 (sC (b.map some) es 0) N0 p=b.getD p 0:=fun p hp=>by unfold o7; rw [h0,jf hp]; rfl
 obtain ⟨r',g1,g2⟩:=mm hs r _ (N3 r _ (fun p=>b'.getD p 0) (fun p hp=>by rw [GP p hp]; exact hle p hp) hg)
 obtain ⟨d,hd,hu⟩:=kP Jx (by rw [Hd]; exact KC) r' (fun p=>b'.getD p 0) (b'.map some) qB6 (fun p hp=>by
  rw [Hd] at hp
  rw [jf (by omega)]; exact cM fun y e=>by injection e with e; omega) (by rw [Hd]; exact g1)
 refine ⟨d,hd,eU fun p hp=>?_⟩
 rw [Q4 hK _ hc,HF] at hp
 obtain ⟨r1,r2⟩:(∀ v,(sC (b.map some) es j).getD p none=some v->o7 (sC (b.map some) es 0) N0 p+dsp ms r p=v)/\((sC (b.map some) es j).getD p none=none->N<=o7 (sC (b.map some) es 0) N0 p+dsp ms r p):=hr p hp
 rw [GP p hp] at r1 r2
 have u:=hu p (by rw [Hd]; exact hp)
 rw [g2] at u
 have u:=dU u
 have l0:=hle p hp
 cases q:(sC (b.map some) es j).getD p none with
 | none=>
  cases q2:d.getD p none with
  | none=>rfl
  | some v=>
   have a:=hN d hd p hp v q2
   have b1:=u v q2
   have c1:=r2 q
   omega
 | some v=>
  refine cM fun y e=>?_
  have a:=u y e
  have b1:=r1 v q
  omega
def DY {k:Int} (h0:0<=k) (h1:k<=1000):0<=k*k/\k*k<=1000000:=⟨qG7 h0 h0,qM0 (Int.mul_le_mul h1 h1 h0 (by omega)) (by omega)⟩
def small {z:Int} (h:-18446744073709551616<z/\z<18446744073709551616):Builtin.Int.intBits z<=64:=intBits_le_64 (by omega) (by omega)
def y9 {ns:List Int} (hb:∀ x∈ns,Builtin.Int.intBits x<=1048576) {k:Int} (h0:0<=k) (h1:k<=1000):Ok (i9 [.scr (ns.map W.int),.int k]) fun w=>∃ z:Int,w=.int z:=by
 have Ln:=DY h0 h1
 by_cases h:k<(ns.length:Int)
 ·exists rpB,S5,decide_eq_true h
  exact ⟨_,rfl,_,rfl⟩
 ·by_cases hl:0<(ns.length:Int)
  ·have m0:0<=k*59%(ns.length:Int):=Int.emod_nonneg _ (by omega)
   have m1:k*59%(ns.length:Int)<(ns.length:Int):=Int.emod_lt_of_pos _ hl
   have hz:=memD (P:=fun x=>Builtin.Int.intBits x<=1048576) hb (i:=(k*59%(ns.length:Int)).toNat) (by omega)
   exists rpB,S5,decide_eq_false h,decide_eq_true hl
   generalize ns.getD (k*59%(ns.length:Int)).toNat 0=z at *
   have b1:=intBits_mul_le hz (small (z:=27611) (by omega))
   have b2:Builtin.Int.intBits (k*k*3023)<=64:=small (by omega)
   have b3:=intBits_add_le b1 b2
   have b4:=intBits_add_le b3 (small (z:=7) (by omega))
   have b5:Builtin.Int.intBits (z*27611+k*k*3023+7)+Builtin.Int.intBits (z*27611+k*k*3023+7)<=134217728:=by omega
   exists rp18
   exact ⟨_,rfl,_,rfl⟩
  ·exists rpB,S5,decide_eq_false h,decide_eq_false hl
   exact ⟨_,rfl,_,rfl⟩
def da {xs:List Int} {z:Int} (h:nn xs) (hz:0<=z):nn (xs ++ [z]):=fun x hx=>by
 rcases qD9.mp hx with q | q
 ·exact h x q
 ·rw [qD8.mp q]; exact hz
def m6 {d:Int} (h0:0<=d) (h:d<6):∃ z:Int,L2.atI [W.int 0,W.int 1,W.int 0,W.int 0,W.int 1,W.int 2] d=some (.int z)/\0<=z/\z<=2:=by
 have:d=0\/d=1\/d=2\/d=3\/d=4\/d=5:=by omega
 rcases this with rfl | rfl | rfl | rfl | rfl | rfl
 all_goals exact ⟨_,rfl,by omega⟩
def m7 {d:Int} (h0:0<=d) (h:d<7):∃ z:Int,L2.atI [W.int 0,W.int 1,W.int 0,W.int 0,W.int 1,W.int 2,W.int 0] d=some (.int z)/\0<=z/\z<=2:=by
 have:d=0\/d=1\/d=2\/d=3\/d=4\/d=5\/d=6:=by omega
 rcases this with rfl | rfl | rfl | rfl | rfl | rfl | rfl
 all_goals exact ⟨_,rfl,by omega⟩
def vS (b:Bool):∃ z:Int,fInt [.bl b]=.ok (.int z)/\0<=z/\z<=1:=by
 cases b
 ·exact ⟨0,rfl,by omega⟩
 ·exact ⟨1,rfl,by omega⟩
def pn {f:Nat->Int->Prop} {n:Nat} {zs:List Int} (h:Paired f (List.range n) zs) (hp:∀ k z,f k z->0<=z):nn zs/\zs.length=n:=by
 refine ⟨fun z hz=>?_,by have:=Paired.length h; simpa using this.symm⟩
 have:∀ (l:List Nat) (zs:List Int),Paired f l zs->∀ z∈zs,0<=z:=fun l zs q=>by
  induction q with
  | nil=>intro z hz; cases hz
  | cons r _ ih=>
   intro z hz
   rcases qB3.mp hz with rfl | hz
   ·exact hp _ _ r
   ·exact ih z hz
 exact this _ _ h z hz
def xo {ns:List Int} (hb:∀ x∈ns,Builtin.Int.intBits x<=1048576) {a f:Int} {n:Nat} {pl:Bool} (h1:1<=n) (h6:n<=6) (a0:0<=a) (a1:a<=200) (hf:0<=f/\f<=100000001):Ok (aq [.scr (ns.map W.int),.int a,.int (n:Int),.bl pl,.int f]) fun w=>∃ m:Mv,w=mW m/\okN n m:=by
 exists rpB,dO
 refine o5 (v8 (fun i ρ=>∃ (xs ys:List Int) (a7 a8:Sl),ρ = [.par (.scr (ns.map W.int)),.par (.int a),.par (.int (n:Int)),.par (.bl pl),.par (.int f),.own (xs.map W.int),.own (ys.map W.int),a7,a8,.un,.un]/\xs.length=i/\ys.length=i/\nn xs/\nn ys) ⟨[],[],_,_,rfl,rfl,rfl,fun x h=>(nomatch h),fun x h=>(nomatch h)⟩ ?_ ?_)
 ·rintro i u ρ hu ⟨xs,ys,a7,a8,rfl,HB,hyl,hx,hy⟩
  obtain ⟨hi,rfl⟩:=W9 hu
  obtain ⟨_,e1,c,rfl⟩:=y9 hb (k:=a+(i:Int)) (by omega) (by omega)
  obtain ⟨z6,e6,z60,z61⟩:=m6 (d:=c%6) (by omega) (by omega)
  obtain ⟨z7,e7,z70,z71⟩:=m7 (d:=c/6%7) (by omega) (by omega)
  have p6:0<=z6*f:=qG7 z60 hf.1
  have p7:0<=z7*f:=qG7 z70 hf.1
  refine ⟨_,rfl,?_⟩
  exists e1,e6,e7
  exact ⟨xs ++ [z6*f],ys ++ [z7*f],_,_,by rw [qD1,qD1],by simp [HB],by simp [hyl],da hx p6,da hy p7⟩
 ·rintro ρ ⟨xs,ys,a7,a8,rfl,HB,hyl,hx,hy⟩
  rw [qA5,qF1] at HB hyl
  refine bW (fun ρ=>∃ (xs ys:List Int) (a7 a8 a9 b1:Sl),ρ = [.par (.scr (ns.map W.int)),.par (.int a),.par (.int (n:Int)),.par (.bl pl),.par (.int f),.own (xs.map W.int),.own (ys.map W.int),a7,a8,a9,b1]/\xs.length=n/\ys.length=n/\nn xs/\nn ys) ?_ ?_
  ·cases pl
   ·exists rp18
    exact ⟨xs,ys,_,_,_,_,rfl,HB,hyl,hx,hy⟩
   ·obtain ⟨_,e1,c,rfl⟩:=y9 hb (k:=a) (by omega) (by omega)
    obtain ⟨_,e2,d,rfl⟩:=y9 hb (k:=a+1) (by omega) (by omega)
    exists e1,e2
    refine cU ?_
    refine gB (fun _ z=>0<=z) (by simp; omega) ?_ ?_
    ·intro j hj
     obtain ⟨z,ez,z0,z1⟩:=vS (decide ((j:Int)=c/42%(n:Int)))
     refine ⟨_,rfl,?_⟩
     exists ez
     exact ⟨_,rfl,_,rfl,qG7 z0 hf.1⟩
    intro us hu
    obtain ⟨IT,hul⟩:=pn hu fun _ _ h=>h
    exists rp18
    refine qk ?_
    refine gB (fun _ z=>0<=z) (by simp; omega) ?_ ?_
    ·intro j hj
     obtain ⟨z,ez,z0,z1⟩:=vS (decide ((j:Int)=d/42%(n:Int)))
     have q0:0<=z*(1+c/42%(n:Int)%2):=qG7 z0 (by omega)
     refine ⟨_,rfl,?_⟩
     exists ez
     exact ⟨_,rfl,_,rfl,qG7 q0 hf.1⟩
    intro vs hv
    obtain ⟨hv0,Ld⟩:=pn hv fun _ _ h=>h
    exists rp18
    exact ⟨us,vs,_,_,_,_,rfl,hul,Ld,IT,hv0⟩
  rintro ρ ⟨xs,ys,a7,a8,a9,b1,rfl,HB,hyl,hx,hy⟩
  exists rp18
  exact ⟨(xs,ys),rfl,HB,hyl,hx,hy⟩
def df {a b:List Int} (h6:a.length<=6) (hl:b.length=a.length):A8 [tI a,tI b]=.ok (.bl (h9 a b)):=by
 have fin:Ok (A8 [tI a,tI b]) fun v=>v=.bl (h9 a b):=by
  exists rpB,bD
  refine o5 (v8 (fun i ρ=>∃ x,ρ = [.par (tI a),.par (tI b),x]/\∀ k,k<i->b.getD k 0<=a.getD k 0) ⟨_,rfl,fun k hk=>absurd hk (qE7 _)⟩ ?_ ?_)
  ·rintro i u ρ hu ⟨x,rfl,Gh⟩
   obtain ⟨hi,rfl⟩:=W9 hu
   refine ⟨_,rfl,?_⟩
   exists rp18
   refine V0 (fun h=>?_) (fun h=>?_)
   ·have h:=of_decide_eq_true h
    exists vU hi h
   ·have h:=of_decide_eq_false h
    exists rp18
    refine ⟨_,rfl,fun k hk=>?_⟩
    by_cases e:k=i
    ·subst e; omega
    ·exact Gh k (by omega)
  ·rintro ρ ⟨x,rfl,Gh⟩
   rw [qA5,qF1] at Gh
   exists oz Gh
 obtain ⟨v,e,rfl⟩:=fin
 exact e
def fC {s:List Int} {m:Mv} (h6:s.length<=6) (hm:okM s.length m):M8 [tI s,mW m]=.ok (tI (t8 s m)):=by
 have a0:L2.atI [tI m.1,tI m.2] 0=some (tI m.1):=rfl
 have a1:L2.atI [tI m.1,tI m.2] 1=some (tI m.2):=rfl
 have e1:=hm.1
 have e2:=hm.2
 have e:∀ N mg me ρ (h:∀ k∈List.range s.length,∃ ρ1,mg (.int (k:Nat)) (ρ++List.replicate (N-ρ.length) Sl.un)=some ρ1/\me ρ1=.ok (.int (s.getD k 0-m.1.getD k 0+m.2.getD k 0))),m9 N mg yes me ((List.range s.length).map fun k=>W.int (k:Nat)) ρ=.ok (lI (t8 s m)):=fun N mg me ρ h=>by
  rw [u8 (fun k=>W.int (s.getD k 0-m.1.getD k 0+m.2.getD k 0)) _ _ ρ (by simp; omega) h]
  unfold lI t8; rw [qD0]; rfl
 exists rpB,bE
 rw [e]
 ·exists rp18
 ·intro k hk
  have hk:k<s.length:=by simpa using hk
  refine ⟨_,rfl,?_⟩
  exists a0,a1
def zw (k:Nat) (m:Mv):shp (k+2) (mW m)=true:=by
 show (shp (k+1) (tI m.1)&&(shp (k+1) (tI m.2)&&true))=true
 rw [ay,ay]; rfl
def ne_nil (g:Mv) (gs:List Mv):fEq true (.lst ((g::gs).map mW)) (.lst [])=.ok (.bl true):=by
 have h:shp 8 (.lst ((g::gs).map mW))=true:=aR mW 7 (zw 5) (g::gs)
 unfold fEq
 rw [h]; rfl
def gond (ms:List Mv) (s:List Int):∀ m∈ms.filter (fun m=>h9 s m.1),m∈ms:=fun m h=>(List.mem_filter.mp h).1
def uZ {ns:List Int} (hb:∀ x∈ns,Builtin.Int.intBits x<=1048576) {n:Nat} {b:List Int} {ms:List Mv} (h6:n<=6) (hm:∀ m∈ms,okN n m) (h8:ms.length<=8) (GW:b.length=n):Ok (Y6 [.scr (ns.map W.int),tI b,.lst (ms.map mW)]) fun w=>∃ t:List Int,w=tI t/\t.length=n:=by
 obtain ⟨_,e3,c,rfl⟩:=y9 hb (k:=3) (by omega) (by omega)
 obtain ⟨q,hq⟩:∃ q:Nat,c/4%9=(q:Int):=⟨(c/4%9).toNat,by omega⟩
 have ct:=j8 (C6 b)
 exists rpB,cp,e3,hq,ct
 refine o5 (v8 (fun i ρ=>∃ (s:List Int) (v x y:Sl),ρ = [.par (.scr (ns.map W.int)),.par (tI b),.par (.lst (ms.map mW)),v,x,y]/\v=.val (tI s)/\s.length=n) ⟨b,_,_,_,rfl,rfl,GW⟩ ?_ ?_)
 ·rintro i u ρ hu ⟨s,v,x,y,rfl,rfl,hs⟩
  obtain ⟨hi,rfl⟩:=W9 hu
  obtain ⟨_,e4,d,rfl⟩:=y9 hb (k:=40+(i:Int)) (by omega) (by omega)
  refine ⟨_,rfl,?_⟩
  exists rp18
  rw [K6 mW mW (fun m=>h9 s m.1) ms _ (by omega) fun m HN=>?_]
  ·have hg:=gond ms s
   have JU:(ms.filter fun m=>h9 s m.1).length<=8:=qA9 (List.length_filter_le _ _) h8
   generalize ms.filter (fun m=>h9 s m.1)=gs at hg JU
   exists rp18
   cases gs with
   | nil=>
    exists rp18
    exact ⟨s,_,_,_,rfl,rfl,hs⟩
   | cons g gs=>
    have JU:gs.length+1<=8:=JU
    have ne:=ne_nil g gs
    have hL:(((g::gs).map mW).length:Int)=((gs.length+1:Nat):Int):=by simp
    have g0:=Int.emod_nonneg (d/3) (show ((gs.length+1:Nat):Int)≠0 by omega)
    have g1:=Int.emod_lt_of_pos (d/3) (show (0:Int)<((gs.length+1:Nat):Int) by omega)
    have ea:=aM mW (as:=g::gs) (d:=([],[])) (i:=d/3%((gs.length+1:Nat):Int)) ⟨g0,g1⟩
    have hk:=hg ((g::gs).getD (d/3%((gs.length+1:Nat):Int)).toNat ([],[])) (by rw [qA0,qB2 (show (d/3%((gs.length+1:Nat):Int)).toNat<(g::gs).length by rw [qC2]; omega)]; exact qG4 _)
    generalize (g::gs).getD (d/3%((gs.length+1:Nat):Int)).toNat ([],[])=m at ea hk
    have k2:=fC (s:=s) (m:=m) (by omega) (by rw [hs]; exact ⟨(hm m hk).1,(hm m hk).2.1⟩)
    obtain ⟨gw,hgw⟩:∃ gw,gw=(g::gs).map mW:=⟨_,rfl⟩
    rw [<- hgw] at ne hL ea ⊢
    exists ne,e4,hL,ea,k2
    exact ⟨t8 s m,_,_,_,rfl,rfl,by rw [F8]; exact hs⟩
  ·have a0:L2.atI [tI m.1,tI m.2] 0=some (tI m.1):=rfl
   have k1:=df (a:=s) (b:=m.1) (by omega) (by rw [hs]; exact (hm m HN).1)
   have cm:=j8 (qE m)
   refine ⟨_,rfl,?_,fun _=>?_⟩
   ·exists a0,k1
   ·exists cm
 ·rintro ρ ⟨s,v,x,y,rfl,rfl,hs⟩
  exists rp18
  exact ⟨s,rfl,hs⟩
def xp {ns:List Int} (hb:∀ x∈ns,Builtin.Int.intBits x<=1048576) {b:List Int} (h6:b.length<=6):Ok (ar [.scr (ns.map W.int),tI b]) fun w=>∃ e:List Int,w=tI e/\e.length=b.length/\nn e:=by
 exists rpB,dP
 refine o5 (v8 (fun i ρ=>∃ (xs:List Int) (a5 a6:Sl),ρ = [.par (.scr (ns.map W.int)),.par (tI b),.own (xs.map W.int),a5,a6]/\xs.length=i/\nn xs) ⟨[],_,_,rfl,rfl,fun x h=>(nomatch h)⟩ ?_ ?_)
 ·rintro i u ρ hu ⟨xs,a5,a6,rfl,HB,hx⟩
  obtain ⟨hi,rfl⟩:=W9 hu
  obtain ⟨_,e1,c,rfl⟩:=y9 hb (k:=14+(i:Int)) (by omega) (by omega)
  refine ⟨_,rfl,?_⟩
  exists e1
  refine V0 (fun h=>?_) (fun h=>?_)
  ·exists rp18
   exact ⟨xs ++ [c/4%1000000001],_,_,by rw [qD1],by simp [HB],da hx (by omega)⟩
  ·exists rp18
   exact ⟨xs ++ [c/4%3],_,_,by rw [qD1],by simp [HB],da hx (by omega)⟩
 ·rintro ρ ⟨xs,a5,a6,rfl,HB,hx⟩
  rw [qA5,qF1] at HB
  exists rp18
  exact ⟨xs,rfl,HB,hx⟩
def rf {n:Nat} {ms:List Mv} {b s' rs:List Int} (h6:n<=6) (hm:∀ m∈ms,okM n m) (hb:b.length=n) (hr:∀ r∈rs,0<=r/\r<(ms.length:Int)) (hg:M5 ms rs b=some s'):P6 [lI rs,tI b,tM_ ms]=.ok (tI s'):=by
 have fin:Ok (P6 [lI rs,tI b,tM_ ms]) fun v=>v=tI s':=by
  exists rpB,fy
  refine o5 (v8 (fun i ρ=>∃ (s:List Int) (v a:Sl),ρ = [.par (lI rs),v,.par (tM_ ms),a]/\(v=.par (tI s)\/v=.val (tI s))/\s.length=n/\M5 ms (rs.drop i) s=some s') ⟨b,_,_,rfl,.inl rfl,hb,hg⟩ ?_ ?_)
  ·rintro i w ρ hw ⟨s,v,a,rfl,hv,hs,hgo⟩
   obtain ⟨hi,rfl⟩:=Bo hw
   have Kz:=hr _ (mem_getD (P:=fun x=>x∈rs) (fun x h=>h) hi)
   have hd:rs.drop i=rs.getD i 0::rs.drop (i+1):=by
    rw [qI7 hi,qA0]; simp [hi]
   rw [hd] at hgo
   generalize rs.getD i 0=r at Kz hgo ⊢
   unfold M5 at hgo
   have b1:=aM mW (as:=ms) (d:=([],[])) (i:=r) Kz
   have hok:=hm (ms.getD r.toNat ([],[])) (by rw [qA0]; simp [show r.toNat<ms.length by omega])
   generalize ms.getD r.toNat ([],[])=m at hgo b1 hok
   have a0:L2.atI [tI m.1,tI m.2] 0=some (tI m.1):=rfl
   cases hc:h9 s m.1 with
   | false=>rw [hc,qA3 qA4] at hgo; cases hgo
   | true=>
    rw [hc,qA1 rfl] at hgo
    have k1:=df (a:=s) (b:=m.1) (by omega) (by rw [hs]; exact hok.1)
    rw [hc] at k1
    have k2:=fC (s:=s) (m:=m) (by omega) (by rw [hs]; exact hok)
    have d0:decide (0<=r)=true:=decide_eq_true Kz.1
    have d1:decide (r<(ms.length:Int))=true:=decide_eq_true Kz.2
    refine ⟨_,rfl,?_⟩
    rcases hv with rfl | rfl
    ·exists b1,a0,k1,k2,d0,d1
     exact ⟨t8 s m,_,_,rfl,.inr rfl,by rw [F8]; exact hs,hgo⟩
    ·exists b1,a0,k1,k2,d0,d1
     exact ⟨t8 s m,_,_,rfl,.inr rfl,by rw [F8]; exact hs,hgo⟩
  ·rintro ρ ⟨s,v,a,rfl,hv,hs,hgo⟩
   rw [qA5,List.drop_length] at hgo
   have e:s=s':=by unfold M5 at hgo; cases hgo; rfl
   subst e
   rcases hv with rfl | rfl
   ·exists j8 (C6 s)
   ·exists j8 (C6 s)
 obtain ⟨v,e,rfl⟩:=fin
 exact e
def ya {f g:Nat->Bool} {n:Nat} (h:∀ k,k<n->f k=!g k):decide ((((List.range n).filter f).length:Int)=0)=(List.range n).all g:=by
 cases c:(List.range n).all g with
 | true=>
  apply decide_eq_true
  have:(List.range n).filter f = []:=by
   rw [List.filter_eq_nil_iff]
   intro k hk
   have q:=qF6.mp c k hk
   rw [h k (by simpa using hk),q]; decide
  rw [this]; rfl
 | false=>
  apply decide_eq_false
  intro z
  have z2:=List.eq_nil_of_length_eq_zero (show ((List.range n).filter f).length=0 by omega)
  rw [List.filter_eq_nil_iff] at z2
  have:(List.range n).all g=true:=qF6.mpr fun k hk=>by
   have q:=z2 k hk
   rw [h k (by simpa using hk)] at q
   cases hg:g k with
   | true=>rfl
   | false=>rw [hg] at q; exact absurd rfl q
  rw [this] at c; cases c
def xH {cs ds:Cap} (h6:cs.length<=6) (hl:ds.length=cs.length):Y5 [tC cs,tC ds]=.ok (.bl (j3 cs ds)):=by
 have e:∀ N mg mc me ρ,(∀ k,k<cs.length->∃ ρ1,mg (.int (k:Nat)) (ρ++List.replicate (N-ρ.length) Sl.un)=some ρ1/\mc ρ1=.ok (!A9 (cs.getD k none) (ds.getD k none))/\me ρ1=.ok (.int (k:Nat))) ->
   m9 N mg mc me ((List.range cs.length).map fun k=>W.int (k:Nat)) ρ=.ok (.lst (((List.range cs.length).filter fun k=>!A9 (cs.getD k none) (ds.getD k none)).map fun k=>W.int (k:Nat))):=fun N mg mc me ρ h=>by
  refine K6 (fun k=>W.int (k:Nat)) _ (fun k=>!A9 (cs.getD k none) (ds.getD k none)) _ ρ (by simp; omega) fun k hk=>?_
  obtain ⟨ρ1,e1,e2,e3⟩:=h k (by simpa using hk)
  exact ⟨ρ1,e1,e2,fun _=>e3⟩
 have this:=ya (n:=cs.length) (f:=fun k=>!A9 (cs.getD k none) (ds.getD k none)) (g:=fun k=>A9 (cs.getD k none) (ds.getD k none)) fun _ _=>rfl
 exists rpB,ci
 rw [e]
 ·exists rp18
  rw [this]; rfl
 ·intro k hk
  have c1:=atO (cs:=cs) hk
  have d1:=atO (cs:=ds) (k:=k) (by omega)
  refine ⟨_,rfl,?_⟩
  revert c1 d1
  cases hd:ds.getD k none with
  | none=>
   intro c1 d1
   exists d1
   rfl
  | some y=>
   cases hc:cs.getD k none with
   | none=>
    intro c1 d1
    exists d1,c1
    rfl
   | some x=>
    intro c1 d1
    exists d1,c1
    show _=R.ok (!decide (x<=y))
    by_cases q:x<=y
    ·rw [decide_eq_true q,decide_eq_false (by omega)]; rfl
    ·rw [decide_eq_false q,decide_eq_true (by omega)]; rfl
def mV {α:Type} {f:α->Bool} {l:List α}:decide (0<((l.filter f).length:Int))=l.any f:=by
 cases c:l.any f with
 | true=>
  obtain ⟨x,hx,h⟩:=qC8.mp c
  have:=List.length_pos_of_mem (List.mem_filter.mpr ⟨hx,h⟩)
  exact decide_eq_true (by omega)
 | false=>
  have:l.filter f = []:=List.filter_eq_nil_iff.mpr fun x hx=>qK7.mp c x hx
  rw [this]; rfl
def mP {s:List Int} {B:List (List Int)} (h6:s.length<=6) (hl:∀ x∈B,x.length=s.length) (hB:B.length<=1000):M7 [tI s,lS B]=.ok (.bl (f8 s B)):=by
 exists rpB,bC
 rw [K6 tI tI (h9 s) B _ hB fun x hx=>?_]
 ·exists rp18
  rw [mV]; rfl
 ·have k1:=df (a:=s) (b:=x) h6 (hl x hx)
  have cx:=j8 (C6 x)
  refine ⟨_,rfl,?_,fun _=>?_⟩
  ·exists k1
  ·exists cx
def jW {n:Nat} {ms:List Mv} {b t:List Int} {most:Nat} {w:W} (hb:b.length=n) (ht:t.length=n) (h:lf ms b t most w):(L7 [w]=.ok (.bl false)/\∃ j,w=.tup [.str "row",lI (D6 ms t j b)]/\f8 b (Bk ms t j)=true/\∀ i,i<j->f8 b (Bk ms t i)=false)\/(L7 [w]=.ok (.bl true)/\∃ L:List (List Int),w=.tup [.str "wall",lS L]/\(∀ s,Rch ms b s->h9 s t=false))\/(L7 [w]=.ok .non/\∃ z,w=.tup [.str "open",.int z]/\h9 b t=false):=by
 rcases rp hb ht h with ⟨j,rfl,q⟩ | ⟨L,rfl,q⟩ | ⟨z,rfl,q⟩
 ·refine .inl ⟨?_,j,rfl,q⟩
  have b0:L2.atI [W.str "row",lI (D6 ms t j b)] 0=some (W.str "row"):=rfl
  have s1:j9 false (W.str "row") (W.str "open")=.ok (.bl false):=rfl
  have s2:j9 false (W.str "row") (W.str "wall")=.ok (.bl false):=rfl
  exists rpB,V2,b0,s1,s2
 ·refine .inr (.inl ⟨?_,L,rfl,q⟩)
  have b0:L2.atI [W.str "wall",lS L] 0=some (W.str "wall"):=rfl
  have s1:j9 false (W.str "wall") (W.str "open")=.ok (.bl false):=rfl
  have s2:j9 false (W.str "wall") (W.str "wall")=.ok (.bl true):=rfl
  exists rpB,V2,b0,s1,s2
 ·refine .inr (.inr ⟨?_,z,rfl,q⟩)
  have b0:L2.atI [W.str "open",W.int z] 0=some (W.str "open"):=rfl
  have s1:j9 false (W.str "open") (W.str "open")=.ok (.bl true):=rfl
  exists rpB,V2,b0,s1
def Bi (ms:List Mv) (b:List Int) (most:Nat) (m:Mv) (w:W):Prop:=∃ w0,Q6 [.tup [tI b,tM_ ms],tI m.1,.int (most:Int)]=.ok w0/\L7 [w0]=.ok w/\lf ms b m.1 most w0
def jV {n:Nat} {ms:List Mv} {b:List Int} {most:Nat} (h1:1<=n) (h6:n<=6) (hm:∀ m∈ms,okM n m) (GO:ms.length<=8) (hb:b.length=n) (HM:most<=30):Ok (dh [.tup [tI b,tM_ ms],.int (most:Int)]) fun w=>∃ zs:List W,w=.lst zs/\Paired (Bi ms b most) ms zs:=by
 have a1:L2.atI [tI b,tM_ ms] 1=some (tM_ ms):=rfl
 exists rpB,mL,a1
 refine o5 (qm ?_)
 refine uh (fun w:W=>w) (Bi ms b most) (by omega) ?_ ?_
 ·intro m HN
  have a0:L2.atI [tI m.1,tI m.2] 0=some (tI m.1):=rfl
  obtain ⟨w0,e,p⟩:=bp (b:=b) (most:=most) h1 h6 hm GO hb (hm m HN).1 HM
  refine ⟨_,rfl,?_⟩
  exists a0,e
  rcases jW hb (hm m HN).1 p with ⟨q,_⟩ | ⟨q,_⟩ | ⟨q,_⟩
  ·exact ⟨_,q,_,rfl,w0,e,q,p⟩
  ·exact ⟨_,q,_,rfl,w0,e,q,p⟩
  ·exact ⟨_,q,_,rfl,w0,e,q,p⟩
 ·intro zs hz
  exact ⟨zs,by rw [List.map_id'],hz⟩
def bY {α:Type} {p:α->W->Prop} {d:α}:∀ {as:List α} {zs:List W} {i:Nat},Paired p as zs->i<as.length->∃ w,zs[i]?=some w/\p (as.getD i d) w
 | _,_,_,.nil,h=>absurd h (qE7 _)
 | _,_,0,.cons r _,_=>⟨_,rfl,r⟩
 | _,_,i+1,.cons _ t,h=>by
  obtain ⟨b,e,q⟩:=bY (d:=d) (i:=i) t (by simpa using h)
  exact ⟨b,by simpa using e,by simpa using q⟩
def atZ {zs:List W} {i:Nat} {w:W} (h:zs[i]?=some w):L2.atI zs (i:Int)=some w:=cF h
def n5 (b e:List Int):List Int:=(List.range b.length).map fun k=>b.getD k 0+e.getD k 0
def D8 (b e:List Int):(n5 b e).length=b.length:=by simp [n5]
def nj {b e:List Int} {k:Nat} (h:k<b.length):(n5 b e).getD k 0=b.getD k 0+e.getD k 0:=M9 h
def gU {b e x:List Int} (he:nn e) (h:h9 b x=true):h9 (n5 b e) x=true:=cov_iff.mpr fun k hk=>by
 rw [D8] at hk
 have:=cov_iff.mp h k hk
 have:=vL he k
 rw [nj hk]; omega
def yR {b e:List Int} {m:Mv}:t8 (n5 b e) m=n5 (t8 b m) e:=by
 unfold t8
 rw [D8]
 unfold n5
 rw [qA5,qF1]
 refine qM8 fun k hk=>?_
 have hk:k<b.length:=by simpa using hk
 rw [M9 hk,M9 hk]; omega
def cu {ms:List Mv} {e:List Int} (he:nn e):∀ (rs b s':List Int),M5 ms rs b=some s'->M5 ms rs (n5 b e)=some (n5 s' e)
 | [],b,s',h=>by cases h; rfl
 | r::rs,b,s',h=>by
  unfold M5 at h ⊢
  cases hc:h9 b (ms.getD r.toNat ([],[])).1 with
  | false=>rw [hc,qA3 qA4] at h; cases h
  | true=>
   rw [hc,qA1 rfl] at h
   rw [gU he hc,qA1 rfl,yR]
   exact cu he rs _ s' h
def kQ {ms:List Mv} {b:List Int}:∀ (rs s0 s':List Int),(∀ r∈rs,0<=r/\r<(ms.length:Int))->Rch ms b s0->M5 ms rs s0=some s'->Rch ms b s'
 | [],s0,s',_,h0,h=>by cases h; exact h0
 | r::rs,s0,s',hr,h0,h=>by
  unfold M5 at h
  have GI:ms.getD r.toNat ([],[])∈ms:=by
   have:=hr r qB6
   rw [qA0]; simp [show r.toNat<ms.length by omega]
  cases hc:h9 s0 (ms.getD r.toNat ([],[])).1 with
  | false=>rw [hc,qA3 qA4] at h; cases h
  | true=>
   rw [hc,qA1 rfl] at h
   exact kQ rs _ s' (fun x hx=>hr x (qA8 _ hx)) (.go h0 GI hc) h
def mR {b e:List Int} {B:List (List Int)} (he:nn e) (h:f8 b B=true):f8 (n5 b e) B=true:=by
 obtain ⟨x,hx,hc⟩:=qC8.mp h
 exact qC8.mpr ⟨x,hx,gU he hc⟩
def uw {n:Nat} {ms:List Mv} {t b:List Int} (ht:t.length=n) (hb:b.length=n) {j k:Nat} (hjk:j<=k) (h:f8 b (Bk ms t j)=true):f8 b (Bk ms t k)=true:=by
 induction hjk with
 | refl=>exact h
 | step _ ih=>exact kF ht _ hb ih
def zP {N:Nat} {m:Rho->R Fl} (a b c d e f:W):g8 6 N m [a,b,c,d,e,f]=Q7 (m (Sl.par a::Sl.par b::Sl.par c::Sl.par d::Sl.par e::Sl.par f::List.replicate (N-6) Sl.un)):=W3 rfl
def wD {n:Nat} {ms:List Mv} {b e t:List Int} {most j:Nat} (h1:1<=n) (h6:n<=6) (hm:∀ m∈ms,okM n m) (h8:ms.length<=8) (hb:b.length=n) (Lq:e.length=n) (he:nn e) (ht:t.length=n) (HP:most<=30) (hl:f8 b (Bk ms t j)=true) (Gh:∀ i,i<j->f8 b (Bk ms t i)=false/\k4 ms t most "wall" i=.non) :
  S7 [.tup [.str "row",lI (D6 ms t j b)],.tup [tI b,tM_ ms],tI (n5 b e),tI e,tI t,.int (most:Int)]=.ok (.bl true):=by
 obtain ⟨⟨s',hg,Ky,hc⟩,hr⟩:=eA ht j b hb hl fun i hi=>(Gh i hi).1
 have KD:=cu he _ _ _ hg
 have k1:=rf h6 hm hb hr hg
 have k2:=rf h6 hm (by rw [D8]; exact hb) hr KD
 have k3:=df (a:=s') (b:=t) (by omega) (by omega)
 rw [hc] at k3
 have Ig:(D6 ms t j b).length=j:=eB _ _ _ _
 obtain ⟨w0,kc,j',hall',Hn⟩:=bp (b:=n5 b e) (t:=t) (most:=most) h1 h6 hm h8 (by rw [D8]; exact hb) ht HP
 have hj:j'<=j:=by
  by_cases q:j<j'
  ·have:=(hall' j q).1
   rw [mR he hl] at this; cases this
  ·omega
 have Hm:∃ rs,w0=.tup [.str "row",lI rs]/\rs.length=j':=by
  rcases Hn with ⟨_,e⟩ | ⟨l2,ne,_⟩
  ·exact ⟨_,e,eB _ _ _ _⟩
  ·by_cases q:j'<j
   ·exact absurd (Gh j' q).2 ne
   ·have:j'=j:=by omega
    rw [this,mR he hl] at l2; cases l2
 obtain ⟨r2,rfl,Jq⟩:=Hm
 generalize D6 ms t j b=rs at k1 k2 Ig
 have a0:∀ x y:W,L2.atI [x,y] 0=some x:=fun _ _=>rfl
 have a1:∀ x y:W,L2.atI [x,y] 1=some y:=fun _ _=>rfl
 have s1:j9 false (W.str "row") (W.str "row")=.ok (.bl true):=rfl
 have n1:∀ x:List Int,E7 false (tI x) .non=.ok (.bl false):=fun _=>rfl
 have ev:∀ N mg me ρ (h:∀ k∈List.range n,∃ ρ1,mg (.int (k:Nat)) (ρ++List.replicate (N-ρ.length) Sl.un)=some ρ1/\me ρ1=.ok (.int (s'.getD k 0+e.getD k 0))),m9 N mg yes me ((List.range n).map fun k=>W.int (k:Nat)) ρ=.ok (lI (n5 s' e)):=fun N mg me ρ h=>by
  rw [u8 (fun k=>W.int (s'.getD k 0+e.getD k 0)) _ _ ρ (by simp; omega) h]
  unfold lI n5; rw [qD0,Ky]; rfl
 have ct:=j8 (C6 (n5 b e))
 have cm:chk (tM_ ms)=.ok (tM_ ms):=j8 (X5 ms)
 have fe:fEq true (tI (n5 s' e)) (tI (n5 s' e))=.ok (.bl false):=eP (ay 7 _)
 have dl:decide ((j':Int)<=(j:Int))=true:=decide_eq_true (by omega)
 obtain ⟨bb,Lr⟩:∃ bb,bb=n5 b e:=⟨_,rfl⟩
 obtain ⟨ss,GJ⟩:∃ ss,ss=n5 s' e:=⟨_,rfl⟩
 rw [<- Lr] at k2 kc ct ⊢
 rw [<- GJ] at k2 fe ev
 exists zP,dN,a0,a1,k1,k2,n1,k3,Lq
 rw [ev]
 ·exists fe,ct,cm,kc,a0,a1,s1,Jq,Ig,dl
 ·intro k hk
  have hk:k<n:=by simpa using hk
  refine ⟨_,rfl,?_⟩
  exists rp18
def yA {n:Nat} {ms:List Mv} {b e:List Int} {most:Nat} (h1:1<=n) (h6:n<=6) (hm:∀ m∈ms,okN n m) (h8:ms.length<=8) (hb:b.length=n) (he:nn e) (KB:1<=most) (HP:most<=30):S8 [.tup [tI b,tM_ ms],tI (n5 b e),.int (most:Int)]=.ok (.bl true):=by
 subst hb
 obtain ⟨_,u,_,ec,hu⟩:=kZ (b:=b) (most:=most) h1 h6 hm h8 KB HP
 obtain ⟨_,u',_,LG,hu'⟩:=kZ (b:=n5 b e) (most:=most) (by rw [D8]; exact h1) (by rw [D8]; exact h6) (by rw [D8]; exact hm) h8 KB HP
 have a1:∀ x y:W,L2.atI [x,y] 1=some y:=fun _ _=>rfl
 have ct:=j8 (C6 (n5 b e))
 have cm:chk (tM_ ms)=.ok (tM_ ms):=j8 (X5 ms)
 have n1:∀ x:List W,E7 false (.lst x) .non=.ok (.bl false):=fun _=>rfl
 have n2:E7 false .non .non=.ok (.bl true):=rfl
 have a2:∀ r:R Bool,TP.rOr (.ok true) r=.ok true:=fun r=>rfl
 rcases hu with ⟨rfl,rfl⟩ | ⟨es,ts,rfl,hes,hK,rfl,q1,q2,q3,q4⟩
 ·exists rpB,S6,a1,ct,cm,ec,LG,n2,a2
 rcases hu' with ⟨rfl,rfl⟩ | ⟨Iv,ts',rfl,hes',Jx,rfl,q1',q2',q3',q4'⟩
 ·exists rpB,S6,a1,ct,cm,ec,LG,n1,n2,a2
 have HF:(b.map some).length=b.length:=qA5 ..
 have Hd:((n5 b e).map some).length=b.length:=by rw [qA5,D8]
 have hlen:∀ d∈ts,d.length=b.length:=fun d hd=>by rw [Q4 hK d (q1 d hd)]; exact HF
 have IF:∀ d∈ts',d.length=b.length:=fun d hd=>by rw [Q4 Jx d (q1' d hd)]; exact Hd
 have key:∀ c∈ts,ts'.any (j3 c)=true:=fun c hc=>by
  obtain ⟨d,hd,u1⟩:=vd hK Jx (D8 b e) (fun p hp=>by rw [nj hp]; have:=vL he p; omega) (fun m h=>h) (fun m h=>(hm m h).1) c (q1 c hc)
  obtain ⟨d',Jw,u2⟩:=q4' d hd
  exact qC8.mpr ⟨d',Jw,Z5 (by rw [hlen c hc,Q4 Jx d hd,Hd]) (by rw [IF d' Jw,Q4 Jx d hd,Hd]) u1 u2⟩
 obtain ⟨tw,htw⟩:∃ tw,tw=ts'.map tC:=⟨_,rfl⟩
 have fin:Ok (S8 [.tup [tI b,tM_ ms],tI (n5 b e),.int (most:Int)]) fun v=>v=.bl true:=by
  exists rpB,S6,a1,ct,cm,ec,LG,n1
  refine o5 (v8 (fun i ρ=>∃ x:Sl,ρ = [.par (.tup [tI b,tM_ ms]),.par (tI (n5 b e)),.par (.int (most:Int)),.val (.lst (ts.map tC)),.own (ts'.map tC),x]) ⟨_,rfl⟩ ?_ ?_)
  ·rintro i w ρ hw ⟨x,rfl⟩
   obtain ⟨c,hc,rfl⟩:∃ c∈ts,w=tC c:=by
    obtain ⟨c,h1,h2⟩:=qB4.mp (qG2 hw)
    exact ⟨c,h1,h2.symm⟩
   refine ⟨_,rfl,?_⟩
   exists rp18
   rw [K6 tC tC (j3 c) ts' _ (by omega) fun d hd=>?_]
   ·have hp:=mV (f:=j3 c) (l:=ts')
    rw [key c hc] at hp
    have hp:=of_decide_eq_true hp
    have dz:decide (((ts'.filter (j3 c)).length:Int)=0)=false:=decide_eq_false (by omega)
    exists dz
    exact ⟨_,rfl⟩
   ·have k1:=xH (cs:=c) (ds:=d) (by rw [hlen c hc]; exact h6) (by rw [IF d hd,hlen c hc])
    have cd:chk (tC d)=.ok (tC d):=j8 (show noL (tC d)=true from B7 d)
    refine ⟨_,rfl,?_,fun _=>?_⟩
    ·exists k1
    ·exists cd
  ·rintro ρ ⟨x,rfl⟩
   exists rp18
 obtain ⟨v,e,rfl⟩:=fin
 exact e
def qF {n:Nat} {ms:List Mv} {b e:List Int} {most:Nat} (h1:1<=n) (h6:n<=6) (hm:∀ m∈ms,okM n m) (h8:ms.length<=8) (hb:b.length=n) (he:nn e) (HP:most<=30):M6 [.tup [tI b,tM_ ms],tI (n5 b e),.int (most:Int)]=.ok (.bl true):=by
 have Hw:(n5 b e).length=n:=by rw [D8]; exact hb
 obtain ⟨_,kn,zs,rfl,hz⟩:=jV (b:=b) (most:=most) h1 h6 hm h8 hb HP
 obtain ⟨_,kn',zs',rfl,Jk⟩:=jV (b:=n5 b e) (most:=most) h1 h6 hm h8 Hw HP
 have IS:zs.length=ms.length:=(Paired.length hz).symm
 have hzl':zs'.length=ms.length:=(Paired.length Jk).symm
 have a1:∀ x y:W,L2.atI [x,y] 1=some y:=fun _ _=>rfl
 have ct:=j8 (C6 (n5 b e))
 have cm:chk (tM_ ms)=.ok (tM_ ms):=j8 (X5 ms)
 have dd:decide ((ms.length:Int)=(ms.length:Int))=true:=decide_eq_true rfl
 have fin:Ok (M6 [.tup [tI b,tM_ ms],tI (n5 b e),.int (most:Int)]) fun v=>v=.bl true:=by
  exists rpB,bB,a1,ct,cm,kn,kn',IS,hzl',dd
  refine o5 (v8 (fun i ρ=>∃ x:Sl,ρ = [.par (.tup [tI b,tM_ ms]),.par (tI (n5 b e)),.par (.int (most:Int)),.own zs,.own zs',x]) ⟨_,rfl⟩ ?_ ?_)
  ·rintro i w ρ hw ⟨x,rfl⟩
   obtain ⟨hi,rfl⟩:=W9 hw
   obtain ⟨w1,ew,w0,_,en,p⟩:=bY (d:=([],[])) (i:=i) hz hi
   obtain ⟨w2,ew',w0',_,Jz,p'⟩:=bY (d:=([],[])) (i:=i) Jk hi
   have hok:=hm (ms.getD i ([],[])) (by rw [qA0]; simp [hi])
   have ez:=atZ ew
   have LD:=atZ ew'
   refine ⟨_,rfl,?_⟩
   have f0:∀ r:R Bool,TP.rAnd (.ok false) r=.ok false:=fun r=>rfl
   rcases jW Hw hok.1 p' with ⟨q',_⟩ | ⟨q',L,_,q2⟩ | ⟨q',_⟩
   ·rw [q'] at Jz; cases Jz
    have f1:cz false (.bl false) (.bl true)=.ok (.bl false):=rfl
    exists LD,f1,f0
    exact ⟨_,rfl⟩
   ·rw [q'] at Jz; cases Jz
    have f1:cz false (.bl true) (.bl true)=.ok (.bl true):=rfl
    have f2:cz false w1 (.bl false)=.ok (.bl false):=by
     rcases jW hb hok.1 p with ⟨q,j,_,hl,hn⟩ | ⟨q,_⟩ | ⟨q,_⟩
     ·obtain ⟨⟨s',hg,Ky,hc⟩,hr⟩:=eA hok.1 j b hb hl hn
      have:=q2 _ (kQ _ _ _ hr .beg (cu he _ _ _ hg))
      rw [gU he hc] at this; cases this
     ·rw [q] at en; cases en; rfl
     ·rw [q] at en; cases en; rfl
    exists LD,f1,ez,f2
    exact ⟨_,rfl⟩
   ·rw [q'] at Jz; cases Jz
    have f1:cz false .non (.bl true)=.ok (.bl false):=rfl
    exists LD,f1,f0
    exact ⟨_,rfl⟩
  ·rintro ρ ⟨x,rfl⟩
   exists rp18
 obtain ⟨v,e,rfl⟩:=fin
 exact e
def sQ {s:Str} (hs:PyData.strOk s=true) (L:List (List Int)):shp 8 (.tup [.str s,lS L])=true:=by
 show (PyData.strOk s&&(shp 7 (lS L)&&true))=true
 rw [hs,jh]; rfl
def sR (z:Int):shp 8 (.tup [.str "open",.int z])=true:=by
 show (PyData.strOk "open" && (true&&true))=true
 rw [xi]; rfl
def cb_ {n:Nat} {ms:List Mv} {x t:List Int} {most j1:Nat} {w:W} (hx:x.length=n) (ht:t.length=n) (Hf:∀ i,i<j1->k4 ms t most "wall" i=.non) (Ke:(Bk ms t j1).length<=most) (Hu:R9 ms (Bk ms t j1)=true) (p:lf ms x t most w):((∃ rs,w=.tup [.str "row",lI rs])/\f8 x (Bk ms t j1)=true)\/(w=.tup [.str "wall",lS (Bk ms t j1)]/\f8 x (Bk ms t j1)=false):=by
 obtain ⟨j,Gh,Hn⟩:=p
 have hj:j<=j1:=by
  by_cases q:j1<j
  ·have:=(Gh j1 q).2
   rw [eQ Ke Hu] at this; cases this
  ·omega
 rcases Hn with ⟨hl,e⟩ | ⟨hl,ne,e⟩
 ·exact .inl ⟨⟨_,e⟩,uw ht hx hj hl⟩
 ·have:j=j1:=by
   by_cases q:j<j1
   ·exact absurd (Hf j q) ne
   ·omega
  subst this
  exact .inr ⟨by rw [e,eQ Ke Hu],hl⟩
def co_ {ms:List Mv} {x t:List Int} {most j1:Nat} {w:W} (Hf:∀ i,i<j1->k4 ms t most "wall" i=.non) (he:k4 ms t most "wall" j1=.tup [.str "open",.int (j1:Int)]) (p:lf ms x t most w):(∃ rs,w=.tup [.str "row",lI rs])\/w=.tup [.str "open",.int (j1:Int)]:=by
 obtain ⟨j,Gh,Hn⟩:=p
 have hj:j<=j1:=by
  by_cases q:j1<j
  ·have:=(Gh j1 q).2
   rw [he] at this; cases this
  ·omega
 rcases Hn with ⟨hl,e⟩ | ⟨hl,ne,e⟩
 ·exact .inl ⟨_,e⟩
 ·have:j=j1:=by
   by_cases q:j<j1
   ·exact absurd (Hf j q) ne
   ·omega
  subst this
  exact .inr (by rw [e,he])
def DP {zs b e:List Int} (hl:zs.length=b.length) (h:∀ k,k<b.length->zs.getD k 0=b.getD k 0+e.getD k 0):zs=n5 b e:=by
 rw [<- DK zs,hl]
 unfold n5
 exact qM8 fun k hk=>h k (by simpa using hk)
def law_pure (ns:List Int) (h:ns.length<=63) (hb:∀ x∈ns,Builtin.Int.intBits x<=1048576):iO [.scr (ns.map W.int)]=.ok (.bl true):=by
 have fin:Ok (iO [.scr (ns.map W.int)]) fun v=>v=.bl true:=by
  obtain ⟨_,e0,c0,rfl⟩:=y9 hb (k:=0) (by omega) (by omega)
  obtain ⟨_,e1,c1,rfl⟩:=y9 hb (k:=1) (by omega) (by omega)
  obtain ⟨_,e2,c2,rfl⟩:=y9 hb (k:=2) (by omega) (by omega)
  obtain ⟨_,e3,c3,rfl⟩:=y9 hb (k:=3) (by omega) (by omega)
  obtain ⟨_,e4,c4,rfl⟩:=y9 hb (k:=4) (by omega) (by omega)
  obtain ⟨_,e5,c5,rfl⟩:=y9 hb (k:=5) (by omega) (by omega)
  obtain ⟨n,hn⟩:∃ m:Nat,2+c0%3=(m:Int):=⟨(2+c0%3).toNat,by omega⟩
  obtain ⟨most,HM⟩:∃ m:Nat,1+c1%10=(m:Int):=⟨(1+c1%10).toNat,by omega⟩
  obtain ⟨M,hM⟩:∃ m:Nat,1+c4%5=(m:Int):=⟨(1+c4%5).toNat,by omega⟩
  have h1:1<=n:=by omega
  have h4:n<=4:=by omega
  exists rpB,vN,e0,e1,e2,hn,HM,e3
  refine o5 (bW (fun ρ=>∃ f:Int,ρ = [.par (.scr (ns.map W.int)),.val (.int (n:Int)),.val (.int (most:Int)),.val (.bl (decide (c2%3=1))),.val (.int f),.un,.un,.un,.un,.un,.un,.un,.un,.un,.un]/\0<=f/\f<=100000001) ?_ ?_)
  ·refine V0 (fun h=>?_) (fun h=>?_)
   ·exists e3
    exact ⟨1+c3/4%100000000,rfl,by omega⟩
   ·exists rp18
    exact ⟨1,rfl,by omega⟩
  rintro ρ ⟨f,rfl,hf⟩
  exists e4,hM
  refine v8 (fun i ρ=>∃ (ms:List Mv) (x:Sl),ρ = [.par (.scr (ns.map W.int)),.val (.int (n:Int)),.val (.int (most:Int)),.val (.bl (decide (c2%3=1))),.val (.int f),.own (ms.map mW),x,.un,.un,.un,.un,.un,.un,.un,.un]/\(∀ m∈ms,okN n m)/\ms.length=i) ⟨[],_,rfl,by simp,rfl⟩ ?_ ?_
  ·rintro i w ρ hw ⟨ms,x,rfl,HW,GO⟩
   obtain ⟨hi,rfl⟩:=W9 hw
   have hni:0<=(n:Int)*(i:Int)/\(n:Int)*(i:Int)<=4*5:=⟨qG7 (by omega) (by omega),Int.mul_le_mul (by omega) (by omega) (by omega) (by omega)⟩
   obtain ⟨_,em,m,rfl,hm⟩:=xo hb (a:=20+(n:Int)*(i:Int)) (f:=f) (n:=n) (pl:=decide (c2%3=1)) h1 (by omega) (by omega) (by omega) hf
   refine ⟨_,rfl,?_⟩
   exists em
   refine ⟨ms ++ [m],_,by rw [qD1]; rfl,fun m' KC=>?_,by simp [GO]⟩
   rcases qD9.mp KC with q | q
   ·exact HW m' q
   ·rw [qD8.mp q]; exact hm
  rintro ρ ⟨ms,x,rfl,HW,GO⟩
  rw [qA5,qF1] at GO
  have h8:ms.length<=8:=by omega
  have JR:∀ m∈ms,okM n m:=fun m h=>⟨(HW m h).1,(HW m h).2.1⟩
  exists rp18
  refine cU (ca (fun _ z=>0<=z) (by omega) (fun k hk=>?_) fun b GW JZ=>?_)
  ·obtain ⟨_,ek,z,rfl⟩:=y9 hb (k:=6+(k:Int)) (by omega) (by omega)
   refine ⟨_,rfl,?_⟩
   exists ek
   exact ⟨_,rfl,_,rfl,qG7 (by omega) hf.1⟩
  have ct:=j8 (C6 b)
  have cm:chk (tM_ ms)=.ok (tM_ ms):=j8 (X5 ms)
  obtain ⟨_,km,e,rfl,Lq,he⟩:=xp hb (b:=b) (by omega)
  exists ct,km
  refine cU (ca (fun k z=>z=b.getD k 0+e.getD k 0) (by omega) (fun k hk=>?_) fun b' hbl' hb0'=>?_)
  ·refine ⟨_,rfl,?_⟩
   exists rp18
   exact ⟨_,rfl,_,rfl,rfl⟩
  obtain rfl:=DP (b:=b) (e:=e) (by omega) fun k hk=>hb0' k (by omega)
  have KN:=j8 (C6 (n5 b e))
  exists rp18
  refine cU (ca (fun _ _=>True) (by omega) (fun k hk=>?_) fun t0 htl0 _=>?_)
  ·obtain ⟨_,ek,z,rfl⟩:=y9 hb (k:=10+(k:Int)) (by omega) (by omega)
   refine ⟨_,rfl,?_⟩
   exists ek
   exact ⟨_,rfl,_,rfl⟩
  obtain ⟨_,kd,t1,rfl,ht1⟩:=uZ hb (n:=n) (b:=b) (ms:=ms) (by omega) HW h8 GW
  exists e5
  refine bW (fun ρ=>∃ t:List Int,ρ = [.par (.scr (ns.map W.int)),.val (.int (n:Int)),.val (.int (most:Int)),.val (.bl (decide (c2%3=1))),.val (.int f),.own (ms.map mW),x,.val (tI b),.val (.tup [tI b,tM_ ms]),.val (tI e),.val (tI (n5 b e)),.val (tI t),.un,.un,.un]/\t.length=n) ?_ ?_
  ·refine V0 (fun h=>?_) (fun h=>?_)
   ·exists kd
    exact ⟨t1,rfl,ht1⟩
   ·exists rp18
    exact ⟨t0,rfl,htl0⟩
  rintro ρ ⟨t,rfl,ht⟩
  have Jd:(n5 b e).length=n:=hbl'
  obtain ⟨w0,kc,pc⟩:=bp (b:=b) (t:=t) (most:=most) h1 (by omega) JR h8 GW ht (by omega)
  obtain ⟨w2,Kr,pc'⟩:=bp (b:=n5 b e) (t:=t) (most:=most) h1 (by omega) JR h8 Jd ht (by omega)
  obtain ⟨w1,ke,j1,rfl,JQ,Hf⟩:=re (t:=t) (most:=most) h1 (by omega) JR h8 ht (by omega)
  have k5:=yA (b:=b) (e:=e) (most:=most) h1 (by omega) HW h8 GW he (by omega) (by omega)
  have k6:=qF (b:=b) (e:=e) (most:=most) h1 (by omega) JR h8 GW he (by omega)
  have hw:∀ i,k4 ms t most "wall" i=.non↔k4 ms t most "basis" i=.non:=fun i=>end_non.trans end_non.symm
  have Ia:∀ i,i<j1->k4 ms t most "wall" i=.non:=fun i hi=>(hw i).mpr (Hf i hi)
  have kr:∀ rs,w0=.tup [.str "row",lI rs]->S7 [.tup [.str "row",lI rs],.tup [tI b,tM_ ms],tI (n5 b e),tI e,tI t,.int (most:Int)]=.ok (.bl true):=fun rs JN=>by
   obtain ⟨j,Gh,Hn⟩:=pc
   rcases Hn with ⟨hl,q⟩ | ⟨hl,ne,q⟩
   ·rw [<- JN,q]
    exact wD h1 (by omega) JR h8 GW (by omega) he ht (by omega) hl Gh
   ·rcases ag ms t most "wall" j with r | r | ⟨r,_,_⟩
    ·exact absurd r ne
    ·rw [q,r] at JN; cases JN
    ·rw [q,r] at JN; cases JN
  have a0:∀ x y:W,L2.atI [x,y] 0=some x:=fun _ _=>rfl
  have a1:∀ x y:W,L2.atI [x,y] 1=some y:=fun _ _=>rfl
  have s1:j9 false (W.str "row") (W.str "row")=.ok (.bl true):=rfl
  have Km:j9 true (W.str "row") (W.str "row")=.ok (.bl false):=rfl
  have s2:j9 false (W.str "wall") (W.str "row")=.ok (.bl false):=rfl
  have KQ:j9 true (W.str "wall") (W.str "row")=.ok (.bl true):=rfl
  have s3:j9 false (W.str "open") (W.str "row")=.ok (.bl false):=rfl
  have s3t:j9 true (W.str "open") (W.str "row")=.ok (.bl true):=rfl
  have s4:j9 false (W.str "basis") (W.str "basis")=.ok (.bl true):=rfl
  have s5:j9 false (W.str "open") (W.str "basis")=.ok (.bl false):=rfl
  have g0:∀ r:R Bool,TP.rAnd (.ok false) r=.ok false:=fun r=>rfl
  have g1:∀ r:R Bool,TP.rOr (.ok true) r=.ok true:=fun r=>rfl
  rcases ag ms t most "basis" j1 with q | q | ⟨q,Ke,Hu⟩
  ·exact absurd q JQ
  ·have q2:k4 ms t most "wall" j1=.tup [.str "open",.int (j1:Int)]:=by
    rcases ag ms t most "wall" j1 with r | r | ⟨r,x,y⟩
    ·exact absurd ((hw j1).mp r) JQ
    ·exact r
    ·rw [eQ x y] at q; cases q
   have ee:fEq true (.tup [.str "open",.int (j1:Int)]) (.tup [.str "open",.int (j1:Int)])=.ok (.bl false):=eP (sR _)
   rw [q] at ke
   rcases co_ Ia q2 pc with ⟨rs,rfl⟩ | rfl
   ·have kr:=kr rs rfl
    exists kc,a0,a1,s1,Km,kr,ke,s5,g0,k5,k6
   ·exists kc,a0,a1,s3,s3t,g0,ke,s5,ee,k5,k6
  ·have l1:=mP (s:=b) (B:=Bk ms t j1) (by omega) (fun x hx=>by rw [(Q0 (ms:=ms) ht j1).len x hx,GW]) (by omega)
   have l2:=mP (s:=n5 b e) (B:=Bk ms t j1) (by omega) (fun x hx=>by rw [(Q0 (ms:=ms) ht j1).len x hx,Jd]) (by omega)
   have ee:fEq true (.tup [.str "wall",lS (Bk ms t j1)]) (.tup [.str "wall",lS (Bk ms t j1)])=.ok (.bl false):=eP (sQ xh _)
   have r1:=cb_ GW ht Ia Ke Hu pc
   have r2:=cb_ Jd ht Ia Ke Hu pc'
   rw [q] at ke
   generalize Bk ms t j1=B at *
   rcases r1 with ⟨⟨rs,rfl⟩,m1⟩ | ⟨rfl,m1⟩
   ·have kr:=kr rs rfl
    rcases r2 with ⟨⟨rs',rfl⟩,m2⟩ | ⟨rfl,m2⟩
    ·rw [m1] at l1; rw [m2] at l2
     exists kc,a0,a1,s1,Km,kr,ke,s4,KN,cm,Kr,l1,l2,g0,k5,k6
    ·rw [m1] at l1; rw [m2] at l2
     exists kc,a0,a1,s1,Km,s2,KQ,kr,ke,s4,KN,cm,Kr,l1,l2,g0,ee,k5,k6
   ·rcases r2 with ⟨⟨rs',rfl⟩,m2⟩ | ⟨rfl,m2⟩
    ·rw [m1] at l1; rw [m2] at l2
     exists kc,a0,a1,s1,Km,s2,KQ,ke,s4,KN,cm,Kr,l1,l2,g0,ee,k5,k6
    ·rw [m1] at l1; rw [m2] at l2
     exists kc,a0,a1,s2,KQ,ke,s4,KN,cm,Kr,l1,l2,g0,ee,k5,k6
 obtain ⟨v,e,rfl⟩:=fin
 exact e
end K97
set_option maxHeartbeats 4000000
open PySem L2 TP
namespace K97
def D1 {K:Frag} {d:Mode}:=(fr (K:=K) (d:=d) (g:=B5) (fun _ _=>rfl) (fun _ _ _=>.int))
def no {K:Frag} {d:Mode}:=(fr (K:=K) (d:=d) (g:=gSub) (fun _ _=>rfl) (fun _ _ _=>.int))
def xLt {K:Frag} {d:Mode}:=(fr (K:=K) (d:=d) (g:=gLt) (fun _ _=>rfl) (fun _ _ _=>.bl))
def xLe {K:Frag} {d:Mode}:=(fr (K:=K) (d:=d) (g:=gLe) (fun _ _=>rfl) (fun _ _ _=>.bl))
def xGt {K:Frag} {d:Mode}:=(fr (K:=K) (d:=d) (g:=gGt) (fun _ _=>rfl) (fun _ _ _=>.bl))
local macro_rules | `(tactic| trivial)=>`(tactic| first | exact Or.inl rfl | exact Or.inr rfl | exact Or.inr (Or.inl rfl) | exact Or.inr (Or.inr rfl) | assumption | exact ⟨rfl,rfl,rfl,by decide +kernel,rfl,by decide +kernel,by decide +kernel⟩ | exact Room.mono (by assumption) (by decide) | exact jT _ | rfl | exact ⟨rfl,by decide +kernel,by decide +kernel,by decide +kernel,by decide +kernel,by decide,by decide +kernel,by decide +kernel⟩)
def top (i:Nat):Stmt:=PySem.Challenge.pw_tokenmoor_k97_whole_more_counters_never.main.body.getD i (.Pass ⟨0,0,0,0⟩)
abbrev hxS (s:String) (t:Nat):Value:=.str (Str.ofString s) t
abbrev hxI (i:Int):Value:=.int i 0
abbrev hxO (c:String) (d:Data):Obj:=⟨.type c,none,d,#[]⟩
abbrev hxE (P:Params) (s:String) (t:Nat) (v:Value):DictEntry:=⟨PyData.keyHash P (Str.ofString s),.str (Str.ofString s) t,v⟩
abbrev hxF (n q:String) (st:Stmt) (dV kV doc pm:Value) (an:Option Addr) (cd ct:Value):Data:=.func (PySem.W.fnOf (Str.ofString n) (Str.ofString q) (Q8 st) (E8 st) (b9 st) dV kV doc pm an cd ct)
abbrev hxG (n:String) (i:Nat) (pm:Value) (c:Nat):Obj:=hxO "function" (hxF n n (top i) .none .none .none pm none (.ref c) .none)
abbrev hxD (n:String) (t:Nat) (l a:Int) (r8:Nat) (r11:Nat) (v13 v14:Value) (r15:Nat) (x16:Int) (t18:Nat):Data:=.fields #[.str (Str.ofString n) t,.str (Str.ofString n) (t+1),.str (Str.ofString "/claim/cut.py") (t+2),hxI l,hxI a,hxI 0,hxI 0,hxI 3,.ref r8,.bool true,hxI 181,.ref r11,.none,v13,v14,.ref r15,hxI x16,hxI l,.str (Str.ofString "/claim/cut.py") t18]
abbrev n4:Value:=hxS "law_tokenmoor_k97_whole_more_counters_never" 466
abbrev D7:Value:=hxS "tokenmoor.backs" 310
abbrev J5:Value:=hxS "tokenmoor.bases" 264
abbrev p8:Value:=hxS "tokenmoor.crowns" 377
abbrev U6:Value:=hxS "tokenmoor.moors" 232
def qW:Params->Frag:=fun P=>
 (nat_lit 2,⟨.none,none,(.dict #[] 0),#[]⟩) ::
 (nat_lit 3,hxO "dict" (.dict #[hxE P "__name__" 165 (hxS "law_tokenmoor_k97_whole_more_counters_never" 466),hxE P "__doc__" 166 .none,hxE P "__package__" 167 .none,hxE P "__loader__" 168 (.builtin "__main__.__loader__#opaque"),hxE P "__spec__" 169 .none,hxE P "__annotations__" 170 (.ref 6),hxE P "__builtins__" 171 (.ref 4),hxE P "__file__" 173 (hxS "/claim/cut.py" 172),hxE P "__cached__" 174 .none,hxE P "MoorError" 206 (.ref 24),hxE P "Stuck" 231 (.ref 44),hxE P "covers" 243 (.ref 53),hxE P "able" 251 (.ref 60),hxE P "after" 257 (.ref 65),hxE P "change" 263 (.ref 70),hxE P "least" 274 (.ref 77),hxE P "lifted" 283 (.ref 84),hxE P "source" 289 (.ref 89),hxE P "sources" 295 (.ref 94),hxE P "step_back" 303 (.ref 101),hxE P "is_shut" 309 (.ref 106),hxE P "enough" 322 (.ref 113),hxE P "cover" 333 (.ref 120),hxE P "ending" 345 (.ref 127),hxE P "row_inward" 357 (.ref 134),hxE P "moves_into" 363 (.ref 139),hxE P "never" 369 (.ref 144),hxE P "is_never" 376 (.ref 151),hxE P "under" 388 (.ref 158),hxE P "under_any" 397 (.ref 165),hxE P "cap_able" 405 (.ref 172),hxE P "cap_after" 411 (.ref 177),hxE P "raised" 417 (.ref 182),hxE P "tops" 426 (.ref 189),hxE P "sort_key" 432 (.ref 194),hxE P "growth" 443 (.ref 201),hxE P "grow" 449 (.ref 206),hxE P "way_back" 459 (.ref 213),hxE P "crown" 465 (.ref 218),hxE P "_law_cell" 476 (.ref 225),hxE P "_law_move" 482 (.ref 230),hxE P "_law_covers" 491 (.ref 237),hxE P "_law_behind" 497 (.ref 242),hxE P "_law_drawn" 503 (.ref 247),hxE P "_law_end" 513 (.ref 254),hxE P "_law_more" 524 (.ref 261),hxE P "_law_under" 530 (.ref 266),hxE P "_law_lifted" 536 (.ref 271),hxE P "_law_rows" 542 (.ref 276),hxE P "_law_caps" 548 (.ref 281),hxE P "_law_nevers" 560 (.ref 288),hxE P "law" 566 (.ref 293)] 52)) ::
 (nat_lit 15,hxO "tuple" (.seq #[(.type "ValueError")] 0)) ::
 (nat_lit 22,hxO "tuple" (.seq #[] 0)) ::
 (nat_lit 23,hxO "dict" (.dict #[hxE P "__module__" 196 (hxS "tokenmoor.errors" 187),hxE P "__firstlineno__" 200 (.int 2 199),hxE P "__static_attributes__" 201 (.ref 22),hxE P "__weakref__" 203 (.ref 25),hxE P "__doc__" 204 .none] 3)) ::
 (nat_lit 25,hxO "getset_descriptor" (.fields #[(hxS "__weakref__" 202),(.ref 24),(.builtin "ExceptionGroup.__weakref__"),.none])) ::
 (nat_lit 28,hxO "tuple" (.seq #[(.ref 24)] 0)) ::
 (nat_lit 40,hxO "code" (.fields #[(hxS "__init__" 219),(hxS "Stuck.__init__" 220),(hxS "/claim/cut.py" 221),(hxI 6),(hxI 2),(hxI 0),(hxI 0),(hxI 3),(.ref 35),(.bool true),(hxI 181),(.ref 36),.none,(.ref 37),(.ref 38),(.ref 39),(hxI 224),(hxI 6),(hxS "/claim/cut.py" 225)])) ::
 (nat_lit 42,hxO "tuple" (.seq #[(hxS "at" 227)] 0)) ::
 (nat_lit 43,hxO "dict" (.dict #[hxE P "__module__" 214 (hxS "tokenmoor.errors" 187),hxE P "__firstlineno__" 218 (.int 4 217),hxE P "__init__" 226 (.ref 41),hxE P "__static_attributes__" 228 (.ref 42),hxE P "__doc__" 229 .none] 2)) ::
 (nat_lit 52,hxO "code" (hxD "covers" 234 9 2 47 48 (.ref 49) (.ref 50) 51 241 242)) ::
 (nat_lit 53,hxG "covers" 4 U6 52) ::
 (nat_lit 59,hxO "code" (hxD "able" 244 14 2 54 55 (.ref 56) (.ref 57) 58 249 250)) ::
 (nat_lit 60,hxG "able" 5 U6 59) ::
 (nat_lit 64,hxO "code" (hxD "after" 252 16 2 61 62 .none .none 63 255 256)) ::
 (nat_lit 65,hxG "after" 6 U6 64) ::
 (nat_lit 69,hxO "code" (hxD "change" 258 20 1 66 67 .none .none 68 261 262)) ::
 (nat_lit 70,hxG "change" 7 U6 69) ::
 (nat_lit 76,hxO "code" (hxD "least" 266 23 1 71 72 (.ref 73) (.ref 74) 75 272 273)) ::
 (nat_lit 77,hxG "least" 9 J5 76) ::
 (nat_lit 83,hxO "code" (hxD "lifted" 275 29 2 78 79 (.ref 80) (.ref 81) 82 281 282)) ::
 (nat_lit 84,hxG "lifted" 10 J5 83) ::
 (nat_lit 88,hxO "code" (hxD "source" 284 34 2 85 86 .none .none 87 287 288)) ::
 (nat_lit 89,hxG "source" 11 J5 88) ::
 (nat_lit 93,hxO "code" (hxD "sources" 290 36 2 90 91 .none .none 92 293 294)) ::
 (nat_lit 94,hxG "sources" 12 J5 93) ::
 (nat_lit 100,hxO "code" (hxD "step_back" 296 41 2 95 96 (.ref 97) (.ref 98) 99 301 302)) ::
 (nat_lit 101,hxG "step_back" 13 J5 100) ::
 (nat_lit 105,hxO "code" (hxD "is_shut" 304 43 2 102 103 .none .none 104 307 308)) ::
 (nat_lit 106,hxG "is_shut" 14 J5 105) ::
 (nat_lit 112,hxO "code" (hxD "enough" 312 46 3 107 108 (.ref 109) (.ref 110) 111 320 321)) ::
 (nat_lit 113,hxG "enough" 16 D7 112) ::
 (nat_lit 119,hxO "code" (hxD "cover" 323 53 3 114 115 (.ref 116) (.ref 117) 118 331 332)) ::
 (nat_lit 120,hxG "cover" 17 D7 119) ::
 (nat_lit 126,hxO "code" (hxD "ending" 334 61 4 121 122 (.ref 123) (.ref 124) 125 343 344)) ::
 (nat_lit 127,hxG "ending" 18 D7 126) ::
 (nat_lit 133,hxO "code" (hxD "row_inward" 346 71 2 128 129 (.ref 130) (.ref 131) 132 355 356)) ::
 (nat_lit 134,hxG "row_inward" 19 D7 133) ::
 (nat_lit 138,hxO "code" (hxD "moves_into" 358 79 3 135 136 .none .none 137 361 362)) ::
 (nat_lit 139,hxG "moves_into" 20 D7 138) ::
 (nat_lit 143,hxO "code" (hxD "never" 364 81 2 140 141 .none .none 142 367 368)) ::
 (nat_lit 144,hxG "never" 21 D7 143) ::
 (nat_lit 150,hxO "code" (hxD "is_never" 370 83 1 145 146 (.ref 147) (.ref 148) 149 374 375)) ::
 (nat_lit 151,hxG "is_never" 22 D7 150) ::
 (nat_lit 157,hxO "code" (hxD "under" 379 88 2 152 153 (.ref 154) (.ref 155) 156 386 387)) ::
 (nat_lit 158,hxG "under" 24 p8 157) ::
 (nat_lit 164,hxO "code" (hxD "under_any" 389 93 2 159 160 (.ref 161) (.ref 162) 163 395 396)) ::
 (nat_lit 165,hxG "under_any" 25 p8 164) ::
 (nat_lit 171,hxO "code" (hxD "cap_able" 398 98 2 166 167 (.ref 168) (.ref 169) 170 403 404)) ::
 (nat_lit 172,hxG "cap_able" 26 p8 171) ::
 (nat_lit 176,hxO "code" (hxD "cap_after" 406 100 2 173 174 .none .none 175 409 410)) ::
 (nat_lit 177,hxG "cap_after" 27 p8 176) ::
 (nat_lit 181,hxO "code" (hxD "raised" 412 104 2 178 179 .none .none 180 415 416)) ::
 (nat_lit 182,hxG "raised" 28 p8 181) ::
 (nat_lit 188,hxO "code" (hxD "tops" 418 108 1 183 184 (.ref 185) (.ref 186) 187 424 425)) ::
 (nat_lit 189,hxG "tops" 29 p8 188) ::
 (nat_lit 193,hxO "code" (hxD "sort_key" 427 115 1 190 191 .none .none 192 430 431)) ::
 (nat_lit 194,hxG "sort_key" 30 p8 193) ::
 (nat_lit 200,hxO "code" (hxD "growth" 433 117 2 195 196 (.ref 197) (.ref 198) 199 441 442)) ::
 (nat_lit 201,hxG "growth" 31 p8 200) ::
 (nat_lit 205,hxO "code" (hxD "grow" 444 127 4 202 203 .none .none 204 447 448)) ::
 (nat_lit 206,hxG "grow" 32 p8 205) ::
 (nat_lit 212,hxO "code" (hxD "way_back" 450 136 2 207 208 (.ref 209) (.ref 210) 211 457 458)) ::
 (nat_lit 213,hxG "way_back" 33 p8 212) ::
 (nat_lit 217,hxO "code" (hxD "crown" 460 143 2 214 215 .none .none 216 463 464)) ::
 (nat_lit 218,hxG "crown" 34 p8 217) ::
 (nat_lit 224,hxO "code" (hxD "_law_cell" 468 149 2 219 220 (.ref 221) (.ref 222) 223 474 475)) ::
 (nat_lit 225,hxG "_law_cell" 36 n4 224) ::
 (nat_lit 229,hxO "code" (hxD "_law_move" 477 156 5 226 227 .none .none 228 480 481)) ::
 (nat_lit 230,hxG "_law_move" 37 n4 229) ::
 (nat_lit 236,hxO "code" (hxD "_law_covers" 483 169 2 231 232 (.ref 233) (.ref 234) 235 489 490)) ::
 (nat_lit 237,hxG "_law_covers" 38 n4 236) ::
 (nat_lit 241,hxO "code" (hxD "_law_behind" 492 174 2 238 239 .none .none 240 495 496)) ::
 (nat_lit 242,hxG "_law_behind" 39 n4 241) ::
 (nat_lit 246,hxO "code" (hxD "_law_drawn" 498 176 3 243 244 .none .none 245 501 502)) ::
 (nat_lit 247,hxG "_law_drawn" 40 n4 246) ::
 (nat_lit 253,hxO "code" (hxD "_law_end" 504 183 3 248 249 (.ref 250) (.ref 251) 252 511 512)) ::
 (nat_lit 254,hxG "_law_end" 41 n4 253) ::
 (nat_lit 260,hxO "code" (hxD "_law_more" 514 189 2 255 256 (.ref 257) (.ref 258) 259 522 523)) ::
 (nat_lit 261,hxG "_law_more" 42 n4 260) ::
 (nat_lit 265,hxO "code" (hxD "_law_under" 525 198 2 262 263 .none .none 264 528 529)) ::
 (nat_lit 266,hxG "_law_under" 43 n4 265) ::
 (nat_lit 270,hxO "code" (hxD "_law_lifted" 531 200 2 267 268 .none .none 269 534 535)) ::
 (nat_lit 271,hxG "_law_lifted" 44 n4 270) ::
 (nat_lit 275,hxO "code" (hxD "_law_rows" 537 202 6 272 273 .none .none 274 540 541)) ::
 (nat_lit 276,hxG "_law_rows" 45 n4 275) ::
 (nat_lit 280,hxO "code" (hxD "_law_caps" 543 211 3 277 278 .none .none 279 546 547)) ::
 (nat_lit 281,hxG "_law_caps" 46 n4 280) ::
 (nat_lit 287,hxO "code" (hxD "_law_nevers" 549 220 3 282 283 (.ref 284) (.ref 285) 286 558 559)) ::
 (nat_lit 288,hxG "_law_nevers" 47 n4 287) ::
 (nat_lit 292,hxO "code" (hxD "law" 561 229 1 289 290 .none .none 291 564 565)) ::
 (nat_lit 293,hxG "law" 48 n4 292) ::
 []
abbrev hk (w:World):Frag:=qW w.params
structure Blt (mg:Str->Option Value):Prop where
 all_:mg "all" = none
 enumerate_:mg "enumerate" = none
 int_:mg "int" = none
 len_:mg "len" = none
 list_:mg "list" = none
 max_:mg "max" = none
 range_:mg "range" = none
 reversed_:mg "reversed" = none
 sorted_:mg "sorted" = none
 tuple_:mg "tuple" = none
 zip_:mg "zip" = none
def En (w:World) (mg:Str->Option Value):Prop:=∃ h:Heap,(hk w).In h/\h.Ns mainGlobals mg
def bn {w:World} {mg:Str->Option Value} (Y:En w mg) {x:Str} (e:PySem.W.nsIn (hk w) mainGlobals x=some none):mg x=none:=Y.elim fun _ q=>PySem.W.mg_none_of q.1 q.2 e
def bl {w:World} {mg:Str->Option Value} (Y:En w mg):Blt mg:=⟨bn Y (by kernel_rfl),bn Y (by kernel_rfl),bn Y (by kernel_rfl),bn Y (by kernel_rfl),bn Y (by kernel_rfl),bn Y (by kernel_rfl),bn Y (by kernel_rfl),bn Y (by kernel_rfl),bn Y (by kernel_rfl),bn Y (by kernel_rfl),bn Y (by kernel_rfl)⟩
abbrev FD (nm:String) (i:Nat) (pm:Value) (c:Nat):FuncData:=PySem.W.fnOf nm nm (Q8 (top i)) (E8 (top i)) (b9 (top i)) .none .none .none pm none (.ref c) .none
def dk {w:World} {mg:Str->Option Value} (Y:En w mg) {nm:String} {i c:Nat} {f:Addr} {pm:Value} {ps:List Str}
  (e:(PySem.W.nsIn (hk w) mainGlobals nm,(hk w).lookup f,PySem.W.codeIn (hk w) (.ref c) nm,PySem.W.keepIn (hk w) (.ref f))=(some (some (.ref f)),some (hxG nm i pm c),true,true))
  (hb:∀ (kV doc pm:Value) (an:Option Addr) (Gs ct:Value) (us:List Value),us.length=ps.length->bindArgs (PySem.W.fnOf nm nm (Q8 (top i)) (E8 (top i)) (b9 (top i)) .none kV doc pm an Gs ct) ⟨us,[]⟩=pure (ps.zip us)):Def (hk w) mg nm (top i) ps f (FD nm i pm c):=by
 obtain ⟨h,X,G⟩:=Y
 injection e with a e
 injection e with l e
 injection e with c k
 have F:=Cn (st:=top i) l c k
 exact ⟨F,PySem.W.mg_of X G a,F.binds hb⟩
def okF {P:Program} {w:World} {K:Frag} {mg:Str->Option Value} {base:Heap} {x:Str} {st:Stmt} {ps:List Str} {f:Addr} {fd:FuncData} (D:Def K mg x st ps f fd) {N:List Str} {k n l:Nat} {d:Mode} {m:Rho->R Fl} (S:e9 N ps (b9 st)) (hd:d=.F\/d=.V) (hn:ps.length=n) (hl:N.length=l) (b:∀ {Gs:Value} {A:Around} {outer:List Env} {s:Shared} {H:Hp} {E:XK},Room k (A.deeper (PyProof.Rows.envOfC x (b9 st) s.heap.objs.size f Gs))->PSs (bo CX0 P w K mg base N x (b9 st) f Gs A outer s H E).nox (E8 st) (tSt K (fun _ _=>False) d m)):FnOk P w K mg base CX0 (k+1) f fd ps (spM K n d (g8 n l m)):=by
 subst hn hl
 exact D.F.ok S (fun _ _ _ _ h=>h.1) fun Gs A outer s H vs Q E hr h=>⟨_,b hr,Dz hd h⟩
def okI {P:Program} {w:World} {K:Frag} {mg:Str->Option Value} {base:Heap} {x:Str} {st:Stmt} {ps:List Str} {f:Addr} {fd:FuncData} (D:Def K mg x st ps f fd) {N:List Str} {k n l:Nat} {m:Addr->Rho->R Fl} (S:e9 N ps (b9 st)) (hn:ps.length=n) (hl:N.length=l) (b:∀ (p:Addr) {Gs:Value} {A:Around} {outer:List Env} {s:Shared} {H:Hp} {E:XK},Room k (A.deeper (PyProof.Rows.envOfC x (b9 st) s.heap.objs.size f Gs))->PSs (bo CX0 P w K mg base N x (b9 st) f Gs A outer s H E).nox (E8 st) (tStI K (fun _ _=>False) p (m p))):FnOk P w K mg base CX0 (k+1) f fd ps (fZ K n (G7 n l m)):=by
 subst hn hl
 exact D.F.ok S (fun _ _ _ _ h=>h.1) fun Gs A outer s H vs Q E hr h=>(yH h).elim fun p q=>⟨_,b p hr,q⟩
def okX {P:Program} {w:World} {K:Frag} {mg:Str->Option Value} {base:Heap} {x:Str} {st:Stmt} {ps:List Str} {f:Addr} {fd:FuncData} (D:Def K mg x st ps f fd) {N:List Str} {k n l:Nat} {m:Rho->R Fl} (S:e9 N ps (b9 st))  (hn:ps.length=n) (hl:N.length=l) (b:∀ {Gs:Value} {A:Around} {outer:List Env} {s:Shared} {H:Hp} {E:XK},Room k (A.deeper (PyProof.Rows.envOfC x (b9 st) s.heap.objs.size f Gs))->PSs (bo CX0 P w K mg base N x (b9 st) f Gs A outer s H E).nox (E8 st) (tSt K (fun _ _=>False) .V m)):FnOk P w K mg base CX0 (k+1) f fd ps (spX K n (N1 n l m)):=by
 subst hn hl
 exact D.F.ok S (fun _ _ _ _ h=>h.1) fun Gs A outer s H vs Q E hr h=>⟨_,b hr,yG h⟩
def us0 {P:List Value->Prop} (h:P []):∀ us:List Value,us.length=0->P us:=fun us e=>by
 rw [List.length_eq_zero_iff.mp e]; exact h
def us1 {P:List Value->Prop} (h:∀ a0,P [a0]):∀ us:List Value,us.length=1->P us:=fun us e=>by
 cases us with
 | nil=>cases e
 | cons a us=>exact us0 (P:=fun us=>P (a::us)) (h a) us (Nat.succ.inj e)
def us2 {P:List Value->Prop} (h:∀ a0 a1,P [a0,a1]):∀ us:List Value,us.length=2->P us:=fun us e=>by
 cases us with
 | nil=>cases e
 | cons a us=>exact us1 (P:=fun us=>P (a::us)) (fun a1=>h a a1) us (Nat.succ.inj e)
def us3 {P:List Value->Prop} (h:∀ a0 a1 a2,P [a0,a1,a2]):∀ us:List Value,us.length=3->P us:=fun us e=>by
 cases us with
 | nil=>cases e
 | cons a us=>exact us2 (P:=fun us=>P (a::us)) (fun a1 a2=>h a a1 a2) us (Nat.succ.inj e)
def us4 {P:List Value->Prop} (h:∀ a0 a1 a2 a3,P [a0,a1,a2,a3]):∀ us:List Value,us.length=4->P us:=fun us e=>by
 cases us with
 | nil=>cases e
 | cons a us=>exact us3 (P:=fun us=>P (a::us)) (fun a1 a2 a3=>h a a1 a2 a3) us (Nat.succ.inj e)
def us5 {P:List Value->Prop} (h:∀ a0 a1 a2 a3 a4,P [a0,a1,a2,a3,a4]):∀ us:List Value,us.length=5->P us:=fun us e=>by
 cases us with
 | nil=>cases e
 | cons a us=>exact us4 (P:=fun us=>P (a::us)) (fun a1 a2 a3 a4=>h a a1 a2 a3 a4) us (Nat.succ.inj e)
def us6 {P:List Value->Prop} (h:∀ a0 a1 a2 a3 a4 a5,P [a0,a1,a2,a3,a4,a5]):∀ us:List Value,us.length=6->P us:=fun us e=>by
 cases us with
 | nil=>cases e
 | cons a us=>exact us5 (P:=fun us=>P (a::us)) (fun a1 a2 a3 a4 a5=>h a a1 a2 a3 a4 a5) us (Nat.succ.inj e)
def eh:e9 ["stand", "other", "number", "wanted"] ["stand", "other"] (b9 (top 4)):=by trivial
def zG:e9 ["stand", "move"] ["stand", "move"] (b9 (top 5)):=by trivial
def sX:e9 ["move"] ["move"] (b9 (top 7)):=by trivial
def wx:e9 ["stand", "move"] ["stand", "move"] (b9 (top 6)):=by trivial
def jo:e9 ["stand", "basis", "low"] ["stand", "basis"] (b9 (top 10)):=by trivial
def gd:e9 ["stands", "found", "stand"] ["stands"] (b9 (top 9)):=by trivial
def sT:e9 ["stand", "move"] ["stand", "move"] (b9 (top 11)):=by trivial
def bN:e9 ["moves", "basis", "found", "move"] ["moves", "basis"] (b9 (top 12)):=by trivial
def lG:e9 ["moves", "basis"] ["moves", "basis"] (b9 (top 13)):=by trivial
def pQ:e9 ["moves", "basis"] ["moves", "basis"] (b9 (top 14)):=by trivial
def ef:e9 ["moves", "rings", "most", "word", "ring", "number"] ["moves", "rings", "most", "word"] (b9 (top 18)):=by trivial
def aT:e9 ["moves", "target", "most", "rings", "told"] ["moves", "target", "most"] (b9 (top 16)):=by trivial
def jl:e9 ["stand", "moves", "ring"] ["stand", "moves", "ring"] (b9 (top 20)):=by trivial
def E2:e9 ["moor", "rings", "row", "here", "ring", "number"] ["moor", "rings"] (b9 (top 19)):=by trivial
def ge:e9 ["moor", "target", "most", "rings", "told"] ["moor", "target", "most"] (b9 (top 17)):=by trivial
def nJ:e9 ["told"] ["told"] (b9 (top 22)):=by trivial
def ww:e9 ["moor", "most"] ["moor", "most"] (b9 (top 21)):=by trivial
def gc:e9 ["cap", "other", "number", "bound"] ["cap", "other"] (b9 (top 24)):=by trivial
def dE:e9 ["cap", "caps", "other"] ["cap", "caps"] (b9 (top 25)):=by trivial
def nK:e9 ["cap", "move"] ["cap", "move"] (b9 (top 26)):=by trivial
def lH:e9 ["cap", "move"] ["cap", "move"] (b9 (top 27)):=by trivial
def sW:e9 ["cap", "elder"] ["cap", "elder"] (b9 (top 28)):=by trivial
def nI:e9 ["cap"] ["cap"] (b9 (top 30)):=by trivial
def jj:e9 ["caps", "found", "cap"] ["caps"] (b9 (top 29)):=by trivial
def U9:e9 ["tree", "number", "numbers", "at"] ["tree", "number"] (b9 (top 33)):=by trivial
def bO:e9 ["moor", "tree", "at", "number", "move", "cap", "elder"] ["moor", "tree", "at", "number"] (b9 (top 32)):=by trivial
def W8:e9 ["moor", "most", "tree", "at", "number"] ["moor", "most"] (b9 (top 31)):=by trivial
def mf:e9 ["moor", "most", "tree"] ["moor", "most"] (b9 (top 34)):=by trivial
def am:e9 ["_law_script", "_law_k", "_law_number"] ["_law_script", "_law_k"] (b9 (top 36)):=by trivial
def x8:e9 ["_law_script", "_law_at", "_law_many", "_law_plain", "_law_times", "_law_take", "_law_put", "_law_p", "_law_cell_here", "_law_one", "_law_other"] ["_law_script", "_law_at", "_law_many", "_law_plain", "_law_times"] (b9 (top 37)):=by trivial
def bw:e9 ["_law_stand", "_law_other", "_law_p"] ["_law_stand", "_law_other"] (b9 (top 38)):=by trivial
def iF:e9 ["_law_stand", "_law_move_here"] ["_law_stand", "_law_move_here"] (b9 (top 39)):=by trivial
def K3:e9 ["_law_script", "_law_begin", "_law_moves", "_law_stand", "_law_k", "_law_goers"] ["_law_script", "_law_begin", "_law_moves"] (b9 (top 40)):=by trivial
def aU:e9 ["_law_row", "_law_stand", "_law_moves", "_law_k"] ["_law_row", "_law_stand", "_law_moves"] (b9 (top 41)):=by trivial
def S1:e9 ["_law_script", "_law_begin", "_law_more_here", "_law_p", "_law_cell_here"] ["_law_script", "_law_begin"] (b9 (top 42)):=by trivial
def jr:e9 ["_law_cap", "_law_other"] ["_law_cap", "_law_other"] (b9 (top 43)):=by trivial
def iE:e9 ["_law_stand", "_law_basis"] ["_law_stand", "_law_basis"] (b9 (top 44)):=by trivial
def S0:e9 ["_law_found", "_law_land", "_law_richer", "_law_more_here", "_law_target", "_law_most", "_law_here", "_law_there", "_law_other"] ["_law_found", "_law_land", "_law_richer", "_law_more_here", "_law_target", "_law_most"] (b9 (top 45)):=by trivial
def S2:e9 ["_law_land", "_law_richer", "_law_most", "_law_lower", "_law_upper", "_law_cap"] ["_law_land", "_law_richer", "_law_most"] (b9 (top 46)):=by trivial
def M2:e9 ["_law_land", "_law_richer", "_law_most", "_law_lower", "_law_upper", "_law_k"] ["_law_land", "_law_richer", "_law_most"] (b9 (top 47)):=by trivial
def D2:e9 ["_law_script", "_law_many", "_law_most", "_law_plain", "_law_times", "_law_moves", "_law_k", "_law_begin", "_law_land", "_law_more_here", "_law_richer", "_law_target", "_law_found", "_law_basis", "_law_other"] ["_law_script"] (b9 (top 48)):=by trivial
section
variable {P:Program} {w:World} {mg:Str->Option Value} {base:Heap} (Y:En w mg)
include Y
def Q9:Def (hk w) mg "covers" (top 4) ["stand", "other"] 53 (FD "covers" 4 U6 52):=dk Y (by kernel_rfl) fun _ _ _ _ _ _=>us2 fun _ _=>rfl
def jN:FnOk P w (hk w) mg base CX0 1 53 (FD "covers" 4 U6 52) ["stand", "other"] (spM (hk w) 2 .F Y3):=
 okF (Q9 Y) eh (.inl rfl) rfl rfl fun hr=>(c8 (@D0 _ _ _ _ _ _ _ _ _ _ _ _ _ qD4 rfl (@qg _ _ _ _ _ _ _ _ _ _ _ (by rfl) (bl Y).zip_ (b6 (qv .U 0) (b6 (qv .U 1) b8)) (by rfl) (by rfl) (by rfl)) (@O3 _ (hk w) _ _ _ _ 2 rfl (@n9 _ _ _ _ _ (@e8 _ _ 2 _ eh.nd rfl (by trivial) (by trivial)) (@n9 _ _ _ _ _ (@e8 _ _ 3 _ eh.nd rfl (by trivial) (by trivial)) O2 (by rfl)) (by rfl)) (by rfl) (by rfl) (by rfl)) (U4 (.inr rfl) (o6 (.inr rfl) i7 (o6 (.inr rfl) i7 O6))) (c6 (j6 (@f9 _ _ _ _ _ _ _ _ _ _ _ _ fk xLt (qv .B 2) (qv .B 3) (by trivial)) (c6 (g5 z9)) j5)) (by intro _; rfl)) (c6 (g5 z9)))
def bm:Def (hk w) mg "able" (top 5) ["stand", "move"] 60 (FD "able" 5 U6 59):=dk Y (by kernel_rfl) fun _ _ _ _ _ _=>us2 fun _ _=>rfl
def qy:FnOk P w (hk w) mg base CX0 2 60 (FD "able" 5 U6 59) ["stand", "move"] (spM (hk w) 2 .F fK):=
 okF (bm Y) zG (.inl rfl) rfl rfl fun hr=>(c6 (g5 (@d5 _ _ _ _ _ _ _ _ _ _ _ _ _ _ _ _ (jN Y) (.inl rfl) (by trivial) (by rfl) (Q9 Y).m (Q9 Y).F.kp (Q9 Y).b (b6 (qv .B 0) (b6 (f6 (d7 (qv .B 1) c7)) b8)) (by decide) (by rfl) (by rfl))))
def R0:Def (hk w) mg "change" (top 7) ["move"] 70 (FD "change" 7 U6 69):=dk Y (by kernel_rfl) fun _ _ _ _ _ _=>us1 fun _=>rfl
def jO:FnOk P w (hk w) mg base CX0 1 70 (FD "change" 7 U6 69) ["move"] (spM (hk w) 1 .F Y4):=
 okF (R0 Y) sX (.inl rfl) rfl rfl fun hr=>(c6 (g5 (@J3 _ _ _ _ _ _ _ _ _ _ _ _ _ _ G0 (F9 (c:=true)) (by rfl) (bl Y).tuple_ t7 (b6 (g7 (@u7 _ _ _ _ _ _ _ _ _ _ _ _ _ _ _ _ (show g6 (b9 (top 7)) _ ["move"] ["move", "take", "put"] from by trivial) rfl (@bT _ _ _ _ _ _ _ _ _ _ _ (by rfl) (bl Y).zip_ (b6 (f6 (d7 (qv .B 0) c7)) (b6 (f6 (d7 (qv .B 0) c7)) b8)) (by rfl) (by rfl) (by rfl)) (fun _ _ _ _=>(@O3 _ (hk w) _ _ _ _ 2 rfl (@n9 _ _ _ _ _ (@e8 _ _ 1 _ (by decide +kernel:(["move", "take", "put"]:List Str).Nodup) rfl (Or.inl rfl) (.inr rfl)) (@n9 _ _ _ _ _ (@e8 _ _ 2 _ (by decide +kernel:(["move", "take", "put"]:List Str).Nodup) rfl (Or.inl rfl) (.inr rfl)) O2 (by rfl)) (by rfl)) (by rfl) (by rfl) (by rfl))) (U4 (.inr rfl) (o6 (.inr rfl) i7 (o6 (.inr rfl) i7 O6))) (aF (B8 (show 1<=1 by decide) (B8 (show 1<=2 by decide) aG))) (fun _ _ _ _=>w8) (fun _ _ _ _=>(f7 fj no (qv .B 2) (qv .B 1))) (by intro _; rfl))) b8) (by decide) (by decide) (by rfl) (by rfl))))
def Y9:Def (hk w) mg "after" (top 6) ["stand", "move"] 65 (FD "after" 6 U6 64):=dk Y (by kernel_rfl) fun _ _ _ _ _ _=>us2 fun _ _=>rfl
def mE:FnOk P w (hk w) mg base CX0 3 65 (FD "after" 6 U6 64) ["stand", "move"] (spM (hk w) 2 .F aH):=
 okF (Y9 Y) wx (.inl rfl) rfl rfl fun hr=>(c8 (j6 (G8 (@y4 _ _ _ _ _ (i6 (g7 (@d5 _ _ _ _ _ _ _ _ _ _ _ _ _ _ _ _ (qy Y) (.inl rfl) (by trivial) (by rfl) (bm Y).m (bm Y).F.kp (bm Y).b (b6 (qv .B 0) (b6 (qv .B 1) b8)) (by decide) (by rfl) (by rfl)))) (by intro _; rfl))) (c6 mt) j5) (c6 (g5 (@J3 _ _ _ _ _ _ _ _ _ _ _ _ _ _ G0 (F9 (c:=true)) (by rfl) (bl Y).tuple_ t7 (b6 (g7 (@u7 _ _ _ _ _ _ _ _ _ _ _ _ _ _ _ _ (show g6 (b9 (top 6)) _ ["stand", "move"] ["stand", "move", "number", "step"] from by trivial) rfl (@bT _ _ _ _ _ _ _ _ _ _ _ (by rfl) (bl Y).zip_ (b6 (qv .B 0) (b6 (i6 (g7 (@d5 _ _ _ _ _ _ _ _ _ _ _ _ _ _ _ _ (jO Y) (.inl rfl) (by trivial) (by rfl) (R0 Y).m (R0 Y).F.kp (R0 Y).b (b6 (qv .B 1) b8) (by decide) (by rfl) (by rfl)))) b8)) (by rfl) (by rfl) (by rfl)) (fun _ _ _ _=>(@O3 _ (hk w) _ _ _ _ 2 rfl (@n9 _ _ _ _ _ (@e8 _ _ 2 _ (by decide +kernel:(["stand", "move", "number", "step"]:List Str).Nodup) rfl (Or.inl rfl) (.inr rfl)) (@n9 _ _ _ _ _ (@e8 _ _ 3 _ (by decide +kernel:(["stand", "move", "number", "step"]:List Str).Nodup) rfl (Or.inl rfl) (.inr rfl)) O2 (by rfl)) (by rfl)) (by rfl) (by rfl) (by rfl))) (U4 (.inr rfl) (o6 (.inr rfl) i7 (o6 (.inr rfl) i7 O6))) (aF (B8 (show 2<=2 by decide) (B8 (show 2<=3 by decide) aG))) (fun _ _ _ _=>w8) (fun _ _ _ _=>(f7 o9 D1 (qv .B 2) (qv .B 3))) (by intro _; rfl))) b8) (by decide) (by decide) (by rfl) (by rfl)))))
def B9:Def (hk w) mg "lifted" (top 10) ["stand", "basis"] 84 (FD "lifted" 10 J5 83):=dk Y (by kernel_rfl) fun _ _ _ _ _ _=>us2 fun _ _=>rfl
def aY:FnOk P w (hk w) mg base CX0 2 84 (FD "lifted" 10 J5 83) ["stand", "basis"] (spM (hk w) 2 .F N4):=
 okF (B9 Y) jo (.inl rfl) rfl rfl fun hr=>(c8 (@D0 _ _ _ _ _ _ _ _ _ _ _ _ _ qD4 rfl (@U2 _ _ _ _ _ _ (qv .U 1) (by rfl)) (@e8 _ _ 2 _ jo.nd rfl (by trivial) (by trivial)) i7 (c6 (j6 (@y4 _ _ _ _ _ (i6 (g7 (@d5 _ _ _ _ _ _ _ _ _ _ _ _ _ _ _ _ (jN Y) (.inl rfl) (by trivial) (by rfl) (Q9 Y).m (Q9 Y).F.kp (Q9 Y).b (b6 (qv .B 0) (b6 (qv .B 2) b8)) (by decide) (by rfl) (by rfl)))) (by intro _; rfl)) (c6 (g5 z9)) j5)) (by intro _; rfl)) (c6 (g5 z9)))
def fL:Def (hk w) mg "least" (top 9) ["stands"] 77 (FD "least" 9 J5 76):=dk Y (by kernel_rfl) fun _ _ _ _ _ _=>us1 fun _=>rfl
def xg:FnOk P w (hk w) mg base CX0 3 77 (FD "least" 9 J5 76) ["stands"] (spM (hk w) 1 .F di):=
 okF (fL Y) gd (.inl rfl) rfl rfl fun hr=>(c8 (@i8 _ _ _ _ _ _ _ 1 _ _ gd.nd rfl (by trivial) (D4 b8) (by rfl) (by trivial)) (c8 (@D0 _ _ _ _ _ _ _ _ _ _ _ _ _ qD4 rfl (@U2 _ _ _ _ _ _ (nS (C5 (@w4 _ _ _ _ _ _ _ _ _ _ _ _ _ _ oE (yL (c:=false)) (by rfl) (bl Y).sorted_ iB (b6 (qv .B 0) b8) (by decide) (by decide) (by rfl) (by rfl)))) (by rfl)) (@e8 _ _ 2 _ gd.nd rfl (by trivial) (by trivial)) i7 (c6 (j6 (G8 (@y4 _ _ _ _ _ (i6 (g7 (@d5 _ _ _ _ _ _ _ _ _ _ _ _ _ _ _ _ (aY Y) (.inl rfl) (by trivial) (by rfl) (B9 Y).m (B9 Y).F.kp (B9 Y).b (b6 (qv .B 2) (b6 (qv .B 1) b8)) (by decide) (by rfl) (by rfl)))) (by intro _; rfl))) (c6 (@P0 _ _ _ _ _ _ _ 1 _ _ _ _ rfl (by trivial) (qv .V 2) (by decide) (by decide) (by rfl) (by rfl) (by rfl) (by rfl) (by rfl))) j5)) (by intro _; rfl)) (c6 (@K4 _ _ _ _ _ 1 _ _ (.inl rfl) (by rfl) (by trivial) (by decide) (by decide)))))
def dq:Def (hk w) mg "source" (top 11) ["stand", "move"] 89 (FD "source" 11 J5 88):=dk Y (by kernel_rfl) fun _ _ _ _ _ _=>us2 fun _ _=>rfl
def uc:FnOk P w (hk w) mg base CX0 1 89 (FD "source" 11 J5 88) ["stand", "move"] (spM (hk w) 2 .F eN):=
 okF (dq Y) sT (.inl rfl) rfl rfl fun hr=>(c6 (g5 (@J3 _ _ _ _ _ _ _ _ _ _ _ _ _ _ G0 (F9 (c:=true)) (by rfl) (bl Y).tuple_ t7 (b6 (g7 (@u7 _ _ _ _ _ _ _ _ _ _ _ _ _ _ _ _ (show g6 (b9 (top 11)) _ ["stand", "move"] ["stand", "move", "number", "take", "put"] from by trivial) rfl (@bT _ _ _ _ _ _ _ _ _ _ _ (by rfl) (bl Y).zip_ (b6 (qv .B 0) (b6 (f6 (d7 (qv .B 1) c7)) (b6 (f6 (d7 (qv .B 1) c7)) b8))) (by rfl) (by rfl) (by rfl)) (fun _ _ _ _=>(@O3 _ (hk w) _ _ _ _ 3 rfl (@n9 _ _ _ _ _ (@e8 _ _ 2 _ (by decide +kernel:(["stand", "move", "number", "take", "put"]:List Str).Nodup) rfl (Or.inl rfl) (.inr rfl)) (@n9 _ _ _ _ _ (@e8 _ _ 3 _ (by decide +kernel:(["stand", "move", "number", "take", "put"]:List Str).Nodup) rfl (Or.inl rfl) (.inr rfl)) (@n9 _ _ _ _ _ (@e8 _ _ 4 _ (by decide +kernel:(["stand", "move", "number", "take", "put"]:List Str).Nodup) rfl (Or.inl rfl) (.inr rfl)) O2 (by rfl)) (by rfl)) (by rfl)) (by rfl) (by rfl) (by rfl))) (U4 (.inr rfl) (o6 (.inr rfl) i7 (o6 (.inr rfl) i7 (o6 (.inr rfl) i7 O6)))) (aF (B8 (show 2<=2 by decide) (B8 (show 2<=3 by decide) (B8 (show 2<=4 by decide) aG)))) (fun _ _ _ _=>w8) (fun _ _ _ _=>(@w4 _ _ _ _ _ _ _ _ _ _ _ _ _ _ (rF rfl) (b_2 (g:=ou)) (by rfl) (bl Y).max_ DE (b6 (qv .B 3) (b6 (f7 o9 D1 (f7 fj no (qv .B 2) (qv .B 4)) (qv .B 3)) b8)) (by decide) (by decide) (by rfl) (by rfl))) (by intro _; rfl))) b8) (by decide) (by decide) (by rfl) (by rfl))))
def N6:Def (hk w) mg "sources" (top 12) ["moves", "basis"] 94 (FD "sources" 12 J5 93):=dk Y (by kernel_rfl) fun _ _ _ _ _ _=>us2 fun _ _=>rfl
def ij:FnOk P w (hk w) mg base CX0 2 94 (FD "sources" 12 J5 93) ["moves", "basis"] (spM (hk w) 2 .F U5):=
 okF (N6 Y) bN (.inl rfl) rfl rfl fun hr=>(c8 (@i8 _ _ _ _ _ _ _ 2 _ _ bN.nd rfl (by trivial) (D4 b8) (by rfl) (by trivial)) (c8 (@D0 _ _ _ _ _ _ _ _ _ _ _ _ _ qD4 rfl (@U2 _ _ _ _ _ _ (qv .U 0) (by rfl)) (@e8 _ _ 3 _ bN.nd rfl (by trivial) (by trivial)) i7 (c6 (@Ei _ _ _ _ _ _ _ 2 true _ _ _ _ rfl (by trivial) (g7 (@u7 _ _ _ _ _ _ _ _ _ _ _ _ _ _ _ _ (show g6 (b9 (top 12)) _ ["moves", "basis", "found", "move"] ["moves", "basis", "found", "move", "stand"] from by trivial) rfl (@O9 _ _ _ _ _ _ (qv .B 1) (by rfl)) (fun _ _ _ _=>(@e8 _ _ 4 _ (by decide +kernel:(["moves", "basis", "found", "move", "stand"]:List Str).Nodup) rfl (Or.inl rfl) (.inr rfl))) i7 (v5 (show 4<=4 by decide)) (fun _ _ _ _=>w8) (fun _ _ _ _=>(C5 (@d5 _ _ _ _ _ _ _ _ _ _ _ _ _ _ _ _ (uc Y) (.inl rfl) (by trivial) (by rfl) (dq Y).m (dq Y).F.kp (dq Y).b (b6 (qv .B 4) (b6 (qv .B 3) b8)) (by decide) (by rfl) (by rfl)))) (by intro _; rfl))) (by rfl) (by decide) (by decide) (by rfl) (by rfl) (by rfl) (by rfl) (by rfl) (by rfl))) (by intro _; rfl)) (c6 (@K4 _ _ _ _ _ 2 _ _ (.inl rfl) (by rfl) (by trivial) (by decide) (by decide)))))
def F7:Def (hk w) mg "step_back" (top 13) ["moves", "basis"] 101 (FD "step_back" 13 J5 100):=dk Y (by kernel_rfl) fun _ _ _ _ _ _=>us2 fun _ _=>rfl
def dI:FnOk P w (hk w) mg base CX0 4 101 (FD "step_back" 13 J5 100) ["moves", "basis"] (spM (hk w) 2 .F J0):=
 okF (F7 Y) lG (.inl rfl) rfl rfl fun hr=>(c6 (g5 (@d5 _ _ _ _ _ _ _ _ _ _ _ _ _ _ _ _ (xg Y) (.inl rfl) (by trivial) (by rfl) (fL Y).m (fL Y).F.kp (fL Y).b (b6 (i6 (g7 (f7 AZ (Bf (c:=true)) (g7 (@J3 _ _ _ _ _ _ _ _ _ _ _ _ _ _ DW (DI (c:=false)) (by rfl) (bl Y).list_ yI (b6 (qv .B 1) b8) (by decide) (by decide) (by rfl) (by rfl))) (g7 (@d5 _ _ _ _ _ _ _ _ _ _ _ _ _ _ _ _ (ij Y) (.inl rfl) (by trivial) (by rfl) (N6 Y).m (N6 Y).F.kp (N6 Y).b (b6 (qv .B 0) (b6 (qv .B 1) b8)) (by decide) (by rfl) (by rfl)))))) b8) (by decide) (by rfl) (by rfl))))
def bj:Def (hk w) mg "is_shut" (top 14) ["moves", "basis"] 106 (FD "is_shut" 14 J5 105):=dk Y (by kernel_rfl) fun _ _ _ _ _ _=>us2 fun _ _=>rfl
def qx:FnOk P w (hk w) mg base CX0 3 106 (FD "is_shut" 14 J5 105) ["moves", "basis"] (spM (hk w) 2 .F cw):=
 okF (bj Y) pQ (.inl rfl) rfl rfl fun hr=>(c6 (g5 (@w4 _ _ _ _ _ _ _ _ _ _ _ _ _ _ (rJ rfl) (yM (g:=uR)) (by rfl) (bl Y).all_ DF (b6 (i6 (g7 (@u7 _ _ _ _ _ _ _ _ _ _ _ _ _ _ _ _ (show g6 (b9 (top 14)) _ ["moves", "basis"] ["moves", "basis", "stand"] from by trivial) rfl (@O9 _ _ _ _ _ _ (i6 (g7 (@d5 _ _ _ _ _ _ _ _ _ _ _ _ _ _ _ _ (ij Y) (.inl rfl) (by trivial) (by rfl) (N6 Y).m (N6 Y).F.kp (N6 Y).b (b6 (qv .B 0) (b6 (qv .B 1) b8)) (by decide) (by rfl) (by rfl)))) (by rfl)) (fun _ _ _ _=>(@e8 _ _ 2 _ (by decide +kernel:(["moves", "basis", "stand"]:List Str).Nodup) rfl (Or.inl rfl) (.inr rfl))) i7 (v5 (show 2<=2 by decide)) (fun _ _ _ _=>w8) (fun _ _ _ _=>(C5 (@d5 _ _ _ _ _ _ _ _ _ _ _ _ _ _ _ _ (aY Y) (.inl rfl) (by trivial) (by rfl) (B9 Y).m (B9 Y).F.kp (B9 Y).b (b6 (qv .B 2) (b6 (qv .B 1) b8)) (by decide) (by rfl) (by rfl)))) (by intro _; rfl)))) b8) (by decide) (by decide) (by rfl) (by rfl))))
def J1:Def (hk w) mg "ending" (top 18) ["moves", "rings", "most", "word"] 127 (FD "ending" 18 D7 126):=dk Y (by kernel_rfl) fun _ _ _ _ _ _=>us4 fun _ _ _ _=>rfl
def eE:FnOk P w (hk w) mg base CX0 4 127 (FD "ending" 18 D7 126) ["moves", "rings", "most", "word"] (spX (hk w) 4 N5):=
 okX (J1 Y) ef rfl rfl fun hr=>(c8 (@t9 _ _ _ _ _ _ _ 4 _ _ ef.nd rfl (by trivial) (nR (qv .C 1) (jD bG (jS (g:=X9) (fun _=>rfl) (fun _ _=>.int)) c7)) (by rfl) (by trivial)) (c8 (@t9 _ _ _ _ _ _ _ 5 _ _ ef.nd rfl (by trivial) (f7 fj no (@w4 _ _ _ _ _ _ _ _ _ _ _ _ _ _ t6 t5 (by rfl) (bl Y).len_ qC9 (b6 (qv .B 1) b8) (by decide) (by decide) (by rfl) (by rfl)) c7) (by rfl) (by trivial)) (c8 (j6 (@f9 _ _ _ _ _ _ _ _ _ _ _ _ cX xGt (@w4 _ _ _ _ _ _ _ _ _ _ _ _ _ _ t6 t5 (by rfl) (bl Y).len_ qC9 (b6 (qv .B 4) b8) (by decide) (by decide) (by rfl) (by rfl)) (qv .B 2) (by trivial)) (c6 (g5 (C5 (S3 (b6 C9 (b6 (qv .V 5) b8)))))) j5) (c8 (j6 (@y4 _ _ _ _ _ (i6 (g7 (@d5 _ _ _ _ _ _ _ _ _ _ _ _ _ _ _ _ (qx Y) (.inl rfl) (by trivial) (by rfl) (bj Y).m (bj Y).F.kp (bj Y).b (b6 (qv .B 0) (b6 (qv .B 4) b8)) (by decide) (by rfl) (by rfl)))) (by intro _; rfl)) (c6 (g5 (C5 (S3 (b6 (qv .V 3) (b6 (qv .V 4) b8)))))) j5) (c8 (j6 (@f9 _ _ _ _ _ _ _ _ _ _ _ _ (fm (bg hr)) (P2 (neg:=false)) (qv .B 5) (qv .B 2) (by trivial)) (c6 (g5 (C5 (S3 (b6 C9 (b6 (qv .V 5) b8)))))) j5) (c6 (g5 v7)))))))
def dw:Def (hk w) mg "enough" (top 16) ["moves", "target", "most"] 113 (FD "enough" 16 D7 112):=dk Y (by kernel_rfl) fun _ _ _ _ _ _=>us3 fun _ _ _=>rfl
def uf:FnOk P w (hk w) mg base CX0 5 113 (FD "enough" 16 D7 112) ["moves", "target", "most"] (spM (hk w) 3 .V eO):=
 okF (dw Y) aT (.inr rfl) rfl rfl fun hr=>(c8 (@i8 _ _ _ _ _ _ _ 3 _ _ aT.nd rfl (by trivial) (D4 (b6 (C5 (D4 (b6 (qv .V 1) b8))) b8)) (by rfl) (by trivial)) (c8 (@gx _ _ _ _ _ _ _ 4 _ [3] _ _ _ _ _ _ _ _ _ _ _ aT.nd rfl (by trivial) (eE Y) (by trivial) (by rfl) (J1 Y).m (J1 Y).F.kp (J1 Y).b (b6 (qv .V 0) (b6 (qv .V 3) (b6 (qv .V 2) (b6 C9 b8)))) (by decide) (by rfl) (by rfl) (by rfl) (by trivial)) (c8 (cS qD4 (@f9 _ _ _ _ _ _ _ _ _ _ _ _ L8 L9 (qv .B 4) v7 (by trivial)) (c8 (@P0 _ _ _ _ _ _ _ 3 _ _ _ _ rfl (by trivial) (C5 (@d5 _ _ _ _ _ _ _ _ _ _ _ _ _ _ _ _ (dI Y) (.inl rfl) (by trivial) (by rfl) (F7 Y).m (F7 Y).F.kp (F7 Y).b (b6 (qv .B 0) (b6 (f6 (d7 (qv .B 3) (jD bG (jS (g:=X9) (fun _=>rfl) (fun _ _=>.int)) c7))) b8)) (by decide) (by rfl) (by rfl))) (by decide) (by decide) (by rfl) (by rfl) (by rfl) (by rfl) (by rfl)) (c6 (@gx _ _ _ _ _ _ _ 4 _ [3] _ _ _ _ _ _ _ _ _ _ _ aT.nd rfl (by trivial) (eE Y) (by trivial) (by rfl) (J1 Y).m (J1 Y).F.kp (J1 Y).b (b6 (qv .V 0) (b6 (qv .V 3) (b6 (qv .V 2) (b6 C9 b8)))) (by decide) (by rfl) (by rfl) (by rfl) (by trivial))))) (c6 (@K4 _ _ _ _ _ 4 _ _ (.inr rfl) (by rfl) (by trivial) (by decide) (by decide))))))
def T0:Def (hk w) mg "moves_into" (top 20) ["stand", "moves", "ring"] 139 (FD "moves_into" 20 D7 138):=dk Y (by kernel_rfl) fun _ _ _ _ _ _=>us3 fun _ _ _=>rfl
def jM:FnOk P w (hk w) mg base CX0 4 139 (FD "moves_into" 20 D7 138) ["stand", "moves", "ring"] (spM (hk w) 3 .F Y1):=
 okF (T0 Y) jl (.inl rfl) rfl rfl fun hr=>(c6 (g5 (@u7 _ _ _ _ _ _ _ _ _ _ _ _ _ _ _ _ (show g6 (b9 (top 20)) _ ["stand", "moves", "ring"] ["stand", "moves", "ring", "number", "move"] from by trivial) rfl (@AE _ _ _ _ _ _ _ _ _ _ (by rfl) (bl Y).enumerate_ (b6 (qv .B 1) b8) (by rfl) (by rfl)) (fun _ _ _ _=>(@O3 _ (hk w) _ _ _ _ 2 rfl (@n9 _ _ _ _ _ (@e8 _ _ 3 _ (by decide +kernel:(["stand", "moves", "ring", "number", "move"]:List Str).Nodup) rfl (Or.inl rfl) (.inr rfl)) (@n9 _ _ _ _ _ (@e8 _ _ 4 _ (by decide +kernel:(["stand", "moves", "ring", "number", "move"]:List Str).Nodup) rfl (Or.inl rfl) (.inr rfl)) O2 (by rfl)) (by rfl)) (by rfl) (by rfl) (by rfl))) (U4 (.inr rfl) (o6 (.inr rfl) i7 (o6 (.inr rfl) i7 O6))) (aF (B8 (show 3<=3 by decide) (B8 (show 3<=4 by decide) aG))) (fun _ _ _ _=>(bU (PW.pt (U1 (@y4 _ _ _ _ _ (i6 (g7 (@d5 _ _ _ _ _ _ _ _ _ _ _ _ _ _ _ _ (qy Y) (.inl rfl) (by trivial) (by rfl) (bm Y).m (bm Y).F.kp (bm Y).b (b6 (qv .B 0) (b6 (qv .B 4) b8)) (by decide) (by rfl) (by rfl)))) (by intro _; rfl)) (O1 (@y4 _ _ _ _ _ (i6 (g7 (@d5 _ _ _ _ _ _ _ _ _ _ _ _ _ _ _ _ (aY Y) (.inl rfl) (by trivial) (by rfl) (B9 Y).m (B9 Y).F.kp (B9 Y).b (b6 (i6 (g7 (@d5 _ _ _ _ _ _ _ _ _ _ _ _ _ _ _ _ (mE Y) (.inl rfl) (by trivial) (by rfl) (Y9 Y).m (Y9 Y).F.kp (Y9 Y).b (b6 (qv .B 0) (b6 (qv .B 4) b8)) (by decide) (by rfl) (by rfl)))) (b6 (qv .B 2) b8)) (by decide) (by rfl) (by rfl)))) (by intro _; rfl))))))) (fun _ _ _ _=>(qv .V 3)) (by intro _; rfl))))
def S9:Def (hk w) mg "row_inward" (top 19) ["moor", "rings"] 134 (FD "row_inward" 19 D7 133):=dk Y (by kernel_rfl) fun _ _ _ _ _ _=>us2 fun _ _=>rfl
def jL:FnOk P w (hk w) mg base CX0 5 134 (FD "row_inward" 19 D7 133) ["moor", "rings"] (spX (hk w) 2 P5):=
 okX (S9 Y) E2 rfl rfl fun hr=>(c8 (@i8 _ _ _ _ _ _ _ 2 _ _ E2.nd rfl (by trivial) (D4 b8) (by rfl) (by trivial)) (c8 (@t9 _ _ _ _ _ _ _ 3 _ _ E2.nd rfl (by trivial) (nR (qv .C 0) c7) (by rfl) (by trivial)) (c8 (@D0 _ _ _ _ _ _ _ _ _ _ _ _ _ qD4 rfl (@Eg _ _ _ _ _ _ _ _ (by rfl) (bl Y).reversed_ (b6 (nS (C5 (@q_sl _ _ _ _ _ _ true _ _ _ _ _ (qv .C 1) q_pN (q_pS (jD bG (jS (g:=X9) (fun _=>rfl) (fun _ _=>.int)) c7)) (by rfl)))) b8) (by rfl) (by rfl)) (@e8 _ _ 4 _ E2.nd rfl (by trivial) (by trivial)) i7 (c8 (@t9 _ _ _ _ _ _ _ 5 _ _ E2.nd rfl (by trivial) (nR (g7 (@d5 _ _ _ _ _ _ _ _ _ _ _ _ _ _ _ _ (jM Y) (.inl rfl) (by trivial) (by rfl) (T0 Y).m (T0 Y).F.kp (T0 Y).b (b6 (qv .B 3) (b6 (f6 (d7 (qv .B 0) c7)) (b6 (qv .B 4) b8))) (by decide) (by rfl) (by rfl))) c7) (by rfl) (by trivial)) (c8 (@P0 _ _ _ _ _ _ _ 2 _ _ _ _ rfl (by trivial) (qv .V 5) (by decide) (by decide) (by rfl) (by rfl) (by rfl) (by rfl) (by rfl)) (c6 (@i8 _ _ _ _ _ _ _ 3 _ _ E2.nd rfl (by trivial) (@d5 _ _ _ _ _ _ _ _ _ _ _ _ _ _ _ _ (mE Y) (.inl rfl) (by trivial) (by rfl) (Y9 Y).m (Y9 Y).F.kp (Y9 Y).b (b6 (qv .B 3) (b6 (f6 (d7 (f6 (d7 (qv .B 0) c7)) (qv .B 5))) b8)) (by decide) (by rfl) (by rfl)) (by rfl) (by trivial))))) (by intro _; rfl)) (c6 (@K4 _ _ _ _ _ 2 _ _ (.inr rfl) (by rfl) (by trivial) (by decide) (by decide))))))
def E9:Def (hk w) mg "cover" (top 17) ["moor", "target", "most"] 120 (FD "cover" 17 D7 119):=dk Y (by kernel_rfl) fun _ _ _ _ _ _=>us3 fun _ _ _=>rfl
def cY:FnOk P w (hk w) mg base CX0 6 120 (FD "cover" 17 D7 119) ["moor", "target", "most"] (spM (hk w) 3 .V Q6):=
 okF (E9 Y) ge (.inr rfl) rfl rfl fun hr=>(c8 (@i8 _ _ _ _ _ _ _ 3 _ _ ge.nd rfl (by trivial) (D4 (b6 (C5 (D4 (b6 (qv .V 1) b8))) b8)) (by rfl) (by trivial)) (c8 (cS qD4 (G8 (@y4 _ _ _ _ _ (i6 (g7 (@d5 _ _ _ _ _ _ _ _ _ _ _ _ _ _ _ _ (aY Y) (.inl rfl) (by trivial) (by rfl) (B9 Y).m (B9 Y).F.kp (B9 Y).b (b6 (f6 (d7 (qv .B 0) c7)) (b6 (f6 (d7 (qv .B 3) (jD bG (jS (g:=X9) (fun _=>rfl) (fun _ _=>.int)) c7))) b8)) (by decide) (by rfl) (by rfl)))) (by intro _; rfl))) (c8 (@gx _ _ _ _ _ _ _ 4 _ [3] _ _ _ _ _ _ _ _ _ _ _ ge.nd rfl (by trivial) (eE Y) (by trivial) (by rfl) (J1 Y).m (J1 Y).F.kp (J1 Y).b (b6 (fc (d7 (qv .B 0) c7)) (b6 (qv .V 3) (b6 (qv .V 2) (b6 C9 b8)))) (by decide) (by rfl) (by rfl) (by rfl) (by trivial)) (c8 (j6 (@f9 _ _ _ _ _ _ _ _ _ _ _ _ cW cZ (qv .B 4) v7 (by trivial)) (c6 (@K4 _ _ _ _ _ 4 _ _ (.inr rfl) (by rfl) (by trivial) (by decide) (by decide))) j5) (c6 (@P0 _ _ _ _ _ _ _ 3 _ _ _ _ rfl (by trivial) (C5 (@d5 _ _ _ _ _ _ _ _ _ _ _ _ _ _ _ _ (dI Y) (.inl rfl) (by trivial) (by rfl) (F7 Y).m (F7 Y).F.kp (F7 Y).b (b6 (f6 (d7 (qv .B 0) c7)) (b6 (f6 (d7 (qv .B 3) (jD bG (jS (g:=X9) (fun _=>rfl) (fun _ _=>.int)) c7))) b8)) (by decide) (by rfl) (by rfl))) (by decide) (by decide) (by rfl) (by rfl) (by rfl) (by rfl) (by rfl)))))) (c6 (vF (g5 (C5 (S3 (b6 C9 (b6 (@wS _ _ _ _ _ _ _ _ _ _ _ _ _ _ _ (jL Y) (by trivial) (by rfl) (S9 Y).m (S9 Y).F.kp (S9 Y).b (b6 (qv .V 0) (b6 (qv .V 3) b8)) (by decide) (by rfl) (by rfl)) b8)))))))))
def ai:Def (hk w) mg "is_never" (top 22) ["told"] 151 (FD "is_never" 22 D7 150):=dk Y (by kernel_rfl) fun _ _ _ _ _ _=>us1 fun _=>rfl
def nV:FnOk P w (hk w) mg base CX0 1 151 (FD "is_never" 22 D7 150) ["told"] (spM (hk w) 1 .F L7):=
 okF (ai Y) nJ (.inl rfl) rfl rfl fun hr=>(c8 (j6 (@f9 _ _ _ _ _ _ _ _ _ _ _ _ L4 E4 (f6 (d7 (qv .B 0) c7)) C9 (by trivial)) (c6 (g5 v7)) j5) (c6 (g5 (@S4 _ _ _ _ _ _ _ _ _ _ _ _ _ L4 E4 (f6 (d7 (qv .B 0) c7)) C9 (by trivial)))))
def Y7:Def (hk w) mg "never" (top 21) ["moor", "most"] 144 (FD "never" 21 D7 143):=dk Y (by kernel_rfl) fun _ _ _ _ _ _=>us2 fun _ _=>rfl
def mB:FnOk P w (hk w) mg base CX0 7 144 (FD "never" 21 D7 143) ["moor", "most"] (spM (hk w) 2 .F dh):=
 okF (Y7 Y) ww (.inl rfl) rfl rfl fun hr=>(c6 (g5 (@u7 _ _ _ _ _ _ _ _ _ _ _ _ _ _ _ _ (show g6 (b9 (top 21)) _ ["moor", "most"] ["moor", "most", "move"] from by trivial) rfl (@O9 _ _ _ _ _ _ (f6 (d7 (qv .B 0) c7)) (by rfl)) (fun _ _ _ _=>(@e8 _ _ 2 _ (by decide +kernel:(["moor", "most", "move"]:List Str).Nodup) rfl (Or.inl rfl) (.inr rfl))) i7 (v5 (show 2<=2 by decide)) (fun _ _ _ _=>w8) (fun _ _ _ _=>(C5 (@d5 _ _ _ _ _ _ _ _ _ _ _ _ _ _ _ _ (nV Y) (.inl rfl) (by trivial) (by rfl) (ai Y).m (ai Y).F.kp (ai Y).b (b6 (i6 (q_VC (@d5 _ _ _ _ _ _ _ _ _ _ _ _ _ _ _ _ (cY Y) (.inr rfl) (by trivial) (by rfl) (E9 Y).m (E9 Y).F.kp (E9 Y).b (b6 (qv .B 0) (b6 (f6 (d7 (qv .B 2) c7)) (b6 (qv .B 1) b8))) (by decide) (by rfl) (by rfl)))) b8) (by decide) (by rfl) (by rfl)))) (by intro _; rfl))))
def dunder:Def (hk w) mg "under" (top 24) ["cap", "other"] 158 (FD "under" 24 p8 157):=dk Y (by kernel_rfl) fun _ _ _ _ _ _=>us2 fun _ _=>rfl
def gA:FnOk P w (hk w) mg base CX0 1 158 (FD "under" 24 p8 157) ["cap", "other"] (spM (hk w) 2 .F W5):=
 okF (dunder Y) gc (.inl rfl) rfl rfl fun hr=>(c8 (@D0 _ _ _ _ _ _ _ _ _ _ _ _ _ qD4 rfl (@qg _ _ _ _ _ _ _ _ _ _ _ (by rfl) (bl Y).zip_ (b6 (qv .U 0) (b6 (qv .U 1) b8)) (by rfl) (by rfl) (by rfl)) (@O3 _ (hk w) _ _ _ _ 2 rfl (@n9 _ _ _ _ _ (@e8 _ _ 2 _ gc.nd rfl (by trivial) (by trivial)) (@n9 _ _ _ _ _ (@e8 _ _ 3 _ gc.nd rfl (by trivial) (by trivial)) O2 (by rfl)) (by rfl)) (by rfl) (by rfl) (by rfl)) (U4 (.inr rfl) (o6 (.inr rfl) i7 (o6 (.inr rfl) i7 O6))) (c6 (j6 (PW.pt (U1 (@f9 _ _ _ _ _ _ _ _ _ _ _ _ cW cZ (qv .B 3) v7 (by trivial)) (O1 (PW.pt (ab (@f9 _ _ _ _ _ _ _ _ _ _ _ _ L8 L9 (qv .B 2) v7 (by trivial)) (X0 (@f9 _ _ _ _ _ _ _ _ _ _ _ _ cX xGt (qv .B 2) (qv .B 3) (by trivial)))))))) (c6 (g5 z9)) j5)) (by intro _; rfl)) (c6 (g5 z9)))
def F6:Def (hk w) mg "under_any" (top 25) ["cap", "caps"] 165 (FD "under_any" 25 p8 164):=dk Y (by kernel_rfl) fun _ _ _ _ _ _=>us2 fun _ _=>rfl
def dH:FnOk P w (hk w) mg base CX0 2 165 (FD "under_any" 25 p8 164) ["cap", "caps"] (spM (hk w) 2 .F M1):=
 okF (F6 Y) dE (.inl rfl) rfl rfl fun hr=>(c8 (@D0 _ _ _ _ _ _ _ _ _ _ _ _ _ qD4 rfl (@U2 _ _ _ _ _ _ (qv .U 1) (by rfl)) (@e8 _ _ 2 _ dE.nd rfl (by trivial) (by trivial)) i7 (c6 (j6 (@y4 _ _ _ _ _ (i6 (g7 (@d5 _ _ _ _ _ _ _ _ _ _ _ _ _ _ _ _ (gA Y) (.inl rfl) (by trivial) (by rfl) (dunder Y).m (dunder Y).F.kp (dunder Y).b (b6 (qv .B 0) (b6 (qv .B 2) b8)) (by decide) (by rfl) (by rfl)))) (by intro _; rfl)) (c6 (g5 z9)) j5)) (by intro _; rfl)) (c6 (g5 z9)))
def K7:Def (hk w) mg "cap_able" (top 26) ["cap", "move"] 172 (FD "cap_able" 26 p8 171):=dk Y (by kernel_rfl) fun _ _ _ _ _ _=>us2 fun _ _=>rfl
def fo:FnOk P w (hk w) mg base CX0 2 172 (FD "cap_able" 26 p8 171) ["cap", "move"] (spM (hk w) 2 .F V4):=
 okF (K7 Y) nK (.inl rfl) rfl rfl fun hr=>(c6 (g5 (@d5 _ _ _ _ _ _ _ _ _ _ _ _ _ _ _ _ (gA Y) (.inl rfl) (by trivial) (by rfl) (dunder Y).m (dunder Y).F.kp (dunder Y).b (b6 (f6 (d7 (qv .B 1) c7)) (b6 (qv .B 0) b8)) (by decide) (by rfl) (by rfl))))
def V5:Def (hk w) mg "cap_after" (top 27) ["cap", "move"] 177 (FD "cap_after" 27 p8 176):=dk Y (by kernel_rfl) fun _ _ _ _ _ _=>us2 fun _ _=>rfl
def lJ:FnOk P w (hk w) mg base CX0 3 177 (FD "cap_after" 27 p8 176) ["cap", "move"] (spM (hk w) 2 .F ap):=
 okF (V5 Y) lH (.inl rfl) rfl rfl fun hr=>(c8 (j6 (G8 (@y4 _ _ _ _ _ (i6 (g7 (@d5 _ _ _ _ _ _ _ _ _ _ _ _ _ _ _ _ (fo Y) (.inl rfl) (by trivial) (by rfl) (K7 Y).m (K7 Y).F.kp (K7 Y).b (b6 (qv .B 0) (b6 (qv .B 1) b8)) (by decide) (by rfl) (by rfl)))) (by intro _; rfl))) (c6 mt) j5) (c6 (g5 (@J3 _ _ _ _ _ _ _ _ _ _ _ _ _ _ G0 (F9 (c:=true)) (by rfl) (bl Y).tuple_ t7 (b6 (g7 (@u7 _ _ _ _ _ _ _ _ _ _ _ _ _ _ _ _ (show g6 (b9 (top 27)) _ ["cap", "move"] ["cap", "move", "number", "step"] from by trivial) rfl (@bT _ _ _ _ _ _ _ _ _ _ _ (by rfl) (bl Y).zip_ (b6 (qv .B 0) (b6 (i6 (g7 (@d5 _ _ _ _ _ _ _ _ _ _ _ _ _ _ _ _ (jO Y) (.inl rfl) (by trivial) (by rfl) (R0 Y).m (R0 Y).F.kp (R0 Y).b (b6 (qv .B 1) b8) (by decide) (by rfl) (by rfl)))) b8)) (by rfl) (by rfl) (by rfl)) (fun _ _ _ _=>(@O3 _ (hk w) _ _ _ _ 2 rfl (@n9 _ _ _ _ _ (@e8 _ _ 2 _ (by decide +kernel:(["cap", "move", "number", "step"]:List Str).Nodup) rfl (Or.inl rfl) (.inr rfl)) (@n9 _ _ _ _ _ (@e8 _ _ 3 _ (by decide +kernel:(["cap", "move", "number", "step"]:List Str).Nodup) rfl (Or.inl rfl) (.inr rfl)) O2 (by rfl)) (by rfl)) (by rfl) (by rfl) (by rfl))) (U4 (.inr rfl) (o6 (.inr rfl) i7 (o6 (.inr rfl) i7 O6))) (aF (B8 (show 2<=2 by decide) (B8 (show 2<=3 by decide) aG))) (fun _ _ _ _=>w8) (fun _ _ _ _=>(tO (@f9 _ _ _ _ _ _ _ _ _ _ _ _ L8 L9 (qv .B 2) v7 (by trivial)) v7 (f7 o9 D1 (qv .B 2) (qv .B 3)))) (by intro _; rfl))) b8) (by decide) (by decide) (by rfl) (by rfl)))))
def du:Def (hk w) mg "raised" (top 28) ["cap", "elder"] 182 (FD "raised" 28 p8 181):=dk Y (by kernel_rfl) fun _ _ _ _ _ _=>us2 fun _ _=>rfl
def ud:FnOk P w (hk w) mg base CX0 2 182 (FD "raised" 28 p8 181) ["cap", "elder"] (spM (hk w) 2 .F bi):=
 okF (du Y) sW (.inl rfl) rfl rfl fun hr=>(c8 (j6 (G8 (@y4 _ _ _ _ _ (i6 (g7 (@d5 _ _ _ _ _ _ _ _ _ _ _ _ _ _ _ _ (gA Y) (.inl rfl) (by trivial) (by rfl) (dunder Y).m (dunder Y).F.kp (dunder Y).b (b6 (qv .B 1) (b6 (qv .B 0) b8)) (by decide) (by rfl) (by rfl)))) (by intro _; rfl))) (c6 (@K4 _ _ _ _ _ 0 _ _ (.inl rfl) (by rfl) (by trivial) (by decide) (by decide))) j5) (c6 (g5 (@J3 _ _ _ _ _ _ _ _ _ _ _ _ _ _ G0 (F9 (c:=true)) (by rfl) (bl Y).tuple_ t7 (b6 (g7 (@u7 _ _ _ _ _ _ _ _ _ _ _ _ _ _ _ _ (show g6 (b9 (top 28)) _ ["cap", "elder"] ["cap", "elder", "number", "old"] from by trivial) rfl (@bT _ _ _ _ _ _ _ _ _ _ _ (by rfl) (bl Y).zip_ (b6 (qv .B 0) (b6 (qv .B 1) b8)) (by rfl) (by rfl) (by rfl)) (fun _ _ _ _=>(@O3 _ (hk w) _ _ _ _ 2 rfl (@n9 _ _ _ _ _ (@e8 _ _ 2 _ (by decide +kernel:(["cap", "elder", "number", "old"]:List Str).Nodup) rfl (Or.inl rfl) (.inr rfl)) (@n9 _ _ _ _ _ (@e8 _ _ 3 _ (by decide +kernel:(["cap", "elder", "number", "old"]:List Str).Nodup) rfl (Or.inl rfl) (.inr rfl)) O2 (by rfl)) (by rfl)) (by rfl) (by rfl) (by rfl))) (U4 (.inr rfl) (o6 (.inr rfl) i7 (o6 (.inr rfl) i7 O6))) (aF (B8 (show 2<=2 by decide) (B8 (show 2<=3 by decide) aG))) (fun _ _ _ _=>w8) (fun _ _ _ _=>(tO (@f9 _ _ _ _ _ _ _ _ _ _ _ _ (fm (bg hr)) (P2 (neg:=false)) (qv .B 2) (qv .B 3) (by trivial)) (qv .V 2) v7)) (by intro _; rfl))) b8) (by decide) (by decide) (by rfl) (by rfl)))))
def cB:Def (hk w) mg "sort_key" (top 30) ["cap"] 194 (FD "sort_key" 30 p8 193):=dk Y (by kernel_rfl) fun _ _ _ _ _ _=>us1 fun _=>rfl
def nU:FnOk P w (hk w) mg base CX0 1 194 (FD "sort_key" 30 p8 193) ["cap"] (spM (hk w) 1 .F L6):=
 okF (cB Y) nI (.inl rfl) rfl rfl fun hr=>(c6 (g5 (@J3 _ _ _ _ _ _ _ _ _ _ _ _ _ _ G0 (F9 (c:=true)) (by rfl) (bl Y).tuple_ t7 (b6 (g7 (@u7 _ _ _ _ _ _ _ _ _ _ _ _ _ _ _ _ (show g6 (b9 (top 30)) _ ["cap"] ["cap", "number"] from by trivial) rfl (@O9 _ _ _ _ _ _ (qv .B 0) (by rfl)) (fun _ _ _ _=>(@e8 _ _ 1 _ (by decide +kernel:(["cap", "number"]:List Str).Nodup) rfl (Or.inl rfl) (.inr rfl))) i7 (v5 (show 1<=1 by decide)) (fun _ _ _ _=>w8) (fun _ _ _ _=>(tO (@f9 _ _ _ _ _ _ _ _ _ _ _ _ L8 L9 (qv .B 1) v7 (by trivial)) (C5 (S3 (n8 (n8 b8)))) (C5 (S3 (n8 (b6 (qv .V 1) b8)))))) (by intro _; rfl))) b8) (by decide) (by decide) (by rfl) (by rfl))))
def iQ:Def (hk w) mg "tops" (top 29) ["caps"] 189 (FD "tops" 29 p8 188):=dk Y (by kernel_rfl) fun _ _ _ _ _ _=>us1 fun _=>rfl
def Bb:FnOk P w (hk w) mg base CX0 4 189 (FD "tops" 29 p8 188) ["caps"] (spM (hk w) 1 .F kT):=
 okF (iQ Y) jj (.inl rfl) rfl rfl fun hr=>(c8 (@i8 _ _ _ _ _ _ _ 1 _ _ jj.nd rfl (by trivial) (D4 b8) (by rfl) (by trivial)) (c8 (@D0 _ _ _ _ _ _ _ _ _ _ _ _ _ qD4 rfl (@U2 _ _ _ _ _ _ (nS (C5 (@wR _ _ _ _ _ _ _ _ _ _ _ _ _ _ _ _ _ _ _ _ false (nU Y) (by trivial) (by rfl) (cB Y).m (cB Y).b (by rfl) (bl Y).sorted_ iB (b6 (qv .B 0) b8) (by rfl) (by decide) (by decide) (by decide) (by rfl) (by rfl) (by rfl) (by rfl) (by rfl)))) (by rfl)) (@e8 _ _ 2 _ jj.nd rfl (by trivial) (by trivial)) i7 (c6 (j6 (G8 (@y4 _ _ _ _ _ (i6 (g7 (@d5 _ _ _ _ _ _ _ _ _ _ _ _ _ _ _ _ (dH Y) (.inl rfl) (by trivial) (by rfl) (F6 Y).m (F6 Y).F.kp (F6 Y).b (b6 (qv .B 2) (b6 (qv .B 1) b8)) (by decide) (by rfl) (by rfl)))) (by intro _; rfl))) (c6 (@P0 _ _ _ _ _ _ _ 1 _ _ _ _ rfl (by trivial) (qv .V 2) (by decide) (by decide) (by rfl) (by rfl) (by rfl) (by rfl) (by rfl))) j5)) (by intro _; rfl)) (c8 (@Eh _ _ _ _ _ 1 _ _ _ _ rfl (by trivial) (by rfl) (by decide) (by decide) (by rfl) (by rfl) (by rfl)) (c6 (@K4 _ _ _ _ _ 1 _ _ (.inl rfl) (by rfl) (by trivial) (by decide) (by decide))))))
def ah:Def (hk w) mg "way_back" (top 33) ["tree", "number"] 213 (FD "way_back" 33 p8 212):=dk Y (by kernel_rfl) fun _ _ _ _ _ _=>us2 fun _ _=>rfl
def nT:FnOk P w (hk w) mg base CX0 1 213 (FD "way_back" 33 p8 212) ["tree", "number"] (spM (hk w) 2 .F V3):=
 okF (ah Y) U9 (.inl rfl) rfl rfl fun hr=>(c8 (@i8 _ _ _ _ _ _ _ 2 _ _ U9.nd rfl (by trivial) (D4 b8) (by rfl) (by trivial)) (c8 (@t9 _ _ _ _ _ _ _ 3 _ _ U9.nd rfl (by trivial) (qv .V 1) (by rfl) (by trivial)) (c8 (cS qD4 (@f9 _ _ _ _ _ _ _ _ _ _ _ _ cW cZ (qv .B 3) v7 (by trivial)) (c8 (@P0 _ _ _ _ _ _ _ 2 _ _ _ _ rfl (by trivial) (qv .V 3) (by decide) (by decide) (by rfl) (by rfl) (by rfl) (by rfl) (by rfl)) (c6 (@qh _ _ _ _ _ _ _ 3 _ _ U9.nd rfl (by trivial) (d7 (f6 (d7 (qv .B 0) (qv .B 3))) c7) (by rfl) (by trivial))))) (c6 (@K4 _ _ _ _ _ 2 _ _ (.inl rfl) (by rfl) (by trivial) (by decide) (by decide))))))
def iR:Def (hk w) mg "grow" (top 32) ["moor", "tree", "at", "number"] 206 (FD "grow" 32 p8 205):=dk Y (by kernel_rfl) fun _ _ _ _ _ _=>us4 fun _ _ _ _=>rfl
def Bc:FnOk P w (hk w) mg base CX0 4 206 (FD "grow" 32 p8 205) ["moor", "tree", "at", "number"] (fZ (hk w) 4 fJ):=
 okI (iR Y) bO rfl rfl fun p=>fun hr=>(cT (@q_i _ _ _ .F _ _ _ (@qh _ _ _ _ _ _ _ 4 _ _ bO.nd rfl (by trivial) (d7 (f6 (d7 (qv .B 0) c7)) (qv .B 3)) (by rfl) (by trivial))) (cT (vD (G8 (@y4 _ _ _ _ _ (i6 (g7 (@d5 _ _ _ _ _ _ _ _ _ _ _ _ _ _ _ _ (fo Y) (.inl rfl) (by trivial) (by rfl) (K7 Y).m (K7 Y).F.kp (K7 Y).b (b6 (f6 (d7 (f6 (d7 (qv .B 1) (qv .B 2))) c7)) (b6 (qv .B 4) b8)) (by decide) (by rfl) (by rfl)))) (by intro _; rfl))) (gy AA) (@AD _ _ _ .F _ _ _ j5)) (cT (@q_i _ _ _ .F _ _ _ (@i8 _ _ _ _ _ _ _ 5 _ _ bO.nd rfl (by trivial) (@d5 _ _ _ _ _ _ _ _ _ _ _ _ _ _ _ _ (lJ Y) (.inl rfl) (by trivial) (by rfl) (V5 Y).m (V5 Y).F.kp (V5 Y).b (b6 (f6 (d7 (f6 (d7 (qv .B 1) (qv .B 2))) c7)) (b6 (qv .B 4) b8)) (by decide) (by rfl) (by rfl)) (by rfl) (by trivial))) (cT (@q_i _ _ _ .F _ _ _ (@D0 _ _ _ _ _ _ _ _ _ _ _ _ _ qD4 rfl (@U2 _ _ _ _ _ _ (nS (C5 (@d5 _ _ _ _ _ _ _ _ _ _ _ _ _ _ _ _ (nT Y) (.inl rfl) (by trivial) (by rfl) (ah Y).m (ah Y).F.kp (ah Y).b (b6 (qv .B 1) (b6 (qv .B 2) b8)) (by decide) (by rfl) (by rfl)))) (by rfl)) (@e8 _ _ 6 _ bO.nd rfl (by trivial) (by trivial)) i7 (c6 (@i8 _ _ _ _ _ _ _ 5 _ _ bO.nd rfl (by trivial) (@d5 _ _ _ _ _ _ _ _ _ _ _ _ _ _ _ _ (ud Y) (.inl rfl) (by trivial) (by rfl) (du Y).m (du Y).F.kp (du Y).b (b6 (qv .B 5) (b6 (f6 (d7 (f6 (d7 (qv .B 1) (qv .B 6))) c7)) b8)) (by decide) (by rfl) (by rfl)) (by rfl) (by trivial))) (by intro _; rfl))) (gy (vD (G8 (@y4 _ _ _ _ _ (i6 (g7 (@d5 _ _ _ _ _ _ _ _ _ _ _ _ _ _ _ _ (dH Y) (.inl rfl) (by trivial) (by rfl) (F6 Y).m (F6 Y).F.kp (F6 Y).b (b6 (qv .B 5) (b6 (i6 (g7 (@u7 _ _ _ _ _ _ _ _ _ _ _ _ _ _ _ _ (show g6 (b9 (top 32)) _ ["moor", "tree", "at", "number", "move", "cap", "elder"] ["moor", "tree", "at", "number", "move", "cap", "elder", "row"] from by trivial) rfl (@O9 _ _ _ _ _ _ (qv .B 1) (by rfl)) (fun _ _ _ _=>(@e8 _ _ 7 _ (by decide +kernel:(["moor", "tree", "at", "number", "move", "cap", "elder", "row"]:List Str).Nodup) rfl (Or.inl rfl) (.inr rfl))) i7 (v5 (show 7<=7 by decide)) (fun _ _ _ _=>w8) (fun _ _ _ _=>(fc (d7 (qv .B 7) c7))) (by intro _; rfl)))) b8)) (by decide) (by rfl) (by rfl)))) (by intro _; rfl))) (gy (@AG _ _ _ _ _ _ _ 1 _ _ _ _ rfl (by trivial) (C5 (S3 (b6 (qv .V 5) (b6 (qv .V 2) (b6 (qv .V 3) b8))))) (by decide) (by decide) (by rfl) (by rfl) (by rfl) (by rfl) (by rfl))) (@AD _ _ _ .F _ _ _ j5)))))))
def dv:Def (hk w) mg "growth" (top 31) ["moor", "most"] 201 (FD "growth" 31 p8 200):=dk Y (by kernel_rfl) fun _ _ _ _ _ _=>us2 fun _ _=>rfl
def ue:FnOk P w (hk w) mg base CX0 5 201 (FD "growth" 31 p8 200) ["moor", "most"] (spM (hk w) 2 .F Y2):=
 okF (dv Y) W8 (.inl rfl) rfl rfl fun hr=>(c8 (@i8 _ _ _ _ _ _ _ 2 _ _ W8.nd rfl (by trivial) (D4 (b6 (C5 (S3 (b6 (fc (d7 (qv .B 0) c7)) (b6 v7 (b6 v7 b8))))) b8)) (by rfl) (by trivial)) (c8 (@t9 _ _ _ _ _ _ _ 3 _ _ W8.nd rfl (by trivial) c7 (by rfl) (by trivial)) (c8 (cS qD4 (@f9 _ _ _ _ _ _ _ _ _ _ _ _ fk xLt (qv .B 3) (@w4 _ _ _ _ _ _ _ _ _ _ _ _ _ _ t6 t5 (by rfl) (bl Y).len_ qC9 (b6 (qv .B 2) b8) (by decide) (by decide) (by rfl) (by rfl)) (by trivial)) (c8 (@D0 _ _ _ _ _ _ _ _ _ _ _ _ _ qD4 rfl (@C4 _ _ _ _ _ _ _ _ _ (by rfl) (bl Y).range_ (b6 (@w4 _ _ _ _ _ _ _ _ _ _ _ _ _ _ t6 t5 (by rfl) (bl Y).len_ qC9 (b6 (f6 (d7 (qv .B 0) c7)) b8) (by decide) (by decide) (by rfl) (by rfl)) b8) (by rfl)) (@e8 _ _ 4 _ W8.nd rfl (by trivial) (by trivial)) i7 (c6 (@wT _ _ _ _ _ _ _ _ 2 _ _ _ _ _ _ _ _ _ _ _ _ rfl (by trivial) (Bc Y) (by trivial) (by rfl) (iR Y).m (iR Y).F.kp (iR Y).b (qv .B 0) (b6 (qv .B 3) (b6 (qv .B 4) b8)) (by decide) (by decide) (by decide) (by rfl) (by rfl) (by rfl) (by rfl))) (by intro _; rfl)) (c8 (j6 (@f9 _ _ _ _ _ _ _ _ _ _ _ _ cX xGt (@w4 _ _ _ _ _ _ _ _ _ _ _ _ _ _ t6 t5 (by rfl) (bl Y).len_ qC9 (b6 (qv .B 2) b8) (by decide) (by decide) (by rfl) (by rfl)) (qv .B 1) (by trivial)) (c6 (g5 v7)) j5) (c6 (@Ej _ _ _ _ _ _ _ 3 _ _ _ _ W8.nd rfl (by trivial) c7 Ca (by trivial)))))) (c6 (@K4 _ _ _ _ _ 2 _ _ (.inl rfl) (by rfl) (by trivial) (by decide) (by decide))))))
def Y8:Def (hk w) mg "crown" (top 34) ["moor", "most"] 218 (FD "crown" 34 p8 217):=dk Y (by kernel_rfl) fun _ _ _ _ _ _=>us2 fun _ _=>rfl
def mD:FnOk P w (hk w) mg base CX0 6 218 (FD "crown" 34 p8 217) ["moor", "most"] (spM (hk w) 2 .F dj):=
 okF (Y8 Y) mf (.inl rfl) rfl rfl fun hr=>(c8 (@i8 _ _ _ _ _ _ _ 2 _ _ mf.nd rfl (by trivial) (@d5 _ _ _ _ _ _ _ _ _ _ _ _ _ _ _ _ (ue Y) (.inl rfl) (by trivial) (by rfl) (dv Y).m (dv Y).F.kp (dv Y).b (b6 (qv .B 0) (b6 (qv .B 1) b8)) (by decide) (by rfl) (by rfl)) (by rfl) (by trivial)) (c8 (j6 (@f9 _ _ _ _ _ _ _ _ _ _ _ _ L8 L9 (qv .B 2) v7 (by trivial)) (c6 (g5 v7)) j5) (c6 (g5 (@d5 _ _ _ _ _ _ _ _ _ _ _ _ _ _ _ _ (Bb Y) (.inl rfl) (by trivial) (by rfl) (iQ Y).m (iQ Y).F.kp (iQ Y).b (b6 (i6 (g7 (@u7 _ _ _ _ _ _ _ _ _ _ _ _ _ _ _ _ (show g6 (b9 (top 34)) _ ["moor", "most", "tree"] ["moor", "most", "tree", "row"] from by trivial) rfl (@O9 _ _ _ _ _ _ (qv .B 2) (by rfl)) (fun _ _ _ _=>(@e8 _ _ 3 _ (by decide +kernel:(["moor", "most", "tree", "row"]:List Str).Nodup) rfl (Or.inl rfl) (.inr rfl))) i7 (v5 (show 3<=3 by decide)) (fun _ _ _ _=>w8) (fun _ _ _ _=>(fc (d7 (qv .B 3) c7))) (by intro _; rfl)))) b8) (by decide) (by rfl) (by rfl))))))
def d4:Def (hk w) mg "_law_cell" (top 36) ["_law_script", "_law_k"] 225 (FD "_law_cell" 36 n4 224):=dk Y (by kernel_rfl) fun _ _ _ _ _ _=>us2 fun _ _=>rfl
def l5:FnOk P w (hk w) mg base CX0 1 225 (FD "_law_cell" 36 n4 224) ["_law_script", "_law_k"] (spM (hk w) 2 .F i9):=
 okF (d4 Y) am (.inl rfl) rfl rfl fun hr=>(c8 (j6 (@f9 _ _ _ _ _ _ _ _ _ _ _ _ fk xLt (qv .B 1) (@w4 _ _ _ _ _ _ _ _ _ _ _ _ _ _ t6 t5 (by rfl) (bl Y).len_ qC9 (b6 (qv .B 0) b8) (by decide) (by decide) (by rfl) (by rfl)) (by trivial)) (c6 (g5 (AF (d7 (qv .B 0) (qv .B 1))))) j5) (c8 (@t9 _ _ _ _ _ _ _ 2 _ _ am.nd rfl (by trivial) (f7 o9 D1 (f7 y6 (j7 (C:=CMulB) (g:=p9) (fun _ _=>rfl) (fun _ _ _=>.int)) c7 (qv .B 1)) c7) (by rfl) (by trivial)) (c8 (j6 (@f9 _ _ _ _ _ _ _ _ _ _ _ _ cX xGt (@w4 _ _ _ _ _ _ _ _ _ _ _ _ _ _ t6 t5 (by rfl) (bl Y).len_ qC9 (b6 (qv .B 0) b8) (by decide) (by decide) (by rfl) (by rfl)) c7 (by trivial)) (c6 (@t9 _ _ _ _ _ _ _ 2 _ _ am.nd rfl (by trivial) (f7 o9 D1 (f7 o9 D1 (f7 y6 (j7 (C:=CMulB) (g:=p9) (fun _ _=>rfl) (fun _ _ _=>.int)) (f6 (d7 (qv .B 0) (f7 r9 (j7 (C:=k9) (g:=l6) (fun _ _=>rfl) (fun _ _ _=>.int)) (f7 y6 (j7 (C:=CMulB) (g:=p9) (fun _ _=>rfl) (fun _ _ _=>.int)) (qv .B 1) c7) (@w4 _ _ _ _ _ _ _ _ _ _ _ _ _ _ t6 t5 (by rfl) (bl Y).len_ qC9 (b6 (qv .B 0) b8) (by decide) (by decide) (by rfl) (by rfl))))) c7) (f7 y6 (j7 (C:=CMulB) (g:=p9) (fun _ _=>rfl) (fun _ _ _=>.int)) (f7 y6 (j7 (C:=CMulB) (g:=p9) (fun _ _=>rfl) (fun _ _ _=>.int)) (qv .B 1) (qv .B 1)) c7)) c7) (by rfl) (by trivial))) j5) (c6 (g5 (f7 r9 (j7 (C:=k9) (g:=l6) (fun _ _=>rfl) (fun _ _ _=>.int)) (f7 y6 (j7 (C:=CMulB) (g:=p9) (fun _ _=>rfl) (fun _ _ _=>.int)) (qv .B 2) (qv .B 2)) c7))))))
def V7:Def (hk w) mg "_law_move" (top 37) ["_law_script", "_law_at", "_law_many", "_law_plain", "_law_times"] 230 (FD "_law_move" 37 n4 229):=dk Y (by kernel_rfl) fun _ _ _ _ _ _=>us5 fun _ _ _ _ _=>rfl
def lL:FnOk P w (hk w) mg base CX0 2 230 (FD "_law_move" 37 n4 229) ["_law_script", "_law_at", "_law_many", "_law_plain", "_law_times"] (spM (hk w) 5 .F aq):=
 okF (V7 Y) x8 (.inl rfl) rfl rfl fun hr=>(c8 (@i8 _ _ _ _ _ _ _ 5 _ _ x8.nd rfl (by trivial) (D4 b8) (by rfl) (by trivial)) (c8 (@i8 _ _ _ _ _ _ _ 6 _ _ x8.nd rfl (by trivial) (D4 b8) (by rfl) (by trivial)) (c8 (@D0 _ _ _ _ _ _ _ _ _ _ _ _ _ qD4 rfl (@C4 _ _ _ _ _ _ _ _ _ (by rfl) (bl Y).range_ (b6 (qv .B 2) b8) (by rfl)) (@e8 _ _ 7 _ x8.nd rfl (by trivial) (by trivial)) i7 (c8 (@i8 _ _ _ _ _ _ _ 8 _ _ x8.nd rfl (by trivial) (@d5 _ _ _ _ _ _ _ _ _ _ _ _ _ _ _ _ (l5 Y) (.inl rfl) (by trivial) (by rfl) (d4 Y).m (d4 Y).F.kp (d4 Y).b (b6 (qv .B 0) (b6 (f7 o9 D1 (qv .B 1) (qv .B 7)) b8)) (by decide) (by rfl) (by rfl)) (by rfl) (by trivial)) (c8 (@P0 _ _ _ _ _ _ _ 5 _ _ _ _ rfl (by trivial) (f7 y6 (j7 (C:=CMulB) (g:=p9) (fun _ _=>rfl) (fun _ _ _=>.int)) (f6 (d7 (i6 (g7 AC)) (f7 r9 (j7 (C:=k9) (g:=l6) (fun _ _=>rfl) (fun _ _ _=>.int)) (qv .B 8) c7))) (qv .B 4)) (by decide) (by decide) (by rfl) (by rfl) (by rfl) (by rfl) (by rfl)) (c6 (@P0 _ _ _ _ _ _ _ 6 _ _ _ _ rfl (by trivial) (f7 y6 (j7 (C:=CMulB) (g:=p9) (fun _ _=>rfl) (fun _ _ _=>.int)) (f6 (d7 (i6 (g7 AB)) (f7 r9 (j7 (C:=k9) (g:=l6) (fun _ _=>rfl) (fun _ _ _=>.int)) (f7 L3 (j7 (C:=B6) (g:=F5) (fun _ _=>rfl) (fun _ _ _=>.int)) (qv .B 8) c7) c7))) (qv .B 4)) (by decide) (by decide) (by rfl) (by rfl) (by rfl) (by rfl) (by rfl))))) (by intro _; rfl)) (c8 (j6 (@y4 _ _ _ _ _ (qv .B 3) (by intro _; rfl)) (c8 (@t9 _ _ _ _ _ _ _ 9 _ _ x8.nd rfl (by trivial) (f7 r9 (j7 (C:=k9) (g:=l6) (fun _ _=>rfl) (fun _ _ _=>.int)) (f7 L3 (j7 (C:=B6) (g:=F5) (fun _ _=>rfl) (fun _ _ _=>.int)) (i6 (g7 (@d5 _ _ _ _ _ _ _ _ _ _ _ _ _ _ _ _ (l5 Y) (.inl rfl) (by trivial) (by rfl) (d4 Y).m (d4 Y).F.kp (d4 Y).b (b6 (qv .B 0) (b6 (qv .B 1) b8)) (by decide) (by rfl) (by rfl)))) c7) (qv .B 2)) (by rfl) (by trivial)) (c8 (@t9 _ _ _ _ _ _ _ 10 _ _ x8.nd rfl (by trivial) (f7 r9 (j7 (C:=k9) (g:=l6) (fun _ _=>rfl) (fun _ _ _=>.int)) (f7 L3 (j7 (C:=B6) (g:=F5) (fun _ _=>rfl) (fun _ _ _=>.int)) (i6 (g7 (@d5 _ _ _ _ _ _ _ _ _ _ _ _ _ _ _ _ (l5 Y) (.inl rfl) (by trivial) (by rfl) (d4 Y).m (d4 Y).F.kp (d4 Y).b (b6 (qv .B 0) (b6 (f7 o9 D1 (qv .B 1) c7) b8)) (by decide) (by rfl) (by rfl)))) c7) (qv .B 2)) (by rfl) (by trivial)) (c8 (@jE _ _ _ _ _ _ _ 5 _ _ _ _ _ _ _ _ _ _ _ _ _ (show g6 (b9 (top 37)) _ ["_law_script", "_law_at", "_law_many", "_law_plain", "_law_times", "_law_take", "_law_put", "_law_p", "_law_cell_here", "_law_one", "_law_other"] ["_law_script", "_law_at", "_law_many", "_law_plain", "_law_times", "_law_take", "_law_put", "#_law_p", "_law_cell_here", "_law_one", "_law_other", "_law_p"] from by trivial) rfl (@C4 _ _ _ _ _ _ _ _ _ (by rfl) (bl Y).range_ (b6 (qv .B 2) b8) (by rfl)) (fun _ _ _ _=>(@e8 _ _ 11 _ (by decide +kernel:(["_law_script", "_law_at", "_law_many", "_law_plain", "_law_times", "_law_take", "_law_put", "#_law_p", "_law_cell_here", "_law_one", "_law_other", "_law_p"]:List Str).Nodup) rfl (Or.inl rfl) (.inr rfl))) i7 (v5 (show 11<=11 by decide)) (fun _ _ _ _=>w8) (fun _ _ _ _=>(f7 y6 (j7 (C:=CMulB) (g:=p9) (fun _ _=>rfl) (fun _ _ _=>.int)) (@J3 _ _ _ _ _ _ _ _ _ _ _ _ _ _ iA vW (by rfl) (bl Y).int_ rM (b6 (@S4 _ _ _ _ _ _ _ _ _ _ _ _ _ (fm (bg hr)) (P2 (neg:=false)) (qv .B 11) (qv .B 9) (by trivial)) b8) (by decide) (by decide) (by rfl) (by rfl)) (qv .B 4))) x8.nd rfl (by trivial) (by rfl) (by trivial) (by intro _; rfl)) (c6 (@jE _ _ _ _ _ _ _ 6 _ _ _ _ _ _ _ _ _ _ _ _ _ (show g6 (b9 (top 37)) _ ["_law_script", "_law_at", "_law_many", "_law_plain", "_law_times", "_law_take", "_law_put", "_law_p", "_law_cell_here", "_law_one", "_law_other"] ["_law_script", "_law_at", "_law_many", "_law_plain", "_law_times", "_law_take", "_law_put", "#_law_p", "_law_cell_here", "_law_one", "_law_other", "_law_p"] from by trivial) rfl (@C4 _ _ _ _ _ _ _ _ _ (by rfl) (bl Y).range_ (b6 (qv .B 2) b8) (by rfl)) (fun _ _ _ _=>(@e8 _ _ 11 _ (by decide +kernel:(["_law_script", "_law_at", "_law_many", "_law_plain", "_law_times", "_law_take", "_law_put", "#_law_p", "_law_cell_here", "_law_one", "_law_other", "_law_p"]:List Str).Nodup) rfl (Or.inl rfl) (.inr rfl))) i7 (v5 (show 11<=11 by decide)) (fun _ _ _ _=>w8) (fun _ _ _ _=>(f7 y6 (j7 (C:=CMulB) (g:=p9) (fun _ _=>rfl) (fun _ _ _=>.int)) (f7 y6 (j7 (C:=CMulB) (g:=p9) (fun _ _=>rfl) (fun _ _ _=>.int)) (@J3 _ _ _ _ _ _ _ _ _ _ _ _ _ _ iA vW (by rfl) (bl Y).int_ rM (b6 (@S4 _ _ _ _ _ _ _ _ _ _ _ _ _ (fm (bg hr)) (P2 (neg:=false)) (qv .B 11) (qv .B 10) (by trivial)) b8) (by decide) (by decide) (by rfl) (by rfl)) (f7 o9 D1 c7 (f7 r9 (j7 (C:=k9) (g:=l6) (fun _ _=>rfl) (fun _ _ _=>.int)) (qv .B 9) c7))) (qv .B 4))) x8.nd rfl (by trivial) (by rfl) (by trivial) (by intro _; rfl)))))) j5) (c6 (g5 (S3 (b6 (C5 (@J3 _ _ _ _ _ _ _ _ _ _ _ _ _ _ G0 (F9 (c:=true)) (by rfl) (bl Y).tuple_ t7 (b6 (qv .C 5) b8) (by decide) (by decide) (by rfl) (by rfl))) (b6 (C5 (@J3 _ _ _ _ _ _ _ _ _ _ _ _ _ _ G0 (F9 (c:=true)) (by rfl) (bl Y).tuple_ t7 (b6 (qv .C 6) b8) (by decide) (by decide) (by rfl) (by rfl))) b8)))))))))
def m8:Def (hk w) mg "_law_covers" (top 38) ["_law_stand", "_law_other"] 237 (FD "_law_covers" 38 n4 236):=dk Y (by kernel_rfl) fun _ _ _ _ _ _=>us2 fun _ _=>rfl
def M4:FnOk P w (hk w) mg base CX0 1 237 (FD "_law_covers" 38 n4 236) ["_law_stand", "_law_other"] (spM (hk w) 2 .F A8):=
 okF (m8 Y) bw (.inl rfl) rfl rfl fun hr=>(c8 (@D0 _ _ _ _ _ _ _ _ _ _ _ _ _ qD4 rfl (@C4 _ _ _ _ _ _ _ _ _ (by rfl) (bl Y).range_ (b6 (@w4 _ _ _ _ _ _ _ _ _ _ _ _ _ _ t6 t5 (by rfl) (bl Y).len_ qC9 (b6 (qv .B 0) b8) (by decide) (by decide) (by rfl) (by rfl)) b8) (by rfl)) (@e8 _ _ 2 _ bw.nd rfl (by trivial) (by trivial)) i7 (c6 (j6 (@f9 _ _ _ _ _ _ _ _ _ _ _ _ fk xLt (f6 (d7 (qv .B 0) (qv .B 2))) (f6 (d7 (qv .B 1) (qv .B 2))) (by trivial)) (c6 (g5 z9)) j5)) (by intro _; rfl)) (c6 (g5 z9)))
def C8:Def (hk w) mg "_law_behind" (top 39) ["_law_stand", "_law_move_here"] 242 (FD "_law_behind" 39 n4 241):=dk Y (by kernel_rfl) fun _ _ _ _ _ _=>us2 fun _ _=>rfl
def bz:FnOk P w (hk w) mg base CX0 1 242 (FD "_law_behind" 39 n4 241) ["_law_stand", "_law_move_here"] (spM (hk w) 2 .F M8):=
 okF (C8 Y) iF (.inl rfl) rfl rfl fun hr=>(c6 (g5 (@J3 _ _ _ _ _ _ _ _ _ _ _ _ _ _ G0 (F9 (c:=true)) (by rfl) (bl Y).tuple_ t7 (b6 (g7 (@u7 _ _ _ _ _ _ _ _ _ _ _ _ _ _ _ _ (show g6 (b9 (top 39)) _ ["_law_stand", "_law_move_here"] ["_law_stand", "_law_move_here", "_law_p"] from by trivial) rfl (@C4 _ _ _ _ _ _ _ _ _ (by rfl) (bl Y).range_ (b6 (@w4 _ _ _ _ _ _ _ _ _ _ _ _ _ _ t6 t5 (by rfl) (bl Y).len_ qC9 (b6 (qv .B 0) b8) (by decide) (by decide) (by rfl) (by rfl)) b8) (by rfl)) (fun _ _ _ _=>(@e8 _ _ 2 _ (by decide +kernel:(["_law_stand", "_law_move_here", "_law_p"]:List Str).Nodup) rfl (Or.inl rfl) (.inr rfl))) i7 (v5 (show 2<=2 by decide)) (fun _ _ _ _=>w8) (fun _ _ _ _=>(f7 o9 D1 (f7 fj no (f6 (d7 (qv .B 0) (qv .B 2))) (f6 (d7 (f6 (d7 (qv .B 1) c7)) (qv .B 2)))) (f6 (d7 (f6 (d7 (qv .B 1) c7)) (qv .B 2))))) (by intro _; rfl))) b8) (by decide) (by decide) (by rfl) (by rfl))))
def T6:Def (hk w) mg "_law_drawn" (top 40) ["_law_script", "_law_begin", "_law_moves"] 247 (FD "_law_drawn" 40 n4 246):=dk Y (by kernel_rfl) fun _ _ _ _ _ _=>us3 fun _ _ _=>rfl
def jQ:FnOk P w (hk w) mg base CX0 2 247 (FD "_law_drawn" 40 n4 246) ["_law_script", "_law_begin", "_law_moves"] (spM (hk w) 3 .F Y6):=
 okF (T6 Y) K3 (.inl rfl) rfl rfl fun hr=>(c8 (@t9 _ _ _ _ _ _ _ 3 _ _ K3.nd rfl (by trivial) (qv .V 1) (by rfl) (by trivial)) (c8 (@D0 _ _ _ _ _ _ _ _ _ _ _ _ _ qD4 rfl (@C4 _ _ _ _ _ _ _ _ _ (by rfl) (bl Y).range_ (b6 (f7 r9 (j7 (C:=k9) (g:=l6) (fun _ _=>rfl) (fun _ _ _=>.int)) (f7 L3 (j7 (C:=B6) (g:=F5) (fun _ _=>rfl) (fun _ _ _=>.int)) (i6 (g7 (@d5 _ _ _ _ _ _ _ _ _ _ _ _ _ _ _ _ (l5 Y) (.inl rfl) (by trivial) (by rfl) (d4 Y).m (d4 Y).F.kp (d4 Y).b (b6 (qv .B 0) (n8 b8)) (by decide) (by rfl) (by rfl)))) c7) c7) b8) (by rfl)) (@e8 _ _ 4 _ K3.nd rfl (by trivial) (by trivial)) i7 (c8 (@jE _ _ _ _ _ _ _ 5 _ _ _ _ _ _ _ _ _ _ _ _ _ (show g6 (b9 (top 40)) _ ["_law_script", "_law_begin", "_law_moves", "_law_stand", "_law_k", "_law_goers"] ["_law_script", "_law_begin", "_law_moves", "_law_stand", "_law_k", "_law_goers", "_law_move_here"] from by trivial) rfl (@O9 _ _ _ _ _ _ (qv .B 2) (by rfl)) (fun _ _ _ _=>(@e8 _ _ 6 _ (by decide +kernel:(["_law_script", "_law_begin", "_law_moves", "_law_stand", "_law_k", "_law_goers", "_law_move_here"]:List Str).Nodup) rfl (Or.inl rfl) (.inr rfl))) i7 (v5 (show 6<=6 by decide)) (fun _ _ _ _=>(bU (@y4 _ _ _ _ _ (i6 (g7 (@d5 _ _ _ _ _ _ _ _ _ _ _ _ _ _ _ _ (M4 Y) (.inl rfl) (by trivial) (by rfl) (m8 Y).m (m8 Y).F.kp (m8 Y).b (b6 (qv .B 3) (b6 (f6 (d7 (qv .B 6) c7)) b8)) (by decide) (by rfl) (by rfl)))) (by intro _; rfl)))) (fun _ _ _ _=>(qv .V 6)) K3.nd rfl (by trivial) (by rfl) (by trivial) (by intro _; rfl)) (c6 (j6 (@f9 _ _ _ _ _ _ _ _ _ _ _ _ (bZ (bg hr)) (P2 (neg:=true)) (qv .B 5) (i6 (g7 (D4 b8))) (by trivial)) (c6 (@i8 _ _ _ _ _ _ _ 3 _ _ K3.nd rfl (by trivial) (@d5 _ _ _ _ _ _ _ _ _ _ _ _ _ _ _ _ (bz Y) (.inl rfl) (by trivial) (by rfl) (C8 Y).m (C8 Y).F.kp (C8 Y).b (b6 (qv .B 3) (b6 (f6 (d7 (qv .B 5) (f7 r9 (j7 (C:=k9) (g:=l6) (fun _ _=>rfl) (fun _ _ _=>.int)) (f7 L3 (j7 (C:=B6) (g:=F5) (fun _ _=>rfl) (fun _ _ _=>.int)) (i6 (g7 (@d5 _ _ _ _ _ _ _ _ _ _ _ _ _ _ _ _ (l5 Y) (.inl rfl) (by trivial) (by rfl) (d4 Y).m (d4 Y).F.kp (d4 Y).b (b6 (qv .B 0) (b6 (f7 o9 D1 c7 (qv .B 4)) b8)) (by decide) (by rfl) (by rfl)))) c7) (@w4 _ _ _ _ _ _ _ _ _ _ _ _ _ _ t6 t5 (by rfl) (bl Y).len_ qC9 (b6 (qv .B 5) b8) (by decide) (by decide) (by rfl) (by rfl))))) b8)) (by decide) (by rfl) (by rfl)) (by rfl) (by trivial))) j5))) (by intro _; rfl)) (c6 (@K4 _ _ _ _ _ 3 _ _ (.inl rfl) (by rfl) (by trivial) (by decide) (by decide)))))
def K8:Def (hk w) mg "_law_end" (top 41) ["_law_row", "_law_stand", "_law_moves"] 254 (FD "_law_end" 41 n4 253):=dk Y (by kernel_rfl) fun _ _ _ _ _ _=>us3 fun _ _ _=>rfl
def fq:FnOk P w (hk w) mg base CX0 2 254 (FD "_law_end" 41 n4 253) ["_law_row", "_law_stand", "_law_moves"] (spM (hk w) 3 .F P6):=
 okF (K8 Y) aU (.inl rfl) rfl rfl fun hr=>(c8 (@D0 _ _ _ _ _ _ _ _ _ _ _ _ _ qD4 rfl (@U2 _ _ _ _ _ _ (qv .U 0) (by rfl)) (@e8 _ _ 3 _ aU.nd rfl (by trivial) (by trivial)) i7 (c8 (j6 (PW.pt (ab (G8 (@tN _ _ _ _ _ _ _ _ _ _ _ _ _ _ _ _ _ vJ xLe fk xLt c7 (qv .B 3) (@w4 _ _ _ _ _ _ _ _ _ _ _ _ _ _ t6 t5 (by rfl) (bl Y).len_ qC9 (b6 (qv .B 2) b8) (by decide) (by decide) (by rfl) (by rfl)) (by with_unfolding_all rfl))) (X0 (G8 (@y4 _ _ _ _ _ (i6 (g7 (@d5 _ _ _ _ _ _ _ _ _ _ _ _ _ _ _ _ (M4 Y) (.inl rfl) (by trivial) (by rfl) (m8 Y).m (m8 Y).F.kp (m8 Y).b (b6 (qv .B 1) (b6 (f6 (d7 (f6 (d7 (qv .B 2) (qv .B 3))) c7)) b8)) (by decide) (by rfl) (by rfl)))) (by intro _; rfl)))))) (c6 (g5 v7)) j5) (c6 (@i8 _ _ _ _ _ _ _ 1 _ _ aU.nd rfl (by trivial) (@d5 _ _ _ _ _ _ _ _ _ _ _ _ _ _ _ _ (bz Y) (.inl rfl) (by trivial) (by rfl) (C8 Y).m (C8 Y).F.kp (C8 Y).b (b6 (qv .B 1) (b6 (f6 (d7 (qv .B 2) (qv .B 3))) b8)) (by decide) (by rfl) (by rfl)) (by rfl) (by trivial)))) (by intro _; rfl)) (c6 (@K4 _ _ _ _ _ 1 _ _ (.inl rfl) (by rfl) (by trivial) (by decide) (by decide))))
def V8:Def (hk w) mg "_law_more" (top 42) ["_law_script", "_law_begin"] 261 (FD "_law_more" 42 n4 260):=dk Y (by kernel_rfl) fun _ _ _ _ _ _=>us2 fun _ _=>rfl
def lM:FnOk P w (hk w) mg base CX0 2 261 (FD "_law_more" 42 n4 260) ["_law_script", "_law_begin"] (spM (hk w) 2 .F ar):=
 okF (V8 Y) S1 (.inl rfl) rfl rfl fun hr=>(c8 (@i8 _ _ _ _ _ _ _ 2 _ _ S1.nd rfl (by trivial) (D4 b8) (by rfl) (by trivial)) (c8 (@D0 _ _ _ _ _ _ _ _ _ _ _ _ _ qD4 rfl (@C4 _ _ _ _ _ _ _ _ _ (by rfl) (bl Y).range_ (b6 (@w4 _ _ _ _ _ _ _ _ _ _ _ _ _ _ t6 t5 (by rfl) (bl Y).len_ qC9 (b6 (qv .B 1) b8) (by decide) (by decide) (by rfl) (by rfl)) b8) (by rfl)) (@e8 _ _ 3 _ S1.nd rfl (by trivial) (by trivial)) i7 (c8 (@i8 _ _ _ _ _ _ _ 4 _ _ S1.nd rfl (by trivial) (@d5 _ _ _ _ _ _ _ _ _ _ _ _ _ _ _ _ (l5 Y) (.inl rfl) (by trivial) (by rfl) (d4 Y).m (d4 Y).F.kp (d4 Y).b (b6 (qv .B 0) (b6 (f7 o9 D1 c7 (qv .B 3)) b8)) (by decide) (by rfl) (by rfl)) (by rfl) (by trivial)) (c6 (j6 (@f9 _ _ _ _ _ _ _ _ _ _ _ _ L4 E4 (f7 r9 (j7 (C:=k9) (g:=l6) (fun _ _=>rfl) (fun _ _ _=>.int)) (qv .B 4) c7) c7 (by trivial)) (c6 (@P0 _ _ _ _ _ _ _ 2 _ _ _ _ rfl (by trivial) (f7 r9 (j7 (C:=k9) (g:=l6) (fun _ _=>rfl) (fun _ _ _=>.int)) (f7 L3 (j7 (C:=B6) (g:=F5) (fun _ _=>rfl) (fun _ _ _=>.int)) (qv .B 4) c7) (f7 o9 D1 (f7 qu (j7 (C:=bv) (g:=kR) (fun _ _=>rfl) (fun _ _ _=>.int)) c7 c7) c7)) (by decide) (by decide) (by rfl) (by rfl) (by rfl) (by rfl) (by rfl))) (c6 (@P0 _ _ _ _ _ _ _ 2 _ _ _ _ rfl (by trivial) (f7 r9 (j7 (C:=k9) (g:=l6) (fun _ _=>rfl) (fun _ _ _=>.int)) (f7 L3 (j7 (C:=B6) (g:=F5) (fun _ _=>rfl) (fun _ _ _=>.int)) (qv .B 4) c7) c7) (by decide) (by decide) (by rfl) (by rfl) (by rfl) (by rfl) (by rfl)))))) (by intro _; rfl)) (c6 (g5 (@J3 _ _ _ _ _ _ _ _ _ _ _ _ _ _ G0 (F9 (c:=true)) (by rfl) (bl Y).tuple_ t7 (b6 (qv .C 2) b8) (by decide) (by decide) (by rfl) (by rfl))))))
def T4:Def (hk w) mg "_law_under" (top 43) ["_law_cap", "_law_other"] 266 (FD "_law_under" 43 n4 265):=dk Y (by kernel_rfl) fun _ _ _ _ _ _=>us2 fun _ _=>rfl
def jP:FnOk P w (hk w) mg base CX0 1 266 (FD "_law_under" 43 n4 265) ["_law_cap", "_law_other"] (spM (hk w) 2 .F Y5):=
 okF (T4 Y) jr (.inl rfl) rfl rfl fun hr=>(c6 (g5 (@S4 _ _ _ _ _ _ _ _ _ _ _ _ _ L4 E4 (@w4 _ _ _ _ _ _ _ _ _ _ _ _ _ _ t6 t5 (by rfl) (bl Y).len_ qC9 (b6 (i6 (g7 (@u7 _ _ _ _ _ _ _ _ _ _ _ _ _ _ _ _ (show g6 (b9 (top 43)) _ ["_law_cap", "_law_other"] ["_law_cap", "_law_other", "_law_p"] from by trivial) rfl (@C4 _ _ _ _ _ _ _ _ _ (by rfl) (bl Y).range_ (b6 (@w4 _ _ _ _ _ _ _ _ _ _ _ _ _ _ t6 t5 (by rfl) (bl Y).len_ qC9 (b6 (qv .B 0) b8) (by decide) (by decide) (by rfl) (by rfl)) b8) (by rfl)) (fun _ _ _ _=>(@e8 _ _ 2 _ (by decide +kernel:(["_law_cap", "_law_other", "_law_p"]:List Str).Nodup) rfl (Or.inl rfl) (.inr rfl))) i7 (v5 (show 2<=2 by decide)) (fun _ _ _ _=>(bU (PW.pt (U1 (@f9 _ _ _ _ _ _ _ _ _ _ _ _ cW cZ (f6 (d7 (qv .B 1) (qv .B 2))) v7 (by trivial)) (O1 (PW.pt (ab (@f9 _ _ _ _ _ _ _ _ _ _ _ _ L8 L9 (f6 (d7 (qv .B 0) (qv .B 2))) v7 (by trivial)) (X0 (@f9 _ _ _ _ _ _ _ _ _ _ _ _ cX xGt (f6 (d7 (qv .B 0) (qv .B 2))) (f6 (d7 (qv .B 1) (qv .B 2))) (by trivial)))))))))) (fun _ _ _ _=>(qv .V 2)) (by intro _; rfl)))) b8) (by decide) (by decide) (by rfl) (by rfl)) c7 (by trivial))))
def C7:Def (hk w) mg "_law_lifted" (top 44) ["_law_stand", "_law_basis"] 271 (FD "_law_lifted" 44 n4 270):=dk Y (by kernel_rfl) fun _ _ _ _ _ _=>us2 fun _ _=>rfl
def bx:FnOk P w (hk w) mg base CX0 2 271 (FD "_law_lifted" 44 n4 270) ["_law_stand", "_law_basis"] (spM (hk w) 2 .F M7):=
 okF (C7 Y) iE (.inl rfl) rfl rfl fun hr=>(c6 (g5 (@S4 _ _ _ _ _ _ _ _ _ _ _ _ _ cX xGt (@w4 _ _ _ _ _ _ _ _ _ _ _ _ _ _ t6 t5 (by rfl) (bl Y).len_ qC9 (b6 (i6 (g7 (@u7 _ _ _ _ _ _ _ _ _ _ _ _ _ _ _ _ (show g6 (b9 (top 44)) _ ["_law_stand", "_law_basis"] ["_law_stand", "_law_basis", "_law_one"] from by trivial) rfl (@O9 _ _ _ _ _ _ (qv .B 1) (by rfl)) (fun _ _ _ _=>(@e8 _ _ 2 _ (by decide +kernel:(["_law_stand", "_law_basis", "_law_one"]:List Str).Nodup) rfl (Or.inl rfl) (.inr rfl))) i7 (v5 (show 2<=2 by decide)) (fun _ _ _ _=>(bU (@y4 _ _ _ _ _ (i6 (g7 (@d5 _ _ _ _ _ _ _ _ _ _ _ _ _ _ _ _ (M4 Y) (.inl rfl) (by trivial) (by rfl) (m8 Y).m (m8 Y).F.kp (m8 Y).b (b6 (qv .B 0) (b6 (qv .B 2) b8)) (by decide) (by rfl) (by rfl)))) (by intro _; rfl)))) (fun _ _ _ _=>(qv .V 2)) (by intro _; rfl)))) b8) (by decide) (by decide) (by rfl) (by rfl)) c7 (by trivial))))
def V6:Def (hk w) mg "_law_rows" (top 45) ["_law_found", "_law_land", "_law_richer", "_law_more_here", "_law_target", "_law_most"] 276 (FD "_law_rows" 45 n4 275):=dk Y (by kernel_rfl) fun _ _ _ _ _ _=>us6 fun _ _ _ _ _ _=>rfl
def lK:FnOk P w (hk w) mg base CX0 7 276 (FD "_law_rows" 45 n4 275) ["_law_found", "_law_land", "_law_richer", "_law_more_here", "_law_target", "_law_most"] (spM (hk w) 6 .F S7):=
 okF (V6 Y) S0 (.inl rfl) rfl rfl fun hr=>(c8 (@i8 _ _ _ _ _ _ _ 6 _ _ S0.nd rfl (by trivial) (@d5 _ _ _ _ _ _ _ _ _ _ _ _ _ _ _ _ (fq Y) (.inl rfl) (by trivial) (by rfl) (K8 Y).m (K8 Y).F.kp (K8 Y).b (b6 (f6 (d7 (qv .B 0) c7)) (b6 (f6 (d7 (qv .B 1) c7)) (b6 (f6 (d7 (qv .B 1) c7)) b8))) (by decide) (by rfl) (by rfl)) (by rfl) (by trivial)) (c8 (@i8 _ _ _ _ _ _ _ 7 _ _ S0.nd rfl (by trivial) (@d5 _ _ _ _ _ _ _ _ _ _ _ _ _ _ _ _ (fq Y) (.inl rfl) (by trivial) (by rfl) (K8 Y).m (K8 Y).F.kp (K8 Y).b (b6 (f6 (d7 (qv .B 0) c7)) (b6 (qv .B 2) (b6 (f6 (d7 (qv .B 1) c7)) b8))) (by decide) (by rfl) (by rfl)) (by rfl) (by trivial)) (c8 (j6 (PW.pt (ab (@f9 _ _ _ _ _ _ _ _ _ _ _ _ L8 L9 (qv .B 6) v7 (by trivial)) (ab (@f9 _ _ _ _ _ _ _ _ _ _ _ _ L8 L9 (qv .B 7) v7 (by trivial)) (X0 (G8 (@y4 _ _ _ _ _ (i6 (g7 (@d5 _ _ _ _ _ _ _ _ _ _ _ _ _ _ _ _ (M4 Y) (.inl rfl) (by trivial) (by rfl) (m8 Y).m (m8 Y).F.kp (m8 Y).b (b6 (qv .B 6) (b6 (qv .B 4) b8)) (by decide) (by rfl) (by rfl)))) (by intro _; rfl))))))) (c6 (g5 z9)) j5) (c8 (j6 (@f9 _ _ _ _ _ _ _ _ _ _ _ _ (bZ (bg hr)) (P2 (neg:=true)) (qv .B 7) (i6 (g7 (@J3 _ _ _ _ _ _ _ _ _ _ _ _ _ _ G0 (F9 (c:=true)) (by rfl) (bl Y).tuple_ t7 (b6 (g7 (@u7 _ _ _ _ _ _ _ _ _ _ _ _ _ _ _ _ (show g6 (b9 (top 45)) _ ["_law_found", "_law_land", "_law_richer", "_law_more_here", "_law_target", "_law_most", "_law_here", "_law_there", "_law_other"] ["_law_found", "_law_land", "_law_richer", "_law_more_here", "_law_target", "_law_most", "_law_here", "_law_there", "_law_other", "_law_p"] from by trivial) rfl (@C4 _ _ _ _ _ _ _ _ _ (by rfl) (bl Y).range_ (b6 (@w4 _ _ _ _ _ _ _ _ _ _ _ _ _ _ t6 t5 (by rfl) (bl Y).len_ qC9 (b6 (qv .B 3) b8) (by decide) (by decide) (by rfl) (by rfl)) b8) (by rfl)) (fun _ _ _ _=>(@e8 _ _ 9 _ (by decide +kernel:(["_law_found", "_law_land", "_law_richer", "_law_more_here", "_law_target", "_law_most", "_law_here", "_law_there", "_law_other", "_law_p"]:List Str).Nodup) rfl (Or.inl rfl) (.inr rfl))) i7 (v5 (show 9<=9 by decide)) (fun _ _ _ _=>w8) (fun _ _ _ _=>(f7 o9 D1 (f6 (d7 (qv .B 6) (qv .B 9))) (f6 (d7 (qv .B 3) (qv .B 9))))) (by intro _; rfl))) b8) (by decide) (by decide) (by rfl) (by rfl)))) (by trivial)) (c6 (g5 z9)) j5) (c8 (@t9 _ _ _ _ _ _ _ 8 _ _ S0.nd rfl (by trivial) (@d5 _ _ _ _ _ _ _ _ _ _ _ _ _ _ _ _ (cY Y) (.inr rfl) (by trivial) (by rfl) (E9 Y).m (E9 Y).F.kp (E9 Y).b (b6 (f6 (az (b6 (qv .U 2) (b6 (d7 (qv .B 1) c7) b8)))) (b6 (qv .B 4) (b6 (qv .B 5) b8))) (by decide) (by rfl) (by rfl)) (by rfl) (by trivial)) (c6 (g5 (vG (@S4 _ _ _ _ _ _ _ _ _ _ _ _ _ L4 E4 (f6 (d7 (qv .B 8) c7)) C9 (by trivial)) (vC (@S4 _ _ _ _ _ _ _ _ _ _ _ _ _ vJ xLe (@w4 _ _ _ _ _ _ _ _ _ _ _ _ _ _ t6 t5 (by rfl) (bl Y).len_ qC9 (b6 (f6 (d7 (qv .B 8) c7)) b8) (by decide) (by decide) (by rfl) (by rfl)) (@w4 _ _ _ _ _ _ _ _ _ _ _ _ _ _ t6 t5 (by rfl) (bl Y).len_ qC9 (b6 (f6 (d7 (qv .B 0) c7)) b8) (by decide) (by decide) (by rfl) (by rfl)) (by trivial)))))))))))
def V9:Def (hk w) mg "_law_caps" (top 46) ["_law_land", "_law_richer", "_law_most"] 281 (FD "_law_caps" 46 n4 280):=dk Y (by kernel_rfl) fun _ _ _ _ _ _=>us3 fun _ _ _=>rfl
def lN:FnOk P w (hk w) mg base CX0 7 281 (FD "_law_caps" 46 n4 280) ["_law_land", "_law_richer", "_law_most"] (spM (hk w) 3 .F S8):=
 okF (V9 Y) S2 (.inl rfl) rfl rfl fun hr=>(c8 (@i8 _ _ _ _ _ _ _ 3 _ _ S2.nd rfl (by trivial) (@d5 _ _ _ _ _ _ _ _ _ _ _ _ _ _ _ _ (mD Y) (.inl rfl) (by trivial) (by rfl) (Y8 Y).m (Y8 Y).F.kp (Y8 Y).b (b6 (qv .B 0) (b6 (qv .B 2) b8)) (by decide) (by rfl) (by rfl)) (by rfl) (by trivial)) (c8 (@i8 _ _ _ _ _ _ _ 4 _ _ S2.nd rfl (by trivial) (@d5 _ _ _ _ _ _ _ _ _ _ _ _ _ _ _ _ (mD Y) (.inl rfl) (by trivial) (by rfl) (Y8 Y).m (Y8 Y).F.kp (Y8 Y).b (b6 (f6 (az (b6 (qv .U 1) (b6 (d7 (qv .B 0) c7) b8)))) (b6 (qv .B 2) b8)) (by decide) (by rfl) (by rfl)) (by rfl) (by trivial)) (c8 (j6 (PW.pt (ab (@f9 _ _ _ _ _ _ _ _ _ _ _ _ L8 L9 (qv .B 3) v7 (by trivial)) (X0 (@f9 _ _ _ _ _ _ _ _ _ _ _ _ L8 L9 (qv .B 4) v7 (by trivial))))) (c6 (g5 z9)) j5) (c8 (vF (@D0 _ _ _ _ _ _ _ _ _ _ _ _ _ qD4 rfl (@U2 _ _ _ _ _ _ (qv .U 3) (by rfl)) (@e8 _ _ 5 _ S2.nd rfl (by trivial) (by trivial)) i7 (c6 (j6 (@f9 _ _ _ _ _ _ _ _ _ _ _ _ L4 E4 (@w4 _ _ _ _ _ _ _ _ _ _ _ _ _ _ t6 t5 (by rfl) (bl Y).len_ qC9 (b6 (i6 (g7 (@u7 _ _ _ _ _ _ _ _ _ _ _ _ _ _ _ _ (show g6 (b9 (top 46)) _ ["_law_land", "_law_richer", "_law_most", "_law_lower", "_law_upper", "_law_cap"] ["_law_land", "_law_richer", "_law_most", "_law_lower", "_law_upper", "_law_cap", "_law_other"] from by trivial) rfl (@O9 _ _ _ _ _ _ (qv .B 4) (by rfl)) (fun _ _ _ _=>(@e8 _ _ 6 _ (by decide +kernel:(["_law_land", "_law_richer", "_law_most", "_law_lower", "_law_upper", "_law_cap", "_law_other"]:List Str).Nodup) rfl (Or.inl rfl) (.inr rfl))) i7 (v5 (show 6<=6 by decide)) (fun _ _ _ _=>(bU (@y4 _ _ _ _ _ (i6 (g7 (@d5 _ _ _ _ _ _ _ _ _ _ _ _ _ _ _ _ (jP Y) (.inl rfl) (by trivial) (by rfl) (T4 Y).m (T4 Y).F.kp (T4 Y).b (b6 (qv .B 5) (b6 (qv .B 6) b8)) (by decide) (by rfl) (by rfl)))) (by intro _; rfl)))) (fun _ _ _ _=>(qv .V 6)) (by intro _; rfl)))) b8) (by decide) (by decide) (by rfl) (by rfl)) c7 (by trivial)) (c6 (g5 z9)) j5)) (by intro _; rfl))) (c6 (g5 z9))))))
def P7:Def (hk w) mg "_law_nevers" (top 47) ["_law_land", "_law_richer", "_law_most"] 288 (FD "_law_nevers" 47 n4 287):=dk Y (by kernel_rfl) fun _ _ _ _ _ _=>us3 fun _ _ _=>rfl
def iG:FnOk P w (hk w) mg base CX0 8 288 (FD "_law_nevers" 47 n4 287) ["_law_land", "_law_richer", "_law_most"] (spM (hk w) 3 .F M6):=
 okF (P7 Y) M2 (.inl rfl) rfl rfl fun hr=>(c8 (@i8 _ _ _ _ _ _ _ 3 _ _ M2.nd rfl (by trivial) (@d5 _ _ _ _ _ _ _ _ _ _ _ _ _ _ _ _ (mB Y) (.inl rfl) (by trivial) (by rfl) (Y7 Y).m (Y7 Y).F.kp (Y7 Y).b (b6 (qv .B 0) (b6 (qv .B 2) b8)) (by decide) (by rfl) (by rfl)) (by rfl) (by trivial)) (c8 (@i8 _ _ _ _ _ _ _ 4 _ _ M2.nd rfl (by trivial) (@d5 _ _ _ _ _ _ _ _ _ _ _ _ _ _ _ _ (mB Y) (.inl rfl) (by trivial) (by rfl) (Y7 Y).m (Y7 Y).F.kp (Y7 Y).b (b6 (f6 (az (b6 (qv .U 1) (b6 (d7 (qv .B 0) c7) b8)))) (b6 (qv .B 2) b8)) (by decide) (by rfl) (by rfl)) (by rfl) (by trivial)) (c8 (j6 (PW.pt (ab (@f9 _ _ _ _ _ _ _ _ _ _ _ _ aX X3 (@w4 _ _ _ _ _ _ _ _ _ _ _ _ _ _ t6 t5 (by rfl) (bl Y).len_ qC9 (b6 (qv .B 3) b8) (by decide) (by decide) (by rfl) (by rfl)) (@w4 _ _ _ _ _ _ _ _ _ _ _ _ _ _ t6 t5 (by rfl) (bl Y).len_ qC9 (b6 (f6 (d7 (qv .B 0) c7)) b8) (by decide) (by decide) (by rfl) (by rfl)) (by trivial)) (X0 (@f9 _ _ _ _ _ _ _ _ _ _ _ _ aX X3 (@w4 _ _ _ _ _ _ _ _ _ _ _ _ _ _ t6 t5 (by rfl) (bl Y).len_ qC9 (b6 (qv .B 4) b8) (by decide) (by decide) (by rfl) (by rfl)) (@w4 _ _ _ _ _ _ _ _ _ _ _ _ _ _ t6 t5 (by rfl) (bl Y).len_ qC9 (b6 (f6 (d7 (qv .B 0) c7)) b8) (by decide) (by decide) (by rfl) (by rfl)) (by trivial))))) (c6 (g5 z9)) j5) (c8 (@D0 _ _ _ _ _ _ _ _ _ _ _ _ _ qD4 rfl (@C4 _ _ _ _ _ _ _ _ _ (by rfl) (bl Y).range_ (b6 (@w4 _ _ _ _ _ _ _ _ _ _ _ _ _ _ t6 t5 (by rfl) (bl Y).len_ qC9 (b6 (qv .B 3) b8) (by decide) (by decide) (by rfl) (by rfl)) b8) (by rfl)) (@e8 _ _ 5 _ M2.nd rfl (by trivial) (by trivial)) i7 (c6 (j6 (PW.pt (U1 (@f9 _ _ _ _ _ _ _ _ _ _ _ _ qw qA (f6 (d7 (qv .B 4) (qv .B 5))) z9 (by trivial)) (O1 (@f9 _ _ _ _ _ _ _ _ _ _ _ _ qw qA (f6 (d7 (qv .B 3) (qv .B 5))) z9 (by trivial))))) (c6 (g5 z9)) j5)) (by intro _; rfl)) (c6 (g5 z9))))))
def CQ:Def (hk w) mg "law" (top 48) ["_law_script"] 293 (FD "law" 48 n4 292):=dk Y (by kernel_rfl) fun _ _ _ _ _ _=>us1 fun _=>rfl
def Ex:FnOk P w (hk w) mg base CX0 9 293 (FD "law" 48 n4 292) ["_law_script"] (spM (hk w) 1 .F iO):=
 okF (CQ Y) D2 (.inl rfl) rfl rfl fun hr=>(c8 (@t9 _ _ _ _ _ _ _ 1 _ _ D2.nd rfl (by trivial) (f7 o9 D1 c7 (f7 r9 (j7 (C:=k9) (g:=l6) (fun _ _=>rfl) (fun _ _ _=>.int)) (i6 (g7 (@d5 _ _ _ _ _ _ _ _ _ _ _ _ _ _ _ _ (l5 Y) (.inl rfl) (by trivial) (by rfl) (d4 Y).m (d4 Y).F.kp (d4 Y).b (b6 (qv .B 0) (n8 b8)) (by decide) (by rfl) (by rfl)))) c7)) (by rfl) (by trivial)) (c8 (@t9 _ _ _ _ _ _ _ 2 _ _ D2.nd rfl (by trivial) (f7 o9 D1 c7 (f7 r9 (j7 (C:=k9) (g:=l6) (fun _ _=>rfl) (fun _ _ _=>.int)) (i6 (g7 (@d5 _ _ _ _ _ _ _ _ _ _ _ _ _ _ _ _ (l5 Y) (.inl rfl) (by trivial) (by rfl) (d4 Y).m (d4 Y).F.kp (d4 Y).b (b6 (qv .B 0) (n8 b8)) (by decide) (by rfl) (by rfl)))) c7)) (by rfl) (by trivial)) (c8 (@t9 _ _ _ _ _ _ _ 3 _ _ D2.nd rfl (by trivial) (@S4 _ _ _ _ _ _ _ _ _ _ _ _ _ L4 E4 (f7 r9 (j7 (C:=k9) (g:=l6) (fun _ _=>rfl) (fun _ _ _=>.int)) (i6 (g7 (@d5 _ _ _ _ _ _ _ _ _ _ _ _ _ _ _ _ (l5 Y) (.inl rfl) (by trivial) (by rfl) (d4 Y).m (d4 Y).F.kp (d4 Y).b (b6 (qv .B 0) (n8 b8)) (by decide) (by rfl) (by rfl)))) c7) c7 (by trivial)) (by rfl) (by trivial)) (c8 (@t9 _ _ _ _ _ _ _ 4 _ _ D2.nd rfl (by trivial) c7 (by rfl) (by trivial)) (c8 (j6 (@f9 _ _ _ _ _ _ _ _ _ _ _ _ L4 E4 (f7 r9 (j7 (C:=k9) (g:=l6) (fun _ _=>rfl) (fun _ _ _=>.int)) (i6 (g7 (@d5 _ _ _ _ _ _ _ _ _ _ _ _ _ _ _ _ (l5 Y) (.inl rfl) (by trivial) (by rfl) (d4 Y).m (d4 Y).F.kp (d4 Y).b (b6 (qv .B 0) (n8 b8)) (by decide) (by rfl) (by rfl)))) c7) c7 (by trivial)) (c6 (@t9 _ _ _ _ _ _ _ 4 _ _ D2.nd rfl (by trivial) (f7 o9 D1 c7 (f7 r9 (j7 (C:=k9) (g:=l6) (fun _ _=>rfl) (fun _ _ _=>.int)) (f7 L3 (j7 (C:=B6) (g:=F5) (fun _ _=>rfl) (fun _ _ _=>.int)) (i6 (g7 (@d5 _ _ _ _ _ _ _ _ _ _ _ _ _ _ _ _ (l5 Y) (.inl rfl) (by trivial) (by rfl) (d4 Y).m (d4 Y).F.kp (d4 Y).b (b6 (qv .B 0) (n8 b8)) (by decide) (by rfl) (by rfl)))) c7) (f7 qu (j7 (C:=bv) (g:=kR) (fun _ _=>rfl) (fun _ _ _=>.int)) c7 c7))) (by rfl) (by trivial))) j5) (c8 (@i8 _ _ _ _ _ _ _ 5 _ _ D2.nd rfl (by trivial) (D4 b8) (by rfl) (by trivial)) (c8 (@D0 _ _ _ _ _ _ _ _ _ _ _ _ _ qD4 rfl (@C4 _ _ _ _ _ _ _ _ _ (by rfl) (bl Y).range_ (b6 (f7 o9 D1 c7 (f7 r9 (j7 (C:=k9) (g:=l6) (fun _ _=>rfl) (fun _ _ _=>.int)) (i6 (g7 (@d5 _ _ _ _ _ _ _ _ _ _ _ _ _ _ _ _ (l5 Y) (.inl rfl) (by trivial) (by rfl) (d4 Y).m (d4 Y).F.kp (d4 Y).b (b6 (qv .B 0) (n8 b8)) (by decide) (by rfl) (by rfl)))) c7)) b8) (by rfl)) (@e8 _ _ 6 _ D2.nd rfl (by trivial) (by trivial)) i7 (c6 (@P0 _ _ _ _ _ _ _ 5 _ _ _ _ rfl (by trivial) (C5 (@d5 _ _ _ _ _ _ _ _ _ _ _ _ _ _ _ _ (lL Y) (.inl rfl) (by trivial) (by rfl) (V7 Y).m (V7 Y).F.kp (V7 Y).b (b6 (qv .B 0) (b6 (f7 o9 D1 c7 (f7 y6 (j7 (C:=CMulB) (g:=p9) (fun _ _=>rfl) (fun _ _ _=>.int)) (qv .B 1) (qv .B 6))) (b6 (qv .B 1) (b6 (qv .B 3) (b6 (qv .B 4) b8))))) (by decide) (by rfl) (by rfl))) (by decide) (by decide) (by rfl) (by rfl) (by rfl) (by rfl) (by rfl))) (by intro _; rfl)) (c8 (@i8 _ _ _ _ _ _ _ 7 _ _ D2.nd rfl (by trivial) (@J3 _ _ _ _ _ _ _ _ _ _ _ _ _ _ G0 (F9 (c:=true)) (by rfl) (bl Y).tuple_ t7 (b6 (g7 (@u7 _ _ _ _ _ _ _ _ _ _ _ _ _ _ _ _ (show g6 (b9 (top 48)) _ ["_law_script", "_law_many", "_law_most", "_law_plain", "_law_times", "_law_moves", "_law_k", "_law_begin", "_law_land", "_law_more_here", "_law_richer", "_law_target", "_law_found", "_law_basis", "_law_other"] ["_law_script", "_law_many", "_law_most", "_law_plain", "_law_times", "_law_moves", "_law_k", "_law_begin", "_law_land", "_law_more_here", "_law_richer", "_law_target", "_law_found", "_law_basis", "_law_other", "_law_p"] from by trivial) rfl (@C4 _ _ _ _ _ _ _ _ _ (by rfl) (bl Y).range_ (b6 (qv .B 1) b8) (by rfl)) (fun _ _ _ _=>(@e8 _ _ 15 _ (by decide +kernel:(["_law_script", "_law_many", "_law_most", "_law_plain", "_law_times", "_law_moves", "_law_k", "_law_begin", "_law_land", "_law_more_here", "_law_richer", "_law_target", "_law_found", "_law_basis", "_law_other", "_law_p"]:List Str).Nodup) rfl (Or.inl rfl) (.inr rfl))) i7 (v5 (show 15<=15 by decide)) (fun _ _ _ _=>w8) (fun _ _ _ _=>(f7 y6 (j7 (C:=CMulB) (g:=p9) (fun _ _=>rfl) (fun _ _ _=>.int)) (f7 r9 (j7 (C:=k9) (g:=l6) (fun _ _=>rfl) (fun _ _ _=>.int)) (i6 (g7 (@d5 _ _ _ _ _ _ _ _ _ _ _ _ _ _ _ _ (l5 Y) (.inl rfl) (by trivial) (by rfl) (d4 Y).m (d4 Y).F.kp (d4 Y).b (b6 (qv .B 0) (b6 (f7 o9 D1 c7 (qv .B 15)) b8)) (by decide) (by rfl) (by rfl)))) c7) (qv .B 4))) (by intro _; rfl))) b8) (by decide) (by decide) (by rfl) (by rfl)) (by rfl) (by trivial)) (c8 (@i8 _ _ _ _ _ _ _ 8 _ _ D2.nd rfl (by trivial) (S3 (b6 (qv .V 7) (b6 (C5 (@J3 _ _ _ _ _ _ _ _ _ _ _ _ _ _ G0 (F9 (c:=true)) (by rfl) (bl Y).tuple_ t7 (b6 (qv .C 5) b8) (by decide) (by decide) (by rfl) (by rfl))) b8))) (by rfl) (by trivial)) (c8 (@i8 _ _ _ _ _ _ _ 9 _ _ D2.nd rfl (by trivial) (@d5 _ _ _ _ _ _ _ _ _ _ _ _ _ _ _ _ (lM Y) (.inl rfl) (by trivial) (by rfl) (V8 Y).m (V8 Y).F.kp (V8 Y).b (b6 (qv .B 0) (b6 (qv .B 7) b8)) (by decide) (by rfl) (by rfl)) (by rfl) (by trivial)) (c8 (@i8 _ _ _ _ _ _ _ 10 _ _ D2.nd rfl (by trivial) (@J3 _ _ _ _ _ _ _ _ _ _ _ _ _ _ G0 (F9 (c:=true)) (by rfl) (bl Y).tuple_ t7 (b6 (g7 (@u7 _ _ _ _ _ _ _ _ _ _ _ _ _ _ _ _ (show g6 (b9 (top 48)) _ ["_law_script", "_law_many", "_law_most", "_law_plain", "_law_times", "_law_moves", "_law_k", "_law_begin", "_law_land", "_law_more_here", "_law_richer", "_law_target", "_law_found", "_law_basis", "_law_other"] ["_law_script", "_law_many", "_law_most", "_law_plain", "_law_times", "_law_moves", "_law_k", "_law_begin", "_law_land", "_law_more_here", "_law_richer", "_law_target", "_law_found", "_law_basis", "_law_other", "_law_p"] from by trivial) rfl (@C4 _ _ _ _ _ _ _ _ _ (by rfl) (bl Y).range_ (b6 (qv .B 1) b8) (by rfl)) (fun _ _ _ _=>(@e8 _ _ 15 _ (by decide +kernel:(["_law_script", "_law_many", "_law_most", "_law_plain", "_law_times", "_law_moves", "_law_k", "_law_begin", "_law_land", "_law_more_here", "_law_richer", "_law_target", "_law_found", "_law_basis", "_law_other", "_law_p"]:List Str).Nodup) rfl (Or.inl rfl) (.inr rfl))) i7 (v5 (show 15<=15 by decide)) (fun _ _ _ _=>w8) (fun _ _ _ _=>(f7 o9 D1 (f6 (d7 (qv .B 7) (qv .B 15))) (f6 (d7 (qv .B 9) (qv .B 15))))) (by intro _; rfl))) b8) (by decide) (by decide) (by rfl) (by rfl)) (by rfl) (by trivial)) (c8 (@i8 _ _ _ _ _ _ _ 11 _ _ D2.nd rfl (by trivial) (@J3 _ _ _ _ _ _ _ _ _ _ _ _ _ _ G0 (F9 (c:=true)) (by rfl) (bl Y).tuple_ t7 (b6 (g7 (@u7 _ _ _ _ _ _ _ _ _ _ _ _ _ _ _ _ (show g6 (b9 (top 48)) _ ["_law_script", "_law_many", "_law_most", "_law_plain", "_law_times", "_law_moves", "_law_k", "_law_begin", "_law_land", "_law_more_here", "_law_richer", "_law_target", "_law_found", "_law_basis", "_law_other"] ["_law_script", "_law_many", "_law_most", "_law_plain", "_law_times", "_law_moves", "_law_k", "_law_begin", "_law_land", "_law_more_here", "_law_richer", "_law_target", "_law_found", "_law_basis", "_law_other", "_law_p"] from by trivial) rfl (@C4 _ _ _ _ _ _ _ _ _ (by rfl) (bl Y).range_ (b6 (qv .B 1) b8) (by rfl)) (fun _ _ _ _=>(@e8 _ _ 15 _ (by decide +kernel:(["_law_script", "_law_many", "_law_most", "_law_plain", "_law_times", "_law_moves", "_law_k", "_law_begin", "_law_land", "_law_more_here", "_law_richer", "_law_target", "_law_found", "_law_basis", "_law_other", "_law_p"]:List Str).Nodup) rfl (Or.inl rfl) (.inr rfl))) i7 (v5 (show 15<=15 by decide)) (fun _ _ _ _=>w8) (fun _ _ _ _=>(f7 y6 (j7 (C:=CMulB) (g:=p9) (fun _ _=>rfl) (fun _ _ _=>.int)) (f7 r9 (j7 (C:=k9) (g:=l6) (fun _ _=>rfl) (fun _ _ _=>.int)) (f7 L3 (j7 (C:=B6) (g:=F5) (fun _ _=>rfl) (fun _ _ _=>.int)) (i6 (g7 (@d5 _ _ _ _ _ _ _ _ _ _ _ _ _ _ _ _ (l5 Y) (.inl rfl) (by trivial) (by rfl) (d4 Y).m (d4 Y).F.kp (d4 Y).b (b6 (qv .B 0) (b6 (f7 o9 D1 c7 (qv .B 15)) b8)) (by decide) (by rfl) (by rfl)))) c7) c7) (qv .B 4))) (by intro _; rfl))) b8) (by decide) (by decide) (by rfl) (by rfl)) (by rfl) (by trivial)) (c8 (j6 (@f9 _ _ _ _ _ _ _ _ _ _ _ _ L4 E4 (f7 r9 (j7 (C:=k9) (g:=l6) (fun _ _=>rfl) (fun _ _ _=>.int)) (i6 (g7 (@d5 _ _ _ _ _ _ _ _ _ _ _ _ _ _ _ _ (l5 Y) (.inl rfl) (by trivial) (by rfl) (d4 Y).m (d4 Y).F.kp (d4 Y).b (b6 (qv .B 0) (n8 b8)) (by decide) (by rfl) (by rfl)))) c7) c7 (by trivial)) (c6 (@i8 _ _ _ _ _ _ _ 11 _ _ D2.nd rfl (by trivial) (@d5 _ _ _ _ _ _ _ _ _ _ _ _ _ _ _ _ (jQ Y) (.inl rfl) (by trivial) (by rfl) (T6 Y).m (T6 Y).F.kp (T6 Y).b (b6 (qv .B 0) (b6 (qv .B 7) (b6 (qv .B 5) b8))) (by decide) (by rfl) (by rfl)) (by rfl) (by trivial))) j5) (c8 (@t9 _ _ _ _ _ _ _ 12 _ _ D2.nd rfl (by trivial) (@d5 _ _ _ _ _ _ _ _ _ _ _ _ _ _ _ _ (cY Y) (.inr rfl) (by trivial) (by rfl) (E9 Y).m (E9 Y).F.kp (E9 Y).b (b6 (qv .B 8) (b6 (qv .B 11) (b6 (qv .B 2) b8))) (by decide) (by rfl) (by rfl)) (by rfl) (by trivial)) (c8 (j6 (PW.pt (U1 (@f9 _ _ _ _ _ _ _ _ _ _ _ _ L4 E4 (f6 (d7 (qv .B 12) c7)) C9 (by trivial)) (O1 (G8 (@y4 _ _ _ _ _ (i6 (g7 (@d5 _ _ _ _ _ _ _ _ _ _ _ _ _ _ _ _ (lK Y) (.inl rfl) (by trivial) (by rfl) (V6 Y).m (V6 Y).F.kp (V6 Y).b (b6 (qv .B 12) (b6 (qv .B 8) (b6 (qv .B 10) (b6 (qv .B 9) (b6 (qv .B 11) (b6 (qv .B 2) b8)))))) (by decide) (by rfl) (by rfl)))) (by intro _; rfl)))))) (c6 (g5 z9)) j5) (c8 (@t9 _ _ _ _ _ _ _ 13 _ _ D2.nd rfl (by trivial) (@d5 _ _ _ _ _ _ _ _ _ _ _ _ _ _ _ _ (uf Y) (.inr rfl) (by trivial) (by rfl) (dw Y).m (dw Y).F.kp (dw Y).b (b6 (f6 (d7 (qv .B 8) c7)) (b6 (qv .B 11) (b6 (qv .B 2) b8))) (by decide) (by rfl) (by rfl)) (by rfl) (by trivial)) (c8 (j6 (@f9 _ _ _ _ _ _ _ _ _ _ _ _ L4 E4 (f6 (d7 (qv .B 13) c7)) C9 (by trivial)) (c8 (@t9 _ _ _ _ _ _ _ 14 _ _ D2.nd rfl (by trivial) (@d5 _ _ _ _ _ _ _ _ _ _ _ _ _ _ _ _ (cY Y) (.inr rfl) (by trivial) (by rfl) (E9 Y).m (E9 Y).F.kp (E9 Y).b (b6 (f6 (az (b6 (qv .U 10) (b6 (d7 (qv .B 8) c7) b8)))) (b6 (qv .B 11) (b6 (qv .B 2) b8))) (by decide) (by rfl) (by rfl)) (by rfl) (by trivial)) (c8 (j6 (@f9 _ _ _ _ _ _ _ _ _ _ _ _ aX X3 (@S4 _ _ _ _ _ _ _ _ _ _ _ _ _ L4 E4 (f6 (d7 (qv .B 12) c7)) C9 (by trivial)) (i6 (g7 (@d5 _ _ _ _ _ _ _ _ _ _ _ _ _ _ _ _ (bx Y) (.inl rfl) (by trivial) (by rfl) (C7 Y).m (C7 Y).F.kp (C7 Y).b (b6 (qv .B 7) (b6 (f6 (d7 (qv .B 13) c7)) b8)) (by decide) (by rfl) (by rfl)))) (by trivial)) (c6 (g5 z9)) j5) (c8 (j6 (@f9 _ _ _ _ _ _ _ _ _ _ _ _ aX X3 (@S4 _ _ _ _ _ _ _ _ _ _ _ _ _ L4 E4 (f6 (d7 (qv .B 14) c7)) C9 (by trivial)) (i6 (g7 (@d5 _ _ _ _ _ _ _ _ _ _ _ _ _ _ _ _ (bx Y) (.inl rfl) (by trivial) (by rfl) (C7 Y).m (C7 Y).F.kp (C7 Y).b (b6 (qv .B 10) (b6 (f6 (d7 (qv .B 13) c7)) b8)) (by decide) (by rfl) (by rfl)))) (by trivial)) (c6 (g5 z9)) j5) (c6 (j6 (PW.pt (ab (PW.pt (U1 (@f9 _ _ _ _ _ _ _ _ _ _ _ _ aX X3 (f6 (d7 (qv .B 12) c7)) C9 (by trivial)) (O1 (@f9 _ _ _ _ _ _ _ _ _ _ _ _ (bZ (bg hr)) (P2 (neg:=true)) (qv .B 12) (f6 (az (b6 C9 (b6 (d7 (qv .B 13) c7) b8)))) (by trivial))))) (X0 (PW.pt (U1 (@f9 _ _ _ _ _ _ _ _ _ _ _ _ aX X3 (f6 (d7 (qv .B 14) c7)) C9 (by trivial)) (O1 (@f9 _ _ _ _ _ _ _ _ _ _ _ _ (bZ (bg hr)) (P2 (neg:=true)) (qv .B 14) (f6 (az (b6 C9 (b6 (d7 (qv .B 13) c7) b8)))) (by trivial)))))))) (c6 (g5 z9)) j5))))) (c6 (j6 (PW.pt (U1 (@f9 _ _ _ _ _ _ _ _ _ _ _ _ aX X3 (f6 (d7 (qv .B 12) c7)) C9 (by trivial)) (O1 (@f9 _ _ _ _ _ _ _ _ _ _ _ _ (bZ (bg hr)) (P2 (neg:=true)) (qv .B 12) (qv .B 13) (by trivial))))) (c6 (g5 z9)) j5))) (c6 (g5 (vG (i6 (g7 (@d5 _ _ _ _ _ _ _ _ _ _ _ _ _ _ _ _ (lN Y) (.inl rfl) (by trivial) (by rfl) (V9 Y).m (V9 Y).F.kp (V9 Y).b (b6 (qv .B 8) (b6 (qv .B 10) (b6 (qv .B 2) b8))) (by decide) (by rfl) (by rfl)))) (vC (@d5 _ _ _ _ _ _ _ _ _ _ _ _ _ _ _ _ (iG Y) (.inl rfl) (by trivial) (by rfl) (P7 Y).m (P7 Y).F.kp (P7 Y).b (b6 (qv .B 8) (b6 (qv .B 10) (b6 (qv .B 2) b8))) (by decide) (by rfl) (by rfl)))))))))))))))))))))))
end
def spLaw (K:Frag):Sp:=fun vs H Q _=>∃ (a:Addr) (ns:List Int),vs = [.ref a]/\SqL K H a (ns.map V.int)/\ns.length<=63/\(∀ x∈ns,Builtin.Int.intBits x<=1048576)/\∀ H',Q (.bl true) H'
def all_ {l:PySem.W.OpenLaw} {w:World} {mg:Str->Option Value} {fa:Addr} (Y:En w mg) (hp:∀ ns:List Int,ns.length<=63->(∀ x∈ns,Builtin.Int.intBits x<=1048576)->iO [.scr (ns.map W.int)]=.ok (.bl true)) (e:mg "law" = some (.ref fa)):∃ fd:FuncData,(∀ (s:Shared) (v:Value),BindsTo s fd ⟨[v],[]⟩ [("_law_script",v)])/\∀ base:Heap,(hk w).In base->base.Ns mainGlobals mg->FnOk l.prog w (hk w) mg base CX0 9 fa fd ["_law_script"] (spLaw (hk w)):=by
 cases e.symm.trans (CQ Y).m
 exact ⟨FD "law" 48 n4 292,fun s v=>.of_eq rfl,fun base _ _=>xM (Ex Y) hp⟩
end K97
open PySem PySem.W PyProof.Rows
namespace K97
def hxas:List Addr:=[2,3,15,22,23,25,28,40,42,43,52,53,59,60,64,65,69,70,76,77,83,84,88,89,93,94,100,101,105,106,112,113,119,120,126,127,133,134,138,139,143,144,150,151,157,158,164,165,171,172,176,177,181,182,188,189,193,194,200,201,205,206,212,213,217,218,224,225,229,230,236,237,241,242,246,247,253,254,260,261,265,266,270,271,275,276,280,281,287,288,292,293]
def view:Program:={ PySem.Challenge.pw_tokenmoor_k97_whole_more_counters_never with main:={ PySem.Challenge.pw_tokenmoor_k97_whole_more_counters_never.main with body:=[1,2,4,5,6,7,9,10,11,12,13,14,16,17,18,19,20,21,22,24,25,26,27,28,29,30,31,32,33,34,36,37,38,39,40,41,42,43,44,45,46,47,48].map top } }
def hook:PySem.W.Hook:=PySem.W.kHook qW hxas (fun _=>by kernel_rfl)
end K97
set_option maxHeartbeats 0 in
theorem PySem.Challenge.cw_tokenmoor_k97_whole_more_counters_never_holds : PySem.Challenge.rw_tokenmoor_k97_whole_more_counters_never.Holds := by
 w_on; o_law
 refine holds_open (q:=K97.view) (loose:=[]) (Xt:=fun s=>xlAt K97.view [] s&&recOk [] s) (XP:=XL K97.view [])
  (Yf:=K97.hook.obs) (Ya:=K97.hook.val) (YP:=K97.hook.says) (N:=3470) ?hl K97.hook.of K97.hook.keeps
  (fun s e=>xl_of s (Bool.and_eq_true_iff.mp e).1) XL.keeps (by rfl) (by rfl) (by rfl)
  (fun s e=>recFacts_of (Bool.and_eq_true_iff.mp e).2) (by rfl) (by first | assumption | decide +kernel)
  (by decide +kernel) ⟨rfl,rfl,rfl,rfl,rfl,by decide +kernel⟩ ?hw ?hc
 (case hl=>intro w; kernel_rfl)
 (case hw=>w_witness2)
 refine L2.walk_ofKB (l:=PySem.Challenge.rw_tokenmoor_k97_whole_more_counters_never) (n:=63) (k:=9) (x := "_law_script") (CX:=L2.CX0) (sp:=K97.spLaw) rfl (by decide) rfl ⟨rfl,by decide,by decide⟩ (fun w h Y=>PySem.W.kIn_of Y)
  (fun w mg fa h X G e=>K97.all_ ⟨h,X,G⟩ K97.law_pure e)
  (fun K H a ns hl hb hO hS=>⟨a,ns,rfl,hS,hl,hb,fun _=>rfl⟩) fun _ _ _ _ z=>z
