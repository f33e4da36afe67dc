import PyProof.Rows.All
import Wide.All
import OpenK.AllK
import Wide.FinOn
import Lean
import PyProof.EqAt
import PyProof.EqKinds
import PyProof.TupleCall
import PyProof.ZipIter
import PyProof.TupleIter
import PyProof.WalksMore
import PyProof.EnumMake
import PyProof.Draws
import PyProof.P3In
import KE.KSortTup
import PyProof.Rows.SortWalk
import KE.KMinKey
import KE.KLam
import KE.KNestM
import KE.IntBitsLaws
import KE.KRevIter
import PyProof.TupleOfGen
import PyProof.SetRoads
import PyProof.TupleKey
import PyProof.InstSpecial
import PyProof.Rows.SetFrom
import PyProof.WalksS
import PyProof.Walks
import PyProof.Rows.FactsT2
import PySem.Challenge.RW_tokenmoor_k96_whole_bounded_by_three_roa
open PySem.W (Frag)
set_option Elab.async false
set_option linter.all false
set_option compiler.extract_closed false
def ox {p:Prop}(h:p:=by omega):p:=h
def Zo {p:Prop}(h:p:=by rfl):p:=h
def Zy {p:Prop}(h:p:=by trivial):p:=h
def ZQ {p:Prop}(h:p:=by decide):p:=h
def ZZ {p:Prop}(h:p:=by simp):p:=h
def ZY {p:Prop}(h:p:=by kernel_rfl):p:=h
def ZV {p:Prop}(h:p:=by decide +kernel):p:=h
abbrev Vq:=List (PySem.Addr×PySem.Obj)
abbrev Vz:=List (PySem.Str×PySem.Addr)
abbrev Vv:=PySem.Str->Option PySem.Value
abbrev Vw:=List (Option Int)
abbrev Vx:=Option Int
abbrev Vy:=List PySem.Value
abbrev Vp:=List PySem.Str
abbrev Vo:=List PySem.Expr
abbrev VQ:=Array PySem.Value
abbrev VZ:=PySem.Value->PySem.Shared->Prop
abbrev VJ:=Option PySem.Value
abbrev VV:=List (List Int)
abbrev VW:=List Int
abbrev VX:=Nat->Nat->Int
abbrev VY:=Nat->Int
abbrev Zq:=List Nat
def qN2:=@PySem.wpAny_pure
def qN3:=@decide_eq_false
def qN4:=@decide_eq_true
def qN5:=@of_decide_eq_true
def qN6:=@PySem.wpAny_holding
def qN7:=@PySem.wpAny_Call_Name_kw
def qN8:=@if_true
def qN9:=@PySem.wpAny_seqItems
def qO0:=@PySem.wpAny_field
def qO1:=@PySem.sizeLine_eq
def qO2:=@if_false
def qO3:=@PySem.wpAny_callSpecial?_slot
def qO4:=@PySem.wpAny_newObj_type
def qO5:=@PySem.wpAny_mono
def qO6:=@PySem.wpAny_truthy_bool
def qO7:=@PySem.wpAny_pyIter_list
def qO8:=@PySem.wpAny_call_entry
def qO9:=@PySem.wpAny_pyIter_tuple
def qP0:=@decide_eq_true_iff
def qP1:=@List.mem_filter
def qP2:=@PySem.wpAny_passesOwn
def qP3:=@PySem.wpAny_setField_rec
def qP4:=@PySem.wpAny_updateSeq
def qP5:=@PySem.wpAny_setState_of
def qP6:=@PyProof.Rows.boot_isinstance
def qP7:=@Array.getD_eq_getD_getElem?
def qP8:=@PySem.call_meets
def qP9:=@beq_self_eq_true
def qQ0:=@PySem.wpAny_standAt
def qQ1:=@PySem.plainId_quiet
def qQ2:=@PySem.wpAny_letGo
def qQ3:=@PySem.wpAny_loadPart'
def qQ4:=@PySem.codeAny_builtin
def qQ5:=@List.mem_of_find?_eq_some
def qQ6:=@PySem.F.args_tuple_add_2
def qQ7:=@List.pairwise_cons
def qQ8:=@Array.size_setIfInBounds
def qQ9:=@PyProof.Rows.F.entry_set_update_loop
def qR0:=@PyProof.Rows.F.plain_set_update_loop
def qR1:=@List.Pairwise.imp_of_mem
def qR2:=@PySem.wpAny_rule
def qR3:=@PySem.wpAny_newTuple
def qR4:=@PySem.F.entry_tuple_add
def qR5:=@PySem.F.plainAttrs_list
def qR6:=@List.getElem?_replicate
def qR7:=@List.pairwise_singleton
def qR8:=@Int.mul_nonpos_of_nonpos_of_nonneg
def qR9:=@PySem.F.slot_tuple_add
def qS0:=@PySem.Calls.callWith_builtin
def qS1:=@List.length_pos_of_mem
def qS2:=@List.range_succ_eq_map
def qS3:=@PySem.wpAny_newList
def qS4:=@List.take_succ_eq_append_getElem
def qS5:=@PySem.wpAny_forIn_list
def qS6:=@List.length_replicate
def qS7:=@List.countP_mono_left
def qS8:=@List.pairwise_reverse
def qS9:=@PySem.wpAny_loadName_local
def qT0:=@PySem.wpAny_execs_nil
def qT1:=@Array.mem_toList_iff
def qT2:=@PySem.codeAny_mono
def qT3:=@List.nodup_cons
def qT4:=@PyProof.Rows.callWith_builtin1
def qT5:=@PySem.F.slot_int_rmul
def qT6:=@PySem.F.slot_zip_next
def qT7:=@List.forIn_cons
def qT8:=@PySem.wpAny_pyIter_revIter
def qT9:=@PySem.Around.under_plainId
def qU0:=@List.range_succ
def qU1:=@List.pairwise_append
def qU2:=@Int.mul_ediv_cancel'
def qU3:=@Bool.and_eq_true_iff
def qU5:=@Bool.false_and
def qU6:=@PySem.wpAny_tryCatch
def qU7:=@List.take_succ
def qU8:=@PySem.Calls.spliced_cons
def qU9:=@PySem.wpAny_evalAll_cons
def qV1:=@List.length_mapIdx
def qV2:=@Array.forIn_toList
def qV3:=@List.find?_eq_none
def qV4:=@of_decide_eq_false
def qV6:=@Int.fdiv_eq_ediv_of_nonneg
def qV7:=@Int.fmod_eq_emod_of_nonneg
def qV8:=@List.perm_ext_iff_of_nodup
def qV9:=@PySem.Calls.spliced_nil
def qW0:=@List.take_add_one
def qW1:=@List.flatten_cons
def qW2:=@List.append_assoc
def qW3:=@decide_eq_true_eq
def qW4:=@Nat.lt_trichotomy
def qW5:=@bne_self_eq_false
def qW6:=@Function.comp_def
def qW7:=@Nat.add_sub_assoc
def qW8:=@PySem.wpAny_Name
def qW9:=@PySem.typeIs_int
def qX1:=@List.drop_eq_getElem_cons
def qX2:=@Int.not_lt
def qX3:=@Nat.not_lt
def qX4:=@Classical.byContradiction
def qX5:=@Int.mul_neg_of_pos_of_neg
def qX6:=@PySem.wpAny_eqBool_int
def qX7:=@List.getElem?_take_of_lt
def qX8:=@PySem.noFill_tuple_add
def qX9:=@List.length_drop
def qY0:=@PySem.wpAny_typeOf
def qY1:=@Nat.mul_comm
def qY3:=@Nat.not_lt_of_le
def qY4:=@Nat.add_lt_add_iff_right
def qY5:=@PySem.Heap.size_update
def qY7:=@PyProof.Rows.callWith_kw
def qY8:=@List.any_eq_true
def qY9:=@Int.le_max_right
def qZ0:=@Int.natCast_succ
def qZ1:=@List.getElem_map
def qZ2:=@Nat.succ_pred_eq_of_pos
def qZ3:=@PySem.F.slot_list_index
def qZ4:=@List.getElem?_cons_succ
def qZ5:=@List.mem_singleton_self
def qZ6:=@Nat.add_sub_cancel_left
def qZ7:=@List.of_mem_zip
def qZ8:=@Option.map_some
def qZ9:=@Nat.min_le_left
def xA1:=@Int.le_max_left
def xA2:=@Int.mul_one
def xB7:=@or_false
def xC3:=@Bool.and_self
def qA0:=@PySem.wpAny_bind
def qA1:=@PySem.Heap.get?_push_of_some
def qA2:=@if_pos
def qA3:=@List.getD_eq_getElem?_getD
def qA4:=@List.length_map
def qA5:=@List.getElem?_eq_getElem
def qA6:=@List.mem_cons_of_mem
def qA7:=@List.getElem?_eq_some_iff
def qA8:=@if_neg
def qA9:=@List.getElem?_map
def qB0:=@PySem.Heap.lt_size
def qB1:=@List.mem_map
def qB2:=@List.mem_cons_self
def qB3:=@Nat.le_refl
def qB4:=@Nat.lt_of_lt_of_le
def qB5:=@PySem.Heap.get?_push_size
def qB6:=@List.getElem?_set_ne
def qB7:=@Nat.ne_of_lt
def qB8:=@List.length_append
def qB9:=@List.length_cons
def qC0:=@List.map_map
def qC1:=@List.size_toArray
def qC2:=@PySem.boot_len
def qC3:=@PySem.PassesOwn.never
def qC4:=@List.mem_cons
def qC5:=@List.mem_singleton
def qC6:=@Nat.zero_le
def qC7:=@List.map_append
def qC8:=@Nat.lt_succ_self
def qC9:=@Bool.false_ne_true
def qD0:=@List.length_reverse
def qD1:=@List.map_congr_left
def qD2:=@Nat.lt_succ_of_lt
def qD3:=@Nat.le_trans
def qD4:=@Nat.not_lt_zero
def qD5:=@List.mem_append_right
def qD6:=@List.getElem?_set
def qD7:=@List.mem_of_getElem?
def qD8:=@Int.toNat_natCast
def qD9:=@Int.le_trans
def qE0:=@Int.mul_comm
def qE1:=@List.map_cons
def qE2:=@List.length_range
def qE3:=@List.not_mem_nil
def qE4:=@Int.mul_assoc
def qE5:=@List.getElem?_range
def qE6:=@List.length_singleton
def qE7:=@Bool.false_eq_true
def qE8:=@List.getElem?_append_left
def qE9:=@Nat.lt_irrefl
def qF0:=@List.mem_append
def qF1:=@List.length_set
def qF2:=@List.mem_iff_getElem
def qF3:=@Int.le_refl
def qF4:=@List.ext_getElem
def qF5:=@Option.map_eq_some_iff
def qF6:=@PyProof.Rows.callWith_type1
def qF7:=@Int.mul_nonneg
def qF8:=@PySem.mem_of_lookup
def qF9:=@List.pairwise_iff_getElem
def qG0:=@List.append_nil
def qG1:=@PySem.Heap.size_push
def qG2:=@List.getElem_of_mem
def qG3:=@Nat.succ_add_eq_add_succ
def qG4:=@PySem.AutoSeq1.wpAny_loadPart'
def qG5:=@PySem.W.kia_one
def qG6:=@List.mem_append_left
def qG7:=@List.getElem?_set_self
def qG8:=@Int.one_mul
def qG9:=@PySem.Heap.SameBut.update
def qH0:=@Array.getElem?_eq_getElem
def qH1:=@Int.mul_le_mul_of_nonneg_right
def qH2:=@List.getElem?_eq_none
def qH3:=@Int.mul_le_mul_of_nonneg_left
def qH4:=@Bool.and_eq_true
def qH5:=@List.all_eq_true
def qH6:=@List.mem_range
def qH7:=@List.ext_getElem?
def qH8:=@PySem.F.plain_min_loop
def qH9:=@List.getElem?_append_right
def qI0:=@List.length_take
def qI1:=@List.getElem_mem
def qI2:=@List.take_length
def qI3:=@PySem.Heap.get?_update_self
def qI4:=@List.getElem?_zipWith
def qI5:=@PyProof.Rows.slot_tuple_getitem
def qI6:=@Nat.ne_of_gt
def qI7:=@List.any_eq_false
def qI8:=@List.pairwise_map
def qI9:=@Nat.le_of_succ_le
def qJ0:=@Nat.le_of_lt_succ
def qJ1:=@Array.length_toList
def qJ2:=@List.lookup_cons
def qJ3:=@Nat.le_add_right
def qJ4:=@Int.mul_le_mul
def qJ5:=@Nat.le_of_succ_le_succ
def qJ6:=@Nat.lt_of_le_of_lt
def qJ7:=@Int.mul_zero
def qJ8:=@PySem.F.slot_tuple_iterator_next
def qJ9:=@Array.perm_iff_toList_perm
def qK0:=@List.reverse_cons
def qK1:=@List.replicate_succ
def qK2:=@List.any_cons
def qK3:=@Bool.eq_iff_iff
def qK4:=@PySem.Heap.get?_update_other
def qK5:=@List.reverse_perm
def qK6:=@List.map_nil
def qK7:=@Nat.zero_add
def qK8:=@List.length_filter_le
def qK9:=@Int.zero_mul
def qL0:=@Nat.succ_le_succ
def qL1:=@List.map_reverse
def qL2:=@List.mem_reverse
def qL3:=@Nat.le_succ
def qL4:=@Int.add_mul
def qL5:=@Nat.add_sub_cancel'
def qL6:=@PySem.Heap.get?_update_ne
def qL7:=@List.length_nil
def qL8:=@Nat.le_antisymm
def qL9:=@Int.emod_nonneg
def qM0:=@Nat.le_of_lt
def qM1:=@Nat.lt_or_eq_of_le
def qM2:=@Int.le_of_lt
def qM3:=@Int.emod_lt_of_pos
def qM4:=@Nat.lt_of_succ_lt
def qM5:=@List.getElem_take
def qM6:=@Bool.not_eq_true'
def qM7:=@Int.mul_neg
def qM8:=@Int.mul_sub
def qM9:=@Int.mul_add
def qN0:=@Int.neg_mul
def qN1:=@Nat.min_le_right
set_option maxRecDepth 100000
theorem Z1 (a:p)(b:q):p/\q:=⟨a,b⟩
noncomputable section
namespace L2
open PySem PySem.Spec PyProof.Rows
noncomputable def S3 (s:Stmt):Arguments:=match s with
 | .FunctionDef _ a _ _ _ _ _ _ _ _=>a
 |_=>{ posonlyargs:=[],args:=[],vararg:=none,kwonlyargs:=[],kw_defaults:=[],kwarg:=none,defaults:=[] }
noncomputable def B4 (s:Stmt):List Stmt:=match s with
 | .FunctionDef _ _ b _ _ _ _ _ _ _=>b
 |_=>[]
noncomputable def b8 (s:Stmt):Scope:=match s with
 | .FunctionDef _ _ _ _ _ _ sc _ _ _=>sc
 |_=>{ kind:=.function,names:=[],isGenerator:=false,isCoroutine:=false }
end L2
namespace K96
open PySem L2 PySem.W PyProof.Rows
noncomputable def top (i:Nat):Stmt:=PySem.Challenge.pw_tokenmoor_k96_whole_bounded_by_three_roa.main.body.getD i (.Pass ⟨0,0,0,0⟩)
noncomputable abbrev hxS (s:String)(t:Nat):Value:=.str (Str.ofString s) t
noncomputable abbrev hxI (i:Int):Value:=.int i 0
noncomputable abbrev hxO (c:String)(d:Data):Obj:=⟨.type c,none,d,#[]⟩
noncomputable abbrev hxE (P:Params)(s:String)(t:Nat)(v:Value):DictEntry:=⟨PyData.keyHash P (Str.ofString s),.str (Str.ofString s) t,v⟩
noncomputable abbrev hxF (n q:String)(st:Stmt)(O kV doc pm:Value)(an:Option Addr)(cd ct:Value):Data:=.func (PySem.W.fnOf (Str.ofString n) (Str.ofString q) (S3 st) (B4 st) (b8 st) O kV doc pm an cd ct)
noncomputable abbrev hxG (n:String)(i:Nat)(pm:Value)(c:Nat):Obj:=hxO "function" (hxF n n (top i) .none .none .none pm none (.ref c) .none)
noncomputable abbrev hxD (n:String)(t:Nat) (l a:Int)(r8:Nat)(a6:Nat)(a0 a5:Value)(a3:Nat) (a4:Int)(O:Nat):Data:=.fields #[.str (Str.ofString n) t,.str (Str.ofString n) (t+1),.str (Str.ofString "/claim/cut.py") (t+2),hxI l,hxI a,hxI 0,hxI 0,hxI 3,.ref r8,.bool true,hxI 181,.ref a6,.none,a0,a5,.ref a3,hxI a4,hxI l,.str (Str.ofString "/claim/cut.py") O]
noncomputable abbrev w6:Value:=hxS "law_tokenmoor_k96_whole_bounded_by_three_roa" 597
noncomputable abbrev zW:Value:=hxS "tokenmoor.balances" 333
noncomputable abbrev zV:Value:=hxS "tokenmoor.bases" 264
noncomputable abbrev v4:Value:=hxS "tokenmoor.ceilings" 341
noncomputable abbrev ck:Value:=hxS "tokenmoor.climbs" 517
noncomputable abbrev u9:Value:=hxS "tokenmoor.crowns" 428
noncomputable abbrev J3:Value:=hxS "tokenmoor.floods" 539
noncomputable abbrev V8:Value:=hxS "tokenmoor.moors" 232
noncomputable abbrev J2:Value:=hxS "tokenmoor.walks" 272
@[irreducible] noncomputable def wN:Params->Frag:=λP=>
 (nat_lit 2,⟨.none,none,(.dict #[] 0),#[]⟩) ::
 (nat_lit 3,hxO "dict" (.dict #[hxE P "__name__" 165 (hxS "law_tokenmoor_k96_whole_bounded_by_three_roa" 597),hxE P "__doc__" 166 .none,hxE P "__package__" 167 .none,hxE P "__loader__" 168 (.builtin "__main__.__loader__#opaque"),hxE P "__spec__" 169 .none,hxE P "__annotations__" 170 (.ref 6),hxE P "__builtins__" 171 (.ref 4),hxE P "__file__" 173 (hxS "/claim/cut.py" 172),hxE P "__cached__" 174 .none,hxE P "MoorError" 206 (.ref 24),hxE P "Stuck" 231 (.ref 44),hxE P "covers" 243 (.ref 53),hxE P "able" 251 (.ref 60),hxE P "after" 257 (.ref 65),hxE P "change" 263 (.ref 70),hxE P "source" 271 (.ref 75),hxE P "hurdle" 283 (.ref 82),hxE P "sum_of" 293 (.ref 89),hxE P "stride" 307 (.ref 96),hxE P "goes" 319 (.ref 103),hxE P "shifted" 325 (.ref 108),hxE P "noughts" 332 (.ref 115),hxE P "unit" 340 (.ref 120),hxE P "ceiling" 348 (.ref 125),hxE P "first_table" 354 (.ref 130),hxE P "coming" 363 (.ref 137),hxE P "leaving" 369 (.ref 142),hxE P "pivoted" 375 (.ref 147),hxE P "cleared" 381 (.ref 152),hxE P "bag_of" 395 (.ref 159),hxE P "weights_of" 401 (.ref 164),hxE P "in_least_numbers" 407 (.ref 169),hxE P "greatest_divisor" 416 (.ref 176),hxE P "level" 427 (.ref 183),hxE P "under" 439 (.ref 190),hxE P "under_any" 448 (.ref 197),hxE P "cap_able" 456 (.ref 204),hxE P "cap_after" 462 (.ref 209),hxE P "raised" 468 (.ref 214),hxE P "tops" 477 (.ref 221),hxE P "sort_key" 483 (.ref 226),hxE P "growth" 494 (.ref 233),hxE P "grow" 500 (.ref 238),hxE P "way_back" 510 (.ref 245),hxE P "crown" 516 (.ref 250),hxE P "way" 526 (.ref 257),hxE P "row_between" 532 (.ref 262),hxE P "peak" 538 (.ref 267),hxE P "flood" 554 (.ref 274),hxE P "stands_behind" 560 (.ref 279),hxE P "stands_in" 566 (.ref 284),hxE P "row_to" 574 (.ref 291),hxE P "bounded" 586 (.ref 298),hxE P "first_lift" 596 (.ref 305),hxE P "_law_cell" 607 (.ref 312),hxE P "_law_move" 613 (.ref 317),hxE P "_law_covers" 622 (.ref 324),hxE P "_law_behind" 628 (.ref 329),hxE P "_law_end" 638 (.ref 336),hxE P "_law_all" 644 (.ref 341),hxE P "_law_lift" 650 (.ref 346),hxE P "_law_weigh" 656 (.ref 351),hxE P "_law_weights" 669 (.ref 358),hxE P "law" 675 (.ref 363)] 64)) ::
 (nat_lit 15,hxO "tuple" (.seq #[(.type "ValueError")] 0)) ::
 (nat_lit 22,hxO "tuple" (.seq #[] 0)) ::
 (nat_lit 23,hxO "dict" (.dict #[hxE P "__module__" 196 (hxS "tokenmoor.errors" 187),hxE P "__firstlineno__" 200 (.int 2 199),hxE P "__static_attributes__" 201 (.ref 22),hxE P "__weakref__" 203 (.ref 25),hxE P "__doc__" 204 .none] 3)) ::
 (nat_lit 25,hxO "getset_descriptor" (.fields #[(hxS "__weakref__" 202),(.ref 24),(.builtin "ExceptionGroup.__weakref__"),.none])) ::
 (nat_lit 28,hxO "tuple" (.seq #[(.ref 24)] 0)) ::
 (nat_lit 40,hxO "code" (.fields #[(hxS "__init__" 219),(hxS "Stuck.__init__" 220),(hxS "/claim/cut.py" 221),(hxI 6),(hxI 2),(hxI 0),(hxI 0),(hxI 3),(.ref 35),(.bool true),(hxI 181),(.ref 36),.none,(.ref 37),(.ref 38),(.ref 39),(hxI 224),(hxI 6),(hxS "/claim/cut.py" 225)])) ::
 (nat_lit 42,hxO "tuple" (.seq #[(hxS "at" 227)] 0)) ::
 (nat_lit 43,hxO "dict" (.dict #[hxE P "__module__" 214 (hxS "tokenmoor.errors" 187),hxE P "__firstlineno__" 218 (.int 4 217),hxE P "__init__" 226 (.ref 41),hxE P "__static_attributes__" 228 (.ref 42),hxE P "__doc__" 229 .none] 2)) ::
 (nat_lit 52,hxO "code" (hxD "covers" 234 9 2 47 48 (.ref 49) (.ref 50) 51 241 242)) ::
 (nat_lit 53,hxG "covers" 4 V8 52) ::
 (nat_lit 59,hxO "code" (hxD "able" 244 14 2 54 55 (.ref 56) (.ref 57) 58 249 250)) ::
 (nat_lit 60,hxG "able" 5 V8 59) ::
 (nat_lit 64,hxO "code" (hxD "after" 252 16 2 61 62 .none .none 63 255 256)) ::
 (nat_lit 65,hxG "after" 6 V8 64) ::
 (nat_lit 69,hxO "code" (hxD "change" 258 20 1 66 67 .none .none 68 261 262)) ::
 (nat_lit 70,hxG "change" 7 V8 69) ::
 (nat_lit 74,hxO "code" (hxD "source" 266 23 2 71 72 .none .none 73 269 270)) ::
 (nat_lit 75,hxG "source" 9 zV 74) ::
 (nat_lit 81,hxO "code" (hxD "hurdle" 274 26 2 76 77 (.ref 78) (.ref 79) 80 281 282)) ::
 (nat_lit 82,hxG "hurdle" 11 J2 81) ::
 (nat_lit 88,hxO "code" (hxD "sum_of" 284 31 2 83 84 (.ref 85) (.ref 86) 87 291 292)) ::
 (nat_lit 89,hxG "sum_of" 12 J2 88) ::
 (nat_lit 95,hxO "code" (hxD "stride" 294 36 3 90 91 (.ref 92) (.ref 93) 94 305 306)) ::
 (nat_lit 96,hxG "stride" 13 J2 95) ::
 (nat_lit 102,hxO "code" (hxD "goes" 308 45 4 97 98 (.ref 99) (.ref 100) 101 317 318)) ::
 (nat_lit 103,hxG "goes" 14 J2 102) ::
 (nat_lit 107,hxO "code" (hxD "shifted" 320 51 3 104 105 .none .none 106 323 324)) ::
 (nat_lit 108,hxG "shifted" 15 J2 107) ::
 (nat_lit 114,hxO "code" (hxD "noughts" 326 53 1 109 110 (.ref 111) (.ref 112) 113 330 331)) ::
 (nat_lit 115,hxG "noughts" 16 J2 114) ::
 (nat_lit 119,hxO "code" (hxD "unit" 335 56 2 116 117 .none .none 118 338 339)) ::
 (nat_lit 120,hxG "unit" 18 zW 119) ::
 (nat_lit 124,hxO "code" (hxD "ceiling" 343 59 3 121 122 .none .none 123 346 347)) ::
 (nat_lit 125,hxG "ceiling" 20 v4 124) ::
 (nat_lit 129,hxO "code" (hxD "first_table" 349 73 3 126 127 .none .none 128 352 353)) ::
 (nat_lit 130,hxG "first_table" 21 v4 129) ::
 (nat_lit 136,hxO "code" (hxD "coming" 355 78 1 131 132 (.ref 133) (.ref 134) 135 361 362)) ::
 (nat_lit 137,hxG "coming" 22 v4 136) ::
 (nat_lit 141,hxO "code" (hxD "leaving" 364 83 3 138 139 .none .none 140 367 368)) ::
 (nat_lit 142,hxG "leaving" 23 v4 141) ::
 (nat_lit 146,hxO "code" (hxD "pivoted" 370 86 4 143 144 .none .none 145 373 374)) ::
 (nat_lit 147,hxG "pivoted" 24 v4 146) ::
 (nat_lit 151,hxO "code" (hxD "cleared" 376 89 4 148 149 .none .none 150 379 380)) ::
 (nat_lit 152,hxG "cleared" 25 v4 151) ::
 (nat_lit 158,hxO "code" (hxD "bag_of" 382 91 5 153 154 (.ref 155) (.ref 156) 157 393 394)) ::
 (nat_lit 159,hxG "bag_of" 26 v4 158) ::
 (nat_lit 163,hxO "code" (hxD "weights_of" 396 97 4 160 161 .none .none 162 399 400)) ::
 (nat_lit 164,hxG "weights_of" 27 v4 163) ::
 (nat_lit 168,hxO "code" (hxD "in_least_numbers" 402 100 1 165 166 .none .none 167 405 406)) ::
 (nat_lit 169,hxG "in_least_numbers" 28 v4 168) ::
 (nat_lit 175,hxO "code" (hxD "greatest_divisor" 408 105 2 170 171 (.ref 172) (.ref 173) 174 414 415)) ::
 (nat_lit 176,hxG "greatest_divisor" 29 v4 175) ::
 (nat_lit 182,hxO "code" (hxD "level" 417 111 2 177 178 (.ref 179) (.ref 180) 181 425 426)) ::
 (nat_lit 183,hxG "level" 30 v4 182) ::
 (nat_lit 189,hxO "code" (hxD "under" 430 120 2 184 185 (.ref 186) (.ref 187) 188 437 438)) ::
 (nat_lit 190,hxG "under" 32 u9 189) ::
 (nat_lit 196,hxO "code" (hxD "under_any" 440 125 2 191 192 (.ref 193) (.ref 194) 195 446 447)) ::
 (nat_lit 197,hxG "under_any" 33 u9 196) ::
 (nat_lit 203,hxO "code" (hxD "cap_able" 449 130 2 198 199 (.ref 200) (.ref 201) 202 454 455)) ::
 (nat_lit 204,hxG "cap_able" 34 u9 203) ::
 (nat_lit 208,hxO "code" (hxD "cap_after" 457 132 2 205 206 .none .none 207 460 461)) ::
 (nat_lit 209,hxG "cap_after" 35 u9 208) ::
 (nat_lit 213,hxO "code" (hxD "raised" 463 136 2 210 211 .none .none 212 466 467)) ::
 (nat_lit 214,hxG "raised" 36 u9 213) ::
 (nat_lit 220,hxO "code" (hxD "tops" 469 140 1 215 216 (.ref 217) (.ref 218) 219 475 476)) ::
 (nat_lit 221,hxG "tops" 37 u9 220) ::
 (nat_lit 225,hxO "code" (hxD "sort_key" 478 147 1 222 223 .none .none 224 481 482)) ::
 (nat_lit 226,hxG "sort_key" 38 u9 225) ::
 (nat_lit 232,hxO "code" (hxD "growth" 484 149 2 227 228 (.ref 229) (.ref 230) 231 492 493)) ::
 (nat_lit 233,hxG "growth" 39 u9 232) ::
 (nat_lit 237,hxO "code" (hxD "grow" 495 159 4 234 235 .none .none 236 498 499)) ::
 (nat_lit 238,hxG "grow" 40 u9 237) ::
 (nat_lit 244,hxO "code" (hxD "way_back" 501 168 2 239 240 (.ref 241) (.ref 242) 243 508 509)) ::
 (nat_lit 245,hxG "way_back" 41 u9 244) ::
 (nat_lit 249,hxO "code" (hxD "crown" 511 175 2 246 247 .none .none 248 514 515)) ::
 (nat_lit 250,hxG "crown" 42 u9 249) ::
 (nat_lit 256,hxO "code" (hxD "way" 519 181 2 251 252 (.ref 253) (.ref 254) 255 524 525)) ::
 (nat_lit 257,hxG "way" 44 ck 256) ::
 (nat_lit 261,hxO "code" (hxD "row_between" 527 183 3 258 259 .none .none 260 530 531)) ::
 (nat_lit 262,hxG "row_between" 45 ck 261) ::
 (nat_lit 266,hxO "code" (hxD "peak" 533 186 3 263 264 .none .none 265 536 537)) ::
 (nat_lit 267,hxG "peak" 46 ck 266) ::
 (nat_lit 273,hxO "code" (hxD "flood" 541 195 2 268 269 (.ref 270) (.ref 271) 272 552 553)) ::
 (nat_lit 274,hxG "flood" 48 J3 273) ::
 (nat_lit 278,hxO "code" (hxD "stands_behind" 555 210 2 275 276 .none .none 277 558 559)) ::
 (nat_lit 279,hxG "stands_behind" 49 J3 278) ::
 (nat_lit 283,hxO "code" (hxD "stands_in" 561 212 1 280 281 .none .none 282 564 565)) ::
 (nat_lit 284,hxG "stands_in" 50 J3 283) ::
 (nat_lit 290,hxO "code" (hxD "row_to" 567 214 2 285 286 (.ref 287) (.ref 288) 289 572 573)) ::
 (nat_lit 291,hxG "row_to" 51 J3 290) ::
 (nat_lit 297,hxO "code" (hxD "bounded" 575 216 2 292 293 (.ref 294) (.ref 295) 296 584 585)) ::
 (nat_lit 298,hxG "bounded" 52 J3 297) ::
 (nat_lit 304,hxO "code" (hxD "first_lift" 587 226 1 299 300 (.ref 301) (.ref 302) 303 594 595)) ::
 (nat_lit 305,hxG "first_lift" 53 J3 304) ::
 (nat_lit 311,hxO "code" (hxD "_law_cell" 599 233 2 306 307 (.ref 308) (.ref 309) 310 605 606)) ::
 (nat_lit 312,hxG "_law_cell" 55 w6 311) ::
 (nat_lit 316,hxO "code" (hxD "_law_move" 608 240 5 313 314 .none .none 315 611 612)) ::
 (nat_lit 317,hxG "_law_move" 56 w6 316) ::
 (nat_lit 323,hxO "code" (hxD "_law_covers" 614 255 2 318 319 (.ref 320) (.ref 321) 322 620 621)) ::
 (nat_lit 324,hxG "_law_covers" 57 w6 323) ::
 (nat_lit 328,hxO "code" (hxD "_law_behind" 623 260 2 325 326 .none .none 327 626 627)) ::
 (nat_lit 329,hxG "_law_behind" 58 w6 328) ::
 (nat_lit 335,hxO "code" (hxD "_law_end" 629 262 3 330 331 (.ref 332) (.ref 333) 334 636 637)) ::
 (nat_lit 336,hxG "_law_end" 59 w6 335) ::
 (nat_lit 340,hxO "code" (hxD "_law_all" 639 268 4 337 338 .none .none 339 642 643)) ::
 (nat_lit 341,hxG "_law_all" 60 w6 340) ::
 (nat_lit 345,hxO "code" (hxD "_law_lift" 645 289 4 342 343 .none .none 344 648 649)) ::
 (nat_lit 346,hxG "_law_lift" 61 w6 345) ::
 (nat_lit 350,hxO "code" (hxD "_law_weigh" 651 305 2 347 348 .none .none 349 654 655)) ::
 (nat_lit 351,hxG "_law_weigh" 62 w6 350) ::
 (nat_lit 357,hxO "code" (hxD "_law_weights" 657 307 3 352 353 (.ref 354) (.ref 355) 356 667 668)) ::
 (nat_lit 358,hxG "_law_weights" 63 w6 357) ::
 (nat_lit 362,hxO "code" (hxD "law" 670 320 1 359 360 .none .none 361 673 674)) ::
 (nat_lit 363,hxG "law" 64 w6 362) ::
 []
noncomputable def hxas:List Addr:=[2,3,15,22,23,25,28,40,42,43,52,53,59,60,64,65,69,70,74,75,81,82,88,89,95,96,102,103,107,108,114,115,119,120,124,125,129,130,136,137,141,142,146,147,151,152,158,159,163,164,168,169,175,176,182,183,189,190,196,197,203,204,208,209,213,214,220,221,225,226,232,233,237,238,244,245,249,250,256,257,261,262,266,267,273,274,278,279,283,284,290,291,297,298,304,305,311,312,316,317,323,324,328,329,335,336,340,341,345,346,350,351,357,358,362,363]
noncomputable def view:Program:={ PySem.Challenge.pw_tokenmoor_k96_whole_bounded_by_three_roa with main:={ PySem.Challenge.pw_tokenmoor_k96_whole_bounded_by_three_roa.main with body:=[1,2,4,5,6,7,9,11,12,13,14,15,16,18,20,21,22,23,24,25,26,27,28,29,30,32,33,34,35,36,37,38,39,40,41,42,44,45,46,48,49,50,51,52,53,55,56,57,58,59,60,61,62,63,64].map top } }
def hook:PySem.W.Hook:=PySem.W.kmHook wN hxas (λ_=>by kernel_rfl) [139]
theorem hl0:LeftO PySem.Challenge.rw_tokenmoor_k96_whole_bounded_by_three_roa.prog view [] (λs=>xlAt view [] s&&recOk [] s) hook.obs hook.val 4244:=by
  intro w;kernel_rfl
end K96
local macro_rules | `(tactic| omega)=>`(tactic| first | with_reducible assumption | decide | lia)
local macro_rules | `(tactic| show $e)=>`(tactic| exact $e)
set_option genSizeOf false
set_option genSizeOfSpec false
namespace L2
open PySem PySem.Spec PyProof.Rows
abbrev Key:=Sum Int Str
noncomputable def eN:Key->Value->Bool
 | .inl k,v=>Value.isInt k v
 | .inr x,v=>Value.isStrOf x v
noncomputable def keyH (w:World):Key->Int
 | .inl k=>hashInt k
 | .inr x=>hashStr w x
def z6:∀{k}{v},eN k v=true->(∃i t,k=Sum.inl i/\v=Value.int i t)\/∃x t,k=Sum.inr x/\v=Value.str x t
 | .inl i,v,h=>by
  obtain ⟨t,e⟩:=Value.isInt_shape (v:=v) h;show .inl ⟨i,t,rfl,e⟩
 | .inr x,v,h=>by
  obtain ⟨t,e⟩:=Value.isStrOf_shape (v:=v) h;show .inr ⟨x,t,rfl,e⟩
def wB i t:eN (.inl i) (.int i t)=true:=by simp [eN,Value.isInt]
def wA x t:eN (.inr x) (.str x t)=true:=by simp [eN,Value.isStrOf]
def HZ a b:decide ((Sum.inl a:Key)=Sum.inl b)=(a == b):=by
 omega
def HW a b:decide ((Sum.inr a:Key)=Sum.inr b)=decide (a=b):=by
 omega
def HY (a:Int)(b:Str):decide ((Sum.inl a)=Sum.inr b)=false:=ox
def HX (a:Str) (b:Int):decide ((Sum.inr a)=Sum.inl b)=false:=ox
noncomputable def A1 prog w:PySem.KeyKind prog w Key where
 is:=eN
 hash:=keyH w
 inj:=λv a b ha hb=>by
  rcases z6 ha with ⟨i,t,rfl,rfl⟩|⟨x,t,rfl,rfl⟩
  .rcases z6 hb with ⟨j,u,rfl,e⟩|⟨y,u,rfl,e⟩
   .injection e with e1 _;rw[e1]
   .show nomatch e
  .rcases z6 hb with ⟨j,u,rfl,e⟩|⟨y,u,rfl,e⟩
   .show nomatch e
   .injection e with e1 _;rw[e1]
 byValue:=λk v h=>by
  rcases z6 h with ⟨i,t,rfl,rfl⟩|⟨x,t,rfl,rfl⟩ <;> rfl
 pyHash:=λO h=>by
  rcases z6 O with ⟨i,t,rfl,rfl⟩|⟨x,t,rfl,rfl⟩
  .show wpAny_pyHash_int h
  .show wpAny_pyHash_str h
 eqBool:=λhu O h=>by
  rcases z6 hu with ⟨i,t,rfl,rfl⟩|⟨x,t,rfl,rfl⟩
  .rcases z6 O with ⟨j,u,rfl,rfl⟩|⟨y,u,rfl,rfl⟩
   .rw[HZ]at h;show qX6 h
   .rw[HY]at h;show SeqAt.EqAt.int_str i t y u _ _ _ _ h
  .rcases z6 O with ⟨j,u,rfl,rfl⟩|⟨y,u,rfl,rfl⟩
   .rw[HX]at h;show SeqAt.EqAt.str_int x t j u _ _ _ _ h
   .rw[HW]at h;show wpAny_eqBool_str h
 «strs»:=λk x t v h=>by
  rcases z6 h with ⟨i,u,rfl,e⟩|⟨y,u,rfl,e⟩
  .show nomatch e
  .injection e with e1 _
   subst e1;cases v <;> rfl
def pi prog w i t:(A1 prog w).is (.inl i) (.int i t)=true:=wB i t
def ph prog w x t:(A1 prog w).is (.inr x) (.str x t)=true:=wA x t
inductive V where
 |non|bl (b:Bool)|int (i:Int)|str (x:Str)|byt (b:Array UInt8)|flt (b:UInt64)|ref (a:Addr)|ty (n:String)
 deriving DecidableEq
def RelV:V->Value->Prop
 | .non,u=>u=Value.none
 | .bl b,u=>u=Value.bool b
 | .int i,u=>∃t,u=Value.int i t
 | .str x,u=>∃t,u=Value.str x t
 | .byt b,u=>∃t,u=Value.bytes b t
 | .flt b,u=>∃t,u=Value.float b t
 | .ref a,u=>u=Value.ref a
 | .ty n,u=>u=Value.type n
abbrev Vals:List V->List Value->Prop:=Paired RelV
def Vals.length (r:Vals xs us):xs.length=us.length:=Paired.length r
def Vals.get:∀{xs}{us:Vy}{i:Nat}{x},Vals xs us->xs[i]?=some x->∃u,us[i]?=some u/\RelV x u:=by
 intro xs us i x a
 induction a generalizing i with
 |nil=>intro e;cases e
 | cons r t O=>
  intro e;cases i with
  |zero=>cases e;show ⟨_,rfl,r⟩
  |succ i=>show O e
def Vals.set (r:RelV x u):∀{xs}{us:Vy}i,Vals xs us->Vals (xs.set i x) (us.set i u):=by
 intro xs us i h
 induction h generalizing i with
 |nil=>show .nil
 | cons q t O=>
  cases i with
  |zero=>show .cons r t
  |succ i=>show .cons q (O i)
def Vals.append:∀{xs ys}{us ws:Vy},Vals xs us->Vals ys ws->Vals (xs++ys) (us++ws):=by
 intro xs ys us ws a s
 induction a with
 |nil=>show s
 |cons r t O=>show .cons r O
def Vals.take:∀{xs}{us:Vy}n,Vals xs us->Vals (xs.take n) (us.take n):=by
 intro xs us n h
 induction h generalizing n with
 |nil=>cases n <;> show .nil
 | cons r t O=>
  cases n with
  |zero=>show .nil
  |succ n=>show .cons r (O n)
def Vals.drop:∀{xs}{us:Vy}n,Vals xs us->Vals (xs.drop n) (us.drop n)
 |_,_,0,r=>r
 |_,_,_+1,.nil=>.nil
 |_,_,n+1,.cons _ t=>Vals.drop n t
def RelO:Option V->Option Value->Prop
 |some v,some u=>RelV v u
 |none,none=>True
 |_,_=>False
def KV {a}:List (a×V)->List (a×Value)->Prop:=Paired λ(p:a×V)(q:a×Value)=>p.1=q.1/\RelV p.2 q.2
noncomputable def kV:Key->V
 | .inl i=>.int i
 | .inr x=>.str x
inductive HO where
 |lst (xs:List V)
 |tup (xs:List V)
 |dK (kvs:List (Key×V))|dT (kvs:List (List Key×V))
 |set (S:Int->Bool) (n:Nat)
 |ins (C dx:Addr) (fs:List (Str×V))
 |own (x:Addr)
 |xd (fs:List (Str×V))
 |met (f x:Addr)
 |rng (lo hi:Int)
 |frz (o:Obj) (u:HO)
 |tbl (k:Nat×Nat×Str)
 |ext (φ:Heap->Prop)
abbrev Hp:=Addr->Option HO
@[irreducible] noncomputable def lamT:List (Addr×Nat×Nat×Str):=[(139,85,26, "leaving.<locals>.<lambda>")]
def Fd (q:Str)(oc:Obj):Prop:=∃vs t,oc.data=.fields vs/\vs[1]?=some (.str q t)
noncomputable def upd (H:Hp)(a:Addr)(o:HO):Hp:=λb=>if b=a then some o else H b
theorem j7:upd H a o a=some o:=by grind[upd]
theorem c7 (h:b≠a):upd H a o b=H b:=by unfold upd;rw[qA8 h]
def i0 {H:Hp}(h:H a=some o) (h':H b=none):a≠b:=by
 omega
section
variable (P:Program)(w:World)
def ObjOk (H:Hp) (h:Heap) (a:Addr):HO->Prop
 | .lst xs=>xs.length<=sizeLine/\∃(its:Vy) (n:Nat),Vals xs its/\h.get? a=some { cls:=.type "list",data:=.seq its.toArray n }
 | .tup xs=>xs.length<=sizeLine/\∃its:List Value,Vals xs its/\IsTup h a its.toArray
 | .dK kvs=>kvs.length<=sizeLine/\(a == sysModules)=false/\∃vs,KV kvs vs/\h.DictOf (A1 P w) a vs
 | .dT kvs=>kvs.length<=sizeLine/\(a == sysModules)=false/\∃xs:List (List Key×Addr×Value),
   Paired (λ(p:List Key×V) (q:List Key×Addr×Value)=>p.1=q.1/\H q.2.1=some (.tup (p.1.map kV))/\RelV p.2 q.2.2) kvs xs /\
   ∃o es ep,h.get? a=some o/\o.ExactDict/\o.data=.dict es ep/\es.toList=xs.map (entryOfKey (tupleKind (A1 P w)))/\(xs.map (·.1)).Nodup
 | .set S n=>h.SetOf (intKind P w) a S n
 | .ins C dx fs=>H dx=some (.own a)/\fs.length<=1000/\dx≠a/\h.get? a=some (PySem.W.instObj C dx) /\
   ∃mA,h.Ns1 dx mA/\(∀f,RelO (fs.lookup f) (mA f))/\PySem.Within mA (fs.map (·.1))
 | .own _=>∃o,h.get? a=some o
 | .xd fs=>∃mA,h.Ns1 a mA/\∀f,RelO (fs.lookup f) (mA f)
 | .rng lo hi=>∃t u v,h.get? a=some { cls:=.type "range",data:=.fields #[.int lo t,.int hi u,.int 1 v] }
 | .frz o u=>h.get? a=some o/\ObjOk H h a u
 | .tbl k=>∃ps:Array Value,h.get? a=some { cls:=.none,data:=.fields ps }/\(ps=#[]\/∃O oc,ps=#[rawInt k.1,rawInt k.2.1,.ref O]/\H O=some (.own a)/\O≠a/\h.get? O=some oc/\Fd k.2.2 oc)
 | .met f x=>h.get? a=some (PySem.W.methodObj (.ref f) (.ref x))
 | .ext φ=>φ h/\(∃o,h.get? a=some o)/\∀h1 h2:Heap,φ h1->(∀o,h1.get? a=some o->h2.get? a=some o)->φ h2
def HOk (H:Hp)(h:Heap):Prop:=∀a o,H a=some o->ObjOk P w H h a o
end
def ObjOk.lt (x:ObjOk P w H h a o):a<h.objs.size:=by
 cases o with
 |lst xs=>obtain ⟨_,_,_,_,e⟩:=x;show qB0 e
 |tup xs=>obtain ⟨_,_,_,p⟩:=x;show p.lt
 |dK kvs=>obtain ⟨_,_,_,_,o,_,_,e,_⟩:=x;show qB0 e
 |dT kvs=>obtain ⟨_,_,_,_,o,_,_,e,_⟩:=x;show qB0 e
 |set S n=>obtain ⟨o,_,_,_,e,_⟩:=x;show qB0 e
 |ins C dx fs=>obtain ⟨_,_,_,e,_⟩:=x;show qB0 e
 |own y=>obtain ⟨_,e⟩:=x;show qB0 e
 |xd fs=>obtain ⟨_,⟨_,_,_,e,_⟩,_⟩:=x;show qB0 e
 |rng lo hi=>obtain ⟨_,_,_,e⟩:=x;show qB0 e
 |frz O u=>obtain ⟨e,_⟩:=x;show qB0 e
 |tbl k=>obtain ⟨_,e,_⟩:=x;show qB0 e
 |met f y=>show qB0 (x)
 |ext φ=>obtain ⟨_,⟨_,e⟩,_⟩:=x;show qB0 e
def Paired.mapP:∀{O:List d}{a0:List c},Paired F O a0->(∀a b,F a b->G a b)->Paired G O a0:=by
 intro O a0 h f
 induction h with
 |nil=>show .nil
 |cons r t ih=>show .cons (f _ _ r) ih
def ObjOk.stay (x:ObjOk P w H h a o) (k:∀b u,b=a\/H b=some (.own a)->h.get? b=some u->h'.get? b=some u) (ho:∀b,H b=some (.own a)->H' b=some (.own a)) (ht:∀b xs,H b=some (.tup xs)->H' b=some (.tup xs)):ObjOk P w H' h' a o:=by
 induction o with
 |lst xs=>obtain ⟨z,its,n,r,e⟩:=x;show ⟨z,its,n,r,k _ _ (.inl rfl) e⟩
 |tup xs=>obtain ⟨z,its,r,O,e,c⟩:=x;show ⟨z,its,r,O,k _ _ (.inl rfl) e,c⟩
 |dK kvs=>obtain ⟨z,y,vs,r,O,es,ep,e,c⟩:=x;show ⟨z,y,vs,r,O,es,ep,k _ _ (.inl rfl) e,c⟩
 | dT kvs=>
  obtain ⟨z,y,xs,r,O,es,ep,e,c⟩:=x;show ⟨z,y,xs,Paired.mapP r λp q z=>⟨z.1,ht _ _ z.2.1,z.2.2⟩,O,es,ep,k _ _ (.inl rfl) e,c⟩
 |set S n=>obtain ⟨O,es,ep,t,e,c⟩:=x;show ⟨O,es,ep,t,k _ _ (.inl rfl) e,c⟩
 | ins C dx fs=>
  obtain ⟨d,z,ne,e,mA,⟨od,es,ep,e2,c⟩,r⟩:=x;show ⟨ho _ d,z,ne,k _ _ (.inl rfl) e,mA,⟨od,es,ep,k _ _ (.inr d) e2,c⟩,r⟩
 |own y=>obtain ⟨O,e⟩:=x;show ⟨O,k _ _ (.inl rfl) e⟩
 |xd fs=>obtain ⟨mA,⟨od,es,ep,e,c⟩,r⟩:=x;show ⟨mA,⟨od,es,ep,k _ _ (.inl rfl) e,c⟩,r⟩
 |rng lo hi=>obtain ⟨t,u,v,e⟩:=x;show ⟨t,u,v,k _ _ (.inl rfl) e⟩
 |frz O u ih=>obtain ⟨e,q⟩:=x;show ⟨k _ _ (.inl rfl) e,ih q⟩
 | tbl q=>
  obtain ⟨ps,e,r⟩:=x;show ⟨ps,k a _ (.inl rfl) e,r.imp id λa0=>by obtain ⟨c',oc,e1,e2,ne,e3,e4⟩:=a0;show ⟨c',oc,e1,ho _ e2,ne,k c' _ (.inr e2) e3,e4⟩⟩
 | met f y=>
  have e:=x;show k a _ (.inl rfl) e
 |ext φ=>obtain ⟨p,⟨o,e⟩,st⟩:=x;show ⟨st _ _ p λo q=>k _ _ (.inl rfl) q,⟨o,k _ _ (.inl rfl) e⟩,st⟩
def HOk.lt (x:HOk P w H h)(e:H a=some o):a<h.objs.size:=(x a o e).lt
def HOk.fresh {a:Addr}(x:HOk P w H h) (e:h.objs.size<=a):H a=none:=by
 cases q:H a with
 |none=>rfl
 |some u=>show absurd (qB4 (x.lt q) e) (qE9 _)
def HOk.kept (x:HOk P w H h) (k:∀b u,h.get? b=some u->h'.get? b=some u):HOk P w H h':=λa o e=>
 (x a o e).stay (λb u _ q=>k b u q) (λ_ q=>q) λ_ _ q=>q
def HOk.laid {a:Addr}(x:HOk P w H h) (k:∀b u,h.get? b=some u->h'.get? b=some u) (hp:h.objs.size<=a) (O:ObjOk P w (upd H a o) h' a o):HOk P w (upd H a o) h':=λb u e=>by
 have hn:=x.fresh hp;by_cases hb:b=a
 .grind[j7]
 .rw [c7 hb]at e
  show (x b u e).stay (λc v _ q=>k c v q) (λc q=>by grind[c7]) λc xs q=>by grind[c7]
def Rd (H:Hp)(a:Addr)(u:HO):Prop:=H a=some u\/∃o,H a=some (.frz o u)
def Rd.ok (r:Rd H a u) (x:HOk P w H h):ObjOk P w H h a u:=by
 rcases r with r|⟨o,r⟩
 .show x a u r
 .obtain ⟨_,q⟩:=x a _ r;show q
def Mut:Option HO->Prop
 |some (.lst _)=>True
 |some (.dK _)=>True
 |some (.dT _)=>True
 |some (.set _ _)=>True
 |some (.ins _ _ _)=>True
 |some (.ext _)=>True
 |_=>False
def HOk.write (ok:HOk P w H h) (mu:Mut (H x)) (he:e=x\/H e=some (.own x)) (k:∀b u,b≠e->h.get? b=some u->h'.get? b=some u) (a3:∃u,h'.get? e=some u) (a5:ObjOk P w (upd H x o') h' x o'):HOk P w (upd H x o') h':=λb u q=>by
 have O:∀c y,H c=some (.own y)->c≠x:=λc y r z=>by subst z;rw[r]at mu;show mu
 have a0:∀c xs,H c=some (.tup xs)->c≠x:=λc xs r z=>by subst z;rw[r]at mu;show mu
 by_cases hb:b=x
 .grind[j7]
 .rw [c7 hb]at q
  by_cases a4:b=e
  .have q':H b=some (.own x):=by
    omega
   rw[q]at q';cases q';obtain ⟨v,hv⟩:=a3;show ⟨v,ox⟩
  .refine (ok b u q).stay (λc v hc r=>k c v ?_ r) (λc r=>by rw[c7 (O c b r)];show r) λc xs r=>by rw[c7 (a0 c xs r)];show r
   grind
structure Un (fs ex:List Addr) (H H':Hp) (h h':Heap):Prop where
 keep:∀b o,h.get? b=some o->H b=none->b∉fs->b∉ex->h'.get? b=some o
 slot:∀b o,h.get? b=some o->H b=none->b∈fs->b∉ex->∃sl,h'.get? b=some { o with slots:=sl }
 free:∀b o,h.get? b=some o->H b=none->b∉ex->H' b=none
 there:∀b o,h.get? b=some o->b∉ex->∃o',h'.get? b=some o'
 tups:∀b xs,H b=some (.tup xs)->H' b=some (.tup xs)
 frzs:∀b o u,H b=some (.frz o u)->H' b=some (.frz o u)
 tbls:∀b k,H b=some (.tbl k)->H' b=some (.tbl k)
def Un.any (u:Un fs ex H H1 h h1) (q:h.get? b=some ob) (n:H b=none) (O:b∉ex):∃sl,h1.get? b=some { ob with slots:=sl }:=by
 by_cases hb:b∈fs
 .show u.slot b ob q n hb O
 .show ⟨ob.slots,u.keep b ob q n hb O⟩
def Un.kept (k:∀b u,h.get? b=some u->h'.get? b=some u):Un fs ex H H h h':=
 ⟨λb O q _ _ _=>k b O q,λb O q _ _ _=>⟨O.slots,k b O q⟩,λ_ _ _ n _=>n,λb O q _=>⟨O,k b O q⟩,λ_ _ q=>q,λ_ _ _ q=>q,λ_ _ q=>q⟩
def Un.refl:Un fs ex H H h h:=Un.kept λ_ _ q=>q
def Un.laid (k:∀b u,h.get? b=some u->h'.get? b=some u) (O:h.objs.size<=a) (hn:H a=none):Un fs ex H (upd H a o) h h' where
 keep:=λb u q _ _ _=>k b u q
 slot:=λb u q _ _ _=>⟨u.slots,k b u q⟩
 free:=λb u q n _=>by rw[c7 (qB7 (qB4 (qB0 q) O))];show n
 there:=λb u q _=>⟨u,k b u q⟩
 tups:=λb xs q=>by grind[c7]
 frzs:=λb u xs q=>by rw[c7 (i0 q hn)];show q
 tbls:=λb k q=>by grind[c7]
def Un.write (O:Mut (H x)) (he:e=x\/H e=some (.own x)) (k:∀b u,b≠e->h.get? b=some u->h'.get? b=some u) (a0:∃u,h'.get? e=some u):Un fs ex H (upd H x o) h h':=by
 have hx:∀b,H b=none->b≠x:=λb n z=>by subst z;rw[n]at O;show O
 have hb:∀b,H b=none->b≠e:=λb n z=>by
  omega
 have hm:∀b u,H b=some u->¬ Mut (some u)->b≠x:=λb u q nm z=>ox;refine ⟨λb u q n _ _=>k b u (hb b n) q,λb u q n _ _=>⟨u.slots,k b u (hb b n) q⟩,λb u q n _=>by rw[c7 (hx b n)];show n,λb u q _=>?_,
  λb xs q=>by rw[c7 (hm b _ q λz=>z)];show q,λb u xs q=>by rw[c7 (hm b _ q λz=>z)];show q,λb k q=>by rw[c7 (hm b _ q λz=>z)];show q⟩
 grind
noncomputable def trk (h:Heap)(H:Hp):List Addr:=(List.range h.objs.size).filter λa=>(H a).isSome
noncomputable def cw (h:Heap)(H:Hp):Heap:=PySem.W.hideAll h (trk h H)
def wP h H:(cw h H).objs.size=h.objs.size:=PySem.W.hideAll_size ..
def zY (e:h.get? b=some o) (n:H b=none):(cw h H).get? b=some o:=
 PySem.W.hideAll_get _ e λhm=>by
  have q:=(qP1.mp hm).2
  grind
def Db (e:(cw h H).get? b=some o):h.get? b=some o/\H b=none:=by
 have O:=PySem.W.of_hideAll _ e;cases q:H b <;> grind[trk,PySem.Heap.lt_size,cw,PySem.W.hideAll_none]
noncomputable def ET (g h:Heap)(L:Addr):List (Addr×Obj):=(List.range h.objs.size).filterMap λa=>if a=L\/(g.get? a).isSome=true then none else (h.get? a).map λo=>(a,o)
noncomputable def rest (g h:Heap)(L d:Addr):List (Addr×Obj):=(ET g h L).filter λp=>decide (p.1≠d)
structure Mod (K:Frag) (mg:Vv) (base:Heap):Prop where
 kin:K.In base
 glob:base.Ns mainGlobals mg
 blt:∃mb,base.Ns builtinsNs mb/\∀x:Str,x ≠ "__name__" -> mb x=bootBuiltins x
 nolimit:base.NoLimit
 bmain:∃bm o,mg "__builtins__" = some (.ref bm)/\bm≠builtinsNs/\base.get? bm=some o/\o.cls=.type "module" /\ o.dict=some builtinsNs/\o.data=.plain
structure Cx where
 prog:Program
 w:World
 K:Frag
 mg:Str->Option Value
 base:Heap
 A:Around
 N:List Str
 s₀:Shared
 H₀:Hp
 env:Env
 outer:List Env
 stack:List Env
 ex:List Addr
 fn:Str->Bool
 calm:Bool
 pn:List (Addr×Obj)
 xe:Value->Shared->Prop
noncomputable def frs (l:List Env):List Addr:=l.filterMap (·.frame)
noncomputable abbrev Cx.fs (X:Cx):List Addr:=frs X.outer
def Vis (sc:Scope)(x:Str):Prop:=sc.names.lookup x=some .local\/sc.names.lookup x=some .cell\/sc.names.lookup x=some .free
def Loc (sc:Scope)(x:Str):Prop:=sc.names.lookup x=some .local\/sc.names.lookup x=some .cell
def Look (env:Env) (h:Heap) (m:Vv) (x:Str) (u:Value):Prop:=
 (env.kindOf x=some .local/\m x=some u)\/((env.kindOf x=some .cell\/env.kindOf x=some .free)/\∃c,env.cells.lookup x=some c/\h.IsCell c (some u))
structure Cx.Ok (X:Cx):Prop where
 mod:Mod X.K X.mg X.base
 kind:X.env.scope.kind=.function
 glob:X.env.globals=mainGlobals
 blt:X.env.builtins=builtinsNs
 above:X.s₀.heap.objs.size<=X.env.locals
 inj:∀x y c,X.env.cells.lookup x=some c->X.env.cells.lookup y=some c->x=y
 has:∀x,(X.env.kindOf x=some .cell\/X.env.kindOf x=some .free)->∃c,X.env.cells.lookup x=some c
 cab:∀x c,X.fn x=true->X.env.cells.lookup x=some c->X.s₀.heap.objs.size<=c
 hd:X.calm=true->X.A.handled=none
 frames:X.A.frames=some X.stack
 stk:X.stack=X.outer\/(X.stack=X.env::X.outer/\X.env.frame=some X.env.locals)
 exf:∀b∈X.ex,b≠X.env.locals/\∀x c,X.env.cells.lookup x=some c->c≠b
 bs:∀b o,X.base.get? b=some o->X.s₀.heap.get? b=some o/\X.H₀ b=none
 bsz:X.base.objs.size<=X.s₀.heap.objs.size
 noex:∀b o,X.base.get? b=some o->b∉X.ex
 exfs:∀b∈X.ex,b∉X.fs
 funs:X.s₀.heap.FunFrames X.base X.outer
 frf:∀b∈X.fs,X.H₀ b=none
 tab:∀p∈lamT,X.H₀ p.1=some (.tbl p.2)
structure Inv (X:Cx) (pins:Vq) (σ:List (Option V)) (H:Hp) (s:Shared):Prop where
 ok:X.Ok
 os:s.os=X.s₀.os
 bare:AllBare s.gens
 base:Un X.fs X.ex X.H₀ H X.s₀.heap s.heap
 loc:∃m,s.heap.Ns X.env.locals m/\∀(i:Nat) (x:Str) (v:V),X.N[i]?=some x->σ[i]?=some (some v)->Vis X.env.scope x->∃u,RelV v u/\Look X.env s.heap m x u
 cell:∀x c,X.env.cells.lookup x=some c->∃v,s.heap.IsCell c v
 free:H X.env.locals=none
 freeC:∀x c,X.env.cells.lookup x=some c->H c=none
 pin:∀p∈X.pn++pins,s.heap.get? p.1=some p.2/\H p.1=none/\p.1≠X.env.locals/\p.1∉X.fs/\∀v,p.2.data≠.cell v
 hok:HOk X.prog X.w H s.heap
 len:σ.length=X.N.length
def Cx.Ok.nofr {X:Cx}(ok:X.Ok) (e:X.base.get? b=some o):b∉X.fs:=λO=>by
 have:=(ok.funs.mem O).1
 omega
def Inv.bs (I:Inv X pins a H s):∀b o,X.base.get? b=some o->s.heap.get? b=some o/\H b=none:=λb o e=>
 ⟨I.base.keep b o (I.ok.bs b o e).1 (I.ok.bs b o e).2 (I.ok.nofr e) (I.ok.noex b o e),I.base.free b o (I.ok.bs b o e).1 (I.ok.bs b o e).2 (I.ok.noex b o e)⟩
def Inv.tab (I:Inv X pins a H s):∀p∈lamT,H p.1=some (.tbl p.2):=λp O=>I.base.tbls _ _ (I.ok.tab p O)
def Inv.bk (I:Inv X pins a H s):∀b o,X.base.get? b=some o->s.heap.get? b=some o:=λb o e=>(I.bs b o e).1
def Inv.mod (I:Inv X pins a H s):Mod X.K X.mg X.base:=I.ok.mod
def Inv.kIn (I:Inv X pins a H s):X.K.In s.heap:=I.ok.mod.kin.keeps I.bk
def Inv.nolimit (I:Inv X pins a H s):s.heap.NoLimit:=I.ok.mod.nolimit.keeps I.bk
def Inv.fr (I:Inv X pins a H s):∃m,Fr X.base X.env.locals s.heap m:=
 let ⟨m,hn,_⟩:=I.loc
 ⟨m,hn,I.bk,qD3 I.ok.bsz I.ok.above⟩
def Inv.lt (I:Inv X pins a H s):X.env.locals<s.heap.objs.size:=let ⟨_,hn,_⟩:=I.loc;hn.lt
def Inv.sz (I:Inv X pins a H s):X.s₀.heap.objs.size<=s.heap.objs.size:=qD3 I.ok.above (qM0 I.lt)
def Inv.nofs (I:Inv X pins b H s){a:Addr}(h:s.heap.objs.size<=a):a∉X.fs:=λO=>by
 obtain ⟨_,o,ho,_⟩:=I.ok.funs.mem O;show absurd (qB4 (qB0 ho) (qD3 I.sz h)) (qE9 _)
def Inv.cne (I:Inv X pins a H s):∀x c,X.env.cells.lookup x=some c->c≠X.env.locals:=λx c e z=>by
 obtain ⟨v,o,ho,hd⟩:=I.cell x c e;obtain ⟨m,⟨o',es,ep,a0,O,_⟩,_⟩:=I.loc;omega
def Inv.funs (I:Inv X pins a H s):s.heap.FunFrames X.base X.outer:=by
 have all:∀(l:_),(∀b∈frs l,b∈X.fs)->X.s₀.heap.FunFrames X.base l->s.heap.FunFrames X.base l:=by
  intro l
  induction l with
  |nil=>intro _ _;trivial
  | cons env r ih=>
   intro hs hl;obtain ⟨hk,⟨L,o,hf,hn,ho,hd⟩,hr⟩:=hl;have O:=hs L (by grind[frs]);obtain ⟨sl,e⟩:=I.base.slot L o ho (I.ok.frf L O) O λz=>I.ok.exfs L z O;show ⟨hk,⟨L,_,hf,hn,e,hd⟩,ih (λb hb=>hs b (by grind[frs])) hr⟩
 show all _ (λ_ hb=>hb) I.ok.funs
def Inv.stack (I:Inv X pins a H s):s.heap.FunFrames X.base X.stack:=by
 rcases I.ok.stk with e|⟨e,hf⟩
 .rw[e];show I.funs
 .rw [e]
  obtain ⟨m,hn,_⟩:=I.loc;refine .cons (by rw[I.ok.kind];decide) hf hn ?_ I.funs;show Heap.get?_none_of_le (qD3 I.ok.bsz I.ok.above)
def Inv.stkSub (I:Inv X pins a H s):∀b∈frs X.stack,b∈X.env.locals::X.fs:=λb O=>by
 rcases I.ok.stk with e|⟨e,hf⟩
 all_goals grind[frs]
def Inv.stkFree (I:Inv X pins a H s):∀b∈frs X.stack,H b=none:=λb O=>by
 rcases qC4.mp (I.stkSub b O) with e|O
 .rw[e];show I.free
 .obtain ⟨_,o,ho,_⟩:=I.ok.funs.mem O;show I.base.free b o ho (I.ok.frf b O) λz=>I.ok.exfs b z O
def Inv.step {ch:List Addr}(I:Inv X pins a H s) (a3:∀b∈ch,(b∈X.ex\/X.s₀.heap.objs.size<=b)/\b≠X.env.locals/\(∀x c,X.env.cells.lookup x=some c->c≠b)/\∀p∈X.pn++pins,p.1≠b) (keep:∀b o,b≠X.env.locals->b∉X.fs->b∉ch->s.heap.get? b=some o->H b=none->h'.get? b=some o) (slot:∀b o,b≠X.env.locals->b∈X.fs->b∉ch->s.heap.get? b=some o->H b=none->∃sl,h'.get? b=some { o with slots:=sl }) (free:∀b o,b∉ch->s.heap.get? b=some o->H b=none->H' b=none) (there:∀b o,b∉ch->s.heap.get? b=some o->∃o',h'.get? b=some o') (tups:∀b xs,H b=some (.tup xs)->H' b=some (.tup xs)) (frzs:∀b o u,H b=some (.frz o u)->H' b=some (.frz o u)) (tbls:∀b k,H b=some (.tbl k)->H' b=some (.tbl k)) (ns:∀m,s.heap.Ns X.env.locals m->h'.Ns X.env.locals m) (hok:HOk X.prog X.w H' h') (hg:AllBare g'):
  Inv X pins a H' { s with heap:=h',gens:=g',drawn:=d',toks:=t' }:=by
 have a5:∀b o,_=some o->b≠X.env.locals:=λb o e=>qB7 (qB4 (qB0 e) I.ok.above);have a4:∀b o,_=some o->b∉X.ex->b∉ch:=λb o e O hb=>by
  rcases (a3 b hb).1 with z|z
  .show O z
  .show absurd (qB4 (qB0 e) z) (qE9 _)
 have cellK:∀x c,_=_->∀v,s.heap.IsCell c v->h'.IsCell c v:=λx c e v a6=>by
  obtain ⟨o,ho,hd⟩:=a6;have a0:=λz=>(a3 c z).2.2.1 x c e rfl;by_cases hc:c∈X.fs
  .obtain ⟨sl,q⟩:=slot c o (I.cne x c e) hc a0 ho (I.freeC x c e);show ⟨_,q,hd⟩
  .show ⟨o,keep c o (I.cne x c e) hc a0 ho (I.freeC x c e),hd⟩
 refine ⟨I.ok,I.os,hg,⟨λb o e n hb O=>?_,λb o e n hb O=>?_,λb o e n O=>?_,λb o e O=>?_,λb xs e=>tups b xs (I.base.tups b xs e),λb o xs e=>frzs b o xs (I.base.frzs b o xs e),λb ps e=>?_⟩,?_,λx c e=>?_,?_,λx c e=>?_,λp hp=>?_,hok,I.len⟩
 .show keep b o (a5 b o e) hb (a4 b o e O) (I.base.keep b o e n hb O) (I.base.free b o e n O)
 .obtain ⟨sl,e1⟩:=I.base.slot b o e n hb O;obtain ⟨a7,e2⟩:=slot b _ (a5 b o e) hb (a4 b o e O) e1 (I.base.free b o e n O);show ⟨a7,e2⟩
 .obtain ⟨o',e1⟩:=I.base.there b o e O;show free b o' (a4 b o e O) e1 (I.base.free b o e n O)
 .obtain ⟨o',e1⟩:=I.base.there b o e O;show there b o' (a4 b o e O) e1
 .show tbls b ps (I.base.tbls b ps e)
 .obtain ⟨m,hn,hl⟩:=I.loc;refine ⟨m,ns m hn,λi x v e1 e2 e3=>?_⟩;obtain ⟨u,r,l⟩:=hl i x v e1 e2 e3;refine ⟨u,r,?_⟩;rcases l with l|⟨k,c,e,z⟩
  .show .inl l
  .show .inr ⟨k,c,e,cellK x c e _ z⟩
 .obtain ⟨v,z⟩:=I.cell x c e;show ⟨v,cellK x c e v z⟩
 .obtain ⟨m,⟨o,_,_,ho,_⟩,_⟩:=I.loc;show free _ o (λz=>(a3 _ z).2.1 rfl) ho I.free
 .obtain ⟨v,o,ho,hd⟩:=I.cell x c e;show free c o (λz=>(a3 c z).2.2.1 x c e rfl) ho (I.freeC x c e)
 .obtain ⟨e,n,ne,nf,d⟩:=I.pin p hp;have a0:=λz=>(a3 p.1 z).2.2.2 p hp rfl;show ⟨keep p.1 p.2 ne nf a0 e n,free p.1 p.2 a0 e n,ne,nf,d⟩
def Inv.un (I:Inv X pins a H s) (u:Un X.fs [] H H' s.heap h') (hok:HOk X.prog X.w H' h'):Inv X pins a H' { s with heap:=h',toks:=t' }:=by
 obtain ⟨m,⟨o,es,ep,ho,r⟩,_⟩:=id I.loc;obtain ⟨sl,hL⟩:=u.any ho I.free ZZ;show I.step (d':=s.drawn) (ch:=[]) (λ_ z=>nomatch z) (λb o _ hb _ e n=>u.keep b o e n hb ZZ) (λb o _ hb _ e n=>u.slot b o e n hb ZZ) (λb o _ e n=>u.free b o e n ZZ) (λb o _ e=>u.there b o e ZZ) u.tups u.frzs u.tbls (λm' hm=>by
  obtain ⟨o',a3,a0,O,r'⟩:=hm;rw[ho]at O;cases O;show ⟨_,a3,a0,hL,r'⟩) hok I.bare
def Inv.call (I:Inv X pins a H s) (u:Un (frs X.stack) ch H H' s.heap h') (hok:HOk X.prog X.w H' h') (hg:AllBare g') (a0:∀b∈ch,(b∈X.ex\/X.s₀.heap.objs.size<=b)/\b≠X.env.locals/\(∀x c,X.env.cells.lookup x=some c->c≠b)/\∀p∈X.pn++pins,p.1≠b):
  Inv X pins a H' { s with heap:=h',gens:=g',drawn:=d',toks:=t' }:=by
 obtain ⟨m,⟨o,es,ep,ho,r⟩,_⟩:=id I.loc;obtain ⟨sl,hL⟩:=u.any ho I.free λz=>(a0 _ z).2.1 rfl;show I.step a0 (λb o hL hb hc e n=>u.keep b o e n (λz=>(qC4.mp (I.stkSub b z)).elim hL hb) hc) (λb o _ _ hc e n=>u.any e n hc) (λb o hc e n=>u.free b o e n hc) (λb o hc e=>u.there b o e hc) u.tups u.frzs u.tbls (λm' hm=>by
  obtain ⟨o',a4,a3,O,r'⟩:=hm;rw[ho]at O;cases O;show ⟨_,a4,a3,hL,r'⟩) hok hg
def Inv.turned (I:Inv X pins a H s) (k:∀b o,b≠it->s.heap.get? b=some o->h'.get? b=some o) (hn:H it=none) (O:it≠X.env.locals) (h1:it∈X.ex\/X.s₀.heap.objs.size<=it) (h2:∀x c,X.env.cells.lookup x=some c->c≠it) (h3:∀p∈X.pn++pins,p.1≠it):Inv X pins a H { s with heap:=h',toks:=t' }:=by
 refine I.step (d':=s.drawn) (ch:=[it]) (λb hb=>?_) (λb o _ _ hc e _=>k b o (λz=>hc (by simp [z])) e) (λb o _ _ hc e _=>⟨o.slots,k b o (λz=>hc (by simp [z])) e⟩) (λ_ _ _ _ n=>n)
  (λb o hc e=>⟨o,k b o (λz=>hc (by simp [z])) e⟩) (λ_ _ e=>e) (λ_ _ _ e=>e) (λ_ _ e=>e) (λm hm=>?_) (λb u e=>?_) I.bare
 .have e:b=it:=by simpa using hb
  subst e;show ⟨h1,O,h2,h3⟩
 .obtain ⟨o,es,ep,ho,r⟩:=hm;show ⟨o,es,ep,k _ o (Ne.symm O) ho,r⟩
 .refine (I.hok b u e).stay (λc v hc q=>k c v ?_ q) (λ_ q=>q) λ_ _ q=>q;omega
def Inv.tok (I:Inv X pins a H s)t:Inv X pins a H { s with toks:=t }:=I.un (t':=t) Un.refl I.hok
def Inv.kept (I:Inv X pins a H s)(k:∀b u,s.heap.get? b=some u->h'.get? b=some u):Inv X pins a H { s with heap:=h',toks:=t' }:=I.un (Un.kept k) (I.hok.kept k)
def Inv.laid {a:Addr}(I:Inv X pins c H s) (k:∀b u,s.heap.get? b=some u->h'.get? b=some u) (hp:s.heap.objs.size<=a) (O:ObjOk X.prog X.w (upd H a o) h' a o):
  Inv X pins c (upd H a o) { s with heap:=h',toks:=t' }:=I.un (Un.laid k hp (I.hok.fresh hp)) (I.hok.laid k hp O)
def Inv.write (I:Inv X pins a H s)(mu:Mut (H x))(he:e=x\/H e=some (.own x))(k:∀b u,b≠e->s.heap.get? b=some u->h'.get? b=some u)(O:∃u,h'.get? e=some u)(a0:ObjOk X.prog X.w (upd H x o) h' x o):Inv X pins a (upd H x o) { s with heap:=h',toks:=t' }:=I.un (Un.write mu he k O) (I.hok.write mu he k O a0)
def Inv.weak (I:Inv X pins a H s) (O:b.length=a.length) (w:∀(i:Nat) v,b[i]?=some (some v)->a[i]?=some (some v)):Inv X pins b H s:=
 ⟨I.ok,I.os,I.bare,I.base,let ⟨m,hn,hl'⟩:=I.loc;⟨m,hn,λi x v e1 e2 e3=>hl' i x v e1 (w i v e2) e3⟩,I.cell,I.free,I.freeC,I.pin,I.hok,O.trans I.len⟩
def Inv.pins_of (I:Inv X pins a H s) (h:∀p∈pins',s.heap.get? p.1=some p.2/\H p.1=none/\p.1≠X.env.locals/\p.1∉X.fs/\∀v,p.2.data≠.cell v):Inv X pins' a H s:=
 ⟨I.ok,I.os,I.bare,I.base,I.loc,I.cell,I.free,I.freeC,λp O=>(qF0.mp O).elim (λz=>I.pin p (qG6 _ z)) (h p),I.hok,I.len⟩
def mZ {N:Vp}(hN:N.Nodup){i:Nat}(a:N[i]?=some x) (b:N[j]?=some x):i=j:=by
 obtain ⟨h1,O⟩:=qA7.mp a;obtain ⟨h2,e2⟩:=qA7.mp b;show (List.getElem_inj hN).mp (O.trans e2.symm)
def jO (I:Inv X pins f H s) (hN:X.N.Nodup) (hi:X.N[i]?=some x) (hx:Loc X.env.scope x) (r:RelV v u) (h:∀s',Inv X pins (f.set i (some v)) H s'->(∃a,Heap.SameBut a s.heap s'.heap/\(a=X.env.locals\/X.env.cells.lookup x=some a))->Q () s') (hf:X.fn x=true\/X.env.scope.names.lookup x=some .local:=by first|show .inl rfl|show .inr rfl|assumption):wpAny M A (storeName X.env x u) Q E s:=by
 obtain ⟨m,hn,hl⟩:=id I.loc;have ab:(X.env.scope.kind == .class||X.env.scope.kind == .module&&X.env.locals != X.env.globals)=false:=by rw[I.ok.kind];rfl
 have a0:i<f.length:=by rw[I.len];show (qA7.mp hi).1
 have cne:=I.cne;have tracked:∀{a:Addr}{h':Heap},(∃o,s.heap.get? a=some o/\H a=none)->Heap.SameBut a _ h'->HOk _ X.w H h':=λ{a h'} ha hs b ob e=>by
  refine (I.hok b ob e).stay (λc w' hc q=>(hs.2 c ?_).trans q) (λ_ q=>q) λ_ _ q=>q;omega
 rcases hx with hk|hk
 .refine wpAny_storeName_local hk hn (λh' b3 hs=>?_) ab;obtain ⟨oL,_,_,b0,_⟩:=id hn;refine h _ ⟨I.ok,I.os,I.bare,⟨λb o e n hb hx=>?_,λb o e n hb hx=>?_,I.base.free,λb o e hx=>?_,I.base.tups,I.base.frzs,I.base.tbls⟩,⟨_,b3,λj y v' O e2 e3=>?_⟩,λy c e=>?_,I.free,I.freeC,λp hp=>?_,tracked ⟨oL,b0,I.free⟩ hs,by simpa using I.len⟩ ⟨_,hs,.inl rfl⟩
  .show (hs.2 b (qB7 (qB4 (qB0 e) I.ok.above))).trans (I.base.keep b o e n hb hx)
  .obtain ⟨sl,O⟩:=I.base.slot b o e n hb hx;show ⟨sl,(hs.2 b (qB7 (qB4 (qB0 e) I.ok.above))).trans O⟩
  .obtain ⟨o',O⟩:=I.base.there b o e hx;show ⟨o',(hs.2 b (qB7 (qB4 (qB0 e) I.ok.above))).trans O⟩
  .by_cases hj:j=i
   .subst hj;rw[hi]at O;cases O;rw[qG7 a0]at e2;cases e2;show ⟨u,r,.inl ⟨hk,ZZ⟩⟩
   .rw [qB6 (Ne.symm hj)]at e2
    obtain ⟨u',r',q⟩:=hl j y v' O e2 e3;refine ⟨u',r',?_⟩;rcases q with ⟨k,e⟩|⟨k,c,e,z⟩
    .refine .inl ⟨k,?_⟩
     have:y≠x:=λe=>hj (mZ hN O (e ▸ hi))
     simp [this,e]
    .show .inr ⟨k,c,e,z.sameBut hs (cne y c e)⟩
  .obtain ⟨w',z⟩:=I.cell y c e;show ⟨w',z.sameBut hs (cne y c e)⟩
  .obtain ⟨e,n,ne,nf,d⟩:=I.pin p hp;show ⟨(hs.2 p.1 ne).trans e,n,ne,nf,d⟩
 .have a3:X.fn x=true:=by
   omega
  obtain ⟨c,hc⟩:=I.ok.has x (.inl hk);obtain ⟨w',z⟩:=I.cell x c hc;refine wpAny_storeName_cell I.ok.kind hk hc z (λh' a5 hs=>?_);obtain ⟨oc,a4,a6⟩:=id z;refine h { s with heap:=h' } ⟨I.ok,I.os,I.bare,⟨λb o e n hb hx=>?_,λb o e n hb hx=>?_,I.base.free,λb o e hx=>?_,I.base.tups,I.base.frzs,I.base.tbls⟩,⟨m,hn.sameBut hs (Ne.symm (cne x c hc)),λj y v' O e2 e3=>?_⟩,λy c' e=>?_,I.free,I.freeC,λp hp=>?_,tracked ⟨oc,a4,I.freeC x c hc⟩ hs,by simpa using I.len⟩ ⟨c,hs,.inr hc⟩
  .show (hs.2 b (qB7 (qB4 (qB0 e) (I.ok.cab x c a3 hc)))).trans (I.base.keep b o e n hb hx)
  .obtain ⟨sl,O⟩:=I.base.slot b o e n hb hx;show ⟨sl,(hs.2 b (qB7 (qB4 (qB0 e) (I.ok.cab x c a3 hc)))).trans O⟩
  .obtain ⟨o',O⟩:=I.base.there b o e hx;show ⟨o',(hs.2 b (qB7 (qB4 (qB0 e) (I.ok.cab x c a3 hc)))).trans O⟩
  .by_cases hj:j=i
   .subst hj;rw[hi]at O;cases O;rw[qG7 a0]at e2;cases e2;show ⟨u,r,.inr ⟨.inl hk,c,hc,a5⟩⟩
   .rw [qB6 (Ne.symm hj)]at e2
    obtain ⟨u',r',q⟩:=hl j y v' O e2 e3;refine ⟨u',r',?_⟩;rcases q with q|⟨k,c',e,z'⟩
    .show .inl q
    .refine .inr ⟨k,c',e,z'.sameBut hs ?_⟩;rintro rfl;show hj (mZ hN O (I.ok.inj _ _ _ e hc ▸ hi))
  .by_cases a7:c'=c
   .subst a7;show ⟨_,a5⟩
   .obtain ⟨w2,z2⟩:=I.cell y c' e;show ⟨w2,z2.sameBut hs a7⟩
  .obtain ⟨e,n,ne,nf,d⟩:=I.pin p hp;refine ⟨(hs.2 p.1 ?_).trans e,n,ne,nf,d⟩;intro q;rw[q,a4]at e;have q':oc=p.2:=Option.some.inj e;show d w' (by rw[<- q'];show a6)
def fH (I:Inv X pins a H s) (O:X.N.Nodup) (hi:X.N[i]?=some x) (hx:Loc X.env.scope x) (r:RelV v u) (h:∀s',Inv X pins (a.set i (some v)) H s'->Q () s') (hf:X.fn x=true\/X.env.scope.names.lookup x=some .local:=by first|show .inl rfl|show .inr rfl|assumption):wpAny M A (storeName X.env x u) Q E s:=
 jO I O hi hx r (λs' I' _=>h s' I') hf
def Inv.call' (I:Inv X pins a H s) (ho:s'.os=s.os) (u:Un (frs X.stack) ch H H' s.heap s'.heap) (hok:HOk X.prog X.w H' s'.heap) (hg:AllBare s'.gens) (O:∀b∈ch,(b∈X.ex\/X.s₀.heap.objs.size<=b)/\b≠X.env.locals/\(∀x c,X.env.cells.lookup x=some c->c≠b)/\∀p∈X.pn++pins,p.1≠b):Inv X pins a H' s':=by
 obtain ⟨h',g',d',t',o'⟩:=s';have e:=ho;subst e;show I.call (t':=t') u hok hg O
abbrev XK:=Value->Option Addr->Hp->Prop
abbrev St:=List (Option V)
abbrev VK:=V->Hp->Prop
abbrev TE:=St->Hp->VK->Prop
abbrev TT:=St->Hp->(Bool->Hp->Prop)->Prop
abbrev TA:=St->Hp->(List V->Hp->Prop)->Prop
structure Ends where
 nx:St->Hp->Prop
 rt:VK
 bk:St->Hp->Prop:=λ_ _=>False
 ct:St->Hp->Prop:=λ_ _=>False
abbrev TS:=Ends->St->Hp->Prop
def EP (X:Cx)(pins:Vq)(a:St)(Q:VK)(u:Value)(s':Shared):Prop:=∃v H',Inv X pins a H' s'/\RelV v u/\Q v H'
def TP (X:Cx)(pins:Vq)(a:St)(Q:Bool->Hp->Prop)(b:Bool)(s':Shared):Prop:=∃H',Inv X pins a H' s'/\Q b H'
def AP (X:Cx)(pins:Vq)(a:St)(Q:List V->Hp->Prop)(us:Vy)(s':Shared):Prop:=∃vs H',Inv X pins a H' s'/\Vals vs us/\Q vs H'
def SP (X:Cx) (pins:Vq) (D:Ends) (f:Flow) (s':Shared):Prop:=
 match f with
 | .next=>∃O H',Inv X pins O H' s'/\D.nx O H'
 | .brk=>∃O H',Inv X pins O H' s'/\D.bk O H'
 | .cont=>∃O H',Inv X pins O H' s'/\D.ct O H'
 | .ret u=>∃v O H',Inv X pins O H' s'/\RelV v u/\D.rt v H'
def PE (X:Cx) (e:Expr) (t:TE):Prop:=
 ∀(pins:Vq) (s:Shared) (a:St) (H:Hp) (Q:VK),Inv X pins a H s->t a H Q->wpAny (model X.prog X.w) X.A (eval e X.env) (EP X pins a Q) X.xe s
def PT (X:Cx) (e:Expr) (t:TT):Prop:=
 ∀(pins:Vq) (s:Shared) (a:St) (H:Hp) (Q:Bool->Hp->Prop),Inv X pins a H s->t a H Q->wpAny (model X.prog X.w) X.A (isTrue e X.env (eval e X.env)) (TP X pins a Q) X.xe s
def PW (X:Cx) (e:Expr) (t:TT):Prop:=
 ∀(whole:Sem Value) (pins:Vq) (s:Shared) (a:St) (H:Hp) (Q:Bool->Hp->Prop),Inv X pins a H s->t a H Q->wpAny (model X.prog X.w) X.A (isTrue e X.env whole) (TP X pins a Q) X.xe s
def PW.pt (h:PW X e t):PT X e t:=h _
def PA (X:Cx) (es:Vo) (t:TA):Prop:=
 ∀(pos:Pos) (pins:Vq) (s:Shared) (a:St) (H:Hp) (Q:List V->Hp->Prop),Inv X pins a H s->t a H Q->wpAny (model X.prog X.w) X.A (spliced (backTo pos (starEach es X.env))) (AP X pins a Q) X.xe s
def PS (X:Cx) (st:Stmt) (t:TS):Prop:=
 ∀(pins:Vq) (s:Shared) (a:St) (H:Hp) (D:Ends),Inv X pins a H s->t D a H->wpAny (model X.prog X.w) X.A (exec st X.env) (SP X pins D) X.xe s
def PSs (X:Cx) (st:List Stmt) (t:TS):Prop:=
 ∀(pins:Vq) (s:Shared) (a:St) (H:Hp) (D:Ends),Inv X pins a H s->t D a H->wpAny (model X.prog X.w) X.A (execs st X.env) (SP X pins D) X.xe s
def thn {t:Sem b}(h:wpAny M A t Q E s)(O:∀a s,Q a s->Q' a s):wpAny M A t Q' E s:=qO5 h O λ_ _ x=>x
def R3 (i:Nat):TE:=λa H Q=>∃v,a[i]?=some (some v)/\Q v H
def tC (v:V):TE:=λ_ H Q=>Q v H
def P8 {X}{i}{x}{pos}(hN:X.N[i]?=some x) (hv:Vis X.env.scope x) (hd:(x == ("__debug__"))=false:=by decide) (O:(x == ("__classdict__"))=false:=by decide):PE X (.Name x pos) (R3 i):=by
 intro pins s a H Q I h;obtain ⟨v,e,h⟩:=h;obtain ⟨m,hn,hl⟩:=I.loc;obtain ⟨u,r,l⟩:=hl i x v hN e hv;have fin:EP X pins a Q u s:=⟨v,H,I,r,h⟩;rcases l with ⟨hk,hm⟩|⟨hk,c,hc,hcell⟩
 .show qW8 (qS9 I.ok.kind hk hn hm fin) hd
 .rcases hk with hk|hk
  .show qW8 (wpAny_loadName_cell I.ok.kind hk hc hcell fin) hd
  .show qW8 (wpAny_loadName_free I.ok.kind hk hc hcell fin O) hd
def pe_int {i j pos}:PE X (.Constant (.int i) j pos) (tC (.int i)):=λ_ _ _ H _ I h=>wpAny_Constant_int ⟨.int i,H,I.tok _,⟨_,rfl⟩,h⟩
def pe_bl {b j pos}:PE X (.Constant (.bool b) j pos) (tC (.bl b)):=λ_ _ _ H _ I h=>Constant_bool ⟨.bl b,H,I,rfl,h⟩
def pe_non {j pos}:PE X (.Constant .none j pos) (tC .non):=λ_ _ _ H _ I h=>Constant_none ⟨.non,H,I,rfl,h⟩
def pe_str {x j pos}:PE X (.Constant (.str x) j pos) (tC (.str x)):=λ_ _ _ H _ I h=>Calls.Constant_str ⟨.str x,H,I.tok _,⟨_,rfl⟩,h⟩
def Gl (X:Cx)(x:Str):Prop:=X.env.kindOf x=some .globalImplicit
def qD {X}{E:VZ}{pins}{s}{a:St}{H}{x}{u}{pos}{Q:VZ}(I:Inv X pins a H s) (hg:Gl X x) (hm:X.mg x=some u) (h:Q u s) (hd:(x == ("__debug__"))=false:=by decide):wpAny (model X.prog X.w) X.A (eval (.Name x pos) X.env) Q E s:=
 Calls.Name_function_global I.ok.kind hg (Calls.loadGlobal_global (by rw[I.ok.glob];show I.mod.glob.keeps I.bk) hm h) hd
def F0 {X}{E:VZ}{pins}{s}{a:St}{H}{x}{u}{pos}{Q:VZ}(I:Inv X pins a H s) (hg:Gl X x) (hm:X.mg x=none) (hv:bootBuiltins x=some u) (h:Q u s) (hn:x ≠ "__name__" := by decide) (hd:(x == ("__debug__"))=false:=by decide):wpAny (model X.prog X.w) X.A (eval (.Name x pos) X.env) Q E s:=by
 obtain ⟨mb,O,h2⟩:=I.mod.blt;show Calls.Name_function_global I.ok.kind hg (Calls.loadGlobal_builtin (by rw[I.ok.glob];show I.mod.glob.keeps I.bk) hm (by rw[I.ok.blt];show O.keeps I.bk) ((h2 x hn).trans hv) h) hd
def CT {X}{x}{v}{u}{pos}(hg:Gl X x) (hm:X.mg x=none) (O:bootBuiltins x=some u) (r:RelV v u) (hn:x ≠ "__name__" := by decide) (hd:(x == ("__debug__"))=false:=by decide):PE X (.Name x pos) (tC v):=
 λ_ _ _ H _ I h=>F0 I hg hm O ⟨v,H,I,r,h⟩ hn hd
def PC (X:Cx) (op:CmpOp) (a b:Expr) (t:TE):Prop:=
 ∀ (pins:Vq) (s:Shared) (c:St) (H:Hp) (Q:VK),Inv X pins c H s->t c H Q ->
  wpAny (model X.prog X.w) X.A (eval a X.env) (λv O=>wpAny (model X.prog X.w) X.A (eval b X.env) (λu a0=>wpAny (model X.prog X.w) X.A (compareOp op v u) (EP X pins c Q) X.xe a0) X.xe O) X.xe s
def zr b (h:op≠.In) (h2:op≠.NotIn):behindInMarks op b=false:=by
 have O:(op == CmpOp.In)=false:=ox;have e2:(op == CmpOp.NotIn)=false:=ox;cases b <;> simp [behindInMarks,O,e2]
def tB (t:TE):TT:=λa H Q=>t a H λx H1=>∃c,x=.bl c/\Q c H1
def Hk (h:PC X op a b t) (O:behindInMarks op b=false:=by first|show zr _ ZQ ZQ|rfl):PT X (.Compare a [op] [b] pos) (tB t):=by
 intro pins s e H Q I hw;refine wpAny_isTrue_Compare1 (thn (h pins s e H _ I hw) λv s1 O=>thn O λu s2 h2=>thn h2 λc s3 a0=>?_) O;obtain ⟨x,H1,I1,r1,q1⟩:=a0;obtain ⟨d,rfl,q⟩:=q1;cases r1;show qO6 ⟨H1,I1,q⟩
def Hi (h:PE X e t) (he:∀whole,isTrue e X.env whole=(do let v <- whole;standAt e.pos;holding [v] (truthy v)):=by intro _;rfl):PT X e (tB t):=by
 intro pins s a H Q I hw;refine isTrue_plain (thn (h pins s a H _ I hw) λv s1 O=>?_) (he _);obtain ⟨x,H1,I1,r1,q1⟩:=O;obtain ⟨d,rfl,q⟩:=q1;cases r1;show qO6 ⟨H1,I1,q⟩
def FC (t u:TT):TT:=λa H Q=>t a H λc H1=>if c=true then u a H1 Q else Q false H1
def tOr (t u:TT):TT:=λa H Q=>t a H λc H1=>if c=true then Q true H1 else u a H1 Q
def Fv (t:TT):TT:=λa H Q=>t a H λc H1=>Q (!c) H1
def CI (ha:PT X a tA):PW X (.BoolOp .And [a] pos) tA:=by
 intro wh pins s b H Q I h;refine isTrue_and (thn (ha pins s b H Q I h) λc s1 e=>?_);cases c with
 |true=>show isTrue_and_nil e
 |false=>show e
def He (ha:PT X a tA):PW X (.BoolOp .Or [a] pos) tA:=by
 intro wh pins s b H Q I h;refine isTrue_or (thn (ha pins s b H Q I h) λc s1 e=>?_)
 grind[isTrue_or_nil]
def Hf {rest:Vo}(ha:PT X a tA) (hb:PW X (.BoolOp .And (b::rest) pos) tB'):PW X (.BoolOp .And (a::b::rest) pos) (FC tA tB'):=by
 intro wh pins s d H Q I h;refine isTrue_and (thn (ha pins s d H _ I h) λc s1 O=>?_);obtain ⟨H1,I1,q1⟩:=O;cases c with
 |true=>show hb wh pins s1 d H1 Q I1 q1
 |false=>show ⟨H1,I1,q1⟩
def Lc {rest:Vo}(ha:PT X a tA) (hb:PW X (.BoolOp .Or (b::rest) pos) tB'):PW X (.BoolOp .Or (a::b::rest) pos) (tOr tA tB'):=by
 intro wh pins s d H Q I h;refine isTrue_or (thn (ha pins s d H _ I h) λc s1 O=>?_);obtain ⟨H1,I1,q1⟩:=O;cases c with
 |true=>show ⟨H1,I1,q1⟩
 |false=>show hb wh pins s1 d H1 Q I1 q1
def Hj (ha:PT X a tA):PT X (.UnaryOp .Not a pos) (Fv tA):=by
 intro pins s b H Q I h;show isTrue_not (ha pins s b H _ I h)
def AW (ta O:TE):TE:=λa H Q=>ta a H λx H1=>∃c,x=.bl c/\if c=true then O a H1 Q else Q (.bl false) H1
def Hw {op}(h:PE X a t):PE X (.BoolOp op [a] pos) t:=λpins s b H Q I hw=>BoolOp_one (h pins s b H Q I hw)
def HA {rest:Vo}(ha:PE X a ta) (hb:PE X (.BoolOp .And (b::rest) pos) tb):PE X (.BoolOp .And (a::b::rest) pos) (AW ta tb):=by
 intro pins s d H Q I h;refine BoolOp_and (thn (ha pins s d H _ I h) λv s1 a0=>?_);obtain ⟨x,H1,I1,r1,O⟩:=a0;obtain ⟨c,rfl,O⟩:=O;cases r1;refine qO6 ?_;cases c with
 |true=>show hb pins s1 d H1 Q I1 O
 |false=>show ⟨.bl false,H1,I1,rfl,O⟩
def tIf (t:TT)(ta O:TE):TE:=λa H Q=>t a H λc H1=>if c=true then ta a H1 Q else O a H1 Q
def zb (hc:PT X c tA) (ha:PE X a ta) (hb:PE X b tb):PE X (.IfExp c a b pos) (tIf tA ta tb):=by
 intro pins s e H Q I h;refine wpAny_IfExp (thn (hc pins s e H _ I h) λd s1 O=>?_);obtain ⟨H1,I1,q1⟩:=O;cases d with
 |true=>show ha pins s1 e H1 Q I1 q1
 |false=>show hb pins s1 e H1 Q I1 q1
def SqL (K:Frag) (H:Hp) (a:Addr) (xs:List V):Prop:=
 Rd H a (.lst xs) \/
  ∃(o:Obj) (its:VQ) (n:Nat),K.lookup a=some o/\o.cls=.type "list" /\ o.dict=none/\o.data=.seq its n/\its.size<=sizeLine/\Vals xs its.toList
def SqT (K:Frag) (H:Hp) (a:Addr) (xs:List V):Prop:=
 Rd H a (.tup xs) \/
  ∃(o:Obj) (its:VQ) (n:Nat),K.lookup a=some o/\o.cls=.type "tuple" /\ o.data=.seq its n/\its.size<=sizeLine/\Vals xs its.toList
noncomputable def absV:Value->Option V
 | .none=>some .non
 | .bool b=>some (.bl b)
 | .int i _=>some (.int i)
 | .str x _=>some (.str x)
 | .bytes b _=>some (.byt b)
 | .float b _=>some (.flt b)
 | .ref a=>some (.ref a)
 | .type n=>some (.ty n)
 |_=>none
def RelV.abs (r:RelV x u):absV u=some x:=by
 cases x with
 |non=>cases r;rfl
 |bl _=>cases r;rfl
 |int _=>obtain ⟨t,rfl⟩:=r;rfl
 |str _=>obtain ⟨t,rfl⟩:=r;rfl
 |byt _=>obtain ⟨t,rfl⟩:=r;rfl
 |flt _=>obtain ⟨t,rfl⟩:=r;rfl
 |ref _=>cases r;rfl
 |ty _=>cases r;rfl
def RelV.inj (r:RelV x u)(q:RelV y u):x=y:=Option.some.inj (r.abs.symm.trans q.abs)
def Vals.inj:∀{xs ys}{us:Vy},Vals xs us->Vals ys us->xs=ys:=by
 intro xs ys us a
 induction a generalizing ys with
 |nil=>intro b;cases b;rfl
 | cons r t O=>
  intro b;cases b with
  |cons r' t'=>rw[r.inj r',O t']
def SqL.of {K}(h:H a=some (.lst xs)):SqL K H a xs:=.inl (.inl h)
def SqT.of {K}(h:H a=some (.tup xs)):SqT K H a xs:=.inl (.inl h)
def Inv.list {b:St}(I:Inv X pins b H s) (h:SqL X.K H a xs):∃its:List Value,Vals xs its/\PlainL s.heap a its.toArray/\xs.length<=sizeLine:=by
 rcases h with h|⟨o,its,n,hk,hc,hd,hs,hz,r⟩
 .obtain ⟨z,its,n,r,e⟩:=h.ok I.hok;show ⟨its,r,⟨_,n,e,rfl,rfl,rfl⟩,z⟩
 .refine ⟨its.toList,r,⟨o,n,I.kIn a o hk,hc,hd,ox⟩,?_⟩;have e:=r.length;simp [qJ1]at e;omega
def Inv.tuple {b:St}(I:Inv X pins b H s) (h:SqT X.K H a xs):∃its:List Value,Vals xs its/\IsTup s.heap a its.toArray/\xs.length<=sizeLine:=by
 rcases h with h|⟨o,its,n,hk,hc,hs,hz,r⟩
 .obtain ⟨z,its,r,p⟩:=h.ok I.hok;show ⟨its,r,p,z⟩
 .refine ⟨its.toList,r,⟨o,I.kIn a o hk,hc,n,ox⟩,?_⟩;have e:=r.length;simp [qJ1]at e;omega
def Inv.list_inj {b:St}(I:Inv X pins b H s) (h:SqL X.K H a xs) (h':SqL X.K H a ys):xs=ys:=by
 obtain ⟨its,r,⟨o,n,e,_,_,d⟩,_⟩:=I.list h;obtain ⟨its',r',⟨o',n',O,_,_,d'⟩,_⟩:=I.list h';rw[e]at O;cases O;rw[d]at d'
 have:its=its':=ox
 subst this;show r.inj r'
def Inv.tuple_inj {b:St}(I:Inv X pins b H s) (h:SqT X.K H a xs) (h':SqT X.K H a ys):xs=ys:=by
 obtain ⟨its,r,⟨o,e,_,n,d⟩,_⟩:=I.tuple h;obtain ⟨its',r',⟨o',O,_,n',d'⟩,_⟩:=I.tuple h';rw[e]at O;cases O;rw[d]at d'
 have:its=its':=ox
 subst this;show r.inj r'
noncomputable abbrev Cx.wish (X:Cx)(E:VZ):Cx:={ X with xe:=E }
noncomputable abbrev Cx.nox (X:Cx):Cx:=X.wish λ_ _=>False
def Cx.Ok.wish {X:Cx}(ok:X.Ok) E:(X.wish E).Ok:=
 ⟨ok.mod,ok.kind,ok.glob,ok.blt,ok.above,ok.inj,ok.has,ok.cab,ok.hd,ok.frames,ok.stk,ok.exf,ok.bs,ok.bsz,ok.noex,ok.exfs,ok.funs,ok.frf,ok.tab⟩
def Cx.Ok.unwish {X:Cx}(ok:(X.wish E).Ok):X.Ok:=
 ⟨ok.mod,ok.kind,ok.glob,ok.blt,ok.above,ok.inj,ok.has,ok.cab,ok.hd,ok.frames,ok.stk,ok.exf,ok.bs,ok.bsz,ok.noex,ok.exfs,ok.funs,ok.frf,ok.tab⟩
def Inv.wish {a:St}(I:Inv X pins a H s)E:Inv (X.wish E) pins a H s:=⟨I.ok.wish E,I.os,I.bare,I.base,I.loc,I.cell,I.free,I.freeC,I.pin,I.hok,I.len⟩
def Inv.unwish {a:St}(I:Inv (X.wish E) pins a H s):Inv X pins a H s:=⟨I.ok.unwish,I.os,I.bare,I.base,I.loc,I.cell,I.free,I.freeC,I.pin,I.hok,I.len⟩
def SP.unwish (h:SP (X.wish E) pins D f s'):SP X pins D f s':=by
 cases f with
 |next=>obtain ⟨O,H',I,q⟩:=h;show ⟨O,H',I.unwish,q⟩
 |brk=>obtain ⟨O,H',I,q⟩:=h;show ⟨O,H',I.unwish,q⟩
 |cont=>obtain ⟨O,H',I,q⟩:=h;show ⟨O,H',I.unwish,q⟩
 |ret u=>obtain ⟨v,O,H',I,r,q⟩:=h;show ⟨v,O,H',I.unwish,r,q⟩
def PSs.nox {st}(h:PSs X.nox st t):PSs X st t:=λpins s a H D I hw=>
 qO5 (h pins s a H D (I.wish _) hw) (λ_ _ q=>q.unwish) λ_ _ z=>False.elim z
def tNext:TS:=λD a H=>D.nx a H
def xZ (t u:TS):TS:=λD a H=>t { D with nx:=u D } a H
def pss_nil:PSs X [] tNext:=λ_ _ a H _ I h=>qT0 ⟨a,H,I,h⟩
def mJ {st}{rest}(h1:PS X st t) (h2:PSs X rest u):PSs X (st::rest) (xZ t u):=by
 intro pins s a H D I h;refine wpAny_execs_cons (thn (h1 pins s a H { D with nx:=u D } I h) λf s1 q=>?_);cases f with
 | next=>
  obtain ⟨O,H',I',q⟩:=q;show h2 pins s1 O H' D I' q
 |ret v=>show q
 |brk=>show q
 |cont=>show q
def qd {st}(O:PS X st t):PSs X [st] t:=by
 intro pins s a H D I h;refine wpAny_execs_cons (thn (O pins s a H D I h) λf s1 q=>?_)
 grind[PySem.wpAny_execs_nil]
def tCont:TS:=λD a H=>D.ct a H
def ps_continue:PS X (.Continue pos) tCont:=λ_ _ a H _ I h=>wpAny_Continue ⟨a,H,I,h⟩
def Inv.quiet {a:St}(I:Inv X pins a H s):interactive X.env=false:=by simp [interactive,I.ok.kind]
def gy (te:TE):TS:=λD a H=>te a H λ_ H1=>D.nx a H1
def eG (he:PE X e te) (hs:swapsWith e none pos.line X.env=pure false:=by rfl):PS X (.Expr e pos) (gy te):=by
 intro pins s a H D I h;show wpAny_Expr_any (thn (he pins s a H _ I h) λv s1 O=>by obtain ⟨x,H1,I1,r1,q1⟩:=O;show ⟨a,H1,I1,q1⟩) I.quiet hs
def ya (te:TE):TS:=λD a H=>te a H D.rt
def vo (he:PE X e te):PS X (.Return (some e) pos) (ya te):=by
 intro pins s a H D I h;show wpAny_Return_some (thn (he pins s a H _ I h) λv s1 O=>by obtain ⟨x,H1,I1,r1,q1⟩:=O;show ⟨x,a,H1,I1,r1,q1⟩)
def tRetN:TS:=λD _ H=>D.rt .non H
def ps_retN:PS X (.Return none pos) tRetN:=λ_ _ a H _ I h=>wpAny_Return_none ⟨.non,a,H,I,rfl,h⟩
def yb (c:TT)(t u:TS):TS:=λD a H=>c a H λb H1=>if b=true then t D a H1 else u D a H1
def Bi (hc:PT X c tc) (ha:PSs X a t) (hb:PSs X b u):PS X (.If c a b pos) (yb tc t u):=by
 intro pins s e H D I h;refine wpAny_If (thn (hc pins s e H _ I h) λd s1 O=>?_);obtain ⟨H1,I1,q1⟩:=O;cases d with
 |true=>show ha pins s1 e H1 D I1 q1
 |false=>show hb pins s1 e H1 D I1 q1
def tNever:TS:=λ_ _ _=>False
def ps_never {st}:PS X st tNever:=λ_ _ _ _ _ _ h=>h.elim
abbrev TG:=V->St->Hp->(St->Hp->Prop)->Prop
abbrev TGs:=List V->St->Hp->(St->Hp->Prop)->Prop
def PG (X:Cx) (target:Expr) (t:TG):Prop:=
 ∀ (pins:Vq) (s:Shared) (a:St) (H:Hp) (v:V) (u:Value) (Q:St->Hp->Prop),Inv X pins a H s->RelV v u->t v a H Q ->
  wpAny (model X.prog X.w) X.A (assign target X.env u) (λ_ s'=>∃O H',Inv X pins O H' s'/\Q O H') X.xe s
def PGs (X:Cx) (ts:Vo) (t:TGs):Prop:=
 ∀ (pins:Vq) (s:Shared) (a:St) (H:Hp) (vs:List V) (us:Vy) (Q:St->Hp->Prop),Inv X pins a H s->Vals vs us->t vs a H Q ->
  wpAny (model X.prog X.w) X.A (assignInOrder ((assignEach ts X.env).map (·.2)) us) (λ_ s'=>∃O H',Inv X pins O H' s'/\Q O H') X.xe s
abbrev TSet:=V->V->V->Hp->(Hp->Prop)->Prop
def KH (X:Cx) (t:TSet):Prop:=
 ∀ (pins:Vq) (s:Shared) (a:St) (H:Hp) (o i v:V) (O iv u:Value) (Q:Hp->Prop),Inv X pins a H s->RelV o O->RelV i iv->RelV v u->t o i v H Q ->
  wpAny (model X.prog X.w) X.A (setItem O iv u) (λ_ s'=>∃H',Inv X pins a H' s'/\Q H') X.xe s
abbrev TIp:=V->V->Hp->VK->Prop
def PIp (X:Cx) (op:Operator) (t:TIp):Prop:=
 ∀ (pins:Vq) (s:Shared) (a:St) (H:Hp) (x y:V) (v u:Value) (Q:VK),Inv X pins a H s->RelV x v->RelV y u->t x y H Q ->
  wpAny (model X.prog X.w) X.A (inplaceOp op v u) (EP X pins a Q) X.xe s
def Q5 (i:Nat):TG:=λv a H Q=>Q (a.set i (some v)) H
def c9 (O:X.N.Nodup) (hi:X.N[i]?=some x) (hx:Loc X.env.scope x) (hf:X.fn x=true\/X.env.scope.names.lookup x=some .local:=by first|show .inl rfl|show .inr rfl|assumption):PG X (.Name x pos) (Q5 i):=by
 intro pins s a H v u Q I r h;show wpAny_assign_Name (fH I O hi hx r (λs' I'=>⟨_,H,I',h⟩) hf)
def gNil:TGs:=λvs a H Q=>vs = []/\Q a H
def sZ (t:TG)(u:TGs):TGs:=λvs a H Q=>∃v r,vs=v::r/\t v a H λO H'=>u r O H' Q
def t5:PGs X [] gNil:=by
 intro pins s a H vs us Q I r h;obtain ⟨e,h⟩:=h;subst e;show assignInOrder_nil ⟨a,H,I,h⟩
def g8 (h1:PG X e t) (h2:PGs X es u) (hs:(assignEach (e::es) X.env).map (·.2)=assign e X.env::(assignEach es X.env).map (·.2):=by rfl):PGs X (e::es) (sZ t u):=by
 intro pins s a H vs us Q I r h;obtain ⟨v,vr,e1,h⟩:=h;subst e1;cases r with
 | cons r rr=>
  rw[hs];refine assignInOrder_cons (thn (h1 pins s a H _ _ _ I r h) λ_ s1 O=>?_);obtain ⟨a0,H1,I1,q1⟩:=O;show h2 pins s1 a0 H1 _ _ Q I1 rr q1
def sY (K:Frag)(n:Nat)(t:TGs):TG:=λv b H Q=>∃a xs,v=.ref a/\SqT K H a xs/\xs.length=n/\t xs b H Q
def Hv {X:Cx}{pos}{es}{k}{t}{n}(hc:X.calm=true) (h:PGs X es t) (hn:(assignEach es X.env).length=n:=by rfl) (O:(assignEach es X.env).findIdx? (·.1)=none:=by rfl):PG X (.Tuple es k pos) (sY X.K n t):=by
 intro pins s c H v u Q I r hw;obtain ⟨a,xs,e1,hq,hl,hw⟩:=hw;subst e1;cases r;obtain ⟨its,rv,ht,hz⟩:=I.tuple hq;refine assign_Tuple_tuple (I.ok.hd hc) ht (by simp [hn,<- hl,rv.length]) O λh' hx=>?_;have I1:=I.kept (t':=s.toks) λb o e=>hx b o (qB7 (qB0 e)) e;show h pins _ c H xs _ Q I1 ox hw
def gSub (to ti:TE)(t:TSet):TG:=λv a H Q=>to a H λo H1=>ti a H1 λi H2=>t o i v H2 λO=>Q a O
def mL (ho:PE X o to) (hi:PE X i ti) (hs:KH X t) (ha:∀v,assign (.Subscript o i pos) X.env v=(do
   let O <- holding [v] (eval o X.env)
   let iv <- holding [v,O] (eval i X.env)
   standAt pos
   holding [v,O,iv] (setItem O iv v)
   release [v,O,iv] []):=by intro _;rfl):PG X (.Subscript o i pos) (gSub to ti t):=by
 intro pins s a H v u Q I r h;refine qA0 (qN6 (thn (ho pins s a H _ I h) λO s1 a3=>?_));obtain ⟨x,H1,I1,r1,q1⟩:=a3;refine qA0 (qN6 (thn (hi pins s1 a H1 _ I1 q1) λiv s2 a0=>?_));obtain ⟨y,H2,I2,r2,q2⟩:=a0;refine qA0 (qQ0 (qA0 (qN6 (thn (hs pins s2 a H2 x y v O iv u _ I2 r1 r2 r q2) λ_ s3 a4=>?_))));obtain ⟨H3,I3,q3⟩:=a4;show wpAny_release ⟨a,H3,I3,q3⟩
def bK (te:TE)(g:TG):TS:=λD a H=>te a H λx H1=>g x a H1 D.nx
def vp {X}{pos:Pos}{tg e}{te}{g}(he:PE X e te) (hg:PG X tg g) (hs:swapsWithSole [tg] e pos.line X.env=pure false:=by rfl) (hw:swappedStores [tg] e X.env=pure none:=by rfl) (h1:(assignEach [tg] X.env).map (·.2) = [assign tg X.env]:=by rfl):PS X (.Assign [tg] e pos) (bK te g):=by
 intro pins s a H D I h;refine wpAny_Assign_stores (thn (he pins s a H _ I h) λv s1 O=>?_) hs hw;obtain ⟨x,H1,I1,r1,q1⟩:=O;rw[h1];show thn (hg pins s1 a H1 x v _ I1 r1 q1) λ_ s2 q=>q
def gO {X}{pos}{i}{x}{e}{te}{pos'}(hN:X.N.Nodup) (hi:X.N[i]?=some x) (hx:Loc X.env.scope x) (he:PE X e te) (hs:swapsWith e (some (.Name x pos')) pos.line X.env=pure false:=by rfl) (hf:X.fn x=true\/X.env.scope.names.lookup x=some .local:=by first|show .inl rfl|show .inr rfl|assumption):
  PS X (.Assign [.Name x pos'] e pos) (bK te (Q5 i)):=by
 intro pins s a H D I h;refine wpAny_Assign_Name (thn (he pins s a H _ I h) λv s1 O=>?_) hs;obtain ⟨y,H1,I1,r1,q1⟩:=O;show fH I1 hN hi hx r1 (λs2 I2=>⟨_,H1,I2,q1⟩) hf
def FB (i:Nat)(te:TE)(ti:TIp):TS:=λD a H=>∃x,a[i]?=some (some x)/\te a H λy H1=>ti x y H1 λz H2=>D.nx (a.set i (some z)) H2
def Hm (hN:X.N.Nodup) (hi:X.N[i]?=some x) (hx:Loc X.env.scope x) (he:PE X e te) (ho:PIp X op ti) (hf:X.fn x=true\/X.env.scope.names.lookup x=some .local:=by first|show .inl rfl|show .inr rfl|assumption):
  PS X (.AugAssign (.Name x pos') op e pos) (FB i te ti):=by
 intro pins s a H D I h;obtain ⟨v,e1,h⟩:=h;obtain ⟨m,hn,hl⟩:=I.loc;have a5:Vis X.env.scope x:=by rcases hx with k|k;show .inl k;show .inr (.inl k)
 obtain ⟨u,r,l⟩:=hl i x v hi e1 a5;refine wpAny_AugAssign_Name ?_;have go:wpAny (model X.prog X.w) X.A (eval e X.env) (λw a3=>wpAny (model X.prog X.w) X.A (inplaceOp op u w) (λr a0=>wpAny (model X.prog X.w) X.A (storeName X.env x r) (λ_=>SP X pins D .next) X.xe a0) X.xe a3) X.xe s:=by
  refine thn (he pins s a H _ I h) λw s1 a4=>?_;obtain ⟨y,H1,I1,r1,q1⟩:=a4;refine thn (ho pins s1 a H1 v y u w _ I1 r r1 q1) λz s2 O=>?_;obtain ⟨zv,H2,I2,r2,q2⟩:=O;show fH I2 hN hi hx r2 (λs3 I3=>⟨_,H2,I3,q2⟩) hf
 rcases l with ⟨hk,hm⟩|⟨hk,c,hc,hcell⟩
 .show qS9 I.ok.kind hk hn hm go
 .rcases hk with hk|hk
  .show wpAny_loadName_cell I.ok.kind hk hc hcell go
  .rcases hx with k|k
   .have:X.env.scope.names.lookup x=_:=hk
    rw[k]at this;cases this
   .have:X.env.scope.names.lookup x=_:=hk
    rw[k]at this;cases this
def ipI (f:Int->Int->Int):TIp:=λx y H Q=>∃i j,x=.int i/\y=.int j/\Q (.int (f i j)) H
def wI:PIp X .Add (ipI λi j=>i+j):=by
 intro pins s a H x y v u Q I r1 O h;obtain ⟨i,j,e1,e2,q⟩:=h;subst e1;subst e2;obtain ⟨t,rfl⟩:=r1;obtain ⟨t',rfl⟩:=O;show iadd_int ⟨.int _,H,I.tok _,⟨_,rfl⟩,q⟩
def uv (c:TT) (tb:TS):TS:=λD a H=>∃W:Nat->St->Hp->Prop,(∃m,W m a H)/\∀m a H,W m a H ->
 c a H λb H1=>if b=true then ∃N:St->Hp->Prop,(∀O H',N O H'->∃m',m'<m/\W m' O H')/\tb { D with nx:=N,ct:=N,bk:=D.nx } a H1 else D.nx a H1
def yW (hp:PassesOwn (model X.prog X.w) X.A X.env X.xe) (hc:PT X c tc) (hb:PSs X body tb):PS X (.While c body [] pos) (uv tc tb):=by
 intro pins s a H D I h;obtain ⟨W,⟨m0,w0⟩,turn⟩:=h;refine wpAny_While (codeAny_whileLoop (λn s'=>∃a3 H',Inv X pins a3 H' s'/\W n a3 H') ?_ m0 ⟨a,H,I,w0⟩);rintro n s1 ⟨a0,H1,I1,w1⟩;refine qP2 hp (thn (hc pins s1 a0 H1 _ I1 (turn n a0 H1 w1)) λb s2 a4=>?_);obtain ⟨H2,I2,q2⟩:=a4;cases b with
 | true=>
  obtain ⟨N,hN,q2⟩:=q2;refine qP2 hp (thn (hb pins s2 a0 H2 _ I2 q2) λf s3 q3=>?_);cases f with
  | next=>
   obtain ⟨O,H3,I3,n3⟩:=q3;obtain ⟨m',hm,w3⟩:=hN O H3 n3;show ⟨m',hm,O,H3,I3,w3⟩
  | cont=>
   obtain ⟨O,H3,I3,n3⟩:=q3;obtain ⟨m',hm,w3⟩:=hN O H3 n3;show ⟨m',hm,O,H3,I3,w3⟩
  |brk=>show q3
  |ret v=>show q3
 | false=>
  show qT0 ⟨a0,H2,I2,q2⟩
structure It where
 go:Nat->Hp->Prop
 yld:Nat->Hp->V->Hp->Prop
 stop:Nat->Hp->Prop
def C3 (X:Cx) (pins:Vq) (H:Hp) (b:Addr):Prop:=
 H b=none/\b≠X.env.locals/\b∉X.fs/\(b∈X.ex\/X.s₀.heap.objs.size<=b)/\(∀x c,X.env.cells.lookup x=some c->c≠b)/\∀p∈X.pn++pins,p.1≠b
def Inv.fpOk {a:St}{b:Addr}(I:Inv X pins a H s) (O:s.heap.objs.size<=b) (hn:H' b=none):C3 X pins H' b:=by
 refine ⟨hn,qI6 (qB4 I.lt O),I.nofs O,.inr (qD3 I.sz O),λx c e z=>?_,λp hp z=>?_⟩
 .obtain ⟨v,q⟩:=I.cell x c e;show absurd (qB4 q.lt (by rw[z];show O)) (qE9 _)
 .show absurd (qB4 (qB0 (I.pin p hp).1) (by rw[z];show O)) (qE9 _)
structure Turn (P:Program) (w:World) (K:Frag) (tg:Expr) (J:It) (fp:List Addr) (it:Addr) (tn:Nat->Heap->Prop):Prop where
 mem:it∈fp
 obj:∀i h,tn i h->∀b∈fp,∃o,h.get? b=some o/\∀v,o.data≠.cell v
 keep:∀i h h',tn i h->(∀b∈fp,∀o,h.get? b=some o->h'.get? b=some o)->tn i h'
 item:∀(X:Cx),X.prog=P->X.w=w->X.K=K->X.calm=true->∀(i:Nat) (pins:Vq) (s:Shared) (σ:St) (H:Hp) (E:VZ),Inv X pins σ H s->(∀b∈fp,C3 X pins H b)->tn i s.heap->J.go i H ->
  wpAny (model P w) X.A (pyNext (.ref it)) (λr s1=>∃u,r=some u /\
   wpAny (model P w) X.A (letOwnedTupleGo tg (.ref it) u) (λ_ s2=>∃x H',Inv X pins σ H' s2/\RelV x u/\J.yld i H x H'/\tn (i+1) s2.heap/\∀b∈fp,H' b=none) E s1) E s
 done:∀(X:Cx),X.prog=P->X.w=w->X.K=K->X.calm=true->∀(i:Nat) (pins:Vq) (s:Shared) (σ:St) (H:Hp) (E:VZ),Inv X pins σ H s->(∀b∈fp,C3 X pins H b)->tn i s.heap->J.stop i H ->
  wpAny (model P w) X.A (pyNext (.ref it)) (λr s1=>r=none/\Inv X pins σ H s1) E s
 self:∀(A:Around) (i:Nat) (s:Shared) (Q:VZ) (E:VZ),tn i s.heap->Q (.ref it) s->wpAny (model P w) A (pyIter (.ref it)) Q E s
abbrev TI:=St->Hp->(It->Hp->Prop)->Prop
def PIE (X:Cx) (pins:Vq) (a:St) (tg:Expr) (R:It->Hp->Prop) (O:Value) (s2:Shared):Prop:=
 ∃(it:Addr) (fp:List Addr) (tn:Nat->Heap->Prop) (J:It) (H':Hp),O=.ref it/\Inv X pins a H' s2/\Turn X.prog X.w X.K tg J fp it tn/\tn 0 s2.heap/\(∀b∈fp,C3 X pins H' b)/\R J H'
def PI (X:Cx) (tg iter:Expr) (wi:TI):Prop:=
 ∀ (pins:Vq) (s:Shared) (a:St) (H:Hp) (R:It->Hp->Prop),Inv X pins a H s->wi a H R ->
  wpAny (model X.prog X.w) X.A (eval iter X.env) (λv s1=>wpAny (model X.prog X.w) X.A (pyIter v) (PIE X pins a tg R) X.xe s1) X.xe s
def lq (ho:s.heap.get? it=some o) (hc:o.cls=.type n) (hd:o.data=.fields vs) (hn:["enumerate","zip","dict_itemiterator","dict_reverseitemiterator","odict_iterator","itertools.zip_longest","itertools.pairwise"].contains n=false) (O:Q () s):wpAny M A (letOwnedTupleGo tg (.ref it) u) Q E s:=by
  unfold letOwnedTupleGo
  grind[PySem.wpAny_pure,PySem.wpAny_bind,wpAny_load]
noncomputable def Itl (K:Frag) (a:Addr):It:=
 ⟨λi H=>∃xs x,SqL K H a xs/\xs[i]?=some x,λi H x H'=>H'=H/\∀xs,SqL K H a xs->xs[i]?=some x,λi H=>∃xs,SqL K H a xs/\xs.length<=i⟩
noncomputable def Itt (K:Frag) (a:Addr):It:=
 ⟨λi H=>∃xs x,SqT K H a xs/\xs[i]?=some x,λi H x H'=>H'=H/\∀xs,SqT K H a xs->xs[i]?=some x,λi H=>∃xs,SqT K H a xs/\xs.length<=i⟩
noncomputable def Itr (lo:Int)(n:Nat):It:=⟨λi _=>i<n,λi H x H'=>H'=H/\x=.int (lo+i),λi _=>n<=i⟩
def uq {K}a it:Turn P w K tg (Itl K a) [it] it (λi h=>h.IsListIter it a i) where
 mem:=ZZ
 obj:=λi h st b O=>by
  have e:b=it:=by simpa using O
  subst e;obtain ⟨o,e,c,d⟩:=st;show ⟨o,e,λv z=>by rw[d]at z;cases z⟩
 keep:=λi h h' st k=>st.at λo e=>k it ZZ o e
 item:=by
  intro X hP hw hK hc i pins s f H E I hf st hg;subst hP hw hK;obtain ⟨xs,x,hq,hx⟩:=hg;obtain ⟨its,rv,p,hz⟩:=I.list hq;obtain ⟨u,hu,ru⟩:=rv.get hx;obtain ⟨f0,f1,f2,f3,f4,f5⟩:=hf it ZZ;refine wpAny_pyNext_list_item st p.isList (by simpa using hu) λh' a0 sb=>?_;have I1:=I.turned (t':=s.toks) (λb o O e=>(sb.2 b O).trans e) f0 f1 f3 f4 f5;obtain ⟨o,e,c,d⟩:=id a0;show ⟨u,rfl,lq e c d ZQ ⟨x,H,I1,ru,⟨rfl,λys hy=>by rw[I.list_inj hy hq];show hx⟩,a0,λb O=>(hf b O).1⟩⟩
 done:=by
  intro X hP hw hK hc i pins s f H E I hf st hg;subst hP hw hK;obtain ⟨xs,hq,hx⟩:=hg;obtain ⟨its,rv,p,hz⟩:=I.list hq;obtain ⟨f0,f1,f2,f3,f4,f5⟩:=hf it ZZ;have hl:=rv.length;show wpAny_pyNext_list_end (I.ok.hd hc) st p.isList (by simp;omega) λh' eb=>⟨rfl,I.turned (t':=s.toks) (λb o O e=>eb b o O e) f0 f1 f3 f4 f5⟩
 self:=λ_ _ _ _ _ st h=>wpAny_pyIter_listiter st h
def rO {K}a it:Turn P w K tg (Itt K a) [it] it (λi h=>h.IsTupleIter it a i) where
 mem:=ZZ
 obj:=λi h st b O=>by
  have e:b=it:=by simpa using O
  subst e;obtain ⟨o,e,c,d⟩:=st;show ⟨o,e,λv z=>by rw[d]at z;cases z⟩
 keep:=λi h h' st k=>st.at λo e=>k it ZZ o e
 item:=by
  intro X hP hw hK hc i pins s f H E I hf st hg;subst hP hw hK;obtain ⟨xs,x,hq,hx⟩:=hg;obtain ⟨its,rv,p,hz⟩:=I.tuple hq;obtain ⟨u,hu,ru⟩:=rv.get hx;obtain ⟨f0,f1,f2,f3,f4,f5⟩:=hf it ZZ;refine wpAny_pyNext_tuple_item st (p) (by simpa using hu) λh' a0 sb=>?_;have I1:=I.turned (t':=s.toks) (λb o O e=>(sb.2 b O).trans e) f0 f1 f3 f4 f5;obtain ⟨o,e,c,d⟩:=id a0;show ⟨u,rfl,lq e c d ZQ ⟨x,H,I1,ru,⟨rfl,λys hy=>by rw[I.tuple_inj hy hq];show hx⟩,a0,λb O=>(hf b O).1⟩⟩
 done:=by
  intro X hP hw hK hc i pins s f H E I hf st hg;subst hP hw hK;obtain ⟨xs,hq,hx⟩:=hg;obtain ⟨its,rv,p,hz⟩:=I.tuple hq;obtain ⟨f0,f1,f2,f3,f4,f5⟩:=hf it ZZ;have hl:=rv.length;show wpAny_pyNext_tuple_end (I.ok.hd hc) st (show s.heap.IsTuple a its.toArray from p) (by simp;omega) λh' eb=>⟨rfl,I.turned (t':=s.toks) (λb o O e=>eb b o O e) f0 f1 f3 f4 f5⟩
 self:=λ_ _ _ _ _ st h=>wpAny_pyIter_tupleiter st h
def rP {K}it lo n:Turn P w K tg (Itr lo n) [it] it (λi h=>IsRangeIter h it (lo+i*1) (n-i) 1) where
 mem:=ZZ
 obj:=λi h st b O=>by
  grind
 keep:=λi h h' st k=>k it ZZ _ st
 item:=by
  intro X hP hw hK hc i pins s a H E I hf st hg;subst hP hw hK;obtain ⟨f0,f1,f2,f3,f4,f5⟩:=hf it ZZ;have W:=Walks.range (prog:=X.prog) (w:=X.w) (I.ok.hd hc) it lo 1 n;refine W.item i s _ _ hg st λv h' tk hv a0 kk=>?_;obtain ⟨t,rfl⟩:=hv;have I1:Inv X pins a H { s with heap:=h',toks:=tk }:=I.turned (λb o O e=>kk b o (by simpa using O) e) f0 f1 f3 f4 f5;refine ⟨_,rfl,lq (n := "range_iterator") a0 rfl rfl ZQ ⟨.int _,H,I1,⟨t,?_⟩,⟨rfl,rfl⟩,a0,λb O=>(hf b O).1⟩⟩;rw[xA2]
 done:=by
  intro X hP hw hK hc i pins s a H E I hf st hg;obtain ⟨f0,f1,f2,f3,f4,f5⟩:=hf it ZZ;show wpAny_pyNext_range_end (I.ok.hd hc) st (by have:n<=i:=hg;omega) λh' eb=>⟨rfl,I.turned (λb o O e=>eb b o O e) f0 f1 f3 f4 f5⟩
 self:=λ_ _ _ _ _ st h=>wpAny_pyIter_rangeiter st h
def yI {a:St}{lo}(I:Inv X pins a H s) (h1:-2^62<=lo) (h2:lo<2^62) (h3:-2^62<=hi) (h4:hi<2^62) (q:R (Itr lo (hi-lo).toNat) H):wpAny (model X.prog X.w) X.A (pyIter (.ref s.heap.objs.size)) (PIE X pins a tg R) E { s with heap:=s.heap.push { cls:=.type "range",data:=.fields #[.int lo t,.int hi u,.int 1 v] },toks:=tk }:=by
 refine wpAny_pyIter_range (IsRange.new ..) (small_one h1 h2 h3 h4) ?_;have O:Inv X pins a H { s with heap:=s.heap.push { cls:=.type "range",data:=.fields #[.int lo t,.int hi u,.int 1 v] },toks:=tk }:=I.kept λb o e=>qA1 _ e;refine ⟨_,_,_,_,H,rfl,
  O.kept λb o e=>qA1 _ e,rP _ lo _,?_,λb hb=>?_,q⟩
 .have e1:lo+((0:Nat))*1=lo:=ZZ;have e2:(((hi-lo).toNat))-((0:Nat))=Builtin.Range.rangeSize lo hi 1:=by rw[rangeSize_one];split <;> omega
  rw[e1,e2];show qB5 _ rfl
 .have e:b=(s.heap.push { cls:=.type "range",data:=.fields #[.int lo t,.int hi u,.int 1 v] }).objs.size:=by simpa using hb
  subst e;show O.fpOk (qB3 _) (O.hok.fresh (qB3 _))
def Bo (ta:TA):TI:=λa H R=>ta a H λvs H1=>∃j:Int,vs = [.int j] /\ -(2^62)<=j/\j<2^62/\R (Itr 0 j.toNat) H1
def vw (hg:Gl X "range") (hm:X.mg "range" = none) (ha:PA X [a] ta) (hs:starEach [a] X.env = [(false,eval a X.env)]:=by rfl):PI X tg (.Call (.Name "range" p) [a] [] pos) (Bo ta):=by
 intro pins s b H R I h;refine Call_ (F0 I hg hm boot_range (qF6 (thn (ha pos pins s b H _ I h) λus s1 O=>?_) hs rfl));obtain ⟨vs,H1,I1,r1,q1⟩:=O;obtain ⟨j,e,q1,q2,q⟩:=q1;subst e;cases r1 with
 | cons r rr=>
  cases rr;obtain ⟨t,rfl⟩:=r;show call_range_1 (yI I1 ox ox q1 q2 (by simpa using q))
def Fx (wi:TI) (g:TG) (tb:TS):TS:=λD a H=>wi a H λJ H1=>∃W:Nat->Nat->St->Hp->Prop,(∃m,W 0 m a H1)/\∀i m a H,W i m a H ->
 (J.stop i H/\D.nx a H)\/(J.go i H/\∃N:St->Hp->Prop,(∀O H',N O H'->∃m',m'<m/\W (i+1) m' O H')/\∀x H',J.yld i H x H'->g x a H' λa0 H2=>tb { D with nx:=N,ct:=N,bk:=D.nx } a0 H2)
noncomputable def dr (fp:List Addr)(h:Heap):List (Addr×Obj):=fp.filterMap λb=>(h.get? b).map λo=>(b,o)
def W6 (O:b∈fp)(e:h.get? b=some o):(b,o)∈dr fp h:=List.mem_filterMap.mpr ⟨b,O,by rw[e];rfl⟩
def vR (O:p∈dr fp h):p.1∈fp/\h.get? p.1=some p.2:=by
 obtain ⟨b,hb,e⟩:=List.mem_filterMap.mp O;cases q:h.get? b <;> grind
def Inv.pinned {a:St}(I:Inv X pins a H s) (hf:∀b∈fp,C3 X pins H b) (ho:∀b∈fp,∃o,s.heap.get? b=some o/\∀v,o.data≠.cell v):Inv X (pins++dr fp s.heap) a H s:=
 I.pins_of λp hp=>(qF0.mp hp).elim (λz=>I.pin p (qD5 _ z)) λz=>by
  obtain ⟨hb,e⟩:=vR z;obtain ⟨f0,f1,f2,_⟩:=hf p.1 hb;obtain ⟨o,O,d⟩:=ho p.1 hb;rw[e]at O;cases O;show ⟨e,f0,f1,f2,d⟩
def Inv.unpinned {a:St}(I:Inv X (pins++pl) a H s):Inv X pins a H s:=I.pins_of λp O=>I.pin p (qD5 _ (qG6 _ O))
def Hl (hp:PassesOwn (model X.prog X.w) X.A X.env X.xe) (hc:X.calm=true) (hi:PI X tg iter wi) (hg:PG X tg g) (hb:PSs X body tb) (hs:∀x,foldedSetIterable iter X.env x=pure x:=by intro _;rfl):PS X (.For tg iter body [] pos) (Fx wi g tb):=by
 intro pins s a H D I h;refine wpAny_For (thn (hi pins s a H _ I h) λv s1 h1=>thn h1 λb6 s2 h2=>?_) hs;obtain ⟨it,fp,tn,J,H2,e,I2,T,b0,f2,W,⟨m0,w0⟩,turn⟩:=h2;subst e
 -- what stays true of the iterator's objects through the loop
 have stat:∀{H':Hp},(∀b∈fp,_=none)->∀b∈fp,C3 X pins H' b:=λhn b hb=>⟨hn b hb,(f2 b hb).2⟩;refine codeAny_forLoop_any (λn s'=>∃i a0 H',Inv X pins a0 H' s'/\tn i s'.heap/\(∀b∈fp,H' b=none)/\W i n a0 H') ?_ m0 ⟨0,a,H2,I2,b0,λb hb=>(f2 b hb).1,w0⟩;rintro n s3 ⟨i,a3,H3,I3,a7,a6,w3⟩;rcases turn i n a3 H3 w3 with ⟨stop,qn⟩|⟨go,N,hN,step⟩
 .refine qP2 hp (thn (T.done X rfl rfl rfl hc i pins s3 a3 H3 X.xe I3 (stat a6) a7 stop) λr s4 ⟨hr,I4⟩=>?_);subst hr;show qT0 ⟨a3,H3,I4,qn⟩
 .refine qP2 hp (thn (T.item X rfl rfl rfl hc i pins s3 a3 H3 X.xe I3 (stat a6) a7 go) λr s4 ⟨u,hr,h4⟩=>?_);subst hr;refine qP2 hp (thn h4 λ_ s5 a5=>?_);obtain ⟨x,H5,I5,r5,y5,a4,b5⟩:=a5;have b3:=I5.pinned (stat b5) (T.obj _ _ a4);refine qP2 hp (thn (hg _ s5 a3 H5 x u _ b3 r5 (step x H5 y5)) λ_ s6 ab=>?_);obtain ⟨b4,H6,I6,q6⟩:=ab;refine qP2 hp (thn (hb _ s6 b4 H6 _ I6 q6) λf s7 q7=>?_);have again:∀{O:St}{H7:Hp},Inv X (pins++dr fp s5.heap) O H7 s7->N O H7->∃m,m<n/\∃i a0 H',Inv X pins a0 H' s7/\tn i s7.heap/\(∀b∈fp,H' b=none)/\W i m a0 H':=λ{O H7} I7 n7=>by
   obtain ⟨m',hm,w7⟩:=hN O H7 n7;refine ⟨m',hm,i+1,O,H7,I7.unpinned,T.keep _ _ _ a4 λb hb o e=>(I7.pin (b,o) (qD5 _ (qD5 _ (W6 hb e)))).1,λb hb=>?_,w7⟩;obtain ⟨o,e,d⟩:=T.obj _ _ a4 b hb;show (I7.pin (b,o) (qD5 _ (qD5 _ (W6 hb e)))).2.1
  cases f with
  |next=>obtain ⟨O,H7,I7,n7⟩:=q7;show again I7 n7
  |cont=>obtain ⟨O,H7,I7,n7⟩:=q7;show again I7 n7
  |brk=>obtain ⟨O,H7,I7,q7⟩:=q7;show ⟨O,H7,I7.unpinned,q7⟩
  |ret v=>obtain ⟨x7,O,H7,I7,r7,q7⟩:=q7;show ⟨x7,O,H7,I7.unpinned,r7,q7⟩
abbrev R2:=V->V->Hp->VK->Prop
def OpR (X:Cx) (f:Value->Value->Sem Value) (r:R2):Prop:=
 ∀ (pins:Vq) (s:Shared) (a:St) (H:Hp) (x y:V) (v u:Value) (Q:VK),Inv X pins a H s->RelV x v->RelV y u->r x y H Q ->
  wpAny (model X.prog X.w) X.A (f v u) (EP X pins a Q) X.xe s
def UnR (X:Cx) (f:Value->Sem Value) (r:V->Hp->VK->Prop):Prop:=
 ∀ (pins:Vq) (s:Shared) (a:St) (H:Hp) (x:V) (v:Value) (Q:VK),Inv X pins a H s->RelV x v->r x H Q ->
  wpAny (model X.prog X.w) X.A (f v) (EP X pins a Q) X.xe s
def G7 (X:Cx) (f:Value) (r:List V->Hp->VK->Prop):Prop:=
 ∀ (pins:Vq) (s:Shared) (a:St) (H:Hp) (xs:List V) (us:Vy) (Q:VK),Inv X pins a H s->Vals xs us->r xs H Q ->
  wpAny (model X.prog X.w) X.A (call f us) (EP X pins a Q) X.xe s
def tOp (r:R2)(ta O:TE):TE:=λa H Q=>ta a H λx H1=>O a H1 λy H2=>r x y H2 Q
def tUn (r:V->Hp->VK->Prop)(ta:TE):TE:=λa H Q=>ta a H λx H1=>r x H1 Q
def rI (C:Int->Int->Prop)(g:Int->Int->V):R2:=λx y H Q=>∃i j,x=.int i/\y=.int j/\C i j/\Q (g i j) H
def rI0 (g:Int->Int->V):R2:=λx y H Q=>∃i j,x=.int i/\y=.int j/\Q (g i j) H
def rU (g:Int->V):V->Hp->VK->Prop:=λx H Q=>∃i,x=.int i/\Q (g i) H
def AJ (ha:PE X a ta) (hb:PE X b tb){c:St}{R:V->V->Hp->Prop}(I:Inv X pins c H s) (h:ta c H λx H1=>tb c H1 λy H2=>R x y H2){f:Value->Value->Sem Value}(hf:∀v u s2 x y H2,Inv X pins c H2 s2->RelV x v->RelV y u->R x y H2->wpAny (model X.prog X.w) X.A (f v u) Q X.xe s2):
  wpAny (model X.prog X.w) X.A (eval a X.env) (λv O=>wpAny (model X.prog X.w) X.A (eval b X.env) (λu a4=>wpAny (model X.prog X.w) X.A (f v u) Q X.xe a4) X.xe O) X.xe s:=by
 refine thn (ha pins s c H _ I h) λv s1 a0=>?_;obtain ⟨x,H1,I1,r1,q1⟩:=a0;refine thn (hb pins s1 c H1 _ I1 q1) λu s2 a3=>?_;obtain ⟨y,H2,I2,r2,q2⟩:=a3;show hf v u s2 x y H2 I2 r1 r2 q2
def Lj (ho:OpR X (binaryOp op) r) (ha:PE X a ta) (hb:PE X b tb):PE X (.BinOp a op b pos) (tOp r ta tb):=by
 intro pins s c H Q I h;show wpAny_BinOp (AJ ha hb I h λv u s2 x y H2 I2 O ry q=>ho pins s2 c H2 x y v u Q I2 O ry q)
def Li (ho:UnR X (unaryOp op) r) (ha:PE X a ta):PE X (.UnaryOp op a pos) (tUn r ta):=by
 intro pins s b H Q I h;show UnaryOp_ (thn (ha pins s b H _ I h) λv s1 O=>by obtain ⟨x,H1,I1,r1,q1⟩:=O;show ho pins s1 b H1 x v Q I1 r1 q1)
def opI {g:Int->Int->Int}(rule:∀ i j t u s (Q:VZ) (E:VZ),C i j->Q (.int (g i j) s.toks) { s with toks:=s.toks+1 }->wpAny (model X.prog X.w) X.A (f (.int i t) (.int j u)) Q E s):
  OpR X f (rI C λi j=>.int (g i j)):=by
 intro pins s a H x y v u Q I O ry h;obtain ⟨i,j,rfl,rfl,hc,q⟩:=h;obtain ⟨t,rfl⟩:=O;obtain ⟨t',rfl⟩:=ry;show rule i j t t' s _ _ hc ⟨.int _,H,I.tok _,⟨_,rfl⟩,q⟩
def HC {g:Int->Int->Int}(rule:∀ i j t u s (Q:VZ) (E:VZ),Q (.int (g i j) s.toks) { s with toks:=s.toks+1 }->wpAny (model X.prog X.w) X.A (f (.int i t) (.int j u)) Q E s):
  OpR X f (rI0 λi j=>.int (g i j)):=by
 intro pins s a H x y v u Q I O ry h;obtain ⟨i,j,rfl,rfl,q⟩:=h;obtain ⟨t,rfl⟩:=O;obtain ⟨t',rfl⟩:=ry;show rule i j t t' s _ _ ⟨.int _,H,I.tok _,⟨_,rfl⟩,q⟩
def ze {g:Int->Int->Bool}(rule:∀ i j t u s (Q:VZ) (E:VZ),Q (.bool (g i j)) s->wpAny (model X.prog X.w) X.A (f (.int i t) (.int j u)) Q E s):
  OpR X f (rI0 λi j=>.bl (g i j)):=by
 intro pins s a H x y v u Q I O ry h;obtain ⟨i,j,rfl,rfl,q⟩:=h;obtain ⟨t,rfl⟩:=O;obtain ⟨t',rfl⟩:=ry;show rule i j t t' s _ _ ⟨.bl _,H,I,rfl,q⟩
def L5 (i j:Int):Prop:=0<j/\j<1073741824
def dZ (i j:Int):Prop:=0<=j/\j<=1000000/\i.natAbs<2^64
def CMul (i j:Int):Prop:=(-(2^64)<i/\i<2^64)\/(-(2^64)<j/\j<2^64)
def CMul.ok (h:CMul i j):IntMulOk i j:=by
 rcases h with ⟨h1,h2⟩|⟨h1,h2⟩
 .show .of_left (intBits_le_64 h1 h2)
 .show .of_right (intBits_le_64 h1 h2)
def v8:OpR X (binaryOp .Add) (rI0 λi j=>.int (i+j)):=HC λ_ _ _ _ _ _ _ q=>add_int q
def bh:OpR X (binaryOp .Sub) (rI0 λi j=>.int (i-j)):=HC λ_ _ _ _ _ _ _ q=>sub_int q
def X4:OpR X (binaryOp .FloorDiv) (rI L5 λi j=>.int (i/j)):=opI λi j _ _ _ _ _ hc q=>by
 have O:=hc.1;have h2:=hc.2;show floordiv_int ox (by rw[qV6 i ox];show q) (.inl (PyProof.noPylong_small ox))
def B7:OpR X (binaryOp .Mod) (rI (λ_ j=>0<j) λi j=>.int (i%j)):=opI λi j _ _ _ _ _ hc q=>by
 show mod_int' ox (by rw[qV7 i ox];show q)
def CW:OpR X (binaryOp .Mod) (rI (λ_ j=>j≠0) λi j=>.int (i.fmod j)):=opI λ_ _ _ _ _ _ _ hc q=>mod_int' hc q
def vE:OpR X (binaryOp .Pow) (rI dZ λi j=>.int (i^j.toNat)):=opI λ_ _ _ _ _ _ _ hc q=>pow_int_small hc.1 hc.2.1 hc.2.2 q
def unI {g:Int->Int}(rule:∀ i t s (Q:VZ) (E:VZ),Q (.int (g i) s.toks) { s with toks:=s.toks+1 }->wpAny (model X.prog X.w) X.A (f (.int i t)) Q E s):
  UnR X f (rU λi=>.int (g i)):=by
 intro pins s a H x v Q I O h;obtain ⟨i,rfl,q⟩:=h;obtain ⟨t,rfl⟩:=O;show rule i t s _ _ ⟨.int _,H,I.tok _,⟨_,rfl⟩,q⟩
def cX:UnR X (unaryOp .USub) (rU λi=>.int (-i)):=unI λ_ _ _ _ _ q=>neg_int q
noncomputable def mf:V->V->Bool
 | .non,.non=>true | .non,.int _=>true | .int _,.non=>true | .non,.bl _=>true | .bl _,.non=>true | .non,.str _=>true | .str _,.non=>true
 | .int _,.int _=>true | .bl _,.bl _=>true | .str _,.str _=>true | .byt _,.byt _=>true
 | .int _,.str _=>true | .str _,.int _=>true | .bl _,.str _=>true | .str _,.bl _=>true
 |_,_=>false
def rEq:R2:=λx y H Q=>mf x y=true/\Q (.bl (decide (x=y))) H
def rNe:R2:=λx y H Q=>mf x y=true/\Q (.bl (!decide (x=y))) H
def rh:decide (V.int i=V.int j)=(i == j):=by
 rw[qK3];simp
def wX:decide (V.bl i=V.bl j)=(i == j):=by
 rw[qK3];simp
def rf:decide (V.str i=V.str j)=(i == j):=by
 rw[qK3];simp
def rm:decide (V.byt i=V.byt j)=(i.toList == j.toList):=by
 rw[qK3];cases i;cases j;simp
def k6 {a:St}(I:Inv X pins a H s) (q:Q (.bl k) H) (e:k=k'):EP X pins a Q (.bool k') s:=by
 subst e;show ⟨.bl k,H,I,rfl,q⟩
def F7:OpR X (compareOp .Eq) rEq:=by
 intro pins s a H x y v u Q I rx O h;obtain ⟨hs,q⟩:=h;cases x with
 | non=>
  cases rx;cases y with
  |non=>cases O;show PySem.EqNone.eq_none_none (k6 I q ZZ)
  |bl j=>cases O;show PySem.EqNone.eq_none_bool (k6 I q ZZ)
  |int j=>obtain ⟨t',rfl⟩:=O;show PySem.EqNone.eq_none_int (k6 I q ZZ)
  |str j=>obtain ⟨t',rfl⟩:=O;show PySem.EqNone.eq_none_str (k6 I q ZZ)
  |_=>show absurd (show false=true from hs) qC9
 | bl i=>
  cases rx;cases y with
  |non=>cases O;show PySem.EqNone.eq_bool_none (k6 I q ZZ)
  |bl j=>cases O;show eq_bool (k6 I q wX)
  |str j=>obtain ⟨t',rfl⟩:=O;show PySem.EqMixed.eq_bool_str (k6 I q ZZ)
  |_=>show absurd (show false=true from hs) qC9
 | int i=>
  obtain ⟨t,rfl⟩:=rx;cases y with
  |non=>cases O;show PySem.EqNone.eq_int_none (k6 I q ZZ)
  |int j=>obtain ⟨t',rfl⟩:=O;show eq_int (k6 I q rh)
  |str j=>obtain ⟨t',rfl⟩:=O;show PySem.EqMixed.eq_int_str (k6 I q ZZ)
  |_=>show absurd (show false=true from hs) qC9
 | str i=>
  obtain ⟨t,rfl⟩:=rx;cases y with
  |non=>cases O;show PySem.EqNone.eq_str_none (k6 I q ZZ)
  |bl j=>cases O;show PySem.EqMixed.eq_str_bool (k6 I q ZZ)
  |int j=>obtain ⟨t',rfl⟩:=O;show PySem.EqMixed.eq_str_int (k6 I q ZZ)
  |str j=>obtain ⟨t',rfl⟩:=O;show eq_str (k6 I q rf)
  |_=>show absurd (show false=true from hs) qC9
 | byt i=>
  obtain ⟨t,rfl⟩:=rx;cases y with
  |byt j=>obtain ⟨t',rfl⟩:=O;show PySem.W.eq_bytes (k6 I q rm)
  |_=>show absurd (show false=true from hs) qC9
 |_=>cases y <;> show absurd (show false=true from hs) qC9
def sx:OpR X (compareOp .NotEq) rNe:=by
 intro pins s a H x y v u Q I rx O h;obtain ⟨hs,q⟩:=h;cases x with
 | non=>
  cases rx;cases y with
  |non=>cases O;show PySem.EqNone.ne_none_none (k6 I q ZZ)
  |bl j=>cases O;show PySem.EqNone.ne_none_bool (k6 I q ZZ)
  |int j=>obtain ⟨t',rfl⟩:=O;show PySem.EqNone.ne_none_int (k6 I q ZZ)
  |str j=>obtain ⟨t',rfl⟩:=O;show PySem.EqNone.ne_none_str (k6 I q ZZ)
  |_=>show absurd (show false=true from hs) qC9
 | bl i=>
  cases rx;cases y with
  |non=>cases O;show PySem.EqNone.ne_bool_none (k6 I q ZZ)
  |bl j=>cases O;show ne_bool (k6 I q (congrArg not wX))
  |str j=>obtain ⟨t',rfl⟩:=O;show PySem.EqMixed.ne_bool_str (k6 I q ZZ)
  |_=>show absurd (show false=true from hs) qC9
 | int i=>
  obtain ⟨t,rfl⟩:=rx;cases y with
  |non=>cases O;show PySem.EqNone.ne_int_none (k6 I q ZZ)
  |int j=>obtain ⟨t',rfl⟩:=O;show ne_int (k6 I q (congrArg not rh))
  |str j=>obtain ⟨t',rfl⟩:=O;show PySem.EqMixed.ne_int_str (k6 I q ZZ)
  |_=>show absurd (show false=true from hs) qC9
 | str i=>
  obtain ⟨t,rfl⟩:=rx;cases y with
  |non=>cases O;show PySem.EqNone.ne_str_none (k6 I q ZZ)
  |bl j=>cases O;show PySem.EqMixed.ne_str_bool (k6 I q ZZ)
  |int j=>obtain ⟨t',rfl⟩:=O;show PySem.EqMixed.ne_str_int (k6 I q ZZ)
  |str j=>obtain ⟨t',rfl⟩:=O;show ne_str (k6 I q (congrArg not rf))
  |_=>show absurd (show false=true from hs) qC9
 | byt i=>
  obtain ⟨t,rfl⟩:=rx;cases y with
  |byt j=>obtain ⟨t',rfl⟩:=O;show PySem.W.ne_bytes (k6 I q (congrArg not rm))
  |_=>show absurd (show false=true from hs) qC9
 |_=>cases y <;> show absurd (show false=true from hs) qC9
def bV:OpR X (compareOp .Lt) (rI0 λi j=>.bl (decide (i<j))):=ze λ_ _ _ _ _ _ _ q=>lt_int q
def Ln:OpR X (compareOp .LtE) (rI0 λi j=>.bl (decide (i<=j))):=ze λ_ _ _ _ _ _ _ q=>le_int q
def W4:OpR X (compareOp .Gt) (rI0 λi j=>.bl (decide (j<i))):=ze λ_ _ _ _ _ _ _ q=>gt_int q
def K4:OpR X (compareOp .Is) (λx y H Q=>y=.non/\Q (.bl (decide (x=.non))) H):=by
 intro pins s a H x y v u Q I rx O h;obtain ⟨rfl,q⟩:=h;cases O;refine is_none_gen (k6 I q ?_);cases x <;> first
  | (rfl)
  | (obtain ⟨t,rfl⟩:=rx;rfl)
def bi:OpR X (compareOp .IsNot) (λx y H Q=>y=.non/\Q (.bl (!decide (x=.non))) H):=by
 intro pins s a H x y v u Q I rx O h;obtain ⟨rfl,q⟩:=h;cases O;refine isnot_none_gen (k6 I q ?_);cases x <;> first
  | (rfl)
  | (obtain ⟨t,rfl⟩:=rx;rfl)
def vT b (h:op≠.In:=by decide) (h2:op≠.NotIn:=by decide):behindInMarks op b=false:=by
 have O:(op == CmpOp.In)=false:=ox;have e2:(op == CmpOp.NotIn)=false:=ox;cases b <;> simp [behindInMarks,O,e2]
def CS (ho:OpR X (compareOp op) r) (ha:PE X a ta) (hb:PE X b tb) (hm:behindInMarks op b=false):PE X (.Compare a [op] [b] pos) (tOp r ta tb):=by
 intro pins s c H Q I h;show wpAny_Compare1 (AJ ha hb I h λv u s2 x y H2 I2 O ry q=>ho pins s2 c H2 x y v u Q I2 O ry q) hm
def rR (t:TE):TT:=λa H Q=>t a H λx H'=>∃k,x=.bl k/\Q k H'
def CJ (ho:OpR X (compareOp op) r) (ha:PE X a ta) (O:PE X b tb) (hm:behindInMarks op b=false):PT X (.Compare a [op] [b] pos) (rR (tOp r ta tb)):=by
 intro pins s d H Q I h;refine wpAny_isTrue_Compare1 (thn (ha pins s d H _ I h) λv s1 ⟨x,H1,I1,r1,q1⟩=>thn (O pins s1 d H1 _ I1 q1) λu s2 ⟨y,H2,I2,r2,q2⟩=>
  thn (ho pins s2 d H2 x y v u _ I2 r1 r2 q2) λc s3 ⟨z,H3,I3,r3,k,e,q3⟩=>?_) hm
 subst e;cases r3;show qO6 ⟨H3,I3,q3⟩
def Fz (r r':R2) (ta tb tc:TE):TE:=λa H Q=>ta a H λx H1=>tb a H1 λy H2=>r x y H2 λz O=>∃k,z=.bl k /\
 (if k=true then tc a O λw' H4=>r' y w' H4 Q else Q (.bl false) O)
def yV (ho:OpR X (compareOp op) r) (a0:OpR X (compareOp op') r') (ha:PE X a ta) (hb:PE X b tb) (hc:PE X c tc) (hm:lastMarks [op,op'] [b,c]=false:=by with_unfolding_all rfl):PT X (.Compare a [op,op'] [b,c] pos) (rR (Fz r r' ta tb tc)):=by
 intro pins s f H Q I h;refine isTrue_chain (thn (ha pins s f H _ I h) λv s1 ⟨x,H1,I1,r1,q1⟩=>test_link (thn (hb pins s1 f H1 _ I1 q1) λu s2 ⟨y,H2,I2,r2,q2⟩=>
  thn (ho pins s2 f H2 x y v u _ I2 r1 r2 q2) λd s3 ⟨z,H3,I3,r3,k,e,q3⟩=>?_)) hm
 subst e;cases r3;refine qO6 ?_;cases k with
 | false=>
  obtain ⟨k',e',q'⟩:=q3;cases e';show ite_ff ⟨H3,I3,q'⟩
 | true=>
  refine ite_tt (test_last (thn (hc pins s3 f H3 _ I3 q3) λw' s4 ⟨z',H4,I4,r4,q4⟩=>thn (a0 pins s4 f H4 y z' u w' _ I4 r2 r4 q4) λd' s5 O=>?_));obtain ⟨z2,H5,I5,r5,k2,e2,q5⟩:=O;subst e2;cases r5;show qO6 ⟨H5,I5,q5⟩
def br:sizeLine<2^63:=ox
def vals1 (r:Vals [x] us):∃u,us = [u]/\RelV x u:=by
 cases r with
 |cons O r2=>cases r2;show ⟨_,rfl,O⟩
def vals2 (r:Vals [x,y] us):∃u O,us = [u,O]/\RelV x u/\RelV y O:=by
 cases r with
 | cons r1 r2=>
  cases r2 with
  |cons r3 r4=>cases r4;show ⟨_,_,rfl,r1,r3⟩
def xm (hc:X.calm=true):G7 X (.builtin "max") (λxs H Q=>∃i j,xs = [.int i,.int j]/\Q (.int (if j>i then j else i)) H):=by
 intro pins s a H xs us Q I r h;obtain ⟨i,j,rfl,q⟩:=h;obtain ⟨u,w',rfl,⟨t,rfl⟩,⟨t',rfl⟩⟩:=vals2 r;refine max_two_ints (I.ok.hd hc) λh' tk k=>⟨_,H,I.kept k,?_,q⟩;by_cases O:j>i
 .rw[qA2 O,qA2 O];show ⟨_,rfl⟩
 .rw[qA8 O,qA8 O];show ⟨_,rfl⟩
def kP:G7 X (.type "int") (λxs H Q=>(∃i,xs = [.int i]/\Q (.int i) H)\/∃k,xs = [.bl k]/\Q (.int (if k then 1 else 0)) H):=by
 intro pins s a H xs us Q I r h;rcases h with ⟨i,rfl,q⟩|⟨k,rfl,q⟩
 .obtain ⟨u,rfl,t,rfl⟩:=vals1 r;show call_int_int ⟨.int i,H,I,⟨_,rfl⟩,q⟩
 .obtain ⟨u,rfl,O⟩:=vals1 r;cases O;show call_int_bool ⟨.int _,H,I.tok _,⟨_,rfl⟩,q⟩
structure ObjM (h:Heap) (x dx C:Addr) (mA:Vv):Prop where
 obj:h.get? x=some (PySem.W.instObj C dx)
 ns:h.Ns1 dx mA
 ne:dx≠x
def wu {h:Heap}(n:h.Ns1 dx mA):∃od,h.get? dx=some od/\∀name,PySem.W.lookIn name od=some (mA name):=by
 obtain ⟨o,es,ep,ho,hd,hk,_,hm⟩:=n;refine ⟨o,ho,λname=>?_⟩;have e:=hm name;unfold nsFind findBy at e;rw[<- Array.find?_toList]at e;unfold PySem.W.lookIn;rw[hd];dsimp
 split
 .grind
 .rename_i q
  have a:es.toList.any (·.refKey)=false:=by
   rw[qI7];intro y hy;obtain ⟨z,t,O⟩:=hk y (qT1.mp hy);simp [DictEntry.refKey,O]
  grind
def ObjM.look (I:ObjM h x dx C mA):∃od,PySem.W.InstAt h x (PySem.W.instObj C dx) C (some od)/\∀name,PySem.W.lookIn name od=some (mA name):=
 let ⟨od,ho,hl⟩:=wu I.ns
 ⟨od,⟨I.obj,rfl,rfl,ho⟩,hl⟩
def DR (hok:HOk P w H h) (e:H a=some (.ins C dx fs)):∃mA,ObjM h a dx C mA/\(∀f,RelO (fs.lookup f) (mA f))/\PySem.Within mA (fs.map (·.1))/\fs.length<=1000/\H dx=some (.own a):=by
 obtain ⟨d,z,ne,O,mA,n,r,q⟩:=(hok a _ e);show ⟨mA,⟨O,n,ne⟩,r,q,z,d⟩
structure Cls (K:Frag) (C:Addr):Prop where
 pg:PySem.W.plainGet K C Str.empty=true
 hd:PySem.W.hasDictIn K C=true
 po:PySem.W.plainOver K C=true
 sa:PySem.W.findIn K (.ref C) "__setattr__" = some (some (.builtin "object.__setattr__"))
def Cls.get {K}(c:Cls K C)f:PySem.W.plainGet K C f=true:=c.pg
section
variable {X:Cx}{pins:Vq}{σ:St}{H:Hp}{s:Shared}{A:Around}{E:VZ}{Q:VZ}{c:Value}{b:Bool}
inductive S8 (K:Frag) (H:Hp):V->Value->Prop where
 |non:S8 K H .non (.type "NoneType")
 |bl (x:Bool):S8 K H (.bl x) (.type "bool")
 |int (i:Int):S8 K H (.int i) (.type "int")
 |str (x:Str):S8 K H (.str x) (.type "str")
 |flt (x:UInt64):S8 K H (.flt x) (.type "float")
 |lst {a:Addr}{xs:List V}(e:H a=some (.lst xs)):S8 K H (.ref a) (.type "list")
 |frz {a:Addr}{o:Obj}{xs:List V}(e:H a=some (.frz o (.lst xs))):S8 K H (.ref a) (.type "list")
 |tup {a:Addr}{xs:List V}(e:H a=some (.tup xs)):S8 K H (.ref a) (.type "tuple")
 |dK {a:Addr}{kvs:List (Key×V)}(e:H a=some (.dK kvs)):S8 K H (.ref a) (.type "dict")
 |dT {a:Addr}{kvs:List (List Key×V)}(e:H a=some (.dT kvs)):S8 K H (.ref a) (.type "dict")
 | ins {a C dx:Addr}{fs:List (Str×V)}(e:H a=some (.ins C dx fs)) (cl:Cls K C) (ha:PySem.W.findIn K (.ref C) "__class__" = some (some (.builtin "object.__class__")))
   (hn:PySem.W.specialIn K (.builtin "object.__class__") "__get__" = some (some (.builtin "getset_descriptor.__get__"))) (htk:PySem.W.takesIn K (.builtin "object.__class__")=some true)
   (hm:PySem.W.mroIn K C (.type "object")=some true):S8 K H (.ref a) (.ref C)
def wG (I:Inv X pins σ H s) (rx:RelV x u) (ty:S8 X.K H x t) (e:PySem.W.kitOne X.K t c=some b) (h:∀tk,Q (.bool b) { s with toks:=tk }):
  wpAny (model X.prog X.w) A (call (.builtin "isinstance") [u,c]) Q E s:=by
 cases ty with
 |non=>cases show u=Value.none from rx;show qG5 PySem.W.kitx_none I.kIn True.intro e (λz=>nomatch z) h
 |bl y=>cases show u=_ from rx;show qG5 PySem.W.kitx_bool I.kIn True.intro e (λz=>nomatch z) h
 |int i=>obtain ⟨t,q⟩:=(rx);cases q;show qG5 PySem.W.kitx_int I.kIn True.intro e (λz=>nomatch z) h
 |str y=>obtain ⟨t,q⟩:=(rx);cases q;show qG5 PySem.W.kitx_str I.kIn True.intro e (λz=>nomatch z) h
 |flt y=>obtain ⟨t,q⟩:=(rx);cases q;show qG5 PySem.W.kitx_float I.kIn True.intro e (λz=>nomatch z) h
 | @lst a xs ea=>
  cases show u=_ from rx
  obtain ⟨_,_,n,_,h1⟩:=(I.hok a _ ea);show qG5 PySem.W.kitx_list I.kIn ⟨_,h1,rfl⟩ e (λz=>nomatch z) h
 | @frz a ob xs ea=>
  cases show u=_ from rx
  obtain ⟨_,_,_,n,_,h1⟩:=(I.hok a _ ea);show qG5 PySem.W.kitx_list I.kIn ⟨_,h1,rfl⟩ e (λz=>nomatch z) h
 | @tup a xs ea=>
  cases show u=_ from rx
  obtain ⟨_,_,_,p⟩:=(I.hok a _ ea);obtain ⟨o,h1,h2,_⟩:=p;show qG5 PySem.W.kitx_tuple I.kIn ⟨o,h1,h2⟩ e (λz=>nomatch z) h
 | @dK a kvs ea=>
  cases show u=_ from rx
  obtain ⟨_,_,vs,_,p⟩:=(I.hok a _ ea);obtain ⟨o,es,ep,h1,h2,_⟩:=p;show qG5 PySem.W.kitx_dict I.kIn ⟨o,h1,h2.1⟩ e (λz=>nomatch z) h
 | @dT a kvs ea=>
  cases show u=_ from rx
  obtain ⟨_,_,xs,_,o,es,ep,h1,h2,_⟩:=(I.hok a _ ea);show qG5 PySem.W.kitx_dict I.kIn ⟨o,h1,h2.1⟩ e (λz=>nomatch z) h
 | @ins a C dx fs ea cl ha hn htk hm=>
  cases show u=_ from rx
  obtain ⟨mA,O,_⟩:=DR I.hok ea;obtain ⟨od,J,_⟩:=O.look;show qG5 (PySem.W.kitx_own (cl.get _) cl.hd ha hn htk hm) I.kIn J e (λz=>nomatch z) h
end
structure Room (k:Nat) (A:Around):Prop where
 hd:A.handled=none
 dp:A.depth+3*k+5<recursionLimit
 un:A.units+16*k+200<cLine
def Room.mono (r:Room k A)(h:j<=k):Room j A:=⟨r.hd,by have:=r.dp;omega,by have:=r.un;omega⟩
def Room.deeper (r:Room (k+1) A) env:Room k (A.deeper env):=
 ⟨r.hd,by have:=r.dp;change A.depth+1+3*k+5<_;omega,by have:=r.un;change A.units+3+16*k+200<_;omega⟩
def Room.in1 (r:Room (k+1) A):Room k A.in1:=
 ⟨r.hd,by have:=r.dp;omega,by have:=r.un;omega⟩
def Room.depth (r:Room k A):A.depth<recursionLimit:=by have:=r.dp;omega
def Room.units (r:Room k A):A.units+64<cLine:=by have:=r.un;omega
def tNil:TA:=λ_ H Q=>Q [] H
def bJ (ta:TE)(O:TA):TA:=λa H Q=>ta a H λx H1=>O a H1 λxs H2=>Q (x::xs) H2
def pa_nil:PA X [] tNil:=λ_ _ _ _ H Q I h=>qV9 ⟨[],H,I,.nil,h⟩
def eJ (ha:PE X e te) (hr:PA X es t) (hs:starEach (e::es) X.env=(false,eval e X.env)::starEach es X.env:=by rfl):PA X (e::es) (bJ te t):=by
 intro pos pins s a H Q I h;rw[hs];refine qU8 (thn (ha pins s a H _ I h) λu s1 O=>?_);obtain ⟨x,H1,I1,r1,q1⟩:=O;show thn (hr pos pins s1 a H1 _ I1 q1) λus s2 a0=>by obtain ⟨xs,H2,I2,r2,q2⟩:=a0;show ⟨x::xs,H2,I2,.cons r1 r2,q2⟩
def xY (t:TA):TE:=λa H Q=>t a H λxs H1=>xs.length<=sizeLine/\∀p,H1 p=none->Q (.ref p) (upd H1 p (.tup xs))
def Fw (t:TA):TE:=λa H Q=>t a H λxs H1=>xs.length<=sizeLine/\∀p,H1 p=none->Q (.ref p) (upd H1 p (.lst xs))
def vx {x1}(h:PA X es t):PE X (.Tuple es x1 pos) (xY t):=by
 intro pins s a H Q I hq;refine wpAny_Tuple_spliced (thn (h pos pins s a H _ I hq) λus s1 ⟨xs,H1,I1,r,z,q⟩=>⟨by rw[<- r.length];show z,?_⟩);have O:=I1.hok.fresh (qB3 _);refine ⟨.ref _,_,I1.laid (λb u e=>qA1 _ e) (qB3 _) ?_,rfl,q _ O⟩;show ⟨z,us,r,⟨_,qB5 _ rfl,rfl,_,rfl⟩⟩
def Hy (h:PA X es t):PE X (.List es pos) (Fw t):=by
 intro pins s a H Q I hq;refine wpAny_List_spliced (thn (h pos pins s a H _ I hq) λus s1 ⟨xs,H1,I1,r,z,q⟩=>⟨by rw[<- r.length];show z,?_⟩);have O:=I1.hok.fresh (qB3 _);refine ⟨.ref _,_,I1.laid (λb u e=>qA1 _ e) (qB3 _) ?_,rfl,q _ O⟩;show ⟨z,us,0,r,qB5 _ rfl⟩
abbrev Sp:=List V->Hp->VK->XK->Prop
abbrev CXT:=List Env->Hp->Shared->XK->Value->Shared->Prop
structure tZ (P:Program) (w:World) (K:Frag) (mg:Vv) (base:Heap) (A:Around) (outer:List Env) (s:Shared) (H:Hp):Prop where
 frames:A.frames=some outer
 mod:Mod K mg base
 bs:∀b o,base.get? b=some o->s.heap.get? b=some o/\H b=none
 bsz:base.objs.size<=s.heap.objs.size
 funs:s.heap.FunFrames base outer
 frf:∀b∈frs outer,H b=none
 hok:HOk P w H s.heap
 bare:AllBare s.gens
 tab:∀p∈lamT,H p.1=some (.tbl p.2)
def CE (outer:List Env) (P:Program) (w:World) (H:Hp) (s:Shared) (Q:VK) (u:Value) (s':Shared):Prop:=
 ∃v H',s'.os=s.os/\AllBare s'.gens/\Un (frs outer) [] H H' s.heap s'.heap/\HOk P w H' s'.heap/\RelV v u/\Q v H'
def CR (CX:CXT) (outer:List Env) (P:Program) (w:World) (H:Hp) (s:Shared) (Q:VK) (E:XK) (r:Result) (s':Shared):Prop:=
 match r with
 | .ok (.ret u)=>CE outer P w H s Q u s'
 | .ok _=>False
 | .error e=>CX outer H s E e s'
structure FnOk (P:Program) (w:World) (K:Frag) (mg:Vv) (base:Heap) (CX:CXT) (k:Nat) (f:Addr) (fd:FuncData) (ps:Vp) (sp:Sp):Prop where
 len:∀vs H Q E,sp vs H Q E->vs.length=ps.length
 run:∀(A:Around) (outer:List Env) (s:Shared) (H:Hp) (args:Args) (us:Vy) (vs:List V) (Q:VK) (E:XK),Room k A->tZ P w K mg base A outer s H->BindsTo s fd args (ps.zip us)->Vals vs us->sp vs H Q E ->
  codeAny (model P w) A (.call (.ref f) args) (CR CX outer P w H s Q E) s
def FnOk.imp {K}(F:FnOk P w K mg base CX k f fd ps sp) (h:∀vs H Q E,sp' vs H Q E->sp vs H Q E):FnOk P w K mg base CX k f fd ps sp':=
 ⟨λvs H Q E q=>F.len vs H Q E (h _ _ _ _ q),λA outer s H args us vs Q E hr O hb hv hs=>F.run A outer s H args us vs Q E hr O hb hv (h _ _ _ _ hs)⟩
def Inv.env0 {a:St}(I:Inv X pins a H s):tZ X.prog X.w X.K X.mg X.base X.A X.stack s H:=
 ⟨I.ok.frames,I.ok.mod,I.bs,qD3 I.ok.bsz I.sz,I.stack,I.stkFree,I.hok,I.bare,I.tab⟩
def Inv.after {a:St}(I:Inv X pins a H s) (h:CE X.stack X.prog X.w H s Q u s'):EP X pins a Q u s':=by
 obtain ⟨v,H',os,bare,un,hok,r,q⟩:=h;obtain ⟨hh,g,d,t,O⟩:=s';obtain rfl:=os;show ⟨v,H',I.call (g':=g) (t':=t) un hok bare (λb z=>absurd z ZZ),r,q⟩
def lg (sp:Sp)(dvs:List V)(E:XK)(t:TA):TE:=λa H Q=>t a H λvs H1=>sp (vs++dvs) H1 Q E
def Binds (K:Frag) (fd:FuncData) (ps:Vp) (ds:Vy):Prop:=
 ∀(s:Shared) (us:Vy),K.In s.heap->(us++ds).length=ps.length->BindsTo s fd ⟨us,[]⟩ (ps.zip (us++ds))
def Binds.all {K}(h:∀us,us.length=ps.length->bindArgs fd ⟨us,[]⟩=pure (ps.zip us)):Binds K fd ps []:=λs us _ O=>by
 rw[qG0]at O ⊢;show .of_eq (h us O)
def oQ (CX:CXT)(X:Cx)(E:XK):Prop:=∀(pins:Vq)(a:St)(H:Hp)(s:Shared)(e:Value)(s':Shared),Inv X pins a H s->CX X.stack H s E e s'->X.xe e s'
section
variable {X:Cx}{CX:CXT}{k:Nat}{f C:Addr}{fd:FuncData}{ps:Vp}{sp:Sp}{dvs:List V}{ds:Vy}{E:XK}{x m:Str}{p pos apos:Pos}{e o:Expr}{es:Vo}{ta:TE}{t:TA}
def uW {a:St}(F:FnOk X.prog X.w X.K X.mg X.base CX k f fd ps sp) (hr:Room k X.A) (hb:Binds X.K fd ps ds) (hd:Vals dvs ds) (hx:oQ CX X E) (I:Inv X pins a H s) (r:Vals vs us) (h:sp (vs++dvs) H Q E):wpAny (model X.prog X.w) X.A (call (.ref f) us) (EP X pins a Q) X.xe s:=by
 have r2:=r.append hd;have hl:(us++ds).length=ps.length:=by rw[<- r2.length];show F.len _ _ _ _ h
 refine wpAny_call (qT2 (F.run X.A _ s H _ _ _ Q E hr I.env0 (hb s us I.kIn hl) r2 h) λr s' O=>?_);cases r with
 |error e=>show hx pins a H s e s' I O
 | ok fl=>
  cases fl with
  |ret u=>show I.after O
  |next=>show False.elim O
  |brk=>show False.elim O
  |cont=>show False.elim O
def je (F:FnOk X.prog X.w X.K X.mg X.base CX k f fd ps sp) (hr:Room k X.A) (hg:Gl X x) (hm:X.mg x=some (.ref f)) (hk:PySem.W.keepIn X.K (.ref f)=true) (hb:Binds X.K fd ps ds) (hd:Vals dvs ds) (hx:oQ CX X E)
  (ha:PA X (e::es) t) (a0:(x == ("__debug__" : Str))=false:=by decide) (he:starEach (e::es) X.env=(false,eval e X.env)::starEach es X.env:=by rfl) (O:(backTo pos (starEach es X.env)).any (·.1)=false:=by rfl) :
  PE X (.Call (.Name x p) (e::es) [] pos) (lg sp dvs E t):=by
 intro pins s a H Q I h;refine qN7 (qD I hg hm ?_ a0);refine PySem.W.callWith_K I.ok.mod.kin hk (thn (ha pos pins s a H _ I h) λus s1 ⟨vs,H1,I1,r,q⟩=>⟨I1.kIn,?_⟩) he O;show uW F hr hb hd hx I1 r q
structure Mk (K:Frag) (C f:Addr):Prop where
 makes:PySem.W.makesIn K C=true
 init:PySem.W.findIn K (.ref C) "__init__" = some (some (.ref f))
 fn:PySem.W.isFn K (.ref f)=true
 kp:PySem.W.keepIn K (.ref C)=true
end
def PK (X:Cx) (O:List Keyword) (t:TA):Prop:=
 ∀(pos:Pos) (pins:Vq) (s:Shared) (a:St) (H:Hp) (Q:List V->Hp->Prop),Inv X pins a H s->t a H Q->wpAny (model X.prog X.w) X.A (evalAll ((backToKw pos (keywordEach O X.env)).map (·.2))) (AP X pins a Q) X.xe s
def Hr:PK X [] tNil:=λ_ _ _ _ H Q I h=>wpAny_evalAll_nil ⟨[],H,I,.nil,h⟩
def qg (ha:PE X e te) (hr:PK X kws t):PK X (⟨nm,e,kpos⟩::kws) (bJ te t):=by
 intro pos pins s a H Q I h;refine qU9 (qA0 (thn (ha pins s a H _ I h) λu s1 ⟨x,H1,I1,r1,q1⟩=>qA0 (qQ0 (qN2 ?_))));show thn (hr pos pins s1 a H1 _ I1 q1) λus s2 O=>by obtain ⟨xs,H2,I2,r2,q2⟩:=O;show ⟨x::xs,H2,I2,.cons r1 r2,q2⟩
structure e8 (N P:Vp) (sc:Scope):Prop where
 kind:sc.kind=.function
 co:sc.isCoroutine=false
 gen:sc.isGenerator=false
 nd:N.Nodup
 pre:N.take P.length=P
 par:∀x∈P,sc.names.lookup x=some .local\/sc.names.lookup x=some .cell
 nofree:∀y∈sc.names,y.2≠.free
def xr {kindOf}:∀{binds:List (Str×Value)}{m:Vv},(∀v,(x,v)∉binds)->bindL kindOf binds m x=m x:=by
 intro binds
 induction binds with
 |nil=>intro m _;rfl
 | cons p r O=>
  unfold bindL
  grind
def xu {kindOf}:∀{binds:List (Str×Value)}{m:Vv},(∀v,(x,v)∉binds)->bindC kindOf binds m x=m x:=by
 intro binds
 induction binds with
 |nil=>intro m _;rfl
 | cons p r O=>
  unfold bindC
  grind
def xt {kindOf}:∀{P:Vp}{vs:Vy}{i:Nat}{m:Vv},P.Nodup->P[i]?=some x->vs[i]?=some v->kindOf x=some .local ->
  bindL kindOf (P.zip vs) m x=some v:=by
 intro P
 induction P with
 |nil=>intro vs i m _ h _ _;cases h
 | cons p P ih=>
  intro vs i m nd h1 O hk;cases vs with
  |nil=>cases O
  | cons w vs=>
   change bindL _ (_::P.zip vs) m x=_;unfold bindL;cases i with
   | zero=>
    cases h1;cases O;rw[xr λv hv=>(qT3.mp nd).1 (qZ7 hv).1,qA2 hk];simp
   |succ i=>show ih (qT3.mp nd).2 h1 O hk
def xv {kindOf}:∀{P:Vp}{vs:Vy}{i:Nat}{m:Vv},P.Nodup->P[i]?=some x->vs[i]?=some v->kindOf x≠some .local ->
  bindC kindOf (P.zip vs) m x=some v:=by
 intro P
 induction P with
 |nil=>intro vs i m _ h _ _;cases h
 | cons p P ih=>
  intro vs i m nd h1 O hk;cases vs with
  |nil=>cases O
  | cons w vs=>
   change bindC _ (_::P.zip vs) m x=_;unfold bindC;cases i with
   | zero=>
    cases h1;cases O;rw[xu λv hv=>(qT3.mp nd).1 (qZ7 hv).1,qA8 hk];simp
   |succ i=>show ih (qT3.mp nd).2 h1 O hk
noncomputable def start (N:Vp)(vs:List V):St:=vs.map some++List.replicate (N.length-vs.length) none
noncomputable def aT (CX:CXT) (P:Program) (w:World) (K:Frag) (mg:Vv) (base:Heap) (N:Vp) (qual:Str) (scope:Scope) (f:Addr) (cd:Value) (A:Around) (outer:List Env) (s:Shared) (H:Hp) (E:XK):Cx where
 prog:=P
 w:=w
 K:=K
 mg:=mg
 base:=base
 A:=A.deeper (envOfC qual scope s.heap.objs.size f cd)
 N:=N
 s₀:=s
 H₀:=H
 env:=envOfC qual scope s.heap.objs.size f cd
 outer:=outer
 stack:=envOfC qual scope s.heap.objs.size f cd::outer
 ex:=[]
 calm:=true
 fn:=λ_=>true
 pn:=[]
 xe:=λe s'=>wpAny (model P w) (A.deeper (envOfC qual scope s.heap.objs.size f cd)) (leaving (envOfC qual scope s.heap.objs.size f cd) e) (λ_ O=>CX outer H s E e O) (λe' O=>CX outer H s E e' O) s'
def oA {sc:Scope}(h:sc.names.lookup x=some .cell):∃c,(cellsFrom n sc.names []).lookup x=some c:=by
 have q:=PySem.W.cellsFrom_some _ n [] (.inl h);show Option.isSome_iff_exists.mp q
def wJ {K}(S:e8 N ps scope) (hd:A.handled=none) (O:tZ P w K mg base A outer s H) (hl:vs.length=ps.length) (r:Vals vs us) (x:InCallC s s.heap.objs.size (bindL (envOfC qual scope s.heap.objs.size f cd).kindOf (ps.zip us) λ_=>none) (cellsFrom (s.heap.objs.size+1) scope.names []) (bindC (envOfC qual scope s.heap.objs.size f cd).kindOf (ps.zip us) λ_=>none) s1):
  Inv (aT CX P w K mg base N qual scope f cd A outer s H E) [] (start N vs) H s1:=by
 have a4:ps.length<=N.length:=by have:=congrArg List.length S.pre;rw[qI0]at this;omega
 obtain ⟨h1,tk,rfl,hk⟩:=x.done;have a0:∀b,b∉_:=λb z=>absurd (show b∈([]:List Addr) from z) ZZ;refine ⟨⟨O.mod,S.kind,rfl,rfl,qB3 _,λy z c h1 h2=>?_,λy hy=>?_,λy c _ h=>?_,λ_=>hd,Around.frames_deeper O.frames,.inr ⟨rfl,rfl⟩,λb z=>absurd z (a0 b),O.bs,O.bsz,λb _ _=>a0 b,λb z=>absurd z (a0 b),O.funs,O.frf,O.tab⟩,
  rfl,O.bare,Un.kept hk,⟨_,x.toInCall.ns,λi y v h1 h2 h3=>?_⟩,λy c h=>⟨_,x.cell y c h⟩,O.hok.fresh (qB3 _),λy c h=>?_,λp hp=>absurd (show p∈([]) from hp) ZZ,O.hok.kept hk,?_⟩
 .show name_of_addr x.apart (qF8 h1) (qF8 h2)
 .rcases hy with hy|hy
  .show oA hy
  .show absurd rfl (S.nofree _ (qF8 hy))
 .show qM0 (x.above y c (qF8 h))
 .have hi:i<vs.length:=by
   grind[start]
  have ha:vs[i]?=some v:=by
   unfold start at h2;rw[qE8 (by simpa using hi),qA9]at h2;cases e:vs[i]? with
   |none=>rw[e]at h2;cases h2
   |some a=>rw[e]at h2;cases h2;rfl
  obtain ⟨u,hu,rv⟩:=r.get ha;have hp:ps[i]?=some y:=by
   rw[<- S.pre,qX7 ox];show h1
  have a3:ps.Nodup:=by rw[<- S.pre];show S.nd.sublist (List.take_sublist ..)
  refine ⟨u,rv,?_⟩;rcases S.par y (qD7 hp) with k|k
  .show .inl ⟨k,xt a3 hp hu k⟩
  .obtain ⟨c,e⟩:=oA (n:=s.heap.objs.size+1) k;refine .inr ⟨.inl k,c,e,?_⟩;have q:=x.cell y c e;rw[xv a3 hp hu (by change scope.names.lookup y≠_;rw[k];decide)]at q;show q
 .show O.hok.fresh (qM0 (x.above y c (qF8 h)))
 .unfold start
  change _=N.length;rw[qB8,qA4,qS6];omega
def Bq {K:Frag}{kV}(lk:K.lookup f=some ⟨oc,od,.func (PySem.W.fnOf name qual params body scope dV kV doc pm an cdv ct),osl⟩) (a6:PySem.W.codeIn K cdv qual=true) (S:e8 N ps scope) (len:∀vs H Q E,sp vs H Q E->vs.length=ps.length) (a0:∀(A:Around) (outer:List Env) s H (vs:List V) Q E,Room k (A.deeper (envOfC qual scope s.heap.objs.size f cdv))->sp vs H Q E ->
   ∃t,PSs (aT CX P w K mg base N qual scope f cdv A outer s H E) body t/\t { nx:=λ_ H'=>Q .non H',rt:=Q } (start N vs) H):
  FnOk P w K mg base CX (k+1) f (PySem.W.fnOf name qual params body scope dV kV doc pm an cdv ct) ps sp:=by
 refine ⟨len,λA outer s H args us vs Q E hr e0 hb r a4=>?_⟩;have hl:=len _ _ _ _ a4;have KX:=e0.mod.kin.keeps λb o e=>(e0.bs b o e).1;have lim:=e0.mod.nolimit.keeps λb o e=>(e0.bs b o e).1;have a3:∀y∈ps.zip us,scope.names.lookup y.1=_\/scope.names.lookup y.1=_/\((cellsFrom (s.heap.objs.size+1) _ []).lookup y.1).isSome=true:=λa5 hy=>by
  obtain ⟨n,v⟩:=a5;rcases S.par n (qZ7 hy).1 with q|q
  .show .inl q
  .show .inr ⟨q,PySem.W.cellsFrom_some _ _ _ (.inl q)⟩
 refine codeAny_call_function hr.depth (KX _ _ lk) rfl S.co S.gen rfl (PySem.W.codeRec_of KX a6) (hb _ _ _ _ ?_);refine wpAny_newFunctionEnv_cells S.kind a3 λenv he s1 x=>?_;subst he;refine ⟨lim.keeps x.toInCall.keep,codeAny_func ?_⟩;obtain ⟨t,ht,hq⟩:=a0 A outer s H vs Q E (hr.deeper _) a4;have I:Inv (aT CX P w K mg base N qual scope f cdv A outer s H E) [] _ H s1:=wJ S hr.hd e0 hl r x;refine qO5 (ht [] s1 _ H _ I hq) (λfl s' hs=>?_) λe s' hs=>hs;have fin:∀{O:St}{H':Hp}{v:V}{u:Value},Inv (aT CX P w K mg base N qual scope f cdv A outer s H E) [] O H' s'->_->_->CE outer P w H s Q u s':=
  λ{O H' v u} J rv q=>⟨v,H',J.os,J.bare,J.base,J.hok,rv,q⟩
 cases fl with
 | ret u=>
  obtain ⟨v,O,H',J,rv,q⟩:=hs;show fin J rv q
 | next=>
  obtain ⟨O,H',J,q⟩:=hs;show fin (v:=V.non) J rfl q
 | brk=>
  obtain ⟨_,_,_,q⟩:=hs;show False.elim q
 | cont=>
  obtain ⟨_,_,_,q⟩:=hs;show False.elim q
def tCB (r:List V->Hp->VK->Prop)(t:TA):TE:=λa H Q=>t a H λvs H1=>r vs H1 Q
def zc {X}{x}{p pos}{e}{es:Vo}{t}{id}{r:List V->Hp->VK->Prop}(hc:G7 X (.builtin id) r) (hg:Gl X x) (hm:X.mg x=none) (hv:bootBuiltins x=some (.builtin id)) (ha:PA X (e::es) t) (hn:x ≠ "__name__" := by decide) (a3:(x == ("__debug__" : Str))=false:=by decide) (he:starEach (e::es) X.env=(false,eval e X.env)::starEach es X.env:=by rfl) (a0:(backTo pos (starEach es X.env)).any (·.1)=false:=by rfl):PE X (.Call (.Name x p) (e::es) [] pos) (tCB r t):=by
 intro pins s a H Q I h;refine qN7 (F0 I hg hm hv ?_ hn a3);show qT4 (thn (ha pos pins s a H _ I h) λus s1 O=>by obtain ⟨vs,H1,I1,r1,q1⟩:=O;show hc pins s1 a H1 vs us Q I1 r1 q1) he a0
def vA {X}{x}{p pos}{e}{es:Vo}{t}{T}{r:List V->Hp->VK->Prop}(hc:G7 X (.type T) r) (hg:Gl X x) (hm:X.mg x=none) (hv:bootBuiltins x=some (.type T)) (ha:PA X (e::es) t) (hn:x ≠ "__name__" := by decide) (a3:(x == ("__debug__" : Str))=false:=by decide) (he:starEach (e::es) X.env=(false,eval e X.env)::starEach es X.env:=by rfl) (a0:(backTo pos (starEach es X.env)).any (·.1)=false:=by rfl):PE X (.Call (.Name x p) (e::es) [] pos) (tCB r t):=by
 intro pins s a H Q I h;refine qN7 (F0 I hg hm hv ?_ hn a3);show qF6 (thn (ha pos pins s a H _ I h) λus s1 O=>by obtain ⟨vs,H1,I1,r1,q1⟩:=O;show hc pins s1 a H1 vs us Q I1 r1 q1) he a0
end L2
namespace HT
open PySem PyProof.Rows
noncomputable def lexLt:List Int->List Int->Bool
 | [],[]=>false
 | [],_::_=>true
 |_::_,[]=>false
 |x::xs,y::ys=>if x=y then lexLt xs ys else decide (x<y)
section
open PySem.SeqAt
open PySem.AutoSeq1 (wpAny_loadPart')
open PySem.MeetsSeq PySem.MeetsSeq2 PySem.MeetsSeq3
end
def cat_tup (ht:IsTup s.heap t vs.toArray) (hb:IsTup s.heap b ws.toArray) (hv:vs ≠ []) (h1:ws = []->Q (.ref t) s) (h2:ws ≠ []->Q (.ref s.heap.objs.size) { s with heap:=s.heap.push { cls:=.type "tuple",data:=.seq (vs++ws).toArray } }) (hsz:vs.length+ws.length<=sizeLine):wpAny (model prog w) A (binaryOp .Add (.ref t) (.ref b)) Q E s:=by
 obtain ⟨⟨cls,dd,data,sl⟩,ho,hc,n,hd⟩:=id ht;obtain ⟨⟨a6,a0,data2,a3⟩,O,a5,n2,a4⟩:=id hb;subst hc hd a5 a4;have e:vs.toArray++ws.toArray=(vs++ws).toArray:=ZZ;by_cases hw:ws = []
 .show concat_meets ⟨_,ho,rfl⟩ ⟨_,O,rfl⟩ qX8 seq_tuple_add qR9 qR4 (qQ6 ..)
   (tuple_addW1 t b _ _ n n2 dd a0 sl a3 (by simpa using hv) (by simp [hw])) ⟨ho,O,h1 hw⟩
 .refine concat_meets ⟨_,ho,rfl⟩ ⟨_,O,rfl⟩ qX8 seq_tuple_add qR9 qR4 (qQ6 ..)
   (tuple_addW2 t b _ _ n n2 dd a0 sl a3 (by simpa using hv) (by simpa using hw) ox) ⟨ho,O,?_⟩
  rw[e];show h2 hw
noncomputable def sIx (n d:Nat):Option Int->Nat
 |none=>d
 |some v=>if v<0 then (v+(n:Int)).toNat else min v.toNat n
def sIx_none n d:sIx n d none=d:=rfl
def sIx_nat (n d k:Nat):sIx n d (some k)=min k n:=by
 change (if k<0 then (k+(n:Int)).toNat else min _ n)=_;rw[qA8 ox,qD8]
def rq (v:Int) (n d:Nat):(if v<0 then max (v+n) 0 else min v n)=((sIx n d (some v))):=by
 change _=((if v<0 then _ else _:Nat):Int);by_cases O:v<0
 .omega
 .omega
theorem tV (lo hi:Vx) (n:Nat):Builtin.Slice.sliceAdjust lo hi 1 n=(((sIx n 0 lo):Int),((sIx n n hi):Int)):=by
 have O:¬ 1<0:=ox;unfold Builtin.Slice.sliceAdjust;refine Prod.ext ?_ ?_
 .cases lo with
  |none=>rfl
  |some v=>show rq v n 0
 .cases hi with
  |none=>rfl
  |some v=>show rq v n n
theorem sr (i j:Nat):Builtin.Slice.slicePlaces i j 1=j-i:=by
 unfold Builtin.Slice.slicePlaces;have O:1>0:=ox
 split <;> omega
def gD (p:IsPart v o) (h:Q o s):wpAny (model prog w) A (Builtin.Slice.slicePartIndex v) Q E s:=by
 cases p with
 |none=>show slicePart_none h
 |int i t=>show slicePart_int h
def Y2 {lo:Vx}{n:Nat}(hs:s.heap.IsSliceOf sl vl vu .none) (pl:IsPart vl lo) (pu:IsPart vu hi) (h:Q (((sIx n 0 lo)),1,sIx n n hi-sIx n 0 lo) s):wpAny (model prog w) A (Builtin.Slice.sliceApplied (.ref sl) (pure n)) Q E s:=by
 obtain ⟨os,a0,a3,O⟩:=id hs;refine qA0 (qA0 (qO0 a0 O rfl (qA0 (qO0 a0 O rfl (qA0 (qO0 a0 O rfl (qN2 ?_)))))));refine qA0 (slicePart_none ?_);rw[qA8 ZQ];refine qA0 (gD pl (qA0 (gD pu (qA0 (qN2 ?_)))))
 grind[tV,sr,PySem.wpAny_pure]
def yZ (xs:VQ) (i k:Nat):((List.range k).filterMap λ(m:Nat)=>xs[(i+(m:Int)*1).toNat]?).toArray=((xs.toList.drop i).take k).toArray:=by
 have e:(λ(m:Nat)=>xs[(i+(m:Int)*1).toNat]?)=λm=>xs[i+m]?:=by
  funext m
  have:(i+(m:Int)*1).toNat=i+m:=ox
  rw[this]
 rw[e]
 have:=pick_run xs i k
 rw[List.filterMap_map]at this;have O:(_∘_)=λm=>xs[i+m]?:=rfl;rw[O]at this;rw[this]
def getItem_tuple_cut {lo:Vx}(ht:IsTup s.heap t items) (hs:s.heap.IsSliceOf sl vl vu .none) (pl:IsPart vl lo) (pu:IsPart vu hi) (hw:¬ (sIx items.size 0 lo=0/\sIx items.size items.size hi=items.size)) (h:Q (.ref s.heap.objs.size) { s with heap:=s.heap.push { cls:=.type "tuple",data:=.seq ((items.toList.drop (sIx items.size 0 lo)).take (sIx items.size items.size hi-sIx items.size 0 lo)).toArray } }) (hsz:items.size<=sizeLine):wpAny (model prog w) A (getItem (.ref t) (.ref sl)) Q E s:=by
 have O:sizeOk (.seq ((items.toList.drop (sIx items.size 0 lo)).take (sIx items.size items.size hi-sIx items.size 0 lo)).toArray):=by
  change _<=sizeLine;rw[qC1,qI0,qX9,qJ1];omega
 obtain ⟨os,a4,a0,a6⟩:=id hs;have a3:s.TypeIs (.ref sl) "slice" := ⟨os,a4,a0⟩;unfold getItem
 try with_reducible refine qN6 ?_
 refine qA0 (wpAny_sequenceKey ht.typeIs ZQ ?_);refine qA0 (qO3 ht.typeIs qI5
  (qO8 qI5 ht.typeIs entry_tuple_getitem ?_ (args_tuple_getitem ..)))
 change wpAny _ _ (Builtin.Tuple.tupleItemsOf _>>=_) _ _ s;refine qA0 (tupleItemsOf_ ht ?_);refine qA0 (qY0 a3 ?_);refine qA0 (Y2 hs pl pu ?_);have a5:¬ (((sIx items.size 0 lo):Int) == 0&&(1:Int) == 1&&sIx items.size items.size hi-sIx items.size 0 lo == items.size)=true:=by
  omega
 change wpAny _ _ (if (((sIx items.size 0 lo:Nat):Int) == 0&&(1:Int) == 1&&(sIx items.size items.size hi-sIx items.size 0 lo) == items.size)=true then _ else _) _ _ s;rw[qA8 a5,yZ]
 first
  |show qA0 (m:=Builtin.Tuple.tupleExact _) (qO4 (qN2 ⟨_,rfl,qN2 h⟩) O)
  |show qA0 (m:=Builtin.Tuple.tupleExact _) (qO4 (qA0 (qN2 (qN2 ⟨_,rfl,qN2 h⟩))) O)
  |show qA0 (qA0 (m:=Builtin.Tuple.tupleExact _) (qO4 (qN2 (qN2 ⟨_,rfl,qN2 h⟩)) O))
  |show qA0 (qA0 (m:=Builtin.Tuple.tupleExact _) (qO4 (qN2 ⟨_,rfl,qN2 h⟩) O))
end HT
namespace L2
open PySem PySem.Spec PyProof.Rows
abbrev TO:=St->Hp->(Option Int->Hp->Prop)->Prop
def PO (X:Cx) (e:Option Expr) (t:TO):Prop:=
 ∀ (pins:Vq) (s:Shared) (a:St) (H:Hp) (Q:Option Int->Hp->Prop),Inv X pins a H s->t a H Q ->
  wpAny (model X.prog X.w) X.A (evalPart e X.env) (λu s'=>∃o H',Inv X pins a H' s'/\IsPart u o/\Q o H') X.xe s
def tNoPart:TO:=λ_ H Q=>Q none H
def AT (t:TE):TO:=λa H Q=>t a H λx H1=>∃i,x=.int i/\Q (some i) H1
def po_none:PO X none tNoPart:=by
 intro pins s a H Q I h;show qN2 ⟨none,H,I,.none,h⟩
def CL (h:PE X e te):PO X (some e) (AT te):=by
 intro pins s a H Q I hw;refine thn (h pins s a H _ I hw) λu s1 O=>?_;obtain ⟨x,H1,I1,r1,q1⟩:=O;obtain ⟨i,rfl,q⟩:=q1;obtain ⟨t,rfl⟩:=r1;show ⟨_,H1,I1,.int i t,q⟩
def SlR (X:Cx) (r:V->Option Int->Option Int->Hp->VK->Prop):Prop:=
 ∀ (pins:Vq) (s:Shared) (a:St) (H:Hp) (x:V) (v O vu:Value) (lo hi:Vx) (sl:Addr) (Q:VK),Inv X pins a H s->RelV x v->s.heap.IsSliceOf sl O vu .none->IsPart O lo->IsPart vu hi->r x lo hi H Q ->
  ∃T id,typeLookup (.type T) "__getitem__" = pure (some (.builtin id))/\s.TypeIs v T/\wpAny (model X.prog X.w) X.A (getItem v (.ref sl)) (EP X pins a Q) X.xe s
def SlR.or (h:SlR X r) (h':SlR X r'):SlR X (λx lo hi H Q=>r x lo hi H Q\/r' x lo hi H Q):=by
 intro pins s a H x v vl vu lo hi sl Q I O hs pl pu q;rcases q with q|q
 .show h pins s a H x v vl vu lo hi sl Q I O hs pl pu q
 .show h' pins s a H x v vl vu lo hi sl Q I O hs pl pu q
def tSl (r:V->Option Int->Option Int->Hp->VK->Prop)(te:TE)(tl th:TO):TE:=λa H Q=>te a H λx H1=>tl a H1 λl H2=>th a H2 λu O=>r x l u O Q
def mN {lo}(hr:SlR X r) (he:PE X e te) (hl:PO X lo tl) (hu:PO X hi th):PE X (.Subscript e (.Slice lo hi none p2) pos) (tSl r te tl th):=by
 intro pins s a H Q I h;refine Subscript_ (thn (he pins s a H _ I h) λv s1 O=>?_);obtain ⟨x,H1,I1,r1,q1⟩:=O;refine wpAny_Slice (thn (hl pins s1 a H1 _ I1 q1) λvl s2 ⟨l,H2,I2,pl,q2⟩=>thn (hu pins s2 a H2 _ I2 q2) λvu s3 a0=>?_);obtain ⟨u,H3,I3,pu,q3⟩:=a0;refine qN2 ?_;have I4:Inv X pins a H3 { s3 with heap:=s3.heap.push { cls:=.type "slice",data:=.fields #[vl,vu,.none] } }:=I3.kept λb ob q=>qA1 _ q;obtain ⟨T,id,hT,ht,hg⟩:=hr pins { s3 with heap:=_ } a H3 x v vl vu l u _ Q I4 r1 (Heap.IsSliceOf.new ..) pl pu q3;show tail_any ht hT hg (by with_unfolding_all rfl)
noncomputable def gi (xs:List V)(lo hi:Vx):List V:=(xs.drop (HT.sIx xs.length 0 lo)).take (HT.sIx xs.length xs.length hi-HT.sIx xs.length 0 lo)
def fw xs lo hi:(gi xs lo hi).length<=xs.length:=by
 unfold gi;rw[qI0,qX9];omega
def GF (K:Frag):V->Option Int->Option Int->Hp->VK->Prop:=λx lo hi H Q=>∃a xs,x=.ref a/\SqT K H a xs /\
 ¬ (HT.sIx xs.length 0 lo=0/\HT.sIx xs.length xs.length hi=xs.length)/\∀p,H p=none->Q (.ref p) (upd H p (.tup (gi xs lo hi)))
def FG:SlR X (GF X.K):=by
 intro pins s c H x v vl vu lo hi sl Q I rx hs pl pu h;obtain ⟨a,xs,rfl,hx,hw,q⟩:=h;cases rx;obtain ⟨its,r,O,hz⟩:=I.tuple hx;have hlen:its.toArray.size=xs.length:=by show r.length.symm
 refine ⟨"tuple",_,PyProof.Rows.slot_tuple_getitem.lookup,O.typeIs,?_⟩;refine HT.getItem_tuple_cut O hs pl pu (by rw[hlen];show hw) ?_ (by rw[hlen];show hz);rw[hlen];refine ⟨.ref _,_,I.laid (o:=_) (λb ob q=>qA1 _ q) (qB3 _) ?_,rfl,q _ (I.hok.fresh (qB3 _))⟩;show ⟨qD3 (fw xs lo hi) hz,_,(r.drop _).take _,IsTup.new ..⟩
def Bc (K:Frag):R2:=λx y H Q=>∃a b xs ys,x=.ref a/\y=.ref b/\SqT K H a xs/\SqT K H b ys/\xs ≠ []/\xs.length+ys.length<=sizeLine /\
 (ys = []->Q (.ref a) H)/\(ys ≠ []->∀p,H p=none->Q (.ref p) (upd H p (.tup (xs++ys))))
def Vals.nil_iff (r:Vals xs us):us = []↔xs = []:=by
 cases r with
 |nil=>simp
 |cons _ _=>simp
def CY:OpR X (binaryOp .Add) (Bc X.K):=by
 intro pins s c H x y v u Q I rx ry h;obtain ⟨a,b,xs,ys,rfl,rfl,ha,hb,hx,hz,q1,q2⟩:=h;cases rx;cases ry;obtain ⟨its,r1,p1,_⟩:=I.tuple ha;obtain ⟨a0,O,p2,_⟩:=I.tuple hb;refine HT.cat_tup p1 p2 (λz=>hx (r1.nil_iff.mp z)) (λz=>⟨.ref a,H,I,rfl,q1 (O.nil_iff.mp z)⟩) (λz=>?_) (by rw[<- r1.length,<- O.length];show hz);refine ⟨.ref _,_,I.laid (o:=_) (λb ob q=>qA1 _ q) (qB3 _) ?_,rfl,q2 (λw=>z (O.nil_iff.mpr w)) _ (I.hok.fresh (qB3 _))⟩;show ⟨by rw[qB8];show hz,_,r1.append O,IsTup.new ..⟩
noncomputable def ixN (n:Nat) (i:Int):Option Nat:=if 0<=i then (if i<n then some i.toNat else none) else if -(n:Int)<=i then some (i+n).toNat else none
noncomputable def atI {a:Type}(xs:List a) (i:Int):Option a:=(ixN xs.length i).bind λj=>xs[j]?
def qJ (h:ixN n i=some j):seqIndex? i n=some j/\j<n /\ -n<=i/\i<n:=by
 unfold ixN at h;by_cases h0:0<=i
 .rw [qA2 h0]at h
  by_cases O:i<n
  .rw [qA2 O]at h
   have e:=Option.some.inj h;show ⟨by rw[seqIndex_of h0 O,e],ox,ox,O⟩
  .rw[qA8 O]at h;cases h
 .rw [qA8 h0]at h
  by_cases O:-n<=i
  .rw [qA2 O]at h
   have e:=Option.some.inj h;show ⟨by rw[seqIndex_neg ox O,e],ox,O,ox⟩
  .rw[qA8 O]at h;cases h
def jH {xs:List a}(h:atI xs i=some v):∃j,seqIndex? i xs.length=some j/\xs[j]?=some v/\j<xs.length /\ -xs.length<=i/\i<xs.length:=by
 unfold atI at h;cases e:ixN _ i with
 |none=>rw[e]at h;cases h
 | some j=>
  rw[e]at h;obtain ⟨O,h2,h3,h4⟩:=qJ e;show ⟨j,O,h,h2,h3,h4⟩
def jK (b:Expr):Prop:=∀o i,subscripted b false o i=operate [o,i] (getItem o i)
def IxR (X:Cx) (r:R2):Prop:=
 ∀ (value slice:Expr) (pins:Vq) (s:Shared) (a:St) (H:Hp) (x y:V) (v u:Value) (Q:VK),Inv X pins a H s->RelV x v->RelV y u->r x y H Q ->
  subscripted slice false v u=operate [v,u] (getItem v u)->wpAny (model X.prog X.w) X.A (subscriptTail value slice v u) (EP X pins a Q) X.xe s
def MtR (X:Cx) (O:String) (r:V->List V->Hp->VK->Prop):Prop:=
 ∀ (pins:Vq) (s:Shared) (a:St) (H:Hp) (x:V) (xs:List V) (v:Value) (us:Vy) (Q:VK),Inv X pins a H s->RelV x v->Vals xs us->r x xs H Q ->
  wpAny (model X.prog X.w) X.A (call (.builtin O) (v::us)) (EP X pins a Q) X.xe s
def IxR.or (h:IxR X r) (h':IxR X r'):IxR X (λx y H Q=>r x y H Q\/r' x y H Q):=by
 intro value slice pins s a H x y v u Q I O ry q hs;rcases q with q|q
 .show h value slice pins s a H x y v u Q I O ry q hs
 .show h' value slice pins s a H x y v u Q I O ry q hs
def Bj (hr:IxR X r) (ha:PE X a ta) (hb:PE X b tb) (hs:jK b):PE X (.Subscript a b pos) (tOp r ta tb):=by
 intro pins s c H Q I h;show Subscript_ (AJ ha hb I h λv u s2 x y H2 I2 O ry q=>hr a b pins s2 c H2 x y v u Q I2 O ry q (hs ..))
def GN (K:Frag):R2:=λx y H Q=>∃p xs i v,x=.ref p/\y=.int i/\SqL K H p xs/\atI xs i=some v/\Q v H
def GM (K:Frag):R2:=λx y H Q=>∃p xs i v,x=.ref p/\y=.int i/\SqT K H p xs/\atI xs i=some v/\Q v H
def rIxS:R2:=λx y H Q=>∃z i c,x=.str z/\y=.int i/\z.length<=sizeLine/\atI z.cps.toList i=some c/\Q (.str ⟨#[c]⟩) H
def ix_list:IxR X (GN X.K):=by
 intro value slice pins s a H x y v u Q I rx ry h hs;obtain ⟨p,xs,i,z,rfl,rfl,hq,he,q⟩:=h;cases rx;obtain ⟨t,rfl⟩:=ry;obtain ⟨its,r,pl,hz⟩:=I.list hq;obtain ⟨j,O,h2,h3,h4,h5⟩:=jH he;obtain ⟨w,ew,a0⟩:=r.get h2;have hl:=r.length;have hn:=br;have fin:EP X pins a Q w s:=⟨z,H,I,a0,q⟩;by_cases h0:0<=i
 .have hj:i.toNat=j:=by
   rw[seqIndex_of h0 h5]at O;show Option.some.inj O
  show item_listR pl.isList h0 ox (by rw[hj];simpa using ew) fin hs
 .have hj:(i+its.toArray.size).toNat=j:=by
   rw[seqIndex_neg ox h4]at O;rw[qC1,<- hl];show Option.some.inj O
  show subscriptTail_builtinR pl.isList.typeIs slot_list_getitem.lookup
   (wpAny_getItem_list_neg pl.isList ox (by rw[qC1] <;> omega) ox (by rw[hj];simpa using ew) ⟨rfl,fin⟩) hs
def ix_tup:IxR X (GM X.K):=by
 intro value slice pins s a H x y v u Q I rx ry h hs;obtain ⟨p,xs,i,z,rfl,rfl,hq,he,q⟩:=h;cases rx;obtain ⟨t,rfl⟩:=ry;obtain ⟨its,r,pl,hz⟩:=I.tuple hq;obtain ⟨j,h1,h2,h3,h4,h5⟩:=jH he;obtain ⟨w,ew,O⟩:=r.get h2;have hl:=r.length;have hn:=br;have fin:EP X pins a Q w s:=⟨z,H,I,O,q⟩;show subscriptTail_builtinR pl.typeIs slot_tuple_getitem.lookup
  (getItem_tuple (j:=j) pl ox ox (by grind) (by simpa using ew) ⟨rfl,fin⟩) hs
def Id:IxR X rIxS:=by
 intro value slice pins s a H x y v u Q I rx ry h hs;obtain ⟨z,i,c,rfl,rfl,hz,he,q⟩:=h;obtain ⟨t,rfl⟩:=rx;obtain ⟨t',rfl⟩:=ry;obtain ⟨j,O,h2,h3,h4,h5⟩:=jH he;have hl:z.cps.toList.length=z.length:=by simp [Str.length]
 rw[hl]at O h4 h5;have hn:=br;show tail_any (typeIs_str s z t) slot_str_getitem.lookup (getItem_str (by
  omega) (by rw[O];simpa using h2) ⟨.str ⟨#[c]⟩,H,I.tok _,⟨_,rfl⟩,q⟩) hs
def rIx (K:Frag):R2:=λx y H Q=>GN K x y H Q\/GM K x y H Q\/rIxS x y H Q
def wC:IxR X (rIx X.K):=ix_list.or (ix_tup.or Id)
def sL (its:Vy) n j u:Obj.mapSeq (·.setIfInBounds j u) { cls:=.type "list",data:=.seq its.toArray n }={ cls:=.type "list",data:=.seq (its.set j u).toArray n }:=by
 simp [Obj.mapSeq]
def Inv.lst {a:St}(I:Inv X pins a H s) (h:H p=some (.lst xs)):
  ∃(its:Vy) (n:Nat),Vals xs its/\s.heap.get? p=some { cls:=.type "list",data:=.seq its.toArray n }/\xs.length<=sizeLine:=by
 obtain ⟨z,its,n,r,e⟩:=I.hok p _ h;show ⟨its,n,r,e,z⟩
def Inv.lstUpd {a:St}{its:Vy}(I:Inv X pins a H s) (h:H p=some (.lst xs)) (ho:s.heap.get? p=some { cls:=.type "list",data:=.seq its.toArray n }) (O:f { cls:=.type "list",data:=.seq its.toArray n }={ cls:=.type "list",data:=.seq its'.toArray n' }) (r:Vals ys its') (hz:ys.length<=sizeLine) t:
  Inv X pins a (upd H p (.lst ys)) { s with heap:=s.heap.update p f,toks:=t }:=by
 have e:(s.heap.update p f).get? p=some { cls:=.type "list",data:=.seq its'.toArray n' }:=by
  rw[qI3 f ho (by rw[O] <;> rfl),O]
 refine I.write (e:=p) (by rw[h];trivial) (.inl rfl) (λb u hb q=>(qK4 _ _ (Ne.symm hb)).trans q) ⟨_,e⟩ ?_;show ⟨hz,its',n',r,e⟩
def rSetL:V->V->V->Hp->(Hp->Prop)->Prop:=λo i v H Q=>∃p xs k j,o=.ref p/\i=.int k/\H p=some (.lst xs)/\ixN xs.length k=some j/\Q (upd H p (.lst (xs.set j v)))
def set_list:KH X rSetL:=by
 intro pins s a H o i v ov iv u Q I ro ri rv h;obtain ⟨p,xs,k,j,rfl,rfl,hp,hj,q⟩:=h;cases ro;obtain ⟨t,rfl⟩:=ri;obtain ⟨its,n,r,ho,hz⟩:=I.lst hp;obtain ⟨O,h2,h3,h4⟩:=qJ hj;have hl:=r.length;have hn:=br;have I':=
  I.lstUpd hp ho (sL its n j u) (r.set rv j) (by rw[qF1];show hz) s.toks
 by_cases h0:0<=k
 .have hk:k.toNat=j:=by
   rw[seqIndex_of h0 h4]at O;show Option.some.inj O
  show PySem.W.ki_setAt ho h0 ox (by rw[qC1,<- hl];show h4) (by rw[hk];show ⟨_,I',q⟩)
 .have hk:(k+its.toArray.size).toNat=j:=by
   rw[seqIndex_neg ox h3]at O;rw[qC1,<- hl];show Option.some.inj O
  show PySem.W.ki_setBack ho ox (by rw[qC1,<- hl];show h3) ox (by rw[hk];show ⟨_,I',q⟩)
def lV (lo hi:Vx) n:(sliceBounds lo hi none n).1=((HT.sIx n 0 lo))/\(sliceBounds lo hi none n).2.1=((HT.sIx n n hi))/\(sliceBounds lo hi none n).2.2=1:=by
 refine ⟨?_,?_,rfl⟩
 .cases lo with
  |none=>simp [sliceBounds,HT.sIx]
  | some i=>
   simp [sliceBounds,HT.sIx,show 1>0 by decide];by_cases h:i<0
   .simp [h] <;> omega
   .simp [h] <;> omega
 .cases hi with
  |none=>simp [sliceBounds,HT.sIx]
  | some i=>
   simp [sliceBounds,HT.sIx,show 1>0 by decide];by_cases h:i<0
   .simp [h] <;> omega
   .simp [h] <;> omega
def kT (its:Vy) (lo hi:Vx):slicePick its.toArray lo hi none=((its.drop (HT.sIx its.length 0 lo)).take (HT.sIx its.length its.length hi-HT.sIx its.length 0 lo)).toArray:=by
 obtain ⟨O,h2,h3⟩:=lV lo hi _;unfold slicePick;rw[O,h2,h3];simp only [sliceRange_one,pick_run] <;> rfl
def GG (K:Frag):V->Option Int->Option Int->Hp->VK->Prop:=λx lo hi H Q=>∃a xs,x=.ref a/\SqL K H a xs/\∀p,H p=none->Q (.ref p) (upd H p (.lst (gi xs lo hi)))
def Cd:SlR X (GG X.K):=by
 intro pins s c H x v vl vu lo hi sl Q I rx hs pl pu h;obtain ⟨a,xs,rfl,hx,q⟩:=h;cases rx;obtain ⟨its,r,O,hz⟩:=I.list hx;have hlen:=r.length;refine ⟨"list",_,slot_list_getitem.lookup,O.isList.typeIs,?_⟩;refine wpAny_getItem_list_slice O.isList hs pl pu .none ZZ ?_ (by rw[qC1] <;> omega)
 rw[kT,<- hlen];refine ⟨.ref _,_,I.laid (o:=_) (λb ob q=>qA1 _ q) (qB3 _) ?_,rfl,q _ (I.hok.fresh (qB3 _))⟩;show ⟨qD3 (fw xs lo hi) hz,_,0,(r.drop _).take _,qB5 _ rfl⟩
noncomputable def Br:V->Bool
 | .non=>true
 | .bl _=>true
 | .int _=>true
 | .str _=>true
 |_=>false
noncomputable def eqV:V->V->Bool
 | .non,.non=>true
 | .bl a,.bl b=>a == b
 | .bl a,.int b=>(if a then 1 else 0) == b
 | .int a,.bl b=>a == (if b then 1 else 0)
 | .int a,.int b=>a == b
 | .str a,.str b=>a == b
 |_,_=>false
noncomputable def inV (x:V)(xs:List V):Bool:=xs.any λy=>eqV y x
def rIn (K:Frag)(neg:Bool):R2:=λx y H Q=>∃p xs,y=.ref p/\(SqL K H p xs\/SqT K H p xs)/\Br x=true/\xs.all Br=true/\Q (.bl (if neg then !inV x xs else inV x xs)) H
def oB:G7 X (.builtin "len") (λxs H Q=>∃p ys,xs = [.ref p]/\(SqL X.K H p ys\/SqT X.K H p ys)/\Q (.int ys.length) H):=by
 intro pins s a H xs us Q I r h;obtain ⟨p,ys,rfl,O,q⟩:=h;obtain ⟨u,rfl,rx⟩:=vals1 r;cases rx;have hn:=br;rcases O with O|O
 .obtain ⟨its,r',pl,hz⟩:=I.list O;have hlen:=r'.length;show Calls.call_len_list pl.isList (by simp [qC1] <;> omega) ⟨.int _,H,I.tok _,⟨s.toks+1,by grind⟩,q⟩
 .obtain ⟨its,r',pl,hz⟩:=I.tuple O;have hlen:=r'.length;show len_tuple pl (by simp [qC1] <;> omega) ⟨.int _,H,I.tok _,⟨s.toks+1,by grind⟩,q⟩
def kZ:G7 X (.type "tuple") (λxs H Q=>∃p ys,xs = [.ref p]/\((SqL X.K H p ys/\∀l,H l=none->Q (.ref l) (upd H l (.tup ys)))\/SqT X.K H p ys/\Q (.ref p) H)):=by
 intro pins s a H xs us Q I r h;obtain ⟨p,ys,rfl,h⟩:=h;obtain ⟨u,rfl,rx⟩:=vals1 r;cases rx;rcases h with ⟨hq,q⟩|⟨hq,q⟩
 .obtain ⟨its,O,pl,hz⟩:=I.list hq;have hlen:=O.length;refine call_tuple_list pl.isList (λh' kp=>?_) (by simp [qC1] <;> omega)
  have I1:=I.kept (t':=s.toks) kp;have I2:=
   I1.laid (t':=s.toks) (λb o e=>qA1 _ e) (qB3 _) (show ObjOk _ X.w _ _ _ (.tup ys) from ⟨hz,its,O,IsTup.new ..⟩)
  show ⟨.ref _,_,I2,rfl,q _ (I1.hok.fresh (qB3 _))⟩
 .obtain ⟨its,O,pl,hz⟩:=I.tuple hq;show call_tuple_same pl ⟨.ref p,H,I,rfl,q⟩
def tyV (K:Frag) (T:String) (x:V) (H:Hp):Prop:=match x with
 | .str _=>T = "str"
 | .int _=>T = "int"
 | .ref p=>(T = "list" /\ ∃xs,SqL K H p xs)\/(T = "tuple" /\ ∃o,K.lookup p=some o/\o.cls=.type "tuple" /\ o.dict=none) \/
   (T = "dict" /\ ((∃kvs,H p=some (.dK kvs))\/∃kvs,H p=some (.dT kvs)))\/(T = "set" /\ ∃S n,H p=some (.set S n))
 |_=>False
def lG {b:St}(I:Inv X pins b H s) (r:RelV x v) (ty:tyV X.K T x H):
  s.TypeIs v T/\∀a,v=.ref a->∃ob,s.heap.get? a=some ob/\ob.dict=none:=by
 cases x with
 | str z=>
  obtain ⟨t,rfl⟩:=r;cases show T = "str" from ty
  show ⟨typeIs_str s z t,λ_ e=>nomatch e⟩
 | int i=>
  obtain ⟨t,rfl⟩:=r;cases show T = "int" from ty
  show ⟨qW9 s i t,λ_ e=>nomatch e⟩
 | ref p=>
  cases r;rcases ty with ⟨rfl,xs,hq⟩|⟨rfl,o,hk,hc,hd⟩|⟨rfl,hk⟩|⟨rfl,S,n,hk⟩
  .obtain ⟨its,_,pl,_⟩:=I.list hq;refine ⟨pl.isList.typeIs,λa e=>?_⟩;cases e;obtain ⟨o,n,e,c,hd,_⟩:=pl;show ⟨o,e,hd⟩
  .refine ⟨⟨o,I.kIn p o hk,hc⟩,λa e=>?_⟩;cases e;show ⟨o,I.kIn _ o hk,hd⟩
  .have z:∃o,s.heap.get? p=some o/\o.ExactDict:=by
    rcases hk with ⟨kvs,hk⟩|⟨kvs,hk⟩
    .obtain ⟨_,_,_,_,o,_,_,e,ex,_⟩:=I.hok p _ hk;show ⟨o,e,ex⟩
    .obtain ⟨_,_,_,_,o,_,_,e,ex,_⟩:=I.hok p _ hk;show ⟨o,e,ex⟩
   obtain ⟨o,e,ex⟩:=z;refine ⟨⟨o,e,ex.1⟩,λa O=>?_⟩;cases O;show ⟨o,e,ex.2.1⟩
  .obtain ⟨o,_,_,_,e,ex,_⟩:=I.hok p _ hk;refine ⟨⟨o,e,ex.1⟩,λa O=>?_⟩;cases O;show ⟨o,e,ex.2.1⟩
 |_=>show False.elim ty
def FA (K:Frag)(T:String)(r:V->List V->Hp->VK->Prop)(O:TE):TE:=λa H Q=>O a H λx H1=>tyV K T x H1/\r x [] H1 Q
def tBM (K:Frag)(T:String)(r:V->List V->Hp->VK->Prop)(O:TE)(t:TA):TE:=λa H Q=>O a H λx H1=>tyV K T x H1/\t a H1 λxs H2=>r x xs H2 Q
def Hz {X}{o}{to}{name}{apos O}{T id}{r}(pa:PlainAttrs T) (slot:Slot T name id) (a5:typeOf (.builtin id)=pure (.type "method_descriptor")) (hm:MtR X id r) (ho:PE X o to) (a3:attributeBase o name X.env (eval o X.env)=eval o X.env:=by rfl) (a0:(apos.endLine == O.line)=true:=by rfl):PE X (.Call (.Attribute o name apos) [] [] O) (FA X.K T r to):=by
 intro pins s a H Q I h;refine wpAny_Call_method0_late a3 a0 (thn (ho pins s a H _ I h) λv s1 a4=>?_);obtain ⟨x,H1,I1,r1,ty,q1⟩:=a4;obtain ⟨h1,h2⟩:=lG I1 r1 ty;show ⟨T,id,pa,slot,a5,h1,h2,qS0 rfl (PySem.evalArgs_none (hm pins s1 a H1 x [] v [] Q I1 r1 .nil q1))⟩
def Lk {X}{o e}{es:Vo}{to}{t}{name}{apos O:Pos}{T id}{r:V->List V->Hp->VK->Prop}(pa:PlainAttrs T) (slot:Slot T name id) (ab:typeOf (.builtin id)=pure (.type "method_descriptor")) (hm:MtR X id r) (ho:PE X o to) (ha:PA X (e::es) t) (a4:attributeBase o name X.env (eval o X.env)=eval o X.env:=by rfl) (a6:((backTo O (starEach (e::es) X.env)).all (λx=>!x.1)&&(backToKw O (keywordEach [] X.env)).all (λx=>x.1.isSome)
   && decide ((e::es).length+([]:List Keyword).length+(if ([]:List Keyword).isEmpty then 0 else 1)<30))=true:=by rfl) (a3:(apos.endLine == O.line)=true:=by rfl) (hs:starEach (e::es) X.env=(false,eval e X.env)::starEach es X.env:=by rfl) (a0:(backTo O (starEach es X.env)).any (·.1)=false:=by rfl):
  PE X (.Call (.Attribute o name apos) (e::es) [] O) (tBM X.K T r to t):=by
 intro pins s a H Q I h;refine wpAny_Call_method_late a4 a6 a3 rfl (thn (ho pins s a H _ I h) λv s1 a7=>?_);obtain ⟨x,H1,I1,r1,ty,q1⟩:=a7;obtain ⟨h1,h2⟩:=lG I1 r1 ty;refine ⟨T,id,pa,slot,ab,h1,h2,?_⟩;have hA:=ha O pins s1 a H1 _ I1 q1;rw[hs]at hA ⊢;refine qS0 (by change (false||(backTo O _).any _)=false;rw[a0] <;> rfl) (Calls.evalArgs_plain ?_)
 show thn hA λus s2 a5=>by obtain ⟨vs,H2,I2,r2,q2⟩:=a5;show hm pins s2 a H2 x vs v us Q I2 r1 r2 q2
def MtM (X:Cx) (O:String) (r:V->List V->Hp->VK->Prop):Prop:=
 ∀ (pins:Vq) (s:Shared) (a:St) (H:Hp) (x:V) (xs:List V) (v:Value) (us:Vy) (Q:VK),Inv X pins a H s->RelV x v->Vals xs us->r x xs H Q ->
  wpAny (model X.prog X.w) X.A (call (.builtin O) (v::us)) (EP X pins a Q) X.xe s
def Vals.one:∀{x}{us:Vy},Vals [x] us->∃u,us = [u]/\RelV x u:=by
 intro x us r;cases r with
 |cons r t=>cases t;show ⟨_,rfl,r⟩
def Vals.zero:∀{us:Vy},Vals [] us->us = []
 |_,.nil=>rfl
def Vals.reverse (h:Vals xs us):Vals xs.reverse us.reverse:=by
 induction h with
 |nil=>show .nil
 |cons r t O=>rw[qK0,qK0];show Vals.append O (.cons r .nil)
def Vals.rep (h:Vals xs us):∀k,Vals (List.replicate k xs).flatten (List.replicate k us).flatten
 |0=>.nil
 | k+1=>by
  show Vals.append h (Vals.rep h k)
theorem foldl_rep (its:Vy):∀ k (O:Vy),
  List.foldl (λx1 x2=>x1++x2) O.toArray (List.replicate k its.toArray)=(O++(List.replicate k its).flatten).toArray:=by
 intro k
 induction k <;> grind
def Inv.lset {a:St}{its:Vy}(I:Inv X pins a H s) (O:H l=some (.lst xs)) (e:s.heap.get? l=some { cls:=.type "list",data:=.seq its.toArray n }) (hf:f its.toArray=its'.toArray) (hv:Vals ys its') (hz:ys.length<=sizeLine):
  Inv X pins a (upd H l (.lst ys)) { s with heap:=s.heap.update l (Obj.mapSeq f),toks:=t' }:=by
 have q:=PySem.IsL.update e f;rw[hf]at q;refine I.write (e:=l) (by rw[O];show trivial) (.inl rfl) (λb' u hb hu=>(qK4 _ _ (Ne.symm hb)).trans hu) ⟨_,q⟩ ?_;show ⟨hz,its',_,hv,q⟩
def Inv.lnew {a:St}(I:Inv X pins a H s) (O:Vals ys its) (hz:ys.length<=sizeLine):
  Inv X pins a (upd H s.heap.objs.size (.lst ys)) { s with heap:=s.heap.push { cls:=.type "list",data:=.seq its.toArray },toks:=t' }:=
 I.laid (λ_ _ q=>qA1 _ q) (qB3 _) ⟨hz,its,0,O,qB5 _ rfl⟩
def Inv.fresh {a:St}(I:Inv X pins a H s):H s.heap.objs.size=none:=I.hok.fresh (qB3 _)
def Inv.lstM {a:St}(I:Inv X pins a H s) (O:H l=some (.lst xs)):xs.length<=sizeLine/\∃(its:Vy) (n:Nat),Vals xs its/\xs.length=its.length/\s.heap.get? l=some { cls:=.type "list",data:=.seq its.toArray n }:=by
 obtain ⟨z,its,n,r,e⟩:=I.hok l _ O;show ⟨z,its,n,r,r.length,e⟩
theorem zq (h:n<=sizeLine):Builtin.List.listTooLong n=false:=by
 show qN3 ox
def rAppend:V->List V->Hp->VK->Prop:=λx vs H Q=>∃l xs y,x=.ref l/\vs = [y]/\H l=some (.lst xs)/\xs.length<sizeLine/\Q .non (upd H l (.lst (xs ++ [y])))
def kh:MtM X "list.append" rAppend:=by
 intro pins s a H x vs v us Q I rx rv h;obtain ⟨l,xs,y,rfl,rfl,O,hz,q⟩:=h;cases rx;obtain ⟨u,rfl,ru⟩:=rv.one;obtain ⟨z,its,n,r,hl,e⟩:=I.lstM O;refine qP8 F.slot_list_append ⟨_,e,rfl⟩ F.entry_list_append (F.args_list_append_2 ..) (PySem.list_append l _ n u (by rw[qC1];omega)) ⟨e,?_⟩;refine ⟨.non,_,I.lset O e ZZ (r.append (.cons ru .nil)) ?_,rfl,q⟩;rw[qB8,qE6];omega
def rReverse:V->List V->Hp->VK->Prop:=λx vs H Q=>∃l xs,x=.ref l/\vs = []/\H l=some (.lst xs)/\Q .non (upd H l (.lst xs.reverse))
def sK:MtM X "list.reverse" rReverse:=by
 intro pins s a H x vs v us Q I rx rv h;obtain ⟨l,xs,rfl,rfl,hH,q⟩:=h;cases rx;have O:=rv.zero;subst O;obtain ⟨z,its,n,r,hl,e⟩:=I.lstM hH;refine qP8 F.slot_list_reverse ⟨_,e,rfl⟩ F.entry_list_reverse (F.args_list_reverse_1 _) (AutoSeq1.list_reverse_list_0 l _ n (by rw[qC1];omega)) ⟨e,?_⟩;refine ⟨.non,_,I.lset hH e ZZ r.reverse ?_,rfl,q⟩;rw[qD0];omega
def rRep:R2:=λx y H Q=>∃l k xs,x=.ref l/\y=.int k/\H l=some (.lst xs) /\ -(2^63)<=k/\k<2^63/\xs.length*k.toNat<=sizeLine /\
 ∀p,H p=none->Q (.ref p) (upd H p (.lst (List.replicate k.toNat xs).flatten))
def len_rep {a:Type}(xs:List a) k:(List.replicate k xs).flatten.length=k*xs.length:=by
 simp_all
def vD:OpR X (binaryOp .Mult) rRep:=by
 intro pins s b H x y v u Q I rx ry h;obtain ⟨l,k,xs,rfl,rfl,hH,h1,h2,hz,q⟩:=h;cases rx;obtain ⟨t,rfl⟩:=ry;obtain ⟨z,its,n,r,hl,e⟩:=I.lstM hH;have hlen:its.toArray.size*k.toNat<=sizeLine:=by rw[qC1,<- hl];show hz
 have a3:¬ its.toArray.size*k.toNat>(2^63-1)/8:=by
  have:sizeLine<=(2^63-1)/8:=ZQ
  omega
 have a0:¬ (!Builtin.List.listFitsIndex k)=true:=by
  rw[fitsIndex_both h1 h2];show qC9
 have O:¬ Builtin.List.listTooLong (its.toArray.size*k.toNat)=true:=by
  grind[zq]
 have a4:List.foldl (λx1 x2=>x1++x2) #[] (List.replicate (if its.toArray.isEmpty=true then 0 else k.toNat) its.toArray)=(List.replicate k.toNat its).flatten.toArray:=by
  have f0:∀m,List.foldl (λx1 x2=>x1++x2) #[] (List.replicate m its.toArray)=(List.replicate m its).flatten.toArray:=λm=>by
   grind[foldl_rep]
  rw[f0];cases its with
  |nil=>simp
  |cons a r'=>rw[qA8 ZZ]
 refine wpAny_binaryOp_repeat_ref (U := "int") ZQ ⟨_,e,rfl⟩ (λs'=>qW9 s' k t) noFill_list_mul F.fills_int_mul qT5 repeat_list F.slot_int_index.lookup
  (qP8 qT5 (qW9 s k t) F.entry_int_rmul (F.args_int_rmul_2 ..) (int___rmul___int_list k t l _ n)
   ⟨e,rfl,⟨_,e,rfl⟩,qP8 F.slot_list_mul ⟨_,e,rfl⟩ F.entry_list_mul (F.args_list_mul_2 ..) (AutoListH.list___mul___list_int_3 l _ n k t a0 a3 O) ⟨e,?_⟩⟩)
 rw[a4];show ⟨.ref _,_,I.lnew (t':=s.toks) (r.rep k.toNat) (by rw[len_rep,qY1];show hz),rfl,q _ I.fresh⟩
end L2
namespace Att
open PySem PySem.W PySem.Calls PyProof.Rows
def im:∀(ns:VW) (vs:Vy),WellAll P h vs (ns.map WData.int)->IntsAre vs ns:=by
 intro ns
 induction ns with
 | nil=>
  intro vs w;cases w;show .nil
 | cons n ns O=>
  intro vs w;cases w with
  | cons a b=>
   cases a;show .cons _ _ (O _ b)
def uP {l:OpenLaw}(hn:l.most=some n) (O:l.row.toRowW.claim.pre args=true) (a3:WellAll P h vals args):
  ∃a vs ns,vals = [Value.ref a]/\args = [WData.list (ns.map WData.int)]/\h.get? a=some { cls:=.type "list",data:=.seq vs.toArray }/\IntsAre vs ns/\ns.length<=n:=by
 have a4:=(pre_splitW O).1;have hc:_=true:=(pre_splitW O).2;obtain ⟨d,r,rfl,h1,h2⟩:=hasAllW_cons a4;obtain rfl:=hasAllW_nil h2;obtain ⟨xs,rfl,h3⟩:=hasW_list h1;obtain ⟨ns,rfl⟩:=items_int h3;have hlen:ns.length<=n:=by
  have h4:(WTm.not (.lt (.lit (.int n)) (.len (.arg 0)))).holds [] { args:=[.list (ns.map .int)] }=true:=by
   have h4:=(holds_andW hc).1;rw[hn]at h4;show h4
  have h5:=condW_of h4 (w_not (w_lt w_lit (w_len_list (w_arg rfl))))
  grind
 cases a3 with
 | cons w1 w2=>
  cases w2;cases w1 with
  |list ho a0=>show ⟨_,_,ns,rfl,rfl,ho,im ns _ a0,hlen⟩
def vq (l:OpenLaw) args:l.row.toRowW.claim.post args (.bool true) args=true:=
 postW_of (X:=_)
  (show WShape.has [] _ .bool=true by omega)
  (w_eq_bool (w_res rfl) w_lit) rfl
end Att
namespace L2
open PySem PySem.Spec PyProof.Rows
def ui:∀{vs:Vy}{ns:VW},IntsAre vs ns->Vals (ns.map V.int) vs:=by
 intro vs ns h
 induction h with
 |nil=>show .nil
 |cons n t h O=>show .cons ⟨t,rfl⟩ O
def tY (H:Hp):Prop:=∀b,H b=none\/(∃o xs,H b=some (.frz o (.lst xs)))\/∃k,H b=some (.tbl k)
def HQ {a O:Type} [BEq a] [LawfulBEq a]:∀{l:List (a×O)}{n:a}{c:O},l.lookup n=some c->(n,c)∈l
 | (k,v)::r,n,c,h=>by
  rw[qJ2]at h;cases hb:n == k with
  |true=>grind
  |false=>rw[hb]at h;show qA6 _ (HQ h)
def zL {K:Frag}(KX:K.In s₁.heap) (ab:s₁.heap.Ns mainGlobals mg) (hb:s₁.heap.Ns builtinsNs mb) (c4:∀x:Str,x ≠ "__name__" -> mb x=bootBuiltins x) (a7:s₁.heap.NoLimit) (hg:s₁.gens=#[]) (c5:∃bm o,mg "__builtins__" = some (.ref bm)/\bm≠builtinsNs/\s₁.heap.get? bm=some o/\o.cls=.type "module" /\ o.dict=some builtinsNs/\o.data=.plain) (hT:∀p∈lamT,s₁.heap.get? p.1=some { cls:=.none,data:=.fields #[] }/\isCodeTable s₁.heap p.1/\K.lookup p.1=none/\lamT.lookup p.1=some p.2) (ha:s₁.heap.get? a=some { cls:=.type "list",data:=.seq vs.toArray }) (hi:IntsAre vs ns) (hl:ns.length<=sizeLine) (hr:Room k callerA) (F:∀base:Heap,K.In base->base.Ns mainGlobals mg->FnOk P w K mg base CX k fa fd [x] sp) (a6:∀ s u,BindsTo s fd ⟨[u],[]⟩ [(x,u)]) (cn:∀H:Hp,tY H->SqL K H a (ns.map V.int)->sp [.ref a] H (λv _=>v=.bl true) λ_ _ _=>False) (cc:∀H e s',CX [] H s₁ (λ_ _ _=>False) e s'->False):
  codeAny (model P w) callerA (.call (.ref fa) ⟨[.ref a],[]⟩) (λr s'=>r=.ok (.ret (.bool true))/\OldK s₁.heap s'.heap/\s'.os=s₁.os/\AllBare s'.gens) s₁:=by
 have rv:=ui hi;have c3:=hi.length;have a0:∀b q,lamT.lookup b=some q->s₁.heap.get? b=_/\_/\_=none:=λb q e=>by
  have hm:=HQ e;show ⟨(hT _ hm).1,(hT _ hm).2.1,(hT _ hm).2.2.1⟩
 -- from an abstract heap in which nothing but the script and the tables may be tracked
 have core:∀H,tY H->SqL K H a (ns.map V.int)->HOk P w H s₁.heap->(∀b,H b≠none->b=a\/∃q,lamT.lookup b=some q)->(∀b,H b≠none->K.lookup b=none)->(∀b q,H b=some (.tbl q)->lamT.lookup b=some q)->(∀p∈lamT,H p.1=some (.tbl p.2)) ->
   codeAny (model P w) callerA (.call (.ref fa) ⟨[.ref a],[]⟩) (λr s'=>r=.ok (.ret (.bool true))/\OldK s₁.heap s'.heap/\s'.os=s₁.os/\AllBare s'.gens) s₁:=by
  intro H hO hS hok hA hK hB cp;have O:∀{b:Addr}{o:Obj},s₁.heap.get? b=some o->H b=none->(cw s₁.heap H).get? b=some o:=λe n=>zY e n;have b0:∀{b:Addr}{o:Obj},s₁.heap.get? b=some o->(∀its n,o.data≠.seq its n)->(∀ps,o.data≠.fields ps)->H b=none:=λ{b o} e d1 d2=>by
   grind
  have cv:∀{b:Addr}{o:Obj}{es:Array DictEntry}{ep:Nat},s₁.heap.get? b=some o->o.data=.dict es ep->H b=none:=λ{b o es ep} e d=>b0 e (λ_ _ z=>ox) λ_ z=>ox;have a3:∀{b:Addr}{m:Vv},s₁.heap.Ns b m->(cw s₁.heap H).Ns b m:=λ{b m} zz54=>by obtain ⟨o,es,ep,e,d,r⟩:=zz54;show ⟨o,es,ep,O e (cv e d),d,r⟩
  have c1:K.In (cw s₁.heap H):=λb o e=>O (KX b o e) (by
   grind)
  have hM:Mod K mg (cw s₁.heap H):=⟨c1,a3 ab,⟨mb,a3 hb,c4⟩,let ⟨mc,h1,h2⟩:=a7;⟨mc,a3 h1,h2⟩,let ⟨bm,o,b1,b2,b3,b4,b5,b6⟩:=c5;⟨bm,o,b1,b2,O b3 (b0 b3 (λ_ _ z=>ox) λ_ z=>ox),b4,b5,b6⟩⟩;have e0:tZ P w K mg (cw s₁.heap H) callerA [] s₁ H:=⟨rfl,hM,λb o e=>Db e,Nat.le_of_eq (wP _ _),trivial,λb hb=>absurd (show b∈([]:List Addr) from hb) ZZ,hok,.of_eq hg,cp⟩;refine qT2 ((F _ c1 (a3 ab)).run callerA [] s₁ H ⟨[.ref a],[]⟩ [.ref a] [.ref a] _ _ hr e0 (a6 s₁ (.ref a)) (.cons rfl .nil) (cn H hO hS)) λr s' h=>?_;cases r with
  |error e=>show (cc H e s' h).elim
  | ok fl=>
   cases fl with
   |next=>show False.elim h
   |brk=>show False.elim h
   |cont=>show False.elim h
   | ret u=>
    obtain ⟨v,H',os,bare,un,a5,r',q⟩:=h;have q':v=.bl true:=q;subst q';obtain rfl:u=Value.bool true:=r';have key:∀b o,s₁.heap.get? b=some o->asItWas s₁.heap s'.heap b o:=λb o e=>by
     cases q:H b with
     |none=>show .inl (un.keep b o e q (by intro z;show absurd (show b∈([]:List Addr) from z) ZZ) ZZ)
     | some u=>
      rcases hO b with z|⟨ob,xs,z⟩|⟨y,z⟩
      .omega
      .have z2:=un.frzs b ob _ z;obtain ⟨e1,_⟩:=hok b _ z;obtain ⟨e2,_⟩:=a5 b _ z2;rw[e]at e1;cases e1;show .inl e2
      .have z2:=un.tbls b _ z;obtain ⟨ps,e2,_⟩:=a5 b _ z2;obtain ⟨t1,t2,_⟩:=a0 b y (hB b y z);rw[t1]at e;cases e;show .inr (.inl ⟨t2,rfl,#[],ps,rfl,by rw[e2];simp⟩)
    refine ⟨rfl,⟨key,λb o e=>un.there b o e ZZ⟩,os,bare⟩
 have a4:∀(H:Hp) b q,lamT.lookup b=some q->ObjOk P w H s₁.heap b (.tbl q):=λH b q e=>⟨#[],(a0 b q e).1,.inl rfl⟩;cases hk:K.lookup a with
 | some o=>
  -- the script is one of the module's own objects
  have e:=KX a o hk;rw[ha]at e;cases e;refine core (λb=>(lamT.lookup b).map .tbl) (λb=>?_) (.inr ⟨_,vs.toArray,_,hk,rfl,rfl,rfl,by rw[qC1,c3];show hl,by simpa using rv⟩) (λb u z=>?_) (λb z=>?_) (λb z=>?_) (λb y z=>?_) λp hp=>?_
  .cases q:lamT.lookup b with
   |none=>show .inl (by change (lamT.lookup b).map HO.tbl=_;rw[q];rfl)
   |some y=>show .inr (.inr ⟨y,by change (lamT.lookup b).map HO.tbl=_;rw[q];rfl⟩)
  .obtain ⟨y,e1,rfl⟩:=qF5.mp z;show a4 _ b y e1
  .cases q:lamT.lookup b with
   |none=>show absurd (by rw[q];rfl) z
   |some y=>show .inr ⟨y,rfl⟩
  .cases q:lamT.lookup b with
   |none=>show absurd (by rw[q];rfl) z
   |some y=>show (a0 b y q).2.2
  .obtain ⟨y',e1,e2⟩:=qF5.mp z;cases e2;show e1
  .change (lamT.lookup p.1).map HO.tbl=_;rw[(hT p hp).2.2.2];rfl
 | none=>
  have na:∀b y,lamT.lookup b=some y->b≠a:=λb y e z=>by
   have:=(a0 b y e).1
   rw[z,ha]at this;cases this
  refine core (λb=>if b=a then some (.frz { cls:=.type "list",data:=.seq vs.toArray } (.lst (ns.map V.int))) else (lamT.lookup b).map .tbl) (λb=>?_) (.inl (.inr ⟨{ cls:=.type "list",data:=.seq vs.toArray },qA2 rfl⟩)) (λb u z=>?_) (λb z=>?_) (λb z=>?_) (λb y z=>?_) λp hp=>?_
  .by_cases hb:b=a
   .show .inr (.inl ⟨_,_,qA2 hb⟩)
   .dsimp only;rw[qA8 hb];cases q:lamT.lookup b with
    |none=>show .inl rfl
    |some y=>show .inr (.inr ⟨y,rfl⟩)
  .by_cases hb:b=a
   .have z':=(qA2 hb).symm.trans z;cases z';subst hb;show ⟨ha,by rw[qA4];show hl,vs,_,rv,ha⟩
   .have z':=(qA8 hb).symm.trans z;obtain ⟨y,e1,rfl⟩:=qF5.mp z';show a4 _ b y e1
  .by_cases hb:b=a
   .show .inl hb
   .cases q:lamT.lookup b with
    |none=>show absurd (by rw[qA8 hb,q];rfl) z
    |some y=>show .inr ⟨y,rfl⟩
  .by_cases hb:b=a
   .rw[hb];show hk
   .cases q:lamT.lookup b with
    |none=>show absurd (by rw[qA8 hb,q];rfl) z
    |some y=>show (a0 b y q).2.2
  .by_cases hb:b=a
   .have z':=(qA2 hb).symm.trans z;cases z'
   .have z':=(qA8 hb).symm.trans z;obtain ⟨y',e1,e2⟩:=qF5.mp z';cases e2;show e1
  .have c0:=(hT p hp).2.2.2
   change (if p.1=a then _ else (lamT.lookup p.1).map HO.tbl)=_;rw[qA8 (na _ _ c0),c0];rfl
abbrev CX0:CXT:=λ_ _ _ _ _ _=>False
abbrev E0:XK:=λ_ _ _=>False
def lh:oQ CX0 X E0:=λ_ _ _ _ _ _ _ h=>h.elim
structure Fun (K:Frag) (x qual:Str) (st:Stmt) (f:Addr) (fd:FuncData):Prop where
 ex:∃(oc:Value) (od:Option Addr) (kV doc pm:Value) (an:Option Addr) (cdv ct:Value) (osl:Array VJ),
  fd=PySem.W.fnOf x qual (S3 st) (B4 st) (b8 st) .none kV doc pm an cdv ct/\K.lookup f=some ⟨oc,od,.func fd,osl⟩/\PySem.W.codeIn K cdv qual=true
 kp:PySem.W.keepIn K (.ref f)=true
def Fun.ok {K}{st}(F:Fun K x qual st f fd) (S:e8 N ps (b8 st)) (len:∀vs H Q E,sp vs H Q E->vs.length=ps.length) (O:∀ cdv (A:Around) (outer:List Env) s H (vs:List V) Q E,Room k (A.deeper (envOfC qual (b8 st) s.heap.objs.size f cdv))->sp vs H Q E ->
   ∃t,PSs (aT CX0 P w K mg base N qual (b8 st) f cdv A outer s H E).nox (B4 st) t/\t { nx:=λ_ H'=>Q .non H',rt:=Q } (start N vs) H):FnOk P w K mg base CX0 (k+1) f fd ps sp:=by
 obtain ⟨oc,od,kV,doc,pm,an,cdv,ct,osl,rfl,lk,a3⟩:=F.ex;refine Bq lk a3 S len λA outer s H vs Q E hr a0=>?_;obtain ⟨t,h,q⟩:=O cdv A outer s H vs Q E hr a0;show ⟨t,h.nox,q⟩
def Fun.binds {K}{st}(F:Fun K x qual st f fd) (h:∀ kV doc pm an cdv ct (us:Vy),us.length=ps.length->bindArgs (PySem.W.fnOf x qual (S3 st) (B4 st) (b8 st) .none kV doc pm an cdv ct) ⟨us,[]⟩=pure (ps.zip us)):Binds K fd ps []:=by
 obtain ⟨oc,od,kV,doc,pm,an,cdv,ct,osl,rfl,lk,O⟩:=F.ex;show .all (h kV doc pm an cdv ct)
def IX {K:Frag}{st}{kV}(l:K.lookup f=some ⟨oc,od,.func (PySem.W.fnOf x qual (S3 st) (B4 st) (b8 st) .none kV doc pm an cdv ct),osl⟩)(c:PySem.W.codeIn K cdv qual=true)(k:PySem.W.keepIn K (.ref f)=true):Fun K x qual st f (PySem.W.fnOf x qual (S3 st) (B4 st) (b8 st) .none kV doc pm an cdv ct):=⟨⟨oc,od,kV,doc,pm,an,cdv,ct,osl,rfl,l,c⟩,k⟩
def pv {X}i{x}{pos}(hN:X.N[i]?=some x:=by rfl)(hv:Vis X.env.scope x:=by first|show Or.inl rfl|show Or.inr (Or.inl rfl)|show Or.inr (Or.inr rfl))(hd:(x == ("__debug__"))=false:=by decide)(O:(x == ("__classdict__"))=false:=by decide):PE X (.Name x pos) (R3 i):=P8 hN hv hd O
def Same (H H':Hp):Prop:=∀b o,H b=some o->H' b=some o
def Same.refl H:Same H H:=λ_ _ h=>h
def Same.trans (a:Same H H1)(b:Same H1 H2):Same H H2:=λc o h=>b c o (a c o h)
def Same.free (e:Same H H') (h:H' l=Option.none):H l=Option.none:=by
 cases q:H l with
 |none=>rfl
 | some o=>
  rw[e l o q]at h;cases h
def Same.seq {K}(e:Same H H') (h:SqL K H a xs):SqL K H' a xs:=by
 rcases h with (h|⟨o,h⟩)|h
 .show .inl (.inl (e _ _ h))
 .show .inl (.inr ⟨o,e _ _ h⟩)
 .show .inr h
noncomputable def cut (h:Heap)(fs:List Addr):Heap:={ h with objs:=h.objs.mapIdx λi o=>if i∈fs then { o with data:=.freed } else o }
end L2
namespace L2
open PySem
structure Nx {α:Type}(t:Sem α):Prop where
 out:∀(M:Model) (Γ:PySem.Ctx) (P:α->Pos->Shared->Prop) (Ee Ef:Value->Pos->Shared->Prop) (p:Pos) (s:Shared),Sem.wp M Γ t P Ee p s->Sem.wp M Γ t P Ef p s
structure Po {α:Type}(t:Sem α) (pre:Shared->Prop) (post:α->Shared->Prop):Prop where
 out:∀(M:Model) (Γ:PySem.Ctx) (P:α->Pos->Shared->Prop) (Ee Ef:Value->Pos->Shared->Prop) (p:Pos) (s:Shared),
  pre s->Sem.wp M Γ t P Ee p s->Sem.wp M Γ t (λa p' s'=>P a p' s'/\post a s') Ef p s
end L2
namespace L2
open PySem PySem.Spec PyProof.Rows
section
variable {κ:Type} [DecidableEq κ]
noncomputable def X9 (kvs:List (κ×V))(k:κ):Option V:=(kvs.find? λO=>decide (O.1=k)).map (·.2)
noncomputable def putK (kvs:List (κ×V)) (k:κ) (v:V):List (κ×V):=
 if (kvs.any λO=>decide (O.1=k))=true then kvs.map (λO=>if O.1=k then (O.1,v) else O) else kvs ++ [(k,v)]
theorem fC {p:κ×V}(e:p.1=k):X9 (p::r) k=some p.2:=by simp [X9,e]
theorem fD {p:κ×V}(e:¬ p.1=k):X9 (p::r) k=X9 r k:=by simp [X9,e]
def fE (k:κ):∀kvs,(kvs.any λO=>decide (O.1=k))=(X9 kvs k).isSome
 | []=>rfl
 | p::r=>by
  rw[qK2];by_cases e:p.1=k
  .grind[fC]
  .rw[fD e,qN3 e,Bool.false_or];show fE k r
def fq (kvs:List (κ×V)) (k:κ) v:(putK kvs k v).length<=kvs.length+1:=by
 unfold putK
 split
 .rw[qA4];omega
 .rw[qB8,qB9,qL7];omega
def RelO.isSome_eq (r:RelO o u):o.isSome=u.isSome:=by
 cases o with
 | none=>cases u with
  |none=>rfl
  |some _=>show (r).elim
 | some _=>cases u with
  |none=>show (r).elim
  |some _=>rfl
def KV.val (r:KV kvs vs) (k:κ):RelO (X9 kvs k) (valueAt vs k):=by
 induction r with
 |nil=>show True.intro
 | @cons p q ps O h t ih=>
  obtain ⟨h1,h2⟩:=h;by_cases e:p.1=k
  .have e':=h1.symm.trans e;have b:valueAt (q::O) k=some q.2:=by simp [valueAt,e']
   rw[fC e,b];show h2
  grind[valueAt,fD]
def KV.any (r:KV kvs vs) (k:κ):(kvs.any λO=>decide (O.1=k))=vs.any λO=>decide (O.1=k):=by
 induction r with
 |nil=>rfl
 |cons h t ih=>rw[qK2,qK2,ih,h.1]
def KV.repl (r:KV kvs vs) (k:κ) (ry:RelV y u):
  KV (kvs.map λO=>if O.1=k then (O.1,y) else O) (vs.map λO=>if O.1=k then (O.1,u) else O):=by
 induction r with
 |nil=>show .nil
 | @cons p q ps qs h t ih=>
  refine .cons ?_ ih;omega
theorem KV.put (r:KV kvs vs) (k:κ) (O:RelV y u):KV (putK kvs k y) (stored vs k u):=by
 unfold putK stored;rw[r.any];by_cases e:(vs.any λkv=>decide (kv.1=k))=true
 .rw[qA2 e,qA2 e];show r.repl k O
 .rw[qA8 e,qA8 e];show Paired.snoc r ⟨rfl,O⟩
def KV.length {vs:List (κ×Value)}(r:KV kvs vs):kvs.length=vs.length:=Paired.length r
end
def sS (r:RelV (kV k) u):(A1 P w).is k u=true:=by
 cases k with
 |inl i=>obtain ⟨t,e⟩:=(r);subst e;show pi P w i t
 |inr x=>obtain ⟨t,e⟩:=(r);subst e;show ph P w x t
def kH:∀{ks}{us:Vy},Vals (ks.map kV) us->ItemsAre (A1 P w) ks us
 | [],_,r=>by cases r;show .nil
 | k::ks,_,r=>by
  cases r with
  |cons h t=>show .cons (sS h) (kH t)
abbrev KT (H:Hp):List (List Key×V)->List (List Key×Addr×Value)->Prop:=Paired λp q=>p.1=q.1/\H q.2.1=some (.tup (p.1.map kV))/\RelV p.2 q.2.2
def KT.val (r:KT H kvs xs) (k:List Key):RelO (X9 kvs k) ((atKey xs k).map (·.2)):=by
 induction r with
 |nil=>show True.intro
 | @cons p q ps O h t ih=>
  obtain ⟨h1,_,h2⟩:=h;by_cases e:p.1=k
  .have e':=h1.symm.trans e;have b:atKey (q::O) k=some q.2:=by simp [atKey,e']
   rw[fC e,b];show h2
  grind[atKey,fD]
def KT.repl (r:KT H kvs xs) k (ry:RelV y u):
  KT H (kvs.map λO=>if O.1=k then (O.1,y) else O) (xs.map (putAt k u)):=by
 induction r with
 |nil=>show .nil
 | @cons p q ps qs h t ih=>
  refine .cons ?_ ih
  grind[putAt]
theorem KT.put (r:KT H kvs xs) k (hb:H b=some (.tup (k.map kV))) (O:RelV y u):
  KT H (putK kvs k y) (storedH xs k b u):=by
 have e:(kvs.any λkv=>decide (kv.1=k))=(atKey xs k).isSome:=by
  rw[fE,(r.val k).isSome_eq,Option.isSome_map]
 unfold putK storedH;rw[e];by_cases q:(atKey xs k).isSome=true
 .rw[qA2 q,qA2 q];show r.repl k O
 .rw[qA8 q,qA8 q];show Paired.snoc r ⟨rfl,hb,O⟩
def KT.keeps (r:KT H kvs xs) (O:∀b ys,H b=some (.tup ys)->H' b=some (.tup ys)):KT H' kvs xs:=
 Paired.mapP r λ_ _ z=>⟨z.1,O _ _ z.2.1,z.2.2⟩
def Ba (ok:HOk P w H h)(e:Rd H a u):ObjOk P w H h a u:=e.ok ok
def By (ok:HOk P w H h) (e:Rd H a (.dK kvs)):kvs.length<=sizeLine/\(a == sysModules)=false/\∃vs,KV kvs vs/\h.DictOf (A1 P w) a vs:=
 Ba ok e
def LO (ok:HOk P w H h)(e:H a=some (.dK kvs)):kvs.length<=sizeLine/\(a == sysModules)=false/\∃vs,KV kvs vs/\h.DictOf (A1 P w) a vs:=By ok (.inl e)
theorem dH (ok:HOk P w H h) (e:H a=some (.tup (ks.map kV))):(tupleKind (A1 P w)).is h ks a:=by
 obtain ⟨_,its,r,o,O,h2,n,h3⟩:=(ok a _ e);show ⟨o,its.toArray,n,O,h2,h3,by simpa using kH r⟩
def Bv (ok:HOk P w H h) (e:Rd H a (.dT kvs)):kvs.length<=sizeLine/\(a == sysModules)=false /\
  ∃xs,KT H kvs xs/\h.DictOfH (tupleKind (A1 P w)) a xs:=by
 obtain ⟨z,y,xs,r,o,es,ep,h1,h2,h3,h4,h5⟩:=(Ba ok e);refine ⟨z,y,xs,r,o,es,ep,h1,h2,h3,h4,λx O=>?_,h5⟩;have all:∀{l:_}{m:_},KT H l m->∀x∈m,(tupleKind (A1 P w)).is h x.1 x.2.1:=by
  intro l m q
  induction q <;> grind[dH]
 show all r x O
def Bw (ok:HOk P w H h) (e:H a=some (.dT kvs)):kvs.length<=sizeLine/\(a == sysModules)=false /\
  ∃xs,KT H kvs xs/\h.DictOfH (tupleKind (A1 P w)) a xs:=Bv ok (.inl e)
def DGet (H:Hp) (a:Addr) (y:V) (r:Option V):Prop:=
 (∃kvs k,Rd H a (.dK kvs)/\y=kV k/\r=X9 kvs k)\/∃kvs k b,Rd H a (.dT kvs)/\y=.ref b/\H b=some (.tup (k.map kV))/\r=X9 kvs k
def DPut (H:Hp) (a:Addr) (y v:V) (H':Hp):Prop:=
 (∃kvs k,H a=some (.dK kvs)/\y=kV k/\kvs.length<sizeLine/\H'=upd H a (.dK (putK kvs k v))) \/
 ∃kvs k b,H a=some (.dT kvs)/\y=.ref b/\H b=some (.tup (k.map kV))/\kvs.length<sizeLine/\H'=upd H a (.dT (putK kvs k v))
def DGet.t (e:H a=some (.dT kvs))(O:H b=some (.tup (k.map kV))):DGet H a (.ref b) (X9 kvs k):=.inr ⟨kvs,k,b,.inl e,rfl,O,rfl⟩
def DPut.t (e:H a=some (.dT kvs)) (O:H b=some (.tup (k.map kV))) (hl:kvs.length<sizeLine):
  DPut H a (.ref b) v (upd H a (.dT (putK kvs k v))):=.inr ⟨kvs,k,b,e,rfl,O,hl,rfl⟩
def Inv.big {a:St}(I:Inv X pins a H s):sysModules<s.heap.objs.size:=by
 have h:=(I.mod.glob.keeps I.bk).lt;show Nat.lt_trans ZQ h
def d_in {c:St}(hu:A.units+1<cLine) (I:Inv X pins c H s) (g:DGet H a y o) (ry:RelV y u) (h:∀s',Inv X pins c H s'->Q (.bool o.isSome) s'):
  wpAny (model X.prog X.w) A (compareOp .In u (.ref a)) Q E s:=by
 rcases g with ⟨kvs,k,e,ey,l⟩|⟨kvs,k,b,e,ey,eb,l⟩
 .subst ey;obtain ⟨z,hd,vs,O,dd⟩:=By I.hok e;refine wpAny_in_of (sS ry) hd dd.mapOf ?_;rw[<- (O.val k).isSome_eq,<- l];show h _ (I.tok _)
 .subst ey;cases show u=_ from ry
  obtain ⟨z,hd,xs,O,dd⟩:=Bv I.hok e;refine wpAny_in_heap (tupleKind_room_in1 hu) (dH I.hok eb) hd dd ?_;have q:=(O.val k).isSome_eq;rw[Option.isSome_map]at q;rw[<- q,<- l];show h _ (I.tok _)
def jE {c:St}(I:Inv X pins c H s) (mu:Mut (H a)) (hs:Heap.SameBut a s.heap h') (he:∃q,h'.get? a=some q) (O:ObjOk X.prog X.w (upd H a ob) h' a ob):
  Inv X pins c (upd H a ob) { s with heap:=h',toks:=t' }:=
 I.write (e:=a) mu (.inl rfl) (λb q hb z=>(hs.2 b hb).trans z) he O
def JE (z:kvs.length<=sizeLine) (hd:(a == sysModules)=false) (O:KV kvs vs) (dd:h'.DictOf (A1 P w) a vs):
  ObjOk P w H' h' a (.dK kvs):=⟨z,hd,vs,O,dd⟩
def wZ {d:St}(hu:A.units+1<cLine) (I:Inv X pins d H s) (g:DPut H a y v H') (ry:RelV y u) (rv:RelV v r) (h:∀s',Inv X pins d H' s'->Q () s'):
  wpAny (model X.prog X.w) A (setItem (.ref a) u r) Q E s:=by
 rcases g with ⟨kvs,k,e,ey,l,eH⟩|⟨kvs,k,b,e,ey,eb,l,eH⟩
 .subst ey eH;obtain ⟨z,hd,vs,O,dd⟩:=LO I.hok e;have hz:vs.length<=sizeLine:=by rw[<- O.length];show z
  have hl:(putK kvs k v).length<=sizeLine:=by have:=fq kvs k v;omega
  refine wpAny_setItem_pairs (sS ry) dd λh' a0 hs=>h _ ?_;have he:∃q,_=_:=let ⟨q,_,_,hq,_⟩:=a0;⟨q,hq⟩;show jE I (by rw[e];show True.intro) hs he (JE hl hd (O.put k rv) a0)
 .subst ey eH;cases show u=_ from ry
  obtain ⟨z,hd,xs,O,dd⟩:=Bw I.hok e;have hz:xs.length<=sizeLine:=by rw[<- Paired.length O];show z
  have hl:(putK kvs k v).length<=sizeLine:=by have:=fq kvs k v;omega
  refine wpAny_setItem_heap (tupleKind_room_in1 hu) (dH I.hok eb) dd λh' a0 hs=>h _ ?_;obtain ⟨q,es,ep,hq,h2,h3,h4,_,h5⟩:=a0;refine jE I (by rw[e];show True.intro) hs ⟨q,hq⟩ ⟨hl,hd,_,(O.put k eb rv).keeps λc ys ec=>?_,q,es,ep,hq,h2,h3,h4,h5⟩
  grind[c7]
def Fy (ty O:TE):TE:=λb H Q=>ty b H λy H1=>O b H1 λx H2=>∃a o,x=.ref a/\DGet H2 a y o/\Q (.bl o.isSome) H2
def AY (td ty tv:TE):TS:=λD b H=>tv b H λv H1=>td b H1 λx H2=>ty b H2 λy H3=>∃a O,x=.ref a/\DPut H3 a y v O/\D.nx b O
def HB (hu:X.A.units+1<cLine) (hi:PE X i ty) (ho:PE X o td):PC X .In i o (Fy ty td):=by
 intro pins s b H Q I h;refine thn (hi pins s b H _ I h) λiv s1 ⟨y,H1,I1,ry,q1⟩=>thn (ho pins s1 b H1 _ I1 q1) λu s2 O=>?_;obtain ⟨x,H2,I2,rx,a,ov,ex,g,q2⟩:=O;subst ex;obtain rfl:=rx;show d_in hu I2 g ry λs3 I3=>⟨.bl _,H2,I3,rfl,q2⟩
def CK (hu:X.A.units+1<cLine) (ho:PE X o td) (hi:PE X i ty) (hv:PE X value tv) (hs:swapsWith value (some (.Subscript o i pos')) pos.line X.env=pure false):
  PS X (.Assign [.Subscript o i pos'] value pos) (AY td ty tv):=by
 intro pins s b H D I h;refine wpAny_Assign_Subscript (thn (hv pins s b H _ I h) λr s1 ⟨v,H1,I1,rv,q1⟩=>thn (ho pins s1 b H1 _ I1 q1) λu s2 ⟨x,H2,I2,rx,q2⟩=>thn (hi pins s2 b H2 _ I2 q2) λiv s3 O=>?_) hs;obtain ⟨y,H3,I3,ry,a,H4,ex,g,q3⟩:=O;subst ex;obtain rfl:=rx;show wZ hu I3 g ry rv λs4 I4=>⟨b,H4,I4,q3⟩
def As (h:Heap) (O:sysModules<h.objs.size):ObjOk P w H (h.push { cls:=.type "dict",data:=.dict #[] }) h.objs.size (.dT []):=
 ⟨qC6 _,beq_eq_false_iff_ne.mpr (Ne.symm (qB7 O)),[],.nil,_,#[],0,qB5 _ rfl,⟨rfl,rfl,rfl⟩,rfl,rfl,List.nodup_nil⟩
end L2
namespace L2
open PySem
structure Sub where
 t:Bool
 i:Addr
 l:Addr
def Sub.At (u:Sub)(h:Heap)(n:Nat):Prop:=if u.t=true then h.IsTupleIter u.i u.l n else h.IsListIter u.i u.l n
def Sub.Src (u:Sub)(h:Heap)(xs:VQ):Prop:=if u.t=true then h.IsTuple u.l xs else h.IsList u.l xs
def Sub.At.obj {u:Sub}(x:u.At h n):∃o,h.get? u.i=some o/\o.data=.fields #[.ref u.l,.int n 0]:=by
 unfold Sub.At at x
 split at x <;> (obtain ⟨o,e,_,d⟩:=x;show ⟨o,e,d⟩)
def Sub.At.keep {u:Sub}(x:u.At h n) (k:∀o,h.get? u.i=some o->h'.get? u.i=some o):u.At h' n:=by
 unfold Sub.At at x ⊢
 split at x <;> (rename_i ht;obtain ⟨o,e,r⟩:=x;simp [ht,qO2];show ⟨o,k o e,r⟩)
def Sub.Src.keep {u:Sub}(x:u.Src h xs) (k:∀o,h.get? u.l=some o->h'.get? u.l=some o):u.Src h' xs:=by
 unfold Sub.Src at x ⊢
 split at x <;> (rename_i ht;obtain ⟨o,e,r⟩:=x;simp [ht,qO2];show ⟨o,k o e,r⟩)
def ia (O:s.heap.IsTupleIter it t i) (ht:s.heap.IsTuple t items) (hx:items[i]?=some x) (hQ:∀h',h'.IsTupleIter it t (i+1)->Heap.SameBut it s.heap h'->Q x { s with heap:=h' }):wpAny (model prog w) A (Builtin.SmallTypes.nextOf (.ref it)) Q E s:=by
 obtain ⟨o,ho,hc,hd⟩:=id O;obtain ⟨ol,a0,_,nl,a3⟩:=ht;refine qA0 (qO3 O.typeIs qJ8 (qO8 qJ8 O.typeIs F.entry_tuple_iterator_next ?_ (F.args_tuple_iterator_next_1 _)))
 change wpAny _ _ (field _ 0>>=_) _ _ s;refine qA0 (qO0 ho hd rfl ?_)
 change wpAny _ _ (if (Value.ref t == Value.none)=true then _ else _) _ _ s;change _;refine qA0 (qO0 ho hd rfl ?_);refine qA0 (qN9 a0 a3 ?_);simp [hx];refine qA0 (wpAny_setField ho hd ZZ (qN2 ⟨x,rfl,qN2 (hQ _ ?_ (qG9 ..))⟩));show ⟨_,qI3 _ ho (Obj.isFreed_of_fields (Obj.data_mapFields hd _)),(Obj.cls_mapFields ..).trans hc,by rw[Obj.data_mapFields hd];simp [rawInt]⟩
theorem jm (hh:A.handled=none) (O:s.heap.IsTupleIter it t i) (ht:s.heap.IsTuple t items) (hx:items[i]?=none) (hE:∀h' e,Heap.ExtBut it s.heap h'->(∃o,h'.get? e=some o/\o.cls=.type "StopIteration")->E (.ref e) { s with heap:=h' }):wpAny (model prog w) A (Builtin.SmallTypes.nextOf (.ref it)) Q E s:=by
 obtain ⟨o,ho,hc,hd⟩:=id O;obtain ⟨ol,a0,_,nl,a3⟩:=ht;refine qA0 (qO3 O.typeIs qJ8 (qO8 qJ8 O.typeIs F.entry_tuple_iterator_next ?_ (F.args_tuple_iterator_next_1 _)))
 change wpAny _ _ (field _ 0>>=_) _ _ s;refine qA0 (qO0 ho hd rfl ?_)
 change wpAny _ _ (if (Value.ref t == Value.none)=true then _ else _) _ _ s;change _;refine qA0 (qO0 ho hd rfl ?_);refine qA0 (qN9 a0 a3 ?_);simp [hx];refine qA0 (qR2 (qA0 (wpAny_setField ho hd ZZ ?_)));refine qA0 ?_;refine qA0 (qO4 ?_ (by size_fits));refine qA0 (wpAny_of_eq (by first|rfl | (rfl)) ?_);refine qO4 ?_ (by size_fits);refine qA0 (wpAny_handled ?_);first|rw[show A.in1.handled=none from hh] |rw[hh]
 refine qA0 (qN2 (wpAny_throw ?_));show hE _ _ (((qG9 ..).extBut.push _).push _) ⟨_,qB5 _ rfl,rfl⟩
def Sub.item {u:Sub}(ha:u.At s.heap n) (hs:u.Src s.heap xs) (hx:xs[n]?=some x) (O:∀h',u.At h' (n+1)->Heap.SameBut u.i s.heap h'->Q x { s with heap:=h' }):wpAny (model prog w) A (Builtin.SmallTypes.nextOf (.ref u.i)) Q E s:=by
 unfold Sub.At at ha O;unfold Sub.Src at hs;cases ht:u.t with
 |true=>simp [ht]at ha hs O;show ia ha hs hx O
 |false=>simp [ht,qE7]at ha hs O;show wpAny_nextOf_list_item ha hs hx O
def Sub.ends {u:Sub}(hh:A.handled=none) (ha:u.At s.heap n) (hs:u.Src s.heap xs) (hx:xs[n]?=none) (O:∀h' e,Heap.ExtBut u.i s.heap h'->(∃o,h'.get? e=some o/\o.cls=.type "StopIteration")->E (.ref e) { s with heap:=h' }):wpAny (model prog w) A (Builtin.SmallTypes.nextOf (.ref u.i)) Q E s:=by
 grind[Sub.At,Sub.Src,jm,wpAny_nextOf_list_end]
abbrev G0 (h:Heap)(T:Addr)(O:VQ):Prop:=h.get? T=some { cls:=.type "tuple",data:=.seq O }
noncomputable def drawn (n:Nat):List (Sub×Array Value)->Nat->Array Value->Array Value
 | [],_,arr=>arr
 |u::r,c,arr=>drawn n r (c+1) (arr.setIfInBounds c (u.2.getD n .none))
def BG (prog:Program) (w:World) (A:Around) (z TO:Addr) (E:VZ) (B:Value×Nat->Option Fin×Unit->Sem (ForInStep (Option Fin×Unit))):Prop:=
 ∀ (v:Value) (k:Nat) (s:Shared) (Q:ForInStep (Option Fin×Unit)->Shared->Prop),
  wpAny (model prog w) A (Builtin.SmallTypes.nextOf v) (λx s1=>∃O,G0 s1.heap TO O/\O.size<=sizeLine/\∀h',G0 h' TO (O.setIfInBounds k x)->Heap.SameBut TO s1.heap h'->Q (.yield (none,())) { s1 with heap:=h' })
   (λe s1=>wpAny (model prog w) A (setField (.ref z) 0 .none) (λ_ s2=>E e s2) E s1) s->wpAny (model prog w) A (B (v,k) (none,())) Q E s
structure Apart (z TO:Addr) (ss:List (Sub×Array Value)):Prop where
 zTO:z≠TO
 zi:∀u∈ss,u.1.i≠z
 ti:∀u∈ss,u.1.i≠TO
 nd:ss.Pairwise λu v=>u.1.i≠v.1.i
 lz:∀u∈ss,u.1.l≠z
 lt:∀u∈ss,u.1.l≠TO
 li:∀u∈ss,∀v∈ss,u.1.l≠v.1.i
def Apart.tail {TO}(D:Apart z TO (u::ss)):Apart z TO ss:=
 ⟨D.zTO,λv O=>D.zi v (qA6 _ O),λv O=>D.ti v (qA6 _ O),(qQ7.mp D.nd).2,λv O=>D.lz v (qA6 _ O),λv O=>D.lt v (qA6 _ O),
  λv O x hx=>D.li v (qA6 _ O) x (qA6 _ hx)⟩
def draws {TI TO}(hB:BG prog w A z TO E B):
  ∀ (ss:List (Sub×Array Value)) c O s Q,Apart z TO ss->IsZip s.heap z TI TO .ellipsis->G0 s.heap TO O->O.size<=sizeLine ->
   (∀u∈ss,u.1.At s.heap n/\u.1.Src s.heap u.2/\∃x,u.2[n]?=some x) ->
   (∀ h',IsZip h' z TI TO .ellipsis->G0 h' TO (drawn n ss c O)->(∀u∈ss,u.1.At h' (n+1))->h'.objs.size=s.heap.objs.size ->
    (∀b o,b≠TO->(∀u∈ss,b≠u.1.i)->s.heap.get? b=some o->h'.get? b=some o)->Q (none,()) { s with heap:=h' }) ->
   wpAny (model prog w) A (forIn ((ss.map λu=>Value.ref u.1.i).zipIdx c) (none,()) B) Q E s:=by
 intro ss
 induction ss with
 | nil=>
  intro c O s Q D hz hT hl hu hQ;show qN2 (hQ _ hz hT (λ_ h=>absurd h qE3) rfl λ_ _ _ _ e=>e)
 | cons u r ih=>
  intro c O s Q D hz hT hl hu hQ;simp [List.zipIdx_cons];obtain ⟨ha,a4,x,hx⟩:=hu u qB2;refine qA0 (hB _ _ _ _ (Sub.item ha a4 hx λh1 a5 sb1=>⟨O,sb1.extBut _ _ (D.ti u qB2).symm hT,hl,λh2 a7 sb2=>?_⟩));have uz:=D.zi u qB2;have ut:=D.ti u qB2;have kp:∀b o,b≠TO->b≠u.1.i->s.heap.get? b=some o->h2.get? b=some o:=λb o h1 h2 e=>sb2.extBut _ _ h1 (sb1.extBut _ _ h2 e);have a0:∀v∈r,v.1.i≠u.1.i:=λv hv=>((qQ7.mp D.nd).1 v hv).symm;refine ih (c+1) (O.setIfInBounds c x) { s with heap:=h2 } Q D.tail (kp _ _ D.zTO uz.symm hz) a7 (by simpa using hl) (λv hv=>?_) λh3 z3 T3 a3 s3 k3=>?_
  .obtain ⟨a,b,y⟩:=hu v (qA6 _ hv);show ⟨a.keep λo e=>kp _ o (D.ti v (qA6 _ hv)) (a0 v hv) e,b.keep λo e=>kp _ o (D.lt v (qA6 _ hv)) (D.li v (qA6 _ hv) u qB2) e,y⟩
  .refine hQ h3 z3 ?_ (λv hv=>?_) (by rw[s3];change h2.objs.size=_;rw[sb2.1,sb1.1]) λb o h1 h2 e=>k3 b o h1 (λv hv=>h2 v (qA6 _ hv)) (kp b o h1 (h2 u qB2) e)
   .have e:u.2.getD n .none=x:=by simp_all
    grind[drawn]
   .rcases qC4.mp hv with rfl|hv
    .show a5.keep λo e=>k3 _ o ut (λv' a6=>(a0 v' a6).symm) (sb2.extBut _ _ ut e)
    .show a3 v hv
def wU {TI TO}(hh:A.handled=none) (hB:BG prog w A z TO E B):
  ∀ (ss:List (Sub×Array Value)) c a0 s Q,Apart z TO ss->IsZip s.heap z TI TO .ellipsis->G0 s.heap TO a0->a0.size<=sizeLine ->
   (∀u∈ss,u.1.At s.heap n/\u.1.Src s.heap u.2)->(∃u∈ss,u.2[n]?=none) ->
   (∀h' e,(∀b o,b≠z->b≠TO->(∀u∈ss,b≠u.1.i)->s.heap.get? b=some o->h'.get? b=some o)->(∃o,h'.get? e=some o/\o.cls=.type "StopIteration")->E (.ref e) { s with heap:=h' }) ->
   wpAny (model prog w) A (forIn ((ss.map λu=>Value.ref u.1.i).zipIdx c) (none,()) B) Q E s:=by
 intro ss
 induction ss with
 | nil=>
  intro c a0 s Q D hz hT hl hu hx hQ;obtain ⟨_,h,_⟩:=hx;show absurd h qE3
 | cons u r ih=>
  intro c a0 s Q D hz hT hl hu hx hQ;simp [List.zipIdx_cons];obtain ⟨ha,a3⟩:=hu u qB2;have uz:=D.zi u qB2;have ut:=D.ti u qB2;cases a4:u.2[n]? with
  | none=>
   refine qA0 (hB _ _ _ _ (Sub.ends hh ha a3 a4 λh1 e eb he=>?_));obtain ⟨oe,b0,a7⟩:=he;have b4:=eb _ _ uz.symm hz;have a5:e≠z:=λx=>ox;show qP3 b4 ZZ λh3 _ sb3=>hQ h3 e (λb o b1 b2 b3 q=>sb3.extBut _ _ b1 (eb _ _ (b3 u qB2) q)) ⟨oe,sb3.extBut _ _ a5 b0,a7⟩
  | some x=>
   refine qA0 (hB _ _ _ _ (Sub.item ha a3 a4 λh1 b5 sb1=>⟨a0,sb1.extBut _ _ ut.symm hT,hl,λh2 a6 sb2=>?_⟩));have kp:∀b o,b≠TO->b≠_->_=_->_=some o:=λb o h1 h2 e=>sb2.extBut _ _ h1 (sb1.extBut _ _ h2 e);have ab:=λv O=>((qQ7.mp D.nd).1 v O).symm;refine ih _ _ { s with heap:=h2 } Q D.tail (kp _ _ D.zTO uz.symm hz) a6 (by simpa using hl) (λv O=>?_) ?_ λh3 e k3 he=>?_
   .obtain ⟨a,b⟩:=hu v (qA6 _ O);show ⟨a.keep λo e=>kp _ o (D.ti v (qA6 _ O)) (ab v O) e,b.keep λo e=>kp _ o (D.lt v (qA6 _ O)) (D.li v (qA6 _ O) u qB2) e⟩
   .obtain ⟨v,O,e⟩:=hx;rcases qC4.mp O with rfl|O
    .rw[a4]at e;cases e
    .show ⟨v,O,e⟩
   .show hQ h3 e (λb o b1 b2 b3 q=>k3 b o b1 b2 (λv O=>b3 v (qA6 _ O)) (kp b o b2 (b3 u qB2) q)) he
def tz n:∀(ss:List (Sub×Array Value)) c (O:VQ),(drawn n ss c O).size=O.size:=by
 intro ss
 induction ss <;> grind[drawn]
def wV n:∀(ss:List (Sub×Array Value)) c (O:VQ),c+ss.length=O.size->(drawn n ss c O).toList=O.toList.take c++ss.map λu=>u.2.getD n .none:=by
 intro ss
 induction ss with
 | nil=>
  intro c O h;unfold drawn;subst h;rw[qK6,qG0];show (List.take_of_length_le ZZ).symm
 | cons u r ih=>
  intro c O h;unfold drawn;have hc:c<O.size:=by simp at h;omega
  grind[List.take_add_one,List.take_set,List.set_eq_of_length_le]
def xF {TI TO}(D:Apart z TO ss) (a7:ss ≠ []) (hsz:arr.size=ss.length) (a0:ss.length<=sizeLine) (hz:IsZip s.heap z TI TO .none) (a6:G0 s.heap TI (ss.map λu=>Value.ref u.1.i).toArray) (a5:G0 s.heap TO arr) (hu:∀u∈ss,u.1.At s.heap n/\u.1.Src s.heap u.2/\∃x,u.2[n]?=some x) (hQ:∀h',IsZip h' z TI TO (rawInt s.heap.objs.size)->(∃O,G0 h' TO O/\O.size=ss.length)->(∀u∈ss,u.1.At h' (n+1))->G0 h' s.heap.objs.size (ss.map λu=>u.2.getD n .none).toArray ->
   (∀b o,b≠z->b≠TO->(∀u∈ss,b≠u.1.i)->s.heap.get? b=some o->h'.get? b=some o)->Q (some (.ref s.heap.objs.size)) { s with heap:=h' }):
  wpAny (model prog w) A (pyNext (.ref z)) Q E s:=by
 have hT:s.TypeIs (.ref z) "zip" := ⟨_,hz,rfl⟩;refine qA0 (wpAny_attempt (qO3 hT qT6 (qO8 qT6 hT F.entry_zip_next ?_ (F.args_zip_next_1 _))))
 change wpAny _ _ (field _ 2>>=_) ..;refine qA0 (qO0 hz rfl rfl ?_);refine qA0 (qO0 hz rfl rfl ?_);refine qA0 (qN9 a6 rfl ?_);have e1:(ss.map λu=>Value.ref u.1.i).toArray.isEmpty=false:=by cases ss <;> simp_all
 simp [e1];refine qA0 ?_;unfold Builtin.SmallTypes.ownedTupleIsFree;refine qA0 (qO0 hz rfl (x:=.none) rfl (qN2 ?_));simp only [qN8];refine qA0 (qR2 ?_);refine qA0 (qO0 hz rfl (x:=.ref TO) rfl ?_);refine qA0 (qP3 hz ZZ λh1 z1 sb1=>?_);replace z1:IsZip h1 z TI TO .ellipsis:=z1
 refine qA0 (draws (TI:=TI) (n:=n) (z:=z) (TO:=TO) ?_ ss 0 arr _ _ D z1 (sb1.extBut _ _ D.zTO.symm a5) ox (λu hm=>?_) λh2 z2 T2 a2 s2 k2=>?_)
 .intro v k s Q h;refine qA0 (wpAny_onRaise ?_)
  change wpAny _ _ (Builtin.SmallTypes.nextOf v>>=_) _ _ _;refine qA0 (qO5 h (λx s1 ⟨arr,hT1,hl,hq⟩=>qN2 ?_) λe s1 he=>he);refine qA0 (qN9 hT1 rfl ?_);refine qA0 (qP4 hT1 rfl ?_ hl (by rw[qQ8];omega));refine qA0 (qQ2 (qN2 (hq _ ?_ (qG9 ..))))
  change Heap.get? _ _=_;rw[qI3 _ hT1 rfl];simp [Obj.mapSeq]
 .obtain ⟨a,b,x⟩:=hu u hm;show ⟨a.keep λo e=>sb1.extBut _ _ (D.zi u hm) e,b.keep λo e=>sb1.extBut _ _ (D.lz u hm) e,x⟩
 .have ed:(drawn n ss 0 arr).toList=ss.map λu=>u.2.getD n .none:=by rw[wV n ss 0 arr ox];simp
  refine qA0 (qN9 T2 rfl ?_);have a3:h2.objs.size=s.heap.objs.size:=by rw[s2];show sb1.1
  have a4:z<h2.objs.size:=qB0 z2;refine qA0 (qR3 (qA0 ?_) (by rw[ed,qA4];show a0));unfold Builtin.SmallTypes.ownedTupleHandOut;have z3:IsZip (h2.push { cls:=.type "tuple",data:=.seq (drawn n ss 0 arr).toList.toArray }) z TI TO .ellipsis:=qA1 _ z2;refine qA0 (qP3 z3 ZZ λh4 z4 sb4=>?_);replace z4:IsZip h4 z TI TO (rawInt h2.objs.size):=z4
  refine qP3 z4 ZZ λh5 z5 sb5=>?_;replace z5:IsZip h5 z TI TO (rawInt h2.objs.size):=z5
  have up:∀b o,b≠z->h2.get? b=some o->h5.get? b=some o:=λb o hb e=>sb5.extBut _ _ hb (sb4.extBut _ _ hb (qA1 _ e));have T5:G0 h5 h2.objs.size (drawn n ss 0 arr).toList.toArray:=sb5.extBut _ _ (qI6 a4) (sb4.extBut _ _ (qI6 a4) (qB5 _ rfl));rw[ed]at T5;rw[a3]at z5 T5;refine qN2 ⟨_,rfl,qN2 ?_⟩
  change Q (some (.ref h2.objs.size)) _;rw[a3];show hQ h5 z5 ⟨_,up _ _ D.zTO.symm T2,by rw[tz,hsz]⟩ (λu hm=>(a2 u hm).keep λo e=>up _ o (D.zi u hm) e) T5 λb o b1 b2 b3 e=>up b o b1 (k2 b o b2 b3 (sb1.extBut _ _ b1 e))
def xE {TI TO}(hh:A.handled=none) (D:Apart z TO ss) (hsz:arr.size=ss.length) (a3:ss.length<=sizeLine) (hz:IsZip s.heap z TI TO .none) (a4:G0 s.heap TI (ss.map λu=>Value.ref u.1.i).toArray) (a0:G0 s.heap TO arr) (hu:∀u∈ss,u.1.At s.heap n/\u.1.Src s.heap u.2) (hx:∃u∈ss,u.2[n]?=none) (hQ:∀h',(∀b o,b≠z->b≠TO->(∀u∈ss,b≠u.1.i)->s.heap.get? b=some o->h'.get? b=some o)->Q none { s with heap:=h' }):
  wpAny (model prog w) A (pyNext (.ref z)) Q E s:=by
 have hT:s.TypeIs (.ref z) "zip" := ⟨_,hz,rfl⟩;refine qA0 (wpAny_attempt (qO3 hT qT6 (qO8 qT6 hT F.entry_zip_next ?_ (F.args_zip_next_1 _))))
 change wpAny _ _ (field _ 2>>=_) ..;refine qA0 (qO0 hz rfl rfl ?_);refine qA0 (qO0 hz rfl rfl ?_);refine qA0 (qN9 a4 rfl ?_);have e1:(ss.map λu=>Value.ref u.1.i).toArray.isEmpty=false:=by
  obtain ⟨u,hm,_⟩:=hx;cases ss with
  |nil=>show nomatch hm
  |cons a b=>simp
 simp [e1];refine qA0 ?_;refine qA0 (qO0 hz rfl rfl (qN2 ?_));refine qA0 (qR2 ?_);refine qA0 (qO0 hz rfl rfl ?_);refine qA0 (qP3 hz ZZ λh1 z1 sb1=>?_);refine qA0 (wU (TI:=TI) (z:=z) (show A.in1.handled=none from hh) ?_ ss 0 arr _ _ D z1 (sb1.extBut _ _ D.zTO.symm a0) ox (λu hm=>?_) hx λh2 e k2 O=>?_)
 .intro v k s Q h;refine qA0 (wpAny_onRaise ?_)
  change wpAny _ _ (Builtin.SmallTypes.nextOf v>>=_) _ _ _;refine qA0 (qO5 h (λx s1 ⟨arr,hT1,hl,hq⟩=>qN2 ?_) λe s1 O=>O);refine qA0 (qN9 hT1 rfl ?_);refine qA0 (qP4 hT1 rfl ?_ hl (by rw[qQ8];omega));refine qA0 (qQ2 (qN2 (hq _ ?_ (qG9 ..))))
  change Heap.get? _ _=_;rw[qI3 _ hT1 rfl];simp [Obj.mapSeq]
 .obtain ⟨a,b⟩:=hu u hm;show ⟨a.keep λo e=>sb1.extBut _ _ (D.zi u hm) e,b.keep λo e=>sb1.extBut _ _ (D.lz u hm) e⟩
 .obtain ⟨o,ho,hc⟩:=O;refine qA0 (wpAny_isInstance (T := "StopIteration") (b:=true) ⟨o,ho,hc⟩ isSubtype_stop ?_);show qN2 (hQ _ λb o b1 b2 b3 e=>k2 b o b1 b2 b3 (sb1.extBut _ _ b1 e))
def SrcAt (h:Heap)(u:Bool×Addr×Array Value):Prop:=if u.1=true then h.IsTuple u.2.1 u.2.2 else h.IsList u.2.1 u.2.2
noncomputable def l6 (n:Nat):List (Bool×Addr×Array Value)->List (Sub×Array Value)
 | []=>[]
 |u::r=>(⟨u.1,n,u.2.1⟩,u.2.2)::l6 (n+1) r
def zS (hs:SrcAt s.heap u) (hQ:∀h',(Sub.mk u.1 s.heap.objs.size u.2.1).At h' 0->h'.objs.size=s.heap.objs.size+1->(∀b o,s.heap.get? b=some o->h'.get? b=some o)->Q (.ref s.heap.objs.size) { s with heap:=h' }):
  wpAny (model prog w) A (pyIter (.ref u.2.1)) Q E s:=by
 unfold SrcAt at hs;cases O:u.1 with
 | true=>
  simp [O]at hs;refine qO9 hs (hQ _ ?_ (qG1 ..) λb o e=>qA1 _ e);simp [O];show ⟨_,qB5 _ rfl,rfl,rfl⟩
 | false=>
  simp [O,qO2]at hs;refine qO7 hs (hQ _ ?_ (qG1 ..) λb o e=>qA1 _ e);simp [O,qO2];show ⟨_,qB5 _ rfl,rfl,rfl⟩
def SrcAt.keep (x:SrcAt h u) (k:∀b o,h.get? b=some o->h'.get? b=some o):SrcAt h' u:=by
 unfold SrcAt at x ⊢
 split at x <;> (rename_i ht;obtain ⟨o,e,r⟩:=x;simp [ht,qO2];show ⟨o,k _ o e,r⟩)
def pq:∀(us:List (Bool×Addr×Array Value)) (O:VQ) s (Q:Array Value->Shared->Prop),(∀u∈us,SrcAt s.heap u) ->
  (∀ h',(∀v∈l6 s.heap.objs.size us,v.1.At h' 0)->h'.objs.size=s.heap.objs.size+us.length->(∀b o,s.heap.get? b=some o->h'.get? b=some o) ->
   Q (O++((l6 s.heap.objs.size us).map λv=>Value.ref v.1.i).toArray) { s with heap:=h' }) ->
  wpAny (model prog w) A (forIn (us.map λu=>Value.ref u.2.1) O λx r=>do let y <- holding r.toList (pyIter x);pure (ForInStep.yield (r.push y))) Q E s:=by
 intro us
 induction us with
 | nil=>
  intro O s Q _ hQ
  have:=hQ _ (λ_ h=>absurd h qE3) rfl λ_ _ e=>e
  show qN2 (by simpa [l6]using this)
 | cons u r ih=>
  intro O s Q hs hQ;simp only [qE1,qT7];refine qA0 (qA0 (qN6 (zS (hs u qB2) λh1 a1 s1 k1=>qN2 ?_)));refine ih _ { s with heap:=h1 } Q (λv hv=>(hs v (qA6 _ hv)).keep k1) λh2 a2 s2 k2=>?_;have q:=hQ h2 (λv hv=>?_) (by rw[s2];rw[s1,qB9];omega) λb o e=>k2 b o (k1 b o e)
  .simp_all[l6]
  .rcases qC4.mp hv with rfl|hv
   .show a1.keep λo e=>k2 _ o e
   grind
def zT (hs:∀u∈us,SrcAt s.heap u) (O:∀h',(∀v∈l6 s.heap.objs.size us,v.1.At h' 0)->h'.objs.size=s.heap.objs.size+us.length->(∀b o,s.heap.get? b=some o->h'.get? b=some o) ->
   Q ((l6 s.heap.objs.size us).map λv=>Value.ref v.1.i) { s with heap:=h' }):wpAny (model prog w) A (Builtin.SmallTypes.iterAll (us.map λu=>Value.ref u.2.1)) Q E s:=by
 refine qA0 (pq us #[] s _ hs λh' a1 s1 k1=>qN2 ?_)
 have:=O h' a1 s1 k1
 simpa using this
def T0:∀(us:List (Bool×Addr×Array Value)) n,(l6 n us).length=us.length:=by
 intro us
 induction us with
 |nil=>intro n;rfl
 |cons u r O=>intro n;unfold l6;rw[qB9,O,qB9]
def kj (us:List (Bool×Addr×Array Value)) (hl:us.length<=sizeLine) :
  Meets (Builtin.«zip.__new__» ⟨.type "zip" :: us.map λu=>Value.ref u.2.1,[]⟩) (λ_ R s=>(∀u∈us,SrcAt s.heap u) /\
   ∀ h',(∀v∈l6 s.heap.objs.size us,v.1.At h' 0)->G0 h' (s.heap.objs.size+us.length) ((l6 s.heap.objs.size us).map λv=>Value.ref v.1.i).toArray ->
    (∃a0,G0 h' (s.heap.objs.size+us.length+1) a0/\a0.size=us.length)->IsZip h' (s.heap.objs.size+us.length+2) (s.heap.objs.size+us.length) (s.heap.objs.size+us.length+1) .none ->
    (∀b o,s.heap.get? b=some o->h'.get? b=some o)->R (.ok (.ret (.ref (s.heap.objs.size+us.length+2)))) { s with heap:=h' }):=
 .of_wp λprog w A R s h=>by
  obtain ⟨hs,h⟩:=h;refine qA0 ?_;refine qA0 (wpAny_of_eq rfl ?_);refine qA0 (wpAny_of_eq sub_zip ?_);refine qN2 ?_;refine qA0 (zT hs λO a1 s1 k1=>?_);refine qA0 (qR3 ?_ (by simp [T0,hl]));refine qA0 (qR3 ?_ (by simp [T0,hl]));generalize hI:((l6 s.heap.objs.size us).map λv=>Value.ref v.1.i)=I at h ⊢
  have a3:I.length=us.length:=by rw[<- hI,qA4,T0]
  refine qA0 ?_
  change wpAny _ _ (newObj (.type "zip") (.fields #[.none,.bool false,.bool false,.ref O.objs.size,.ref (O.push { cls:=.type "tuple",data:=.seq I.toArray }).objs.size]) none) _ _ _;refine qO4 (qN2 ?_) (by size_fits);have z0:O.objs.size=s.heap.objs.size+us.length:=s1;have z1:(O.push { cls:=.type "tuple",data:=.seq I.toArray }).objs.size=s.heap.objs.size+us.length+1:=by rw[qG1,s1]
  have z2:((O.push { cls:=.type "tuple",data:=.seq I.toArray }).push { cls:=.type "tuple",data:=.seq (I.map λ_=>Value.none).toArray }).objs.size=s.heap.objs.size+us.length+2:=by rw[qG1,z1]
  refine ⟨_,rfl,?_⟩;have g:=h (((O.push { cls:=.type "tuple",data:=.seq I.toArray }).push { cls:=.type "tuple",data:=.seq (I.map λ_=>Value.none).toArray }).push { cls:=.type "zip",data:=.fields #[.none,.bool false,.bool false,.ref O.objs.size,.ref (O.push { cls:=.type "tuple",data:=.seq I.toArray }).objs.size] })
   (λv hv=>(a1 v hv).keep λo e=>qA1 _ (qA1 _ (qA1 _ e))) ?_ ⟨(I.map λ_=>Value.none).toArray,?_,by simp [a3]⟩ ?_ λb o e=>qA1 _ (qA1 _ (qA1 _ (k1 b o e)))
  .rw [<- z2]at g
   show g
  .rw[<- z0];show qA1 _ (qA1 _ (qB5 _ rfl))
  .rw[<- z1];show qA1 _ (qB5 _ rfl)
  .rw[<- z2,<- z1,<- z0];show qB5 _ rfl
def rQ a b c:checkTypeCall "zip" ⟨[a,b,c],[]⟩=pure ():=ZY
def sJ a b c:checkBuiltinCall "zip.__new__" ⟨[.type "zip",a,b,c],[]⟩=pure ():=ZY
def tP a b c d:argsOk "object.__init__" ⟨[a,b,c,d],[]⟩:=by
 unfold argsOk;kernel_rfl
def AE (us:List (Bool×Addr×Array Value)) (O:us.length=2\/us.length=3) (hs:∀u∈us,SrcAt s.heap u) (h:∀h',(∀v∈l6 s.heap.objs.size us,v.1.At h' 0)->G0 h' (s.heap.objs.size+us.length) ((l6 s.heap.objs.size us).map λv=>Value.ref v.1.i).toArray ->
    (∃a0,G0 h' (s.heap.objs.size+us.length+1) a0/\a0.size=us.length)->IsZip h' (s.heap.objs.size+us.length+2) (s.heap.objs.size+us.length) (s.heap.objs.size+us.length+1) .none ->
    (∀b o,s.heap.get? b=some o->h'.get? b=some o)->Q (.ref (s.heap.objs.size+us.length+2)) { s with heap:=h' }):
  wpAny (model prog w) A (call (.type "zip") (us.map λu=>Value.ref u.2.1)) Q E s:=by
 have a3:us.length<=sizeLine:=qD3 (show us.length<=3 by omega) ZQ;have k:∀h',_->_->_->_->_->({ s with heap:=h' }).TypeIs (.ref (s.heap.objs.size+us.length+2)) "zip" /\ Q (.ref (s.heap.objs.size+us.length+2)) { s with heap:=h' }:=λh' c1 c2 c3 c4 c5=>⟨⟨_,c4,rfl⟩,h h' c1 c2 c3 c4 c5⟩;cases us with
 |nil=>rcases O with O|O <;> cases O
 | cons a us=>
  cases us with
  |nil=>rcases O with O|O <;> cases O
  | cons b us=>
   cases us with
   |nil=>show callType_new F.called_zip ZQ (F.typeCall_zip_2 _ _) (F.newCall_zip_2 _ _) (λobj=>F.args_object_init_3 obj _ _) F.entry_zip_new (kj [a,b] a3) ⟨hs,k⟩
   | cons c us=>
    cases us with
    |nil=>show callType_new F.called_zip ZQ (rQ _ _ _) (sJ _ _ _) (λobj=>tP obj _ _ _) F.entry_zip_new (kj [a,b,c] a3) ⟨hs,k⟩
    |cons d us=>rcases O with O|O <;> (simp only [qB9]at O;omega)
end L2
namespace L2
open PySem PySem.Spec PyProof.Rows
def aV {c d:Type}{R:c->d->Prop}:∀{l:List c},(∀a∈l,∃b,R a b)->∃O:List (c×d),O.map (·.1)=l/\∀p∈O,R p.1 p.2:=by
 intro l
 induction l with
 |nil=>show λ_=>⟨[],rfl,λ_ h=>absurd h qE3⟩
 | cons a l ih=>
  intro h;obtain ⟨b,hb⟩:=h a qB2;obtain ⟨O,e,q⟩:=ih λx hx=>h x (qA6 _ hx);refine ⟨(a,b)::O,by rw[qE1,e],λp hp=>?_⟩
  grind
def Sq (K:Frag)(H:Hp)(t:Bool)(a:Addr)(xs:List V):Prop:=if t=true then SqT K H a xs else SqL K H a xs
def kne {c:St}(I:Inv X pins c H s) (h:X.K.lookup a=some o) (f:C3 X pins H b):a≠b:=by
 intro e;subst e;have O:=I.mod.kin a o h;obtain ⟨f0,f1,f2,f3,f4,f5⟩:=f;rcases f3 with z|z
 .show I.ok.noex a o O z
 .show absurd (qB4 (qB0 (I.ok.bs a o O).1) z) (qE9 _)
def Sq.ne {c:St}(I:Inv X pins c H s) (h:Sq X.K H t a xs) (f:C3 X pins H b):a≠b:=by
 have O:∀{u:HO},Rd H a u->a≠b:=λ{u} r e=>by
  subst e;have f0:=f.1;rcases r with r|⟨o,r⟩ <;> (rw[f0]at r;cases r)
 unfold Sq at h
 split at h
 .rcases h with h|⟨o,its,n,hk,_⟩
  .show O h
  .show kne I hk f
 .rcases h with h|⟨o,its,n,hk,_⟩
  .show O h
  .show kne I hk f
def Sq.src {b:St}(I:Inv X pins b H s) (h:Sq X.K H t a xs):∃its:List Value,Vals xs its/\(Sub.mk t 0 a).Src s.heap its.toArray:=by
 unfold Sq at h
 split at h
 .rename_i ht
  obtain ⟨its,r,p,_⟩:=I.tuple h;show ⟨its,r,by simp [ht];show p⟩
 .rename_i ht
  obtain ⟨its,r,p,_⟩:=I.list h;show ⟨its,r,by simp [ht];show p.isList⟩
def Sq.inj {b:St}(I:Inv X pins b H s) (h:Sq X.K H t a xs) (h':Sq X.K H t a ys):xs=ys:=by
 unfold Sq at h h'
 split at h
 .rename_i ht;simp [ht]at h';show I.tuple_inj h h'
 .rename_i ht;simp [ht]at h';show I.list_inj h h'
noncomputable def ItZ (K:Frag) (us:List (Bool×Addr)):It:=
  ⟨fun i H=>∀u∈us,∃xs x,Sq K H u.1 u.2 xs/\xs[i]?=some x,
   λi H x H'=>∃p ys,x=.ref p/\H p=none/\H'=upd H p (.tup ys)/\Paired (λ(u:Bool×Addr) (y:V)=>∀xs,Sq K H u.1 u.2 xs->xs[i]?=some y) us ys,
   λi H=>(∀u∈us,∃xs,Sq K H u.1 u.2 xs)/\∃u∈us,∃xs,Sq K H u.1 u.2 xs/\xs.length<=i⟩
structure ZSt (z TI TO:Addr) (subs:List Sub):Prop where
 zTO:z≠TO
 TIz:TI≠z
 TITO:TI≠TO
 zi:∀u∈subs,u.i≠z
 ti:∀u∈subs,u.i≠TO
 Ii:∀u∈subs,u.i≠TI
 nd:subs.Pairwise λu v=>u.i≠v.i
abbrev zTn (z TI TO:Addr) (subs:List Sub) (i:Nat) (h:Heap):Prop:=
 IsZip h z TI TO .none/\G0 h TI (subs.map λu=>Value.ref u.i).toArray/\(∃O,G0 h TO O/\O.size=subs.length)/\∀u∈subs,u.At h i
def P9 {O:Type}{F:c->a->Prop}{f:O->c}{g:O->a}:∀{l:List O},(∀b∈l,F (f b) (g b))->Paired F (l.map f) (l.map g)
 | [],_=>.nil
 |_::_,h=>.cons (h _ qB2) (P9 λb hb=>h b (qA6 _ hb))
def xR {K}{TI TO}(D:ZSt z TI TO subs) (d1:subs ≠ []) (c4:subs.length<=sizeLine):
  Turn P w K (.Tuple elts k tp) (ItZ K (subs.map λu=>(u.t,u.l))) (z::TI::TO::subs.map (·.i)) z (zTn z TI TO subs) where
 mem:=ZZ
 obj:=λi h st b hb=>by
  obtain ⟨hz,a5,⟨b4,a7,_⟩,hs⟩:=st;simp [qB1]at hb;rcases hb with rfl|rfl|rfl|⟨u,hu,rfl⟩
  .show ⟨_,hz,λv q=>by cases q⟩
  .show ⟨_,a5,λv q=>by cases q⟩
  .show ⟨_,a7,λv q=>by cases q⟩
  .obtain ⟨o,e,d⟩:=(hs u hu).obj;show ⟨o,e,λv q=>by rw[d]at q;cases q⟩
 keep:=λi h h' st kp=>by
  obtain ⟨hz,a5,⟨b4,a7,ha⟩,hs⟩:=st;show ⟨kp z ZZ _ hz,kp TI ZZ _ a5,⟨b4,kp TO ZZ _ a7,ha⟩,λu hu=>(hs u hu).keep λo e=>kp u.i (by grind) o e⟩
 item:=by
  intro X hP hw hK hc i pins s a H E I hf st hg;subst hP hw hK;obtain ⟨hz,a5,⟨b4,a7,ha⟩,hs⟩:=st;have fz:=hf z ZZ;have fT:=hf TO ZZ;have fi:∀u∈subs,C3 X pins H u.i:=λu hu=>hf u.i (by grind);obtain ⟨ss,a6,a0⟩:=aV (R:=λ(u:Sub) (q:List Value×List V×V)=>Sq X.K H u.t u.l q.2.1/\Vals q.2.1 q.1/\u.Src s.heap q.1.toArray/\q.2.1[i]?=some q.2.2) (l:=subs) (λu hu=>by
   obtain ⟨xs,x,h1,h2⟩:=hg (u.t,u.l) (qB1.mpr ⟨u,hu,rfl⟩);obtain ⟨its,r,b0⟩:=Sq.src I h1;show ⟨(its,xs,x),h1,r,b0,h2⟩)
  have a3:∀v∈ss,v.1∈subs:=λv O=>by grind
  have b5:ss.Pairwise λu v=>u.1.i≠v.1.i:=by
   have:=D.nd
   grind
  have DA:Apart z TO (ss.map λv=>(v.1,v.2.1.toArray)):=by
   refine ⟨D.zTO,?_,?_,?_,?_,?_,?_⟩
   .rintro _ hu;obtain ⟨v,O,rfl⟩:=qB1.mp hu;show D.zi _ (a3 v O)
   .rintro _ hu;obtain ⟨v,O,rfl⟩:=qB1.mp hu;show D.ti _ (a3 v O)
   .rw[qI8];show b5
   .rintro _ hu;obtain ⟨v,O,rfl⟩:=qB1.mp hu;show Sq.ne I (a0 v O).1 fz
   .rintro _ hu;obtain ⟨v,O,rfl⟩:=qB1.mp hu;show Sq.ne I (a0 v O).1 fT
   .rintro _ hu _ c0;obtain ⟨v,O,rfl⟩:=qB1.mp hu;obtain ⟨v2,b6,rfl⟩:=qB1.mp c0;show Sq.ne I (a0 v O).1 (fi _ (a3 v2 b6))
  have el:(ss.map λv=>(v.1,v.2.1.toArray)).length=subs.length:=by grind
  have eI:((ss.map λv=>(v.1,v.2.1.toArray)).map λu=>Value.ref u.1.i)=subs.map λu=>Value.ref u.i:=by rw[<- a6,qC0,qC0];rfl
  have ys:∀v∈ss,∃u,v.2.1.toArray[i]?=some u/\RelV v.2.2.2 u:=λv O=>by
   obtain ⟨u,e,r⟩:=(a0 v O).2.1.get (a0 v O).2.2.2;show ⟨u,by simpa using e,r⟩
  refine xF (n:=i) DA (by grind) (by rw[ha,el]) (by rw[el];show c4) hz (by rw[eI];show a5) a7 (λu hu=>?_) λh1 z1 T1 a1 p1 k1=>?_
  .obtain ⟨v,O,rfl⟩:=qB1.mp hu;obtain ⟨u,e,_⟩:=ys v O;show ⟨hs _ (a3 v O),(a0 v O).2.2.1,u,e⟩
  refine ⟨_,rfl,wpAny_letOwnedTupleGo_zip z1 λh2 z2 sb2=>?_⟩;have c5:z<s.heap.objs.size:=qB0 hz;have kp:∀b o,b≠z->b≠TO->(∀u∈subs,b≠u.i)->s.heap.get? b=some o->h2.get? b=some o:=λb o b1 b2 b3 e=>sb2.extBut _ _ b1 (k1 b o b1 b2 (λu hu=>by obtain ⟨v,O,rfl⟩:=qB1.mp hu;show b3 _ (a3 v O)) e);have ab:H s.heap.objs.size=none:=I.hok.fresh (qB3 _);have trk:∀b u,H b=some u->b≠z/\b≠TO/\∀v∈subs,b≠v.i:=λb u e=>⟨λq=>(by subst q;rw[fz.1]at e;cases e),λq=>(by subst q;rw[fT.1]at e;cases e),λv O q=>(by subst q;rw[(fi v O).1]at e;cases e)⟩;have cy:G0 h2 s.heap.objs.size (ss.map λv=>v.2.1.toArray.getD i .none).toArray:=by
   have:=sb2.extBut _ _ (qI6 c5) p1
   rw[qC0]at this;show this
  have cc:Vals (ss.map λv=>v.2.2.2) (ss.map λv=>v.2.1.toArray.getD i .none):=P9 λv O=>by
   obtain ⟨u,e,r⟩:=ys v O;simp_all
  have len:(ss.map λv=>v.2.2.2).length<=sizeLine:=by grind
  refine ⟨.ref s.heap.objs.size,upd H s.heap.objs.size (.tup (ss.map λv=>v.2.2.2)),?_,rfl,⟨_,_,rfl,ab,rfl,?_⟩,⟨z2,?_,?_,λu hu=>?_⟩,λb hb=>?_⟩
  .change Inv X pins a _ { s with heap:=h2 };refine I.step (g':=s.gens) (t':=s.toks) (d':=s.drawn) (ch:=z::TO::subs.map (·.i)) (λb hb=>?_) (λb o _ _ hc e _=>kp b o ?_ ?_ ?_ e) (λb o _ _ hc e _=>⟨o.slots,kp b o ?_ ?_ ?_ e⟩) (λb o hc e n=>?_) (λb o hc e=>⟨o,kp b o ?_ ?_ ?_ e⟩) (λb xs e=>?_) (λb o u e=>?_) (λb ps e=>?_) (λm hm=>?_) ?_ I.bare
   .simp only [qC4,qB1]at hb;rcases hb with rfl|rfl|⟨u,hu,rfl⟩
    .show ⟨fz.2.2.2.1,fz.2.1,fz.2.2.2.2.1,fz.2.2.2.2.2⟩
    .show ⟨fT.2.2.2.1,fT.2.1,fT.2.2.2.2.1,fT.2.2.2.2.2⟩
    .have f:=fi u hu;show ⟨f.2.2.2.1,f.2.1,f.2.2.2.2.1,f.2.2.2.2.2⟩
   all_goals first
    | (intro q;show hc (by simp [q];done))
    | (intro u hu q;show hc (by rw[q];show qA6 _ (qA6 _ (qB1.mpr ⟨u,hu,rfl⟩))))
    |skip
   .rw[c7 (qB7 (qB0 e))];show n
   .rw[c7 (i0 e ab)];show e
   .rw[c7 (i0 e ab)];show e
   .rw[c7 (i0 e ab)];show e
   .obtain ⟨o,es,ep,ho,r⟩:=hm;show ⟨o,es,ep,kp _ o (Ne.symm fz.2.1) (Ne.symm fT.2.1) (λu hu=>Ne.symm (fi u hu).2.1) ho,r⟩
   .intro b u e;by_cases hb:b=s.heap.objs.size
    .subst hb;rw[j7]at e;cases e;show ⟨len,_,cc,⟨_,cy,rfl,_,rfl⟩⟩
    .rw [c7 hb]at e
     refine (I.hok b u e).stay (λc v a4 q=>?_) (λc q=>by rw[c7 (i0 q ab)];show q) λc xs q=>by rw[c7 (i0 q ab)];show q
     rcases a4 with rfl|a4
     .show kp _ v (trk _ _ e).1 (trk _ _ e).2.1 (trk _ _ e).2.2 q
     .show kp _ v (trk _ _ a4).1 (trk _ _ a4).2.1 (trk _ _ a4).2.2 q
  .rw [<- a6,qC0]
   show P9 λv O xs hx=>by rw[Sq.inj I hx (a0 v O).1];show (a0 v O).2.2.2
  .show kp TI _ D.TIz D.TITO (λu hu=>Ne.symm (D.Ii u hu)) a5
  .obtain ⟨c3,cv,cn⟩:=T1;show ⟨c3,sb2.extBut _ _ D.zTO.symm cv,by rw[cn,el]⟩
  .have O:∃v∈ss,v.1=u:=by rw[<- a6]at hu;show qB1.mp hu
   obtain ⟨v,O,rfl⟩:=O;show (a1 (v.1,v.2.1.toArray) (qB1.mpr ⟨v,O,rfl⟩)).keep λo e=>sb2.extBut _ _ (D.zi _ (a3 v O)) e
  .have:b≠s.heap.objs.size:=by
    simp only [qC4,qB1]at hb;rcases hb with rfl|rfl|rfl|⟨u,hu,rfl⟩
    .show qB7 c5
    .show qB7 (qB0 a5)
    .show qB7 (qB0 a7)
    .obtain ⟨o,e,_⟩:=(hs u hu).obj;show qB7 (qB0 e)
   rw[c7 this];show (hf b hb).1
 done:=by
  intro X hP hw hK hc i pins s a H E I hf st hg;subst hP hw hK;obtain ⟨hz,a5,⟨b4,a7,ha⟩,hs⟩:=st;obtain ⟨c1,u0,cp,d2,d0,hl0⟩:=hg;have fz:=hf z ZZ;have fT:=hf TO ZZ;have fi:∀u∈subs,C3 X pins H u.i:=λu hu=>hf u.i (by simp only [qC4,qB1];show .inr (.inr (.inr ⟨u,hu,rfl⟩)));obtain ⟨ss,a6,a0⟩:=aV (R:=λ(u:Sub) (q:List Value×List V)=>Sq X.K H u.t u.l q.2/\Vals q.2 q.1/\u.Src s.heap q.1.toArray) (l:=subs) (λu hu=>by
   obtain ⟨xs,h1⟩:=c1 (u.t,u.l) (qB1.mpr ⟨u,hu,rfl⟩);obtain ⟨its,r,b0⟩:=Sq.src I h1;show ⟨(its,xs),h1,r,b0⟩)
  have a3:∀v∈ss,v.1∈subs:=λv O=>by rw[<- a6];show qB1.mpr ⟨v,O,rfl⟩
  have b5:ss.Pairwise λu v=>u.1.i≠v.1.i:=by
   have:=D.nd
   rw[<- a6,qI8]at this;show this
  have DA:Apart z TO (ss.map λv=>(v.1,v.2.1.toArray)):=by
   refine ⟨D.zTO,?_,?_,?_,?_,?_,?_⟩
   .rintro _ hu;obtain ⟨v,O,rfl⟩:=qB1.mp hu;show D.zi _ (a3 v O)
   .rintro _ hu;obtain ⟨v,O,rfl⟩:=qB1.mp hu;show D.ti _ (a3 v O)
   .rw[qI8];show b5
   .rintro _ hu;obtain ⟨v,O,rfl⟩:=qB1.mp hu;show Sq.ne I (a0 v O).1 fz
   .rintro _ hu;obtain ⟨v,O,rfl⟩:=qB1.mp hu;show Sq.ne I (a0 v O).1 fT
   .rintro _ hu _ c0;obtain ⟨v,O,rfl⟩:=qB1.mp hu;obtain ⟨v2,b6,rfl⟩:=qB1.mp c0;show Sq.ne I (a0 v O).1 (fi _ (a3 v2 b6))
  have el:(ss.map λv=>(v.1,v.2.1.toArray)).length=subs.length:=by rw[qA4,<- a6,qA4]
  have eI:((ss.map λv=>(v.1,v.2.1.toArray)).map λu=>Value.ref u.1.i)=subs.map λu=>Value.ref u.i:=by rw[<- a6,qC0,qC0];rfl
  refine xE (n:=i) (I.ok.hd hc) DA (by rw[ha,el]) (by rw[el];show c4) hz (by rw[eI];show a5) a7 (λu hu=>?_) ?_ λh1 k1=>⟨rfl,?_⟩
  .obtain ⟨v,O,rfl⟩:=qB1.mp hu;show ⟨hs _ (a3 v O),(a0 v O).2.2⟩
  .obtain ⟨u,hu,e0⟩:=qB1.mp cp;have O:∃v∈ss,v.1=u:=by rw[<- a6]at hu;show qB1.mp hu
   obtain ⟨v,O,rfl⟩:=O;subst e0;refine ⟨(v.1,v.2.1.toArray),qB1.mpr ⟨v,O,rfl⟩,?_⟩;have e1:=Sq.inj I (a0 v O).1 d0;have e2:=(a0 v O).2.1.length;rw[e1]at e2;simp only [List.getElem?_toArray];show qH2 ox
  .have kp:∀b o,b≠z->b≠TO->(∀u∈subs,b≠u.i)->s.heap.get? b=some o->h1.get? b=some o:=λb o b1 b2 b3 e=>k1 b o b1 b2 (λu hu=>by obtain ⟨v,O,rfl⟩:=qB1.mp hu;show b3 _ (a3 v O)) e;have trk:∀b u,H b=some u->b≠z/\b≠TO/\∀v∈subs,b≠v.i:=λb u e=>⟨λq=>(by subst q;rw[fz.1]at e;cases e),λq=>(by subst q;rw[fT.1]at e;cases e),λv O q=>(by subst q;rw[(fi v O).1]at e;cases e)⟩;refine I.step (g':=s.gens) (t':=s.toks) (d':=s.drawn) (ch:=z::TO::subs.map (·.i)) (λb hb=>?_) (λb o _ _ hc e _=>kp b o ?_ ?_ ?_ e) (λb o _ _ hc e _=>⟨o.slots,kp b o ?_ ?_ ?_ e⟩) (λb o hc e n=>n) (λb o hc e=>⟨o,kp b o ?_ ?_ ?_ e⟩) (λb xs e=>e) (λb o u e=>e) (λ_ _ e=>e) (λm hm=>?_) (λb u e=>?_) I.bare
   .simp only [qC4,qB1]at hb;rcases hb with rfl|rfl|⟨u,hu,rfl⟩
    .show ⟨fz.2.2.2.1,fz.2.1,fz.2.2.2.2.1,fz.2.2.2.2.2⟩
    .show ⟨fT.2.2.2.1,fT.2.1,fT.2.2.2.2.1,fT.2.2.2.2.2⟩
    .have f:=fi u hu;show ⟨f.2.2.2.1,f.2.1,f.2.2.2.2.1,f.2.2.2.2.2⟩
   all_goals first
    | (intro q;show hc (by simp [q];done))
    | (intro u hu q;show hc (by rw[q];show qA6 _ (qA6 _ (qB1.mpr ⟨u,hu,rfl⟩))))
    |skip
   .obtain ⟨o,es,ep,ho,r⟩:=hm;show ⟨o,es,ep,kp _ o (Ne.symm fz.2.1) (Ne.symm fT.2.1) (λu hu=>Ne.symm (fi u hu).2.1) ho,r⟩
   .refine (I.hok b u e).stay (λc v a4 q=>?_) (λc q=>q) λc xs q=>q;rcases a4 with rfl|a4
    .show kp _ v (trk _ _ e).1 (trk _ _ e).2.1 (trk _ _ e).2.2 q
    .show kp _ v (trk _ _ a4).1 (trk _ _ a4).2.1 (trk _ _ a4).2.2 q
 self:=λ_ _ _ _ _ st h=>wpAny_pyIter_zip st.1 h
def IP (K:Frag)(ta:TA):TI:=λa H R=>ta a H λvs H1=>∃us:List (Bool×Addr),vs=us.map (λu=>V.ref u.2)/\(us.length=2\/us.length=3)/\(∀u∈us,∃xs,Sq K H1 u.1 u.2 xs)/\R (ItZ K us) H1
def neN {b:Nat}(h:a≠b):a≠b:=h
def uh:∀{us:List (Bool×Addr)}{vs:Vy},Vals (us.map λu=>V.ref u.2) vs->vs=us.map λu=>Value.ref u.2:=by
 intro us
 induction us with
 |nil=>intro vs h;cases h;rfl
 | cons u us O=>
  intro vs h;cases h with
  | cons r t=>
   have r':=r;rw[r',O t];rfl
def cY:∀(us:List (Bool×Addr×Array Value)) n,∀v∈l6 n us,n<=v.1.i/\n+us.length>v.1.i:=by
 intro us
 induction us with
 |nil=>show λ_ _ h=>absurd h qE3
 | cons u r O=>
  intro n v h;rcases qC4.mp h with rfl|h
  .show ⟨qB3 _,by change n+r.length+1>n;omega⟩
  .have:=O _ v h
   rw[qB9];omega
theorem pQ:∀(us:List (Bool×Addr×Array Value)) n,(l6 n us).Pairwise λu v=>u.1.i≠v.1.i
 | [],_=>.nil
 | u::r,n=>by
  refine qQ7.mpr ⟨λv O=>?_,pQ r _⟩
  have:=cY r _ v O
  omega
def lQ:∀(us:List (Bool×Addr×Array Value)) n,(l6 n us).map (λu=>(u.1.t,u.1.l))=us.map λu=>(u.1,u.2.1)
 | [],_=>rfl
 |u::r,n=>by unfold l6;rw[qE1,lQ,qE1]
def Ht {X}{a}{es elts:Vo}{ta}{p pos tp}{k}(hg:Gl X "zip") (hm:X.mg "zip" = none) (ha:PA X (a::es) ta) (hs:starEach (a::es) X.env=(false,eval a X.env)::starEach es X.env:=by rfl) (a5:(backTo pos (starEach es X.env)).any (·.1)=false:=by rfl):PI X (.Tuple elts k tp) (.Call (.Name "zip" p) (a::es) [] pos) (IP X.K ta):=by
 intro pins s c H R I h;refine Call_ (F0 I hg hm boot_zip (qF6 (thn (ha pos pins s c H _ I h) λvs s1 a4=>?_) hs a5));obtain ⟨xs,H1,I1,r1,us,e1,hl,ab,q⟩:=a4;subst e1;have e2:=uh r1;subst e2;obtain ⟨ws,ew,b4⟩:=aV (R:=λu its=>SrcAt _ (u.1,u.2,its)) (l:=us) (λu hu=>by
  obtain ⟨ys,hy⟩:=ab u hu;obtain ⟨its,_,a0⟩:=Sq.src I1 hy;show ⟨its.toArray,by unfold Sub.Src at a0;show a0⟩)
 have ev:us.map (λu=>Value.ref u.2)=(ws.map λw=>(w.1.1,w.1.2,w.2)).map λu=>Value.ref u.2.1:=by rw[<- ew,qC0,qC0];rfl
 have el:(ws.map λw=>(w.1.1,w.1.2,w.2)).length=us.length:=by grind
 rw[ev];generalize hW:(ws.map λw=>(w.1.1,w.1.2,w.2))=W at el ev
 have a6:∀u∈W,SrcAt s1.heap u:=λu hu=>by
  grind
 refine AE W (by rw[el];show hl) a6 λh' hA b3 a7 hz hk=>wpAny_pyIter_zip hz ?_;have I2:Inv X pins c H1 { s1 with heap:=h' }:=I1.kept (t':=s1.toks) hk;have eS:((l6 s1.heap.objs.size W).map (·.1)).map (λu=>(u.t,u.l))=us:=by
  rw[qC0]
  change (l6 s1.heap.objs.size W).map (λu=>(u.1.t,u.1.l))=us;rw[lQ,<- hW,qC0,<- ew];rfl
 have D:ZSt (s1.heap.objs.size+W.length+2) (s1.heap.objs.size+W.length) (s1.heap.objs.size+W.length+1) ((l6 s1.heap.objs.size W).map (·.1)):=by
  refine ⟨neN ox,neN ox,neN ox,?_,?_,?_,?_⟩
  .rintro _ hu;obtain ⟨v,O,rfl⟩:=qB1.mp hu;have:=cY W _ v O;show neN ox
  .rintro _ hu;obtain ⟨v,O,rfl⟩:=qB1.mp hu;have:=cY W _ v O;show neN ox
  .rintro _ hu;obtain ⟨v,O,rfl⟩:=qB1.mp hu;have:=cY W _ v O;show neN ox
  grind[pQ]
 have ls:((l6 s1.heap.objs.size W).map (·.1)).length=W.length:=by rw[qA4,T0]
 have TZ:=xR (P:=X.prog) (w:=X.w) (K:=X.K) (elts:=elts) (k:=k) (tp:=tp) D (by grind) (by rw[ls,el];show qD3 (show us.length<=3 by omega) ZQ);rw[eS]at TZ;refine ⟨_,_,_,_,H1,rfl,I2,TZ,⟨hz,?_,?_,λu hu=>?_⟩,λb hb=>?_,q⟩
 .rw[qC0];show b3
 .obtain ⟨b0,h1,h2⟩:=a7;show ⟨b0,h1,by rw[ls];show h2⟩
 .obtain ⟨v,O,rfl⟩:=qB1.mp hu;show hA v O
 .have a3:s1.heap.objs.size<=b:=by
   simp only [qC4,qB1]at hb;rcases hb with rfl|rfl|rfl|⟨_,⟨v,O,rfl⟩,rfl⟩
   .omega
   .omega
   .omega
   .show (cY W _ v O).1
  have f:=I1.fpOk (H':=H1) a3 (I1.hok.fresh a3);show f
def E5 cs env x:(relabel cs env).names.lookup x=(cs.names.lookup x).map λk=>if (k == .free&&env.scope.kind == .function&&env.kindOf x == some .cell)=true then .cell else k:=by
 change List.lookup x (cs.names.map _)=_
 induction cs.names <;> grind
def cG: ∀ (names : List (Str × NameKind)) (O : List (Str × Addr)), (∀x ∈ names, x.2 = .free -> ∃c, env.cells.lookup x.1 = some c) -> (∀x c, O.lookup x = some c -> env.cells.lookup x = some c) ->
    ∃ cl, (forIn (m := Sem) names O λx __s => if (x.snd == NameKind.free) = true then do
              let __do_lift <- cellOf env x.fst
              pure (ForInStep.yield ((x.fst, __do_lift) :: __s))
            else pure (ForInStep.yield __s)) = pure cl /\ (∀x c, cl.lookup x = some c -> env.cells.lookup x = some c) /\ (∀x, (x, NameKind.free) ∈ names -> ∃c, cl.lookup x = some c) /\ ∀x c, O.lookup x = some c -> ∃c', cl.lookup x = some c' := by
  intro names
  induction names with
  | nil =>
    intro O _ h0;show ⟨O, by simp [List.forIn_nil], h0, λ_ h => absurd h qE3, λ_ c h => ⟨c, h⟩⟩
  | cons p r ih =>
    intro O hf h0;obtain ⟨n, k⟩ := p;by_cases hk : k = .free
    · subst hk
      obtain ⟨c, hc⟩ := hf _ qB2 rfl;obtain ⟨cl, e, h1, h2, h3⟩ := ih ((n, c) :: O) (λx hx => hf x (qA6 _ hx)) (λx c' hx => by
        grind)
      have hn  := h3 n c ZZ;refine ⟨cl, ?_, h1, λx hx => ?_, λx c' hx => ?_⟩
      · rw [qT7]
        simp only [qN8, cellOf, hc];show e
      · rcases qC4.mp hx with q|hx
        · cases q;show hn
        · show h2 x hx
      · by_cases a0 : x = n
        · subst a0;show hn
        · show h3 x c' (by
            grind)
    · have hb : (k == NameKind.free) = false := by simpa using hk
      obtain ⟨cl, e, h1, h2, h3⟩ := ih O (λx hx => hf x (qA6 _ hx)) h0
      grind
structure CompScope (sc cs:Scope) (N N':Vp):Prop where
 kind:cs.kind=.function
 ncell:∀x∈cs.names,x.2≠.cell
 loc:∀x∈cs.names,x.2=.local->cs.names.lookup x.1=some .local
 free:∀x∈cs.names,x.2=.free->sc.names.lookup x.1=some .cell\/sc.names.lookup x.1=some .free
 nd:N'.Nodup
 len:N.length<=N'.length
 same:∀i∈List.range N.length,N'[i]?=N[i]?\/∀x∈N'[i]?,cs.names.lookup x=none
 out:∀x∈N'.take N.length,cs.names.lookup x≠some .local
noncomputable abbrev cxG (X:Cx) (cs:Scope) (cl:Vz) (fg:Str->Bool) (N':Vp) (ex:List Addr) (s:Shared) (H:Hp):Cx:=
 { X with N:=N',s₀:=s,H₀:=H,env:=compEnvC cs cl s.heap.objs.size X.env,outer:=X.stack,stack:=X.stack,ex:=ex,fn:=fg,pn:=[],xe:=λ_ _=>False }
noncomputable abbrev C1 (X:Cx)(cs:Scope)(cl:Vz)(N':Vp)(ex:List Addr)(s:Shared)(H:Hp):Cx:=cxG X cs cl (λ_=>false) N' ex s H
noncomputable def inner (N':Vp)(a:St):St:=a++List.replicate (N'.length-a.length) none
def kI {i:Nat}(h:(inner N' a)[i]?=some (some v)):a[i]?=some (some v):=by
 grind[inner]
def oy {a:St}{i:Nat}(I:Inv X pins a H s3) (fr:∀x∈cs.names,x.2=.free->X.env.scope.names.lookup x.1=some .cell\/X.env.scope.names.lookup x.1=some .free) (same:∀i∈List.range X.N.length,N'[i]?=X.N[i]?\/∀x∈N'[i]?,cs.names.lookup x=none) (out:∀x∈N'.take X.N.length,cs.names.lookup x≠some .local/\cs.names.lookup x≠some .cell) (a3:N'[i]?=some x) (e2:(inner N' a)[i]?=some (some v)) (O:Vis (relabel cs X.env) x):
  cs.names.lookup x=some .free/\((relabel cs X.env).names.lookup x=some .cell\/(relabel cs X.env).names.lookup x=some .free)/\∃u c,RelV v u/\X.env.cells.lookup x=some c/\s3.heap.IsCell c (some u):=by
 have a5:=kI e2;have hi:i<X.N.length:=by rw[<- I.len];show (qA7.mp a5).1
 have hv:∃k,cs.names.lookup x=some k:=by
  unfold Vis at O;rw[E5]at O;cases hl:cs.names.lookup x with
  |none=>rw[hl]at O;rcases O with h|h|h <;> cases h
  |some k=>show ⟨k,rfl⟩
 obtain ⟨k,hk⟩:=hv;have hN:X.N[i]?=some x:=by
  rcases same i (qH6.mpr hi) with q|q
  .rw[<- q];show a3
  .have:=q x (by rw[a3];rfl)
   rw[hk]at this;cases this
 have ho:=out x (qD7 (i:=i) (by rw[qX7 hi];show a3));have ab:k≠.local:=λq=>by subst q;show ho.1 hk
 have a7:k≠.cell:=λq=>by subst q;show ho.2 hk
 have hm:=qF8 hk;have a0:k=.free:=by
  unfold Vis at O;rw[E5,hk]at O;by_cases a4:k=.free
  .show a4
  .exfalso;have hb:(k == NameKind.free)=false:=by simpa using a4
   simp only [qZ8,hb,qU5,qE7,qO2]at O;rcases O with h|h|h
   .show ab (Option.some.inj h)
   .show a7 (Option.some.inj h)
   .show a4 (Option.some.inj h)
 subst a0;obtain ⟨m0,b0,hl0⟩:=I.loc;have a6:Vis X.env.scope x:=by
  rcases fr _ hm rfl with h|h
  .show .inr (.inl h)
  .show .inr (.inr h)
 obtain ⟨u,r,l⟩:=hl0 i x v hN a5 a6;refine ⟨hk,?_,?_⟩
 .rw [E5,hk]
  change some (if _ then _ else _)=_\/some (if _ then _ else _)=_
  split
  .show .inl rfl
  .show .inr rfl
 .rcases l with ⟨q,_⟩|⟨_,c',e,z⟩
  .exfalso;have q':X.env.scope.names.lookup x=some .local:=q;rcases fr _ hm rfl with h|h <;> (rw[q']at h;cases h)
  .show ⟨u,c',r,e,z⟩
def AB {a:St}{fp:List Addr}(S:CompScope X.env.scope cs X.N N') (I:Inv X pins a H s3) (O:∀x c,cl.lookup x=some c->X.env.cells.lookup x=some c) (a4:∀x,(x,NameKind.free)∈cs.names->∃c,cl.lookup x=some c) (hf:∀b∈fp,C3 X pins H b) (a6:∀b∈fp,b<s3.heap.objs.size) (kp:∀b o,s3.heap.get? b=some o->s4.heap.get? b=some o) (hn:s4.heap.Ns s3.heap.objs.size m) (b0:s4.os=s3.os) (hg:s4.gens=s3.gens):Inv (C1 X cs cl N' fp s3 H) [] (inner N' a) H s4:=by
 have a3:∀{c:Addr}{v:VJ},s3.heap.IsCell c v->s4.heap.IsCell c v:=λ{c v} z=>by obtain ⟨o,e,d⟩:=z;show ⟨o,kp c o e,d⟩
 refine ⟨⟨I.ok.mod,S.kind,I.ok.glob,I.ok.blt,qB3 _,λx y c h1 h2=>I.ok.inj x y c (O x c h1) (O y c h2),λx hx=>?_,λx c h _=>absurd (show false=true from h) ZQ,I.ok.hd,I.ok.frames,.inl rfl,λb hb=>⟨?_,λx c e=>(hf b hb).2.2.2.2.1 x c (O x c e)⟩,I.bs,qD3 I.ok.bsz I.sz,λb o e hb=>?_,λb hb ab=>?_,I.stack,I.stkFree,I.tab⟩,
  b0,by rw[hg];show I.bare,Un.kept kp,⟨m,hn,λi x v e1 e2 e3=>?_⟩,λx c e=>?_,I.hok.fresh (qB3 _),λx c e=>I.freeC x c (O x c e),λp hp=>absurd (show p∈([]:Vq) from hp) ZZ,I.hok.kept kp,?_⟩
 .have a0:(relabel cs X.env).names.lookup x=some .cell\/(relabel cs X.env).names.lookup x=some .free:=hx;rw[E5]at a0;cases hl:cs.names.lookup x with
  |none=>rw[hl]at a0;rcases a0 with h|h <;> cases h
  | some k=>
   have hm:=qF8 hl;by_cases hk:k=.free
   .subst hk;show a4 x hm
   .exfalso;have hb:(k == NameKind.free)=false:=by simpa using hk
    rw[hl]at a0;simp only [qZ8,hb,qU5,qE7,qO2]at a0;rcases a0 with h|h
    .cases h;show S.ncell _ hm rfl
    .cases h;show hk rfl
 .intro q;have a7:b=s3.heap.objs.size:=q;show absurd (a6 b hb) (by rw[a7];show qE9 _)
 .obtain ⟨f0,f1,f2,f3,f4,f5⟩:=hf b hb;rcases f3 with z|z
  .show I.ok.noex b o e z
  .show absurd (qB4 (qB0 (I.ok.bs b o e).1) z) (qE9 _)
 .have a5:b∈frs X.stack:=ab;rcases qC4.mp (I.stkSub b a5) with z|z
  .show (hf b hb).2.1 z
  .show (hf b hb).2.2.1 z
 .obtain ⟨hk,hl,u,c',r,e,z⟩:=oy I S.free S.same (λx h=>⟨S.out x h,λq=>S.ncell _ (qF8 q) rfl⟩) e1 e2 e3;obtain ⟨c,hc⟩:=a4 x (qF8 hk);cases (O x c hc).symm.trans e;show ⟨u,r,.inr ⟨hl,_,hc,a3 z⟩⟩
 .obtain ⟨v,z⟩:=I.cell x c (O x c e);show ⟨v,a3 z⟩
 .unfold inner;rw[qB8,qS6,I.len]
  have:=S.len
  change _=N'.length;omega
def J8 (n:Nat)(g:TG):Prop:=∀(v:V)(a:St)(H:Hp)(Q:St->Hp->Prop),g v a H Q->g v a H λO H2=>Q O H2/\O.length=a.length/\∀j,j<n->O[j]?=a[j]?
def iE (n:Nat)(g:TGs):Prop:=∀(vs:List V)(a:St)(H:Hp)(Q:St->Hp->Prop),g vs a H Q->g vs a H λO H2=>Q O H2/\O.length=a.length/\∀j,j<n->O[j]?=a[j]?
def k9 (h:n<=i):J8 n (Q5 i):=λv a H Q q=>⟨q,ZZ,λj O=>qB6 ox⟩
def Q4:iE n gNil:=λvs a H Q O=>by obtain ⟨e,q⟩:=O;show ⟨e,q,rfl,λ_ _=>rfl⟩
def t9 (h:n<=i) (hu:iE n u):iE n (sZ (Q5 i) u):=λvs a H Q O=>by
 obtain ⟨v,r,e,q⟩:=O;refine ⟨v,r,e,?_⟩;have q':=hu r _ H Q q
 change u r _ H _
 grind
def Q3 {K}(hu:iE n u):J8 n (sY K k u):=λv b H Q O=>by obtain ⟨a,xs,e,h1,h2,q⟩:=O;show ⟨a,xs,e,h1,h2,hu xs b H Q q⟩
def PIf (X:Cx) (ifs:Vo) (t:TT):Prop:=
 ∀ (pins:Vq) (s:Shared) (a:St) (H:Hp) (Q:Bool->Hp->Prop),Inv X pins a H s->t a H Q ->
  wpAny (model X.prog X.w) X.A (forIn ifs true λc r=>if r=true then do let ok <- isTrue c X.env (eval c X.env);pure (ForInStep.yield ok) else pure (ForInStep.yield r)) (TP X pins a Q) X.xe s
def tYes:TT:=λ_ H Q=>Q true H
def CN:PIf X [] tYes:=λ_ _ _ H _ I h=>wpAny_tests_nil ⟨H,I,h⟩
def CM (h:PT X c t):PIf X [c] t:=λpins s a H Q I q=>wpAny_tests_one (h pins s a H Q I q)
def BH (J:It) (D:Addr) (g:TG) (tc:TT) (te:TE) (a3:St) (H1:Hp) (Q:Hp->Prop):Prop:=
 ∃ W:Nat->Nat->Hp->Prop,(∃m,W 0 m (upd H1 D (.lst [])))/\∀i m H2,W i m H2 ->
  (J.stop i H2/\Q H2)\/(J.go i H2/\∀x H3,J.yld i H2 x H3->g x a3 H3 λa0 H4=>tc a0 H4 λb H5=>
   if b=true then te a0 H5 λy H6=>∃ys,H6 D=some (.lst ys)/\ys.length<sizeLine/\∃O,O<m/\W (i+1) O (upd H6 D (.lst (ys ++ [y])))
   else ∃O,O<m/\W (i+1) O H5)
def rS (N':Vp)(wi:TI)(g:TG)(tc:TT)(te:TE):TE:=λa H Q=>wi a H λJ H1=>∀D,H1 D=none->BH J D g tc te (inner N' a) H1 (Q (.ref D))
section
variable {X:Cx}{cs:Scope}{N':Vp}{tg iter elt:Expr}{ifs:Vo}{wi:TI}{g:TG}{tc:TT}{te:TE}{pos:Pos}
def LH (O:∀x c,cl.lookup x=some c->X.env.cells.lookup x=some c) (stk:∀b∈frs X.stack,b∈X.env.locals::X.fs) (a3:∀b∈fp,C3 X pins H3 b) (a0:∀b∈fp,b<s3.heap.objs.size) (hn:∀b∈fp,H' b=none):∀b∈fp,C3 (C1 X cs cl N' fp s3 H3) [] H' b:=λb hb=>by
 obtain ⟨f0,f1,f2,f3,f4,f5⟩:=a3 b hb;refine ⟨hn b hb,qB7 (a0 b hb),λa4=>?_,.inl hb,λx c e=>f4 x c (O x c e),λp hp=>absurd (hp) ZZ⟩
 grind
def xc {a:St}{Q:Hp->Prop}{W:Nat->Nat->Hp->Prop}(hc:X.calm=true) (hg:PG (cxG X cs cl fg N' fp s3 O) tg g) (hk:J8 X.N.length g) (ht:PIf (cxG X cs cl fg N' fp s3 O) ifs tc) (he:PE (cxG X cs cl fg N' fp s3 O) elt te) (a6:∀{H'},(∀b∈fp,H' b=none)->∀b∈fp,C3 (cxG X cs cl fg N' fp s3 O) [] H' b) (I3:Inv X pins a O s3) (I4:Inv (cxG X cs cl fg N' fp s3 O) [] (inner N' a) O s4) (T:Turn X.prog X.w X.K tg J fp it tn) (st:tn 0 s4.heap) (c1:∀b∈fp,C3 X pins O b) (d2:∀b∈fp,b<s3.heap.objs.size) (w0:W 0 m0 O) (turn:∀i m H2,W i m H2->(J.stop i H2/\Q H2)\/(J.go i H2/\∀x O,J.yld i H2 x O->g x (inner N' a) O λa7 H4=>tc a7 H4 λb H5=>
   if b=true then te a7 H5 λy H6=>∃ys,H6 D=some (.lst ys)/\ys.length<sizeLine/\∃m',m'<m/\W (i+1) m' (upd H6 D (.lst (ys ++ [y])))
   else ∃m',m'<m/\W (i+1) m' H5)) (hR:∀ H' s',Inv X pins a H' s'->Q H'->(∃m,s'.heap.Ns s3.heap.objs.size m)->C3 X pins H' s3.heap.objs.size->R (.ok .next) s'):
  codeAny (model X.prog X.w) X.A (.compLoop (.ListComp elt [⟨tg,iter,ifs,0⟩] cs pos) 0 (.ref it) (.ref D) (cxG X cs cl fg N' fp s3 O).env) R s4:=by
 have d3:(inner N' a).length=N'.length:=I4.len;refine codeAny_loop rfl (λn s'=>∃i H',Inv (cxG X cs cl fg N' fp s3 O) [] (inner N' a) H' s'/\tn i s'.heap/\(∀b∈fp,H' b=none)/\W i n H') (λn s5 hI=>?_) m0 ⟨0,O,I4,st,λb hb=>(c1 b hb).1,w0⟩;obtain ⟨i,H5,I5,b5,b0,w5⟩:=hI
 change wpAny _ _ ((compTurn (.ListComp elt [⟨tg,iter,ifs,0⟩] cs pos) 0 (.ref it) (.ref D) (cxG X cs cl fg N' fp s3 O).env).onRaise _) _ _ s5;refine wpAny_noted ?_;rw[compTurn_list];refine qA0 (qQ0 (qA0 ?_));have a3:∀{c:Type}{t:Sem c}{P:c->Shared->Prop}{E':VZ}{s:Shared},wpAny (model X.prog X.w) X.A t P (λ_ _=>False) s->wpAny (model X.prog X.w) X.A t P E' s:=λh=>qO5 h (λ_ _ q=>q) λ_ _ q=>q.elim;rcases turn i n H5 w5 with ⟨stop,q⟩|⟨go,step⟩
 .refine thn (T.done (cxG X cs cl fg N' fp s3 O) rfl rfl rfl hc i [] s5 _ H5 _ I5 (a6 b0) b5 stop) λr s6 ⟨hr,I6⟩=>?_;subst hr;refine qN2 ?_;have J6:Inv X pins a H5 s6:=I3.call' (H':=H5) (ch:=fp) I6.os I6.base I6.hok I6.bare λb hb=>by
   obtain ⟨f0,f1,f2,f3,f4,f5⟩:=c1 b hb;show ⟨f3,f1,f4,f5⟩
  obtain ⟨m,hn,_⟩:=I6.loc;show hR H5 s6 J6 q ⟨m,hn⟩ (I3.fpOk (qB3 _) I6.free)
 .refine thn (T.item (cxG X cs cl fg N' fp s3 O) rfl rfl rfl hc i [] s5 _ H5 _ I5 (a6 b0) b5 go) λr s6 ⟨u,hr,h6⟩=>?_;subst hr;refine qA0 (thn h6 λ_ s7 b6=>?_);obtain ⟨x,H7,I7,r7,y7,a4,c4⟩:=b6;have d0:=I7.pinned (a6 c4) (T.obj _ _ a4);refine qA0 (a3 (thn (hg _ s7 _ H7 x u _ d0 r7 (hk x _ H7 _ (step x H7 y7))) λ_ s8 ab=>?_));obtain ⟨a0,H8,I8,q8,l8,k8⟩:=ab;refine qA0 (a3 (thn (ht _ s8 a0 H8 _ I8 q8) λb s9 b4=>?_));obtain ⟨H9,I9,q9⟩:=b4;have again:∀{s':Shared}{H':Hp},Inv (cxG X cs cl fg N' fp s3 O) ([]++dr fp s7.heap) a0 H' s'->(∃m',m'<n/\W (i+1) m' H') ->
    ∃m',m'<n/\∃i H',Inv (cxG X cs cl fg N' fp s3 O) [] (inner N' a) H' s'/\tn i s'.heap/\(∀b∈fp,H' b=none)/\W i m' H':=λ{s' H'} I' zz73=>by
   obtain ⟨m',hm,w'⟩:=zz73;refine ⟨m',hm,i+1,H',(I'.unpinned).weak (by rw[l8]) (λj v e=>?_),T.keep _ _ _ a4 λb hb o e=>(I'.pin (b,o) (qD5 _ (qD5 _ (W6 hb e)))).1,λb hb=>?_,w'⟩
   .have hj:j<X.N.length:=by rw[<- I3.len];show (qA7.mp (kI e)).1
    rw[k8 j hj];show e
   .obtain ⟨o,e,d⟩:=T.obj _ _ a4 b hb;show (I'.pin (b,o) (qD5 _ (qD5 _ (W6 hb e)))).2.1
  cases b with
  | false=>
   have a5:∃m',m'<n/\W (i+1) m' H9:=q9;show qN2 ⟨rfl,again I9 a5⟩
  | true=>
   have a5:te a0 H9 _:=q9;refine qA0 (qA0 (a3 (thn (he _ s9 a0 H9 _ I9 a5) λv cp c0=>?_)));obtain ⟨y,c3,c5,cc,ys,hD,hy,cy⟩:=c0;refine qA0 (a3 (thn (kh _ cp a0 c3 (.ref D) [y] (.ref D) [v] (λ_ H'=>∃m',m'<n/\W (i+1) m' H') c5 rfl (.cons cc .nil) ⟨D,ys,y,rfl,rfl,hD,hy,cy⟩) λ_ d1 b3=>?_));obtain ⟨_,d4,cv,_,cn⟩:=b3;show qN2 (qN2 ⟨rfl,again cv cn⟩)
structure iF (X:Cx) (cs:Scope) (N':Vp) (cx:List (Str×Addr)->List Addr->Shared->Hp->Cx):Prop where
 kind:cs.kind=.function
 loc:∀x∈cs.names,x.2=.local->cs.names.lookup x.1=some .local
 free:∀x∈cs.names,x.2=.free->X.env.scope.names.lookup x.1=some .cell\/X.env.scope.names.lookup x.1=some .free
 env:∀{cl pins σ H s fp},Inv X pins σ H s->(∀x c,cl.lookup x=some c->X.env.cells.lookup x=some c)->(∀x,(x,NameKind.free)∈cs.names->∃c,cl.lookup x=some c)->(∀b∈fp,C3 X pins H b)->(∀b∈fp,b<s.heap.objs.size)->∃c2 fg,(∀P:Cx->Prop,P (cx cl fp s H)->P (cxG X cs c2 fg N' fp s H))/\(∀{H':Hp},(∀b∈fp,H' b=none)->∀b∈fp,C3 (cxG X cs c2 fg N' fp s H) [] H' b)/\∀{Q:Env->Shared->Prop} {E},(∀s4,(∀b o,s.heap.get? b=some o->s4.heap.get? b=some o)->Inv (cxG X cs c2 fg N' fp s H) [] (inner N' σ) H s4->Q { (cxG X cs c2 fg N' fp s H).env with scope:=cs } s4)->wpAny (model X.prog X.w) X.A (newFunctionEnv cs X.env.globals cl [] X.env.qual none .none (some X.env)) Q E s
def CompScope.s (S:CompScope X.env.scope cs X.N N'):iF X cs N' λcl ex s H=>C1 X cs cl N' ex s H:=
 ⟨S.kind,S.loc,S.free,λ{_ _ _ _ s _} I h1 h2 hf hl=>⟨_,_,λ_ p=>p,LH h1 I.stkSub hf hl,λk=>wpAny_newFunctionEnv S.ncell (by intro y hy;simp at hy) (λa3 O a0=>by
  have kp:=λb o (e:s.heap.get? b=some o)=>a0.extBut b o (qB7 (qB0 e)) (qA1 _ e);show k _ kp (AB S I h1 h2 hf hl kp O rfl rfl)) S.kind⟩⟩
def kL {R:Value->Addr->Result->Shared->Prop}{Q:V->Hp->Prop}(S:iF X cs N' cx) (hc:X.calm=true) (hg:∀cl ex s H,PG (cx cl ex s H) tg g) (hk:J8 X.N.length g) (ht:∀cl ex s H,PIf (cx cl ex s H) ifs tc) (he:∀cl ex s H,PE (cx cl ex s H) elt te) (ab:∀x c,cl.lookup x=some c->X.env.cells.lookup x=some c) (a6:∀x,(x,NameKind.free)∈cs.names->∃c,cl.lookup x=some c) (h:PIE X pins a tg (λJ H1=>∀D,H1 D=none->BH J D g tc te (inner N' a) H1 (Q (.ref D))) itv s2) (hR:∀ D C H' s',Inv X pins a H' s'->Q (.ref D) H'->(∃m,s'.heap.Ns C m)->C3 X pins H' C->R (.ref D) C (.ok .next) s'):
  wpAny (model X.prog X.w) X.A (newList []) (λa7 b0=>wpAny (model X.prog X.w) X.A (newFunctionEnv cs X.env.globals cl [] X.env.qual none .none (some X.env)) (λO a5=>
   codeAny (model X.prog X.w) X.A (.compStart (.ListComp elt [⟨tg,iter,ifs,0⟩] cs pos) 0 itv a7 { O with scope:=relabel cs X.env }) (R a7 O.locals) a5) X.xe b0) X.xe s2:=by
 obtain ⟨it,fp,tn,J,H2,e,I2,T,a3,f2,hw⟩:=h;subst e;have hD:=I2.hok.fresh (qB3 _);obtain ⟨W,⟨m0,w0⟩,turn⟩:=hw s2.heap.objs.size hD;have I3:=I2.lnew (t':=s2.toks) .nil (qC6 _);have a0:∀b∈fp,b<s2.heap.objs.size:=λb hb=>by
  obtain ⟨o,e,_⟩:=T.obj 0 _ a3 b hb;show qB0 e
 have b4:∀b∈fp,C3 X pins (upd H2 s2.heap.objs.size (.lst [])) b:=λb hb=>by
  obtain ⟨f0,r⟩:=f2 b hb;show ⟨by rw[c7 (qB7 (a0 b hb))];show f0,r⟩
 have a4:∀b∈fp,b<(s2.heap.push { cls:=.type "list",dict:=none,data:=.seq ([]:Vy).toArray }).objs.size:=λb hb=>by rw[qG1];show qD2 (a0 b hb)
 obtain ⟨c2,fg,ec,b5,mk⟩:=S.env I3 ab a6 b4 a4;refine qO4 (mk λs4 kp I4=>?_);have b3:tn 0 s4.heap:=T.keep 0 _ _ a3 λb hb o e=>kp b o (qA1 _ e);have loop:=xc (R:=R (.ref s2.heap.objs.size) (s2.heap.push { cls:=.type "list",dict:=none,data:=.seq ([]:Vy).toArray }).objs.size) (D:=s2.heap.objs.size) (iter:=iter) (pos:=pos) (it:=it) (Q:=Q (.ref s2.heap.objs.size)) hc (ec (PG · tg g) (hg cl fp _ _)) hk (ec (PIf · ifs tc) (ht cl fp _ _)) (ec (PE · elt te) (he cl fp _ _)) b5 I3 I4 T b3 b4 a4 w0 turn λH' s' I' q n f=>hR _ _ H' s' I' q n f;show codeAny_compStart_list loop (T.self _ 0 _ _ _ b3 loop)
def qj {cx}(S:iF X cs N' cx) (hc:X.calm=true) (hi:PI X tg iter wi)
  (hg:∀cl ex s H,PG (cx cl ex s H) tg g) (hk:J8 X.N.length g) (ht:∀cl ex s H,PIf (cx cl ex s H) ifs tc) (he:∀cl ex s H,PE (cx cl ex s H) elt te)
  (hs:∀x,foldedSetIterable iter X.env x=pure x:=by intro _;rfl):PE X (.ListComp elt [⟨tg,iter,ifs,0⟩] cs pos) (rS N' wi g tc te):=by
 intro pins s a H Q I h;obtain ⟨cl,e,h1,h2,_⟩:=cG (env:=X.env) cs.names [] (λx hx hk=>I.ok.has x.1 (S.free x hx hk)) (λ_ _ z=>nomatch z);have O:closureFor cs X.env=pure cl:=by
  simp only [closureFor];rw[e];rfl
 rw[eval_ListComp];refine wpAny_comprehension_free (use:=none) rfl hs O S.kind S.loc (thn (hi pins s a H _ I h) λv s1 q1=>thn q1 λa3 s2 q2=>?_);refine kL (R:=λa0 C=>compPost (model X.prog X.w) X.A X.xe none (EP X pins a Q) a0 C) (Q:=Q) S hc hg hk ht he h1 h2 q2 λD C H' s' I' q n f=>?_;obtain ⟨m,hn⟩:=n;obtain ⟨f0,f1,f2,f3,f4,f5⟩:=f;show ⟨m,hn,λh' sb=>⟨.ref D,H',I'.turned (t':=s'.toks) (λb o hb e=>sb.extBut b o hb e) f0 f1 f3 f4 f5,rfl,q⟩⟩
def qe {cx}{i}{y}{py O}(S:iF X cs N' cx) (hc:X.calm=true) (hi:PI X tg iter wi)
  (hg:∀cl ex s H,PG (cx cl ex s H) tg g) (hk:J8 X.N.length g) (ht:∀cl ex s H,PIf (cx cl ex s H) ifs tc) (he:∀cl ex s H,PE (cx cl ex s H) elt te)
  (hN:X.N.Nodup) (hy:X.N[i]?=some y) (hl:Loc X.env.scope y)
  (a6:swapsWith (.ListComp elt [⟨tg,iter,ifs,0⟩] cs pos) (some (.Name y py)) O.line X.env=pure true:=by rfl) (hf:X.fn y=true\/X.env.scope.names.lookup y=some .local:=by first|show .inl rfl|show .inr rfl|assumption)
  (hs:∀x,foldedSetIterable iter X.env x=pure x:=by intro _;rfl):PS X (.Assign [.Name y py] (.ListComp elt [⟨tg,iter,ifs,0⟩] cs pos) O) (bK (rS N' wi g tc te) (Q5 i)):=by
 intro pins s c H Q I h;obtain ⟨cl,e,h1,h2,_⟩:=cG (env:=X.env) cs.names [] (λx hx hk=>I.ok.has x.1 (S.free x hx hk)) (λ_ _ z=>nomatch z);have a0:closureFor cs X.env=pure cl:=by
  simp only [closureFor];rw[e];rfl
 rw[exec_Assign_Name_used _ _ _ _ a6];refine qA0 (qQ0 (qA0 ?_))
 change wpAny _ _ (comprehension (.ListComp elt [⟨tg,iter,ifs,0⟩] cs pos) cs X.env _ (newList []) false (eval iter X.env) (some (assign (.Name y py) X.env))>>=_) _ _ s;refine qA0 (thn (wpAny_comprehension_free (use:=some (assign (.Name y py) X.env)) (Q:=λ_ s'=>SP X pins Q .next s') rfl hs a0 S.kind S.loc (thn (hi pins s c H _ I h) λv s1 q1=>thn q1 λb3 s2 q2=>?_)) λ_ s' q=>qN2 (qN2 q));refine kL (R:=λa7 C=>compPost (model X.prog X.w) X.A X.xe (some (assign (.Name y py) X.env)) (λ_ s'=>SP X pins Q .next s') a7 C) (Q:=λx H1=>Q5 i x c H1 Q.nx) S hc hg hk ht he h1 h2 q2 λD C H' s' I' q n f=>?_;obtain ⟨m,hn⟩:=n;obtain ⟨f0,f1,f2,f3,f4,f5⟩:=f
 change wpAny _ _ (assign (.Name y py) X.env (.ref D)) _ _ _;refine wpAny_assign_Name (jO (v:=.ref D) (u:=.ref D) I' hN hy hl rfl (λb0 ab a3=>?_) hf);obtain ⟨a,sb,ha⟩:=a3;have a4:C≠a:=by
  rcases ha with rfl|ha
  .show f1
  .show λq=>f4 _ _ ha q.symm
 refine ⟨m,hn.sameBut sb a4,λh' a5=>?_⟩;show ⟨_,H',ab.turned (t':=b0.toks) (λb o hb e=>a5.extBut b o hb e) f0 f1 f3 f4 f5,q⟩
end
def Sq.same {K}(e:Same H H') (h:Sq K H t a xs):Sq K H' t a xs:=by
 unfold Sq at h ⊢
 split
 .rename_i ht;rw[qA2 ht]at h
  rcases h with (h|⟨o,h⟩)|h
  .show .inl (.inl (e _ _ h))
  .show .inl (.inr ⟨o,e _ _ h⟩)
  .show .inr h
 .rename_i ht;rw[qA8 ht]at h
  show e.seq h
noncomputable def ItQ (K:Frag)(t:Bool)(a:Addr):It:=if t=true then Itt K a else Itl K a
def iSq (K:Frag)(O:TE):TI:=λb H R=>O b H λx H1=>∃a,x=.ref a/\∃t xs,Sq K H1 t a xs/\R (ItQ K t a) H1
def Lh (hl:PE X l tl):PI X tg l (iSq X.K tl):=by
 intro pins s c H R I h;refine thn (hl pins s c H _ I h) λv s1 a3=>?_;obtain ⟨x,H1,O,r1,q1⟩:=a3;obtain ⟨a,e,t,xs,hq,q⟩:=q1;subst e;cases r1;cases t with
 | true=>
  have a0:SqT X.K H1 a xs:=by grind[Sq]
  obtain ⟨its,rv,p,hz⟩:=O.tuple a0;refine qO9 (p) ?_;refine ⟨s1.heap.objs.size,_,_,_,H1,rfl,O.kept λb o e=>qA1 _ e,rO a _,⟨_,qB5 _ rfl,rfl,rfl⟩,λb hb=>?_,q⟩;have e:b=s1.heap.objs.size:=by simpa using hb
  subst e;show O.fpOk (qB3 _) (O.hok.fresh (qB3 _))
 | false=>
  have a0:SqL X.K H1 a xs:=by grind[Sq]
  obtain ⟨its,rv,p,hz⟩:=O.list a0;refine qO7 p.isList ?_;refine ⟨s1.heap.objs.size,_,_,_,H1,rfl,O.kept λb o e=>qA1 _ e,uq a _,⟨_,qB5 _ rfl,rfl,rfl⟩,λb hb=>?_,q⟩;have e:b=s1.heap.objs.size:=by simpa using hb
  subst e;show O.fpOk (qB3 _) (O.hok.fresh (qB3 _))
def xq:bootBuiltins "int" = some (.type "int"):=ox
def rC:bootBuiltins "list" = some (.type "list"):=ox
def n6:bootBuiltins "tuple" = some (.type "tuple"):=ox
def oF:bootBuiltins "max" = some (.builtin "max"):=ox
def Kn:bootBuiltins "min" = some (.builtin "min"):=ox
noncomputable def tyO:Option HO->Option String
 |some (.lst _)=>some "list"
 |some (.tup _)=>some "tuple"
 |some (.dK _)=>some "dict"
 |_=>none
noncomputable def tyB (H:Hp):V->Option String
 | .non=>some "NoneType"
 | .bl _=>some "bool"
 | .int _=>some "int"
 | .str _=>some "str"
 | .ref a=>tyO (H a)
 |_=>none
noncomputable def A2 (A T:String):Option Bool:=
 if A=T then some true else if A = "bool" /\ T = "int" then some true
 else if (A = "NoneType" \/ A = "bool" \/ A = "int" \/ A = "str" \/ A = "list" \/ A = "tuple" \/ A = "dict")/\(T = "bool" \/ T = "int" \/ T = "list" \/ T = "tuple" \/ T = "str") then some false else none
def Fo {K}(h:tyB H x=some A):S8 K H x (.type A):=by
 cases x with
 |non=>cases h;show .non
 |bl _=>cases h;show .bl _
 |int _=>cases h;show .int _
 |str _=>cases h;show .str _
 | ref a=>
  have h:tyO _=_:=h;cases e:H a with
  |none=>rw[e]at h;cases h
  | some o=>
   rw[e]at h;cases o <;> first | (cases h;show .lst e) | (cases h;show .tup e) | (cases h;show .dK e)|cases h
 |_=>cases h
def DO {K}(h:A2 A T=some b):PySem.W.kitOne K (.type A) (.type T)=some b:=by
 unfold A2 at h
 split at h
 .grind[PySem.W.kitOne]
 .split at h
  .rename_i e;obtain ⟨rfl,rfl⟩:=e;cases h;with_unfolding_all rfl
  .split at h
   .rename_i h1 h2 e
    obtain ⟨O,e2⟩:=e;cases h;rcases O with rfl|rfl|rfl|rfl|rfl|rfl|rfl <;> rcases e2 with rfl|rfl|rfl|rfl|rfl <;>
     first|show absurd rfl h1|show absurd ⟨rfl,rfl⟩ h2|with_unfolding_all rfl
   .cases h
def rIsi:List V->Hp->VK->Prop:=λxs H Q=>∃x T,xs = [x,.ty T]/\∃A,tyB H x=some A/\∃b,A2 A T=some b/\Q (.bl b) H
def gn:G7 X (.builtin "isinstance") rIsi:=by
 intro pins s a H xs us Q I r h;obtain ⟨x,T,rfl,A,ty,b,e,q⟩:=h;obtain ⟨u,w',rfl,r1,O⟩:=vals2 r;have e2:=O;subst e2;show wG I r1 (Fo ty) (DO e) λtk=>⟨.bl b,H,I.tok tk,rfl,q⟩
def IA:A2 "bool" "bool" = some true:=ZQ
def Iz:A2 "bool" "int" = some true:=ZQ
def Iy:A2 "int" "bool" = some false:=ZQ
def Ix:A2 "int" "int" = some true:=ZQ
def Ie:A2 "tuple" "tuple" = some true:=ZQ
def Iu:A2 "list" "list" = some true:=ZQ
def Ip:A2 "NoneType" "int" = some false:=ZQ
def Iq:A2 "NoneType" "bool" = some false:=ZQ
def Ik:A2 "str" "int" = some false:=ZQ
def Il:A2 "str" "bool" = some false:=ZQ
def Iv:A2 "list" "int" = some false:=ZQ
def Iw:A2 "list" "bool" = some false:=ZQ
def Ih:A2 "tuple" "int" = some false:=ZQ
def Ij:A2 "tuple" "bool" = some false:=ZQ
def bv {n:Nat}{i:Int}(h0:0<=i)(O:i<n):ixN n i=some i.toNat:=by unfold ixN;rw[qA2 h0,qA2 O]
def mem_getD {ms:VW}{P:Int->Prop}(h:∀x∈ms,P x) (hi:i<ms.length):P (ms.getD i 0):=by
 grind
structure Runs (J:It) (n:Nat) (H1:Hp) (Y:Nat->V->Hp->Hp->Prop):Prop where
 go:∀i H,i<n->Same H1 H->J.go i H
 stop:∀H,Same H1 H->J.stop n H
 yld:∀i H x H',i<n->Same H1 H->J.yld i H x H'->Y i x H H'
def uV {K}(h:Sq K H1 t a xs) (h':Sq K H1 u b ys):
  Runs (ItZ K [(t,a),(u,b)]) (min xs.length ys.length) H1 λi x H H'=>∃p y z,x=.ref p/\H p=none/\H'=upd H p (.tup [y,z])/\xs[i]?=some y/\ys[i]?=some z:=by
 refine ⟨λi H hi s v O=>?_,λH s=>⟨λv O=>?_,?_⟩,λi H x H' hi s hy=>?_⟩
 .simp [qE3]at O;rcases O with rfl|rfl
  .show ⟨xs,xs[i]'(qB4 hi (qZ9 ..)),Sq.same s h,ZZ⟩
  .show ⟨ys,ys[i]'(qB4 hi (qN1 ..)),Sq.same s h',ZZ⟩
 .simp [qE3]at O;rcases O with rfl|rfl
  .show ⟨xs,Sq.same s h⟩
  .show ⟨ys,Sq.same s h'⟩
 .rcases Nat.le_total xs.length ys.length with q|q
  .show ⟨(t,a),ZZ,xs,Sq.same s h,ox⟩
  .show ⟨(u,b),ZZ,ys,Sq.same s h',ox⟩
 .obtain ⟨p,zs,e1,e2,e3,pr⟩:=hy;cases pr with
  | cons r1 pr=>
   cases pr with
   | cons r2 pr=>
    cases pr;show ⟨p,_,_,e1,e2,e3,r1 xs (Sq.same s h),r2 ys (Sq.same s h')⟩
def uU {K}(h:Sq K H1 t a xs) (h':Sq K H1 u b ys) (O:Sq K H1 w c zs):
  Runs (ItZ K [(t,a),(u,b),(w,c)]) (min xs.length (min ys.length zs.length)) H1 λi x H H'=>∃p y z v,x=.ref p/\H p=none/\H'=upd H p (.tup [y,z,v])/\xs[i]?=some y/\ys[i]?=some z/\zs[i]?=some v:=by
 refine ⟨λi H hi s v hv=>?_,λH s=>⟨λv hv=>?_,?_⟩,λi H x H' hi s hy=>?_⟩
 .simp [qE3]at hv;rcases hv with rfl|rfl|rfl
  .show ⟨xs,xs[i]'(qB4 hi (qZ9 ..)),Sq.same s h,ZZ⟩
  .show ⟨ys,ys[i]'(qB4 hi (qD3 (qN1 ..) (qZ9 ..))),Sq.same s h',ZZ⟩
  .show ⟨zs,zs[i]'(qB4 hi (qD3 (qN1 ..) (qN1 ..))),Sq.same s O,ZZ⟩
 .simp [qE3]at hv;rcases hv with rfl|rfl|rfl
  .show ⟨xs,Sq.same s h⟩
  .show ⟨ys,Sq.same s h'⟩
  .show ⟨zs,Sq.same s O⟩
 .have:min xs.length (min ys.length zs.length)=xs.length\/min xs.length (min ys.length zs.length)=ys.length\/min xs.length (min ys.length zs.length)=zs.length:=ox
  rcases this with q|q|q
  .show ⟨(t,a),ZZ,xs,Sq.same s h,ox⟩
  .show ⟨(u,b),ZZ,ys,Sq.same s h',ox⟩
  .show ⟨(w,c),ZZ,zs,Sq.same s O,ox⟩
 .obtain ⟨p,vs,e1,e2,e3,pr⟩:=hy;cases pr with
  | cons r1 pr=>
   cases pr with
   | cons r2 pr=>
    cases pr with
    | cons r3 pr=>
     cases pr;show ⟨p,_,_,_,e1,e2,e3,r1 xs (Sq.same s h),r2 ys (Sq.same s h'),r3 zs (Sq.same s O)⟩
structure Def (K:Frag) (mg:Vv) (x:Str) (st:Stmt) (ps:Vp) (f:Addr) (fd:FuncData):Prop where
 F:Fun K x x st f fd
 m:mg x=some (.ref f)
 b:Binds K fd ps []
def t6 {X:Cx}K{es}{pos}{k}{t}n(hc:X.calm=true)(h:PGs X es t)(hK:X.K=K:=by rfl)(hn:(assignEach es X.env).length=n:=by rfl)(O:(assignEach es X.env).findIdx? (·.1)=none:=by rfl):PG X (.Tuple es k pos) (sY K n t):=by subst hK;show Hv hc h hn O
def yd (O:TE) (te:TE):TE:=λa H Q=>O a H λx H1=>∃p,x=.ref p/\(∃xs,H1 p=some (.lst xs))/\te a H1 λy H2=>match H2 p with
 |some (.lst xs)=>xs.length<sizeLine/\Q .non (upd H2 p (.lst (xs ++ [y])))
 |_=>False
def jY {X}{o e}{to te}{apos O}(ho:PE X o to) (ha:PE X e te) (a3:attributeBase o "append" X.env (eval o X.env)=eval o X.env:=by rfl) (a4:((backTo O (starEach [e] X.env)).all (λx=>!x.1)&&(backToKw O (keywordEach [] X.env)).all (λx=>x.1.isSome)
   && decide (([e]).length+([]:List Keyword).length+(if ([]:List Keyword).isEmpty then 0 else 1)<30))=true:=by rfl) (a0:(apos.endLine == O.line)=true:=by rfl) (hs:starEach [e] X.env=(false,eval e X.env)::starEach [] X.env:=by rfl):PE X (.Call (.Attribute o "append" apos) [e] [] O) (yd to te):=by
 intro pins s a H Q I h;refine wpAny_Call_method_late a3 a4 a0 rfl (thn (ho pins s a H _ I h) λv s1 a5=>?_);obtain ⟨x,H1,I1,r1,p,ex,⟨xs,e1⟩,q1⟩:=a5;subst ex;obtain ⟨h1,h2⟩:=lG (T := "list") I1 r1 (.inl ⟨rfl,xs,SqL.of e1⟩);refine ⟨"list","list.append",qR5,PySem.F.slot_list_append,PySem.F.type_list_append,h1,h2,?_⟩;have hA:=eJ ha pa_nil hs O pins s1 a H1 (λvs H2=>∃y,vs = [y]/\match H2 p with
  |some (.lst xs)=>xs.length<sizeLine/\Q .non (upd H2 p (.lst (xs ++ [y])))
  | _=>False) I1 (by
   have e:(λ(y:V) (H2:Hp)=>match H2 p with
     |some (.lst xs)=>xs.length<sizeLine/\Q .non (upd H2 p (.lst (xs ++ [y])))
     |_=>False)=λ(y:V) (H2:Hp)=>∃y',[y] = [y']/\match H2 p with
     |some (.lst xs)=>xs.length<sizeLine/\Q .non (upd H2 p (.lst (xs ++ [y'])))
     |_=>False:=by
    funext y H2
    show propext ⟨λq=>⟨y,rfl,q⟩,λa7=>by obtain ⟨y',e,q⟩:=a7;cases e;show q⟩
   rw[e]at q1;show q1)
 rw[hs]at hA ⊢;refine qS0 rfl (Calls.evalArgs_plain ?_);refine thn hA λus s2 a6=>?_;obtain ⟨vs,H2,I2,r2,y,ev,q2⟩:=a6;subst ev;refine kh pins s2 a H2 (.ref p) [y] v us Q I2 r1 r2 ?_
 split at q2
 .rename_i ys e2;show ⟨p,ys,y,rfl,rfl,e2,q2.1,q2.2⟩
 .show q2.elim
def yJ (K:Frag):V->Option Int->Option Int->Hp->VK->Prop:=λx lo hi H Q=>∃p,x=.ref p/\∃xs,SqL K H p xs/\∀l,H l=none->Q (.ref l) (upd H l (.lst (gi xs lo hi)))
def BI (i j:Int):Prop:=0<=j/\(Builtin.Int.intBits i:Int)*j<=2^27
def DV {ns:VW}(h:ns[i]?=some z):ns.getD i 0=z:=by rw[qA3,h];rfl
def O6 {ns:VW}(h:i<ns.length):ns[i]?=some (ns.getD i 0):=by simp [h]
end L2
namespace TP
open PySem L2
inductive W where
 |non|bl (b:Bool)|int (i:Int)|str (x:Str)|ty (n:String)|tup (ws:List W)|lst (ws:List W)|scr (ws:List W)
 |exc (c:Str) (i:Vx)|cls (c:Str)
abbrev Zz:=List W
def XD (F:Hp) (od:Option Addr):Option Int->Prop
 |none=>od=none
 |some i=>∃d,od=some d/\F d=some (.xd [("at",.int i)])
mutual
inductive Rep (K:Frag) (F:Hp):V->W->Prop where
 |non:Rep K F .non .non
 |bl {b:Bool}:Rep K F (.bl b) (.bl b)
 |int {i:Int}:Rep K F (.int i) (.int i)
 |str {x:Str}:Rep K F (.str x) (.str x)
 |ty {n:String}:Rep K F (.ty n) (.ty n)
 |tup {a:Addr}{vs:List V}{ws:Zz}:F a=some (.tup vs)->Reps K F vs ws->Rep K F (.ref a) (.tup ws)
 |lst {a:Addr}{vs:List V}{ws:Zz}:F a=some (.lst vs)->Reps K F vs ws->Rep K F (.ref a) (.lst ws)
 |scr {a:Addr}{vs:List V}{ws:Zz}:SqL K F a vs->Reps K F vs ws->Rep K F (.ref a) (.scr ws)
 |exc {a C:Addr}{o:Obj}{vs:VQ}{c:Str}{i:Vx}:F a=some (.ext λh=>h.get? a=some o)->o.cls=.ref C->o.data=.fields vs->PySem.W.nsIn K mainGlobals c=some (some (.ref C))->XD F o.dict i->Rep K F (.ref a) (.exc c i)
 |cls {C:Addr}{c:Str}:PySem.W.nsIn K mainGlobals c=some (some (.ref C))->Rep K F (.ref C) (.cls c)
 |dct {a:Addr}{o:Obj}{c:Str}:F a=some (.ext λh=>h.get? a=some o)->o.cls=.type "dict" -> (∀C,PySem.W.nsIn K mainGlobals c≠some (some (.ref C)))->Rep K F (.ref a) (.exc c none)
inductive Reps (K:Frag) (F:Hp):List V->List W->Prop where
 |nil:Reps K F [] []
 |cons {v:V}{w:W}{vs:List V}{ws:Zz}:Rep K F v w->Reps K F vs ws->Reps K F (v::vs) (w::ws)
end
def yh (e:Same F F') (h:SqT K F a xs):SqT K F' a xs:=by
 rcases h with (h|⟨o,h⟩)|h
 .show .inl (.inl (e _ _ h))
 .show .inl (.inr ⟨o,e _ _ h⟩)
 .show .inr h
def XD.same (e:Same F F'):∀{i:Vx},XD F od i->XD F' od i:=by
 intro i h;cases i with
 |none=>show h
 |some _=>obtain ⟨d,O,h2⟩:=h;show ⟨d,O,e _ _ h2⟩
def Rep.same (e:Same F F') (r:Rep K F v w):Rep K F' v w:=
 @Rep.rec K F _ (λvs ws _=>Reps K F' vs ws) .non .bl .int .str .ty (λh _ r=>.tup (e _ _ h) r) (λh _ r=>.lst (e _ _ h) r) (λh _ r=>.scr (Same.seq e h) r) (λO h2 h3 h4 h5=>.exc (e _ _ O) h2 h3 h4 (XD.same e h5)) (λh=>.cls h) (λO h2 h3=>.dct (e _ _ O) h2 h3) .nil (λ_ _ a b=>.cons a b) v w r
def Reps.same (e:Same F F') (r:Reps K F vs ws):Reps K F' vs ws:=
 @Reps.rec K F (λ_ _ _=>True) (λvs ws _=>Reps K F' vs ws) trivial trivial trivial trivial trivial (λ_ _ _=>trivial) (λ_ _ _=>trivial) (λ_ _ _=>trivial) (λ_ _ _ _ _=>trivial) (λ_=>trivial) (λ_ _ _=>trivial) .nil (λh _ _ b=>.cons (Rep.same e h) b) vs ws r
def Reps.ind {P:List V->List W->Prop}(h0:P [] []) (O:∀{v}{w}{vs}{ws:Zz},Rep K F v w->Reps K F vs ws->P vs ws->P (v::vs) (w::ws)) (r:Reps K F vs ws):P vs ws:=
 @Reps.rec K F (λ_ _ _=>True) _ trivial trivial trivial trivial trivial (λ_ _ _=>trivial) (λ_ _ _=>trivial) (λ_ _ _=>trivial) (λ_ _ _ _ _=>trivial) (λ_=>trivial) (λ_ _ _=>trivial) h0 (λh r _ b=>O h r b) vs ws r
def KC (K:Frag) (F:Hp) (v:V):W->Prop
 | .non=>v=.non
 | .bl b=>v=.bl b
 | .int i=>v=.int i
 | .str x=>v=.str x
 | .ty n=>v=.ty n
 | .tup ws=>∃a vs,v=.ref a/\F a=some (.tup vs)/\Reps K F vs ws
 | .lst ws=>∃a vs,v=.ref a/\F a=some (.lst vs)/\Reps K F vs ws
 | .scr ws=>∃a vs,v=.ref a/\SqL K F a vs/\Reps K F vs ws
 | .exc _ _=>True
 | .cls _=>True
def Rep.inv (r:Rep K F v w):KC K F v w:=
 @Rep.rec K F (λv w _=>KC K F v w) (λ_ _ _=>True) rfl rfl rfl rfl rfl (λh r _=>⟨_,_,rfl,h,r⟩) (λh r _=>⟨_,_,rfl,h,r⟩) (λh r _=>⟨_,_,rfl,h,r⟩) (λ_ _ _ _ _=>trivial) (λ_=>trivial) (λ_ _ _=>trivial) trivial (λ_ _ _ _=>trivial) v w r
def MB (K:Frag) (F:Hp) (vs:List V):List W->Prop
 | []=>vs = []
 |w::ws=>∃v us,vs=v::us/\Rep K F v w/\Reps K F us ws
def Reps.inv (r:Reps K F vs ws):MB K F vs ws:=
 Reps.ind rfl (λh t _=>⟨_,_,rfl,h,t⟩) r
def Reps.length (r:Reps K F vs ws):vs.length=ws.length:=
 Reps.ind (P:=λvs ws=>vs.length=ws.length) rfl (λ_ _ h=>congrArg _ h) r
def Reps.get {i:Nat}(r:Reps K F vs ws):ws[i]?=some w->∃v,vs[i]?=some v/\Rep K F v w:=
 Reps.ind (P:=λvs ws=>∀(i:Nat) (w:W),ws[i]?=some w->∃v,vs[i]?=some v/\Rep K F v w) (λi w e=>by cases e) (λh _ b i w e=>by
  cases i with
  |zero=>cases e;show ⟨_,rfl,h⟩
  |succ i=>show b i w e) r i w
def Reps.get' {i:Nat}(r:Reps K F vs ws):vs[i]?=some v->∃w,ws[i]?=some w/\Rep K F v w:=
 Reps.ind (P:=λvs ws=>∀(i:Nat) (v:V),vs[i]?=some v->∃w,ws[i]?=some w/\Rep K F v w) (λi w e=>by cases e) (λh _ b i w e=>by
  cases i with
  |zero=>cases e;show ⟨_,rfl,h⟩
  |succ i=>show b i w e) r i v
def Reps.append (r:Reps K F vs ws) (s:Reps K F us xs):Reps K F (vs++us) (ws++xs):=
 Reps.ind (P:=λvs ws=>Reps K F (vs++us) (ws++xs)) s (λh _ b=>.cons h b) r
def Reps.take n (r:Reps K F vs ws):Reps K F (vs.take n) (ws.take n):=
 Reps.ind (P:=λvs ws=>∀n,Reps K F (vs.take n) (ws.take n)) (λn=>by simpa using .nil) (λh _ b n=>by
  cases n with
  |zero=>show .nil
  |succ n=>show .cons h (b n)) r n
def Reps.drop n (r:Reps K F vs ws):Reps K F (vs.drop n) (ws.drop n):=
 Reps.ind (P:=λvs ws=>∀n,Reps K F (vs.drop n) (ws.drop n)) (λn=>by simpa using .nil) (λh r b n=>by
  cases n with
  |zero=>show .cons h r
  |succ n=>show b n) r n
def Reps.reverse (r:Reps K F vs ws):Reps K F vs.reverse ws.reverse:=by
 induction r using Reps.rec (motive_1:=λ_ _ _=>True) with
 |nil=>show .nil
 |cons h _ _ O=>rw[qK0,qK0];show Reps.append O (.cons h .nil)
 |_=>trivial
def Reps.set (h:Rep K F v w) i (r:Reps K F vs ws):Reps K F (vs.set i v) (ws.set i w):=
 Reps.ind (P:=λvs ws=>∀i,Reps K F (vs.set i v) (ws.set i w)) (λ_=>.nil) (λq t b i=>by
  cases i with
  |zero=>show .cons h t
  |succ i=>show .cons q (b i)) r i
def Reps.snoc (r:Reps K F vs ws)(h:Rep K F v w):Reps K F (vs ++ [v]) (ws ++ [w]):=r.append (.cons h .nil)
mutual
def noL:W->Bool
 | .lst _=>false
 | .scr _=>false
 | .tup ws=>m5 ws
 |_=>true
def m5:List W->Bool
 | []=>true
 |w::ws=>noL w&&m5 ws
end
noncomputable def isL:HO->Bool
 | .lst _=>true
 | .dT _=>true
 | .dK _=>true
 | .frz _ (.lst _)=>true
 |_=>false
noncomputable def join (H0 G:Hp):Hp:=λa=>match H0 a with
 |some o=>if isL o then some o else G a
 |none=>G a
inductive Sl where
 |un|val (w:W)|par (w:W)|own (ws:Zz)|dic (ks:VV)|dik (ks:VW)|iop (p:Addr) (ws:Zz)|hz (w:W)
abbrev Rho:=List Sl
noncomputable def jl (G:Hp):Hp:=λa=>match G a with
 |some o=>if isL o then none else some o
 |none=>none
def ar (h:Same G G'):Same (jl G) (jl G'):=λa o e=>by
 unfold jl at e ⊢;cases q:G a with
 |none=>rw[q]at e;cases e
 |some u=>rw[q]at e;rw[h a u q];show e
def zt:Same (jl G) G:=λa o e=>by
 grind[jl]
def SlR (K:Frag) (H0 G H:Hp):Sl->Option V->Prop
 | .un,_=>True
 | .val w,o=>∃v,o=some v/\Rep K G v w
 | .par w,o=>∃v,o=some v/\Rep K (join H0 G) v w
 | .own ws,o=>∃a vs,o=some (.ref a)/\H a=some (.lst vs)/\G a=none/\H0 a=none/\Reps K G vs ws
 | .dic ks,o=>∃(a:Addr) (kvs:List (List Key×V)),o=some (.ref a)/\H a=some (.dT kvs)/\G a=none/\H0 a=none/\kvs.map (·.1)=ks.map λk=>k.map Sum.inl
 | .dik ks,o=>∃(a:Addr) (kvs:List (Key×V)),o=some (.ref a)/\H a=some (.dK kvs)/\G a=none/\H0 a=none/\kvs.map (·.1)=ks.map Sum.inl
 | .iop p ws,o=>o=some (.ref p)/\∃vs,H0 p=some (.lst vs)/\Reps K G vs ws
 | .hz w,o=>∃v,o=some v/\Rep K (join H0 (jl G)) v w
structure PIv (K:Frag) (H0 G:Hp) (ρ:Rho) (σ:St) (H:Hp):Prop where
 g0:∀a o,H0 a=some o->isL o=false->G a=some o
 gl:∀a o,H0 a=some o->isL o=true->G a=none
 gh:Same G H
 hh:Same H0 H
 len:ρ.length=σ.length
 sl:∀(i:Nat) (x:Sl) (o:Option V),ρ[i]?=some x->σ[i]?=some o->SlR K H0 G H x o
 ne:∀(i j:Nat) (ws us:Zz) (a:Addr),i≠j->ρ[i]?=some (.own ws)->ρ[j]?=some (.own us)->σ[i]?=some (some (.ref a))->σ[j]?≠some (some (.ref a))
structure Ext (G H G' H':Hp):Prop where
 gg:Same G G'
 hh:Same H H'
 gh:Same G' H'
 keep:∀a o,H a=some o->isL o=true->G a=none->G' a=none
def Ext.refl (h:Same G H):Ext G H G H:=⟨Same.refl G,Same.refl H,h,λ_ _ _ _ e=>e⟩
def Ext.trans (a:Ext G H G1 H1) (b:Ext G1 H1 G2 H2):Ext G H G2 H2:=
 ⟨a.gg.trans b.gg,a.hh.trans b.hh,b.gh,λx o h l e=>b.keep x o (a.hh x o h) l (a.keep x o h l e)⟩
def x3 (h:Same G G'):Same (join H0 G) (join H0 G'):=λa o e=>by
 unfold join at e ⊢;cases q:H0 a with
 |none=>rw[q]at e;show h a o e
 | some u=>
  rw[q]at e;dsimp at e ⊢;by_cases O:isL u=true
  .omega
  .rw[qA8 O]at e ⊢;show h a o e
def PIv.G_join (I:PIv K H0 G c b H):Same G (join H0 G):=λa o e=>by
 unfold join;cases q:H0 a with
 |none=>show e
 | some u=>
  by_cases O:isL u=true
  .rw[I.gl a u q O]at e;cases e
  omega
def PIv.join_H (I:PIv K H0 G c b H):Same (join H0 G) H:=λa o e=>by
 unfold join at e;cases q:H0 a with
 |none=>rw[q]at e;show I.gh a o e
 | some u=>
  rw[q]at e;dsimp at e;by_cases O:isL u=true
  .rw[qA2 O]at e;cases e;show I.hh a _ q
  .rw[qA8 O]at e;show I.gh a o e
def PIv.ext (I:PIv K H0 G c b H) (x:Ext G H G' H'):PIv K H0 G' c b H' where
 g0 a o e l:=x.gg a o (I.g0 a o e l)
 gl a o e l:=x.keep a o (I.hh a o e) l (I.gl a o e l)
 gh:=x.gh
 hh:=I.hh.trans x.hh
 len:=I.len
 sl i s o h1 h2:=by
  have:=I.sl i s o h1 h2
  cases s with
  |un=>trivial
  |val w=>obtain ⟨v,e,r⟩:=this;show ⟨v,e,r.same x.gg⟩
  |par w=>obtain ⟨v,e,r⟩:=this;show ⟨v,e,r.same (x3 x.gg)⟩
  | own ws=>
   obtain ⟨a,vs,e,h,g,h0,r⟩:=this;show ⟨a,vs,e,x.hh a _ h,x.keep a _ h rfl g,h0,r.same x.gg⟩
  | dic ks=>
   obtain ⟨a,kvs,e,h,g,h0,r⟩:=this;show ⟨a,kvs,e,x.hh a _ h,x.keep a _ h rfl g,h0,r⟩
  | dik ks=>
   obtain ⟨a,kvs,e,h,g,h0,r⟩:=this;show ⟨a,kvs,e,x.hh a _ h,x.keep a _ h rfl g,h0,r⟩
  | iop p ws=>
   obtain ⟨e,vs,h,r⟩:=this;show ⟨e,vs,h,r.same x.gg⟩
  |hz w=>obtain ⟨v,e,r⟩:=this;show ⟨v,e,r.same (x3 (ar x.gg))⟩
 ne:=I.ne
def ci (h:join H0 G a=some o) (l:isL o=false):G a=some o:=by
 grind[join]
theorem XD.clean:∀{i:Vx},XD (join H0 G) od i->XD G od i
 |none,h=>h
 |some _,⟨d,h1,h2⟩=>⟨d,h1,ci h2 rfl⟩
theorem Rep.clean (I:PIv K H0 G d c H) (r:Rep K (join H0 G) v w):noL w=true->Rep K G v w:=
 @Rep.rec K _ (λv w _=>noL w=true->Rep K G v w) (λvs ws _=>m5 ws=true->Reps K G vs ws) (λ_=>.non) (λ_=>.bl) (λ_=>.int) (λ_=>.str) (λ_=>.ty)
  (λh _ r n=>.tup (ci h rfl) (r n)) (λ_ _ _ n=>by cases n) (λ_ _ _ n=>by cases n) (λh1 h2 O h4 h5 _=>.exc (ci h1 rfl) h2 O h4 (XD.clean h5)) (λh _=>.cls h) (λh1 h2 O _=>.dct (ci h1 rfl) h2 O) (λ_=>.nil)
  (λ_ _ a b n=>by rw[m5,qH4]at n;show .cons (a n.1) (b n.2)) v w r
theorem Reps.clean (I:PIv K H0 G c a H) (r:Reps K (join H0 G) vs ws):m5 ws=true->Reps K G vs ws:=
 @Reps.rec K _ (λ_ _ _=>True) (λvs ws _=>m5 ws=true->Reps K G vs ws) trivial trivial trivial trivial trivial (λ_ _ _=>trivial) (λ_ _ _=>trivial) (λ_ _ _=>trivial) (λ_ _ _ _ _=>trivial) (λ_=>trivial) (λ_ _ _=>trivial) (λ_=>.nil)
  (λh _ _ b n=>by rw[m5,qH4]at n;show .cons (Rep.clean I h n.1) (b n.2)) vs ws r
structure XW where
 cls:Str
 at_:Option Int
inductive R (α:Type) where
 |ok (a:α)|ex (e:XW)|stuck
noncomputable def R.bind {b O}(x:R b) (f:b->R O):R O:=match x with
 | .ok a=>f a
 | .ex e=>.ex e
 | .stuck=>.stuck
noncomputable instance:Monad R where
 pure:=R.ok
 bind:=R.bind
@[simp] theorem R.ok_bind {α O}(a:α) (f:α->R O):(R.ok a)>>=f=f a:=rfl
@[simp] theorem R.stuck_bind {α O}(f:α->R O):R.stuck>>=f=.stuck:=rfl
@[simp] theorem R.ex_bind {α O}e (f:α->R O):(R.ex e)>>=f=.ex e:=rfl
@[simp] theorem R.pure_eq (a:α):(pure a:R α)=.ok a:=rfl
inductive Mode where
 |F|V|U|C|B
def Md (K:Frag) (H0 H G' H':Hp) (v:V) (w:W):Mode->Prop
 | .V=>Rep K G' v w
 | .U=>Rep K (join H0 G') v w
 | .F=>match w with
  | .lst ws=>∃a vs,v=.ref a/\H' a=some (.lst vs)/\G' a=none/\H a=none/\Reps K G' vs ws
  |w=>Rep K G' v w
 | .C=>Rep K G' v w\/∃a vs ws,v=.ref a/\w=.lst ws/\H' a=some (.lst vs)/\Reps K G' vs ws
 | .B=>Rep K (join H0 G') v w\/∃a vs ws,v=.ref a/\w=.lst ws/\H' a=some (.lst vs)/\Reps K G' vs ws
abbrev EXT:=XW->Hp->Prop
def Out {a O:Type}(EX:EXT) (G H:Hp) (md:a->O->Hp->Hp->Prop) (r:R a) (Q:O->Hp->Prop):Prop:=match r with
 | .ok w=>∀v G' H',Ext G H G' H'->md w v G' H'->Q v H'
 | .ex e=>∀H',Same H H'->EX e H'
 | .stuck=>False
abbrev mdW (K:Frag)(d:Mode)(H0 H:Hp):W->V->Hp->Hp->Prop:=λw v G' H'=>Md K H0 H G' H' v w d
abbrev mdB:Bool->Bool->Hp->Hp->Prop:=λb c _ _=>c=b
inductive MdA (K:Frag) (d:Mode) (H0 H G' H':Hp):List W->List V->Prop where
 |nil:MdA K d H0 H G' H' [] []
 |cons {w:W}{v:V}{ws:Zz}{vs:List V}:Md K H0 H G' H' v w d->MdA K d H0 H G' H' ws vs->MdA K d H0 H G' H' (w::ws) (v::vs)
abbrev mdA (K:Frag)(d:Mode)(H0 H:Hp):List W->List V->Hp->Hp->Prop:=λws vs G' H'=>MdA K d H0 H G' H' ws vs
def tM (K:Frag)(EX:EXT)(d:Mode)(m:Rho->R W):TE:=λb H Q=>∃H0 G a,PIv K H0 G a b H/\Out EX G H (mdW K d H0 H) (m a) Q
def tT (K:Frag)(EX:EXT)(m:Rho->R Bool):TT:=λb H Q=>∃H0 G a,PIv K H0 G a b H/\Out EX G H mdB (m a) Q
def tA (K:Frag)(EX:EXT)(d:Mode)(m:Rho->R Zz):TA:=λb H Q=>∃H0 G a,PIv K H0 G a b H/\Out EX G H (mdA K d H0 H) (m a) Q
def Out.bind {md:a->c->Hp->Hp->Prop}{O:b->δ->Hp->Hp->Prop}{m:R a}{k:a->R b}{Q:δ->Hp->Prop}{Q1:c->Hp->Prop}(o:Out EX G H O (m>>=k) Q) (h:∀x G1 H1 w,Ext G H G1 H1->md w x G1 H1->Out EX G1 H1 O (k w) Q->Q1 x H1):Out EX G H md m Q1:=by
 cases m with
 | ok w=>
  intro v G' H' e d;refine h v G' H' w e d ?_;rw[R.ok_bind]at o
  revert o
  cases k w with
  |ok u=>show λo v2 G2 H2 e2 d2=>o v2 G2 H2 (e.trans e2) d2
  |ex x=>show λo H2 s2=>o H2 (e.hh.trans s2)
  |stuck=>show λo=>o
 |ex x=>show o
 |stuck=>show o
theorem Md.start (s:Same H H1) (h:Md K H0 H1 G2 H2 v w d):Md K H0 H G2 H2 v w d:=by
 cases d with
 | F=>
  cases w with
  |lst ws=>obtain ⟨a,vs,e,O,h2,h3,r⟩:=h;show ⟨a,vs,e,O,h2,s.free h3,r⟩
  |_=>show h
 |_=>show h
def Md.move (x:Ext G1 H1 G2 H2) (h:Md K H0 H G1 H1 v w d):Md K H0 H G2 H2 v w d:=by
 cases d with
 |V=>show Rep.same x.gg h
 |U=>show Rep.same (x3 x.gg) h
 | F=>
  cases w with
  |lst ws=>obtain ⟨a,vs,e,O,h2,h3,r⟩:=h;show ⟨a,vs,e,x.hh _ _ O,x.keep _ _ O rfl h2,h3,r.same x.gg⟩
  |non=>show Rep.same x.gg h
  |bl _=>show Rep.same x.gg h
  |int _=>show Rep.same x.gg h
  |str _=>show Rep.same x.gg h
  |ty _=>show Rep.same x.gg h
  |tup _=>show Rep.same x.gg h
  |scr _=>show Rep.same x.gg h
  |exc _ _=>show Rep.same x.gg h
  |cls _=>show Rep.same x.gg h
 | C=>
  rcases h with h|⟨a,vs,ws,e,e2,O,r⟩
  .show .inl (h.same x.gg)
  .show .inr ⟨a,vs,ws,e,e2,x.hh _ _ O,r.same x.gg⟩
 | B=>
  rcases h with h|⟨a,vs,ws,e,e2,O,r⟩
  .show .inl (h.same (x3 x.gg))
  .show .inr ⟨a,vs,ws,e,e2,x.hh _ _ O,r.same x.gg⟩
def Md.CB (I:PIv K H0 G1 b a H1) (h:Md K H0 H G1 H1 v w .C):Md K H0 H G1 H1 v w .B:=by
 rcases h with h|h
 .show .inl (h.same I.G_join)
 .show .inr h
noncomputable def sca:W->Bool
 | .tup _=>false
 | .scr _=>false
 | .lst _=>false
 |_=>true
def Md.sca (hs:sca w=true) (r:∀F,Rep K F v w) d:Md K H0 H G1 H1 v w d:=by
 cases d with
 |V=>show r _
 |U=>show r _
 |C=>show .inl (r _)
 |B=>show .inl (r _)
 |F=>cases w <;> first|show r _|cases hs
def Md.repB (h:Md K H0 H G1 H1 v w .B)(n:∀us,w≠.lst us):Rep K (join H0 G1) v w:=Or.elim h id λO=>by obtain ⟨_,_,us,_,e,_⟩:=O;show absurd e (n us)
def Md.repC (h:Md K H0 H G1 H1 v w .C)(n:∀us,w≠.lst us):Rep K G1 v w:=Or.elim h id λO=>by obtain ⟨_,_,us,_,e,_⟩:=O;show absurd e (n us)
def Md.lstB (I:PIv K H0 G1 c b H1) (h:Md K H0 H G1 H1 v (.lst ws) .B):∃a vs,v=.ref a/\H1 a=some (.lst vs)/\Reps K (join H0 G1) vs ws:=by
 rcases h with h|⟨a,vs,us,e,e2,h1,r⟩
 .obtain ⟨a,vs,e,s,r⟩:=h.inv;show ⟨a,vs,e,I.join_H _ _ s,r⟩
 .rw[W.lst.inj e2];show ⟨a,vs,e,h1,r.same I.G_join⟩
def Md.scrB (I:PIv K H0 G1 c b H1) (h:Md K H0 H G1 H1 v (.scr ws) .B):∃a vs,v=.ref a/\SqL K H1 a vs/\Reps K (join H0 G1) vs ws:=by
 obtain ⟨a,vs,e,s,r⟩:=(h.repB λ_=>W.noConfusion).inv;show ⟨a,vs,e,Same.seq I.join_H s,r⟩
def Md.lstC (I:PIv K H0 G1 c b H1) (h:Md K H0 H G1 H1 v (.lst ws) .C):∃a vs,v=.ref a/\H1 a=some (.lst vs)/\Reps K G1 vs ws:=by
 rcases h with h|⟨a,vs,us,e,e2,h1,r⟩
 .obtain ⟨a,vs,e,s,r⟩:=h.inv;show ⟨a,vs,e,I.gh _ _ s,r⟩
 .rw[W.lst.inj e2];show ⟨a,vs,e,h1,r⟩
def Md.tupB (I:PIv K H0 G1 c b H1) (h:Md K H0 H G1 H1 v (.tup ws) .B):∃a vs,v=.ref a/\H1 a=some (.tup vs)/\Reps K (join H0 G1) vs ws:=by
 obtain ⟨a,vs,e,s,r⟩:=(h.repB λ_=>W.noConfusion).inv;show ⟨a,vs,e,I.join_H _ _ s,r⟩
def Md.tupC (I:PIv K H0 G1 c b H1) (h:Md K H0 H G1 H1 v (.tup ws) .C):∃a vs,v=.ref a/\H1 a=some (.tup vs)/\Reps K G1 vs ws:=by
 obtain ⟨a,vs,e,s,r⟩:=(h.repC λ_=>W.noConfusion).inv;show ⟨a,vs,e,I.gh _ _ s,r⟩
def Md.intB (h:Md K H0 H G1 H1 v (.int i) .B):v=.int i:=(h.repB λ_=>W.noConfusion).inv
def Md.blB (h:Md K H0 H G1 H1 v (.bl i) .B):v=.bl i:=(h.repB λ_=>W.noConfusion).inv
def Md.strB (h:Md K H0 H G1 H1 v (.str i) .B):v=.str i:=(h.repB λ_=>W.noConfusion).inv
def Md.nonB (h:Md K H0 H G1 H1 v .non .B):v=.non:=(h.repB λ_=>W.noConfusion).inv
def Md.tyB (h:Md K H0 H G1 H1 v (.ty n) .B):v=.ty n:=(h.repB λ_=>W.noConfusion).inv
def Do (h:tM K EX .V m f H Q):tM K EX .F m f H Q:=by
 obtain ⟨H0,G,c,I,o⟩:=h;refine ⟨H0,G,c,I,?_⟩
 revert o
 cases m c with
 |ex e=>show id
 |stuck=>show id
 | ok w=>
  intro o v G' H' e d;cases w with
  | lst ws=>
   obtain ⟨a,vs,rfl,h1,h2,h3,r⟩:=d;have s1:Same G' (upd G' a (.lst vs)):=λb o q=>by grind[c7]
   refine o _ _ H' ⟨e.gg.trans s1,e.hh,λb o q=>?_,λb o q l g=>?_⟩ (.lst j7 (r.same s1))
   .by_cases O:b=a
    .grind[j7]
    .rw[c7 O]at q;show e.gh b o q
   .rw[c7 (i0 q h3)];show e.keep b o q l g
  |_=>show o v G' H' e d
def Dk (h:tM K EX .U m b H Q):tM K EX .V m b H Q:=by
 obtain ⟨H0,G,a,I,o⟩:=h;refine ⟨H0,G,a,I,?_⟩
 revert o
 cases m a with
 |ex e=>show id
 |stuck=>show id
 |ok w=>show λo v G' H' e d=>o v G' H' e (Rep.same (I.ext e).G_join d)
def Dl (h:tM K EX .C m b H Q):tM K EX .V m b H Q:=by
 obtain ⟨H0,G,a,I,o⟩:=h;refine ⟨H0,G,a,I,?_⟩
 revert o
 cases m a with
 |ex e=>show id
 |stuck=>show id
 |ok w=>show λo v G' H' e d=>o v G' H' e (.inl d)
def Dm (h:tM K EX .B m b H Q):tM K EX .U m b H Q:=by
 obtain ⟨H0,G,a,I,o⟩:=h;refine ⟨H0,G,a,I,?_⟩
 revert o
 cases m a with
 |ex e=>show id
 |stuck=>show id
 |ok w=>show λo v G' H' e d=>o v G' H' e (.inl d)
def Dq (h:tM K EX .B m b H Q):tM K EX .C m b H Q:=by
 obtain ⟨H0,G,a,I,o⟩:=h;refine ⟨H0,G,a,I,?_⟩
 revert o
 cases m a with
 |ex e=>show id
 |stuck=>show id
 |ok w=>show λo v G' H' e d=>o v G' H' e (Md.CB (I.ext e) d)
def Dp (h:tM K EX .C m c H Q):tM K EX .F m c H Q:=by
 obtain ⟨H0,G,b,I,o⟩:=h;refine ⟨H0,G,b,I,?_⟩
 revert o
 cases m b with
 |ex e=>show id
 |stuck=>show id
 | ok w=>
  intro o v G' H' e d;cases w with
  |lst ws=>obtain ⟨a,vs,rfl,O,h2,h3,r⟩:=d;show o _ G' H' e (.inr ⟨a,vs,ws,rfl,rfl,O,r⟩)
  |_=>show o v G' H' e (.inl d)
noncomputable def chk (w:W):R W:=if noL w then .ok w else .stuck
def sI (n:noL w=true) (r:Rep K G1 v w):Md K H0 H G1 H1 v w .F:=by
 cases w with
 |lst ws=>cases n
 |_=>show r
def ni (hd:d=.F\/d=.V) (h:tM K EX d (λa=>m a>>=chk) b H Q):tM K EX .U m b H Q:=by
 obtain ⟨H0,G,a,I,o⟩:=h;refine ⟨H0,G,a,I,Out.bind o λx G1 H1 w e m1 O=>?_⟩;unfold chk at O;by_cases n:noL w=true
 .rw [qA2 n]at O
  have r:=Rep.clean (I.ext e) m1 n;refine O x G1 H1 (Ext.refl e.gh) ?_;rcases hd with rfl|rfl
  .show sI n r
  .show r
 .rw[qA8 n]at O;show O.elim
def bE (hs:sca w=true) (r:∀F,Rep K F v w) (h:tM K EX d (λ_=>.ok w) a H Q):tC v a H Q:=by
 obtain ⟨H0,G,b,I,o⟩:=h;show o v G H (Ext.refl I.gh) (Md.sca hs r d)
noncomputable def a9 (d:Mode) (i:Nat):Rho->R W:=λa=>match a[i]? with
 |some (.val w)=>(match d with | .F=>chk w|_=>.ok w)
 |some (.par w)=>(match d with | .F=>chk w | .V=>chk w | .C=>chk w|_=>.ok w)
 |some (.own ws)=>(match d with | .C=>.ok (.lst ws) | .B=>.ok (.lst ws)|_=>.stuck)
 |some (.iop _ ws)=>(match d with | .B=>.ok (.lst ws) | .U=>.ok (.lst ws)|_=>.stuck)
 |some (.hz w)=>(match d with | .B=>.ok w | .U=>.ok w|_=>.stuck)
 |_=>.stuck
theorem Out.chk {v:V}{md:W->a->Hp->Hp->Prop}(o:Out EX G H md (chk w) Q):noL w=true/\Out EX G H md (.ok w) Q:=by
 unfold TP.chk at o;by_cases n:noL w=true
 .rw[qA2 n]at o;show ⟨n,o⟩
 .rw[qA8 n]at o;show o.elim
def lA (h:tM K EX d (a9 d i) b H Q):R3 i b H Q:=by
 obtain ⟨H0,G,c,I,o⟩:=h;unfold a9 at o;cases e:c[i]? with
 |none=>rw[e]at o;show o.elim
 | some s=>
  rw[e]at o;have hi:i<b.length:=by rw[<- I.len];show (qA7.mp e).1
  have es:b[i]?=some b[i]:=ZZ;have r:=I.sl i s _ e es;cases s with
  |un=>show o.elim
  | val w=>
   obtain ⟨v,O,r⟩:=r;refine ⟨v,by rw[es,O],?_⟩;cases d with
   |F=>obtain ⟨n,o⟩:=Out.chk (v:=v) o;show o v G H (Ext.refl I.gh) (sI n r)
   |V=>show o v G H (Ext.refl I.gh) r
   |U=>show o v G H (Ext.refl I.gh) (r.same I.G_join)
   |C=>show o v G H (Ext.refl I.gh) (.inl r)
   |B=>show o v G H (Ext.refl I.gh) (.inl (r.same I.G_join))
  | par w=>
   obtain ⟨v,O,r⟩:=r;refine ⟨v,by rw[es,O],?_⟩;cases d with
   |F=>obtain ⟨n,o⟩:=Out.chk (v:=v) o;show o v G H (Ext.refl I.gh) (sI n (Rep.clean I r n))
   |V=>obtain ⟨n,o⟩:=Out.chk (v:=v) o;show o v G H (Ext.refl I.gh) (Rep.clean I r n)
   |U=>show o v G H (Ext.refl I.gh) r
   |C=>obtain ⟨n,o⟩:=Out.chk (v:=v) o;show o v G H (Ext.refl I.gh) (.inl (Rep.clean I r n))
   |B=>show o v G H (Ext.refl I.gh) (.inl r)
  | own ws=>
   obtain ⟨a,vs,O,ha,hg,h0,r⟩:=r;refine ⟨_,by rw[es,O],?_⟩;cases d with
   |F=>show o.elim
   |V=>show o.elim
   |U=>show o.elim
   |C=>show o _ G H (Ext.refl I.gh) (.inr ⟨a,vs,ws,rfl,rfl,ha,r⟩)
   |B=>show o _ G H (Ext.refl I.gh) (.inr ⟨a,vs,ws,rfl,rfl,ha,r⟩)
  |dic ks=>show o.elim
  |dik ks=>show o.elim
  | hz w=>
   obtain ⟨v,O,r⟩:=r;refine ⟨v,by rw[es,O],?_⟩;have rj:=r.same (x3 (zt));cases d with
   |F=>show o.elim
   |V=>show o.elim
   |C=>show o.elim
   |U=>show o v G H (Ext.refl I.gh) rj
   |B=>show o v G H (Ext.refl I.gh) (.inl rj)
  | iop p ws=>
   obtain ⟨O,vs,h0,r⟩:=r;refine ⟨_,by rw[es,O],?_⟩;have rj:Rep K (join H0 G) (.ref p) (.lst ws):=by
    refine .lst ?_ (r.same I.G_join);unfold join;rw[h0];rfl
   cases d with
   |F=>show o.elim
   |V=>show o.elim
   |U=>show o _ G H (Ext.refl I.gh) rj
   |C=>show o.elim
   |B=>show o _ G H (Ext.refl I.gh) (.inl rj)
def Op2 (K:Frag) (b d:Mode) (r:R2) (f:W->W->R W):Prop:=∀(EX:EXT) (H0 O G H:Hp) (c:Rho) (a:St) (Ha Hb:Hp) (x y:V) (u v:W) (Q:VK),PIv K H0 G c a H->Same O H->Md K H0 Ha G H x u b->Md K H0 Hb G H y v b ->
 Out EX G H (mdW K d H0 O) (f u v) Q->r x y H Q
def oE (hr:Op2 K b d r f) (h:tM K EX d (λa=>ma a>>=λx=>mb a>>=λy=>f x y) c H Q):tOp r (tM K EX b ma) (tM K EX b mb) c H Q:=by
 obtain ⟨H0,G,a,I,o⟩:=h;refine ⟨H0,G,a,I,Out.bind o λx G1 H1 u O m1 o1=>⟨H0,G1,a,I.ext O,Out.bind o1 λy G2 H2 v e2 m2 o2=>?_⟩⟩;show hr EX H0 H G2 H2 a c H H1 x y u v Q ((I.ext O).ext e2) (O.hh.trans e2.hh) (m1.move e2) m2 o2
def Op1 (K:Frag) (b d:Mode) (r:V->Hp->VK->Prop) (f:W->R W):Prop:=∀(EX:EXT) (H0 O G H:Hp) (c:Rho) (a:St) (Ha:Hp) (x:V) (u:W) (Q:VK),PIv K H0 G c a H->Same O H->Md K H0 Ha G H x u b ->
 Out EX G H (mdW K d H0 O) (f u) Q->r x H Q
def c_un (hr:Op1 K b d r f) (h:tM K EX d (λa=>ma a>>=λx=>f x) c H Q):tUn r (tM K EX b ma) c H Q:=by
 obtain ⟨H0,G,a,I,o⟩:=h;show ⟨H0,G,a,I,Out.bind o λx G1 H1 u O m1 o1=>hr EX H0 H G1 H1 a c H x u Q (I.ext O) O.hh m1 o1⟩
noncomputable def fI (C:Int->Int->Prop) [∀i j,Decidable (C i j)] (g:Int->Int->W):W->W->R W
 | .int i,.int j=>if C i j then .ok (g i j) else .stuck
 |_,_=>.stuck
noncomputable def fI0 (g:Int->Int->W):W->W->R W
 | .int i,.int j=>.ok (g i j)
 |_,_=>.stuck
def l7 [∀i j,Decidable (C i j)](hs:∀i j,sca (g i j)=true) (hg:∀i j F,Rep K F (gv i j) (g i j)):Op2 K .B d (rI C gv) (fI C g):=by
 intro EX H0 Hs G H b a Ha Hb x y u v Q I s mx O o;cases u <;> first|show o.elim|skip
 all_goals (cases v <;> first|show o.elim|skip)
 rename_i i j
 have o':Out EX G H _ (if _ then _ else _) Q:=o;by_cases c:C i j
 .rw [qA2 c]at o'
  show ⟨i,j,mx.intB,O.intB,c,o' _ G H (Ext.refl I.gh) (Md.sca (hs i j) (hg i j) d)⟩
 .rw[qA8 c]at o';show o'.elim
def hX (hs:∀i j,sca (g i j)=true) (hg:∀i j F,Rep K F (gv i j) (g i j)):Op2 K .B d (rI0 gv) (fI0 g):=by
 intro EX H0 Hs G H b a Ha Hb x y u v Q I s mx O o;cases u <;> first|show o.elim|skip
 all_goals (cases v <;> first|show o.elim|skip)
 rename_i i j
 show ⟨i,j,mx.intB,O.intB,o _ G H (Ext.refl I.gh) (Md.sca (hs i j) (hg i j) d)⟩
noncomputable def fU (g:Int->W):W->R W
 | .int i=>.ok (g i)
 |_=>.stuck
def mY (hs:∀i,sca (g i)=true) (hg:∀i F,Rep K F (gv i) (g i)):Op1 K .B d (rU gv) (fU g):=by
 intro EX H0 Hs G H b a Ha x u Q I s O o;cases u <;> first|show o.elim|skip
 rename_i i
 show ⟨i,O.intB,o _ G H (Ext.refl I.gh) (Md.sca (hs i) (hg i) d)⟩
noncomputable def isN:W->Bool
 | .non=>true
 |_=>false
noncomputable def F9 (neg:Bool):W->W->R W
 |u,.non=>.ok (.bl (if neg then !isN u else isN u))
 |_,_=>.stuck
def wH (O:b=.B\/b=.U\/b=.V\/b=.C) (h:Md K H0 Hs G1 H1 v w b):decide (v=.non)=isN w:=by
 have key:∀F,Rep K F v w->decide (v=.non)=isN w:=λF r=>by
  cases r <;> first|rfl | (intro z)
 rcases O with rfl|rfl|rfl|rfl
 .rcases h with h|⟨a,vs,ws,rfl,rfl,_⟩
  .show key _ h
  .apply qN3;omega
 .show key _ h
 .show key _ h
 .rcases h with h|⟨a,vs,ws,rfl,rfl,_⟩
  .show key _ h
  .apply qN3;omega
def K6:Op2 K .B d (λx y H Q=>y=.non/\Q (.bl (decide (x=.non))) H) (F9 false):=by
 intro EX H0 Hs G H b a Ha Hb x y u v Q I s mx O o;cases v <;> first|show o.elim|skip
 refine ⟨O.nonB,?_⟩;rw[wH (.inl rfl) mx];show o _ G H (Ext.refl I.gh) (Md.sca rfl (λ_=>.bl) d)
def bj:Op2 K .B d (λx y H Q=>y=.non/\Q (.bl (!decide (x=.non))) H) (F9 true):=by
 intro EX H0 Hs G H b a Ha Hb x y u v Q I s mx O o;cases v <;> first|show o.elim|skip
 refine ⟨O.nonB,?_⟩;rw[wH (.inl rfl) mx];show o _ G H (Ext.refl I.gh) (Md.sca rfl (λ_=>.bl) d)
noncomputable def toB:W->R Bool
 | .bl b=>.ok b
 |_=>.stuck
def oC (h:tT K EX (λa=>ma a>>=toB) c H Q):rR (tM K EX .B ma) c H Q:=by
 obtain ⟨H0,G,a,I,o⟩:=h;refine ⟨H0,G,a,I,Out.bind o λx G1 H1 u e1 m1 O=>?_⟩;cases u <;> first|show O.elim|skip
 rename_i b
 show ⟨b,m1.blB,O b G1 H1 (Ext.refl e1.gh) rfl⟩
def c_tB (h:tT K EX (λb=>ma b>>=toB) a H Q):tB (tM K EX .B ma) a H Q:=oC h
def iY (a b:R Bool):R Bool:=a>>=λc=>if c then b else .ok false
def rOr (a b:R Bool):R Bool:=a>>=λc=>if c then .ok true else b
def sf (a:R Bool):R Bool:=a>>=λc=>.ok (!c)
def Mo (h:tT K EX (λa=>iY (ma a) (mb a)) b H Q):FC (tT K EX ma) (tT K EX mb) b H Q:=by
 obtain ⟨H0,G,a,I,o⟩:=h;refine ⟨H0,G,a,I,Out.bind o λx G1 H1 u O m1 o1=>?_⟩;cases m1;cases x with
 |true=>show ⟨H0,G1,a,I.ext O,o1⟩
 |false=>show o1 false G1 H1 (Ext.refl O.gh) rfl
def c_or (h:tT K EX (λa=>rOr (ma a) (mb a)) b H Q):tOr (tT K EX ma) (tT K EX mb) b H Q:=by
 obtain ⟨H0,G,a,I,o⟩:=h;refine ⟨H0,G,a,I,Out.bind o λx G1 H1 u O m1 o1=>?_⟩;cases m1;cases x with
 |true=>show o1 true G1 H1 (Ext.refl O.gh) rfl
 |false=>show ⟨H0,G1,a,I.ext O,o1⟩
def LZ (h:tT K EX (λa=>sf (ma a)) b H Q):Fv (tT K EX ma) b H Q:=by
 obtain ⟨H0,G,a,I,o⟩:=h;refine ⟨H0,G,a,I,Out.bind o λx G1 H1 u e1 O o1=>?_⟩;cases O;show o1 _ G1 H1 (Ext.refl e1.gh) rfl
def eD (a b:R W):R W:=a>>=λx=>toB x>>=λc=>if c then b else .ok (.bl false)
def mE (a b:R W):R W:=a>>=λx=>toB x>>=λc=>if c then .ok (.bl true) else b
def se (a:R W):R W:=a>>=λx=>toB x>>=λc=>.ok (.bl (!c))
def Kl (h:tM K EX d (λa=>eD (ma a) (mb a)) c H Q):AW (tM K EX .B ma) (tM K EX d mb) c H Q:=by
 obtain ⟨H0,G,a,I,o⟩:=h;refine ⟨H0,G,a,I,Out.bind o λx G1 H1 u e1 m1 o1=>?_⟩;cases u <;> first|show o1.elim|skip
 rename_i b
 refine ⟨b,m1.blB,?_⟩;cases b with
 | true=>
  refine ⟨H0,G1,a,I.ext e1,?_⟩;have O:=o1
  revert O
  cases mb a with
  |ok w=>show λO v G2 H2 e2 m2=>O v G2 H2 e2 (m2.start e1.hh)
  |ex _=>show id
  |stuck=>show id
 | false=>
  show o1 _ G1 H1 (Ext.refl e1.gh) (Md.sca rfl (λ_=>.bl) d)
def Out.restart {Q:VK}(s:Same H H1) (o:Out EX G1 H1 (mdW K d H0 H) r Q):Out EX G1 H1 (mdW K d H0 H1) r Q:=by
 revert o
 cases r with
 |ok w=>show λo v G2 H2 O m2=>o v G2 H2 O (m2.start s)
 |ex _=>show id
 |stuck=>show id
def c_if (h:tM K EX d (λa=>mc a>>=λc=>if c then ma a else mb a) b H Q):tIf (tT K EX mc) (tM K EX d ma) (tM K EX d mb) b H Q:=by
 obtain ⟨H0,G,a,I,o⟩:=h;refine ⟨H0,G,a,I,Out.bind o λx G1 H1 u O m1 o1=>?_⟩;cases m1;cases x with
 |true=>show ⟨H0,G1,a,I.ext O,Out.restart O.hh o1⟩
 |false=>show ⟨H0,G1,a,I.ext O,Out.restart O.hh o1⟩
def EG (hr:Op2 K b .B r f) (a0:Op2 K b d r' f') (h:tM K EX d (λa=>ma a>>=λx=>mb a>>=λy=>f x y>>=λz=>toB z>>=λc=>if c then mc a>>=λu=>f' y u else .ok (.bl false)) e H Q):
  (λe H Q=>tM K EX b ma e H λx H1=>tM K EX b mb e H1 λy H2=>r x y H2 λz O=>∃k,z=.bl k/\if k=true then tM K EX b mc e O λu H4=>r' y u H4 Q else Q (.bl false) O) e H Q:=by
 obtain ⟨H0,G,a,I,o⟩:=h;refine ⟨H0,G,a,I,Out.bind o λx G1 H1 u e1 m1 o1=>⟨H0,G1,a,I.ext e1,Out.bind o1 λy G2 H2 v e2 m2 o2=>?_⟩⟩;have I2:=(I.ext e1).ext e2;refine hr EX H0 H G2 H2 a e H H1 x y u v _ I2 (e1.hh.trans e2.hh) (m1.move e2) m2 (Out.bind o2 λz G3 O wz e3 m3 o3=>?_);cases wz <;> first|show o3.elim|skip
 rename_i k
 refine ⟨k,m3.blB,?_⟩;cases k with
 | true=>
  refine ⟨H0,G3,a,I2.ext e3,Out.bind o3 λt G4 H4 wt e4 m4 o4=>?_⟩;show a0 EX H0 H G4 H4 a e H1 O y t v wt Q ((I2.ext e3).ext e4) (((e1.hh.trans e2.hh).trans e3.hh).trans e4.hh) ((m2.move e3).move e4) m4 o4
 | false=>
  show o3 _ G3 O (Ext.refl e3.gh) (Md.sca rfl (λ_=>.bl) d)
def Ma (h:tA K EX d (λ_=>.ok []) a H QA):tNil a H QA:=by
 obtain ⟨H0,G,b,I,o⟩:=h;show o [] G H (Ext.refl I.gh) .nil
def Ki (h:tA K EX d (λb=>ma b>>=λx=>mr b>>=λxs=>.ok (x::xs)) c H QA):bJ (tM K EX d ma) (tA K EX d mr) c H QA:=by
 obtain ⟨H0,G,b,I,o⟩:=h;refine ⟨H0,G,b,I,Out.bind o λx G1 H1 u O m1 o1=>⟨H0,G1,b,I.ext O,Out.bind o1 λxs G2 H2 us e2 m2 o2=>?_⟩⟩;refine o2 _ G2 H2 (Ext.refl e2.gh) (.cons (m1.move e2) ?_);have go:∀{ws:_}{vs:_},MdA K d H0 H1 G2 H2 ws vs->MdA K d H0 H G2 H2 ws vs:=λ{ws vs} q=>by
  induction q with
  |nil=>show .nil
  |cons a _ ih=>show .cons (a.start O.hh) ih
 show go m2
def MdA.reps (h:MdA K .V H0 H G1 H1 ws vs):Reps K G1 vs ws:=
 @MdA.rec K .V H0 H G1 H1 (λws vs _=>Reps K G1 vs ws) .nil (λh _ b=>.cons h b) ws vs h
def MdA.repsU (h:MdA K .U H0 H G1 H1 ws vs):Reps K (join H0 G1) vs ws:=
 @MdA.rec K .U H0 H G1 H1 (λws vs _=>Reps K _ vs ws) .nil (λh _ b=>.cons h b) ws vs h
def Dh (O:Same G H) (hp:H p=none):Ext G H G (upd H p o):=
 ⟨Same.refl G,λb u q=>by grind[c7],λb u q=>by rw[c7 (i0 (O b u q) hp)];show O b u q,λ_ _ _ _ e=>e⟩
def fR (O:Same G H) (hp:H p=none):Ext G H (upd G p o) (upd H p o):=by
 have gp:=O.free hp;refine ⟨λb u q=>by grind[c7],λb u q=>by grind[c7],λb u q=>?_,λb u q l g=>?_⟩
 .by_cases hb:b=p
  .grind[j7]
  .rw[c7 hb]at q ⊢;show O b u q
 grind[c7]
def Out.newL {Q:VK}(I:PIv K H0 G b a H) (s:Same Hs H) (r:Reps K G vs ws) (O:H p=none) (o:Out EX G H (mdW K .F H0 Hs) (.ok (.lst ws)) Q):Q (.ref p) (upd H p (.lst vs)):=
 o _ G _ (Dh I.gh O) ⟨p,vs,rfl,j7,I.gh.free O,s.free O,r⟩
def Out.newTF {Q:VK}(I:PIv K H0 G c a H) (r:Reps K G vs ws) (O:H p=none) (o:Out EX G H (mdW K .F H0 Hs) (.ok (.tup ws)) Q):Q (.ref p) (upd H p (.tup vs)):=
 o _ _ _ (fR I.gh O) (.tup j7 (r.same λb u q=>by rw[c7 (i0 q (I.gh.free O))];show q))
noncomputable def lim (n:Nat)(w:W):R W:=if n<=1000 then .ok w else .stuck
def Out.lim {md:W->a->Hp->Hp->Prop}(o:Out EX G H md (lim n w) Q):n<=1000/\Out EX G H md (.ok w) Q:=by
 unfold TP.lim at o;by_cases n:n<=1000
 .rw[qA2 n]at o;show ⟨n,o⟩
 .rw[qA8 n]at o;show o.elim
def X5 (h:n<=1000):n<=sizeLine:=qD3 h ZQ
def LS (h:tM K EX .F (λa=>ma a>>=λws=>lim ws.length (.tup ws)) b H Q):xY (tA K EX .V ma) b H Q:=by
 obtain ⟨H0,G,a,I,o⟩:=h;refine ⟨H0,G,a,I,Out.bind o λxs G1 H1 ws e1 O o1=>?_⟩;obtain ⟨hl,o2⟩:=Out.lim o1;have r:=MdA.reps O;show ⟨by rw[r.length];show X5 hl,λp hp=>Out.newTF (I.ext e1) r hp o2⟩
def Mb (h:tM K EX .F (λa=>ma a>>=λws=>lim ws.length (.lst ws)) b H Q):Fw (tA K EX .V ma) b H Q:=by
 obtain ⟨H0,G,a,I,o⟩:=h;refine ⟨H0,G,a,I,Out.bind o λxs G1 H1 ws O m1 o1=>?_⟩;obtain ⟨hl,o2⟩:=Out.lim o1;have r:=MdA.reps m1;show ⟨by rw[r.length];show X5 hl,λp hp=>Out.newL (I.ext O) O.hh r hp o2⟩
def nO (h:H0 p=none):join H0 (upd G p o)=upd (join H0 G) p o:=by
 grind[join,j7,c7]
def JV (h:tM K EX .U (λa=>ma a>>=λws=>lim ws.length (.tup ws)) c H Q):xY (tA K EX .U ma) c H Q:=by
 obtain ⟨H0,G,a,I,o⟩:=h;refine ⟨H0,G,a,I,Out.bind o λxs G1 H1 ws e1 m1 o1=>?_⟩;obtain ⟨hl,o2⟩:=Out.lim o1;have r:=MdA.repsU m1;have O:=I.ext e1;refine ⟨by rw[r.length];show X5 hl,λp hp=>o2 _ _ _ (fR O.gh hp) ?_⟩
 change Rep K _ _ _;rw[nO (O.hh.free hp)];show .tup j7 (r.same λb u q=>by rw[c7 (i0 (O.join_H b u q) hp)];show q)
inductive Fl where
 |nx (ρ:Rho)|rt (w:W)|bk (ρ:Rho)|ct (ρ:Rho)
abbrev Zx:=W->Rho->Option Rho
abbrev Zk:=Rho->R Bool
abbrev Zw:=Rho->R Zz
abbrev Zv:=Rho->R Fl
abbrev Zj:=Rho->R W
def OutS (K:Frag) (EX:EXT) (d:Mode) (H0 G:Hp) (r:R Fl) (D:Ends):Prop:=match r with
 | .ok (.nx b)=>∀G' O H',Same G G'->PIv K H0 G' b O H'->D.nx O H'
 | .ok (.bk b)=>∀G' O H',Same G G'->PIv K H0 G' b O H'->D.bk O H'
 | .ok (.ct b)=>∀G' O H',Same G G'->PIv K H0 G' b O H'->D.ct O H'
 | .ok (.rt w)=>∀v G' H',Same G G'->Same G' H'->Same H0 H'->(∀a o,H0 a=some o->isL o=true->G' a=none)->Md K H0 H0 G' H' v w d->D.rt v H'
 | .ex e=>∀H',Same H0 H'->EX e H'
 | .stuck=>False
def tSt (K:Frag)(EX:EXT)(d:Mode)(m:Zv):TS:=λD b H=>∃H0 G a,PIv K H0 G a b H/\OutS K EX d H0 G (m a) D
def OutS.move (s:Same G G1) (o:OutS K EX d H0 G r D):OutS K EX d H0 G1 r D:=by
 cases r with
 |stuck=>show o
 |ex e=>show o
 | ok f=>
  cases f with
  |nx a0=>show λG' O H' s' I'=>o G' O H' (s.trans s') I'
  |bk a0=>show λG' O H' s' I'=>o G' O H' (s.trans s') I'
  |ct a0=>show λG' O H' s' I'=>o G' O H' (s.trans s') I'
  |rt w=>show λv G' H' s0 s1 s2 c md=>o v G' H' (s.trans s0) s1 s2 c md
def OutS.bind {md:b->a->Hp->Hp->Prop}(I:PIv K H0 G f c H) (o:OutS K EX d H0 G (m>>=k) D) (h:∀x G1 H1 w,Ext G H G1 H1->md w x G1 H1->OutS K EX d H0 G1 (k w) D->Q1 x H1):Out EX G H md m Q1:=by
 cases m with
 |ok w=>show λv G' H' e q=>h v G' H' w e q (OutS.move e.gg o)
 |ex e=>show λH' s=>o H' (I.hh.trans s)
 |stuck=>show o
def d8 (m n:Zv):Zv:=λa=>m a>>=λf=>match f with
 | .nx O=>n O
 | .rt w=>.ok (.rt w)
 | .bk O=>.ok (.bk O)
 | .ct O=>.ok (.ct O)
def Kc (h:tSt K EX d (λb=>.ok (.nx b)) D a H):tNext D a H:=by
 obtain ⟨H0,G,b,I,o⟩:=h;show o G a H (Same.refl G) I
def LV (h:tSt K EX d (d8 m n) D b H):xZ (tSt K EX d m) (tSt K EX d n) D b H:=by
 obtain ⟨H0,G,a,I,o⟩:=h;refine ⟨H0,G,a,I,?_⟩;unfold d8 at o
 revert o
 cases m a with
 |stuck=>show id
 |ex e=>show id
 | ok f=>
  cases f with
  |nx O=>show λo G' a0 H' s' I'=>⟨H0,G',O,I',OutS.move s' o⟩
  |_=>show id
def Kh (h:tSt K EX d (λb=>.ok (.ct b)) D a H):tCont D a H:=by
 obtain ⟨H0,G,b,I,o⟩:=h;show o G a H (Same.refl G) I
def EE (h:tSt K EX d (λ_=>.stuck) D a H):tNever D a H:=by
 obtain ⟨H0,G,b,I,o⟩:=h;show o
def BB (h:tSt K EX d (λa=>m a>>=λw=>.ok (.rt w)) D b H):ya (tM K EX d m) D b H:=by
 obtain ⟨H0,G,a,I,o⟩:=h;refine ⟨H0,G,a,I,OutS.bind I o λx G1 H1 w O m1 o1=>?_⟩;have I1:=I.ext O;show o1 x G1 H1 (Same.refl _) O.gh I1.hh I1.gl (m1.start I.hh)
def y4 (d:Mode) (i:Nat):Zv:=λa=>match a[i]? with
 |some (.own ws)=>.ok (.rt (.lst ws))
 |_=>a9 d i a>>=λw=>.ok (.rt w)
def AG (hd:d=.F\/d=.V) (h:tSt K EX d (y4 d i) D f H):ya (R3 i) D f H:=by
 obtain ⟨H0,G,g,I,o⟩:=h;unfold y4 at o;by_cases ho:∃ws,g[i]?=some (.own ws)
 .obtain ⟨ws,e⟩:=ho;rw[e]at o;have hi:i<f.length:=by rw[<- I.len];show (qA7.mp e).1
  have es:f[i]?=some f[i]:=ZZ;obtain ⟨a,vs,ev,ha,hg,h0,r⟩:=I.sl i _ _ e es;refine ⟨_,by rw[es,ev],?_⟩;rcases hd with rfl|rfl
  .show o _ G H (Same.refl _) I.gh I.hh I.gl ⟨a,vs,rfl,ha,hg,h0,r⟩
  .have s1:Same G (upd G a (.lst vs)):=λb o q=>by grind[c7]
   refine o _ _ H s1 (λb o q=>?_) I.hh (λb u q l=>?_) (.lst j7 (r.same s1))
   .by_cases O:b=a
    .grind[j7]
    .rw[c7 O]at q;show I.gh b o q
   .rw[c7 (i0 q h0)];show I.gl b u q l
 .have o':OutS K EX d H0 G (a9 d i g>>=λw=>.ok (.rt w)) D:=by
   grind
  have c:=BB ⟨H0,G,g,I,o'⟩;show lA c
def PIv.setV (I:PIv K H0 G e d H) (r:Rep K G v w):PIv K H0 G (e.set i (.val w)) (d.set i (some v)) H where
 g0:=I.g0
 gl:=I.gl
 gh:=I.gh
 hh:=I.hh
 len:=by rw[qF1,qF1];show I.len
 sl j x o h1 h2:=by
  by_cases O:i=j
  .subst O;rw[qD6]at h1 h2;simp only [qN8]at h1 h2
   split at h1 <;> split at h2 <;> simp [reduceCtorEq]at h1 h2
   subst h1;subst h2;show ⟨v,rfl,r⟩
  .rw[qB6 O]at h1 h2;show I.sl j x o h1 h2
 ne a b ws us c hab h1 h2 h3 h4:=by
  have na:i≠a:=by
   rintro rfl;rw[qD6]at h1;simp only [qN8]at h1
   split at h1 <;> simp at h1
  have nb:i≠b:=by
   rintro rfl;rw[qD6]at h2;simp only [qN8]at h2
   split at h2 <;> simp at h2
  rw[qB6 na]at h1 h3;rw[qB6 nb]at h2 h4;show I.ne a b ws us c hab h1 h2 h3 h4
def PIv.setU (I:PIv K H0 G e d H) (r:Rep K (join H0 G) v w):PIv K H0 G (e.set i (.par w)) (d.set i (some v)) H where
 g0:=I.g0
 gl:=I.gl
 gh:=I.gh
 hh:=I.hh
 len:=by rw[qF1,qF1];show I.len
 sl j x o h1 h2:=by
  by_cases O:i=j
  .subst O;rw[qD6]at h1 h2;simp only [qN8]at h1 h2
   split at h1 <;> split at h2 <;> simp [reduceCtorEq]at h1 h2
   subst h1;subst h2;show ⟨v,rfl,r⟩
  .rw[qB6 O]at h1 h2;show I.sl j x o h1 h2
 ne a b ws us c hab h1 h2 h3 h4:=by
  have na:i≠a:=by
   rintro rfl;rw[qD6]at h1;simp only [qN8]at h1
   split at h1 <;> simp at h1
  have nb:i≠b:=by
   rintro rfl;rw[qD6]at h2;simp only [qN8]at h2
   split at h2 <;> simp at h2
  rw[qB6 na]at h1 h3;rw[qB6 nb]at h2 h4;show I.ne a b ws us c hab h1 h2 h3 h4
def PIv.setO (I:PIv K H0 G d b H) (ha:H a=some (.lst vs)) (hg:G a=none) (h0:H0 a=none) (r:Reps K G vs ws) (nw:∀(j:Nat) us,d[j]?=some (Sl.own us)->b[j]?≠some (some (V.ref a))):PIv K H0 G (d.set i (.own ws)) (b.set i (some (.ref a))) H where
 g0:=I.g0
 gl:=I.gl
 gh:=I.gh
 hh:=I.hh
 len:=by rw[qF1,qF1];show I.len
 sl j x o h1 h2:=by
  by_cases O:i=j
  .subst O;rw[qD6]at h1 h2;simp only [qN8]at h1 h2
   split at h1 <;> split at h2 <;> simp [reduceCtorEq]at h1 h2
   subst h1;subst h2;show ⟨a,vs,rfl,ha,hg,h0,r⟩
  .rw[qB6 O]at h1 h2;show I.sl j x o h1 h2
 ne p q ws' us c hab h1 h2 h3 h4:=by
  by_cases hp:i=p
  .grind
  .rw [qB6 hp]at h1 h3
   by_cases hq:i=q
   .grind
   .rw [qB6 hq]at h2 h4
    show I.ne p q ws' us c hab h1 h2 h3 h4
noncomputable def P3:W->Sl
 | .lst ws=>.own ws
 |w=>.val w
def JW (h:tSt K EX d (λa=>m a>>=λw=>.ok (.nx (a.set i (.val w)))) D b H):bK (tM K EX .V m) (Q5 i) D b H:=by
 obtain ⟨H0,G,a,I,o⟩:=h;show ⟨H0,G,a,I,OutS.bind I o λx G1 H1 w e1 O o1=>o1 G1 _ H1 (Same.refl _) ((I.ext e1).setV O)⟩
def JX (h:tSt K EX d (λa=>m a>>=λw=>.ok (.nx (a.set i (.par w)))) D b H):bK (tM K EX .U m) (Q5 i) D b H:=by
 obtain ⟨H0,G,a,I,o⟩:=h;show ⟨H0,G,a,I,OutS.bind I o λx G1 H1 w e1 O o1=>o1 G1 _ H1 (Same.refl _) ((I.ext e1).setU O)⟩
def oD (h:tSt K EX d (λc=>m c>>=λw=>.ok (.nx (c.set i (P3 w)))) D e H):bK (tM K EX .F m) (Q5 i) D e H:=by
 obtain ⟨H0,G,c,I,o⟩:=h;refine ⟨H0,G,c,I,OutS.bind I o λx G1 H1 w e1 O o1=>?_⟩;have I1:=I.ext e1;cases w with
 | lst ws=>
  obtain ⟨a,vs,rfl,h1,h2,h3,r⟩:=O;refine o1 G1 _ H1 (Same.refl _) (I1.setO h1 h2 (I.hh.free h3) r λj us q z=>?_);obtain ⟨b,a0,eb,hb,_⟩:=I.sl j _ _ q z;omega
 |non=>show o1 G1 _ H1 (Same.refl _) (I1.setV O)
 |bl _=>show o1 G1 _ H1 (Same.refl _) (I1.setV O)
 |int _=>show o1 G1 _ H1 (Same.refl _) (I1.setV O)
 |str _=>show o1 G1 _ H1 (Same.refl _) (I1.setV O)
 |ty _=>show o1 G1 _ H1 (Same.refl _) (I1.setV O)
 |tup _=>show o1 G1 _ H1 (Same.refl _) (I1.setV O)
 |scr _=>show o1 G1 _ H1 (Same.refl _) (I1.setV O)
 |exc _ _=>show o1 G1 _ H1 (Same.refl _) (I1.setV O)
 |cls _=>show o1 G1 _ H1 (Same.refl _) (I1.setV O)
instance:DecidableEq Mode:=λa b=>by cases a <;> cases b <;> first|show isTrue rfl|show isFalse (by intro h;cases h)
def Gt (K:Frag) (e:Mode) (g:TG) (mg:Zx):Prop:=∀(H0 Hs G:Hp) (b:Rho) (a:St) (H:Hp) (v:V) (w:W) (a0:Rho) (Q:St->Hp->Prop),PIv K H0 G b a H->Md K H0 Hs G H v w e->mg w b=some a0 ->
 (∀O,PIv K H0 G a0 O H->Q O H)->g v a H Q
def Gts (K:Frag) (e:Mode) (g:TGs) (mg:List W->Rho->Option Rho):Prop:=∀(H0 G:Hp) (b:Rho) (a:St) (H:Hp) (vs:List V) (ws:Zz) (a0:Rho) (Q:St->Hp->Prop),PIv K H0 G b a H->Reps K (if e=.V then G else join H0 G) vs ws->mg ws b=some a0 ->
 (∀O,PIv K H0 G a0 O H->Q O H)->g vs a H Q
noncomputable def gN (e:Mode)(i:Nat):Zx:=λw a=>some (a.set i (if e=.V then .val w else .par w))
def f9:Gt K .U (Q5 i) (gN .U i):=λH0 Hs G b a H v w O Q I m e h=>by
 cases e;show h _ (I.setU m)
noncomputable def gsNil:List W->Rho->Option Rho
 | [],a=>some a
 |_,_=>none
noncomputable def i6 (f:Zx) (g:List W->Rho->Option Rho):List W->Rho->Option Rho
 |w::ws,a=>(f w a).bind (g ws)
 | [],_=>none
def t8:Gts K e gNil gsNil:=λH0 G b a H vs ws O Q I r e h=>by
 cases r with
 |nil=>cases e;show ⟨rfl,h _ I⟩
 |cons _ _=>cases e
def g9 (he:e=.V\/e=.U) (h1:Gt K e t f) (h2:Gts K e u g):Gts K e (sZ t u) (i6 f g):=λH0 G d c H vs ws a3 Q I r q h=>by
 cases r with
 |nil=>cases q
 | cons a b=>
  obtain ⟨O,q1,q2⟩:=Option.bind_eq_some_iff.mp q;refine ⟨_,_,rfl,h1 H0 H G d c H _ _ O _ I ?_ q1 λa0 I1=>h2 H0 G O a0 H _ _ a3 Q I1 b q2 h⟩;rcases he with rfl|rfl
  .show a
  .show a
noncomputable def gT (n:Nat) (g:List W->Rho->Option Rho):W->Rho->Option Rho
 | .tup ws,a=>if ws.length=n then g ws a else none
 |_,_=>none
def x9 (he:e=.V\/e=.U) (h:Gts K e u g):Gt K e (sY K n u) (gT n g):=λH0 Hs G c b H v w O Q I m q k=>by
 cases w <;> first|cases q|skip
 rename_i ws
 have q':(if ws.length=n then _ else none)=_:=q;by_cases hn:ws.length=n
 .rw [qA2 hn]at q'
  rcases he with rfl|rfl
  .obtain ⟨a,vs,e,s,r⟩:=Rep.inv m;show ⟨a,vs,e,SqT.of (I.gh _ _ s),by rw[r.length];show hn,h H0 G c b H _ ws O Q I ox q' k⟩
  .obtain ⟨a,vs,e,s,r⟩:=Rep.inv m;show ⟨a,vs,e,SqT.of (I.join_H _ _ s),by rw[r.length];show hn,h H0 G c b H _ ws O Q I ox q' k⟩
 omega
noncomputable def toR {b}:Option b->R b
 |some a=>.ok a
 |none=>.stuck
def Mm (hg:Gt K e g mg) (h:tSt K EX d (λa=>m a>>=λw=>toR (mg w a)>>=λO=>.ok (.nx O)) D b H):bK (tM K EX e m) g D b H:=by
 obtain ⟨H0,G,a,I,o⟩:=h;refine ⟨H0,G,a,I,OutS.bind I o λx G1 H1 w e1 m1 o1=>?_⟩;cases q:mg w a with
 |none=>rw[q]at o1;show o1.elim
 | some O=>
  rw[q]at o1;show hg H0 H G1 a b H1 x w O _ (I.ext e1) m1 q λa0 I'=>o1 G1 a0 H1 (Same.refl _) I'
def PIv.own_upd (I:PIv K H0 G d f H) (e:d[i]?=some (.own ws)) (es:f[i]?=some (some (.ref a))) (r:Reps K G vs' ws'):PIv K H0 G (d.set i (.own ws')) f (upd H a (.lst vs')):=by
 obtain ⟨a',vs,ev,ha,hg,h0,_⟩:=I.sl i _ _ e es;cases ev;refine ⟨I.g0,I.gl,λb o q=>by rw[c7 (i0 q hg)];show I.gh b o q,λb o q=>by rw[c7 (i0 q h0)];show I.hh b o q,by rw[qF1];show I.len,λj x o h1 h2=>?_,λp q a6 us c a5 h1 h2 h3 h4=>?_⟩
 .by_cases hj:i=j
  .subst hj;rw[qD6]at h1;simp only [qN8]at h1
   split at h1 <;> simp [reduceCtorEq]at h1
   subst h1;rw[es]at h2;cases h2;show ⟨a,vs',rfl,j7,hg,h0,r⟩
  .rw [qB6 hj]at h1
   have:=I.sl j x o h1 h2
   cases x with
   | own us=>
    obtain ⟨b,O,eb,hb,a0,a3,rb⟩:=this;subst eb;have a4:b≠a:=by
     rintro rfl;show I.ne i j ws us b hj e h1 es h2
    show ⟨b,O,rfl,by rw[c7 a4];show hb,a0,a3,rb⟩
   | dic ks=>
    obtain ⟨b,O,eb,hb,a0,a3,rb⟩:=this;have a4:b≠a:=by
     omega
    show ⟨b,O,eb,by rw[c7 a4];show hb,a0,a3,rb⟩
   | dik ks=>
    obtain ⟨b,O,eb,hb,a0,a3,rb⟩:=this;have a4:b≠a:=by
     omega
    show ⟨b,O,eb,by rw[c7 a4];show hb,a0,a3,rb⟩
   |un=>show this
   |val _=>show this
   |par _=>show this
   |iop _ _=>show this
   |hz _=>show this
 .have key:∀{k:Nat}{us:_},(d.set i (.own ws'))[k]?=some (.own us)->∃O,d[k]?=some (.own O):=λ{k us} hk=>by
   grind
  obtain ⟨w1,k1⟩:=key h1;obtain ⟨w2,k2⟩:=key h2;show I.ne p q w1 w2 c a5 k1 k2 h3 h4
def PIv.own_at {i:Nat}(I:PIv K H0 G c b H) (e:c[i]?=some (.own ws)):∃a vs,b[i]?=some (some (.ref a))/\H a=some (.lst vs)/\G a=none/\H0 a=none/\Reps K G vs ws:=by
 have hi:i<b.length:=by rw[<- I.len];show (qA7.mp e).1
 have es:b[i]?=some b[i]:=ZZ;obtain ⟨a,vs,O,r⟩:=I.sl i _ _ e es;show ⟨a,vs,by rw[es,O],r⟩
def V7 (i:Nat) (m:Zj):Zv:=λa=>match a[i]? with
 |some (.own ws)=>m a>>=λw=>if ws.length<1000 then .ok (.nx (a.set i (.own (ws ++ [w])))) else .stuck
 |_=>.stuck
def Mn (h:tSt K EX d (V7 i m) D b H):gy (yd (R3 i) (tM K EX .V m)) D b H:=by
 obtain ⟨H0,G,c,I,o⟩:=h;unfold V7 at o
 split at o
 .rename_i ws e
  obtain ⟨a,vs,es,ha,hg,h0,r⟩:=I.own_at e;refine ⟨_,es,a,rfl,⟨vs,ha⟩,H0,G,c,I,OutS.bind I o λx G1 H1 w e1 m1 O=>?_⟩;by_cases hl:ws.length<1000
  .rw [qA2 hl]at O
   have h1:=e1.hh a _ ha;rw[h1];have hlen:=r.length;show ⟨qB4 (by omega:vs.length<1000) ZQ,O G1 b _ (Same.refl _) ((I.ext e1).own_upd e es ((r.same e1.gg).snoc m1))⟩
  .rw[qA8 hl]at O;show O.elim
 .show o.elim
def fV (i:Nat) (O me:Zj):Zv:=λa=>match a[i]? with
 | some (.own ws)=>me a>>=λw=>O a>>=λk=>(match k with
  | .int k=>(match ixN ws.length k with
   |some j=>.ok (.nx (a.set i (.own (ws.set j w))))
   |none=>.stuck)
  |_=>.stuck)
 |_=>.stuck
def LU (h:tSt K EX d (fV i mk me) D b H):bK (tM K EX .V me) (gSub (R3 i) (tM K EX .B mk) rSetL) D b H:=by
 obtain ⟨H0,G,c,I,o⟩:=h;unfold fV at o
 split at o
 .rename_i ws e
  obtain ⟨a,vs,es,ha,hg,h0,r⟩:=I.own_at e;refine ⟨H0,G,c,I,OutS.bind I o λx G1 H1 w e1 m1 o1=>⟨.ref a,es,H0,G1,c,I.ext e1,OutS.bind (I.ext e1) o1 λy G2 H2 k e2 m2 O=>?_⟩⟩;cases k <;> first|show O.elim|skip
  rename_i k
  dsimp only at O;cases q:ixN ws.length k with
  |none=>rw[q]at O;show O.elim
  | some j=>
   rw[q]at O;refine ⟨a,vs,k,j,rfl,m2.intB,e2.hh _ _ (e1.hh _ _ ha),by rw[r.length];show q,?_⟩;show O G2 b _ (Same.refl _) (((I.ext e1).ext e2).own_upd e es (Reps.set (Rep.same e2.gg m1) j ((r.same e1.gg).same e2.gg)))
 .show o.elim
def nH (i:Nat) (f:Int->Int->Int) (m:Zj):Zv:=λc=>a9 .B i c>>=λx=>m c>>=λy=>match x,y with
 | .int a,.int b=>.ok (.nx (c.set i (.val (.int (f a b)))))
 |_,_=>.stuck
def Ml (h:tSt K EX d (nH i f m) D g H):FB i (tM K EX .B m) (ipI f) D g H:=by
 obtain ⟨H0,G,e,I,o⟩:=h;have c:tM K EX .B _ g H (λx H1=>∃G1 w,_/\Md K H0 H G1 H1 x w .B/\OutS K EX d H0 G1 (m e>>=λy=>match w,y with
   | .int a,.int b=>.ok (.nx (e.set i (.val (.int (f a b)))))
   |_,_=>.stuck) D):=⟨H0,G,e,I,OutS.bind I o λx G1 H1 w e1 O o1=>⟨G1,w,e1,O,o1⟩⟩
 obtain ⟨v,es,G1,w,e1,O,o1⟩:=lA c;have I1:=I.ext e1;refine ⟨v,es,H0,G1,e,I1,OutS.bind I1 o1 λy G2 H2 u e2 m2 o2=>?_⟩;cases w <;> first|show o2.elim|skip
 cases u <;> first|show o2.elim|skip
 rename_i a b
 show ⟨a,b,O.intB,m2.intB,o2 G2 _ H2 (Same.refl _) ((I1.ext e2).setV .int)⟩
def mIf (c:Zk)(m n:Zv):Zv:=λa=>c a>>=λb=>if b then m a else n a
def Mc (h:tSt K EX d (mIf c m n) D b H):yb (tT K EX c) (tSt K EX d m) (tSt K EX d n) D b H:=by
 obtain ⟨H0,G,a,I,o⟩:=h;refine ⟨H0,G,a,I,OutS.bind I o λx G1 H1 w O m1 o1=>?_⟩;cases m1;cases x with
 |true=>show ⟨H0,G1,a,I.ext O,o1⟩
 |false=>show ⟨H0,G1,a,I.ext O,o1⟩
noncomputable def frz (i:Nat) (a:Rho):Rho:=match a[i]? with
 |some (.own ws)=>a.set i (.val (.lst ws))
 |_=>a
def PIv.frz (I:PIv K H0 G f d H):∃G',Same G G'/\PIv K H0 G' (frz i f) d H:=by
 unfold TP.frz
 split
 .rename_i ws e
  obtain ⟨a,vs,es,ha,hg,h0,r⟩:=I.own_at e;have s1:Same G (upd G a (.lst vs)):=λb o q=>by rw[c7 (i0 q hg)];show q
  refine ⟨upd G a (.lst vs),s1,?_⟩;have I1:PIv K H0 G (f.set i .un) d H:=by
   refine ⟨I.g0,I.gl,I.gh,I.hh,by rw[qF1];show I.len,λj x o O h2=>?_,λp q b3 us c b0 O h2 h3 h4=>?_⟩
   .by_cases hj:i=j
    .subst hj;rw[qD6]at O;simp only [qN8]at O
     split at O <;> simp only [Option.some.injEq,reduceCtorEq]at O
     subst O;trivial
    .rw[qB6 hj]at O;show I.sl j x o O h2
   .have na:i≠p:=by
     rintro rfl;rw[qD6]at O;simp only [qN8]at O
     split at O <;> simp at O
    have nb:i≠q:=by
     rintro rfl;rw[qD6]at h2;simp only [qN8]at h2
     split at h2 <;> simp at h2
    rw[qB6 na]at O;rw[qB6 nb]at h2;show I.ne p q b3 us c b0 O h2 h3 h4
  have I2:PIv K H0 (upd G a (.lst vs)) (f.set i .un) d H:=by
   refine ⟨λb o q l=>s1 b o (I.g0 b o q l),λb o q l=>by rw[c7 (i0 q h0)];show I.gl b o q l,λb o q=>?_,I.hh,I1.len,λj x o O h2=>?_,I1.ne⟩
   .by_cases hb:b=a
    .subst hb;rw[j7]at q;cases q;show ha
    .rw[c7 hb]at q;show I.gh b o q
   .have:=I1.sl j x o O h2
    cases x with
    |un=>trivial
    |val w=>obtain ⟨v,e1,r1⟩:=this;show ⟨v,e1,r1.same s1⟩
    |par w=>obtain ⟨v,e1,r1⟩:=this;show ⟨v,e1,r1.same (x3 s1)⟩
    | own us=>
     obtain ⟨b,a5,eb,hb,a0,a3,rb⟩:=this;subst eb;have a6:i≠j:=by
      rintro rfl;rw[qD6]at O;simp only [qN8]at O
      split at O <;> simp at O
     rw[qB6 a6]at O;have a4:b≠a:=by
      rintro rfl;show I.ne i j ws us b a6 e O es h2
     show ⟨b,a5,rfl,hb,by rw[c7 a4];show a0,a3,rb.same s1⟩
    | dic ks=>
     obtain ⟨b,a5,eb,hb,a0,a3,rb⟩:=this;have a4:b≠a:=by
      rintro rfl;rw[ha]at hb;cases hb
     show ⟨b,a5,eb,hb,by rw[c7 a4];show a0,a3,rb⟩
    | dik ks=>
     obtain ⟨b,a5,eb,hb,a0,a3,rb⟩:=this;have a4:b≠a:=by
      rintro rfl;rw[ha]at hb;cases hb
     show ⟨b,a5,eb,hb,by rw[c7 a4];show a0,a3,rb⟩
    |iop p us=>obtain ⟨e1,ab,a7,r1⟩:=this;show ⟨e1,ab,a7,r1.same s1⟩
    |hz w=>obtain ⟨v,e,r⟩:=this;show ⟨v,e,r.same (x3 (ar s1))⟩
  have I3:=I2.setV (i:=i) (v:=.ref a) (w:=.lst ws) (.lst j7 (r.same s1));have e3:d.set i (some (V.ref a))=d:=by
   apply qH7;intro j;by_cases hj:i=j
   .subst hj;rw[es,qD6];simp only [qN8];rw[qA2 (qA7.mp es).1]
   .rw[qB6 hj]
  rw[e3,List.set_set]at I3;show I3
 .show ⟨G,Same.refl G,I⟩
def Mg (h:tSt K EX d (λa=>m (frz i a)) D b H):tSt K EX d m D b H:=by
 obtain ⟨H0,G,a,I,o⟩:=h;obtain ⟨G',s,O⟩:=I.frz;show ⟨H0,G',_,O,OutS.move s o⟩
section
variable {K:Frag}{EX:EXT}{H0 G H G1 H1 G2 H2:Hp}{ρ:Rho}{σ:St}{d:Mode}{D:Ends}
structure cK (K:Frag) (e:Mode) (H0 Z G:Hp) (J:It) (ws:Zz):Prop where
 go:∀i H,i<ws.length->Same Z H->J.go i H
 stop:∀H,Same Z H->J.stop ws.length H
 yld:∀i H x H' w,ws[i]?=some w->Same Z H->J.yld i H x H'->∀G2 ρ σ,PIv K H0 G2 ρ σ H->Same G G2->∃G3,Ext G2 H G3 H'/\Md K H0 H G3 H' x w e
def oR (K:Frag) (EX:EXT) (lp:Bool) (e:Mode) (H0 G H:Hp) (r:R Zz) (O:It->Hp->Prop):Prop:=match r with
 | .ok ws=>∀J G' H',Ext G H G' H'->cK K e H0 (if lp then join H0 G' else H') G' J ws->O J H'
 | .ex x=>∀H',Same H H'->EX x H'
 | .stuck=>False
def tIt (K:Frag)(EX:EXT)(lp:Bool)(e:Mode)(m:Zw):TI:=λσ H O=>∃H0 G ρ,PIv K H0 G ρ σ H/\oR K EX lp e H0 G H (m ρ) O
def N7 (mg:Zx) (mb:Zv):List W->Rho->R Fl
 | [],ρ=>.ok (.nx ρ)
 | w::ws,ρ=>toR (mg w ρ)>>=λa0=>mb a0>>=λf=>match f with
  | .nx O=>N7 mg mb ws O
  | .ct O=>N7 mg mb ws O
  | .bk O=>.ok (.nx O)
  | .rt w=>.ok (.rt w)
def Mh (hg:Gt K e g mg) (h:tSt K EX d (λρ=>mi ρ>>=λws=>N7 mg mb ws ρ) D σ H):
  Fx (tIt K EX true e mi) g (tSt K EX d mb) D σ H:=by
 obtain ⟨H0,G,ρ,I,o⟩:=h;refine ⟨H0,G,ρ,I,?_⟩;replace o:OutS K EX d H0 G (_>>=_) D:=o
 revert o
 cases mi ρ with
 |stuck=>show id
 |ex x=>show λo H' s=>o H' (I.hh.trans s)
 | ok ws=>
  intro o J G1 H1 e1 T;have o1:=OutS.move e1.gg o;refine ⟨λi m σ H=>m=ws.length-i/\i<=ws.length/\∃G2 a0,Same G1 G2/\PIv K H0 G2 a0 σ H/\OutS K EX d H0 G2 (N7 mg mb (ws.drop i) a0) D,⟨_,rfl,qC6 _,G1,ρ,Same.refl _,I.ext e1,o1⟩,?_⟩;rintro i m a5 Hh ⟨rfl,hi,G2,a0,s2,I2,o2⟩;have hz:=(x3 s2).trans I2.join_H;by_cases a4:i<ws.length
  .refine .inr ⟨T.go i Hh a4 hz,λa7 H'=>∃G4 O,_/\_/\_,λa7 H' a6=>by obtain ⟨G4,O,s4,I4,o4⟩:=a6;show ⟨ws.length-_,ox,rfl,a4,G4,O,s4,I4,o4⟩,λx H' y=>?_⟩;obtain ⟨G3,e3,m3⟩:=T.yld i Hh x H' ws[i] ZZ hz y G2 a0 a5 I2 s2;rw[qX1 a4]at o2;unfold N7 at o2;cases q:mg ws[i] a0 with
   |none=>rw[q]at o2;show o2.elim
   | some a3=>
    rw[q]at o2;refine hg H0 Hh G3 a0 a5 H' x _ a3 _ (I2.ext e3) m3 q λa7 I'=>⟨H0,G3,a3,I',?_⟩;have o3:OutS K EX d H0 G3 (mb a3>>=_) D:=OutS.move e3.gg o2
    revert o3
    have s3:=s2.trans e3.gg;cases mb a3 with
    |stuck=>show id
    |ex x=>show id
    | ok f=>
     cases f with
     |nx O=>show λo4 G4 ab H4 s4 I4=>⟨G4,O,s3.trans s4,I4,OutS.move s4 o4⟩
     |ct O=>show λo4 G4 ab H4 s4 I4=>⟨G4,O,s3.trans s4,I4,OutS.move s4 o4⟩
     |bk O=>show id
     |rt w=>show id
  .have e:i=ws.length:=ox;subst e;refine .inl ⟨T.stop Hh hz,?_⟩;rw[List.drop_length]at o2;show o2 G2 a5 Hh (Same.refl _) I2
noncomputable def L8 (c:Zk) (b:Zv):Nat->Rho->Option (R Fl)
 |0,_=>none
 | n+1,ρ=>match c ρ with
  | .ok false=>some (.ok (.nx ρ))
  | .ok true=>(match b ρ with
   | .ok (.nx a)=>L8 c b n a
   | .ok (.ct a)=>L8 c b n a
   | .ok (.bk a)=>some (.ok (.nx a))
   | .ok (.rt w)=>some (.ok (.rt w))
   | .ex e=>some (.ex e)
   | .stuck=>some .stuck)
  | .ex e=>some (.ex e)
  | .stuck=>some .stuck
theorem il:∀ n ρ r,L8 c b n ρ=some r->∀m,n<=m->L8 c b m ρ=some r:=by
 intro n
 induction n with
 |zero=>intro ρ r h;cases h
 | succ n O=>
  intro ρ r h m hm;obtain ⟨k,rfl⟩:∃k,m=k+1:=⟨m-1,ox⟩
  grind[L8]
open Classical in
def K8 (c:Zk)(b:Zv):Zv:=λρ=>if h:∃r n,L8 c b n ρ=some r then h.choose else .stuck
theorem kB (h:L8 c b n ρ=some r):K8 c b ρ=r:=by
 unfold K8;have O:∃r n,L8 c b n ρ=some r:=⟨r,n,h⟩
 grind[il]
def ED (h:tSt K EX d (K8 c b) D σ H):uv (tT K EX c) (tSt K EX d b) D σ H:=by
 obtain ⟨H0,G,ρ,I,o⟩:=h;by_cases hx:∃r n,L8 c b n ρ=some r
 .obtain ⟨r,n,hn⟩:=hx;rw[kB hn]at o;refine ⟨λm a4 Hh=>∃G2 a3,Same G G2/\PIv K H0 G2 a3 a4 Hh/\L8 c b m a3=_,⟨n,G,ρ,Same.refl _,I,hn⟩,?_⟩;rintro m a4 Hh ⟨G2,a3,s2,I2,O⟩;have o2:=OutS.move s2 o;refine ⟨H0,G2,a3,I2,?_⟩;cases m with
  |zero=>cases O
  | succ m=>
   unfold L8 at O
   revert O
   cases c a3 with
   |stuck=>intro O;cases O;show o2
   |ex x=>intro O;cases O;show λH' s=>o2 H' (I2.hh.trans s)
   | ok t=>
    cases t with
    | false=>
     intro O;cases O;intro v G3 H3 e3 q;cases q;show o2 G3 a4 H3 e3.gg (I2.ext e3)
    | true=>
     intro O v G3 H3 e3 q;cases q;refine ⟨λa6 H'=>∃G4 a0,_/\_/\_=_,λa6 H' a5=>by obtain ⟨G4,a0,s4,I4,h4⟩:=a5;show ⟨m,qC8 m,G4,a0,s4,I4,h4⟩,H0,G3,a3,I2.ext e3,?_⟩;have o3:=OutS.move e3.gg o2;have s3:=s2.trans e3.gg
     revert O
     cases b a3 with
     |stuck=>intro O;cases O;show o3
     |ex x=>intro O;cases O;show o3
     | ok f=>
      cases f with
      |nx a0=>show λO G4 a7 H4 s4 I4=>⟨G4,a0,s3.trans s4,I4,O⟩
      |ct a0=>show λO G4 a7 H4 s4 I4=>⟨G4,a0,s3.trans s4,I4,O⟩
      |bk a0=>intro O;cases O;show o3
      |rt w=>intro O;cases O;show o3
 .unfold K8 at o;rw[dif_neg hx]at o;show o.elim
def Md.whole (I:PIv K H0 G ρ σ H) (h:Md K H0 Hs G H v w .B):Rep K H v w:=by
 rcases h with h|⟨a,vs,ws,rfl,rfl,h1,r⟩
 .show h.same I.join_H
 .show .lst h1 (r.same I.gh)
def MdA.whole (I:PIv K H0 G ρ σ H) (h:MdA K .B H0 Hs G H ws vs):Reps K H vs ws:=
 @MdA.rec K .B H0 Hs G H (λws vs _=>Reps K H vs ws) .nil (λh _ b=>.cons (h.whole I) b) ws vs h
def XE (_:XK):EXT:=λ_ _=>False
def spM (K:Frag) (n:Nat) (d:Mode) (f:List W->R W):Sp:=λvs H Q E=>vs.length=n/\∃ws,Reps K H vs ws/\match f ws with
 | .ok w=>∀v G' H',Same H H'->Same G' H'->(∀a o,H a=some o->isL o=true->G' a=none)->Md K H H G' H' v w d->Q v H'
 | .ex e=>∀H',Same H H'->XE E e H'
 | .stuck=>False
def i3 (n N:Nat) (m:Zv) (ws:Zz):R W:=if ws.length=n then (m (ws.map Sl.par++List.replicate (N-n) Sl.un)>>=λf=>match f with
 | .rt w=>.ok w
 | .nx _=>.ok .non
 |_=>.stuck) else .stuck
def yy ws (h:i3 n N m ws≠.stuck):ws.length=n:=by
 grind[i3]
noncomputable def both (G G':Hp):Hp:=λb=>match G b with
 |some o=>some o
 |none=>G' b
def Kj (hd:d=.F\/d=.V) (hf:∀ws,f ws≠.stuck->ws.length=n) (hE:∀e H,EX e H->XE E e H) (h:tM K EX d (λρ=>ma ρ>>=λws=>f ws) σ H Q):
  lg (spM K n d f) [] E (tA K EX .B ma) σ H Q:=by
 obtain ⟨H0,G,ρ,I,o⟩:=h;refine ⟨H0,G,ρ,I,Out.bind o λxs G1 H1 ws e1 m1 o1=>?_⟩;have I1:=I.ext e1;have r:=MdA.whole I1 m1;rw[qG0];refine ⟨?_,ws,r,?_⟩
 .rw [r.length]
  refine hf ws λz=>?_;rw[z]at o1;show o1
 .revert o1
  cases f ws with
  |stuck=>show id
  |ex e=>show λo1 H' s=>hE e H' (o1 H' s)
  | ok w=>
   intro o1 v G' H' sH gH cl md;have sB:Same G1 (both G1 G'):=λb o q=>by unfold both;rw[q]
   have O:Same G' (both G1 G'):=λb o q=>by
    unfold both;cases q1:G1 b with
    |none=>show q
    | some u=>
     have a1:=sH b u (I1.gh b u q1);rw[gH b o q]at a1;show a1.symm
   have a0:Same (both G1 G') H':=λb o q=>by
    unfold both at q;cases q1:G1 b with
    |none=>rw[q1]at q;show gH b o q
    |some u=>rw[q1]at q;cases q;show sH b _ (I1.gh b _ q1)
   have ex:Ext G1 H1 _ H':=⟨sB,sH,a0,λb o q l g=>by unfold both;rw[g];show cl b o q l⟩;refine o1 v _ H' ex ?_;rcases hd with rfl|rfl
   .cases w with
    | lst us=>
     obtain ⟨a,vs,rfl,h1,h2,h3,r3⟩:=md;show ⟨a,vs,rfl,h1,by unfold both;rw[I1.gh.free h3];show h2,e1.hh.free h3,r3.same O⟩
    |non=>show Rep.same O md
    |bl _=>show Rep.same O md
    |int _=>show Rep.same O md
    |str _=>show Rep.same O md
    |ty _=>show Rep.same O md
    |tup _=>show Rep.same O md
    |scr _=>show Rep.same O md
    |exc _ _=>show Rep.same O md
    |cls _=>show Rep.same O md
   .show Rep.same O md
noncomputable def Q2 (H:Hp):Hp:=λa=>match H a with
 |some o=>if isL o then none else some o
 |none=>none
def kG:join H (Q2 H)=H:=by
 grind[join,Q2]
def Reps.slots {i:Nat}(r:Reps K H vs ws):(ws.map Sl.par++List.replicate k Sl.un)[i]?=some x->(vs.map some++List.replicate k' none)[i]?=some o->x=.un\/∃v w,x=.par w/\o=some v/\Rep K H v w:=
 Reps.ind (P:=λvs ws=>∀i,(ws.map _++_)[i]?=_->(vs.map some++_)[i]?=_->x=.un\/∃v w,x=.par w/\o=some v/\Rep K H v w) (λi O h2=>by
  grind) (λr _ b i O h2=>by
  cases i with
  |zero=>show .inr ⟨_,_,Option.some.inj O.symm,Option.some.inj h2.symm,r⟩
  |succ i=>show b i O h2) r i
def PIv.begin (r:Reps K H vs ws) (hk:k=k'):PIv K H (Q2 H) (ws.map Sl.par++List.replicate k Sl.un) (vs.map some++List.replicate k' none) H where
 g0 a o e l:=by grind[Q2]
 gl a o e l:=by grind[Q2]
 gh a o e:=by
  grind[Q2]
 hh:=Same.refl H
 len:=by subst hk;simp [r.length]
 sl i x o h1 h2:=by
  rcases Reps.slots r h1 h2 with rfl|⟨v,w,rfl,rfl,q⟩
  .trivial
  .show ⟨v,rfl,by rw[kG];show q⟩
 ne i j us xs a hij h1 _ _ _:=by
  grind
def xp (hd:d=.F\/d=.V) (h:spM K n d (i3 n Nl.length m) vs H Q E):tSt K (λ_ _=>False) d m { nx:=λ_ H'=>Q .non H',rt:=Q } (L2.start Nl vs) H:=by
 obtain ⟨hl,ws,r,o⟩:=h;have hw:ws.length=n:=by rw[<- r.length];show hl
 unfold i3 at o;rw[qA2 hw]at o;refine ⟨H,_,_,PIv.begin r (by rw[hl]),?_⟩
 revert o
 cases m _ with
 |stuck=>show id
 |ex e=>show λo=>(o H (Same.refl H)).elim
 | ok f=>
  cases f with
  |nx a3=>show λo G' a0 H' s' O=>o _ G' H' O.hh O.gh O.gl (Md.sca rfl (λ_=>.non) d)
  |rt w=>show λo v G' H' _ s1 s2 c md=>o v G' H' s2 s1 c md
  |bk _=>show λo=>o.elim
  |ct _=>show λo=>o.elim
end
noncomputable def elR (mg:Zx) (mc:Zk) (me:Zj) (a:Rho) (w:W):R (Option W):=match mg w a with
 |none=>.stuck
 | some O=>(match mc O with
  | .ok true=>(match me O with
   | .ok y=>.ok (some y)
   |_=>.stuck)
  | .ok false=>.ok none
  |_=>.stuck)
noncomputable def mapR (f:W->R (Option W)):List W->R Zz
 | []=>.ok []
 | w::ws=>match f w,mapR f ws with
  | .ok (some y),.ok ys=>.ok (y::ys)
  | .ok none,.ok ys=>.ok ys
  |_,_=>.stuck
noncomputable def j6 (N':Nat) (mg:Zx) (mc:Zk) (me:Zj) (ws:Zz) (a:Rho):R W:=
 if ws.length<=1000 then (match mapR (elR mg mc me (a++List.replicate (N'-a.length) Sl.un)) ws with
  | .ok ys=>.ok (.lst ys)
  |_=>.stuck) else .stuck
def Du:∀{ws ys:Zz},mapR f ws=.ok ys->(∀w∈ws,∃o,f w=.ok o)/\ys=ws.filterMap λw=>match f w with
  | .ok o=>o
  |_=>none:=by
 intro ws
 induction ws <;> grind[mapR]
theorem PIv.inner (I:PIv K H0 G a b H):PIv K H0 G (a++List.replicate (N'.length-a.length) Sl.un) (inner N' b) H:=by
 have hl:=I.len;unfold L2.inner;rw[hl];refine ⟨I.g0,I.gl,I.gh,I.hh,by simp [hl],λi x o O h2=>?_,λp q ws us c a0 O h2 h3 h4=>?_⟩
 .by_cases hi:i<a.length
  .rw [qE8 hi]at O
   rw[qE8 ox]at h2;show I.sl i x o O h2
  .rw [qH9 ox,qR6]at O
   split at O <;> simp only [Option.some.injEq,reduceCtorEq]at O
   subst O;trivial
 .have key:∀{k:Nat}{us:Zz},(a++List.replicate (N'.length-b.length) Sl.un)[k]?=some (Sl.own us)->k<a.length/\a[k]?=some (Sl.own us):=λ{k us} hk=>by
   by_cases hi:k<a.length
   .rw[qE8 hi]at hk;show ⟨hi,hk⟩
   .rw [qH9 ox,qR6]at hk
    split at hk <;> simp at hk
  obtain ⟨l1,k1⟩:=key O;obtain ⟨l2,k2⟩:=key h2;rw[qE8 ox]at h3 h4;show I.ne p q ws us c a0 k1 k2 h3 h4
open Classical in
noncomputable def rest (G H:Hp)(Dd:Addr)(H':Hp):Hp:=λb=>if b=Dd\/∃o,H b=some o/\isL o=true/\G b=none then none else H' b
theorem D1 (h:b=Dd\/∃o,H b=some o/\isL o=true/\G b=none):rest G H Dd H' b=none:=by unfold rest;rw[qA2 h]
theorem al (h:¬ (b=Dd\/∃o,H b=some o/\isL o=true/\G b=none)):rest G H Dd H' b=H' b:=by unfold rest;rw[qA8 h]
def pZ (h:rest G H Dd H' b=some o):H' b=some o/\¬ (b=Dd\/∃o,H b=some o/\isL o=true/\G b=none):=by
 grind[D1,al]
def PIv.rest (I:PIv K H0 G d c H) (hD:H Dd=none) (s:Same H H'):Same G (rest G H Dd H')/\PIv K H0 (rest G H Dd H') d c H':=by
 have sG:Same G (TP.rest G H Dd H'):=λb o q=>by
  rw[al]
  .show s b o (I.gh b o q)
  .rintro (rfl|⟨u,h1,h2,h3⟩)
   .rw[I.gh _ _ q]at hD;cases hD
   .rw[q]at h3;cases h3
 refine ⟨sG,λa o e l=>sG a o (I.g0 a o e l),λa o e l=>D1 (.inr ⟨o,I.hh a o e,l,I.gl a o e l⟩),λb o q=>(pZ q).1,I.hh.trans s,I.len,λi x o h1 h2=>?_,I.ne⟩
 have:=I.sl i x o h1 h2
 cases x with
 |un=>trivial
 |val w=>obtain ⟨v,e,r⟩:=this;show ⟨v,e,r.same sG⟩
 |par w=>obtain ⟨v,e,r⟩:=this;show ⟨v,e,r.same (x3 sG)⟩
 | own ws=>
  obtain ⟨a,vs,e,h,g,h0,r⟩:=this;show ⟨a,vs,e,s a _ h,D1 (.inr ⟨_,h,rfl,g⟩),h0,r.same sG⟩
 | dic ks=>
  obtain ⟨a,vs,e,h,g,h0,r⟩:=this;show ⟨a,vs,e,s a _ h,D1 (.inr ⟨_,h,rfl,g⟩),h0,r⟩
 | dik ks=>
  obtain ⟨a,vs,e,h,g,h0,r⟩:=this;show ⟨a,vs,e,s a _ h,D1 (.inr ⟨_,h,rfl,g⟩),h0,r⟩
 |iop p ws=>obtain ⟨e1,a0,O,r1⟩:=this;show ⟨e1,a0,O,r1.same sG⟩
 |hz w=>obtain ⟨v,e,r⟩:=this;show ⟨v,e,r.same (x3 (ar sG))⟩
def di (s:∀b o,b≠Dd->Ha b=some o->Hb b=some o):Same (rest G H Dd Ha) (rest G H Dd Hb):=λb o q=>by
 obtain ⟨h,c⟩:=pZ q;rw[al c];show s b o (λz=>c (.inl z)) h
def yG (O:∃ys,Ha Dd=some (.lst ys)) (s:Same H Ha) (e:Ext (rest G H Dd Ha) Ha G' Hb):Same G' (rest G H Dd Hb):=λb o q=>by
 rw[al]
 .show e.gh b o q
 .rintro (rfl|⟨u,h1,h2,h3⟩)
  .obtain ⟨ys,O⟩:=O;rw[e.keep _ _ O rfl (D1 (.inl rfl))]at q;cases q
  .rw[e.keep _ _ (s _ _ h1) h2 (D1 (.inr ⟨u,h1,h2,h3⟩))]at q;cases q
def iB (hg:Gt K e g mg) (h:tM K EX .F (λa=>mi a>>=λws=>j6 N'.length mg mc me ws a) c H Q):
  rS N' (tIt K EX false e mi) g (tT K EX mc) (tM K EX .V me) c H Q:=by
 obtain ⟨H0,G,a,I,o⟩:=h;refine ⟨H0,G,a,I,?_⟩;replace o:Out EX G H (mdW K .F H0 H) (mi a>>=λws=>j6 N'.length mg mc me ws a) Q:=o
 revert o
 cases mi a with
 |stuck=>show id
 |ex x=>show id
 | ok ws=>
  intro o J G1 H1 e1 T Dd hD;have I1:=I.ext e1;replace o:Out EX G H (mdW K .F H0 H) (j6 N'.length mg mc me ws a) Q:=o
  unfold j6 at o;by_cases hlen:ws.length<=1000
  .rw [qA2 hlen]at o
   cases hm:mapR (elR mg mc me (a++List.replicate (N'.length-a.length) Sl.un)) ws with
   |stuck=>rw[hm]at o;show o.elim
   |ex x=>rw[hm]at o;show o.elim
   | ok ys=>
    rw[hm]at o;obtain ⟨ab,b4⟩:=Du hm;have T':cK K e H0 H1 G1 J ws:=by
     have:=T
     rw[qA8 qC9]at this;show this
    generalize c0:a++List.replicate (N'.length-a.length) Sl.un=b0 at hm ab b4
    refine ⟨λi m H2=>m=ws.length-i/\i<=ws.length/\Same H1 H2/\∃vs,H2 Dd=some (.lst vs)/\vs.length<=i/\Reps K (rest G1 H1 Dd H2) vs ((ws.take i).filterMap λw=>match elR mg mc me b0 w with
     | .ok o=>o
     |_=>none),⟨_,rfl,qC6 _,λb u q=>by rw[c7 (i0 q hD)];show q,[],j7,qB3 _,.nil⟩,?_⟩
    rintro i m H2 ⟨rfl,hi,s2,vs,a6,c1,r2⟩;by_cases a4:i<ws.length
    .refine .inr ⟨T'.go i H2 a4 s2,λx H3 y=>?_⟩;obtain ⟨sG,I2⟩:=I1.rest (Dd:=Dd) hD s2;have b5:=I2.inner (N':=N');obtain ⟨G3,e3,m3⟩:=T'.yld i H2 x H3 ws[i] ZZ s2 y _ _ _ b5 sG;obtain ⟨op,O⟩:=ab ws[i] (qI1 a4);have a7:=O;unfold elR at O;rw[<- c0]at O;have a5:ws.take (i+1)=ws.take i ++ [ws[i]]:=by rw[qS4 a4]
     cases q:mg ws[i] (a++List.replicate (N'.length-a.length) Sl.un) with
     |none=>rw[q]at O;cases O
     | some a0=>
      rw[q]at O;dsimp only at O;refine hg H0 H2 G3 _ _ H3 x _ a0 _ (b5.ext e3) m3 q λc3 I4=>⟨H0,G3,a0,I4,?_⟩;cases hc:mc a0 with
      |stuck=>rw[hc]at O;cases O
      |ex x=>rw[hc]at O;cases O
      | ok b=>
       intro b' G5 H5 e5 eb;cases eb;rw[hc]at O;cases b with
       | false=>
        rw[qA8 qC9];have a3:op=none:=by cases O;rfl
        have s5:Same H2 H5:=e3.hh.trans e5.hh;refine ⟨ws.length-(i+1),ox,rfl,a4,s2.trans s5,vs,s5 _ _ a6,ox,?_⟩;rw[a5,List.filterMap_append]
        have:([ws[i]].filterMap λw=>match elR mg mc me b0 w with
         | .ok o=>o
         |_=>none) = []:=by
         rw[List.filterMap_cons,a7,a3];rfl
        rw[this,qG0];show r2.same (di λb o _ q=>s5 b o q)
       | true=>
        dsimp only at O;rw[qA2 rfl];refine ⟨H0,G5,a0,I4.ext e5,?_⟩;cases b3:me a0 with
        |stuck=>rw[b3]at O;cases O
        |ex x=>rw[b3]at O;cases O
        | ok z=>
         rw[b3]at O;have a3:op=some z:=by cases O;rfl
         intro yv G6 H6 e6 m6;have b6:Ext (TP.rest G1 H1 Dd H2) H2 G6 H6:=(e3.trans e5).trans e6;have s6:Same H2 H6:=b6.hh;refine ⟨vs,s6 _ _ a6,qJ6 c1 (qB4 (by omega:i<1000) ZQ),ws.length-(i+1),ox,rfl,a4,λb u q=>by rw[c7 (i0 q hD)];show s6 b u (s2 b u q),vs ++ [yv],j7,by rw[qB8];simp;omega,?_⟩;rw[a5,List.filterMap_append]
         have:([ws[i]].filterMap λw=>match elR mg mc me b0 w with
          | .ok o=>o
          |_=>none) = [z]:=by
          rw[List.filterMap_cons,a7,a3];rfl
         rw[this];have k1:Same (TP.rest G1 H1 Dd H2) (TP.rest G1 H1 Dd (upd H6 Dd (.lst (vs ++ [yv])))):=di λb o hb q=>by rw[c7 hb];show s6 b o q
         have k2:Same G6 (TP.rest G1 H1 Dd (upd H6 Dd (.lst (vs ++ [yv])))):=(yG ⟨vs,a6⟩ s2 b6).trans (di λb o hb q=>by rw[c7 hb];show q);show (r2.same k1).snoc (Rep.same k2 m6)
    .have ei:i=ws.length:=ox;subst ei;refine .inl ⟨T'.stop H2 s2,?_⟩;rw[qI2,<- b4]at r2;obtain ⟨sG,I2⟩:=I1.rest (Dd:=Dd) hD s2;refine o _ (TP.rest G1 H1 Dd H2) H2 ⟨e1.gg.trans sG,e1.hh.trans s2,I2.gh,λb u q l g=>D1 (.inr ⟨u,e1.hh b u q,l,e1.keep b u q l g⟩)⟩ ⟨Dd,vs,rfl,a6,D1 (.inl rfl),e1.hh.free hD,r2⟩
  .rw[qA8 hlen]at o;show o.elim
noncomputable def seqW:W->R Zz
 | .lst ws=>.ok ws
 | .tup ws=>.ok ws
 | .scr ws=>.ok ws
 |_=>.stuck
def J0 (e:Same H H1) (h:Sq K H t a xs):Sq K H1 t a xs:=by
 unfold Sq at h ⊢
 split at h
 .rename_i ht;rw[qA2 ht];show yh e h
 .rename_i ht;rw[qA8 ht];show Same.seq e h
def sqT (h:SqT K H a xs):Sq K H true a xs:=by unfold Sq;show h
def sqL (h:SqL K H a xs):Sq K H false a xs:=by unfold Sq;show h
def Rep.sq (h:Rep K F x w) (hw:seqW w=.ok ws):∃t a vs,x=.ref a/\Sq K F t a vs/\Reps K F vs ws:=by
 cases w <;> first | (cases hw;done)|skip
 .obtain ⟨a,vs,e,s,r⟩:=h.inv;show ⟨true,a,vs,e,sqT (SqT.of s),R.ok.inj hw ▸ r⟩
 .obtain ⟨a,vs,e,s,r⟩:=h.inv;show ⟨false,a,vs,e,sqL (SqL.of s),R.ok.inj hw ▸ r⟩
 .obtain ⟨a,vs,e,s,r⟩:=h.inv;show ⟨false,a,vs,e,sqL s,R.ok.inj hw ▸ r⟩
noncomputable def cZ:Bool->Mode->Mode
 |true,e=>e
 |false,.V=>.C
 |false,_=>.B
noncomputable def fz (e:Mode)(H0 G:Hp):Hp:=if e=.V then G else join H0 G
def Md.src (he:e=.V\/e=.U) (I:PIv K H0 G c b H) (m:Md K H0 Hs G H x w (cZ lp e)) (hw:seqW w=.ok ws):
  ∃t a vs,x=.ref a/\Sq K (if lp then join H0 G else H) t a vs/\Reps K (fz e H0 G) vs ws:=by
 unfold fz;rcases he with rfl|rfl
 .cases lp with
  | true=>
   obtain ⟨t,a,vs,O,e2,e3⟩:=Rep.sq m hw;show ⟨t,a,vs,O,by show J0 I.G_join e2,e3⟩
  | false=>
   rcases m with m|⟨a,vs,us,rfl,rfl,h1,r⟩
   .obtain ⟨t,a,vs,O,e2,e3⟩:=Rep.sq m hw;show ⟨t,a,vs,O,J0 I.gh e2,e3⟩
   .cases hw;show ⟨false,a,vs,rfl,sqL (SqL.of h1),r⟩
 .cases lp with
  | true=>
   obtain ⟨t,a,vs,O,e2,e3⟩:=Rep.sq m hw;show ⟨t,a,vs,O,by show e2,e3⟩
  | false=>
   rcases m with m|⟨a,vs,us,rfl,rfl,h1,r⟩
   .obtain ⟨t,a,vs,O,e2,e3⟩:=Rep.sq m hw;show ⟨t,a,vs,O,J0 I.join_H e2,e3⟩
   .cases hw;show ⟨false,a,vs,rfl,sqL (SqL.of h1),r.same I.G_join⟩
def Md.of_fz (O:e=.V\/e=.U) (h:Rep K (fz e H0 G) v w):Md K H0 Hs G H v w e:=by
 unfold fz at h;rcases O with rfl|rfl
 .show h
 .show h
def L9 (s:Same G G1):Same (fz e H0 G) (fz e H0 G1):=by
 unfold fz
 split
 .show s
 .show x3 s
def DN (he:e=.V\/e=.U) (s:Sq K Z t a vs) (r:Reps K (fz e H0 G) vs ws):cK K e H0 Z G (ItQ K t a) ws:=by
 have hl:=r.length;cases t with
 | true=>
  have O:∀H,Same Z H->SqT K H a vs:=λH z=>by have:=J0 z s;grind[Sq]
  refine ⟨λi H hi z=>⟨vs,vs[i]'ox,O H z,ZZ⟩,λH z=>⟨vs,O H z,ox⟩,λi H x H' w hw z a3 G2 c b I sg=>?_⟩;obtain ⟨e1,y⟩:=a3;subst e1;have hx:=y vs (O _ z);obtain ⟨v,hv,rv⟩:=Reps.get r hw;rw[hx]at hv;cases hv;show ⟨G2,Ext.refl I.gh,Md.of_fz he (rv.same (L9 sg))⟩
 | false=>
  have O:∀H,Same Z H->SqL K H a vs:=λH z=>by have:=J0 z s;grind[Sq]
  refine ⟨λi H hi z=>⟨vs,vs[i]'ox,O H z,ZZ⟩,λH z=>⟨vs,O H z,ox⟩,λi H x H' w hw z a0 G2 c b I sg=>?_⟩;obtain ⟨e1,y⟩:=a0;subst e1;have hx:=y vs (O _ z);obtain ⟨v,hv,rv⟩:=Reps.get r hw;rw[hx]at hv;cases hv;show ⟨G2,Ext.refl I.gh,Md.of_fz he (rv.same (L9 sg))⟩
def jr {lp:Bool}(I:PIv K H0 G b a H):Same (if lp then join H0 G else H) H:=by
 cases lp
 .show Same.refl H
 .show I.join_H
def Mf (O:e=.V\/e=.U) (h:tIt K EX lp e (λb=>ml b>>=seqW) c H Rr):iSq K (tM K EX (cZ lp e) ml) c H Rr:=by
 obtain ⟨H0,G,b,I,o⟩:=h;refine ⟨H0,G,b,I,?_⟩;replace o:oR K EX lp e H0 G H (_>>=seqW) Rr:=o
 revert o
 cases ml b with
 |stuck=>show id
 |ex x=>show id
 | ok w=>
  intro o x G1 H1 e1 m1;have I1:=I.ext e1;have o':oR K EX lp e H0 G H (seqW w) Rr:=o;cases q:seqW w with
  |stuck=>rw[q]at o';show o'.elim
  |ex z=>cases w <;> cases q
  | ok ws=>
   rw[q]at o';obtain ⟨t,a,vs,ex,s,r⟩:=Md.src O I1 m1 q;show ⟨a,ex,t,vs,J0 (jr I1) s,o' _ G1 H1 e1 (DN O s r)⟩
noncomputable def R5 (lo hi:Int):R Zz:=if -1000000<=lo/\lo<=1000000 /\ -1000000<=hi/\hi<=1000000 then .ok ((List.range (hi-lo).toNat).map λk=>W.int (lo+(k:Nat))) else .stuck
noncomputable def E4:List W->R Zz
 | [.int j]=>R5 0 j
 |_=>.stuck
noncomputable def rng2:List W->R Zz
 | [.int i,.int j]=>R5 i j
 |_=>.stuck
def zQ (he:e=.V\/e=.U):cK K e H0 Z G (Itr lo n) ((List.range n).map λk=>W.int (lo+(k:Nat))):=by
 refine ⟨λi H hi _=>by change i<n;simpa using hi,λH _=>by simp [Itr],λi H x H' w hw _ O G2 b a I _=>?_⟩;obtain ⟨e1,e2⟩:=O;subst e1;subst e2;rw[qA9]at hw;cases q:(List.range n)[i]? with
 |none=>rw[q]at hw;cases hw
 | some k=>
  rw[q]at hw;have hk:k=i:=by
   have:=qA7.mp q
   obtain ⟨h1,h2⟩:=this;simpa using h2.symm
  subst hk;cases hw;refine ⟨G2,Ext.refl I.gh,Md.sca rfl (λ_=>.int) e⟩
def bH (h:tIt K EX lp e (λa=>ma a>>=k) c H Rr) (O:∀H0 G a G1 H1 xs ws us,PIv K H0 G a c H->Ext G H G1 H1->MdA K b H0 H G1 H1 ws xs->k ws=.ok us->(∀J G' H',Ext G H G' H'->cK K e H0 (if lp then join H0 G' else H') G' J us->Rr J H')->Q xs H1) (hx:∀ws e,k ws≠.ex e):tA K EX b ma c H Q:=by
 obtain ⟨H0,G,a,I,o⟩:=h;refine ⟨H0,G,a,I,?_⟩;replace o:oR K EX lp e H0 G H (_>>=k) Rr:=o
 revert o
 cases ma a with
 |stuck=>show id
 |ex x=>show id
 | ok ws=>
  intro o xs G1 H1 e1 m1;have o':oR K EX lp e H0 G H (k ws) Rr:=o;cases q:k ws with
  |stuck=>rw[q]at o';show o'.elim
  |ex z=>grind
  |ok us=>rw[q]at o';show O H0 G a G1 H1 xs ws us I e1 m1 q o'
def Cm (h:R5 lo hi=.ok us):(-1000000<=lo/\lo<=1000000 /\ -1000000<=hi/\hi<=1000000)/\us=(List.range (hi-lo).toNat).map λk=>W.int (lo+(k:Nat)):=by
 unfold R5 at h
 split at h
 .cases h;rename_i c;show ⟨c,rfl⟩
 .cases h
def yA (h:R5 lo hi=.ex e):False:=by
 unfold R5 at h;by_cases c:-1000000<=lo/\lo<=1000000 /\ -1000000<=hi/\hi<=1000000
 .rw[qA2 c]at h;cases h
 .rw[qA8 c]at h;cases h
def JZ (he:e=.V\/e=.U) (h:tIt K EX lp e (λb=>ma b>>=E4) d H Rr):Bo (tA K EX .B ma) d H Rr:=by
 refine bH h (λH0 G b G1 H1 xs ws us I e1 O q o=>?_) (λws e z=>?_)
 .cases O with
  |nil=>cases q
  | @cons w _ _ _ a t=>
   cases t with
   |cons _ _=>first | (done) | (cases w <;> cases q)
   | nil=>
    cases w <;> first | (cases q)|skip
    rename_i j
    obtain ⟨c,rfl⟩:=Cm (q);refine ⟨j,by rw[Md.intB a],ox,ox,?_⟩
    have:=o (Itr 0 j.toNat) G1 H1 e1
    rw[Int.sub_zero]at this;show this (zQ he)
 .cases ws with
  |nil=>cases z
  | cons w t=>
   cases t with
   |cons _ _=>first | (done) | (cases w <;> cases z)
   | nil=>
    cases w <;> first | (cases z)|skip
    show yA z
noncomputable def bF:List Zz->List Zz
 | [xs,ys]=>xs.zipWith (λx y=>[x,y]) ys
 | [xs,ys,zs]=>(xs.zip ys).zipWith (λp z=>[p.1,p.2,z]) zs
 |_=>[]
noncomputable def aj:List W->R (List Zz)
 | []=>.ok []
 | w::ws=>match seqW w,aj ws with
  | .ok x,.ok xs=>.ok (x::xs)
  |_,_=>.stuck
noncomputable def F2 (ws:Zz):R Zz:=if ws.length=2\/ws.length=3 then (match aj ws with
 | .ok xs=>.ok ((bF xs).map W.tup)
 |_=>.stuck) else .stuck
def iX (he:e=.V\/e=.U) (I:PIv K H0 G c a H) (O:H p=none) (r:Reps K (fz e H0 G) vs ws):Ext G H (upd G p (.tup vs)) (upd H p (.tup vs))/\Md K H0 Hs (upd G p (.tup vs)) (upd H p (.tup vs)) (.ref p) (.tup ws) e:=by
 refine ⟨fR I.gh O,?_⟩;have gp:=I.gh.free O;rcases he with rfl|rfl
 .unfold fz at r;show .tup j7 (r.same λb u q=>by grind[c7])
 .unfold fz at r
  change Rep K _ _ _;rw[nO (I.hh.free O)];show .tup j7 (r.same λb u q=>by rw[c7 (i0 (I.join_H b u q) O)];show q)
def wE (he:e=.V\/e=.U) (s1:Sq K Z t a xs) (s2:Sq K Z u b ys) (r1:Reps K (fz e H0 G) xs us) (r2:Reps K (fz e H0 G) ys vs):
  cK K e H0 Z G (ItZ K [(t,a),(u,b)]) ((us.zipWith (λx y=>[x,y]) vs).map W.tup):=by
 have Rn:=uV s1 s2;have l1:=r1.length;have l2:=r2.length;have hl:((us.zipWith (λx y=>[x,y]) vs).map W.tup).length=min xs.length ys.length:=by simp [l1,l2]
 refine ⟨λi H hi z=>Rn.go i H ox z,λH z=>by rw[hl];show Rn.stop H z,λi H x H' w hw z y G2 d c I sg=>?_⟩;have hi:i<min xs.length ys.length:=by
  rw[<- hl];show (qA7.mp hw).1
 obtain ⟨p,y1,z1,rfl,hp,rfl,hy,hz⟩:=Rn.yld i H x H' hi z y;obtain ⟨w1,e1,q1⟩:=Reps.get' r1 hy;obtain ⟨w2,e2,q2⟩:=Reps.get' r2 hz;have O:w=.tup [w1,w2]:=by
  rw[qA9,qI4,e1,e2]at hw;cases hw;rfl
 subst O;obtain ⟨x1,x2⟩:=iX he I hp (.cons (q1.same (L9 sg)) (.cons (q2.same (L9 sg)) .nil));show ⟨_,x1,x2⟩
def wD (he:e=.V\/e=.U) (s1:Sq K Z t a xs) (s2:Sq K Z u b ys) (s3:Sq K Z v c zs) (r1:Reps K (fz e H0 G) xs us) (r2:Reps K (fz e H0 G) ys vs) (r3:Reps K (fz e H0 G) zs ts):
  cK K e H0 Z G (ItZ K [(t,a),(u,b),(v,c)]) (((us.zip vs).zipWith (λp z=>[p.1,p.2,z]) ts).map W.tup):=by
 have Rn:=uU s1 s2 s3;have l1:=r1.length;have l2:=r2.length;have l3:=r3.length;have hl:(((us.zip vs).zipWith (λp z=>[p.1,p.2,z]) ts).map W.tup).length=min xs.length (min ys.length zs.length):=by simp [l1,l2,l3]
 refine ⟨λi H hi z=>Rn.go i H ox z,λH z=>by rw[hl];show Rn.stop H z,λi H x H' w hw z y G2 f d I sg=>?_⟩;have hi:i<min xs.length (min ys.length zs.length):=by
  rw[<- hl];show (qA7.mp hw).1
 obtain ⟨p,y1,z1,t1,rfl,hp,rfl,hy,hz,ht⟩:=Rn.yld i H x H' hi z y;obtain ⟨w1,e1,q1⟩:=Reps.get' r1 hy;obtain ⟨w2,e2,q2⟩:=Reps.get' r2 hz;obtain ⟨w3,e3,q3⟩:=Reps.get' r3 ht;have O:w=.tup [w1,w2,w3]:=by
  rw[qA9,qI4,List.zip,qI4,e1,e2,e3]at hw;cases hw;rfl
 subst O;obtain ⟨x1,x2⟩:=iX he I hp (.cons (q1.same (L9 sg)) (.cons (q2.same (L9 sg)) (.cons (q3.same (L9 sg)) .nil)));show ⟨_,x1,x2⟩
def bN (h:aj (w::ws)=.ok xs):∃y ys,seqW w=.ok y/\aj ws=.ok ys/\xs=y::ys:=by
 grind[aj]
def LR (he:e=.V\/e=.U) (h:tIt K EX lp e (λa=>ma a>>=F2) b H Rr):IP K (tA K EX (cZ lp e) ma) b H Rr:=by
 refine bH h (λH0 G a G1 H1 xs ws us I e1 O q o=>?_) (λws e z=>?_)
 .have I1:=I.ext e1;unfold F2 at q
  split at q
  .rename_i hn
   cases hs:aj ws with
   |stuck=>rw[hs]at q;cases q
   |ex _=>rw[hs]at q;cases q
   | ok ls=>
    rw[hs]at q;cases q;cases O with
    |nil=>simp at hn
    | cons a1 O=>
     cases O with
     |nil=>simp at hn
     | cons a2 O=>
      obtain ⟨y1,ys,h1,a5,rfl⟩:=bN hs;obtain ⟨y2,ys,h2,a0,rfl⟩:=bN a5;obtain ⟨t1,p1,v1,rfl,q1,r1⟩:=Md.src he I1 a1 h1;obtain ⟨t2,p2,v2,rfl,q2,r2⟩:=Md.src he I1 a2 h2;have k1:=J0 (jr I1) q1;have k2:=J0 (jr I1) q2;cases O with
      | nil=>
       cases a0;refine ⟨_,rfl,.inl rfl,λu hu=>?_,o _ G1 H1 e1 (wE he q1 q2 r1 r2)⟩
       grind
      | cons a3 O=>
       cases O with
       |cons _ _=>simp at hn
       | nil=>
        obtain ⟨y3,ys,h3,a4,rfl⟩:=bN a0;cases a4;obtain ⟨t3,p3,v3,rfl,q3,r3⟩:=Md.src he I1 a3 h3;refine ⟨_,rfl,.inr rfl,λu hu=>?_,o _ G1 H1 e1 (wD he q1 q2 q3 r1 r2 r3)⟩;simp [qE3]at hu;rcases hu with rfl|rfl|rfl
        .show ⟨_,k1⟩
        .show ⟨_,k2⟩
        .show ⟨_,J0 (jr I1) q3⟩
  .cases q
 .unfold F2 at z
  split at z
  .split at z <;> cases z
  .cases z
def Reps.atI (r:Reps K F vs ws) (h:L2.atI ws i=some w):∃v,L2.atI vs i=some v/\Rep K F v w:=by
 unfold L2.atI at h ⊢;rw[r.length];cases q:ixN _ i with
 |none=>rw[q]at h;cases h
 |some j=>rw[q]at h;show Reps.get r h
noncomputable def fIx:W->W->R W
 | .lst ws,.int i=>toR (L2.atI ws i)
 | .tup ws,.int i=>toR (L2.atI ws i)
 | .scr ws,.int i=>toR (L2.atI ws i)
 |_,_=>.stuck
def HI:Op2 K .B .U (rIx K) fIx:=by
 intro EX H0 Hs G H c b Ha Hb x y u v Q I s mx my o;cases u <;> first|show o.elim|skip
 all_goals (cases v <;> first|show o.elim|skip)
 .rename_i ws i
  obtain ⟨a,vs,rfl,hs,r⟩:=mx.tupB I;replace o:Out EX G H _ (toR _) Q:=o
  cases q:L2.atI ws i with
  |none=>rw[q]at o;show o.elim
  | some w=>
   rw[q]at o;obtain ⟨v,O,rv⟩:=r.atI q;show .inr (.inl ⟨a,vs,i,v,rfl,my.intB,SqT.of hs,O,o v G H (Ext.refl I.gh) rv⟩)
 .rename_i ws i
  obtain ⟨a,vs,rfl,hs,r⟩:=mx.lstB I;replace o:Out EX G H _ (toR _) Q:=o
  cases q:L2.atI ws i with
  |none=>rw[q]at o;show o.elim
  | some w=>
   rw[q]at o;obtain ⟨v,O,rv⟩:=r.atI q;show .inl ⟨a,vs,i,v,rfl,my.intB,SqL.of hs,O,o v G H (Ext.refl I.gh) rv⟩
 .rename_i ws i
  obtain ⟨a,vs,rfl,hs,r⟩:=mx.scrB I;replace o:Out EX G H _ (toR _) Q:=o
  cases q:L2.atI ws i with
  |none=>rw[q]at o;show o.elim
  | some w=>
   rw[q]at o;obtain ⟨v,O,rv⟩:=r.atI q;show .inl ⟨a,vs,i,v,rfl,my.intB,hs,O,o v G H (Ext.refl I.gh) rv⟩
def HH:Op2 K .C .V (rIx K) fIx:=by
 intro EX H0 Hs G H c b Ha Hb x y u v Q I s mx my o;cases u <;> first|show o.elim|skip
 all_goals (cases v <;> first|show o.elim|skip)
 .rename_i ws i
  obtain ⟨a,vs,rfl,hs,r⟩:=mx.tupC I;replace o:Out EX G H _ (toR _) Q:=o
  cases q:L2.atI ws i with
  |none=>rw[q]at o;show o.elim
  | some w=>
   rw[q]at o;obtain ⟨v,O,rv⟩:=r.atI q;show .inr (.inl ⟨a,vs,i,v,rfl,Md.intB (Md.CB I my),SqT.of hs,O,o v G H (Ext.refl I.gh) rv⟩)
 .rename_i ws i
  obtain ⟨a,vs,rfl,hs,r⟩:=mx.lstC I;replace o:Out EX G H _ (toR _) Q:=o
  cases q:L2.atI ws i with
  |none=>rw[q]at o;show o.elim
  | some w=>
   rw[q]at o;obtain ⟨v,O,rv⟩:=r.atI q;show .inl ⟨a,vs,i,v,rfl,Md.intB (Md.CB I my),SqL.of hs,O,o v G H (Ext.refl I.gh) rv⟩
 .rename_i ws i
  obtain ⟨a,vs,rfl,hs,r⟩:=(Md.repC mx λ_=>W.noConfusion).inv;replace o:Out EX G H _ (toR _) Q:=o
  cases q:L2.atI ws i with
  |none=>rw[q]at o;show o.elim
  | some w=>
    rw[q]at o;obtain ⟨v,O,rv⟩:=r.atI q;show .inl ⟨_,_,i,v,rfl,Md.intB (Md.CB I my),Same.seq I.gh hs,O,o v G H (Ext.refl I.gh) rv⟩
def V4 (K:Frag)(EX:EXT)(m:Rho->R Vx):TO:=λd H Q=>∃H0 G a,PIv K H0 G a d H/\Out EX G H (λ(b c:Vx) _ _=>c=b) (m a) Q
noncomputable def partW:W->R Vx
 | .int i=>.ok (some i)
 |_=>.stuck
def AH (h:V4 K EX (λ_=>.ok none) a H Q):tNoPart a H Q:=by
 obtain ⟨H0,G,b,I,o⟩:=h;show o none G H (Ext.refl I.gh) rfl
def Kb (h:V4 K EX (λa=>m a>>=partW) b H Q):AT (tM K EX .B m) b H Q:=by
 obtain ⟨H0,G,a,I,o⟩:=h;refine ⟨H0,G,a,I,Out.bind o λx G1 H1 u e1 m1 O=>?_⟩;cases u <;> first|show O.elim|skip
 rename_i i
 show ⟨i,m1.intB,O _ G1 H1 (Ext.refl e1.gh) rfl⟩
noncomputable def L3 (xs:Zz)(lo hi:Vx):Zz:=(xs.drop (HT.sIx xs.length 0 lo)).take (HT.sIx xs.length xs.length hi-HT.sIx xs.length 0 lo)
def Reps.cut (r:Reps K F vs ws) lo hi:Reps K F (gi vs lo hi) (L3 ws lo hi):=by
 unfold gi L3;rw[r.length];show (r.drop _).take _
noncomputable def lstOf:W->Option Zz
 | .lst ws=>some ws
 | .scr ws=>some ws
 |_=>none
noncomputable def chks (c:Bool)(ws:Zz):R W:=if c||m5 ws then .ok (.lst ws) else .stuck
noncomputable def cb (c:Bool):Mode:=if c then .C else .B
def Md.lstOf (I:PIv K H0 G d b H) (m:Md K H0 Ha G H x w (cb c)) (h:lstOf w=some ws):∃a vs,x=.ref a/\SqL K H a vs/\Reps K (if c then G else join H0 G) vs ws:=by
 cases c with
 | true=>
  rw[qA2 rfl];cases w <;> first|cases h|skip
  .obtain ⟨a,vs,e,hs,r⟩:=Md.lstC (H:=Ha) I m;show ⟨a,vs,e,SqL.of hs,r⟩
  .obtain ⟨a,vs,e,hs,r⟩:=(Md.repC m λ_=>W.noConfusion).inv;show ⟨a,vs,e,Same.seq I.gh hs,r⟩
 | false=>
  rw[qA8 qC9];cases w <;> first|cases h|skip
  .obtain ⟨a,vs,e,hs,r⟩:=Md.lstB (H:=Ha) I m;show ⟨a,vs,e,SqL.of hs,r⟩
  .show Md.scrB (H:=Ha) I m
theorem Out.chks {Q:VK}(I:PIv K H0 G b a H) (s:Same Hs H) (r:Reps K (if c then G else join H0 G) vs ws) (o:Out EX G H (mdW K .F H0 Hs) (chks c ws) Q):∀p,H p=none->Q (.ref p) (upd H p (.lst vs)):=by
 unfold TP.chks at o;by_cases n:(c||m5 ws)=true
 .rw [qA2 n]at o
  have r':Reps K G vs ws:=by
   cases c with
   |true=>rw[qA2 rfl]at r;show r
   |false=>rw[qA8 qC9]at r;show Reps.clean I r (by simpa using n)
  show λp O=>Out.newL I s r' O o
 .rw[qA8 n]at o;show o.elim
def c_sl (h:tM K EX .F (λb=>m b>>=λx=>ml b>>=λl=>mh b>>=λu=>toR (lstOf x)>>=λws=>chks c (L3 ws l u)) d H Q):
  tSl (GG K) (tM K EX (cb c) m) (V4 K EX ml) (V4 K EX mh) d H Q:=by
 obtain ⟨H0,G,b,I,o⟩:=h;refine ⟨H0,G,b,I,Out.bind o λx G1 H1 w O m1 o1=>⟨H0,G1,b,I.ext O,Out.bind o1 λl' G2 H2 l e2 m2 o2=>⟨H0,G2,b,(I.ext O).ext e2,Out.bind o2 λu' G3 H3 u e3 m3 o3=>?_⟩⟩⟩;subst m2;subst m3;have I3:=((I.ext O).ext e2).ext e3;cases q:lstOf w with
 |none=>rw[q]at o3;show o3.elim
 | some ws=>
  rw[q]at o3;obtain ⟨a,vs,ex,hs,r⟩:=Md.lstOf I3 ((m1.move e2).move e3) q;refine ⟨a,vs,ex,hs,Out.chks I3 ((O.hh.trans e2.hh).trans e3.hh) ?_ o3⟩;cases c with
  |true=>show r.cut ..
  |false=>show r.cut ..
def Cal (K:Frag) (b d:Mode) (r:List V->Hp->VK->Prop) (f:List W->R W):Prop:=∀(EX:EXT) (H0 O G H:Hp) (c:Rho) (a:St) (Ha:Hp) (vs:List V) (ws:Zz) (Q:VK),PIv K H0 G c a H->Same O H->MdA K b H0 Ha G H ws vs ->
 Out EX G H (mdW K d H0 O) (f ws) Q->r vs H Q
def tK (hr:Cal K b d r f) (h:tM K EX d (λa=>ma a>>=λws=>f ws) c H Q):tCB r (tA K EX b ma) c H Q:=by
 obtain ⟨H0,G,a,I,o⟩:=h;show ⟨H0,G,a,I,Out.bind o λxs G1 H1 ws O m1 o1=>hr EX H0 H G1 H1 a c H xs ws Q (I.ext O) O.hh m1 o1⟩
def fLen:List W->R W
 | [w]=>seqW w>>=λws=>.ok (.int ws.length)
 |_=>.stuck
def m9:Cal K .B d (λxs H Q=>∃p ys,xs = [.ref p]/\(SqL K H p ys\/SqT K H p ys)/\Q (.int ys.length) H) fLen:=by
 intro EX H0 Hs G H c b O vs ws Q I s m o;cases m with
 |nil=>show o.elim
 | cons a t=>
  cases t with
  |cons _ _=>show o.elim
  | nil=>
   rename_i w v
   cases w <;> first|show o.elim|skip
   .obtain ⟨p,ys,rfl,hs,r⟩:=a.tupB I;show ⟨p,ys,rfl,.inr (SqT.of hs),by rw[r.length];show o _ G H (Ext.refl I.gh) (Md.sca rfl (λ_=>.int) d)⟩
   .obtain ⟨p,ys,rfl,hs,r⟩:=a.lstB I;show ⟨p,ys,rfl,.inl (SqL.of hs),by rw[r.length];show o _ G H (Ext.refl I.gh) (Md.sca rfl (λ_=>.int) d)⟩
   .obtain ⟨p,ys,rfl,hs,r⟩:=a.scrB I;show ⟨p,ys,rfl,.inl hs,by rw[r.length];show o _ G H (Ext.refl I.gh) (Md.sca rfl (λ_=>.int) d)⟩
def Bs (c:Bool):List W->R W
 | [w]=>seqW w>>=chks c
 |_=>.stuck
noncomputable def ad (c:Bool)(ws:Zz):R W:=if c||m5 ws then .ok (.tup ws) else .stuck
def E1 (c:Bool):List W->R W
 | [w]=>seqW w>>=ad c
 |_=>.stuck
def C5:Cal K (cb c) .F (λxs H Q=>∃p ys,xs = [.ref p]/\((SqL K H p ys/\∀l,H l=none->Q (.ref l) (upd H l (.tup ys)))\/SqT K H p ys/\Q (.ref p) H)) (E1 c):=by
 intro EX H0 Hs G H d b Ha vs ws Q I s m o;have key:∀{vs:_}{us:_},Reps K (if c then G else join H0 G) vs us->Out EX G H (mdW K .F H0 Hs) (ad c us) Q->Reps K G vs us/\Out EX G H (mdW K .F H0 Hs) (.ok (.tup us)) Q:=λ{vs us} r o=>by
  unfold ad at o;by_cases n:(c||m5 us)=true
  .grind[Reps.clean]
  .rw[qA8 n]at o;show o.elim
 cases m with
 |nil=>show o.elim
 | cons a t=>
  cases t with
  |cons _ _=>show o.elim
  | nil=>
   rename_i w v
   cases w <;> first|show o.elim|skip
   .rename_i us
    have hx:∃p ys,v=.ref p/\(if c then G else join H0 G) p=some (.tup ys)/\Reps K (if c then G else join H0 G) ys us:=by
     cases c with
     |true=>show (Md.repC a λ_=>W.noConfusion).inv
     |false=>show (Md.repB a λ_=>W.noConfusion).inv
    obtain ⟨p,ys,rfl,hp,r⟩:=hx;obtain ⟨O,o'⟩:=key r o;have hH:H p=some (.tup ys):=by
     cases c with
     |true=>show I.gh _ _ hp
     |false=>show I.join_H _ _ hp
    have hG:G p=some (.tup ys):=by
     grind[join,isL]
    show ⟨p,ys,rfl,.inr ⟨SqT.of hH,o' _ G H (Ext.refl I.gh) (.tup hG O)⟩⟩
   .obtain ⟨p,ys,rfl,hs,r⟩:=Md.lstOf I a rfl;obtain ⟨O,o'⟩:=key r o;show ⟨p,ys,rfl,.inl ⟨hs,λl hl=>Out.newTF I O hl o'⟩⟩
   .obtain ⟨p,ys,rfl,hs,r⟩:=Md.lstOf I a rfl;obtain ⟨O,o'⟩:=key r o;show ⟨p,ys,rfl,.inl ⟨hs,λl hl=>Out.newTF I O hl o'⟩⟩
noncomputable def f2 (g:Int->Int->Int):List W->R W
 | [.int i,.int j]=>.ok (.int (g i j))
 |_=>.stuck
def b_2:Cal K .B d (λxs H Q=>∃i j,xs = [.int i,.int j]/\Q (.int (g i j)) H) (f2 g):=by
 intro EX H0 Hs G H e c O vs ws Q I s m o;unfold f2 at o
 split at o
 .cases m with
  | cons a t=>
   cases t with
   | cons b t=>
    cases t;show ⟨_,_,by rw[a.intB,b.intB],o _ G H (Ext.refl I.gh) (Md.sca rfl (λ_=>.int) d)⟩
 .show o.elim
noncomputable def tyW:W->Option String
 | .non=>some "NoneType"
 | .bl _=>some "bool"
 | .int _=>some "int"
 | .str _=>some "str"
 | .tup _=>some "tuple"
 | .lst _=>some "list"
 |_=>none
def fIsi:List W->R W
 | [x,.ty T]=>toR ((tyW x).bind λA=>A2 A T)>>=λb=>.ok (.bl b)
 |_=>.stuck
def Fn (I:PIv K H0 G c b H) (m:Md K H0 Ha G H v w .B) (h:tyW w=some A):L2.tyB H v=some A:=by
 cases w <;> first|cases h|skip
 .rw[m.nonB];rfl
 .rw[m.blB];rfl
 .rw[m.intB];rfl
 .rw[m.strB];rfl
 .obtain ⟨a,vs,rfl,hs,r⟩:=m.tupB I
  change L2.tyO _=_;rw[hs];rfl
 .obtain ⟨a,vs,rfl,hs,r⟩:=m.lstB I
  change L2.tyO _=_;rw[hs];rfl
def tO:Cal K .B d rIsi fIsi:=by
 intro EX H0 Hs G H f e Ha vs ws Q I s m o;cases m with
 |nil=>show o.elim
 | @cons x _ _ _ a t=>
  cases t with
  |nil=>show o.elim
  | @cons y _ _ _ b t=>
   cases t with
   |cons _ _=>first|show o.elim | (cases y <;> show o.elim)
   | nil=>
    cases y <;> first|show o.elim|skip
    rename_i T
    replace o:Out EX G H (mdW K d H0 Hs) (_>>=_) Q:=o
    cases q:tyW x with
    |none=>rw[q]at o;show o.elim
    | some A=>
     rw[q]at o;replace o:Out EX G H (mdW K d H0 Hs) (toR (A2 A T)>>=_) Q:=o
     cases O:A2 A T with
     |none=>rw[O]at o;show o.elim
     | some c=>
      rw[O]at o;show ⟨_,T,by rw[b.tyB],A,Fn I a q,c,O,o _ G H (Ext.refl I.gh) (Md.sca rfl (λ_=>.bl) d)⟩
noncomputable def fCat (c:Bool):W->W->R W
 | .lst us,.lst vs=>if us.length+vs.length<=1000 then chks c (us++vs) else .stuck
 |_,_=>.stuck
def Reps.rep (r:Reps K F vs ws):∀k,Reps K F (List.replicate k vs).flatten (List.replicate k ws).flatten
 |0=>.nil
 |k+1=>by show r.append (Reps.rep r k)
noncomputable def jy (c:Bool):W->W->R W
 | .lst us,.int k=>if us.length*k.toNat<=1000 /\ -1000<=k/\k<=1000 then chks c (List.replicate k.toNat us).flatten else .stuck
 |_,_=>.stuck
def vS:Op2 K (cb c) .F rRep (jy c):=by
 intro EX H0 Hs G H d b Ha Hb x y u v Q I s mx O o;cases u <;> first|show o.elim|skip
 all_goals (cases v <;> first|show o.elim|skip)
 rename_i us k
 replace o:Out EX G H _ (if us.length*k.toNat<=1000 /\ -1000<=k/\k<=1000 then _ else _) Q:=o
 by_cases hn:us.length*k.toNat<=1000 /\ -1000<=k/\k<=1000
 .rw [qA2 hn]at o
  have h1:∃a ws,x=.ref a/\H a=some (.lst ws)/\Reps K (if c then G else join H0 G) ws us:=by
   cases c with
   |true=>show Md.lstC I mx
   |false=>show Md.lstB I mx
  have h2:y=.int k:=by
   cases c with
   |true=>show Md.intB (Md.CB I O)
   |false=>show Md.intB O
  obtain ⟨a,xs,rfl,ha,ra⟩:=h1;subst h2;show ⟨a,k,xs,rfl,rfl,ha,ox,ox,by rw[ra.length];show X5 hn.1,Out.chks I s (ra.rep _) o⟩
 .rw[qA8 hn]at o;show o.elim
noncomputable def mC (w:W):Zj:=λ_=>.ok w
def b1 (f:W->R W)(O:Zj):Zj:=λa=>O a>>=λx=>f x
def b2 (f:W->W->R W)(O mb:Zj):Zj:=λa=>O a>>=λx=>mb a>>=λy=>f x y
def bA (f:List W->R W)(O:Zw):Zj:=λa=>O a>>=λws=>f ws
def bI (f:List W->R Zz)(O:Zw):Zw:=λa=>O a>>=f
def bS (O:Zj):Zw:=λa=>O a>>=seqW
noncomputable def aN:Zw:=λ_=>.ok []
def aC (O:Zj)(mr:Zw):Zw:=λa=>O a>>=λx=>mr a>>=λxs=>.ok (x::xs)
def Q9 (O:Zj):Zj:=λa=>O a>>=chk
def e9 (O:Zj):Zk:=λa=>O a>>=toB
def gA (a b:Zk):Zk:=λc=>iY (a c) (b c)
def R4 (a b:Zk):Zk:=λc=>rOr (a c) (b c)
def F3 (a:Zk):Zk:=λb=>sf (a b)
def xO (a b:Zj):Zj:=λc=>eD (a c) (b c)
def vOr (a b:Zj):Zj:=λc=>mE (a c) (b c)
def vNot (a:Zj):Zj:=λb=>se (a b)
def vIf (c:Zk)(a b:Zj):Zj:=λd=>c d>>=λt=>if t then a d else b d
def lD (f f':W->W->R W)(O mb mc:Zj):Zj:=λa=>O a>>=λx=>mb a>>=λy=>f x y>>=λz=>toB z>>=λc=>if c then mc a>>=λu=>f' y u else .ok (.bl false)
def v7 (O:Zw):Zj:=λa=>O a>>=λws=>lim ws.length (.tup ws)
def K0 (O:Zw):Zj:=λa=>O a>>=λws=>lim ws.length (.lst ws)
noncomputable def pN:Rho->R Vx:=λ_=>.ok none
def pS (m:Zj):Rho->R Vx:=λa=>m a>>=partW
def vSl (c:Bool)(m:Zj)(O mh:Rho->R Vx):Zj:=λa=>m a>>=λx=>O a>>=λl=>mh a>>=λu=>toR (lstOf x)>>=λws=>chks c (L3 ws l u)
def j5 (n:Nat)(O:Zw)(mg:Zx)(mc:Zk)(me:Zj):Zj:=λa=>O a>>=λws=>j6 n mg mc me ws a
noncomputable def yes:Zk:=λ_=>.ok true
noncomputable def sNx:Zv:=λa=>.ok (.nx a)
def KR (m:Zj):Zv:=λa=>m a>>=λ_=>.ok (.nx a)
def g6 (m:Zj):Zv:=λa=>m a>>=λw=>.ok (.rt w)
noncomputable def KO:Zv:=λ_=>.ok (.rt .non)
def sV (i:Nat)(m:Zj):Zv:=λa=>m a>>=λw=>.ok (.nx (a.set i (.val w)))
def sU (i:Nat)(m:Zj):Zv:=λa=>m a>>=λw=>.ok (.nx (a.set i (.par w)))
def sF (i:Nat)(m:Zj):Zv:=λa=>m a>>=λw=>.ok (.nx (a.set i (P3 w)))
def sG (mg:Zx)(m:Zj):Zv:=λa=>m a>>=λw=>toR (mg w a)>>=λO=>.ok (.nx O)
def y6 (O:Zw)(mg:Zx)(mb:Zv):Zv:=λa=>O a>>=λws=>N7 mg mb ws a
noncomputable def fL (i:Nat)(m:Zv):Zv:=λa=>m (frz i a)
noncomputable def gG:Zv:=λ_=>.stuck
noncomputable def sBk:Zv:=λa=>.ok (.bk a)
noncomputable def sCt:Zv:=λa=>.ok (.ct a)
def _root_.L2.PE.mono {X:Cx}{e:Expr}{t t':TE}(h:PE X e t)(hm:∀a H Q,t' a H Q->t a H Q):PE X e t':=λpins s a H Q I q=>h pins s a H Q I (hm a H Q q)
def _root_.L2.PT.mono {X:Cx}{e:Expr}{t t':TT}(h:PT X e t)(hm:∀a H Q,t' a H Q->t a H Q):PT X e t':=λpins s a H Q I q=>h pins s a H Q I (hm a H Q q)
def _root_.L2.PW.mono {X:Cx}{e:Expr}{t t':TT}(h:PW X e t)(hm:∀a H Q,t' a H Q->t a H Q):PW X e t':=λwh pins s a H Q I q=>h wh pins s a H Q I (hm a H Q q)
def _root_.L2.PA.mono {X:Cx}{es:Vo}{t t':TA}(h:PA X es t)(hm:∀a H Q,t' a H Q->t a H Q):PA X es t':=λpos pins s a H Q I q=>h pos pins s a H Q I (hm a H Q q)
def _root_.L2.PS.mono {X:Cx}{st:Stmt}{t t':TS}(h:PS X st t)(hm:∀D a H,t' D a H->t D a H):PS X st t':=λpins s a H D I q=>h pins s a H D I (hm D a H q)
def _root_.L2.PSs.mono {X:Cx}{O:List Stmt}{t t':TS}(h:PSs X O t)(hm:∀D a H,t' D a H->t D a H):PSs X O t':=λpins s a H D I q=>h pins s a H D I (hm D a H q)
def _root_.L2.PI.mono {X:Cx}{e:Expr}{tg:Expr}{t t':TI}(h:PI X tg e t)(hm:∀a H Q,t' a H Q->t a H Q):PI X tg e t':=λpins s a H Q I q=>h pins s a H Q I (hm a H Q q)
def _root_.L2.PO.mono {X:Cx}{O:Option Expr}{t t':TO}(h:PO X O t) (hm:∀a H Q,t' a H Q->t a H Q):PO X O t':=by
 intro pins s a H Q I q;show h pins s a H Q I (hm a H Q q)
def w4 (h:PE X e (tM K EX .F ma)):PE X e (tM K EX .V ma):=h.mono λ_ _ _ q=>Do q
def mI (h:PE X e (tM K EX .V ma)):PE X e (tM K EX .U ma):=h.mono λ_ _ _ q=>Dk q
def Hd (h:PE X e (tM K EX .V ma)):PE X e (tM K EX .C ma):=h.mono λ_ _ _ q=>Dl q
def g5 (h:PE X e (tM K EX .F ma)):PE X e (tM K EX .C ma):=h.mono λ_ _ _ q=>Dp q
def h9 (h:PE X e (tM K EX .U ma)):PE X e (tM K EX .B ma):=h.mono λ_ _ _ q=>Dm q
def j4 (h:PE X e (tM K EX .C ma)):PE X e (tM K EX .B ma):=h.mono λ_ _ _ q=>Dq q
def P6 (h:PE X e (tM K EX .U ma)):PE X e (tM K EX .V (Q9 ma)):=h.mono λ_ _ _ q=>ni (.inr rfl) q
def vn (h:PE X e (tM K EX .U ma)):PE X e (tM K EX .F (Q9 ma)):=h.mono λ_ _ _ q=>ni (.inl rfl) q
def qv {X}{K}{EX}{pos}d i{x}(hN:X.N[i]?=some x:=by rfl)(hv:Vis X.env.scope x:=by first|show Or.inl rfl|show Or.inr (Or.inl rfl)|show Or.inr (Or.inr rfl))(hd:(x == ("__debug__"))=false:=by decide)(O:(x == ("__classdict__"))=false:=by decide):PE X (.Name x pos) (tM K EX d (a9 d i)):=(P8 hN hv hd O).mono λ_ _ _ q=>lA q
def c8 {i j}:PE X (.Constant (.int i) j pos) (tM K EX d (mC (.int i))):=pe_int.mono λ_ _ _ q=>bE rfl (λ_=>.int) q
def x8 {t j}:PE X (.Constant (.bool t) j pos) (tM K EX d (mC (.bl t))):=pe_bl.mono λ_ _ _ q=>bE rfl (λ_=>.bl) q
def o9 {j}:PE X (.Constant .none j pos) (tM K EX d (mC .non)):=pe_non.mono λ_ _ _ q=>bE rfl (λ_=>.non) q
def C4 {x j}:PE X (.Constant (.str x) j pos) (tM K EX d (mC (.str x))):=pe_str.mono λ_ _ _ q=>bE rfl (λ_=>.str) q
def yP {X}{K}{EX}{d}{pos}{x}{n}(hg:Gl X x) (hm:X.mg x=none) (O:bootBuiltins x=some (.type n)) (hn:x ≠ "__name__" := by decide) (hd:(x == ("__debug__"))=false:=by decide):PE X (.Name x pos) (tM K EX d (mC (.ty n))):=
 (CT (v:=.ty n) hg hm O rfl hn hd).mono λ_ _ _ q=>bE rfl (λ_=>.ty) q
def g7 (ho:OpR X (binaryOp op) r) (hr:Op2 K b d r f) (ha:PE X a (tM K EX b ma)) (O:PE X c (tM K EX b mb)):PE X (.BinOp a op c pos) (tM K EX d (b2 f ma mb)):=
 (Lj ho ha O).mono λ_ _ _ q=>oE hr q
def gM (ho:OpR X (compareOp op) r) (hr:Op2 K b d r f) (ha:PE X a (tM K EX b ma)) (O:PE X c (tM K EX b mb)) (hm:behindInMarks op c=false:=by first|show vT _|rfl):PE X (.Compare a [op] [c] pos) (tM K EX d (b2 f ma mb)):=
 (CS ho ha O hm).mono λ_ _ _ q=>oE hr q
def f8 (ho:OpR X (compareOp op) r) (hr:Op2 K b .B r f) (ha:PE X a (tM K EX b ma)) (O:PE X c (tM K EX b mb)) (hm:behindInMarks op c=false:=by first|show vT _|rfl):PT X (.Compare a [op] [c] pos) (tT K EX (e9 (b2 f ma mb))):=
 (CJ ho ha O hm).mono λe H Q q=>by
  obtain ⟨H0,G,d,I,o⟩:=q
  have:=oC ⟨H0,G,d,I,o⟩
  show oE hr this
def mG (ho:UnR X (unaryOp op) r) (O:Op1 K b d r f) (ha:PE X a (tM K EX b ma)):PE X (.UnaryOp op a pos) (tM K EX d (b1 f ma)):=
 (Li ho ha).mono λ_ _ _ q=>c_un O q
def A8 (ha:PE X a (tM K EX .B ma)) (O:∀whole,isTrue a X.env whole=(do let v <- whole;standAt a.pos;holding [v] (truthy v)):=by intro _;rfl):PT X a (tT K EX (e9 ma)):=
 (Hi ha O).mono λ_ _ _ q=>c_tB q
def iZ (ha:PT X a (tT K EX ta)):PW X (.BoolOp .And [a] pos) (tT K EX ta):=CI ha
def Y7 (ha:PT X a (tT K EX ta)):PW X (.BoolOp .Or [a] pos) (tT K EX ta):=He ha
def mH {rest:Vo}(ha:PT X a (tT K EX ta))(O:PW X (.BoolOp .And (b::rest) pos) (tT K EX tb)):PW X (.BoolOp .And (a::b::rest) pos) (tT K EX (gA ta tb)):=(Hf ha O).mono λ_ _ _ q=>Mo q
def P5 {rest:Vo}(ha:PT X a (tT K EX ta))(O:PW X (.BoolOp .Or (b::rest) pos) (tT K EX tb)):PW X (.BoolOp .Or (a::b::rest) pos) (tT K EX (R4 ta tb)):=(Lc ha O).mono λ_ _ _ q=>c_or q
def E6 (ha:PT X a (tT K EX ta)):PT X (.UnaryOp .Not a pos) (tT K EX (F3 ta)):=(Hj ha).mono λ_ _ _ q=>LZ q
def KZ {op}(h:PE X a (tM K EX d ma)):PE X (.BoolOp op [a] pos) (tM K EX d ma):=Hw h
def Lb {rest:Vo}(ha:PE X a (tM K EX .B ma))(O:PE X (.BoolOp .And (b::rest) pos) (tM K EX d mb)):PE X (.BoolOp .And (a::b::rest) pos) (tM K EX d (xO ma mb)):=(HA ha O).mono λ_ _ _ q=>Kl q
def jd (O:PT X t (tT K EX ta))(ha:PE X a (tM K EX d ma))(hb:PE X c (tM K EX d mb)):PE X (.IfExp t a c pos) (tM K EX d (vIf ta ma mb)):=(zb O ha hb).mono λ_ _ _ q=>c_if q
def yQ (ho:OpR X (compareOp op) r) (hr:Op2 K b .B r f) (a0:OpR X (compareOp op') r') (O:Op2 K b .B r' f') (ha:PE X x (tM K EX b ma)) (hb:PE X y (tM K EX b mb)) (hc:PE X z (tM K EX b mc)) (hm:lastMarks [op,op'] [y,z]=false:=by with_unfolding_all rfl):PT X (.Compare x [op,op'] [y,z] pos) (tT K EX (e9 (lD f f' ma mb mc))):=
 (yV ho a0 ha hb hc hm).mono λc H Q q=>by
  obtain ⟨H0,G,a,I,o⟩:=q
  have:=oC ⟨H0,G,a,I,o⟩
  show EG hr O this
theorem b7:PA X [] (tA K EX d aN):=pa_nil.mono λ_ _ _ q=>Ma q
def a8 (ha:PE X e (tM K EX d ma))(O:PA X es (tA K EX d mr))(hs:starEach (e::es) X.env=(false,eval e X.env)::starEach es X.env:=by rfl):PA X (e::es) (tA K EX d (aC ma mr)):=(eJ ha O hs).mono λ_ _ _ q=>Ki q
def t4 {x1}(h:PA X es (tA K EX .V mr)):PE X (.Tuple es x1 pos) (tM K EX .F (v7 mr)):=(vx h).mono λ_ _ _ q=>LS q
def vk {x1}(h:PA X es (tA K EX .U mr)):PE X (.Tuple es x1 pos) (tM K EX .U (v7 mr)):=(vx h).mono λ_ _ _ q=>JV q
def L7 (h:PA X es (tA K EX .V mr)):PE X (.List es pos) (tM K EX .F (K0 mr)):=(Hy h).mono λ_ _ _ q=>Mb q
def e7 {X}{K}{EX}{a c}{pos}{O mb:Zj}(ha:PE X a (tM K EX .B O)) (hb:PE X c (tM K EX .B mb)) (hs:jK c:=by show λ_ _=>rfl) (hK:X.K=K:=by rfl):PE X (.Subscript a c pos) (tM K EX .U (b2 fIx O mb)):=by
 subst hK;show (Bj wC ha hb hs).mono λ_ _ _ q=>oE HI q
def ao {X}{K}{EX}{a c}{pos}{O mb:Zj}(ha:PE X a (tM K EX .C O)) (hb:PE X c (tM K EX .C mb)) (hs:jK c:=by show λ_ _=>rfl) (hK:X.K=K:=by rfl):PE X (.Subscript a c pos) (tM K EX .V (b2 fIx O mb)):=by
 subst hK;show (Bj wC ha hb hs).mono λ_ _ _ q=>oE HH q
def sk:PO X none (V4 K EX pN):=po_none.mono λ_ _ _ q=>AH q
def sj (h:PE X e (tM K EX .B ma)):PO X (some e) (V4 K EX (pS ma)):=(CL h).mono λ_ _ _ q=>Kb q
def yR k (he:PE X e (tM K EX (cb k) ma)) (O:PO X lo (V4 K EX ml)) (hu:PO X hi (V4 K EX mh)) (hK:X.K=K:=by rfl):PE X (.Subscript e (.Slice lo hi none p2) pos) (tM K EX .F (vSl k ma ml mh)):=by
 subst hK;show (mN Cd he O hu).mono λ_ _ _ q=>c_sl q
def m8 {X}{K}{EX}{d b}{e}{es:Vo}{pos}{mr:Zw}{x}{id}{r:List V->Hp->VK->Prop}{f:List W->R W}{p}(hc:G7 X (.builtin id) r) (hr:Cal K b d r f) (hg:Gl X x) (hm:X.mg x=none) (hv:bootBuiltins x=some (.builtin id)) (ha:PA X (e::es) (tA K EX b mr)) (hn:x ≠ "__name__" := by decide) (a0:(x == ("__debug__" : Str))=false:=by decide) (he:starEach (e::es) X.env=(false,eval e X.env)::starEach es X.env:=by rfl) (O:(backTo pos (starEach es X.env)).any (·.1)=false:=by rfl):
  PE X (.Call (.Name x p) (e::es) [] pos) (tM K EX d (bA f mr)):=(zc hc hg hm hv ha hn a0 he O).mono λ_ _ _ q=>tK hr q
def E8 {X}{K}{EX}{d b}{e}{es:Vo}{pos}{mr:Zw}{x}{T}{r:List V->Hp->VK->Prop}{f:List W->R W}{p}(hc:G7 X (.type T) r) (hr:Cal K b d r f) (hg:Gl X x) (hm:X.mg x=none) (hv:bootBuiltins x=some (.type T)) (ha:PA X (e::es) (tA K EX b mr)) (hn:x ≠ "__name__" := by decide) (a0:(x == ("__debug__" : Str))=false:=by decide) (he:starEach (e::es) X.env=(false,eval e X.env)::starEach es X.env:=by rfl) (O:(backTo pos (starEach es X.env)).any (·.1)=false:=by rfl):
  PE X (.Call (.Name x p) (e::es) [] pos) (tM K EX d (bA f mr)):=(vA hc hg hm hv ha hn a0 he O).mono λ_ _ _ q=>tK hr q
def n4 (O:X.K=K:=by rfl):G7 X (.builtin "len") (λxs H Q=>∃p ys,xs = [.ref p]/\(SqL K H p ys\/SqT K H p ys)/\Q (.int ys.length) H):=by subst O;show oB
def C6 (O:X.K=K:=by rfl):G7 X (.type "tuple") (λxs H Q=>∃p ys,xs = [.ref p]/\((SqL K H p ys/\∀l,H l=none->Q (.ref l) (upd H l (.tup ys)))\/SqT K H p ys/\Q (.ref p) H)):=by subst O;show kZ
def GZ {X}{K}{d}{e}{es:Vo}{pos}{mr:Zw}{k}{f}{fd}{ps}{x}{p}{n N}{m}(F:FnOk X.prog X.w X.K X.mg X.base CX0 k f fd ps (spM K n d (i3 n N m))) (hd:d=.F\/d=.V) (hr:Room k X.A) (hg:Gl X x) (hm:X.mg x=some (.ref f)) (hk:PySem.W.keepIn X.K (.ref f)=true) (hb:Binds X.K fd ps []) (ha:PA X (e::es) (tA K (λ_ _=>False) .B mr)) (a0:(x == ("__debug__" : Str))=false:=by decide) (he:starEach (e::es) X.env=(false,eval e X.env)::starEach es X.env:=by rfl) (O:(backTo pos (starEach es X.env)).any (·.1)=false:=by rfl):
  PE X (.Call (.Name x p) (e::es) [] pos) (tM K (λ_ _=>False) d (bA (i3 n N m) mr)):=
 (je F hr hg hm hk hb .nil lh ha a0 he O).mono λ_ _ _ q=>Kj hd (λws h=>yy ws h) (λ_ _ z=>z) q
def Bg (h:PE X e (tM K EX (cZ lp .U) ma))(O:X.K=K:=by rfl):PI X tg e (tIt K EX lp .U (bS ma)):=by subst O;show (Lh h).mono λ_ _ _ q=>Mf (.inr rfl) q
def z8 (hg:Gl X "range") (hm:X.mg "range" = none) (ha:PA X [a] (tA K EX .B mr)) (hs:starEach [a] X.env = [(false,eval a X.env)]:=by rfl):PI X tg (.Call (.Name "range" p) [a] [] pos) (tIt K EX lp .U (bI E4 mr)):=
 (vw hg hm ha hs).mono λ_ _ _ q=>JZ (.inr rfl) q
def Be {X}{K}{EX}{a}{es:Vo}{pos}{mr:Zw}{lp}{elts:Vo}{p tp}{k}(hg:Gl X "zip") (hm:X.mg "zip" = none) (ha:PA X (a::es) (tA K EX (cZ lp .U) mr)) (hK:X.K=K:=by rfl) (hs:starEach (a::es) X.env=(false,eval a X.env)::starEach es X.env:=by rfl) (O:(backTo pos (starEach es X.env)).any (·.1)=false:=by rfl):
  PI X (.Tuple elts k tp) (.Call (.Name "zip" p) (a::es) [] pos) (tIt K EX lp .U (bI F2 mr)):=by subst hK;show (Ht hg hm ha hs O).mono λ_ _ _ q=>LR (.inr rfl) q
def GY (S:CompScope X.env.scope cs X.N N') (hc:X.calm=true) (hi:PI X tg iter (tIt K EX false dd mi)) (hg:∀cl ex s H,PG (C1 X cs cl N' ex s H) tg g) (O:Gt K dd g mg) (hk:J8 X.N.length g) (ht:∀cl ex s H,PIf (C1 X cs cl N' ex s H) ifs (tT K EX ta)) (he:∀cl ex s H,PE (C1 X cs cl N' ex s H) elt (tM K EX .V ma)) (hs:∀x,foldedSetIterable iter X.env x=pure x:=by intro _;rfl):PE X (.ListComp elt [⟨tg,iter,ifs,0⟩] cs pos) (tM K EX .F (j5 N'.length mi mg ta ma)):=
 (qj S.s hc hi hg hk ht he hs).mono λ_ _ _ q=>iB O q
def GO {X}{K}{EX}{d}{pos}{ma:Zj}{ta:Zk}{i}{y}{py}{cs}{N'}{tg iter elt}{ifs}{dd}{g}{mg}{mi}{O}(S:CompScope X.env.scope cs X.N N') (hc:X.calm=true) (hi:PI X tg iter (tIt K EX false dd mi)) (hg:∀cl ex s H,PG (C1 X cs cl N' ex s H) tg g) (a3:Gt K dd g mg) (hk:J8 X.N.length g) (ht:∀cl ex s H,PIf (C1 X cs cl N' ex s H) ifs (tT K EX ta)) (he:∀cl ex s H,PE (C1 X cs cl N' ex s H) elt (tM K EX .V ma)) (hN:X.N.Nodup) (hy:X.N[i]?=some y) (hl:Loc X.env.scope y) (a0:swapsWith (.ListComp elt [⟨tg,iter,ifs,0⟩] cs O) (some (.Name y py)) pos.line X.env=pure true:=by rfl) (hf:X.fn y=true\/X.env.scope.names.lookup y=some .local:=by first|show .inl rfl|show .inr rfl|assumption) (hs:∀x,foldedSetIterable iter X.env x=pure x:=by intro _;rfl):PS X (.Assign [.Name y py] (.ListComp elt [⟨tg,iter,ifs,0⟩] cs O) pos) (tSt K EX d (sF i (j5 N'.length mi mg ta ma))):=
 (qe S.s hc hi hg hk ht he hN hy hl a0 hf hs).mono λD a H q=>by
  have:=oD (m:=j5 N'.length mi mg ta ma) q
  show iB a3 this
def l9:PIf X [] (tT K EX yes):=λpins s a H Q I q=>CN pins s a H Q I (by obtain ⟨H0,G,b,O,o⟩:=q;show o true G H (Ext.refl O.gh) rfl)
def bg (h:PT X c (tT K EX ta)):PIf X [c] (tT K EX ta):=CM h
def i8:PSs X [] (tSt K EX d sNx):=pss_nil.mono λ_ _ _ q=>Kc q
def b9 (O:PS X st (tSt K EX d m))(h2:PSs X sts (tSt K EX d n)):PSs X (st::sts) (tSt K EX d (d8 m n)):=(mJ O h2).mono λ_ _ _ q=>LV q
def c6 (O:PS X st (tSt K EX d m)):PSs X [st] (tSt K EX d m):=qd O
def gK (h:PS X st (tSt K EX d m)):PS X st (tSt K EX d (fL i m)):=h.mono λ_ _ _ q=>Mg q
def GX:PS X (.Continue pos) (tSt K EX d sCt):=ps_continue.mono λ_ _ _ q=>Kh q
def ja:PS X st (tSt K EX d gG):=ps_never.mono λ_ _ _ q=>EE q
def f7 (O:PE X e (tM K EX d ma)):PS X (.Return (some e) pos) (tSt K EX d (g6 ma)):=(vo O).mono λ_ _ _ q=>BB q
def K3 {X}{K}{EX}{d}{pos}i{x}{p}(hd:d=.F\/d=.V)(hN:X.N[i]?=some x:=by rfl)(hv:Vis X.env.scope x:=by first|show Or.inl rfl|show Or.inr (Or.inl rfl)|show Or.inr (Or.inr rfl))(O:(x == ("__debug__"))=false:=by decide)(a0:(x == ("__classdict__"))=false:=by decide):PS X (.Return (some (.Name x p)) pos) (tSt K EX d (y4 d i)):=(vo (P8 hN hv O a0)).mono λ_ _ _ q=>AG hd q
def u8 {X}{K}{EX}{d}{e}{pos}{O:Zj}{i}{x}{pos'}(hN:X.N.Nodup) (hi:X.N[i]?=some x) (hx:Loc X.env.scope x) (he:PE X e (tM K EX .V O)) (hs:swapsWith e (some (.Name x pos')) pos.line X.env=pure false:=by rfl) (hf:X.fn x=true\/X.env.scope.names.lookup x=some .local:=by first|show .inl rfl|show .inr rfl|assumption):
  PS X (.Assign [.Name x pos'] e pos) (tSt K EX d (sV i O)):=(gO hN hi hx he hs hf).mono λ_ _ _ q=>JW q
def dl {X}{K}{EX}{d}{e}{pos}{O:Zj}{i}{x}{pos'}(hN:X.N.Nodup) (hi:X.N[i]?=some x) (hx:Loc X.env.scope x) (he:PE X e (tM K EX .U O)) (hs:swapsWith e (some (.Name x pos')) pos.line X.env=pure false:=by rfl) (hf:X.fn x=true\/X.env.scope.names.lookup x=some .local:=by first|show .inl rfl|show .inr rfl|assumption):
  PS X (.Assign [.Name x pos'] e pos) (tSt K EX d (sU i O)):=(gO hN hi hx he hs hf).mono λ_ _ _ q=>JX q
def i5 {X}{K}{EX}{d}{e}{pos}{O:Zj}{i}{x}{pos'}(hN:X.N.Nodup) (hi:X.N[i]?=some x) (hx:Loc X.env.scope x) (he:PE X e (tM K EX .F O)) (hs:swapsWith e (some (.Name x pos')) pos.line X.env=pure false:=by rfl) (hf:X.fn x=true\/X.env.scope.names.lookup x=some .local:=by first|show .inl rfl|show .inr rfl|assumption):
  PS X (.Assign [.Name x pos'] e pos) (tSt K EX d (sF i O)):=(gO hN hi hx he hs hf).mono λ_ _ _ q=>oD q
def so {X}{K}{EX}{d b}{e}{pos:Pos}{ma:Zj}{tg}{g}{mg}(he:PE X e (tM K EX b ma)) (hg:PG X tg g) (O:Gt K b g mg) (hs:swapsWithSole [tg] e pos.line X.env=pure false:=by rfl) (hw:swappedStores [tg] e X.env=pure none:=by rfl) (h1:(assignEach [tg] X.env).map (·.2) = [assign tg X.env]:=by rfl):PS X (.Assign [tg] e pos) (tSt K EX d (sG mg ma)):=
 (vp he hg hs hw h1).mono λ_ _ _ q=>Mm O q
def aq {X}{K}{EX}{d}{e}{pos}{ma:Zj}{i}{x}{p apos O}(hN:X.N[i]?=some x) (hv:Vis X.env.scope x) (ha:PE X e (tM K EX .V ma)) (hd:(x == ("__debug__"))=false:=by decide) (a6:(x == ("__classdict__"))=false:=by decide) (a3:attributeBase (.Name x p) "append" X.env (eval (.Name x p) X.env)=eval (.Name x p) X.env:=by rfl) (a4:((backTo O (starEach [e] X.env)).all (λx=>!x.1)&&(backToKw O (keywordEach [] X.env)).all (λx=>x.1.isSome)
   && decide (([e]).length+([]:List Keyword).length+(if ([]:List Keyword).isEmpty then 0 else 1)<30))=true:=by rfl) (a0:(apos.endLine == O.line)=true:=by rfl) (hs:starEach [e] X.env=(false,eval e X.env)::starEach [] X.env:=by rfl) (a5:swapsWith (.Call (.Attribute (.Name x p) "append" apos) [e] [] O) none pos.line X.env=pure false:=by rfl):
  PS X (.Expr (.Call (.Attribute (.Name x p) "append" apos) [e] [] O) pos) (tSt K EX d (V7 i ma)):=(eG (jY (P8 hN hv hd a6) ha a3 a4 a0 hs) a5).mono λ_ _ _ q=>Mn q
def j3 (hc:PT X c (tT K EX ta))(ha:PSs X x (tSt K EX d m))(O:PSs X y (tSt K EX d n)):PS X (.If c x y pos) (tSt K EX d (mIf ta m n)):=(Bi hc ha O).mono λ_ _ _ q=>Mc q
def bf (hp:PassesOwn (model X.prog X.w) X.A X.env X.xe)(hc:PT X c (tT K EX ta))(O:PSs X body (tSt K EX d m)):PS X (.While c body [] pos) (tSt K EX d (K8 ta m)):=(yW hp hc O).mono λ_ _ _ q=>ED q
def v6 (hp:PassesOwn (model X.prog X.w) X.A X.env X.xe)(hc:X.calm=true)(hi:PI X tg iter (tIt K EX true dd mi))(hg:PG X tg g)(O:Gt K dd g mg)(hb:PSs X body (tSt K EX d m))(hs:∀x,foldedSetIterable iter X.env x=pure x:=by intro _;rfl):PS X (.For tg iter body [] pos) (tSt K EX d (y6 mi mg m)):=(Hl hp hc hi hg hb hs).mono λ_ _ _ q=>Mh O q
def Bh (O:X.N.Nodup) (hi:X.N[i]?=some x) (hx:Loc X.env.scope x) (he:PE X e (tM K EX .B ma)) (ho:PIp X op (ipI f)) (hf:X.fn x=true\/X.env.scope.names.lookup x=some .local:=by first|show .inl rfl|show .inr rfl|assumption):
  PS X (.AugAssign (.Name x pos') op e pos) (tSt K EX d (nH i f ma)):=(Hm O hi hx he ho hf).mono λ_ _ _ q=>Ml q
def si {X}{K}{EX}{d}{e}{pos}{ma mb:Zj}{i}{x}{k}{p O}(hN:X.N[i]?=some x) (hv:Vis X.env.scope x) (hk:PE X k (tM K EX .B mb)) (he:PE X e (tM K EX .V ma)) (hd:(x == ("__debug__"))=false:=by decide) (a0:(x == ("__classdict__"))=false:=by decide) (hg:PG X (.Subscript (.Name x p) k O) (gSub (R3 i) (tM K EX .B mb) rSetL)) (hs:swapsWithSole [.Subscript (.Name x p) k O] e pos.line X.env=pure false:=by rfl) (hw:swappedStores [.Subscript (.Name x p) k O] e X.env=pure none:=by rfl):PS X (.Assign [.Subscript (.Name x p) k O] e pos) (tSt K EX d (fV i mb ma)):=
 (vp he hg hs hw).mono λ_ _ _ q=>LU q
noncomputable abbrev gLt (i j:Int):W:=.bl (decide (i<j))
noncomputable abbrev gLe (i j:Int):W:=.bl (decide (i<=j))
noncomputable abbrev gGt (i j:Int):W:=.bl (decide (j<i))
noncomputable abbrev gGe (i j:Int):W:=.bl (decide (j<=i))
noncomputable abbrev B9 (i j:Int):W:=.int (i+j)
noncomputable abbrev gSub (i j:Int):W:=.int (i-j)
noncomputable abbrev j9 (i j:Int):W:=.int (i*j)
noncomputable abbrev w8 (i j:Int):W:=.int (i%j)
noncomputable abbrev J4 (i j:Int):W:=.int (i/j)
noncomputable abbrev nS (i j:Int):W:=.int (i^j.toNat)
noncomputable abbrev Z3 (i:Int):W:=.int (-i)
noncomputable abbrev Af (i j:Int):Int:=if j>i then j else i
noncomputable abbrev gMin (i j:Int):Int:=if j<i then j else i
noncomputable abbrev tf (i j:Int):Int:=i+j
noncomputable abbrev LF (i j:Int):Int:=i-j
abbrev w9 (_ j:Int):Prop:=0<j
instance (i j:Int):Decidable (CMul i j):=by unfold CMul;infer_instance
instance (i j:Int):Decidable (L5 i j):=by unfold L5;infer_instance
instance (i j:Int):Decidable (dZ i j):=by unfold dZ;infer_instance
instance (i j:Int):Decidable (BI i j):=by unfold BI;infer_instance
noncomputable def vOf:W->Option V
 | .non=>some .non
 | .bl b=>some (.bl b)
 | .int i=>some (.int i)
 | .str x=>some (.str x)
 |_=>none
noncomputable def Aq (u v:W):Option Bool:=match vOf u,vOf v with
 |some x,some y=>if mf x y then some (decide (x=y)) else none
 |_,_=>none
noncomputable def v5 (neg:Bool) (u v:W):R W:=match Aq u v with
 |some b=>.ok (.bl (if neg then !b else b))
 |none=>.stuck
def lf (h:Md K H0 Ha G H v w .B) (e:vOf w=some x):v=x:=by
 cases w <;> first|cases e|skip
 .show h.nonB
 .show h.blB
 .show h.intB
 .show h.strB
def B8:Op2 K .B d rEq (v5 false):=by
 intro EX H0 Hs G H b a Ha Hb x y u v Q I s mx my o;unfold v5 Aq at o;cases hu:vOf u with
 |none=>rw[hu]at o;show o.elim
 | some p=>
  cases O:vOf v with
  |none=>rw[hu,O]at o;show o.elim
  | some q=>
   rw[hu,O]at o;cases lf mx hu;cases lf my O;dsimp at o;by_cases c:mf x y=true
   .rw [qA2 c]at o
    show ⟨c,o _ G H (Ext.refl I.gh) (Md.sca rfl (λ_=>.bl) d)⟩
   .rw[qA8 c]at o;show o.elim
def mX:Op2 K .B d rNe (v5 true):=by
 intro EX H0 Hs G H b a Ha Hb x y u v Q I s mx my o;unfold v5 Aq at o;cases hu:vOf u with
 |none=>rw[hu]at o;show o.elim
 | some p=>
  cases O:vOf v with
  |none=>rw[hu,O]at o;show o.elim
  | some q=>
   rw[hu,O]at o;cases lf mx hu;cases lf my O;dsimp at o;by_cases c:mf x y=true
   .rw [qA2 c]at o
    show ⟨c,o _ G H (Ext.refl I.gh) (Md.sca rfl (λ_=>.bl) d)⟩
   .rw[qA8 c]at o;show o.elim
mutual
def pd:W->PyData
 | .non=>.none
 | .bl b=>.bool b
 | .int i=>.int i
 | .str x=>.str x
 | .ty _=>.none
 | .exc _ _=>.none
 | .cls _=>.none
 | .tup ws=>.tuple (pds ws)
 | .lst ws=>.list (pds ws)
 | .scr ws=>.list (pds ws)
def pds:List W->List PyData
 | []=>[]
 |w::ws=>pd w::pds ws
end
mutual
def shp:Nat->W->Bool
 |_,.non=>true
 |_,.bl _=>true
 |_,.int _=>true
 |_,.str x=>PyData.strOk x
 |n+1,.tup ws=>aK n ws
 |n+1,.lst ws=>aK n ws
 |n+1,.scr ws=>aK n ws
 |_,_=>false
def aK:Nat->List W->Bool
 |_,[]=>true
 |n,w::ws=>shp n w&&aK n ws
end
def dc:∀ w n,shp n w=true->(pd w).canLay0=true/\(pd w).depth<=n:=by
 intro w;have tl:∀(ws:_) (c:_->PyData),(∀l,(c l).canLay0=PyData.canLayAll0 l)->(∀l,(c l).depth=_+1)->(∀n,_=true->_=true/\PyData.depthAll _<=n)->∀n,(match n with|0=>false|n+1=>aK n ws)=true->(c (pds ws)).canLay0=true/\(c (pds ws)).depth<=n:=λws c h1 h2 O n h=>by
  cases n with
  |zero=>cases h
  |succ n=>have:=O n h;show ⟨by show this.1,by rw[h2];show qL0 this.2⟩
 have fl:∀{n:Nat}{w:W}{P:Prop},shp n w=false->shp n w=true->P:=λh1 h2=>ox
 induction w using W.rec (motive_2:=λws=>∀n,aK n ws=true->PyData.canLayAll0 (pds ws)=true/\PyData.depthAll (pds ws)<=n) with
 |non=>show λn _=>⟨rfl,qC6 _⟩
 |bl b=>show λn _=>⟨rfl,qC6 _⟩
 |int i=>show λn _=>⟨rfl,qC6 _⟩
 |str x=>show λn h=>⟨by cases n <;> show h,qC6 _⟩
 |ty a=>show λn h=>fl (by cases n <;> rfl) h
 |exc a b=>show λn h=>fl (by cases n <;> rfl) h
 |cls a=>show λn h=>fl (by cases n <;> rfl) h
 |tup ws O=>show λn h=>tl ws .tuple (λ_=>rfl) (λ_=>rfl) O n (by cases n <;> show h)
 |lst ws O=>show λn h=>tl ws .list (λ_=>rfl) (λ_=>rfl) O n (by cases n <;> show h)
 |scr ws O=>show λn h=>tl ws .list (λ_=>rfl) (λ_=>rfl) O n (by cases n <;> show h)
 |nil=>show ⟨rfl,qC6 _⟩
 | cons w ws h1 h2=>
  rename_i n h
  have h':=(qH4 ..).mp h;have a:=h1 n h'.1;have b:=h2 n h'.2;show ⟨by change (_&&_)=true;rw[a.1,b.1];rfl,Nat.max_le.mpr ⟨a.2,b.2⟩⟩
def iP (ws:Zz) n (h:aK n ws=true):PyData.canLayAll0 (pds ws)=true/\PyData.depthAll (pds ws)<=n:=by
 have:=dc (.tup ws) (n+1) h
 show ⟨this.1,qJ5 this.2⟩
def Rep.reads {a:St}(I:Inv X pins a H s) n (r:Rep X.K H x w):shp n w=true->RelV x u->∃O,Reads s.heap u (pd w) O:=by
 have fl:∀{n:Nat}{w:W}{P:Prop},shp n w=false->shp n w=true->P:=λh1 h2=>ox
 induction r using Rep.rec (motive_2:=λxs ws _=>∀(us:_) (n:Nat),aK n ws=true->Vals xs us->∃O,ReadsAll s.heap us (pds ws) O) generalizing u n with
 |non=>intro _ r;cases r;show ⟨_,.none⟩
 |bl=>intro _ r;cases r;show ⟨_,.bool _⟩
 |int=>intro _ r;obtain ⟨t,rfl⟩:=r;show ⟨_,.int ..⟩
 |str=>intro _ r;obtain ⟨t,rfl⟩:=r;show ⟨_,.str ..⟩
 |ty=>show λh _=>fl (by cases n <;> rfl) h
 |exc=>show λh _=>fl (by cases n <;> rfl) h
 |cls=>show λh _=>fl (by cases n <;> rfl) h
 |dct=>show λh _=>fl (by cases n <;> rfl) h
 | tup ha _ ih=>
  intro h r;cases r;cases n with
  |zero=>cases h
  | succ n=>
   obtain ⟨its,rv,⟨o,e,c,k,dd⟩,_⟩:=I.tuple (SqT.of ha);obtain ⟨O,q⟩:=ih _ n h rv;show ⟨_,.tuple e c dd ox⟩
 | lst ha _ ih=>
  intro h r;cases r;cases n with
  |zero=>cases h
  | succ n=>
   obtain ⟨its,rv,pl,_⟩:=I.list (SqL.of ha);obtain ⟨o,e,c,k,dd⟩:=pl.isList;obtain ⟨O,q⟩:=ih _ n h rv;show ⟨_,.list e c dd ox⟩
 | scr ha _ ih=>
  intro h r;cases r;cases n with
  |zero=>cases h
  | succ n=>
   obtain ⟨its,rv,pl,_⟩:=I.list ha;obtain ⟨o,e,c,k,dd⟩:=pl.isList;obtain ⟨O,q⟩:=ih _ n h rv;show ⟨_,.list e c dd ox⟩
 |nil=>rename_i us n _ r;cases r;show ⟨_,.nil⟩
 | cons _ _ h1 h2=>
  rename_i us n h r
  cases r with
  | cons r1 r2=>
   have h':=(qH4 ..).mp h;obtain ⟨O,q1⟩:=h1 n h'.1 r1;obtain ⟨bs,q2⟩:=h2 _ n h'.2 r2;show ⟨_,.cons q1 q2⟩
noncomputable def eqW (u v:W):Bool:=PyData.eqv (pd u) (pd v)
def yL (K:Frag)(neg:Bool):R2:=λx y H Q=>∃u v,Rep K H x u/\Rep K H y v/\shp 8 u=true/\shp 8 v=true/\Q (.bl (if neg then !eqW u v else eqW u v)) H
def ai (h:shp 8 w=true):SeqAt.shaped (pd w)=true:=by
 obtain ⟨a,b⟩:=dc w 8 h
 grind[SeqAt.shaped]
def Y8 (hu:X.A.units+64<cLine):OpR X (compareOp .Eq) (yL X.K false):=by
 intro pins s c H x y v u Q I rx ry h;obtain ⟨a,b,ra,rb,sa,O,q⟩:=h;obtain ⟨as,qa⟩:=Rep.reads I 8 ra sa rx;obtain ⟨bs,qb⟩:=Rep.reads I 8 rb O ry;show PyProof.Rows.eq_dataH qa qb (ai sa) (ai O) hu ⟨.bl _,H,I,rfl,q⟩
def gX (hu:X.A.units+64<cLine):OpR X (compareOp .NotEq) (yL X.K true):=by
 intro pins s c H x y v u Q I rx ry h;obtain ⟨a,b,ra,rb,sa,O,q⟩:=h;obtain ⟨as,qa⟩:=Rep.reads I 8 ra sa rx;obtain ⟨bs,qb⟩:=Rep.reads I 8 rb O ry;show PyProof.Rows.ne_dataH qa qb (ai sa) (ai O) hu ⟨.bl _,H,I,rfl,q⟩
noncomputable def fEq (neg:Bool)(u v:W):R W:=if shp 8 u&&shp 8 v then .ok (.bl (if neg then !eqW u v else eqW u v)) else .stuck
def K7:Op2 K .B d (yL K neg) (fEq neg):=by
 intro EX H0 Hs G H b a Ha Hb x y u v Q I s mx my o;unfold fEq at o;by_cases c:(shp 8 u&&shp 8 v)=true
 .rw [qA2 c]at o
  have O:shp 8 u=true/\shp 8 v=true:=by simpa using c
  show ⟨u,v,mx.whole I,my.whole I,O.1,O.2,o _ G H (Ext.refl I.gh) (Md.sca rfl (λ_=>.bl) d)⟩
 .rw[qA8 c]at o;show o.elim
noncomputable def aO:W->Bool->Bool
 | .bl a,b=>a == b
 |_,_=>false
noncomputable def fIsB (neg:Bool):W->W->R W
 |u,.bl b=>.ok (.bl (if neg then !aO u b else aO u b))
 |_,_=>.stuck
def F1 (O:Room k A):A.units+64<cLine:=O.units
def D7 (r:Vals [x] us):∃u,us = [u]/\RelV x u:=by
 cases r with
 |cons a t=>cases t;show ⟨_,rfl,a⟩
def V3 {s:Shared}{h':Heap}(hk:∀b u,b ∉ [s.heap.objs.size]->(s.heap.push o).get? b=some u->h'.get? b=some u):∀b u,s.heap.get? b=some u->h'.get? b=some u:=λb u e=>
 hk b u (by simp;show qB7 (qB0 e)) (qA1 _ e)
def uj {b:Type}{f:b->V}{g:b->Value->Prop}(hg:∀a u,RelV (f a) u->g a u){O:List b}(r:Vals (O.map f) its){i:Nat}(h:its.toArray[i]?=some v):∃a,O[i]?=some a/\g a v:=by
 have h':its[i]?=some v:=by simpa using h
 induction O generalizing its i with
 |nil=>cases r;simp at h'
 | cons a O ih=>
  cases r with
  | cons q t=>
   cases i with
   |zero=>simp at h';subst h';show ⟨a,rfl,hg _ _ q⟩
   |succ i=>simpa using ih t (by simpa using h') (by simpa using h')
def cU {a:St}(I:Inv X pins a H s) (hc:X.calm=true) (hp:H p=some (.lst xs)):∃its:List Value,Vals xs its/\s.heap.IsList p its.toArray/\xs.length=its.toArray.size/\p≠s.heap.objs.size /\
  Walks X.prog X.w X.A.in1 s.heap.objs.size [s.heap.objs.size,p] [s.heap.objs.size] its.toArray.size (λi v=>its.toArray[i]?=some v) (λi h=>h.IsListIter s.heap.objs.size p i/\h.IsList p its.toArray):=by
 obtain ⟨its,rv,pl,hz⟩:=I.list (SqL.of hp);obtain ⟨o,e,_⟩:=pl.isList;have O:=qB7 (qB0 e);show ⟨its,rv,pl.isList,by show rv.length,O,Walks.list (show X.A.in1.handled=none from I.ok.hd hc) _ p O _⟩
noncomputable def tN:List W->Option (List Bool)
 | []=>some []
 | .bl b::ws=>(tN ws).map (b::·)
 |_=>none
def EK bs:tN (bs.map W.bl)=some bs:=by
 induction bs <;> grind[tN]
def Jx (g:List Bool->Bool):List W->R W
 | [.lst ws]=>toR (tN ws)>>=λbs=>.ok (.bl (g bs))
 |_=>.stuck
def Km:bootBuiltins "sum" = some (.builtin "sum"):=ox
def xk (hc:X.calm=true):G7 X (.builtin "sum") (λxs H Q=>∃(p:Addr) (ns:VW),xs = [.ref p]/\H p=some (.lst (ns.map V.int))/\Q (.int ns.sum) H):=by
 intro pins s a H xs us Q I r h;obtain ⟨p,ns,rfl,hp,q⟩:=h;obtain ⟨u,rfl,rx⟩:=D7 r;cases rx;obtain ⟨its,rv,hl,hlen,a4,Wk⟩:=cU I hc hp;rw[qA4]at hlen;have pre:∀(ms:VW) (k:Nat),k<=ms.length->preSum (λi=>ms.getD i 0) k=(ms.take k).sum:=by
  intro ms k
  induction k with
  |zero=>simp [preSum]
  | succ k ih=>
   intro hk;rw[preSum,ih ox,qS4 ox,List.sum_append];have a3:k<ms.length:=ox;simp [a3]
 refine call_sum_walkAnyS (qO7 hl ⟨_,_,_,_,_,_,_,(λi=>ns.getD i 0),rfl,Wk.toS,⟨⟨_,qB5 _ rfl,rfl,rfl⟩,hl.push _⟩,λb hb=>?_,λi v hv=>?_,λs' t' O=>?_⟩)
 .obtain ⟨o,e,_⟩:=id hl;have a0:=qB0 e;simp at hb;rcases hb with rfl|rfl
  .simp [Heap.push]
  .show qB4 a0 (by simp [Heap.push])
 .obtain ⟨n,hn,t,e⟩:=uj (f:=V.int) (λb u r=>r) rv hv;refine ⟨t,?_⟩
  change v=Value.int (ns.getD i 0) t;rw[e,qA3,hn];rfl
 .rw [<- hlen,pre ns _ (qB3 _),qI2]
  obtain ⟨hh,g,dd,tk,os⟩:=s';obtain rfl:=O.gens;obtain rfl:=O.drawn;obtain rfl:=O.os;show ⟨.int _,H,I.kept (V3 O.heap),⟨t',rfl⟩,q⟩
noncomputable def x5:List W->Option VW
 | []=>some []
 | .int b::ws=>(x5 ws).map (b::·)
 |_=>none
def ints_map bs:x5 (bs.map W.int)=some bs:=by
 induction bs <;> grind[x5]
def Reps.ints (r:Reps K F vs ws):x5 ws=some bs->vs=bs.map V.int:=
 Reps.ind (P:=λvs ws=>∀bs,x5 ws=some bs->vs=bs.map V.int) (λbs h=>by cases h;rfl) (λ{v w vs ws} r _ ih bs h=>by
  cases w <;> first|cases h|skip
  rename_i b
  have e:=r.inv;subst e;have h':(x5 ws).map _=_:=h;cases q:x5 ws <;> grind) r bs
def tq (g:List Int->Int):List W->R W
 | [.lst ws]=>toR (x5 ws)>>=λbs=>.ok (.int (g bs))
 |_=>.stuck
def Ku:Cal K .B d (λxs H Q=>∃(p:Addr) (ns:VW),xs = [.ref p]/\H p=some (.lst (ns.map V.int))/\Q (.int (g ns)) H) (tq g):=by
 intro EX H0 Hs G H c b Ha vs ws Q I s m o;cases m with
 |nil=>show o.elim
 | @cons w v a0 O a t=>
  cases t with
  |cons _ _=>first|show o.elim | (cases w <;> show o.elim)
  | nil=>
   cases w <;> first|show o.elim|skip
   rename_i ws
   obtain ⟨p,ys,rfl,hs,r⟩:=a.lstB I;replace o:Out EX G H (mdW K d H0 Hs) (toR (x5 ws)>>=λbs=>.ok (.int (g bs))) Q:=o
   cases q:x5 ws with
   |none=>rw[q]at o;show o.elim
   | some bs=>
    rw[q]at o;rw[Reps.ints r q]at hs;show ⟨p,bs,rfl,hs,o _ G H (Ext.refl I.gh) (Md.sca rfl (λ_=>.int) d)⟩
noncomputable def Ab (ns:VW):Int:=ns.sum
noncomputable def fAbs:List W->R W
 | [.int i]=>.ok (.int (if i<0 then -i else i))
 |_=>.stuck
noncomputable def fInt:List W->R W
 | [.int i]=>.ok (.int i)
 | [.bl k]=>.ok (.int (if k then 1 else 0))
 |_=>.stuck
def BC:Cal K .B d (λxs H Q=>(∃i,xs = [.int i]/\Q (.int i) H)\/∃k:Bool,xs = [.bl k]/\Q (.int (if k then 1 else 0)) H) fInt:=by
 intro EX H0 Hs G H c b Ha vs ws Q I s m o;cases m with
 |nil=>show o.elim
 | @cons w v a0 O a t=>
  cases t with
  |cons _ _=>first|show o.elim | (cases w <;> show o.elim)
  | nil=>
   cases w <;> first|show o.elim|skip
   .show .inr ⟨_,by rw[a.blB],o _ G H (Ext.refl I.gh) (Md.sca rfl (λ_=>.int) d)⟩
   .show .inl ⟨_,by rw[a.intB],o _ G H (Ext.refl I.gh) (Md.sca rfl (λ_=>.int) d)⟩
noncomputable def fStr:List W->R W
 | [.int i]=>if i.natAbs.log2<1920 then .ok (.str (toString i)) else .stuck
 |_=>.stuck
def mExt (i:Nat) (c:Bool) (m:Zj):Zv:=λa=>match a[i]? with
 | some (.own ws)=>m a>>=λw=>(match w with
  | .lst us=>if ws.length+us.length<=1000 then (if c||m5 us then .ok (.nx (a.set i (.own (ws++us)))) else .stuck) else .stuck
  |_=>.stuck)
 |_=>.stuck
noncomputable def nF (i:Nat):Zv:=λa=>match a[i]? with
 |some (.own ws)=>.ok (.nx (a.set i (.own ws.reverse)))
 |_=>.stuck
def LY (h:tSt K EX d (nF i) D b H):gy (FA K "list" rReverse (R3 i)) D b H:=by
 obtain ⟨H0,G,c,I,o⟩:=h;unfold nF at o
 split at o
 .rename_i ws e
  obtain ⟨a,vs,es,ha,hg,h0,r⟩:=I.own_at e;show ⟨_,es,.inl ⟨rfl,vs,SqL.of ha⟩,a,vs,rfl,rfl,ha,o G b _ (Same.refl _) (I.own_upd e es r.reverse)⟩
 .show o.elim
def KY {X}{K}{EX}{d}{pos}{i}{x}{p apos O}(hN:X.N[i]?=some x) (hv:Vis X.env.scope x) (hK:X.K=K:=by rfl) (hd:(x == ("__debug__"))=false:=by decide) (a5:(x == ("__classdict__"))=false:=by decide) (a3:attributeBase (.Name x p) "reverse" X.env (eval (.Name x p) X.env)=eval (.Name x p) X.env:=by rfl) (a0:(apos.endLine == O.line)=true:=by rfl) (a4:swapsWith (.Call (.Attribute (.Name x p) "reverse" apos) [] [] O) none pos.line X.env=pure false:=by rfl):
  PS X (.Expr (.Call (.Attribute (.Name x p) "reverse" apos) [] [] O) pos) (tSt K EX d (nF i)):=by
 subst hK;show (eG (Hz qR5 PySem.F.slot_list_reverse PySem.F.type_list_reverse sK (P8 hN hv hd a5) a3 a0) a4).mono λ_ _ _ q=>LY q
def B6 (h:PE X e (tM K EX .B ma))(O:X.K=K:=by rfl):PI X tg e (tIt K EX false .U (bS ma)):=Bg h O
def E7 (h:PE X e (tM K EX .U ma))(O:X.K=K:=by rfl):PI X tg e (tIt K EX true .U (bS ma)):=Bg h O
def Y6 {X}{K}{EX}{a}{es:Vo}{pos}{mr:Zw}{elts:Vo}{p tp}{k}(hg:Gl X "zip") (hm:X.mg "zip" = none) (ha:PA X (a::es) (tA K EX .B mr)) (hK:X.K=K:=by rfl) (hs:starEach (a::es) X.env=(false,eval a X.env)::starEach es X.env:=by rfl) (O:(backTo pos (starEach es X.env)).any (·.1)=false:=by rfl):
  PI X (.Tuple elts k tp) (.Call (.Name "zip" p) (a::es) [] pos) (tIt K EX false .U (bI F2 mr)):=Be hg hm ha hK hs O
def vh {X}{K}{EX}{a}{es:Vo}{pos}{mr:Zw}{elts:Vo}{p tp}{k}(hg:Gl X "zip") (hm:X.mg "zip" = none) (ha:PA X (a::es) (tA K EX .U mr)) (hK:X.K=K:=by rfl) (hs:starEach (a::es) X.env=(false,eval a X.env)::starEach es X.env:=by rfl) (O:(backTo pos (starEach es X.env)).any (·.1)=false:=by rfl):
  PI X (.Tuple elts k tp) (.Call (.Name "zip" p) (a::es) [] pos) (tIt K EX true .U (bI F2 mr)):=Be hg hm ha hK hs O
noncomputable def LD:Sl->Bool
 | .own _=>true
 | .dic _=>true
 | .dik _=>true
 |_=>false
noncomputable def noOwn (a:Rho):Bool:=a.all λs=>!LD s
def sCU (i:Nat)(f:List W->R W)(O:Zw):Zv:=λa=>if noOwn a then (O a>>=λws=>f ws>>=λw=>.ok (.nx (a.set i (.par w)))) else .stuck
noncomputable def AS (K:Frag) (a:Addr) (n:Nat):It:=
 ⟨λi H=>i<n/\∃xs x,SqL K H a xs/\xs.length=n/\xs[n-1-i]?=some x,λi H x H'=>H'=H/\∀xs,SqL K H a xs->xs[n-1-i]?=some x,λi H=>i=n/\∃xs,SqL K H a xs/\xs.length=n⟩
def xS a it n:Turn P w K tg (AS K a n) [it] it (λi h=>i<=n/\h.IsRevIter it a (n-1-i)) where
 mem:=ZZ
 obj:=λi h st b hb=>by
  have e:b=it:=by simpa using hb
  subst e;obtain ⟨_,o,e,c,d⟩:=st;show ⟨o,e,λv z=>by rw[d]at z;cases z⟩
 keep:=λi h h' st k=>⟨st.1,st.2.at λo e=>k it ZZ o e⟩
 item:=by
  intro X hP hw hK hc i pins s f H E I hf st hg;subst hP hw hK;obtain ⟨hi,xs,x,hq,hn,hx⟩:=hg;obtain ⟨its,rv,p,hz⟩:=I.list hq;obtain ⟨u,hu,ru⟩:=rv.get hx;obtain ⟨f0,f1,f2,f3,f4,f5⟩:=hf it ZZ;have e1:n-1-i=((n-1-i:Nat):Int):=ox;have O:=st.2;rw[e1]at O;refine wpAny_pyNext_rev_item O p.isList (by simpa using hu) λh' a0 sb=>?_;have I1:=I.turned (t':=s.toks) (λb o hb e=>(sb.2 b hb).trans e) f0 f1 f3 f4 f5;have e2:((n-1-i:Nat))-1=n-1-((i+1):Int):=ox;rw[e2]at a0;obtain ⟨o,e,c,d⟩:=id a0;show ⟨u,rfl,lq e c d ZQ ⟨x,H,I1,ru,⟨rfl,λys hy=>by rw[I.list_inj hy hq];show hx⟩,⟨hi,a0⟩,λb hb=>(hf b hb).1⟩⟩
 done:=by
  intro X hP hw hK hc i pins s f H E I hf st hg;subst hP hw hK;obtain ⟨rfl,xs,hq,hn⟩:=hg;obtain ⟨f0,f1,f2,f3,f4,f5⟩:=hf it ZZ;have e1:(i:Int)-1-(i:Int) = -1:=ox;have O:=st.2;rw[e1]at O;show wpAny_pyNext_rev_end (I.ok.hd hc) O λh' eb=>⟨rfl,I.turned (t':=s.toks) (λb o hb e=>eb b o hb e) f0 f1 f3 f4 f5⟩
 self:=λ_ _ _ _ _ st h=>qT8 st.2 h
def IQ (K:Frag)(ta:TA):TI:=λb H R=>ta b H λvs H1=>∃a,vs = [.ref a]/\∃xs,SqL K H1 a xs/\R (AS K a xs.length) H1
def fy:bootBuiltins "reversed" = some (.type "reversed"):=ox
def Hu (hg:Gl X "reversed") (hm:X.mg "reversed" = none) (ha:PA X [a] ta) (hs:starEach [a] X.env = [(false,eval a X.env)]:=by rfl):PI X tg (.Call (.Name "reversed" p) [a] [] pos) (IQ X.K ta):=by
 intro pins s d H R I h;refine qN7 (F0 I hg hm fy ?_ ZQ ZQ);refine qF6 (thn (ha pos pins s d H _ I h) λus s1 a0=>?_) hs Zo;obtain ⟨vs,H1,I1,r1,q1⟩:=a0;obtain ⟨b,e,xs,hq,q⟩:=q1;subst e;obtain ⟨u,rfl,ru⟩:=D7 r1;cases ru;obtain ⟨its,rv,pl,hz⟩:=I1.list hq;have hl:=rv.length;refine call_reversed_list pl.isList ?_;have O:(s1.heap.push (revObj b (its.toArray.size-1))).IsRevIter s1.heap.objs.size b (xs.length-1-((0:Nat))):=by
  refine ⟨_,qB5 _ rfl,rfl,?_⟩
  have:xs.length-1-((0:Nat))=(its.toArray.size:Int)-1:=by simp;omega
  rw[this];rfl
 refine qT8 O ?_;refine ⟨s1.heap.objs.size,_,_,_,H1,rfl,I1.kept λb o e=>qA1 _ e,xS b ..,⟨qC6 _,O⟩,λc hc=>?_,q⟩;have e:c=s1.heap.objs.size:=by simpa using hc
 subst e;show I1.fpOk (qB3 _) (I1.hok.fresh (qB3 _))
noncomputable def iV:List W->R Zz
 | [.lst ws]=>.ok ws.reverse
 |_=>.stuck
def zR (he:e=.V\/e=.U) (s:SqL K Z a vs) (r:Reps K (fz e H0 G) vs ws):cK K e H0 Z G (AS K a vs.length) ws.reverse:=by
 have hl:=r.length;have O:∀H,_->SqL K H a vs:=λH z=>Same.seq z s;refine ⟨λi H hi z=>?_,λH z=>⟨by grind,vs,O H z,rfl⟩,λi H x H' w hw z ⟨e1,y⟩ G2 c b I sg=>?_⟩
 .rw [qD0]at hi
  show ⟨ox,vs,vs[vs.length-1-i]'(qJ6 (Nat.sub_le ..) (Nat.sub_lt (hl ▸ qJ6 (qC6 i) hi) ZQ)),O H z,rfl,ZZ⟩
 .subst e1;have hi:i<ws.length:=by have:=(qA7.mp hw).1;simpa using this
  have hx:=y vs (O _ z);rw[List.getElem?_reverse hi]at hw;obtain ⟨v,hv,rv⟩:=Reps.get r hw;rw[hl,hv]at hx;cases hx;show ⟨G2,Ext.refl I.gh,Md.of_fz he (rv.same (L9 sg))⟩
def Md.srcL (I:PIv K H0 G c b H) (m:Md K H0 Hs G H x (.lst ws) (cZ lp .U)):∃a vs,x=.ref a/\SqL K (if lp then join H0 G else H) a vs/\Reps K (fz .U H0 G) vs ws:=by
 have O:fz .U H0 G=join H0 G:=by grind[fz]
 cases lp with
 | true=>
  obtain ⟨a,vs,e,s,r⟩:=Rep.inv m;show ⟨a,vs,e,SqL.of s,r⟩
 | false=>
  rcases m with m|⟨a,vs,us,rfl,e2,h1,r⟩
  .obtain ⟨a,vs,e,s,r⟩:=Rep.inv m;show ⟨a,vs,e,SqL.of (I.join_H _ _ s),r⟩
  .rw[W.lst.inj e2];show ⟨a,vs,rfl,SqL.of h1,r.same I.G_join⟩
def LX (h:tIt K EX lp .U (λa=>ma a>>=iV) b H Rr):IQ K (tA K EX (cZ lp .U) ma) b H Rr:=by
 refine bH h (λH0 G a G1 H1 xs ws us I O m1 q o=>?_) (λws e z=>?_)
 .have I1:=I.ext O;unfold iV at q
  split at q
  .cases q;cases m1 with
   | cons a1 t=>
    cases t;obtain ⟨p,vs,rfl,hL,r⟩:=Md.srcL I1 a1;show ⟨p,rfl,vs,Same.seq (jr I1) hL,o _ G1 H1 O (zR (.inr rfl) hL r)⟩
  .cases q
 .unfold iV at z
  split at z <;> cases z
def KW {X}{K}{EX}{a tg}{pos}{O:Zw}{p}(hg:Gl X "reversed") (hm:X.mg "reversed" = none) (ha:PA X [a] (tA K EX .U O)) (hK:X.K=K:=by rfl) (hs:starEach [a] X.env = [(false,eval a X.env)]:=by rfl):PI X tg (.Call (.Name "reversed" p) [a] [] pos) (tIt K EX true .U (bI iV O)):=by
 subst hK;show (Hu hg hm ha hs).mono λ_ _ _ q=>LX q
noncomputable def dw (ns:VW):Int:=ns.getD (argBest (λi j=>decide (ns.getD i 0<ns.getD j 0)) (ns.length-1)) 0
noncomputable def F8 (ns:VW):Int:=ns.getD (argBest (λi j=>decide (ns.getD j 0<ns.getD i 0)) (ns.length-1)) 0
theorem cI bt:∀k,argBest bt k<=k
 |0=>qB3 _
 | k+1=>by
  unfold argBest
  split
  .show qB3 _
  .show Nat.le_succ_of_le (cI bt k)
def zB (h:0<ns.length):dw ns∈ns:=by
 grind[dw,cI]
def DJ: ∀k, k < ns.length -> ns.getD k 0 <= F8 ns := by
  have key : ∀m k, k <= m -> ns.getD k 0 <= ns.getD (argBest (λi j => decide (ns.getD j 0 < ns.getD i 0)) m) 0 := by
    intro m
    induction m <;> grind[argBest]
  intro k hk;show key _ k ox
def zE (h:0<ns.length):F8 ns∈ns:=by
 grind[F8,cI]
def int_at {ns:VW}(rv:Vals (ns.map V.int) its){i:Nat}(h:its.toArray[i]?=some v):∃t,v=.int (ns.getD i 0) t:=by
 obtain ⟨n,hn,t,e⟩:=uj (f:=V.int) (λb u r=>r) rv h;show ⟨t,by rw[e,qA3,hn];rfl⟩
def xi {X:Cx}{ns:VW}(rv:Vals (ns.map V.int) its):CmpOf X.prog X.w A .Lt (λi v=>its.toArray[i]?=some v) (λi j=>decide (ns.getD i 0<ns.getD j 0)):=λi j vi vj s' Q' E hi hj O=>by
 obtain ⟨t,rfl⟩:=int_at rv hi;obtain ⟨u,rfl⟩:=int_at rv hj;show PyProof.Rows.lt_int O
def cmp_gt {X:Cx}{ns:VW}(rv:Vals (ns.map V.int) its):CmpOf X.prog X.w A .Gt (λi v=>its.toArray[i]?=some v) (λi j=>decide (ns.getD j 0<ns.getD i 0)):=λi j vi vj s' Q' E hi hj O=>by
 obtain ⟨t,rfl⟩:=int_at rv hi;obtain ⟨u,rfl⟩:=int_at rv hj;show PyProof.Rows.gt_int O
def lt2 {s:Shared}(e:s.heap.get? p=some u):∀b ∈ [s.heap.objs.size,p],b<(s.heap.push o).objs.size:=λb hb=>by
 have O:=qB0 e;simp at hb;rcases hb with rfl|rfl
 .simp [Heap.push]
 .show qB4 O (by simp [Heap.push])
def xl (hc:X.calm=true):G7 X (.builtin "min") (λxs H Q=>∃(p:Addr) (ns:VW),xs = [.ref p]/\(H p=some (.lst (ns.map V.int))\/H p=some (.tup (ns.map V.int)))/\0<ns.length/\Q (.int (dw ns)) H):=by
 intro pins s a H xs us Q I r h;obtain ⟨p,ns,rfl,hp,hn,q⟩:=h;obtain ⟨u,rfl,rx⟩:=D7 r;cases rx;have hd:X.A.in1.handled=none:=I.ok.hd hc;rcases hp with hp|hp
 .obtain ⟨its,rv,hl,hlen,O,Wk⟩:=cU I hc hp;rw[qA4]at hlen;obtain ⟨o,e,_⟩:=id hl;refine call_min_walk (qO7 hl ⟨_,_,_,_,_,_,_,rfl,Wk,⟨⟨_,qB5 _ rfl,rfl,rfl⟩,hl.push _⟩,lt2 e,ox,xi rv,λv h' tk hv hk=>?_⟩);obtain ⟨t,rfl⟩:=int_at rv hv;rw[<- hlen];show ⟨.int _,H,I.kept (V3 hk),⟨t,rfl⟩,q⟩
 .obtain ⟨its,rv,pl,hz⟩:=I.tuple (SqT.of hp);have hlen:ns.length=its.toArray.size:=by rw[qC1,<- rv.length,qA4]
  have ht:=pl;obtain ⟨o,e,_⟩:=id ht;have O:=qB7 (qB0 e);refine call_min_walk (qO9 ht ⟨_,_,_,_,_,_,_,rfl,Walks.tuple hd _ p O _,⟨⟨_,qB5 _ rfl,rfl,rfl⟩,ht.push _⟩,lt2 e,ox,xi rv,λv h' tk hv hk=>?_⟩);obtain ⟨t,rfl⟩:=int_at rv hv;rw[<- hlen];show ⟨.int _,H,I.kept (V3 hk),⟨t,rfl⟩,q⟩
def kN (hc:X.calm=true):G7 X (.builtin "max") (λxs H Q=>∃(p:Addr) (ns:VW),xs = [.ref p]/\(H p=some (.lst (ns.map V.int))\/H p=some (.tup (ns.map V.int)))/\0<ns.length/\Q (.int (F8 ns)) H):=by
 intro pins s a H xs us Q I r h;obtain ⟨p,ns,rfl,hp,hn,q⟩:=h;obtain ⟨u,rfl,rx⟩:=D7 r;cases rx;have hd:X.A.in1.handled=none:=I.ok.hd hc;rcases hp with hp|hp
 .obtain ⟨its,rv,hl,hlen,O,Wk⟩:=cU I hc hp;rw[qA4]at hlen;obtain ⟨o,e,_⟩:=id hl;refine call_max_walk (qO7 hl ⟨_,_,_,_,_,_,_,rfl,Wk,⟨⟨_,qB5 _ rfl,rfl,rfl⟩,hl.push _⟩,lt2 e,ox,cmp_gt rv,λv h' tk hv hk=>?_⟩);obtain ⟨t,rfl⟩:=int_at rv hv;rw[<- hlen];show ⟨.int _,H,I.kept (V3 hk),⟨t,rfl⟩,q⟩
 .obtain ⟨its,rv,pl,hz⟩:=I.tuple (SqT.of hp);have hlen:ns.length=its.toArray.size:=by rw[qC1,<- rv.length,qA4]
  have ht:=pl;obtain ⟨o,e,_⟩:=id ht;have O:=qB7 (qB0 e);refine call_max_walk (qO9 ht ⟨_,_,_,_,_,_,_,rfl,Walks.tuple hd _ p O _,⟨⟨_,qB5 _ rfl,rfl,rfl⟩,ht.push _⟩,lt2 e,ox,cmp_gt rv,λv h' tk hv hk=>?_⟩);obtain ⟨t,rfl⟩:=int_at rv hv;rw[<- hlen];show ⟨.int _,H,I.kept (V3 hk),⟨t,rfl⟩,q⟩
noncomputable def FR:W->Option VW
 | .lst ws=>x5 ws
 | .tup ws=>x5 ws
 |_=>none
def U0 (g:List Int->Int):List W->R W
 | [w]=>toR (FR w)>>=λns=>if 0<ns.length then .ok (.int (g ns)) else .stuck
 |_=>.stuck
def oH:Cal K .B d (λxs H Q=>∃(p:Addr) (ns:VW),xs = [.ref p]/\(H p=some (.lst (ns.map V.int))\/H p=some (.tup (ns.map V.int)))/\0<ns.length/\Q (.int (g ns)) H) (U0 g):=by
 intro EX H0 Hs G H c b O vs ws Q I s m o;unfold U0 at o
 split at o
 .rename_i w
  cases m with
  | cons a t=>
   cases t;cases q:FR w with
   |none=>rw[q]at o;show o.elim
   | some ns=>
    rw[q]at o;replace o:Out EX G H _ (if 0<ns.length then _ else _) Q:=o
    by_cases hn:0<ns.length
    .rw [qA2 hn]at o
     cases w <;> first|cases q|skip
     .obtain ⟨p,ys,rfl,hs,r⟩:=a.tupB I;rw[Reps.ints r q]at hs;show ⟨p,ns,rfl,.inr hs,hn,o _ G H (Ext.refl I.gh) (Md.sca rfl (λ_=>.int) d)⟩
     .obtain ⟨p,ys,rfl,hs,r⟩:=a.lstB I;rw[Reps.ints r q]at hs;show ⟨p,ns,rfl,.inl hs,hn,o _ G H (Ext.refl I.gh) (Md.sca rfl (λ_=>.int) d)⟩
    .rw[qA8 hn]at o;show o.elim
 .show o.elim
end TP
namespace HT
open PySem PySem.Spec PyProof.Rows
def aw:typeLookup (.type "tuple") (dunderR "mul")=pure (some (.builtin "tuple.__rmul__")):=ZY
def noFill_tuple_mul:fillsNumberSlot (.type "tuple") "mul" = pure false:=
 PySem.fillsNumberSlot_seq (r:=_) F.slot_tuple_mul.lookup ox aw ox
def repeat_tuple:seqRepeat? (.type "tuple")=pure (some (.builtin "tuple.__mul__")):=by
 unfold seqRepeat?;rw[PySem.seqSlot_of (name := "__mul__") F.slot_tuple_mul.lookup ox,PySem.seqSlot_of (name := "__rmul__") aw ox];rfl
def rmul_declines a t l (items:VQ) n (dd:Option Addr) (sl:Array VJ) :
  Meets (Builtin.«int.__rmul__» ⟨[.int a t,.ref l],[]⟩) (λ_ R s=>s.heap.get? l=some { cls:=.type "tuple",dict:=dd,data:=.seq items n,slots:=sl }/\R (.ok (.ret Value.notImplemented)) s):=
 .of_wp λprog w A R s h=>by obtain ⟨O,h⟩:=h;wp_walk;show ⟨_,rfl,h⟩
def tuple_mul1 l (items:VQ) n (dd:Option Addr) (sl:Array VJ) u :
  Meets (Builtin.«tuple.__mul__» ⟨[.ref l,.int 1 u],[]⟩) (λ_ R s=>s.heap.get? l=some { cls:=.type "tuple",dict:=dd,data:=.seq items n,slots:=sl }/\R (.ok (.ret (.ref l))) s):=
 .of_wp λprog w A R s h=>by
  obtain ⟨O,h⟩:=h
  wp_walk using qQ3 O;show ⟨_,rfl,h⟩
def tuple_mul2 l (items:VQ) n (dd:Option Addr) (sl:Array VJ) (k:Int) u (hc:¬ (decide (k < -2^63)||decide (k≥2^63))=true)
  (hi:¬ (items.isEmpty||k == 1)=true) (h0:¬ (decide (k<=0)||items.isEmpty)=true) (hm:¬ (items.size*k>(2^63-1)/8)) (hz:¬ Builtin.Tuple.tupleTooMany (items.size*k)=true) (a0:((List.replicate k.toNat items).foldl (·++·) #[]).size<=sizeLine) :
  Meets (Builtin.«tuple.__mul__» ⟨[.ref l,.int k u],[]⟩) (λ_ R s=>s.heap.get? l=some { cls:=.type "tuple",dict:=dd,data:=.seq items n,slots:=sl }/\R (.ok (.ret (.ref s.heap.objs.size))) { s with heap:=s.heap.push { cls:=.type "tuple",data:=.seq ((List.replicate k.toNat items).foldl (·++·) #[]) } }):=
 .of_wp λprog w A R s h=>by
  obtain ⟨hp,g,d,tk,os⟩:=s;obtain ⟨O,h⟩:=h;have f1:=AutoSeq1.idx_int
  wp_walk using qQ3 O
  rw[qA8 hc]
  wp_walk using qQ3 O
  rw[qA8 hm]
  wp_walk using qQ3 O
  show ⟨_,rfl,h⟩
end HT
namespace TP
open PySem L2 PySem.Spec PyProof.Rows
def len_reps {a:Type}(xs:List a):∀k,(List.replicate k xs).flatten.length=k*xs.length
 |0=>by simp
 |k+1=>by simp_all
theorem io (its:Vy):∀ m (O:Vy),List.foldl (λx1 x2=>x1++x2) O.toArray (List.replicate m its.toArray)=(O++(List.replicate m its).flatten).toArray
 |0,O=>ZZ
 |m+1,O=>by rw[qK1,List.foldl_cons,List.append_toArray,io,qK1,qW1,qW2]
def Bb (K:Frag):R2:=λx y H Q=>∃a k xs,x=.ref a/\y=.int k/\SqT K H a xs/\xs ≠ []/\1<=k/\k<2^63/\xs.length*k.toNat<=sizeLine /\
 (k=1->Q (.ref a) H)/\(k≠1->∀l,H l=none->Q (.ref l) (upd H l (.tup (List.replicate k.toNat xs).flatten)))
def jg {X}{K}(hK:X.K=K:=by rfl):OpR X (binaryOp .Mult) (Bb K):=by
 subst hK;intro pins s a H x y v u Q I rx ry h;obtain ⟨l,k,xs,rfl,rfl,hH,a3,h1,h2,hz,q1,q2⟩:=h;cases rx;obtain ⟨t,rfl⟩:=ry;obtain ⟨its,r,p,_⟩:=I.tuple hH;obtain ⟨⟨cls,dd,data,sl⟩,ho,hc,n,hd⟩:=id p;subst hc hd;have a0:its ≠ []:=λz=>a3 (r.nil_iff.mp z);refine wpAny_binaryOp_repeat_ref (U := "int") ZQ ⟨_,ho,rfl⟩ (λs'=>qW9 s' k t) HT.noFill_tuple_mul F.fills_int_mul qT5 HT.repeat_tuple F.slot_int_index.lookup
  (qP8 qT5 (qW9 s k t) F.entry_int_rmul (F.args_int_rmul_2 ..) (HT.rmul_declines k t l _ n dd sl)
   ⟨ho,rfl,⟨_,ho,rfl⟩,?_⟩)
 by_cases e:k=1
 .subst e;show qP8 F.slot_tuple_mul ⟨_,ho,rfl⟩ F.entry_tuple_mul (F.args_tuple_mul_2 ..) (HT.tuple_mul1 l _ n dd sl t) ⟨ho,.ref l,H,I,rfl,q1 rfl⟩
 .have O:List.foldl (λx1 x2=>x1++x2) #[] (List.replicate k.toNat its.toArray)=(List.replicate k.toNat its).flatten.toArray:=by
   grind[io]
  have hlen:its.length*k.toNat<=sizeLine:=by rw[<- r.length];show hz
  have hsz:its.toArray.size*k<=sizeLine:=by
   grind
  have a4:(sizeLine)<=(2^63-1)/8:=ZQ;refine qP8 F.slot_tuple_mul ⟨_,ho,rfl⟩ F.entry_tuple_mul (F.args_tuple_mul_2 ..) (HT.tuple_mul2 l _ n dd sl k t ?_ ?_ ?_ ?_ ?_ ?_) ⟨ho,?_⟩
  .omega
  .simp [a0,e]
  .grind
  .omega
  .simp [Builtin.Tuple.tupleTooMany,qW3];omega
  .rw[O,qC1,len_reps,qY1];show hlen
  .rw [O]
   refine ⟨.ref s.heap.objs.size,_,I.laid (t':=s.toks) (o:=.tup (List.replicate k.toNat xs).flatten) (λb ob q=>qA1 _ q) (qB3 _) ?_,rfl,q2 e _ (I.hok.fresh (qB3 _))⟩;show ⟨by rw[len_reps,qY1];show hz,_,r.rep k.toNat,IsTup.new _ _⟩
noncomputable def fRepT:W->W->R W
 | .tup us,.int k=>if us ≠ []/\us.length*k.toNat<=1000/\1<=k/\k<=1000 then .ok (.tup (List.replicate k.toNat us).flatten) else .stuck
 |_,_=>.stuck
def jj {K}:Op2 K .C .F (Bb K) fRepT:=by
 intro EX H0 Hs G H c b Ha Hb x y u v Q I s mx my o;cases u <;> first|show o.elim|skip
 all_goals (cases v <;> first|show o.elim|skip)
 rename_i us k
 replace o:Out EX G H (mdW K .F H0 Hs) (if us ≠ []/\us.length*k.toNat<=1000/\1<=k/\k<=1000 then _ else _) Q:=o
 by_cases hn:us ≠ []/\us.length*k.toNat<=1000/\1<=k/\k<=1000
 .rw [qA2 hn]at o
  obtain ⟨a0,hz,h1,h2⟩:=hn;have O:=Md.intB (Md.CB I my);subst O;obtain ⟨a,vs,rfl,h,r⟩:=(Md.repC mx λ_=>W.noConfusion).inv;refine ⟨_,k,_,rfl,rfl,SqT.of (I.gh _ _ h),?_,h1,ox,by rw[r.length];show X5 hz,?_,?_⟩
  .have:=r.length
   grind
  .intro e;subst e;refine o _ G H (Ext.refl I.gh) (.tup h ?_);simpa using r
  .intro _ l hl;show Out.newTF I (r.rep _) hl o
 .rw[qA8 hn]at o;show o.elim
end TP
namespace TP
open PySem PySem.W PyProof.Rows
section
variable (r:VY)
noncomputable def runK {b}:KasT b->b
 | .ret a=>a
 | .ask i j k=>runK (k (decide (r i<r j)))
def U7 (f:a->KasT b) (t:KasT a):runK r (t.bind f)=runK r (f (runK r t)):=by
 induction t with
 |ret _=>rfl
 |ask i j k O=>show O _
def iC {k:Bool->KasT a}(h:r i<r j):runK r (.ask i j k)=runK r (k true):=congrArg (λb=>runK r (k b)) (qN4 h)
def eX {k:Bool->KasT a}(h:¬ r i<r j):runK r (.ask i j k)=runK r (k false):=congrArg (λb=>runK r (k b)) (qN3 h)
noncomputable def ky (p:Array Nat)(k:Nat):Int:=r (p.getD k 0)
theorem sR (h:p[k]?=q[l]?):ky r p k=ky r q l:=by
 simp_all[ky]
def nL (O:j<=p.size) k:ky r (kas_rev p i j) k=if i<=k/\k<j then ky r p (i+j-1-k) else ky r p k:=by
 have e:=getElem?_mirror_all (i:=i) O k;by_cases h:i<=k/\k<j
 .rw[qA2 h]at e ⊢;show sR r e
 .rw[qA8 h]at e ⊢;show sR r e
def HV (hs:k<p.size) (hd:d<=k) i:ky r (bubble p k d) i=if i=k-d then ky r p k else if k-d<i/\i<=k then ky r p (i-1) else ky r p i:=by
 grind[getElem?_bubble,sR]
def rev_eq (O:j<=p.size) (h:∀k,i<=k->k<j->ky r p k=c) k:ky r (kas_rev p i j) k=ky r p k:=by
 rw[nL r O];by_cases hk:i<=k/\k<j
 .rw[qA2 hk,h k hk.1 hk.2,h _ ox ox]
 .rw[qA8 hk]
def up (p:Array Nat)(n:Nat):Prop:=∀k,k+1<n->ky r p k<=ky r p (k+1)
def dn (p:Array Nat)(n:Nat):Prop:=∀k,k+1<n->ky r p (k+1)<=ky r p k
def BR (h:up r p (n+1)) (e:ky r p n<=ky r p (n+1)):up r p (n+2):=λk hk=>by
 rcases qM1 (qJ5 (qJ5 hk)) with q|rfl
 .show h k (Nat.succ_lt_succ q)
 omega
def bz (h:dn r p (n+1)) (e:ky r p (n+1)<=ky r p n):dn r p (n+2):=λk hk=>by
 rcases qM1 (qJ5 (qJ5 hk)) with q|rfl
 .show h k (Nat.succ_lt_succ q)
 omega
def xz p:∀ f m,up r p (m+1)->∃R,runK r (kas_asc p f (m+1))=R+1/\m<=R/\R<=m+f/\up r p (R+1)/\(R<m+f->ky r p (R+1)<ky r p R):=by
 intro f
 induction f with
 |zero=>show λm hu=>⟨m,rfl,qB3 _,qB3 _,hu,λh=>absurd h (qE9 _)⟩
 | succ f ih=>
  intro m hu;by_cases h:ky r p (m+1)<ky r p m
  .show ⟨m,iC r h,qB3 _,qJ3 ..,hu,λ_=>h⟩
  .obtain ⟨R,e,a,b,c,d⟩:=ih _ (BR r hu (qX2.mp h));have O:=qG3 m f;rw[O]at b d;show ⟨R,(eX r h).trans e,qI9 a,b,c,d⟩
def Ex:∀ f p m q,m+1+f<=p.size->q<=m->dn r p (m+1)->(∀k,m+1-(q+1)<=k->k<=m->ky r p k=ky r p m) ->
  ∃p' O q',runK r (kas_desc f p (m+1) q)=(p',O+1,q')/\p'.Perm p/\m<=O/\O<=m+f/\dn r p' (O+1)/\∀k,O+1-(q'+1)<=k->k<=O->ky r p' k=ky r p' O:=by
 intro f
 induction f with
 |zero=>show λp m q _ _ hd he=>⟨p,m,q,rfl,.refl _,qB3 _,qB3 _,hd,he⟩
 | succ f ih=>
  intro p m q hz hq hd he;have hf:=qG3 m f;have a0:m+1+1+f<=p.size:=by rw[qG3];show hz
  by_cases h:ky r p (m+1)<ky r p m
  .have e0:runK r (kas_desc (f+1) p _ q)=_:=iC r h;by_cases a3:q>0
   .have key:=rev_eq r (i:=m+1-_) (c:=_) (qD3 (qJ3 ..) hz) λk a b=>he k a (qJ0 b);obtain ⟨p',O,q',e,h1,h2,h3,h5⟩:=ih (kas_rev p (m+1-_) (m+1)) _ 0 (by rw[kas_rev_size];show a0) (qC6 _) (bz r (λk hk=>by rw[key,key];show hd k hk) (by rw[key,key];show qM2 h)) λk a b=>by rw[qL8 b a]
    rw[e0,qA2 a3];rw[hf]at h3;show ⟨p',O,q',e,h1.trans (mirror_perm ..),qI9 h2,h3,h5⟩
   .obtain ⟨p',O,q',e,h1,h2,h3,h5⟩:=ih p _ 0 a0 (qC6 _) (bz r hd (qM2 h)) λk a b=>by rw[qL8 b a]
    rw[e0,qA8 a3];rw[hf]at h3;show ⟨p',O,q',e,h1,qI9 h2,h3,h5⟩
  .by_cases h2:ky r p m<ky r p (m+1)
   .show ⟨p,m,q,(eX r h).trans (iC r h2),.refl _,qB3 _,qJ3 ..,hd,he⟩
   .have ee:=Int.le_antisymm (qX2.mp h2) (qX2.mp h);obtain ⟨p',O,q',e,h1,a4,h3,h5⟩:=ih p _ _ a0 (qL0 hq) (bz r hd (Int.le_of_eq ee)) λk a b=>by
     rcases qM1 b with b|rfl
     .rw[ee];show he k (by rw[Nat.add_sub_add_right]at a;show a) (qJ0 b)
     .rfl
    rw[hf]at h3;show ⟨p',O,q',(eX r h).trans ((eX r h2).trans e),h1,qI9 a4,h3,h5⟩
def AD (O:Nat)(p:Array Nat)(R:Nat×Array Nat):Prop:=R.2.Perm p/\R.1<=O/\up r R.2 R.1
def lL (hn:m+1<=nrem) (hz:nrem<=p.size) (hd:dn r p (m+1)):AD r nrem p (runK r (kas_tail3 (m+1) nrem p)):=by
 unfold kas_tail3;rw[U7];have hm:=qD3 hn hz;have hu:up r _ _:=λk hk=>by
  rw[nL r hm,nL r hm,qA2 ⟨qC6 _,qM4 hk⟩,qA2 ⟨qC6 _,hk⟩,qK7,Nat.add_sub_cancel];have e:m-k=m-(k+1)+1:=(qZ2 (Nat.sub_pos_of_lt (Nat.lt_of_succ_lt_succ hk))).symm;rw[e];show hd _ (by rw[<- e];show Nat.lt_succ_of_le (Nat.sub_le ..))
 obtain ⟨R,e,a,b,c,_⟩:=xz r _ _ m hu;rw[e];show ⟨mirror_perm ..,by change R+1<=nrem;omega,c⟩
def fv (hn:m+1<=nrem) (hz:nrem<=p.size) (hd:dn r p (m+1)):AD r nrem p (runK r (kas_descPart m nrem p)):=by
 unfold kas_descPart;rw[U7];obtain ⟨p',m',q',e,h1,h2,h3,h5,h6⟩:=Ex r _ p m 0 (by rw[qL5 hn];show hz) (qC6 _) hd λk a b=>by rw[qL8 b a]
 rw[e];have hm:m'+1<=nrem:=ox;have O:nrem<=p'.size:=by rw[h1.size_eq];show hz
 by_cases hq:q'>0
 .rw [qA2 hq]
  have key:=rev_eq r (i:=m'+1-_) (c:=_) (qD3 hm O) λk a b=>h6 k a (qJ0 b);obtain ⟨t1,t2⟩:=lL r (p:=kas_rev p' (m'+1-_) (m'+1)) hm (by rw[kas_rev_size];show O) λk hk=>by rw[key,key];show h5 k hk
  show ⟨(t1.trans (mirror_perm ..)).trans h1,t2⟩
 .rw [qA8 hq]
  obtain ⟨t1,t2⟩:=lL r hm O h5;show ⟨t1.trans h1,t2⟩
def aX (h:up r p n):∀j i,i<=j->j<n->ky r p i<=ky r p j:=by
 intro j
 induction j with
 |zero=>omega
 | succ j O=>
  intro i a b;rcases qM1 a with q|rfl
  .show qD9 (O i (qJ0 q) (qM4 b)) (h j b)
  omega
def xb (h2:2<=nrem) (hz:nrem<=p.size):AD r nrem p (runK r (kas_count nrem p)):=by
 unfold kas_count;rw[U7];obtain ⟨R,e,_,b,c,d⟩:=xz r p _ 0 λk hk=>absurd hk (qY3 (qL0 (qC6 k)));rw[e];by_cases e1:R+1=nrem
 .rw [qA2 (beq_iff_eq.mpr e1)]
  show ⟨.refl _,Nat.le_of_eq e1,c⟩
 .rw [qA8 λq=>e1 (beq_iff_eq.mp q)]
  have hR:R+1+1<=nrem:=ox;have a0:=d ox;by_cases h1:R+1>1
  .rw [qA2 h1]
   by_cases h:ky r p 0<ky r p R
   .have q:runK r (KasT.ask _ (p.getD (R+1-1) 0) λc=>if c=true then .ret _ else kas_descPart (R+1) nrem (kas_rev p 0 (R+1)))=(R+1,p):=iC r h;rw[q];show ⟨.refl _,qI9 hR,c⟩
   .have q:runK r (KasT.ask _ (p.getD (R+1-1) 0) λc=>if c=true then .ret (R+1,p) else kas_descPart _ nrem _)=runK r (kas_descPart (R+1) nrem (kas_rev p 0 (R+1))):=eX r h;rw[q];have O:=λk hk=>
     Int.le_antisymm (qD9 (aX r c R k (qJ0 hk) (qC8 _)) (qX2.mp h)) (aX r c k 0 (qC6 _) hk)
    have key:=rev_eq r (i:=0) (c:=_) (qD3 (qI9 hR) hz) λk _ hk=>O k hk;obtain ⟨t1,t2⟩:=fv r (p:=kas_rev p 0 (R+1)) hR (by rw[kas_rev_size];show hz) (bz r (λk hk=>by rw[key,key,O _ hk,O k (qM4 hk)];show qF3 _) (by rw[key,key];show qM2 a0));show ⟨t1.trans (mirror_perm ..),t2⟩
  .rw [qA8 h1]
   have a3:R=0:=ox;show fv r hR hz (bz r (λk hk=>absurd hk (by rw[a3];show qY3 (qL0 (qC6 k)))) (qM2 a0))
def yY (hu:up r p k):∀ f l h,h-l<=f->l<=h->h<=k->(∀i,i<l->ky r p i<=ky r p k)->(∀i,h<=i->i<k->ky r p k<ky r p i) ->
  ∃R,runK r (kas_place p k f l h)=R/\R<=k/\(∀i,i<R->ky r p i<=ky r p k)/\∀i,R<=i->i<k->ky r p k<ky r p i:=by
 intro f
 induction f with
 | zero=>
  intro l h hf hl hk a b;have e:h=l:=ox;subst e;show ⟨h,rfl,hk,a,b⟩
 | succ f ih=>
  intro l h hf hl hk a b;by_cases a0:l≥h
  .have e:=qL8 a0 hl;subst e;show ⟨h,by change runK r (if h≥h then _ else _)=h;rw[qA2 (qB3 _)];rfl,hk,a,b⟩
  .obtain ⟨md,O⟩:∃md,md=(l+h)/2:=⟨_,rfl⟩;have m1:l<=md:=by rw[O];show (Nat.le_div_iff_mul_le ZQ).mpr (by rw[Nat.mul_two];show Nat.add_le_add_left hl _)
   have m2:md<h:=by rw[O];show (Nat.div_lt_iff_lt_mul ZQ).mpr (by rw[Nat.mul_two];show Nat.add_lt_add_right (Nat.lt_of_not_le a0) _)
   have m3:=qJ0 (qB4 (Nat.sub_lt_sub_right m1 m2) hf);have m4:=qD3 (Nat.sub_le_sub_left (qL0 m1) h) (Nat.pred_le_pred hf);have e0:runK r (kas_place p k (f+1) l h)=runK r (.ask (p.getD k 0) (p.getD md 0) λc=>if c=true then kas_place p k f l md else kas_place p k f (md+1) h):=by
    rw[O]
    change runK r (if l≥h then _ else _)=_;rw[qA8 a0]
   by_cases c:ky r p k<ky r p md
   .obtain ⟨R,e,x⟩:=ih l md m3 m1 (qD3 (qM0 m2) hk) a λi x y=>Int.lt_of_lt_of_le c (aX r hu i md x y);show ⟨R,e0.trans ((iC r c).trans e),x⟩
   .obtain ⟨R,e,x⟩:=ih _ h m4 m2 hk (λi x=>qD9 (aX r hu md i (qJ0 x) (qB4 m2 hk)) (qX2.mp c)) b;show ⟨R,e0.trans ((eX r c).trans e),x⟩
def Ko:∀ f p k,k+f<=p.size->up r p k->(runK r (kas_bin f p k)).Perm p/\up r (runK r (kas_bin f p k)) (k+f):=by
 intro f
 induction f with
 |zero=>show λp k _ hu=>⟨.refl _,hu⟩
 | succ f ih=>
  intro p k hz hu;obtain ⟨l,e,p1,p2,p3⟩:=yY r hu k 0 k (qB3 _) (qC6 _) (qB3 _) (λi x=>absurd x (qD4 _)) λi x y=>absurd y (qY3 x);have e0:runK r (kas_bin (f+1) p k)=runK r (kas_bin f (bubble p k (k-l)) (k+1)):=by
   change runK r ((kas_place p k k 0 k).bind _)=_;rw[U7,e]
  have hf:=(qG3 k f).symm;rw[hf]at hz;have O:=λi=>HV r (k:=k) (d:=k-l) (qB4 (qC8 k) (qD3 (qJ3 ..) hz)) (Nat.sub_le ..) i;rw[Nat.sub_sub_self p1]at O;have ih:=ih (bubble p k (k-l)) _ (by rw[bubble_size];show hz) λi hi=>by
   rw[O,O];have hi:=Nat.lt_of_succ_lt_succ hi;rcases qW4 i l with c|c|c
   .rw [qA8 (qB7 c),qA8 λz=>Nat.lt_asymm z.1 c]
    by_cases c2:i+1=l
    .rw[qA2 c2];show p2 i c
    .have c3:=Nat.lt_of_le_of_ne c c2;rw[qA8 c2,qA8 λz=>Nat.lt_asymm z.1 c3];show hu i (qB4 c3 p1)
   .subst c;rw[qA2 rfl,qA8 (Nat.succ_ne_self _),qA2 ⟨qC8 _,hi⟩];show qM2 (p3 i (qB3 _) hi)
   .have c2:=qD2 c;rw[qA8 (qI6 c),qA2 ⟨c,qM0 hi⟩,qA8 (qI6 c2),qA2 ⟨c2,hi⟩];cases i with
    |zero=>show absurd c (qD4 _)
    |succ j=>show hu j hi
  rw[e0,hf];show ⟨ih.1.trans (bubble_perm ..),ih.2⟩
def eB (h2:2<=n):(runK r (kas_sort n)).Perm (List.toArray (List.range n))/\up r (runK r (kas_sort n)) n:=by
 unfold kas_sort;rw[U7];have c:=xb r (p:=List.toArray (List.range n)) h2 ZZ;generalize runK r _=R at c
 obtain ⟨c1,c2,O⟩:=c;by_cases h:R.1<n
 .rw [qA2 h]
  have hm:=Nat.max_le.mpr ⟨c2,qI9 h2⟩;have b:=Ko r _ R.2 _ (by rw[qL5 hm,c1.size_eq];simp) λk hk=>O k ox;rw[qL5 hm]at b;show ⟨b.1.trans c1,b.2⟩
 .rw [qA8 h]
  rw[qL8 c2 (qX3.mp h)]at O;show ⟨c1,O⟩
end
end TP
namespace TP
open PySem L2
def jN (hh:A.handled=none) (u:Sub) (O:u.l≠u.i) its:
  Draws prog w A u.i [u.i,u.l] its.size (λi v=>its[i]?=some v) (λi h=>u.At h i/\u.Src h its) where
 live:=λ_ _ st=>by obtain ⟨o,e,_⟩:=st.1.obj;show ⟨o,e⟩
 frame:=λ_ _ _ st hk=>⟨st.1.keep λo e=>hk u.i ZZ o e,st.2.keep λo e=>hk u.l ZZ o e⟩
 item:=λi s Q E hi st hQ=>Sub.item st.1 st.2 (x:=its[i]) (by simp [hi]) λh' a sb=>hQ _ h' _ (by simp [hi]) ⟨a,st.2.keep λo e=>sb.extBut _ _ O e⟩ sb
 done:=λs Q E st hE=>Sub.ends hh st.1 st.2 ZZ hE
def pj l (its:VQ) m (dct:Option Addr) (sl:Array VJ) :
  Meets (Builtin.«enumerate.__new__» ⟨[.type "enumerate",.ref l],[]⟩) (λ_ R s=>s.heap.get? l=some { cls:=.type "tuple",dict:=dct,data:=.seq its m,slots:=sl } /\
   R (.ok (.ret (.ref (s.heap.push { cls:=.type "tuple_iterator",data:=.fields #[.ref l,.int 0 0] }).objs.size)))
    { s with heap:=(s.heap.push { cls:=.type "tuple_iterator",data:=.fields #[.ref l,.int 0 0] }).push { cls:=.type "enumerate",data:=.fields #[.none,.bool false,.ref s.heap.objs.size,rawInt 0,.none,.none] } }):=
 .of_wp λprog w A R s O=>by
  obtain ⟨hp,g,d,tk,os⟩:=s;obtain ⟨hl,O⟩:=O;have a0:=sub_enumerate;have hT:Heap.IsTuple (Shared.heap ⟨hp,g,d,tk,os⟩) l its:=⟨_,hl,rfl,m,rfl⟩
  wp_walk using qG4 hl
  refine wpAny_stack_any λstk=>qN2 ?_
  split
  .rename_i cc _ _ _ _ _
   cases (cc == Value.type "enumerate") <;>
   .wp_walk using qG4 hl,qO9 hT
    show ⟨_,rfl,O⟩
  .wp_walk using qG4 hl,qO9 hT
   show ⟨_,rfl,O⟩
def tJ (hL:s.heap.IsTuple l its) (a0:∀h',IsEnum h' (s.heap.objs.size+1) s.heap.objs.size 0 .none->h'.IsTupleIter s.heap.objs.size l 0->(∀b o,s.heap.get? b=some o->h'.get? b=some o)->Q (.ref (s.heap.objs.size+1)) { s with heap:=h' }):
  wpAny (model prog w) A (call (.type "enumerate") [.ref l]) Q E s:=by
 obtain ⟨⟨c,dct,dt,sl⟩,hl,hc,m,hd⟩:=hL;have O := hc;have a3:=hd;subst O a3;refine callType_new F.called_enumerate ZQ (F.typeCall_enumerate_1 _) (F.newCall_enumerate_1 _) (λobj=>F.args_object_init_2 obj _) F.entry_enumerate_new (pj l its m dct sl) ⟨hl,?_⟩;generalize hP:s.heap.push { cls:=.type "tuple_iterator",data:=.fields #[.ref l,.int 0 0] }=P
 have hz:P.objs.size=s.heap.objs.size+1:=by rw[<- hP];show qG1 ..
 have hi:P.get? s.heap.objs.size=some { cls:=.type "tuple_iterator",data:=.fields #[.ref l,.int 0 0] }:=by rw[<- hP];show qB5 _ rfl
 have hk:∀b o,s.heap.get? b=some o->P.get? b=some o:=λb o e=>by rw[<- hP];show qA1 _ e
 change _/\_;have en:IsEnum (P.push { cls:=.type "enumerate",data:=.fields #[.none,.bool false,.ref s.heap.objs.size,rawInt 0,.none,.none] }) (s.heap.objs.size+1) s.heap.objs.size 0 .none:=by rw[<- hz];show qB5 _ rfl
 rw[hz];show ⟨⟨_,en,rfl⟩,a0 _ en ⟨_,qA1 _ hi,rfl,rfl⟩ λb o e=>qA1 _ (hk b o e)⟩
def xn (hL:SrcAt s.heap (t,l,its)) (O:∀h',IsEnum h' (s.heap.objs.size+1) s.heap.objs.size 0 .none->(L2.Sub.mk t s.heap.objs.size l).At h' 0->(∀b o,s.heap.get? b=some o->h'.get? b=some o)->Q (.ref (s.heap.objs.size+1)) { s with heap:=h' }):
  wpAny (model prog w) A (call (.type "enumerate") [.ref l]) Q E s:=by
 cases t with
 |true=>show tJ hL λh' a b c=>O h' a (by show b) c
 |false=>show call_enumerate_list hL λh' a b _ c=>O h' a (by show b) c
noncomputable def ItE (K:Frag) (t:Bool) (a:Addr):It:=
  ⟨fun i H=>∃xs x,Sq K H t a xs/\xs[i]?=some x,
   λi H x H'=>∃p y,x=.ref p/\H p=none/\H'=upd H p (.tup [.int (i:Int),y])/\∀xs,Sq K H t a xs->xs[i]?=some y,
   λi H=>∃xs,Sq K H t a xs/\xs.length=i⟩
abbrev eTn (e:Addr)(u:Sub)(i:Nat)(h:Heap):Prop:=(∃O,IsEnum h e u.i (i:Int) O)/\u.At h i
def ur (a6:e≠u.i):
  Turn P w K (.Tuple elts k tp) (ItE K u.t u.l) [e,u.i] e (eTn e u) where
 mem:=ZZ
 obj:=λi h st b O=>by
  obtain ⟨⟨a4,he⟩,ha⟩:=st;simp [qE3]at O;rcases O with rfl|rfl
  .show ⟨_,he,λv q=>by cases q⟩
  .obtain ⟨o,q,d⟩:=ha.obj;show ⟨o,q,λv z=>by rw[d]at z;cases z⟩
 keep:=λi h h' st kp=>⟨st.1.imp λa4 he=>kp e ZZ _ he,st.2.keep λo q=>kp u.i ZZ o q⟩
 item:=by
  intro X hP hw hK hc i pins s a H E I hf st hg;subst hP hw hK;obtain ⟨⟨a4,he⟩,ha⟩:=st;obtain ⟨xs,x,hq,hx⟩:=hg;obtain ⟨its,rv,a3⟩:=Sq.src I hq;obtain ⟨v,hv,rx⟩:=rv.get hx;have fe:=hf e ZZ;have fi:=hf u.i ZZ;have a5:=Sq.ne I hq fi;have b6:=Sq.ne I hq fe;have hi:i<its.toArray.size:=by have:=(qA7.mp hv).1;simpa using this
  refine wpAny_pyNext_enum_itemD (jN (prog:=X.prog) (w:=X.w) (show X.A.in1.handled=none from I.ok.hd hc) u a5 its.toArray) he ⟨ha,a3⟩ hi a6 (by grind) λy h1 tk hy z1 s1 p1 z2 k1=>?_;have ey:y=v:=by
   have e1:its[i]?=some y:=by simpa using hy
   rw[hv]at e1;cases e1;rfl
  subst ey;refine ⟨_,rfl,wpAny_letOwnedTupleGo_enum z1 λh2 e2 sb2=>?_⟩;have a7:e<s.heap.objs.size:=qB0 he;have b0:u.i<s.heap.objs.size:=by obtain ⟨o,q,_⟩:=ha.obj;show qB0 q
  have kp:∀b o,b≠e->b≠u.i->s.heap.get? b=some o->h2.get? b=some o:=λb o b1 b2 q=>sb2.extBut _ _ b1 (k1 b o b1 b2 q);have a0:H s.heap.objs.size=none:=I.hok.fresh (qB3 _);have trk:∀b c,H b=some c->b≠e/\b≠u.i:=λb c q=>⟨λz=>(by subst z;rw[fe.1]at q;cases q),λz=>(by subst z;rw[fi.1]at q;cases q)⟩;have b4:h2.get? s.heap.objs.size=some { cls:=.type "tuple",data:=.seq #[.int i tk,y] }:=sb2.extBut _ _ (qI6 a7) p1;have ab:Vals [.int (i:Int),x] [.int i tk,y]:=.cons ⟨tk,rfl⟩ (.cons rx .nil);refine ⟨.ref s.heap.objs.size,upd H s.heap.objs.size (.tup [.int (i:Int),x]),?_,rfl,⟨_,_,rfl,a0,rfl,?_⟩,⟨⟨y,?_⟩,?_⟩,λb O=>?_⟩
  .change Inv X pins a _ { s with heap:=h2,toks:=tk+1 };refine I.step (g':=s.gens) (t':=tk+1) (d':=s.drawn) (ch:=[e,u.i]) (λb O=>?_) (λb o _ _ hc q _=>kp b o ?_ ?_ q) (λb o _ _ hc q _=>⟨o.slots,kp b o ?_ ?_ q⟩) (λb o hc q n=>?_) (λb o hc q=>⟨o,kp b o ?_ ?_ q⟩) (λb ys q=>?_) (λb o c q=>?_) (λb ps q=>?_) (λm hm=>?_) ?_ I.bare
   .simp only [qC4,qE3,xB7]at O;rcases O with rfl|rfl
    .show ⟨fe.2.2.2.1,fe.2.1,fe.2.2.2.2.1,fe.2.2.2.2.2⟩
    .show ⟨fi.2.2.2.1,fi.2.1,fi.2.2.2.2.1,fi.2.2.2.2.2⟩
   all_goals first
    | (intro z;show hc (by simp [z];done))
    |skip
   .rw[c7 (qB7 (qB0 q))];show n
   .rw[c7 (i0 q a0)];show q
   .rw[c7 (i0 q a0)];show q
   .rw[c7 (i0 q a0)];show q
   .obtain ⟨o,es,ep,ho,r⟩:=hm;show ⟨o,es,ep,kp _ o (Ne.symm fe.2.1) (Ne.symm fi.2.1) ho,r⟩
   .intro b c q;by_cases O:b=s.heap.objs.size
    .subst O;rw[j7]at q;cases q;show ⟨(show 2<=sizeLine by decide),_,ab,⟨_,b4,rfl,_,rfl⟩⟩
    .rw [c7 O]at q
     refine (I.hok b c q).stay (λd v b5 z=>?_) (λd z=>by rw[c7 (i0 z a0)];show z) λd ys z=>by rw[c7 (i0 z a0)];show z
     grind
  .intro ys b3;rw[Sq.inj I b3 hq];show hx
  .omega
  .show s1.1.keep λo q=>sb2.extBut _ _ (Ne.symm a6) q
  .have:b≠s.heap.objs.size:=by
    simp only [qC4,qE3,xB7]at O;rcases O with rfl|rfl
    .show qB7 a7
    .show qB7 b0
   rw[c7 this];show (hf b O).1
 done:=by
  intro X hP hw hK hc i pins s a H E I hf st hg;subst hP hw hK;obtain ⟨⟨a4,he⟩,ha⟩:=st;obtain ⟨xs,hq,hn⟩:=hg;obtain ⟨its,rv,a3⟩:=Sq.src I hq;have fe:=hf e ZZ;have fi:=hf u.i ZZ;have a5:u.l≠u.i:=Sq.ne I hq fi;have hsz:its.toArray.size=i:=by have:=rv.length;simp;omega
  subst hsz;refine wpAny_pyNext_enum_endD (jN (prog:=X.prog) (w:=X.w) (show X.A.in1.handled=none from I.ok.hd hc) u a5 its.toArray) he ⟨ha,a3⟩ λh' eb=>⟨rfl,?_⟩;obtain ⟨f0,f1,f2,f3,f4,f5⟩:=fi;show I.turned (t':=s.toks) (λb o O q=>eb b o O q) f0 f1 f3 f4 f5
 self:=λA i s Q E st h=>by
  obtain ⟨⟨a4,he⟩,_⟩:=st;show wpAny_pyIter_enum he h
def Bp (K:Frag)(ta:TA):TI:=λb H R=>ta b H λvs H1=>∃t a xs,vs = [.ref a]/\Sq K H1 t a xs/\R (ItE K t a) H1
def oG:bootBuiltins "enumerate" = some (.type "enumerate"):=ox
def qh (hg:Gl X "enumerate") (hm:X.mg "enumerate" = none) (ha:PA X [a] ta) (hs:starEach [a] X.env = [(false,eval a X.env)]:=by rfl):PI X (.Tuple elts k tp) (.Call (.Name "enumerate" p) [a] [] pos) (Bp X.K ta):=by
 intro pins s d H R I h;refine qN7 (F0 I hg hm oG ?_ ZQ ZQ);refine qF6 (thn (ha pos pins s d H _ I h) λus s1 a3=>?_) hs Zo;obtain ⟨vs,H1,I1,r1,t,b,xs,e1,hq,q⟩:=a3;subst e1;obtain ⟨u,rfl,ru⟩:=D7 r1;cases ru;obtain ⟨its,rv,O⟩:=Sq.src I1 hq;refine xn (its:=its.toArray) (by unfold Sub.Src at O;show O) λh' he hA hk=>wpAny_pyIter_enum he ?_;have I2:=I1.kept (t':=s1.toks) hk;have TE:=ur (P:=X.prog) (w:=X.w) (K:=X.K) (elts:=elts) (k:=k) (tp:=tp) (e:=s1.heap.objs.size+1) (u:=⟨t,s1.heap.objs.size,b⟩) (neN ox);refine ⟨_,_,_,_,H1,rfl,I2,TE,⟨⟨_,he⟩,hA⟩,λc hc=>?_,q⟩;have a0:s1.heap.objs.size<=c:=by
  grind
 show I1.fpOk a0 (I1.hok.fresh a0)
noncomputable def O2:List W->R Zz
 | [w]=>match seqW w with
  | .ok xs=>.ok (xs.mapIdx λi x=>W.tup [.int (i:Int),x])
  |_=>.stuck
 |_=>.stuck
def wF (he:e=.V\/e=.U) (s1:Sq K Z t a xs) (r1:Reps K (fz e H0 G) xs us):cK K e H0 Z G (ItE K t a) (us.mapIdx λi x=>W.tup [.int i,x]):=by
 have l1:=r1.length;have O:∀H,_->Sq K H t a xs:=λH z=>Sq.same z s1;refine ⟨λi H hi z=>?_,λH z=>⟨xs,O H z,by grind⟩,λi H x H' w hw z y G2 c b I sg=>?_⟩
 .rw [qV1]at hi
  show ⟨xs,xs[i]'ox,O H z,ZZ⟩
 .obtain ⟨p,y1,rfl,hp,rfl,hy⟩:=y;obtain ⟨w1,e1,q1⟩:=Reps.get' r1 (hy xs (O H z));have a0:w=.tup [.int i,w1]:=by
   rw[List.getElem?_mapIdx,e1]at hw;cases hw;rfl
  subst a0;obtain ⟨x1,x2⟩:=iX he I hp (.cons .int (.cons (q1.same (L9 sg)) .nil));show ⟨_,x1,x2⟩
def xo (he:e=.V\/e=.U) (h:tIt K EX lp e (λa=>ma a>>=O2) b H Rr):Bp K (tA K EX (cZ lp e) ma) b H Rr:=by
 refine bH h (λH0 G a G1 H1 xs ws us I e1 O q o=>?_) (λws e z=>?_)
 .have I1:=I.ext e1;unfold O2 at q
  split at q
  .rename_i w
   cases hw:seqW w with
   |stuck=>rw[hw]at q;cases q
   |ex _=>rw[hw]at q;cases q
   | ok ls=>
    rw[hw]at q;cases q;cases O with
    | cons a1 O=>
     cases O;obtain ⟨t1,p1,v1,rfl,q1,r1⟩:=Md.src he I1 a1 hw;show ⟨t1,p1,v1,rfl,J0 (jr I1) q1,o _ G1 H1 e1 (wF he q1 r1)⟩
  .cases q
 .unfold O2 at z
  split at z
  .split at z <;> cases z
  .cases z
def vm {X}{K}{EX}{a}{pos}{O:Zw}{elts:Vo}{p tp}{k}(hg:Gl X "enumerate") (hm:X.mg "enumerate" = none) (ha:PA X [a] (tA K EX .B O)) (hK:X.K=K:=by rfl) (hs:starEach [a] X.env = [(false,eval a X.env)]:=by rfl):PI X (.Tuple elts k tp) (.Call (.Name "enumerate" p) [a] [] pos) (tIt K EX false .U (bI O2 O)):=by
 subst hK;show (qh hg hm ha hs).mono λ_ _ _ q=>xo (.inr rfl) q
def gL {X}{K}{EX}{a}{pos}{O:Zw}{elts:Vo}{p tp}{k}(hg:Gl X "enumerate") (hm:X.mg "enumerate" = none) (ha:PA X [a] (tA K EX .U O)) (hK:X.K=K:=by rfl) (hs:starEach [a] X.env = [(false,eval a X.env)]:=by rfl):PI X (.Tuple elts k tp) (.Call (.Name "enumerate" p) [a] [] pos) (tIt K EX true .U (bI O2 O)):=by
 subst hK;show (qh hg hm ha hs).mono λ_ _ _ q=>xo (.inr rfl) q
noncomputable def inW (u:W):W->Option Bool
 | .tup ws=>some ((pds ws).any λy=>PyData.eqv y (pd u))
 | .lst ws=>some ((pds ws).any λy=>PyData.eqv y (pd u))
 | .scr ws=>some ((pds ws).any λy=>PyData.eqv y (pd u))
 |_=>none
def rIn (K:Frag)(neg:Bool):R2:=λx y H Q=>∃u v b,Rep K H x u/\Rep K H y v/\shp 8 u=true/\shp 8 v=true/\inW u v=some b/\Q (.bl (if neg then !b else b)) H
def Bk (hu:X.A.units+64<cLine):OpR X (compareOp .In) (rIn X.K false):=by
 intro pins s d H x y v u Q I rx ry h;obtain ⟨a,c,b,ra,rc,sa,sc,e,q⟩:=h;obtain ⟨as,qa⟩:=Rep.reads I 8 ra sa rx;obtain ⟨bs,O⟩:=Rep.reads I 8 rc sc ry;have la:=dc a 8 sa;cases c <;> first | (cases e;done)|skip
 all_goals
  rename_i ws
  have lc:=iP ws 7 sc;have hm:X.A.units+1+min (PyData.depthAll (pds ws)) (pd a).depth<cLine:=ox;cases e
 .show SeqAt.in_tuple_reads O qa lc.1 la.1 hm ⟨.bl _,H,I,rfl,q⟩
 .show SeqAt.in_list_reads O qa lc.1 la.1 hm ⟨.bl _,H,I,rfl,q⟩
 .show SeqAt.in_list_reads O qa lc.1 la.1 hm ⟨.bl _,H,I,rfl,q⟩
def vG (hu:X.A.units+64<cLine):OpR X (compareOp .NotIn) (rIn X.K true):=by
 intro pins s d H x y v u Q I rx ry h;obtain ⟨a,c,b,ra,rc,sa,sc,e,q⟩:=h;obtain ⟨as,qa⟩:=Rep.reads I 8 ra sa rx;obtain ⟨bs,O⟩:=Rep.reads I 8 rc sc ry;have la:=dc a 8 sa;cases c <;> first | (cases e;done)|skip
 all_goals
  rename_i ws
  have lc:=iP ws 7 sc;have hm:X.A.units+1+min (PyData.depthAll (pds ws)) (pd a).depth<cLine:=ox;cases e
 .show SeqAt.notIn_tuple_reads O qa lc.1 la.1 hm ⟨.bl _,H,I,rfl,q⟩
 .show SeqAt.notIn_list_reads O qa lc.1 la.1 hm ⟨.bl _,H,I,rfl,q⟩
 .show SeqAt.notIn_list_reads O qa lc.1 la.1 hm ⟨.bl _,H,I,rfl,q⟩
noncomputable def fIn (neg:Bool) (u v:W):R W:=if shp 8 u&&shp 8 v then (match inW u v with
 |some b=>.ok (.bl (if neg then !b else b))
 |none=>.stuck) else .stuck
def ll:Op2 K .B d (rIn K neg) (fIn neg):=by
 intro EX H0 Hs G H e a Ha Hb x y u v Q I s mx my o;unfold fIn at o;by_cases c:(shp 8 u&&shp 8 v)=true
 .rw [qA2 c]at o
  have c':shp 8 u=true/\shp 8 v=true:=by simpa using c
  cases O:inW u v with
  |none=>rw[O]at o;show o.elim
  | some b=>
   rw[O]at o;show ⟨u,v,b,mx.whole I,my.whole I,c'.1,c'.2,O,o _ G H (Ext.refl I.gh) (Md.sca rfl (λ_=>.bl) d)⟩
 .rw[qA8 c]at o;show o.elim
noncomputable def lexLt:List Int->List Int->Bool
 | [],[]=>false
 | [],_::_=>true
 |_::_,[]=>false
 |a::as,b::bs=>if a=b then lexLt as bs else decide (a<b)
theorem bu:∀a,lexLt a a=false
 | []=>rfl
 |x::a=>by unfold lexLt;rw[qA2 rfl];show bu a
theorem dF:∀a b c,lexLt a b=true->lexLt b c=true->lexLt a c=true
 | [],[],_,h,_=>by cases h
 | [],_::_,[],_,h=>by cases h
 | [],_::_,_::_,_,_=>rfl
 |_::_,[],_,h,_=>by cases h
 |_::_,_::_,[],_,h=>by cases h
 | x::a,y::b,z::c,h1,h2=>by
  unfold lexLt at h1 h2 ⊢;by_cases e1:x=y
  .subst e1;rw[qA2 rfl]at h1;by_cases O:x=z
   .subst O;rw[qA2 rfl]at h2 ⊢;show dF a b c h1 h2
   .rw[qA8 O]at h2 ⊢;show h2
  omega
theorem eL:∀a b,lexLt a b=false->lexLt b a=false->a=b
 | [],[],_,_=>rfl
 | [],_::_,h,_=>by cases h
 |_::_,[],_,h=>by cases h
 | x::a,y::b,h1,h2=>by
  unfold lexLt at h1 h2;by_cases e:x=y
  .subst e;rw[qA2 rfl]at h1 h2;rw[eL a b h1 h2]
  omega
noncomputable def T4 (ss:VV)(i:Nat):Int:=((ss.countP λx=>lexLt x (ss.getD i [])):Nat)
def xh {a:Type}{p q:a->Bool}:∀{l:List a},(∀x∈l,p x=true->q x=true)->(∃x∈l,q x=true/\p x=false)->l.countP p<l.countP q:=by
 intro l
 induction l with
 |nil=>grind
 | cons x l ih=>
  intro h h0;obtain ⟨y,O,hq,hp⟩:=h0;have h':=λz hz=>h z (qA6 _ hz);have le:=qS7 h';rw[List.countP_cons,List.countP_cons];rcases qC4.mp O with e|O
  .subst e;omega
  .have:=ih h' ⟨y,O,hq,hp⟩
   by_cases c:p x=true
   .rw[qA2 c,qA2 (h x qB2 c)];omega
   .split <;> omega
def getD_mem {ss:VV}(h:i<ss.length):ss.getD i []∈ss:=by
 simp [h]
def qc (hi:i<ss.length) (hj:j<ss.length):decide (T4 ss i<T4 ss j)=lexLt (ss.getD i []) (ss.getD j []):=by
 cases h:lexLt _ _ with
 | true=>
  unfold T4
  have:=xh (p:=_) (q:=λx=>lexLt x _) (λx _ O=>dF _ _ _ O h) ⟨_,getD_mem hi,h,bu _⟩
  omega
 | false=>
  unfold T4
  have:ss.countP (λx=>lexLt x (ss.getD j []))<=ss.countP λx=>lexLt x (ss.getD i []):=by
   apply qS7
   grind[dF,eL]
  omega
noncomputable def du (ss:VV):List Nat:=if ss.length<2 then List.range ss.length else (runK (T4 ss) (PySem.W.kas_sort ss.length)).toList
noncomputable def J5 (ss:VV):List VW:=(du ss).map λi=>ss.getD i []
def bU ss:(du ss).Perm (List.range ss.length):=by
 unfold du
 split
 .show .refl _
 .have:=(eB (T4 ss) (n:=ss.length) ox).1
  show (qJ9.mp this).trans ZZ
def ve (ss:VV):(List.range ss.length).map (λi=>ss.getD i [])=ss:=by
 apply qF4
 .simp
 .intro i h1 O;simp [O]
theorem jP ss:(J5 ss).Perm ss:=by
 have:=(bU ss).map λi=>ss.getD i []
 rw[ve]at this;show this
def Ca ss:(J5 ss).Pairwise λa b=>lexLt b a=false:=by
 unfold J5;rw[qI8];unfold du
 split
 .have:ss.length=0\/ss.length=1:=ox
  rcases this with e|e <;> rw[e] <;> simp
 .have k:=eB (T4 ss) (n:=ss.length) ox;have hp:=qJ9.mp k.1;have hl:(runK (T4 ss) (PySem.W.kas_sort ss.length)).toList.length=ss.length:=by have:=hp.length_eq;simpa using this
  have hm:∀x∈_,x<ss.length:=λx hx=>by have:=hp.mem_iff.mp hx;simpa using this
  have hu:=aX _ k.2;generalize runK _ _=p at hl hm hu
  rw[qF9];intro i j hi O a0
  have:=hu j i ox ox
  unfold ky at this;have ei:p.getD i 0=p.toList[i]:=by simp at hi ⊢;simp [hi]
  have ej:p.getD j 0=p.toList[j]:=by simp at O ⊢;simp [O]
  rw[<- qc (hm _ (qI1 O)) (hm _ (qI1 hi))];show qN3 ox
def S6 {c}(n:Nat) (P:c->Prop):PySem.W.KasT c->Prop
 | .ret a=>P a
 | .ask i j k=>i<n/\j<n/\∀b,S6 n P (k b)
def S5 {O:c->Prop}:∀{t:PySem.W.KasT d},S6 n P t->(∀a,P a->S6 n O (f a))->S6 n O (t.bind f)
 | .ret a,h,hf=>hf a h
 | .ask i j k,h,hf=>⟨h.1,h.2.1,λb=>S5 (h.2.2 b) hf⟩
def allLt (n:Nat)(p:Array Nat):Prop:=∀x∈p,x<n
def allLt.perm (h:allLt n p)(hp:q.Perm p):allLt n q:=λx O=>h x (hp.mem_iff.mp O)
def allLt.at (h:allLt n p) (h0:0<n) k:p.getD k 0<n:=by
 rw[qP7];cases e:p[k]? with
 |none=>show h0
 |some x=>show h x (Array.mem_of_getElem? e)
section
open PySem.W PyProof.Rows
variable {n:Nat}(h0:0<n)
include h0
def jI (h:allLt n p):∀f k,S6 n (λ_=>True) (kas_asc p f k)
 |0,_=>trivial
 |f+1,k=>⟨h.at h0 _,h.at h0 _,λb=>by cases b <;> first|show jI h f _|trivial⟩
def cH:∀ f p k q,allLt n p->S6 n (λr=>allLt n r.1) (kas_desc f p k q)
 |0,p,k,q,h=>h
 | f+1,p,k,q,h=>by
  refine ⟨h.at h0 _,h.at h0 _,λb=>?_⟩;cases b with
  | true=>
   dsimp only;rw[qA2 rfl]
   split
   .show cH f _ _ _ (h.perm (mirror_perm ..))
   .show cH f _ _ _ h
  | false=>
   dsimp only;refine ⟨h.at h0 _,h.at h0 _,λb=>?_⟩;cases b with
   |true=>dsimp only;show h
   |false=>dsimp only;show cH f _ _ _ h
def kR (h:allLt n p):S6 n (λr=>allLt n r.2) (kas_tail3 k m p):=
 S5 (jI h0 (h.perm (mirror_perm ..)) ..) λ_ _=>h.perm (mirror_perm ..)
def dX (h:allLt n p):S6 n (λr=>allLt n r.2) (kas_descPart k m p):=by
 refine S5 (cH h0 _ _ _ _ h) λr O=>?_
 split
 .show kR h0 (O.perm (mirror_perm ..))
 .show kR h0 O
def xy (h:allLt n p):S6 n (λr=>allLt n r.2) (kas_count m p):=by
 refine S5 (jI h0 h ..) λr O=>?_
 split
 .show h
 .split
  .refine ⟨h.at h0 _,h.at h0 _,λb=>?_⟩;cases b with
   |true=>dsimp only;show h
   |false=>dsimp only;show dX h0 (h.perm (mirror_perm ..))
  .show dX h0 h
def dW (h:allLt n p):∀f l m,S6 n (λ_=>True) (kas_place p k f l m)
 |0,_,_=>trivial
 | f+1,l,m=>by
  unfold kas_place
  split
  .trivial
  .refine ⟨h.at h0 _,h.at h0 _,λb=>?_⟩;cases b with
   |true=>dsimp only;show dW h f ..
   |false=>dsimp only;show dW h f ..
def rE:∀ f (p:Array Nat) k,allLt n p->S6 n (λ_=>True) (kas_bin f p k)
 |0,_,_,_=>trivial
 |f+1,p,k,h=>S5 (dW h0 h ..) λl _=>rE f _ _ (h.perm (bubble_perm ..))
def oK:S6 n (λ_=>True) (kas_sort n):=by
 refine S5 (xy h0 λx O=>by simpa using O) λr hr=>?_
 split
 .show rE h0 _ _ _ hr
 .trivial
end
def wp_run (hc:∀i j C,i<n->j<n->C (decide (r i<r j)) s->cmp i j C s):
  ∀{t:PySem.W.KasT b},S6 n P t->Q (runK r t) s->t.kasWp cmp Q s
 | .ret _,_,h=>h
 | .ask i j k,a,h=>hc i j _ a.1 a.2.1 (wp_run hc (a.2.2 _) h)
noncomputable def aM (fin:Bool):List (Int×Int)->Bool
 | []=>fin
 | (a,b)::r=>if a=b then aM fin r else decide (a<b)
theorem ju:∀xs ys,aM (decide (xs.length<ys.length)) (xs.zip ys)=lexLt xs ys
 | [],[]=>rfl
 | [],_::_=>by simp [aM,lexLt]
 |_::_,[]=>by simp [aM,lexLt]
 | x::xs,y::ys=>by
  have:=ju xs ys
  simp [aM,lexLt,qY4];rw[this]
section
open PySem.W PyProof.Rows
theorem ww:∀(xs ys:VW) (us vs:Vy) i,Vals (xs.map V.int) us->Vals (ys.map V.int) vs->Q (aM fin (xs.zip ys)) s->KatLex prog w A true fin Q (us.zip vs) i s
 | [],_,_,_,_,.nil,_,h=>h
 |_::_,[],_,_,_,.cons ..,.nil,h=>h
 | x::xs,y::ys,_,_,i,.cons r1 t1,.cons r2 t2,h=>by
  obtain ⟨t,rfl⟩:=r1;obtain ⟨u,rfl⟩:=r2;refine kat_cons (qX6 ?_);simp [aM]at h;by_cases e:x=y
  .rw [qA2 e]at h
   rw[show (x == y)=true by simpa using e];show kat_yes (ww xs ys _ _ _ t1 t2 h)
  .rw [qA8 e]at h
   rw[show (x == y)=false by simpa using e];cases i with
   |zero=>show oneLt_int h
   |succ i=>show kat_one _ _ (lt_int h)
def M4 (h:Heap)(v:Value)(xs:VW):Prop:=∃(a:Addr)(o:Obj)(its:Vy)(m:Nat),v=.ref a/\h.get? a=some o/\o.cls=.type "tuple" /\ o.data=.seq its.toArray m/\Vals (xs.map V.int) its
def DD (hv:M4 s.heap v xs) (hu:M4 s.heap u ys) (h:Q (lexLt xs ys) s):wpAny (model prog w) A (keyLt' (tuples' true) v u) Q E s:=by
 obtain ⟨a,o,its,m,rfl,ho,_,hd,rv⟩:=hv;obtain ⟨b,o2,a4,m2,rfl,a3,_,O,a0⟩:=hu;refine kat_lt ho hd a3 O ?_;have l1:=rv.length;have l2:=a0.length
 grind[ww,ju]
def xT (hv:M4 h v xs) (a0:xs ≠ []):∃(a:Addr) (o:Obj) (its:VQ) (m:Nat) (i:Int) (O:Tok),v=.ref a/\h.get? a=some o/\o.cls=.type "tuple" /\ o.data=.seq its m/\its[0]?=some (.int i O):=by
 obtain ⟨a,o,its,m,e,ho,hc,hd,rv⟩:=hv;cases xs with
 |nil=>show absurd rfl a0
 | cons x xs=>
  cases its with
  |nil=>cases rv
  | cons u its=>
   cases rv with
   | cons r1 _=>
    obtain ⟨O,rfl⟩:=r1;show ⟨a,o,_,m,x,O,e,ho,hc,hd,rfl⟩
def lH:∀{vs:Vy}{ss:VV},Paired (λv xs=>M4 h v xs/\xs ≠ []) vs ss->∃fs:List Value,KatTups h vs fs/\fs.length=ss.length/\∀f∈fs,∃i t,f=.int i t
 |_,_,.nil=>⟨[],trivial,rfl,λ_ h=>nomatch h⟩
 | _,_,.cons hv t=>by
  obtain ⟨fs,k,hl,hi⟩:=lH t;obtain ⟨a,o,its,m,i,tk,e,O,hc,hd,h0⟩:=xT hv.1 hv.2;subst e;refine ⟨_::fs,KatTups.cons O hc hd h0 k,by rw[qB9,qB9,hl],λf hf=>?_⟩
  grind
end
def F5:∀{O:List c}{bs:List a}{i},Paired F O bs->i<O.length->∃b,bs[i]?=some b/\F (O.getD i d) b
 |_,_,_,.nil,h=>absurd h (qD4 _)
 |_,_,0,.cons r _,_=>⟨_,rfl,r⟩
 | _,_,i+1,.cons _ t,h=>by
  obtain ⟨b,e,q⟩:=F5 (i:=i) t (by simpa using h);show ⟨b,by simpa using e,by simpa using q⟩
def fc {R:e->d->Prop}:∀{O:List f}{bs:List e}{cs:List d},Paired F O bs->Paired G O cs->(∀a b c,F a b->G a c->R b c)->Paired R bs cs
 |_,_,_,.nil,.nil,_=>.nil
 |_,_,_,.cons a r,.cons b t,h=>.cons (h _ _ _ a b) (fc r t h)
section
open PySem.W PyProof.Rows
noncomputable def F6 {a:Type}(ss:VV)(d:a)(vs:List a):List a:=(du ss).map λi=>vs.getD i d
def sw {d:a}(O:vs.length=ss.length) (h:ss.length<2):F6 ss d vs=vs:=by
 unfold F6 du;rw[qA2 h,<- O];apply qF4
 .simp
 .intro i h1 h2;simp [h2]
def mO ss (d:a) (vs:List a):(F6 ss d vs).length=ss.length:=by
 unfold F6;rw[qA4,(bU ss).length_eq,qE2]
def uB (ho:s.heap.get? a=some (seqObj "list" vs.toArray n)) (hl:vs.length=ss.length) (b5:ss.length<64) (ht:∀h',(∀b o,b≠a->s.heap.get? b=some o->h'.get? b=some o)->Paired (λv xs=>M4 h' v xs/\xs ≠ []) vs ss) (a6:P (.done (.ret .none)) { s with heap:=sortedHeap s.heap a vs (F6 ss Value.none vs).toArray }):wpAny (model prog w) A (Builtin.«list.sort» ⟨[.ref a],[]⟩) P E s:=by
 rw[list_sort_plain];refine qA0 (listItems_at ho rfl (qA0 (listUpdate_at ho rfl ?_ (by rw[qC1,qO1];omega) (qC6 _))));obtain ⟨ep,hp⟩:∃ep,(s.heap.update a _).get? a=some (seqObj "list" #[] ep):=⟨_,get?_update_seq ho λ_=>#[]⟩;refine qA0 (seqEpoch_at hp rfl (qA0 (qR3 (qA0 (qS3 (qN6 ?_) (qC6 _))) (by rw[qO1];omega))));generalize hh:((s.heap.update a _).push _).push _=O
 have a5:O.get? a=some (seqObj "list" #[] ep):=by grind[PySem.Heap.get?_push_of_some]
 have b0:∀b o,b≠a->s.heap.get? b=some o->O.get? b=some o:=λb o hb e=>by grind[PySem.Heap.get?_push_of_some,PySem.Heap.get?_update_ne]
 have IR:sortedHeap s.heap a vs (F6 ss Value.none vs).toArray=O.update a (Obj.mapSeq λ_=>(F6 ss Value.none vs).toArray):=by rw[<- hh];rfl
 rw[IR]at a6
 change wpAny (model prog w) A _ P E { s with heap:=O };dsimp only;have b4:vs.toArray.size=vs.length:=ZZ;have a7:(F6 ss Value.none vs).toArray.size<=sizeLine+1:=by rw[qC1,mO,qO1];omega
 by_cases c2:vs.toArray.size<2
 .rw [qA2 c2,qA2 c2]
  refine qA0 (qN2 ?_);rw[StateT.run_pure];refine qA0 (qN2 ?_);dsimp only;have eo:Array.map (λx=>x.snd) (arrOf (SortSt.mk' general' (vs.toArray.zip vs.toArray) #[] 7 none))=(F6 ss Value.none vs).toArray:=by
   rw[sw hl ox]
   change Array.map (λx=>x.snd) (vs.toArray.zip vs.toArray)=vs.toArray;apply Array.toList_inj.mp;rw[Array.toList_map,Array.toList_zip];apply qF4
   .simp
   .intro i h1 h2;simp
  rw[eo];refine qA0 (seqEpoch_at a5 rfl (qA0 (listUpdate_at a5 rfl ?_ (qC6 _) a7)));simp only [qW5,qE7,qO2];show qN2 a6
 .rw [qA8 c2,qA8 c2]
  have tt:=ht O b0;obtain ⟨fs,kt,fl,fi⟩:=lH tt;refine qA0 (kat_kind (s:={ s with heap:=O }) (T:=.type "int") kt ox (λv hv=>?_) ZQ ?_)
  .obtain ⟨i,t,rfl⟩:=fi v hv;show Looks.of_pure rfl
  have hw:(kas_sort vs.length).kasWp (kas_ask prog w A (tuples' (Value.type "int" != Value.type "tuple")) vs) (λp s'=>s'={ s with heap:=O }/\p.toList=du ss) { s with heap:=O }:=by
   refine wp_run (n:=vs.length) (r:=T4 ss) (λi j C hi hj hC=>?_) (oK ox) ⟨rfl,?_⟩
   .obtain ⟨x,hx,tx⟩:=F5 tt hi;obtain ⟨y,hy,ty⟩:=F5 tt hj;rw[qc ox ox]at hC;have ex:ss.getD i []=x:=by rw[qA3,hx];rfl
    have ey:ss.getD j []=y:=by rw[qA3,hy];rfl
    rw[ex,ey]at hC;show DD (s:={ s with heap:=O }) tx.1 ty.1 hC
   .unfold du;rw[qA8 ox,hl]
  refine qA0 (qO5 (kat_run (Q:=λa0 s'=>s'={ s with heap:=O }/\(arrOf a0).map (·.2)=(F6 ss Value.none vs).toArray/\failedOf a0=none) rfl ox ox (λp a0 s' a1 a2 a3 a4=>⟨a4.1,by rw[kat_snds rfl a2,a4.2];rfl,a3⟩) hw) ?_ λ_ _ e=>e);rintro ⟨⟨⟩,a0⟩ s' ⟨rfl,b3,ab⟩;dsimp only;rw[b3];refine qA0 (seqEpoch_at a5 rfl (qA0 (listUpdate_at a5 rfl ?_ (qC6 _) a7)));rw[ab];simp only [qW5,qE7,qO2];show qN2 a6
def oV (hL:s.heap.IsList l vs.toArray) (hl:vs.length=ss.length) (a3:ss.length<64) (ht:Paired (λv xs=>M4 s.heap v xs/\xs ≠ []) vs ss) (O:Q (.ref (s.heap.objs.size+1)) { s with heap:=sortedAll s.heap vs (F6 ss Value.none vs).toArray }):wpAny (model prog w) A (call (.builtin "sorted") [.ref l]) Q E s:=by
 refine Calls.call_function_entry kind_sorted plain_sorted entry_sorted (args_sorted1 _) ?_;refine qA0 (qN2 (qA0 (collect_list hL (qA0 (qS3 ?_ (by rw[qO1];omega))) (by rw[qO1];omega))));generalize hg:(s.heap.push _).update _ _=g
 have gz:g.objs.size=s.heap.objs.size+1:=by rw[<- hg,qY5,size_push']
 have gk:∀b o,s.heap.get? b=some o->g.get? b=some o:=λb o e=>by
  have a0:=qB0 e;rw[<- hg,qL6 _ _ _ _ (qB7 a0)];show qA1 _ e
 have go:(g.push (seqObj "list" vs.toArray 0)).get? (s.heap.objs.size+1)=some (seqObj "list" vs.toArray 0):=by rw[<- gz];show qB5 _ rfl
 have ea:sortedAll s.heap vs (F6 ss Value.none vs).toArray=sortedHeap (g.push (seqObj "list" vs.toArray 0)) (s.heap.objs.size+1) vs (F6 ss Value.none vs).toArray:=by rw[<- hg];rfl
 rw[ea]at O;rw[gz];refine qA0 (qN6 (qO8 slot_list_sort ⟨_,go,rfl⟩ entry_list_sort (uB go hl a3 (λh' hk=>?_) ⟨_,rfl,qN2 ⟨_,rfl,O⟩⟩) (args_list_sort _)));refine Paired.mapP ht λv xs hv=>⟨?_,hv.2⟩;obtain ⟨a,o,its,m,rfl,h1,h2,h3,h4⟩:=hv.1;show ⟨a,o,its,m,rfl,hk a o (qB7 (qD2 (qB0 h1))) (qA1 _ (gk a o h1)),h2,h3,h4⟩
end
def xM (r:Vals ys its) (hl:ys.length=ss.length):Vals (F6 ss V.non ys) (F6 ss Value.none its):=P9 λi hi=>by
 have O:i<ys.length:=by have:=(bU ss).mem_iff.mp hi;rw[qH6]at this;omega
 obtain ⟨u,e,q⟩:=F5 r O;rw[show its.getD i _=u by rw[qA3,e];rfl];show q
def kQ:bootBuiltins "sorted" = some (.builtin "sorted"):=ox
def tG (hK:X.K=K:=by rfl):G7 X (.builtin "sorted") (λxs H Q=>∃p ys ss,xs = [.ref p]/\SqL K H p ys/\Paired (λv zs=>(∃a,v=.ref a/\SqT K H a (zs.map V.int))/\zs ≠ []) ys ss/\ss.length<64/\∀l,H l=none->Q (.ref l) (upd H l (.lst (F6 ss V.non ys)))):=by
 subst hK;intro pins s d H xs us Q I r h;obtain ⟨p,ys,ss,rfl,hq,ht,a3,q⟩:=h;obtain ⟨u,rfl,ru⟩:=D7 r;cases ru;obtain ⟨its,rv,pl,hz⟩:=I.list hq;have hlen:=rv.length;have a6:=Paired.length ht;have tt:Paired (λv xs=>M4 _ v xs/\xs ≠ []) its ss:=fc rv ht λv u zs r1 r2=>by
  obtain ⟨⟨a,rfl,hs⟩,a4⟩:=r2;cases r1;obtain ⟨O,a5,⟨o,e,c,k,dd⟩,_⟩:=I.tuple hs;show ⟨⟨a,o,O,k,rfl,e,c,dd,a5⟩,a4⟩
 refine oV pl.isList ox a3 tt ?_;obtain ⟨e,he⟩:=PyProof.Rows.sortedAll_at _ its _;have a0:s.heap.objs.size<=s.heap.objs.size+1:=qL3 _;refine ⟨.ref _,_,I.laid (λb o q=>PyProof.Rows.sortedAll_old q) a0 (show ObjOk _ X.w _ _ _ (.lst _) from ⟨by rw[mO];show qD3 (qM0 a3) ZQ,_,e,xM rv ox,he⟩),rfl,q _ (I.hok.fresh a0)⟩
noncomputable def S9:List W->Option VV
 | []=>some []
 | .tup ws::r=>match x5 ws,S9 r with
  |some x,some xs=>some (x::xs)
  |_,_=>none
 |_=>none
def fG:∀ss,S9 (ss.map λx=>W.tup (x.map W.int))=some ss
 | []=>rfl
 | x::ss=>by
  change (match x5 _,S9 _ with|some x,some xs=>_|_,_=>_)=_;rw[ints_map,fG]
noncomputable def fSort:List W->R W
 | [w]=>match lstOf w with
  | some ws=>match S9 ws with
   |some ss=>if ss.length<64/\ss.all (λx=>!x.isEmpty)=true then .ok (.lst ((J5 ss).map λx=>W.tup (x.map W.int))) else .stuck
   |none=>.stuck
  |none=>.stuck
 |_=>.stuck
theorem zU:∀{ws:Zz}{x},x5 ws=some x->ws=x.map W.int:=by
 intro ws
 induction ws with
 |nil=>omega
 | cons w ws O=>
  intro x h;cases w <;> first | (cases h)|skip
  rename_i i
  have h':(x5 ws).map _=_:=h;cases hw:x5 ws <;> grind
def lJ:∀{ws:Zz}{ss},S9 ws=some ss->ws=ss.map λx=>W.tup (x.map W.int):=by
 intro ws
 induction ws with
 |nil=>omega
 | cons w r O=>
  intro ss h;cases w <;> first | (cases h)|skip
  grind[S9,zU]
def ka:∀ns:List Int,m5 (ns.map W.int)=true
 | []=>rfl
 |n::ns=>by rw[qE1];simp [m5,noL,ka]
theorem fQ:∀ss:List VW,m5 (ss.map λx=>W.tup (x.map W.int))=true
 | []=>rfl
 |x::ss=>by rw[qE1];simp [m5,noL,ka,fQ]
def jW:∀{ys}{ss:VV},Reps K F ys (ss.map λx=>W.tup (x.map W.int))->(∀x∈ss,x ≠ [])->Paired (λv O=>(∃a,v=.ref a/\F a=some (.tup (O.map V.int)))/\O ≠ []) ys ss
 |_,[],.nil,_=>.nil
 | _,x::ss,.cons r t,hne=>by
  refine .cons ⟨?_,hne x qB2⟩ (jW t λy hy=>hne y (qA6 _ hy));cases r with
  |tup ha hr=>show ⟨_,rfl,by rw[ha,Reps.ints hr (ints_map x)]⟩
def iW:∀{ys}{ws:Zz}{i},Reps K F ys ws->i<ys.length->∃w,ws[i]?=some w/\Rep K F (ys.getD i .non) w
 |_,_,_,.nil,h=>absurd h (qD4 _)
 |_,_,0,.cons r _,_=>⟨_,rfl,r⟩
 | _,_,i+1,.cons _ t,h=>by
  obtain ⟨b,e,q⟩:=iW t (by simpa using h);show ⟨b,by simpa using e,by simpa using q⟩
def fN:∀{l:Zq},(∀i∈l,Rep K F (f i) (g i))->Reps K F (l.map f) (l.map g)
 | [],_=>.nil
 |_::_,h=>.cons (h _ qB2) (fN λb O=>h b (qA6 _ O))
def yH (r:Reps K F ys (ss.map λx=>W.tup (x.map W.int))):Reps K F (F6 ss V.non ys) ((J5 ss).map λx=>W.tup (x.map W.int)):=by
 have hl:=r.length;rw[qA4]at hl;unfold J5 F6;rw[qC0];refine fN λi hi=>?_;have O:i<ss.length:=by have:=(bU ss).mem_iff.mp hi;rwa [qH6]at this
 obtain ⟨w,e,q⟩:=iW (i:=i) r ox;rw[qA9]at e
 have:ss[i]?=some (ss.getD i []):=by simp [O]
 rw[this]at e;cases e;show q
def Kt:Cal K (cb c) .F (λxs H Q=>∃p ys ss,xs = [.ref p]/\SqL K H p ys/\Paired (λv zs=>(∃a,v=.ref a/\SqT K H a (zs.map V.int))/\zs ≠ []) ys ss/\ss.length<64/\∀l,H l=none->Q (.ref l) (upd H l (.lst (F6 ss V.non ys)))) fSort:=by
 intro EX H0 Hs G H f d Ha vs ws Q I s m o;cases m with
 |nil=>show o.elim
 | cons a t=>
  cases t with
  |cons _ _=>show o.elim
  | nil=>
   rename_i w v
   unfold fSort at o;cases hl:lstOf w with
   |none=>simp [hl]at o;show o.elim
   | some us=>
    simp only [hl]at o;cases O:S9 us with
    |none=>simp [O]at o;show o.elim
    | some ss=>
     simp only [O]at o;by_cases hc:ss.length<64/\ss.all (λx=>!x.isEmpty)=true
     .obtain ⟨p,ys,rfl,hs,r⟩:=Md.lstOf I a hl;rw[lJ O]at r;have a0:∀x∈ss,x ≠ []:=λx hx=>by
       grind
      have sm:Same (if c then G else join H0 G) H:=by
       cases c with
       |true=>show I.gh
       |false=>show I.join_H
      refine ⟨p,ys,ss,rfl,hs,Paired.mapP (jW r a0) λv zs h=>⟨?_,h.2⟩,hc.1,Out.chks (EX:=EX) I s (yH r) ?_⟩
      .obtain ⟨b,e,q⟩:=h.1;show ⟨b,e,SqT.of (sm _ _ q)⟩
      grind[TP.chks,fQ]
     .rw[qA8 hc]at o;show o.elim
set_option maxHeartbeats 2000000
def xU l b (a0:VQ) m m2 (dd a3:Option Addr) (sl a4:Array VJ) :
  Meets (Builtin.«tuple.__add__» ⟨[.ref l,.ref b],[]⟩) (λ_ R s=>s.heap.get? l=some { cls:=.type "tuple",dict:=dd,data:=.seq #[] m,slots:=sl }/\s.heap.get? b=some { cls:=.type "tuple",dict:=a3,data:=.seq a0 m2,slots:=a4 }/\R (.ok (.ret (.ref b))) s):=
 .of_wp λprog w A R s O=>by
  obtain ⟨hl,hb,O⟩:=O;have g1:=AutoSeq1.sub_tuple_tuple
  wp_walk using qG4 hl,qG4 hb
  show ⟨_,rfl,O⟩
def Fp l b (us vs:Vy) m m2 (dd a5:Option Addr) (sl a6:Array VJ) (xs ys:VW) (rx:Vals (xs.map V.int) us) (ry:Vals (ys.map V.int) vs) :
  Meets (Builtin.«tuple.__lt__» ⟨[.ref l,.ref b],[]⟩) (λ_ R s=>s.heap.get? l=some { cls:=.type "tuple",dict:=dd,data:=.seq us.toArray m,slots:=sl }/\s.heap.get? b=some { cls:=.type "tuple",dict:=a5,data:=.seq vs.toArray m2,slots:=a6 }/\R (.ok (.ret (.bool (lexLt xs ys)))) s):=
 .of_wp fun prog w A R s a3=>by
  obtain ⟨hp,g,d,tk,os⟩:=s;obtain ⟨hl,hb,a3⟩:=a3;have g1:=AutoSeq1.sub_tuple_tuple;have l1:=rx.length;have l2:=ry.length
  wp_walk using qG4 hl,qG4 hb,qS5 _ (λrest b s'=>b.1=none/\s'=⟨hp,g,d,tk,os⟩/\∃(zs O:VW) (us vs:Vy),rest=us.zip vs/\Vals (zs.map V.int) us/\Vals (O.map V.int) vs/\R (.ok (.ret (.bool (aM (decide (xs.length<ys.length)) (zs.zip O))))) ⟨hp,g,d,tk,os⟩) _
  case turn=>
   rintro ⟨y,x⟩ rest b s' ⟨a0,rfl,zs,O,a4,a7,hz,r1,r2,hR⟩;cases zs with
   |nil=>cases r1;cases hz
   | cons z zs=>
    cases O with
    |nil=>cases r2;cases a4 <;> cases hz
    | cons t O=>
     cases r1 with
     | cons a1 r1=>
      cases r2 with
      | cons a2 r2=>
       obtain ⟨k1,rfl⟩:=a1;obtain ⟨k2,rfl⟩:=a2;rw[List.zip_cons_cons]at hz;injection hz with h1 h2
       injection h1 with h3 h4
       subst h3 h4 h2;simp only [List.zip_cons_cons,aM]at hR;refine qA0 (qX6 ?_);by_cases e:z=t
       .rw [qA2 e]at hR
        rw[show (z == t)=true by simpa using e]
        wp_walk
        show ⟨rfl,rfl,zs,O,_,_,rfl,r1,r2,hR⟩
       .rw [qA8 e]at hR
        rw[show (z == t)=false by simpa using e];rw[qA2 (show (!false)=true from rfl)];refine qA0 (qR2 (qA0 (PyProof.Rows.lt_int ?_)))
        wp_walk
        show ⟨_,rfl,hR⟩
  case fin=>
   rintro ⟨b1,b2⟩ s' ⟨a0,rfl,zs,O,a4,a7,hz,r1,r2,hR⟩;simp only at a0;subst a0;have hk:aM (decide (xs.length<ys.length)) (zs.zip O)=decide (xs.length<ys.length):=by
    cases zs with
    |nil=>rfl
    | cons z zs=>
     cases O with
     |nil=>rfl
     |cons t O=>cases r1;cases r2;cases hz
   rw[hk]at hR
   wp_walk
   refine ⟨_,rfl,?_⟩;simpa [Builtin.Tuple.tupleCompareSizes,<- l1,<- l2]using hR
  case h=>
   show ⟨rfl,rfl,xs,ys,us,vs,rfl,rx,ry,by rw[ju];show a3⟩
def Bd (K:Frag):R2:=λx y H Q=>Bc K x y H Q\/∃a b ys,x=.ref a/\y=.ref b/\SqT K H a []/\SqT K H b ys/\Q (.ref b) H
def qk (hK:X.K=K:=by rfl):OpR X (binaryOp .Add) (Bd K):=by
 subst hK;intro pins s c H x y v u Q I rx ry h;rcases h with h|⟨a,b,ys,rfl,rfl,ha,hb,q⟩
 .show CY pins s c H x y v u Q I rx ry h
 .cases rx;cases ry;obtain ⟨its,r1,⟨⟨c1,d1,t1,O⟩,o1,a3,n1,a4⟩,_⟩:=I.tuple ha;obtain ⟨a7,r2,⟨⟨c2,d2,t2,a5⟩,o2,a6,n2,a0⟩,_⟩:=I.tuple hb;cases r1;subst a3 a4 a6 a0;show concat_meets ⟨_,o1,rfl⟩ ⟨_,o2,rfl⟩ qX8 seq_tuple_add qR9 qR4 (qQ6 ..) (xU a b _ n1 n2 d1 d2 O a5) ⟨o1,o2,.ref b,H,I,rfl,q⟩
noncomputable def fCatT:W->W->R W
 | .tup us,.tup vs=>if us.length+vs.length<=1000/\m5 us=true/\m5 vs=true then .ok (.tup (us++vs)) else .stuck
 |_,_=>.stuck
def qp:Op2 K .B .F (Bd K) fCatT:=by
 intro EX H0 Hs G H b a Ha Hb x y u v Q I s mx my o;cases u <;> first|show o.elim|skip
 all_goals (cases v <;> first|show o.elim|skip)
 rename_i us vs
 replace o:Out EX G H (mdW K .F H0 Hs) (if us.length+vs.length<=1000/\_=true/\_=true then _ else _) Q:=o
 by_cases hn:us.length+vs.length<=1000/\m5 us=true/\m5 vs=true
 .rw [qA2 hn]at o
  obtain ⟨hz,n1,n2⟩:=hn;rcases mx with mx|⟨_,_,_,_,e2,_⟩
  .rcases my with my|⟨_,_,_,_,e2,_⟩
   .have cx:=Rep.clean I mx (by simpa [noL]using n1);have cy:=Rep.clean I my (by simpa [noL]using n2);cases cx with
    | tup ha O=>
     cases cy with
     | tup hb rb=>
      have l1:=O.length;have l2:=rb.length;by_cases he:us = []
      .subst he;cases O;show .inr ⟨_,_,_,rfl,rfl,SqT.of (I.gh _ _ ha),SqT.of (I.gh _ _ hb),o _ G H (Ext.refl I.gh) (.tup hb rb)⟩
      .refine .inl ⟨_,_,_,_,rfl,rfl,SqT.of (I.gh _ _ ha),SqT.of (I.gh _ _ hb),λz=>?_,by rw[l1,l2];show X5 hz,λz=>?_,λ_ p hp=>?_⟩
       .grind
       .subst z;cases rb;rw[qG0]at o;show o _ G H (Ext.refl I.gh) (.tup ha O)
       .show Out.newTF I (O.append rb) hp o
   .cases e2
  .cases e2
 .rw[qA8 hn]at o;show o.elim
end TP
namespace L2
open PySem PySem.Spec PyProof.Rows
end L2
namespace TP
open PySem L2
end TP
namespace HT
open PySem PyProof.Rows
def getItem_tuple_all {lo:Vx}(O:IsTup s.heap t items) (hs:s.heap.IsSliceOf sl vl vu .none) (pl:IsPart vl lo) (pu:IsPart vu hi) (hw:sIx items.size 0 lo=0/\sIx items.size items.size hi=items.size) (h:Q (.ref t) s) (hsz:items.size<=sizeLine):wpAny (model prog w) A (getItem (.ref t) (.ref sl)) Q E s:=by
 obtain ⟨os,a4,a0,a6⟩:=id hs;have a3:s.TypeIs (.ref sl) "slice" := ⟨os,a4,a0⟩;unfold getItem
 try with_reducible refine qN6 ?_
 refine qA0 (wpAny_sequenceKey O.typeIs ZQ ?_);refine qA0 (qO3 O.typeIs qI5
  (qO8 qI5 O.typeIs entry_tuple_getitem ?_ (args_tuple_getitem ..)))
 change wpAny _ _ (Builtin.Tuple.tupleItemsOf _>>=_) _ _ s;refine qA0 (tupleItemsOf_ O ?_);refine qA0 (qY0 a3 ?_);refine qA0 (Y2 hs pl pu ?_);have a5:(((sIx items.size 0 lo):Int) == 0&&(1:Int) == 1&&sIx items.size items.size hi-sIx items.size 0 lo == items.size)=true:=by
  rw[hw.1,hw.2];simp
 change wpAny _ _ (if _=true then _ else _) _ _ s;unfold Builtin.Tuple.tupleIsExact
 wp_walk using qY0 O.typeIs
 show ⟨_,rfl,qN2 h⟩
end HT
namespace TP
open PySem L2
def yJ (K:Frag):V->Option Int->Option Int->Hp->VK->Prop:=λx lo hi H Q=>∃a xs,x=.ref a/\SqT K H a xs/\(HT.sIx xs.length 0 lo=0/\HT.sIx xs.length xs.length hi=xs.length)/\Q (.ref a) H
def Cc:L2.SlR X (yJ X.K):=by
 intro pins s b H x v vl vu lo hi sl Q I rx hs pl pu h;obtain ⟨a,xs,rfl,hx,hw,q⟩:=h;cases rx;obtain ⟨its,r,O,hz⟩:=I.tuple hx;have hlen:its.toArray.size=xs.length:=by show r.length.symm
 refine ⟨"tuple",_,PyProof.Rows.slot_tuple_getitem.lookup,O.typeIs,?_⟩;show HT.getItem_tuple_all O hs pl pu (by rw[hlen];show hw) ⟨.ref a,H,I,rfl,q⟩ (by rw[hlen];show hz)
def GH (K:Frag):V->Option Int->Option Int->Hp->VK->Prop:=λx lo hi H Q=>GF K x lo hi H Q\/yJ K x lo hi H Q
def Cb:L2.SlR X (GH X.K):=L2.SlR.or FG Cc
def Rst (x:R W) (l u:R Vx):R W:=x>>=λx=>l>>=λl=>u>>=λu=>(match x with
 | .tup ws=>if m5 ws=true then .ok (.tup (L3 ws l u)) else .stuck
 |_=>.stuck)
def rM (m:Zj)(O mh:Rho->R Vx):Zj:=λa=>Rst (m a) (O a) (mh a)
def Ax (h:HT.sIx ws.length 0 lo=0/\HT.sIx ws.length ws.length hi=ws.length):L3 ws lo hi=ws:=by
 grind[L3]
def LT (h:tM K EX .F (rM m ml mh) c H Q):tSl (GH K) (tM K EX .B m) (V4 K EX ml) (V4 K EX mh) c H Q:=by
 obtain ⟨H0,G,b,I,o⟩:=h;refine ⟨H0,G,b,I,Out.bind o λx G1 H1 w e1 m1 o1=>⟨H0,G1,b,I.ext e1,Out.bind o1 λl' G2 H2 l e2 m2 o2=>⟨H0,G2,b,(I.ext e1).ext e2,Out.bind o2 λu' G3 H3 u e3 m3 O=>?_⟩⟩⟩;subst m2;subst m3;have I3:=((I.ext e1).ext e2).ext e3;cases w <;> first|show O.elim|skip
 rename_i ws
 dsimp at O;by_cases hn:m5 ws=true
 .rw [qA2 hn]at O
  have mx:=(m1.move e2).move e3;rcases mx with mx|⟨_,_,_,_,z,_⟩
  .have cx:=Rep.clean I3 mx (by simpa [noL]using hn);cases cx with
   | tup ha ra=>
    rename_i a vs
    have l1:=ra.length;by_cases hw:HT.sIx vs.length 0 l'=0/\HT.sIx vs.length vs.length u'=vs.length
    .refine .inr ⟨a,vs,rfl,SqT.of (I3.gh _ _ ha),hw,?_⟩;rw[Ax (by rw[<- l1];show hw)]at O;show O _ G3 H3 (Ext.refl I3.gh) (.tup ha ra)
    .show .inl ⟨a,vs,rfl,SqT.of (I3.gh _ _ ha),hw,λp hp=>Out.newTF I3 (ra.cut l' u') hp O⟩
  .cases z
 .rw[qA8 hn]at O;show O.elim
def KU (he:PE X e (tM K EX .B ma)) (O:PO X lo (V4 K EX ml)) (hu:PO X hi (V4 K EX mh)) (hK:X.K=K:=by rfl):PE X (.Subscript e (.Slice lo hi none p2) pos) (tM K EX .F (rM ma ml mh)):=by
 subst hK;show (mN Cb he O hu).mono λ_ _ _ q=>LT q
def pE m O mh a:rM m O mh a=Rst (m a) (O a) (mh a):=rfl
def KA (h:m5 ws=true) l u:Rst (.ok (.tup ws)) (.ok l) (.ok u)=.ok (.tup (L3 ws l u)):=by
 change (if _=true then _ else _)=_;rw[qA2 h]
noncomputable def dI:W->Option VW
 | .tup ws=>x5 ws
 |_=>none
def ij ns:dI (.tup (ns.map W.int))=some ns:=ints_map ns
noncomputable abbrev Z2 (k:VW):List Key:=k.map Sum.inl
theorem nQ (e:Z2 a=Z2 b):a=b:=by
 have:=congrArg (List.map λx=>match x with | .inl i=>i|_=>0) e
 simpa [qW6]using this
def Ib k:(Z2 k).map kV=k.map V.int:=by rw[qC0];rfl
def qG (r:Rep K F v w) (e:dI w=some k):∃b,v=.ref b/\F b=some (.tup ((Z2 k).map kV)):=by
 cases r <;> first|cases e|skip
 rename_i a vs ws h r
 refine ⟨a,rfl,?_⟩;rw[Ib,<- Reps.ints r e];show h
def nN (I:PIv K H0 G d c H) (m:Md K H0 Hs G H v w .B) (e:dI w=some k):∃b,v=.ref b/\H b=some (.tup ((Z2 k).map kV)):=by
 rcases m with r|⟨a,vs,ws,_,rfl,_⟩
 .obtain ⟨b,O,e2⟩:=qG r e;show ⟨b,O,I.join_H _ _ e2⟩
 .cases e
def any_keys {kvs:List (List Key×V)}{ks:VV}(hk:kvs.map (·.1)=ks.map λk=>k.map Sum.inl):(kvs.any λO=>decide (O.1=Z2 k))=decide (k∈ks):=by
 rw[qK3,qY8,qP0];constructor
 .rintro ⟨p,hp,q⟩
  have:p.1∈ks.map λk=>k.map Sum.inl:=by grind
  grind[nQ]
 .intro h
  have:Z2 k∈kvs.map (·.1):=by grind
  grind
noncomputable def oO (ks:VV)(k:VW):List VW:=if k∈ks then ks else ks ++ [k]
def zN (hk:kvs.map (·.1)=ks.map λk=>k.map Sum.inl):(putK kvs (Z2 k) v).map (·.1)=(oO ks k).map λk=>k.map Sum.inl:=by
 unfold putK oO;rw[any_keys hk];by_cases h:k∈ks
 .rw [qA2 (qN4 h),qA2 h,<- hk,qC0]
  refine qD1 λp _=>?_
  change (if p.1=_ then _ else p).1=p.1
  split <;> rfl
 .rw[qA8 (by simpa using h),qA8 h,qC7,qC7,hk];rfl
def PIv.updD (I:PIv K H0 G d c H) (ha:H a=some (.dT kvs)) (hg:G a=none) (h0:H0 a=none) (nd:∀(j:Nat) ks,d[j]?=some (.dic ks)->c[j]?≠some (some (.ref a))):PIv K H0 G d c (upd H a (.dT kvs')):=by
 refine ⟨I.g0,I.gl,λb o q=>by rw[c7 (i0 q hg)];show I.gh b o q,λb o q=>by rw[c7 (i0 q h0)];show I.hh b o q,I.len,λj x o h1 h2=>?_,I.ne⟩
 have:=I.sl j x o h1 h2
 cases x with
 | own us=>
  obtain ⟨b,a4,eb,hb,O,a0,rb⟩:=this;have a3:b≠a:=by
   omega
  show ⟨b,a4,eb,by rw[c7 a3];show hb,O,a0,rb⟩
 | dic ks=>
  obtain ⟨b,a4,eb,hb,O,a0,rb⟩:=this;subst eb;have a3:b≠a:=by
   rintro rfl;show nd j ks h1 h2
  show ⟨b,a4,rfl,by rw[c7 a3];show hb,O,a0,rb⟩
 | dik ks=>
  obtain ⟨b,a4,eb,hb,O,a0,rb⟩:=this;have a3:b≠a:=by
   omega
  show ⟨b,a4,eb,by rw[c7 a3];show hb,O,a0,rb⟩
 |un=>show this
 |val _=>show this
 |par _=>show this
 |iop _ _=>show this
 |hz _=>show this
def PIv.setD (I:PIv K H0 G e d H) (ha:H a=some (.dT kvs)) (hg:G a=none) (h0:H0 a=none) (hk:kvs.map (·.1)=ks.map λk=>k.map Sum.inl):PIv K H0 G (e.set i (.dic ks)) (d.set i (some (.ref a))) H where
 g0:=I.g0
 gl:=I.gl
 gh:=I.gh
 hh:=I.hh
 len:=by rw[qF1,qF1];show I.len
 sl j x o h1 h2:=by
  by_cases O:i=j
  .subst O;rw[qD6]at h1 h2;simp only [qN8]at h1 h2
   split at h1 <;> split at h2 <;> simp [reduceCtorEq]at h1 h2
   subst h1;subst h2;show ⟨a,kvs,rfl,ha,hg,h0,hk⟩
  .rw[qB6 O]at h1 h2;show I.sl j x o h1 h2
 ne a b ws us c hab h1 h2 h3 h4:=by
  have na:i≠a:=by
   rintro rfl;rw[qD6]at h1;simp only [qN8]at h1
   split at h1 <;> simp at h1
  have nb:i≠b:=by
   rintro rfl;rw[qD6]at h2;simp only [qN8]at h2
   split at h2 <;> simp at h2
  rw[qB6 na]at h1 h3;rw[qB6 nb]at h2 h4;show I.ne a b ws us c hab h1 h2 h3 h4
def PIv.dic_at {i:Nat}(I:PIv K H0 G c b H) (e:c[i]?=some (.dic ks)):∃a kvs,b[i]?=some (some (.ref a))/\H a=some (.dT kvs)/\G a=none/\H0 a=none/\kvs.map (·.1)=ks.map λk=>k.map Sum.inl:=by
 have hi:i<b.length:=by rw[<- I.len];show (qA7.mp e).1
 have es:b[i]?=some b[i]:=ZZ;obtain ⟨a,kvs,O,r⟩:=I.sl i _ _ e es;show ⟨a,kvs,by rw[es,O],r⟩
noncomputable def cj:Sl->Bool
 | .dic _=>true
 |_=>false
noncomputable def lm (a:Rho):Bool:=a.all λs=>!cj s
def zu {a:Rho}(h:lm (a.set i .un)=true) (hj:i≠j):a[j]?≠some (.dic ks):=λe=>by
 have O:(a.set i .un)[j]?=some (.dic ks):=by rw[qB6 hj];show e
 have:=qH5.mp h _ (qD7 O)
 simp [cj]at this
def PIv.dic_upd (I:PIv K H0 G d f H) (e:d[i]?=some (.dic ks)) (es:f[i]?=some (some (.ref a))) (one:lm (d.set i .un)=true) (hk:kvs'.map (·.1)=ks'.map λk=>k.map Sum.inl):
  PIv K H0 G (d.set i (.dic ks')) f (upd H a (.dT kvs')):=by
 obtain ⟨a',kvs,ev,ha,hg,h0,_⟩:=I.sl i _ _ e es;cases ev;refine ⟨I.g0,I.gl,λb o q=>by rw[c7 (i0 q hg)];show I.gh b o q,λb o q=>by rw[c7 (i0 q h0)];show I.hh b o q,by rw[qF1];show I.len,λj x o O h2=>?_,λp q a7 us c a6 O h2 h3 h4=>?_⟩
 .by_cases hj:i=j
  .subst hj;rw[qD6]at O;simp only [qN8]at O
   split at O <;> simp [reduceCtorEq]at O
   subst O;rw[es]at h2;cases h2;show ⟨a,kvs',rfl,j7,hg,h0,hk⟩
  .rw [qB6 hj]at O
   have:=I.sl j x o O h2
   cases x with
   | own us=>
    obtain ⟨b,a5,eb,hb,a0,a3,rb⟩:=this;have a4:b≠a:=by
     omega
    show ⟨b,a5,eb,by rw[c7 a4];show hb,a0,a3,rb⟩
   |dic ls=>show absurd O (zu one hj)
   | dik ks=>
    obtain ⟨b,a5,eb,hb,a0,a3,rb⟩:=this;have a4:b≠a:=by
     omega
    show ⟨b,a5,eb,by rw[c7 a4];show hb,a0,a3,rb⟩
   |un=>show this
   |val _=>show this
   |par _=>show this
   |iop _ _=>show this
   |hz _=>show this
 .have na:i≠p:=by
   rintro rfl;rw[qD6]at O;simp only [qN8]at O
   split at O <;> simp at O
  have nb:i≠q:=by
   rintro rfl;rw[qD6]at h2;simp only [qN8]at h2
   split at h2 <;> simp at h2
  rw[qB6 na]at O;rw[qB6 nb]at h2;show I.ne p q a7 us c a6 O h2 h3 h4
noncomputable def inD (o:Option Sl) (w:W) (neg:Bool):R Bool:=match o with
 | some (.dic ks)=>(match dI w with
  |some k=>.ok (if neg then !decide (k∈ks) else decide (k∈ks))
  |none=>.stuck)
 |_=>.stuck
def mIn (neg:Bool)(i:Nat)(O:Zj):Zk:=λa=>O a>>=λw=>inD a[i]? w neg
def Mj (h:tT K EX (mIn false i mk) c H Q):tB (Fy (tM K EX .B mk) (R3 i)) c H Q:=by
 obtain ⟨H0,G,d,I,o⟩:=h;refine ⟨H0,G,d,I,Out.bind o λy G1 H1 w e1 m1 O=>?_⟩;have I1:=I.ext e1;unfold inD at O
 split at O
 .rename_i ks e
  split at O
  .rename_i k ek
   obtain ⟨a,kvs,es,ha,hg,h0,hk⟩:=I1.dic_at e;obtain ⟨b,rfl,hb⟩:=nN I1 m1 ek;refine ⟨_,es,a,_,rfl,DGet.t ha hb,_,rfl,?_⟩;rw[<- fE,any_keys hk];show O _ G1 H1 (Ext.refl I1.gh) rfl
  .show O.elim
 .show O.elim
noncomputable def putD (ks:VV) (i:Nat) (w:W) (a:Rho):R Fl:=match dI w with
 |some k=>if lm (a.set i .un)=true/\ks.length<1000 then .ok (.nx (a.set i (.dic (oO ks k)))) else .stuck
 |none=>.stuck
def lx (o:Option Sl) (O rk:R W) (i:Nat) (a:Rho):R Fl:=match o with
 |some (.dic ks)=>O>>=λ_=>rk>>=λw=>putD ks i w a
 |_=>.stuck
def ig (i:Nat)(O me:Zj):Zv:=λa=>lx a[i]? (me a) (O a) i a
def Kf (h:tSt K EX d (ig i mk me) D c H):AY (R3 i) (tM K EX .B mk) (tM K EX .B me) D c H:=by
 obtain ⟨H0,G,f,I,o⟩:=h;unfold ig lx at o
 split at o
 .rename_i ks e
  refine ⟨H0,G,f,I,OutS.bind I o λv G1 H1 w1 e1 m1 o1=>?_⟩;have I1:=I.ext e1;obtain ⟨a,kvs,es,ha,hg,h0,hk⟩:=I1.dic_at e;refine ⟨_,es,H0,G1,f,I1,OutS.bind I1 o1 λy G2 H2 w e2 m2 O=>?_⟩;have I2:=I1.ext e2;unfold putD at O
  split at O
  .rename_i k ek
   split at O
   .rename_i hc
    obtain ⟨b,rfl,hb⟩:=nN I2 m2 ek;have hl:kvs.length=ks.length:=by have:=congrArg List.length hk;simpa using this
    refine ⟨a,_,rfl,DPut.t (e2.hh a _ ha) hb (qB4 (show kvs.length<1000 by omega) ZQ),?_⟩;show O G2 c _ (Same.refl _) (I2.dic_upd e es hc.1 (zN hk))
   .show O.elim
  .show O.elim
 .show o.elim
noncomputable def newD (i:Nat) (w:W) (a:Rho):R Fl:=match dI w with
 |some k=>.ok (.nx (a.set i (.dic [k])))
 |none=>.stuck
def ln (i:Nat)(O me:Zj):Zv:=λa=>O a>>=λw=>me a>>=λ_=>newD i w a
def pL (tk O:TE):TE:=λa H Q=>∀p,H p=none->tk a (upd H p (.dT [])) λx H1=>O a H1 λy H2=>H2 p=some (.dT [])/\∃b k,x=.ref b/\H2 b=some (.tup (k.map kV))/\Q (.ref p) (upd H2 p (.dT [(k,y)]))
def Kg (h:tSt K EX d (ln i mk me) D f H):bK (pL (tM K EX .B mk) (tM K EX .B me)) (Q5 i) D f H:=by
 obtain ⟨H0,G,a,I,o⟩:=h;intro p hp;have a5:G p=none:=by
  cases q:G p with
  |none=>rfl
  |some u=>rw[I.gh p u q]at hp;cases hp
 have a3:H0 p=none:=by
  cases q:H0 p with
  |none=>rfl
  |some u=>rw[I.hh p u q]at hp;cases hp
 have su:Same H (upd H p (.dT [])):=λb u q=>by rw[c7 (i0 q hp)];show q
 have x0:Ext G H G _:=⟨Same.refl G,su,I.gh.trans su,λ_ _ _ _ e=>e⟩;have I0:=I.ext x0;have o':=o;refine ⟨H0,G,a,I0,OutS.bind I0 o' λx G1 H1 w O m1 o1=>?_⟩;have I1:=I0.ext O;refine ⟨H0,G1,a,I1,OutS.bind I1 o1 λy G2 H2 w2 e2 m2 o2=>?_⟩;have I2:=I1.ext e2;have a0:=e2.hh p _ (O.hh p _ j7);have a4:=e2.keep p _ (O.hh p _ j7) rfl (O.keep p _ j7 rfl a5);refine ⟨a0,?_⟩;unfold newD at o2
 split at o2
 .rename_i k ek
  obtain ⟨b,rfl,hb⟩:=nN I1 m1 ek;refine ⟨b,_,rfl,e2.hh b _ hb,?_⟩;refine o2 G2 _ _ (Same.refl _) (PIv.setD (I2.updD a0 a4 a3 λj ks O e2=>?_) j7 a4 a3 rfl);obtain ⟨c,kvs,ec,hc,_⟩:=I.sl j _ _ O e2;omega
 .show o2.elim
def vz (hu:X.A.units+1<cLine) (hk:PE X k tk) (hv:PE X v tv):PE X (.Dict [some k] [v] pos) (pL tk tv):=by
 intro pins s a H Q I q;have hn:=I.hok.fresh (qB3 _);have I1:=I.laid (o:=_) (t':=s.toks) (λ_ _ q=>qA1 _ q) (qB3 _) (As _ I.big);refine wpAny_Dict_any rfl rfl ZZ (Nat.le_of_ble_eq_true rfl) ?_;refine pairTrees_cons_walk (thn (hk pins _ a _ _ I1 (q _ hn)) λu s1 ⟨x,H1,I2,rx,q1⟩=>thn (hv pins s1 a H1 _ I2 q1) λw2 s2 ⟨y,H2,I3,ry,e,b,kk,ex,eb,q2⟩=>pairTrees_nil_walk ?_);subst ex;obtain rfl:=rx;obtain ⟨z,hd,xs,O,dd⟩:=Bw I3.hok e;cases O;unfold storeAll;rw[qT7];refine qA0 (qA0 (wpAny_dictSet_heap (hsz:=qC6 _) (qM4 hu) (dH I3.hok eb) dd λh' a0 hs=>qN2 ?_))
 change wpAny _ _ (forIn [] _ _) ..;refine qN2 ⟨.ref _,_,?_,rfl,q2⟩;obtain ⟨qo,es,ep,hq,h2,h3,h4,_,h5⟩:=a0;refine jE I3 (by rw[e];show True.intro) hs ⟨qo,hq⟩ ⟨Nat.succ_le_of_lt ZQ,hd,_,(KT.put (kvs:=[]) .nil kk eb ry).keeps λc ys ec=>?_,qo,es,ep,hq,h2,h3,h4,h5⟩
 grind[c7]
def GW {X}{K}{EX}{d}{k v}{pos}{mk me:Zj}{i}{x}{pos' O}(hu:X.A.units+64<cLine) (hN:X.N.Nodup) (hi:X.N[i]?=some x) (hx:Loc X.env.scope x) (hk:PE X k (tM K EX .B mk)) (hv:PE X v (tM K EX .B me)) (hs:swapsWith (.Dict [some k] [v] pos) (some (.Name x pos')) O.line X.env=pure false:=by rfl) (hf:X.fn x=true\/X.env.scope.names.lookup x=some .local:=by first|show Or.inl rfl|show Or.inr rfl|assumption):
  PS X (.Assign [.Name x pos'] (.Dict [some k] [v] pos) O) (tSt K EX d (ln i mk me)):=(gO hN hi hx (vz ox hk hv) hs hf).mono λ_ _ _ q=>Kg q
def La {X}{K}{EX}{k}{pos}{mk:Zj}{i}{x}{p}(hu:X.A.units+64<cLine)(hN:X.N[i]?=some x)(hv:Vis X.env.scope x)(hk:PE X k (tM K EX .B mk))(hd:(x == ("__debug__"))=false:=by decide)(O:(x == ("__classdict__"))=false:=by decide)(hm:behindInMarks .In (.Name x p)=false:=by rfl):PT X (.Compare k [.In] [.Name x p] pos) (tT K EX (mIn false i mk)):=(Hk (HB ox hk (P8 hN hv hd O)) hm).mono λ_ _ _ q=>Mj q
def GV {X}{K}{EX}{d}{e k}{pos}{mk me:Zj}{i}{x}{p p2}(hu:X.A.units+64<cLine)(hN:X.N[i]?=some x)(hv:Vis X.env.scope x)(hk:PE X k (tM K EX .B mk))(he:PE X e (tM K EX .B me))(hd:(x == ("__debug__"))=false:=by decide)(O:(x == ("__classdict__"))=false:=by decide)(hs:swapsWith e (some (.Subscript (.Name x p) k p2)) pos.line X.env=pure false:=by rfl):PS X (.Assign [.Subscript (.Name x p) k p2] e pos) (tSt K EX d (ig i mk me)):=(CK ox (P8 hN hv hd O) hk he hs).mono λ_ _ _ q=>Kf q
set_option maxHeartbeats 2000000
def wo neg i O a:mIn neg i O a=O a>>=λw=>inD a[i]? w neg:=rfl
def wM ks(k:VW):inD (some (.dic ks)) (.tup (k.map W.int)) false=.ok (decide (k∈ks)):=by unfold inD;rw[ij];rfl
def nG i O me a:ig i O me a=lx a[i]? (me a) (O a) i a:=rfl
def ge ks w k i a (h:lm (a.set i .un)=true) (O:ks.length<1000):lx (some (.dic ks)) (.ok w) (.ok (.tup (k.map W.int))) i a=.ok (.nx (a.set i (.dic (oO ks k)))):=by
 change putD ks i _ a=_;unfold putD;rw[ij];show qA2 ⟨h,O⟩
def zG i O me a:ln i O me a=O a>>=λw=>me a>>=λ_=>newD i w a:=rfl
def Di i(k:VW)a:newD i (.tup (k.map W.int)) a=.ok (.nx (a.set i (.dic [k]))):=by unfold newD;rw[ij]
theorem n9 {i j}(O:PA X es (tA K EX d mr)):PA X (.Constant (.int i) j p::es) (tA K EX d (aC (mC (.int i)) mr)):=a8 c8 O Zo
def GT {a0 a1 a2 a3 a4 a5}{u0 u1 u2 u3 u4 u5}:PE X (.List [.Constant (.int a0) u0 p0,.Constant (.int a1) u1 p1,.Constant (.int a2) u2 p2,.Constant (.int a3) u3 p3,.Constant (.int a4) u4 p4,.Constant (.int a5) u5 p5] pos) (tM K EX .F (K0 (aC (mC (.int a0)) (aC (mC (.int a1)) (aC (mC (.int a2)) (aC (mC (.int a3)) (aC (mC (.int a4)) (aC (mC (.int a5)) aN)))))))):=by
 refine L7 ?_;refine n9 ?_;refine n9 ?_
 grind[n9,b7]
def GS {a0 a1 a2 a3 a4 a5 a6}{u0 u1 u2 u3 u4 u5 u6}:PE X (.List [.Constant (.int a0) u0 p0,.Constant (.int a1) u1 p1,.Constant (.int a2) u2 p2,.Constant (.int a3) u3 p3,.Constant (.int a4) u4 p4,.Constant (.int a5) u5 p5,.Constant (.int a6) u6 p6] pos) (tM K EX .F (K0 (aC (mC (.int a0)) (aC (mC (.int a1)) (aC (mC (.int a2)) (aC (mC (.int a3)) (aC (mC (.int a4)) (aC (mC (.int a5)) (aC (mC (.int a6)) aN))))))))):=by
 refine L7 ?_;refine n9 ?_;refine n9 ?_;refine n9 ?_
 grind[n9,b7]
end TP
namespace TB
open PySem PySem.W
def bits_of {ns:VW}(h:WData.layableAll [WData.list (ns.map WData.int)]=true):∀x∈ns,Builtin.Int.intBits x<=1048576:=λx hx=>by
 have O:(WData.list (ns.map WData.int)).layable=true:=by simpa [WData.layableAll]using h
 have h2:=(layableW_iff.mp O).2.2;have key:∀ms:List Int,x∈ms->Builtin.Int.intBits x<=WData.weightAll (ms.map WData.int):=by
  intro ms
  induction ms with
  |nil=>intro z;cases z
  | cons m ms ih=>
   intro z
   change _<=_+1+_;rcases qC4.mp z with e|e
   .have:WData.weight (.int x)=Builtin.Int.intBits x:=Zo
    omega
   .omega
 show qD3 (key ns hx) (by simpa [WData.weight]using h2)
end TB
namespace Att
open PySem PySem.W PySem.Calls PyProof.Rows
def attach_callB {l:OpenLaw}(hn:l.most=some n) (a7:d.params.defaults = []) (call:∀ w s₀ O (mg mb:Vv) fa o pm cd doc a (vs:Vy) (ns:VW),
   Ground q loose [] XP w s₀ mg mb O.heap->YP w O.heap ->
   O.heap.get? fa=some o->o.data=.func (docDef d.name d.params d.body d.scope pm cd doc)->O.heap.CodeRec cd d.name->mg d.name=some (.ref fa) ->
   O.heap.get? a=some { cls:=.type "list",data:=.seq vs.toArray }->IntsAre vs ns->ns.length<=n->(∀x∈ns,Builtin.Int.intBits x<=1048576)->O.gens=#[] ->
   codeAny (model l.prog w) callerA (.call (.ref fa) ⟨[.ref a],[]⟩) (λr s'=>r=.ok (.ret (.bool true))/\OldK O.heap s'.heap/\s'.os=O.os/\AllBare s'.gens) O):
  WalkO q loose XP YP l.row.toRowW d [] (λf vs=>PySem.call f vs):=by
 intro w s₀ O mg mb G Y fa o pm cd doc dV kV ho hd a6 hD ab hg args vals as a3 a0 b3 a5 b0;obtain rfl:=Dflts.none hD a7;obtain rfl:=Dflts.noKw hD;obtain ⟨a,vs,ns,rfl,rfl,a4,hints,hlen⟩:=uP hn a3 a5;refine enter_call (qT2 (call w s₀ O mg mb fa o pm cd doc a vs ns G Y ho (fd_plain hd) a6 ab a4 hints hlen (TB.bits_of a0) hg) λr s' hq=>?_);obtain ⟨rfl,h2,h3,h4⟩:=hq;show ⟨.inl ⟨_,_,[],rfl,λ_=>rfl,.bool true,vq l _,λ_=>⟨List.Pairwise.nil,λ_ hm=>nomatch hm⟩⟩,h2,h3,h4⟩
end Att
namespace L2
open PySem PySem.Spec PyProof.Rows
def xJ {l:PySem.W.OpenLaw}{K:Params->Frag}{CX:World->CXT}{sp:World->Sp}(hn:l.most=some n) (ab:n<=sizeLine) (a6:d.params.defaults = []) (hr:Room k callerA) (hY:∀ w h,YP w h->(K w.params).In h) (hT:∀(w:World) (h:Heap),YP w h->∀p∈lamT,h.get? p.1=some { cls:=.none,data:=.fields #[] }/\isCodeTable h p.1/\(K w.params).lookup p.1=none/\lamT.lookup p.1=some p.2) (F:∀ w (mg:Vv) fa h,(K w.params).In h->h.Ns mainGlobals mg->mg d.name=some (.ref fa) ->
   ∃ fd:FuncData,(∀ s u,BindsTo s fd ⟨[u],[]⟩ [(x,u)]) /\
    ∀base:Heap,(K w.params).In base->base.Ns mainGlobals mg->FnOk l.prog w (K w.params) mg base (CX w) k fa fd [x] (sp w)) (a3:∀ w H a (ns:VW),ns.length<=n->(∀x∈ns,Builtin.Int.intBits x<=1048576)->tY H->SqL (K w.params) H a (ns.map V.int)->sp w [.ref a] H (λv _=>v=.bl true) λ_ _ _=>False) (a5:∀ w H s e s',CX w [] H s (λ_ _ _=>False) e s'->False):
  PySem.W.WalkO q loose XP YP l.row.toRowW d [] (λf vs=>PySem.call f vs):=by
 refine Att.attach_callB hn a6 λw s₀ O mg mb fa o pm cd doc a vs ns G Y ho hd b0 a7 a0 hints hlen a4 hg=>?_;have KX:=hY w _ Y;obtain ⟨fd,hb,hF⟩:=F w mg fa _ KX G.T.g a7;show zL KX G.T.g G.T.b G.T.builtins G.T.nolimit hg G.T.bmain (hT w _ Y) a0 hints (qD3 hlen ab) hr hF hb (λH hO hS=>a3 w H a ns hlen a4 hO hS) λH e s'=>a5 w H O e s'
def walk_ofKB {l:PySem.W.OpenLaw}{K:Params->Frag}{sp:Frag->Sp}(hn:l.most=some n) (a4:n<=sizeLine) (a3:d.params.defaults = []) (hr:Room k callerA) (hY:∀ w h,YP w h->(K w.params).In h) (hT:∀(w:World) (h:Heap),YP w h->∀p∈lamT,h.get? p.1=some { cls:=.none,data:=.fields #[] }/\isCodeTable h p.1/\(K w.params).lookup p.1=none/\lamT.lookup p.1=some p.2) (F:∀ w (mg:Vv) fa h,(K w.params).In h->h.Ns mainGlobals mg->mg d.name=some (.ref fa) ->
   ∃ fd:FuncData,(∀ s u,BindsTo s fd ⟨[u],[]⟩ [(x,u)]) /\
    ∀base:Heap,(K w.params).In base->base.Ns mainGlobals mg->FnOk l.prog w (K w.params) mg base CX k fa fd [x] (sp (K w.params))) (O:∀ K H a (ns:VW),ns.length<=n->(∀x∈ns,Builtin.Int.intBits x<=1048576)->tY H->SqL K H a (ns.map V.int)->sp K [.ref a] H (λv _=>v=.bl true) λ_ _ _=>False) (a0:∀ H s e s',CX [] H s (λ_ _ _=>False) e s'->False):
  PySem.W.WalkO q loose XP YP l.row.toRowW d [] (λf vs=>PySem.call f vs):=
 xJ (CX:=_) hn a4 a3 hr hY hT F (λw H a ns h1 hb h2 h3=>O _ H a ns h1 hb h2 h3) λ_ H s e s'=>a0 H s e s'
end L2
namespace TP
open PySem L2
def CMulB (i j:Int):Prop:=CMul i j\/Builtin.Int.intBits i+Builtin.Int.intBits j<=134217728
instance (i j:Int):Decidable (CMulB i j):=by unfold CMulB;infer_instance
def CMulB.ok (h:CMulB i j):IntMulOk i j:=by
 rcases h with h|h
 .show h.ok
 .show IntMulOk.of_le (qB3 _) (qB3 _) h
def t7:OpR X (binaryOp .Mult) (rI CMulB λi j=>.int (i*j)):=opI λ_ _ _ _ _ _ _ hc q=>PyProof.Rows.mul_int q hc.ok
def vX {i j}(h:-18446744073709551616<i/\i<18446744073709551616):fI CMulB j9 (.int i) (.int j)=.ok (.int (i*j)):=by
 show qA2 (.inl (.inl h))
def U9 {i j}(h:-18446744073709551616<j/\j<18446744073709551616):fI CMulB j9 (.int i) (.int j)=.ok (.int (i*j)):=by
 show qA2 (.inl (.inr h))
def bp {i j}(h:Builtin.Int.intBits i+Builtin.Int.intBits j<=134217728):fI CMulB j9 (.int i) (.int j)=.ok (.int (i*j)):=by
 show qA2 (.inr h)
def DK (G:FnOk P w K mg base CX0 k f fd ps (spM K 1 d F)) (h:∀ns:List Int,ns.length<=63->(∀x∈ns,Builtin.Int.intBits x<=1048576)->F [.scr (ns.map W.int)]=.ok (.bl true)):FnOk P w K mg base CX0 k f fd ps (λvs H Q _=>∃(a:Addr) (ns:VW),vs = [.ref a]/\SqL K H a (ns.map V.int)/\ns.length<=63/\(∀x∈ns,Builtin.Int.intBits x<=1048576)/\∀H',Q (.bl true) H'):=
 G.imp λvs H Q E O=>by
  obtain ⟨a,ns,e,hs,hl,hb,q⟩:=O;subst e;refine ⟨rfl,[.scr (ns.map W.int)],.cons (.scr hs ?_) .nil,?_⟩
  .clear hs hl hb
   induction ns with
   |nil=>show .nil
   |cons n ns ih=>show .cons .int ih
  .rw [h ns hl hb]
   intro v G' H' _ _ _ m;have e:v=.bl true:=by
    cases d <;> first | (cases m;rfl) | (rcases m with m|⟨_,_,_,_,z,_⟩ <;> first | (cases m;rfl)|cases z)
   subst e;show q H'
end TP
namespace TL
open PySem
def HJ:typeLookup (.type "list_reverseiterator") "__len__" = pure none:=ZY
def zZ:typeLookup (.type "list_reverseiterator") "__length_hint__" = pure (some (.builtin "list_reverseiterator.__length_hint__")):=ZY
def sub_self:isSubtype (.type "list_reverseiterator") (.type "list_reverseiterator")=pure true:=ZY
def zX (a3:s.heap.IsRevIter I l i) (h:Q false s):wpAny (model prog w) A (Builtin.List.listLengthHint (.ref I)) Q E s:=by
 have hT:=a3.typeIs;refine qA0 (wpAny_specialOf hT HJ ?_);refine qA0 (wpAny_specialOf hT zZ ?_);have a0:splitId "list_reverseiterator.__length_hint__" = some ("list_reverseiterator","__length_hint__"):=ox;dsimp;rw[a0];refine qA0 (wpAny_isInstance (b:=true) hT sub_self ?_);rw[qA8 (show ¬ _ by decide)];refine wpAny_ite_split (λ_=>?_) (λO=>absurd ox O)
 grind[PySem.wpAny_pure]
def Es a3 (hh:A.handled=none) (b3:l≠I) (a0:s.heap.IsRevIter I l ((items.size:Int)-1)) (hl:s.heap.IsList l items) (a4:S≠I) (a7:S≠l) (hn:items.size<=sizeLine) (hS:s.heap.get? S=some { cls:=.type "list",data:=.seq #[] c₀ }) (hR:∀h' tk O c',(∀b o,b≠S->b≠I->s.heap.get? b=some o->h'.get? b=some o)->h'.get? S=some { cls:=.type "list",dict:=none,data:=.seq O c',slots:=#[] }->ItemsOf (λi v=>items[items.size-1-i]?=some v) O items.size->R (.ok (.ret a3)) { s with heap:=h',toks:=tk }):
  wpAny (model prog w) A.in1 (Builtin.List.listExtendWith (.ref S) (.ref I) a3)
   (λfin s'=>match fin with | .done f=>R (.ok f) s' | .again c'=>c'.quiet=true/\codeAny (model prog w) A c' R s') (λe s'=>R (.error e) s') s:=by
 have W:=(Walks.listRev (prog:=prog) (w:=w) (A:=A.in1) hh I l b3 items).toS;have b0:S ∉ [I,l]:=by simp [a4,a7]
 refine qA0 (qY0 a0.typeIs ?_);have h1:Builtin.List.listSameRef (.ref S) (.ref I)=false:=by simp [Builtin.List.listSameRef,a4]
 have h2:(Value.type "list_reverseiterator" == Value.type "list")=false/\(Value.type "list_reverseiterator" == Value.type "tuple")=false:=ZQ;rw[h1,h2.1,h2.2];refine qA0 (qT8 a0 ?_);refine qA0 (qN6 (zX a0 ?_));refine qN2 ⟨qQ1 F.plain_extend_loop _,?_⟩;refine codeAny_extend_loopS W hn S b0 a3 _ 0 s #[] c₀ rfl (qC6 _) ⟨qC6 _,by simpa using a0,hl⟩ hS (ItemsOf.nil _) λs' O c' hm a6 a5=>?_;rw[Moved.eq_with hm];show hR _ _ O c' (λb o hb ab e=>hm.heap b o (by simp [hb,ab]) e) a6 a5
def call_list_rev (hh:A.handled=none) (b5:l≠I) (b6:s.heap.IsRevIter I l (items.size-1)) (hl:s.heap.IsList l items) (hn:items.size<=sizeLine) (hQ:∀h' tk O c',(∀b o,b≠I->s.heap.get? b=some o->h'.get? b=some o)->h'.get? s.heap.objs.size=some { cls:=.type "list",dict:=none,data:=.seq O c',slots:=#[] }->ItemsOf (λi v=>items[items.size-1-i]?=some v) O items.size->Q (.ref s.heap.objs.size) { s with heap:=h',toks:=tk }):
  wpAny (model prog w) A (call (.type "list") [.ref I]) Q E s:=by
 obtain ⟨oi,hi,c0⟩:=id b6;obtain ⟨ol,a5,ab⟩:=id hl;have b3:s.heap.objs.size≠I:=λe=>absurd (qB0 hi) (by rw[<- e];show qE9 _);have b4:s.heap.objs.size≠l:=λe=>absurd (qB0 a5) (by rw[<- e];show qE9 _);refine callType_codes (Q₁:=λobj a0=>obj=_/\a0={ s with heap:=_ }) F.called_list (F.typeCall_list_1 _) F.entry_list_init (code_list_new _ ⟨rfl,rfl⟩) λobj a0 a7=>?_;obtain ⟨rfl,rfl⟩:=a7;have hS:(s.heap.push { cls:=_,data:=_ }).get? _=some { cls:=.type "list",data:=.seq #[] }:=qB5 _ rfl;refine ⟨⟨_,hS,rfl⟩,F.args_list_init_2 ..,?_⟩;refine qA0 ?_;refine qA0 (qN9 hS rfl (qN2 ?_));refine qA0 (qP4 hS rfl ?_);have a4:=qI3 (Obj.mapSeq (λ_=>(#[]))) hS rfl;have a3:∀b o,s.heap.get? b=some o->((s.heap.push { cls:=.type "list",data:=.seq #[] }).update _ (Obj.mapSeq (λ_=>(#[])))).get? b=_:=λb o e=>by
  have hb:b≠s.heap.objs.size:=λz=>absurd (qB0 e) (by rw[z];show qE9 _);show (qK4 _ _ (Ne.symm hb)).trans (qA1 _ e)
 refine Es _ hh b5 ⟨oi,a3 _ _ hi,c0⟩ ⟨ol,a3 _ _ a5,ab⟩ b3 b4 hn a4 λh' tk O c' hk b0 a6=>?_;refine ⟨rfl,hQ h' tk O c' (λb o hb e=>hk b o (λz=>absurd (qB0 e) (by rw[z];show qE9 _)) hb (a3 b o e)) b0 a6⟩
end TL
namespace TP
open PySem L2
def va {its:Vy}(h:ItemsOf (λi v=>its.toArray[its.toArray.size-1-i]?=some v) acc its.toArray.size):acc.toList=its.reverse:=by
 obtain ⟨h1,h2⟩:=h;have O:its.toArray.size=its.length:=qC1;apply qF4
 .grind
 .intro i q1 q2;have hi:i<acc.size:=ox
  have:=h2 i acc[i] (qH0 hi)
  rw[O]at this;rw[List.getElem_reverse,Array.getElem_toList];have e:its.toArray[its.length-1-i]?=some (its[its.length-1-i]'ox):=ZZ;rw[e]at this;show Option.some.inj this.symm
def tRv (K:Frag)(f:List V->HO)(ta:TA):TE:=λb H Q=>ta b H λvs H1=>∃a xs,vs = [.ref a]/\SqL K H1 a xs/\∀p,H1 p=none->Q (.ref p) (upd H1 p (f xs.reverse))
def CQ {X}{a}{ta}{p pos p2 O}(hc:X.calm=true) (b3:Gl X "list") (b4:X.mg "list" = none) (hg:Gl X "reversed") (hm:X.mg "reversed" = none) (ha:PA X [a] ta) (hs:starEach [a] X.env = [(false,eval a X.env)]:=by rfl) (ab:starEach [.Call (.Name "reversed" p2) [a] [] O] X.env = [(false,eval (.Call (.Name "reversed" p2) [a] [] O) X.env)]:=by rfl):PE X (.Call (.Name "list" p) [.Call (.Name "reversed" p2) [a] [] O] [] pos) (tRv X.K .lst ta):=by
 intro pins s c H Q I h;refine qN7 (F0 I b3 b4 rC ?_ ZQ ZQ);refine qF6 ?_ ab Zo
 change _;refine qU8 ?_;refine qN7 (F0 I hg hm fy ?_ ZQ ZQ);refine qF6 (thn (ha O pins s c H _ I h) λus s1 a6=>?_) hs Zo;obtain ⟨vs,H1,I1,r1,q1⟩:=a6;obtain ⟨b,xs,e,hq,q⟩:=q1;subst e;obtain ⟨u,rfl,ru⟩:=D7 r1;cases ru;obtain ⟨its,rv,pl,hz⟩:=I1.list hq;have hl:=rv.length;have hsz:its.toArray.size<=sizeLine:=by rw[qC1,<- hl];show hz
 obtain ⟨ol,a4,a7⟩:=id pl.isList;have b0:b≠s1.heap.objs.size:=λz=>absurd (qB0 a4) (by rw[z];show qE9 _);refine call_reversed_list pl.isList (qV9 ?_);refine TL.call_list_rev (I1.ok.hd hc) b0 ⟨_,qB5 _ rfl,rfl,rfl⟩ ⟨ol,qA1 _ a4,a7⟩ hsz λh' tk b5 c' hk hS a5=>?_;have e1:=va a5;have a0:=λb o e=>hk b o (λz=>absurd (qB0 e) (by rw[z];show qE9 _)) (qA1 _ e);have a3:s1.heap.objs.size<=(s1.heap.push (revObj b (its.toArray.size-1))).objs.size:=by simp_all
 refine ⟨.ref _,_,I1.laid a0 a3 (show ObjOk X.prog X.w _ h' _ (.lst xs.reverse) from ⟨by rw[qD0];show hz,its.reverse,c',Vals.reverse rv,?_⟩),rfl,q _ (I1.hok.fresh a3)⟩;rw[<- e1];omega
noncomputable def lw:List W->R W
 | [w]=>match w with
  | .lst ws=>chks false ws.reverse
  |_=>.stuck
 |_=>.stuck
def Ke (h:tM K EX .F (bA lw ma) b H Q):tRv K .lst (tA K EX .B ma) b H Q:=by
 obtain ⟨H0,G,c,I,o⟩:=h;refine ⟨H0,G,c,I,Out.bind o λxs G1 H1 ws e1 m1 O=>?_⟩;have I1:=I.ext e1;cases m1 with
 |nil=>show O.elim
 | cons a t=>
  cases t with
  |cons _ _=>show O.elim
  | nil=>
   rename_i w v
   cases w <;> first|show O.elim|skip
   obtain ⟨p,vs,rfl,hs,r⟩:=a.lstB I1;show ⟨p,vs,rfl,SqL.of hs,Out.chks I1 e1.hh (by show r.reverse) O⟩
def GR {X}{K}{EX}{a}{pos}{mr:Zw}{p p2 O}(hc:X.calm=true) (a3:Gl X "list") (a4:X.mg "list" = none) (hg:Gl X "reversed") (hm:X.mg "reversed" = none) (ha:PA X [a] (tA K EX .B mr)) (hK:X.K=K:=by rfl) (hs:starEach [a] X.env = [(false,eval a X.env)]:=by rfl) (a0:starEach [.Call (.Name "reversed" p2) [a] [] O] X.env = [(false,eval (.Call (.Name "reversed" p2) [a] [] O) X.env)]:=by rfl):PE X (.Call (.Name "list" p) [.Call (.Name "reversed" p2) [a] [] O] [] pos) (tM K EX .F (bA lw mr)):=by
 subst hK;show (CQ hc a3 a4 hg hm ha hs a0).mono λ_ _ _ q=>Ke q
def qQ (ns:VW):lw [.lst (ns.map W.int)]=.ok (.lst (ns.reverse.map W.int)):=by
 have hn:∀l:List Int,m5 (l.map W.int)=true:=λl=>by induction l with|nil=>rfl|cons a l O=>simpa [m5,noL]using O
 change TP.chks false _=_
 grind[List.map_reverse,TP.chks]
noncomputable def jv (u:W)(ws:Zz):Option Nat:=(pds ws).findIdx? λy=>PyData.eqv y (pd u)
def mF (K:Frag):V->List V->Hp->VK->Prop:=λx vs H Q=>∃u ws y j,vs = [y]/\Rep K H y u/\Rep K H x (.lst ws)/\shp 8 u=true/\shp 8 (.lst ws)=true/\jv u ws=some j/\j<1000/\Q (.int (j:Int)) H
def zx (hu:X.A.units+64<cLine):MtR X "list.index" (mF X.K):=by
 intro pins s b H x vs v us Q I rx rv h;obtain ⟨u,ws,y,j,rfl,ry,rc,su,sc,hj,b0,q⟩:=h;obtain ⟨uy,rfl,rr⟩:=rv.one;obtain ⟨as,qa⟩:=Rep.reads I 8 ry su rr;obtain ⟨bs,qb⟩:=Rep.reads I 8 rc sc rx;have la:=dc u 8 su;have lc:=iP ws 7 sc;have hm:X.A.units+1+min (PyData.depthAll (pds ws)) (pd u).depth<cLine:=ox;cases qb with
 | list h1 h2 h3 h4=>
  rename_i a o items n as'
  obtain ⟨oc,od,a7,osl⟩:=o;have h3:=h3;subst h2 h3;have O:=SeqAt.readsAll_map _ _ _ lc.1 h4;have a3:=SeqAt.items_eqAt h4 qa lc.1 la.1 hm;unfold jv at hj;rw[<- O,List.findIdx?_map,List.findIdx?_eq_some_iff_getElem]at hj;obtain ⟨a6,ht,a4⟩:=hj;have a0:j<items.size:=ox;refine qP8 qZ3 ⟨_,h1,rfl⟩ PySem.F.entry_list_index (PySem.F.args_list_index_2 _ _) (SeqAt.list_indexAt a items n od osl uy (λz=>PyData.eqv (SeqAt.readOf s.heap z) (pd u)) j a0 ox (by simpa using ht) (λm ab a5=>by simpa using a4 m a5)) ⟨h1,a3,?_⟩;show ⟨.int (j:Int),H,I.tok _,⟨_,rfl⟩,q⟩
noncomputable def nR (ws:Zz) (u:W):R W:=if (shp 8 u&&shp 8 (.lst ws))=true then (match jv u ws with
 |some j=>if j<1000 then .ok (.int (j:Int)) else .stuck
 |none=>.stuck) else .stuck
def Rix (x:R W) (y:R W):R W:=x>>=λx=>(match x with
 | .lst ws=>y>>=λy=>nR ws y
 |_=>.stuck)
def sO (mo me:Zj):Zj:=λa=>Rix (mo a) (me a)
def qB mo me a:sO mo me a=Rix (mo a) (me a):=rfl
def xB (ws:Zz)u:Rix (.ok (.lst ws)) (.ok u)=nR ws u:=rfl
def EF (h:tM K EX d (sO mo me) f H Q):tBM K "list" (mF K) (tM K EX .B mo) (tA K EX .B (aC me aN)) f H Q:=by
 obtain ⟨H0,G,b,I,o⟩:=h;refine ⟨H0,G,b,I,Out.bind o λx G1 H1 w e1 m1 o1=>?_⟩;have I1:=I.ext e1;cases w <;> first|show o1.elim|skip
 rename_i ws
 obtain ⟨p,vs,rfl,hs,_⟩:=m1.lstB I1;refine ⟨.inl ⟨rfl,vs,SqL.of hs⟩,H0,G1,b,I1,?_⟩;have key:Out EX G1 H1 _ _ λy H2=>mF K _ [y] H2 Q:=Out.bind (md:=mdW K .B H0 H1) o1 λy G2 H2 u e2 m2 O=>by
  have I2:=I1.ext e2;unfold nR at O;by_cases c:(shp 8 u&&shp 8 (.lst ws))=true
  .rw [qA2 c]at O
   have c':shp 8 u=true/\shp 8 (.lst ws)=true:=by simpa using c
   cases hj:jv u ws with
   |none=>rw[hj]at O;show O.elim
   | some j=>
    rw[hj]at O;by_cases hl:j<1000
    .dsimp at O;rw[qA2 hl]at O;show ⟨u,ws,y,j,rfl,m2.whole I2,(m1.move e2).whole I2,c'.1,c'.2,hj,hl,O _ G2 H2 (Ext.refl I2.gh) (Md.sca rfl (λ_=>.int) d)⟩
    .dsimp at O;rw[qA8 hl]at O;show O.elim
  .rw[qA8 c]at O;show O.elim
 change Out EX G1 H1 _ (_>>=_) _
 revert key
 cases me b with
 |stuck=>show id
 |ex e=>show id
 | ok u=>
  intro key v G2 H2 e2 m2;cases m2 with
  |cons a t=>cases t;show key _ G2 H2 e2 a
def CD {X:Cx}{K}{EX}{d}{o e}{apos O:Pos}{mo me:Zj}(hu:X.A.units+64<cLine) (ho:PE X o (tM K EX .B mo)) (he:PE X e (tM K EX .B me)) (hK:X.K=K:=by rfl) (a4:attributeBase o "index" X.env (eval o X.env)=eval o X.env:=by rfl) (a5:((backTo O (starEach [e] X.env)).all (λx=>!x.1)&&(backToKw O (keywordEach [] X.env)).all (λx=>x.1.isSome)
   && decide (([e]:Vo).length+([]:List Keyword).length+(if ([]:List Keyword).isEmpty then 0 else 1)<30))=true:=by rfl) (a3:(apos.endLine == O.line)=true:=by rfl) (hs:starEach [e] X.env=(false,eval e X.env)::starEach [] X.env:=by rfl) (a0:(backTo O (starEach [] X.env)).any (·.1)=false:=by rfl):
  PE X (.Call (.Attribute o "index" apos) [e] [] O) (tM K EX d (sO mo me)):=by
 subst hK;show (Lk qR5 qZ3 PySem.F.type_list_index (zx hu) ho (a8 he b7 hs) a4 a5 a3 hs a0).mono λ_ _ _ q=>EF q
def U3:upd H a o a=some o:=by grind[upd]
set_option maxHeartbeats 2000000
def Hx (p:Addr)(H0 H1:Hp):Prop:=(∀a,a≠p->H1 a=H0 a)/\∃vs,H1 p=some (.lst vs)
def OutIo (K:Frag) (EX:EXT) (p:Addr) (H0:Hp) (r:R Fl) (D:Ends):Prop:=match r with
 | .ok (.nx a)=>∀O G' a0 H',Hx p H0 O->PIv K O G' a a0 H'->D.nx a0 H'
 | .ok (.bk a)=>∀O G' a0 H',Hx p H0 O->PIv K O G' a a0 H'->D.rt .non H'
 | .ex e=>∀H',EX e H'
 |_=>False
def tStI (K:Frag)(EX:EXT)(p:Addr)(m:Zv):TS:=λD b H=>∃H0 G a,PIv K H0 G a b H/\(∃vs,H0 p=some (.lst vs))/\OutIo K EX p H0 (m a) D
noncomputable def nbR:R Fl->R Fl
 | .ok (.nx a)=>.ok (.nx a)
 | .ex e=>.ex e
 |_=>.stuck
noncomputable def nb (m:Zv):Zv:=λa=>nbR (m a)
def Hx.refl (h:∃vs,H0 p=some (.lst vs)):Hx p H0 H0:=⟨λ_ _=>rfl,h⟩
def Hx.trans (h:Hx p A B)(g:Hx p B C):Hx p A C:=⟨λa q=>(g.1 a q).trans (h.1 a q),g.2⟩
def OutIo.move (s:Hx p H0 H0') (o:OutIo K EX p H0 r D):OutIo K EX p H0' r D:=by
 cases r with
 |stuck=>show o
 |ex e=>show o
 | ok f=>
  cases f with
  |nx a0=>show λA G' O H' h I'=>o A G' O H' (s.trans h) I'
  |bk a0=>show λA G' O H' h I'=>o A G' O H' (s.trans h) I'
  |ct a0=>show o
  |rt w=>show o
def OutIo.bind {md:b->a->Hp->Hp->Prop}(o:OutIo K EX p H0 (m>>=k) D) (h:∀x G1 H1 w,Ext G H G1 H1->md w x G1 H1->OutIo K EX p H0 (k w) D->Q1 x H1):Out EX G H md m Q1:=by
 cases m with
 |ok w=>show λv G' H' e q=>h v G' H' w e q o
 |ex e=>show λH' _=>o H'
 |stuck=>show o
def tStI.toS (h:tStI K EX p (nb m) D b H):tSt K EX d m D b H:=by
 obtain ⟨H0,G,a,I,hp,o⟩:=h;refine ⟨H0,G,a,I,?_⟩;unfold nb at o
 revert o
 cases m a with
 |stuck=>show id
 |ex e=>show λo H' _=>o H'
 | ok f=>
  cases f with
  |nx O=>show λo G' a0 H' _ I'=>o H0 G' a0 H' (Hx.refl hp) I'
  |bk O=>show λo=>o.elim
  |ct O=>show λo=>o.elim
  |rt w=>show λo=>o.elim
def JY (h:tStI K EX p (d8 m n) D b H):xZ (tStI K EX p m) (tStI K EX p n) D b H:=by
 obtain ⟨H0,G,a,I,hp,o⟩:=h;refine ⟨H0,G,a,I,hp,?_⟩;unfold d8 at o
 revert o
 cases m a with
 |stuck=>show id
 |ex e=>show id
 | ok f=>
  cases f with
  |nx O=>show λo A G' a0 H' s I'=>⟨A,G',O,I',s.2,OutIo.move s o⟩
  |_=>show id
def Me (h:tStI K EX p (mIf c m n) D b H):yb (tT K EX c) (tStI K EX p m) (tStI K EX p n) D b H:=by
 obtain ⟨H0,G,a,I,hp,o⟩:=h;refine ⟨H0,G,a,I,OutIo.bind o λx G1 H1 w O m1 o1=>?_⟩;cases m1;cases x with
 |true=>show ⟨H0,G1,a,I.ext O,hp,o1⟩
 |false=>show ⟨H0,G1,a,I.ext O,hp,o1⟩
noncomputable def sd:Zv:=λa=>.ok (.bk a)
def Ka (h:tStI K EX p sd D a H):tRetN D a H:=by
 obtain ⟨H0,G,b,I,O,o⟩:=h;show o H0 G a H (Hx.refl O) I
noncomputable def clI:Sl->Sl
 | .un=>.un
 | .val w=>.val w
 | .par w=>if noL w=true then .val w else .un
 | .own ws=>.own ws
 | .dic ks=>.dic ks
 | .dik ks=>.dik ks
 | .iop _ _=>.un
 | .hz _=>.un
def Ez (h:clI s=.own ws):s=.own ws:=by
 cases s <;> grind[clI]
noncomputable def appI (i:Nat)(p:Addr)(ws:Zz)(a:Rho):Rho:=(a.map clI).set i (.iop p ws)
def PIv.appI (I:PIv K H0 G a d H) (hi:i<a.length) (es:d[i]?=some (some (.ref p))) (hp:H0 p=some (.lst vs)) (rv:Reps K G vs' ws):PIv K (upd H0 p (.lst vs')) G (appI i p ws a) d (upd H p (.lst vs')):=by
 have gp:G p=none:=I.gl p _ hp rfl;refine ⟨λb o hb hl=>?_,λb o hb hl=>?_,λb o hb=>?_,λb o hb=>?_,?_,λk x o h1 h2=>?_,λx y u1 u2 c a6 h1 h2 h3 h4=>?_⟩
 .by_cases q:b=p
  .subst q;rw[U3]at hb;cases hb;cases hl
  .rw[c7 q]at hb;show I.g0 b o hb hl
 .by_cases q:b=p
  .subst q;show gp
  .rw[c7 q]at hb;show I.gl b o hb hl
 .have q:b≠p:=by rintro rfl;rw[gp]at hb;cases hb
  rw[c7 q];show I.gh b o hb
 .by_cases q:b=p
  .subst q;rw[U3]at hb ⊢;show hb
  .rw[c7 q]at hb ⊢;show I.hh b o hb
 .unfold TP.appI;rw[qF1,qA4];show I.len
 .unfold TP.appI at h1;by_cases q:i=k
  .subst q;rw[qG7 (by rw[qA4];show hi)]at h1;cases h1;rw[es]at h2;cases h2;show ⟨rfl,vs',U3,rv⟩
  .rw [qB6 q,qA9]at h1
   obtain ⟨s,hs,rfl⟩:=qF5.mp h1;have a4:=I.sl k s o hs h2;cases s with
   |un=>trivial
   |val w=>show a4
   | par w=>
    rw[clI];by_cases c:noL w=true
    .rw [qA2 c]
     obtain ⟨v,ev,r⟩:=a4;show ⟨v,ev,Rep.clean I r c⟩
    .rw[qA8 c];trivial
   | own ws=>
    obtain ⟨b,a5,eb,hb,a3,O,rb⟩:=a4;have a0:b≠p:=by rintro rfl;rw[hp]at O;cases O
    show ⟨b,a5,eb,by rw[c7 a0];show hb,a3,by rw[c7 a0];show O,rb⟩
   | dic ks=>
    obtain ⟨b,a5,eb,hb,a3,O,rb⟩:=a4;have a0:b≠p:=by rintro rfl;rw[hp]at O;cases O
    show ⟨b,a5,eb,by rw[c7 a0];show hb,a3,by rw[c7 a0];show O,rb⟩
   | dik ks=>
    obtain ⟨b,a5,eb,hb,a3,O,rb⟩:=a4;have a0:b≠p:=by rintro rfl;rw[hp]at O;cases O
    show ⟨b,a5,eb,by rw[c7 a0];show hb,a3,by rw[c7 a0];show O,rb⟩
   |iop q us=>trivial
   |hz _=>trivial
 .have key:∀{k:Nat}{u:Zz},(TP.appI i p ws a)[k]?=some (.own u)->a[k]?=some (.own u):=λ{k u} hk=>by
   unfold TP.appI at hk;by_cases q:i=k
   .subst q;rw[qG7 (by rw[qA4];show hi)]at hk;cases hk
   .rw [qB6 q,qA9]at hk
    obtain ⟨s,hs,h⟩:=qF5.mp hk;rw[hs,Ez h]
  show I.ne x y u1 u2 c a6 (key h1) (key h2) h3 h4
def eK (p:Addr) (i:Nat) (m:Zj):Zv:=λa=>match a[i]? with
 |some (.iop q ws)=>m a>>=λw=>if q=p/\ws.length<1000 then .ok (.nx (appI i p (ws ++ [w]) a)) else .stuck
 |_=>.stuck
def Kk (h:tStI K EX p (eK p i m) D b H):gy (yd (R3 i) (tM K EX .V m)) D b H:=by
 obtain ⟨H0,G,c,I,hp,o⟩:=h;unfold eK at o
 split at o
 .rename_i q ws e
  have hi:=(qA7.mp e).1;have hs:i<b.length:=by rw[<- I.len];show hi
  have es:b[i]?=some b[i]:=ZZ;obtain ⟨ev,vs,h0,r⟩:=I.sl i _ _ e es;have hq:=I.hh q _ h0;refine ⟨_,by rw[es,ev],q,rfl,⟨vs,hq⟩,H0,G,c,I,OutIo.bind o λx G1 H1 w e1 m1 o1=>?_⟩;by_cases O:q=p/\ws.length<1000
  .rw [qA2 O]at o1
   obtain ⟨rfl,O⟩:=O;have h1:=e1.hh q _ hq;rw[h1];have hlen:=r.length;show ⟨qB4 (by omega:vs.length<1000) ZQ,o1 _ G1 b _ ⟨λa ha=>c7 ha,_,U3⟩ ((I.ext e1).appI hi (by rw[es,ev]) h0 ((r.same e1.gg).snoc m1))⟩
  .rw[qA8 O]at o1;show o1.elim
 .show o.elim
noncomputable def ioR (p:Addr) (a:Rho):R Zz:=match (a[1]?:Option Sl) with
 |some (.iop q cs)=>if q=p then .ok cs else .stuck
 |_=>.stuck
noncomputable def ak (n N:Nat) (m:Addr->Rho->R Fl) (p:Addr) (w1:W) (cs wr:Zz):R Zz:=if wr.length+2=n/\m5 cs=true then (match m p (.par w1::.iop p cs::(wr.map Sl.par++List.replicate (N-n) Sl.un)) with
 | .ok (.nx a)=>ioR p a
 | .ok (.bk a)=>ioR p a
 |_=>.stuck) else .stuck
open Classical in
def G8 (n N:Nat)(m:Addr->Rho->R Fl)(w1:W)(cs wr:Zz):R Zz:=if h:∃O,∀p,ak n N m p w1 cs wr=.ok O then .ok (Classical.choose h) else .stuck
def fb (h:G8 n N m w1 cs wr=.ok cs') p:ak n N m p w1 cs wr=.ok cs':=by
 unfold G8 at h
 split at h
 all_goals grind
def uX (h:∀p,ak n N m p w1 cs wr=.ok O):G8 n N m w1 cs wr=.ok O:=by
 have hx:∃O,∀p,ak n N m p w1 cs wr=.ok O:=⟨O,h⟩;unfold G8;rw[dif_pos]
 have:=Classical.choose_spec hx 0
 rw[h]at this;cases this;rfl
def uY:G8 n N m w1 cs wr=.stuck\/∃O,G8 n N m w1 cs wr=.ok O:=by
 unfold G8
 split
 .show .inr ⟨_,rfl⟩
 .show .inl rfl
def jT (h:ak n N m p w1 cs wr=.ok cs'):wr.length+2=n/\m5 cs=true:=by
 grind[ak]
def iO (K:Frag) (n:Nat) (f:W->List W->List W->R Zz):Sp:=λvs H Q _=>vs.length=n/\∃v1 p vr w1 cs wr us O,vs=v1::.ref p::vr/\H p=some (.lst us)/\Rep K H v1 w1/\Reps K H vr wr/\Reps K H us cs/\f w1 cs wr=.ok O /\
 ∀H' a0 G',(∀a o,a≠p->H a=some o->H' a=some o)->H' p=some (.lst a0)->Same G' H'->(∀a o,H a=some o->isL o=true->G' a=none)->Reps K G' a0 O->Q .non H'
def PIv.toIop (I:PIv K H0 G a b H) (hi:i<a.length) (es:b[i]?=some (some (.ref p))) (hp:H0 p=some (.lst us)) (r:Reps K G us cs):PIv K H0 G (a.set i (.iop p cs)) b H:=by
 refine ⟨I.g0,I.gl,I.gh,I.hh,by rw[qF1];show I.len,λk x o O h2=>?_,λx y u1 u2 c a0 O h2 h3 h4=>?_⟩
 .by_cases q:i=k
  .subst q;rw[qG7 hi]at O;cases O;rw[es]at h2;cases h2;show ⟨rfl,us,hp,r⟩
  .rw [qB6 q]at O
   show I.sl k x o O h2
 .have key:∀{k:Nat}{u:_},(a.set i (.iop p cs))[k]?=some (.own u)->a[k]?=some (.own u):=λ{k u} hk=>by
   grind
  show I.ne x y u1 u2 c a0 (key O) (key h2) h3 h4
def EJ (h:iO K n (G8 n Nl.length m) vs H Q E):∃p,tStI K (λ_ _=>False) p (m p) { nx:=λ_ H'=>Q .non H',rt:=Q } (L2.start Nl vs) H:=by
 obtain ⟨hl,v1,p,vr,w1,cs,wr,us,a7,rfl,hp,r1,rr,ru,hf,hq⟩:=h;have a3:=fb hf p;obtain ⟨hn,a5⟩:=jT a3;have ra:Reps K H (v1::.ref p::vr) (w1::.lst cs::wr):=.cons r1 (.cons (.lst hp ru) rr);have I0:=PIv.begin (k:=Nl.length-n) (k':=Nl.length-n) ra rfl;have b0:Reps K (Q2 H) us cs:=Reps.clean I0 (by rw[kG];show ru) a5;have I1:=I0.toIop (i:=1) (p:=p) (cs:=cs) (us:=us) ZZ rfl hp b0;refine ⟨p,H,Q2 H,Sl.par w1::.iop p cs::(wr.map Sl.par++List.replicate (Nl.length-n) Sl.un),?_,⟨us,hp⟩,?_⟩
 .grind[L2.start]
 .unfold ak at a3;rw[qA2 ⟨hn,a5⟩]at a3;have fin:∀b,ioR p b=.ok a7->∀a0 G' O H',Hx p H a0->PIv K a0 G' b O H'->Q .non H':=λb hr a0 G' O H' hx I'=>by
   unfold ioR at hr
   split at hr
   .rename_i q cs2 e2
    by_cases e3:q=p
    .rw [qA2 e3]at hr
     cases hr;subst e3;have hi:1<O.length:=by rw[<- I'.len];show (qA7.mp e2).1
     obtain ⟨_,ab,a6,r'⟩:=I'.sl 1 _ _ e2 (show O[1]?=some O[1] by simp);refine hq H' ab G' (λa o ha hb=>I'.hh a o (by rw[hx.1 a ha];show hb)) (I'.hh _ _ a6) I'.gh (λa o hb hl=>?_) r';by_cases e4:a=q
     .subst e4;show I'.gl a _ a6 rfl
     .show I'.gl a o (by rw[hx.1 a e4];show hb) hl
    omega
   .cases hr
  revert a3
  cases m p (.par w1::.iop p cs::(wr.map Sl.par++List.replicate (Nl.length-n) Sl.un)) with
  |stuck=>omega
  |ex e=>omega
  | ok f=>
   cases f with
   |nx a4=>show λh a0 G' O H' hx I'=>fin a4 h a0 G' O H' hx I'
   |bk a4=>show λh a0 G' O H' hx I'=>fin a4 h a0 G' O H' hx I'
   |ct a4=>omega
   |rt w=>omega
def mIO (i:Nat) (f:W->List W->List W->R Zz) (m1:Zj) (mr:Zw):Zv:=λa=>match a[i]? with
 |some (.own cs)=>m1 a>>=λw1=>mr a>>=λwr=>f w1 cs wr>>=λO=>.ok (.nx (a.set i (.own O)))
 |_=>.stuck
def EH (hf:∀w1 cs wr,f w1 cs wr=.stuck\/∃a5,f w1 cs wr=.ok a5/\wr.length+2=n) (h:tSt K EX d (mIO i f m1 mr) D m H):
  gy (lg (iO K n f) [] E (bJ (tM K EX .B m1) (bJ (R3 i) (tA K EX .B mr)))) D m H:=by
 obtain ⟨H0,G,j,I,o⟩:=h;unfold mIO at o
 split at o
 .rename_i cs e
  obtain ⟨a,vs,es,ha,hg,h0,r⟩:=I.own_at e;refine ⟨H0,G,j,I,OutS.bind I o λx G1 H1 w1 e1 m1 o1=>⟨_,es,H0,G1,j,I.ext e1,OutS.bind (I.ext e1) o1 λxs G2 H2 wr e2 m2 o2=>?_⟩⟩;have I2:=(I.ext e1).ext e2;rcases hf w1 cs wr with hs|⟨a5,hs,hn⟩
  .rw[hs]at o2;show o2.elim
  rw[hs,R.ok_bind]at o2;have rx:=MdA.whole I2 m2;have a6:=e2.hh _ _ (e1.hh _ _ ha);have b0:=e2.keep _ _ (e1.hh _ _ ha) rfl (e1.keep _ _ ha rfl hg);have r2:=(r.same e1.gg).same e2.gg
  change iO K n f _ H2 _ E;rw[qG0];refine ⟨?_,x,a,xs,w1,cs,wr,vs,a5,rfl,a6,(m1.move e2).whole I2,rx,r2.same I2.gh,hs,λH' c0 G' k1 k2 gH cl rr=>?_⟩
  .rw[qB9,qB9,rx.length];show hn
  have hk:=λb o q=>k1 b o ox (I2.gh b o q);have sB:Same G2 (both G2 G'):=λb o q=>by unfold both;rw[q]
  have c1:Same G' (both G2 G'):=λb o q=>by
   unfold both;cases q1:G2 b with
   |none=>show q
   | some u=>
    have a1:=hk b u q1;rw[gH b o q]at a1;show a1.symm
  have a7:Same (both G2 G') H':=λb o q=>by
   unfold both at q;cases q1:G2 b with
   |none=>rw[q1]at q;show gH b o q
   |some u=>grind
  have bn:∀b o,H2 b=some o->isL o=true->G2 b=none->both G2 G' b=none:=λb o q l g=>by unfold both;rw[g];show cl b o q l
  have hi:=(qA7.mp e).1;refine o2 (both G2 G') m H' sB ⟨λb o q l=>sB b o (I2.g0 b o q l),λb o q l=>bn b o (I2.hh b o q) l (I2.gl b o q l),a7,λb o q=>k1 b o ox (I2.hh b o q),by rw[qF1];show I2.len,λk y o h1 h2=>?_,λx1 y1 u1 u2 c b6 h1 h2 h3 h4=>?_⟩
  .by_cases q:i=k
   .subst q;rw[qG7 hi]at h1;cases h1;rw[es]at h2;cases h2;show ⟨a,c0,rfl,k2,bn a _ a6 rfl b0,h0,rr.same c1⟩
   .rw [qB6 q]at h1
    have O:=I2.sl k y o h1 h2;cases y with
    |un=>trivial
    |val w=>obtain ⟨v,ev,r⟩:=O;show ⟨v,ev,r.same sB⟩
    |par w=>obtain ⟨v,ev,r⟩:=O;show ⟨v,ev,r.same (x3 sB)⟩
    | own ws=>
     obtain ⟨b,us2,eb,hb,a4,a0,rb⟩:=O;subst eb;have a3:b≠a:=by
      rintro rfl;show I.ne i k cs ws b q e h1 es h2
     show ⟨b,us2,rfl,k1 b _ a3 hb,bn b _ hb rfl a4,a0,rb.same sB⟩
    | dic ks=>
     obtain ⟨b,us2,eb,hb,a4,a0,rb⟩:=O;have a3:b≠a:=by
      omega
     show ⟨b,us2,eb,k1 b _ a3 hb,bn b _ hb rfl a4,a0,rb⟩
    | dik ks=>
     obtain ⟨b,us2,eb,hb,a4,a0,rb⟩:=O;have a3:b≠a:=by
      omega
     show ⟨b,us2,eb,k1 b _ a3 hb,bn b _ hb rfl a4,a0,rb⟩
    |iop q us=>obtain ⟨ev,b5,b4,r1⟩:=O;show ⟨ev,b5,b4,r1.same sB⟩
    |hz w=>obtain ⟨v,ev,r⟩:=O;show ⟨v,ev,r.same (x3 (ar sB))⟩
  .have key:∀{k:Nat}{u:Zz},(j.set i (.own a5))[k]?=some (.own u)->∃u',j[k]?=some (.own u'):=λ{k u} hk=>by
    grind
   obtain ⟨v1,ab⟩:=key h1;obtain ⟨v2,b3⟩:=key h2;show I.ne x1 y1 v1 v2 c b6 ab b3 h3 h4
 .show o.elim
def q_i (h:PS X st (tSt K EX d m)):PS X st (tStI K EX p (nb m)):=h.mono λ_ _ _ q=>q.toS
def GU (h:PSs X sts (tSt K EX d m)):PSs X sts (tStI K EX p (nb m)):=h.mono λ_ _ _ q=>q.toS
def eE (O:PS X st (tStI K EX p m))(h2:PSs X sts (tStI K EX p n)):PSs X (st::sts) (tStI K EX p (d8 m n)):=(mJ O h2).mono λ_ _ _ q=>JY q
def jc (O:PS X st (tStI K EX p m)):PSs X [st] (tStI K EX p m):=qd O
def Bf (hc:PT X c (tT K EX ta))(ha:PSs X x (tStI K EX p m))(O:PSs X y (tStI K EX p n)):PS X (.If c x y pos) (tStI K EX p (mIf ta m n)):=(Bi hc ha O).mono λ_ _ _ q=>Me q
def GP:PS X (.Return none pos) (tStI K EX p sd):=ps_retN.mono λ_ _ _ q=>Ka q
def Hc {X}{K}{EX}{e}{pos}{ma:Zj}{p}{i}{x}{p1 apos O}(hN:X.N[i]?=some x) (hv:Vis X.env.scope x) (ha:PE X e (tM K EX .V ma)) (hd:(x == ("__debug__"))=false:=by decide) (a6:(x == ("__classdict__"))=false:=by decide) (a3:attributeBase (.Name x p1) "append" X.env (eval (.Name x p1) X.env)=eval (.Name x p1) X.env:=by rfl) (a4:((backTo O (starEach [e] X.env)).all (λx=>!x.1)&&(backToKw O (keywordEach [] X.env)).all (λx=>x.1.isSome)
   && decide (([e]).length+([]:List Keyword).length+(if ([]:List Keyword).isEmpty then 0 else 1)<30))=true:=by rfl) (a0:(apos.endLine == O.line)=true:=by rfl) (hs:starEach [e] X.env=(false,eval e X.env)::starEach [] X.env:=by rfl) (a5:swapsWith (.Call (.Attribute (.Name x p1) "append" apos) [e] [] O) none pos.line X.env=pure false:=by rfl):
  PS X (.Expr (.Call (.Attribute (.Name x p1) "append" apos) [e] [] O) pos) (tStI K EX p (eK p i ma)):=(eG (jY (P8 hN hv hd a6) ha a3 a4 a0 hs) a5).mono λ_ _ _ q=>Kk q
def CH {X:Cx}{K}{d}{e}{es}{pos:Pos}{ma:Zj}{mr:Zw}{i k}{y}{p1 p2 O}{f}{fd}{ps}{x}{n N}{m:Addr->Rho->R Fl}(hN:X.N[i]?=some y) (hv:Vis X.env.scope y) (F:FnOk X.prog X.w X.K X.mg X.base CX0 k f fd ps (iO K n (G8 n N m))) (hr:Room k X.A) (hg:Gl X x) (hm:X.mg x=some (.ref f)) (hk:PySem.W.keepIn X.K (.ref f)=true) (hb:Binds X.K fd ps []) (h1:PE X e (tM K (λ_ _=>False) .B ma)) (h2:PA X es (tA K (λ_ _=>False) .B mr)) (hd:(y == ("__debug__" : Str))=false:=by decide) (a5:(y == ("__classdict__" : Str))=false:=by decide) (a6:(x == ("__debug__" : Str))=false:=by decide) (he:starEach (e::.Name y p2::es) X.env=(false,eval e X.env)::starEach (.Name y p2::es) X.env:=by rfl) (a3:starEach (.Name y p2::es) X.env=(false,eval (.Name y p2) X.env)::starEach es X.env:=by rfl) (a0:(backTo O (starEach (.Name y p2::es) X.env)).any (·.1)=false:=by rfl) (a4:swapsWith (.Call (.Name x p1) (e::.Name y p2::es) [] O) none pos.line X.env=pure false:=by rfl):
  PS X (.Expr (.Call (.Name x p1) (e::.Name y p2::es) [] O) pos) (tSt K (λ_ _=>False) d (mIO i (G8 n N m) ma mr)):=
 (eG (je F hr hg hm hk hb .nil lh (eJ h1 (eJ (P8 hN hv hd a5) h2 a3) he) a6 he a0) a4).mono λ_ _ _ q=>EH (λw1 cs wr=>by
  rcases uY (N:=N) (w1:=w1) (wr:=wr) with h|⟨cs',h⟩
  .show .inl h
  .show .inr ⟨cs',h,(jT (fb h 0)).1⟩) q
def mIns (i:Nat) (m:Zj):Zv:=λa=>match a[i]? with
 |some (.own ws)=>m a>>=λw=>if ws.length<1000 then .ok (.nx (a.set i (.own (w::ws)))) else .stuck
 |_=>.stuck
noncomputable def v9:List VW->List VW->Bool
 | [],[]=>false
 | [],_::_=>true
 |_::_,[]=>false
 |a::as,b::bs=>if a=b then v9 as bs else lexLt a b
def nI:∀a,v9 a a=false
 | []=>rfl
 |x::a=>by unfold v9;rw[qA2 rfl];show nI a
theorem jt:∀a b c,v9 a b=true->v9 b c=true->v9 a c=true
 | [],[],_,h,_=>by cases h
 | [],_::_,[],_,h=>by cases h
 | [],_::_,_::_,_,_=>rfl
 |_::_,[],_,h,_=>by cases h
 |_::_,_::_,[],_,h=>by cases h
 | x::a,y::b,z::c,h1,h2=>by
  unfold v9 at h1 h2 ⊢;by_cases O:x=y
  .subst O;rw[qA2 rfl]at h1;by_cases e2:x=z
   .subst e2;rw[qA2 rfl]at h2 ⊢;show jt a b c h1 h2
   omega
  grind[dF,bu]
theorem cf:∀a b,v9 a b=false->v9 b a=false->a=b
 | [],[],_,_=>rfl
 | [],_::_,h,_=>by cases h
 |_::_,[],_,h=>by cases h
 | x::a,y::b,h1,h2=>by
  unfold v9 at h1 h2;by_cases e:x=y
  .subst e;rw[qA2 rfl]at h1 h2;rw[cf a b h1 h2]
  grind[eL]
noncomputable def W2 (ss:List VV)(i:Nat):Int:=((ss.countP λx=>v9 x (ss.getD i [])):Nat)
def wR {ss:List VV}(h:i<ss.length):ss.getD i []∈ss:=by
 simp [h]
def mB (hi:i<ss.length) (hj:j<ss.length):decide (W2 ss i<W2 ss j)=v9 (ss.getD i []) (ss.getD j []):=by
 cases h:v9 _ _ with
 | true=>
  unfold W2
  have:=xh (p:=_) (q:=λx=>v9 x _) (λx _ O=>jt _ _ _ O h) ⟨_,wR hi,h,nI _⟩
  omega
 | false=>
  unfold W2
  have:ss.countP (λx=>v9 x (ss.getD j []))<=ss.countP λx=>v9 x (ss.getD i []):=by
   apply qS7
   grind[jt,cf]
  omega
noncomputable def V6 (ss:List VV):List Nat:=if ss.length<2 then List.range ss.length else (runK (W2 ss) (PySem.W.kas_sort ss.length)).toList
theorem O8 ss:(V6 ss).Perm (List.range ss.length):=by
 unfold V6
 split
 .show .refl _
 .have:=(eB (W2 ss) (n:=ss.length) ox).1
  show (qJ9.mp this).trans ZZ
def CU ss:(V6 ss).Pairwise λi j=>v9 (ss.getD j []) (ss.getD i [])=false:=by
 unfold V6
 split
 .have:ss.length=0\/ss.length=1:=ox
  rcases this with e|e <;> rw[e] <;> simp
 .have k:=eB (W2 ss) (n:=ss.length) ox;have hp:=qJ9.mp k.1;have hl:(runK (W2 ss) (PySem.W.kas_sort ss.length)).toList.length=ss.length:=by have:=hp.length_eq;simpa using this
  have hm:∀x∈_,x<ss.length:=λx hx=>by have:=hp.mem_iff.mp hx;simpa using this
  have hu:=aX _ k.2;generalize runK _ _=p at hl hm hu
  rw[qF9];intro i j hi O a0
  have:=hu j i ox ox
  unfold ky at this;have ei:p.getD i 0=p.toList[i]:=by simp at hi ⊢;simp [hi]
  have ej:p.getD j 0=p.toList[j]:=by simp at O ⊢;simp [O]
  rw[<- mB (hm _ (qI1 O)) (hm _ (qI1 hi))];show qN3 ox
noncomputable def z9 {a:Type}(ks:List VV)(d:a)(vs:List a):List a:=((V6 ks.reverse).map λi=>vs.reverse.getD i d).reverse
def mP ks (d:a) (vs:List a):(z9 ks d vs).length=ks.length:=by
 unfold z9;rw[qD0,qA4,(O8 _).length_eq,qE2,qD0]
def jV {a:Type}(d:a) (vs:List a):(List.range vs.length).map (λi=>vs.getD i d)=vs:=by
 apply qF4
 .simp
 .intro i h1 O;simp [O]
def vC {d:a}(O:vs.length=ks.length):(z9 ks d vs).Perm vs:=by
 refine (qK5 _).trans ?_
 have:=(O8 ks.reverse).map λi=>vs.reverse.getD i d
 rw[show ks.reverse.length=vs.reverse.length by grind,jV]at this;show this.trans (qK5 _)
noncomputable def fZ (fin:Bool):List (List Int×List Int)->Bool
 | []=>fin
 | (a,b)::r=>if a=b then fZ fin r else lexLt a b
def qI:∀xs ys,fZ (decide (xs.length<ys.length)) (xs.zip ys)=v9 xs ys
 | [],[]=>rfl
 | [],_::_=>by simp [fZ,v9]
 |_::_,[]=>by simp [fZ,v9]
 | x::xs,y::ys=>by
  have:=qI xs ys
  simp [fZ,v9,qY4];rw[this]
section
open PySem.W PyProof.Rows
def items_int:∀{xs:VW}{its:Vy},Vals (xs.map V.int) its->ItemsAre (intKind prog w) xs its:=by
 intro xs
 induction xs with
 |nil=>intro its h;cases h;show .nil
 | cons x xs O=>
  intro its h;cases h with
  | cons r t=>
   obtain ⟨tk,rfl⟩:=r;show .cons (by simp [intKind,Value.isInt]) (O t)
def Et (hu:A.units<cLine) (hv:M4 s.heap v xs) (hw:M4 s.heap u ys) (h:Q (decide (xs=ys)) s):wpAny (model prog w) A (eqBool v u) Q E s:=by
 obtain ⟨a,o,its,m,rfl,ho,hc,hd,rv⟩:=hv;obtain ⟨b,o2,a5,m2,rfl,a4,a0,O,a3⟩:=hw;show wpAny_eqBool_tuple hu ⟨o,_,m,ho,hc,hd,by simpa using items_int rv⟩ ⟨o2,_,m2,a4,a0,O,by simpa using items_int a3⟩ h
def DF (hu:A.units+64<cLine) (hv:M4 s.heap v xs) (hw:M4 s.heap u ys) (h:Q (lexLt xs ys) s):wpAny (model prog w) A (compareOp .Lt v u) (PySem.W.BoolBack Q) E s:=by
 obtain ⟨a,⟨c1,d1,t1,a3⟩,its,m,rfl,ho,hc,hd,rv⟩:=hv;obtain ⟨b,⟨c2,d2,t2,a5⟩,O,m2,rfl,a0,a6,a4,a7⟩:=hw;subst hc hd a6 a4;show richCompare_meets_room (op:=.Lt) ⟨_,ho,rfl⟩ ⟨_,a0,rfl⟩ PySem.F.slot_tuple_lt PySem.F.entry_tuple_lt (PySem.F.args_tuple_lt_2 ..) (Fp a b its O m m2 d1 d2 a3 a5 xs ys rv a7) ⟨ho,a0,(λx=>nomatch x),h⟩ ox
def DI (hu:A.units+64<cLine):∀(xs ys:VV) (us vs:Vy) i,Paired (M4 s.heap) us xs->Paired (M4 s.heap) vs ys->Q (fZ fin (xs.zip ys)) s->KatLex prog w A false fin Q (us.zip vs) i s:=by
 intro xs
 induction xs with
 |nil=>intro ys us vs i a b h;cases a;show h
 | cons x xs ih=>
  intro ys us vs i a b h;cases a with
  | cons r1 t1=>
   cases ys with
   |nil=>cases b;show h
   | cons y ys=>
    cases b with
    | cons O t2=>
     simp [fZ]at h;refine kat_cons (Et ox r1 O ?_);by_cases e:x=y
     .rw [qA2 e]at h
      rw[qN4 e];show kat_yes (ih ys _ _ _ t1 t2 h)
     .rw [qA8 e]at h
      rw[qN3 e];show kat_no (kat_one _ _ (DF hu r1 O h))
def oP (h:Heap)(v:Value)(xs:VV):Prop:=∃(a:Addr)(o:Obj)(its:Vy)(m:Nat),v=.ref a/\h.get? a=some o/\o.cls=.type "tuple" /\ o.data=.seq its.toArray m/\Paired (M4 h) its xs
def DG (hu:A.units+64<cLine) (hv:oP s.heap v xs) (hw:oP s.heap u ys) (h:Q (v9 xs ys) s):wpAny (model prog w) A (keyLt' (tuples' false) v u) Q E s:=by
 obtain ⟨a,o,its,m,rfl,ho,_,hd,rv⟩:=hv;obtain ⟨b,o2,a4,m2,rfl,a3,_,a0,O⟩:=hw;refine kat_lt ho hd a3 a0 ?_;have l1:=Paired.length rv;have l2:=Paired.length O;refine DI hu xs ys _ _ 0 rv O ?_;simp [l1,l2];rw[qI];show h
def lK:∀{vs:Vy}{ss},Paired (λv xs=>oP h v xs/\xs ≠ []) vs ss->∃fs:List Value,KatTups h vs fs/\fs.length=ss.length/\∀f∈fs,∃x,M4 h f x
 |_,_,.nil=>⟨[],trivial,rfl,λ_ h=>nomatch h⟩
 | _,_,.cons hv t=>by
  obtain ⟨fs,k,hl,hi⟩:=lK t;obtain ⟨⟨a,o,its,m,rfl,ho,hc,hd,rv⟩,O⟩:=hv;cases rv with
  |nil=>show absurd rfl O
  | cons r1 r2=>
   rename_i v0 x0 l1 l2
   refine ⟨v0::fs,KatTups.cons ho hc hd ZZ k,by rw[qB9,qB9,hl],λf hf=>?_⟩
   grind
end
noncomputable def gx (k:VV):Zz:=k.map λx=>W.tup (x.map W.int)
noncomputable def kW (k:VV):W:=.tup (gx k)
noncomputable def keyOf:R W->Option VV
 | .ok (.tup us)=>(match S9 us with
  |some (a::k)=>some (a::k)
  |_=>none)
 |_=>none
noncomputable def J7 (f:List W->R W):List W->Option (List VV)
 | []=>some []
 | w::r=>match keyOf (f [w]),J7 f r with
  |some k,some ks=>some (k::ks)
  |_,_=>none
def kF (h:keyOf r=some k):r=.ok (kW k)/\k ≠ []:=by
 unfold keyOf at h
 split at h
 .split at h
  .rename_i a k' e
   cases h;rw[lJ e];show ⟨rfl,ZZ⟩
  .cases h
 .cases h
def cg (h:J7 f (w::r)=some ks):∃k O,ks=k::O/\f [w]=.ok (kW k)/\k ≠ []/\J7 f r=some O:=by
 unfold J7 at h
 split at h
 .rename_i k O e1 e2
  cases h;show ⟨k,O,rfl,(kF e1).1,(kF e1).2,e2⟩
 .cases h
def dG:∀{ws:Zz}{ks},J7 f ws=some ks->ks.length=ws.length
 | [],_,h=>by cases h;rfl
 | w::r,_,h=>by
  obtain ⟨k,O,rfl,_,_,e⟩:=cg h;rw[qB9,qB9,dG e]
def nM:∀{ws:Zz}{ks},J7 f ws=some ks->∀k∈ks,k ≠ []
 | [],_,h=>by cases h;simp
 | w::r,_,h=>by
  obtain ⟨k,a0,rfl,_,hn,e⟩:=cg h;intro x O;rcases qC4.mp O with rfl|O
  .show hn
  .show nM e x O
noncomputable def inK (X:Cx):Cx:={ X with A:=X.A.in1.in1,xe:=λ_ _=>False }
def IJ {a:L2.St}(I:Inv X pins a H s):Inv (inK X) pins a H s:=
 ⟨⟨I.ok.mod,I.ok.kind,I.ok.glob,I.ok.blt,I.ok.above,I.ok.inj,I.ok.has,I.ok.cab,I.ok.hd,I.ok.frames,I.ok.stk,I.ok.exf,I.ok.bs,I.ok.bsz,I.ok.noex,I.ok.exfs,I.ok.funs,I.ok.frf,I.ok.tab⟩,I.os,I.bare,I.base,I.loc,I.cell,I.free,I.freeC,I.pin,I.hok,I.len⟩
def DP {a:L2.St}(I:Inv (inK X) pins a H s):Inv X pins a H s:=
 ⟨⟨I.ok.mod,I.ok.kind,I.ok.glob,I.ok.blt,I.ok.above,I.ok.inj,I.ok.has,I.ok.cab,I.ok.hd,I.ok.frames,I.ok.stk,I.ok.exf,I.ok.bs,I.ok.bsz,I.ok.noex,I.ok.exfs,I.ok.funs,I.ok.frf,I.ok.tab⟩,I.os,I.bare,I.base,I.loc,I.cell,I.free,I.freeC,I.pin,I.hok,I.len⟩
def wK {a:L2.St}(I:Inv X pins a H s) (k:∀b o,b≠D->s.heap.get? b=some o->h'.get? b=some o) (hn:H D=none) (hL:D≠X.env.locals) (h1:X.s₀.heap.objs.size<=D) (h2:∀x c,X.env.cells.lookup x=some c->c≠D) (h3:∀p∈X.pn++pins,p.1≠D) (hz:ys.length<=sizeLine) (hv:Vals ys its) (e:h'.get? D=some { cls:=.type "list",data:=.seq its.toArray n }):
  Inv X pins a (upd H D (.lst ys)) { s with heap:=h',toks:=t' }:=by
 have O:∀b u,H b=some u->b≠D:=λb u e z=>ox;refine I.step (d':=s.drawn) (ch:=[D]) (λb hb=>?_) (λb o _ _ hc e _=>k b o (λz=>hc (by simp [z])) e) (λb o _ _ hc e _=>⟨o.slots,k b o (λz=>hc (by simp [z])) e⟩) (λb _ hc _ n=>by grind[c7])
  (λb o hc e=>⟨o,k b o (λz=>hc (by simp [z])) e⟩) (λb _ e=>by rw[c7 (O b _ e)];show e) (λb _ _ e=>by rw[c7 (O b _ e)];show e) (λb _ e=>by rw[c7 (O b _ e)];show e) (λm hm=>?_) (λb u e1=>?_) I.bare
 .have e:b=D:=by simpa using hb
  subst e;show ⟨.inr h1,hL,h2,h3⟩
 .obtain ⟨o,es,ep,ho,r⟩:=hm;show ⟨o,es,ep,k _ o (Ne.symm hL) ho,r⟩
 .by_cases q:b=D
  .subst q;rw[U3]at e1;cases e1;show ⟨hz,its,n,hv,e⟩
  .rw [c7 q]at e1
   refine (I.hok b u e1).stay (λc v hc q'=>k c v ?_ q') (λc q'=>by rw[c7 (O c _ q')];show q') λc _ q'=>by rw[c7 (O c _ q')];show q'
   omega
section
open PySem.W PyProof.Rows
def zO {K}{c:L2.St}(b4:Y.xe=λ_ _=>False) (F:FnOk Y.prog Y.w Y.K Y.mg Y.base CX0 k f fd ps (spM K 1 .F (i3 1 N m))) (hr:Room k Y.A) (hb:Binds Y.K fd ps []) (a3:∀ x s (P:VZ) (C:Shared->Prop),wpAny (model Y.prog Y.w) Y.A (call (.ref f) [x]) P (λ_ _=>False) s ->
   (∀u s',P u s'->∃its n,s'.heap.get? kS=some (seqObj "list" its n)/\its.size<64/\C { s' with heap:=s'.heap.update kS (Obj.mapSeq (·.push u)) })->wpAny (model Y.prog Y.w) Y.A (body x ⟨⟩) (λr s'=>r=.yield ⟨⟩/\C s') E s):
  ∀ (r:Vy) (yr:List V) (wr:Zz) (kr:List VV) (kvs:List V) (kd:List VV) s H G,Inv Y pn c H s->Vals yr r->Reps K G yr wr->J7 (i3 1 N m) wr=some kr ->
   H kS=some (.lst kvs)->Same G H->G kS=none->Reps K G kvs (kd.map kW)->kvs.length+r.length<64 ->
   wpAny (model Y.prog Y.w) Y.A (forIn r PUnit.unit body) (λ_ s'=>∃H' G' a0,Inv Y pn c H' s'/\H' kS=some (.lst a0)/\Same G G'/\Same G' H'/\G' kS=none/\Reps K G' a0 ((kd++kr).map kW)) E s
 := by
 intro r
 induction r with
 | nil=>
  intro yr wr kr kvs kd s H G I rv a4 hk hS sG gk rk hl;cases rv;cases a4;cases hk;rw[qG0];show qN2 ⟨H,G,kvs,I,hS,Same.refl G,sG,gk,rk⟩
 | cons x r ih=>
  intro yr wr kr kvs kd s H G I rv a4 hk hS sG gk rk hl;obtain ⟨y,yr,rfl,rx,rr⟩:∃y a5,yr=y::a5/\RelV y x/\Vals a5 r:=by
   cases rv with
   |cons a b=>show ⟨_,_,rfl,a,b⟩
  obtain ⟨w,wr,rfl,ry,b6⟩:∃w ab,wr=w::ab/\Rep K G y w/\Reps K G yr ab:=by
   cases a4 with
   |cons a b=>show ⟨_,_,rfl,a,b⟩
  obtain ⟨key,b3,rfl,hf,cn,c1⟩:=cg hk;rw[qB9]at hl;rw[qT7];have call:=uW (us:=[x]) (E:=_) (Q:=λv H2=>∃G2,_/\_/\_=none/\_) F hr hb .nil lh I (.cons rx .nil) ⟨rfl,[w],.cons (ry.same sG) .nil,by
   rw[hf];show λv G2 H2 s1 s2 cl md=>⟨G2,s1,s2,cl kS _ hS rfl,md⟩⟩
  rw[b4]at call;refine qA0 (qO5 (a3 x s _ (λa7=>∃H3 G3 O,Inv Y pn c H3 a7/\H3 kS=some (.lst O)/\O.length=kvs.length+1/\Same G G3/\Same G3 H3/\G3 kS=none/\Reps K G3 O ((kd ++ [key]).map kW)) call λu s' hp=>?_) (λq s' hq=>?_) λ_ _ x=>x)
  .obtain ⟨v,H2,I2,rv,G2,sH,s2,g2,r2⟩:=hp;have b0:=sH _ _ hS;obtain ⟨z,its,n,rI,hlen,e⟩:=I2.lstM b0;refine ⟨its.toArray,n,e,by rw[qC1];omega,?_⟩;have sB:Same G (both G G2):=λb o q=>by unfold both;rw[q]
   have cc:Same G2 (both G G2):=λb o q=>by
    unfold both;cases q1:G b with
    |none=>show q
    | some u=>
     have a1:=sH b u (sG b u q1);rw[s2 b o q]at a1;show a1.symm
   have c4:Same (both G G2) H2:=λb o q=>by
    unfold both at q;cases q1:G b with
    |none=>rw[q1]at q;show s2 b o q
    |some u=>rw[q1]at q;cases q;show sH b _ (sG b _ q1)
   have bk:both G G2 kS=none:=by unfold both;rw[gk];show g2
   refine ⟨upd H2 kS (.lst (kvs ++ [v])),both G G2,kvs ++ [v],I2.lset (t':=s'.toks) (its':=its ++ [u]) b0 e ZZ (rI.append (.cons rv .nil)) (by rw[qB8,qE6,qO1];omega),U3,by rw[qB8,qE6],sB,λb o q=>?_,bk,?_⟩
   .rw[c7 (i0 q bk)];show c4 b o q
   .rw [qC7]
    show (rk.same sB).append (.cons (r2.same cc) .nil)
  .obtain ⟨rfl,H3,G3,O,I3,c3,cp,s3,c5,g3,r3⟩:=hq
   change wpAny (model Y.prog Y.w) Y.A (forIn r PUnit.unit body) _ E s';refine qO5 (ih yr wr b3 O (kd ++ [key]) s' H3 G3 I3 rr (b6.same s3) c1 c3 c5 g3 r3 ox) (λ_ a7 hq=>?_) λ_ _ x=>x;obtain ⟨H4,G4,a6,I4,b5,s4,c0,g4,r4⟩:=hq;show ⟨H4,G4,a6,I4,b5,s3.trans s4,c0,g4,by rw[qW2]at r4;show r4⟩
def Ia {K}{d:L2.St}(hK:Y.K=K) (I:Inv Y pn d H s) (sG:Same G H) (r:Rep K G v (kW k)) (ru:RelV v u):oP s.heap u k:=by
 subst hK;obtain ⟨a0,a7,rfl,h0,r0⟩:=r.inv
 .cases ru;obtain ⟨its,rv,⟨o,e,c,n,dd⟩,_⟩:=I.tuple (SqT.of (sG _ _ h0));refine ⟨_,o,its,n,rfl,e,c,dd,?_⟩;have go:∀{vs:_}{its:_}{k:_},Vals vs its->Reps Y.K G vs (k.map λx=>W.tup (x.map W.int))->Paired (M4 s.heap) its k:=by
   intro vs its k
   induction k generalizing vs its with
   |nil=>intro a b;have b:=b.inv;subst b;cases a;show .nil
   | cons x k ih=>
    intro a b;obtain ⟨v1,a6,rfl,b1,b2⟩:=b.inv
    .cases a with
     | cons a1 a2=>
      refine .cons ?_ (ih a2 b2);obtain ⟨a3,ab,rfl,h1,r1⟩:=b1.inv
      .cases a1;have e1:=Reps.ints r1 (ints_map x);subst e1;obtain ⟨O,a5,⟨o2,e2,c2,n2,a4⟩,_⟩:=I.tuple (SqT.of (sG _ _ h1));show ⟨_,o2,O,n2,rfl,e2,c2,a4,a5⟩
  show go rv r0
def DM {K}{c:L2.St}(hK:Y.K=K) (I:Inv Y pn c H s) (sG:Same G H):∀{vs}{its:Vy}{ks:List VV},Vals vs its->Reps K G vs (ks.map kW)->(∀k∈ks,k ≠ [])->Paired (λv xs=>oP s.heap v xs/\xs ≠ []) its ks:=by
 intro vs its ks
 induction ks generalizing vs its with
 |nil=>intro a b _;cases b;cases a;show .nil
 | cons x k ih=>
  intro a b hn;cases b with
  | cons b1 b2=>
   cases a with
   |cons O a2=>show .cons ⟨Ia hK I sG b1 O,hn x qB2⟩ (ih a2 b2 λk hk=>hn k (qA6 _ hk))
end
section
open PySem.W PyProof.Rows
def gU:∀{as a0:Vy}{bs O:List b},Paired F as bs->Paired F a0 O->Paired F (as++a0) (bs++O)
 |_,_,_,_,.nil,h=>h
 |_,_,_,_,.cons a t,h=>.cons a (gU t h)
def yC {F:Value->b->Prop}(h:Paired F as bs):Paired F as.reverse bs.reverse:=by
 induction h with
 |nil=>show .nil
 | cons a _ O=>
  rw[qK0,qK0];show gU O (.cons a .nil)
def uC {K}{g:L2.St}(hK:Y.K=K) (hu:Y.A.units+64<cLine) (I:Inv Y ((D,seqObj "list" #[] e1)::pins) g H s) (cc:Y.s₀.heap.objs.size<=D) (c1:∀p∈Y.pn++pins,p.1≠D) (d0:D≠kS) (hS:H kS=some (.lst kvs)) (sG:Same G H) (gk:G kS=none) (rk:Reps K G kvs (ks.map kW)) (b3:∀k∈ks,k ≠ []) (rv:Vals ys vs) (hl:ks.length=vs.length) (cn:vs.length<64) (h:∀s' H',Inv Y pins g H' s'->Same G H'->H' D=some (.lst (z9 ks V.non ys))->P (.done (.ret .none)) s'):∀its n,s.heap.get? kS=some (seqObj "list" its n)->wpAny (model Y.prog Y.w) Y.A (ksk_end D true vs.toArray e1 (.ref kS) its) P E s:=by
 intro its n hits;obtain ⟨z,kl,n',rI,hlen,e⟩:=I.lstM hS;rw[e]at hits;cases hits;have ab:kl.length=vs.length:=by rw[<- hlen,rk.length,qA4,hl]
 have cv:=rv.length;obtain ⟨pD,nD,b0,d1,_⟩:=I.pin _ (qD5 _ qB2);have nD:=nD
 -- the tail
 have tail:∀st,failedOf st=none->(arrOf st).map (·.2)=_->wpAny (model Y.prog Y.w) Y.A (ksk_tail D true e1 _ st) P E s:=λst hf c0=>by
  have a7:((V6 ks.reverse).map λi=>vs.reverse.getD i Value.none).toArray.reverse=(z9 ks Value.none vs).toArray:=by unfold z9;simp
  have I1:=I.lset (t':=s.toks) (f:=λ_=>#[]) (its':=[]) (ys:=[]) hS e rfl .nil (qC6 _);obtain ⟨p1,n1,_⟩:=I1.pin (D,seqObj "list" #[] e1) (qD5 _ qB2);have I2:=I1.pins_of (pins':=pins) λp hp=>I1.pin p (qD5 _ (qA6 _ hp));have hsz:(z9 ks Value.none vs).toArray.size<=sizeLine:=by rw[qC1,mP,qO1];omega
  unfold ksk_tail;dsimp only;rw[c0,qA2 rfl,a7];refine qA0 (listUpdate_at e rfl ?_ (by rw[qC1,qO1];omega) (qC6 _));refine qA0 (qQ2 ?_);refine qA0 (seqEpoch_at p1 rfl ?_);refine qA0 (listUpdate_at p1 rfl ?_ (qC6 _) (Nat.le_succ_of_le hsz));rw[hf];simp only [qW5,qE7,qO2];refine qN2 (h _ (upd (upd H kS (.lst [])) D (.lst (z9 ks V.non ys))) (wK (s:={ s with heap:=s.heap.update kS (Obj.mapSeq λ_=>(#[]:VQ)) }) (t':=s.toks) (its:=z9 ks Value.none vs) (n:=_) I2 (λb o hb q=>(qK4 _ _ (Ne.symm hb)).trans q) n1 b0 cc (λx c hc=>?_) c1 (by rw[mP,qO1];omega) ?_ (get?_update_seq p1 λ_=>(z9 ks Value.none vs).toArray)) (λb o q=>?_) U3)
  .rintro rfl;obtain ⟨v,o,ho,hd⟩:=I1.cell x _ hc;omega
  .unfold z9;have c3:Vals ys.reverse vs.reverse:=rv.reverse;refine Vals.reverse (P9 λi hi=>?_);have c5:i<ys.reverse.length:=by
    grind[O8]
   obtain ⟨u,eu,q⟩:=F5 (d:=V.non) c3 c5;rw[show vs.reverse.getD i Value.none=u by rw[qA3,eu];rfl];show q
  .have c4:b≠D:=by rintro rfl;rw[sG b o q]at nD;cases nD
   have b5:b≠kS:=ox;rw[c7 c4,c7 b5];show sG b o q
 have a0:((List.toArray kl).zip vs.toArray).reverse=(List.toArray kl.reverse).zip (List.toArray vs.reverse):=kat_pairs true ab;unfold ksk_end;dsimp only;rw[qA2 rfl,qA2 rfl,a0];refine qA0 (qR2 ?_);by_cases c2:vs.toArray.size<2
 .rw [qA2 c2,qA2 c2]
  refine qA0 (qN2 ?_);rw[StateT.run_pure];refine qA0 (qN2 ?_);dsimp only;refine tail _ rfl ?_;have cp:vs.length<2:=by simpa using c2
  have e3:(V6 ks.reverse).map (λi=>vs.reverse.getD i Value.none)=vs.reverse:=by
   unfold V6;rw[qA2 (by rw[qD0];omega),show ks.reverse.length=vs.reverse.length by rw[qD0,qD0,hl],jV]
  rw[e3]
  change Array.map (λx=>x.snd) ((List.toArray kl.reverse).zip (List.toArray vs.reverse))=vs.reverse.toArray;apply Array.toList_inj.mp;rw[Array.toList_map,Array.toList_zip];apply qF4
  .simp [ab]
  .intro i h1 h2;simp
 .rw [qA8 c2,qA8 c2]
  have h2:2<=vs.length:=by simpa using c2
  have tt:=DM hK I sG rI rk b3;obtain ⟨fs,kt,fl,fi⟩:=lK tt;have a6:=yC tt;refine qA0 (kat_kind (T:=.type "tuple") kt ox (λv hv=>?_) ZQ ?_)
  .obtain ⟨x,a,o,its,m,rfl,ho,hc,_⟩:=fi v hv;rw[<- hc];show (Looks.ld ho).andThen .now
  have a5:kl.reverse.length=vs.reverse.length:=by grind
  have hw:(kas_sort vs.reverse.length).kasWp (kas_ask Y.prog Y.w Y.A (tuples' (Value.type "tuple" != Value.type "tuple")) kl.reverse) (λp s'=>s'=s/\p.toList=V6 ks.reverse) s:=by
   refine wp_run (n:=vs.reverse.length) (r:=W2 ks.reverse) (λi j C hi hj hC=>?_) (oK (by rw[qD0];omega)) ⟨rfl,?_⟩
   .rw [<- a5]at hi hj
    obtain ⟨x,hx,tx⟩:=F5 (d:=Value.none) a6 hi;obtain ⟨y,hy,ty⟩:=F5 (d:=Value.none) a6 hj;have cy:ks.reverse.length=kl.reverse.length:=by grind
    rw[mB ox ox]at hC;have ex:ks.reverse.getD i []=x:=by rw[qA3,hx];rfl
    have ey:ks.reverse.getD j []=y:=by rw[qA3,hy];rfl
    rw[ex,ey]at hC;show DG hu tx.1 ty.1 hC
   .unfold V6;rw[qA8 (by rw[qD0];omega),show ks.reverse.length=vs.reverse.length by rw[qD0,qD0,hl]]
  refine qA0 (qO5 (kat_run (Q:=λO s'=>s'=s/\(arrOf O).map (·.2)=((V6 ks.reverse).map λi=>vs.reverse.getD i Value.none).toArray/\failedOf O=none) a5 (by rw[qD0];show h2) (by rw[qD0];show cn) (λp O s' a1 a2 a3 a4=>⟨a4.1,by rw[kat_snds a5 a2,a4.2],a3⟩) hw) ?_ λ_ _ e=>e);rintro ⟨⟨⟩,O⟩ s' ⟨rfl,b6,b4⟩;show tail O b4 b6
def rV {K}{a:L2.St}(b0:Y.xe=λ_ _=>False) (hK:Y.K=K) (F:FnOk Y.prog Y.w Y.K Y.mg Y.base CX0 k f fd ps (spM K 1 .F (i3 1 N m))) (hr:Room k Y.A) (hb:Binds Y.K fd ps []) (I:Inv Y ((D,seqObj "list" #[] e1)::pins) a H s) (ab:Y.s₀.heap.objs.size<=D) (b5:∀p∈Y.pn++pins,p.1≠D) (b3:D≠kS) (hS:H kS=some (.lst [])) (sG:Same G H) (gk:G kS=none) (rv:Vals ys vs) (a4:Reps K G ys ws) (O:J7 (i3 1 N m) ws=some ks) (a5:vs.length<64) (h:∀s' H',Inv Y pins a H' s'->Same G H'->H' D=some (.lst (z9 ks V.non ys))->P (.done (.ret .none)) s'):wpAny (model Y.prog Y.w) Y.A (ksk_rest D (.ref f) true vs.toArray e1 (.ref kS)) P E s:=by
 have hl:ks.length=vs.length:=by rw[dG O,<- a4.length,rv.length]
 refine qA0 (qR2 ?_)
 first
  |rw[List.forIn_toArray]
  | (simp [List.toList_toArray])
  |rw[<- qV2]
 refine qA0 (qO5 (zO (E:=E) b0 F hr hb (λx s' Pc C hc hP=>?_) vs ys ws ks [] [] s H G I rv a4 O hS sG gk .nil (by simpa using a5)) (λ_ s' hd=>?_) λ_ _ x=>x)
 .refine qA0 (wpAny_attempt (qO5 hc (λu a0 hk=>?_) λ_ _ hF=>hF.elim));obtain ⟨its,n,a7,hz,hC⟩:=hP u a0 hk;refine qA0 (listUpdate_at a7 rfl ?_ (by rw[qO1];omega) (qD3 (Nat.le_of_eq (Array.size_push ..)) (by rw[qO1];omega)));show qN2 ⟨rfl,hC⟩
 .obtain ⟨H',G',b6,I',a3,s1,s2,g',r'⟩:=hd;obtain ⟨z,kl,n',rI,hlen,e⟩:=I'.lstM a3;refine qA0 (listItems_at e rfl ?_);show uC hK (by have:=hr.units;omega) I' ab b5 b3 a3 s2 g' (by simpa using r') (nM O) rv hl a5 (λa0 b4 a6 q1 q2=>h a0 b4 a6 (s1.trans q1) q2) _ _ e
end
section
open PySem.W PyProof.Rows
def tH {K}(F:FnOk X.prog X.w X.K X.mg X.base CX0 k f fd ps (spM K 1 .F (i3 1 N m))) (hr:Room (k+2) X.A) (hb:Binds X.K fd ps []) (hK:X.K=K){a:L2.St}(I:Inv X pins a H s) (hq:SqL K H p ys) (a4:Reps K H ys ws) (b3:J7 (i3 1 N m) ws=some ks) (cc:ws.length<64) (h:∀l H',H l=none->Same H H'->H' l=some (.lst (z9 ks V.non ys))->Q (.ref l) H'):
  wpAny (model X.prog X.w) X.A (call (.builtin "sorted") [.ref p] [(Str.ofString "key",.ref f),(Str.ofString "reverse",.bool true)]) (EP X pins a Q) X.xe s:=by
 subst hK;obtain ⟨vs,rv,pl,hz⟩:=I.list hq;have hlen:=rv.length;have c3:=a4.length;refine call_function_entry_kw kind_sorted plain_sorted entry_sorted (ksk_s2 ..) ?_;refine qA0 (qN2 ?_);refine qA0 (collect_list pl.isList ?_ ox);refine qA0 (qS3 ?_ (by rw[qO1];omega));generalize hg:(s.heap.push (seqObj "list" #[] 0)).update s.heap.objs.size (Obj.mapSeq (·++vs.toArray))=g
 have gz:g.objs.size=s.heap.objs.size+1:=by rw[<- hg,qY5,size_push']
 have gk:∀b o,s.heap.get? b=some o->g.get? b=some o:=λb o e=>by
  have ab:=qB0 e;rw[<- hg,qL6 _ _ _ _ (qB7 ab)];show qA1 _ e
 have go:(g.push (seqObj "list" vs.toArray 0)).get? (s.heap.objs.size+1)=some (seqObj "list" vs.toArray 0):=by rw[<- gz];show qB5 _ rfl
 change wpAny _ _ _ _ _ { s with heap:=g.push (seqObj "list" vs.toArray 0) };rw[gz];refine qA0 (qN6 (wpAny_call_entry_kw slot_list_sort ⟨_,go,rfl⟩ entry_list_sort ?body (ksk_l2 _ _ _)))
 case body=>
  generalize c4:s.heap.objs.size+1=D at *
  change wpAny (model X.prog X.w) X.A.in1.in1 (Builtin.«list.sort» ⟨[.ref D],[(Str.ofString "key",.ref f),(Str.ofString "reverse",.bool true)]⟩) _ _ _;rw[ksk_t2];generalize a7:g.push (seqObj "list" vs.toArray 0)=g2 at *
  have c1:g2.objs.size=D+1:=by rw[<- a7,size_push',gz]
  have b4:∀b o,s.heap.get? b=some o->g2.get? b=some o:=λb o e=>by rw[<- a7];show qA1 _ (gk b o e)
  obtain ⟨e1,a6⟩:∃e1,(g2.update D (Obj.mapSeq λ_=>(#[]:VQ))).get? D=some (seqObj "list" #[] e1):=⟨_,get?_update_seq go λ_=>#[]⟩;unfold ksk_tree;refine qA0 (listItems_at go rfl ?_);refine qA0 (listUpdate_at go rfl ?_ (by rw[qC1,qO1];omega) (qC6 _));refine qA0 (seqEpoch_at a6 rfl ?_);refine qA0 (qR3 ?_ (by change vs.length<=_;rw[qO1];omega));refine qA0 (qS3 ?_ (qC6 _));refine qN6 ?_;have O:s.heap.objs.size<=D:=ox;have a3:H D=none:=I.hok.fresh O;generalize a0:(g2.update D (Obj.mapSeq λ_=>(#[]:VQ))).push (seqObj "tuple" vs.toArray 0)=g3
  have c5:g3.objs.size=D+2:=by rw[<- a0,size_push',qY5,c1]
  have c0:∀b o,s.heap.get? b=some o->g3.get? b=some o:=λb o e=>by
   rw[<- a0];show qA1 _ (by rw[qL6 _ _ _ _ (qB7 (qB4 (qB0 e) O))];show b4 b o e)
  have b5:g3.get? D=some (seqObj "list" #[] e1):=by rw[<- a0];show qA1 _ a6
  have I3:=I.kept (t':=s.toks) c0;have b0:D≠X.env.locals:=qI6 (qB4 I.lt O);have I4:=I3.pins_of (pins':=(D,seqObj "list" #[] e1)::pins) λq hq=>by
   rcases qC4.mp hq with rfl|hq
   .show ⟨b5,a3,b0,I.nofs O,λv z=>by cases z⟩
   .show I3.pin q (qD5 _ hq)
  have a5:H g3.objs.size=none:=I.hok.fresh ox;have I5:=I4.lnew (t':=s.toks) (its:=[]) (ys:=[]) .nil (qC6 _);refine rV (Y:=inK X) (K:=X.K) (G:=H) (ys:=ys) (ws:=ws) (ks:=ks) (kS:=g3.objs.size) rfl rfl F (hr.in1.in1) hb (IJ I5) ?_ ?_ ?_ U3 (λb o q=>?_) a5 rv a4 b3 ox λs' H' I' sH b6=>?_
  .show qD3 I.sz O
  .intro q hq;show qB7 (qB4 (qB0 (I.pin q hq).1) O)
  .omega
  .rw[c7 (i0 q a5)];show q
  .show ⟨_,rfl,qN2 ⟨_,rfl,.ref D,H',DP I',rfl,h D H' a3 sH b6⟩⟩
end
noncomputable def dO (c:Bool) (f:List W->R W):List W->R W
 | [w]=>(match lstOf w with
  | some ws=>(match J7 f ws with
   |some ks=>if ws.length<64 then chks c (z9 ks W.non ws) else .stuck
   |none=>.stuck)
  |none=>.stuck)
 |_=>.stuck
def vc (r:Reps K F ys ws) (hl:ks.length=ws.length):Reps K F (z9 ks V.non ys) (z9 ks W.non ws):=by
 refine Reps.reverse (fN λi hi=>?_);have O:i<ys.reverse.length:=by
  have:=(O8 _).mem_iff.mp hi
  have:=r.length
  rw[qH6,qD0]at *;omega
 obtain ⟨w,e,q⟩:=iW r.reverse O;rw[show ws.reverse.getD i W.non=w by rw[qA3,e];rfl];show q
def vg (K:Frag)(f:List W->R W):List V->Hp->VK->Prop:=λxs H Q=>∃p ys ws ks,xs = [.ref p]/\SqL K H p ys/\Reps K H ys ws/\J7 f ws=some ks/\ws.length<64/\∀l H',H l=none->Same H H'->H' l=some (.lst (z9 ks V.non ys))->Q (.ref l) H'
def EO:Cal K (cb c) .F (vg K f) (dO c f):=by
 intro EX H0 Hs G H d b Ha vs ws Q I s m o;cases m with
 |nil=>show o.elim
 | cons a t=>
  cases t with
  |cons _ _=>show o.elim
  | nil=>
   rename_i w v
   unfold dO at o;cases hl:lstOf w with
   |none=>simp [hl]at o;show o.elim
   | some us=>
    simp [hl]at o;cases O:J7 f us with
    |none=>simp [O]at o;show o.elim
    | some ks=>
     simp [O]at o;by_cases hc:us.length<64
     .rw [qA2 hc]at o
      obtain ⟨p,ys,rfl,hs,r⟩:=Md.lstOf I a hl;have sm:Same (if c then G else join H0 G) H:=by
       cases c with
       |true=>show I.gh
       |false=>show I.join_H
      refine ⟨p,ys,us,ks,rfl,hs,r.same sm,O,hc,λl H' hn sH a0=>?_⟩;unfold TP.chks at o;by_cases n:(c||m5 (z9 ks W.non us))=true
      .rw [qA2 n]at o
       have ro:=vc r (dG O);have r':Reps K G (z9 ks V.non ys) (z9 ks W.non us):=by
        grind[Reps.clean]
       show o _ G H' ⟨Same.refl G,sH,I.gh.trans sH,λ_ _ _ _ e=>e⟩ ⟨l,_,rfl,a0,I.gh.free hn,s.free hn,r'⟩
      .rw[qA8 n]at o;show o.elim
     .rw[qA8 hc]at o;show o.elim
def Lg (hg:Gl X x) (hm:X.mg x=some (.ref f)) (O:(x == ("__debug__"))=false:=by decide):PK X [⟨n1,.Name x p,kp1⟩,⟨n2,.Constant (.bool true) kt p2,kp2⟩] (bJ (tC (.ref f)) (bJ (tC (.bl true)) tNil)):=
 qg (λpins s a H Q I h=>qD I hg hm ⟨.ref f,H,I,rfl,h⟩ O) (qg pe_bl Hr)
def CA {X:Cx}{K}{EX}{e}{pos}{mr:Zw}{k}{f}{fd}{ps}{x y}{p p1 p2 a3 O}{kt}{N}{m}{c}(F:FnOk X.prog X.w X.K X.mg X.base CX0 k f fd ps (spM K 1 .F (i3 1 N m))) (hr:Room (k+2) X.A) (hg:Gl X x) (hm:X.mg x=some (.ref f)) (hb:Binds X.K fd ps []) (b5:Gl X y) (c0:X.mg y=none) (b3:bootBuiltins y=some (.builtin "sorted")) (ha:PA X [e] (tA K EX (cb c) mr)) (hK:X.K=K:=by rfl) (c3:(x == ("__debug__" : Str))=false:=by decide) (hn:y ≠ "__name__" := by decide) (ab:(y == ("__debug__" : Str))=false:=by decide) (he:backTo pos (starEach [e] X.env)=(false,eval e X.env)::backTo pos (starEach [] X.env):=by rfl) (a0:(backTo pos (starEach [e] X.env)).any (·.1)=false:=by rfl) (a4:(backToKw pos (keywordEach [⟨some "key",.Name x p1,a3⟩,⟨some "reverse",.Constant (.bool true) kt p2,O⟩] X.env)).all (·.1.isSome)=true:=by rfl) (b0:(backToKw pos (keywordEach [⟨some "key",.Name x p1,a3⟩,⟨some "reverse",.Constant (.bool true) kt p2,O⟩] X.env)).any (·.1.isNone)=false:=by rfl) (c4:(backToKw pos (keywordEach [⟨some "key",.Name x p1,a3⟩,⟨some "reverse",.Constant (.bool true) kt p2,O⟩] X.env)).filterMap (·.1) = [Str.ofString "key",Str.ofString "reverse"]:=by rfl):
  PE X (.Call (.Name y p) [e] [⟨some "key",.Name x p1,a3⟩,⟨some "reverse",.Constant (.bool true) kt p2,O⟩] pos) (tM K EX .F (bA (dO c (i3 1 N m)) mr)):=by
 intro pins s a H Q I h;have h:=tK (EO (f:=_)) h;refine qN7 (F0 I b5 c0 b3 ?_ hn ab);refine qY7 (thn (ha pos pins s a H _ I h) λus s1 a5=>?_) he a0 a4 b0;obtain ⟨vs,H1,I1,r1,q1⟩:=a5;refine thn (Lg hg hm c3 pos pins s1 a H1 (λzs H2=>zs = _/\vg K _ vs H2 Q) I1 ⟨rfl,q1⟩) λus2 s2 a7=>?_;obtain ⟨zs,H2,I2,rz,hz,q2⟩:=a7;subst hz;obtain ⟨p0,ys,ws,ks,rfl,hq,b6,a6,c1,hQ⟩:=q2;obtain ⟨u,rfl,ru⟩:=D7 r1;cases ru;cases rz with
 | cons r2 rz=>
  cases r2;obtain ⟨u2,rfl,b4⟩:=D7 rz;cases b4;show tH F hr hb hK I2 hq b6 a6 c1 hQ
section
open PySem.W PyProof.Rows
end
end TP
namespace TP
open PySem PyProof.Rows
noncomputable def kk (O:Keyed->Int) (xs:Array Keyed) (i:Nat):Int:=match xs[i]? with
 |some p=>O p
 |none=>0
def sb1 (h0:0<n) (h:n<=A):A-(n-1)=A-n+1:=by
 cases n with
 |zero=>show absurd h0 (qE9 _)
 |succ m=>show (qZ2 (Nat.sub_pos_of_lt h)).symm
def sb2 {A:Nat}(h:n<=A)(hk:k<=n):A-k=A-n+(n-k):=(Nat.sub_add_sub_cancel h hk).symm
def sb3 {lo:Nat}(O:q<=x)(h:lo+x-q<=k):x-q<=k-lo:=by rw[qW7 O]at h;show Nat.le_sub_of_add_le' h
def sb4 {lo:Nat}(O:q<=x)(h:lo+x-q<=k):lo+(k-lo)=k:=qL5 (qD3 (by rw[qW7 O];show qJ3 ..) h)
def sb5 {lo}(h:0<j):lo+(j-1)=lo+j-1:=(qW7 h lo).symm
def upL (O:Keyed->Int)(l:List Keyed):Prop:=l.Pairwise λx y=>O x<=O y
def Gd (rk:Keyed->Int)(t O:List Keyed):Prop:=O.Perm t/\upL rk O
noncomputable abbrev gS (st:SortSt)(g:Nat):SortSt:=SortSt.mk' (kindOf st) (arrOf st) (pendingOf st) g (failedOf st)
noncomputable abbrev rn (O:Keyed->Int)(x:Keyed):Int:=-O x
noncomputable abbrev rv (a:Array Keyed):List Keyed:=a.toList.reverse
def pV:(rv a).drop (a.size-k)=(a.toList.take k).reverse:=by
 rw[List.reverse_take];simp
def Gd.rv (h:Gd (rn rk) (rv a++rv b) res.reverse):Gd rk (a.toList++b.toList) res:=by
 refine ⟨?_,?_⟩
 .refine (qK5 res).symm.trans (h.1.trans ?_);show List.Perm.append (qK5 _) (qK5 _)
 .have:=h.2
  unfold upL at this ⊢;rw[qS8]at this;show this.imp λq=>by
   have q:-_ <= -_:=q;omega
def IR {out:Array Keyed}{nb}(h:Gd (rn rk) (rv a++rv b) (out.toList++(rv b).drop (b.size-nb)++(rv a).drop (a.size-na))):Gd rk (a.toList++b.toList) (a.extract 0 na++b.extract 0 nb++out.reverse).toList:=by
 refine Gd.rv ?_;rw[pV,pV]at h;simp_all
end TP
namespace TP
open PySem L2
section
open PySem.W PyProof.Rows
open Classical in
def rkV (vs:Vy)(ss:VV)(p:Keyed):Int:=if h:∃i,i<vs.length/\vs.getD i Value.none=p.1 then T4 ss h.choose else 0
end
def spX (K:Frag) (n:Nat) (f:List W->R W):Sp:=λvs H Q E=>vs.length=n/\∃F ws,Same F H/\Reps K F vs ws/\match f ws with
 | .ok w=>∀v G' H',Same F G'->Same H H'->Same G' H'->(∀a o,H a=some o->isL o=true->F a=none->G' a=none)->Rep K G' v w->Q v H'
 | .ex e=>∀H',Same H H'->XE E e H'
 | .stuck=>False
def Y5 (n N:Nat) (m:Zv) (ws:Zz):R W:=if ws.length=n then (m (ws.map Sl.val++List.replicate (N-n) Sl.un)>>=λf=>match f with
 | .rt w=>.ok w
 | .nx _=>.ok .non
 |_=>.stuck) else .stuck
def yx ws (h:Y5 n N m ws≠.stuck):ws.length=n:=by
 grind[Y5]
noncomputable def less (H F:Hp):Hp:=λa=>match F a with
 |some _=>none
 |none=>H a
def nK (h:F a=none):less H F a=H a:=by unfold less;rw[h]
theorem nJ (h:less H F a=some o):F a=none/\H a=some o:=by
 grind[less]
def jS (sF:Same F H) (O:Same (less H F) H') (h2:Same F H'):Same H H':=λa o e=>by
 cases q:F a with
 |none=>show O a o (by rw[nK q];show e)
 | some u=>
  have:=sF a u q
  rw[e]at this;cases this;show h2 a o q
def HK (h:Q2 H a=some o):H a=some o/\isL o=false:=by
 grind[Q2]
def uD:∀{vs}{ws:Zz}{i:Nat}{x}{o}{k k'},Reps K F vs ws->(ws.map Sl.val++List.replicate k Sl.un)[i]?=some x->(vs.map some++List.replicate k' none)[i]?=some o->x=.un\/∃v w,x=.val w/\o=some v/\Rep K F v w
 | _,_,i,x,o,k,k',.nil,h1,h2=>by
  simp only [qK6,List.nil_append,qR6]at h1
  split at h1 <;> simp [reduceCtorEq]at h1
  show .inl h1.symm
 | _,_,0,x,o,k,k',.cons r _,h1,h2=>by
  simp at h1 h2;show .inr ⟨_,_,h1.symm,h2.symm,r⟩
 | _,_,i+1,x,o,k,k',.cons _ t,h1,h2=>by
  show uD t h1 h2
def PIv.beginX (sF:Same F H) (r:Reps K F vs ws) (hk:k=k'):PIv K (less H F) (both F (Q2 H)) (ws.map Sl.val++List.replicate k Sl.un) (vs.map some++List.replicate k' none) H where
 g0 a o e l:=by
  grind[nJ,both,Q2]
 gl a o e l:=by
  grind[nJ,both,Q2]
 gh a o e:=by
  unfold both at e;cases q:F a with
  |none=>rw[q]at e;show (HK e).1
  |some u=>rw[q]at e;cases e;show sF a _ q
 hh a o e:=(nJ e).2
 len:=by subst hk;simp [r.length]
 sl i x o h1 h2:=by
  rcases uD r h1 h2 with rfl|⟨v,w,rfl,rfl,q⟩
  .trivial
  .show ⟨v,rfl,q.same λb u e=>by unfold both;rw[e]⟩
 ne i j us xs a hij h1 _ _ _:=by
  grind
def EI (h:spX K n (Y5 n Nl.length m) vs H Q E):tSt K (λ_ _=>False) .V m { nx:=λ_ H'=>Q .non H',rt:=Q } (L2.start Nl vs) H:=by
 obtain ⟨hl,F,ws,sF,r,o⟩:=h;have hw:ws.length=n:=by rw[<- r.length];show hl
 unfold Y5 at o;rw[qA2 hw]at o;have O:Same F (both F (Q2 H)):=λb u e=>by unfold both;rw[e]
 refine ⟨_,_,_,PIv.beginX sF r (by rw[hl]),?_⟩
 revert o
 cases m _ with
 |stuck=>show id
 |ex e=>show λo=>(o H (Same.refl H)).elim
 | ok f=>
  cases f with
  |nx a3=>show λo G' a0 H' s' I'=>o _ G' H' (O.trans s') (jS sF I'.hh ((O.trans s').trans I'.gh)) I'.gh (λa o e l q=>I'.gl a o (by rw[nK q];show e) l) .non
  |rt w=>show λo v G' H' s0 s1 s2 c md=>o v G' H' (O.trans s0) (jS sF s2 ((O.trans s0).trans s1)) s1 (λa o e l q=>c a o (by rw[nK q];show e) l) md
  |bk _=>show λo=>o.elim
  |ct _=>show λo=>o.elim
def MdA.repsV:∀{ws:Zz}{vs},MdA K .V H0 Hs G H ws vs->Reps K G vs ws
 |_,_,.nil=>.nil
 |_,_,.cons h t=>.cons h (MdA.repsV t)
def AI (hf:∀ws,f ws≠.stuck->ws.length=n) (hE:∀e H,EX e H->XE E e H) (h:tM K EX .V (λa=>ma a>>=λws=>f ws) b H Q):
  lg (spX K n f) [] E (tA K EX .V ma) b H Q:=by
 obtain ⟨H0,G,a,I,o⟩:=h;refine ⟨H0,G,a,I,Out.bind o λxs G1 H1 ws e1 m1 O=>?_⟩;have I1:=I.ext e1;have r:=MdA.repsV m1;rw[qG0];refine ⟨?_,G1,ws,I1.gh,r,?_⟩
 .rw [r.length]
  refine hf ws λz=>?_;rw[z]at O;show O
 .revert O
  cases f ws with
  |stuck=>show id
  |ex e=>show λO H' s=>hE e H' (O H' s)
  |ok w=>show λO v G' H' sG sH gH cl md=>O v G' H' ⟨sG,sH,gH,cl⟩ md
def CG {X}{K}{e}{es:Vo}{pos}{mr:Zw}{k}{f}{fd}{ps}{x}{p}{n N}{m}(F:FnOk X.prog X.w X.K X.mg X.base CX0 k f fd ps (spX K n (Y5 n N m))) (hr:Room k X.A) (hg:Gl X x) (hm:X.mg x=some (.ref f)) (hk:PySem.W.keepIn X.K (.ref f)=true) (hb:Binds X.K fd ps []) (ha:PA X (e::es) (tA K (λ_ _=>False) .V mr)) (a0:(x == ("__debug__" : Str))=false:=by decide) (he:starEach (e::es) X.env=(false,eval e X.env)::starEach es X.env:=by rfl) (O:(backTo pos (starEach es X.env)).any (·.1)=false:=by rfl):
  PE X (.Call (.Name x p) (e::es) [] pos) (tM K (λ_ _=>False) .V (bA (Y5 n N m) mr)):=
 (je F hr hg hm hk hb .nil lh ha a0 he O).mono λ_ _ _ q=>AI (λws h=>yx ws h) (λ_ _ z=>z) q
end TP
namespace TP
open PySem L2
open PyProof.Rows (envOfC)
noncomputable def calm (f:List W->R W):List W->R W:=λws=>match f ws with
 | .ok w=>.ok w
 |_=>.stuck
end TP
namespace TP
open PySem L2
noncomputable def big8:Int:=2^2000
def aH (_ j:Int):Prop:=0<j/\j<big8
instance (i j:Int):Decidable (aH i j):=by unfold aH;infer_instance
def mQ:OpR X (binaryOp .FloorDiv) (rI aH λi j=>.int (i/j)):=opI λi j _ _ _ _ _ hc q=>by
 have h1:=hc.1;have h2:=hc.2;refine PyProof.Rows.floordiv_int ox (by rw[qV6 i ox];show q) (.inl (PyProof.noPylong_of_log2 ?_));have h3:j.natAbs<2^9000:=by
  have:j.natAbs<2^2000:=by
   have O:(j.natAbs:Int)<2^2000:=by
    rw[Int.natAbs_of_nonneg ox];show h2
   exact_mod_cast O
  show qB4 this (Nat.pow_le_pow_right ZQ ZQ)
 by_cases h0:j.natAbs=0
 .omega
 .show (Nat.log2_lt h0).mpr h3
def BJ (_ j:Int):Prop:=j≠0/\j.natAbs<2^8999
instance (i j:Int):Decidable (BJ i j):=by unfold BJ;infer_instance
def aG (_ j:Int):Prop:=j≠0
instance (i j:Int):Decidable (aG i j):=by unfold aG;infer_instance
noncomputable def gMz (i j:Int):W:=.int (i.fmod j)
def CV:OpR X (binaryOp .Mod) (rI aG λi j=>.int (i.fmod j)):=CW
def Dr (h0:j≠0):fI aG gMz (.int i) (.int j)=.ok (.int (i.fmod j)):=by
 change (if _ then _ else _)=_;rw[qA2 (show aG i j from h0)];rfl
end TP
namespace HT
open PySem PySem.Spec PyProof.Rows PySem.W
end HT
namespace TP
open PySem L2
section
open PySem.W PyProof.Rows
end
def fW (c:Str->NameKind->Bool) (hc:∀n k,c n k=true->k=.free) y:∀ns:List (Str×NameKind),ns.lookup y=some .cell\/ns.lookup y=some .free->(ns.map λ(n,k)=>if c n k then (n,NameKind.cell) else (n,k)).lookup y=some .cell\/(ns.map λ(n,k)=>if c n k then (n,NameKind.cell) else (n,k)).lookup y=some .free
 | [],h=>h
 | (n,k)::ns,h=>by
  rw[qE1];dsimp;rw[qJ2]at h;by_cases q:c n k=true
  .rw [qA2 q,qJ2]
   cases e:y == n with
   |true=>show .inl rfl
   | false=>
    rw[e]at h;show fW c hc y ns h
  .rw [qA8 q,qJ2]
   cases e:y == n with
   |true=>rw[e]at h;show h
   | false=>
    rw[e]at h;show fW c hc y ns h
end TP
namespace L2
open PySem PySem.Spec PyProof.Rows
structure CompScopeC (sc cs:Scope) (N N':Vp) (y:Str):Prop where
 kind:cs.kind=.function
 lay:(∀n cl,cellsFrom n cs.names cl=(y,n)::cl)/\∀h:Heap,pushCells h cs.names=h.push { cls:=.type "cell",data:=.cell none }
 cellY:∀x∈cs.names,x.2=.cell->x.1=y
 isY:cs.names.lookup y=some .cell
 loc:∀x∈cs.names,x.2=.local->cs.names.lookup x.1=some .local
 free:∀x∈cs.names,x.2=.free->sc.names.lookup x.1=some .cell\/sc.names.lookup x.1=some .free
 nd:N'.Nodup
 len:N.length<=N'.length
 same:∀i∈List.range N.length,N'[i]?=N[i]?\/∀x∈N'[i]?,cs.names.lookup x=none
 out:∀x∈N'.take N.length,cs.names.lookup x≠some .local/\cs.names.lookup x≠some .cell
noncomputable abbrev x4 (X:Cx)(cs:Scope)(y:Str)(cl:Vz)(N':Vp)(ex:List Addr)(s:Shared)(H:Hp):Cx:=cxG X cs ((y,s.heap.objs.size+1)::cl) (λx=>x == y) N' ex s H
def ce {cl:Vz}(h:((y,c)::cl).lookup x=some d):x=y/\d=c\/x≠y/\cl.lookup x=some d:=by
 grind
def xf {a:St}{fp:List Addr}(S:CompScopeC X.env.scope cs X.N N' y) (I:Inv X pins a H s3) (O:∀x c,cl.lookup x=some c->X.env.cells.lookup x=some c) (a5:∀x,(x,NameKind.free)∈cs.names->∃c,cl.lookup x=some c) (hf:∀b∈fp,C3 X pins H b) (a7:∀b∈fp,b<s3.heap.objs.size) (kp:∀b o,s3.heap.get? b=some o->s4.heap.get? b=some o) (hn:s4.heap.Ns s3.heap.objs.size m) (b4:s4.heap.IsCell (s3.heap.objs.size+1) none) (b6:s4.os=s3.os) (hg:s4.gens=s3.gens):Inv (x4 X cs y cl N' fp s3 H) [] (inner N' a) H s4:=by
 have a4:∀{c:Addr}{v:VJ},s3.heap.IsCell c v->s4.heap.IsCell c v:=λ{c v} z=>by obtain ⟨o,e,d⟩:=z;show ⟨o,kp c o e,d⟩
 have ab:∀x c,cl.lookup x=some c->c<s3.heap.objs.size:=λx c e=>by
  obtain ⟨v,z⟩:=I.cell x c (O x c e);show z.lt
 have a6:∃c,((y,s3.heap.objs.size+1)::cl).lookup y=some c:=⟨s3.heap.objs.size+1,by rw[qJ2];simp⟩;refine ⟨⟨I.ok.mod,S.kind,I.ok.glob,I.ok.blt,qB3 _,λx z c h1 h2=>?_,λx hx=>?_,λx c h e=>?_,I.ok.hd,I.ok.frames,.inl rfl,λb hb=>⟨?_,λx c e=>?_⟩,I.bs,qD3 I.ok.bsz I.sz,λb o e hb=>?_,λb hb b5=>?_,I.stack,I.stkFree,I.tab⟩,
  b6,by rw[hg];show I.bare,Un.kept kp,⟨m,hn,λi x v e1 e2 e3=>?_⟩,λx c e=>?_,I.hok.fresh (qB3 _),λx c e=>?_,λp hp=>absurd (show p∈([]:Vq) from hp) ZZ,I.hok.kept kp,?_⟩
 .rcases ce h1 with ⟨a1,a2⟩|⟨a1,a2⟩ <;> rcases ce h2 with ⟨b1,b2⟩|⟨b1,b2⟩
  .rw[a1,b1]
  .have:=ab _ _ b2;rw[a2]at this;show absurd this (qX3.mpr (qL3 _))
  .have:=ab _ _ a2;rw[b2]at this;show absurd this (qX3.mpr (qL3 _))
  .show I.ok.inj x z c (O x c a2) (O z c b2)
 .have a0:(relabel cs X.env).names.lookup x=some .cell\/(relabel cs X.env).names.lookup x=some .free:=hx;rw[E5]at a0
  change ∃c,((y,s3.heap.objs.size+1)::cl).lookup x=some c;by_cases a3:x=y
  .rw[a3];show a6
  .have hb:(x == y)=false:=by simpa using a3
   rw[qJ2,hb];cases hl:cs.names.lookup x with
   |none=>rw[hl]at a0;rcases a0 with h|h <;> cases h
   | some k=>
    have hm:=qF8 hl;by_cases hk:k=.free
    .subst hk;show a5 x hm
    .exfalso;have hb:(k == NameKind.free)=false:=by simpa using hk
     rw[hl]at a0;simp only [qZ8,hb,qU5,qE7,qO2]at a0;rcases a0 with h|h
     .cases h;show a3 (S.cellY _ hm rfl)
     .cases h;show hk rfl
 .have a3:x=y:=by simpa using h
  rcases ce e with ⟨_,a2⟩|⟨a1,_⟩
  .rw[a2];show qL3 _
  .show absurd a3 a1
 .intro q;have b3:b=s3.heap.objs.size:=q;show absurd (a7 b hb) (by rw[b3];show qE9 _)
 .rcases ce e with ⟨_,a2⟩|⟨_,a2⟩
  .intro z;rw[a2]at z
   have:=a7 b hb
   rw[<- z]at this;show absurd this (qX3.mpr (qL3 _))
  .show (hf b hb).2.2.2.2.1 x c (O x c a2)
 .obtain ⟨f0,f1,f2,f3,f4,f5⟩:=hf b hb;rcases f3 with z|z
  .show I.ok.noex b o e z
  .show absurd (qB4 (qB0 (I.ok.bs b o e).1) z) (qE9 _)
 .have b0:b∈frs X.stack:=b5;rcases qC4.mp (I.stkSub b b0) with z|z
  .show (hf b hb).2.1 z
  .show (hf b hb).2.2.1 z
 .obtain ⟨hk,hl,u,c',r,e,z⟩:=oy I S.free S.same S.out e1 e2 e3;obtain ⟨c,hc⟩:=a5 x (qF8 hk);cases (O x c hc).symm.trans e;have hb:(x == y)=false:=by
   simp only [beq_eq_false_iff_ne];rintro rfl;rw[S.isY]at hk;cases hk
  show ⟨u,r,.inr ⟨hl,_,by change ((y,s3.heap.objs.size+1)::cl).lookup x=_;rw[qJ2,hb];show hc,a4 z⟩⟩
 .rcases ce e with ⟨_,a2⟩|⟨_,a2⟩
  .rw[a2];show ⟨none,b4⟩
  .obtain ⟨v,z⟩:=I.cell x c (O x c a2);show ⟨v,a4 z⟩
 .rcases ce e with ⟨_,a2⟩|⟨_,a2⟩
  .rw[a2];show I.hok.fresh (qL3 _)
  .show I.freeC x c (O x c a2)
 .unfold inner;rw[qB8,qS6,I.len]
  have:=S.len
  change _=N'.length;omega
def rG {X:Cx}(S:CompScopeC X.env.scope cs X.N N' y) (h:Q { compEnvC cs ((y,s.heap.objs.size+1)::cl) s.heap.objs.size X.env with scope:=cs } { s with heap:=(s.heap.push { cls:=.type "dict",data:=.dict #[] }).push { cls:=.type "cell",data:=.cell none } }):
  wpAny M A (newFunctionEnv cs X.env.globals cl [] X.env.qual none .none (some X.env)) Q E s:=by
 simp only [newFunctionEnv,Option.isSome_some,qN8];refine qA0 (wpAny_alloc ?_);refine qA0 (wpAny_layCells _ (λname kind cells=>ox) _ _ _ _ ?_);rw[S.lay.1,S.lay.2,qG1 ..,List.forIn_nil];show qA0 (qN2 (qN2 h))
def Ja (a0:∀x c,cl.lookup x=some c->X.env.cells.lookup x=some c) (stk:∀b∈frs X.stack,b∈X.env.locals::X.fs) (a3:∀b∈fp,C3 X pins H3 b) (O:∀b∈fp,b<s3.heap.objs.size) (hn:∀b∈fp,H' b=none):∀b∈fp,C3 (x4 X cs y cl N' fp s3 H3) [] H' b:=λb hb=>by
 obtain ⟨f0,f1,f2,f3,f4,f5⟩:=a3 b hb;refine ⟨hn b hb,qB7 (O b hb),λa4=>?_,.inl hb,λx c e=>?_,λp hp=>absurd (hp) ZZ⟩
 .grind
 .rcases ce e with ⟨_,a2⟩|⟨_,a2⟩
  .intro z;rw[a2]at z
   have:=O b hb
   rw[<- z]at this;show absurd this (qX3.mpr (qL3 _))
  .show f4 x c (a0 x c a2)
def CompScopeC.s (S:CompScopeC X.env.scope cs X.N N' y):iF X cs N' λcl ex s H=>x4 X cs y cl N' ex s H:=
 ⟨S.kind,S.loc,S.free,λI h1 h2 hf O=>⟨_,_,λ_ p=>p,Ja h1 I.stkSub hf O,λk=>rG S (by
  refine k _ ?_ (xf S I h1 h2 hf O ?_ ((Heap.Ns.new _ (.type "dict")).keeps λb o e=>qA1 _ e) ⟨_,by rw[<- qG1];show qB5 _ rfl,rfl⟩ rfl rfl) <;> show λb o e=>qA1 _ (qA1 _ e))⟩⟩
end L2
namespace TP
open PySem L2
def CF (S:CompScopeC X.env.scope cs X.N N' y) (hc:X.calm=true) (hi:PI X tg iter (tIt K EX false dd mi)) (hg:∀cl ex s H,PG (x4 X cs y cl N' ex s H) tg g) (O:Gt K dd g mg) (hk:J8 X.N.length g) (ht:∀cl ex s H,PIf (x4 X cs y cl N' ex s H) ifs (tT K EX ta)) (he:∀cl ex s H,PE (x4 X cs y cl N' ex s H) elt (tM K EX .V ma)) (hs:∀x,foldedSetIterable iter X.env x=pure x:=by intro _;rfl):PE X (.ListComp elt [⟨tg,iter,ifs,0⟩] cs pos) (tM K EX .F (j5 N'.length mi mg ta ma)):=
 (qj S.s hc hi hg hk ht he hs).mono λ_ _ _ q=>iB O q
def kM (h:CompScope cs sc2 N' N2):CompScope (x4 X cs y cl N' ex s H).env.scope sc2 (x4 X cs y cl N' ex s H).N N2:=
 ⟨h.kind,h.ncell,h.loc,λx O e=>fW (λn k=>k == NameKind.free&&X.env.scope.kind == _&&X.env.kindOf n == _) (λn k q=>by
  omega) x.1 _ (h.free x O e),h.nd,h.len,h.same,h.out⟩
end TP
namespace L2
open PySem PySem.Spec PyProof.Rows
end L2
namespace TP
open PySem L2
def CC {X}{K}{EX}{d}{pos}{ma:Zj}{ta:Zk}{i}{y}{py}{cs}{N'}{yc}{tg iter elt}{ifs}{dd}{g}{mg}{mi}{O}(S:CompScopeC X.env.scope cs X.N N' yc) (hc:X.calm=true) (hi:PI X tg iter (tIt K EX false dd mi)) (hg:∀cl ex s H,PG (x4 X cs yc cl N' ex s H) tg g) (a3:Gt K dd g mg) (hk:J8 X.N.length g) (ht:∀cl ex s H,PIf (x4 X cs yc cl N' ex s H) ifs (tT K EX ta)) (he:∀cl ex s H,PE (x4 X cs yc cl N' ex s H) elt (tM K EX .V ma)) (hN:X.N.Nodup) (hy:X.N[i]?=some y) (hl:Loc X.env.scope y) (a0:swapsWith (.ListComp elt [⟨tg,iter,ifs,0⟩] cs O) (some (.Name y py)) pos.line X.env=pure true:=by rfl) (hf:X.fn y=true\/X.env.scope.names.lookup y=some .local:=by first|show .inl rfl|show .inr rfl|assumption) (hs:∀x,foldedSetIterable iter X.env x=pure x:=by intro _;rfl):PS X (.Assign [.Name y py] (.ListComp elt [⟨tg,iter,ifs,0⟩] cs O) pos) (tSt K EX d (sF i (j5 N'.length mi mg ta ma))):=
 (qe S.s hc hi hg hk ht he hN hy hl a0 hf hs).mono λD a H q=>by
  have:=oD (m:=j5 N'.length mi mg ta ma) q
  show iB a3 this
end TP
namespace L2
open PySem PySem.Spec PyProof.Rows
noncomputable abbrev N9 (O:Pos):Arguments:={ posonlyargs:=[],args:=[{ arg := "one",annotation:=none,pos:=O }],vararg:=none,kwonlyargs:=[],kw_defaults:=[],kwarg:=none,defaults:=[] }
noncomputable abbrev lamS:Scope:={ kind:=.function,names:=[("one",.local),("held",.free)],isGenerator:=false,isCoroutine:=false }
noncomputable abbrev N8 (O p2 p3:Pos):Expr:=.Subscript (.Name "held" O) (.Name "one" p2) p3
def Kp (h h':Heap):Prop:=∀b o,h.get? b=some o->h'.get? b=some o
def oS (s:Shared) (k:Int)(v:Value)(s':Shared):Prop:=∃h' O t,v=.int k t/\s'={ s with heap:=h',toks:=O }/\Kp s.heap h'
def AF (O:A.depth<recursionLimit) (ho:s.heap.get? f=some (PySem.W.kla_obj "<lambda>" qual (N9 pa) (N8 p1 p2 p3) lamS cl pm c' ctv)) (a4:s.heap.CodeRec (.ref c') qual) (lim:s.heap.NoLimit) (a6:cl.lookup (Str.ofString "held")=some c) (hc:s.heap.IsCell c (some (.ref b))) (hl:s.heap.IsList b its) (h0:0<=i) (a0:i<2^63) (hx:its[i.toNat]?=some (.int k t')):
  wpAny (model prog w) A (call (.ref f) [.int i t]) (oS s k) (λ_ _=>False) s:=by
 refine wpAny_call (PySem.W.kla_callFunE O ho rfl rfl rfl rfl a4 ?_);refine qN2 (wpAny_newFunctionEnv (show ∀x∈lamS.names,x.2≠_ by decide) (λx hx=>?_) (λh1 a5 a3=>⟨lim.fresh _ a3,?_⟩) rfl)
 .have e:x=(Str.ofString "one",Value.int i t):=by simpa using hx
  rw[e];rfl
 have hk:=λb o e=>a3.extBut b o (qB7 (qB0 e)) (qA1 _ e);refine PySem.W.kla_codeExpr (Subscript_ (qW8 (wpAny_loadName_free rfl rfl a6 (hc.keeps hk) (qW8 (qS9 rfl rfl a5 rfl (item_listR (let ⟨o,e,q⟩:=hl;⟨o,hk _ _ e,q⟩) h0 a0 hx ?_))))));show ⟨h1,_,t',rfl,rfl,hk⟩
def vZ a v:argsOk "min" ⟨[a],[(Str.ofString "key",v),(Str.ofString "default",.none)]⟩:=ZY
structure ua (vs:Vy) (kf:VY) (j i:Nat) (v:Value):Prop where
 at_:vs[i]?=some v
 lt:i<j
 least:∀n,n<j->kf i<=kf n/\(n<i->kf i<kf n)
def KpB (S I:Addr)(g h:Heap):Prop:=∀b o,b≠S->b≠I->g.get? b=some o->h.get? b=some o
noncomputable abbrev qq (I f S:Addr):Args:=⟨[.ref I,.ref f,.ref S],[(Str.ofString "default",.none)]⟩
def HP {s:Shared}(hh:A.handled=none) (hl:s.heap.IsList l vs.toArray) (a4:l≠I) (ab:l≠S) (a6:S≠I) (turn:∀i v,vs[i]?=some v->∀ h tk,KpB S I s.heap h->wpAny (model prog w) A.in1 (call (.ref f) [v]) (oS { s with heap:=h,toks:=tk } (kf i)) (λ_ _=>False) { s with heap:=h,toks:=tk }) (hR:∀v h tk,KpB S I s.heap h->(vs = []/\v=.none\/∃i,ua vs kf vs.length i v)->R (.ok (.ret v)) { s with heap:=h,toks:=tk }):
  ∀ r j h tk (its:VQ) c,vs.length-j=r->j<=vs.length->KpB S I s.heap h->h.get? S=some (seqObj "list" its c)->h.IsListIter I l j ->
   (j=0/\its=#[]\/∃i vb tb,its=#[vb,.int (kf i) tb]/\ua vs kf j i vb) ->
   codeAny (model prog w) A (.builtin "min.loop" (qq I f S)) R { s with heap:=h,toks:=tk }:=by
 have nm:(toString "min" ++ toString ".loop") = "min.loop" := ZQ;have Wk:=Walks.list (prog:=prog) (w:=w) (A:=A.in1) hh I l a4 vs.toArray;have sz:vs.toArray.size=vs.length:=qC1 ..;intro r
 induction r with
 | zero=>
  intro j h tk its c hr hj kp gS gI st;have ej:j=vs.length:=ox;have gl:h.IsList l vs.toArray:=by
   obtain ⟨o,e,q⟩:=hl;show ⟨o,kp l o ab a4 e,q⟩
  refine qQ4 PySem.F.entry_min_loop ?_;rw[qT9 qH8 _]
  change wpAny _ A.in1 (seqItems? (.ref S)>>=_) _ _ _;refine qA0 (qN9 gS rfl ?_)
  change wpAny _ A.in1 (tryCatch (pyNext (.ref I)) _>>=_) _ _ _;refine qA0 (qU6 (Wk.done _ _ _ ⟨by rw[sz,<- ej];show gI,gl⟩ λh' b4 k'=>?_));have a0:KpB S I s.heap h':=λb o n1 n2 e=>k' b o (by simpa using n2) (kp b o n1 n2 e);have a7:=k' S _ (by simpa using a6) gS;rcases st with ⟨e0,e1⟩|⟨i,vb,tb,e1,O⟩
  .subst e1;refine qA0 (qR2 (qN2 ?_))
   grind
  .subst e1;have s1:=qG9 h' S (Obj.mapSeq λ_=>(#[]:VQ))
   change wpAny _ A.in1 (updateSeq S (λ_=>#[])>>=_) _ _ _;refine qA0 (qP4 a7 rfl (qA0 (qQ2 (qN2 ?_))));show hR _ _ _ (λb o n1 n2 e=>(s1.2 b n1).trans (a0 b o n1 n2 e)) (.inr ⟨i,ox⟩)
 | succ r ih=>
  intro j h tk its c hr hj kp gS gI st;have lt:j<vs.length:=ox;have gl:h.IsList l vs.toArray:=by
   obtain ⟨o,e,q⟩:=hl;show ⟨o,kp l o ab a4 e,q⟩
  refine qQ4 PySem.F.entry_min_loop ?_;rw[qT9 qH8 _]
  change wpAny _ A.in1 (seqItems? (.ref S)>>=_) _ _ _;refine qA0 (qN9 gS rfl ?_)
  change wpAny _ A.in1 (tryCatch (pyNext (.ref I)) _>>=_) _ _ _;refine qA0 (qU6 (Wk.item j _ _ _ (by rw[sz];show lt) ⟨gI,gl⟩ λv h' b4 hP b6 k'=>?_));have hv:vs[j]?=some v:=by simpa using hP
  have a0:KpB S I s.heap h':=λb o n1 n2 e=>k' b o (by simpa using n2) (kp b o n1 n2 e);have a7:=k' S _ (by simpa using a6) gS;have c0:=b6.1
  change wpAny _ A.in1 (tryCatch (holding [v] (call (.ref f) [v])) _>>=_) _ _ _;refine qA0 (qU6 (qN6 (qO5 (turn j v hv h' b4 a0) (λx s2 q2=>?_) λ_ _ q=>q.elim)));obtain ⟨h2,c1,t2,rfl,rfl,k2⟩:=q2;have b0:KpB S I s.heap h2:=λb o n1 n2 e=>k2 b o (a0 b o n1 n2 e);have a3:=k2 S _ a7;have b3:h2.IsListIter I l (j+1):=by
   obtain ⟨o,e,q⟩:=c0;show ⟨o,k2 _ _ e,q⟩
  -- the new one is put
  have put:∀(h3:Heap) (a5:Nat),h3=h2.update S (Obj.mapSeq λ_=>#[v,.int (kf j) t2])->ua vs kf (j+1) j v->codeAny (model prog w) A (.builtin "min.loop" (qq I f S)) R { s with heap:=h3,toks:=a5 }:=λh3 a5 e3 O=>by
   subst e3;have s1:=qG9 h2 S (Obj.mapSeq λ_=>#[v,.int (kf j) t2]);obtain ⟨c2,b5⟩:∃c2,(h2.update S (Obj.mapSeq λ_=>#[v,.int (kf j) t2])).get? S=some (seqObj "list" #[v,.int (kf j) t2] c2):=⟨_,get?_update_seq a3 λ_=>#[v,.int (kf j) t2]⟩;refine ih (j+1) _ a5 _ c2 ox ox (λb o n1 n2 e=>(s1.2 b n1).trans (b0 b o n1 n2 e)) b5 ?_ (.inr ⟨j,v,t2,rfl,O⟩);obtain ⟨o,e,q⟩:=b3;show ⟨o,(s1.2 I a6.symm).trans e,q⟩
  rcases st with ⟨e0,e1⟩|⟨i,vb,tb,e1,O⟩
  .subst e1 e0
   change wpAny _ A.in1 (updateSeq S (λ_=>#[v,.int (kf 0) t2])>>=_) _ _ _;refine qA0 (qP4 a3 rfl ?_);rw[nm];show qN2 ⟨qQ1 qH8 _,put _ _ rfl ⟨hv,qC8 _,λn hn=>by
    omega⟩⟩
  .subst e1
   change wpAny _ A.in1 (tryCatch (holding [v,.int (kf j) t2] (richCompare .Lt (.int (kf j) t2) (.int (kf i) tb)>>=_)) _>>=_) _ _ _;refine qA0 (qU6 (qN6 (qA0 (CmpOf.ints_lt (prog:=prog) (w:=w) (A:=A.in1) (P:=λi v=>∃t,v=.int (kf i) t) kf (λ_ _ q=>q) j i _ _ _ _ _ ⟨t2,rfl⟩ ⟨tb,rfl⟩ ?_))));refine qA0 (qN6 (qO6 ?_));refine qA0 (qQ2 (qN2 ?_));by_cases lt2:kf j<kf i
   .simp only [lt2,decide_true,qN8];refine qA0 (qP4 a3 rfl (qA0 (qQ2 ?_)));rw[nm];show qN2 ⟨qQ1 qH8 _,put _ _ rfl ⟨hv,qC8 _,λn hn=>by
     by_cases e:n=j
     .subst e;show ⟨qF3 _,λq=>absurd q (qE9 _)⟩
     .have b1:=O.least n ox;show ⟨by have:=b1.1;omega,λ_=>by have:=b1.1;omega⟩⟩⟩
   .simp only [lt2,decide_false,qE7,qO2];refine qA0 (qQ2 ?_);rw[nm];refine qN2 ⟨qQ1 qH8 _,ih (j+1) _ _ _ c ox ox b0 a3 b3 (.inr ⟨i,vb,tb,rfl,O.at_,by have:=O.lt;omega,λn hn=>?_⟩)⟩;by_cases e:n=j
    .subst e;show ⟨ox,λq=>absurd q (by have:=O.lt;omega)⟩
    .show O.least n ox
def zA (hh:A.handled=none) (hl:s.heap.IsList l vs.toArray) (turn:∀i v,vs[i]?=some v->∀ h O,Kp s.heap h->wpAny (model prog w) A.in1 (call (.ref f) [v]) (oS { s with heap:=h,toks:=O } (kf i)) (λ_ _=>False) { s with heap:=h,toks:=O }) (hQ:∀v h O,Kp s.heap h->(vs = []/\v=.none\/∃i,ua vs kf vs.length i v)->Q v { s with heap:=h,toks:=O }):
  wpAny (model prog w) A (call (.builtin "min") [.ref l] [(Str.ofString "key",.ref f),(Str.ofString "default",.none)]) Q E s:=by
 have nm:(toString "min" ++ toString ".loop") = "min.loop" := ZQ;obtain ⟨ol,a3,_⟩:=id hl;have a0:=qB0 a3;refine kmk_tree PySem.F.kind_min PySem.F.plain_min PySem.F.entry_min (vZ ..) ?_;refine qA0 (wpAny_of_eq (rfl) ?_);refine qA0 (qN2 (qA0 (qO7 hl (qA0 (qS3 ?_ (qC6 _))))));have zI:(s.heap.push { cls:=.type "list_iterator",data:=.fields #[.ref l,.int 0 0] }).objs.size=s.heap.objs.size+1:=qG1 ..;have kp:∀h,KpB (s.heap.push { cls:=_,data:=_ }).objs.size _ _ h->_:=λh q b o e=>q b o (by rw[zI];show qB7 (qD2 (qB0 e))) (qB7 (qB0 e)) e;refine qN2 ⟨qQ1 qH8 _,HP (kf:=kf) hh hl (qB7 a0) (by rw[zI];show qB7 (qD2 a0)) ox
  (λi v e h O q=>turn i v e h O (kp h q)) (λv h O q d=>hQ v h O (kp h q) d) _ 0 _ _ #[] 0 rfl (qC6 _) (λb o _ _ e=>qA1 _ (qA1 _ e)) (qB5 _ rfl) ⟨_,qA1 _ (qB5 _ rfl),rfl,rfl⟩ (.inl ⟨rfl,rfl⟩)⟩
def zM {g:St}(I:Inv X pins g H s) (hT:(tb,k)∈lamT) (hC:PySem.W.codeHdIn X.K c tb=true) (a3:X.env.code=.ref c) (hq:X.env.qual++Str.ofString "<lambda>" = k.2.2) (c3:lpos.line=k.1) (c5:lpos.col=k.2.1) (hz:X.env.scope.names.lookup (Str.ofString "held")=some .cell) (h:∀ f c' (cl:Vz) pm O H' s',Inv X pins g H' s'->(∀a o,H a=some o->H' a=some o)->s'.heap.get? f=some (PySem.W.kla_obj (Str.ofString "<lambda>") (X.env.qual++Str.ofString "<lambda>") (N9 pa) (N8 p1 p2 p3) lamS cl pm c' O) ->
   s'.heap.CodeRec (.ref c') (X.env.qual++Str.ofString "<lambda>")->(∀x d,cl.lookup x=some d->X.env.cells.lookup x=some d)->(∃d,cl.lookup (Str.ofString "held")=some d)->Q (.ref f) s'):
  wpAny (model X.prog X.w) X.A (eval (.Lambda (N9 pa) (N8 p1 p2 p3) lamS lpos) X.env) Q X.xe s:=by
 have ab:=I.tab _ hT;obtain ⟨ps,gP,st⟩:=I.hok _ _ ab;have C:=PySem.W.codeHd_of_K I.kIn hC;have a5:=I.mod.glob.keeps I.bk;obtain ⟨bm,ob,b1,b2,b3,b4,b5,b6⟩:=I.mod.bmain;have b3:=I.bk _ _ b3;have cy:mainGlobals≠tb:=λq=>by
  obtain ⟨o,es,ep,e,d,_⟩:=a5;omega
 have cn:bm≠tb:=λq=>ox;have cp:bm≠mainGlobals:=λq=>by
  obtain ⟨o,es,ep,e,d,_⟩:=a5;omega
 have hB:s.heap.BuiltinsAt X.mg tb:=⟨bm,ob,b1,b2,cp,cn,b3,b4,b5,b6⟩;obtain ⟨cl,e,h1,h2,_⟩:=cG lamS.names [] (λx hx hk=>by
  rcases qC4.mp hx with rfl|hx
  .cases hk
  .rw [qC5.mp hx]
   show I.ok.has _ (.inl hz)) (λ_ _ z=>nomatch z)
 have a4:closureFor lamS X.env=pure cl:=by
  simp only [closureFor];rw[e];rfl
 have a0:∃d,cl.lookup (Str.ofString "held")=some d:=h2 _ (qA6 _ qB2);have cc:tb<s.heap.objs.size:=qB0 gP;refine PySem.W.kla_eval rfl ?_;rcases st with e0|⟨c',oc,e0,hown,hne,goc,lc⟩
 .subst e0;refine PySem.W.kla_makeFunction a4 I.ok.glob a5 a3 C gP trivial rfl cy hB λc' O h' tk hx b0 d3 a7 c0=>?_;obtain ⟨c2,oc,vs,t,e2,c1,hd,hv⟩:=id a7;cases e2;have d0:H c'=none:=I.hok.fresh b0;have kp:∀b o,b≠tb->s.heap.get? b=some o->(h'.push (PySem.W.kla_obj (Str.ofString "<lambda>") (X.env.qual++Str.ofString "<lambda>") (N9 pa) (N8 p1 p2 p3) lamS cl ((X.mg "__name__").getD .none) c' O)).get? b=some o:=λb o n e=>qA1 _ (hx b o n e);have same:∀a o,H a=some o->upd H c' (.own tb) a=some o:=λa o e=>by grind[c7]
  have c4:∀b,H b=none->b≠tb:=λb n z=>ox;have I':Inv X pins g (upd H c' (.own tb)) { s with heap:=h'.push (PySem.W.kla_obj (Str.ofString "<lambda>") (X.env.qual++Str.ofString "<lambda>") (N9 pa) (N8 p1 p2 p3) lamS cl ((X.mg "__name__").getD .none) c' O),toks:=tk }:=by
   refine I.un ⟨λb o e n _ _=>kp b o (c4 b n) e,λb o e n _ _=>⟨o.slots,kp b o (c4 b n) e⟩,λb o e n _=>?_,λb o e _=>?_,λb xs q=>same _ _ q,λb o u q=>same _ _ q,λb y q=>same _ _ q⟩ λb u q=>?_
   .rw[c7 (qB7 (qB4 (qB0 e) b0))];show n
   .by_cases z:b=tb
    .rw[z];show ⟨_,qA1 _ c0⟩
    .show ⟨o,kp b o z e⟩
   .by_cases z:b=c'
    .subst z;rw[j7]at q;cases q;show ⟨oc,qA1 _ c1⟩
    .rw [c7 z]at q
     by_cases y:b=tb
     .subst y;rw[ab]at q;cases q;refine ⟨_,qA1 _ c0,.inr ⟨c',oc,?_,j7,qI6 (qB4 cc b0),qA1 _ c1,vs,t,hd,by rw[<- hq];show hv⟩⟩;rw[c3,c5];simp
     .refine (I.hok b u q).stay (λd v a6 e'=>kp d v ?_ e') (λd q'=>same _ _ q') λd xs q'=>same _ _ q';rcases a6 with rfl|a6
      .show y
      .rintro rfl;rw[ab]at a6;cases a6
  show h _ c' cl _ O _ _ I' same (qB5 _ rfl) (a7.push _) h1 a0
 .subst e0;refine PySem.W.kla_makeFunctionHit a4 I.ok.glob a5 a3 C gP ?_ (cv:=.ref c') ?_ hB λO h' tk hk hsz=>?_
  .show trivial
  .rw [<- c3,<- c5]
   show codeAmong_snoc [] trivial rfl
  .have kp:Kp s.heap (h'.push { cls:=.type "function",data:=.func (PySem.W.kla_fn (Str.ofString "<lambda>") (X.env.qual++Str.ofString "<lambda>") (N9 pa) (N8 p1 p2 p3) lamS cl ((X.mg "__name__").getD .none) (.ref c') O) }):=λb o e=>qA1 _ (hk b o e);refine h _ c' cl _ O H _ (I.un (Un.kept kp) (I.hok.kept kp)) (λ_ _ e=>e) (qB5 _ rfl) ?_ h1 a0;obtain ⟨vs,t,d1,d2⟩:=lc;show ⟨c',oc,vs,t,rfl,kp _ _ goc,d1,by rw[hq];show d2⟩
noncomputable def bZ (key:Int->Int)(O:VW):Option Int:=O.find? λi=>O.all λx=>decide (key i<=key x)
def vY {n:Nat}(h:is[n]?=some i) (hb:∀m j,is[m]?=some j->key i<=key j/\(m<n->key i<key j)):bZ key is=some i:=by
 unfold bZ;rw[List.find?_eq_some_iff_append];obtain ⟨hn,e⟩:=qA7.mp h;refine ⟨?_,is.take n,is.drop (n+1),?_,λa ha=>?_⟩
 .rw [qH5]
  intro x hx;obtain ⟨m,hm,ex⟩:=qF2.mp hx;show qN4 (hb m x (by rw[qA5 hm,ex])).1
 .rw[<- e,List.getElem_cons_drop,List.take_append_drop]
 .obtain ⟨m,hm,O⟩:=qF2.mp ha;rw[qI0]at hm;rw[qM5]at O;have q:=(hb m a (by rw[qA5 ox,O])).2 ox;rw[qM6,List.all_eq_false];show ⟨i,qD7 h,ox⟩
noncomputable def vO:Option Int->V
 |none=>.non
 |some i=>.int i
def AU (K:Frag) (j:Nat) (ta:TA):TE:=λc H Q=>ta c H λvs H1=>∃(l b:Addr) (O ks:VW),vs = [.ref l]/\SqL K H1 l (O.map V.int)/\c[j]?=some (some (.ref b))/\SqL K H1 b (ks.map V.int)/\(∀i∈O,0<=i/\i<(ks.length:Int)) /\
 ∀H2:Hp,(∀a o,H1 a=some o->H2 a=some o)->Q (vO (bZ (λi=>ks.getD i.toNat 0) O)) H2
def SqL.more {K}(h:SqL K H1 a xs) (O:∀a o,H1 a=some o->H2 a=some o):SqL K H2 a xs:=by
 rcases h with (h|⟨o,h⟩)|h
 .show .inl (.inl (O _ _ h))
 .show .inl (.inr ⟨o,O _ _ h⟩)
 .show .inr h
def cV {is:VW}(r:Vals (is.map V.int) its){n:Nat}(h:is[n]?=some i):∃t,its[n]?=some (.int i t):=by
 obtain ⟨w,e,O⟩:=r.get (x:=_) (by rw[qA9,h];rfl);obtain ⟨t,rfl⟩:=O;show ⟨t,e⟩
def CP {X:Cx}{tb c}{k:Nat×Nat×Str}{pa p1 p2 p3 O p p4 pos a5 a0:Pos}{a}{ta}{j kt}(hT:(tb,k)∈lamT) (hC:PySem.W.codeHdIn X.K c tb=true) (ab:X.env.code=.ref c) (hq:X.env.qual++Str.ofString "<lambda>" = k.2.2) (cv:O.line=k.1) (cy:O.col=k.2.1) (hz:X.env.scope.names.lookup (Str.ofString "held")=some .cell) (hN:X.N[j]?=some (Str.ofString "held")) (a6:X.calm=true){kr}(hr:Room (kr+2) X.A) (hg:Gl X "min") (hm:X.mg "min" = none) (ha:PA X [a] ta) (he:backTo pos (starEach [a] X.env)=(false,eval a X.env)::backTo pos (starEach [] X.env):=by rfl) (a4:(backTo pos (starEach [a] X.env)).any (·.1)=false:=by rfl) (b3:(backToKw pos (keywordEach [⟨some "key",.Lambda (N9 pa) (N8 p1 p2 p3) lamS O,a5⟩,⟨some "default",.Constant .none kt p4,a0⟩] X.env)).all (·.1.isSome)=true:=by rfl) (c0:(backToKw pos (keywordEach [⟨some "key",.Lambda (N9 pa) (N8 p1 p2 p3) lamS O,a5⟩,⟨some "default",.Constant .none kt p4,a0⟩] X.env)).any (·.1.isNone)=false:=by rfl) (cn:(backToKw pos (keywordEach [⟨some "key",.Lambda (N9 pa) (N8 p1 p2 p3) lamS O,a5⟩,⟨some "default",.Constant .none kt p4,a0⟩] X.env)).filterMap (·.1) = [Str.ofString "key",Str.ofString "default"]:=by rfl):
  PE X (.Call (.Name "min" p) [a] [⟨some "key",.Lambda (N9 pa) (N8 p1 p2 p3) lamS O,a5⟩,⟨some "default",.Constant .none kt p4,a0⟩] pos) (AU X.K j ta):=by
 intro pins s g H Q I h;refine qN7 (F0 I hg hm (u:=.builtin "min") rfl ?_);refine qY7 (thn (ha pos pins s g H _ I h) λus s1 b0=>?_) he a4 b3 c0;obtain ⟨vs,H1,I1,r1,l,b,is,ks,e1,hl,hj,hb,c1,hQ⟩:=b0;subst e1;cases r1 with
 |cons ru rt=>
 cases rt;cases ru;rw[cn]
 change wpAny _ _ (evalAll ((do let v <- eval (.Lambda (N9 pa) (N8 p1 p2 p3) lamS O) X.env;standAt pos;pure v)::(do let v <- eval (.Constant .none kt p4) X.env;standAt pos;pure v) :: [])) _ _ s1;refine qU9 (qA0 (zM I1 hT hC ab hq cv cy hz λf c' cl pm d0 H2 s2 I2 sm go b4 d3 c4=>qA0 (qQ0 (qN2 ?_))));refine qU9 (qA0 (Constant_none (qA0 (qQ0 (qN2 (wpAny_evalAll_nil ?_))))));obtain ⟨its,rI,pl,hsz⟩:=I2.list (hl.more sm);obtain ⟨cc,rJ,c5,b6⟩:=I2.list (hb.more sm);have a3:is.length=its.length:=by have:=rI.length;grind
 have d2:ks.length=cc.length:=by have:=rJ.length;grind
 obtain ⟨d,hd⟩:=c4;have a7:s2.heap.IsCell d (some (.ref b)):=by
  obtain ⟨m0,_,hl0⟩:=I2.loc;obtain ⟨u,ru,lk⟩:=hl0 j _ _ hN hj (.inr (.inl hz));cases ru;rcases lk with ⟨q,_⟩|⟨_,d',e',z⟩
  .have q':X.env.scope.names.lookup (Str.ofString "held")=some .local:=q;omega
  grind
 refine zA (vs:=its) (kf:=λn=>ks.getD (is.getD n 0).toNat 0) (I2.ok.hd a6) pl.isList (λn v hv h tk kp=>?_) λv h tk kp best=>?_
 .have hn:n<is.length:=by rw[a3];show (qA7.mp hv).1
  have ei:is[n]?=some (is.getD n 0):=by rw[qA3,qA5 hn];rfl
  obtain ⟨t,et⟩:=cV rI ei;rw[et]at hv;cases hv;have rg:=c1 _ (qD7 ei);generalize is.getD n 0=i at rg
  have ek:ks[i.toNat]?=some (ks.getD i.toNat 0):=by rw[qA3,qA5 ox];rfl
  obtain ⟨t',cp⟩:=cV rJ ek;have d1:=br;have lj:=b6;rw[qA4]at lj;show AF (s:={ s2 with heap:=h,toks:=tk }) hr.in1.depth (kp _ _ go) (b4.keeps kp) (I2.nolimit.keeps kp) hd (a7.keeps kp) (let ⟨o,e,q⟩:=c5.isList;⟨o,kp _ _ e,q⟩) rg.1 ox (by simpa using cp)
 .have I3:Inv X pins g H2 { s2 with heap:=h,toks:=tk }:=I2.un (Un.kept kp) (I2.hok.kept kp);rcases best with ⟨e0,rfl⟩|⟨n,bst⟩
  .have:is = []:=List.eq_nil_of_length_eq_zero (by rw[a3,e0];rfl)
   subst this;show ⟨.non,H2,I3,rfl,hQ H2 sm⟩
  .have hn:n<is.length:=by rw[a3];show bst.lt
   have ei:is[n]?=some (is.getD n 0):=by rw[qA3,qA5 hn];rfl
   obtain ⟨t,et⟩:=cV rI ei;have hv:=bst.at_;rw[et]at hv;cases hv;have em:bZ (λi=>ks.getD i.toNat 0) is=some (is.getD n 0):=vY ei λm y hy=>by
    have c3:m<its.length:=by rw[<- a3];show (qA7.mp hy).1
    have:=bst.least m c3
    have ey:is.getD m 0=y:=by rw[qA3,hy];rfl
    rw[ey]at this;show this
   have b5:=hQ H2 sm;rw[em]at b5;show ⟨.int (is.getD n 0),H2,I3,⟨t,rfl⟩,b5⟩
def Fun.okC {K}{st}(F:Fun K x qual st f fd) (S:e8 N ps (b8 st)) (len:∀vs H Q E,sp vs H Q E->vs.length=ps.length) (O:∀(A:Around) (outer:List Env) s H (vs:List V) Q E,Room k (A.deeper (envOfC qual (b8 st) s.heap.objs.size f fd.code))->sp vs H Q E ->
   ∃t,PSs (aT CX0 P w K mg base N qual (b8 st) f fd.code A outer s H E).nox (B4 st) t/\t { nx:=λ_ H'=>Q .non H',rt:=Q } (start N vs) H):FnOk P w K mg base CX0 (k+1) f fd ps sp:=by
 obtain ⟨oc,od,kV,doc,pm,an,cdv,ct,osl,rfl,lk,a3⟩:=F.ex;refine Bq lk a3 S len λA outer s H vs Q E hr a0=>?_;obtain ⟨t,h,q⟩:=O A outer s H vs Q E hr a0;show ⟨t,h.nox,q⟩
end L2
namespace TP
open PySem L2
noncomputable def vW:Option Int->W
 |none=>.non
 |some i=>.int i
noncomputable def jo (O ks:VW):R W:=if O.all (λi=>decide (0<=i)&&decide (i<(ks.length:Int)))=true then .ok (vW (bZ (λi=>ks.getD i.toNat 0) O)) else .stuck
def tm:W->W->R W
 | .lst ws,.lst us=>toR (x5 ws)>>=λO=>toR (x5 us)>>=λks=>jo O ks
 |_,_=>.stuck
def mML (j:Nat) (a:Rho):List W->R W
 | [w]=>a9 .B j a>>=λu=>tm w u
 |_=>.stuck
def lB (j:Nat)(O:Zw):Zj:=λa=>O a>>=mML j a
def Kd (h:tM K EX .F (lB j ma) c H Q):AU K j (tA K EX .B ma) c H Q:=by
 obtain ⟨H0,G,d,I,o⟩:=h;refine ⟨H0,G,d,I,Out.bind o λxs G1 H1 ws e1 m1 o1=>?_⟩;have I1:=I.ext e1;unfold mML at o1
 split at o1
 .rename_i w
  have hx:∃x,xs = [x]/\Md K H0 H G1 H1 x w .B:=by
   cases m1 with
   |cons a t=>cases t;show ⟨_,rfl,a⟩
  obtain ⟨x,rfl,a⟩:=hx;have key:R3 j c H1 (λv H2=>∃(l b:Addr) (is ks:VW),x=V.ref l/\SqL K H2 l (is.map V.int)/\v=V.ref b/\SqL K H2 b (ks.map V.int)/\(∀i∈is,0<=i/\i<ks.length)/\∀H3,(∀a o,H2 a=some o->H3 a=some o)->Q (vO (bZ (λi=>ks.getD i.toNat 0) is)) H3):=by
   refine lA (EX:=EX) ⟨H0,G1,d,I1,Out.bind o1 λv G2 H2 u e2 m2 O=>?_⟩;have I2:=I1.ext e2;have a2:=a.move e2;cases w <;> first|show O.elim|skip
   cases u <;> first|show O.elim|skip
   rename_i ws us
   replace O:Out EX G2 H2 _ (_>>=_) Q:=O
   cases q1:x5 ws with
   |none=>rw[q1]at O;show O.elim
   | some is=>
    cases q2:x5 us with
    |none=>rw[q1,q2]at O;show O.elim
    | some ks=>
     rw[q1,q2]at O;replace O:Out EX G2 H2 _ (jo is ks) Q:=O
     unfold jo at O;by_cases hc:is.all (λi=>decide (0<=i)&&decide (i<ks.length))=true
     .rw [qA2 hc]at O
      obtain ⟨p,ys,e3,hs,r⟩:=a2.lstB I2;obtain ⟨p',a5,e4,a0,r'⟩:=m2.lstB I2;rw[Reps.ints r q1]at hs;rw[Reps.ints r' q2]at a0;refine ⟨p,p',is,ks,e3,.inl (.inl hs),e4,.inl (.inl a0),λi hi=>?_,λH3 sm=>?_⟩
      .have:=qH5.mp hc i hi
       rw[qH4]at this;show ⟨qN5 this.1,qN5 this.2⟩
      .refine O _ G2 H3 ⟨Same.refl _,sm,I2.gh.trans sm,λ_ _ _ _ e=>e⟩ ?_;cases bZ _ is with
       |none=>show Md.sca rfl (λ_=>.non) .F
       |some i=>show Md.sca rfl (λ_=>.int) .F
     .rw[qA8 hc]at O;show O.elim
  obtain ⟨v,es,l,b,is,ks,a4,h1,a3,h2,h3,h4⟩:=key;subst a4 a3;show ⟨l,b,is,ks,rfl,h1,es,h2,h3,h4⟩
 .show o1.elim
def GQ {X:Cx}{K}{EX}{tb c}{k:Nat×Nat×Str}{pa p1 p2 p3 O p p4 pos a0 a3:Pos}{a}{ma:Zw}{j kt}(hT:(tb,k)∈lamT) (hC:PySem.W.codeHdIn X.K c tb=true) (a5:X.env.code=.ref c) (hq:X.env.qual++Str.ofString "<lambda>" = k.2.2) (ab:O.line=k.1) (b4:O.col=k.2.1) (hz:X.env.scope.names.lookup (Str.ofString "held")=some .cell) (hN:X.N[j]?=some (Str.ofString "held")) (a6:X.calm=true){kr}(hr:Room (kr+2) X.A) (hg:Gl X "min") (hm:X.mg "min" = none) (ha:PA X [a] (tA K EX .B ma)) (hK:X.K=K:=by rfl) (he:backTo pos (starEach [a] X.env)=(false,eval a X.env)::backTo pos (starEach [] X.env):=by rfl) (a4:(backTo pos (starEach [a] X.env)).any (·.1)=false:=by rfl) (a7:(backToKw pos (keywordEach [⟨some "key",.Lambda (N9 pa) (N8 p1 p2 p3) lamS O,a0⟩,⟨some "default",.Constant .none kt p4,a3⟩] X.env)).all (·.1.isSome)=true:=by rfl) (b0:(backToKw pos (keywordEach [⟨some "key",.Lambda (N9 pa) (N8 p1 p2 p3) lamS O,a0⟩,⟨some "default",.Constant .none kt p4,a3⟩] X.env)).any (·.1.isNone)=false:=by rfl) (b3:(backToKw pos (keywordEach [⟨some "key",.Lambda (N9 pa) (N8 p1 p2 p3) lamS O,a0⟩,⟨some "default",.Constant .none kt p4,a3⟩] X.env)).filterMap (·.1) = [Str.ofString "key",Str.ofString "default"]:=by rfl):
  PE X (.Call (.Name "min" p) [a] [⟨some "key",.Lambda (N9 pa) (N8 p1 p2 p3) lamS O,a0⟩,⟨some "default",.Constant .none kt p4,a3⟩] pos) (tM K EX .F (lB j ma)):=by
 subst hK;show (CP hT hC a5 hq ab b4 hz hN a6 hr hg hm ha he a4 a7 b0 b3).mono λ_ _ _ q=>Kd q
def oI j O a:lB j O a=O a>>=mML j a:=rfl
def wn j a w:mML j a [w]=a9 .B j a>>=λu=>tm w u:=rfl
def qP O ks:tm (.lst (O.map W.int)) (.lst (ks.map W.int))=jo O ks:=by
 change _>>=_=_;rw[ints_map,ints_map];rfl
end TP
namespace L2
open PySem
def codeTab (C:PySem.W.CodeHd h c P):isCodeTable h P:=by
 obtain ⟨o,vs,_,_,_,_,_,_,_,O,e2,e3,e4,_⟩:=C;show ⟨c,o,vs,O,e2,e3,e4⟩
end L2
namespace TP.ST
open PySem PySem.SetTable
structure Tb (t:SetTable):Prop where
 m:t.mask=7\/t.mask=31
 d:t.dummies=#[]
 f:t.place.size<=t.mask
theorem lU {t:SetTable}(h:t.dummies=#[]) j:t.slot j=.empty\/∃i,t.slot j=.live i/\t.place[i]?=some j:=by
 grind[SetTable.slot,SetTable.has]
def uE {t:SetTable}(h:t.dummies=#[]) (O:j∉t.place.toList):t.slot j=.empty:=by
 grind[lU]
def mK:∀ n (l:Zq),l.length<n->∃j,j<n/\j∉l
 |0,l,h=>absurd h (qD4 _)
 | n+1,l,h=>by
  by_cases hn:n∈l
  .have hl:(l.erase n).length<n:=by rw[List.length_erase_of_mem hn];have:=qS1 hn;omega
   obtain ⟨j,hj,O⟩:=mK n _ hl;show ⟨j,ox,λq=>O ((List.mem_erase_of_ne ox).mpr q)⟩
  .show ⟨n,ox,hn⟩
noncomputable def wk (t:SetTable) (h:Int):Nat->Probe
 |0=>t.probeStart h
 |n+1=>t.advance (wk t h n)
def fA t h:∀n,(wk t h n).dummy=none
 |0=>rfl
 | n+1=>by
  change (t.advance _).dummy=none;unfold SetTable.advance
  split
  .show fA t h n
  .show fA t h n
noncomputable def lp (mask:Nat) (h:Int):Nat->Nat×Nat
 |0=>(bits h%(mask+1),bits h)
 |n+1=>leap mask (lp mask h n).1 (lp mask h n).2
def oJ (mask:Nat)(p:Probe)(x:Nat×Nat):Prop:=p.j=x.1/\p.more=runEnd mask x.1-x.1/\p.i=x.1/\p.perturb=x.2
def yu {mask}:runEnd mask i-i<=9:=by unfold runEnd;split <;> omega
def uc t h (O:oJ t.mask (wk t h n) x):∀k,k<=runEnd t.mask x.1-x.1->(wk t h (n+k)).more=runEnd t.mask x.1-x.1-k/\(wk t h (n+k)).i=x.1/\(wk t h (n+k)).perturb=x.2
 |0,_=>⟨O.2.1,O.2.2.1,O.2.2.2⟩
 | k+1,hk=>by
  obtain ⟨h1,h2,h3⟩:=uc t h O k ox;have e:wk t h (n+(k+1))=t.advance _:=rfl;rw[e];unfold SetTable.advance;rw[qA2 ox];show ⟨ox,h2,h3⟩
def pB t h:∀m,∃n,n<=10*m/\oJ t.mask (wk t h n) (lp t.mask h m)
 |0=>⟨0,qB3 _,rfl,rfl,rfl,rfl⟩
 | m+1=>by
  obtain ⟨n,hn,O⟩:=pB t h m;have hr:=yu (mask:=t.mask) (i:=(lp t.mask h m).1);obtain ⟨h1,h2,h3⟩:=uc t h O _ (qB3 _);refine ⟨n+(runEnd t.mask (lp t.mask h m).1-(lp t.mask h m).1)+1,ox,?_⟩;have e:wk t h (n+_+1)=t.advance (wk t h (n+(runEnd t.mask (lp t.mask h m).1-(lp t.mask h m).1))):=rfl;rw[e];unfold SetTable.advance;rw[qA8 ox,h2,h3];show ⟨rfl,rfl,rfl,rfl⟩
def wk7 t h (hm:t.mask=7):∀m,oJ t.mask (wk t h m) (lp t.mask h m)
 |0=>⟨rfl,rfl,rfl,rfl⟩
 | m+1=>by
  have O:=wk7 t h hm m;have e:wk t h (m+1)=t.advance _:=rfl;have hr:runEnd t.mask (lp t.mask h m).1-(lp t.mask h m).1=0:=by unfold runEnd;omega
  rw[e];unfold SetTable.advance;rw[qA8 (by rw[O.2.1,hr];omega),O.2.2.1,O.2.2.2];show ⟨rfl,rfl,rfl,rfl⟩
def ii mask h:∀m,(lp mask h m).2=bits h/32^m
 |0=>by change bits h=_;omega
 | m+1=>by
  change _/32=_;rw[ii,Nat.div_div_eq_div_mul,Nat.pow_succ]
def EL h:bits h<2^64:=by
 grind[bits]
def Lz mask h (hm:13<=m):(lp mask h m).2=0:=by
 rw[ii];have O:=EL h;have h2:_^13<=32^m:=Nat.pow_le_pow_right ZQ hm;show Nat.div_eq_of_lt (qB4 (Nat.lt_trans O ZQ) h2)
noncomputable def fx (mask i:Nat):Nat:=(i*5+1)%(mask+1)
noncomputable def fxn (mask:Nat):Nat->Nat->Nat
 |0,i=>i
 |n+1,i=>fx mask (fxn mask n i)
def sP mask h:∀k,(lp mask h (12+k)).1=fxn mask k (lp mask h 12).1
 |0=>rfl
 | k+1=>by
  change (leap mask (lp mask h (12+k)).1 (lp mask h (12+k)).2).1=fx mask _;have e:_/32=0:=Lz mask h (m:=12+k+1) ox;unfold leap fx;rw[e,sP,Nat.add_zero]
def LA mask h:∀m,(lp mask h m).1<mask+1
 |0=>Nat.mod_lt _ ox
 |m+1=>Nat.mod_lt _ ox
def LG:∀i,i<8->∀j,j<8->∃k,k<8/\fxn 7 k i=j:=ZV
def IY:∀i,i<32->∀j,j<32->∃k,k<32/\fxn 31 k i=j:=ZV
def wq {mask}(hm:mask=7\/mask=31) h (hj:j<mask+1):∃m,m<=12+mask/\(lp mask h m).1=j:=by
 have O:=LA mask h 12;rcases hm with rfl|rfl
 .obtain ⟨k,hk,e⟩:=LG _ O j hj;show ⟨12+k,ox,by rw[sP,e]⟩
 .obtain ⟨k,hk,e⟩:=IY _ O j hj;show ⟨12+k,ox,by rw[sP,e]⟩
def Fh (hm:t.mask=7\/t.mask=31) h (hj:j<t.mask+1):∃n,n<10*turns t.mask/\(wk t h n).j=j:=by
 obtain ⟨m,a0,e⟩:=wq hm h hj;rcases hm with h7|h31
 .refine ⟨m,by unfold turns;omega,?_⟩;rw[(wk7 t h h7 m).1];show e
 .obtain ⟨n,hn,O⟩:=pB t h m;show ⟨n,by unfold turns;omega,by rw[O.1];show e⟩
def px (T:Tb t) h:∃N,N<10*turns t.mask/\t.slot (wk t h N).j=.empty/\∀n,n<N->t.slot (wk t h n).j≠.empty:=by
 obtain ⟨j,hj,O⟩:=mK (t.mask+1) t.place.toList (by rw[qJ1];have:=T.f;omega);obtain ⟨n,hn,e⟩:=Fh T.m h hj;have hs:t.slot (wk t h n).j=.empty:=by rw[e];show uE T.d O
 clear e O hj
 induction n using Nat.strongRecOn with
 | _ n ih=>
  by_cases q:∃m,m<n/\t.slot (wk t h m).j=.empty
  .obtain ⟨m,hm,a0⟩:=q;show ih m hm ox a0
  .show ⟨n,hn,hs,λm hm z=>q ⟨m,hm,z⟩⟩
def qN (T:Tb t) (hashAt:VY) h (O:t.slot (wk t h N).j=.empty) (hb:∀n,n<N->t.slot (wk t h n).j≠.empty):∀ d n fuel,N=n+d->d<fuel ->
  probe.go t hashAt h fuel (wk t h n)=some (.empty (wk t h N).j none)\/∃m i,n<=m/\m<N/\t.slot (wk t h m).j=.live i/\i<t.place.size/\hashAt i=h/\probe.go t hashAt h fuel (wk t h n)=some (.candidate (wk t h m).j i (wk t h (m+1)))
 | 0,n,fuel,e,hf=>by
  obtain ⟨f,rfl⟩:∃f,fuel=f+1:=⟨fuel-1,ox⟩;subst e;refine .inl ?_;unfold probe.go;rw[O,fA]
 | d+1,n,fuel,e,hf=>by
  obtain ⟨f,rfl⟩:∃f,fuel=f+1:=⟨fuel-1,ox⟩;rcases lU T.d _ with q|⟨i,q,qi⟩
  .show absurd q (hb n ox)
  .have hi:i<t.place.size:=by
    grind
   unfold probe.go;rw[q];dsimp;by_cases hh:hashAt i=h
   .rw [qA2 (by simpa using hh)]
    show .inr ⟨n,i,qB3 _,ox,q,hi,hh,rfl⟩
   .rw [qA8 (by simpa using hh)]
    rcases qN T _ h O hb d (n+1) f ox ox with r|⟨m,i',a,b,c⟩
    .show .inl r
    .show .inr ⟨m,i',ox,b,c⟩
def kJ (hs:owner.size=32) (hj:j<32) (O:owner.getD j (some 0)=none):∀ d m fuel,(lp 31 h (m+d)).1=j->d<fuel->∃k,layClean.free 31 owner fuel (lp 31 h m).1 (lp 31 h m).2=some k/\owner.getD k (some 0)=none
 | d,m,fuel,e,hd=>by
  obtain ⟨f,rfl⟩:∃f,fuel=f+1:=⟨fuel-1,ox⟩;unfold layClean.free;cases q:(List.range _).find? _ with
  | some k=>
   have:=List.find?_some q
   show ⟨_,rfl,by simpa using this⟩
  | none=>
   cases d with
   | zero=>
    rw[qV3]at q;have e:(lp 31 h m).1=j:=e
    have:=q 0 (by rw[qH6];unfold runEnd;split <;> omega)
    rw[Nat.add_zero,e,O]at this;show absurd rfl this
   |succ d=>show kJ hs hj O d (m+1) f (by congr 2;omega) ox
structure Ow (owner:Array (Option Nat)) (m:Nat):Prop where
 s:owner.size=32
 all:∀k:Nat,k<m->∃j:Nat,owner[j]?=some (some k)
 lt:∀j k:Nat,owner[j]?=some (some k)->k<m
 inj:∀j j' k:Nat,owner[j]?=some (some k)->owner[j']?=some (some k)->j=j'
def Ow.free (O:Ow owner m) (hm:m<32):∃j,j<32/\owner.getD j (some 0)=none:=by
 -- the slots of the m
 have:∃l:List Nat,l.length=m/\∀j k,owner[j]?=some (some k)->j∈l:=by
  have key:∀n,n<=m->∃l:List Nat,l.length=n/\∀j k,k<n->owner[j]?=some (some k)->j∈l:=by
   intro n
   induction n with
   |zero=>simp_all
   | succ n ih=>
    intro hn;obtain ⟨l,hl,h⟩:=ih ox;obtain ⟨j0,a3⟩:=O.all n ox;refine ⟨j0::l,by rw[qB9,hl],λj k hk e=>?_⟩;by_cases q:k=n
    .subst q;rw[O.inj j j0 k e a3];grind
    .show qA6 _ (h j k ox e)
  obtain ⟨l,hl,h⟩:=key m (qB3 _);show ⟨l,hl,λj k e=>h j k (O.lt j k e) e⟩
 obtain ⟨l,hl,h⟩:=this;obtain ⟨j,hj,a4⟩:=mK 32 l ox;refine ⟨j,hj,?_⟩;have a0:j<owner.size:=by rw[O.s];show hj
 rw[qP7,qH0 a0];cases q:owner[j] <;> grind
theorem Ow.put (O:Ow owner m) (hj:owner.getD j (some 0)=none):Ow (owner.setIfInBounds j (some m)) (m+1):=by
 have a3:j<owner.size:=by
  omega
 have a0:owner[j]?=some none:=by
  simp_all
 have gt:∀i,(owner.setIfInBounds j (some m))[i]?=if i=j then some (some m) else owner[i]?:=λi=>by
  grind
 refine ⟨by rw[qQ8];show O.s,λk hk=>?_,λi k e=>?_,λi i' k e e'=>?_⟩
 .by_cases q:k=m
  .grind
  .obtain ⟨i,hi⟩:=O.all k ox;refine ⟨i,?_⟩;rw[gt,qA8 λz=>by rw[z,a0]at hi;cases hi];show hi
 .rw [gt]at e
  split at e
  .omega
  .have:=O.lt i k e;omega
 .rw [gt]at e e'
  split at e
  .cases e
   split at e'
   .omega
   .have:=O.lt i' m e';omega
  .split at e'
   .cases e';have:=O.lt i m e;omega
   .show O.inj i i' k e e'
def oz:∀(l:VW) (owner:Array (Option Nat)) m,Ow owner m->m+l.length<=31->∃o',Ow o' (m+l.length)/\l.foldl (λa0 h=>do
  let (owner,k) <- a0
  let j <- layClean.free 31 owner (turns 31) (bits h%(31+1)) (bits h)
  pure (owner.setIfInBounds j (some k),k+1)) (some (owner,m))=some (o',m+l.length)
 | [],owner,m,O,_=>⟨owner,O,rfl⟩
 | h::l,owner,m,O,hl=>by
  rw[qB9]at hl;obtain ⟨j,hj,hf⟩:=O.free ox;obtain ⟨d,hd,e⟩:=wq (.inr rfl) h hj;obtain ⟨k,hk,a3⟩:=kJ O.s hj hf d 0 (turns 31) (by rw[qK7];show e) (by unfold turns;omega);have hk:layClean.free 31 owner _ (_%_) (bits h)=_:=hk;obtain ⟨o',O',e'⟩:=oz l _ _ (O.put a3) ox
  grind
def vd {t:SetTable}(hn:hs.size<=31) (hw:sizeAbove w=32):∃t' order,t.relaid hs w=some (t',order)/\Tb t'/\t'.mask=31/\t'.place.size=hs.size/\order.size=hs.size/\(∀k∈order.toList,k<hs.size)/\order.toList.Nodup/\t'.led=t.led:=by
 have O0:Ow (Array.replicate 32 none) 0:=by
  refine ⟨Array.size_replicate,λk hk=>absurd hk (qD4 _),λj k e=>?_,λj j' k e=>?_⟩
  all_goals
   rw[Array.getElem?_replicate]at e
   split at e <;> cases e
 obtain ⟨ow,O,e⟩:=oz hs.toList _ 0 O0 (by rw[qJ1];omega);rw[qK7,qJ1]at O e;have a3:layClean 31 hs=some ow:=by
  grind[layClean]
 have live:∀x,x∈(List.range 32).filterMap (λj=>(ow.getD j none).map (j,·))↔ow[x.1]?=some (some x.2):=λa0=>by
  obtain ⟨j,k⟩:=a0;rw[List.mem_filterMap];constructor
  .rintro ⟨i,hi,q⟩;have hi:i<ow.size:=by rw[O.s];simpa using hi
   rw[qP7,qH0 hi]at q;cases z:ow[i] with
   |none=>rw[z]at q;cases q
   | some k'=>
    rw[z]at q;cases q;rw[qH0 hi,z]
  .intro q;have hj:j<ow.size:=by
    grind
   refine ⟨j,by rw[qH6,<- O.s];show hj,?_⟩;simp_all
 generalize hL:(List.range 32).filterMap (λj=>(ow.getD j none).map (j,·))=L at live
 have pw:L.Pairwise λa b=>a.1≠b.1:=by
  rw[<- hL,List.pairwise_filterMap];refine List.Pairwise.imp ?_ List.pairwise_lt_range;intro a b a4 x hx y hy;cases z:ow.getD a none with
  |none=>rw[z]at hx;cases hx
  | some k=>
   cases z':ow.getD b none with
   |none=>rw[z']at hy;cases hy
   |some k'=>rw[z]at hx;rw[z']at hy;cases hx;cases hy;change a≠b;omega
 have nd:(L.map (·.2)).Nodup:=by
  rw[List.Nodup,qI8];refine (List.Pairwise.and_mem.mp pw).imp λ⟨ha,hb,hne⟩ z=>hne ?_;have h1:=(live _).mp ha;have h2:=(live _).mp hb;rw[<- z]at h2;show O.inj _ _ _ h1 h2
 have mem:∀k,k∈L.map (·.2)↔k∈List.range hs.size:=λk=>by
  rw[qB1,qH6];constructor
  .rintro ⟨x,hx,rfl⟩;show O.lt _ _ ((live x).mp hx)
  .intro hk;obtain ⟨j,hj⟩:=O.all k hk;show ⟨(j,k),(live _).mpr hj,rfl⟩
 have hp:(L.map (·.2)).Perm (List.range hs.size):=(qV8 nd List.nodup_range).mpr mem;have hlen:L.length=hs.size:=by have:=hp.length_eq;rwa [qA4,qE2]at this
 refine ⟨{ mask:=31,place:=(L.map (·.1)).toArray,dummies:=#[],finger:=t.finger,led:=t.led,moves:=t.movedTo 31,plain:=t.plain },(L.map (·.2)).toArray,?_,⟨.inr rfl,rfl,by simp [hlen];omega⟩,rfl,by simp [hlen],by simp [hlen],λk hk=>?_,ox,rfl⟩
 .unfold SetTable.relaid;rw[hw]
  change SetTable.laid 31 t.finger (t.movedTo 31) t.led t.plain hs=_;unfold SetTable.laid;rw[a3]
  change some _=_;rw[<- hL]
 .have:k∈L.map (·.2):=by simpa using hk
  have:=(mem k).mp this
  simpa using this
end TP.ST
namespace TP.ST
open PySem
section
variable {prog:Program}{w:World}{K:Type} [DecidableEq K] {kd:KeyKind prog w K}{A:Around}{E:VZ}{s:Shared}{Pb:Addr->Prop}
def hbv n (h:carriedByValue v=true):∃b,hashByValue n v=pure b:=by
 cases v <;> first | (cases h;done)|show ⟨_,by cases n <;> rfl⟩
def iJ (hk:IsTupleKey kd s.heap ks a) (h:∀b,Q b s):wpAny (model prog w) A (hashByValue 8 (.ref a)) Q E s:=by
 have hT:=hk.typeIs;obtain ⟨o,items,n,ho,_,hd,hi⟩:=hk;refine qA0 (wpAny_specialOf hT F.slot_tuple_hash.lookup ?_);refine qA0 (qN9 ho hd ?_);refine qA0 ?_;rw[<- qV2];refine qS5 _ (λrest r s'=>r.1=none/\s'=s/\∀v∈rest,carriedByValue v=true) _ ?_ ?_ _ _ ⟨rfl,rfl,hi.byValue⟩
 .rintro v rest r s' ⟨hr,rfl,O⟩;obtain ⟨b,e⟩:=hbv 7 (O v qB2)
  grind[PySem.wpAny_pure]
 grind[PySem.wpAny_pure]
theorem oacs n (h:carriedByValue v=true):ofAClassStatement n v=pure false:=by
 cases v <;> first | (cases h;done) | (rfl) | (cases n <;> rfl)
theorem oT (hk:IsTupleKey kd s.heap ks a) (h:Q false s):wpAny (model prog w) A (ofAClassStatement 8 (.ref a)) Q E s:=by
 obtain ⟨o,items,n,ho,hc,hd,hi⟩:=hk;unfold ofAClassStatement;refine qA0 (wpAny_typeOf_ref ho ?_);rw[hc]
 change wpAny _ _ (do
  let u <- if _ == "tuple" then _ else _
  _) _ _ s
 refine qA0 (qN2 ?_);refine qA0 (qN9 ho hd ?_);refine qA0 ?_;rw[<- qV2];refine qS5 _ (λrest r s'=>r.1=none/\s'=s/\∀v∈rest,carriedByValue v=true) _ ?_ ?_ _ _ ⟨rfl,rfl,hi.byValue⟩
 .rintro v rest r s' ⟨hr,rfl,O⟩
  grind[oacs,PySem.wpAny_pure]
 grind[PySem.wpAny_pure]
def BL {stored:Vy}(O:IsTupleKey kd s.heap k a) (a0:∀v∈stored,∃k' b,v=.ref b/\IsTupleKey kd s.heap k' b) (h:Q false s):wpAny (model prog w) A (searchCouldBeSeen (.ref a) stored) Q E s:=by
 refine qA0 ?_;refine qS5 _ (λrest r s'=>s'=s/\r=_/\∀v∈rest,∃k' b,v=.ref b/\IsTupleKey kd _ k' b) _ ?_ ?_ _ _ ⟨rfl,rfl,a0⟩
 .rintro x rest r s' ⟨rfl,rfl,hr⟩;obtain ⟨k',b,rfl,hb⟩:=hr x qB2;have nx:=λv hv=>hr v (qA6 _ hv);dsimp
  split
  .show qN2 ⟨rfl,rfl,nx⟩
  .refine qA0 (wpAny_eqIsQuiet_tuple O ?_)
   grind[PySem.wpAny_bind,wpAny_eqIsQuiet_tuple,oT,PySem.wpAny_pure]
 .rintro r s' ⟨rfl,rfl,_⟩;show qN2 h
def Els (kd:KeyKind prog w K)(Pb:Addr->Prop)(h:Heap)(O:List (List K))(es:List (Int×Value)):Prop:=∀e∈es,∃ks∈O,∃b,Pb b/\e=(tupleKeyHash kd ks,.ref b)/\IsTupleKey kd h ks b
def ub (hu:A.units<cLine) (ho:s.heap.get? S=some o) (hd:o.data=.set es ep t) (T:Tb t) (hsz:t.place.size=es.size) (hE:Els kd Pb s.heap kss es.toList) (hk:IsTupleKey kd s.heap k x) (b5:k∉kss) (hN:t.slot (wk t (tupleKeyHash kd k) N).j=.empty) (hb:∀n,n<N->t.slot (wk t (tupleKeyHash kd k) n).j≠.empty) (cc:N<10*SetTable.turns t.mask) (h:Q (.free (wk t (tupleKeyHash kd k) N).j false) s):∀ d n fuel st,N=n+d->d<fuel->st.getD (t.probeStart (tupleKeyHash kd k))=wk t (tupleKeyHash kd k) n->wpAny (model prog w) A (setSearchFrom S (.ref x) (tupleKeyHash kd k) true fuel st) Q E s:=by
 have O:t.fits es.size=true:=by
  unfold SetTable.fits SetTable.fill;rw[T.d,hsz]
  have:=T.f
  simp;omega
 intro d
 induction d using Nat.strongRecOn with
 | _ d ih=>
  intro n fuel st e hf c0;obtain ⟨f,rfl⟩:∃f,fuel=f+1:=⟨fuel-1,ox⟩;unfold setSearchFrom;refine qA0 (qP5 ho hd O ?_);dsimp only;have hg:t.gaveWay=false:=by unfold SetTable.gaveWay;rcases T.m with q|q <;> rw[q] <;> rfl
  rw[hg,c0];simp only [qE7,qO2];have gw:=qN T (λi=>(es[i]?.map (·.1)).getD 0) (tupleKeyHash kd k) hN hb d n (10*SetTable.turns t.mask) e ox
  split
  .rename_i met hmet
   rcases gw with r|⟨m,i,a1,a2,a3,a4,a5,r⟩
   .have hm:=Option.some.inj (hmet.symm.trans r);subst hm;show qN2 h
   .have hm:=Option.some.inj (hmet.symm.trans r);subst hm;dsimp only;have a6:i<es.size:=ox;have a7:es[i]∈es.toList:=by grind
    obtain ⟨ks,b3,b,_,ee,c4⟩:=hE _ a7;have c1:ks≠k:=λz=>b5 (z ▸ b3);have rest:wpAny (model prog w) A (do
      let some (_,y):=es[i]? |unsupported "internal:set-entry"
      let equal <- holding [y] (eqBool y (.ref x))
      let (es',_,t') <- setState S
      if true&&equal then return SetFound.there none
      let some same:=t'.sameMemory t.moves t.mask|unsupported "set.changed-during-lookup:is-the-new-block-at-the-old-address"
      let a0 <- match (if same then t'.slot (wk t (tupleKeyHash kd k) m).j else .empty) with
       | .live i'=>match es'[i']? with
        |some (_,y')=>do pure (if <- isSame y' y then some i' else none)
        |none=>pure none
       |_=>pure none
      match a0 with
      |none=>rule "set.search.anew";setSearchFrom S (.ref x) (tupleKeyHash kd k) true f none
      |some i'=>if equal then return SetFound.there (some i') else setSearchFrom S (.ref x) (tupleKeyHash kd k) true f (some (wk t (tupleKeyHash kd k) (m+1)))) Q E s:=by
     rw[qH0 a6,ee];dsimp only;refine qA0 (qN6 (wpAny_eqBool_tuple hu c4 hk ?_));rw[qN3 c1];refine qA0 (qP5 ho hd O ?_);dsimp only;simp only [Bool.and_false,qE7,qO2];have c5:t.sameMemory t.moves t.mask=some true:=by unfold SetTable.sameMemory;rw[qA2 ZZ]
     rw[c5];dsimp only;rw[qA2 rfl,a3];dsimp only;rw[qH0 a6,ee];dsimp only;refine qA0 ?_
     change wpAny _ _ (if (b == b)=true then pure true else _) _ _ s;rw[qA2 ZZ];refine qN2 ?_;rw[qA2 rfl];refine qA0 (qN2 ?_);dsimp only;show ih (N-(m+1)) ox (m+1) f _ ox ox rfl
    split
    .refine qA0 (BL hk (λv hv=>?_) ?_)
     .obtain ⟨e2,b4,rfl⟩:=qB1.mp hv;have c3:e2∈es.toList:=by
       have:=qT1.mp b4
       show qT1.mpr (Array.mem_filter.mp this).1
      obtain ⟨b6,_,b',_,b0,ab⟩:=hE _ c3;show ⟨b6,b',by rw[b0],ab⟩
     .simp only [qE7,qO2];show rest
    .show rest
  .rename_i hmet
   exfalso;rcases gw with r|⟨m,i,a1,a2,a3,a4,a5,r⟩
   .show hmet _ r
   .show hmet _ r
def SetT (kd:KeyKind prog w K) (Pb:Addr->Prop) (h:Heap) (S:Addr) (O:List (List K)):Prop:=
 ∃es ep t,h.get? S=some { cls:=.type "set",dict:=none,data:=.set es ep t,slots:=#[] }/\Tb t/\t.place.size=es.size/\es.size=O.length/\((t.mask=7/\es.size<=4)\/(t.mask=31/\es.size<=18))/\Els kd Pb h O es.toList
def zP (hk:IsTupleKey kd h ks b) (ho:h.get? S=some o) (hd:o.data=.set es ep t) (hs:Heap.SameBut S h h'):IsTupleKey kd h' ks b:=by
 obtain ⟨o',items,n,a3,hc,O,hi⟩:=hk;have a0:b≠S:=by
  omega
 show ⟨o',items,n,by rw[hs.2 b a0];omega,hc,O,hi⟩
def DQ {xs:Array (Int×Value)}(h:e∈(SetTable.insertAt xs p x).toList):e∈xs.toList\/e=x:=by
 grind[SetTable.insertAt_perm]
def nP (xs:Array a) p (x:a):(SetTable.insertAt xs p x).size=xs.size+1:=by
 have:=(SetTable.insertAt_perm xs p x).length_eq
 grind
def Hg {t:SetTable}(hd:t.dummies=#[]) j:(t.put j).1={ t with place:=SetTable.insertAt t.place (SetTable.below t.place j) j }:=by
 grind[SetTable.put,SetTable.has]
def Els.away (hE:Els kd Pb h kss l) (ho:h.get? S=some o) (hd:o.data=.set es ep t) (hs:Heap.SameBut S h h'):Els kd Pb h' kss l:=λe O=>by
 obtain ⟨ks,hk,b,pb,ee,hb⟩:=hE e O;show ⟨ks,hk,b,pb,ee,zP hb ho hd hs⟩
def Jb {es:Array (Int×Value)}{order:Array Nat}(h:e∈(order.filterMap (es[·]?)).toList):e∈es.toList:=by
 grind
def Ea {es:Array (Int×Value)}{order:Array Nat}(h:∀k∈order.toList,k<es.size):(order.filterMap (es[·]?)).size=order.size:=by
 simp_all
def lR {h:Heap}(ho:h.get? S=some { cls:=.type "set",dict:=none,data:=.set es ep t,slots:=#[] }) (O:Array (Int×Value)) t':(h.update S (Obj.putSet O t')).get? S=some { cls:=.type "set",dict:=none,data:=.set O (ep+1) t',slots:=#[] }:=by
 have:=qI3 (Obj.putSet O t') ho Zo
 show this
def iI (ho:s.heap.get? S=some { cls:=.type "set",dict:=none,data:=.set es ep t,slots:=#[] }) (hm:(t2.mask=7/\es1.size<=5)\/(t2.mask=31/\es1.size<=18)) (a3:t2.dummies=#[]) (hp:t2.place.size=es1.size) (hn:es1.size=kss.length) (hz:es.size+1=es1.size) (hE:Els kd Pb s.heap kss es1.toList) (h:∀h',Heap.SameBut S s.heap h'->SetT kd Pb h' S kss->Q true { s with heap:=h' }):wpAny (model prog w) A (do
   storeSet S es1 t2
   if (!false&&t2.tooFull)=true then do
    setRelay S (SetTable.grown (es.size+1))
    pure true
   else pure true) Q E s:=by
 have b5:es1.size<scanBound:=by unfold scanBound;omega
 refine qA0 (wpAny_storeSet_of ho rfl ?_ (fits_of_scanBound b5));have a0:=lR ho es1 t2;have O:=qG9 s.heap S (Obj.putSet es1 t2);have a7:=hE.away ho rfl O;have T2:Tb t2:=⟨ox,a3,ox⟩;have ab:t2.fits es1.size=true:=by
  unfold SetTable.fits SetTable.fill;rw[a3,hp];simp;omega
 rw[Bool.not_false,Bool.true_and];cases hf:t2.tooFull with
 | false=>
  have b4:t2.mask=7/\es1.size<=4\/t2.mask=31/\es1.size<=18:=by
   rcases hm with ⟨a,b⟩|q
   .have:¬ es1.size=5:=λz=>by
     unfold SetTable.tooFull SetTable.fill at hf;rw[a3,hp,z,a]at hf;show absurd hf ZQ
    show .inl ⟨a,ox⟩
   .show .inr q
  show qN2 (h _ O ⟨es1,ep+1,t2,a0,T2,hp,hn,b4,a7⟩)
 | true=>
  have h5:es1.size=5:=by
   unfold SetTable.tooFull SetTable.fill at hf;rw[a3,hp]at hf;have e0:(#[]:Array Nat).size=0:=rfl;rcases hm with ⟨a,b⟩|⟨a,b⟩ <;> rw[a]at hf <;> omega
  have hw:SetTable.sizeAbove (SetTable.grown (es.size+1))=32:=by rw[hz,h5];decide
  obtain ⟨t3,order,hr,T3,m3,p3,o3,b0,c1,_⟩:=vd (hs:=es1.map (·.1)) (w:=SetTable.grown (es.size+1)) (by rw[Array.size_map];omega) hw;rw[Array.size_map]at p3 o3 b0;have a4:=Ea (es:=es1) b0;unfold setRelay;refine qA0 ?_;refine qA0 (qP5 a0 rfl ab ?_);dsimp only;rw[hw,qA8 ZQ,hr];refine qA0 ?_
  change wpAny _ _ (do
   if (order.filterMap (es1[·]?)).size != es1.size then unsupported "internal:set-table-lost-an-element"
   pure (order.filterMap (es1[·]?),t3)) _ _ _
  have b3:((order.filterMap (es1[·]?)).size != es1.size)=false:=by rw[a4,o3];simp
  rw[b3];simp only [qE7,qO2];refine qN2 ?_;dsimp only;have a6:(order.filterMap (es1[·]?)).size=5:=by rw[a4,o3,h5]
  refine wpAny_storeSet_of a0 rfl ?_ (fits_of_scanBound (by rw[a6];decide));have a5:=qG9 (s.heap.update S (Obj.putSet es1 t2)) S (Obj.putSet (order.filterMap (es1[·]?)) t3);have c0:=lR a0 (order.filterMap (es1[·]?)) t3;have b6:Els kd Pb _ kss (order.filterMap (es1[·]?)).toList:=λe he=>(a7.away a0 rfl a5) e (Jb he);show qN2 (h _ (O.trans a5) ⟨_,_,t3,c0,T3,by rw[p3,a6,h5],by rw[a6,<- hn,h5],.inr ⟨m3,ox⟩,b6⟩)
def Fg (hu:A.units<cLine) (hS:SetT kd Pb s.heap S kss) (hl:kss.length<=17) (hk:IsTupleKey kd s.heap k x) (b0:Pb x) (b3:k∉kss) (h:∀h',Heap.SameBut S s.heap h'->SetT kd Pb h' S (kss ++ [k])->Q true { s with heap:=h' }):wpAny (model prog w) A (setAddHashed S (.ref x) (tupleKeyHash kd k)) Q E s:=by
 obtain ⟨es,ep,t,ho,T,hsz,hn,c1,hE⟩:=hS;have a3:t.fits es.size=true:=by
  unfold SetTable.fits SetTable.fill;rw[T.d,hsz];simp;omega
 obtain ⟨N,b4,hN,hb⟩:=px T _;refine qN6 (qA0 (qP5 ho rfl a3 ?_));dsimp;have b5:byScan (.ref x) es=false:=rfl;rw[b5];unfold setSearch;have b6:SetTable.turns t.mask<=46:=by
  unfold SetTable.turns;rcases T.m with q|q <;> omega
 refine qA0 (ub hu ho rfl T hsz hE hk b3 hN hb b4 ?_ N 0 100000 none ox ox rfl);refine qA0 (qP5 ho rfl a3 ?_);generalize (wk t _ N).j=j at *
 have ab:=Hg T.d j;generalize c3:(t.put j).2=p at *
 rw[ab];have O:(SetTable.insertAt es p (tupleKeyHash kd k,Value.ref x)).size=es.size+1:=nP ..;have a6:Els kd Pb _ (kss ++ [k]) (SetTable.insertAt es p _).toList:=λe he=>by
  rcases DQ he with q|q
  .obtain ⟨ks,a,b,c⟩:=hE e q;show ⟨ks,qG6 _ a,b,c⟩
  .show ⟨k,ZZ,x,b0,q,hk⟩
 generalize c0:SetTable.insertAt es p (tupleKeyHash kd k,Value.ref x)=a0 at *
 have a4:(SetTable.insertAt t.place (SetTable.below t.place j) j).size=a0.size:=by rw[nP,hsz,O]
 have a5:(t.mask=7/\a0.size<=5)\/(t.mask=31/\a0.size<=18):=ox;have a7:a0.size=(kss ++ [k]).length:=by rw[qB8,qE6];omega
 split
 .refine qA0 (iJ hk λb=>?_);cases b with
  | true=>
   simp only [qN8];show iI ho a5 T.d a4 a7 O.symm a6 h
  | false=>
   simp only [qE7,qO2];show iI ho a5 T.d a4 a7 O.symm a6 h
 .refine qA0 (qN2 ?_);simp only [qN8];show iI ho a5 T.d a4 a7 O.symm a6 h
end
section
variable {prog:Program}{w:World}{K:Type} [DecidableEq K] {kd:KeyKind prog w K}{A:Around}{R:Result->Shared->Prop}{I:Addr}{fp wr:List Addr}{G:Array GenState->Array GenState->Prop}{n:Nat}{P:Nat->Value->Prop}{St:Nat->Shared->Prop}
def SetT.keep (hS:SetT kd (·∉S::wr) h S kss) (a0:S∉wr) (hk:∀b o,b∉wr->h.get? b=some o->h'.get? b=some o):SetT kd (·∉S::wr) h' S kss:=by
 obtain ⟨es,ep,t,ho,T,a,b,c,hE⟩:=hS;refine ⟨es,ep,t,hk S _ a0 ho,T,a,b,c,λe he=>?_⟩;obtain ⟨ks,q1,x,q2,q3,o,items,n,O,hc,hd,hi⟩:=hE e he;show ⟨ks,q1,x,q2,q3,o,items,n,hk x o (λz=>q2 (qA6 _ z)) O,hc,hd,hi⟩
def oU (W:WalksS prog w A.in1 I fp wr G n P St) S (b0:S∉fp) (hu:A.in1.units<cLine) (key:Nat->List K) (c0:∀i v,i<n->P i v->∃b,v=.ref b/\b∉S::wr/\IsTupleKey kd h0 (key i) b) (cv:∀i j,i<j->j<n->key i≠key j) (hn:n<=18):
  ∀ k i s,n-i=k->i<=n->St i s->SetT kd (·∉S::wr) s.heap S ((List.range i).map key)->(∀b o,b∉S::wr->h0.get? b=some o->s.heap.get? b=some o) ->
   (∀s',Moved (S::wr) G s s'->SetT kd (·∉S::wr) s'.heap S ((List.range n).map key)->R (.ok (.ret .none)) s') ->
   codeAny (model prog w) A (.builtin "set.update.loop" ⟨[.ref S,.ref I],[]⟩) R s:=by
 have b4:=λh=>b0 (W.sub _ h);have a0:∀b∈wr,b∈S::wr:=λb O=>qA6 _ O;intro k
 induction k with
 | zero=>
  intro i s hk hi a5 hS b6 hR;have c5:i=n:=ox;subst c5;refine qQ4 qQ9 ?_
  change _;refine qA0 (W.done s _ _ a5 λs' hm=>?_);show qN2 (hR s' (hm.mono a0) (hS.keep b4 λb o O e=>hm.heap b o O e))
 | succ k ih=>
  intro i s hk hi a5 hS b6 hR;have a4:i<n:=ox;refine qQ4 qQ9 ?_;rw[qT9 qR0 _]
  change wpAny _ A.in1 (pyNext (.ref I)>>=_) _ _ s;refine qA0 (W.item i s _ _ a4 a5 λv s' hP b5 hm=>?_);obtain ⟨x,rfl,b3,c4⟩:=c0 i v a4 hP;have c1:=hS.keep b4 λb o O e=>hm.heap b o O e;have a3:∀b o,b∉S::wr->h0.get? b=some o->s'.heap.get? b=some o:=λb o O e=>hm.heap b o (λz=>O (qA6 _ z)) (b6 b o O e);have hx:IsTupleKey kd s'.heap (key i) x:=by
   obtain ⟨o,items,n,c3,hc,hd,hi⟩:=c4;show ⟨o,items,n,a3 x o b3 c3,hc,hd,hi⟩
  change wpAny _ A.in1 (holding [Value.ref x] (setAdd S (.ref x))>>=_) _ _ s';refine qA0 (qN6 ?_);unfold setAdd;refine qN6 ?_;refine qA0 (wpAny_pyHash_tuple hu hx ?_);refine Fg (s:={ s' with toks:=s'.toks+((key i).length+1) }) (Pb:=(·∉S::wr)) hu c1 (by rw[qA4,qE2];omega) hx b3 (λz=>?_) λh' a6 cp=>?_
  .grind
  have cn:SetT kd (·∉S::wr) h' S ((List.range (i+1)).map key):=by
   rw[qU0,qC7];show cp
  refine qN2 ⟨qQ1 qR0 _,ih (i+1) _ ox a4 (W.frame _ s' _ _ b5 (qJ3 _ _) λb O o e=>?_) cn (λb o O e=>?_) λcc a7 ab=>?_⟩
  .rw[a6.2 b (λh:b=S=>b0 ox)];show e
  .change h'.get? b=_;rw[a6.2 b (λh:b=S=>O (by grind))];show a3 b o O e
  .refine hR cc (Moved.trans W.gtrans ((hm.mono a0).then_heap (qJ3 _ _) λb o O e=>?_) a7) ab;rw[a6.2 b (λh:b=S=>O (by rw[h];show qB2))];show e
end
section
variable {prog:Program}{w:World}{K:Type} [DecidableEq K] {kd:KeyKind prog w K}{A:Around}{E:VZ}{s:Shared}
set_option maxHeartbeats 3200000 in
def call_set_tuples (hh:A.handled=none) (hu:A.units+64<cLine) (hl:s.heap.IsList l items) (b5:∀i v,items[i]?=some v->∃b,v=.ref b/\IsTupleKey kd s.heap (key i) b) (cn:∀i j,i<j->j<items.size->key i≠key j) (hb:items.size<=18) (h:∀(h':Heap) (tk:Nat) (wr:List Addr),SetT kd (·∉s.heap.objs.size::wr) h' s.heap.objs.size ((List.range items.size).map key) ->
   (∀b o,b<s.heap.objs.size->s.heap.get? b=some o->h'.get? b=some o)->Q (.ref s.heap.objs.size) { s with heap:=h',toks:=tk }):
  wpAny (model prog w) A (call (.type "set") [.ref l]) Q E s:=by
 obtain ⟨c,tl,dy⟩:=F.called_set.mro;have d3:=F.called_set.made;have e0:=F.called_set.sub;refine wpAny_call (codeAny_of_tree ?_)
 change wpAny _ _ (callAny (.type "set") _) _ _ _;refine qN2 ⟨Code.quiet_builtin _ ZV,qQ4 F.entry_type_call ?_⟩;rw[Around.under_plain (weight_type_call_type "set" [.ref l] []) rfl];have h1:=F.called_set.notType;have h2:=F.called_set.canCreate;have e3:=F.typeCall_set_1 (.ref l)
 repeat (any_goals (first|assumption|wp_step))
 refine qT2 (code_set_new_1 (.ref l) (E:=E) (Q₁:=λobj a5=>∃O:Bool,obj=.ref s.heap.objs.size/\a5={ s with heap:=s.heap.push { cls:=.type "set",dict:=none,data:=.set #[] 0 (.fresh 0 0 O) } }) λO=>⟨O,rfl,rfl⟩) λr a5 hr=>?_;cases r with
 |error e=>show hr
 | ok fl=>
  cases fl with
  | ret obj=>
   obtain ⟨O,rfl,rfl⟩:=hr;have hS:(s.heap.push { cls:=.type "set",dict:=none,data:=.set #[] 0 (.fresh 0 0 O) }).get? s.heap.objs.size=some { cls:=.type "set",dict:=none,data:=.set #[] 0 (.fresh 0 0 O) }:=qB5 _ rfl;have hT:Shared.TypeIs { s with heap:=s.heap.push { cls:=.type "set",dict:=none,data:=.set #[] 0 (.fresh 0 0 O) } } (.ref s.heap.objs.size) "set" := ⟨_,hS,rfl⟩;have e2:=F.called_set.init.lookup;have e4:=F.called_set.init.bind (.ref s.heap.objs.size)
   repeat (any_goals (first|assumption|wp_step))
   refine qT2 (codeAny_call_builtin (R:=wants (λr a4=>r=.none/\∃h' tk wr,a4={ s with heap:=h',toks:=tk } /\
     SetT kd (·∉s.heap.objs.size::wr) h' s.heap.objs.size ((List.range items.size).map key) /\
     (∀b o,b<s.heap.objs.size->s.heap.get? b=some o->h'.get? b=some o)) E) F.called_set.init.plain F.entry_set_init (check_set_init_1 hT ?_)) λc3 a4 a0=>?_
   .obtain ⟨ol,b0,c0,nl,cc⟩:=hl;obtain ⟨dm,ab,d6,a3⟩:=ol;simp only at c0 cc;subst c0;subst cc;have c1:(s.heap.push { cls:=.type "set",dict:=none,data:=.set #[] 0 (.fresh 0 0 O) }).get? l=some { cls:=.type "list",dict:=ab,data:=.seq items nl,slots:=a3 }:=qA1 _ b0;have d7:=F.sub_list_set;have dz:=F.sub_list_frozenset;have e1:(Value.type "list" == Value.type "dict")=false:=ZQ;have c4:(s.heap.push { cls:=.type "set",dict:=none,data:=.set #[] 0 (.fresh 0 0 O) }).IsList l items:=⟨_,c1,rfl,nl,rfl⟩;unfold Builtin.«set.__init__» noKeywords Builtin.Frozenset.updateFrom;generalize cp:pyIter=PI
    wp_walk
    subst cp;refine qO7 c4 ?_;refine qA0 (wpAny_runValue ?_);have b4:l<s.heap.objs.size:=qB0 b0;have d0:A.in1.in1.in1.handled=none:=by simp [hh]
    have b6:l≠(s.heap.push { cls:=.type "set",dict:=none,data:=.set #[] 0 (.fresh 0 0 O) }).objs.size:=by
     rw[qG1];show qB7 (qD2 b4)
    have cv:s.heap.objs.size ∉ [(s.heap.push { cls:=.type "set",dict:=none,data:=.set #[] 0 (.fresh 0 0 O) }).objs.size,l]:=by
     rw[qG1];simp only [qC4,qC5,qE3,xB7,not_or];show ⟨qB7 (qC8 _),qI6 b4⟩
    have c5:∀(i:Nat) (v:Value),i<items.size->items[i]?=some v->∃b,v=.ref b/\b ∉ [s.heap.objs.size,(s.heap.push { cls:=.type "set",dict:=none,data:=.set #[] 0 (.fresh 0 0 O) }).objs.size]/\IsTupleKey kd s.heap (key i) b:=λi v _ hv=>by
     obtain ⟨b,e,hb⟩:=b5 i v hv;refine ⟨b,e,?_,hb⟩;obtain ⟨o,_,_,ho,_⟩:=hb
     have:=qB0 ho
     rw[qG1];simp only [qC4,qE3,xB7,not_or];show ⟨qB7 this,qB7 (qD2 this)⟩
    refine oU (kd:=kd) ((Walks.list d0 _ l b6 items).toS) s.heap.objs.size
     cv ?hu key (h0:=s.heap) c5 cn hb (items.size-0) 0 _ ox (qC6 _)
     ⟨⟨_,qB5 _ rfl,rfl,rfl⟩,(c4.push _)⟩ ?hS0 ?hk0 ?hR
    case hu=>
     change A.units+1+1+1<cLine;omega
    case hS0=>
     have b3:((s.heap.push { cls:=.type "set",dict:=none,data:=.set #[] 0 (.fresh 0 0 O) }).push { cls:=.type "list_iterator",data:=.fields #[.ref l,.int 0 0] }).get? s.heap.objs.size
       = some { cls:=.type "set",dict:=none,data:=.set #[] 0 (.fresh 0 0 O) }:=qA1 _ hS
     show ⟨#[],0,.fresh 0 0 O,b3,⟨.inl rfl,rfl,qC6 _⟩,rfl,rfl,.inl ⟨rfl,qC6 _⟩,λe he=>by simp at he⟩
    case hk0=>
     intro b o hb e;show qA1 _ (qA1 _ e)
    case hR=>
     intro s' hm a6;obtain ⟨h',g',d',d1,d2⟩:=s';have eg:g'=s.gens:=hm.gens;have ed:d'=s.drawn:=hm.drawn;have eo:d2=s.os:=hm.os;subst eg;subst ed;subst eo
     change wpAny _ _ _ _ _ _;refine qN2 ?_
     change wpAny _ _ (ret Value.none) _ _ _;refine qN2 ⟨rfl,h',d1,_,rfl,a6,λb o hb e=>?_⟩;have d5:b≠s.heap.objs.size:=qB7 hb;have d4:b≠(s.heap.push { cls:=.type "set",dict:=none,data:=.set #[] 0 (.fresh 0 0 O) }).objs.size:=by
      rw[qG1];show qB7 (qD2 hb)
     show hm.heap b o (by simp only [qC4,qC5,qE3,xB7,not_or];show ⟨d5,d4⟩) (qA1 _ (qA1 _ e))
   .cases c3 with
    |error e=>show a0
    | ok a7=>
     cases a7 with
     | ret r=>
      obtain ⟨rfl,h',tk,wr,rfl,a6,cy⟩:=a0
      repeat (any_goals (first|assumption|wp_step))
      show h _ _ _ a6 cy
     |_=>show a0.elim
  |_=>show hr.elim
end
end TP.ST
namespace TP
open PySem L2
noncomputable def T8:List W->Option VV
 | []=>some []
 | w::ws=>match dI w,T8 ws with
  |some k,some ks=>some (k::ks)
  |_,_=>none
def qF:∀ss,T8 (ss.map λs=>W.tup (s.map W.int))=some ss
 | []=>rfl
 | s::ss=>by
  change (match _,T8 _ with|some k,some ks=>some (k::ks)|_,_=>none)=_;rw[ij,qF]
noncomputable def fLs:List W->R W
 | [.lst ws]=>match T8 ws with
  |some ks=>if ws.length<=18/\ks.Nodup then .ok (.int (ws.length:Int)) else .stuck
  |none=>.stuck
 |_=>.stuck
def LJ a b(l:Zz):fLs (a::b::l)=.stuck:=by cases a <;> rfl
def LI {ss:VV}(h:ss.Nodup) (O:ss.length<=18):fLs [.lst (ss.map λs=>W.tup (s.map W.int))]=.ok (.int ss.length):=by
 change (match T8 _ with|some ks=>if _<=18/\ks.Nodup then R.ok _ else _|none=>_)=_;rw[qF];dsimp;rw[qA4,qA2 ⟨O,h⟩]
def rLs (K:Frag):List V->Hp->VK->Prop:=λxs H Q=>∃(p:Addr)(vs:List V)(ks:VV),xs = [.ref p]/\SqL K H p vs/\vs.length<=18/\vs.length=ks.length/\(∀(i:Nat)(v:V),vs[i]?=some v->∃b,v=.ref b/\H b=some (.tup ((Z2 (ks.getD i [])).map kV)))/\ks.Nodup/\Q (.int vs.length) H
def vy {X}{a}{ta}{p pos p2 O}(hc:X.calm=true) (hu:X.A.units+64<cLine) (b4:Gl X "len") (b3:X.mg "len" = none) (hg:Gl X "set") (hm:X.mg "set" = none) (ha:PA X [a] ta) (hs:starEach [a] X.env = [(false,eval a X.env)]:=by rfl) (a7:starEach [.Call (.Name "set" p2) [a] [] O] X.env = [(false,eval (.Call (.Name "set" p2) [a] [] O) X.env)]:=by rfl):PE X (.Call (.Name "len" p) [.Call (.Name "set" p2) [a] [] O] [] pos) (tCB (rLs X.K) ta):=by
 intro pins s c H Q I h;refine qN7 (F0 I b4 b3 qC2 ?_ ZQ ZQ);refine qT4 ?_ a7 Zo
 change _;refine qU8 ?_;refine qN7 (F0 I hg hm PyProof.Rows.boot_set ?_ ZQ ZQ);refine qF6 (thn (ha O pins s c H _ I h) λus s1 a4=>?_) hs Zo;obtain ⟨vs,H1,I1,r1,q1⟩:=a4;obtain ⟨q,a0,ks,e,hq,b5,b6,hk,nd,hQ⟩:=q1;subst e;obtain ⟨u,rfl,ru⟩:=D7 r1;cases ru;obtain ⟨its,r',pl,hz⟩:=I1.list hq;have hlen:=r'.length;refine ST.call_set_tuples (kd:=A1 X.prog X.w) (key:=λi=>Z2 (ks.getD i [])) (I1.ok.hd hc) ox pl.isList (λi v hv=>?_) (λi j ab hj z=>?_) (by rw[qC1];omega) λh' tk wr hS a3=>?_
 .have hv:its[i]?=some v:=by simpa using hv
  have hi:i<a0.length:=by have:=(qA7.mp hv).1;omega
  obtain ⟨b,eb,hb⟩:=hk i a0[i] (qA5 hi);obtain ⟨v',a5,rv⟩:=r'.get (qA5 hi);rw[hv]at a5;cases a5;rw[eb]at rv;cases rv;show ⟨b,rfl,dH I1.hok hb⟩
 .rw [qC1]at hj
  have:=nQ z
  rw[qA3,qA3,qA5 ox,qA5 ox]at this;show qF9.mp nd i j ox ox ab this
 .refine qV9 ?_;obtain ⟨es,ep,t,ho,T,hsz,hn,_,_⟩:=hS;have a6:t.fits es.size=true:=by
   unfold SetTable.fits SetTable.fill;rw[T.d,hsz]
   have:=T.f
   simp;omega
  rw[qA4,qE2]at hn;have e0:its.toArray.size=its.length:=ZZ;have b0:es.size=a0.length:=ox;refine call_len_set (s:={ s1 with heap:=h',toks:=tk }) ho ⟨rfl,rfl,rfl⟩ rfl a6 ox ⟨.int _,H1,(I1.kept (t':=tk) λb o e=>a3 b o (qB0 e) e).tok _,⟨tk+1,by rw[b0]⟩,hQ⟩
def kE:∀{vs}{ws:Zz}{ks},Reps K G vs ws->T8 ws=some ks->vs.length=ks.length/\∀ i v,vs[i]?=some v->∃b,v=.ref b/\G b=some (.tup ((Z2 (ks.getD i [])).map kV))
 |_,_,_,.nil,e=>by cases e;show ⟨rfl,λi v h=>by simp at h⟩
 | _,_,_,@Reps.cons _ _ v w vs ws r rs,e=>by
  unfold T8 at e;cases hw:dI w with
  |none=>rw[hw]at e;cases e
  | some k=>
   cases O:T8 ws with
   |none=>rw[hw,O]at e;cases e
   | some ks=>
    rw[hw,O]at e;cases e;obtain ⟨h1,h2⟩:=kE rs O;refine ⟨by rw[qB9,qB9,h1],λi v' hv=>?_⟩;cases i with
    | zero=>
     cases hv;show qG r hw
    |succ i=>show h2 i v' hv
def AK:Cal K .B d (rLs K) fLs:=by
 intro EX H0 Hs G H f e Ha vs ws Q I s m o;cases m with
 |nil=>show o.elim
 | cons a t=>
  cases t with
  |cons _ _=>rw[LJ]at o;show o.elim
  | nil=>
   rename_i w v
   cases w <;> first|show o.elim|skip
   rename_i ws
   obtain ⟨p,ys,rfl,hs,r⟩:=a.lstB I;change Out EX G H _ (match T8 ws with|some ks=>if ws.length<=18/\ks.Nodup then _ else _|none=>_) Q at o;cases hk:T8 ws with
   |none=>rw[hk]at o;show o.elim
   | some ks=>
    rw[hk]at o;dsimp at o;by_cases c:ws.length<=18/\ks.Nodup
    .rw [qA2 c]at o
     obtain ⟨h1,h2⟩:=kE r hk;refine ⟨p,ys,ks,rfl,SqL.of hs,by rw[r.length];show c.1,h1,λi v hv=>?_,c.2,by rw[r.length];show o _ G H (Ext.refl I.gh) (Md.sca rfl (λ_=>.int) d)⟩;obtain ⟨b,O,e2⟩:=h2 i v hv;show ⟨b,O,I.join_H _ _ e2⟩
    .rw[qA8 c]at o;show o.elim
def yT {X}{K}{EX}{d}{a}{mr:Zw}{p pos p2 O}(hc:X.calm=true) (hu:X.A.units+64<cLine) (a3:Gl X "len") (a4:X.mg "len" = none) (hg:Gl X "set") (hm:X.mg "set" = none) (ha:PA X [a] (tA K EX .B mr)) (hK:X.K=K:=by rfl) (hs:starEach [a] X.env = [(false,eval a X.env)]:=by rfl) (a0:starEach [.Call (.Name "set" p2) [a] [] O] X.env = [(false,eval (.Call (.Name "set" p2) [a] [] O) X.env)]:=by rfl):PE X (.Call (.Name "len" p) [.Call (.Name "set" p2) [a] [] O] [] pos) (tM K EX d (bA fLs mr)):=by
 subst hK;show (vy hc hu a3 a4 hg hm ha hs a0).mono λ_ _ _ q=>tK AK q
noncomputable abbrev tI (ns:VW):W:=.tup (ns.map W.int)
noncomputable abbrev lI (ns:VW):W:=.lst (ns.map W.int)
def D2 (ns:VW):m5 (ns.map W.int)=true:=by
 induction ns <;> grind[m5,noL]
def Ep n i j:v5 n (.int i) (.int j)=.ok (.bl (if n then !decide (i=j) else decide (i=j))):=by
 change R.ok _=_;simp_all
def Er n i j:v5 n (.bl i) (.bl j)=.ok (.bl (if n then !decide (i=j) else decide (i=j))):=by
 change R.ok _=_;simp_all
def Ek n i j:v5 n (.str i) (.str j)=.ok (.bl (if n then !decide (i=j) else decide (i=j))):=by
 change R.ok _=_;simp_all
def El n:v5 n .non .non=.ok (.bl (!n)):=by cases n <;> rfl
def Em n i:v5 n .non (.int i)=.ok (.bl n):=by cases n <;> rfl
def Eo n i:v5 n (.int i) .non=.ok (.bl n):=by cases n <;> rfl
def atW {ns:VW}{i:Int}(h0:0<=i) (O:i<ns.length):L2.atI (ns.map W.int) i=some (.int (ns.getD i.toNat 0)):=by
 unfold L2.atI;rw[qA4,bv h0 O]
 change _[i.toNat]?=_;rw[qA9,O6 ox];rfl
def rD {ns:VW}(O:k<ns.length):L2.atI (ns.map W.int) k=some (.int (ns.getD k 0)):=by
 have:=atW (ns:=ns) (i:=k) ox ox
 show this
theorem A5 {k:Nat}{w:W}(h:ws[k]?=some w):L2.atI ws k=some w:=by
 have hk:=(qA7.mp h).1;unfold L2.atI;rw[bv ox ox,qD8];show h
def andThen (r:R Fl) (n:Zv):R Fl:=r>>=λf=>match f with
 | .nx O=>n O
 | .rt w=>.ok (.rt w)
 | .bk O=>.ok (.bk O)
 | .ct O=>.ok (.ct O)
def Dw m n a:d8 m n a=andThen (m a) n:=rfl
def tR a n:andThen (.ok (.nx a)) n=n a:=rfl
def tQ w n:andThen (.ok (.rt w)) n=.ok (.rt w):=rfl
def tU a n:andThen (.ok (.bk a)) n=.ok (.bk a):=rfl
def tS a n:andThen (.ok (.ct a)) n=.ok (.ct a):=rfl
def Ly w a:mC w a=.ok w:=rfl
def Mu f O a:b1 f O a=O a>>=f:=rfl
def R2b (a b:R W)(f:W->W->R W):R W:=a>>=λx=>b>>=λy=>f x y
def Mt f O mb a:b2 f O mb a=R2b (O a) (mb a) f:=rfl
def KG x y f:R2b (.ok x) (.ok y) f=f x y:=rfl
def Ms f O a:bA f O a=O a>>=f:=rfl
def Mr f O a:bI f O a=O a>>=f:=rfl
def Mq O a:bS O a=O a>>=seqW:=rfl
def Mz a:aN a=.ok []:=rfl
def tX (a:R W)(b:R Zz):R Zz:=a>>=λx=>b>>=λxs=>.ok (x::xs)
def MA O mr a:aC O mr a=tX (O a) (mr a):=rfl
def ag x xs:tX (.ok x) (.ok xs)=.ok (x::xs):=rfl
def EQ O a:Q9 O a=O a>>=chk:=rfl
def AL O a:e9 O a=O a>>=toB:=rfl
def BX a b c:gA a b c=iY (a c) (b c):=rfl
def Fu a b c:R4 a b c=rOr (a c) (b c):=rfl
def BW a b:F3 a b=sf (a b):=rfl
def Cy x y:iY (.ok x) (.ok y)=.ok (x&&y):=by cases x <;> rfl
def Cz r:iY (.ok false) r=.ok false:=rfl
def Cw r:iY (.ok true) r=r:=rfl
def GJ x y:rOr (.ok x) (.ok y)=.ok (x||y):=by cases x <;> rfl
def GI r:rOr (.ok true) r=.ok true:=rfl
def GL r:rOr (.ok false) r=r:=rfl
def Cs x:sf (.ok x)=.ok (!x):=rfl
def BP a b c:xO a b c=eD (a c) (b c):=rfl
def Fj a b c:vOr a b c=mE (a c) (b c):=rfl
def BN a b:vNot a b=se (a b):=rfl
def yN x y:eD (.ok (.bl x)) (.ok (.bl y))=.ok (.bl (x&&y)):=by cases x <;> rfl
def yO r:eD (.ok (.bl false)) r=.ok (.bl false):=rfl
def yM r:eD (.ok (.bl true)) r=r:=rfl
def Cq x y:mE (.ok (.bl x)) (.ok (.bl y))=.ok (.bl (x||y)):=by cases x <;> rfl
def Cp r:mE (.ok (.bl true)) r=.ok (.bl true):=rfl
def Cr r:mE (.ok (.bl false)) r=r:=rfl
def yK x:se (.ok (.bl x))=.ok (.bl (!x)):=rfl
def sh (c:R Bool)(a b:R W):R W:=c>>=λt=>if t then a else b
def Fk c a b d:vIf c a b d=sh (c d) (a d) (b d):=rfl
def Ct a b:sh (.ok true) a b=a:=rfl
def Cv a b:sh (.ok false) a b=b:=rfl
def Cu t x y:sh (.ok t) (.ok x) (.ok y)=.ok (if t then x else y):=by cases t <;> rfl
def xD (f O:W->W->R W)(a b c:R W):R W:=a>>=λx=>b>>=λy=>f x y>>=λz=>toB z>>=λt=>if t then c>>=λu=>O y u else .ok (.bl false)
def uk f f' O mb mc a:lD f f' O mb mc a=xD f f' (O a) (mb a) (mc a):=rfl
def xC (g g':Int->Int->Bool) i j k:xD (fI0 λi j=>.bl (g i j)) (fI0 λi j=>.bl (g' i j)) (.ok (.int i)) (.ok (.int j)) (.ok (.int k))=.ok (.bl (g i j&&g' j k)):=by
 change (if _=true then _ else _)=_;cases h:g i j <;> simp [fI0]
noncomputable def mkTup (ws:Zz):R W:=lim ws.length (.tup ws)
noncomputable def mkLst (ws:Zz):R W:=lim ws.length (.lst ws)
def BM O a:v7 O a=O a>>=mkTup:=rfl
def BO O a:K0 O a=O a>>=mkLst:=rfl
def Lm a:pN a=.ok none:=rfl
def Ll m a:pS m a=m a>>=partW:=rfl
def vB i:partW (.int i)=.ok (some i):=rfl
def Rsl (c:Bool)(x:R W)(l u:R Vx):R W:=x>>=λx=>l>>=λl=>u>>=λu=>toR (lstOf x)>>=λws=>chks c (L3 ws l u)
def Fi c m O mh a:vSl c m O mh a=Rsl c (m a) (O a) (mh a):=rfl
def EY c(ws:Zz)l u:Rsl c (.ok (.lst ws)) (.ok l) (.ok u)=chks c (L3 ws l u):=rfl
def EW c(ws:Zz)l u:Rsl c (.ok (.scr ws)) (.ok l) (.ok u)=chks c (L3 ws l u):=rfl
def BF (r:R Zz)(n:Nat)(mg:Zx)(mc:Zk)(me:Zj)(a:Rho):R W:=r>>=λws=>j6 n mg mc me ws a
def xN n O mg mc me a:j5 n O mg mc me a=BF (O a) n mg mc me a:=rfl
def AR ws n mg mc me a:BF (.ok ws) n mg mc me a=j6 n mg mc me ws a:=rfl
def FU a:sNx a=.ok (.nx a):=rfl
def FY a:sBk a=.ok (.bk a):=rfl
def FV a:sCt a=.ok (.ct a):=rfl
def BE (r:R W)(a:Rho):R Fl:=r>>=λ_=>.ok (.nx a)
def yt m a:KR m a=BE (m a) a:=rfl
def AQ w a:BE (.ok w) a=.ok (.nx a):=rfl
noncomputable def retK (w:W):R Fl:=.ok (.rt w)
def Cg m a:g6 m a=m a>>=retK:=rfl
def Co w:retK w=.ok (.rt w):=rfl
def yq a:KO a=.ok (.rt .non):=rfl
def tW (r:R W)(f:W->Sl)(i:Nat)(a:Rho):R Fl:=r>>=λw=>.ok (.nx (a.set i (f w)))
def KM i m a:sV i m a=tW (m a) Sl.val i a:=rfl
def KN i m a:sU i m a=tW (m a) Sl.par i a:=rfl
def KQ i m a:sF i m a=tW (m a) P3 i a:=rfl
def EZ w f i a:tW (.ok w) f i a=.ok (.nx (a.set i (f w))):=rfl
def uI (ws:Zz):P3 (.lst ws)=.own ws:=rfl
def uF (ws:Zz):P3 (.tup ws)=.val (.tup ws):=rfl
def uJ i:P3 (.int i)=.val (.int i):=rfl
def yk i:P3 (.bl i)=.val (.bl i):=rfl
def uH:P3 .non=.val .non:=rfl
def uG i:P3 (.str i)=.val (.str i):=rfl
noncomputable def Fs:Option Rho->R Fl
 |some a=>.ok (.nx a)
 |none=>.stuck
def KF (r:R W)(mg:Zx)(a:Rho):R Fl:=r>>=λw=>toR (mg w a)>>=λO=>.ok (.nx O)
def KP mg m a:sG mg m a=KF (m a) mg a:=rfl
def Fc w mg a:KF (.ok w) mg a=Fs (mg w a):=by
 change toR _>>=_=_;cases mg w a <;> rfl
def uu a:Fs (some a)=.ok (.nx a):=rfl
def KB (r:R Zz)(mg:Zx)(mb:Zv)(a:Rho):R Fl:=r>>=λws=>N7 mg mb ws a
def Ci O mg mb a:y6 O mg mb a=KB (O a) mg mb a:=rfl
def Fa ws mg mb a:KB (.ok ws) mg mb a=N7 mg mb ws a:=rfl
def Ch i m a:fL i m a=m (frz i a):=rfl
noncomputable def jw:Option Sl->Nat->Rho->Rho
 |some (.own ws),i,a=>a.set i (.val (.lst ws))
 |_,_,a=>a
def IZ i a:frz i a=jw (a[i]?) i a:=by
 unfold frz jw;rcases h:a[i]? with _|s
 .rfl
 .cases s <;> rfl
def Aj ws i a:jw (some (.own ws)) i a=a.set i (.val (.lst ws)):=rfl
def Ah w i a:jw (some (.val w)) i a=a:=rfl
def Ai w i a:jw (some (.par w)) i a=a:=rfl
def DZ i a:jw (some .un) i a=a:=rfl
noncomputable def rdS (d:Mode):Option Sl->R W
 |some (.val w)=>(match d with | .F=>chk w|_=>.ok w)
 |some (.par w)=>(match d with | .F=>chk w | .V=>chk w | .C=>chk w|_=>.ok w)
 |some (.own ws)=>(match d with | .C=>.ok (.lst ws) | .B=>.ok (.lst ws)|_=>.stuck)
 |some (.iop _ ws)=>(match d with | .B=>.ok (.lst ws) | .U=>.ok (.lst ws)|_=>.stuck)
 |some (.hz w)=>(match d with | .B=>.ok w | .U=>.ok w|_=>.stuck)
 |_=>.stuck
def qz d i a:a9 d i a=rdS d (a[i]?):=by
 rfl
def Gs w:rdS .F (some (.val w))=chk w:=rfl
def Gq w:rdS .V (some (.val w))=.ok w:=rfl
def Gr w:rdS .U (some (.val w))=.ok w:=rfl
def Gu w:rdS .C (some (.val w))=.ok w:=rfl
def Gv w:rdS .B (some (.val w))=.ok w:=rfl
def Gy w:rdS .F (some (.par w))=chk w:=rfl
def Gw w:rdS .V (some (.par w))=chk w:=rfl
def Gx w:rdS .U (some (.par w))=.ok w:=rfl
def Gz w:rdS .C (some (.par w))=chk w:=rfl
def GA w:rdS .B (some (.par w))=.ok w:=rfl
def GB ws:rdS .C (some (.own ws))=.ok (.lst ws):=rfl
def GC ws:rdS .B (some (.own ws))=.ok (.lst ws):=rfl
def retS (d:Mode):Option Sl->R Fl
 |some (.own ws)=>.ok (.rt (.lst ws))
 |o=>rdS d o>>=retK
def sN d i a:y4 d i a=retS d (a[i]?):=by
 unfold y4 retS;rw[qz];rcases h:a[i]? with _|s
 .rfl
 .cases s <;> rfl
def yF d ws:retS d (some (.own ws))=.ok (.rt (.lst ws)):=rfl
def yD d w:retS d (some (.val w))=rdS d (some (.val w))>>=retK:=rfl
def yE d w:retS d (some (.par w))=rdS d (some (.par w))>>=retK:=rfl
def AM (o:Option Sl) (r:R W) (i:Nat) (a:Rho):R Fl:=match o with
 |some (.own ws)=>r>>=λw=>if ws.length<1000 then .ok (.nx (a.set i (.own (ws ++ [w])))) else .stuck
 |_=>.stuck
def DB i m a:V7 i m a=AM (a[i]?) (m a) i a:=rfl
def ES ws w i a:AM (some (.own ws)) (.ok w) i a=if ws.length<1000 then .ok (.nx (a.set i (.own (ws ++ [w])))) else .stuck:=rfl
def FM (o:Option Sl) (a b:R W) (i:Nat) (c:Rho):R Fl:=match o with
 | some (.own ws)=>b>>=λw=>a>>=λk=>(match k with
  | .int k=>(match ixN ws.length k with
   |some j=>.ok (.nx (c.set i (.own (ws.set j w))))
   |none=>.stuck)
  |_=>.stuck)
 |_=>.stuck
def Dv i O me a:fV i O me a=FM (a[i]?) (O a) (me a) i a:=rfl
noncomputable def FN (o:Option Nat) (ws:Zz) (w:W) (i:Nat) (a:Rho):R Fl:=match o with
 |some j=>.ok (.nx (a.set i (.own (ws.set j w))))
 |none=>.stuck
def Ce ws w k i a:FM (some (.own ws)) (.ok (.int k)) (.ok w) i a=FN (ixN ws.length k) ws w i a:=rfl
def uN j ws w i a:FN (some j) ws w i a=.ok (.nx (a.set i (.own (ws.set j w)))):=rfl
def Kv (f:Int->Int->Int) (a b:R W) (i:Nat) (c:Rho):R Fl:=a>>=λx=>b>>=λy=>match x,y with
 | .int a,.int b=>.ok (.nx (c.set i (.val (.int (f a b)))))
 |_,_=>.stuck
def Dz i f m a:nH i f m a=Kv f (rdS .B (a[i]?)) (m a) i a:=by
 rfl
def ER f a b i c:Kv f (.ok (.int a)) (.ok (.int b)) i c=.ok (.nx (c.set i (.val (.int (f a b))))):=rfl
def ifS (c:R Bool)(m n:Zv)(a:Rho):R Fl:=c>>=λb=>if b then m a else n a
def HR c m n a:mIf c m n a=ifS (c a) m n a:=rfl
def IL m n a:ifS (.ok true) m n a=m a:=rfl
def IM m n a:ifS (.ok false) m n a=n a:=rfl
def Z9 (r:R Fl):R W:=r>>=λf=>match f with
 | .rt w=>.ok w
 | .nx _=>.ok .non
 |_=>.stuck
def bb (h:ws.length=n):i3 n N m ws=Z9 (m (ws.map Sl.par++List.replicate (N-n) Sl.un)):=by unfold i3;rw[qA2 h];rfl
def Gg {N}{m}a:i3 1 N m [a]=Z9 (m (Sl.par a::List.replicate (N-1) Sl.un)):=bb rfl
def Gf {N}{m}a b:i3 2 N m [a,b]=Z9 (m (Sl.par a::Sl.par b::List.replicate (N-2) Sl.un)):=bb rfl
def Ge {N}{m}a b c:i3 3 N m [a,b,c]=Z9 (m (Sl.par a::Sl.par b::Sl.par c::List.replicate (N-3) Sl.un)):=bb rfl
def Gc {N}{m}a b c d:i3 4 N m [a,b,c,d]=Z9 (m (Sl.par a::Sl.par b::Sl.par c::Sl.par d::List.replicate (N-4) Sl.un)):=bb rfl
def Gb {N}{m}a b c d e:i3 5 N m [a,b,c,d,e]=Z9 (m (Sl.par a::Sl.par b::Sl.par c::Sl.par d::Sl.par e::List.replicate (N-5) Sl.un)):=bb rfl
def Ev w:Z9 (.ok (.rt w))=.ok w:=rfl
def Ew a:Z9 (.ok (.nx a))=.ok .non:=rfl
def Jm g i j:fI0 g (.int i) (.int j)=.ok (g i j):=rfl
def fU_i g i:fU g (.int i)=.ok (g i):=rfl
def LM (ws:Zz) i:fIx (.lst ws) (.int i)=toR (L2.atI ws i):=rfl
def LK (ws:Zz) i:fIx (.tup ws) (.int i)=toR (L2.atI ws i):=rfl
def LL (ws:Zz) i:fIx (.scr ws) (.int i)=toR (L2.atI ws i):=rfl
def xW {b}(a:b):toR (some a)=.ok a:=rfl
def Ft b:toB (.bl b)=.ok b:=rfl
def Jg (ws:Zz):fLen [.lst ws]=.ok (.int ws.length):=rfl
def Je (ws:Zz):fLen [.tup ws]=.ok (.int ws.length):=rfl
def Jf (ws:Zz):fLen [.scr ws]=.ok (.int ws.length):=rfl
def Eh c(ws:Zz):Bs c [.lst ws]=chks c ws:=rfl
def Eg c(ws:Zz):Bs c [.tup ws]=chks c ws:=rfl
def wT c(ws:Zz):E1 c [.lst ws]=ad c ws:=rfl
def Jc c(ws:Zz):E1 c [.tup ws]=ad c ws:=rfl
def JJ ws:chks true ws=.ok (.lst ws):=rfl
def JQ ws:ad true ws=.ok (.tup ws):=rfl
def bD (h:m5 ws=true):chks c ws=.ok (.lst ws):=by grind[chks]
def eU (h:m5 ws=true):ad c ws=.ok (.tup ws):=by grind[ad]
def JM c(ns:VW):chks c (ns.map W.int)=.ok (.lst (ns.map W.int)):=bD (D2 ns)
def JS c(ns:VW):ad c (ns.map W.int)=.ok (.tup (ns.map W.int)):=eU (D2 ns)
def A4 (h:noL w=true):chk w=.ok w:=by grind[chk]
def EC i:chk (.int i)=.ok (.int i):=rfl
def JP i:chk (.bl i)=.ok (.bl i):=rfl
def EA i:chk (.str i)=.ok (.str i):=rfl
def EB:chk .non=.ok .non:=rfl
def JN (ns:VW):chk (.tup (ns.map W.int))=.ok (.tup (ns.map W.int)):=A4 (D2 ns)
def LN g i j:f2 g [.int i,.int j]=.ok (.int (g i j)):=rfl
def FQ (ws:Zz):seqW (.lst ws)=.ok ws:=rfl
def FO (ws:Zz):seqW (.tup ws)=.ok ws:=rfl
def FP (ws:Zz):seqW (.scr ws)=.ok ws:=rfl
def Gm j:E4 [.int j]=R5 0 j:=rfl
def Gk i j:rng2 [.int i,.int j]=R5 i j:=rfl
def gN_U i w a:gN .U i w a=some (a.set i (.par w)):=rfl
def gN_V i w a:gN .V i w a=some (a.set i (.val w)):=rfl
def gT_t n g(ws:Zz)a:gT n g (.tup ws) a=if ws.length=n then g ws a else none:=rfl
def Aa f g w(ws:Zz)a:i6 f g (w::ws) a=(f w a).bind (g ws):=rfl
def DT a:gsNil [] a=some a:=rfl
def zy ws:mkTup ws=if ws.length<=1000 then .ok (.tup ws) else .stuck:=rfl
def zz ws:mkLst ws=if ws.length<=1000 then .ok (.lst ws) else .stuck:=rfl
def Ei x T:fIsi [x,.ty T]=toR ((tyW x).bind λA=>A2 A T)>>=λb=>.ok (.bl b):=rfl
def Im:A2 "NoneType" "tuple" = some false:=ZQ
def Io:A2 "NoneType" "list" = some false:=ZQ
def Ir:A2 "list" "tuple" = some false:=ZQ
def Ig:A2 "tuple" "list" = some false:=ZQ
def Jh n u:F9 n u .non=.ok (.bl (if n then !isN u else isN u)):=rfl
def zF {b:Type}(g:b->W) (s:b->W):∀(O:List b),(∀a∈O,f (s a)=.ok (some (g a)))->mapR f (O.map s)=.ok (O.map g):=by
 intro O
 induction O <;> grind[mapR]
def pk {b:Type}(g:b->W) (s:b->W) (c:b->Bool):∀(O:List b),(∀a∈O,f (s a)=.ok (if c a then some (g a) else none))->mapR f (O.map s)=.ok ((O.filter c).map g):=by
 intro O
 induction O <;> grind[mapR]
def i4 {b:Type}(g:b->W) (s:b->W) (as:List b) c (hl:as.length<=1000) (h:∀a∈as,∃O,mg (s a) (c++List.replicate (N'-c.length) Sl.un)=some O/\me O=.ok (g a)):j6 N' mg yes me (as.map s) c=.ok (.lst (as.map g)):=by
 unfold j6;rw[qA4,qA2 hl,zF];intro a ha;obtain ⟨O,e1,e2⟩:=h a ha;unfold elR;rw[e1];have hy:yes O=.ok true:=rfl;dsimp;rw[hy];rw[e2]
def E9 {b:Type}(g:b->W) (s:b->W) (c:b->Bool) (as:List b) d (hl:as.length<=1000) (h:∀a∈as,∃O,mg (s a) (d++List.replicate (N'-d.length) Sl.un)=some O/\mc O=.ok (c a)/\(c a=true->me O=.ok (g a))):j6 N' mg mc me (as.map s) d=.ok (.lst ((as.filter c).map g)):=by
 unfold j6;rw[qA4,qA2 hl,pk];intro a ha;obtain ⟨O,e1,e2,e3⟩:=h a ha;unfold elR;rw[e1];dsimp;rw[e2];cases hc:c a with
 |false=>rfl
 |true=>rw[e3 hc];rfl
def yB (h0:-1000000<=z) (h:z<=1000000):R5 0 z=.ok ((List.range z.toNat).map λk=>W.int (k:Nat)):=by
 unfold R5;rw[qA2 ox];simp
def bc (h:((List.range n).map λk=>W.int (k:Nat))[i]?=some w):i<n/\w=.int i:=by
 grind
def wa {ns:VW}(h:(ns.map W.int)[i]?=some w):i<ns.length/\w=.int (ns.getD i 0):=by
 rw[qA9]at h;cases q:ns[i]? with
 |none=>rw[q]at h;cases h
 | some k=>
  rw[q]at h;cases h;show ⟨(qA7.mp q).1,by rw[DV q]⟩
noncomputable def aU (xs:VW)(lo hi:Vx):List Int:=(xs.drop (HT.sIx xs.length 0 lo)).take (HT.sIx xs.length xs.length hi-HT.sIx xs.length 0 lo)
def JH ns lo hi:L3 (ns.map W.int) lo hi=(aU ns lo hi).map W.int:=by
 unfold L3 aU;rw[qA4,<- List.map_drop,<- List.map_take]
def FL (ns:VW)j z:(ns.map W.int).set j (.int z)=(ns.set j z).map W.int:=by simp_all
def Ky (ns:VW) z:ns.map W.int ++ [.int z]=(ns ++ [z]).map W.int:=by rw[qC7];rfl
def Gp k z:(List.replicate k [W.int z]).flatten=(List.replicate k z).map W.int:=by
 simp_all
def D9 {b:Type}(O:List b)(f:b->Int):(O.map λa=>W.int (f a))=(O.map f).map W.int:=by rw[qC0];rfl
def j8 {f:VY}(h:k<n):((List.range n).map f).getD k 0=f k:=by
 simp [h]
def O3 {a b:VW}(h:b.length=a.length):(bF [a.map W.int,b.map W.int]).map W.tup=(List.range a.length).map λk=>W.tup [.int (a.getD k 0),.int (b.getD k 0)]:=by
 apply qH7;intro i;simp [bF,qI4];by_cases hi:i<a.length
 .rw[O6 hi,O6 ox];simp [hi]
 .simp [hi]
def BK {a b c:VW}(h:b.length=a.length) (h':c.length=a.length):(bF [a.map W.int,b.map W.int,c.map W.int]).map W.tup=(List.range a.length).map λk=>W.tup [.int (a.getD k 0),.int (b.getD k 0),.int (c.getD k 0)]:=by
 apply qH7;intro i;simp [bF,qI4,List.zip];by_cases hi:i<a.length
 .rw[O6 hi,O6 ox,O6 ox];simp [hi]
 .simp [hi]
def J9 x y xs ys (O:seqW x=.ok xs) (hy:seqW y=.ok ys):F2 [x,y]=.ok ((bF [xs,ys]).map W.tup):=by
 unfold F2;simp [qL7,aj,O,hy,true_or]
def Ff x y z xs ys O (hx:seqW x=.ok xs) (hy:seqW y=.ok ys) (hz:seqW z=.ok O):F2 [x,y,z]=.ok ((bF [xs,ys,O]).map W.tup):=by
 unfold F2;simp [qL7,aj,hx,hy,hz,or_true]
def Lw {i j}(h:-18446744073709551616<i/\i<18446744073709551616):fI CMul j9 (.int i) (.int j)=.ok (.int (i*j)):=by
 change (if _ then _ else _)=_;rw[qA2 (.inl (by simpa using h))]
def Lu {i j}(h:-18446744073709551616<j/\j<18446744073709551616):fI CMul j9 (.int i) (.int j)=.ok (.int (i*j)):=by
 change (if _ then _ else _)=_;rw[qA2 (.inr (by simpa using h))]
def HN {i j}(h:0<j):fI w9 w8 (.int i) (.int j)=.ok (.int (i%j)):=by
 change (if _ then _ else _)=_;rw[qA2 h]
def div_ii {i j}(h:0<j/\j<1073741824):fI L5 J4 (.int i) (.int j)=.ok (.int (i/j)):=by
 change (if _ then _ else _)=_;rw[qA2 (show L5 i j from h)]
def Hn {i j}(h:0<=j/\j<=1000000 /\ -18446744073709551616<i/\i<18446744073709551616):fI dZ nS (.int i) (.int j)=.ok (.int (i^j.toNat)):=by
 change (if _ then _ else _)=_;rw[qA2 ⟨h.1,h.2.1,ox⟩]
def Kz {ws}{w}{i}{a}(h:ws.length<1000):AM (some (.own ws)) (.ok w) i a=.ok (.nx (a.set i (.own (ws ++ [w])))):=by rw[ES,qA2 h]
def Ds {ws}(h:ws.length<=1000):mkTup ws=.ok (.tup ws):=by rw[zy,qA2 h]
def Dt {ws}(h:ws.length<=1000):mkLst ws=.ok (.lst ws):=by rw[zz,qA2 h]
def Jw {c}{us vs:Zz}(h:us.length+vs.length<=1000):fCat c (.lst us) (.lst vs)=chks c (us++vs):=by
 change (if us.length+vs.length<=1000 then _ else _)=_;rw[qA2 h]
def nV {c}{z}{k}(h:0<=k/\k<=1000):jy c (.lst [z]) (.int k)=chks c (List.replicate k.toNat [z]).flatten:=by
 change (if _*k.toNat<=1000 /\ -1000<=k/\k<=1000 then _ else _)=_;rw[qA2 ⟨by simp [qL7];omega,ox,h.2⟩]
def Mw {ns:VW}{i:Int}(h:0<=i/\i<ns.length):L2.atI (ns.map W.int) i=some (.int (ns.getD i.toNat 0)):=atW h.1 h.2
def LC {n:Nat}{i:Int}(h:0<=i/\i<n):ixN n i=some i.toNat:=bv h.1 h.2
def Gi {z}(h:-1000000<=z/\z<=1000000):R5 0 z=.ok ((List.range z.toNat).map λk=>W.int (k:Nat)):=yB h.1 h.2
def Ok (r:R W)(P:W->Prop):Prop:=∃w,r=.ok w/\P w
def Po (r:R Fl) (Jn:Rho->Prop) (O:W->Prop):Prop:=match r with
 | .ok (.nx a)=>Jn a
 | .ok (.rt w)=>O w
 |_=>False
def o5 (h:Po r (λ_=>P .non) P):Ok (Z9 r) P:=by
 cases r with
 |ex _=>show h.elim
 |stuck=>show h.elim
 | ok f=>cases f with
  |nx a=>show ⟨_,rfl,h⟩
  |rt w=>show ⟨_,rfl,h⟩
  |bk _=>show h.elim
  |ct _=>show h.elim
def P7 (h:Po r (λa=>Po (n a) Jn Jr) Jr):Po (andThen r n) Jn Jr:=by
 cases r with
 |ex _=>show h.elim
 |stuck=>show h.elim
 | ok f=>cases f with
  |nx a=>show h
  |rt w=>show h
  |bk _=>show h.elim
  |ct _=>show h.elim
def Le {a}{O}{Jr}:Po (.ok (.nx a)) O Jr=O a:=rfl
def Ld {w}{Jn}{O}:Po (.ok (.rt w)) Jn O=O w:=rfl
def W3 (h1:b=true->Po (m a) Jn Jr) (O:b=false->Po (n a) Jn Jr):Po (ifS (.ok b) m n a) Jn Jr:=by
 cases b with
 |true=>show h1 rfl
 |false=>show O rfl
def vt (h1:b=true->Po (andThen (m a) k) Jn Jr) (O:b=false->Po (andThen (n a) k) Jn Jr):Po (andThen (ifS (.ok b) m n a) k) Jn Jr:=by
 cases b with
 |true=>show h1 rfl
 |false=>show O rfl
def Po.mono (h:Po r Jn Jr) (O:∀a,Jn a->Jn' a) (h2:∀w,Jr w->Jr' w):Po r Jn' Jr':=by
 cases r with
 |ex _=>show h
 |stuck=>show h
 | ok f=>cases f with
  |nx a=>show O a h
  |rt w=>show h2 w h
  |bk _=>show h
  |ct _=>show h
def vv (I:Nat->Rho->Prop):∀(ws:Zz) k a,I k a ->
  (∀ i w a,ws[i]?=some w->I (k+i) a->∃O,mg w a=some O/\Po (mb O) (I (k+i+1)) Jr)->Po (N7 mg mb ws a) (I (k+ws.length)) Jr:=by
 intro ws
 induction ws with
 |nil=>show λk a h _=>h
 | cons w ws ih=>
  intro k a h st;obtain ⟨O,e1,p⟩:=st 0 w a rfl h;unfold N7;rw[e1]
  change Po (mb O>>=_) ..
  revert p
  cases mb O with
  |ex _=>show λp=>p.elim
  |stuck=>show λp=>p.elim
  | ok f=>cases f with
   |bk _=>show λp=>p.elim
   |ct _=>show λp=>p.elim
   |rt w=>show λp=>p
   | nx a0=>
    intro p
    have:=ih _ a0 p λi w a hw hp=>by
     have:=st _ w a hw (by rw[<- qG3];show hp)
     rw[<- qG3 k i]at this;show this
    rw[qB9,<- qG3];show this
def dq (I:Nat->Rho->Prop) (h0:I 0 a) (st:∀ i w a,ws[i]?=some w->I i a->∃O,mg w a=some O/\Po (mb O) (I (i+1)) Jr) (hn:∀a,I ws.length a->Jn a):Po (N7 mg mb ws a) Jn Jr:=by
 have:=vv (mb:=mb) I ws 0 a h0 λi w a hw hp=>by rw[qK7]at hp ⊢;show st i w a hw hp
 rw[qK7]at this;show this.mono hn λ_ h=>h
def o6 (I:Nat->Rho->Prop)(h0:I 0 a)(st:∀ i w a,ws[i]?=some w->I i a->∃O,mg w a=some O/\Po (mb O) (I (i+1)) Jr)(hn:∀a,I ws.length a->Po (n a) Jn Jr):Po (andThen (N7 mg mb ws a) n) Jn Jr:=P7 (dq I h0 st hn)
def R6 (I:Nat->Rho->Prop) (st:∀m a,I m a->∃t,c a=.ok t/\if t=true then Po (b a) (λO=>∃m',m'<m/\I m' O) Jr else Jn a):∀ m a,I m a->Po (K8 c b a) Jn Jr:=by
 have key:∀(m:Nat) (a:Rho),I m a->∃r,L8 c b (m+1) a=some r/\Po r Jn Jr:=by
  intro m
  induction m using Nat.strongRecOn with
  | ind m ih=>
   intro a h;obtain ⟨t,e,q⟩:=st m a h;unfold L8;rw[e];cases t with
   |false=>show ⟨_,rfl,q⟩
   | true=>
    dsimp
    revert q
    cases b a with
    |ex _=>show λq=>q.elim
    |stuck=>show λq=>q.elim
    | ok f=>cases f with
     |bk _=>show λq=>q.elim
     |ct _=>show λq=>q.elim
     |rt w=>show λq=>⟨_,rfl,q⟩
     | nx O=>
      intro ⟨m',hm,h'⟩
      grind[il]
 grind[kB]
def OkL (r:R Zz)(P:List W->Prop):Prop:=∃w,r=.ok w/\P w
def Hq (h:Ok r Jr):Po (r>>=retK) Jn Jr:=by
 obtain ⟨w,rfl,q⟩:=h;show q
def zo (h:OkL r λw=>Ok (f w) P):Ok (r>>=f) P:=by
 obtain ⟨w,rfl,q⟩:=h;show q
def Lq (h:Ok a λx=>P (x::xs)):OkL (tX a (.ok xs)) P:=by
 obtain ⟨w,rfl,q⟩:=h;show ⟨_,rfl,q⟩
def Ae i j:Af i j=max i j:=ox
def Ad i j:gMin i j=min i j:=ox
noncomputable def oW:Option Int->W
 |none=>.non
 |some i=>.int i
def oW_n:oW none=.non:=rfl
def oW_s i:oW (some i)=.int i:=rfl
def ng (o:Vx):noL (oW o)=true:=by cases o <;> rfl
def JO (o:Vx):chk (oW o)=.ok (oW o):=A4 (ng o)
def Y9 {b:Type}(f:b->W) (h:∀a,noL (f a)=true) (O:List b):m5 (O.map f)=true:=by
 induction O <;> grind[m5]
def C7 (cs:Vw):m5 (cs.map oW)=true:=Y9 oW ng cs
def JL c(cs:Vw):chks c (cs.map oW)=.ok (.lst (cs.map oW)):=bD (C7 cs)
def xj c(cs:Vw):ad c (cs.map oW)=.ok (.tup (cs.map oW)):=eU (C7 cs)
def IB (o:Vx):isN (oW o)=o.isNone:=by cases o <;> rfl
def yj (o:Vx):P3 (oW o)=.val (oW o):=by cases o <;> rfl
def xx {a:Type}(f:a->W){O:List a}{d:a}{i:Int}(h:0<=i/\i<O.length):L2.atI (O.map f) i=some (f (O.getD i.toNat d)):=by
 unfold L2.atI;rw[qA4,bv h.1 h.2]
 change _[i.toNat]?=_;have hi:i.toNat<O.length:=ox;simp [hi]
def My {cs:Vw}{i:Int}(h:0<=i/\i<cs.length):L2.atI (cs.map oW) i=some (oW (cs.getD i.toNat none)):=xx oW h
def appO (cs:Vw)(o:Vx):cs.map oW ++ [oW o]=(cs ++ [o]).map oW:=by rw[qC7];rfl
def iG {c O:Type}(f:c->W) (g:O->W){a:List c}{b:List O}(h:b.length=a.length) (x:c) (y:O):(bF [a.map f,b.map g]).map W.tup=(List.range a.length).map λk=>W.tup [f (a.getD k x),g (b.getD k y)]:=by
 apply qH7;intro i;simp [bF,qI4];by_cases hi:i<a.length
 .have hb:i<b.length:=ox;simp [hi,hb]
 .simp [hi]
def mD {f:Nat->W}(h:((List.range n).map f)[i]?=some w):i<n/\w=f i:=by
 grind
def Z0 ns:noL (tI ns)=true:=D2 ns
def nc (ss:VV):m5 (ss.map tI)=true:=Y9 tI Z0 ss
def JK c(ss:VV):chks c (ss.map tI)=.ok (.lst (ss.map tI)):=bD (nc ss)
def JR c(ss:VV):ad c (ss.map tI)=.ok (.tup (ss.map tI)):=eU (nc ss)
def Mx {ss:VV}{i:Int}(h:0<=i/\i<ss.length):L2.atI (ss.map tI) i=some (tI (ss.getD i.toNat [])):=xx tI h
def Kx (ss:VV)s:ss.map tI ++ [tI s]=(ss ++ [s]).map tI:=by rw[qC7];rfl
noncomputable def Ay {a:Type}(xs:List a)(lo hi:Vx):List a:=(xs.drop (HT.sIx xs.length 0 lo)).take (HT.sIx xs.length xs.length hi-HT.sIx xs.length 0 lo)
def Aw (f:a->W) (O:List a) lo hi:L3 (O.map f) lo hi=(Ay O lo hi).map f:=by
 unfold L3 Ay;rw[qA4,<- List.map_drop,<- List.map_take]
def JG (ss:VV)lo hi:L3 (ss.map tI) lo hi=(Ay ss lo hi).map tI:=Aw tI ss lo hi
def JT (ss O:VV):ss.map tI++O.map tI=(ss++O).map tI:=by rw[qC7]
def JU (ss O:VW):ss.map W.int++O.map W.int=(ss++O).map W.int:=by grind
def Gj {lo hi}(h:-1000000<=lo/\lo<=1000000 /\ -1000000<=hi/\hi<=1000000):R5 lo hi=.ok ((List.range (hi-lo).toNat).map λk=>W.int (lo+(k:Nat))):=by
 unfold R5;rw[qA2 h]
def eqv_refl:∀w,PyData.eqv (pd w) (pd w)=true:=by
 intro w;refine W.rec (motive_2:=λws=>PyData.eqvAll (pds ws) (pds ws)=true) ?_ ?_ ?_ ?_ ?_ ?_ ?_ ?_ ?_ ?_ ?_ ?_ w
 .rfl
 .omega
 .intro b;show qP9 b
 .intro b;show qP9 b
 .intro b;rfl
 .show λws h=>h
 .show λws h=>h
 .show λws h=>h
 .intro b c;rfl
 .intro b;rfl
 .rfl
 .intro w ws O h2;show (qH4 ..).mpr ⟨O,h2⟩
def Ap w:eqW w w=true:=eqv_refl w
def Y3 {b:Type}(f:b->W) n (h:∀a,shp n (f a)=true) (O:List b):aK n (O.map f)=true:=by
 induction O <;> grind[aK]
theorem X2 n i:shp n (.int i)=true:=by cases n <;> rfl
def iQ n:shp n .non=true:=by cases n <;> rfl
theorem db n ns:shp (n+1) (tI ns)=true:=Y3 W.int n (X2 n) ns
def lW n ns:shp (n+1) (lI ns)=true:=Y3 W.int n (X2 n) ns
theorem gE n(ss:VV):shp (n+2) (.lst (ss.map tI))=true:=Y3 tI _ (db n) ss
def cD (h:shp 8 w=true):fEq neg w w=.ok (.bl (!neg)):=by
 unfold fEq;rw[h,Ap];cases neg <;> rfl
theorem eqI:∀(a b:VW),PyData.eqvAll (pds (a.map W.int)) (pds (b.map W.int))=decide (a=b)
 | [],[]=>ox
 | [],_::_=>by simp [pds,PyData.eqvAll]
 |_::_,[]=>by simp [pds,PyData.eqvAll]
 | x::a,y::b=>by
  simp [pds,pd,PyData.eqvAll,PyData.eqv,eqI];by_cases h:x=y <;> by_cases h':a=b <;> simp [h]
def Jo neg a b:fEq neg (tI a) (tI b)=.ok (.bl (if neg then !decide (a=b) else decide (a=b))):=by
 unfold fEq;rw[db,db]
 have:eqW (tI a) (tI b)=_:=eqI a b
 rw[this];rfl
def Jt neg a b:fEq neg (lI a) (lI b)=.ok (.bl (if neg then !decide (a=b) else decide (a=b))):=by
 unfold fEq;rw[lW,lW]
 have:eqW (lI a) (lI b)=_:=eqI a b
 rw[this];rfl
def JB:∀(a b:VV),PyData.eqvAll (pds (a.map tI)) (pds (b.map tI))=decide (a=b)
 | [],[]=>ox
 | [],_::_=>by simp [pds,PyData.eqvAll]
 |_::_,[]=>by simp [pds,PyData.eqvAll]
 | x::a,y::b=>by
  simp only [qE1,pds,pd,PyData.eqvAll,PyData.eqv,JB,eqI];by_cases h:x=y <;> by_cases h':a=b <;> simp [h']
def Js neg (a b:VV):fEq neg (.lst (a.map tI)) (.lst (b.map tI))=.ok (.bl (if neg then !decide (a=b) else decide (a=b))):=by
 unfold fEq;rw[gE,gE]
 have:eqW (.lst _) (.lst _)=_:=JB a b
 rw[this];rfl
def bw neg i j:fEq neg (.int i) (.int j)=.ok (.bl (if neg then !decide (i=j) else decide (i=j))):=by
 grind[fEq,X2,eqW,pd,PyData.eqv]
def Jv neg i j:fEq neg (.bl i) (.bl j)=.ok (.bl (if neg then !decide (i=j) else decide (i=j))):=by
 unfold fEq
 have:eqW (.bl i) (.bl j)=decide (i=j):=by cases i <;> cases j <;> rfl
 rfl
def Jq neg j:fEq neg .non (.int j)=.ok (.bl neg):=by cases neg <;> rfl
def Ju neg j:fEq neg (.int j) .non=.ok (.bl neg):=by cases neg <;> rfl
def Jp neg:fEq neg .non .non=.ok (.bl (!neg)):=by cases neg <;> rfl
def Ao g bs:Jx g [.lst (bs.map W.bl)]=.ok (.bl (g bs)):=by
 change _>>=_=_;rw[EK];rfl
def Ej g (ns:VW):tq g [.lst (ns.map W.int)]=.ok (.int (g ns)):=by
 change _>>=_=_;rw[ints_map];rfl
def Jj i:fInt [.int i]=.ok (.int i):=rfl
def Jk b:fInt [.bl b]=.ok (.int (if b then 1 else 0)):=rfl
def Jy i:fAbs [.int i]=.ok (.int (if i<0 then -i else i)):=rfl
def JA (o:Option Sl) (r:R W) (c:Bool) (i:Nat) (a:Rho):R Fl:=match o with
 | some (.own ws)=>r>>=λw=>(match w with
  | .lst us=>if ws.length+us.length<=1000 then (if c||m5 us then .ok (.nx (a.set i (.own (ws++us)))) else .stuck) else .stuck
  |_=>.stuck)
 |_=>.stuck
def Dy i c m a:mExt i c m a=JA (a[i]?) (m a) c i a:=rfl
def Jz {ws us:Zz}{c}{i}{a}(h:ws.length+us.length<=1000):JA (some (.own ws)) (.ok (.lst us)) c i a=if c||m5 us then .ok (.nx (a.set i (.own (ws++us)))) else .stuck:=by
 change (if ws.length+us.length<=1000 then _ else _)=_;rw[qA2 h]
noncomputable def Go (o:Option Sl) (i:Nat) (a:Rho):R Fl:=match o with
 |some (.own ws)=>.ok (.nx (a.set i (.own ws.reverse)))
 |_=>.stuck
def Dx i a:nF i a=Go (a[i]?) i a:=rfl
def Cn ws i a:Go (some (.own ws)) i a=.ok (.nx (a.set i (.own ws.reverse))):=rfl
def gR J(O:Po r J Jr)(h2:∀a,J a->Po (n a) Jn Jr):Po (andThen r n) Jn Jr:=P7 (O.mono h2 λ_ h=>h)
def DY i j:B9 i j=.int (i+j):=rfl
def DW i j:TP.gSub i j=.int (i-j):=rfl
def IT i j:gLt i j=.bl (decide (i<j)):=rfl
def IU i j:gLe i j=.bl (decide (i<=j)):=rfl
def IV i j:gGt i j=.bl (decide (j<i)):=rfl
def IW i j:gGe i j=.bl (decide (j<=i)):=rfl
def DX i:Z3 i=.int (-i):=rfl
def Ag i j:tf i j=i+j:=rfl
def Ac i j:LF i j=i-j:=rfl
def Jd {i}(h:0<=i/\i<1000):fStr [.int i]=.ok (.str (toString i)):=by
 change (if i.natAbs.log2<1920 then _ else _)=_;rw[qA2];refine qJ6 (Nat.log2_le_self _) ?_;omega
def Ji neg u b:fIsB neg u (.bl b)=.ok (.bl (if neg then !aO u b else aO u b)):=rfl
def IG i b:aO (.int i) b=false:=rfl
def IE b:aO .non b=false:=rfl
def ID x b:aO (.str x) b=false:=rfl
def IC (x:Zz)b:aO (.tup x) b=false:=rfl
def IF (x:Zz)b:aO (.lst x) b=false:=rfl
def IH a b:aO (.bl a) b=(a == b):=rfl
def Rcu (c:Bool)(r:R Zz)(f:List W->R W)(i:Nat)(a:Rho):R Fl:=if c then (r>>=λws=>f ws>>=λw=>.ok (.nx (a.set i (.par w)))) else .stuck
def FX i f O a:sCU i f O a=Rcu (noOwn a) (O a) f i a:=rfl
def KD (r:R W)(i:Nat)(a:Rho):R Fl:=r>>=λw=>.ok (.nx (a.set i (.par w)))
def MC ws f i a:Rcu true (.ok ws) f i a=KD (f ws) i a:=rfl
def Fb w i a:KD (.ok w) i a=.ok (.nx (a.set i (.par w))):=rfl
def vU:noOwn []=true:=rfl
def Dc w(a:Rho):noOwn (.val w::a)=noOwn a:=rfl
def Df w(a:Rho):noOwn (.par w::a)=noOwn a:=rfl
def De (a:Rho):noOwn (.un::a)=noOwn a:=rfl
def qR {g}{ns}(h:0<ns.length):U0 g [tI ns]=.ok (.int (g ns)):=by
 change toR (x5 _)>>=_=_;rw[ints_map]
 change (if 0<ns.length then _ else _)=_;rw[qA2 h]
def jz {g}{ns}(h:0<ns.length):U0 g [lI ns]=.ok (.int (g ns)):=by
 change toR (x5 _)>>=_=_;rw[ints_map]
 change (if 0<ns.length then _ else _)=_;rw[qA2 h]
def Gn (ws:Zz):iV [.lst ws]=.ok ws.reverse:=rfl
def rp0:=Z1 (@Ae) (Z1 (@Ad) (Z1 (@Le) (Z1 (@Ld) (Z1 (@Lw) (Z1 (@Lu) (Z1 (@HN) (Z1 (@div_ii) (Z1 (@Hn) (Z1 (@Kz) (Z1 (@Ds) (Z1 (@Dt) (Z1 (@Jw) (Z1 (@nV) (Z1 (@Mw) (Z1 (@LC) (Z1 (@Gi) (Z1 (@JH) (Z1 (@FL) (Z1 (@Ky) (Z1 (@Gp) (Z1 (@Dw) (Z1 (@tR) (Z1 (@tQ) (@tU))))))))))))))))))))))))
def rp1:=Z1 (@tS) (Z1 (@Ly) (Z1 (@Mu) (Z1 (@Mt) (Z1 (@KG) (Z1 (@Ms) (Z1 (@Mr) (Z1 (@Mq) (Z1 (@Mz) (Z1 (@MA) (Z1 (@ag) (Z1 (@EQ) (Z1 (@AL) (Z1 (@BX) (Z1 (@Fu) (Z1 (@BW) (Z1 (@Cy) (Z1 (@Cz) (Z1 (@Cw) (Z1 (@GJ) (Z1 (@GI) (Z1 (@GL) (Z1 (@Cs) (Z1 (@BP) (@Fj))))))))))))))))))))))))
def rp2:=Z1 (@BN) (Z1 (@yN) (Z1 (@yO) (Z1 (@yM) (Z1 (@Cq) (Z1 (@Cp) (Z1 (@Cr) (Z1 (@yK) (Z1 (@Fk) (Z1 (@Ct) (Z1 (@Cv) (Z1 (@Cu) (Z1 (@uk) (Z1 (@xC) (Z1 (@BM) (Z1 (@BO) (Z1 (@Lm) (Z1 (@Ll) (Z1 (@vB) (Z1 (@Fi) (Z1 (@EY) (Z1 (@EW) (Z1 (@xN) (Z1 (@AR) (@FU))))))))))))))))))))))))
def rp3:=Z1 (@FY) (Z1 (@FV) (Z1 (@yt) (Z1 (@AQ) (Z1 (@Cg) (Z1 (@Co) (Z1 (@yq) (Z1 (@KM) (Z1 (@KN) (Z1 (@KQ) (Z1 (@EZ) (Z1 (@uI) (Z1 (@uF) (Z1 (@uJ) (Z1 (@yk) (Z1 (@uH) (Z1 (@uG) (Z1 (@KP) (Z1 (@Fc) (Z1 (@uu) (Z1 (@Ci) (Z1 (@Fa) (Z1 (@Ch) (Z1 (@IZ) (@Aj))))))))))))))))))))))))
def rp4:=Z1 (@Ah) (Z1 (@Ai) (Z1 (@DZ) (Z1 (@qz) (Z1 (@Gs) (Z1 (@Gq) (Z1 (@Gr) (Z1 (@Gu) (Z1 (@Gv) (Z1 (@Gy) (Z1 (@Gw) (Z1 (@Gx) (Z1 (@Gz) (Z1 (@GA) (Z1 (@GB) (Z1 (@GC) (Z1 (@sN) (Z1 (@yF) (Z1 (@yD) (Z1 (@yE) (Z1 (@DB) (Z1 (@Dv) (Z1 (@Ce) (Z1 (@uN) (@Dz))))))))))))))))))))))))
def rp5:=Z1 (@ER) (Z1 (@HR) (Z1 (@IL) (Z1 (@IM) ((((((Z1 (@Ev) (Z1 (@Ew) (Z1 (@Jm) (Z1 (@fU_i) (Z1 (@LM) (Z1 (@LK) (Z1 (@LL) (Z1 (@xW) (Z1 (@Ft) (Z1 (@Jg) (Z1 (@Je) (Z1 (@Jf) (Z1 (@Eh) (Z1 (@Eg) (Z1 (@wT) (@Jc))))))))))))))))))))))))
def rp6:=Z1 (@JJ) (Z1 (@JQ) (Z1 (@JM) (Z1 (@JS) (Z1 (@EC) (Z1 (@JP) (Z1 (@EA) (Z1 (@EB) (Z1 (@JN) (Z1 (@LN) (Z1 (@FQ) (Z1 (@FO) (Z1 (@FP) (Z1 (@Gm) (Z1 (@Gk) (Z1 (@gN_U) (Z1 (@gN_V) (Z1 (@gT_t) (Z1 (@Aa) (Z1 (@DT) (Z1 (@Ei) (Z1 (@Im) (Z1 (@Io) (Z1 (@Ir) (@Ig))))))))))))))))))))))))
def rp7:=Z1 (@Jh) (Z1 (@D2) (Z1 (@Ep) (Z1 (@Er) (Z1 (@Ek) (Z1 (@El) (Z1 (@Em) (@Eo)))))))
def rp8:=Z1 (@oW_n) (Z1 (@oW_s) (Z1 (@JO) (Z1 (@C7) (Z1 (@JL) (Z1 (@xj) (Z1 (@IB) (Z1 (@yj) (Z1 (@My) (@appO)))))))))
def rp9:=Z1 (@nc) (Z1 (@JK) (Z1 (@JR) (Z1 (@Mx) (Z1 (@Kx) (Z1 (@JG) (Z1 (@JT) (Z1 (@JU) (Z1 (@Gj) (Z1 (@Jo) (Z1 (@Jt) (Z1 (@Js) (Z1 (@bw) (Z1 (@Jv) (Z1 (@Jq) (Z1 (@Ju) (Z1 (@Jp) ((Z1 (@Ao) (Z1 (@Ej) (Z1 (@Jj) (Z1 (@Jk) (Z1 (@Jy) (Z1 (@Dy) (Z1 (@Jz) (Z1 (@Dx) (@Cn))))))))))))))))))))))))))
def rp10:=Z1 (@DY) (Z1 (@DW) (Z1 (@IT) (Z1 (@IU) (Z1 (@IV) (Z1 (@IW) (Z1 (@DX) (Z1 (@Ag) (@Ac))))))))
def rp11:=Z1 (@Jd) (Z1 (@Ji) (Z1 (@IG) (Z1 (@IE) (Z1 (@ID) (Z1 (@IC) (Z1 (@IF) (@IH)))))))
def rp12:=Z1 (@FX) (Z1 (@MC) (Z1 (@Fb) (Z1 (@vU) (Z1 (@Dc) (Z1 (@Df) (@De))))))
def rp13:=Z1 (@qR) (Z1 (@jz) (@Gn))
end TP
set_option maxHeartbeats 4000000
open PySem L2 TP
namespace K96
def nA:Zv:=
 (d8 (y6 (bI F2 (aC (a9 .U 0) (aC (a9 .U 1) aN))) (gT 2 (i6 (gN .U 2) (i6 (gN .U 3) gsNil)))
   (mIf (e9 (b2 (fI0 gLt) (a9 .B 2) (a9 .B 3))) (g6 (mC (.bl false))) sNx))
  (g6 (mC (.bl true))))
abbrev O1:List W->R W:=i3 2 4 nA
def wj:Zv:=
 (g6 (bA O1 (aC (a9 .B 0) (aC (b2 fIx (a9 .B 1) (mC (.int 0))) aN))))
abbrev iu:List W->R W:=i3 2 2 wj
def nC:Zv:=
 (g6 (bA (E1 true) (aC (j5 3 (bI F2 (aC (b2 fIx (a9 .B 0) (mC (.int 0))) (aC (b2 fIx (a9 .B 0) (mC (.int 1))) aN))) (gT 2 (i6 (gN .U 1) (i6 (gN .U 2) gsNil))) yes (b2 (fI0 gSub) (a9 .B 2) (a9 .B 1))) aN)))
abbrev R8:List W->R W:=i3 1 1 nC
def qy:Zv:=
 (d8 (mIf (F3 (e9 (bA iu (aC (a9 .B 0) (aC (a9 .B 1) aN))))) gG sNx)
  (g6 (bA (E1 true) (aC (j5 4 (bI F2 (aC (a9 .B 0) (aC (bA R8 (aC (a9 .B 1) aN)) aN))) (gT 2 (i6 (gN .U 2) (i6 (gN .U 3) gsNil))) yes (b2 (fI0 B9) (a9 .B 2) (a9 .B 3))) aN))))
abbrev jx:List W->R W:=i3 2 2 qy
def nq:Zv:=
 (g6 (bA (E1 true) (aC (j5 5 (bI F2 (aC (a9 .B 0) (aC (b2 fIx (a9 .B 1) (mC (.int 0))) (aC (b2 fIx (a9 .B 1) (mC (.int 1))) aN)))) (gT 3 (i6 (gN .U 2) (i6 (gN .U 3) (i6 (gN .U 4) gsNil)))) yes (bA (f2 Af) (aC (a9 .B 3) (aC (b2 (fI0 B9) (b2 (fI0 gSub) (a9 .B 2) (a9 .B 4)) (a9 .B 3)) aN)))) aN)))
abbrev ga:List W->R W:=i3 2 2 nq
def ko:Zv:=
 (g6 (b2 fRepT (v7 (aC (mC (.int 0)) aN)) (bA fLen (aC (b2 fIx (a9 .B 0) (mC (.int 0))) aN))))
abbrev ay:List W->R W:=i3 1 1 ko
def nu:Zv:=
 (d8 (sF 2 (bA ay (aC (a9 .B 0) aN)))
  (d8 (y6 (bI iV (aC (a9 .U 1) aN)) (gN .U 3)
   (sF 2 (bA ga (aC (a9 .B 2) (aC (b2 fIx (b2 fIx (a9 .B 0) (mC (.int 1))) (a9 .B 3)) aN)))))
  (y4 .F 2)))
abbrev Z5:List W->R W:=i3 2 4 nu
def V0:Zv:=
 (g6 (bA (E1 true) (aC (j5 5 (bI F2 (aC (a9 .B 0) (aC (a9 .B 1) aN))) (gT 2 (i6 (gN .U 3) (i6 (gN .U 4) gsNil))) yes (b2 (fI0 B9) (a9 .B 3) (b2 (fI CMulB j9) (a9 .B 2) (a9 .B 4)))) aN)))
abbrev B3:List W->R W:=i3 3 3 V0
def nk:Zv:=
 (d8 (sF 2 (bA ay (aC (a9 .B 0) aN)))
  (d8 (y6 (bS (a9 .U 1)) (gN .U 3)
   (sF 2 (bA B3 (aC (a9 .B 2) (aC (bA R8 (aC (b2 fIx (b2 fIx (a9 .B 0) (mC (.int 1))) (a9 .B 3)) aN)) (aC (mC (.int 1)) aN))))))
  (y4 .F 2)))
abbrev R7:List W->R W:=i3 2 4 nk
def ny:Zv:=
 (d8 (mIf (e9 (b2 (v5 false) (a9 .B 3) (mC (.int 0)))) (g6 (mC (.bl true))) sNx)
  (d8 (sF 4 (bA Z5 (aC (a9 .B 0) (aC (a9 .B 2) aN))))
  (d8 (sF 5 (bA B3 (aC (a9 .B 1) (aC (bA R7 (aC (a9 .B 0) (aC (a9 .B 2) aN))) (aC (b2 (fI0 gSub) (a9 .B 3) (mC (.int 1))) aN)))))
  (g6 (xO (bA O1 (aC (a9 .B 1) (aC (a9 .B 4) aN))) (bA O1 (aC (a9 .B 5) (aC (a9 .B 4) aN))))))))
abbrev nU:List W->R W:=i3 4 6 ny
def no:Zv:=
 (d8 (sV 3 (a9 .V 1))
  (d8 (y6 (bI O2 (aC (a9 .U 2) aN)) (gT 2 (i6 (gN .U 4) (i6 (gN .U 5) gsNil)))
   (d8 (sU 6 (b2 fIx (a9 .B 5) (mC (.int 0))))
   (d8 (sU 7 (b2 fIx (a9 .B 5) (mC (.int 1))))
   (d8 (mIf (F3 (e9 (bA nU (aC (a9 .B 0) (aC (a9 .B 3) (aC (a9 .B 6) (aC (a9 .B 7) aN))))))) gG sNx)
   (sF 3 (bA B3 (aC (a9 .B 3) (aC (bA R7 (aC (a9 .B 0) (aC (a9 .B 6) aN))) (aC (a9 .B 7) aN)))))))))
  (y4 .F 3)))
abbrev cz:List W->R W:=i3 3 8 no
def wb:Zv:=
 (g6 (bA (E1 true) (aC (j5 3 (bI E4 (aC (a9 .B 1) aN)) (gN .U 2) yes (vIf (e9 (b2 (fEq false) (a9 .B 2) (a9 .B 0))) (mC (.int 1)) (mC (.int 0)))) aN)))
abbrev ip:List W->R W:=i3 2 2 wb
def cQ:Zv:=
 (d8 (sF 3 (j5 6 (bS (a9 .B 0)) (gN .U 5) yes (bA R8 (aC (a9 .B 5) aN))))
  (d8 (sF 4 (j5 6 (bI E4 (aC (a9 .B 2) aN)) (gN .U 5) yes (b2 fCatT (bA (E1 true) (aC (j5 7 (bS (a9 .B 3)) (gN .U 6) yes (b1 (fU Z3) (b2 fIx (a9 .B 6) (a9 .B 5)))) aN)) (bA ip (aC (a9 .B 5) (aC (a9 .B 2) aN))))))
  (d8 (V7 4 (b2 fCatT (bA (E1 true) (aC (j5 6 (bS (a9 .B 3)) (gN .U 5) yes (Q9 (b2 fIx (a9 .B 5) (a9 .B 1)))) aN)) (b2 fRepT (v7 (aC (mC (.int 0)) aN)) (a9 .C 2))))
  (y4 .F 4))))
abbrev N4:List W->R W:=i3 3 5 cQ
def nB:Zv:=
 (d8 (y6 (bI O2 (aC (b2 fIx (a9 .B 0) (b1 (fU Z3) (mC (.int 1)))) aN)) (gT 2 (i6 (gN .U 1) (i6 (gN .U 2) gsNil)))
   (mIf (e9 (b2 (fI0 gGt) (a9 .B 2) (mC (.int 0)))) (y4 .F 1) sNx))
  (g6 (mC .non)))
abbrev Z8:List W->R W:=i3 1 3 nB
def kq:Zv:=
 (d8 (sF 3 (j5 5 (bI E4 (aC (bA fLen (aC (a9 .B 1) aN)) aN)) (gN .U 4) (e9 (b2 (fI0 gGt) (b2 fIx (b2 fIx (a9 .B 0) (a9 .B 4)) (a9 .B 2)) (mC (.int 0)))) (a9 .V 4)))
  (g6 (lB 1 (aC (a9 .B 3) aN))))
abbrev dL:List W->R W:=i3 3 4 kq
def kx:Zv:=
 (g6 (bA (E1 true) (aC (j5 6 (bI F2 (aC (a9 .B 0) (aC (a9 .B 1) aN))) (gT 2 (i6 (gN .U 4) (i6 (gN .U 5) gsNil))) yes (b2 (fI aH J4) (b2 (fI0 gSub) (b2 (fI CMulB j9) (a9 .B 4) (b2 fIx (a9 .B 1) (a9 .B 2))) (b2 (fI CMulB j9) (b2 fIx (a9 .B 0) (a9 .B 2)) (a9 .B 5))) (a9 .B 3))) aN)))
abbrev dM:List W->R W:=i3 4 4 kx
def km:Zv:=
 (d8 (sU 4 (b2 fIx (a9 .B 0) (a9 .B 1)))
  (g6 (j5 7 (bI O2 (aC (a9 .B 0) aN)) (gT 2 (i6 (gN .U 5) (i6 (gN .U 6) gsNil))) yes (vIf (e9 (b2 (fEq false) (a9 .B 5) (a9 .B 1))) (a9 .V 6) (bA dM (aC (a9 .B 6) (aC (a9 .B 4) (aC (a9 .B 2) (aC (a9 .B 3) aN)))))))))
abbrev ax:List W->R W:=i3 4 5 km
def dD:Zv:=
 (d8 (K8 (e9 (b2 (v5 true) (a9 .B 1) (mC (.int 0)))) (d8 (sV 2 (b2 (fI w9 w8) (a9 .B 0) (a9 .B 1)))
   (d8 (sV 0 (a9 .V 1))
   (sV 1 (a9 .V 2)))))
  (y4 .F 0))
abbrev D4:List W->R W:=i3 2 3 dD
def dC:Zv:=
 (d8 (sV 1 (mC (.int 0)))
  (d8 (y6 (bS (a9 .U 0)) (gN .U 2)
   (sF 1 (bA D4 (aC (a9 .B 1) (aC (a9 .B 2) aN)))))
  (g6 (bA (E1 true) (aC (j5 4 (bS (a9 .B 0)) (gN .U 3) yes (b2 (fI aH J4) (a9 .B 3) (a9 .B 1))) aN)))))
abbrev A0:List W->R W:=i3 1 3 dC
def dA:Zv:=
 (d8 (sF 4 (j5 6 (bS (rM (b2 fIx (a9 .B 0) (b1 (fU Z3) (mC (.int 1)))) (pS (a9 .B 3)) pN)) (gN .U 5) yes (b1 (fU Z3) (a9 .B 5))))
  (g6 (bA A0 (aC (bA B3 (aC (a9 .B 4) (aC (bA ip (aC (a9 .B 1) (aC (bA fLen (aC (a9 .B 4) aN)) aN))) (aC (a9 .B 2) aN)))) aN))))
abbrev Z4:List W->R W:=i3 4 5 dA
def nE:Zv:=
 (d8 (sF 5 (b2 (jy true) (K0 (aC (mC (.int 0)) aN)) (bA fLen (aC (b2 fIx (a9 .B 0) (mC (.int 0))) aN))))
  (d8 (fV 5 (a9 .B 2) (a9 .V 3))
  (d8 (y6 (bI O2 (aC (a9 .U 1) aN)) (gT 2 (i6 (gN .U 6) (i6 (gN .U 7) gsNil)))
   (fV 5 (a9 .B 7) (b1 (fU Z3) (b2 fIx (b2 fIx (a9 .B 0) (a9 .B 6)) (a9 .B 2)))))
  (g6 (bA A0 (aC (vSl true (a9 .C 5) pN (pS (a9 .B 4))) aN))))))
abbrev gd:List W->R W:=i3 5 8 nE
def kA:Zv:=
 (d8 (sF 3 (bA N4 (aC (a9 .B 0) (aC (a9 .B 1) (aC (a9 .B 2) aN)))))
  (d8 (sF 4 (j5 9 (bI E4 (aC (a9 .B 2) aN)) (gN .U 8) yes (b2 (fI0 B9) (bA fLen (aC (a9 .B 0) aN)) (a9 .B 8))))
  (d8 (sV 5 (mC (.int 1)))
  (d8 (sF 6 (bA Z8 (aC (a9 .B 3) aN)))
  (d8 (K8 (e9 (b2 (F9 true) (a9 .B 6) (mC .non))) (d8 (sF 7 (bA dL (aC (a9 .B 3) (aC (a9 .B 4) (aC (a9 .B 6) aN)))))
   (d8 (mIf (e9 (b2 (F9 false) (a9 .B 7) (mC .non))) (g6 (v7 (aC (mC (.str "bag")) (aC (bA gd (aC (a9 .B 3) (aC (a9 .B 4) (aC (a9 .B 6) (aC (a9 .B 5) (aC (bA fLen (aC (a9 .B 0) aN)) aN)))))) aN)))) sNx)
   (d8 (sF 3 (bA ax (aC (a9 .B 3) (aC (a9 .B 7) (aC (a9 .B 6) (aC (a9 .B 5) aN))))))
   (d8 (fL 6 (fV 4 (a9 .B 7) (a9 .V 6)))
   (d8 (sV 5 (b2 fIx (b2 fIx (a9 .C 3) (a9 .C 7)) (a9 .C 6)))
   (sF 6 (bA Z8 (aC (a9 .B 3) aN)))))))))
  (g6 (v7 (aC (mC (.str "weights")) (aC (bA Z4 (aC (a9 .B 3) (aC (a9 .B 1) (aC (a9 .B 5) (aC (bA fLen (aC (a9 .B 0) aN)) aN))))) aN)))))))))
abbrev dN:List W->R W:=i3 3 8 kA
def qw:Zv:=
 (d8 (sF 2 (b2 fRepT (v7 (aC (mC (.int 0)) aN)) (a9 .C 1)))
  (d8 (y6 (bI E4 (aC (a9 .B 1) aN)) (gN .U 3)
   (d8 (sF 4 (bA dN (aC (a9 .B 0) (aC (a9 .B 3) (aC (a9 .B 1) aN)))))
   (d8 (mIf (e9 (b2 (v5 false) (b2 fIx (a9 .B 4) (mC (.int 0))) (mC (.str "bag")))) (g6 (v7 (aC (mC (.str "bag")) (aC (a9 .V 3) (aC (b2 fIx (a9 .C 4) (mC (.int 1))) aN))))) sNx)
   (sF 2 (bA B3 (aC (a9 .B 2) (aC (b2 fIx (a9 .B 4) (mC (.int 1))) (aC (mC (.int 1)) aN))))))))
  (g6 (v7 (aC (mC (.str "weights")) (aC (bA A0 (aC (a9 .B 2) aN)) aN))))))
abbrev X7:List W->R W:=i3 2 5 qw
def qu:Zv:=
 (d8 (y6 (bI F2 (aC (a9 .U 0) (aC (a9 .U 1) aN))) (gT 2 (i6 (gN .U 2) (i6 (gN .U 3) gsNil)))
   (mIf (gA (e9 (b2 (F9 true) (a9 .B 3) (mC .non))) (R4 (e9 (b2 (F9 false) (a9 .B 2) (mC .non))) (e9 (b2 (fI0 gGt) (a9 .B 2) (a9 .B 3))))) (g6 (mC (.bl false))) sNx))
  (g6 (mC (.bl true))))
abbrev X6:List W->R W:=i3 2 4 qu
def pp:Zv:=
 (d8 (y6 (bS (a9 .U 1)) (gN .U 2)
   (mIf (e9 (bA X6 (aC (a9 .B 0) (aC (a9 .B 2) aN)))) (g6 (mC (.bl true))) sNx))
  (g6 (mC (.bl false))))
abbrev M7:List W->R W:=i3 2 3 pp
def ic:Zv:=
 (g6 (bA X6 (aC (b2 fIx (a9 .B 1) (mC (.int 0))) (aC (a9 .B 0) aN))))
abbrev W7:List W->R W:=i3 2 2 ic
def fj:Zv:=
 (d8 (mIf (F3 (e9 (bA W7 (aC (a9 .B 0) (aC (a9 .B 1) aN))))) gG sNx)
  (g6 (bA (E1 true) (aC (j5 4 (bI F2 (aC (a9 .B 0) (aC (bA R8 (aC (a9 .B 1) aN)) aN))) (gT 2 (i6 (gN .U 2) (i6 (gN .U 3) gsNil))) yes (vIf (e9 (b2 (F9 false) (a9 .B 2) (mC .non))) (mC .non) (b2 (fI0 B9) (a9 .B 2) (a9 .B 3)))) aN))))
abbrev aR:List W->R W:=i3 2 2 fj
def nt:Zv:=
 (d8 (mIf (F3 (e9 (bA X6 (aC (a9 .B 1) (aC (a9 .B 0) aN))))) (y4 .F 0) sNx)
  (g6 (bA (E1 true) (aC (j5 4 (bI F2 (aC (a9 .B 0) (aC (a9 .B 1) aN))) (gT 2 (i6 (gN .U 2) (i6 (gN .U 3) gsNil))) yes (vIf (e9 (b2 (fEq false) (a9 .B 2) (a9 .B 3))) (a9 .V 2) (mC .non))) aN))))
abbrev cB:List W->R W:=i3 2 2 nt
def ib:Zv:=
 (g6 (bA (E1 true) (aC (j5 2 (bS (a9 .B 0)) (gN .U 1) yes (vIf (e9 (b2 (F9 false) (a9 .B 1) (mC .non))) (v7 (aC (mC (.int 1)) (aC (mC (.int 0)) aN))) (v7 (aC (mC (.int 0)) (aC (a9 .V 1) aN))))) aN)))
abbrev Q7:List W->R W:=i3 1 1 ib
def wd:Zv:=
 (d8 (sF 1 (K0 aN))
  (d8 (y6 (bS (bA (dO false Q7) (aC (a9 .B 0) aN))) (gN .U 2)
   (mIf (F3 (e9 (bA M7 (aC (a9 .B 2) (aC (a9 .B 1) aN))))) (V7 1 (a9 .V 2)) sNx))
  (d8 (nF 1)
  (y4 .F 1))))
abbrev nT:List W->R W:=i3 1 3 wd
def ca:Zv:=
 (d8 (sF 2 (K0 aN))
  (d8 (sV 3 (a9 .V 1))
  (d8 (K8 (e9 (b2 (F9 true) (a9 .B 3) (mC .non))) (d8 (V7 2 (a9 .V 3))
   (sU 3 (b2 fIx (b2 fIx (a9 .B 0) (a9 .B 3)) (mC (.int 1))))))
  (y4 .F 2))))
abbrev D3:List W->R W:=i3 2 4 ca
def V1 (p:Addr):Zv:=
 (d8 (nb (sU 4 (b2 fIx (b2 fIx (a9 .B 0) (mC (.int 1))) (a9 .B 3))))
  (d8 (mIf (F3 (e9 (bA W7 (aC (b2 fIx (b2 fIx (a9 .B 1) (a9 .B 2)) (mC (.int 0))) (aC (a9 .B 4) aN))))) sd (nb sNx))
  (d8 (nb (sF 5 (bA aR (aC (b2 fIx (b2 fIx (a9 .B 1) (a9 .B 2)) (mC (.int 0))) (aC (a9 .B 4) aN)))))
  (d8 (nb (y6 (bS (bA D3 (aC (a9 .B 1) (aC (a9 .B 2) aN)))) (gN .U 6)
   (sF 5 (bA cB (aC (a9 .B 5) (aC (b2 fIx (b2 fIx (a9 .B 1) (a9 .B 6)) (mC (.int 0))) aN))))))
  (mIf (F3 (e9 (bA M7 (aC (a9 .B 5) (aC (j5 8 (bS (a9 .B 1)) (gN .U 7) yes (Q9 (b2 fIx (a9 .B 7) (mC (.int 0))))) aN))))) (eK p 1 (v7 (aC (a9 .V 5) (aC (a9 .V 2) (aC (a9 .V 3) aN))))) (nb sNx))))))
abbrev ir:W->List W->List W->R Zz:=G8 4 7 V1
def nv:Zv:=
 (d8 (sF 2 (K0 (aC (v7 (aC (Q9 (b2 fIx (a9 .B 0) (mC (.int 0)))) (aC (mC .non) (aC (mC .non) aN)))) aN)))
  (d8 (sV 3 (mC (.int 0)))
  (d8 (K8 (e9 (b2 (fI0 gLt) (a9 .B 3) (bA fLen (aC (a9 .B 2) aN)))) (d8 (y6 (bI E4 (aC (bA fLen (aC (b2 fIx (a9 .B 0) (mC (.int 1))) aN)) aN)) (gN .U 4)
    (mIO 2 ir (a9 .B 0) (aC (a9 .B 3) (aC (a9 .B 4) aN))))
   (d8 (mIf (e9 (b2 (fI0 gGt) (bA fLen (aC (a9 .B 2) aN)) (a9 .B 1))) (g6 (mC .non)) sNx)
   (nH 3 tf (mC (.int 1))))))
  (y4 .F 2))))
abbrev Z6:List W->R W:=i3 2 5 nv
def jq:Zv:=
 (d8 (sF 2 (bA Z6 (aC (a9 .B 0) (aC (a9 .B 1) aN))))
  (d8 (mIf (e9 (b2 (F9 false) (a9 .B 2) (mC .non))) (g6 (mC .non)) sNx)
  (g6 (bA nT (aC (j5 4 (bS (a9 .B 2)) (gN .U 3) yes (Q9 (b2 fIx (a9 .B 3) (mC (.int 0))))) aN)))))
abbrev X8:List W->R W:=i3 2 3 jq
def Bl:Zv:=
 (g6 (bA lw (aC (bA D3 (aC (a9 .B 0) (aC (a9 .B 1) aN))) aN)))
abbrev tj:List W->R W:=i3 2 2 Bl
def cP:Zv:=
 (d8 (sF 3 (bA tj (aC (a9 .B 0) (aC (a9 .B 2) aN))))
  (g6 (j5 5 (bS (vSl true (a9 .C 3) (pS (b2 (fI0 B9) (sO (a9 .B 3) (a9 .B 1)) (mC (.int 1)))) pN)) (gN .U 4) yes (Q9 (b2 fIx (b2 fIx (a9 .B 0) (a9 .B 4)) (mC (.int 2)))))))
abbrev G9:List W->R W:=i3 3 4 cP
def we:Zv:=
 (d8 (sF 3 (bA X8 (aC (a9 .B 0) (aC (a9 .B 2) aN))))
  (d8 (mIf (e9 (b2 (F9 false) (a9 .B 3) (mC .non))) (g6 (v7 (aC (mC (.str "open")) aN))) sNx)
  (d8 (sF 4 (j5 6 (bS (a9 .B 3)) (gN .U 5) yes (Q9 (b2 fIx (a9 .B 5) (a9 .B 1)))))
  (d8 (mIf (e9 (b2 (fIn false) (mC .non) (a9 .B 4))) (g6 (v7 (aC (mC (.str "grows")) aN))) sNx)
  (g6 (v7 (aC (mC (.str "at most")) (aC (bA (U0 F8) (aC (a9 .B 4) aN)) aN))))))))
abbrev iq:List W->R W:=i3 3 5 we
def av:Zv:=
 (g6 (j5 4 (bI O2 (aC (b2 fIx (a9 .B 0) (mC (.int 1))) aN)) (gT 2 (i6 (gN .U 2) (i6 (gN .U 3) gsNil))) (e9 (bA iu (aC (a9 .B 1) (aC (a9 .B 3) aN)))) (v7 (aC (bA jx (aC (a9 .B 1) (aC (a9 .B 3) aN))) (aC (a9 .V 2) aN)))))
abbrev Q6:List W->R W:=i3 2 2 av
def qx:Zv:=
 (d8 (sF 2 (K0 (aC (v7 (aC (Q9 (b2 fIx (a9 .B 0) (mC (.int 0)))) (aC (mC .non) (aC (mC .non) aN)))) aN)))
  (d8 (ln 3 (b2 fIx (a9 .B 0) (mC (.int 0))) (mC (.bl true)))
  (d8 (sV 4 (mC (.int 0)))
  (d8 (K8 (e9 (b2 (fI0 gLt) (a9 .B 4) (bA fLen (aC (a9 .B 2) aN)))) (d8 (sV 5 (b2 fIx (b2 fIx (a9 .C 2) (a9 .C 4)) (mC (.int 0))))
   (d8 (y6 (bS (bA Q6 (aC (a9 .B 0) (aC (a9 .B 5) aN)))) (gT 2 (i6 (gN .U 6) (i6 (gN .U 7) gsNil)))
    (d8 (mIf (mIn false 3 (a9 .B 6)) sCt sNx)
    (d8 (mIf (e9 (b2 (v5 false) (bA fLen (aC (a9 .B 2) aN)) (a9 .B 1))) (fL 2 (g6 (v7 (aC (a9 .V 2) (aC (mC (.bl false)) aN))))) sNx)
    (d8 (ig 3 (a9 .B 6) (mC (.bl true)))
    (V7 2 (v7 (aC (a9 .V 6) (aC (a9 .V 4) (aC (a9 .V 7) aN)))))))))
   (nH 4 tf (mC (.int 1))))))
  (fL 2 (g6 (v7 (aC (a9 .V 2) (aC (mC (.bl true)) aN)))))))))
abbrev eP:List W->R W:=i3 2 8 qx
def fh:Zv:=
 (g6 (j5 2 (bS (a9 .B 0)) (gN .U 1) yes (Q9 (b2 fIx (a9 .B 1) (mC (.int 0))))))
abbrev aQ:List W->R W:=i3 1 1 fh
def nr:Zv:=
 (g6 (bA G9 (aC (a9 .B 0) (aC (mC (.int 0)) (aC (a9 .B 1) aN)))))
abbrev gc:List W->R W:=i3 2 2 nr
def nz:Zv:=
 (d8 (y6 (bI O2 (aC (a9 .U 0) aN)) (gT 2 (i6 (gN .U 1) (i6 (gN .U 2) gsNil)))
   (y6 (bS (vSl true (bA D3 (aC (a9 .B 0) (aC (a9 .B 1) aN))) (pS (mC (.int 1))) pN)) (gN .U 3)
    (mIf (e9 (bA O1 (aC (b2 fIx (a9 .B 2) (mC (.int 0))) (aC (b2 fIx (b2 fIx (a9 .B 0) (a9 .B 3)) (mC (.int 0))) aN)))) (g6 (v7 (aC (a9 .V 3) (aC (a9 .V 1) aN)))) sNx)))
  (g6 (mC .non)))
abbrev Z7:List W->R W:=i3 1 4 nz
def V2:Zv:=
 (d8 (sF 2 (bA eP (aC (a9 .B 0) (aC (a9 .B 1) aN))))
  (d8 (sV 3 (b2 fIx (a9 .C 2) (mC (.int 0))))
  (d8 (sF 4 (bA Z7 (aC (a9 .B 3) aN)))
  (d8 (mIf (e9 (b2 (F9 true) (a9 .B 4) (mC .non))) (g6 (v7 (aC (mC (.str "lift")) (aC (bA gc (aC (a9 .B 3) (aC (b2 fIx (a9 .B 4) (mC (.int 0))) aN))) (aC (bA G9 (aC (a9 .B 3) (aC (b2 fIx (a9 .B 4) (mC (.int 0))) (aC (b2 fIx (a9 .B 4) (mC (.int 1))) aN)))) aN))))) sNx)
  (d8 (mIf (e9 (b2 fIx (a9 .B 2) (mC (.int 1)))) (g6 (v7 (aC (mC (.str "all")) (aC (bA aQ (aC (a9 .B 3) aN)) aN)))) sNx)
  (d8 (sF 5 (bA X7 (aC (b2 fIx (a9 .B 0) (mC (.int 1))) (aC (bA fLen (aC (b2 fIx (a9 .B 0) (mC (.int 0))) aN)) aN))))
  (fL 5 (g6 (vIf (e9 (b2 (v5 false) (b2 fIx (a9 .B 5) (mC (.int 0))) (mC (.str "weights")))) (a9 .V 5) (v7 (aC (mC (.str "open")) aN)))))))))))
abbrev az:List W->R W:=i3 2 6 V2
def T7:Zv:=
 (d8 (mIf (e9 (b2 (fI0 gLt) (a9 .B 1) (bA fLen (aC (a9 .B 0) aN)))) (g6 (Q9 (b2 fIx (a9 .B 0) (a9 .B 1)))) sNx)
  (d8 (sV 2 (b2 (fI0 B9) (b2 (fI CMulB j9) (mC (.int 140009)) (a9 .B 1)) (mC (.int 59))))
  (d8 (mIf (e9 (b2 (fI0 gGt) (bA fLen (aC (a9 .B 0) aN)) (mC (.int 0)))) (sV 2 (b2 (fI0 B9) (b2 (fI0 B9) (b2 (fI CMulB j9) (b2 fIx (a9 .B 0) (b2 (fI w9 w8) (b2 (fI CMulB j9) (a9 .B 1) (mC (.int 53))) (bA fLen (aC (a9 .B 0) aN)))) (mC (.int 40692))) (b2 (fI CMulB j9) (b2 (fI CMulB j9) (a9 .B 1) (a9 .B 1)) (mC (.int 2017)))) (mC (.int 31)))) sNx)
  (g6 (b2 (fI w9 w8) (b2 (fI CMulB j9) (a9 .B 2) (a9 .B 2)) (mC (.int 2147483477)))))))
abbrev m7:List W->R W:=i3 2 3 T7
def fk:Zv:=
 (d8 (sF 5 (K0 aN))
  (d8 (sF 6 (K0 aN))
  (d8 (y6 (bI E4 (aC (a9 .B 2) aN)) (gN .U 7)
   (d8 (sF 8 (bA m7 (aC (a9 .B 0) (aC (b2 (fI0 B9) (a9 .B 1) (a9 .B 7)) aN))))
   (d8 (V7 5 (b2 (fI CMulB j9) (b2 fIx (K0 (aC (mC (.int 0)) (aC (mC (.int 1)) (aC (mC (.int 0)) (aC (mC (.int 1)) (aC (mC (.int 2)) (aC (mC (.int 0)) aN))))))) (b2 (fI w9 w8) (a9 .B 8) (mC (.int 6)))) (a9 .B 4)))
   (V7 6 (b2 (fI CMulB j9) (b2 fIx (K0 (aC (mC (.int 0)) (aC (mC (.int 1)) (aC (mC (.int 0)) (aC (mC (.int 0)) (aC (mC (.int 1)) (aC (mC (.int 2)) (aC (mC (.int 0)) aN)))))))) (b2 (fI w9 w8) (b2 (fI L5 J4) (a9 .B 8) (mC (.int 6))) (mC (.int 7)))) (a9 .B 4))))))
  (d8 (mIf (e9 (a9 .B 3)) (d8 (sV 9 (b2 (fI w9 w8) (b2 (fI L5 J4) (bA m7 (aC (a9 .B 0) (aC (a9 .B 1) aN))) (mC (.int 42))) (a9 .B 2)))
   (d8 (sV 10 (b2 (fI w9 w8) (b2 (fI L5 J4) (bA m7 (aC (a9 .B 0) (aC (b2 (fI0 B9) (a9 .B 1) (mC (.int 1))) aN))) (mC (.int 42))) (a9 .B 2)))
   (d8 (sF 5 (j5 12 (bI E4 (aC (a9 .B 2) aN)) (gN .U 11) yes (b2 (fI CMulB j9) (b2 (fI CMulB j9) (bA fInt (aC (b2 (fEq false) (a9 .B 11) (a9 .B 9)) aN)) (b2 (fI0 B9) (mC (.int 1)) (a9 .B 10))) (a9 .B 4))))
   (d8 (sF 6 (j5 12 (bI E4 (aC (a9 .B 2) aN)) (gN .U 11) yes (b2 (fI CMulB j9) (b2 (fI CMulB j9) (bA fInt (aC (b2 (fEq false) (a9 .B 11) (a9 .B 10)) aN)) (b2 (fI0 B9) (mC (.int 1)) (a9 .B 9))) (a9 .B 4))))
   (mIf (e9 (b2 (v5 false) (b2 (fI w9 w8) (b2 (fI L5 J4) (bA m7 (aC (a9 .B 0) (aC (a9 .B 1) aN))) (mC (.int 336))) (mC (.int 3))) (mC (.int 1)))) (sF 6 (b2 (jy true) (K0 (aC (mC (.int 0)) aN)) (a9 .C 2))) sNx))))) sNx)
  (g6 (v7 (aC (bA (E1 true) (aC (a9 .C 5) aN)) (aC (bA (E1 true) (aC (a9 .C 6) aN)) aN))))))))
abbrev aS:List W->R W:=i3 5 11 fk
def cR:Zv:=
 (d8 (y6 (bI E4 (aC (bA fLen (aC (a9 .B 0) aN)) aN)) (gN .U 2)
   (mIf (e9 (b2 (fI0 gLt) (b2 fIx (a9 .B 0) (a9 .B 2)) (b2 fIx (a9 .B 1) (a9 .B 2)))) (g6 (mC (.bl false))) sNx))
  (g6 (mC (.bl true))))
abbrev A3:List W->R W:=i3 2 3 cR
def cS:Zv:=
 (g6 (bA (E1 true) (aC (j5 3 (bI E4 (aC (bA fLen (aC (a9 .B 0) aN)) aN)) (gN .U 2) yes (b2 (fI0 B9) (b2 (fI0 gSub) (b2 fIx (a9 .B 0) (a9 .B 2)) (b2 fIx (b2 fIx (a9 .B 1) (mC (.int 0))) (a9 .B 2))) (b2 fIx (b2 fIx (a9 .B 1) (mC (.int 1))) (a9 .B 2)))) aN)))
abbrev N5:List W->R W:=i3 2 2 cS
def sM:Zv:=
 (d8 (y6 (bS (a9 .U 0)) (gN .U 3)
   (d8 (mIf (R4 (F3 (e9 (lD (fI0 gLe) (fI0 gLt) (mC (.int 0)) (a9 .B 3) (bA fLen (aC (a9 .B 2) aN))))) (F3 (e9 (bA A3 (aC (a9 .B 1) (aC (b2 fIx (b2 fIx (a9 .B 2) (a9 .B 3)) (mC (.int 0))) aN)))))) (g6 (mC .non)) sNx)
   (sF 1 (bA N5 (aC (a9 .B 1) (aC (b2 fIx (a9 .B 2) (a9 .B 3)) aN))))))
  (y4 .F 1))
abbrev Q8:List W->R W:=i3 3 4 sM
def ie:Zv:=
 (d8 (sG (gT 2 (i6 (gN .U 4) (i6 (gN .U 5) gsNil))) (a9 .U 1))
  (d8 (mIf (R4 (F3 (e9 (bA fIsi (aC (a9 .B 0) (aC (mC (.ty "list")) aN))))) (R4 (e9 (b2 (fIn true) (a9 .B 4) (a9 .B 0))) (R4 (e9 (b2 (v5 true) (bA fLs (aC (a9 .B 0) aN)) (bA fLen (aC (a9 .B 0) aN)))) (e9 (b2 (fI0 gGt) (bA fLen (aC (a9 .B 0) aN)) (a9 .B 2)))))) (g6 (mC (.bl false))) sNx)
  (d8 (y6 (bS (a9 .U 0)) (gN .U 6)
   (y6 (bS (a9 .U 5)) (gN .U 7)
    (mIf (gA (e9 (bA A3 (aC (a9 .B 6) (aC (b2 fIx (a9 .B 7) (mC (.int 0))) aN)))) (e9 (b2 (fIn true) (bA N5 (aC (a9 .B 6) (aC (a9 .B 7) aN))) (a9 .B 0)))) (g6 (mC (.bl false))) sNx)))
  (d8 (mIf (e9 (b2 (F9 false) (a9 .B 3) (mC .non))) (g6 (mC (.bl true))) sNx)
  (d8 (sF 8 (K0 aN))
  (d8 (y6 (bS (a9 .U 0)) (gN .U 6)
   (mIf (e9 (b2 (v5 false) (bA fLen (aC (j5 12 (bS (a9 .B 0)) (gN .U 11) (gA (e9 (b2 (fEq true) (a9 .B 11) (a9 .B 6))) (e9 (bA A3 (aC (a9 .B 11) (aC (a9 .B 6) aN))))) (a9 .V 11)) aN)) (mC (.int 0)))) (V7 8 (a9 .V 6)) sNx))
  (d8 (mIf (e9 (b2 (fEq true) (a9 .B 3) (bA fSort (aC (a9 .C 8) aN)))) (g6 (mC (.bl false))) sNx)
  (d8 (y6 (bI E4 (aC (bA fLen (aC (a9 .B 4) aN)) aN)) (gN .U 9)
   (d8 (sF 10 (bA iq (aC (a9 .B 1) (aC (a9 .B 9) (aC (a9 .B 2) aN)))))
   (mIf (e9 (b2 (fEq true) (a9 .B 10) (v7 (aC (mC (.str "at most")) (aC (bA (U0 F8) (aC (j5 12 (bS (a9 .B 0)) (gN .U 11) yes (Q9 (b2 fIx (a9 .B 11) (a9 .B 9)))) aN)) aN))))) (g6 (mC (.bl false))) sNx)))
  (g6 (mC (.bl true)))))))))))
abbrev W8:List W->R W:=i3 4 11 ie
def fm:Zv:=
 (d8 (sG (gT 2 (i6 (gN .U 4) (i6 (gN .U 5) gsNil))) (a9 .U 1))
  (d8 (sF 6 (bA Q8 (aC (b2 fIx (a9 .B 0) (mC (.int 1))) (aC (a9 .B 4) (aC (a9 .B 5) aN)))))
  (d8 (mIf (e9 (b2 (F9 false) (a9 .B 6) (mC .non))) (g6 (mC (.bl false))) sNx)
  (d8 (sF 7 (bA Q8 (aC (b2 fIx (a9 .B 0) (mC (.int 2))) (aC (a9 .B 6) (aC (a9 .B 5) aN)))))
  (d8 (mIf (R4 (e9 (b2 (F9 false) (a9 .B 7) (mC .non))) (R4 (e9 (b2 (fEq false) (a9 .B 7) (a9 .B 6))) (F3 (e9 (bA A3 (aC (a9 .B 7) (aC (a9 .B 6) aN))))))) (g6 (mC (.bl false))) sNx)
  (d8 (sF 8 (bA (E1 true) (aC (j5 11 (bI E4 (aC (bA fLen (aC (a9 .B 6) aN)) aN)) (gN .U 10) yes (b2 (fI0 B9) (b2 fIx (a9 .B 6) (a9 .B 10)) (b2 (fI CMulB j9) (a9 .B 3) (b2 (fI0 gSub) (b2 fIx (a9 .B 7) (a9 .B 10)) (b2 fIx (a9 .B 6) (a9 .B 10)))))) aN)))
  (d8 (mIf (e9 (b2 (fEq true) (bA cz (aC (a9 .B 1) (aC (a9 .B 4) (aC (K0 (aC (v7 (aC (b2 fIx (a9 .C 0) (mC (.int 1))) (aC (mC (.int 1)) aN))) (aC (v7 (aC (b2 fIx (a9 .C 0) (mC (.int 2))) (aC (a9 .V 3) aN))) aN))) aN)))) (a9 .B 8))) (g6 (mC (.bl false))) sNx)
  (d8 (mIf (e9 (b2 (F9 true) (a9 .B 2) (mC .non))) (d8 (sF 9 (j5 11 (bI E4 (aC (bA fLen (aC (a9 .B 4) aN)) aN)) (gN .U 10) (e9 (b2 (fI0 gGt) (b2 fIx (a9 .B 7) (a9 .B 10)) (b2 fIx (a9 .B 6) (a9 .B 10)))) (a9 .V 10)))
   (mIf (e9 (b2 (v5 false) (bA fLen (aC (j5 11 (bS (a9 .B 2)) (gN .U 10) (e9 (b2 (v5 false) (bA fLen (aC (j5 12 (bS (a9 .B 9)) (gN .U 11) (e9 (b2 (F9 false) (b2 fIx (a9 .B 10) (a9 .B 11)) (mC .non))) (a9 .V 11)) aN)) (bA fLen (aC (a9 .B 9) aN)))) (a9 .V 10)) aN)) (mC (.int 0)))) (g6 (mC (.bl false))) sNx)) sNx)
  (g6 (b2 (v5 false) (b2 fIx (bA X7 (aC (a9 .B 5) (aC (bA fLen (aC (a9 .B 4) aN)) aN))) (mC (.int 0))) (mC (.str "bag"))))))))))))
abbrev T9:List W->R W:=Y5 4 10 fm
def dE:Zv:=
 (g6 (bA (tq Ab) (aC (j5 3 (bI E4 (aC (bA fLen (aC (a9 .B 1) aN)) aN)) (gN .U 2) yes (b2 (fI CMulB j9) (b2 fIx (a9 .B 0) (a9 .B 2)) (b2 fIx (a9 .B 1) (a9 .B 2)))) aN)))
abbrev C0:List W->R W:=i3 2 2 dE
def bq:Zv:=
 (d8 (sG (gT 2 (i6 (gN .U 3) (i6 (gN .U 4) gsNil))) (a9 .U 1))
  (d8 (mIf (R4 (F3 (e9 (bA fIsi (aC (a9 .B 0) (aC (mC (.ty "tuple")) aN))))) (R4 (e9 (b2 (v5 true) (bA fLen (aC (a9 .B 0) aN)) (bA fLen (aC (a9 .B 3) aN)))) (e9 (b2 (fI0 gLt) (bA (U0 dw) (aC (a9 .B 0) aN)) (mC (.int 1)))))) (g6 (mC (.bl false))) sNx)
  (d8 (y6 (bS (a9 .U 4)) (gN .U 5)
   (mIf (e9 (b2 (fI0 gGt) (bA C0 (aC (a9 .B 0) (aC (b2 fIx (a9 .B 5) (mC (.int 1))) aN))) (bA C0 (aC (a9 .B 0) (aC (b2 fIx (a9 .B 5) (mC (.int 0))) aN))))) (g6 (mC (.bl false))) sNx))
  (d8 (mIf (e9 (b2 (F9 false) (a9 .B 2) (mC .non))) (g6 (mC (.bl true))) sNx)
  (d8 (y6 (bS (a9 .U 2)) (gN .U 6)
   (mIf (R4 (e9 (b2 (fIn false) (mC .non) (a9 .B 6))) (e9 (b2 (fI0 gGt) (bA C0 (aC (a9 .B 0) (aC (a9 .B 6) aN))) (bA C0 (aC (a9 .B 0) (aC (a9 .B 3) aN)))))) (g6 (mC (.bl false))) sNx))
  (g6 (mC (.bl true))))))))
abbrev M0:List W->R W:=i3 3 7 bq
def Bm:Zv:=
 (d8 (sV 1 (b2 (fI0 B9) (mC (.int 1)) (b2 (fI w9 w8) (bA m7 (aC (a9 .B 0) (aC (mC (.int 0)) aN))) (mC (.int 4)))))
  (d8 (sV 2 (b2 (fI0 B9) (mC (.int 1)) (b2 (fI w9 w8) (bA m7 (aC (a9 .B 0) (aC (mC (.int 1)) aN))) (mC (.int 14)))))
  (d8 (sV 3 (b2 (v5 false) (b2 (fI w9 w8) (bA m7 (aC (a9 .B 0) (aC (mC (.int 2)) aN))) (mC (.int 3))) (mC (.int 1))))
  (d8 (sV 4 (mC (.int 1)))
  (d8 (mIf (e9 (b2 (v5 false) (b2 (fI w9 w8) (bA m7 (aC (a9 .B 0) (aC (mC (.int 3)) aN))) (mC (.int 4))) (mC (.int 1)))) (sV 4 (b2 (fI0 B9) (mC (.int 1)) (b2 (fI w9 w8) (b2 (fI L5 J4) (bA m7 (aC (a9 .B 0) (aC (mC (.int 3)) aN))) (mC (.int 4))) (b2 (fI dZ nS) (mC (.int 10)) (mC (.int 8)))))) sNx)
  (d8 (sF 5 (K0 aN))
  (d8 (y6 (bI E4 (aC (b2 (fI0 B9) (mC (.int 1)) (b2 (fI w9 w8) (bA m7 (aC (a9 .B 0) (aC (mC (.int 4)) aN))) (mC (.int 4)))) aN)) (gN .U 6)
   (V7 5 (bA aS (aC (a9 .B 0) (aC (b2 (fI0 B9) (mC (.int 10)) (b2 (fI CMulB j9) (a9 .B 1) (a9 .B 6))) (aC (a9 .B 1) (aC (a9 .B 3) (aC (a9 .B 4) aN))))))))
  (d8 (sF 7 (bA (E1 true) (aC (j5 12 (bI E4 (aC (a9 .B 1) aN)) (gN .U 11) yes (b2 (fI CMulB j9) (b2 (fI w9 w8) (b2 (fI L5 J4) (bA m7 (aC (a9 .B 0) (aC (b2 (fI0 B9) (mC (.int 6)) (a9 .B 11)) aN))) (mC (.int 3))) (mC (.int 4))) (a9 .B 4))) aN)))
  (d8 (sF 8 (v7 (aC (a9 .V 7) (aC (bA (E1 true) (aC (a9 .C 5) aN)) aN))))
  (d8 (sF 9 (bA X8 (aC (a9 .B 8) (aC (a9 .B 2) aN))))
  (d8 (sV 10 (bA az (aC (a9 .B 8) (aC (a9 .B 2) aN))))
  (d8 (mIf (R4 (F3 (e9 (bA fIsi (aC (a9 .B 10) (aC (mC (.ty "tuple")) aN))))) (e9 (b2 (v5 false) (bA fLen (aC (a9 .B 10) aN)) (mC (.int 0))))) (g6 (mC (.bl false))) sNx)
  (d8 (mIf (e9 (b2 (v5 false) (b2 fIx (a9 .B 10) (mC (.int 0))) (mC (.str "all")))) (g6 (bA W8 (aC (b2 fIx (a9 .B 10) (mC (.int 1))) (aC (a9 .B 8) (aC (a9 .B 2) (aC (a9 .B 9) aN)))))) sNx)
  (d8 (mIf (e9 (b2 (v5 false) (b2 fIx (a9 .B 10) (mC (.int 0))) (mC (.str "lift")))) (fL 9 (g6 (Q9 (bA T9 (aC (a9 .V 10) (aC (a9 .V 8) (aC (a9 .V 9) (aC (b2 (fI aG gMz) (bA m7 (aC (a9 .B 0) (aC (mC (.int 5)) aN))) (b2 (fI dZ nS) (mC (.int 10)) (mC (.int 40)))) aN)))))))) sNx)
  (d8 (mIf (e9 (b2 (v5 false) (b2 fIx (a9 .B 10) (mC (.int 0))) (mC (.str "weights")))) (g6 (bA M0 (aC (b2 fIx (a9 .B 10) (mC (.int 1))) (aC (a9 .B 8) (aC (a9 .B 9) aN))))) sNx)
  (g6 (b2 (fEq false) (a9 .B 10) (v7 (aC (mC (.str "open")) aN)))))))))))))))))))
abbrev lr:List W->R W:=i3 1 11 Bm
end K96
set_option maxHeartbeats 4000000
open PySem L2 TP
namespace K96
abbrev ZX (N:Nat)(ρ:Rho)(mg:W→Rho→Option Rho)(x:W)(p:Rho→Prop):Prop:=∃O,mg x (ρ++List.replicate (N-ρ.length) Sl.un)=some O/\p O
def rp14:=Z1 (@IA) (Z1 (@Iz) (Z1 (@Iy) (Z1 (@Ix) (Z1 (@Ie) (Z1 (@Iu) (Z1 (@Ip) (Z1 (@Iq) (Z1 (@Ik) (Z1 (@Il) (Z1 (@Iv) (Z1 (@Iw) (Z1 (@Ih) (@Ij)))))))))))))
def rp15:=Z1 (@Bool.not_true) (Z1 (@Bool.not_false) (Z1 (@Bool.true_or) (Z1 (@Bool.or_true) (Z1 (@Bool.false_or) (Z1 (@Bool.or_false) (Z1 (@Bool.true_and) (Z1 (@Bool.and_true) (Z1 (@qU5) (Z1 (@Bool.and_false) (Z1 (@Int.sub_zero) (Z1 (@Int.zero_add) (Z1 (@qD8) (Z1 (@qE7) (Z1 (@Bool.true_eq_false) (Z1 (@and_true) (Z1 (@true_and) (Z1 (@or_true) (Z1 (@true_or) (@and_self)))))))))))))))))))
def rp18:=Z1 (@qB9.{0}) (Z1 (@qL7.{0}) (Z1 (@qA4.{0,0}) (Z1 (@qB8.{0}) (Z1 (@qF1.{0}) (@qE2)))))
def rp16:=Z1 rp14 (Z1 rp15 (Z1 rp13 (Z1 rp12 (Z1 rp11 (Z1 rp10 (Z1 rp9 (Z1 rp8 (Z1 rp0 (Z1 rp1 (Z1 rp2 (Z1 rp3 (Z1 rp4 (Z1 rp5 (Z1 rp6 rp7))))))))))))))
def rp17:=Z1 (@qE1.{0,0}) (Z1 (@qK6.{0,0}) (Z1 (@qK1.{0}) (Z1 (@List.replicate_zero.{0}) (Z1 (@List.cons_append.{0}) (Z1 (@List.nil_append.{0}) (Z1 (@qG0.{0}) (Z1 (@R.ok_bind) (Z1 (@R.stuck_bind) (@R.ex_bind)))))))))
def rp19:=Z1 (@qP9.{0}) (Z1 (@Option.isNone_none.{0}) (Z1 (@Option.isNone_some.{0}) (Z1 (@Option.bind_some.{0,0}) (Z1 (@qN8.{1}) (Z1 (@qO2.{1}) (Z1 (@decide_true) (@decide_false)))))))
def Lr m a:nb m a=nbR (m a):=rfl
def HL a:nbR (.ok (.nx a))=.ok (.nx a):=rfl
def Cj a:sd a=.ok (.bk a):=rfl
def GE q ws:rdS .B (some (.iop q ws))=.ok (.lst ws):=rfl
def GD q ws:rdS .U (some (.iop q ws))=.ok (.lst ws):=rfl
def ioS (o:Option Sl) (f:W->List W->List W->R Zz) (r1:R W) (rr:R Zz) (i:Nat) (a:Rho):R Fl:=match o with
 |some (.own cs)=>r1>>=λw1=>rr>>=λwr=>f w1 cs wr>>=λO=>.ok (.nx (a.set i (.own O)))
 |_=>.stuck
def HS i f O mr a:mIO i f O mr a=ioS (a[i]?) f (O a) (mr a) i a:=rfl
def II cs f w1 wr i a:ioS (some (.own cs)) f (.ok w1) (.ok wr) i a=f w1 cs wr>>=λO=>.ok (.nx (a.set i (.own O))):=rfl
def Lf (h:Po r P λ_=>False):Po (nbR r) P Q:=by
 cases r with
 | ok f=>
  cases f with
  |nx a=>show h
  |rt w=>show h.elim
  |bk a=>show h
  |ct a=>show h
 |ex e=>show h
 |stuck=>show h
def zH (h1:a[i]?=some (.iop p ws)) (hm:m a=.ok w) (O:ws.length<1000):eK p i m a=.ok (.nx (appI i p (ws ++ [w]) a)):=by
 unfold eK;rw[h1];dsimp;rw[hm,R.ok_bind,qA2 ⟨rfl,O⟩]
def rpio:=Z1 (@Lr) (Z1 (@HL) (Z1 (@Cj) (Z1 (@GE) (Z1 (@GD) (Z1 (@HS) (@II))))))
noncomputable def cW (r:R Fl):R Fl:=match r with
 | .ok (.ct a)=>.ok (.nx a)
 |r=>r
def pJ a:cW (.ok (.nx a))=.ok (.nx a):=rfl
def pK a:cW (.ok (.ct a))=.ok (.nx a):=rfl
def pI w:cW (.ok (.rt w))=.ok (.rt w):=rfl
def gQ (I:Nat->Rho->Prop):∀(ws:Zz) k a,I k a ->
  (∀ i w a,ws[i]?=some w->I (k+i) a->∃a0,mg w a=some a0/\Po (cW (mb a0)) (I (k+i+1)) Jr)->Po (N7 mg mb ws a) (I (k+ws.length)) Jr
 | [],k,a,h,_=>h
 | w::ws,k,a,h,st=>by
  obtain ⟨a0,e1,p⟩:=st 0 w a rfl h;unfold N7;rw[e1]
  change Po (mb a0>>=_) ..;have go:∀O,_->Po _ (I (k+(w::ws).length)) Jr:=λO p=>by
   have:=gQ (mb:=mb) I ws (k+1) O p λi w a hw hp=>by
    have:=st (i+1) w a (by simpa using hw) ox
    rw[show k+_+1=k+1+i+1 by omega]at this;omega
   rw[qB9,show k+_=k+1+ws.length by omega];show this
  revert p
  cases mb a0 with
  |ex _=>show λp=>p.elim
  |stuck=>show λp=>p.elim
  | ok f=>cases f with
   |bk _=>show λp=>p.elim
   |ct O=>show λp=>go O p
   |rt w=>show λp=>p
   |nx O=>show λp=>go O p
def yX (I:Nat->Rho->Prop) (h0:I 0 a) (st:∀ i w a,ws[i]?=some w->I i a->∃O,mg w a=some O/\Po (cW (mb O)) (I (i+1)) Jr) (hn:∀a,I ws.length a->Po (n a) Jn Jr):Po (andThen (N7 mg mb ws a) n) Jn Jr:=by
 have:=gQ (mb:=mb) I ws 0 a h0 λi w a hw hp=>by rw[qK7]at hp ⊢;show st i w a hw hp
 rw[qK7]at this;show P7 (this.mono hn λ_ h=>h)
def qf (h1:b=true->Po (cW (andThen (m a) k)) Jn Jr) (O:b=false->Po (cW (andThen (n a) k)) Jn Jr):Po (cW (andThen (ifS (.ok b) m n a) k)) Jn Jr:=by
 cases b with
 |true=>show h1 rfl
 |false=>show O rfl
def BD (ns:VW)l u:Rst (.ok (.tup (ns.map W.int))) (.ok l) (.ok u)=.ok (.tup (L3 (ns.map W.int) l u)):=KA (D2 ns) l u
def IK (o:Option Sl) (r:R W) (i:Nat) (a:Rho):R Fl:=match o with
 |some (.own ws)=>r>>=λw=>if ws.length<1000 then .ok (.nx (a.set i (.own (w::ws)))) else .stuck
 |_=>.stuck
def qA i m a:mIns i m a=IK (a[i]?) (m a) i a:=rfl
def wL {ws}{w}{i}{a}(h:ws.length<1000):IK (some (.own ws)) (.ok w) i a=.ok (.nx (a.set i (.own (w::ws)))):=qA2 h
def rpZ:=Z1 rp19 (Z1 rp16 (Z1 rp17 (Z1 rp18 (Z1 @qA (Z1 @wL (Z1 @vX (Z1 @U9 (Z1 @bp (Z1 @qQ (Z1 @qB (Z1 @xB (Z1 @pE (Z1 @BD (Z1 @oI (Z1 @wn (Z1 @qP (Z1 @wo (Z1 @wM (Z1 @nG (Z1 @ge (Z1 @pJ (Z1 @pK (Z1 @pI (Z1 rpio (@qW3)))))))))))))))))))))))))
def rpB:=Z1 (@Gg) (Z1 (@Gf) (Z1 (@Ge) (Z1 (@Gc) (@Gb))))
local macro_rules | `(tactic| exists $[$es],*)=>`(tactic| simp (disch:=first | with_reducible assumption | omega | (simp only [rp18]; omega)) only [List.getElem?_cons_zero,qZ4,List.set_cons_succ,List.set_cons_zero,tyW,isN,simprocAttr,rpZ,$[$es:term],*])
abbrev Mv:=List Int×List Int
noncomputable abbrev mW (m:Mv):W:=.tup [tI m.1,tI m.2]
noncomputable abbrev lS (ss:VV):W:=.lst (ss.map tI)
noncomputable abbrev tM_ (ms:List Mv):W:=.tup (ms.map mW)
def qt {ms:List Mv}{i:Nat}(h:(ms.map mW)[i]?=some w):∃m,m∈ms/\ms[i]?=some m/\w=mW m:=by
 rw[qA9]at h;cases q:ms[i]? with
 |none=>rw[q]at h;cases h
 |some m=>rw[q]at h;cases h;show ⟨m,qD7 q,rfl,rfl⟩
def memD {ns:VW}{P:Int->Prop}(h:∀x∈ns,P x){i:Nat}(hi:i<ns.length):P (ns.getD i 0):=mem_getD h hi
def nn (xs:VW):Prop:=∀x∈xs,0<=x
def okN (n:Nat)(m:Mv):Prop:=m.1.length=n/\m.2.length=n/\nn m.1/\nn m.2
def T6 (h:nn xs) k:0<=xs.getD k 0:=by
 by_cases hk:k<xs.length
 .show memD h hk
 .simp [hk]
def atM {ms:List Mv}{r:Int}(h0:0<=r) (O:r<ms.length):L2.atI (ms.map mW) r=some (mW (ms.getD r.toNat ([],[]))):=by
 unfold L2.atI;rw[bv h0 (by rw[qA4];show O)]
 change _[r.toNat]?=_;have hi:r.toNat<ms.length:=ox;simp [hi]
def getM {ms:List Mv}(hm:∀m∈ms,okN n m) (O:i<ms.length):okN n (ms.getD i ([],[])):=by
 grind
noncomputable def n5 (a b:VW):Bool:=(List.range a.length).all λk=>decide (b.getD k 0<=a.getD k 0)
def BA (hi:i<a.length) (h:a.getD i 0<b.getD i 0):n5 a b=false:=by
 grind[n5]
def U1 (h:∀k,k<a.length->b.getD k 0<=a.getD k 0):n5 a b=true:=by
 grind[n5]
def aD (hl:b.length=a.length):O1 [tI a,tI b]=.ok (.bl (n5 a b)):=by
 have fin:Ok (O1 [tI a,tI b]) λv=>v=.bl (n5 a b):=by
  have hz:=J9 (tI a) (tI b) _ _ rfl rfl;rw[O3 hl]at hz;exists rpB,nA,hz;refine o5 (o6 (λi c=>∃u v,c = [_,_,u,v]/\∀k,k<i->b.getD k 0<=a.getD k 0) ⟨_,_,rfl,λk hk=>absurd hk (qD4 _)⟩ ?_ ?_)
  .rintro i u c hu ⟨_,_,rfl,O⟩;obtain ⟨hi,rfl⟩:=mD hu;refine ⟨_,rfl,?_⟩;refine W3 (λh=>?_) (λh=>?_)
   .exists rp18;rw[BA hi (by simpa using h)]
   .refine ⟨_,_,rfl,λk hk=>?_⟩;by_cases e:k=i
    .subst e;simpa using h
    .show O k ox
  .rintro c ⟨_,_,rfl,O⟩;rw[qA4,qE2]at O;exists rp18;rw[U1 O]
 obtain ⟨v,e,rfl⟩:=fin;show e
def rF (h:m.1.length=s.length):iu [tI s,mW m]=.ok (.bl (n5 s m.1)):=by
 have O:L2.atI [_,tI m.2] 0=some (tI m.1):=rfl;have k:=aD (b:=m.1) h;exists rpB,wj,O,k
def aE (h6:n<=6) (h:okN n m):R8 [mW m]=.ok (tI ((List.range n).map λk=>m.2.getD k 0-m.1.getD k 0)):=by
 have a0:L2.atI [_,tI m.2] 0=some (tI m.1):=rfl;have a1:L2.atI [tI m.1,_] 1=some (tI m.2):=rfl;have hz:=J9 (tI m.1) (tI m.2) _ _ rfl rfl;rw[O3 (by rw[h.1,h.2.1]),h.1]at hz;exists rpB,nC,a0,a1,hz;have e:∀N mg me a (h:∀k,k<n->∃O,_=_/\me O=_),j6 N mg yes me ((List.range n).map λk=>W.tup [.int (m.1.getD k 0),.int (m.2.getD k 0)]) a=_:=λN mg me a h=>by
  rw[i4 (λk=>.int (m.2.getD k 0-m.1.getD k 0)) _ _ a (by simpa using ox) (λk hk=>h k (by simpa using hk)),D9]
 rw[e]
 .exists rp18
 .intro k hk;refine ⟨_,rfl,?_⟩;exists rp18
def Kw (s:VW):(List.range s.length).map (λk=>s.getD k 0)=s:=by
 apply qF4
 .simp
 .intro i h1 O;simp [O]
def xA (h6:n<=6) (h:okN n m) (hs:s.length=n) (hc:n5 s m.1=true):jx [tI s,mW m]=.ok (tI ((List.range n).map λk=>s.getD k 0+(m.2.getD k 0-m.1.getD k 0))):=by
 have k1:=rF (m:=m) (by rw[hs,h.1]);rw[hc]at k1;have k2:=aE h6 h;have hz:=J9 (tI s) (tI ((List.range n).map λk=>m.2.getD k 0-m.1.getD k 0)) _ _ rfl rfl;rw[O3 (by simp [hs]),hs]at hz;exists rpB,qy,k1,k2,hz;have e:∀N mg me a (h:∀k,k<n->∃O,_=_/\me O=_),j6 N mg yes me ((List.range n).map λk=>W.tup [.int (s.getD k 0),.int (((List.range n).map λk=>m.2.getD k 0-m.1.getD k 0).getD k 0)]) a=_:=λN mg me a h=>by
  rw[i4 (λk=>.int (s.getD k 0+(m.2.getD k 0-m.1.getD k 0))) _ _ a (by simpa using ox) (λk hk=>h k (by simpa using hk)),D9]
 rw[e]
 .exists rp18
 .intro k hk;refine ⟨_,rfl,?_⟩;exists rp18;rw[j8 hk]
noncomputable def y8 (s:VW)(m:Mv):List Int:=(List.range s.length).map λk=>s.getD k 0+(m.2.getD k 0-m.1.getD k 0)
def S4 s m:(y8 s m).length=s.length:=by simp [y8]
abbrev Ent:=List Int×Nat×Nat
noncomputable abbrev eW (e:Ent):W:=.tup [tI e.1,.int (e.2.1:Int),.int (e.2.2:Int)]
noncomputable abbrev r0 (b:VW):W:=.tup [tI b,.non,.non]
noncomputable abbrev r9 (b:VW)(es:List Ent):Zz:=r0 b::es.map eW
noncomputable def stS (b:VW)(es:List Ent):List VW:=b::es.map (·.1)
noncomputable def cd (e:Ent):Nat:=e.2.1*8+e.2.2
noncomputable def mvN (ms:List Mv)(k:Nat):Mv:=ms.getD k ([],[])
noncomputable def sA (b:VW)(es:List Ent)(a:Nat):List Int:=(stS b es).getD a []
def O5 b es:(stS b es).length=es.length+1:=by simp [stS]
def pU (h:a<es.length+1):sA b (es ++ [e]) a=sA b es a:=by
 grind[sA,stS]
def uT (h:a<es.length+1):sA b es a∈stS b es:=by
 unfold sA;rw[qA3,qA5 (by rw[O5];show h)];show qI1 _
noncomputable def abN (b:VW)(ms:List Mv)(es:List Ent)(a k:Nat):Bool:=n5 (sA b es a) (mvN ms k).1
noncomputable def bhN (b:VW)(ms:List Mv)(es:List Ent)(a k:Nat):List Int:=y8 (sA b es a) (mvN ms k)
structure FlK (b:VW) (ms:List Mv) (es:List Ent) (A:Nat) (T:Zq):Prop where
 len:∀e∈es,e.1.length=b.length
 k8:∀e∈es,e.2.2<ms.length
 lt:∀e∈es,e.2.1<A\/(e.2.1=A/\e.2.2∈T)
 inc:es.Pairwise λx y=>cd x<cd y
 par:∀(i:Nat) (e:Ent),es[i]?=some e->e.2.1<=i
 beh:∀e∈es,abN b ms es e.2.1 e.2.2=true/\e.1=bhN b ms es e.2.1 e.2.2
 nod:(stS b es).Nodup
 cl:∀t∈T,∀k,k<t->abN b ms es A k=true->k∈T
 set:∀a k,a<A\/(a=A/\k∈T)->k<ms.length->abN b ms es a k=true->(∃e∈es,e.2=(a,k))\/bhN b ms es a k=b\/∃e∈es,cd e<a*8+k/\e.1=bhN b ms es a k
theorem FlK.start b ms:FlK b ms [] 0 [] where
 len:=ZZ
 k8:=ZZ
 lt:=ZZ
 inc:=List.Pairwise.nil
 par:=ZZ
 beh:=ZZ
 nod:=by simp [stS]
 cl:=ZZ
 set:=λa k h=>by simp at h
def FlK.below (h:FlK b ms es A T) (h8:ms.length<=8) (hT:∀t∈T,t<k):∀e∈es,cd e<A*8+k:=λe O=>by
 have:=h.k8 e O
 unfold cd;rcases h.lt e O with q|⟨q,q'⟩
 .omega
 .have:=hT _ q';omega
def FlK.known (h:FlK b ms es A T) (h8:ms.length<=8) (hT:∀t∈T,t<k) (a4:∀j,j<k->abN b ms es A j=true->j∈T) (a3:bhN b ms es A k∈stS b es):FlK b ms es A (T ++ [k]) where
 len:=h.len
 k8:=h.k8
 lt:=λe he=>by
  rcases h.lt e he with q|⟨q,q'⟩
  .show .inl q
  .show .inr ⟨q,qG6 _ q'⟩
 inc:=h.inc
 par:=h.par
 beh:=h.beh
 nod:=h.nod
 cl:=λt ht j hj O=>by
  grind
 set:=λa j hj a0 O=>by
  rcases hj with q|⟨q,q'⟩
  .show h.set a j (.inl q) a0 O
  .rcases qF0.mp q' with q2|q2
   .show h.set a j (.inr ⟨q,q2⟩) a0 O
   .have ek:=qC5.mp q2;subst q ek;rcases qC4.mp a3 with e|e
    .show .inr (.inl e)
    .obtain ⟨x,hx,ex⟩:=qB1.mp e;show .inr (.inr ⟨x,hx,h.below h8 hT x hx,ex⟩)
def FlK.snoc (h:FlK b ms es A T) (h8:ms.length<=8) (hA:A<es.length+1) (hk:k<ms.length) (hT:∀t∈T,t<k) (b3:∀j,j<k->abN b ms es A j=true->j∈T) (a7:abN b ms es A k=true) (b0:(bhN b ms es A k).length=b.length) (a4:bhN b ms es A k∉stS b es):FlK b ms (es ++ [(bhN b ms es A k,A,k)]) A (T ++ [k]):=by
 have hS:∀a j,a<es.length+1->abN b ms (es ++ [(bhN b ms es A k,A,k)]) a j=abN b ms es a j/\bhN b ms (es ++ [(bhN b ms es A k,A,k)]) a j=_:=λa j ha=>by
  unfold abN bhN;rw[pU ha];show ⟨rfl,rfl⟩
 have a3:∀e∈es,e.2.1<es.length+1:=λe O=>by
  obtain ⟨i,hi,ei⟩:=qF2.mp O
  have:=h.par i e (by rw[qA5 hi,ei])
  omega
 refine ⟨λe O=>?_,λe O=>?_,λe O=>?_,?_,λi e O=>?_,λe O=>?_,?_,λt ht j hj a0=>?_,λa j hj ab a0=>?_⟩
 .rcases qF0.mp O with q|q
  .show h.len e q
  grind
 .rcases qF0.mp O with q|q
  .show h.k8 e q
  .rw[qC5.mp q];show hk
 .rcases qF0.mp O with q|q
  .rcases h.lt e q with q1|⟨q1,q2⟩
   .show .inl q1
   .show .inr ⟨q1,qG6 _ q2⟩
  .rw[qC5.mp q];show .inr ⟨rfl,ZZ⟩
 .refine qU1.mpr ⟨h.inc,qR7 _ _,λx hx y hy=>?_⟩;rw[qC5.mp hy];show h.below h8 hT x hx
 .by_cases hi:i<es.length
  .rw [qE8 hi]at O
   show h.par i e O
  .have a6:=(qA7.mp O).1;rw[qB8,qE6]at a6
   have:i=es.length:=ox
   subst this;rw[qH9 (qB3 _),Nat.sub_self]at O;cases O
   change A<=es.length;omega
 .rcases qF0.mp O with q|q
  .rw[(hS _ _ (a3 e q)).1,(hS _ _ (a3 e q)).2];show h.beh e q
  .rw [qC5.mp q]
   rw[(hS A k hA).1,(hS A k hA).2];show ⟨a7,rfl⟩
 .unfold stS;rw[qC7,<- List.cons_append];refine List.nodup_append.mpr ⟨h.nod,ZZ,λx hx y hy=>?_⟩;rw[List.map_singleton,qC5]at hy;subst hy;intro e;have e:x=bhN b ms es A k:=e;rw[e]at hx;show a4 hx
 .grind
 .have ha:a<es.length+1:=by
   rcases hj with q|⟨q,_⟩
   .omega
   .omega
  rw[(hS a j ha).1]at a0;rw[(hS a j ha).2];have a5:(a<A\/(a=A/\j∈T))->(∃e∈es ++ [(bhN b ms es A k,A,k)],e.2=(a,j))\/bhN b ms es a j=b\/∃e∈es ++ [(bhN b ms es A k,A,k)],cd e<a*8+j/\e.1=bhN b ms es a j:=λhj=>by
   rcases h.set a j hj ab a0 with ⟨e,O,q⟩|q|⟨e,O,q⟩
   .show .inl ⟨e,qG6 _ O,q⟩
   .show .inr (.inl q)
   .show .inr (.inr ⟨e,qG6 _ O,q⟩)
  rcases hj with q|⟨q,q'⟩
  .show a5 (.inl q)
  .rcases qF0.mp q' with q2|q2
   .show a5 (.inr ⟨q,q2⟩)
   .have ek:=qC5.mp q2;subst q ek;show .inl ⟨_,qD5 _ (qZ5 _),rfl⟩
def FlK.next (h:FlK b ms es A T) (hT:∀k,k<ms.length->abN b ms es A k=true->k∈T):FlK b ms es (A+1) [] where
 len:=h.len
 k8:=h.k8
 lt:=λe he=>by
  rcases h.lt e he with q|⟨q,q'⟩
  .show .inl ox
  .show .inl ox
 inc:=h.inc
 par:=h.par
 beh:=h.beh
 nod:=h.nod
 cl:=ZZ
 set:=λa k hj hk O=>by
  rcases hj with q|⟨_,q⟩
  .by_cases e:a=A
   .subst e;show h.set a k (.inr ⟨rfl,hT k hk O⟩) hk O
   .show h.set a k (.inl ox) hk O
  .simp at q
noncomputable def fsN (ms:List Mv)(s:VW):List Nat:=(List.range ms.length).filter λk=>n5 s (mvN ms k).1
def wS (ms:List Mv)s:(fsN ms s).Pairwise (·<·):=List.Pairwise.filter _ List.pairwise_lt_range
def fs_mem:k∈fsN ms s↔k<ms.length/\n5 s (mvN ms k).1=true:=by
 unfold fsN;rw[qP1,qH6]
def BV {l:Zq}(h:l.Pairwise (·<·)) (hi:i<l.length):∀t∈l.take i,t<l[i]:=λt O=>by
 obtain ⟨j,hj,e⟩:=qF2.mp O;rw[qI0]at hj;rw[qM5]at e;subst e;show qF9.mp h j i _ hi ox
def DE {l:Zq}(h:l.Pairwise (·<·)) (hi:i<l.length) (O:t∈l) (a3:t<l[i]):t∈l.take i:=by
 obtain ⟨j,hj,e⟩:=qF2.mp O;subst e;have a0:j<i:=by
  rcases qW4 j i with q|q|q
  .show q
  .omega
  .have:=qF9.mp h i j hi hj q;omega
 show qF2.mpr ⟨j,by rw[qI0];omega,by rw[qM5]⟩
def Eu ms:((ms.map mW).mapIdx λi x=>W.tup [.int i,x])=(List.range ms.length).map λ(k:Nat)=>W.tup [.int k,mW (mvN ms k)]:=by
 apply qF4
 .simp
 .intro i O h2;have hi:i<ms.length:=by simpa using O
  simp [mvN,qA5 hi]
def EM (h6:s.length<=6) (hm:∀m∈ms,okN s.length m) (hl:ms.length<=8):Q6 [.tup [tI b,tM_ ms],tI s]=.ok (.lst ((fsN ms s).map λk=>W.tup [tI (y8 s (mvN ms k)),.int k])):=by
 have a1:L2.atI [tI b,_] 1=some (tM_ ms):=rfl;have he:O2 [tM_ ms]=.ok ((List.range ms.length).map λ(k:Nat)=>W.tup [.int k,mW (mvN ms k)]):=by rw[<- Eu];rfl
 exists rpB,av,a1,he;have e:∀N mg mc me a,(∀k,k<ms.length->∃a0,_=_/\mc a0=_/\_) ->
   j6 N mg mc me ((List.range ms.length).map λ(k:Nat)=>W.tup [.int (k:Int),mW (mvN ms k)]) a=.ok (.lst ((fsN ms s).map λ(k:Nat)=>W.tup [tI (y8 s (mvN ms k)),.int (k:Int)])):=λN mg mc me a h=>
  E9 (N':=N) (mg:=mg) (mc:=mc) (me:=me) (λk=>W.tup [tI (y8 s (mvN ms k)),.int (k:Int)]) (λk=>W.tup [.int (k:Int),mW (mvN ms k)]) (λk=>n5 s (mvN ms k).1) (List.range ms.length) a (by rw[qE2];omega) λk hk=>h k (qH6.mp hk)
 rw[e]
 .exists rp18
 .intro k hk;have O:okN s.length (mvN ms k):=getM hm hk;generalize mvN ms k=m at O
  have k1:=rF (s:=s) (m:=m) (by rw[O.1]);refine ⟨_,rfl,?_,λhc=>?_⟩
  .exists k1
  .have k2:=xA h6 O rfl hc;have k3:(List.range s.length).map (λk=>s.getD k 0+(m.2.getD k 0-m.1.getD k 0))=y8 s m:=rfl;rw[k3]at k2;exists k2,A4 (Z0 (y8 s m))
def MD (b:VW) (ms:List Mv) (most:Nat) (es:List Ent) (wh:Bool):Prop:=
 es.length+1<=most/\((wh=true/\FlK b ms es (es.length+1) []) \/
  (wh=false/\es.length+1=most/\∃A T k,FlK b ms es A T/\A<es.length+1/\k<ms.length/\(∀t∈T,t<k)/\abN b ms es A k=true/\bhN b ms es A k∉stS b es))
def AN (h:k∉ks):oO ks k=ks ++ [k]:=qA8 h
def iT {es:List Ent}(h:a<es.length+1):∃x y:W,L2.atI (r9 b es) a=some (.tup [tI (sA b es a),x,y]):=by
 cases a with
 |zero=>show ⟨_,_,A5 rfl⟩
 | succ a=>
  have ha:a<es.length:=ox;have O:(r9 b es)[a+1]?=some (eW es[a]):=by simp [ha]
  have e2:sA b es (a+1)=es[a].1:=by
   unfold sA stS;simp [ha]
  rw[e2];show ⟨_,_,A5 O⟩
def Ak {most:Nat}(h6:b.length<=6) (hm:∀m∈ms,okN b.length m) (hl:ms.length<=8) (h1:1<=most) (cy:most<=100):Ok (eP [.tup [tI b,tM_ ms],.int most]) λw=>∃(es:List Ent) (wh:Bool),w=.tup [.lst (r9 b es),.bl wh]/\MD b ms most es wh:=by
 have a0:L2.atI [_,tM_ ms] 0=some (tI b):=rfl;exists rpB,qx,a0,A4 _,zG,Di;refine o5 (P7 ?_);refine R6 (λm a=>∃(es:_) (at_:Nat) (a5 a6 a7:Sl),a = [_,_,.own (r9 b es),.dic (stS b es),.val (.int at_),a5,a6,a7]/\cj a5=false/\cj a6=false/\cj a7=false/\FlK b ms es at_ []/\at_<=es.length+1/\es.length+1<=most/\m+at_=102) ?_ 102 _ ⟨[],0,.un,.un,.un,rfl,rfl,rfl,rfl,FlK.start b ms,ox,by simpa using h1,rfl⟩;rintro m a ⟨es,at_,a5,a6,a7,rfl,d5,d6,d7,hK,cv,c1,cp⟩;by_cases b6:at_<es.length+1
 .refine ⟨true,?_,?_⟩
  .exists rp18;rw[qN4 ox]
  obtain ⟨x,y,er⟩:=iT (b:=b) b6;have c5:(sA b es at_).length=b.length:=by
   have:=uT (b:=b) (es:=es) b6
   unfold stS at this;rcases qC4.mp this with e|e
   .rw[e]
   .obtain ⟨z,hz,ez⟩:=qB1.mp e;rw[<- ez];show hK.len z hz
  have kb:=EM (b:=b) (s:=sA b es at_) ox (by rw[c5];show hm) hl;have cn:L2.atI [tI (sA b es at_),x,y] 0=some (tI (sA b es at_)):=rfl;exists er,cn,kb;generalize hs:sA b es at_=s at *
  have d0:(fsN ms s).length<=8:=by
   have:=qK8 (λk=>n5 s (mvN ms k).1) (List.range ms.length)
   rw[qE2]at this;unfold fsN;omega
  refine yX (λi a=>∃(O:List Ent) (a6 a7:Sl),a = [.par (.tup [tI b,tM_ ms]),.par (.int (most:Int)),.own (r9 b O),.dic (stS b O),.val (.int (at_:Int)),.val (tI s),a6,a7]/\cj a6=false/\cj a7=false/\FlK b ms O at_ ((fsN ms s).take i)/\at_<O.length+1/\O.length+1<=most/\sA b O at_=s) ⟨es,a6,a7,rfl,d6,d7,hK,b6,c1,hs⟩ ?_ ?_
  .rintro i u a hu ⟨O,a6,a7,rfl,d6,d7,b3,a4,b0,ab⟩;rw[qA9]at hu;cases hq:(fsN ms s)[i]? with
   |none=>rw[hq]at hu;cases hu
   | some k=>
    rw[hq]at hu;cases hu;obtain ⟨hi,c3⟩:=qA7.mp hq;have c0:=fs_mem.mp (qD7 hq);have htk:(fsN ms s).take (i+1)=(fsN ms s).take i ++ [k]:=by rw[qU7,hq];rfl
    have hT:∀t∈(fsN ms s).take i,t<k:=λt ht=>by rw[<- c3];show BV (wS ms s) hi t ht
    have c4:∀j,j<k->abN b ms O at_ j=true->j∈(fsN ms s).take i:=λj hj a3=>by
     unfold abN at a3;rw[ab]at a3;show DE (wS ms s) hi (fs_mem.mpr ⟨ox,a3⟩) (by rw[c3];show hj)
    have a3:abN b ms O at_ k=true:=by unfold abN;rw[ab];show c0.2
    have b4:bhN b ms O at_ k=y8 s (mvN ms k):=by unfold bhN;rw[ab]
    have cc:(y8 s (mvN ms k)).length=b.length:=by rw[S4];show c5
    have b5:=ge (stS b O) (.bl true) (y8 s (mvN ms k)) 3 [.par (.tup [tI b,tM_ ms]),.par (.int (most:Int)),.own (r9 b O),.dic (stS b O),.val (.int (at_:Int)),.val (tI s),.par (tI (y8 s (mvN ms k))),.par (.int (k:Int))] rfl (by rw[O5];omega);dsimp only;generalize hB:y8 s (mvN ms k)=B at *
    refine ⟨_,rfl,?_⟩;exists rp18;refine qf (λh=>?_) (λh=>?_)
    .have h:=qN5 h;exists rp18;show ⟨O,_,_,rfl,rfl,rfl,by rw[htk];show b3.known hl hT c4 (by rw[b4];show h),a4,b0,ab⟩
    .have h:=qV4 h;rw[AN h]at b5;exists rp18;refine qf (λh2=>?_) (λh2=>?_)
     .have h2:=qN5 h2;exists rp18;show ⟨O,false,rfl,b0,.inr ⟨rfl,ox,at_,_,k,b3,a4,c0.1,hT,a3,by rw[b4];show h⟩⟩
     .have h2:=qV4 h2;exists b5,A4 (Z0 B);refine ⟨O ++ [(B,at_,k)],.par (tI B),.par (.int (k:Int)),?_,rfl,rfl,?_,?_,?_,?_⟩
      .simp [r9,stS]
      .rw [htk,<- b4]
       show b3.snoc hl a4 c0.1 hT c4 a3 (by rw[b4];show cc) (by rw[b4];show h)
      .rw[qB8];omega
      .rw[qB8,qE6];omega
      .rw[pU a4];show ab
  .rintro a ⟨O,a6,a7,rfl,d6,d7,b3,a4,b0,ab⟩;rw[qA4,qI2]at b3;exists rp18;refine ⟨m-1,ox,O,at_+1,_,_,_,rfl,rfl,d6,d7,b3.next λk hk a3=>fs_mem.mpr ⟨hk,?_⟩,ox,b0,ox⟩;unfold abN at a3;rw[ab]at a3;show a3
 .refine ⟨false,?_,?_⟩
  .exists rp18;rw[show decide ((at_:Int)<((es.length+1:Nat):Int))=false from qN3 ox]
  .rw [qA8 qC9]
   have e:at_=es.length+1:=ox;subst e;exists rp18;show ⟨es,true,rfl,c1,.inl ⟨rfl,hK⟩⟩
noncomputable def yz (b:VW):Option Ent->W
 |none=>r0 b
 |some e=>eW e
noncomputable def stO (b:VW):Option Ent->List Int
 |none=>b
 |some e=>e.1
def Gh b es:r9 b es=(none::es.map some).map (yz b):=by
 rw[qE1,qC0];rfl
def st_O b es:(none::es.map some).map (stO b)=stS b es:=by
 rw[qE1,qC0];rfl
inductive Pt (es:List Ent):Nat->List Int->List Int->Prop where
 |zero:Pt es 0 [0] []
 |succ {i:Nat}{e:Ent}{l r:VW}:es[i]?=some e->Pt es e.2.1 l r->Pt es (i+1) (((i+1:Nat):Int)::l) (r ++ [(e.2.2:Int)])
def Pt.ex (hp:∀ i (e:Ent),es[i]?=some e->e.2.1<=i):∀n,n<=es.length->∃l r,Pt es n l r:=by
 intro n
 induction n using Nat.strongRecOn with
 | _ n O=>
  intro hn;cases n with
  |zero=>show ⟨_,_,.zero⟩
  | succ i=>
   have hi:es[i]?=_:=qA5 ox
   have:=hp i _ hi
   obtain ⟨l,r,p⟩:=O es[i].2.1 ox ox;show ⟨_,_,.succ hi p⟩
def Pt.len (O:∀ i (e:Ent),es[i]?=some e->e.2.1<=i):∀{n}{l r:VW},Pt es n l r->l.length=r.length+1/\r.length<=n
 |_,_,_,.zero=>⟨rfl,qB3 _⟩
 | _,_,_,.succ h p=>by
  have:=Pt.len O p
  have:=O _ _ h
  rw[qB9,qB8,qE6];omega
noncomputable def ru (ms:List Mv)(b r:VW):List Int:=r.foldl (λs k=>y8 s (mvN ms k.toNat)) b
def FZ (h:es[i]?=some e):sA b es (i+1)=e.1:=by
 grind[sA,stS]
def pX (h:es[i]?=some e):L2.atI (r9 b es) ((i+1:Nat))=some (eW e):=A5 (by change (es.map eW)[i]?=_;rw[qA9,h];rfl)
def pC (hp:∀ i (e:Ent),es[i]?=some e->e.2.1<=i) (hl:es.length<=100) (hn:n<=es.length) (p:Pt es n l r):D3 [.lst (r9 b es),.int n]=.ok (lI l):=by
 have fin:Ok (D3 [.lst (r9 b es),.int n]) λv=>v=lI l:=by
  have a5:=(Pt.len hp p).1;have a6:=(Pt.len hp p).2;exists rpB,ca;refine o5 (P7 ?_);refine R6 (λm a=>∃(xs l':_) (w:W) (a3:Sl),a = [_,_,.own (xs.map W.int),a3]/\(a3=.val w\/a3=.par w)/\xs++l'=l/\(w=.non/\l' = []\/∃(n':Nat) (r':_),w=.int n'/\Pt es n' l' r'/\n'<m)) ?_ _ _ ⟨[],l,_,_,rfl,.inl rfl,rfl,.inr ⟨n,r,rfl,p,qC8 n⟩⟩;rintro m a ⟨xs,l',w,a3,rfl,ha,hx,hc⟩;rcases hc with ⟨rfl,rfl⟩|⟨n',r',rfl,p',hm⟩
  .refine ⟨false,?_,?_⟩
   .rcases ha with rfl|rfl
    .exists rp18
    .exists rp18
   .rw [qA8 qC9]
    rw[qG0]at hx;subst hx;exists rp18
  .refine ⟨true,?_,?_⟩
   .rcases ha with rfl|rfl
    .exists rp18
    .exists rp18
   .rw [qA2 rfl]
    have ab:xs.length<=l.length:=by rw[<- hx,qB8];omega
    cases p' with
    | zero=>
     have O:L2.atI (r9 b es) (((0:Nat)):Int)=some (r0 b):=A5 (k:=0) rfl;have a0:L2.atI (r9 b es) 0=some (r0 b):=O;have b1:L2.atI [tI b,W.non,W.non] 1=some W.non:=rfl;rcases ha with rfl|rfl
     .exists O,a0,b1;show ⟨0,ox,xs ++ [0],[],.non,_,by rw[qC7],.inr rfl,by simpa using hx,.inl ⟨rfl,rfl⟩⟩
     .exists O,a0,b1;show ⟨0,ox,xs ++ [0],[],.non,_,by rw[qC7],.inr rfl,by simpa using hx,.inl ⟨rfl,rfl⟩⟩
    | @succ i e l2 r2 h p2=>
     have r1:=pX (b:=b) h;have b1:L2.atI [tI e.1,.int (e.2.1:Int),.int (e.2.2:Int)] 1=some (.int (e.2.1:Int)):=rfl;have a7:=hp i e h;have a4:(xs ++ [((i+1:Nat):Int)])++l2=l:=by rw[<- hx];simp
     rcases ha with rfl|rfl
     .exists r1,b1;show ⟨i+1,ox,xs ++ [((i+1:Nat):Int)],l2,.int (e.2.1:Int),_,by rw[qC7],.inr rfl,a4,.inr ⟨e.2.1,r2,rfl,p2,ox⟩⟩
     .exists r1,b1;show ⟨i+1,ox,xs ++ [((i+1:Nat):Int)],l2,.int (e.2.1:Int),_,by rw[qC7],.inr rfl,a4,.inr ⟨e.2.1,r2,rfl,p2,ox⟩⟩
 obtain ⟨v,e,rfl⟩:=fin;show e
noncomputable def P2 (a b:Vx):Bool:=match b with
 |none=>true
 | some y=>match a with
  |none=>false
  |some x=>decide (x<=y)
noncomputable def i9 (cs ds:Vw):Bool:=(List.range cs.length).all λk=>P2 (cs.getD k none) (ds.getD k none)
noncomputable abbrev tC (cs:Vw):W:=.tup (cs.map oW)
noncomputable abbrev lC (cs:Vw):W:=.lst (cs.map oW)
def KI (hi:i<cs.length) (h:P2 (cs.getD i none) (ds.getD i none)=false):i9 cs ds=false:=by
 grind[i9]
def gq (h:∀k,k<cs.length->P2 (cs.getD k none) (ds.getD k none)=true):i9 cs ds=true:=by
 grind[i9]
def fF (hl:ds.length=cs.length):X6 [tC cs,tC ds]=.ok (.bl (i9 cs ds)):=by
 have fin:Ok (X6 [tC cs,tC ds]) λv=>v=.bl (i9 cs ds):=by
  have hz:=J9 (tC cs) (tC ds) _ _ rfl rfl;rw[iG oW oW hl none none]at hz;exists rpB,qu,hz;refine o5 (o6 (λi c=>∃a b,c = [.par (tC cs),.par (tC ds),a,b]/\∀k,k<i->P2 (cs.getD k none) (ds.getD k none)=true) ⟨_,_,rfl,λk hk=>absurd hk (qD4 _)⟩ ?_ ?_)
  .rintro i u c hu ⟨a,b,rfl,O⟩;obtain ⟨hi,rfl⟩:=mD hu;refine ⟨_,rfl,?_⟩;have key:P2 (cs.getD i none) (ds.getD i none)=true->∀k,k<i+1->P2 (cs.getD k none) (ds.getD k none)=true:=λh k hk=>by
    by_cases e:k=i
    .subst e;show h
    .show O k ox
   have a0:=KI (ds:=ds) hi
   revert key a0
   cases hd:ds.getD i none with
   | none=>
    intro key a0;exists rp18;show ⟨_,_,rfl,key rfl⟩
   | some y=>
    cases hc:cs.getD i none with
    | none=>
     intro key a0;exists rp18;rw[a0 rfl]
    | some x=>
     intro key a0;exists rp18;refine W3 (λh=>?_) (λh=>?_)
     .exists rp18;rw[a0 (by change decide (x<=y)=false;simp only [qW3]at h;show qN3 ox)]
     .exists rp18;show ⟨_,_,rfl,key (by change decide (x<=y)=true;simp only [decide_eq_false_iff_not]at h;show qN4 ox)⟩
  .rintro c ⟨a,b,rfl,O⟩;rw[qA4,qE2]at O;exists rp18;rw[gq O]
 obtain ⟨v,e,rfl⟩:=fin;show e
noncomputable def dj (c e:Vx):Option Int:=if c=e then c else none
noncomputable def J1 (cs es:Vw):List Vx:=if i9 es cs=true then (List.range cs.length).map λk=>dj (cs.getD k none) (es.getD k none) else cs
def fP cs es:(J1 cs es).length=cs.length:=by unfold J1;split <;> simp
def vf (O:es.length=cs.length) (h6:cs.length<=6):cB [tC cs,tC es]=.ok (tC (J1 cs es)):=by
 have hu:=fF (cs:=es) (ds:=cs) O.symm;have fin:Ok (cB [tC cs,tC es]) λv=>v=tC (J1 cs es):=by
  have hz:=J9 (tC cs) (tC es) _ _ rfl rfl;rw[iG oW oW O none none]at hz;exists rpB,nt,hu;refine o5 (vt (λh=>?_) (λh=>?_))
  .exists A4 (show noL (tC cs)=true from C7 cs);unfold J1;rw[qA8 (by simpa using h)]
  .exists hz;refine Hq (zo (Lq ?_));refine ⟨lC (J1 cs es),?_,?_⟩
   .rw [i4 (λk=>oW (dj (cs.getD k none) (es.getD k none))) _ _ _ (by simpa using (by omega:cs.length<=1000))]
    .unfold J1;rw[qA2 (by simpa using h)];show congrArg (λl=>R.ok (W.lst l)) (by rw[qC0];rfl)
    .intro k hk;refine ⟨_,rfl,?_⟩;have hk:k<cs.length:=by simpa using hk
     cases hc:cs.getD k none with
     | none=>
      cases he:es.getD k none with
      | none=>
       exists rp18;rfl
      | some y=>
       exists rp18;rfl
     | some x=>
      cases he:es.getD k none with
      | none=>
       exists rp18;rfl
      | some y=>
       exists rp18;unfold dj;by_cases e:x=y
       .subst e;simp;rfl
       .simp [e];rfl
   .show ⟨_,by rw[wT,xj],rfl⟩
 obtain ⟨v,e,rfl⟩:=fin;show e
abbrev Cap:=List Vx
abbrev GEnt:=Cap×Nat×Nat
noncomputable abbrev gW (e:GEnt):W:=.tup [tC e.1,.int (e.2.1:Int),.int (e.2.2:Int)]
noncomputable abbrev g0 (c:Cap):W:=.tup [tC c,.non,.non]
noncomputable abbrev n8 (c:Cap)(es:List GEnt):Zz:=g0 c::es.map gW
noncomputable def stC (c:Cap)(es:List GEnt):List Cap:=c::es.map (·.1)
noncomputable def sC (c:Cap)(es:List GEnt)(a:Nat):Cap:=(stC c es).getD a []
noncomputable def cdG (e:GEnt):Nat:=e.2.1*8+e.2.2
theorem aZ c es:(stC c es).length=es.length+1:=by simp [stC]
def iS (h:a<=es.length):sC c (es ++ [e]) a=sC c es a:=by
 grind[sC,stC]
def uS (h:es[i]?=some e):sC c es (i+1)=e.1:=by
 grind[sC,stC]
theorem mn (h:a<=es.length):sC c es a∈stC c es:=by
 grind[sC,aZ]
def AV b:tI b=tC (b.map some):=congrArg W.tup (by rw[qC0];rfl)
noncomputable def rL (es:List GEnt):Nat->Nat->List Nat
 |_,0=>[0]
 |0,n+1=>[n+1]
 |f+1,i+1=>(i+1)::rL es f (es.getD i ([],0,0)).2.1
noncomputable def A6 (es:List GEnt)(n:Nat):List Nat:=rL es n n
def aW (es:List GEnt):Prop:=∀(i:Nat)(e:GEnt),es[i]?=some e->e.2.1<=i
theorem uf es:A6 es 0 = [0]:=rfl
def getD_at {es:List GEnt}(h:es[i]?=some e):es.getD i ([],0,0)=e:=by grind
def ud (hp:aW es):∀n f,n<=f->n<=es.length->rL es f n=rL es n n:=by
 intro n
 induction n using Nat.strongRecOn with
 | _ n ih=>
  intro f hf hn;cases n with
  |zero=>cases f <;> rfl
  | succ i=>
   obtain ⟨f,rfl⟩:∃g,f=g+1:=⟨f-1,ox⟩;have O:es[i]?=_:=qA5 ox;have hq:=hp i _ O
   change _::_=_::_;rw[getD_at O,ih _ ox f ox ox,ih _ ox i ox ox]
def O4 (O:aW es) (h:es[i]?=some e):A6 es (i+1)=(i+1)::A6 es e.2.1:=by
 have hi:=(qA7.mp h).1;have hq:=O i e h
 change _::_=_;rw[getD_at h,ud O _ i hq ox];rfl
def eh (hp:aW es):∀n,n<=es.length->(∀q∈A6 es n,q<=n)/\(A6 es n).length<=n+1:=by
 intro n
 induction n using Nat.strongRecOn with
 | _ n ih=>
  intro hn;cases n with
  |zero=>rw[uf];show ⟨ZZ,ZZ⟩
  | succ i=>
   have he:es[i]?=_:=qA5 ox;have hq:=hp i _ he;obtain ⟨h1,h2⟩:=ih es[i].2.1 ox ox;rw[O4 hp he];refine ⟨λq O=>?_,by rw[qB9];omega⟩;rcases qC4.mp O with rfl|h
   .show qB3 _
   .have:=h1 q h;omega
def ue (hp:aW es) (hx:x.2.1<=es.length):∀n,n<=es.length->A6 (es ++ [x]) n=A6 es n:=by
 have a4:aW (es ++ [x]):=λi e O=>by
  by_cases hi:i<es.length
  .rw[qE8 hi]at O;show hp i e O
  .have a3:=(qA7.mp O).1;rw[qB8,qE6]at a3
   have:i=es.length:=ox
   subst this;rw[qH9 (qB3 _),Nat.sub_self]at O;cases O;show hx
 intro n
 induction n using Nat.strongRecOn with
 | _ n ih=>
  intro hn;cases n with
  |zero=>rfl
  | succ i=>
   have O:es[i]?=_:=qA5 ox;have a0:(es ++ [x])[i]?=some es[i]:=by grind
   have hq:=hp i _ O;rw[O4 hp O,O4 a4 a0,ih _ ox ox]
noncomputable def V9 (c:Cap)(m:Mv):Bool:=i9 (m.1.map some) c
noncomputable def L4 (c:Cap)(m:Mv):Cap:=(List.range c.length).map λk=>(c.getD k none).map λx=>x+(m.2.getD k 0-m.1.getD k 0)
theorem af c m:(L4 c m).length=c.length:=by simp [L4]
def iA {c:Cap}(hm:okN c.length m):W7 [tC c,mW m]=.ok (.bl (V9 c m)):=by
 have O:L2.atI [_,tI m.2] 0=some (tI m.1):=rfl;have k:=fF (cs:=m.1.map some) (ds:=c) (by rw[qA4,hm.1]);rw[<- AV]at k;exists rpB,ic,O,k;rfl
def pA (h6:c.length<=6) (hm:okN c.length m) (ha:V9 c m=true):aR [tC c,mW m]=.ok (tC (L4 c m)):=by
 have O:=iA hm;rw[ha]at O;have k2:=aE h6 hm;have hz:=J9 (tC c) (tI ((List.range c.length).map λk=>m.2.getD k 0-m.1.getD k 0)) _ _ rfl rfl;rw[iG oW W.int ZZ none 0]at hz;exists rpB,fj,O,k2,hz;have e:∀N mg me a (h:∀k,k<c.length->ZX N a mg (.tup [oW (c.getD k none),.int (((List.range c.length).map λk=>m.2.getD k 0-m.1.getD k 0).getD k 0)]) λ ρ1=>me ρ1=.ok (oW ((c.getD k none).map λx=>x+(m.2.getD k 0-m.1.getD k 0)))),j6 N mg yes me ((List.range c.length).map λk=>W.tup [oW (c.getD k none),.int (((List.range c.length).map λk=>m.2.getD k 0-m.1.getD k 0).getD k 0)]) a=.ok (lC (L4 c m)):=λN mg me a h=>by
  rw[i4 (λk=>oW ((c.getD k none).map λx=>x+(m.2.getD k 0-m.1.getD k 0))) _ _ a (by simp;omega) (λk hk=>h k (by simpa using hk))];unfold L4;show congrArg (λl=>R.ok (W.lst l)) (by rw[qC0];rfl)
 rw[e]
 .exists rp18
 .intro k hk;refine ⟨_,rfl,?_⟩;have hg:((List.range c.length).map λk=>m.2.getD k 0-m.1.getD k 0).getD k 0=m.2.getD k 0-m.1.getD k 0:=by rw[qA3,qA9,qE5 hk];rfl
  rw[hg];cases c.getD k none with
  | none=>
   exists rp18;rfl
  | some x=>
   exists rp18;rfl
noncomputable def S7 (cs:List Cap)(x:Cap):Bool:=cs.any λd=>i9 x d
def eY {x:Cap}(hl:∀d∈cs,d.length=x.length):M7 [tC x,.lst (cs.map tC)]=.ok (.bl (S7 cs x)):=by
 have fin:Ok (M7 [tC x,.lst (cs.map tC)]) λv=>v=.bl (S7 cs x):=by
  refine o5 (o6 (λi a=>∃a2,a = [_,_,a2]/\∀k (hk:k<cs.length),k<i->i9 x cs[k]=false) ⟨_,rfl,λk _ hk=>absurd hk (qD4 _)⟩ ?_ ?_)
  .rintro i u a hu ⟨a2,rfl,O⟩;rw[qA9]at hu;obtain ⟨d,hd,rfl⟩:=qF5.mp hu;obtain ⟨hi,ed⟩:=qA7.mp hd;have a0:=qD7 hd;have k:=fF (ds:=d) (hl d a0);refine ⟨_,rfl,?_⟩;exists k;refine W3 (λh=>?_) (λh=>?_)
   .exists rp18
    grind[S7]
   .refine ⟨_,rfl,λk hk a3=>?_⟩;by_cases e:k=i
    .subst e;rw[ed];show h
    .show O k hk ox
  .rintro a ⟨a2,rfl,O⟩;exists rp18
   have:S7 cs x=false:=by
    unfold S7;rw[qI7];intro d hd;obtain ⟨k,hk,e⟩:=qF2.mp hd
    have:=O k hk (by rw[qA4];show hk)
    rw[e]at this;rw[this];decide
   rw[this]
 obtain ⟨v,e,rfl⟩:=fin;show e
def pW (h:es[i]?=some e):L2.atI (n8 c es) ((i+1:Nat))=some (gW e):=A5 (by change (es.map gW)[i]?=_;rw[qA9,h];rfl)
def mq {es:List GEnt}(h:a<=es.length):∃x y:W,L2.atI (n8 c es) a=some (.tup [tC (sC c es a),x,y]):=by
 cases a with
 |zero=>show ⟨_,_,A5 rfl⟩
 | succ a=>
  have O:es[a]?=_:=qA5 ox;rw[uS O];show ⟨_,_,pW O⟩
def xH (hp:aW es) (hl:es.length<=100) (hn:n<=es.length):D3 [.lst (n8 c es),.int n]=.ok (lI ((A6 es n).map λ(k:Nat)=>k)):=by
 have fin:Ok (D3 [.lst (n8 c es),.int n]) λv=>v=lI ((A6 es n).map λ(k:Nat)=>k):=by
  have a5:=(eh hp n hn).2;exists rpB,ca;refine o5 (P7 ?_);refine R6 (λm a=>∃(xs l':_) (w:W) (a3:Sl),a = [_,_,.own ((xs.map λ(k:Nat)=>(k:Int)).map W.int),a3]/\(a3=.val w\/a3=.par w)/\xs++l'=A6 es n/\(w=.non/\l' = []\/∃(n':Nat),w=.int n'/\l'=A6 es n'/\n'<m/\n'<=es.length)) ?_ _ _ ⟨[],_,_,_,rfl,.inl rfl,rfl,.inr ⟨n,rfl,rfl,qC8 n,hn⟩⟩;rintro m a ⟨xs,l',w,a3,rfl,ha,hx,hc⟩;rcases hc with ⟨rfl,rfl⟩|⟨n',rfl,rfl,hm,hn'⟩
  .refine ⟨false,?_,?_⟩
   .rcases ha with rfl|rfl
    .exists rp18
    .exists rp18
   .rw [qA8 qC9]
    rw[qG0]at hx;subst hx;exists rp18
  .refine ⟨true,?_,?_⟩
   .rcases ha with rfl|rfl
    .exists rp18
    .exists rp18
   .rw [qA2 rfl]
    have a7:xs.length<=(A6 es n).length:=by rw[<- hx,qB8];omega
    cases n' with
    | zero=>
     have a0:L2.atI (n8 c es) (((0:Nat)):Int)=some (g0 c):=A5 (k:=0) rfl;have a4:L2.atI (n8 c es) 0=some (g0 c):=a0;have b1:L2.atI [tC c,W.non,W.non] 1=some W.non:=rfl;have O:(xs ++ [0]) ++ []=A6 es n:=by rw[<- hx,qG0];rfl
     rcases ha with rfl|rfl
     .exists a0,a4,b1;show ⟨0,ox,xs ++ [0],[],.non,_,by simp only [qC7,qE1,qK6];rfl,.inr rfl,O,.inl ⟨rfl,rfl⟩⟩
     .exists a0,a4,b1;show ⟨0,ox,xs ++ [0],[],.non,_,by simp only [qC7,qE1,qK6];rfl,.inr rfl,O,.inl ⟨rfl,rfl⟩⟩
    | succ i=>
     have h:es[i]?=some es[i]:=qA5 ox;generalize es[i]=e at h
     have r1:=pW (c:=c) h;have b1:L2.atI [tC e.1,.int (e.2.1:Int),.int (e.2.2:Int)] 1=some (.int (e.2.1:Int)):=rfl;have a6:=hp i e h;have O:(xs ++ [i+1])++A6 es e.2.1=A6 es n:=by rw[<- hx,O4 hp h,qW2];rfl
     rcases ha with rfl|rfl
     .exists r1,b1;show ⟨i+1,ox,xs ++ [i+1],A6 es e.2.1,.int (e.2.1:Int),_,by simp only [qC7,qE1,qK6],.inr rfl,O,.inr ⟨e.2.1,rfl,rfl,ox,ox⟩⟩
     .exists r1,b1;show ⟨i+1,ox,xs ++ [i+1],A6 es e.2.1,.int (e.2.1:Int),_,by simp only [qC7,qE1,qK6],.inr rfl,O,.inr ⟨e.2.1,rfl,rfl,ox,ox⟩⟩
 obtain ⟨v,e,rfl⟩:=fin;show e
noncomputable def upC (c:Cap)(es:List GEnt)(l:Zq)(x:Cap):Cap:=l.foldl (λy q=>J1 y (sC c es q)) x
noncomputable def z7 (c:Cap)(ms:List Mv)(es:List GEnt)(a k:Nat):Cap:=upC c es (A6 es a) (L4 (sC c es a) (mvN ms k))
def aY c es:∀ l x,(upC c es l x).length=x.length
 | [],_=>rfl
 | q::l,x=>by
  change (upC c es l _).length=_;rw[aY,fP]
theorem aF c ms es a k:(z7 c ms es a k).length=(sC c es a).length:=by unfold z7;rw[aY,af]
def lE:∀ l x,(∀q∈l,q<=es.length)->upC c (es ++ [e]) l x=upC c es l x
 | [],_,_=>rfl
 | q::l,x,h=>by
  change upC c _ l (J1 x _)=upC c es l _;rw[iS (h q qB2),lE l _ λq' O=>h q' (qA6 _ O)]
def tF (O:aW es) (hx:e.2.1<=es.length) (ha:a<=es.length):z7 c ms (es ++ [e]) a k=z7 c ms es a k:=by
 unfold z7;rw[ue O hx a ha,iS ha,lE];intro q hq
 have:=(eh O a ha).1 q hq
 omega
noncomputable def L6 (c:Cap)(ms:List Mv)(es:List GEnt)(a k:Nat):List GEnt:=if (V9 (sC c es a) (mvN ms k)&&!S7 (stC c es) (z7 c ms es a k))=true then es ++ [(z7 c ms es a k,a,k)] else es
noncomputable def gm (c:Cap):Option GEnt->Cap
 |none=>c
 |some e=>e.1
noncomputable def bT (c:Cap):Option GEnt->W
 |none=>g0 c
 |some e=>gW e
def iU c es:n8 c es=(none::es.map some).map (bT c):=by rw[qE1,qC0];rfl
def AX c es:(none::es.map some).map (gm c)=stC c es:=by rw[qE1,qC0];rfl
def sE c es:m5 (n8 c es)=true:=by
 rw[iU];refine Y9 (bT c) (λo=>?_) _;cases o with
 |none=>change (m5 (c.map oW)&&(true&&(true&&true)))=true;rw[C7];rfl
 |some e=>change (m5 (e.1.map oW)&&(true&&(true&&true)))=true;rw[C7];rfl
def U6 (O:∀e∈es,e.1.length=c.length) (ha:a<=es.length):(sC c es a).length=c.length:=by
 have:=mn (c:=c) ha
 grind[stC]
def DU {ms:List Mv}(h6:b.length<=6) (hm:∀m∈ms,okN b.length m) (hp:aW es) (hl:∀e∈es,e.1.length=b.length) (cc:es.length<=90) (ha:a<=es.length) (hk:k<ms.length):ir (.tup [tI b,tM_ ms]) (n8 (b.map some) es) [.int a,.int k]=.ok (n8 (b.map some) (L6 (b.map some) ms es a k)):=by
 obtain ⟨c,hc⟩:∃c:Cap,c=b.map some:=⟨_,rfl⟩;have a7:c.length=b.length:=by grind
 rw[<- hc];refine uX λp=>?_;have a4:∀e∈es,e.1.length=c.length:=λe he=>by rw[a7];show hl e he
 have b3:=U6 a4 ha;have a5:okN (sC c es a).length (mvN ms k):=by rw[b3,a7];show getM hm hk
 have a1:L2.atI [tI b,_] 1=some (tM_ ms):=rfl;have ej:L2.atI (ms.map mW) (k:Int)=some (mW (mvN ms k)):=by
  have:=atM (ms:=ms) (r:=(k:Int)) ox ox
  rw[qD8]at this;show this
 obtain ⟨x,y,er⟩:=mq (c:=c) (es:=es) ha;have b0:L2.atI [tC (sC c es a),x,y] 0=some (tC (sC c es a)):=rfl;have k1:=iA (c:=sC c es a) a5;have c1:=sE c es;unfold ak;rw[qA2 ⟨rfl,c1⟩];obtain ⟨O,a0⟩:∃O,O=n8 c es:=⟨_,rfl⟩;rw[<- a0]at er;cases a3:V9 (sC c es a) (mvN ms k) with
 | false=>
  rw[a3]at k1;have e:V1 p [.par (.tup [tI b,tM_ ms]),.iop p O,.par (.int (a:Int)),.par (.int (k:Int)),.un,.un,.un]=.ok (.bk [.par (.tup [tI b,tM_ ms]),.iop p O,.par (.int (a:Int)),.par (.int (k:Int)),.par (mW (mvN ms k)),.un,.un]):=by
   exists rpB,V1,a1,ej,er,b0,k1
  rw[a0]at e
  change (match V1 p [.par (.tup [tI b,tM_ ms]),.iop p (n8 c es),.par (.int (a:Int)),.par (.int (k:Int)),.un,.un,.un]with | .ok (.nx g)=>ioR p g | .ok (.bk g)=>ioR p g|_=>.stuck)=_;rw[e]
  change (if p=p then R.ok (n8 c es) else .stuck)=_;rw[qA2 rfl];unfold L6;rw[a3];rfl
 | true=>
  rw[a3]at k1;have c4:(sC c es a).length<=6:=ox;have k2:=pA c4 a5 a3;have kw:=xH (c:=c) hp ox ha;have b5:=eh hp a ha;have ab:(L4 (sC c es a) (mvN ms k)).length=c.length:=by rw[af,b3]
  have kU:=eY (cs:=stC c es) (x:=z7 c ms es a k) (λd hd=>by
   grind[aF,stC])
  have b6:∀N mg me g (h:∀o∈(none::es.map some:List (Option GEnt)),ZX N g mg (bT c o) λ ρ1=>me ρ1=.ok (tC (gm c o))),j6 N mg yes me O g=.ok (.lst ((stC c es).map tC)):=λN mg me g h=>by
   rw[a0,iU,i4 (λo=>tC (gm c o)) _ _ g (by simp;omega) h];rw[<- AX];refine congrArg (λl=>R.ok (W.lst l)) ?_;rw[qC0];rfl
  have cp:O.length=es.length+1:=by rw[a0];simp
  have b4:∀q,q<=es.length->∃x y:W,L2.atI O (q:Int)=some (.tup [tC (sC c es q),x,y]):=λq hq=>by rw[a0];show mq hq
  rw[<- a0]at kw;have po:Po (V1 p [.par (.tup [tI b,tM_ ms]),.iop p O,.par (.int (a:Int)),.par (.int (k:Int)),.un,.un,.un]) (λg=>g[1]?=some (.iop p (n8 c (L6 c ms es a k)))) (λ_=>False):=by
   exists rpB,V1,a1,ej,er,b0,k1,k2,kw;refine gR (λg=>∃a6,g = [.par (.tup [tI b,tM_ ms]),.iop p O,.par (.int (a:Int)),.par (.int (k:Int)),.par (mW (mvN ms k)),.val (tC (z7 c ms es a k)),a6]) (Lf ?_) ?_
   .refine dq (λi g=>∃a6,g = [.par (.tup [tI b,tM_ ms]),.iop p O,.par (.int (a:Int)),.par (.int (k:Int)),.par (mW (mvN ms k)),.val (tC (upC c es ((A6 es a).take i) (L4 (sC c es a) (mvN ms k)))),a6]) ⟨_,rfl⟩ ?_ ?_
    .rintro i u g hu ⟨a6,rfl⟩;rw[qC0,qA9]at hu;obtain ⟨q,hq,rfl⟩:=qF5.mp hu;have cn:=b5.1 q (qD7 hq);obtain ⟨x2,y2,c5⟩:=b4 q ox;have b2:L2.atI [tC (sC c es q),x2,y2] 0=some (tC (sC c es q)):=rfl;have kr:=vf (cs:=upC c es ((A6 es a).take i) (L4 (sC c es a) (mvN ms k))) (es:=sC c es q) (by rw[aY,ab];show U6 a4 ox) (by rw[aY,ab];omega);have c0:J1 (upC c es ((A6 es a).take i) (L4 (sC c es a) (mvN ms k))) (sC c es q)=upC c es ((A6 es a).take (i+1)) (L4 (sC c es a) (mvN ms k)):=by
      rw[qW0,hq];unfold upC;rw[List.foldl_append];rfl
     rw[c0]at kr;refine ⟨_,rfl,?_⟩;have c3:(W.int∘λ(k:Nat)=>(k:Int)) q=.int (q:Int):=rfl;exists c3,c5,b2,kr;show ⟨_,rfl⟩
    .rintro g ⟨a6,rfl⟩;rw[qA4,qA4,qI2];show ⟨_,rfl⟩
   .rintro g ⟨a6,rfl⟩;exists rp18;rw[b6];rotate_left
    .intro o ho;refine ⟨_,rfl,?_⟩;cases o with
     | none=>
      have b0:L2.atI [tC c,W.non,W.non] 0=some (tC c):=rfl;have b1:bT c none=.tup [tC c,.non,.non]:=rfl;have b2:gm c none=c:=rfl;exists b1,b0,b2,A4 (show noL (tC c)=true from C7 c)
     | some e=>
      have b0:L2.atI [tC e.1,.int (e.2.1:Int),.int (e.2.2:Int)] 0=some (tC e.1):=rfl;have b1:bT c (some e)=.tup [tC e.1,.int (e.2.1:Int),.int (e.2.2:Int)]:=rfl;have b2:gm c (some e)=e.1:=rfl;exists b1,b0,b2,A4 (show noL (tC e.1)=true from C7 e.1)
    exists kU;cases hU:S7 (stC c es) (z7 c ms es a k) with
    | true=>
     exists rp18;unfold L6;rw[a3,hU,a0];rfl
    | false=>
     exists rp18;rw[zH (ws:=O) (w:=gW (z7 c ms es a k,a,k)) rfl ?_ ox]
     .change ((List.map clI _).set 1 _)[1]?=_;rw[qG7 ZZ];unfold L6;rw[a3,hU,a0]
      change some (Sl.iop p (g0 c::es.map gW ++ [_]))=some (Sl.iop p (g0 c::(es ++ [_]).map gW));rw[qC7];rfl
     .exists rp18
  rw[a0]at po
  change (match V1 p [.par (.tup [tI b,tM_ ms]),.iop p (n8 c es),.par (.int (a:Int)),.par (.int (k:Int)),.un,.un,.un]with | .ok (.nx g)=>ioR p g | .ok (.bk g)=>ioR p g|_=>.stuck)=_
  revert po
  cases V1 p [.par (.tup [tI b,tM_ ms]),.iop p (n8 c es),.par (.int (a:Int)),.par (.int (k:Int)),.un,.un,.un] with
  |stuck=>show λh=>h.elim
  |ex e=>show λh=>h.elim
  | ok f=>
   cases f with
   | nx g=>
    intro h;have h:g[1]?=some (.iop p (n8 c (L6 c ms es a k))):=h
    change ioR p g=_;unfold ioR;rw[h];show qA2 rfl
   |rt w=>show λh=>h.elim
   |bk g=>show λh=>h.elim
   |ct g=>show λh=>h.elim
structure GK (c:Cap) (ms:List Mv) (es:List GEnt) (A kk:Nat):Prop where
 len:∀e∈es,e.1.length=c.length
 k8:∀e∈es,e.2.2<ms.length
 lt:∀e∈es,e.2.1<A\/(e.2.1=A/\e.2.2<kk)
 inc:es.Pairwise λx y=>cdG x<cdG y
 par:aW es
 beh:∀(i:Nat) (e:GEnt),es[i]?=some e->V9 (sC c es e.2.1) (mvN ms e.2.2)=true/\e.1=z7 c ms es e.2.1 e.2.2/\∀j,j<=i->i9 e.1 (sC c es j)=false
 set:∀a k,(a<A\/(a=A/\k<kk))->k<ms.length->V9 (sC c es a) (mvN ms k)=true->(∃e∈es,e.2=(a,k))\/∃j,j<=es.length/\(∀(i:Nat) (e:GEnt),j=i+1->es[i]?=some e->cdG e<a*8+k)/\i9 (z7 c ms es a k) (sC c es j)=true
theorem GK.start c ms:GK c ms [] 0 0 where
 len:=ZZ
 k8:=ZZ
 lt:=ZZ
 inc:=List.Pairwise.nil
 par:=λi e h=>by simp at h
 beh:=λi e h=>by simp at h
 set:=λa k h=>ox
def GK.below {kk}(h:GK c ms es A kk) (h8:ms.length<=8):∀e∈es,cdG e<A*8+kk:=λe O=>by
 have:=h.k8 e O
 unfold cdG;rcases h.lt e O with q|⟨q,q'⟩
 .omega
 .omega
def GK.stay {kk}(h:GK c ms es A kk) (h8:ms.length<=8) (a0:V9 (sC c es A) (mvN ms kk)=true->S7 (stC c es) (z7 c ms es A kk)=true):GK c ms es A (kk+1) where
 len:=h.len
 k8:=h.k8
 lt:=λe he=>by
  rcases h.lt e he with q|⟨q,q'⟩
  .show .inl q
  .show .inr ⟨q,ox⟩
 inc:=h.inc
 par:=h.par
 beh:=h.beh
 set:=λa k hj hk O=>by
  by_cases e:a=A/\k=kk
  .obtain ⟨rfl,rfl⟩:=e;obtain ⟨d,hd,hu⟩:=qY8.mp (a0 O);obtain ⟨j,hj,ej⟩:=qF2.mp hd;rw[aZ]at hj;refine .inr ⟨j,ox,λi e _ he=>h.below h8 e (qD7 he),?_⟩
   grind[sC]
  .show h.set a k ox hk O
def GK.snoc {kk}(h:GK c ms es A kk) (h8:ms.length<=8) (hA:A<=es.length) (hk:kk<ms.length) (ab:V9 (sC c es A) (mvN ms kk)=true) (b0:S7 (stC c es) (z7 c ms es A kk)=false):GK c ms (es ++ [(z7 c ms es A kk,A,kk)]) A (kk+1):=by
 have hS:∀a,a<=es.length->sC c (es ++ [(z7 c ms es A kk,A,kk)]) a=_:=λa ha=>iS ha;have hC:∀a k,a<=es.length->z7 c ms (es ++ [(z7 c ms es A kk,A,kk)]) a k=_:=λa k ha=>tF h.par hA ha;have a4:∀(i:Nat) (e:GEnt),es[i]?=_->e.2.1<=es.length:=λi e O=>by
  have:=h.par i e O
  have:=(qA7.mp O).1
  omega
 have a0:∀(i:Nat) (e:GEnt),(es ++ [(z7 c ms es A kk,A,kk)])[i]?=_->es[i]?=some e/\i<es.length\/i=es.length/\e=_:=λi e O=>by
  by_cases hi:i<es.length
  .rw[qE8 hi]at O;show .inl ⟨O,hi⟩
  .have a7:=(qA7.mp O).1;rw[qB8,qE6]at a7
   have:i=es.length:=ox
   subst this;rw[qH9 (qB3 _),Nat.sub_self]at O;cases O;show .inr ⟨rfl,rfl⟩
 refine ⟨λe O=>?_,λe O=>?_,λe O=>?_,?_,λi e O=>?_,λi e O=>?_,λa k hj a6 a3=>?_⟩
 .rcases qF0.mp O with q|q
  .show h.len e q
  .rw [qC5.mp q]
   rw[aF];show U6 h.len hA
 .rcases qF0.mp O with q|q
  .show h.k8 e q
  .rw[qC5.mp q];show hk
 .rcases qF0.mp O with q|q
  .rcases h.lt e q with q1|⟨q1,q2⟩
   .show .inl q1
   .show .inr ⟨q1,ox⟩
  .rw[qC5.mp q];show .inr ⟨rfl,qC8 kk⟩
 .refine qU1.mpr ⟨h.inc,qR7 _ _,λx hx y hy=>?_⟩;rw[qC5.mp hy];show h.below h8 x hx
 .rcases a0 i e O with ⟨q,_⟩|⟨rfl,rfl⟩
  .show h.par i e q
  omega
 .rcases a0 i e O with ⟨q,hi⟩|⟨rfl,rfl⟩
  .obtain ⟨p1,p2,p3⟩:=h.beh i e q;have hp:=a4 i e q;rw[hS _ hp,hC _ _ hp];show ⟨p1,p2,λj hj=>by rw[hS j ox];show p3 j hj⟩
  grind[S7,mn]
 .have ha:a<=es.length:=ox;rw[hS a ha]at a3;rw[hC a k ha];by_cases e:a=A/\k=kk
  .obtain ⟨rfl,rfl⟩:=e;show .inl ⟨_,qD5 _ (qZ5 _),rfl⟩
  .rcases h.set a k ox a6 a3 with ⟨e,O,q⟩|⟨j,hj,h1,h2⟩
   .show .inl ⟨e,qG6 _ O,q⟩
   .refine .inr ⟨j,by rw[qB8,qE6];omega,λi e a5 O=>?_,by rw[hS j hj];show h2⟩;rcases a0 i e O with ⟨q,_⟩|⟨rfl,_⟩
    .show h1 i e a5 q
    .omega
def GK.step {kk}(h:GK c ms es A kk) (h8:ms.length<=8) (hA:A<=es.length) (hk:kk<ms.length):GK c ms (L6 c ms es A kk) A (kk+1):=by
 unfold L6;cases O:V9 _ _ with
 | false=>
  show h.stay h8 λq=>ox
 | true=>
  cases hU:S7 _ _ with
  | true=>
   show h.stay h8 λ_=>hU
  | false=>
   show h.snoc h8 hA hk O hU
def GK.next (h:GK c ms es A ms.length):GK c ms es (A+1) 0 where
 len:=h.len
 k8:=h.k8
 lt:=λe he=>by
  rcases h.lt e he with q|⟨q,q'⟩
  .show .inl ox
  .show .inl ox
 inc:=h.inc
 par:=h.par
 beh:=h.beh
 set:=λa k hj hk O=>h.set a k ox hk O
def ux c ms es a k:es.length<=(L6 c ms es a k).length/\(L6 c ms es a k).length<=es.length+1:=by
 unfold L6
 split
 .rw[qB8,qE6];omega
 .omega
def sX {most:Nat}(h6:b.length<=6) (hm:∀m∈ms,okN b.length m) (h8:ms.length<=8) (h1:1<=most) (b6:most<=30):Ok (Z6 [.tup [tI b,tM_ ms],.int most]) λw=>(w=.non/\∃es A,GK (b.map some) ms es A 0/\most<es.length+1)\/∃es,w=.lst (n8 (b.map some) es)/\es.length+1<=most/\GK (b.map some) ms es (es.length+1) 0:=by
 have a7:(b.map some).length=b.length:=qA4 ..;have a0:L2.atI [_,tM_ ms] 0=some (tI b):=rfl;have a1:L2.atI [tI b,_] 1=some (tM_ ms):=rfl;have gr:∀(es:_) (A k:Nat),GK _ ms es A k->A<=es.length->k<ms.length->es.length<=90->ir _ (n8 (b.map some) es) [.int (A:Int),.int (k:Int)]=.ok (n8 (b.map some) (L6 (b.map some) ms es A k)):=λes A k O hA hk hl=>DU h6 hm O.par (λe he=>by rw[<- a7];show O.len e he) hl hA hk;have b0:(.lst [.tup [tI b,.non,.non]]:W)=.lst (n8 (b.map some) []):=by rw[AV];rfl
 generalize hc:b.map some=c at *
 exists rpB,nv,a0,A4 (Z0 b);refine o5 (P7 ?_);refine R6 (λm a=>∃(es:List GEnt) (at_:Nat) (a4:Sl),a = [.par (.tup [tI b,tM_ ms]),.par (.int (most:Int)),.own (n8 c es),.val (.int (at_:Int)),a4]/\GK c ms es at_ 0/\at_<=es.length+1/\es.length+1<=most/\m+at_=102) ?_ 102 _ ⟨[],0,_,by rw[show n8 c [] = [.tup [tI b,.non,.non]] from ox];rfl,GK.start c ms,ZZ,ox,rfl⟩;rintro m a ⟨es,at_,a4,rfl,O,b5,a5,b4⟩;have a3:(n8 c es).length=es.length+1:=ZZ;by_cases b3:at_<es.length+1
 .refine ⟨true,?_,?_⟩
  .have d1:decide ((at_:Int)<((es.length+1:Nat):Int))=true:=qN4 ox;exists a3,d1
  .rw [qA2 rfl]
   exists a1;refine gR (λa=>∃(es:List GEnt) (a4:Sl),a = [.par (.tup [tI b,tM_ ms]),.par (.int (most:Int)),.own (n8 c es),.val (.int (at_:Int)),a4]/\GK c ms es at_ ms.length/\at_<=es.length/\es.length<=60) ?_ ?_
   .refine dq (λi a=>∃(es:List GEnt) (a4:Sl),a = [.par (.tup [tI b,tM_ ms]),.par (.int (most:Int)),.own (n8 c es),.val (.int (at_:Int)),a4]/\GK c ms es at_ i/\at_<=es.length/\es.length<=30+i) ⟨es,_,rfl,O,ox,ox⟩ ?_ ?_
    .rintro i u a hu ⟨es,a4,rfl,O,hA,hl⟩;obtain ⟨hi,rfl⟩:=bc hu;have kg:=gr es at_ i O hA hi ox;have c0:=ux c ms es at_ i;refine ⟨_,rfl,?_⟩;obtain ⟨a6,ab⟩:∃a6,a6=n8 c es:=⟨_,rfl⟩;rw[<- ab]at kg ⊢;exists kg;show ⟨L6 c ms es at_ i,_,rfl,O.step h8 hA hi,ox,ox⟩
    .rintro a ⟨es,a4,rfl,O,hA,hl⟩;simp only [qA4,qE2]at O hl;show ⟨es,_,rfl,O,hA,ox⟩
   .rintro a ⟨es,a4,rfl,O,hA,hl⟩;have a3:(n8 c es).length=es.length+1:=ZZ;exists a3;refine vt (λh=>?_) (λh=>?_)
    .have h:=qN5 h;exists rp18;show .inl ⟨es,at_+1,O.next,ox⟩
    .have h:=qV4 h;exists rp18;show ⟨101-at_,ox,es,at_+1,_,by rw[show ((at_+1:Nat):Int)=(at_:Int)+1 by omega],O.next,ox,ox,ox⟩
 .refine ⟨false,?_,?_⟩
  .have d1:decide ((at_:Int)<((es.length+1:Nat):Int))=false:=qN3 ox;exists a3,d1
  .rw [qA8 qC9]
   exists rp18
   have:at_=es.length+1:=ox
   subst this;show .inr ⟨es,rfl,a5,O⟩
def wQ {most:Nat}(h6:b.length<=6) (hm:∀m∈ms,okN b.length m) (h8:ms.length<=8) (h1:1<=most) (O:most<=30):Ok (Z6 [.tup [tI b,tM_ ms],.int most]) λw=>w=.non\/∃es,w=.lst (n8 (b.map some) es)/\es.length+1<=most/\GK (b.map some) ms es (es.length+1) 0:=by
 obtain ⟨w,e,h⟩:=sX h6 hm h8 h1 O;refine ⟨w,e,?_⟩;rcases h with ⟨h,_⟩|h
 .show .inl h
 .show .inr h
def FJ n(cs:Cap):shp (n+1) (lC cs)=true:=Y3 oW n (λo=>by cases o with|none=>show iQ n|some i=>show X2 n i) cs
def FI n(cs:Cap):shp (n+1) (tC cs)=true:=Y3 oW n (λo=>by cases o with|none=>show iQ n|some i=>show X2 n i) cs
noncomputable def kO:Option Int->List Int
 |none=>[1,0]
 |some n=>[0,n]
noncomputable def o7 (c:Cap):List VW:=c.map kO
def Ic (h:kO x=kO y):x=y:=by
 cases x with
 | none=>
  cases y with
  |none=>rfl
  |some m=>simp [kO]at h
 | some n=>
  cases y with
  |none=>simp [kO]at h
  |some m=>simp [kO]at h;rw[h]
def fY:∀{a b},o7 a=o7 b->a=b
 | [],[],_=>rfl
 | [],_::_,h=>by simp [o7]at h
 |_::_,[],h=>by simp [o7]at h
 | x::a,y::b,h=>by
  injection h with h1 h2
  rw[Ic h1,fY h2]
def jL (x y:Vx) (a b:Cap):i9 (x::a) (y::b)=(P2 x y&&i9 a b):=by
 unfold i9;rw[qB9,qS2,List.all_cons,List.all_map];rfl
def xQ (h:P2 x y=true) (hn:kO y≠kO x):lexLt (kO y) (kO x)=false:=by
 cases y with
 | none=>
  cases x with
  |none=>show absurd rfl hn
  |some n=>simp [kO,TP.lexLt]
 | some m=>
  cases x with
  |none=>cases h
  | some n=>
   have h:=qN5 h;simp [kO,TP.lexLt];omega
def pG:∀{a b:Cap},a.length=b.length->i9 a b=true->v9 (o7 b) (o7 a)=false
 | [],[],_,_=>rfl
 | [],_::_,h,_=>by simp at h
 |_::_,[],h,_=>by simp at h
 | x::a,y::b,hl,h=>by
  rw[jL,qH4]at h
  change (if _=_ then _ else _)=false;by_cases e:kO y=kO x
  .rw[qA2 e];show pG (by simpa using hl) h.2
  .rw[qA8 e];show xQ h.1 e
def R1 (a:Cap):i9 a a=true:=gq λk _=>by
 cases a.getD k none with
 |none=>rfl
 |some x=>show qN4 (qF3 x)
def Fm (hl:a.length=b.length)(h1:v9 (o7 a) (o7 b)=false)(O:i9 a b=true):a=b:=fY (cf _ _ h1 (pG hl O))
def rT {c:Cap}(O:c.length<=6):Q7 [tC c]=.ok (kW (o7 c)):=by
 have e:∀N mg me a (h:∀z:Option Int,ZX N a mg (oW z) λ ρ1=>me ρ1=.ok (.tup ((kO z).map W.int))),j6 N mg yes me (c.map oW) a=.ok (.lst (gx (o7 c))):=λN mg me a h=>by
  rw[i4 (λz=>.tup ((kO z).map W.int)) oW c a ox (λz _=>h z)];unfold gx o7;show congrArg (λl=>R.ok (W.lst l)) (by rw[qC0];rfl)
 exists rpB,ib;rw[e]
 .have hn:m5 (gx (o7 c))=true:=fQ (o7 c);exists eU hn;rfl
 .intro z;refine ⟨_,rfl,?_⟩;cases z with
  | none=>
   exists rp18;rfl
  | some n=>
   exists rp18;rfl
def wx (h1:1<=c.length):keyOf (.ok (kW (o7 c)))=some (o7 c):=by
 have O:S9 (gx _)=some (o7 c):=fG _;unfold keyOf kW;dsimp;rw[O];cases c with
 |nil=>simp at h1
 |cons a c=>rfl
def kC:∀{cs:List Cap},(∀c∈cs,1<=c.length/\c.length<=6)->J7 Q7 (cs.map tC)=some (cs.map o7)
 | [],_=>rfl
 | c::cs,h=>by
  have hc:=h c qB2;rw[qE1];unfold J7;rw[rT hc.2,wx hc.1,kC λd hd=>h d (qA6 _ hd)];rfl
def zd (f:b->a) (O:vs.length=ks.length):z9 ks e (vs.map f)=(z9 ks d vs).map f:=by
 unfold z9;rw[qL1,qC0];refine congrArg _ (qD1 λi hi=>?_)
 grind[O8]
noncomputable def srt (cs:List Cap):List Cap:=z9 (cs.map o7) [] cs
def yf cs:(srt cs).Perm cs:=vC ZZ
def yg cs:(srt cs).Pairwise λa b=>v9 (o7 a) (o7 b)=false:=by
 unfold srt z9;rw[qS8,qI8];have hm:∀i∈V6 (cs.map o7).reverse,i<cs.reverse.length:=λi hi=>by
  grind[O8]
 have hk:∀i,i<cs.reverse.length->(cs.map o7).reverse.getD i []=o7 (cs.reverse.getD i []):=λi hi=>by
  rw[<- qL1,qA3,qA9,qA5,qA3,qA5 hi];rfl
 refine qR1 (λ{i j} hi hj h=>?_) (CU _);rw[hk i (hm i hi),hk j (hm j hj)]at h;show h
def vV (cs:List Cap):m5 (cs.map tC)=true:=Y9 tC (λc=>C7 c) cs
def rW (hl:∀c∈cs,1<=c.length/\c.length<=6) (O:cs.length<64):dO c Q7 [.lst (cs.map tC)]=.ok (.lst ((srt cs).map tC)):=by
 change (match _ with|some ks=>if _<64 then chks c (z9 ks W.non _) else _|none=>_)=_;rw[kC hl];dsimp;rw[qA2 (by rw[qA4];show O),zd tC ZZ,bD (vV _)];rfl
def BU {cs:List Cap}(hl:∀c∈cs,c.length=n) (h1:1<=n) (h6:n<=6) (ab:cs.length<64):Ok (nT [.lst (cs.map tC)]) λw=>∃ts:List Cap,w=.lst (ts.map tC)/\(∀t∈ts,t∈cs)/\ts.length<=cs.length/\(ts.Pairwise λa b=>v9 (o7 a) (o7 b)=true/\i9 a b=false/\i9 b a=false)/\∀c∈cs,∃t∈ts,i9 c t=true:=by
 have hs:=rW (c:=false) (λc hc=>by rw[hl c hc];show ⟨h1,h6⟩) ab;have hp:=yf cs;have hd:=yg cs;have b4:=hp.length_eq;have a5:=λc hc=>hl c (hp.mem_iff.mp hc);generalize srt cs=ss at *
 exists rpB,wd,hs;refine o5 (o6 (λi d=>∃(fs:_) (a2:Sl),d = [_,.own (fs.map tC),a2]/\(∀t∈fs,t∈ss.take i)/\fs.length<=i/\(fs.Pairwise λa b=>v9 (o7 a) (o7 b)=false/\i9 b a=false)/\∀c∈ss.take i,∃t∈fs,i9 c t=true) ⟨[],_,rfl,ZZ,ZZ,List.Pairwise.nil,ZZ⟩ ?_ ?_)
 .rintro i u d hu ⟨fs,a2,rfl,O,a6,a0,a3⟩;rw[qA9]at hu;obtain ⟨x,hx,rfl⟩:=qF5.mp hu;obtain ⟨hi,ex⟩:=qA7.mp hx;have ht:ss.take (i+1)=ss.take i ++ [x]:=by rw[qW0,hx];rfl
  have a7:∀t∈fs,t.length=x.length:=λt a4=>by grind
  have ku:=eY (x:=x) a7;refine ⟨_,rfl,?_⟩;exists ku;cases hU:S7 fs x with
  | true=>
   exists rp18;refine ⟨fs,_,rfl,λt q=>by grind,ox,a0,λc hc=>?_⟩;rw[ht]at hc;rcases qF0.mp hc with q|q
   .show a3 c q
   .rw [qC5.mp q]
    obtain ⟨t,h1,h2⟩:=qY8.mp hU;show ⟨t,h1,h2⟩
  | false=>
   exists A4 (show noL (tC x)=true from C7 x);refine ⟨fs ++ [x],_,by rw[qC7];rfl,λt q=>?_,by rw[qB8,qE6];omega,?_,λc hc=>?_⟩
   .grind
   .refine qU1.mpr ⟨a0,qR7 _ _,λt a4 y hy=>?_⟩;rw[qC5.mp hy];refine ⟨?_,?_⟩
    .obtain ⟨j,hj,ej⟩:=qF2.mp (O t a4);rw[qI0]at hj;rw[qM5]at ej
     have:=qF9.mp hd j i ox hi ox
     rw[ej,ex]at this;show this
    grind[S7]
   .rw [ht]at hc
    rcases qF0.mp hc with q|q
    all_goals simp_all[R1]
 .rintro d ⟨fs,a2,rfl,O,a6,a0,a3⟩;rw[qA4]at a6;rw[qA4,qI2]at O a3;exists rp18;refine ⟨fs.reverse,by rw[qL1],λt q=>hp.mem_iff.mp (O t (qL2.mp q)),by rw[qD0];omega,?_,λc hc=>?_⟩
  .rw [qS8]
   refine qR1 (λ{b a} hb ha h=>?_) a0;have b0:=a5 b (O b hb);have b3:=a5 a (O a ha);have key:i9 b a=false:=by
    cases hq:i9 b a with
    |false=>rfl
    | true=>
     have:=Fm ox h.1 hq
     subst this;rw[R1]at hq;have h2:=h.2;rw[R1]at h2;cases h2
   refine ⟨?_,h.2,key⟩;cases hq:v9 (o7 a) (o7 b) with
   |true=>rfl
   | false=>
    have:=fY (cf _ _ h.1 hq)
    subst this;rw[R1]at key;cases key
  .obtain ⟨t,q1,q2⟩:=a3 c (hp.mem_iff.mpr hc);show ⟨t,qL2.mpr q1,q2⟩
def rN (O:P2 x y=true) (h2:P2 y z=true):P2 x z=true:=by
 cases z with
 |none=>rfl
 | some c=>
  cases y with
  |none=>cases h2
  | some b=>
   cases x with
   |none=>cases O
   | some a=>
    have O:=qN5 O;have h2:=qN5 h2;show qN4 ox
theorem U4:∀{a b c:Cap},a.length=b.length->b.length=c.length->i9 a b=true->i9 b c=true->i9 a c=true
 | [],[],[],_,_,_,_=>rfl
 | [],_::_,_,h,_,_,_=>by simp at h
 |_::_,[],_,h,_,_,_=>by simp at h
 |_,[],_::_,_,h,_,_=>by simp at h
 |_,_::_,[],_,h,_,_=>by simp at h
 | x::a,y::b,z::c,h1,h2,h3,h4=>by
  rw[jL,qH4]at h3 h4 ⊢;show ⟨rN h3.1 h4.1,U4 (by simpa using h1) (by simpa using h2) h3.2 h4.2⟩
def Az {most:Nat}(h1:1<=b.length) (h6:b.length<=6) (hm:∀m∈ms,okN b.length m) (h8:ms.length<=8) (a7:1<=most) (a5:most<=30):∃w u:W,Z6 [.tup [tI b,tM_ ms],.int most]=.ok w/\X8 [.tup [tI b,tM_ ms],.int most]=.ok u/\(w=.non/\u=.non\/∃(es:List GEnt) (O:List Cap),w=.lst (n8 (b.map some) es)/\es.length+1<=most/\GK (b.map some) ms es (es.length+1) 0/\u=.lst (O.map tC)/\(∀t∈O,t∈stC (b.map some) es)/\O.length<=es.length+1/\(O.Pairwise λa b=>v9 (o7 a) (o7 b)=true/\i9 a b=false/\i9 b a=false)/\∀c∈stC (b.map some) es,∃t∈O,i9 c t=true):=by
 obtain ⟨w,eg,hw⟩:=wQ h6 hm h8 a7 a5;have a0:(b.map some).length=b.length:=qA4 ..;rcases hw with rfl|⟨es,rfl,hes,hK⟩
 .refine ⟨_,_,eg,?_,.inl ⟨rfl,rfl⟩⟩;exists rpB,jq,eg
 .generalize hc:b.map some=c at *
  have b3:∀d∈stC c es,d.length=b.length:=λd hd=>by
   rcases qC4.mp hd with q|q
   .rw[q,a0]
   .obtain ⟨z,hz,ez⟩:=qB1.mp q;rw[<- ez,hK.len z hz,a0]
  obtain ⟨u,et,O,rfl,q1,q2,q3,q4⟩:=BU (n:=b.length) b3 h1 h6 (by rw[aZ];omega);rw[aZ]at q2;refine ⟨_,_,eg,?_,.inr ⟨es,O,rfl,hes,hK,rfl,q1,q2,q3,q4⟩⟩;have a4:∀N mg me f (h:∀o∈_,∃a6,_=_/\me a6=_),j6 N mg yes me (n8 c es) f=.ok (.lst ((stC c es).map tC)):=λN mg me f h=>by
   rw[iU,i4 (λo=>tC _) _ _ f (by simp;omega) h,<- AX];rw[qC0];rfl
  obtain ⟨a3,ab⟩:∃a3,a3=n8 c es:=⟨_,rfl⟩;rw[<- ab]at eg a4;exists rpB,jq,eg;rw[a4]
  .exists et
  .intro o ho;refine ⟨_,rfl,?_⟩;cases o with
   | none=>
    have b0:L2.atI [tC c,W.non,W.non] 0=some (tC c):=rfl;have b1:bT c none=.tup [tC c,.non,.non]:=rfl;have b2:gm c none=c:=rfl;exists b1,b0,b2,A4 (show noL (tC c)=true from C7 c)
   | some e=>
    have b0:L2.atI [tC e.1,.int (e.2.1:Int),.int (e.2.2:Int)] 0=some (tC e.1):=rfl;have b1:bT c (some e)=.tup [tC e.1,.int (e.2.1:Int),.int (e.2.2:Int)]:=rfl;have b2:gm c (some e)=e.1:=rfl;exists b1,b0,b2,A4 (show noL (tC e.1)=true from C7 e.1)
def atO {cs:Vw}(h:k<cs.length):L2.atI (cs.map oW) k=some (oW (cs.getD k none)):=by grind[A5]
noncomputable def W5 (O:List Cap)(p:Nat):List Vx:=O.map λt=>t.getD p none
noncomputable def xsP (O:List Cap)(p:Nat):List Int:=O.map λt=>(t.getD p none).getD 0
noncomputable def pkL (O:List Cap)(p:Nat):Zz:=if (W5 O p).any (·.isNone)=true then [.str "grows"] else [.str "at most",.int (F8 (xsP O p))]
def Am:∀ cs,fIn false .non (lC cs)=.ok (.bl (cs.any (·.isNone))):=λcs=>by
 unfold fIn;rw[FJ,iQ,xC3,qA2 rfl]
 have:((pds (cs.map oW)).any λy=>PyData.eqv y (pd .non))=cs.any (·.isNone):=by
  induction cs with
  |nil=>rfl
  | cons q qs O=>
   rw[qE1,pds,qK2,qK2,O];cases q <;> rfl
 change (match some ((pds (cs.map oW)).any _) with|some b=>R.ok (W.bl _)|none=>.stuck)=_;rw[this];rfl
def zp (h:(W5 ts p).any (·.isNone)=false):(W5 ts p).map oW=(xsP ts p).map W.int:=by
 unfold W5 xsP at *;rw[qC0,qC0];refine qD1 λt O=>?_;rw[qI7]at h
 have:=h _ (qB1.mpr ⟨t,O,rfl⟩)
 change oW (t.getD p none)=W.int ((t.getD p none).getD 0);cases hq:t.getD p none with
 |none=>grind
 |some x=>rfl
def za {O:List Cap}{most:Nat}(hc:X8 [w,.int most]=.ok (.lst (O.map tC))) (hl:O.length<=100) (h0:0<O.length) (hp:∀t∈O,p<t.length):iq [w,.int p,.int most]=.ok (.tup (pkL O p)):=by
 have ek:∀N mg me a (h:∀t∈O,ZX N a mg (tC t) λ ρ1=>me ρ1=.ok (oW (t.getD p none))),j6 N mg yes me (O.map tC) a=.ok (lC (W5 O p)):=λN mg me a h=>by
  rw[i4 (λt=>oW (t.getD p none)) _ _ a ox h];show congrArg (λl=>R.ok (W.lst l)) (by unfold W5;rw[qC0];rfl)
 have kin:=Am (W5 O p);obtain ⟨tw,a0⟩:∃tw,tw=O.map tC:=⟨_,rfl⟩;rw[<- a0]at hc ek;exists rpB,we,hc;rw[ek];rotate_left
 .intro t ht;have k:=atO (hp t ht);refine ⟨_,rfl,?_⟩;exists k
 exists kin;unfold pkL;cases hn:(W5 O p).any (·.isNone) with
 | true=>
  exists rp18
 | false=>
  have hb:U0 F8 [lI (xsP O p)]=.ok (.int (F8 (xsP O p))):=jz (by unfold xsP;rw[qA4];show h0);exists rp18;rw[zp hn];exists hb
def M6 {l:VW}(h:k<l.length):(l.map some).getD k none=some (l.getD k 0):=by
 grind
def xP {cs ds:Cap}(h:i9 cs ds=true) (hk:k<cs.length):P2 (cs.getD k none) (ds.getD k none)=true:=by
 grind[i9]
def uo x:P2 x x=true:=by
 cases x with
 |none=>rfl
 |some a=>show qN4 (qF3 a)
def fM {a:Type}n k (f:Nat->a) (d:a) (h:k<n):((List.range n).map f).getD k d=f k:=by
 rw[qA3,qA9,qE5 h];rfl
def BS (x e:Cap):i9 x (J1 x e)=true:=by
 unfold J1;by_cases h:i9 e x=true
 .rw [qA2 h]
  refine gq λk hk=>?_;rw[fM _ _ _ _ hk];unfold dj;by_cases q:x.getD k none=e.getD k none
  .rw[qA2 q];show uo _
  .rw[qA8 q];rfl
 .rw[qA8 h];show R1 x
def um c es:∀ l (x:Cap),i9 x (upC c es l x)=true
 | [],x=>R1 x
 |q::l,x=>U4 (fP x _).symm (aY c es l _).symm (BS x _) (um c es l _)
noncomputable def AO (st:VW)(m:Mv):Bool:=(List.range st.length).all λk=>decide (m.1.getD k 0<=st.getD k 0)
noncomputable def bhS (st:VW)(m:Mv):List Int:=(List.range st.length).map λk=>st.getD k 0-m.1.getD k 0+m.2.getD k 0
theorem jG st m:(bhS st m).length=st.length:=by simp [bhS]
def EV (h:AO st m=true) (hk:k<st.length):m.1.getD k 0<=st.getD k 0:=by
 show qN5 (qH5.mp h k (by simpa using hk))
theorem EU {t:Cap}(hm:okN st.length m) (O:st.length=t.length) (h:AO st m=true) (hu:i9 (st.map some) t=true):V9 t m=true:=by
 refine U4 (by rw[qA4,qA4,hm.1]) (by grind) (gq λk hk=>?_) hu;rw[qA4,hm.1]at hk;rw[M6 (by rw[hm.1];show hk),M6 hk];show qN4 (EV h hk)
theorem Kq {t:Cap}(hl:st.length=t.length) (hu:i9 (st.map some) t=true):i9 ((bhS st m).map some) (L4 t m)=true:=by
 refine gq λk hk=>?_;rw[qA4,jG]at hk;have hu:=xP hu (by rw[qA4];show hk);rw[M6 hk]at hu;rw[M6 (by rw[jG];show hk)];unfold bhS L4;rw[fM _ _ _ _ hk,fM _ _ _ _ ox];cases O:t.getD k none with
 |none=>rfl
 | some y=>
  rw[O]at hu;have hu:=qN5 hu;show qN4 (show _-_+_<=y+_ by omega)
def lT (h:t∈stC c es):∃a,a<=es.length/\t=sC c es a:=by
 obtain ⟨a,ha,O⟩:=qF2.mp h;refine ⟨a,by rw[aZ]at ha;omega,?_⟩
 grind[sC]
def Ls (h:m∈ms):∃k,k<ms.length/\m=mvN ms k:=by
 obtain ⟨k,hk,O⟩:=qF2.mp h;refine ⟨k,hk,?_⟩
 grind[mvN]
theorem xV (O:GK c ms es (es.length+1) 0) (ht:t∈stC c es) (hm:m∈ms) (a0:V9 t m=true):∃d∈stC c es,i9 (L4 t m) d=true:=by
 obtain ⟨a,ha,rfl⟩:=lT ht;obtain ⟨k,hk,rfl⟩:=Ls hm;have hl:=U6 O.len ha;have h1:i9 _ (z7 c ms es a k)=true:=um c es _ _;rcases O.set a k ox hk a0 with ⟨e,he,q⟩|⟨j,hj,_,h2⟩
 .obtain ⟨i,hi,ei⟩:=qF2.mp he
  have:=(O.beh i e (by rw[qA5 hi,ei])).2.1
  rw[q]at this;refine ⟨e.1,qA6 _ (qB1.mpr ⟨e,he,rfl⟩),?_⟩;rw[this];show h1
 .show ⟨_,mn hj,U4 (by rw[af,aF]) (by rw[aF,hl];show (U6 O.len hj).symm) h1 h2⟩
theorem bM {kk}(O:GK c ms es A kk):∀d∈stC c es,d.length=c.length:=λd hd=>by
 obtain ⟨a,ha,rfl⟩:=lT hd;show U6 O.len ha
def xa {O:List Cap}(hK:GK c ms es (es.length+1) 0) (a0:∀m∈ms,okN c.length m) (q1:∀t∈O,t∈stC c es) (q4:∀d∈stC c es,∃t∈O,i9 d t=true) (hl:st.length=c.length) (hm:m∈ms) (a3:AO st m=true) (hu:∃t∈O,i9 (st.map some) t=true):∃t∈O,i9 ((bhS st m).map some) t=true:=by
 grind[bM,Kq,xV,EU,U4,jG,af]
noncomputable def mvD (m:Mv)(p:Nat):Int:=m.2.getD p 0-m.1.getD p 0
noncomputable def dsp (ms:List Mv):List Nat->Nat->Int
 | [],_=>0
 |k::r,p=>mvD (mvN ms k) p+dsp ms r p
def gos (n:Nat) (ms:List Mv):List Nat->VY->Prop
 | [],_=>True
 |k::r,s=>k<ms.length/\(∀p,p<n->(mvN ms k).1.getD p 0<=s p)/\gos n ms r λp=>s p+mvD (mvN ms k) p
def K9:∀(r:Zq) s t,(∀p,p<n->s p<=t p)->gos n ms r s->gos n ms r t
 | [],_,_,_,_=>trivial
 |k::r,s,t,h,⟨h1,h2,h3⟩=>⟨h1,λp O=>qD9 (h2 p O) (h p O),K9 r _ _ (λp O=>by have:=h p O;omega) h3⟩
def eQ (q:Zq) p:∀r,dsp ms (r++q) p=dsp ms r p+dsp ms q p
 | []=>by change dsp ms q p=0+_;omega
 | k::r=>by
  change _+dsp ms (r++q) p=_+_+_;rw[eQ];omega
def eO (q:Zq):∀(r:Zq) s,gos n ms r s->gos n ms q (λp=>s p+dsp ms r p)->gos n ms (r++q) s
 | [],s,_,h=>K9 q _ s (λp _=>by change s p+0<=s p;omega) h
 |k::r,s,⟨h1,h2,h3⟩,h=>⟨h1,h2,eO q r _ h3 (K9 q _ _ (λp _=>by change s p+(_+_)<=s p+_+_;omega) h)⟩
noncomputable def fO (r:Zq):Nat->List Nat
 |0=>[]
 |k+1=>r++fO r k
def qU r p:∀k,dsp ms (fO r k) p=k*dsp ms r p
 |0=>by change 0=_*_;simp
 | k+1=>by
  change dsp ms (r++_) p=_;rw[eQ,qU];push_cast;omega
def qL (r:Zq):∀(k:Nat) s,(∀j,j<k->gos n ms r λp=>s p+j*dsp ms r p)->gos n ms (fO r k) s
 |0,_,_=>trivial
 | k+1,s,h=>by
  refine eO _ r s (K9 r _ s (λp _=>ZZ) (h 0 ox)) (qL r k _ λj O=>K9 r _ _ (λp _=>?_) (h (j+1) ox));push_cast;omega
def bnd (g:VY):∀n,∃B:Int,0<=B/\∀p,p<n->g p<=B
 |0=>⟨0,qF3 0,λp O=>absurd O (qD4 _)⟩
 | n+1=>by
  obtain ⟨B,h0,hB⟩:=bnd g n;refine ⟨max B (g n),ox,λp O=>?_⟩;by_cases e:p=n
  .omega
  .have:=hB p ox;omega
noncomputable def C2 (c:Cap) (N:Int)(p:Nat):Int:=(c.getD p none).getD N
def KS (n:Nat) (N:Int)(c:Cap)(s:VY):Prop:=∀p,p<n->(∀v,c.getD p none=some v->s p=v)/\(c.getD p none=none->N<=s p)
def Rz (n:Nat)(ms:List Mv)(x c:Cap):Prop:=∀N:Int,∃(O:Int)(r:Zq),gos n ms r (C2 x O)/\KS n N c λp=>C2 x O p+dsp ms r p
def Rz.refl c:Rz n ms c c:=λN=>⟨N,[],trivial,λp _=>⟨λv h=>by change _+0=v;unfold C2;rw[h];simp,λh=>by change N<=_+0;unfold C2;rw[h];simp⟩⟩
def gu {a b:Cap}(h:i9 a b=true) (O:p<a.length):P2 (a.getD p none) (b.getD p none)=true:=by
 grind[i9]
def Rz.aft (h:Rz n ms x c) (hk:k<ms.length) (hl:c.length=n) (hm:(mvN ms k).1.length=n) (ha:V9 c (mvN ms k)=true):Rz n ms x (L4 c (mvN ms k)):=λN=>by
 obtain ⟨B1,b1,a3⟩:=bnd _ n;obtain ⟨B2,b2,a0⟩:=bnd _ n;obtain ⟨MN,n0,n1⟩:∃x:Int,0<=x/\N<=x:=⟨_,qY9 ..,xA1 ..⟩;obtain ⟨N0,r,hg,hr⟩:=h _;refine ⟨N0,r ++ [k],eO _ r _ hg ⟨hk,λp hp=>?_,trivial⟩,λp hp=>?_⟩
 .obtain ⟨h1,h2⟩:(∀v,_=_->_+_=v)/\(_=none->MN+B1+B2<=_+_):=hr p hp;have hu:=gu ha (by rw[qA4,hm];show hp);have e1:((mvN ms k).1.map some).getD p none=some ((mvN ms k).1.getD p 0):=by
   grind
  rw[e1]at hu
  change _<=_+_;cases q:c.getD p none with
  | some v=>
   rw[q]at hu;have hu:=qN5 hu;rw[h1 v q];show hu
  | none=>
   have:(mvN ms k).1.getD p 0<=B1:=a3 p hp
   omega
 .obtain ⟨h1,h2⟩:=hr p hp
  change _/\(_=none->N<=_+_);have ed:dsp ms (r ++ [k]) p=dsp ms r p+mvD (mvN ms k) p:=by
   rw[eQ]
   change _+(_+0)=_;omega
  have ea:(L4 c (mvN ms k)).getD p none=(c.getD p none).map λx=>x+mvD (mvN ms k) p:=by
   unfold L4 mvD;rw[qA3,qA9,qE5 ox];rfl
  rw[ea,ed];refine ⟨λv O=>?_,λO=>?_⟩
  .cases q:c.getD p none with
   |none=>rw[q]at O;cases O
   | some u=>
    rw[q]at O
    have:=h1 u q
    have O:u+mvD (mvN ms k) p=v:=Option.some.inj O;omega
  .cases q:c.getD p none with
   |some u=>rw[q]at O;cases O
   | none=>
    have h2:=h2 q;have :-mvD (mvN ms k) p<=B2:=a0 p hp;omega
def Rz.rai (h:Rz n ms x c) (he:Rz n ms e c) (hl:c.length=n) (b4:e.length=n):Rz n ms x (J1 c e):=by
 by_cases hu:¬ i9 e c=true
 .grind[J1]
 have hu:i9 e c=true:=by simpa using hu
 intro N;obtain ⟨L1,l1,b0⟩:=bnd _ n;obtain ⟨U,u0,hU⟩:=bnd _ n;obtain ⟨Ne,O,ab,b3⟩:=he _;obtain ⟨D,d0,hD⟩:=bnd _ n;obtain ⟨MN,n0,n1⟩:∃x:Int,0<=x/\N<=x:=⟨_,qY9 ..,xA1 ..⟩;obtain ⟨ME,e0,e1⟩:∃x:Int,0<=x/\Ne<=x:=⟨_,qY9 ..,xA1 ..⟩;obtain ⟨k,hk⟩:∃k:Nat,_=MN+U:=⟨(MN+U).toNat,Int.toNat_of_nonneg (Int.add_nonneg n0 u0)⟩;have kD:0<=(k:Int)*D:=qF7 ox d0;obtain ⟨Nx,r1,a6,a5⟩:=h (MN+ME+L1+1+(k:Int)*D)
 -- how the loop moves each place
 have mv:∀p,p<n->(∃v u,e.getD p none=some v/\c.getD p none=some u/\v<=u/\v+dsp ms O p=u)\/(∃v,e.getD p none=some v/\c.getD p none=none/\1<=dsp ms O p/\v<=L1)\/(e.getD p none=none/\c.getD p none=none):=λp hp=>by
  have hup:=gu hu (p:=p) ox;obtain ⟨g1,g2⟩:(∀v,c.getD p none=some v->C2 e Ne p+dsp ms O p=v)/\(c.getD p none=none->L1+1<=C2 e Ne p+dsp ms O p):=b3 p hp;cases q:e.getD p none with
  | none=>
   cases q2:c.getD p none with
   |none=>show .inr (.inr ⟨rfl,rfl⟩)
   |some u=>rw[q,q2]at hup;cases hup
  | some v=>
   have a0:C2 e Ne p=v:=by unfold C2;rw[q];rfl
   have hL:(e.getD p none).getD 0<=L1:=b0 p hp;rw[q]at hL;have hL:v<=L1:=hL;cases q2:c.getD p none with
   | none=>
    have g2:=g2 q2;rw[a0]at g2;show .inr (.inl ⟨v,rfl,rfl,ox,hL⟩)
   | some u=>
    have g1:=g1 u q2;rw[a0]at g1;rw[q,q2]at hup;show .inl ⟨v,u,rfl,rfl,qN5 hup,g1⟩
 refine ⟨Nx,r1++fO O k,eO _ r1 _ a6 (qL O k _ λj hj=>K9 O _ _ (λp hp=>?_) ab),λp hp=>?_⟩
 .obtain ⟨g1,g2⟩:(∀v,c.getD p none=some v->C2 x Nx p+dsp ms r1 p=v)/\(c.getD p none=none->MN+ME+L1+1+(k:Int)*D<=C2 x Nx p+dsp ms r1 p):=a5 p hp;have a7 :-dsp ms O p<=D:=hD p hp
  change C2 e Ne p<=C2 x Nx p+dsp ms r1 p+(j:Int)*dsp ms O p;have j0:(0:Int)<=(j:Int):=ox;have jk:(j:Int)*D<=(k:Int)*D:=qH1 ox d0;rcases mv p hp with ⟨v,u,q1,q2,h1,h2⟩|⟨v,q1,q2,h1,h2⟩|⟨q1,q2⟩
  .have:=g1 u q2
   have hj:=qF7 j0 (show 0<=dsp ms O p by omega);have a0:C2 e Ne p=v:=by unfold C2;rw[q1];rfl
   rw[a0];omega
  .have:=g2 q2
   have hj:=qF7 j0 (show 0<=dsp ms O p by omega);have a0:C2 e Ne p=v:=by unfold C2;rw[q1];rfl
   rw[a0];omega
  .have:=g2 q2
   have hj:(j:Int)*(-D)<=(j:Int)*dsp ms O p:=qH3 ox j0;rw[qM7]at hj;have a0:C2 e Ne p=Ne:=by unfold C2;rw[q1];rfl
   rw[a0];omega
 .obtain ⟨g1,g2⟩:(∀v,c.getD p none=some v->C2 x Nx p+dsp ms r1 p=v)/\(c.getD p none=none->MN+ME+L1+1+(k:Int)*D<=C2 x Nx p+dsp ms r1 p):=a5 p hp;have a7 :-dsp ms O p<=D:=hD p hp;have a3 :-(c.getD p none).getD 0<=U:=hU p hp
  change (∀v,(J1 c e).getD p none=some v->C2 x Nx p+dsp ms (r1++fO O k) p=v)/\((J1 c e).getD p none=none->N<=C2 x Nx p+dsp ms (r1++fO O k) p);have k0:(0:Int)<=(k:Int):=ox;have ed:dsp ms (r1++fO O k) p=dsp ms r1 p+(k:Int)*dsp ms O p:=by rw[eQ,qU]
  have er:(J1 c e).getD p none=dj (c.getD p none) (e.getD p none):=by
   unfold J1;rw[qA2 hu,qA3,qA9,qE5 ox];rfl
  rw[er,ed];rcases mv p hp with ⟨v,u,q1,q2,h1,h2⟩|⟨v,q1,q2,h1,h2⟩|⟨q1,q2⟩
  .have g1:=g1 u q2;rw[q1,q2];unfold dj;by_cases a4:u=v
   .subst a4;have hz:dsp ms O p=0:=ox;rw[qA2 rfl,hz];show ⟨(λw hw=>by have hw:=Option.some.inj hw;omega),(λhw=>by cases hw)⟩
   .rw [qA8 (λz=>a4 (Option.some.inj z))]
    refine ⟨(λw hw=>by cases hw),λ_=>?_⟩;have hj:(k:Int)*1<=(k:Int)*dsp ms O p:=qH3 ox k0;rw[q2]at a3;have a3:-u<=U:=a3;omega
  .have g2:=g2 q2;rw[q1,q2];unfold dj;rw[qA8 (λz=>by cases z)];refine ⟨(λw hw=>by cases hw),λ_=>?_⟩;have hj:=qF7 k0 (show 0<=dsp ms O p by omega);omega
  .have g2:=g2 q2;rw[q1,q2];unfold dj;rw[qA2 rfl];refine ⟨(λw hw=>by cases hw),λ_=>?_⟩;have hj:(k:Int)*(-D)<=(k:Int)*dsp ms O p:=qH3 ox k0;rw[qM7]at hj;omega
def ul {S:Zq}:∀ l x,(∀q∈l,q∈S)->(∀q∈S,(sC c es q).length=n)->x.length=n->(∀q∈S,Rz n ms (sC c es q) x)->∀q∈S,Rz n ms (sC c es q) (upC c es l x)
 | [],_,_,_,_,h=>h
 | a::l,x,hl,hn,hx,h=>by
  have ha:=hl a qB2;show ul l _ (λq O=>hl q (qA6 _ O)) hn (by rw[fP];show hx) λq O=>(h q O).rai (h a ha) hx (hn a ha)
def GK.rz {kk}(h:GK c ms es A kk) (hm:∀m∈ms,m.1.length=c.length):∀j,j<=es.length->∀i∈A6 es j,Rz c.length ms (sC c es i) (sC c es j):=by
 intro j
 induction j using Nat.strongRecOn with
 | _ j ih=>
  intro hj i hi;cases j with
  |zero=>rw[qC5.mp hi];show .refl _
  | succ j=>
   have he:es[j]?=_:=qA5 ox;have hp:=h.par j _ he;rw[O4 h.par he]at hi;rcases qC4.mp hi with rfl|hi
   .show .refl _
   obtain ⟨a5,a3,_⟩:=h.beh j _ he;have hk:=h.k8 _ (qD7 he);have a6:=(eh h.par es[j].2.1 ox).1;have hlen:∀q∈_,(sC c es q).length=c.length:=λq O=>U6 h.len (by have:=a6 q O;omega);have a4:(mvN ms es[j].2.2).1.length=c.length:=hm _ (by grind[mvN]);have a0:=U6 h.len (a:=es[j].2.1) ox;rw[uS he,a3];show ul _ _ (λq O=>O) hlen (by rw[af];show a0) (λq O=>(ih es[j].2.1 ox ox q O).aft hk a0 a4 a5) i hi
def xI (hp:aW es):∀j,j<=es.length->0∈A6 es j:=by
 intro j
 induction j using Nat.strongRecOn with
 | _ j ih=>
  intro hj;cases j with
  |zero=>grind[uf]
  | succ j=>
   have O:es[j]?=_:=qA5 ox
   have:=hp j _ O
   rw[O4 hp O];show qA6 _ (ih _ ox ox)
noncomputable def M3:Nat->VY->Int
 |0,_=>0
 |n+1,f=>f n-M3 n f
def cJ:∀{n},(∀k,k<n->f k=g k)->M3 n f=M3 n g
 |0,_=>rfl
 | n+1,h=>by
  change f n-_=g n-_;rw[h n (qC8 n),cJ λk hk=>h k (qD2 hk)]
def oN a b f g:∀n,M3 n (λk=>a*f k+b*g k)=a*M3 n f+b*M3 n g
 |0=>by simp [M3]
 | n+1=>by
  change _-_=a*(f n-_)+b*(g n-_);rw[oN,qM8,qM8];omega
def dY:∀{n},(∀k,k<n->f k=0)->M3 n f=0
 |0,_=>rfl
 | n+1,h=>by
  change f n-_=0;rw[h n (qC8 n),dY λk hk=>h k (qD2 hk)];rfl
def oM:∀{n},i+1<n->(∀k,k<n->k≠i->k≠i+1->f k=0)->f i=f (i+1)->M3 n f=0
 |0,h,_,_=>absurd h (qD4 _)
 | n+1,h,hz,he=>by
  change f n-_=0;by_cases e:n=i+1
  .subst e
   change _-(f i-_)=0;rw[dY λk hk=>hz k ox ox ox,he];omega
  .rw[hz n (qC8 n) ox e,oM ox (λk hk=>hz k ox) he];rfl
noncomputable def skp (k i:Nat):Nat:=if i<k then i else i+1
noncomputable def det:Nat->VX->Int
 |0,_=>1
 |n+1,v=>M3 (n+1) λk=>v k n*det n λi=>v (skp k i)
def uK (h:i<n):skp k i<n+1:=by unfold skp;split <;> omega
def FH k i:skp k i≠k:=by unfold skp;split <;> omega
def P0:∀{n}{v w},(∀i,i<n->∀p,p<n->v i p=w i p)->det n v=det n w
 |0,_,_,_=>rfl
 | n+1,v,w,h=>cJ λk hk=>by
  rw[h k hk n (qC8 n),P0 λi hi p O=>h _ (uK hi) p (qD2 O)]
noncomputable def upv (v:VX)(i:Nat)(x:VY):Nat->Nat->Int:=λj=>if j=i then x else v j
def U2 v i x:upv v i x i=x:=qA2 rfl
theorem M5 (h:j≠i):upv v i x j=v j:=qA8 h
def iL (h:k≠i):(λj=>upv v i x (skp k j))=upv (λj=>v (skp k j)) (if i<k then i else i-1) x:=by
 funext j
 unfold upv;by_cases e:skp k j=i
 .rw [qA2 e]
  have:j=if i<k then i else i-1:=by
   unfold skp at e
   split at e <;> split <;> omega
  rw[qA2 this]
 .rw [qA8 e]
  have:j≠if i<k then i else i-1:=by
   unfold skp at e;intro q;apply e
   split at q <;> split <;> omega
  rw[qA8 this]
def Y0:(λj=>upv v i x (skp i j))=λj=>v (skp i j):=by
 funext j
 show M5 (FH i j)
def O9 a b x y:∀ n v i,i<n->det n (upv v i λp=>a*x p+b*y p)=a*det n (upv v i x)+b*det n (upv v i y)
 |0,_,_,h=>absurd h (qD4 _)
 | n+1,v,i,h=>by
  change _=a*M3 _ _+b*M3 _ _;rw[<- oN];refine cJ λk hk=>?_;by_cases e:k=i
  .subst e;rw[U2,U2,U2,Y0,Y0,Y0,qL4,qE4,qE4]
  .rw[M5 e,M5 e,M5 e,iL e,iL e,iL e,O9 a b x y n _ _ (by split <;> omega),qM9,<- qE4,<- qE4,<- qE4,<- qE4,qE0 _ a,qE0 _ b]
def eT:∀ n v i,i+1<n->v i=v (i+1)->det n v=0
 |0,_,_,h,_=>absurd h (qD4 _)
 | n+1,v,i,h,e=>by
  refine oM h (λk hk O h2=>?_) ?_
  .have:det n (λj=>v (skp k j))=0:=by
    by_cases q:k<i
    .refine eT n _ (i-1) ox ?_;unfold skp;rw[qA8 ox,qA8 ox,show i-1+1=i by omega];show e
    .refine eT n _ i ox ?_;unfold skp;rw[qA2 ox,qA2 ox];show e
   rw[this,qJ7]
  grind[skp]
def K1 (h:i≠j):upv (upv v i x) j y=upv (upv v j y) i x:=by
 grind[upv]
theorem R0 v i:upv v i (v i)=v:=by
 grind[upv]
def BQ v i x y:upv (upv v i x) i y=upv v i y:=by
 grind[upv]
def oj (hi:i<n) (hj:j<n) (O:i≠j) (h0:∀ v x,det n (upv (upv v i x) j x)=0) v x y:det n (upv (upv v i x) j y) =-det n (upv (upv v i y) j x):=by
 have h:=h0 v λp=>1*x p+1*y p;rw[O9 1 1 x y n _ j hj,K1 O,O9 1 1 x y n _ i hi,K1 (j:=j) O (y:=y),O9 1 1 x y n _ i hi]at h;have h1:=h0 v x;have h2:=h0 v y;rw[K1 O]at h1 h2;rw[K1 O (y:=y),K1 O (y:=x)];omega
def jC:∀ d i,i+d+1<n->∀ v x,det n (upv (upv v i x) (i+d+1) x)=0
 |0,i,h,v,x=>eT n _ i h (by rw[U2,M5 ox,U2])
 | d+1,i,h,v,x=>by
  have key:=oj (i:=i+d+1) (j:=i+d+1+1) ox h ox (λv x=>eT n _ (i+d+1) h (by rw[U2,M5 ox,U2])) (upv v i x) (v (i+d+1)) x;have O:upv (upv (upv v i x) (i+d+1) (v (i+d+1))) (i+d+1+1) x=upv (upv v i x) (i+(d+1)+1) x:=by
   grind[R0,M5]
  rw[O]at key;rw[key,K1 (j:=i+d+1+1) ox,K1 (j:=i+d+1+1) ox,jC d i ox];rfl
def rd (hi:i<n) (hj:j<n) (O:i≠j) v x:det n (upv (upv v i x) j x)=0:=by
 rcases Nat.lt_or_gt_of_ne O with q|q
 .have:=jC (n:=n) (j-i-1) i ox v x
  rwa [show i+_+1=j by omega]at this
 .have:=jC (n:=n) (i-j-1) j ox v x
  rw[show j+_+1=i by omega]at this;rw[K1 O];show this
theorem jB (hi:i<n) (hk:k<n) (O:k≠i) v:det n (upv v i (v k))=0:=by
 have:=rd hk hi O v (v k)
 rwa [R0]at this
def Av (hi:i<n) (hr:r<n) (O:r≠i) v c:det n (upv (upv v r c) i (v r)) =-det n (upv v i c):=by
 rw[oj hr hi O (rd hr hi O) v c _,R0]
def iD:∀{n},(∀k,k<n->-B<=f k/\f k<=B)->-(n*B)<=M3 n f/\M3 n f<=n*B
 |0,_=>by simp [M3]
 | n+1,h=>by
  have O:=h n (qC8 n);have h2:=iD λk hk=>h k (qD2 hk)
  change -_<=f n-_/\f n-_<=_*B;have e:((n+1:Nat))*B=n*B+B:=by
   rw[show ((n+1:Nat))=(n:Int)+1 by omega,qL4,qG8]
  omega
def oh:∀n,det n (λi p=>if i=p then 1 else 0)=1
 |0=>rfl
 | n+1=>by
  change (if n=n then _ else 0)*_-M3 n (λk=>(if k=n then 1 else 0)*_)=1;have O:det n (λi p=>if skp n i=p then 1 else 0)=1:=by
   refine (P0 λi hi p hp=>?_).trans (oh n);unfold skp;rw[qA2 hi]
  rw[qA2 rfl,O,dY]
  .rfl
  .intro k hk;rw[qA8 ox,qK9]
noncomputable def d9:Nat->VY->Int
 |0,_=>0
 |n+1,f=>d9 n f+f n
def i7:∀{n},(∀k,k<n->f k=g k)->d9 n f=d9 n g
 |0,_=>rfl
 | n+1,h=>by
  change _+f n=_+g n;rw[h n (qC8 n),i7 λk hk=>h k (qD2 hk)]
def o0 a f:∀n,d9 n (λk=>a*f k)=a*d9 n f
 |0=>by simp [d9]
 | n+1=>by
  change _+a*f n=a*(_+f n);rw[o0,qM9]
def B5 f g:∀n,d9 n (λk=>f k+g k)=d9 n f+d9 n g
 |0=>rfl
 | n+1=>by
  change _+_=_+f n+(_+g n);rw[B5];omega
theorem A9:∀{n},(∀k,k<n->f k=0)->d9 n f=0
 |0,_=>rfl
 | n+1,h=>by
  change _+f n=0;rw[h n (qC8 n),A9 λk hk=>h k (qD2 hk)];rfl
def X0:∀{n},r<n->(∀k,k<n->k≠r->f k=g k)->d9 n f=d9 n g+(f r-g r)
 |0,h,_=>absurd h (qD4 _)
 | n+1,h,e=>by
  change _+f n=_+g n+_;by_cases q:r=n
  .rw[i7 λk hk=>e k ox ox];omega
  .rw[X0 ox λk hk=>e k ox,e n (qC8 n) ox];omega
def F4 (h:r<n) (e:∀k,k<n->k≠r->f k=0):d9 n f=f r:=by
 rw[X0 h e,A9 λ_ _=>rfl];omega
def ah (f:VX) m:∀n,d9 n (λi=>d9 m λj=>f i j)=d9 m λj=>d9 n λi=>f i j
 |0=>(A9 λ_ _=>rfl).symm
 | n+1=>by
  change _+_=d9 m λj=>_+_;rw[ah,B5]
def aI:∀{n},(∀k,k<n->f k<=0)->d9 n f<=0
 |0,_=>qF3 0
 | n+1,h=>by
  have O:=h n (qC8 n);have h2:=aI λk hk=>h k (qD2 hk)
  change _+f n<=0;omega
def ye (hr:r<n) (h:∀k,k<n->f k<=0) (hn:f r<0):d9 n f<0:=by
 have O:=X0 (g:=λk=>if k=r then 0 else f k) hr λk _ q=>by rw[qA8 q]
 have h2:=aI λk hk=>by
  change (if k=r then 0 else f k)<=0
  split
  .show qF3 0
  .show h k hk
 rw[O];omega
def eR (hi:i<m) v (a:VY) (x:VX):∀n,det m (upv v i λp=>d9 n λk=>a k*x k p)=d9 n λk=>a k*det m (upv v i (x k))
 | 0=>by
  change det m (upv v i λ_=>0)=0
  have:=O9 0 0 (λ_=>0) (λ_=>0) m v i hi
  omega
 | n+1=>by
  change _=_+a n*_;rw[<- eR hi v a x n]
  have:=O9 1 (a n) (λp=>d9 n λk=>a k*x k p) (x n) m v i hi
  simp [qG8]at this;show this
structure Tab (m n:Nat) (A:VX) (c:VY) (h:Nat->Nat) (t:VX) (o:VY) (d:Int):Prop where
 dp:0<d
 hn:∀i,i<m->h i<n
 dd:d=det m λi=>A (h i)
 tt:∀i,i<m->∀j,j<n->t i j=det m (upv (λi=>A (h i)) i (A j))
 cr:∀j,j<n->∀p,p<m->d*A j p=d9 m λi=>t i j*A (h i) p
 oo:∀j,j<n->o j=d*c j-d9 m λi=>c (h i)*t i j
noncomputable def hup (h:Nat->Nat)(r s:Nat):Nat->Nat:=λi=>if i=r then s else h i
def Tab.unit (T:Tab m n A c h t o d) (hi:i<m) (hk:k<m):t i (h k)=if i=k then d else 0:=by
 rw[T.tt i hi _ (T.hn k hk)];by_cases e:i=k
 .subst e;rw[qA2 rfl,T.dd]
  grind[R0]
 .rw [qA8 e]
  show jB hi hk (λq=>e q.symm) _
def Tab.ozero (T:Tab m n A c h t o d) (hk:k<m):o (h k)=0:=by
 rw[T.oo _ (T.hn k hk),F4 hk λi hi q=>by rw[T.unit hi hk,qA8 q,qJ7],T.unit hk hk,qA2 rfl,qE0];omega
def sW {A:VX}:(λi=>A (hup h r s i))=upv (λi=>A (h i)) r (A s):=by
 grind[hup,upv]
def Tab.step (T:Tab m n A c h t o d) (hr:r<m) (hs:s<n) (hi:i<m) (hj:j<n) (O:i≠r):d*det m (upv (λi=>A (hup h r s i)) i (A j))=t i j*t r s-t i s*t r j:=by
 rw[sW];obtain ⟨v,hv⟩:∃v:Nat->Nat->Int,v=_:=⟨_,rfl⟩;have e1:d*det m (upv (upv v r (A s)) i (A j))=det m (upv (upv v r (A s)) i λp=>d*A j p):=by
  have:=O9 d 0 (A j) (A j) m (upv v r (A s)) i hi
  omega
 have e2:det m (upv (upv v r (A s)) i λp=>d*A j p)=det m (upv (upv v r (A s)) i λp=>d9 m λk=>t k j*v k p):=by
  refine P0 λa ha p hp=>?_;unfold upv;by_cases q:a=i
  .rw[qA2 q,qA2 q,T.cr j hj p hp,hv]
  .rw[qA8 q,qA8 q]
 rw[<- hv,e1,e2,eR hi];have hd:det m (upv (upv v r (A s)) i (v i))=t r s:=by
  have:upv (upv v r (A s)) i (v i)=upv v r (A s):=by
   have:=R0 (upv v r (A s)) i
   rwa [M5 O]at this
  rw[this,T.tt r hr s hs,hv]
 have a0:det m (upv (upv v r (A s)) i (v r)) =-t i s:=by
  rw[Av hi hr (λq=>O q.symm),T.tt i hi s hs,hv]
 rw [X0 (g:=λk=>if k=r then t r j*- t i s else 0) hi λk hk q=>by
  grind[jB,M5],F4 hr λk _ q=>qA8 q,hd]
 rw[qM7,qE0];omega
def Tab.inj (T:Tab m n A c h t o d) (hi:i<m) (hk:k<m) (e:h i=h k):i=k:=by
 have O:=T.unit hi hk;rw[<- e,T.unit hi hi,qA2 rfl]at O
 have:=T.dp
 omega
def Tab.pivot (T:Tab m n A c h t o d) (hr:r<m) (hs:s<n) (hp:0<t r s) (h1:∀j,j<n->t' r j=t r j) (h2:∀i,i<m->i≠r->∀j,j<n->d*t' i j=t i j*t r s-t i s*t r j) (h3:∀j,j<n->d*o' j=o j*t r s-o s*t r j):Tab m n A c (hup h r s) t' o' (t r s):=by
 have hd:=T.dp;have a0:∀{x y:Int},d*x=d*y->x=y:=λe=>Int.eq_of_mul_eq_mul_left ox e;have a4:∀i,i≠r->hup h r s i=h i:=λi q=>qA8 q;have a3:hup h r s r=s:=qA2 rfl
 -- sums over the new lines, times d
 have key:∀(j:Nat),j<n->∀g:Nat->Int,d*d9 m (λi=>g (hup h r s i)*t' i j)=t r s*d9 m (λi=>g (h i)*t i j)-t r j*d9 m (λi=>g (h i)*t i s)+d*(g s*t r j):=λj O g=>by
  rw [<- o0,X0 (g:=λi=>t r s*(g (h i)*t i j)+- t r j*(g (h i)*t i s)) hr λi hi q=>by
   grind,B5,o0,o0,a3,h1 j O,qN0,qN0,show _*(g (h r)*_)=t r j*(g (h r)*t r s) by grind]
  omega
 show {
  dp:=hp
  hn:=λi hi=>by
   by_cases q:i=r
   .rw[q,a3];show hs
   .rw[a4 i q];show T.hn i hi
  dd:=by rw[sW];show T.tt r hr s hs
  tt:=λi hi j O=>by
   by_cases q:i=r
   .subst q;rw[h1 j O,sW,BQ];show T.tt i hi j O
   .refine a0 ?_;rw[h2 i hi q j O,T.step hr hs hi O q]
  cr:=λj O p hp=>by
   refine a0 ?_;have e1:=key j O λa=>A a p;have e2:d9 m (λi=>A (h i) p*t i j)=d*A j p:=by
    rw[T.cr j O p hp];show i7 λi _=>qE0 _ _
   have e3:d9 m (λi=>A (h i) p*t i s)=d*A s p:=by
    rw[T.cr s hs p hp];show i7 λi _=>qE0 _ _
   have e4:d9 m (λi=>t' i j*A (hup h r s i) p)=d9 m (λi=>A (hup h r s i) p*t' i j):=i7 λi _=>qE0 _ _;rw[e4,e1,e2,e3,show t r j*(d*A s p)=d*(A s p*t r j) by rw[qE0 (t r j),qE4],show d*(t r s*A j p)=t r s*(d*A j p) by rw[<- qE4,qE0 d,qE4]];omega
  oo:=λj O=>by
   refine a0 ?_;have e1:=key j O c;have e2:d9 m (λi=>c (h i)*t i j)=d*c j-o j:=by rw[T.oo j O];omega
   have e3:d9 m (λi=>c (h i)*t i s)=d*c s-o s:=by rw[T.oo s hs];omega
   rw[h3 j O,qM8,e1,e2,e3,qM8,qM8,show t r j*(d*c s)=d*(c s*t r j) by rw[qE0 (t r j),qE4],show d*(t r s*c j)=t r s*(d*c j) by rw[<- qE4,qE0 d,qE4],qE0 (o j),qE0 (o s)];omega }
def Tab.ker (T:Tab m n A c h t o d){y:VY}(hy:∀p,p<m->d9 n (λj=>y j*A j p)=0):d9 n (λj=>o j*y j)=d*d9 n (λj=>c j*y j):=by
 have hz:∀i,i<m->d9 n _=0:=λi hi=>by
  have e:d9 n (λj=>y j*t i j)=_:=i7 λj O=>by rw[T.tt i hi j O]
  rw[e,<- eR hi];have e2:det m (upv (λi=>A (h i)) i λp=>d9 n λk=>y k*A k p)=det m (upv (λi=>A (h i)) i λp=>0*0+0*0):=P0 λa _ p hp=>by
   unfold upv;by_cases q:a=i
   all_goals simp_all
  rw[e2,O9 0 0 _ _ m _ i hi,qK9];rfl
 have e:_=d9 n (λj=>d*(c j*y j)+-1*d9 m (λi=>c (h i)*(y j*t i j))):=i7 λj O=>by
  change o j*y j=_;rw[T.oo j O,Int.sub_mul,qE4,qE0 (d9 m _),<- o0,show _=d9 m (λi=>c (h i)*(y j*t i j)) from i7 λi _=>by grind];omega
 have e3:d9 m (λi=>d9 n λj=>c (h i)*(y j*t i j))=0:=A9 λi hi=>by
  simp_all[o0]
 rw[e,B5,o0,o0,ah,e3];omega
noncomputable def o8 (m:Nat)(h:Nat->Nat)(t:VX) (d:Int)(s j:Nat):Int:=(if j=s then d else 0)+(-1)*d9 m λi=>if h i=j then t i s else 0
def Tab.dirSum (T:Tab m n A c h t o d) (hs:s<n) (g:VY):d9 n (λj=>g j*o8 m h t d s j)=g s*d-d9 m λi=>g (h i)*t i s:=by
 have e:d9 n (λj=>g j*o8 m h t d s j)=d9 n (λj=>g j*(if j=s then d else 0)+_*d9 m λi=>g j*_):=i7 λj _=>by
  unfold o8;rw[qM9,o0,<- qE4,qE0 _ (-1),qE4]
 rw[e,B5,o0,ah,F4 hs λj _ q=>by rw[qA8 q,qJ7],qA2 rfl];have O:d9 m (λi=>d9 n λj=>g j*if h i=j then _ else 0)=d9 m λi=>_*t i s:=i7 λi hi=>by
  rw[F4 (T.hn i hi) λj _ q=>ox,qA2 rfl]
 omega
def Tab.dirKer (T:Tab m n A c h t o d) (hs:s<n):∀p,p<m->d9 n (λj=>o8 m h t d s j*A j p)=0:=λp O=>by
 have e:_=d9 n (λj=>A j p*o8 m h t d s j):=i7 λj _=>qE0 ..;rw[e,T.dirSum hs _,qE0,T.cr s hs p O,i7 λi _=>qE0 ..];omega
def Tab.dirO (T:Tab m n A c h t o d) (hs:s<n):d9 n (λj=>c j*o8 m h t d s j)=o s:=by
 rw[T.dirSum hs c,T.oo s hs,qE0]
def Tab.dirB (T:Tab m n A c h t o d) (hi:i<m) (O:h i≠s):o8 m h t d s (h i) =-t i s:=by
 unfold o8;rw[qA8 O,F4 hi λk hk q=>qA8 λe=>q (T.inj hk hi e),qA2 rfl];omega
def Tab.dirN (hj:∀i,i<m->h i≠j) (O:j≠s):o8 m h t d s j=0:=by
 unfold o8;rw[qA8 O,A9 λi hi=>qA8 (hj i hi)];rfl
def Tab.dirS (O:∀i,i<m->h i≠s):o8 m h t d s s=d:=by
 unfold o8;rw[qA2 rfl,A9 λi hi=>qA8 (O i hi)];omega
structure TB (m n:Nat) (A:VX) (c:VY) where
 h:Nat->Nat
 t:Nat->Nat->Int
 o:Nat->Int
 d:Int
 ok:Tab m n A c h t o d
def Bas {m n}{A}{c}(S:TB m n A c)(j:Nat):Prop:=∃i,i<m/\S.h i=j
structure Mv_ {m n:Nat}{A:VX}{c:VY}(S S':TB m n A c) (e l:Nat):Prop where
 en:e<n
 eo:0<S.o e
 el:∀j,j<e->S.o j<=0
 lv:∃r,r<m/\S.h r=l/\0<S.t r e/\(∀i,i<m->0<S.t i e->l<=S.h i)/\S'.h=hup S.h r e
def Mv_.nb {S:TB m n A c}(M:Mv_ S S' e l):¬ Bas S e:=λO=>by
 obtain ⟨i,hi,q⟩:=O
 have:=S.ok.ozero hi
 have:=M.eo
 omega
def Mv_.lb {S:TB m n A c}(M:Mv_ S S' e l):Bas S l:=by
 obtain ⟨r,O,q,_⟩:=M.lv;show ⟨r,O,q⟩
def Mv_.bas {S:TB m n A c}(M:Mv_ S S' e l) j:Bas S' j↔j=e\/Bas S j/\j≠l:=by
 obtain ⟨r,hr,q,_,_,hh⟩:=M.lv;constructor
 .rintro ⟨i,hi,O⟩;rw[hh]at O;unfold hup at O;by_cases z:i=r
  .omega
  .rw [qA8 z]at O
   refine .inr ⟨⟨i,hi,O⟩,λw=>z (S.ok.inj hi hr (by rw[O,q,w]))⟩
 .rintro (O|⟨⟨i,hi,O⟩,e2⟩)
  .show ⟨r,hr,by rw[hh,O];show qA2 rfl⟩
  .refine ⟨i,hi,?_⟩;rw[hh]
   grind[hup]
def Mp {S1 a7 O a4:TB m n A c}(M1:Mv_ S1 a7 q l1) (M2:Mv_ O a4 s q) (ab:s<q) (hup:∀j,q<j->j<n->Bas O j->Bas S1 j):False:=by
 obtain ⟨r,hr,a6,a5,a0,_⟩:=M2.lv;have hs:=M2.en;have nb:=M2.nb;have hq:=M1.en;have k1:=S1.ok.ker (O.ok.dirKer hs);rw[O.ok.dirO hs]at k1;have b3:=Int.mul_pos S1.ok.dp M2.eo;have b4:d9 n (λj=>S1.o j*o8 m O.h O.t O.d s j)<0:=by
  have a3:o8 m O.h O.t O.d s q =-O.t r s:=by
   have:=O.ok.dirB (s:=s) hr ox
   rwa [a6]at this
  refine ye hq (λj hj=>?_) ?_
  .by_cases j1:j=s
   .subst j1;rw[Tab.dirS λi hi e=>nb ⟨i,hi,e⟩];show qR8 (M1.el j ab) (by have:=O.ok.dp;omega)
   .by_cases j2:Bas O j
    .obtain ⟨i,hi,ei⟩:=j2;have hy:=O.ok.dirB (s:=s) hi ox;rw[ei]at hy;rcases qW4 j q with z|z|z
     .have h1:=M1.el j z;have h2:=λw=>by have:=a0 i hi w;omega
      show qR8 h1 ox
     .subst z;show Int.mul_nonpos_of_nonneg_of_nonpos (by have:=M1.eo;omega) ox
     .obtain ⟨i1,b0,e1⟩:=hup j z hj ⟨i,hi,ei⟩;rw[<- e1,S1.ok.ozero b0,qK9];omega
    .rw [Tab.dirN (λi hi e=>j2 ⟨i,hi,e⟩) j1,qJ7]
     omega
  .rw [a3,qM7]
   have:=Int.mul_pos M1.eo a5
   omega
 omega
def Ho q:2^(q+1)=2*2^q:=by rw[Nat.pow_succ,qY1]
def eC (S:Nat->TB m n A c) (e l:Nat->Nat):∀ q a b,a<=b->(∀i,a<=i->i<b->Mv_ (S i) (S (i+1)) (e i) (l i)/\e i<q/\l i<q)->b-a<2^q
 | 0,a,b,hab,h=>by
  simp_all
 | q+1,a,b,hab,h=>by
  -- what stands above q stays
  have stay:∀j,q<j->∀k,a<=k->k<=b->(Bas (S k) j↔Bas (S a) j):=λj hj k=>by
   induction k with
   | zero=>
    omega
   | succ k ih=>
    intro h1 h2;by_cases z:a=k+1
    .rw[z]
    .obtain ⟨M,m1,m2⟩:=h k ox ox;rw[M.bas,<- ih ox ox];constructor
     .rintro (w|w)
      .omega
      .show w.1
     .show λw=>.inr ⟨w,ox⟩
  have a0:∀i k,a<=i->i<b->a<=k->k<b->e i=q->l k=q->False:=λi k O i2 k1 k2 hi hk=>by
   obtain ⟨Mi,_,_⟩:=h i O i2;obtain ⟨Mk,mk,_⟩:=h k k1 k2;rw[hi]at Mi;rw[hk]at Mk;have ab:e k≠q:=λw=>Mk.nb (by rw[w];show Mk.lb);show Mp Mi Mk ox λj hj _ hb=>(stay j hj i O ox).mpr ((stay j hj k k1 ox).mp hb)
  by_cases a5:∃i,a<=i/\i<b/\(e i=q\/l i=q)
  .have a4:∀i k,a<=i->i<k->k<b->(e i=q\/l i=q)->(e k=q\/l k=q)->False:=λi k O ik kb hi hk=>by
    obtain ⟨Mi,_,_⟩:=h i O ox;obtain ⟨Mk,_,_⟩:=h k ox kb;rcases hi with hi|hi
    .have a6:∀x,a<=x->x<b->l x≠q:=λx x1 x2 w=>a0 i x O ox x1 x2 hi w;have a3:∀x,i+1<=x->x<=b->Bas (S x) q:=λx=>by
      induction x with
      |zero=>intro w;omega
      | succ x ih=>
       intro x1 x2;obtain ⟨M,_,_⟩:=h x ox ox;by_cases z:x=i
       .subst z;show (M.bas q).mpr (.inl hi.symm)
       .show (M.bas q).mpr (.inr ⟨ih ox ox,λw=>a6 x ox ox w.symm⟩)
     rcases hk with hk|hk
     .show Mk.nb (by rw[hk];show a3 k ox ox)
     .show a6 k ox kb hk
    .have a7:∀x,a<=x->x<b->e x≠q:=λx x1 x2 w=>a0 x i x1 x2 O ox w hi;have a3:∀x,i+1<=x->x<=b->¬ Bas (S x) q:=λx=>by
      induction x with
      |zero=>intro w;omega
      | succ x ih=>
       intro x1 x2 hb;obtain ⟨M,_,_⟩:=h x ox ox;rcases (M.bas q).mp hb with w|w
       .show a7 x ox ox w.symm
       .by_cases z:x=i
        .subst z;show w.2 hi.symm
        .show ih ox ox w.1
     rcases hk with hk|hk
     .show a7 k ox kb hk
     .show a3 k ox ox (by rw[<- hk];show Mk.lb)
   obtain ⟨i,O,i2,hi⟩:=a5;have h1:=eC S e l q a i O λx x1 x2=>⟨(h x x1 ox).1,by
    have:=(h x x1 ox).2.1
    have:e x≠q:=λw=>a4 x i x1 x2 i2 (.inl w) hi
    omega,by
    have:=(h x x1 ox).2.2
    have:l x≠q:=λw=>a4 x i x1 x2 i2 (.inr w) hi
    omega⟩
   have h2:=eC S e l q (i+1) b ox λx x1 x2=>⟨(h x ox x2).1,by
    have:=(h x ox x2).2.1
    have:e x≠q:=λw=>a4 i x O ox x2 hi (.inl w)
    omega,by
    have:=(h x ox x2).2.2
    have:l x≠q:=λw=>a4 i x O ox x2 hi (.inr w)
    omega⟩
   rw[Ho];omega
  .have:=eC S e l q a b hab λi O i2=>⟨(h i O i2).1,by
    have:=(h i O i2).2.1
    have:e i≠q:=λw=>a5 ⟨i,O,i2,.inl w⟩
    omega,by
    have:=(h i O i2).2.2
    have:l i≠q:=λw=>a5 ⟨i,O,i2,.inr w⟩
    omega⟩
   rw[Ho];omega
def yw (S:Nat->TB m n A c) (e l:Nat->Nat) L (h:∀i,i<L->Mv_ (S i) (S (i+1)) (e i) (l i)):L<2^n:=by
 have:=eC S e l n 0 L (qC6 _) λi _ hi=>⟨h i hi,(h i hi).en,by
  obtain ⟨r,O,q,_⟩:=(h i hi).lv;rw[<- q];show (S i).ok.hn r O⟩
 omega
def bL f k:∀m,d9 (k+m) f=d9 k f+d9 m λq=>f (k+q)
 |0=>by change _=_+0;omega
 | m+1=>by
  change d9 (k+m) f+_=_+(_+_);rw[bL];omega
structure Cols (k m pl:Nat) (st:VX) (A:VX) (c:VY):Prop where
 am:∀j,j<k->∀p,p<m->A j p =-st j p
 au:∀q,q<m->∀p,p<m->A (k+q) p=if q=p then 1 else 0
 cm:∀j,j<k->c j=st j pl
 cu:∀q,q<m->c (k+q)=0
def Cols.comb (C:Cols k m pl st A c) (x:VY) (O:p<m):x p=d9 m λq=>x q*A (k+q) p:=by
 rw[F4 O λq hq z=>by rw[C.au q hq p O,qA8 z,qJ7],C.au p O p O,qA2 rfl,xA2]
def Cols.detc (C:Cols k m pl st A c) (hi:i<m) v x:det m (upv v i x)=d9 m λq=>x q*det m (upv v i (A (k+q))):=by
 rw[<- eR hi v x _];refine P0 λa _ p O=>?_;unfold upv;by_cases z:a=i
 .rw[qA2 z,qA2 z];show C.comb x O
 .rw[qA8 z,qA8 z]
def Cols.det1 (C:Cols k m pl st A c):det m (λi=>A (k+i))=1:=(P0 λi hi p O=>C.au i hi p O).trans (oh m)
def Cols.first (C:Cols k m pl st A c):Tab m (k+m) A c (λi=>k+i) (λi j=>A j i) c 1 where
 dp:=ZQ
 hn i hi:=ox
 dd:=C.det1.symm
 tt i hi j hj:=by
  rw [C.detc hi,F4 hi λq O z=>by
   have:=jB hi O z λi=>A (k+i)
   rw[this,qJ7]]
  have:=R0 (λi=>A (k+i)) i
  have e:=this;rw[e,C.det1,xA2]
 cr j hj p hp:=by rw[qG8];show C.comb _ hp
 oo j hj:=by
  rw[qG8,A9 λi hi=>by rw[C.cu i hi,qK9]];omega
def Cols.weights (C:Cols k m pl st A c) (T:Tab m (k+m) A c h t o d) (a0:pl<m) (hj:j<k):d9 m (λp=>(- o (k+p)+d*if p=pl then 1 else 0)*st j p)=o j:=by
 have ho:∀q,q<m ->-o _=d9 m λi=>c (h i)*t i (k+q):=λq O=>by
  rw[T.oo (k+q) ox,C.cu q O,qJ7];omega
 have ht:∀i,i<m->t i j=d9 m λq=>_*t i _:=λi hi=>by
  rw[T.tt i hi j ox,C.detc hi];show i7 λq O=>by rw[C.am j hj q O,T.tt i hi (k+q) ox]
 have e1:d9 m (λp=>(- _+d*_)*st j p)=d9 m (λp=>_*(d9 m _)+d*((if p=pl then 1 else 0)*_)):=i7 λp hp=>by
  rw[ho p hp,qL4,qE0,qE4]
 have e2:d9 m (λp=>st j p*d9 m λi=>c (h i)*t i (k+p)) =-d9 m (λi=>c (h i)*t i j):=by
  have:d9 m (λi=>c _*t i j)=d9 m (λi=>d9 m λp=>_*(_*(c _*t i _))):=i7 λi hi=>by
   rw[ht i hi,<- o0];show i7 λq _=>by
    rw[qN0,qM7,qN0,qG8,<- qE4,<- qE4,qE0 (c (h i))]
  rw[this,ah]
  have:d9 m (λp=>d9 m _)=d9 m (λp=>-1*(st j p*d9 m λi=>c (h i)*t i (k+p))):=i7 λp _=>by
   rw[o0,o0]
  rw[this,o0];omega
 have e3:d9 m (λp=>(if p=pl then 1 else 0)*st j p)=st j pl:=by
  rw[F4 a0 λp _ z=>by rw[qA8 z,qK9],qA2 rfl,qG8]
 rw[e1,B5,o0,e2,e3,T.oo j ox,C.cm j hj];omega
def Cols.bag (C:Cols k m pl st A c) (T:Tab m (k+m) A c h t o d) (hs:s<k+m):(∀p,p<m->d9 k (λj=>o8 m h t d s j*st j p)=o8 m h t d s (k+p))/\d9 k (λj=>o8 m h t d s j*st j pl)=o s:=by
 refine ⟨λp O=>?_,?_⟩
 .have e:=T.dirKer hs p O;rw[bL,F4 O λq hq z=>by rw[C.au q hq p O,qA8 z,qJ7],C.au p O p O,qA2 rfl,xA2]at e;have e2:d9 k (λj=>o8 m h t d s j*A j p)=-1*d9 k (λj=>o8 m h t d s j*st j p):=by
   rw[<- o0];show i7 λj hj=>by rw[C.am j hj p O,qM7,qN0,qG8]
  omega
 .have e:=T.dirO hs;rw[bL,A9 (n:=m) λq hq=>by rw[C.cu q hq,qK9]]at e;rw[<- e,Int.add_zero];show i7 λj hj=>by rw[C.cm j hj,qE0]
def Tab.dirP (T:Tab m n A c h t o d) (ho:0<o s) (hn:∀i,i<m->t i s<=0) j:0<=o8 m h t d s j:=by
 have nb:∀i,i<m->h i≠s:=λi hi e=>by
  have:=T.ozero hi
  omega
 by_cases O:j=s
 .subst O;rw[Tab.dirS nb]
  have:=T.dp
  omega
 .by_cases jb:∃i,i<m/\h i=j
  .obtain ⟨i,hi,e⟩:=jb
   have:=T.dirB hi (nb i hi)
   have:=hn i hi
   omega
  .rw [Tab.dirN (λi hi e=>jb ⟨i,hi,e⟩) O]
   show qF3 0
noncomputable def dB (M:Int):Nat->Int
 |0=>1
 |n+1=>((n+1:Nat):Int)*(M*dB M n)
def jJ (h1:-A<=a/\a<=A) (h2:-B<=b/\b<=B):-(A*B)<=a*b/\a*b<=A*B:=by
 have O:a.natAbs<=A.natAbs:=ox;have hB:b.natAbs<=B.natAbs:=ox;have h:=Nat.mul_le_mul O hB;rw[<- Int.natAbs_mul,<- Int.natAbs_mul]at h;have hp:0<=A*B:=qF7 ox ox;omega
def dR (O:0<=M):∀ n v,(∀i,i<n->∀p,p<n->-M<=v i p/\v i p<=M)->-dB M n<=det n v/\det n v<=dB M n
 |0,_,_=>by change -1<=1/\1<=1;omega
 | n+1,v,h=>by
  have:=iD (n:=n+1) λk hk=>jJ (h k hk n (qC8 n)) (dR O n _ λi hi p hp=>h (skp k i) (uK hi) p ox)
  show this
def gC:∀{n},(∀k,k<n->-B<=f k/\f k<=B)->-(n*B)<=d9 n f/\d9 n f<=n*B
 |0,_=>by change -_<=0/\0<=_*B;simp
 | n+1,h=>by
  have ih:=gC λk hk=>h k (qD2 hk);have O:=h n (qC8 n);have e:((n+1:Nat))*B=n*B+B:=by rw[qZ0,qL4,qG8]
  have e2:d9 (n+1) f=_+f n:=rfl;omega
noncomputable abbrev mM:Int:=2000000000
def dB6 (h:m<=6):dB mM m<=2^197:=by
 have:m=0\/m=1\/m=2\/m=3\/m=4\/m=5\/m=6:=ox
 rcases this with rfl|rfl|rfl|rfl|rfl|rfl|rfl <;> decide
def Tab.bt (T:Tab m n A c h t o d) (hm:m<=6) (O:∀j,j<n->∀p,p<m->-mM<=A j p/\A j p<=mM):∀i,i<m->∀j,j<n->-2^197<=t i j/\t i j<=2^197:=λi hi j hj=>by
 have:=dR (M:=mM) ZQ m (upv _ i (A j)) λk hk p hp=>by
  by_cases e:k=i
  .simp_all[U2]
  .rw[M5 e];show O _ (T.hn k hk) p hp
 rw[<- T.tt i hi j hj]at this
 have:=dB6 hm
 omega
def Tab.bd (T:Tab m n A c h t o d) (hm:m<=6) (O:∀j,j<n->∀p,p<m->-mM<=A j p/\A j p<=mM):d<=2^197:=by
 have:=dR ZQ m _ λk hk p hp=>O _ (T.hn k hk) p hp
 rw[<- T.dd]at this
 have:=dB6 hm
 omega
def Tab.bo (T:Tab m n A c h t o d) (hm:m<=6) (hA:∀j,j<n->∀p,p<m->-mM<=A j p/\A j p<=mM) (hc:∀j,j<n->-mM<=c j/\c j<=mM):∀j,j<n->-2^240<=o j/\o j<=2^240:=λj O=>by
 have b1:=jJ (A:=2^197) ⟨by have:=T.dp;omega,T.bd hm hA⟩ (hc j O);have b2:=gC (B:=mM*2^197) λi hi=>jJ (hc _ (T.hn i hi)) (T.bt hm hA i hi j O);rw[T.oo j O];omega
structure Lv (m:Nat) (h:Nat->Nat) (t:VX) (s r:Nat):Prop where
 lt:r<m
 pos:0<t r s
 least:∀i,i<m->0<t i s->h r<=h i
inductive Run {m n:Nat}{A:VX}{c:VY}(S0:TB m n A c):Nat->TB m n A c->Prop where
 |zero:Run S0 0 S0
 |succ {L:Nat}{S S':TB m n A c}{e l:Nat}:Run S0 L S->Mv_ S S' e l->Run S0 (L+1) S'
def Run.seq:∀{L}{S:TB m n A c},Run S0 L S->∃(F:Nat->TB m n A c) (e l:Nat->Nat),F L=S/\∀i,i<L->Mv_ (F i) (F (i+1)) (e i) (l i)
 |_,_,.zero=>⟨λ_=>S0,λ_=>0,λ_=>0,rfl,λi hi=>absurd hi (qD4 _)⟩
 | _,_,.succ (L:=L) (S':=S') (e:=e) (l:=l) r mv=>by
  obtain ⟨F,es,O,eF,hF⟩:=r.seq;refine ⟨λi=>if i<=L then F i else S',λi=>if i<L then es i else e,λi=>if i<L then O i else l,qA8 ox,λi hi=>?_⟩
  grind
def Run.lt {S0:TB m n A c}(r:Run S0 L S):L<2^n:=by
 obtain ⟨F,e,l,_,h⟩:=r.seq;show yw F e l L h
noncomputable abbrev vec (n:Nat)(f:VY):List Int:=(List.range n).map f
def r6 n f:(vec n f).length=n:=by simp [vec]
def eA k m f:vec (k+m) f=vec k f++vec m λq=>f (k+q):=by
 unfold vec;rw[List.range_add,qC7,qC0];rfl
noncomputable abbrev y9 (m n:Nat)(t:VX)(o:VY):List VW:=(List.range m).map (λi=>vec n (t i)) ++ [vec n o]
def dh (h:i<m):L2.atI ((y9 m n t o).map tI) i=some (tI (vec n (t i))):=A5 (by
 rw[qA9,qE8 (by simpa using h),qA9,qE5 h];rfl)
def jU m n t o:L2.atI ((y9 m n t o).map tI) (-1)=some (tI (vec n o)):=by
 unfold L2.atI
 have:L2.ixN ((y9 m n t o).map tI).length (-1)=some m:=by
  unfold L2.ixN;simp;omega
 rw[this];simp
def pF {p m:Nat}(hm:m<=6):ip [.int p,.int m]=.ok (tI (vec m λq=>if q=p then 1 else 0)):=by
 have e:∀N mg me a (h:∀k∈_,∃O,_=_/\me O=_),j6 N mg yes me ((List.range m).map λk=>W.int (k:Nat)) a=_:=λN mg me a h=>by
  rw[i4 (λk=>W.int (if k=p then 1 else 0)) _ _ a (by simp;omega) h,D9]
 exists rpB,wb;rw[e]
 .exists rp18
 .intro k hk;refine ⟨_,rfl,?_⟩;by_cases q:k=p
  .have d1:decide (k=(p:Int))=true:=qN4 ox;exists bw,d1;rw[qA2 q]
  .have d1:decide (k=(p:Int))=false:=qN3 ox;exists bw,d1;rw[qA8 q]
noncomputable def stM (ms:List Mv)(j p:Nat):Int:=(ms.getD j ([],[])).2.getD p 0-(ms.getD j ([],[])).1.getD p 0
noncomputable def cA (ms:List Mv)(j p:Nat):Int:=if j<ms.length then-stM ms j p else if j-ms.length=p then 1 else 0
noncomputable def cC (ms:List Mv)(pl j:Nat):Int:=if j<ms.length then stM ms j pl else 0
def LP ms m pl:Cols ms.length m pl (stM ms) (cA ms) (cC ms pl) where
 am j hj p _:=qA2 hj
 au q _ p _:=by
  unfold cA;rw[qA8 ox,qZ6]
 cm j hj:=qA2 hj
 cu q _:=qA8 ox
def nW (h:xs.length+ys.length<=1000):fCatT (tI xs) (tI ys)=.ok (tI (xs++ys)):=by
 change (if _ then _ else _)=_;rw[qA2 ⟨by simpa using h,D2 xs,D2 ys⟩,<- qC7]
def HM (ms:List Mv) (f:Mv->List Int):ms.map f=(List.range ms.length).map λj=>f (ms.getD j ([],[])):=by
 apply qF4
 .simp
 .intro i O h2
  have:i<ms.length:=by simpa using O
  simp [this]
def Al (h1:1<=m) (h6:m<=6) (a3:∀x∈ms,okN m x) (h8:ms.length<=8) (a0:pl<m):N4 [tM_ ms,.int pl,.int m]=.ok (lS (y9 m (ms.length+m) (λi j=>cA ms j i) (cC ms pl))):=by
 generalize hk:ms.length=k at h8
 have e1:∀N mg me a (h:∀x∈ms,∃O,_=_/\me O=_),j6 N mg yes me (ms.map mW) a=.ok (.lst ((List.range k).map λj=>tI (vec m (stM ms j)))):=λN mg me a h=>by
  rw[i4 _ _ _ a ox h]
  have:=HM ms λx=>vec m λp=>x.2.getD p 0-x.1.getD p 0
  rw[show (ms.map λx=>tI (vec m λp=>x.2.getD p 0-x.1.getD p 0))=(ms.map λx=>vec m λp=>x.2.getD p 0-x.1.getD p 0).map tI by rw[qC0];rfl,this,qC0,hk];rfl
 have e2:∀N mg me a (f:Nat->List Int) (h:∀i∈List.range m,ZX N a mg (.int (i:Nat)) λ O=>me O=.ok (tI (f i))),j6 N mg yes me ((List.range m).map λi=>W.int (i:Nat)) a=.ok (.lst ((List.range m).map λi=>tI (f i))):=λN mg me a f h=>i4 (λi=>tI (f i)) _ _ a (by simp;omega) h;have e3:∀N mg me a (f:VY) (h:∀j∈List.range k,ZX N a mg (tI (vec m (stM ms j))) λ O=>me O=.ok (.int (f j))),j6 N mg yes me ((List.range k).map λj=>tI (vec m (stM ms j))) a=.ok (lI (vec k f)):=λN mg me a f h=>by
  rw[i4 (λj=>W.int (f j)) _ _ a (by simp;omega) h,D9]
 have fr:fRepT (.tup [.int 0]) (.int (m:Int))=.ok (tI (vec m λ_=>0)):=by
  change (if _ then _ else _)=_;rw[qA2 ⟨ZZ,by simp;omega,ox,ox⟩,qD8]
  have:(List.replicate m [W.int 0]).flatten=(vec m λ_=>0).map W.int:=by
   clear a0 h1 h6 a3 e1 e2 e3
   induction m with
   |zero=>rfl
   | succ m ih=>
    rw[qK1,qW1,ih];simp_all[qS2]
  rw[this]
 exists rpB,cQ;rw[e1];rotate_left
 .intro x hx;have k1:=aE h6 (a3 x hx);refine ⟨_,rfl,?_⟩;exists k1
 exists rp18;rw[e2 _ _ _ _ λi=>vec (k+m) λj=>cA ms j i];rotate_left
 .intro i hi;have hi:i<m:=by simpa using hi
  have ku:=pF (p:=i) h6;have kc:=nW (xs:=vec k λj =>-stM ms j i) (ys:=vec m λq=>if q=i then 1 else 0) (by simp;omega);have ev:(vec k λj =>-stM ms j i)++(vec m λq=>if q=i then 1 else 0)=vec (k+m) λj=>cA ms j i:=by
   rw[eA];congr 1
   .refine qD1 λj hj=>?_
    have:j<k:=by simpa using hj
    unfold cA;rw[hk,qA2 this]
   .refine qD1 λq _=>?_;unfold cA;rw[hk,qA8 (show ¬ (k+q<k) by omega),qZ6]
  rw[ev]at kc;refine ⟨_,rfl,?_⟩;exists rp18;rw[e3 _ _ _ _ λj =>-stM ms j i]
  .exists ku,kc
  .intro j hj;have a1:L2.atI ((vec m (stM ms j)).map W.int) (i:Int)=some (.int (stM ms j i)):=by
    have:=A5 (ws:=(vec m (stM ms j)).map W.int) (k:=i) (w:=.int (stM ms j i)) (by rw[qA9,qA9,qE5 hi];rfl)
    show this
   refine ⟨_,rfl,?_⟩;exists a1
 exists rp18;rw[e3 _ _ _ _ λj=>stM ms j pl];rotate_left
 .intro j hj;have a1:L2.atI ((vec m (stM ms j)).map W.int) (pl:Int)=some (.int (stM ms j pl)):=by
   have:=A5 (ws:=(vec m (stM ms j)).map W.int) (k:=pl) (w:=.int (stM ms j pl)) (by rw[qA9,qA9,qE5 a0];rfl)
   show this
  refine ⟨_,rfl,?_⟩;exists a1
 have kc:=nW (xs:=vec k λj=>stM ms j pl) (ys:=vec m λ_=>0) (by simp;omega);have ev:(vec k λj=>stM ms j pl)++(vec m λ_=>0)=vec (k+m) (cC ms pl):=by
  rw[eA];congr 1
  .refine qD1 λj hj=>?_
   have:j<k:=by simpa using hj
   unfold cC;rw[hk,qA2 this]
  .refine qD1 λq _=>?_;unfold cC;rw[hk,qA8 ox]
 rw[ev]at kc;exists fr,kc,A4 (Z0 (vec (k+m) (cC ms pl)))
 change _=R.ok (W.lst ((y9 m (k+m) (λi j=>cA ms j i) (cC ms pl)).map tI));rw[qC7,qC0];rfl
def qS {xs:VW}(h:((xs.map W.int).mapIdx λi x=>W.tup [.int i,x])[i]?=some w):i<xs.length/\w=.tup [.int i,.int (xs.getD i 0)]:=by
 grind
inductive Com (n:Nat) (o:VY):W->Prop where
 |none:(∀j,j<n->o j<=0)->Com n o .non
 |some {j:Nat}:j<n->0<o j->(∀i,i<j->o i<=0)->Com n o (.int (j:Int))
def xg (hm:m<=6) (hn:n<=100):Ok (Z8 [lS (y9 m n t o)]) (Com n o):=by
 have a1:=jU m n t o;have hl:=r6 n o;exists rpB,nB,a1;refine o5 (o6 (λi a=>∃(x y:Sl),a = [_,x,y]/\∀j,j<i->o j<=0) ⟨_,_,rfl,λj hj=>absurd hj (qD4 _)⟩ ?_ ?_)
 .rintro i u a hu ⟨x,y,rfl,O⟩;obtain ⟨hi,rfl⟩:=qS hu;have hi:i<n:=by rw[<- hl];show hi
  have ev:_=o i:=j8 hi;rw[ev];refine ⟨_,rfl,?_⟩;refine W3 (λh=>?_) (λh=>?_)
  .have h:=qN5 h;show .some hi h O
  .exists rp18;refine ⟨_,_,rfl,λj hj=>?_⟩;by_cases e:j=i
   .omega
   .show O j ox
 .rintro a ⟨x,y,rfl,O⟩;have O:=λj hj=>O j (by rw[qV1,qA4,hl];show hj);show .none O
def nX (key:VY):∀L,L ≠ []->∃i∈L,∀j∈L,key i<=key j
 | [],h=>absurd rfl h
 | [a],_=>⟨a,qB2,λj O=>by rw[qC5.mp O];show qF3 _⟩
 | a::b::L,_=>by
  obtain ⟨i,hi,hm⟩:=nX key (b::L) ZZ
  grind
inductive Lea (m:Nat) (h:Nat->Nat) (t:VX) (s:Nat):W->Prop where
 |none:(∀i,i<m->t i s<=0)->Lea m h t s .non
 |some {r:Nat}:Lv m h t s r->Lea m h t s (.int (r:Int))
def sQ (hm:m<=6) (hn:n<=100) (hs:s<n):Ok (dL [lS (y9 m n t o),lI (vec m λi=>(h i)),.int s]) (Lea m h t s):=by
 have e1:∀N mg mc me a (q:∀i∈_,∃a0,_=_/\mc a0=_/\me a0=_),j6 N mg mc me ((List.range m).map λi=>W.int (i:Nat)) a=_:=λN mg mc me a q=>by
  rw [E9 (λi=>W.int (i:Nat)) _ (λi=>decide (0<t i s)) _ a (by simp;omega) λi hi=>by
   obtain ⟨a0,a1,a2,a3⟩:=q i hi;show ⟨a0,a1,a2,λ_=>a3⟩,D9]
 have hl:=r6 m λi=>(h i);exists rpB,kq;rw[e1];rotate_left
 .intro i hi;have hi:i<m:=by simpa using hi
  have a1:=dh (n:=n) (t:=t) (o:=o) hi;have a2:L2.atI ((vec n (t i)).map W.int) (s:Int)=some (.int (t i s)):=by
   have:=A5 (ws:=(vec n (t i)).map W.int) (k:=s) (w:=.int (t i s)) (by rw[qA9,qA9,qE5 hs];rfl)
   show this
  refine ⟨_,rfl,?_,?_⟩
  .exists a1,a2
  .exists rp18
 generalize hL:(List.range m).filter (λi=>decide (0<t i s))=L
 have O:∀i,i∈L↔i<m/\0<t i s:=λi=>by rw[<- hL,qP1,qH6,qP0]
 have a6:jo (L.map λ(i:Nat)=>(i:Int)) (vec m λi=>(h i:Int))=.ok (vW (bZ (λi=>(vec m λi=>(h i:Int)).getD i.toNat 0) (L.map λ(i:Nat)=>(i:Int)))):=by
  unfold jo;rw[qA2];rw[qH5];intro x hx;obtain ⟨i,hi,rfl⟩:=qB1.mp hx
  have:=(O i).mp hi
  rw[qH4,qP0,qP0,hl];omega
 exists a6;unfold bZ;cases q:(L.map λ(i:Nat)=>(i:Int)).find? (λi=>(L.map λ(i:Nat)=>(i:Int)).all λx=>decide ((vec m λi=>(h i:Int)).getD i.toNat 0<=(vec m λi=>(h i:Int)).getD x.toNat 0)) with
 | none=>
  have a5:L = []:=qX4 λne=>by
   obtain ⟨i,hi,a7⟩:=nX (λi=>(h i:Int)) L ne
   have:=qV3.mp q (i:Int) (qB1.mpr ⟨i,hi,rfl⟩)
   refine this (qH5.mpr λx hx=>?_);obtain ⟨j,hj,rfl⟩:=qB1.mp hx;rw[qP0,qD8,qD8,j8 ((O i).mp hi).1,j8 ((O j).mp hj).1];show a7 j hj
  refine ⟨_,rfl,.none λi hi=>?_⟩
  have:=mt (O i).mpr (by rw[a5];show qE3)
  omega
 | some x=>
  obtain ⟨hx,_⟩:=List.find?_eq_some_iff_append.mp q;obtain ⟨i,hi,rfl⟩:=qB1.mp (qQ5 q);have a4:=(O i).mp hi;refine ⟨_,rfl,.some ⟨a4.1,a4.2,λj hj hp=>?_⟩⟩
  have:=qH5.mp hx (j:Int) (qB1.mpr ⟨j,(O j).mpr ⟨hj,hp⟩,rfl⟩)
  have this:=qN5 this;rw[qD8,qD8,j8 a4.1,j8 hj]at this;omega
def D5 (h:-2^k<=z/\z<=2^k):Builtin.Int.intBits z<=k+1:=by
 refine intBits_le_iff.mpr ?_;have h1:z.natAbs<=((2^k)):=ox;have O:z.natAbs<=2^k:=by exact_mod_cast h1
 show qJ6 O (Nat.pow_lt_pow_right ZQ (qC8 k))
def og (h0:0<j) (h:j<=2^400):fI aH J4 (.int i) (.int j)=.ok (.int (i/j)):=by
 change (if _ then _ else _)=_;rw[qA2 ⟨h0,Int.lt_of_le_of_lt h ox⟩]
def iz (hn:n<=100) (hs:s<n) (hx:∀j,j<n->-2^240<=x j/\x j<=2^240) (hb:∀j,j<n->-2^240<=b j/\b j<=2^240) (h0:0<d) (hd:d<=2^400):
  dM [tI (vec n x),tI (vec n b),.int s,.int d]=.ok (tI (vec n λj=>(x j*b s-x s*b j)/d)):=by
 have hz:=J9 (tI (vec n x)) (tI (vec n b)) _ _ rfl rfl;rw[O3 (by grind),r6]at hz;have as:L2.atI ((vec n x).map W.int) (s:Int)=some (.int (x s)):=by
  have:=A5 (ws:=(vec n x).map W.int) (k:=s) (w:=.int (x s)) (by rw[qA9,qA9,qE5 hs];rfl)
  show this
 have bs:L2.atI ((vec n b).map W.int) (s:Int)=some (.int (b s)):=by
  have:=A5 (ws:=(vec n b).map W.int) (k:=s) (w:=.int (b s)) (by rw[qA9,qA9,qE5 hs];rfl)
  show this
 have e:∀N mg me a (h:∀j,j<n->ZX N a mg (.tup [.int ((vec n x).getD j 0),.int ((vec n b).getD j 0)]) λ ρ1=>me ρ1=.ok (.int ((x j*b s-x s*b j)/d))),j6 N mg yes me ((List.range n).map λj=>W.tup [.int ((vec n x).getD j 0),.int ((vec n b).getD j 0)]) a=.ok (lI (vec n λj=>(x j*b s-x s*b j)/d)):=λN mg me a h=>by
  rw[i4 (λj=>.int ((x j*b s-x s*b j)/d)) _ _ a (by simpa using (by omega:n<=1000)) (λk hk=>h k (by simpa using hk)),D9]
 exists rpB,kx,hz;rw[e]
 .exists rp18
 .intro j O;have b1:=D5 (hx j O);have b2:=D5 (hx s hs);have b3:=D5 (hb j O);have b4:=D5 (hb s hs);have v1:(vec n x).getD j 0=x j:=j8 O;have v2:(vec n b).getD j 0=b j:=j8 O;have m1:fI CMulB j9 (.int (x j)) (.int (b s))=.ok (.int (x j*b s)):=bp ox;have m2:fI CMulB j9 (.int (x s)) (.int (b j))=.ok (.int (x s*b j)):=bp ox;have m3:=og (i:=x j*b s-x s*b j) h0 hd;rw[v1,v2];refine ⟨_,rfl,?_⟩;exists as,bs,m1,m2,m3
noncomputable def pvT (t:VX)(r s:Nat) (d:Int)(i j:Nat):Int:=if i=r then t r j else (t i j*t r s-t i s*t r j)/d
noncomputable def pvO (t:VX)(o:VY)(r s:Nat) (d:Int)(j:Nat):Int:=(o j*t r s-o s*t r j)/d
def Ar:((y9 m n t o).map tI).mapIdx (λi x=>W.tup [.int i,x])=(List.range (m+1)).map λ(i:Nat)=>W.tup [.int i,tI (if i<m then vec n (t i) else vec n o)]:=by
 apply qF4
 .simp
 .intro i h1 O;have hi:i<m+1:=by simpa using O
  rw[List.getElem_mapIdx,qZ1,qZ1,List.getElem_range];by_cases q:i<m
  .rw[qA2 q,List.getElem_append_left (by simpa using q)];simp
  .have:i=m:=ox
   subst this;simp
def sv (hm:m<=6) (hn:n<=100) (O:r<m) (hs:s<n) (ht:∀i,i<m->∀j,j<n->-2^240<=t i j/\t i j<=2^240) (ho:∀j,j<n->-2^240<=o j/\o j<=2^240) (h0:0<d) (hd:d<=2^400):
  ax [lS (y9 m n t o),.int r,.int s,.int d]=.ok (lS (y9 m n (pvT t r s d) (pvO t o r s d))):=by
 have a1:=dh (n:=n) (t:=t) (o:=o) O;have e:∀N mg me a (h:∀i∈List.range _,∃a0,_=_/\me a0=_),j6 N mg yes me ((List.range (m+1)).map λ(i:Nat)=>W.tup [.int i,tI (if i<m then vec n (t i) else vec n o)]) a=.ok (lS (y9 m n _ (pvO t o r s d))):=λN mg me a h=>by
  rw[i4 (λi=>tI (if i<m then vec n (pvT t r s d i) else vec n (pvO t o r s d))) _ _ a (by simp;omega) h];congr 2;rw[qU0,qC7,qC7,qC0];congr 1
  .refine qD1 λi hi=>?_
   have:i<m:=by simpa using hi
   rw[qA2 this];rfl
  .simp
 have he:O2 [lS (y9 m n t o)]=.ok ((List.range (m+1)).map λ(i:Nat)=>W.tup [.int (i:Int),tI (if i<m then vec n (t i) else vec n o)]):=by rw[<- Ar];rfl
 exists rpB,km,a1,he;rw[e]
 .exists rp18
 .intro i hi;have hi:i<m+1:=by simpa using hi
  refine ⟨_,rfl,?_⟩;by_cases q:i=r
  .subst q;have d1:decide ((i:Int)=(i:Int))=true:=qN4 rfl;rw[qA2 O,qA2 O];have ev:vec n (pvT t i s d i)=vec n (t i):=qD1 λj _=>qA2 rfl;rw[ev];exists bw,d1
  .have d1:decide ((i:Int)=(r:Int))=false:=qN3 ox;by_cases q2:i<m
   .have k1:=iz (x:=t i) (b:=t r) hn hs (ht i q2) (ht r O) h0 hd;have ev:vec n (pvT t r s d i)=vec n λj=>(t i j*t r s-t i s*t r j)/d:=qD1 λj _=>qA8 q;rw[qA2 q2,qA2 q2,ev];exists bw,d1,k1
   .have k1:=iz (x:=o) (b:=t r) hn hs ho (ht r O) h0 hd;rw[qA8 q2,qA8 q2];exists bw,d1,k1;rfl
def IS (ha:0<=a) (hb:0<=b):D4 [.int a,.int b]=.ok (.int (Int.gcd a b)):=by
 have fin:Ok (D4 [.int a,.int b]) λv=>v=.int (Int.gcd a b):=by
  refine o5 (P7 ?_);refine R6 (λM c=>∃(x y:Int) (z:Sl),(c = [.par (.int x),.par (.int y),z]\/c = [.val (.int x),.val (.int y),z])/\0<=x/\0<=y/\Int.gcd x y=_/\M=y.toNat) ?_ _ _ ⟨a,b,.un,.inl rfl,ha,hb,rfl,rfl⟩;rintro M c ⟨x,y,z,O,hx,hy,hg,hM⟩;by_cases h0:y=0
  .have d1:=qN4 h0;refine ⟨false,?_,?_⟩
   .rcases O with rfl|rfl
    all_goals exists d1
   have a0:(Int.gcd a b)=x:=by
    rw[<- hg,h0,Int.gcd_zero_right];omega
   rcases O with rfl|rfl
   all_goals
    exists rp18;rw[a0]
  .have d1:=qN3 h0;have h1:0<y:=ox;refine ⟨true,?_,?_⟩
   .rcases O with rfl|rfl
    all_goals exists d1
   have q0:0<=x%y:=qL9 _ h0;have q1:x%y<y:=qM3 _ h1;have a3:Int.gcd y (x%y)=Int.gcd a b:=by
    have e:=Int.gcd_add_mul_left_left y (x%y) (x/y);rw[Int.emod_add_mul_ediv]at e;rw[<- hg,Int.gcd_comm,e]
   rcases O with rfl|rfl
   all_goals
    exists rp18;show ⟨_,ox,y,x%y,_,.inr rfl,hy,q0,a3,rfl⟩
 obtain ⟨v,e,rfl⟩:=fin;show e
def int_at {xs:VW}(h:(xs.map W.int)[i]?=some w):i<xs.length/\w=.int (xs.getD i 0):=by
 rw[qA9]at h;by_cases hi:i<xs.length
 .rw [qA5 hi]at h
  cases h;show ⟨hi,by rw[qA3,qA5];rfl⟩
 .rw[qH2 ox]at h;cases h
def fX (hL:L=lI xs\/L=tI xs) (hl:xs.length<=100) (h0:∀x∈xs,0<=x/\x<=2^400) (hp:∃j,j<xs.length/\0<xs.getD j 0):Ok (A0 [L]) λv=>∃(g:Int) (ys:VW),v=tI ys/\0<g/\ys.length=xs.length/\∀i,i<xs.length->xs.getD i 0=g*ys.getD i 0:=by
 have hx:∀j,j<xs.length->0<=xs.getD j 0/\xs.getD j 0<=2^400:=λj O=>memD h0 O;have e:∀(g:Int) N mg me c (h:∀x∈xs,∃a5,_=_/\me a5=_),j6 N mg yes me (xs.map W.int) c=_:=λg N mg me c h=>by
  rw[i4 (λx=>W.int (x/g)) _ _ c ox h,D9]
 rcases hL with rfl|rfl
 all_goals
  refine o5 (o6 (λi c=>∃(g:Nat) (y:Sl),(c = [_,.val (.int (g:Int)),y]\/c = [.par (tI xs),.val (.int (g:Int)),y])/\(∀j,j<i->(g:Int)∣xs.getD j 0)/\((∃j,j<i/\0<xs.getD j 0)->0<g)) ⟨0,_,by first|show .inl rfl|show .inr rfl,λj O=>absurd O (qD4 _),λa3=>by obtain ⟨j,O,_⟩:=a3;show absurd O (qD4 _)⟩ ?_ ?_)
  .rintro i u c hu ⟨g,y,a0,h1,h2⟩;obtain ⟨hi,rfl⟩:=int_at hu;have k1:=IS (a:=(g:Int)) (b:=xs.getD i 0) ox (hx i hi).1;have fin:(∀j,j<i+1->((Int.gcd (g:Int) (xs.getD i 0):Nat):Int)∣xs.getD j 0)/\((∃j,j<i+1/\0<xs.getD j 0)->0<Int.gcd (g:Int) (xs.getD i 0)):=by
    refine ⟨λj O=>?_,λ⟨j,O,hp⟩=>?_⟩
    .by_cases e:j=i
     .subst e;show Int.gcd_dvd_right ..
     .show Int.dvd_trans (Int.gcd_dvd_left ..) (h1 j ox)
    .refine Nat.pos_of_ne_zero λz=>?_;have z:=Int.gcd_eq_zero_iff.mp z;by_cases e:j=i
     .subst e;omega
     .have:=h2 ⟨j,ox,hp⟩;omega
   rcases a0 with rfl|rfl
   all_goals
    refine ⟨_,rfl,?_⟩;exists k1;show ⟨_,_,by first|show .inl rfl|show .inr rfl,fin⟩
  .rintro c ⟨g,y,a0,h1,h2⟩;rw[qA4]at h1 h2;have g0:=h2 hp;obtain ⟨j,O,a4⟩:=hp;have gb:(g:Int)<=2^400:=qD9 (Int.le_of_dvd a4 (h1 j O)) (hx j O).2;have fin:∃(g':Int) (ys:VW),tI (xs.map λx=>x/(g:Int))=tI ys/\0<g'/\ys.length=xs.length/\∀i,i<xs.length->xs.getD i 0=g'*ys.getD i 0:=by
    refine ⟨g,_,rfl,ox,qA4 _,λi hi=>?_⟩
    have:(xs.map λx=>x/(g:Int)).getD i 0=xs.getD i 0/(g:Int):=by
     rw[qA3,qA3,qA9,qA5 hi];rfl
    rw[this,qU2 (h1 i hi)]
   rcases a0 with rfl|rfl
   all_goals
    exists rp18;rw[e (g:Int)]
    .exists rp18;show fin
    .intro x _;have m3:=og (i:=x) (j:=(g:Int)) ox gb;refine ⟨_,rfl,?_⟩;exists m3
def JF {n:Nat}(h:n<=xs.length):aU xs none (some n)=xs.take n:=by
 unfold aU;rw[HT.sIx_nat,HT.sIx_none,List.drop_zero,Nat.min_eq_left h,Nat.sub_zero]
def ou {n:Nat}(h:n<=xs.length):aU xs (some n) none=xs.drop n:=by
 unfold aU;rw[HT.sIx_nat,HT.sIx_none,Nat.min_eq_left h,List.take_of_length_le (by rw[qX9];omega)]
def xK k m f:(vec (k+m) f).take k=vec k f:=by
 rw[eA,List.take_left' (r6 ..)]
def xL k m f:(vec (k+m) f).drop k=vec m λq=>f (k+q):=by
 rw[eA,List.drop_left' (r6 ..)]
def iK:(vec n f).set i v=vec n λj=>if j=i then v else f j:=by
 apply qF4
 .simp
 .intro j O h2;rw[List.getElem_set];simp [qZ1];by_cases e:i=j
  .rw[qA2 e,qA2 e.symm]
  .rw[qA8 e,qA8 λq=>e q.symm]
def rep0 (n:Nat) (h:n<=100):jy true (.lst [.int 0]) (.int (n:Int))=.ok (lI (vec n λ_=>0)):=by
 rw[nV ox]
 have:(List.replicate ((n:Int).toNat) [W.int 0]).flatten=(vec n λ_=>0).map W.int:=by
  apply qH7;intro k;rw[qA9,qA9,List.flatten_replicate_singleton];by_cases hk:k<n
  .rw[qE5 hk,qA5 (by simpa using hk)];simp
  .rw[qH2 (by simpa using hk),qH2 (by simpa using hk)];rfl
 rw[this];rfl
def ug (h:i<n):L2.atI ((vec n f).map W.int) i=some (.int (f i)):=by
 have:=A5 (k:=i) (w:=.int (f i)) (by rw[qA9,qA9,qE5 h];rfl)
 show this
def Au (T:Tab m n A c h t o d) (hi:i<m) (hs:h i≠s) j:o8 (i+1) h t d s j=if j=h i then-t i s else o8 i h t d s j:=by
 unfold o8;have e:d9 (i+1) _=d9 i (λr=>if h r=j then t r s else 0)+if h i=j then _ else 0:=rfl
 rw[e];by_cases q:j=h i
 .subst q;rw[qA2 rfl,qA2 rfl,qA8 hs,A9 λr O=>qA8 λz=>by have:=T.inj ox hi z;omega];omega
 .omega
def Ks (T:Tab m (k+m) A c h t o d) (h1:1<=m) (hm:m<=6) (hk:k<=8) (hs:s<k+m) (ho:0<o s) (hn:∀i,i<m->t i s<=0) (hb:∀j,o8 m h t d s j<=2^400) (hp:∃j,j<k/\0<o8 m h t d s j):
  Ok (gd [lS (y9 m (k+m) t o),lI (vec m λi=>(h i)),.int s,.int d,.int k]) λv=>∃(g:Int) (ys:VW),v=tI ys/\0<g/\ys.length=k/\∀j,j<k->o8 m h t d s j=g*ys.getD j 0:=by
 have nb:∀i,i<m->h i≠s:=λi hi e=>by
  have:=T.ozero hi
  omega
 have a1:=dh (n:=k+m) (t:=t) (o:=o) (show 0<m by omega);have l1:((y9 m (k+m) t o).getD 0 []).length=k+m:=by
  rw[qA3,qE8 (by rw[qA4,qE2];omega),qA9,qE5 ox];show r6 ..
 have r0:=rep0 (k+m) ox;have l2:=r6 (k+m) λ_=>0;have he:O2 [lI _]=.ok (((vec m λi=>(h i)).map W.int).mapIdx _):=rfl;have x1:ixN (k+m) (s:Int)=some s:=by unfold ixN;rw[qA2 ox,qA2 ox,qD8]
 exists rpB,nE,a1,r0,he,l1,l2,x1;have d0:(vec (k+m) λ_=>0).set s d=vec (k+m) (o8 0 h t d s):=by
  rw[iK];refine qD1 λj _=>?_
  change _=(if j=s then d else 0)+(-1)*(0:Int);omega
 rw[d0];refine o5 (o6 (λi a=>∃(x y:Sl),a = [.par (lS (y9 m (k+m) t o)),.par (lI (vec m λi=>(h i:Int))),.par (.int (s:Int)),.par (.int d),.par (.int (k:Int)),.own ((vec (k+m) (o8 i h t d s)).map W.int),x,y]) ⟨_,_,rfl⟩ ?_ ?_)
 .rintro i u a hu ⟨x,y,rfl⟩;obtain ⟨hi,rfl⟩:=qS hu;have hi:i<m:=by simpa using hi
  have ev:(vec m λi=>(h i:Int)).getD i 0=(h i:Int):=j8 hi;have b1:=dh (n:=k+m) (t:=t) (o:=o) hi;have b2:=ug (f:=t i) hs;have hh:=T.hn i hi;have x2:ixN (k+m) (h i:Int)=some (h i):=by unfold ixN;rw[qA2 ox,qA2 ox,qD8]
  have l3:=r6 (k+m) (o8 i h t d s);rw[ev];refine ⟨_,rfl,?_⟩;exists b1,b2,l3,x2;have d1:(vec (k+m) (o8 i h t d s)).set (h i) (- t i s)=vec (k+m) (o8 (i+1) h t d s):=by
   rw[iK];show qD1 λj _=>(Au T hi (nb i hi) j).symm
  rw[d1];show ⟨_,_,rfl⟩
 .rintro a ⟨x,y,rfl⟩;have hl:(((vec m λi=>(h i:Int)).map W.int).mapIdx λi x=>W.tup [.int (i:Int),x]).length=m:=ZZ;rw[hl];have l4:=r6 (k+m) (o8 m h t d s);have c1:aU (vec (k+m) (o8 m h t d s)) none (some (k:Int))=vec k (o8 m h t d s):=by
   rw[JF (by rw[l4];omega),xK]
  have l5:=r6 k (o8 m h t d s);have kk:=fX (.inl rfl) (xs:=vec k (o8 m h t d s)) (by rw[l5];omega) (λz hz=>by
   obtain ⟨j,_,rfl⟩:=qB1.mp hz;show ⟨T.dirP ho hn j,hb j⟩) (by
   obtain ⟨j,O,hp⟩:=hp;show ⟨j,by rw[l5];show O,by rw[j8 O];show hp⟩)
  exists c1;obtain ⟨v,e,g,ys,rfl,g0,hy,a0⟩:=kk;exists e;refine ⟨g,ys,rfl,g0,hy.trans l5,λj O=>?_⟩
  have:=a0 j (by rw[l5];show O)
  rw[j8 O]at this;show this
def rX (hm:m<=6) (hd:-2^400<=d/\d<=2^400) (hb:∀j,j<m->-2^400<=b j/\b j<=2^400):B3 [lI (vec m x),tI (vec m b),.int d]=.ok (tI (vec m λp=>x p+d*b p)):=by
 have hz:=J9 (lI (vec m x)) (tI (vec m b)) _ _ rfl rfl;rw[O3 (by rw[r6,r6]),r6]at hz;have e:∀N mg me a (h:∀j,j<m->∃O,_=_/\me O=_),j6 N mg yes me ((List.range m).map λj=>W.tup [.int ((vec m x).getD j 0),.int ((vec m b).getD j 0)]) a=_:=λN mg me a h=>by
  rw[i4 (λj=>.int (x j+d*b j)) _ _ a (by simpa using ox) (λk hk=>h k (by simpa using hk)),D9]
 exists rpB,V0,hz;rw[e]
 .exists rp18
 .intro j hj;have b1:=D5 hd;have b2:=D5 (hb j hj);have m1:fI CMulB j9 _ _=.ok (.int (d*b j)):=bp ox;have v1:_=x j:=j8 hj;have v2:_=b j:=j8 hj;rw[v1,v2];refine ⟨_,rfl,?_⟩;exists m1
def rK (h1:1<=m) (hm:m<=6) (hk:k<=8) (O:pl<m) (h0:0<d) (hd:d<=2^399) (ho:∀j,j<k+m->o j<=0 /\ -2^399<=o j):
  Ok (Z4 [lS (y9 m (k+m) t o),.int pl,.int d,.int k]) λv=>∃(g:Int) (ys:VW),v=tI ys/\0<g/\ys.length=m/\∀p,p<m ->-o (k+p)+d*(if p=pl then 1 else 0)=g*ys.getD p 0:=by
 have a1:=jU m (k+m) t o;have l1:=r6 (k+m) o;have c1:aU (vec (k+m) o) (some k) none=vec m λq=>o (k+q):=by
  rw[ou ox,xL]
 have e:∀N mg me a (h:∀q∈_,∃a3,_=_/\me a3=_),j6 N mg yes me ((vec m _).map W.int) a=.ok _:=λN mg me a h=>by
  rw[qC0]
  change j6 N mg yes me (List.map (λq=>W.int (o (k+q))) _) a=_;rw[i4 (λq=>W.int (- o (k+q))) _ _ a (by simp;omega) h,D9]
 have l2:=r6 m λq =>-o (k+q);have ku:=pF (p:=pl) hm;have ks:=rX (x:=λq =>-o (k+q)) (b:=λq=>if q=pl then 1 else 0) (d:=d) hm ⟨ox,ox⟩ (λj _=>by split <;> decide)
 have l5:=r6 m λp =>-o (k+p)+d*if p=pl then 1 else 0
 have kk:=fX (.inr rfl) (xs:=vec m λp =>-o (k+p)+d*if p=pl then 1 else 0) (by rw[l5];omega) (λz hz=>by
  obtain ⟨p,hp,rfl⟩:=qB1.mp hz;have hp:p<m:=by simpa using hp
  have:=ho (k+p) ox
  by_cases e:p=pl
  .rw[qA2 e];omega
  .rw [qA8 e];omega) ⟨pl,by rw[l5];show O,by
   rw[j8 O,qA2 rfl]
   have:=ho (k+pl) ox
   omega⟩
 exists rpB,dA,a1,c1;rw[e];rotate_left
 .intro q _;refine ⟨_,rfl,?_⟩;exists rp18
 exists l2,ku,ks;obtain ⟨v,e,g,ys,rfl,g0,hy,a0⟩:=kk;exists e;refine ⟨_,rfl,g,ys,rfl,g0,hy.trans l5,λj hj=>?_⟩
 have:=a0 j (by rw[l5];show hj)
 rw[j8 hj]at this;show this
def lN:∀{n},(∀i,i<n->d∣f i)->d∣d9 n f
 |0,_=>⟨0,by rw[qJ7];rfl⟩
 |n+1,h=>Int.dvd_add (lN λi hi=>h i (qD2 hi)) (h n (qC8 n))
def Tab.dt (T:Tab m n A c h t o d) (hr:r<m) (hs:s<n) (hi:i<m) (O:j<n):d∣t i j*t r s-t i s*t r j:=by
 by_cases e:i=r
 .simp_all[qE0]
 .show ⟨_,(T.step hr hs hi O e).symm⟩
def Tab.do_ (T:Tab m n A c h t o d) (hr:r<m) (hs:s<n) (O:j<n):d∣o j*t r s-o s*t r j:=by
 have e:d9 m (λi=>c (h i)*(t i j*t r s-t i s*t r j))=t r s*d9 m (λi=>c (h i)*t i j)+- t r j*d9 m (λi=>c (h i)*t i s):=by
  rw[<- o0,<- o0,<- B5]
  grind
 have e2:o j*t r s-o s*t r j=d*(c j*t r s-c s*t r j)-d9 m (λi=>c (h i)*(t i j*t r s-t i s*t r j)):=by
  rw[e,T.oo j O,T.oo s hs,Int.sub_mul,Int.sub_mul,qM8,qN0,<- qE4,<- qE4,qE0 _ (d9 m _),qE0];omega
 rw[e2];show Int.dvd_sub (Int.dvd_mul_right ..) (lN λi hi=>Int.dvd_trans (T.dt hr hs hi O) (Int.dvd_mul_left ..))
def Tab.next (T:Tab m n A c h t o d) (hr:r<m) (hs:s<n) (hp:0<t r s):Tab m n A c (hup h r s) (pvT t r s d) (pvO t o r s d) (t r s):=
 T.pivot hr hs hp (λj _=>qA2 rfl) (λi hi e j O=>by
  unfold pvT;rw[qA8 e,qU2 (T.dt hr hs hi O)]) (λj O=>by
  unfold pvO;rw[qU2 (T.do_ hr hs O)])
def BZ {f g:VY}(O:∀j,j<n->0<=f j)(h:0<d9 n λj=>f j*g j):∃j,j<n/\0<f j:=by grind[A9]
structure Wts (ms:List Mv) (m pl:Nat) (w:VW):Prop where
 len:w.length=m
 nn:∀p,p<m->0<=w.getD p 0/\w.getD p 0<=2^300
 one:1<=w.getD pl 0
 down:∀j,j<ms.length->d9 m (λp=>w.getD p 0*stM ms j p)<=0
structure Bag_ (ms:List Mv) (m pl:Nat) (y:VW):Prop where
 len:y.length=ms.length
 nn:∀j,j<ms.length->0<=y.getD j 0/\y.getD j 0<=2^400
 up:∀p,p<m->(if p=pl then 1 else 0)<=d9 ms.length (λj=>y.getD j 0*stM ms j p)
inductive Cei (ms:List Mv) (m pl:Nat):W->Prop where
 |w {y:VW}:Wts ms m pl y->Cei ms m pl (.tup [.str "weights",tI y])
 |b {y:VW}:Bag_ ms m pl y->Cei ms m pl (.tup [.str "bag",tI y])
def jf {g:Int}(h0:0<g) (h1:0<=x) (h2:x<=B) (e:x=g*y):0<=y/\y<=B:=by
 have O:0<=y:=by
  by_cases q:0<=y
  .show q
  .have:g*y<0:=qX5 h0 ox
   omega
 have:1*y<=g*y:=qH1 ox O
 omega
def lM {x y z:VY}(e:∀j,j<n->x j=g*y j):d9 n (λj=>x j*z j)=g*d9 n (λj=>y j*z j):=by
 rw[<- o0];show i7 λj O=>by rw[e j O,qE4]
def nh {y:Int}(h0:0<g) (h:g*y<=0):y<=0:=by
 by_cases q:y<=0
 .show q
 .have:=Int.mul_pos h0 (show 0<y by omega)
  omega
def zw {y:Int}(h0:0<g) (h:0<=g*y):0<=y:=by
 by_cases q:0<=y
 .show q
 .have:=qX5 h0 (show y<0 by omega)
  omega
def fS {y:Int}(h0:0<g) (h:0<g*y):0<y:=by
 by_cases q:0<y
 .show q
 .have:=qF7 (qM2 h0) (show 0 <=-y by omega)
  omega
def tE (h1:1<=m) (h6:m<=6) (b4:∀x∈ms,okN m x) (h8:ms.length<=8) (a5:pl<m) (hB:∀j,j<ms.length->∀p,p<m->-mM<=stM ms j p/\stM ms j p<=mM):Ok (dN [tM_ ms,.int pl,.int m]) (Cei ms m pl):=by
 have C:=LP ms m pl;have hA:∀j,j<ms.length+m->∀p,p<m->-mM<=cA ms j p/\cA ms j p<=mM:=λj hj p hp=>by
  unfold cA;by_cases q:j<ms.length
  .rw [qA2 q]
   have:=hB j q p hp
   omega
  .rw [qA8 q]
   split <;> decide
 have hc:∀j,j<ms.length+m->-mM<=cC ms pl j/\cC ms pl j<=mM:=λj hj=>by
  unfold cC;by_cases q:j<ms.length
  .rw[qA2 q];show hB j q pl a5
  .rw[qA8 q];decide
 have kf:=Al h1 h6 b4 h8 a5;have S0:∃S:TB m (ms.length+m) (cA ms) (cC ms pl),S.h=(λi=>ms.length+i)/\S.t=(λi j=>cA ms j i)/\S.o=cC ms pl/\S.d=1:=⟨⟨_,_,_,1,C.first⟩,rfl,rfl,rfl,rfl⟩;obtain ⟨S0,s1,s2,s3,s4⟩:=S0;have e:∀N mg me a (h:∀i∈List.range m,ZX N a mg (.int (i:Nat)) λ ρ1=>me ρ1=.ok (.int ((ms.length:Int)+(i:Int)))),j6 N mg yes me ((List.range m).map λi=>W.int (i:Nat)) a=.ok (lI (vec m λi=>(S0.h i:Int))):=λN mg me a h=>by
  rw[i4 (λ(i:Nat)=>W.int ((ms.length:Int)+(i:Int))) _ _ a (by simp;omega) h,D9,s1];congr 2
 have kf:N4 [tM_ ms,.int (pl:Int),.int (m:Int)]=.ok (lS (y9 m (ms.length+m) S0.t S0.o)):=by rw[s2,s3];show kf
 have hn:ms.length+m<=100:=ox;have kc:∀S:TB m (ms.length+m) (cA ms) (cC ms pl),∃w,Z8 [lS (y9 m (ms.length+m) S.t S.o)]=.ok w/\P3 w=.val w/\Com (ms.length+m) S.o w:=λS=>by
  obtain ⟨w,ew,hw⟩:=xg (t:=S.t) (o:=S.o) h6 hn;show ⟨w,ew,by cases hw <;> rfl,hw⟩
 exists rpB,kA,kf;rw[e];rotate_left
 .intro i _;refine ⟨_,rfl,?_⟩;exists rp18
 obtain ⟨w,ew,hs,hw⟩:=kc S0;exists ew,hs;refine o5 (P7 ?_);refine R6 (λM a=>∃(L:Nat) (S:TB m (ms.length+m) (cA ms) (cC ms pl)) (w:W) (z:Sl),a = [.par (tM_ ms),.par (.int (pl:Int)),.par (.int (m:Int)),.own ((y9 m (ms.length+m) S.t S.o).map tI),.own ((vec m λi=>(S.h i:Int)).map W.int),.val (.int S.d),.val w,z]/\Run S0 L S/\Com (ms.length+m) S.o w/\M=2^(ms.length+m)-L) ?_ _ _ ⟨0,S0,w,.un,by rw[s4],.zero,hw,rfl⟩;rintro M a ⟨L,S,w,z,rfl,a7,hw,hM⟩;have T:=S.ok;have hd:=T.bd h6 hA;have ht:=T.bt h6 hA;have ho:=T.bo h6 hA hc;have hL:=a7.lt;cases hw with
 | none a4=>
  refine ⟨false,?_,?_⟩
  .exists rp18
  rw[qA8 ZQ];have kw:=rK (k:=ms.length) (t:=S.t) (o:=S.o) (d:=S.d) h1 h6 h8 a5 T.dp (qD9 hd ZQ) λj hj=>⟨a4 j hj,qD9 ZQ (ho j hj).1⟩;obtain ⟨v,ev,g,ys,rfl,g0,hy,O⟩:=kw;exists ev;refine .w ⟨hy,λp hp=>?_,?_,λj hj=>?_⟩
  .refine jf g0 (x :=-S.o (ms.length+p)+S.d*(if p=pl then 1 else 0)) ?_ ?_ (O p hp)
   .have:=a4 (ms.length+p) ox
    have:=T.dp
    by_cases q:p=pl
    .rw[qA2 q];omega
    .rw[qA8 q];omega
   .have:=ho (ms.length+p) ox
    have k1:(2:Int)^240+2^197<=2^300:=ZQ;by_cases q:p=pl
    .rw[qA2 q];omega
    .rw[qA8 q];omega
  .have e:=O pl a5;rw[qA2 rfl]at e
   have:=a4 (ms.length+pl) ox
   have:=T.dp
   show fS g0 ox
  .have e:=C.weights T a5 hj;rw[lM (y:=λp=>ys.getD p 0) O]at e;show nh g0 (by rw[e];show a4 j ox)
 | @some s hs a6 ab=>
  refine ⟨true,?_,?_⟩
  .exists rp18
  rw[qA2 rfl];obtain ⟨v,ev,hv⟩:=sQ (t:=S.t) (o:=S.o) (h:=S.h) h6 hn hs;cases hv with
  | none b0=>
   have dy:∀j,o8 m S.h S.t S.d s j<=2^400:=λj=>by
    have nb:∀i,i<m->S.h i≠s:=λi hi e=>by
     have:=T.ozero hi
     rw[e]at this;omega
    have k1:(2:Int)^197<=2^400:=ZQ;by_cases js:j=s
    .subst js;rw[Tab.dirS nb];omega
    .by_cases jb:∃i,i<m/\S.h i=j
     .obtain ⟨i,hi,e⟩:=jb;have e2:=T.dirB (s:=s) hi (nb i hi);rw[e]at e2
      have:=ht i hi s hs
      omega
     .rw [Tab.dirN (λi hi e=>jb ⟨i,hi,e⟩) js]
      decide
   obtain ⟨b1,b2⟩:=C.bag T hs;have dp:=T.dirP a6 b0;have kb:=Ks T h1 h6 h8 hs a6 b0 dy (BZ (g:=λj=>stM ms j pl) (λj _=>dp j) (by rw[b2];show a6));obtain ⟨v,b3,g,ys,rfl,g0,hy,O⟩:=kb;exists ev,b3;refine .b ⟨hy,λj hj=>jf g0 (dp j) (dy j) (O j hj),λp hp=>?_⟩;have e1:=b1 p hp;have e2:=b2;rw[lM (y:=λj=>ys.getD j 0) O]at e1 e2;by_cases q:p=pl
   .subst q;rw[qA2 rfl];show fS g0 (by rw[e2];show a6)
   .rw [qA8 q]
    show zw g0 (by rw[e1];show dp _)
  | @some r a0=>
   have T2:=T.next a0.lt hs a0.pos;have kp:=sv (t:=S.t) (o:=S.o) (d:=S.d) h6 hn a0.lt hs (λi hi j hj=>by
    have:=ht i hi j hj
    have k1:(2:Int)^197<=2^240:=ZQ;omega) ho T.dp (qD9 hd ZQ)
   obtain ⟨S',q1,q2,q3,q4⟩:∃S':TB m (ms.length+m) (cA ms) (cC ms pl),S'.h=hup S.h r s/\S'.t=pvT S.t r s S.d/\S'.o=pvO S.t S.o r s S.d/\S'.d=S.t r s:=⟨⟨_,_,_,_,T2⟩,rfl,rfl,rfl,rfl⟩;have kp:ax [lS (y9 m (ms.length+m) S.t S.o),.int (r:Int),.int (s:Int),.int S.d]=.ok (lS (y9 m (ms.length+m) S'.t S'.o)):=by rw[q2,q3];show kp
   obtain ⟨w,ew,b5,hw⟩:=kc S';have a1:=dh (n:=ms.length+m) (t:=S'.t) (o:=S'.o) a0.lt;have a2:=ug (f:=S'.t r) hs;have a3:S'.t r s=S'.d:=by rw[q2,q4];show qA2 rfl
   have x2:ixN m (r:Int)=some r:=by
    have:=a0.lt
    unfold ixN;rw[qA2 ox,qA2 ox,qD8]
   have l3:=r6 m λi=>(S.h i:Int);have d1:(vec m λi=>(S.h i:Int)).set r (s:Int)=vec m λi=>(S'.h i:Int):=by
    rw[iK,q1];refine qD1 λi _=>?_
    change (if i=r then (s:Int) else (S.h i:Int))=((hup S.h r s i:Nat):Int);unfold hup;by_cases e:i=r
    .rw[qA2 e,qA2 e]
    .rw[qA8 e,qA8 e]
   have mv:Mv_ S S' s (S.h r):=⟨hs,a6,ab,r,a0.lt,rfl,a0.pos,a0.least,q1⟩;exists ev,kp,l3,x2,a1,a2,a3,ew,b5,d1;show ⟨2^(ms.length+m)-(L+1),ox,L+1,S',w,_,rfl,.succ a7 mv,hw,rfl⟩
def okB (n:Nat)(m:Mv):Prop:=okN n m/\(∀x∈m.1,x<=2000000000)/\(∀x∈m.2,x<=2000000000)
def FF (h:∀m∈ms,okB n m) (hj:j<ms.length) (O:p<n):-mM<=stM ms j p/\stM ms j p<=mM:=by
 have hm:=h _ (qI1 hj);have e:ms.getD j ([],[])=ms[j]:=by grind
 unfold stM;have a1:=T6 hm.1.2.2.1 p;have a2:=T6 hm.1.2.2.2 p;have b1:=memD hm.2.1 (by rw[hm.1.1];show O);have b2:=memD hm.2.2 (by rw[hm.1.2.1];show O);omega
def qr {l:VW}{lo hi:Nat}(O:∀x∈l,lo<=x/\x<=hi){d:Int}(h0:0<=d) (h:d<l.length):∃p:Nat,L2.atI (l.map W.int) d=some (.int p)/\lo<=p/\p<=hi:=by
 obtain ⟨a,b⟩:=mem_getD O (i:=d.toNat) ox;show ⟨(l.getD d.toNat 0).toNat,by rw[atW h0 h,Int.toNat_of_nonneg ox],ox,ox⟩
def Dg (h:nn xs) (hz:0<=z):nn (xs ++ [z]):=λx O=>by
 rcases qF0.mp O with q|q
 .show h x q
 .rw[qC5.mp q];show hz
def EN {xs:VW}(h:∀x∈xs,x<=B) (hz:z<=B):∀x∈xs ++ [z],x<=B:=λx O=>by
 rcases qF0.mp O with q|q
 .show h x q
 .rw[qC5.mp q];show hz
def IO p:∀O:List Int,jv (.int p) (O.map W.int)=O.findIdx? λq=>decide (q=p)
 | []=>rfl
 | q::O=>by
  have g:=IO p O;have e:PyData.eqv (pd (.int q)) (pd (.int p))=decide (q=p):=by
   have:=eqI [q] [p]
   simpa [pds,PyData.eqvAll]using this
  unfold jv at g ⊢;rw[qE1,pds,List.findIdx?_cons,List.findIdx?_cons,g,e]
def IN (hq:q∉A) (O:(A++q::B).length<=500):nR ((A++q::B).map W.int) (.int q)=.ok (.int A.length):=by
 have e:(A++q::B).findIdx? (λx=>decide (x=q))=some A.length:=by
  grind
 unfold nR;rw[X2,lW,xC3,qA2 rfl,IO,e];show qA2 (by rw[qB8,qB9]at O;omega)
inductive Bt (es:List Ent) (k:Nat):Nat->List Nat->Prop where
 |self:Bt es k k []
 |step {i:Nat}{e:Ent}{pn:Zq}:es[i]?=some e->k<i+1->Bt es k e.2.1 pn->Bt es k (i+1) (i::pn)
noncomputable def mo (es:List Ent)(i:Nat):Int:=((es.getD i ([],0,0)).2.2:Int)
noncomputable def rwB (es:List Ent)(pn:Zq):List Int:=pn.reverse.map (mo es)
theorem Lx (h:es[i]?=some e):mo es i=(e.2.2):=by
 unfold mo;rw[qA3,h];rfl
def Pt.le (hp:∀ i (e:Ent),es[i]?=some e->e.2.1<=i):∀{n}{l r:VW},Pt es n l r->∀x∈l,0<=x/\x<=n
 |_,_,_,.zero=>λx O=>by rw[qC5.mp O];decide
 | _,_,_,.succ h p=>λx O=>by
  have:=hp _ _ h
  rcases qC4.mp O with q|q
  .omega
  .have:=Pt.le hp p x q
   omega
def Pt.head (hp:∀ i (e:Ent),es[i]?=some e->e.2.1<=i) (p:Pt es n l r):∃t,l=(n:Int)::t/\∀x∈t,0<=x/\x<n:=by
 cases p with
 |zero=>show ⟨[],rfl,λx O=>by cases O⟩
 | @succ i e l r h p=>
  refine ⟨l,rfl,λx O=>?_⟩
  have:=Pt.le hp p x O
  have:=hp _ _ h
  omega
def Pt.split (hp:∀ i (e:Ent),es[i]?=some e->e.2.1<=i):∀{n}{l r:VW},Pt es n l r->∀{a},a∈l->∃(k:Nat) (O r1:VW) (pn:Zq),a=k/\k<=n/\Pt es k O r1/\l=(pn.map λi=>((i+1:Nat):Int))++O/\Bt es k n pn/\∀i∈pn,i<es.length
 |_,_,_,.zero,a,ha=>⟨0,_,_,[],qC5.mp ha,qB3 _,.zero,rfl,.self,λi hi=>by cases hi⟩
 | _,_,_,.succ (i:=i) h p,a,ha=>by
  by_cases q:a=((i+1))
  .show ⟨i+1,_,_,[],q,qB3 _,.succ h p,rfl,.self,λi hi=>by cases hi⟩
  .have ha:=(qC4.mp ha).resolve_left q;obtain ⟨k,O,r1,pn,e1,e2,e3,e4,e5,e6⟩:=Pt.split hp p ha
   have:=hp _ _ h
   refine ⟨k,O,r1,i::pn,e1,ox,e3,by rw[e4];rfl,.step h ox e5,λj hj=>?_⟩;rcases qC4.mp hj with rfl|hj
   .show (qA7.mp h).1
   .show e6 j hj
def mw (hp:∀ i (e:Ent),es[i]?=some e->e.2.1<=i) (hl:es.length<=100) (hn:n<=es.length) (p:Pt es n l r) (p1:Pt es k l1 r1) (hs:l=(pn.map λi=>((i+1:Nat)))++l1) (a5:∀i∈pn,i<es.length):G9 [.lst (r9 b es),.int k,.int n]=.ok (lI (rwB es pn)):=by
 have k1:=pC (b:=b) hp hl hn p;have a6:=Pt.len hp p;obtain ⟨t,ht,a3⟩:=p1.head hp;have O:l.reverse=t.reverse++(k:Int)::pn.reverse.map λi=>((i+1:Nat)):=by
  simp_all
 have hlen:(t.reverse++(k:Int)::pn.reverse.map λi=>((i+1:Nat))).length<=500:=by
  rw[<- O,qD0];omega
 have k2:tj [.lst (r9 b es),.int n]=.ok (lI l.reverse):=by
  exists rpB,Bl,k1
 rw[O]at k2;have a4:=IN (B:=_) (λh=>by have:=a3 _ (qL2.mp h);omega) hlen;have a0:aU (t.reverse++(k:Int)::pn.reverse.map λ(i:Nat)=>((i+1:Nat):Int)) (some ((t.reverse.length:Int)+1)) none=pn.reverse.map λ(i:Nat)=>((i+1:Nat):Int):=by
  have:=ou (xs:=t.reverse++(k:Int)::(pn.reverse.map λ(i:Nat)=>((i+1:Nat):Int))) (n:=t.reverse.length+1) (by rw[qB8,qB9];omega)
  rw[show ((t.reverse.length:Int)+1)=((t.reverse.length+1:Nat):Int) by omega,this,List.drop_append,List.drop_eq_nil_of_le ox];simp
 have a7:pn.length<=500:=by
  rw[qB8,qB9,qA4,qD0]at hlen;rw[qD0]at hlen;omega
 have e:∀N mg me a,(∀i∈pn.reverse,ZX N a mg (.int ((i+1:Nat):Int)) λ ρ1=>me ρ1=.ok (.int (mo es i)))->j6 N mg yes me ((pn.reverse.map λ(i:Nat)=>((i+1:Nat):Int)).map W.int) a=.ok (lI (rwB es pn)):=λN mg me a h=>by
  rw[qC0];refine (i4 (λi=>W.int (mo es i)) (W.int∘λ(i:Nat)=>((i+1:Nat):Int)) pn.reverse a (by rw[qD0];omega) h).trans ?_;unfold rwB;rw[D9]
 generalize hg:t.reverse++(k:Int)::(pn.reverse.map λ(i:Nat)=>((i+1:Nat):Int))=g at *
 exists rpB,cP,k2,a4,a0;rw[e]
 .exists rp18
 .intro i hi;have ab:=a5 i (qL2.mp hi);have hg:es[i]?=some (es.getD i ([],0,0)):=by grind
  have r1:=pX (b:=b) hg;unfold mo;generalize es.getD i ([],0,0)=e at r1
  have b2:L2.atI [tI e.1,.int (e.2.1:Int),.int (e.2.2:Int)] 2=some (.int (e.2.2:Int)):=rfl;refine ⟨_,rfl,?_⟩;exists r1,b2
section
variable {b:VW}{es:List Ent}(L R:Nat->List Int)
noncomputable def F_ (b:VW)(es:List Ent)(L:Nat->List Int)(n:Nat):Option Int:=(L n).tail.find? λa=>n5 (sA b es n) (sA b es a.toNat)
noncomputable def oW:Option Int->W
 |none=>.non
 |some a=>.int a
inductive LW (F:Nat->Option Int) (N:Nat):W->Prop where
 |none:(∀n,n<=N->F n=none)->LW F N .non
 |some {n:Nat}{a:Int}:n<=N->F n=some a->(∀i,i<n->F i=none)->LW F N (.tup [.int a,.int (n:Int)])
def gJ (hK:FlK b ms es A T) (h:a<=es.length):(sA b es a).length=b.length:=by
 have:=uT (b:=b) (es:=es) (a:=a) ox
 rcases qC4.mp this with q|q
 .rw[q]
 .obtain ⟨e,O,q⟩:=qB1.mp q;rw[<- q];show hK.len e O
def DH (hp:∀ i (e:Ent),es[i]?=some e->e.2.1<=i) (hl:es.length<=100) (hL:∀n,n<=es.length->Pt es n (L n) (R n)) (hs:∀a,a<=es.length->(sA b es a).length=b.length):Ok (Z7 [.lst (r9 b es)]) (LW (F_ b es L) es.length):=by
 have he:O2 [.lst _]=.ok ((r9 b es).mapIdx _):=rfl;refine o5 (o6 (λi c=>∃(x y z:Sl),c = [_,x,y,z]/\∀j,j<i->F_ b es L j=none) ⟨_,_,_,rfl,λj hj=>absurd hj (qD4 _)⟩ ?_ ?_)
 .rintro i u c hu ⟨x,y,z,rfl,O⟩;rw[List.getElem?_mapIdx]at hu;have hi:i<es.length+1:=by
   rcases Nat.lt_or_ge i _ with q|q
   .show q
   .rw[qH2 (by simpa using q)]at hu;cases hu
  obtain ⟨x1,y1,hr⟩:=iT hi;have b3:(r9 b es)[i]?=some (.tup [tI (sA b es i),x1,y1]):=by
   have:=hr
   unfold L2.atI at this;have e:L2.ixN (r9 b es).length (i:Int)=some i:=by
    unfold L2.ixN;rw[qA2 ox,qA2 (by simp;omega),qD8]
   rw[e]at this;show this
  rw[b3]at hu;cases hu;have p:=hL i ox;have k1:=pC (b:=b) hp hl ox p;obtain ⟨t,ht,a6⟩:=p.head hp;have b4:=Pt.len hp p;have hF:F_ b es L i=t.find? λa=>n5 (sA b es i) (sA b es a.toNat):=by unfold F_;rw[ht];rfl
  have a5:aU (L i) (some 1) none=t:=by
   have:=ou (xs:=L i) (n:=1) (by rw[ht,qB9];omega)
   rw[ht]at this ⊢;show this
  have a0:L2.atI [tI (sA b es i),x1,y1] 0=some (tI (sA b es i)):=rfl;refine ⟨_,rfl,?_⟩;exists k1;rw[a5];refine dq (λj c=>∃z,c = [.par (.lst (r9 b es)),.par (.int (i:Int)),.par (.tup [tI (sA b es i),x1,y1]),z]/\∀j',j'<j->n5 (sA b es i) (sA b es (t.getD j' 0).toNat)=false) ⟨_,rfl,λj hj=>absurd hj (qD4 _)⟩ ?_ ?_
  .rintro j u c hu ⟨z,rfl,a4⟩;obtain ⟨hj,rfl⟩:=int_at hu;have ab:=memD a6 hj;obtain ⟨a,ha⟩:∃a:Nat,t.getD j 0=(a:Int):=⟨(t.getD j 0).toNat,ox⟩;rw[ha]at ab ⊢;obtain ⟨x2,y2,a7⟩:=iT (b:=b) (es:=es) (a:=a) ox;have b0:L2.atI [tI (sA b es a),x2,y2] 0=some (tI (sA b es a)):=rfl;have kc:=aD (a:=sA b es i) (b:=sA b es a) (by rw[hs a ox,hs i ox]);refine ⟨_,rfl,?_⟩;exists a0,a7,b0,kc;refine W3 (λh=>?_) (λh=>?_)
   .exists rp18;refine .some ox ?_ O;rw[hF,List.find?_eq_some_iff_getElem];refine ⟨by rw[qD8];show h,j,hj,?_,λj2 a3=>?_⟩
    .rw [qA3,qA5 hj]at ha
     show ha
    .have:=a4 j2 a3
     rw[qA3,qA5 ox]at this;simpa using this
   .exists rp18;refine ⟨_,rfl,λj2 a3=>?_⟩;by_cases q:j2=j
    .subst q;rw[ha,qD8];show h
    .show a4 j2 ox
  .rintro c ⟨z,rfl,a4⟩;refine ⟨_,_,_,rfl,λj hj=>?_⟩;by_cases q:j=i
   .subst q;rw[hF,qV3];intro a ha;obtain ⟨j2,a3,rfl⟩:=qG2 ha
    have:=a4 j2 (by rw[qA4];show a3)
    rw[qA3,qA5 a3]at this;simpa using this
   .show O j ox
 .rintro c ⟨x,y,z,rfl,O⟩;exists rp18;refine .none λn hn=>O n ?_;rw[qV1];simpa using Nat.lt_succ_of_le hn
end
def Pt.zm:∀{n}{l r:VW},Pt es n l r->0∈l
 |_,_,_,.zero=>qB2
 |_,_,_,.succ _ p=>qA6 _ p.zm
def Fe {R:Nat->List Int}(hp:∀ i (e:Ent),es[i]?=some e->e.2.1<=i) (hL:∀n,n<=es.length->Pt es n (L n) (R n)) (hn:n<=es.length) (h:F_ b es L n=some a):∃(k:Nat) (O r1 l0 r0:VW) (pn1 pn0:Zq),a=k/\k<=n/\Pt es k O r1/\L n=(pn1.map λi=>((i+1:Nat):Int))++O/\Bt es k n pn1/\(∀i∈pn1,i<es.length)/\Pt es 0 l0 r0/\O=(pn0.map λi=>((i+1:Nat):Int))++l0/\Bt es 0 k pn0/\∀i∈pn0,i<es.length:=by
 have ha:=List.mem_of_mem_tail (qQ5 h);obtain ⟨k,O,r1,pn,e1,e2,e3,e4,e5,e6⟩:=Pt.split hp (hL n hn) ha;obtain ⟨k0,l0,r0,pn0,f1,f2,f3,f4,f5,f6⟩:=Pt.split hp e3 e3.zm
 have:k0=0:=ox
 subst this;show ⟨k,O,r1,l0,r0,pn,pn0,e1,e2,e3,e4,e5,e6,f3,f4,f5,f6⟩
def iM:∀{n},(∀k,k<n->f k<=g k)->d9 n f<=d9 n g
 |0,_=>qF3 0
 |n+1,h=>Int.add_le_add (iM λk hk=>h k (qD2 hk)) (h n (qC8 n))
def pP:∀{n},r<n->(∀k,k<n->f k<=g k)->f r<g r->d9 n f<d9 n g
 |0,h,_,_=>absurd h (qD4 _)
 | n+1,h,hl,hr=>by
  change _+f n<_+g n;have O:=hl n (qC8 n);by_cases q:r=n
  .subst q
   have:=iM λk hk=>hl k (qD2 hk)
   omega
  .have:=pP ox (λk hk=>hl k (qD2 hk)) hr
   omega
def pT (h:es[i]?=some e):sA b es (i+1)=e.1:=by
 unfold sA stS;rw[qA3,qZ4,qA9,h];rfl
def ae (h:p<s.length):(y8 s m).getD p 0=s.getD p 0+(m.2.getD p 0-m.1.getD p 0):=by
 unfold y8;rw[qA3,qA9,qE5 h];rfl
def M9 (h:n5 a c=true) (O:p<a.length):c.getD p 0<=a.getD p 0:=by
 show qN5 (qH5.mp h p (by simpa using O))
section
variable {b:VW}{ms:List Mv}{es:List Ent}{A:Nat}{T:Zq}
def X1 (hK:FlK b ms es A T) (O:es[i]?=some e) (hp:p<b.length):e.2.2<ms.length/\(mvN ms e.2.2).1.getD p 0<=(sA b es e.2.1).getD p 0/\(sA b es (i+1)).getD p 0=(sA b es e.2.1).getD p 0+stM ms e.2.2 p:=by
 have hm:=qD7 O;have hi:=(qA7.mp O).1;obtain ⟨h1,h2⟩:=hK.beh e hm;have hl:=gJ hK (a:=e.2.1) (by have:=hK.par i e O;omega);refine ⟨hK.k8 e hm,M9 h1 (by rw[hl];show hp),?_⟩;rw[pT O,h2];show ae (by rw[hl];show hp)
def Bt.weigh (hK:FlK b ms es A T){y:VY}(hd:∀j,j<ms.length->d9 b.length (λp=>y p*stM ms j p)<=0) (B:Bt es k n pn):d9 b.length (λp=>y p*(sA b es n).getD p 0)<=d9 b.length λp=>y p*(sA b es k).getD p 0:=by
 induction B with
 |self=>show qF3 _
 | @step i e pn O _ _ ih=>
  by_cases h0:b.length=0
  .rw[h0];show qF3 _
  have e1:d9 b.length (λp=>y p*(sA b es (i+1)).getD p 0)=d9 b.length (λp=>y p*(sA b es e.2.1).getD p 0)+d9 b.length λp=>y p*stM ms e.2.2 p:=by
   rw[<- B5];show i7 λp hp=>by rw[(X1 hK O hp).2.2,qM9]
  have:=hd _ (X1 hK O (p:=0) ox).1
  omega
structure Lft (b:VW) (es:List Ent) (k n:Nat):Prop where
 hk:k<n
 hn:n<=es.length
 le:∀p,p<b.length->(sA b es k).getD p 0<=(sA b es n).getD p 0
 lt:∃p,p<b.length/\(sA b es k).getD p 0<(sA b es n).getD p 0
def HU {R:Nat->List Int}(hK:FlK b ms es A T) (hL:∀n,n<=es.length->Pt es n (L n) (R n)){k:Nat}(hn:n<=es.length) (O:F_ b es L n=some (k:Int)):Lft b es k n:=by
 obtain ⟨t,ht,a0⟩:=(hL n hn).head hK.par;unfold F_ at O;rw[ht]at O;have hk:=(a0 _ (qQ5 O)).2;have hc:=List.find?_some O;have l1:=gJ hK (a:=k) ox;have l2:=gJ hK hn;have le:∀p,p<b.length->(sA b es k).getD p 0<=_:=λp hp=>M9 hc (by rw[l2];show hp);refine ⟨ox,hn,le,qX4 λq=>?_⟩;have e:sA b es k=sA b es n:=by
  refine qF4 (by rw[l1,l2]) λp h1 h2=>?_;have hp:p<b.length:=ox;have a1:=le p hp;have a2:=λz=>q ⟨p,hp,z⟩;rw[qA3,qA3,qA5,qA5]at a1 a2;change _[p]<=_[p]at a1;change ¬ _[p]<_[p]at a2;omega
 unfold sA at e;have k1:k<(stS b es).length:=by rw[O5];omega
 have k2:n<(stS b es).length:=by rw[O5];omega
 rw[qA3,qA3,qA5 k1,qA5 k2]at e;show qF9.mp hK.nod k n k1 k2 ox e
def Lft.no_wts (hK:FlK b ms es A T) (h:Lft b es k n) (B:Bt es k n pn){y:VY}(hy:∀p,p<b.length->1<=y p) (hd:∀j,j<ms.length->d9 b.length (λp=>y p*stM ms j p)<=0):False:=by
 obtain ⟨r,hr,hl⟩:=h.lt;have h1:=B.weigh hK hd;have h2:=pP (g:=λp=>y p*_) hr (λp O=>qH3 (h.le p O) (by have:=hy p O;omega)) (Int.mul_lt_mul_of_pos_left hl (by have:=hy r hr;omega));omega
def dJ (O:FlK b ms es (es.length+1) []) (hs:s∈stS b es) (hj:j<ms.length) (hc:n5 s (mvN ms j).1=true):y8 s (mvN ms j)∈stS b es:=by
 obtain ⟨a,ha,rfl⟩:=qG2 hs;have ea:(stS b es)[a]=sA b es a:=by
  unfold sA;rw[qA3,qA5];rfl
 rw[ea]at hc ⊢;rw[O5]at ha;rcases O.set a j (.inl ha) hj hc with ⟨e,he,q⟩|q|⟨e,he,_,q⟩
 .have:=(O.beh e he).2
  rw[q]at this;show qA6 _ (qB1.mpr ⟨e,he,this⟩)
 .change bhN b ms es a j∈_;rw[q];show qB2
 .show qA6 _ (qB1.mpr ⟨e,he,q⟩)
def K2 (hK:FlK b ms es A T) (hs:s∈stS b es):s.length=b.length:=by
 rcases qC4.mp hs with q|q
 .rw[q]
 .obtain ⟨e,O,q⟩:=qB1.mp q;rw[<- q];show hK.len e O
def Bt.again (hK:FlK b ms es (es.length+1) []) (B:Bt es k n pn) (hs:s∈stS b es) (hc:∀p,p<b.length->(sA b es k).getD p 0<=s.getD p 0):∃s'∈stS b es,∀p,p<b.length->s'.getD p 0=s.getD p 0+((sA b es n).getD p 0-(sA b es k).getD p 0):=by
 induction B with
 |self=>show ⟨s,hs,λp _=>ox⟩
 | @step i e pn he _ _ ih=>
  obtain ⟨s',a0,q⟩:=ih;have hl:=K2 hK a0;have hm:=qD7 he;refine ⟨_,dJ hK a0 (hK.k8 e hm) (U1 λp O=>?_),λp O=>?_⟩
  .rw [hl]at O
   have:=X1 hK he O
   rw[q p O]
   have:=hc p O
   omega
  .have:=(X1 hK he O).2.2
   rw[ae (by rw[hl];show O),q p O,this]
   change _+_+stM ms _ p=_;omega
def nj {a:Type}(f:a->Int):∀{l:List a}{x:a},x∈l->∃y∈l,∀z∈l,f z<=f y
 | [],_,h=>by cases h
 | [y],_,_=>⟨y,qC5.mpr rfl,λz hz=>by rw[qC5.mp hz];show qF3 _⟩
 | y::u::l,_,_=>by
  obtain ⟨v,O,h⟩:=nj f (l:=u::l) qB2
  grind
end
def uM (hm:m<=6):B3 [tI (vec m x),tI (vec m y),.int 1]=.ok (tI (vec m λp=>x p+1*y p)):=by
 have hz:=J9 (tI (vec m x)) (tI (vec m y)) _ _ rfl rfl;rw[O3 (by grind),r6]at hz;have e:∀N mg me a (h:∀j,j<m->∃O,_=_/\me O=_),j6 N mg yes me ((List.range m).map λj=>W.tup [.int ((vec m x).getD j 0),.int ((vec m y).getD j 0)]) a=_:=λN mg me a h=>by
  rw[i4 (λj=>.int (x j+1*y j)) _ _ a (by simpa using ox) (λk hk=>h k (by simpa using hk)),D9]
 exists rpB,V0,hz;rw[e]
 .exists rp18
 .intro j hj;have v1:_=x j:=j8 hj;have v2:_=y j:=j8 hj;rw[v1,v2];refine ⟨_,rfl,?_⟩;exists rp18
structure WtA (ms:List Mv) (m:Nat) (y:VW):Prop where
 len:y.length=m
 pos:∀p,p<m->1<=y.getD p 0/\y.getD p 0<=2^400
 down:∀j,j<ms.length->d9 m (λp=>y.getD p 0*stM ms j p)<=0
inductive Lev (ms:List Mv) (m:Nat):W->Prop where
 |b {p:Nat}{y:VW}:Lev ms m (.tup [.str "bag",.int (p:Int),tI y])
 |w {y:VW}:WtA ms m y->Lev ms m (.tup [.str "weights",tI y])
def Lev.wt {w}(h:Lev ms m w) (e:w=.tup [.str "weights",tI y]):WtA ms m y:=by
 cases h <;> grind[List.map_inj_right]
def Ed {m:Nat}(O:1<=m) (h6:m<=6):fRepT (.tup [.int 0]) (.int (m:Int))=.ok (tI (vec m λ_=>0)):=by
 change (if _ then _ else _)=_;rw[qA2 ⟨ZZ,by simp;omega,ox,ox⟩,qD8]
 have:(List.replicate m [W.int 0]).flatten=(vec m λ_=>0).map W.int:=by
  clear O h6
  induction m with
  |zero=>rfl
  | succ m ih=>
   rw[qK1,qW1,ih];simp_all[qS2]
 rw[this]
def zK (h1:1<=m) (h6:m<=6) (h8:ms.length<=8) (a6:∀x∈ms,okB m x):Ok (X7 [tM_ ms,.int m]) (Lev ms m):=by
 have fr:=Ed h1 h6;have s1:v5 false (W.str "weights") (W.str "bag")=.ok (.bl false):=rfl;have s2:v5 false (W.str "bag") (W.str "bag")=_:=rfl;exists rpB,qw,fr;refine o5 (o6 (λi c=>∃(x:VY) (a b:Sl),c = [_,_,.val (tI (vec m x)),a,b]/\i<=m/\(∀p,p<m->0<=x p/\x p<=i*2^300)/\(∀p,p<i->1<=x p)/\∀j,j<ms.length->d9 m (λp=>x p*stM ms j p)<=0) ⟨_,_,_,rfl,ox,λp _=>⟨qF3 _,ZZ⟩,λp O=>absurd O (qD4 _),λj _=>aI λp _=>ox⟩ ?_ ?_)
 .rintro i u c hu ⟨x,a,b,rfl,a7,hx,a4,a5⟩;obtain ⟨hi,rfl⟩:=bc hu;obtain ⟨w,e1,hw⟩:=tE h1 h6 (λm hm=>(a6 m hm).1) h8 hi (λj hj p O=>FF a6 hj O);cases hw with
  | @w y hy=>
   have a0:L2.atI [W.str "weights",tI y] 0=some (.str "weights"):=rfl;have a1:L2.atI [W.str "weights",tI y] 1=some (tI y):=rfl;have ey:y=vec m λp=>y.getD p 0:=by
    have:=Kw y
    rw[hy.len]at this;show this.symm
   have k1:=uM (x:=x) (y:=λp=>y.getD p 0) h6;rw[<- ey]at k1;refine ⟨_,rfl,?_⟩;exists e1,a0,a1,s1,k1;refine ⟨λp=>x p+1*y.getD p 0,_,_,rfl,ox,λp O=>?_,λp O=>?_,λj hj=>?_⟩
   .have q1:=hx p O;have q2:=hy.nn p O
    have:((i+1:Nat):Int)*2^300=(i:Int)*2^300+2^300:=by rw[qZ0,qL4,qG8]
    change 0<=x p+1*y.getD p 0/\x p+1*y.getD p 0<=_;omega
   .have q1:=hx p ox;have q2:=hy.nn p ox
    change 1<=x p+1*y.getD p 0;by_cases e:p=i
    .subst e
     have:=hy.one
     omega
    .have:=a4 p ox
     omega
   .have q1:=a5 j hj;have q2:=hy.down j hj;have e:d9 m (λp=>(x p+1*y.getD p 0)*stM ms j p)=d9 m (λp=>x p*stM ms j p)+d9 m λp=>y.getD p 0*stM ms j p:=by
     rw[<- B5];show i7 λp _=>by rw[qG8,qL4]
    change d9 m (λp=>(x p+1*y.getD p 0)*stM ms j p)<=0;omega
  | @b y hy=>
   have a0:L2.atI [W.str "bag",tI y] 0=some (.str "bag"):=rfl;have a1:L2.atI [W.str "bag",tI y] 1=some (tI y):=rfl;refine ⟨_,rfl,?_⟩;exists e1,a0,a1,s2;show .b
 .rintro c ⟨x,a,b,rfl,a7,hx,a4,a5⟩;rw[qA4,qE2]at hx a4;have l5:=r6 m x;obtain ⟨v,e,g,ys,rfl,hg,ab,a3⟩:=fX (.inr rfl) (xs:=vec m x) (by rw[l5];omega) (λz hz=>by
   obtain ⟨p,O,rfl⟩:=qB1.mp hz;have q:=hx p (by simpa using O);refine ⟨q.1,qD9 q.2 (qD9 (qH1 (show (m:Int)<=6 by omega) ZQ) ZQ)⟩) ⟨0,by rw[l5];omega,by
    rw[j8 ox]
    have:=a4 0 ox
    omega⟩
  have a3:∀p,p<m->x p=g*ys.getD p 0:=λp O=>by
   have:=a3 p (by rw[l5];show O)
   rwa [j8 O]at this
  exists e;refine .w ⟨by rw[ab,l5],λp O=>?_,λj hj=>nh hg ?_⟩
  .have q:=hx p O;have q2:x p<=2^400:=qD9 q.2 (qD9 (qH1 (show (m:Int)<=6 by omega) ZQ) ZQ)
   have:=jf hg q.1 q2 (a3 p O)
   have:=fS hg (show 0<g*ys.getD p 0 by rw[<- a3 p O];show a4 p O)
   omega
  .rw [<- lM a3]
   show a5 j hj
inductive FW (b:VW) (es:List Ent) (L:Nat->List Int) (wh:Bool) (wl:W):W->Prop where
 |lift {n k:Nat}{pn0 pn1:Zq}:n<=es.length->F_ b es L n=some (k:Int)->Bt es 0 k pn0->Bt es k n pn1->FW b es L wh wl (.tup [.str "lift",lI (rwB es pn0),lI (rwB es pn1)])
 |all:wh=true->FW b es L wh wl (.tup [.str "all",lS (stS b es)])
 |wts {y:VW}:wh=false->wl=.tup [.str "weights",tI y]->FW b es L wh wl (.tup [.str "weights",tI y])
 |opn {p:Nat}{y:VW}:wh=false->wl=.tup [.str "bag",.int (p:Int),tI y]->FW b es L wh wl (.tup [.str "open"])
def LE (hl:es.length<=100):aQ [.lst (r9 b es)]=.ok (lS (stS b es)):=by
 have e:∀N mg me a (h:∀o∈_,∃a3,_=_/\me a3=_),j6 N mg yes me (r9 b es) a=.ok (lS (stS b es)):=λN mg me a h=>by
  rw[Gh,i4 (λo=>tI (stO b o)) _ _ a (by simp;omega) h,<- st_O];simp_all
 exists rpB,fh;rw[e]
 .exists rp18
 .intro o ho;refine ⟨_,rfl,?_⟩;cases o with
  | none=>
   have a0:L2.atI [_,W.non,W.non] 0=some (tI b):=rfl;have O:yz b none=.tup _:=rfl;exists O,a0;rfl
  | some e=>
   have a0:L2.atI [_,.int (e.2.1),.int (e.2.2)] 0=some (tI e.1):=rfl;have O:yz b (some e)=.tup [tI e.1,.int (e.2.1:Int),.int (e.2.2:Int)]:=rfl;exists O,a0;rfl
def tL {R:Nat->List Int}{most:Nat}(e2:X7 [tM_ ms,.int b.length]=.ok wl) (hw:Lev ms b.length wl) (O:eP [.tup [tI b,tM_ ms],.int most]=.ok (.tup [.lst (r9 b es),.bl wh])) (hp:∀ i (e:Ent),es[i]?=some e->e.2.1<=i) (hl:es.length<=100) (hL:∀n,n<=es.length->Pt es n (L n) (R n)) (hs:∀a,a<=es.length->(sA b es a).length=b.length):Ok (az [.tup [tI b,tM_ ms],.int most]) (FW b es L wh wl):=by
 have f0:L2.atI [_,W.bl wh] 0=some (.lst (r9 b es)):=rfl;have f1:L2.atI [W.lst (r9 b es),_] 1=some (.bl wh):=rfl;have m0:L2.atI [_,tM_ ms] 0=some (tI b):=rfl;have m1:L2.atI [tI b,_] 1=some (tM_ ms):=rfl;obtain ⟨w,e1,a3⟩:=DH L R hp hl hL hs;cases a3 with
 | @some n a hn hF a7=>
  obtain ⟨k,l1,r1,l0,r0,pn1,pn0,rfl,hk,p1,a6,B1,ab,p0,a5,B0,a4⟩:=Fe hp hL hn hF;have k1:=mw (b:=b) hp hl hn (hL n hn) p1 a6 ab;have k0:=mw (b:=b) hp hl (show k<=es.length by omega) p1 p0 a5 a4;have k0:G9 [.lst (r9 b es),.int 0,.int (k:Int)]=.ok (lI (rwB es pn0)):=k0;have k2:gc [.lst (r9 b es),.int (k:Int)]=.ok (lI (rwB es pn0)):=by
   exists rpB,nr,k0
  have g0:L2.atI [W.int (k:Int),.int (n:Int)] 0=some (.int (k:Int)):=rfl;have g1:L2.atI [W.int (k:Int),.int (n:Int)] 1=some (.int (n:Int)):=rfl;exists rpB,V2,O,f0,e1,g0,g1,k1,k2;show ⟨_,rfl,.lift hn hF B0 B1⟩
 | none b0=>
  have ki:=LE (b:=b) hl;have s1:v5 false (W.str "weights") (W.str "weights")=.ok (.bl true):=rfl;have s2:v5 false (W.str "bag") (W.str "weights")=.ok (.bl false):=rfl;cases wh with
  | true=>
   exists rpB,V2,O,f0,f1,e1,ki;show ⟨_,rfl,.all rfl⟩
  | false=>
   cases hw with
   | @b p y=>
    have a0:L2.atI [W.str "bag",.int (p:Int),tI y] 0=some (.str "bag"):=rfl;exists rpB,V2,O,f0,f1,e1,m0,m1,e2,a0,s2;show ⟨_,rfl,.opn rfl rfl⟩
   | @w y _=>
    have a0:L2.atI [W.str "weights",tI y] 0=some (.str "weights"):=rfl;exists rpB,V2,O,f0,f1,e1,m0,m1,e2,a0,s1;show ⟨_,rfl,.wts rfl rfl⟩
def xw (hs:nn s) (hm:okN s.length m) (hc:n5 s m.1=true):nn (y8 s m):=λx O=>by
 obtain ⟨k,hk,rfl⟩:=qB1.mp O
 have:=M9 hc (show k<s.length by simpa using hk)
 have:=T6 hm.2.2.2 k
 omega
def pO:∀{n},(∀k,k<n->0<=f k)->0<=d9 n f
 |0,_=>qF3 0
 |n+1,h=>Int.add_nonneg (pO λk hk=>h k (qD2 hk)) (h n (qC8 n))
def BY (O:r<n) (h:∀k,k<n->0<=f k):f r<=d9 n f:=by
 have:=X0 (g:=λk=>if k=r then 0 else f k) O λk _ q=>by rw[qA8 q]
 have h2:=pO λk hk=>by
  change 0<=if k=r then 0 else f k
  split
  .show qF3 0
  .show h k hk
 omega
def gB c:∀n:Nat,d9 n (λ_=>c)=n*c
 |0=>by rw[Int.natCast_zero,qK9];rfl
 | n+1=>by
  change _+c=_;rw[gB,qZ0,qL4,qG8]
structure Dn (b y s:VW):Prop where
 len:s.length=b.length
 nn:nn s
 le:d9 b.length (λp=>y.getD p 0*s.getD p 0)<=d9 b.length λp=>y.getD p 0*b.getD p 0
def Dn.go (O:∀z∈ms,okB b.length z) (hy:WtA ms b.length y) (h:Dn b y s) (hm:m∈ms) (hc:n5 s m.1=true):Dn b y (y8 s m):=by
 refine ⟨by rw[S4,h.len],xw h.nn (by rw[h.len];show (O m hm).1) hc,qD9 ?_ h.le⟩;obtain ⟨j,hj,rfl⟩:=qG2 hm;have e:d9 b.length (λp=>y.getD p 0*(y8 s ms[j]).getD p 0)=d9 b.length (λp=>y.getD p 0*s.getD p 0)+d9 b.length λp=>y.getD p 0*stM ms j p:=by
  rw[<- B5];refine i7 λp hp=>?_;rw[ae (by rw[h.len];show hp),qM9];unfold stM;rw[qA3 (l:=ms),qA5];rfl
 have:=hy.down j hj
 omega
def Cl (b:VW)(ms:List Mv)(P:List Int->Prop):Prop:=(∀s,P s->s.length=b.length)/\∀s,P s->∀j,j<ms.length->n5 s (mvN ms j).1=true->P (y8 s (mvN ms j))
def Cl.gos (h:Cl b ms P):∀(r:Zq){s:VW},P s->gos b.length ms r (λp=>s.getD p 0)->∃s',P s'/\∀p,p<b.length->s'.getD p 0=s.getD p 0+dsp ms r p
 | [],s,hs,_=>⟨s,hs,λp _=>by change _=_+(0:Int);omega⟩
 | k::r,s,hs,⟨h1,h2,h3⟩=>by
  have hl:=h.1 s hs;have hP:=h.2 s hs k h1 (U1 λp O=>h2 p (by rw[<- hl];show O));obtain ⟨s',a0,q⟩:=Cl.gos h r hP (K9 r _ _ (λp O=>by
   change s.getD p 0+mvD (mvN ms k) p<=(y8 s (mvN ms k)).getD p 0;rw[ae (by rw[hl];show O)];show qF3 _) h3)
  refine ⟨s',a0,λp O=>?_⟩;rw[q p O,ae (by rw[hl];show O)]
  change _=_+(mvD (mvN ms k) p+dsp ms r p);unfold mvD;omega
def Cl.again (h:Cl b ms P) (hK:FlK b ms es A T) (B:Bt es k n pn) (hs:P s) (hc:∀p,p<b.length->(sA b es k).getD p 0<=s.getD p 0):∃s',P s'/\∀p,p<b.length->s'.getD p 0=s.getD p 0+((sA b es n).getD p 0-(sA b es k).getD p 0):=by
 induction B with
 |self=>show ⟨s,hs,λp _=>ox⟩
 | @step i e pn he _ _ ih=>
  obtain ⟨s',a0,q⟩:=ih;have hl:=h.1 s' a0;have hm:=qD7 he;refine ⟨_,h.2 s' a0 _ (hK.k8 e hm) (U1 λp O=>?_),λp O=>?_⟩
  .rw [hl]at O
   have:=X1 hK he O
   rw[q p O]
   have:=hc p O
   omega
  .have:=(X1 hK he O).2.2
   rw[ae (by rw[hl];show O),q p O,this]
   change _+_+stM ms _ p=_;omega
def Cl.all (h:Cl b ms P) (O:FlK b ms es A T) (hb:P b):∀i,i<=es.length->P (sA b es i):=by
 intro i
 induction i using Nat.strongRecOn with
 | _ i ih=>
  intro hi;cases i with
  |zero=>show hb
  | succ i=>
   have he:es[i]?=_:=qA5 ox;have hm:=qD7 he;have hp:=O.par i _ he;rw[pT he,(O.beh _ hm).2];show h.2 _ (ih _ ox ox) _ (O.k8 _ hm) (O.beh _ hm).1
def Cl.pump (h:Cl b ms P) (hK:FlK b ms es A T) (B:Bt es k n pn) (L:Lft b es k n) (hs:P (sA b es k)):∀N:Nat,∃s,P s/\∀p,p<b.length->s.getD p 0=(sA b es k).getD p 0+N*((sA b es n).getD p 0-(sA b es k).getD p 0)
 |0=>⟨_,hs,λp _=>ZZ⟩
 | N+1=>by
  obtain ⟨s,a0,q⟩:=Cl.pump h hK B L hs N;obtain ⟨s',h1,q'⟩:=h.again hK B a0 (λp O=>by
   rw[q p O];have h2:=L.le p O
   have:=qF7 (Int.natCast_nonneg N) (show 0<=(sA b es n).getD p 0-(sA b es k).getD p 0 by omega)
   omega)
  refine ⟨s',h1,λp O=>?_⟩;rw[q' p O,q p O];push_cast;omega
def Kr m:y8 s m=bhS s m:=by
 show qD1 λk _=>ox
def gj {O:List Cap}(hG:GK (b.map some) ms gs (gs.length+1) 0) (a0:∀m∈ms,okN b.length m) (q1:∀t∈O,t∈stC (b.map some) gs) (q4:∀c∈stC (b.map some) gs,∃t∈O,i9 c t=true):Cl b ms λs=>s.length=b.length/\∃t∈O,i9 (s.map some) t=true:=by
 refine ⟨λs h=>h.1,λs ⟨hl,hu⟩ j hj hc=>⟨by rw[S4,hl],?_⟩⟩;have hm:mvN ms j∈ms:=by
  grind[mvN]
 rw[Kr];show xa hG (by grind) q1 q4 (by grind) hm hc hu
def jF {b:VW}{O:List Cap}(q4:∀c∈stC (b.map some) gs,∃t∈O,i9 c t=true):∃t∈O,i9 (b.map some) t=true:=q4 _ qB2
def cF (hG:GK (b.map some) ms gs (gs.length+1) 0) (a0:∀m∈ms,okN b.length m) (h:Cl b ms P) (hb:P b) (ht:t∈stC (b.map some) gs) N:∃s,P s/\∀p,p<b.length->(∀v,t.getD p none=some v->s.getD p 0=v)/\(t.getD p none=none->N<=s.getD p 0):=by
 obtain ⟨a,ha,rfl⟩:=lT ht;have hr:=hG.rz (λm hm=>by rw[qA4];show (a0 m hm).1) a ha 0 (xI hG.par a ha);rw[qA4]at hr;obtain ⟨N0,r,g,re⟩:=hr N;have ec:∀p,p<b.length->C2 (sC _ gs 0) N0 p=b.getD p 0:=λp O=>by
  change ((b.map some).getD p none).getD N0=_;rw[M6 O];rfl
 obtain ⟨s,hs,q⟩:=h.gos r hb (K9 r _ _ (λp O=>by rw[ec p O];show qF3 _) g);refine ⟨s,hs,λp O=>?_⟩
 have:=re p O
 dsimp at this;rw[ec p O,<- q p O]at this;show this
def jX (hG:GK (b.map some) ms gs (gs.length+1) 0) (O:∀m∈ms,okN b.length m) (h:Cl b ms P) (hb:P b) (hp:p<b.length){V}(hV:∀s,P s->s.getD p 0<=V) (ht:t∈stC (b.map some) gs):∃v,t.getD p none=some v:=by
 cases q:t.getD p none with
 |some v=>omega
 | none=>
  obtain ⟨s,hs,e⟩:=cF hG O h hb ht (V+1);have h1:=(e p hp).2 q
  have:=hV s hs
  omega
def bG (hG:GK (b.map some) ms gs (gs.length+1) 0) (a0:∀m∈ms,okN b.length m) (hK:FlK b ms es (es.length+1) []) (ht:t∈stC (b.map some) gs):∃s∈stS b es,t=s.map some:=by
 have hC:Cl b ms _:=⟨λs hs=>K2 hK hs,λs hs j hj hc=>dJ hK hs hj hc⟩;have hb:b∈stS b es:=qB2;have hn:∀p,p<b.length->∃v,_=_:=λp hp=>by
  obtain ⟨y,hy,O⟩:=nj _ hb;show jX hG a0 hC hb hp O ht
 obtain ⟨s,hs,e⟩:=cF hG a0 hC hb ht 0;have lt:=bM hG t ht;have ls:=K2 hK hs;refine ⟨s,hs,qH7 λp=>?_⟩
 grind
def Dn.top (hy:WtA ms b.length y) (h:Dn b y s) (O:p<b.length):s.getD p 0<=d9 b.length λp=>y.getD p 0*b.getD p 0:=by
 have h0:∀k,k<b.length->0<=s.getD k 0:=λk hk=>mem_getD h.nn (by rw[h.len];show hk);have h1:=BY (f:=λp=>y.getD p 0*_) O λk hk=>qF7 (by have:=hy.pos k hk;omega) (h0 k hk);have h2:=qH1 (hy.pos p O).1 (h0 p O)
 have:=h.le
 omega
def zC {ss:VV}(h:i<ss.length):ss.getD i []∈ss:=TP.getD_mem h
def jp {ss:VV}(h:(ss.map tI)[i]?=some w):i<ss.length/\w=tI (ss.getD i []):=by
 grind
def Eb (h:ss.length<64) (a0:∀z∈ss,z ≠ []):fSort [lS ss]=.ok (lS (J5 ss)):=by
 have O:ss.all (λx=>!x.isEmpty)=true:=by
  grind
 change (match S9 _ with|some ss=>_|none=>_)=_;rw[fG]
 change (if _ then _ else _)=_;rw[qA2 ⟨h,O⟩]
noncomputable def mxB (ss:VV)(s:VW):Bool:=!(ss.any λo=>!decide (o=s)&&n5 o s)
def xX {l:VV}(hi:i<l.length):(l.take (i+1)).filter f=(l.take i).filter f++if f (l.getD i []) then [l.getD i []] else []:=by
 grind[List.take_succ]
def qH:∀{x y:VW},x.length=y.length->v9 (o7 (x.map some)) (o7 (y.map some))=TP.lexLt x y
 | [],[],_=>rfl
 | a::x,c::y,h=>by
  have O:=qH (y:=y) (by simpa using h)
  change (if ([0,a]) = [0,c] then v9 (o7 _) (o7 _) else TP.lexLt [0,a] [0,c])=_
  grind[TP.lexLt]
def pH (hl:x.length=y.length) (h:i9 (x.map some) (y.map some)=true):n5 y x=true:=U1 λk hk=>by
 have O:=gu h (p:=k) (by rw[qA4];omega);rw[M6 ox,M6 hk]at O;show qN5 O
theorem Ey (O:x.length=y.length) (h:n5 y x=true):i9 (x.map some) (y.map some)=true:=by
 unfold i9;rw[qH5];intro k hk;have hk:k<x.length:=by simpa using hk
 rw[M6 hk,M6 ox];show qN4 (M9 h ox)
def AA (O:x.length=y.length) (h1:n5 x y=true) (h2:n5 y x=true):x=y:=by
 refine qF4 O λk a b=>?_;have q1:=M9 h1 a;have q2:=M9 h2 b
 grind
def JI (O:n5 x y=true)(h2:n5 y z=true)(l1:x.length=y.length):n5 x z=true:=U1 λk hk=>qD9 (M9 h2 ox) (M9 O hk)
def rH {ts:List Cap}(hG:GK (b.map some) ms gs (gs.length+1) 0) (a0:∀m∈ms,okN b.length m) (q1:∀t∈ts,t∈stC (b.map some) gs) (q3:ts.Pairwise λa b=>v9 (o7 a) (o7 b)=true/\i9 a b=false/\i9 b a=false) (q4:∀c∈stC (b.map some) gs,∃t∈ts,i9 c t=true) (hK:FlK b ms es (es.length+1) []):ts=(J5 ((stS b es).filter (mxB (stS b es)))).map λs=>s.map some:=by
 have hC:=gj hG a0 q1 q4;obtain ⟨t0,ab,h0⟩:=jF q4;have a6:∀s∈stS b es,∃u∈_,u.map some∈ts/\n5 u s=true:=λs hs=>by
  obtain ⟨a,ha,rfl⟩:=qG2 hs;have ea:(stS b es)[a]=sA b es a:=by
   grind[sA]
  rw[O5]at ha;obtain ⟨hl,t,ht,hu⟩:=hC.all hK ⟨rfl,t0,ab,h0⟩ a ox;obtain ⟨u,a7,rfl⟩:=bG hG a0 hK (q1 t ht);show ⟨u,a7,ht,by rw[ea];show pH (by rw[hl,K2 hK a7]) hu⟩
 obtain ⟨us,rfl,a5⟩:=by
  have:∀l,(∀t∈l,∃s∈stS b es,t=s.map some)->∃us:List _,l=us.map _/\∀u∈us,u∈stS b es:=λl=>by
   induction l with
   |nil=>show λ_=>⟨[],rfl,λu hu=>nomatch hu⟩
   | cons t l ih=>
    intro h;obtain ⟨us,e,hu⟩:=ih λx hx=>h x (qA6 _ hx);obtain ⟨s,hs,e2⟩:=h t qB2;refine ⟨s::us,by rw[qE1,e,e2],λu b3=>?_⟩
    grind
  show this ts λt ht=>bG hG a0 hK (q1 t ht)
 have hlen:=λu hu=>K2 hK (a5 u hu);have O:∀{u:_},u.map some∈us.map (λs=>s.map some)->u∈us:=λ{u} h=>by
  obtain ⟨s,hs,e⟩:=qB1.mp h
  have:s=u:=by
   have:=congrArg (List.map λo:Option Int=>o.getD 0) e
   simpa [qC0,qW6]using this
  omega
 rw[qI8]at q3;have a4:∀x∈us,∀y∈us,n5 x y=true->x=y:=λx hx y hy hc=>by
  grind[Ey,List.getElem_of_mem,List.pairwise_iff_getElem]
 have up:us.Pairwise λa c=>TP.lexLt a c=true:=by
  refine qR1 (λ{a c} ha hc h=>?_) q3;rw[<- qH (by rw[hlen a ha,hlen c hc])];show h.1
 have nd:us.Nodup:=up.imp λ{a c} h e=>by rw[e,bu]at h;cases h
 have b0:us.Pairwise λa c=>TP.lexLt c a=false:=up.imp λ{a c} h=>by
  cases q:TP.lexLt c a with
  |false=>rfl
  |true=>have:=dF _ _ _ h q;rw[bu]at this;cases this
 congr 1;refine (List.Perm.eq_of_pairwise (le:=λa b=>TP.lexLt b a=false) (λa b _ _ x y=>eL _ _ y x) (Ca _) b0 ((jP _).trans ((qV8 (hK.nod.filter _) nd).mpr λs=>⟨λhs=>?_,λhs=>?_⟩))).symm
 .obtain ⟨h1,h2⟩:=qP1.mp hs;obtain ⟨u,hu,a3,hc⟩:=a6 s h1;by_cases e:u=s
  .rw[<- e];show O a3
  .exfalso;unfold mxB at h2;rw[qM6,qI7]at h2;show h2 u hu (by rw[qN3 e,hc];rfl)
 .refine qP1.mpr ⟨a5 s hs,?_⟩;unfold mxB;rw[qM6,qI7];intro o ho h;obtain ⟨h1,h2⟩:=qU3.mp h;obtain ⟨u,hu,a3,hc⟩:=a6 o ho;have lo:=K2 hK ho;have lu:=K2 hK hu;have ls:=hlen s hs;have e:=a4 u (O a3) s hs (JI hc h2 ox);subst e
  have:o=u:=AA ox h2 hc
  rw[this]at h1;simp at h1
noncomputable def srcL (g t p:VW):List Int:=(List.range g.length).map λk=>max (t.getD k 0) (g.getD k 0-p.getD k 0+t.getD k 0)
def uA (ht:t.length=g.length) (hp:p.length=g.length) (hg:g.length<=6):ga [tI g,.tup [tI t,tI p]]=.ok (tI (srcL g t p)):=by
 have a0:L2.atI [_,tI p] 0=some (tI t):=rfl;have a1:L2.atI [tI t,_] 1=some (tI p):=rfl;have hz:=Ff (tI g) (tI t) (tI p) _ _ _ rfl rfl rfl;rw[BK ht hp]at hz;exists rpB,nq,a0,a1,hz;have e:∀N mg me a (h:∀k,k<g.length->∃O,_=_/\me O=_),j6 N mg yes me ((List.range _).map λk=>.tup [.int (g.getD k 0),.int (t.getD k 0),.int (p.getD k 0)]) a=.ok (lI (srcL g t p)):=λN mg me a h=>by
  rw[i4 _ _ _ a (by simpa using (by omega:g.length<=1000)) (λk hk=>h k (by simpa using hk)),D9];rfl
 rw[e]
 .exists rp18
 .intro k hk;refine ⟨_,rfl,?_⟩;exists rp18
def Ec (h:1<=k/\k<=1000):fRepT (.tup [z]) (.int k)=.ok (.tup (List.replicate k.toNat [z]).flatten):=by
 change (if _ then _ else _)=_;rw[qA2 ⟨List.cons_ne_nil _ _,by simp;omega,h.1,h.2⟩]
noncomputable def tp (ms:List Mv)(k:Nat) (r:Int):Int×Int:=((ms.getD r.toNat ([],[])).1.getD k 0,(ms.getD r.toNat ([],[])).2.getD k 0)
noncomputable def col (ms:List Mv)(k:Nat)(O:VW):List (Int×Int):=O.map (tp ms k)
noncomputable def sT:List (Int×Int)->Int
 | []=>0
 |a::r=>max a.1 (sT r-a.2+a.1)
noncomputable def aJ:List (Int×Int)->Int
 | []=>0
 |a::r=>a.2-a.1+aJ r
def lP:∀(a b:List (Int×Int)),aJ (a++b)=aJ a+aJ b
 | [],b=>by simp [aJ]
 |x::a,b=>by simp [aJ,lP];omega
noncomputable def aP (n:Nat)(ms:List Mv)(O:VW):List Int:=(List.range n).map λk=>sT (col ms k O)
noncomputable def Y1 (n:Nat)(ms:List Mv)(O:VW):List Int:=(List.range n).map λk=>aJ (col ms k O)
def cq n ms O:(aP n ms O).length=n:=by simp [aP]
def lO n ms O:(Y1 n ms O).length=n:=by simp [Y1]
def zeros n (f:VY) (h:∀k,f k=0):List.replicate n 0=(List.range n).map f:=by
 apply qF4
 .simp
 .simp [h]
def hZ (h1:1<=b.length) (h6:b.length<=6):ay [.tup [tI b,w]]=.ok (tI (List.replicate b.length 0)):=by
 have O:L2.atI [_,w] 0=some (tI b):=rfl;exists rpB,ko,O,Ec
abbrev okR (ms:List Mv)(O:VW):Prop:=∀r∈O,0<=r/\r<(ms.length:Int)
def wO (h1:1<=b.length) (h6:b.length<=6) (hm:∀m∈ms,okN b.length m) (hr:okR ms rs):Z5 [.tup [tI b,tM_ ms],lI rs]=.ok (tI (aP b.length ms rs)):=by
 have fin:Ok (Z5 [.tup [tI b,tM_ ms],lI rs]) λv=>v=tI (aP b.length ms rs):=by
  have k0:=hZ (w:=tM_ ms) h1 h6;have a1:L2.atI [tI b,_] 1=some (tM_ ms):=rfl;exists rpB,nu,k0;rw[<- qL1];refine o5 (o6 (λi c=>∃(a:Sl),c = [_,_,.val (tI (aP _ ms (rs.reverse.take i).reverse)),a]) ⟨.un,by rw[zeros _ _ (λ_=>rfl)];rfl⟩ ?_ ?_)
  .rintro i w c hw ⟨a,rfl⟩;obtain ⟨hi,rfl⟩:=wa hw;have O:=memD (λr h=>hr r (qL2.mp h)) hi;have e1:=atM O.1 O.2;have hk:=getM hm (show (rs.reverse.getD i 0).toNat<ms.length by omega);have e2:=uA (g:=aP _ ms (rs.reverse.take i).reverse) (t:=(ms.getD _ _).1) (p:=(ms.getD _ _).2) (by rw[cq,hk.1]) (by rw[cq,hk.2.1]) (by rw[cq];show h6);refine ⟨_,rfl,?_⟩;exists a1,e1,e2;refine ⟨.par (.int (rs.reverse.getD i 0)),?_⟩
   have:srcL (aP b.length ms (rs.reverse.take i).reverse) (ms.getD (rs.reverse.getD i 0).toNat ([],[])).1 (ms.getD (rs.reverse.getD i 0).toNat ([],[])).2=aP b.length ms (rs.reverse.take (i+1)).reverse:=by
    have q:(rs.reverse.take (i+1)).reverse=rs.reverse.getD i 0::(rs.reverse.take i).reverse:=by
     rw[qU7,List.reverse_append,qA3];simp only [qA5 hi];rfl
    rw[q];unfold srcL;rw[cq];refine qD1 λk hk=>?_;rw[show (aP b.length ms (rs.reverse.take i).reverse).getD k 0=_ from j8 (by simpa using hk)];rfl
   rw[this]
  .rintro c ⟨a,rfl⟩;rw[qA4,qI2,List.reverse_reverse];exists rp18
 obtain ⟨v,e,rfl⟩:=fin;show e
def uL (hl:d.length=g.length) (h6:g.length<=1000) (hz:-1000000<=z/\z<=1000000):B3 [tI g,tI d,.int z]=.ok (tI ((List.range g.length).map λk=>g.getD k 0+z*d.getD k 0)):=by
 have O:=J9 (tI g) (tI d) _ _ rfl rfl;rw[O3 hl]at O;exists rpB,V0,O;have e:∀N mg me a (h:∀k,k<g.length->∃a0,_=_/\me a0=_),j6 N mg yes me ((List.range _).map λk=>W.tup [.int (g.getD k 0),.int (d.getD k 0)]) a=_:=λN mg me a h=>by
  rw[i4 (λk=>.int (g.getD k 0+z*d.getD k 0)) _ _ a (by simpa using h6) (λk hk=>h k (by simpa using hk)),D9]
 rw[e]
 .exists rp18
 .intro k hk;refine ⟨_,rfl,?_⟩;exists rp18
def AC {O:VW}(h:i<O.length):col ms k (O.take (i+1))=col ms k (O.take i) ++ [tp ms k (O.getD i 0)]:=by
 unfold col;rw[qU7,qC7,qA3];simp only [qA5 h];rfl
def FE (h1:1<=b.length) (h6:b.length<=6) (hm:∀m∈ms,okN b.length m) (hr:okR ms rs):R7 [.tup [tI b,tM_ ms],lI rs]=.ok (tI (Y1 b.length ms rs)):=by
 have fin:Ok (R7 [.tup [tI b,tM_ ms],lI rs]) λv=>v=tI (Y1 b.length ms rs):=by
  have k0:=hZ (w:=tM_ ms) h1 h6;have a1:L2.atI [tI b,_] 1=some (tM_ ms):=rfl;exists rpB,nk,k0;refine o5 (o6 (λi c=>∃(a:Sl),c = [_,_,.val (tI (Y1 _ ms (rs.take i))),a]) ⟨.un,by rw[zeros _ _ (λ_=>rfl)];rfl⟩ ?_ ?_)
  .rintro i w c hw ⟨a,rfl⟩;obtain ⟨hi,rfl⟩:=wa hw;have O:=memD hr hi;have e1:=atM O.1 O.2;have hk:=getM hm (show (rs.getD i 0).toNat<ms.length by omega);have e2:=aE h6 hk;have e3:=uL (g:=Y1 b.length ms (rs.take i)) (d:=(List.range b.length).map λk=>(ms.getD (rs.getD i 0).toNat ([],[])).2.getD k 0-(ms.getD (rs.getD i 0).toNat ([],[])).1.getD k 0) (z:=1) (by simp [Y1]) (by rw[lO];omega) ox;refine ⟨_,rfl,?_⟩;exists a1,e1,e2,e3;refine ⟨.par (.int (rs.getD i 0)),?_⟩;rw[lO]
   have:((List.range b.length).map λk=>(Y1 b.length ms (rs.take i)).getD k 0+1*((List.range b.length).map λk=>(ms.getD (rs.getD i 0).toNat ([],[])).2.getD k 0-(ms.getD (rs.getD i 0).toNat ([],[])).1.getD k 0).getD k 0)=Y1 b.length ms (rs.take (i+1)):=by
    refine qD1 λk hk=>?_;have hk:k<b.length:=by simpa using hk
    rw[j8 hk,show (Y1 b.length ms (rs.take i)).getD k 0=_ from j8 hk,AC hi,lP,qG8];simp only [aJ,tp];omega
   rw[this]
  .rintro c ⟨a,rfl⟩;rw[qA4,qI2];exists rp18
 obtain ⟨v,e,rfl⟩:=fin;show e
noncomputable def pz (l:Zq):List Int:=l.map λ(k:Nat)=>(k:Int)
noncomputable def hur (ms:List Mv):List Nat->Nat->Int
 | [],_=>0
 |k::r,p=>max ((mvN ms k).1.getD p 0) (hur ms r p-mvD (mvN ms k) p)
noncomputable abbrev vF (n:Nat)(f:VY):List Int:=(List.range n).map f
def P1 n f:(vF n f).length=n:=ZZ
def Fq ms (p k:Nat):tp ms p k=((mvN ms k).1.getD p 0,(mvN ms k).2.getD p 0):=by
 unfold tp mvN;rw[qD8]
def qK ms p:∀r,sT (col ms p (pz r))=hur ms r p
 | []=>rfl
 | k::r=>by
  change max _ (sT (col ms p (pz r))-_+_)=max _ _;rw[qK,Fq];unfold mvD;omega
def pM ms p:∀r,aJ (col ms p (pz r))=dsp ms r p
 | []=>rfl
 | k::r=>by
  change _-_+aJ (col ms p (pz r))=_+_;rw[pM,Fq];rfl
def vP (h:∀k∈r,k<ms.length):okR ms (pz r):=λx O=>by
 obtain ⟨k,hk,rfl⟩:=qB1.mp O
 have:=h k hk
 omega
def DS (O:1<=b.length) (h6:b.length<=6) (hm:∀m∈ms,okN b.length m) (hr:∀k∈r,k<ms.length):Z5 [.tup [tI b,tM_ ms],lI (pz r)]=.ok (tI (vF b.length (hur ms r))):=by
 rw[wO O h6 hm (vP hr)];unfold aP;simp [qK]
def iN (O:1<=b.length) (h6:b.length<=6) (hm:∀m∈ms,okN b.length m) (hr:∀k∈r,k<ms.length):R7 [.tup [tI b,tM_ ms],lI (pz r)]=.ok (tI (vF b.length (dsp ms r))):=by
 rw[FE O h6 hm (vP hr)];unfold Y1;simp [pM]
def de (h6:n<=6) (hd:∀p,p<n->-18446744073709551616<d p/\d p<18446744073709551616):B3 [tI (vF n g),tI (vF n d),.int z]=.ok (tI (vF n λp=>g p+z*d p)):=by
 have O:=J9 (tI (vF n g)) (tI (vF n d)) _ _ rfl rfl;rw[O3 (by rw[P1,P1]),P1]at O;exists rpB,V0,O;have e:∀N mg me a (h:∀k,k<n->∃a0,_=_/\me a0=_),j6 N mg yes me ((List.range n).map λk=>W.tup [.int ((vF n g).getD k 0),.int ((vF n d).getD k 0)]) a=_:=λN mg me a h=>by
  rw[i4 (λk=>.int (g k+z*d k)) _ _ a (by simp;omega) (λk hk=>h k (by simpa using hk)),D9]
 rw[e]
 .exists rp18
 .intro k hk;have q:=U9 (i:=z) (hd k hk);refine ⟨_,rfl,?_⟩;rw[j8 hk,j8 hk];exists q
def KJ (b:VW):b=vF b.length λp=>b.getD p 0:=by
 apply qH7
 grind
noncomputable def rn (ms:List Mv):List Nat->List Int->Option VW
 | [],s=>some s
 |j::r,s=>if j<ms.length/\n5 s (mvN ms j).1=true then rn ms r (y8 s (mvN ms j)) else none
def pY (h:rn ms (j::r) s=some t):j<ms.length/\n5 s (mvN ms j).1=true/\rn ms r (y8 s (mvN ms j))=some t:=by
 grind[rn]
def uZ (q:Zq):∀(r:Zq) (s:VW),rn ms (r++q) s=(rn ms r s).bind (rn ms q)
 | [],s=>rfl
 | j::r,s=>by
  change (if _ then _ else none)=(if _ then _ else none).bind _
  split
  .show uZ q r _
  .rfl
theorem Bt.rn (hK:FlK b ms es A T) (B:Bt es k n pn):∃O:List Nat,rwB es pn=pz O/\K96.rn ms O (sA b es k)=some (sA b es n)/\O.length=pn.length:=by
 induction B with
 |self=>show ⟨[],rfl,rfl,rfl⟩
 | @step i e pn he _ _ ih=>
  obtain ⟨O,e1,e2,e3⟩:=ih;have hm:=qD7 he;obtain ⟨h2,h3⟩:=hK.beh e hm;refine ⟨O ++ [e.2.2],?_,?_,by rw[qB8,e3];rfl⟩
  .grind[rwB,pz,Lx]
  .rw [uZ,e2]
   change (if _<ms.length/\_=true then _ else none)=_;rw[qA2 ⟨hK.k8 e hm,h2⟩,FZ he,h3];rfl
def mz:∀{r:Zq}{s t},s.length=n->nn s->(∀m∈ms,okN n m)->rn ms r s=some t->t.length=n/\nn t/\(∀k∈r,k<ms.length)/\∀p,p<n->0<=hur ms r p/\hur ms r p<=s.getD p 0/\t.getD p 0=s.getD p 0+dsp ms r p
 | [],s,t,hl,hs,hm,h=>by
  cases h;show ⟨hl,hs,(λ_ h=>by cases h),λp hp=>⟨qF3 0,T6 hs p,(Int.add_zero _).symm⟩⟩
 | j::r,s,t,hl,hs,hm,h=>by
  obtain ⟨h1,h2,h3⟩:=pY h;have O:okN n (mvN ms j):=hm _ (by grind[mvN]);obtain ⟨a,b,c,d⟩:=mz (by rw[S4];show hl) (xw hs (by rw[hl];show O) h2) hm h3;refine ⟨a,b,λk hk=>?_,λp hp=>?_⟩
  .rcases qC4.mp hk with rfl|hk
   .show h1
   .show c k hk
  .obtain ⟨d0,d1,d2⟩:=d p hp;have e:=ae (m:=mvN ms j) (by rw[hl];show hp);have f:=M9 h2 (by rw[hl];show hp);have g:=T6 O.2.2.1 p;have u:hur ms (j::r) p=max _ _:=rfl;have v:dsp ms (j::r) p=_+_:=rfl;have w:mvD _ p=_-(mvN ms j).1.getD p 0:=rfl;refine ⟨?_,?_,?_⟩ <;> omega
def wv {ts:List Cap}(hG:GK (b.map some) ms gs (gs.length+1) 0) (a5:∀m∈ms,okN b.length m) (q1:∀t∈ts,t∈stC (b.map some) gs) (q4:∀c∈stC (b.map some) gs,∃t∈ts,i9 c t=true) (hK:FlK b ms es A T) (B:Bt es k n pn) (L:Lft b es k n):∃t∈ts,∀p,p<b.length->(sA b es k).getD p 0<(sA b es n).getD p 0->t.getD p none=none:=by
 have hC:=gj hG a5 q1 q4;obtain ⟨t0,a0,h0⟩:=jF q4;have b3:=L.hk;have b0:=L.hn;obtain ⟨V,hV⟩:∃V:Int,∀t∈ts,∀p,p<b.length->(t.getD p none).getD 0<=V /\ -V<=(sA b es k).getD p 0:=by
  have one:∀t:Cap,∃V:Int,∀p,p<b.length->_<=V:=λt=>by
   obtain ⟨B,_,h⟩:=bnd (λp=>(t.getD p none).getD 0) _;show ⟨B,h⟩
  obtain ⟨y,hy,a3⟩:=nj (λt=>(one t).choose) a0;obtain ⟨B2,a7,h2⟩:=bnd (λp =>-(sA b es k).getD p 0) _;refine ⟨max ((one y).choose) B2,λt ht p O=>⟨?_,?_⟩⟩
  .have:=(one t).choose_spec p O
   have:=a3 t ht
   omega
  .have:=h2 p O
   omega
 obtain ⟨s,⟨hl,t,ht,hu⟩,e⟩:=hC.pump hK B L (hC.all hK ⟨rfl,t0,a0,h0⟩ k ox) (2*V+1).toNat;refine ⟨t,ht,λp O ab=>?_⟩;have e:=e p O;obtain ⟨hm,a6⟩:=hV t ht p O;have h1:=gu hu (by rw[qA4,hl];show O);rw[M6 (by rw[hl];show O)]at h1;cases a4:t.getD p none with
 |none=>rfl
 | some v=>
  rw[a4]at h1 hm;have h1:=qN5 h1;have hm:v<=V:=hm;generalize (sA b es k).getD p 0=a at *
  generalize (sA b es n).getD p 0=d at *
  have h3:(((2*V+1).toNat:Nat):Int)*1<=(((2*V+1).toNat:Nat):Int)*(d-a):=qH3 ox (Int.natCast_nonneg _);omega
def a20 (a b:W):L2.atI [a,b] 0=some a:=rfl
def a21 (a b:W):L2.atI [a,b] 1=some b:=rfl
def eM (hl:c.length=a.length) (h6:a.length<=6):A3 [tI a,tI c]=.ok (.bl (n5 a c)):=by
 have fin:Ok (A3 [tI a,tI c]) λv=>v=.bl (n5 a c):=by
  exists rpB,cR;refine o5 (o6 (λi b=>∃x:Sl,b = [_,_,x]/\∀k,k<i->c.getD k 0<=a.getD k 0) ⟨_,rfl,λk hk=>absurd hk (qD4 _)⟩ ?_ ?_)
  .rintro i u b hu ⟨x,rfl,O⟩;obtain ⟨hi,rfl⟩:=bc hu;refine ⟨_,rfl,?_⟩;exists rp18;refine W3 (λh=>?_) (λh=>?_)
   .exists rp18;rw[BA hi (by simpa using h)]
   .refine ⟨_,rfl,λk hk=>?_⟩;by_cases e:k=i
    .subst e;simpa using h
    .show O k ox
  .rintro b ⟨x,rfl,O⟩;rw[qA4,qE2]at O;exists rp18;rw[U1 O]
 obtain ⟨v,e,rfl⟩:=fin;show e
def qE (h6:s.length<=6) (hm:okN s.length m):N5 [tI s,mW m]=.ok (tI (y8 s m)):=by
 have l1:=hm.1;have l2:=hm.2.1;have e:∀N mg me a (h:∀k∈_,∃O,_=_/\me O=_),j6 N mg yes me ((List.range s.length).map λk=>W.int (k:Nat)) a=.ok (lI (y8 s m)):=λN mg me a h=>by
  rw[i4 _ _ _ a (by simp;omega) h,D9];rfl
 exists rpB,cS;rw[e]
 .exists rp18
 .intro k hk;have hk:k<s.length:=by simpa using hk
  have a1:=rD (k:=k) ox;have a2:=rD (k:=k) ox;refine ⟨_,rfl,?_⟩;exists a20,a21,a1,a2;omega
def qC (h6:n<=6) (h8:ms.length<=8) (hm:∀m∈ms,okN n m) (hs:s.length=n) (h:rn ms r s=some t) (hr:r.length<=100):Q8 [lI (pz r),tI s,tM_ ms]=.ok (tI t):=by
 have fin:Ok (Q8 [lI (pz r),tI s,tM_ ms]) λv=>v=tI t:=by
  refine o5 (o6 (λi b=>∃(u:_) (x y:Sl),b = [_,x,_,y]/\(x=.par (tI u)\/x=.val (tI u))/\u.length=n/\rn ms (r.drop i) u=_) ⟨s,_,_,rfl,.inl rfl,hs,h⟩ ?_ ?_)
  .rintro i w b hu ⟨u,x,y,rfl,hx,hl,O⟩;unfold pz at hu;rw[qC0,qA9]at hu;obtain ⟨j,hj,hw⟩:=qF5.mp hu;replace hw:W.int j=w:=hw
   subst hw;have hi:=(qA7.mp hj).1;rw[qX1 hi,(qA7.mp hj).2]at O;obtain ⟨h1,h2,h3⟩:=pY O;have em:L2.atI (ms.map mW) j=some (mW (mvN ms j)):=A5 (by grind[mvN]);have a0:okN n (mvN ms j):=hm _ (by grind[mvN]);have kc:=eM (a:=u) (by rw[a0.1,hl]) ox;have kb:=qE (s:=u) ox (by rw[hl];show a0);rw[h2]at kc;have d1:decide (0<=(j:Int))=true:=qN4 ox;have d2:decide ((j)<(ms.length:Int))=true:=qN4 ox;refine ⟨_,rfl,?_⟩;rcases hx with rfl|rfl
   .exists em,a20,a21,kc,d1,d2,kb;show ⟨_,_,_,rfl,.inr rfl,by rw[S4];show hl,h3⟩
   .exists em,a20,a21,kc,d1,d2,kb;show ⟨_,_,_,rfl,.inr rfl,by rw[S4];show hl,h3⟩
  .rintro b ⟨u,x,y,rfl,hx,hl,O⟩;rw[qA4]at O;unfold pz at O;rw[qA4,List.drop_length]at O;cases O;rcases hx with rfl|rfl
   .exists rp18
   .exists rp18
 obtain ⟨v,e,rfl⟩:=fin;show e
def da (ms:List Mv):Prop:=∀m∈ms,∀p,-10000000000<=mvD m p/\mvD m p<=10000000000
def aB (h:da ms) p:∀r,(∀k∈r,k<ms.length)->-(r.length*10000000000)<=dsp ms r p/\dsp ms r p<=r.length*10000000000
 | [],_=>by change -_<=0/\0<=_*_;omega
 | k::r,hr=>by
  have h2:=h (mvN ms k) (by grind[mvN]) p;have ih:=aB h p r λj O=>hr j (qA6 _ O)
  change _<=_+_/\_+_<=_;rw[qB9];omega
def vQ (h:∀m∈ms,okB n m):da ms:=λm hm p=>by
 have O:=h m hm;have a1:=T6 O.1.2.2.1 p;have a2:=T6 O.1.2.2.2 p;have up:∀{l:VW},(∀x∈l,x<=2000000000)->l.getD p 0<=2000000000:=λ{l} hl=>by
  by_cases c:p<l.length
  all_goals simp_all
 have b1:=up O.2.1;have b2:=up O.2.2;unfold mvD;omega
def qM (h1:1<=b.length) (h6:b.length<=6) (hm:∀m∈ms,okN b.length m) (hs:da ms) (hr:∀k∈r,k<ms.length) (hl:r.length<=100) (hz:0<=z) (h:∀p,p<b.length->hur ms r p<=g p/\(z=1\/0<=dsp ms r p)):nU [.tup [tI b,tM_ ms],tI (vF b.length g),lI (pz r),.int z]=.ok (.bl true):=by
 have ds:∀p,p<b.length->-18446744073709551616<dsp ms r p/\dsp ms r p<18446744073709551616:=λp _=>by
  have:=aB hs p r hr
  omega
 by_cases z0:z=0
 .have d:=qN4 z0;exists rpB,ny,d
 .have d:=qN3 z0;have k1:=DS h1 h6 hm hr;have k2:=iN h1 h6 hm hr;have k3:=de (g:=g) (z:=z-1) h6 ds;have v0:∀(f:VY) p,p<b.length->_=f p:=λf p O=>j8 O;have k4:=aD (a:=vF _ g) (b:=vF b.length (hur ms r)) (by rw[P1,P1]);rw[U1 λp O=>by rw[P1]at O;rw[v0 _ p O,v0 _ p O];show (h p O).1]at k4;have k5:=aD (a:=vF _ λp=>g p+(z-1)*dsp ms r p) (b:=vF b.length (hur ms r)) (by rw[P1,P1])
  rw [U1 λp O=>by
   rw[P1]at O;rw[v0 _ p O,v0 _ p O];have q:=h p O;rcases q.2 with e|e
   .subst e;simpa using q.1
   .have:=qF7 (show 0<=z-1 by omega) e
    omega]at k5
  exists rpB,ny,d,k1,k2,k3,k4,k5
def uw {r0:Zq}(h1:1<=b.length) (h6:b.length<=6) (hm:∀m∈ms,okN b.length m) (hs:da ms) (a3:∀k∈r0,k<ms.length) (hl0:r0.length<=100) (O:∀k∈r1,k<ms.length) (a4:r1.length<=100) (hz:0<=z) (g0:∀p,p<b.length->hur ms r0 p<=b.getD p 0) (g1:∀p,p<b.length->hur ms r1 p<=b.getD p 0+1*dsp ms r0 p/\0<=dsp ms r1 p):cz [.tup [tI b,tM_ ms],tI b,.lst [.tup [lI (pz r0),.int 1],.tup [lI (pz r1),.int z]]]=.ok (tI (vF b.length λp=>b.getD p 0+1*dsp ms r0 p+z*dsp ms r1 p)):=by
 have ds:∀r,_->r.length<=100->∀p,p<b.length->-18446744073709551616<dsp ms r p/\dsp ms r p<18446744073709551616:=λr hr hl p _=>by
  have:=aB hs p r hr
  omega
 have a0:=qM (z:=1) h1 h6 hm hs a3 hl0 ZQ λp hp=>⟨g0 p hp,.inl rfl⟩;have a1:=qM (z:=z) h1 h6 hm hs O a4 hz λp hp=>⟨(g1 p hp).1,.inr (g1 p hp).2⟩;have s0:=iN h1 h6 hm a3;have s1:=iN h1 h6 hm O;have t0:=de (g:=λp=>b.getD p 0) (z:=1) h6 (ds r0 a3 hl0);have t1:=de (g:=λp=>b.getD p 0+1*dsp ms r0 p) (z:=z) h6 (ds r1 O a4);rw[<- KJ]at a0 t0;generalize a7:(vF _ _)=v0 at *
 generalize ab:(vF _ λp=>_+1*_+z*_)=v1 at *
 generalize a6:lI _=w0 at *
 generalize a5:lI _=w1 at *
 have fin:Ok (cz [.tup [tI b,tM_ ms],tI b,.lst [.tup [w0,.int 1],.tup [w1,.int z]]]) λv=>v=tI v1:=by
  exists rpB,no;refine o5 (o6 (λi a=>∃(x:VW) (p4 p5 p6 p7:Sl),a = [.par (.tup [tI b,tM_ ms]),.par (tI b),.par (.lst [.tup [w0,.int 1],.tup [w1,.int z]]),.val (tI x),p4,p5,p6,p7]/\(i=0->x=b)/\(i=1->x=v0)/\(i=2->x=v1)) ⟨b,_,_,_,_,rfl,λ_=>rfl,(λh=>absurd h ZQ),(λh=>absurd h ZQ)⟩ ?_ ?_)
  .rintro i u a hu ⟨x,p4,p5,p6,p7,rfl,e0,e1,e2⟩
   match i,hu with
   | 0,hu=>
    cases hu;rw[e0 rfl];refine ⟨_,rfl,?_⟩;exists a20,a21,a0;rw[s0,ag,ag,R.ok_bind,t0];exists rp18;show ⟨v0,_,_,_,_,rfl,(λh=>absurd h ZQ),(λ_=>rfl),(λh=>absurd h ZQ)⟩
   | 1,hu=>
    cases hu;rw[e1 rfl];refine ⟨_,rfl,?_⟩;exists a20,a21,a1;rw[s1,ag,ag,R.ok_bind,t1];exists rp18;show ⟨v1,_,_,_,_,rfl,(λh=>absurd h ZQ),(λh=>absurd h ZQ),(λ_=>rfl)⟩
   |i+2,hu=>cases hu
  .rintro a ⟨x,p4,p5,p6,p7,rfl,e0,e1,e2⟩;rw[e2 rfl];exists rp18
 obtain ⟨v,e,rfl⟩:=fin;show e
def An (cs:Cap):fIn false .non (tC cs)=.ok (.bl (cs.any (·.isNone))):=by
 unfold fIn;rw[FI,show shp 8 W.non=true from rfl,xC3,qA2 rfl]
 have:((pds (cs.map TP.oW)).any λy=>PyData.eqv y (pd .non))=cs.any (·.isNone):=by
  induction cs with
  |nil=>rfl
  | cons q qs O=>
   rw[qE1,pds,qK2,qK2,O];cases q <;> rfl
 change (match some _ with|some b=>R.ok (W.bl (if false=true then !b else b))|none=>.stuck)=_;rw[this];rfl
def jM (f:VY):∀n,((List.range n).map f).sum=d9 n f
 |0=>rfl
 | n+1=>by
  rw[qU0,qC7,List.sum_append,jM]
  change _+(f n+0)=_+f n;omega
def fB (h6:n<=6) (hy:y.length=n) (hs:s.length=n) (a3:∀p,p<n->1<=y.getD p 0/\y.getD p 0<=2^400) (bs:∀p,p<n->0<=s.getD p 0/\s.getD p 0<=2^460):C0 [tI y,tI s]=.ok (.int (d9 n λp=>y.getD p 0*s.getD p 0)):=by
 have ec:∀N mg me a (h:∀p∈_,∃a0,_=_/\me a0=_),j6 N mg yes me ((List.range n).map λp=>W.int (p:Nat)) a=_:=λN mg me a h=>by
  rw[i4 (λp=>W.int (y.getD p 0*s.getD p 0)) _ _ a (by simp;omega) h,D9]
 have O:Ab _=d9 n λp=>y.getD p 0*s.getD p 0:=jM ..;exists rpB,dE,hs;rw[ec];rotate_left
 .intro p hp;have hp:p<n:=by simpa using hp
  have q:=a3 p hp;have o:=bs p hp;have b1:=D5 (k:=400) ⟨qD9 ZQ q.1,q.2⟩;have b2:=D5 (k:=460) ⟨qD9 ZQ o.1,o.2⟩;have m1:fI CMulB j9 _ _=.ok (.int (y.getD p 0*s.getD p 0)):=bp ox;refine ⟨_,rfl,?_⟩;exists m1
 exists O
def DC (h1:1<=b.length) (h6:b.length<=6) (hb:nn b) (a5:∀x∈b,x<=1000000000) (a6:∀m∈ms,okB b.length m) (hy:WtA ms b.length y) (hc:wc=.non\/∃ts:List VW,wc=.lst (ts.map tI)/\∀s∈ts,Dn b y s):Ok (M0 [tI y,.tup [tI b,tM_ ms],wc]) λv=>v=.bl true:=by
 have a0:=hy.len;have d0:decide (y.length=(b.length:Int))=true:=qN4 ox;have a4:d9 b.length (λp=>y.getD p 0*b.getD p 0)<=2^460:=by
  refine qD9 (iM (g:=λ_=>2^400*1000000000) λp hp=>?_) ?_
  .have q:=hy.pos p hp;show qJ4 q.2 (memD a5 hp) (T6 hb p) ox
  .rw [gB]
   omega
 have kw:∀s,Dn b y s->C0 _=_:=λs hs=>fB h6 a0 hs.len hy.pos λp hp=>⟨T6 hs.nn p,qD9 (hs.top hy hp) a4⟩;have kb:=kw b ⟨rfl,hb,qF3 _⟩;have mm:decide (dw y<1)=false:=qN3 (by
  obtain ⟨p,hp,e⟩:=qG2 (zB (ns:=y) ox);have q:=(hy.pos p ox).1;rw[qA3,qA5 hp]at q;have q:1<=y[p]:=q;omega)
 have bm:U0 dw [tI y]=.ok (.int (dw y)):=qR ox;exists rpB,bq,d0,bm,mm;refine o5 (o6 (λi a=>∃x:Sl,a = [.par (tI y),.par (.tup [tI b,tM_ ms]),.par wc,.par (tI b),.par (tM_ ms),x,.un]) ⟨_,rfl⟩ ?_ ?_)
 .rintro i u a hu ⟨x,rfl⟩;obtain ⟨m,hm,a3,rfl⟩:=qt hu;have hj:i<ms.length:=(qA7.mp a3).1;have O:=a6 m hm;have bd:∀l:List Int,l.length=b.length->nn l->(∀x∈l,x<=2000000000)->∀p,p<b.length->0<=l.getD p 0/\l.getD p 0<=2^460:=λl hl hn hx p hp=>⟨T6 hn p,qD9 (memD hx (by omega)) (by decide)⟩;have k0:=fB h6 a0 O.1.1 hy.pos (bd _ O.1.1 O.1.2.2.1 O.2.1);have k1:=fB h6 a0 O.1.2.1 hy.pos (bd _ O.1.2.1 O.1.2.2.2 O.2.2);have em:ms.getD i ([],[])=m:=by rw[qA3,a3];rfl
  have dn:=hy.down i hj;have e:d9 b.length (λp=>y.getD p 0*stM ms i p)=d9 b.length (λp=>y.getD p 0*m.2.getD p 0)-d9 b.length (λp=>y.getD p 0*m.1.getD p 0):=by
   have:=B5 (λp=>y.getD p 0*stM ms i p) (λp=>y.getD p 0*m.1.getD p 0) b.length
   rw[i7 (g:=λp=>y.getD p 0*m.2.getD p 0) λp _=>by unfold stM;rw[em,<- qM9];congr 1;omega]at this;omega
  have d:decide (d9 b.length (λp=>y.getD p 0*m.1.getD p 0)<d9 b.length (λp=>y.getD p 0*m.2.getD p 0))=false:=qN3 ox;refine ⟨_,rfl,?_⟩;exists a20,a21,k0,k1,d;show ⟨_,rfl⟩
 .rintro a ⟨x,rfl⟩;rcases hc with rfl|⟨ts,rfl,hts⟩
  .exists rp18
  .exists rp18;refine o6 (λi a=>∃z:Sl,a = [.par (tI y),.par (.tup [tI b,tM_ ms]),.par (.lst (ts.map tI)),.par (tI b),.par (tM_ ms),x,z]) ⟨_,rfl⟩ ?_ ?_
   .rintro i u a hu ⟨z,rfl⟩;obtain ⟨hi,rfl⟩:=jp hu;have hs:=hts _ (zC hi);generalize ts.getD i []=s at *
    have k0:=kw s hs;have d:decide (d9 b.length (λp=>y.getD p 0*b.getD p 0)<d9 b.length (λp=>y.getD p 0*s.getD p 0))=false:=qN3 (by have:=hs.le;omega);have kn:fIn false .non (tI s)=.ok (.bl false):=by
     have:=An (s.map some)
     rw[show tC (s.map some)=tI s by (change W.tup ((s.map some).map TP.oW)=W.tup (s.map W.int);rw[qC0];rfl)]at this;rw[this,List.any_map];congr 2;rw[qI7];intro x _;show qC9
    refine ⟨_,rfl,?_⟩;exists kn,k0,kb,d;show ⟨_,rfl⟩
   .rintro a ⟨z,rfl⟩;exists rp18
def Ck (h:ws.length=n):Y5 n N m ws=Z9 (m (ws.map Sl.val++List.replicate (N-n) Sl.un)):=by unfold Y5;rw[qA2 h];rfl
def Ga a b c d:Y5 4 N m [a,b,c,d]=Z9 (m (Sl.val a::Sl.val b::Sl.val c::Sl.val d::List.replicate (N-4) Sl.un)):=Ck rfl
def LQ (t:Cap):chk (tC t)=.ok (tC t):=A4 (Y9 _ (λo=>ng o) t)
def zJ {r0:Zq}(h1:1<=b.length) (h6:b.length<=6) (hm:∀m∈ms,okN b.length m) (h8:ms.length<=8) (hb:nn b) (hs:da ms) (g0:rn ms r0 b=some here) (g1:rn ms r1 here=some there) (l0:r0.length<=100) (l1:r1.length<=100) (a5:∀p,p<b.length->here.getD p 0<=there.getD p 0) (a6:∃p,p<b.length/\here.getD p 0<there.getD p 0) (hz:0<=z) (hv:X7 [tM_ ms,.int b.length]=.ok (.tup [.str "bag",wp,wy])) (hc:wc=.non\/∃ts:List Cap,wc=.lst (ts.map tC)/\ts.length<=100/\(∀t∈ts,t.length=b.length)/\∃t∈ts,∀p,p<b.length->here.getD p 0<there.getD p 0->t.getD p none=none):Ok (T9 [.tup [.str "lift",lI (pz r0),lI (pz r1)],.tup [tI b,tM_ ms],wc,.int z]) λv=>v=.bl true:=by
 obtain ⟨hl0,b0,ab,a3⟩:=mz rfl hb hm g0;obtain ⟨c0,c3,a4,a0⟩:=mz hl0 b0 hm g1;have e0:=qC h6 h8 hm rfl g0 l0;have e1:=qC h6 h8 hm hl0 g1 l1;have st:=uw h1 h6 hm hs ab l0 a4 l1 hz (λp O=>(a3 p O).2.1) λp O=>by
  have a:=a3 p O;have c:=a0 p O;have d:=a5 p O;show ⟨by rw[qG8];omega,ox⟩
 have ev:(vF b.length λp=>b.getD p 0+1*dsp ms r0 p+z*dsp ms r1 p)=vF b.length λp=>here.getD p 0+z*(there.getD p 0-here.getD p 0):=by
  refine qD1 λp O=>?_;have O:p<b.length:=by simpa using O
  have a:=(a3 p O).2.2;have c:=(a0 p O).2.2;rw[qG8,<- a,c];congr 2;omega
 rw[ev]at st;have y0:L2.atI [W.str "lift",lI (pz r0),lI (pz r1)] 1=some (lI (pz r0)):=rfl;have y1:L2.atI [W.str "lift",lI (pz r0),lI (pz r1)] 2=some (lI (pz r1)):=rfl;have ne:decide (there=here)=false:=qN3 λe=>by
  obtain ⟨p,O,h⟩:=a6;rw[e]at h;omega
 have kc:=eM (a:=there) (c:=here) ox ox;rw[U1 λp O=>a5 p ox]at kc;have ef:∀N mg me f (h:∀p∈List.range b.length,ZX N f mg (.int (p:Nat)) λ ρ1=>me ρ1=.ok (.int (here.getD p 0+z*(there.getD p 0-here.getD p 0)))),j6 N mg yes me ((List.range b.length).map λp=>W.int (p:Nat)) f=.ok (lI (vF b.length λp=>here.getD p 0+z*(there.getD p 0-here.getD p 0))):=λN mg me f h=>by
  rw[i4 (λp=>W.int (here.getD p 0+z*(there.getD p 0-here.getD p 0))) _ _ f (by simp;omega) h,D9]
 have ke:fEq true (tI (vF b.length λp=>here.getD p 0+z*(there.getD p 0-here.getD p 0))) (tI (vF b.length λp=>here.getD p 0+z*(there.getD p 0-here.getD p 0)))=.ok (.bl (!true)):=cD (db 7 _);have v0:L2.atI [W.str "bag",wp,wy] 0=some (.str "bag"):=rfl;have vs:v5 false (W.str "bag") (W.str "bag")=.ok (.bl true):=rfl;have ds:∀p,p<b.length->-18446744073709551616<there.getD p 0-here.getD p 0/\there.getD p 0-here.getD p 0<18446744073709551616:=λp O=>by
  have a:=(a0 p O).2.2
  have:=aB hs p r1 a4
  omega
 generalize c1:lI (pz r0)=w0 at *
 generalize b5:lI (pz r1)=w1 at *
 generalize b4:(vF b.length λp=>here.getD p 0+z*(there.getD p 0-here.getD p 0))=c4 at *
 exists Ga,fm,y0,y1,e0;exists e1;exists ne,kc,hl0;rw[ef];rotate_left
 .intro p O;have O:p<b.length:=by simpa using O
  have q:=U9 (i:=z) (ds p O);refine ⟨_,rfl,?_⟩;exists q
 exists y0,y1,st,ke;rcases hc with rfl|⟨ts,rfl,tl,tn,t,ht,hno⟩
 .exists hv,v0,vs;show ⟨_,rfl,rfl⟩
 .let F:List Nat:=(List.range b.length).filter λp=>decide (here.getD p 0<there.getD p 0)
  have hF:∀p∈F,p<b.length/\here.getD p 0<there.getD p 0:=λp O=>by
   have:=qP1.mp O
   show ⟨by simpa using this.1,qN5 this.2⟩
  have lF:F.length<=6:=by
   have:=qK8 (λp=>decide (here.getD p 0<there.getD p 0)) (List.range b.length)
   rw[qE2]at this;show qD3 this h6
  have eg:∀N mg mc me f (h:∀p∈List.range b.length,ZX N f mg (.int (p:Nat)) λ ρ1=>mc ρ1=.ok (decide (here.getD p 0<there.getD p 0))/\(decide (here.getD p 0<there.getD p 0)=true->me ρ1=.ok (.int (p:Nat)))),j6 N mg mc me ((List.range b.length).map λp=>W.int (p:Nat)) f=.ok (.lst (F.map λp:Nat=>W.int (p:Nat))):=λN mg mc me f h=>E9 _ _ _ _ f (by simp;omega) h;exists rp18;rw[eg];rotate_left
  .intro p O;have O:p<b.length:=by simpa using O
   refine ⟨_,rfl,?_,λ_=>?_⟩
   .exists rp18
   .exists rp18
  exists rp18
  let c:Cap->Bool:=λt=>decide ((((F.filter λp=>(t.getD p none).isNone).length:Nat):Int)=(F.length:Int))
  rw[E9 tC tC c ts _ ox ?_]
  .have a7:t∈ts.filter c:=by
    refine qP1.mpr ⟨ht,qN4 ?_⟩;rw[List.filter_eq_self.mpr λp O=>by rw[hno p (hF p O).1 (hF p O).2];rfl]
   have b3:=qS1 a7;have dz:decide (((ts.filter c).length:Int)=0)=false:=qN3 ox;exists dz,hv,v0,vs;show ⟨_,rfl,rfl⟩
  .intro t ht;have b6:=tn t ht;refine ⟨_,rfl,?_,λ_=>?_⟩
   .exists rp18;rw[E9 (λp:Nat=>W.int (p:Nat)) (λp:Nat=>W.int (p:Nat)) (λp=>(t.getD p none).isNone) F _ ox ?_]
    .exists rp18;rfl
    .intro p O;have k:=atO (show p<t.length by have:=(hF p O).1;omega);refine ⟨_,rfl,?_,λ_=>?_⟩
     .exists k;cases t.getD p none <;> rfl
     .exists rp18
   .exists rp18;show LQ t
theorem qO p:∀O:List VW,((pds (O.map tI)).any λy=>PyData.eqv y (pd (tI p)))=decide (p∈O)
 | []=>by simp [pds]
 | q::O=>by
  have g:=qO p O
  grind[PyData.eqv,pd,eqI,pds]
def Jl neg p O:fIn neg (tI p) (lS O)=.ok (.bl (if neg then !decide (p∈O) else decide (p∈O))):=by
 grind[inW,qO,fIn,db,gE]
def FK z:shp 8 (W.tup [W.str "at most",W.int z])=true:=by
 have:PyData.strOk (Str.ofString "at most")=true:=ZV
 change (PyData.strOk _&&_)=true;rw[this];rfl
def DL {ss:VV}(h1:1<=b.length) (h6:b.length<=6) (hm:∀m∈ms,okN b.length m) (hb:b∈ss) (hl:∀s∈ss,s.length=b.length) (a6:ss.Nodup) (a5:ss.length<=most) (b5:most<=18) (b0:∀s∈ss,∀m∈ms,n5 s m.1=true->y8 s m∈ss) (hc:wc=.non\/wc=lS (J5 (ss.filter (mxB ss)))/\∀p,p<b.length->iq [.tup [tI b,tM_ ms],.int p,.int most]=.ok (.tup [.str "at most",.int (F8 (ss.map λs=>s.getD p 0))])):Ok (W8 [lS ss,.tup [tI b,tM_ ms],.int most,wc]) λv=>v=.bl true:=by
 have kin:∀s∈ss,fIn true _ _=.ok (.bl false):=λs hs=>by rw[Jl,qN4 hs];rfl
 have ab:=LI a6 ox;have kb:=kin b hb;have d1:decide (most<(ss.length:Int))=false:=qN3 ox;have b3:=qS1 hb;exists rpB,ie,kb,ab,d1;refine o5 (o6 (λi d=>∃x y:Sl,d = [_,_,_,_,_,_,x,y,.un,.un,.un]) ⟨_,_,rfl⟩ ?_ ?_)
 .rintro i u d hu ⟨x,y,rfl⟩;obtain ⟨hi,rfl⟩:=jp hu;have hs:=zC hi;generalize ss.getD i []=s at hs
  refine ⟨_,rfl,?_⟩;exists rp18;refine dq (λi d=>∃y:Sl,d = [.par (lS ss),.par (.tup [tI b,tM_ ms]),.par (.int (most:Int)),.par wc,.par (tI b),.par (tM_ ms),.par (tI s),y,.un,.un,.un]) ⟨_,rfl⟩ ?_ ?_
  .rintro j u d hu ⟨y,rfl⟩;obtain ⟨m,a3,b4,rfl⟩:=qt hu;have a4:=hl s hs;have k0:=eM (a:=s) (c:=m.1) (by rw[(hm m a3).1,a4]) ox;refine ⟨_,rfl,?_⟩;cases q:n5 s m.1 with
   | false=>
    exists a20,k0,q;show ⟨_,rfl⟩
   | true=>
    have k1:=qE (s:=s) (m:=m) ox (by rw[a4];show hm m a3);have k2:=kin _ (b0 s hs m a3 q);exists a20,k0,q,k1,k2;show ⟨_,rfl⟩
  .rintro d ⟨y,rfl⟩;show ⟨_,_,rfl⟩
 .rintro d ⟨x,y,rfl⟩;rcases hc with rfl|⟨rfl,hpk⟩
  .exists rp18
  .have k0:fSort [lS (ss.filter (mxB ss))]=.ok (lS (J5 (ss.filter (mxB ss)))):=Eb (qJ6 (qK8 _ _) ox) λz hz e=>by grind
   have ke:fEq true (lS (J5 (ss.filter (mxB ss)))) (lS (J5 (ss.filter (mxB ss))))=.ok (.bl (!true)):=cD (gE 6 _);generalize hL:J5 (ss.filter (mxB ss))=L at *
   exists rp18;refine o6 (λi d=>∃a:Sl,d = [.par (lS ss),.par (.tup [tI b,tM_ ms]),.par (.int (most:Int)),.par (lS L),.par (tI b),.par (tM_ ms),a,y,.own (((ss.take i).filter (mxB ss)).map tI),.un,.un]) ⟨_,rfl⟩ ?_ ?_
   .rintro i u d hu ⟨a,rfl⟩;obtain ⟨hi,rfl⟩:=jp hu;have a0:=zC hi;have O:=xX (f:=mxB ss) hi;have a7:((ss.take i).filter (mxB ss)).length<=63:=by
     have:=qK8 (mxB ss) (ss.take i)
     rw[qI0]at this;omega
    generalize (ss.take i).filter (mxB ss)=F at O a7
    generalize ss.getD i []=z at a0 O
    refine ⟨_,rfl,?_⟩;exists rp18;rw[E9 tI tI (λo=>!decide (o=z)&&n5 o z) ss _ ox ?_];rotate_left
    .intro o ho;have k2:=eM (a:=o) (c:=z) (by rw[hl o ho,hl z a0]) (by rw[hl o ho];show h6);refine ⟨_,rfl,?_,λ_=>?_⟩
     .by_cases q:o=z
      .exists qN4 q
      .exists k2,qN3 q
     .exists A4 (Z0 o)
    have dm:decide ((((ss.filter λo=>!decide (o=z)&&n5 o z).length:Nat):Int)=0)=mxB ss z:=by
     unfold mxB;rw[qK3,qP0,qM6,qI7,Int.natCast_eq_zero,List.length_eq_zero_iff,List.filter_eq_nil_iff]
    exists dm;refine W3 (λh=>?_) (λh=>?_)
    .exists A4 (Z0 z);refine ⟨.par (tI z),?_⟩;rw[O,qA2 h,qC7]
    .exists rp18;refine ⟨.par (tI z),?_⟩;rw[O,qA8 (by rw[h];show qC9),qG0]
   .rintro d ⟨a,rfl⟩;rw[qA4,qI2];exists k0,ke;refine o6 (λi d=>∃y1 y2:Sl,d = [.par (lS ss),.par (.tup [tI b,tM_ ms]),.par (.int (most:Int)),.par (lS L),.par (tI b),.par (tM_ ms),a,y,.own ((ss.filter (mxB ss)).map tI),y1,y2]) ⟨_,_,rfl⟩ ?_ ?_
    .rintro i u d hu ⟨y1,y2,rfl⟩;obtain ⟨hi,rfl⟩:=bc hu;have kp:=hpk i hi;have ek:∀N mg me d (h:∀s∈ss,ZX N d mg (tI s) λ ρ1=>me ρ1=.ok (.int (s.getD i 0))),j6 N mg yes me (ss.map tI) d=.ok (lI (ss.map λs=>s.getD i 0)):=λN mg me d h=>by
      rw[i4 (λs=>W.int (s.getD i 0)) _ _ d ox h,D9]
     have kb:U0 F8 [lI (ss.map λs=>s.getD i 0)]=.ok (.int (F8 (ss.map λs=>s.getD i 0))):=jz (by rw[qA4];show b3);generalize F8 (ss.map λs=>s.getD i 0)=z at *
     have kz:fEq true (.tup [.str "at most",.int z]) (.tup [.str "at most",.int z])=.ok (.bl (!true)):=cD (FK z);refine ⟨_,rfl,?_⟩;exists kp;rw[ek];rotate_left
     .intro s hs;have a4:=hl s hs;refine ⟨_,rfl,?_⟩;exists rp18
     exists kb,kz;show ⟨_,_,rfl⟩
    .rintro d ⟨y1,y2,rfl⟩;exists rp18
def KK {k:Int}(h0:0<=k)(O:k<=1000):0<=k*k/\k*k<=1000000:=⟨qF7 h0 h0,qD9 (qJ4 O O h0 ox) ox⟩
def small (h:-18446744073709551616<z/\z<18446744073709551616):Builtin.Int.intBits z<=64:=intBits_le_64 ox ox
def eV {ns:VW}(hb:∀x∈ns,Builtin.Int.intBits x<=1048576) (h0:0<=k) (h1:k<=1000):∃z:Int,m7 [.scr (ns.map W.int),.int k]=.ok (.int z):=by
 have a0:=KK h0 h1;by_cases h:k<ns.length
 .exists rpB,T7,qN4 h;omega
 .by_cases O:0<(ns.length:Int)
  .have m0:0<=k*53%ns.length:=qL9 _ ox;have m1:k*53%_<_:=qM3 _ O;have hz:=memD hb (i:=(k*53%ns.length).toNat) ox;exists rpB,T7,qN3 h,qN4 O;generalize ns.getD _ 0=z at *
   have b1:=intBits_mul_le hz (small (z:=40692) ox);have b2:Builtin.Int.intBits (k*k*2017)<=64:=small ox;have b3:=intBits_add_le b1 b2;have b4:=intBits_add_le b3 (small (z:=31) ox);exists rp18;show ⟨_,rfl⟩
  .exists rpB,T7,qN3 h,qN3 O;show ⟨_,rfl⟩
def bdL (n:Nat)(l:VW):Prop:=l.length=n/\nn l/\∀x∈l,x<=2000000000
def bdL.snoc (h:bdL n l)(h0:0<=z)(hz:z<=2000000000):bdL (n+1) (l ++ [z]):=⟨by rw[qB8,h.1];rfl,Dg h.2.1 h0,EN h.2.2 hz⟩
def bdL.vec (h:∀k,k<n->0<=f k/\f k<=2000000000):bdL n (vF n f):=by
 refine ⟨ZZ,λx O=>?_,λx O=>?_⟩ <;> obtain ⟨k,hk,rfl⟩:=qB1.mp O
 .show (h k (by simpa using hk)).1
 .show (h k (by simpa using hk)).2
def AZ:∀n:Nat,(List.replicate n [W.int 0]).flatten=(vF n λ_=>0).map W.int
 |0=>rfl
 | n+1=>by
  rw[List.replicate_succ',List.flatten_append,AZ]
  grind[List.range_succ]
def Dj {ns:VW}(hb:∀x∈ns,Builtin.Int.intBits x<=1048576){n:Nat}(ha:0<=at_/\at_<=500) (h1:1<=n) (h4:n<=4) (hT:0<=T/\T<=100000000):Ok (aS [.scr (ns.map W.int),.int at_,.int n,.bl f,.int T]) λv=>∃m:Mv,v=mW m/\okB n m:=by
 have mT:∀{x:Int},fI CMulB j9 _ _=.ok (.int (x*T)):=U9 ox;exists rpB,fk;refine o5 (o6 (λi b=>∃(xs ys:_) (a c:Sl),b = [_,_,_,_,_,.own (xs.map W.int),.own (ys.map W.int),a,c,.un,.un]/\bdL i xs/\bdL i ys) ⟨[],[],_,_,rfl,⟨rfl,(λ_ h=>by cases h),(λ_ h=>by cases h)⟩,⟨rfl,(λ_ h=>by cases h),(λ_ h=>by cases h)⟩⟩ ?_ ?_)
 .rintro i u b hu ⟨xs,ys,a,c,rfl,O,hy⟩;obtain ⟨hi,rfl⟩:=bc hu;obtain ⟨z,ez⟩:=eV hb (k:=at_+(i:Int)) ox ox;obtain ⟨p,ep,p0,p2⟩:=qr (l:=[0,1,0,1,2,0]) (lo:=0) (hi:=2) ZQ (d:=z%6) ox (by change z%6<6;omega);obtain ⟨q,eq,q0,q2⟩:=qr (l:=[0,1,0,0,1,2,0]) (lo:=0) (hi:=2) ZQ (d:=z/6%7) ox (by change z/6%7<7;omega);have l1:=O.1;have l2:=hy.1;have t1:0<=(p:Int)*T/\(p:Int)*T<=2000000000:=⟨qF7 ox hT.1,qD9 (qJ4 (show (p:Int)<=2 by omega) hT.2 hT.1 ox) ox⟩;have t2:0<=(q:Int)*T/\(q:Int)*T<=2000000000:=⟨qF7 ox hT.1,qD9 (qJ4 (show (q:Int)<=2 by omega) hT.2 hT.1 ox) ox⟩;have ep:L2.atI [W.int 0,.int 1,.int 0,.int 1,.int 2,.int 0] (z%6)=some (.int (p:Int)):=ep;have eq:L2.atI [W.int 0,.int 1,.int 0,.int 0,.int 1,.int 2,.int 0] (z/6%7)=some (.int (q:Int)):=eq;refine ⟨_,rfl,?_⟩;exists ez;exists ep,eq,mT;show ⟨xs ++ [(p:Int)*T],ys ++ [(q:Int)*T],_,_,rfl,O.snoc t1.1 t1.2,hy.snoc t2.1 t2.2⟩
 .rintro b ⟨xs,ys,a,c,rfl,O,hy⟩;rw[qA4,qE2]at O hy;refine gR (λb=>∃(xs ys:VW) (a c d e:Sl),b = [.par (.scr (ns.map W.int)),.par (.int at_),.par (.int (n:Int)),.par (.bl f),.par (.int T),.own (xs.map W.int),.own (ys.map W.int),a,c,d,e]/\bdL n xs/\bdL n ys) ?_ ?_
  .cases f with
   | false=>
    exists rp18;show ⟨xs,ys,_,_,_,_,rfl,O,hy⟩
   | true=>
    obtain ⟨z,ez⟩:=eV hb (k:=at_) ox ox;obtain ⟨z1,a0⟩:=eV hb (k:=at_+1) ox ox;have q0:=qL9 (z/42) (show (n:Int)≠0 by omega);have q1:=qM3 (z/42) (show (0:Int)<n by omega);have r0:=qL9 (z1/42) (show (n:Int)≠0 by omega);have r1:=qM3 (z1/42) (show (0:Int)<n by omega);exists ez,a0;generalize z/42%(n:Int)=o1 at *
    generalize z1/42%(n:Int)=o2 at *
    let g:Int->Int->Nat->Int:=λo k p=>(if (p:Int)=o then 1 else 0)*(1+k)*T
    have hg:∀o k:Int,0<=k->k<(n:Int)->∀p,p<n->0<=g o k p/\g o k p<=2000000000:=λo k hk a3 p _=>by
     change 0<=(if (p:Int)=o then 1 else 0)*(1+k)*T/\(if (p:Int)=o then 1 else 0)*(1+k)*T<=2000000000;have t1:0<=(1+k)*T/\(1+k)*T<=2000000000:=⟨qF7 ox hT.1,qD9 (qJ4 (show 1+k<=4 by omega) hT.2 hT.1 ox) ox⟩
     split
     .simpa using t1
     .simp
    have ef:∀(o k:Int) N mg me b (h:∀p∈List.range n,ZX N b mg (.int (p:Nat)) λ ρ1=>me ρ1=.ok (.int (g o k p))),j6 N mg yes me ((List.range n).map λp=>W.int (p:Nat)) b=.ok (lI (vF n (g o k))):=λo k N mg me b h=>by
     rw[i4 (λp=>W.int (g o k p)) _ _ b (by simp;omega) h,D9]
    have mk:∀{x k:Int},0<=k->k<(n:Int)->fI CMulB j9 (.int x) (.int (1+k))=.ok (.int (x*(1+k))):=λh1 h2=>U9 ox;rw[ef o1 o2];rotate_left
    .intro p hp;refine ⟨_,rfl,?_⟩;exists mk r0 r1,mT;rfl
    exists rp18;rw[ef o2 o1];rotate_left
    .intro p hp;refine ⟨_,rfl,?_⟩;exists mk q0 q1,mT;rfl
    exists ez;have b1:=bdL.vec (hg o1 o2 r0 r1);have b2:=bdL.vec (hg o2 o1 q0 q1);refine W3 (λh=>?_) (λh=>?_)
    .have kr:jy true (.lst [.int 0]) (.int (n:Int))=.ok (lI (vF n λ_=>0)):=by
      rw[nV ox,qD8];rw[AZ];show bD (D2 _)
     exists kr;show ⟨_,_,_,_,_,_,rfl,b1,bdL.vec λ_ _=>ZQ⟩
    .exists rp18;show ⟨_,_,_,_,_,_,rfl,b1,b2⟩
  .rintro b ⟨xs,ys,a,c,d,e,rfl,O,hy⟩;exists rp18;show ⟨(xs,ys),rfl,⟨O.1,hy.1,O.2.1,hy.2.1⟩,O.2.2,hy.2.2⟩
def Bt.short (hK:FlK b ms es A T) (B:Bt es k n pn):pn.length<=n:=by
 induction B with
 |self=>show qC6 _
 | @step i e pn O _ _ ih=>
  have:=hK.par i e O
  rw[qB9];omega
def rB {P:List Int->Prop}:∀l:List Cap,(∀t∈l,∃s,P s/\t=s.map some)->∃us:List VW,l=us.map (λs=>s.map some)/\∀u∈us,P u
 | [],_=>⟨[],rfl,λu hu=>nomatch hu⟩
 | t::l,h=>by
  obtain ⟨us,e,hu⟩:=rB l λx hx=>h x (qA6 _ hx);obtain ⟨s,hs,O⟩:=h t qB2;refine ⟨s::us,by rw[qE1,e,O],λu a0=>?_⟩
  grind
def rA (us:VV):(us.map λs=>s.map some).map tC=us.map tI:=by
 grind[List.map_congr_left,TP.oW]
theorem yi {s:VW}(O:p<s.length):(s.map some).getD p none=some (s.getD p 0):=by
 grind
def CO {us:VV}(O:∀s∈us,s.length=n) (hp:p<n):pkL (us.map λs=>s.map some) p = [.str "at most",.int (F8 (us.map λs=>s.getD p 0))]:=by
 grind[W5,yi,xsP,List.map_congr_left,pkL]
def zD (hp:p<n) (h0:us ≠ []) (hs:ss ≠ []) (h1:∀u∈us,u∈ss) (hl:∀s∈ss,s.length=n) (h2:∀s∈ss,∃u∈us,n5 u s=true):F8 (us.map λs=>s.getD p 0)=F8 (ss.map λs=>s.getD p 0):=by
 have le:∀{l:VV} {s},s∈l->s.getD p 0<=_:=λ{l s} h=>by
  obtain ⟨k,hk,e⟩:=qG2 h
  have:=DJ (ns:=l.map λs=>s.getD p 0) k (by rw[qA4];show hk)
  rw[qA3,qA9,qA5 hk,e]at this;show this
 have mem:∀{l:VV},l ≠ []->∃s∈l,s.getD p 0=F8 (l.map λs=>s.getD p 0):=λ{l} h=>by
  have:=zE (ns:=l.map λs=>s.getD p 0) (by grind)
  grind
 obtain ⟨u,hu,eu⟩:=mem h0;obtain ⟨s,O,es⟩:=mem hs;have a:=le (h1 u hu);obtain ⟨v,hv,c⟩:=h2 s O;have d:=M9 c (by rw[hl v (h1 v hv)];show hp);have e:=le hv;omega
def xG {ts:List Cap}(hG:GK (b.map some) ms gs (gs.length+1) 0) (a0:∀m∈ms,okN b.length m) (q1:∀t∈ts,t∈stC (b.map some) gs) (q4:∀c∈stC (b.map some) gs,∃t∈ts,i9 c t=true) (hK:FlK b ms es (es.length+1) []):∀s∈stS b es,∃u∈stS b es,u.map some∈ts/\n5 u s=true:=λs hs=>by
 have hC:=gj hG a0 q1 q4;obtain ⟨t0,a3,h0⟩:=jF q4;obtain ⟨a,ha,rfl⟩:=qG2 hs;have ea:(stS b es)[a]=sA b es a:=by
  grind[sA]
 rw[O5]at ha;obtain ⟨hl,t,ht,hu⟩:=hC.all hK ⟨rfl,t0,a3,h0⟩ a ox;obtain ⟨u,O,rfl⟩:=bG hG a0 hK (q1 t ht);show ⟨u,O,ht,by rw[ea];show pH (by rw[hl,K2 hK O]) hu⟩
abbrev BT:W->Prop:=λv=>v=.bl true
def Good (land wc wm O:W):Prop:=(∃ss,O=.tup [.str "all",lS ss]/\Ok (W8 [lS ss,land,wm,wc]) BT)\/(∃a c,O=.tup [.str "lift",lI a,lI c]/\∀z:Int,0<=z->Ok (T9 [O,land,wc,.int z]) BT)\/(∃y,O=.tup [.str "weights",tI y]/\Ok (M0 [tI y,land,wc]) BT)\/O=.tup [.str "open"]
def good {most:Nat}(h1:1<=b.length) (h6:b.length<=6) (a7:nn b) (cc:∀x∈b,x<=1000000000) (a3:∀m∈ms,okB b.length m) (h8:ms.length<=8) (b3:1<=most) (cn:most<=14):∃wc wf,X8 [.tup [tI b,tM_ ms],.int most]=.ok wc/\az [.tup [tI b,tM_ ms],.int most]=.ok wf/\(wc=.non\/∃ts:List Cap,wc=.lst (ts.map tC))/\Good (.tup [tI b,tM_ ms]) wc (.int most) wf:=by
 have O:=λm hm=>(a3 m hm).1;obtain ⟨_,e2,es,wh,rfl,c1,hE⟩:=Ak (ms:=ms) h6 O h8 b3 ox;obtain ⟨A,T,hK,c5⟩:∃A T,FlK b ms es A T/\(wh=true->_):=by
  rcases hE with ⟨_,h⟩|⟨hw,_,A,T,k,h,_⟩
  .show ⟨_,_,h,λ_=>h⟩
  .show ⟨_,_,h,λq=>by rw[hw]at q;cases q⟩
 have hp:=hK.par;have hl:es.length<=100:=ox;obtain ⟨L,R,hL⟩:∃L R:Nat->_,∀n,n<=es.length->Pt es n (L n) (R n):=by
  refine ⟨λn=>if h:n<=es.length then (Pt.ex hp n h).choose else [],λn=>if h:n<=es.length then (Pt.ex hp n h).choose_spec.choose else [],λn hn=>?_⟩
  grind
 have hs:=λa (ha:a<=es.length)=>gJ hK ha;obtain ⟨wl,e5,a6⟩:=zK h1 h6 h8 a3;obtain ⟨wf,e3,b6⟩:=tL e5 a6 e2 hp hl hL hs;obtain ⟨wg,wc,eg,ec,a4⟩:=Az (b:=b) (ms:=ms) (most:=most) h1 h6 O h8 b3 ox;refine ⟨wc,wf,ec,e3,?_,?_⟩
 .rcases a4 with ⟨_,rfl⟩|⟨gs,ts,_,hgl,hG,rfl,_⟩
  .show .inl rfl
  .show .inr ⟨ts,rfl⟩
 cases b6 with
 | @lift n k pn0 pn1 hn hF B0 B1=>
  refine .inr (.inl ⟨_,_,rfl,λz hz=>?_⟩);have a0:=HU hK hL hn hF;obtain ⟨j0,c4,g0,l0⟩:=B0.rn hK;obtain ⟨j1,c3,g1,l1⟩:=B1.rn hK;have s0:=B0.short hK;have s1:=B1.short hK;have cp:=a0.hk;have b4:∃wp wy,wl=.tup [.str "bag",wp,wy]:=by
   cases a6 with
   |b=>show ⟨_,_,rfl⟩
   | @w y hy=>show (a0.no_wts hK B1 (y:=λp=>y.getD p 0) (λp hp=>(hy.pos p hp).1) hy.down).elim
  obtain ⟨wp,wy,rfl⟩:=b4;rw[c4,c3];refine zJ h1 h6 O h8 a7 (vQ a3) g0 g1 ox ox a0.le a0.lt hz e5 ?_;rcases a4 with ⟨_,rfl⟩|⟨gs,ts,_,hgl,hG,rfl,q1,q2,q3,q4⟩
  .show .inl rfl
  .show .inr ⟨ts,rfl,ox,λt ht=>by rw[bM hG t (q1 t ht),qA4],wv hG O q1 q4 hK B1 a0⟩
 | all q=>
  have hK:=c5 q;refine .inl ⟨_,rfl,DL h1 h6 O qB2 (λs hs=>K2 hK hs) hK.nod (by rw[O5];show c1) ox (λs hs m hm hc=>?_) ?_⟩
  .obtain ⟨j,hj,rfl⟩:=qG2 hm;have em:mvN ms j=ms[j]:=by grind[mvN]
   rw[<- em]at hc ⊢;show dJ hK hs hj hc
  .rcases a4 with ⟨_,rfl⟩|⟨gs,ts,_,hgl,hG,rfl,q1,q2,q3,q4⟩
   .show .inl rfl
   .have ht:=rH hG O q1 q3 q4 hK;have b5:=xG hG O q1 q4 hK;generalize hU:J5 ((stS b es).filter (mxB (stS b es)))=us at ht ⊢
    have b0:∀u∈us,u∈stS b es:=λu hu=>by
     grind[jP]
    have c0:us ≠ []:=λe=>by
     obtain ⟨u,_,h,_⟩:=b5 b qB2;rw[ht,e]at h;cases h
    have a5:∀u∈us,u.length=b.length:=λu hu=>K2 hK (b0 u hu);subst ht;refine .inr ⟨by rw[rA],λp hp=>?_⟩;have k:=za (p:=p) ec (by rw[qA4]at q2 ⊢;omega) (by grind) λt ht=>by
     obtain ⟨u,hu,rfl⟩:=qB1.mp ht;rw[qA4,a5 u hu];show hp
    rw[CO a5 hp,zD hp c0 (by simp [stS]) b0 (λs hs=>K2 hK hs) λs hs=>?_]at k
    .show k
    .obtain ⟨u,_,h,c⟩:=b5 s hs;obtain ⟨v,hv,e⟩:=qB1.mp h
     have:v=u:=by
      have:=congrArg (List.map λo:Option Int=>o.getD 0) e
      simpa [qC0,qW6]using this
     show ⟨u,by rw[<- this];show hv,c⟩
 | @wts y q2 q5=>
  have hy:=a6.wt q5;refine .inr (.inr (.inl ⟨y,rfl,DC h1 h6 a7 cc a3 hy ?_⟩));rcases a4 with ⟨_,rfl⟩|⟨gs,ts,_,hgl,hG,rfl,q1,_,_,q4⟩
  .show .inl rfl
  .have hC:Cl b ms (Dn b y):=⟨λs h=>h.len,λs h j hj hc=>h.go a3 hy (by
    unfold mvN;rw[qA3,qA5 hj];show qI1 _) hc⟩
   have ab:Dn b y b:=⟨rfl,a7,qF3 _⟩;obtain ⟨us,rfl,hu⟩:=rB (P:=Dn b y) ts λt ht=>by
    obtain ⟨s,hs,e⟩:=cF hG O hC ab (q1 t ht) 0;have cv:t.length=b.length:=by rw[bM hG t (q1 t ht),qA4]
    refine ⟨s,hs,qH7 λp=>?_⟩;by_cases hp:p<b.length
    .obtain ⟨v,hv⟩:=jX hG O hC ab hp (λs hs=>hs.top hy hp) (q1 t ht)
     have:=(e p hp).1 v hv
     rw[qA3,qA5 ox]at hv;have hv:t[p]=some v:=hv;have cy:=hs.len;rw[qA5 ox,qA9,qA5 ox,hv];rw[qA3,qA5 ox]at this;have this:s[p]=v:=this;rw[this];rfl
    .rw[qH2 ox,qH2 (by rw[qA4,hs.len];omega)]
   show .inr ⟨us,by rw[rA],hu⟩
 |opn=>show .inr (.inr (.inr rfl))
def a10 (a:W):L2.atI [a] 0=some a:=rfl
def a30 (a b c:W):L2.atI [a,b,c] 0=some a:=rfl
def law_pure (ns:VW) (_:ns.length<=63) (hb:∀x∈ns,Builtin.Int.intBits x<=1048576):lr [.scr (ns.map W.int)]=.ok (.bl true):=by
 have fin:Ok (lr [.scr (ns.map W.int)]) BT:=by
  obtain ⟨C,hC⟩:∃C:Int->Int,∀k,0<=k->k<=1000->m7 [.scr (ns.map W.int),.int k]=.ok (.int (C k)):=
   ⟨fun k=>if h:0<=k/\k<=1000 then (eV hb h.1 h.2).choose else 0,λk h0 h1=>by
    dsimp only;rw[dif_pos ⟨h0,h1⟩]
    grind⟩
  have c0:=hC 0 ZQ ZQ;have c1:=hC 1 ZQ ZQ;have c2:=hC 2 ZQ ZQ;have c3:=hC 3 ZQ ZQ;have c4:=hC 4 ZQ ZQ;have c5:=hC 5 ZQ ZQ;obtain ⟨n,hn⟩:∃n:Nat,1+C 0%4=(n:Int):=⟨(1+C 0%4).toNat,ox⟩;obtain ⟨most,a3⟩:∃n:Nat,1+C 1%14=(n:Int):=⟨(1+C 1%14).toNat,ox⟩;obtain ⟨k,hk⟩:∃n:Nat,1+C 4%4=(n:Int):=⟨(1+C 4%4).toNat,ox⟩;have p8:(10:Int)^(8:Int).toNat=100000000:=ZQ;exists rpB,Bm,c0,c1,c2,c3,hn,a3;generalize decide (C 2%3=1)=a4
  refine o5 (gR (λc=>∃T:Int,c = [.par (.scr (ns.map W.int)),.val (.int (n:Int)),.val (.int (most:Int)),.val (.bl a4),.val (.int T),.un,.un,.un,.un,.un,.un]/\0<=T/\T<=100000000) ?_ ?_)
  .refine W3 (λh=>?_) (λh=>?_)
   .exists c3,p8;show ⟨_,rfl,ox,ox⟩
   .exists rp18;show ⟨1,rfl,ox,ox⟩
  rintro c ⟨T,rfl,hT⟩;exists c4,hk;refine o6 (λi c=>∃(ms:List Mv) (a:Sl),c = [.par (.scr (ns.map W.int)),.val (.int (n:Int)),.val (.int (most:Int)),.val (.bl a4),.val (.int T),.own (ms.map mW),a,.un,.un,.un,.un]/\ms.length=i/\∀m∈ms,okB n m) ⟨[],_,rfl,rfl,λ_ h=>by cases h⟩ ?_ ?_
  .rintro i u c hu ⟨ms,a,rfl,hl,a5⟩;obtain ⟨hi,rfl⟩:=bc hu;obtain ⟨_,em,m,rfl,hm⟩:=Dj hb (f:=a4) (at_:=10+(n:Int)*(i:Int)) (T:=T) (n:=n) (by
    have:=qJ4 (show (n:Int)<=4 by omega) (show (i:Int)<=4 by omega) ox ox
    have:=qF7 (show (0:Int)<=n by omega) (show (0:Int)<=i by omega)
    omega) ox ox hT
   have mi:fI CMulB j9 (.int (n:Int)) (.int (i:Int))=.ok (.int ((n:Int)*(i:Int))):=U9 ox;refine ⟨_,rfl,?_⟩;exists mi,em;refine ⟨ms ++ [m],_,by rw[qC7];rfl,by rw[qB8,hl];rfl,λx hx=>?_⟩;rcases qF0.mp hx with q|q
   .show a5 x q
   .rw[qC5.mp q];show hm
  .rintro c ⟨ms,a,rfl,hl,a5⟩;rw[qA4,qE2]at hl;have mT:∀{x:Int},fI CMulB j9 (.int x) (.int T)=.ok (.int (x*T)):=U9 ox;have ef:∀N mg me c (h:∀p∈List.range n,ZX N c mg (.int (p:Nat)) λ ρ1=>me ρ1=.ok (.int (C (6+(p:Int))/3%4*T))),j6 N mg yes me ((List.range n).map λp=>W.int (p:Nat)) c=.ok (lI (vF n λp=>C (6+(p:Int))/3%4*T)):=λN mg me c h=>by
    rw[i4 (λp:Nat=>W.int (C (6+(p:Int))/3%4*T)) _ _ c (by simp;omega) h,D9]
   exists rp18;rw[ef];rotate_left
   .intro p hp;have hp:p<n:=by simpa using hp
    have cp:=hC (6+(p:Int)) ox ox;refine ⟨_,rfl,?_⟩;exists cp,mT
   have a0:bdL n (vF n λp=>C (6+(p:Int))/3%4*T):=bdL.vec λp _=>⟨qF7 ox hT.1,qD9 (qJ4 (show C (6+(p:Int))/3%4<=4 by omega) hT.2 hT.1 ox) ox⟩;have a7:∀x∈vF n λp=>C (6+(p:Int))/3%4*T,x<=1000000000:=λx hx=>by
    obtain ⟨p,_,rfl⟩:=qB1.mp hx;show qD9 (qJ4 (show C (6+(p:Int))/3%4<=4 by omega) hT.2 hT.1 ox) ox
   generalize (vF n λp=>C (6+(p:Int))/3%4*T)=b at *
   obtain ⟨wc,wf,k1,k2,hw,hg⟩:=good (b:=b) (ms:=ms) (most:=most) (by rw[a0.1];omega) (by rw[a0.1];omega) a0.2.1 a7 (by rw[a0.1];show a5) ox ox ox;have a6:(10:Int)^(40:Int).toNat=10000000000000000000000000000000000000000:=ZQ;have hz:0<=(C 5).fmod 10000000000000000000000000000000000000000:=by
    rw[qV7 _ ZQ];show qL9 _ ZQ
   have kz:fI aG gMz (.int (C 5)) (.int 10000000000000000000000000000000000000000)=.ok (.int ((C 5).fmod 10000000000000000000000000000000000000000)):=Dr ZQ;have fo:fEq false (.tup [.str "open"]) (.tup [.str "open"])=.ok (.bl (!false)):=cD ZV;have d1:decide (Str.ofString "lift" = Str.ofString "all")=false:=ZV;have d2:decide (Str.ofString "weights" = Str.ofString "all")=false:=ZV;have d3:decide (Str.ofString "weights" = Str.ofString "lift")=false:=ZV;have d4:decide (Str.ofString "open" = Str.ofString "all")=false:=ZV;have d5:decide (Str.ofString "open" = Str.ofString "lift")=false:=ZV;have d6:decide (Str.ofString "open" = Str.ofString "weights")=false:=ZV;exists k1;rw[k2];rcases hw with rfl|⟨ts,rfl⟩
   .rcases hg with ⟨ss,rfl,v,O,rfl⟩|⟨x,y,rfl,h⟩|⟨y,rfl,v,O,rfl⟩|rfl
    .exists a20,a21,O
    .obtain ⟨v,O,rfl⟩:=h _ hz;exists a30,d1,c5,a6,kz,O
    .exists a20,a21,d2,d3,O
    .exists a10,d4,d5,d6,fo
   .rcases hg with ⟨ss,rfl,v,O,rfl⟩|⟨x,y,rfl,h⟩|⟨y,rfl,v,O,rfl⟩|rfl
    .exists a20,a21,O
    .obtain ⟨v,O,rfl⟩:=h _ hz;exists a30,d1,c5,a6,kz,O
    .exists a20,a21,d2,d3,O
    .exists a10,d4,d5,d6,fo
 obtain ⟨v,e,rfl⟩:=fin;show e
end K96
set_option maxHeartbeats 4000000
open PySem L2 TP
namespace K96
def D6 {K}{d}:=(hX (K:=K) (d:=d) (g:=B9) (λ_ _=>rfl) (λ_ _ _=>.int))
def iH {K}{d}:=(hX (K:=K) (d:=d) (g:=gSub) (λ_ _=>rfl) (λ_ _ _=>.int))
def xLt {K}{d}:=(hX (K:=K) (d:=d) (g:=gLt) (λ_ _=>rfl) (λ_ _ _=>.bl))
def xGt {K}{d}:=(hX (K:=K) (d:=d) (g:=gGt) (λ_ _=>rfl) (λ_ _ _=>.bl))
local macro_rules | `(tactic| trivial)=>`(tactic| first | exact Or.inl rfl | exact Or.inr rfl | exact Or.inr (Or.inl rfl) | exact Or.inr (Or.inr rfl) | assumption | exact ⟨rfl,rfl,rfl,by decide +kernel,rfl,by decide +kernel,by decide +kernel⟩ | exact Room.mono (by assumption) (by decide) | exact ⟨rfl,by decide +kernel,by decide +kernel,by decide +kernel,by decide +kernel,by decide,by decide +kernel,by decide +kernel⟩)
abbrev hk (w:World):Frag:=wN w.params
structure Blt (mg:Vv):Prop where
 enumerate_:mg "enumerate" = none
 int_:mg "int" = none
 isinstance_:mg "isinstance" = none
 len_:mg "len" = none
 list_:mg "list" = none
 max_:mg "max" = none
 min_:mg "min" = none
 range_:mg "range" = none
 reversed_:mg "reversed" = none
 set_:mg "set" = none
 sorted_:mg "sorted" = none
 sum_:mg "sum" = none
 tuple_:mg "tuple" = none
 zip_:mg "zip" = none
def En (w:World)(mg:Vv):Prop:=∃h:Heap,(hk w).In h/\h.Ns mainGlobals mg
def bn (Y:En w mg)(e:PySem.W.nsIn (hk w) mainGlobals x=some none):mg x=none:=Y.elim λ_ q=>PySem.W.mg_none_of q.1 q.2 e
def bl (Y:En w mg):Blt mg:=⟨bn Y ZY,bn Y ZY,bn Y ZY,bn Y ZY,bn Y ZY,bn Y ZY,bn Y ZY,bn Y ZY,bn Y ZY,bn Y ZY,bn Y ZY,bn Y ZY,bn Y ZY,bn Y ZY⟩
noncomputable abbrev FD (O:String)(i:Nat)(pm:Value)(c:Nat):FuncData:=PySem.W.fnOf O O (S3 (top i)) (B4 (top i)) (b8 (top i)) .none .none .none pm none (.ref c) .none
def dk (Y:En w mg){O:String}{c:Nat}(e:(PySem.W.nsIn (hk w) mainGlobals O,(hk w).lookup f,PySem.W.codeIn (hk w) (.ref c) O,PySem.W.keepIn (hk w) (.ref f))=(some (some (.ref f)),some (hxG O i pm c),true,true)) (hb:∀ kV doc pm an cdv ct (us:Vy),us.length=ps.length->bindArgs (PySem.W.fnOf O O (S3 (top i)) (B4 (top i)) (b8 (top i)) .none kV doc pm an cdv ct) ⟨us,[]⟩=pure (ps.zip us)):Def (hk w) mg O (top i) ps f (FD O i pm c):=by
 obtain ⟨h,X,G⟩:=Y;injection e with a e
 injection e with l e
 injection e with c k
 have F:=IX (st:=top i) l c k;show ⟨F,PySem.W.mg_of X G a,F.binds hb⟩
def okF (D:Def K mg x st ps f fd) (S:e8 N ps (b8 st)) (hd:d=.F\/d=.V) (hn:ps.length=n) (O:N.length=l) (b:∀{cdv}{A:Around}{outer:List Env}{s}{H}{E},Room k (A.deeper (PyProof.Rows.envOfC x (b8 st) s.heap.objs.size f cdv))->PSs (aT CX0 P w K mg base N x (b8 st) f cdv A outer s H E).nox (B4 st) (tSt K (λ_ _=>False) d m)):FnOk P w K mg base CX0 (k+1) f fd ps (spM K n d (i3 n l m)):=by
 subst hn O;show D.F.ok S (λ_ _ _ _ h=>h.1) λcdv A outer s H vs Q E hr h=>⟨_,b hr,xp hd h⟩
def okI (D:Def K mg x st ps f fd) (S:e8 N ps (b8 st)) (hn:ps.length=n) (O:N.length=l) (b:∀ p{cdv}{A:Around}{outer:List Env}{s}{H}{E},Room k (A.deeper (PyProof.Rows.envOfC x (b8 st) s.heap.objs.size f cdv))->PSs (aT CX0 P w K mg base N x (b8 st) f cdv A outer s H E).nox (B4 st) (tStI K (λ_ _=>False) p (m p))):FnOk P w K mg base CX0 (k+1) f fd ps (iO K n (G8 n l m)):=by
 subst hn O;show D.F.ok S (λ_ _ _ _ h=>h.1) λcdv A outer s H vs Q E hr h=>(EJ h).elim λp q=>⟨_,b p hr,q⟩
def okL (D:Def K mg x st ps f fd) (S:e8 N ps (b8 st)) (hd:d=.F\/d=.V) (hn:ps.length=n) (O:N.length=l) (b:∀{A:Around}{outer:List Env}{s}{H}{E},Room k (A.deeper (PyProof.Rows.envOfC x (b8 st) s.heap.objs.size f fd.code))->PSs (aT CX0 P w K mg base N x (b8 st) f fd.code A outer s H E).nox (B4 st) (tSt K (λ_ _=>False) d m)):FnOk P w K mg base CX0 (k+1) f fd ps (spM K n d (i3 n l m)):=by
 subst hn O;show D.F.okC S (λ_ _ _ _ h=>h.1) λA outer s H vs Q E hr h=>⟨_,b hr,xp hd h⟩
def okX (D:Def K mg x st ps f fd) (S:e8 N ps (b8 st)) (hn:ps.length=n) (O:N.length=l) (b:∀{cdv}{A:Around}{outer:List Env}{s}{H}{E},Room k (A.deeper (PyProof.Rows.envOfC x (b8 st) s.heap.objs.size f cdv))->PSs (aT CX0 P w K mg base N x (b8 st) f cdv A outer s H E).nox (B4 st) (tSt K (λ_ _=>False) .V m)):FnOk P w K mg base CX0 (k+1) f fd ps (spX K n (Y5 n l m)):=by
 subst hn O;show D.F.ok S (λ_ _ _ _ h=>h.1) λcdv A outer s H vs Q E hr h=>⟨_,b hr,EI h⟩
def qcD {X}{K}{d}{e}{es:Vo}{pos}{mr:Zw}{k}{f}{fd}{ps}{x}{st}{p}{n N}{m}(F:FnOk X.prog X.w X.K X.mg X.base CX0 k f fd ps (spM K n d (i3 n N m))) (D:Def X.K X.mg x st ps f fd)
  (ha:PA X (e::es) (tA K (λ_ _=>False) .B mr)) (hd:d=.F\/d=.V:=by first|show .inl rfl|show .inr rfl) (hr:Room k X.A:=by show Room.mono (by assumption) ZQ) (hg:Gl X x:=by rfl) (a0:(x == ("__debug__" : Str))=false:=by decide) (he:starEach (e::es) X.env=(false,eval e X.env)::starEach es X.env:=by rfl) (O:(backTo pos (starEach es X.env)).any (·.1)=false:=by rfl) :
  PE X (.Call (.Name x p) (e::es) [] pos) (tM K (λ_ _=>False) d (bA (i3 n N m) mr)):=GZ F hd hr hg D.m D.F.kp D.b ha a0 he O
def LB:((139,85,26, "leaving.<locals>.<lambda>"): Addr×Nat×Nat×Str)∈L2.lamT:=by
 unfold L2.lamT;show qB2
def k7 {X}{K}{EX}{cs}{N'}{n}{tg iter elt}{ifs}{dd}{g}{mg}{mi}{ta:Zk}{ma:Zj}{pos}(S:CompScope X.env.scope cs X.N N') (hc:X.calm=true) (hi:PI X tg iter (tIt K EX false dd mi))
  (hg:∀cl ex s H,PG (C1 X cs cl N' ex s H) tg g) (O:Gt K dd g mg) (hk:J8 X.N.length g) (ht:∀cl ex s H,PIf (C1 X cs cl N' ex s H) ifs (tT K EX ta)) (he:∀cl ex s H,PE (C1 X cs cl N' ex s H) elt (tM K EX .V ma))
  (hn:N'.length=n:=by rfl) (hs:∀x,foldedSetIterable iter X.env x=pure x:=by intro _;rfl):PE X (.ListComp elt [⟨tg,iter,ifs,0⟩] cs pos) (tM K EX .F (j5 n mi mg ta ma)):=by
 subst hn;show GY S hc hi hg O hk ht he hs
def X3 {X}{K}{EX}{d}{i n}{y}{py}{cs}{N'}{tg iter elt}{ifs}{dd}{g}{mg}{mi}{ta:Zk}{ma:Zj}{O pos}(S:CompScope X.env.scope cs X.N N') (hc:X.calm=true) (hi:PI X tg iter (tIt K EX false dd mi))
  (hg:∀cl ex s H,PG (C1 X cs cl N' ex s H) tg g) (a3:Gt K dd g mg) (hk:J8 X.N.length g) (ht:∀cl ex s H,PIf (C1 X cs cl N' ex s H) ifs (tT K EX ta)) (he:∀cl ex s H,PE (C1 X cs cl N' ex s H) elt (tM K EX .V ma))
  (hN:X.N.Nodup) (hy:X.N[i]?=some y) (hl:Loc X.env.scope y)
  (hn:N'.length=n:=by rfl) (a0:swapsWith (.ListComp elt [⟨tg,iter,ifs,0⟩] cs O) (some (.Name y py)) pos.line X.env=pure true:=by rfl) (hf:X.fn y=true\/X.env.scope.names.lookup y=some .local:=by first|show .inl rfl|show .inr rfl|assumption)
  (hs:∀x,foldedSetIterable iter X.env x=pure x:=by intro _;rfl):PS X (.Assign [.Name y py] (.ListComp elt [⟨tg,iter,ifs,0⟩] cs O) pos) (tSt K EX d (sF i (j5 n mi mg ta ma))):=by
 subst hn;show GO S hc hi hg a3 hk ht he hN hy hl a0 hf hs
def yU {X}{K}{EX}{cs}{N'}{y}{n}{tg iter elt}{ifs}{dd}{g}{mg}{mi}{ta:Zk}{ma:Zj}{pos}(S:CompScopeC X.env.scope cs X.N N' y) (hc:X.calm=true) (hi:PI X tg iter (tIt K EX false dd mi))
  (hg:∀cl ex s H,PG (x4 X cs y cl N' ex s H) tg g) (O:Gt K dd g mg) (hk:J8 X.N.length g) (ht:∀cl ex s H,PIf (x4 X cs y cl N' ex s H) ifs (tT K EX ta)) (he:∀cl ex s H,PE (x4 X cs y cl N' ex s H) elt (tM K EX .V ma))
  (hn:N'.length=n:=by rfl) (hs:∀x,foldedSetIterable iter X.env x=pure x:=by intro _;rfl):PE X (.ListComp elt [⟨tg,iter,ifs,0⟩] cs pos) (tM K EX .F (j5 n mi mg ta ma)):=by
 subst hn;show CF S hc hi hg O hk ht he hs
def yS {X}{K}{EX}{d}{i n}{y}{py}{cs}{N'}{yc}{tg iter elt}{ifs}{dd}{g}{mg}{mi}{ta:Zk}{ma:Zj}{O pos}(S:CompScopeC X.env.scope cs X.N N' yc) (hc:X.calm=true) (hi:PI X tg iter (tIt K EX false dd mi))
  (hg:∀cl ex s H,PG (x4 X cs yc cl N' ex s H) tg g) (a3:Gt K dd g mg) (hk:J8 X.N.length g) (ht:∀cl ex s H,PIf (x4 X cs yc cl N' ex s H) ifs (tT K EX ta)) (he:∀cl ex s H,PE (x4 X cs yc cl N' ex s H) elt (tM K EX .V ma))
  (hN:X.N.Nodup) (hy:X.N[i]?=some y) (hl:Loc X.env.scope y)
  (hn:N'.length=n:=by rfl) (a0:swapsWith (.ListComp elt [⟨tg,iter,ifs,0⟩] cs O) (some (.Name y py)) pos.line X.env=pure true:=by rfl) (hf:X.fn y=true\/X.env.scope.names.lookup y=some .local:=by first|show .inl rfl|show .inr rfl|assumption)
  (hs:∀x,foldedSetIterable iter X.env x=pure x:=by intro _;rfl):PS X (.Assign [.Name y py] (.ListComp elt [⟨tg,iter,ifs,0⟩] cs O) pos) (tSt K EX d (sF i (j5 n mi mg ta ma))):=by
 subst hn;show CC S hc hi hg a3 hk ht he hN hy hl a0 hf hs
def us0 {P:List Value->Prop}(h:P []):∀us,us.length=0->P us:=λus e=>by
 rw[List.length_eq_zero_iff.mp e];show h
def us1 {P:List Value->Prop}(h:∀O,P [O]):∀us,us.length=1->P us:=λus e=>by
 cases us with
 |nil=>cases e
 |cons a us=>show us0 (P:=λus=>P (a::us)) (h a) us (Nat.succ.inj e)
def us2 {P:List Value->Prop}(h:∀a0 O,P [a0,O]):∀us,us.length=2->P us:=λus e=>by
 cases us with
 |nil=>cases e
 |cons a us=>show us1 (P:=λus=>P (a::us)) (λO=>h a O) us (Nat.succ.inj e)
def us3 {P:List Value->Prop}(h:∀a0 O a2,P [a0,O,a2]):∀us,us.length=3->P us:=λus e=>by
 cases us with
 |nil=>cases e
 |cons a us=>show us2 (P:=λus=>P (a::us)) (λO a2=>h a O a2) us (Nat.succ.inj e)
def us4 {P:List Value->Prop}(h:∀a0 O a2 a3,P [a0,O,a2,a3]):∀us,us.length=4->P us:=λus e=>by
 cases us with
 |nil=>cases e
 |cons a us=>show us3 (P:=λus=>P (a::us)) (λO a2 a3=>h a O a2 a3) us (Nat.succ.inj e)
def us5 {P:List Value->Prop}(h:∀a0 a1 a2 a3 O,P [a0,a1,a2,a3,O]):∀us,us.length=5->P us:=λus e=>by
 cases us with
 |nil=>cases e
 |cons a us=>show us4 (P:=λus=>P (a::us)) (λa1 a2 a3 O=>h a a1 a2 a3 O) us (Nat.succ.inj e)
def fJ:e8 ["stand","other","number","wanted"] ["stand","other"] (b8 (top 4)):=Zy
def FT:e8 ["stand","move"] ["stand","move"] (b8 (top 5)):=Zy
def yo:e8 ["move"] ["move"] (b8 (top 7)):=Zy
def Cf:e8 ["stand","move"] ["stand","move"] (b8 (top 6)):=Zy
def yl:e8 ["stand","move"] ["stand","move"] (b8 (top 9)):=Zy
def uQ:e8 ["moor"] ["moor"] (b8 (top 16)):=Zy
def bP:e8 ["moor","row","needed","number"] ["moor","row"] (b8 (top 11)):=Zy
def uO:e8 ["stand","step","times"] ["stand","step","times"] (b8 (top 15)):=Zy
def bO:e8 ["moor","row","total","number"] ["moor","row"] (b8 (top 12)):=Zy
def lZ:e8 ["moor","stand","row","times","needed","last"] ["moor","stand","row","times"] (b8 (top 14)):=Zy
def N6:e8 ["moor","stand","blocks","here","at","block","row","times"] ["moor","stand","blocks"] (b8 (top 13)):=Zy
def FS:e8 ["place","many"] ["place","many"] (b8 (top 18)):=Zy
def V5:e8 ["moves","place","many","steps","table"] ["moves","place","many"] (b8 (top 21)):=Zy
def fK:e8 ["table","column","gain"] ["table"] (b8 (top 22)):=Zy
def jR:e8 ["table","held","column","lines"] ["table","held","column"] (b8 (top 23)):=Zy
def uR:e8 ["row","by","column","scale"] ["row","by","column","scale"] (b8 (top 25)):=Zy
def jQ:e8 ["table","line","column","scale","by"] ["table","line","column","scale"] (b8 (top 24)):=Zy
def C9:e8 ["one","other","rest"] ["one","other"] (b8 (top 29)):=Zy
def C8:e8 ["numbers","shared","number"] ["numbers"] (b8 (top 28)):=Zy
def df:e8 ["table","place","scale","many_moves","losses"] ["table","place","scale","many_moves"] (b8 (top 27)):=Zy
def bQ:e8 ["table","held","column","scale","many_moves","times","line","holder"] ["table","held","column","scale","many_moves"] (b8 (top 26)):=Zy
def D0:e8 ["moves","place","many","table","held","scale","column","line"] ["moves","place","many"] (b8 (top 20)):=Zy
def ba:e8 ["moves","many","total","place","told"] ["moves","many"] (b8 (top 30)):=Zy
def iR:e8 ["cap","other","number","bound"] ["cap","other"] (b8 (top 32)):=Zy
def eZ:e8 ["cap","caps","other"] ["cap","caps"] (b8 (top 33)):=Zy
def rZ:e8 ["cap","move"] ["cap","move"] (b8 (top 34)):=Zy
def oY:e8 ["cap","move"] ["cap","move"] (b8 (top 35)):=Zy
def yn:e8 ["cap","elder"] ["cap","elder"] (b8 (top 36)):=Zy
def rY:e8 ["cap"] ["cap"] (b8 (top 38)):=Zy
def lX:e8 ["caps","found","cap"] ["caps"] (b8 (top 37)):=Zy
def W1:e8 ["tree","number","numbers","at"] ["tree","number"] (b8 (top 41)):=Zy
def dg:e8 ["moor","tree","at","number","move","cap","elder"] ["moor","tree","at","number"] (b8 (top 40)):=Zy
def Y4:e8 ["moor","most","tree","at","number"] ["moor","most"] (b8 (top 39)):=Zy
def pR:e8 ["moor","most","tree"] ["moor","most"] (b8 (top 42)):=Zy
def KL:e8 ["tree","number"] ["tree","number"] (b8 (top 44)):=Zy
def cL:e8 ["tree","elder","number","path"] ["tree","elder","number"] (b8 (top 45)):=Zy
def lY:e8 ["moor","place","most","caps","numbers"] ["moor","place","most"] (b8 (top 46)):=Zy
def gF:e8 ["moor","stand"] ["moor","stand"] (b8 (top 49)):=Zy
def O7:e8 ["moor","most","rows","known","at","stand","behind","number"] ["moor","most"] (b8 (top 48)):=Zy
def oX:e8 ["rows"] ["rows"] (b8 (top 50)):=Zy
def ym:e8 ["rows","number"] ["rows","number"] (b8 (top 51)):=Zy
def P4:e8 ["rows","number","row","elder"] ["rows"] (b8 (top 53)):=Zy
def U5:e8 ["moor","most","told","rows","lift","height"] ["moor","most"] (b8 (top 52)):=Zy
def aL:e8 ["_law_script","_law_k","_law_number"] ["_law_script","_law_k"] (b8 (top 55)):=Zy
def x6:e8 ["_law_script","_law_at","_law_many","_law_falling","_law_times","_law_take","_law_put","_law_p","_law_cell_here","_law_one","_law_other"] ["_law_script","_law_at","_law_many","_law_falling","_law_times"] (b8 (top 56)):=Zy
def cM:e8 ["_law_stand","_law_other","_law_p"] ["_law_stand","_law_other"] (b8 (top 57)):=Zy
def kX:e8 ["_law_stand","_law_move_here"] ["_law_stand","_law_move_here"] (b8 (top 58)):=Zy
def bR:e8 ["_law_row","_law_stand","_law_moves","_law_k"] ["_law_row","_law_stand","_law_moves"] (b8 (top 59)):=Zy
def A7:e8 ["_law_stands","_law_land","_law_most","_law_caps","_law_begin","_law_moves","_law_stand","_law_move_here","_law_highest","_law_p","_law_found"] ["_law_stands","_law_land","_law_most","_law_caps"] (b8 (top 60)):=Zy
def D8:e8 ["_law_found","_law_land","_law_caps","_law_laps","_law_begin","_law_moves","_law_here","_law_there","_law_due","_law_growing"] ["_law_found","_law_land","_law_caps","_law_laps"] (b8 (top 61)):=Zy
def mj:e8 ["_law_weights_here","_law_counts"] ["_law_weights_here","_law_counts"] (b8 (top 62)):=Zy
def E3:e8 ["_law_weights_here","_law_land","_law_caps","_law_begin","_law_moves","_law_move_here","_law_cap"] ["_law_weights_here","_law_land","_law_caps"] (b8 (top 63)):=Zy
def N1:e8 ["_law_script","_law_many","_law_most","_law_falling","_law_times","_law_moves","_law_k","_law_begin","_law_land","_law_caps","_law_found"] ["_law_script"] (b8 (top 64)):=Zy
section
variable {P:Program}{w:World}{mg:Vv}{base:Heap}(Y:En w mg)
include Y
def bB:Def (hk w) mg "covers" (top 4) ["stand","other"] 53 (FD "covers" 4 V8 52):=dk Y ZY λ_ _ _ _ _ _=>us2 λ_ _=>rfl
noncomputable abbrev Qa:List Str:=["stand","move"]
noncomputable abbrev Qb:List Str:=["moor","most"]
noncomputable abbrev Qc:List Str:=["cap","move"]
noncomputable abbrev Qd:List Str:=["rows"]
noncomputable abbrev Qe:List Str:=["stand","move","number","take","put"]
noncomputable abbrev Qf:List Str:=["moor","row"]
noncomputable abbrev Qg:List Str:=["moves","place","many"]
noncomputable abbrev Qh:List Str:=["tree","number"]
noncomputable abbrev Qi:List Str:=["_law_script","_law_at","_law_many","_law_falling","_law_times","_law_take","_law_put","#_law_p","_law_cell_here","_law_one","_law_other","_law_p"]
noncomputable abbrev Qj:List Str:=["_law_found","_law_land","_law_caps","_law_laps","_law_begin","_law_moves","_law_here","_law_there","_law_due","_law_growing","_law_p"]
noncomputable abbrev Qk:List Str:=["move","take","put"]
noncomputable abbrev Ql:List Str:=["stand","move","number","step"]
noncomputable abbrev Qm:List Str:=["stand","step","times"]
noncomputable abbrev Qn:List Str:=["stand","step","times","number","by"]
noncomputable abbrev Qo:List Str:=["place","many"]
noncomputable abbrev Qp:List Str:=["moves","place","many","steps","table"]
noncomputable abbrev Qq:List Str:=["row","by","column","scale"]
noncomputable abbrev Qr:List Str:=["row","by","column","scale","number","mate"]
noncomputable abbrev Qs:List Str:=["table","line","column","scale","by","at","row"]
noncomputable abbrev Qt:List Str:=["cap","move","number","step"]
noncomputable abbrev Qu:List Str:=["cap","elder"]
noncomputable abbrev Qv:List Str:=["cap","elder","number","old"]
noncomputable abbrev Qw:List Str:=["moor","stand"]
noncomputable abbrev Qx:List Str:=["moor","stand","number","move"]
noncomputable abbrev Qy:List Str:=["_law_stand","_law_move_here"]
noncomputable abbrev Qz:List Str:=["_law_found","_law_land","_law_caps","_law_laps","_law_begin","_law_moves","_law_here","_law_there","_law_due","_law_growing"]
noncomputable abbrev QB:List Str:=["_law_weights_here","_law_counts"]
noncomputable abbrev QC:List Str:=["_law_script"]
noncomputable abbrev QD:List Str:=["moor","stand","row","times"]
noncomputable abbrev QE:List Str:=["moor","stand","blocks"]
noncomputable abbrev QF:List Str:=["moves","place","many","steps","table","move"]
noncomputable abbrev QG:List Str:=["moves","place","many","steps","table","at"]
noncomputable abbrev QH:List Str:=["moves","place","many","steps","table","step"]
noncomputable abbrev QI:List Str:=["table","held","column"]
noncomputable abbrev QJ:List Str:=["table","held","column","lines","line"]
noncomputable abbrev QK:List Str:=["table","line","column","scale"]
noncomputable abbrev QL:List Str:=["numbers","shared","#number","number"]
noncomputable abbrev QM:List Str:=["table","place","scale","many_moves"]
noncomputable abbrev QN:List Str:=["table","place","scale","many_moves","losses","gain"]
noncomputable abbrev QO:List Str:=["table","held","column","scale","many_moves"]
noncomputable abbrev QP:List Str:=["moves","place","many","table","held","scale","column","line","at"]
noncomputable abbrev QQ:List Str:=["moor","tree","at","number"]
noncomputable abbrev QR:List Str:=["moor","tree","at","number","move","cap","elder","row"]
noncomputable abbrev QS:List Str:=["moor","most","tree","row"]
noncomputable abbrev QT:List Str:=["tree","elder","number"]
noncomputable abbrev QU:List Str:=["tree","elder","number","path","at"]
noncomputable abbrev QV:List Str:=["moor","place","most","caps","numbers","cap"]
noncomputable abbrev QW:List Str:=["_law_script","_law_at","_law_many","_law_falling","_law_times"]
noncomputable abbrev QX:List Str:=["_law_script","_law_at","_law_many","_law_falling","_law_times","_law_take","_law_put","_law_p","_law_cell_here","_law_one","_law_other"]
noncomputable abbrev QY:List Str:=["_law_stand","_law_other"]
noncomputable abbrev QZ:List Str:=["_law_stand","_law_move_here","_law_p"]
noncomputable abbrev Va:List Str:=["_law_row","_law_stand","_law_moves"]
noncomputable abbrev Vb:List Str:=["_law_stands","_law_land","_law_most","_law_caps"]
noncomputable abbrev Vc:List Str:=["_law_stands","_law_land","_law_most","_law_caps","_law_begin","_law_moves","_law_stand","_law_move_here","_law_highest","_law_p","_law_found"]
noncomputable abbrev Vd:List Str:=["_law_stands","_law_land","_law_most","_law_caps","_law_begin","_law_moves","_law_stand","_law_move_here","_law_highest","_law_p","_law_found","_law_one"]
noncomputable abbrev Ve:List Str:=["_law_stands","_law_land","_law_most","_law_caps","_law_begin","_law_moves","#_law_stand","_law_move_here","_law_highest","_law_p","_law_found","_law_stand"]
noncomputable abbrev Vf:List Str:=["_law_found","_law_land","_law_caps","_law_laps"]
noncomputable abbrev Vg:List Str:=["_law_found","_law_land","_law_caps","_law_laps","_law_begin","_law_moves","_law_here","_law_there","_law_due","_law_growing","_law_cap"]
noncomputable abbrev Vh:List Str:=["_law_weights_here","_law_counts","_law_p"]
noncomputable abbrev Vi:List Str:=["_law_weights_here","_law_land","_law_caps"]
noncomputable abbrev Vj:List Str:=["_law_script","_law_many","_law_most","_law_falling","_law_times","_law_moves","_law_k","_law_begin","_law_land","_law_caps","_law_found","_law_p"]
def Vk {K}{d}:=(l7 (K:=K) (d:=d) (C:=CMulB) (g:=j9) (λ_ _=>rfl) (λ_ _ _=>.int))
def Vl {K}{d}:=(l7 (K:=K) (d:=d) (C:=w9) (g:=w8) (λ_ _=>rfl) (λ_ _ _=>.int))
def Vm {K}{d}:=(l7 (K:=K) (d:=d) (C:=L5) (g:=J4) (λ_ _=>rfl) (λ_ _ _=>.int))
def Vn n a b{c}(h:CompScope (b8 (top n)) c a b:=by trivial):=h
def bX:FnOk P w (hk w) mg base CX0 1 53 (FD "covers" 4 V8 52) ["stand","other"] (spM (hk w) 2 .F O1):=
 okF (bB Y) fJ (.inl rfl) rfl rfl λO=>(b9 (v6 qC3 rfl (vh Zo (bl Y).zip_ (a8 (qv .U 0) (a8 (qv .U 1) b7))) (t6 (hk w) 2 rfl (g8 (c9 (i:=2) fJ.nd rfl Zy) (g8 (c9 (i:=3) fJ.nd rfl Zy) t5))) (x9 (.inr rfl) (g9 (.inr rfl) f9 (g9 (.inr rfl) f9 t8)))
   (c6 (j3 (f8 bV xLt (qv .B 2) (qv .B 3)) (c6 (f7 x8)) i8)))
  (c6 (f7 x8)))
def tD:Def (hk w) mg "able" (top 5) Qa 60 (FD "able" 5 V8 59):=dk Y ZY λ_ _ _ _ _ _=>us2 λ_ _=>rfl
def vN:FnOk P w (hk w) mg base CX0 2 60 (FD "able" 5 V8 59) Qa (spM (hk w) 2 .F iu):=
 okF (tD Y) FT (.inl rfl) rfl rfl λO=>(c6 (f7 (qcD (bX Y) (bB Y) (a8 (qv .B 0) (a8 (h9 (e7 (qv .B 1) c8)) b7)))))
def bC:Def (hk w) mg "change" (top 7) ["move"] 70 (FD "change" 7 V8 69):=dk Y ZY λ_ _ _ _ _ _=>us1 λ_=>rfl
def bY:FnOk P w (hk w) mg base CX0 1 70 (FD "change" 7 V8 69) ["move"] (spM (hk w) 1 .F R8):=
 okF (bC Y) yo (.inl rfl) rfl rfl λO=>(c6 (f7 (E8 C6 (C5 (c:=true)) Zo (bl Y).tuple_ n6 (a8 (g5 (k7 (Vn 7 ["move"] Qk) rfl (Y6 Zo (bl Y).zip_ (a8 (h9 (e7 (qv .B 0) c8)) (a8 (h9 (e7 (qv .B 0) c8)) b7))) (λ_ _ _ _=>(t6 (hk w) 2 rfl (g8 (c9 (i:=1) (by decide +kernel:(Qk:Vp).Nodup) rfl (Or.inl rfl) (.inr rfl)) (g8 (c9 (i:=2) (by decide +kernel:(Qk:Vp).Nodup) rfl (Or.inl rfl) (.inr rfl)) t5)))) (x9 (.inr rfl) (g9 (.inr rfl) f9 (g9 (.inr rfl) f9 t8))) (Q3 (t9 (show 1<=1 by decide) (t9 (show 1<=2 by decide) Q4))) (λ_ _ _ _=>l9) (λ_ _ _ _=>(g7 bh iH (qv .B 2) (qv .B 1))))) b7))))
def wY:Def (hk w) mg "after" (top 6) Qa 65 (FD "after" 6 V8 64):=dk Y ZY λ_ _ _ _ _ _=>us2 λ_ _=>rfl
def Da:FnOk P w (hk w) mg base CX0 3 65 (FD "after" 6 V8 64) Qa (spM (hk w) 2 .F jx):=
 okF (wY Y) Cf (.inl rfl) rfl rfl λO=>(b9 (j3 (E6 (A8 (j4 (g5 (qcD (vN Y) (tD Y) (a8 (qv .B 0) (a8 (qv .B 1) b7))))))) (c6 ja) i8)
  (c6 (f7 (E8 C6 (C5 (c:=true)) Zo (bl Y).tuple_ n6 (a8 (g5 (k7 (Vn 6 Qa Ql) rfl (Y6 Zo (bl Y).zip_ (a8 (qv .B 0) (a8 (j4 (g5 (qcD (bY Y) (bC Y) (a8 (qv .B 1) b7)))) b7))) (λ_ _ _ _=>(t6 (hk w) 2 rfl (g8 (c9 (i:=2) (by decide +kernel:(Ql:Vp).Nodup) rfl (Or.inl rfl) (.inr rfl)) (g8 (c9 (i:=3) (by decide +kernel:(Ql:Vp).Nodup) rfl (Or.inl rfl) (.inr rfl)) t5)))) (x9 (.inr rfl) (g9 (.inr rfl) f9 (g9 (.inr rfl) f9 t8))) (Q3 (t9 (show 2<=2 by decide) (t9 (show 2<=3 by decide) Q4))) (λ_ _ _ _=>l9) (λ_ _ _ _=>(g7 v8 D6 (qv .B 2) (qv .B 3))))) b7)))))
def qV:Def (hk w) mg "source" (top 9) Qa 75 (FD "source" 9 zV 74):=dk Y ZY λ_ _ _ _ _ _=>us2 λ_ _=>rfl
def zg:FnOk P w (hk w) mg base CX0 1 75 (FD "source" 9 zV 74) Qa (spM (hk w) 2 .F ga):=
 okF (qV Y) yl (.inl rfl) rfl rfl λO=>(c6 (f7 (E8 C6 (C5 (c:=true)) Zo (bl Y).tuple_ n6 (a8 (g5 (k7 (Vn 9 Qa Qe) rfl (Y6 Zo (bl Y).zip_ (a8 (qv .B 0) (a8 (h9 (e7 (qv .B 1) c8)) (a8 (h9 (e7 (qv .B 1) c8)) b7)))) (λ_ _ _ _=>(t6 (hk w) 3 rfl (g8 (c9 (i:=2) (by decide +kernel:(Qe:Vp).Nodup) rfl (Or.inl rfl) (.inr rfl)) (g8 (c9 (i:=3) (by decide +kernel:(Qe:Vp).Nodup) rfl (Or.inl rfl) (.inr rfl)) (g8 (c9 (i:=4) (by decide +kernel:(Qe:Vp).Nodup) rfl (Or.inl rfl) (.inr rfl)) t5))))) (x9 (.inr rfl) (g9 (.inr rfl) f9 (g9 (.inr rfl) f9 (g9 (.inr rfl) f9 t8)))) (Q3 (t9 (show 2<=2 by decide) (t9 (show 2<=3 by decide) (t9 (show 2<=4 by decide) Q4)))) (λ_ _ _ _=>l9) (λ_ _ _ _=>(m8 (xm rfl) (b_2 (g:=Af)) Zo (bl Y).max_ oF (a8 (qv .B 3) (a8 (g7 v8 D6 (g7 bh iH (qv .B 2) (qv .B 4)) (qv .B 3)) b7)))))) b7))))
def gf:Def (hk w) mg "noughts" (top 16) ["moor"] 115 (FD "noughts" 16 J2 114):=dk Y ZY λ_ _ _ _ _ _=>us1 λ_=>rfl
def jZ:FnOk P w (hk w) mg base CX0 1 115 (FD "noughts" 16 J2 114) ["moor"] (spM (hk w) 1 .F ay):=
 okF (gf Y) uQ (.inl rfl) rfl rfl λO=>(c6 (f7 (g7 jg jj (g5 (t4 (n9 b7))) (m8 n4 m9 Zo (bl Y).len_ qC2 (a8 (h9 (e7 (qv .B 0) c8)) b7)))))
def qY:Def (hk w) mg "hurdle" (top 11) Qf 82 (FD "hurdle" 11 J2 81):=dk Y ZY λ_ _ _ _ _ _=>us2 λ_ _=>rfl
def zk:FnOk P w (hk w) mg base CX0 2 82 (FD "hurdle" 11 J2 81) Qf (spM (hk w) 2 .F Z5):=
 okF (qY Y) bP (.inl rfl) rfl rfl λO=>(b9 (i5 (i:=2) bP.nd rfl Zy (qcD (jZ Y) (gf Y) (a8 (qv .B 0) b7)))
  (b9 (v6 qC3 rfl (KW Zo (bl Y).reversed_ (a8 (qv .U 1) b7)) (c9 (i:=3) bP.nd rfl Zy) f9
   (c6 (i5 (i:=2) bP.nd rfl Zy (qcD (zg Y) (qV Y) (a8 (qv .B 2) (a8 (h9 (e7 (h9 (e7 (qv .B 0) c8)) (qv .B 3))) b7))))))
  (c6 (K3 2 (.inl rfl)))))
def R9:Def (hk w) mg "shifted" (top 15) Qm 108 (FD "shifted" 15 J2 107):=dk Y ZY λ_ _ _ _ _ _=>us3 λ_ _ _=>rfl
def U8:FnOk P w (hk w) mg base CX0 1 108 (FD "shifted" 15 J2 107) Qm (spM (hk w) 3 .F B3):=
 okF (R9 Y) uO (.inl rfl) rfl rfl λO=>(c6 (f7 (E8 C6 (C5 (c:=true)) Zo (bl Y).tuple_ n6 (a8 (g5 (k7 (Vn 15 Qm Qn) rfl (Y6 Zo (bl Y).zip_ (a8 (qv .B 0) (a8 (qv .B 1) b7))) (λ_ _ _ _=>(t6 (hk w) 2 rfl (g8 (c9 (i:=3) (by decide +kernel:(Qn:Vp).Nodup) rfl (Or.inl rfl) (.inr rfl)) (g8 (c9 (i:=4) (by decide +kernel:(Qn:Vp).Nodup) rfl (Or.inl rfl) (.inr rfl)) t5)))) (x9 (.inr rfl) (g9 (.inr rfl) f9 (g9 (.inr rfl) f9 t8))) (Q3 (t9 (show 3<=3 by decide) (t9 (show 3<=4 by decide) Q4))) (λ_ _ _ _=>l9) (λ_ _ _ _=>(g7 v8 D6 (qv .B 3) (g7 t7 Vk (qv .B 2) (qv .B 4)))))) b7))))
def jA:Def (hk w) mg "sum_of" (top 12) Qf 89 (FD "sum_of" 12 J2 88):=dk Y ZY λ_ _ _ _ _ _=>us2 λ_ _=>rfl
def mS:FnOk P w (hk w) mg base CX0 2 89 (FD "sum_of" 12 J2 88) Qf (spM (hk w) 2 .F R7):=
 okF (jA Y) bO (.inl rfl) rfl rfl λO=>(b9 (i5 (i:=2) bO.nd rfl Zy (qcD (jZ Y) (gf Y) (a8 (qv .B 0) b7)))
  (b9 (v6 qC3 rfl (E7 (qv .U 1)) (c9 (i:=3) bO.nd rfl Zy) f9
   (c6 (i5 (i:=2) bO.nd rfl Zy (qcD (U8 Y) (R9 Y) (a8 (qv .B 2) (a8 (j4 (g5 (qcD (bY Y) (bC Y) (a8 (h9 (e7 (h9 (e7 (qv .B 0) c8)) (qv .B 3))) b7)))) (n9 b7)))))))
  (c6 (K3 2 (.inl rfl)))))
def Bz:Def (hk w) mg "goes" (top 14) QD 103 (FD "goes" 14 J2 102):=dk Y ZY λ_ _ _ _ _ _=>us4 λ_ _ _ _=>rfl
def HG:FnOk P w (hk w) mg base CX0 3 103 (FD "goes" 14 J2 102) QD (spM (hk w) 4 .F nU):=
 okF (Bz Y) lZ (.inl rfl) rfl rfl λO=>(b9 (j3 (f8 F7 B8 (qv .B 3) c8) (c6 (f7 x8)) i8)
  (b9 (i5 (i:=4) lZ.nd rfl Zy (qcD (zk Y) (qY Y) (a8 (qv .B 0) (a8 (qv .B 2) b7))))
  (b9 (i5 (i:=5) lZ.nd rfl Zy (qcD (U8 Y) (R9 Y) (a8 (qv .B 1) (a8 (j4 (g5 (qcD (mS Y) (jA Y) (a8 (qv .B 0) (a8 (qv .B 2) b7))))) (a8 (g7 bh iH (qv .B 3) c8) b7)))))
  (c6 (f7 (Lb (j4 (g5 (qcD (bX Y) (bB Y) (a8 (qv .B 1) (a8 (qv .B 4) b7))))) (KZ (qcD (bX Y) (bB Y) (a8 (qv .B 5) (a8 (qv .B 4) b7))))))))))
def qT:Def (hk w) mg "stride" (top 13) QE 96 (FD "stride" 13 J2 95):=dk Y ZY λ_ _ _ _ _ _=>us3 λ_ _ _=>rfl
def zf:FnOk P w (hk w) mg base CX0 4 96 (FD "stride" 13 J2 95) QE (spM (hk w) 3 .F cz):=
 okF (qT Y) N6 (.inl rfl) rfl rfl λO=>(b9 (u8 (i:=3) N6.nd rfl Zy (qv .V 1))
  (b9 (v6 qC3 rfl (gL Zo (bl Y).enumerate_ (a8 (qv .U 2) b7)) (t6 (hk w) 2 rfl (g8 (c9 (i:=4) N6.nd rfl Zy) (g8 (c9 (i:=5) N6.nd rfl Zy) t5))) (x9 (.inr rfl) (g9 (.inr rfl) f9 (g9 (.inr rfl) f9 t8)))
   (b9 (dl (i:=6) N6.nd rfl Zy (e7 (qv .B 5) c8))
   (b9 (dl (i:=7) N6.nd rfl Zy (e7 (qv .B 5) c8))
   (b9 (j3 (E6 (A8 (j4 (g5 (qcD (HG Y) (Bz Y) (a8 (qv .B 0) (a8 (qv .B 3) (a8 (qv .B 6) (a8 (qv .B 7) b7))))))))) (c6 ja) i8)
   (c6 (i5 (i:=3) N6.nd rfl Zy (qcD (U8 Y) (R9 Y) (a8 (qv .B 3) (a8 (j4 (g5 (qcD (mS Y) (jA Y) (a8 (qv .B 0) (a8 (qv .B 6) b7))))) (a8 (qv .B 7) b7))))))))))
  (c6 (K3 3 (.inl rfl)))))
def tu:Def (hk w) mg "unit" (top 18) Qo 120 (FD "unit" 18 zW 119):=dk Y ZY λ_ _ _ _ _ _=>us2 λ_ _=>rfl
def vH:FnOk P w (hk w) mg base CX0 1 120 (FD "unit" 18 zW 119) Qo (spM (hk w) 2 .F ip):=
 okF (tu Y) FS (.inl rfl) rfl rfl λO=>(c6 (f7 (E8 C6 (C5 (c:=true)) Zo (bl Y).tuple_ n6 (a8 (g5 (k7 (Vn 18 Qo ["place","many","at"]) rfl (z8 Zo (bl Y).range_ (a8 (qv .B 1) b7)) (λ_ _ _ _=>(c9 (i:=2) (by decide +kernel:(["place","many","at"]:Vp).Nodup) rfl (Or.inl rfl) (.inr rfl))) f9 (k9 (show 2<=2 by decide)) (λ_ _ _ _=>l9) (λ_ _ _ _=>(jd (f8 (Y8 (F1 O)) (K7 (neg:=false)) (qv .B 2) (qv .B 0)) c8 c8)))) b7))))
def dQ:Def (hk w) mg "first_table" (top 21) Qg 130 (FD "first_table" 21 v4 129):=dk Y ZY λ_ _ _ _ _ _=>us3 λ_ _ _=>rfl
def kY:FnOk P w (hk w) mg base CX0 2 130 (FD "first_table" 21 v4 129) Qg (spM (hk w) 3 .F N4):=
 okF (dQ Y) V5 (.inl rfl) rfl rfl λO=>(b9 (i5 (i:=3) V5.nd rfl Zy (k7 (Vn 21 Qp QF) rfl (B6 (qv .B 0)) (λ_ _ _ _=>(c9 (i:=5) (by decide +kernel:(QF:Vp).Nodup) rfl (Or.inl rfl) (.inr rfl))) f9 (k9 (show 5<=5 by decide)) (λ_ _ _ _=>l9) (λ_ _ _ _=>(w4 (qcD (bY Y) (bC Y) (a8 (qv .B 5) b7))))))
  (b9 (yS (i:=4) (show CompScopeC (b8 (top 21)) _ Qp QG "at" from ⟨rfl,⟨λ_ _=>rfl,λ_=>rfl⟩,ZV,Zo,ZV,ZV,ZV,ZQ,ZV,ZV⟩) rfl (z8 Zo (bl Y).range_ (a8 (qv .B 2) b7)) (λ_ _ _ _=>(c9 (i:=5) (by decide +kernel:(QG:Vp).Nodup) rfl (Or.inr rfl) (.inl (by first|rfl|show qP9 _)))) f9 (k9 (show 5<=5 by decide)) (λ_ _ _ _=>l9) (λ_ _ _ _=>(w4 (g7 qk qp (j4 (g5 (E8 C6 (C5 (c:=true)) Zo (bl Y).tuple_ n6 (a8 (g5 (k7 (by show kM ⟨rfl,ZV,ZV,ZV,ZV,ZQ,ZV,ZV⟩) rfl (B6 (qv .B 3)) (λ_ _ _ _=>(c9 (i:=6) (by decide +kernel:(["moves","place","many","steps","table","at","step"]:Vp).Nodup) rfl (Or.inl rfl) (.inr rfl))) f9 (k9 (show 6<=6 by decide)) (λ_ _ _ _=>l9) (λ_ _ _ _=>(mG cX (mY (g:=Z3) (λ_=>rfl) (λ_ _=>.int)) (h9 (e7 (qv .B 6) (qv .B 5))))))) b7)))) (j4 (g5 (qcD (vH Y) (tu Y) (a8 (qv .B 5) (a8 (qv .B 2) b7)))))))) V5.nd rfl Zy)
  (b9 (aq (i:=4) rfl Zy (w4 (g7 qk qp (j4 (g5 (E8 C6 (C5 (c:=true)) Zo (bl Y).tuple_ n6 (a8 (g5 (k7 (Vn 21 Qp QH) rfl (B6 (qv .B 3)) (λ_ _ _ _=>(c9 (i:=5) (by decide +kernel:(QH:Vp).Nodup) rfl (Or.inl rfl) (.inr rfl))) f9 (k9 (show 5<=5 by decide)) (λ_ _ _ _=>l9) (λ_ _ _ _=>(P6 (e7 (qv .B 5) (qv .B 1)))))) b7)))) (j4 (g5 (g7 jg jj (g5 (t4 (n9 b7))) (qv .C 2)))))))
  (c6 (K3 4 (.inl rfl))))))
def jD:Def (hk w) mg "coming" (top 22) ["table"] 137 (FD "coming" 22 v4 136):=dk Y ZY λ_ _ _ _ _ _=>us1 λ_=>rfl
def mV:FnOk P w (hk w) mg base CX0 1 137 (FD "coming" 22 v4 136) ["table"] (spM (hk w) 1 .F Z8):=
 okF (jD Y) fK (.inl rfl) rfl rfl λO=>(b9 (v6 qC3 rfl (gL Zo (bl Y).enumerate_ (a8 (e7 (qv .B 0) (mG cX (mY (g:=Z3) (λ_=>rfl) (λ_ _=>.int)) c8)) b7)) (t6 (hk w) 2 rfl (g8 (c9 (i:=1) fK.nd rfl Zy) (g8 (c9 (i:=2) fK.nd rfl Zy) t5))) (x9 (.inr rfl) (g9 (.inr rfl) f9 (g9 (.inr rfl) f9 t8)))
   (c6 (j3 (f8 W4 xGt (qv .B 2) c8) (c6 (K3 1 (.inl rfl))) i8)))
  (c6 (f7 o9)))
def oa:Def (hk w) mg "leaving" (top 23) QI 142 (FD "leaving" 23 v4 141):=dk Y ZY λ_ _ _ _ _ _=>us3 λ_ _ _=>rfl
def vJ:FnOk P w (hk w) mg base CX0 3 142 (FD "leaving" 23 v4 141) QI (spM (hk w) 3 .F dL):=
 okL (oa Y) jR (.inl rfl) rfl rfl λO=>(b9 (X3 (i:=3) (Vn 23 ["table","held","column","lines"] QJ) rfl (z8 Zo (bl Y).range_ (a8 (m8 n4 m9 Zo (bl Y).len_ qC2 (a8 (qv .B 1) b7)) b7)) (λ_ _ _ _=>(c9 (i:=4) (by decide +kernel:(QJ:Vp).Nodup) rfl (Or.inl rfl) (.inr rfl))) f9 (k9 (show 4<=4 by decide)) (λ_ _ _ _=>(bg (f8 W4 xGt (h9 (e7 (h9 (e7 (qv .B 0) (qv .B 4))) (qv .B 2))) c8))) (λ_ _ _ _=>(qv .V 4)) jR.nd rfl Zy)
  (c6 (f7 (GQ (j:=1) (c:=141) LB ZY Zo Zo Zo Zo Zo Zo rfl (by show O) Zo (bl Y).min_ (a8 (qv .B 3) b7)))))
def on:Def (hk w) mg "cleared" (top 25) Qq 152 (FD "cleared" 25 v4 151):=dk Y ZY λ_ _ _ _ _ _=>us4 λ_ _ _ _=>rfl
def vK:FnOk P w (hk w) mg base CX0 1 152 (FD "cleared" 25 v4 151) Qq (spM (hk w) 4 .F dM):=
 okF (on Y) uR (.inl rfl) rfl rfl λO=>(c6 (f7 (E8 C6 (C5 (c:=true)) Zo (bl Y).tuple_ n6 (a8 (g5 (k7 (Vn 25 Qq Qr) rfl (Y6 Zo (bl Y).zip_ (a8 (qv .B 0) (a8 (qv .B 1) b7))) (λ_ _ _ _=>(t6 (hk w) 2 rfl (g8 (c9 (i:=4) (by decide +kernel:(Qr:Vp).Nodup) rfl (Or.inl rfl) (.inr rfl)) (g8 (c9 (i:=5) (by decide +kernel:(Qr:Vp).Nodup) rfl (Or.inl rfl) (.inr rfl)) t5)))) (x9 (.inr rfl) (g9 (.inr rfl) f9 (g9 (.inr rfl) f9 t8))) (Q3 (t9 (show 4<=4 by decide) (t9 (show 4<=5 by decide) Q4))) (λ_ _ _ _=>l9) (λ_ _ _ _=>(g7 mQ (l7 (C:=aH) (g:=J4) (λ_ _=>rfl) (λ_ _ _=>.int)) (g7 bh iH (g7 t7 Vk (qv .B 4) (h9 (e7 (qv .B 1) (qv .B 2)))) (g7 t7 Vk (h9 (e7 (qv .B 0) (qv .B 2))) (qv .B 5))) (qv .B 3))))) b7))))
def nY:Def (hk w) mg "pivoted" (top 24) QK 147 (FD "pivoted" 24 v4 146):=dk Y ZY λ_ _ _ _ _ _=>us4 λ_ _ _ _=>rfl
def vI:FnOk P w (hk w) mg base CX0 2 147 (FD "pivoted" 24 v4 146) QK (spM (hk w) 4 .F ax):=
 okF (nY Y) jQ (.inl rfl) rfl rfl λO=>(b9 (dl (i:=4) jQ.nd rfl Zy (e7 (qv .B 0) (qv .B 1)))
  (c6 (f7 (k7 (Vn 24 ["table","line","column","scale","by"] Qs) rfl (vm Zo (bl Y).enumerate_ (a8 (qv .B 0) b7)) (λ_ _ _ _=>(t6 (hk w) 2 rfl (g8 (c9 (i:=5) (by decide +kernel:(Qs:Vp).Nodup) rfl (Or.inl rfl) (.inr rfl)) (g8 (c9 (i:=6) (by decide +kernel:(Qs:Vp).Nodup) rfl (Or.inl rfl) (.inr rfl)) t5)))) (x9 (.inr rfl) (g9 (.inr rfl) f9 (g9 (.inr rfl) f9 t8))) (Q3 (t9 (show 5<=5 by decide) (t9 (show 5<=6 by decide) Q4))) (λ_ _ _ _=>l9) (λ_ _ _ _=>(jd (f8 (Y8 (F1 O)) (K7 (neg:=false)) (qv .B 5) (qv .B 1)) (qv .V 6) (w4 (qcD (vK Y) (on Y) (a8 (qv .B 6) (a8 (qv .B 4) (a8 (qv .B 2) (a8 (qv .B 3) b7))))))))))))
def W0:Def (hk w) mg "greatest_divisor" (top 29) ["one","other"] 176 (FD "greatest_divisor" 29 v4 175):=dk Y ZY λ_ _ _ _ _ _=>us2 λ_ _=>rfl
def dv:FnOk P w (hk w) mg base CX0 1 176 (FD "greatest_divisor" 29 v4 175) ["one","other"] (spM (hk w) 2 .F D4):=
 okF (W0 Y) C9 (.inl rfl) rfl rfl λO=>(b9 (bf qC3 (f8 sx mX (qv .B 1) c8) (b9 (u8 (i:=2) C9.nd rfl Zy (g7 B7 Vl (qv .B 0) (qv .B 1)))
   (b9 (u8 (i:=0) C9.nd rfl Zy (qv .V 1))
   (c6 (u8 (i:=1) C9.nd rfl Zy (qv .V 2))))))
  (c6 (K3 0 (.inl rfl))))
def E2:Def (hk w) mg "in_least_numbers" (top 28) ["numbers"] 169 (FD "in_least_numbers" 28 v4 168):=dk Y ZY λ_ _ _ _ _ _=>us1 λ_=>rfl
def K5:FnOk P w (hk w) mg base CX0 2 169 (FD "in_least_numbers" 28 v4 168) ["numbers"] (spM (hk w) 1 .F A0):=
 okF (E2 Y) C8 (.inl rfl) rfl rfl λO=>(b9 (u8 (i:=1) C8.nd rfl Zy c8)
  (b9 (v6 qC3 rfl (E7 (qv .U 0)) (c9 (i:=2) C8.nd rfl Zy) f9
   (c6 (i5 (i:=1) C8.nd rfl Zy (qcD (dv Y) (W0 Y) (a8 (qv .B 1) (a8 (qv .B 2) b7))))))
  (c6 (f7 (E8 C6 (C5 (c:=true)) Zo (bl Y).tuple_ n6 (a8 (g5 (k7 (Vn 28 ["numbers","shared","number"] QL) rfl (B6 (qv .B 0)) (λ_ _ _ _=>(c9 (i:=3) (by decide +kernel:(QL:Vp).Nodup) rfl (Or.inl rfl) (.inr rfl))) f9 (k9 (show 3<=3 by decide)) (λ_ _ _ _=>l9) (λ_ _ _ _=>(g7 mQ (l7 (C:=aH) (g:=J4) (λ_ _=>rfl) (λ_ _ _=>.int)) (qv .B 3) (qv .B 1))))) b7))))))
def ft:Def (hk w) mg "weights_of" (top 27) QM 164 (FD "weights_of" 27 v4 163):=dk Y ZY λ_ _ _ _ _ _=>us4 λ_ _ _ _=>rfl
def mR:FnOk P w (hk w) mg base CX0 3 164 (FD "weights_of" 27 v4 163) QM (spM (hk w) 4 .F Z4):=
 okF (ft Y) df (.inl rfl) rfl rfl λO=>(b9 (X3 (i:=4) (Vn 27 ["table","place","scale","many_moves","losses"] QN) rfl (B6 (j4 (g5 (KU (h9 (e7 (qv .B 0) (mG cX (mY (g:=Z3) (λ_=>rfl) (λ_ _=>.int)) c8))) (sj (qv .B 3)) sk)))) (λ_ _ _ _=>(c9 (i:=5) (by decide +kernel:(QN:Vp).Nodup) rfl (Or.inl rfl) (.inr rfl))) f9 (k9 (show 5<=5 by decide)) (λ_ _ _ _=>l9) (λ_ _ _ _=>(mG cX (mY (g:=Z3) (λ_=>rfl) (λ_ _=>.int)) (qv .B 5))) df.nd rfl Zy)
  (c6 (f7 (qcD (K5 Y) (E2 Y) (a8 (j4 (g5 (qcD (U8 Y) (R9 Y) (a8 (qv .B 4) (a8 (j4 (g5 (qcD (vH Y) (tu Y) (a8 (qv .B 1) (a8 (m8 n4 m9 Zo (bl Y).len_ qC2 (a8 (qv .B 4) b7)) b7))))) (a8 (qv .B 2) b7)))))) b7)))))
def rp:Def (hk w) mg "bag_of" (top 26) QO 159 (FD "bag_of" 26 v4 158):=dk Y ZY λ_ _ _ _ _ _=>us5 λ_ _ _ _ _=>rfl
def zn:FnOk P w (hk w) mg base CX0 3 159 (FD "bag_of" 26 v4 158) QO (spM (hk w) 5 .F gd):=
 okF (rp Y) bQ (.inl rfl) rfl rfl λO=>(b9 (i5 (i:=5) bQ.nd rfl Zy (g7 vD (vS (c:=true)) (g5 (L7 (n9 b7))) (m8 n4 m9 Zo (bl Y).len_ qC2 (a8 (h9 (e7 (qv .B 0) c8)) b7))))
  (b9 (si (i:=5) rfl Zy (qv .B 2) (qv .V 3) (hg:=mL (pv 5) (qv .B 2) set_list))
  (b9 (v6 qC3 rfl (gL Zo (bl Y).enumerate_ (a8 (qv .U 1) b7)) (t6 (hk w) 2 rfl (g8 (c9 (i:=6) bQ.nd rfl Zy) (g8 (c9 (i:=7) bQ.nd rfl Zy) t5))) (x9 (.inr rfl) (g9 (.inr rfl) f9 (g9 (.inr rfl) f9 t8)))
   (c6 (si (i:=5) rfl Zy (qv .B 7) (mG cX (mY (g:=Z3) (λ_=>rfl) (λ_ _=>.int)) (h9 (e7 (h9 (e7 (qv .B 0) (qv .B 6))) (qv .B 2)))) (hg:=mL (pv 5) (qv .B 7) set_list))))
  (c6 (f7 (qcD (K5 Y) (E2 Y) (a8 (j4 (g5 (yR true (qv .C 5) sk (sj (qv .B 4))))) b7)))))))
def oq:Def (hk w) mg "ceiling" (top 20) Qg 125 (FD "ceiling" 20 v4 124):=dk Y ZY λ_ _ _ _ _ _=>us3 λ_ _ _=>rfl
def vL:FnOk P w (hk w) mg base CX0 4 125 (FD "ceiling" 20 v4 124) Qg (spM (hk w) 3 .F dN):=
 okF (oq Y) D0 (.inl rfl) rfl rfl λO=>(b9 (i5 (i:=3) D0.nd rfl Zy (qcD (kY Y) (dQ Y) (a8 (qv .B 0) (a8 (qv .B 1) (a8 (qv .B 2) b7)))))
  (b9 (X3 (i:=4) (Vn 20 ["moves","place","many","table","held","scale","column","line"] QP) rfl (z8 Zo (bl Y).range_ (a8 (qv .B 2) b7)) (λ_ _ _ _=>(c9 (i:=8) (by decide +kernel:(QP:Vp).Nodup) rfl (Or.inl rfl) (.inr rfl))) f9 (k9 (show 8<=8 by decide)) (λ_ _ _ _=>l9) (λ_ _ _ _=>(g7 v8 D6 (m8 n4 m9 Zo (bl Y).len_ qC2 (a8 (qv .B 0) b7)) (qv .B 8))) D0.nd rfl Zy)
  (b9 (u8 (i:=5) D0.nd rfl Zy c8)
  (b9 (i5 (i:=6) D0.nd rfl Zy (qcD (mV Y) (jD Y) (a8 (qv .B 3) b7)))
  (b9 (bf qC3 (f8 bi bj (qv .B 6) o9) (b9 (i5 (i:=7) D0.nd rfl Zy (qcD (vJ Y) (oa Y) (a8 (qv .B 3) (a8 (qv .B 4) (a8 (qv .B 6) b7)))))
   (b9 (j3 (f8 K4 K6 (qv .B 7) o9) (c6 (f7 (t4 (a8 C4 (a8 (w4 (qcD (zn Y) (rp Y) (a8 (qv .B 3) (a8 (qv .B 4) (a8 (qv .B 6) (a8 (qv .B 5) (a8 (m8 n4 m9 Zo (bl Y).len_ qC2 (a8 (qv .B 0) b7)) b7))))))) b7))))) i8)
   (b9 (i5 (i:=3) D0.nd rfl Zy (qcD (vI Y) (nY Y) (a8 (qv .B 3) (a8 (qv .B 7) (a8 (qv .B 6) (a8 (qv .B 5) b7))))))
   (b9 (gK (si (i:=4) rfl Zy (qv .B 7) (qv .V 6) (hg:=mL (pv 4) (qv .B 7) set_list)))
   (b9 (u8 (i:=5) D0.nd rfl Zy (ao (Hd (ao (qv .C 3) (qv .C 7))) (qv .C 6)))
   (c6 (i5 (i:=6) D0.nd rfl Zy (qcD (mV Y) (jD Y) (a8 (qv .B 3) b7))))))))))
  (c6 (f7 (t4 (a8 C4 (a8 (w4 (qcD (mR Y) (ft Y) (a8 (qv .B 3) (a8 (qv .B 1) (a8 (qv .B 5) (a8 (m8 n4 m9 Zo (bl Y).len_ qC2 (a8 (qv .B 0) b7)) b7)))))) b7))))))))))
def nZ:Def (hk w) mg "level" (top 30) ["moves","many"] 183 (FD "level" 30 v4 182):=dk Y ZY λ_ _ _ _ _ _=>us2 λ_ _=>rfl
def ql:FnOk P w (hk w) mg base CX0 5 183 (FD "level" 30 v4 182) ["moves","many"] (spM (hk w) 2 .F X7):=
 okF (nZ Y) ba (.inl rfl) rfl rfl λO=>(b9 (i5 (i:=2) ba.nd rfl Zy (g7 jg jj (g5 (t4 (n9 b7))) (qv .C 1)))
  (b9 (v6 qC3 rfl (z8 Zo (bl Y).range_ (a8 (qv .B 1) b7)) (c9 (i:=3) ba.nd rfl Zy) f9
   (b9 (i5 (i:=4) ba.nd rfl Zy (qcD (vL Y) (oq Y) (a8 (qv .B 0) (a8 (qv .B 3) (a8 (qv .B 1) b7)))))
   (b9 (j3 (f8 F7 B8 (h9 (e7 (qv .B 4) c8)) C4) (c6 (f7 (t4 (a8 C4 (a8 (qv .V 3) (a8 (ao (qv .C 4) c8) b7)))))) i8)
   (c6 (i5 (i:=2) ba.nd rfl Zy (qcD (U8 Y) (R9 Y) (a8 (qv .B 2) (a8 (h9 (e7 (qv .B 4) c8)) (n9 b7)))))))))
  (c6 (f7 (t4 (a8 C4 (a8 (w4 (qcD (K5 Y) (E2 Y) (a8 (qv .B 2) b7))) b7)))))))
def dunder:Def (hk w) mg "under" (top 32) ["cap","other"] 190 (FD "under" 32 u9 189):=dk Y ZY λ_ _ _ _ _ _=>us2 λ_ _=>rfl
def jh:FnOk P w (hk w) mg base CX0 1 190 (FD "under" 32 u9 189) ["cap","other"] (spM (hk w) 2 .F X6):=
 okF (dunder Y) iR (.inl rfl) rfl rfl λO=>(b9 (v6 qC3 rfl (vh Zo (bl Y).zip_ (a8 (qv .U 0) (a8 (qv .U 1) b7))) (t6 (hk w) 2 rfl (g8 (c9 (i:=2) iR.nd rfl Zy) (g8 (c9 (i:=3) iR.nd rfl Zy) t5))) (x9 (.inr rfl) (g9 (.inr rfl) f9 (g9 (.inr rfl) f9 t8)))
   (c6 (j3 (PW.pt (mH (f8 bi bj (qv .B 3) o9) (iZ (PW.pt (P5 (f8 K4 K6 (qv .B 2) o9) (Y7 (f8 W4 xGt (qv .B 2) (qv .B 3)))))))) (c6 (f7 x8)) i8)))
  (c6 (f7 x8)))
def cE:Def (hk w) mg "under_any" (top 33) ["cap","caps"] 197 (FD "under_any" 33 u9 196):=dk Y ZY λ_ _ _ _ _ _=>us2 λ_ _=>rfl
def ff:FnOk P w (hk w) mg base CX0 2 197 (FD "under_any" 33 u9 196) ["cap","caps"] (spM (hk w) 2 .F M7):=
 okF (cE Y) eZ (.inl rfl) rfl rfl λO=>(b9 (v6 qC3 rfl (E7 (qv .U 1)) (c9 (i:=2) eZ.nd rfl Zy) f9
   (c6 (j3 (A8 (j4 (g5 (qcD (jh Y) (dunder Y) (a8 (qv .B 0) (a8 (qv .B 2) b7)))))) (c6 (f7 x8)) i8)))
  (c6 (f7 x8)))
def dS:Def (hk w) mg "cap_able" (top 34) Qc 204 (FD "cap_able" 34 u9 203):=dk Y ZY λ_ _ _ _ _ _=>us2 λ_ _=>rfl
def gZ:FnOk P w (hk w) mg base CX0 2 204 (FD "cap_able" 34 u9 203) Qc (spM (hk w) 2 .F W7):=
 okF (dS Y) rZ (.inl rfl) rfl rfl λO=>(c6 (f7 (qcD (jh Y) (dunder Y) (a8 (h9 (e7 (qv .B 1) c8)) (a8 (qv .B 0) b7)))))
def ix:Def (hk w) mg "cap_after" (top 35) Qc 209 (FD "cap_after" 35 u9 208):=dk Y ZY λ_ _ _ _ _ _=>us2 λ_ _=>rfl
def pc:FnOk P w (hk w) mg base CX0 3 209 (FD "cap_after" 35 u9 208) Qc (spM (hk w) 2 .F aR):=
 okF (ix Y) oY (.inl rfl) rfl rfl λO=>(b9 (j3 (E6 (A8 (j4 (g5 (qcD (gZ Y) (dS Y) (a8 (qv .B 0) (a8 (qv .B 1) b7))))))) (c6 ja) i8)
  (c6 (f7 (E8 C6 (C5 (c:=true)) Zo (bl Y).tuple_ n6 (a8 (g5 (k7 (Vn 35 Qc Qt) rfl (Y6 Zo (bl Y).zip_ (a8 (qv .B 0) (a8 (j4 (g5 (qcD (bY Y) (bC Y) (a8 (qv .B 1) b7)))) b7))) (λ_ _ _ _=>(t6 (hk w) 2 rfl (g8 (c9 (i:=2) (by decide +kernel:(Qt:Vp).Nodup) rfl (Or.inl rfl) (.inr rfl)) (g8 (c9 (i:=3) (by decide +kernel:(Qt:Vp).Nodup) rfl (Or.inl rfl) (.inr rfl)) t5)))) (x9 (.inr rfl) (g9 (.inr rfl) f9 (g9 (.inr rfl) f9 t8))) (Q3 (t9 (show 2<=2 by decide) (t9 (show 2<=3 by decide) Q4))) (λ_ _ _ _=>l9) (λ_ _ _ _=>(jd (f8 K4 K6 (qv .B 2) o9) o9 (g7 v8 D6 (qv .B 2) (qv .B 3)))))) b7)))))
def qX:Def (hk w) mg "raised" (top 36) Qu 214 (FD "raised" 36 u9 213):=dk Y ZY λ_ _ _ _ _ _=>us2 λ_ _=>rfl
def zj:FnOk P w (hk w) mg base CX0 2 214 (FD "raised" 36 u9 213) Qu (spM (hk w) 2 .F cB):=
 okF (qX Y) yn (.inl rfl) rfl rfl λO=>(b9 (j3 (E6 (A8 (j4 (g5 (qcD (jh Y) (dunder Y) (a8 (qv .B 1) (a8 (qv .B 0) b7))))))) (c6 (K3 0 (.inl rfl))) i8)
  (c6 (f7 (E8 C6 (C5 (c:=true)) Zo (bl Y).tuple_ n6 (a8 (g5 (k7 (Vn 36 Qu Qv) rfl (Y6 Zo (bl Y).zip_ (a8 (qv .B 0) (a8 (qv .B 1) b7))) (λ_ _ _ _=>(t6 (hk w) 2 rfl (g8 (c9 (i:=2) (by decide +kernel:(Qv:Vp).Nodup) rfl (Or.inl rfl) (.inr rfl)) (g8 (c9 (i:=3) (by decide +kernel:(Qv:Vp).Nodup) rfl (Or.inl rfl) (.inr rfl)) t5)))) (x9 (.inr rfl) (g9 (.inr rfl) f9 (g9 (.inr rfl) f9 t8))) (Q3 (t9 (show 2<=2 by decide) (t9 (show 2<=3 by decide) Q4))) (λ_ _ _ _=>l9) (λ_ _ _ _=>(jd (f8 (Y8 (F1 O)) (K7 (neg:=false)) (qv .B 2) (qv .B 3)) (qv .V 2) o9)))) b7)))))
def dP:Def (hk w) mg "sort_key" (top 38) ["cap"] 226 (FD "sort_key" 38 u9 225):=dk Y ZY λ_ _ _ _ _ _=>us1 λ_=>rfl
def sy:FnOk P w (hk w) mg base CX0 1 226 (FD "sort_key" 38 u9 225) ["cap"] (spM (hk w) 1 .F Q7):=
 okF (dP Y) rY (.inl rfl) rfl rfl λO=>(c6 (f7 (E8 C6 (C5 (c:=true)) Zo (bl Y).tuple_ n6 (a8 (g5 (k7 (Vn 38 ["cap"] ["cap","number"]) rfl (B6 (qv .B 0)) (λ_ _ _ _=>(c9 (i:=1) (by decide +kernel:(["cap","number"]:Vp).Nodup) rfl (Or.inl rfl) (.inr rfl))) f9 (k9 (show 1<=1 by decide)) (λ_ _ _ _=>l9) (λ_ _ _ _=>(jd (f8 K4 K6 (qv .B 1) o9) (w4 (t4 (n9 (n9 b7)))) (w4 (t4 (n9 (a8 (qv .V 1) b7)))))))) b7))))
def Bu:Def (hk w) mg "tops" (top 37) ["caps"] 221 (FD "tops" 37 u9 220):=dk Y ZY λ_ _ _ _ _ _=>us1 λ_=>rfl
def HD:FnOk P w (hk w) mg base CX0 4 221 (FD "tops" 37 u9 220) ["caps"] (spM (hk w) 1 .F nT):=
 okF (Bu Y) lX (.inl rfl) rfl rfl λO=>(b9 (i5 (i:=1) lX.nd rfl Zy (L7 b7))
  (b9 (v6 qC3 rfl (E7 (mI (w4 (CA (c:=false) (sy Y) Zy Zo (dP Y).m (dP Y).b Zo (bl Y).sorted_ kQ (a8 (qv .B 0) b7))))) (c9 (i:=2) lX.nd rfl Zy) f9
   (c6 (j3 (E6 (A8 (j4 (g5 (qcD (ff Y) (cE Y) (a8 (qv .B 2) (a8 (qv .B 1) b7))))))) (c6 (aq (i:=1) rfl Zy (qv .V 2))) i8)))
  (b9 (KY (i:=1) rfl Zy)
  (c6 (K3 1 (.inl rfl))))))
def aA:Def (hk w) mg "way_back" (top 41) Qh 245 (FD "way_back" 41 u9 244):=dk Y ZY λ_ _ _ _ _ _=>us2 λ_ _=>rfl
def bW:FnOk P w (hk w) mg base CX0 1 245 (FD "way_back" 41 u9 244) Qh (spM (hk w) 2 .F D3):=
 okF (aA Y) W1 (.inl rfl) rfl rfl λO=>(b9 (i5 (i:=2) W1.nd rfl Zy (L7 b7))
  (b9 (u8 (i:=3) W1.nd rfl Zy (qv .V 1))
  (b9 (bf qC3 (f8 bi bj (qv .B 3) o9) (b9 (aq (i:=2) rfl Zy (qv .V 3))
   (c6 (dl (i:=3) W1.nd rfl Zy (e7 (h9 (e7 (qv .B 0) (qv .B 3))) c8)))))
  (c6 (K3 2 (.inl rfl))))))
def ly:Def (hk w) mg "grow" (top 40) QQ 238 (FD "grow" 40 u9 237):=dk Y ZY λ_ _ _ _ _ _=>us4 λ_ _ _ _=>rfl
def HF:FnOk P w (hk w) mg base CX0 4 238 (FD "grow" 40 u9 237) QQ (iO (hk w) 4 ir):=
 okI (ly Y) dg rfl rfl λp=>λO=>(eE (q_i (d:=.F) (dl (i:=4) dg.nd rfl Zy (e7 (h9 (e7 (qv .B 0) c8)) (qv .B 3))))
  (eE (Bf (E6 (A8 (j4 (g5 (qcD (gZ Y) (dS Y) (a8 (h9 (e7 (h9 (e7 (qv .B 1) (qv .B 2))) c8)) (a8 (qv .B 4) b7))))))) (jc GP) (GU (d:=.F) i8))
  (eE (q_i (d:=.F) (i5 (i:=5) dg.nd rfl Zy (qcD (pc Y) (ix Y) (a8 (h9 (e7 (h9 (e7 (qv .B 1) (qv .B 2))) c8)) (a8 (qv .B 4) b7)))))
  (eE (q_i (d:=.F) (v6 qC3 rfl (E7 (mI (w4 (qcD (bW Y) (aA Y) (a8 (qv .B 1) (a8 (qv .B 2) b7)))))) (c9 (i:=6) dg.nd rfl Zy) f9
   (c6 (i5 (i:=5) dg.nd rfl Zy (qcD (zj Y) (qX Y) (a8 (qv .B 5) (a8 (h9 (e7 (h9 (e7 (qv .B 1) (qv .B 6))) c8)) b7)))))))
  (jc (Bf (E6 (A8 (j4 (g5 (qcD (ff Y) (cE Y) (a8 (qv .B 5) (a8 (j4 (g5 (k7 (Vn 40 ["moor","tree","at","number","move","cap","elder"] QR) rfl (B6 (qv .B 1)) (λ_ _ _ _=>(c9 (i:=7) (by decide +kernel:(QR:Vp).Nodup) rfl (Or.inl rfl) (.inr rfl))) f9 (k9 (show 7<=7 by decide)) (λ_ _ _ _=>l9) (λ_ _ _ _=>(P6 (e7 (qv .B 7) c8)))))) b7))))))) (jc (Hc (i:=1) rfl Zy (w4 (t4 (a8 (qv .V 5) (a8 (qv .V 2) (a8 (qv .V 3) b7))))))) (GU (d:=.F) i8)))))))
def qZ:Def (hk w) mg "growth" (top 39) Qb 233 (FD "growth" 39 u9 232):=dk Y ZY λ_ _ _ _ _ _=>us2 λ_ _=>rfl
def zl:FnOk P w (hk w) mg base CX0 5 233 (FD "growth" 39 u9 232) Qb (spM (hk w) 2 .F Z6):=
 okF (qZ Y) Y4 (.inl rfl) rfl rfl λO=>(b9 (i5 (i:=2) Y4.nd rfl Zy (L7 (a8 (w4 (t4 (a8 (P6 (e7 (qv .B 0) c8)) (a8 o9 (a8 o9 b7))))) b7)))
  (b9 (u8 (i:=3) Y4.nd rfl Zy c8)
  (b9 (bf qC3 (f8 bV xLt (qv .B 3) (m8 n4 m9 Zo (bl Y).len_ qC2 (a8 (qv .B 2) b7))) (b9 (v6 qC3 rfl (z8 Zo (bl Y).range_ (a8 (m8 n4 m9 Zo (bl Y).len_ qC2 (a8 (h9 (e7 (qv .B 0) c8)) b7)) b7)) (c9 (i:=4) Y4.nd rfl Zy) f9
    (c6 (CH (i:=2) rfl Zy (HF Y) Zy Zo (ly Y).m (ly Y).F.kp (ly Y).b (qv .B 0) (a8 (qv .B 3) (a8 (qv .B 4) b7)))))
   (b9 (j3 (f8 W4 xGt (m8 n4 m9 Zo (bl Y).len_ qC2 (a8 (qv .B 2) b7)) (qv .B 1)) (c6 (f7 o9)) i8)
   (c6 (Bh (i:=3) Y4.nd rfl Zy c8 wI)))))
  (c6 (K3 2 (.inl rfl))))))
def om:Def (hk w) mg "crown" (top 42) Qb 250 (FD "crown" 42 u9 249):=dk Y ZY λ_ _ _ _ _ _=>us2 λ_ _=>rfl
def qm:FnOk P w (hk w) mg base CX0 6 250 (FD "crown" 42 u9 249) Qb (spM (hk w) 2 .F X8):=
 okF (om Y) pR (.inl rfl) rfl rfl λO=>(b9 (i5 (i:=2) pR.nd rfl Zy (qcD (zl Y) (qZ Y) (a8 (qv .B 0) (a8 (qv .B 1) b7))))
  (b9 (j3 (f8 K4 K6 (qv .B 2) o9) (c6 (f7 o9)) i8)
  (c6 (f7 (qcD (HD Y) (Bu Y) (a8 (j4 (g5 (k7 (Vn 42 ["moor","most","tree"] QS) rfl (B6 (qv .B 2)) (λ_ _ _ _=>(c9 (i:=3) (by decide +kernel:(QS:Vp).Nodup) rfl (Or.inl rfl) (.inr rfl))) f9 (k9 (show 3<=3 by decide)) (λ_ _ _ _=>l9) (λ_ _ _ _=>(P6 (e7 (qv .B 3) c8)))))) b7))))))
def JC:Def (hk w) mg "way" (top 44) Qh 257 (FD "way" 44 ck 256):=dk Y ZY λ_ _ _ _ _ _=>us2 λ_ _=>rfl
def Lo:FnOk P w (hk w) mg base CX0 2 257 (FD "way" 44 ck 256) Qh (spM (hk w) 2 .F tj):=
 okF (JC Y) KL (.inl rfl) rfl rfl λO=>(c6 (f7 (GR rfl Zo (bl Y).list_ Zo (bl Y).reversed_ (a8 (j4 (g5 (qcD (bW Y) (aA Y) (a8 (qv .B 0) (a8 (qv .B 1) b7))))) b7))))
def aa:Def (hk w) mg "row_between" (top 45) QT 262 (FD "row_between" 45 ck 261):=dk Y ZY λ_ _ _ _ _ _=>us3 λ_ _ _=>rfl
def cN:FnOk P w (hk w) mg base CX0 3 262 (FD "row_between" 45 ck 261) QT (spM (hk w) 3 .F G9):=
 okF (aa Y) cL (.inl rfl) rfl rfl λO=>(b9 (i5 (i:=3) cL.nd rfl Zy (qcD (Lo Y) (JC Y) (a8 (qv .B 0) (a8 (qv .B 2) b7))))
  (c6 (f7 (k7 (Vn 45 ["tree","elder","number","path"] QU) rfl (B6 (j4 (g5 (yR true (qv .C 3) (sj (g7 v8 D6 (CD (F1 O) (qv .B 3) (qv .B 1)) c8)) sk)))) (λ_ _ _ _=>(c9 (i:=4) (by decide +kernel:(QU:Vp).Nodup) rfl (Or.inl rfl) (.inr rfl))) f9 (k9 (show 4<=4 by decide)) (λ_ _ _ _=>l9) (λ_ _ _ _=>(P6 (e7 (h9 (e7 (qv .B 0) (qv .B 4))) c8)))))))
def Bx:Def (hk w) mg "peak" (top 46) ["moor","place","most"] 267 (FD "peak" 46 ck 266):=dk Y ZY λ_ _ _ _ _ _=>us3 λ_ _ _=>rfl
def HE:FnOk P w (hk w) mg base CX0 7 267 (FD "peak" 46 ck 266) ["moor","place","most"] (spM (hk w) 3 .F iq):=
 okF (Bx Y) lY (.inl rfl) rfl rfl λO=>(b9 (i5 (i:=3) lY.nd rfl Zy (qcD (qm Y) (om Y) (a8 (qv .B 0) (a8 (qv .B 2) b7))))
  (b9 (j3 (f8 K4 K6 (qv .B 3) o9) (c6 (f7 (t4 (a8 C4 b7)))) i8)
  (b9 (X3 (i:=4) (Vn 46 ["moor","place","most","caps","numbers"] QV) rfl (B6 (qv .B 3)) (λ_ _ _ _=>(c9 (i:=5) (by decide +kernel:(QV:Vp).Nodup) rfl (Or.inl rfl) (.inr rfl))) f9 (k9 (show 5<=5 by decide)) (λ_ _ _ _=>l9) (λ_ _ _ _=>(P6 (e7 (qv .B 5) (qv .B 1)))) lY.nd rfl Zy)
  (b9 (j3 (f8 (Bk (F1 O)) (ll (neg:=false)) o9 (qv .B 4)) (c6 (f7 (t4 (a8 C4 b7)))) i8)
  (c6 (f7 (t4 (a8 C4 (a8 (m8 (kN rfl) (oH (g:=F8)) Zo (bl Y).max_ oF (a8 (qv .B 4) b7)) b7)))))))))
def bx:Def (hk w) mg "stands_behind" (top 49) Qw 279 (FD "stands_behind" 49 J3 278):=dk Y ZY λ_ _ _ _ _ _=>us2 λ_ _=>rfl
def gY:FnOk P w (hk w) mg base CX0 4 279 (FD "stands_behind" 49 J3 278) Qw (spM (hk w) 2 .F Q6):=
 okF (bx Y) gF (.inl rfl) rfl rfl λO=>(c6 (f7 (k7 (Vn 49 Qw Qx) rfl (vm Zo (bl Y).enumerate_ (a8 (h9 (e7 (qv .B 0) c8)) b7)) (λ_ _ _ _=>(t6 (hk w) 2 rfl (g8 (c9 (i:=2) (by decide +kernel:(Qx:Vp).Nodup) rfl (Or.inl rfl) (.inr rfl)) (g8 (c9 (i:=3) (by decide +kernel:(Qx:Vp).Nodup) rfl (Or.inl rfl) (.inr rfl)) t5)))) (x9 (.inr rfl) (g9 (.inr rfl) f9 (g9 (.inr rfl) f9 t8))) (Q3 (t9 (show 2<=2 by decide) (t9 (show 2<=3 by decide) Q4))) (λ_ _ _ _=>(bg (A8 (j4 (g5 (qcD (vN Y) (tD Y) (a8 (qv .B 1) (a8 (qv .B 3) b7)))))))) (λ_ _ _ _=>(w4 (t4 (a8 (w4 (qcD (Da Y) (wY Y) (a8 (qv .B 1) (a8 (qv .B 3) b7)))) (a8 (qv .V 2) b7))))))))
def wW:Def (hk w) mg "flood" (top 48) Qb 274 (FD "flood" 48 J3 273):=dk Y ZY λ_ _ _ _ _ _=>us2 λ_ _=>rfl
def CZ:FnOk P w (hk w) mg base CX0 5 274 (FD "flood" 48 J3 273) Qb (spM (hk w) 2 .F eP):=
 okF (wW Y) O7 (.inl rfl) rfl rfl λO=>(b9 (i5 (i:=2) O7.nd rfl Zy (L7 (a8 (w4 (t4 (a8 (P6 (e7 (qv .B 0) c8)) (a8 o9 (a8 o9 b7))))) b7)))
  (b9 (GW (i:=3) (F1 O) O7.nd rfl Zy (h9 (e7 (qv .B 0) c8)) x8)
  (b9 (u8 (i:=4) O7.nd rfl Zy c8)
  (b9 (bf qC3 (f8 bV xLt (qv .B 4) (m8 n4 m9 Zo (bl Y).len_ qC2 (a8 (qv .B 2) b7))) (b9 (u8 (i:=5) O7.nd rfl Zy (ao (Hd (ao (qv .C 2) (qv .C 4))) c8))
   (b9 (v6 qC3 rfl (E7 (mI (w4 (qcD (gY Y) (bx Y) (a8 (qv .B 0) (a8 (qv .B 5) b7)))))) (t6 (hk w) 2 rfl (g8 (c9 (i:=6) O7.nd rfl Zy) (g8 (c9 (i:=7) O7.nd rfl Zy) t5))) (x9 (.inr rfl) (g9 (.inr rfl) f9 (g9 (.inr rfl) f9 t8)))
    (b9 (j3 (La (i:=3) (F1 O) rfl Zy (qv .B 6)) (c6 GX) i8)
    (b9 (j3 (f8 F7 B8 (m8 n4 m9 Zo (bl Y).len_ qC2 (a8 (qv .B 2) b7)) (qv .B 1)) (c6 (gK (f7 (t4 (a8 (qv .V 2) (a8 x8 b7)))))) i8)
    (b9 (GV (i:=3) (F1 O) rfl Zy (qv .B 6) x8)
    (c6 (aq (i:=2) rfl Zy (w4 (t4 (a8 (qv .V 6) (a8 (qv .V 4) (a8 (qv .V 7) b7)))))))))))
   (c6 (Bh (i:=4) O7.nd rfl Zy c8 wI)))))
  (c6 (gK (f7 (t4 (a8 (qv .V 2) (a8 x8 b7))))))))))
def iw:Def (hk w) mg "stands_in" (top 50) Qd 284 (FD "stands_in" 50 J3 283):=dk Y ZY λ_ _ _ _ _ _=>us1 λ_=>rfl
def oZ:FnOk P w (hk w) mg base CX0 1 284 (FD "stands_in" 50 J3 283) Qd (spM (hk w) 1 .F aQ):=
 okF (iw Y) oX (.inl rfl) rfl rfl λO=>(c6 (f7 (k7 (Vn 50 Qd ["rows","row"]) rfl (B6 (qv .B 0)) (λ_ _ _ _=>(c9 (i:=1) (by decide +kernel:(["rows","row"]:Vp).Nodup) rfl (Or.inl rfl) (.inr rfl))) f9 (k9 (show 1<=1 by decide)) (λ_ _ _ _=>l9) (λ_ _ _ _=>(P6 (e7 (qv .B 1) c8))))))
def qW:Def (hk w) mg "row_to" (top 51) ["rows","number"] 291 (FD "row_to" 51 J3 290):=dk Y ZY λ_ _ _ _ _ _=>us2 λ_ _=>rfl
def zh:FnOk P w (hk w) mg base CX0 4 291 (FD "row_to" 51 J3 290) ["rows","number"] (spM (hk w) 2 .F gc):=
 okF (qW Y) ym (.inl rfl) rfl rfl λO=>(c6 (f7 (qcD (cN Y) (aa Y) (a8 (qv .B 0) (n9 (a8 (qv .B 1) b7))))))
def fu:Def (hk w) mg "first_lift" (top 53) Qd 305 (FD "first_lift" 53 J3 304):=dk Y ZY λ_ _ _ _ _ _=>us1 λ_=>rfl
def mU:FnOk P w (hk w) mg base CX0 2 305 (FD "first_lift" 53 J3 304) Qd (spM (hk w) 1 .F Z7):=
 okF (fu Y) P4 (.inl rfl) rfl rfl λO=>(b9 (v6 qC3 rfl (gL Zo (bl Y).enumerate_ (a8 (qv .U 0) b7)) (t6 (hk w) 2 rfl (g8 (c9 (i:=1) P4.nd rfl Zy) (g8 (c9 (i:=2) P4.nd rfl Zy) t5))) (x9 (.inr rfl) (g9 (.inr rfl) f9 (g9 (.inr rfl) f9 t8)))
   (c6 (v6 qC3 rfl (E7 (mI (w4 (yR true (g5 (qcD (bW Y) (aA Y) (a8 (qv .B 0) (a8 (qv .B 1) b7)))) (sj c8) sk)))) (c9 (i:=3) P4.nd rfl Zy) f9
    (c6 (j3 (A8 (j4 (g5 (qcD (bX Y) (bB Y) (a8 (h9 (e7 (qv .B 2) c8)) (a8 (h9 (e7 (h9 (e7 (qv .B 0) (qv .B 3))) c8)) b7)))))) (c6 (f7 (t4 (a8 (qv .V 3) (a8 (qv .V 1) b7))))) i8)))))
  (c6 (f7 o9)))
def ot:Def (hk w) mg "bounded" (top 52) Qb 298 (FD "bounded" 52 J3 297):=dk Y ZY λ_ _ _ _ _ _=>us2 λ_ _=>rfl
def vM:FnOk P w (hk w) mg base CX0 6 298 (FD "bounded" 52 J3 297) Qb (spM (hk w) 2 .V az):=
 okF (ot Y) U5 (.inr rfl) rfl rfl λO=>(b9 (i5 (i:=2) U5.nd rfl Zy (qcD (CZ Y) (wW Y) (a8 (qv .B 0) (a8 (qv .B 1) b7))))
  (b9 (u8 (i:=3) U5.nd rfl Zy (ao (qv .C 2) c8))
  (b9 (i5 (i:=4) U5.nd rfl Zy (qcD (mU Y) (fu Y) (a8 (qv .B 3) b7)))
  (b9 (j3 (f8 bi bj (qv .B 4) o9) (c6 (f7 (w4 (t4 (a8 C4 (a8 (w4 (qcD (zh Y) (qW Y) (a8 (qv .B 3) (a8 (h9 (e7 (qv .B 4) c8)) b7)))) (a8 (w4 (qcD (cN Y) (aa Y) (a8 (qv .B 3) (a8 (h9 (e7 (qv .B 4) c8)) (a8 (h9 (e7 (qv .B 4) c8)) b7))))) b7))))))) i8)
  (b9 (j3 (A8 (h9 (e7 (qv .B 2) c8))) (c6 (f7 (w4 (t4 (a8 C4 (a8 (w4 (qcD (oZ Y) (iw Y) (a8 (qv .B 3) b7))) b7)))))) i8)
  (b9 (i5 (i:=5) U5.nd rfl Zy (qcD (ql Y) (nZ Y) (a8 (h9 (e7 (qv .B 0) c8)) (a8 (m8 n4 m9 Zo (bl Y).len_ qC2 (a8 (h9 (e7 (qv .B 0) c8)) b7)) b7))))
  (c6 (gK (f7 (jd (f8 F7 B8 (h9 (e7 (qv .B 5) c8)) C4) (qv .V 5) (w4 (t4 (a8 C4 b7)))))))))))))
def u7:Def (hk w) mg "_law_cell" (top 55) ["_law_script","_law_k"] 312 (FD "_law_cell" 55 w6 311):=dk Y ZY λ_ _ _ _ _ _=>us2 λ_ _=>rfl
def p9:FnOk P w (hk w) mg base CX0 1 312 (FD "_law_cell" 55 w6 311) ["_law_script","_law_k"] (spM (hk w) 2 .F m7):=
 okF (u7 Y) aL (.inl rfl) rfl rfl λO=>(b9 (j3 (f8 bV xLt (qv .B 1) (m8 n4 m9 Zo (bl Y).len_ qC2 (a8 (qv .B 0) b7))) (c6 (f7 (vn (e7 (qv .B 0) (qv .B 1))))) i8)
  (b9 (u8 (i:=2) aL.nd rfl Zy (g7 v8 D6 (g7 t7 Vk c8 (qv .B 1)) c8))
  (b9 (j3 (f8 W4 xGt (m8 n4 m9 Zo (bl Y).len_ qC2 (a8 (qv .B 0) b7)) c8) (c6 (u8 (i:=2) aL.nd rfl Zy (g7 v8 D6 (g7 v8 D6 (g7 t7 Vk (h9 (e7 (qv .B 0) (g7 B7 Vl (g7 t7 Vk (qv .B 1) c8) (m8 n4 m9 Zo (bl Y).len_ qC2 (a8 (qv .B 0) b7))))) c8) (g7 t7 Vk (g7 t7 Vk (qv .B 1) (qv .B 1)) c8)) c8))) i8)
  (c6 (f7 (g7 B7 Vl (g7 t7 Vk (qv .B 2) (qv .B 2)) c8))))))
def iy:Def (hk w) mg "_law_move" (top 56) QW 317 (FD "_law_move" 56 w6 316):=dk Y ZY λ_ _ _ _ _ _=>us5 λ_ _ _ _ _=>rfl
def pe:FnOk P w (hk w) mg base CX0 2 317 (FD "_law_move" 56 w6 316) QW (spM (hk w) 5 .F aS):=
 okF (iy Y) x6 (.inl rfl) rfl rfl λO=>(b9 (i5 (i:=5) x6.nd rfl Zy (L7 b7))
  (b9 (i5 (i:=6) x6.nd rfl Zy (L7 b7))
  (b9 (v6 qC3 rfl (z8 Zo (bl Y).range_ (a8 (qv .B 2) b7)) (c9 (i:=7) x6.nd rfl Zy) f9
   (b9 (i5 (i:=8) x6.nd rfl Zy (qcD (p9 Y) (u7 Y) (a8 (qv .B 0) (a8 (g7 v8 D6 (qv .B 1) (qv .B 7)) b7))))
   (b9 (aq (i:=5) rfl Zy (g7 t7 Vk (h9 (e7 (j4 (g5 GT)) (g7 B7 Vl (qv .B 8) c8))) (qv .B 4)))
   (c6 (aq (i:=6) rfl Zy (g7 t7 Vk (h9 (e7 (j4 (g5 GS)) (g7 B7 Vl (g7 X4 Vm (qv .B 8) c8) c8))) (qv .B 4)))))))
  (b9 (j3 (A8 (qv .B 3)) (b9 (u8 (i:=9) x6.nd rfl Zy (g7 B7 Vl (g7 X4 Vm (j4 (g5 (qcD (p9 Y) (u7 Y) (a8 (qv .B 0) (a8 (qv .B 1) b7))))) c8) (qv .B 2)))
   (b9 (u8 (i:=10) x6.nd rfl Zy (g7 B7 Vl (g7 X4 Vm (j4 (g5 (qcD (p9 Y) (u7 Y) (a8 (qv .B 0) (a8 (g7 v8 D6 (qv .B 1) c8) b7))))) c8) (qv .B 2)))
   (b9 (X3 (i:=5) (Vn 56 QX Qi) rfl (z8 Zo (bl Y).range_ (a8 (qv .B 2) b7)) (λ_ _ _ _=>(c9 (i:=11) (by decide +kernel:(Qi:Vp).Nodup) rfl (Or.inl rfl) (.inr rfl))) f9 (k9 (show 11<=11 by decide)) (λ_ _ _ _=>l9) (λ_ _ _ _=>(g7 t7 Vk (g7 t7 Vk (E8 kP BC Zo (bl Y).int_ xq (a8 (gM (Y8 (F1 O)) (K7 (neg:=false)) (qv .B 11) (qv .B 9)) b7)) (g7 v8 D6 c8 (qv .B 10))) (qv .B 4))) x6.nd rfl Zy)
   (b9 (X3 (i:=6) (Vn 56 QX Qi) rfl (z8 Zo (bl Y).range_ (a8 (qv .B 2) b7)) (λ_ _ _ _=>(c9 (i:=11) (by decide +kernel:(Qi:Vp).Nodup) rfl (Or.inl rfl) (.inr rfl))) f9 (k9 (show 11<=11 by decide)) (λ_ _ _ _=>l9) (λ_ _ _ _=>(g7 t7 Vk (g7 t7 Vk (E8 kP BC Zo (bl Y).int_ xq (a8 (gM (Y8 (F1 O)) (K7 (neg:=false)) (qv .B 11) (qv .B 10)) b7)) (g7 v8 D6 c8 (qv .B 9))) (qv .B 4))) x6.nd rfl Zy)
   (c6 (j3 (f8 F7 B8 (g7 B7 Vl (g7 X4 Vm (j4 (g5 (qcD (p9 Y) (u7 Y) (a8 (qv .B 0) (a8 (qv .B 1) b7))))) c8) c8) c8) (c6 (i5 (i:=6) x6.nd rfl Zy (g7 vD (vS (c:=true)) (g5 (L7 (n9 b7))) (qv .C 2)))) i8)))))) i8)
  (c6 (f7 (t4 (a8 (w4 (E8 C6 (C5 (c:=true)) Zo (bl Y).tuple_ n6 (a8 (qv .C 5) b7))) (a8 (w4 (E8 C6 (C5 (c:=true)) Zo (bl Y).tuple_ n6 (a8 (qv .C 6) b7))) b7)))))))))
def L0:Def (hk w) mg "_law_covers" (top 57) QY 324 (FD "_law_covers" 57 w6 323):=dk Y ZY λ_ _ _ _ _ _=>us2 λ_ _=>rfl
def N3:FnOk P w (hk w) mg base CX0 1 324 (FD "_law_covers" 57 w6 323) QY (spM (hk w) 2 .F A3):=
 okF (L0 Y) cM (.inl rfl) rfl rfl λO=>(b9 (v6 qC3 rfl (z8 Zo (bl Y).range_ (a8 (m8 n4 m9 Zo (bl Y).len_ qC2 (a8 (qv .B 0) b7)) b7)) (c9 (i:=2) cM.nd rfl Zy) f9
   (c6 (j3 (f8 bV xLt (h9 (e7 (qv .B 0) (qv .B 2))) (h9 (e7 (qv .B 1) (qv .B 2)))) (c6 (f7 x8)) i8)))
  (c6 (f7 x8)))
def ac:Def (hk w) mg "_law_behind" (top 58) Qy 329 (FD "_law_behind" 58 w6 328):=dk Y ZY λ_ _ _ _ _ _=>us2 λ_ _=>rfl
def cO:FnOk P w (hk w) mg base CX0 1 329 (FD "_law_behind" 58 w6 328) Qy (spM (hk w) 2 .F N5):=
 okF (ac Y) kX (.inl rfl) rfl rfl λO=>(c6 (f7 (E8 C6 (C5 (c:=true)) Zo (bl Y).tuple_ n6 (a8 (g5 (k7 (Vn 58 Qy QZ) rfl (z8 Zo (bl Y).range_ (a8 (m8 n4 m9 Zo (bl Y).len_ qC2 (a8 (qv .B 0) b7)) b7)) (λ_ _ _ _=>(c9 (i:=2) (by decide +kernel:(QZ:Vp).Nodup) rfl (Or.inl rfl) (.inr rfl))) f9 (k9 (show 2<=2 by decide)) (λ_ _ _ _=>l9) (λ_ _ _ _=>(g7 v8 D6 (g7 bh iH (h9 (e7 (qv .B 0) (qv .B 2))) (h9 (e7 (h9 (e7 (qv .B 1) c8)) (qv .B 2)))) (h9 (e7 (h9 (e7 (qv .B 1) c8)) (qv .B 2))))))) b7))))
def dU:Def (hk w) mg "_law_end" (top 59) Va 336 (FD "_law_end" 59 w6 335):=dk Y ZY λ_ _ _ _ _ _=>us3 λ_ _ _=>rfl
def hJ:FnOk P w (hk w) mg base CX0 2 336 (FD "_law_end" 59 w6 335) Va (spM (hk w) 3 .F Q8):=
 okF (dU Y) bR (.inl rfl) rfl rfl λO=>(b9 (v6 qC3 rfl (E7 (qv .U 0)) (c9 (i:=3) bR.nd rfl Zy) f9
   (b9 (j3 (PW.pt (P5 (E6 (yQ Ln (hX (g:=gLe) (λ_ _=>rfl) (λ_ _ _=>.bl)) bV xLt c8 (qv .B 3) (m8 n4 m9 Zo (bl Y).len_ qC2 (a8 (qv .B 2) b7)))) (Y7 (E6 (A8 (j4 (g5 (qcD (N3 Y) (L0 Y) (a8 (qv .B 1) (a8 (h9 (e7 (h9 (e7 (qv .B 2) (qv .B 3))) c8)) b7)))))))))) (c6 (f7 o9)) i8)
   (c6 (i5 (i:=1) bR.nd rfl Zy (qcD (cO Y) (ac Y) (a8 (qv .B 1) (a8 (h9 (e7 (qv .B 2) (qv .B 3))) b7)))))))
  (c6 (K3 1 (.inl rfl))))
def kK:Def (hk w) mg "_law_all" (top 60) Vb 341 (FD "_law_all" 60 w6 340):=dk Y ZY λ_ _ _ _ _ _=>us4 λ_ _ _ _=>rfl
def sD:FnOk P w (hk w) mg base CX0 8 341 (FD "_law_all" 60 w6 340) Vb (spM (hk w) 4 .F W8):=
 okF (kK Y) A7 (.inl rfl) rfl rfl λO=>(b9 (so (qv .U 1) (t6 (hk w) 2 rfl (g8 (c9 (i:=4) A7.nd rfl Zy) (g8 (c9 (i:=5) A7.nd rfl Zy) t5))) (x9 (.inr rfl) (g9 (.inr rfl) f9 (g9 (.inr rfl) f9 t8))))
  (b9 (j3 (PW.pt (P5 (E6 (A8 (m8 gn tO Zo (bl Y).isinstance_ qP6 (a8 (qv .B 0) (a8 (yP Zo (bl Y).list_ rC) b7))))) (P5 (f8 (vG (F1 O)) (ll (neg:=true)) (qv .B 4) (qv .B 0)) (P5 (f8 sx mX (yT rfl (F1 O) Zo (bl Y).len_ Zo (bl Y).set_ (a8 (qv .B 0) b7)) (m8 n4 m9 Zo (bl Y).len_ qC2 (a8 (qv .B 0) b7))) (Y7 (f8 W4 xGt (m8 n4 m9 Zo (bl Y).len_ qC2 (a8 (qv .B 0) b7)) (qv .B 2))))))) (c6 (f7 x8)) i8)
  (b9 (v6 qC3 rfl (E7 (qv .U 0)) (c9 (i:=6) A7.nd rfl Zy) f9
   (c6 (v6 qC3 rfl (E7 (qv .U 5)) (c9 (i:=7) A7.nd rfl Zy) f9
    (c6 (j3 (PW.pt (mH (A8 (j4 (g5 (qcD (N3 Y) (L0 Y) (a8 (qv .B 6) (a8 (h9 (e7 (qv .B 7) c8)) b7)))))) (iZ (f8 (vG (F1 O)) (ll (neg:=true)) (j4 (g5 (qcD (cO Y) (ac Y) (a8 (qv .B 6) (a8 (qv .B 7) b7))))) (qv .B 0))))) (c6 (f7 x8)) i8)))))
  (b9 (j3 (f8 K4 K6 (qv .B 3) o9) (c6 (f7 x8)) i8)
  (b9 (i5 (i:=8) A7.nd rfl Zy (L7 b7))
  (b9 (v6 qC3 rfl (E7 (qv .U 0)) (c9 (i:=6) A7.nd rfl Zy) f9
   (c6 (j3 (f8 F7 B8 (m8 n4 m9 Zo (bl Y).len_ qC2 (a8 (j4 (g5 (k7 (Vn 60 Vc Vd) rfl (B6 (qv .B 0)) (λ_ _ _ _=>(c9 (i:=11) (by decide +kernel:(Vd:Vp).Nodup) rfl (Or.inl rfl) (.inr rfl))) f9 (k9 (show 11<=11 by decide)) (λ_ _ _ _=>(bg (PW.pt (mH (f8 (gX (F1 O)) (K7 (neg:=true)) (qv .B 11) (qv .B 6)) (iZ (A8 (j4 (g5 (qcD (N3 Y) (L0 Y) (a8 (qv .B 11) (a8 (qv .B 6) b7))))))))))) (λ_ _ _ _=>(qv .V 11))))) b7)) c8) (c6 (aq (i:=8) rfl Zy (qv .V 6))) i8)))
  (b9 (j3 (f8 (gX (F1 O)) (K7 (neg:=true)) (qv .B 3) (j4 (g5 (m8 tG (Kt (c:=true)) Zo (bl Y).sorted_ kQ (a8 (qv .C 8) b7))))) (c6 (f7 x8)) i8)
  (b9 (v6 qC3 rfl (z8 Zo (bl Y).range_ (a8 (m8 n4 m9 Zo (bl Y).len_ qC2 (a8 (qv .B 4) b7)) b7)) (c9 (i:=9) A7.nd rfl Zy) f9
   (b9 (i5 (i:=10) A7.nd rfl Zy (qcD (HE Y) (Bx Y) (a8 (qv .B 1) (a8 (qv .B 9) (a8 (qv .B 2) b7)))))
   (c6 (j3 (f8 (gX (F1 O)) (K7 (neg:=true)) (qv .B 10) (h9 (vk (a8 C4 (a8 (m8 (kN rfl) (oH (g:=F8)) Zo (bl Y).max_ oF (a8 (j4 (g5 (k7 (Vn 60 Vc Ve) rfl (B6 (qv .B 0)) (λ_ _ _ _=>(c9 (i:=11) (by decide +kernel:(Ve:Vp).Nodup) rfl (Or.inl rfl) (.inr rfl))) f9 (k9 (show 11<=11 by decide)) (λ_ _ _ _=>l9) (λ_ _ _ _=>(P6 (e7 (qv .B 11) (qv .B 9))))))) b7)) b7))))) (c6 (f7 x8)) i8))))
  (c6 (f7 x8))))))))))
def W9:Def (hk w) mg "_law_lift" (top 61) Vf 346 (FD "_law_lift" 61 w6 345):=dk Y ZY λ_ _ _ _ _ _=>us4 λ_ _ _ _=>rfl
def pf:FnOk P w (hk w) mg base CX0 6 346 (FD "_law_lift" 61 w6 345) Vf (spX (hk w) 4 T9):=
 okX (W9 Y) D8 rfl rfl λO=>(b9 (so (qv .U 1) (t6 (hk w) 2 rfl (g8 (c9 (i:=4) D8.nd rfl Zy) (g8 (c9 (i:=5) D8.nd rfl Zy) t5))) (x9 (.inr rfl) (g9 (.inr rfl) f9 (g9 (.inr rfl) f9 t8))))
  (b9 (i5 (i:=6) D8.nd rfl Zy (qcD (hJ Y) (dU Y) (a8 (h9 (e7 (qv .B 0) c8)) (a8 (qv .B 4) (a8 (qv .B 5) b7)))))
  (b9 (j3 (f8 K4 K6 (qv .B 6) o9) (c6 (f7 x8)) i8)
  (b9 (i5 (i:=7) D8.nd rfl Zy (qcD (hJ Y) (dU Y) (a8 (h9 (e7 (qv .B 0) c8)) (a8 (qv .B 6) (a8 (qv .B 5) b7)))))
  (b9 (j3 (PW.pt (P5 (f8 K4 K6 (qv .B 7) o9) (P5 (f8 (Y8 (F1 O)) (K7 (neg:=false)) (qv .B 7) (qv .B 6)) (Y7 (E6 (A8 (j4 (g5 (qcD (N3 Y) (L0 Y) (a8 (qv .B 7) (a8 (qv .B 6) b7))))))))))) (c6 (f7 x8)) i8)
  (b9 (i5 (i:=8) D8.nd rfl Zy (E8 C6 (C5 (c:=true)) Zo (bl Y).tuple_ n6 (a8 (g5 (k7 (Vn 61 Qz Qj) rfl (z8 Zo (bl Y).range_ (a8 (m8 n4 m9 Zo (bl Y).len_ qC2 (a8 (qv .B 6) b7)) b7)) (λ_ _ _ _=>(c9 (i:=10) (by decide +kernel:(Qj:Vp).Nodup) rfl (Or.inl rfl) (.inr rfl))) f9 (k9 (show 10<=10 by decide)) (λ_ _ _ _=>l9) (λ_ _ _ _=>(g7 v8 D6 (h9 (e7 (qv .B 6) (qv .B 10))) (g7 t7 Vk (qv .B 3) (g7 bh iH (h9 (e7 (qv .B 7) (qv .B 10))) (h9 (e7 (qv .B 6) (qv .B 10))))))))) b7)))
  (b9 (j3 (f8 (gX (F1 O)) (K7 (neg:=true)) (j4 (g5 (qcD (zf Y) (qT Y) (a8 (qv .B 1) (a8 (qv .B 4) (a8 (j4 (g5 (L7 (a8 (w4 (t4 (a8 (ao (qv .C 0) c8) (n9 b7)))) (a8 (w4 (t4 (a8 (ao (qv .C 0) c8) (a8 (qv .V 3) b7)))) b7))))) b7)))))) (qv .B 8)) (c6 (f7 x8)) i8)
  (b9 (j3 (f8 bi bj (qv .B 2) o9) (b9 (i5 (i:=9) D8.nd rfl Zy (k7 (Vn 61 Qz Qj) rfl (z8 Zo (bl Y).range_ (a8 (m8 n4 m9 Zo (bl Y).len_ qC2 (a8 (qv .B 4) b7)) b7)) (λ_ _ _ _=>(c9 (i:=10) (by decide +kernel:(Qj:Vp).Nodup) rfl (Or.inl rfl) (.inr rfl))) f9 (k9 (show 10<=10 by decide)) (λ_ _ _ _=>(bg (f8 W4 xGt (h9 (e7 (qv .B 7) (qv .B 10))) (h9 (e7 (qv .B 6) (qv .B 10)))))) (λ_ _ _ _=>(qv .V 10))))
   (c6 (j3 (f8 F7 B8 (m8 n4 m9 Zo (bl Y).len_ qC2 (a8 (j4 (g5 (yU (show CompScopeC (b8 (top 61)) _ Qz Vg "_law_cap" from ⟨rfl,⟨λ_ _=>rfl,λ_=>rfl⟩,ZV,Zo,ZV,ZV,ZV,ZQ,ZV,ZV⟩) rfl (B6 (qv .B 2)) (λ_ _ _ _=>(c9 (i:=10) (by decide +kernel:(Vg:Vp).Nodup) rfl (Or.inr rfl) (.inl (by first|rfl|show qP9 _)))) f9 (k9 (show 10<=10 by decide)) (λ_ _ _ _=>(bg (f8 F7 B8 (m8 n4 m9 Zo (bl Y).len_ qC2 (a8 (j4 (g5 (k7 (by show kM ⟨rfl,ZV,ZV,ZV,ZV,ZQ,ZV,ZV⟩) rfl (B6 (qv .B 9)) (λ_ _ _ _=>(c9 (i:=11) (by decide +kernel:(["_law_found","_law_land","_law_caps","_law_laps","_law_begin","_law_moves","_law_here","_law_there","_law_due","_law_growing","_law_cap","_law_p"]:Vp).Nodup) rfl (Or.inl rfl) (.inr rfl))) f9 (k9 (show 11<=11 by decide)) (λ_ _ _ _=>(bg (f8 K4 K6 (h9 (e7 (qv .B 10) (qv .B 11))) o9))) (λ_ _ _ _=>(qv .V 11))))) b7)) (m8 n4 m9 Zo (bl Y).len_ qC2 (a8 (qv .B 9) b7))))) (λ_ _ _ _=>(qv .V 10))))) b7)) c8) (c6 (f7 x8)) i8))) i8)
  (c6 (f7 (gM F7 B8 (h9 (e7 (j4 (g5 (qcD (ql Y) (nZ Y) (a8 (qv .B 5) (a8 (m8 n4 m9 Zo (bl Y).len_ qC2 (a8 (qv .B 4) b7)) b7))))) c8)) C4)))))))))))
def M8:Def (hk w) mg "_law_weigh" (top 62) QB 351 (FD "_law_weigh" 62 w6 350):=dk Y ZY λ_ _ _ _ _ _=>us2 λ_ _=>rfl
def Q0:FnOk P w (hk w) mg base CX0 1 351 (FD "_law_weigh" 62 w6 350) QB (spM (hk w) 2 .F C0):=
 okF (M8 Y) mj (.inl rfl) rfl rfl λO=>(c6 (f7 (m8 (xk rfl) (Ku (g:=Ab)) Zo (bl Y).sum_ Km (a8 (j4 (g5 (k7 (Vn 62 QB Vh) rfl (z8 Zo (bl Y).range_ (a8 (m8 n4 m9 Zo (bl Y).len_ qC2 (a8 (qv .B 1) b7)) b7)) (λ_ _ _ _=>(c9 (i:=2) (by decide +kernel:(Vh:Vp).Nodup) rfl (Or.inl rfl) (.inr rfl))) f9 (k9 (show 2<=2 by decide)) (λ_ _ _ _=>l9) (λ_ _ _ _=>(g7 t7 Vk (h9 (e7 (qv .B 0) (qv .B 2))) (h9 (e7 (qv .B 1) (qv .B 2)))))))) b7))))
def cT:Def (hk w) mg "_law_weights" (top 63) Vi 358 (FD "_law_weights" 63 w6 357):=dk Y ZY λ_ _ _ _ _ _=>us3 λ_ _ _=>rfl
def ji:FnOk P w (hk w) mg base CX0 2 358 (FD "_law_weights" 63 w6 357) Vi (spM (hk w) 3 .F M0):=
 okF (cT Y) E3 (.inl rfl) rfl rfl λO=>(b9 (so (qv .U 1) (t6 (hk w) 2 rfl (g8 (c9 (i:=3) E3.nd rfl Zy) (g8 (c9 (i:=4) E3.nd rfl Zy) t5))) (x9 (.inr rfl) (g9 (.inr rfl) f9 (g9 (.inr rfl) f9 t8))))
  (b9 (j3 (PW.pt (P5 (E6 (A8 (m8 gn tO Zo (bl Y).isinstance_ qP6 (a8 (qv .B 0) (a8 (yP Zo (bl Y).tuple_ n6) b7))))) (P5 (f8 sx mX (m8 n4 m9 Zo (bl Y).len_ qC2 (a8 (qv .B 0) b7)) (m8 n4 m9 Zo (bl Y).len_ qC2 (a8 (qv .B 3) b7))) (Y7 (f8 bV xLt (m8 (xl rfl) (oH (g:=dw)) Zo (bl Y).min_ Kn (a8 (qv .B 0) b7)) c8))))) (c6 (f7 x8)) i8)
  (b9 (v6 qC3 rfl (E7 (qv .U 4)) (c9 (i:=5) E3.nd rfl Zy) f9
   (c6 (j3 (f8 W4 xGt (j4 (g5 (qcD (Q0 Y) (M8 Y) (a8 (qv .B 0) (a8 (h9 (e7 (qv .B 5) c8)) b7))))) (j4 (g5 (qcD (Q0 Y) (M8 Y) (a8 (qv .B 0) (a8 (h9 (e7 (qv .B 5) c8)) b7)))))) (c6 (f7 x8)) i8)))
  (b9 (j3 (f8 K4 K6 (qv .B 2) o9) (c6 (f7 x8)) i8)
  (b9 (v6 qC3 rfl (E7 (qv .U 2)) (c9 (i:=6) E3.nd rfl Zy) f9
   (c6 (j3 (PW.pt (P5 (f8 (Bk (F1 O)) (ll (neg:=false)) o9 (qv .B 6)) (Y7 (f8 W4 xGt (j4 (g5 (qcD (Q0 Y) (M8 Y) (a8 (qv .B 0) (a8 (qv .B 6) b7))))) (j4 (g5 (qcD (Q0 Y) (M8 Y) (a8 (qv .B 0) (a8 (qv .B 3) b7))))))))) (c6 (f7 x8)) i8)))
  (c6 (f7 x8)))))))
def JD:Def (hk w) mg "law" (top 64) QC 363 (FD "law" 64 w6 362):=dk Y ZY λ_ _ _ _ _ _=>us1 λ_=>rfl
def Lp:FnOk P w (hk w) mg base CX0 9 363 (FD "law" 64 w6 362) QC (spM (hk w) 1 .F lr):=
 okF (JD Y) N1 (.inl rfl) rfl rfl λO=>(b9 (u8 (i:=1) N1.nd rfl Zy (g7 v8 D6 c8 (g7 B7 Vl (j4 (g5 (qcD (p9 Y) (u7 Y) (a8 (qv .B 0) (n9 b7))))) c8)))
  (b9 (u8 (i:=2) N1.nd rfl Zy (g7 v8 D6 c8 (g7 B7 Vl (j4 (g5 (qcD (p9 Y) (u7 Y) (a8 (qv .B 0) (n9 b7))))) c8)))
  (b9 (u8 (i:=3) N1.nd rfl Zy (gM F7 B8 (g7 B7 Vl (j4 (g5 (qcD (p9 Y) (u7 Y) (a8 (qv .B 0) (n9 b7))))) c8) c8))
  (b9 (u8 (i:=4) N1.nd rfl Zy c8)
  (b9 (j3 (f8 F7 B8 (g7 B7 Vl (j4 (g5 (qcD (p9 Y) (u7 Y) (a8 (qv .B 0) (n9 b7))))) c8) c8) (c6 (u8 (i:=4) N1.nd rfl Zy (g7 v8 D6 c8 (g7 B7 Vl (g7 X4 Vm (j4 (g5 (qcD (p9 Y) (u7 Y) (a8 (qv .B 0) (n9 b7))))) c8) (g7 vE (l7 (C:=dZ) (g:=nS) (λ_ _=>rfl) (λ_ _ _=>.int)) c8 c8))))) i8)
  (b9 (i5 (i:=5) N1.nd rfl Zy (L7 b7))
  (b9 (v6 qC3 rfl (z8 Zo (bl Y).range_ (a8 (g7 v8 D6 c8 (g7 B7 Vl (j4 (g5 (qcD (p9 Y) (u7 Y) (a8 (qv .B 0) (n9 b7))))) c8)) b7)) (c9 (i:=6) N1.nd rfl Zy) f9
   (c6 (aq (i:=5) rfl Zy (w4 (qcD (pe Y) (iy Y) (a8 (qv .B 0) (a8 (g7 v8 D6 c8 (g7 t7 Vk (qv .B 1) (qv .B 6))) (a8 (qv .B 1) (a8 (qv .B 3) (a8 (qv .B 4) b7))))))))))
  (b9 (i5 (i:=7) N1.nd rfl Zy (E8 C6 (C5 (c:=true)) Zo (bl Y).tuple_ n6 (a8 (g5 (k7 (Vn 64 ["_law_script","_law_many","_law_most","_law_falling","_law_times","_law_moves","_law_k","_law_begin","_law_land","_law_caps","_law_found"] Vj) rfl (z8 Zo (bl Y).range_ (a8 (qv .B 1) b7)) (λ_ _ _ _=>(c9 (i:=11) (by decide +kernel:(Vj:Vp).Nodup) rfl (Or.inl rfl) (.inr rfl))) f9 (k9 (show 11<=11 by decide)) (λ_ _ _ _=>l9) (λ_ _ _ _=>(g7 t7 Vk (g7 B7 Vl (g7 X4 Vm (j4 (g5 (qcD (p9 Y) (u7 Y) (a8 (qv .B 0) (a8 (g7 v8 D6 c8 (qv .B 11)) b7))))) c8) c8) (qv .B 4))))) b7)))
  (b9 (i5 (i:=8) N1.nd rfl Zy (t4 (a8 (qv .V 7) (a8 (w4 (E8 C6 (C5 (c:=true)) Zo (bl Y).tuple_ n6 (a8 (qv .C 5) b7))) b7))))
  (b9 (i5 (i:=9) N1.nd rfl Zy (qcD (qm Y) (om Y) (a8 (qv .B 8) (a8 (qv .B 2) b7))))
  (b9 (u8 (i:=10) N1.nd rfl Zy (qcD (vM Y) (ot Y) (a8 (qv .B 8) (a8 (qv .B 2) b7))))
  (b9 (j3 (PW.pt (P5 (E6 (A8 (m8 gn tO Zo (bl Y).isinstance_ qP6 (a8 (qv .B 10) (a8 (yP Zo (bl Y).tuple_ n6) b7))))) (Y7 (f8 F7 B8 (m8 n4 m9 Zo (bl Y).len_ qC2 (a8 (qv .B 10) b7)) c8)))) (c6 (f7 x8)) i8)
  (b9 (j3 (f8 F7 B8 (h9 (e7 (qv .B 10) c8)) C4) (c6 (f7 (qcD (sD Y) (kK Y) (a8 (h9 (e7 (qv .B 10) c8)) (a8 (qv .B 8) (a8 (qv .B 2) (a8 (qv .B 9) b7))))))) i8)
  (b9 (j3 (f8 F7 B8 (h9 (e7 (qv .B 10) c8)) C4) (c6 (gK (f7 (vn (mI (CG (pf Y) Zy Zo (W9 Y).m (W9 Y).F.kp (W9 Y).b (a8 (qv .V 10) (a8 (qv .V 8) (a8 (qv .V 9) (a8 (g7 CV (l7 (C:=aG) (g:=gMz) (λ_ _=>rfl) (λ_ _ _=>.int)) (j4 (g5 (qcD (p9 Y) (u7 Y) (a8 (qv .B 0) (n9 b7))))) (g7 vE (l7 (C:=dZ) (g:=nS) (λ_ _=>rfl) (λ_ _ _=>.int)) c8 c8)) b7)))))))))) i8)
  (b9 (j3 (f8 F7 B8 (h9 (e7 (qv .B 10) c8)) C4) (c6 (f7 (qcD (ji Y) (cT Y) (a8 (h9 (e7 (qv .B 10) c8)) (a8 (qv .B 8) (a8 (qv .B 9) b7)))))) i8)
  (c6 (f7 (gM (Y8 (F1 O)) (K7 (neg:=false)) (qv .B 10) (h9 (vk (a8 C4 b7)))))))))))))))))))))
end
def spLaw (K:Frag):Sp:=λvs H Q _=>∃(a:Addr)(ns:VW),vs = [.ref a]/\SqL K H a (ns.map V.int)/\ns.length<=63/\(∀x∈ns,Builtin.Int.intBits x<=1048576)/\∀H',Q (.bl true) H'
def all_ {l:PySem.W.OpenLaw}(Y:En w mg) (O:∀ns:List Int,ns.length<=63->(∀x∈ns,Builtin.Int.intBits x<=1048576)->lr [.scr (ns.map W.int)]=.ok (.bl true)) (e:mg "law" = some (.ref fa)):∃fd:FuncData,(∀ s v,BindsTo s fd ⟨[v],[]⟩ [("_law_script",v)])/\∀base,(hk w).In base->base.Ns mainGlobals mg->FnOk l.prog w (hk w) mg base CX0 9 fa fd QC (spLaw (hk w)):=by
 cases e.symm.trans (JD Y).m;show ⟨FD "law" 64 w6 362,λs v=>.of_eq rfl,λbase _ _=>DK (Lp Y) O⟩
end K96
open PySem PySem.W PyProof.Rows
namespace K96
end K96
set_option maxHeartbeats 0 in
theorem PySem.Challenge.cw_tokenmoor_k96_whole_bounded_by_three_roa_holds : PySem.Challenge.rw_tokenmoor_k96_whole_bounded_by_three_roa.Holds := by
 w_on;o_law
 refine holds_open (q:=K96.view) (loose:=[]) (Xt:=λs=>xlAt K96.view [] s&&recOk [] s) (XP:=XL K96.view [])
  (Yf:=K96.hook.obs) (Ya:=K96.hook.val) (YP:=K96.hook.says) (N:=4244) K96.hl0 K96.hook.of K96.hook.keeps
  (λs e=>xl_of s (qU3.mp e).1) XL.keeps (by rfl) (by rfl) (by rfl)
  (λs e=>recFacts_of (qU3.mp e).2) (by rfl) (by first|assumption|decide +kernel)
  (by decide +kernel) ⟨rfl,rfl,rfl,rfl,rfl,by decide +kernel⟩ ?hw ?hc
 (case hw=>w_witness2)
 refine L2.walk_ofKB (l:=PySem.Challenge.rw_tokenmoor_k96_whole_bounded_by_three_roa) (n:=63) (k:=9) (x := "_law_script") (CX:=L2.CX0) (sp:=K96.spLaw) rfl (by decide) rfl ⟨rfl,by decide,by decide⟩ (λw h Y=>PySem.W.km_in_of Y) (λw h Y p hp=>by
  obtain rfl:p=((139,85,26, "leaving.<locals>.<lambda>"):PySem.Addr×Nat×Nat×PySem.Str):=by simpa [L2.lamT]using hp
  exact ⟨PySem.W.km_tabs_of Y 139 (by simp),L2.codeTab (PySem.W.codeHd_of_K (c:=141) (PySem.W.km_in_of Y) (by kernel_rfl)),by kernel_rfl,by unfold L2.lamT;rfl⟩)
  (λw mg fa h X G e=>K96.all_ ⟨h,X,G⟩ K96.law_pure e)
  (λK H a ns hl hb hO hS=>⟨a,ns,rfl,hS,hl,hb,λ_=>rfl⟩) λ_ _ _ _ z=>z
