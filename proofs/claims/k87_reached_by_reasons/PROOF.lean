import PyProof.Rows.All
import Wide.All
import OpenK.AllK
import Wide.FinOn
import Lean
import PyProof.EqAt
import PyProof.EqKinds
import PyProof.TupleCall
import PyProof.ZipIter
import PyProof.TupleIter
import PyProof.WalksMore
import PyProof.EnumMake
import PyProof.Draws
import PyProof.P3In
import KE.KSortTup
import PyProof.Rows.SortWalk
import KE.IntBitsLaws
import KE.KRevIter
import PyProof.TupleOfGen
import PySem.Challenge.RW_tokenmoor_k87_reached_by_reasons
open PySem.W (Frag)
set_option Elab.async false
set_option linter.all false
set_option compiler.extract_closed false
noncomputable section
def ox {p:Prop}(h:p:=by omega):p:=h
def ZY {p:Prop}(h:p:=by rfl):p:=h
def ZV {p:Prop}(h:p:=by trivial):p:=h
def ZU {p:Prop}(h:p:=by decide):p:=h
def ZW {p:Prop}(h:p:=by simp):p:=h
def ZK {p:Prop}(h:p:=by kernel_rfl):p:=h
def Yo {p:Prop}(h:p:=by decide +kernel):p:=h
abbrev VZ:=List (PySem.Addr×PySem.Obj)
abbrev VV:=PySem.Str->Option PySem.Value
abbrev VW:=List (Option Int)
abbrev VX:=Option Int
abbrev VY:=List PySem.Value
abbrev Zq:=List PySem.Str
abbrev Zz:=List PySem.Expr
abbrev Zj:=Array PySem.Value
abbrev Zv:=PySem.Value->PySem.Shared->Prop
abbrev Zw:=List (List Int)
abbrev Zk:=List Int
abbrev Zx:=Nat->Int
abbrev Zy:=List Nat
def qQ5:=@PySem.wpAny_pure
def qQ6:=@decide_eq_false
def qQ7:=@decide_eq_true
def qQ8:=@if_true
def qQ9:=@of_decide_eq_true
def qR0:=@if_false
def qR1:=@PySem.wpAny_field
def qR2:=@PySem.wpAny_callSpecial?_slot
def qR3:=@PySem.wpAny_newObj_type
def qR4:=@PySem.wpAny_Call_Name_kw
def qR5:=@of_decide_eq_false
def qR6:=@decide_eq_true_iff
def qR7:=@PySem.wpAny_holding
def qR8:=@PySem.wpAny_call_entry
def qR9:=@PySem.wpAny_seqItems
def qS0:=@PySem.wpAny_passesOwn
def qS1:=@PySem.wpAny_truthy_bool
def qS2:=@PySem.wpAny_rule
def qS3:=@PySem.wpAny_setField_rec
def qS4:=@or_false
def qS5:=@PySem.wpAny_pyIter_list
def qS6:=@List.mem_iff_getElem?
def qS7:=@PySem.wpAny_mono
def qS8:=@List.mem_flatMap
def qS9:=@Array.toList_setIfInBounds
def qT0:=@List.getElem?_take_eq_none
def qT1:=@List.findIdx?_eq_none_iff
def qT2:=@PySem.F.args_tuple_add_2
def qT3:=@List.pairwise_cons
def qT4:=@PySem.wpAny_pyIter_tuple
def qT5:=@Nat.succ_add_eq_add_succ
def qT6:=@PySem.F.entry_tuple_add
def qT7:=@List.length_eq_zero_iff
def qT8:=@PySem.F.plainAttrs_list
def qT9:=@PySem.sizeLine_eq
def qU0:=@PySem.F.slot_tuple_add
def qU1:=@PySem.Heap.get?_update_other
def qU2:=@beq_self_eq_true
def qU3:=@List.take_succ_eq_append_getElem
def qU4:=@List.getElem?_reverse
def qU5:=@List.Perm.append_left
def qU6:=@PySem.wpAny_execs_nil
def qU7:=@PySem.F.slot_zip_next
def qU8:=@PySem.wpAny_pyIter_revIter
def qU9:=@Nat.add_le_add_right
def qV0:=@Array.toList_extract
def qV1:=@Int.zero_add
def qV2:=@List.range_succ
def qV3:=@Int.add_zero
def qV4:=@Nat.pow_lt_pow_right
def qV5:=@beq_eq_false_iff_ne
def qV6:=@Nat.sub_le_sub_left
def qV7:=@List.replicate_succ
def qV8:=@Bool.false_and
def qW0:=@List.forIn_nil
def qW1:=@PySem.wpAny_newTuple
def qW2:=@Int.mul_nonneg
def qW3:=@Int.natAbs_pos
def qW4:=@Nat.one_mul
def qW5:=@Nat.add_mul
def qW7:=@Array.getD_eq_getD_getElem?
def qW8:=@List.length_mapIdx
def qW9:=@Nat.lt_of_le_of_ne
def qX0:=@Nat.one_le_two_pow
def qX1:=@Nat.eq_zero_or_pos
def qX3:=@List.any_cons
def qX4:=@Array.perm_iff_toList_perm
def qX5:=@List.perm_ext_iff_of_nodup
def qX6:=@Nat.mul_assoc
def qX7:=@Nat.sub_pos_of_lt
def qX8:=@List.reverse_perm
def qX9:=@Int.natAbs_add_le
def qY0:=@List.mem_or_eq_of_mem_set
def qY1:=@PySem.noFill_tuple_add
def qY2:=@PySem.wpAny_typeOf
def qY3:=@List.zipIdx_cons
def qY4:=@Array.size_setIfInBounds
def qY6:=@List.mem_reverse
def qY7:=@Array.toList_inj
def qY8:=@decide_eq_decide
def qY9:=@List.filter_cons
def qZ0:=@Nat.mul_comm
def qZ1:=@List.sublist_nil
def qZ2:=@PySem.F.slot_list_index
def qZ3:=@Nat.add_sub_cancel_left
def qZ4:=@List.of_mem_zip
def qZ6:=@List.foldl_cons
def qZ7:=@Int.mul_eq_zero
def xB2:=@List.drop_zero
def xB4:=@List.drop_drop
def xB7:=@Int.natAbs_neg
def xC8:=@Bool.or_false
def xC9:=@Bool.false_or
def xD1:=@Bool.not_true
def qA0:=@List.getD_eq_getElem?_getD
def qA1:=@PySem.wpAny_bind
def qA2:=@if_pos
def qA3:=@Bool.false_ne_true
def qA4:=@if_neg
def qA5:=@List.length_map
def qA6:=@List.getElem?_eq_some_iff
def qA7:=@List.getElem?_eq_getElem
def qA8:=@Nat.le_trans
def qA9:=@PySem.Heap.get?_push_of_some
def qB0:=@List.mem_map
def qB1:=@List.mem_cons_of_mem
def qB2:=@Nat.le_refl
def qB3:=@Nat.lt_of_lt_of_le
def qB4:=@List.getElem?_set_ne
def qB5:=@PySem.Heap.lt_size
def qB6:=@List.mem_cons
def qB7:=@List.size_toArray
def qB8:=@List.map_cons
def qB9:=@List.mem_cons_self
def qC0:=@List.mem_append
def qC1:=@List.getElem?_map
def qC2:=@PySem.PassesOwn.never
def qC3:=@List.getElem?_set
def qC4:=@List.length_append
def qC5:=@PySem.Heap.get?_push_size
def qC6:=@List.mem_singleton
def qC7:=@Nat.zero_le
def qC8:=@List.map_map
def qC9:=@Nat.not_lt_zero
def qD0:=@List.map_append
def qD1:=@List.mem_iff_getElem
def qD2:=@PySem.boot_len
def qD3:=@List.length_set
def qD4:=@List.length_cons
def qD5:=@List.any_eq_true
def qD6:=@Int.mul_assoc
def qD7:=@Nat.lt_of_le_of_lt
def qD8:=@List.mem_of_getElem?
def qD9:=@Nat.ne_of_lt
def qE0:=@List.mem_append_left
def qE1:=@List.mem_append_right
def qE2:=@Bool.false_eq_true
def qE3:=@List.not_mem_nil
def qE4:=@Nat.le_add_right
def qE5:=@Int.mul_comm
def qE6:=@Nat.add_sub_cancel'
def qE7:=@PyProof.Rows.boot_isinstance
def qE8:=@List.getElem?_append_left
def qE9:=@Array.length_toList
def qF0:=@List.pairwise_append
def qF1:=@List.length_range
def qF2:=@Nat.add_le_add_left
def qF3:=@List.drop_eq_nil_of_le
def qF4:=@Nat.lt_trichotomy
def qF5:=@Nat.lt_irrefl
def qF6:=@List.pairwise_iff_getElem
def qF7:=@List.append_assoc
def qF8:=@Option.some.injEq
def qF9:=@List.take_of_length_le
def qG0:=@List.append_nil
def qG1:=@List.length_take
def qG2:=@List.mem_range
def qG3:=@List.mem_filter
def qG4:=@Array.toList_append
def qG5:=@PyProof.Rows.callWith_type1
def qG6:=@List.length_singleton
def qG7:=@List.getElem?_replicate
def qG8:=@List.getElem?_append_right
def qG9:=@List.getElem?_drop
def qH0:=@Nat.pow_le_pow_right
def qH1:=@Bool.and_eq_true
def qH2:=@List.getElem?_eq_none
def qH3:=@Nat.mul_le_mul
def qH4:=@Bool.eq_iff_iff
def qH5:=@PySem.W.kia_one
def qH6:=@List.length_drop
def qH7:=@Nat.succ_le_succ
def qH8:=@List.all_eq_true
def qH9:=@Int.le_refl
def qI0:=@Int.natAbs_mul
def qI1:=@Int.toNat_natCast
def qI2:=@Nat.mul_le_mul_left
def qI3:=@Nat.sub_le
def qI4:=@List.length_filter_le
def qI5:=@List.getElem?_take_of_lt
def qI6:=@Nat.min_le_right
def qI7:=@List.take_length
def qI8:=@List.pairwise_map
def qI9:=@Nat.add_sub_assoc
def qJ0:=@List.filterMap_cons
def qJ1:=@PySem.mem_of_lookup
def qJ2:=@Nat.le_of_lt
def qJ3:=@List.findIdx?_eq_some_iff_getElem
def qJ4:=@Int.zero_mul
def qJ5:=@Nat.sub_lt
def qJ6:=@Nat.add_assoc
def qJ7:=@List.getElem_mem
def qJ8:=@List.ext_getElem
def qJ9:=@List.take_append_drop
def qK0:=@List.take_succ
def qK1:=@List.drop_eq_getElem_cons
def qK2:=@List.extract_eq_take_drop
def qK3:=@PyProof.Rows.slot_tuple_getitem
def qK4:=@PySem.AutoSeq1.wpAny_loadPart'
def qK5:=@List.mem_of_mem_drop
def qK6:=@Array.toList_push
def qK7:=@List.pairwise_singleton
def qK8:=@List.map_congr_left
def qK9:=@List.getElem?_set_self
def qL0:=@Int.neg_mul
def qL1:=@Nat.le_of_eq
def qL2:=@Int.emod_lt_of_pos
def qL3:=@PySem.Heap.get?_update_self
def qL4:=@Nat.min_le_left
def qL5:=@List.getElem?_zipWith
def qL6:=@Nat.add_lt_of_lt_sub'
def qL7:=@PySem.F.slot_tuple_iterator_next
def qL8:=@Bool.true_and
def qL9:=@Nat.lt_succ_of_lt
def qM0:=@Nat.le_pred_of_lt
def qM1:=@Nat.le_of_lt_succ
def qM2:=@Nat.sub_lt_left_of_lt_add
def qM3:=@Nat.mul_le_mul_right
def qM4:=@Int.mul_add
def qM5:=@List.lookup_cons
def qM6:=@Nat.lt_succ_self
def qM7:=@List.Perm.eq_of_pairwise
def qM8:=@List.Pairwise.imp_of_mem
def qM9:=@Int.mul_zero
def qN0:=@List.length_reverse
def qN1:=@List.getElem_of_mem
def qN2:=@List.getElem?_cons_succ
def qN3:=@Bool.and_self
def qN4:=@List.nodup_cons
def qN5:=@List.find?_cons
def qN6:=@List.length_nil
def qN7:=@List.forIn_cons
def qN8:=@Int.lt_or_gt_of_ne
def qN9:=@Int.emod_nonneg
def qO0:=@Int.sub_mul
def qO1:=@Int.add_mul
def qO2:=@List.reverse_cons
def qO3:=@List.ext_getElem?
def qO4:=@List.map_nil
def qO5:=@PySem.Heap.size_push
def qO6:=@Nat.add_comm
def qO7:=@Array.getElem?_toList
def qO8:=@Nat.zero_add
def qO9:=@List.cons_append
def qP0:=@Nat.pow_add
def qP1:=@PySem.Heap.SameBut.update
def qP2:=@Nat.min_eq_left
def qP3:=@List.nil_append
def qP4:=@Nat.ne_of_gt
def qP5:=@Bool.or_true
def qP6:=@Nat.add_right_comm
def qP7:=@Nat.add_zero
def qP8:=@Nat.pos_of_ne_zero
def qP9:=@List.any_eq_false
def qQ0:=@Nat.lt_of_succ_lt
def qQ1:=@Int.mul_sub
def qQ2:=@Bool.and_true
def qQ3:=@Nat.lt_of_not_le
def qQ4:=@Nat.not_le_of_lt
set_option maxRecDepth 100000
theorem Z1 (a:p)(b:q):p/\q:=⟨a,b⟩
namespace L2
open PySem PySem.Spec PyProof.Rows
def T6 (s:Stmt):Arguments:=match s with
 | .FunctionDef _ a _ _ _ _ _ _ _ _=>a
 |_=>{ posonlyargs:=[],args:=[],vararg:=none,kwonlyargs:=[],kw_defaults:=[],kwarg:=none,defaults:=[] }
def K9 (s:Stmt):List Stmt:=match s with
 | .FunctionDef _ _ b _ _ _ _ _ _ _=>b
 |_=>[]
def c6 (s:Stmt):Scope:=match s with
 | .FunctionDef _ _ _ _ _ _ sc _ _ _=>sc
 |_=>{ kind:=.function,names:=[],isGenerator:=false,isCoroutine:=false }
end L2
namespace K87
open PySem L2 PySem.W PyProof.Rows
def top (i:Nat):Stmt:=PySem.Challenge.pw_tokenmoor_k87_reached_by_reasons.main.body.getD i (.Pass ⟨0,0,0,0⟩)
abbrev hxS (s:String)(t:Nat):Value:=.str (Str.ofString s) t
abbrev hxI (i:Int):Value:=.int i 0
abbrev hxO (c:String)(d:Data):Obj:=⟨.type c,none,d,#[]⟩
abbrev hxE (P:Params)(s:String)(t:Nat)(v:Value):DictEntry:=⟨PyData.keyHash P (Str.ofString s),.str (Str.ofString s) t,v⟩
abbrev hxF (n q:String)(st:Stmt)(I kV doc pm:Value)(an:Option Addr)(cd ct:Value):Data:=.func (PySem.W.fnOf (Str.ofString n) (Str.ofString q) (T6 st) (K9 st) (c6 st) I kV doc pm an cd ct)
abbrev hxG (n:String)(i:Nat)(pm:Value)(c:Nat):Obj:=hxO "function" (hxF n n (top i) .none .none .none pm none (.ref c) .none)
abbrev hxD (n:String)(t:Nat)(l a:Int)(r8:Nat)(I:Nat)(a4 a7:Value)(a6:Nat)(a5:Int)(a3:Nat):Data:=.fields #[.str (Str.ofString n) t,.str (Str.ofString n) (t+1),.str (Str.ofString "/claim/cut.py") (t+2),hxI l,hxI a,hxI 0,hxI 0,hxI 3,.ref r8,.bool true,hxI 181,.ref I,.none,a4,a7,.ref a6,hxI a5,hxI l,.str (Str.ofString "/claim/cut.py") a3]
abbrev l4:Value:=hxS "law_tokenmoor_k87_reached_by_reasons" 576
abbrev V8:Value:=hxS "tokenmoor.backs" 310
abbrev F7:Value:=hxS "tokenmoor.balances" 369
abbrev L3:Value:=hxS "tokenmoor.bases" 264
abbrev jC:Value:=hxS "tokenmoor.climbs" 437
abbrev xR:Value:=hxS "tokenmoor.crowns" 425
abbrev V7:Value:=hxS "tokenmoor.floods" 453
abbrev V6:Value:=hxS "tokenmoor.moors" 232
abbrev O5:Value:=hxS "tokenmoor.reasons" 527
abbrev O4:Value:=hxS "tokenmoor.sets" 489
abbrev rB:Value:=hxS "tokenmoor.walks" 353
abbrev rz:Value:=hxS "tokenmoor.weights" 361
@[irreducible] noncomputable def vf:Params->Frag:=λP=>
 (nat_lit 2,⟨.none,none,(.dict #[] 0),#[]⟩) ::
 (nat_lit 3,hxO "dict" (.dict #[hxE P "__name__" 165 (hxS "law_tokenmoor_k87_reached_by_reasons" 576),hxE P "__doc__" 166 .none,hxE P "__package__" 167 .none,hxE P "__loader__" 168 (.builtin "__main__.__loader__#opaque"),hxE P "__spec__" 169 .none,hxE P "__annotations__" 170 (.ref 6),hxE P "__builtins__" 171 (.ref 4),hxE P "__file__" 173 (hxS "/claim/cut.py" 172),hxE P "__cached__" 174 .none,hxE P "MoorError" 206 (.ref 24),hxE P "Stuck" 231 (.ref 44),hxE P "covers" 243 (.ref 53),hxE P "able" 251 (.ref 60),hxE P "after" 257 (.ref 65),hxE P "change" 263 (.ref 70),hxE P "least" 274 (.ref 77),hxE P "lifted" 283 (.ref 84),hxE P "source" 289 (.ref 89),hxE P "sources" 295 (.ref 94),hxE P "step_back" 303 (.ref 101),hxE P "is_shut" 309 (.ref 106),hxE P "cover" 322 (.ref 113),hxE P "ending" 334 (.ref 120),hxE P "row_inward" 346 (.ref 127),hxE P "moves_into" 352 (.ref 132),hxE P "shifted" 360 (.ref 137),hxE P "weigh" 368 (.ref 142),hxE P "balances" 376 (.ref 147),hxE P "unit" 382 (.ref 152),hxE P "neat" 388 (.ref 157),hxE P "gathered" 399 (.ref 164),hxE P "divided" 409 (.ref 171),hxE P "upright" 415 (.ref 176),hxE P "lowered" 424 (.ref 183),hxE P "way_back" 436 (.ref 190),hxE P "way" 446 (.ref 197),hxE P "row_between" 452 (.ref 202),hxE P "flood" 468 (.ref 209),hxE P "stands_behind" 474 (.ref 214),hxE P "stands_in" 480 (.ref 219),hxE P "row_to" 488 (.ref 226),hxE P "breaks_dry" 500 (.ref 233),hxE P "touches" 506 (.ref 238),hxE P "greatest_dry" 512 (.ref 243),hxE P "greatest_wet" 520 (.ref 250),hxE P "turned" 526 (.ref 255),hxE P "reached" 540 (.ref 262),hxE P "unlike_balance" 549 (.ref 269),hxE P "kept_out" 559 (.ref 276),hxE P "empty_places" 565 (.ref 281),hxE P "walled_off" 575 (.ref 288),hxE P "_law_cell" 586 (.ref 295),hxE P "_law_move" 592 (.ref 300),hxE P "_law_one_way" 603 (.ref 307),hxE P "_law_covers" 612 (.ref 314),hxE P "_law_behind" 618 (.ref 319),hxE P "_law_drawn" 624 (.ref 324),hxE P "_law_wish" 630 (.ref 329),hxE P "_law_flood" 644 (.ref 336),hxE P "_law_weigh" 650 (.ref 341),hxE P "_law_balance" 659 (.ref 348),hxE P "_law_first_balance" 669 (.ref 355),hxE P "_law_greatest" 675 (.ref 360),hxE P "_law_lifted" 684 (.ref 367),hxE P "_law_back" 690 (.ref 372),hxE P "_law_last_ring" 703 (.ref 379),hxE P "_law_behind_balance" 709 (.ref 384),hxE P "_law_alike" 715 (.ref 389),hxE P "law" 721 (.ref 394)] 69)) ::
 (nat_lit 15,hxO "tuple" (.seq #[(.type "ValueError")] 0)) ::
 (nat_lit 22,hxO "tuple" (.seq #[] 0)) ::
 (nat_lit 23,hxO "dict" (.dict #[hxE P "__module__" 196 (hxS "tokenmoor.errors" 187),hxE P "__firstlineno__" 200 (.int 2 199),hxE P "__static_attributes__" 201 (.ref 22),hxE P "__weakref__" 203 (.ref 25),hxE P "__doc__" 204 .none] 3)) ::
 (nat_lit 25,hxO "getset_descriptor" (.fields #[(hxS "__weakref__" 202),(.ref 24),(.builtin "ExceptionGroup.__weakref__"),.none])) ::
 (nat_lit 28,hxO "tuple" (.seq #[(.ref 24)] 0)) ::
 (nat_lit 40,hxO "code" (.fields #[(hxS "__init__" 219),(hxS "Stuck.__init__" 220),(hxS "/claim/cut.py" 221),(hxI 6),(hxI 2),(hxI 0),(hxI 0),(hxI 3),(.ref 35),(.bool true),(hxI 181),(.ref 36),.none,(.ref 37),(.ref 38),(.ref 39),(hxI 224),(hxI 6),(hxS "/claim/cut.py" 225)])) ::
 (nat_lit 42,hxO "tuple" (.seq #[(hxS "at" 227)] 0)) ::
 (nat_lit 43,hxO "dict" (.dict #[hxE P "__module__" 214 (hxS "tokenmoor.errors" 187),hxE P "__firstlineno__" 218 (.int 4 217),hxE P "__init__" 226 (.ref 41),hxE P "__static_attributes__" 228 (.ref 42),hxE P "__doc__" 229 .none] 2)) ::
 (nat_lit 52,hxO "code" (hxD "covers" 234 9 2 47 48 (.ref 49) (.ref 50) 51 241 242)) ::
 (nat_lit 53,hxG "covers" 4 V6 52) ::
 (nat_lit 59,hxO "code" (hxD "able" 244 14 2 54 55 (.ref 56) (.ref 57) 58 249 250)) ::
 (nat_lit 60,hxG "able" 5 V6 59) ::
 (nat_lit 64,hxO "code" (hxD "after" 252 16 2 61 62 .none .none 63 255 256)) ::
 (nat_lit 65,hxG "after" 6 V6 64) ::
 (nat_lit 69,hxO "code" (hxD "change" 258 20 1 66 67 .none .none 68 261 262)) ::
 (nat_lit 70,hxG "change" 7 V6 69) ::
 (nat_lit 76,hxO "code" (hxD "least" 266 23 1 71 72 (.ref 73) (.ref 74) 75 272 273)) ::
 (nat_lit 77,hxG "least" 9 L3 76) ::
 (nat_lit 83,hxO "code" (hxD "lifted" 275 29 2 78 79 (.ref 80) (.ref 81) 82 281 282)) ::
 (nat_lit 84,hxG "lifted" 10 L3 83) ::
 (nat_lit 88,hxO "code" (hxD "source" 284 34 2 85 86 .none .none 87 287 288)) ::
 (nat_lit 89,hxG "source" 11 L3 88) ::
 (nat_lit 93,hxO "code" (hxD "sources" 290 36 2 90 91 .none .none 92 293 294)) ::
 (nat_lit 94,hxG "sources" 12 L3 93) ::
 (nat_lit 100,hxO "code" (hxD "step_back" 296 41 2 95 96 (.ref 97) (.ref 98) 99 301 302)) ::
 (nat_lit 101,hxG "step_back" 13 L3 100) ::
 (nat_lit 105,hxO "code" (hxD "is_shut" 304 43 2 102 103 .none .none 104 307 308)) ::
 (nat_lit 106,hxG "is_shut" 14 L3 105) ::
 (nat_lit 112,hxO "code" (hxD "cover" 312 46 3 107 108 (.ref 109) (.ref 110) 111 320 321)) ::
 (nat_lit 113,hxG "cover" 16 V8 112) ::
 (nat_lit 119,hxO "code" (hxD "ending" 323 54 4 114 115 (.ref 116) (.ref 117) 118 332 333)) ::
 (nat_lit 120,hxG "ending" 17 V8 119) ::
 (nat_lit 126,hxO "code" (hxD "row_inward" 335 64 2 121 122 (.ref 123) (.ref 124) 125 344 345)) ::
 (nat_lit 127,hxG "row_inward" 18 V8 126) ::
 (nat_lit 131,hxO "code" (hxD "moves_into" 347 72 3 128 129 .none .none 130 350 351)) ::
 (nat_lit 132,hxG "moves_into" 19 V8 131) ::
 (nat_lit 136,hxO "code" (hxD "shifted" 355 75 3 133 134 .none .none 135 358 359)) ::
 (nat_lit 137,hxG "shifted" 21 rB 136) ::
 (nat_lit 141,hxO "code" (hxD "weigh" 363 78 2 138 139 .none .none 140 366 367)) ::
 (nat_lit 142,hxG "weigh" 23 rz 141) ::
 (nat_lit 146,hxO "code" (hxD "balances" 371 81 2 143 144 .none .none 145 374 375)) ::
 (nat_lit 147,hxG "balances" 25 F7 146) ::
 (nat_lit 151,hxO "code" (hxD "unit" 377 88 2 148 149 .none .none 150 380 381)) ::
 (nat_lit 152,hxG "unit" 26 F7 151) ::
 (nat_lit 156,hxO "code" (hxD "neat" 383 90 1 153 154 .none .none 155 386 387)) ::
 (nat_lit 157,hxG "neat" 27 F7 156) ::
 (nat_lit 163,hxO "code" (hxD "gathered" 389 102 2 158 159 (.ref 160) (.ref 161) 162 397 398)) ::
 (nat_lit 164,hxG "gathered" 28 F7 163) ::
 (nat_lit 170,hxO "code" (hxD "divided" 400 108 3 165 166 (.ref 167) (.ref 168) 169 407 408)) ::
 (nat_lit 171,hxG "divided" 29 F7 170) ::
 (nat_lit 175,hxO "code" (hxD "upright" 410 114 2 172 173 .none .none 174 413 414)) ::
 (nat_lit 176,hxG "upright" 30 F7 175) ::
 (nat_lit 182,hxO "code" (hxD "lowered" 416 116 3 177 178 (.ref 179) (.ref 180) 181 422 423)) ::
 (nat_lit 183,hxG "lowered" 31 F7 182) ::
 (nat_lit 189,hxO "code" (hxD "way_back" 427 119 2 184 185 (.ref 186) (.ref 187) 188 434 435)) ::
 (nat_lit 190,hxG "way_back" 33 xR 189) ::
 (nat_lit 196,hxO "code" (hxD "way" 439 127 2 191 192 (.ref 193) (.ref 194) 195 444 445)) ::
 (nat_lit 197,hxG "way" 35 jC 196) ::
 (nat_lit 201,hxO "code" (hxD "row_between" 447 129 3 198 199 .none .none 200 450 451)) ::
 (nat_lit 202,hxG "row_between" 36 jC 201) ::
 (nat_lit 208,hxO "code" (hxD "flood" 455 133 2 203 204 (.ref 205) (.ref 206) 207 466 467)) ::
 (nat_lit 209,hxG "flood" 38 V7 208) ::
 (nat_lit 213,hxO "code" (hxD "stands_behind" 469 148 2 210 211 .none .none 212 472 473)) ::
 (nat_lit 214,hxG "stands_behind" 39 V7 213) ::
 (nat_lit 218,hxO "code" (hxD "stands_in" 475 150 1 215 216 .none .none 217 478 479)) ::
 (nat_lit 219,hxG "stands_in" 40 V7 218) ::
 (nat_lit 225,hxO "code" (hxD "row_to" 481 152 2 220 221 (.ref 222) (.ref 223) 224 486 487)) ::
 (nat_lit 226,hxG "row_to" 41 V7 225) ::
 (nat_lit 232,hxO "code" (hxD "breaks_dry" 491 155 2 227 228 (.ref 229) (.ref 230) 231 498 499)) ::
 (nat_lit 233,hxG "breaks_dry" 43 O4 232) ::
 (nat_lit 237,hxO "code" (hxD "touches" 501 160 2 234 235 .none .none 236 504 505)) ::
 (nat_lit 238,hxG "touches" 44 O4 237) ::
 (nat_lit 242,hxO "code" (hxD "greatest_dry" 507 162 2 239 240 .none .none 241 510 511)) ::
 (nat_lit 243,hxG "greatest_dry" 45 O4 242) ::
 (nat_lit 249,hxO "code" (hxD "greatest_wet" 513 169 2 244 245 (.ref 246) (.ref 247) 248 518 519)) ::
 (nat_lit 250,hxG "greatest_wet" 46 O4 249) ::
 (nat_lit 254,hxO "code" (hxD "turned" 521 171 1 251 252 .none .none 253 524 525)) ::
 (nat_lit 255,hxG "turned" 47 O4 254) ::
 (nat_lit 261,hxO "code" (hxD "reached" 529 174 3 256 257 (.ref 258) (.ref 259) 260 538 539)) ::
 (nat_lit 262,hxG "reached" 49 O5 261) ::
 (nat_lit 268,hxO "code" (hxD "unlike_balance" 541 187 2 263 264 (.ref 265) (.ref 266) 267 547 548)) ::
 (nat_lit 269,hxG "unlike_balance" 50 O5 268) ::
 (nat_lit 275,hxO "code" (hxD "kept_out" 550 192 2 270 271 (.ref 272) (.ref 273) 274 557 558)) ::
 (nat_lit 276,hxG "kept_out" 51 O5 275) ::
 (nat_lit 280,hxO "code" (hxD "empty_places" 560 200 1 277 278 .none .none 279 563 564)) ::
 (nat_lit 281,hxG "empty_places" 52 O5 280) ::
 (nat_lit 287,hxO "code" (hxD "walled_off" 566 202 3 282 283 (.ref 284) (.ref 285) 286 573 574)) ::
 (nat_lit 288,hxG "walled_off" 53 O5 287) ::
 (nat_lit 294,hxO "code" (hxD "_law_cell" 578 206 2 289 290 (.ref 291) (.ref 292) 293 584 585)) ::
 (nat_lit 295,hxG "_law_cell" 55 l4 294) ::
 (nat_lit 299,hxO "code" (hxD "_law_move" 587 213 5 296 297 .none .none 298 590 591)) ::
 (nat_lit 300,hxG "_law_move" 56 l4 299) ::
 (nat_lit 306,hxO "code" (hxD "_law_one_way" 593 226 3 301 302 (.ref 303) (.ref 304) 305 601 602)) ::
 (nat_lit 307,hxG "_law_one_way" 57 l4 306) ::
 (nat_lit 313,hxO "code" (hxD "_law_covers" 604 237 2 308 309 (.ref 310) (.ref 311) 312 610 611)) ::
 (nat_lit 314,hxG "_law_covers" 58 l4 313) ::
 (nat_lit 318,hxO "code" (hxD "_law_behind" 613 242 2 315 316 .none .none 317 616 617)) ::
 (nat_lit 319,hxG "_law_behind" 59 l4 318) ::
 (nat_lit 323,hxO "code" (hxD "_law_drawn" 619 244 3 320 321 .none .none 322 622 623)) ::
 (nat_lit 324,hxG "_law_drawn" 60 l4 323) ::
 (nat_lit 328,hxO "code" (hxD "_law_wish" 625 251 4 325 326 .none .none 327 628 629)) ::
 (nat_lit 329,hxG "_law_wish" 61 l4 328) ::
 (nat_lit 335,hxO "code" (hxD "_law_flood" 631 264 3 330 331 (.ref 332) (.ref 333) 334 642 643)) ::
 (nat_lit 336,hxG "_law_flood" 62 l4 335) ::
 (nat_lit 340,hxO "code" (hxD "_law_weigh" 645 279 2 337 338 .none .none 339 648 649)) ::
 (nat_lit 341,hxG "_law_weigh" 63 l4 340) ::
 (nat_lit 347,hxO "code" (hxD "_law_balance" 651 281 2 342 343 (.ref 344) (.ref 345) 346 657 658)) ::
 (nat_lit 348,hxG "_law_balance" 64 l4 347) ::
 (nat_lit 354,hxO "code" (hxD "_law_first_balance" 660 286 3 349 350 (.ref 351) (.ref 352) 353 667 668)) ::
 (nat_lit 355,hxG "_law_first_balance" 65 l4 354) ::
 (nat_lit 359,hxO "code" (hxD "_law_greatest" 670 291 3 356 357 .none .none 358 673 674)) ::
 (nat_lit 360,hxG "_law_greatest" 66 l4 359) ::
 (nat_lit 366,hxO "code" (hxD "_law_lifted" 676 305 2 361 362 (.ref 363) (.ref 364) 365 682 683)) ::
 (nat_lit 367,hxG "_law_lifted" 67 l4 366) ::
 (nat_lit 371,hxO "code" (hxD "_law_back" 685 310 2 368 369 .none .none 370 688 689)) ::
 (nat_lit 372,hxG "_law_back" 68 l4 371) ::
 (nat_lit 378,hxO "code" (hxD "_law_last_ring" 691 318 4 373 374 (.ref 375) (.ref 376) 377 701 702)) ::
 (nat_lit 379,hxG "_law_last_ring" 69 l4 378) ::
 (nat_lit 383,hxO "code" (hxD "_law_behind_balance" 704 328 4 380 381 .none .none 382 707 708)) ::
 (nat_lit 384,hxG "_law_behind_balance" 70 l4 383) ::
 (nat_lit 388,hxO "code" (hxD "_law_alike" 710 339 2 385 386 .none .none 387 713 714)) ::
 (nat_lit 389,hxG "_law_alike" 71 l4 388) ::
 (nat_lit 393,hxO "code" (hxD "law" 716 349 1 390 391 .none .none 392 719 720)) ::
 (nat_lit 394,hxG "law" 72 l4 393) ::
 []
def hxas:List Addr:=[2,3,15,22,23,25,28,40,42,43,52,53,59,60,64,65,69,70,76,77,83,84,88,89,93,94,100,101,105,106,112,113,119,120,126,127,131,132,136,137,141,142,146,147,151,152,156,157,163,164,170,171,175,176,182,183,189,190,196,197,201,202,208,209,213,214,218,219,225,226,232,233,237,238,242,243,249,250,254,255,261,262,268,269,275,276,280,281,287,288,294,295,299,300,306,307,313,314,318,319,323,324,328,329,335,336,340,341,347,348,354,355,359,360,366,367,371,372,378,379,383,384,388,389,393,394]
def view:Program:={ PySem.Challenge.pw_tokenmoor_k87_reached_by_reasons with main:={ PySem.Challenge.pw_tokenmoor_k87_reached_by_reasons.main with body:=[1,2,4,5,6,7,9,10,11,12,13,14,16,17,18,19,21,23,25,26,27,28,29,30,31,33,35,36,38,39,40,41,43,44,45,46,47,49,50,51,52,53,55,56,57,58,59,60,61,62,63,64,65,66,67,68,69,70,71,72].map top } }
def hook:PySem.W.Hook:=PySem.W.kHook vf hxas (λ_=>by kernel_rfl)
def pr {o:Option α}{A:α->β}{B:α->γ}(h:o.map A=some a)(k:o.map B=some b):o.map (λs=>(A s,B s))=some (a,b):=by cases o<;>cases h;cases k;rfl
theorem ha (w:World):(openEnds treeTable PySem.Challenge.rw_tokenmoor_k87_reached_by_reasons.prog w 4590).map (λs=>openSeen view [] (importedModules PySem.Challenge.rw_tokenmoor_k87_reached_by_reasons.prog.main.body) (λs=>xlAt view [] s&&recOk [] s) true s)=some (openGood view []):=by kernel_rfl
theorem hb (w:World):(openEnds treeTable PySem.Challenge.rw_tokenmoor_k87_reached_by_reasons.prog w 4590).map hook.obs=some (hook.val w):=by kernel_rfl
theorem hl0:LeftO PySem.Challenge.rw_tokenmoor_k87_reached_by_reasons.prog view [] (λs=>xlAt view [] s&&recOk [] s) hook.obs hook.val 4590:=λw=>pr (ha w) (hb w)
end K87
local macro_rules | `(tactic| omega)=>`(tactic| first | with_reducible assumption | decide | lia)
local macro_rules | `(tactic| show $e)=>`(tactic| exact $e)
set_option genSizeOf false
set_option genSizeOfSpec false
namespace L2
open PySem PySem.Spec PyProof.Rows
abbrev Key:=Sum Int Str
def eY:Key->Value->Bool
 | .inl k,v=>Value.isInt k v
 | .inr x,v=>Value.isStrOf x v
def keyH (w:World):Key->Int
 | .inl k=>hashInt k
 | .inr x=>hashStr w x
def B3:∀{k:Key}{v:Value},eY k v=true->(∃i t,k=Sum.inl i/\v=Value.int i t)\/(∃x t,k=Sum.inr x/\v=Value.str x t)
 | .inl i,v,h=>by
  obtain ⟨t,e⟩:=Value.isInt_shape (k:=i) (v:=v) h;show .inl ⟨i,t,rfl,e⟩
 | .inr x,v,h=>by
  obtain ⟨t,e⟩:=Value.isStrOf_shape (x:=x) (v:=v) h;show .inr ⟨x,t,rfl,e⟩
def uT (i:Int)(t:Tok):eY (.inl i) (.int i t)=true:=by simp [eY,Value.isInt]
def uS (x:Str)(t:Tok):eY (.inr x) (.str x t)=true:=by simp [eY,Value.isStrOf]
def Gh (a b:Int):decide ((Sum.inl a:Key)=Sum.inl b)=(a == b):=by
 by_cases e:a=b
 .subst e;simp
 .have h:¬ (Sum.inl a:Key)=Sum.inl b:=λq=>e (Sum.inl.inj q);rw[qQ6 h];show (qV5.mpr e).symm
def Ge (a b:Str):decide ((Sum.inr a:Key)=Sum.inr b)=decide (a=b):=by
 by_cases e:a=b
 .subst e;simp
 .have h:¬ (Sum.inr a:Key)=Sum.inr b:=λq=>e (Sum.inr.inj q);rw[qQ6 h,qQ6 e]
def Gg (a:Int)(b:Str):decide ((Sum.inl a:Key)=Sum.inr b)=false:=qQ6 (λq=>nomatch q)
def Gf (a:Str)(b:Int):decide ((Sum.inr a:Key)=Sum.inl b)=false:=qQ6 (λq=>nomatch q)
def A8 (prog:Program)(w:World):PySem.KeyKind prog w Key where
 is:=eY
 hash:=keyH w
 inj:=λv a b ha hb=>by
  rcases B3 ha with ⟨i,t,rfl,rfl⟩|⟨x,t,rfl,rfl⟩
  .rcases B3 hb with ⟨j,u,rfl,e⟩|⟨y,u,rfl,e⟩
   .injection e with e1 _;rw[e1]
   .show nomatch e
  .rcases B3 hb with ⟨j,u,rfl,e⟩|⟨y,u,rfl,e⟩
   .show nomatch e
   .injection e with e1 _;rw[e1]
 byValue:=λk v h=>by
  rcases B3 h with ⟨i,t,rfl,rfl⟩|⟨x,t,rfl,rfl⟩ <;> rfl
 pyHash:=λI h=>by
  rcases B3 I with ⟨i,t,rfl,rfl⟩|⟨x,t,rfl,rfl⟩
  .show wpAny_pyHash_int h
  .show wpAny_pyHash_str h
 eqBool:=λhu I h=>by
  rcases B3 hu with ⟨i,t,rfl,rfl⟩|⟨x,t,rfl,rfl⟩
  .rcases B3 I with ⟨j,u,rfl,rfl⟩|⟨y,u,rfl,rfl⟩
   .rw[Gh]at h;show wpAny_eqBool_int h
   .rw[Gg]at h;show SeqAt.EqAt.int_str i t y u _ _ _ _ h
  .rcases B3 I with ⟨j,u,rfl,rfl⟩|⟨y,u,rfl,rfl⟩
   .rw[Gf]at h;show SeqAt.EqAt.str_int x t j u _ _ _ _ h
   .rw[Ge]at h;show wpAny_eqBool_str h
 «strs»:=λk x t v h=>by
  rcases B3 h with ⟨i,u,rfl,e⟩|⟨y,u,rfl,e⟩
  .show nomatch e
  .injection e with e1 _
   subst e1;cases v <;> rfl
def oE (prog:Program)(w:World)(i:Int)(t:Tok):(A8 prog w).is (.inl i) (.int i t)=true:=uT i t
def oD (prog:Program)(w:World)(x:Str)(t:Tok):(A8 prog w).is (.inr x) (.str x t)=true:=uS x t
inductive V where
 |non|bl (b:Bool)|int (i:Int)|str (x:Str)|byt (b:Array UInt8)|flt (b:UInt64)|ref (a:Addr)|ty (n:String)
 deriving DecidableEq
def RelV:V->Value->Prop
 | .non,u=>u=Value.none
 | .bl b,u=>u=Value.bool b
 | .int i,u=>∃t,u=Value.int i t
 | .str x,u=>∃t,u=Value.str x t
 | .byt b,u=>∃t,u=Value.bytes b t
 | .flt b,u=>∃t,u=Value.float b t
 | .ref a,u=>u=Value.ref a
 | .ty n,u=>u=Value.type n
abbrev Vals:List V->List Value->Prop:=Paired RelV
def Vals.length (r:Vals xs us):xs.length=us.length:=Paired.length r
def Vals.get:∀{xs:List V}{us:VY}{i:Nat}{x:V},Vals xs us->xs[i]?=some x->∃u,us[i]?=some u/\RelV x u:=by
 intro xs us i x a
 induction a generalizing i with
 |nil=>intro e;cases e
 | cons r t I=>
  intro e;cases i with
  |zero=>cases e;show ⟨_,rfl,r⟩
  |succ i=>show I e
def Vals.set (r:RelV x u):∀{xs:List V}{us:VY}(i:Nat),Vals xs us->Vals (xs.set i x) (us.set i u):=by
 intro xs us i h
 induction h generalizing i with
 |nil=>show .nil
 | cons q t I=>
  cases i with
  |zero=>show .cons r t
  |succ i=>show .cons q (I i)
def Vals.append:∀{xs ys:List V}{us ws:VY},Vals xs us->Vals ys ws->Vals (xs++ys) (us++ws):=by
 intro xs ys us ws a s
 induction a with
 |nil=>show s
 |cons r t I=>show .cons r I
def Vals.take:∀{xs:List V}{us:VY}(n:Nat),Vals xs us->Vals (xs.take n) (us.take n):=by
 intro xs us n h
 induction h generalizing n with
 |nil=>cases n <;> show .nil
 | cons r t I=>
  cases n with
  |zero=>show .nil
  |succ n=>show .cons r (I n)
def Vals.drop:∀{xs:List V}{us:VY}(n:Nat),Vals xs us->Vals (xs.drop n) (us.drop n)
 |_,_,0,r=>r
 |_,_,_+1,.nil=>.nil
 |_,_,n+1,.cons _ t=>Vals.drop n t
def RelO:Option V->Option Value->Prop
 |some v,some u=>RelV v u
 |none,none=>True
 |_,_=>False
def KV {κ:Type}:List (κ×V)->List (κ×Value)->Prop:=Paired λ(p:κ×V)(q:κ×Value)=>p.1=q.1/\RelV p.2 q.2
def kV:Key->V
 | .inl i=>.int i
 | .inr x=>.str x
inductive HO where
 |lst (xs:List V)
 |tup (xs:List V)
 |dK (kvs:List (Key×V))|dT (kvs:List (List Key×V))
 |set (S:Int->Bool) (n:Nat)
 |ins (C dx:Addr) (fs:List (Str×V))
 |own (x:Addr)
 |xd (fs:List (Str×V))
 |met (f x:Addr)
 |rng (lo hi:Int)
 |frz (o:Obj) (u:HO)
 |tbl (ps:Zj)
 |ext (φ:Heap->Prop)
abbrev Hp:=Addr->Option HO
def upd (H:Hp)(a:Addr)(o:HO):Hp:=λb=>if b=a then some o else H b
def j6:upd H a o a=some o:=by unfold upd;rw[qA2 rfl]
def d8 (h:b≠a):upd H a o b=H b:=by unfold upd;rw[qA4 h]
def Lc:=@Option.some.inj
def zj {H:Hp}(h:H a=some o)(h':H b=some u)(d:o≠u):a≠b:=by
 intro e;subst e;rw[h]at h';show d (Lc h')
def e9 {H:Hp}(h:H a=some o)(h':H b=none):a≠b:=by
 intro e;subst e;rw[h]at h';cases h'
section
variable (P:Program)(w:World)
def ObjOk (H:Hp)(h:Heap)(a:Addr):HO->Prop
 | .lst xs=>xs.length<=sizeLine/\∃(its:VY) (n:Nat),Vals xs its/\h.get? a=some { cls:=.type "list",data:=.seq its.toArray n }
 | .tup xs=>xs.length<=sizeLine/\∃its:List Value,Vals xs its/\IsTup h a its.toArray
 | .dK kvs=>kvs.length<=sizeLine/\(a == sysModules)=false/\∃vs,KV kvs vs/\h.DictOf (A8 P w) a vs
 | .dT kvs=>kvs.length<=sizeLine/\(a == sysModules)=false/\∃xs:List (List Key×Addr×Value),
   Paired (λ(p:List Key×V) (q:List Key×Addr×Value)=>p.1=q.1/\H q.2.1=some (.tup (p.1.map kV))/\RelV p.2 q.2.2) kvs xs /\
   ∃o es ep,h.get? a=some o/\o.ExactDict/\o.data=.dict es ep/\es.toList=xs.map (entryOfKey (tupleKind (A8 P w)))/\(xs.map (·.1)).Nodup
 | .set S n=>h.SetOf (intKind P w) a S n
 | .ins C dx fs=>H dx=some (.own a)/\fs.length<=1000/\dx≠a/\h.get? a=some (PySem.W.instObj C dx) /\
   ∃mA,h.Ns1 dx mA/\(∀f,RelO (fs.lookup f) (mA f))/\PySem.Within mA (fs.map (·.1))
 | .own _=>∃o,h.get? a=some o
 | .xd fs=>∃mA,h.Ns1 a mA/\∀f,RelO (fs.lookup f) (mA f)
 | .rng lo hi=>∃t u v,h.get? a=some { cls:=.type "range",data:=.fields #[.int lo t,.int hi u,.int 1 v] }
 | .frz o u=>h.get? a=some o/\ObjOk H h a u
 | .tbl ps=>h.get? a=some { cls:=.none,data:=.fields ps }
 | .met f x=>h.get? a=some (PySem.W.methodObj (.ref f) (.ref x))
 | .ext φ=>φ h/\(∃o,h.get? a=some o)/\∀h1 I:Heap,φ h1->(∀o,h1.get? a=some o->I.get? a=some o)->φ I
def HOk (H:Hp)(h:Heap):Prop:=∀a o,H a=some o->ObjOk P w H h a o
end
def ObjOk.lt (x:ObjOk P w H h a o):a<h.objs.size:=by
 cases o with
 |lst xs=>obtain ⟨_,_,_,_,e⟩:=x;show qB5 e
 |tup xs=>obtain ⟨_,_,_,p⟩:=x;show p.lt
 |dK kvs=>obtain ⟨_,_,_,_,o,_,_,e,_⟩:=x;show qB5 e
 |dT kvs=>obtain ⟨_,_,_,_,o,_,_,e,_⟩:=x;show qB5 e
 |set S n=>obtain ⟨o,_,_,_,e,_⟩:=x;show qB5 e
 |ins C dx fs=>obtain ⟨_,_,_,e,_⟩:=x;show qB5 e
 |own y=>obtain ⟨_,e⟩:=x;show qB5 e
 |xd fs=>obtain ⟨_,⟨_,_,_,e,_⟩,_⟩:=x;show qB5 e
 |rng lo hi=>obtain ⟨_,_,_,e⟩:=x;show qB5 e
 |frz ob u=>obtain ⟨e,_⟩:=x;show qB5 e
 |tbl ps=>show qB5 (show h.get? a=some _ from x)
 |met f y=>show qB5 (show h.get? a=some _ from x)
 |ext φ=>obtain ⟨_,⟨_,e⟩,_⟩:=x;show qB5 e
def Paired.mapP:∀{I:List α}{a3:List β},Paired F I a3->(∀a b,F a b->G a b)->Paired G I a3:=by
 intro I a3 h f
 induction h with
 |nil=>show .nil
 |cons r t ih=>show .cons (f _ _ r) ih
def ObjOk.stay (x:ObjOk P w H h a o)(k:∀b u,(b=a\/H b=some (.own a))->h.get? b=some u->h'.get? b=some u)(ho:∀b,H b=some (.own a)->H' b=some (.own a))(ht:∀b xs,H b=some (.tup xs)->H' b=some (.tup xs)):ObjOk P w H' h' a o:=by
 induction o with
 |lst xs=>obtain ⟨z,its,n,r,e⟩:=x;show ⟨z,its,n,r,k _ _ (.inl rfl) e⟩
 |tup xs=>obtain ⟨z,its,r,ob,e,c⟩:=x;show ⟨z,its,r,ob,k _ _ (.inl rfl) e,c⟩
 |dK kvs=>obtain ⟨z,y,vs,r,ob,es,I,e,c⟩:=x;show ⟨z,y,vs,r,ob,es,I,k _ _ (.inl rfl) e,c⟩
 | dT kvs=>
  obtain ⟨z,y,xs,r,ob,es,I,e,c⟩:=x;show ⟨z,y,xs,Paired.mapP r λp q z=>⟨z.1,ht _ _ z.2.1,z.2.2⟩,ob,es,I,k _ _ (.inl rfl) e,c⟩
 |set S n=>obtain ⟨ob,es,I,t,e,c⟩:=x;show ⟨ob,es,I,t,k _ _ (.inl rfl) e,c⟩
 | ins C dx fs=>
  obtain ⟨d,z,ne,e,mA,⟨od,es,I,e2,c⟩,r⟩:=x;show ⟨ho _ d,z,ne,k _ _ (.inl rfl) e,mA,⟨od,es,I,k _ _ (.inr d) e2,c⟩,r⟩
 |own y=>obtain ⟨ob,e⟩:=x;show ⟨ob,k _ _ (.inl rfl) e⟩
 |xd fs=>obtain ⟨mA,⟨od,es,I,e,c⟩,r⟩:=x;show ⟨mA,⟨od,es,I,k _ _ (.inl rfl) e,c⟩,r⟩
 |rng lo hi=>obtain ⟨t,u,v,e⟩:=x;show ⟨t,u,v,k _ _ (.inl rfl) e⟩
 |frz ob u ih=>obtain ⟨e,q⟩:=x;show ⟨k _ _ (.inl rfl) e,ih q⟩
 | tbl ps=>
  have e:h.get? a=some { cls:=.none,data:=.fields ps }:=x
  change h'.get? a=some { cls:=.none,data:=.fields ps };show k a _ (.inl rfl) e
 | met f y=>
  have e:h.get? a=some (PySem.W.methodObj (.ref f) (.ref y)):=x
  change h'.get? a=some (PySem.W.methodObj (.ref f) (.ref y));show k a _ (.inl rfl) e
 |ext φ=>obtain ⟨p,⟨o,e⟩,st⟩:=x;show ⟨st _ _ p λo q=>k _ _ (.inl rfl) q,⟨o,k _ _ (.inl rfl) e⟩,st⟩
def HOk.lt (x:HOk P w H h)(e:H a=some o):a<h.objs.size:=(x a o e).lt
def HOk.fresh {a:Addr}(x:HOk P w H h)(e:h.objs.size<=a):H a=none:=by
 cases q:H a with
 |none=>rfl
 |some u=>show absurd (qB3 (x.lt q) e) (qF5 _)
def HOk.kept (x:HOk P w H h)(k:∀b u,h.get? b=some u->h'.get? b=some u):HOk P w H h':=λa o e=>
 (x a o e).stay (λb u _ q=>k b u q) (λ_ q=>q) λ_ _ q=>q
def HOk.laid {a:Addr}(x:HOk P w H h)(k:∀b u,h.get? b=some u->h'.get? b=some u)(hp:h.objs.size<=a)(I:ObjOk P w (upd H a o) h' a o):HOk P w (upd H a o) h':=λb u e=>by
 have hn:=x.fresh hp;by_cases hb:b=a
 .subst hb;rw[j6]at e;cases e;show I
 .rw [d8 hb]at e
  show (x b u e).stay (λc v _ q=>k c v q) (λc q=>by rw[d8 (e9 q hn)];show q) λc xs q=>by rw[d8 (e9 q hn)];show q
def Rd (H:Hp)(a:Addr)(u:HO):Prop:=H a=some u\/∃o,H a=some (.frz o u)
def Rd.ok (r:Rd H a u)(x:HOk P w H h):ObjOk P w H h a u:=by
 rcases r with r|⟨o,r⟩
 .show x a u r
 .obtain ⟨_,q⟩:=x a _ r;show q
def Mut:Option HO->Prop
 |some (.lst _)=>True
 |some (.dK _)=>True
 |some (.dT _)=>True
 |some (.set _ _)=>True
 |some (.ins _ _ _)=>True
 |some (.ext _)=>True
 |_=>False
def HOk.write (ok:HOk P w H h)(mu:Mut (H x))(he:e=x\/H e=some (.own x))(k:∀b u,b≠e->h.get? b=some u->h'.get? b=some u)(a5:∃u,h'.get? e=some u)(a6:ObjOk P w (upd H x o') h' x o'):HOk P w (upd H x o') h':=λb u q=>by
 have a3:∀c y,H c=some (.own y)->c≠x:=λc y r z=>by subst z;rw[r]at mu;show mu
 have a4:∀c xs,H c=some (.tup xs)->c≠x:=λc xs r z=>by subst z;rw[r]at mu;show mu
 by_cases hb:b=x
 .subst hb;rw[j6]at q;cases q;show a6
 .rw [d8 hb]at q
  by_cases I:b=e
  .have q':H b=some (.own x):=by
    rcases he with z|z
    .show absurd (I.trans z) hb
    .rw[I];show z
   rw[q]at q';cases q';obtain ⟨v,hv⟩:=a5;show ⟨v,by rw[I];show hv⟩
  .refine (ok b u q).stay (λc v hc r=>k c v ?_ r) (λc r=>by rw[d8 (a3 c b r)];show r) λc xs r=>by rw[d8 (a4 c xs r)];show r
   rcases hc with rfl|hc
   .show I
   .rintro rfl;rcases he with z|z
    .show a3 c b hc z
    .rw[hc]at z;cases z;show hb rfl
structure Un (fs ex:List Addr) (H H':Hp) (h h':Heap):Prop where
 keep:∀b o,h.get? b=some o->H b=none->b∉fs->b∉ex->h'.get? b=some o
 slot:∀b o,h.get? b=some o->H b=none->b∈fs->b∉ex->∃sl,h'.get? b=some { o with slots:=sl }
 free:∀b o,h.get? b=some o->H b=none->b∉ex->H' b=none
 there:∀b o,h.get? b=some o->b∉ex->∃o',h'.get? b=some o'
 tups:∀b xs,H b=some (.tup xs)->H' b=some (.tup xs)
 frzs:∀b o u,H b=some (.frz o u)->H' b=some (.frz o u)
 tbls:∀b ps,H b=some (.tbl ps)->∃more,H' b=some (.tbl (ps++more))
def Un.any (u:Un fs ex H H1 h h1)(q:h.get? b=some ob)(n:H b=none)(I:b∉ex):∃sl,h1.get? b=some { ob with slots:=sl }:=by
 by_cases hb:b∈fs
 .show u.slot b ob q n hb I
 .show ⟨ob.slots,u.keep b ob q n hb I⟩
def Un.kept (k:∀b u,h.get? b=some u->h'.get? b=some u):Un fs ex H H h h':=
 ⟨λb ob q _ _ _=>k b ob q,λb ob q _ _ _=>⟨ob.slots,k b ob q⟩,λ_ _ _ n _=>n,λb ob q _=>⟨ob,k b ob q⟩,λ_ _ q=>q,λ_ _ _ q=>q,λ_ ps q=>⟨#[],by rw[q];simp⟩⟩
def Un.refl:Un fs ex H H h h:=Un.kept λ_ _ q=>q
def Un.laid (k:∀b u,h.get? b=some u->h'.get? b=some u)(I:h.objs.size<=a)(hn:H a=none):Un fs ex H (upd H a o) h h' where
 keep:=λb u q _ _ _=>k b u q
 slot:=λb u q _ _ _=>⟨u.slots,k b u q⟩
 free:=λb u q n _=>by rw[d8 (qD9 (qB3 (qB5 q) I))];show n
 there:=λb u q _=>⟨u,k b u q⟩
 tups:=λb xs q=>by rw[d8 (e9 q hn)];show q
 frzs:=λb u xs q=>by rw[d8 (e9 q hn)];show q
 tbls:=λb ps q=>⟨#[],by rw[d8 (e9 q hn),q];simp⟩
def Un.write (mu:Mut (H x))(he:e=x\/H e=some (.own x))(k:∀b u,b≠e->h.get? b=some u->h'.get? b=some u)(a3:∃u,h'.get? e=some u):Un fs ex H (upd H x o) h h':=by
 have hx:∀b,H b=none->b≠x:=λb n z=>by subst z;rw[n]at mu;show mu
 have hb:∀b,H b=none->b≠e:=λb n z=>by
  subst z;rcases he with r|r
  .show hx b n r
  .rw[n]at r;cases r
 have hm:∀b u,H b=some u->¬ Mut (some u)->b≠x:=λb u q nm z=>by subst z;rw[q]at mu;show nm mu
 refine ⟨λb u q n _ _=>k b u (hb b n) q,λb u q n _ _=>⟨u.slots,k b u (hb b n) q⟩,λb u q n _=>by rw[d8 (hx b n)];show n,λb u q _=>?_,
  λb xs q=>by rw[d8 (hm b _ q λz=>z)];show q,λb u xs q=>by rw[d8 (hm b _ q λz=>z)];show q,λb ps q=>⟨#[],by rw[d8 (hm b _ q λz=>z),q];simp⟩⟩
 by_cases I:b=e
 .subst I;show a3
 .show ⟨u,k b u I q⟩
def trk (h:Heap)(H:Hp):List Addr:=(List.range h.objs.size).filter λa=>(H a).isSome
def cD (h:Heap)(H:Hp):Heap:=PySem.W.hideAll h (trk h H)
def vg (h:Heap)(H:Hp):(cD h H).objs.size=h.objs.size:=PySem.W.hideAll_size _ _
def xT (e:h.get? b=some o)(n:H b=none):(cD h H).get? b=some o:=
 PySem.W.hideAll_get _ e λhm=>by
  have q:(H b).isSome=true:=(qG3.mp hm).2;rw[n]at q;simp at q
def Bj (e:(cD h H).get? b=some o):h.get? b=some o/\H b=none:=by
 have I:h.get? b=some o:=PySem.W.of_hideAll (trk h H) e;refine ⟨I,?_⟩;cases q:H b with
 |none=>rfl
 | some x=>
  have hm:b∈trk h H:=qG3.mpr ⟨qG2.mpr (qB5 I),by simp [q]⟩;have z:(cD h H).get? b=none:=PySem.W.hideAll_none (trk h H) hm;rw[z]at e;cases e
def De (g h:Heap)(L:Addr):List (Addr×Obj):=(List.range h.objs.size).filterMap λa=>if a=L\/(g.get? a).isSome=true then none else (h.get? a).map λo=>(a,o)
def rest (g h:Heap)(L d:Addr):List (Addr×Obj):=(De g h L).filter λp=>decide (p.1≠d)
structure Mod (K:Frag) (mg:VV) (base:Heap):Prop where
 kin:K.In base
 glob:base.Ns mainGlobals mg
 blt:∃mb,base.Ns builtinsNs mb/\∀x:Str,x ≠ "__name__" -> mb x=bootBuiltins x
 nolimit:base.NoLimit
structure Cx where
 prog:Program
 w:World
 K:Frag
 mg:Str->Option Value
 base:Heap
 A:Around
 N:List Str
 s₀:Shared
 H₀:Hp
 env:Env
 outer:List Env
 stack:List Env
 ex:List Addr
 fn:Str->Bool
 calm:Bool
 pn:List (Addr×Obj)
 xe:Value->Shared->Prop
def frs (l:List Env):List Addr:=l.filterMap (·.frame)
abbrev Cx.fs (X:Cx):List Addr:=frs X.outer
def Vis (sc:Scope)(x:Str):Prop:=sc.names.lookup x=some .local\/sc.names.lookup x=some .cell\/sc.names.lookup x=some .free
def Loc (sc:Scope)(x:Str):Prop:=sc.names.lookup x=some .local\/sc.names.lookup x=some .cell
def Look (env:Env)(h:Heap)(m:VV)(x:Str)(u:Value):Prop:=
 (env.kindOf x=some .local/\m x=some u)\/((env.kindOf x=some .cell\/env.kindOf x=some .free)/\∃c,env.cells.lookup x=some c/\h.IsCell c (some u))
structure Cx.Ok (X:Cx):Prop where
 mod:Mod X.K X.mg X.base
 kind:X.env.scope.kind=.function
 glob:X.env.globals=mainGlobals
 blt:X.env.builtins=builtinsNs
 above:X.s₀.heap.objs.size<=X.env.locals
 inj:∀x y c,X.env.cells.lookup x=some c->X.env.cells.lookup y=some c->x=y
 has:∀x,(X.env.kindOf x=some .cell\/X.env.kindOf x=some .free)->∃c,X.env.cells.lookup x=some c
 cab:∀x c,X.fn x=true->X.env.cells.lookup x=some c->X.s₀.heap.objs.size<=c
 hd:X.calm=true->X.A.handled=none
 frames:X.A.frames=some X.stack
 stk:X.stack=X.outer\/(X.stack=X.env::X.outer/\X.env.frame=some X.env.locals)
 exf:∀b∈X.ex,b≠X.env.locals/\∀x c,X.env.cells.lookup x=some c->c≠b
 bs:∀b o,X.base.get? b=some o->X.s₀.heap.get? b=some o/\X.H₀ b=none
 bsz:X.base.objs.size<=X.s₀.heap.objs.size
 noex:∀b o,X.base.get? b=some o->b∉X.ex
 exfs:∀b∈X.ex,b∉X.fs
 funs:X.s₀.heap.FunFrames X.base X.outer
 frf:∀b∈X.fs,X.H₀ b=none
structure Inv (X:Cx) (pins:VZ) (σ:List (Option V)) (H:Hp) (s:Shared):Prop where
 ok:X.Ok
 os:s.os=X.s₀.os
 bare:AllBare s.gens
 base:Un X.fs X.ex X.H₀ H X.s₀.heap s.heap
 loc:∃m,s.heap.Ns X.env.locals m/\∀(i:Nat) (x:Str) (v:V),X.N[i]?=some x->σ[i]?=some (some v)->Vis X.env.scope x->∃u,RelV v u/\Look X.env s.heap m x u
 cell:∀x c,X.env.cells.lookup x=some c->∃v,s.heap.IsCell c v
 free:H X.env.locals=none
 freeC:∀x c,X.env.cells.lookup x=some c->H c=none
 pin:∀p∈X.pn++pins,s.heap.get? p.1=some p.2/\H p.1=none/\p.1≠X.env.locals/\p.1∉X.fs/\∀v,p.2.data≠.cell v
 hok:HOk X.prog X.w H s.heap
 len:σ.length=X.N.length
def Cx.Ok.nofr {X:Cx}(ok:X.Ok)(e:X.base.get? b=some o):b∉X.fs:=λhb=>by
 have:=(ok.funs.mem hb).1
 rw[e]at this;cases this
def Inv.bs (I:Inv X pins σ H s):∀b o,X.base.get? b=some o->s.heap.get? b=some o/\H b=none:=λb o e=>
 ⟨I.base.keep b o (I.ok.bs b o e).1 (I.ok.bs b o e).2 (I.ok.nofr e) (I.ok.noex b o e),I.base.free b o (I.ok.bs b o e).1 (I.ok.bs b o e).2 (I.ok.noex b o e)⟩
def Inv.bk (I:Inv X pins σ H s):∀b o,X.base.get? b=some o->s.heap.get? b=some o:=λb o e=>(I.bs b o e).1
def Inv.mod (I:Inv X pins σ H s):Mod X.K X.mg X.base:=I.ok.mod
def Inv.kIn (I:Inv X pins σ H s):X.K.In s.heap:=I.ok.mod.kin.keeps I.bk
def Inv.fr (I:Inv X pins σ H s):∃m,Fr X.base X.env.locals s.heap m:=
 let ⟨m,hn,_⟩:=I.loc
 ⟨m,hn,I.bk,qA8 I.ok.bsz I.ok.above⟩
def Inv.lt (I:Inv X pins σ H s):X.env.locals<s.heap.objs.size:=let ⟨_,hn,_⟩:=I.loc;hn.lt
def Inv.sz (I:Inv X pins σ H s):X.s₀.heap.objs.size<=s.heap.objs.size:=qA8 I.ok.above (qJ2 I.lt)
def Inv.nofs (I:Inv X pins σ H s){a:Addr}(h:s.heap.objs.size<=a):a∉X.fs:=λhb=>by
 obtain ⟨_,o,ho,_⟩:=I.ok.funs.mem hb;show absurd (qB3 (qB5 ho) (qA8 I.sz h)) (qF5 _)
def Inv.cne (I:Inv X pins σ H s):∀x c,X.env.cells.lookup x=some c->c≠X.env.locals:=λx c e z=>by
 obtain ⟨v,o,ho,hd⟩:=I.cell x c e;obtain ⟨m,⟨o',es,ep,a3,a4,_⟩,_⟩:=I.loc;rw[z,a3]at ho;cases ho;rw[a4]at hd;cases hd
def Inv.funs (I:Inv X pins σ H s):s.heap.FunFrames X.base X.outer:=by
 have all:∀(l:List Env),(∀b∈frs l,b∈X.fs)->X.s₀.heap.FunFrames X.base l->s.heap.FunFrames X.base l:=by
  intro l
  induction l with
  |nil=>intro _ _;trivial
  | cons env r ih=>
   intro hs hl;obtain ⟨hk,⟨L,o,hf,hn,ho,hd⟩,hr⟩:=hl;have hL:L∈X.fs:=hs L (by unfold frs;rw[qJ0,hf];show qB9);obtain ⟨sl,e⟩:=I.base.slot L o ho (I.ok.frf L hL) hL λz=>I.ok.exfs L z hL;show ⟨hk,⟨L,_,hf,hn,e,hd⟩,ih (λb hb=>hs b (by unfold frs;rw[qJ0,hf];show qB1 _ hb)) hr⟩
 show all X.outer (λ_ hb=>hb) I.ok.funs
def Inv.stack (I:Inv X pins σ H s):s.heap.FunFrames X.base X.stack:=by
 rcases I.ok.stk with e|⟨e,hf⟩
 .rw[e];show I.funs
 .rw [e]
  obtain ⟨m,hn,_⟩:=I.loc;refine .cons (by rw[I.ok.kind];decide) hf hn ?_ I.funs;show Heap.get?_none_of_le (qA8 I.ok.bsz I.ok.above)
def Inv.stkSub (I:Inv X pins σ H s):∀b∈frs X.stack,b∈X.env.locals::X.fs:=λb hb=>by
 rcases I.ok.stk with e|⟨e,hf⟩
 .rw[e]at hb;show qB1 _ hb
 .rw [e]at hb
  unfold frs at hb;rw[qJ0,hf]at hb;show hb
def Inv.stkFree (I:Inv X pins σ H s):∀b∈frs X.stack,H b=none:=λb hb=>by
 rcases qB6.mp (I.stkSub b hb) with e|hb
 .rw[e];show I.free
 .obtain ⟨_,o,ho,_⟩:=I.ok.funs.mem hb;show I.base.free b o ho (I.ok.frf b hb) λz=>I.ok.exfs b z hb
def Inv.step {ch:List Addr}(I:Inv X pins σ H s)(a4:∀b∈ch,(b∈X.ex\/X.s₀.heap.objs.size<=b)/\b≠X.env.locals/\(∀x c,X.env.cells.lookup x=some c->c≠b)/\∀p∈X.pn++pins,p.1≠b)(keep:∀b o,b≠X.env.locals->b∉X.fs->b∉ch->s.heap.get? b=some o->H b=none->h'.get? b=some o)(slot:∀b o,b≠X.env.locals->b∈X.fs->b∉ch->s.heap.get? b=some o->H b=none->∃sl,h'.get? b=some { o with slots:=sl })(free:∀b o,b∉ch->s.heap.get? b=some o->H b=none->H' b=none)(there:∀b o,b∉ch->s.heap.get? b=some o->∃o',h'.get? b=some o')(tups:∀b xs,H b=some (.tup xs)->H' b=some (.tup xs))(frzs:∀b o u,H b=some (.frz o u)->H' b=some (.frz o u))(tbls:∀b ps,H b=some (.tbl ps)->∃more,H' b=some (.tbl (ps++more)))(ns:∀m,s.heap.Ns X.env.locals m->h'.Ns X.env.locals m)(hok:HOk X.prog X.w H' h')(hg:AllBare g'):
  Inv X pins σ H' { s with heap:=h',gens:=g',drawn:=d',toks:=t' }:=by
 have a6:∀b o,X.s₀.heap.get? b=some o->b≠X.env.locals:=λb o e=>qD9 (qB3 (qB5 e) I.ok.above);have a5:∀b o,X.s₀.heap.get? b=some o->b∉X.ex->b∉ch:=λb o e hx hb=>by
  rcases (a4 b hb).1 with z|z
  .show hx z
  .show absurd (qB3 (qB5 e) z) (qF5 _)
 have cellK:∀x c,X.env.cells.lookup x=some c->∀v,s.heap.IsCell c v->h'.IsCell c v:=λx c e v a8=>by
  obtain ⟨o,ho,hd⟩:=a8;have a3:c∉ch:=λz=>(a4 c z).2.2.1 x c e rfl;by_cases hc:c∈X.fs
  .obtain ⟨sl,q⟩:=slot c o (I.cne x c e) hc a3 ho (I.freeC x c e);show ⟨_,q,hd⟩
  .show ⟨o,keep c o (I.cne x c e) hc a3 ho (I.freeC x c e),hd⟩
 refine ⟨I.ok,I.os,hg,⟨λb o e n hb hx=>?_,λb o e n hb hx=>?_,λb o e n hx=>?_,λb o e hx=>?_,λb xs e=>tups b xs (I.base.tups b xs e),λb o xs e=>frzs b o xs (I.base.frzs b o xs e),λb ps e=>?_⟩,?_,λx c e=>?_,?_,λx c e=>?_,λp hp=>?_,hok,I.len⟩
 .show keep b o (a6 b o e) hb (a5 b o e hx) (I.base.keep b o e n hb hx) (I.base.free b o e n hx)
 .obtain ⟨sl,e1⟩:=I.base.slot b o e n hb hx;obtain ⟨a7,e2⟩:=slot b _ (a6 b o e) hb (a5 b o e hx) e1 (I.base.free b o e n hx);show ⟨a7,e2⟩
 .obtain ⟨o',e1⟩:=I.base.there b o e hx;show free b o' (a5 b o e hx) e1 (I.base.free b o e n hx)
 .obtain ⟨o',e1⟩:=I.base.there b o e hx;show there b o' (a5 b o e hx) e1
 .obtain ⟨m1,e1⟩:=I.base.tbls b ps e;obtain ⟨m2,e2⟩:=tbls b _ e1;show ⟨m1++m2,by rw[e2,Array.append_assoc]⟩
 .obtain ⟨m,hn,hl⟩:=I.loc;refine ⟨m,ns m hn,λi x v e1 e2 e3=>?_⟩;obtain ⟨u,r,l⟩:=hl i x v e1 e2 e3;refine ⟨u,r,?_⟩;rcases l with l|⟨k,c,e,z⟩
  .show .inl l
  .show .inr ⟨k,c,e,cellK x c e _ z⟩
 .obtain ⟨v,z⟩:=I.cell x c e;show ⟨v,cellK x c e v z⟩
 .obtain ⟨m,⟨o,_,_,ho,_⟩,_⟩:=I.loc;show free _ o (λz=>(a4 _ z).2.1 rfl) ho I.free
 .obtain ⟨v,o,ho,hd⟩:=I.cell x c e;show free c o (λz=>(a4 c z).2.2.1 x c e rfl) ho (I.freeC x c e)
 .obtain ⟨e,n,ne,nf,d⟩:=I.pin p hp;have a3:p.1∉ch:=λz=>(a4 p.1 z).2.2.2 p hp rfl;show ⟨keep p.1 p.2 ne nf a3 e n,free p.1 p.2 a3 e n,ne,nf,d⟩
def Inv.un (I:Inv X pins σ H s)(u:Un X.fs [] H H' s.heap h')(hok:HOk X.prog X.w H' h'):Inv X pins σ H' { s with heap:=h',toks:=t' }:=by
 obtain ⟨m,⟨o,es,ep,ho,r⟩,_⟩:=id I.loc;obtain ⟨sl,hL⟩:=u.any ho I.free ZW;show I.step (g':=s.gens) (d':=s.drawn) (ch:=[]) (λ_ z=>nomatch z) (λb o _ hb _ e n=>u.keep b o e n hb ZW) (λb o _ hb _ e n=>u.slot b o e n hb ZW) (λb o _ e n=>u.free b o e n ZW) (λb o _ e=>u.there b o e ZW) u.tups u.frzs u.tbls (λm' hm=>by
  obtain ⟨o',a4,a5,a3,r'⟩:=hm;rw[ho]at a3;cases a3;show ⟨_,a4,a5,hL,r'⟩) hok I.bare
def Inv.call (I:Inv X pins σ H s)(u:Un (frs X.stack) ch H H' s.heap h')(hok:HOk X.prog X.w H' h')(hg:AllBare g')(a4:∀b∈ch,(b∈X.ex\/X.s₀.heap.objs.size<=b)/\b≠X.env.locals/\(∀x c,X.env.cells.lookup x=some c->c≠b)/\∀p∈X.pn++pins,p.1≠b):
  Inv X pins σ H' { s with heap:=h',gens:=g',drawn:=d',toks:=t' }:=by
 obtain ⟨m,⟨o,es,ep,ho,r⟩,_⟩:=id I.loc;obtain ⟨sl,hL⟩:=u.any ho I.free λz=>(a4 _ z).2.1 rfl;show I.step (ch:=ch) a4 (λb o hL hb hc e n=>u.keep b o e n (λz=>(qB6.mp (I.stkSub b z)).elim hL hb) hc) (λb o _ _ hc e n=>u.any e n hc) (λb o hc e n=>u.free b o e n hc) (λb o hc e=>u.there b o e hc) u.tups u.frzs u.tbls (λm' hm=>by
  obtain ⟨o',a5,a6,a3,r'⟩:=hm;rw[ho]at a3;cases a3;show ⟨_,a5,a6,hL,r'⟩) hok hg
def Inv.turned (I:Inv X pins σ H s)(k:∀b o,b≠it->s.heap.get? b=some o->h'.get? b=some o)(hn:H it=none)(hL:it≠X.env.locals)(h1:it∈X.ex\/X.s₀.heap.objs.size<=it)(h2:∀x c,X.env.cells.lookup x=some c->c≠it)(h3:∀p∈X.pn++pins,p.1≠it):Inv X pins σ H { s with heap:=h',toks:=t' }:=by
 have a3:∀b u,H b=some u->b≠it:=λb u e z=>by rw[z,hn]at e;cases e
 refine I.step (g':=s.gens) (d':=s.drawn) (ch:=[it]) (λb hb=>?_) (λb o _ _ hc e _=>k b o (λz=>hc (by simp [z])) e) (λb o _ _ hc e _=>⟨o.slots,k b o (λz=>hc (by simp [z])) e⟩) (λ_ _ _ _ n=>n)
  (λb o hc e=>⟨o,k b o (λz=>hc (by simp [z])) e⟩) (λ_ _ e=>e) (λ_ _ _ e=>e) (λb ps e=>⟨#[],by rw[e];simp⟩) (λm hm=>?_) (λb u e=>?_) I.bare
 .have e:b=it:=by simpa using hb
  subst e;show ⟨h1,hL,h2,h3⟩
 .obtain ⟨o,es,ep,ho,r⟩:=hm;show ⟨o,es,ep,k _ o (Ne.symm hL) ho,r⟩
 .refine (I.hok b u e).stay (λc v hc q=>k c v ?_ q) (λ_ q=>q) λ_ _ q=>q;rcases hc with z|z
  .rw[z];show a3 b u e
  .show a3 c _ z
def Inv.tok (I:Inv X pins σ H s)(t:Nat):Inv X pins σ H { s with toks:=t }:=I.un (h':=s.heap) (t':=t) Un.refl I.hok
def Inv.kept (I:Inv X pins σ H s)(k:∀b u,s.heap.get? b=some u->h'.get? b=some u):Inv X pins σ H { s with heap:=h',toks:=t' }:=I.un (Un.kept k) (I.hok.kept k)
def Inv.laid {a:Addr}(I:Inv X pins σ H s)(k:∀b u,s.heap.get? b=some u->h'.get? b=some u)(hp:s.heap.objs.size<=a)(a3:ObjOk X.prog X.w (upd H a o) h' a o):
  Inv X pins σ (upd H a o) { s with heap:=h',toks:=t' }:=I.un (Un.laid k hp (I.hok.fresh hp)) (I.hok.laid k hp a3)
def Inv.write (I:Inv X pins σ H s)(mu:Mut (H x))(he:e=x\/H e=some (.own x))(k:∀b u,b≠e->s.heap.get? b=some u->h'.get? b=some u)(a3:∃u,h'.get? e=some u)(a4:ObjOk X.prog X.w (upd H x o) h' x o):Inv X pins σ (upd H x o) { s with heap:=h',toks:=t' }:=I.un (Un.write mu he k a3) (I.hok.write mu he k a3 a4)
def Inv.weak (I:Inv X pins σ H s)(hl:σ'.length=σ.length)(w:∀(i:Nat) v,σ'[i]?=some (some v)->σ[i]?=some (some v)):Inv X pins σ' H s:=
 ⟨I.ok,I.os,I.bare,I.base,let ⟨m,hn,hl'⟩:=I.loc;⟨m,hn,λi x v e1 e2 e3=>hl' i x v e1 (w i v e2) e3⟩,I.cell,I.free,I.freeC,I.pin,I.hok,hl.trans I.len⟩
def Inv.pins_of (I:Inv X pins σ H s)(h:∀p∈pins',s.heap.get? p.1=some p.2/\H p.1=none/\p.1≠X.env.locals/\p.1∉X.fs/\∀v,p.2.data≠.cell v):Inv X pins' σ H s:=
 ⟨I.ok,I.os,I.bare,I.base,I.loc,I.cell,I.free,I.freeC,λp hp=>(qC0.mp hp).elim (λz=>I.pin p (qE0 _ z)) (h p),I.hok,I.len⟩
def mU {N:Zq}(I:N.Nodup){i:Nat}(a:N[i]?=some x)(b:N[j]?=some x):i=j:=by
 obtain ⟨h1,e1⟩:=qA6.mp a;obtain ⟨h2,e2⟩:=qA6.mp b;show (List.getElem_inj I).mp (e1.trans e2.symm)
def jS (I:Inv X pins σ H s)(hN:X.N.Nodup)(hi:X.N[i]?=some x)(hx:Loc X.env.scope x)(r:RelV v u)(h:∀s',Inv X pins (σ.set i (some v)) H s'->(∃a,Heap.SameBut a s.heap s'.heap/\(a=X.env.locals\/X.env.cells.lookup x=some a))->Q () s')(hf:X.fn x=true\/X.env.scope.names.lookup x=some .local:=by first|show .inl rfl|show .inr rfl|assumption):wpAny M A (storeName X.env x u) Q E s:=by
 obtain ⟨m,hn,hl⟩:=id I.loc;have a6:(X.env.scope.kind == .class||(X.env.scope.kind == .module&&X.env.locals != X.env.globals))=false:=by rw[I.ok.kind];rfl
 have a4:i<σ.length:=by rw[I.len];show (qA6.mp hi).1
 have cne:=I.cne;have tracked:∀{a:Addr}{h':Heap},(∃o,s.heap.get? a=some o/\H a=none)->Heap.SameBut a s.heap h'->HOk X.prog X.w H h':=λ{a h'} ha hs b ob e=>by
  obtain ⟨_,_,a3⟩:=ha;refine (I.hok b ob e).stay (λc w' hc q=>(hs.2 c ?_).trans q) (λ_ q=>q) λ_ _ q=>q;rintro rfl;rcases hc with rfl|hc
  .rw[a3]at e;cases e
  .rw[a3]at hc;cases hc
 rcases hx with hk|hk
 .refine wpAny_storeName_local hk hn (λh' b3 hs=>?_) a6;obtain ⟨oL,_,_,b0,_⟩:=id hn;refine h _ ⟨I.ok,I.os,I.bare,⟨λb o e n hb hx=>?_,λb o e n hb hx=>?_,I.base.free,λb o e hx=>?_,I.base.tups,I.base.frzs,I.base.tbls⟩,⟨_,b3,λj y v' e1 e2 e3=>?_⟩,λy c e=>?_,I.free,I.freeC,λp hp=>?_,tracked ⟨oL,b0,I.free⟩ hs,by simpa using I.len⟩ ⟨_,hs,.inl rfl⟩
  .show (hs.2 b (qD9 (qB3 (qB5 e) I.ok.above))).trans (I.base.keep b o e n hb hx)
  .obtain ⟨sl,e1⟩:=I.base.slot b o e n hb hx;show ⟨sl,(hs.2 b (qD9 (qB3 (qB5 e) I.ok.above))).trans e1⟩
  .obtain ⟨o',e1⟩:=I.base.there b o e hx;show ⟨o',(hs.2 b (qD9 (qB3 (qB5 e) I.ok.above))).trans e1⟩
  .by_cases hj:j=i
   .subst hj;rw[hi]at e1;cases e1;rw[qK9 a4]at e2;cases e2;show ⟨u,r,.inl ⟨hk,ZW⟩⟩
   .rw [qB4 (Ne.symm hj)]at e2
    obtain ⟨u',r',q⟩:=hl j y v' e1 e2 e3;refine ⟨u',r',?_⟩;rcases q with ⟨k,e⟩|⟨k,c,e,z⟩
    .refine .inl ⟨k,?_⟩
     have:y≠x:=λe=>hj (mU hN e1 (e ▸ hi))
     simp [this,e]
    .show .inr ⟨k,c,e,z.sameBut hs (cne y c e)⟩
  .obtain ⟨w',z⟩:=I.cell y c e;show ⟨w',z.sameBut hs (cne y c e)⟩
  .obtain ⟨e,n,ne,nf,d⟩:=I.pin p hp;show ⟨(hs.2 p.1 ne).trans e,n,ne,nf,d⟩
 .have a5:X.fn x=true:=by
   rcases hf with z|z
   .show z
   .rw[z]at hk;cases hk
  obtain ⟨c,hc⟩:=I.ok.has x (.inl hk);obtain ⟨w',z⟩:=I.cell x c hc;refine wpAny_storeName_cell I.ok.kind hk hc z (λh' ab hs=>?_);obtain ⟨oc,a9,a7⟩:=id z;refine h { s with heap:=h' } ⟨I.ok,I.os,I.bare,⟨λb o e n hb hx=>?_,λb o e n hb hx=>?_,I.base.free,λb o e hx=>?_,I.base.tups,I.base.frzs,I.base.tbls⟩,⟨m,hn.sameBut hs (Ne.symm (cne x c hc)),λj y v' e1 e2 e3=>?_⟩,λy c' e=>?_,I.free,I.freeC,λp hp=>?_,tracked ⟨oc,a9,I.freeC x c hc⟩ hs,by simpa using I.len⟩ ⟨c,hs,.inr hc⟩
  .show (hs.2 b (qD9 (qB3 (qB5 e) (I.ok.cab x c a5 hc)))).trans (I.base.keep b o e n hb hx)
  .obtain ⟨sl,e1⟩:=I.base.slot b o e n hb hx;show ⟨sl,(hs.2 b (qD9 (qB3 (qB5 e) (I.ok.cab x c a5 hc)))).trans e1⟩
  .obtain ⟨o',e1⟩:=I.base.there b o e hx;show ⟨o',(hs.2 b (qD9 (qB3 (qB5 e) (I.ok.cab x c a5 hc)))).trans e1⟩
  .by_cases hj:j=i
   .subst hj;rw[hi]at e1;cases e1;rw[qK9 a4]at e2;cases e2;show ⟨u,r,.inr ⟨.inl hk,c,hc,ab⟩⟩
   .rw [qB4 (Ne.symm hj)]at e2
    obtain ⟨u',r',q⟩:=hl j y v' e1 e2 e3;refine ⟨u',r',?_⟩;rcases q with q|⟨k,c',e,z'⟩
    .show .inl q
    .refine .inr ⟨k,c',e,z'.sameBut hs ?_⟩;rintro rfl;show hj (mU hN e1 (I.ok.inj _ _ _ e hc ▸ hi))
  .by_cases a8:c'=c
   .subst a8;show ⟨_,ab⟩
   .obtain ⟨w2,z2⟩:=I.cell y c' e;show ⟨w2,z2.sameBut hs a8⟩
  .obtain ⟨e,n,ne,nf,d⟩:=I.pin p hp;refine ⟨(hs.2 p.1 ?_).trans e,n,ne,nf,d⟩;intro q;rw[q,a9]at e;have q':oc=p.2:=Lc e;show d w' (by rw[<- q'];show a7)
def fN (I:Inv X pins σ H s)(hN:X.N.Nodup)(hi:X.N[i]?=some x)(hx:Loc X.env.scope x)(r:RelV v u)(h:∀s',Inv X pins (σ.set i (some v)) H s'->Q () s')(hf:X.fn x=true\/X.env.scope.names.lookup x=some .local:=by first|show .inl rfl|show .inr rfl|assumption):wpAny M A (storeName X.env x u) Q E s:=
 jS I hN hi hx r (λs' I' _=>h s' I') hf
def Inv.call' (I:Inv X pins σ H s)(ho:s'.os=s.os)(u:Un (frs X.stack) ch H H' s.heap s'.heap)(hok:HOk X.prog X.w H' s'.heap)(hg:AllBare s'.gens)(a3:∀b∈ch,(b∈X.ex\/X.s₀.heap.objs.size<=b)/\b≠X.env.locals/\(∀x c,X.env.cells.lookup x=some c->c≠b)/\∀p∈X.pn++pins,p.1≠b):Inv X pins σ H' s':=by
 obtain ⟨h',g',d',t',o'⟩:=s';have e:o'=s.os:=ho;subst e;show I.call (g':=g') (t':=t') (d':=d') u hok hg a3
abbrev XK:=Value->Option Addr->Hp->Prop
abbrev St:=List (Option V)
abbrev VK:=V->Hp->Prop
abbrev TE:=St->Hp->VK->Prop
abbrev TT:=St->Hp->(Bool->Hp->Prop)->Prop
abbrev TA:=St->Hp->(List V->Hp->Prop)->Prop
structure Ends where
 nx:St->Hp->Prop
 rt:VK
 bk:St->Hp->Prop:=λ_ _=>False
 ct:St->Hp->Prop:=λ_ _=>False
abbrev TS:=Ends->St->Hp->Prop
def EP (X:Cx)(pins:VZ)(σ:St)(Q:VK)(u:Value)(s':Shared):Prop:=∃v H',Inv X pins σ H' s'/\RelV v u/\Q v H'
def TP (X:Cx)(pins:VZ)(σ:St)(Q:Bool->Hp->Prop)(b:Bool)(s':Shared):Prop:=∃H',Inv X pins σ H' s'/\Q b H'
def AP (X:Cx)(pins:VZ)(σ:St)(Q:List V->Hp->Prop)(us:VY)(s':Shared):Prop:=∃vs H',Inv X pins σ H' s'/\Vals vs us/\Q vs H'
def SP (X:Cx)(pins:VZ)(D:Ends)(f:Flow)(s':Shared):Prop:=
 match f with
 | .next=>∃I H',Inv X pins I H' s'/\D.nx I H'
 | .brk=>∃I H',Inv X pins I H' s'/\D.bk I H'
 | .cont=>∃I H',Inv X pins I H' s'/\D.ct I H'
 | .ret u=>∃v I H',Inv X pins I H' s'/\RelV v u/\D.rt v H'
def PE (X:Cx)(e:Expr)(t:TE):Prop:=
 ∀(pins:VZ) (s:Shared) (σ:St) (H:Hp) (Q:VK),Inv X pins σ H s->t σ H Q->wpAny (model X.prog X.w) X.A (eval e X.env) (EP X pins σ Q) X.xe s
def PT (X:Cx)(e:Expr)(t:TT):Prop:=
 ∀(pins:VZ) (s:Shared) (σ:St) (H:Hp) (Q:Bool->Hp->Prop),Inv X pins σ H s->t σ H Q->wpAny (model X.prog X.w) X.A (isTrue e X.env (eval e X.env)) (TP X pins σ Q) X.xe s
def PW (X:Cx)(e:Expr)(t:TT):Prop:=
 ∀(whole:Sem Value) (pins:VZ) (s:Shared) (σ:St) (H:Hp) (Q:Bool->Hp->Prop),Inv X pins σ H s->t σ H Q->wpAny (model X.prog X.w) X.A (isTrue e X.env whole) (TP X pins σ Q) X.xe s
def PW.pt (h:PW X e t):PT X e t:=h _
def PA (X:Cx)(es:Zz)(t:TA):Prop:=
 ∀(pos:Pos) (pins:VZ) (s:Shared) (σ:St) (H:Hp) (Q:List V->Hp->Prop),Inv X pins σ H s->t σ H Q->wpAny (model X.prog X.w) X.A (spliced (backTo pos (starEach es X.env))) (AP X pins σ Q) X.xe s
def PS (X:Cx)(st:Stmt)(t:TS):Prop:=
 ∀(pins:VZ) (s:Shared) (σ:St) (H:Hp) (D:Ends),Inv X pins σ H s->t D σ H->wpAny (model X.prog X.w) X.A (exec st X.env) (SP X pins D) X.xe s
def PSs (X:Cx)(st:List Stmt)(t:TS):Prop:=
 ∀(pins:VZ) (s:Shared) (σ:St) (H:Hp) (D:Ends),Inv X pins σ H s->t D σ H->wpAny (model X.prog X.w) X.A (execs st X.env) (SP X pins D) X.xe s
def thn {t:Sem α}(h:wpAny M A t Q E s)(I:∀a s,Q a s->Q' a s):wpAny M A t Q' E s:=qS7 h I λ_ _ x=>x
def V3 (i:Nat):TE:=λσ H Q=>∃v,σ[i]?=some (some v)/\Q v H
def tC (v:V):TE:=λ_ H Q=>Q v H
def Q4 {X:Cx}{i:Nat}{x:Str}{pos:Pos}(hN:X.N[i]?=some x)(hv:Vis X.env.scope x)(hd:(x == ("__debug__":Str))=false:=by decide)(a3:(x == ("__classdict__":Str))=false:=by decide):PE X (.Name x pos) (V3 i):=by
 intro pins s σ H Q I h;obtain ⟨v,e,h⟩:=h;obtain ⟨m,hn,hl⟩:=I.loc;obtain ⟨u,r,l⟩:=hl i x v hN e hv;have fin:EP X pins σ Q u s:=⟨v,H,I,r,h⟩;rcases l with ⟨hk,hm⟩|⟨hk,c,hc,hcell⟩
 .show wpAny_Name (wpAny_loadName_local I.ok.kind hk hn hm fin) hd
 .rcases hk with hk|hk
  .show wpAny_Name (wpAny_loadName_cell I.ok.kind hk hc hcell fin) hd
  .show wpAny_Name (wpAny_loadName_free I.ok.kind hk hc hcell fin a3) hd
def pe_int {i j pos}:PE X (.Constant (.int i) j pos) (tC (.int i)):=λ_ _ _ H _ I h=>wpAny_Constant_int ⟨.int i,H,I.tok _,⟨_,rfl⟩,h⟩
def pe_bl {b j pos}:PE X (.Constant (.bool b) j pos) (tC (.bl b)):=λ_ _ _ H _ I h=>Constant_bool ⟨.bl b,H,I,rfl,h⟩
def pe_non {j pos}:PE X (.Constant .none j pos) (tC .non):=λ_ _ _ H _ I h=>Constant_none ⟨.non,H,I,rfl,h⟩
def pe_str {x j pos}:PE X (.Constant (.str x) j pos) (tC (.str x)):=λ_ _ _ H _ I h=>Calls.Constant_str ⟨.str x,H,I.tok _,⟨_,rfl⟩,h⟩
def Gl (X:Cx)(x:Str):Prop:=X.env.kindOf x=some .globalImplicit
def BK {X:Cx}{E:Zv}{pins:VZ}{s:Shared}{σ:St}{H:Hp}{x:Str}{u:Value}{pos:Pos}{Q:Zv}(I:Inv X pins σ H s)(hg:Gl X x)(hm:X.mg x=some u)(h:Q u s)(hd:(x == ("__debug__":Str))=false:=by decide):wpAny (model X.prog X.w) X.A (eval (.Name x pos) X.env) Q E s:=
 Calls.Name_function_global I.ok.kind hg (Calls.loadGlobal_global (by rw[I.ok.glob];show I.mod.glob.keeps I.bk) hm h) hd
def Q9 {X:Cx}{E:Zv}{pins:VZ}{s:Shared}{σ:St}{H:Hp}{x:Str}{u:Value}{pos:Pos}{Q:Zv}(I:Inv X pins σ H s)(hg:Gl X x)(hm:X.mg x=none)(hv:bootBuiltins x=some u)(h:Q u s)(hn:x ≠ "__name__":=by decide)(hd:(x == ("__debug__":Str))=false:=by decide):wpAny (model X.prog X.w) X.A (eval (.Name x pos) X.env) Q E s:=by
 obtain ⟨mb,h1,h2⟩:=I.mod.blt;show Calls.Name_function_global I.ok.kind hg (Calls.loadGlobal_builtin (by rw[I.ok.glob];show I.mod.glob.keeps I.bk) hm (by rw[I.ok.blt];show h1.keeps I.bk) ((h2 x hn).trans hv) h) hd
def Bc {X:Cx}{x:Str}{v:V}{u:Value}{pos:Pos}(hg:Gl X x)(hm:X.mg x=none)(hv:bootBuiltins x=some u)(r:RelV v u)(hn:x ≠ "__name__":=by decide)(hd:(x == ("__debug__":Str))=false:=by decide):PE X (.Name x pos) (tC v):=
 λ_ _ _ H _ I h=>Q9 I hg hm hv ⟨v,H,I,r,h⟩ hn hd
def PC (X:Cx)(op:CmpOp)(a b:Expr)(t:TE):Prop:=
 ∀ (pins:VZ) (s:Shared) (σ:St) (H:Hp) (Q:VK),Inv X pins σ H s->t σ H Q ->
  wpAny (model X.prog X.w) X.A (eval a X.env) (λv I=>wpAny (model X.prog X.w) X.A (eval b X.env) (λu a3=>wpAny (model X.prog X.w) X.A (compareOp op v u) (EP X pins σ Q) X.xe a3) X.xe I) X.xe s
def xr (b:Expr)(h:op≠.In)(I:op≠.NotIn):behindInMarks op b=false:=by
 have e1:(op == CmpOp.In)=false:=by cases op <;> first|rfl|show absurd rfl h
 have e2:(op == CmpOp.NotIn)=false:=by cases op <;> first|rfl|show absurd rfl I
 cases b <;> simp [behindInMarks,e1,e2]
def tB (t:TE):TT:=λσ H Q=>t σ H λx H1=>∃c,x=.bl c/\Q c H1
def tQ (h:PC X op a b t)(h1:behindInMarks op b=false:=by first|show xr _ ZU ZU|rfl):PT X (.Compare a [op] [b] pos) (tB t):=by
 intro pins s σ H Q I hw;refine wpAny_isTrue_Compare1 (thn (h pins s σ H _ I hw) λv s1 h1=>thn h1 λu s2 h2=>thn h2 λc s3 a3=>?_) h1;obtain ⟨x,H1,I1,r1,q1⟩:=a3;obtain ⟨d,rfl,q⟩:=q1;cases r1;show qS1 ⟨H1,I1,q⟩
def Fp (h:PE X e t)(he:∀whole,isTrue e X.env whole=(do let v <- whole;standAt e.pos;holding [v] (truthy v)):=by intro _;rfl):PT X e (tB t):=by
 intro pins s σ H Q I hw;refine isTrue_plain (thn (h pins s σ H _ I hw) λv s1 a3=>?_) (he _);obtain ⟨x,H1,I1,r1,q1⟩:=a3;obtain ⟨d,rfl,q⟩:=q1;cases r1;show qS1 ⟨H1,I1,q⟩
def DI (t u:TT):TT:=λσ H Q=>t σ H λc H1=>if c=true then u σ H1 Q else Q false H1
def tOr (t u:TT):TT:=λσ H Q=>t σ H λc H1=>if c=true then Q true H1 else u σ H1 Q
def DC (t:TT):TT:=λσ H Q=>t σ H λc H1=>Q (!c) H1
def AQ (ha:PT X a tA):PW X (.BoolOp .And [a] pos) tA:=by
 intro wh pins s σ H Q I h;refine isTrue_and (thn (ha pins s σ H Q I h) λc s1 e=>?_);cases c with
 |true=>show isTrue_and_nil e
 |false=>show e
def Fn (ha:PT X a tA):PW X (.BoolOp .Or [a] pos) tA:=by
 intro wh pins s σ H Q I h;refine isTrue_or (thn (ha pins s σ H Q I h) λc s1 e=>?_);cases c with
 |false=>show isTrue_or_nil e
 |true=>show e
def Fo {rest:Zz}(ha:PT X a tA)(hb:PW X (.BoolOp .And (b::rest) pos) tB'):PW X (.BoolOp .And (a::b::rest) pos) (DI tA tB'):=by
 intro wh pins s σ H Q I h;refine isTrue_and (thn (ha pins s σ H _ I h) λc s1 a3=>?_);obtain ⟨H1,I1,q1⟩:=a3;cases c with
 |true=>show hb wh pins s1 σ H1 Q I1 q1
 |false=>show ⟨H1,I1,q1⟩
def Jp {rest:Zz}(ha:PT X a tA)(hb:PW X (.BoolOp .Or (b::rest) pos) tB'):PW X (.BoolOp .Or (a::b::rest) pos) (tOr tA tB'):=by
 intro wh pins s σ H Q I h;refine isTrue_or (thn (ha pins s σ H _ I h) λc s1 a3=>?_);obtain ⟨H1,I1,q1⟩:=a3;cases c with
 |true=>show ⟨H1,I1,q1⟩
 |false=>show hb wh pins s1 σ H1 Q I1 q1
def Fq (ha:PT X a tA):PT X (.UnaryOp .Not a pos) (DC tA):=by
 intro pins s σ H Q I h;show isTrue_not (ha pins s σ H (λc H1=>Q (!c) H1) I h)
def yT (ta I:TE):TE:=λσ H Q=>ta σ H λx H1=>∃c,x=.bl c/\if c=true then I σ H1 Q else Q (.bl false) H1
def yS (I:TE):TE:=λσ H Q=>I σ H λx H1=>∃c,x=.bl c/\Q (.bl (!c)) H1
def FA {op}(h:PE X a t):PE X (.BoolOp op [a] pos) t:=λpins s σ H Q I hw=>BoolOp_one (h pins s σ H Q I hw)
def FE {rest:Zz}(ha:PE X a ta)(hb:PE X (.BoolOp .And (b::rest) pos) tb):PE X (.BoolOp .And (a::b::rest) pos) (yT ta tb):=by
 intro pins s σ H Q I h;refine BoolOp_and (thn (ha pins s σ H _ I h) λv s1 a3=>?_);obtain ⟨x,H1,I1,r1,q1⟩:=a3;obtain ⟨c,rfl,q1⟩:=q1;cases r1;refine qS1 ?_;cases c with
 |true=>show hb pins s1 σ H1 Q I1 q1
 |false=>show ⟨.bl false,H1,I1,rfl,q1⟩
def FB (ha:PE X a ta):PE X (.UnaryOp .Not a pos) (yS ta):=by
 intro pins s σ H Q I h;refine UnaryOp_ (thn (ha pins s σ H _ I h) λv s1 a3=>?_);obtain ⟨x,H1,I1,r1,q1⟩:=a3;obtain ⟨c,rfl,q1⟩:=q1;cases r1;show not_of (qS1 ⟨.bl (!c),H1,I1,rfl,q1⟩)
def tIf (t:TT)(ta I:TE):TE:=λσ H Q=>t σ H λc H1=>if c=true then ta σ H1 Q else I σ H1 Q
def xg (hc:PT X c tA)(ha:PE X a ta)(hb:PE X b tb):PE X (.IfExp c a b pos) (tIf tA ta tb):=by
 intro pins s σ H Q I h;refine wpAny_IfExp (thn (hc pins s σ H _ I h) λd s1 a3=>?_);obtain ⟨H1,I1,q1⟩:=a3;cases d with
 |true=>show ha pins s1 σ H1 Q I1 q1
 |false=>show hb pins s1 σ H1 Q I1 q1
def SqL (K:Frag)(H:Hp)(a:Addr)(xs:List V):Prop:=
 Rd H a (.lst xs) \/
  ∃(o:Obj) (its:Zj) (n:Nat),K.lookup a=some o/\o.cls=.type "list" /\ o.dict=none/\o.data=.seq its n/\its.size<=sizeLine/\Vals xs its.toList
def SqT (K:Frag)(H:Hp)(a:Addr)(xs:List V):Prop:=
 Rd H a (.tup xs) \/
  ∃(o:Obj) (its:Zj) (n:Nat),K.lookup a=some o/\o.cls=.type "tuple" /\ o.data=.seq its n/\its.size<=sizeLine/\Vals xs its.toList
def absV:Value->Option V
 | .none=>some .non
 | .bool b=>some (.bl b)
 | .int i _=>some (.int i)
 | .str x _=>some (.str x)
 | .bytes b _=>some (.byt b)
 | .float b _=>some (.flt b)
 | .ref a=>some (.ref a)
 | .type n=>some (.ty n)
 |_=>none
def RelV.abs (r:RelV x u):absV u=some x:=by
 cases x with
 |non=>cases r;rfl
 |bl _=>cases r;rfl
 |int _=>obtain ⟨t,rfl⟩:=r;rfl
 |str _=>obtain ⟨t,rfl⟩:=r;rfl
 |byt _=>obtain ⟨t,rfl⟩:=r;rfl
 |flt _=>obtain ⟨t,rfl⟩:=r;rfl
 |ref _=>cases r;rfl
 |ty _=>cases r;rfl
def RelV.inj (r:RelV x u)(q:RelV y u):x=y:=Lc (r.abs.symm.trans q.abs)
def Vals.inj:∀{xs ys:List V}{us:VY},Vals xs us->Vals ys us->xs=ys:=by
 intro xs ys us a
 induction a generalizing ys with
 |nil=>intro b;cases b;rfl
 | cons r t I=>
  intro b;cases b with
  |cons r' t'=>rw[r.inj r',I t']
def SqL.of {K:Frag}(h:H a=some (.lst xs)):SqL K H a xs:=.inl (.inl h)
def SqT.of {K:Frag}(h:H a=some (.tup xs)):SqT K H a xs:=.inl (.inl h)
def Inv.list {σ:St}(I:Inv X pins σ H s)(h:SqL X.K H a xs):∃its:List Value,Vals xs its/\PlainL s.heap a its.toArray/\xs.length<=sizeLine:=by
 rcases h with h|⟨o,its,n,hk,hc,hd,hs,hz,r⟩
 .obtain ⟨z,its,n,r,e⟩:=h.ok I.hok;show ⟨its,r,⟨_,n,e,rfl,rfl,rfl⟩,z⟩
 .refine ⟨its.toList,r,⟨o,n,I.kIn a o hk,hc,hd,by simpa using hs⟩,?_⟩;have e:=r.length;simp only [qE9]at e;omega
def Inv.tuple {σ:St}(I:Inv X pins σ H s)(h:SqT X.K H a xs):∃its:List Value,Vals xs its/\IsTup s.heap a its.toArray/\xs.length<=sizeLine:=by
 rcases h with h|⟨o,its,n,hk,hc,hs,hz,r⟩
 .obtain ⟨z,its,r,p⟩:=h.ok I.hok;show ⟨its,r,p,z⟩
 .refine ⟨its.toList,r,⟨o,I.kIn a o hk,hc,n,by simpa using hs⟩,?_⟩;have e:=r.length;simp only [qE9]at e;omega
def Inv.list_inj {σ:St}(I:Inv X pins σ H s)(h:SqL X.K H a xs)(h':SqL X.K H a ys):xs=ys:=by
 obtain ⟨its,r,⟨o,n,e,_,_,d⟩,_⟩:=I.list h;obtain ⟨its',r',⟨o',n',e',_,_,d'⟩,_⟩:=I.list h';rw[e]at e';cases e';rw[d]at d';injection d' with d1 _
 have:its=its':=by simpa using congrArg Array.toList d1
 subst this;show r.inj r'
def Inv.tuple_inj {σ:St}(I:Inv X pins σ H s)(h:SqT X.K H a xs)(h':SqT X.K H a ys):xs=ys:=by
 obtain ⟨its,r,⟨o,e,_,n,d⟩,_⟩:=I.tuple h;obtain ⟨its',r',⟨o',e',_,n',d'⟩,_⟩:=I.tuple h';rw[e]at e';cases e';rw[d]at d';injection d' with d1 _
 have:its=its':=by simpa using congrArg Array.toList d1
 subst this;show r.inj r'
abbrev Cx.wish (X:Cx)(E:Zv):Cx:={ X with xe:=E }
abbrev Cx.nox (X:Cx):Cx:=X.wish λ_ _=>False
def Cx.Ok.wish {X:Cx}(ok:X.Ok)(E:Zv):(X.wish E).Ok:=
 ⟨ok.mod,ok.kind,ok.glob,ok.blt,ok.above,ok.inj,ok.has,ok.cab,ok.hd,ok.frames,ok.stk,ok.exf,ok.bs,ok.bsz,ok.noex,ok.exfs,ok.funs,ok.frf⟩
def Cx.Ok.unwish {X:Cx}(ok:(X.wish E).Ok):X.Ok:=
 ⟨ok.mod,ok.kind,ok.glob,ok.blt,ok.above,ok.inj,ok.has,ok.cab,ok.hd,ok.frames,ok.stk,ok.exf,ok.bs,ok.bsz,ok.noex,ok.exfs,ok.funs,ok.frf⟩
def Inv.wish {σ:St}(I:Inv X pins σ H s)(E:Zv):Inv (X.wish E) pins σ H s:=⟨I.ok.wish E,I.os,I.bare,I.base,I.loc,I.cell,I.free,I.freeC,I.pin,I.hok,I.len⟩
def Inv.unwish {σ:St}(I:Inv (X.wish E) pins σ H s):Inv X pins σ H s:=⟨I.ok.unwish,I.os,I.bare,I.base,I.loc,I.cell,I.free,I.freeC,I.pin,I.hok,I.len⟩
def SP.unwish (h:SP (X.wish E) pins D f s'):SP X pins D f s':=by
 cases f with
 |next=>obtain ⟨a3,H',I,q⟩:=h;show ⟨a3,H',I.unwish,q⟩
 |brk=>obtain ⟨a3,H',I,q⟩:=h;show ⟨a3,H',I.unwish,q⟩
 |cont=>obtain ⟨a3,H',I,q⟩:=h;show ⟨a3,H',I.unwish,q⟩
 |ret u=>obtain ⟨v,a3,H',I,r,q⟩:=h;show ⟨v,a3,H',I.unwish,r,q⟩
def PSs.nox {st:List Stmt}(h:PSs X.nox st t):PSs X st t:=λpins s σ H D I hw=>
 qS7 (h pins s σ H D (I.wish _) hw) (λ_ _ q=>q.unwish) λ_ _ z=>False.elim z
def tNext:TS:=λD σ H=>D.nx σ H
def Dz (t u:TS):TS:=λD σ H=>t { D with nx:=u D } σ H
def pss_nil:PSs X [] tNext:=λ_ _ σ H _ I h=>qU6 ⟨σ,H,I,h⟩
def wY {st:Stmt}{rest:List Stmt}(h1:PS X st t)(h2:PSs X rest u):PSs X (st::rest) (Dz t u):=by
 intro pins s σ H D I h;refine wpAny_execs_cons (thn (h1 pins s σ H { D with nx:=u D } I h) λf s1 q=>?_);cases f with
 | next=>
  obtain ⟨a3,H',I',q⟩:=q;show h2 pins s1 a3 H' D I' q
 |ret v=>show q
 |brk=>show q
 |cont=>show q
def AS {st:Stmt}(h1:PS X st t):PSs X [st] t:=by
 intro pins s σ H D I h;refine wpAny_execs_cons (thn (h1 pins s σ H D I h) λf s1 q=>?_);cases f with
 |next=>show qU6 q
 |ret v=>show q
 |brk=>show q
 |cont=>show q
def tCont:TS:=λD σ H=>D.ct σ H
def ps_continue:PS X (.Continue pos) tCont:=λ_ _ σ H _ I h=>wpAny_Continue ⟨σ,H,I,h⟩
def Inv.quiet {σ:St}(I:Inv X pins σ H s):interactive X.env=false:=by simp [interactive,I.ok.kind]
def qB (I:TE):TS:=λD σ H=>I σ H λ_ H1=>D.nx σ H1
def oZ (he:PE X e te)(hs:swapsWith e none pos.line X.env=pure false:=by rfl):PS X (.Expr e pos) (qB te):=by
 intro pins s σ H D I h;show wpAny_Expr_any (thn (he pins s σ H _ I h) λv s1 a3=>by obtain ⟨x,H1,I1,r1,q1⟩:=a3;show ⟨σ,H1,I1,q1⟩) I.quiet hs
def qA (I:TE):TS:=λD σ H=>I σ H D.rt
def tR (he:PE X e te):PS X (.Return (some e) pos) (qA te):=by
 intro pins s σ H D I h;show wpAny_Return_some (thn (he pins s σ H _ I h) λv s1 a3=>by obtain ⟨x,H1,I1,r1,q1⟩:=a3;show ⟨x,σ,H1,I1,r1,q1⟩)
def DE (c:TT)(t u:TS):TS:=λD σ H=>c σ H λb H1=>if b=true then t D σ H1 else u D σ H1
def Jq (hc:PT X c tc)(ha:PSs X a t)(hb:PSs X b u):PS X (.If c a b pos) (DE tc t u):=by
 intro pins s σ H D I h;refine wpAny_If (thn (hc pins s σ H _ I h) λd s1 a3=>?_);obtain ⟨H1,I1,q1⟩:=a3;cases d with
 |true=>show ha pins s1 σ H1 D I1 q1
 |false=>show hb pins s1 σ H1 D I1 q1
def tNever:TS:=λ_ _ _=>False
def ps_never {st:Stmt}:PS X st tNever:=λ_ _ _ _ _ _ h=>h.elim
abbrev TG:=V->St->Hp->(St->Hp->Prop)->Prop
abbrev TGs:=List V->St->Hp->(St->Hp->Prop)->Prop
def PG (X:Cx)(target:Expr)(t:TG):Prop:=
 ∀ (pins:VZ) (s:Shared) (σ:St) (H:Hp) (v:V) (u:Value) (Q:St->Hp->Prop),Inv X pins σ H s->RelV v u->t v σ H Q ->
  wpAny (model X.prog X.w) X.A (assign target X.env u) (λ_ s'=>∃I H',Inv X pins I H' s'/\Q I H') X.xe s
def PGs (X:Cx)(ts:Zz)(t:TGs):Prop:=
 ∀ (pins:VZ) (s:Shared) (σ:St) (H:Hp) (vs:List V) (us:VY) (Q:St->Hp->Prop),Inv X pins σ H s->Vals vs us->t vs σ H Q ->
  wpAny (model X.prog X.w) X.A (assignInOrder ((assignEach ts X.env).map (·.2)) us) (λ_ s'=>∃I H',Inv X pins I H' s'/\Q I H') X.xe s
abbrev TSet:=V->V->V->Hp->(Hp->Prop)->Prop
def IV (X:Cx)(t:TSet):Prop:=
 ∀ (pins:VZ) (s:Shared) (σ:St) (H:Hp) (o i v:V) (ov I u:Value) (Q:Hp->Prop),Inv X pins σ H s->RelV o ov->RelV i I->RelV v u->t o i v H Q ->
  wpAny (model X.prog X.w) X.A (setItem ov I u) (λ_ s'=>∃H',Inv X pins σ H' s'/\Q H') X.xe s
abbrev TIp:=V->V->Hp->VK->Prop
def PIp (X:Cx)(I:Operator)(t:TIp):Prop:=
 ∀ (pins:VZ) (s:Shared) (σ:St) (H:Hp) (x y:V) (v u:Value) (Q:VK),Inv X pins σ H s->RelV x v->RelV y u->t x y H Q ->
  wpAny (model X.prog X.w) X.A (inplaceOp I v u) (EP X pins σ Q) X.xe s
def L6 (i:Nat):TG:=λv σ H Q=>Q (σ.set i (some v)) H
def d4 {X:Cx}{pos:Pos}{i:Nat}{x:Str}(hN:X.N.Nodup)(hi:X.N[i]?=some x)(hx:Loc X.env.scope x)(hf:X.fn x=true\/X.env.scope.names.lookup x=some .local:=by first|show .inl rfl|show .inr rfl|assumption):PG X (.Name x pos) (L6 i):=by
 intro pins s σ H v u Q I r h;show wpAny_assign_Name (fN I hN hi hx r (λs' I'=>⟨_,H,I',h⟩) hf)
def gNil:TGs:=λvs σ H Q=>vs = []/\Q σ H
def rD (t:TG)(u:TGs):TGs:=λvs σ H Q=>∃v r,vs=v::r/\t v σ H λI H'=>u r I H' Q
def D0:PGs X [] gNil:=by
 intro pins s σ H vs us Q I r h;obtain ⟨e,h⟩:=h;subst e;cases r;show assignInOrder_nil ⟨σ,H,I,h⟩
def j8 (h1:PG X e t)(h2:PGs X es u)(hs:(assignEach (e::es) X.env).map (·.2)=assign e X.env::(assignEach es X.env).map (·.2):=by rfl):PGs X (e::es) (rD t u):=by
 intro pins s σ H vs us Q I r h;obtain ⟨v,vr,e1,h⟩:=h;subst e1;cases r with
 | cons r rr=>
  rw[hs];refine assignInOrder_cons (thn (h1 pins s σ H _ _ _ I r h) λ_ s1 a3=>?_);obtain ⟨a4,H1,I1,q1⟩:=a3;show h2 pins s1 a4 H1 _ _ Q I1 rr q1
def rC (K:Frag)(n:Nat)(t:TGs):TG:=λv σ H Q=>∃a xs,v=.ref a/\SqT K H a xs/\xs.length=n/\t xs σ H Q
def Fz {X:Cx}{pos:Pos}{es:Zz}{k:Nat}{t:TGs}{n:Nat}(hc:X.calm=true)(h:PGs X es t)(hn:(assignEach es X.env).length=n:=by rfl)(a3:(assignEach es X.env).findIdx? (·.1)=none:=by rfl):PG X (.Tuple es k pos) (rC X.K n t):=by
 intro pins s σ H v u Q I r hw;obtain ⟨a,xs,e1,hq,hl,hw⟩:=hw;subst e1;cases r;obtain ⟨its,rv,ht,hz⟩:=I.tuple hq;refine assign_Tuple_tuple (I.ok.hd hc) ht (by simp [hn,<- hl,rv.length]) a3 λh' hx=>?_;have I1:Inv X pins σ H { s with heap:=h' }:=I.kept (t':=s.toks) λb o e=>hx b o (qD9 (qB5 e)) e;show h pins _ σ H xs _ Q I1 (by simpa using rv) hw
def gSub (I ti:TE)(t:TSet):TG:=λv σ H Q=>I σ H λo H1=>ti σ H1 λi H2=>t o i v H2 λH3=>Q σ H3
def V0 {X:Cx}{pos:Pos}{o i:Expr}{to ti:TE}{t:TSet}(ho:PE X o to)(hi:PE X i ti)(hs:IV X t) (ha:∀v,assign (.Subscript o i pos) X.env v=(do
   let ov <- holding [v] (eval o X.env)
   let iv <- holding [v,ov] (eval i X.env)
   standAt pos
   holding [v,ov,iv] (setItem ov iv v)
   release [v,ov,iv] []):=by intro _;rfl):PG X (.Subscript o i pos) (gSub to ti t):=by
 intro pins s σ H v u Q I r h;rw[ha];refine qA1 (qR7 (thn (ho pins s σ H _ I h) λov s1 a4=>?_));obtain ⟨x,H1,I1,r1,q1⟩:=a4;refine qA1 (qR7 (thn (hi pins s1 σ H1 _ I1 q1) λiv s2 a3=>?_));obtain ⟨y,H2,I2,r2,q2⟩:=a3;refine qA1 (wpAny_standAt (qA1 (qR7 (thn (hs pins s2 σ H2 x y v ov iv u _ I2 r1 r2 r q2) λ_ s3 a5=>?_))));obtain ⟨H3,I3,q3⟩:=a5;show wpAny_release ⟨σ,H3,I3,q3⟩
def Y2 (I:TE)(g:TG):TS:=λD σ H=>I σ H λx H1=>g x σ H1 D.nx
def tS {X:Cx}{pos:Pos}{tg e:Expr}{te:TE}{g:TG}(he:PE X e te)(hg:PG X tg g)(hs:swapsWithSole [tg] e pos.line X.env=pure false:=by rfl)(hw:swappedStores [tg] e X.env=pure none:=by rfl)(h1:(assignEach [tg] X.env).map (·.2) = [assign tg X.env]:=by rfl):PS X (.Assign [tg] e pos) (Y2 te g):=by
 intro pins s σ H D I h;refine wpAny_Assign_stores (thn (he pins s σ H _ I h) λv s1 a3=>?_) hs hw;obtain ⟨x,H1,I1,r1,q1⟩:=a3;rw[h1];show thn (hg pins s1 σ H1 x v _ I1 r1 q1) λ_ s2 q=>q
def bp {X:Cx}{pos:Pos}{i:Nat}{x:Str}{e:Expr}{te:TE}{pos':Pos}(hN:X.N.Nodup)(hi:X.N[i]?=some x)(hx:Loc X.env.scope x)(he:PE X e te)(hs:swapsWith e (some (.Name x pos')) pos.line X.env=pure false:=by rfl)(hf:X.fn x=true\/X.env.scope.names.lookup x=some .local:=by first|show .inl rfl|show .inr rfl|assumption):
  PS X (.Assign [.Name x pos'] e pos) (Y2 te (L6 i)):=by
 intro pins s σ H D I h;refine wpAny_Assign_Name (thn (he pins s σ H _ I h) λv s1 a3=>?_) hs;obtain ⟨y,H1,I1,r1,q1⟩:=a3;show fN I1 hN hi hx r1 (λs2 I2=>⟨_,H1,I2,q1⟩) hf
def DG (i:Nat)(I:TE)(ti:TIp):TS:=λD σ H=>∃x,σ[i]?=some (some x)/\I σ H λy H1=>ti x y H1 λz H2=>D.nx (σ.set i (some z)) H2
def Ft (hN:X.N.Nodup)(hi:X.N[i]?=some x)(hx:Loc X.env.scope x)(he:PE X e te)(ho:PIp X op ti)(hf:X.fn x=true\/X.env.scope.names.lookup x=some .local:=by first|show .inl rfl|show .inr rfl|assumption):
  PS X (.AugAssign (.Name x pos') op e pos) (DG i te ti):=by
 intro pins s σ H D I h;obtain ⟨v,e1,h⟩:=h;obtain ⟨m,hn,hl⟩:=I.loc;have a7:Vis X.env.scope x:=by rcases hx with k|k;show .inl k;show .inr (.inl k)
 obtain ⟨u,r,l⟩:=hl i x v hi e1 a7;refine wpAny_AugAssign_Name ?_;have go:wpAny (model X.prog X.w) X.A (eval e X.env) (λw a3=>wpAny (model X.prog X.w) X.A (inplaceOp op u w) (λr a5=>wpAny (model X.prog X.w) X.A (storeName X.env x r) (λ_=>SP X pins D .next) X.xe a5) X.xe a3) X.xe s:=by
  refine thn (he pins s σ H _ I h) λw s1 a4=>?_;obtain ⟨y,H1,I1,r1,q1⟩:=a4;refine thn (ho pins s1 σ H1 v y u w _ I1 r r1 q1) λz s2 a6=>?_;obtain ⟨zv,H2,I2,r2,q2⟩:=a6;show fN I2 hN hi hx r2 (λs3 I3=>⟨_,H2,I3,q2⟩) hf
 rcases l with ⟨hk,hm⟩|⟨hk,c,hc,hcell⟩
 .show wpAny_loadName_local I.ok.kind hk hn hm go
 .rcases hk with hk|hk
  .show wpAny_loadName_cell I.ok.kind hk hc hcell go
  .rcases hx with k|k
   .have:X.env.scope.names.lookup x=some .free:=hk
    rw[k]at this;cases this
   .have:X.env.scope.names.lookup x=some .free:=hk
    rw[k]at this;cases this
def ipI (f:Int->Int->Int):TIp:=λx y H Q=>∃i j,x=.int i/\y=.int j/\Q (.int (f i j)) H
def va:PIp X .Add (ipI λi j=>i+j):=by
 intro pins s σ H x y v u Q I r1 r2 h;obtain ⟨i,j,e1,e2,q⟩:=h;subst e1;subst e2;obtain ⟨t,rfl⟩:=r1;obtain ⟨t',rfl⟩:=r2;show iadd_int ⟨.int _,H,I.tok _,⟨_,rfl⟩,q⟩
def sO (c:TT)(tb:TS):TS:=λD σ H=>∃W:Nat->St->Hp->Prop,(∃m,W m σ H)/\∀m σ H,W m σ H ->
 c σ H λb H1=>if b=true then ∃N:St->Hp->Prop,(∀I H',N I H'->∃m',m'<m/\W m' I H')/\tb { D with nx:=N,ct:=N,bk:=D.nx } σ H1 else D.nx σ H1
def wZ (hp:PassesOwn (model X.prog X.w) X.A X.env X.xe)(hc:PT X c tc)(hb:PSs X body tb):PS X (.While c body [] pos) (sO tc tb):=by
 intro pins s σ H D I h;obtain ⟨W,⟨m0,w0⟩,turn⟩:=h;refine wpAny_While (codeAny_whileLoop (λn s'=>∃a5 H',Inv X pins a5 H' s'/\W n a5 H') ?_ m0 ⟨σ,H,I,w0⟩);rintro n s1 ⟨a4,H1,I1,w1⟩;refine qS0 hp (thn (hc pins s1 a4 H1 _ I1 (turn n a4 H1 w1)) λb s2 a6=>?_);obtain ⟨H2,I2,q2⟩:=a6;cases b with
 | true=>
  obtain ⟨N,hN,q2⟩:=q2;rw[qA2 rfl];refine qS0 hp (thn (hb pins s2 a4 H2 _ I2 q2) λf s3 q3=>?_);cases f with
  | next=>
   obtain ⟨a3,H3,I3,n3⟩:=q3;obtain ⟨m',hm,w3⟩:=hN a3 H3 n3;show ⟨m',hm,a3,H3,I3,w3⟩
  | cont=>
   obtain ⟨a3,H3,I3,n3⟩:=q3;obtain ⟨m',hm,w3⟩:=hN a3 H3 n3;show ⟨m',hm,a3,H3,I3,w3⟩
  |brk=>show q3
  |ret v=>show q3
 | false=>
  rw[qA4 qA3];show qU6 ⟨a4,H2,I2,q2⟩
structure It where
 go:Nat->Hp->Prop
 yld:Nat->Hp->V->Hp->Prop
 stop:Nat->Hp->Prop
def L4 (X:Cx)(pins:VZ)(H:Hp)(b:Addr):Prop:=
 H b=none/\b≠X.env.locals/\b∉X.fs/\(b∈X.ex\/X.s₀.heap.objs.size<=b)/\(∀x c,X.env.cells.lookup x=some c->c≠b)/\∀p∈X.pn++pins,p.1≠b
def Inv.fpOk {σ:St}{b:Addr}(I:Inv X pins σ H s)(hb:s.heap.objs.size<=b)(hn:H' b=none):L4 X pins H' b:=by
 refine ⟨hn,qP4 (qB3 I.lt hb),I.nofs hb,.inr (qA8 I.sz hb),λx c e z=>?_,λp hp z=>?_⟩
 .obtain ⟨v,q⟩:=I.cell x c e;show absurd (qB3 q.lt (by rw[z];show hb)) (qF5 _)
 .show absurd (qB3 (qB5 (I.pin p hp).1) (by rw[z];show hb)) (qF5 _)
structure Turn (P:Program) (w:World) (K:Frag) (tg:Expr) (J:It) (fp:List Addr) (it:Addr) (tn:Nat->Heap->Prop):Prop where
 mem:it∈fp
 obj:∀i h,tn i h->∀b∈fp,∃o,h.get? b=some o/\∀v,o.data≠.cell v
 keep:∀i h h',tn i h->(∀b∈fp,∀o,h.get? b=some o->h'.get? b=some o)->tn i h'
 item:∀(X:Cx),X.prog=P->X.w=w->X.K=K->X.calm=true->∀(i:Nat) (pins:VZ) (s:Shared) (σ:St) (H:Hp) (E:Zv),Inv X pins σ H s->(∀b∈fp,L4 X pins H b)->tn i s.heap->J.go i H ->
  wpAny (model P w) X.A (pyNext (.ref it)) (λr s1=>∃u,r=some u /\
   wpAny (model P w) X.A (letOwnedTupleGo tg (.ref it) u) (λ_ s2=>∃x H',Inv X pins σ H' s2/\RelV x u/\J.yld i H x H'/\tn (i+1) s2.heap/\∀b∈fp,H' b=none) E s1) E s
 done:∀(X:Cx),X.prog=P->X.w=w->X.K=K->X.calm=true->∀(i:Nat) (pins:VZ) (s:Shared) (σ:St) (H:Hp) (E:Zv),Inv X pins σ H s->(∀b∈fp,L4 X pins H b)->tn i s.heap->J.stop i H ->
  wpAny (model P w) X.A (pyNext (.ref it)) (λr s1=>r=none/\Inv X pins σ H s1) E s
 self:∀(A:Around) (i:Nat) (s:Shared) (Q:Zv) (E:Zv),tn i s.heap->Q (.ref it) s->wpAny (model P w) A (pyIter (.ref it)) Q E s
abbrev TI:=St->Hp->(It->Hp->Prop)->Prop
def PIE (X:Cx)(pins:VZ)(σ:St)(tg:Expr)(R:It->Hp->Prop)(I:Value)(s2:Shared):Prop:=
 ∃(it:Addr) (fp:List Addr) (tn:Nat->Heap->Prop) (J:It) (H':Hp),I=.ref it/\Inv X pins σ H' s2/\Turn X.prog X.w X.K tg J fp it tn/\tn 0 s2.heap/\(∀b∈fp,L4 X pins H' b)/\R J H'
def PI (X:Cx)(tg iter:Expr)(I:TI):Prop:=
 ∀ (pins:VZ) (s:Shared) (σ:St) (H:Hp) (R:It->Hp->Prop),Inv X pins σ H s->I σ H R ->
  wpAny (model X.prog X.w) X.A (eval iter X.env) (λv s1=>wpAny (model X.prog X.w) X.A (pyIter v) (PIE X pins σ tg R) X.xe s1) X.xe s
def lD (ho:s.heap.get? it=some o)(hc:o.cls=.type n)(hd:o.data=.fields vs)(hn:["enumerate","zip","dict_itemiterator","dict_reverseitemiterator","odict_iterator","itertools.zip_longest","itertools.pairwise"].contains n=false)(I:Q () s):wpAny M A (letOwnedTupleGo tg (.ref it) u) Q E s:=by
  unfold letOwnedTupleGo;cases tg <;> first
    |show qQ5 I
    | (cases u <;> first
        |show qQ5 I
        | (refine qA1 (wpAny_load ho ?_)
           rw[hc,hd]
           change wpAny M A (if (["enumerate","zip","dict_itemiterator","dict_reverseitemiterator","odict_iterator","itertools.zip_longest","itertools.pairwise"].contains n&&vs[0]? == some (rawInt _))=true then _ else _) Q E s;rw[qA4 (by intro h;rw[hn,qV8]at h;cases h)];show qQ5 I))
def Itl (K:Frag)(a:Addr):It:=
 ⟨λi H=>∃xs x,SqL K H a xs/\xs[i]?=some x,λi H x H'=>H'=H/\∀xs,SqL K H a xs->xs[i]?=some x,λi H=>∃xs,SqL K H a xs/\xs.length<=i⟩
def Itt (K:Frag)(a:Addr):It:=
 ⟨λi H=>∃xs x,SqT K H a xs/\xs[i]?=some x,λi H x H'=>H'=H/\∀xs,SqT K H a xs->xs[i]?=some x,λi H=>∃xs,SqT K H a xs/\xs.length<=i⟩
def Itr (lo:Int)(n:Nat):It:=⟨λi _=>i<n,λi H x H'=>H'=H/\x=.int (lo+i),λi _=>n<=i⟩
def sK {K:Frag}(a it:Addr):Turn P w K tg (Itl K a) [it] it (λi h=>h.IsListIter it a i) where
 mem:=ZW
 obj:=λi h st b hb=>by
  have e:b=it:=by simpa using hb
  subst e;obtain ⟨o,e,c,d⟩:=st;show ⟨o,e,λv z=>by rw[d]at z;cases z⟩
 keep:=λi h h' st k=>st.at λo e=>k it ZW o e
 item:=by
  intro X hP hw hK hc i pins s σ H E I hf st hg;subst hP hw hK;obtain ⟨xs,x,hq,hx⟩:=hg;obtain ⟨its,rv,p,hz⟩:=I.list hq;obtain ⟨u,hu,ru⟩:=rv.get hx;obtain ⟨f0,f1,f2,f3,f4,f5⟩:=hf it ZW;refine wpAny_pyNext_list_item st p.isList (x:=u) (by simpa using hu) λh' a3 sb=>?_;have I1:Inv X pins σ H { s with heap:=h' }:=I.turned (t':=s.toks) (λb o hb e=>(sb.2 b hb).trans e) f0 f1 f3 f4 f5;obtain ⟨o,e,c,d⟩:=id a3;show ⟨u,rfl,lD (s:={ s with heap:=h' }) e c d ZU ⟨x,H,I1,ru,⟨rfl,λys hy=>by rw[I.list_inj hy hq];show hx⟩,a3,λb hb=>(hf b hb).1⟩⟩
 done:=by
  intro X hP hw hK hc i pins s σ H E I hf st hg;subst hP hw hK;obtain ⟨xs,hq,hx⟩:=hg;obtain ⟨its,rv,p,hz⟩:=I.list hq;obtain ⟨f0,f1,f2,f3,f4,f5⟩:=hf it ZW;have hl:=rv.length;show wpAny_pyNext_list_end (I.ok.hd hc) st p.isList (by simp;omega) λh' eb=>⟨rfl,I.turned (t':=s.toks) (λb o hb e=>eb b o hb e) f0 f1 f3 f4 f5⟩
 self:=λ_ _ _ _ _ st h=>wpAny_pyIter_listiter st h
def qx {K:Frag}(a it:Addr):Turn P w K tg (Itt K a) [it] it (λi h=>h.IsTupleIter it a i) where
 mem:=ZW
 obj:=λi h st b hb=>by
  have e:b=it:=by simpa using hb
  subst e;obtain ⟨o,e,c,d⟩:=st;show ⟨o,e,λv z=>by rw[d]at z;cases z⟩
 keep:=λi h h' st k=>st.at λo e=>k it ZW o e
 item:=by
  intro X hP hw hK hc i pins s σ H E I hf st hg;subst hP hw hK;obtain ⟨xs,x,hq,hx⟩:=hg;obtain ⟨its,rv,p,hz⟩:=I.tuple hq;obtain ⟨u,hu,ru⟩:=rv.get hx;obtain ⟨f0,f1,f2,f3,f4,f5⟩:=hf it ZW;refine wpAny_pyNext_tuple_item st (show s.heap.IsTuple a its.toArray from p) (x:=u) (by simpa using hu) λh' a3 sb=>?_;have I1:Inv X pins σ H { s with heap:=h' }:=I.turned (t':=s.toks) (λb o hb e=>(sb.2 b hb).trans e) f0 f1 f3 f4 f5;obtain ⟨o,e,c,d⟩:=id a3;show ⟨u,rfl,lD (s:={ s with heap:=h' }) e c d ZU ⟨x,H,I1,ru,⟨rfl,λys hy=>by rw[I.tuple_inj hy hq];show hx⟩,a3,λb hb=>(hf b hb).1⟩⟩
 done:=by
  intro X hP hw hK hc i pins s σ H E I hf st hg;subst hP hw hK;obtain ⟨xs,hq,hx⟩:=hg;obtain ⟨its,rv,p,hz⟩:=I.tuple hq;obtain ⟨f0,f1,f2,f3,f4,f5⟩:=hf it ZW;have hl:=rv.length;show wpAny_pyNext_tuple_end (I.ok.hd hc) st (show s.heap.IsTuple a its.toArray from p) (by simp;omega) λh' eb=>⟨rfl,I.turned (t':=s.toks) (λb o hb e=>eb b o hb e) f0 f1 f3 f4 f5⟩
 self:=λ_ _ _ _ _ st h=>wpAny_pyIter_tupleiter st h
def qy {K:Frag}(it:Addr)(lo:Int)(n:Nat):Turn P w K tg (Itr lo n) [it] it (λi h=>IsRangeIter h it (lo+(i:Nat)*1) ((n:Int)-(i:Nat)) 1) where
 mem:=ZW
 obj:=λi h st b hb=>by
  have e:b=it:=by simpa using hb
  subst e;show ⟨_,st,λv z=>by
   have z':Data.fields _=Data.cell v:=z;cases z'⟩
 keep:=λi h h' st k=>k it ZW _ st
 item:=by
  intro X hP hw hK hc i pins s σ H E I hf st hg;subst hP hw hK;obtain ⟨f0,f1,f2,f3,f4,f5⟩:=hf it ZW;have W:=Walks.range (prog:=X.prog) (w:=X.w) (I.ok.hd hc) it lo 1 n;refine W.item i s _ _ hg st λv h' tk hv a3 kk=>?_;obtain ⟨t,rfl⟩:=hv;have I1:Inv X pins σ H { s with heap:=h',toks:=tk }:=I.turned (λb o hb e=>kk b o (by simpa using hb) e) f0 f1 f3 f4 f5;refine ⟨_,rfl,lD (s:={ s with heap:=h',toks:=tk }) (n:="range_iterator") a3 rfl rfl ZU ⟨.int (lo+i),H,I1,⟨t,?_⟩,⟨rfl,rfl⟩,a3,λb hb=>(hf b hb).1⟩⟩;rw[Int.mul_one]
 done:=by
  intro X hP hw hK hc i pins s σ H E I hf st hg;subst hP hw hK;obtain ⟨f0,f1,f2,f3,f4,f5⟩:=hf it ZW;show wpAny_pyNext_range_end (I.ok.hd hc) st (by have:n<=i:=hg;omega) λh' eb=>⟨rfl,I.turned (t':=s.toks) (λb o hb e=>eb b o hb e) f0 f1 f3 f4 f5⟩
 self:=λ_ _ _ _ _ st h=>wpAny_pyIter_rangeiter st h
def wP {σ:St}{lo:Int}(I:Inv X pins σ H s)(h1:-(2^62)<=lo)(h2:lo<2^62)(h3:-(2^62)<=hi)(h4:hi<2^62)(q:R (Itr lo (hi-lo).toNat) H):wpAny (model X.prog X.w) X.A (pyIter (.ref s.heap.objs.size)) (PIE X pins σ tg R) E { s with heap:=s.heap.push { cls:=.type "range",data:=.fields #[.int lo t,.int hi u,.int 1 v] },toks:=tk }:=by
 refine wpAny_pyIter_range (IsRange.new ..) (small_one h1 h2 h3 h4) ?_;have I1:Inv X pins σ H { s with heap:=s.heap.push { cls:=.type "range",data:=.fields #[.int lo t,.int hi u,.int 1 v] },toks:=tk }:=I.kept λb o e=>qA9 _ e;refine ⟨(s.heap.push { cls:=.type "range",data:=.fields #[.int lo t,.int hi u,.int 1 v] }).objs.size,[(s.heap.push { cls:=.type "range",data:=.fields #[.int lo t,.int hi u,.int 1 v] }).objs.size],_,_,H,rfl,
  I1.kept (t':=tk) λb o e=>qA9 _ e,qy _ lo (hi-lo).toNat,?_,λb hb=>?_,q⟩
 .have e1:lo+((0:Nat):Int)*1=lo:=ZW;have e2:(((hi-lo).toNat:Nat):Int)-((0:Nat):Int)=Builtin.Range.rangeSize lo hi 1:=by rw[rangeSize_one];split <;> omega
  change IsRangeIter _ _ (lo+((0:Nat):Int)*1) ((((hi-lo).toNat:Nat):Int)-((0:Nat):Int)) 1;rw[e1,e2];show qC5 _ rfl
 .have e:b=(s.heap.push { cls:=.type "range",data:=.fields #[.int lo t,.int hi u,.int 1 v] }).objs.size:=by simpa using hb
  subst e;show I1.fpOk (qB2 _) (I1.hok.fresh (qB2 _))
def zr (I:TA):TI:=λσ H R=>I σ H λvs H1=>∃j:Int,vs = [.int j] /\ -(2^62)<=j/\j<2^62/\R (Itr 0 j.toNat) H1
def tX (hg:Gl X "range")(hm:X.mg "range" = none)(ha:PA X [a] ta)(hs:starEach [a] X.env = [(false,eval a X.env)]:=by rfl):PI X tg (.Call (.Name "range" p) [a] [] pos) (zr ta):=by
 intro pins s σ H R I h;refine Call_ (Q9 I hg hm boot_range (qG5 (thn (ha pos pins s σ H _ I h) λus s1 a3=>?_) hs rfl));obtain ⟨vs,H1,I1,r1,q1⟩:=a3;obtain ⟨j,e,q1,q2,q⟩:=q1;subst e;cases r1 with
 | cons r rr=>
  cases rr;obtain ⟨t,rfl⟩:=r;show call_range_1 (wP I1 ox ox q1 q2 (by simpa using q))
def DF (wi:TI)(g:TG)(tb:TS):TS:=λD σ H=>wi σ H λJ H1=>∃W:Nat->Nat->St->Hp->Prop,(∃m,W 0 m σ H1)/\∀i m σ H,W i m σ H ->
 (J.stop i H/\D.nx σ H)\/(J.go i H/\∃N:St->Hp->Prop,(∀I H',N I H'->∃m',m'<m/\W (i+1) m' I H')/\∀x H',J.yld i H x H'->g x σ H' λa3 H2=>tb { D with nx:=N,ct:=N,bk:=D.nx } a3 H2)
def dA (fp:List Addr)(h:Heap):List (Addr×Obj):=fp.filterMap λb=>(h.get? b).map λo=>(b,o)
def X3 (hb:b∈fp)(e:h.get? b=some o):(b,o)∈dA fp h:=List.mem_filterMap.mpr ⟨b,hb,by rw[e];rfl⟩
def uq (hp:p∈dA fp h):p.1∈fp/\h.get? p.1=some p.2:=by
 obtain ⟨b,hb,e⟩:=List.mem_filterMap.mp hp;cases q:h.get? b with
 |none=>rw[q]at e;cases e
 | some o=>
  rw[q]at e;have I:(b,o)=p:=Lc e;subst I;show ⟨hb,q⟩
def Inv.pinned {σ:St}(I:Inv X pins σ H s)(hf:∀b∈fp,L4 X pins H b)(ho:∀b∈fp,∃o,s.heap.get? b=some o/\∀v,o.data≠.cell v):Inv X (pins++dA fp s.heap) σ H s:=
 I.pins_of λp hp=>(qC0.mp hp).elim (λz=>I.pin p (qE1 _ z)) λz=>by
  obtain ⟨hb,e⟩:=uq z;obtain ⟨f0,f1,f2,_⟩:=hf p.1 hb;obtain ⟨o,e',d⟩:=ho p.1 hb;rw[e]at e';cases e';show ⟨e,f0,f1,f2,d⟩
def Inv.unpinned {σ:St}(I:Inv X (pins++pl) σ H s):Inv X pins σ H s:=I.pins_of λp hp=>I.pin p (qE1 _ (qE0 _ hp))
def Fs (hp:PassesOwn (model X.prog X.w) X.A X.env X.xe)(hc:X.calm=true)(hi:PI X tg iter wi)(hg:PG X tg g)(hb:PSs X body tb)(hs:∀x,foldedSetIterable iter X.env x=pure x:=by intro _;rfl):PS X (.For tg iter body [] pos) (DF wi g tb):=by
 intro pins s σ H D I h;refine wpAny_For (thn (hi pins s σ H _ I h) λv s1 h1=>thn h1 λbb s2 h2=>?_) hs;obtain ⟨it,fp,tn,J,H2,e,I2,T,b5,f2,W,⟨m0,w0⟩,turn⟩:=h2;subst e
 -- what stays true of the iterator's objects through the loop
 have stat:∀{H':Hp},(∀b∈fp,H' b=none)->∀b∈fp,L4 X pins H' b:=λhn b hb=>⟨hn b hb,(f2 b hb).2⟩;refine codeAny_forLoop_any (λn s'=>∃i a5 H',Inv X pins a5 H' s'/\tn i s'.heap/\(∀b∈fp,H' b=none)/\W i n a5 H') ?_ m0 ⟨0,σ,H2,I2,b5,λb hb=>(f2 b hb).1,w0⟩;rintro n s3 ⟨i,a4,H3,I3,a8,ab,w3⟩;rcases turn i n a4 H3 w3 with ⟨stop,qn⟩|⟨go,N,hN,step⟩
 .refine qS0 hp (thn (T.done X rfl rfl rfl hc i pins s3 a4 H3 X.xe I3 (stat ab) a8 stop) λr s4 ⟨hr,I4⟩=>?_);subst hr;show qU6 ⟨a4,H3,I4,qn⟩
 .refine qS0 hp (thn (T.item X rfl rfl rfl hc i pins s3 a4 H3 X.xe I3 (stat ab) a8 go) λr s4 ⟨u,hr,h4⟩=>?_);subst hr;refine qS0 hp (thn h4 λ_ s5 a9=>?_);obtain ⟨x,H5,I5,r5,y5,a6,b4⟩:=a9;have b0:=I5.pinned (stat b4) (T.obj _ _ a6);refine qS0 hp (thn (hg _ s5 a4 H5 x u _ b0 r5 (step x H5 y5)) λ_ s6 a7=>?_);obtain ⟨b3,H6,I6,q6⟩:=a7;refine qS0 hp (thn (hb _ s6 b3 H6 _ I6 q6) λf s7 q7=>?_);have again:∀{a3:St}{H7:Hp},Inv X (pins++dA fp s5.heap) a3 H7 s7->N a3 H7->∃m,m<n/\∃i a5 H',Inv X pins a5 H' s7/\tn i s7.heap/\(∀b∈fp,H' b=none)/\W i m a5 H':=λ{a3 H7} I7 n7=>by
   obtain ⟨m',hm,w7⟩:=hN a3 H7 n7;refine ⟨m',hm,i+1,a3,H7,I7.unpinned,T.keep _ _ _ a6 λb hb o e=>(I7.pin (b,o) (qE1 _ (qE1 _ (X3 hb e)))).1,λb hb=>?_,w7⟩;obtain ⟨o,e,d⟩:=T.obj _ _ a6 b hb;show (I7.pin (b,o) (qE1 _ (qE1 _ (X3 hb e)))).2.1
  cases f with
  |next=>obtain ⟨a3,H7,I7,n7⟩:=q7;show again I7 n7
  |cont=>obtain ⟨a3,H7,I7,n7⟩:=q7;show again I7 n7
  |brk=>obtain ⟨a3,H7,I7,q7⟩:=q7;show ⟨a3,H7,I7.unpinned,q7⟩
  |ret v=>obtain ⟨x7,a3,H7,I7,r7,q7⟩:=q7;show ⟨x7,a3,H7,I7.unpinned,r7,q7⟩
abbrev R2:=V->V->Hp->VK->Prop
def OpR (X:Cx)(f:Value->Value->Sem Value)(r:R2):Prop:=
 ∀ (pins:VZ) (s:Shared) (σ:St) (H:Hp) (x y:V) (v u:Value) (Q:VK),Inv X pins σ H s->RelV x v->RelV y u->r x y H Q ->
  wpAny (model X.prog X.w) X.A (f v u) (EP X pins σ Q) X.xe s
def UnR (X:Cx)(f:Value->Sem Value)(r:V->Hp->VK->Prop):Prop:=
 ∀ (pins:VZ) (s:Shared) (σ:St) (H:Hp) (x:V) (v:Value) (Q:VK),Inv X pins σ H s->RelV x v->r x H Q ->
  wpAny (model X.prog X.w) X.A (f v) (EP X pins σ Q) X.xe s
def F2 (X:Cx)(f:Value)(r:List V->Hp->VK->Prop):Prop:=
 ∀ (pins:VZ) (s:Shared) (σ:St) (H:Hp) (xs:List V) (us:VY) (Q:VK),Inv X pins σ H s->Vals xs us->r xs H Q ->
  wpAny (model X.prog X.w) X.A (call f us) (EP X pins σ Q) X.xe s
def tOp (r:R2)(ta I:TE):TE:=λσ H Q=>ta σ H λx H1=>I σ H1 λy H2=>r x y H2 Q
def tUn (r:V->Hp->VK->Prop)(I:TE):TE:=λσ H Q=>I σ H λx H1=>r x H1 Q
def rI (C:Int->Int->Prop)(g:Int->Int->V):R2:=λx y H Q=>∃i j,x=.int i/\y=.int j/\C i j/\Q (g i j) H
def rI0 (g:Int->Int->V):R2:=λx y H Q=>∃i j,x=.int i/\y=.int j/\Q (g i j) H
def rU (g:Int->V):V->Hp->VK->Prop:=λx H Q=>∃i,x=.int i/\Q (g i) H
def yF (ha:PE X a ta)(hb:PE X b tb){σ:St}{R:V->V->Hp->Prop}(I:Inv X pins σ H s)(h:ta σ H λx H1=>tb σ H1 λy H2=>R x y H2){f:Value->Value->Sem Value}(hf:∀v u s2 x y H2,Inv X pins σ H2 s2->RelV x v->RelV y u->R x y H2->wpAny (model X.prog X.w) X.A (f v u) Q X.xe s2):
  wpAny (model X.prog X.w) X.A (eval a X.env) (λv a3=>wpAny (model X.prog X.w) X.A (eval b X.env) (λu a4=>wpAny (model X.prog X.w) X.A (f v u) Q X.xe a4) X.xe a3) X.xe s:=by
 refine thn (ha pins s σ H _ I h) λv s1 a5=>?_;obtain ⟨x,H1,I1,r1,q1⟩:=a5;refine thn (hb pins s1 σ H1 _ I1 q1) λu s2 a6=>?_;obtain ⟨y,H2,I2,r2,q2⟩:=a6;show hf v u s2 x y H2 I2 r1 r2 q2
def JB (ho:OpR X (binaryOp op) r)(ha:PE X a ta)(hb:PE X b tb):PE X (.BinOp a op b pos) (tOp r ta tb):=by
 intro pins s σ H Q I h;show wpAny_BinOp (yF ha hb I h λv u s2 x y H2 I2 rx ry q=>ho pins s2 σ H2 x y v u Q I2 rx ry q)
def JA (ho:UnR X (unaryOp op) r)(ha:PE X a ta):PE X (.UnaryOp op a pos) (tUn r ta):=by
 intro pins s σ H Q I h;show UnaryOp_ (thn (ha pins s σ H _ I h) λv s1 a3=>by obtain ⟨x,H1,I1,r1,q1⟩:=a3;show ho pins s1 σ H1 x v Q I1 r1 q1)
def opI {g:Int->Int->Int}(rule:∀(i j:Int) (t u:Tok) (s:Shared) (Q:Zv) (E:Zv),C i j->Q (.int (g i j) s.toks) { s with toks:=s.toks+1 }->wpAny (model X.prog X.w) X.A (f (.int i t) (.int j u)) Q E s):
  OpR X f (rI C λi j=>.int (g i j)):=by
 intro pins s σ H x y v u Q I rx ry h;obtain ⟨i,j,rfl,rfl,hc,q⟩:=h;obtain ⟨t,rfl⟩:=rx;obtain ⟨t',rfl⟩:=ry;show rule i j t t' s _ _ hc ⟨.int (g i j),H,I.tok _,⟨_,rfl⟩,q⟩
def FI {g:Int->Int->Int}(rule:∀(i j:Int) (t u:Tok) (s:Shared) (Q:Zv) (E:Zv),Q (.int (g i j) s.toks) { s with toks:=s.toks+1 }->wpAny (model X.prog X.w) X.A (f (.int i t) (.int j u)) Q E s):
  OpR X f (rI0 λi j=>.int (g i j)):=by
 intro pins s σ H x y v u Q I rx ry h;obtain ⟨i,j,rfl,rfl,q⟩:=h;obtain ⟨t,rfl⟩:=rx;obtain ⟨t',rfl⟩:=ry;show rule i j t t' s _ _ ⟨.int (g i j),H,I.tok _,⟨_,rfl⟩,q⟩
def FJ {g:Int->Int->Bool}(rule:∀(i j:Int) (t u:Tok) (s:Shared) (Q:Zv) (E:Zv),Q (.bool (g i j)) s->wpAny (model X.prog X.w) X.A (f (.int i t) (.int j u)) Q E s):
  OpR X f (rI0 λi j=>.bl (g i j)):=by
 intro pins s σ H x y v u Q I rx ry h;obtain ⟨i,j,rfl,rfl,q⟩:=h;obtain ⟨t,rfl⟩:=rx;obtain ⟨t',rfl⟩:=ry;show rule i j t t' s _ _ ⟨.bl (g i j),H,I,rfl,q⟩
def w6 (i j:Int):Prop:=0<j/\j<1073741824
def gB (i j:Int):Prop:=0<=j/\j<=1000000/\i.natAbs<2^64
def CMul (i j:Int):Prop:=(-(2^64)<i/\i<2^64)\/(-(2^64)<j/\j<2^64)
def CMul.ok (h:CMul i j):IntMulOk i j:=by
 rcases h with ⟨h1,h2⟩|⟨h1,h2⟩
 .show .of_left (intBits_le_64 h1 h2)
 .show .of_right (intBits_le_64 h1 h2)
def t8:OpR X (binaryOp .Add) (rI0 λi j=>.int (i+j)):=FI λ_ _ _ _ _ _ _ q=>add_int q
def Y9:OpR X (binaryOp .Sub) (rI0 λi j=>.int (i-j)):=FI λ_ _ _ _ _ _ _ q=>sub_int q
def D2:OpR X (binaryOp .FloorDiv) (rI w6 λi j=>.int (i/j)):=opI λi j _ _ _ _ _ hc q=>by
 have h1:(0:Int)<j:=hc.1;have I:j<1073741824:=hc.2;show floordiv_int ox (by rw[Int.fdiv_eq_ediv_of_nonneg i ox];show q) (.inl (PyProof.noPylong_small ox))
def v6:OpR X (binaryOp .Mod) (rI (λ_ j=>0<j) λi j=>.int (i%j)):=opI λi j _ _ _ _ _ hc q=>by
 have h1:(0:Int)<j:=hc;show mod_int' ox (by rw[Int.fmod_eq_emod_of_nonneg i ox];show q)
def FG:OpR X (binaryOp .Pow) (rI gB λi j=>.int (i^j.toNat)):=opI λ_ _ _ _ _ _ _ hc q=>pow_int_small hc.1 hc.2.1 hc.2.2 q
def unI {g:Int->Int}(rule:∀(i:Int) (t:Tok) (s:Shared) (Q:Zv) (E:Zv),Q (.int (g i) s.toks) { s with toks:=s.toks+1 }->wpAny (model X.prog X.w) X.A (f (.int i t)) Q E s):
  UnR X f (rU λi=>.int (g i)):=by
 intro pins s σ H x v Q I rx h;obtain ⟨i,rfl,q⟩:=h;obtain ⟨t,rfl⟩:=rx;show rule i t s _ _ ⟨.int (g i),H,I.tok _,⟨_,rfl⟩,q⟩
def L8:UnR X (unaryOp .USub) (rU λi=>.int (-i)):=unI λ_ _ _ _ _ q=>neg_int q
def lZ:V->V->Bool
 | .non,.non=>true | .non,.int _=>true | .int _,.non=>true | .non,.bl _=>true | .bl _,.non=>true | .non,.str _=>true | .str _,.non=>true
 | .int _,.int _=>true | .bl _,.bl _=>true | .str _,.str _=>true | .byt _,.byt _=>true
 | .int _,.str _=>true | .str _,.int _=>true | .bl _,.str _=>true | .str _,.bl _=>true
 |_,_=>false
def rEq:R2:=λx y H Q=>lZ x y=true/\Q (.bl (decide (x=y))) H
def rNe:R2:=λx y H Q=>lZ x y=true/\Q (.bl (!decide (x=y))) H
def pY:decide (V.int i=V.int j)=(i == j):=by
 rw[qH4];simp
def vC:decide (V.bl i=V.bl j)=(i == j):=by
 rw[qH4];simp
def pX:decide (V.str i=V.str j)=(i == j):=by
 rw[qH4];simp
def pZ:decide (V.byt i=V.byt j)=(i.toList == j.toList):=by
 rw[qH4];cases i;cases j;simp
def n5 {σ:St}(I:Inv X pins σ H s)(q:Q (.bl k) H)(e:k=k'):EP X pins σ Q (.bool k') s:=by
 subst e;show ⟨.bl k,H,I,rfl,q⟩
def C7:OpR X (compareOp .Eq) rEq:=by
 intro pins s σ H x y v u Q I rx ry h;obtain ⟨hs,q⟩:=h;cases x with
 | non=>
  cases rx;cases y with
  |non=>cases ry;show PySem.EqNone.eq_none_none (n5 I q ZW)
  |bl j=>cases ry;show PySem.EqNone.eq_none_bool (n5 I q ZW)
  |int j=>obtain ⟨t',rfl⟩:=ry;show PySem.EqNone.eq_none_int (n5 I q ZW)
  |str j=>obtain ⟨t',rfl⟩:=ry;show PySem.EqNone.eq_none_str (n5 I q ZW)
  |_=>show absurd (show false=true from hs) qA3
 | bl i=>
  cases rx;cases y with
  |non=>cases ry;show PySem.EqNone.eq_bool_none (n5 I q ZW)
  |bl j=>cases ry;show eq_bool (n5 I q vC)
  |str j=>obtain ⟨t',rfl⟩:=ry;show PySem.EqMixed.eq_bool_str (n5 I q ZW)
  |_=>show absurd (show false=true from hs) qA3
 | int i=>
  obtain ⟨t,rfl⟩:=rx;cases y with
  |non=>cases ry;show PySem.EqNone.eq_int_none (n5 I q ZW)
  |int j=>obtain ⟨t',rfl⟩:=ry;show eq_int (n5 I q pY)
  |str j=>obtain ⟨t',rfl⟩:=ry;show PySem.EqMixed.eq_int_str (n5 I q ZW)
  |_=>show absurd (show false=true from hs) qA3
 | str i=>
  obtain ⟨t,rfl⟩:=rx;cases y with
  |non=>cases ry;show PySem.EqNone.eq_str_none (n5 I q ZW)
  |bl j=>cases ry;show PySem.EqMixed.eq_str_bool (n5 I q ZW)
  |int j=>obtain ⟨t',rfl⟩:=ry;show PySem.EqMixed.eq_str_int (n5 I q ZW)
  |str j=>obtain ⟨t',rfl⟩:=ry;show eq_str (n5 I q pX)
  |_=>show absurd (show false=true from hs) qA3
 | byt i=>
  obtain ⟨t,rfl⟩:=rx;cases y with
  |byt j=>obtain ⟨t',rfl⟩:=ry;show PySem.W.eq_bytes (n5 I q pZ)
  |_=>show absurd (show false=true from hs) qA3
 |_=>cases y <;> show absurd (show false=true from hs) qA3
def gR:OpR X (compareOp .NotEq) rNe:=by
 intro pins s σ H x y v u Q I rx ry h;obtain ⟨hs,q⟩:=h;cases x with
 | non=>
  cases rx;cases y with
  |non=>cases ry;show PySem.EqNone.ne_none_none (n5 I q ZW)
  |bl j=>cases ry;show PySem.EqNone.ne_none_bool (n5 I q ZW)
  |int j=>obtain ⟨t',rfl⟩:=ry;show PySem.EqNone.ne_none_int (n5 I q ZW)
  |str j=>obtain ⟨t',rfl⟩:=ry;show PySem.EqNone.ne_none_str (n5 I q ZW)
  |_=>show absurd (show false=true from hs) qA3
 | bl i=>
  cases rx;cases y with
  |non=>cases ry;show PySem.EqNone.ne_bool_none (n5 I q ZW)
  |bl j=>cases ry;show ne_bool (n5 I q (congrArg not vC))
  |str j=>obtain ⟨t',rfl⟩:=ry;show PySem.EqMixed.ne_bool_str (n5 I q ZW)
  |_=>show absurd (show false=true from hs) qA3
 | int i=>
  obtain ⟨t,rfl⟩:=rx;cases y with
  |non=>cases ry;show PySem.EqNone.ne_int_none (n5 I q ZW)
  |int j=>obtain ⟨t',rfl⟩:=ry;show ne_int (n5 I q (congrArg not pY))
  |str j=>obtain ⟨t',rfl⟩:=ry;show PySem.EqMixed.ne_int_str (n5 I q ZW)
  |_=>show absurd (show false=true from hs) qA3
 | str i=>
  obtain ⟨t,rfl⟩:=rx;cases y with
  |non=>cases ry;show PySem.EqNone.ne_str_none (n5 I q ZW)
  |bl j=>cases ry;show PySem.EqMixed.ne_str_bool (n5 I q ZW)
  |int j=>obtain ⟨t',rfl⟩:=ry;show PySem.EqMixed.ne_str_int (n5 I q ZW)
  |str j=>obtain ⟨t',rfl⟩:=ry;show ne_str (n5 I q (congrArg not pX))
  |_=>show absurd (show false=true from hs) qA3
 | byt i=>
  obtain ⟨t,rfl⟩:=rx;cases y with
  |byt j=>obtain ⟨t',rfl⟩:=ry;show PySem.W.ne_bytes (n5 I q (congrArg not pZ))
  |_=>show absurd (show false=true from hs) qA3
 |_=>cases y <;> show absurd (show false=true from hs) qA3
def eP:OpR X (compareOp .Lt) (rI0 λi j=>.bl (decide (i<j))):=FJ λ_ _ _ _ _ _ _ q=>lt_int q
def X2:OpR X (compareOp .Gt) (rI0 λi j=>.bl (decide (j<i))):=FJ λ_ _ _ _ _ _ _ q=>gt_int q
def gU:OpR X (compareOp .Is) (λx y H Q=>y=.non/\Q (.bl (decide (x=.non))) H):=by
 intro pins s σ H x y v u Q I rx ry h;obtain ⟨rfl,q⟩:=h;cases ry;refine is_none_gen (n5 I q ?_);cases x <;> first
  | (cases rx;rfl)
  | (obtain ⟨t,rfl⟩:=rx;rfl)
def eO:OpR X (compareOp .IsNot) (λx y H Q=>y=.non/\Q (.bl (!decide (x=.non))) H):=by
 intro pins s σ H x y v u Q I rx ry h;obtain ⟨rfl,q⟩:=h;cases ry;refine isnot_none_gen (n5 I q ?_);cases x <;> first
  | (cases rx;rfl)
  | (obtain ⟨t,rfl⟩:=rx;rfl)
def ur (b:Expr)(h:op≠.In:=by decide)(I:op≠.NotIn:=by decide):behindInMarks op b=false:=by
 have e1:(op == CmpOp.In)=false:=by cases op <;> first|rfl|show absurd rfl h
 have e2:(op == CmpOp.NotIn)=false:=by cases op <;> first|rfl|show absurd rfl I
 cases b <;> simp [behindInMarks,e1,e2]
def Ba (ho:OpR X (compareOp op) r)(ha:PE X a ta)(hb:PE X b tb)(hm:behindInMarks op b=false):PE X (.Compare a [op] [b] pos) (tOp r ta tb):=by
 intro pins s σ H Q I h;show wpAny_Compare1 (yF ha hb I h λv u s2 x y H2 I2 rx ry q=>ho pins s2 σ H2 x y v u Q I2 rx ry q) hm
def yQ (t:TE):TT:=λσ H Q=>t σ H λx H'=>∃k,x=.bl k/\Q k H'
def AR (ho:OpR X (compareOp op) r)(ha:PE X a ta)(hb:PE X b tb)(hm:behindInMarks op b=false):PT X (.Compare a [op] [b] pos) (yQ (tOp r ta tb)):=by
 intro pins s σ H Q I h;refine wpAny_isTrue_Compare1 (thn (ha pins s σ H _ I h) λv s1 ⟨x,H1,I1,r1,q1⟩=>thn (hb pins s1 σ H1 _ I1 q1) λu s2 ⟨y,H2,I2,r2,q2⟩=>
  thn (ho pins s2 σ H2 x y v u _ I2 r1 r2 q2) λc s3 ⟨z,H3,I3,r3,k,e,q3⟩=>?_) hm
 subst e;cases r3;show qS1 ⟨H3,I3,q3⟩
def dO:(sizeLine:Nat)<2^63:=by rw[qT9];decide
def vals1 (r:Vals [x] us):∃u,us = [u]/\RelV x u:=by
 cases r with
 |cons r1 I=>cases I;show ⟨_,rfl,r1⟩
def vals2 (r:Vals [x,y] us):∃u I,us = [u,I]/\RelV x u/\RelV y I:=by
 cases r with
 | cons r1 r2=>
  cases r2 with
  |cons r3 r4=>cases r4;show ⟨_,_,rfl,r1,r3⟩
def kN (hc:X.calm=true):F2 X (.builtin "max") (λxs H Q=>∃i j,xs = [.int i,.int j]/\Q (.int (if j>i then j else i)) H):=by
 intro pins s σ H xs us Q I r h;obtain ⟨i,j,rfl,q⟩:=h;obtain ⟨u,w',rfl,⟨t,rfl⟩,⟨t',rfl⟩⟩:=vals2 r;refine max_two_ints (I.ok.hd hc) λh' tk k=>⟨_,H,I.kept k,?_,q⟩;by_cases hj:j>i
 .rw[qA2 hj,qA2 hj];show ⟨_,rfl⟩
 .rw[qA4 hj,qA4 hj];show ⟨_,rfl⟩
def kO:F2 X (.type "int") (λxs H Q=>(∃i,xs = [.int i]/\Q (.int i) H)\/∃k,xs = [.bl k]/\Q (.int (if k then 1 else 0)) H):=by
 intro pins s σ H xs us Q I r h;rcases h with ⟨i,rfl,q⟩|⟨k,rfl,q⟩
 .obtain ⟨u,rfl,t,rfl⟩:=vals1 r;show call_int_int ⟨.int i,H,I,⟨_,rfl⟩,q⟩
 .obtain ⟨u,rfl,r1⟩:=vals1 r;cases r1;show call_int_bool ⟨.int (if k then 1 else 0),H,I.tok _,⟨_,rfl⟩,q⟩
structure ObjM (h:Heap) (x dx C:Addr) (mA:VV):Prop where
 obj:h.get? x=some (PySem.W.instObj C dx)
 ns:h.Ns1 dx mA
 ne:dx≠x
def uK {h:Heap}(n:h.Ns1 dx mA):∃od,h.get? dx=some od/\∀name,PySem.W.lookIn name od=some (mA name):=by
 obtain ⟨o,es,ep,ho,hd,hk,_,hm⟩:=n;refine ⟨o,ho,λname=>?_⟩;have e:=hm name;unfold nsFind findBy at e;rw[<- Array.find?_toList]at e;unfold PySem.W.lookIn;rw[hd];dsimp only
 split
 .rename_i y q
  rw[q]at e;show congrArg some e
 .rename_i q
  rw[q]at e;have a:es.toList.any (·.refKey)=false:=by
   rw[qP9];intro y hy;obtain ⟨z,t,I⟩:=hk y (Array.mem_toList_iff.mp hy);simp [DictEntry.refKey,I]
  have a':¬ es.toList.any (·.refKey)=true:=by rw[a];show qA3
  rw[qA4 a'];show congrArg some e
def ObjM.look (I:ObjM h x dx C mA):∃od,PySem.W.InstAt h x (PySem.W.instObj C dx) C (some od)/\∀name,PySem.W.lookIn name od=some (mA name):=
 let ⟨od,ho,hl⟩:=uK I.ns
 ⟨od,⟨I.obj,rfl,rfl,ho⟩,hl⟩
def BY (hok:HOk P w H h)(e:H a=some (.ins C dx fs)):∃mA,ObjM h a dx C mA/\(∀f,RelO (fs.lookup f) (mA f))/\PySem.Within mA (fs.map (·.1))/\fs.length<=1000/\H dx=some (.own a):=by
 obtain ⟨d,z,ne,ob,mA,n,r,q⟩:=(show ObjOk P w H h a (.ins C dx fs) from hok a _ e);show ⟨mA,⟨ob,n,ne⟩,r,q,z,d⟩
structure Cls (K:Frag) (C:Addr):Prop where
 pg:PySem.W.plainGet K C Str.empty=true
 hd:PySem.W.hasDictIn K C=true
 po:PySem.W.plainOver K C=true
 sa:PySem.W.findIn K (.ref C) "__setattr__" = some (some (.builtin "object.__setattr__"))
def Cls.get {K:Frag}(c:Cls K C)(f:Str):PySem.W.plainGet K C f=true:=c.pg
section
variable {X:Cx}{pins:VZ}{σ:St}{H:Hp}{s:Shared}{A:Around}{E:Zv}{Q:Zv}{c:Value}{b:Bool}
inductive T8 (K:Frag) (H:Hp):V->Value->Prop where
 |non:T8 K H .non (.type "NoneType")
 |bl (x:Bool):T8 K H (.bl x) (.type "bool")
 |int (i:Int):T8 K H (.int i) (.type "int")
 |str (x:Str):T8 K H (.str x) (.type "str")
 |flt (x:UInt64):T8 K H (.flt x) (.type "float")
 |lst {a:Addr}{xs:List V}(e:H a=some (.lst xs)):T8 K H (.ref a) (.type "list")
 |frz {a:Addr}{o:Obj}{xs:List V}(e:H a=some (.frz o (.lst xs))):T8 K H (.ref a) (.type "list")
 |tup {a:Addr}{xs:List V}(e:H a=some (.tup xs)):T8 K H (.ref a) (.type "tuple")
 |dK {a:Addr}{kvs:List (Key×V)}(e:H a=some (.dK kvs)):T8 K H (.ref a) (.type "dict")
 |dT {a:Addr}{kvs:List (List Key×V)}(e:H a=some (.dT kvs)):T8 K H (.ref a) (.type "dict")
 | ins {a C dx:Addr}{fs:List (Str×V)}(e:H a=some (.ins C dx fs)) (cl:Cls K C) (ha:PySem.W.findIn K (.ref C) "__class__" = some (some (.builtin "object.__class__")))
   (hn:PySem.W.specialIn K (.builtin "object.__class__") "__get__" = some (some (.builtin "getset_descriptor.__get__"))) (htk:PySem.W.takesIn K (.builtin "object.__class__")=some true)
   (hm:PySem.W.mroIn K C (.type "object")=some true):T8 K H (.ref a) (.ref C)
def uY (I:Inv X pins σ H s)(rx:RelV x u)(ty:T8 X.K H x t)(e:PySem.W.kitOne X.K t c=some b)(h:∀tk,Q (.bool b) { s with toks:=tk }):
  wpAny (model X.prog X.w) A (call (.builtin "isinstance") [u,c]) Q E s:=by
 cases ty with
 |non=>cases (show u=Value.none from rx);show qH5 PySem.W.kitx_none I.kIn True.intro e (λz=>nomatch z) h
 |bl y=>cases (show u=Value.bool y from rx);show qH5 PySem.W.kitx_bool I.kIn True.intro e (λz=>nomatch z) h
 |int i=>obtain ⟨t,q⟩:=(show ∃t,u=Value.int i t from rx);cases q;show qH5 PySem.W.kitx_int I.kIn True.intro e (λz=>nomatch z) h
 |str y=>obtain ⟨t,q⟩:=(show ∃t,u=Value.str y t from rx);cases q;show qH5 PySem.W.kitx_str I.kIn True.intro e (λz=>nomatch z) h
 |flt y=>obtain ⟨t,q⟩:=(show ∃t,u=Value.float y t from rx);cases q;show qH5 PySem.W.kitx_float I.kIn True.intro e (λz=>nomatch z) h
 | @lst a xs ea=>
  cases (show u=Value.ref a from rx);obtain ⟨_,_,n,_,h1⟩:=(show ObjOk X.prog X.w H s.heap a (.lst xs) from I.hok a _ ea);show qH5 PySem.W.kitx_list I.kIn ⟨_,h1,rfl⟩ e (λz=>nomatch z) h
 | @frz a ob xs ea=>
  cases (show u=Value.ref a from rx);obtain ⟨_,_,_,n,_,h1⟩:=(show ObjOk X.prog X.w H s.heap a (.frz ob (.lst xs)) from I.hok a _ ea);show qH5 PySem.W.kitx_list I.kIn ⟨_,h1,rfl⟩ e (λz=>nomatch z) h
 | @tup a xs ea=>
  cases (show u=Value.ref a from rx);obtain ⟨_,_,_,p⟩:=(show ObjOk X.prog X.w H s.heap a (.tup xs) from I.hok a _ ea);obtain ⟨o,h1,h2,_⟩:=p;show qH5 PySem.W.kitx_tuple I.kIn ⟨o,h1,h2⟩ e (λz=>nomatch z) h
 | @dK a kvs ea=>
  cases (show u=Value.ref a from rx);obtain ⟨_,_,vs,_,p⟩:=(show ObjOk X.prog X.w H s.heap a (.dK kvs) from I.hok a _ ea);obtain ⟨o,es,ep,h1,h2,_⟩:=p;show qH5 PySem.W.kitx_dict I.kIn ⟨o,h1,h2.1⟩ e (λz=>nomatch z) h
 | @dT a kvs ea=>
  cases (show u=Value.ref a from rx);obtain ⟨_,_,xs,_,o,es,ep,h1,h2,_⟩:=(show ObjOk X.prog X.w H s.heap a (.dT kvs) from I.hok a _ ea);show qH5 PySem.W.kitx_dict I.kIn ⟨o,h1,h2.1⟩ e (λz=>nomatch z) h
 | @ins a C dx fs ea cl ha hn htk hm=>
  cases (show u=Value.ref a from rx);obtain ⟨mA,O,_⟩:=BY I.hok ea;obtain ⟨od,J,_⟩:=O.look;show qH5 (PySem.W.kitx_own (cl.get _) cl.hd ha hn htk hm) I.kIn J e (λz=>nomatch z) h
end
structure Room (k:Nat) (A:Around):Prop where
 hd:A.handled=none
 dp:A.depth+3*k+5<recursionLimit
 un:A.units+16*k+200<cLine
def Room.mono (r:Room k A)(h:j<=k):Room j A:=⟨r.hd,by have:=r.dp;omega,by have:=r.un;omega⟩
def Room.deeper (r:Room (k+1) A)(env:Env):Room k (A.deeper env):=
 ⟨r.hd,by have:=r.dp;change A.depth+1+3*k+5<_;omega,by have:=r.un;change A.units+3+16*k+200<_;omega⟩
def Room.depth (r:Room k A):A.depth<recursionLimit:=by have:=r.dp;omega
def Room.units (r:Room k A):A.units+64<cLine:=by have:=r.un;omega
def tNil:TA:=λ_ H Q=>Q [] H
def qC (ta:TE)(I:TA):TA:=λσ H Q=>ta σ H λx H1=>I σ H1 λxs H2=>Q (x::xs) H2
def pa_nil:PA X [] tNil:=λ_ _ _ _ H Q I h=>Calls.spliced_nil ⟨[],H,I,.nil,h⟩
def jf (ha:PE X e te)(hr:PA X es t)(hs:starEach (e::es) X.env=(false,eval e X.env)::starEach es X.env:=by rfl):PA X (e::es) (qC te t):=by
 intro pos pins s σ H Q I h;rw[hs]
 change wpAny _ _ (spliced ((false,eval e X.env)::backTo pos (starEach es X.env))) _ _ s;refine Calls.spliced_cons (thn (ha pins s σ H _ I h) λu s1 a3=>?_);obtain ⟨x,H1,I1,r1,q1⟩:=a3;show thn (hr pos pins s1 σ H1 _ I1 q1) λus s2 a4=>by obtain ⟨xs,H2,I2,r2,q2⟩:=a4;show ⟨x::xs,H2,I2,.cons r1 r2,q2⟩
def wu (t:TA):TE:=λσ H Q=>t σ H λxs H1=>xs.length<=sizeLine/\∀p,H1 p=none->Q (.ref p) (upd H1 p (.tup xs))
def DD (t:TA):TE:=λσ H Q=>t σ H λxs H1=>xs.length<=sizeLine/\∀p,H1 p=none->Q (.ref p) (upd H1 p (.lst xs))
def tZ {x1}(h:PA X es t):PE X (.Tuple es x1 pos) (wu t):=by
 intro pins s σ H Q I hq;refine wpAny_Tuple_spliced (thn (h pos pins s σ H _ I hq) λus s1 ⟨xs,H1,I1,r,z,q⟩=>⟨by rw[<- r.length];show z,?_⟩);have hf:H1 s1.heap.objs.size=none:=I1.hok.fresh (qB2 _);refine ⟨.ref s1.heap.objs.size,upd H1 s1.heap.objs.size (.tup xs),I1.laid (t':=s1.toks) (λb u e=>qA9 _ e) (qB2 _) ?_,rfl,q _ hf⟩;show ⟨z,us,r,⟨_,qC5 _ rfl,rfl,_,rfl⟩⟩
def FC (h:PA X es t):PE X (.List es pos) (DD t):=by
 intro pins s σ H Q I hq;refine wpAny_List_spliced (thn (h pos pins s σ H _ I hq) λus s1 ⟨xs,H1,I1,r,z,q⟩=>⟨by rw[<- r.length];show z,?_⟩);have hf:H1 s1.heap.objs.size=none:=I1.hok.fresh (qB2 _);refine ⟨.ref s1.heap.objs.size,upd H1 s1.heap.objs.size (.lst xs),I1.laid (t':=s1.toks) (λb u e=>qA9 _ e) (qB2 _) ?_,rfl,q _ hf⟩;show ⟨z,us,0,r,qC5 _ rfl⟩
abbrev Sp:=List V->Hp->VK->XK->Prop
abbrev CXT:=List Env->Hp->Shared->XK->Value->Shared->Prop
structure sd (P:Program) (w:World) (K:Frag) (mg:VV) (base:Heap) (A:Around) (outer:List Env) (s:Shared) (H:Hp):Prop where
 frames:A.frames=some outer
 mod:Mod K mg base
 bs:∀b o,base.get? b=some o->s.heap.get? b=some o/\H b=none
 bsz:base.objs.size<=s.heap.objs.size
 funs:s.heap.FunFrames base outer
 frf:∀b∈frs outer,H b=none
 hok:HOk P w H s.heap
 bare:AllBare s.gens
def CE (outer:List Env)(P:Program)(w:World)(H:Hp)(s:Shared)(Q:VK)(u:Value)(s':Shared):Prop:=
 ∃v H',s'.os=s.os/\AllBare s'.gens/\Un (frs outer) [] H H' s.heap s'.heap/\HOk P w H' s'.heap/\RelV v u/\Q v H'
def CR (CX:CXT)(outer:List Env)(P:Program)(w:World)(H:Hp)(s:Shared)(Q:VK)(E:XK)(r:Result)(s':Shared):Prop:=
 match r with
 | .ok (.ret u)=>CE outer P w H s Q u s'
 | .ok _=>False
 | .error e=>CX outer H s E e s'
structure FnOk (P:Program) (w:World) (K:Frag) (mg:VV) (base:Heap) (CX:CXT) (k:Nat) (f:Addr) (fd:FuncData) (ps:Zq) (sp:Sp):Prop where
 len:∀vs H Q E,sp vs H Q E->vs.length=ps.length
 run:∀(A:Around) (outer:List Env) (s:Shared) (H:Hp) (args:Args) (us:VY) (vs:List V) (Q:VK) (E:XK),Room k A->sd P w K mg base A outer s H->BindsTo s fd args (ps.zip us)->Vals vs us->sp vs H Q E ->
  codeAny (model P w) A (.call (.ref f) args) (CR CX outer P w H s Q E) s
def FnOk.imp {K:Frag}(F:FnOk P w K mg base CX k f fd ps sp)(h:∀vs H Q E,sp' vs H Q E->sp vs H Q E):FnOk P w K mg base CX k f fd ps sp':=
 ⟨λvs H Q E q=>F.len vs H Q E (h _ _ _ _ q),λA outer s H args us vs Q E I he hb hv hs=>F.run A outer s H args us vs Q E I he hb hv (h _ _ _ _ hs)⟩
def Inv.env0 {σ:St}(I:Inv X pins σ H s):sd X.prog X.w X.K X.mg X.base X.A X.stack s H:=
 ⟨I.ok.frames,I.ok.mod,I.bs,qA8 I.ok.bsz I.sz,I.stack,I.stkFree,I.hok,I.bare⟩
def Inv.after {σ:St}(I:Inv X pins σ H s)(h:CE X.stack X.prog X.w H s Q u s'):EP X pins σ Q u s':=by
 obtain ⟨v,H',os,bare,un,hok,r,q⟩:=h;obtain ⟨hh,g,d,t,a3⟩:=s';obtain rfl:a3=s.os:=os;show ⟨v,H',I.call (h':=hh) (g':=g) (d':=d) (t':=t) (ch:=[]) un hok bare (λb z=>absurd z ZW),r,q⟩
def kY (sp:Sp)(I:List V)(E:XK)(t:TA):TE:=λσ H Q=>t σ H λvs H1=>sp (vs++I) H1 Q E
def Binds (K:Frag)(fd:FuncData)(ps:Zq)(I:VY):Prop:=
 ∀(s:Shared) (us:VY),K.In s.heap->(us++I).length=ps.length->BindsTo s fd ⟨us,[]⟩ (ps.zip (us++I))
def Binds.all {K:Frag}(h:∀us:List Value,us.length=ps.length->bindArgs fd ⟨us,[]⟩=pure (ps.zip us)):Binds K fd ps []:=λs us _ I=>by
 rw[qG0]at I ⊢;show .of_eq (h us I)
def on (CX:CXT)(X:Cx)(E:XK):Prop:=∀(pins:VZ)(σ:St)(H:Hp)(s:Shared)(e:Value)(s':Shared),Inv X pins σ H s->CX X.stack H s E e s'->X.xe e s'
def Ed {σ:St}(F:FnOk X.prog X.w X.K X.mg X.base CX k f fd ps sp)(hr:Room k X.A)(hb:Binds X.K fd ps ds)(hd:Vals dvs ds)(hx:on CX X E)(I:Inv X pins σ H s)(r:Vals vs us)(h:sp (vs++dvs) H Q E):wpAny (model X.prog X.w) X.A (call (.ref f) us) (EP X pins σ Q) X.xe s:=by
 have r2:Vals (vs++dvs) (us++ds):=r.append hd;have hl:(us++ds).length=ps.length:=by rw[<- r2.length];show F.len _ _ _ _ h
 refine wpAny_call (codeAny_mono (F.run X.A X.stack s H ⟨us,[]⟩ (us++ds) (vs++dvs) Q E hr I.env0 (hb s us I.kIn hl) r2 h) λr s' hq=>?_);cases r with
 |error e=>show hx pins σ H s e s' I hq
 | ok fl=>
  cases fl with
  |ret u=>show I.after hq
  |next=>show False.elim hq
  |brk=>show False.elim hq
  |cont=>show False.elim hq
def je {X:Cx}{CX:CXT}{k:Nat}{f:Addr}{fd:FuncData}{ps:Zq}{sp:Sp}{a3:List V}{ds:VY}{E:XK}{x:Str}{p pos:Pos}{e:Expr}{es:Zz}{t:TA}(F:FnOk X.prog X.w X.K X.mg X.base CX k f fd ps sp)(hr:Room k X.A)(hg:Gl X x)(hm:X.mg x=some (.ref f))(hk:PySem.W.keepIn X.K (.ref f)=true)(hb:Binds X.K fd ps ds)(hd:Vals a3 ds)(hx:on CX X E)(ha:PA X (e::es) t)(a5:(x == ("__debug__":Str))=false:=by decide)(he:starEach (e::es) X.env=(false,eval e X.env)::starEach es X.env:=by rfl)(a4:(backTo pos (starEach es X.env)).any (·.1)=false:=by rfl):
  PE X (.Call (.Name x p) (e::es) [] pos) (kY sp a3 E t):=by
 intro pins s σ H Q I h;refine qR4 (BK I hg hm ?_ a5);refine PySem.W.callWith_K (h₀:=X.base) I.ok.mod.kin hk (thn (ha pos pins s σ H _ I h) λus s1 ⟨vs,H1,I1,r,q⟩=>⟨I1.kIn,?_⟩) he a4;show Ed F hr hb hd hx I1 r q
structure e7 (N P:Zq) (sc:Scope):Prop where
 kind:sc.kind=.function
 co:sc.isCoroutine=false
 gen:sc.isGenerator=false
 nd:N.Nodup
 pre:N.take P.length=P
 par:∀x∈P,sc.names.lookup x=some .local\/sc.names.lookup x=some .cell
 nofree:∀y∈sc.names,y.2≠.free
def vR {kindOf:Str->Option NameKind}:∀{binds:List (Str×Value)}{m:VV},(∀v,(x,v)∉binds)->bindL kindOf binds m x=m x:=by
 intro binds
 induction binds with
 |nil=>intro m _;rfl
 | cons p r I=>
  intro m h;unfold bindL;rw[I λw hw=>h w (qB1 _ hw)]
  split
  .have:x≠p.1:=by rintro rfl;show h p.2 qB9
   simp [this]
  .rfl
def vT {kindOf:Str->Option NameKind}:∀{binds:List (Str×Value)}{m:VV},(∀v,(x,v)∉binds)->bindC kindOf binds m x=m x:=by
 intro binds
 induction binds with
 |nil=>intro m _;rfl
 | cons p r I=>
  intro m h;unfold bindC;rw[I λw hw=>h w (qB1 _ hw)]
  split
  .rfl
  .have:x≠p.1:=by rintro rfl;show h p.2 qB9
   simp [this]
def vS {kindOf:Str->Option NameKind}:∀{P:Zq}{vs:VY}{i:Nat}{m:VV},P.Nodup->P[i]?=some x->vs[i]?=some v->kindOf x=some .local ->
  bindL kindOf (P.zip vs) m x=some v:=by
 intro P
 induction P with
 |nil=>intro vs i m _ h _ _;cases h
 | cons p P ih=>
  intro vs i m nd h1 I hk;cases vs with
  |nil=>cases I
  | cons w vs=>
   change bindL kindOf ((p,w)::P.zip vs) m x=_;unfold bindL;cases i with
   | zero=>
    cases h1;cases I;rw[vR λv hv=>(qN4.mp nd).1 (qZ4 hv).1,qA2 hk];simp
   |succ i=>show ih (qN4.mp nd).2 h1 I hk
def vU {kindOf:Str->Option NameKind}:∀{P:Zq}{vs:VY}{i:Nat}{m:VV},P.Nodup->P[i]?=some x->vs[i]?=some v->kindOf x≠some .local ->
  bindC kindOf (P.zip vs) m x=some v:=by
 intro P
 induction P with
 |nil=>intro vs i m _ h _ _;cases h
 | cons p P ih=>
  intro vs i m nd h1 I hk;cases vs with
  |nil=>cases I
  | cons w vs=>
   change bindC kindOf ((p,w)::P.zip vs) m x=_;unfold bindC;cases i with
   | zero=>
    cases h1;cases I;rw[vT λv hv=>(qN4.mp nd).1 (qZ4 hv).1,qA4 hk];simp
   |succ i=>show ih (qN4.mp nd).2 h1 I hk
def start (N:Zq)(vs:List V):St:=vs.map some++List.replicate (N.length-vs.length) none
def dZ (CX:CXT)(P:Program)(w:World)(K:Frag)(mg:VV)(base:Heap)(N:Zq)(qual:Str)(scope:Scope)(f:Addr)(cd:Value)(A:Around)(outer:List Env)(s:Shared)(H:Hp)(E:XK):Cx where
 prog:=P
 w:=w
 K:=K
 mg:=mg
 base:=base
 A:=A.deeper (envOfC qual scope s.heap.objs.size f cd)
 N:=N
 s₀:=s
 H₀:=H
 env:=envOfC qual scope s.heap.objs.size f cd
 outer:=outer
 stack:=envOfC qual scope s.heap.objs.size f cd::outer
 ex:=[]
 calm:=true
 fn:=λ_=>true
 pn:=[]
 xe:=λe s'=>wpAny (model P w) (A.deeper (envOfC qual scope s.heap.objs.size f cd)) (leaving (envOfC qual scope s.heap.objs.size f cd) e) (λ_ I=>CX outer H s E e I) (λe' I=>CX outer H s E e' I) s'
def nX {sc:Scope}(h:sc.names.lookup x=some .cell):∃c,(cellsFrom n sc.names []).lookup x=some c:=by
 have q:=PySem.W.cellsFrom_some sc.names n [] (.inl h);show Option.isSome_iff_exists.mp q
def vb {K:Frag}(S:e7 N ps scope)(hd:A.handled=none)(e0:sd P w K mg base A outer s H)(hl:vs.length=ps.length)(r:Vals vs us)(x:InCallC s s.heap.objs.size (bindL (envOfC qual scope s.heap.objs.size f cd).kindOf (ps.zip us) λ_=>none) (cellsFrom (s.heap.objs.size+1) scope.names []) (bindC (envOfC qual scope s.heap.objs.size f cd).kindOf (ps.zip us) λ_=>none) s1):
  Inv (dZ CX P w K mg base N qual scope f cd A outer s H E) [] (start N vs) H s1:=by
 have a5:ps.length<=N.length:=by have:=congrArg List.length S.pre;rw[qG1]at this;omega
 obtain ⟨h1,tk,rfl,hk⟩:=x.done;have a3:∀b:Addr,b∉(dZ CX P w K mg base N qual scope f cd A outer s H E).ex:=λb z=>absurd (show b∈([]:List Addr) from z) ZW;refine ⟨⟨e0.mod,S.kind,rfl,rfl,qB2 _,λy z c h1 I=>?_,λy hy=>?_,λy c _ h=>?_,λ_=>hd,Around.frames_deeper e0.frames,.inr ⟨rfl,rfl⟩,λb z=>absurd z (a3 b),e0.bs,e0.bsz,λb _ _=>a3 b,λb z=>absurd z (a3 b),e0.funs,e0.frf⟩,
  rfl,e0.bare,Un.kept hk,⟨_,x.toInCall.ns,λi y v h1 I h3=>?_⟩,λy c h=>⟨_,x.cell y c h⟩,e0.hok.fresh (qB2 _),λy c h=>?_,λp hp=>absurd (show p∈([]:VZ) from hp) ZW,e0.hok.kept hk,?_⟩
 .show name_of_addr x.apart (qJ1 h1) (qJ1 I)
 .have hy:scope.names.lookup y=some .cell\/scope.names.lookup y=some .free:=hy;rcases hy with hy|hy
  .show nX hy
  .show absurd rfl (S.nofree _ (qJ1 hy))
 .show qJ2 (x.above y c (qJ1 h))
 .have hi:i<vs.length:=by
   unfold start at I;by_cases hi:i<vs.length
   .show hi
   .rw [qG8 (by simpa using hi)]at I
    rw[qG7]at I
    split at I <;> cases I
  have ha:vs[i]?=some v:=by
   unfold start at I;rw[qE8 (by simpa using hi),qC1]at I;cases e:vs[i]? with
   |none=>rw[e]at I;cases I
   |some a=>rw[e]at I;cases I;rfl
  obtain ⟨u,hu,rv⟩:=r.get ha;have hp:ps[i]?=some y:=by
   rw[<- S.pre,qI5 ox];show h1
  have a4:ps.Nodup:=by rw[<- S.pre];show S.nd.sublist (List.take_sublist _ _)
  refine ⟨u,rv,?_⟩;rcases S.par y (qD8 hp) with k|k
  .show .inl ⟨k,vS a4 hp hu k⟩
  .obtain ⟨c,e⟩:=nX (n:=s.heap.objs.size+1) k;refine .inr ⟨.inl k,c,e,?_⟩;have q:=x.cell y c e;rw[vU a4 hp hu (by change scope.names.lookup y≠_;rw[k];decide)]at q;show q
 .show e0.hok.fresh (qJ2 (x.above y c (qJ1 h)))
 .unfold start
  change _=N.length;rw[qC4,qA5,List.length_replicate];omega
def JP {K:Frag}{kV:Value}(lk:K.lookup f=some ⟨oc,od,.func (PySem.W.fnOf name qual params body scope dV kV doc pm an cdv ct),osl⟩)(a8:PySem.W.codeIn K cdv qual=true)(S:e7 N ps scope)(len:∀vs H Q E,sp vs H Q E->vs.length=ps.length) (a5:∀(A:Around) (outer:List Env) (s:Shared) (H:Hp) (vs:List V) (Q:VK) (E:XK),Room k (A.deeper (envOfC qual scope s.heap.objs.size f cdv))->sp vs H Q E ->
   ∃t,PSs (dZ CX P w K mg base N qual scope f cdv A outer s H E) body t/\t { nx:=λ_ H'=>Q .non H',rt:=Q } (start N vs) H):
  FnOk P w K mg base CX (k+1) f (PySem.W.fnOf name qual params body scope dV kV doc pm an cdv ct) ps sp:=by
 refine ⟨len,λA outer s H args us vs Q E hr e0 hb r a7=>?_⟩;have hl:=len _ _ _ _ a7;have KX:K.In s.heap:=e0.mod.kin.keeps λb o e=>(e0.bs b o e).1;have lim:s.heap.NoLimit:=e0.mod.nolimit.keeps λb o e=>(e0.bs b o e).1;have a4:∀y∈ps.zip us,scope.names.lookup y.1=some .local\/(scope.names.lookup y.1=some .cell/\((cellsFrom (s.heap.objs.size+1) scope.names []).lookup y.1).isSome=true):=λa6 hy=>by
  obtain ⟨n,v⟩:=a6;rcases S.par n (qZ4 hy).1 with q|q
  .show .inl q
  .show .inr ⟨q,PySem.W.cellsFrom_some _ _ _ (.inl q)⟩
 refine codeAny_call_function hr.depth (KX _ _ lk) rfl S.co S.gen rfl (PySem.W.codeRec_of KX a8) (hb _ _ _ _ ?_);refine wpAny_newFunctionEnv_cells S.kind a4 λenv he s1 x=>?_;subst he;refine ⟨lim.keeps x.toInCall.keep,codeAny_func ?_⟩;obtain ⟨t,ht,hq⟩:=a5 A outer s H vs Q E (hr.deeper _) a7;have I:Inv (dZ CX P w K mg base N qual scope f cdv A outer s H E) [] (start N vs) H s1:=vb S hr.hd e0 hl r x;refine qS7 (ht [] s1 (start N vs) H _ I hq) (λfl s' hs=>?_) λe s' hs=>hs;have fin:∀{a3:St}{H':Hp}{v:V}{u:Value},Inv (dZ CX P w K mg base N qual scope f cdv A outer s H E) [] a3 H' s'->RelV v u->Q v H'->CE outer P w H s Q u s':=
  λ{a3 H' v u} J rv q=>⟨v,H',J.os,J.bare,J.base,J.hok,rv,q⟩
 cases fl with
 | ret u=>
  obtain ⟨v,a3,H',J,rv,q⟩:=hs;show fin J rv q
 | next=>
  obtain ⟨a3,H',J,q⟩:=hs;show fin (v:=V.non) (u:=Value.none) J rfl q
 | brk=>
  obtain ⟨_,_,_,q⟩:=hs;show False.elim q
 | cont=>
  obtain ⟨_,_,_,q⟩:=hs;show False.elim q
def tCB (r:List V->Hp->VK->Prop)(t:TA):TE:=λσ H Q=>t σ H λvs H1=>r vs H1 Q
def xi {X:Cx}{x:Str}{p pos:Pos}{e:Expr}{es:Zz}{t:TA}{id:String}{r:List V->Hp->VK->Prop}(hc:F2 X (.builtin id) r)(hg:Gl X x)(hm:X.mg x=none)(hv:bootBuiltins x=some (.builtin id))(ha:PA X (e::es) t)(hn:x ≠ "__name__":=by decide)(a5:(x == ("__debug__":Str))=false:=by decide)(he:starEach (e::es) X.env=(false,eval e X.env)::starEach es X.env:=by rfl)(a4:(backTo pos (starEach es X.env)).any (·.1)=false:=by rfl):PE X (.Call (.Name x p) (e::es) [] pos) (tCB r t):=by
 intro pins s σ H Q I h;refine qR4 (Q9 I hg hm hv ?_ hn a5);show PyProof.Rows.callWith_builtin1 (thn (ha pos pins s σ H _ I h) λus s1 a3=>by obtain ⟨vs,H1,I1,r1,q1⟩:=a3;show hc pins s1 σ H1 vs us Q I1 r1 q1) he a4
def ud {X:Cx}{x:Str}{p pos:Pos}{e:Expr}{es:Zz}{t:TA}{T:String}{r:List V->Hp->VK->Prop}(hc:F2 X (.type T) r)(hg:Gl X x)(hm:X.mg x=none)(hv:bootBuiltins x=some (.type T))(ha:PA X (e::es) t)(hn:x ≠ "__name__":=by decide)(a5:(x == ("__debug__":Str))=false:=by decide)(he:starEach (e::es) X.env=(false,eval e X.env)::starEach es X.env:=by rfl)(a4:(backTo pos (starEach es X.env)).any (·.1)=false:=by rfl):PE X (.Call (.Name x p) (e::es) [] pos) (tCB r t):=by
 intro pins s σ H Q I h;refine qR4 (Q9 I hg hm hv ?_ hn a5);show qG5 (thn (ha pos pins s σ H _ I h) λus s1 a3=>by obtain ⟨vs,H1,I1,r1,q1⟩:=a3;show hc pins s1 σ H1 vs us Q I1 r1 q1) he a4
end L2
namespace HT
open PySem PyProof.Rows
def lexLt:List Int->List Int->Bool
 | [],[]=>false
 | [],_::_=>true
 |_::_,[]=>false
 |x::xs,y::ys=>if x=y then lexLt xs ys else decide (x<y)
section
open PySem.SeqAt
open PySem.AutoSeq1 (wpAny_loadPart')
open PySem.MeetsSeq PySem.MeetsSeq2 PySem.MeetsSeq3
end
def cat_tup (ht:IsTup s.heap t vs.toArray)(hb:IsTup s.heap b ws.toArray)(hv:vs ≠ [])(h1:ws = []->Q (.ref t) s)(h2:ws ≠ []->Q (.ref s.heap.objs.size) { s with heap:=s.heap.push { cls:=.type "tuple",data:=.seq (vs++ws).toArray } })(hsz:vs.length+ws.length<=sizeLine):wpAny (model prog w) A (binaryOp .Add (.ref t) (.ref b)) Q E s:=by
 obtain ⟨⟨cls,dd,data,sl⟩,ho,hc,n,hd⟩:=id ht;obtain ⟨⟨a7,a5,data2,a4⟩,I,a6,n2,a3⟩:=id hb;simp only at hc hd a6 a3;subst hc hd a6 a3;have e:vs.toArray++ws.toArray=(vs++ws).toArray:=ZW;by_cases hw:ws = []
 .show concat_meets ⟨_,ho,rfl⟩ ⟨_,I,rfl⟩ qY1 seq_tuple_add qU0 qT6 (qT2 _ _)
   (tuple_addW1 t b vs.toArray ws.toArray n n2 dd a5 sl a4 (by simpa using hv) (by simp [hw])) ⟨ho,I,h1 hw⟩
 .refine concat_meets ⟨_,ho,rfl⟩ ⟨_,I,rfl⟩ qY1 seq_tuple_add qU0 qT6 (qT2 _ _)
   (tuple_addW2 t b vs.toArray ws.toArray n n2 dd a5 sl a4 (by simpa using hv) (by simpa using hw) (by rw[qB7,qB7];show hsz)) ⟨ho,I,?_⟩
  rw[e];show h2 hw
def sIx (n d:Nat):Option Int->Nat
 |none=>d
 |some v=>if v<0 then (v+(n:Int)).toNat else min v.toNat n
def sIx_none (n d:Nat):sIx n d none=d:=rfl
def sIx_nat (n d k:Nat):sIx n d (some (k:Int))=min k n:=by
 change (if (k:Int)<0 then ((k:Int)+(n:Int)).toNat else min (k:Int).toNat n)=min k n;rw[qA4 ox,qI1]
def tF (n d:Nat)(hd:d<=n)(o:VX):sIx n d o<=n:=by
 cases o with
 |none=>show hd
 | some v=>
  change (if v<0 then (v+(n:Int)).toNat else min v.toNat n)<=n;by_cases I:v<0
  .rw[qA2 I];omega
  .rw[qA4 I];show qI6 _ _
def qf (v:Int)(n d:Nat):(if v<0 then max (v+(n:Int)) 0 else min v (n:Int))=((sIx n d (some v):Nat):Int):=by
 change (if v<0 then max (v+(n:Int)) 0 else min v (n:Int))=(((if v<0 then (v+(n:Int)).toNat else min v.toNat n):Nat):Int);by_cases I:v<0
 .simp only [qA2 I];omega
 .simp only [qA4 I];omega
def rW (lo hi:VX)(n:Nat):Builtin.Slice.sliceAdjust lo hi 1 (n:Int)=(((sIx n 0 lo:Nat):Int),((sIx n n hi:Nat):Int)):=by
 have h1:¬ ((1:Int)<0):=ox;unfold Builtin.Slice.sliceAdjust;simp only [h1,qR0];refine Prod.ext ?_ ?_
 .cases lo with
  |none=>rfl
  |some v=>show qf v n 0
 .cases hi with
  |none=>rfl
  |some v=>show qf v n n
def qM (i j:Nat):Builtin.Slice.slicePlaces (i:Int) (j:Int) 1=j-i:=by
 unfold Builtin.Slice.slicePlaces;have h1:(1:Int)>0:=ox;simp only [h1,qQ8,Int.ediv_one]
 split <;> omega
def gF (p:IsPart v o)(h:Q o s):wpAny (model prog w) A (Builtin.Slice.slicePartIndex v) Q E s:=by
 cases p with
 |none=>show slicePart_none h
 |int i t=>show slicePart_int h
def Y3 {lo:VX}{n:Nat}(hs:s.heap.IsSliceOf sl vl vu .none)(pl:IsPart vl lo)(pu:IsPart vu hi)(h:Q (((sIx n 0 lo:Nat):Int),1,sIx n n hi-sIx n 0 lo) s):wpAny (model prog w) A (Builtin.Slice.sliceApplied (.ref sl) (pure (n:Int))) Q E s:=by
 obtain ⟨os,I,a4,a3⟩:=id hs;unfold Builtin.Slice.sliceApplied Builtin.Slice.sliceFields;refine qA1 (qA1 (qR1 I a3 (x:=vl) rfl (qA1 (qR1 I a3 (x:=vu) rfl (qA1 (qR1 I a3 (x:=.none) rfl (qQ5 ?_)))))));refine qA1 (slicePart_none ?_)
 change wpAny _ _ (if ((1:Int) == 0)=true then _ else _) _ _ s;rw[qA4 ZU];refine qA1 (gF pl (qA1 (gF pu (qA1 (qQ5 ?_)))))
 change wpAny _ _ (match Builtin.Slice.sliceAdjust lo hi 1 (n:Int) with | (lo,hi)=>pure (lo,(1:Int),Builtin.Slice.slicePlaces lo hi 1)) _ _ s;rw[rW lo hi n]
 change wpAny _ _ (pure (((sIx n 0 lo:Nat):Int),(1:Int),Builtin.Slice.slicePlaces ((sIx n 0 lo:Nat):Int) ((sIx n n hi:Nat):Int) 1)) _ _ s;rw[qM];show qQ5 h
def xb (xs:Zj)(i k:Nat):((List.range k).filterMap λ(m:Nat)=>xs[((i:Int)+(m:Int)*1).toNat]?).toArray=((xs.toList.drop i).take k).toArray:=by
 have e:(λ(m:Nat)=>xs[((i:Int)+(m:Int)*1).toNat]?)=λm=>xs[i+m]?:=by
  funext m
  have:((i:Int)+(m:Int)*1).toNat=i+m:=ox
  rw[this]
 rw[e]
 have:=pick_run xs i k
 rw[List.filterMap_map]at this;have e2:((λx=>xs[x]?)∘λx=>i+x)=λm=>xs[i+m]?:=rfl;rw[e2]at this;rw[this]
def getItem_tuple_cut {lo:VX}(ht:IsTup s.heap t items)(hs:s.heap.IsSliceOf sl vl vu .none)(pl:IsPart vl lo)(pu:IsPart vu hi)(hw:¬ (sIx items.size 0 lo=0/\sIx items.size items.size hi=items.size))(h:Q (.ref s.heap.objs.size) { s with heap:=s.heap.push { cls:=.type "tuple",data:=.seq ((items.toList.drop (sIx items.size 0 lo)).take (sIx items.size items.size hi-sIx items.size 0 lo)).toArray } })(hsz:items.size<=sizeLine):wpAny (model prog w) A (getItem (.ref t) (.ref sl)) Q E s:=by
 have I:sizeOk (.seq ((items.toList.drop (sIx items.size 0 lo)).take (sIx items.size items.size hi-sIx items.size 0 lo)).toArray):=by
  change ((items.toList.drop (sIx items.size 0 lo)).take (sIx items.size items.size hi-sIx items.size 0 lo)).toArray.size<=sizeLine;rw[qB7,qG1,qH6,qE9];omega
 have hj:sIx items.size items.size hi<=items.size:=tF _ _ (qB2 _) hi;obtain ⟨os,a5,a3,a7⟩:=id hs;have a6:s.TypeIs (.ref sl) "slice":=⟨os,a5,a3⟩;unfold getItem
 try with_reducible refine qR7 ?_
 first|refine qA1 (qQ5 ?_)|skip
 refine qA1 (wpAny_sequenceKey ht.typeIs ZU ?_);refine qA1 (qR2 (name:=Str.ofString "__getitem__") ht.typeIs qK3
  (qR8 qK3 ht.typeIs entry_tuple_getitem ?_ (args_tuple_getitem _ _)))
 change wpAny _ _ (Builtin.Tuple.tupleItemsOf (.ref t)>>=_) _ _ s;refine qA1 (tupleItemsOf_ ht ?_);refine qA1 (qY2 a6 ?_);rw[qA2 ZU];refine qA1 (Y3 hs pl pu ?_);have a4:¬ ((((sIx items.size 0 lo:Nat):Int) == 0&&(1:Int) == 1&&(sIx items.size items.size hi-sIx items.size 0 lo) == items.size)=true):=by
  intro q;rw[qH1,qH1]at q;have q1:((sIx items.size 0 lo:Nat):Int)=0:=eq_of_beq q.1.1;have q2:sIx items.size items.size hi-sIx items.size 0 lo=items.size:=eq_of_beq q.2;show hw ⟨ox,ox⟩
 change wpAny _ _ (if (((sIx items.size 0 lo:Nat):Int) == 0&&(1:Int) == 1&&(sIx items.size items.size hi-sIx items.size 0 lo) == items.size)=true then _ else _) _ _ s;rw[qA4 a4,xb]
 first
  |show qA1 (m:=Builtin.Tuple.tupleExact _) (qR3 (qQ5 ⟨_,rfl,qQ5 h⟩) I)
  |show qA1 (m:=Builtin.Tuple.tupleExact _) (qR3 (qA1 (qQ5 (qQ5 ⟨_,rfl,qQ5 h⟩))) I)
  |show qA1 (qA1 (m:=Builtin.Tuple.tupleExact _) (qR3 (qQ5 (qQ5 ⟨_,rfl,qQ5 h⟩)) I))
  |show qA1 (qA1 (m:=Builtin.Tuple.tupleExact _) (qR3 (qQ5 ⟨_,rfl,qQ5 h⟩) I))
end HT
namespace L2
open PySem PySem.Spec PyProof.Rows
abbrev TO:=St->Hp->(Option Int->Hp->Prop)->Prop
def PO (X:Cx)(e:Option Expr)(t:TO):Prop:=
 ∀ (pins:VZ) (s:Shared) (σ:St) (H:Hp) (Q:Option Int->Hp->Prop),Inv X pins σ H s->t σ H Q ->
  wpAny (model X.prog X.w) X.A (evalPart e X.env) (λu s'=>∃o H',Inv X pins σ H' s'/\IsPart u o/\Q o H') X.xe s
def tNoPart:TO:=λ_ H Q=>Q none H
def yR (t:TE):TO:=λσ H Q=>t σ H λx H1=>∃i,x=.int i/\Q (some i) H1
def po_none:PO X none tNoPart:=by
 intro pins s σ H Q I h;rw[evalPart_none];show qQ5 ⟨none,H,I,.none,h⟩
def AU (h:PE X e te):PO X (some e) (yR te):=by
 intro pins s σ H Q I hw;rw[evalPart_some];refine thn (h pins s σ H _ I hw) λu s1 a3=>?_;obtain ⟨x,H1,I1,r1,q1⟩:=a3;obtain ⟨i,rfl,q⟩:=q1;obtain ⟨t,rfl⟩:=r1;show ⟨some i,H1,I1,.int i t,q⟩
def SlR (X:Cx)(r:V->Option Int->Option Int->Hp->VK->Prop):Prop:=
 ∀ (pins:VZ) (s:Shared) (σ:St) (H:Hp) (x:V) (v vl I:Value) (lo hi:VX) (sl:Addr) (Q:VK),Inv X pins σ H s->RelV x v->s.heap.IsSliceOf sl vl I .none->IsPart vl lo->IsPart I hi->r x lo hi H Q ->
  ∃T id,typeLookup (.type T) "__getitem__" = pure (some (.builtin id))/\s.TypeIs v T/\wpAny (model X.prog X.w) X.A (getItem v (.ref sl)) (EP X pins σ Q) X.xe s
def SlR.or (h:SlR X r)(h':SlR X r'):SlR X (λx lo hi H Q=>r x lo hi H Q\/r' x lo hi H Q):=by
 intro pins s σ H x v vl vu lo hi sl Q I rx hs pl pu q;rcases q with q|q
 .show h pins s σ H x v vl vu lo hi sl Q I rx hs pl pu q
 .show h' pins s σ H x v vl vu lo hi sl Q I rx hs pl pu q
def tSl (r:V->Option Int->Option Int->Hp->VK->Prop)(te:TE)(I th:TO):TE:=λσ H Q=>te σ H λx H1=>I σ H1 λl H2=>th σ H2 λu H3=>r x l u H3 Q
def mJ {lo:Option Expr}(hr:SlR X r)(he:PE X e te)(hl:PO X lo tl)(hu:PO X hi th):PE X (.Subscript e (.Slice lo hi none p2) pos) (tSl r te tl th):=by
 intro pins s σ H Q I h;refine Subscript_ (thn (he pins s σ H _ I h) λv s1 a3=>?_);obtain ⟨x,H1,I1,r1,q1⟩:=a3;refine wpAny_Slice (thn (hl pins s1 σ H1 _ I1 q1) λvl s2 ⟨l,H2,I2,pl,q2⟩=>thn (hu pins s2 σ H2 _ I2 q2) λvu s3 a4=>?_);obtain ⟨u,H3,I3,pu,q3⟩:=a4;rw[evalPart_none];refine qQ5 ?_;have I4:Inv X pins σ H3 { s3 with heap:=s3.heap.push { cls:=.type "slice",data:=.fields #[vl,vu,.none] } }:=I3.kept (t':=s3.toks) λb ob q=>qA9 _ q;obtain ⟨T,id,hT,ht,hg⟩:=hr pins { s3 with heap:=s3.heap.push { cls:=.type "slice",data:=.fields #[vl,vu,.none] } } σ H3 x v vl vu l u s3.heap.objs.size Q I4 r1 (Heap.IsSliceOf.new ..) pl pu q3
 change wpAny (model X.prog X.w) X.A (subscriptTail e (.Slice lo hi none p2) v (.ref s3.heap.objs.size)) (EP X pins σ Q) X.xe { s3 with heap:=s3.heap.push { cls:=.type "slice",data:=.fields #[vl,vu,.none] } };show tail_any (ops:=[.ref s3.heap.objs.size,v]) ht hT hg (by with_unfolding_all rfl)
def cH (xs:List V)(lo hi:VX):List V:=(xs.drop (HT.sIx xs.length 0 lo)).take (HT.sIx xs.length xs.length hi-HT.sIx xs.length 0 lo)
def fC (xs:List V)(lo hi:VX):(cH xs lo hi).length<=xs.length:=by
 unfold cH;rw[qG1,qH6];omega
def EQ (K:Frag):V->Option Int->Option Int->Hp->VK->Prop:=λx lo hi H Q=>∃a xs,x=.ref a/\SqT K H a xs /\
 ¬ (HT.sIx xs.length 0 lo=0/\HT.sIx xs.length xs.length hi=xs.length)/\∀p,H p=none->Q (.ref p) (upd H p (.tup (cH xs lo hi)))
def DK:SlR X (EQ X.K):=by
 intro pins s σ H x v vl vu lo hi sl Q I rx hs pl pu h;obtain ⟨a,xs,rfl,hx,hw,q⟩:=h;cases rx;obtain ⟨its,r,ht,hz⟩:=I.tuple hx;have hlen:its.toArray.size=xs.length:=by rw[qB7];show r.length.symm
 refine ⟨"tuple",_,PyProof.Rows.slot_tuple_getitem.lookup,ht.typeIs,?_⟩;refine HT.getItem_tuple_cut ht hs pl pu (by rw[hlen];show hw) ?_ (by rw[hlen];show hz);rw[hlen];refine ⟨.ref s.heap.objs.size,_,I.laid (t':=s.toks) (o:=.tup (cH xs lo hi)) (λb ob q=>qA9 _ q) (qB2 _) ?_,rfl,q _ (I.hok.fresh (qB2 _))⟩;show ⟨qA8 (fC xs lo hi) hz,_,(r.drop (HT.sIx xs.length 0 lo)).take (HT.sIx xs.length xs.length hi-HT.sIx xs.length 0 lo),IsTup.new _ _⟩
def yY (K:Frag):R2:=λx y H Q=>∃a b xs ys,x=.ref a/\y=.ref b/\SqT K H a xs/\SqT K H b ys/\xs ≠ []/\xs.length+ys.length<=sizeLine /\
 (ys = []->Q (.ref a) H)/\(ys ≠ []->∀p,H p=none->Q (.ref p) (upd H p (.tup (xs++ys))))
def Vals.nil_iff (r:Vals xs us):us = []↔xs = []:=by
 cases r with
 |nil=>simp
 |cons _ _=>simp
def Bd:OpR X (binaryOp .Add) (yY X.K):=by
 intro pins s σ H x y v u Q I rx ry h;obtain ⟨a,b,xs,ys,rfl,rfl,ha,hb,hx,hz,q1,q2⟩:=h;cases rx;cases ry;obtain ⟨its,r1,p1,_⟩:=I.tuple ha;obtain ⟨a3,r2,p2,_⟩:=I.tuple hb;refine HT.cat_tup p1 p2 (λz=>hx (r1.nil_iff.mp z)) (λz=>⟨.ref a,H,I,rfl,q1 (r2.nil_iff.mp z)⟩) (λz=>?_) (by rw[<- r1.length,<- r2.length];show hz);refine ⟨.ref s.heap.objs.size,_,I.laid (t':=s.toks) (o:=.tup (xs++ys)) (λb ob q=>qA9 _ q) (qB2 _) ?_,rfl,q2 (λw=>z (r2.nil_iff.mpr w)) _ (I.hok.fresh (qB2 _))⟩;show ⟨by rw[qC4];show hz,_,r1.append r2,IsTup.new _ _⟩
def ixN (n:Nat)(i:Int):Option Nat:=if 0<=i then (if i<n then some i.toNat else none) else if -(n:Int)<=i then some (i+n).toNat else none
def atI {α:Type}(xs:List α)(i:Int):Option α:=(ixN xs.length i).bind λj=>xs[j]?
def pJ (h:ixN n i=some j):seqIndex? i n=some j/\j<n /\ -(n:Int)<=i/\i<n:=by
 unfold ixN at h;by_cases h0:0<=i
 .rw [qA2 h0]at h
  by_cases h1:i<n
  .rw [qA2 h1]at h
   have e:i.toNat=j:=Lc h;show ⟨by rw[seqIndex_of h0 h1,e],ox,ox,h1⟩
  .rw[qA4 h1]at h;cases h
 .rw [qA4 h0]at h
  by_cases h1:-(n:Int)<=i
  .rw [qA2 h1]at h
   have e:(i+n).toNat=j:=Lc h;show ⟨by rw[seqIndex_neg ox h1,e],ox,h1,ox⟩
  .rw[qA4 h1]at h;cases h
def jM {xs:List α}(h:atI xs i=some v):∃j,seqIndex? i xs.length=some j/\xs[j]?=some v/\j<xs.length /\ -(xs.length:Int)<=i/\i<xs.length:=by
 unfold atI at h;cases e:ixN xs.length i with
 |none=>rw[e]at h;cases h
 | some j=>
  rw[e]at h;obtain ⟨h1,h2,I,h4⟩:=pJ e;show ⟨j,h1,h,h2,I,h4⟩
def jP (b:Expr):Prop:=∀o i,subscripted b false o i=operate [o,i] (getItem o i)
def IxR (X:Cx)(r:R2):Prop:=
 ∀ (value slice:Expr) (pins:VZ) (s:Shared) (σ:St) (H:Hp) (x y:V) (v u:Value) (Q:VK),Inv X pins σ H s->RelV x v->RelV y u->r x y H Q ->
  subscripted slice false v u=operate [v,u] (getItem v u)->wpAny (model X.prog X.w) X.A (subscriptTail value slice v u) (EP X pins σ Q) X.xe s
def MtR (X:Cx)(id:String)(r:V->List V->Hp->VK->Prop):Prop:=
 ∀ (pins:VZ) (s:Shared) (σ:St) (H:Hp) (x:V) (xs:List V) (v:Value) (us:VY) (Q:VK),Inv X pins σ H s->RelV x v->Vals xs us->r x xs H Q ->
  wpAny (model X.prog X.w) X.A (call (.builtin id) (v::us)) (EP X pins σ Q) X.xe s
def IxR.or (h:IxR X r)(h':IxR X r'):IxR X (λx y H Q=>r x y H Q\/r' x y H Q):=by
 intro value slice pins s σ H x y v u Q I rx ry q hs;rcases q with q|q
 .show h value slice pins s σ H x y v u Q I rx ry q hs
 .show h' value slice pins s σ H x y v u Q I rx ry q hs
def zf (hr:IxR X r)(ha:PE X a ta)(hb:PE X b tb)(hs:jP b):PE X (.Subscript a b pos) (tOp r ta tb):=by
 intro pins s σ H Q I h;show Subscript_ (yF ha hb I h λv u s2 x y H2 I2 rx ry q=>hr a b pins s2 σ H2 x y v u Q I2 rx ry q (hs _ _))
def EY (K:Frag):R2:=λx y H Q=>∃p xs i v,x=.ref p/\y=.int i/\SqL K H p xs/\atI xs i=some v/\Q v H
def EW (K:Frag):R2:=λx y H Q=>∃p xs i v,x=.ref p/\y=.int i/\SqT K H p xs/\atI xs i=some v/\Q v H
def rIxS:R2:=λx y H Q=>∃z i c,x=.str z/\y=.int i/\z.length<=sizeLine/\atI z.cps.toList i=some c/\Q (.str ⟨#[c]⟩) H
def ix_list:IxR X (EY X.K):=by
 intro value slice pins s σ H x y v u Q I rx ry h hs;obtain ⟨p,xs,i,z,rfl,rfl,hq,he,q⟩:=h;cases rx;obtain ⟨t,rfl⟩:=ry;obtain ⟨its,r,pl,hz⟩:=I.list hq;obtain ⟨j,h1,h2,h3,h4,h5⟩:=jM he;obtain ⟨w,ew,a3⟩:=r.get h2;have hl:=r.length;have hn:=dO;have fin:EP X pins σ Q w s:=⟨z,H,I,a3,q⟩;by_cases h0:0<=i
 .have hj:i.toNat=j:=by
   rw[seqIndex_of h0 h5]at h1;show Lc h1
  show item_listR pl.isList h0 ox (by rw[hj];simpa using ew) fin hs
 .have hj:(i+(its.toArray.size:Int)).toNat=j:=by
   rw[seqIndex_neg ox h4]at h1;rw[qB7,<- hl];show Lc h1
  show subscriptTail_builtinR (x:=w) pl.isList.typeIs slot_list_getitem.lookup
   (wpAny_getItem_list_neg (Q:=λr s'=>r=w/\EP X pins σ Q r s') pl.isList ox (by rw[qB7] <;> omega) ox (by rw[hj];simpa using ew) ⟨rfl,fin⟩) hs
def ix_tup:IxR X (EW X.K):=by
 intro value slice pins s σ H x y v u Q I rx ry h hs;obtain ⟨p,xs,i,z,rfl,rfl,hq,he,q⟩:=h;cases rx;obtain ⟨t,rfl⟩:=ry;obtain ⟨its,r,pl,hz⟩:=I.tuple hq;obtain ⟨j,h1,h2,h3,h4,h5⟩:=jM he;obtain ⟨w,ew,a3⟩:=r.get h2;have hl:=r.length;have hn:=dO;have fin:EP X pins σ Q w s:=⟨z,H,I,a3,q⟩;show subscriptTail_builtinR (x:=w) pl.typeIs slot_tuple_getitem.lookup
  (getItem_tuple (j:=j) (Q:=λr s'=>r=w/\EP X pins σ Q r s') pl ox ox (by rw[qB7,<- hl];show h1) (by simpa using ew) ⟨rfl,fin⟩) hs
def Gj:IxR X rIxS:=by
 intro value slice pins s σ H x y v u Q I rx ry h hs;obtain ⟨z,i,c,rfl,rfl,hz,he,q⟩:=h;obtain ⟨t,rfl⟩:=rx;obtain ⟨t',rfl⟩:=ry;obtain ⟨j,h1,h2,h3,h4,h5⟩:=jM he;have hl:z.cps.toList.length=z.length:=by simp [Str.length]
 rw[hl]at h1 h4 h5;have hn:=dO;show tail_any (typeIs_str s z t) slot_str_getitem.lookup (getItem_str (c:=c) (by
  have e1:decide (i < -(2^63:Int))=false:=qQ6 ox;have e2:decide (i≥2^63)=false:=qQ6 ox;rw[e1,e2,xC8]) (by rw[h1];simpa using h2) ⟨.str ⟨#[c]⟩,H,I.tok _,⟨_,rfl⟩,q⟩) hs
def rIx (K:Frag):R2:=λx y H Q=>EY K x y H Q\/EW K x y H Q\/rIxS x y H Q
def uU:IxR X (rIx X.K):=ix_list.or (ix_tup.or Gj)
def qZ (its:VY)(n j:Nat)(u:Value):Obj.mapSeq (·.setIfInBounds j u) { cls:=.type "list",data:=.seq its.toArray n }={ cls:=.type "list",data:=.seq (its.set j u).toArray n }:=by
 simp [Obj.mapSeq]
def Inv.lst {σ:St}(I:Inv X pins σ H s)(h:H p=some (.lst xs)):
  ∃(its:VY) (n:Nat),Vals xs its/\s.heap.get? p=some { cls:=.type "list",data:=.seq its.toArray n }/\xs.length<=sizeLine:=by
 obtain ⟨z,its,n,r,e⟩:=I.hok p _ h;show ⟨its,n,r,e,z⟩
def Inv.lstUpd {σ:St}{its:VY}(I:Inv X pins σ H s)(h:H p=some (.lst xs))(ho:s.heap.get? p=some { cls:=.type "list",data:=.seq its.toArray n })(hf:f { cls:=.type "list",data:=.seq its.toArray n }={ cls:=.type "list",data:=.seq its'.toArray n' })(r:Vals ys its')(hz:ys.length<=sizeLine)(t:Nat):
  Inv X pins σ (upd H p (.lst ys)) { s with heap:=s.heap.update p f,toks:=t }:=by
 have e:(s.heap.update p f).get? p=some { cls:=.type "list",data:=.seq its'.toArray n' }:=by
  rw[qL3 f ho (by rw[hf] <;> rfl),hf]
 refine I.write (x:=p) (e:=p) (by rw[h];trivial) (.inl rfl) (λb u hb q=>(qU1 _ _ (Ne.symm hb)).trans q) ⟨_,e⟩ ?_;show ⟨hz,its',n',r,e⟩
def rSetL:V->V->V->Hp->(Hp->Prop)->Prop:=λo i v H Q=>∃p xs k j,o=.ref p/\i=.int k/\H p=some (.lst xs)/\ixN xs.length k=some j/\Q (upd H p (.lst (xs.set j v)))
def set_list:IV X rSetL:=by
 intro pins s σ H o i v ov iv u Q I ro ri rv h;obtain ⟨p,xs,k,j,rfl,rfl,hp,hj,q⟩:=h;cases ro;obtain ⟨t,rfl⟩:=ri;obtain ⟨its,n,r,ho,hz⟩:=I.lst hp;obtain ⟨h1,h2,h3,h4⟩:=pJ hj;have hl:=r.length;have hn:=dO;have I':Inv X pins σ (upd H p (.lst (xs.set j v))) { s with heap:=s.heap.update p (Obj.mapSeq (·.setIfInBounds j u)) }:=
  I.lstUpd hp ho (qZ its n j u) (r.set rv j) (by rw[qD3];show hz) s.toks
 by_cases h0:0<=k
 .have hk:k.toNat=j:=by
   rw[seqIndex_of h0 h4]at h1;show Lc h1
  show PySem.W.ki_setAt ho h0 ox (by rw[qB7,<- hl];show h4) (by rw[hk];show ⟨_,I',q⟩)
 .have hk:(k+(its.toArray.size:Int)).toNat=j:=by
   rw[seqIndex_neg ox h3]at h1;rw[qB7,<- hl];show Lc h1
  show PySem.W.ki_setBack ho ox (by rw[qB7,<- hl];show h3) ox (by rw[hk];show ⟨_,I',q⟩)
def lW (lo hi:VX)(n:Nat):(sliceBounds lo hi none n).1=((HT.sIx n 0 lo:Nat):Int)/\(sliceBounds lo hi none n).2.1=((HT.sIx n n hi:Nat):Int)/\(sliceBounds lo hi none n).2.2=1:=by
 refine ⟨?_,?_,rfl⟩
 .cases lo with
  |none=>simp [sliceBounds,HT.sIx]
  | some i=>
   simp only [sliceBounds,HT.sIx,Option.getD_none,show (1:Int)>0 by decide,qQ8];by_cases h:i<0
   .simp only [h,qQ8] <;> omega
   .simp only [h,qR0] <;> omega
 .cases hi with
  |none=>simp [sliceBounds,HT.sIx]
  | some i=>
   simp only [sliceBounds,HT.sIx,Option.getD_none,show (1:Int)>0 by decide,qQ8];by_cases h:i<0
   .simp only [h,qQ8] <;> omega
   .simp only [h,qR0] <;> omega
def kS (its:VY)(lo hi:VX):slicePick its.toArray lo hi none=((its.drop (HT.sIx its.length 0 lo)).take (HT.sIx its.length its.length hi-HT.sIx its.length 0 lo)).toArray:=by
 obtain ⟨h1,h2,I⟩:=lW lo hi its.toArray.size;unfold slicePick;rw[h1,h2,I];simp only [sliceRange_one,pick_run,qB7] <;> rfl
def ER (K:Frag):V->Option Int->Option Int->Hp->VK->Prop:=λx lo hi H Q=>∃a xs,x=.ref a/\SqL K H a xs/\∀p,H p=none->Q (.ref p) (upd H p (.lst (cH xs lo hi)))
def Am:SlR X (ER X.K):=by
 intro pins s σ H x v vl vu lo hi sl Q I rx hs pl pu h;obtain ⟨a,xs,rfl,hx,q⟩:=h;cases rx;obtain ⟨its,r,ht,hz⟩:=I.list hx;have hlen:=r.length;refine ⟨"list",_,slot_list_getitem.lookup,ht.isList.typeIs,?_⟩;refine wpAny_getItem_list_slice ht.isList hs pl pu .none ZW ?_ (by rw[qB7] <;> omega)
 rw[kS,<- hlen];refine ⟨.ref s.heap.objs.size,_,I.laid (t':=s.toks) (o:=.lst (cH xs lo hi)) (λb ob q=>qA9 _ q) (qB2 _) ?_,rfl,q _ (I.hok.fresh (qB2 _))⟩;show ⟨qA8 (fC xs lo hi) hz,_,0,(r.drop (HT.sIx xs.length 0 lo)).take (HT.sIx xs.length xs.length hi-HT.sIx xs.length 0 lo),qC5 _ rfl⟩
def zw:V->Bool
 | .non=>true
 | .bl _=>true
 | .int _=>true
 | .str _=>true
 |_=>false
def eqV:V->V->Bool
 | .non,.non=>true
 | .bl a,.bl b=>a == b
 | .bl a,.int b=>(if a then 1 else 0) == b
 | .int a,.bl b=>a == (if b then 1 else 0)
 | .int a,.int b=>a == b
 | .str a,.str b=>a == b
 |_,_=>false
def inV (x:V)(xs:List V):Bool:=xs.any λy=>eqV y x
def rIn (K:Frag)(neg:Bool):R2:=λx y H Q=>∃p xs,y=.ref p/\(SqL K H p xs\/SqT K H p xs)/\zw x=true/\xs.all zw=true/\Q (.bl (if neg then !inV x xs else inV x xs)) H
def nZ:F2 X (.builtin "len") (λxs H Q=>∃p ys,xs = [.ref p]/\(SqL X.K H p ys\/SqT X.K H p ys)/\Q (.int ys.length) H):=by
 intro pins s σ H xs us Q I r h;obtain ⟨p,ys,rfl,hq,q⟩:=h;obtain ⟨u,rfl,rx⟩:=vals1 r;cases rx;have hn:=dO;rcases hq with hq|hq
 .obtain ⟨its,r',pl,hz⟩:=I.list hq;have hlen:=r'.length;show Calls.call_len_list pl.isList (by simp only [qB7] <;> omega) ⟨.int ys.length,H,I.tok _,⟨s.toks+1,by rw[qB7,hlen]⟩,q⟩
 .obtain ⟨its,r',pl,hz⟩:=I.tuple hq;have hlen:=r'.length;show len_tuple pl (by simp only [qB7] <;> omega) ⟨.int ys.length,H,I.tok _,⟨s.toks+1,by rw[qB7,hlen]⟩,q⟩
def nY:F2 X (.type "list") (λxs H Q=>∃p ys,xs = [.ref p]/\(SqL X.K H p ys\/SqT X.K H p ys)/\∀l,H l=none->Q (.ref l) (upd H l (.lst ys))):=by
 intro pins s σ H xs us Q I r h;obtain ⟨p,ys,rfl,hq,q⟩:=h;obtain ⟨u,rfl,rx⟩:=vals1 r;cases rx;have fin:∀(its:VY),Vals ys its->ys.length<=sizeLine->∀(h':Heap) (c':Nat),(∀b o',s.heap.get? b=some o'->h'.get? b=some o') ->
   h'.get? s.heap.objs.size=some { cls:=.type "list",dict:=none,data:=.seq its.toArray c',slots:=#[] }->EP X pins σ Q (.ref s.heap.objs.size) { s with heap:=h' }:=λits r' hz h' c' kp e=>
  ⟨.ref s.heap.objs.size,_,I.laid (t':=s.toks) kp (qB2 _) (show ObjOk X.prog X.w _ h' _ (.lst ys) from ⟨hz,its,c',r',e⟩),rfl,q _ (I.hok.fresh (qB2 _))⟩
 rcases hq with hq|hq
 .obtain ⟨its,r',pl,hz⟩:=I.list hq;have hlen:=r'.length;obtain ⟨o,ho,hc,n,hd⟩:=pl.isList;show call_list_seq p (.inl rfl) ho hc hd (λh' c' kp e=>fin its r' hz h' c' kp e) (by simp only [qB7] <;> omega)
 .obtain ⟨its,r',pl,hz⟩:=I.tuple hq;have hlen:=r'.length;obtain ⟨o,ho,hc,n,hd⟩:=pl;show call_list_seq p (.inr rfl) ho hc hd (λh' c' kp e=>fin its r' hz h' c' kp e) (by simp only [qB7] <;> omega)
def kW:F2 X (.type "tuple") (λxs H Q=>∃p ys,xs = [.ref p]/\((SqL X.K H p ys/\∀l,H l=none->Q (.ref l) (upd H l (.tup ys)))\/(SqT X.K H p ys/\Q (.ref p) H))):=by
 intro pins s σ H xs us Q I r h;obtain ⟨p,ys,rfl,h⟩:=h;obtain ⟨u,rfl,rx⟩:=vals1 r;cases rx;rcases h with ⟨hq,q⟩|⟨hq,q⟩
 .obtain ⟨its,r',pl,hz⟩:=I.list hq;have hlen:=r'.length;refine call_tuple_list pl.isList (λh' kp=>?_) (by simp only [qB7] <;> omega)
  have I1:Inv X pins σ H { s with heap:=h' }:=I.kept (t':=s.toks) kp;have I2:Inv X pins σ (upd H h'.objs.size (.tup ys)) { s with heap:=h'.push { cls:=.type "tuple",data:=.seq its.toArray } }:=
   I1.laid (t':=s.toks) (λb o e=>qA9 _ e) (qB2 _) (show ObjOk X.prog X.w _ _ _ (.tup ys) from ⟨hz,its,r',IsTup.new _ _⟩)
  show ⟨.ref h'.objs.size,_,I2,rfl,q _ (I1.hok.fresh (qB2 _))⟩
 .obtain ⟨its,r',pl,hz⟩:=I.tuple hq;show call_tuple_same pl ⟨.ref p,H,I,rfl,q⟩
def tyV (K:Frag)(T:String)(x:V)(H:Hp):Prop:=match x with
 | .str _=>T = "str"
 | .int _=>T = "int"
 | .ref p=>(T = "list" /\ ∃xs,SqL K H p xs)\/(T = "tuple" /\ ∃o,K.lookup p=some o/\o.cls=.type "tuple" /\ o.dict=none) \/
   (T = "dict" /\ ((∃kvs,H p=some (.dK kvs))\/∃kvs,H p=some (.dT kvs)))\/(T = "set" /\ ∃S n,H p=some (.set S n))
 |_=>False
def sI {σ:St}(I:Inv X pins σ H s)(r:RelV x v)(ty:tyV X.K T x H):
  s.TypeIs v T/\∀a,v=.ref a->∃ob,s.heap.get? a=some ob/\ob.dict=none:=by
 cases x with
 | str z=>
  obtain ⟨t,rfl⟩:=r;cases (show T = "str" from ty);show ⟨typeIs_str s z t,λ_ e=>nomatch e⟩
 | int i=>
  obtain ⟨t,rfl⟩:=r;cases (show T = "int" from ty);show ⟨typeIs_int s i t,λ_ e=>nomatch e⟩
 | ref p=>
  cases r;rcases ty with ⟨rfl,xs,hq⟩|⟨rfl,o,hk,hc,hd⟩|⟨rfl,hk⟩|⟨rfl,S,n,hk⟩
  .obtain ⟨its,_,pl,_⟩:=I.list hq;refine ⟨pl.isList.typeIs,λa e=>?_⟩;cases e;obtain ⟨o,n,e,c,hd,_⟩:=pl;show ⟨o,e,hd⟩
  .refine ⟨⟨o,I.kIn p o hk,hc⟩,λa e=>?_⟩;cases e;show ⟨o,I.kIn _ o hk,hd⟩
  .have z:∃o,s.heap.get? p=some o/\o.ExactDict:=by
    rcases hk with ⟨kvs,hk⟩|⟨kvs,hk⟩
    .obtain ⟨_,_,_,_,o,_,_,e,ex,_⟩:=I.hok p _ hk;show ⟨o,e,ex⟩
    .obtain ⟨_,_,_,_,o,_,_,e,ex,_⟩:=I.hok p _ hk;show ⟨o,e,ex⟩
   obtain ⟨o,e,ex⟩:=z;refine ⟨⟨o,e,ex.1⟩,λa e2=>?_⟩;cases e2;show ⟨o,e,ex.2.1⟩
  .obtain ⟨o,_,_,_,e,ex,_⟩:=I.hok p _ hk;refine ⟨⟨o,e,ex.1⟩,λa e2=>?_⟩;cases e2;show ⟨o,e,ex.2.1⟩
 |_=>show False.elim ty
def tBM (K:Frag)(T:String)(r:V->List V->Hp->VK->Prop)(I:TE)(t:TA):TE:=λσ H Q=>I σ H λx H1=>tyV K T x H1/\t σ H1 λxs H2=>r x xs H2 Q
def zg {X:Cx}{o e:Expr}{es:Zz}{to:TE}{t:TA}{name:Str}{apos a3:Pos}{T id:String}{r:V->List V->Hp->VK->Prop}(pa:PlainAttrs T)(slot:Slot T name id)(ab:typeOf (.builtin id)=pure (.type "method_descriptor"))(hm:MtR X id r)(ho:PE X o to)(ha:PA X (e::es) t)(a6:attributeBase o name X.env (eval o X.env)=eval o X.env:=by rfl) (a9:((backTo a3 (starEach (e::es) X.env)).all (λx=>!x.1)&&(backToKw a3 (keywordEach [] X.env)).all (λx=>x.1.isSome)
   && decide ((e::es).length+([]:List Keyword).length+(if ([]:List Keyword).isEmpty then 0 else 1)<30))=true:=by rfl) (a5:(apos.endLine == a3.line)=true:=by rfl) (hs:starEach (e::es) X.env=(false,eval e X.env)::starEach es X.env:=by rfl) (a4:(backTo a3 (starEach es X.env)).any (·.1)=false:=by rfl):
  PE X (.Call (.Attribute o name apos) (e::es) [] a3) (tBM X.K T r to t):=by
 intro pins s σ H Q I h;refine wpAny_Call_method_late a6 a9 a5 rfl (thn (ho pins s σ H _ I h) λv s1 a7=>?_);obtain ⟨x,H1,I1,r1,ty,q1⟩:=a7;obtain ⟨h1,h2⟩:=sI I1 r1 ty;refine ⟨T,id,pa,slot,ab,h1,h2,?_⟩;have hA:=ha a3 pins s1 σ H1 _ I1 q1;rw[hs]at hA ⊢;refine Calls.callWith_builtin (by change (false||(backTo a3 (starEach es X.env)).any (·.1))=false;rw[a4] <;> rfl) (Calls.evalArgs_plain ?_)
 show thn hA λus s2 a8=>by obtain ⟨vs,H2,I2,r2,q2⟩:=a8;show hm pins s2 σ H2 x vs v us Q I2 r1 r2 q2
def MtM (X:Cx)(id:String)(r:V->List V->Hp->VK->Prop):Prop:=
 ∀ (pins:VZ) (s:Shared) (σ:St) (H:Hp) (x:V) (xs:List V) (v:Value) (us:VY) (Q:VK),Inv X pins σ H s->RelV x v->Vals xs us->r x xs H Q ->
  wpAny (model X.prog X.w) X.A (call (.builtin id) (v::us)) (EP X pins σ Q) X.xe s
def Vals.one:∀{x:V}{us:VY},Vals [x] us->∃u,us = [u]/\RelV x u:=by
 intro x us r;cases r with
 |cons r t=>cases t;show ⟨_,rfl,r⟩
def Vals.reverse (h:Vals xs us):Vals xs.reverse us.reverse:=by
 induction h with
 |nil=>show .nil
 |cons r t I=>rw[qO2,qO2];show Vals.append I (.cons r .nil)
def Inv.lset {σ:St}{its:VY}(I:Inv X pins σ H s)(hH:H l=some (.lst xs))(e:s.heap.get? l=some { cls:=.type "list",data:=.seq its.toArray n })(hf:f its.toArray=its'.toArray)(hv:Vals ys its')(hz:ys.length<=sizeLine):
  Inv X pins σ (upd H l (.lst ys)) { s with heap:=s.heap.update l (Obj.mapSeq f),toks:=t' }:=by
 have q:=PySem.IsL.update e f;rw[hf]at q;refine I.write (x:=l) (e:=l) (by rw[hH];show trivial) (.inl rfl) (λb' u hb hu=>(qU1 s.heap (Obj.mapSeq f) (Ne.symm hb)).trans hu) ⟨_,q⟩ ?_;show ⟨hz,its',_,hv,q⟩
def Inv.lnew {σ:St}(I:Inv X pins σ H s)(hv:Vals ys its)(hz:ys.length<=sizeLine):
  Inv X pins σ (upd H s.heap.objs.size (.lst ys)) { s with heap:=s.heap.push { cls:=.type "list",data:=.seq its.toArray },toks:=t' }:=
 I.laid (λ_ _ q=>qA9 _ q) (qB2 _) ⟨hz,its,0,hv,qC5 _ rfl⟩
def Inv.fresh {σ:St}(I:Inv X pins σ H s):H s.heap.objs.size=none:=I.hok.fresh (qB2 _)
def Inv.lstM {σ:St}(I:Inv X pins σ H s)(hH:H l=some (.lst xs)):xs.length<=sizeLine/\∃(its:VY) (n:Nat),Vals xs its/\xs.length=its.length/\s.heap.get? l=some { cls:=.type "list",data:=.seq its.toArray n }:=by
 obtain ⟨z,its,n,r,e⟩:=I.hok l _ hH;show ⟨z,its,n,r,r.length,e⟩
def xq (h:n<=sizeLine):Builtin.List.listTooLong n=false:=by
 unfold Builtin.List.listTooLong;show qQ6 ox
def rAppend:V->List V->Hp->VK->Prop:=λx vs H Q=>∃l xs y,x=.ref l/\vs = [y]/\H l=some (.lst xs)/\xs.length<sizeLine/\Q .non (upd H l (.lst (xs ++ [y])))
def jZ:MtM X "list.append" rAppend:=by
 intro pins s σ H x vs v us Q I rx rv h;obtain ⟨l,xs,y,rfl,rfl,hH,hz,q⟩:=h;cases rx;obtain ⟨u,rfl,ru⟩:=rv.one;obtain ⟨z,its,n,r,hl,e⟩:=I.lstM hH;refine call_meets F.slot_list_append ⟨_,e,rfl⟩ F.entry_list_append (F.args_list_append_2 _ _) (PySem.list_append l its.toArray n u (by rw[qB7];omega)) ⟨e,?_⟩;refine ⟨.non,_,I.lset (its':=its ++ [u]) hH e ZW (r.append (.cons ru .nil)) ?_,rfl,q⟩;rw[qC4,qG6];omega
def rExtend:V->List V->Hp->VK->Prop:=λx vs H Q=>∃l b xs I,x=.ref l/\vs = [.ref b]/\H l=some (.lst xs)/\H b=some (.lst I)/\xs.length+I.length<=sizeLine/\Q .non (upd H l (.lst (xs++I)))
def uC:MtM X "list.extend" rExtend:=by
 intro pins s σ H x vs v us Q I rx rv h;obtain ⟨l,b,xs,zs,rfl,rfl,hH,hB,hz,q⟩:=h;cases rx;obtain ⟨u,rfl,ru⟩:=rv.one;cases ru;obtain ⟨z,its,n,r,hl,e⟩:=I.lstM hH;obtain ⟨z2,a3,n2,r2,a5,e2⟩:=I.lstM hB;have hsz:its.toArray.size+a3.toArray.size<=sizeLine:=by rw[qB7,qB7];omega
 have a4:¬ (!its.toArray.isEmpty&&Builtin.List.listTooLong (its.toArray.size+a3.toArray.size))=true:=by
  rw[xq hsz,Bool.and_false];show qA3
 refine call_meets F.slot_list_extend ⟨_,e,rfl⟩ F.entry_list_extend (F.args_list_extend_2 _ _)
  (AutoSeq1.list_extend_list_list_0 l its.toArray n b a3.toArray n2 a4 (by rw[qB7];omega) ox) ⟨e,e2,?_⟩
 refine ⟨.non,_,I.lset (its':=its++a3) hH e ZW (r.append r2) ?_,rfl,q⟩;rw[qC4];omega
def rCat:R2:=λx y H Q=>∃l b xs I,x=.ref l/\y=.ref b/\H l=some (.lst xs)/\H b=some (.lst I)/\xs.length+I.length<=sizeLine/\∀p,H p=none->Q (.ref p) (upd H p (.lst (xs++I)))
def Z2:OpR X (binaryOp .Add) rCat:=by
 intro pins s σ H x y v u Q I rx ry h;obtain ⟨l,b,xs,zs,rfl,rfl,hH,hB,hz,q⟩:=h;cases rx;cases ry;obtain ⟨z,its,n,r,hl,e⟩:=I.lstM hH;obtain ⟨z2,a3,n2,r2,a4,e2⟩:=I.lstM hB;refine PySem.P.add_list e e2 ?_ (by rw[qB7,qB7];omega);have ea:its.toArray++a3.toArray=(its++a3).toArray:=ZW;rw[ea];show ⟨.ref _,_,I.lnew (t':=s.toks) (r.append r2) (by rw[qC4];omega),rfl,q _ I.fresh⟩
end L2
namespace Att
open PySem PySem.W PySem.Calls PyProof.Rows
def iq:∀(ns:Zk) (vs:VY),WellAll P h vs (ns.map WData.int)->IntsAre vs ns:=by
 intro ns
 induction ns with
 | nil=>
  intro vs w;rw[qO4]at w;cases w;show .nil
 | cons n ns I=>
  intro vs w;rw[qB8]at w;cases w with
  | cons a b=>
   cases a;show .cons _ _ (I _ b)
def tw {l:OpenLaw}(hn:l.most=some n)(I:l.row.toRowW.claim.pre args=true)(a4:WellAll P h vals args):
  ∃a vs ns,vals = [Value.ref a]/\args = [WData.list (ns.map WData.int)]/\h.get? a=some { cls:=.type "list",data:=.seq vs.toArray }/\IntsAre vs ns/\ns.length<=n:=by
 have a5:WShape.hasAll [] args [.list .int]=true:=(pre_splitW I).1;have hc:l.pre.holds [] { args:=args }=true:=(pre_splitW I).2;obtain ⟨d,r,rfl,h1,h2⟩:=hasAllW_cons a5;obtain rfl:=hasAllW_nil h2;obtain ⟨xs,rfl,h3⟩:=hasW_list h1;obtain ⟨ns,rfl⟩:=items_int h3;have hlen:ns.length<=n:=by
  unfold OpenLaw.pre at hc;have h4:(WTm.not (.lt (.lit (.int (n:Int))) (.len (.arg 0)))).holds [] { args:=[.list (ns.map .int)] }=true:=by
   have h4:=(holds_andW hc).1;rw[hn]at h4;show h4
  have h5:=condW_of h4 (w_not (w_lt w_lit (w_len_list (w_arg rfl))));rw[qA5]at h5;refine Nat.le_of_not_lt λq=>?_;have q':(n:Int)<((ns.length:Nat):Int):=ox
  first
   | (rw[qQ7 q']at h5;show absurd h5 ZU)
   | (simp at h5;omega)
 cases a4 with
 | cons w1 w2=>
  cases w2;cases w1 with
  |list ho a3=>show ⟨_,_,ns,rfl,rfl,ho,iq ns _ a3,hlen⟩
def tU (l:OpenLaw)(args:List WData):l.row.toRowW.claim.post args (.bool true) args=true:=
 postW_of (r:=l.row.toRowW) (X:=(true == true))
  (show WShape.has [] (.bool true) .bool=true by first|rfl|decide|simp [WShape.has,WShape.arms,WShape.armsAll])
  (show (WTm.eq .res (.lit (.bool true))).value [] { args:=args,res:=some (.bool true),after:=args }=some (.bool (true == true)) from w_eq_bool (w_res rfl) w_lit) rfl
end Att
namespace L2
open PySem PySem.Spec PyProof.Rows
def sr:∀{vs:VY}{ns:Zk},IntsAre vs ns->Vals (ns.map V.int) vs:=by
 intro vs ns h
 induction h with
 |nil=>show .nil
 |cons n t h I=>show .cons ⟨t,rfl⟩ I
def rY (H:Hp):Prop:=∀b,H b=none\/∃o xs,H b=some (.frz o (.lst xs))
def xJ {K:Frag}(KX:K.In s₁.heap)(hns:s₁.heap.Ns mainGlobals mg)(hb:s₁.heap.Ns builtinsNs mb)(a9:∀x:Str,x ≠ "__name__" -> mb x=bootBuiltins x)(a8:s₁.heap.NoLimit)(hg:s₁.gens=#[])(ha:s₁.heap.get? a=some { cls:=.type "list",data:=.seq vs.toArray })(hi:IntsAre vs ns)(hl:ns.length<=sizeLine)(hr:Room k callerA)(F:∀base:Heap,K.In base->base.Ns mainGlobals mg->FnOk P w K mg base CX k fa fd [x] sp)(a4:∀(s:Shared) (u:Value),BindsTo s fd ⟨[u],[]⟩ [(x,u)])(ab:∀H:Hp,rY H->SqL K H a (ns.map V.int)->sp [.ref a] H (λv _=>v=.bl true) λ_ _ _=>False)(b3:∀H e s',CX [] H s₁ (λ_ _ _=>False) e s'->False):
  codeAny (model P w) callerA (.call (.ref fa) ⟨[.ref a],[]⟩) (λr s'=>r=.ok (.ret (.bool true))/\OldK s₁.heap s'.heap/\s'.os=s₁.os/\AllBare s'.gens) s₁:=by
 have rv:=sr hi;have a6:=hi.length
 -- from an abstract heap in which nothing but the script may be tracked
 have core:∀H:Hp,rY H->SqL K H a (ns.map V.int)->HOk P w H s₁.heap->(∀b,H b≠none->b=a)->(H a≠none->K.lookup a=none) ->
   codeAny (model P w) callerA (.call (.ref fa) ⟨[.ref a],[]⟩) (λr s'=>r=.ok (.ret (.bool true))/\OldK s₁.heap s'.heap/\s'.os=s₁.os/\AllBare s'.gens) s₁:=by
  intro H hO hS hok hA hK;have I:∀{b:Addr}{o:Obj},s₁.heap.get? b=some o->H b=none->(cD s₁.heap H).get? b=some o:=λe n=>xT e n;have b0:∀{b:Addr}{o:Obj}{es:Array DictEntry}{ep:Nat},s₁.heap.get? b=some o->o.data=.dict es ep->H b=none:=λ{b o es ep} e d=>by
   cases q:H b with
   |none=>rfl
   | some u=>
    have e':b=a:=hA b (by rw[q];simp);subst e';rw[ha]at e;cases e;have d':Data.seq vs.toArray _=Data.dict es ep:=d;cases d'
  have a3:∀{b:Addr}{m:VV},s₁.heap.Ns b m->(cD s₁.heap H).Ns b m:=λ{b m} zz46=>by obtain ⟨o,es,ep,e,d,r⟩:=zz46;show ⟨o,es,ep,I e (b0 e d),d,r⟩
  have a5:K.In (cD s₁.heap H):=λb o e=>I (KX b o e) (by
   cases q:H b with
   |none=>rfl
   | some u=>
    have e':b=a:=hA b (by rw[q];simp);subst e';rw[hK (by rw[q];simp)]at e;cases e)
  have hM:Mod K mg (cD s₁.heap H):=⟨a5,a3 hns,⟨mb,a3 hb,a9⟩,let ⟨mc,h1,h2⟩:=a8;⟨mc,a3 h1,h2⟩⟩;have e0:sd P w K mg (cD s₁.heap H) callerA [] s₁ H:=⟨rfl,hM,λb o e=>Bj e,qL1 (vg _ _),trivial,λb hb=>absurd (show b∈([]:List Addr) from hb) ZW,hok,.of_eq hg⟩;refine codeAny_mono ((F _ a5 (a3 hns)).run callerA [] s₁ H ⟨[.ref a],[]⟩ [.ref a] [.ref a] _ _ hr e0 (a4 s₁ (.ref a)) (.cons rfl .nil) (ab H hO hS)) λr s' h=>?_;cases r with
  |error e=>show (b3 H e s' h).elim
  | ok fl=>
   cases fl with
   |next=>show False.elim h
   |brk=>show False.elim h
   |cont=>show False.elim h
   | ret u=>
    obtain ⟨v,H',os,bare,un,a7,r',q⟩:=h;have q':v=.bl true:=q;subst q';obtain rfl:u=Value.bool true:=r';refine ⟨rfl,OldK.of_keep λb o e=>?_,os,bare⟩;cases q:H b with
    |none=>show un.keep b o e q (by intro z;show absurd (show b∈([]:List Addr) from z) ZW) ZW
    | some u=>
     rcases hO b with z|⟨ob,xs,z⟩
     .rw[q]at z;cases z
     .have z2:=un.frzs b ob _ z;obtain ⟨e1,_⟩:=hok b _ z;obtain ⟨e2,_⟩:=a7 b _ z2;rw[e]at e1;cases e1;show e2
 cases hk:K.lookup a with
 | some o=>
  -- the script is one of the module's own objects
  have e:=KX a o hk;rw[ha]at e;cases e;refine core (λ_=>none) (λ_=>.inl rfl) (.inr ⟨_,vs.toArray,_,hk,rfl,rfl,rfl,by rw[qB7,a6];show hl,by simpa using rv⟩) (λb u z=>by have z':(none:Option HO)=some u:=z;cases z') (λb z=>absurd rfl z) λz=>absurd rfl z
 | none=>
  refine core (λb=>if b=a then some (.frz { cls:=.type "list",data:=.seq vs.toArray } (.lst (ns.map V.int))) else none) (λb=>?_) (.inl (.inr ⟨{ cls:=.type "list",data:=.seq vs.toArray },qA2 rfl⟩)) (λb u z=>?_) (λb z=>?_) λ_=>hk
  .by_cases hb:b=a
   .show .inr ⟨_,_,qA2 hb⟩
   .show .inl (qA4 hb)
  .by_cases hb:b=a
   .have z':=(qA2 hb).symm.trans z;cases z';subst hb;show ⟨ha,by rw[qA5];show hl,vs,_,rv,ha⟩
   .have z':=(qA4 hb).symm.trans z;cases z'
  .by_cases hb:b=a
   .show hb
   .show absurd (qA4 hb) z
abbrev CX0:CXT:=λ_ _ _ _ _ _=>False
abbrev E0:XK:=λ_ _ _=>False
def qN:on CX0 X E0:=λ_ _ _ _ _ _ _ h=>h.elim
structure Fun (K:Frag) (x qual:Str) (st:Stmt) (f:Addr) (fd:FuncData):Prop where
 ex:∃(oc:Value) (od:Option Addr) (kV doc pm:Value) (an:Option Addr) (cdv ct:Value) (osl:Array (Option Value)),
  fd=PySem.W.fnOf x qual (T6 st) (K9 st) (c6 st) .none kV doc pm an cdv ct/\K.lookup f=some ⟨oc,od,.func fd,osl⟩/\PySem.W.codeIn K cdv qual=true
 kp:PySem.W.keepIn K (.ref f)=true
def Fun.ok {K:Frag}{st:Stmt}(F:Fun K x qual st f fd)(S:e7 N ps (c6 st))(len:∀vs H Q E,sp vs H Q E->vs.length=ps.length) (I:∀(cdv:Value) (A:Around) (outer:List Env) (s:Shared) (H:Hp) (vs:List V) (Q:VK) (E:XK),Room k (A.deeper (envOfC qual (c6 st) s.heap.objs.size f cdv))->sp vs H Q E ->
   ∃t,PSs (dZ CX0 P w K mg base N qual (c6 st) f cdv A outer s H E).nox (K9 st) t/\t { nx:=λ_ H'=>Q .non H',rt:=Q } (start N vs) H):FnOk P w K mg base CX0 (k+1) f fd ps sp:=by
 obtain ⟨oc,od,kV,doc,pm,an,cdv,ct,osl,rfl,lk,a3⟩:=F.ex;refine JP lk a3 S len λA outer s H vs Q E hr a4=>?_;obtain ⟨t,h,q⟩:=I cdv A outer s H vs Q E hr a4;show ⟨t,h.nox,q⟩
def Fun.binds {K:Frag}{st:Stmt}(F:Fun K x qual st f fd)(h:∀(kV doc pm:Value) (an:Option Addr) (cdv ct:Value) (us:VY),us.length=ps.length->bindArgs (PySem.W.fnOf x qual (T6 st) (K9 st) (c6 st) .none kV doc pm an cdv ct) ⟨us,[]⟩=pure (ps.zip us)):Binds K fd ps []:=by
 obtain ⟨oc,od,kV,doc,pm,an,cdv,ct,osl,rfl,lk,I⟩:=F.ex;show .all (h kV doc pm an cdv ct)
def GX {K:Frag}{st:Stmt}{kV:Value}(l:K.lookup f=some ⟨oc,od,.func (PySem.W.fnOf x qual (T6 st) (K9 st) (c6 st) .none kV doc pm an cdv ct),osl⟩)(c:PySem.W.codeIn K cdv qual=true)(k:PySem.W.keepIn K (.ref f)=true):Fun K x qual st f (PySem.W.fnOf x qual (T6 st) (K9 st) (c6 st) .none kV doc pm an cdv ct):=⟨⟨oc,od,kV,doc,pm,an,cdv,ct,osl,rfl,l,c⟩,k⟩
def pv {X:Cx}(i:Nat){x:Str}{pos:Pos}(hN:X.N[i]?=some x:=by rfl)(hv:Vis X.env.scope x:=by first|show Or.inl rfl|show Or.inr (Or.inl rfl)|show Or.inr (Or.inr rfl))(hd:(x == ("__debug__":Str))=false:=by decide)(I:(x == ("__classdict__":Str))=false:=by decide):PE X (.Name x pos) (V3 i):=Q4 hN hv hd I
def Same (H H':Hp):Prop:=∀b o,H b=some o->H' b=some o
def Same.refl (H:Hp):Same H H:=λ_ _ h=>h
def Same.trans (a:Same H H1)(b:Same H1 H2):Same H H2:=λc o h=>b c o (a c o h)
def Same.free (e:Same H H')(h:H' l=Option.none):H l=Option.none:=by
 cases q:H l with
 |none=>rfl
 | some o=>
  rw[e l o q]at h;cases h
def Same.seq {K:Frag}(e:Same H H')(h:SqL K H a xs):SqL K H' a xs:=by
 rcases h with (h|⟨o,h⟩)|h
 .show .inl (.inl (e _ _ h))
 .show .inl (.inr ⟨o,e _ _ h⟩)
 .show .inr h
def Dk (h h':Heap):Prop:=∀b o,h.get? b=some o->∃o',h'.get? b=some o'/\o'.cls=o.cls/\o'.dict=o.dict
structure KD {α:Type}(t:Sem α):Prop where
 out:∀(M:Model) (Γ:PySem.Ctx) (P:α->Pos->Shared->Prop) (Ee:Value->Pos->Shared->Prop) (p:Pos) (s:Shared),
  Sem.wp M Γ t P Ee p s->Sem.wp M Γ t (λa p' s'=>P a p' s'/\Dk s.heap s'.heap) Ee p s
def cut (h:Heap)(fs:List Addr):Heap:={ h with objs:=h.objs.mapIdx λi o=>if i∈fs then { o with data:=.freed } else o }
structure KF (P:Program) (w:World) (outer:List Env) (H:Hp) (s:Shared) (a:Addr) (B:Heap) (H':Hp) (cls:Value) (od:Option Addr) (s':Shared):Prop where
 fl:∃a0,B.FlyingW outer a cls a0 s'.heap
 dict:∃o,s'.heap.get? a=some o/\o.dict=od
 os:s'.os=s.os
 bare:AllBare s'.gens
 un:Un (frs outer) [] H H' s.heap s'.heap
 hok:HOk P w H' s'.heap
 inB:∀b o,H' b=some o->∃ob,B.get? b=some ob
 all:∀b o,s.heap.get? b=some o->b∉frs outer->∃o',B.get? b=some o'
def CXW (P:Program)(w:World):CXT:=λouter H s E e s'=>∃a B H' cls od,e=.ref a/\KF P w outer H s a B H' cls od s'/\E cls od H'
section
variable {X:Cx}{pins:VZ}{σ:St}{H H':Hp}{s s1:Shared}{a:Addr}{B:Heap}{cls:Value}{od:Option Addr}
structure Here (X:Cx) (pins:VZ) (σ:St) (H':Hp) (a:Addr) (B:Heap) (cls:Value) (od:Option Addr) (s:Shared):Prop where
 inv:Inv X pins σ H' s
 dict:∃o,s.heap.get? a=some o/\o.dict=od
end
def tCatch (X:Cx)(C:Addr)(jn:Nat)(tb:TS)(D:Ends)(σ:St):XK:=λcls od H'=>∃Dc,cls=.ref Dc/\PySem.W.exmOne X.K (.ref Dc) (.ref C)=some true /\
 ∀ (a:Addr) (o:Obj),H' a=none->o.cls=cls->o.dict=od->(∃vs:Array Value,o.data=.fields vs) ->
  tb { nx:=λI H'=>D.nx (I.set jn none) H',rt:=D.rt,bk:=λI H'=>D.bk (I.set jn none) H',ct:=λI H'=>D.ct (I.set jn none) H' } (σ.set jn (some (.ref a))) (upd H' a (.ext λh=>h.get? a=some o))
end L2
namespace L2
open PySem
structure Nx {α:Type}(t:Sem α):Prop where
 out:∀(M:Model) (Γ:PySem.Ctx) (P:α->Pos->Shared->Prop) (Ee Ef:Value->Pos->Shared->Prop) (p:Pos) (s:Shared),Sem.wp M Γ t P Ee p s->Sem.wp M Γ t P Ef p s
structure Po {α:Type}(t:Sem α) (pre:Shared->Prop) (post:α->Shared->Prop):Prop where
 out:∀(M:Model) (Γ:PySem.Ctx) (P:α->Pos->Shared->Prop) (Ee Ef:Value->Pos->Shared->Prop) (p:Pos) (s:Shared),
  pre s->Sem.wp M Γ t P Ee p s->Sem.wp M Γ t (λa p' s'=>P a p' s'/\post a s') Ef p s
def zQ (v:Value)(i:Nat)(x:Value)(h:Heap):Prop:=∃(a:Addr)(o:Obj)(vs:Zj),v=.ref a/\h.get? a=some o/\o.data=.fields vs/\vs[i]?=some x
def Marked (e:Value)(f:Addr)(h:Heap):Prop:=∃t,zQ e 1 t h/\zQ t 3 (rawInt f) h/\t≠.none
structure Free {α:Type}(t:Sem α):Prop where
 out:∀(M:Model) (Γ Γ':PySem.Ctx) (P P':α->Pos->Shared->Prop) (E E':Value->Pos->Shared->Prop) (p p':Pos) (s:Shared),(∀a p p' s,P a p s->P' a p' s)->(∀a p p' s,E a p s->E' a p' s)->Sem.wp M Γ t P E p s->Sem.wp M Γ' t P' E' p' s
end L2
namespace L2
open PySem PySem.Spec PyProof.Rows
section
variable {κ:Type} [DecidableEq κ]
def V2 (kvs:List (κ×V))(k:κ):Option V:=(kvs.find? λI=>decide (I.1=k)).map (·.2)
def putK (kvs:List (κ×V))(k:κ)(v:V):List (κ×V):=
 if (kvs.any λI=>decide (I.1=k))=true then kvs.map (λI=>if I.1=k then (I.1,v) else I) else kvs ++ [(k,v)]
def dropK (kvs:List (κ×V))(k:κ):List (κ×V):=kvs.filter λI=>decide (I.1≠k)
def fH {p:κ×V}(e:p.1=k):V2 (p::r) k=some p.2:=by simp [V2,qN5,e]
def fJ {p:κ×V}(e:¬ p.1=k):V2 (p::r) k=V2 r k:=by simp [V2,qN5,e]
def bX (k:κ):∀kvs:List (κ×V),(kvs.any λI=>decide (I.1=k))=(V2 kvs k).isSome
 | []=>rfl
 | p::r=>by
  rw[qX3];by_cases e:p.1=k
  .simp only [fH e,qQ7 e,Bool.true_or,Option.isSome_some]
  .rw[fJ e,qQ6 e,xC9];show bX k r
def fv (kvs:List (κ×V))(k:κ)(v:V):(putK kvs k v).length<=kvs.length+1:=by
 unfold putK
 split
 .rw[qA5];omega
 .rw[qC4,qD4,qN6];omega
def RelO.isSome_eq (r:RelO o u):o.isSome=u.isSome:=by
 cases o with
 | none=>cases u with
  |none=>rfl
  |some _=>show (show False from r).elim
 | some _=>cases u with
  |none=>show (show False from r).elim
  |some _=>rfl
def KV.val (r:KV kvs vs)(k:κ):RelO (V2 kvs k) (valueAt vs k):=by
 unfold KV at r
 induction r with
 |nil=>show True.intro
 | @cons p q ps qs h t ih=>
  obtain ⟨h1,h2⟩:=h;by_cases e:p.1=k
  .have I:q.1=k:=h1.symm.trans e;have b:valueAt (q::qs) k=some q.2:=by simp [valueAt,qN5,I]
   rw[fH e,b];show h2
  .have I:¬ q.1=k:=λz=>e (h1.trans z);have b:valueAt (q::qs) k=valueAt qs k:=by simp [valueAt,qN5,I]
   rw[fJ e,b];show ih
def KV.any (r:KV kvs vs)(k:κ):(kvs.any λI=>decide (I.1=k))=vs.any λI=>decide (I.1=k):=by
 unfold KV at r
 induction r with
 |nil=>rfl
 |cons h t ih=>rw[qX3,qX3,ih,h.1]
def KV.repl (r:KV kvs vs)(k:κ)(ry:RelV y u):
  KV (kvs.map λI=>if I.1=k then (I.1,y) else I) (vs.map λI=>if I.1=k then (I.1,u) else I):=by
 unfold KV at r ⊢
 induction r with
 |nil=>show .nil
 | @cons p q ps qs h t ih=>
  rw[qB8,qB8];refine .cons ?_ ih;obtain ⟨h1,h2⟩:=h;by_cases e:p.1=k
  .rw[qA2 e,qA2 (h1.symm.trans e)];show ⟨h1,ry⟩
  .rw[qA4 e,qA4 (λz=>e (h1.trans z))];show ⟨h1,h2⟩
def KV.put (r:KV kvs vs)(k:κ)(I:RelV y u):KV (putK kvs k y) (stored vs k u):=by
 unfold putK stored;rw[r.any k];by_cases e:(vs.any λkv=>decide (kv.1=k))=true
 .rw[qA2 e,qA2 e];show r.repl k I
 .rw[qA4 e,qA4 e];show Paired.snoc r ⟨rfl,I⟩
def KV.length {vs:List (κ×Value)}(r:KV kvs vs):kvs.length=vs.length:=Paired.length r
end
def rp (r:RelV (kV k) u):(A8 P w).is k u=true:=by
 cases k with
 |inl i=>obtain ⟨t,e⟩:=(show ∃t,u=Value.int i t from r);subst e;show oE P w i t
 |inr x=>obtain ⟨t,e⟩:=(show ∃t,u=Value.str x t from r);subst e;show oD P w x t
def kF:∀{ks:List Key}{us:VY},Vals (ks.map kV) us->ItemsAre (A8 P w) ks us
 | [],_,r=>by rw[qO4]at r;cases r;show .nil
 | k::ks,_,r=>by
  rw[qB8]at r;cases r with
  |cons h t=>show .cons (rp h) (kF t)
abbrev KT (H:Hp):List (List Key×V)->List (List Key×Addr×Value)->Prop:=Paired λp q=>p.1=q.1/\H q.2.1=some (.tup (p.1.map kV))/\RelV p.2 q.2.2
def KT.val (r:KT H kvs xs)(k:List Key):RelO (V2 kvs k) ((atKey xs k).map (·.2)):=by
 induction r with
 |nil=>show True.intro
 | @cons p q ps qs h t ih=>
  obtain ⟨h1,_,h2⟩:=h;by_cases e:p.1=k
  .have I:q.1=k:=h1.symm.trans e;have b:atKey (q::qs) k=some q.2:=by simp [atKey,qN5,I]
   rw[fH e,b];show h2
  .have I:¬ q.1=k:=λz=>e (h1.trans z);have b:atKey (q::qs) k=atKey qs k:=by simp [atKey,qN5,I]
   rw[fJ e,b];show ih
def KT.repl (r:KT H kvs xs)(k:List Key)(ry:RelV y u):
  KT H (kvs.map λI=>if I.1=k then (I.1,y) else I) (xs.map (putAt k u)):=by
 induction r with
 |nil=>show .nil
 | @cons p q ps qs h t ih=>
  rw[qB8,qB8];refine .cons ?_ ih;obtain ⟨h1,h2,h3⟩:=h;unfold putAt;by_cases e:p.1=k
  .rw[qA2 e,qA2 (h1.symm.trans e)];show ⟨h1,h2,ry⟩
  .rw[qA4 e,qA4 (λz=>e (h1.trans z))];show ⟨h1,h2,h3⟩
def KT.put (r:KT H kvs xs)(k:List Key)(hb:H b=some (.tup (k.map kV)))(I:RelV y u):
  KT H (putK kvs k y) (storedH xs k b u):=by
 have e:(kvs.any λkv=>decide (kv.1=k))=(atKey xs k).isSome:=by
  rw[bX,(r.val k).isSome_eq,Option.isSome_map]
 unfold putK storedH;rw[e];by_cases q:(atKey xs k).isSome=true
 .rw[qA2 q,qA2 q];show r.repl k I
 .rw[qA4 q,qA4 q];show Paired.snoc r ⟨rfl,hb,I⟩
def KT.keeps (r:KT H kvs xs)(ht:∀b ys,H b=some (.tup ys)->H' b=some (.tup ys)):KT H' kvs xs:=
 Paired.mapP r λ_ _ z=>⟨z.1,ht _ _ z.2.1,z.2.2⟩
def yX (ok:HOk P w H h)(e:Rd H a u):ObjOk P w H h a u:=e.ok ok
def zG (ok:HOk P w H h)(e:Rd H a (.dK kvs)):kvs.length<=sizeLine/\(a == sysModules)=false/\∃vs,KV kvs vs/\h.DictOf (A8 P w) a vs:=
 show ObjOk P w H h a (.dK kvs) from yX ok e
def JV (ok:HOk P w H h)(e:H a=some (.dK kvs)):kvs.length<=sizeLine/\(a == sysModules)=false/\∃vs,KV kvs vs/\h.DictOf (A8 P w) a vs:=zG ok (.inl e)
def ip (ok:HOk P w H h)(e:H a=some (.tup (ks.map kV))):(tupleKind (A8 P w)).is h ks a:=by
 obtain ⟨_,its,r,o,h1,h2,n,I⟩:=(show ObjOk P w H h a (.tup (ks.map kV)) from ok a _ e);show ⟨o,its.toArray,n,h1,h2,I,by simpa using kF r⟩
def zD (ok:HOk P w H h)(e:Rd H a (.dT kvs)):kvs.length<=sizeLine/\(a == sysModules)=false /\
  ∃xs,KT H kvs xs/\h.DictOfH (tupleKind (A8 P w)) a xs:=by
 obtain ⟨z,y,xs,r,o,es,ep,h1,h2,h3,h4,h5⟩:=(show ObjOk P w H h a (.dT kvs) from yX ok e);refine ⟨z,y,xs,r,o,es,ep,h1,h2,h3,h4,λx I=>?_,h5⟩;have all:∀{l:List (List Key×V)}{m:List (List Key×Addr×Value)},KT H l m->∀x∈m,(tupleKind (A8 P w)).is h x.1 x.2.1:=by
  intro l m q
  induction q with
  |nil=>intro x I;show nomatch I
  | @cons p q ps qs hq t ih=>
   intro x I;rcases qB6.mp I with e|I
   .subst e;show ip ok (by rw[<- hq.1];show hq.2.1)
   .show ih x I
 show all r x I
def zE (ok:HOk P w H h)(e:H a=some (.dT kvs)):kvs.length<=sizeLine/\(a == sysModules)=false /\
  ∃xs,KT H kvs xs/\h.DictOfH (tupleKind (A8 P w)) a xs:=zD ok (.inl e)
def DGet (H:Hp)(a:Addr)(y:V)(r:Option V):Prop:=
 (∃kvs k,Rd H a (.dK kvs)/\y=kV k/\r=V2 kvs k)\/∃kvs k b,Rd H a (.dT kvs)/\y=.ref b/\H b=some (.tup (k.map kV))/\r=V2 kvs k
def DPut (H:Hp)(a:Addr)(y v:V)(H':Hp):Prop:=
 (∃kvs k,H a=some (.dK kvs)/\y=kV k/\kvs.length<sizeLine/\H'=upd H a (.dK (putK kvs k v))) \/
 ∃kvs k b,H a=some (.dT kvs)/\y=.ref b/\H b=some (.tup (k.map kV))/\kvs.length<sizeLine/\H'=upd H a (.dT (putK kvs k v))
def DGet.k {H:Hp}{k:Key}(e:H a=some (.dK kvs)):DGet H a (kV k) (V2 kvs k):=.inl ⟨kvs,k,.inl e,rfl,rfl⟩
def DGet.t {H:Hp}{k:List Key}(e:H a=some (.dT kvs))(I:H b=some (.tup (k.map kV))):DGet H a (.ref b) (V2 kvs k):=.inr ⟨kvs,k,b,.inl e,rfl,I,rfl⟩
def DPut.k {H:Hp}{k:Key}(e:H a=some (.dK kvs))(I:kvs.length<sizeLine):DPut H a (kV k) v (upd H a (.dK (putK kvs k v))):=.inl ⟨kvs,k,e,rfl,I,rfl⟩
def DPut.t {H:Hp}{k:List Key}(e:H a=some (.dT kvs))(eb:H b=some (.tup (k.map kV)))(I:kvs.length<sizeLine):
  DPut H a (.ref b) v (upd H a (.dT (putK kvs k v))):=.inr ⟨kvs,k,b,e,rfl,eb,I,rfl⟩
def Inv.big {σ:St}(I:Inv X pins σ H s):sysModules<s.heap.objs.size:=by
 have h:mainGlobals<s.heap.objs.size:=(I.mod.glob.keeps I.bk).lt;show Nat.lt_trans ZU h
def d_in {σ:St}(hu:A.units+1<cLine)(I:Inv X pins σ H s)(g:DGet H a y o)(ry:RelV y u)(h:∀s',Inv X pins σ H s'->Q (.bool o.isSome) s'):
  wpAny (model X.prog X.w) A (compareOp .In u (.ref a)) Q E s:=by
 rcases g with ⟨kvs,k,e,ey,l⟩|⟨kvs,k,b,e,ey,eb,l⟩
 .subst ey;obtain ⟨z,hd,vs,rel,dd⟩:=zG I.hok e;refine wpAny_in_of (rp ry) hd dd.mapOf ?_;rw[<- (rel.val k).isSome_eq,<- l];show h _ (I.tok _)
 .subst ey;cases (show u=Value.ref b from ry);obtain ⟨z,hd,xs,rel,dd⟩:=zD I.hok e;refine wpAny_in_heap (tupleKind_room_in1 hu) (ip I.hok eb) hd dd ?_;have q:=(rel.val k).isSome_eq;rw[Option.isSome_map]at q;rw[<- q,<- l];show h _ (I.tok _)
def jJ {σ:St}(I:Inv X pins σ H s)(mu:Mut (H a))(hs:Heap.SameBut a s.heap h')(he:∃q,h'.get? a=some q)(a3:ObjOk X.prog X.w (upd H a ob) h' a ob):
  Inv X pins σ (upd H a ob) { s with heap:=h',toks:=t' }:=
 I.write (x:=a) (e:=a) mu (.inl rfl) (λb q hb z=>(hs.2 b hb).trans z) he a3
def HG (z:kvs.length<=sizeLine)(hd:(a == sysModules)=false)(rel:KV kvs vs)(I:h'.DictOf (A8 P w) a vs):
  ObjOk P w H' h' a (.dK kvs):=⟨z,hd,vs,rel,I⟩
def vE {σ:St}(hu:A.units+1<cLine)(I:Inv X pins σ H s)(g:DPut H a y v H')(ry:RelV y u)(rv:RelV v r)(h:∀s',Inv X pins σ H' s'->Q () s'):
  wpAny (model X.prog X.w) A (setItem (.ref a) u r) Q E s:=by
 rcases g with ⟨kvs,k,e,ey,l,eH⟩|⟨kvs,k,b,e,ey,eb,l,eH⟩
 .subst ey eH;obtain ⟨z,hd,vs,rel,dd⟩:=JV I.hok e;have hz:vs.length<=sizeLine:=by rw[<- rel.length];show z
  have hl:(putK kvs k v).length<=sizeLine:=by have:=fv kvs k v;omega
  refine wpAny_setItem_pairs (hsz:=hz) (rp ry) dd λh' a3 hs=>h _ ?_;have he:∃q,h'.get? a=some q:=let ⟨q,_,_,hq,_⟩:=a3;⟨q,hq⟩;show jJ I (by rw[e];show True.intro) hs he (HG hl hd (rel.put k rv) a3)
 .subst ey eH;cases (show u=Value.ref b from ry);obtain ⟨z,hd,xs,rel,dd⟩:=zE I.hok e;have hz:xs.length<=sizeLine:=by rw[<- Paired.length rel];show z
  have hl:(putK kvs k v).length<=sizeLine:=by have:=fv kvs k v;omega
  refine wpAny_setItem_heap (hsz:=hz) (tupleKind_room_in1 hu) (ip I.hok eb) dd λh' a3 hs=>h _ ?_;obtain ⟨q,es,ep,hq,h2,h3,h4,_,h5⟩:=a3;refine jJ I (by rw[e];show True.intro) hs ⟨q,hq⟩ ⟨hl,hd,_,(rel.put k eb rv).keeps λc ys ec=>?_,q,es,ep,hq,h2,h3,h4,h5⟩;rw[d8 (zj ec e (λz=>nomatch z))];show ec
def wv (ty I:TE):TE:=λσ H Q=>ty σ H λy H1=>I σ H1 λx H2=>∃a o,x=.ref a/\DGet H2 a y o/\Q (.bl o.isSome) H2
def qF (td ty tv:TE):TS:=λD σ H=>tv σ H λv H1=>td σ H1 λx H2=>ty σ H2 λy H3=>∃a I,x=.ref a/\DPut H3 a y v I/\D.nx σ I
def uf (hu:X.A.units+1<cLine)(hi:PE X i ty)(ho:PE X o td):PC X .In i o (wv ty td):=by
 intro pins s σ H Q I h;refine thn (hi pins s σ H _ I h) λiv s1 ⟨y,H1,I1,ry,q1⟩=>thn (ho pins s1 σ H1 _ I1 q1) λu s2 a3=>?_;obtain ⟨x,H2,I2,rx,a,ov,ex,g,q2⟩:=a3;subst ex;obtain rfl:u=Value.ref a:=rx;show d_in hu I2 g ry λs3 I3=>⟨.bl ov.isSome,H2,I3,rfl,q2⟩
def pc (hu:X.A.units+1<cLine)(ho:PE X o td)(hi:PE X i ty)(hv:PE X value tv)(hs:swapsWith value (some (.Subscript o i pos')) pos.line X.env=pure false):
  PS X (.Assign [.Subscript o i pos'] value pos) (qF td ty tv):=by
 intro pins s σ H D I h;refine wpAny_Assign_Subscript (thn (hv pins s σ H _ I h) λr s1 ⟨v,H1,I1,rv,q1⟩=>thn (ho pins s1 σ H1 _ I1 q1) λu s2 ⟨x,H2,I2,rx,q2⟩=>thn (hi pins s2 σ H2 _ I2 q2) λiv s3 a3=>?_) hs;obtain ⟨y,H3,I3,ry,a,H4,ex,g,q3⟩:=a3;subst ex;obtain rfl:u=Value.ref a:=rx;show vE hu I3 g ry rv λs4 I4=>⟨σ,H4,I4,q3⟩
def yu (h:Heap)(hb:sysModules<h.objs.size):ObjOk P w H (h.push { cls:=.type "dict",data:=.dict #[] }) h.objs.size (.dK []):=
 ⟨qC7 _,qV5.mpr (Ne.symm (qD9 hb)),[],.nil,Heap.DictOf.new h⟩
def yo (h:Heap)(hb:sysModules<h.objs.size):ObjOk P w H (h.push { cls:=.type "dict",data:=.dict #[] }) h.objs.size (.dT []):=
 ⟨qC7 _,qV5.mpr (Ne.symm (qD9 hb)),[],.nil,_,#[],0,qC5 _ rfl,⟨rfl,rfl,rfl⟩,rfl,rfl,List.nodup_nil⟩
def tDNewK:TE:=λ_ H Q=>∀p,H p=none->Q (.ref p) (upd H p (.dK []))
def xh:PE X (.Dict [] [] pos) tDNewK:=λpins s σ H Q I h=>
 wpAny_Dict_empty ⟨.ref s.heap.objs.size,_,I.laid (a:=s.heap.objs.size) (o:=.dK []) (t':=s.toks) (λ_ _ q=>qA9 _ q) (qB2 _) (yu s.heap I.big),rfl,h _ (I.hok.fresh (qB2 _))⟩
end L2
namespace L2
open PySem
structure Sub where
 t:Bool
 i:Addr
 l:Addr
def Sub.At (u:Sub)(h:Heap)(n:Nat):Prop:=if u.t=true then h.IsTupleIter u.i u.l n else h.IsListIter u.i u.l n
def Sub.Src (u:Sub)(h:Heap)(xs:Zj):Prop:=if u.t=true then h.IsTuple u.l xs else h.IsList u.l xs
def Sub.At.obj {u:Sub}(x:u.At h n):∃o,h.get? u.i=some o/\o.data=.fields #[.ref u.l,.int n 0]:=by
 unfold Sub.At at x
 split at x <;> (obtain ⟨o,e,_,d⟩:=x;show ⟨o,e,d⟩)
def Sub.At.keep {u:Sub}(x:u.At h n)(k:∀o,h.get? u.i=some o->h'.get? u.i=some o):u.At h' n:=by
 unfold Sub.At at x ⊢
 split at x <;> (rename_i ht;obtain ⟨o,e,r⟩:=x;simp only [ht,qQ8,qR0,qE2];show ⟨o,k o e,r⟩)
def Sub.Src.keep {u:Sub}(x:u.Src h xs)(k:∀o,h.get? u.l=some o->h'.get? u.l=some o):u.Src h' xs:=by
 unfold Sub.Src at x ⊢
 split at x <;> (rename_i ht;obtain ⟨o,e,r⟩:=x;simp only [ht,qQ8,qR0,qE2];show ⟨o,k o e,r⟩)
def hJ (I:s.heap.IsTupleIter it t i)(ht:s.heap.IsTuple t items)(hx:items[i]?=some x)(hQ:∀h',h'.IsTupleIter it t (i+1)->Heap.SameBut it s.heap h'->Q x { s with heap:=h' }):wpAny (model prog w) A (Builtin.SmallTypes.nextOf (.ref it)) Q E s:=by
 obtain ⟨o,ho,hc,hd⟩:=id I;obtain ⟨ol,a3,_,nl,a4⟩:=ht;unfold Builtin.SmallTypes.nextOf;refine qA1 (qR2 (name:=Str.ofString "__next__") I.typeIs qL7 (qR8 qL7 I.typeIs F.entry_tuple_iterator_next ?_ (F.args_tuple_iterator_next_1 _)))
 change wpAny _ _ (field (.ref it) 0>>=_) _ _ s;refine qA1 (qR1 ho hd (x:=.ref t) rfl ?_)
 change wpAny _ _ (if (Value.ref t == Value.none)=true then _ else _) _ _ s;rw[qA4 (show ¬ ((Value.ref t == Value.none)=true) from qA3)]
 change wpAny _ _ (field (.ref it) 1>>=_) _ _ s;refine qA1 (qR1 ho hd (x:=.int i 0) rfl ?_)
 change wpAny _ _ (seqItems? (.ref t)>>=_) _ _ s;refine qA1 (qR9 a3 a4 ?_);simp only [qI1,hx];refine qA1 (wpAny_setField ho hd ZW (qQ5 ⟨x,rfl,qQ5 (hQ _ ?_ (qP1 ..))⟩));show ⟨_,qL3 _ ho (Obj.isFreed_of_fields (Obj.data_mapFields hd _)),(Obj.cls_mapFields ..).trans hc,by rw[Obj.data_mapFields hd];simp [rawInt]⟩
def jr (hh:A.handled=none)(I:s.heap.IsTupleIter it t i)(ht:s.heap.IsTuple t items)(hx:items[i]?=none)(hE:∀h' e,Heap.ExtBut it s.heap h'->(∃o,h'.get? e=some o/\o.cls=.type "StopIteration")->E (.ref e) { s with heap:=h' }):wpAny (model prog w) A (Builtin.SmallTypes.nextOf (.ref it)) Q E s:=by
 obtain ⟨o,ho,hc,hd⟩:=id I;obtain ⟨ol,a3,_,nl,a4⟩:=ht;unfold Builtin.SmallTypes.nextOf;refine qA1 (qR2 (name:=Str.ofString "__next__") I.typeIs qL7 (qR8 qL7 I.typeIs F.entry_tuple_iterator_next ?_ (F.args_tuple_iterator_next_1 _)))
 change wpAny _ _ (field (.ref it) 0>>=_) _ _ s;refine qA1 (qR1 ho hd (x:=.ref t) rfl ?_)
 change wpAny _ _ (if (Value.ref t == Value.none)=true then _ else _) _ _ s;rw[qA4 (show ¬ ((Value.ref t == Value.none)=true) from qA3)]
 change wpAny _ _ (field (.ref it) 1>>=_) _ _ s;refine qA1 (qR1 ho hd (x:=.int i 0) rfl ?_)
 change wpAny _ _ (seqItems? (.ref t)>>=_) _ _ s;refine qA1 (qR9 a3 a4 ?_);simp only [qI1,hx];refine qA1 (qS2 (qA1 (wpAny_setField ho hd ZW ?_)));change wpAny _ _ (newExc (.type "StopIteration") []>>=_) _ _ _;refine qA1 ?_;simp only [newExc,newTuple];refine qA1 (qR3 ?_ (by size_fits));refine qA1 (m:=firstArgMember _ _) (wpAny_of_eq (a:=Value.none) (by first|rfl | (simp only [firstArgMember];rfl)) ?_);refine qR3 ?_ (by size_fits);simp only [raiseNew];refine qA1 (wpAny_handled ?_);first|rw[show A.in1.handled=none from hh] |rw[hh]
 refine qA1 (qQ5 (wpAny_throw ?_));show hE _ _ (((qP1 ..).extBut.push _).push _) ⟨_,qC5 _ rfl,rfl⟩
def Sub.item {u:Sub}(ha:u.At s.heap n)(hs:u.Src s.heap xs)(hx:xs[n]?=some x)(I:∀h',u.At h' (n+1)->Heap.SameBut u.i s.heap h'->Q x { s with heap:=h' }):wpAny (model prog w) A (Builtin.SmallTypes.nextOf (.ref u.i)) Q E s:=by
 unfold Sub.At at ha I;unfold Sub.Src at hs;cases ht:u.t with
 |true=>simp only [ht,qQ8]at ha hs I;show hJ ha hs hx I
 |false=>simp only [ht,qR0,qE2]at ha hs I;show wpAny_nextOf_list_item ha hs hx I
def Sub.ends {u:Sub}(hh:A.handled=none)(ha:u.At s.heap n)(hs:u.Src s.heap xs)(hx:xs[n]?=none)(I:∀h' e,Heap.ExtBut u.i s.heap h'->(∃o,h'.get? e=some o/\o.cls=.type "StopIteration")->E (.ref e) { s with heap:=h' }):wpAny (model prog w) A (Builtin.SmallTypes.nextOf (.ref u.i)) Q E s:=by
 unfold Sub.At at ha;unfold Sub.Src at hs;cases ht:u.t with
 |true=>simp only [ht,qQ8]at ha hs;show jr hh ha hs hx I
 |false=>simp only [ht,qR0,qE2]at ha hs;show wpAny_nextOf_list_end hh ha hs hx I
abbrev K2 (h:Heap)(T:Addr)(arr:Zj):Prop:=h.get? T=some { cls:=.type "tuple",data:=.seq arr }
def drawn (n:Nat):List (Sub×Array Value)->Nat->Array Value->Array Value
 | [],_,arr=>arr
 |u::r,c,arr=>drawn n r (c+1) (arr.setIfInBounds c (u.2.getD n .none))
def zR (prog:Program)(w:World)(A:Around)(z TO:Addr)(E:Zv)(B:Value×Nat->Option Fin×Unit->Sem (ForInStep (Option Fin×Unit))):Prop:=
 ∀ (v:Value) (k:Nat) (s:Shared) (Q:ForInStep (Option Fin×Unit)->Shared->Prop),
  wpAny (model prog w) A (Builtin.SmallTypes.nextOf v) (λx s1=>∃arr,K2 s1.heap TO arr/\arr.size<=sizeLine/\∀h',K2 h' TO (arr.setIfInBounds k x)->Heap.SameBut TO s1.heap h'->Q (.yield (none,())) { s1 with heap:=h' })
   (λe s1=>wpAny (model prog w) A (setField (.ref z) 0 .none) (λ_ s2=>E e s2) E s1) s->wpAny (model prog w) A (B (v,k) (none,())) Q E s
structure Apart (z TO:Addr) (ss:List (Sub×Array Value)):Prop where
 zTO:z≠TO
 zi:∀u∈ss,u.1.i≠z
 ti:∀u∈ss,u.1.i≠TO
 nd:ss.Pairwise λu v=>u.1.i≠v.1.i
 lz:∀u∈ss,u.1.l≠z
 lt:∀u∈ss,u.1.l≠TO
 li:∀u∈ss,∀v∈ss,u.1.l≠v.1.i
def Apart.tail {TO:Addr}(D:Apart z TO (u::ss)):Apart z TO ss:=
 ⟨D.zTO,λv I=>D.zi v (qB1 _ I),λv I=>D.ti v (qB1 _ I),(qT3.mp D.nd).2,λv I=>D.lz v (qB1 _ I),λv I=>D.lt v (qB1 _ I),
  λv I x hx=>D.li v (qB1 _ I) x (qB1 _ hx)⟩
def draws {TI TO:Addr}(hB:zR prog w A z TO E B):
  ∀ (ss:List (Sub×Array Value)) (c:Nat) (arr:Zj) (s:Shared) (Q:Option Fin×Unit->Shared->Prop),Apart z TO ss->IsZip s.heap z TI TO .ellipsis->K2 s.heap TO arr->arr.size<=sizeLine ->
   (∀u∈ss,u.1.At s.heap n/\u.1.Src s.heap u.2/\∃x,u.2[n]?=some x) ->
   (∀ h',IsZip h' z TI TO .ellipsis->K2 h' TO (drawn n ss c arr)->(∀u∈ss,u.1.At h' (n+1))->h'.objs.size=s.heap.objs.size ->
    (∀b o,b≠TO->(∀u∈ss,b≠u.1.i)->s.heap.get? b=some o->h'.get? b=some o)->Q (none,()) { s with heap:=h' }) ->
   wpAny (model prog w) A (forIn ((ss.map λu=>Value.ref u.1.i).zipIdx c) (none,()) B) Q E s:=by
 intro ss
 induction ss with
 | nil=>
  intro c arr s Q D hz hT hl hu hQ;simp only [qO4,List.zipIdx_nil,qW0];show qQ5 (hQ s.heap hz hT (λ_ h=>absurd h qE3) rfl λ_ _ _ _ e=>e)
 | cons u r ih=>
  intro c arr s Q D hz hT hl hu hQ;simp only [qB8,qY3,qN7];obtain ⟨ha,a4,x,hx⟩:=hu u qB9;refine qA1 (hB _ _ _ _ (Sub.item ha a4 hx λh1 a7 sb1=>⟨arr,sb1.extBut _ _ (D.ti u qB9).symm hT,hl,λh2 a6 sb2=>?_⟩));have uz:=D.zi u qB9;have ut:=D.ti u qB9;have kp:∀b o,b≠TO->b≠u.1.i->s.heap.get? b=some o->h2.get? b=some o:=λb o h1 h2 e=>sb2.extBut _ _ h1 (sb1.extBut _ _ h2 e);have a5:∀v∈r,v.1.i≠u.1.i:=λv I=>((qT3.mp D.nd).1 v I).symm;refine ih (c+1) (arr.setIfInBounds c x) { s with heap:=h2 } Q D.tail (kp _ _ D.zTO uz.symm hz) a6 (by simpa using hl) (λv I=>?_) λh3 z3 T3 a3 s3 k3=>?_
  .obtain ⟨a,b,y⟩:=hu v (qB1 _ I);show ⟨a.keep λo e=>kp _ o (D.ti v (qB1 _ I)) (a5 v I) e,b.keep λo e=>kp _ o (D.lt v (qB1 _ I)) (D.li v (qB1 _ I) u qB9) e,y⟩
  .refine hQ h3 z3 ?_ (λv I=>?_) (by rw[s3];change h2.objs.size=_;rw[sb2.1,sb1.1]) λb o h1 h2 e=>k3 b o h1 (λv I=>h2 v (qB1 _ I)) (kp b o h1 (h2 u qB9) e)
   .have e:u.2.getD n .none=x:=by simp [qW7,hx]
    change K2 h3 TO (drawn n r (c+1) (arr.setIfInBounds c (u.2.getD n .none)));rw[e];show T3
   .rcases qB6.mp I with rfl|I
    .show a7.keep λo e=>k3 _ o ut (λv' a8=>(a5 v' a8).symm) (sb2.extBut _ _ ut e)
    .show a3 v I
def vy {TI TO:Addr}(hh:A.handled=none)(hB:zR prog w A z TO E B):
  ∀ (ss:List (Sub×Array Value)) (c:Nat) (arr:Zj) (s:Shared) (Q:Option Fin×Unit->Shared->Prop),Apart z TO ss->IsZip s.heap z TI TO .ellipsis->K2 s.heap TO arr->arr.size<=sizeLine ->
   (∀u∈ss,u.1.At s.heap n/\u.1.Src s.heap u.2)->(∃u∈ss,u.2[n]?=none) ->
   (∀h' e,(∀b o,b≠z->b≠TO->(∀u∈ss,b≠u.1.i)->s.heap.get? b=some o->h'.get? b=some o)->(∃o,h'.get? e=some o/\o.cls=.type "StopIteration")->E (.ref e) { s with heap:=h' }) ->
   wpAny (model prog w) A (forIn ((ss.map λu=>Value.ref u.1.i).zipIdx c) (none,()) B) Q E s:=by
 intro ss
 induction ss with
 | nil=>
  intro c arr s Q D hz hT hl hu hx hQ;obtain ⟨_,h,_⟩:=hx;show absurd h qE3
 | cons u r ih=>
  intro c arr s Q D hz hT hl hu hx hQ;simp only [qB8,qY3,qN7];obtain ⟨ha,a3⟩:=hu u qB9;have uz:=D.zi u qB9;have ut:=D.ti u qB9;cases a5:u.2[n]? with
  | none=>
   refine qA1 (hB _ _ _ _ (Sub.ends hh ha a3 a5 λh1 e eb he=>?_));obtain ⟨oe,a4,a7⟩:=he;have a6:IsZip h1 z TI TO .ellipsis:=eb _ _ uz.symm hz;have a9:e≠z:=λx=>by subst x;rw[a6]at a4;cases a4;simp at a7
   show qS3 a6 ZW λh3 _ sb3=>hQ h3 e (λb o b1 b2 b3 q=>sb3.extBut _ _ b1 (eb _ _ (b3 u qB9) q)) ⟨oe,sb3.extBut _ _ a9 a4,a7⟩
  | some x=>
   refine qA1 (hB _ _ _ _ (Sub.item ha a3 a5 λh1 b0 sb1=>⟨arr,sb1.extBut _ _ ut.symm hT,hl,λh2 a8 sb2=>?_⟩));have kp:∀b o,b≠TO->b≠u.1.i->s.heap.get? b=some o->h2.get? b=some o:=λb o h1 h2 e=>sb2.extBut _ _ h1 (sb1.extBut _ _ h2 e);have ab:∀v∈r,v.1.i≠u.1.i:=λv I=>((qT3.mp D.nd).1 v I).symm;refine ih (c+1) (arr.setIfInBounds c x) { s with heap:=h2 } Q D.tail (kp _ _ D.zTO uz.symm hz) a8 (by simpa using hl) (λv I=>?_) ?_ λh3 e k3 he=>?_
   .obtain ⟨a,b⟩:=hu v (qB1 _ I);show ⟨a.keep λo e=>kp _ o (D.ti v (qB1 _ I)) (ab v I) e,b.keep λo e=>kp _ o (D.lt v (qB1 _ I)) (D.li v (qB1 _ I) u qB9) e⟩
   .obtain ⟨v,I,e⟩:=hx;rcases qB6.mp I with rfl|I
    .rw[a5]at e;cases e
    .show ⟨v,I,e⟩
   .show hQ h3 e (λb o b1 b2 b3 q=>k3 b o b1 b2 (λv I=>b3 v (qB1 _ I)) (kp b o b2 (b3 u qB9) q)) he
def rK (n:Nat):∀(ss:List (Sub×Array Value)) (c:Nat) (arr:Zj),(drawn n ss c arr).size=arr.size:=by
 intro ss
 induction ss with
 |nil=>intro c arr;rfl
 |cons u r I=>intro c arr;unfold drawn;rw[I];simp
def vz (n:Nat):∀(ss:List (Sub×Array Value)) (c:Nat) (arr:Zj),c+ss.length=arr.size->(drawn n ss c arr).toList=arr.toList.take c++ss.map λu=>u.2.getD n .none:=by
 intro ss
 induction ss with
 | nil=>
  intro c arr h;unfold drawn;simp at h;subst h;rw[qO4,qG0];show (qF9 ZW).symm
 | cons u r I=>
  intro c arr h;unfold drawn;have hc:c<arr.size:=by simp at h;omega
  rw[I (c+1) _ (by simp at h ⊢;omega)];rw[qB8,qS9]
  have:(arr.toList.set c (u.2.getD n Value.none)).take (c+1)=arr.toList.take c ++ [u.2.getD n Value.none]:=by
   rw[List.take_add_one,List.take_set,qK9 (by simpa using hc)];rw[List.set_eq_of_length_le (by simp;omega)];rfl
  rw[this,qF7];rfl
def wb {TI TO:Addr}(D:Apart z TO ss)(a8:ss ≠ [])(hsz:arr.size=ss.length)(a3:ss.length<=sizeLine)(hz:IsZip s.heap z TI TO .none)(a6:K2 s.heap TI (ss.map λu=>Value.ref u.1.i).toArray)(a7:K2 s.heap TO arr)(hu:∀u∈ss,u.1.At s.heap n/\u.1.Src s.heap u.2/\∃x,u.2[n]?=some x) (hQ:∀h',IsZip h' z TI TO (rawInt s.heap.objs.size)->(∃arr',K2 h' TO arr'/\arr'.size=ss.length)->(∀u∈ss,u.1.At h' (n+1))->K2 h' s.heap.objs.size (ss.map λu=>u.2.getD n .none).toArray ->
   (∀b o,b≠z->b≠TO->(∀u∈ss,b≠u.1.i)->s.heap.get? b=some o->h'.get? b=some o)->Q (some (.ref s.heap.objs.size)) { s with heap:=h' }):
  wpAny (model prog w) A (pyNext (.ref z)) Q E s:=by
 have hT:s.TypeIs (.ref z) "zip":=⟨_,hz,rfl⟩;unfold pyNext;refine qA1 (wpAny_attempt (qR2 (name:=Str.ofString "__next__") hT qU7 (qR8 qU7 hT F.entry_zip_next ?_ (F.args_zip_next_1 _))))
 change wpAny _ _ (field (.ref z) 2>>=_) _ _ _;refine qA1 (qR1 hz rfl (x:=.bool false) rfl ?_)
 change wpAny _ _ (field (.ref z) 3>>=_) _ _ _;refine qA1 (qR1 hz rfl (x:=.ref TI) rfl ?_);refine qA1 (qR9 a6 rfl ?_);have e1:(ss.map λu=>Value.ref u.1.i).toArray.isEmpty=false:=by cases ss <;> simp_all
 simp only [e1];refine qA1 ?_;unfold Builtin.SmallTypes.ownedTupleIsFree;refine qA1 (qR1 hz rfl (x:=.none) rfl (qQ5 ?_));simp only [qQ8];refine qA1 (qS2 ?_);refine qA1 (qR1 hz rfl (x:=.ref TO) rfl ?_);refine qA1 (qS3 hz ZW λh1 z1 sb1=>?_);replace z1:IsZip h1 z TI TO .ellipsis:=z1
 refine qA1 (draws (TI:=TI) (n:=n) (z:=z) (TO:=TO) ?_ ss 0 arr _ _ D z1 (sb1.extBut _ _ D.zTO.symm a7) ox (λu hm=>?_) λI z2 T2 a2 s2 k2=>?_)
 .intro v k s Q h;refine qA1 (wpAny_onRaise ?_)
  change wpAny _ _ (Builtin.SmallTypes.nextOf v>>=_) _ _ _;refine qA1 (qS7 h (λx s1 ⟨arr,hT1,hl,hq⟩=>qQ5 ?_) λe s1 he=>he);refine qA1 (qR9 hT1 rfl ?_);refine qA1 (wpAny_updateSeq hT1 rfl ?_ hl (by rw[qY4];omega));refine qA1 (wpAny_letGo (qQ5 (hq _ ?_ (qP1 ..))))
  change Heap.get? _ _=_;rw[qL3 _ hT1 rfl];simp [Obj.mapSeq]
 .obtain ⟨a,b,x⟩:=hu u hm;show ⟨a.keep λo e=>sb1.extBut _ _ (D.zi u hm) e,b.keep λo e=>sb1.extBut _ _ (D.lz u hm) e,x⟩
 .have ed:(drawn n ss 0 arr).toList=ss.map λu=>u.2.getD n .none:=by rw[vz n ss 0 arr ox];simp
  refine qA1 (qR9 T2 rfl ?_);have a5:I.objs.size=s.heap.objs.size:=by rw[s2];show sb1.1
  have a4:z<I.objs.size:=qB5 z2;refine qA1 (qW1 (qA1 ?_) (by rw[ed,qA5];show a3));unfold Builtin.SmallTypes.ownedTupleHandOut;have z3:IsZip (I.push { cls:=.type "tuple",data:=.seq (drawn n ss 0 arr).toList.toArray }) z TI TO .ellipsis:=qA9 _ z2;refine qA1 (qS3 z3 ZW λh4 z4 sb4=>?_);replace z4:IsZip h4 z TI TO (rawInt I.objs.size):=z4
  refine qS3 z4 ZW λh5 z5 sb5=>?_;replace z5:IsZip h5 z TI TO (rawInt I.objs.size):=z5
  have up:∀b o,b≠z->I.get? b=some o->h5.get? b=some o:=λb o hb e=>sb5.extBut _ _ hb (sb4.extBut _ _ hb (qA9 _ e));have T5:K2 h5 I.objs.size (drawn n ss 0 arr).toList.toArray:=sb5.extBut _ _ (qP4 a4) (sb4.extBut _ _ (qP4 a4) (qC5 _ rfl));rw[ed]at T5;rw[a5]at z5 T5;refine qQ5 ⟨_,rfl,qQ5 ?_⟩
  change Q (some (.ref I.objs.size)) _;rw[a5];show hQ h5 z5 ⟨_,up _ _ D.zTO.symm T2,by rw[rK,hsz]⟩ (λu hm=>(a2 u hm).keep λo e=>up _ o (D.zi u hm) e) T5 λb o b1 b2 b3 e=>up b o b1 (k2 b o b2 b3 (sb1.extBut _ _ b1 e))
def wa {TI TO:Addr}(hh:A.handled=none)(D:Apart z TO ss)(hsz:arr.size=ss.length)(a3:ss.length<=sizeLine)(hz:IsZip s.heap z TI TO .none)(I:K2 s.heap TI (ss.map λu=>Value.ref u.1.i).toArray)(a4:K2 s.heap TO arr)(hu:∀u∈ss,u.1.At s.heap n/\u.1.Src s.heap u.2)(hx:∃u∈ss,u.2[n]?=none)(hQ:∀h',(∀b o,b≠z->b≠TO->(∀u∈ss,b≠u.1.i)->s.heap.get? b=some o->h'.get? b=some o)->Q none { s with heap:=h' }):
  wpAny (model prog w) A (pyNext (.ref z)) Q E s:=by
 have hT:s.TypeIs (.ref z) "zip":=⟨_,hz,rfl⟩;unfold pyNext;refine qA1 (wpAny_attempt (qR2 (name:=Str.ofString "__next__") hT qU7 (qR8 qU7 hT F.entry_zip_next ?_ (F.args_zip_next_1 _))))
 change wpAny _ _ (field (.ref z) 2>>=_) _ _ _;refine qA1 (qR1 hz rfl (x:=.bool false) rfl ?_)
 change wpAny _ _ (field (.ref z) 3>>=_) _ _ _;refine qA1 (qR1 hz rfl (x:=.ref TI) rfl ?_);refine qA1 (qR9 I rfl ?_);have e1:(ss.map λu=>Value.ref u.1.i).toArray.isEmpty=false:=by
  obtain ⟨u,hm,_⟩:=hx;cases ss with
  |nil=>show nomatch hm
  |cons a b=>simp
 simp only [e1];refine qA1 ?_;unfold Builtin.SmallTypes.ownedTupleIsFree;refine qA1 (qR1 hz rfl (x:=.none) rfl (qQ5 ?_));simp only [qQ8];refine qA1 (qS2 ?_);refine qA1 (qR1 hz rfl (x:=.ref TO) rfl ?_);refine qA1 (qS3 hz ZW λh1 z1 sb1=>?_);replace z1:IsZip h1 z TI TO .ellipsis:=z1
 refine qA1 (vy (A:=A.in1) (TI:=TI) (n:=n) (z:=z) (TO:=TO) (show A.in1.handled=none from hh) ?_ ss 0 arr _ _ D z1 (sb1.extBut _ _ D.zTO.symm a4) ox (λu hm=>?_) hx λh2 e k2 he=>?_)
 .intro v k s Q h;refine qA1 (wpAny_onRaise ?_)
  change wpAny _ _ (Builtin.SmallTypes.nextOf v>>=_) _ _ _;refine qA1 (qS7 h (λx s1 ⟨arr,hT1,hl,hq⟩=>qQ5 ?_) λe s1 he=>he);refine qA1 (qR9 hT1 rfl ?_);refine qA1 (wpAny_updateSeq hT1 rfl ?_ hl (by rw[qY4];omega));refine qA1 (wpAny_letGo (qQ5 (hq _ ?_ (qP1 ..))))
  change Heap.get? _ _=_;rw[qL3 _ hT1 rfl];simp [Obj.mapSeq]
 .obtain ⟨a,b⟩:=hu u hm;show ⟨a.keep λo e=>sb1.extBut _ _ (D.zi u hm) e,b.keep λo e=>sb1.extBut _ _ (D.lz u hm) e⟩
 .obtain ⟨o,ho,hc⟩:=he;refine qA1 (wpAny_isInstance (T:="StopIteration") (b:=true) ⟨o,ho,hc⟩ isSubtype_stop ?_);show qQ5 (hQ _ λb o b1 b2 b3 e=>k2 b o b1 b2 b3 (sb1.extBut _ _ b1 e))
def SrcAt (h:Heap)(u:Bool×Addr×Array Value):Prop:=if u.1=true then h.IsTuple u.2.1 u.2.2 else h.IsList u.2.1 u.2.2
def j7 (n:Nat):List (Bool×Addr×Array Value)->List (Sub×Array Value)
 | []=>[]
 |u::r=>(⟨u.1,n,u.2.1⟩,u.2.2)::j7 (n+1) r
def xN (hs:SrcAt s.heap u)(I:∀h',(Sub.mk u.1 s.heap.objs.size u.2.1).At h' 0->h'.objs.size=s.heap.objs.size+1->(∀b o,s.heap.get? b=some o->h'.get? b=some o)->Q (.ref s.heap.objs.size) { s with heap:=h' }):
  wpAny (model prog w) A (pyIter (.ref u.2.1)) Q E s:=by
 unfold SrcAt at hs;cases ht:u.1 with
 | true=>
  simp only [ht,qQ8]at hs;refine qT4 hs (I _ ?_ (qO5 ..) λb o e=>qA9 _ e);unfold Sub.At;simp only [ht,qQ8];show ⟨_,qC5 _ rfl,rfl,rfl⟩
 | false=>
  simp only [ht,qE2,qR0]at hs;refine qS5 hs (I _ ?_ (qO5 ..) λb o e=>qA9 _ e);unfold Sub.At;simp only [ht,qE2,qR0];show ⟨_,qC5 _ rfl,rfl,rfl⟩
def SrcAt.keep (x:SrcAt h u)(k:∀b o,h.get? b=some o->h'.get? b=some o):SrcAt h' u:=by
 unfold SrcAt at x ⊢
 split at x <;> (rename_i ht;obtain ⟨o,e,r⟩:=x;simp only [ht,qQ8,qR0,qE2];show ⟨o,k _ o e,r⟩)
def oH:∀(us:List (Bool×Addr×Array Value)) (I:Zj) (s:Shared) (Q:Array Value->Shared->Prop),(∀u∈us,SrcAt s.heap u) ->
  (∀ h',(∀v∈j7 s.heap.objs.size us,v.1.At h' 0)->h'.objs.size=s.heap.objs.size+us.length->(∀b o,s.heap.get? b=some o->h'.get? b=some o) ->
   Q (I++((j7 s.heap.objs.size us).map λv=>Value.ref v.1.i).toArray) { s with heap:=h' }) ->
  wpAny (model prog w) A (forIn (us.map λu=>Value.ref u.2.1) I λx r=>do let y <- holding r.toList (pyIter x);pure (ForInStep.yield (r.push y))) Q E s:=by
 intro us
 induction us with
 | nil=>
  intro I s Q _ hQ;simp only [qO4,qW0]
  have:=hQ s.heap (λ_ h=>absurd h qE3) rfl λ_ _ e=>e
  show qQ5 (by simpa [j7]using this)
 | cons u r ih=>
  intro I s Q hs hQ;simp only [qB8,qN7];refine qA1 (qA1 (qR7 (xN (hs u qB9) λh1 a1 s1 k1=>qQ5 ?_)));refine ih (I.push (.ref s.heap.objs.size)) { s with heap:=h1 } Q (λv hv=>(hs v (qB1 _ hv)).keep k1) λh2 a2 s2 k2=>?_;have e0:j7 h1.objs.size r=j7 (s.heap.objs.size+1) r:=by rw[s1]
  have q:=hQ h2 (λv hv=>?_) (by rw[s2];change h1.objs.size+_=_;rw[s1,qD4];omega) λb o e=>k2 b o (k1 b o e)
  .have e:I.push (Value.ref s.heap.objs.size)++(List.map (λv=>Value.ref v.1.i) (j7 h1.objs.size r)).toArray=I++(List.map (λv=>Value.ref v.1.i) (j7 s.heap.objs.size (u::r))).toArray:=by
    rw[e0];simp [j7]
   change Q (I.push (Value.ref s.heap.objs.size)++(List.map (λv=>Value.ref v.1.i) (j7 h1.objs.size r)).toArray) _;rw[e];show q
  .rcases qB6.mp hv with rfl|hv
   .show a1.keep λo e=>k2 _ o e
   .show a2 v (by change v∈j7 h1.objs.size r;rw[e0];show hv)
def xO (hs:∀u∈us,SrcAt s.heap u) (hQ:∀h',(∀v∈j7 s.heap.objs.size us,v.1.At h' 0)->h'.objs.size=s.heap.objs.size+us.length->(∀b o,s.heap.get? b=some o->h'.get? b=some o) ->
   Q ((j7 s.heap.objs.size us).map λv=>Value.ref v.1.i) { s with heap:=h' }):wpAny (model prog w) A (Builtin.SmallTypes.iterAll (us.map λu=>Value.ref u.2.1)) Q E s:=by
 unfold Builtin.SmallTypes.iterAll;refine qA1 (oH us #[] s _ hs λh' a1 s1 I=>qQ5 ?_)
 have:=hQ h' a1 s1 I
 simpa using this
def T9:∀(us:List (Bool×Addr×Array Value)) (n:Nat),(j7 n us).length=us.length:=by
 intro us
 induction us with
 |nil=>intro n;rfl
 |cons u r I=>intro n;unfold j7;rw[qD4,I,qD4]
def ke (us:List (Bool×Addr×Array Value))(hl:us.length<=sizeLine) :
  Meets (Builtin.«zip.__new__» ⟨.type "zip" :: us.map λu=>Value.ref u.2.1,[]⟩) (λ_ R s=>(∀u∈us,SrcAt s.heap u) /\
   ∀ h',(∀v∈j7 s.heap.objs.size us,v.1.At h' 0)->K2 h' (s.heap.objs.size+us.length) ((j7 s.heap.objs.size us).map λv=>Value.ref v.1.i).toArray ->
    (∃arr,K2 h' (s.heap.objs.size+us.length+1) arr/\arr.size=us.length)->IsZip h' (s.heap.objs.size+us.length+2) (s.heap.objs.size+us.length) (s.heap.objs.size+us.length+1) .none ->
    (∀b o,s.heap.get? b=some o->h'.get? b=some o)->R (.ok (.ret (.ref (s.heap.objs.size+us.length+2)))) { s with heap:=h' }):=
 .of_wp λprog w A R s h=>by
  obtain ⟨hs,h⟩:=h
  change wpAny _ _ (Builtin.SmallTypes.newClass "zip" _>>=_) _ _ _;refine qA1 ?_;unfold Builtin.SmallTypes.newClass;refine qA1 (wpAny_of_eq (a:=true) rfl ?_);simp only [xD1,qE2,qR0];refine qA1 (wpAny_of_eq (a:=true) sub_zip ?_);simp only [xD1,qE2,qR0];refine qQ5 ?_;simp only [qN6,show ¬ (0>1) by decide,qR0];refine qA1 (xO hs λh1 a1 s1 k1=>?_);refine qA1 (qW1 ?_ (by simp [T9,hl]));refine qA1 (qW1 ?_ (by simp [T9,hl]));generalize hI:((j7 s.heap.objs.size us).map λv=>Value.ref v.1.i)=I at h ⊢
  have a3:I.length=us.length:=by rw[<- hI,qA5,T9]
  refine qA1 ?_
  change wpAny _ _ (newObj (.type "zip") (.fields #[.none,.bool false,.bool false,.ref h1.objs.size,.ref (h1.push { cls:=.type "tuple",data:=.seq I.toArray }).objs.size]) none) _ _ _;refine qR3 (qQ5 ?_) (by size_fits);have z0:h1.objs.size=s.heap.objs.size+us.length:=s1;have z1:(h1.push { cls:=.type "tuple",data:=.seq I.toArray }).objs.size=s.heap.objs.size+us.length+1:=by rw[qO5,s1]
  have z2:((h1.push { cls:=.type "tuple",data:=.seq I.toArray }).push { cls:=.type "tuple",data:=.seq (I.map λ_=>Value.none).toArray }).objs.size=s.heap.objs.size+us.length+2:=by rw[qO5,z1]
  refine ⟨_,rfl,?_⟩;have g:=h (((h1.push { cls:=.type "tuple",data:=.seq I.toArray }).push { cls:=.type "tuple",data:=.seq (I.map λ_=>Value.none).toArray }).push { cls:=.type "zip",data:=.fields #[.none,.bool false,.bool false,.ref h1.objs.size,.ref (h1.push { cls:=.type "tuple",data:=.seq I.toArray }).objs.size] })
   (λv hv=>(a1 v hv).keep λo e=>qA9 _ (qA9 _ (qA9 _ e))) ?_ ⟨(I.map λ_=>Value.none).toArray,?_,by simp [a3]⟩ ?_ λb o e=>qA9 _ (qA9 _ (qA9 _ (k1 b o e)))
  .rw [<- z2]at g
   show g
  .rw[<- z0];show qA9 _ (qA9 _ (qC5 _ rfl))
  .rw[<- z1];show qA9 _ (qC5 _ rfl)
  .rw[<- z2,<- z1,<- z0];show qC5 _ rfl
def qz (a b c:Value):checkTypeCall "zip" ⟨[a,b,c],[]⟩=pure ():=ZK
def qV (a b c:Value):checkBuiltinCall "zip.__new__" ⟨[.type "zip",a,b,c],[]⟩=pure ():=ZK
def rQ (a b c d:Value):argsOk "object.__init__" ⟨[a,b,c,d],[]⟩:=by
 unfold argsOk;rw[signature?_of (id:="object.__init__") (n:=['_','_','t','i','n','i','_','_']) (o:=['t','c','e','j','b','o']) ZK F.owner_object];kernel_rfl
def yB (us:List (Bool×Addr×Array Value))(I:us.length=2\/us.length=3)(hs:∀u∈us,SrcAt s.heap u) (h:∀h',(∀v∈j7 s.heap.objs.size us,v.1.At h' 0)->K2 h' (s.heap.objs.size+us.length) ((j7 s.heap.objs.size us).map λv=>Value.ref v.1.i).toArray ->
    (∃arr,K2 h' (s.heap.objs.size+us.length+1) arr/\arr.size=us.length)->IsZip h' (s.heap.objs.size+us.length+2) (s.heap.objs.size+us.length) (s.heap.objs.size+us.length+1) .none ->
    (∀b o,s.heap.get? b=some o->h'.get? b=some o)->Q (.ref (s.heap.objs.size+us.length+2)) { s with heap:=h' }):
  wpAny (model prog w) A (call (.type "zip") (us.map λu=>Value.ref u.2.1)) Q E s:=by
 have a3:us.length<=sizeLine:=qA8 (show us.length<=3 by omega) ZU;have k:∀h',_->_->_->_->_->({ s with heap:=h' }:Shared).TypeIs (.ref (s.heap.objs.size+us.length+2)) "zip" /\ Q (.ref (s.heap.objs.size+us.length+2)) { s with heap:=h' }:=λh' c1 c2 c3 c4 c5=>⟨⟨_,c4,rfl⟩,h h' c1 c2 c3 c4 c5⟩;cases us with
 |nil=>rcases I with I|I <;> cases I
 | cons a us=>
  cases us with
  |nil=>rcases I with I|I <;> cases I
  | cons b us=>
   cases us with
   |nil=>show callType_new F.called_zip ZU (F.typeCall_zip_2 _ _) (F.newCall_zip_2 _ _) (λobj=>F.args_object_init_3 obj _ _) F.entry_zip_new (ke [a,b] a3) ⟨hs,k⟩
   | cons c us=>
    cases us with
    |nil=>show callType_new F.called_zip ZU (qz _ _ _) (qV _ _ _) (λobj=>rQ obj _ _ _) F.entry_zip_new (ke [a,b,c] a3) ⟨hs,k⟩
    |cons d us=>rcases I with I|I <;> (simp only [qD4]at I;omega)
end L2
namespace L2
open PySem PySem.Spec PyProof.Rows
def aY {α β:Type}{R:α->β->Prop}:∀{l:List α},(∀a∈l,∃b,R a b)->∃I:List (α×β),I.map (·.1)=l/\∀p∈I,R p.1 p.2:=by
 intro l
 induction l with
 |nil=>show λ_=>⟨[],rfl,λ_ h=>absurd h qE3⟩
 | cons a l ih=>
  intro h;obtain ⟨b,hb⟩:=h a qB9;obtain ⟨I,e,q⟩:=ih λx hx=>h x (qB1 _ hx);refine ⟨(a,b)::I,by rw[qB8,e],λp hp=>?_⟩;rcases qB6.mp hp with rfl|hp
  .show hb
  .show q p hp
def Sq (K:Frag)(H:Hp)(t:Bool)(a:Addr)(xs:List V):Prop:=if t=true then SqT K H a xs else SqL K H a xs
def kne {σ:St}(I:Inv X pins σ H s)(h:X.K.lookup a=some o)(f:L4 X pins H b):a≠b:=by
 intro e;subst e;have hb:X.base.get? a=some o:=I.mod.kin a o h;obtain ⟨f0,f1,f2,f3,f4,f5⟩:=f;rcases f3 with z|z
 .show I.ok.noex a o hb z
 .show absurd (qB3 (qB5 (I.ok.bs a o hb).1) z) (qF5 _)
def Sq.ne {σ:St}(I:Inv X pins σ H s)(h:Sq X.K H t a xs)(f:L4 X pins H b):a≠b:=by
 have tr:∀{u:HO},Rd H a u->a≠b:=λ{u} r e=>by
  subst e;have f0:=f.1;rcases r with r|⟨o,r⟩ <;> (rw[f0]at r;cases r)
 unfold Sq at h
 split at h
 .rcases h with h|⟨o,its,n,hk,_⟩
  .show tr h
  .show kne I hk f
 .rcases h with h|⟨o,its,n,hk,_⟩
  .show tr h
  .show kne I hk f
def Sq.src {σ:St}(I:Inv X pins σ H s)(h:Sq X.K H t a xs):∃its:List Value,Vals xs its/\(Sub.mk t 0 a).Src s.heap its.toArray:=by
 unfold Sq at h;unfold Sub.Src
 split at h
 .rename_i ht
  obtain ⟨its,r,p,_⟩:=I.tuple h;show ⟨its,r,by simp only [ht,qQ8];show p⟩
 .rename_i ht
  obtain ⟨its,r,p,_⟩:=I.list h;show ⟨its,r,by simp only [ht,qR0];show p.isList⟩
def Sq.inj {σ:St}(I:Inv X pins σ H s)(h:Sq X.K H t a xs)(h':Sq X.K H t a ys):xs=ys:=by
 unfold Sq at h h'
 split at h
 .rename_i ht;simp only [ht,qQ8]at h';show I.tuple_inj h h'
 .rename_i ht;simp only [ht,qR0]at h';show I.list_inj h h'
def ItZ (K:Frag)(us:List (Bool×Addr)):It:=
  ⟨fun i H=>∀u∈us,∃xs x,Sq K H u.1 u.2 xs/\xs[i]?=some x,
   λi H x H'=>∃p ys,x=.ref p/\H p=none/\H'=upd H p (.tup ys)/\Paired (λ(u:Bool×Addr) (y:V)=>∀xs,Sq K H u.1 u.2 xs->xs[i]?=some y) us ys,
   λi H=>(∀u∈us,∃xs,Sq K H u.1 u.2 xs)/\∃u∈us,∃xs,Sq K H u.1 u.2 xs/\xs.length<=i⟩
structure ZSt (z TI TO:Addr) (subs:List Sub):Prop where
 zTO:z≠TO
 TIz:TI≠z
 TITO:TI≠TO
 zi:∀u∈subs,u.i≠z
 ti:∀u∈subs,u.i≠TO
 Ii:∀u∈subs,u.i≠TI
 nd:subs.Pairwise λu v=>u.i≠v.i
abbrev zTn (z TI TO:Addr)(subs:List Sub)(i:Nat)(h:Heap):Prop:=
 IsZip h z TI TO .none/\K2 h TI (subs.map λu=>Value.ref u.i).toArray/\(∃arr,K2 h TO arr/\arr.size=subs.length)/\∀u∈subs,u.At h i
def X1 {I:Type}{F:α->γ->Prop}{f:I->α}{g:I->γ}:∀{l:List I},(∀b∈l,F (f b) (g b))->Paired F (l.map f) (l.map g)
 | [],_=>.nil
 |_::_,h=>.cons (h _ qB9) (X1 λb hb=>h b (qB1 _ hb))
def wg {K:Frag}{TI TO:Addr}(D:ZSt z TI TO subs)(c3:subs ≠ [])(b4:subs.length<=sizeLine):
  Turn P w K (.Tuple elts k tp) (ItZ K (subs.map λu=>(u.t,u.l))) (z::TI::TO::subs.map (·.i)) z (zTn z TI TO subs) where
 mem:=ZW
 obj:=λi h st b hb=>by
  obtain ⟨hz,a7,⟨arr,a8,_⟩,hs⟩:=st;simp only [qB6,qB0]at hb;rcases hb with rfl|rfl|rfl|⟨u,hu,rfl⟩
  .show ⟨_,hz,λv q=>by cases q⟩
  .show ⟨_,a7,λv q=>by cases q⟩
  .show ⟨_,a8,λv q=>by cases q⟩
  .obtain ⟨o,e,d⟩:=(hs u hu).obj;show ⟨o,e,λv q=>by rw[d]at q;cases q⟩
 keep:=λi h h' st kp=>by
  obtain ⟨hz,a7,⟨arr,a8,ha⟩,hs⟩:=st;show ⟨kp z ZW _ hz,kp TI ZW _ a7,⟨arr,kp TO ZW _ a8,ha⟩,λu hu=>(hs u hu).keep λo e=>kp u.i (by simp only [qB6,qB0];show .inr (.inr (.inr ⟨u,hu,rfl⟩))) o e⟩
 item:=by
  intro X hP hw hK hc i pins s σ H E I hf st hg;subst hP hw hK;obtain ⟨hz,a7,⟨arr,a8,ha⟩,hs⟩:=st;have fz:=hf z ZW;have fT:=hf TO ZW;have fi:∀u∈subs,L4 X pins H u.i:=λu hu=>hf u.i (by simp only [qB6,qB0];show .inr (.inr (.inr ⟨u,hu,rfl⟩)));obtain ⟨ss,a4,a3⟩:=aY (R:=λ(u:Sub) (q:List Value×List V×V)=>Sq X.K H u.t u.l q.2.1/\Vals q.2.1 q.1/\u.Src s.heap q.1.toArray/\q.2.1[i]?=some q.2.2) (l:=subs) (λu hu=>by
   obtain ⟨xs,x,h1,h2⟩:=hg (u.t,u.l) (qB0.mpr ⟨u,hu,rfl⟩);obtain ⟨its,r,ab⟩:=Sq.src I h1;show ⟨(its,xs,x),h1,r,ab,h2⟩)
  have a5:∀v∈ss,v.1∈subs:=λv hv=>by rw[<- a4];show qB0.mpr ⟨v,hv,rfl⟩
  have b5:ss.Pairwise λu v=>u.1.i≠v.1.i:=by
   have:=D.nd
   rw[<- a4,qI8]at this;show this
  have DA:Apart z TO (ss.map λv=>(v.1,v.2.1.toArray)):=by
   refine ⟨D.zTO,?_,?_,?_,?_,?_,?_⟩
   .rintro _ hu;obtain ⟨v,hv,rfl⟩:=qB0.mp hu;show D.zi _ (a5 v hv)
   .rintro _ hu;obtain ⟨v,hv,rfl⟩:=qB0.mp hu;show D.ti _ (a5 v hv)
   .rw[qI8];show b5
   .rintro _ hu;obtain ⟨v,hv,rfl⟩:=qB0.mp hu;show Sq.ne I (a3 v hv).1 fz
   .rintro _ hu;obtain ⟨v,hv,rfl⟩:=qB0.mp hu;show Sq.ne I (a3 v hv).1 fT
   .rintro _ hu _ b0;obtain ⟨v,hv,rfl⟩:=qB0.mp hu;obtain ⟨v2,bb,rfl⟩:=qB0.mp b0;show Sq.ne I (a3 v hv).1 (fi _ (a5 v2 bb))
  have el:(ss.map λv=>(v.1,v.2.1.toArray)).length=subs.length:=by rw[qA5,<- a4,qA5]
  have eI:((ss.map λv=>(v.1,v.2.1.toArray)).map λu=>Value.ref u.1.i)=subs.map λu=>Value.ref u.i:=by rw[<- a4,qC8,qC8];rfl
  have ys:∀v∈ss,∃u,v.2.1.toArray[i]?=some u/\RelV v.2.2.2 u:=λv hv=>by
   obtain ⟨u,e,r⟩:=(a3 v hv).2.1.get (a3 v hv).2.2.2;show ⟨u,by simpa using e,r⟩
  refine wb (n:=i) DA (by intro q;apply c3;have:=congrArg List.length q;rw[el]at this;show qT7.mp this) (by rw[ha,el]) (by rw[el];show b4) hz (by rw[eI];show a7) a8 (λu hu=>?_) λh1 z1 T1 a1 p1 k1=>?_
  .obtain ⟨v,hv,rfl⟩:=qB0.mp hu;obtain ⟨u,e,_⟩:=ys v hv;show ⟨hs _ (a5 v hv),(a3 v hv).2.2.1,u,e⟩
  refine ⟨_,rfl,wpAny_letOwnedTupleGo_zip z1 λh2 z2 sb2=>?_⟩;have bc:z<s.heap.objs.size:=qB5 hz;have kp:∀b o,b≠z->b≠TO->(∀u∈subs,b≠u.i)->s.heap.get? b=some o->h2.get? b=some o:=λb o b1 b2 b3 e=>sb2.extBut _ _ b1 (k1 b o b1 b2 (λu hu=>by obtain ⟨v,hv,rfl⟩:=qB0.mp hu;show b3 _ (a5 v hv)) e);have a9:H s.heap.objs.size=none:=I.hok.fresh (qB2 _);have trk:∀b u,H b=some u->b≠z/\b≠TO/\∀v∈subs,b≠v.i:=λb u e=>⟨λq=>(by subst q;rw[fz.1]at e;cases e),λq=>(by subst q;rw[fT.1]at e;cases e),λv hv q=>(by subst q;rw[(fi v hv).1]at e;cases e)⟩;have c1:K2 h2 s.heap.objs.size (ss.map λv=>v.2.1.toArray.getD i .none).toArray:=by
   have:=sb2.extBut _ _ (qP4 bc) p1
   rw[qC8]at this;show this
  have rel:Vals (ss.map λv=>v.2.2.2) (ss.map λv=>v.2.1.toArray.getD i .none):=X1 λv hv=>by
   obtain ⟨u,e,r⟩:=ys v hv;rw[show v.2.1.toArray.getD i Value.none=u by simp only [qW7,e,Option.getD_some]];show r
  have len:(ss.map λv=>v.2.2.2).length<=sizeLine:=by rw[qA5,show ss.length=subs.length by rw[<- a4,qA5]];show b4
  refine ⟨.ref s.heap.objs.size,upd H s.heap.objs.size (.tup (ss.map λv=>v.2.2.2)),?_,rfl,⟨_,_,rfl,a9,rfl,?_⟩,⟨z2,?_,?_,λu hu=>?_⟩,λb hb=>?_⟩
  .change Inv X pins σ _ { s with heap:=h2 };refine I.step (g':=s.gens) (t':=s.toks) (d':=s.drawn) (ch:=z::TO::subs.map (·.i)) (λb hb=>?_) (λb o _ _ hc e _=>kp b o ?_ ?_ ?_ e) (λb o _ _ hc e _=>⟨o.slots,kp b o ?_ ?_ ?_ e⟩) (λb o hc e n=>?_) (λb o hc e=>⟨o,kp b o ?_ ?_ ?_ e⟩) (λb xs e=>?_) (λb o u e=>?_) (λb ps e=>?_) (λm hm=>?_) ?_ I.bare
   .simp only [qB6,qB0]at hb;rcases hb with rfl|rfl|⟨u,hu,rfl⟩
    .show ⟨fz.2.2.2.1,fz.2.1,fz.2.2.2.2.1,fz.2.2.2.2.2⟩
    .show ⟨fT.2.2.2.1,fT.2.1,fT.2.2.2.2.1,fT.2.2.2.2.2⟩
    .have f:=fi u hu;show ⟨f.2.2.2.1,f.2.1,f.2.2.2.2.1,f.2.2.2.2.2⟩
   all_goals first
    | (intro q;show hc (by simp [q];done))
    | (intro u hu q;show hc (by rw[q];show qB1 _ (qB1 _ (qB0.mpr ⟨u,hu,rfl⟩))))
    |skip
   .rw[d8 (qD9 (qB5 e))];show n
   .rw[d8 (e9 e a9)];show e
   .rw[d8 (e9 e a9)];show e
   .show ⟨#[],by rw[d8 (e9 e a9),e];simp⟩
   .obtain ⟨o,es,ep,ho,r⟩:=hm;show ⟨o,es,ep,kp _ o (Ne.symm fz.2.1) (Ne.symm fT.2.1) (λu hu=>Ne.symm (fi u hu).2.1) ho,r⟩
   .intro b u e;by_cases hb:b=s.heap.objs.size
    .subst hb;rw[j6]at e;cases e;show ⟨len,_,rel,⟨_,c1,rfl,_,rfl⟩⟩
    .rw [d8 hb]at e
     refine (I.hok b u e).stay (λc v a6 q=>?_) (λc q=>by rw[d8 (e9 q a9)];show q) λc xs q=>by rw[d8 (e9 q a9)];show q
     rcases a6 with rfl|a6
     .show kp _ v (trk _ _ e).1 (trk _ _ e).2.1 (trk _ _ e).2.2 q
     .show kp _ v (trk _ _ a6).1 (trk _ _ a6).2.1 (trk _ _ a6).2.2 q
  .rw [<- a4,qC8]
   show X1 λv hv xs hx=>by rw[Sq.inj I hx (a3 v hv).1];show (a3 v hv).2.2.2
  .show kp TI _ D.TIz D.TITO (λu hu=>Ne.symm (D.Ii u hu)) a7
  .obtain ⟨arr',c0,c2⟩:=T1;show ⟨arr',sb2.extBut _ _ D.zTO.symm c0,by rw[c2,el]⟩
  .have hv:∃v∈ss,v.1=u:=by rw[<- a4]at hu;show qB0.mp hu
   obtain ⟨v,hv,rfl⟩:=hv;show (a1 (v.1,v.2.1.toArray) (qB0.mpr ⟨v,hv,rfl⟩)).keep λo e=>sb2.extBut _ _ (D.zi _ (a5 v hv)) e
  .have:b≠s.heap.objs.size:=by
    simp only [qB6,qB0]at hb;rcases hb with rfl|rfl|rfl|⟨u,hu,rfl⟩
    .show qD9 bc
    .show qD9 (qB5 a7)
    .show qD9 (qB5 a8)
    .obtain ⟨o,e,_⟩:=(hs u hu).obj;show qD9 (qB5 e)
   rw[d8 this];show (hf b hb).1
 done:=by
  intro X hP hw hK hc i pins s σ H E I hf st hg;subst hP hw hK;obtain ⟨hz,a7,⟨arr,a8,ha⟩,hs⟩:=st;obtain ⟨bq,u0,c5,cg,c4,hl0⟩:=hg;have fz:=hf z ZW;have fT:=hf TO ZW;have fi:∀u∈subs,L4 X pins H u.i:=λu hu=>hf u.i (by simp only [qB6,qB0];show .inr (.inr (.inr ⟨u,hu,rfl⟩)));obtain ⟨ss,a4,a3⟩:=aY (R:=λ(u:Sub) (q:List Value×List V)=>Sq X.K H u.t u.l q.2/\Vals q.2 q.1/\u.Src s.heap q.1.toArray) (l:=subs) (λu hu=>by
   obtain ⟨xs,h1⟩:=bq (u.t,u.l) (qB0.mpr ⟨u,hu,rfl⟩);obtain ⟨its,r,ab⟩:=Sq.src I h1;show ⟨(its,xs),h1,r,ab⟩)
  have a5:∀v∈ss,v.1∈subs:=λv hv=>by rw[<- a4];show qB0.mpr ⟨v,hv,rfl⟩
  have b5:ss.Pairwise λu v=>u.1.i≠v.1.i:=by
   have:=D.nd
   rw[<- a4,qI8]at this;show this
  have DA:Apart z TO (ss.map λv=>(v.1,v.2.1.toArray)):=by
   refine ⟨D.zTO,?_,?_,?_,?_,?_,?_⟩
   .rintro _ hu;obtain ⟨v,hv,rfl⟩:=qB0.mp hu;show D.zi _ (a5 v hv)
   .rintro _ hu;obtain ⟨v,hv,rfl⟩:=qB0.mp hu;show D.ti _ (a5 v hv)
   .rw[qI8];show b5
   .rintro _ hu;obtain ⟨v,hv,rfl⟩:=qB0.mp hu;show Sq.ne I (a3 v hv).1 fz
   .rintro _ hu;obtain ⟨v,hv,rfl⟩:=qB0.mp hu;show Sq.ne I (a3 v hv).1 fT
   .rintro _ hu _ b0;obtain ⟨v,hv,rfl⟩:=qB0.mp hu;obtain ⟨v2,bb,rfl⟩:=qB0.mp b0;show Sq.ne I (a3 v hv).1 (fi _ (a5 v2 bb))
  have el:(ss.map λv=>(v.1,v.2.1.toArray)).length=subs.length:=by rw[qA5,<- a4,qA5]
  have eI:((ss.map λv=>(v.1,v.2.1.toArray)).map λu=>Value.ref u.1.i)=subs.map λu=>Value.ref u.i:=by rw[<- a4,qC8,qC8];rfl
  refine wa (n:=i) (I.ok.hd hc) DA (by rw[ha,el]) (by rw[el];show b4) hz (by rw[eI];show a7) a8 (λu hu=>?_) ?_ λh1 k1=>⟨rfl,?_⟩
  .obtain ⟨v,hv,rfl⟩:=qB0.mp hu;show ⟨hs _ (a5 v hv),(a3 v hv).2.2⟩
  .obtain ⟨u,hu,e0⟩:=qB0.mp c5;have hv:∃v∈ss,v.1=u:=by rw[<- a4]at hu;show qB0.mp hu
   obtain ⟨v,hv,rfl⟩:=hv;subst e0;refine ⟨(v.1,v.2.1.toArray),qB0.mpr ⟨v,hv,rfl⟩,?_⟩;have e1:=Sq.inj I (a3 v hv).1 c4;have e2:=(a3 v hv).2.1.length;rw[e1]at e2;simp only [List.getElem?_toArray];show qH2 ox
  .have kp:∀b o,b≠z->b≠TO->(∀u∈subs,b≠u.i)->s.heap.get? b=some o->h1.get? b=some o:=λb o b1 b2 b3 e=>k1 b o b1 b2 (λu hu=>by obtain ⟨v,hv,rfl⟩:=qB0.mp hu;show b3 _ (a5 v hv)) e;have trk:∀b u,H b=some u->b≠z/\b≠TO/\∀v∈subs,b≠v.i:=λb u e=>⟨λq=>(by subst q;rw[fz.1]at e;cases e),λq=>(by subst q;rw[fT.1]at e;cases e),λv hv q=>(by subst q;rw[(fi v hv).1]at e;cases e)⟩;refine I.step (g':=s.gens) (t':=s.toks) (d':=s.drawn) (ch:=z::TO::subs.map (·.i)) (λb hb=>?_) (λb o _ _ hc e _=>kp b o ?_ ?_ ?_ e) (λb o _ _ hc e _=>⟨o.slots,kp b o ?_ ?_ ?_ e⟩) (λb o hc e n=>n) (λb o hc e=>⟨o,kp b o ?_ ?_ ?_ e⟩) (λb xs e=>e) (λb o u e=>e) (λb ps e=>⟨#[],by rw[e];simp⟩) (λm hm=>?_) (λb u e=>?_) I.bare
   .simp only [qB6,qB0]at hb;rcases hb with rfl|rfl|⟨u,hu,rfl⟩
    .show ⟨fz.2.2.2.1,fz.2.1,fz.2.2.2.2.1,fz.2.2.2.2.2⟩
    .show ⟨fT.2.2.2.1,fT.2.1,fT.2.2.2.2.1,fT.2.2.2.2.2⟩
    .have f:=fi u hu;show ⟨f.2.2.2.1,f.2.1,f.2.2.2.2.1,f.2.2.2.2.2⟩
   all_goals first
    | (intro q;show hc (by simp [q];done))
    | (intro u hu q;show hc (by rw[q];show qB1 _ (qB1 _ (qB0.mpr ⟨u,hu,rfl⟩))))
    |skip
   .obtain ⟨o,es,ep,ho,r⟩:=hm;show ⟨o,es,ep,kp _ o (Ne.symm fz.2.1) (Ne.symm fT.2.1) (λu hu=>Ne.symm (fi u hu).2.1) ho,r⟩
   .refine (I.hok b u e).stay (λc v a6 q=>?_) (λc q=>q) λc xs q=>q;rcases a6 with rfl|a6
    .show kp _ v (trk _ _ e).1 (trk _ _ e).2.1 (trk _ _ e).2.2 q
    .show kp _ v (trk _ _ a6).1 (trk _ _ a6).2.1 (trk _ _ a6).2.2 q
 self:=λ_ _ _ _ _ st h=>wpAny_pyIter_zip st.1 h
def GP (K:Frag)(I:TA):TI:=λσ H R=>I σ H λvs H1=>∃us:List (Bool×Addr),vs=us.map (λu=>V.ref u.2)/\(us.length=2\/us.length=3)/\(∀u∈us,∃xs,Sq K H1 u.1 u.2 xs)/\R (ItZ K us) H1
def neN {b:Nat}(h:a≠b):(a:Addr)≠b:=h
def sk:∀{us:List (Bool×Addr)}{vs:VY},Vals (us.map λu=>V.ref u.2) vs->vs=us.map λu=>Value.ref u.2:=by
 intro us
 induction us with
 |nil=>intro vs h;cases h;rfl
 | cons u us I=>
  intro vs h;cases h with
  | cons r t=>
   have r':_=Value.ref _:=r;rw[r',I t];rfl
def dg:∀(us:List (Bool×Addr×Array Value)) (n:Nat),∀v∈j7 n us,n<=v.1.i/\n+us.length>v.1.i:=by
 intro us
 induction us with
 |nil=>show λ_ _ h=>absurd h qE3
 | cons u r I=>
  intro n v h;rcases qB6.mp h with rfl|h
  .show ⟨qB2 _,by change n+(r.length+1)>n;omega⟩
  .have:=I (n+1) v h
   rw[qD4];omega
def oR:∀(us:List (Bool×Addr×Array Value)) (n:Nat),(j7 n us).Pairwise λu v=>u.1.i≠v.1.i
 | [],_=>.nil
 | u::r,n=>by
  refine qT3.mpr ⟨λv I=>?_,oR r (n+1)⟩
  have:=dg r (n+1) v I
  change (n:Nat)≠v.1.i;omega
def lU:∀(us:List (Bool×Addr×Array Value)) (n:Nat),(j7 n us).map (λu=>(u.1.t,u.1.l))=us.map λu=>(u.1,u.2.1)
 | [],_=>rfl
 |u::r,n=>by unfold j7;rw[qB8,lU r,qB8]
def Fx {X:Cx}{a:Expr}{es elts:Zz}{ta:TA}{p pos tp:Pos}{k:Nat}(hg:Gl X "zip")(hm:X.mg "zip" = none)(ha:PA X (a::es) ta)(hs:starEach (a::es) X.env=(false,eval a X.env)::starEach es X.env:=by rfl)(a8:(backTo pos (starEach es X.env)).any (·.1)=false:=by rfl):PI X (.Tuple elts k tp) (.Call (.Name "zip" p) (a::es) [] pos) (GP X.K ta):=by
 intro pins s σ H R I h;refine Call_ (Q9 I hg hm boot_zip (qG5 (thn (ha pos pins s σ H _ I h) λvs s1 a5=>?_) hs a8));obtain ⟨xs,H1,I1,r1,us,e1,hl,a7,q⟩:=a5;subst e1;have e2:=sk r1;subst e2;obtain ⟨ws,ew,b0⟩:=aY (R:=λ(u:Bool×Addr) (its:Zj)=>SrcAt s1.heap (u.1,u.2,its)) (l:=us) (λu hu=>by
  obtain ⟨ys,hy⟩:=a7 u hu;obtain ⟨its,_,a3⟩:=Sq.src I1 hy;show ⟨its.toArray,by unfold SrcAt;unfold Sub.Src at a3;show a3⟩)
 have ev:us.map (λu=>Value.ref u.2)=(ws.map λw=>(w.1.1,w.1.2,w.2)).map λu=>Value.ref u.2.1:=by rw[<- ew,qC8,qC8];rfl
 have el:(ws.map λw=>(w.1.1,w.1.2,w.2)).length=us.length:=by rw[<- ew,qA5,qA5]
 rw[ev];generalize hW:(ws.map λw=>(w.1.1,w.1.2,w.2))=W at el ev
 have a9:∀u∈W,SrcAt s1.heap u:=λu hu=>by
  rw[<- hW]at hu;obtain ⟨w,hw,rfl⟩:=qB0.mp hu;show b0 w hw
 refine yB W (by rw[el];show hl) a9 λh' hA a6 ab hz hk=>wpAny_pyIter_zip hz ?_;have I2:Inv X pins σ H1 { s1 with heap:=h' }:=I1.kept (t':=s1.toks) hk;have eS:((j7 s1.heap.objs.size W).map (·.1)).map (λu=>(u.t,u.l))=us:=by
  rw[qC8]
  change (j7 s1.heap.objs.size W).map (λu=>(u.1.t,u.1.l))=us;rw[lU,<- hW,qC8,<- ew];rfl
 have D:ZSt (s1.heap.objs.size+W.length+2) (s1.heap.objs.size+W.length) (s1.heap.objs.size+W.length+1) ((j7 s1.heap.objs.size W).map (·.1)):=by
  refine ⟨neN ox,neN ox,neN ox,?_,?_,?_,?_⟩
  .rintro _ hu;obtain ⟨v,hv,rfl⟩:=qB0.mp hu;have:=dg W _ v hv;show neN ox
  .rintro _ hu;obtain ⟨v,hv,rfl⟩:=qB0.mp hu;have:=dg W _ v hv;show neN ox
  .rintro _ hu;obtain ⟨v,hv,rfl⟩:=qB0.mp hu;have:=dg W _ v hv;show neN ox
  .rw[qI8];show oR W _
 have ls:((j7 s1.heap.objs.size W).map (·.1)).length=W.length:=by rw[qA5,T9]
 have TZ:=wg (P:=X.prog) (w:=X.w) (K:=X.K) (elts:=elts) (k:=k) (tp:=tp) D (by intro q;have:=congrArg List.length q;rw[ls,el]at this;have h0:us.length=0:=this;omega) (by rw[ls,el];show qA8 (show us.length<=3 by omega) ZU);rw[eS]at TZ;refine ⟨_,_,_,_,H1,rfl,I2,TZ,⟨hz,?_,?_,λu hu=>?_⟩,λb hb=>?_,q⟩
 .rw[qC8];show a6
 .obtain ⟨arr,h1,h2⟩:=ab;show ⟨arr,h1,by rw[ls];show h2⟩
 .obtain ⟨v,hv,rfl⟩:=qB0.mp hu;show hA v hv
 .have a4:s1.heap.objs.size<=b:=by
   simp only [qB6,qB0]at hb;rcases hb with rfl|rfl|rfl|⟨_,⟨v,hv,rfl⟩,rfl⟩
   .omega
   .omega
   .omega
   .show (dg W _ v hv).1
  have f:=I1.fpOk (H':=H1) a4 (I1.hok.fresh a4);show f
def M8 (cs:Scope)(env:Env)(x:Str):(relabel cs env).names.lookup x=(cs.names.lookup x).map λk=>if (k == .free&&env.scope.kind == .function&&env.kindOf x == some .cell)=true then .cell else k:=by
 unfold relabel
 change List.lookup x (cs.names.map _)=_
 induction cs.names with
 |nil=>rfl
 | cons p r ih=>
  obtain ⟨n,k⟩:=p;by_cases I:x=n
  .subst I;rw[qB8];simp only [qM5]
   split <;> simp_all
  .have hb:(x == n)=false:=by simpa using I
   have er:List.lookup x ((n,k)::r)=List.lookup x r:=by rw[qM5,hb]
   rw[qB8,er];refine Eq.trans ?_ ih;dsimp only;by_cases hc:(k == NameKind.free&&env.scope.kind == ScopeKind.function&&env.kindOf n == some NameKind.cell)=true
   .rw[qA2 hc,qM5,hb]
   .rw[qA4 hc,qM5,hb]
def iF: ∀ (names:List (Str × NameKind)) (a3:List (Str × Addr)), (∀x ∈ names, x.2 = .free -> ∃c, env.cells.lookup x.1 = some c) -> (∀x c, a3.lookup x = some c -> env.cells.lookup x = some c) ->
    ∃ cl, (forIn (m:=Sem) names a3 λx __s => if (x.snd == NameKind.free) = true then do
              let __do_lift <- cellOf env x.fst
              pure (ForInStep.yield ((x.fst, __do_lift) :: __s))
            else pure (ForInStep.yield __s)) = pure cl /\ (∀x c, cl.lookup x = some c -> env.cells.lookup x = some c) /\ (∀x, (x, NameKind.free) ∈ names -> ∃c, cl.lookup x = some c) /\ ∀x c, a3.lookup x = some c -> ∃c', cl.lookup x = some c':=by
  intro names
  induction names with
  | nil =>
    intro a3 _ h0;show ⟨a3, by simp only [qW0], h0, λ_ h => absurd h qE3, λ_ c h => ⟨c, h⟩⟩
  | cons p r ih =>
    intro a3 hf h0;obtain ⟨n, k⟩:=p;by_cases hk : k = .free
    · subst hk
      obtain ⟨c, hc⟩:=hf (n, .free) qB9 rfl;obtain ⟨cl, e, h1, h2, h3⟩:=ih ((n, c) :: a3) (λx I => hf x (qB1 _ I)) (λx c' I => by
        rw[qM5]at I
        split at I
        · rename_i hb
          have a4 : x = n:=by simpa using hb
          cases I;rw[a4];show hc
        · show h0 x c' I)
      have hn : ∃c', cl.lookup n = some c':=h3 n c ZW;refine ⟨cl, ?_, h1, λx I => ?_, λx c' I => ?_⟩
      · rw [qN7]
        simp only [qU2, qQ8, cellOf, hc];show e
      · rcases qB6.mp I with q|I
        · cases q;show hn
        · show h2 x I
      · by_cases a4 : x = n
        · subst a4;show hn
        · show h3 x c' (by
            have hb : (x == n) = false:=by simpa using a4
            rw[qM5, hb];show I)
    · have hb : (k == NameKind.free) = false:=by simpa using hk
      obtain ⟨cl, e, h1, h2, h3⟩:=ih a3 (λx I => hf x (qB1 _ I)) h0;refine ⟨cl, ?_, h1, λx I => ?_, h3⟩
      · rw [qN7]
        simp only [hb, qE2, qR0];show e
      · rcases qB6.mp I with q|I
        · cases q;show absurd rfl hk
        · show h2 x I
structure e8 (sc cs:Scope) (N N':Zq):Prop where
 kind:cs.kind=.function
 ncell:∀x∈cs.names,x.2≠.cell
 loc:∀x∈cs.names,x.2=.local->cs.names.lookup x.1=some .local
 free:∀x∈cs.names,x.2=.free->sc.names.lookup x.1=some .cell\/sc.names.lookup x.1=some .free
 nd:N'.Nodup
 len:N.length<=N'.length
 same:∀i∈List.range N.length,N'[i]?=N[i]?\/∀x∈N'[i]?,cs.names.lookup x=none
 out:∀x∈N'.take N.length,cs.names.lookup x≠some .local
abbrev l9 (X:Cx)(cs:Scope)(cl:List (Str×Addr))(N':Zq)(ex:List Addr)(s:Shared)(H:Hp):Cx:=
 { X with N:=N',s₀:=s,H₀:=H,env:=compEnvC cs cl s.heap.objs.size X.env,outer:=X.stack,stack:=X.stack,ex:=ex,fn:=λ_=>false,pn:=[],xe:=λ_ _=>False }
def inner (N':Zq)(σ:St):St:=σ++List.replicate (N'.length-σ.length) none
def kG {i:Nat}(h:(inner N' σ)[i]?=some (some v)):σ[i]?=some (some v):=by
 unfold inner at h;by_cases hi:i<σ.length
 .rwa [qE8 hi]at h
 .rw [qG8 ox,qG7]at h
  split at h <;> cases h
def yA {σ:St}{fp:List Addr}(S:e8 X.env.scope cs X.N N')(I:Inv X pins σ H s3)(a3:∀x c,cl.lookup x=some c->X.env.cells.lookup x=some c)(a7:∀x,(x,NameKind.free)∈cs.names->∃c,cl.lookup x=some c)(hf:∀b∈fp,L4 X pins H b)(bc:∀b∈fp,b<s3.heap.objs.size)(kp:∀b o,s3.heap.get? b=some o->s4.heap.get? b=some o)(hn:s4.heap.Ns s3.heap.objs.size m)(c0:s4.os=s3.os)(hg:s4.gens=s3.gens):Inv (l9 X cs cl N' fp s3 H) [] (inner N' σ) H s4:=by
 have a6:∀{c:Addr}{v:Option Value},s3.heap.IsCell c v->s4.heap.IsCell c v:=λ{c v} z=>by obtain ⟨o,e,d⟩:=z;show ⟨o,kp c o e,d⟩
 refine ⟨⟨I.ok.mod,S.kind,I.ok.glob,I.ok.blt,qB2 _,λx y c h1 h2=>I.ok.inj x y c (a3 x c h1) (a3 y c h2),λx hx=>?_,λx c h _=>absurd (show false=true from h) ZU,I.ok.hd,I.ok.frames,.inl rfl,λb hb=>⟨?_,λx c e=>(hf b hb).2.2.2.2.1 x c (a3 x c e)⟩,I.bs,qA8 I.ok.bsz I.sz,λb o e hb=>?_,λb hb b5=>?_,I.stack,I.stkFree⟩,
  c0,by rw[hg];show I.bare,Un.kept kp,⟨m,hn,λi x v e1 e2 e3=>?_⟩,λx c e=>?_,I.hok.fresh (qB2 _),λx c e=>I.freeC x c (a3 x c e),λp hp=>absurd (show p∈([]:VZ) from hp) ZW,I.hok.kept kp,?_⟩
 .have a5:(relabel cs X.env).names.lookup x=some .cell\/(relabel cs X.env).names.lookup x=some .free:=hx;rw[M8]at a5;cases hl:cs.names.lookup x with
  |none=>rw[hl]at a5;rcases a5 with h|h <;> cases h
  | some k=>
   have hm:=qJ1 hl;by_cases hk:k=.free
   .subst hk;show a7 x hm
   .exfalso;have hb:(k == NameKind.free)=false:=by simpa using hk
    rw[hl]at a5;simp only [Option.map_some,hb,qV8,qE2,qR0]at a5;rcases a5 with h|h
    .cases h;show S.ncell _ hm rfl
    .cases h;show hk rfl
 .intro q;have bb:b=s3.heap.objs.size:=q;show absurd (bc b hb) (by rw[bb];show qF5 _)
 .obtain ⟨f0,f1,f2,f3,f4,f5⟩:=hf b hb;rcases f3 with z|z
  .show I.ok.noex b o e z
  .show absurd (qB3 (qB5 (I.ok.bs b o e).1) z) (qF5 _)
 .have b4:b∈frs X.stack:=b5;rcases qB6.mp (I.stkSub b b4) with z|z
  .show (hf b hb).2.1 z
  .show (hf b hb).2.2.1 z
 .have b3:=kG e2;have hi:i<X.N.length:=by rw[<- I.len];show (qA6.mp b3).1
  have ab:N'[i]?=some x:=e1;have a4:Vis (relabel cs X.env) x:=e3;have hv:∃k,cs.names.lookup x=some k:=by
   unfold Vis at a4;rw[M8]at a4;cases hl:cs.names.lookup x with
   |none=>rw[hl]at a4;rcases a4 with h|h|h <;> cases h
   |some k=>show ⟨k,rfl⟩
  obtain ⟨k,hk⟩:=hv;have hN:X.N[i]?=some x:=by
   rcases S.same i (qG2.mpr hi) with q|q
   .rw[<- q];show ab
   .have:=q x (by rw[ab];rfl)
    rw[hk]at this;cases this
  have bq:k≠.local:=λq=>by
   subst q;show S.out x (qD8 (i:=i) (by rw[qI5 hi];show ab)) hk
  have hm:=qJ1 hk;have a9:k=.free:=by
   unfold Vis at a4;rw[M8,hk]at a4;by_cases a8:k=.free
   .show a8
   .exfalso;have hb:(k == NameKind.free)=false:=by simpa using a8
    simp only [Option.map_some,hb,qV8,qE2,qR0]at a4;rcases a4 with h|h|h
    .show bq (Lc h)
    .show S.ncell _ hm (Lc h)
    .show a8 (Lc h)
  subst a9;obtain ⟨m0,c2,hl0⟩:=I.loc;have b0:Vis X.env.scope x:=by
   rcases S.free _ hm rfl with h|h
   .show .inr (.inl h)
   .show .inr (.inr h)
  obtain ⟨u,r,l⟩:=hl0 i x v hN b3 b0;refine ⟨u,r,.inr ⟨?_,?_⟩⟩
  .change (relabel cs X.env).names.lookup x=some .cell\/(relabel cs X.env).names.lookup x=some .free;rw[M8,hk]
   change some (if _ then _ else _)=_\/some (if _ then _ else _)=_
   split
   .show .inl rfl
   .show .inr rfl
  .obtain ⟨c,hc⟩:=a7 x hm;have c1:=a3 x c hc;rcases l with ⟨q,_⟩|⟨_,c',e,z⟩
   .exfalso;have q':X.env.scope.names.lookup x=some .local:=q;rcases S.free _ hm rfl with h|h <;> (rw[q']at h;cases h)
   .rw [c1]at e;cases e
    show ⟨c,hc,a6 z⟩
 .obtain ⟨v,z⟩:=I.cell x c (a3 x c e);show ⟨v,a6 z⟩
 .unfold inner;rw[qC4,List.length_replicate,I.len]
  have:=S.len
  change _=N'.length;omega
def U7 (n:Nat)(g:TG):Prop:=∀(v:V)(σ:St)(H:Hp)(Q:St->Hp->Prop),g v σ H Q->g v σ H λI H2=>Q I H2/\I.length=σ.length/\∀j,j<n->I[j]?=σ[j]?
def iO (n:Nat)(g:TGs):Prop:=∀(vs:List V)(σ:St)(H:Hp)(Q:St->Hp->Prop),g vs σ H Q->g vs σ H λI H2=>Q I H2/\I.length=σ.length/\∀j,j<n->I[j]?=σ[j]?
def l7 (h:n<=i):U7 n (L6 i):=λv σ H Q q=>⟨q,ZW,λj I=>qB4 ox⟩
def R3:iO n gNil:=λvs σ H Q I=>by obtain ⟨e,q⟩:=I;show ⟨e,q,rfl,λ_ _=>rfl⟩
def v0 (h:n<=i)(hu:iO n u):iO n (rD (L6 i) u):=λvs σ H Q a3=>by
 obtain ⟨v,r,e,q⟩:=a3;refine ⟨v,r,e,?_⟩;have q':=hu r (σ.set i (some v)) H Q q
 change u r (σ.set i (some v)) H _;have e1:∀I:St,(I.length=(σ.set i (some v)).length/\∀j,j<n->I[j]?=(σ.set i (some v))[j]?)=(I.length=σ.length/\∀j,j<n->I[j]?=σ[j]?):=λI=>by
  have:∀j,j<n->(σ.set i (some v))[j]?=σ[j]?:=λj hj=>qB4 ox
  rw[qD3];show propext ⟨λa5=>by obtain ⟨a,b⟩:=a5;show ⟨a,λj hj=>(b j hj).trans (this j hj)⟩,λa4=>by obtain ⟨a,b⟩:=a4;show ⟨a,λj hj=>(b j hj).trans (this j hj).symm⟩⟩
 have e2:(λ(I:St) (H2:Hp)=>Q I H2/\I.length=σ.length/\∀j,j<n->I[j]?=σ[j]?)=λI H2=>Q I H2/\I.length=(σ.set i (some v)).length/\∀j,j<n->I[j]?=(σ.set i (some v))[j]?:=by
  funext I H2;rw[e1]
 rw[e2];show q'
def R0 {K:Frag}(hu:iO n u):U7 n (rC K k u):=λv σ H Q I=>by obtain ⟨a,xs,e,h1,h2,q⟩:=I;show ⟨a,xs,e,h1,h2,hu xs σ H Q q⟩
def PIf (X:Cx)(I:Zz)(t:TT):Prop:=
 ∀ (pins:VZ) (s:Shared) (σ:St) (H:Hp) (Q:Bool->Hp->Prop),Inv X pins σ H s->t σ H Q ->
  wpAny (model X.prog X.w) X.A (forIn I true λc r=>if r=true then do let ok <- isTrue c X.env (eval c X.env);pure (ForInStep.yield ok) else pure (ForInStep.yield r)) (TP X pins σ Q) X.xe s
def tYes:TT:=λ_ H Q=>Q true H
def AX:PIf X [] tYes:=λ_ _ _ H _ I h=>wpAny_tests_nil ⟨H,I,h⟩
def AW (h:PT X c t):PIf X [c] t:=λpins s σ H Q I q=>wpAny_tests_one (h pins s σ H Q I q)
def zS (J:It)(D:Addr)(g:TG)(tc:TT)(te:TE)(a3:St)(H1:Hp)(Q:Hp->Prop):Prop:=
 ∃ W:Nat->Nat->Hp->Prop,(∃m,W 0 m (upd H1 D (.lst [])))/\∀i m H2,W i m H2 ->
  (J.stop i H2/\Q H2)\/(J.go i H2/\∀x H3,J.yld i H2 x H3->g x a3 H3 λI H4=>tc I H4 λb H5=>
   if b=true then te I H5 λy H6=>∃ys,H6 D=some (.lst ys)/\ys.length<sizeLine/\∃m',m'<m/\W (i+1) m' (upd H6 D (.lst (ys ++ [y])))
   else ∃m',m'<m/\W (i+1) m' H5)
def qD (N':Zq)(wi:TI)(g:TG)(I:TT)(te:TE):TE:=λσ H Q=>wi σ H λJ H1=>∀D,H1 D=none->zS J D g I te (inner N' σ) H1 (Q (.ref D))
def JO (a3:∀x c,cl.lookup x=some c->X.env.cells.lookup x=some c)(stk:∀b∈frs X.stack,b∈X.env.locals::X.fs)(a5:∀b∈fp,L4 X pins H3 b)(a6:∀b∈fp,b<s3.heap.objs.size)(hn:∀b∈fp,H' b=none):∀b∈fp,L4 (l9 X cs cl N' fp s3 H3) [] H' b:=λb hb=>by
 obtain ⟨f0,f1,f2,f3,f4,f5⟩:=a5 b hb;refine ⟨hn b hb,qD9 (a6 b hb),λa4=>?_,.inl hb,λx c e=>f4 x c (a3 x c e),λp hp=>absurd (show p∈([]:VZ) from hp) ZW⟩;have I:b∈frs X.stack:=a4;rcases qB6.mp (stk b I) with z|z
 .show f1 z
 .show f2 z
def vG {σ:St}{Q:Hp->Prop}{W:Nat->Nat->Hp->Prop}(hc:X.calm=true)(hg:PG (l9 X cs cl N' fp s3 H3) tg g)(hk:U7 X.N.length g)(ht:PIf (l9 X cs cl N' fp s3 H3) ifs tc)(he:PE (l9 X cs cl N' fp s3 H3) elt te)(bb:∀x c,cl.lookup x=some c->X.env.cells.lookup x=some c)(I3:Inv X pins σ H3 s3)(I4:Inv (l9 X cs cl N' fp s3 H3) [] (inner N' σ) H3 s4)(T:Turn X.prog X.w X.K tg J fp it tn)(st:tn 0 s4.heap)(a5:∀b∈fp,L4 X pins H3 b)(c2:∀b∈fp,b<s3.heap.objs.size)(w0:W 0 m0 H3) (turn:∀i m H2,W i m H2->(J.stop i H2/\Q H2)\/(J.go i H2/\∀x H3,J.yld i H2 x H3->g x (inner N' σ) H3 λb5 H4=>tc b5 H4 λb H5=>
   if b=true then te b5 H5 λy H6=>∃ys,H6 D=some (.lst ys)/\ys.length<sizeLine/\∃I,I<m/\W (i+1) I (upd H6 D (.lst (ys ++ [y])))
   else ∃I,I<m/\W (i+1) I H5)) (hR:∀(H':Hp) (s':Shared),Inv X pins σ H' s'->Q H'->(∃m,s'.heap.Ns s3.heap.objs.size m)->L4 X pins H' s3.heap.objs.size->R (.ok .next) s'):
  codeAny (model X.prog X.w) X.A (.compLoop (.ListComp elt [⟨tg,iter,ifs,0⟩] cs pos) 0 (.ref it) (.ref D) (l9 X cs cl N' fp s3 H3).env) R s4:=by
 have a7:∀{H':Hp},(∀b∈fp,H' b=none)->∀b∈fp,L4 (l9 X cs cl N' fp s3 H3) [] H' b:=λhn=>JO bb I3.stkSub a5 c2 hn;have cw:(inner N' σ).length=N'.length:=I4.len;refine codeAny_loop rfl (λn s'=>∃i H',Inv (l9 X cs cl N' fp s3 H3) [] (inner N' σ) H' s'/\tn i s'.heap/\(∀b∈fp,H' b=none)/\W i n H') (λn s5 hI=>?_) m0 ⟨0,H3,I4,st,λb hb=>(a5 b hb).1,w0⟩;obtain ⟨i,H5,I5,a9,bc,w5⟩:=hI
 change wpAny _ _ ((compTurn (.ListComp elt [⟨tg,iter,ifs,0⟩] cs pos) 0 (.ref it) (.ref D) (l9 X cs cl N' fp s3 H3).env).onRaise _) _ _ s5;refine wpAny_noted ?_;rw[compTurn_list];refine qA1 (wpAny_standAt (qA1 ?_));have a4:∀{α:Type}{t:Sem α}{P:α->Shared->Prop}{E':Zv}{s:Shared},wpAny (model X.prog X.w) X.A t P (λ_ _=>False) s->wpAny (model X.prog X.w) X.A t P E' s:=λh=>qS7 h (λ_ _ q=>q) λ_ _ q=>q.elim;rcases turn i n H5 w5 with ⟨stop,q⟩|⟨go,step⟩
 .refine thn (T.done (l9 X cs cl N' fp s3 H3) rfl rfl rfl hc i [] s5 _ H5 _ I5 (a7 bc) a9 stop) λr s6 ⟨hr,I6⟩=>?_;subst hr;refine qQ5 ?_;have J6:Inv X pins σ H5 s6:=I3.call' (H':=H5) (ch:=fp) I6.os I6.base I6.hok I6.bare λb hb=>by
   obtain ⟨f0,f1,f2,f3,f4,f5⟩:=a5 b hb;show ⟨f3,f1,f4,f5⟩
  obtain ⟨m,hn,_⟩:=I6.loc;show hR H5 s6 J6 q ⟨m,hn⟩ (I3.fpOk (qB2 _) I6.free)
 .refine thn (T.item (l9 X cs cl N' fp s3 H3) rfl rfl rfl hc i [] s5 _ H5 _ I5 (a7 bc) a9 go) λr s6 ⟨u,hr,h6⟩=>?_;subst hr;refine qA1 (thn h6 λ_ s7 b0=>?_);obtain ⟨x,H7,I7,r7,y7,a8,c4⟩:=b0;have cg:=I7.pinned (a7 c4) (T.obj _ _ a8);refine qA1 (a4 (thn (hg _ s7 _ H7 x u _ cg r7 (hk x _ H7 _ (step x H7 y7))) λ_ s8 b3=>?_));obtain ⟨a3,H8,I8,q8,l8,k8⟩:=b3;refine qA1 (a4 (thn (ht _ s8 a3 H8 _ I8 q8) λb s9 ab=>?_));obtain ⟨H9,I9,q9⟩:=ab;have again:∀{s':Shared}{H':Hp},Inv (l9 X cs cl N' fp s3 H3) ([]++dA fp s7.heap) a3 H' s'->(∃I,I<n/\W (i+1) I H') ->
    ∃I,I<n/\∃i H',Inv (l9 X cs cl N' fp s3 H3) [] (inner N' σ) H' s'/\tn i s'.heap/\(∀b∈fp,H' b=none)/\W i I H':=λ{s' H'} I' zz65=>by
   obtain ⟨I,hm,w'⟩:=zz65;refine ⟨I,hm,i+1,H',(I'.unpinned).weak (by rw[l8]) (λj v e=>?_),T.keep _ _ _ a8 λb hb o e=>(I'.pin (b,o) (qE1 _ (qE1 _ (X3 hb e)))).1,λb hb=>?_,w'⟩
   .have hj:j<X.N.length:=by rw[<- I3.len];show (qA6.mp (kG e)).1
    rw[k8 j hj];show e
   .obtain ⟨o,e,d⟩:=T.obj _ _ a8 b hb;show (I'.pin (b,o) (qE1 _ (qE1 _ (X3 hb e)))).2.1
  cases b with
  | false=>
   have a6:∃I,I<n/\W (i+1) I H9:=q9;show qQ5 ⟨rfl,again I9 a6⟩
  | true=>
   have a6:te a3 H9 _:=q9;refine qA1 (qA1 (a4 (thn (he _ s9 a3 H9 _ I9 a6) λv c3 bq=>?_)));obtain ⟨y,ck,cj,c1,ys,hD,hy,cm⟩:=bq;refine qA1 (a4 (thn (jZ _ c3 a3 ck (.ref D) [y] (.ref D) [v] (λ_ H'=>∃I,I<n/\W (i+1) I H') cj rfl (.cons c1 .nil) ⟨D,ys,y,rfl,rfl,hD,hy,cm⟩) λ_ cp b4=>?_));obtain ⟨_,cn,c5,_,c0⟩:=b4;show qQ5 (qQ5 ⟨rfl,again c5 c0⟩)
def kM {R:Value->Addr->Result->Shared->Prop}{Q:V->Hp->Prop}(S:e8 X.env.scope cs X.N N')(hc:X.calm=true)(hg:∀cl ex s H,PG (l9 X cs cl N' ex s H) tg g)(hk:U7 X.N.length g)(ht:∀cl ex s H,PIf (l9 X cs cl N' ex s H) ifs tc)(he:∀cl ex s H,PE (l9 X cs cl N' ex s H) elt te)(a6:∀x c,cl.lookup x=some c->X.env.cells.lookup x=some c)(b0:∀x,(x,NameKind.free)∈cs.names->∃c,cl.lookup x=some c)(h:PIE X pins σ tg (λJ H1=>∀D,H1 D=none->zS J D g tc te (inner N' σ) H1 (Q (.ref D))) itv s2)(hR:∀(D C:Addr) (H':Hp) (s':Shared),Inv X pins σ H' s'->Q (.ref D) H'->(∃m,s'.heap.Ns C m)->L4 X pins H' C->R (.ref D) C (.ok .next) s'):
  wpAny (model X.prog X.w) X.A (newList []) (λb5 a8=>wpAny (model X.prog X.w) X.A (newFunctionEnv cs X.env.globals cl [] X.env.qual none .none (some X.env)) (λa5 b3=>
   codeAny (model X.prog X.w) X.A (.compStart (.ListComp elt [⟨tg,iter,ifs,0⟩] cs pos) 0 itv b5 { a5 with scope:=relabel cs X.env }) (R b5 a5.locals) b3) X.xe a8) X.xe s2:=by
 obtain ⟨it,fp,tn,J,H2,e,I2,T,b4,f2,hw⟩:=h;subst e;refine qR3 (wpAny_newFunctionEnv S.ncell (by intro y hy;simp at hy) (λh1 I a3=>?_) S.kind);dsimp only at I a3 ⊢;have hD:=I2.hok.fresh (qB2 _);obtain ⟨W,⟨m0,w0⟩,turn⟩:=hw s2.heap.objs.size hD;have I3:Inv X pins σ (upd H2 s2.heap.objs.size (.lst [])) { s2 with heap:=s2.heap.push { cls:=.type "list",dict:=none,data:=.seq ([]:VY).toArray } }:=I2.lnew (t':=s2.toks) .nil (qC7 _);have a4:∀b∈fp,b<s2.heap.objs.size:=λb hb=>by
  obtain ⟨o,e,_⟩:=T.obj 0 _ b4 b hb;show qB5 e
 have a7:∀b∈fp,L4 X pins (upd H2 s2.heap.objs.size (.lst [])) b:=λb hb=>by
  obtain ⟨f0,r⟩:=f2 b hb;show ⟨by rw[d8 (qD9 (a4 b hb))];show f0,r⟩
 have a9:∀b∈fp,b<(s2.heap.push { cls:=.type "list",dict:=none,data:=.seq ([]:VY).toArray }).objs.size:=λb hb=>by rw[qO5];show qL9 (a4 b hb)
 have kp:∀b o,(s2.heap.push { cls:=.type "list",dict:=none,data:=.seq ([]:VY).toArray }).get? b=some o->h1.get? b=some o:=λb o e=>a3.extBut b o (qD9 (qB5 e)) (qA9 _ e);have I4:=yA (cs:=cs) (cl:=cl) (N':=N') (fp:=fp) (s4:={ s2 with heap:=h1,toks:=s2.toks+([]:List (Str×Value)).length }) S I3 a6 b0 a7 a9 kp I rfl rfl;have ab:tn 0 h1:=T.keep 0 _ _ b4 λb hb o e=>kp b o (qA9 _ e);have loop:=vG (R:=R (.ref s2.heap.objs.size) (s2.heap.push { cls:=.type "list",dict:=none,data:=.seq ([]:VY).toArray }).objs.size) (D:=s2.heap.objs.size) (iter:=iter) (pos:=pos) (it:=it) (Q:=Q (.ref s2.heap.objs.size)) hc (hg cl fp _ _) hk (ht cl fp _ _) (he cl fp _ _) a6 I3 I4 T ab a7 a9 w0 turn λH' s' I' q n f=>hR _ _ H' s' I' q n f;show codeAny_compStart_list loop (T.self _ 0 _ _ _ ab loop)
def AZ (S:e8 X.env.scope cs X.N N')(hc:X.calm=true)(hi:PI X tg iter wi)(hg:∀cl ex s H,PG (l9 X cs cl N' ex s H) tg g)(hk:U7 X.N.length g)(ht:∀cl ex s H,PIf (l9 X cs cl N' ex s H) ifs tc)(he:∀cl ex s H,PE (l9 X cs cl N' ex s H) elt te)(hs:∀x,foldedSetIterable iter X.env x=pure x:=by intro _;rfl):PE X (.ListComp elt [⟨tg,iter,ifs,0⟩] cs pos) (qD N' wi g tc te):=by
 intro pins s σ H Q I h;obtain ⟨cl,e,h1,h2,_⟩:=iF (env:=X.env) cs.names [] (λx hx hk=>I.ok.has x.1 (S.free x hx hk)) (λ_ _ z=>nomatch z);have a3:closureFor cs X.env=pure cl:=by
  simp only [closureFor];rw[e];rfl
 rw[eval_ListComp];refine wpAny_comprehension_free (use:=none) rfl hs a3 S.kind S.loc (thn (hi pins s σ H _ I h) λv s1 q1=>thn q1 λa5 s2 q2=>?_);refine kM (R:=λa4 C=>compPost (model X.prog X.w) X.A X.xe none (EP X pins σ Q) a4 C) (Q:=Q) S hc hg hk ht he h1 h2 q2 λD C H' s' I' q n f=>?_;obtain ⟨m,hn⟩:=n;obtain ⟨f0,f1,f2,f3,f4,f5⟩:=f;show ⟨m,hn,λh' sb=>⟨.ref D,H',I'.turned (t':=s'.toks) (λb o hb e=>sb.extBut b o hb e) f0 f1 f3 f4 f5,rfl,q⟩⟩
def AT {X:Cx}{cs:Scope}{N':Zq}{tg iter a4:Expr}{a3:Zz}{wi:TI}{g:TG}{tc:TT}{te:TE}{pos:Pos}{i:Nat}{y:Str}{py a5:Pos}(S:e8 X.env.scope cs X.N N')(hc:X.calm=true)(hi:PI X tg iter wi)(hg:∀cl ex s H,PG (l9 X cs cl N' ex s H) tg g)(hk:U7 X.N.length g)(ht:∀cl ex s H,PIf (l9 X cs cl N' ex s H) a3 tc)(he:∀cl ex s H,PE (l9 X cs cl N' ex s H) a4 te)(hN:X.N.Nodup)(hy:X.N[i]?=some y)(hl:Loc X.env.scope y)(a9:swapsWith (.ListComp a4 [⟨tg,iter,a3,0⟩] cs pos) (some (.Name y py)) a5.line X.env=pure true:=by rfl)(hf:X.fn y=true\/X.env.scope.names.lookup y=some .local:=by first|show .inl rfl|show .inr rfl|assumption)(hs:∀x,foldedSetIterable iter X.env x=pure x:=by intro _;rfl):PS X (.Assign [.Name y py] (.ListComp a4 [⟨tg,iter,a3,0⟩] cs pos) a5) (Y2 (qD N' wi g tc te) (L6 i)):=by
 intro pins s σ H Q I h;obtain ⟨cl,e,h1,h2,_⟩:=iF (env:=X.env) cs.names [] (λx hx hk=>I.ok.has x.1 (S.free x hx hk)) (λ_ _ z=>nomatch z);have a6:closureFor cs X.env=pure cl:=by
  simp only [closureFor];rw[e];rfl
 rw[exec_Assign_Name_used _ _ _ _ a9];refine qA1 (wpAny_standAt (qA1 ?_))
 change wpAny _ _ (comprehension (.ListComp a4 [⟨tg,iter,a3,0⟩] cs pos) cs X.env _ (newList []) false (eval iter X.env) (some (assign (.Name y py) X.env))>>=_) _ _ s;refine qA1 (thn (wpAny_comprehension_free (use:=some (assign (.Name y py) X.env)) (Q:=λ_ s'=>SP X pins Q .next s') rfl hs a6 S.kind S.loc (thn (hi pins s σ H _ I h) λv s1 q1=>thn q1 λb5 s2 q2=>?_)) λ_ s' q=>qQ5 (qQ5 q));refine kM (R:=λb4 C=>compPost (model X.prog X.w) X.A X.xe (some (assign (.Name y py) X.env)) (λ_ s'=>SP X pins Q .next s') b4 C) (Q:=λx H1=>L6 i x σ H1 Q.nx) S hc hg hk ht he h1 h2 q2 λD C H' s' I' q n f=>?_;obtain ⟨m,hn⟩:=n;obtain ⟨f0,f1,f2,f3,f4,f5⟩:=f
 change wpAny _ _ (assign (.Name y py) X.env (.ref D)) _ _ _;refine wpAny_assign_Name (jS (v:=.ref D) (u:=.ref D) I' hN hy hl rfl (λb0 a8 a7=>?_) hf);obtain ⟨a,sb,ha⟩:=a7;have ab:C≠a:=by
  rcases ha with rfl|ha
  .show f1
  .show λq=>f4 _ _ ha q.symm
 refine ⟨m,hn.sameBut sb ab,λh' b3=>?_⟩;show ⟨_,H',a8.turned (t':=b0.toks) (λb o hb e=>b3.extBut b o hb e) f0 f1 f3 f4 f5,q⟩
def Sq.same {K:Frag}(e:Same H H')(h:Sq K H t a xs):Sq K H' t a xs:=by
 unfold Sq at h ⊢
 split
 .rename_i ht;rw[qA2 ht]at h
  rcases h with (h|⟨o,h⟩)|h
  .show .inl (.inl (e _ _ h))
  .show .inl (.inr ⟨o,e _ _ h⟩)
  .show .inr h
 .rename_i ht;rw[qA4 ht]at h
  show e.seq h
def seqAt (K:Frag)(H:Hp)(p:Addr)(R:List V->Prop):Prop:=match H p with
 |some (.tup xs)=>R xs
 |some (.lst xs)=>R xs
 |_=>∃t xs,Sq K H t p xs/\R xs
def ItQ (K:Frag)(t:Bool)(a:Addr):It:=if t=true then Itt K a else Itl K a
def iSq (K:Frag)(I:TE):TI:=λσ H R=>I σ H λx H1=>∃a,x=.ref a/\∃t xs,Sq K H1 t a xs/\R (ItQ K t a) H1
def Jz (hl:PE X l tl):PI X tg l (iSq X.K tl):=by
 intro pins s σ H R I h;refine thn (hl pins s σ H _ I h) λv s1 a4=>?_;obtain ⟨x,H1,I1,r1,q1⟩:=a4;obtain ⟨a,e,t,xs,hq,q⟩:=q1;subst e;cases r1;cases t with
 | true=>
  have a3:SqT X.K H1 a xs:=by unfold Sq at hq;rw[qA2 rfl]at hq;show hq
  obtain ⟨its,rv,p,hz⟩:=I1.tuple a3;refine qT4 (show s1.heap.IsTuple a its.toArray from p) ?_;refine ⟨s1.heap.objs.size,[s1.heap.objs.size],_,Itt X.K a,H1,rfl,I1.kept (t':=s1.toks) λb o e=>qA9 _ e,qx a _,⟨_,qC5 _ rfl,rfl,rfl⟩,λb hb=>?_,q⟩;have e:b=s1.heap.objs.size:=by simpa using hb
  subst e;show I1.fpOk (qB2 _) (I1.hok.fresh (qB2 _))
 | false=>
  have a3:SqL X.K H1 a xs:=by unfold Sq at hq;rw[qA4 qA3]at hq;show hq
  obtain ⟨its,rv,p,hz⟩:=I1.list a3;refine qS5 p.isList ?_;refine ⟨s1.heap.objs.size,[s1.heap.objs.size],_,Itl X.K a,H1,rfl,I1.kept (t':=s1.toks) λb o e=>qA9 _ e,sK a _,⟨_,qC5 _ rfl,rfl,rfl⟩,λb hb=>?_,q⟩;have e:b=s1.heap.objs.size:=by simpa using hb
  subst e;show I1.fpOk (qB2 _) (I1.hok.fresh (qB2 _))
def CT:bootBuiltins "bool" = some (.type "bool"):=Yo
def iJ:bootBuiltins "int" = some (.type "int"):=Yo
def L0:bootBuiltins "list" = some (.type "list"):=Yo
def l5:bootBuiltins "tuple" = some (.type "tuple"):=Yo
def IE:bootBuiltins "str" = some (.type "str"):=Yo
def vQ:bootBuiltins "max" = some (.builtin "max"):=Yo
def tyO:Option HO->Option String
 |some (.lst _)=>some "list"
 |some (.tup _)=>some "tuple"
 |some (.dK _)=>some "dict"
 |_=>none
def tyB (H:Hp):V->Option String
 | .non=>some "NoneType"
 | .bl _=>some "bool"
 | .int _=>some "int"
 | .str _=>some "str"
 | .ref a=>tyO (H a)
 |_=>none
def B5 (A T:String):Option Bool:=
 if A=T then some true else if A = "bool" /\ T = "int" then some true
 else if (A = "NoneType" \/ A = "bool" \/ A = "int" \/ A = "str" \/ A = "list" \/ A = "tuple" \/ A = "dict")/\(T = "bool" \/ T = "int" \/ T = "list" \/ T = "tuple") then some false else none
def Dw {K:Frag}(h:tyB H x=some A):T8 K H x (.type A):=by
 cases x with
 |non=>cases h;show .non
 |bl _=>cases h;show .bl _
 |int _=>cases h;show .int _
 |str _=>cases h;show .str _
 | ref a=>
  have h:tyO (H a)=some A:=h;cases e:H a with
  |none=>rw[e]at h;cases h
  | some o=>
   rw[e]at h;cases o <;> first | (cases h;show .lst e) | (cases h;show .tup e) | (cases h;show .dK e)|cases h
 |_=>cases h
def BU {K:Frag}(h:B5 A T=some b):PySem.W.kitOne K (.type A) (.type T)=some b:=by
 unfold B5 at h
 split at h
 .rename_i e;subst e;cases h
  unfold PySem.W.kitOne;rw[qA2 ZW]
 .split at h
  .rename_i e;obtain ⟨rfl,rfl⟩:=e;cases h;with_unfolding_all rfl
  .split at h
   .rename_i h1 h2 e
    obtain ⟨e1,e2⟩:=e;cases h;rcases e1 with rfl|rfl|rfl|rfl|rfl|rfl|rfl <;> rcases e2 with rfl|rfl|rfl|rfl <;>
     first|show absurd rfl h1|show absurd ⟨rfl,rfl⟩ h2|with_unfolding_all rfl
   .cases h
def rIsi:List V->Hp->VK->Prop:=λxs H Q=>∃x T,xs = [x,.ty T]/\∃A,tyB H x=some A/\∃b,B5 A T=some b/\Q (.bl b) H
def F9:F2 X (.builtin "isinstance") rIsi:=by
 intro pins s σ H xs us Q I r h;obtain ⟨x,T,rfl,A,ty,b,e,q⟩:=h;obtain ⟨u,w',rfl,r1,r2⟩:=vals2 r;have e2:w'=Value.type T:=r2;subst e2;show uY I r1 (Dw ty) (BU e) λtk=>⟨.bl b,H,I.tok tk,rfl,q⟩
def GD:B5 "bool" "bool" = some true:=ZU
def GC:B5 "bool" "int" = some true:=ZU
def GB:B5 "int" "bool" = some false:=ZU
def GA:B5 "int" "int" = some true:=ZU
def Gk:B5 "tuple" "tuple" = some true:=ZU
def Gx:B5 "list" "list" = some true:=ZU
def Gu:B5 "NoneType" "int" = some false:=ZU
def Gv:B5 "NoneType" "bool" = some false:=ZU
def Gp:B5 "str" "int" = some false:=ZU
def Gq:B5 "str" "bool" = some false:=ZU
def Gy:B5 "list" "int" = some false:=ZU
def Gz:B5 "list" "bool" = some false:=ZU
def Gn:B5 "tuple" "int" = some false:=ZU
def Go:B5 "tuple" "bool" = some false:=ZU
def bE {n:Nat}{i:Int}(h0:0<=i)(h1:i<n):ixN n i=some i.toNat:=by unfold ixN;rw[qA2 h0,qA2 h1]
def mem_getD {ms:Zk}{P:Int->Prop}(h:∀x∈ms,P x)(hi:i<ms.length):P (ms.getD i 0):=by
 have:ms.getD i 0=ms[i]:=by simp [hi]
 rw[this];show h _ (qJ7 hi)
structure Runs (J:It) (n:Nat) (H1:Hp) (Y:Nat->V->Hp->Hp->Prop):Prop where
 go:∀i H,i<n->Same H1 H->J.go i H
 stop:∀H,Same H1 H->J.stop n H
 yld:∀i H x H',i<n->Same H1 H->J.yld i H x H'->Y i x H H'
def tH {K:Frag}(h:Sq K H1 t a xs)(h':Sq K H1 u b ys):
  Runs (ItZ K [(t,a),(u,b)]) (min xs.length ys.length) H1 λi x H H'=>∃p y z,x=.ref p/\H p=none/\H'=upd H p (.tup [y,z])/\xs[i]?=some y/\ys[i]?=some z:=by
 refine ⟨λi H hi s v hv=>?_,λH s=>⟨λv hv=>?_,?_⟩,λi H x H' hi s hy=>?_⟩
 .simp only [qB6,qE3,qS4]at hv;rcases hv with rfl|rfl
  .show ⟨xs,xs[i]'(qB3 hi (qL4 _ _)),Sq.same s h,ZW⟩
  .show ⟨ys,ys[i]'(qB3 hi (qI6 _ _)),Sq.same s h',ZW⟩
 .simp only [qB6,qE3,qS4]at hv;rcases hv with rfl|rfl
  .show ⟨xs,Sq.same s h⟩
  .show ⟨ys,Sq.same s h'⟩
 .rcases Nat.le_total xs.length ys.length with q|q
  .show ⟨(t,a),ZW,xs,Sq.same s h,ox⟩
  .show ⟨(u,b),ZW,ys,Sq.same s h',ox⟩
 .obtain ⟨p,zs,e1,e2,e3,I⟩:=hy;cases I with
  | cons r1 I=>
   cases I with
   | cons r2 I=>
    cases I;show ⟨p,_,_,e1,e2,e3,r1 xs (Sq.same s h),r2 ys (Sq.same s h')⟩
def tG {K:Frag}(h:Sq K H1 t a xs)(h':Sq K H1 u b ys)(I:Sq K H1 w c zs):
  Runs (ItZ K [(t,a),(u,b),(w,c)]) (min xs.length (min ys.length zs.length)) H1 λi x H H'=>∃p y z v,x=.ref p/\H p=none/\H'=upd H p (.tup [y,z,v])/\xs[i]?=some y/\ys[i]?=some z/\zs[i]?=some v:=by
 refine ⟨λi H hi s v hv=>?_,λH s=>⟨λv hv=>?_,?_⟩,λi H x H' hi s hy=>?_⟩
 .simp only [qB6,qE3,qS4]at hv;rcases hv with rfl|rfl|rfl
  .show ⟨xs,xs[i]'(qB3 hi (qL4 _ _)),Sq.same s h,ZW⟩
  .show ⟨ys,ys[i]'(qB3 hi (qA8 (qI6 _ _) (qL4 _ _))),Sq.same s h',ZW⟩
  .show ⟨zs,zs[i]'(qB3 hi (qA8 (qI6 _ _) (qI6 _ _))),Sq.same s I,ZW⟩
 .simp only [qB6,qE3,qS4]at hv;rcases hv with rfl|rfl|rfl
  .show ⟨xs,Sq.same s h⟩
  .show ⟨ys,Sq.same s h'⟩
  .show ⟨zs,Sq.same s I⟩
 .have:min xs.length (min ys.length zs.length)=xs.length\/min xs.length (min ys.length zs.length)=ys.length\/min xs.length (min ys.length zs.length)=zs.length:=ox
  rcases this with q|q|q
  .show ⟨(t,a),ZW,xs,Sq.same s h,ox⟩
  .show ⟨(u,b),ZW,ys,Sq.same s h',ox⟩
  .show ⟨(w,c),ZW,zs,Sq.same s I,ox⟩
 .obtain ⟨p,vs,e1,e2,e3,pr⟩:=hy;cases pr with
  | cons r1 pr=>
   cases pr with
   | cons r2 pr=>
    cases pr with
    | cons r3 pr=>
     cases pr;show ⟨p,_,_,_,e1,e2,e3,r1 xs (Sq.same s h),r2 ys (Sq.same s h'),r3 zs (Sq.same s I)⟩
structure Def (K:Frag) (mg:VV) (x:Str) (st:Stmt) (ps:Zq) (f:Addr) (fd:FuncData):Prop where
 F:Fun K x x st f fd
 m:mg x=some (.ref f)
 b:Binds K fd ps []
def D1 {X:Cx}(K:Frag){es:Zz}{pos:Pos}{k:Nat}{t:TGs}(n:Nat)(hc:X.calm=true)(h:PGs X es t)(hK:X.K=K:=by rfl)(hn:(assignEach es X.env).length=n:=by rfl)(I:(assignEach es X.env).findIdx? (·.1)=none:=by rfl):PG X (.Tuple es k pos) (rC K n t):=by subst hK;show Fz hc h hn I
def DH (I:TE)(te:TE):TE:=λσ H Q=>I σ H λx H1=>∃p,x=.ref p/\(∃xs,H1 p=some (.lst xs))/\te σ H1 λy H2=>match H2 p with
 |some (.lst xs)=>xs.length<sizeLine/\Q .non (upd H2 p (.lst (xs ++ [y])))
 |_=>False
def ue {X:Cx}{o e:Expr}{to te:TE}{apos a3:Pos}(ho:PE X o to)(ha:PE X e te)(a5:attributeBase o "append" X.env (eval o X.env)=eval o X.env:=by rfl) (a8:((backTo a3 (starEach [e] X.env)).all (λx=>!x.1)&&(backToKw a3 (keywordEach [] X.env)).all (λx=>x.1.isSome)
   && decide (([e]:Zz).length+([]:List Keyword).length+(if ([]:List Keyword).isEmpty then 0 else 1)<30))=true:=by rfl) (a4:(apos.endLine == a3.line)=true:=by rfl) (hs:starEach [e] X.env=(false,eval e X.env)::starEach [] X.env:=by rfl):PE X (.Call (.Attribute o "append" apos) [e] [] a3) (DH to te):=by
 intro pins s σ H Q I h;refine wpAny_Call_method_late a5 a8 a4 rfl (thn (ho pins s σ H _ I h) λv s1 a6=>?_);obtain ⟨x,H1,I1,r1,p,ex,⟨xs,e1⟩,q1⟩:=a6;subst ex;obtain ⟨h1,h2⟩:=sI (T:="list") I1 r1 (.inl ⟨rfl,xs,SqL.of e1⟩);refine ⟨"list","list.append",qT8,PySem.F.slot_list_append,PySem.F.type_list_append,h1,h2,?_⟩;have hA:=jf ha pa_nil hs a3 pins s1 σ H1 (λvs H2=>∃y,vs = [y]/\match H2 p with
  |some (.lst xs)=>xs.length<sizeLine/\Q .non (upd H2 p (.lst (xs ++ [y])))
  | _=>False) I1 (by
   have e:(λ(y:V) (H2:Hp)=>match H2 p with
     |some (.lst xs)=>xs.length<sizeLine/\Q .non (upd H2 p (.lst (xs ++ [y])))
     |_=>False)=λ(y:V) (H2:Hp)=>∃y',[y] = [y']/\match H2 p with
     |some (.lst xs)=>xs.length<sizeLine/\Q .non (upd H2 p (.lst (xs ++ [y'])))
     |_=>False:=by
    funext y H2
    show propext ⟨λq=>⟨y,rfl,q⟩,λa9=>by obtain ⟨y',e,q⟩:=a9;cases e;show q⟩
   rw[e]at q1;show q1)
 rw[hs]at hA ⊢;refine Calls.callWith_builtin rfl (Calls.evalArgs_plain ?_);refine thn hA λus s2 a7=>?_;obtain ⟨vs,H2,I2,r2,y,ev,q2⟩:=a7;subst ev;refine jZ pins s2 σ H2 (.ref p) [y] v us Q I2 r1 r2 ?_
 split at q2
 .rename_i ys e2;show ⟨p,ys,y,rfl,rfl,e2,q2.1,q2.2⟩
 .show q2.elim
def wS (K:Frag):V->Option Int->Option Int->Hp->VK->Prop:=λx lo hi H Q=>∃p,x=.ref p/\∃xs,SqL K H p xs/\∀l,H l=none->Q (.ref l) (upd H l (.lst (cH xs lo hi)))
def zT (i j:Int):Prop:=0<=j/\(Builtin.Int.intBits i:Int)*j<=2^27
def Cd {ns:Zk}(h:ns[i]?=some z):ns.getD i 0=z:=by rw[qA0,h];rfl
def P0 {ns:Zk}(h:i<ns.length):ns[i]?=some (ns.getD i 0):=by rw[qA0];simp [h]
end L2
namespace TP
open PySem L2
inductive W where
 |non|bl (b:Bool)|int (i:Int)|str (x:Str)|ty (n:String)|tup (ws:List W)|lst (ws:List W)|scr (ws:List W)
 |exc (c:Str) (i:VX)|cls (c:Str)
abbrev Zp:=List W
def XD (F:Hp)(od:Option Addr):Option Int->Prop
 |none=>od=none
 |some i=>∃d,od=some d/\F d=some (.xd [("at",.int i)])
mutual
inductive Rep (K:Frag) (F:Hp):V->W->Prop where
 |non:Rep K F .non .non
 |bl {b:Bool}:Rep K F (.bl b) (.bl b)
 |int {i:Int}:Rep K F (.int i) (.int i)
 |str {x:Str}:Rep K F (.str x) (.str x)
 |ty {n:String}:Rep K F (.ty n) (.ty n)
 |tup {a:Addr}{vs:List V}{ws:Zp}:F a=some (.tup vs)->Reps K F vs ws->Rep K F (.ref a) (.tup ws)
 |lst {a:Addr}{vs:List V}{ws:Zp}:F a=some (.lst vs)->Reps K F vs ws->Rep K F (.ref a) (.lst ws)
 |scr {a:Addr}{vs:List V}{ws:Zp}:SqL K F a vs->Reps K F vs ws->Rep K F (.ref a) (.scr ws)
 |exc {a C:Addr}{o:Obj}{vs:Zj}{c:Str}{i:VX}:F a=some (.ext λh=>h.get? a=some o)->o.cls=.ref C->o.data=.fields vs->PySem.W.nsIn K mainGlobals c=some (some (.ref C))->XD F o.dict i->Rep K F (.ref a) (.exc c i)
 |cls {C:Addr}{c:Str}:PySem.W.nsIn K mainGlobals c=some (some (.ref C))->Rep K F (.ref C) (.cls c)
inductive Reps (K:Frag) (F:Hp):List V->List W->Prop where
 |nil:Reps K F [] []
 |cons {v:V}{w:W}{vs:List V}{ws:Zp}:Rep K F v w->Reps K F vs ws->Reps K F (v::vs) (w::ws)
end
def ww (e:Same F F')(h:SqT K F a xs):SqT K F' a xs:=by
 rcases h with (h|⟨o,h⟩)|h
 .show .inl (.inl (e _ _ h))
 .show .inl (.inr ⟨o,e _ _ h⟩)
 .show .inr h
def XD.same (e:Same F F'):∀{i:VX},XD F od i->XD F' od i:=by
 intro i h;cases i with
 |none=>show h
 |some _=>obtain ⟨d,h1,I⟩:=h;show ⟨d,h1,e _ _ I⟩
def Rep.same (e:Same F F')(r:Rep K F v w):Rep K F' v w:=
 @Rep.rec K F (λv w _=>Rep K F' v w) (λvs ws _=>Reps K F' vs ws) .non .bl .int .str .ty (λh _ r=>.tup (e _ _ h) r) (λh _ r=>.lst (e _ _ h) r) (λh _ r=>.scr (Same.seq e h) r) (λh1 h2 I h4 h5=>.exc (e _ _ h1) h2 I h4 (XD.same e h5)) (λh=>.cls h) .nil (λ_ _ a b=>.cons a b) v w r
def Reps.same (e:Same F F')(r:Reps K F vs ws):Reps K F' vs ws:=
 @Reps.rec K F (λ_ _ _=>True) (λvs ws _=>Reps K F' vs ws) trivial trivial trivial trivial trivial (λ_ _ _=>trivial) (λ_ _ _=>trivial) (λ_ _ _=>trivial) (λ_ _ _ _ _=>trivial) (λ_=>trivial) .nil (λh _ _ b=>.cons (Rep.same e h) b) vs ws r
def Reps.ind {P:List V->List W->Prop}(h0:P [] [])(h1:∀{v:V}{w:W}{vs:List V}{ws:Zp},Rep K F v w->Reps K F vs ws->P vs ws->P (v::vs) (w::ws))(r:Reps K F vs ws):P vs ws:=
 @Reps.rec K F (λ_ _ _=>True) (λvs ws _=>P vs ws) trivial trivial trivial trivial trivial (λ_ _ _=>trivial) (λ_ _ _=>trivial) (λ_ _ _=>trivial) (λ_ _ _ _ _=>trivial) (λ_=>trivial) h0 (λh r _ b=>h1 h r b) vs ws r
def IQ (K:Frag)(F:Hp)(v:V):W->Prop
 | .non=>v=.non
 | .bl b=>v=.bl b
 | .int i=>v=.int i
 | .str x=>v=.str x
 | .ty n=>v=.ty n
 | .tup ws=>∃a vs,v=.ref a/\F a=some (.tup vs)/\Reps K F vs ws
 | .lst ws=>∃a vs,v=.ref a/\F a=some (.lst vs)/\Reps K F vs ws
 | .scr ws=>∃a vs,v=.ref a/\SqL K F a vs/\Reps K F vs ws
 | .exc _ _=>True
 | .cls _=>True
def Rep.inv (r:Rep K F v w):IQ K F v w:=
 @Rep.rec K F (λv w _=>IQ K F v w) (λ_ _ _=>True) rfl rfl rfl rfl rfl (λh r _=>⟨_,_,rfl,h,r⟩) (λh r _=>⟨_,_,rfl,h,r⟩) (λh r _=>⟨_,_,rfl,h,r⟩) (λ_ _ _ _ _=>trivial) (λ_=>trivial) trivial (λ_ _ _ _=>trivial) v w r
def RepsI (K:Frag)(F:Hp)(vs:List V):List W->Prop
 | []=>vs = []
 |w::ws=>∃v us,vs=v::us/\Rep K F v w/\Reps K F us ws
def Reps.length (r:Reps K F vs ws):vs.length=ws.length:=
 Reps.ind (P:=λvs ws=>vs.length=ws.length) rfl (λ_ _ h=>congrArg (·+1) h) r
def Reps.get {i:Nat}(r:Reps K F vs ws):ws[i]?=some w->∃v,vs[i]?=some v/\Rep K F v w:=
 Reps.ind (P:=λvs ws=>∀(i:Nat) (w:W),ws[i]?=some w->∃v,vs[i]?=some v/\Rep K F v w) (λi w e=>by cases e) (λh _ b i w e=>by
  cases i with
  |zero=>cases e;show ⟨_,rfl,h⟩
  |succ i=>show b i w e) r i w
def Reps.get' {i:Nat}(r:Reps K F vs ws):vs[i]?=some v->∃w,ws[i]?=some w/\Rep K F v w:=
 Reps.ind (P:=λvs ws=>∀(i:Nat) (v:V),vs[i]?=some v->∃w,ws[i]?=some w/\Rep K F v w) (λi w e=>by cases e) (λh _ b i w e=>by
  cases i with
  |zero=>cases e;show ⟨_,rfl,h⟩
  |succ i=>show b i w e) r i v
def Reps.append (r:Reps K F vs ws)(s:Reps K F us xs):Reps K F (vs++us) (ws++xs):=
 Reps.ind (P:=λvs ws=>Reps K F (vs++us) (ws++xs)) s (λh _ b=>.cons h b) r
def Reps.take (n:Nat)(r:Reps K F vs ws):Reps K F (vs.take n) (ws.take n):=
 Reps.ind (P:=λvs ws=>∀n,Reps K F (vs.take n) (ws.take n)) (λn=>by simpa using .nil) (λh _ b n=>by
  cases n with
  |zero=>show .nil
  |succ n=>show .cons h (b n)) r n
def Reps.drop (n:Nat)(r:Reps K F vs ws):Reps K F (vs.drop n) (ws.drop n):=
 Reps.ind (P:=λvs ws=>∀n,Reps K F (vs.drop n) (ws.drop n)) (λn=>by simpa using .nil) (λh r b n=>by
  cases n with
  |zero=>show .cons h r
  |succ n=>show b n) r n
def Reps.reverse (r:Reps K F vs ws):Reps K F vs.reverse ws.reverse:=by
 induction r using Reps.rec (motive_1:=λ_ _ _=>True) with
 |nil=>show .nil
 |cons h _ _ I=>rw[qO2,qO2];show Reps.append I (.cons h .nil)
 |_=>trivial
def Reps.set (h:Rep K F v w)(i:Nat)(r:Reps K F vs ws):Reps K F (vs.set i v) (ws.set i w):=
 Reps.ind (P:=λvs ws=>∀i,Reps K F (vs.set i v) (ws.set i w)) (λ_=>.nil) (λq t b i=>by
  cases i with
  |zero=>show .cons h t
  |succ i=>show .cons q (b i)) r i
def Reps.snoc (r:Reps K F vs ws)(h:Rep K F v w):Reps K F (vs ++ [v]) (ws ++ [w]):=r.append (.cons h .nil)
mutual
def noL:W->Bool
 | .lst _=>false
 | .scr _=>false
 | .tup ws=>m9 ws
 |_=>true
def m9:List W->Bool
 | []=>true
 |w::ws=>noL w&&m9 ws
end
def isL:HO->Bool
 | .lst _=>true
 | .dT _=>true
 | .dK _=>true
 | .frz _ (.lst _)=>true
 |_=>false
def join (H0 G:Hp):Hp:=λa=>match H0 a with
 |some o=>if isL o then some o else G a
 |none=>G a
inductive Sl where
 |un|val (w:W)|par (w:W)|own (ws:Zp)|dic (ks:Zw)|dik (ks:Zk)|iop (p:Addr) (ws:Zp)|hz (w:W)
abbrev Rho:=List Sl
def jq (G:Hp):Hp:=λa=>match G a with
 |some o=>if isL o then none else some o
 |none=>none
def dD (h:Same G G'):Same (jq G) (jq G'):=λa o e=>by
 unfold jq at e ⊢;cases q:G a with
 |none=>rw[q]at e;cases e
 |some u=>rw[q]at e;rw[h a u q];show e
def xt:Same (jq G) G:=λa o e=>by
 unfold jq at e;cases q:G a with
 |none=>rw[q]at e;cases e
 | some u=>
  rw[q]at e;dsimp only at e;cases I:isL u
  .rw[I]at e;show e
  .rw[I]at e;cases e
def SlR (K:Frag)(H0 G H:Hp):Sl->Option V->Prop
 | .un,_=>True
 | .val w,o=>∃v,o=some v/\Rep K G v w
 | .par w,o=>∃v,o=some v/\Rep K (join H0 G) v w
 | .own ws,o=>∃a vs,o=some (.ref a)/\H a=some (.lst vs)/\G a=none/\H0 a=none/\Reps K G vs ws
 | .dic ks,o=>∃(a:Addr) (kvs:List (List Key×V)),o=some (.ref a)/\H a=some (.dT kvs)/\G a=none/\H0 a=none/\kvs.map (·.1)=ks.map λk=>k.map Sum.inl
 | .dik ks,o=>∃(a:Addr) (kvs:List (Key×V)),o=some (.ref a)/\H a=some (.dK kvs)/\G a=none/\H0 a=none/\kvs.map (·.1)=ks.map Sum.inl
 | .iop p ws,o=>o=some (.ref p)/\∃vs,H0 p=some (.lst vs)/\Reps K G vs ws
 | .hz w,o=>∃v,o=some v/\Rep K (join H0 (jq G)) v w
structure PIv (K:Frag) (H0 G:Hp) (ρ:Rho) (σ:St) (H:Hp):Prop where
 g0:∀a o,H0 a=some o->isL o=false->G a=some o
 gl:∀a o,H0 a=some o->isL o=true->G a=none
 gh:Same G H
 hh:Same H0 H
 len:ρ.length=σ.length
 sl:∀(i:Nat) (x:Sl) (o:Option V),ρ[i]?=some x->σ[i]?=some o->SlR K H0 G H x o
 ne:∀(i j:Nat) (ws us:Zp) (a:Addr),i≠j->ρ[i]?=some (.own ws)->ρ[j]?=some (.own us)->σ[i]?=some (some (.ref a))->σ[j]?≠some (some (.ref a))
structure Ext (G H G' H':Hp):Prop where
 gg:Same G G'
 hh:Same H H'
 gh:Same G' H'
 keep:∀a o,H a=some o->isL o=true->G a=none->G' a=none
def Lf:=@Same.refl
def Ext.refl (h:Same G H):Ext G H G H:=⟨Lf G,Lf H,h,λ_ _ _ _ e=>e⟩
def Ext.trans (a:Ext G H G1 H1)(b:Ext G1 H1 G2 H2):Ext G H G2 H2:=
 ⟨a.gg.trans b.gg,a.hh.trans b.hh,b.gh,λx o h l e=>b.keep x o (a.hh x o h) l (a.keep x o h l e)⟩
def B4 (h:Same G G'):Same (join H0 G) (join H0 G'):=λa o e=>by
 unfold join at e ⊢;cases q:H0 a with
 |none=>rw[q]at e;show h a o e
 | some u=>
  rw[q]at e;dsimp only at e ⊢;by_cases I:isL u=true
  .rw[qA2 I]at e ⊢;show e
  .rw[qA4 I]at e ⊢;show h a o e
def PIv.G_join (I:PIv K H0 G ρ σ H):Same G (join H0 G):=λa o e=>by
 unfold join;cases q:H0 a with
 |none=>show e
 | some u=>
  dsimp only;by_cases hl:isL u=true
  .rw[I.gl a u q hl]at e;cases e
  .rw[qA4 hl];show e
def PIv.join_H (I:PIv K H0 G ρ σ H):Same (join H0 G) H:=λa o e=>by
 unfold join at e;cases q:H0 a with
 |none=>rw[q]at e;show I.gh a o e
 | some u=>
  rw[q]at e;dsimp only at e;by_cases hl:isL u=true
  .rw[qA2 hl]at e;cases e;show I.hh a _ q
  .rw[qA4 hl]at e;show I.gh a o e
def PIv.ext (I:PIv K H0 G ρ σ H)(x:Ext G H G' H'):PIv K H0 G' ρ σ H' where
 g0 a o e l:=x.gg a o (I.g0 a o e l)
 gl a o e l:=x.keep a o (I.hh a o e) l (I.gl a o e l)
 gh:=x.gh
 hh:=I.hh.trans x.hh
 len:=I.len
 sl i s o h1 h2:=by
  have:=I.sl i s o h1 h2
  cases s with
  |un=>trivial
  |val w=>obtain ⟨v,e,r⟩:=this;show ⟨v,e,r.same x.gg⟩
  |par w=>obtain ⟨v,e,r⟩:=this;show ⟨v,e,r.same (B4 x.gg)⟩
  | own ws=>
   obtain ⟨a,vs,e,h,g,h0,r⟩:=this;show ⟨a,vs,e,x.hh a _ h,x.keep a _ h rfl g,h0,r.same x.gg⟩
  | dic ks=>
   obtain ⟨a,kvs,e,h,g,h0,r⟩:=this;show ⟨a,kvs,e,x.hh a _ h,x.keep a _ h rfl g,h0,r⟩
  | dik ks=>
   obtain ⟨a,kvs,e,h,g,h0,r⟩:=this;show ⟨a,kvs,e,x.hh a _ h,x.keep a _ h rfl g,h0,r⟩
  | iop p ws=>
   obtain ⟨e,vs,h,r⟩:=this;show ⟨e,vs,h,r.same x.gg⟩
  |hz w=>obtain ⟨v,e,r⟩:=this;show ⟨v,e,r.same (B4 (dD x.gg))⟩
 ne:=I.ne
def gf (h:join H0 G a=some o)(l:isL o=false):G a=some o:=by
 unfold join at h;cases q:H0 a with
 |none=>rw[q]at h;show h
 | some u=>
  rw[q]at h;dsimp only at h;by_cases I:isL u=true
  .rw[qA2 I]at h;cases h;rw[I]at l;cases l
  .rw[qA4 I]at h;show h
def XD.clean:∀{i:VX},XD (join H0 G) od i->XD G od i
 |none,h=>h
 |some _,⟨d,h1,h2⟩=>⟨d,h1,gf h2 rfl⟩
def Rep.clean (I:PIv K H0 G ρ σ H)(r:Rep K (join H0 G) v w):noL w=true->Rep K G v w:=
 @Rep.rec K (join H0 G) (λv w _=>noL w=true->Rep K G v w) (λvs ws _=>m9 ws=true->Reps K G vs ws) (λ_=>.non) (λ_=>.bl) (λ_=>.int) (λ_=>.str) (λ_=>.ty)
  (λh _ r n=>.tup (gf h rfl) (r n)) (λ_ _ _ n=>by cases n) (λ_ _ _ n=>by cases n) (λh1 h2 h3 h4 h5 _=>.exc (gf h1 rfl) h2 h3 h4 (XD.clean h5)) (λh _=>.cls h) (λ_=>.nil)
  (λ_ _ a b n=>by rw[m9,qH1]at n;show .cons (a n.1) (b n.2)) v w r
def Reps.clean (I:PIv K H0 G ρ σ H)(r:Reps K (join H0 G) vs ws):m9 ws=true->Reps K G vs ws:=
 @Reps.rec K (join H0 G) (λ_ _ _=>True) (λvs ws _=>m9 ws=true->Reps K G vs ws) trivial trivial trivial trivial trivial (λ_ _ _=>trivial) (λ_ _ _=>trivial) (λ_ _ _=>trivial) (λ_ _ _ _ _=>trivial) (λ_=>trivial) (λ_=>.nil)
  (λh _ _ b n=>by rw[m9,qH1]at n;show .cons (Rep.clean I h n.1) (b n.2)) vs ws r
structure XW where
 cls:Str
 at_:Option Int
inductive R (α:Type) where
 |ok (a:α)|ex (e:XW)|stuck
def R.bind {α I:Type}(x:R α)(f:α->R I):R I:=match x with
 | .ok a=>f a
 | .ex e=>.ex e
 | .stuck=>.stuck
instance:Monad R where
 pure:=R.ok
 bind:=R.bind
@[simp] theorem R.ok_bind {α I:Type}(a:α)(f:α->R I):((R.ok a:R α)>>=f)=f a:=rfl
@[simp] theorem R.stuck_bind {α I:Type}(f:α->R I):((R.stuck:R α)>>=f)=.stuck:=rfl
@[simp] theorem R.ex_bind {α I:Type}(e:XW)(f:α->R I):((R.ex e:R α)>>=f)=.ex e:=rfl
@[simp] theorem R.pure_eq (a:α):(pure a:R α)=.ok a:=rfl
inductive Mode where
 |F|V|U|C|B
def Md (K:Frag)(H0 H G' H':Hp)(v:V)(w:W):Mode->Prop
 | .V=>Rep K G' v w
 | .U=>Rep K (join H0 G') v w
 | .F=>match w with
  | .lst ws=>∃a vs,v=.ref a/\H' a=some (.lst vs)/\G' a=none/\H a=none/\Reps K G' vs ws
  |w=>Rep K G' v w
 | .C=>Rep K G' v w\/∃a vs ws,v=.ref a/\w=.lst ws/\H' a=some (.lst vs)/\Reps K G' vs ws
 | .B=>Rep K (join H0 G') v w\/∃a vs ws,v=.ref a/\w=.lst ws/\H' a=some (.lst vs)/\Reps K G' vs ws
abbrev EXT:=XW->Hp->Prop
def Out {α I:Type}(EX:EXT)(G H:Hp)(md:α->I->Hp->Hp->Prop)(r:R α)(Q:I->Hp->Prop):Prop:=match r with
 | .ok w=>∀v G' H',Ext G H G' H'->md w v G' H'->Q v H'
 | .ex e=>∀H',Same H H'->EX e H'
 | .stuck=>False
abbrev mdW (K:Frag)(d:Mode)(H0 H:Hp):W->V->Hp->Hp->Prop:=λw v G' H'=>Md K H0 H G' H' v w d
abbrev mdB:Bool->Bool->Hp->Hp->Prop:=λb c _ _=>c=b
inductive MdA (K:Frag) (d:Mode) (H0 H G' H':Hp):List W->List V->Prop where
 |nil:MdA K d H0 H G' H' [] []
 |cons {w:W}{v:V}{ws:Zp}{vs:List V}:Md K H0 H G' H' v w d->MdA K d H0 H G' H' ws vs->MdA K d H0 H G' H' (w::ws) (v::vs)
def MdAI (K:Frag)(d:Mode)(H0 H G' H':Hp)(vs:List V):List W->Prop
 | []=>vs = []
 |w::ws=>∃v us,vs=v::us/\Md K H0 H G' H' v w d/\MdA K d H0 H G' H' ws us
abbrev mdA (K:Frag)(d:Mode)(H0 H:Hp):List W->List V->Hp->Hp->Prop:=λws vs G' H'=>MdA K d H0 H G' H' ws vs
def tM (K:Frag)(EX:EXT)(d:Mode)(m:Rho->R W):TE:=λσ H Q=>∃H0 G ρ,PIv K H0 G ρ σ H/\Out EX G H (mdW K d H0 H) (m ρ) Q
def tT (K:Frag)(EX:EXT)(m:Rho->R Bool):TT:=λσ H Q=>∃H0 G ρ,PIv K H0 G ρ σ H/\Out EX G H mdB (m ρ) Q
def tA (K:Frag)(EX:EXT)(d:Mode)(m:Rho->R Zp):TA:=λσ H Q=>∃H0 G ρ,PIv K H0 G ρ σ H/\Out EX G H (mdA K d H0 H) (m ρ) Q
def Out.bind {md:α->β->Hp->Hp->Prop}{I:γ->δ->Hp->Hp->Prop}{m:R α}{k:α->R γ}{Q:δ->Hp->Prop}{Q1:β->Hp->Prop}(o:Out EX G H I (m>>=k) Q)(h:∀x G1 H1 w,Ext G H G1 H1->md w x G1 H1->Out EX G1 H1 I (k w) Q->Q1 x H1):Out EX G H md m Q1:=by
 cases m with
 | ok w=>
  intro v G' H' e d;refine h v G' H' w e d ?_;rw[R.ok_bind]at o
  revert o
  cases k w with
  |ok u=>show λo v2 G2 H2 e2 d2=>o v2 G2 H2 (e.trans e2) d2
  |ex x=>show λo H2 s2=>o H2 (e.hh.trans s2)
  |stuck=>show λo=>o
 |ex x=>show o
 |stuck=>show o
def Md.start (s:Same H H1)(h:Md K H0 H1 G2 H2 v w d):Md K H0 H G2 H2 v w d:=by
 cases d with
 | F=>
  cases w with
  |lst ws=>obtain ⟨a,vs,e,h1,h2,I,r⟩:=h;show ⟨a,vs,e,h1,h2,s.free I,r⟩
  |_=>show h
 |_=>show h
def Md.move (x:Ext G1 H1 G2 H2)(h:Md K H0 H G1 H1 v w d):Md K H0 H G2 H2 v w d:=by
 cases d with
 |V=>show Rep.same x.gg h
 |U=>show Rep.same (B4 x.gg) h
 | F=>
  cases w with
  |lst ws=>obtain ⟨a,vs,e,h1,h2,I,r⟩:=h;show ⟨a,vs,e,x.hh _ _ h1,x.keep _ _ h1 rfl h2,I,r.same x.gg⟩
  |non=>show Rep.same x.gg h
  |bl _=>show Rep.same x.gg h
  |int _=>show Rep.same x.gg h
  |str _=>show Rep.same x.gg h
  |ty _=>show Rep.same x.gg h
  |tup _=>show Rep.same x.gg h
  |scr _=>show Rep.same x.gg h
  |exc _ _=>show Rep.same x.gg h
  |cls _=>show Rep.same x.gg h
 | C=>
  rcases h with h|⟨a,vs,ws,e,e2,h1,r⟩
  .show .inl (h.same x.gg)
  .show .inr ⟨a,vs,ws,e,e2,x.hh _ _ h1,r.same x.gg⟩
 | B=>
  rcases h with h|⟨a,vs,ws,e,e2,h1,r⟩
  .show .inl (h.same (B4 x.gg))
  .show .inr ⟨a,vs,ws,e,e2,x.hh _ _ h1,r.same x.gg⟩
def Md.CB (I:PIv K H0 G1 ρ σ H1)(h:Md K H0 H G1 H1 v w .C):Md K H0 H G1 H1 v w .B:=by
 rcases h with h|h
 .show .inl (h.same I.G_join)
 .show .inr h
def sca:W->Bool
 | .tup _=>false
 | .scr _=>false
 | .lst _=>false
 |_=>true
def Md.sca (hs:sca w=true)(r:∀F,Rep K F v w)(d:Mode):Md K H0 H G1 H1 v w d:=by
 cases d with
 |V=>show r _
 |U=>show r _
 |C=>show .inl (r _)
 |B=>show .inl (r _)
 |F=>cases w <;> first|show r _|cases hs
def Md.repB (h:Md K H0 H G1 H1 v w .B)(n:∀us,w≠.lst us):Rep K (join H0 G1) v w:=Or.elim h id λI=>by obtain ⟨_,_,us,_,e,_⟩:=I;show absurd e (n us)
def Md.repC (h:Md K H0 H G1 H1 v w .C)(n:∀us,w≠.lst us):Rep K G1 v w:=Or.elim h id λI=>by obtain ⟨_,_,us,_,e,_⟩:=I;show absurd e (n us)
def Md.lstB (I:PIv K H0 G1 ρ σ H1)(h:Md K H0 H G1 H1 v (.lst ws) .B):∃a vs,v=.ref a/\H1 a=some (.lst vs)/\Reps K (join H0 G1) vs ws:=by
 rcases h with h|⟨a,vs,us,e,e2,h1,r⟩
 .obtain ⟨a,vs,e,s,r⟩:=h.inv;show ⟨a,vs,e,I.join_H _ _ s,r⟩
 .rw[W.lst.inj e2];show ⟨a,vs,e,h1,r.same I.G_join⟩
def Md.scrB (I:PIv K H0 G1 ρ σ H1)(h:Md K H0 H G1 H1 v (.scr ws) .B):∃a vs,v=.ref a/\SqL K H1 a vs/\Reps K (join H0 G1) vs ws:=by
 obtain ⟨a,vs,e,s,r⟩:=(h.repB λ_=>W.noConfusion).inv;show ⟨a,vs,e,Same.seq I.join_H s,r⟩
def Md.lstC (I:PIv K H0 G1 ρ σ H1)(h:Md K H0 H G1 H1 v (.lst ws) .C):∃a vs,v=.ref a/\H1 a=some (.lst vs)/\Reps K G1 vs ws:=by
 rcases h with h|⟨a,vs,us,e,e2,h1,r⟩
 .obtain ⟨a,vs,e,s,r⟩:=h.inv;show ⟨a,vs,e,I.gh _ _ s,r⟩
 .rw[W.lst.inj e2];show ⟨a,vs,e,h1,r⟩
def Md.tupB (I:PIv K H0 G1 ρ σ H1)(h:Md K H0 H G1 H1 v (.tup ws) .B):∃a vs,v=.ref a/\H1 a=some (.tup vs)/\Reps K (join H0 G1) vs ws:=by
 obtain ⟨a,vs,e,s,r⟩:=(h.repB λ_=>W.noConfusion).inv;show ⟨a,vs,e,I.join_H _ _ s,r⟩
def Md.tupC (I:PIv K H0 G1 ρ σ H1)(h:Md K H0 H G1 H1 v (.tup ws) .C):∃a vs,v=.ref a/\H1 a=some (.tup vs)/\Reps K G1 vs ws:=by
 obtain ⟨a,vs,e,s,r⟩:=(h.repC λ_=>W.noConfusion).inv;show ⟨a,vs,e,I.gh _ _ s,r⟩
def Md.intB (h:Md K H0 H G1 H1 v (.int i) .B):v=.int i:=(h.repB λ_=>W.noConfusion).inv
def Md.blB (h:Md K H0 H G1 H1 v (.bl i) .B):v=.bl i:=(h.repB λ_=>W.noConfusion).inv
def Md.strB (h:Md K H0 H G1 H1 v (.str i) .B):v=.str i:=(h.repB λ_=>W.noConfusion).inv
def Md.nonB (h:Md K H0 H G1 H1 v .non .B):v=.non:=(h.repB λ_=>W.noConfusion).inv
def Md.tyB (h:Md K H0 H G1 H1 v (.ty n) .B):v=.ty n:=(h.repB λ_=>W.noConfusion).inv
def Bv (h:tM K EX .V m σ H Q):tM K EX .F m σ H Q:=by
 obtain ⟨H0,G,ρ,I,o⟩:=h;refine ⟨H0,G,ρ,I,?_⟩
 revert o
 cases m ρ with
 |ex e=>show id
 |stuck=>show id
 | ok w=>
  intro o v G' H' e d;cases w with
  | lst ws=>
   obtain ⟨a,vs,rfl,h1,h2,h3,r⟩:=d;have s1:Same G' (upd G' a (.lst vs)):=λb o q=>by rw[d8 (e9 q h2)];show q
   refine o _ (upd G' a (.lst vs)) H' ⟨e.gg.trans s1,e.hh,λb o q=>?_,λb o q l g=>?_⟩ (.lst j6 (r.same s1))
   .by_cases hb:b=a
    .subst hb;rw[j6]at q;cases q;show h1
    .rw[d8 hb]at q;show e.gh b o q
   .rw[d8 (e9 q h3)];show e.keep b o q l g
  |_=>show o v G' H' e d
def Bs (h:tM K EX .U m σ H Q):tM K EX .V m σ H Q:=by
 obtain ⟨H0,G,ρ,I,o⟩:=h;refine ⟨H0,G,ρ,I,?_⟩
 revert o
 cases m ρ with
 |ex e=>show id
 |stuck=>show id
 |ok w=>show λo v G' H' e d=>o v G' H' e (Rep.same (I.ext e).G_join d)
def Bt (h:tM K EX .C m σ H Q):tM K EX .V m σ H Q:=by
 obtain ⟨H0,G,ρ,I,o⟩:=h;refine ⟨H0,G,ρ,I,?_⟩
 revert o
 cases m ρ with
 |ex e=>show id
 |stuck=>show id
 |ok w=>show λo v G' H' e d=>o v G' H' e (.inl d)
def Bu (h:tM K EX .B m σ H Q):tM K EX .U m σ H Q:=by
 obtain ⟨H0,G,ρ,I,o⟩:=h;refine ⟨H0,G,ρ,I,?_⟩
 revert o
 cases m ρ with
 |ex e=>show id
 |stuck=>show id
 |ok w=>show λo v G' H' e d=>o v G' H' e (.inl d)
def Bx (h:tM K EX .B m σ H Q):tM K EX .C m σ H Q:=by
 obtain ⟨H0,G,ρ,I,o⟩:=h;refine ⟨H0,G,ρ,I,?_⟩
 revert o
 cases m ρ with
 |ex e=>show id
 |stuck=>show id
 |ok w=>show λo v G' H' e d=>o v G' H' e (Md.CB (H:=H) (I.ext e) d)
def Bw (h:tM K EX .C m σ H Q):tM K EX .F m σ H Q:=by
 obtain ⟨H0,G,ρ,I,o⟩:=h;refine ⟨H0,G,ρ,I,?_⟩
 revert o
 cases m ρ with
 |ex e=>show id
 |stuck=>show id
 | ok w=>
  intro o v G' H' e d;cases w with
  |lst ws=>obtain ⟨a,vs,rfl,h1,h2,h3,r⟩:=d;show o _ G' H' e (.inr ⟨a,vs,ws,rfl,rfl,h1,r⟩)
  |_=>show o v G' H' e (.inl d)
def chk (w:W):R W:=if noL w then .ok w else .stuck
def qU (n:noL w=true)(r:Rep K G1 v w):Md K H0 H G1 H1 v w .F:=by
 cases w with
 |lst ws=>cases n
 |_=>show r
def Le:=@Ext.refl
def Lg:=@Out.bind
def mZ (hd:d=.F\/d=.V)(h:tM K EX d (λρ=>m ρ>>=chk) σ H Q):tM K EX .U m σ H Q:=by
 obtain ⟨H0,G,ρ,I,o⟩:=h;refine ⟨H0,G,ρ,I,Lg o λx G1 H1 w e m1 o1=>?_⟩;unfold chk at o1;by_cases n:noL w=true
 .rw [qA2 n]at o1
  have r:=Rep.clean (I.ext e) m1 n;refine o1 x G1 H1 (Le e.gh) ?_;rcases hd with rfl|rfl
  .show qU n r
  .show r
 .rw[qA4 n]at o1;show o1.elim
def bQ (hs:sca w=true)(r:∀F,Rep K F v w)(h:tM K EX d (λ_=>.ok w) σ H Q):tC v σ H Q:=by
 obtain ⟨H0,G,ρ,I,o⟩:=h;show o v G H (Le I.gh) (Md.sca hs r d)
def b7 (d:Mode)(i:Nat):Rho->R W:=λρ=>match ρ[i]? with
 |some (.val w)=>(match d with | .F=>chk w|_=>.ok w)
 |some (.par w)=>(match d with | .F=>chk w | .V=>chk w | .C=>chk w|_=>.ok w)
 |some (.own ws)=>(match d with | .C=>.ok (.lst ws) | .B=>.ok (.lst ws)|_=>.stuck)
 |some (.iop _ ws)=>(match d with | .B=>.ok (.lst ws) | .U=>.ok (.lst ws)|_=>.stuck)
 |some (.hz w)=>(match d with | .B=>.ok w | .U=>.ok w|_=>.stuck)
 |_=>.stuck
def Out.chk {v:V}{md:W->α->Hp->Hp->Prop}(o:Out EX G H md (chk w) Q):noL w=true/\Out EX G H md (.ok w) Q:=by
 unfold TP.chk at o;by_cases n:noL w=true
 .rw[qA2 n]at o;show ⟨n,o⟩
 .rw[qA4 n]at o;show o.elim
def rO (h:tM K EX d (b7 d i) σ H Q):V3 i σ H Q:=by
 obtain ⟨H0,G,ρ,I,o⟩:=h;unfold b7 at o;cases e:ρ[i]? with
 |none=>rw[e]at o;show o.elim
 | some s=>
  rw[e]at o;have hi:i<σ.length:=by rw[<- I.len];show (qA6.mp e).1
  have es:σ[i]?=some σ[i]:=ZW;have r:=I.sl i s _ e es;cases s with
  |un=>show o.elim
  | val w=>
   obtain ⟨v,ev,r⟩:=r;refine ⟨v,by rw[es,ev],?_⟩;cases d with
   |F=>obtain ⟨n,o⟩:=Out.chk (v:=v) o;show o v G H (Le I.gh) (qU n r)
   |V=>show o v G H (Le I.gh) r
   |U=>show o v G H (Le I.gh) (r.same I.G_join)
   |C=>show o v G H (Le I.gh) (.inl r)
   |B=>show o v G H (Le I.gh) (.inl (r.same I.G_join))
  | par w=>
   obtain ⟨v,ev,r⟩:=r;refine ⟨v,by rw[es,ev],?_⟩;cases d with
   |F=>obtain ⟨n,o⟩:=Out.chk (v:=v) o;show o v G H (Le I.gh) (qU n (Rep.clean I r n))
   |V=>obtain ⟨n,o⟩:=Out.chk (v:=v) o;show o v G H (Le I.gh) (Rep.clean I r n)
   |U=>show o v G H (Le I.gh) r
   |C=>obtain ⟨n,o⟩:=Out.chk (v:=v) o;show o v G H (Le I.gh) (.inl (Rep.clean I r n))
   |B=>show o v G H (Le I.gh) (.inl r)
  | own ws=>
   obtain ⟨a,vs,ev,ha,hg,h0,r⟩:=r;refine ⟨.ref a,by rw[es,ev],?_⟩;cases d with
   |F=>show o.elim
   |V=>show o.elim
   |U=>show o.elim
   |C=>show o _ G H (Le I.gh) (.inr ⟨a,vs,ws,rfl,rfl,ha,r⟩)
   |B=>show o _ G H (Le I.gh) (.inr ⟨a,vs,ws,rfl,rfl,ha,r⟩)
  |dic ks=>show o.elim
  |dik ks=>show o.elim
  | hz w=>
   obtain ⟨v,ev,r⟩:=r;refine ⟨v,by rw[es,ev],?_⟩;have rj:=r.same (B4 (H0:=H0) (xt (G:=G)));cases d with
   |F=>show o.elim
   |V=>show o.elim
   |C=>show o.elim
   |U=>show o v G H (Le I.gh) rj
   |B=>show o v G H (Le I.gh) (.inl rj)
  | iop p ws=>
   obtain ⟨ev,vs,h0,r⟩:=r;refine ⟨.ref p,by rw[es,ev],?_⟩;have rj:Rep K (join H0 G) (.ref p) (.lst ws):=by
    refine .lst (vs:=vs) ?_ (r.same I.G_join);unfold join;rw[h0];rfl
   cases d with
   |F=>show o.elim
   |V=>show o.elim
   |U=>show o _ G H (Le I.gh) rj
   |C=>show o.elim
   |B=>show o _ G H (Le I.gh) (.inl rj)
def Op2 (K:Frag)(b d:Mode)(r:R2)(f:W->W->R W):Prop:=∀(EX:EXT) (H0 Hs G H:Hp) (ρ:Rho) (σ:St) (I Hb:Hp) (x y:V) (u v:W) (Q:VK),PIv K H0 G ρ σ H->Same Hs H->Md K H0 I G H x u b->Md K H0 Hb G H y v b ->
 Out EX G H (mdW K d H0 Hs) (f u v) Q->r x y H Q
def oa (hr:Op2 K b d r f)(h:tM K EX d (λρ=>ma ρ>>=λx=>mb ρ>>=λy=>f x y) σ H Q):tOp r (tM K EX b ma) (tM K EX b mb) σ H Q:=by
 obtain ⟨H0,G,ρ,I,o⟩:=h;refine ⟨H0,G,ρ,I,Lg o λx G1 H1 u e1 m1 o1=>⟨H0,G1,ρ,I.ext e1,Lg o1 λy G2 H2 v e2 m2 o2=>?_⟩⟩;show hr EX H0 H G2 H2 ρ σ H H1 x y u v Q ((I.ext e1).ext e2) (e1.hh.trans e2.hh) (m1.move e2) m2 o2
def Op1 (K:Frag)(b d:Mode)(r:V->Hp->VK->Prop)(f:W->R W):Prop:=∀(EX:EXT) (H0 Hs G H:Hp) (ρ:Rho) (σ:St) (I:Hp) (x:V) (u:W) (Q:VK),PIv K H0 G ρ σ H->Same Hs H->Md K H0 I G H x u b ->
 Out EX G H (mdW K d H0 Hs) (f u) Q->r x H Q
def c_un (hr:Op1 K b d r f)(h:tM K EX d (λρ=>ma ρ>>=λx=>f x) σ H Q):tUn r (tM K EX b ma) σ H Q:=by
 obtain ⟨H0,G,ρ,I,o⟩:=h;show ⟨H0,G,ρ,I,Lg o λx G1 H1 u e1 m1 o1=>hr EX H0 H G1 H1 ρ σ H x u Q (I.ext e1) e1.hh m1 o1⟩
def fI (C:Int->Int->Prop)[∀i j,Decidable (C i j)](g:Int->Int->W):W->W->R W
 | .int i,.int j=>if C i j then .ok (g i j) else .stuck
 |_,_=>.stuck
def fI0 (g:Int->Int->W):W->W->R W
 | .int i,.int j=>.ok (g i j)
 |_,_=>.stuck
def j9 [∀i j,Decidable (C i j)](hs:∀i j,sca (g i j)=true)(hg:∀i j F,Rep K F (gv i j) (g i j)):Op2 K .B d (rI C gv) (fI C g):=by
 intro EX H0 Hs G H ρ σ Ha Hb x y u v Q I s mx my o;cases u <;> first|show o.elim|skip
 all_goals (cases v <;> first|show o.elim|skip)
 rename_i i j
 have o':Out EX G H (mdW K d H0 Hs) (if C i j then R.ok (g i j) else .stuck) Q:=o;by_cases c:C i j
 .rw [qA2 c]at o'
  show ⟨i,j,mx.intB,my.intB,c,o' _ G H (Le I.gh) (Md.sca (hs i j) (hg i j) d)⟩
 .rw[qA4 c]at o';show o'.elim
def ln (hs:∀i j,sca (g i j)=true)(hg:∀i j F,Rep K F (gv i j) (g i j)):Op2 K .B d (rI0 gv) (fI0 g):=by
 intro EX H0 Hs G H ρ σ Ha Hb x y u v Q I s mx my o;cases u <;> first|show o.elim|skip
 all_goals (cases v <;> first|show o.elim|skip)
 rename_i i j
 show ⟨i,j,mx.intB,my.intB,o _ G H (Le I.gh) (Md.sca (hs i j) (hg i j) d)⟩
def fU (g:Int->W):W->R W
 | .int i=>.ok (g i)
 |_=>.stuck
def Z4 (hs:∀i,sca (g i)=true)(hg:∀i F,Rep K F (gv i) (g i)):Op1 K .B d (rU gv) (fU g):=by
 intro EX H0 Hs G H ρ σ Ha x u Q I s mx o;cases u <;> first|show o.elim|skip
 rename_i i
 show ⟨i,mx.intB,o _ G H (Le I.gh) (Md.sca (hs i) (hg i) d)⟩
def isN:W->Bool
 | .non=>true
 |_=>false
def ai (neg:Bool):W->W->R W
 |u,.non=>.ok (.bl (if neg then !isN u else isN u))
 |_,_=>.stuck
def uZ (hb:b=.B\/b=.U\/b=.V\/b=.C)(h:Md K H0 Hs G1 H1 v w b):decide (v=.non)=isN w:=by
 have key:∀F,Rep K F v w->decide (v=.non)=isN w:=λF r=>by
  cases r <;> first|rfl | (apply qQ6;intro z;cases z)
 rcases hb with rfl|rfl|rfl|rfl
 .rcases h with h|⟨a,vs,ws,rfl,rfl,_⟩
  .show key _ h
  .apply qQ6;intro z;cases z
 .show key _ h
 .show key _ h
 .rcases h with h|⟨a,vs,ws,rfl,rfl,_⟩
  .show key _ h
  .apply qQ6;intro z;cases z
def gY:Op2 K .B d (λx y H Q=>y=.non/\Q (.bl (decide (x=.non))) H) (ai false):=by
 intro EX H0 Hs G H ρ σ Ha Hb x y u v Q I s mx my o;cases v <;> first|show o.elim|skip
 refine ⟨my.nonB,?_⟩;rw[uZ (.inl rfl) mx];show o _ G H (Le I.gh) (Md.sca rfl (λ_=>.bl) d)
def eQ:Op2 K .B d (λx y H Q=>y=.non/\Q (.bl (!decide (x=.non))) H) (ai true):=by
 intro EX H0 Hs G H ρ σ Ha Hb x y u v Q I s mx my o;cases v <;> first|show o.elim|skip
 refine ⟨my.nonB,?_⟩;rw[uZ (.inl rfl) mx];show o _ G H (Le I.gh) (Md.sca rfl (λ_=>.bl) d)
def toB:W->R Bool
 | .bl b=>.ok b
 |_=>.stuck
def vM (h:tT K EX (λρ=>ma ρ>>=toB) σ H Q):yQ (tM K EX .B ma) σ H Q:=by
 obtain ⟨H0,G,ρ,I,o⟩:=h;refine ⟨H0,G,ρ,I,Lg o λx G1 H1 u e1 m1 o1=>?_⟩;cases u <;> first|show o1.elim|skip
 rename_i b
 show ⟨b,m1.blB,o1 b G1 H1 (Le e1.gh) rfl⟩
def c_tB (h:tT K EX (λρ=>ma ρ>>=toB) σ H Q):tB (tM K EX .B ma) σ H Q:=vM h
def rAnd (a b:R Bool):R Bool:=a>>=λc=>if c then b else .ok false
def rOr (a b:R Bool):R Bool:=a>>=λc=>if c then .ok true else b
def qI (a:R Bool):R Bool:=a>>=λc=>.ok (!c)
def Kq (h:tT K EX (λρ=>rAnd (ma ρ) (mb ρ)) σ H Q):DI (tT K EX ma) (tT K EX mb) σ H Q:=by
 obtain ⟨H0,G,ρ,I,o⟩:=h;refine ⟨H0,G,ρ,I,Lg o λx G1 H1 u e1 m1 o1=>?_⟩;cases m1;cases x with
 |true=>show ⟨H0,G1,ρ,I.ext e1,o1⟩
 |false=>show o1 false G1 H1 (Le e1.gh) rfl
def c_or (h:tT K EX (λρ=>rOr (ma ρ) (mb ρ)) σ H Q):tOr (tT K EX ma) (tT K EX mb) σ H Q:=by
 obtain ⟨H0,G,ρ,I,o⟩:=h;refine ⟨H0,G,ρ,I,Lg o λx G1 H1 u e1 m1 o1=>?_⟩;cases m1;cases x with
 |true=>show o1 true G1 H1 (Le e1.gh) rfl
 |false=>show ⟨H0,G1,ρ,I.ext e1,o1⟩
def Ke (h:tT K EX (λρ=>qI (ma ρ)) σ H Q):DC (tT K EX ma) σ H Q:=by
 obtain ⟨H0,G,ρ,I,o⟩:=h;refine ⟨H0,G,ρ,I,Lg o λx G1 H1 u e1 m1 o1=>?_⟩;cases m1;show o1 _ G1 H1 (Le e1.gh) rfl
def eM (a b:R W):R W:=a>>=λx=>toB x>>=λc=>if c then b else .ok (.bl false)
def mF (a b:R W):R W:=a>>=λx=>toB x>>=λc=>if c then .ok (.bl true) else b
def kZ (a:R W):R W:=a>>=λx=>toB x>>=λc=>.ok (.bl (!c))
def IC (h:tM K EX d (λρ=>eM (ma ρ) (mb ρ)) σ H Q):yT (tM K EX .B ma) (tM K EX d mb) σ H Q:=by
 obtain ⟨H0,G,ρ,I,o⟩:=h;refine ⟨H0,G,ρ,I,Lg o λx G1 H1 u e1 m1 o1=>?_⟩;cases u <;> first|show o1.elim|skip
 rename_i b
 refine ⟨b,m1.blB,?_⟩;cases b with
 | true=>
  rw[qA2 rfl];refine ⟨H0,G1,ρ,I.ext e1,?_⟩;have o2:Out EX G1 H1 (mdW K d H0 H) (mb ρ) Q:=o1
  revert o2
  cases mb ρ with
  |ok w=>show λo2 v G2 H2 e2 m2=>o2 v G2 H2 e2 (m2.start e1.hh)
  |ex _=>show id
  |stuck=>show id
 | false=>
  rw[qA4 qA3];show o1 _ G1 H1 (Le e1.gh) (Md.sca rfl (λ_=>.bl) d)
def Ip (h:tM K EX d (λρ=>kZ (ma ρ)) σ H Q):yS (tM K EX .B ma) σ H Q:=by
 obtain ⟨H0,G,ρ,I,o⟩:=h;refine ⟨H0,G,ρ,I,Lg o λx G1 H1 u e1 m1 o1=>?_⟩;cases u <;> first|show o1.elim|skip
 rename_i b
 show ⟨b,m1.blB,o1 _ G1 H1 (Le e1.gh) (Md.sca rfl (λ_=>.bl) d)⟩
def Out.restart {Q:VK}(s:Same H H1)(o:Out EX G1 H1 (mdW K d H0 H) r Q):Out EX G1 H1 (mdW K d H0 H1) r Q:=by
 revert o
 cases r with
 |ok w=>show λo v G2 H2 e2 I=>o v G2 H2 e2 (I.start s)
 |ex _=>show id
 |stuck=>show id
def c_if (h:tM K EX d (λρ=>mc ρ>>=λc=>if c then ma ρ else mb ρ) σ H Q):tIf (tT K EX mc) (tM K EX d ma) (tM K EX d mb) σ H Q:=by
 obtain ⟨H0,G,ρ,I,o⟩:=h;refine ⟨H0,G,ρ,I,Lg o λx G1 H1 u e1 m1 o1=>?_⟩;cases m1;cases x with
 |true=>show ⟨H0,G1,ρ,I.ext e1,Out.restart e1.hh o1⟩
 |false=>show ⟨H0,G1,ρ,I.ext e1,Out.restart e1.hh o1⟩
def Kf (h:tA K EX d (λ_=>.ok []) σ H QA):tNil σ H QA:=by
 obtain ⟨H0,G,ρ,I,o⟩:=h;show o [] G H (Le I.gh) .nil
def Iy (h:tA K EX d (λρ=>ma ρ>>=λx=>mr ρ>>=λxs=>.ok (x::xs)) σ H QA):qC (tM K EX d ma) (tA K EX d mr) σ H QA:=by
 obtain ⟨H0,G,ρ,I,o⟩:=h;refine ⟨H0,G,ρ,I,Lg o λx G1 H1 u e1 m1 o1=>⟨H0,G1,ρ,I.ext e1,Lg o1 λxs G2 H2 us e2 m2 o2=>?_⟩⟩;refine o2 (x::xs) G2 H2 (Le e2.gh) (.cons (m1.move e2) ?_);have go:∀{ws:Zp}{vs:List V},MdA K d H0 H1 G2 H2 ws vs->MdA K d H0 H G2 H2 ws vs:=λ{ws vs} q=>by
  induction q with
  |nil=>show .nil
  |cons a _ ih=>show .cons (a.start e1.hh) ih
 show go m2
def MdA.reps (h:MdA K .V H0 H G1 H1 ws vs):Reps K G1 vs ws:=
 @MdA.rec K .V H0 H G1 H1 (λws vs _=>Reps K G1 vs ws) .nil (λh _ b=>.cons h b) ws vs h
def MdA.repsU (h:MdA K .U H0 H G1 H1 ws vs):Reps K (join H0 G1) vs ws:=
 @MdA.rec K .U H0 H G1 H1 (λws vs _=>Reps K (join H0 G1) vs ws) .nil (λh _ b=>.cons h b) ws vs h
def Bp (I:Same G H)(hp:H p=none):Ext G H G (upd H p o):=
 ⟨Lf G,λb u q=>by rw[d8 (e9 q hp)];show q,λb u q=>by rw[d8 (e9 (I b u q) hp)];show I b u q,λ_ _ _ _ e=>e⟩
def fZ (hG:Same G H)(I:H p=none):Ext G H (upd G p o) (upd H p o):=by
 have gp:G p=none:=hG.free I;refine ⟨λb u q=>by rw[d8 (e9 q gp)];show q,λb u q=>by rw[d8 (e9 q I)];show q,λb u q=>?_,λb u q l g=>?_⟩
 .by_cases hb:b=p
  .subst hb;rw[j6]at q ⊢;show q
  .rw[d8 hb]at q ⊢;show hG b u q
 .rw[d8 (e9 q I)];show g
def Out.newL {Q:VK}(I:PIv K H0 G ρ σ H)(s:Same Hs H)(r:Reps K G vs ws)(hp:H p=none)(o:Out EX G H (mdW K .F H0 Hs) (.ok (.lst ws)) Q):Q (.ref p) (upd H p (.lst vs)):=
 o _ G _ (Bp I.gh hp) ⟨p,vs,rfl,j6,I.gh.free hp,s.free hp,r⟩
def Out.newTF {Q:VK}(I:PIv K H0 G ρ σ H)(r:Reps K G vs ws)(hp:H p=none)(o:Out EX G H (mdW K .F H0 Hs) (.ok (.tup ws)) Q):Q (.ref p) (upd H p (.tup vs)):=
 o _ (upd G p (.tup vs)) _ (fZ I.gh hp) (.tup j6 (r.same λb u q=>by rw[d8 (e9 q (I.gh.free hp))];show q))
def lim (n:Nat)(w:W):R W:=if n<=1000 then .ok w else .stuck
def Out.lim {md:W->α->Hp->Hp->Prop}(o:Out EX G H md (lim n w) Q):n<=1000/\Out EX G H md (.ok w) Q:=by
 unfold TP.lim at o;by_cases n:n<=1000
 .rw[qA2 n]at o;show ⟨n,o⟩
 .rw[qA4 n]at o;show o.elim
def Y1 (h:n<=1000):n<=sizeLine:=qA8 h ZU
def Ka (h:tM K EX .F (λρ=>ma ρ>>=λws=>lim ws.length (.tup ws)) σ H Q):wu (tA K EX .V ma) σ H Q:=by
 obtain ⟨H0,G,ρ,I,o⟩:=h;refine ⟨H0,G,ρ,I,Lg o λxs G1 H1 ws e1 m1 o1=>?_⟩;obtain ⟨hl,o2⟩:=Out.lim o1;have r:=MdA.reps m1;show ⟨by rw[r.length];show Y1 hl,λp hp=>Out.newTF (I.ext e1) r hp o2⟩
def Kg (h:tM K EX .F (λρ=>ma ρ>>=λws=>lim ws.length (.lst ws)) σ H Q):DD (tA K EX .V ma) σ H Q:=by
 obtain ⟨H0,G,ρ,I,o⟩:=h;refine ⟨H0,G,ρ,I,Lg o λxs G1 H1 ws e1 m1 o1=>?_⟩;obtain ⟨hl,o2⟩:=Out.lim o1;have r:=MdA.reps m1;show ⟨by rw[r.length];show Y1 hl,λp hp=>Out.newL (I.ext e1) e1.hh r hp o2⟩
def nG (h:H0 p=none):join H0 (upd G p o)=upd (join H0 G) p o:=by
 funext b
 by_cases hb:b=p
 .subst hb;unfold join;rw[h];dsimp only;rw[j6,j6]
 .rw [d8 hb];unfold join;cases H0 b with
  |none=>dsimp only;rw[d8 hb]
  |some u=>dsimp only;rw[d8 hb]
def Ij (h:tM K EX .U (λρ=>ma ρ>>=λws=>lim ws.length (.tup ws)) σ H Q):wu (tA K EX .U ma) σ H Q:=by
 obtain ⟨H0,G,ρ,I,o⟩:=h;refine ⟨H0,G,ρ,I,Lg o λxs G1 H1 ws e1 m1 o1=>?_⟩;obtain ⟨hl,o2⟩:=Out.lim o1;have r:=MdA.repsU m1;have I1:=I.ext e1;refine ⟨by rw[r.length];show Y1 hl,λp hp=>o2 _ (upd G1 p (.tup xs)) _ (fZ I1.gh hp) ?_⟩
 change Rep K (join H0 (upd G1 p (.tup xs))) _ _;rw[nG (I1.hh.free hp)];show .tup j6 (r.same λb u q=>by rw[d8 (e9 (I1.join_H b u q) hp)];show q)
inductive Fl where
 |nx (ρ:Rho)|rt (w:W)|bk (ρ:Rho)|ct (ρ:Rho)
abbrev ZJ:=W->Rho->Option Rho
abbrev ZZ:=Rho->R Bool
abbrev ZQ:=Rho->R Zp
abbrev Zg:=Rho->R Fl
abbrev Zo:=Rho->R W
def OutS (K:Frag)(EX:EXT)(d:Mode)(H0 G:Hp)(r:R Fl)(D:Ends):Prop:=match r with
 | .ok (.nx ρ)=>∀G' I H',Same G G'->PIv K H0 G' ρ I H'->D.nx I H'
 | .ok (.bk ρ)=>∀G' I H',Same G G'->PIv K H0 G' ρ I H'->D.bk I H'
 | .ok (.ct ρ)=>∀G' I H',Same G G'->PIv K H0 G' ρ I H'->D.ct I H'
 | .ok (.rt w)=>∀v G' H',Same G G'->Same G' H'->Same H0 H'->(∀a o,H0 a=some o->isL o=true->G' a=none)->Md K H0 H0 G' H' v w d->D.rt v H'
 | .ex e=>∀H',Same H0 H'->EX e H'
 | .stuck=>False
def tSt (K:Frag)(EX:EXT)(d:Mode)(m:Zg):TS:=λD σ H=>∃H0 G ρ,PIv K H0 G ρ σ H/\OutS K EX d H0 G (m ρ) D
def OutS.move (s:Same G G1)(o:OutS K EX d H0 G r D):OutS K EX d H0 G1 r D:=by
 cases r with
 |stuck=>show o
 |ex e=>show o
 | ok f=>
  cases f with
  |nx a3=>show λG' I H' s' I'=>o G' I H' (s.trans s') I'
  |bk a3=>show λG' I H' s' I'=>o G' I H' (s.trans s') I'
  |ct a3=>show λG' I H' s' I'=>o G' I H' (s.trans s') I'
  |rt w=>show λv G' H' s0 s1 s2 c md=>o v G' H' (s.trans s0) s1 s2 c md
def OutS.bind {md:α->β->Hp->Hp->Prop}(I:PIv K H0 G ρ σ H)(o:OutS K EX d H0 G (m>>=k) D)(h:∀x G1 H1 w,Ext G H G1 H1->md w x G1 H1->OutS K EX d H0 G1 (k w) D->Q1 x H1):Out EX G H md m Q1:=by
 cases m with
 |ok w=>show λv G' H' e q=>h v G' H' w e q (OutS.move e.gg o)
 |ex e=>show λH' s=>o H' (I.hh.trans s)
 |stuck=>show o
def d0 (m n:Zg):Zg:=λρ=>m ρ>>=λf=>match f with
 | .nx I=>n I
 | .rt w=>.ok (.rt w)
 | .bk I=>.ok (.bk I)
 | .ct I=>.ok (.ct I)
def Iq (h:tSt K EX d (λρ=>.ok (.nx ρ)) D σ H):tNext D σ H:=by
 obtain ⟨H0,G,ρ,I,o⟩:=h;show o G σ H (Lf G) I
def Kc (h:tSt K EX d (d0 m n) D σ H):Dz (tSt K EX d m) (tSt K EX d n) D σ H:=by
 obtain ⟨H0,G,ρ,I,o⟩:=h;refine ⟨H0,G,ρ,I,?_⟩;unfold d0 at o
 revert o
 cases m ρ with
 |stuck=>show id
 |ex e=>show id
 | ok f=>
  cases f with
  |nx a3=>show λo G' a4 H' s' I'=>⟨H0,G',a3,I',OutS.move s' o⟩
  |_=>show id
def Ix (h:tSt K EX d (λρ=>.ok (.ct ρ)) D σ H):tCont D σ H:=by
 obtain ⟨H0,G,ρ,I,o⟩:=h;show o G σ H (Lf G) I
def CM (h:tSt K EX d (λ_=>.stuck) D σ H):tNever D σ H:=by
 obtain ⟨H0,G,ρ,I,o⟩:=h;show o
def zI (h:tSt K EX d (λρ=>m ρ>>=λw=>.ok (.rt w)) D σ H):qA (tM K EX d m) D σ H:=by
 obtain ⟨H0,G,ρ,I,o⟩:=h;refine ⟨H0,G,ρ,I,OutS.bind I o λx G1 H1 w e1 m1 o1=>?_⟩;have I1:=I.ext e1;show o1 x G1 H1 (Lf _) e1.gh I1.hh I1.gl (m1.start I.hh)
def v9 (d:Mode)(i:Nat):Zg:=λρ=>match ρ[i]? with
 |some (.own ws)=>.ok (.rt (.lst ws))
 |_=>b7 d i ρ>>=λw=>.ok (.rt w)
def yC (hd:d=.F\/d=.V)(h:tSt K EX d (v9 d i) D σ H):qA (V3 i) D σ H:=by
 obtain ⟨H0,G,ρ,I,o⟩:=h;unfold v9 at o;by_cases ho:∃ws,ρ[i]?=some (.own ws)
 .obtain ⟨ws,e⟩:=ho;rw[e]at o;have hi:i<σ.length:=by rw[<- I.len];show (qA6.mp e).1
  have es:σ[i]?=some σ[i]:=ZW;obtain ⟨a,vs,ev,ha,hg,h0,r⟩:=I.sl i _ _ e es;refine ⟨.ref a,by rw[es,ev],?_⟩;rcases hd with rfl|rfl
  .show o _ G H (Lf _) I.gh I.hh I.gl ⟨a,vs,rfl,ha,hg,h0,r⟩
  .have s1:Same G (upd G a (.lst vs)):=λb o q=>by rw[d8 (e9 q hg)];show q
   refine o _ (upd G a (.lst vs)) H s1 (λb o q=>?_) I.hh (λb u q l=>?_) (.lst j6 (r.same s1))
   .by_cases hb:b=a
    .subst hb;rw[j6]at q;cases q;show ha
    .rw[d8 hb]at q;show I.gh b o q
   .rw[d8 (e9 q h0)];show I.gl b u q l
 .have o':OutS K EX d H0 G (b7 d i ρ>>=λw=>.ok (.rt w)) D:=by
   revert o
   split
   .rename_i ws e;show absurd ⟨ws,e⟩ ho
   .show id
  have c:qA (tM K EX d (b7 d i)) D σ H:=zI (m:=b7 d i) ⟨H0,G,ρ,I,o'⟩;show rO c
def PIv.setV (I:PIv K H0 G ρ σ H)(r:Rep K G v w):PIv K H0 G (ρ.set i (.val w)) (σ.set i (some v)) H where
 g0:=I.g0
 gl:=I.gl
 gh:=I.gh
 hh:=I.hh
 len:=by rw[qD3,qD3];show I.len
 sl j x o h1 h2:=by
  by_cases hj:i=j
  .subst hj;rw[qC3]at h1 h2;simp only [qQ8]at h1 h2
   split at h1 <;> split at h2 <;> simp only [qF8,reduceCtorEq]at h1 h2
   subst h1;subst h2;show ⟨v,rfl,r⟩
  .rw[qB4 hj]at h1 h2;show I.sl j x o h1 h2
 ne a b ws us c hab h1 h2 h3 h4:=by
  have na:i≠a:=by
   rintro rfl;rw[qC3]at h1;simp only [qQ8]at h1
   split at h1 <;> simp at h1
  have nb:i≠b:=by
   rintro rfl;rw[qC3]at h2;simp only [qQ8]at h2
   split at h2 <;> simp at h2
  rw[qB4 na]at h1 h3;rw[qB4 nb]at h2 h4;show I.ne a b ws us c hab h1 h2 h3 h4
def PIv.setU (I:PIv K H0 G ρ σ H)(r:Rep K (join H0 G) v w):PIv K H0 G (ρ.set i (.par w)) (σ.set i (some v)) H where
 g0:=I.g0
 gl:=I.gl
 gh:=I.gh
 hh:=I.hh
 len:=by rw[qD3,qD3];show I.len
 sl j x o h1 h2:=by
  by_cases hj:i=j
  .subst hj;rw[qC3]at h1 h2;simp only [qQ8]at h1 h2
   split at h1 <;> split at h2 <;> simp only [qF8,reduceCtorEq]at h1 h2
   subst h1;subst h2;show ⟨v,rfl,r⟩
  .rw[qB4 hj]at h1 h2;show I.sl j x o h1 h2
 ne a b ws us c hab h1 h2 h3 h4:=by
  have na:i≠a:=by
   rintro rfl;rw[qC3]at h1;simp only [qQ8]at h1
   split at h1 <;> simp at h1
  have nb:i≠b:=by
   rintro rfl;rw[qC3]at h2;simp only [qQ8]at h2
   split at h2 <;> simp at h2
  rw[qB4 na]at h1 h3;rw[qB4 nb]at h2 h4;show I.ne a b ws us c hab h1 h2 h3 h4
def PIv.setO (I:PIv K H0 G ρ σ H)(ha:H a=some (.lst vs))(hg:G a=none)(h0:H0 a=none)(r:Reps K G vs ws)(nw:∀(j:Nat) (us:Zp),ρ[j]?=some (Sl.own us)->σ[j]?≠some (some (V.ref a))):PIv K H0 G (ρ.set i (.own ws)) (σ.set i (some (.ref a))) H where
 g0:=I.g0
 gl:=I.gl
 gh:=I.gh
 hh:=I.hh
 len:=by rw[qD3,qD3];show I.len
 sl j x o h1 h2:=by
  by_cases hj:i=j
  .subst hj;rw[qC3]at h1 h2;simp only [qQ8]at h1 h2
   split at h1 <;> split at h2 <;> simp only [qF8,reduceCtorEq]at h1 h2
   subst h1;subst h2;show ⟨a,vs,rfl,ha,hg,h0,r⟩
  .rw[qB4 hj]at h1 h2;show I.sl j x o h1 h2
 ne p q ws' us c hab h1 h2 h3 h4:=by
  by_cases hp:i=p
  .subst hp;rw[qB4 hab]at h2 h4;rw[qC3]at h3;simp only [qQ8]at h3
   split at h3 <;> simp only [qF8,reduceCtorEq,V.ref.injEq]at h3
   subst h3;show nw q us h2 h4
  .rw [qB4 hp]at h1 h3
   by_cases hq:i=q
   .subst hq;rw[qC3]at h4;simp only [qQ8]at h4
    split at h4 <;> simp only [qF8,reduceCtorEq,V.ref.injEq]at h4
    subst h4;show nw p ws' h1 h3
   .rw [qB4 hq]at h2 h4
    show I.ne p q ws' us c hab h1 h2 h3 h4
def P7:W->Sl
 | .lst ws=>.own ws
 |w=>.val w
def Ik (h:tSt K EX d (λρ=>m ρ>>=λw=>.ok (.nx (ρ.set i (.val w)))) D σ H):Y2 (tM K EX .V m) (L6 i) D σ H:=by
 obtain ⟨H0,G,ρ,I,o⟩:=h;show ⟨H0,G,ρ,I,OutS.bind I o λx G1 H1 w e1 m1 o1=>o1 G1 _ H1 (Lf _) ((I.ext e1).setV m1)⟩
def Il (h:tSt K EX d (λρ=>m ρ>>=λw=>.ok (.nx (ρ.set i (.par w)))) D σ H):Y2 (tM K EX .U m) (L6 i) D σ H:=by
 obtain ⟨H0,G,ρ,I,o⟩:=h;show ⟨H0,G,ρ,I,OutS.bind I o λx G1 H1 w e1 m1 o1=>o1 G1 _ H1 (Lf _) ((I.ext e1).setU m1)⟩
def vN (h:tSt K EX d (λρ=>m ρ>>=λw=>.ok (.nx (ρ.set i (P7 w)))) D σ H):Y2 (tM K EX .F m) (L6 i) D σ H:=by
 obtain ⟨H0,G,ρ,I,o⟩:=h;refine ⟨H0,G,ρ,I,OutS.bind I o λx G1 H1 w e1 m1 o1=>?_⟩;have I1:=I.ext e1;cases w with
 | lst ws=>
  obtain ⟨a,vs,rfl,h1,h2,h3,r⟩:=m1;refine o1 G1 _ H1 (Lf _) (I1.setO h1 h2 (I.hh.free h3) r λj us q z=>?_);obtain ⟨b,a3,eb,hb,_⟩:=I.sl j _ _ q z;cases eb;rw[h3]at hb;cases hb
 |non=>show o1 G1 _ H1 (Lf _) (I1.setV m1)
 |bl _=>show o1 G1 _ H1 (Lf _) (I1.setV m1)
 |int _=>show o1 G1 _ H1 (Lf _) (I1.setV m1)
 |str _=>show o1 G1 _ H1 (Lf _) (I1.setV m1)
 |ty _=>show o1 G1 _ H1 (Lf _) (I1.setV m1)
 |tup _=>show o1 G1 _ H1 (Lf _) (I1.setV m1)
 |scr _=>show o1 G1 _ H1 (Lf _) (I1.setV m1)
 |exc _ _=>show o1 G1 _ H1 (Lf _) (I1.setV m1)
 |cls _=>show o1 G1 _ H1 (Lf _) (I1.setV m1)
instance:DecidableEq Mode:=λa b=>by cases a <;> cases b <;> first|show isTrue rfl|show isFalse (by intro h;cases h)
def Gt (K:Frag)(e:Mode)(g:TG)(mg:ZJ):Prop:=∀(H0 Hs G:Hp) (ρ:Rho) (σ:St) (H:Hp) (v:V) (w:W) (a3:Rho) (Q:St->Hp->Prop),PIv K H0 G ρ σ H->Md K H0 Hs G H v w e->mg w ρ=some a3 ->
 (∀I,PIv K H0 G a3 I H->Q I H)->g v σ H Q
def Gts (K:Frag)(e:Mode)(g:TGs)(mg:List W->Rho->Option Rho):Prop:=∀(H0 G:Hp) (ρ:Rho) (σ:St) (H:Hp) (vs:List V) (ws:Zp) (a3:Rho) (Q:St->Hp->Prop),PIv K H0 G ρ σ H->Reps K (if e=.V then G else join H0 G) vs ws->mg ws ρ=some a3 ->
 (∀I,PIv K H0 G a3 I H->Q I H)->g vs σ H Q
def gN (e:Mode)(i:Nat):ZJ:=λw ρ=>some (ρ.set i (if e=.V then .val w else .par w))
def xV:Gt K .V (L6 i) (gN .V i):=λH0 Hs G ρ σ H v w a3 Q I m e h=>by
 cases e;show h _ (I.setV m)
def i7:Gt K .U (L6 i) (gN .U i):=λH0 Hs G ρ σ H v w a3 Q I m e h=>by
 cases e;show h _ (I.setU m)
def gsNil:List W->Rho->Option Rho
 | [],ρ=>some ρ
 |_,_=>none
def n8 (f:ZJ)(g:List W->Rho->Option Rho):List W->Rho->Option Rho
 |w::ws,ρ=>(f w ρ).bind (g ws)
 | [],_=>none
def D3:Gts K e gNil gsNil:=λH0 G ρ σ H vs ws a3 Q I r e h=>by
 cases r with
 |nil=>cases e;show ⟨rfl,h _ I⟩
 |cons _ _=>cases e
def k6 (he:e=.V\/e=.U)(h1:Gt K e t f)(h2:Gts K e u g):Gts K e (rD t u) (n8 f g):=λH0 G ρ σ H vs ws a4 Q I r q h=>by
 cases r with
 |nil=>cases q
 | cons a b=>
  unfold n8 at q;obtain ⟨a3,q1,q2⟩:=Option.bind_eq_some_iff.mp q;refine ⟨_,_,rfl,h1 H0 H G ρ σ H _ _ a3 _ I ?_ q1 λa5 I1=>h2 H0 G a3 a5 H _ _ a4 Q I1 b q2 h⟩;rcases he with rfl|rfl
  .show a
  .show a
def gT (n:Nat)(g:List W->Rho->Option Rho):W->Rho->Option Rho
 | .tup ws,ρ=>if ws.length=n then g ws ρ else none
 |_,_=>none
def J5 (he:e=.V\/e=.U)(h:Gts K e u g):Gt K e (rC K n u) (gT n g):=λH0 Hs G ρ σ H v w a3 Q I m q k=>by
 cases w <;> first|cases q|skip
 rename_i ws
 have q':(if ws.length=n then g ws ρ else none)=some a3:=q;by_cases hn:ws.length=n
 .rw [qA2 hn]at q'
  rcases he with rfl|rfl
  .obtain ⟨a,vs,e,s,r⟩:=Rep.inv m;show ⟨a,vs,e,SqT.of (I.gh _ _ s),by rw[r.length];show hn,h H0 G ρ σ H _ ws a3 Q I (by rw[qA2 rfl];show r) q' k⟩
  .obtain ⟨a,vs,e,s,r⟩:=Rep.inv m;show ⟨a,vs,e,SqT.of (I.join_H _ _ s),by rw[r.length];show hn,h H0 G ρ σ H _ ws a3 Q I (by rw[qA4 (by intro z;cases z)];show r) q' k⟩
 .rw[qA4 hn]at q';cases q'
def toR {α:Type}:Option α->R α
 |some a=>.ok a
 |none=>.stuck
def Ko (hg:Gt K e g mg)(h:tSt K EX d (λρ=>m ρ>>=λw=>toR (mg w ρ)>>=λa3=>.ok (.nx a3)) D σ H):Y2 (tM K EX e m) g D σ H:=by
 obtain ⟨H0,G,ρ,I,o⟩:=h;refine ⟨H0,G,ρ,I,OutS.bind I o λx G1 H1 w e1 m1 o1=>?_⟩;cases q:mg w ρ with
 |none=>rw[q]at o1;show o1.elim
 | some a3=>
  rw[q]at o1;show hg H0 H G1 ρ σ H1 x w a3 _ (I.ext e1) m1 q λa4 I'=>o1 G1 a4 H1 (Lf _) I'
def PIv.own_upd (I:PIv K H0 G ρ σ H)(e:ρ[i]?=some (.own ws))(es:σ[i]?=some (some (.ref a)))(r:Reps K G vs' ws'):PIv K H0 G (ρ.set i (.own ws')) σ (upd H a (.lst vs')):=by
 obtain ⟨a',vs,ev,ha,hg,h0,_⟩:=I.sl i _ _ e es;cases ev;refine ⟨I.g0,I.gl,λb o q=>by rw[d8 (e9 q hg)];show I.gh b o q,λb o q=>by rw[d8 (e9 q h0)];show I.hh b o q,by rw[qD3];show I.len,λj x o h1 h2=>?_,λp q a9 us c a8 h1 h2 h3 h4=>?_⟩
 .by_cases hj:i=j
  .subst hj;rw[qC3]at h1;simp only [qQ8]at h1
   split at h1 <;> simp only [qF8,reduceCtorEq]at h1
   subst h1;rw[es]at h2;cases h2;show ⟨a,vs',rfl,j6,hg,h0,r⟩
  .rw [qB4 hj]at h1
   have:=I.sl j x o h1 h2
   cases x with
   | own us=>
    obtain ⟨b,a3,eb,hb,a4,a5,rb⟩:=this;subst eb;have a6:b≠a:=by
     rintro rfl;show I.ne i j ws us b hj e h1 es h2
    show ⟨b,a3,rfl,by rw[d8 a6];show hb,a4,a5,rb⟩
   | dic ks=>
    obtain ⟨b,a3,eb,hb,a4,a5,rb⟩:=this;have a6:b≠a:=by
     rintro rfl;rw[ha]at hb;cases hb
    show ⟨b,a3,eb,by rw[d8 a6];show hb,a4,a5,rb⟩
   | dik ks=>
    obtain ⟨b,a3,eb,hb,a4,a5,rb⟩:=this;have a6:b≠a:=by
     rintro rfl;rw[ha]at hb;cases hb
    show ⟨b,a3,eb,by rw[d8 a6];show hb,a4,a5,rb⟩
   |un=>show this
   |val _=>show this
   |par _=>show this
   |iop _ _=>show this
   |hz _=>show this
 .have key:∀{k:Nat}{us:Zp},(ρ.set i (.own ws'))[k]?=some (.own us)->∃a3,ρ[k]?=some (.own a3):=λ{k us} hk=>by
   by_cases a7:i=k
   .subst a7;show ⟨ws,e⟩
   .rw[qB4 a7]at hk;show ⟨us,hk⟩
  obtain ⟨w1,k1⟩:=key h1;obtain ⟨w2,k2⟩:=key h2;show I.ne p q w1 w2 c a8 k1 k2 h3 h4
def PIv.own_at {i:Nat}(I:PIv K H0 G ρ σ H)(e:ρ[i]?=some (.own ws)):∃a vs,σ[i]?=some (some (.ref a))/\H a=some (.lst vs)/\G a=none/\H0 a=none/\Reps K G vs ws:=by
 have hi:i<σ.length:=by rw[<- I.len];show (qA6.mp e).1
 have es:σ[i]?=some σ[i]:=ZW;obtain ⟨a,vs,ev,r⟩:=I.sl i _ _ e es;show ⟨a,vs,by rw[es,ev],r⟩
def Q8 (i:Nat)(m:Zo):Zg:=λρ=>match ρ[i]? with
 |some (.own ws)=>m ρ>>=λw=>if ws.length<1000 then .ok (.nx (ρ.set i (.own (ws ++ [w])))) else .stuck
 |_=>.stuck
def Kp (h:tSt K EX d (Q8 i m) D σ H):qB (DH (V3 i) (tM K EX .V m)) D σ H:=by
 obtain ⟨H0,G,ρ,I,o⟩:=h;unfold Q8 at o
 split at o
 .rename_i ws e
  obtain ⟨a,vs,es,ha,hg,h0,r⟩:=I.own_at e;refine ⟨.ref a,es,a,rfl,⟨vs,ha⟩,H0,G,ρ,I,OutS.bind I o λx G1 H1 w e1 m1 o1=>?_⟩;by_cases hl:ws.length<1000
  .rw [qA2 hl]at o1
   have h1:=e1.hh a _ ha;dsimp only;rw[h1];dsimp only;have hlen:vs.length=ws.length:=r.length;show ⟨qB3 (by omega:vs.length<1000) ZU,o1 G1 σ _ (Lf _) ((I.ext e1).own_upd e es ((r.same e1.gg).snoc m1))⟩
  .rw[qA4 hl]at o1;show o1.elim
 .show o.elim
def V5 (i:Nat)(I me:Zo):Zg:=λρ=>match ρ[i]? with
 | some (.own ws)=>me ρ>>=λw=>I ρ>>=λk=>(match k with
  | .int k=>(match ixN ws.length k with
   |some j=>.ok (.nx (ρ.set i (.own (ws.set j w))))
   |none=>.stuck)
  |_=>.stuck)
 |_=>.stuck
def fg (h:tSt K EX d (V5 i mk me) D σ H):Y2 (tM K EX .V me) (gSub (V3 i) (tM K EX .B mk) rSetL) D σ H:=by
 obtain ⟨H0,G,ρ,I,o⟩:=h;unfold V5 at o
 split at o
 .rename_i ws e
  obtain ⟨a,vs,es,ha,hg,h0,r⟩:=I.own_at e;refine ⟨H0,G,ρ,I,OutS.bind I o λx G1 H1 w e1 m1 o1=>⟨.ref a,es,H0,G1,ρ,I.ext e1,OutS.bind (I.ext e1) o1 λy G2 H2 k e2 m2 o2=>?_⟩⟩;cases k <;> first|show o2.elim|skip
  rename_i k
  dsimp only at o2;cases q:ixN ws.length k with
  |none=>rw[q]at o2;show o2.elim
  | some j=>
   rw[q]at o2;refine ⟨a,vs,k,j,rfl,m2.intB,e2.hh _ _ (e1.hh _ _ ha),by rw[r.length];show q,?_⟩;show o2 G2 σ _ (Lf _) (((I.ext e1).ext e2).own_upd e es (Reps.set (Rep.same e2.gg m1) j ((r.same e1.gg).same e2.gg)))
 .show o.elim
def ju (i:Nat)(f:Int->Int->Int)(m:Zo):Zg:=λρ=>b7 .B i ρ>>=λx=>m ρ>>=λy=>match x,y with
 | .int a,.int b=>.ok (.nx (ρ.set i (.val (.int (f a b)))))
 |_,_=>.stuck
def Kn (h:tSt K EX d (ju i f m) D σ H):DG i (tM K EX .B m) (ipI f) D σ H:=by
 obtain ⟨H0,G,ρ,I,o⟩:=h;unfold ju at o;have c:tM K EX .B (b7 .B i) σ H (λx H1=>∃G1 w,Ext G H G1 H1/\Md K H0 H G1 H1 x w .B/\OutS K EX d H0 G1 (m ρ>>=λy=>match w,y with
   | .int a,.int b=>.ok (.nx (ρ.set i (.val (.int (f a b)))))
   |_,_=>.stuck) D):=⟨H0,G,ρ,I,OutS.bind I o λx G1 H1 w e1 m1 o1=>⟨G1,w,e1,m1,o1⟩⟩
 obtain ⟨v,es,G1,w,e1,m1,o1⟩:=rO c;have I1:=I.ext e1;refine ⟨v,es,H0,G1,ρ,I1,OutS.bind I1 o1 λy G2 H2 u e2 m2 o2=>?_⟩;cases w <;> first|show o2.elim|skip
 cases u <;> first|show o2.elim|skip
 rename_i a b
 show ⟨a,b,m1.intB,m2.intB,o2 G2 _ H2 (Lf _) ((I1.ext e2).setV .int)⟩
def mIf (c:ZZ)(m n:Zg):Zg:=λρ=>c ρ>>=λb=>if b then m ρ else n ρ
def Kh (h:tSt K EX d (mIf c m n) D σ H):DE (tT K EX c) (tSt K EX d m) (tSt K EX d n) D σ H:=by
 obtain ⟨H0,G,ρ,I,o⟩:=h;refine ⟨H0,G,ρ,I,OutS.bind I o λx G1 H1 w e1 m1 o1=>?_⟩;cases m1;cases x with
 |true=>show ⟨H0,G1,ρ,I.ext e1,o1⟩
 |false=>show ⟨H0,G1,ρ,I.ext e1,o1⟩
def frz (i:Nat)(ρ:Rho):Rho:=match ρ[i]? with
 |some (.own ws)=>ρ.set i (.val (.lst ws))
 |_=>ρ
def PIv.frz (I:PIv K H0 G ρ σ H):∃G',Same G G'/\PIv K H0 G' (frz i ρ) σ H:=by
 unfold TP.frz
 split
 .rename_i ws e
  obtain ⟨a,vs,es,ha,hg,h0,r⟩:=I.own_at e;have s1:Same G (upd G a (.lst vs)):=λb o q=>by rw[d8 (e9 q hg)];show q
  refine ⟨upd G a (.lst vs),s1,?_⟩;have I1:PIv K H0 G (ρ.set i .un) σ H:=by
   refine ⟨I.g0,I.gl,I.gh,I.hh,by rw[qD3];show I.len,λj x o h1 h2=>?_,λp q b0 us c a8 h1 h2 h3 h4=>?_⟩
   .by_cases hj:i=j
    .subst hj;rw[qC3]at h1;simp only [qQ8]at h1
     split at h1 <;> simp only [qF8,reduceCtorEq]at h1
     subst h1;trivial
    .rw[qB4 hj]at h1;show I.sl j x o h1 h2
   .have na:i≠p:=by
     rintro rfl;rw[qC3]at h1;simp only [qQ8]at h1
     split at h1 <;> simp at h1
    have nb:i≠q:=by
     rintro rfl;rw[qC3]at h2;simp only [qQ8]at h2
     split at h2 <;> simp at h2
    rw[qB4 na]at h1;rw[qB4 nb]at h2;show I.ne p q b0 us c a8 h1 h2 h3 h4
  have I2:PIv K H0 (upd G a (.lst vs)) (ρ.set i .un) σ H:=by
   refine ⟨λb o q l=>s1 b o (I.g0 b o q l),λb o q l=>by rw[d8 (e9 q h0)];show I.gl b o q l,λb o q=>?_,I.hh,I1.len,λj x o h1 h2=>?_,I1.ne⟩
   .by_cases hb:b=a
    .subst hb;rw[j6]at q;cases q;show ha
    .rw[d8 hb]at q;show I.gh b o q
   .have:=I1.sl j x o h1 h2
    cases x with
    |un=>trivial
    |val w=>obtain ⟨v,e1,r1⟩:=this;show ⟨v,e1,r1.same s1⟩
    |par w=>obtain ⟨v,e1,r1⟩:=this;show ⟨v,e1,r1.same (B4 s1)⟩
    | own us=>
     obtain ⟨b,a3,eb,hb,a4,a5,rb⟩:=this;subst eb;have a7:i≠j:=by
      rintro rfl;rw[qC3]at h1;simp only [qQ8]at h1
      split at h1 <;> simp at h1
     rw[qB4 a7]at h1;have a6:b≠a:=by
      rintro rfl;show I.ne i j ws us b a7 e h1 es h2
     show ⟨b,a3,rfl,hb,by rw[d8 a6];show a4,a5,rb.same s1⟩
    | dic ks=>
     obtain ⟨b,a3,eb,hb,a4,a5,rb⟩:=this;have a6:b≠a:=by
      rintro rfl;rw[ha]at hb;cases hb
     show ⟨b,a3,eb,hb,by rw[d8 a6];show a4,a5,rb⟩
    | dik ks=>
     obtain ⟨b,a3,eb,hb,a4,a5,rb⟩:=this;have a6:b≠a:=by
      rintro rfl;rw[ha]at hb;cases hb
     show ⟨b,a3,eb,hb,by rw[d8 a6];show a4,a5,rb⟩
    |iop p us=>obtain ⟨e1,a9,ab,r1⟩:=this;show ⟨e1,a9,ab,r1.same s1⟩
    |hz w=>obtain ⟨v,e,r⟩:=this;show ⟨v,e,r.same (B4 (dD s1))⟩
  have I3:=I2.setV (i:=i) (v:=.ref a) (w:=.lst ws) (.lst j6 (r.same s1));have e3:σ.set i (some (V.ref a))=σ:=by
   apply qO3;intro j;by_cases hj:i=j
   .subst hj;rw[es,qC3];simp only [qQ8];rw[qA2 (qA6.mp es).1]
   .rw[qB4 hj]
  rw[e3,List.set_set]at I3;show I3
 .show ⟨G,Lf G,I⟩
def Kj (h:tSt K EX d (λρ=>m (frz i ρ)) D σ H):tSt K EX d m D σ H:=by
 obtain ⟨H0,G,ρ,I,o⟩:=h;obtain ⟨G',s,I'⟩:=I.frz (i:=i);show ⟨H0,G',_,I',OutS.move s o⟩
section
variable {K:Frag}{EX:EXT}{H0 G H G1 H1 G2 H2:Hp}{ρ:Rho}{σ:St}{d:Mode}{D:Ends}
structure cN (K:Frag) (e:Mode) (H0 Z G:Hp) (J:It) (ws:Zp):Prop where
 go:∀i H,i<ws.length->Same Z H->J.go i H
 stop:∀H,Same Z H->J.stop ws.length H
 yld:∀i H x H' w,ws[i]?=some w->Same Z H->J.yld i H x H'->∀G2 ρ σ,PIv K H0 G2 ρ σ H->Same G G2->∃G3,Ext G2 H G3 H'/\Md K H0 H G3 H' x w e
def oo (K:Frag)(EX:EXT)(lp:Bool)(e:Mode)(H0 G H:Hp)(r:R Zp)(I:It->Hp->Prop):Prop:=match r with
 | .ok ws=>∀J G' H',Ext G H G' H'->cN K e H0 (if lp then join H0 G' else H') G' J ws->I J H'
 | .ex x=>∀H',Same H H'->EX x H'
 | .stuck=>False
def tIt (K:Frag)(EX:EXT)(lp:Bool)(e:Mode)(m:ZQ):TI:=λσ H I=>∃H0 G ρ,PIv K H0 G ρ σ H/\oo K EX lp e H0 G H (m ρ) I
def F6 (mg:ZJ)(mb:Zg):List W->Rho->R Fl
 | [],ρ=>.ok (.nx ρ)
 | w::ws,ρ=>toR (mg w ρ)>>=λa3=>mb a3>>=λf=>match f with
  | .nx I=>F6 mg mb ws I
  | .ct I=>F6 mg mb ws I
  | .bk I=>.ok (.nx I)
  | .rt w=>.ok (.rt w)
def Kk (hg:Gt K e g mg)(h:tSt K EX d (λρ=>mi ρ>>=λws=>F6 mg mb ws ρ) D σ H):
  DF (tIt K EX true e mi) g (tSt K EX d mb) D σ H:=by
 obtain ⟨H0,G,ρ,I,o⟩:=h;refine ⟨H0,G,ρ,I,?_⟩;replace o:OutS K EX d H0 G (mi ρ>>=λws=>F6 mg mb ws ρ) D:=o
 revert o
 cases mi ρ with
 |stuck=>show id
 |ex x=>show λo H' s=>o H' (I.hh.trans s)
 | ok ws=>
  intro o J G1 H1 e1 T;have o1:OutS K EX d H0 G1 (F6 mg mb ws ρ) D:=OutS.move e1.gg o;refine ⟨λi m σ H=>m=ws.length-i/\i<=ws.length/\∃G2 a3,Same G1 G2/\PIv K H0 G2 a3 σ H/\OutS K EX d H0 G2 (F6 mg mb (ws.drop i) a3) D,⟨_,rfl,qC7 _,G1,ρ,Lf _,I.ext e1,o1⟩,?_⟩;rintro i m a8 Hh ⟨rfl,hi,G2,a3,s2,I2,o2⟩;have hz:Same (join H0 G1) Hh:=(B4 s2).trans I2.join_H;by_cases a7:i<ws.length
  .refine .inr ⟨T.go i Hh a7 hz,λa6 H'=>∃G4 a4,Same G1 G4/\PIv K H0 G4 a4 a6 H'/\OutS K EX d H0 G4 (F6 mg mb (ws.drop (i+1)) a4) D,λa6 H' a9=>by obtain ⟨G4,a4,s4,I4,o4⟩:=a9;show ⟨ws.length-(i+1),ox,rfl,a7,G4,a4,s4,I4,o4⟩,λx H' y=>?_⟩;obtain ⟨G3,e3,m3⟩:=T.yld i Hh x H' ws[i] ZW hz y G2 a3 a8 I2 s2;rw[qK1 a7]at o2;unfold F6 at o2;cases q:mg ws[i] a3 with
   |none=>rw[q]at o2;show o2.elim
   | some a5=>
    rw[q]at o2;refine hg H0 Hh G3 a3 a8 H' x _ a5 _ (I2.ext e3) m3 q λa6 I'=>⟨H0,G3,a5,I',?_⟩;have o3:OutS K EX d H0 G3 (mb a5>>=λf=>match f with
     | .nx a3=>F6 mg mb (ws.drop (i+1)) a3
     | .ct a3=>F6 mg mb (ws.drop (i+1)) a3
     | .bk a3=>.ok (.nx a3)
     | .rt w=>.ok (.rt w)) D:=OutS.move e3.gg o2
    revert o3
    have s3:Same G1 G3:=s2.trans e3.gg;cases mb a5 with
    |stuck=>show id
    |ex x=>show id
    | ok f=>
     cases f with
     |nx a4=>show λo4 G4 ab H4 s4 I4=>⟨G4,a4,s3.trans s4,I4,OutS.move s4 o4⟩
     |ct a4=>show λo4 G4 ab H4 s4 I4=>⟨G4,a4,s3.trans s4,I4,OutS.move s4 o4⟩
     |bk a4=>show id
     |rt w=>show id
  .have e:i=ws.length:=ox;subst e;refine .inl ⟨T.stop Hh hz,?_⟩;rw[List.drop_length]at o2;show o2 G2 a8 Hh (Lf _) I2
def L5 (c:ZZ)(b:Zg):Nat->Rho->Option (R Fl)
 |0,_=>none
 | n+1,ρ=>match c ρ with
  | .ok false=>some (.ok (.nx ρ))
  | .ok true=>(match b ρ with
   | .ok (.nx ρ')=>L5 c b n ρ'
   | .ok (.ct ρ')=>L5 c b n ρ'
   | .ok (.bk ρ')=>some (.ok (.nx ρ'))
   | .ok (.rt w)=>some (.ok (.rt w))
   | .ex e=>some (.ex e)
   | .stuck=>some .stuck)
  | .ex e=>some (.ex e)
  | .stuck=>some .stuck
def cA:∀(n:Nat) (ρ:Rho) (r:R Fl),L5 c b n ρ=some r->∀m,n<=m->L5 c b m ρ=some r:=by
 intro n
 induction n with
 |zero=>intro ρ r h;cases h
 | succ n ih=>
  intro ρ r h m hm;obtain ⟨k,rfl⟩:∃k,m=k+1:=⟨m-1,ox⟩;have hk:=Nat.le_of_succ_le_succ hm;unfold L5 at h ⊢
  revert h
  cases c ρ with
  |ex e=>show id
  |stuck=>show id
  | ok t=>
   cases t with
   |false=>show id
   | true=>
    cases b ρ with
    |ex e=>show id
    |stuck=>show id
    | ok f=>
     cases f with
     |nx I=>show λh=>ih I r h k hk
     |ct I=>show λh=>ih I r h k hk
     |bk I=>show id
     |rt w=>show id
open Classical in
def J3 (c:ZZ)(b:Zg):Zg:=λρ=>if h:∃r n,L5 c b n ρ=some r then h.choose else .stuck
def kq (h:L5 c b n ρ=some r):J3 c b ρ=r:=by
 unfold J3;have I:∃r n,L5 c b n ρ=some r:=⟨r,n,h⟩;rw[dif_pos I];obtain ⟨m,hm⟩:=I.choose_spec;have a:=cA n ρ r h (max n m) (Nat.le_max_left _ _);have b:=cA m ρ _ hm (max n m) (Nat.le_max_right _ _);rw[a]at b;show (Lc b).symm
def CL (h:tSt K EX d (J3 c b) D σ H):sO (tT K EX c) (tSt K EX d b) D σ H:=by
 obtain ⟨H0,G,ρ,I,o⟩:=h;by_cases hx:∃r n,L5 c b n ρ=some r
 .obtain ⟨r,n,hn⟩:=hx;rw[kq hn]at o;refine ⟨λm a5 Hh=>∃G2 a4,Same G G2/\PIv K H0 G2 a4 a5 Hh/\L5 c b m a4=some r,⟨n,G,ρ,Lf _,I,hn⟩,?_⟩;rintro m a5 Hh ⟨G2,a4,s2,I2,h2⟩;have o2:OutS K EX d H0 G2 r D:=OutS.move s2 o;refine ⟨H0,G2,a4,I2,?_⟩;cases m with
  |zero=>cases h2
  | succ m=>
   unfold L5 at h2
   revert h2
   cases c a4 with
   |stuck=>intro h2;cases h2;show o2
   |ex x=>intro h2;cases h2;show λH' s=>o2 H' (I2.hh.trans s)
   | ok t=>
    cases t with
    | false=>
     intro h2;cases h2;intro v G3 H3 e3 q;cases q;rw[qA4 qA3];show o2 G3 a5 H3 e3.gg (I2.ext e3)
    | true=>
     intro h2 v G3 H3 e3 q;cases q;rw[qA2 rfl];refine ⟨λa6 H'=>∃G4 a3,Same G G4/\PIv K H0 G4 a3 a6 H'/\L5 c b m a3=some r,λa6 H' a7=>by obtain ⟨G4,a3,s4,I4,h4⟩:=a7;show ⟨m,qM6 m,G4,a3,s4,I4,h4⟩,H0,G3,a4,I2.ext e3,?_⟩;have o3:OutS K EX d H0 G3 r D:=OutS.move e3.gg o2;have s3:Same G G3:=s2.trans e3.gg
     revert h2
     cases b a4 with
     |stuck=>intro h2;cases h2;show o3
     |ex x=>intro h2;cases h2;show o3
     | ok f=>
      cases f with
      |nx a3=>show λh2 G4 a8 H4 s4 I4=>⟨G4,a3,s3.trans s4,I4,h2⟩
      |ct a3=>show λh2 G4 a8 H4 s4 I4=>⟨G4,a3,s3.trans s4,I4,h2⟩
      |bk a3=>intro h2;cases h2;show o3
      |rt w=>intro h2;cases h2;show o3
 .unfold J3 at o;rw[dif_neg hx]at o;show o.elim
def Md.whole (I:PIv K H0 G ρ σ H)(h:Md K H0 Hs G H v w .B):Rep K H v w:=by
 rcases h with h|⟨a,vs,ws,rfl,rfl,h1,r⟩
 .show h.same I.join_H
 .show .lst h1 (r.same I.gh)
def MdA.whole (I:PIv K H0 G ρ σ H)(h:MdA K .B H0 Hs G H ws vs):Reps K H vs ws:=
 @MdA.rec K .B H0 Hs G H (λws vs _=>Reps K H vs ws) .nil (λh _ b=>.cons (h.whole I) b) ws vs h
def XE (_:XK):EXT:=λ_ _=>False
def spM (K:Frag)(n:Nat)(d:Mode)(f:List W->R W):Sp:=λvs H Q E=>vs.length=n/\∃ws,Reps K H vs ws/\match f ws with
 | .ok w=>∀v G' H',Same H H'->Same G' H'->(∀a o,H a=some o->isL o=true->G' a=none)->Md K H H G' H' v w d->Q v H'
 | .ex e=>∀H',Same H H'->XE E e H'
 | .stuck=>False
def g9 (n N:Nat)(m:Zg)(ws:Zp):R W:=if ws.length=n then (m (ws.map Sl.par++List.replicate (N-n) Sl.un)>>=λf=>match f with
 | .rt w=>.ok w
 | .nx _=>.ok .non
 |_=>.stuck) else .stuck
def wG (ws:Zp)(h:g9 n N m ws≠.stuck):ws.length=n:=by
 unfold g9 at h;by_cases e:ws.length=n
 .show e
 .rw[qA4 e]at h;show absurd rfl h
def both (G G':Hp):Hp:=λb=>match G b with
 |some o=>some o
 |none=>G' b
def IA (hd:d=.F\/d=.V)(hf:∀ws,f ws≠.stuck->ws.length=n)(hE:∀e H,EX e H->XE E e H)(h:tM K EX d (λρ=>ma ρ>>=λws=>f ws) σ H Q):
  kY (spM K n d f) [] E (tA K EX .B ma) σ H Q:=by
 obtain ⟨H0,G,ρ,I,o⟩:=h;refine ⟨H0,G,ρ,I,Lg o λxs G1 H1 ws e1 m1 o1=>?_⟩;have I1:=I.ext e1;have r:=MdA.whole I1 m1;rw[qG0];refine ⟨?_,ws,r,?_⟩
 .rw [r.length]
  refine hf ws λz=>?_;rw[z]at o1;show o1
 .revert o1
  cases f ws with
  |stuck=>show id
  |ex e=>show λo1 H' s=>hE e H' (o1 H' s)
  | ok w=>
   intro o1 v G' H' sH gH cl md;have sB:Same G1 (both G1 G'):=λb o q=>by unfold both;rw[q]
   have a3:Same G' (both G1 G'):=λb o q=>by
    unfold both;cases q1:G1 b with
    |none=>show q
    | some u=>
     have a1:=sH b u (I1.gh b u q1);rw[gH b o q]at a1;show a1.symm
   have a4:Same (both G1 G') H':=λb o q=>by
    unfold both at q;cases q1:G1 b with
    |none=>rw[q1]at q;show gH b o q
    |some u=>rw[q1]at q;cases q;show sH b _ (I1.gh b _ q1)
   have ex:Ext G1 H1 (both G1 G') H':=⟨sB,sH,a4,λb o q l g=>by unfold both;rw[g];show cl b o q l⟩;refine o1 v (both G1 G') H' ex ?_;rcases hd with rfl|rfl
   .cases w with
    | lst us=>
     obtain ⟨a,vs,rfl,h1,h2,h3,r3⟩:=md;show ⟨a,vs,rfl,h1,by unfold both;rw[I1.gh.free h3];show h2,e1.hh.free h3,r3.same a3⟩
    |non=>show Rep.same a3 md
    |bl _=>show Rep.same a3 md
    |int _=>show Rep.same a3 md
    |str _=>show Rep.same a3 md
    |ty _=>show Rep.same a3 md
    |tup _=>show Rep.same a3 md
    |scr _=>show Rep.same a3 md
    |exc _ _=>show Rep.same a3 md
    |cls _=>show Rep.same a3 md
   .show Rep.same a3 md
def D8 (H:Hp):Hp:=λa=>match H a with
 |some o=>if isL o then none else some o
 |none=>none
def kD:join H (D8 H)=H:=by
 funext a
 unfold join D8;cases q:H a with
 |none=>rfl
 | some o=>
  dsimp only;cases isL o <;> rfl
def Reps.slots {i:Nat}(r:Reps K H vs ws):(ws.map Sl.par++List.replicate k Sl.un)[i]?=some x->(vs.map some++List.replicate k' none)[i]?=some o->x=.un\/∃v w,x=.par w/\o=some v/\Rep K H v w:=
 Reps.ind (P:=λvs ws=>∀i,(ws.map Sl.par++List.replicate k Sl.un)[i]?=some x->(vs.map some++List.replicate k' none)[i]?=some o->x=.un\/∃v w,x=.par w/\o=some v/\Rep K H v w) (λi h1 I=>by
  have h1:(List.replicate k Sl.un)[i]?=some x:=h1;rw[qG7]at h1;by_cases hk:i<k
  .rw[qA2 hk]at h1;show .inl (Lc h1).symm
  .rw[qA4 hk]at h1;cases h1) (λr _ b i h1 I=>by
  cases i with
  |zero=>show .inr ⟨_,_,(Lc h1).symm,(Lc I).symm,r⟩
  |succ i=>show b i h1 I) r i
def PIv.begin (r:Reps K H vs ws)(hk:k=k'):PIv K H (D8 H) (ws.map Sl.par++List.replicate k Sl.un) (vs.map some++List.replicate k' none) H where
 g0 a o e l:=by unfold D8;rw[e];dsimp only;rw[l];rfl
 gl a o e l:=by unfold D8;rw[e];dsimp only;rw[l];rfl
 gh a o e:=by
  unfold D8 at e;cases q:H a with
  |none=>rw[q]at e;cases e
  | some u=>
   rw[q]at e;dsimp only at e;cases I:isL u
   .rw[I]at e;show e
   .rw[I]at e;cases e
 hh:=Lf H
 len:=by subst hk;simp [r.length]
 sl i x o h1 h2:=by
  rcases Reps.slots r h1 h2 with rfl|⟨v,w,rfl,rfl,q⟩
  .trivial
  .show ⟨v,rfl,by rw[kD];show q⟩
 ne i j us xs a hij h1 _ _ _:=by
  have:∀(i:Nat) (us:Zp),(ws.map Sl.par++List.replicate k Sl.un)[i]?≠some (Sl.own us):=λi us q=>by
   rw[List.getElem?_append]at q
   split at q
   .rw [qC1]at q
    cases hh:ws[i]? <;> rw[hh]at q <;> cases q
   .rw [qG7]at q
    split at q <;> cases q
  show absurd h1 (this i us)
def IB (hd:d=.F\/d=.V)(h:spM K n d (g9 n Nl.length m) vs H Q E):tSt K (λ_ _=>False) d m { nx:=λ_ H'=>Q .non H',rt:=Q } (L2.start Nl vs) H:=by
 obtain ⟨hl,ws,r,o⟩:=h;have hw:ws.length=n:=by rw[<- r.length];show hl
 unfold g9 at o;rw[qA2 hw]at o;refine ⟨H,D8 H,_,PIv.begin (k:=Nl.length-n) r (by rw[hl]),?_⟩
 revert o
 cases m (ws.map Sl.par++List.replicate (Nl.length-n) Sl.un) with
 |stuck=>show id
 |ex e=>show λo=>(o H (Lf H)).elim
 | ok f=>
  cases f with
  |nx a4=>show λo G' a3 H' s' I=>o .non G' H' I.hh I.gh I.gl (Md.sca rfl (λ_=>.non) d)
  |rt w=>show λo v G' H' _ s1 s2 c md=>o v G' H' s2 s1 c md
  |bk _=>show λo=>o.elim
  |ct _=>show λo=>o.elim
end
def elR (mg:ZJ)(mc:ZZ)(me:Zo)(ρ:Rho)(w:W):R (Option W):=match mg w ρ with
 |none=>.stuck
 | some I=>(match mc I with
  | .ok true=>(match me I with
   | .ok y=>.ok (some y)
   |_=>.stuck)
  | .ok false=>.ok none
  |_=>.stuck)
def mapR (f:W->R (Option W)):List W->R Zp
 | []=>.ok []
 | w::ws=>match f w,mapR f ws with
  | .ok (some y),.ok ys=>.ok (y::ys)
  | .ok none,.ok ys=>.ok ys
  |_,_=>.stuck
def l6 (N':Nat)(mg:ZJ)(mc:ZZ)(me:Zo)(ws:Zp)(ρ:Rho):R W:=
 if ws.length<=1000 then (match mapR (elR mg mc me (ρ++List.replicate (N'-ρ.length) Sl.un)) ws with
  | .ok ys=>.ok (.lst ys)
  |_=>.stuck) else .stuck
def BA:∀{ws ys:Zp},mapR f ws=.ok ys->(∀w∈ws,∃o,f w=.ok o)/\ys=ws.filterMap λw=>match f w with
  | .ok o=>o
  |_=>none:=by
 intro ws
 induction ws with
 |nil=>intro ys h;cases h;show ⟨ZW,rfl⟩
 | cons w ws ih=>
  intro ys h;unfold mapR at h;cases I:f w with
  |stuck=>rw[I]at h;cases h
  |ex e=>rw[I]at h;cases h
  | ok o=>
   rw[I]at h;cases hm:mapR f ws with
   |stuck=>rw[hm]at h;cases o <;> cases h
   |ex e=>rw[hm]at h;cases o <;> cases h
   | ok zs=>
    rw[hm]at h;obtain ⟨h1,h2⟩:=ih hm;refine ⟨λu hu=>?_,?_⟩
    .rcases qB6.mp hu with rfl|hu
     .show ⟨o,I⟩
     .show h1 u hu
    .cases o with
     |none=>cases h;rw[qJ0,I];show h2
     |some y=>cases h;rw[qJ0,I,h2]
def PIv.inner (I:PIv K H0 G ρ σ H):PIv K H0 G (ρ++List.replicate (N'.length-ρ.length) Sl.un) (inner N' σ) H:=by
 have hl:=I.len;unfold L2.inner;rw[hl];refine ⟨I.g0,I.gl,I.gh,I.hh,by simp [hl],λi x o h1 h2=>?_,λp q ws us c a3 h1 h2 h3 h4=>?_⟩
 .by_cases hi:i<ρ.length
  .rw [qE8 hi]at h1
   rw[qE8 ox]at h2;show I.sl i x o h1 h2
  .rw [qG8 ox,qG7]at h1
   split at h1 <;> simp only [qF8,reduceCtorEq]at h1
   subst h1;trivial
 .have key:∀{k:Nat}{us:Zp},(ρ++List.replicate (N'.length-σ.length) Sl.un)[k]?=some (Sl.own us)->k<ρ.length/\ρ[k]?=some (Sl.own us):=λ{k us} hk=>by
   by_cases hi:k<ρ.length
   .rw[qE8 hi]at hk;show ⟨hi,hk⟩
   .rw [qG8 ox,qG7]at hk
    split at hk <;> simp at hk
  obtain ⟨l1,k1⟩:=key h1;obtain ⟨l2,k2⟩:=key h2;rw[qE8 ox]at h3 h4;show I.ne p q ws us c a3 k1 k2 h3 h4
open Classical in
def rest (G H:Hp)(Dd:Addr)(H':Hp):Hp:=λb=>if b=Dd\/∃o,H b=some o/\isL o=true/\G b=none then none else H' b
def F0 (h:b=Dd\/∃o,H b=some o/\isL o=true/\G b=none):rest G H Dd H' b=none:=by unfold rest;rw[qA2 h]
def ax (h:¬ (b=Dd\/∃o,H b=some o/\isL o=true/\G b=none)):rest G H Dd H' b=H' b:=by unfold rest;rw[qA4 h]
def oV (h:rest G H Dd H' b=some o):H' b=some o/\¬ (b=Dd\/∃o,H b=some o/\isL o=true/\G b=none):=by
 by_cases c:b=Dd\/∃o,H b=some o/\isL o=true/\G b=none
 .rw[F0 c]at h;cases h
 .rw[ax c]at h;show ⟨h,c⟩
def PIv.rest (I:PIv K H0 G ρ σ H)(hD:H Dd=none)(s:Same H H'):Same G (rest G H Dd H')/\PIv K H0 (rest G H Dd H') ρ σ H':=by
 have sG:Same G (TP.rest G H Dd H'):=λb o q=>by
  rw[ax]
  .show s b o (I.gh b o q)
  .rintro (rfl|⟨u,h1,h2,h3⟩)
   .rw[I.gh _ _ q]at hD;cases hD
   .rw[q]at h3;cases h3
 refine ⟨sG,λa o e l=>sG a o (I.g0 a o e l),λa o e l=>F0 (.inr ⟨o,I.hh a o e,l,I.gl a o e l⟩),λb o q=>(oV q).1,I.hh.trans s,I.len,λi x o h1 h2=>?_,I.ne⟩
 have:=I.sl i x o h1 h2
 cases x with
 |un=>trivial
 |val w=>obtain ⟨v,e,r⟩:=this;show ⟨v,e,r.same sG⟩
 |par w=>obtain ⟨v,e,r⟩:=this;show ⟨v,e,r.same (B4 sG)⟩
 | own ws=>
  obtain ⟨a,vs,e,h,g,h0,r⟩:=this;show ⟨a,vs,e,s a _ h,F0 (.inr ⟨_,h,rfl,g⟩),h0,r.same sG⟩
 | dic ks=>
  obtain ⟨a,vs,e,h,g,h0,r⟩:=this;show ⟨a,vs,e,s a _ h,F0 (.inr ⟨_,h,rfl,g⟩),h0,r⟩
 | dik ks=>
  obtain ⟨a,vs,e,h,g,h0,r⟩:=this;show ⟨a,vs,e,s a _ h,F0 (.inr ⟨_,h,rfl,g⟩),h0,r⟩
 |iop p ws=>obtain ⟨e1,a3,a4,r1⟩:=this;show ⟨e1,a3,a4,r1.same sG⟩
 |hz w=>obtain ⟨v,e,r⟩:=this;show ⟨v,e,r.same (B4 (dD sG))⟩
def du (s:∀b o,b≠Dd->Ha b=some o->Hb b=some o):Same (rest G H Dd Ha) (rest G H Dd Hb):=λb o q=>by
 obtain ⟨h,c⟩:=oV q;rw[ax c];show s b o (λz=>c (.inl z)) h
def wO (I:∃ys,Ha Dd=some (.lst ys))(s:Same H Ha)(e:Ext (rest G H Dd Ha) Ha G' Hb):Same G' (rest G H Dd Hb):=λb o q=>by
 rw[ax]
 .show e.gh b o q
 .rintro (rfl|⟨u,h1,h2,h3⟩)
  .obtain ⟨ys,I⟩:=I;rw[e.keep _ _ I rfl (F0 (.inl rfl))]at q;cases q
  .rw[e.keep _ _ (s _ _ h1) h2 (F0 (.inr ⟨u,h1,h2,h3⟩))]at q;cases q
def vP (hg:Gt K e g mg)(h:tM K EX .F (λρ=>mi ρ>>=λws=>l6 N'.length mg mc me ws ρ) σ H Q):
  qD N' (tIt K EX false e mi) g (tT K EX mc) (tM K EX .V me) σ H Q:=by
 obtain ⟨H0,G,ρ,I,o⟩:=h;refine ⟨H0,G,ρ,I,?_⟩;replace o:Out EX G H (mdW K .F H0 H) (mi ρ>>=λws=>l6 N'.length mg mc me ws ρ) Q:=o
 revert o
 cases mi ρ with
 |stuck=>show id
 |ex x=>show id
 | ok ws=>
  intro o J G1 H1 e1 T Dd hD;have I1:=I.ext e1;replace o:Out EX G H (mdW K .F H0 H) (l6 N'.length mg mc me ws ρ) Q:=o
  unfold l6 at o;by_cases hlen:ws.length<=1000
  .rw [qA2 hlen]at o
   cases hm:mapR (elR mg mc me (ρ++List.replicate (N'.length-ρ.length) Sl.un)) ws with
   |stuck=>rw[hm]at o;show o.elim
   |ex x=>rw[hm]at o;show o.elim
   | ok ys=>
    rw[hm]at o;obtain ⟨ab,bb⟩:=BA hm;have T':cN K e H0 H1 G1 J ws:=by
     have:=T
     rw[qA4 qA3]at this;show this
    generalize bc:ρ++List.replicate (N'.length-ρ.length) Sl.un=b3 at hm ab bb
    refine ⟨λi m H2=>m=ws.length-i/\i<=ws.length/\Same H1 H2/\∃vs,H2 Dd=some (.lst vs)/\vs.length<=i/\Reps K (rest G1 H1 Dd H2) vs ((ws.take i).filterMap λw=>match elR mg mc me b3 w with
     | .ok o=>o
     |_=>none),⟨_,rfl,qC7 _,λb u q=>by rw[d8 (e9 q hD)];show q,[],j6,qB2 _,.nil⟩,?_⟩
    rintro i m H2 ⟨rfl,hi,s2,vs,a8,bq,r2⟩;by_cases a5:i<ws.length
    .refine .inr ⟨T'.go i H2 a5 s2,λx H3 y=>?_⟩;obtain ⟨sG,I2⟩:=I1.rest (Dd:=Dd) hD s2;have b5:=I2.inner (N':=N');obtain ⟨G3,e3,m3⟩:=T'.yld i H2 x H3 ws[i] ZW s2 y _ _ _ b5 sG;obtain ⟨op,a3⟩:=ab ws[i] (qJ7 a5);have a9:=a3;unfold elR at a3;rw[<- bc]at a3;have a7:ws.take (i+1)=ws.take i ++ [ws[i]]:=by rw[qU3 a5]
     cases q:mg ws[i] (ρ++List.replicate (N'.length-ρ.length) Sl.un) with
     |none=>rw[q]at a3;cases a3
     | some a4=>
      rw[q]at a3;dsimp only at a3;refine hg H0 H2 G3 _ _ H3 x _ a4 _ (b5.ext e3) m3 q λc0 I4=>⟨H0,G3,a4,I4,?_⟩;cases hc:mc a4 with
      |stuck=>rw[hc]at a3;cases a3
      |ex x=>rw[hc]at a3;cases a3
      | ok b=>
       intro b' G5 H5 e5 eb;cases eb;rw[hc]at a3;cases b with
       | false=>
        rw[qA4 qA3];have a6:op=none:=by cases a3;rfl
        have s5:Same H2 H5:=e3.hh.trans e5.hh;refine ⟨ws.length-(i+1),ox,rfl,a5,s2.trans s5,vs,s5 _ _ a8,ox,?_⟩;rw[a7,List.filterMap_append]
        have:([ws[i]].filterMap λw=>match elR mg mc me b3 w with
         | .ok o=>o
         |_=>none) = []:=by
         rw[qJ0,a9,a6];rfl
        rw[this,qG0];show r2.same (du λb o _ q=>s5 b o q)
       | true=>
        dsimp only at a3;rw[qA2 rfl];refine ⟨H0,G5,a4,I4.ext e5,?_⟩;cases b0:me a4 with
        |stuck=>rw[b0]at a3;cases a3
        |ex x=>rw[b0]at a3;cases a3
        | ok z=>
         rw[b0]at a3;have a6:op=some z:=by cases a3;rfl
         intro yv G6 H6 e6 m6;have b4:Ext (TP.rest G1 H1 Dd H2) H2 G6 H6:=(e3.trans e5).trans e6;have s6:Same H2 H6:=b4.hh;refine ⟨vs,s6 _ _ a8,qD7 bq (qB3 (by omega:i<1000) ZU),ws.length-(i+1),ox,rfl,a5,λb u q=>by rw[d8 (e9 q hD)];show s6 b u (s2 b u q),vs ++ [yv],j6,by rw[qC4];simp;omega,?_⟩;rw[a7,List.filterMap_append]
         have:([ws[i]].filterMap λw=>match elR mg mc me b3 w with
          | .ok o=>o
          |_=>none) = [z]:=by
          rw[qJ0,a9,a6];rfl
         rw[this];have k1:Same (TP.rest G1 H1 Dd H2) (TP.rest G1 H1 Dd (upd H6 Dd (.lst (vs ++ [yv])))):=du λb o hb q=>by rw[d8 hb];show s6 b o q
         have k2:Same G6 (TP.rest G1 H1 Dd (upd H6 Dd (.lst (vs ++ [yv])))):=(wO ⟨vs,a8⟩ s2 b4).trans (du λb o hb q=>by rw[d8 hb];show q);show (r2.same k1).snoc (Rep.same k2 m6)
    .have ei:i=ws.length:=ox;subst ei;refine .inl ⟨T'.stop H2 s2,?_⟩;rw[qI7,<- bb]at r2;obtain ⟨sG,I2⟩:=I1.rest (Dd:=Dd) hD s2;refine o _ (TP.rest G1 H1 Dd H2) H2 ⟨e1.gg.trans sG,e1.hh.trans s2,I2.gh,λb u q l g=>F0 (.inr ⟨u,e1.hh b u q,l,e1.keep b u q l g⟩)⟩ ⟨Dd,vs,rfl,a8,F0 (.inl rfl),e1.hh.free hD,r2⟩
  .rw[qA4 hlen]at o;show o.elim
def C5:W->R Zp
 | .lst ws=>.ok ws
 | .tup ws=>.ok ws
 | .scr ws=>.ok ws
 |_=>.stuck
def K7 (e:Same H H1)(h:Sq K H t a xs):Sq K H1 t a xs:=by
 unfold Sq at h ⊢
 split at h
 .rename_i ht;rw[qA2 ht];show ww e h
 .rename_i ht;rw[qA4 ht];show Same.seq e h
def sqT (h:SqT K H a xs):Sq K H true a xs:=by unfold Sq;rw[qA2 rfl];show h
def sqL (h:SqL K H a xs):Sq K H false a xs:=by unfold Sq;rw[qA4 qA3];show h
def Rep.sq (h:Rep K F x w)(hw:C5 w=.ok ws):∃t a vs,x=.ref a/\Sq K F t a vs/\Reps K F vs ws:=by
 cases w <;> first | (cases hw;done)|skip
 .obtain ⟨a,vs,e,s,r⟩:=h.inv;show ⟨true,a,vs,e,sqT (SqT.of s),R.ok.inj hw ▸ r⟩
 .obtain ⟨a,vs,e,s,r⟩:=h.inv;show ⟨false,a,vs,e,sqL (SqL.of s),R.ok.inj hw ▸ r⟩
 .obtain ⟨a,vs,e,s,r⟩:=h.inv;show ⟨false,a,vs,e,sqL s,R.ok.inj hw ▸ r⟩
def dh:Bool->Mode->Mode
 |true,e=>e
 |false,.V=>.C
 |false,_=>.B
def fz (e:Mode)(H0 G:Hp):Hp:=if e=.V then G else join H0 G
def Md.src (he:e=.V\/e=.U)(I:PIv K H0 G ρ σ H)(m:Md K H0 Hs G H x w (dh lp e))(hw:C5 w=.ok ws):
  ∃t a vs,x=.ref a/\Sq K (if lp then join H0 G else H) t a vs/\Reps K (fz e H0 G) vs ws:=by
 unfold fz;rcases he with rfl|rfl
 .rw [qA2 rfl]
  cases lp with
  | true=>
   obtain ⟨t,a,vs,e1,e2,e3⟩:=Rep.sq m hw;show ⟨t,a,vs,e1,by rw[qA2 rfl];show K7 I.G_join e2,e3⟩
  | false=>
   rw[qA4 qA3];rcases m with m|⟨a,vs,us,rfl,rfl,h1,r⟩
   .obtain ⟨t,a,vs,e1,e2,e3⟩:=Rep.sq m hw;show ⟨t,a,vs,e1,K7 I.gh e2,e3⟩
   .cases hw;show ⟨false,a,vs,rfl,sqL (SqL.of h1),r⟩
 .rw [qA4 (show ¬ (Mode.U=Mode.V) by intro z;cases z)]
  cases lp with
  | true=>
   obtain ⟨t,a,vs,e1,e2,e3⟩:=Rep.sq m hw;show ⟨t,a,vs,e1,by rw[qA2 rfl];show e2,e3⟩
  | false=>
   rw[qA4 qA3];rcases m with m|⟨a,vs,us,rfl,rfl,h1,r⟩
   .obtain ⟨t,a,vs,e1,e2,e3⟩:=Rep.sq m hw;show ⟨t,a,vs,e1,K7 I.join_H e2,e3⟩
   .cases hw;show ⟨false,a,vs,rfl,sqL (SqL.of h1),r.same I.G_join⟩
def Md.of_fz (I:e=.V\/e=.U)(h:Rep K (fz e H0 G) v w):Md K H0 Hs G H v w e:=by
 unfold fz at h;rcases I with rfl|rfl
 .rw[qA2 rfl]at h;show h
 .rw[qA4 (show ¬ (Mode.U=Mode.V) by intro z;cases z)]at h;show h
def N0 (s:Same G G1):Same (fz e H0 G) (fz e H0 G1):=by
 unfold fz
 split
 .show s
 .show B4 s
def BT (he:e=.V\/e=.U)(s:Sq K Z t a vs)(r:Reps K (fz e H0 G) vs ws):cN K e H0 Z G (ItQ K t a) ws:=by
 have hl:=r.length;cases t with
 | true=>
  have hq:∀H,Same Z H->SqT K H a vs:=λH z=>by have:=K7 z s;unfold Sq at this;rw[qA2 rfl]at this;show this
  refine ⟨λi H hi z=>⟨vs,vs[i]'ox,hq H z,ZW⟩,λH z=>⟨vs,hq H z,ox⟩,λi H x H' w hw z a4 G2 ρ σ I sg=>?_⟩;obtain ⟨e1,y⟩:=a4;subst e1;have hx:=y vs (hq _ z);obtain ⟨v,hv,rv⟩:=Reps.get r hw;rw[hx]at hv;cases hv;show ⟨G2,Le I.gh,Md.of_fz he (rv.same (N0 sg))⟩
 | false=>
  have hq:∀H,Same Z H->SqL K H a vs:=λH z=>by have:=K7 z s;unfold Sq at this;rw[qA4 qA3]at this;show this
  refine ⟨λi H hi z=>⟨vs,vs[i]'ox,hq H z,ZW⟩,λH z=>⟨vs,hq H z,ox⟩,λi H x H' w hw z a3 G2 ρ σ I sg=>?_⟩;obtain ⟨e1,y⟩:=a3;subst e1;have hx:=y vs (hq _ z);obtain ⟨v,hv,rv⟩:=Reps.get r hw;rw[hx]at hv;cases hv;show ⟨G2,Le I.gh,Md.of_fz he (rv.same (N0 sg))⟩
def jv {lp:Bool}(I:PIv K H0 G ρ σ H):Same (if lp then join H0 G else H) H:=by
 cases lp
 .show Lf H
 .show I.join_H
def Ki (he:e=.V\/e=.U)(h:tIt K EX lp e (λρ=>ml ρ>>=C5) σ H Rr):iSq K (tM K EX (dh lp e) ml) σ H Rr:=by
 obtain ⟨H0,G,ρ,I,o⟩:=h;refine ⟨H0,G,ρ,I,?_⟩;replace o:oo K EX lp e H0 G H (ml ρ>>=C5) Rr:=o
 revert o
 cases ml ρ with
 |stuck=>show id
 |ex x=>show id
 | ok w=>
  intro o x G1 H1 e1 m1;have I1:=I.ext e1;have o':oo K EX lp e H0 G H (C5 w) Rr:=o;cases q:C5 w with
  |stuck=>rw[q]at o';show o'.elim
  |ex z=>cases w <;> cases q
  | ok ws=>
   rw[q]at o';obtain ⟨t,a,vs,ex,s,r⟩:=Md.src he I1 m1 q;show ⟨a,ex,t,vs,K7 (jv I1) s,o' _ G1 H1 e1 (BT he s r)⟩
def Q3 (lo hi:Int):R Zp:=if -1000000<=lo/\lo<=1000000 /\ -1000000<=hi/\hi<=1000000 then .ok ((List.range (hi-lo).toNat).map λk=>W.int (lo+(k:Nat))) else .stuck
def F4:List W->R Zp
 | [.int j]=>Q3 0 j
 |_=>.stuck
def rng2:List W->R Zp
 | [.int i,.int j]=>Q3 i j
 |_=>.stuck
def xL (he:e=.V\/e=.U):cN K e H0 Z G (Itr lo n) ((List.range n).map λk=>W.int (lo+(k:Nat))):=by
 refine ⟨λi H hi _=>by change i<n;simpa using hi,λH _=>by simp [Itr],λi H x H' w hw _ a3 G2 ρ σ I _=>?_⟩;obtain ⟨e1,e2⟩:=a3;subst e1;subst e2;rw[qC1]at hw;cases q:(List.range n)[i]? with
 |none=>rw[q]at hw;cases hw
 | some k=>
  rw[q]at hw;have hk:k=i:=by
   have:=qA6.mp q
   obtain ⟨h1,h2⟩:=this;simpa using h2.symm
  subst hk;cases hw;refine ⟨G2,Le I.gh,Md.sca rfl (λ_=>.int) e⟩
def bZ (h:tIt K EX lp e (λρ=>ma ρ>>=k) σ H Rr)(hq:∀H0 G ρ G1 H1 xs ws us,PIv K H0 G ρ σ H->Ext G H G1 H1->MdA K b H0 H G1 H1 ws xs->k ws=.ok us->(∀J G' H',Ext G H G' H'->cN K e H0 (if lp then join H0 G' else H') G' J us->Rr J H')->Q xs H1)(hx:∀ws e,k ws≠.ex e):tA K EX b ma σ H Q:=by
 obtain ⟨H0,G,ρ,I,o⟩:=h;refine ⟨H0,G,ρ,I,?_⟩;replace o:oo K EX lp e H0 G H (ma ρ>>=k) Rr:=o
 revert o
 cases ma ρ with
 |stuck=>show id
 |ex x=>show id
 | ok ws=>
  intro o xs G1 H1 e1 m1;have o':oo K EX lp e H0 G H (k ws) Rr:=o;cases q:k ws with
  |stuck=>rw[q]at o';show o'.elim
  |ex z=>show absurd q (hx ws z)
  |ok us=>rw[q]at o';show hq H0 G ρ G1 H1 xs ws us I e1 m1 q o'
def Aw (h:Q3 lo hi=.ok us):(-1000000<=lo/\lo<=1000000 /\ -1000000<=hi/\hi<=1000000)/\us=(List.range (hi-lo).toNat).map λk=>W.int (lo+(k:Nat)):=by
 unfold Q3 at h
 split at h
 .cases h;rename_i c;show ⟨c,rfl⟩
 .cases h
def wI (h:Q3 lo hi=.ex e):False:=by
 unfold Q3 at h;by_cases c:-1000000<=lo/\lo<=1000000 /\ -1000000<=hi/\hi<=1000000
 .rw[qA2 c]at h;cases h
 .rw[qA4 c]at h;cases h
def Im (he:e=.V\/e=.U)(h:tIt K EX lp e (λρ=>ma ρ>>=F4) σ H Rr):zr (tA K EX .B ma) σ H Rr:=by
 refine bZ h (λH0 G ρ G1 H1 xs ws us I e1 m1 q o=>?_) (λws e z=>?_)
 .cases m1 with
  |nil=>cases q
  | @cons w _ _ _ a t=>
   cases t with
   |cons _ _=>first | (cases q;done) | (cases w <;> cases q)
   | nil=>
    cases w <;> first | (cases q;done)|skip
    rename_i j
    obtain ⟨c,rfl⟩:=Aw (show Q3 0 j=_ from q);refine ⟨j,by rw[Md.intB a],ox,ox,?_⟩
    have:=o (Itr 0 j.toNat) G1 H1 e1
    rw[Int.sub_zero]at this;show this (xL he)
 .cases ws with
  |nil=>cases z
  | cons w t=>
   cases t with
   |cons _ _=>first | (cases z;done) | (cases w <;> cases z)
   | nil=>
    cases w <;> first | (cases z;done)|skip
    show wI (lo:=0) z
def fE:List Zp->List Zp
 | [xs,ys]=>xs.zipWith (λx y=>[x,y]) ys
 | [xs,ys,zs]=>(xs.zip ys).zipWith (λp z=>[p.1,p.2,z]) zs
 |_=>[]
def W8:List W->R (List Zp)
 | []=>.ok []
 | w::ws=>match C5 w,W8 ws with
  | .ok x,.ok xs=>.ok (x::xs)
  |_,_=>.stuck
def N4 (ws:Zp):R Zp:=if ws.length=2\/ws.length=3 then (match W8 ws with
 | .ok xs=>.ok ((fE xs).map W.tup)
 |_=>.stuck) else .stuck
def ja (he:e=.V\/e=.U)(I:PIv K H0 G ρ σ H)(hp:H p=none)(r:Reps K (fz e H0 G) vs ws):Ext G H (upd G p (.tup vs)) (upd H p (.tup vs))/\Md K H0 Hs (upd G p (.tup vs)) (upd H p (.tup vs)) (.ref p) (.tup ws) e:=by
 refine ⟨fZ I.gh hp,?_⟩;have gp:G p=none:=I.gh.free hp;rcases he with rfl|rfl
 .unfold fz at r;rw[qA2 rfl]at r;show .tup j6 (r.same λb u q=>by rw[d8 (e9 q gp)];show q)
 .unfold fz at r;rw[qA4 (show ¬ (Mode.U=Mode.V) by intro z;cases z)]at r
  change Rep K (join H0 (upd G p (.tup vs))) _ _;rw[nG (I.hh.free hp)];show .tup j6 (r.same λb u q=>by rw[d8 (e9 (I.join_H b u q) hp)];show q)
def uW (he:e=.V\/e=.U)(s1:Sq K Z t a xs)(s2:Sq K Z u b ys)(r1:Reps K (fz e H0 G) xs us)(r2:Reps K (fz e H0 G) ys vs):
  cN K e H0 Z G (ItZ K [(t,a),(u,b)]) ((us.zipWith (λx y=>[x,y]) vs).map W.tup):=by
 have Rn:=tH s1 s2;have l1:=r1.length;have l2:=r2.length;have hl:((us.zipWith (λx y=>[x,y]) vs).map W.tup).length=min xs.length ys.length:=by simp [l1,l2]
 refine ⟨λi H hi z=>Rn.go i H ox z,λH z=>by rw[hl];show Rn.stop H z,λi H x H' w hw z y G2 ρ σ I sg=>?_⟩;have hi:i<min xs.length ys.length:=by
  rw[<- hl];show (qA6.mp hw).1
 obtain ⟨p,y1,z1,rfl,hp,rfl,hy,hz⟩:=Rn.yld i H x H' hi z y;obtain ⟨w1,e1,q1⟩:=Reps.get' r1 hy;obtain ⟨w2,e2,q2⟩:=Reps.get' r2 hz;have a3:w=.tup [w1,w2]:=by
  rw[qC1,qL5,e1,e2]at hw;cases hw;rfl
 subst a3;obtain ⟨x1,x2⟩:=ja (Hs:=H) he I hp (.cons (q1.same (N0 sg)) (.cons (q2.same (N0 sg)) .nil));show ⟨_,x1,x2⟩
def uV (he:e=.V\/e=.U)(s1:Sq K Z t a xs)(s2:Sq K Z u b ys)(s3:Sq K Z v c zs)(r1:Reps K (fz e H0 G) xs us)(r2:Reps K (fz e H0 G) ys vs)(r3:Reps K (fz e H0 G) zs ts):
  cN K e H0 Z G (ItZ K [(t,a),(u,b),(v,c)]) (((us.zip vs).zipWith (λp z=>[p.1,p.2,z]) ts).map W.tup):=by
 have Rn:=tG s1 s2 s3;have l1:=r1.length;have l2:=r2.length;have l3:=r3.length;have hl:(((us.zip vs).zipWith (λp z=>[p.1,p.2,z]) ts).map W.tup).length=min xs.length (min ys.length zs.length):=by simp [l1,l2,l3,Nat.min_assoc]
 refine ⟨λi H hi z=>Rn.go i H ox z,λH z=>by rw[hl];show Rn.stop H z,λi H x H' w hw z y G2 ρ σ I sg=>?_⟩;have hi:i<min xs.length (min ys.length zs.length):=by
  rw[<- hl];show (qA6.mp hw).1
 obtain ⟨p,y1,z1,t1,rfl,hp,rfl,hy,hz,ht⟩:=Rn.yld i H x H' hi z y;obtain ⟨w1,e1,q1⟩:=Reps.get' r1 hy;obtain ⟨w2,e2,q2⟩:=Reps.get' r2 hz;obtain ⟨w3,e3,q3⟩:=Reps.get' r3 ht;have a3:w=.tup [w1,w2,w3]:=by
  rw[qC1,qL5,List.zip,qL5,e1,e2,e3]at hw;cases hw;rfl
 subst a3;obtain ⟨x1,x2⟩:=ja (Hs:=H) he I hp (.cons (q1.same (N0 sg)) (.cons (q2.same (N0 sg)) (.cons (q3.same (N0 sg)) .nil)));show ⟨_,x1,x2⟩
def ci (h:W8 (w::ws)=.ok xs):∃y ys,C5 w=.ok y/\W8 ws=.ok ys/\xs=y::ys:=by
 unfold W8 at h;cases h1:C5 w with
 |stuck=>rw[h1]at h;cases h
 |ex _=>rw[h1]at h;cases h
 | ok y=>
  rw[h1]at h;cases I:W8 ws with
  |stuck=>rw[I]at h;cases h
  |ex _=>rw[I]at h;cases h
  |ok ys=>rw[I]at h;cases h;show ⟨y,ys,rfl,rfl,rfl⟩
def JZ (he:e=.V\/e=.U)(h:tIt K EX lp e (λρ=>ma ρ>>=N4) σ H Rr):GP K (tA K EX (dh lp e) ma) σ H Rr:=by
 refine bZ h (λH0 G ρ G1 H1 xs ws us I e1 m1 q o=>?_) (λws e z=>?_)
 .have I1:=I.ext e1;unfold N4 at q
  split at q
  .rename_i hn
   cases hs:W8 ws with
   |stuck=>rw[hs]at q;cases q
   |ex _=>rw[hs]at q;cases q
   | ok ls=>
    rw[hs]at q;cases q;cases m1 with
    |nil=>simp at hn
    | cons a1 m1=>
     cases m1 with
     |nil=>simp at hn
     | cons a2 m1=>
      obtain ⟨y1,ys,h1,a5,rfl⟩:=ci hs;obtain ⟨y2,ys,h2,a4,rfl⟩:=ci a5;obtain ⟨t1,p1,v1,rfl,q1,r1⟩:=Md.src he I1 a1 h1;obtain ⟨t2,p2,v2,rfl,q2,r2⟩:=Md.src he I1 a2 h2;have k1:=K7 (jv I1) q1;have k2:=K7 (jv I1) q2;cases m1 with
      | nil=>
       cases a4;refine ⟨[(t1,p1),(t2,p2)],rfl,.inl rfl,λu hu=>?_,o _ G1 H1 e1 (uW he q1 q2 r1 r2)⟩;simp only [qB6,qE3,qS4]at hu;rcases hu with rfl|rfl
       .show ⟨_,k1⟩
       .show ⟨_,k2⟩
      | cons a3 m1=>
       cases m1 with
       |cons _ _=>simp at hn
       | nil=>
        obtain ⟨y3,ys,h3,a6,rfl⟩:=ci a4;cases a6;obtain ⟨t3,p3,v3,rfl,q3,r3⟩:=Md.src he I1 a3 h3;refine ⟨[(t1,p1),(t2,p2),(t3,p3)],rfl,.inr rfl,λu hu=>?_,o _ G1 H1 e1 (uV he q1 q2 q3 r1 r2 r3)⟩;simp only [qB6,qE3,qS4]at hu;rcases hu with rfl|rfl|rfl
        .show ⟨_,k1⟩
        .show ⟨_,k2⟩
        .show ⟨_,K7 (jv I1) q3⟩
  .cases q
 .unfold N4 at z
  split at z
  .split at z <;> cases z
  .cases z
def Reps.atI (r:Reps K F vs ws)(h:L2.atI ws i=some w):∃v,L2.atI vs i=some v/\Rep K F v w:=by
 unfold L2.atI at h ⊢;rw[r.length];cases q:ixN ws.length i with
 |none=>rw[q]at h;cases h
 |some j=>rw[q]at h;show Reps.get r h
def fIx:W->W->R W
 | .lst ws,.int i=>toR (L2.atI ws i)
 | .tup ws,.int i=>toR (L2.atI ws i)
 | .scr ws,.int i=>toR (L2.atI ws i)
 |_,_=>.stuck
def FR:Op2 K .B .U (rIx K) fIx:=by
 intro EX H0 Hs G H ρ σ Ha Hb x y u v Q I s mx my o;cases u <;> first|show o.elim|skip
 all_goals (cases v <;> first|show o.elim|skip)
 .rename_i ws i
  obtain ⟨a,vs,rfl,hs,r⟩:=mx.tupB I;replace o:Out EX G H (mdW K .U H0 Hs) (toR (L2.atI ws i)) Q:=o
  cases q:L2.atI ws i with
  |none=>rw[q]at o;show o.elim
  | some w=>
   rw[q]at o;obtain ⟨v,hv,rv⟩:=r.atI q;show .inr (.inl ⟨a,vs,i,v,rfl,my.intB,SqT.of hs,hv,o v G H (Le I.gh) rv⟩)
 .rename_i ws i
  obtain ⟨a,vs,rfl,hs,r⟩:=mx.lstB I;replace o:Out EX G H (mdW K .U H0 Hs) (toR (L2.atI ws i)) Q:=o
  cases q:L2.atI ws i with
  |none=>rw[q]at o;show o.elim
  | some w=>
   rw[q]at o;obtain ⟨v,hv,rv⟩:=r.atI q;show .inl ⟨a,vs,i,v,rfl,my.intB,SqL.of hs,hv,o v G H (Le I.gh) rv⟩
 .rename_i ws i
  obtain ⟨a,vs,rfl,hs,r⟩:=mx.scrB I;replace o:Out EX G H (mdW K .U H0 Hs) (toR (L2.atI ws i)) Q:=o
  cases q:L2.atI ws i with
  |none=>rw[q]at o;show o.elim
  | some w=>
   rw[q]at o;obtain ⟨v,hv,rv⟩:=r.atI q;show .inl ⟨a,vs,i,v,rfl,my.intB,hs,hv,o v G H (Le I.gh) rv⟩
def FQ:Op2 K .C .V (rIx K) fIx:=by
 intro EX H0 Hs G H ρ σ Ha Hb x y u v Q I s mx my o;cases u <;> first|show o.elim|skip
 all_goals (cases v <;> first|show o.elim|skip)
 .rename_i ws i
  obtain ⟨a,vs,rfl,hs,r⟩:=mx.tupC I;replace o:Out EX G H (mdW K .V H0 Hs) (toR (L2.atI ws i)) Q:=o
  cases q:L2.atI ws i with
  |none=>rw[q]at o;show o.elim
  | some w=>
   rw[q]at o;obtain ⟨v,hv,rv⟩:=r.atI q;show .inr (.inl ⟨a,vs,i,v,rfl,Md.intB (Md.CB I my),SqT.of hs,hv,o v G H (Le I.gh) rv⟩)
 .rename_i ws i
  obtain ⟨a,vs,rfl,hs,r⟩:=mx.lstC I;replace o:Out EX G H (mdW K .V H0 Hs) (toR (L2.atI ws i)) Q:=o
  cases q:L2.atI ws i with
  |none=>rw[q]at o;show o.elim
  | some w=>
   rw[q]at o;obtain ⟨v,hv,rv⟩:=r.atI q;show .inl ⟨a,vs,i,v,rfl,Md.intB (Md.CB I my),SqL.of hs,hv,o v G H (Le I.gh) rv⟩
 .rename_i ws i
  obtain ⟨a,vs,rfl,hs,r⟩:=(Md.repC mx λ_=>W.noConfusion).inv;replace o:Out EX G H (mdW K .V H0 Hs) (toR (L2.atI ws i)) Q:=o
  cases q:L2.atI ws i with
  |none=>rw[q]at o;show o.elim
  | some w=>
    rw[q]at o;obtain ⟨v,hv,rv⟩:=r.atI q;show .inl ⟨_,_,i,v,rfl,Md.intB (Md.CB I my),Same.seq I.gh hs,hv,o v G H (Le I.gh) rv⟩
def V4 (K:Frag)(EX:EXT)(m:Rho->R VX):TO:=λσ H Q=>∃H0 G ρ,PIv K H0 G ρ σ H/\Out EX G H (λ(b c:VX) _ _=>c=b) (m ρ) Q
def ll:W->R VX
 | .int i=>.ok (some i)
 |_=>.stuck
def yD (h:V4 K EX (λ_=>.ok none) σ H Q):tNoPart σ H Q:=by
 obtain ⟨H0,G,ρ,I,o⟩:=h;show o none G H (Le I.gh) rfl
def Io (h:V4 K EX (λρ=>m ρ>>=ll) σ H Q):yR (tM K EX .B m) σ H Q:=by
 obtain ⟨H0,G,ρ,I,o⟩:=h;refine ⟨H0,G,ρ,I,Lg o λx G1 H1 u e1 m1 o1=>?_⟩;cases u <;> first|show o1.elim|skip
 rename_i i
 show ⟨i,m1.intB,o1 _ G1 H1 (Le e1.gh) rfl⟩
def K0 (xs:Zp)(lo hi:VX):Zp:=(xs.drop (HT.sIx xs.length 0 lo)).take (HT.sIx xs.length xs.length hi-HT.sIx xs.length 0 lo)
def Reps.cut (r:Reps K F vs ws)(lo hi:VX):Reps K F (cH vs lo hi) (K0 ws lo hi):=by
 unfold cH K0;rw[r.length];show (r.drop _).take _
def lstOf:W->Option Zp
 | .lst ws=>some ws
 | .scr ws=>some ws
 |_=>none
def chks (c:Bool)(ws:Zp):R W:=if c||m9 ws then .ok (.lst ws) else .stuck
def cb (c:Bool):Mode:=if c then .C else .B
def Md.lstOf (I:PIv K H0 G ρ σ H)(m:Md K H0 Ha G H x w (cb c))(h:lstOf w=some ws):∃a vs,x=.ref a/\SqL K H a vs/\Reps K (if c then G else join H0 G) vs ws:=by
 cases c with
 | true=>
  rw[qA2 rfl];cases w <;> first|cases h|skip
  .obtain ⟨a,vs,e,hs,r⟩:=Md.lstC (H:=Ha) I m;show ⟨a,vs,e,SqL.of hs,r⟩
  .obtain ⟨a,vs,e,hs,r⟩:=(Md.repC m λ_=>W.noConfusion).inv;show ⟨a,vs,e,Same.seq I.gh hs,r⟩
 | false=>
  rw[qA4 qA3];cases w <;> first|cases h|skip
  .obtain ⟨a,vs,e,hs,r⟩:=Md.lstB (H:=Ha) I m;show ⟨a,vs,e,SqL.of hs,r⟩
  .show Md.scrB (H:=Ha) I m
def Out.chks {Q:VK}(I:PIv K H0 G ρ σ H)(s:Same Hs H)(r:Reps K (if c then G else join H0 G) vs ws)(o:Out EX G H (mdW K .F H0 Hs) (chks c ws) Q):∀p,H p=none->Q (.ref p) (upd H p (.lst vs)):=by
 unfold TP.chks at o;by_cases n:(c||m9 ws)=true
 .rw [qA2 n]at o
  have r':Reps K G vs ws:=by
   cases c with
   |true=>rw[qA2 rfl]at r;show r
   |false=>rw[qA4 qA3]at r;show Reps.clean I r (by simpa using n)
  show λp hp=>Out.newL I s r' hp o
 .rw[qA4 n]at o;show o.elim
def c_sl (h:tM K EX .F (λρ=>m ρ>>=λx=>ml ρ>>=λl=>mh ρ>>=λu=>toR (lstOf x)>>=λws=>chks c (K0 ws l u)) σ H Q):
  tSl (ER K) (tM K EX (cb c) m) (V4 K EX ml) (V4 K EX mh) σ H Q:=by
 obtain ⟨H0,G,ρ,I,o⟩:=h;refine ⟨H0,G,ρ,I,Lg o λx G1 H1 w e1 m1 o1=>⟨H0,G1,ρ,I.ext e1,Lg o1 λl' G2 H2 l e2 m2 o2=>⟨H0,G2,ρ,(I.ext e1).ext e2,Lg o2 λu' G3 H3 u e3 m3 o3=>?_⟩⟩⟩;subst m2;subst m3;have I3:=((I.ext e1).ext e2).ext e3;cases q:lstOf w with
 |none=>rw[q]at o3;show o3.elim
 | some ws=>
  rw[q]at o3;obtain ⟨a,vs,ex,hs,r⟩:=Md.lstOf I3 ((m1.move e2).move e3) q;refine ⟨a,vs,ex,hs,Out.chks I3 ((e1.hh.trans e2.hh).trans e3.hh) (c:=c) ?_ o3⟩;cases c with
  |true=>rw[qA2 rfl]at r ⊢;show r.cut _ _
  |false=>rw[qA4 qA3]at r ⊢;show r.cut _ _
def Cal (K:Frag)(b d:Mode)(r:List V->Hp->VK->Prop)(f:List W->R W):Prop:=∀(EX:EXT) (H0 Hs G H:Hp) (ρ:Rho) (σ:St) (I:Hp) (vs:List V) (ws:Zp) (Q:VK),PIv K H0 G ρ σ H->Same Hs H->MdA K b H0 I G H ws vs ->
 Out EX G H (mdW K d H0 Hs) (f ws) Q->r vs H Q
def Iz (hr:Cal K b d r f)(h:tM K EX d (λρ=>ma ρ>>=λws=>f ws) σ H Q):tCB r (tA K EX b ma) σ H Q:=by
 obtain ⟨H0,G,ρ,I,o⟩:=h;show ⟨H0,G,ρ,I,Lg o λxs G1 H1 ws e1 m1 o1=>hr EX H0 H G1 H1 ρ σ H xs ws Q (I.ext e1) e1.hh m1 o1⟩
def fLen:List W->R W
 | [w]=>C5 w>>=λws=>.ok (.int ws.length)
 |_=>.stuck
def v4:Cal K .B d (λxs H Q=>∃p ys,xs = [.ref p]/\(SqL K H p ys\/SqT K H p ys)/\Q (.int ys.length) H) fLen:=by
 intro EX H0 Hs G H ρ σ Ha vs ws Q I s m o;cases m with
 |nil=>show o.elim
 | cons a t=>
  cases t with
  |cons _ _=>show o.elim
  | nil=>
   rename_i w v
   cases w <;> first|show o.elim|skip
   .obtain ⟨p,ys,rfl,hs,r⟩:=a.tupB I;show ⟨p,ys,rfl,.inr (SqT.of hs),by rw[r.length];show o _ G H (Le I.gh) (Md.sca rfl (λ_=>.int) d)⟩
   .obtain ⟨p,ys,rfl,hs,r⟩:=a.lstB I;show ⟨p,ys,rfl,.inl (SqL.of hs),by rw[r.length];show o _ G H (Le I.gh) (Md.sca rfl (λ_=>.int) d)⟩
   .obtain ⟨p,ys,rfl,hs,r⟩:=a.scrB I;show ⟨p,ys,rfl,.inl hs,by rw[r.length];show o _ G H (Le I.gh) (Md.sca rfl (λ_=>.int) d)⟩
def X6 (c:Bool):List W->R W
 | [w]=>C5 w>>=chks c
 |_=>.stuck
def bT:Cal K (cb c) .F (λxs H Q=>∃p ys,xs = [.ref p]/\(SqL K H p ys\/SqT K H p ys)/\∀l,H l=none->Q (.ref l) (upd H l (.lst ys))) (X6 c):=by
 intro EX H0 Hs G H ρ σ Ha vs ws Q I s m o;cases m with
 |nil=>show o.elim
 | cons a t=>
  cases t with
  |cons _ _=>show o.elim
  | nil=>
   rename_i w v
   cases w <;> first|show o.elim|skip
   .rename_i us
    cases c with
    | true=>
     obtain ⟨p,ys,rfl,hs,r⟩:=Md.tupC (H:=Ha) I a;show ⟨p,ys,rfl,.inr (SqT.of hs),Out.chks (c:=true) I s r o⟩
    | false=>
     obtain ⟨p,ys,rfl,hs,r⟩:=Md.tupB (H:=Ha) I a;show ⟨p,ys,rfl,.inr (SqT.of hs),Out.chks (c:=false) I s r o⟩
   .obtain ⟨p,ys,rfl,hs,r⟩:=Md.lstOf I a rfl;show ⟨p,ys,rfl,.inl hs,Out.chks I s r o⟩
   .obtain ⟨p,ys,rfl,hs,r⟩:=Md.lstOf I a rfl;show ⟨p,ys,rfl,.inl hs,Out.chks I s r o⟩
def W4 (c:Bool)(ws:Zp):R W:=if c||m9 ws then .ok (.tup ws) else .stuck
def z7 (c:Bool):List W->R W
 | [w]=>C5 w>>=W4 c
 |_=>.stuck
def x8:Cal K (cb c) .F (λxs H Q=>∃p ys,xs = [.ref p]/\((SqL K H p ys/\∀l,H l=none->Q (.ref l) (upd H l (.tup ys)))\/(SqT K H p ys/\Q (.ref p) H))) (z7 c):=by
 intro EX H0 Hs G H ρ σ Ha vs ws Q I s m o;have key:∀{vs:List V}{us:Zp},Reps K (if c then G else join H0 G) vs us->Out EX G H (mdW K .F H0 Hs) (W4 c us) Q->Reps K G vs us/\Out EX G H (mdW K .F H0 Hs) (.ok (.tup us)) Q:=λ{vs us} r o=>by
  unfold W4 at o;by_cases n:(c||m9 us)=true
  .rw [qA2 n]at o
   refine ⟨?_,o⟩;cases c with
   |true=>rw[qA2 rfl]at r;show r
   |false=>rw[qA4 qA3]at r;show Reps.clean I r (by simpa using n)
  .rw[qA4 n]at o;show o.elim
 cases m with
 |nil=>show o.elim
 | cons a t=>
  cases t with
  |cons _ _=>show o.elim
  | nil=>
   rename_i w v
   cases w <;> first|show o.elim|skip
   .rename_i us
    have hx:∃p ys,v=.ref p/\(if c then G else join H0 G) p=some (.tup ys)/\Reps K (if c then G else join H0 G) ys us:=by
     cases c with
     |true=>rw[qA2 rfl];show (Md.repC a λ_=>W.noConfusion).inv
     |false=>rw[qA4 qA3];show (Md.repB a λ_=>W.noConfusion).inv
    obtain ⟨p,ys,rfl,hp,r⟩:=hx;obtain ⟨r',o'⟩:=key r o;have hH:H p=some (.tup ys):=by
     cases c with
     |true=>rw[qA2 rfl]at hp;show I.gh _ _ hp
     |false=>rw[qA4 qA3]at hp;show I.join_H _ _ hp
    have hG:G p=some (.tup ys):=by
     cases c with
     |true=>rw[qA2 rfl]at hp;show hp
     | false=>
      rw[qA4 qA3]at hp;unfold join at hp;cases q:H0 p with
      |none=>rw[q]at hp;show hp
      | some u=>
       rw[q]at hp;dsimp only at hp;by_cases hl:isL u=true
       .rw[qA2 hl]at hp;cases hp;cases hl
       .rw[qA4 hl]at hp;show hp
    show ⟨p,ys,rfl,.inr ⟨SqT.of hH,o' _ G H (Le I.gh) (.tup hG r')⟩⟩
   .obtain ⟨p,ys,rfl,hs,r⟩:=Md.lstOf I a rfl;obtain ⟨r',o'⟩:=key r o;show ⟨p,ys,rfl,.inl ⟨hs,λl hl=>Out.newTF I r' hl o'⟩⟩
   .obtain ⟨p,ys,rfl,hs,r⟩:=Md.lstOf I a rfl;obtain ⟨r',o'⟩:=key r o;show ⟨p,ys,rfl,.inl ⟨hs,λl hl=>Out.newTF I r' hl o'⟩⟩
def f2 (g:Int->Int->Int):List W->R W
 | [.int i,.int j]=>.ok (.int (g i j))
 |_=>.stuck
def b_2:Cal K .B d (λxs H Q=>∃i j,xs = [.int i,.int j]/\Q (.int (g i j)) H) (f2 g):=by
 intro EX H0 Hs G H ρ σ Ha vs ws Q I s m o;unfold f2 at o
 split at o
 .cases m with
  | cons a t=>
   cases t with
   | cons b t=>
    cases t;show ⟨_,_,by rw[a.intB,b.intB],o _ G H (Le I.gh) (Md.sca rfl (λ_=>.int) d)⟩
 .show o.elim
def tyW:W->Option String
 | .non=>some "NoneType"
 | .bl _=>some "bool"
 | .int _=>some "int"
 | .str _=>some "str"
 | .tup _=>some "tuple"
 | .lst _=>some "list"
 |_=>none
def fIsi:List W->R W
 | [x,.ty T]=>toR ((tyW x).bind λA=>B5 A T)>>=λb=>.ok (.bl b)
 |_=>.stuck
def Du (I:PIv K H0 G ρ σ H)(m:Md K H0 Ha G H v w .B)(h:tyW w=some A):L2.tyB H v=some A:=by
 cases w <;> first|cases h|skip
 .rw[m.nonB];rfl
 .rw[m.blB];rfl
 .rw[m.intB];rfl
 .rw[m.strB];rfl
 .obtain ⟨a,vs,rfl,hs,r⟩:=m.tupB I
  change L2.tyO (H a)=_;rw[hs];rfl
 .obtain ⟨a,vs,rfl,hs,r⟩:=m.lstB I
  change L2.tyO (H a)=_;rw[hs];rfl
def U6:Cal K .B d rIsi fIsi:=by
 intro EX H0 Hs G H ρ σ Ha vs ws Q I s m o;cases m with
 |nil=>show o.elim
 | @cons x _ _ _ a t=>
  cases t with
  |nil=>show o.elim
  | @cons y _ _ _ b t=>
   cases t with
   |cons _ _=>first|show o.elim | (cases y <;> show o.elim)
   | nil=>
    cases y <;> first|show o.elim|skip
    rename_i T
    replace o:Out EX G H (mdW K d H0 Hs) (toR ((tyW x).bind λA=>B5 A T)>>=λb=>.ok (.bl b)) Q:=o
    cases q:tyW x with
    |none=>rw[q]at o;show o.elim
    | some A=>
     rw[q]at o;replace o:Out EX G H (mdW K d H0 Hs) (toR (B5 A T)>>=λb=>.ok (.bl b)) Q:=o
     cases q2:B5 A T with
     |none=>rw[q2]at o;show o.elim
     | some c=>
      rw[q2]at o;show ⟨_,T,by rw[b.tyB],A,Du I a q,c,q2,o _ G H (Le I.gh) (Md.sca rfl (λ_=>.bl) d)⟩
def T0 (c:Bool):W->W->R W
 | .lst us,.lst vs=>if us.length+vs.length<=1000 then chks c (us++vs) else .stuck
 |_,_=>.stuck
def Z3:Op2 K (cb c) .F rCat (T0 c):=by
 intro EX H0 Hs G H ρ σ Ha Hb x y u v Q I s mx my o;cases u <;> first|show o.elim|skip
 all_goals (cases v <;> first|show o.elim|skip)
 rename_i us vs
 replace o:Out EX G H (mdW K .F H0 Hs) (if us.length+vs.length<=1000 then chks c (us++vs) else .stuck) Q:=o
 by_cases hn:us.length+vs.length<=1000
 .rw [qA2 hn]at o
  have h1:∃a ws,x=.ref a/\H a=some (.lst ws)/\Reps K (if c then G else join H0 G) ws us:=by
   cases c with
   |true=>show Md.lstC (H:=Ha) I mx
   |false=>show Md.lstB (H:=Ha) I mx
  have h2:∃a ws,y=.ref a/\H a=some (.lst ws)/\Reps K (if c then G else join H0 G) ws vs:=by
   cases c with
   |true=>show Md.lstC (H:=Hb) I my
   |false=>show Md.lstB (H:=Hb) I my
  obtain ⟨a,xs,rfl,ha,ra⟩:=h1;obtain ⟨b,ys,rfl,hb,rb⟩:=h2;show ⟨a,b,xs,ys,rfl,rfl,ha,hb,by rw[ra.length,rb.length];show Y1 hn,Out.chks I s (ra.append rb) o⟩
 .rw[qA4 hn]at o;show o.elim
def fRep (c:Bool):W->W->R W
 | .lst us,.int k=>if us.length*k.toNat<=1000 /\ -1000<=k/\k<=1000 then chks c (List.replicate k.toNat us).flatten else .stuck
 |_,_=>.stuck
def mC (w:W):Zo:=λ_=>.ok w
def b1 (f:W->R W)(ma:Zo):Zo:=λρ=>ma ρ>>=λx=>f x
def b2 (f:W->W->R W)(ma mb:Zo):Zo:=λρ=>ma ρ>>=λx=>mb ρ>>=λy=>f x y
def bA (f:List W->R W)(ma:ZQ):Zo:=λρ=>ma ρ>>=λws=>f ws
def bI (f:List W->R Zp)(ma:ZQ):ZQ:=λρ=>ma ρ>>=f
def bS (ma:Zo):ZQ:=λρ=>ma ρ>>=C5
def aN:ZQ:=λ_=>.ok []
def aC (ma:Zo)(I:ZQ):ZQ:=λρ=>ma ρ>>=λx=>I ρ>>=λxs=>.ok (x::xs)
def R8 (ma:Zo):Zo:=λρ=>ma ρ>>=chk
def f6 (ma:Zo):ZZ:=λρ=>ma ρ>>=toB
def eE (a b:ZZ):ZZ:=λρ=>rAnd (a ρ) (b ρ)
def iQ (a b:ZZ):ZZ:=λρ=>rOr (a ρ) (b ρ)
def W7 (a:ZZ):ZZ:=λρ=>qI (a ρ)
def iP (a b:Zo):Zo:=λρ=>eM (a ρ) (b ρ)
def vOr (a b:Zo):Zo:=λρ=>mF (a ρ) (b ρ)
def we (a:Zo):Zo:=λρ=>kZ (a ρ)
def vIf (c:ZZ)(a b:Zo):Zo:=λρ=>c ρ>>=λt=>if t then a ρ else b ρ
def Dt (f I:W->W->R W)(ma mb mc:Zo):Zo:=λρ=>ma ρ>>=λx=>mb ρ>>=λy=>f x y>>=λz=>toB z>>=λc=>if c then mc ρ>>=λu=>I y u else .ok (.bl false)
def u9 (ma:ZQ):Zo:=λρ=>ma ρ>>=λws=>lim ws.length (.tup ws)
def y6 (ma:ZQ):Zo:=λρ=>ma ρ>>=λws=>lim ws.length (.lst ws)
def pN:Rho->R VX:=λ_=>.ok none
def pS (m:Zo):Rho->R VX:=λρ=>m ρ>>=ll
def vSl (c:Bool)(m:Zo)(ml I:Rho->R VX):Zo:=λρ=>m ρ>>=λx=>ml ρ>>=λl=>I ρ>>=λu=>toR (lstOf x)>>=λws=>chks c (K0 ws l u)
def k7 (n:Nat)(I:ZQ)(mg:ZJ)(mc:ZZ)(me:Zo):Zo:=λρ=>I ρ>>=λws=>l6 n mg mc me ws ρ
def yes:ZZ:=λ_=>.ok true
def sNx:Zg:=λρ=>.ok (.nx ρ)
def Jf (m:Zo):Zg:=λρ=>m ρ>>=λ_=>.ok (.nx ρ)
def i5 (m:Zo):Zg:=λρ=>m ρ>>=λw=>.ok (.rt w)
def Jc:Zg:=λ_=>.ok (.rt .non)
def sV (i:Nat)(m:Zo):Zg:=λρ=>m ρ>>=λw=>.ok (.nx (ρ.set i (.val w)))
def sU (i:Nat)(m:Zo):Zg:=λρ=>m ρ>>=λw=>.ok (.nx (ρ.set i (.par w)))
def sF (i:Nat)(m:Zo):Zg:=λρ=>m ρ>>=λw=>.ok (.nx (ρ.set i (P7 w)))
def sG (mg:ZJ)(m:Zo):Zg:=λρ=>m ρ>>=λw=>toR (mg w ρ)>>=λI=>.ok (.nx I)
def A0 (I:ZQ)(mg:ZJ)(mb:Zg):Zg:=λρ=>I ρ>>=λws=>F6 mg mb ws ρ
def F3 (i:Nat)(m:Zg):Zg:=λρ=>m (frz i ρ)
def tE:Zg:=λ_=>.stuck
def sBk:Zg:=λρ=>.ok (.bk ρ)
def sCt:Zg:=λρ=>.ok (.ct ρ)
def _root_.L2.PE.mono {X:Cx}{e:Expr}{t t':TE}(h:PE X e t)(hm:∀σ H Q,t' σ H Q->t σ H Q):PE X e t':=λpins s σ H Q I q=>h pins s σ H Q I (hm σ H Q q)
def _root_.L2.PT.mono {X:Cx}{e:Expr}{t t':TT}(h:PT X e t)(hm:∀σ H Q,t' σ H Q->t σ H Q):PT X e t':=λpins s σ H Q I q=>h pins s σ H Q I (hm σ H Q q)
def _root_.L2.PW.mono {X:Cx}{e:Expr}{t t':TT}(h:PW X e t)(hm:∀σ H Q,t' σ H Q->t σ H Q):PW X e t':=λwh pins s σ H Q I q=>h wh pins s σ H Q I (hm σ H Q q)
def _root_.L2.PA.mono {X:Cx}{es:Zz}{t t':TA}(h:PA X es t)(hm:∀σ H Q,t' σ H Q->t σ H Q):PA X es t':=λpos pins s σ H Q I q=>h pos pins s σ H Q I (hm σ H Q q)
def _root_.L2.PS.mono {X:Cx}{st:Stmt}{t t':TS}(h:PS X st t)(hm:∀D σ H,t' D σ H->t D σ H):PS X st t':=λpins s σ H D I q=>h pins s σ H D I (hm D σ H q)
def _root_.L2.PSs.mono {X:Cx}{a3:List Stmt}{t t':TS}(h:PSs X a3 t)(hm:∀D σ H,t' D σ H->t D σ H):PSs X a3 t':=λpins s σ H D I q=>h pins s σ H D I (hm D σ H q)
def _root_.L2.PI.mono {X:Cx}{e:Expr}{tg:Expr}{t t':TI}(h:PI X tg e t)(hm:∀σ H Q,t' σ H Q->t σ H Q):PI X tg e t':=λpins s σ H Q I q=>h pins s σ H Q I (hm σ H Q q)
def _root_.L2.PO.mono {X:Cx}{oe:Option Expr}{t t':TO}(h:PO X oe t)(hm:∀σ H Q,t' σ H Q->t σ H Q):PO X oe t':=by
 intro pins s σ H Q I q;show h pins s σ H Q I (hm σ H Q q)
def r9 (h:PE X e (tM K EX .F ma)):PE X e (tM K EX .V ma):=h.mono λ_ _ _ q=>Bv q
def dy (h:PE X e (tM K EX .V ma)):PE X e (tM K EX .U ma):=h.mono λ_ _ _ q=>Bs q
def Fm (h:PE X e (tM K EX .V ma)):PE X e (tM K EX .C ma):=h.mono λ_ _ _ q=>Bt q
def f8 (h:PE X e (tM K EX .F ma)):PE X e (tM K EX .C ma):=h.mono λ_ _ _ q=>Bw q
def g7 (h:PE X e (tM K EX .U ma)):PE X e (tM K EX .B ma):=h.mono λ_ _ _ q=>Bu q
def i8 (h:PE X e (tM K EX .C ma)):PE X e (tM K EX .B ma):=h.mono λ_ _ _ q=>Bx q
def N6 (h:PE X e (tM K EX .U ma)):PE X e (tM K EX .V (R8 ma)):=h.mono λ_ _ _ q=>mZ (.inr rfl) q
def Fk (h:PE X e (tM K EX .U ma)):PE X e (tM K EX .F (R8 ma)):=h.mono λ_ _ _ q=>mZ (.inl rfl) q
def qv {X:Cx}{K:Frag}{EX:EXT}{pos:Pos}(d:Mode)(i:Nat){x:Str}(hN:X.N[i]?=some x:=by rfl)(hv:Vis X.env.scope x:=by first|show Or.inl rfl|show Or.inr (Or.inl rfl)|show Or.inr (Or.inr rfl))(hd:(x == ("__debug__":Str))=false:=by decide)(I:(x == ("__classdict__":Str))=false:=by decide):PE X (.Name x pos) (tM K EX d (b7 d i)):=(Q4 hN hv hd I).mono λ_ _ _ q=>rO q
def c9 {i j}:PE X (.Constant (.int i) j pos) (tM K EX d (mC (.int i))):=pe_int.mono λ_ _ _ q=>bQ rfl (λ_=>.int) q
def F5 {t j}:PE X (.Constant (.bool t) j pos) (tM K EX d (mC (.bl t))):=pe_bl.mono λ_ _ _ q=>bQ rfl (λ_=>.bl) q
def E4 {j}:PE X (.Constant .none j pos) (tM K EX d (mC .non)):=pe_non.mono λ_ _ _ q=>bQ rfl (λ_=>.non) q
def E3 {x j}:PE X (.Constant (.str x) j pos) (tM K EX d (mC (.str x))):=pe_str.mono λ_ _ _ q=>bQ rfl (λ_=>.str) q
def aQ {X:Cx}{K:Frag}{EX:EXT}{d:Mode}{pos:Pos}{x:Str}{n:String}(I:Gl X x)(hm:X.mg x=none)(hv:bootBuiltins x=some (.type n))(hn:x ≠ "__name__":=by decide)(hd:(x == ("__debug__":Str))=false:=by decide):PE X (.Name x pos) (tM K EX d (mC (.ty n))):=
 (Bc (v:=.ty n) I hm hv rfl hn hd).mono λ_ _ _ q=>bQ rfl (λ_=>.ty) q
def f7 (ho:OpR X (binaryOp op) r)(I:Op2 K b d r f)(ha:PE X a (tM K EX b ma))(hb:PE X c (tM K EX b mb)):PE X (.BinOp a op c pos) (tM K EX d (b2 f ma mb)):=
 (JB ho ha hb).mono λ_ _ _ q=>oa I q
def cu (ho:OpR X (compareOp op) r)(I:Op2 K b d r f)(ha:PE X a (tM K EX b ma))(hb:PE X c (tM K EX b mb))(hm:behindInMarks op c=false:=by first|show ur _|rfl):PE X (.Compare a [op] [c] pos) (tM K EX d (b2 f ma mb)):=
 (Ba ho ha hb hm).mono λ_ _ _ q=>oa I q
def g8 (ho:OpR X (compareOp op) r)(hr:Op2 K b .B r f)(ha:PE X a (tM K EX b ma))(hb:PE X c (tM K EX b mb))(hm:behindInMarks op c=false:=by first|show ur _|rfl):PT X (.Compare a [op] [c] pos) (tT K EX (f6 (b2 f ma mb))):=
 (AR ho ha hb hm).mono λσ H Q q=>by
  obtain ⟨H0,G,ρ,I,o⟩:=q
  have:=vM (ma:=b2 f ma mb) ⟨H0,G,ρ,I,o⟩
  show oa hr this
def Y7 (ho:UnR X (unaryOp op) r)(I:Op1 K b d r f)(ha:PE X a (tM K EX b ma)):PE X (.UnaryOp op a pos) (tM K EX d (b1 f ma)):=
 (JA ho ha).mono λ_ _ _ q=>c_un I q
def v7 (ha:PE X a (tM K EX .B ma))(I:∀whole,isTrue a X.env whole=(do let v <- whole;standAt a.pos;holding [v] (truthy v)):=by intro _;rfl):PT X a (tT K EX (f6 ma)):=
 (Fp ha I).mono λ_ _ _ q=>c_tB q
def eN (ha:PT X a (tT K EX ta)):PW X (.BoolOp .And [a] pos) (tT K EX ta):=AQ ha
def gM (ha:PT X a (tT K EX ta)):PW X (.BoolOp .Or [a] pos) (tT K EX ta):=Fn ha
def gO {rest:Zz}(ha:PT X a (tT K EX ta))(hb:PW X (.BoolOp .And (b::rest) pos) (tT K EX tb)):PW X (.BoolOp .And (a::b::rest) pos) (tT K EX (eE ta tb)):=(Fo ha hb).mono λ_ _ _ q=>Kq q
def lf {rest:Zz}(ha:PT X a (tT K EX ta))(hb:PW X (.BoolOp .Or (b::rest) pos) (tT K EX tb)):PW X (.BoolOp .Or (a::b::rest) pos) (tT K EX (iQ ta tb)):=(Jp ha hb).mono λ_ _ _ q=>c_or q
def Y8 (ha:PT X a (tT K EX ta)):PT X (.UnaryOp .Not a pos) (tT K EX (W7 ta)):=(Fq ha).mono λ_ _ _ q=>Ke q
def qK {op}(h:PE X a (tM K EX d ma)):PE X (.BoolOp op [a] pos) (tM K EX d ma):=FA h
def lg {rest:Zz}(ha:PE X a (tM K EX .B ma))(hb:PE X (.BoolOp .And (b::rest) pos) (tM K EX d mb)):PE X (.BoolOp .And (a::b::rest) pos) (tM K EX d (iP ma mb)):=(FE ha hb).mono λ_ _ _ q=>IC q
def Jk (ha:PE X a (tM K EX .B ma)):PE X (.UnaryOp .Not a pos) (tM K EX d (we ma)):=(FB ha).mono λ_ _ _ q=>Ip q
def qL (ht:PT X t (tT K EX ta))(ha:PE X a (tM K EX d ma))(hb:PE X c (tM K EX d mb)):PE X (.IfExp t a c pos) (tM K EX d (vIf ta ma mb)):=(xg ht ha hb).mono λ_ _ _ q=>c_if q
def b8:PA X [] (tA K EX d aN):=pa_nil.mono λ_ _ _ q=>Kf q
def b6 (ha:PE X e (tM K EX d ma))(I:PA X es (tA K EX d mr))(hs:starEach (e::es) X.env=(false,eval e X.env)::starEach es X.env:=by rfl):PA X (e::es) (tA K EX d (aC ma mr)):=(jf ha I hs).mono λ_ _ _ q=>Iy q
def v8 {x1}(h:PA X es (tA K EX .V mr)):PE X (.Tuple es x1 pos) (tM K EX .F (u9 mr)):=(tZ h).mono λ_ _ _ q=>Ka q
def bj {x1}(h:PA X es (tA K EX .U mr)):PE X (.Tuple es x1 pos) (tM K EX .U (u9 mr)):=(tZ h).mono λ_ _ _ q=>Ij q
def w8 (h:PA X es (tA K EX .V mr)):PE X (.List es pos) (tM K EX .F (y6 mr)):=(FC h).mono λ_ _ _ q=>Kg q
def d9 {X:Cx}{K:Frag}{EX:EXT}{a c:Expr}{pos:Pos}{ma mb:Zo}(ha:PE X a (tM K EX .B ma))(hb:PE X c (tM K EX .B mb))(hs:jP c:=by show λ_ _=>rfl)(I:X.K=K:=by rfl):PE X (.Subscript a c pos) (tM K EX .U (b2 fIx ma mb)):=by
 subst I;show (zf uU ha hb hs).mono λ_ _ _ q=>oa FR q
def az {X:Cx}{K:Frag}{EX:EXT}{a c:Expr}{pos:Pos}{ma mb:Zo}(ha:PE X a (tM K EX .C ma))(hb:PE X c (tM K EX .C mb))(hs:jP c:=by show λ_ _=>rfl)(I:X.K=K:=by rfl):PE X (.Subscript a c pos) (tM K EX .V (b2 fIx ma mb)):=by
 subst I;show (zf uU ha hb hs).mono λ_ _ _ q=>oa FQ q
def fV:PO X none (V4 K EX pN):=po_none.mono λ_ _ _ q=>yD q
def fS (h:PE X e (tM K EX .B ma)):PO X (some e) (V4 K EX (pS ma)):=(AU h).mono λ_ _ _ q=>Io q
def jb {X:Cx}{K:Frag}{EX:EXT}{e:Expr}{pos:Pos}{ma:Zo}(k:Bool){lo hi:Option Expr}{p2:Pos}{ml I:Rho->R VX}(he:PE X e (tM K EX (cb k) ma))(hl:PO X lo (V4 K EX ml))(hu:PO X hi (V4 K EX I))(hK:X.K=K:=by rfl):PE X (.Subscript e (.Slice lo hi none p2) pos) (tM K EX .F (vSl k ma ml I)):=by
 subst hK;show (mJ Am he hl hu).mono λ_ _ _ q=>c_sl q
def m8 {X:Cx}{K:Frag}{EX:EXT}{d b:Mode}{e:Expr}{es:Zz}{pos:Pos}{mr:ZQ}{x:Str}{id:String}{r:List V->Hp->VK->Prop}{f:List W->R W}{p:Pos}(hc:F2 X (.builtin id) r)(hr:Cal K b d r f)(hg:Gl X x)(hm:X.mg x=none)(hv:bootBuiltins x=some (.builtin id))(ha:PA X (e::es) (tA K EX b mr))(hn:x ≠ "__name__":=by decide)(a3:(x == ("__debug__":Str))=false:=by decide)(he:starEach (e::es) X.env=(false,eval e X.env)::starEach es X.env:=by rfl)(I:(backTo pos (starEach es X.env)).any (·.1)=false:=by rfl):
  PE X (.Call (.Name x p) (e::es) [] pos) (tM K EX d (bA f mr)):=(xi hc hg hm hv ha hn a3 he I).mono λ_ _ _ q=>Iz hr q
def w4 {X:Cx}{K:Frag}{EX:EXT}{d b:Mode}{e:Expr}{es:Zz}{pos:Pos}{mr:ZQ}{x:Str}{T:String}{r:List V->Hp->VK->Prop}{f:List W->R W}{p:Pos}(hc:F2 X (.type T) r)(hr:Cal K b d r f)(hg:Gl X x)(hm:X.mg x=none)(hv:bootBuiltins x=some (.type T))(ha:PA X (e::es) (tA K EX b mr))(hn:x ≠ "__name__":=by decide)(a3:(x == ("__debug__":Str))=false:=by decide)(he:starEach (e::es) X.env=(false,eval e X.env)::starEach es X.env:=by rfl)(I:(backTo pos (starEach es X.env)).any (·.1)=false:=by rfl):
  PE X (.Call (.Name x p) (e::es) [] pos) (tM K EX d (bA f mr)):=(ud hc hg hm hv ha hn a3 he I).mono λ_ _ _ q=>Iz hr q
def v5 (I:X.K=K:=by rfl):F2 X (.builtin "len") (λxs H Q=>∃p ys,xs = [.ref p]/\(SqL K H p ys\/SqT K H p ys)/\Q (.int ys.length) H):=by subst I;show nZ
def bW (I:X.K=K:=by rfl):F2 X (.type "list") (λxs H Q=>∃p ys,xs = [.ref p]/\(SqL K H p ys\/SqT K H p ys)/\∀l,H l=none->Q (.ref l) (upd H l (.lst ys))):=by subst I;show nY
def x9 (I:X.K=K:=by rfl):F2 X (.type "tuple") (λxs H Q=>∃p ys,xs = [.ref p]/\((SqL K H p ys/\∀l,H l=none->Q (.ref l) (upd H l (.tup ys)))\/(SqT K H p ys/\Q (.ref p) H))):=by subst I;show kW
def tP {X:Cx}{K:Frag}{d:Mode}{e:Expr}{es:Zz}{pos:Pos}{mr:ZQ}{k:Nat}{f:Addr}{fd:FuncData}{ps:Zq}{x:Str}{p:Pos}{n N:Nat}{m:Zg}(F:FnOk X.prog X.w X.K X.mg X.base CX0 k f fd ps (spM K n d (g9 n N m)))(hd:d=.F\/d=.V)(hr:Room k X.A)(hg:Gl X x)(hm:X.mg x=some (.ref f))(hk:PySem.W.keepIn X.K (.ref f)=true)(hb:Binds X.K fd ps [])(ha:PA X (e::es) (tA K (λ_ _=>False) .B mr))(a3:(x == ("__debug__":Str))=false:=by decide)(he:starEach (e::es) X.env=(false,eval e X.env)::starEach es X.env:=by rfl)(I:(backTo pos (starEach es X.env)).any (·.1)=false:=by rfl):
  PE X (.Call (.Name x p) (e::es) [] pos) (tM K (λ_ _=>False) d (bA (g9 n N m) mr)):=
 (je F hr hg hm hk hb .nil qN ha a3 he I).mono λ_ _ _ q=>IA hd (λws h=>wG ws h) (λ_ _ z=>z) q
def zb (h:PE X e (tM K EX (dh lp .U) ma))(I:X.K=K:=by rfl):PI X tg e (tIt K EX lp .U (bS ma)):=by subst I;show (Jz h).mono λ_ _ _ q=>Ki (.inr rfl) q
def z9 (I:Gl X "range")(hm:X.mg "range" = none)(ha:PA X [a] (tA K EX .B mr))(hs:starEach [a] X.env = [(false,eval a X.env)]:=by rfl):PI X tg (.Call (.Name "range" p) [a] [] pos) (tIt K EX lp .U (bI F4 mr)):=
 (tX I hm ha hs).mono λ_ _ _ q=>Im (.inr rfl) q
def za {X:Cx}{K:Frag}{EX:EXT}{a:Expr}{es:Zz}{pos:Pos}{mr:ZQ}{lp:Bool}{elts:Zz}{p tp:Pos}{k:Nat}(hg:Gl X "zip")(hm:X.mg "zip" = none)(ha:PA X (a::es) (tA K EX (dh lp .U) mr))(hK:X.K=K:=by rfl)(hs:starEach (a::es) X.env=(false,eval a X.env)::starEach es X.env:=by rfl)(I:(backTo pos (starEach es X.env)).any (·.1)=false:=by rfl):
  PI X (.Tuple elts k tp) (.Call (.Name "zip" p) (a::es) [] pos) (tIt K EX lp .U (bI N4 mr)):=by subst hK;show (Fx hg hm ha hs I).mono λ_ _ _ q=>JZ (.inr rfl) q
def Fj (S:e8 X.env.scope cs X.N N')(hc:X.calm=true)(hi:PI X tg iter (tIt K EX false dd mi))(hg:∀cl ex s H,PG (l9 X cs cl N' ex s H) tg g)(I:Gt K dd g mg)(hk:U7 X.N.length g)(ht:∀cl ex s H,PIf (l9 X cs cl N' ex s H) ifs (tT K EX ta))(he:∀cl ex s H,PE (l9 X cs cl N' ex s H) elt (tM K EX .V ma))(hs:∀x,foldedSetIterable iter X.env x=pure x:=by intro _;rfl):PE X (.ListComp elt [⟨tg,iter,ifs,0⟩] cs pos) (tM K EX .F (k7 N'.length mi mg ta ma)):=
 (AZ S hc hi hg hk ht he hs).mono λ_ _ _ q=>vP I q
def Fa {X:Cx}{K:Frag}{EX:EXT}{d:Mode}{pos:Pos}{ma:Zo}{ta:ZZ}{i:Nat}{y:Str}{py:Pos}{cs:Scope}{N':Zq}{tg iter a4:Expr}{a3:Zz}{dd:Mode}{g:TG}{mg:ZJ}{mi:ZQ}{I:Pos}(S:e8 X.env.scope cs X.N N')(hc:X.calm=true)(hi:PI X tg iter (tIt K EX false dd mi))(hg:∀cl ex s H,PG (l9 X cs cl N' ex s H) tg g)(a5:Gt K dd g mg)(hk:U7 X.N.length g)(ht:∀cl ex s H,PIf (l9 X cs cl N' ex s H) a3 (tT K EX ta))(he:∀cl ex s H,PE (l9 X cs cl N' ex s H) a4 (tM K EX .V ma))(hN:X.N.Nodup)(hy:X.N[i]?=some y)(hl:Loc X.env.scope y)(a6:swapsWith (.ListComp a4 [⟨tg,iter,a3,0⟩] cs I) (some (.Name y py)) pos.line X.env=pure true:=by rfl)(hf:X.fn y=true\/X.env.scope.names.lookup y=some .local:=by first|show .inl rfl|show .inr rfl|assumption)(hs:∀x,foldedSetIterable iter X.env x=pure x:=by intro _;rfl):PS X (.Assign [.Name y py] (.ListComp a4 [⟨tg,iter,a3,0⟩] cs I) pos) (tSt K EX d (sF i (k7 N'.length mi mg ta ma))):=
 (AT S hc hi hg hk ht he hN hy hl a6 hf hs).mono λD σ H q=>by
  have:=vN (m:=k7 N'.length mi mg ta ma) q
  show vP a5 this
def q4:PIf X [] (tT K EX yes):=λpins s σ H Q I q=>AX pins s σ H Q I (by obtain ⟨H0,G,ρ,I0,o⟩:=q;show o true G H (Le I0.gh) rfl)
def M0 (h:PT X c (tT K EX ta)):PIf X [c] (tT K EX ta):=AW h
def i9:PSs X [] (tSt K EX d sNx):=pss_nil.mono λ_ _ _ q=>Iq q
def b9 (h1:PS X st (tSt K EX d m))(I:PSs X sts (tSt K EX d n)):PSs X (st::sts) (tSt K EX d (d0 m n)):=(wY h1 I).mono λ_ _ _ q=>Kc q
def c7 (h1:PS X st (tSt K EX d m)):PSs X [st] (tSt K EX d m):=AS h1
def C6 (h:PS X st (tSt K EX d m)):PS X st (tSt K EX d (F3 i m)):=h.mono λ_ _ _ q=>Kj q
def Fi:PS X (.Continue pos) (tSt K EX d sCt):=ps_continue.mono λ_ _ _ q=>Ix q
def AL:PS X st (tSt K EX d tE):=ps_never.mono λ_ _ _ q=>CM q
def f9 (I:PE X e (tM K EX d ma)):PS X (.Return (some e) pos) (tSt K EX d (i5 ma)):=(tR I).mono λ_ _ _ q=>zI q
def J0 {X:Cx}{K:Frag}{EX:EXT}{d:Mode}{pos:Pos}(i:Nat){x:Str}{p:Pos}(hd:d=.F\/d=.V)(hN:X.N[i]?=some x:=by rfl)(hv:Vis X.env.scope x:=by first|show Or.inl rfl|show Or.inr (Or.inl rfl)|show Or.inr (Or.inr rfl))(a3:(x == ("__debug__":Str))=false:=by decide)(I:(x == ("__classdict__":Str))=false:=by decide):PS X (.Return (some (.Name x p)) pos) (tSt K EX d (v9 d i)):=(tR (Q4 hN hv a3 I)).mono λ_ _ _ q=>yC hd q
def m5 {X:Cx}{K:Frag}{EX:EXT}{d:Mode}{e:Expr}{pos:Pos}{ma:Zo}{i:Nat}{x:Str}{pos':Pos}(hN:X.N.Nodup)(hi:X.N[i]?=some x)(hx:Loc X.env.scope x)(he:PE X e (tM K EX .V ma))(hs:swapsWith e (some (.Name x pos')) pos.line X.env=pure false:=by rfl)(I:X.fn x=true\/X.env.scope.names.lookup x=some .local:=by first|show .inl rfl|show .inr rfl|assumption):
  PS X (.Assign [.Name x pos'] e pos) (tSt K EX d (sV i ma)):=(bp hN hi hx he hs I).mono λ_ _ _ q=>Ik q
def tO {X:Cx}{K:Frag}{EX:EXT}{d:Mode}{e:Expr}{pos:Pos}{ma:Zo}{i:Nat}{x:Str}{pos':Pos}(hN:X.N.Nodup)(hi:X.N[i]?=some x)(hx:Loc X.env.scope x)(he:PE X e (tM K EX .U ma))(hs:swapsWith e (some (.Name x pos')) pos.line X.env=pure false:=by rfl)(I:X.fn x=true\/X.env.scope.names.lookup x=some .local:=by first|show .inl rfl|show .inr rfl|assumption):
  PS X (.Assign [.Name x pos'] e pos) (tSt K EX d (sU i ma)):=(bp hN hi hx he hs I).mono λ_ _ _ q=>Il q
def i6 {X:Cx}{K:Frag}{EX:EXT}{d:Mode}{e:Expr}{pos:Pos}{ma:Zo}{i:Nat}{x:Str}{pos':Pos}(hN:X.N.Nodup)(hi:X.N[i]?=some x)(hx:Loc X.env.scope x)(he:PE X e (tM K EX .F ma))(hs:swapsWith e (some (.Name x pos')) pos.line X.env=pure false:=by rfl)(I:X.fn x=true\/X.env.scope.names.lookup x=some .local:=by first|show .inl rfl|show .inr rfl|assumption):
  PS X (.Assign [.Name x pos'] e pos) (tSt K EX d (sF i ma)):=(bp hN hi hx he hs I).mono λ_ _ _ q=>vN q
def Jo {X:Cx}{K:Frag}{EX:EXT}{d b:Mode}{e:Expr}{pos:Pos}{ma:Zo}{tg:Expr}{g:TG}{mg:ZJ}(he:PE X e (tM K EX b ma))(hg:PG X tg g)(I:Gt K b g mg)(hs:swapsWithSole [tg] e pos.line X.env=pure false:=by rfl)(hw:swappedStores [tg] e X.env=pure none:=by rfl)(h1:(assignEach [tg] X.env).map (·.2) = [assign tg X.env]:=by rfl):PS X (.Assign [tg] e pos) (tSt K EX d (sG mg ma)):=
 (tS he hg hs hw h1).mono λ_ _ _ q=>Ko I q
def U0 {X:Cx}{K:Frag}{EX:EXT}{d:Mode}{e:Expr}{pos:Pos}{ma:Zo}{i:Nat}{x:Str}{p apos I:Pos}(hN:X.N[i]?=some x)(hv:Vis X.env.scope x)(ha:PE X e (tM K EX .V ma))(hd:(x == ("__debug__":Str))=false:=by decide)(a6:(x == ("__classdict__":Str))=false:=by decide)(a4:attributeBase (.Name x p) "append" X.env (eval (.Name x p) X.env)=eval (.Name x p) X.env:=by rfl) (a5:((backTo I (starEach [e] X.env)).all (λx=>!x.1)&&(backToKw I (keywordEach [] X.env)).all (λx=>x.1.isSome)
   && decide (([e]:Zz).length+([]:List Keyword).length+(if ([]:List Keyword).isEmpty then 0 else 1)<30))=true:=by rfl) (a3:(apos.endLine == I.line)=true:=by rfl) (hs:starEach [e] X.env=(false,eval e X.env)::starEach [] X.env:=by rfl) (a7:swapsWith (.Call (.Attribute (.Name x p) "append" apos) [e] [] I) none pos.line X.env=pure false:=by rfl):
  PS X (.Expr (.Call (.Attribute (.Name x p) "append" apos) [e] [] I) pos) (tSt K EX d (Q8 i ma)):=(oZ (ue (Q4 hN hv hd a6) ha a4 a5 a3 hs) a7).mono λ_ _ _ q=>Kp q
def j3 (hc:PT X c (tT K EX ta))(ha:PSs X x (tSt K EX d m))(hb:PSs X y (tSt K EX d n)):PS X (.If c x y pos) (tSt K EX d (mIf ta m n)):=(Jq hc ha hb).mono λ_ _ _ q=>Kh q
def S4 (I:PassesOwn (model X.prog X.w) X.A X.env X.xe)(hc:PT X c (tT K EX ta))(hb:PSs X body (tSt K EX d m)):PS X (.While c body [] pos) (tSt K EX d (J3 ta m)):=(wZ I hc hb).mono λ_ _ _ q=>CL q
def w9 (hp:PassesOwn (model X.prog X.w) X.A X.env X.xe)(hc:X.calm=true)(hi:PI X tg iter (tIt K EX true dd mi))(hg:PG X tg g)(I:Gt K dd g mg)(hb:PSs X body (tSt K EX d m))(hs:∀x,foldedSetIterable iter X.env x=pure x:=by intro _;rfl):PS X (.For tg iter body [] pos) (tSt K EX d (A0 mi mg m)):=(Fs hp hc hi hg hb hs).mono λ_ _ _ q=>Kk I q
def zc {X:Cx}{K:Frag}{EX:EXT}{d:Mode}{e:Expr}{pos:Pos}{ma:Zo}{i:Nat}{x:Str}{I:Operator}{f:Int->Int->Int}{pos':Pos}(hN:X.N.Nodup)(hi:X.N[i]?=some x)(hx:Loc X.env.scope x)(he:PE X e (tM K EX .B ma))(ho:PIp X I (ipI f))(hf:X.fn x=true\/X.env.scope.names.lookup x=some .local:=by first|show .inl rfl|show .inr rfl|assumption):
  PS X (.AugAssign (.Name x pos') I e pos) (tSt K EX d (ju i f ma)):=(Ft hN hi hx he ho hf).mono λ_ _ _ q=>Kn q
def ay {X:Cx}{K:Frag}{EX:EXT}{d:Mode}{e:Expr}{pos:Pos}{ma mb:Zo}{i:Nat}{x:Str}{k:Expr}{p I:Pos}(hN:X.N[i]?=some x)(hv:Vis X.env.scope x)(hk:PE X k (tM K EX .B mb))(he:PE X e (tM K EX .V ma))(hd:(x == ("__debug__":Str))=false:=by decide)(a3:(x == ("__classdict__":Str))=false:=by decide)(hg:PG X (.Subscript (.Name x p) k I) (gSub (V3 i) (tM K EX .B mb) rSetL))(hs:swapsWithSole [.Subscript (.Name x p) k I] e pos.line X.env=pure false:=by rfl)(hw:swappedStores [.Subscript (.Name x p) k I] e X.env=pure none:=by rfl):PS X (.Assign [.Subscript (.Name x p) k I] e pos) (tSt K EX d (V5 i mb ma)):=
 (tS he hg hs hw).mono λ_ _ _ q=>fg q
abbrev gLt (i j:Int):W:=.bl (decide (i<j))
abbrev gLe (i j:Int):W:=.bl (decide (i<=j))
abbrev gGt (i j:Int):W:=.bl (decide (j<i))
abbrev gGe (i j:Int):W:=.bl (decide (j<=i))
abbrev B0 (i j:Int):W:=.int (i+j)
abbrev gSub (i j:Int):W:=.int (i-j)
abbrev o7 (i j:Int):W:=.int (i*j)
abbrev o8 (i j:Int):W:=.int (i%j)
abbrev A9 (i j:Int):W:=.int (i/j)
abbrev xY (i j:Int):W:=.int (i^j.toNat)
abbrev F8 (i:Int):W:=.int (-i)
abbrev jD (i j:Int):Int:=if j>i then j else i
abbrev GS (i j:Int):Int:=if j<i then j else i
abbrev rE (i j:Int):Int:=i+j
abbrev JN (i j:Int):Int:=i-j
abbrev n9 (_ j:Int):Prop:=0<j
instance (i j:Int):Decidable (CMul i j):=by unfold CMul;infer_instance
instance (i j:Int):Decidable (w6 i j):=by unfold w6;infer_instance
instance (i j:Int):Decidable (gB i j):=by unfold gB;infer_instance
instance (i j:Int):Decidable (zT i j):=by unfold zT;infer_instance
def vOf:W->Option V
 | .non=>some .non
 | .bl b=>some (.bl b)
 | .int i=>some (.int i)
 | .str x=>some (.str x)
 |_=>none
def yl (u v:W):Option Bool:=match vOf u,vOf v with
 |some x,some y=>if lZ x y then some (decide (x=y)) else none
 |_,_=>none
def t7 (neg:Bool)(u v:W):R W:=match yl u v with
 |some b=>.ok (.bl (if neg then !b else b))
 |none=>.stuck
def kX (h:Md K H0 Ha G H v w .B)(e:vOf w=some x):v=x:=by
 cases w <;> first|cases e|skip
 .show h.nonB
 .show h.blB
 .show h.intB
 .show h.strB
def y9:Op2 K .B d rEq (t7 false):=by
 intro EX H0 Hs G H ρ σ Ha Hb x y u v Q I s mx my o;unfold t7 yl at o;cases hu:vOf u with
 |none=>rw[hu]at o;show o.elim
 | some p=>
  cases hv:vOf v with
  |none=>rw[hu,hv]at o;show o.elim
  | some q=>
   rw[hu,hv]at o;cases kX mx hu;cases kX my hv;dsimp only at o;by_cases c:lZ x y=true
   .rw [qA2 c]at o
    show ⟨c,o _ G H (Le I.gh) (Md.sca rfl (λ_=>.bl) d)⟩
   .rw[qA4 c]at o;show o.elim
def dC:Op2 K .B d rNe (t7 true):=by
 intro EX H0 Hs G H ρ σ Ha Hb x y u v Q I s mx my o;unfold t7 yl at o;cases hu:vOf u with
 |none=>rw[hu]at o;show o.elim
 | some p=>
  cases hv:vOf v with
  |none=>rw[hu,hv]at o;show o.elim
  | some q=>
   rw[hu,hv]at o;cases kX mx hu;cases kX my hv;dsimp only at o;by_cases c:lZ x y=true
   .rw [qA2 c]at o
    show ⟨c,o _ G H (Le I.gh) (Md.sca rfl (λ_=>.bl) d)⟩
   .rw[qA4 c]at o;show o.elim
mutual
def pd:W->PyData
 | .non=>.none
 | .bl b=>.bool b
 | .int i=>.int i
 | .str x=>.str x
 | .ty _=>.none
 | .exc _ _=>.none
 | .cls _=>.none
 | .tup ws=>.tuple (pds ws)
 | .lst ws=>.list (pds ws)
 | .scr ws=>.list (pds ws)
def pds:List W->List PyData
 | []=>[]
 |w::ws=>pd w::pds ws
end
mutual
def shp:Nat->W->Bool
 |_,.non=>true
 |_,.bl _=>true
 |_,.int _=>true
 |_,.str x=>PyData.strOk x
 |n+1,.tup ws=>P8 n ws
 |n+1,.lst ws=>P8 n ws
 |n+1,.scr ws=>P8 n ws
 |_,_=>false
def P8:Nat->List W->Bool
 |_,[]=>true
 |n,w::ws=>shp n w&&P8 n ws
end
def di:∀(w:W) (n:Nat),shp n w=true->(pd w).canLay0=true/\(pd w).depth<=n:=by
 intro w;have tl:∀(ws:Zp) (c:List PyData->PyData),(∀l,(c l).canLay0=PyData.canLayAll0 l)->(∀l,(c l).depth=PyData.depthAll l+1)->(∀n:Nat,P8 n ws=true->PyData.canLayAll0 (pds ws)=true/\PyData.depthAll (pds ws)<=n)->∀n:Nat,(match n with|0=>false|n+1=>P8 n ws)=true->(c (pds ws)).canLay0=true/\(c (pds ws)).depth<=n:=λws c h1 h2 I n h=>by
  cases n with
  |zero=>cases h
  |succ n=>have:=I n h;show ⟨by rw[h1];show this.1,by rw[h2];show qH7 this.2⟩
 have fl:∀{n:Nat}{w:W}{P:Prop},shp n w=false->shp n w=true->P:=λh1 h2=>by rw[h1]at h2;cases h2
 induction w using W.rec (motive_2:=λws=>∀n:Nat,P8 n ws=true->PyData.canLayAll0 (pds ws)=true/\PyData.depthAll (pds ws)<=n) with
 |non=>show λn _=>⟨rfl,qC7 _⟩
 |bl b=>show λn _=>⟨rfl,qC7 _⟩
 |int i=>show λn _=>⟨rfl,qC7 _⟩
 |str x=>show λn h=>⟨by cases n <;> show h,qC7 _⟩
 |ty a=>show λn h=>fl (by cases n <;> rfl) h
 |exc a b=>show λn h=>fl (by cases n <;> rfl) h
 |cls a=>show λn h=>fl (by cases n <;> rfl) h
 |tup ws I=>show λn h=>tl ws .tuple (λ_=>rfl) (λ_=>rfl) I n (by cases n <;> show h)
 |lst ws I=>show λn h=>tl ws .list (λ_=>rfl) (λ_=>rfl) I n (by cases n <;> show h)
 |scr ws I=>show λn h=>tl ws .list (λ_=>rfl) (λ_=>rfl) I n (by cases n <;> show h)
 |nil=>show ⟨rfl,qC7 _⟩
 | cons w ws h1 h2=>
  rename_i n h
  have h':shp n w=true/\P8 n ws=true:=(qH1 _ _).mp h;have a:=h1 n h'.1;have b:=h2 n h'.2;show ⟨by change (PyData.canLay0 _&&PyData.canLayAll0 _)=true;rw[a.1,b.1];rfl,Nat.max_le.mpr ⟨a.2,b.2⟩⟩
def iS (ws:Zp)(n:Nat)(h:P8 n ws=true):PyData.canLayAll0 (pds ws)=true/\PyData.depthAll (pds ws)<=n:=by
 have:=di (.tup ws) (n+1) h
 show ⟨this.1,Nat.le_of_succ_le_succ this.2⟩
def Rep.reads {σ:St}(I:Inv X pins σ H s)(n:Nat)(r:Rep X.K H x w):shp n w=true->RelV x u->∃as,Reads s.heap u (pd w) as:=by
 have fl:∀{n:Nat}{w:W}{P:Prop},shp n w=false->shp n w=true->P:=λh1 h2=>by rw[h1]at h2;cases h2
 induction r using Rep.rec (motive_2:=λxs ws _=>∀(us:VY) (n:Nat),P8 n ws=true->Vals xs us->∃as,ReadsAll s.heap us (pds ws) as) generalizing u n with
 |non=>intro _ r;cases r;show ⟨_,.none⟩
 |bl=>intro _ r;cases r;show ⟨_,.bool _⟩
 |int=>intro _ r;obtain ⟨t,rfl⟩:=r;show ⟨_,.int _ _⟩
 |str=>intro _ r;obtain ⟨t,rfl⟩:=r;show ⟨_,.str _ _⟩
 |ty=>show λh _=>fl (by cases n <;> rfl) h
 |exc=>show λh _=>fl (by cases n <;> rfl) h
 |cls=>show λh _=>fl (by cases n <;> rfl) h
 | tup ha _ ih=>
  intro h r;cases r;cases n with
  |zero=>cases h
  | succ n=>
   obtain ⟨its,rv,⟨o,e,c,k,dd⟩,_⟩:=I.tuple (SqT.of ha);obtain ⟨as,q⟩:=ih _ n h rv;show ⟨_,.tuple e c dd (by simpa using q)⟩
 | lst ha _ ih=>
  intro h r;cases r;cases n with
  |zero=>cases h
  | succ n=>
   obtain ⟨its,rv,pl,_⟩:=I.list (SqL.of ha);obtain ⟨o,e,c,k,dd⟩:=pl.isList;obtain ⟨as,q⟩:=ih _ n h rv;show ⟨_,.list e c dd (by simpa using q)⟩
 | scr ha _ ih=>
  intro h r;cases r;cases n with
  |zero=>cases h
  | succ n=>
   obtain ⟨its,rv,pl,_⟩:=I.list ha;obtain ⟨o,e,c,k,dd⟩:=pl.isList;obtain ⟨as,q⟩:=ih _ n h rv;show ⟨_,.list e c dd (by simpa using q)⟩
 |nil=>rename_i us n _ r;cases r;show ⟨_,.nil⟩
 | cons _ _ h1 h2=>
  rename_i us n h r
  cases r with
  | cons r1 r2=>
   have h':=(qH1 _ _).mp h;obtain ⟨as,q1⟩:=h1 n h'.1 r1;obtain ⟨bs,q2⟩:=h2 _ n h'.2 r2;show ⟨_,.cons q1 q2⟩
def eqW (u v:W):Bool:=PyData.eqv (pd u) (pd v)
def wU (K:Frag)(neg:Bool):R2:=λx y H Q=>∃u v,Rep K H x u/\Rep K H y v/\shp 8 u=true/\shp 8 v=true/\Q (.bl (if neg then !eqW u v else eqW u v)) H
def av (h:shp 8 w=true):SeqAt.shaped (pd w)=true:=by
 obtain ⟨a,b⟩:=di w 8 h;unfold SeqAt.shaped;rw[a,qL8];show qQ7 (qA8 b ZU)
def Z0 (hu:X.A.units+64<cLine):OpR X (compareOp .Eq) (wU X.K false):=by
 intro pins s σ H x y v u Q I rx ry h;obtain ⟨a,b,ra,rb,sa,sb,q⟩:=h;obtain ⟨as,qa⟩:=Rep.reads I 8 ra sa rx;obtain ⟨bs,qb⟩:=Rep.reads I 8 rb sb ry;show PyProof.Rows.eq_dataH qa qb (av sa) (av sb) hu ⟨.bl (eqW a b),H,I,rfl,q⟩
def gQ (hu:X.A.units+64<cLine):OpR X (compareOp .NotEq) (wU X.K true):=by
 intro pins s σ H x y v u Q I rx ry h;obtain ⟨a,b,ra,rb,sa,sb,q⟩:=h;obtain ⟨as,qa⟩:=Rep.reads I 8 ra sa rx;obtain ⟨bs,qb⟩:=Rep.reads I 8 rb sb ry;show PyProof.Rows.ne_dataH qa qb (av sa) (av sb) hu ⟨.bl (!eqW a b),H,I,rfl,q⟩
def fEq (neg:Bool)(u v:W):R W:=if shp 8 u&&shp 8 v then .ok (.bl (if neg then !eqW u v else eqW u v)) else .stuck
def M2:Op2 K .B d (wU K neg) (fEq neg):=by
 intro EX H0 Hs G H ρ σ Ha Hb x y u v Q I s mx my o;unfold fEq at o;by_cases c:(shp 8 u&&shp 8 v)=true
 .rw [qA2 c]at o
  have c':shp 8 u=true/\shp 8 v=true:=by simpa using c
  show ⟨u,v,mx.whole I,my.whole I,c'.1,c'.2,o _ G H (Le I.gh) (Md.sca rfl (λ_=>.bl) d)⟩
 .rw[qA4 c]at o;show o.elim
def aT:W->Bool->Bool
 | .bl a,b=>a == b
 |_,_=>false
def fIsB (neg:Bool):W->W->R W
 |u,.bl b=>.ok (.bl (if neg then !aT u b else aT u b))
 |_,_=>.stuck
def E7 (I:Room k A):A.units+64<cLine:=I.units
def O0 (r:Vals [x] us):∃u,us = [u]/\RelV x u:=by
 cases r with
 |cons a t=>cases t;show ⟨_,rfl,a⟩
def dP {s:Shared}{h':Heap}(hk:∀b u,b ∉ [s.heap.objs.size]->(s.heap.push o).get? b=some u->h'.get? b=some u):∀b u,s.heap.get? b=some u->h'.get? b=some u:=λb u e=>
 hk b u (by simp;show qD9 (qB5 e)) (qA9 _ e)
def sv {α:Type}{f:α->V}{g:α->Value->Prop}(I:∀a u,RelV (f a) u->g a u){as:List α}(r:Vals (as.map f) its){i:Nat}(h:its.toArray[i]?=some v):∃a,as[i]?=some a/\g a v:=by
 have h':its[i]?=some v:=by simpa using h
 induction as generalizing its i with
 |nil=>cases r;simp at h'
 | cons a as ih=>
  cases r with
  | cons q t=>
   cases i with
   |zero=>simp at h';subst h';show ⟨a,rfl,I _ _ q⟩
   |succ i=>simpa using ih t (i:=i) (by simpa using h') (by simpa using h')
def dc {σ:St}(I:Inv X pins σ H s)(hc:X.calm=true)(hp:H p=some (.lst xs)):∃its:List Value,Vals xs its/\s.heap.IsList p its.toArray/\xs.length=its.toArray.size/\p≠s.heap.objs.size /\
  Walks X.prog X.w X.A.in1 s.heap.objs.size [s.heap.objs.size,p] [s.heap.objs.size] its.toArray.size (λi v=>its.toArray[i]?=some v) (λi h=>h.IsListIter s.heap.objs.size p i/\h.IsList p its.toArray):=by
 obtain ⟨its,rv,pl,hz⟩:=I.list (SqL.of hp);obtain ⟨o,e,_⟩:=pl.isList;have a3:p≠s.heap.objs.size:=qD9 (qB5 e);show ⟨its,rv,pl.isList,by rw[qB7];show rv.length,a3,Walks.list (show X.A.in1.handled=none from I.ok.hd hc) _ p a3 _⟩
def all_range {bs:List Bool}:(List.range bs.length).all (λi=>bs.getD i false)=bs.all id:=by
 rw[qH4,qH8,qH8];constructor
 .intro h x I;obtain ⟨i,hi,e⟩:=qD1.mp I
  have:=h i (by simpa using hi)
  rw[qA0]at this;simpa [hi,e]using this
 .intro h i hi;have hi:i<bs.length:=by simpa using hi
  rw[qA0];simpa [hi]using h bs[i] (qJ7 hi)
def any_range {bs:List Bool}:(List.range bs.length).any (λi=>bs.getD i false)=bs.any id:=by
 rw[qH4,qD5,qD5];constructor
 .rintro ⟨i,hi,h⟩;have hi:i<bs.length:=by simpa using hi
  rw[qA0]at h;show ⟨bs[i],qJ7 hi,by simpa [hi]using h⟩
 .rintro ⟨x,I,h⟩;obtain ⟨i,hi,e⟩:=qD1.mp I;refine ⟨i,by simpa using hi,?_⟩;rw[qA0];simpa [hi,e]using h
def lT {X:Cx}{bs:List Bool}(rv:Vals (bs.map V.bl) its):TruthOf X.prog X.w A (λi v=>its.toArray[i]?=some v) (λi=>bs.getD i false):=λi v s' Q' E hv hq=>by
 obtain ⟨b,hb,e⟩:=sv (f:=V.bl) (g:=λb u=>u=.bool b) (λb u r=>r) rv hv;subst e
 have:bs.getD i false=b:=by rw[qA0,hb];rfl
 have I:Q' (bs.getD i false) s':=hq;rw[this]at I;show qS1 I
def vL (hc:X.calm=true):F2 X (.builtin "all") (λxs H Q=>∃(p:Addr) (bs:List Bool),xs = [.ref p]/\H p=some (.lst (bs.map V.bl))/\Q (.bl (bs.all id)) H):=by
 intro pins s σ H xs us Q I r h;obtain ⟨p,bs,rfl,hp,q⟩:=h;obtain ⟨u,rfl,rx⟩:=O0 r;cases rx;obtain ⟨its,rv,hl,hlen,a3,Wk⟩:=dc I hc hp;rw[qA5]at hlen;refine call_all_walk (qS5 hl ⟨_,_,_,_,_,_,_,rfl,Wk,⟨⟨_,qC5 _ rfl,rfl,rfl⟩,hl.push _⟩,lT rv,λh' tk hk=>?_⟩);rw[<- hlen,all_range];show ⟨.bl (bs.all id),H,I.kept (t':=tk) (dP hk),rfl,q⟩
def vK (hc:X.calm=true):F2 X (.builtin "any") (λxs H Q=>∃(p:Addr) (bs:List Bool),xs = [.ref p]/\H p=some (.lst (bs.map V.bl))/\Q (.bl (bs.any id)) H):=by
 intro pins s σ H xs us Q I r h;obtain ⟨p,bs,rfl,hp,q⟩:=h;obtain ⟨u,rfl,rx⟩:=O0 r;cases rx;obtain ⟨its,rv,hl,hlen,a3,Wk⟩:=dc I hc hp;rw[qA5]at hlen;refine call_any_walk (qS5 hl ⟨_,_,_,_,_,_,_,rfl,Wk,⟨⟨_,qC5 _ rfl,rfl,rfl⟩,hl.push _⟩,lT rv,λh' tk hk=>?_⟩);rw[<- hlen,any_range];show ⟨.bl (bs.any id),H,I.kept (t':=tk) (dP hk),rfl,q⟩
def ao:List W->Option (List Bool)
 | []=>some []
 | .bl b::ws=>(ao ws).map (b::·)
 |_=>none
def CU (bs:List Bool):ao (bs.map W.bl)=some bs:=by
 induction bs with
 |nil=>rfl
 |cons b bs I=>rw[qB8,ao,I];rfl
def Reps.bls (r:Reps K F vs ws):ao ws=some bs->vs=bs.map V.bl:=
 Reps.ind (P:=λvs ws=>∀bs,ao ws=some bs->vs=bs.map V.bl) (λbs h=>by cases h;rfl) (λ{v w vs ws} r _ ih bs h=>by
  cases w <;> first|cases h|skip
  rename_i b
  have e:v=.bl b:=r.inv;subst e;have h':(ao ws).map (b::·)=some bs:=h;cases q:ao ws with
  |none=>rw[q]at h';cases h'
  |some cs=>rw[q]at h';cases h';rw[ih cs q];rfl) r bs
def ix (g:List Bool->Bool):List W->R W
 | [.lst ws]=>toR (ao ws)>>=λbs=>.ok (.bl (g bs))
 |_=>.stuck
def qp:Cal K .B d (λxs H Q=>∃(p:Addr) (bs:List Bool),xs = [.ref p]/\H p=some (.lst (bs.map V.bl))/\Q (.bl (g bs)) H) (ix g):=by
 intro EX H0 Hs G H ρ σ Ha vs ws Q I s m o;cases m with
 |nil=>show o.elim
 | @cons w v a4 a3 a t=>
  cases t with
  |cons _ _=>first|show o.elim | (cases w <;> show o.elim)
  | nil=>
   cases w <;> first|show o.elim|skip
   rename_i ws
   obtain ⟨p,ys,rfl,hs,r⟩:=a.lstB I;replace o:Out EX G H (mdW K d H0 Hs) (toR (ao ws)>>=λbs=>.ok (.bl (g bs))) Q:=o
   cases q:ao ws with
   |none=>rw[q]at o;show o.elim
   | some bs=>
    rw[q]at o;rw[Reps.bls r q]at hs;show ⟨p,bs,rfl,hs,o _ G H (Le I.gh) (Md.sca rfl (λ_=>.bl) d)⟩
def yc (bs:List Bool):Bool:=bs.all id
def yb (bs:List Bool):Bool:=bs.any id
def IG:bootBuiltins "all" = some (.builtin "all"):=Yo
def IF:bootBuiltins "any" = some (.builtin "any"):=Yo
def bR:bootBuiltins "sum" = some (.builtin "sum"):=Yo
def P6 (hc:X.calm=true):F2 X (.builtin "sum") (λxs H Q=>∃(p:Addr) (ns:Zk),xs = [.ref p]/\H p=some (.lst (ns.map V.int))/\Q (.int ns.sum) H):=by
 intro pins s σ H xs us Q I r h;obtain ⟨p,ns,rfl,hp,q⟩:=h;obtain ⟨u,rfl,rx⟩:=O0 r;cases rx;obtain ⟨its,rv,hl,hlen,a5,Wk⟩:=dc I hc hp;rw[qA5]at hlen;have pre:∀(ms:Zk) (k:Nat),k<=ms.length->preSum (λi=>ms.getD i 0) k=(ms.take k).sum:=by
  intro ms k
  induction k with
  |zero=>intro _;simp [preSum]
  | succ k ih=>
   intro hk;rw[preSum,ih ox,qU3 (by omega:k<ms.length),List.sum_append];have a4:k<ms.length:=ox;simp [qA0,a4]
 refine call_sum_walkAnyS (qS5 hl ⟨_,_,_,_,_,_,_,(λi=>ns.getD i 0),rfl,Wk.toS,⟨⟨_,qC5 _ rfl,rfl,rfl⟩,hl.push _⟩,λb hb=>?_,λi v hv=>?_,λs' t' mv=>?_⟩)
 .obtain ⟨o,e,_⟩:=id hl;have a3:=qB5 e;simp at hb;rcases hb with rfl|rfl
  .simp [Heap.push]
  .show qB3 a3 (by simp [Heap.push])
 .obtain ⟨n,hn,t,e⟩:=sv (f:=V.int) (g:=λn u=>∃t,u=.int n t) (λb u r=>r) rv hv;refine ⟨t,?_⟩
  change v=Value.int (ns.getD i 0) t;rw[e,qA0,hn];rfl
 .rw [<- hlen,pre ns ns.length (qB2 _),qI7]
  obtain ⟨hh,g,dd,tk,os⟩:=s';obtain rfl:g=s.gens:=mv.gens;obtain rfl:dd=s.drawn:=mv.drawn;obtain rfl:os=s.os:=mv.os;show ⟨.int ns.sum,H,I.kept (t':=tk) (dP mv.heap),⟨t',rfl⟩,q⟩
def z6:List W->Option Zk
 | []=>some []
 | .int b::ws=>(z6 ws).map (b::·)
 |_=>none
def ints_map (bs:Zk):z6 (bs.map W.int)=some bs:=by
 induction bs with
 |nil=>rfl
 |cons b bs I=>rw[qB8,z6,I];rfl
def Reps.ints (r:Reps K F vs ws):z6 ws=some bs->vs=bs.map V.int:=
 Reps.ind (P:=λvs ws=>∀bs,z6 ws=some bs->vs=bs.map V.int) (λbs h=>by cases h;rfl) (λ{v w vs ws} r _ ih bs h=>by
  cases w <;> first|cases h|skip
  rename_i b
  have e:v=.int b:=r.inv;subst e;have h':(z6 ws).map (b::·)=some bs:=h;cases q:z6 ws with
  |none=>rw[q]at h';cases h'
  |some cs=>rw[q]at h';cases h';rw[ih cs q];rfl) r bs
def aJ (g:List Int->Int):List W->R W
 | [.lst ws]=>toR (z6 ws)>>=λbs=>.ok (.int (g bs))
 |_=>.stuck
def bU:Cal K .B d (λxs H Q=>∃(p:Addr) (ns:Zk),xs = [.ref p]/\H p=some (.lst (ns.map V.int))/\Q (.int (g ns)) H) (aJ g):=by
 intro EX H0 Hs G H ρ σ Ha vs ws Q I s m o;cases m with
 |nil=>show o.elim
 | @cons w v a4 a3 a t=>
  cases t with
  |cons _ _=>first|show o.elim | (cases w <;> show o.elim)
  | nil=>
   cases w <;> first|show o.elim|skip
   rename_i ws
   obtain ⟨p,ys,rfl,hs,r⟩:=a.lstB I;replace o:Out EX G H (mdW K d H0 Hs) (toR (z6 ws)>>=λbs=>.ok (.int (g bs))) Q:=o
   cases q:z6 ws with
   |none=>rw[q]at o;show o.elim
   | some bs=>
    rw[q]at o;rw[Reps.ints r q]at hs;show ⟨p,bs,rfl,hs,o _ G H (Le I.gh) (Md.sca rfl (λ_=>.int) d)⟩
def K4 (ns:Zk):Int:=ns.sum
def fAbs:List W->R W
 | [.int i]=>.ok (.int (if i<0 then -i else i))
 |_=>.stuck
def fInt:List W->R W
 | [.int i]=>.ok (.int i)
 | [.bl k]=>.ok (.int (if k then 1 else 0))
 |_=>.stuck
def zL:Cal K .B d (λxs H Q=>(∃i,xs = [.int i]/\Q (.int i) H)\/∃k:Bool,xs = [.bl k]/\Q (.int (if k then 1 else 0)) H) fInt:=by
 intro EX H0 Hs G H ρ σ Ha vs ws Q I s m o;cases m with
 |nil=>show o.elim
 | @cons w v a4 a3 a t=>
  cases t with
  |cons _ _=>first|show o.elim | (cases w <;> show o.elim)
  | nil=>
   cases w <;> first|show o.elim|skip
   .show .inr ⟨_,by rw[a.blB],o _ G H (Le I.gh) (Md.sca rfl (λ_=>.int) d)⟩
   .show .inl ⟨_,by rw[a.intB],o _ G H (Le I.gh) (Md.sca rfl (λ_=>.int) d)⟩
def fStr:List W->R W
 | [.int i]=>if i.natAbs.log2<1920 then .ok (.str (toString i)) else .stuck
 |_=>.stuck
def nr (i:Nat)(c:Bool)(m:Zo):Zg:=λρ=>match ρ[i]? with
 | some (.own ws)=>m ρ>>=λw=>(match w with
  | .lst us=>if ws.length+us.length<=1000 then (if c||m9 us then .ok (.nx (ρ.set i (.own (ws++us)))) else .stuck) else .stuck
  |_=>.stuck)
 |_=>.stuck
def mRev (i:Nat):Zg:=λρ=>match ρ[i]? with
 |some (.own ws)=>.ok (.nx (ρ.set i (.own ws.reverse)))
 |_=>.stuck
def Kl (h:tSt K EX d (nr i c m) D σ H):qB (tBM K "list" rExtend (V3 i) (qC (tM K EX (cb c) m) tNil)) D σ H:=by
 obtain ⟨H0,G,ρ,I,o⟩:=h;unfold nr at o
 split at o
 .rename_i ws e
  obtain ⟨a,vs,es,ha,hg,h0,r⟩:=I.own_at e;refine ⟨.ref a,es,.inl ⟨rfl,vs,SqL.of ha⟩,H0,G,ρ,I,OutS.bind I o λx G1 H1 w e1 m1 o1=>?_⟩;cases w <;> first|show o1.elim|skip
  rename_i us
  dsimp only at o1;by_cases hn:ws.length+us.length<=1000
  .rw [qA2 hn]at o1
   by_cases hc:(c||m9 us)=true
   .rw [qA2 hc]at o1
    have I1:=I.ext e1;have hx:∃b zs,x=.ref b/\H1 b=some (.lst zs)/\Reps K G1 zs us:=by
     cases c with
     |true=>show Md.lstC (H:=H) I1 m1
     | false=>
      obtain ⟨b,zs,ex,hb,rb⟩:=Md.lstB (H:=H) I1 m1;show ⟨b,zs,ex,hb,Reps.clean I1 rb (by simpa using hc)⟩
    obtain ⟨b,zs,rfl,hb,rb⟩:=hx;have h1:=e1.hh a _ ha;refine ⟨a,b,vs,zs,rfl,rfl,h1,hb,by rw[r.length,rb.length];show Y1 hn,?_⟩;show o1 G1 σ _ (Lf _) (I1.own_upd e es ((r.same e1.gg).append rb))
   .rw[qA4 hc]at o1;show o1.elim
  .rw[qA4 hn]at o1;show o1.elim
 .show o.elim
def Jl {X:Cx}{K:Frag}{EX:EXT}{d:Mode}{e:Expr}{pos:Pos}{ma:Zo}{i:Nat}{c:Bool}{x:Str}{p apos I:Pos}(hN:X.N[i]?=some x)(hv:Vis X.env.scope x)(ha:PE X e (tM K EX (cb c) ma))(hK:X.K=K:=by rfl)(hd:(x == ("__debug__":Str))=false:=by decide)(a7:(x == ("__classdict__":Str))=false:=by decide)(a5:attributeBase (.Name x p) "extend" X.env (eval (.Name x p) X.env)=eval (.Name x p) X.env:=by rfl) (a6:((backTo I (starEach [e] X.env)).all (λx=>!x.1)&&(backToKw I (keywordEach [] X.env)).all (λx=>x.1.isSome)
   && decide (([e]:Zz).length+([]:List Keyword).length+(if ([]:List Keyword).isEmpty then 0 else 1)<30))=true:=by rfl) (a4:(apos.endLine == I.line)=true:=by rfl) (hs:starEach [e] X.env=(false,eval e X.env)::starEach [] X.env:=by rfl) (a3:(backTo I (starEach [] X.env)).any (·.1)=false:=by rfl) (a8:swapsWith (.Call (.Attribute (.Name x p) "extend" apos) [e] [] I) none pos.line X.env=pure false:=by rfl):
  PS X (.Expr (.Call (.Attribute (.Name x p) "extend" apos) [e] [] I) pos) (tSt K EX d (nr i c ma)):=by
 subst hK;show (oZ (zg qT8 PySem.F.slot_list_extend PySem.F.type_list_extend uC (Q4 hN hv hd a7) (jf ha pa_nil hs) a5 a6 a4 hs a3) a8).mono λ_ _ _ q=>Kl q
def y8 (h:PE X e (tM K EX .B ma))(I:X.K=K:=by rfl):PI X tg e (tIt K EX false .U (bS ma)):=zb (lp:=false) h I
def C4 (h:PE X e (tM K EX .U ma))(I:X.K=K:=by rfl):PI X tg e (tIt K EX true .U (bS ma)):=zb (lp:=true) h I
def dw {X:Cx}{K:Frag}{EX:EXT}{a:Expr}{es:Zz}{pos:Pos}{mr:ZQ}{elts:Zz}{p tp:Pos}{k:Nat}(hg:Gl X "zip")(hm:X.mg "zip" = none)(ha:PA X (a::es) (tA K EX .B mr))(hK:X.K=K:=by rfl)(hs:starEach (a::es) X.env=(false,eval a X.env)::starEach es X.env:=by rfl)(I:(backTo pos (starEach es X.env)).any (·.1)=false:=by rfl):
  PI X (.Tuple elts k tp) (.Call (.Name "zip" p) (a::es) [] pos) (tIt K EX false .U (bI N4 mr)):=za (lp:=false) hg hm ha hK hs I
def EZ {X:Cx}{K:Frag}{EX:EXT}{a:Expr}{es:Zz}{pos:Pos}{mr:ZQ}{elts:Zz}{p tp:Pos}{k:Nat}(hg:Gl X "zip")(hm:X.mg "zip" = none)(ha:PA X (a::es) (tA K EX .U mr))(hK:X.K=K:=by rfl)(hs:starEach (a::es) X.env=(false,eval a X.env)::starEach es X.env:=by rfl)(I:(backTo pos (starEach es X.env)).any (·.1)=false:=by rfl):
  PI X (.Tuple elts k tp) (.Call (.Name "zip" p) (a::es) [] pos) (tIt K EX true .U (bI N4 mr)):=za (lp:=true) hg hm ha hK hs I
def JM:Sl->Bool
 | .own _=>true
 | .dic _=>true
 | .dik _=>true
 |_=>false
def noOwn (ρ:Rho):Bool:=ρ.all λs=>!JM s
def sCU (i:Nat)(f:List W->R W)(ma:ZQ):Zg:=λρ=>if noOwn ρ then (ma ρ>>=λws=>f ws>>=λw=>.ok (.nx (ρ.set i (.par w)))) else .stuck
def rZ (K:Frag)(a:Addr)(n:Nat):It:=
 ⟨λi H=>i<n/\∃xs x,SqL K H a xs/\xs.length=n/\xs[n-1-i]?=some x,λi H x H'=>H'=H/\∀xs,SqL K H a xs->xs[n-1-i]?=some x,λi H=>i=n/\∃xs,SqL K H a xs/\xs.length=n⟩
def wj (a it:Addr)(n:Nat):Turn P w K tg (rZ K a n) [it] it (λi h=>i<=n/\h.IsRevIter it a ((n:Int)-1-(i:Int))) where
 mem:=ZW
 obj:=λi h st b hb=>by
  have e:b=it:=by simpa using hb
  subst e;obtain ⟨_,o,e,c,d⟩:=st;show ⟨o,e,λv z=>by rw[d]at z;cases z⟩
 keep:=λi h h' st k=>⟨st.1,st.2.at λo e=>k it ZW o e⟩
 item:=by
  intro X hP hw hK hc i pins s σ H E I hf st hg;subst hP hw hK;obtain ⟨hi,xs,x,hq,hn,hx⟩:=hg;obtain ⟨its,rv,p,hz⟩:=I.list hq;obtain ⟨u,hu,ru⟩:=rv.get hx;obtain ⟨f0,f1,f2,f3,f4,f5⟩:=hf it ZW;have e1:(n:Int)-1-(i:Int)=((n-1-i:Nat):Int):=ox;have a3:=st.2;rw[e1]at a3;refine wpAny_pyNext_rev_item a3 p.isList (x:=u) (by simpa using hu) λh' a4 sb=>?_;have I1:Inv X pins σ H { s with heap:=h' }:=I.turned (t':=s.toks) (λb o hb e=>(sb.2 b hb).trans e) f0 f1 f3 f4 f5;have e2:((n-1-i:Nat):Int)-1=(n:Int)-1-((i+1:Nat):Int):=ox;rw[e2]at a4;obtain ⟨o,e,c,d⟩:=id a4;show ⟨u,rfl,lD (s:={ s with heap:=h' }) e c d ZU ⟨x,H,I1,ru,⟨rfl,λys hy=>by rw[I.list_inj hy hq];show hx⟩,⟨hi,a4⟩,λb hb=>(hf b hb).1⟩⟩
 done:=by
  intro X hP hw hK hc i pins s σ H E I hf st hg;subst hP hw hK;obtain ⟨rfl,xs,hq,hn⟩:=hg;obtain ⟨f0,f1,f2,f3,f4,f5⟩:=hf it ZW;have e1:(i:Int)-1-(i:Int) = -1:=ox;have a3:=st.2;rw[e1]at a3;show wpAny_pyNext_rev_end (I.ok.hd hc) a3 λh' eb=>⟨rfl,I.turned (t':=s.toks) (λb o hb e=>eb b o hb e) f0 f1 f3 f4 f5⟩
 self:=λ_ _ _ _ _ st h=>qU8 st.2 h
def GQ (K:Frag)(I:TA):TI:=λσ H R=>I σ H λvs H1=>∃a,vs = [.ref a]/\∃xs,SqL K H1 a xs/\R (rZ K a xs.length) H1
def fD:bootBuiltins "reversed" = some (.type "reversed"):=Yo
def Fy (hg:Gl X "reversed")(hm:X.mg "reversed" = none)(ha:PA X [a] ta)(hs:starEach [a] X.env = [(false,eval a X.env)]:=by rfl):PI X tg (.Call (.Name "reversed" p) [a] [] pos) (GQ X.K ta):=by
 intro pins s σ H R I h;refine qR4 (Q9 I hg hm fD ?_ ZU ZU);refine qG5 (thn (ha pos pins s σ H _ I h) λus s1 a4=>?_) hs ZY;obtain ⟨vs,H1,I1,r1,q1⟩:=a4;obtain ⟨b,e,xs,hq,q⟩:=q1;subst e;obtain ⟨u,rfl,ru⟩:=O0 r1;cases ru;obtain ⟨its,rv,pl,hz⟩:=I1.list hq;have hl:=rv.length;refine call_reversed_list pl.isList ?_;have a3:(s1.heap.push (revObj b ((its.toArray.size:Int)-1))).IsRevIter s1.heap.objs.size b ((xs.length:Int)-1-((0:Nat):Int)):=by
  refine ⟨_,qC5 _ rfl,rfl,?_⟩
  have:((xs.length:Int)-1-((0:Nat):Int))=((its.toArray.size:Int)-1):=by simp;omega
  rw[this];rfl
 refine qU8 a3 ?_;refine ⟨s1.heap.objs.size,[s1.heap.objs.size],_,rZ X.K b xs.length,H1,rfl,I1.kept (t':=s1.toks) λb o e=>qA9 _ e,wj b _ _,⟨qC7 _,a3⟩,λc hc=>?_,q⟩;have e:c=s1.heap.objs.size:=by simpa using hc
 subst e;show I1.fpOk (qB2 _) (I1.hok.fresh (qB2 _))
def iY:List W->R Zp
 | [.lst ws]=>.ok ws.reverse
 |_=>.stuck
def xM (he:e=.V\/e=.U)(s:SqL K Z a vs)(r:Reps K (fz e H0 G) vs ws):cN K e H0 Z G (rZ K a vs.length) ws.reverse:=by
 have hl:=r.length;have hq:∀H,Same Z H->SqL K H a vs:=λH z=>Same.seq z s;refine ⟨λi H hi z=>?_,λH z=>⟨by rw[qN0,hl],vs,hq H z,rfl⟩,λi H x H' w hw z ⟨e1,y⟩ G2 ρ σ I sg=>?_⟩
 .rw [qN0]at hi
  show ⟨ox,vs,vs[vs.length-1-i]'(qD7 (qI3 _ _) (qJ5 (hl ▸ qD7 (qC7 i) hi) ZU)),hq H z,rfl,ZW⟩
 .subst e1;have hi:i<ws.length:=by have:=(qA6.mp hw).1;simpa using this
  have hx:=y vs (hq _ z);rw[qU4 hi]at hw;obtain ⟨v,hv,rv⟩:=Reps.get r hw;rw[hl,hv]at hx;cases hx;show ⟨G2,Le I.gh,Md.of_fz he (rv.same (N0 sg))⟩
def Md.srcL (I:PIv K H0 G ρ σ H)(m:Md K H0 Hs G H x (.lst ws) (dh lp .U)):∃a vs,x=.ref a/\SqL K (if lp then join H0 G else H) a vs/\Reps K (fz .U H0 G) vs ws:=by
 have ez:fz .U H0 G=join H0 G:=by unfold fz;rw[qA4 (show ¬ (Mode.U=Mode.V) by intro z;cases z)]
 rw[ez];cases lp with
 | true=>
  rw[qA2 rfl];obtain ⟨a,vs,e,s,r⟩:=Rep.inv m;show ⟨a,vs,e,SqL.of s,r⟩
 | false=>
  rw[qA4 qA3];rcases m with m|⟨a,vs,us,rfl,e2,h1,r⟩
  .obtain ⟨a,vs,e,s,r⟩:=Rep.inv m;show ⟨a,vs,e,SqL.of (I.join_H _ _ s),r⟩
  .rw[W.lst.inj e2];show ⟨a,vs,rfl,SqL.of h1,r.same I.G_join⟩
def Kd (h:tIt K EX lp .U (λρ=>ma ρ>>=iY) σ H Rr):GQ K (tA K EX (dh lp .U) ma) σ H Rr:=by
 refine bZ h (λH0 G ρ G1 H1 xs ws us I e1 m1 q o=>?_) (λws e z=>?_)
 .have I1:=I.ext e1;unfold iY at q
  split at q
  .rename_i ws'
   cases q;cases m1 with
   | cons a1 t=>
    cases t;obtain ⟨p,vs,rfl,hL,r⟩:=Md.srcL I1 a1;show ⟨p,rfl,vs,Same.seq (jv I1) hL,o _ G1 H1 e1 (xM (.inr rfl) hL r)⟩
  .cases q
 .unfold iY at z
  split at z <;> cases z
def Jj {X:Cx}{K:Frag}{EX:EXT}{a tg:Expr}{pos:Pos}{I:ZQ}{p:Pos}(hg:Gl X "reversed")(hm:X.mg "reversed" = none)(ha:PA X [a] (tA K EX .U I))(hK:X.K=K:=by rfl)(hs:starEach [a] X.env = [(false,eval a X.env)]:=by rfl):PI X tg (.Call (.Name "reversed" p) [a] [] pos) (tIt K EX true .U (bI iY I)):=by
 subst hK;show (Fy hg hm ha hs).mono λ_ _ _ q=>Kd (lp:=true) q
def seqI:W->Option Zk
 | .lst ws=>z6 ws
 | .tup ws=>z6 ws
 |_=>none
def zB (g:List Int->Int):List W->R W
 | [w]=>toR (seqI w)>>=λns=>if 0<ns.length then .ok (.int (g ns)) else .stuck
 |_=>.stuck
end TP
namespace HT
open PySem PySem.Spec PyProof.Rows
end HT
namespace TP
open PySem L2 PySem.Spec PyProof.Rows
end TP
namespace TP
open PySem PySem.W PyProof.Rows
section
variable (r:Zx)
end
end TP
namespace TP
open PySem L2
def jR (hh:A.handled=none)(u:Sub)(I:u.l≠u.i)(its:Zj):
  Draws prog w A u.i [u.i,u.l] its.size (λi v=>its[i]?=some v) (λi h=>u.At h i/\u.Src h its) where
 live:=λ_ _ st=>by obtain ⟨o,e,_⟩:=st.1.obj;show ⟨o,e⟩
 frame:=λ_ _ _ st hk=>⟨st.1.keep λo e=>hk u.i ZW o e,st.2.keep λo e=>hk u.l ZW o e⟩
 item:=λi s Q E hi st hQ=>Sub.item st.1 st.2 (x:=its[i]) (by simp [hi]) λh' a sb=>hQ _ h' s.toks (by simp [hi]) ⟨a,st.2.keep λo e=>sb.extBut _ _ I e⟩ sb
 done:=λs Q E st hE=>Sub.ends hh st.1 st.2 ZW hE
def oF (l:Addr)(its:Zj)(m:Nat)(a3:Option Addr)(sl:Array (Option Value)) :
  Meets (Builtin.«enumerate.__new__» ⟨[.type "enumerate",.ref l],[]⟩) (λ_ R s=>s.heap.get? l=some { cls:=.type "tuple",dict:=a3,data:=.seq its m,slots:=sl } /\
   R (.ok (.ret (.ref (s.heap.push { cls:=.type "tuple_iterator",data:=.fields #[.ref l,.int 0 0] }).objs.size)))
    { s with heap:=(s.heap.push { cls:=.type "tuple_iterator",data:=.fields #[.ref l,.int 0 0] }).push { cls:=.type "enumerate",data:=.fields #[.none,.bool false,.ref s.heap.objs.size,rawInt 0,.none,.none] } }):=
 .of_wp λprog w A R s I=>by
  obtain ⟨hp,g,d,tk,os⟩:=s;obtain ⟨hl,I⟩:=I;have a4:=sub_enumerate;have hT:Heap.IsTuple (Shared.heap ⟨hp,g,d,tk,os⟩) l its:=⟨_,hl,rfl,m,rfl⟩
  wp_walk using qK4 hl
  refine wpAny_stack_any λstk=>qQ5 ?_
  split
  .rename_i cc _ _ _ _ _
   cases (cc == Value.type "enumerate") <;>
   .wp_walk using qK4 hl,qT4 hT
    show ⟨_,rfl,I⟩
  .wp_walk using qK4 hl,qT4 hT
   show ⟨_,rfl,I⟩
def rN (hL:s.heap.IsTuple l its)(a4:∀h',IsEnum h' (s.heap.objs.size+1) s.heap.objs.size 0 .none->h'.IsTupleIter s.heap.objs.size l 0->(∀b o,s.heap.get? b=some o->h'.get? b=some o)->Q (.ref (s.heap.objs.size+1)) { s with heap:=h' }):
  wpAny (model prog w) A (call (.type "enumerate") [.ref l]) Q E s:=by
 obtain ⟨⟨c,I,dt,sl⟩,hl,hc,m,hd⟩:=hL;have a5:c=.type "tuple":=hc;have a3:dt=.seq its m:=hd;subst a5 a3;refine callType_new F.called_enumerate ZU (F.typeCall_enumerate_1 _) (F.newCall_enumerate_1 _) (λobj=>F.args_object_init_2 obj _) F.entry_enumerate_new (oF l its m I sl) ⟨hl,?_⟩;generalize hP:s.heap.push { cls:=.type "tuple_iterator",data:=.fields #[.ref l,.int 0 0] }=P
 have hz:P.objs.size=s.heap.objs.size+1:=by rw[<- hP];show qO5 ..
 have hi:P.get? s.heap.objs.size=some { cls:=.type "tuple_iterator",data:=.fields #[.ref l,.int 0 0] }:=by rw[<- hP];show qC5 _ rfl
 have hk:∀b o,s.heap.get? b=some o->P.get? b=some o:=λb o e=>by rw[<- hP];show qA9 _ e
 change _/\_;have en:IsEnum (P.push { cls:=.type "enumerate",data:=.fields #[.none,.bool false,.ref s.heap.objs.size,rawInt 0,.none,.none] }) (s.heap.objs.size+1) s.heap.objs.size 0 .none:=by rw[<- hz];show qC5 _ rfl
 rw[hz];show ⟨⟨_,en,rfl⟩,a4 _ en ⟨_,qA9 _ hi,rfl,rfl⟩ λb o e=>qA9 _ (hk b o e)⟩
def vJ (hL:SrcAt s.heap (t,l,its))(I:∀h',IsEnum h' (s.heap.objs.size+1) s.heap.objs.size 0 .none->(L2.Sub.mk t s.heap.objs.size l).At h' 0->(∀b o,s.heap.get? b=some o->h'.get? b=some o)->Q (.ref (s.heap.objs.size+1)) { s with heap:=h' }):
  wpAny (model prog w) A (call (.type "enumerate") [.ref l]) Q E s:=by
 unfold SrcAt at hL;cases t with
 |true=>show rN hL λh' a b c=>I h' a (by unfold Sub.At;show b) c
 |false=>show call_enumerate_list hL λh' a b _ c=>I h' a (by unfold Sub.At;show b) c
def ItE (K:Frag)(t:Bool)(a:Addr):It:=
  ⟨fun i H=>∃xs x,Sq K H t a xs/\xs[i]?=some x,
   λi H x H'=>∃p y,x=.ref p/\H p=none/\H'=upd H p (.tup [.int (i:Int),y])/\∀xs,Sq K H t a xs->xs[i]?=some y,
   λi H=>∃xs,Sq K H t a xs/\xs.length=i⟩
abbrev eTn (e:Addr)(u:Sub)(i:Nat)(h:Heap):Prop:=(∃I,IsEnum h e u.i (i:Int) I)/\u.At h i
def sL (a8:e≠u.i):
  Turn P w K (.Tuple elts k tp) (ItE K u.t u.l) [e,u.i] e (eTn e u) where
 mem:=ZW
 obj:=λi h st b hb=>by
  obtain ⟨⟨a6,he⟩,ha⟩:=st;simp only [qB6,qE3,qS4]at hb;rcases hb with rfl|rfl
  .show ⟨_,he,λv q=>by cases q⟩
  .obtain ⟨o,q,d⟩:=ha.obj;show ⟨o,q,λv z=>by rw[d]at z;cases z⟩
 keep:=λi h h' st kp=>⟨st.1.imp λa6 he=>kp e ZW _ he,st.2.keep λo q=>kp u.i ZW o q⟩
 item:=by
  intro X hP hw hK hc i pins s σ H E I hf st hg;subst hP hw hK;obtain ⟨⟨a6,he⟩,ha⟩:=st;obtain ⟨xs,x,hq,hx⟩:=hg;obtain ⟨its,rv,a4⟩:=Sq.src I hq;obtain ⟨v,hv,rx⟩:=rv.get hx;have fe:=hf e ZW;have fi:=hf u.i ZW;have a7:u.l≠u.i:=Sq.ne I hq fi;have b4:u.l≠e:=Sq.ne I hq fe;have hi:i<its.toArray.size:=by have:=(qA6.mp hv).1;simpa using this
  refine wpAny_pyNext_enum_itemD (jR (prog:=X.prog) (w:=X.w) (show X.A.in1.handled=none from I.ok.hd hc) u a7 its.toArray) he ⟨ha,a4⟩ hi a8 (by simp only [qB6,qE3,qS4,not_or];show ⟨a8,Ne.symm b4⟩) λy h1 tk hy z1 s1 p1 z2 k1=>?_;have ey:y=v:=by
   have e1:its[i]?=some y:=by simpa using hy
   rw[hv]at e1;cases e1;rfl
  subst ey;refine ⟨_,rfl,wpAny_letOwnedTupleGo_enum z1 λh2 e2 sb2=>?_⟩;have a9:e<s.heap.objs.size:=qB5 he;have b3:u.i<s.heap.objs.size:=by obtain ⟨o,q,_⟩:=ha.obj;show qB5 q
  have kp:∀b o,b≠e->b≠u.i->s.heap.get? b=some o->h2.get? b=some o:=λb o b1 b2 q=>sb2.extBut _ _ b1 (k1 b o b1 b2 q);have a3:H s.heap.objs.size=none:=I.hok.fresh (qB2 _);have trk:∀b c,H b=some c->b≠e/\b≠u.i:=λb c q=>⟨λz=>(by subst z;rw[fe.1]at q;cases q),λz=>(by subst z;rw[fi.1]at q;cases q)⟩;have b0:h2.get? s.heap.objs.size=some { cls:=.type "tuple",data:=.seq #[.int i tk,y] }:=sb2.extBut _ _ (qP4 a9) p1;have rel:Vals [.int (i:Int),x] [.int i tk,y]:=.cons ⟨tk,rfl⟩ (.cons rx .nil);refine ⟨.ref s.heap.objs.size,upd H s.heap.objs.size (.tup [.int (i:Int),x]),?_,rfl,⟨_,_,rfl,a3,rfl,?_⟩,⟨⟨y,?_⟩,?_⟩,λb hb=>?_⟩
  .change Inv X pins σ _ { s with heap:=h2,toks:=tk+1 };refine I.step (g':=s.gens) (t':=tk+1) (d':=s.drawn) (ch:=[e,u.i]) (λb hb=>?_) (λb o _ _ hc q _=>kp b o ?_ ?_ q) (λb o _ _ hc q _=>⟨o.slots,kp b o ?_ ?_ q⟩) (λb o hc q n=>?_) (λb o hc q=>⟨o,kp b o ?_ ?_ q⟩) (λb ys q=>?_) (λb o c q=>?_) (λb ps q=>?_) (λm hm=>?_) ?_ I.bare
   .simp only [qB6,qE3,qS4]at hb;rcases hb with rfl|rfl
    .show ⟨fe.2.2.2.1,fe.2.1,fe.2.2.2.2.1,fe.2.2.2.2.2⟩
    .show ⟨fi.2.2.2.1,fi.2.1,fi.2.2.2.2.1,fi.2.2.2.2.2⟩
   all_goals first
    | (intro z;show hc (by simp [z];done))
    |skip
   .rw[d8 (qD9 (qB5 q))];show n
   .rw[d8 (e9 q a3)];show q
   .rw[d8 (e9 q a3)];show q
   .show ⟨#[],by rw[d8 (e9 q a3),q];simp⟩
   .obtain ⟨o,es,ep,ho,r⟩:=hm;show ⟨o,es,ep,kp _ o (Ne.symm fe.2.1) (Ne.symm fi.2.1) ho,r⟩
   .intro b c q;by_cases hb:b=s.heap.objs.size
    .subst hb;rw[j6]at q;cases q;show ⟨(show 2<=sizeLine by decide),_,rel,⟨_,b0,rfl,_,rfl⟩⟩
    .rw [d8 hb]at q
     refine (I.hok b c q).stay (λd v a5 z=>?_) (λd z=>by rw[d8 (e9 z a3)];show z) λd ys z=>by rw[d8 (e9 z a3)];show z
     rcases a5 with rfl|a5
     .show kp _ v (trk _ _ q).1 (trk _ _ q).2 z
     .show kp _ v (trk _ _ a5).1 (trk _ _ a5).2 z
  .intro ys ab;rw[Sq.inj I ab hq];show hx
  .have:((i+1:Nat):Int)=(i:Int)+1:=ox
   rw[this];show e2
  .show s1.1.keep λo q=>sb2.extBut _ _ (Ne.symm a8) q
  .have:b≠s.heap.objs.size:=by
    simp only [qB6,qE3,qS4]at hb;rcases hb with rfl|rfl
    .show qD9 a9
    .show qD9 b3
   rw[d8 this];show (hf b hb).1
 done:=by
  intro X hP hw hK hc i pins s σ H E I hf st hg;subst hP hw hK;obtain ⟨⟨a6,he⟩,ha⟩:=st;obtain ⟨xs,hq,hn⟩:=hg;obtain ⟨its,rv,a4⟩:=Sq.src I hq;have fe:=hf e ZW;have fi:=hf u.i ZW;have a7:u.l≠u.i:=Sq.ne I hq fi;have hsz:its.toArray.size=i:=by have:=rv.length;simp;omega
  subst hsz;refine wpAny_pyNext_enum_endD (jR (prog:=X.prog) (w:=X.w) (show X.A.in1.handled=none from I.ok.hd hc) u a7 its.toArray) he ⟨ha,a4⟩ λh' eb=>⟨rfl,?_⟩;obtain ⟨f0,f1,f2,f3,f4,f5⟩:=fi;show I.turned (t':=s.toks) (λb o hb q=>eb b o hb q) f0 f1 f3 f4 f5
 self:=λA i s Q E st h=>by
  obtain ⟨⟨a6,he⟩,_⟩:=st;show wpAny_pyIter_enum he h
def zu (K:Frag)(I:TA):TI:=λσ H R=>I σ H λvs H1=>∃t a xs,vs = [.ref a]/\Sq K H1 t a xs/\R (ItE K t a) H1
def og:bootBuiltins "enumerate" = some (.type "enumerate"):=Yo
def pj (hg:Gl X "enumerate")(hm:X.mg "enumerate" = none)(ha:PA X [a] ta)(hs:starEach [a] X.env = [(false,eval a X.env)]:=by rfl):PI X (.Tuple elts k tp) (.Call (.Name "enumerate" p) [a] [] pos) (zu X.K ta):=by
 intro pins s σ H R I h;refine qR4 (Q9 I hg hm og ?_ ZU ZU);refine qG5 (thn (ha pos pins s σ H _ I h) λus s1 a5=>?_) hs ZY;obtain ⟨vs,H1,I1,r1,t,b,xs,e1,hq,q⟩:=a5;subst e1;obtain ⟨u,rfl,ru⟩:=O0 r1;cases ru;obtain ⟨its,rv,a3⟩:=Sq.src I1 hq;refine vJ (t:=t) (its:=its.toArray) (by unfold SrcAt;unfold Sub.Src at a3;show a3) λh' he hA hk=>wpAny_pyIter_enum he ?_;have I2:Inv X pins σ H1 { s1 with heap:=h' }:=I1.kept (t':=s1.toks) hk;have TE:=sL (P:=X.prog) (w:=X.w) (K:=X.K) (elts:=elts) (k:=k) (tp:=tp) (e:=s1.heap.objs.size+1) (u:=⟨t,s1.heap.objs.size,b⟩) (neN (by change s1.heap.objs.size+1≠s1.heap.objs.size;omega));refine ⟨_,_,_,_,H1,rfl,I2,TE,⟨⟨_,he⟩,hA⟩,λc hc=>?_,q⟩;have a4:s1.heap.objs.size<=c:=by
  simp only [qB6,qE3,qS4]at hc;rcases hc with rfl|rfl
  .omega
  .show qB2 _
 show I1.fpOk (H':=H1) a4 (I1.hok.fresh a4)
def T4:List W->R Zp
 | [w]=>match C5 w with
  | .ok xs=>.ok (xs.mapIdx λi x=>W.tup [.int (i:Int),x])
  |_=>.stuck
 |_=>.stuck
def uX (he:e=.V\/e=.U)(s1:Sq K Z t a xs)(r1:Reps K (fz e H0 G) xs us):cN K e H0 Z G (ItE K t a) (us.mapIdx λi x=>W.tup [.int (i:Int),x]):=by
 have l1:=r1.length;have hq:∀H,Same Z H->Sq K H t a xs:=λH z=>Sq.same z s1;refine ⟨λi H hi z=>?_,λH z=>⟨xs,hq H z,by rw[qW8,l1]⟩,λi H x H' w hw z y G2 ρ σ I sg=>?_⟩
 .rw [qW8]at hi
  show ⟨xs,xs[i]'ox,hq H z,ZW⟩
 .obtain ⟨p,y1,rfl,hp,rfl,hy⟩:=y;obtain ⟨w1,e1,q1⟩:=Reps.get' r1 (hy xs (hq H z));have a3:w=.tup [.int (i:Int),w1]:=by
   rw[List.getElem?_mapIdx,e1]at hw;cases hw;rfl
  subst a3;obtain ⟨x1,x2⟩:=ja (Hs:=H) he I hp (.cons .int (.cons (q1.same (N0 sg)) .nil));show ⟨_,x1,x2⟩
def vO (he:e=.V\/e=.U)(h:tIt K EX lp e (λρ=>ma ρ>>=T4) σ H Rr):zu K (tA K EX (dh lp e) ma) σ H Rr:=by
 refine bZ h (λH0 G ρ G1 H1 xs ws us I e1 m1 q o=>?_) (λws e z=>?_)
 .have I1:=I.ext e1;unfold T4 at q
  split at q
  .rename_i w
   cases hw:C5 w with
   |stuck=>rw[hw]at q;cases q
   |ex _=>rw[hw]at q;cases q
   | ok ls=>
    rw[hw]at q;cases q;cases m1 with
    | cons a1 m1=>
     cases m1;obtain ⟨t1,p1,v1,rfl,q1,r1⟩:=Md.src he I1 a1 hw;show ⟨t1,p1,v1,rfl,K7 (jv I1) q1,o _ G1 H1 e1 (uX he q1 r1)⟩
  .cases q
 .unfold T4 at z
  split at z
  .split at z <;> cases z
  .cases z
def mH {X:Cx}{K:Frag}{EX:EXT}{a:Expr}{pos:Pos}{I:ZQ}{elts:Zz}{p tp:Pos}{k:Nat}(hg:Gl X "enumerate")(hm:X.mg "enumerate" = none)(ha:PA X [a] (tA K EX .B I))(hK:X.K=K:=by rfl)(hs:starEach [a] X.env = [(false,eval a X.env)]:=by rfl):PI X (.Tuple elts k tp) (.Call (.Name "enumerate" p) [a] [] pos) (tIt K EX false .U (bI T4 I)):=by
 subst hK;show (pj hg hm ha hs).mono λ_ _ _ q=>vO (lp:=false) (.inr rfl) q
def Fe {X:Cx}{K:Frag}{EX:EXT}{a:Expr}{pos:Pos}{I:ZQ}{elts:Zz}{p tp:Pos}{k:Nat}(hg:Gl X "enumerate")(hm:X.mg "enumerate" = none)(ha:PA X [a] (tA K EX .U I))(hK:X.K=K:=by rfl)(hs:starEach [a] X.env = [(false,eval a X.env)]:=by rfl):PI X (.Tuple elts k tp) (.Call (.Name "enumerate" p) [a] [] pos) (tIt K EX true .U (bI T4 I)):=by
 subst hK;show (pj hg hm ha hs).mono λ_ _ _ q=>vO (lp:=true) (.inr rfl) q
def inW (u:W):W->Option Bool
 | .tup ws=>some ((pds ws).any λy=>PyData.eqv y (pd u))
 | .lst ws=>some ((pds ws).any λy=>PyData.eqv y (pd u))
 | .scr ws=>some ((pds ws).any λy=>PyData.eqv y (pd u))
 |_=>none
def rIn (K:Frag)(neg:Bool):R2:=λx y H Q=>∃u v b,Rep K H x u/\Rep K H y v/\shp 8 u=true/\shp 8 v=true/\inW u v=some b/\Q (.bl (if neg then !b else b)) H
def zh (hu:X.A.units+64<cLine):OpR X (compareOp .In) (rIn X.K false):=by
 intro pins s σ H x y v u Q I rx ry h;obtain ⟨a,c,b,ra,rc,sa,sc,e,q⟩:=h;obtain ⟨as,qa⟩:=Rep.reads I 8 ra sa rx;obtain ⟨bs,qb⟩:=Rep.reads I 8 rc sc ry;have la:=di a 8 sa;cases c <;> first | (cases e;done)|skip
 all_goals
  rename_i ws
  have lc:=iS ws 7 sc;have hm:X.A.units+1+min (PyData.depthAll (pds ws)) (pd a).depth<cLine:=by have:=qL4 (PyData.depthAll (pds ws)) (pd a).depth;omega
  cases e
 .show SeqAt.in_tuple_reads qb qa lc.1 la.1 hm ⟨.bl _,H,I,rfl,q⟩
 .show SeqAt.in_list_reads qb qa lc.1 la.1 hm ⟨.bl _,H,I,rfl,q⟩
 .show SeqAt.in_list_reads qb qa lc.1 la.1 hm ⟨.bl _,H,I,rfl,q⟩
def FH (hu:X.A.units+64<cLine):OpR X (compareOp .NotIn) (rIn X.K true):=by
 intro pins s σ H x y v u Q I rx ry h;obtain ⟨a,c,b,ra,rc,sa,sc,e,q⟩:=h;obtain ⟨as,qa⟩:=Rep.reads I 8 ra sa rx;obtain ⟨bs,qb⟩:=Rep.reads I 8 rc sc ry;have la:=di a 8 sa;cases c <;> first | (cases e;done)|skip
 all_goals
  rename_i ws
  have lc:=iS ws 7 sc;have hm:X.A.units+1+min (PyData.depthAll (pds ws)) (pd a).depth<cLine:=by have:=qL4 (PyData.depthAll (pds ws)) (pd a).depth;omega
  cases e
 .show SeqAt.notIn_tuple_reads qb qa lc.1 la.1 hm ⟨.bl _,H,I,rfl,q⟩
 .show SeqAt.notIn_list_reads qb qa lc.1 la.1 hm ⟨.bl _,H,I,rfl,q⟩
 .show SeqAt.notIn_list_reads qb qa lc.1 la.1 hm ⟨.bl _,H,I,rfl,q⟩
def fIn (neg:Bool)(u v:W):R W:=if shp 8 u&&shp 8 v then (match inW u v with
 |some b=>.ok (.bl (if neg then !b else b))
 |none=>.stuck) else .stuck
def qT:Op2 K .B d (rIn K neg) (fIn neg):=by
 intro EX H0 Hs G H ρ σ Ha Hb x y u v Q I s mx my o;unfold fIn at o;by_cases c:(shp 8 u&&shp 8 v)=true
 .rw [qA2 c]at o
  have c':shp 8 u=true/\shp 8 v=true:=by simpa using c
  cases hb:inW u v with
  |none=>rw[hb]at o;show o.elim
  | some b=>
   rw[hb]at o;show ⟨u,v,b,mx.whole I,my.whole I,c'.1,c'.2,hb,o _ G H (Le I.gh) (Md.sca rfl (λ_=>.bl) d)⟩
 .rw[qA4 c]at o;show o.elim
def lexLt:List Int->List Int->Bool
 | [],[]=>false
 | [],_::_=>true
 |_::_,[]=>false
 |a::as,b::bs=>if a=b then lexLt as bs else decide (a<b)
def lex_irr:∀a,lexLt a a=false
 | []=>rfl
 |x::a=>by unfold lexLt;rw[qA2 rfl];show lex_irr a
def lex_tr:∀a b c,lexLt a b=true->lexLt b c=true->lexLt a c=true
 | [],[],_,h,_=>by cases h
 | [],_::_,[],_,h=>by cases h
 | [],_::_,_::_,_,_=>rfl
 |_::_,[],_,h,_=>by cases h
 |_::_,_::_,[],_,h=>by cases h
 | x::a,y::b,z::c,h1,I=>by
  unfold lexLt at h1 I ⊢;by_cases e1:x=y
  .subst e1;rw[qA2 rfl]at h1;by_cases e2:x=z
   .subst e2;rw[qA2 rfl]at I ⊢;show lex_tr a b c h1 I
   .rw[qA4 e2]at I ⊢;show I
  .rw [qA4 e1]at h1
   have h1:=qQ9 h1;by_cases e2:y=z
   .subst e2;rw[qA4 e1];show qQ7 h1
   .rw [qA4 e2]at I
    have I:=qQ9 I;rw[qA4 ox];show qQ7 ox
def S6:∀a b,lexLt a b=false->lexLt b a=false->a=b
 | [],[],_,_=>rfl
 | [],_::_,h,_=>by cases h
 |_::_,[],_,h=>by cases h
 | x::a,y::b,h1,I=>by
  unfold lexLt at h1 I;by_cases e:x=y
  .subst e;rw[qA2 rfl]at h1 I;rw[S6 a b h1 I]
  .rw [qA4 e]at h1
   rw[qA4 (λz=>e z.symm)]at I;have h1:=qR5 h1;have I:=qR5 I;omega
def X0 (ss:Zw)(i:Nat):Int:=((ss.countP λx=>lexLt x (ss.getD i [])):Nat)
def HS {α:Type}{p q:α->Bool}:∀{l:List α},(∀x∈l,p x=true->q x=true)->(∃x∈l,q x=true/\p x=false)->l.countP p<l.countP q:=by
 intro l
 induction l with
 |nil=>intro _ h;obtain ⟨_,h,_⟩:=h;show absurd h qE3
 | cons x l ih=>
  intro h h0;obtain ⟨y,I,hq,hp⟩:=h0;have h':∀z∈l,p z=true->q z=true:=λz hz=>h z (qB1 _ hz);have le:l.countP p<=l.countP q:=List.countP_mono_left h';rw[List.countP_cons,List.countP_cons];rcases qB6.mp I with e|I
  .subst e;rw[qA2 hq,hp,qA4 qA3];omega
  .have:=ih h' ⟨y,I,hq,hp⟩
   by_cases c:p x=true
   .rw[qA2 c,qA2 (h x qB9 c)];omega
   .rw[qA4 c];split <;> omega
def getD_mem {ss:Zw}(h:i<ss.length):ss.getD i []∈ss:=by
 rw[qA0];simp [h]
def oY (hi:i<ss.length)(hj:j<ss.length):decide (X0 ss i<X0 ss j)=lexLt (ss.getD i []) (ss.getD j []):=by
 cases h:lexLt (ss.getD i []) (ss.getD j []) with
 | true=>
  apply qQ7;unfold X0
  have:=HS (l:=ss) (p:=λx=>lexLt x (ss.getD i [])) (q:=λx=>lexLt x (ss.getD j [])) (λx _ I=>lex_tr _ _ _ I h) ⟨_,getD_mem hi,h,lex_irr _⟩
  omega
 | false=>
  apply qQ6;unfold X0
  have:ss.countP (λx=>lexLt x (ss.getD j []))<=ss.countP λx=>lexLt x (ss.getD i []):=by
   apply List.countP_mono_left;intro x _ I;cases h2:lexLt (ss.getD j []) (ss.getD i []) with
   |true=>show lex_tr _ _ _ I h2
   |false=>rw[S6 _ _ h h2];show I
  omega
def E9 (ss:Zw):List Zk:=ss.mergeSort λa b=>!lexLt b a
def tN (ss:Zw):(List.range ss.length).map (λi=>ss.getD i [])=ss:=by
 apply qJ8
 .simp
 .intro i h1 I;simp [I]
def O9 (ss:Zw):(E9 ss).Perm ss:=List.mergeSort_perm _ _
def eF (ss:Zw):(E9 ss).Pairwise λa b=>lexLt b a=false:=by
 have h:=List.pairwise_mergeSort (le:=λa b=>!lexLt b a) (λa b c h1 I=>by
  simp only [Bool.not_eq_true']at h1 I ⊢;cases e:lexLt c a with
  |false=>rfl
  | true=>
   cases f:lexLt a b with
   |true=>rw[lex_tr c a b e f]at I;cases I
   |false=>rw[S6 a b f h1]at e;rw[e]at I;cases I) (λa b=>by
  cases e:lexLt b a with
  |false=>rfl
  | true=>
   cases f:lexLt a b with
   |false=>rfl
   |true=>have:=lex_tr a b a f e;rw[lex_irr]at this;cases this) ss
 show h.imp λq=>by simpa using q
def allLt (n:Nat)(p:Array Nat):Prop:=∀x∈p,x<n
section
open PySem.W PyProof.Rows
variable {n:Nat}(h0:0<n)
include h0
end
def ge (fin:Bool):List (Int×Int)->Bool
 | []=>fin
 | (a,b)::r=>if a=b then ge fin r else decide (a<b)
def pI:∀xs ys:List Int,ge (decide (xs.length<ys.length)) (xs.zip ys)=lexLt xs ys
 | [],[]=>rfl
 | [],_::_=>by simp [ge,lexLt]
 |_::_,[]=>by simp [ge,lexLt]
 | x::xs,y::ys=>by
  have:=pI xs ys
  simp only [List.zip_cons_cons,ge,lexLt,qD4,Nat.add_lt_add_iff_right];rw[this]
section
open PySem.W PyProof.Rows
def uN:∀(xs ys:Zk) (us vs:VY) (i:Nat),Vals (xs.map V.int) us->Vals (ys.map V.int) vs->Q (ge fin (xs.zip ys)) s->KatLex prog w A true fin Q (us.zip vs) i s
 | [],_,_,_,_,.nil,_,h=>h
 |_::_,[],_,_,_,.cons _ _,.nil,h=>h
 | x::xs,y::ys,_,_,i,.cons r1 t1,.cons r2 t2,h=>by
  obtain ⟨t,rfl⟩:=r1;obtain ⟨u,rfl⟩:=r2;refine kat_cons (wpAny_eqBool_int ?_);simp only [List.zip_cons_cons,ge]at h;by_cases e:x=y
  .rw [qA2 e]at h
   rw[show (x == y)=true by simpa using e];show kat_yes (uN xs ys _ _ (i+1) t1 t2 h)
  .rw [qA4 e]at h
   rw[show (x == y)=false by simpa using e];refine kat_no ?_;cases i with
   |zero=>show oneLt_int h
   |succ i=>show kat_one _ _ (lt_int h)
def TupI (h:Heap)(v:Value)(xs:Zk):Prop:=∃(a:Addr)(o:Obj)(its:VY)(m:Nat),v=.ref a/\h.get? a=some o/\o.cls=.type "tuple" /\ o.data=.seq its.toArray m/\Vals (xs.map V.int) its
def BH (hv:TupI s.heap v xs)(hu:TupI s.heap u ys)(h:Q (lexLt xs ys) s):wpAny (model prog w) A (keyLt' (tuples' true) v u) Q E s:=by
 obtain ⟨a,o,its,m,rfl,ho,_,hd,rv⟩:=hv;obtain ⟨b,o2,a5,m2,rfl,a4,_,a3,I⟩:=hu;refine kat_lt ho hd a4 a3 ?_;have l1:=rv.length;have l2:=I.length;rw[qA5]at l1 l2;refine uN xs ys _ _ 0 rv I ?_;simp only [qB7,<- l1,<- l2];rw[pI];show h
def wl (hv:TupI h v xs)(a3:xs ≠ []):∃(a:Addr) (o:Obj) (its:Zj) (m:Nat) (i:Int) (I:Tok),v=.ref a/\h.get? a=some o/\o.cls=.type "tuple" /\ o.data=.seq its m/\its[0]?=some (.int i I):=by
 obtain ⟨a,o,its,m,e,ho,hc,hd,rv⟩:=hv;cases xs with
 |nil=>show absurd rfl a3
 | cons x xs=>
  cases its with
  |nil=>cases rv
  | cons u its=>
   cases rv with
   | cons r1 _=>
    obtain ⟨I,rfl⟩:=r1;show ⟨a,o,_,m,x,I,e,ho,hc,hd,rfl⟩
def lR:∀{vs:VY}{ss:Zw},Paired (λv xs=>TupI h v xs/\xs ≠ []) vs ss->∃fs:List Value,KatTups h vs fs/\fs.length=ss.length/\∀f∈fs,∃i t,f=.int i t
 |_,_,.nil=>⟨[],trivial,rfl,λ_ h=>nomatch h⟩
 | _,_,.cons hv t=>by
  obtain ⟨fs,k,hl,hi⟩:=lR t;obtain ⟨a,o,its,m,i,tk,e,ho,hc,hd,h0⟩:=wl hv.1 hv.2;subst e;refine ⟨.int i tk::fs,KatTups.cons ho hc hd h0 k,by rw[qD4,qD4,hl],λf I=>?_⟩;rcases qB6.mp I with q|I
  .show ⟨i,tk,q⟩
  .show hi f I
end
def M9:∀{as:List α}{bs:List β}{i:Nat},Paired F as bs->i<as.length->∃b,bs[i]?=some b/\F (as.getD i d) b
 |_,_,_,.nil,h=>absurd h (qC9 _)
 |_,_,0,.cons r _,_=>⟨_,rfl,r⟩
 | _,_,i+1,.cons _ t,h=>by
  obtain ⟨b,e,q⟩:=M9 (d:=d) (i:=i) t (by simpa using h);show ⟨b,by simpa using e,by simpa using q⟩
def fj {R:β->γ->Prop}:∀{as:List α}{bs:List β}{cs:List γ},Paired F as bs->Paired G as cs->(∀a b c,F a b->G a c->R b c)->Paired R bs cs
 |_,_,_,.nil,.nil,_=>.nil
 |_,_,_,.cons a r,.cons b t,h=>.cons (h _ _ _ a b) (fj r t h)
section
open PySem.W PyProof.Rows
end
def kP:bootBuiltins "sorted" = some (.builtin "sorted"):=Yo
def W5:List W->Option Zw
 | []=>some []
 | .tup ws::r=>match z6 ws,W5 r with
  |some x,some xs=>some (x::xs)
  |_,_=>none
 |_=>none
def lQ:∀ss:List Zk,W5 (ss.map λx=>W.tup (x.map W.int))=some ss
 | []=>rfl
 | x::ss=>by
  change (match z6 (x.map W.int),W5 (ss.map λx=>W.tup (x.map W.int)) with|some x,some xs=>_|_,_=>_)=_;rw[ints_map,lQ ss]
def xP:∀{ws:Zp}{x:Zk},z6 ws=some x->ws=x.map W.int:=by
 intro ws
 induction ws with
 |nil=>intro x h;cases h;rfl
 | cons w ws I=>
  intro x h;cases w <;> first | (cases h;done)|skip
  rename_i i
  have h':(z6 ws).map (i::·)=some x:=h;cases hw:z6 ws with
  |none=>rw[hw]at h';cases h'
  |some bs=>rw[hw]at h';rw[I hw,<- Lc h'];rfl
def wk:∀{ws:Zp}{ss:Zw},W5 ws=some ss->ws=ss.map λx=>W.tup (x.map W.int):=by
 intro ws
 induction ws with
 |nil=>intro ss h;cases h;rfl
 | cons w r ih=>
  intro ss h;cases w <;> first | (cases h;done)|skip
  rename_i ws
  have h':(match z6 ws,W5 r with|some x,some xs=>some (x::xs)|_,_=>none)=some ss:=h;cases h1:z6 ws with
  |none=>rw[h1]at h';cases h'
  | some x=>
   cases I:W5 r with
   |none=>rw[h1,I]at h';cases h'
   |some xs=>rw[h1,I]at h';rw[xP h1,ih I,<- Lc h'];rfl
def jY:∀ns:List Int,m9 (ns.map W.int)=true
 | []=>rfl
 |n::ns=>by rw[qB8];simp only [m9,noL,jY ns,qN3]
def mV:∀ss:List Zk,m9 (ss.map λx=>W.tup (x.map W.int))=true
 | []=>rfl
 |x::ss=>by rw[qB8];simp only [m9,noL,jY x,mV ss,qN3]
def jU:∀{ys:List V}{ss:Zw},Reps K F ys (ss.map λx=>W.tup (x.map W.int))->(∀x∈ss,x ≠ [])->Paired (λv I=>(∃a,v=.ref a/\F a=some (.tup (I.map V.int)))/\I ≠ []) ys ss
 |_,[],.nil,_=>.nil
 | _,x::ss,.cons r t,hne=>by
  refine .cons ⟨?_,hne x qB9⟩ (jU t λy hy=>hne y (qB1 _ hy));cases r with
  |tup ha hr=>show ⟨_,rfl,by rw[ha,Reps.ints hr (ints_map x)]⟩
def oX:∀{ys:List V}{ws:Zp}{i:Nat},Reps K F ys ws->i<ys.length->∃w,ws[i]?=some w/\Rep K F (ys.getD i .non) w
 |_,_,_,.nil,h=>absurd h (qC9 _)
 |_,_,0,.cons r _,_=>⟨_,rfl,r⟩
 | _,_,i+1,.cons _ t,h=>by
  obtain ⟨b,e,q⟩:=oX (i:=i) t (by simpa using h);show ⟨b,by simpa using e,by simpa using q⟩
def mE:∀{l:Zy},(∀i∈l,Rep K F (f i) (g i))->Reps K F (l.map f) (l.map g)
 | [],_=>.nil
 |_::_,h=>.cons (h _ qB9) (mE λb hb=>h b (qB1 _ hb))
set_option maxHeartbeats 2000000
def wm (l b:Addr)(a3:Zj)(m m2:Nat)(dd a5:Option Addr)(sl a4:Array (Option Value)) :
  Meets (Builtin.«tuple.__add__» ⟨[.ref l,.ref b],[]⟩) (λ_ R s=>s.heap.get? l=some { cls:=.type "tuple",dict:=dd,data:=.seq #[] m,slots:=sl }/\s.heap.get? b=some { cls:=.type "tuple",dict:=a5,data:=.seq a3 m2,slots:=a4 }/\R (.ok (.ret (.ref b))) s):=
 .of_wp λprog w A R s I=>by
  obtain ⟨hp,g,d,tk,os⟩:=s;obtain ⟨hl,hb,I⟩:=I;have g1:=AutoSeq1.sub_tuple_tuple
  wp_walk using qK4 hl,qK4 hb
  show ⟨_,rfl,I⟩
def yZ (K:Frag):R2:=λx y H Q=>yY K x y H Q\/∃a b ys,x=.ref a/\y=.ref b/\SqT K H a []/\SqT K H b ys/\Q (.ref b) H
def pk (hK:X.K=K:=by rfl):OpR X (binaryOp .Add) (yZ K):=by
 subst hK;intro pins s σ H x y v u Q I rx ry h;rcases h with h|⟨a,b,ys,rfl,rfl,ha,hb,q⟩
 .show Bd pins s σ H x y v u Q I rx ry h
 .cases rx;cases ry;obtain ⟨its,r1,⟨⟨c1,d1,t1,a9⟩,o1,a4,n1,a3⟩,_⟩:=I.tuple ha;obtain ⟨a5,r2,⟨⟨c2,d2,t2,a8⟩,o2,a7,n2,a6⟩,_⟩:=I.tuple hb;cases r1;simp only at a4 a3 a7 a6;subst a4 a3 a7 a6;show concat_meets ⟨_,o1,rfl⟩ ⟨_,o2,rfl⟩ qY1 seq_tuple_add qU0 qT6 (qT2 _ _) (wm a b a5.toArray n1 n2 d1 d2 a9 a8) ⟨o1,o2,.ref b,H,I,rfl,q⟩
def fCatT:W->W->R W
 | .tup us,.tup vs=>if us.length+vs.length<=1000/\m9 us=true/\m9 vs=true then .ok (.tup (us++vs)) else .stuck
 |_,_=>.stuck
def pp:Op2 K .B .F (yZ K) fCatT:=by
 intro EX H0 Hs G H ρ σ Ha Hb x y u v Q I s mx my o;cases u <;> first|show o.elim|skip
 all_goals (cases v <;> first|show o.elim|skip)
 rename_i us vs
 replace o:Out EX G H (mdW K .F H0 Hs) (if us.length+vs.length<=1000/\m9 us=true/\m9 vs=true then .ok (.tup (us++vs)) else .stuck) Q:=o
 by_cases hn:us.length+vs.length<=1000/\m9 us=true/\m9 vs=true
 .rw [qA2 hn]at o
  obtain ⟨hz,n1,n2⟩:=hn;rcases mx with mx|⟨_,_,_,_,e2,_⟩
  .rcases my with my|⟨_,_,_,_,e2,_⟩
   .have cx:=Rep.clean I mx (by simpa [noL]using n1);have cy:=Rep.clean I my (by simpa [noL]using n2);cases cx with
    | tup ha ra=>
     cases cy with
     | tup hb rb=>
      have l1:=ra.length;have l2:=rb.length;by_cases he:us = []
      .subst he;cases ra;show .inr ⟨_,_,_,rfl,rfl,SqT.of (I.gh _ _ ha),SqT.of (I.gh _ _ hb),o _ G H (Le I.gh) (.tup hb rb)⟩
      .refine .inl ⟨_,_,_,_,rfl,rfl,SqT.of (I.gh _ _ ha),SqT.of (I.gh _ _ hb),λz=>?_,by rw[l1,l2];show Y1 hz,λz=>?_,λ_ p hp=>?_⟩
       .subst z;cases ra;show he rfl
       .subst z;cases rb;rw[qG0]at o;show o _ G H (Le I.gh) (.tup ha ra)
       .show Out.newTF I (ra.append rb) hp o
   .cases e2
  .cases e2
 .rw[qA4 hn]at o;show o.elim
end TP
namespace L2
open PySem PySem.Spec PyProof.Rows
end L2
namespace TP
open PySem L2
end TP
namespace HT
open PySem PyProof.Rows
def getItem_tuple_all {lo:VX}(ht:IsTup s.heap t items)(hs:s.heap.IsSliceOf sl vl vu .none)(pl:IsPart vl lo)(pu:IsPart vu hi)(hw:sIx items.size 0 lo=0/\sIx items.size items.size hi=items.size)(h:Q (.ref t) s)(hsz:items.size<=sizeLine):wpAny (model prog w) A (getItem (.ref t) (.ref sl)) Q E s:=by
 have hj:sIx items.size items.size hi<=items.size:=tF _ _ (qB2 _) hi;obtain ⟨os,a3,a4,a6⟩:=id hs;have a5:s.TypeIs (.ref sl) "slice":=⟨os,a3,a4⟩;unfold getItem
 try with_reducible refine qR7 ?_
 first|refine qA1 (qQ5 ?_)|skip
 refine qA1 (wpAny_sequenceKey ht.typeIs ZU ?_);refine qA1 (qR2 (name:=Str.ofString "__getitem__") ht.typeIs qK3
  (qR8 qK3 ht.typeIs entry_tuple_getitem ?_ (args_tuple_getitem _ _)))
 change wpAny _ _ (Builtin.Tuple.tupleItemsOf (.ref t)>>=_) _ _ s;refine qA1 (tupleItemsOf_ ht ?_);refine qA1 (qY2 a5 ?_);rw[qA2 ZU];refine qA1 (Y3 hs pl pu ?_);have I:(((sIx items.size 0 lo:Nat):Int) == 0&&(1:Int) == 1&&(sIx items.size items.size hi-sIx items.size 0 lo) == items.size)=true:=by
  rw[hw.1,hw.2];simp
 change wpAny _ _ (if (((sIx items.size 0 lo:Nat):Int) == 0&&(1:Int) == 1&&(sIx items.size items.size hi-sIx items.size 0 lo) == items.size)=true then _ else _) _ _ s;rw[qA2 I];unfold Builtin.Tuple.tupleIsExact
 wp_walk using qY2 ht.typeIs
 show ⟨_,rfl,qQ5 h⟩
end HT
namespace TP
open PySem L2
def wS (K:Frag):V->Option Int->Option Int->Hp->VK->Prop:=λx lo hi H Q=>∃a xs,x=.ref a/\SqT K H a xs/\(HT.sIx xs.length 0 lo=0/\HT.sIx xs.length xs.length hi=xs.length)/\Q (.ref a) H
def Al:L2.SlR X (wS X.K):=by
 intro pins s σ H x v vl vu lo hi sl Q I rx hs pl pu h;obtain ⟨a,xs,rfl,hx,hw,q⟩:=h;cases rx;obtain ⟨its,r,ht,hz⟩:=I.tuple hx;have hlen:its.toArray.size=xs.length:=by rw[qB7];show r.length.symm
 refine ⟨"tuple",_,PyProof.Rows.slot_tuple_getitem.lookup,ht.typeIs,?_⟩;show HT.getItem_tuple_all ht hs pl pu (by rw[hlen];show hw) ⟨.ref a,H,I,rfl,q⟩ (by rw[hlen];show hz)
def ES (K:Frag):V->Option Int->Option Int->Hp->VK->Prop:=λx lo hi H Q=>EQ K x lo hi H Q\/wS K x lo hi H Q
def Ak:L2.SlR X (ES X.K):=L2.SlR.or DK Al
def Rst (x:R W)(l u:R VX):R W:=x>>=λx=>l>>=λl=>u>>=λu=>(match x with
 | .tup ws=>if m9 ws=true then .ok (.tup (K0 ws l u)) else .stuck
 |_=>.stuck)
def lO (m:Zo)(I mh:Rho->R VX):Zo:=λρ=>Rst (m ρ) (I ρ) (mh ρ)
def yx (h:HT.sIx ws.length 0 lo=0/\HT.sIx ws.length ws.length hi=ws.length):K0 ws lo hi=ws:=by
 unfold K0;rw[h.1,h.2,xB2,Nat.sub_zero,qI7]
def Kb (h:tM K EX .F (lO m ml mh) σ H Q):tSl (ES K) (tM K EX .B m) (V4 K EX ml) (V4 K EX mh) σ H Q:=by
 obtain ⟨H0,G,ρ,I,o⟩:=h;unfold lO Rst at o;refine ⟨H0,G,ρ,I,Lg o λx G1 H1 w e1 m1 o1=>⟨H0,G1,ρ,I.ext e1,Lg o1 λl' G2 H2 l e2 m2 o2=>⟨H0,G2,ρ,(I.ext e1).ext e2,Lg o2 λu' G3 H3 u e3 m3 o3=>?_⟩⟩⟩;subst m2;subst m3;have I3:=((I.ext e1).ext e2).ext e3;cases w <;> first|show o3.elim|skip
 rename_i ws
 dsimp only at o3;by_cases hn:m9 ws=true
 .rw [qA2 hn]at o3
  have mx:=(m1.move e2).move e3;rcases mx with mx|⟨_,_,_,_,z,_⟩
  .have cx:=Rep.clean I3 mx (by simpa [noL]using hn);cases cx with
   | tup ha ra=>
    rename_i a vs
    have l1:=ra.length;by_cases hw:HT.sIx vs.length 0 l'=0/\HT.sIx vs.length vs.length u'=vs.length
    .refine .inr ⟨a,vs,rfl,SqT.of (I3.gh _ _ ha),hw,?_⟩;rw[yx (by rw[<- l1];show hw)]at o3;show o3 _ G3 H3 (Le I3.gh) (.tup ha ra)
    .show .inl ⟨a,vs,rfl,SqT.of (I3.gh _ _ ha),hw,λp hp=>Out.newTF I3 (ra.cut l' u') hp o3⟩
  .cases z
 .rw[qA4 hn]at o3;show o3.elim
def Ji {X:Cx}{K:Frag}{EX:EXT}{e:Expr}{pos:Pos}{ma:Zo}{lo hi:Option Expr}{p2:Pos}{ml I:Rho->R VX}(he:PE X e (tM K EX .B ma))(hl:PO X lo (V4 K EX ml))(hu:PO X hi (V4 K EX I))(hK:X.K=K:=by rfl):PE X (.Subscript e (.Slice lo hi none p2) pos) (tM K EX .F (lO ma ml I)):=by
 subst hK;show (mJ Ak he hl hu).mono λ_ _ _ q=>Kb q
def oM (m:Zo)(I mh:Rho->R VX)(ρ:Rho):lO m I mh ρ=Rst (m ρ) (I ρ) (mh ρ):=rfl
def IO (h:m9 ws=true)(l u:VX):Rst (.ok (.tup ws)) (.ok l) (.ok u)=.ok (.tup (K0 ws l u)):=by
 change (if m9 ws=true then _ else _)=_;rw[qA2 h]
def jz:W->Option Zk
 | .tup ws=>z6 ws
 |_=>none
def nF (ns:Zk):jz (.tup (ns.map W.int))=some ns:=ints_map ns
abbrev Z7 (k:Zk):List Key:=k.map Sum.inl
def xQ (e:Z7 a=Z7 b):a=b:=by
 have:=congrArg (List.map λx:Key=>match x with | .inl i=>i | .inr _=>0) e
 simpa [Z7,Function.comp_def]using this
def Gi (k:Zk):(Z7 k).map kV=k.map V.int:=by rw[qC8];rfl
def BQ (r:Rep K F v w)(e:jz w=some k):∃b,v=.ref b/\F b=some (.tup ((Z7 k).map kV)):=by
 cases r <;> first|cases e|skip
 rename_i a vs ws h r
 refine ⟨a,rfl,?_⟩;rw[Gi,<- Reps.ints r e];show h
def nE (I:PIv K H0 G ρ σ H)(m:Md K H0 Hs G H v w .B)(e:jz w=some k):∃b,v=.ref b/\H b=some (.tup ((Z7 k).map kV)):=by
 rcases m with r|⟨a,vs,ws,_,rfl,_⟩
 .obtain ⟨b,e1,e2⟩:=BQ r e;show ⟨b,e1,I.join_H _ _ e2⟩
 .cases e
def any_keys {kvs:List (List Key×V)}{ks:Zw}(hk:kvs.map (·.1)=ks.map λk=>k.map Sum.inl):(kvs.any λkv=>decide (kv.1=Z7 k))=decide (k∈ks):=by
 rw[qH4,qD5,qR6];constructor
 .rintro ⟨p,I,q⟩;have e:=qQ9 q
  have:p.1∈ks.map λk=>k.map Sum.inl:=by rw[<- hk];show qB0.mpr ⟨p,I,rfl⟩
  obtain ⟨j,hj,ej⟩:=qB0.mp this;rw[<- xQ (ej.trans e)];show hj
 .intro h
  have:Z7 k∈kvs.map (·.1):=by rw[hk];show qB0.mpr ⟨k,h,rfl⟩
  obtain ⟨p,I,e⟩:=qB0.mp this;show ⟨p,I,qQ7 e⟩
def oj (ks:Zw)(k:Zk):List Zk:=if k∈ks then ks else ks ++ [k]
def xK (hk:kvs.map (·.1)=ks.map λk=>k.map Sum.inl):(putK kvs (Z7 k) v).map (·.1)=(oj ks k).map λk=>k.map Sum.inl:=by
 unfold putK oj;rw[any_keys hk];by_cases h:k∈ks
 .rw [qA2 (qQ7 h),qA2 h,<- hk,qC8]
  refine qK8 λp _=>?_
  change (if p.1=Z7 k then (p.1,v) else p).1=p.1
  split <;> rfl
 .rw[qA4 (by simpa using h),qA4 h,qD0,qD0,hk];rfl
def PIv.updD (I:PIv K H0 G ρ σ H)(ha:H a=some (.dT kvs))(hg:G a=none)(h0:H0 a=none)(nd:∀(j:Nat) (ks:Zw),ρ[j]?=some (.dic ks)->σ[j]?≠some (some (.ref a))):PIv K H0 G ρ σ (upd H a (.dT kvs')):=by
 refine ⟨I.g0,I.gl,λb o q=>by rw[d8 (e9 q hg)];show I.gh b o q,λb o q=>by rw[d8 (e9 q h0)];show I.hh b o q,I.len,λj x o h1 h2=>?_,I.ne⟩
 have:=I.sl j x o h1 h2
 cases x with
 | own us=>
  obtain ⟨b,a3,eb,hb,a4,a5,rb⟩:=this;have a6:b≠a:=by
   rintro rfl;rw[ha]at hb;cases hb
  show ⟨b,a3,eb,by rw[d8 a6];show hb,a4,a5,rb⟩
 | dic ks=>
  obtain ⟨b,a3,eb,hb,a4,a5,rb⟩:=this;subst eb;have a6:b≠a:=by
   rintro rfl;show nd j ks h1 h2
  show ⟨b,a3,rfl,by rw[d8 a6];show hb,a4,a5,rb⟩
 | dik ks=>
  obtain ⟨b,a3,eb,hb,a4,a5,rb⟩:=this;have a6:b≠a:=by
   rintro rfl;rw[ha]at hb;cases hb
  show ⟨b,a3,eb,by rw[d8 a6];show hb,a4,a5,rb⟩
 |un=>show this
 |val _=>show this
 |par _=>show this
 |iop _ _=>show this
 |hz _=>show this
def PIv.setD (I:PIv K H0 G ρ σ H)(ha:H a=some (.dT kvs))(hg:G a=none)(h0:H0 a=none)(hk:kvs.map (·.1)=ks.map λk=>k.map Sum.inl):PIv K H0 G (ρ.set i (.dic ks)) (σ.set i (some (.ref a))) H where
 g0:=I.g0
 gl:=I.gl
 gh:=I.gh
 hh:=I.hh
 len:=by rw[qD3,qD3];show I.len
 sl j x o h1 h2:=by
  by_cases hj:i=j
  .subst hj;rw[qC3]at h1 h2;simp only [qQ8]at h1 h2
   split at h1 <;> split at h2 <;> simp only [qF8,reduceCtorEq]at h1 h2
   subst h1;subst h2;show ⟨a,kvs,rfl,ha,hg,h0,hk⟩
  .rw[qB4 hj]at h1 h2;show I.sl j x o h1 h2
 ne a b ws us c hab h1 h2 h3 h4:=by
  have na:i≠a:=by
   rintro rfl;rw[qC3]at h1;simp only [qQ8]at h1
   split at h1 <;> simp at h1
  have nb:i≠b:=by
   rintro rfl;rw[qC3]at h2;simp only [qQ8]at h2
   split at h2 <;> simp at h2
  rw[qB4 na]at h1 h3;rw[qB4 nb]at h2 h4;show I.ne a b ws us c hab h1 h2 h3 h4
def PIv.dic_at {i:Nat}(I:PIv K H0 G ρ σ H)(e:ρ[i]?=some (.dic ks)):∃a kvs,σ[i]?=some (some (.ref a))/\H a=some (.dT kvs)/\G a=none/\H0 a=none/\kvs.map (·.1)=ks.map λk=>k.map Sum.inl:=by
 have hi:i<σ.length:=by rw[<- I.len];show (qA6.mp e).1
 have es:σ[i]?=some σ[i]:=ZW;obtain ⟨a,kvs,ev,r⟩:=I.sl i _ _ e es;show ⟨a,kvs,by rw[es,ev],r⟩
def cC:Sl->Bool
 | .dic _=>true
 |_=>false
def lq (ρ:Rho):Bool:=ρ.all λs=>!cC s
def xv {ρ:Rho}(h:lq (ρ.set i .un)=true)(hj:i≠j):ρ[j]?≠some (.dic ks):=λe=>by
 have I:(ρ.set i .un)[j]?=some (.dic ks):=by rw[qB4 hj];show e
 have:=qH8.mp h _ (qD8 I)
 simp [cC]at this
def PIv.dic_upd (I:PIv K H0 G ρ σ H)(e:ρ[i]?=some (.dic ks))(es:σ[i]?=some (some (.ref a)))(one:lq (ρ.set i .un)=true)(hk:kvs'.map (·.1)=ks'.map λk=>k.map Sum.inl):
  PIv K H0 G (ρ.set i (.dic ks')) σ (upd H a (.dT kvs')):=by
 obtain ⟨a',kvs,ev,ha,hg,h0,_⟩:=I.sl i _ _ e es;cases ev;refine ⟨I.g0,I.gl,λb o q=>by rw[d8 (e9 q hg)];show I.gh b o q,λb o q=>by rw[d8 (e9 q h0)];show I.hh b o q,by rw[qD3];show I.len,λj x o h1 h2=>?_,λp q a8 us c a7 h1 h2 h3 h4=>?_⟩
 .by_cases hj:i=j
  .subst hj;rw[qC3]at h1;simp only [qQ8]at h1
   split at h1 <;> simp only [qF8,reduceCtorEq]at h1
   subst h1;rw[es]at h2;cases h2;show ⟨a,kvs',rfl,j6,hg,h0,hk⟩
  .rw [qB4 hj]at h1
   have:=I.sl j x o h1 h2
   cases x with
   | own us=>
    obtain ⟨b,a3,eb,hb,a4,a5,rb⟩:=this;have a6:b≠a:=by
     rintro rfl;rw[ha]at hb;cases hb
    show ⟨b,a3,eb,by rw[d8 a6];show hb,a4,a5,rb⟩
   |dic ls=>show absurd h1 (xv one hj)
   | dik ks=>
    obtain ⟨b,a3,eb,hb,a4,a5,rb⟩:=this;have a6:b≠a:=by
     rintro rfl;rw[ha]at hb;cases hb
    show ⟨b,a3,eb,by rw[d8 a6];show hb,a4,a5,rb⟩
   |un=>show this
   |val _=>show this
   |par _=>show this
   |iop _ _=>show this
   |hz _=>show this
 .have na:i≠p:=by
   rintro rfl;rw[qC3]at h1;simp only [qQ8]at h1
   split at h1 <;> simp at h1
  have nb:i≠q:=by
   rintro rfl;rw[qC3]at h2;simp only [qQ8]at h2
   split at h2 <;> simp at h2
  rw[qB4 na]at h1;rw[qB4 nb]at h2;show I.ne p q a8 us c a7 h1 h2 h3 h4
def inD (o:Option Sl)(w:W)(neg:Bool):R Bool:=match o with
 | some (.dic ks)=>(match jz w with
  |some k=>.ok (if neg then !decide (k∈ks) else decide (k∈ks))
  |none=>.stuck)
 |_=>.stuck
def mIn (neg:Bool)(i:Nat)(I:Zo):ZZ:=λρ=>I ρ>>=λw=>inD ρ[i]? w neg
def Km (h:tT K EX (mIn false i mk) σ H Q):tB (wv (tM K EX .B mk) (V3 i)) σ H Q:=by
 obtain ⟨H0,G,ρ,I,o⟩:=h;refine ⟨H0,G,ρ,I,Lg (md:=mdW K .B H0 H) o λy G1 H1 w e1 m1 o1=>?_⟩;have I1:=I.ext e1;unfold inD at o1
 split at o1
 .rename_i ks e
  split at o1
  .rename_i k ek
   obtain ⟨a,kvs,es,ha,hg,h0,hk⟩:=I1.dic_at e;obtain ⟨b,rfl,hb⟩:=nE I1 m1 ek;refine ⟨.ref a,es,a,_,rfl,DGet.t ha hb,_,rfl,?_⟩;rw[<- bX,any_keys hk];show o1 _ G1 H1 (Le I1.gh) rfl
  .show o1.elim
 .show o1.elim
def putD (ks:Zw)(i:Nat)(w:W)(ρ:Rho):R Fl:=match jz w with
 |some k=>if lq (ρ.set i .un)=true/\ks.length<1000 then .ok (.nx (ρ.set i (.dic (oj ks k)))) else .stuck
 |none=>.stuck
def lH (o:Option Sl)(I rk:R W)(i:Nat)(ρ:Rho):R Fl:=match o with
 |some (.dic ks)=>I>>=λ_=>rk>>=λw=>putD ks i w ρ
 |_=>.stuck
def ig (i:Nat)(I me:Zo):Zg:=λρ=>lH ρ[i]? (me ρ) (I ρ) i ρ
def Iu (h:tSt K EX d (ig i mk me) D σ H):qF (V3 i) (tM K EX .B mk) (tM K EX .B me) D σ H:=by
 obtain ⟨H0,G,ρ,I,o⟩:=h;unfold ig lH at o
 split at o
 .rename_i ks e
  refine ⟨H0,G,ρ,I,OutS.bind I o λv G1 H1 w1 e1 m1 o1=>?_⟩;have I1:=I.ext e1;obtain ⟨a,kvs,es,ha,hg,h0,hk⟩:=I1.dic_at e;refine ⟨.ref a,es,H0,G1,ρ,I1,OutS.bind I1 o1 λy G2 H2 w e2 m2 o2=>?_⟩;have I2:=I1.ext e2;unfold putD at o2
  split at o2
  .rename_i k ek
   split at o2
   .rename_i hc
    obtain ⟨b,rfl,hb⟩:=nE I2 m2 ek;have hl:kvs.length=ks.length:=by have:=congrArg List.length hk;simpa using this
    refine ⟨a,_,rfl,DPut.t (e2.hh a _ ha) hb (qB3 (show kvs.length<1000 by omega) ZU),?_⟩;show o2 G2 σ _ (Lf _) (I2.dic_upd e es hc.1 (xK hk))
   .show o2.elim
  .show o2.elim
 .show o.elim
def newD (i:Nat)(w:W)(ρ:Rho):R Fl:=match jz w with
 |some k=>.ok (.nx (ρ.set i (.dic [k])))
 |none=>.stuck
def lB (i:Nat)(I me:Zo):Zg:=λρ=>I ρ>>=λw=>me ρ>>=λ_=>newD i w ρ
def oQ (I tv:TE):TE:=λσ H Q=>∀p,H p=none->I σ (upd H p (.dT [])) λx H1=>tv σ H1 λy H2=>H2 p=some (.dT [])/\∃b k,x=.ref b/\H2 b=some (.tup (k.map kV))/\Q (.ref p) (upd H2 p (.dT [(k,y)]))
def Iv (h:tSt K EX d (lB i mk me) D σ H):Y2 (oQ (tM K EX .B mk) (tM K EX .B me)) (L6 i) D σ H:=by
 obtain ⟨H0,G,ρ,I,o⟩:=h;intro p hp;have a6:G p=none:=by
  cases q:G p with
  |none=>rfl
  |some u=>rw[I.gh p u q]at hp;cases hp
 have a4:H0 p=none:=by
  cases q:H0 p with
  |none=>rfl
  |some u=>rw[I.hh p u q]at hp;cases hp
 have su:Same H (upd H p (.dT [])):=λb u q=>by rw[d8 (e9 q hp)];show q
 have x0:Ext G H G (upd H p (.dT [])):=⟨Lf G,su,I.gh.trans su,λ_ _ _ _ e=>e⟩;have I0:=I.ext x0;have o':OutS K EX d H0 G (mk ρ>>=λw=>me ρ>>=λ_=>newD i w ρ) D:=o;refine ⟨H0,G,ρ,I0,OutS.bind I0 o' λx G1 H1 w e1 m1 o1=>?_⟩;have I1:=I0.ext e1;refine ⟨H0,G1,ρ,I1,OutS.bind I1 o1 λy G2 H2 w2 e2 m2 o2=>?_⟩;have I2:=I1.ext e2;have a5:H2 p=some (.dT []):=e2.hh p _ (e1.hh p _ j6);have a3:G2 p=none:=e2.keep p _ (e1.hh p _ j6) rfl (e1.keep p _ j6 rfl a6);refine ⟨a5,?_⟩;unfold newD at o2
 split at o2
 .rename_i k ek
  obtain ⟨b,rfl,hb⟩:=nE I1 m1 ek;refine ⟨b,Z7 k,rfl,e2.hh b _ hb,?_⟩;refine o2 G2 _ _ (Lf _) (PIv.setD (I2.updD a5 a3 a4 λj ks e1 e2=>?_) j6 a3 a4 rfl);obtain ⟨c,kvs,ec,hc,_⟩:=I.sl j _ _ e1 e2;cases ec;rw[hp]at hc;cases hc
 .show o2.elim
def uc (hu:X.A.units+1<cLine)(hk:PE X k tk)(hv:PE X v tv):PE X (.Dict [some k] [v] pos) (oQ tk tv):=by
 intro pins s σ H Q I q;have hn:=I.hok.fresh (qB2 s.heap.objs.size);have I1:=I.laid (a:=s.heap.objs.size) (o:=.dT []) (h':=s.heap.push { cls:=.type "dict",data:=.dict #[] }) (t':=s.toks) (λ_ _ q=>qA9 _ q) (qB2 _) (yo s.heap I.big);refine wpAny_Dict_any rfl rfl ZW (Nat.le_of_ble_eq_true rfl) ?_;refine pairTrees_cons_walk (thn (hk pins _ σ _ _ I1 (q _ hn)) λu s1 ⟨x,H1,I2,rx,q1⟩=>thn (hv pins s1 σ H1 _ I2 q1) λw2 s2 ⟨y,H2,I3,ry,e,b,kk,ex,eb,q2⟩=>pairTrees_nil_walk ?_);subst ex;obtain rfl:u=Value.ref b:=rx;obtain ⟨z,hd,xs,rel,dd⟩:=zE I3.hok e;cases rel;unfold storeAll;rw[qN7];refine qA1 (qA1 (wpAny_dictSet_heap (knd:=tupleKind (A8 X.prog X.w)) (hsz:=qC7 _) (show (tupleKind (A8 X.prog X.w)).room X.A from qQ0 hu) (ip I3.hok eb) dd λh' a3 hs=>qQ5 ?_))
 change wpAny _ _ (forIn [] PUnit.unit _) _ _ _;rw[qW0];refine qQ5 ⟨.ref s.heap.objs.size,_,?_,rfl,q2⟩;obtain ⟨qo,es,ep,hq,h2,h3,h4,_,h5⟩:=a3;refine jJ I3 (by rw[e];show True.intro) hs ⟨qo,hq⟩ ⟨Nat.succ_le_of_lt ZU,hd,_,(KT.put (H:=H2) (kvs:=[]) (xs:=[]) .nil kk eb ry).keeps λc ys ec=>?_,qo,es,ep,hq,h2,h3,h4,h5⟩;rw[d8 (zj ec e (λz=>nomatch z))];show ec
def Fg {X:Cx}{K:Frag}{EX:EXT}{d:Mode}{k v:Expr}{pos:Pos}{I me:Zo}{i:Nat}{x:Str}{pos' pos2:Pos}(hu:X.A.units+64<cLine)(hN:X.N.Nodup)(hi:X.N[i]?=some x)(hx:Loc X.env.scope x)(hk:PE X k (tM K EX .B I))(hv:PE X v (tM K EX .B me))(hs:swapsWith (.Dict [some k] [v] pos) (some (.Name x pos')) pos2.line X.env=pure false:=by rfl)(hf:X.fn x=true\/X.env.scope.names.lookup x=some .local:=by first|show Or.inl rfl|show Or.inr rfl|assumption):
  PS X (.Assign [.Name x pos'] (.Dict [some k] [v] pos) pos2) (tSt K EX d (lB i I me)):=(bp hN hi hx (uc ox hk hv) hs hf).mono λ_ _ _ q=>Iv q
def Jm {X:Cx}{K:Frag}{EX:EXT}{k:Expr}{pos:Pos}{mk:Zo}{i:Nat}{x:Str}{p:Pos}(hu:X.A.units+64<cLine)(hN:X.N[i]?=some x)(hv:Vis X.env.scope x)(hk:PE X k (tM K EX .B mk))(hd:(x == ("__debug__":Str))=false:=by decide)(I:(x == ("__classdict__":Str))=false:=by decide)(hm:behindInMarks .In (.Name x p)=false:=by rfl):PT X (.Compare k [.In] [.Name x p] pos) (tT K EX (mIn false i mk)):=(tQ (uf ox hk (Q4 hN hv hd I)) hm).mono λ_ _ _ q=>Km q
def Ff {X:Cx}{K:Frag}{EX:EXT}{d:Mode}{e k:Expr}{pos:Pos}{mk me:Zo}{i:Nat}{x:Str}{p p2:Pos}(hu:X.A.units+64<cLine)(hN:X.N[i]?=some x)(hv:Vis X.env.scope x)(hk:PE X k (tM K EX .B mk))(he:PE X e (tM K EX .B me))(hd:(x == ("__debug__":Str))=false:=by decide)(I:(x == ("__classdict__":Str))=false:=by decide)(hs:swapsWith e (some (.Subscript (.Name x p) k p2)) pos.line X.env=pure false:=by rfl):PS X (.Assign [.Subscript (.Name x p) k p2] e pos) (tSt K EX d (ig i mk me)):=(pc ox (Q4 hN hv hd I) hk he hs).mono λ_ _ _ q=>Iu q
set_option maxHeartbeats 2000000
def uH (neg:Bool)(i:Nat)(I:Zo)(ρ:Rho):mIn neg i I ρ=(I ρ>>=λw=>inD ρ[i]? w neg):=rfl
def vd (ks:Zw)(k:Zk):inD (some (.dic ks)) (.tup (k.map W.int)) false=.ok (decide (k∈ks)):=by unfold inD;rw[nF];rfl
def nt (i:Nat)(I me:Zo)(ρ:Rho):ig i I me ρ=lH ρ[i]? (me ρ) (I ρ) i ρ:=rfl
def gx (ks:Zw)(w:W)(k:Zk)(i:Nat)(ρ:Rho)(h:lq (ρ.set i .un)=true)(I:ks.length<1000):lH (some (.dic ks)) (.ok w) (.ok (.tup (k.map W.int))) i ρ=.ok (.nx (ρ.set i (.dic (oj ks k)))):=by
 change putD ks i (.tup (k.map W.int)) ρ=_;unfold putD;rw[nF];show qA2 ⟨h,I⟩
def xE (i:Nat)(I me:Zo)(ρ:Rho):lB i I me ρ=(I ρ>>=λw=>me ρ>>=λ_=>newD i w ρ):=rfl
def px (i:Nat)(k:Zk)(ρ:Rho):newD i (.tup (k.map W.int)) ρ=.ok (.nx (ρ.set i (.dic [k]))):=by unfold newD;rw[nF]
def n6 {i j}(I:PA X es (tA K EX d mr)):PA X (.Constant (.int i) j p::es) (tA K EX d (aC (mC (.int i)) mr)):=b6 c9 I ZY
def Fd {a0 a1 a2 a3 a4 a5}{u0 u1 u2 u3 u4 u5}:PE X (.List [.Constant (.int a0) u0 p0,.Constant (.int a1) u1 p1,.Constant (.int a2) u2 p2,.Constant (.int a3) u3 p3,.Constant (.int a4) u4 p4,.Constant (.int a5) u5 p5] pos) (tM K EX .F (y6 (aC (mC (.int a0)) (aC (mC (.int a1)) (aC (mC (.int a2)) (aC (mC (.int a3)) (aC (mC (.int a4)) (aC (mC (.int a5)) aN)))))))):=by
 refine w8 ?_;refine n6 ?_;refine n6 ?_;refine n6 ?_;refine n6 ?_;refine n6 ?_;refine n6 ?_;show b8
def Fc {a0 a1 a2 a3 a4 a5 a6}{u0 u1 u2 u3 u4 u5 u6}:PE X (.List [.Constant (.int a0) u0 p0,.Constant (.int a1) u1 p1,.Constant (.int a2) u2 p2,.Constant (.int a3) u3 p3,.Constant (.int a4) u4 p4,.Constant (.int a5) u5 p5,.Constant (.int a6) u6 p6] pos) (tM K EX .F (y6 (aC (mC (.int a0)) (aC (mC (.int a1)) (aC (mC (.int a2)) (aC (mC (.int a3)) (aC (mC (.int a4)) (aC (mC (.int a5)) (aC (mC (.int a6)) aN))))))))):=by
 refine w8 ?_;refine n6 ?_;refine n6 ?_;refine n6 ?_;refine n6 ?_;refine n6 ?_;refine n6 ?_;refine n6 ?_;show b8
end TP
namespace TB
open PySem PySem.W
def bits_of {ns:Zk}(h:WData.layableAll [WData.list (ns.map WData.int)]=true):∀x∈ns,Builtin.Int.intBits x<=1048576:=λx hx=>by
 have h1:(WData.list (ns.map WData.int)).layable=true:=by simpa [WData.layableAll]using h
 have I:(WData.list (ns.map WData.int)).weight<=2^20:=(layableW_iff.mp h1).2.2;have key:∀ms:List Int,x∈ms->Builtin.Int.intBits x<=WData.weightAll (ms.map WData.int):=by
  intro ms
  induction ms with
  |nil=>intro z;cases z
  | cons m ms ih=>
   intro z;rw[qB8]
   change _<=WData.weight (.int m)+1+WData.weightAll (ms.map WData.int);rcases qB6.mp z with e|e
   .subst e
    have:WData.weight (.int x)=Builtin.Int.intBits x:=ZY
    omega
   .have:=ih e
    omega
 show qA8 (key ns hx) (by simpa [WData.weight]using I)
end TB
namespace Att
open PySem PySem.W PySem.Calls PyProof.Rows
def attach_callB {l:OpenLaw}(hn:l.most=some n)(a7:d.params.defaults = []) (call:∀(w:World) (s₀ I:Shared) (mg mb:VV) (fa:Addr) (o:Obj) (pm cd doc:Value) (a:Addr) (vs:VY) (ns:Zk),
   Ground q loose [] XP w s₀ mg mb I.heap->YP w I.heap ->
   I.heap.get? fa=some o->o.data=.func (docDef d.name d.params d.body d.scope pm cd doc)->I.heap.CodeRec cd d.name->mg d.name=some (.ref fa) ->
   I.heap.get? a=some { cls:=.type "list",data:=.seq vs.toArray }->IntsAre vs ns->ns.length<=n->(∀x∈ns,Builtin.Int.intBits x<=1048576)->I.gens=#[] ->
   codeAny (model l.prog w) callerA (.call (.ref fa) ⟨[.ref a],[]⟩) (λr s'=>r=.ok (.ret (.bool true))/\OldK I.heap s'.heap/\s'.os=I.os/\AllBare s'.gens) I):
  WalkO q loose XP YP l.row.toRowW d [] (λf vs=>PySem.call f vs):=by
 intro w s₀ I mg mb G Y fa o pm cd doc dV kV ho hd a6 hD a8 hg args vals as a5 a4 ab a9 b0;obtain rfl:dV=.none:=Dflts.none hD a7;obtain rfl:kV=.none:=Dflts.noKw hD;obtain ⟨a,vs,ns,rfl,rfl,a3,hints,hlen⟩:=tw hn a5 a9;refine enter_call (codeAny_mono (call w s₀ I mg mb fa o pm cd doc a vs ns G Y ho (fd_plain hd) a6 a8 a3 hints hlen (TB.bits_of a4) hg) λr s' hq=>?_);obtain ⟨rfl,h2,h3,h4⟩:=hq;show ⟨.inl ⟨.bool true,.bool true,[],rfl,λ_=>rfl,.bool true,tU l _,λ_=>⟨List.Pairwise.nil,λ_ hm=>(nomatch hm)⟩⟩,h2,h3,h4⟩
end Att
namespace L2
open PySem PySem.Spec PyProof.Rows
def wd {l:PySem.W.OpenLaw}{K:Params->Frag}{CX:World->CXT}{sp:World->Sp}(hn:l.most=some n)(a7:n<=sizeLine)(a4:d.params.defaults = [])(hr:Room k callerA)(hY:∀(w:World) (h:Heap),YP w h->(K w.params).In h) (F:∀(w:World) (mg:VV) (fa:Addr) (h:Heap),(K w.params).In h->h.Ns mainGlobals mg->mg d.name=some (.ref fa) ->
   ∃ fd:FuncData,(∀(s:Shared) (u:Value),BindsTo s fd ⟨[u],[]⟩ [(x,u)]) /\
    ∀base:Heap,(K w.params).In base->base.Ns mainGlobals mg->FnOk l.prog w (K w.params) mg base (CX w) k fa fd [x] (sp w)) (a8:∀(w:World) (H:Hp) (a:Addr) (ns:Zk),ns.length<=n->(∀x∈ns,Builtin.Int.intBits x<=1048576)->rY H->SqL (K w.params) H a (ns.map V.int)->sp w [.ref a] H (λv _=>v=.bl true) λ_ _ _=>False) (a9:∀(w:World) (H:Hp) (s:Shared) (e:Value) (s':Shared),CX w [] H s (λ_ _ _=>False) e s'->False):
  PySem.W.WalkO q loose XP YP l.row.toRowW d [] (λf vs=>PySem.call f vs):=by
 refine Att.attach_callB hn a4 λw s₀ I mg mb fa o pm cd doc a vs ns G Y ho hd ab a5 a3 hints hlen a6 hg=>?_;have KX:=hY w _ Y;obtain ⟨fd,hb,hF⟩:=F w mg fa _ KX G.T.g a5;show xJ KX G.T.g G.T.b G.T.builtins G.T.nolimit hg a3 hints (qA8 hlen a7) hr hF hb (λH hO hS=>a8 w H a ns hlen a6 hO hS) λH e s'=>a9 w H I e s'
def walk_ofKB {l:PySem.W.OpenLaw}{K:Params->Frag}{sp:Frag->Sp}(hn:l.most=some n)(a3:n<=sizeLine)(I:d.params.defaults = [])(hr:Room k callerA)(hY:∀(w:World) (h:Heap),YP w h->(K w.params).In h) (F:∀(w:World) (mg:VV) (fa:Addr) (h:Heap),(K w.params).In h->h.Ns mainGlobals mg->mg d.name=some (.ref fa) ->
   ∃ fd:FuncData,(∀(s:Shared) (u:Value),BindsTo s fd ⟨[u],[]⟩ [(x,u)]) /\
    ∀base:Heap,(K w.params).In base->base.Ns mainGlobals mg->FnOk l.prog w (K w.params) mg base CX k fa fd [x] (sp (K w.params))) (a4:∀(K:Frag) (H:Hp) (a:Addr) (ns:Zk),ns.length<=n->(∀x∈ns,Builtin.Int.intBits x<=1048576)->rY H->SqL K H a (ns.map V.int)->sp K [.ref a] H (λv _=>v=.bl true) λ_ _ _=>False) (a5:∀(H:Hp) (s:Shared) (e:Value) (s':Shared),CX [] H s (λ_ _ _=>False) e s'->False):
  PySem.W.WalkO q loose XP YP l.row.toRowW d [] (λf vs=>PySem.call f vs):=
 wd (K:=K) (CX:=λ_=>CX) (sp:=λw=>sp (K w.params)) hn a3 I hr hY F (λw H a ns h1 hb h2 h3=>a4 (K w.params) H a ns h1 hb h2 h3) λ_ H s e s'=>a5 H s e s'
end L2
namespace TP
open PySem L2
def CMulB (i j:Int):Prop:=CMul i j\/Builtin.Int.intBits i+Builtin.Int.intBits j<=134217728
instance (i j:Int):Decidable (CMulB i j):=by unfold CMulB;infer_instance
def CMulB.ok (h:CMulB i j):IntMulOk i j:=by
 rcases h with h|h
 .show h.ok
 .show IntMulOk.of_le (qB2 _) (qB2 _) h
def u8:OpR X (binaryOp .Mult) (rI CMulB λi j=>.int (i*j)):=opI λ_ _ _ _ _ _ _ hc q=>PyProof.Rows.mul_int q hc.ok
def uw {i j:Int}(h:-18446744073709551616<i/\i<18446744073709551616):fI CMulB o7 (.int i) (.int j)=.ok (.int (i*j)):=by
 change (if CMulB i j then _ else _)=_;show qA2 (.inl (.inl h))
def hU {i j:Int}(h:-18446744073709551616<j/\j<18446744073709551616):fI CMulB o7 (.int i) (.int j)=.ok (.int (i*j)):=by
 change (if CMulB i j then _ else _)=_;show qA2 (.inl (.inr h))
def mY {i j:Int}(h:Builtin.Int.intBits i+Builtin.Int.intBits j<=134217728):fI CMulB o7 (.int i) (.int j)=.ok (.int (i*j)):=by
 change (if CMulB i j then _ else _)=_;show qA2 (.inr h)
def BM (G:FnOk P w K mg base CX0 k f fd ps (spM K 1 d F))(h:∀ns:List Int,ns.length<=63->(∀x∈ns,Builtin.Int.intBits x<=1048576)->F [.scr (ns.map W.int)]=.ok (.bl true)):FnOk P w K mg base CX0 k f fd ps (λvs H Q _=>∃(a:Addr) (ns:Zk),vs = [.ref a]/\SqL K H a (ns.map V.int)/\ns.length<=63/\(∀x∈ns,Builtin.Int.intBits x<=1048576)/\∀H',Q (.bl true) H'):=
 G.imp λvs H Q E I=>by
  obtain ⟨a,ns,e,hs,hl,hb,q⟩:=I;subst e;refine ⟨rfl,[.scr (ns.map W.int)],.cons (.scr hs ?_) .nil,?_⟩
  .clear hs hl hb
   induction ns with
   |nil=>show .nil
   |cons n ns ih=>show .cons .int ih
  .rw [h ns hl hb]
   intro v G' H' _ _ _ m;have e:v=.bl true:=by
    cases d <;> first | (cases m;rfl) | (rcases m with m|⟨_,_,_,_,z,_⟩ <;> first | (cases m;rfl)|cases z)
   subst e;show q H'
end TP
namespace TL
open PySem
def FS:typeLookup (.type "list_reverseiterator") "__len__" = pure none:=by rw[typeLookup_type,builtinLookup_eq_fast];kernel_rfl
def xU:typeLookup (.type "list_reverseiterator") "__length_hint__" = pure (some (.builtin "list_reverseiterator.__length_hint__")):=by rw[typeLookup_type,builtinLookup_eq_fast];kernel_rfl
def sub_self:isSubtype (.type "list_reverseiterator") (.type "list_reverseiterator")=pure true:=by rw[isSubtype_type];kernel_rfl
def xS (a5:s.heap.IsRevIter I l i)(h:Q false s):wpAny (model prog w) A (Builtin.List.listLengthHint (.ref I)) Q E s:=by
 have hT:=a5.typeIs;unfold Builtin.List.listLengthHint;refine qA1 (wpAny_specialOf hT FS ?_)
 change wpAny _ _ (specialOf (Value.ref I) (Str.ofString "__length_hint__")>>=_) _ _ _;refine qA1 (wpAny_specialOf hT xU ?_);have a4:splitId "list_reverseiterator.__length_hint__" = some ("list_reverseiterator","__length_hint__"):=Yo;dsimp only;rw[a4];dsimp only;refine qA1 (wpAny_isInstance (T:="list_reverseiterator") (b:=true) hT sub_self ?_);rw[qA4 (show ¬ ((!true)=true) by decide)];refine wpAny_ite_split (λ_=>?_) (λa3=>absurd Yo a3);rw[qA4 (show ¬ ((Value.builtin "list_reverseiterator.__length_hint__" == Value.builtin "range_iterator.__length_hint__")=true) by decide)];show qQ5 h
def CA (a5:Value)(hh:A.handled=none)(b3:l≠I)(a4:s.heap.IsRevIter I l ((items.size:Int)-1))(hl:s.heap.IsList l items)(a6:S≠I)(b4:S≠l)(hn:items.size<=sizeLine)(hS:s.heap.get? S=some { cls:=.type "list",data:=.seq #[] c₀ })(hR:∀h' tk a3 c',(∀b o,b≠S->b≠I->s.heap.get? b=some o->h'.get? b=some o)->h'.get? S=some { cls:=.type "list",dict:=none,data:=.seq a3 c',slots:=#[] }->ItemsOf (λi v=>items[items.size-1-i]?=some v) a3 items.size->R (.ok (.ret a5)) { s with heap:=h',toks:=tk }):
  wpAny (model prog w) A.in1 (Builtin.List.listExtendWith (.ref S) (.ref I) a5)
   (λfin s'=>match fin with | .done f=>R (.ok f) s' | .again c'=>c'.quiet=true/\codeAny (model prog w) A c' R s') (λe s'=>R (.error e) s') s:=by
 have W:=(Walks.listRev (prog:=prog) (w:=w) (A:=A.in1) hh I l b3 items).toS;have ab:S ∉ [I,l]:=by simp [a6,b4]
 unfold Builtin.List.listExtendWith;refine qA1 (qY2 a4.typeIs ?_);have h1:Builtin.List.listSameRef (.ref S) (.ref I)=false:=by simp [Builtin.List.listSameRef,a6]
 have h2:(Value.type "list_reverseiterator" == Value.type "list")=false/\(Value.type "list_reverseiterator" == Value.type "tuple")=false:=ZU;rw[h1,h2.1,h2.2];simp only [xC8,qE2,qR0];refine qA1 (qU8 a4 ?_);refine qA1 (qR7 (xS a4 ?_));refine wpAny_ite_split (λa8=>absurd a8 Yo) (λ_=>?_);refine qQ5 ⟨plainId_quiet F.plain_extend_loop _,?_⟩;refine codeAny_extend_loopS W hn S ab a5 items.size 0 s #[] c₀ rfl (qC7 _) ⟨qC7 _,by simpa using a4,hl⟩ hS (ItemsOf.nil _) λs' a3 c' hm b0 a7=>?_;rw[Moved.eq_with hm];show hR s'.heap s'.toks a3 c' (λb o hb a9 e=>hm.heap b o (by simp [hb,a9]) e) b0 a7
def call_list_rev (hh:A.handled=none)(b5:l≠I)(bb:s.heap.IsRevIter I l ((items.size:Int)-1))(hl:s.heap.IsList l items)(hn:items.size<=sizeLine)(hQ:∀h' tk a3 c',(∀b o,b≠I->s.heap.get? b=some o->h'.get? b=some o)->h'.get? s.heap.objs.size=some { cls:=.type "list",dict:=none,data:=.seq a3 c',slots:=#[] }->ItemsOf (λi v=>items[items.size-1-i]?=some v) a3 items.size->Q (.ref s.heap.objs.size) { s with heap:=h',toks:=tk }):
  wpAny (model prog w) A (call (.type "list") [.ref I]) Q E s:=by
 obtain ⟨oi,hi,b3⟩:=id bb;obtain ⟨ol,a8,a9⟩:=id hl;have b0:s.heap.objs.size≠I:=λe=>absurd (qB5 hi) (by rw[<- e];show qF5 _);have bq:s.heap.objs.size≠l:=λe=>absurd (qB5 a8) (by rw[<- e];show qF5 _);refine callType_codes (Q₁:=λobj a4=>obj=.ref s.heap.objs.size/\a4={ s with heap:=s.heap.push { cls:=.type "list",data:=.seq #[] } }) F.called_list (F.typeCall_list_1 _) F.entry_list_init (code_list_new _ ⟨rfl,rfl⟩) λobj a4 ab=>?_;obtain ⟨rfl,rfl⟩:=ab;have hS:(s.heap.push { cls:=.type "list",data:=.seq #[] }).get? s.heap.objs.size=some { cls:=.type "list",data:=.seq #[] }:=qC5 _ rfl;refine ⟨⟨_,hS,rfl⟩,F.args_list_init_2 _ _,?_⟩
 change wpAny _ _ (do let bc <- Builtin.List.listItems (.ref s.heap.objs.size);Builtin.List.listUpdate (.ref s.heap.objs.size) (λ_=>#[]);letGo bc.toList.reverse;Builtin.List.listExtendWith (.ref s.heap.objs.size) (.ref I) .none) _ _ _;refine qA1 ?_;unfold Builtin.List.listItems;refine qA1 (qR9 hS rfl (qQ5 ?_))
 change wpAny _ _ (updateSeq s.heap.objs.size (λ_=>#[])>>=λ_=>letGo (#[]:Zj).toList.reverse>>=λ_=>Builtin.List.listExtendWith (.ref s.heap.objs.size) (.ref I) .none) _ _ _;refine qA1 (wpAny_updateSeq hS rfl ?_);have a6:=qL3 (Obj.mapSeq (λ_=>(#[]:Zj))) hS rfl;have a5:∀b o,s.heap.get? b=some o->((s.heap.push { cls:=.type "list",data:=.seq #[] }).update s.heap.objs.size (Obj.mapSeq (λ_=>(#[]:Zj)))).get? b=some o:=λb o e=>by
  have hb:b≠s.heap.objs.size:=λz=>absurd (qB5 e) (by rw[z];show qF5 _);show (qU1 _ _ (Ne.symm hb)).trans (qA9 _ e)
 refine qA1 (wpAny_letGo ?_);refine CA (s:={ s with heap:=(s.heap.push { cls:=.type "list",data:=.seq #[] }).update s.heap.objs.size (Obj.mapSeq (λ_=>(#[]:Zj))) }) .none hh b5 ⟨oi,a5 _ _ hi,b3⟩ ⟨ol,a5 _ _ a8,a9⟩ b0 bq hn a6 λh' tk a3 c' hk b4 a7=>?_;refine ⟨rfl,hQ h' tk a3 c' (λb o hb e=>hk b o (λz=>absurd (qB5 e) (by rw[z];show qF5 _)) hb (a5 b o e)) b4 a7⟩
end TL
namespace TP
open PySem L2
def tJ {its:VY}(h:ItemsOf (λi v=>its.toArray[its.toArray.size-1-i]?=some v) acc its.toArray.size):acc.toList=its.reverse:=by
 obtain ⟨h1,h2⟩:=h;have I:its.toArray.size=its.length:=qB7;rw[I]at h1;apply qJ8
 .rw[qE9,qN0,h1]
 .intro i q1 q2;have hi:i<acc.size:=by simpa using q1
  have:=h2 i acc[i] (Array.getElem?_eq_getElem hi)
  rw[I]at this;rw[List.getElem_reverse,Array.getElem_toList];have e:its.toArray[its.length-1-i]?=some (its[its.length-1-i]'ox):=ZW;rw[e]at this;show (Lc this).symm
def tRv (K:Frag)(f:List V->HO)(I:TA):TE:=λσ H Q=>I σ H λvs H1=>∃a xs,vs = [.ref a]/\SqL K H1 a xs/\∀p,H1 p=none->Q (.ref p) (upd H1 p (f xs.reverse))
def AY {X:Cx}{a:Expr}{ta:TA}{p pos p2 pos2:Pos}(hc:X.calm=true)(b0:Gl X "list")(b3:X.mg "list" = none)(hg:Gl X "reversed")(hm:X.mg "reversed" = none)(ha:PA X [a] ta)(hs:starEach [a] X.env = [(false,eval a X.env)]:=by rfl)(a8:starEach [.Call (.Name "reversed" p2) [a] [] pos2] X.env = [(false,eval (.Call (.Name "reversed" p2) [a] [] pos2) X.env)]:=by rfl):PE X (.Call (.Name "list" p) [.Call (.Name "reversed" p2) [a] [] pos2] [] pos) (tRv X.K .lst ta):=by
 intro pins s σ H Q I h;refine qR4 (Q9 I b0 b3 L0 ?_ ZU ZU);refine qG5 ?_ a8 ZY;rw[a8]
 change wpAny _ _ (spliced [(false,eval (.Call (.Name "reversed" p2) [a] [] pos2) X.env)]) _ _ s;refine Calls.spliced_cons ?_;refine qR4 (Q9 I hg hm fD ?_ ZU ZU);refine qG5 (thn (ha pos2 pins s σ H _ I h) λus s1 a6=>?_) hs ZY;obtain ⟨vs,H1,I1,r1,q1⟩:=a6;obtain ⟨b,xs,e,hq,q⟩:=q1;subst e;obtain ⟨u,rfl,ru⟩:=O0 r1;cases ru;obtain ⟨its,rv,pl,hz⟩:=I1.list hq;have hl:=rv.length;have hsz:its.toArray.size<=sizeLine:=by rw[qB7,<- hl];show hz
 obtain ⟨ol,a7,a9⟩:=id pl.isList;have ab:b≠s1.heap.objs.size:=λz=>absurd (qB5 a7) (by rw[z];show qF5 _);refine call_reversed_list pl.isList (Calls.spliced_nil ?_);refine TL.call_list_rev (s:={ s1 with heap:=s1.heap.push (revObj b ((its.toArray.size:Int)-1)) }) (I1.ok.hd hc) ab ⟨_,qC5 _ rfl,rfl,rfl⟩ ⟨ol,qA9 _ a7,a9⟩ hsz λh' tk b4 c' hk hS a5=>?_;have e1:=tJ a5;have a3:∀b o,s1.heap.get? b=some o->h'.get? b=some o:=λb o e=>hk b o (λz=>absurd (qB5 e) (by rw[z];show qF5 _)) (qA9 _ e);have a4:s1.heap.objs.size<=(s1.heap.push (revObj b ((its.toArray.size:Int)-1))).objs.size:=by rw[show (s1.heap.push (revObj b ((its.toArray.size:Int)-1))).objs.size=s1.heap.objs.size+1 from by simp [Heap.push]];omega
 refine ⟨.ref (s1.heap.push (revObj b ((its.toArray.size:Int)-1))).objs.size,_,I1.laid (t':=tk) a3 a4 (show ObjOk X.prog X.w _ h' _ (.lst xs.reverse) from ⟨by rw[qN0];show hz,its.reverse,c',Vals.reverse rv,?_⟩),rfl,q _ (I1.hok.fresh a4)⟩;rw[<- e1];simpa using hS
def iw:List W->R W
 | [w]=>match w with
  | .lst ws=>chks false ws.reverse
  |_=>.stuck
 |_=>.stuck
def Ir (h:tM K EX .F (bA iw ma) σ H Q):tRv K .lst (tA K EX .B ma) σ H Q:=by
 obtain ⟨H0,G,ρ,I,o⟩:=h;replace o:Out EX G H (mdW K .F H0 H) (ma ρ>>=iw) Q:=o
 refine ⟨H0,G,ρ,I,Lg o λxs G1 H1 ws e1 m1 o1=>?_⟩;have I1:=I.ext e1;cases m1 with
 |nil=>show o1.elim
 | cons a t=>
  cases t with
  |cons _ _=>show o1.elim
  | nil=>
   rename_i w v
   cases w <;> first|show o1.elim|skip
   rename_i us
   obtain ⟨p,vs,rfl,hs,r⟩:=a.lstB I1;show ⟨p,vs,rfl,SqL.of hs,Out.chks I1 e1.hh (c:=false) (by rw[qA4 qA3];show r.reverse) o1⟩
def Fb {X:Cx}{K:Frag}{EX:EXT}{a:Expr}{pos:Pos}{mr:ZQ}{p I pos2:Pos}(hc:X.calm=true)(a3:Gl X "list")(a4:X.mg "list" = none)(hg:Gl X "reversed")(hm:X.mg "reversed" = none)(ha:PA X [a] (tA K EX .B mr))(hK:X.K=K:=by rfl)(hs:starEach [a] X.env = [(false,eval a X.env)]:=by rfl)(a5:starEach [.Call (.Name "reversed" I) [a] [] pos2] X.env = [(false,eval (.Call (.Name "reversed" I) [a] [] pos2) X.env)]:=by rfl):PE X (.Call (.Name "list" p) [.Call (.Name "reversed" I) [a] [] pos2] [] pos) (tM K EX .F (bA iw mr)):=by
 subst hK;show (AY hc a3 a4 hg hm ha hs a5).mono λ_ _ _ q=>Ir q
def pP (ns:Zk):iw [.lst (ns.map W.int)]=.ok (.lst (ns.reverse.map W.int)):=by
 have hn:∀l:List Int,m9 (l.map W.int)=true:=λl=>by induction l with|nil=>rfl|cons a l I=>simpa [m9,noL]using I
 change TP.chks false (ns.map W.int).reverse=_;rw[<- List.map_reverse];unfold TP.chks;rw[hn,qP5,qA2 rfl]
def jB (u:W)(ws:Zp):Option Nat:=(pds ws).findIdx? λy=>PyData.eqv y (pd u)
def mG (K:Frag):V->List V->Hp->VK->Prop:=λx vs H Q=>∃u ws y j,vs = [y]/\Rep K H y u/\Rep K H x (.lst ws)/\shp 8 u=true/\shp 8 (.lst ws)=true/\jB u ws=some j/\j<1000/\Q (.int (j:Int)) H
def xw (hu:X.A.units+64<cLine):MtR X "list.index" (mG X.K):=by
 intro pins s σ H x vs v us Q I rx rv h;obtain ⟨u,ws,y,j,rfl,ry,rc,su,sc,hj,b0,q⟩:=h;obtain ⟨uy,rfl,rr⟩:=rv.one;obtain ⟨as,qa⟩:=Rep.reads I 8 ry su rr;obtain ⟨bs,qb⟩:=Rep.reads I 8 rc sc rx;have la:=di u 8 su;have lc:=iS ws 7 sc;have hm:X.A.units+1+min (PyData.depthAll (pds ws)) (pd u).depth<cLine:=by have:=qL4 (PyData.depthAll (pds ws)) (pd u).depth;omega
 have qb:Reads s.heap v (.list (pds ws)) bs:=qb;cases qb with
 | list h1 h2 h3 h4=>
  rename_i a o items n as'
  obtain ⟨oc,od,a9,osl⟩:=o;have h2:oc=.type "list":=h2;have h3:a9=.seq items n:=h3;subst h2 h3;have a3:=SeqAt.readsAll_map (pds ws) _ _ lc.1 h4;have a8:=SeqAt.items_eqAt (A:=X.A) h4 qa lc.1 la.1 hm;unfold jB at hj;rw[<- a3,List.findIdx?_map,qJ3]at hj;obtain ⟨a7,ht,a6⟩:=hj;have a4:j<items.size:=by simpa using a7
  refine call_meets qZ2 ⟨_,h1,rfl⟩ PySem.F.entry_list_index (PySem.F.args_list_index_2 _ _) (SeqAt.list_indexAt a items n od osl uy (λz=>PyData.eqv (SeqAt.readOf s.heap z) (pd u)) j a4 ox (by simpa using ht) (λm ab a5=>by simpa using a6 m a5)) ⟨h1,a8,?_⟩;show ⟨.int (j:Int),H,I.tok _,⟨_,rfl⟩,q⟩
def gi (ws:Zp)(u:W):R W:=if (shp 8 u&&shp 8 (.lst ws))=true then (match jB u ws with
 |some j=>if j<1000 then .ok (.int (j:Int)) else .stuck
 |none=>.stuck) else .stuck
def Rix (x:R W)(y:R W):R W:=x>>=λx=>(match x with
 | .lst ws=>y>>=λy=>gi ws y
 |_=>.stuck)
def gc (I me:Zo):Zo:=λρ=>Rix (I ρ) (me ρ)
def pG (I me:Zo)(ρ:Rho):gc I me ρ=Rix (I ρ) (me ρ):=rfl
def vY (ws:Zp)(u:W):Rix (.ok (.lst ws)) (.ok u)=gi ws u:=rfl
def CN (h:tM K EX d (gc mo me) σ H Q):tBM K "list" (mG K) (tM K EX .B mo) (tA K EX .B (aC me aN)) σ H Q:=by
 obtain ⟨H0,G,ρ,I,o⟩:=h;unfold gc Rix at o;refine ⟨H0,G,ρ,I,Lg o λx G1 H1 w e1 m1 o1=>?_⟩;have I1:=I.ext e1;cases w <;> first|show o1.elim|skip
 rename_i ws
 obtain ⟨p,vs,rfl,hs,_⟩:=m1.lstB I1;refine ⟨.inl ⟨rfl,vs,SqL.of hs⟩,H0,G1,ρ,I1,?_⟩;have key:Out EX G1 H1 (mdW K .B H0 H1) (me ρ) λy H2=>mG K (.ref p) [y] H2 Q:=Lg (md:=mdW K .B H0 H1) o1 λy G2 H2 u e2 m2 o2=>by
  have I2:=I1.ext e2;unfold gi at o2;by_cases c:(shp 8 u&&shp 8 (.lst ws))=true
  .rw [qA2 c]at o2
   have c':shp 8 u=true/\shp 8 (.lst ws)=true:=by simpa using c
   cases hj:jB u ws with
   |none=>rw[hj]at o2;show o2.elim
   | some j=>
    rw[hj]at o2;by_cases hl:j<1000
    .dsimp only at o2;rw[qA2 hl]at o2;show ⟨u,ws,y,j,rfl,m2.whole I2,(m1.move e2).whole I2,c'.1,c'.2,hj,hl,o2 _ G2 H2 (Le I2.gh) (Md.sca rfl (λ_=>.int) d)⟩
    .dsimp only at o2;rw[qA4 hl]at o2;show o2.elim
  .rw[qA4 c]at o2;show o2.elim
 change Out EX G1 H1 (mdA K .B H0 H1) (me ρ>>=λw=>aN ρ>>=λws=>.ok (w::ws)) _
 revert key
 cases me ρ with
 |stuck=>show id
 |ex e=>show id
 | ok u=>
  intro key v G2 H2 e2 m2;cases m2 with
  |cons a t=>cases t;show key _ G2 H2 e2 a
def jc {X:Cx}{K:Frag}{EX:EXT}{d:Mode}{o e:Expr}{apos I:Pos}{mo me:Zo}(hu:X.A.units+64<cLine)(ho:PE X o (tM K EX .B mo))(he:PE X e (tM K EX .B me))(hK:X.K=K:=by rfl)(a5:attributeBase o "index" X.env (eval o X.env)=eval o X.env:=by rfl) (a6:((backTo I (starEach [e] X.env)).all (λx=>!x.1)&&(backToKw I (keywordEach [] X.env)).all (λx=>x.1.isSome)
   && decide (([e]:Zz).length+([]:List Keyword).length+(if ([]:List Keyword).isEmpty then 0 else 1)<30))=true:=by rfl) (a4:(apos.endLine == I.line)=true:=by rfl) (hs:starEach [e] X.env=(false,eval e X.env)::starEach [] X.env:=by rfl) (a3:(backTo I (starEach [] X.env)).any (·.1)=false:=by rfl):
  PE X (.Call (.Attribute o "index" apos) [e] [] I) (tM K EX d (gc mo me)):=by
 subst hK;show (zg qT8 qZ2 PySem.F.type_list_index (xw hu) ho (b6 he b8 hs) a5 a6 a4 hs a3).mono λ_ _ _ q=>CN q
def OutW (K:Frag)(EX:EXT)(d:Mode)(H0:Hp)(r:R Fl)(D:Ends):Prop:=match r with
 | .ok (.nx ρ)=>∀G' I H',PIv K H0 G' ρ I H'->D.nx I H'
 | .ok (.bk ρ)=>∀G' I H',PIv K H0 G' ρ I H'->D.bk I H'
 | .ok (.ct ρ)=>∀G' I H',PIv K H0 G' ρ I H'->D.ct I H'
 | .ok (.rt w)=>∀v G' H',Same G' H'->Same H0 H'->(∀a o,H0 a=some o->isL o=true->G' a=none)->Md K H0 H0 G' H' v w d->D.rt v H'
 | .ex e=>∀H',Same H0 H'->EX e H'
 | .stuck=>False
def tStW (K:Frag)(EX:EXT)(d:Mode)(m:Zg):TS:=λD σ H=>∃H0 G ρ,PIv K H0 G ρ σ H/\OutW K EX d H0 (m ρ) D
def clS:Sl->Sl
 | .un=>.un
 | .val w=>if noL w=true then .val w else .un
 | .par w=>if noL w=true then .val w else .un
 | .own ws=>if m9 ws=true then .own ws else .un
 | .dic ks=>.dic ks
 | .dik ks=>.dik ks
 | .iop p ws=>if m9 ws=true then .iop p ws else .un
 | .hz _=>.un
def subS (i j:Nat)(us I:Zp)(ρ:Rho):Rho:=(ρ.map clS).set i (.val (.tup (us.set j (.lst I))))
set_option maxHeartbeats 2000000
def Hx (p:Addr)(H0 H1:Hp):Prop:=(∀a,a≠p->H1 a=H0 a)/\∃vs,H1 p=some (.lst vs)
def KB (K:Frag)(EX:EXT)(p:Addr)(H0:Hp)(r:R Fl)(D:Ends):Prop:=match r with
 | .ok (.nx ρ)=>∀I G' a3 H',Hx p H0 I->PIv K I G' ρ a3 H'->D.nx a3 H'
 | .ok (.bk ρ)=>∀I G' a3 H',Hx p H0 I->PIv K I G' ρ a3 H'->D.rt .non H'
 | .ex e=>∀H',EX e H'
 |_=>False
def tStI (K:Frag)(EX:EXT)(p:Addr)(m:Zg):TS:=λD σ H=>∃H0 G ρ,PIv K H0 G ρ σ H/\(∃vs,H0 p=some (.lst vs))/\KB K EX p H0 (m ρ) D
def nbR:R Fl->R Fl
 | .ok (.nx ρ)=>.ok (.nx ρ)
 | .ex e=>.ex e
 |_=>.stuck
def nb (m:Zg):Zg:=λρ=>nbR (m ρ)
def clI:Sl->Sl
 | .un=>.un
 | .val w=>.val w
 | .par w=>if noL w=true then .val w else .un
 | .own ws=>.own ws
 | .dic ks=>.dic ks
 | .dik ks=>.dik ks
 | .iop _ _=>.un
 | .hz _=>.un
def ioR (p:Addr)(ρ:Rho):R Zp:=match (ρ[1]?:Option Sl) with
 |some (.iop q cs)=>if q=p then .ok cs else .stuck
 |_=>.stuck
def Jg (n N:Nat)(m:Addr->Rho->R Fl)(p:Addr)(w1:W)(cs I:Zp):R Zp:=if I.length+2=n/\m9 cs=true then (match m p (.par w1::.iop p cs::(I.map Sl.par++List.replicate (N-n) Sl.un)) with
 | .ok (.nx ρ)=>ioR p ρ
 | .ok (.bk ρ)=>ioR p ρ
 |_=>.stuck) else .stuck
open Classical in
def runIOA (n N:Nat)(m:Addr->Rho->R Fl)(w1:W)(cs wr:Zp):R Zp:=if h:∃I,∀p,Jg n N m p w1 cs wr=.ok I then .ok (Classical.choose h) else .stuck
def Rep.ofNoL (r:Rep K H v w)(h:noL w=true):Rep K (D8 H) v w:=Rep.clean (PIv.begin (vs:=[]) (ws:=[]) (k:=0) (k':=0) .nil rfl) (by rw[kD];show r) h
def FU (K:Frag)(H:Hp):Same (D8 H) H:=(PIv.begin (K:=K) (H:=H) (vs:=[]) (ws:=[]) (k:=0) (k':=0) .nil rfl).gh
section
open PySem.W PyProof.Rows
def items_int:∀{xs:Zk}{its:VY},Vals (xs.map V.int) its->ItemsAre (intKind prog w) xs its:=by
 intro xs
 induction xs with
 |nil=>intro its h;cases h;show .nil
 | cons x xs I=>
  intro its h;cases h with
  | cons r t=>
   obtain ⟨tk,rfl⟩:=r;show .cons (by simp [intKind,Value.isInt]) (I t)
end
section
open PySem.W PyProof.Rows
end
section
open PySem.W PyProof.Rows
end
section
open PySem.W PyProof.Rows
end
section
open PySem.W PyProof.Rows
end
def kR {kvs:List (Key×V)}{ks:Zk}(hk:kvs.map (·.1)=ks.map Sum.inl):(kvs.any λkv=>decide (kv.1=(Sum.inl k:Key)))=decide (k∈ks):=by
 rw[qH4,qD5,qR6];constructor
 .rintro ⟨p,I,q⟩;have e:=qQ9 q
  have:p.1∈ks.map (Sum.inl:Int->Key):=by rw[<- hk];show qB0.mpr ⟨p,I,rfl⟩
  obtain ⟨j,hj,ej⟩:=qB0.mp this;cases ej.trans e;show hj
 .intro h
  have:(Sum.inl k:Key)∈kvs.map (·.1):=by rw[hk];show qB0.mpr ⟨k,h,rfl⟩
  obtain ⟨p,I,e⟩:=qB0.mp this;show ⟨p,I,qQ7 e⟩
def addI (ks:Zk)(k:Int):List Int:=if k∈ks then ks else ks ++ [k]
def uR {kvs:List (Key×V)}(hk:kvs.map (·.1)=ks.map Sum.inl):(putK kvs (Sum.inl k:Key) v).map (·.1)=(addI ks k).map Sum.inl:=by
 unfold putK addI;rw[kR hk];by_cases h:k∈ks
 .rw [qA2 (qQ7 h),qA2 h,<- hk,qC8]
  refine qK8 λp _=>?_
  change (if p.1=(Sum.inl k:Key) then (p.1,v) else p).1=p.1
  split <;> rfl
 .rw[qA4 (by simpa using h),qA4 h,qD0,qD0,hk];rfl
def PIv.setK (I:PIv K H0 G ρ σ H)(ha:H a=some (.dK kvs))(hg:G a=none)(h0:H0 a=none)(hk:kvs.map (·.1)=ks.map Sum.inl):PIv K H0 G (ρ.set i (.dik ks)) (σ.set i (some (.ref a))) H where
 g0:=I.g0
 gl:=I.gl
 gh:=I.gh
 hh:=I.hh
 len:=by rw[qD3,qD3];show I.len
 sl j x o h1 h2:=by
  by_cases hj:i=j
  .subst hj;rw[qC3]at h1 h2;simp only [qQ8]at h1 h2
   split at h1 <;> split at h2 <;> simp only [qF8,reduceCtorEq]at h1 h2
   subst h1;subst h2;show ⟨a,kvs,rfl,ha,hg,h0,hk⟩
  .rw[qB4 hj]at h1 h2;show I.sl j x o h1 h2
 ne a b ws us c hab h1 h2 h3 h4:=by
  have na:i≠a:=by
   rintro rfl;rw[qC3]at h1;simp only [qQ8]at h1
   split at h1 <;> simp at h1
  have nb:i≠b:=by
   rintro rfl;rw[qC3]at h2;simp only [qQ8]at h2
   split at h2 <;> simp at h2
  rw[qB4 na]at h1 h3;rw[qB4 nb]at h2 h4;show I.ne a b ws us c hab h1 h2 h3 h4
def PIv.dik_at {i:Nat}(I:PIv K H0 G ρ σ H)(e:ρ[i]?=some (.dik ks)):∃a kvs,σ[i]?=some (some (.ref a))/\H a=some (.dK kvs)/\G a=none/\H0 a=none/\kvs.map (·.1)=ks.map Sum.inl:=by
 have hi:i<σ.length:=by rw[<- I.len];show (qA6.mp e).1
 have es:σ[i]?=some σ[i]:=ZW;obtain ⟨a,kvs,ev,r⟩:=I.sl i _ _ e es;show ⟨a,kvs,by rw[es,ev],r⟩
def isDik:Sl->Bool
 | .dik _=>true
 |_=>false
def noDik (ρ:Rho):Bool:=ρ.all λs=>!isDik s
def xu {ρ:Rho}(h:noDik (ρ.set i .un)=true)(hj:i≠j):ρ[j]?≠some (.dik ks):=λe=>by
 have I:(ρ.set i .un)[j]?=some (.dik ks):=by rw[qB4 hj];show e
 have:=qH8.mp h _ (qD8 I)
 simp [isDik]at this
def PIv.dik_upd (I:PIv K H0 G ρ σ H)(e:ρ[i]?=some (.dik ks))(es:σ[i]?=some (some (.ref a)))(one:noDik (ρ.set i .un)=true)(hk:kvs'.map (·.1)=ks'.map Sum.inl):
  PIv K H0 G (ρ.set i (.dik ks')) σ (upd H a (.dK kvs')):=by
 obtain ⟨a',kvs,ev,ha,hg,h0,_⟩:=I.sl i _ _ e es;cases ev;refine ⟨I.g0,I.gl,λb o q=>by rw[d8 (e9 q hg)];show I.gh b o q,λb o q=>by rw[d8 (e9 q h0)];show I.hh b o q,by rw[qD3];show I.len,λj x o h1 h2=>?_,λp q a8 us c a7 h1 h2 h3 h4=>?_⟩
 .by_cases hj:i=j
  .subst hj;rw[qC3]at h1;simp only [qQ8]at h1
   split at h1 <;> simp only [qF8,reduceCtorEq]at h1
   subst h1;rw[es]at h2;cases h2;show ⟨a,kvs',rfl,j6,hg,h0,hk⟩
  .rw [qB4 hj]at h1
   have:=I.sl j x o h1 h2
   cases x with
   | own us=>
    obtain ⟨b,a3,eb,hb,a4,a5,rb⟩:=this;have a6:b≠a:=by
     rintro rfl;rw[ha]at hb;cases hb
    show ⟨b,a3,eb,by rw[d8 a6];show hb,a4,a5,rb⟩
   | dic ks=>
    obtain ⟨b,a3,eb,hb,a4,a5,rb⟩:=this;have a6:b≠a:=by
     rintro rfl;rw[ha]at hb;cases hb
    show ⟨b,a3,eb,by rw[d8 a6];show hb,a4,a5,rb⟩
   |dik ls=>show absurd h1 (xu one hj)
   |un=>show this
   |val _=>show this
   |par _=>show this
   |iop _ _=>show this
   |hz _=>show this
 .have na:i≠p:=by
   rintro rfl;rw[qC3]at h1;simp only [qQ8]at h1
   split at h1 <;> simp at h1
  have nb:i≠q:=by
   rintro rfl;rw[qC3]at h2;simp only [qQ8]at h2
   split at h2 <;> simp at h2
  rw[qB4 na]at h1;rw[qB4 nb]at h2;show I.ne p q a8 us c a7 h1 h2 h3 h4
def rq (o:Option Sl)(w:W):R Bool:=match o with
 | some (.dik ks)=>(match w with
  | .int k=>.ok (decide (k∈ks))
  |_=>.stuck)
 |_=>.stuck
def rf (i:Nat)(I:Zo):ZZ:=λρ=>I ρ>>=λw=>rq ρ[i]? w
def Iw (h:tT K EX (rf i mk) σ H Q):tB (wv (tM K EX .B mk) (V3 i)) σ H Q:=by
 obtain ⟨H0,G,ρ,I,o⟩:=h;refine ⟨H0,G,ρ,I,Lg (md:=mdW K .B H0 H) o λy G1 H1 w e1 m1 o1=>?_⟩;have I1:=I.ext e1;unfold rq at o1
 split at o1
 .rename_i ks e
  split at o1
  .rename_i k
   obtain ⟨a,kvs,es,ha,hg,h0,hk⟩:=I1.dik_at e;obtain rfl:=Md.intB m1;refine ⟨.ref a,es,a,_,rfl,DGet.k (k:=.inl k) ha,_,rfl,?_⟩;rw[<- bX,kR hk];show o1 _ G1 H1 (Le I1.gh) rfl
  .show o1.elim
 .show o1.elim
def zd (ks:Zk)(i:Nat)(w:W)(ρ:Rho):R Fl:=match w with
 | .int k=>if noDik (ρ.set i .un)=true/\ks.length<1000 then .ok (.nx (ρ.set i (.dik (addI ks k)))) else .stuck
 |_=>.stuck
def lJ (o:Option Sl)(I rk:R W)(i:Nat)(ρ:Rho):R Fl:=match o with
 |some (.dik ks)=>I>>=λ_=>rk>>=λw=>zd ks i w ρ
 |_=>.stuck
def dN (i:Nat)(I me:Zo):Zg:=λρ=>lJ ρ[i]? (me ρ) (I ρ) i ρ
def CO (h:tSt K EX d (dN i mk me) D σ H):qF (V3 i) (tM K EX .B mk) (tM K EX .B me) D σ H:=by
 obtain ⟨H0,G,ρ,I,o⟩:=h;unfold dN lJ at o
 split at o
 .rename_i ks e
  refine ⟨H0,G,ρ,I,OutS.bind I o λv G1 H1 w1 e1 m1 o1=>?_⟩;have I1:=I.ext e1;obtain ⟨a,kvs,es,ha,hg,h0,hk⟩:=I1.dik_at e;refine ⟨.ref a,es,H0,G1,ρ,I1,OutS.bind I1 o1 λy G2 H2 w e2 m2 o2=>?_⟩;have I2:=I1.ext e2;unfold zd at o2
  split at o2
  .rename_i k
   split at o2
   .rename_i hc
    obtain rfl:=Md.intB m2;have hl:kvs.length=ks.length:=by have:=congrArg List.length hk;simpa using this
    refine ⟨a,_,rfl,DPut.k (k:=.inl k) (e2.hh a _ ha) (qB3 (show kvs.length<1000 by omega) ZU),?_⟩;show o2 G2 σ _ (Lf _) (I2.dik_upd e es hc.1 (uR hk))
   .show o2.elim
  .show o2.elim
 .show o.elim
def ii (i:Nat):Zg:=λρ=>.ok (.nx (ρ.set i (.dik [])))
def CP (h:tSt K EX d (ii i) D σ H):Y2 tDNewK (L6 i) D σ H:=by
 obtain ⟨H0,G,ρ,I,o⟩:=h;intro p hp;have a4:G p=none:=by
  cases q:G p with
  |none=>rfl
  |some u=>rw[I.gh p u q]at hp;cases hp
 have a3:H0 p=none:=by
  cases q:H0 p with
  |none=>rfl
  |some u=>rw[I.hh p u q]at hp;cases hp
 have su:Same H (upd H p (.dK [])):=λb u q=>by rw[d8 (e9 q hp)];show q
 have x0:Ext G H G (upd H p (.dK [])):=⟨Lf G,su,I.gh.trans su,λ_ _ _ _ e=>e⟩;show o G _ _ (Lf _) (PIv.setK (I.ext x0) j6 a4 a3 rfl)
def AN {X:Cx}{K:Frag}{EX:EXT}{d:Mode}{pos:Pos}{i:Nat}{x:Str}{pos' pos2:Pos}(hN:X.N.Nodup)(hi:X.N[i]?=some x)(hx:Loc X.env.scope x)(hs:swapsWith (.Dict [] [] pos) (some (.Name x pos')) pos2.line X.env=pure false:=by rfl)(I:X.fn x=true\/X.env.scope.names.lookup x=some .local:=by first|show Or.inl rfl|show Or.inr rfl):
  PS X (.Assign [.Name x pos'] (.Dict [] [] pos) pos2) (tSt K EX d (ii i)):=(bp hN hi hx xh hs I).mono λ_ _ _ q=>CP q
def Fh {X:Cx}{K:Frag}{EX:EXT}{k:Expr}{pos:Pos}{mk:Zo}{i:Nat}{x:Str}{p:Pos}(hu:X.A.units+64<cLine)(hN:X.N[i]?=some x)(hv:Vis X.env.scope x)(hk:PE X k (tM K EX .B mk))(hd:(x == ("__debug__":Str))=false:=by decide)(I:(x == ("__classdict__":Str))=false:=by decide)(hm:behindInMarks .In (.Name x p)=false:=by rfl):PT X (.Compare k [.In] [.Name x p] pos) (tT K EX (rf i mk)):=(tQ (uf ox hk (Q4 hN hv hd I)) hm).mono λ_ _ _ q=>Iw q
def AM {X:Cx}{K:Frag}{EX:EXT}{d:Mode}{e k:Expr}{pos:Pos}{mk me:Zo}{i:Nat}{x:Str}{p p2:Pos}(hu:X.A.units+64<cLine)(hN:X.N[i]?=some x)(hv:Vis X.env.scope x)(hk:PE X k (tM K EX .B mk))(he:PE X e (tM K EX .B me))(hd:(x == ("__debug__":Str))=false:=by decide)(I:(x == ("__classdict__":Str))=false:=by decide)(hs:swapsWith e (some (.Subscript (.Name x p) k p2)) pos.line X.env=pure false:=by rfl):PS X (.Assign [.Subscript (.Name x p) k p2] e pos) (tSt K EX d (dN i mk me)):=(pc ox (Q4 hN hv hd I) hk he hs).mono λ_ _ _ q=>CO q
def pF (i:Nat)(I:Zo)(ρ:Rho):rf i I ρ=(I ρ>>=λw=>rq ρ[i]? w):=rfl
def pL (ks:Zk)(k:Int):rq (some (.dik ks)) (.int k)=.ok (decide (k∈ks)):=rfl
def kA (i:Nat)(I me:Zo)(ρ:Rho):dN i I me ρ=lJ ρ[i]? (me ρ) (I ρ) i ρ:=rfl
def yt (ks:Zk)(w:W)(k:Int)(i:Nat)(ρ:Rho)(h:noDik (ρ.set i .un)=true)(I:ks.length<1000):lJ (some (.dik ks)) (.ok w) (.ok (.int k)) i ρ=.ok (.nx (ρ.set i (.dik (addI ks k)))):=qA2 ⟨h,I⟩
def kB (i:Nat)(ρ:Rho):ii i ρ=.ok (.nx (ρ.set i (.dik []))):=rfl
end TP
namespace TP
open PySem PyProof.Rows
def kk (rk:Keyed->Int)(xs:Array Keyed)(i:Nat):Int:=match xs[i]? with
 |some p=>rk p
 |none=>0
def qY (h:l<=r):l<=(l+r)/2:=(Nat.le_div_iff_mul_le ZU).mpr (by rw[Nat.mul_two];show qF2 h _)
def lA (h:¬ l≥r):(l+r)/2<r:=(Nat.div_lt_iff_lt_mul ZU).mpr (by rw[Nat.mul_two];show Nat.add_lt_add_right (qQ3 h) _)
def eR {lo:Nat}(h:¬ lo≥hi):lo+(hi-lo)/2<hi:=qL6 (Nat.div_lt_self (qX7 (qQ3 h)) ZU)
def DV (h1:l<=m)(I:r-l<=n-x):r-(m+1)<=n-(x+1):=qA8 (qV6 (qH7 h1) r) (Nat.pred_le_pred I)
def DW (h1:l<=m)(h2:m<r)(I:r-l<=n-x):m-l<=n-(x+1):=qM0 (qB3 (Nat.sub_lt_sub_right h1 h2) I)
def sb1 (h0:0<n)(h:n<=A):A-(n-1)=A-n+1:=by
 cases n with
 |zero=>show absurd h0 (qF5 _)
 |succ m=>show (Nat.succ_pred_eq_of_pos (qX7 h)).symm
def sb2 {A:Nat}(h:n<=A)(hk:k<=n):A-k=A-n+(n-k):=(Nat.sub_add_sub_cancel h hk).symm
def sb3 {lo:Nat}(I:q<=x)(h:lo+x-q<=k):x-q<=k-lo:=by rw[qI9 I]at h;show Nat.le_sub_of_add_le' h
def sb4 {lo:Nat}(I:q<=x)(h:lo+x-q<=k):lo+(k-lo)=k:=qE6 (qA8 (by rw[qI9 I];show qE4 _ _) h)
def sb5 {lo:Nat}(h:0<j):lo+(j-1)=lo+j-1:=(qI9 h lo).symm
def mr1 {lo:Nat}(h:i<m):lo+(lo+m)-1-(lo+i)=lo+(m-1-i):=ox
def ms0 (h:n+1+m+x+min y 1<=T):n+m+x+1<=T:=qA8 (qA8 (qL1 (show n+1+m+x=n+m+x+1 by rw[qP6 n 1 m,qP6 (n+m) 1 x]).symm) (qE4 _ _)) h
def xx (h:n+m+x+min y 1<=T)(h0:0<n):n-1+m+x+1<=T:=by
 cases n with
 |zero=>show absurd h0 (qF5 _)
 |succ n=>show ms0 h
def ms1 (h:n+m+x+min y 1<=T)(h0:0<n):n-1+m+x+min (y+1) 1<=T:=qA8 (qF2 (qI6 (y+1) 1) _) (xx h h0)
def FX (h:n+m+x+min y 1<=T)(h0:0<m):n+(m-1)+x+1<=T:=by rw[qO6 n (m-1)];show xx (by rw[qO6 m n];show h) h0
def ms2 (h:n+m+x+min y 1<=T)(h0:0<m):n+(m-1)+x+min (y+1) 1<=T:=qA8 (qF2 (qI6 (y+1) 1) _) (FX h h0)
def ms3 (h:x+min y 1+1<=s):x+min (y+1) 1+1<=s+1:=qH7 (qA8 (qF2 (qI6 (y+1) 1) x) (qA8 (qH7 (qE4 x _)) h))
def FZ (h:i<=k/\k<j):i<=i+j-1-k/\i+j-1-k<j:=by
 have hk:k<=j-1:=qM0 h.2;have e:i+j-1-k=i+(j-1-k):=by rw[qI9 (qD7 (qC7 k) h.2),qI9 hk]
 rw[e];show ⟨qE4 _ _,qD7 (qA8 (qU9 h.1 _) (qL1 (qE6 hk))) (qJ5 (qD7 (qC7 k) h.2) ZU)⟩
def sb6 {lo:Nat}(I:0<x)(h:lo+x<=A):lo+x-1<A:=qB3 (qJ5 (qB3 I (Nat.le_add_left _ _)) ZU) h
def ID {f g:Zx}(hl:l<=k)(hg:∀i,g i=if i=l then f k else if l<i/\i<=k then f (i-1) else f i)(u:∀i j,i<=j->j<k->f i<=f j)(a3:∀i,i<l->f i<=f k)(a4:∀i,l<=i->i<k->f k<f i)(i j:Nat)(I:i<=j)(hj:j<k+1):g i<=g j:=by
 have lt:∀i,i<l->g i=f i:=λi h=>by rw[hg,qA4 (qD9 h),qA4 λz=>Nat.lt_asymm z.1 h]
 have eq:g l=f k:=by rw[hg,qA2 rfl]
 have gt:∀i,l<i->i<=k->g i=f (i-1):=λi h h2=>by rw[hg,qA4 (qP4 h),qA2 ⟨h,h2⟩]
 have hj:=qM1 hj;rcases qF4 j l with c|rfl|c
 .rw[lt j c,lt i (qD7 I c)];show u i j I (qB3 c hl)
 .rcases Nat.lt_or_eq_of_le I with d|rfl
  .rw[lt i d,eq];show a3 i d
  .show qH9 _
 .rw [gt j c hj]
  cases j with
  |zero=>show absurd c (qC9 _)
  | succ j=>
   have cj:=qM1 c;rcases qF4 i l with d|rfl|d
   .rw[lt i d];show u i j (qA8 (qJ2 d) cj) hj
   .rw[eq];show Int.le_of_lt (a4 j cj hj)
   .rw[gt i d (qA8 I hj)];show u (i-1) j (Nat.pred_le_pred I) hj
def io (h:xs[i]?=ys[j]?):kk rk xs i=kk rk ys j:=by unfold kk;rw[h]
def aG (h:xs[i]?=some p):kk rk xs i=rk p:=by unfold kk;rw[h]
def Cmp (prog:Program)(w:World)(A:Around)(s:Shared)(κ:SortKind)(rk:Keyed->Int)(a₀:Array Keyed):Prop:=∀x∈a₀,∀y∈a₀,∀Q:Bool->Shared->Prop,Q (decide (rk x<rk y)) s->wpAny (model prog w) A (keyLt' κ x.1 y.1) Q (λ_ _=>False) s
def La:=@wpS_bind
def Lb:=@wpS_pure
def gD {st:SortSt}(hc:Cmp prog w A s κ rk a₀)(hx:x∈a₀)(hy:y∈a₀)(hk:kindOf st=κ)(h:Q (some (decide (rk x<rk y))) st):wpS (model prog w) A E s (lt' x y) Q st:=by
 rw[lt'_eq];refine La (wpS_get ?_);rw[hk];refine La (wpS_lift (wpAny_attempt (qS7 (hc x hx y hy (λc s'=>c=decide (rk x<rk y)/\s'=s) ⟨rfl,rfl⟩) (λc s' I=>?_) λ_ _ hF=>hF.elim)));obtain ⟨rfl,rfl⟩:=I;show ⟨rfl,Lb h⟩
def q5 {st:SortSt}(h:arr[i]?=some x)(q:Q x st):wpS (model prog w) A E s (elem' arr i) Q st:=by
 rw[elem'_eq,h];show Lb q
def Ce:Bool->Keyed->Array Keyed->Nat->Nat->Nat->StateT SortSt Sem (Option Nat):=sortPriv% PySem.Builtin.gallop
def bey (left:Bool)(key z:Int):Bool:=if left then decide (z<key) else !decide (key<z)
def cJ (h:z<=y)(hb:bey left key y=true):bey left key z=true:=by
 unfold bey at hb ⊢;cases left
 .simp at hb ⊢;omega
 .simp at hb ⊢;omega
def eh (h:z<=y)(hb:bey left key z=false):bey left key y=false:=by
 cases q:bey left key y with
 |false=>rfl
 |true=>rw[cJ h q]at hb;cases hb
def db {st:SortSt}(hc:Cmp prog w A s κ rk a₀)(hk:kindOf st=κ)(I:key∈a₀)(a3:∃x∈a₀,arr[j]?=some x)(h:Q (some (bey left (rk key) (kk rk arr j))) st):wpS (model prog w) A E s (elem' arr j>>=λx=>if left=true then lt' x key else lt' key x>>=λr=>pure (r.map (!·))) Q st:=by
 obtain ⟨x,hx,e⟩:=a3;rw[aG e]at h;refine La (q5 e ?_);cases left
 .show La (gD hc I hx hk (Lb h))
 .show gD hc hx I hk h
def O8 {st:SortSt}(hc:Cmp prog w A s κ rk a₀)(hk:kindOf st=κ)(a5:key∈a₀)(a6:∀i,i<n->∃x∈a₀,arr[base+i]?=some x)(hs:∀i j,i<=j->j<n->kk rk arr (base+i)<=kk rk arr (base+j))(hh:hint<n)(h:∀k,k<=n->(∀i,i<k->bey left (rk key) (kk rk arr (base+i))=true)->(∀i,k<=i->i<n->bey left (rk key) (kk rk arr (base+i))=false)->Q (some k) st):wpS (model prog w) A E s (Ce left key arr base n hint) Q st:=by
 have last:∀lo hi,hi<=n->lo<=hi->(∀i,i<lo->bey left (rk key) (kk rk arr (base+i))=true)->(∀i,hi<=i->i<n->bey left (rk key) (kk rk arr (base+i))=false) ->
   ∀{R:Option (Option Nat)×Nat×Nat->SortSt->Prop}{body:Nat->Option (Option Nat)×Nat×Nat->StateT SortSt Sem (ForInStep (Option (Option Nat)×Nat×Nat))},
   (∀x lo hi R',lo≥hi->R' (.done (none,lo,hi)) st->wpS (model prog w) A E s (body x (none,lo,hi)) R' st) ->
   (∀x lo hi R',lo<hi->hi<=n->R' (if bey left (rk key) (kk rk arr (base+(lo+(hi-lo)/2)))=true then .yield (none,lo+(hi-lo)/2+1,hi) else .yield (none,lo,lo+(hi-lo)/2)) st->wpS (model prog w) A E s (body x (none,lo,hi)) R' st) ->
   (∀lo hi,Q (some hi) st->R (none,lo,hi) st)->wpS (model prog w) A E s (forIn [0:n] (none,lo,hi) body) R st:=by
  intro lo hi hn hl h1 h2 R body a9 a8 hR;refine wpS_forRange (λx c a4=>a4=st/\∃lo hi,c=(none,lo,hi)/\hi<=n/\lo<=hi/\hi-lo<=n-x/\(∀i,i<lo->bey left (rk key) (kk rk arr (base+i))=true)/\(∀i,hi<=i->i<n->bey left (rk key) (kk rk arr (base+i))=false)) ?_ ?_ ⟨rfl,lo,hi,rfl,hn,hl,ox,h1,h2⟩
  .rintro x c a4 _ hx ⟨rfl,lo,hi,rfl,hn,hl,hd,h1,h2⟩;by_cases a3:lo≥hi
   .refine a9 x lo hi _ a3 ?_
    have:lo=hi:=ox
    subst this;show hR _ _ (h lo hn h1 h2)
   .refine a8 x lo hi _ (qQ3 a3) hn ?_;cases q:bey left (rk key) (kk rk arr (base+(lo+(hi-lo)/2))) with
    | true=>
     rw[qA2 rfl];show ⟨rfl,_,_,rfl,hn,eR a3,DV (qE4 _ _) hd,λi ab=>cJ (hs i _ (qM1 ab) (qB3 (eR a3) hn)) q,h2⟩
    | false=>
     rw[qA4 qA3];show ⟨rfl,_,_,rfl,qJ2 (qB3 (eR a3) hn),qE4 _ _,DW (qE4 _ _) (eR a3) hd,h1,λi a b=>eh (hs _ i a b) q⟩
  .rintro c a4 ⟨rfl,lo,hi,rfl,hn,hl,hd,h1,h2⟩
   have:lo=hi:=ox
   subst this;show hR _ _ (h lo hn h1 h2)
 refine La (db hc hk a5 (a6 hint hh) ?_);dsimp only;cases q0:bey left (rk key) (kk rk arr (base+hint)) with
 | true=>
  rw[qA2 rfl];refine La (wpS_mono (wpS_forRange (λx c a4=>a4=st/\∃lo I,c=(none,lo,I)/\lo<I/\x<I/\hint+lo<n/\bey left (rk key) (kk rk arr (base+(hint+lo)))=true)
   (Q:=λc a4=>a4=st/\∃lo I,c=(none,lo,I)/\lo<I/\hint+lo<n/\bey left (rk key) (kk rk arr (base+(hint+lo)))=true/\(hint+I<n->bey left (rk key) (kk rk arr (base+(hint+I)))=false)) ?_ ?_ ⟨rfl,0,1,rfl,ox,ox,ox,q0⟩) ?_)
  .rintro x c a4 _ hx ⟨rfl,lo,I,rfl,h1,h2,h3,h4⟩;dsimp only;by_cases a3:I≥n-hint
   .rw [qA2 a3]
    show Lb ⟨rfl,lo,I,rfl,h1,h3,h4,λ_=>ox⟩
   .rw [qA4 a3]
    refine La (db hc hk a5 (a6 _ ox) ?_);dsimp only;cases q:bey left (rk key) (kk rk arr (base+(hint+I))) with
    |true=>show Lb ⟨rfl,_,_,rfl,ox,ox,ox,q⟩
    |false=>show Lb ⟨rfl,lo,I,rfl,h1,h3,h4,λ_=>q⟩
  .rintro c a4 ⟨rfl,lo,I,rfl,h1,h2,h3,h4⟩;show ⟨rfl,lo,I,rfl,h1,h3,h4,λ_=>ox⟩
  .rintro c a4 ⟨rfl,lo,I,rfl,h1,h3,h4,h5⟩;dsimp only;refine La (last _ _ (qA8 (qF2 (qI6 _ _) hint) (qL1 (qE6 (qJ2 hh)))) (qF2 (Nat.le_min.mpr ⟨h1,Nat.lt_sub_iff_add_lt'.mpr h3⟩) hint) (λi hi=>cJ (hs i (hint+lo) (qM1 hi) h3) h4) (λi a b=>?_) ?_ ?_ λlo hi hq=>?_)
   .have:hint+I<n:=ox
    show eh (hs (hint+I) i ox b) (h5 this)
   .intro x lo hi R' a3 hR;dsimp only;rw[qA2 a3];show Lb hR
   .intro x lo hi R' a3 a7 hR;dsimp only;rw[qA4 (qQ4 a3)];refine La (db hc hk a5 (a6 _ (qB3 (eR (qQ4 a3)) a7)) ?_);dsimp only;cases q:bey left (rk key) (kk rk arr (base+(lo+(hi-lo)/2))) with
    |true=>rw[q,qA2 rfl]at hR;show Lb hR
    |false=>rw[q,qA4 qA3]at hR;show Lb hR
   .show Lb hq
 | false=>
  rw[qA4 qA3];refine La (wpS_mono (wpS_forRange (λx c a4=>a4=st/\∃lo I,c=(none,lo,I)/\lo<I/\x<I/\lo<=hint/\bey left (rk key) (kk rk arr (base+(hint-lo)))=false)
   (Q:=λc a4=>a4=st/\∃lo I,c=(none,lo,I)/\lo<I/\lo<=hint/\bey left (rk key) (kk rk arr (base+(hint-lo)))=false/\(I<=hint->bey left (rk key) (kk rk arr (base+(hint-I)))=true)) ?_ ?_ ⟨rfl,0,1,rfl,ox,ox,ox,q0⟩) ?_)
  .rintro x c a4 _ hx ⟨rfl,lo,I,rfl,h1,h2,h3,h4⟩;dsimp only;by_cases a3:I≥hint+1
   .rw [qA2 a3]
    show Lb ⟨rfl,lo,I,rfl,h1,h3,h4,λ_=>ox⟩
   .rw [qA4 a3]
    refine La (db hc hk a5 (a6 _ ox) ?_);dsimp only;cases q:bey left (rk key) (kk rk arr (base+(hint-I))) with
    |false=>show Lb ⟨rfl,_,_,rfl,ox,ox,ox,q⟩
    |true=>show Lb ⟨rfl,lo,I,rfl,h1,h3,h4,λ_=>q⟩
  .rintro c a4 ⟨rfl,lo,I,rfl,h1,h2,h3,h4⟩;show ⟨rfl,lo,I,rfl,h1,h3,h4,λ_=>ox⟩
  .rintro c a4 ⟨rfl,lo,I,rfl,h1,h3,h4,h5⟩;dsimp only;refine La (last _ _ (qJ2 (qD7 (qI3 _ _) hh)) (qA8 (qV6 (Nat.le_min.mpr ⟨h1,qH7 h3⟩) (hint+1)) (qL1 (Nat.add_sub_add_right hint 1 lo))) (λi hi=>?_) (λi a b=>eh (hs (hint-lo) i a b) h4) ?_ ?_ λlo hi hq=>?_)
   .have:I<=hint:=Nat.le_of_not_lt λq=>by rw[Nat.min_eq_right q,Nat.sub_self]at hi;show absurd hi (qC9 _)
    rw[qP2 (Nat.le_succ_of_le this),Nat.succ_sub this]at hi;show cJ (hs i (hint-I) (qM1 hi) (qD7 (qI3 _ _) hh)) (h5 this)
   .intro x lo hi R' a3 hR;dsimp only;rw[qA2 a3];show Lb hR
   .intro x lo hi R' a3 a7 hR;dsimp only;rw[qA4 (qQ4 a3)];refine La (db hc hk a5 (a6 _ (qB3 (eR (qQ4 a3)) a7)) ?_);dsimp only;cases q:bey left (rk key) (kk rk arr (base+(lo+(hi-lo)/2))) with
    |true=>rw[q,qA2 rfl]at hR;show Lb hR
    |false=>rw[q,qA4 qA3]at hR;show Lb hR
   .show Lb hq
def upL (rk:Keyed->Int)(l:List Keyed):Prop:=l.Pairwise λx y=>rk x<=rk y
structure Mg (rk:Keyed->Int) (t:List Keyed) (out ra rb:List Keyed):Prop where
 perm:(out++(ra++rb)).Perm t
 up:upL rk out
 le:∀x∈out,∀y∈ra++rb,rk x<=rk y
def Gd (rk:Keyed->Int)(t I:List Keyed):Prop:=I.Perm t/\upL rk I
def Mg.a (h:Mg rk t out (p++ra) rb)(hu:upL rk (p++ra))(hl:∀x∈p,∀y∈rb,rk x<=rk y):Mg rk t (out++p) ra rb where
 perm:=by
  have:=h.perm
  rw[qF7]at this ⊢;show this
 up:=by
  rw[upL,qF0];show ⟨h.up,(qF0.mp hu).1,λx hx y I=>h.le x hx y (by simp [I])⟩
 le x hx y I:=by
  rcases qC0.mp hx with q|q
  .refine h.le x q y ?_;rcases qC0.mp I with r|r <;> simp [r]
  .rcases qC0.mp I with r|r
   .show (qF0.mp hu).2.2 x q y r
   .show hl x q y r
def Mg.swap (h:Mg rk t out ra rb):Mg rk t out rb ra where
 perm:=(qU5 out List.perm_append_comm).trans h.perm
 up:=h.up
 le x hx y hy:=h.le x hx y (by rcases qC0.mp hy with r|r <;> simp [r])
def Mg.fin (h:Mg rk t out ra rb)(ha:upL rk ra)(hb:upL rk rb)(I:∀x∈ra,∀y∈rb,rk x<=rk y):Gd rk t (out++ra++rb):=by
 rw[qF7];refine ⟨h.perm,?_⟩;rw[upL,qF0];show ⟨h.up,qF0.mpr ⟨ha,hb,I⟩,h.le⟩
def Mg.finB (h:Mg rk t out ra rb)(ha:upL rk ra)(hb:upL rk rb)(I:∀x∈rb,∀y∈ra,rk x<=rk y):Gd rk t (out++rb++ra):=h.swap.fin hb ha I
section
variable {prog:Program}{w:World}{A:Around}{E:Zv}{s:Shared}{a₀:Array Keyed}{κ:SortKind}{rk:Keyed->Int}
def se [Decidable c]{X T:StateT SortSt Sem α}{Q:α->SortSt->Prop}{st:SortSt}(P:SortSt->Prop)(key:∀I,P I->wpS M A E s T Q I)(h1:c->(∀I,P I->wpS M A E s T Q I)->wpS M A E s X Q st)(h2:¬c->P st):wpS M A E s (if c then X else T) Q st:=by
 by_cases q:c
 .rw[qA2 q];show h1 q key
 .rw[qA4 q];show key _ (h2 q)
def si [Decidable c][Decidable c1]{R1 T T':StateT SortSt Sem α}{Q:α->SortSt->Prop}{st:SortSt}(hT:¬c->T'=T)(h1:c->c1->wpS M A E s R1 Q st)(h3:(c->¬c1)->wpS M A E s T Q st):wpS M A E s (if c then (if c1 then R1 else T) else T') Q st:=by
 by_cases q:c
 .rw [qA2 q]
  by_cases I:c1
  .rw[qA2 I];show h1 q I
  .rw[qA4 I];show h3 λ_=>I
 .rw[qA4 q,hT q];show h3 λr=>absurd r q
def sh [Decidable c][Decidable c1][Decidable c2]{R1 R2 T T':StateT SortSt Sem α}{Q:α->SortSt->Prop}{st:SortSt}(hT:¬c->T'=T)(h1:c->c1->wpS M A E s R1 Q st)(h2:c->¬c1->c2->wpS M A E s R2 Q st)(h3:(c->¬c1/\¬c2)->wpS M A E s T Q st):wpS M A E s (if c then (if c1 then R1 else if c2 then R2 else T) else T') Q st:=by
 by_cases q:c
 .rw [qA2 q]
  by_cases I:c1
  .rw[qA2 I];show h1 q I
  .rw [qA4 I]
   by_cases q2:c2
   .rw[qA2 q2];show h2 q I q2
   .rw[qA4 q2];show h3 λ_=>⟨I,q2⟩
 .rw[qA4 q,hT q];show h3 λr=>absurd r q
def HB (out a:Array Keyed)(i:Nat):out++(a.extract i i).reverse=out:=by
 have:a.extract i i=#[]:=by simp;omega
 rw[this];simp
def HA (out a:Array Keyed)(i:Nat):out++a.extract i i=out:=by
 have:a.extract i i=#[]:=by simp;omega
 rw[this];simp
def xB:Array Keyed->Array Keyed->StateT SortSt Sem (Array Keyed):=sortPriv% PySem.Builtin.mergeLo
def xC:Array Keyed->Array Keyed->StateT SortSt Sem (Array Keyed):=sortPriv% PySem.Builtin.mergeHi
def pW {l:List Keyed}(h:l[i]?=some x):l.drop i = [x]++l.drop (i+1):=by
 obtain ⟨hi,e⟩:=qA6.mp h;rw[qK1 hi,e];rfl
def bM (l:List Keyed)(i k:Nat):l.drop i=(l.drop i).take k++l.drop (i+k):=by rw[<- xB4,qJ9]
def G7 (h:upL rk l)(i:Nat):upL rk (l.drop i):=List.Pairwise.sublist (List.drop_sublist i l) h
def lP (hu:upL rk l)(h:l[i]?=some x):∀y∈l.drop i,rk x<=rk y:=λy I=>by
 have:=G7 hu i
 rw[pW h]at this I;rcases qC0.mp I with q|q
 .rw[qC6.mp q];show qH9 _
 .show (qF0.mp this).2.2 x (qC6.mpr rfl) y q
def Y0 {l:List Keyed}(h:x∈(l.drop i).take k):∃j,j<k/\l[i+j]?=some x:=by
 obtain ⟨j,I⟩:=qS6.mp h;by_cases c:j<k
 .rw [qI5 c,qG9]at I
  show ⟨j,c,I⟩
 .rw[qT0 ox]at I;cases I
def Mg.pa (m:Mg rk t out (l.drop i) rb)(hu:upL rk l)(h:l[i]?=some x)(I:∀y∈rb,rk x<=rk y):Mg rk t (out ++ [x]) (l.drop (i+1)) rb:=by
 have u:=G7 hu i;rw[pW h]at m u;show m.a u λz hz y hy=>by rw[qC6.mp hz];show I y hy
def Mg.pb (m:Mg rk t out ra (l.drop i))(hu:upL rk l)(h:l[i]?=some x)(I:∀y∈ra,rk x<=rk y):Mg rk t (out ++ [x]) ra (l.drop (i+1)):=(m.swap.pa hu h I).swap
def Mg.ka (m:Mg rk t out (l.drop i) rb)(hu:upL rk l)(I:∀x∈(l.drop i).take k,∀y∈rb,rk x<=rk y):Mg rk t (out++(l.drop i).take k) (l.drop (i+k)) rb:=by
 have u:=G7 hu i;have m2:Mg rk t out ((l.drop i).take k++l.drop (i+k)) rb:=by rw[<- bM];show m
 show m2.a (by rw[<- bM];show u) I
def Mg.kb (m:Mg rk t out ra (l.drop i))(hu:upL rk l)(I:∀x∈(l.drop i).take k,∀y∈ra,rk x<=rk y):Mg rk t (out++(l.drop i).take k) ra (l.drop (i+k)):=(m.swap.ka hu I).swap
def bJ (a:Array Keyed)(i k:Nat):(a.extract i (i+k)).toList=(a.toList.drop i).take k:=by
 rw[qV0,qK2];congr 1;omega
def bH (a:Array Keyed)(i:Nat):(a.extract i a.size).toList=a.toList.drop i:=by
 rw[qV0,qK2,qF9 ZW]
def aq {a:Array Keyed}(h:i<a.size):∃x,x∈a.toList/\a[i]?=some x/\a.toList[i]?=some x:=⟨a[i],ZW,ZW,by simp [h]⟩
def y4 (h:a.toList[i]?=some x):kk rk a i=rk x:=aG (by rw[<- qO7];show h)
def eC (hu:upL rk a.toList)(h:i<=j)(hj:j<a.size):kk rk a i<=kk rk a j:=by
 obtain ⟨x,hx,ex,I⟩:=aq (a:=a) (i:=i) ox;obtain ⟨y,hy,ey,ly⟩:=aq (a:=a) (i:=j) hj;rw[aG ex,aG ey];refine lP hu I y (qS6.mpr ⟨j-i,?_⟩);rw[qG9,show i+(j-i)=j by omega];show ly
def Z8 (hu:upL rk a.toList)(hx:x∈a.toList.drop i):kk rk a i<=rk x:=by
 obtain ⟨j,I⟩:=qS6.mp hx;rw[qG9]at I;have hl:=(qA6.mp I).1;rw[<- y4 (rk:=rk) I];show eC hu ox (by simp at hl;omega)
structure Js (rk:Keyed->Int) (a b:Array Keyed) (out:Array Keyed) (ia ib:Nat):Prop where
 mg:Mg rk (a.toList++b.toList) out.toList (a.toList.drop ia) (b.toList.drop ib)
 ha:ia+1<a.size
 hb:ib<b.size
abbrev gS (st:SortSt)(g:Nat):SortSt:=SortSt.mk' (kindOf st) (arrOf st) (pendingOf st) g (failedOf st)
def lF {a b:Array Keyed}(m:Mg rk (a.toList++b.toList) out.toList (a.toList.drop ia) (b.toList.drop ib))(ua:upL rk a.toList)(h:ib=b.size):Gd rk (a.toList++b.toList) (out++a.extract ia a.size++b.extract ib b.size).toList:=by
 rw[qG4,qG4,bH,bH];have e:b.toList.drop ib = []:=qF3 (by simp;omega);rw[e]at m ⊢;show m.fin (G7 ua _) .nil λx hx y I=>nomatch I
def JQ {a b:Array Keyed}(m:Mg rk (a.toList++b.toList) out.toList (a.toList.drop ia) (b.toList.drop ib))(I:upL rk b.toList)(h:ia=a.size):Gd rk (a.toList++b.toList) (out++a.extract ia a.size++b.extract ib b.size).toList:=by
 rw[qG4,qG4,bH,bH];have e:a.toList.drop ia = []:=qF3 (by simp;omega);rw[e]at m ⊢;show m.fin .nil (G7 I _) λx hx y hy=>nomatch hx
def lE {b:Array Keyed}(m:Mg rk (a.toList++b.toList) out.toList (a.toList.drop ia) (b.toList.drop ib))(I:upL rk a.toList)(ub:upL rk b.toList)(hl:∀x∈b.toList,rk x<=kk rk a (a.size-1))(h:ia+1=a.size):Gd rk (a.toList++b.toList) (out++b.extract ib b.size++a.extract ia a.size).toList:=by
 rw[qG4,qG4,bH,bH];refine m.finB (G7 I _) (G7 ub _) λx hx y hy=>?_;have h1:=hl x (qK5 hx);have h2:=Z8 I hy;rw[show a.size-1=ia by omega]at h1;omega
@[elab_as_elim] theorem rM {A1 A2 A3 A4 A5 C S:Type}{f:A1->A2->A3->A4->A5->C}{k:A1->A2->A3->A4->A5->S}{J:A1->A2->A3->A4->A5->Prop}{G:C->S->Prop}{c:C}{t:S}(h:∃x1 I x3 x4 x5,c=f x1 I x3 x4 x5/\t=k x1 I x3 x4 x5/\J x1 I x3 x4 x5)(g:∀x1 I x3 x4 x5,J x1 I x3 x4 x5->G (f x1 I x3 x4 x5) (k x1 I x3 x4 x5)):G c t:=by
 obtain ⟨_,_,_,_,_,rfl,rfl,j⟩:=h;show g _ _ _ _ _ j
@[elab_as_elim] theorem HR {A1 A2 A3 A4 A5 A6 A7 C S:Type}{f:A1->A2->A3->A4->A5->A6->A7->C}{k:A1->A2->A3->A4->A5->A6->A7->S}{J:A1->A2->A3->A4->A5->A6->A7->Prop}{G:C->S->Prop}{c:C}{t:S}(h:∃x1 I x3 x4 x5 x6 x7,c=f x1 I x3 x4 x5 x6 x7/\t=k x1 I x3 x4 x5 x6 x7/\J x1 I x3 x4 x5 x6 x7)(g:∀x1 I x3 x4 x5 x6 x7,J x1 I x3 x4 x5 x6 x7->G (f x1 I x3 x4 x5 x6 x7) (k x1 I x3 x4 x5 x6 x7)):G c t:=by
 obtain ⟨_,_,_,_,_,_,_,rfl,rfl,j⟩:=h;show g _ _ _ _ _ _ _ j
@[elab_as_elim] theorem HN {A1 A2 A3 A4 A5 R D S:Type}{f:A1->A2->A3->A4->A5->Option R×D}{J:A1->A2->A3->A4->A5->Prop}{L:R->Prop}{G:Option R×D->S->Prop}{c:Option R×D}{t t0:S}(h:t=t0/\((∃r,c.1=some r/\L r)\/∃x1 I x3 x4 x5,c=f x1 I x3 x4 x5/\J x1 I x3 x4 x5))(g1:∀r d,L r->G (some r,d) t0)(g2:∀x1 I x3 x4 x5,J x1 I x3 x4 x5->G (f x1 I x3 x4 x5) t0):G c t:=by
 obtain ⟨c1,c2⟩:=c;obtain ⟨rfl,⟨r,e,l⟩|⟨_,_,_,_,_,e,j⟩⟩:=h
 .cases e;show g1 _ _ l
 .rw[e];show g2 _ _ _ _ _ j
@[elab_as_elim] theorem HP {A1 A2 A3 A4 A5 A6 R D S N:Type}{k:N->S}{f:A1->A2->A3->A4->A5->A6->Option R×D}{J:A1->A2->A3->A4->A5->A6->Prop}{L:R->Prop}{G:Option R×D->S->Prop}{c:Option R×D}{t:S}(h:∃g,t=k g/\((∃r,c.1=some r/\L r)\/∃x1 I x3 x4 x5 x6,c=f x1 I x3 x4 x5 x6/\J x1 I x3 x4 x5 x6))(g1:∀g r d,L r->G (some r,d) (k g))(g2:∀g x1 I x3 x4 x5 x6,J x1 I x3 x4 x5 x6->G (f x1 I x3 x4 x5 x6) (k g)):G c t:=by
 obtain ⟨c1,c2⟩:=c;obtain ⟨g,rfl,⟨r,e,l⟩|⟨_,_,_,_,_,_,e,j⟩⟩:=h
 .cases e;show g1 _ _ _ l
 .rw[e];show g2 _ _ _ _ _ _ _ j
def R9 {G:Prop}{a:Array Keyed}(h:i<a.size)(g:∀x,x∈a.toList->a[i]?=some x->a.toList[i]?=some x->G):G:=let ⟨x,h1,h2,h3⟩:=aq h;g x h1 h2 h3
def sf {I:Type}[Decidable c]{jp:Unit->I->StateT SortSt Sem α}{x y:I}{Q:α->SortSt->Prop}{st:SortSt}(h:∀z,wpS M A E s (jp () z) Q st):wpS M A E s (if c then jp () x else jp () y) Q st:=by
 split
 .show h _
 .show h _
def L7 {m:Nat}{X Y:StateT SortSt Sem α}{Q:α->SortSt->Prop}{st:SortSt}(h1:m=n->wpS M A E s X Q st)(I:¬ m=n->wpS M A E s Y Q st):wpS M A E s (if (m == n)=true then X else Y) Q st:=by
 by_cases c:m=n
 .rw[qA2 (by simpa using c)];show h1 c
 .rw[qA4 (by simpa using c)];show I c
def U8 [Decidable c]{X Y:StateT SortSt Sem α}{Q:α->SortSt->Prop}{st:SortSt}(h1:c->wpS M A E s X Q st)(I:¬ c->wpS M A E s Y Q st):wpS M A E s (if decide c=true then X else Y) Q st:=by
 by_cases q:c
 .rw[qA2 (by simpa using q)];show h1 q
 .rw[qA4 (by simpa using q)];show I q
@[elab_as_elim] theorem cpsA {I C S:Type}{f:I->C}{J:I->Prop}{G:C->S->Prop}{c:C}{t t0:S}(h:t=t0/\∃x,c=f x/\J x)(g:∀x,J x->G (f x) t0):G c t:=by
 obtain ⟨rfl,_,rfl,j⟩:=h;show g _ j
@[elab_as_elim] theorem JX {I A2 C S:Type}{f:I->A2->C}{J:I->A2->Prop}{G:C->S->Prop}{c:C}{t t0:S}(h:t=t0/\∃x y,c=f x y/\J x y)(g:∀x y,J x y->G (f x y) t0):G c t:=by
 obtain ⟨rfl,_,_,rfl,j⟩:=h;show g _ _ j
@[elab_as_elim] theorem HQ {I S:Type}{k:I->S}{J:I->Prop}{G:S->Prop}{t:S}(h:∃x,t=k x/\J x)(g:∀x,J x->G (k x)):G t:=by
 obtain ⟨_,rfl,j⟩:=h;show g _ j
@[elab_as_elim] theorem cpsC {I A2 C S:Type}{k:I->A2->S}{f:I->A2->C}{J:I->A2->Prop}{G:C->S->Prop}{c:C}{t:S}(h:∃x y,t=k x y/\c=f x y/\J x y)(g:∀x y,J x y->G (f x y) (k x y)):G c t:=by
 obtain ⟨_,_,rfl,rfl,j⟩:=h;show g _ _ j
@[elab_as_elim] theorem cpsD {I A2 A3 C S:Type}{k:I->A2->A3->S}{f:I->A2->A3->C}{J:I->A2->A3->Prop}{G:C->S->Prop}{c:C}{t:S}(h:∃x y z,t=k x y z/\c=f x y z/\J x y z)(g:∀x y z,J x y z->G (f x y z) (k x y z)):G c t:=by
 obtain ⟨_,_,_,rfl,rfl,j⟩:=h;show g _ _ _ j
@[elab_as_elim] theorem JW {I C S:Type}{k:I->S}{c0:C}{J:I->Prop}{G:C->S->Prop}{c:C}{t:S}(h:∃x,t=k x/\c=c0/\J x)(g:∀x,J x->G c0 (k x)):G c t:=by
 obtain ⟨_,rfl,rfl,j⟩:=h;show g _ j
def qq {st:SortSt}(hc:Cmp prog w A s κ rk a₀)(hk:kindOf st=κ)(ha:∀x∈a.toList,x∈a₀)(hb:∀x∈b.toList,x∈a₀)(ua:upL rk a.toList)(ub:upL rk b.toList)(cj:0<a.size)(b3:0<b.size)(hf:∀x∈a.toList,kk rk b 0<=rk x)(hl:∀x∈b.toList,rk x<=kk rk a (a.size-1))(h:∀a3 g,Gd rk (a.toList++b.toList) a3.toList->Q a3 (gS st g)):wpS (model prog w) A E s (xB a b) Q st:=by
 refine La (wpS_lift (qS2 ⟨rfl,?_⟩));refine R9 b3 λy0 cg b5 a9=>?_;refine La (q5 b5 ?_);dsimp (zeta:=false) only;have m0:Mg rk (a.toList++b.toList) #[y0].toList (a.toList.drop 0) (b.toList.drop 1):=by
  have:Mg rk (a.toList++b.toList) [] (a.toList.drop 0) (b.toList.drop 0):=⟨ZW,.nil,λx hx=>nomatch hx⟩
  show this.pb ub a9 λy hy=>by rw[<- y4 (rk:=rk) a9];show hf y (qK5 hy)
 refine L7 (λc1=>Lb (h _ (gallopOf st) (lF m0 ua c1))) λc1=>?_;by_cases c2:0+1=a.size
 .rw [qA2 (by simpa using c2)]
  show Lb (h _ (gallopOf st) (lE m0 ua ub hl c2))
 rw[qA4 (by simpa using c2)];refine La (wpS_get ?_);have j0:Js rk a b #[y0] 0 1:=⟨m0,ox,ox⟩;refine La (wpS_mono (wpS_forRange (λx c I=>∃out ia ib g g',c=(none,out,ia,ib,g)/\I=gS st g'/\Js rk a b out ia ib/\x+1<=ia+ib)
  (Q:=λc I=>∃a3 g,c.1=some a3/\I=gS st g/\Gd rk (a.toList++b.toList) a3.toList) ?step ?fin ⟨_,_,_,_,gallopOf st,rfl,rfl,j0,ox⟩) ?post)
 case fin=>
  rintro c I ⟨out,ia,ib,g,g',rfl,rfl,j,hm⟩
  have:=j.ha
  have:=j.hb
  omega
 case post=>
  rintro ⟨c1,c2⟩ I ⟨a3,g,e,rfl,hg⟩;cases e;show Lb (h a3 g hg)
 case step=>
  intro x c I _ _ hI;refine rM (c:=c) (t:=I) hI λout ia ib g g' jm=>?_;have j:=jm.1;have hm:=jm.2;clear hI jm c I;clear c1 c2 j0 m0;dsimp (zeta:=false) only;refine La (wpS_mono (wpS_forRange (λy c I=>∃out ia ib ac bc,c=(none,out,ia,ib,ac,bc)/\I=gS st g'/\Js rk a b out ia ib/\x+min y 1+1<=ia+ib)
   (Q:=λc I=>I=gS st g'/\((∃a3,c.1=some a3/\Gd rk (a.toList++b.toList) a3.toList)\/∃out ia ib ac bc,c=(none,out,ia,ib,ac,bc)/\Js rk a b out ia ib/\x+2<=ia+ib)) ?istep ?ifin ⟨out,ia,ib,0,0,rfl,rfl,j,ox⟩) ?ipost)
  case ifin=>
   rintro c I ⟨out,ia,ib,ac,bc,rfl,rfl,j,hm⟩
   have:=j.ha
   show ⟨rfl,.inr ⟨_,_,_,_,_,rfl,j,ox⟩⟩
  case istep=>
   clear j hm;intro y c I _ _ hI;refine rM (c:=c) (t:=I) hI λout ia ib ac bc jm=>?_;have j:=jm.1;have hm:=jm.2;clear hI jm c I;dsimp only;have ab:=j.ha;have a7:=j.hb;refine R9 (a:=b) (i:=ib) j.hb λu hu eu lu=>?_;refine R9 (a:=a) (i:=ia) ox λv hv ev lv=>?_;refine La (q5 eu (La (q5 ev (La (gD hc (hb u hu) (ha v hv) hk ?_)))));dsimp only;refine U8 (λq=>?_) λq=>?_
   .skip
    refine La (q5 eu ?_);have m:=j.mg.pb ub lu λz hz=>by
     have:=Z8 ua hz
     rw[y4 (rk:=rk) lv]at this;omega
    rw[<- qK6]at m;refine L7 (λc=>Lb ⟨rfl,.inl ⟨_,rfl,lF m ua c⟩⟩) λc=>?_
    .skip
     have j2:Js rk a b (out.push u) ia (ib+1):=⟨m,ab,ox⟩;have a6:x+2<=ia+ib+1:=qH7 (qA8 (qH7 (qE4 x _)) hm)
     split
     .show Lb ⟨rfl,.inr ⟨_,_,_,_,_,rfl,j2,a6⟩⟩
     .show Lb ⟨_,_,_,_,_,rfl,rfl,j2,ms3 hm⟩
   .skip
    refine La (q5 ev ?_);have m:=j.mg.pa ua lv λz hz=>by
     have:=Z8 ub hz
     rw[y4 (rk:=rk) lu]at this;omega
    rw[<- qK6]at m;refine L7 (λc=>Lb ⟨rfl,.inl ⟨_,rfl,lE m ua ub hl c⟩⟩) λc=>?_
    .skip
     have j2:Js rk a b (out.push v) (ia+1) ib:=⟨m,ox,a7⟩;have a6:x+2<=ia+ib+1:=qH7 (qA8 (qH7 (qE4 x _)) hm)
     split
     .show Lb ⟨rfl,.inr ⟨_,_,_,_,_,rfl,j2,qP6 ia ib 1 ▸ a6⟩⟩
     .show Lb ⟨_,_,_,_,_,rfl,rfl,j2,qP6 ia ib 1 ▸ ms3 hm⟩
  case ipost=>
   clear j hm;intro c I hI;refine HN (c:=c) (t:=I) hI (λa3 _ hg=>Lb ⟨a3,g',rfl,rfl,hg⟩) λout ia ib ac bc jm=>?_;have j:=jm.1;have hm:=jm.2;clear hI jm c I;dsimp (zeta:=false) only;refine La (wpS_lift (qS2 ⟨rfl,?_⟩));refine La (wpS_mono (wpS_forRange (λy c I=>∃out ia ib mg ac bc g,c=(none,out,ia,ib,mg,ac,bc)/\I=gS st g/\Js rk a b out ia ib/\x+2<=ia+ib)
    (Q:=λc I=>∃g,I=gS st g/\((∃a3,c.1=some a3/\Gd rk (a.toList++b.toList) a3.toList)\/∃out ia ib mg ac bc,c=(none,out,ia,ib,mg,ac,bc)/\Js rk a b out ia ib/\x+2<=ia+ib)) ?gstep ?gfin ⟨out,ia,ib,_,ac,bc,g',rfl,rfl,j,hm⟩) ?gpost)
   case gfin=>
    rintro c I ⟨out,ia,ib,mg,ac,bc,g,rfl,rfl,j,hm⟩;show ⟨g,rfl,.inr ⟨_,_,_,_,_,_,rfl,j,hm⟩⟩
   case gpost=>
    clear j hm;intro c I hI;refine HP (c:=c) (t:=I) hI (λg a3 _ hg=>Lb ⟨a3,g,rfl,rfl,hg⟩) λg out ia ib mg ac bc jm=>?_;have j:=jm.1;have hm:=jm.2;clear hI jm c I
    try dsimp (zeta:=false) only
    show La (wpS_modify (Lb ⟨_,_,_,_,_,rfl,rfl,j,ox⟩))
   case gstep=>
    clear j hm;intro y c I _ _ hI;refine HR (c:=c) (t:=I) hI λout ia ib mg ac bc g jm=>?_;have j:=jm.1;have hm:=jm.2;clear hI jm c I
    try dsimp (zeta:=false) only
    have ab:=j.ha;have a7:=j.hb;refine R9 (a:=b) (i:=ib) j.hb λu hu eu lu=>?_
    extract_lets s0 o0 s1 i0 s2 i1 s3 m0 s4 a0 b0 ib1 jp mg1
    refine sf (jp:=jp) λc5=>?_;dsimp (zeta:=false) only [jp];clear jp;subst s0 o0 s1 i0 s2 i1 s3 m0 s4 a0 b0 ib1 mg1
    try dsimp (zeta:=false) only
    refine La (wpS_modify ?_);refine La (q5 eu (La (O8 hc hk (hb u hu) (λi hi=>?ga) (λi j bb hj=>eC ua ox ox) ox λk k1 k2 k3=>?_)))
    case ga=>
     refine R9 (a:=a) (i:=ia+i) ox λv hv ev lv=>?_;show ⟨v,ha v hv,ev⟩
    try dsimp (zeta:=false) only
    extract_lets acnt jp2 a4 a5
    subst acnt a4 a5;have b4:ia<=ia+k/\ia+k<=a.size:=ox;have m1:Mg rk (a.toList++b.toList) (out++a.extract ia (ia+k)).toList (a.toList.drop (ia+k)) (b.toList.drop ib):=by
     rw[qG4,bJ];refine j.mg.ka ua λz hz y hy=>?_;obtain ⟨i,hi,li⟩:=Y0 hz;have h1:=k2 i hi;rw[y4 (rk:=rk) li]at h1;have h2:=Z8 ub hy;rw[y4 (rk:=rk) lu]at h2;simp [bey]at h1;omega
    have b1:∀z∈a.toList.drop (ia+k),rk u<=rk z:=λz hz=>by
     by_cases c:ia+k<a.size
     .have h1:=k3 k (qB2 _) ox;have h2:=Z8 ua hz;simp [bey]at h1;omega
     .rw[qF3 (by simp;omega)]at hz;cases hz
    refine sh (λq=>?e1) (λ_ c=>Lb ⟨_,rfl,.inl ⟨_,rfl,lE m1 ua ub hl (by simpa using c)⟩⟩) (λ_ _ c=>Lb ⟨_,rfl,.inl ⟨_,rfl,JQ m1 ub (by simpa using c)⟩⟩) λq0=>?_
    case e1=>
     have k0:k=0:=ox;rw[k0,qP7,HA]
    have q1:ia+k+1<a.size:=by
     by_cases kz:k>0
     .have:=q0 kz
      simp at this;omega
     .omega
    generalize out++a.extract ia (ia+k)=a4 at m1 ⊢
    generalize ia+k=a5 at m1 b1 b4 q1 ⊢
    dsimp (zeta:=false) only [jp2];clear jp2;refine La (q5 eu ?_)
    extract_lets out3
    have m2:=m1.pb ub lu b1;rw[<- qK6]at m2;refine L7 (λc3=>Lb ⟨_,rfl,.inl ⟨_,rfl,lF m2 ua c3⟩⟩) λc3=>?_;refine R9 (a:=a) (i:=a5) ox λv hv ev lv=>?_;refine La (q5 ev (La (O8 hc hk (ha v hv) (λi hi=>?gb) (λi j bb hj=>eC ub ox ox) ox λl l1 l2 l3=>?_)))
    case gb=>
     refine R9 (a:=b) (i:=ib+1+i) (qL6 hi) λv hv ev lv=>?_;show ⟨v,hb v hv,ev⟩
    try dsimp (zeta:=false) only
    extract_lets bcnt jp3 out4 ib4
    subst out3 bcnt out4 ib4;have bq:ib+1<=ib+1+l/\ib+1+l<=b.size:=⟨qE4 _ _,qA8 (qF2 l1 _) (qL1 (qE6 a7))⟩;have m3:Mg rk (a.toList++b.toList) (a4.push u++b.extract (ib+1) (ib+1+l)).toList (a.toList.drop a5) (b.toList.drop (ib+1+l)):=by
     rw[qG4,bJ];refine m2.kb ub λz hz y hy=>?_;obtain ⟨i,hi,li⟩:=Y0 hz;have h1:=l2 i hi;rw[y4 (rk:=rk) li]at h1;have h2:=Z8 ua hy;rw[y4 (rk:=rk) lv]at h2;simp [bey]at h1;omega
    have b2:∀z∈b.toList.drop (ib+1+l),rk v<=rk z:=λz hz=>by
     by_cases c:ib+1+l<b.size
     .have h1:=l3 l (qB2 _) (Nat.lt_sub_iff_add_lt'.mpr c);have h2:=Z8 ub hz;simp [bey]at h1;omega
     .rw[qF3 (by simp;omega)]at hz;cases hz
    refine si (λq=>?e2) (λ_ c=>Lb ⟨_,rfl,.inl ⟨_,rfl,lF m3 ua (by simpa using c)⟩⟩) λq0=>?_
    case e2=>
     have k0:l=0:=ox;rw[k0,qP7,HA]
    have q2:ib+1+l<b.size:=by
     by_cases kz:l>0
     .have:=q0 kz
      simp at this;omega
     .omega
    generalize a4.push u++b.extract (ib+1) (ib+1+l)=a8 at m3 ⊢
    generalize ib+1+l=c0 at m3 b2 bq q2 ⊢
    dsimp (zeta:=false) only [jp3];clear jp3;refine La (q5 ev ?_);dsimp only;have m4:=m3.pa ua lv b2;rw[<- qK6]at m4;refine L7 (λc4=>Lb ⟨_,rfl,.inl ⟨_,rfl,lE m4 ua ub hl c4⟩⟩) λc4=>?_;have j4:Js rk a b (a8.push v) (a5+1) c0:=⟨m4,ox,q2⟩
    split
    .show Lb ⟨_,rfl,.inr ⟨_,_,_,_,_,_,rfl,j4,ox⟩⟩
    .show Lb ⟨_,_,_,_,_,_,_,rfl,rfl,j4,ox⟩
end
section
variable {prog:Program}{w:World}{A:Around}{E:Zv}{s:Shared}{a₀:Array Keyed}{κ:SortKind}{rk:Keyed->Int}
abbrev rn (rk:Keyed->Int)(x:Keyed):Int:=-rk x
abbrev rv (a:Array Keyed):List Keyed:=a.toList.reverse
def eB (h:upL rk l):upL (rn rk) l.reverse:=by
 unfold upL at h ⊢;rw[List.pairwise_reverse];show h.imp λq=>by change -_ <= -_;omega
def yU (h0:0<k)(hk:k<=a.size)(h:a.toList[k-1]?=some x):(rv a)[a.size-k]?=some x:=by
 cases k with
 |zero=>show absurd h0 (qF5 _)
 | succ m=>
  have e:a.toList.length-1-(a.size-(m+1))=m:=by rw[qE9,show a.size-(m+1)=a.size-1-m by rw[Nat.sub_sub,qO6],Nat.sub_sub_self (show m<=a.size-1 from qM0 hk)]
  rw[qU4 (by rw[qE9];show qJ5 (qB3 h0 hk) h0),e,<- h];rfl
def X9:(rv a).drop (a.size-k)=(a.toList.take k).reverse:=by
 rw[List.reverse_take];simp
def cr (hu:upL rk a.toList)(h0:k<=a.size)(I:x∈(rv a).drop (a.size-k)):rk x<=kk rk a (k-1):=by
 rw[X9,qY6]at I;obtain ⟨j,hj,lj⟩:=Y0 (i:=0) (k:=k) (l:=a.toList) (by simpa using I);rw[qO8]at lj;rw[<- y4 (rk:=rk) lj];show eC hu ox ox
def gJ (h:i<=k)(hk:k<=a.size):(a.extract i k).reverse.toList=((rv a).drop (a.size-k)).take (k-i):=by
 rw[X9,Array.toList_reverse,qV0,qK2,List.take_reverse,qG1];congr 1;rw[List.drop_take];simp
 have:min k a.size-(k-i)=i:=ox
 rw[this]
def Gd.rv (h:Gd (rn rk) (rv a++rv b) res.reverse):Gd rk (a.toList++b.toList) res:=by
 refine ⟨?_,?_⟩
 .refine (qX8 res).symm.trans (h.1.trans ?_);show List.Perm.append (qX8 _) (qX8 _)
 .have:=h.2
  unfold upL at this ⊢;rw[List.pairwise_reverse]at this;show this.imp λq=>by
   have q:-_ <= -_:=q;omega
def nH {out:Array Keyed}{nb:Nat}(h:Gd (rn rk) (rv a++rv b) (out.toList++(rv b).drop (b.size-nb)++(rv a).drop (a.size-na))):Gd rk (a.toList++b.toList) (a.extract 0 na++b.extract 0 nb++out.reverse).toList:=by
 refine Gd.rv ?_;rw[X9,X9]at h;have e:(a.extract 0 na++b.extract 0 nb++out.reverse).toList.reverse=out.toList++(b.toList.take nb).reverse++(a.toList.take na).reverse:=by
  simp [qK2]
 rw[e];show h
def iu {out:Array Keyed}{nb:Nat}(m:Mg (rn rk) (rv a++rv b) out.toList ((rv a).drop (a.size-na)) ((rv b).drop (b.size-nb)))(ub:upL rk b.toList)(h:na=0):Gd rk (a.toList++b.toList) (a.extract 0 na++b.extract 0 nb++out.reverse).toList:=by
 refine nH ?_;have e:(rv a).drop (a.size-na) = []:=qF3 (by simp;omega);rw[e]at m ⊢;show m.finB .nil (G7 (eB ub) _) λx hx y I=>nomatch I
def GR {out:Array Keyed}{nb:Nat}(m:Mg (rn rk) (rv a++rv b) out.toList ((rv a).drop (a.size-na)) ((rv b).drop (b.size-nb)))(I:upL rk a.toList)(h:nb=0):Gd rk (a.toList++b.toList) (a.extract 0 na++b.extract 0 nb++out.reverse).toList:=by
 refine nH ?_;have e:(rv b).drop (b.size-nb) = []:=qF3 (by simp;omega);rw[e]at m ⊢;show m.finB (G7 (eB I) _) .nil λx hx y hy=>nomatch hx
def ir {out:Array Keyed}{nb:Nat}(m:Mg (rn rk) (rv a++rv b) out.toList ((rv a).drop (a.size-na)) ((rv b).drop (b.size-nb)))(ua:upL rk a.toList)(ub:upL rk b.toList)(hf:∀x∈a.toList,kk rk b 0<=rk x)(hn:nb<=b.size)(h:nb=1):Gd rk (a.toList++b.toList) (b.extract 0 nb++a.extract 0 na++out.reverse).toList:=by
 refine Gd.rv ?_;have e:(b.extract 0 nb++a.extract 0 na++out.reverse).toList.reverse=out.toList++(rv a).drop (a.size-na)++(rv b).drop (b.size-nb):=by
  rw[X9,X9];simp [qK2]
 rw[e];refine m.fin (G7 (eB ua) _) (G7 (eB ub) _) λx hx y hy=>?_;have h1:=hf x (qY6.mp (qK5 hx));have I:=cr ub hn hy;rw[h]at I
 change -_ <= -_;have I:rk y<=kk rk b 0:=I;omega
structure Jh (rk:Keyed->Int) (a b:Array Keyed) (out:Array Keyed) (na nb:Nat):Prop where
 mg:Mg (rn rk) (rv a++rv b) out.toList ((rv a).drop (a.size-na)) ((rv b).drop (b.size-nb))
 ha:0<na
 hb:1<nb
 la:na<=a.size
 lb:nb<=b.size
def qr {st:SortSt}(hc:Cmp prog w A s κ rk a₀)(hk:kindOf st=κ)(ha:∀x∈a.toList,x∈a₀)(hb:∀x∈b.toList,x∈a₀)(ua:upL rk a.toList)(ub:upL rk b.toList)(b3:0<a.size)(cm:0<b.size)(hf:∀x∈a.toList,kk rk b 0<=rk x)(hl:∀x∈b.toList,rk x<=kk rk a (a.size-1))(h:∀a3 g,Gd rk (a.toList++b.toList) a3.toList->Q a3 (gS st g)):wpS (model prog w) A E s (xC a b) Q st:=by
 have uA:=eB ua;have uB:=eB ub;refine La (wpS_lift (qS2 ⟨rfl,?_⟩));refine R9 (a:=a) (i:=a.size-1) ox λy0 ck c5 bb=>?_;refine La (q5 c5 ?_);dsimp (zeta:=false) only;have a6:∀{out:Array Keyed}{na nb:Nat}{x:Keyed},Mg (rn rk) (rv a++rv b) out.toList ((rv a).drop (a.size-na)) ((rv b).drop (b.size-nb))->0<na->na<=a.size->nb<=b.size->a.toList[na-1]?=some x->(∀y∈(rv b).drop (b.size-nb),rk y<=rk x) ->
   Mg (rn rk) (rv a++rv b) (out.push x).toList ((rv a).drop (a.size-(na-1))) ((rv b).drop (b.size-nb)):=λ{out na nb x} m h1 h2 h3 lx hle=>by
  have:=m.pa uA (yU h1 h2 lx) λy hy=>by change -_ <= -_;have:=hle y hy;omega
  rw[qK6,sb1 h1 h2];show this
 have a7:∀{out:Array Keyed}{na nb:Nat}{x:Keyed},Mg (rn rk) (rv a++rv b) out.toList ((rv a).drop (a.size-na)) ((rv b).drop (b.size-nb))->0<nb->nb<=b.size->b.toList[nb-1]?=some x->(∀y∈(rv a).drop (a.size-na),rk y<=rk x) ->
   Mg (rn rk) (rv a++rv b) (out.push x).toList ((rv a).drop (a.size-na)) ((rv b).drop (b.size-(nb-1))):=λ{out na nb x} m h1 h2 lx hle=>by
  have:=m.pb uB (yU h1 h2 lx) λy hy=>by change -_ <= -_;have:=hle y hy;omega
  rw[qK6,sb1 h1 h2];show this
 have m0:Mg (rn rk) (rv a++rv b) #[y0].toList ((rv a).drop (a.size-(a.size-1))) ((rv b).drop (b.size-b.size)):=by
  have m:Mg (rn rk) (rv a++rv b) (#[]:Array Keyed).toList ((rv a).drop (a.size-a.size)) ((rv b).drop (b.size-b.size)):=⟨ZW,.nil,λx hx=>nomatch hx⟩;show a6 m b3 (qB2 _) (qB2 _) bb λy hy=>by
   rw[<- y4 (rk:=rk) bb];show hl y (qY6.mp (qK5 hy))
 refine L7 (λc1=>Lb (h _ (gallopOf st) (iu m0 ub c1))) λc1=>?_;by_cases c2:b.size=1
 .rw [qA2 (by simpa using c2)]
  show Lb (h _ (gallopOf st) (ir m0 ua ub hf (qB2 _) c2))
 rw[qA4 (by simpa using c2)];refine La (wpS_get ?_);have j0:Jh rk a b #[y0] (a.size-1) b.size:=⟨m0,ox,ox,ox,ox⟩;refine La (wpS_mono (wpS_forRange (λx c I=>∃out na nb g g',c=(none,na,nb,out,g)/\I=gS st g'/\Jh rk a b out na nb/\na+nb+x<=a.size+b.size)
  (Q:=λc I=>∃a3 g,c.1=some a3/\I=gS st g/\Gd rk (a.toList++b.toList) a3.toList) ?step ?fin ⟨_,_,_,_,gallopOf st,rfl,rfl,j0,ox⟩) ?post)
 case fin=>
  rintro c I ⟨out,na,nb,g,g',rfl,rfl,j,hm⟩
  have:=j.ha
  omega
 case post=>
  rintro ⟨c1,c2⟩ I ⟨a3,g,e,rfl,hg⟩;cases e;show Lb (h a3 g hg)
 case step=>
  intro x c I _ _ hI;refine rM (c:=c) (t:=I) hI λout na nb g g' jm=>?_;have j:=jm.1;have hm:=jm.2;clear hI jm c I;clear c1 c2 j0 m0;dsimp (zeta:=false) only;refine La (wpS_mono (wpS_forRange (λy c I=>∃out na nb ac bc,c=(none,na,nb,out,ac,bc)/\I=gS st g'/\Jh rk a b out na nb/\na+nb+x+min y 1<=a.size+b.size)
   (Q:=λc I=>I=gS st g'/\((∃a3,c.1=some a3/\Gd rk (a.toList++b.toList) a3.toList)\/∃out na nb ac bc,c=(none,na,nb,out,ac,bc)/\Jh rk a b out na nb/\na+nb+x+1<=a.size+b.size)) ?istep ?ifin ⟨out,na,nb,0,0,rfl,rfl,j,ox⟩) ?ipost)
  case ifin=>
   rintro c I ⟨out,na,nb,ac,bc,rfl,rfl,j,hm⟩
   have:=j.ha
   show ⟨rfl,.inr ⟨_,_,_,_,_,rfl,j,ox⟩⟩
  case istep=>
   clear j hm;intro y c I _ _ hI;refine rM (c:=c) (t:=I) hI λout na nb ac bc jm=>?_;have j:=jm.1;have hm:=jm.2;clear hI jm c I;dsimp only;have ab:=j.ha;have a9:=j.hb;have a5:=j.la;have a4:=j.lb;refine R9 (a:=b) (i:=nb-1) ox λu hu eu lu=>?_;refine R9 (a:=a) (i:=na-1) ox λv hv ev lv=>?_;refine La (q5 eu (La (q5 ev (La (gD hc (hb u hu) (ha v hv) hk ?_)))));dsimp only;refine U8 (λq=>?_) λq=>?_
   .skip
    refine La (q5 ev ?_);have m:=a6 j.mg ab a5 a4 lv λz hz=>by
     have:=cr ub a4 hz
     rw[y4 (rk:=rk) lu]at this;omega
    refine L7 (λc=>Lb ⟨rfl,.inl ⟨_,rfl,iu m ub c⟩⟩) λc=>?_
    .skip
     have j2:Jh rk a b (out.push v) (na-1) nb:=⟨m,ox,a9,qA8 (qI3 _ _) a5,a4⟩
     split
     .show Lb ⟨rfl,.inr ⟨_,_,_,_,_,rfl,j2,xx hm ab⟩⟩
     .show Lb ⟨_,_,_,_,_,rfl,rfl,j2,ms1 hm ab⟩
   .skip
    refine La (q5 eu ?_);have m:=a7 j.mg ox a4 lu λz hz=>by
     have:=cr ua a5 hz
     rw[y4 (rk:=rk) lv]at this;omega
    refine L7 (λc=>Lb ⟨rfl,.inl ⟨_,rfl,ir m ua ub hf ox c⟩⟩) λc=>?_
    .skip
     have j2:Jh rk a b (out.push u) na (nb-1):=⟨m,ab,ox,a5,qA8 (qI3 _ _) a4⟩
     split
     .show Lb ⟨rfl,.inr ⟨_,_,_,_,_,rfl,j2,FX hm (qQ0 a9)⟩⟩
     .show Lb ⟨_,_,_,_,_,rfl,rfl,j2,ms2 hm (qQ0 a9)⟩
  case ipost=>
   clear j hm;intro c I hI;refine HN (c:=c) (t:=I) hI (λa3 _ hg=>Lb ⟨a3,g',rfl,rfl,hg⟩) λout na nb ac bc jm=>?_;have j:=jm.1;have hm:=jm.2;clear hI jm c I;dsimp (zeta:=false) only;refine La (wpS_lift (qS2 ⟨rfl,?_⟩));refine La (wpS_mono (wpS_forRange (λy c I=>∃out na nb mg ac bc g,c=(none,na,nb,out,mg,ac,bc)/\I=gS st g/\Jh rk a b out na nb/\na+nb+x+1<=a.size+b.size)
    (Q:=λc I=>∃g,I=gS st g/\((∃a3,c.1=some a3/\Gd rk (a.toList++b.toList) a3.toList)\/∃out na nb mg ac bc,c=(none,na,nb,out,mg,ac,bc)/\Jh rk a b out na nb/\na+nb+x+1<=a.size+b.size)) ?gstep ?gfin ⟨out,na,nb,_,ac,bc,g',rfl,rfl,j,hm⟩) ?gpost)
   case gfin=>
    rintro c I ⟨out,na,nb,mg,ac,bc,g,rfl,rfl,j,hm⟩;show ⟨g,rfl,.inr ⟨_,_,_,_,_,_,rfl,j,hm⟩⟩
   case gpost=>
    clear j hm;intro c I hI;refine HP (c:=c) (t:=I) hI (λg a3 _ hg=>Lb ⟨a3,g,rfl,rfl,hg⟩) λg out na nb mg ac bc jm=>?_;have j:=jm.1;have hm:=jm.2;clear hI jm c I
    try dsimp (zeta:=false) only
    show La (wpS_modify (Lb ⟨_,_,_,_,_,rfl,rfl,j,ox⟩))
   case gstep=>
    clear j hm;intro y c I _ _ hI;refine HR (c:=c) (t:=I) hI λout na nb mg ac bc g jm=>?_;have j:=jm.1;have hm:=jm.2;clear hI jm c I
    try dsimp (zeta:=false) only
    have ab:=j.ha;have a9:=j.hb;have a5:=j.la;have a4:=j.lb;refine R9 (a:=b) (i:=nb-1) ox λu hu eu lu=>?_
    extract_lets s0 o0 s1 i0 s2 i1 s3 m0 s4 a0 b0 ib1 jp mg1
    refine sf (jp:=jp) λcj=>?_;dsimp (zeta:=false) only [jp];clear jp;subst s0 o0 s1 i0 s2 i1 s3 m0 s4 a0 b0 ib1 mg1
    try dsimp (zeta:=false) only
    refine La (wpS_modify ?_);refine La (q5 eu (La (O8 hc hk (hb u hu) (λi hi=>?ga) (λi j cg hj=>eC ua ox ox) ox λk k1 k2 k3=>?_)))
    case ga=>
     refine R9 (a:=a) (i:=0+i) ox λv hv ev lv=>?_;show ⟨v,ha v hv,ev⟩
    try dsimp (zeta:=false) only
    simp only [qO8]at k2 k3
    extract_lets kc acnt jp2 a8 na1
    subst kc acnt a8 na1;have m1:Mg (rn rk) (rv a++rv b) (out++(a.extract k na).reverse).toList ((rv a).drop (a.size-k)) ((rv b).drop (b.size-nb)):=by
     rw[qG4,gJ k1 a5]
     have:a.size-k=a.size-na+(na-k):=sb2 a5 k1
     rw[this];refine j.mg.ka uA λz hz y hy=>?_;rw[<- gJ k1 a5]at hz;have hz:z∈(a.extract k na).toList:=by simpa using hz
     rw[show na=k+(na-k) from (qE6 k1).symm,bJ]at hz;obtain ⟨i,hi,li⟩:=Y0 hz;have h1:=k3 (k+i) (qE4 _ _) (qL6 hi);rw[y4 (rk:=rk) li]at h1;have h2:=cr ub a4 hy;rw[y4 (rk:=rk) lu]at h2;simp [bey]at h1
     change -_ <= -_;omega
    have b1:∀z∈(rv a).drop (a.size-k),rk z<=rk u:=λz hz=>by
     by_cases c:0<k
     .have h1:=k2 (k-1) (qJ5 c ZU);have h2:=cr ua (qA8 k1 a5) hz;simp [bey]at h1;omega
     .rw[qF3 (by simp;omega)]at hz;cases hz
    refine si (λq=>?e1) (λ_ c=>Lb ⟨_,rfl,.inl ⟨_,rfl,iu m1 ub (by simpa using c)⟩⟩) λq0=>?_
    case e1=>
     have k0:k=na:=Nat.le_antisymm k1 (Nat.le_of_sub_eq_zero (Nat.eq_zero_of_not_pos q));rw[k0,HB]
    have q1:0<k:=by
     by_cases kz:na-k>0
     .have:=q0 kz
      simp at this;omega
     .omega
    generalize out++(a.extract k na).reverse=a8 at m1 ⊢
    dsimp (zeta:=false) only [jp2];clear jp2;refine La (q5 eu ?_)
    extract_lets out3
    have m2:=a7 m1 (qQ0 a9) a4 lu b1;refine L7 (λc3=>Lb ⟨_,rfl,.inl ⟨_,rfl,ir m2 ua ub hf ox c3⟩⟩) λc3=>?_;refine R9 (a:=a) (i:=k-1) (qD7 (Nat.sub_le_sub_right (qA8 k1 a5) 1) (qJ5 b3 ZU)) λv hv ev lv=>?_;refine La (q5 ev (La (O8 hc hk (ha v hv) (λi hi=>?gb) (λi j cg hj=>eC ub ox ox) ox λl l1 l2 l3=>?_)))
    case gb=>
     refine R9 (a:=b) (i:=0+i) ox λv hv ev lv=>?_;show ⟨v,hb v hv,ev⟩
    try dsimp (zeta:=false) only
    simp only [qO8]at l2 l3
    extract_lets lc bcnt jp3 out4 nb4
    subst out3 lc bcnt out4 nb4;have m3:Mg (rn rk) (rv a++rv b) (a8.push u++(b.extract l (nb-1)).reverse).toList ((rv a).drop (a.size-k)) ((rv b).drop (b.size-l)):=by
     rw[qG4,gJ l1 (qA8 (qI3 _ _) a4)]
     have:b.size-l=b.size-(nb-1)+(nb-1-l):=sb2 (qA8 (qI3 _ _) a4) l1
     rw[this];refine m2.kb uB λz hz y hy=>?_;rw[<- gJ l1 (qA8 (qI3 _ _) a4)]at hz;have hz:z∈(b.extract l (nb-1)).toList:=by simpa using hz
     rw[show nb-1=l+(nb-1-l) from (qE6 l1).symm,bJ]at hz;obtain ⟨i,hi,li⟩:=Y0 hz;have h1:=l3 (l+i) (qE4 _ _) (qL6 hi);rw[y4 (rk:=rk) li]at h1;have h2:=cr ua (qA8 k1 a5) hy;rw[y4 (rk:=rk) lv]at h2;simp [bey]at h1
     change -_ <= -_;omega
    have b2:∀z∈(rv b).drop (b.size-l),rk z<=rk v:=λz hz=>by
     by_cases c:0<l
     .have h1:=l2 (l-1) (qJ5 c ZU);have h2:=cr ub (qA8 l1 (qA8 (qI3 _ _) a4)) hz;simp [bey]at h1;omega
     .rw[qF3 (by simp;omega)]at hz;cases hz
    refine sh (λq=>?e2) (λ_ c=>Lb ⟨_,rfl,.inl ⟨_,rfl,ir m3 ua ub hf ox (by simpa using c)⟩⟩) (λ_ _ c=>Lb ⟨_,rfl,.inl ⟨_,rfl,GR m3 ua (by simpa using c)⟩⟩) λq0=>?_
    case e2=>
     have k0:l=nb-1:=Nat.le_antisymm l1 (Nat.le_of_sub_eq_zero (Nat.eq_zero_of_not_pos q));rw[k0,HB]
    have q2:1<l:=by
     by_cases kz:nb-1-l>0
     .have:=q0 kz
      simp at this;omega
     .omega
    generalize a8.push u++(b.extract l (nb-1)).reverse=b4 at m3 ⊢
    dsimp only [jp3];clear jp3;refine La (q5 ev ?_)
    try dsimp only
    have bq:=qA8 k1 a5;have b5:=qA8 l1 (qA8 (qI3 _ _) a4);have m4:=a6 m3 q1 bq b5 lv b2;refine L7 (λc4=>Lb ⟨_,rfl,.inl ⟨_,rfl,iu m4 ub c4⟩⟩) λc4=>?_;have j4:Jh rk a b (b4.push v) (k-1) l:=⟨m4,ox,q2,qA8 (qI3 _ _) bq,b5⟩;have c0:k-1+l+x+1<=a.size+b.size:=qA8 (qH7 (qU9 (Nat.add_le_add (qA8 (qI3 _ _) k1) (qA8 l1 (qI3 _ _))) x)) hm
    split
    .show Lb ⟨_,rfl,.inr ⟨_,_,_,_,_,_,rfl,j4,c0⟩⟩
    .show Lb ⟨_,_,_,_,_,_,_,rfl,rfl,j4,c0⟩
end
def oK (sa:Nat):∀(ms:List Keyed) (j:Nat) (arr:Array Keyed),sa+j+ms.length<=arr.size->((ms.zipIdx j).foldl (λa x=>a.setIfInBounds (sa+x.2) x.1) arr).toList=arr.toList.take (sa+j)++ms++arr.toList.drop (sa+j+ms.length)
 | [],j,arr,_=>ZW
 | m::ms,j,arr,h=>by
  rw[qY3,qZ6];rw[qD4]at h;have I:sa+j<arr.toList.length:=by simp;omega
  rw[oK sa ms (j+1) _ (by simp;omega),qS9];have e1:(arr.toList.set (sa+j) m).take (sa+(j+1))=arr.toList.take (sa+j) ++ [m]:=by
   rw[<- qJ6,qK0,List.take_set_of_le (qB2 _),qK9 I];rfl
  rw[e1,List.drop_set_of_lt ox,qD4,show sa+(j+1)+ms.length=sa+j+(ms.length+1) by omega];simp
abbrev rn_ (L:List Keyed)(i n:Nat):List Keyed:=(L.drop i).take n
def HM:L=L.take i++(rn_ L i n++rn_ L (i+n) m)++L.drop (i+n+m):=by
 have e1:L.drop i=rn_ L i n++L.drop (i+n):=bM L i n;have e2:L.drop (i+n)=rn_ L (i+n) m++L.drop (i+n+m):=bM L (i+n) m;rw[qF7,qF7,<- e2,<- e1,qJ9]
def eJ (h:j<n):(rn_ L i n)[j]?=L[i+j]?:=by
 rw[qI5 h,qG9]
def yV (hu:upL rk (rn_ a.toList i n))(hn:i+n<=a.size):∀u v,u<=v->v<n->kk rk a (i+u)<=kk rk a (i+v):=λu v a3 hv=>by
 have h1:u<(rn_ a.toList i n).length:=by simp;omega
 obtain ⟨x,hx,ex,I⟩:=aq (a:=a) (i:=i+u) ox;obtain ⟨y,hy,ey,ly⟩:=aq (a:=a) (i:=i+v) ox;rw[aG ex,aG ey];refine lP hu (i:=u) (by rw[eJ ox];show I) y (qS6.mpr ⟨v-u,?_⟩);rw[qG9,show u+(v-u)=v by omega,eJ hv];show ly
def mB (L:List Keyed)(i n k:Nat)(h:k<=n):rn_ L i n=rn_ L i k++rn_ L (i+k) (n-k):=by
 unfold rn_;rw[show n=k+(n-k) from (qE6 h).symm,List.take_add,xB4,qZ3]
def zW {st:σ}(h:Q ⟨⟩ x):wpS M A E s (set x:StateT σ Sem PUnit) Q st:=by
 unfold wpS;rw[StateT.run_set];show qQ5 ⟨rfl,h⟩
abbrev sS (κ:SortKind)(arr:Array Keyed)(pd:Array (Nat×Nat×Nat))(g:Nat):SortSt:=SortSt.mk' κ arr pd g none
def qu {pd:Array (Nat×Nat×Nat)}{nb:Nat}(hc:Cmp prog w A s κ rk a₀)(a5:∀x∈arr.toList,x∈a₀)(e1:pd[i]?=some (sa,na,pw))(e2:pd[i+1]?=some (sb,nb,pw2))(a6:sb=sa+na)(hz:sb+nb<=arr.size)(a7:0<na)(b5:0<nb)(ux:upL rk (rn_ arr.toList sa na))(uy:upL rk (rn_ arr.toList sb nb))(h:∀M g,Gd rk (rn_ arr.toList sa na++rn_ arr.toList sb nb) M->Q true (sS κ (arr.toList.take sa++M++arr.toList.drop (sb+nb)).toArray ((pd.setIfInBounds i (sa,na+nb,pw)).eraseIdxIfInBounds (i+1)) g)):
  wpS (model prog w) A E s (mergeAt' i) Q (sS κ arr pd g0):=by
 refine La (wpS_get ?_);dsimp only;rw[e1,e2];dsimp only;refine La (zW ?_);obtain ⟨u,hu,eu,lu⟩:=aq (a:=arr) (i:=sb) ox;have kx:=yV ux ox;have ky:=yV uy ox;have ab:∀g,upL rk (rn_ arr.toList sa na++rn_ arr.toList sb nb)->Q true (sS κ arr ((pd.setIfInBounds i (sa,na+nb,pw)).eraseIdxIfInBounds (i+1)) g):=λg hu=>by
  have:=h _ g ⟨List.Perm.refl _,hu⟩
  have e:=HM (L:=arr.toList) (i:=sa) (n:=na) (m:=nb);rw[<- a6]at e;rw[<- e]at this;show this
 have mx:∀{x:Keyed}{i n:Nat},x∈rn_ arr.toList i n->∃j,j<n/\arr.toList[i+j]?=some x:=λh=>Y0 h;have a3:∀{p q:List Keyed},upL rk p->upL rk q->(∀x∈p,∀y∈q,rk x<=rk y)->upL rk (p++q):=λa b c=>qF0.mpr ⟨a,b,c⟩;refine La (q5 eu (La (O8 hc rfl (a5 u hu) (λi hi=>?ga) kx a7 λk k1 k2 k3=>?_)))
 case ga=>
  obtain ⟨v,hv,ev,lv⟩:=aq (a:=arr) (i:=sa+i) ox;show ⟨v,a5 v hv,ev⟩
 dsimp only;have a4:∀y∈rn_ arr.toList sb nb,rk u<=rk y:=λy hy=>by
  obtain ⟨j,hj,lj⟩:=mx hy
  have:=ky 0 j ox hj
  rw[qP7,y4 (rk:=rk) lu,y4 (rk:=rk) lj]at this;show this
 by_cases c1:na-k=0
 .rw [qA2 (by simpa using c1)]
  refine Lb (ab _ (a3 ux uy λx hx y hy=>?_));obtain ⟨j,hj,lj⟩:=mx hx;have h1:=k2 j ox;rw[y4 (rk:=rk) lj]at h1;have h2:=a4 y hy;simp [bey]at h1;omega
 rw[qA4 (by simpa using c1)];rw[show sa+k+(na-k)-1=sa+na-1 by rw[qJ6,qE6 k1]];obtain ⟨v,hv,ev,lv⟩:=aq (a:=arr) (i:=sa+na-1) (qB3 (qJ5 (qB3 a7 (Nat.le_add_left _ _)) ZU) (qA8 (qL1 a6.symm) (qA8 (qE4 _ _) hz)));refine La (q5 ev (La (O8 hc rfl (a5 v hv) (λi hi=>?gb) ky ox λl l1 l2 l3=>?_)))
 case gb=>
  obtain ⟨v,hv,ev,lv⟩:=aq (a:=arr) (i:=sb+i) ox;show ⟨v,a5 v hv,ev⟩
 dsimp only;have xlast:∀x∈rn_ arr.toList sa na,rk x<=rk v:=λx hx=>by
  obtain ⟨j,hj,lj⟩:=mx hx
  have:=kx j (na-1) (qM0 hj) (qJ5 a7 ZU)
  rw[sb5 a7,y4 (rk:=rk) lv,y4 (rk:=rk) lj]at this;show this
 by_cases c2:l=0
 .rw [qA2 (by simpa using c2)]
  refine Lb (ab _ (a3 ux uy λx hx y hy=>?_));obtain ⟨j,hj,lj⟩:=mx hy;have h1:=l3 j ox ox;rw[y4 (rk:=rk) lj]at h1;have h2:=xlast x hx;simp [bey]at h1;omega
 rw[qA4 (by simpa using c2)];have sx:=mB arr.toList sa na k k1;have sy:=mB arr.toList sb nb l l1;have ex:(arr.extract (sa+k) sb).toList=rn_ arr.toList (sa+k) (na-k):=by
  rw[show sb=sa+k+(na-k) by rw[qJ6,qE6 k1];show a6,bJ]
 have ey:(arr.extract sb (sb+l)).toList=rn_ arr.toList sb l:=bJ _ _ _;have zx:(arr.extract (sa+k) sb).size=na-k:=by rw[Array.size_extract,qP2 (qA8 (qE4 _ _) hz),a6,Nat.add_sub_add_left]
 have zy:(arr.extract sb (sb+l)).size=l:=by rw[Array.size_extract,qP2 (qA8 (qF2 l1 sb) hz),qZ3]
 rw[sx]at ux xlast;rw[sy]at uy a4;have a8:=(qF0.mp ux);have a9:=(qF0.mp uy);have b4:kk rk (arr.extract (sa+k) sb) ((arr.extract (sa+k) sb).size-1)=rk v:=by
  refine y4 ?_;rw[ex,zx,eJ (qJ5 (qP8 c1) ZU),sb5 (qP8 c1),qJ6,qE6 k1];show lv
 have b3:kk rk (arr.extract sb (sb+l)) 0=rk u:=by
  refine y4 ?_;rw[ey,eJ (qP8 c2)];show lu
 have p1:∀x∈(arr.extract (sa+k) sb).toList,kk rk (arr.extract sb (sb+l)) 0<=rk x:=λx hx=>by
  rw[b3];rw[ex]at hx;obtain ⟨j,hj,lj⟩:=mx hx;have h1:=k3 (k+j) ox ox;rw[<- qJ6,y4 (rk:=rk) lj]at h1;simp [bey]at h1;omega
 have p2:∀x∈(arr.extract sb (sb+l)).toList,rk x<=kk rk (arr.extract (sa+k) sb) ((arr.extract (sa+k) sb).size-1):=λx hx=>by
  rw[b4];rw[ey]at hx;obtain ⟨j,hj,lj⟩:=mx hx;have h1:=l2 j hj;rw[y4 (rk:=rk) lj]at h1;simp [bey]at h1;omega
 have i1:∀x∈(arr.extract (sa+k) sb).toList,x∈a₀:=λx hx=>by
  rw[ex]at hx;show a5 x (qK5 (List.mem_of_mem_take hx))
 have i2:∀x∈(arr.extract sb (sb+l)).toList,x∈a₀:=λx hx=>by
  rw[ey]at hx;show a5 x (qK5 (List.mem_of_mem_take hx))
 have fin:∀(I:Array Keyed) (g:Nat),Gd rk ((arr.extract (sa+k) sb).toList++(arr.extract sb (sb+l)).toList) I.toList->Q true (sS κ (I.toList.zipIdx.foldl (λa x=>a.setIfInBounds (sa+k+x.2) x.1) arr) ((pd.setIfInBounds i (sa,na+nb,pw)).eraseIdxIfInBounds (i+1)) g):=λI g hg=>by
  have hlen:I.toList.length=(na-k)+l:=by
   rw[hg.1.length_eq,qC4,qE9,qE9,zx,zy]
  have e:=oK (sa+k) I.toList 0 arr ox;rw[hlen,qP7]at e;have e':I.toList.zipIdx.foldl (λa x=>a.setIfInBounds (sa+k+x.2) x.1) arr=(arr.toList.take sa++(rn_ arr.toList sa k++I.toList++rn_ arr.toList (sb+l) (nb-l))++arr.toList.drop (sb+nb)).toArray:=by
   apply qY7.mp;rw[e];have t1:arr.toList.take (sa+k)=arr.toList.take sa++rn_ arr.toList sa k:=List.take_add;have t2:arr.toList.drop (sb+l)=rn_ arr.toList (sb+l) (nb-l)++arr.toList.drop (sb+l+(nb-l)):=bM _ _ _;rw[t1,show sa+k+(na-k+l)=sb+l by rw[<- qJ6,qJ6 sa,qE6 k1,a6],t2,show sb+l+(nb-l)=sb+nb by rw[qJ6,qE6 l1]];simp
  rw[e'];refine h _ g ⟨?_,?_⟩
  .rw [sx,sy]
   have:=hg.1
   rw[ex,ey]at this;rw[qF7,qF7 (rn_ arr.toList sa k)];refine qU5 _ ?_;rw[<- qF7];show List.Perm.append_right _ this
  .have hm:∀x∈I.toList,x∈rn_ arr.toList (sa+k) (na-k)\/x∈rn_ arr.toList sb l:=λx hx=>by
    have:=hg.1.mem_iff.mp hx
    rw[ex,ey]at this;show qC0.mp this
   refine a3 (a3 a8.1 hg.2 λx hx y hy=>?_) a9.2.1 λx hx y hy=>?_
   .rcases hm y hy with q|q
    .show a8.2.2 x hx y q
    .obtain ⟨j,hj,lj⟩:=mx hx;have h1:=k2 j hj;rw[y4 (rk:=rk) lj]at h1;have h2:=a4 y (qE0 _ q);simp [bey]at h1;omega
   .have b0:∀z,z∈rn_ arr.toList sa k++rn_ arr.toList (sa+k) (na-k)->rk z<=rk y:=λz hz=>by
     obtain ⟨j,hj,lj⟩:=mx hy;have h1:=l3 (l+j) (qE4 _ _) (qL6 hj);rw[<- qJ6,y4 (rk:=rk) lj]at h1;have h2:=xlast z hz;simp [bey]at h1;omega
    rcases qC0.mp hx with q|q
    .show b0 x (qE0 _ q)
    .rcases hm x q with r|r
     .show b0 x (qE1 _ r)
     .show a9.2.2 x r y hy
 by_cases c3:na-k<=l
 .rw [qA2 c3]
  refine La (qq hc rfl i1 i2 (by rw[ex];show a8.2.1) (by rw[ey];show a9.1) ox ox p1 p2 λI g hg=>?_);refine La (wpS_modify (La (wpS_get (Lb (fin I g hg)))))
 .rw [qA4 c3]
  refine La (qr hc rfl i1 i2 (by rw[ex];show a8.2.1) (by rw[ey];show a9.1) ox ox p1 p2 λI g hg=>?_);refine La (wpS_modify (La (wpS_get (Lb (fin I g hg)))))
section
variable {prog:Program}{w:World}{A:Around}{E:Zv}{s:Shared}{a₀:Array Keyed}{κ:SortKind}{rk:Keyed->Int}{arr:Array Keyed}{pd:Array (Nat×Nat×Nat)}{g lo:Nat}
def nD (I:j<=xs.size)(k:Nat):kk rk (mirror xs i j ((j-i)/2)) k=if i<=k/\k<j then kk rk xs (i+j-1-k) else kk rk xs k:=by
 have e:=getElem?_mirror_all (i:=i) I k
 split
 .rename_i h;rw[qA2 h]at e;show io e
 .rename_i h;rw[qA4 h]at e;show io e
def jy (hj:j<=xs.size)(I:∀k,i<=k->k<j->kk rk xs k=kk rk xs (j-1))(k:Nat):kk rk (mirror xs i j ((j-i)/2)) k=kk rk xs k:=by
 rw[nD hj];by_cases c:i<=k/\k<j
 .rw[qA2 c,I _ (FZ c).1 (FZ c).2,I k c.1 c.2]
 .rw[qA4 c]
def Gc (hs:src<xs.size)(hd:d<=src)(k:Nat):kk rk (bubble xs src d) k=if k=src-d then kk rk xs src else if src-d<k/\k<=src then kk rk xs (k-1) else kk rk xs k:=by
 have e:=getElem?_bubble hs d hd k
 split
 .rename_i h;rw[qA2 h]at e;show io e
 .rename_i h
  rw[qA4 h]at e
  split
  .rename_i h2;rw[qA2 h2]at e;show io e
  .rename_i h2;rw[qA4 h2]at e;show io e
structure Rl (lo:Nat) (arr arr':Array Keyed):Prop where
 perm:arr'.toList.Perm arr.toList
 same:∀k,k<lo->arr'[k]?=arr[k]?
def Rl.refl:Rl lo arr arr:=⟨.refl _,λ_ _=>rfl⟩
def Rl.trans (h1:Rl lo a b)(I:Rl lo b c):Rl lo a c:=⟨I.perm.trans h1.perm,λk hk=>(I.same k hk).trans (h1.same k hk)⟩
def Rl.size (h:Rl lo a b):b.size=a.size:=by
 have:=h.perm.length_eq
 simpa using this
def Rl.mem (h:Rl lo a b)(I:∀x∈a.toList,x∈a₀):∀x∈b.toList,x∈a₀:=λx hx=>I x (h.perm.mem_iff.mp hx)
def Rl.mir (hi:lo<=i)(I:j<=arr.size):Rl lo arr (mirror arr i j ((j-i)/2)):=⟨qX4.mp (mirror_perm _ _ _ _),λk hk=>by
 rw[getElem?_mirror_all I,qA4 ox]⟩
def Rl.bub (hs:src<arr.size)(hd:lo+d<=src):Rl lo arr (bubble arr src d):=⟨qX4.mp (bubble_perm _ _ _),λk hk=>by
 rw[getElem?_bubble hs d ox,qA4 ox,qA4 ox]⟩
def upA (rk:Keyed->Int)(xs:Array Keyed)(lo m:Nat):Prop:=∀i j,i<=j->j<m->kk rk xs (lo+i)<=kk rk xs (lo+j)
def dnA (rk:Keyed->Int)(xs:Array Keyed)(lo m:Nat):Prop:=∀i j,i<=j->j<m->kk rk xs (lo+j)<=kk rk xs (lo+i)
def X7 (hc:Cmp prog w A s κ rk a₀)(I:∀x∈arr.toList,x∈a₀)(hi:i<arr.size)(hj:j<arr.size)(h:Q (some (decide (kk rk arr i<kk rk arr j))) (sS κ arr pd g)):wpS (model prog w) A E s (ltAt' i j) Q (sS κ arr pd g):=by
 obtain ⟨x,hx,ex,lx⟩:=aq hi;obtain ⟨y,hy,ey,ly⟩:=aq hj;rw[aG ex,aG ey]at h;rw[ltAt'_eq];show La (wpS_get (La (q5 ex (La (q5 ey (gD hc (I x hx) (I y hy) rfl h))))))
def sD (h:upA rk arr lo m)(hm:¬ kk rk arr (lo+m)<kk rk arr (lo+m-1))(h0:0<m):upA rk arr lo (m+1):=λi j a3 hj=>by
 by_cases a5:j<m
 .show h i j a3 a5
 .have a4:j=m:=ox;subst a4;by_cases I:i=j
  .subst I;show qH9 _
  .have:=h i (j-1) (qM0 (qW9 a3 I)) (qJ5 h0 ZU)
   rw[sb5 h0]at this;show Int.le_trans this (Int.not_lt.mp hm)
def wc (hc:Cmp prog w A s κ rk a₀)(b5:∀x∈arr.toList,x∈a₀)(h1:1<=nrem)(hz:lo+nrem<=arr.size)(h:∀m arr',Rl lo arr arr'->1<=m->m<=nrem->upA rk arr' lo m->Q (some m) (sS κ arr' pd g)):wpS (model prog w) A E s (countRun' lo nrem) Q (sS κ arr pd g):=by
 refine La (wpS_mono (wpS_forRange (λx c a3=>a3=sS κ arr pd g/\c=(none,x)/\upA rk arr lo x)
  (Q:=λc a3=>a3=sS κ arr pd g/\∃n,c=(none,n)/\1<=n/\n<=nrem/\upA rk arr lo n/\(n=nrem\/kk rk arr (lo+n)<kk rk arr (lo+n-1))) ?step ?fin ⟨rfl,rfl,λi j a b=>by rw[show i=j by omega];show qH9 _⟩) ?post)
 case fin=>
  rintro c a3 ⟨rfl,rfl,hu⟩;rw[show max 1 nrem=nrem by omega]at hu ⊢;show ⟨rfl,nrem,rfl,h1,qB2 _,hu,.inl rfl⟩
 case step=>
  rintro x c a3 b4 hx ⟨rfl,rfl,hu⟩;dsimp only;refine La (X7 hc b5 (qB3 (Nat.add_lt_add_left hx lo) hz) (sb6 b4 (qA8 (qF2 (qJ2 hx) lo) hz)) ?_);refine U8 (λq=>?_) λq=>?_
  .skip
   show Lb ⟨rfl,x,rfl,b4,ox,hu,.inr q⟩
  .skip
   show Lb ⟨rfl,rfl,sD hu q ox⟩
 case post=>
  intro c a3 hI;refine cpsA (c:=c) (t:=a3) hI λn jn=>?_;have n1:=jn.1;have n2:=jn.2.1;have hu:=jn.2.2.1;have cj:=jn.2.2.2;clear hI jn c a3;dsimp only;refine L7 (λcn=>Lb (h n arr .refl n1 n2 hu)) λcn=>?_;have c0:=cj.resolve_left cn;refine se (λa3=>∃a7,a3=sS κ a7 pd g/\Rl lo arr a7/\dnA rk a7 lo (n+1)) ?key (λcg key=>?pos) (λcg=>⟨arr,rfl,.refl,?neg⟩)
  case pos=>
   refine La (X7 hc b5 ox ox ?_);refine U8 (λq=>Lb (h n arr .refl n1 n2 hu)) λq=>?_;have ab:∀k,lo<=k->k<lo+n->kk rk arr k=kk rk arr (lo+n-1):=λk a b=>by
    have a1:=hu 0 (k-lo) (qC7 _) (qM2 a b);have a2:=hu (k-lo) (n-1) (qM0 (qM2 a b)) (qJ5 n1 ZU);rw[qE6 a]at a1 a2;rw[sb5 n1]at a2;rw[qP7]at a1;omega
   refine La (wpS_modify ?_);have kE:=jy (rk:=rk) (xs:=arr) (i:=lo) (j:=lo+n) ox ab;refine key _ ⟨mirror arr lo (lo+n) ((lo+n-lo)/2),rfl,Rl.mir (qB2 _) ox,λi j a6 hj=>?_⟩;rw[kE,kE];by_cases cm:j<n
   .rw[ab (lo+i) ox ox,ab (lo+j) ox ox];show qH9 _
   .have b0:j=n:=ox;subst b0;by_cases a9:i=j
    .subst a9;show qH9 _
    .rw[ab (lo+i) ox ox];show Int.le_of_lt c0
  case neg=>
   intro i j a6 hj;by_cases a9:i=j
   .subst a9;show qH9 _
   .have c4:i=0:=ox;have c5:j=n:=ox;subst c4;subst c5;rw[show lo+j-1=lo+0 by omega]at c0;show Int.le_of_lt c0
  intro a3 hI;refine HQ (t:=a3) hI λa7 jn=>?_;have r1:=jn.1;have d1:=jn.2;clear hI jn a3;refine La (wpS_lift (qS2 ⟨rfl,?_⟩));have z1:a7.size=arr.size:=r1.size;refine La (wpS_mono (wpS_forRange (λx c a3=>∃I a4,a3=sS κ I pd g/\c=(none,x,a4)/\Rl lo arr I/\dnA rk I lo x/\a4+1<=x/\∀i,x-(a4+1)<=i->i<x->kk rk I (lo+i)=kk rk I (lo+x-1))
   (Q:=λc a3=>∃I m a4,a3=sS κ I pd g/\c=(none,m,a4)/\n+1<=m/\m<=nrem/\Rl lo arr I/\dnA rk I lo m/\a4+1<=m/\∀i,m-(a4+1)<=i->i<m->kk rk I (lo+i)=kk rk I (lo+m-1)) ?dstep ?dfin ⟨a7,0,rfl,rfl,r1,d1,ox,λi a b=>by congr 1;omega⟩) ?dpost)
  case dfin=>
   rintro c a3 ⟨I,a4,rfl,rfl,r2,d2,q2,e2⟩;rw[show max (n+1) nrem=nrem by omega]at d2 q2 e2 ⊢;show ⟨I,nrem,a4,rfl,rfl,ox,qB2 _,r2,d2,q2,e2⟩
  case dstep=>
   intro x c a3 b4 hx hI;refine cpsC (c:=c) (t:=a3) hI λI a4 jn=>?_;have r2:=jn.1;have d2:=jn.2.1;have q2:=jn.2.2.1;have e2:=jn.2.2.2;clear hI jn c a3;dsimp only;have z2:=r2.size;have bb:=r2.mem b5;have c1:∀k,lo+x-(a4+1)<=k->k<lo+x->kk rk I k=kk rk I (lo+x-1):=λk a b=>by
    have:=e2 (k-lo) (sb3 q2 a) (qM2 (qA8 (by rw[qI9 q2];show qE4 _ _) a) b)
    rw[sb4 q2 a]at this;show this
   refine La (X7 hc bb ox ox ?_);refine U8 (λq=>?_) λq=>?_
   .skip
    have b3:∀xs:Array Keyed,(∀k,kk rk xs k=kk rk I k)->dnA rk xs lo (x+1):=by
     intro xs hk i j a6 hj;rw[hk,hk];by_cases bq:j<x
     .show d2 i j a6 bq
     .have b0:j=x:=ox;subst b0;by_cases a9:i=j
      .subst a9;show qH9 _
      .have:=d2 i (j-1) ox ox
       rw[sb5 ox]at this;omega
    by_cases bc:a4>0
    .rw [qA2 bc]
     refine La (wpS_modify (Lb ⟨mirror I (lo+x-(a4+1)) (lo+x) ((lo+x-(lo+x-(a4+1)))/2),0,rfl,rfl,r2.trans (Rl.mir (arr:=I) ox ox),b3 _ (jy (xs:=I) ox c1),ox,λi a b=>by congr 1;omega⟩))
    .rw [qA4 bc]
     show Lb ⟨_,0,rfl,rfl,r2,b3 _ (λ_=>rfl),ox,λi a b=>by congr 1;omega⟩
   .skip
    refine La (X7 hc bb ox ox ?_);refine U8 (λq'=>?_) λq'=>?_
    .skip
     show Lb ⟨I,x,a4,rfl,rfl,b4,ox,r2,d2,q2,e2⟩
    .skip
     have c2:kk rk I (lo+x)=kk rk I (lo+x-1):=ox;refine Lb ⟨I,a4+1,rfl,rfl,r2,λi j a6 hj=>?_,ox,λi a b=>?_⟩
     .by_cases bq:j<x
      .show d2 i j a6 bq
      .have b0:j=x:=ox;subst b0;by_cases a9:i=j
       .subst a9;show qH9 _
       .have:=d2 i (j-1) ox ox
        rw[sb5 ox]at this;omega
     .rw [show lo+(x+1)-1=lo+x by omega]
      by_cases ck:i=x
      .subst ck;rfl
      .rw[c2];show e2 i ox ox
  case dpost=>
   intro c a3 hI;refine cpsD (c:=c) (t:=a3) hI λI m a4 jn=>?_;have m1:=jn.1;have m2:=jn.2.1;have r2:=jn.2.2.1;have d2:=jn.2.2.2.1;have q2:=jn.2.2.2.2.1;have e2:=jn.2.2.2.2.2;clear hI jn c a3;dsimp only;have z2:=r2.size;have c1:∀k,lo+m-(a4+1)<=k->k<lo+m->kk rk I k=kk rk I (lo+m-1):=λk a b=>by
    have:=e2 (k-lo) (sb3 q2 a) (qM2 (qA8 (by rw[qI9 q2];show qE4 _ _) a) b)
    rw[sb4 q2 a]at this;show this
   refine se (λa3=>∃a5,a3=sS κ a5 pd g/\Rl lo arr a5/\dnA rk a5 lo m) ?key2 (λ_ key=>?pos2) (λ_=>⟨I,rfl,r2,d2⟩)
   case pos2=>
    refine La (wpS_modify ?_);have kE:=jy (rk:=rk) (xs:=I) (i:=lo+m-(a4+1)) (j:=lo+m) ox c1;show key _ ⟨mirror I (lo+m-(a4+1)) (lo+m) ((lo+m-(lo+m-(a4+1)))/2),rfl,r2.trans (Rl.mir (arr:=I) ox ox),λi j a6 hj=>by rw[kE,kE];show d2 i j a6 hj⟩
   intro a3 hI;refine HQ (t:=a3) hI λa5 jn=>?_;have r3:=jn.1;have d3:=jn.2;clear hI jn a3;have z3:=r3.size;refine La (wpS_modify ?_);have r4:Rl lo arr (mirror a5 lo (lo+m) ((lo+m-lo)/2)):=r3.trans (Rl.mir (qB2 _) ox);have u4:upA rk (mirror a5 lo (lo+m) ((lo+m-lo)/2)) lo m:=λi j a6 hj=>by
    rw[nD ox,nD ox,qA2 ox,qA2 ox]
    have:=d3 (m-1-j) (m-1-i) (qV6 a6 _) (qD7 (qI3 _ _) (qJ5 (qD7 (qC7 j) hj) ZU))
    rw[mr1 (qD7 a6 hj),mr1 hj];show this
   change wpS _ _ _ _ _ _ (sS κ (mirror a5 lo (lo+m) ((lo+m-lo)/2)) pd g);generalize mirror a5 lo (lo+m) ((lo+m-lo)/2)=a8 at r4 u4 ⊢
   have z4:=r4.size;have c3:=r4.mem b5;refine La (wpS_mono (wpS_forRange (λx c a3=>a3=sS κ a8 pd g/\c=(none,x)/\upA rk a8 lo x)
    (Q:=λc a3=>a3=sS κ a8 pd g/\∃n,c=(none,n)/\1<=n/\n<=nrem/\upA rk a8 lo n) ?ustep ?ufin ⟨rfl,rfl,u4⟩) ?upost)
   case ufin=>
    rintro c a3 ⟨rfl,rfl,hu⟩;rw[show max m nrem=nrem by omega]at hu ⊢;show ⟨rfl,nrem,rfl,h1,qB2 _,hu⟩
   case ustep=>
    rintro x c a3 b4 hx ⟨rfl,rfl,hu⟩;dsimp only;refine La (X7 hc c3 ox ox ?_);refine U8 (λq=>?_) λq=>?_
    .skip
     show Lb ⟨rfl,x,rfl,ox,ox,hu⟩
    .skip
     show Lb ⟨rfl,rfl,sD hu q ox⟩
   case upost=>
    rintro c a3 ⟨rfl,k,rfl,k1,k2,hu⟩;show Lb (h k a8 r4 k1 k2 hu)
def Dp (hc:Cmp prog w A s κ rk a₀)(b5:∀x∈arr.toList,x∈a₀)(hok:ok<=n)(hz:lo+n<=arr.size)(hu:upA rk arr lo ok)(h:∀arr',Rl lo arr arr'->upA rk arr' lo n->Q true (sS κ arr' pd g)):wpS (model prog w) A E s (binarySort' lo n ok) Q (sS κ arr pd g):=by
 refine La (wpS_mono (wpS_forRange (λk c a3=>∃I,a3=sS κ I pd g/\c=(none,())/\Rl lo arr I/\upA rk I lo (min k n))
  (Q:=λc a3=>∃I,a3=sS κ I pd g/\c=(none,())/\Rl lo arr I/\upA rk I lo n) ?step ?fin ⟨arr,rfl,rfl,.refl,?init⟩) ?post)
 case init=>
  intro i j b4 hj;by_cases h1:ok=0
  .rw[show i=j by omega];show qH9 _
  .show hu i j b4 ox
 case post=>
  rintro c a3 ⟨I,rfl,rfl,r1,u1⟩;show Lb (h I r1 u1)
 case fin=>
  rintro c a3 ⟨I,rfl,rfl,r1,u1⟩;rw[show min (max (max ok 1) n) n=n by omega]at u1;show ⟨I,rfl,rfl,r1,u1⟩
 case step=>
  intro k c a3 bc hk hI;refine JW (c:=c) (t:=a3) hI λI jn=>?_;have r1:=jn.1;have u1:=jn.2;clear hI jn c a3;rw[show min k n=k by omega]at u1;have z1:=r1.size;have b0:=r1.mem b5;dsimp only;refine La (wpS_mono (wpS_forRange (λx c a3=>a3=sS κ I pd g/\∃l r,c=(none,l,r)/\l<=r/\r<=k/\r-l<=k-x/\(∀i,i<l->kk rk I (lo+i)<=kk rk I (lo+k))/\(∀i,r<=i->i<k->kk rk I (lo+k)<kk rk I (lo+i)))
   (Q:=λc a3=>a3=sS κ I pd g/\∃l r,c=(none,l,r)/\l<=k/\(∀i,i<l->kk rk I (lo+i)<=kk rk I (lo+k))/\(∀i,l<=i->i<k->kk rk I (lo+k)<kk rk I (lo+i))) ?istep ?ifin ⟨rfl,0,k,rfl,ox,ox,ox,λi hi=>ox,λi h1 h2=>ox⟩) ?ipost)
  case ifin=>
   rintro c a3 ⟨rfl,l,r,rfl,a9,a6,hm,a7,a8⟩
   have:l=r:=ox
   subst this;show ⟨rfl,l,l,rfl,a6,a7,a8⟩
  case istep=>
   intro x c a3 _ hx hI;refine JX (c:=c) (t:=a3) hI λl r jn=>?_;have a9:=jn.1;have a6:=jn.2.1;have hm:=jn.2.2.1;have a7:=jn.2.2.2.1;have a8:=jn.2.2.2.2;clear hI jn c a3;dsimp only;by_cases a5:l≥r
   .rw [qA2 a5]
    have:l=r:=ox
    subst this;show Lb ⟨rfl,l,l,rfl,a6,a7,a8⟩
   .rw [qA4 a5]
    refine La (X7 hc b0 ox ox ?_);refine U8 (λa4=>?_) λa4=>?_
    .skip
     refine Lb ⟨rfl,l,(l+r)/2,rfl,qY a9,qJ2 (qB3 (lA a5) a6),DW (qY a9) (lA a5) hm,a7,λi h1 h2=>?_⟩;show Int.lt_of_lt_of_le a4 (u1 _ _ h1 h2)
    .skip
     refine Lb ⟨rfl,(l+r)/2+1,r,rfl,lA a5,a6,DV (qY a9) hm,λi h1=>?_,a8⟩;show Int.le_trans (u1 i ((l+r)/2) (qM1 h1) (qB3 (lA a5) a6)) (Int.not_lt.mp a4)
  case ipost=>
   rintro c a3 ⟨rfl,l,r,rfl,b3,a7,a8⟩;refine La (wpS_modify (Lb ⟨bubble I (lo+k) (lo+k-(lo+l)),rfl,rfl,r1.trans (Rl.bub (arr:=I) ox ox),?_⟩));rw[show min (k+1) n=k+1 by omega];have ab:lo+l<=lo+k:=qF2 b3 lo;have bb:lo+k<I.size:=ox;refine ID (f:=λi=>kk rk I (lo+i)) b3 (λi=>?_) u1 a7 a8
   change kk rk _ (lo+i)=_;rw[Gc bb (qI3 _ _),Nat.sub_sub_self ab];by_cases c1:i=l
   .rw[qA2 (by rw[c1]),qA2 c1]
   .rw [qA4 λz=>c1 (Nat.add_left_cancel z),qA4 c1]
    by_cases c2:l<i/\i<=k
    .rw[qA2 ⟨Nat.add_lt_add_left c2.1 lo,qF2 c2.2 lo⟩,qA2 c2,qI9 (qD7 (qC7 l) c2.1)]
    .rw[qA4 λz=>c2 ⟨Nat.lt_of_add_lt_add_left z.1,Nat.le_of_add_le_add_left z.2⟩,qA4 c2]
end
def Chn (rk:Keyed->Int)(L:List Keyed):List (Nat×Nat×Nat)->Nat->Nat->Prop
 | [],a,b=>a=b
 |r::rs,a,b=>r.1=a/\0<r.2.1/\upL rk (rn_ L a r.2.1)/\Chn rk L rs (a+r.2.1) b
def eg:∀{rs:List (Nat×Nat×Nat)}{a b:Nat},Chn rk L rs a b->a+rs.length<=b
 | [],a,b,h=>by have h:a=b:=h;simp [h]
 | r::rs,a,b,h=>by
  have:=eg h.2.2.2
  have:=h.2.1
  rw[qD4];omega
def chn_app:∀{r1 r2:List (Nat×Nat×Nat)}{a c:Nat},Chn rk L (r1++r2) a c↔∃b,Chn rk L r1 a b/\Chn rk L r2 b c
 | [],r2,a,c=>⟨λh=>⟨a,rfl,h⟩,λI=>by obtain ⟨b,h1,h2⟩:=I;have h1:a=b:=h1;subst h1;show h2⟩
 | r::r1,r2,a,c=>by
  constructor
  .rintro ⟨h1,h2,h3,h4⟩;obtain ⟨b,q1,q2⟩:=chn_app.mp h4;show ⟨b,⟨h1,h2,h3,q1⟩,q2⟩
  .rintro ⟨b,⟨h1,h2,h3,h4⟩,q2⟩;show ⟨h1,h2,h3,chn_app.mpr ⟨b,h4,q2⟩⟩
def iG:∀{rs:List (Nat×Nat×Nat)}{a b:Nat},(∀i n,a<=i->i+n<=b->rn_ L' i n=rn_ L i n)->Chn rk L rs a b->Chn rk L' rs a b
 | [],a,b,_,h=>h
 | r::rs,a,b,he,h=>by
  have:=eg h.2.2.2
  refine ⟨h.1,h.2.1,?_,iG (λi n h1 I=>he i n ox I) h.2.2.2⟩;rw[he a r.2.1 (qB2 _) ox];show h.2.2.1
def qg:∀{rs:List (Nat×Nat×Nat)}{k a b:Nat},Chn rk L rs a b->Chn rk L (rs.modify k λr=>(r.1,r.2.1,pw)) a b
 | [],k,a,b,h=>by rw[List.modify_nil];show h
 |r::rs,0,a,b,h=>h
 |r::rs,k+1,a,b,h=>by rw[List.modify_succ_cons];show ⟨h.1,h.2.1,h.2.2.1,qg h.2.2.2⟩
def FF {pd:Array (Nat×Nat×Nat)}(e1:pd[i]?=some x)(e2:pd[i+1]?=some y):∃r1 r2,pd.toList=r1++x::y::r2/\((pd.setIfInBounds i z).eraseIdxIfInBounds (i+1)).toList=r1++z::r2:=by
 rw[<- qO7]at e1 e2;have hi:=(qA6.mp e2).1;have hsz:i+1<pd.size:=by simpa using hi
 refine ⟨pd.toList.take i,pd.toList.drop (i+2),?_,?_⟩
 .have t1:pd.toList.drop i=x::pd.toList.drop (i+1):=by
   obtain ⟨h1,I⟩:=qA6.mp e1;rw[qK1 h1,I]
  have t2:pd.toList.drop (i+1)=y::pd.toList.drop (i+2):=by
   obtain ⟨h1,I⟩:=qA6.mp e2;rw[qK1 h1,I]
  rw[<- t2,<- t1,qJ9]
 .rw [Array.eraseIdxIfInBounds,dif_pos (by simpa using hsz),Array.toList_eraseIdx,qS9,List.eraseIdx_eq_take_drop_succ,List.drop_set_of_lt ox]
  have:(pd.toList.set i z).take (i+1)=pd.toList.take i ++ [z]:=by
   rw[qK0,List.take_set_of_le (qB2 _),qK9 ox];rfl
  rw[this];simp
def Ex (h:M.length=n):rn_ (P++M++S) P.length n=M:=by
 unfold rn_;rw[qF7,List.drop_left,<- h,List.take_left]
def yO {pd:Array (Nat×Nat×Nat)}{lo:Nat}(hc:Cmp prog w A s κ rk a₀)(a8:∀x∈arr.toList,x∈a₀)(C:Chn rk arr.toList pd.toList 0 lo)(b0:lo<=arr.size)(hi:i+1<pd.size)(h:∀arr' a6 g',arr'.toList.Perm arr.toList->arr'.toList.drop lo=arr.toList.drop lo->a6.size+1=pd.size->Chn rk arr'.toList a6.toList 0 lo->Q true (sS κ arr' a6 g')):wpS (model prog w) A E s (mergeAt' i) Q (sS κ arr pd g):=by
 obtain ⟨⟨sa,na,pw⟩,ex⟩:∃x,pd[i]?=some x:=⟨pd[i],ZW⟩;obtain ⟨⟨sb,nb,ab⟩,ey⟩:∃y,pd[i+1]?=some y:=⟨pd[i+1],ZW⟩;obtain ⟨r1,r2,el,em⟩:=FF (z:=(sa,na+nb,pw)) ex ey;rw[el]at C;obtain ⟨b1,C1,a4,a7,u1,I,a5,u2,C2⟩:=chn_app.mp C;have a4:sa=b1:=a4;have I:sb=b1+na:=I;have a7:0<na:=a7;have a5:0<nb:=a5;subst a4;have a3:=eg C2;have a9:=eg C1;refine qu hc a8 ex ey I (by change _<=arr.size;simp at a3;omega) a7 a5 u1 (by rw[I];show u2) λM g' hg=>?_;have hM:M.length=na+nb:=by
  rw[hg.1.length_eq,qC4,qG1,qG1,qH6,qH6,qE9];simp at a3;omega
 have ct:=HM (L:=arr.toList) (i:=sa) (n:=na) (m:=nb);rw[<- I]at ct;have zt:(arr.toList.take sa).length=sa:=by rw[qG1,qE9];simp at a3;omega
 have dr:∀k,sb+nb<=k->(arr.toList.take sa++M++arr.toList.drop (sb+nb)).drop k=arr.toList.drop k:=λk hk=>by
  rw[List.drop_append,qF3 (by rw[qC4,zt,hM];omega),qP3,qC4,zt,hM,xB4];congr 1;omega
 have tk:∀i n,i+n<=sa->rn_ (arr.toList.take sa++M++arr.toList.drop (sb+nb)) i n=rn_ arr.toList i n:=λi n hk=>by
  unfold rn_;rw[qF7,List.take_drop,List.take_drop,List.take_append_of_le_length ox,List.take_take,qP2 ox]
 refine h _ _ g' ?_ ?_ ?_ ?_
 .change (arr.toList.take sa++M++arr.toList.drop (sb+nb)).Perm arr.toList;refine List.Perm.trans (List.Perm.append_right _ (qU5 _ hg.1)) ?_;rw[<- ct]
 .show dr lo (by simp at a3;omega)
 .have:=congrArg List.length em
  have q:=congrArg List.length el;rw[qE9]at this q;rw[this,q];simp;omega
 .rw [em]
  refine chn_app.mpr ⟨sa,iG (λi n h1 h2=>tk i n h2) C1,rfl,by change 0<na+nb;omega,?_,?_⟩
  .change upL rk (rn_ (arr.toList.take sa++M++arr.toList.drop (sb+nb)) sa (na+nb))
   have:=Ex (P:=arr.toList.take sa) (S:=arr.toList.drop (sb+nb)) hM
   rw[zt]at this;rw[this];show hg.2
  .change Chn rk _ r2 (sa+(na+nb)) lo;rw[<- qJ6];refine iG (λi n h1 h2=>?_) C2
   change rn_ (arr.toList.take sa++M++arr.toList.drop (sb+nb)) i n=_;unfold rn_;rw[dr i ox]
def oq (hc:Cmp prog w A s κ rk a₀)(h2:2<=a₀.size)(h:∀I,(arrOf I).toList.Perm a₀.toList->failedOf I=none->upL rk (arrOf I).toList->Q () I):wpS (model prog w) A E s sortRuns' Q (sS κ a₀ #[] 7):=by
 refine La (wpS_get ?_);dsimp only;generalize (sortPriv% PySem.Builtin.minRun) a₀.size a₀.size 0=mr
 have same:∀{L L':List Keyed}{i n:Nat},L'.drop i=L.drop i->rn_ L' i n=rn_ L i n:=λe=>by unfold rn_;rw[e]
 refine La (wpS_mono (wpS_forRange (λx c I=>∃arr pd g lo,I=sS κ arr pd g/\c=(none,lo)/\arr.toList.Perm a₀.toList/\Chn rk arr.toList pd.toList 0 lo/\lo<=a₀.size/\x<=lo)
  (Q:=λc I=>∃arr pd g lo,I=sS κ arr pd g/\c=(none,lo)/\arr.toList.Perm a₀.toList/\Chn rk arr.toList pd.toList 0 a₀.size) ?step ?fin ⟨a₀,#[],7,0,rfl,rfl,.refl _,rfl,ox,ox⟩) ?post)
 case fin=>
  rintro c I ⟨arr,pd,g,lo,rfl,rfl,hp,C,h1,h2⟩
  have:lo=a₀.size:=ox
  subst this;show ⟨arr,pd,g,_,rfl,rfl,hp,C⟩
 case step=>
  rintro x c I _ hx ⟨arr,pd,g,lo,rfl,rfl,hp,C,h1,h2⟩;dsimp only;by_cases cl:lo≥a₀.size
  .rw [qA2 cl]
   have:lo=a₀.size:=ox
   subst this;show Lb ⟨arr,pd,g,_,rfl,rfl,hp,C⟩
  rw[qA4 cl];have zz:arr.size=a₀.size:=by have:=hp.length_eq;simpa using this
  have bc:∀x∈arr.toList,x∈a₀:=λx hx=>by have:=hp.mem_iff.mp hx;simpa using this
  refine La (wc hc bc ox ox λn ab r1 n1 n2 u1=>?_);dsimp only;have key:∀(n:Nat) (a3:Array Keyed),Rl lo arr a3->0<n->lo+n<=a₀.size->upA rk a3 lo n->a3.toList.Perm a₀.toList/\Chn rk a3.toList pd.toList 0 lo/\upL rk (rn_ a3.toList lo n):=λn a3 r2 hn hz u=>by
   refine ⟨r2.perm.trans hp,iG (λi m _ hm=>?_) C,?_⟩
   .unfold rn_;apply qO3;intro k;by_cases ck:k<m
    .rw[qI5 ck,qI5 ck,qG9,qG9,qO7,qO7,r2.same _ ox]
    .rw[qT0 ox,qT0 ox]
   .unfold upL;rw[qF6];intro i j hi hj cg;have z2:=r2.size;simp at hi hj
    have:=u i j ox ox
    rw[y4 (rk:=rk) (x:=(rn_ a3.toList lo n)[i]) (by rw[<- eJ (n:=n) ox];show qA7 _),y4 (rk:=rk) (x:=(rn_ a3.toList lo n)[j]) (by rw[<- eJ (n:=n) ox];show qA7 _)]at this;show this
  by_cases cm:n<mr
  case' pos=>
   rw[qA2 cm];refine La (wpS_lift (qS2 ⟨rfl,?_⟩));have z1:=r1.size;have fz:lo+min (a₀.size-lo) mr<=a₀.size:=qA8 (qF2 (qL4 _ _) lo) (qL1 (qE6 h1));have fp:0<min (a₀.size-lo) mr:=Nat.lt_min.mpr ⟨qX7 (qQ3 cl),qD7 (qC7 n) cm⟩;refine La (Dp hc (r1.mem bc) (n:=min (a₀.size-lo) mr) (Nat.le_min.mpr ⟨n2,qJ2 cm⟩) (by rw[z1,zz];show fz) u1 λa3 r2 u2=>?_);have K:=key _ a3 (r1.trans r2) fp fz u2;have f0:0<min (a₀.size-lo) mr/\lo+min (a₀.size-lo) mr<=a₀.size:=⟨fp,fz⟩;clear fp fz;rw[qA4 ZW];generalize min (a₀.size-lo) mr=m at K f0 ⊢
  case' neg=>
   rw[qA4 cm];have f0:0<n/\lo+n<=a₀.size:=⟨n1,qA8 (qF2 n2 lo) (qL1 (qE6 h1))⟩;have K:=key n ab r1 f0.1 f0.2 u1;obtain ⟨a3,ea⟩:∃o,o=ab:=⟨_,rfl⟩;obtain ⟨m,em⟩:∃o,o=n:=⟨_,rfl⟩;rw[<- ea,<- em]at K;rw[<- ea,<- em];rw[<- em]at f0
  all_goals
   obtain ⟨bb,C2,v2⟩:=K;refine La (wpS_get ?_);dsimp only;cases hb:pd.back? with
   | none=>
    have pe:pd=#[]:=Array.back?_eq_none_iff.mp hb;subst pe;refine La (wpS_modify (Lb ⟨a3,#[].push (lo,m,0),g,lo+m,rfl,rfl,bb,?_,f0.2,ox⟩));have C2:0=lo:=C2;subst C2;show ⟨rfl,f0.1,v2,rfl⟩
   | some r=>
    obtain ⟨s1,n1,p0⟩:=r;dsimp only;have a9:∀{a:Array Keyed},a.toList.Perm a₀.toList->a.size=a₀.size:=λq=>by have:=q.length_eq;simpa using this
    have a7:∀{a:Array Keyed},a.toList.Perm a₀.toList->∀x∈a.toList,x∈a₀:=λq x hx=>by have:=q.mem_iff.mp hx;simpa using this
    refine La (wpS_mono (wpS_forRange (λx c I=>∃arr pd g,I=sS κ arr pd g/\c=(none,())/\arr.toList.Perm a₀.toList/\Chn rk arr.toList pd.toList 0 lo/\upL rk (rn_ arr.toList lo m))
     (Q:=λc I=>∃arr pd g,I=sS κ arr pd g/\c=(none,())/\arr.toList.Perm a₀.toList/\Chn rk arr.toList pd.toList 0 lo/\upL rk (rn_ arr.toList lo m)) ?mstep ?mfin ⟨a3,pd,g,rfl,rfl,bb,C2,v2⟩) ?mpost)
    case mfin=>
     rintro c I q;show q
    case mstep=>
     rintro y c I _ hy ⟨a6,a4,g3,rfl,rfl,a5,C3,v3⟩;refine La (wpS_get ?_);dsimp only;by_cases cs:a4.size>1
     .rw [qA2 cs]
      obtain ⟨⟨q1,q2,c0⟩,eo⟩:∃r,a4[a4.size-2]?=some r:=⟨a4[a4.size-2],ZW⟩;rw[eo];dsimp only
      split
      .show Lb ⟨a6,a4,g3,rfl,rfl,a5,C3,v3⟩
      .refine La (yO hc (a7 a5) C3 (by rw[a9 a5];omega) ox λa8 b3 g4 b0 b5 c5 b4=>?_);rw[qA4 ZW];show Lb ⟨a8,b3,g4,rfl,rfl,b0.trans a5,b4,by rw[same b5];show v3⟩
     .rw [qA4 cs]
      show Lb ⟨a6,a4,g3,rfl,rfl,a5,C3,v3⟩
    case mpost=>
     rintro c I ⟨a6,a4,g3,rfl,rfl,a5,C3,v3⟩;dsimp only;refine La (wpS_modify (La (wpS_modify (Lb ⟨a6,_,g3,lo+m,rfl,rfl,a5,?_,f0.2,ox⟩))));rw[qK6,Array.toList_modify];show chn_app.mpr ⟨lo,qg C3,rfl,f0.1,v3,rfl⟩
 case post=>
  rintro c I ⟨arr,pd,g,lo,rfl,rfl,hp,C⟩;dsimp only;have a9:∀{a:Array Keyed},a.toList.Perm a₀.toList->a.size=a₀.size:=λq=>by have:=q.length_eq;simpa using this
  have a7:∀{a:Array Keyed},a.toList.Perm a₀.toList->∀x∈a.toList,x∈a₀:=λq x hx=>by have:=q.mem_iff.mp hx;simpa using this
  have bq:=eg C;rw[qE9]at bq;refine La (wpS_mono (wpS_forRange (λx c I=>∃arr pd g,I=sS κ arr pd g/\c=(none,())/\arr.toList.Perm a₀.toList/\Chn rk arr.toList pd.toList 0 a₀.size/\(pd.size<=1\/pd.size+x<=a₀.size))
   (Q:=λc I=>∃arr pd g,I=sS κ arr pd g/\c=(none,())/\arr.toList.Perm a₀.toList/\Chn rk arr.toList pd.toList 0 a₀.size/\pd.size<=1) ?lstep ?lfin ⟨arr,pd,g,rfl,rfl,hp,C,.inr ox⟩) ?lpost)
  case lfin=>
   rintro c I ⟨arr,pd,g,rfl,rfl,hp,C,hs⟩;show ⟨arr,pd,g,rfl,rfl,hp,C,ox⟩
  case lstep=>
   rintro x c I _ hx ⟨arr,pd,g,rfl,rfl,hp,C,hs⟩;refine La (wpS_get ?_);dsimp only;by_cases cs:pd.size<=1
   .rw [qA2 cs]
    show Lb ⟨arr,pd,g,rfl,rfl,hp,C,cs⟩
   rw[qA4 cs];refine La (yO hc (a7 hp) C (by rw[a9 hp];omega) ?_ λa8 b3 g4 b0 b5 c5 b4=>?_)
   .repeat' split
    all_goals omega
   rw[qA4 ZW];show Lb ⟨a8,b3,g4,rfl,rfl,b0.trans hp,b4,.inr ox⟩
  case lpost=>
   rintro c I ⟨arr,pd,g,rfl,rfl,hp,C,hs⟩;dsimp only;have hl:pd.toList.length<=1:=by rw[qE9];show hs
   refine Lb (h _ hp rfl ?_)
   change upL rk arr.toList
   match hpd:pd.toList,hl,C with
   | [],_,C => 
    have C:0=a₀.size:=C;omega
   | [r],_,C=>
    obtain ⟨c1,c2,c3,c4⟩:=C;have c4:0+r.2.1=a₀.size:=c4;have e:rn_ arr.toList 0 r.2.1=arr.toList:=by
     unfold rn_;rw[xB2,qF9 (by rw[qE9,a9 hp];omega)]
    rw[e]at c3;show c3
   |_::_::_,hl,_=>simp at hl
end TP
namespace TP
open PySem L2
def xf {α β:Type}{f:α->β}{m l':List β}(h:m.Perm l'):∀l:List α,l'=l.map f->∃o:List α,o.Perm l/\m=o.map f:=by
 induction h with
 |nil=>intro l e;show ⟨l,.refl _,e⟩
 | cons x _ ih=>
  intro l e;cases l with
  |nil=>cases e
  | cons a l=>
   rw[qB8]at e;obtain ⟨e1,e2⟩:=List.cons.inj e;obtain ⟨o,h1,h2⟩:=ih l e2;show ⟨a::o,h1.cons a,by rw[qB8,e1,h2]⟩
 | swap x y l0=>
  intro l e;cases l with
  |nil=>cases e
  | cons a l=>
   rw[qB8]at e;obtain ⟨e1,e2⟩:=List.cons.inj e;cases l with
   |nil=>cases e2
   | cons b l=>
    rw[qB8]at e2;obtain ⟨e3,e4⟩:=List.cons.inj e2;show ⟨b::a::l,.swap ..,by rw[qB8,qB8,e1,e3,e4]⟩
 | trans _ _ I a3=>
  intro l e;obtain ⟨o2,p2,e2⟩:=a3 l e;obtain ⟨o1,p1,e1⟩:=I o2 e2;show ⟨o1,p1.trans p2,e1⟩
def lN:∀{xs ys:Zk}{its:VY},Vals (xs.map V.int) its->Vals (ys.map V.int) its->xs=ys
 | [],[],_,_,_=>rfl
 | [],y::ys,_,h,h'=>by cases h;cases h'
 |x::xs,[],_,h,h'=>by cases h';cases h
 | x::xs,y::ys,_,h,h'=>by
  cases h with
  | cons r t=>
   cases h' with
   | cons I t'=>
    obtain ⟨k,rfl⟩:=r;obtain ⟨k',e⟩:=I;cases e;rw[lN t t']
section
open PySem.W PyProof.Rows
def TupI.uniq (p:TupI h v xs)(q:TupI h v ys):xs=ys:=by
 obtain ⟨a,o,its,m,e,ho,_,hd,rv⟩:=p;obtain ⟨b,o2,I,m2,e2,a4,_,a3,a5⟩:=q;rw[e]at e2;cases e2;rw[ho]at a4;cases a4;rw[hd]at a3
 have:its=I:=by injection a3 with q1 _;simpa using q1
 subst this;show lN rv a5
open Classical in
def rkV (vs:VY)(ss:Zw)(p:Keyed):Int:=if h:∃i,i<vs.length/\vs.getD i Value.none=p.1 then X0 ss h.choose else 0
def gL (tt:Paired (λv xs=>TupI h v xs/\xs ≠ []) vs ss)(hi:i<vs.length):rkV vs ss (vs.getD i Value.none,u)=X0 ss i:=by
 have I:∃j,j<vs.length/\vs.getD j Value.none=vs.getD i Value.none:=⟨i,hi,rfl⟩;unfold rkV;rw[dif_pos I];obtain ⟨c1,c2⟩:=I.choose_spec;generalize I.choose=j at c1 c2
 obtain ⟨x,ex,tx⟩:=M9 (d:=Value.none) tt hi;obtain ⟨y,ey,ty⟩:=M9 (d:=Value.none) tt c1;rw[c2]at ty;have e:=TupI.uniq tx.1 ty.1;unfold X0;have e1:ss.getD i []=x:=by rw[qA0,ex];rfl
 have e2:ss.getD j []=y:=by rw[qA0,ey];rfl
 rw[e1,e2,e]
def S0 (ss:Zw)(o:Zy):Prop:=o.Perm (List.range ss.length)/\o.map (λi=>ss.getD i [])=E9 ss
def uh (I:o.Perm (List.range ss.length))(hu:o.Pairwise λi j=>X0 ss i<=X0 ss j):S0 ss o:=by
 refine ⟨I,?_⟩;refine qM7 (le:=λa b=>lexLt b a=false) (λa b _ _ x y=>S6 _ _ y x) ?_ (eF ss) ?_
 .rw [qI8]
  refine qM8 (λ{i j} hi hj q=>?_) hu;have hi:=qG2.mp (I.mem_iff.mp hi);have hj:=qG2.mp (I.mem_iff.mp hj);rw[<- oY hj hi];show qQ6 ox
 .have:=I.map λi=>ss.getD i []
  rw[tN]at this;show this.trans (O9 ss).symm
abbrev L1 {α:Type}(o:Zy)(d:α)(vs:List α):List α:=o.map λi=>vs.getD i d
def mL (h:S0 ss o)(d:α)(vs:List α):(L1 o d vs).length=ss.length:=by
 rw[qA5,h.1.length_eq,qF1]
def qE (ho:s.heap.get? a=some (seqObj "list" vs.toArray n))(hl:vs.length=ss.length)(ab:ss.length<=1000)(ht:∀h':Heap,(∀b o,b≠a->s.heap.get? b=some o->h'.get? b=some o)->Paired (λv xs=>TupI h' v xs/\xs ≠ []) vs ss)(a6:∀o,S0 ss o->P (.done (.ret .none)) { s with heap:=sortedHeap s.heap a vs (L1 o Value.none vs).toArray }):wpAny (model prog w) A (Builtin.«list.sort» ⟨[.ref a],[]⟩) P E s:=by
 rw[list_sort_plain];have ha:=qB5 ho;refine qA1 (listItems_at ho rfl (qA1 (listUpdate_at ho rfl ?_ (by rw[qB7,qT9];omega) (qC7 _))));obtain ⟨ep,hp⟩:∃ep,(s.heap.update a (Obj.mapSeq λ_=>(#[]:Zj))).get? a=some (seqObj "list" #[] ep):=⟨_,get?_update_seq ho λ_=>#[]⟩;refine qA1 (seqEpoch_at hp rfl (qA1 (qW1 (qA1 (wpAny_newList (qR7 ?_) (qC7 _))) (by change vs.length<=_;rw[qT9];omega))));generalize hh:((s.heap.update a (Obj.mapSeq λ_=>(#[]:Zj))).push (seqObj "tuple" vs.toArray 0)).push (seqObj "list" #[] 0)=h6
 have I:h6.get? a=some (seqObj "list" #[] ep):=by rw[<- hh];show qA9 _ (qA9 _ hp)
 have a9:∀b o,b≠a->s.heap.get? b=some o->h6.get? b=some o:=λb o hb e=>by rw[<- hh];show qA9 _ (qA9 _ (by rw[Heap.get?_update_ne _ _ _ _ hb];show e))
 have nH:∀o,sortedHeap s.heap a vs (L1 o Value.none vs).toArray=h6.update a (Obj.mapSeq λ_=>(L1 o Value.none vs).toArray):=λo=>by rw[<- hh];rfl
 change wpAny (model prog w) A _ P E { s with heap:=h6 };dsimp only;have b0:vs.toArray.size=vs.length:=ZW;have a5:∀o,S0 ss o->(L1 o Value.none vs).toArray.size<=sizeLine+1:=λo ok=>by rw[qB7,mL ok,qT9];omega
 by_cases c2:vs.toArray.size<2
 .rw [qA2 c2,qA2 c2]
  refine qA1 (qQ5 ?_);rw[StateT.run_pure];refine qA1 (qQ5 ?_);dsimp only;have ok:S0 ss (List.range ss.length):=uh (.refl _) (by have e:ss.length=0\/ss.length=1:=ox;rcases e with e|e <;> rw[e] <;> simp)
  have eo:Array.map (λx=>x.snd) (arrOf (SortSt.mk' general' (vs.toArray.zip vs.toArray) #[] 7 none))=(L1 (List.range ss.length) Value.none vs).toArray:=by
   change Array.map (λx=>x.snd) (vs.toArray.zip vs.toArray)=_;apply qY7.mp;rw[Array.toList_map,Array.toList_zip,<- hl];apply qJ8
   .simp
   .intro i h1 h2;simp at h1 h2;simp [h1]
  rw[eo];refine qA1 (seqEpoch_at I rfl (qA1 (listUpdate_at I rfl ?_ (qC7 _) (a5 _ ok))));simp only [bne_self_eq_false,qE2,qR0];have q:=a6 _ ok;rw[nH]at q;show qQ5 q
 .rw [qA4 c2,qA4 c2]
  have tt:=ht h6 a9;obtain ⟨fs,kt,fl,fi⟩:=lR tt;refine qA1 (kat_kind (s:={ s with heap:=h6 }) (T:=.type "int") kt ox (λv hv=>?_) ZU ?_)
  .obtain ⟨i,t,rfl⟩:=fi v hv;show Looks.of_pure rfl
  have hz:(vs.toArray.zip vs.toArray).toList=(List.range vs.length).map λi=>(vs.getD i Value.none,vs.getD i Value.none):=by
   rw[Array.toList_zip];apply qJ8
   .simp
   .intro i h1 h2;simp at h1 h2;simp [h1]
  have a4:∀x∈vs.toArray.zip vs.toArray,∃i,i<vs.length/\x=(vs.getD i Value.none,vs.getD i Value.none):=λx hx=>by
   have:x∈(vs.toArray.zip vs.toArray).toList:=by simpa using hx
   rw[hz]at this;obtain ⟨i,hi,e⟩:=qB0.mp this;show ⟨i,qG2.mp hi,e.symm⟩
  have cm:Cmp prog w A { s with heap:=h6 } (tuples' (Value.type "int" != Value.type "tuple")) (rkV vs ss) (vs.toArray.zip vs.toArray):=λx hx y hy Q hQ=>by
   obtain ⟨i,hi,rfl⟩:=a4 x hx;obtain ⟨j,hj,rfl⟩:=a4 y hy;rw[gL tt hi,gL tt hj,oY ox ox]at hQ;obtain ⟨x,hx,tx⟩:=M9 (d:=Value.none) tt hi;obtain ⟨y,hy,ty⟩:=M9 (d:=Value.none) tt hj;have ex:ss.getD i []=x:=by rw[qA0,hx];rfl
   have ey:ss.getD j []=y:=by rw[qA0,hy];rfl
   rw[ex,ey]at hQ;show BH (s:={ s with heap:=h6 }) tx.1 ty.1 hQ
  refine qA1 (qS7 (oq (E:=E) (Q:=λ_ a3=>failedOf a3=none/\∃o,S0 ss o/\(arrOf a3).map (·.2)=(L1 o Value.none vs).toArray) cm (by simp at c2 ⊢;omega) λa3 p1 p2 p3=>⟨p2,?_⟩) ?_ λ_ _ e=>e)
  .rw [hz]at p1
   obtain ⟨o,o1,o2⟩:=xf p1 _ rfl;refine ⟨o,uh (by rw[<- hl];show o1) ?_,?_⟩
   .unfold upL at p3;rw[o2,qI8]at p3;refine qM8 (λ{i j} hi hj q=>?_) p3;have hi:=qG2.mp (o1.mem_iff.mp hi);have hj:=qG2.mp (o1.mem_iff.mp hj);rw[gL tt hi,gL tt hj]at q;show q
   .apply qY7.mp;rw[Array.toList_map,o2,qC8];rfl
  rintro ⟨⟨⟩,a3⟩ s' ⟨rfl,a8,o,ok,a7⟩;dsimp only;rw[a7];refine qA1 (seqEpoch_at I rfl (qA1 (listUpdate_at I rfl ?_ (qC7 _) (a5 o ok))));rw[a8];simp only [bne_self_eq_false,qE2,qR0];have q:=a6 o ok;rw[nH]at q;show qQ5 q
def lV (hL:s.heap.IsList l vs.toArray)(hl:vs.length=ss.length)(I:ss.length<=1000)(ht:Paired (λv xs=>TupI s.heap v xs/\xs ≠ []) vs ss)(a4:∀o,S0 ss o->Q (.ref (s.heap.objs.size+1)) { s with heap:=sortedAll s.heap vs (L1 o Value.none vs).toArray }):wpAny (model prog w) A (call (.builtin "sorted") [.ref l]) Q E s:=by
 refine Calls.call_function_entry kind_sorted plain_sorted entry_sorted (args_sorted1 _) ?_;unfold Builtin.«sorted»;refine qA1 (m:=checkCount "sorted" 1 1 _) (qQ5 (qA1 (collect_list hL (qA1 (wpAny_newList ?_ (by rw[qT9];omega))) (by rw[qT9];omega))));generalize hg:(s.heap.push (seqObj "list" #[] 0)).update s.heap.objs.size (Obj.mapSeq (·++vs.toArray))=g
 have gz:g.objs.size=s.heap.objs.size+1:=by rw[<- hg,Heap.size_update,size_push']
 have gk:∀b o,s.heap.get? b=some o->g.get? b=some o:=λb o e=>by
  have a3:=qB5 e;rw[<- hg,Heap.get?_update_ne _ _ _ _ (qD9 a3)];show qA9 _ e
 have go:(g.push (seqObj "list" vs.toArray 0)).get? (s.heap.objs.size+1)=some (seqObj "list" vs.toArray 0):=by rw[<- gz];show qC5 _ rfl
 have ea:∀o,sortedAll s.heap vs (L1 o Value.none vs).toArray=sortedHeap (g.push (seqObj "list" vs.toArray 0)) (s.heap.objs.size+1) vs (L1 o Value.none vs).toArray:=λo=>by rw[<- hg];rfl
 change wpAny _ _ _ _ _ { s with heap:=g.push (seqObj "list" vs.toArray 0) };rw[gz];refine qA1 (qR7 (qR8 slot_list_sort ⟨_,go,rfl⟩ entry_list_sort (qE go hl I (λh' hk=>?_) λo ok=>⟨_,rfl,qQ5 ⟨_,rfl,by have q:=a4 o ok;rw[ea]at q;show q⟩⟩) (args_list_sort _)));refine Paired.mapP ht λv xs hv=>⟨?_,hv.2⟩;obtain ⟨a,o,its,m,rfl,h1,h2,h3,h4⟩:=hv.1;show ⟨a,o,its,m,rfl,hk a o (qD9 (qL9 (qB5 h1))) (qA9 _ (gk a o h1)),h2,h3,h4⟩
end
def so (ok:S0 ss o)(r:Vals ys its)(hl:ys.length=ss.length):Vals (L1 o V.non ys) (L1 o Value.none its):=X1 λi hi=>by
 have I:i<ys.length:=by have:=ok.1.mem_iff.mp hi;rw[qG2]at this;omega
 obtain ⟨u,e,q⟩:=M9 (d:=V.non) r I;rw[show its.getD i Value.none=u by rw[qA0,e];rfl];show q
def iI (hK:X.K=K:=by rfl):F2 X (.builtin "sorted") (λxs H Q=>∃p ys ss,xs = [.ref p]/\SqL K H p ys/\Paired (λv zs=>(∃a,v=.ref a/\SqT K H a (zs.map V.int))/\zs ≠ []) ys ss/\ss.length<=1000/\∀l o,S0 ss o->H l=none->Q (.ref l) (upd H l (.lst (L1 o V.non ys)))):=by
 subst hK;intro pins s σ H xs us Q I r h;obtain ⟨p,ys,ss,rfl,hq,ht,a3,q⟩:=h;obtain ⟨u,rfl,ru⟩:=O0 r;cases ru;obtain ⟨its,rv,pl,hz⟩:=I.list hq;have hlen:=rv.length;have a8:ys.length=ss.length:=Paired.length ht;have tt:Paired (λv xs=>TupI s.heap v xs/\xs ≠ []) its ss:=fj rv ht λv u zs r1 r2=>by
  obtain ⟨⟨a,rfl,hs⟩,a7⟩:=r2;cases r1;obtain ⟨a4,a6,⟨o,e,c,k,dd⟩,_⟩:=I.tuple hs;show ⟨⟨a,o,a4,k,rfl,e,c,dd,a6⟩,a7⟩
 refine lV pl.isList ox a3 tt λo ok=>?_;obtain ⟨e,he⟩:=PyProof.Rows.sortedAll_at s.heap its (L1 o Value.none its).toArray;have a5:s.heap.objs.size<=s.heap.objs.size+1:=Nat.le_succ _;refine ⟨.ref (s.heap.objs.size+1),_,I.laid (t':=s.toks) (λb o q=>PyProof.Rows.sortedAll_old q) a5 (show ObjOk X.prog X.w _ _ _ (.lst (L1 o V.non ys)) from ⟨by rw[mL ok];show qA8 a3 ZU,L1 o Value.none its,e,so ok rv ox,he⟩),rfl,q _ o ok (I.hok.fresh a5)⟩
def fSortA:List W->R W
 | [w]=>match lstOf w with
  | some ws=>match W5 ws with
   |some ss=>if ss.length<=1000/\ss.all (λx=>!x.isEmpty)=true then .ok (.lst ((E9 ss).map λx=>W.tup (x.map W.int))) else .stuck
   |none=>.stuck
  |none=>.stuck
 |_=>.stuck
def tL (ok:S0 ss o)(r:Reps K F ys (ss.map λx=>W.tup (x.map W.int))):Reps K F (L1 o V.non ys) ((E9 ss).map λx=>W.tup (x.map W.int)):=by
 have hl:=r.length;rw[qA5]at hl;rw[<- ok.2,qC8];refine mE λi hi=>?_;have I:i<ss.length:=by have:=ok.1.mem_iff.mp hi;rwa [qG2]at this
 obtain ⟨w,e,q⟩:=oX (i:=i) r ox;rw[qC1]at e
 have:ss[i]?=some (ss.getD i []):=by rw[qA0];simp [I]
 rw[this]at e;cases e;show q
def qm:Cal K (cb c) .F (λxs H Q=>∃p ys ss,xs = [.ref p]/\SqL K H p ys/\Paired (λv zs=>(∃a,v=.ref a/\SqT K H a (zs.map V.int))/\zs ≠ []) ys ss/\ss.length<=1000/\∀l o,S0 ss o->H l=none->Q (.ref l) (upd H l (.lst (L1 o V.non ys)))) fSortA:=by
 intro EX H0 Hs G H ρ σ Ha vs ws Q I s m o;cases m with
 |nil=>show o.elim
 | cons a t=>
  cases t with
  |cons _ _=>show o.elim
  | nil=>
   rename_i w v
   unfold fSortA at o;cases hl:lstOf w with
   |none=>simp only [hl]at o;show o.elim
   | some us=>
    simp only [hl]at o;cases ht:W5 us with
    |none=>simp only [ht]at o;show o.elim
    | some ss=>
     simp only [ht]at o;by_cases hc:ss.length<=1000/\ss.all (λx=>!x.isEmpty)=true
     .rw [qA2 hc]at o
      obtain ⟨p,ys,rfl,hs,r⟩:=Md.lstOf I a hl;rw[wk ht]at r;have a3:∀x∈ss,x ≠ []:=λx hx=>by
       have:=qH8.mp hc.2 x hx
       intro e;subst e;simp at this
      have sm:Same (if c then G else join H0 G) H:=by
       cases c with
       |true=>rw[qA2 rfl];show I.gh
       |false=>rw[qA4 qA3];show I.join_H
      refine ⟨p,ys,ss,rfl,hs,Paired.mapP (jU r a3) λv zs h=>⟨?_,h.2⟩,hc.1,λl od ok=>Out.chks (EX:=EX) (c:=c) I s (tL ok r) ?_ l⟩
      .obtain ⟨b,e,q⟩:=h.1;show ⟨b,e,SqT.of (sm _ _ q)⟩
      .have e:TP.chks c ((E9 ss).map λx=>W.tup (x.map W.int))=.ok (.lst ((E9 ss).map λx=>W.tup (x.map W.int))):=by
        unfold TP.chks;rw[mV,qP5,qA2 rfl]
       rw[e];show o
     .rw[qA4 hc]at o;show o.elim
def spX (K:Frag)(n:Nat)(f:List W->R W):Sp:=λvs H Q E=>vs.length=n/\∃F ws,Same F H/\Reps K F vs ws/\match f ws with
 | .ok w=>∀v G' H',Same F G'->Same H H'->Same G' H'->(∀a o,H a=some o->isL o=true->F a=none->G' a=none)->Rep K G' v w->Q v H'
 | .ex e=>∀H',Same H H'->XE E e H'
 | .stuck=>False
def O1 (n N:Nat)(m:Zg)(ws:Zp):R W:=if ws.length=n then (m (ws.map Sl.val++List.replicate (N-n) Sl.un)>>=λf=>match f with
 | .rt w=>.ok w
 | .nx _=>.ok .non
 |_=>.stuck) else .stuck
def mz (ws:Zp)(h:O1 n N m ws≠.stuck):ws.length=n:=by
 unfold O1 at h;by_cases e:ws.length=n
 .show e
 .rw[qA4 e]at h;show absurd rfl h
def less (H F:Hp):Hp:=λa=>match F a with
 |some _=>none
 |none=>H a
def nC (h:F a=none):less H F a=H a:=by unfold less;rw[h]
def nB (h:less H F a=some o):F a=none/\H a=some o:=by
 unfold less at h;cases q:F a with
 |none=>rw[q]at h;show ⟨rfl,h⟩
 |some u=>rw[q]at h;cases h
def jT (sF:Same F H)(h1:Same (less H F) H')(I:Same F H'):Same H H':=λa o e=>by
 cases q:F a with
 |none=>show h1 a o (by rw[nC q];show e)
 | some u=>
  have:=sF a u q
  rw[e]at this;cases this;show I a o q
def FT (h:D8 H a=some o):H a=some o/\isL o=false:=by
 unfold D8 at h;cases q:H a with
 |none=>rw[q]at h;cases h
 | some u=>
  rw[q]at h;dsimp only at h;cases I:isL u
  .rw[I]at h;cases h;show ⟨rfl,I⟩
  .rw[I]at h;cases h
def sQ:∀{vs:List V}{ws:Zp}{i:Nat}{x:Sl}{o:Option V}{k k':Nat},Reps K F vs ws->(ws.map Sl.val++List.replicate k Sl.un)[i]?=some x->(vs.map some++List.replicate k' none)[i]?=some o->x=.un\/∃v w,x=.val w/\o=some v/\Rep K F v w
 | _,_,i,x,o,k,k',.nil,h1,h2=>by
  simp only [qO4,qP3,qG7]at h1
  split at h1 <;> simp only [qF8,reduceCtorEq]at h1
  show .inl h1.symm
 | _,_,0,x,o,k,k',.cons r _,h1,h2=>by
  simp at h1 h2;show .inr ⟨_,_,h1.symm,h2.symm,r⟩
 | _,_,i+1,x,o,k,k',.cons _ t,h1,h2=>by
  simp only [qB8,qO9,qN2]at h1 h2;show sQ t h1 h2
def PIv.beginX (sF:Same F H)(r:Reps K F vs ws)(hk:k=k'):PIv K (less H F) (both F (D8 H)) (ws.map Sl.val++List.replicate k Sl.un) (vs.map some++List.replicate k' none) H where
 g0 a o e l:=by
  obtain ⟨h1,I⟩:=nB e;unfold both;rw[h1];dsimp only;unfold D8;rw[I];dsimp only;rw[l];rfl
 gl a o e l:=by
  obtain ⟨h1,I⟩:=nB e;unfold both;rw[h1];dsimp only;unfold D8;rw[I];dsimp only;rw[l];rfl
 gh a o e:=by
  unfold both at e;cases q:F a with
  |none=>rw[q]at e;show (FT e).1
  |some u=>rw[q]at e;cases e;show sF a _ q
 hh a o e:=(nB e).2
 len:=by subst hk;simp [r.length]
 sl i x o h1 I:=by
  rcases sQ r h1 I with rfl|⟨v,w,rfl,rfl,q⟩
  .trivial
  .show ⟨v,rfl,q.same λb u e=>by unfold both;rw[e]⟩
 ne i j us xs a hij h1 _ _ _:=by
  have:∀(i:Nat) (us:Zp),(ws.map Sl.val++List.replicate k Sl.un)[i]?≠some (Sl.own us):=λi us q=>by
   rw[List.getElem?_append]at q
   split at q
   .rw [qC1]at q
    cases hh:ws[i]? <;> rw[hh]at q <;> cases q
   .rw [qG7]at q
    split at q <;> cases q
  show absurd h1 (this i us)
def CS (h:spX K n (O1 n Nl.length m) vs H Q E):tSt K (λ_ _=>False) .V m { nx:=λ_ H'=>Q .non H',rt:=Q } (L2.start Nl vs) H:=by
 obtain ⟨hl,F,ws,sF,r,o⟩:=h;have hw:ws.length=n:=by rw[<- r.length];show hl
 unfold O1 at o;rw[qA2 hw]at o;have I:Same F (both F (D8 H)):=λb u e=>by unfold both;rw[e]
 refine ⟨less H F,both F (D8 H),_,PIv.beginX (k:=Nl.length-n) sF r (by rw[hl]),?_⟩
 revert o
 cases m (ws.map Sl.val++List.replicate (Nl.length-n) Sl.un) with
 |stuck=>show id
 |ex e=>show λo=>(o H (Lf H)).elim
 | ok f=>
  cases f with
  |nx a4=>show λo G' a3 H' s' I'=>o .non G' H' (I.trans s') (jT sF I'.hh ((I.trans s').trans I'.gh)) I'.gh (λa o e l q=>I'.gl a o (by rw[nC q];show e) l) .non
  |rt w=>show λo v G' H' s0 s1 s2 c md=>o v G' H' (I.trans s0) (jT sF s2 ((I.trans s0).trans s1)) s1 (λa o e l q=>c a o (by rw[nC q];show e) l) md
  |bk _=>show λo=>o.elim
  |ct _=>show λo=>o.elim
def frzL:List Nat->Rho->Rho
 | [],ρ=>ρ
 |j::js,ρ=>frzL js (frz j ρ)
def PIv.frzL:∀{js:Zy}{G:Hp}{ρ:Rho},PIv K H0 G ρ σ H->∃G',Same G G'/\PIv K H0 G' (frzL js ρ) σ H
 | [],G,ρ,I=>⟨G,Lf G,I⟩
 | j::js,G,ρ,I=>by
  obtain ⟨G1,s1,I1⟩:=I.frz (i:=j);obtain ⟨G2,s2,I2⟩:=PIv.frzL (js:=js) I1;show ⟨G2,s1.trans s2,I2⟩
def fP (i:Nat)(js:Zy)(w:W)(ρ:Rho):Rho:=if noL w=true then ρ.set i (.val w) else (frzL js ρ).set i (.val w)
def sCX (i:Nat)(js:Zy)(f:List W->R W)(ma:ZQ):Zg:=λρ=>ma (frzL js ρ)>>=λws=>f ws>>=λw=>.ok (.nx (fP i js w ρ))
def MdA.repsV:∀{ws:Zp}{vs:List V},MdA K .V H0 Hs G H ws vs->Reps K G vs ws
 |_,_,.nil=>.nil
 |_,_,.cons h t=>.cons h (MdA.repsV t)
def CQ (hf:∀ws,f ws≠.stuck->ws.length=n)(hE:∀e H,EX e H->XE E e H)(h:tSt K EX d (sCX i js f ma) D σ H):
  Y2 (kY (spX K n f) [] E (tA K EX .V ma)) (L6 i) D σ H:=by
 obtain ⟨H0,G,ρ,I,o⟩:=h;obtain ⟨G2,s2,I2⟩:=I.frzL (js:=js);refine ⟨H0,G2,frzL js ρ,I2,?_⟩;unfold sCX at o;cases a4:ma (frzL js ρ) with
 |stuck=>rw[a4]at o;show o.elim
 |ex e=>rw[a4]at o;show λH' s=>o H' (I.hh.trans s)
 | ok ws=>
  rw[a4,R.ok_bind]at o;intro xs G1 H1 e1 m1;have I1:=I2.ext e1;have r:=MdA.repsV m1;rw[qG0];refine ⟨?_,G1,ws,I1.gh,r,?_⟩
  .rw [r.length]
   refine hf ws λz=>?_;rw[z]at o;show o
  .revert o
   cases f ws with
   |stuck=>show id
   |ex e=>show λo H' s=>hE e H' (o H' (I1.hh.trans s))
   | ok w=>
    intro o v G' H' sG sH gH cl md;rw[R.ok_bind]at o;by_cases hn:noL w=true
    .have hs:fP i js w ρ=ρ.set i (.val w):=qA2 hn;rw[hs]at o;have a3:Same H H':=e1.hh.trans sH;have rH:Rep K H' v w:=md.same gH;have sN:Same (D8 H') H':=FU K H';have sB:Same G (both G (D8 H')):=λb o q=>by unfold both;rw[q]
     have a6:Same (D8 H') (both G (D8 H')):=λb o q=>by
      unfold both;cases q1:G b with
      |none=>show q
      | some y=>
       have a1:=a3 b y (I.gh b y q1);rw[sN b o q]at a1;show a1.symm
     have a5:Same (both G (D8 H')) H':=λb o q=>by
      unfold both at q;cases q1:G b with
      |none=>rw[q1]at q;show sN b o q
      |some y=>rw[q1]at q;cases q;show a3 b _ (I.gh b _ q1)
     have ex:Ext G H (both G (D8 H')) H':=⟨sB,a3,a5,λb o q l g=>by
      unfold both;rw[g];dsimp only;unfold D8;rw[a3 b o q];dsimp only;rw[qA2 l]⟩
     show o _ _ H' sB ((I.ext ex).setV ((Rep.ofNoL rH hn).same a6))
    .have hs:fP i js w ρ=(frzL js ρ).set i (.val w):=qA4 hn;rw[hs]at o;have ex:Ext G1 H1 G' H':=⟨sG,sH,gH,cl⟩;show o G' _ H' ((s2.trans e1.gg).trans sG) ((I1.ext ex).setV md)
def yE (hf:∀ws,f ws≠.stuck->ws.length=n)(hE:∀e H,EX e H->XE E e H)(h:tM K EX .V (λρ=>ma ρ>>=λws=>f ws) σ H Q):
  kY (spX K n f) [] E (tA K EX .V ma) σ H Q:=by
 obtain ⟨H0,G,ρ,I,o⟩:=h;refine ⟨H0,G,ρ,I,Lg o λxs G1 H1 ws e1 m1 o1=>?_⟩;have I1:=I.ext e1;have r:=MdA.repsV m1;rw[qG0];refine ⟨?_,G1,ws,I1.gh,r,?_⟩
 .rw [r.length]
  refine hf ws λz=>?_;rw[z]at o1;show o1
 .revert o1
  cases f ws with
  |stuck=>show id
  |ex e=>show λo1 H' s=>hE e H' (o1 H' s)
  |ok w=>show λo1 v G' H' sG sH gH cl md=>o1 v G' H' ⟨sG,sH,gH,cl⟩ md
def AO {X:Cx}{K:Frag}{e:Expr}{es:Zz}{pos:Pos}{mr:ZQ}{k:Nat}{f:Addr}{fd:FuncData}{ps:Zq}{x:Str}{p:Pos}{n N:Nat}{m:Zg}(F:FnOk X.prog X.w X.K X.mg X.base CX0 k f fd ps (spX K n (O1 n N m)))(hr:Room k X.A)(hg:Gl X x)(hm:X.mg x=some (.ref f))(hk:PySem.W.keepIn X.K (.ref f)=true)(hb:Binds X.K fd ps [])(ha:PA X (e::es) (tA K (λ_ _=>False) .V mr))(a3:(x == ("__debug__":Str))=false:=by decide)(he:starEach (e::es) X.env=(false,eval e X.env)::starEach es X.env:=by rfl)(I:(backTo pos (starEach es X.env)).any (·.1)=false:=by rfl):
  PE X (.Call (.Name x p) (e::es) [] pos) (tM K (λ_ _=>False) .V (bA (O1 n N m) mr)):=
 (je F hr hg hm hk hb .nil qN ha a3 he I).mono λ_ _ _ q=>yE (λws h=>mz ws h) (λ_ _ z=>z) q
def AK {X:Cx}{K:Frag}{d:Mode}{e:Expr}{es:Zz}{pos:Pos}{mr:ZQ}{i k:Nat}{js:Zy}{y:Str}{pos':Pos}{f:Addr}{fd:FuncData}{ps:Zq}{x:Str}{p I:Pos}{n N:Nat}{m:Zg}(hN:X.N.Nodup)(hi:X.N[i]?=some y)(hy:Loc X.env.scope y)(F:FnOk X.prog X.w X.K X.mg X.base CX0 k f fd ps (spX K n (O1 n N m)))(hr:Room k X.A)(hg:Gl X x)(hm:X.mg x=some (.ref f))(hk:PySem.W.keepIn X.K (.ref f)=true)(hb:Binds X.K fd ps [])(ha:PA X (e::es) (tA K (λ_ _=>False) .V mr))(a4:(x == ("__debug__":Str))=false:=by decide)(he:starEach (e::es) X.env=(false,eval e X.env)::starEach es X.env:=by rfl)(a3:(backTo I (starEach es X.env)).any (·.1)=false:=by rfl)(hs:swapsWith (.Call (.Name x p) (e::es) [] I) (some (.Name y pos')) pos.line X.env=pure false:=by rfl)(hf:X.fn y=true\/X.env.scope.names.lookup y=some .local:=by first|show .inl rfl|show .inr rfl|assumption):
  PS X (.Assign [.Name y pos'] (.Call (.Name x p) (e::es) [] I) pos) (tSt K (λ_ _=>False) d (sCX i js (O1 n N m) mr)):=
 (bp hN hi hy (je F hr hg hm hk hb .nil qN ha a4 he a3) hs hf).mono λ_ _ _ q=>CQ (λws h=>mz ws h) (λ_ _ z=>z) q
def yh (ρ:Rho):frzL [] ρ=ρ:=rfl
def vi (j:Nat)(js:Zy)(ρ:Rho):frzL (j::js) ρ=frzL js (frz j ρ):=rfl
def RcX (f:List W->R W)(i:Nat)(js:Zy)(ρ:Rho):R Zp->R Fl
 | .ok ws=>f ws>>=λw=>.ok (.nx (fP i js w ρ))
 | .ex e=>.ex e
 | .stuck=>.stuck
def Ea (i:Nat)(js:Zy)(f:List W->R W)(ma:ZQ)(ρ:Rho):sCX i js f ma ρ=RcX f i js ρ (ma (frzL js ρ)):=by
 unfold sCX;cases ma (frzL js ρ) <;> rfl
def IS (f:List W->R W)(i:Nat)(js:Zy)(ρ:Rho)(ws:Zp):RcX f i js ρ (.ok ws)=(f ws>>=λw=>.ok (.nx (fP i js w ρ))):=rfl
def KC (H:Hp):Prop:=∀a vs,H a≠some (.lst vs)
def OutN (K:Frag)(d:Mode)(Hb:Hp)(r:R Fl)(D:Ends):Prop:=match r with
 | .ok (.nx ρ)=>∀H0 G' I H',Same Hb H0->PIv K H0 G' ρ I H'->D.nx I H'
 | .ok (.rt w)=>∀v G' H',Same G' H'->Same Hb H'->(∀a o,Hb a=some o->isL o=true->G' a=none)->Md K Hb Hb G' H' v w d->D.rt v H'
 |_=>False
def tStN (K:Frag)(EX:EXT)(d:Mode)(m:Zg):TS:=λD σ H=>∃I H0 G ρ,KC I/\Same I H0/\PIv K H0 G ρ σ H/\OutN K d I (m ρ) D
end TP
namespace TP
open PySem L2
open PyProof.Rows (envOfC)
def XE1 (K:Frag)(E:XK):EXT:=λe H=>∀(C:Addr)(od:Option Addr),PySem.W.nsIn K mainGlobals e.cls=some (some (.ref C))->XD H od e.at_->E (.ref C) od H
def spR (K:Frag)(n:Nat)(d:Mode)(f:List W->R W):Sp:=λvs H Q E=>vs.length=n/\∃ws,Reps K H vs ws/\match f ws with
 | .ok w=>∀v G' H',Same H H'->Same G' H'->(∀a o,H a=some o->isL o=true->G' a=none)->Md K H H G' H' v w d->Q v H'
 | .ex e=>∀H',Same H H'->XE1 K E e H'
 | .stuck=>False
def calm (f:List W->R W):List W->R W:=λws=>match f ws with
 | .ok w=>.ok w
 |_=>.stuck
def flUn (j:Nat):Fl->R Fl
 | .nx ρ=>.ok (.nx (ρ.set j .un))
 | .bk ρ=>.ok (.bk (ρ.set j .un))
 | .ct ρ=>.ok (.ct (ρ.set j .un))
 | .rt w=>.ok (.rt w)
def mExc (c:Str)(j:Nat)(mb:Zg)(e:XW)(ρ:Rho):R Fl:=if e.cls=c then mb (ρ.set j (.val (.exc e.cls e.at_)))>>=flUn j else .stuck
end TP
namespace TP
open PySem L2
def big8:Int:=2^2000
def zU (_ j:Int):Prop:=0<j/\j<big8
instance (i j:Int):Decidable (zU i j):=by unfold zU;infer_instance
def aO (_ j:Int):Prop:=j≠0/\j.natAbs<2^8999
instance (i j:Int):Decidable (aO i j):=by unfold aO;infer_instance
def gFz (i j:Int):W:=.int (i.fdiv j)
def xj:OpR X (binaryOp .FloorDiv) (rI aO λi j=>.int (i.fdiv j)):=opI λi j _ _ _ _ _ hc q=>by
 refine PyProof.Rows.floordiv_int hc.1 q (.inl (PyProof.noPylong_of_log2 ?_));have h0:j.natAbs≠0:=by have:=hc.1;omega
 show Nat.lt_trans ((Nat.log2_lt h0).mpr hc.2) ZU
def CH (h0:j≠0)(h:j.natAbs<2^8999):fI aO gFz (.int i) (.int j)=.ok (.int (i.fdiv j)):=by
 change (if aO i j then _ else _)=_;rw[qA2 ⟨h0,h⟩];rfl
def zJ (_ j:Int):Prop:=j≠0
instance (i j:Int):Decidable (zJ i j):=by unfold zJ;infer_instance
abbrev tI (ns:Zk):W:=.tup (ns.map W.int)
abbrev lI (ns:Zk):W:=.lst (ns.map W.int)
def C8 (ns:Zk):m9 (ns.map W.int)=true:=by
 induction ns with
 |nil=>rfl
 |cons n ns I=>rw[qB8];simp only [m9,noL,I,qN3]
def Cu (n:Bool)(i j:Int):t7 n (.int i) (.int j)=.ok (.bl (if n then !decide (i=j) else decide (i=j))):=by
 change R.ok (W.bl (if n then !decide (V.int i=V.int j) else decide (V.int i=V.int j)))=_;rw[show decide (V.int i=V.int j)=decide (i=j) from qY8.mpr ⟨V.int.inj,congrArg _⟩]
def Cv (n:Bool)(i j:Bool):t7 n (.bl i) (.bl j)=.ok (.bl (if n then !decide (i=j) else decide (i=j))):=by
 change R.ok (W.bl (if n then !decide (V.bl i=V.bl j) else decide (V.bl i=V.bl j)))=_;rw[show decide (V.bl i=V.bl j)=decide (i=j) from qY8.mpr ⟨V.bl.inj,congrArg _⟩]
def Cq (n:Bool)(i j:Str):t7 n (.str i) (.str j)=.ok (.bl (if n then !decide (i=j) else decide (i=j))):=by
 change R.ok (W.bl (if n then !decide (V.str i=V.str j) else decide (V.str i=V.str j)))=_;rw[show decide (V.str i=V.str j)=decide (i=j) from qY8.mpr ⟨V.str.inj,congrArg _⟩]
def Cr (n:Bool):t7 n .non .non=.ok (.bl (!n)):=by cases n <;> rfl
def Cs (n:Bool)(i:Int):t7 n .non (.int i)=.ok (.bl n):=by cases n <;> rfl
def Ct (n:Bool)(i:Int):t7 n (.int i) .non=.ok (.bl n):=by cases n <;> rfl
def atW {ns:Zk}{i:Int}(h0:0<=i)(h1:i<ns.length):L2.atI (ns.map W.int) i=some (.int (ns.getD i.toNat 0)):=by
 unfold L2.atI;rw[qA5,bE h0 h1]
 change (ns.map W.int)[i.toNat]?=_;rw[qC1,P0 ox];rfl
def ar {k:Nat}{w:W}(h:ws[k]?=some w):L2.atI ws (k:Int)=some w:=by
 have hk:=(qA6.mp h).1;unfold L2.atI;rw[bE ox ox,qI1];show h
def andThen (r:R Fl)(n:Zg):R Fl:=r>>=λf=>match f with
 | .nx I=>n I
 | .rt w=>.ok (.rt w)
 | .bk I=>.ok (.bk I)
 | .ct I=>.ok (.ct I)
def BC (m n:Zg)(ρ:Rho):d0 m n ρ=andThen (m ρ) n:=rfl
def rS (ρ:Rho)(n:Zg):andThen (.ok (.nx ρ)) n=n ρ:=rfl
def rR (w:W)(n:Zg):andThen (.ok (.rt w)) n=.ok (.rt w):=rfl
def rV (ρ:Rho)(n:Zg):andThen (.ok (.bk ρ)) n=.ok (.bk ρ):=rfl
def rT (ρ:Rho)(n:Zg):andThen (.ok (.ct ρ)) n=.ok (.ct ρ):=rfl
def JK (w:W)(ρ:Rho):mC w ρ=.ok w:=rfl
def Kv (f:W->R W)(ma:Zo)(ρ:Rho):b1 f ma ρ=(ma ρ>>=f):=rfl
def R2b (a b:R W)(f:W->W->R W):R W:=a>>=λx=>b>>=λy=>f x y
def Ku (f:W->W->R W)(ma mb:Zo)(ρ:Rho):b2 f ma mb ρ=R2b (ma ρ) (mb ρ) f:=rfl
def IU (x y:W)(f:W->W->R W):R2b (.ok x) (.ok y) f=f x y:=rfl
def Kt (f:List W->R W)(ma:ZQ)(ρ:Rho):bA f ma ρ=(ma ρ>>=f):=rfl
def Ks (f:List W->R Zp)(ma:ZQ)(ρ:Rho):bI f ma ρ=(ma ρ>>=f):=rfl
def Kr (ma:Zo)(ρ:Rho):bS ma ρ=(ma ρ>>=C5):=rfl
def Ky (ρ:Rho):aN ρ=.ok []:=rfl
def iN (a:R W)(b:R Zp):R Zp:=a>>=λx=>b>>=λxs=>.ok (x::xs)
def Kz (ma:Zo)(I:ZQ)(ρ:Rho):aC ma I ρ=iN (ma ρ) (I ρ):=rfl
def yM (x:W)(xs:Zp):iN (.ok x) (.ok xs)=.ok (x::xs):=rfl
def CZ (ma:Zo)(ρ:Rho):R8 ma ρ=(ma ρ>>=chk):=rfl
def yG (ma:Zo)(ρ:Rho):f6 ma ρ=(ma ρ>>=toB):=rfl
def Ah (a b:ZZ)(ρ:Rho):eE a b ρ=rAnd (a ρ) (b ρ):=rfl
def DB (a b:ZZ)(ρ:Rho):iQ a b ρ=rOr (a ρ) (b ρ):=rfl
def Ag (a:ZZ)(ρ:Rho):W7 a ρ=qI (a ρ):=rfl
def AI (x y:Bool):rAnd (.ok x) (.ok y)=.ok (x&&y):=by cases x <;> rfl
def AJ (r:R Bool):rAnd (.ok false) r=.ok false:=rfl
def AH (r:R Bool):rAnd (.ok true) r=r:=rfl
def EU (x y:Bool):rOr (.ok x) (.ok y)=.ok (x||y):=by cases x <;> rfl
def ET (r:R Bool):rOr (.ok true) r=.ok true:=rfl
def EV (r:R Bool):rOr (.ok false) r=r:=rfl
def AD (x:Bool):qI (.ok x)=.ok (!x):=rfl
def Ac (a b:Zo)(ρ:Rho):iP a b ρ=eM (a ρ) (b ρ):=rfl
def Dr (a b:Zo)(ρ:Rho):vOr a b ρ=mF (a ρ) (b ρ):=rfl
def Aa (a:Zo)(ρ:Rho):we a ρ=kZ (a ρ):=rfl
def wW (x y:Bool):eM (.ok (.bl x)) (.ok (.bl y))=.ok (.bl (x&&y)):=by cases x <;> rfl
def wX (r:R W):eM (.ok (.bl false)) r=.ok (.bl false):=rfl
def wV (r:R W):eM (.ok (.bl true)) r=r:=rfl
def AA (x y:Bool):mF (.ok (.bl x)) (.ok (.bl y))=.ok (.bl (x||y)):=by cases x <;> rfl
def Az (r:R W):mF (.ok (.bl true)) r=.ok (.bl true):=rfl
def AB (r:R W):mF (.ok (.bl false)) r=r:=rfl
def wT (x:Bool):kZ (.ok (.bl x))=.ok (.bl (!x)):=rfl
def qJ (c:R Bool)(a b:R W):R W:=c>>=λt=>if t then a else b
def Ds (c:ZZ)(a b:Zo)(ρ:Rho):vIf c a b ρ=qJ (c ρ) (a ρ) (b ρ):=rfl
def AE (a b:R W):qJ (.ok true) a b=a:=rfl
def AG (a b:R W):qJ (.ok false) a b=b:=rfl
def AF (t:Bool)(x y:W):qJ (.ok t) (.ok x) (.ok y)=.ok (if t then x else y):=by cases t <;> rfl
def om (f I:W->W->R W)(a b c:R W):R W:=a>>=λx=>b>>=λy=>f x y>>=λz=>toB z>>=λt=>if t then c>>=λu=>I y u else .ok (.bl false)
def sw (f I:W->W->R W)(ma mb mc:Zo)(ρ:Rho):Dt f I ma mb mc ρ=om f I (ma ρ) (mb ρ) (mc ρ):=rfl
def vZ (g g':Int->Int->Bool)(i j k:Int):om (fI0 λi j=>.bl (g i j)) (fI0 λi j=>.bl (g' i j)) (.ok (.int i)) (.ok (.int j)) (.ok (.int k))=.ok (.bl (g i j&&g' j k)):=by
 unfold om
 change (if g i j=true then _ else _)=_;cases h:g i j <;> simp [fI0]
def qW (ws:Zp):R W:=lim ws.length (.tup ws)
def qX (ws:Zp):R W:=lim ws.length (.lst ws)
def zZ (ma:ZQ)(ρ:Rho):u9 ma ρ=(ma ρ>>=qW):=rfl
def Ab (ma:ZQ)(ρ:Rho):y6 ma ρ=(ma ρ>>=qX):=rfl
def JD (ρ:Rho):pN ρ=.ok none:=rfl
def JC (m:Zo)(ρ:Rho):pS m ρ=(m ρ>>=ll):=rfl
def ug (i:Int):ll (.int i)=.ok (some i):=rfl
def Rsl (c:Bool)(x:R W)(l u:R VX):R W:=x>>=λx=>l>>=λl=>u>>=λu=>toR (lstOf x)>>=λws=>chks c (K0 ws l u)
def Dq (c:Bool)(m:Zo)(ml I:Rho->R VX)(ρ:Rho):vSl c m ml I ρ=Rsl c (m ρ) (ml ρ) (I ρ):=rfl
def Dg (c:Bool)(ws:Zp)(l u:VX):Rsl c (.ok (.lst ws)) (.ok l) (.ok u)=chks c (K0 ws l u):=rfl
def Df (c:Bool)(ws:Zp)(l u:VX):Rsl c (.ok (.scr ws)) (.ok l) (.ok u)=chks c (K0 ws l u):=rfl
def zP (r:R Zp)(n:Nat)(mg:ZJ)(mc:ZZ)(me:Zo)(ρ:Rho):R W:=r>>=λws=>l6 n mg mc me ws ρ
def wf (n:Nat)(I:ZQ)(mg:ZJ)(mc:ZZ)(me:Zo)(ρ:Rho):k7 n I mg mc me ρ=zP (I ρ) n mg mc me ρ:=rfl
def yN (ws:Zp)(n:Nat)(mg:ZJ)(mc:ZZ)(me:Zo)(ρ:Rho):zP (.ok ws) n mg mc me ρ=l6 n mg mc me ws ρ:=rfl
def DY (ρ:Rho):sNx ρ=.ok (.nx ρ):=rfl
def Ec (ρ:Rho):sBk ρ=.ok (.bk ρ):=rfl
def DZ (ρ:Rho):sCt ρ=.ok (.ct ρ):=rfl
def zO (r:R W)(ρ:Rho):R Fl:=r>>=λ_=>.ok (.nx ρ)
def wF (m:Zo)(ρ:Rho):Jf m ρ=zO (m ρ) ρ:=rfl
def yL (w:W)(ρ:Rho):zO (.ok w) ρ=.ok (.nx ρ):=rfl
def iZ (w:W):R Fl:=.ok (.rt w)
def Ar (m:Zo)(ρ:Rho):i5 m ρ=(m ρ>>=iZ):=rfl
def Ay (w:W):iZ w=.ok (.rt w):=rfl
def wE (ρ:Rho):Jc ρ=.ok (.rt .non):=rfl
def jO (r:R W)(f:W->Sl)(i:Nat)(ρ:Rho):R Fl:=r>>=λw=>.ok (.nx (ρ.set i (f w)))
def Ja (i:Nat)(m:Zo)(ρ:Rho):sV i m ρ=jO (m ρ) Sl.val i ρ:=rfl
def Jb (i:Nat)(m:Zo)(ρ:Rho):sU i m ρ=jO (m ρ) Sl.par i ρ:=rfl
def Je (i:Nat)(m:Zo)(ρ:Rho):sF i m ρ=jO (m ρ) P7 i ρ:=rfl
def Dh (w:W)(f:W->Sl)(i:Nat)(ρ:Rho):jO (.ok w) f i ρ=.ok (.nx (ρ.set i (f w))):=rfl
def sX (ws:Zp):P7 (.lst ws)=.own ws:=rfl
def sR (ws:Zp):P7 (.tup ws)=.val (.tup ws):=rfl
def sY (i:Int):P7 (.int i)=.val (.int i):=rfl
def wy (i:Bool):P7 (.bl i)=.val (.bl i):=rfl
def sW:P7 .non=.val .non:=rfl
def sT (i:Str):P7 (.str i)=.val (.str i):=rfl
def Dx:Option Rho->R Fl
 |some ρ=>.ok (.nx ρ)
 |none=>.stuck
def IT (r:R W)(mg:ZJ)(ρ:Rho):R Fl:=r>>=λw=>toR (mg w ρ)>>=λI=>.ok (.nx I)
def Jd (mg:ZJ)(m:Zo)(ρ:Rho):sG mg m ρ=IT (m ρ) mg ρ:=rfl
def Dl (w:W)(mg:ZJ)(ρ:Rho):IT (.ok w) mg ρ=Dx (mg w ρ):=by
 change (toR (mg w ρ)>>=_)=_;cases mg w ρ <;> rfl
def sM (ρ:Rho):Dx (some ρ)=.ok (.nx ρ):=rfl
def IP (r:R Zp)(mg:ZJ)(mb:Zg)(ρ:Rho):R Fl:=r>>=λws=>F6 mg mb ws ρ
def Au (I:ZQ)(mg:ZJ)(mb:Zg)(ρ:Rho):A0 I mg mb ρ=IP (I ρ) mg mb ρ:=rfl
def Di (ws:Zp)(mg:ZJ)(mb:Zg)(ρ:Rho):IP (.ok ws) mg mb ρ=F6 mg mb ws ρ:=rfl
def As (i:Nat)(m:Zg)(ρ:Rho):F3 i m ρ=m (frz i ρ):=rfl
def jE:Option Sl->Nat->Rho->Rho
 |some (.own ws),i,ρ=>ρ.set i (.val (.lst ws))
 |_,_,ρ=>ρ
def GY (i:Nat)(ρ:Rho):frz i ρ=jE (ρ[i]?) i ρ:=by
 unfold frz jE;rcases h:ρ[i]? with _|s
 .rfl
 .cases s <;> rfl
def yg (ws:Zp)(i:Nat)(ρ:Rho):jE (some (.own ws)) i ρ=ρ.set i (.val (.lst ws)):=rfl
def ye (w:W)(i:Nat)(ρ:Rho):jE (some (.val w)) i ρ=ρ:=rfl
def yf (w:W)(i:Nat)(ρ:Rho):jE (some (.par w)) i ρ=ρ:=rfl
def Cj (i:Nat)(ρ:Rho):jE (some .un) i ρ=ρ:=rfl
def rdS (d:Mode):Option Sl->R W
 |some (.val w)=>(match d with | .F=>chk w|_=>.ok w)
 |some (.par w)=>(match d with | .F=>chk w | .V=>chk w | .C=>chk w|_=>.ok w)
 |some (.own ws)=>(match d with | .C=>.ok (.lst ws) | .B=>.ok (.lst ws)|_=>.stuck)
 |some (.iop _ ws)=>(match d with | .B=>.ok (.lst ws) | .U=>.ok (.lst ws)|_=>.stuck)
 |some (.hz w)=>(match d with | .B=>.ok w | .U=>.ok w|_=>.stuck)
 |_=>.stuck
def jt (d:Mode)(i:Nat)(ρ:Rho):b7 d i ρ=rdS d (ρ[i]?):=by
 unfold b7 rdS;rfl
def EF (w:W):rdS .F (some (.val w))=chk w:=rfl
def ED (w:W):rdS .V (some (.val w))=.ok w:=rfl
def EE (w:W):rdS .U (some (.val w))=.ok w:=rfl
def EG (w:W):rdS .C (some (.val w))=.ok w:=rfl
def EH (w:W):rdS .B (some (.val w))=.ok w:=rfl
def EK (w:W):rdS .F (some (.par w))=chk w:=rfl
def EI (w:W):rdS .V (some (.par w))=chk w:=rfl
def EJ (w:W):rdS .U (some (.par w))=.ok w:=rfl
def EL (w:W):rdS .C (some (.par w))=chk w:=rfl
def EM (w:W):rdS .B (some (.par w))=.ok w:=rfl
def EN (ws:Zp):rdS .C (some (.own ws))=.ok (.lst ws):=rfl
def EO (ws:Zp):rdS .B (some (.own ws))=.ok (.lst ws):=rfl
def retS (d:Mode):Option Sl->R Fl
 |some (.own ws)=>.ok (.rt (.lst ws))
 |o=>rdS d o>>=iZ
def rd (d:Mode)(i:Nat)(ρ:Rho):v9 d i ρ=retS d (ρ[i]?):=by
 unfold v9 retS;rw[jt];rcases h:ρ[i]? with _|s
 .rfl
 .cases s <;> rfl
def wN (d:Mode)(ws:Zp):retS d (some (.own ws))=.ok (.rt (.lst ws)):=rfl
def wL (d:Mode)(w:W):retS d (some (.val w))=(rdS d (some (.val w))>>=iZ):=rfl
def wM (d:Mode)(w:W):retS d (some (.par w))=(rdS d (some (.par w))>>=iZ):=rfl
def yH (o:Option Sl)(r:R W)(i:Nat)(ρ:Rho):R Fl:=match o with
 |some (.own ws)=>r>>=λw=>if ws.length<1000 then .ok (.nx (ρ.set i (.own (ws ++ [w])))) else .stuck
 |_=>.stuck
def BG (i:Nat)(m:Zo)(ρ:Rho):Q8 i m ρ=yH (ρ[i]?) (m ρ) i ρ:=rfl
def Db (ws:Zp)(w:W)(i:Nat)(ρ:Rho):yH (some (.own ws)) (.ok w) i ρ=if ws.length<1000 then .ok (.nx (ρ.set i (.own (ws ++ [w])))) else .stuck:=rfl
def DO (o:Option Sl)(a b:R W)(i:Nat)(ρ:Rho):R Fl:=match o with
 | some (.own ws)=>b>>=λw=>a>>=λk=>(match k with
  | .int k=>(match ixN ws.length k with
   |some j=>.ok (.nx (ρ.set i (.own (ws.set j w))))
   |none=>.stuck)
  |_=>.stuck)
 |_=>.stuck
def BB (i:Nat)(I me:Zo)(ρ:Rho):V5 i I me ρ=DO (ρ[i]?) (I ρ) (me ρ) i ρ:=rfl
def DP (o:Option Nat)(ws:Zp)(w:W)(i:Nat)(ρ:Rho):R Fl:=match o with
 |some j=>.ok (.nx (ρ.set i (.own (ws.set j w))))
 |none=>.stuck
def Ao (ws:Zp)(w:W)(k:Int)(i:Nat)(ρ:Rho):DO (some (.own ws)) (.ok (.int k)) (.ok w) i ρ=DP (ixN ws.length k) ws w i ρ:=rfl
def tj (j:Nat)(ws:Zp)(w:W)(i:Nat)(ρ:Rho):DP (some j) ws w i ρ=.ok (.nx (ρ.set i (.own (ws.set j w)))):=rfl
def II (f:Int->Int->Int)(a b:R W)(i:Nat)(ρ:Rho):R Fl:=a>>=λx=>b>>=λy=>match x,y with
 | .int a,.int b=>.ok (.nx (ρ.set i (.val (.int (f a b)))))
 |_,_=>.stuck
def BF (i:Nat)(f:Int->Int->Int)(m:Zo)(ρ:Rho):ju i f m ρ=II f (rdS .B (ρ[i]?)) (m ρ) i ρ:=by
 rw[<- jt];rfl
def Da (f:Int->Int->Int)(a b:Int)(i:Nat)(ρ:Rho):II f (.ok (.int a)) (.ok (.int b)) i ρ=.ok (.nx (ρ.set i (.val (.int (f a b))))):=rfl
def ifS (c:R Bool)(m n:Zg)(ρ:Rho):R Fl:=c>>=λb=>if b then m ρ else n ρ
def Ga (c:ZZ)(m n:Zg)(ρ:Rho):mIf c m n ρ=ifS (c ρ) m n ρ:=rfl
def GM (m n:Zg)(ρ:Rho):ifS (.ok true) m n ρ=m ρ:=rfl
def GN (m n:Zg)(ρ:Rho):ifS (.ok false) m n ρ=n ρ:=rfl
def W0 (r:R Fl):R W:=r>>=λf=>match f with
 | .rt w=>.ok w
 | .nx _=>.ok .non
 |_=>.stuck
def bh (h:ws.length=n):g9 n N m ws=W0 (m (ws.map Sl.par++List.replicate (N-n) Sl.un)):=by unfold g9;rw[qA2 h];rfl
def Em {N:Nat}{m:Zg}(a:W):g9 1 N m [a]=W0 (m (Sl.par a::List.replicate (N-1) Sl.un)):=bh rfl
def El {N:Nat}{m:Zg}(a b:W):g9 2 N m [a,b]=W0 (m (Sl.par a::Sl.par b::List.replicate (N-2) Sl.un)):=bh rfl
def Ek {N:Nat}{m:Zg}(a b c:W):g9 3 N m [a,b,c]=W0 (m (Sl.par a::Sl.par b::Sl.par c::List.replicate (N-3) Sl.un)):=bh rfl
def Ej {N:Nat}{m:Zg}(a b c d:W):g9 4 N m [a,b,c,d]=W0 (m (Sl.par a::Sl.par b::Sl.par c::Sl.par d::List.replicate (N-4) Sl.un)):=bh rfl
def Ei {N:Nat}{m:Zg}(a b c d e:W):g9 5 N m [a,b,c,d,e]=W0 (m (Sl.par a::Sl.par b::Sl.par c::Sl.par d::Sl.par e::List.replicate (N-5) Sl.un)):=bh rfl
def CD (w:W):W0 (.ok (.rt w))=.ok w:=rfl
def CF (ρ:Rho):W0 (.ok (.nx ρ))=.ok .non:=rfl
def Hn (g:Int->Int->W)(i j:Int):fI0 g (.int i) (.int j)=.ok (g i j):=rfl
def fU_i (g:Int->W)(i:Int):fU g (.int i)=.ok (g i):=rfl
def JT (ws:Zp)(i:Int):fIx (.lst ws) (.int i)=toR (L2.atI ws i):=rfl
def JR (ws:Zp)(i:Int):fIx (.tup ws) (.int i)=toR (L2.atI ws i):=rfl
def JS (ws:Zp)(i:Int):fIx (.scr ws) (.int i)=toR (L2.atI ws i):=rfl
def wn {α:Type}(a:α):toR (some a)=.ok a:=rfl
def Dy (b:Bool):toB (.bl b)=.ok b:=rfl
def Hi (ws:Zp):fLen [.lst ws]=.ok (.int ws.length):=rfl
def Hf (ws:Zp):fLen [.tup ws]=.ok (.int ws.length):=rfl
def Hg (ws:Zp):fLen [.scr ws]=.ok (.int ws.length):=rfl
def Cn (c:Bool)(ws:Zp):X6 c [.lst ws]=chks c ws:=rfl
def Cm (c:Bool)(ws:Zp):X6 c [.tup ws]=chks c ws:=rfl
def vp (c:Bool)(ws:Zp):z7 c [.lst ws]=W4 c ws:=rfl
def Hc (c:Bool)(ws:Zp):z7 c [.tup ws]=W4 c ws:=rfl
def HU (ws:Zp):chks true ws=.ok (.lst ws):=rfl
def Ib (ws:Zp):W4 true ws=.ok (.tup ws):=rfl
def jL (h:m9 ws=true):chks c ws=.ok (.lst ws):=by unfold chks;rw[h,qP5,qA2 rfl]
def bP (h:m9 ws=true):W4 c ws=.ok (.tup ws):=by unfold W4;rw[h,qP5,qA2 rfl]
def HX (c:Bool)(ns:Zk):chks c (ns.map W.int)=.ok (.lst (ns.map W.int)):=jL (C8 ns)
def vH (c:Bool)(ns:Zk):W4 c (ns.map W.int)=.ok (.tup (ns.map W.int)):=bP (C8 ns)
def o6 (h:noL w=true):chk w=.ok w:=by unfold chk;rw[qA2 h]
def CK (i:Int):chk (.int i)=.ok (.int i):=rfl
def Ia (i:Bool):chk (.bl i)=.ok (.bl i):=rfl
def CI (i:Str):chk (.str i)=.ok (.str i):=rfl
def CJ:chk .non=.ok .non:=rfl
def HY (ns:Zk):chk (.tup (ns.map W.int))=.ok (.tup (ns.map W.int)):=o6 (C8 ns)
def JU (g:Int->Int->Int)(i j:Int):f2 g [.int i,.int j]=.ok (.int (g i j)):=rfl
def DS (ws:Zp):C5 (.lst ws)=.ok ws:=rfl
def DQ (ws:Zp):C5 (.tup ws)=.ok ws:=rfl
def DR (ws:Zp):C5 (.scr ws)=.ok ws:=rfl
def Ew (j:Int):F4 [.int j]=Q3 0 j:=rfl
def Ev (i j:Int):rng2 [.int i,.int j]=Q3 i j:=rfl
def gN_U (i:Nat)(w:W)(ρ:Rho):gN .U i w ρ=some (ρ.set i (.par w)):=rfl
def gN_V (i:Nat)(w:W)(ρ:Rho):gN .V i w ρ=some (ρ.set i (.val w)):=rfl
def gT_t (n:Nat)(g:List W->Rho->Option Rho)(ws:Zp)(ρ:Rho):gT n g (.tup ws) ρ=if ws.length=n then g ws ρ else none:=rfl
def xW (f:ZJ)(g:List W->Rho->Option Rho)(w:W)(ws:Zp)(ρ:Rho):n8 f g (w::ws) ρ=(f w ρ).bind (g ws):=rfl
def Cc (ρ:Rho):gsNil [] ρ=some ρ:=rfl
def xy (ws:Zp):qW ws=if ws.length<=1000 then .ok (.tup ws) else .stuck:=rfl
def xz (ws:Zp):qX ws=if ws.length<=1000 then .ok (.lst ws) else .stuck:=rfl
def Co (x:W)(T:String):fIsi [x,.ty T]=(toR ((tyW x).bind λA=>B5 A T)>>=λb=>.ok (.bl b)):=rfl
def Gr:B5 "NoneType" "tuple" = some false:=ZU
def Gs:B5 "NoneType" "list" = some false:=ZU
def Gw:B5 "list" "tuple" = some false:=ZU
def Gm:B5 "tuple" "list" = some false:=ZU
def Hj (n:Bool)(u:W):ai n u .non=.ok (.bl (if n then !isN u else isN u)):=rfl
def xD {α:Type}(g:α->W)(s:α->W):∀(as:List α),(∀a∈as,f (s a)=.ok (some (g a)))->mapR f (as.map s)=.ok (as.map g):=by
 intro as
 induction as with
 |nil=>show λ_=>rfl
 | cons a as I=>
  intro h;rw[qB8,mapR,h a qB9,I λb hb=>h b (qB1 _ hb)];rfl
def oG {α:Type}(g:α->W)(s:α->W)(c:α->Bool):∀(as:List α),(∀a∈as,f (s a)=.ok (if c a then some (g a) else none))->mapR f (as.map s)=.ok ((as.filter c).map g):=by
 intro as
 induction as with
 |nil=>show λ_=>rfl
 | cons a as I=>
  intro h;rw[qB8,mapR,h a qB9,I λb hb=>h b (qB1 _ hb),qY9];cases c a <;> rfl
def o9 {α:Type}(g:α->W)(s:α->W)(as:List α)(ρ:Rho)(hl:as.length<=1000)(h:∀a∈as,∃I,mg (s a) (ρ++List.replicate (N'-ρ.length) Sl.un)=some I/\me I=.ok (g a)):l6 N' mg yes me (as.map s) ρ=.ok (.lst (as.map g)):=by
 unfold l6;rw[qA5,qA2 hl,xD g s as];intro a ha;obtain ⟨I,e1,e2⟩:=h a ha;unfold elR;rw[e1];have hy:yes I=.ok true:=rfl;dsimp only;rw[hy];dsimp only;rw[e2]
def D9 {α:Type}(g:α->W)(s:α->W)(c:α->Bool)(as:List α)(ρ:Rho)(hl:as.length<=1000)(h:∀a∈as,∃I,mg (s a) (ρ++List.replicate (N'-ρ.length) Sl.un)=some I/\mc I=.ok (c a)/\(c a=true->me I=.ok (g a))):l6 N' mg mc me (as.map s) ρ=.ok (.lst ((as.filter c).map g)):=by
 unfold l6;rw[qA5,qA2 hl,oG g s c as];intro a ha;obtain ⟨I,e1,e2,e3⟩:=h a ha;unfold elR;rw[e1];dsimp only;rw[e2];cases hc:c a with
 |false=>rfl
 |true=>dsimp only;rw[e3 hc];rfl
def wJ (h0:-1000000<=z)(h:z<=1000000):Q3 0 z=.ok ((List.range z.toNat).map λk=>W.int (k:Nat)):=by
 unfold Q3;rw[qA2 ox];simp
def bi (h:((List.range n).map λk=>W.int (k:Nat))[i]?=some w):i<n/\w=.int (i:Nat):=by
 rw[qC1]at h;cases q:(List.range n)[i]? with
 |none=>rw[q]at h;cases h
 | some k=>
  rw[q]at h;obtain ⟨h1,I⟩:=qA6.mp q;simp at h1 I;subst I;cases h;show ⟨h1,rfl⟩
def uD {ns:Zk}(h:(ns.map W.int)[i]?=some w):i<ns.length/\w=.int (ns.getD i 0):=by
 rw[qC1]at h;cases q:ns[i]? with
 |none=>rw[q]at h;cases h
 | some k=>
  rw[q]at h;cases h;show ⟨(qA6.mp q).1,by rw[Cd q]⟩
def jK (xs:Zk)(lo hi:VX):List Int:=(xs.drop (HT.sIx xs.length 0 lo)).take (HT.sIx xs.length xs.length hi-HT.sIx xs.length 0 lo)
def HJ (ns:Zk)(lo hi:VX):K0 (ns.map W.int) lo hi=(jK ns lo hi).map W.int:=by
 unfold K0 jK;rw[qA5,<- List.map_drop,<- List.map_take]
def DN (ns:Zk)(j:Nat)(z:Int):(ns.map W.int).set j (.int z)=(ns.set j z).map W.int:=by rw[List.map_set]
def IK (ns:Zk)(z:Int):ns.map W.int ++ [.int z]=(ns ++ [z]).map W.int:=by rw[qD0];rfl
def EC (k:Nat)(z:Int):(List.replicate k [W.int z]).flatten=(List.replicate k z).map W.int:=by
 induction k with
 |zero=>rfl
 |succ k I=>rw[qV7,List.flatten_cons,I,qV7,qB8];rfl
def dE {α:Type}(as:List α)(f:α->Int):(as.map λa=>W.int (f a))=(as.map f).map W.int:=by rw[qC8];rfl
def K3 {f:Zx}(h:k<n):((List.range n).map f).getD k 0=f k:=by
 rw[qA0,qC1];simp [h]
def aZ {a b:Zk}(h:b.length=a.length):(fE [a.map W.int,b.map W.int]).map W.tup=(List.range a.length).map λk=>W.tup [.int (a.getD k 0),.int (b.getD k 0)]:=by
 apply qO3;intro i;simp only [fE,qC1,qL5];by_cases hi:i<a.length
 .rw[P0 hi,P0 (ns:=b) ox];simp [hi]
 .simp [hi]
def zV {a b c:Zk}(h:b.length=a.length)(h':c.length=a.length):(fE [a.map W.int,b.map W.int,c.map W.int]).map W.tup=(List.range a.length).map λk=>W.tup [.int (a.getD k 0),.int (b.getD k 0),.int (c.getD k 0)]:=by
 apply qO3;intro i;simp only [fE,qC1,qL5,List.zip];by_cases hi:i<a.length
 .rw[P0 hi,P0 (ns:=b) ox,P0 (ns:=c) ox];simp [hi]
 .simp [hi]
def da (x y:W)(xs ys:Zp)(hx:C5 x=.ok xs)(I:C5 y=.ok ys):N4 [x,y]=.ok ((fE [xs,ys]).map W.tup):=by
 unfold N4;simp only [qD4,qN6,W8,hx,I,Nat.reduceAdd,true_or,qQ8]
def Dn (x y z:W)(xs ys I:Zp)(hx:C5 x=.ok xs)(hy:C5 y=.ok ys)(hz:C5 z=.ok I):N4 [x,y,z]=.ok ((fE [xs,ys,I]).map W.tup):=by
 unfold N4;simp only [qD4,qN6,W8,hx,hy,hz,Nat.reduceAdd,or_true,qQ8]
def JJ {i j:Int}(h:-18446744073709551616<i/\i<18446744073709551616):fI CMul o7 (.int i) (.int j)=.ok (.int (i*j)):=by
 change (if CMul i j then _ else _)=_;rw[qA2 (.inl (by simpa using h))]
def JI {i j:Int}(h:-18446744073709551616<j/\j<18446744073709551616):fI CMul o7 (.int i) (.int j)=.ok (.int (i*j)):=by
 change (if CMul i j then _ else _)=_;rw[qA2 (.inr (by simpa using h))]
def FY {i j:Int}(h:0<j):fI n9 o8 (.int i) (.int j)=.ok (.int (i%j)):=by
 change (if n9 i j then _ else _)=_;rw[qA2 h]
def div_ii {i j:Int}(h:0<j/\j<1073741824):fI w6 A9 (.int i) (.int j)=.ok (.int (i/j)):=by
 change (if w6 i j then _ else _)=_;rw[qA2 (show w6 i j from h)]
def Fu {i j:Int}(h:0<=j/\j<=1000000 /\ -18446744073709551616<i/\i<18446744073709551616):fI gB xY (.int i) (.int j)=.ok (.int (i^j.toNat)):=by
 change (if gB i j then _ else _)=_;rw[qA2 ⟨h.1,h.2.1,ox⟩]
def IL {ws:Zp}{w:W}{i:Nat}{ρ:Rho}(h:ws.length<1000):yH (some (.own ws)) (.ok w) i ρ=.ok (.nx (ρ.set i (.own (ws ++ [w])))):=by rw[Db,qA2 h]
def By {ws:Zp}(h:ws.length<=1000):qW ws=.ok (.tup ws):=by rw[xy,qA2 h]
def Bz {ws:Zp}(h:ws.length<=1000):qX ws=.ok (.lst ws):=by rw[xz,qA2 h]
def vt {c:Bool}{us vs:Zp}(h:us.length+vs.length<=1000):T0 c (.lst us) (.lst vs)=chks c (us++vs):=by
 change (if us.length+vs.length<=1000 then _ else _)=_;rw[qA2 h]
def He {c:Bool}{z:W}{k:Int}(h:0<=k/\k<=1000):fRep c (.lst [z]) (.int k)=chks c (List.replicate k.toNat [z]).flatten:=by
 change (if [z].length*k.toNat<=1000 /\ -1000<=k/\k<=1000 then _ else _)=_;rw[qA2 ⟨by simp only [qD4,qN6];omega,ox,h.2⟩]
def Kw {ns:Zk}{i:Int}(h:0<=i/\i<ns.length):L2.atI (ns.map W.int) i=some (.int (ns.getD i.toNat 0)):=atW h.1 h.2
def JL {n:Nat}{i:Int}(h:0<=i/\i<n):ixN n i=some i.toNat:=bE h.1 h.2
def Es {z:Int}(h:-1000000<=z/\z<=1000000):Q3 0 z=.ok ((List.range z.toNat).map λk=>W.int (k:Nat)):=wJ h.1 h.2
def Ok (r:R W)(P:W->Prop):Prop:=∃w,r=.ok w/\P w
def Po (r:R Fl)(I:Rho->Prop)(Jr:W->Prop):Prop:=match r with
 | .ok (.nx ρ)=>I ρ
 | .ok (.rt w)=>Jr w
 |_=>False
def n4 (h:Po r (λ_=>P .non) P):Ok (W0 r) P:=by
 cases r with
 |ex _=>show h.elim
 |stuck=>show h.elim
 | ok f=>cases f with
  |nx ρ=>show ⟨_,rfl,h⟩
  |rt w=>show ⟨_,rfl,h⟩
  |bk _=>show h.elim
  |ct _=>show h.elim
def M1 (h:Po r (λρ=>Po (n ρ) Jn Jr) Jr):Po (andThen r n) Jn Jr:=by
 cases r with
 |ex _=>show h.elim
 |stuck=>show h.elim
 | ok f=>cases f with
  |nx ρ=>show h
  |rt w=>show h
  |bk _=>show h.elim
  |ct _=>show h.elim
def Ju {ρ:Rho}{I:Rho->Prop}{Jr:W->Prop}:Po (.ok (.nx ρ)) I Jr=I ρ:=rfl
def Jt {w:W}{I:Rho->Prop}{Jr:W->Prop}:Po (.ok (.rt w)) I Jr=Jr w:=rfl
def E5 (h1:b=true->Po (m ρ) Jn Jr)(I:b=false->Po (n ρ) Jn Jr):Po (ifS (.ok b) m n ρ) Jn Jr:=by
 cases b with
 |true=>show h1 rfl
 |false=>show I rfl
def J1 (h1:b=true->Po (andThen (m ρ) k) Jn Jr)(I:b=false->Po (andThen (n ρ) k) Jn Jr):Po (andThen (ifS (.ok b) m n ρ) k) Jn Jr:=by
 cases b with
 |true=>show h1 rfl
 |false=>show I rfl
def Po.mono (h:Po r Jn Jr)(h1:∀ρ,Jn ρ->Jn' ρ)(I:∀w,Jr w->Jr' w):Po r Jn' Jr':=by
 cases r with
 |ex _=>show h
 |stuck=>show h
 | ok f=>cases f with
  |nx ρ=>show h1 ρ h
  |rt w=>show I w h
  |bk _=>show h
  |ct _=>show h
def tW (I:Nat->Rho->Prop):∀(ws:Zp) (k:Nat) (ρ:Rho),I k ρ ->
  (∀(i:Nat) (w:W) (ρ:Rho),ws[i]?=some w->I (k+i) ρ->∃a3,mg w ρ=some a3/\Po (mb a3) (I (k+i+1)) Jr)->Po (F6 mg mb ws ρ) (I (k+ws.length)) Jr:=by
 intro ws
 induction ws with
 |nil=>show λk ρ h _=>h
 | cons w ws ih=>
  intro k ρ h st;obtain ⟨a3,e1,p⟩:=st 0 w ρ rfl h;unfold F6;rw[e1]
  change Po (mb a3>>=_) _ _
  revert p
  cases mb a3 with
  |ex _=>show λp=>p.elim
  |stuck=>show λp=>p.elim
  | ok f=>cases f with
   |bk _=>show λp=>p.elim
   |ct _=>show λp=>p.elim
   |rt w=>show λp=>p
   | nx a4=>
    intro p
    have:=ih (k+1) a4 p λi w ρ hw hp=>by
     have:=st (i+1) w ρ hw (by rw[<- qT5 k i];show hp)
     rw[<- qT5 k i]at this;show this
    rw[qD4,<- qT5 k ws.length];show this
def mI (I:Nat->Rho->Prop)(h0:I 0 ρ)(st:∀(i:Nat) (w:W) (ρ:Rho),ws[i]?=some w->I i ρ->∃a3,mg w ρ=some a3/\Po (mb a3) (I (i+1)) Jr)(hn:∀ρ,I ws.length ρ->Jn ρ):Po (F6 mg mb ws ρ) Jn Jr:=by
 have:=tW (mg:=mg) (mb:=mb) (Jr:=Jr) I ws 0 ρ h0 λi w ρ hw hp=>by rw[qO8]at hp ⊢;show st i w ρ hw hp
 rw[qO8]at this;show this.mono hn λ_ h=>h
def t6 (I:Nat->Rho->Prop)(h0:I 0 ρ)(st:∀(i:Nat)(w:W)(ρ:Rho),ws[i]?=some w->I i ρ->∃a3,mg w ρ=some a3/\Po (mb a3) (I (i+1)) Jr)(hn:∀ρ,I ws.length ρ->Po (n ρ) Jn Jr):Po (andThen (F6 mg mb ws ρ) n) Jn Jr:=M1 (mI I h0 st hn)
def O2 (I:Nat->Rho->Prop)(st:∀m ρ,I m ρ->∃t,c ρ=.ok t/\if t=true then Po (b ρ) (λa3=>∃m',m'<m/\I m' a3) Jr else Jn ρ):∀(m:Nat) (ρ:Rho),I m ρ->Po (J3 c b ρ) Jn Jr:=by
 have key:∀(m:Nat) (ρ:Rho),I m ρ->∃r,L5 c b (m+1) ρ=some r/\Po r Jn Jr:=by
  intro m
  induction m using Nat.strongRecOn with
  | ind m ih=>
   intro ρ h;obtain ⟨t,e,q⟩:=st m ρ h;unfold L5;rw[e];cases t with
   |false=>rw[qA4 qA3]at q;show ⟨_,rfl,q⟩
   | true=>
    rw[qA2 rfl]at q;dsimp only
    revert q
    cases b ρ with
    |ex _=>show λq=>q.elim
    |stuck=>show λq=>q.elim
    | ok f=>cases f with
     |bk _=>show λq=>q.elim
     |ct _=>show λq=>q.elim
     |rt w=>show λq=>⟨_,rfl,q⟩
     | nx a3=>
      intro ⟨m',hm,h'⟩;obtain ⟨r,e',q'⟩:=ih m' hm a3 h';show ⟨r,cA (m'+1) a3 r e' m ox,q'⟩
 intro m ρ h;obtain ⟨r,e,q⟩:=key m ρ h;rw[kq e];show q
def pz (s:α->W)(p:α->Int->Prop):∀(as:List α),(∀a∈as,∃z,f (s a)=.ok (some (.int z))/\p a z)->∃I:List Int,mapR f (as.map s)=.ok (I.map W.int)/\Paired p as I
 | [],_=>⟨[],rfl,.nil⟩
 | a::as,h=>by
  obtain ⟨z,e,hz⟩:=h a ZW;obtain ⟨I,e2,hp⟩:=pz s p as λb hb=>h b (by simp [hb]);refine ⟨z::I,?_,.cons hz hp⟩;rw[qB8,mapR,e,e2];rfl
def rg (p:α->Int->Prop)(hl:as.length<=1000)(h:∀a∈as,∃I,mg (s a) (ρ++List.replicate (N'-ρ.length) Sl.un)=some I/\Ok (me I) λw=>∃z,w=.int z/\p a z):∃zs:List Int,l6 N' mg yes me (as.map s) ρ=.ok (lI zs)/\Paired p as zs:=by
 obtain ⟨zs,e,hp⟩:=pz (f:=elR mg yes me (ρ++List.replicate (N'-ρ.length) Sl.un)) s p as λa ha=>by
  obtain ⟨I,e1,w,e2,z,rfl,hz⟩:=h a ha;refine ⟨z,?_,hz⟩;unfold elR;rw[e1];have hy:yes I=.ok true:=rfl;dsimp only;rw[hy];dsimp only;rw[e2]
 refine ⟨zs,?_,hp⟩;unfold l6;rw[qA5,qA2 hl,e]
def mK {p:Nat->Int->Prop}(h:Paired p (List.range n) I):I.length=n/\∀k,k<n->p k (I.getD k 0):=by
 have hl:(List.range n).length=I.length:=Paired.length h;rw[qF1]at hl;refine ⟨hl.symm,λk hk=>?_⟩;have key:∀(l:Zy) (I:Zk) (k:Nat) (a:Nat),Paired p l I->l[k]?=some a->p a (I.getD k 0):=by
  intro l
  induction l with
  |nil=>intro I k a _ e;simp at e
  | cons b l ih=>
   intro I k a q e;cases q with
   | cons h1 h2=>
    cases k with
    |zero=>simp at e;subst e;show h1
    |succ k=>simp at e;simpa using ih _ k a h2 e
 show key _ I k k h (by simp [hk])
def OkL (r:R Zp)(P:List W->Prop):Prop:=∃w,r=.ok w/\P w
def tV (h:Ok r λw=>Jn (ρ.set i (f w))):Po (jO r f i ρ) Jn Jr:=by
 obtain ⟨w,rfl,q⟩:=h;show q
def pf (h:Ok r λw=>Po (n (ρ.set i (f w))) Jn Jr):Po (andThen (jO r f i ρ) n) Jn Jr:=M1 (tV h)
def xp (h:OkL r λw=>Ok (f w) P):Ok (r>>=f) P:=by
 obtain ⟨w,rfl,q⟩:=h;show q
def JG (h:Ok a λx=>P (x::xs)):OkL (iN a (.ok xs)) P:=by
 obtain ⟨w,rfl,q⟩:=h;show ⟨_,rfl,q⟩
def jl (p:α->Int->Prop)(hl:as.length<=1000)(h:∀a∈as,∃I,mg (s a) (ρ++List.replicate (N'-ρ.length) Sl.un)=some I/\Ok (me I) λw=>∃z,w=.int z/\p a z)(hp:∀zs,Paired p as zs->P (lI zs)):Ok (l6 N' mg yes me (as.map s) ρ) P:=by
 obtain ⟨zs,e,q⟩:=rg (mg:=mg) (me:=me) (ρ:=ρ) (N':=N') p hl h;show ⟨_,e,hp zs q⟩
def xo (p:α->Int->Prop)(hl:as.length<=1000)(h:∀a∈as,∃I,mg (s a) (ρ++List.replicate (N'-ρ.length) Sl.un)=some I/\Ok (me I) λw=>∃z,w=.int z/\p a z)(hp:∀zs,Paired p as zs->P (tI zs)):Ok (iN (l6 N' mg yes me (as.map s) ρ) (.ok [])>>=z7 c) P:=
 xp (JG (jl p hl h λzs q=>⟨_,by rw[vp,vH],hp zs q⟩))
def jX (p:Nat->Int->Prop)(hl:n<=1000)(h:∀k,k<n->∃a3,mg (.int (k:Nat)) (ρ++List.replicate (N'-ρ.length) Sl.un)=some a3/\Ok (me a3) λw=>∃z,w=.int z/\p k z)(hp:∀I:List Int,I.length=n->(∀k,k<n->p k (I.getD k 0))->P (tI I)):Ok (iN (l6 N' mg yes me ((List.range n).map λk=>W.int (k:Nat)) ρ) (.ok [])>>=z7 c) P:=
 xo p (by simpa using hl) (λa ha=>h a (by simpa using ha)) λI q=>let ⟨a,b⟩:=mK q;hp I a b
def ya (i j:Int):jD i j=max i j:=by unfold jD;omega
def xZ (i j:Int):GS i j=min i j:=by unfold GS;omega
def AV (h:Ok r Jr):Po (andThen (r>>=iZ) n) Jn Jr:=by
 obtain ⟨w,rfl,q⟩:=h;show q
def oW:Option Int->W
 |none=>.non
 |some i=>.int i
def oW_n:oW none=.non:=rfl
def oW_s (i:Int):oW (some i)=.int i:=rfl
def uv (o:VX):noL (oW o)=true:=by cases o <;> rfl
def HZ (o:VX):chk (oW o)=.ok (oW o):=o6 (uv o)
def fY {α:Type}(f:α->W)(h:∀a,noL (f a)=true)(as:List α):m9 (as.map f)=true:=by
 induction as with
 |nil=>rfl
 |cons a as I=>rw[qB8];simp only [m9,h,I,qN3]
def jo (cs:VW):m9 (cs.map oW)=true:=fY oW uv cs
def HW (c:Bool)(cs:VW):chks c (cs.map oW)=.ok (.lst (cs.map oW)):=jL (jo cs)
def Id (c:Bool)(cs:VW):W4 c (cs.map oW)=.ok (.tup (cs.map oW)):=bP (jo cs)
def GE (o:VX):isN (oW o)=o.isNone:=by cases o <;> rfl
def wx (o:VX):P7 (oW o)=.val (oW o):=by cases o <;> rfl
def bV {α:Type}(f:α->W){as:List α}{d:α}{i:Int}(h:0<=i/\i<as.length):L2.atI (as.map f) i=some (f (as.getD i.toNat d)):=by
 unfold L2.atI;rw[qA5,bE h.1 h.2]
 change (as.map f)[i.toNat]?=_;have hi:i.toNat<as.length:=ox;rw[qC1,qA0];simp [hi]
def Kx {cs:VW}{i:Int}(h:0<=i/\i<cs.length):L2.atI (cs.map oW) i=some (oW (cs.getD i.toNat none)):=bV oW h
def appO (cs:VW)(o:VX):cs.map oW ++ [oW o]=(cs ++ [o]).map oW:=by rw[qD0];rfl
def wQ {f:Nat->W}(h:((List.range n).map f)[i]?=some w):i<n/\w=f i:=by
 rw[qC1]at h;cases q:(List.range n)[i]? with
 |none=>rw[q]at h;cases h
 | some k=>
  rw[q]at h;obtain ⟨h1,I⟩:=qA6.mp q;simp at h1 I;subst I;cases h;show ⟨h1,rfl⟩
def u7 (ns:Zk):noL (tI ns)=true:=C8 ns
def gZ (ss:Zw):m9 (ss.map tI)=true:=fY tI u7 ss
def HV (c:Bool)(ss:Zw):chks c (ss.map tI)=.ok (.lst (ss.map tI)):=jL (gZ ss)
def Ic (c:Bool)(ss:Zw):W4 c (ss.map tI)=.ok (.tup (ss.map tI)):=bP (gZ ss)
def zM {ss:Zw}{i:Int}(h:0<=i/\i<ss.length):L2.atI (ss.map tI) i=some (tI (ss.getD i.toNat [])):=bV tI h
def IJ (ss:Zw)(s:Zk):ss.map tI ++ [tI s]=(ss ++ [s]).map tI:=by rw[qD0];rfl
def gA {α:Type}(xs:List α)(lo hi:VX):List α:=(xs.drop (HT.sIx xs.length 0 lo)).take (HT.sIx xs.length xs.length hi-HT.sIx xs.length 0 lo)
def yw (f:α->W)(as:List α)(lo hi:VX):K0 (as.map f) lo hi=(gA as lo hi).map f:=by
 unfold K0 gA;rw[qA5,<- List.map_drop,<- List.map_take]
def HI (ss:Zw)(lo hi:VX):K0 (ss.map tI) lo hi=(gA ss lo hi).map tI:=yw tI ss lo hi
def Ig (ss I:Zw):ss.map tI++I.map tI=(ss++I).map tI:=by rw[qD0]
def Ih (ss I:Zk):ss.map W.int++I.map W.int=(ss++I).map W.int:=by rw[qD0]
def Et {lo hi:Int}(h:-1000000<=lo/\lo<=1000000 /\ -1000000<=hi/\hi<=1000000):Q3 lo hi=.ok ((List.range (hi-lo).toNat).map λk=>W.int (lo+(k:Nat))):=by
 unfold Q3;rw[qA2 h]
def eqv_refl:∀w:W,PyData.eqv (pd w) (pd w)=true:=by
 intro w;refine W.rec (motive_1:=λw=>PyData.eqv (pd w) (pd w)=true) (motive_2:=λws=>PyData.eqvAll (pds ws) (pds ws)=true) ?_ ?_ ?_ ?_ ?_ ?_ ?_ ?_ ?_ ?_ ?_ ?_ w
 .rfl
 .intro b;cases b <;> rfl
 .intro b;show qU2 b
 .intro b;show qU2 b
 .intro b;rfl
 .show λws h=>h
 .show λws h=>h
 .show λws h=>h
 .intro b c;rfl
 .intro b;rfl
 .rfl
 .intro w ws h1 I;show (qH1 _ _).mpr ⟨h1,I⟩
def yk (w:W):eqW w w=true:=eqv_refl w
def Y4 {α:Type}(f:α->W)(n:Nat)(h:∀a,shp n (f a)=true)(as:List α):P8 n (as.map f)=true:=by
 induction as with
 |nil=>rfl
 |cons a as I=>rw[qB8];simp only [P8,h,I,qN3]
def S2 (n:Nat)(i:Int):shp n (.int i)=true:=by cases n <;> rfl
def tf (n:Nat)(b:Bool):shp n (.bl b)=true:=by cases n <;> rfl
def bf (n:Nat)(ns:Zk):shp (n+1) (tI ns)=true:=Y4 W.int n (S2 n) ns
def sZ (n:Nat)(ns:Zk):shp (n+1) (lI ns)=true:=Y4 W.int n (S2 n) ns
def gG (n:Nat)(ss:Zw):shp (n+2) (.lst (ss.map tI))=true:=Y4 tI (n+1) (bf n) ss
def nO (h:shp 8 w=true):fEq neg w w=.ok (.bl (!neg)):=by
 unfold fEq;rw[h,yk];cases neg <;> rfl
def eqI:∀(a b:Zk),PyData.eqvAll (pds (a.map W.int)) (pds (b.map W.int))=decide (a=b)
 | [],[]=>by simp [pds,PyData.eqvAll]
 | [],_::_=>by simp [pds,PyData.eqvAll]
 |_::_,[]=>by simp [pds,PyData.eqvAll]
 | x::a,y::b=>by
  simp only [qB8,pds,pd,PyData.eqvAll,PyData.eqv,eqI a b];by_cases h:x=y <;> by_cases h':a=b <;> simp [h,h']
def Ho (neg:Bool)(a b:Zk):fEq neg (tI a) (tI b)=.ok (.bl (if neg then !decide (a=b) else decide (a=b))):=by
 unfold fEq;rw[bf,bf]
 have:eqW (tI a) (tI b)=decide (a=b):=eqI a b
 rw[this];rfl
def Ht (neg:Bool)(a b:Zk):fEq neg (lI a) (lI b)=.ok (.bl (if neg then !decide (a=b) else decide (a=b))):=by
 unfold fEq;rw[sZ,sZ]
 have:eqW (lI a) (lI b)=decide (a=b):=eqI a b
 rw[this];rfl
def HC:∀(a b:Zw),PyData.eqvAll (pds (a.map tI)) (pds (b.map tI))=decide (a=b)
 | [],[]=>by simp [pds,PyData.eqvAll]
 | [],_::_=>by simp [pds,PyData.eqvAll]
 |_::_,[]=>by simp [pds,PyData.eqvAll]
 | x::a,y::b=>by
  simp only [qB8,pds,pd,PyData.eqvAll,PyData.eqv,HC a b,eqI];by_cases h:x=y <;> by_cases h':a=b <;> simp [h,h']
def vq (neg:Bool)(a b:Zw):fEq neg (.lst (a.map tI)) (.lst (b.map tI))=.ok (.bl (if neg then !decide (a=b) else decide (a=b))):=by
 unfold fEq;rw[gG,gG]
 have:eqW (.lst (a.map tI)) (.lst (b.map tI))=decide (a=b):=HC a b
 rw[this];rfl
def R6 (neg:Bool)(i j:Int):fEq neg (.int i) (.int j)=.ok (.bl (if neg then !decide (i=j) else decide (i=j))):=by
 unfold fEq;rw[S2,S2]
 have:eqW (.int i) (.int j)=decide (i=j):=by
  by_cases h:i=j <;> simp [eqW,pd,PyData.eqv,h]
 rw[this];rfl
def Hv (neg:Bool)(i j:Bool):fEq neg (.bl i) (.bl j)=.ok (.bl (if neg then !decide (i=j) else decide (i=j))):=by
 unfold fEq;rw[tf,tf]
 have:eqW (.bl i) (.bl j)=decide (i=j):=by cases i <;> cases j <;> rfl
 rw[this];rfl
def Hr (neg:Bool)(j:Int):fEq neg .non (.int j)=.ok (.bl neg):=by cases neg <;> rfl
def Hu (neg:Bool)(j:Int):fEq neg (.int j) .non=.ok (.bl neg):=by cases neg <;> rfl
def Hq (neg:Bool):fEq neg .non .non=.ok (.bl (!neg)):=by cases neg <;> rfl
def yj (g:List Bool->Bool)(bs:List Bool):ix g [.lst (bs.map W.bl)]=.ok (.bl (g bs)):=by
 change (toR (ao (bs.map W.bl))>>=_)=_;rw[CU];rfl
def Cp (g:List Int->Int)(ns:Zk):aJ g [.lst (ns.map W.int)]=.ok (.int (g ns)):=by
 change (toR (z6 (ns.map W.int))>>=_)=_;rw[ints_map];rfl
def Hl (i:Int):fInt [.int i]=.ok (.int i):=rfl
def Hm (b:Bool):fInt [.bl b]=.ok (.int (if b then 1 else 0)):=rfl
def Hw (i:Int):fAbs [.int i]=.ok (.int (if i<0 then -i else i)):=rfl
def Hz (o:Option Sl)(r:R W)(c:Bool)(i:Nat)(ρ:Rho):R Fl:=match o with
 | some (.own ws)=>r>>=λw=>(match w with
  | .lst us=>if ws.length+us.length<=1000 then (if c||m9 us then .ok (.nx (ρ.set i (.own (ws++us)))) else .stuck) else .stuck
  |_=>.stuck)
 |_=>.stuck
def BE (i:Nat)(c:Bool)(m:Zo)(ρ:Rho):nr i c m ρ=Hz (ρ[i]?) (m ρ) c i ρ:=rfl
def Hy {ws us:Zp}{c:Bool}{i:Nat}{ρ:Rho}(h:ws.length+us.length<=1000):Hz (some (.own ws)) (.ok (.lst us)) c i ρ=if c||m9 us then .ok (.nx (ρ.set i (.own (ws++us)))) else .stuck:=by
 change (if ws.length+us.length<=1000 then _ else _)=_;rw[qA2 h]
def EB (o:Option Sl)(i:Nat)(ρ:Rho):R Fl:=match o with
 |some (.own ws)=>.ok (.nx (ρ.set i (.own ws.reverse)))
 |_=>.stuck
def BD (i:Nat)(ρ:Rho):mRev i ρ=EB (ρ[i]?) i ρ:=rfl
def Ax (ws:Zp)(i:Nat)(ρ:Rho):EB (some (.own ws)) i ρ=.ok (.nx (ρ.set i (.own ws.reverse))):=rfl
def dz (J:Rho->Prop)(h1:Po r J Jr)(I:∀ρ,J ρ->Po (n ρ) Jn Jr):Po (andThen r n) Jn Jr:=M1 (h1.mono I λ_ h=>h)
def Ch (i j:Int):B0 i j=.int (i+j):=rfl
def Cf (i j:Int):TP.gSub i j=.int (i-j):=rfl
def GT (i j:Int):gLt i j=.bl (decide (i<j)):=rfl
def GU (i j:Int):gLe i j=.bl (decide (i<=j)):=rfl
def GV (i j:Int):gGt i j=.bl (decide (j<i)):=rfl
def GW (i j:Int):gGe i j=.bl (decide (j<=i)):=rfl
def Cg (i:Int):F8 i=.int (-i):=rfl
def yd (i j:Int):rE i j=i+j:=rfl
def xX (i j:Int):JN i j=i-j:=rfl
def Hd {i:Int}(h:0<=i/\i<1000):fStr [.int i]=.ok (.str (toString i)):=by
 change (if i.natAbs.log2<1920 then _ else _)=_;rw[qA2];refine qD7 (Nat.log2_le_self _) ?_;omega
def Hk (neg:Bool)(u:W)(b:Bool):fIsB neg u (.bl b)=.ok (.bl (if neg then !aT u b else aT u b)):=rfl
def GJ (i:Int)(b:Bool):aT (.int i) b=false:=rfl
def GH (b:Bool):aT .non b=false:=rfl
def GG (x:Str)(b:Bool):aT (.str x) b=false:=rfl
def GF (x:Zp)(b:Bool):aT (.tup x) b=false:=rfl
def GI (x:Zp)(b:Bool):aT (.lst x) b=false:=rfl
def GK (a b:Bool):aT (.bl a) b=(a == b):=rfl
def Rcu (c:Bool)(r:R Zp)(f:List W->R W)(i:Nat)(ρ:Rho):R Fl:=if c then (r>>=λws=>f ws>>=λw=>.ok (.nx (ρ.set i (.par w)))) else .stuck
def Eb (i:Nat)(f:List W->R W)(ma:ZQ)(ρ:Rho):sCU i f ma ρ=Rcu (noOwn ρ) (ma ρ) f i ρ:=rfl
def IR (r:R W)(i:Nat)(ρ:Rho):R Fl:=r>>=λw=>.ok (.nx (ρ.set i (.par w)))
def KA (ws:Zp)(f:List W->R W)(i:Nat)(ρ:Rho):Rcu true (.ok ws) f i ρ=IR (f ws) i ρ:=rfl
def Dj (w:W)(i:Nat)(ρ:Rho):IR (.ok w) i ρ=.ok (.nx (ρ.set i (.par w))):=rfl
def uu:noOwn []=true:=rfl
def Bl (w:W)(ρ:Rho):noOwn (.val w::ρ)=noOwn ρ:=rfl
def Bo (w:W)(ρ:Rho):noOwn (.par w::ρ)=noOwn ρ:=rfl
def Bm (ρ:Rho):noOwn (.un::ρ)=noOwn ρ:=rfl
def Cy {g:List Int->Int}{ns:Zk}(h:0<ns.length):zB g [tI ns]=.ok (.int (g ns)):=by
 change (toR (z6 (ns.map W.int))>>=_)=_;rw[ints_map]
 change (if 0<ns.length then _ else _)=_;rw[qA2 h]
def Cz {g:List Int->Int}{ns:Zk}(h:0<ns.length):zB g [lI ns]=.ok (.int (g ns)):=by
 change (toR (z6 (ns.map W.int))>>=_)=_;rw[ints_map]
 change (if 0<ns.length then _ else _)=_;rw[qA2 h]
def EA (ws:Zp):iY [.lst ws]=.ok ws.reverse:=rfl
def rp0:=Z1 (@ya) (Z1 (@xZ) (Z1 (@Ju) (Z1 (@Jt) (Z1 (@JJ) (Z1 (@JI) (Z1 (@FY) (Z1 (@div_ii) (Z1 (@Fu) (Z1 (@IL) (Z1 (@By) (Z1 (@Bz) (Z1 (@vt) (Z1 (@He) (Z1 (@Kw) (Z1 (@JL) (Z1 (@Es) (Z1 (@HJ) (Z1 (@DN) (Z1 (@IK) (Z1 (@EC) (Z1 (@BC) (Z1 (@rS) (Z1 (@rR) (@rV))))))))))))))))))))))))
def rp1:=Z1 (@rT) (Z1 (@JK) (Z1 (@Kv) (Z1 (@Ku) (Z1 (@IU) (Z1 (@Kt) (Z1 (@Ks) (Z1 (@Kr) (Z1 (@Ky) (Z1 (@Kz) (Z1 (@yM) (Z1 (@CZ) (Z1 (@yG) (Z1 (@Ah) (Z1 (@DB) (Z1 (@Ag) (Z1 (@AI) (Z1 (@AJ) (Z1 (@AH) (Z1 (@EU) (Z1 (@ET) (Z1 (@EV) (Z1 (@AD) (Z1 (@Ac) (@Dr))))))))))))))))))))))))
def rp2:=Z1 (@Aa) (Z1 (@wW) (Z1 (@wX) (Z1 (@wV) (Z1 (@AA) (Z1 (@Az) (Z1 (@AB) (Z1 (@wT) (Z1 (@Ds) (Z1 (@AE) (Z1 (@AG) (Z1 (@AF) (Z1 (@sw) (Z1 (@vZ) (Z1 (@zZ) (Z1 (@Ab) (Z1 (@JD) (Z1 (@JC) (Z1 (@ug) (Z1 (@Dq) (Z1 (@Dg) (Z1 (@Df) (Z1 (@wf) (Z1 (@yN) (@DY))))))))))))))))))))))))
def rp3:=Z1 (@Ec) (Z1 (@DZ) (Z1 (@wF) (Z1 (@yL) (Z1 (@Ar) (Z1 (@Ay) (Z1 (@wE) (Z1 (@Ja) (Z1 (@Jb) (Z1 (@Je) (Z1 (@Dh) (Z1 (@sX) (Z1 (@sR) (Z1 (@sY) (Z1 (@wy) (Z1 (@sW) (Z1 (@sT) (Z1 (@Jd) (Z1 (@Dl) (Z1 (@sM) (Z1 (@Au) (Z1 (@Di) (Z1 (@As) (Z1 (@GY) (@yg))))))))))))))))))))))))
def rp4:=Z1 (@ye) (Z1 (@yf) (Z1 (@Cj) (Z1 (@jt) (Z1 (@EF) (Z1 (@ED) (Z1 (@EE) (Z1 (@EG) (Z1 (@EH) (Z1 (@EK) (Z1 (@EI) (Z1 (@EJ) (Z1 (@EL) (Z1 (@EM) (Z1 (@EN) (Z1 (@EO) (Z1 (@rd) (Z1 (@wN) (Z1 (@wL) (Z1 (@wM) (Z1 (@BG) (Z1 (@BB) (Z1 (@Ao) (Z1 (@tj) (@BF))))))))))))))))))))))))
def rp5:=Z1 (@Da) (Z1 (@Ga) (Z1 (@GM) (Z1 (@GN) ((((((Z1 (@CD) (Z1 (@CF) (Z1 (@Hn) (Z1 (@fU_i) (Z1 (@JT) (Z1 (@JR) (Z1 (@JS) (Z1 (@wn) (Z1 (@Dy) (Z1 (@Hi) (Z1 (@Hf) (Z1 (@Hg) (Z1 (@Cn) (Z1 (@Cm) (Z1 (@vp) (@Hc))))))))))))))))))))))))
def rp6:=Z1 (@HU) (Z1 (@Ib) (Z1 (@HX) (Z1 (@vH) (Z1 (@CK) (Z1 (@Ia) (Z1 (@CI) (Z1 (@CJ) (Z1 (@HY) (Z1 (@JU) (Z1 (@DS) (Z1 (@DQ) (Z1 (@DR) (Z1 (@Ew) (Z1 (@Ev) (Z1 (@gN_U) (Z1 (@gN_V) (Z1 (@gT_t) (Z1 (@xW) (Z1 (@Cc) (Z1 (@Co) (Z1 (@Gr) (Z1 (@Gs) (Z1 (@Gw) (@Gm))))))))))))))))))))))))
def rp7:=Z1 (@Hj) (Z1 (@C8) (Z1 (@Cu) (Z1 (@Cv) (Z1 (@Cq) (Z1 (@Cr) (Z1 (@Cs) (@Ct)))))))
def rp8:=Z1 (@oW_n) (Z1 (@oW_s) (Z1 (@HZ) (Z1 (@jo) (Z1 (@HW) (Z1 (@Id) (Z1 (@GE) (Z1 (@wx) (Z1 (@Kx) (@appO)))))))))
def rp9:=Z1 (@gZ) (Z1 (@HV) (Z1 (@Ic) (Z1 (@zM) (Z1 (@IJ) (Z1 (@HI) (Z1 (@Ig) (Z1 (@Ih) (Z1 (@Et) (Z1 (@Ho) (Z1 (@Ht) (Z1 (@vq) (Z1 (@R6) (Z1 (@Hv) (Z1 (@Hr) (Z1 (@Hu) (Z1 (@Hq) ((Z1 (@yj) (Z1 (@Cp) (Z1 (@Hl) (Z1 (@Hm) (Z1 (@Hw) (Z1 (@BE) (Z1 (@Hy) (Z1 (@BD) (@Ax))))))))))))))))))))))))))
def rp10:=Z1 (@Ch) (Z1 (@Cf) (Z1 (@GT) (Z1 (@GU) (Z1 (@GV) (Z1 (@GW) (Z1 (@Cg) (Z1 (@yd) (@xX))))))))
def rp11:=Z1 (@Hd) (Z1 (@Hk) (Z1 (@GJ) (Z1 (@GH) (Z1 (@GG) (Z1 (@GF) (Z1 (@GI) (@GK)))))))
def rp12:=Z1 (@Eb) (Z1 (@KA) (Z1 (@Dj) (Z1 (@uu) (Z1 (@Bl) (Z1 (@Bo) (@Bm))))))
def rp13:=Z1 (@Cy) (Z1 (@Cz) (@EA))
end TP
set_option maxHeartbeats 4000000
open PySem L2 TP
namespace K87
def nk:Zg:=
 (d0 (A0 (bI N4 (aC (b7 .U 0) (aC (b7 .U 1) aN))) (gT 2 (n8 (gN .U 2) (n8 (gN .U 3) gsNil)))
   (mIf (f6 (b2 (fI0 gLt) (b7 .B 2) (b7 .B 3))) (i5 (mC (.bl false))) sNx))
  (i5 (mC (.bl true))))
abbrev ae:List W->R W:=g9 2 4 nk
def uG:Zg:=
 (i5 (bA ae (aC (b7 .B 0) (aC (b2 fIx (b7 .B 1) (mC (.int 0))) aN))))
abbrev dW:List W->R W:=g9 2 2 uG
def nq:Zg:=
 (i5 (bA (z7 true) (aC (k7 3 (bI N4 (aC (b2 fIx (b7 .B 0) (mC (.int 0))) (aC (b2 fIx (b7 .B 0) (mC (.int 1))) aN))) (gT 2 (n8 (gN .U 1) (n8 (gN .U 2) gsNil))) yes (b2 (fI0 gSub) (b7 .B 2) (b7 .B 1))) aN)))
abbrev af:List W->R W:=g9 1 1 nq
def pE:Zg:=
 (d0 (mIf (W7 (f6 (bA dW (aC (b7 .B 0) (aC (b7 .B 1) aN))))) tE sNx)
  (i5 (bA (z7 true) (aC (k7 4 (bI N4 (aC (b7 .B 0) (aC (bA af (aC (b7 .B 1) aN)) aN))) (gT 2 (n8 (gN .U 2) (n8 (gN .U 3) gsNil))) yes (b2 (fI0 B0) (b7 .B 2) (b7 .B 3))) aN))))
abbrev S8:List W->R W:=g9 2 2 pE
def ni:Zg:=
 (d0 (A0 (bS (b7 .U 1)) (gN .U 2)
   (mIf (f6 (bA ae (aC (b7 .B 0) (aC (b7 .B 2) aN)))) (i5 (mC (.bl true))) sNx))
  (i5 (mC (.bl false))))
abbrev O6:List W->R W:=g9 2 3 ni
def pB:Zg:=
 (d0 (sF 1 (y6 aN))
  (d0 (A0 (bS (bA fSortA (aC (b7 .B 0) aN))) (gN .U 2)
   (mIf (W7 (f6 (bA O6 (aC (b7 .B 2) (aC (b7 .B 1) aN))))) (Q8 1 (b7 .V 2)) sNx))
  (v9 .F 1)))
abbrev fc:List W->R W:=g9 1 3 pB
def ng:Zg:=
 (i5 (bA (z7 true) (aC (k7 5 (bI N4 (aC (b7 .B 0) (aC (b2 fIx (b7 .B 1) (mC (.int 0))) (aC (b2 fIx (b7 .B 1) (mC (.int 1))) aN)))) (gT 3 (n8 (gN .U 2) (n8 (gN .U 3) (n8 (gN .U 4) gsNil)))) yes (bA (f2 jD) (aC (b7 .B 3) (aC (b2 (fI0 B0) (b2 (fI0 gSub) (b7 .B 2) (b7 .B 4)) (b7 .B 3)) aN)))) aN)))
abbrev gq:List W->R W:=g9 2 2 ng
def kh:Zg:=
 (d0 (sF 2 (y6 aN))
  (d0 (A0 (bS (b7 .U 0)) (gN .U 3)
   (nr 2 true (k7 5 (bS (b7 .B 1)) (gN .U 4) yes (bA gq (aC (b7 .B 4) (aC (b7 .B 3) aN))))))
  (v9 .F 2)))
abbrev V1:List W->R W:=g9 2 4 kh
def fk:Zg:=
 (i5 (bA fc (aC (b2 (T0 true) (bA (X6 false) (aC (b7 .B 1) aN)) (bA V1 (aC (b7 .B 0) (aC (b7 .B 1) aN)))) aN)))
abbrev U3:List W->R W:=g9 2 2 fk
def km:Zg:=
 (i5 (bA (ix yc) (aC (k7 3 (bS (bA V1 (aC (b7 .B 0) (aC (b7 .B 1) aN)))) (gN .U 2) yes (bA O6 (aC (b7 .B 2) (aC (b7 .B 1) aN)))) aN)))
abbrev dS:List W->R W:=g9 2 2 km
def nj:Zg:=
 (d0 (sV 4 (b2 fIx (b7 .C 1) (b1 (fU F8) (mC (.int 1)))))
  (d0 (sV 5 (b2 (fI0 gSub) (bA fLen (aC (b7 .B 1) aN)) (mC (.int 1))))
  (d0 (mIf (f6 (b2 (fI0 gGt) (bA fLen (aC (b7 .B 4) aN)) (b7 .B 2))) (i5 (u9 (aC (mC (.str "open")) (aC (b7 .V 5) aN)))) sNx)
  (d0 (mIf (f6 (bA dS (aC (b7 .B 0) (aC (b7 .B 4) aN)))) (i5 (u9 (aC (b7 .V 3) (aC (b7 .V 4) aN)))) sNx)
  (d0 (mIf (f6 (b2 (fEq false) (b7 .B 5) (b7 .B 2))) (i5 (u9 (aC (mC (.str "open")) (aC (b7 .V 5) aN)))) sNx)
  (i5 (mC .non)))))))
abbrev cF:List W->R W:=O1 4 6 nj
def dH:Zg:=
 (i5 (k7 5 (bI T4 (aC (b7 .B 1) aN)) (gT 2 (n8 (gN .U 3) (n8 (gN .U 4) gsNil))) (eE (f6 (bA dW (aC (b7 .B 0) (aC (b7 .B 4) aN)))) (f6 (bA O6 (aC (bA S8 (aC (b7 .B 0) (aC (b7 .B 4) aN))) (aC (b7 .B 2) aN))))) (b7 .V 3)))
abbrev ad:List W->R W:=g9 3 3 dH
def dG:Zg:=
 (d0 (sF 2 (y6 aN))
  (d0 (sV 3 (b2 fIx (b7 .C 0) (mC (.int 0))))
  (d0 (A0 (bI iY (aC (vSl true (b7 .C 1) pN (pS (b1 (fU F8) (mC (.int 1))))) aN)) (gN .U 4)
   (d0 (sV 5 (b2 fIx (bA ad (aC (b7 .B 3) (aC (b2 fIx (b7 .B 0) (mC (.int 1))) (aC (b7 .B 4) aN)))) (mC (.int 0))))
   (d0 (Q8 2 (b7 .V 5))
   (sF 3 (bA S8 (aC (b7 .B 3) (aC (b2 fIx (b2 fIx (b7 .B 0) (mC (.int 1))) (b7 .B 5)) aN)))))))
  (v9 .V 2))))
abbrev R5:List W->R W:=O1 2 6 dG
def pD:Zg:=
 (d0 (sF 3 (y6 (aC (y6 (aC (b7 .V 1) aN)) aN)))
  (d0 (J3 (W7 (f6 (bA O6 (aC (b2 fIx (b7 .B 0) (mC (.int 0))) (aC (b2 fIx (b7 .B 3) (b1 (fU F8) (mC (.int 1)))) aN))))) (d0 (sCX 4 [3] cF (aC (R8 (b2 fIx (b7 .B 0) (mC (.int 1)))) (aC (b7 .V 3) (aC (b7 .V 2) (aC (mC (.str "wall")) aN)))))
   (d0 (mIf (f6 (b2 (ai true) (b7 .B 4) (mC .non))) (v9 .V 4) sNx)
   (Q8 3 (bA U3 (aC (b2 fIx (b7 .B 0) (mC (.int 1))) (aC (b2 fIx (b7 .B 3) (b1 (fU F8) (mC (.int 1)))) aN)))))))
  (F3 3 (i5 (u9 (aC (mC (.str "row")) (aC (bA R5 (aC (b7 .V 0) (aC (b7 .V 3) aN))) aN)))))))
abbrev jG:List W->R W:=g9 3 5 pD
def ki:Zg:=
 (i5 (bA (z7 true) (aC (k7 5 (bI N4 (aC (b7 .B 0) (aC (b7 .B 1) aN))) (gT 2 (n8 (gN .U 3) (n8 (gN .U 4) gsNil))) yes (b2 (fI0 B0) (b7 .B 3) (b2 (fI CMulB o7) (b7 .B 2) (b7 .B 4)))) aN)))
abbrev dQ:List W->R W:=g9 3 3 ki
def pA:Zg:=
 (i5 (bA (aJ K4) (aC (k7 4 (bI N4 (aC (b7 .B 0) (aC (b7 .B 1) aN))) (gT 2 (n8 (gN .U 2) (n8 (gN .U 3) gsNil))) yes (b2 (fI CMulB o7) (b7 .B 2) (b7 .B 3))) aN)))
abbrev bG:List W->R W:=g9 2 2 pA
def uE:Zg:=
 (i5 (bA (z7 true) (aC (k7 3 (bI F4 (aC (b7 .B 1) aN)) (gN .U 2) yes (vIf (f6 (b2 (fEq false) (b7 .B 2) (b7 .B 0))) (mC (.int 1)) (mC (.int 0)))) aN)))
abbrev nL:List W->R W:=g9 2 2 uE
def kl:Zg:=
 (i5 (bA dQ (aC (b7 .B 0) (aC (b7 .B 1) (aC (b1 (fU F8) (b2 (fI aO gFz) (b2 fIx (b7 .B 0) (b7 .B 2)) (b2 fIx (b7 .B 1) (b7 .B 2)))) aN)))))
abbrev aI:List W->R W:=g9 3 3 kl
def ko:Zg:=
 (d0 (J3 (f6 (b2 (t7 true) (b2 fIx (b7 .B 1) (b7 .B 2)) (mC (.int 0)))) (d0 (sF 3 (bA aI (aC (b7 .B 0) (aC (b7 .B 1) (aC (b7 .B 2) aN)))))
   (d0 (sV 0 (b7 .V 1))
   (F3 3 (sV 1 (b7 .V 3))))))
  (i5 (u9 (aC (b7 .V 0) (aC (b7 .V 1) aN)))))
abbrev dU:List W->R W:=g9 3 4 ko
def ic:Zg:=
 (d0 (sF 2 (vSl false (b7 .B 0) pN (pS (mC (.int 1)))))
  (d0 (A0 (bS (vSl false (b7 .B 0) (pS (mC (.int 1))) pN)) (gN .U 3)
   (d0 (sF 4 (bA dU (aC (b2 fIx (b7 .B 2) (mC (.int 0))) (aC (b7 .B 3) (aC (b7 .B 1) aN)))))
   (sF 2 (b2 (T0 true) (b2 (T0 true) (y6 (aC (b2 fIx (b7 .C 4) (mC (.int 0))) aN)) (vSl true (b7 .C 2) (pS (mC (.int 1))) pN)) (y6 (aC (b2 fIx (b7 .C 4) (mC (.int 1))) aN))))))
  (v9 .F 2)))
abbrev cE:List W->R W:=g9 2 5 ic
def dF:Zg:=
 (i5 (vIf (f6 (b2 (fI0 gGt) (b2 fIx (b7 .B 0) (b7 .B 1)) (mC (.int 0)))) (b7 .F 0) (bA (z7 true) (aC (k7 3 (bS (b7 .B 0)) (gN .U 2) yes (b1 (fU F8) (b7 .B 2))) aN))))
abbrev aH:List W->R W:=g9 2 2 dF
def uF:Zg:=
 (d0 (sF 1 (y6 aN))
  (d0 (sU 2 (b7 .U 0))
  (d0 (sV 3 (mC (.int 0)))
  (d0 (J3 (f6 (b2 (fI0 gGt) (bA fLen (aC (b7 .B 2) aN)) (mC (.int 0)))) (d0 (sF 2 (bA cE (aC (b7 .B 2) (aC (b7 .B 3) aN))))
   (d0 (mIf (f6 (b2 (t7 true) (b2 fIx (b2 fIx (b7 .B 2) (mC (.int 0))) (b7 .B 3)) (mC (.int 0)))) (d0 (sF 4 (bA aH (aC (b2 fIx (b7 .B 2) (mC (.int 0))) (aC (b7 .B 3) aN))))
    (d0 (F3 4 (sF 1 (b2 (T0 true) (k7 6 (bS (b7 .B 1)) (gN .U 5) yes (bA aI (aC (b7 .B 5) (aC (b7 .B 4) (aC (b7 .B 3) aN))))) (y6 (aC (b7 .V 4) aN)))))
    (sF 2 (vSl true (b7 .C 2) (pS (mC (.int 1))) pN)))) sNx)
   (ju 3 rE (mC (.int 1))))))
  (v9 .F 1)))))
abbrev nM:List W->R W:=g9 1 5 uF
def ie:Zg:=
 (d0 (sF 2 (k7 7 (bI F4 (aC (b7 .B 1) aN)) (gN .U 6) yes (bA nL (aC (b7 .B 6) (aC (b7 .B 1) aN)))))
  (d0 (A0 (bS (b7 .U 0)) (gN .U 3)
   (d0 (sF 4 (bA af (aC (b7 .B 3) aN)))
   (d0 (sF 5 (bA nM (aC (k7 7 (bS (b7 .B 2)) (gN .U 6) yes (b2 fCatT (u9 (aC (bA bG (aC (b7 .B 6) (aC (b7 .B 4) aN))) aN)) (b7 .B 6))) aN)))
   (sF 2 (k7 7 (bS (b7 .B 5)) (gN .U 6) (f6 (b2 (t7 false) (b2 fIx (b7 .B 6) (mC (.int 0))) (mC (.int 0)))) (lO (b7 .B 6) (pS (mC (.int 1))) pN))))))
  (v9 .F 2)))
abbrev N2:List W->R W:=g9 2 6 ie
def hV:Zg:=
 (d0 (sF 2 (y6 aN))
  (d0 (sV 3 (b7 .V 1))
  (d0 (J3 (f6 (b2 (ai true) (b7 .B 3) (mC .non))) (d0 (Q8 2 (b7 .V 3))
   (sU 3 (b2 fIx (b2 fIx (b7 .B 0) (b7 .B 3)) (mC (.int 1))))))
  (v9 .F 2))))
abbrev X4:List W->R W:=g9 2 4 hV
def zk:Zg:=
 (i5 (bA iw (aC (bA X4 (aC (b7 .B 0) (aC (b7 .B 1) aN))) aN)))
abbrev rG:List W->R W:=g9 2 2 zk
def cT:Zg:=
 (d0 (sF 3 (bA rG (aC (b7 .B 0) (aC (b7 .B 2) aN))))
  (i5 (k7 5 (bS (vSl true (b7 .C 3) (pS (b2 (fI0 B0) (gc (b7 .B 3) (b7 .B 1)) (mC (.int 1)))) pN)) (gN .U 4) yes (R8 (b2 fIx (b2 fIx (b7 .B 0) (b7 .B 4)) (mC (.int 2)))))))
abbrev V9:List W->R W:=g9 3 4 cT
def aD:Zg:=
 (i5 (k7 4 (bI T4 (aC (b2 fIx (b7 .B 0) (mC (.int 1))) aN)) (gT 2 (n8 (gN .U 2) (n8 (gN .U 3) gsNil))) (f6 (bA dW (aC (b7 .B 1) (aC (b7 .B 3) aN)))) (u9 (aC (bA S8 (aC (b7 .B 1) (aC (b7 .B 3) aN))) (aC (b7 .V 2) aN)))))
abbrev R4:List W->R W:=g9 2 2 aD
def pC:Zg:=
 (d0 (sF 2 (y6 (aC (u9 (aC (R8 (b2 fIx (b7 .B 0) (mC (.int 0)))) (aC (mC .non) (aC (mC .non) aN)))) aN)))
  (d0 (lB 3 (b2 fIx (b7 .B 0) (mC (.int 0))) (mC (.bl true)))
  (d0 (sV 4 (mC (.int 0)))
  (d0 (J3 (f6 (b2 (fI0 gLt) (b7 .B 4) (bA fLen (aC (b7 .B 2) aN)))) (d0 (sV 5 (b2 fIx (b2 fIx (b7 .C 2) (b7 .C 4)) (mC (.int 0))))
   (d0 (A0 (bS (bA R4 (aC (b7 .B 0) (aC (b7 .B 5) aN)))) (gT 2 (n8 (gN .U 6) (n8 (gN .U 7) gsNil)))
    (d0 (mIf (mIn false 3 (b7 .B 6)) sCt sNx)
    (d0 (mIf (f6 (b2 (t7 false) (bA fLen (aC (b7 .B 2) aN)) (b7 .B 1))) (F3 2 (i5 (u9 (aC (b7 .V 2) (aC (mC (.bl false)) aN))))) sNx)
    (d0 (ig 3 (b7 .B 6) (mC (.bl true)))
    (Q8 2 (u9 (aC (b7 .V 6) (aC (b7 .V 4) (aC (b7 .V 7) aN)))))))))
   (ju 4 rE (mC (.int 1))))))
  (F3 2 (i5 (u9 (aC (b7 .V 2) (aC (mC (.bl true)) aN)))))))))
abbrev jF:List W->R W:=g9 2 8 pC
def fo:Zg:=
 (i5 (k7 2 (bS (b7 .B 0)) (gN .U 1) yes (R8 (b2 fIx (b7 .B 1) (mC (.int 0))))))
abbrev aU:List W->R W:=g9 1 1 fo
def nh:Zg:=
 (i5 (bA V9 (aC (b7 .B 0) (aC (mC (.int 0)) (aC (b7 .B 1) aN)))))
abbrev gr:List W->R W:=g9 2 2 nh
def kg:Zg:=
 (i5 (bA (ix yb) (aC (k7 3 (bS (b7 .B 1)) (gN .U 2) yes (b2 (fI0 gGt) (b2 fIx (b7 .B 0) (b7 .B 2)) (mC (.int 0)))) aN)))
abbrev P4:List W->R W:=g9 2 2 kg
def dI:Zg:=
 (d0 (A0 (bI T4 (aC (b7 .U 0) aN)) (gT 2 (n8 (gN .U 2) (n8 (gN .U 3) gsNil)))
   (mIf (eE (f6 (bA P4 (aC (b2 fIx (b7 .B 3) (mC (.int 1))) (aC (b7 .B 1) aN)))) (W7 (f6 (bA P4 (aC (b2 fIx (b7 .B 3) (mC (.int 0))) (aC (b7 .B 1) aN)))))) (v9 .F 2) sNx))
  (i5 (mC .non)))
abbrev M3:List W->R W:=g9 2 4 dI
def bz:Zg:=
 (d0 (sV 2 (b7 .V 1))
  (d0 (sF 3 (bA M3 (aC (b7 .B 0) (aC (b7 .B 2) aN))))
  (d0 (J3 (f6 (b2 (ai true) (b7 .B 3) (mC .non))) (d0 (sF 2 (bA (z7 true) (aC (k7 5 (bS (b7 .B 2)) (gN .U 4) (f6 (b2 (t7 false) (b2 fIx (b2 fIx (b2 fIx (b7 .B 0) (b7 .B 3)) (mC (.int 1))) (b7 .B 4)) (mC (.int 0)))) (b7 .V 4)) aN)))
   (sF 3 (bA M3 (aC (b7 .B 0) (aC (b7 .B 2) aN))))))
  (v9 .F 2))))
abbrev D4:List W->R W:=g9 2 4 bz
def nc:Zg:=
 (i5 (bA (z7 true) (aC (k7 3 (bS (b7 .B 0)) (gT 2 (n8 (gN .U 1) (n8 (gN .U 2) gsNil))) yes (u9 (aC (b7 .V 2) (aC (b7 .V 1) aN)))) aN)))
abbrev gj:List W->R W:=g9 1 1 nc
def bx:Zg:=
 (i5 (bA D4 (aC (bA gj (aC (b7 .B 0) aN)) (aC (b7 .B 1) aN))))
abbrev S7:List W->R W:=g9 2 2 bx
def Z5:Zg:=
 (d0 (A0 (bS (bA N2 (aC (b2 fIx (b7 .B 0) (mC (.int 1))) (aC (bA fLen (aC (b7 .B 1) aN)) aN)))) (gN .U 2)
   (mIf (f6 (b2 (fEq true) (bA bG (aC (b7 .B 2) (aC (b7 .B 1) aN))) (bA bG (aC (b7 .B 2) (aC (b2 fIx (b7 .B 0) (mC (.int 0))) aN))))) (i5 (u9 (aC (mC (.str "balance")) (aC (b7 .V 2) aN)))) sNx))
  (i5 (mC .non)))
abbrev K5:List W->R W:=g9 2 3 Z5
def bB:Zg:=
 (i5 (bA (z7 true) (aC (k7 3 (bI T4 (aC (b7 .B 0) aN)) (gT 2 (n8 (gN .U 1) (n8 (gN .U 2) gsNil))) (f6 (b2 (t7 false) (b7 .B 2) (mC (.int 0)))) (b7 .V 1)) aN)))
abbrev N1:List W->R W:=g9 1 1 bB
def hZ:Zg:=
 (d0 (sF 2 (bA D4 (aC (b2 fIx (b7 .B 0) (mC (.int 1))) (aC (bA N1 (aC (b2 fIx (b7 .B 0) (mC (.int 0))) aN)) aN))))
  (d0 (mIf (f6 (bA P4 (aC (b7 .B 1) (aC (b7 .B 2) aN)))) (F3 2 (i5 (u9 (aC (mC (.str "dry")) (aC (b7 .V 2) aN))))) sNx)
  (d0 (sF 3 (bA S7 (aC (b2 fIx (b7 .B 0) (mC (.int 1))) (aC (bA N1 (aC (b7 .B 1) aN)) aN))))
  (d0 (mIf (f6 (bA P4 (aC (b2 fIx (b7 .B 0) (mC (.int 0))) (aC (b7 .B 3) aN)))) (F3 3 (i5 (u9 (aC (mC (.str "wet")) (aC (b7 .V 3) aN))))) sNx)
  (i5 (mC .non))))))
abbrev X5:List W->R W:=g9 2 4 hZ
def Q6:Zg:=
 (d0 (sV 3 (bA jG (aC (b7 .B 0) (aC (b7 .B 1) (aC (b7 .B 2) aN)))))
  (i5 (vIf (f6 (b2 (t7 false) (b2 fIx (b7 .B 3) (mC (.int 0))) (mC (.str "wall")))) (b7 .V 3) (mC .non))))
abbrev aa:List W->R W:=g9 3 4 Q6
def kj:Zg:=
 (d0 (sF 3 (bA jF (aC (b7 .B 0) (aC (b7 .B 2) aN))))
  (d0 (sF 4 (bA aU (aC (b2 fIx (b7 .B 3) (mC (.int 0))) aN)))
  (d0 (mIf (f6 (b2 (fIn false) (b7 .B 1) (b7 .B 4))) (i5 (u9 (aC (mC (.str "row")) (aC (bA gr (aC (b2 fIx (b7 .B 3) (mC (.int 0))) (aC (gc (b7 .B 4) (b7 .B 1)) aN))) aN)))) sNx)
  (d0 (mIf (f6 (b2 fIx (b7 .B 3) (mC (.int 1)))) (F3 4 (i5 (u9 (aC (mC (.str "all")) (aC (b7 .V 4) aN))))) sNx)
  (d0 (sV 5 (bA K5 (aC (b7 .B 0) (aC (b7 .B 1) aN))))
  (d0 (mIf (f6 (b2 (ai false) (b7 .B 5) (mC .non))) (sV 5 (bA X5 (aC (b7 .B 0) (aC (b7 .B 1) aN)))) sNx)
  (d0 (mIf (f6 (b2 (ai false) (b7 .B 5) (mC .non))) (sV 5 (bA aa (aC (b7 .B 0) (aC (b7 .B 1) (aC (b7 .B 2) aN))))) sNx)
  (i5 (vIf (f6 (b2 (ai false) (b7 .B 5) (mC .non))) (u9 (aC (mC (.str "open")) aN)) (b7 .V 5))))))))))
abbrev dR:List W->R W:=g9 3 6 kj
def U1:Zg:=
 (d0 (mIf (f6 (b2 (fI0 gLt) (b7 .B 1) (bA fLen (aC (b7 .B 0) aN)))) (i5 (R8 (b2 fIx (b7 .B 0) (b7 .B 1)))) sNx)
  (d0 (sV 2 (b2 (fI0 B0) (b2 (fI CMulB o7) (mC (.int 60013)) (b7 .B 1)) (mC (.int 3))))
  (d0 (mIf (f6 (b2 (fI0 gGt) (bA fLen (aC (b7 .B 0) aN)) (mC (.int 0)))) (sV 2 (b2 (fI0 B0) (b2 (fI0 B0) (b2 (fI CMulB o7) (b2 fIx (b7 .B 0) (b2 (fI n9 o8) (b2 (fI CMulB o7) (b7 .B 1) (mC (.int 19))) (bA fLen (aC (b7 .B 0) aN)))) (mC (.int 48271))) (b2 (fI CMulB o7) (b2 (fI CMulB o7) (b7 .B 1) (b7 .B 1)) (mC (.int 9001)))) (mC (.int 5)))) sNx)
  (i5 (b2 (fI n9 o8) (b2 (fI CMulB o7) (b7 .B 2) (b7 .B 2)) (mC (.int 2147483477)))))))
abbrev m7:List W->R W:=g9 2 3 U1
def ft:Zg:=
 (d0 (sF 5 (y6 aN))
  (d0 (sF 6 (y6 aN))
  (d0 (A0 (bI F4 (aC (b7 .B 2) aN)) (gN .U 7)
   (d0 (sF 8 (bA m7 (aC (b7 .B 0) (aC (b2 (fI0 B0) (b7 .B 1) (b7 .B 7)) aN))))
   (d0 (Q8 5 (b2 (fI CMulB o7) (b2 fIx (y6 (aC (mC (.int 0)) (aC (mC (.int 1)) (aC (mC (.int 0)) (aC (mC (.int 0)) (aC (mC (.int 2)) (aC (mC (.int 1)) aN))))))) (b2 (fI n9 o8) (b7 .B 8) (mC (.int 6)))) (b7 .B 4)))
   (Q8 6 (b2 (fI CMulB o7) (b2 fIx (y6 (aC (mC (.int 0)) (aC (mC (.int 1)) (aC (mC (.int 0)) (aC (mC (.int 1)) (aC (mC (.int 0)) (aC (mC (.int 2)) (aC (mC (.int 0)) aN)))))))) (b2 (fI n9 o8) (b2 (fI w6 A9) (b7 .B 8) (mC (.int 6))) (mC (.int 7)))) (b7 .B 4))))))
  (d0 (mIf (f6 (b7 .B 3)) (d0 (sV 9 (b2 (fI n9 o8) (b2 (fI w6 A9) (bA m7 (aC (b7 .B 0) (aC (b7 .B 1) aN))) (mC (.int 42))) (b7 .B 2)))
   (d0 (sV 10 (b2 (fI n9 o8) (b2 (fI w6 A9) (bA m7 (aC (b7 .B 0) (aC (b2 (fI0 B0) (b7 .B 1) (mC (.int 1))) aN))) (mC (.int 42))) (b7 .B 2)))
   (d0 (sF 5 (k7 12 (bI F4 (aC (b7 .B 2) aN)) (gN .U 11) yes (b2 (fI CMulB o7) (b2 (fI CMulB o7) (bA fInt (aC (b2 (fEq false) (b7 .B 11) (b7 .B 9)) aN)) (b2 (fI0 B0) (mC (.int 1)) (b2 (fI CMulB o7) (mC (.int 2)) (b7 .B 10)))) (b7 .B 4))))
   (sF 6 (k7 12 (bI F4 (aC (b7 .B 2) aN)) (gN .U 11) yes (b2 (fI CMulB o7) (b2 (fI CMulB o7) (bA fInt (aC (b2 (fEq false) (b7 .B 11) (b7 .B 10)) aN)) (b2 (fI0 B0) (mC (.int 1)) (b2 (fI CMulB o7) (mC (.int 2)) (b7 .B 9)))) (b7 .B 4))))))) sNx)
  (i5 (u9 (aC (bA (z7 true) (aC (b7 .C 5) aN)) (aC (bA (z7 true) (aC (b7 .C 6) aN)) aN))))))))
abbrev aW:List W->R W:=g9 5 11 ft
def bC:Zg:=
 (d0 (sF 3 (bA (X6 false) (aC (b2 fIx (b7 .B 0) (mC (.int 0))) aN)))
  (d0 (sF 4 (bA (X6 false) (aC (b2 fIx (b7 .B 0) (mC (.int 1))) aN)))
  (d0 (V5 4 (mC (.int 0)) (mC (.int 0)))
  (d0 (V5 3 (b1 (fU F8) (mC (.int 1))) (mC (.int 0)))
  (d0 (mIf (f6 (b2 (t7 false) (b7 .B 1) (mC (.int 0)))) (d0 (V5 3 (mC (.int 0)) (mC (.int 0)))
   (V5 4 (b1 (fU F8) (mC (.int 1))) (b2 (fI0 B0) (b2 fIx (b7 .B 4) (b1 (fU F8) (mC (.int 1)))) (b7 .B 2)))) sNx)
  (d0 (mIf (f6 (b2 (t7 false) (b7 .B 1) (mC (.int 1)))) (V5 3 (mC (.int 0)) (b7 .V 2)) sNx)
  (i5 (u9 (aC (bA (z7 true) (aC (b7 .C 3) aN)) (aC (bA (z7 true) (aC (b7 .C 4) aN)) aN))))))))))
abbrev S9:List W->R W:=g9 3 5 bC
def cV:Zg:=
 (d0 (A0 (bI F4 (aC (bA fLen (aC (b7 .B 0) aN)) aN)) (gN .U 2)
   (mIf (f6 (b2 (fI0 gLt) (b2 fIx (b7 .B 0) (b7 .B 2)) (b2 fIx (b7 .B 1) (b7 .B 2)))) (i5 (mC (.bl false))) sNx))
  (i5 (mC (.bl true))))
abbrev B9:List W->R W:=g9 2 3 cV
def cW:Zg:=
 (i5 (bA (z7 true) (aC (k7 3 (bI F4 (aC (bA fLen (aC (b7 .B 0) aN)) aN)) (gN .U 2) yes (b2 (fI0 B0) (b2 (fI0 gSub) (b2 fIx (b7 .B 0) (b7 .B 2)) (b2 fIx (b2 fIx (b7 .B 1) (mC (.int 0))) (b7 .B 2))) (b2 fIx (b2 fIx (b7 .B 1) (mC (.int 1))) (b7 .B 2)))) aN)))
abbrev N9:List W->R W:=g9 2 2 cW
def dM:Zg:=
 (d0 (sV 3 (b7 .V 1))
  (d0 (A0 (bI F4 (aC (b2 (fI n9 o8) (b2 (fI w6 A9) (bA m7 (aC (b7 .B 0) (aC (mC (.int 2)) aN))) (mC (.int 5))) (mC (.int 14))) aN)) (gN .U 4)
   (d0 (sF 5 (k7 7 (bS (b7 .B 2)) (gN .U 6) (f6 (bA B9 (aC (b7 .B 3) (aC (b2 fIx (b7 .B 6) (mC (.int 0))) aN)))) (b7 .V 6)))
   (mIf (f6 (b2 (fEq true) (b7 .B 5) (y6 aN))) (sF 3 (bA N9 (aC (b7 .B 3) (aC (b2 fIx (b7 .B 5) (b2 (fI n9 o8) (bA m7 (aC (b7 .B 0) (aC (b2 (fI0 B0) (mC (.int 20)) (b7 .B 4)) aN))) (bA fLen (aC (b7 .B 5) aN)))) aN)))) sNx)))
  (v9 .F 3)))
abbrev ah:List W->R W:=g9 3 6 dM
def fq:Zg:=
 (d0 (sF 4 (bA m7 (aC (b7 .B 0) (aC (mC (.int 3)) aN))))
  (d0 (mIf (f6 (b2 (t7 false) (b2 (fI n9 o8) (b7 .B 4) (mC (.int 3))) (mC (.int 0)))) (i5 (bA (z7 true) (aC (k7 9 (bI F4 (aC (bA fLen (aC (b7 .B 1) aN)) aN)) (gN .U 8) yes (b2 (fI CMulB o7) (b2 (fI n9 o8) (b2 (fI w6 A9) (bA m7 (aC (b7 .B 0) (aC (b2 (fI0 B0) (mC (.int 4)) (b7 .B 8)) aN))) (mC (.int 3))) (mC (.int 3))) (b7 .B 3))) aN))) sNx)
  (d0 (sF 5 (bA (X6 true) (aC (bA ah (aC (b7 .B 0) (aC (b7 .B 1) (aC (b7 .B 2) aN)))) aN)))
  (d0 (sV 6 (b2 (fI n9 o8) (b2 (fI w6 A9) (b7 .B 4) (mC (.int 3))) (bA fLen (aC (b7 .B 1) aN))))
  (d0 (mIf (f6 (b2 (t7 false) (b2 (fI n9 o8) (b7 .B 4) (mC (.int 3))) (mC (.int 1)))) (d0 (V5 5 (b7 .B 6) (b2 (fI0 B0) (b2 fIx (b7 .B 5) (b7 .B 6)) (b2 (fI n9 o8) (b2 (fI w6 A9) (b7 .B 4) (mC (.int 12))) (mC (.int 2)))))
   (i5 (bA (z7 true) (aC (b7 .C 5) aN)))) sNx)
  (d0 (sF 7 (bA (X6 false) (aC (b7 .B 1) aN)))
  (d0 (V5 7 (b7 .B 6) (R8 (b2 fIx (b7 .B 1) (mC (.int 0)))))
  (d0 (V5 7 (mC (.int 0)) (R8 (b2 fIx (b7 .B 1) (b7 .B 6))))
  (i5 (bA (z7 true) (aC (b7 .C 7) aN)))))))))))
abbrev aV:List W->R W:=g9 4 8 fq
def dL:Zg:=
 (d0 (sF 3 (y6 (aC (b7 .V 0) aN)))
  (d0 (sF 4 (y6 (aC (y6 aN) aN)))
  (d0 (sV 5 (mC (.int 0)))
  (d0 (J3 (f6 (b2 (fI0 gLt) (b7 .B 5) (bA fLen (aC (b7 .B 3) aN)))) (d0 (A0 (bI F4 (aC (bA fLen (aC (b7 .B 1) aN)) aN)) (gN .U 6)
    (mIf (f6 (bA B9 (aC (b2 fIx (b7 .B 3) (b7 .B 5)) (aC (b2 fIx (b2 fIx (b7 .B 1) (b7 .B 6)) (mC (.int 0))) aN)))) (d0 (sF 7 (bA N9 (aC (b2 fIx (b7 .B 3) (b7 .B 5)) (aC (b2 fIx (b7 .B 1) (b7 .B 6)) aN))))
     (mIf (f6 (b2 (fIn true) (b7 .B 7) (b7 .B 3))) (d0 (mIf (f6 (b2 (t7 false) (bA fLen (aC (b7 .B 3) aN)) (b7 .B 2))) (F3 4 (F3 3 (i5 (u9 (aC (b7 .V 3) (aC (b7 .V 4) (aC (mC (.bl false)) aN))))))) sNx)
      (d0 (F3 7 (Q8 3 (b7 .V 7)))
      (Q8 4 (b2 (T0 true) (b2 fIx (b7 .C 4) (b7 .C 5)) (y6 (aC (b7 .V 6) aN)))))) sNx)) sNx))
   (sV 5 (b2 (fI0 B0) (b7 .B 5) (mC (.int 1))))))
  (F3 4 (F3 3 (i5 (u9 (aC (b7 .V 3) (aC (b7 .V 4) (aC (mC (.bl true)) aN)))))))))))
abbrev ag:List W->R W:=g9 3 8 dL
def dJ:Zg:=
 (i5 (bA (aJ K4) (aC (k7 3 (bI F4 (aC (bA fLen (aC (b7 .B 0) aN)) aN)) (gN .U 2) yes (b2 (fI CMulB o7) (b2 fIx (b7 .B 0) (b7 .B 2)) (b2 fIx (b7 .B 1) (b7 .B 2)))) aN)))
abbrev J7:List W->R W:=g9 2 2 dJ
def bD:Zg:=
 (d0 (A0 (bS (b7 .U 0)) (gN .U 2)
   (mIf (f6 (b2 (fEq true) (bA J7 (aC (b7 .B 1) (aC (b2 fIx (b7 .B 2) (mC (.int 0))) aN))) (bA J7 (aC (b7 .B 1) (aC (b2 fIx (b7 .B 2) (mC (.int 1))) aN))))) (i5 (mC (.bl false))) sNx))
  (i5 (mC (.bl true))))
abbrev N3:List W->R W:=g9 2 3 bD
def Q7:Zg:=
 (d0 (A0 (bS (bA N2 (aC (bA (z7 false) (aC (b7 .B 1) aN)) (aC (bA fLen (aC (b7 .B 0) aN)) aN)))) (gN .U 3)
   (mIf (f6 (b2 (fEq true) (bA J7 (aC (b7 .B 3) (aC (b7 .B 0) aN))) (bA J7 (aC (b7 .B 3) (aC (b7 .B 2) aN))))) (v9 .F 3) sNx))
  (i5 (mC .non)))
abbrev p7:List W->R W:=g9 3 4 Q7
def aE:Zg:=
 (d0 (sF 3 (y6 (aC (u9 aN) aN)))
  (d0 (A0 (bS (b7 .U 1)) (gN .U 4)
   (sF 3 (b2 (T0 true) (b7 .C 3) (k7 10 (bS (b7 .B 3)) (gN .U 9) yes (b2 fCatT (b7 .B 9) (u9 (aC (b7 .U 4) aN)))))))
  (d0 (ii 5)
  (d0 (F3 3 (A0 (bS (b7 .U 3)) (gN .U 6)
   (d0 (sV 7 (mC (.bl true)))
   (d0 (A0 (bS (b7 .U 0)) (gN .U 8)
    (mIf (eE (f6 (b2 (fI0 gGt) (bA (aJ K4) (aC (k7 10 (bS (b7 .B 6)) (gN .U 9) yes (R8 (b2 fIx (b2 fIx (b7 .B 8) (b2 (fI0 gSub) (mC (.int 1)) (b7 .B 2))) (b7 .B 9)))) aN)) (mC (.int 0)))) (f6 (b2 (t7 false) (bA (aJ K4) (aC (k7 10 (bS (b7 .B 6)) (gN .U 9) yes (R8 (b2 fIx (b2 fIx (b7 .B 8) (b7 .B 2)) (b7 .B 9)))) aN)) (mC (.int 0))))) (sV 7 (mC (.bl false))) sNx))
   (mIf (f6 (b7 .B 7)) (A0 (bS (b7 .U 6)) (gN .U 4)
     (dN 5 (b7 .B 4) (mC (.bl true)))) sNx)))))
  (i5 (bA (z7 true) (aC (k7 10 (bS (b7 .B 1)) (gN .U 9) (rf 5 (b7 .B 9)) (b7 .V 9)) aN)))))))
abbrev F1:List W->R W:=g9 3 9 aE
def cU:Zg:=
 (d0 (A0 (bS (b7 .U 1)) (gN .U 2)
   (mIf (f6 (bA B9 (aC (b7 .B 0) (aC (b7 .B 2) aN)))) (i5 (mC (.bl true))) sNx))
  (i5 (mC (.bl false))))
abbrev K6:List W->R W:=g9 2 3 cU
def fu:Zg:=
 (d0 (sF 2 (bA (X6 false) (aC (b7 .B 1) aN)))
  (d0 (A0 (bS (b7 .U 1)) (gN .U 3)
   (A0 (bS (b7 .U 0)) (gN .U 4)
    (d0 (sF 5 (bA (z7 true) (aC (k7 7 (bI F4 (aC (bA fLen (aC (b7 .B 3) aN)) aN)) (gN .U 6) yes (b2 (fI0 B0) (b2 fIx (b2 fIx (b7 .B 4) (mC (.int 0))) (b7 .B 6)) (bA (f2 jD) (aC (mC (.int 0)) (aC (b2 (fI0 gSub) (b2 fIx (b7 .B 3) (b7 .B 6)) (b2 fIx (b2 fIx (b7 .B 4) (mC (.int 1))) (b7 .B 6))) aN))))) aN)))
    (mIf (W7 (f6 (bA K6 (aC (b7 .B 5) (aC (b7 .B 2) aN))))) (sF 2 (b2 (T0 true) (k7 7 (bS (b7 .B 2)) (gN .U 6) (W7 (f6 (bA B9 (aC (b7 .B 6) (aC (b7 .B 5) aN))))) (b7 .V 6)) (y6 (aC (b7 .V 5) aN)))) sNx))))
  (i5 (bA fSortA (aC (b7 .C 2) aN)))))
abbrev U4:List W->R W:=g9 2 6 fu
def Z6:Zg:=
 (d0 (sF 4 (y6 (aC (b7 .V 2) aN)))
  (d0 (A0 (bI F4 (aC (b2 (fI0 B0) (b7 .B 3) (mC (.int 1))) aN)) (gN .U 5)
   (d0 (mIf (iQ (f6 (bA K6 (aC (b7 .B 0) (aC (b7 .B 4) aN)))) (f6 (b2 (fI0 gGt) (bA fLen (aC (b7 .B 4) aN)) (b7 .B 3)))) (i5 (mC .non)) sNx)
   (d0 (sF 6 (bA U4 (aC (b7 .B 1) (aC (b7 .B 4) aN))))
   (d0 (mIf (f6 (b2 (fEq false) (b7 .B 6) (b7 .B 4))) (v9 .V 4) sNx)
   (F3 6 (sV 4 (b7 .V 6)))))))
  (i5 (mC .non))))
abbrev O7:List W->R W:=g9 4 7 Z6
def P3:Zg:=
 (d0 (sF 4 (bA F1 (aC (b7 .B 1) (aC (bA (z7 true) (aC (k7 8 (bI F4 (aC (bA fLen (aC (b7 .B 0) aN)) aN)) (gN .U 7) (f6 (b2 (t7 false) (b2 fIx (b7 .B 0) (b7 .B 7)) (mC (.int 0)))) (b7 .V 7)) aN)) (aC (mC (.int 0)) aN)))))
  (d0 (mIf (f6 (b2 (fI0 gGt) (bA (aJ K4) (aC (k7 8 (bS (b7 .B 4)) (gN .U 7) yes (R8 (b2 fIx (b7 .B 2) (b7 .B 7)))) aN)) (mC (.int 0)))) (F3 4 (i5 (u9 (aC (mC (.str "dry")) (aC (b7 .V 4) aN))))) sNx)
  (d0 (sF 5 (bA F1 (aC (b7 .B 1) (aC (bA (z7 true) (aC (k7 8 (bI F4 (aC (bA fLen (aC (b7 .B 0) aN)) aN)) (gN .U 7) (f6 (b2 (t7 false) (b2 fIx (b7 .B 2) (b7 .B 7)) (mC (.int 0)))) (b7 .V 7)) aN)) (aC (mC (.int 1)) aN)))))
  (d0 (mIf (f6 (b2 (fI0 gGt) (bA (aJ K4) (aC (k7 8 (bS (b7 .B 5)) (gN .U 7) yes (R8 (b2 fIx (b7 .B 0) (b7 .B 7)))) aN)) (mC (.int 0)))) (F3 5 (i5 (u9 (aC (mC (.str "wet")) (aC (b7 .V 5) aN))))) sNx)
  (d0 (sV 6 (bA O7 (aC (b7 .B 0) (aC (b7 .B 1) (aC (b7 .B 2) (aC (b7 .B 3) aN))))))
  (d0 (mIf (f6 (b2 (ai false) (b7 .B 6) (mC .non))) (i5 (u9 (aC (mC (.str "open")) aN))) sNx)
  (i5 (u9 (aC (mC (.str "wall")) (aC (b7 .V 6) aN))))))))))
abbrev J8:List W->R W:=g9 4 7 P3
def J2 (F:List W->R W):Zg:=
 (d0 (mIf (iQ (f6 (bA fIsi (aC (b7 .B 1) (aC (mC (.ty "tuple")) aN)))) (f6 (bA fIsi (aC (b7 .B 1) (aC (mC (.ty "list")) aN))))) (d0 (mIf (iQ (f6 (b2 (t7 true) (bA fIsi (aC (b7 .B 1) (aC (mC (.ty "tuple")) aN))) (bA fIsi (aC (b7 .B 0) (aC (mC (.ty "tuple")) aN))))) (f6 (b2 (t7 true) (bA fIsi (aC (b7 .B 1) (aC (mC (.ty "list")) aN))) (bA fIsi (aC (b7 .B 0) (aC (mC (.ty "list")) aN)))))) (i5 (mC (.bl false))) sNx)
   (d0 (mIf (f6 (b2 (t7 true) (bA fLen (aC (b7 .B 0) aN)) (bA fLen (aC (b7 .B 1) aN)))) (i5 (mC (.bl false))) sNx)
   (i5 (b2 (t7 false) (bA fLen (aC (k7 3 (bI F4 (aC (bA fLen (aC (b7 .B 1) aN)) aN)) (gN .U 2) (W7 (f6 (bA F (aC (b2 fIx (b7 .B 0) (b7 .B 2)) (aC (b2 fIx (b7 .B 1) (b7 .B 2)) aN))))) (b7 .V 2)) aN)) (mC (.int 0)))))) sNx)
  (d0 (mIf (f6 (bA fIsi (aC (b7 .B 1) (aC (mC (.ty "int")) aN)))) (i5 (iP (bA fIsi (aC (b7 .B 0) (aC (mC (.ty "int")) aN))) (iP (we (bA fIsi (aC (b7 .B 0) (aC (mC (.ty "bool")) aN)))) (b2 (fEq false) (b7 .B 0) (b7 .B 1))))) sNx)
  (i5 (iP (bA fIsi (aC (b7 .B 0) (aC (mC (.ty "str")) aN))) (b2 (fEq false) (b7 .B 0) (b7 .B 1))))))
def E8:Nat->Rho->R Fl
 |0=>λ_=>.stuck
 |d+1=>J2 (g9 2 2 (E8 d))
abbrev J9:List W->R W:=g9 2 2 (E8 6)
def zl:Zg:=
 (d0 (sV 1 (b2 (fI0 B0) (mC (.int 1)) (b2 (fI n9 o8) (bA m7 (aC (b7 .B 0) (aC (mC (.int 0)) aN))) (mC (.int 4)))))
  (d0 (sV 2 (b2 (fI0 B0) (mC (.int 1)) (b2 (fI n9 o8) (bA m7 (aC (b7 .B 0) (aC (mC (.int 1)) aN))) (mC (.int 10)))))
  (d0 (sV 3 (b2 (fI n9 o8) (b2 (fI w6 A9) (bA m7 (aC (b7 .B 0) (aC (mC (.int 1)) aN))) (mC (.int 7))) (mC (.int 3))))
  (d0 (mIf (eE (f6 (b2 (t7 false) (b2 (fI n9 o8) (b2 (fI w6 A9) (bA m7 (aC (b7 .B 0) (aC (mC (.int 1)) aN))) (mC (.int 10))) (mC (.int 2))) (mC (.int 1)))) (iQ (f6 (b2 (fI0 gLt) (b7 .B 1) (mC (.int 3)))) (f6 (b2 (t7 false) (b7 .B 3) (mC (.int 1)))))) (sV 2 (b2 (fI0 B0) (mC (.int 1)) (b2 (fI n9 o8) (b2 (fI w6 A9) (bA m7 (aC (b7 .B 0) (aC (mC (.int 1)) aN))) (mC (.int 20))) (b2 fIx (y6 (aC (mC (.int 30)) (aC (mC (.int 30)) (aC (mC (.int 20)) (aC (mC (.int 20)) aN))))) (b2 (fI0 gSub) (b7 .B 1) (mC (.int 1))))))) sNx)
  (d0 (sV 4 (mC (.int 1)))
  (d0 (mIf (f6 (b2 (t7 false) (b2 (fI n9 o8) (bA m7 (aC (b7 .B 0) (aC (mC (.int 2)) aN))) (mC (.int 4))) (mC (.int 1)))) (sV 4 (b2 (fI0 B0) (mC (.int 1)) (b2 (fI n9 o8) (b2 (fI w6 A9) (bA m7 (aC (b7 .B 0) (aC (mC (.int 1)) aN))) (mC (.int 10))) (b2 (fI gB xY) (mC (.int 10)) (mC (.int 8)))))) sNx)
  (d0 (sF 5 (y6 aN))
  (d0 (A0 (bI F4 (aC (b2 (fI n9 o8) (b2 (fI w6 A9) (bA m7 (aC (b7 .B 0) (aC (mC (.int 0)) aN))) (mC (.int 4))) (mC (.int 5))) aN)) (gN .U 6)
   (d0 (sF 7 (bA aW (aC (b7 .B 0) (aC (b2 (fI0 B0) (mC (.int 34)) (b2 (fI CMulB o7) (b7 .B 1) (b7 .B 6))) (aC (b7 .B 1) (aC (b2 (t7 false) (b7 .B 3) (mC (.int 1))) (aC (b7 .B 4) aN)))))))
   (d0 (mIf (f6 (b2 (t7 false) (b7 .B 3) (mC (.int 2)))) (sF 7 (bA S9 (aC (b7 .B 7) (aC (b7 .B 6) (aC (b7 .B 4) aN))))) sNx)
   (F3 7 (Q8 5 (b7 .V 7))))))
  (d0 (sF 8 (bA (z7 true) (aC (k7 16 (bI F4 (aC (b7 .B 1) aN)) (gN .U 15) yes (b2 (fI CMulB o7) (b2 (fI n9 o8) (b2 (fI w6 A9) (bA m7 (aC (b7 .B 0) (aC (b2 (fI0 B0) (mC (.int 8)) (b7 .B 15)) aN))) (mC (.int 5))) (mC (.int 3))) (b7 .B 4))) aN)))
  (d0 (sF 9 (bA aV (aC (b7 .B 0) (aC (b7 .B 8) (aC (b7 .B 5) (aC (b7 .B 4) aN))))))
  (d0 (sV 10 (bA dR (aC (u9 (aC (b7 .U 8) (aC (bA (z7 true) (aC (b7 .C 5) aN)) aN))) (aC (b7 .B 9) (aC (b7 .B 2) aN)))))
  (d0 (sG (gT 3 (n8 (gN .V 11) (n8 (gN .V 12) (n8 (gN .V 13) gsNil)))) (bA ag (aC (b7 .B 8) (aC (b7 .B 5) (aC (b7 .B 2) aN)))))
  (d0 (mIf (f6 (b2 (fIn false) (b7 .B 9) (b7 .B 11))) (i5 (bA J9 (aC (b7 .B 10) (aC (u9 (aC (mC (.str "row")) (aC (b2 fIx (b7 .B 12) (gc (b7 .B 11) (b7 .B 9))) aN))) aN)))) sNx)
  (d0 (mIf (f6 (b7 .B 13)) (i5 (bA J9 (aC (b7 .B 10) (aC (u9 (aC (mC (.str "all")) (aC (b7 .U 11) aN))) aN)))) sNx)
  (d0 (sF 14 (bA p7 (aC (b7 .B 8) (aC (b7 .B 5) (aC (b7 .B 9) aN)))))
  (d0 (mIf (f6 (b2 (ai true) (b7 .B 14) (mC .non))) (F3 14 (i5 (iP (bA N3 (aC (b7 .B 5) (aC (b7 .B 14) aN))) (bA J9 (aC (b7 .B 10) (aC (u9 (aC (mC (.str "balance")) (aC (b7 .U 14) aN))) aN)))))) sNx)
  (i5 (bA J9 (aC (b7 .B 10) (aC (bA J8 (aC (b7 .B 8) (aC (b7 .B 5) (aC (b7 .B 9) (aC (b7 .B 2) aN))))) aN))))))))))))))))))))
abbrev lG:List W->R W:=g9 1 15 zl
end K87
set_option maxHeartbeats 4000000
open PySem L2 TP
namespace K87
abbrev ZX (N:Nat)(ρ:Rho)(mg:W→Rho→Option Rho)(x:W)(p:Rho→Prop):Prop:=∃I,mg x (ρ++List.replicate (N-ρ.length) Sl.un)=some I/\p I
def rp14:=Z1 (@GD) (Z1 (@GC) (Z1 (@GB) (Z1 (@GA) (Z1 (@Gk) (Z1 (@Gx) (Z1 (@Gu) (Z1 (@Gv) (Z1 (@Gp) (Z1 (@Gq) (Z1 (@Gy) (Z1 (@Gz) (Z1 (@Gn) (@Go)))))))))))))
def rp15:=Z1 (@xD1) (Z1 (@Bool.not_false) (Z1 (@Bool.true_or) (Z1 (@qP5) (Z1 (@xC9) (Z1 (@xC8) (Z1 (@qL8) (Z1 (@qQ2) (Z1 (@qV8) (Z1 (@Bool.and_false) (Z1 (@Int.sub_zero) (Z1 (@qV1) (Z1 (@qI1) (Z1 (@qE2) (Z1 (@Bool.true_eq_false) (Z1 (@and_true) (Z1 (@true_and) (Z1 (@or_true) (Z1 (@true_or) (@and_self)))))))))))))))))))
def rp18:=Z1 (@qD4.{0}) (Z1 (@qN6.{0}) (Z1 (@qA5.{0,0}) (Z1 (@qC4.{0}) (Z1 (@qD3.{0}) (@qF1)))))
def rp16:=Z1 rp14 (Z1 rp15 (Z1 rp13 (Z1 rp12 (Z1 rp11 (Z1 rp10 (Z1 rp9 (Z1 rp8 (Z1 rp0 (Z1 rp1 (Z1 rp2 (Z1 rp3 (Z1 rp4 (Z1 rp5 (Z1 rp6 rp7))))))))))))))
def rp17:=Z1 (@qB8.{0,0}) (Z1 (@qO4.{0,0}) (Z1 (@qV7.{0}) (Z1 (@List.replicate_zero.{0}) (Z1 (@qO9.{0}) (Z1 (@qP3.{0}) (Z1 (@qG0.{0}) (Z1 (@R.ok_bind) (Z1 (@R.stuck_bind) (@R.ex_bind)))))))))
def rp19:=Z1 (@qU2.{0}) (Z1 (@Option.isNone_none.{0}) (Z1 (@Option.isNone_some.{0}) (Z1 (@Option.bind_some.{0,0}) (Z1 (@qQ8.{1}) (Z1 (@qR0.{1}) (Z1 (@decide_true) (@decide_false)))))))
def de (r:R Fl):R Fl:=match r with
 | .ok (.ct ρ)=>.ok (.nx ρ)
 |r=>r
def oO (ρ:Rho):de (.ok (.nx ρ))=.ok (.nx ρ):=rfl
def oP (ρ:Rho):de (.ok (.ct ρ))=.ok (.nx ρ):=rfl
def oN (w:W):de (.ok (.rt w))=.ok (.rt w):=rfl
def gP (I:Nat->Rho->Prop):∀(ws:Zp) (k:Nat) (ρ:Rho),I k ρ ->
  (∀(i:Nat) (w:W) (ρ:Rho),ws[i]?=some w->I (k+i) ρ->∃a4,mg w ρ=some a4/\Po (de (mb a4)) (I (k+i+1)) Jr)->Po (F6 mg mb ws ρ) (I (k+ws.length)) Jr
 | [],k,ρ,h,_=>h
 | w::ws,k,ρ,h,st=>by
  obtain ⟨a4,e1,p⟩:=st 0 w ρ rfl h;unfold F6;rw[e1]
  change Po (mb a4>>=_) _ _;have go:∀a3,I (k+0+1) a3->Po (F6 mg mb ws a3) (I (k+(w::ws).length)) Jr:=λa3 p=>by
   have:=gP (mg:=mg) (mb:=mb) I ws (k+1) a3 p λi w ρ hw hp=>by
    have:=st (i+1) w ρ (by simpa using hw) (by rw[show k+(i+1)=k+1+i by omega];show hp)
    rw[show k+(i+1)+1=k+1+i+1 by omega]at this;show this
   rw[qD4,show k+(ws.length+1)=k+1+ws.length by omega];show this
  revert p
  cases mb a4 with
  |ex _=>show λp=>p.elim
  |stuck=>show λp=>p.elim
  | ok f=>cases f with
   |bk _=>show λp=>p.elim
   |ct a3=>show λp=>go a3 p
   |rt w=>show λp=>p
   |nx a3=>show λp=>go a3 p
def xa (I:Nat->Rho->Prop)(h0:I 0 ρ)(st:∀(i:Nat) (w:W) (ρ:Rho),ws[i]?=some w->I i ρ->∃a3,mg w ρ=some a3/\Po (de (mb a3)) (I (i+1)) Jr)(hn:∀ρ,I ws.length ρ->Po (n ρ) Jn Jr):Po (andThen (F6 mg mb ws ρ) n) Jn Jr:=by
 have:=gP (mg:=mg) (mb:=mb) (Jr:=Jr) I ws 0 ρ h0 λi w ρ hw hp=>by rw[qO8]at hp ⊢;show st i w ρ hw hp
 rw[qO8]at this;show M1 (this.mono hn λ_ h=>h)
def pi (h1:b=true->Po (de (andThen (m ρ) k)) Jn Jr)(I:b=false->Po (de (andThen (n ρ) k)) Jn Jr):Po (de (andThen (ifS (.ok b) m n ρ) k)) Jn Jr:=by
 cases b with
 |true=>show h1 rfl
 |false=>show I rfl
def zN (ns:Zk)(l u:VX):Rst (.ok (.tup (ns.map W.int))) (.ok l) (.ok u)=.ok (.tup (K0 (ns.map W.int) l u)):=IO (C8 ns) l u
def rpZ:=Z1 rp19 (Z1 rp16 (Z1 rp17 (Z1 rp18 (Z1 @pP (Z1 @pG (Z1 @vY (Z1 @oM (Z1 @zN (Z1 @uH (Z1 @vd (Z1 @nt (Z1 @gx (Z1 @oO (Z1 @oP (Z1 @oN (Z1 @uw (Z1 @hU (Z1 @mY (Z1 @kB (Z1 @kA (Z1 @pF (Z1 @pL (@decide_eq_true_eq)))))))))))))))))))))))
def rpB:=Z1 (@Em) (Z1 (@El) (Z1 (@Ek) (Z1 (@Ej) (@Ei))))
local macro_rules | `(tactic| exists $[$es],*)=>`(tactic| simp (disch:=first | with_reducible assumption | omega | (simp only [rp18]; omega)) only [List.getElem?_cons_zero,qN2,List.set_cons_succ,List.set_cons_zero,tyW,isN,simprocAttr,rpZ,$[$es:term],*])
def rF {α:Type}(g s:α->W)(c:α->Bool)(as:List α)(hl:as.length<=1000):∀N mg mc me ρ,(∀a∈as,ZX N ρ mg (s a) λ I=>mc I=.ok (c a)/\me I=.ok (g a))->l6 N mg mc me (as.map s) ρ=.ok (.lst ((as.filter c).map g)):=λN mg mc me ρ h=>
 D9 g s c as ρ hl λa ha=>by
  obtain ⟨I,e1,e2,e3⟩:=h a ha;show ⟨I,e1,e2,λ_=>e3⟩
def wK (f:Zx)(hn:n<=6):∀N mg me ρ,(∀k,k<n->ZX N ρ mg (.int (k:Nat)) λ ρ1=>me ρ1=.ok (.int (f k)))->l6 N mg yes me ((List.range n).map λk=>W.int (k:Nat)) ρ=.ok (lI ((List.range n).map f)):=λN mg me ρ h=>by
 rw[o9 (λk=>.int (f k)) _ _ ρ (by simp;omega) λk hk=>h k (by simpa using hk),dE]
abbrev Mv:=List Int×List Int
abbrev mW (m:Mv):W:=.tup [tI m.1,tI m.2]
abbrev lS (ss:Zw):W:=.lst (ss.map tI)
abbrev tM_ (ms:List Mv):W:=.tup (ms.map mW)
def mX (m:Mv):noL (mW m)=true:=by simp [noL,m9,C8]
def hC (ms:List Mv):m9 (ms.map mW)=true:=fY mW mX ms
def bw {ms:List Mv}{i:Nat}(h:(ms.map mW)[i]?=some w):∃m,m∈ms/\ms[i]?=some m/\w=mW m:=by
 rw[qC1]at h;cases q:ms[i]? with
 |none=>rw[q]at h;cases h
 |some m=>rw[q]at h;cases h;show ⟨m,qD8 q,rfl,rfl⟩
def okM (n:Nat)(m:Mv):Prop:=m.1.length=n/\m.2.length=n
def IY {k:Int}(h0:0<=k)(h1:k<=1000):0<=k*k/\k*k<=1000000:=⟨qW2 h0 h0,by
 have:=Int.mul_le_mul h1 h1 h0 (by omega:(0:Int)<=1000)
 omega⟩
def memD {ns:Zk}{P:Int->Prop}(h:∀x∈ns,P x)(hi:i<ns.length):P (ns.getD i 0):=mem_getD h hi
def nn (xs:Zk):Prop:=∀x∈xs,0<=x
def okN (n:Nat)(m:Mv):Prop:=m.1.length=n/\m.2.length=n/\nn m.1/\nn m.2
def lr (h:nn xs)(k:Nat):0<=xs.getD k 0:=by
 by_cases hk:k<xs.length
 .show memD h hk
 .rw[qA0];simp [hk]
def atM {ms:List Mv}{r:Int}(h0:0<=r)(h1:r<ms.length):L2.atI (ms.map mW) r=some (mW (ms.getD r.toNat ([],[]))):=by
 unfold L2.atI;rw[bE h0 (by rw[qA5];show h1)]
 change (ms.map mW)[r.toNat]?=_;have hi:r.toNat<ms.length:=ox;rw[qC1,qA0];simp [hi]
def getM {ms:List Mv}(hm:∀m∈ms,okN n m)(h1:i<ms.length):okN n (ms.getD i ([],[])):=by
 refine hm _ ?_;rw[qA0];simp [h1]
def setN (c:Int)(n:Nat):List Nat:=(List.range n).filter λk=>decide (c/2^k%2=1)
abbrev okP (n:Nat)(ps:Zk):Prop:=(∀p∈ps,0<=p/\p<(n:Int))/\ps.length<=6
def t5 (c ps:Zk):Bool:=ps.any λp=>decide (0<c.getD p.toNat 0)
def W6 (hp:okP c.length ps):P4 [tI c,tI ps]=.ok (.bl (t5 c ps)):=by
 have e:∀N mg me ρ (h:∀p∈ps,ZX N ρ mg (.int p) λ ρ1=>me ρ1=.ok (.bl (decide (0<c.getD p.toNat 0)))),l6 N mg yes me (ps.map W.int) ρ=.ok (.lst ((ps.map λp=>decide (0<c.getD p.toNat 0)).map W.bl)):=λN mg me ρ h=>by
  rw[o9 (λp=>W.bl (decide (0<c.getD p.toNat 0))) _ _ ρ (by have:=hp.2;omega) h,qC8];rfl
 exists rpB,kg;rw[e]
 .exists rp18;unfold yb t5;rw[List.any_map];rfl
 .intro p I
  have:=hp.1 p I
  refine ⟨_,rfl,?_⟩;exists rp18
def brB (ps:Zk)(m:Mv):Bool:=t5 m.2 ps&&!t5 m.1 ps
def nW:Option Nat->W
 |none=>.non
 |some i=>.int (i:Int)
def Ck {ms:List Mv}(h:ms[i]?=some m)(hb:f m=true)(I:∀k m,k<i->ms[k]?=some m->f m=false):ms.findIdx? f=some i:=by
 rw[qJ3];obtain ⟨hi,he⟩:=qA6.mp h;refine ⟨hi,by rw[he];show hb,λj hj=>?_⟩;rw[I j ms[j] hj ZW];show qA3
def Cl {ms:List Mv}(I:∀k m,k<ms.length->ms[k]?=some m->f m=false):ms.findIdx? f=none:=by
 rw[qT1];intro x hx;obtain ⟨q,hq,e⟩:=qD1.mp hx;show I q x hq (by simp [hq,e])
def HD {ms:List Mv}{i:Nat}(h:((ms.map mW).mapIdx λi x=>W.tup [.int (i:Int),x])[i]?=some w):∃m,m∈ms/\ms[i]?=some m/\w=.tup [.int (i:Int),mW m]:=by
 rw[List.getElem?_mapIdx,qC1]at h;cases q:ms[i]? with
 |none=>rw[q]at h;cases h
 |some m=>rw[q]at h;cases h;show ⟨m,qD8 q,rfl,rfl⟩
def kQ (hm:∀m∈ms,okN n m)(hp:okP n ps):M3 [tM_ ms,tI ps]=.ok (nW (ms.findIdx? (brB ps))):=by
 have fin:Ok (M3 [tM_ ms,tI ps]) λv=>v=nW (ms.findIdx? (brB ps)):=by
  have he:T4 [tM_ ms]=.ok ((ms.map mW).mapIdx λi x=>W.tup [.int (i:Int),x]):=rfl;exists rpB,dI,he;refine n4 (t6 (λi ρ=>∃a b:Sl,ρ = [.par (tM_ ms),.par (tI ps),a,b]/\∀k m,k<i->ms[k]?=some m->brB ps m=false) ⟨_,_,rfl,λk m hk=>absurd hk (qC9 _)⟩ ?_ ?_)
  .rintro i u ρ hu ⟨a,b,rfl,I⟩;obtain ⟨m,a5,a4,rfl⟩:=HD hu;have hk:=hm m a5;have a0:L2.atI [tI m.1,tI m.2] 0=some (tI m.1):=rfl;have a1:L2.atI [tI m.1,tI m.2] 1=some (tI m.2):=rfl;have k1:=W6 (c:=m.1) (ps:=ps) (by rw[hk.1];show hp);have k2:=W6 (c:=m.2) (ps:=ps) (by rw[hk.2.1];show hp);refine ⟨_,rfl,?_⟩;exists a0,a1,k1,k2;refine E5 (λh=>?_) (λh=>?_)
   .exists rp18;rw[Ck a4 h I];rfl
   .exists rp18;refine ⟨_,_,rfl,λk m' hk a3=>?_⟩;by_cases e:k=i
    .subst e;rw[a4]at a3;cases a3;show h
    .show I k m' ox a3
  .rintro ρ ⟨a,b,rfl,I⟩;rw[qW8,qA5]at I;exists rp18;rw[Cl I];rfl
 obtain ⟨v,e,rfl⟩:=fin;show e
def cG (ms:List Mv)(ps:Zk):Prop:=∀m∈ms,brB ps m=false
def br_none:ms.findIdx? (brB ps)=none↔cG ms ps:=by
 rw[qT1];show ⟨λh m hm=>by simpa using h m hm,λh m hm=>by simpa using h m hm⟩
def BZ (h:∀p∈ps,p∈qs)(hh:t5 c ps=true):t5 c qs=true:=by
 unfold t5 at hh ⊢;rw[qD5]at hh ⊢;obtain ⟨p,I,e⟩:=hh;show ⟨p,h p I,e⟩
def Ca (I:p∈ps)(h:0<c.getD p.toNat 0):t5 c ps=true:=by
 unfold t5;rw[qD5];show ⟨p,I,qQ7 h⟩
def eZ (c ps:Zk):List Int:=ps.filter λp=>decide (c.getD p.toNat 0=0)
def nI (hm:∀m∈ms,okN n m)(hp:okP n ps):Ok (D4 [tM_ ms,tI ps]) λv=>∃qs:List Int,v=tI qs/\qs.Sublist ps/\cG ms qs/\∀zs:List Int,(∀p∈zs,p∈ps)->cG ms zs->∀p∈zs,p∈qs:=by
 have k0:=kQ hm hp;have c0:∀o:Option Nat,P7 (nW o)=.val (nW o):=λo=>by cases o <;> rfl
 exists rpB,bz,k0,c0;refine n4 (M1 ?_);refine O2 (λk ρ=>∃qs:List Int,ρ = [.par (tM_ ms),.par (tI ps),.val (tI qs),.val (nW (ms.findIdx? (brB qs)))]/\qs.length=k/\qs.Sublist ps/\∀zs:List Int,(∀p∈zs,p∈ps)->cG ms zs->∀p∈zs,p∈qs) ?_ ps.length _ ⟨ps,rfl,rfl,List.Sublist.refl _,λzs h _=>h⟩;rintro k ρ ⟨qs,rfl,hk,hs,hz⟩;have hq:okP n qs:=⟨λp h=>hp.1 p (hs.subset h),qA8 hs.length_le hp.2⟩;cases hf:ms.findIdx? (brB qs) with
 | none=>
  have b0:nW none=W.non:=rfl;refine ⟨false,?_,?_⟩
  .exists b0
  .rw [qA4 qA3]
   exists rp18;show ⟨qs,rfl,hs,br_none.mp hf,hz⟩
 | some i=>
  have b0:nW (some i)=W.int (i:Int):=rfl;refine ⟨true,?_,?_⟩
  .exists b0
  rw[qJ3]at hf;obtain ⟨hi,hb,_⟩:=hf;have hg:ms[i]=ms.getD i ([],[]):=by rw[qA0];simp [hi]
  have I:ms[i]∈ms:=qJ7 hi;rw[hg]at hb I;have e1:=atM (ms:=ms) (r:=(i:Int)) ox ox;rw[qI1]at e1;clear hg;generalize ms.getD i ([],[])=m at hb I e1
  have hok:=hm m I;have a1:L2.atI [tI m.1,tI m.2] 1=some (tI m.2):=rfl;have b1:t5 m.2 qs=true:=by unfold brB at hb;rw[qH1]at hb;show hb.1
  have b2:t5 m.1 qs=false:=by unfold brB at hb;rw[qH1]at hb;simpa using hb.2
  have a6:(eZ m.2 qs).Sublist qs:=List.filter_sublist;have a9:okP n (eZ m.2 qs):=⟨λp h=>hq.1 p (a6.subset h),qA8 a6.length_le hq.2⟩;have k1:=kQ hm a9;have e:∀N mg mc me ρ,(∀p∈qs,ZX N ρ mg (.int p) λ a3=>mc a3=.ok (decide (m.2.getD p.toNat 0=0))/\me a3=.ok (.int p)) ->
    l6 N mg mc me (qs.map W.int) ρ=.ok (lI (eZ m.2 qs)):=λN mg mc me ρ h=>by
   refine D9 W.int W.int (λp=>decide (m.2.getD p.toNat 0=0)) qs ρ (by have:=hq.2;omega) λp hp=>?_;obtain ⟨a3,x1,x2,x3⟩:=h p hp;show ⟨a3,x1,x2,λ_=>x3⟩
  rw[qA2 rfl];exists b0;rw[e]
  .exists k1,c0;refine ⟨(eZ m.2 qs).length,?_,eZ m.2 qs,rfl,rfl,a6.trans hs,λzs h1 h2 p a7=>?_⟩
   .subst hk;unfold t5 at b1;rw[qD5]at b1;obtain ⟨p,a5,a4⟩:=b1;have a4:=qQ9 a4;unfold eZ;refine qW9 (qI4 _ _) λe=>?_
    have:=List.length_filter_eq_length_iff.mp e p a5
    have:=qQ9 this
    omega
   .have a5:=hz zs h1 h2 p a7;refine qG3.mpr ⟨a5,qQ7 ?_⟩;have h0:=lr hok.2.2.2 p.toNat;by_cases a8:m.2.getD p.toNat 0=0
    .show a8
    .exfalso;have d:=h2 m I;unfold brB at d;rw[Ca a7 ox,qL8]at d;have d':t5 m.1 zs=true:=by simpa using d
     rw[BZ (hz zs h1 h2) d']at b2;cases b2
  .intro p a4
   have:=hq.1 p a4
   have ab:p<(m.2.length:Int):=by rw[hok.2.1];show this.2
   refine ⟨_,rfl,?_⟩;exists e1,a1
def pq (ns:Zk):noL (tI ns)=true:=C8 ns
abbrev swp (m:Mv):Mv:=(m.2,m.1)
def sJ (I:ms.length<=8):gj [tM_ ms]=.ok (tM_ (ms.map swp)):=by
 have e:∀N mg me ρ (h:∀m∈ms,ZX N ρ mg (mW m) λ ρ1=>me ρ1=.ok (mW (swp m))),l6 N mg yes me (ms.map mW) ρ=.ok (.lst ((ms.map swp).map mW)):=λN mg me ρ h=>by
  rw[o9 (λm=>mW (swp m)) _ _ ρ ox h,qC8];rfl
 exists rpB,nc;rw[e]
 .exists bP (hC (ms.map swp))
 .intro m hm;refine ⟨_,rfl,?_⟩;exists o6 (pq m.1),o6 (pq m.2)
def DJ {ms:List Mv}(hm:∀m∈ms,okN n m):∀m∈ms.map swp,okN n m:=λm h=>by
 obtain ⟨q,I,rfl⟩:=qB0.mp h
 have:=hm q I
 show ⟨this.2.1,this.1,this.2.2.2,this.2.2.1⟩
def g5 (a b:Zk):Bool:=(List.range a.length).all λk=>decide (b.getD k 0<=a.getD k 0)
def zH (hi:i<a.length)(h:a.getD i 0<b.getD i 0):g5 a b=false:=by
 unfold g5;rw[List.all_eq_false];show ⟨i,by simpa using hi,λh'=>by have:=qQ9 h';omega⟩
def lL (h:∀k,k<a.length->b.getD k 0<=a.getD k 0):g5 a b=true:=by
 unfold g5;rw[qH8];show λk hk=>qQ7 (h k (by simpa using hk))
def kL (hl:b.length=a.length):ae [tI a,tI b]=.ok (.bl (g5 a b)):=by
 have fin:Ok (ae [tI a,tI b]) λv=>v=.bl (g5 a b):=by
  have hz:=da (tI a) (tI b) _ _ rfl rfl;rw[aZ hl]at hz;exists rpB,nk,hz;refine n4 (t6 (λi ρ=>∃u v,ρ = [.par (tI a),.par (tI b),u,v]/\∀k,k<i->b.getD k 0<=a.getD k 0) ⟨_,_,rfl,λk hk=>absurd hk (qC9 _)⟩ ?_ ?_)
  .rintro i u ρ hu ⟨_,_,rfl,I⟩;obtain ⟨hi,rfl⟩:=wQ hu;refine ⟨_,rfl,?_⟩;exists rp18;refine E5 (λh=>?_) (λh=>?_)
   .exists rp18;rw[zH hi (by simpa using h)]
   .exists rp18;refine ⟨_,_,rfl,λk hk=>?_⟩;by_cases e:k=i
    .subst e;simpa using h
    .show I k ox
  .rintro ρ ⟨_,_,rfl,I⟩;rw[qA5,qF1]at I;exists rp18;rw[lL I]
 obtain ⟨v,e,rfl⟩:=fin;show e
def jN (h:m.1.length=s.length):dW [tI s,mW m]=.ok (.bl (g5 s m.1)):=by
 have a0:L2.atI [tI m.1,tI m.2] 0=some (tI m.1):=rfl;have k:=kL (a:=s) (b:=m.1) h;exists rpB,uG,a0,k
def iH (I:n<=6)(h:okM n m):af [mW m]=.ok (tI ((List.range n).map λk=>m.2.getD k 0-m.1.getD k 0)):=by
 have a0:L2.atI [tI m.1,tI m.2] 0=some (tI m.1):=rfl;have a1:L2.atI [tI m.1,tI m.2] 1=some (tI m.2):=rfl;have hz:=da (tI m.1) (tI m.2) _ _ rfl rfl;rw[aZ (by rw[h.1,h.2]),h.1]at hz;exists rpB,nq,a0,a1,hz;have e:∀N mg me ρ (h:∀k,k<n->ZX N ρ mg (.tup [.int (m.1.getD k 0),.int (m.2.getD k 0)]) λ ρ1=>me ρ1=.ok (.int (m.2.getD k 0-m.1.getD k 0))),l6 N mg yes me ((List.range n).map λk=>W.tup [.int (m.1.getD k 0),.int (m.2.getD k 0)]) ρ=.ok (lI ((List.range n).map λk=>m.2.getD k 0-m.1.getD k 0)):=λN mg me ρ h=>by
  rw[o9 (λk=>.int (m.2.getD k 0-m.1.getD k 0)) _ _ ρ (by simpa using (by omega:n<=1000)) (λk hk=>h k (by simpa using hk)),dE]
 rw[e]
 .exists rp18
 .intro k hk;refine ⟨_,rfl,?_⟩;exists rp18
def vI (I:n<=6)(h:okN n m):af [mW m]=.ok (tI ((List.range n).map λk=>m.2.getD k 0-m.1.getD k 0)):=iH I ⟨h.1,h.2.1⟩
def iM (h6:n<=6)(h:okM n m)(hs:s.length=n)(hc:g5 s m.1=true):S8 [tI s,mW m]=.ok (tI ((List.range n).map λk=>s.getD k 0+(m.2.getD k 0-m.1.getD k 0))):=by
 have I:=jN (s:=s) (m:=m) (by rw[hs,h.1]);rw[hc]at I;have k2:=iH h6 h;have hz:=da (tI s) (tI ((List.range n).map λk=>m.2.getD k 0-m.1.getD k 0)) _ _ rfl rfl;rw[aZ (by simp [hs]),hs]at hz;exists rpB,pE,I,k2,hz;have e:∀N mg me ρ (h:∀k,k<n->ZX N ρ mg (.tup [.int (s.getD k 0),.int (((List.range n).map λk=>m.2.getD k 0-m.1.getD k 0).getD k 0)]) λ ρ1=>me ρ1=.ok (.int (s.getD k 0+(m.2.getD k 0-m.1.getD k 0)))),l6 N mg yes me ((List.range n).map λk=>W.tup [.int (s.getD k 0),.int (((List.range n).map λk=>m.2.getD k 0-m.1.getD k 0).getD k 0)]) ρ=.ok (lI ((List.range n).map λk=>s.getD k 0+(m.2.getD k 0-m.1.getD k 0))):=λN mg me ρ h=>by
  rw[o9 (λk=>.int (s.getD k 0+(m.2.getD k 0-m.1.getD k 0))) _ _ ρ (by simpa using (by omega:n<=1000)) (λk hk=>h k (by simpa using hk)),dE]
 rw[e]
 .exists rp18
 .intro k hk;refine ⟨_,rfl,?_⟩;exists rp18;rw[K3 hk]
def vW (I:n<=6)(h:okN n m)(hs:s.length=n)(hc:g5 s m.1=true):S8 [tI s,mW m]=.ok (tI ((List.range n).map λk=>s.getD k 0+(m.2.getD k 0-m.1.getD k 0))):=iM I ⟨h.1,h.2.1⟩ hs hc
def C0 (s:Zk)(m:Mv):List Int:=(List.range s.length).map λk=>s.getD k 0+(m.2.getD k 0-m.1.getD k 0)
def cK (s:Zk)(m:Mv):(C0 s m).length=s.length:=by simp [C0]
abbrev Ent:=List Int×Nat×Nat
abbrev eW (e:Ent):W:=.tup [tI e.1,.int (e.2.1:Int),.int (e.2.2:Int)]
abbrev r0 (b:Zk):W:=.tup [tI b,.non,.non]
abbrev E2 (b:Zk)(es:List Ent):Zp:=r0 b::es.map eW
def stS (b:Zk)(es:List Ent):List Zk:=b::es.map (·.1)
def cd (e:Ent):Nat:=e.2.1*8+e.2.2
def mvN (ms:List Mv)(k:Nat):Mv:=ms.getD k ([],[])
def sA (b:Zk)(es:List Ent)(a:Nat):List Int:=(stS b es).getD a []
def X8 (b:Zk)(es:List Ent):(stS b es).length=es.length+1:=by simp [stS]
def iX (h:a<es.length+1):sA b (es ++ [e]) a=sA b es a:=by
 unfold sA stS;rw[qD0,<- qO9,qA0,qA0,qE8 (by simpa using h)]
def mt (h:a<es.length+1):sA b es a∈stS b es:=by
 unfold sA;rw[qA0,qA7 (by rw[X8];show h)];show qJ7 _
def abN (b:Zk)(ms:List Mv)(es:List Ent)(a k:Nat):Bool:=g5 (sA b es a) (mvN ms k).1
def bhN (b:Zk)(ms:List Mv)(es:List Ent)(a k:Nat):List Int:=C0 (sA b es a) (mvN ms k)
structure FlK (b:Zk) (ms:List Mv) (es:List Ent) (A:Nat) (T:Zy):Prop where
 len:∀e∈es,e.1.length=b.length
 k8:∀e∈es,e.2.2<ms.length
 lt:∀e∈es,e.2.1<A\/(e.2.1=A/\e.2.2∈T)
 inc:es.Pairwise λx y=>cd x<cd y
 par:∀(i:Nat) (e:Ent),es[i]?=some e->e.2.1<=i
 beh:∀e∈es,abN b ms es e.2.1 e.2.2=true/\e.1=bhN b ms es e.2.1 e.2.2
 nod:(stS b es).Nodup
 cl:∀t∈T,∀k,k<t->abN b ms es A k=true->k∈T
 set:∀a k,a<A\/(a=A/\k∈T)->k<ms.length->abN b ms es a k=true->(∃e∈es,e.2=(a,k))\/bhN b ms es a k=b\/∃e∈es,cd e<a*8+k/\e.1=bhN b ms es a k
def FlK.start (b:Zk)(ms:List Mv):FlK b ms [] 0 [] where
 len:=ZW
 k8:=ZW
 lt:=ZW
 inc:=List.Pairwise.nil
 par:=ZW
 beh:=ZW
 nod:=by simp [stS]
 cl:=ZW
 set:=λa k h=>by simp at h
def FlK.below (h:FlK b ms es A T)(h8:ms.length<=8)(hT:∀t∈T,t<k):∀e∈es,cd e<A*8+k:=λe I=>by
 have:=h.k8 e I
 unfold cd;rcases h.lt e I with q|⟨q,q'⟩
 .omega
 .have:=hT _ q';omega
def FlK.known (h:FlK b ms es A T)(h8:ms.length<=8)(hT:∀t∈T,t<k)(a5:∀j,j<k->abN b ms es A j=true->j∈T)(a4:bhN b ms es A k∈stS b es):FlK b ms es A (T ++ [k]) where
 len:=h.len
 k8:=h.k8
 lt:=λe he=>by
  rcases h.lt e he with q|⟨q,q'⟩
  .show .inl q
  .show .inr ⟨q,qE0 _ q'⟩
 inc:=h.inc
 par:=h.par
 beh:=h.beh
 nod:=h.nod
 cl:=λt ht j hj I=>by
  rcases qC0.mp ht with q|q
  .show qE0 _ (h.cl t q j hj I)
  .rw [qC6.mp q]at hj
   show qE0 _ (a5 j hj I)
 set:=λa j hj a3 I=>by
  rcases hj with q|⟨q,q'⟩
  .show h.set a j (.inl q) a3 I
  .rcases qC0.mp q' with q2|q2
   .show h.set a j (.inr ⟨q,q2⟩) a3 I
   .have ek:=qC6.mp q2;subst q ek;unfold stS at a4;rcases qB6.mp a4 with e|e
    .show .inr (.inl e)
    .obtain ⟨x,hx,ex⟩:=qB0.mp e;show .inr (.inr ⟨x,hx,h.below h8 hT x hx,ex⟩)
def FlK.snoc (h:FlK b ms es A T)(h8:ms.length<=8)(hA:A<es.length+1)(hk:k<ms.length)(hT:∀t∈T,t<k)(ab:∀j,j<k->abN b ms es A j=true->j∈T)(a6:abN b ms es A k=true)(a7:(bhN b ms es A k).length=b.length)(a4:bhN b ms es A k∉stS b es):FlK b ms (es ++ [(bhN b ms es A k,A,k)]) A (T ++ [k]):=by
 have hS:∀a j,a<es.length+1->abN b ms (es ++ [(bhN b ms es A k,A,k)]) a j=abN b ms es a j/\bhN b ms (es ++ [(bhN b ms es A k,A,k)]) a j=bhN b ms es a j:=λa j ha=>by
  unfold abN bhN;rw[iX ha];show ⟨rfl,rfl⟩
 have a3:∀e∈es,e.2.1<es.length+1:=λe he=>by
  obtain ⟨i,hi,ei⟩:=qD1.mp he
  have:=h.par i e (by rw[qA7 hi,ei])
  omega
 refine ⟨λe he=>?_,λe he=>?_,λe he=>?_,?_,λi e he=>?_,λe he=>?_,?_,λt ht j hj I=>?_,λa j hj a9 I=>?_⟩
 .rcases qC0.mp he with q|q
  .show h.len e q
  .rw[qC6.mp q];show a7
 .rcases qC0.mp he with q|q
  .show h.k8 e q
  .rw[qC6.mp q];show hk
 .rcases qC0.mp he with q|q
  .rcases h.lt e q with q1|⟨q1,q2⟩
   .show .inl q1
   .show .inr ⟨q1,qE0 _ q2⟩
  .rw[qC6.mp q];show .inr ⟨rfl,ZW⟩
 .refine qF0.mpr ⟨h.inc,qK7 _ _,λx hx y hy=>?_⟩;rw[qC6.mp hy];show h.below h8 hT x hx
 .by_cases hi:i<es.length
  .rw [qE8 hi]at he
   show h.par i e he
  .have a8:=(qA6.mp he).1;rw[qC4,qG6]at a8
   have:i=es.length:=ox
   subst this;rw[qG8 (qB2 _),Nat.sub_self]at he;cases he
   change A<=es.length;omega
 .rcases qC0.mp he with q|q
  .rw[(hS _ _ (a3 e q)).1,(hS _ _ (a3 e q)).2];show h.beh e q
  .rw [qC6.mp q]
   rw[(hS A k hA).1,(hS A k hA).2];show ⟨a6,rfl⟩
 .unfold stS;rw[qD0,<- qO9];refine List.nodup_append.mpr ⟨h.nod,ZW,λx hx y hy=>?_⟩;rw[List.map_singleton,qC6]at hy;subst hy;intro e;have e:x=bhN b ms es A k:=e;rw[e]at hx;show a4 hx
 .rw [(hS A j hA).1]at I
  rcases qC0.mp ht with q|q
  .show qE0 _ (h.cl t q j hj I)
  .rw [qC6.mp q]at hj
   show qE0 _ (ab j hj I)
 .have ha:a<es.length+1:=by
   rcases hj with q|⟨q,_⟩
   .omega
   .omega
  rw[(hS a j ha).1]at I;rw[(hS a j ha).2];have a5:(a<A\/(a=A/\j∈T))->(∃e∈es ++ [(bhN b ms es A k,A,k)],e.2=(a,j))\/bhN b ms es a j=b\/∃e∈es ++ [(bhN b ms es A k,A,k)],cd e<a*8+j/\e.1=bhN b ms es a j:=λhj=>by
   rcases h.set a j hj a9 I with ⟨e,he,q⟩|q|⟨e,he,q⟩
   .show .inl ⟨e,qE0 _ he,q⟩
   .show .inr (.inl q)
   .show .inr (.inr ⟨e,qE0 _ he,q⟩)
  rcases hj with q|⟨q,q'⟩
  .show a5 (.inl q)
  .rcases qC0.mp q' with q2|q2
   .show a5 (.inr ⟨q,q2⟩)
   .have ek:=qC6.mp q2;subst q ek;show .inl ⟨_,qE1 _ (List.mem_singleton_self _),rfl⟩
def FlK.next (h:FlK b ms es A T)(hT:∀k,k<ms.length->abN b ms es A k=true->k∈T):FlK b ms es (A+1) [] where
 len:=h.len
 k8:=h.k8
 lt:=λe he=>by
  rcases h.lt e he with q|⟨q,q'⟩
  .show .inl ox
  .show .inl ox
 inc:=h.inc
 par:=h.par
 beh:=h.beh
 nod:=h.nod
 cl:=ZW
 set:=λa k hj hk I=>by
  rcases hj with q|⟨_,q⟩
  .by_cases e:a=A
   .subst e;show h.set a k (.inr ⟨rfl,hT k hk I⟩) hk I
   .show h.set a k (.inl ox) hk I
  .simp at q
def fsN (ms:List Mv)(s:Zk):List Nat:=(List.range ms.length).filter λk=>g5 s (mvN ms k).1
def vh (ms:List Mv)(s:Zk):(fsN ms s).Pairwise (·<·):=List.Pairwise.filter _ List.pairwise_lt_range
def fs_mem:k∈fsN ms s↔k<ms.length/\g5 s (mvN ms k).1=true:=by
 unfold fsN;rw[qG3,qG2]
def Af {l:Zy}(h:l.Pairwise (·<·))(hi:i<l.length):∀t∈l.take i,t<l[i]:=λt ht=>by
 obtain ⟨j,I,e⟩:=qD1.mp ht;rw[qG1]at I;rw[List.getElem_take]at e;subst e;show qF6.mp h j i ox hi ox
def BI {l:Zy}(h:l.Pairwise (·<·))(hi:i<l.length)(ht:t∈l)(a3:t<l[i]):t∈l.take i:=by
 obtain ⟨j,hj,e⟩:=qD1.mp ht;subst e;have I:j<i:=by
  rcases qF4 j i with q|q|q
  .show q
  .subst q;omega
  .have:=qF6.mp h i j hi hj q;omega
 show qD1.mpr ⟨j,by rw[qG1];omega,by rw[List.getElem_take]⟩
def CC (ms:List Mv):((ms.map mW).mapIdx λi x=>W.tup [.int (i:Int),x])=(List.range ms.length).map λ(k:Nat)=>W.tup [.int (k:Int),mW (mvN ms k)]:=by
 apply qJ8
 .simp
 .intro i h1 I;have hi:i<ms.length:=by simpa using h1
  simp [mvN,qA0,qA7 hi]
def CV (h6:s.length<=6)(hm:∀m∈ms,okN s.length m)(hl:ms.length<=8):R4 [.tup [tI b,tM_ ms],tI s]=.ok (.lst ((fsN ms s).map λ(k:Nat)=>W.tup [tI (C0 s (mvN ms k)),.int (k:Int)])):=by
 have a1:L2.atI [tI b,tM_ ms] 1=some (tM_ ms):=rfl;have he:T4 [tM_ ms]=.ok ((List.range ms.length).map λ(k:Nat)=>W.tup [.int (k:Int),mW (mvN ms k)]):=by rw[<- CC];rfl
 exists rpB,aD,a1,he;have e:∀N mg mc me ρ,(∀k,k<ms.length->ZX N ρ mg (.tup [.int (k:Int),mW (mvN ms k)]) λ ρ1=>mc ρ1=.ok (g5 s (mvN ms k).1)/\(g5 s (mvN ms k).1=true->me ρ1=.ok (.tup [tI (C0 s (mvN ms k)),.int (k:Int)]))) ->
   l6 N mg mc me ((List.range ms.length).map λ(k:Nat)=>W.tup [.int (k:Int),mW (mvN ms k)]) ρ=.ok (.lst ((fsN ms s).map λ(k:Nat)=>W.tup [tI (C0 s (mvN ms k)),.int (k:Int)])):=λN mg mc me ρ h=>
  D9 (N':=N) (mg:=mg) (mc:=mc) (me:=me) (λk=>W.tup [tI (C0 s (mvN ms k)),.int (k:Int)]) (λk=>W.tup [.int (k:Int),mW (mvN ms k)]) (λk=>g5 s (mvN ms k).1) (List.range ms.length) ρ (by rw[qF1];omega) λk hk=>h k (qG2.mp hk)
 rw[e]
 .exists rp18
 .intro k hk;have I:okN s.length (mvN ms k):=getM hm hk;generalize mvN ms k=m at I
  have k1:=jN (s:=s) (m:=m) (by rw[I.1]);refine ⟨_,rfl,?_,λhc=>?_⟩
  .exists k1
  .have k2:=vW h6 I rfl hc;have k3:(List.range s.length).map (λk=>s.getD k 0+(m.2.getD k 0-m.1.getD k 0))=C0 s m:=rfl;rw[k3]at k2;exists k2,o6 (u7 (C0 s m))
def FlEnd (b:Zk)(ms:List Mv)(most:Nat)(es:List Ent)(wh:Bool):Prop:=
 es.length+1<=most/\((wh=true/\FlK b ms es (es.length+1) []) \/
  (wh=false/\es.length+1=most/\∃A T k,FlK b ms es A T/\A<es.length+1/\k<ms.length/\(∀t∈T,t<k)/\abN b ms es A k=true/\bhN b ms es A k∉stS b es))
def yI (h:k∉ks):oj ks k=ks ++ [k]:=qA4 h
def Av {es:List Ent}(h:a<es.length+1):∃x y:W,L2.atI (E2 b es) (a:Int)=some (.tup [tI (sA b es a),x,y]):=by
 cases a with
 |zero=>show ⟨.non,.non,ar (k:=0) rfl⟩
 | succ a=>
  have ha:a<es.length:=ox;have e1:(E2 b es)[a+1]?=some (eW es[a]):=by simp [ha]
  have e2:sA b es (a+1)=es[a].1:=by
   unfold sA stS;simp [qA0,ha]
  rw[e2];show ⟨_,_,ar (k:=a+1) e1⟩
def yi {most:Nat}(h6:b.length<=6)(hm:∀m∈ms,okN b.length m)(hl:ms.length<=8)(h1:1<=most)(c2:most<=100):Ok (jF [.tup [tI b,tM_ ms],.int (most:Int)]) λw=>∃(es:List Ent) (wh:Bool),w=.tup [.lst (E2 b es),.bl wh]/\FlEnd b ms most es wh:=by
 have a0:L2.atI [tI b,tM_ ms] 0=some (tI b):=rfl;have nw:=px;exists rpB,pC,a0,o6 (u7 b),xE,px;refine n4 (M1 ?_);refine O2 (λm ρ=>∃(es:List Ent) (at_:Nat) (a5 a6 a7:Sl),ρ = [.par (.tup [tI b,tM_ ms]),.par (.int (most:Int)),.own (E2 b es),.dic (stS b es),.val (.int (at_:Int)),a5,a6,a7]/\cC a5=false/\cC a6=false/\cC a7=false/\FlK b ms es at_ []/\at_<=es.length+1/\es.length+1<=most/\m+at_=102) ?_ 102 _ ⟨[],0,.un,.un,.un,rfl,rfl,rfl,rfl,FlK.start b ms,ox,by simpa using h1,rfl⟩;rintro m ρ ⟨es,at_,a5,a6,a7,rfl,d5,d6,d7,hK,c1,hmo,c4⟩;by_cases b4:at_<es.length+1
 .refine ⟨true,?_,?_⟩
  .exists rp18;rw[show decide ((at_:Int)<((es.length+1:Nat):Int))=true from qQ7 ox]
  rw[qA2 rfl];obtain ⟨x,y,er⟩:=Av (b:=b) (es:=es) b4;have bb:(sA b es at_).length=b.length:=by
   have:=mt (b:=b) (es:=es) b4
   unfold stS at this;rcases qB6.mp this with e|e
   .rw[e]
   .obtain ⟨z,hz,ez⟩:=qB0.mp e;rw[<- ez];show hK.len z hz
  have kb:=CV (b:=b) (s:=sA b es at_) ox (by rw[bb];show hm) hl;have c0:L2.atI [tI (sA b es at_),x,y] 0=some (tI (sA b es at_)):=rfl;exists er,c0,kb;generalize hs:sA b es at_=s at *
  have c3:(fsN ms s).length<=8:=by
   have:=qI4 (λk=>g5 s (mvN ms k).1) (List.range ms.length)
   rw[qF1]at this;unfold fsN;omega
  refine xa (λi ρ=>∃(I:List Ent) (a6 a7:Sl),ρ = [.par (.tup [tI b,tM_ ms]),.par (.int (most:Int)),.own (E2 b I),.dic (stS b I),.val (.int (at_:Int)),.val (tI s),a6,a7]/\cC a6=false/\cC a7=false/\FlK b ms I at_ ((fsN ms s).take i)/\at_<I.length+1/\I.length+1<=most/\sA b I at_=s) ⟨es,a6,a7,rfl,d6,d7,hK,b4,hmo,hs⟩ ?_ ?_
  .rintro i u ρ hu ⟨I,a6,a7,rfl,d6,d7,ab,a4,a9,a8⟩;rw[qC1]at hu;cases hq:(fsN ms s)[i]? with
   |none=>rw[hq]at hu;cases hu
   | some k=>
    rw[hq]at hu;cases hu;obtain ⟨hi,bc⟩:=qA6.mp hq;have b5:=fs_mem.mp (qD8 hq);have htk:(fsN ms s).take (i+1)=(fsN ms s).take i ++ [k]:=by rw[qK0,hq];rfl
    have hT:∀t∈(fsN ms s).take i,t<k:=λt ht=>by rw[<- bc];show Af (vh ms s) hi t ht
    have bq:∀j,j<k->abN b ms I at_ j=true->j∈(fsN ms s).take i:=λj hj a3=>by
     unfold abN at a3;rw[a8]at a3;show BI (vh ms s) hi (fs_mem.mpr ⟨ox,a3⟩) (by rw[bc];show hj)
    have a3:abN b ms I at_ k=true:=by unfold abN;rw[a8];show b5.2
    have b0:bhN b ms I at_ k=C0 s (mvN ms k):=by unfold bhN;rw[a8]
    have hbl:(C0 s (mvN ms k)).length=b.length:=by rw[cK];show bb
    have b3:=gx (stS b I) (.bl true) (C0 s (mvN ms k)) 3 [.par (.tup [tI b,tM_ ms]),.par (.int (most:Int)),.own (E2 b I),.dic (stS b I),.val (.int (at_:Int)),.val (tI s),.par (tI (C0 s (mvN ms k))),.par (.int (k:Int))] rfl (by rw[X8];omega);dsimp only;generalize hB:C0 s (mvN ms k)=B at *
    refine ⟨_,rfl,?_⟩;exists rp18;refine pi (λh=>?_) (λh=>?_)
    .have h:=qQ9 h;exists rp18;show ⟨I,_,_,rfl,rfl,rfl,by rw[htk];show ab.known hl hT bq (by rw[b0];show h),a4,a9,a8⟩
    .have h:=qR5 h;rw[yI h]at b3;exists rp18;refine pi (λh2=>?_) (λh2=>?_)
     .have h2:=qQ9 h2;exists rp18;show ⟨I,false,rfl,a9,.inr ⟨rfl,ox,at_,_,k,ab,a4,b5.1,hT,a3,by rw[b0];show h⟩⟩
     .have h2:=qR5 h2;exists b3,o6 (u7 B);refine ⟨I ++ [(B,at_,k)],.par (tI B),.par (.int (k:Int)),?_,rfl,rfl,?_,?_,?_,?_⟩
      .simp [E2,stS]
      .rw [htk,<- b0]
       show ab.snoc hl a4 b5.1 hT bq a3 (by rw[b0];show hbl) (by rw[b0];show h)
      .rw[qC4];omega
      .rw[qC4,qG6];omega
      .rw[iX a4];show a8
  .rintro ρ ⟨I,a6,a7,rfl,d6,d7,ab,a4,a9,a8⟩;rw[qA5,qI7]at ab;exists rp18;refine ⟨m-1,ox,I,at_+1,_,_,_,rfl,rfl,d6,d7,ab.next λk hk a3=>fs_mem.mpr ⟨hk,?_⟩,ox,a9,ox⟩;unfold abN at a3;rw[a8]at a3;show a3
 .refine ⟨false,?_,?_⟩
  .exists rp18;rw[show decide ((at_:Int)<((es.length+1:Nat):Int))=false from qQ6 ox]
  .rw [qA4 qA3]
   have e:at_=es.length+1:=ox;subst e;exists rp18;show ⟨es,true,rfl,hmo,.inl ⟨rfl,hK⟩⟩
def qG (b:Zk):Option Ent->W
 |none=>r0 b
 |some e=>eW e
def stO (b:Zk):Option Ent->List Int
 |none=>b
 |some e=>e.1
def Eo (b:Zk)(es:List Ent):E2 b es=(none::es.map some).map (qG b):=by
 rw[qB8,qC8];rfl
def st_O (b:Zk)(es:List Ent):(none::es.map some).map (stO b)=stS b es:=by
 rw[qB8,qC8];rfl
inductive Pt (es:List Ent):Nat->List Int->List Int->Prop where
 |zero:Pt es 0 [0] []
 |succ {i:Nat}{e:Ent}{l r:Zk}:es[i]?=some e->Pt es e.2.1 l r->Pt es (i+1) (((i+1:Nat):Int)::l) (r ++ [(e.2.2:Int)])
def Pt.ex (hp:∀(i:Nat) (e:Ent),es[i]?=some e->e.2.1<=i):∀n,n<=es.length->∃l r,Pt es n l r:=by
 intro n
 induction n using Nat.strongRecOn with
 | _ n I=>
  intro hn;cases n with
  |zero=>show ⟨_,_,.zero⟩
  | succ i=>
   have hi:es[i]?=some es[i]:=qA7 ox
   have:=hp i _ hi
   obtain ⟨l,r,p⟩:=I es[i].2.1 ox ox;show ⟨_,_,.succ hi p⟩
def Pt.len (I:∀(i:Nat) (e:Ent),es[i]?=some e->e.2.1<=i):∀{n:Nat}{l r:Zk},Pt es n l r->l.length=r.length+1/\r.length<=n
 |_,_,_,.zero=>⟨rfl,qB2 _⟩
 | _,_,_,.succ h p=>by
  have:=Pt.len I p
  have:=I _ _ h
  rw[qD4,qC4,qG6];omega
def Pt.rev:∀{n:Nat}{l r:Zk},Pt es n l r->∃t:List Nat,l.reverse=0::t.map (λ(k:Nat)=>((k+1:Nat):Int))/\(∀k∈t,k<es.length)/\r=t.map λk=>((es.getD k ([],0,0)).2.2:Int)
 |_,_,_,.zero=>⟨[],rfl,ZW,rfl⟩
 | _,_,_,.succ (i:=i) (e:=e) h p=>by
  obtain ⟨t,h1,h2,I⟩:=Pt.rev p;have hi:=(qA6.mp h).1;refine ⟨t ++ [i],?_,λk hk=>?_,?_⟩
  .rw[qO2,h1,qD0];rfl
  .rcases qC0.mp hk with q|q
   .show h2 k q
   .rw[qC6.mp q];show hi
  .rw [qD0,<- I]
   have:es.getD i ([],0,0)=e:=by rw[qA0,h];rfl
   rw[List.map_singleton,this]
def ru (ms:List Mv)(b r:Zk):List Int:=r.foldl (λs k=>C0 s (mvN ms k.toNat)) b
def oU (h:es[i]?=some e):L2.atI (E2 b es) ((i+1:Nat):Int)=some (eW e):=ar (k:=i+1) (by change (es.map eW)[i]?=_;rw[qC1,h];rfl)
def zY (hp:∀(i:Nat) (e:Ent),es[i]?=some e->e.2.1<=i)(hl:es.length<=100)(hn:n<=es.length)(p:Pt es n l r):X4 [.lst (E2 b es),.int (n:Int)]=.ok (lI l):=by
 have fin:Ok (X4 [.lst (E2 b es),.int (n:Int)]) λv=>v=lI l:=by
  have a6:=(Pt.len hp p).1;have a8:=(Pt.len hp p).2;exists rpB,hV;refine n4 (M1 ?_);refine O2 (λm ρ=>∃(xs l':Zk) (w:W) (a3:Sl),ρ = [.par (.lst (E2 b es)),.par (.int (n:Int)),.own (xs.map W.int),a3]/\(a3=.val w\/a3=.par w)/\xs++l'=l/\((w=.non/\l' = [])\/∃(n':Nat) (r':Zk),w=.int (n':Int)/\Pt es n' l' r'/\n'<m)) ?_ (n+1) _ ⟨[],l,.int (n:Int),.val (.int (n:Int)),rfl,.inl rfl,rfl,.inr ⟨n,r,rfl,p,qM6 n⟩⟩;rintro m ρ ⟨xs,l',w,a3,rfl,ha,hx,hc⟩;rcases hc with ⟨rfl,rfl⟩|⟨n',r',rfl,p',hm⟩
  .refine ⟨false,?_,?_⟩
   .rcases ha with rfl|rfl
    .exists rp18
    .exists rp18
   .rw [qA4 qA3]
    rw[qG0]at hx;subst hx;exists rp18
  .refine ⟨true,?_,?_⟩
   .rcases ha with rfl|rfl
    .exists rp18
    .exists rp18
   .rw [qA2 rfl]
    have a7:xs.length<=l.length:=by rw[<- hx,qC4];omega
    cases p' with
    | zero=>
     have I:L2.atI (E2 b es) (((0:Nat)):Int)=some (r0 b):=ar (k:=0) rfl;have a5:L2.atI (E2 b es) 0=some (r0 b):=I;have b1:L2.atI [tI b,W.non,W.non] 1=some W.non:=rfl;rcases ha with rfl|rfl
     .exists I,a5,b1;show ⟨0,ox,xs ++ [0],[],.non,_,by rw[qD0],.inr rfl,by simpa using hx,.inl ⟨rfl,rfl⟩⟩
     .exists I,a5,b1;show ⟨0,ox,xs ++ [0],[],.non,_,by rw[qD0],.inr rfl,by simpa using hx,.inl ⟨rfl,rfl⟩⟩
    | @succ i e l2 r2 h p2=>
     have r1:=oU (b:=b) h;have b1:L2.atI [tI e.1,.int (e.2.1:Int),.int (e.2.2:Int)] 1=some (.int (e.2.1:Int)):=rfl;have a9:=hp i e h;have a4:(xs ++ [((i+1:Nat):Int)])++l2=l:=by rw[<- hx];simp
     rcases ha with rfl|rfl
     .exists r1,b1;show ⟨i+1,ox,xs ++ [((i+1:Nat):Int)],l2,.int (e.2.1:Int),_,by rw[qD0],.inr rfl,a4,.inr ⟨e.2.1,r2,rfl,p2,ox⟩⟩
     .exists r1,b1;show ⟨i+1,ox,xs ++ [((i+1:Nat):Int)],l2,.int (e.2.1:Int),_,by rw[qD0],.inr rfl,a4,.inr ⟨e.2.1,r2,rfl,p2,ox⟩⟩
 obtain ⟨v,e,rfl⟩:=fin;show e
def wH (hp:∀(i:Nat) (e:Ent),es[i]?=some e->e.2.1<=i)(hl:es.length<=100)(hn:n<=es.length)(p:Pt es n l r):gr [.lst (E2 b es),.int (n:Int)]=.ok (lI r):=by
 have k1:=zY (b:=b) hp hl hn p;obtain ⟨t,h1,h2,h3⟩:=Pt.rev p;have a5:=Pt.len hp p;have a6:t.length=r.length:=by rw[h3,qA5]
 have k2:rG [.lst (E2 b es),.int (n:Int)]=.ok (lI l.reverse):=by
  exists rpB,zk,k1
 have k3:V9 [.lst (E2 b es),.int 0,.int (n:Int)]=.ok (lI r):=by
  have a4:gi (l.reverse.map W.int) (.int 0)=.ok (.int 0):=by
   rw[h1];have hs:(shp 8 (.int 0)&&shp 8 (.lst ((0::t.map λ(k:Nat)=>((k+1:Nat):Int)).map W.int)))=true:=by
    rw[S2,qL8];show Y4 W.int 7 (S2 7) _
   unfold gi;rw[qA2 hs];rfl
  have I:jK l.reverse (some 1) none=t.map λ(k:Nat)=>((k+1:Nat):Int):=by
   rw[h1];unfold jK;rw[show (1:Int)=((1:Nat):Int) from rfl,HT.sIx_nat,HT.sIx_none];simp;show qF9 ZW
  have e:∀N mg me ρ,(∀k∈t,ZX N ρ mg (.int ((k+1:Nat):Int)) λ ρ1=>me ρ1=.ok (.int ((es.getD k ([],0,0)).2.2:Int)))->l6 N mg yes me ((t.map λ(k:Nat)=>((k+1:Nat):Int)).map W.int) ρ=.ok (lI r):=λN mg me ρ h=>by
   rw[qC8];refine (o9 (λk=>W.int ((es.getD k ([],0,0)).2.2:Int)) (W.int∘λ(k:Nat)=>((k+1:Nat):Int)) t ρ ox h).trans ?_;rw[h3];show congrArg (λz=>R.ok (W.lst z)) (by rw[qC8];rfl)
  exists rpB,cT,k2,a4;rw[I,e]
  .exists rp18
  .intro k hk;have a3:=h2 k hk;have hg:es[k]?=some (es.getD k ([],0,0)):=by rw[qA0,qA7 a3];rfl
   have r1:=oU (b:=b) hg;generalize es.getD k ([],0,0)=e at r1
   have b2:L2.atI [tI e.1,.int (e.2.1:Int),.int (e.2.2:Int)] 2=some (.int (e.2.2:Int)):=rfl;refine ⟨_,rfl,?_⟩;exists r1,b2
 exists rpB,nh,k3
def k9 (s:Zk)(ss:Zw):Bool:=ss.any (g5 s)
def aR {ss:Zw}(h:i<ss.length):ss.getD i []∈ss:=by
 rw[qA0];simp [h]
def S5 {ss:Zw}(h:(ss.map tI)[i]?=some w):i<ss.length/\w=tI (ss.getD i []):=by
 rw[qC1]at h;cases q:ss[i]? with
 |none=>rw[q]at h;cases h
 | some k=>
  rw[q]at h;cases h;show ⟨(qA6.mp q).1,by rw[qA0,q];rfl⟩
def zn (hi:i<ss.length)(h:g5 s (ss.getD i [])=true):k9 s ss=true:=by
 unfold k9;rw[qD5];show ⟨_,aR hi,h⟩
def zo (h:∀k,k<ss.length->g5 s (ss.getD k [])=false):k9 s ss=false:=by
 unfold k9;rw[qP9];intro x I;obtain ⟨i,hi,e⟩:=qD1.mp I
 have:=h i hi
 rw[qA0]at this;simp [hi,e]at this;simp [this]
def aF (hl:∀x∈ss,x.length=s.length):O6 [tI s,.lst (ss.map tI)]=.ok (.bl (k9 s ss)):=by
 have fin:Ok (O6 [tI s,.lst (ss.map tI)]) λv=>v=.bl (k9 s ss):=by
  exists rpB,ni;refine n4 (t6 (λi ρ=>∃u,ρ = [.par (tI s),.par (.lst (ss.map tI)),u]/\∀k,k<i->g5 s (ss.getD k [])=false) ⟨_,rfl,λk hk=>absurd hk (qC9 _)⟩ ?_ ?_)
  .rintro i u ρ hu ⟨_,rfl,I⟩;obtain ⟨hi,rfl⟩:=S5 hu;have hc:=kL (a:=s) (b:=ss.getD i []) (hl _ (aR hi));refine ⟨_,rfl,?_⟩;exists hc;refine E5 (λh=>?_) (λh=>?_)
   .exists rp18;rw[zn hi h]
   .exists rp18;refine ⟨_,rfl,λk hk=>?_⟩;by_cases e:k=i
    .subst e;show h
    .show I k ox
  .rintro ρ ⟨_,rfl,I⟩;rw[qA5]at I;exists rp18;rw[zo I]
 obtain ⟨v,e,rfl⟩:=fin;show e
def srcL (g t p:Zk):List Int:=(List.range g.length).map λk=>max (t.getD k 0) (g.getD k 0-p.getD k 0+t.getD k 0)
def cf (g t p:Zk):(srcL g t p).length=g.length:=by simp [srcL]
def iR (h:k<g.length):(srcL g t p).getD k 0=max (t.getD k 0) (g.getD k 0-p.getD k 0+t.getD k 0):=K3 h
def sP (ht:t.length=g.length)(I:p.length=g.length)(hg:g.length<=6):gq [tI g,.tup [tI t,tI p]]=.ok (tI (srcL g t p)):=by
 have a0:L2.atI [tI t,tI p] 0=some (tI t):=rfl;have a1:L2.atI [tI t,tI p] 1=some (tI p):=rfl;have hz:=Dn (tI g) (tI t) (tI p) _ _ _ rfl rfl rfl;rw[zV ht I]at hz;exists rpB,ng,a0,a1,hz;have e:∀N mg me ρ (h:∀k,k<g.length->ZX N ρ mg (.tup [.int (g.getD k 0),.int (t.getD k 0),.int (p.getD k 0)]) λ ρ1=>me ρ1=.ok (.int (max (t.getD k 0) (g.getD k 0-p.getD k 0+t.getD k 0)))),l6 N mg yes me ((List.range g.length).map λk=>.tup [.int (g.getD k 0),.int (t.getD k 0),.int (p.getD k 0)]) ρ=.ok (lI (srcL g t p)):=λN mg me ρ h=>by
  rw[o9 (λk=>.int (max (t.getD k 0) (g.getD k 0-p.getD k 0+t.getD k 0))) _ _ ρ (by simpa using (by omega:g.length<=1000)) (λk hk=>h k (by simpa using hk)),dE];rfl
 rw[e]
 .exists rp18
 .intro k hk;refine ⟨_,rfl,?_⟩;exists rp18
def t9 (ms:List Mv)(ss:Zw):List Zk:=ms.flatMap λm=>ss.map λs=>srcL s m.1 m.2
def ca:(t9 ms ss).length=ms.length*ss.length:=by
 unfold t9
 induction ms with
 |nil=>simp
 |cons m ms I=>rw[List.flatMap_cons,qC4,I,qA5,qD4,Nat.succ_mul,qO6]
def fO (hs:∀x∈ss,x.length=n):∀x∈t9 ms ss,x.length=n:=λx I=>by
 unfold t9 at I;obtain ⟨m,_,I⟩:=qS8.mp I;obtain ⟨s,a3,rfl⟩:=qB0.mp I;rw[cf];show hs s a3
def gE (h6:n<=6)(hm:∀m∈ms,okM n m)(hs:∀x∈ss,x.length=n)(a7:ms.length<=8)(a5:ss.length<=100):V1 [tM_ ms,lS ss]=.ok (lS (t9 ms ss)):=by
 have fin:Ok (V1 [tM_ ms,lS ss]) λv=>v=lS (t9 ms ss):=by
  exists rpB,kh;refine n4 (t6 (λi ρ=>∃(u:Sl),ρ = [.par (tM_ ms),.par (lS ss),.own ((t9 (ms.take i) ss).map tI),u]/\i<=ms.length) ⟨_,rfl,qC7 _⟩ ?_ ?_)
  .rintro i w ρ hw ⟨u,rfl,hi⟩;obtain ⟨m,a4,a3,rfl⟩:=bw hw;have a6:i<ms.length:=(qA6.mp a3).1;refine ⟨_,rfl,?_⟩;have e:∀N mg me ρ (h:∀s∈ss,ZX N ρ mg (tI s) λ ρ1=>me ρ1=.ok (tI (srcL s m.1 m.2))),l6 N mg yes me (ss.map tI) ρ=.ok (lS (ss.map λs=>srcL s m.1 m.2)):=λN mg me ρ h=>by
    rw[o9 (λs=>tI (srcL s m.1 m.2)) _ _ ρ ox h];show congrArg (λl=>R.ok (W.lst l)) (by rw[qC8];rfl)
   exists rp18;rw[e]
   .have hl:(t9 (ms.take i) ss).length+ss.length<=1000:=by
     rw[ca,qG1,qP2 ox]
     have:=qH3 (show i<=8 by omega) a5
     omega
    exists rp18;refine ⟨.par (mW m),?_,a6⟩
    have:t9 (ms.take (i+1)) ss=t9 (ms.take i) ss++ss.map λs=>srcL s m.1 m.2:=by
     unfold t9;rw[qK0,a3];simp
    rw[this]
   .intro s I;have hk:=sP (g:=s) (t:=m.1) (p:=m.2) (by rw[hs s I,(hm m a4).1]) (by rw[hs s I,(hm m a4).2]) (by rw[hs s I];show h6);refine ⟨_,rfl,?_⟩;exists hk
  .rintro ρ ⟨u,rfl,hi⟩;rw[qA5,qI7];exists rp18
 obtain ⟨v,e,rfl⟩:=fin;show e
def cov_iff:g5 a b=true↔∀k,k<a.length->b.getD k 0<=a.getD k 0:=by
 unfold g5;rw[qH8];show ⟨λh k hk=>qQ9 (h k (by simpa using hk)),λh k hk=>qQ7 (h k (by simpa using hk))⟩
def qd:∀{a b:Zk},a.length=b.length->g5 a b=true->TP.lexLt a b=false
 | [],[],_,_=>rfl
 | [],_::_,h,_=>by simp at h
 |_::_,[],h,_=>by simp at h
 | x::a,y::b,h,hc=>by
  have hc:=cov_iff.mp hc;have h0:=hc 0 ZW;have h0:y<=x:=h0;unfold TP.lexLt;by_cases e:x=y
  .rw [qA2 e]
   refine qd (by simpa using h) (cov_iff.mpr λk hk=>?_)
   have:=hc (k+1) (by simpa using hk)
   simpa using this
  .rw [qA4 e]
   show qQ6 ox
def bst (I:Zw)(s:Zk):List Zk:=if k9 s I then I else I ++ [s]
def E6 (ss:Zw):List Zk:=(E9 ss).foldl bst []
def iK:∀(l I:Zw),(I.Pairwise λa b=>g5 b a=false) ->
  (∃t,t.Sublist l/\l.foldl bst I=I++t)/\((l.foldl bst I).Pairwise λa b=>g5 b a=false)/\∀z∈l,∃s∈l.foldl bst I,g5 z s=true
 | [],I,h2=>⟨⟨[],.slnil,ZW⟩,h2,λ_ h=>nomatch h⟩
 | z::l,I,h2=>by
  rw[qZ6];cases c:k9 z I with
  | true=>
   have e:bst I z=I:=by unfold bst;rw[qA2 c]
   rw[e];obtain ⟨⟨t,ht,et⟩,i3,i4⟩:=iK l I h2;refine ⟨⟨t,ht.cons z,et⟩,i3,λy hy=>?_⟩;rcases qB6.mp hy with rfl|hy
   .unfold k9 at c;obtain ⟨s,hs,hw⟩:=qD5.mp c;show ⟨s,by rw[et];show qE0 _ hs,hw⟩
   .show i4 y hy
  | false=>
   have e:bst I z=I ++ [z]:=by unfold bst;rw[qA4 (by rw[c];show qA3)]
   rw[e];have a3:∀s∈I,g5 z s=false:=λs hs=>by
    unfold k9 at c;rw[qP9]at c;simpa using c s hs
   obtain ⟨⟨t,ht,et⟩,i3,i4⟩:=iK l (I ++ [z]) (by
    rw[qF0];refine ⟨h2,qK7 _ _,λa ha b hb=>?_⟩;rw[qC6.mp hb];show a3 a ha)
   refine ⟨⟨z::t,ht.cons₂ z,by rw[et];simp⟩,i3,λy hy=>?_⟩;rcases qB6.mp hy with rfl|hy
   .refine ⟨y,?_,lL λk hk=>qH9 _⟩;rw[et];simp
   .show i4 y hy
structure Bas (n:Nat) (B:Zw):Prop where
 len:∀b∈B,b.length=n
 up:B.Pairwise λa b=>TP.lexLt b a=false
 a1:B.Pairwise λa b=>g5 b a=false
def cI (a:Zk):g5 a a=true:=lL λk hk=>qH9 _
def Bas.a2 (h:Bas n B):B.Pairwise λa b=>g5 a b=false:=by
 refine qM8 (λ{a b} ha hb q=>?_) (h.up.and h.a1);cases c:g5 a b with
 |false=>rfl
 | true=>
  exfalso;have I:=qd (by rw[h.len a ha,h.len b hb]) c;have e:=S6 _ _ I q.1;rw[e,cI]at q;show absurd q.2 ZU
def Bas.lt (h:Bas n B):B.Pairwise λa b=>TP.lexLt a b=true:=by
 refine qM8 (λ{a b} ha hb q=>?_) (h.up.and h.a1);cases c:TP.lexLt a b with
 |true=>rfl
 | false=>
  exfalso;have e:=S6 _ _ c q.1;rw[e,cI]at q;show absurd q.2 ZU
def bv (h:∀s∈ss,s.length=n):Bas n (E6 ss)/\(∀b∈E6 ss,b∈ss)/\(∀s∈ss,∃b∈E6 ss,g5 s b=true)/\(E6 ss).length<=ss.length:=by
 have I:=O9 ss;obtain ⟨⟨t,ht,et⟩,i3,i4⟩:=iK (E9 ss) [] .nil;rw[qP3]at et;have hs:(E6 ss).Sublist (E9 ss):=by unfold E6;rw[et];show ht
 refine ⟨⟨λb hb=>h b (I.mem_iff.mp (hs.subset hb)),(eF ss).sublist hs,i3⟩,λb hb=>I.mem_iff.mp (hs.subset hb),λs q=>i4 s (I.mem_iff.mpr q),?_⟩
 have:=hs.length_le
 rw[I.length_eq]at this;show this
def kH:∀(l I:Zw),((I++l).Pairwise λa b=>g5 b a=false)->l.foldl bst I=I++l
 | [],I,_=>ZW
 | z::l,I,h=>by
  rw[qZ6];have hz:k9 z I=false:=by
   unfold k9;rw[qP9];intro s hs
   have:=(qF0.mp h).2.2 s hs z qB9
   rw[this];show qA3
  have e:bst I z=I ++ [z]:=by unfold bst;rw[qA4 (by rw[hz];show qA3)]
  rw[e,kH l (I ++ [z]) (by simpa using h)];simp
def xA (h:Bas n B)(I:ss.Perm B):E6 ss=B:=by
 have e:E9 ss=B:=qM7 (le:=λa b=>TP.lexLt b a=false) (λa b _ _ x y=>S6 _ _ y x) (eF ss) h.up ((O9 ss).trans I);unfold E6;rw[e,kH B [] (by simpa using h.a1)];rfl
def pO (h:ss.length<=1000)(a3:∀z∈ss,z ≠ []):fSortA [lS ss]=.ok (lS (E9 ss)):=by
 have I:ss.all (λx=>!x.isEmpty)=true:=by
  rw[qH8];intro x hx
  have:=a3 x hx
  cases x with
  |nil=>show absurd rfl this
  |cons _ _=>rfl
 change (match W5 (ss.map λx=>W.tup (x.map W.int)) with|some ss=>_|none=>_)=_;rw[lQ]
 change (if _ then _ else _)=_;rw[qA2 ⟨h,I⟩]
def wt {l:Zw}(hi:i<l.length):(l.take (i+1)).foldl bst []=bst ((l.take i).foldl bst []) (l.getD i []):=by
 rw[qK0,List.foldl_append,qA0];simp [qA7 hi]
def fold_subB {l:Zw}:(l.foldl bst []).Sublist l:=by
 obtain ⟨⟨t,ht,I⟩,_⟩:=iK l [] .nil;rw[qP3]at I;rw[I];show ht
def xG (h1:1<=n)(h:∀s∈ss,s.length=n)(a6:ss.length<=900):fc [lS ss]=.ok (lS (E6 ss)):=by
 have fin:Ok (fc [lS ss]) λv=>v=lS (E6 ss):=by
  have k0:=pO (ss:=ss) ox λz hz e=>by have:=h z hz;rw[e]at this;simp at this;omega
  have hp:=O9 ss;have hlen:=hp.length_eq;have a5:∀s∈E9 ss,s.length=n:=λs hs=>h s (hp.mem_iff.mp hs);exists rpB,pB,k0;unfold E6;generalize E9 ss=S at hlen a5
  refine n4 (t6 (λi ρ=>∃a:Sl,ρ = [.par (lS ss),.own (((S.take i).foldl bst []).map tI),a]) ⟨_,rfl⟩ ?_ ?_)
  .rintro i u ρ hu ⟨a,rfl⟩;obtain ⟨hi,rfl⟩:=S5 hu;have a4:=aR hi;have a3:=wt hi;have I:((S.take i).foldl bst []).Sublist S:=fold_subB.trans (List.take_sublist _ _);generalize (S.take i).foldl bst []=F at a3 I
   generalize S.getD i []=z at a4 a3
   have a7:F.length<=900:=by have:=I.length_le;omega
   have k1:=aF (s:=z) (ss:=F) λx hx=>by rw[a5 x (I.subset hx),a5 z a4]
   refine ⟨_,rfl,?_⟩;exists k1;refine E5 (λh=>?_) (λh=>?_)
   .exists o6 (u7 z);refine ⟨.par (tI z),?_⟩;rw[a3];unfold bst;rw[qA4 (by simpa using h),qD0]
   .exists rp18;refine ⟨.par (tI z),?_⟩;rw[a3];unfold bst;rw[qA2 (by simpa using h)]
  .rintro ρ ⟨a,rfl⟩;rw[qA5,qI7];exists rp18
 obtain ⟨v,e,rfl⟩:=fin;show e
def atS {ss:Zw}(h:i<ss.length):L2.atI (ss.map tI) (i:Int)=some (tI (ss.getD i [])):=by
 have:=bV tI (as:=ss) (d:=[]) (i:=(i:Int)) ox
 rw[qI1]at this;show this
def pM (p:Zk):∀qs:List Zk,((pds (qs.map tI)).any λy=>PyData.eqv y (pd (tI p)))=decide (p∈qs)
 | []=>by simp [pds]
 | q::qs=>by
  have g:=pM p qs;have e:PyData.eqv (pd (tI q)) (pd (tI p))=decide (q=p):=eqI q p;simp only [qB8,pds,qX3,g,e];by_cases h:q=p
  .subst h;simp
  .have h':¬ p=q:=λe=>h e.symm;simp [h,h']
def nN (neg:Bool)(p:Zk)(qs:Zw):fIn neg (tI p) (lS qs)=.ok (.bl (if neg then !decide (p∈qs) else decide (p∈qs))):=by
 have e:inW (tI p) (lS qs)=some (decide (p∈qs)):=congrArg some (pM p qs);unfold fIn;rw[bf,gG,qN3,qA2 rfl,e]
def M5 (s:Zk)(m:Mv):List Int:=(List.range s.length).map λk=>s.getD k 0-m.1.getD k 0+m.2.getD k 0
def cL (s:Zk)(m:Mv):(M5 s m).length=s.length:=by simp [M5]
def G0 (ss:Zw)(s:Zk)(m:Mv):Bool:=g5 s m.1&&k9 (M5 s m) ss
def rh (ms:List Mv)(ss:Zw)(s:Zk):Bool:=k9 s ss||ms.any (G0 ss s)
def aM (h1:a.length=b.length)(x:g5 a b=true)(y:g5 b c=true):g5 a c=true:=cov_iff.mpr λk hk=>by
 have p:=cov_iff.mp x k hk;have q:=cov_iff.mp y k ox;omega
def oS (hz:z.length=n)(hs:s.length=n):g5 z (srcL s m.1 m.2)=true↔g5 z m.1=true/\g5 (M5 z m) s=true:=by
 constructor
 .intro h;have h:=cov_iff.mp h;refine ⟨cov_iff.mpr λk hk=>?_,cov_iff.mpr λk hk=>?_⟩
  .have:=h k hk
   rw[iR ox]at this;omega
  .rw [cL]at hk
   have:=h k hk
   rw[iR ox]at this;rw[show (M5 z m).getD k 0=_ from K3 hk];omega
 .rintro ⟨h,h'⟩;have h:=cov_iff.mp h;have h':=cov_iff.mp h';refine cov_iff.mpr λk hk=>?_;have p:=h k hk;have q:=h' k (by rw[cL];show hk);rw[show (M5 z m).getD k 0=_ from K3 hk]at q;rw[iR ox];omega
section
variable {n:Nat}{ms:List Mv}{ss:Zw}(hs:∀x∈ss,x.length=n)
include hs
def fh:∀x∈ss++t9 ms ss,x.length=n:=λx I=>by
 rcases qC0.mp I with q|q
 .show hs x q
 .show fO hs x q
def xH (hz:z.length=n):rh ms ss z=true↔∃d∈ss++t9 ms ss,g5 z d=true:=by
 unfold rh;rw[Bool.or_eq_true];constructor
 .rintro (h|h)
  .unfold k9 at h;obtain ⟨s,h1,I⟩:=qD5.mp h;show ⟨s,qE0 _ h1,I⟩
  .obtain ⟨m,h1,I⟩:=qD5.mp h;unfold G0 at I;rw[qH1]at I;unfold k9 at I;obtain ⟨s,h3,h4⟩:=qD5.mp I.2;refine ⟨srcL s m.1 m.2,qE1 _ ?_,(oS hz (hs s h3)).mpr ⟨I.1,h4⟩⟩;unfold t9;show qS8.mpr ⟨m,h1,qB0.mpr ⟨s,h3,rfl⟩⟩
 .rintro ⟨d,hd,hc⟩;rcases qC0.mp hd with q|q
  .show .inl (qD5.mpr ⟨d,q,hc⟩)
  .unfold t9 at q;obtain ⟨m,h1,q⟩:=qS8.mp q;obtain ⟨s,h3,rfl⟩:=qB0.mp q
   have:=(oS hz (hs s h3)).mp hc
   refine .inr (qD5.mpr ⟨m,h1,?_⟩);unfold G0;rw[this.1,qL8];show qD5.mpr ⟨s,h3,this.2⟩
end
def Aj (h1:1<=n)(h6:n<=6)(hm:∀m∈ms,okM n m)(hs:∀x∈ss,x.length=n)(I:ms.length<=8)(a4:ss.length<=100)(a3:ss.length+ms.length*ss.length<=900):U3 [tM_ ms,lS ss]=.ok (lS (E6 (ss++t9 ms ss))):=by
 have k1:=gE h6 hm hs I a4;have k2:=xG (ss:=ss++t9 ms ss) h1 (fh hs) (by rw[qC4,ca];show a3);have k3:T0 true (.lst (ss.map tI)) (lS (t9 ms ss))=.ok (lS (ss++t9 ms ss)):=by
  rw[vt (by simp [ca];omega),<- qD0];rfl
 exists rpB,fk,k1,k3,k2
def B6 (ms:List Mv)(ss:Zw):Bool:=(t9 ms ss).all λs=>k9 s ss
def An (h6:n<=6)(hm:∀m∈ms,okM n m)(hs:∀x∈ss,x.length=n)(I:ms.length<=8)(a3:ss.length<=100):dS [tM_ ms,lS ss]=.ok (.bl (B6 ms ss)):=by
 have k1:=gE h6 hm hs I a3;have e:∀N mg me ρ (h:∀s∈t9 ms ss,ZX N ρ mg (tI s) λ ρ1=>me ρ1=.ok (.bl (k9 s ss))),l6 N mg yes me ((t9 ms ss).map tI) ρ=.ok (.lst (((t9 ms ss).map λs=>k9 s ss).map W.bl)):=λN mg me ρ h=>by
  rw[o9 (λs=>W.bl (k9 s ss)) _ _ ρ (by rw[ca];have:=qH3 I a3;omega) h,qC8];rfl
 exists rpB,km,k1;rw[e]
 .exists rp18;unfold yc B6;rw[List.all_map];rfl
 .intro s a4;have hk:=aF (s:=s) (ss:=ss) (λx hx=>by rw[hs x hx,fO hs s a4]);refine ⟨_,rfl,?_⟩;exists hk
def Bk (ms:List Mv)(t:Zk):Nat->List Zk
 |0=>[t]
 |k+1=>E6 (Bk ms t k++t9 ms (Bk ms t k))
def au (ht:t.length=n):∀k,Bas n (Bk ms t k)
 |0=>⟨λb hb=>by rw[qC6.mp hb];show ht,qK7 _ _,qK7 _ _⟩
 |k+1=>(bv (fh (ms:=ms) (au ht k).len)).1
section
variable {n:Nat}{ms:List Mv}{t:Zk}(ht:t.length=n)
include ht
def nA (k:Nat)(hs:s.length=n):k9 s (Bk ms t (k+1))=(k9 s (Bk ms t k)||ms.any (G0 (Bk ms t k) s)):=by
 have I:=au (ms:=ms) ht k;have hm:=bv (fh (ms:=ms) I.len);have e:k9 s (Bk ms t (k+1))=true↔rh ms (Bk ms t k) s=true:=by
  rw[xH I.len hs];unfold k9;rw[qD5];constructor
  .rintro ⟨b,hb,hc⟩;show ⟨b,hm.2.1 b hb,hc⟩
  .rintro ⟨d,hd,hc⟩;obtain ⟨b,hb,a3⟩:=hm.2.2.1 d hd;show ⟨b,hb,aM (by rw[hs,fh (ms:=ms) I.len d hd]) hc a3⟩
 show qH4.mpr e
end
def yz (h:a.length=b.length)(h1:g5 a b=true)(h2:g5 b a=true):a=b:=by
 apply qJ8 h;intro k ha hb;have p:=cov_iff.mp h1 k ha;have q:=cov_iff.mp h2 k hb;have I:a.getD k 0=a[k]:=by rw[qA0];simp [ha]
 have eb:b.getD k 0=b[k]:=by rw[qA0];simp [hb]
 rw[I,eb]at p q;omega
def Bas.one (hB:Bas n B)(hb:b∈B)(a3:b'∈B)(h2:g5 b b'=true):b=b':=by
 obtain ⟨i,hi,e1⟩:=qD1.mp hb;obtain ⟨i',I,e2⟩:=qD1.mp a3;rcases qF4 i i' with q|q|q
 .have:=qF6.mp hB.a2 i i' hi I q
  rw[e1,e2,h2]at this;cases this
 .subst q;rw[<- e1,<- e2]
 .have:=qF6.mp hB.a1 i' i I hi q
  rw[e1,e2,h2]at this;cases this
def qj (hA:Bas n A)(hB:Bas n B)(h1:∀a∈A,∃b∈B,g5 a b=true)(h2:∀b∈B,∃a∈A,g5 b a=true):∀a∈A,a∈B:=λa ha=>by
 obtain ⟨b,hb,c1⟩:=h1 a ha;obtain ⟨a',I,c2⟩:=h2 b hb;have la:=hA.len a ha;have lb:=hB.len b hb;have e:=hA.one ha I (aM ox c1 c2);rw[<- e]at c2;rw[yz ox c1 c2];show hb
def vV (I:Bas n A)(hB:Bas n B)(h1:∀a∈A,∃b∈B,g5 a b=true)(h2:∀b∈B,∃a∈A,g5 b a=true):A=B:=by
 have s1:=qj I hB h1 h2;have s2:=qj hB I h2 h1;have nd:∀{L:Zw},Bas n L->L.Nodup:=λh=>h.lt.imp λq e=>by subst e;rw[TP.lex_irr]at q;cases q
 have hp:A.Perm B:=(qX5 (nd I) (nd hB)).mpr λx=>⟨s1 x,s2 x⟩;show qM7 (le:=λa b=>TP.lexLt a b=true) (λa b _ _ x y=>by have:=TP.lex_tr _ _ _ x y;rw[TP.lex_irr]at this;cases this) I.lt hB.lt hp
def wz (hs:∀x∈ss,x.length=n):decide (E6 (ss++t9 ms ss)=E6 ss)=B6 ms ss:=by
 have m1:=bv (fh (ms:=ms) hs);have I:=bv hs;have up:∀{b:Zk},b∈ss->∃a∈E6 (ss++t9 ms ss),g5 b a=true:=λhb=>m1.2.2.1 _ (qE0 _ hb);by_cases q:E6 (ss++t9 ms ss)=E6 ss
 .rw [qQ7 q]
  symm
  unfold B6;rw[qH8];intro x hx;obtain ⟨b,hb,c⟩:=m1.2.2.1 x (qE1 _ hx);rw[q]at hb;show qD5.mpr ⟨b,I.2.1 b hb,c⟩
 .rw [qQ6 q]
  cases r:B6 ms ss with
  |false=>rfl
  | true=>
   exfalso;refine q (vV m1.1 I.1 (λa ha=>?_) λb hb=>up (I.2.1 b hb));rcases qC0.mp (m1.2.1 a ha) with h|h
   .show I.2.2.1 a h
   .unfold B6 at r
    have:=qH8.mp r a h
    unfold k9 at this;obtain ⟨d,hd,cd⟩:=qD5.mp this;obtain ⟨e,he,ce⟩:=I.2.2.1 d hd;show ⟨e,he,aM (by rw[hs d hd,fO hs a h]) cd ce⟩
def oT (h:ws.length=n):O1 n N m ws=W0 (m (ws.map Sl.val++List.replicate (N-n) Sl.un)):=by unfold O1;rw[qA2 h];rfl
def Eh (a b:W):O1 2 N m [a,b]=W0 (m (Sl.val a::Sl.val b::List.replicate (N-2) Sl.un)):=oT rfl
def Eg (a b c d:W):O1 4 N m [a,b,c,d]=W0 (m (Sl.val a::Sl.val b::Sl.val c::Sl.val d::List.replicate (N-4) Sl.un)):=oT rfl
def rgW (ms:List Mv)(t:Zk)(j:Nat):Zp:=(List.range (j+1)).map λi=>lS (Bk ms t i)
def mD (ms:List Mv)(t:Zk)(j:Nat):(rgW ms t j).length=j+1:=by simp [rgW]
def Ey (ms:List Mv)(t:Zk)(j:Nat):rgW ms t (j+1)=rgW ms t j ++ [lS (Bk ms t (j+1))]:=by
 unfold rgW;rw[qV2,qD0];rfl
def yW (ms:List Mv)(t:Zk)(j:Nat):L2.atI (rgW ms t j) (-1)=some (lS (Bk ms t j)):=by
 unfold L2.atI
 have:L2.ixN (rgW ms t j).length (-1)=some j:=by
  unfold L2.ixN;rw[mD];simp;omega
 rw[this]
 change (rgW ms t j)[j]?=_;unfold rgW;simp
def B1 (ms:List Mv)(t:Zk)(most:Nat)(word:String)(j:Nat):W:=if decide ((most:Int)<((Bk ms t j).length:Int))=true then .tup [.str "open",.int (j:Int)] else if B6 ms (Bk ms t j)=true then .tup [.str word,lS (Bk ms t j)] else if decide ((j:Int)=(most:Int))=true then .tup [.str "open",.int (j:Int)] else .non
def end_non:B1 ms t most word j=.non↔((Bk ms t j).length<=most/\B6 ms (Bk ms t j)=false/\j≠most):=by
 unfold B1;constructor
 .intro h
  split at h
  .cases h
  .rename_i h1
   split at h
   .cases h
   .rename_i I
    split at h
    .cases h
    .rename_i h3
     simp at h1 I h3;show ⟨ox,I,ox⟩
 .rintro ⟨h1,I,h3⟩;rw[qA4 (by simp;omega),I,qA4 qA3,qA4 (by simp;omega)]
def vv {most:Nat}{word:String}(h6:n<=6)(hm:∀m∈ms,okM n m)(a3:ms.length<=8)(ht:t.length=n)(hmo:most<=30):cF [tM_ ms,.lst (rgW ms t j),.int (most:Int),.str word]=.ok (B1 ms t most word j):=by
 have fin:Ok (cF [tM_ ms,.lst (rgW ms t j),.int (most:Int),.str word]) λv=>v=B1 ms t most word j:=by
  have a1:=yW ms t j;have l1:=mD ms t j;have hB:=au (ms:=ms) ht j;have I:(((j+1:Nat):Int))-1=(j:Int):=ox;have ee:fEq false (.int (j:Int)) (.int (most:Int))=.ok (.bl (decide ((j:Int)=(most:Int)))):=R6 false _ _;have n1:m9 ((Bk ms t j).map tI)=true:=gZ _;exists Eg,nj,a1,l1,I;refine n4 (J1 (λh=>?_) (λh=>?_))
  .exists rp18;unfold B1;rw[qA2 h]
  have a4:(Bk ms t j).length<=most:=by have:=qR5 h;omega
  have k1:=An h6 hm hB.len a3 ox;exists k1;refine J1 (λh2=>?_) (λh2=>?_)
  .exists rp18;unfold B1;rw[qA4 (by rw[h];show qA3),qA2 h2]
  exists ee;refine J1 (λh3=>?_) (λh3=>?_)
  .exists rp18;unfold B1;rw[qA4 (by rw[h];show qA3),qA4 (by rw[h2];show qA3),qA2 h3]
  .exists rp18;unfold B1;rw[qA4 (by rw[h];show qA3),qA4 (by rw[h2];show qA3),qA4 (by rw[h3];show qA3)]
 obtain ⟨v,e,rfl⟩:=fin;show e
def DM {R:Zp}:fP 4 [3] w [a,b,c,.own R,x] = [a,b,c,if noL w=true then .own R else .val (.lst R),.val w]:=by
 unfold fP
 split <;> rfl
def Er {n:Nat}(I:ms.length<=8)(hmo:most<=30)(h:B1 ms t most word j=.non):(Bk ms t j).length<=100/\(Bk ms t j).length+ms.length*(Bk ms t j).length<=900:=by
 have h:=(end_non.mp h).1
 have:=qH3 I (show (Bk ms t j).length<=30 by omega)
 omega
def HH (ws:Zp)(w:W):K0 (ws ++ [w]) none (some (-1))=ws:=by
 unfold K0;rw[HT.sIx_none]
 have:HT.sIx (ws ++ [w]).length (ws ++ [w]).length (some (-1))=ws.length:=by
  change (if (-1:Int)<0 then ((-1:Int)+(((ws ++ [w]).length:Nat):Int)).toNat else min (-1:Int).toNat (ws ++ [w]).length)=_;rw[qA2 ox,qC4,qG6];omega
 rw[this];simp
def IH (hs:s.length=n):(List.range n).map (λk=>s.getD k 0+(m.2.getD k 0-m.1.getD k 0))=M5 s m:=by
 unfold M5;rw[hs];refine qK8 λk _=>?_;omega
def vX (I:n<=6)(h:okM n m)(hs:s.length=n)(hc:g5 s m.1=true):S8 [tI s,mW m]=.ok (tI (M5 s m)):=by
 rw[iM I h hs hc,IH hs]
def U2 (ms:List Mv)(B:Zw)(s:Zk):List Nat:=(List.range ms.length).filter λk=>G0 B s (ms.getD k ([],[]))
def ym (ms:List Mv):((ms.map mW).mapIdx λi x=>W.tup [.int (i:Int),x])=(List.range ms.length).map λ(k:Nat)=>W.tup [.int (k:Int),mW (ms.getD k ([],[]))]:=by
 apply qJ8
 .simp
 .intro i h1 I;have hi:i<ms.length:=by simpa using h1
  simp [hi]
def BV (h6:n<=6)(hm:∀m∈ms,okM n m)(a4:ms.length<=8)(hB:∀x∈B,x.length=n)(hs:s.length=n):ad [tI s,tM_ ms,lS B]=.ok (lI ((U2 ms B s).map λ(k:Nat)=>(k:Int))):=by
 have he:T4 [tM_ ms]=.ok ((List.range ms.length).map λ(k:Nat)=>W.tup [.int (k:Int),mW (ms.getD k ([],[]))]):=congrArg R.ok (ym ms);have e:∀N mg mc me ρ,(∀k:Nat,k<ms.length->ZX N ρ mg (.tup [.int (k:Int),mW (ms.getD k ([],[]))]) λ I=>mc I=.ok (G0 B s (ms.getD k ([],[])))/\me I=.ok (.int (k:Int))) ->
   l6 N mg mc me ((List.range ms.length).map λ(k:Nat)=>W.tup [.int (k:Int),mW (ms.getD k ([],[]))]) ρ=.ok (lI ((U2 ms B s).map λ(k:Nat)=>(k:Int))):=λN mg mc me ρ h=>by
  have:=D9 (N':=N) (mg:=mg) (mc:=mc) (me:=me) (λk:Nat=>W.int (k:Int)) (λk:Nat=>W.tup [.int (k:Int),mW (ms.getD k ([],[]))]) (λk=>G0 B s (ms.getD k ([],[]))) (List.range ms.length) ρ (by simp;omega) λk hk=>by
   obtain ⟨I,e1,e2,e3⟩:=h k (by simpa using hk);show ⟨I,e1,e2,λ_=>e3⟩
  rw[this];unfold lI U2;rw[qC8];rfl
 exists rpB,dH,he;rw[e]
 .exists rp18
 intro k hk;have a3:ms.getD k ([],[])∈ms:=by rw[qA0];simp [hk]
 have hok:=hm _ a3;generalize ms.getD k ([],[])=m at hok
 have k1:=jN (s:=s) (m:=m) (by rw[hs];show hok.1);refine ⟨_,rfl,?_⟩;cases q:g5 s m.1 with
 | false=>
  have a0:∀r:R Bool,TP.rAnd (.ok false) r=.ok false:=λr=>rfl;have st:G0 B s m=false:=by unfold G0;rw[q];rfl
  rw[q]at k1;exists k1,a0,st
 | true=>
  have k2:=vX h6 hok hs q;have k3:=aF (s:=M5 s m) (ss:=B) λx hx=>by rw[hB x hx,cL,hs]
  have st:G0 B s m=k9 (M5 s m) B:=by unfold G0;rw[q];rfl
  rw[q]at k1;exists k1,k2,k3,st
def dn (ms:List Mv)(t:Zk):Nat->List Int->List Int
 |0,_=>[]
 |k+1,s=>(((U2 ms (Bk ms t k) s).getD 0 0:Nat):Int)::dn ms t k (M5 s (ms.getD ((U2 ms (Bk ms t k) s).getD 0 0) ([],[])))
def vc (ht:t.length=n)(hs:s.length=n)(h1:k9 s (Bk ms t (k+1))=true)(h0:k9 s (Bk ms t k)=false):∃r tl,U2 ms (Bk ms t k) s=r::tl/\r<ms.length/\G0 (Bk ms t k) s (ms.getD r ([],[]))=true:=by
 rw[nA ht k hs,h0,xC9]at h1;obtain ⟨m,hm,hq⟩:=qD5.mp h1;obtain ⟨i,hi,e⟩:=qD1.mp hm;have I:i∈U2 ms (Bk ms t k) s:=qG3.mpr ⟨qG2.mpr hi,by
  rw[qA0,qA7 hi]
  change G0 _ s ms[i]=true;rw[e];show hq⟩
 cases q:U2 ms (Bk ms t k) s with
 |nil=>rw[q]at I;cases I
 | cons r tl=>
  have hr:r∈U2 ms (Bk ms t k) s:=by rw[q];show qB9
  obtain ⟨g1,g2⟩:=qG3.mp hr;show ⟨r,tl,rfl,qG2.mp g1,g2⟩
def Ez {f:Nat->W}(h:((List.range j).map f).reverse[i]?=some w):i<j/\w=f (j-1-i):=by
 have hi:i<j:=by have:=(qA6.mp h).1;simpa using this
 rw[qU4 (by simpa using hi)]at h;simp at h;obtain ⟨a,ha,e⟩:=h;rw[List.getElem?_range ox]at ha;cases ha;show ⟨hi,e.symm⟩
def Ep (h6:n<=6)(hm:∀m∈ms,okM n m)(b4:ms.length<=8)(hb:b.length=n)(ht:t.length=n)(hj:j<=100)(hl:k9 b (Bk ms t j)=true)(hn:∀i,i<j->k9 b (Bk ms t i)=false):R5 [.tup [tI b,tM_ ms],.lst (rgW ms t j)]=.ok (lI (dn ms t j b)):=by
 have fin:Ok (R5 [.tup [tI b,tM_ ms],.lst (rgW ms t j)]) λw=>w=lI (dn ms t j b):=by
  have a0:L2.atI [tI b,tM_ ms] 0=some (tI b):=rfl;have a1:L2.atI [tI b,tM_ ms] 1=some (tM_ ms):=rfl;have cut:K0 (rgW ms t j) none (some (-1))=(List.range j).map λi=>lS (Bk ms t i):=by
   have:rgW ms t j=((List.range j).map λi=>lS (Bk ms t i)) ++ [lS (Bk ms t j)]:=by
    unfold rgW;rw[qV2,qD0];rfl
   rw[this,HH]
  exists Eh,dG,a0,cut;refine n4 (t6 (λi ρ=>∃(R s:Zk) (a4 a5:Sl),ρ = [.val (.tup [tI b,tM_ ms]),.val (.lst (rgW ms t j)),.own (R.map W.int),.val (tI s),a4,a5]/\R.length=i/\i<=j/\dn ms t j b=R++dn ms t (j-i) s/\s.length=n/\k9 s (Bk ms t (j-i))=true/\(i<j->k9 s (Bk ms t (j-1-i))=false)) ⟨[],b,_,_,rfl,rfl,qC7 _,rfl,hb,hl,λh=>hn _ ox⟩ ?_ ?_)
  .rintro i w ρ hw ⟨R,s,a4,a5,rfl,hR,b3,I,hs,a7,hl0⟩;obtain ⟨hi,rfl⟩:=Ez hw;obtain ⟨k,hk⟩:∃k,j-i=k+1:=⟨j-i-1,ox⟩;have a9:j-1-i=k:=ox;have ab:j-(i+1)=k:=ox;have hl0:=hl0 hi;rw[hk]at I a7;rw[a9]at hl0;obtain ⟨r,tl,er,hr,a3⟩:=vc ht hs a7 hl0;have k1:=BV h6 hm b4 (au (ms:=ms) ht k).len hs;rw[er]at k1;have b0:L2.atI ((((r::tl).map λ(k:Nat)=>(k:Int))).map W.int) 0=some (.int (r:Int)):=bV W.int (as:=(r::tl).map λ(k:Nat)=>(k:Int)) (d:=0) (i:=0) ⟨ox,ZW⟩;have b1:L2.atI (ms.map mW) (r:Int)=some (mW (ms.getD r ([],[]))):=by
    have:=bV mW (as:=ms) (d:=([],[])) (i:=(r:Int)) ox
    rw[qI1]at this;show this
   have hok:=hm (ms.getD r ([],[])) (by rw[qA0];simp [hr]);have a8:dn ms t (k+1) s=(r:Int)::dn ms t k (M5 s (ms.getD r ([],[]))):=by
    change (((U2 ms (Bk ms t k) s).getD 0 0:Nat):Int)::_=_;rw[er];rfl
   have a6:ms.getD r ([],[])∈ms:=by rw[qA0];simp [hr]
   generalize ms.getD r ([],[])=m at a3 b1 hok a8 a6
   have bb:=a3;unfold G0 at a3;rw[qH1]at a3;have k2:=vX h6 hok hs a3.1;refine ⟨_,rfl,?_⟩;rw[a9];generalize ((r::tl).map λ(k:Nat)=>(k:Int))=ql at k1 b0
   exists a1,k1,b0,b1,k2;refine ⟨R ++ [(r:Int)],M5 s m,_,_,by rw[qD0],by simp [hR],hi,?_,by rw[cL];show hs,by rw[ab];show a3.2,λh=>?_⟩
   .rw[ab,I,a8,qF7];rfl
   .obtain ⟨k',b5⟩:∃k',k=k'+1:=⟨k-1,ox⟩;rw[show j-1-(i+1)=k' by omega];cases q:k9 (M5 s m) (Bk ms t k') with
    |false=>rfl
    | true=>
     exfalso
     have:G0 (Bk ms t k') s m=true:=by unfold G0;rw[a3.1,q];rfl
     have l2:k9 s (Bk ms t (k'+1))=true:=by
      rw[nA ht k' hs,qD5.mpr ⟨m,a6,this⟩,qP5]
     rw[b5]at hl0;rw[l2]at hl0;cases hl0
  .rintro ρ ⟨R,s,a4,a5,rfl,hR,b3,I,hs,a7,hl0⟩;rw[qN0,qA5,qF1]at I;exists rp18;rw[I,Nat.sub_self]
   change lI R=lI (R ++ []);rw[qG0]
 obtain ⟨v,e,rfl⟩:=fin;show e
def yy {most:Nat}(h1:1<=n)(h6:n<=6)(hm:∀m∈ms,okM n m)(a6:ms.length<=8)(hb:b.length=n)(ht:t.length=n)(hmo:most<=30):Ok (jG [.tup [tI b,tM_ ms],tI t,.int (most:Int)]) λw=>∃j,(∀i,i<j->k9 b (Bk ms t i)=false/\B1 ms t most "wall" i=.non)/\((k9 b (Bk ms t j)=true/\w=.tup [.str "row",lI (dn ms t j b)])\/(k9 b (Bk ms t j)=false/\B1 ms t most "wall" j≠.non/\w=B1 ms t most "wall" j)):=by
 have a7:∀w:W,isN w=true↔w=.non:=λw=>by cases w <;> simp [isN]
 have a0:L2.atI [tI b,tM_ ms] 0=some (tI b):=rfl;have a1:L2.atI [tI b,tM_ ms] 1=some (tM_ ms):=rfl;have cm:chk (tM_ ms)=.ok (tM_ ms):=o6 (hC ms);have ct:=o6 (u7 t);have cb:chk (.tup [tI b,tM_ ms])=.ok (.tup [tI b,tM_ ms]):=o6 (by
  change m9 [tI b,tM_ ms]=true;simp only [m9,u7,qL8,qQ2];show hC ms)
 exists rpB,pD,ct;refine n4 (M1 ?_);refine O2 (λk ρ=>∃(j:Nat) (x:Sl),ρ = [.par (.tup [tI b,tM_ ms]),.par (tI t),.par (.int (most:Int)),.own (rgW ms t j),x]/\k=most-j/\j<=most/\∀i,i<j->k9 b (Bk ms t i)=false/\B1 ms t most "wall" i=.non) ?_ most _ ⟨0,_,rfl,rfl,qC7 _,λi hi=>absurd hi (qC9 _)⟩;rintro k ρ ⟨j,x,rfl,hk,a8,I⟩;have r0:=yW ms t j;have l1:=mD ms t j;have hB:=au (ms:=ms) ht j;have k1:=aF (s:=b) (ss:=Bk ms t j) λy hy=>by rw[hB.len y hy,hb]
 cases q:k9 b (Bk ms t j) with
 | true=>
  rw[q]at k1;have k2:=Ep h6 hm ox hb ht ox q λi hi=>(I i hi).1;refine ⟨false,?_,?_⟩
  .exists a0,r0,k1
  rw[qA4 qA3];exists cb,k2;show ⟨j,I,.inl ⟨q,rfl⟩⟩
 | false=>
  rw[q]at k1;refine ⟨true,?_,?_⟩
  .exists a0,r0,k1
  rw[qA2 rfl];have e1:=vv (j:=j) (word:="wall") h6 hm ox ht hmo;exists Ea,vi,yh,IS,a1,cm,e1,DM;by_cases hw:B1 ms t most "wall" j=.non
  .have rm:=Er (n:=n) a6 hmo hw;have hj:=(end_non.mp hw).2.2;have k3:=Aj h1 h6 hm hB.len ox rm.1 rm.2;have a5:U3 [tM_ ms,lS (Bk ms t j)]=.ok (lS (Bk ms t (j+1))):=k3;have r1:=Ey ms t j;have a4:noL W.non=true:=rfl;rw[hw];exists a4,a1,r0,a5;refine ⟨most-(j+1),ox,j+1,_,by rw[<- r1],rfl,ox,λi hi=>?_⟩;by_cases e:i=j
   .rw[e];show ⟨q,hw⟩
   .show I i ox
  .have a3:isN (B1 ms t most "wall" j)=false:=by
    cases q:isN (B1 ms t most "wall" j) with
    |false=>rfl
    |true=>show absurd ((a7 _).mp q) hw
   generalize hE:B1 ms t most "wall" j=w at hw a3
   exists a3;show ⟨j,I,.inr ⟨q,by rw[hE];show hw,hE.symm⟩⟩
def vw (ms:List Mv)(t:Zk)(most:Nat)(word:String)(j:Nat):B1 ms t most word j=.non\/B1 ms t most word j=.tup [.str "open",.int (j:Int)]\/(B1 ms t most word j=.tup [.str word,lS (Bk ms t j)]/\(Bk ms t j).length<=most/\B6 ms (Bk ms t j)=true):=by
 unfold B1
 split
 .show .inr (.inl rfl)
 .rename_i h1
  split
  .rename_i h2
   show .inr (.inr ⟨rfl,by simp at h1;omega,h2⟩)
  .split
   .show .inr (.inl rfl)
   .show .inl rfl
def gu (h1:(Bk ms t j).length<=most)(I:B6 ms (Bk ms t j)=true):B1 ms t most word j=.tup [.str word,lS (Bk ms t j)]:=by
 unfold B1;rw[qA4 (by simp;omega),qA2 I]
def FN:PyData.strOk "row" = true:=Yo
def Bh:PyData.strOk "wall" = true:=Yo
def Bi:PyData.strOk "open" = true:=Yo
inductive Rch (ms:List Mv) (b:Zk):List Int->Prop where
 |beg:Rch ms b b
 |go {s:Zk}{m:Mv}:Rch ms b s->m∈ms->g5 s m.1=true->Rch ms b (M5 s m)
def D5:Nat->Zx->Int
 |0,_=>0
 |n+1,f=>D5 n f+f n
def M6:∀{n:Nat},(∀k,k<n->f k=g k)->D5 n f=D5 n g
 |0,_=>rfl
 | n+1,h=>by
  change D5 n f+f n=D5 n g+g n;rw[h n (qM6 n),M6 λk hk=>h k (qL9 hk)]
def fK (a:Int)(f:Zx):∀n:Nat,D5 n (λk=>a*f k)=a*D5 n f
 |0=>by simp [D5]
 | n+1=>by
  change D5 n (λk=>a*f k)+a*f n=a*(D5 n f+f n);rw[fK a f n,qM4]
def fL (f g:Zx):∀n:Nat,D5 n (λk=>f k+g k)=D5 n f+D5 n g
 |0=>rfl
 | n+1=>by
  change D5 n (λk=>f k+g k)+(f n+g n)=D5 n f+f n+(D5 n g+g n);rw[fL f g n];omega
def U9:∀{n:Nat},(∀k,k<n->f k=0)->D5 n f=0
 |0,_=>rfl
 | n+1,h=>by
  change D5 n f+f n=0;rw[h n (qM6 n),U9 λk hk=>h k (qL9 hk)];rfl
def cc (xs:Zk):Prop:=∀x∈xs,0<=x/\x<=1000000000
def okC (n:Nat)(m:Mv):Prop:=m.1.length=n/\m.2.length=n/\cc m.1/\cc m.2
def cc.nn (h:cc xs):nn xs:=λx I=>(h x I).1
def okC.N (h:okC n m):okN n m:=⟨h.1,h.2.1,h.2.2.1.nn,h.2.2.2.nn⟩
def ent (r:Zk)(p:Nat):Int:=r.getD p 0
def lc:List Int->List Zk->Nat->Int
 |c::cs,r::rs,p=>c*ent r p+lc cs rs p
 |_,_,_=>0
def uQ:∀{cs I:Zk}{rs ss:Zw},cs.length=rs.length->∀p,lc (cs++I) (rs++ss) p=lc cs rs p+lc I ss p
 | [],_,[],_,_,p=>(qV1 _).symm
 | c::cs,I,r::rs,ss,h,p=>by
  change c*ent r p+lc (cs++I) (rs++ss) p=c*ent r p+lc cs rs p+lc I ss p;rw[uQ (by simpa using h) p];omega
 | [],_,_::_,_,h,_=>by cases h
 |_::_,_,[],_,h,_=>by cases h
def jw:∀{rs:Zw}{p:Nat}(cs:Zk),(∀c∈cs,c=0)->lc cs rs p=0
 | [],_,[],_=>rfl
 |_::_,_,[],_=>rfl
 | [],_,_::_,_=>rfl
 | r::rs,p,c::cs,h=>by
  change c*ent r p+lc cs rs p=0;rw[h c qB9,jw cs λx I=>h x (qB1 _ I),qJ4];rfl
def Spn (m:Nat)(rs:Zw)(v:Zx):Prop:=∃cs:List Int,cs.length=rs.length/\∀p,p<m->v p=lc cs rs p
def Ind (m:Nat)(rs:Zw):Prop:=∀cs:List Int,cs.length=rs.length->(∀p,p<m->lc cs rs p=0)->∀c∈cs,c=0
def Ind.tail (h:Ind m (r::rs)):Ind m rs:=λcs I hz c hc=>h (0::cs) (by simp [I]) (λp hp=>by
 change 0*ent r p+lc cs rs p=0;rw[hz p hp,qJ4];rfl) c (qB1 _ hc)
structure Two (m:Nat) (a b a' b':Zk):Prop where
 ex:∃x y z w e:Int,(e=1\/e = -1)/\x*w-y*z=e/\∀p,p<m->ent a' p=x*ent a p+y*ent b p/\ent b' p=z*ent a p+w*ent b p
def Two.refl (m:Nat)(a b:Zk):Two m a b a b:=⟨1,0,0,1,1,.inl rfl,ZU,λp _=>⟨ox,ox⟩⟩
def Two.step (h:Two m a b a' b')(hc:∀p,p<m->ent c p=ent a' p-q*ent b' p):Two m a b b' c:=by
 obtain ⟨x,y,z,w,e,he,hd,I⟩:=h;refine ⟨z,w,x-q*z,y-q*w,-e,ox,?_,λp hm=>⟨(I p hm).2,?_⟩⟩
 .rw [qQ1,qQ1,<- qD6 z,<- qD6 w,qE5 z q,qE5 w q,qD6 q,qD6 q,qE5 w z,qE5 z y,qE5 w x]
  omega
 .rw [hc p hm,(I p hm).1,(I p hm).2,qO0,qO0,qM4,qD6,qD6]
  omega
def lw (h:e=1\/e = -1):e*(e*x)=x:=by
 rcases h with rfl|rfl <;> omega
def Two.rel (h:Two m a b a' b')(c d:Int):∃I d':Int,(∀p,p<m->I*ent a p+d'*ent b p=c*ent a' p+d*ent b' p)/\(I=0->d'=0->c=0/\d=0):=by
 obtain ⟨x,y,z,w,e,he,hd,hp⟩:=h;refine ⟨c*x+d*z,c*y+d*w,λp hm=>?_,λh1 h2=>?_⟩
 .rw [(hp p hm).1,(hp p hm).2,qO1,qO1,qM4,qM4,qD6,qD6,qD6,qD6]
  omega
 .have e1:e*c=(c*x+d*z)*w-(c*y+d*w)*z:=by
   rw[<- hd,qO0,qO1,qO1];rw[show x*w*c=c*x*w by rw[qE5 (x*w),qD6],show y*z*c=c*y*z by rw[qE5 (y*z),qD6],show d*z*w=d*w*z by rw[qD6,qD6,qE5 z w]];omega
  have e2:e*d=(c*y+d*w)*x-(c*x+d*z)*y:=by
   rw[<- hd,qO0,qO1,qO1];rw[show x*w*d=d*w*x by rw[qE5 (x*w),qE5 x w,<- qD6],show y*z*d=d*z*y by rw[qE5 (y*z),qE5 y z,<- qD6],show c*y*x=c*x*y by rw[qD6,qD6,qE5 x y]];omega
  rw[h1,h2,qJ4,qJ4]at e1 e2;have q1:=lw he (x:=c);have q2:=lw he (x:=d);rw[e1]at q1;rw[e2]at q2;constructor <;> omega
def Two.back (h:Two m a b a' b')(c d:Int):∃c' d':Int,∀p,p<m->c*ent a p+d*ent b p=c'*ent a' p+d'*ent b' p:=by
 obtain ⟨x,y,z,w,e,he,hd,hp⟩:=h;have key:∀p,p<m->e*ent a p=w*ent a' p-y*ent b' p/\e*ent b p=x*ent b' p-z*ent a' p:=λp hm=>by
  rw[(hp p hm).1,(hp p hm).2,<- hd,qM4,qM4,qM4,qM4,qO0,qO0];simp only [<- qD6];rw[qE5 w x,qE5 w y,qE5 z y,qE5 z x];omega
 refine ⟨e*(c*w-d*z),e*(d*x-c*y),λp hm=>?_⟩;have k1:=lw he (x:=c*ent a p);have I:=lw he (x:=d*ent b p);have k3:e*(c*ent a p)=c*w*ent a' p-c*y*ent b' p:=by
  rw[Int.mul_left_comm,(key p hm).1,qQ1,qD6,qD6]
 have k4:e*(d*ent b p)=d*x*ent b' p-d*z*ent a' p:=by
  rw[Int.mul_left_comm,(key p hm).2,qQ1,qD6,qD6]
 rw[qD6,qD6,qO0,qO0];rw[k3]at k1;rw[k4]at I;rw[qQ1]at k1 I ⊢;rw[qQ1];omega
structure Lat (L:Zx->Prop):Prop where
 lin:∀{v w:Zx}(a b:Int),L v->L w->L λp=>a*v p+b*w p
abbrev rA (rs:Zw)(i p:Nat):Int:=ent (rs.getD i []) p
structure Ech (m:Nat) (rs:Zw) (q:Nat->Nat):Prop where
 lt:∀i,i<rs.length->q i<m
 inc:∀i j,i<j->j<rs.length->q i<q j
 z:∀i,i<rs.length->∀p,p<q i->rA rs i p=0
 pos:∀i,i<rs.length->1<=rA rs i (q i)
 red:∀i j,i<j->j<rs.length->0<=rA rs i (q j)/\rA rs i (q j)<rA rs j (q j)
def Ld (q:Nat->Nat)(rs:Zw)(v:Zx)(i:Nat):Prop:=i<rs.length/\(∀p,p<q i->v p=0)/\v (q i)≠0/\rA rs i (q i)∣v (q i)
def Gen (m:Nat)(L:Zx->Prop)(rs:Zw)(q:Nat->Nat):Prop:=∀v,L v->(∀p,p<m->v p=0)\/∃i,Ld q rs v i
structure Dia (m:Nat) (L:Zx->Prop) (r:Nat) (q:Nat->Nat) (u:Nat->Nat->Int) (B:Nat):Prop where
 mem:∀i,i<r->L (u i)
 ne:∀i,i<r->u i (q i)≠0
 off:∀i k,i<r->k<r->i≠k->u i (q k)=0
 bd:∀i,i<r->∀p,p<m->(u i p).natAbs<=B
def Dia.lead (hE:Ech m rs q)(hG:Gen m L rs q)(I:Dia m L rs.length q u B)(hi:i<rs.length):(rA rs i (q i)).natAbs<=(u i (q i)).natAbs:=by
 rcases hG _ (I.mem i hi) with h|⟨k,hk,_,h2,h3⟩
 .show absurd (h _ (hE.lt i hi)) (I.ne i hi)
 .by_cases e:i=k
  .subst e;show Nat.le_of_dvd (qW3.mpr h2) (Int.natAbs_dvd_natAbs.mpr h3)
  .show absurd (I.off i k hi hk e) h2
def W3 (u:Nat->Nat->Int)(p:Nat):Nat->Nat->Nat
 |_,0=>0
 |t,d+1=>(u t p).natAbs+W3 u p (t+1) d
def Dia.claim (hL:Lat L)(hG:Gen m L rs q)(hD:Dia m L rs.length q u B):∀(d t:Nat),t+d=rs.length->∀(D:Nat) (w:Zx),L w->(∀k,k<rs.length->(w (q k)).natAbs<=D*(u k (q k)).natAbs)->(∀k,k<t->w (q k)=0)->∀p,p<m->(w p).natAbs<=D*W3 u p t d
 | 0,t,ht,D,w,hw,_,hz,p,hp=>by
  rcases hG w hw with h|⟨k,hk,_,h2,_⟩
  .rw[h p hp];show qC7 _
  .show absurd (hz k ox) h2
 | d+1,t,ht,D,w,hw,hb,hz,p,hp=>by
  have I:t<rs.length:=ox;have h:=Dia.claim hL hG hD d (t+1) ox (D*(u t (q t)).natAbs) _ (hL.lin (u t (q t)) (- w (q t)) hw (hD.mem t I)) (λk hk=>?_) (λk hk=>?_) p hp
  .have h1:(u t (q t)).natAbs*(w p).natAbs<=D*(u t (q t)).natAbs*W3 u p (t+1) d+(w (q t)).natAbs*(u t p).natAbs:=by
    rw[<- qI0,<- qI0];have e:u t (q t)*w p=(u t (q t)*w p +-w (q t)*u t p)+w (q t)*u t p:=by rw[qL0];omega
    rw[e];show qA8 (qX9 _ _) (qU9 h _)
   have h2:(w (q t)).natAbs*(u t p).natAbs<=D*(u t (q t)).natAbs*(u t p).natAbs:=qM3 _ (hb t I);have h3:(u t (q t)).natAbs*(w p).natAbs<=(u t (q t)).natAbs*(D*((u t p).natAbs+W3 u p (t+1) d)):=by
    refine qA8 h1 ?_;rw[show (u t (q t)).natAbs*(D*((u t p).natAbs+W3 u p (t+1) d))=D*(u t (q t)).natAbs*W3 u p (t+1) d+D*(u t (q t)).natAbs*(u t p).natAbs by rw[<- qX6,qZ0 (u t (q t)).natAbs D,Nat.mul_add];omega];omega
   show Nat.le_of_mul_le_mul_left h3 (qW3.mpr (hD.ne t I))
  .change (u t (q t)*w (q k) +-w (q t)*u t (q k)).natAbs<=_;by_cases e:t=k
   .subst e;rw[show u t (q t)*w (q t) +-w (q t)*u t (q t)=0 by rw[qL0,qE5];omega];show qC7 _
   .rw [hD.off t k I hk e,qM9,qV3,qI0]
    have:=qI2 (u t (q t)).natAbs (hb k hk)
    rw[qZ0 D,qX6];show this
  .change u t (q t)*w (q k) +-w (q t)*u t (q k)=0;by_cases e:t=k
   .subst e;rw[qL0,qE5];omega
   .rw[hD.off t k I ox e,hz k ox];omega
def Dia.bound (hL:Lat L)(I:Ech m rs q)(hG:Gen m L rs q)(hM:∀i,i<rs.length->L (rA rs i))(hD:Dia m L rs.length q u B)(hi:i<rs.length)(hp:p<m):(rA rs i p).natAbs<=W3 u p 0 rs.length:=by
 have:=Dia.claim hL hG hD rs.length 0 ox 1 (rA rs i) (hM i hi) (λk hk=>?_) (λk hk=>absurd hk (qC9 _)) p hp
 .rwa [qW4]at this
 .rw [qW4]
  have hl:=hD.lead I hG hk;rcases qF4 i k with h|h|h
  .have:=I.red i k h hk
   omega
  .subst h;show hl
  .rw[I.z i hi _ (I.inc k i h hi)];show qC7 _
def qe (I:∀i,i<r->(u i p).natAbs<=B):∀(d t:Nat),t+d<=r->W3 u p t d<=d*B
 |0,_,_=>qC7 _
 | d+1,t,h=>by
  have h1:=qe I d (t+1) ox;have h2:=I t ox
  change (u t p).natAbs+W3 u p (t+1) d<=(d+1)*B;rw[qW5,qW4];omega
def dt (n:Nat)(v s:Zx):Int:=D5 n λp=>v p*s p
def bK (n:Nat)(v w s:Zx)(a b:Int):dt n (λp=>a*v p+b*w p) s=a*dt n v s+b*dt n w s:=by
 unfold dt;rw[<- fK,<- fK,<- fL];show M6 λp _=>by rw[qO1,qD6,qD6]
def Dia.still (hL:Lat L)(hG:Gen m L rs q)(hD:Dia m L rs.length q u B):∀(d t:Nat),t+d=rs.length->(∀k,t<=k->k<rs.length->dt m (u k) s=0)->∀w,L w->(∀k,k<t->w (q k)=0)->dt m w s=0
 | 0,t,ht,_,w,hw,hz=>by
  rcases hG w hw with h|⟨k,hk,_,h2,_⟩
  .show U9 λp hp=>by rw[h p hp,qJ4]
  .show absurd (hz k ox) h2
 | d+1,t,ht,hc,w,hw,hz=>by
  have I:t<rs.length:=ox;have h:=Dia.still hL hG hD (s:=s) d (t+1) ox (λk h1 h2=>hc k ox h2) _ (hL.lin (u t (q t)) (- w (q t)) hw (hD.mem t I)) λk hk=>by
   change u t (q t)*w (q k) +-w (q t)*u t (q k)=0;by_cases e:t=k
   .subst e;rw[qL0,qE5];omega
   .rw[hD.off t k I ox e,hz k ox];omega
  rw[bK,hc t (qB2 _) I,qM9,qV3]at h;rcases qZ7.mp h with q|q
  .show absurd q (hD.ne t I)
  .show q
def pH {c:Zx}:∀{r:Nat},(∀k,k<r->c k=0)\/∃k,k<r/\c k≠0/\∀j,k<j->j<r->c j=0
 |0=>.inl λk hk=>absurd hk (qC9 _)
 | r+1=>by
  by_cases e:c r=0
  .rcases pH (c:=c) (r:=r) with h|⟨k,hk,h1,I⟩
   .show .inl λk hk=>if q:k=r then q ▸ e else h k ox
   .show .inr ⟨k,ox,h1,λj hj hr=>if q:j=r then q ▸ e else I j hj ox⟩
  .show .inr ⟨r,ox,e,λj h1 I=>ox⟩
def rJ (I:∀p,p<n->(v p).natAbs<=B)(hs:∀p,p<n->(s p).natAbs<=S):(dt n v s).natAbs<=n*(B*S):=by
 unfold dt
 induction n with
 |zero=>show qC7 _
 | succ n ih=>
  have h1:=ih (λp hp=>I p ox) (λp hp=>hs p ox);have h2:=qH3 (I n ox) (hs n ox);rw[<- qI0]at h2
  change (D5 n (λp=>v p*s p)+v n*s n).natAbs<=_;have h3:=qX9 (D5 n λp=>v p*s p) (v n*s n);rw[qW5,qW4];omega
def Dia.next (hL:Lat L)(hE:Ech m rs q)(hG:Gen m L rs q)(hD:Dia m L rs.length q u B)(hs:∀p,p<m->(s p).natAbs<=S)(a3:Ech m rs' q')(a5:∀i,i<rs'.length->L (rA rs' i)/\dt m (rA rs' i) s=0):
  ((∀k,k<rs.length->dt m (u k) s=0)/\∃u',(∀i,i<rs'.length->∃k,k<rs.length/\u' i=u k)/\Dia m (λv=>L v/\dt m v s=0) rs'.length q' u' B)\/((∃k,k<rs.length/\dt m (u k) s≠0)/\∃u',Dia m (λv=>L v/\dt m v s=0) rs'.length q' u' (2*(m*(B*S)*B))):=by
 have I:∃σ:Nat->Nat,∀i,i<rs'.length->σ i<rs.length/\q' i=q (σ i):=by
  have:∀i,∃k,i<rs'.length->k<rs.length/\q' i=q k:=λi=>by
   by_cases hi:i<rs'.length
   .rcases hG _ (a5 i hi).1 with h|⟨k,hk,h1,h2,_⟩
    .have:=a3.pos i hi
     rw[h _ (a3.lt i hi)]at this;show absurd this ZU
    .refine ⟨k,λ_=>⟨hk,?_⟩⟩;have p1:=a3.pos i hi;rcases qF4 (q' i) (q k) with h|h|h
     .rw[h1 _ h]at p1;show absurd p1 ZU
     .show h
     .show absurd (a3.z i hi _ h) h2
   .show ⟨0,λh=>absurd h hi⟩
  show ⟨λi=>(this i).choose,λi=>(this i).choose_spec⟩
 obtain ⟨σ,I⟩:=I;have inj:∀i k,i<rs'.length->k<rs'.length->i≠k->σ i≠σ k:=λi k hi hk e h=>by
  have e1:q' i=q' k:=by rw[(I i hi).2,(I k hk).2,h]
  rcases Nat.lt_or_gt_of_ne e with z|z
  .have:=a3.inc i k z hk;omega
  .have:=a3.inc k i z hi;omega
 rcases pH (c:=λk=>dt m (u k) s) (r:=rs.length) with h|⟨k,hk,h1,h2⟩
 .refine .inl ⟨h,λi=>u (σ i),λi hi=>⟨σ i,(I i hi).1,rfl⟩,⟨λi hi=>⟨hD.mem _ (I i hi).1,h _ (I i hi).1⟩,λi hi=>?_,λi k hi hk e=>?_,λi hi p hp=>hD.bd _ (I i hi).1 p hp⟩⟩
  .change u (σ i) (q' i)≠0;rw[(I i hi).2];show hD.ne _ (I i hi).1
  .change u (σ i) (q' k)=0;rw[(I k hk).2];show hD.off _ _ (I i hi).1 (I k hk).1 (inj i k hi hk e)
 .have a4:∀i,i<rs'.length->k≠σ i:=λi hi e=>by
   have hq:q' i=q k:=by rw[(I i hi).2,<- e]
   have hv:=a5 i hi;have hz:=a3.z i hi;have hp:=a3.pos i hi;rw[hq]at hz hp;have st:=Dia.still hL hG hD (s:=s) (rs.length-(k+1)) (k+1) ox (λj a b=>h2 j ox b) _ (hL.lin (u k (q k)) (- rA rs' i (q k)) hv.1 (hD.mem k hk)) λj hj=>by
    change u k (q k)*rA rs' i (q j) +-rA rs' i (q k)*u k (q j)=0;by_cases e2:k=j
    .subst e2;rw[qL0,qE5];omega
    .rw[hD.off k j hk ox e2,hz _ (hE.inc j k ox hk)];omega
   rw[bK,hv.2,qM9,qV1]at st;rcases qZ7.mp st with z|z
   .omega
   .show h1 z
  refine .inr ⟨⟨k,hk,h1⟩,λi p=>dt m (u k) s*u (σ i) p +-dt m (u (σ i)) s*u k p,⟨λi hi=>⟨hL.lin _ _ (hD.mem _ (I i hi).1) (hD.mem k hk),?_⟩,λi hi=>?_,λi j hi hj e=>?_,λi hi p hp=>?_⟩⟩
  .rw[bK,qL0,qE5];omega
  .change dt m (u k) s*u (σ i) (q' i) +-dt m (u (σ i)) s*u k (q' i)≠0;rw[(I i hi).2,hD.off k (σ i) hk (I i hi).1 (a4 i hi),qM9,qV3];show Int.mul_ne_zero h1 (hD.ne _ (I i hi).1)
  .change dt m (u k) s*u (σ i) (q' j) +-dt m (u (σ i)) s*u k (q' j)=0;rw[(I j hj).2,hD.off k (σ j) hk (I j hj).1 (a4 j hj),hD.off _ _ (I i hi).1 (I j hj).1 (inj i j hi hj e)];omega
  .change (dt m (u k) s*u (σ i) p +-dt m (u (σ i)) s*u k p).natAbs<=_;have a1:=rJ (λp hp=>hD.bd k hk p hp) hs;have a2:=rJ (λp hp=>hD.bd _ (I i hi).1 p hp) hs;have b1:=qH3 a1 (hD.bd _ (I i hi).1 p hp);have b2:=qH3 a2 (hD.bd k hk p hp);have b3:=qX9 (dt m (u k) s*u (σ i) p) (- dt m (u (σ i)) s*u k p);rw[qI0,qI0,xB7]at b3;omega
def Z9 {b:Int}(h:b≠0):(0<b->0<=a-a.fdiv b*b/\a-a.fdiv b*b<b)/\(b<0->b<a-a.fdiv b*b/\a-a.fdiv b*b<=0):=by
 have e:a-a.fdiv b*b=a.fmod b:=by
  have:=Int.fmod_add_mul_fdiv a b
  rw[qE5 b]at this;omega
 rw[e];refine ⟨λh0=>⟨Int.fmod_nonneg_of_pos a h0,Int.fmod_lt_of_pos a h0⟩,λh0=>?_⟩;have h1:=Int.fmod_nonneg_of_pos (-a) (show 0 < -b by omega);have I:=Int.fmod_lt_of_pos (-a) (show 0 < -b by omega);rw[Int.neg_fmod_neg]at h1 I;omega
def vo {a:Int}(h:b≠0):(a.fdiv b).natAbs*b.natAbs<=a.natAbs+b.natAbs:=by
 have h1:=Z9 (a:=a) h;rw[<- qI0];rcases qN8 h with q|q
 .have:=h1.2 q;omega
 .have:=h1.1 q;omega
def vn {b:Int}(h:(0<b/\0<=a)\/(b<0/\a<=0)):(a-a.fdiv b*b).natAbs+(a.fdiv b).natAbs*b.natAbs=a.natAbs:=by
 have hb:b≠0:=ox;have h1:=Z9 (a:=a) hb;rw[<- qI0];rcases h with ⟨q,z⟩|⟨q,z⟩
 .have I:=h1.1 q
  have:0<=a.fdiv b*b:=qW2 (Int.fdiv_nonneg z ox) ox
  omega
 .have I:=h1.2 q
  have:a.fdiv b*b<=0:=by
   have e:a.fdiv b=(-a).fdiv (-b):=by rw[Int.neg_fdiv_neg]
   rw[e]
   have:=qW2 (Int.fdiv_nonneg (show 0 <= -a by omega) (show 0 <= -b by omega)) (show 0 <= -b by omega)
   rw[Int.mul_neg]at this;omega
  omega
def phi (u v a b:Int):Nat:=v.natAbs*a.natAbs+u.natAbs*b.natAbs
def xc (h:(0<b/\0<=a)\/(b<0/\a<=0)):phi v (u-a.fdiv b*v) b (a-a.fdiv b*b)<=phi u v a b:=by
 unfold phi;have h1:=vn h;have h2:(u-a.fdiv b*v).natAbs<=u.natAbs+(a.fdiv b).natAbs*v.natAbs:=by
  rw[<- qI0];omega
 have I:=qM3 b.natAbs h2;have h4:v.natAbs*a.natAbs=v.natAbs*(a-a.fdiv b*b).natAbs+(a.fdiv b).natAbs*v.natAbs*b.natAbs:=by
  rw[<- h1,Nat.mul_add,qZ0 (a.fdiv b).natAbs v.natAbs,qX6]
 rw[qW5]at I;omega
def tY (h:b≠0):phi v (u-a.fdiv b*v) b (a-a.fdiv b*b)<=phi u v a b+2*(v.natAbs*b.natAbs):=by
 unfold phi;have h2:(u-a.fdiv b*v).natAbs<=u.natAbs+(a.fdiv b).natAbs*v.natAbs:=by
  rw[<- qI0];omega
 have I:=qM3 b.natAbs h2;have h5:=qI2 v.natAbs (vo (a:=a) h);have h6:(a-a.fdiv b*b).natAbs<=b.natAbs:=by
  have:=Z9 (a:=a) h
  rcases qN8 h with q|q
  .have:=this.2 q;omega
  .have:=this.1 q;omega
 have h7:=qI2 v.natAbs h6;rw[qW5]at I;rw[Nat.mul_add,Nat.mul_left_comm]at h5;rw[qX6]at I;omega
def iL (h:z.natAbs<=2^k):Builtin.Int.intBits z<=k+1:=intBits_le_iff.mpr (qD7 h (qV4 ZU (qM6 k)))
structure Rb (m k:Nat) (r:Zk):Prop where
 len:r.length=m
 bd:∀p,p<m->(ent r p).natAbs<=2^k
def Rb.mono (h:Rb m k r)(I:k<=l):Rb m l r:=⟨h.len,λp hp=>qA8 (h.bd p hp) (qH0 ZU I)⟩
def p9 (m:Nat)(row lead:Zk)(c:Nat):List Int:=(List.range m).map λp=>ent row p + -((ent row c).fdiv (ent lead c))*ent lead p
def J4 (h:p<m):ent (p9 m row lead c) p=ent row p-(ent row c).fdiv (ent lead c)*ent lead p:=by
 change (p9 m row lead c).getD p 0=_;unfold p9;rw[K3 h,qL0];omega
def eU (m:Nat)(row lead:Zk)(c:Nat):(p9 m row lead c).length=m:=by simp [p9]
def Fv (k:Nat):1<=2^k:=qX0
def zm {a:Int}(hb:b≠0)(ha:a.natAbs<=2^k):(a.fdiv b).natAbs<=2^(k+1):=by
 have h:=vo (a:=a) hb;have h1:1<=b.natAbs:=qW3.mpr hb;have I:(a.fdiv b).natAbs*b.natAbs<=(a.natAbs+1)*b.natAbs:=by
  rw[qW5,qW4]
  have:=qI2 a.natAbs h1
  omega
 have h3:=Nat.le_of_mul_le_mul_right I h1
 have:=Fv k
 rw[Nat.pow_succ];omega
def nv (hm:m<=7)(hc:c<m)(hr:Rb m k row)(hl:Rb m l lead)(h0:ent lead c≠0)(h9:(ent lead c).natAbs<2^8999)(hk:k<=1000000)(a3:l<=1000000):aI [tI row,tI lead,.int (c:Int)]=.ok (tI (p9 m row lead c)):=by
 have l1:=hr.len;have l2:=hl.len;have hq:=zm (a:=ent row c) h0 (hr.bd c hc);have bq:=iL (z:=-((ent row c).fdiv (ent lead c))) (k:=k+1) (by rw[xB7];show hq);have k1:dQ [tI row,tI lead,.int (-((ent row c).fdiv (ent lead c)))]=.ok (tI (p9 m row lead c)):=by
  have hz:=da (tI row) (tI lead) _ _ rfl rfl;rw[aZ ox,l1]at hz;have e:∀N mg me ρ (h:∀j∈List.range m,ZX N ρ mg (.tup [.int (row.getD j 0),.int (lead.getD j 0)]) λ ρ1=>me ρ1=.ok (.int (ent row j + -((ent row c).fdiv (ent lead c))*ent lead j))),l6 N mg yes me ((List.range m).map λj=>W.tup [.int (row.getD j 0),.int (lead.getD j 0)]) ρ=.ok (lI (p9 m row lead c)):=λN mg me ρ h=>by
   rw[o9 (λj=>.int (ent row j + -((ent row c).fdiv (ent lead c))*ent lead j)) _ _ ρ (by simp;omega) h,dE];rfl
  exists rpB,ki,hz;rw[e]
  .exists rp18
  .intro j I;have I:j<m:=by simpa using I
   have bl:=iL (z:=lead.getD j 0) (k:=l) (hl.bd j I);have mm:=mY (i:=-((ent row c).fdiv (ent lead c))) (j:=lead.getD j 0) ox;refine ⟨_,rfl,?_⟩;exists mm;rfl
 have dv:fI aO gFz (.int (row.getD c 0)) (.int (lead.getD c 0))=.ok (.int ((ent row c).fdiv (ent lead c))):=CH h0 h9;exists rpB,kl,dv,k1
structure Eu (m c:Nat) (R O:Zk) (k:Nat) (row other:Zk):Prop where
 two:Two m R O row other
 rb:Rb m k row
 rb2:Rb m k other
 sg:(0<ent row c/\0<=ent other c)\/(ent row c<0/\ent other c<=0)
 ph:∀p,p<m->phi (ent row p) (ent other p) (ent row c) (ent other c)<=2^k
def uO (h:a≠0):v.natAbs<=phi u v a b:=by
 unfold phi
 have:=qI2 v.natAbs (show 1<=a.natAbs from qW3.mpr h)
 omega
def Eu.first {R:Zk}(hc:c<m)(hR:Rb m κ R)(hO:Rb m b O)(h0:ent O c≠0):Eu m c R O (max κ b+b+2) O (p9 m R O c):=by
 have ph:∀p,p<m->phi (ent O p) (ent (p9 m R O c) p) (ent O c) (ent (p9 m R O c) c)<=2^(max κ b+b+2):=λp I=>by
  rw[J4 I,J4 hc];refine qA8 (tY h0) ?_;unfold phi;have e1:=qH3 (hO.bd p I) (hR.bd c hc);have e2:=qH3 (hR.bd p I) (hO.bd c hc);have e3:=qH3 (hO.bd p I) (hO.bd c hc);rw[<- qP0]at e1 e2 e3;have f1:2^(b+κ)<=2^(max κ b+b):=qH0 ZU ox;have f2:2^(κ+b)<=2^(max κ b+b):=qH0 ZU ox;have f3:2^(b+b)<=2^(max κ b+b):=qH0 ZU ox;rw[qP0 _ _ 2];omega
 refine ⟨(Two.refl m R O).step (q:=(ent R c).fdiv (ent O c)) λp I=>J4 I,hO.mono ox,⟨eU _ _ _ _,λp I=>qA8 (uO h0) (ph p I)⟩,?_,ph⟩;rw[J4 hc]
 have:=Z9 (a:=ent R c) h0
 rcases qN8 h0 with q|q
 .have:=this.2 q;omega
 .have:=this.1 q;omega
def Eu.next {R:Zk}(hc:c<m)(h:Eu m c R O k row other)(h0:ent other c≠0):Eu m c R O k other (p9 m row other c):=by
 have sg:(0<ent other c/\0<=ent row c)\/(ent other c<0/\ent row c<=0):=by
  have:=h.sg;omega
 have ph:∀p,p<m->phi (ent other p) (ent (p9 m row other c) p) (ent other c) (ent (p9 m row other c) c)<=2^k:=λp I=>by
  rw[J4 I,J4 hc];show qA8 (xc sg) (h.ph p I)
 refine ⟨h.two.step (q:=(ent row c).fdiv (ent other c)) λp I=>J4 I,h.rb2,⟨eU _ _ _ _,λp I=>qA8 (uO h0) (ph p I)⟩,?_,ph⟩;rw[J4 hc]
 have:=Z9 (a:=ent row c) h0
 rcases qN8 h0 with q|q
 .have:=this.2 q;omega
 .have:=this.1 q;omega
def uJ (hc:c<m)(h0:ent other c≠0):(ent (p9 m row other c) c).natAbs<(ent other c).natAbs:=by
 rw[J4 hc]
 have:=Z9 (a:=ent row c) h0
 rcases qN8 h0 with q|q
 .have:=this.2 q;omega
 .have:=this.1 q;omega
structure Dv (m c:Nat) (R O:Zk) (k:Nat) (p0 p1:Zk):Prop where
 two:Two m R O p0 p1
 z:ent p1 c=0
 or:(p0=R/\p1=O)\/ent p0 c≠0
 rb:Rb m k p0
 rb2:Rb m k p1
def rL {R:Zk}(hm:m<=7)(hc:c<m)(hR:Rb m κ R)(hO:Rb m b O)(h9:max κ b+b+2<=8998):Ok (dU [tI R,tI O,.int (c:Int)]) λv=>∃p0 p1,v=.tup [tI p0,tI p1]/\Dv m c R O (max κ b+b+2) p0 p1:=by
 have a3:∀{z:Int}{k:Nat},z.natAbs<=2^k->k<=8998->z.natAbs<2^8999:=λ{z k} h hk=>qD7 h (qV4 ZU ox);exists rpB,ko;refine n4 (M1 ?_);refine O2 (λM ρ=>∃(row other:Zk) (z:Sl),((ρ = [.par (tI row),.par (tI other),.par (.int (c:Int)),z]/\row=R/\other=O)\/(ρ = [.val (tI row),.val (tI other),.par (.int (c:Int)),z]/\Eu m c R O (max κ b+b+2) row other))/\M=(ent other c).natAbs) ?_ (ent O c).natAbs _ ⟨R,O,.un,.inl ⟨rfl,rfl,rfl⟩,rfl⟩;rintro M ρ ⟨row,other,z,I,rfl⟩;have hlen:row.length=m/\other.length=m:=by
  rcases I with ⟨_,rfl,rfl⟩|⟨_,h⟩
  .show ⟨hR.len,hO.len⟩
  .show ⟨h.rb.len,h.rb2.len⟩
 obtain ⟨l1,l2⟩:=hlen;by_cases h0:ent other c=0
 .have d1:decide (other.getD c 0=0)=true:=qQ7 h0;refine ⟨false,?_,?_⟩
  .rcases I with ⟨rfl,_,_⟩|⟨rfl,_⟩
   all_goals exists d1
  rw[qA4 ZU];rcases I with ⟨rfl,rfl,rfl⟩|⟨rfl,h⟩
  .exists o6 (u7 row),o6 (u7 other);show ⟨row,other,rfl,Two.refl _ _ _,h0,.inl ⟨rfl,rfl⟩,hR.mono ox,hO.mono ox⟩
  .exists o6 (u7 row),o6 (u7 other);refine ⟨row,other,rfl,h.two,h0,.inr ?_,h.rb,h.rb2⟩
   have:=h.sg;omega
 .have d1:decide (other.getD c 0=0)=false:=qQ6 h0;refine ⟨true,?_,?_⟩
  .rcases I with ⟨rfl,_,_⟩|⟨rfl,_⟩
   all_goals exists d1
  rw[qA2 rfl];rcases I with ⟨rfl,rfl,rfl⟩|⟨rfl,h⟩
  .have k1:=nv (c:=c) hm hc hR hO h0 (a3 (hO.bd c hc) ox) ox ox;exists k1,o6 (u7 other),o6 (u7 (p9 m row other c));show ⟨_,uJ hc h0,other,p9 m row other c,_,.inr ⟨rfl,Eu.first hc hR hO h0⟩,rfl⟩
  .have k1:=nv (c:=c) hm hc h.rb h.rb2 h0 (a3 (h.rb2.bd c hc) ox) ox ox;exists k1,o6 (u7 other),o6 (u7 (p9 m row other c));show ⟨_,uJ hc h0,other,p9 m row other c,_,.inr ⟨rfl,h.next hc h0⟩,rfl⟩
def kp (bs:Nat->Nat):Nat->Nat
 |0=>bs 0
 |i+1=>max (kp bs i) (bs (i+1))+bs (i+1)+2
structure Gth (m c:Nat) (M:Zx->Prop) (bs:Nat->Nat) (rows:Zw) (i:Nat) (kept:Zw):Prop where
 len:kept.length=i+1
 sp:∀v,Spn m rows v->Spn m (kept++rows.drop (i+1)) v
 ind:Ind m rows->Ind m (kept++rows.drop (i+1))
 z:∀j,1<=j->j<=i->rA kept j c=0
 or:(kept=rows.take (i+1)/\rA kept 0 c=0)\/rA kept 0 c≠0
 mem:∀j,j<=i->M (rA kept j)
 rb:Rb m (kp bs i) (kept.getD 0 [])
 rb2:∀j,1<=j->j<=i->Rb m (kp bs j) (kept.getD j [])
def bO {cs:Zk}(h:cs.length=n+1):∃c t,cs=c::t/\t.length=n:=by
 cases cs with
 |nil=>cases h
 |cons c t=>show ⟨c,t,rfl,by simpa using h⟩
def vF {cs:Zk}(h:cs.length=n+(k+1)):∃x c y,cs=x++c::y/\x.length=n/\y.length=k:=by
 have h1:(cs.drop n).length=k+1:=by rw[qH6];omega
 obtain ⟨c,y,e,I⟩:=bO h1;show ⟨cs.take n,c,y,by rw[<- e,qJ9],by rw[qG1];omega,I⟩
def ij {rest:Zw}(c0 I:Int)(hx:x.length=K.length)(p:Nat):lc (c0::x++I::y) (a::K++b::rest) p=c0*ent a p+I*ent b p+(lc x K p+lc y rest p):=by
 have h:lc ((c0::x)++(I::y)) ((a::K)++(b::rest)) p=_:=uQ (by simp [hx]) p;rw[h]
 change c0*ent a p+lc x K p+(I*ent b p+lc y rest p)=_;omega
def Spn.swap {rest:Zw}(h:Two m a b a' b')(hs:Spn m (a::K++b::rest) v):Spn m ((a'::K ++ [b'])++rest) v:=by
 obtain ⟨cs,hl,hv⟩:=hs;obtain ⟨c0,t,rfl,ht⟩:=bO (n:=K.length+(rest.length+1)) (by rw[hl];simp);obtain ⟨x,I,y,rfl,hx,hy⟩:=vF ht;obtain ⟨c',d',hc⟩:=h.back c0 I;refine ⟨c'::x++d'::y,by simp [hx,hy],λp hp=>?_⟩;rw[hv p hp,qF7];have e1:=ij (a:=a) (b:=b) (rest:=rest) c0 I (y:=y) hx p;have e2:=ij (a:=a') (b:=b') (rest:=rest) c' d' (y:=y) hx p
 have:=hc p hp
 change lc (c0::x++I::y) (a::K++b::rest) p=lc (c'::x++d'::y) (a'::K++b'::rest) p;omega
def Ind.swap {rest:Zw}(h:Two m a b a' b')(hi:Ind m (a::K++b::rest)):Ind m ((a'::K ++ [b'])++rest):=λcs hl hz c hc=>by
 obtain ⟨c0,t,rfl,ht⟩:=bO (n:=K.length+(rest.length+1)) (by rw[hl];simp);obtain ⟨x,I,y,rfl,hx,hy⟩:=vF ht;obtain ⟨c',d',hr,a3⟩:=h.rel c0 I;have key:=hi (c'::x++d'::y) (by simp [hx,hy]) λp hp=>by
  have e1:=ij (a:=a) (b:=b) (rest:=rest) c' d' (y:=y) hx p;have e2:=ij (a:=a') (b:=b') (rest:=rest) c0 I (y:=y) hx p;have e3:=hz p hp;rw[qF7]at e3;change lc (c0::x++I::y) (a'::K++b'::rest) p=0 at e3
  have:=hr p hp
  omega
 obtain ⟨z0,z1⟩:=a3 (key c' ZW) (key d' ZW);rcases qB6.mp hc with q|q
 .rw[q,z0]
 .rcases qC0.mp q with q|q
  .show key c (by simp [q])
  .rcases qB6.mp q with q|q
   .rw[q,z1]
   .show key c (by simp [q])
def Ae (h:Two m a b a' b')(la:a.length=m)(lb:b.length=m)(a3:a'.length=m)(I:b'.length=m):∃x y z w:Int,(ent a'=λp=>x*ent a p+y*ent b p)/\ent b'=λp=>z*ent a p+w*ent b p:=by
 obtain ⟨x,y,z,w,e,_,_,hp⟩:=h;have out:∀{r:Zk},r.length=m->∀p,¬ p<m->ent r p=0:=λ{r} hl p hp=>by
  unfold ent;rw[qA0,qH2 ox];rfl
 refine ⟨x,y,z,w,funext λp=>?_,funext λp=>?_⟩
 .by_cases q:p<m
  .show (hp p q).1
  .rw[out a3 p q,out la p q,out lb p q];omega
 .by_cases q:p<m
  .show (hp p q).2
  .rw[out I p q,out la p q,out lb p q];omega
def HK (rows:Zw):gA rows none (some 1)=rows.take 1:=by
 unfold gA;rw[HT.sIx_none,show ((1:Int))=((1:Nat):Int) from rfl,HT.sIx_nat,xB2];cases rows with
 |nil=>rfl
 |cons r rs=>simp
def nV (rows:Zw):gA rows (some 1) none=rows.drop 1:=by
 unfold gA;rw[HT.sIx_none,show ((1:Int))=((1:Nat):Int) from rfl,HT.sIx_nat];cases rows with
 |nil=>rfl
 |cons r rs=>simp
def z8 {α:Type}(a:α)(l:List α)(i:Nat)(d:α):(a::l).getD (i+1) d=l.getD i d:=ZW
def nK {α:Type}{xs ys:List α}{d:α}(h:i<xs.length):(xs++ys).getD i d=xs.getD i d:=by
 rw[qA0,qA0,qE8 h]
def nJ {α:Type}{xs:List α}{y d:α}(h:xs.length=i):(xs ++ [y]).getD i d=y:=by
 subst h;rw[qA0,qG8 (qB2 _),Nat.sub_self];rfl
def yq {α:Type}{l:List α}{d:α}(h:i<l.length):l.drop i=l.getD i d::l.drop (i+1):=by
 rw[qK1 h,qA0,qA7 h];rfl
def wo {α:Type}{l:List α}{d:α}(h:i<l.length):l.take (i+1)=l.take i ++ [l.getD i d]:=by
 rw[qK0,qA7 h,qA0,qA7 h];rfl
def Gth.start (I:0<rows.length)(a4:∀j,j<rows.length->Rb m (bs j) (rows.getD j []))(a3:∀j,j<rows.length->M (rA rows j)):Gth m c M bs rows 0 (rows.take 1):=by
 have e:(rows.take 1).getD 0 []=rows.getD 0 []:=by
  rw[qA0,List.getElem?_take,qA2 ZU,qA0]
 refine ⟨by rw[qG1];omega,λv h=>by rw[qJ9];show h,λh=>by rw[qJ9];show h,λj h1 h2=>ox,?_,λj hj=>?_,by rw[e];show a4 0 I,λj h1 h2=>ox⟩
 .by_cases q:rA (rows.take 1) 0 c=0
  .show .inl ⟨rfl,q⟩
  .show .inr q
 .have:j=0:=ox
  subst this
  change M (ent ((rows.take 1).getD 0 []));rw[e];show a3 0 I
def Gth.go (hM:Lat M)(a7:∀j,j<rows.length->Rb m (bs j) (rows.getD j []))(a5:∀j,j<rows.length->M (rA rows j))(hi:i+1<rows.length)(h:Gth m c M bs rows i (k0::K))(hd:Dv m c k0 (rows.getD (i+1) []) (kp bs (i+1)) p0 p1):Gth m c M bs rows (i+1) (p0::K ++ [p1]):=by
 have hK:K.length=i:=by have:=h.len;simpa using this
 have a4:=yq (d:=[]) hi;obtain ⟨x,y,z,w,e0,e1⟩:=Ae hd.two h.rb.len (a7 _ hi).len hd.rb.len hd.rb2.len;have a6:M (ent k0):=h.mem 0 (qC7 _);have I:M (ent (rows.getD (i+1) [])):=a5 (i+1) hi;have a3:∀j,1<=j->j<=i->(p0::K ++ [p1]).getD j []=(k0::K).getD j []:=λj h1 h2=>by
  obtain ⟨j,rfl⟩:∃j',j=j'+1:=⟨j-1,ox⟩;rw[qO9,z8,z8,nK ox]
 have last:(p0::K ++ [p1]).getD (i+1) []=p1:=nJ (by simp [hK]);refine ⟨by simp [hK],λv hv=>?_,λa8=>?_,λj h1 h2=>?_,?_,λj hj=>?_,hd.rb,λj h1 h2=>?_⟩
 .have:=h.sp v hv
  rw[a4]at this;show Spn.swap hd.two this
 .have:=h.ind a8
  rw[a4]at this;show Ind.swap hd.two this
 .by_cases q:j=i+1
  .subst q
   change ent ((p0::K ++ [p1]).getD (i+1) []) c=0;rw[last];show hd.z
  .change ent ((p0::K ++ [p1]).getD j []) c=0;rw[a3 j h1 ox];show h.z j h1 ox
 .rcases hd.or with ⟨q0,q1⟩|q
  .rcases h.or with ⟨r1,r2⟩|r
   .refine .inl ⟨?_,?_⟩
    .rw[wo (d:=[]) hi,<- r1,q0,q1]
    .change ent p0 c=0;rw[q0];show r2
   .refine .inr ?_
    change ent p0 c≠0;rw[q0];show r
  .show .inr q
 .change M (ent ((p0::K ++ [p1]).getD j []));by_cases q:j=i+1
  .subst q;rw[last,e1];show hM.lin z w a6 I
  .by_cases q0:j=0
   .subst q0
    change M (ent p0);rw[e0];show hM.lin x y a6 I
   .rw[a3 j ox ox];show h.mem j ox
 .by_cases q:j=i+1
  .subst q;rw[last];show hd.rb2
  .rw[a3 j h1 ox];show h.rb2 j h1 ox
def oI (hm:m<=7)(hc:c<m)(hM:Lat M)(a7:0<rows.length)(b3:rows.length<=6)(a6:∀j,j<rows.length->Rb m (bs j) (rows.getD j []))(I:∀j,j<rows.length->M (rA rows j))(h9:∀j,j<rows.length->kp bs j<=8998)(hX:X=lS rows):Ok (cE [X,.int (c:Int)]) λv=>∃gs,v=lS gs/\Gth m c M bs rows (rows.length-1) gs:=by
 subst hX;exists rpB,ic;rw[HK,nV];refine n4 (t6 (λi ρ=>∃(kept:Zw) (a3 a4:Sl),ρ = [.par (lS rows),.par (.int (c:Int)),.own (kept.map tI),a3,a4]/\Gth m c M bs rows i kept) ⟨_,_,_,rfl,Gth.start a7 a6 I⟩ ?_ ?_)
 .rintro i u ρ hu ⟨kept,a3,a4,rfl,h⟩;rw[qC1]at hu;have hi:i+1<rows.length:=by
   rcases Nat.lt_or_ge (i+1) rows.length with q|q
   .show q
   .rw[qH2 (by rw[qH6];omega)]at hu;cases hu
  have a8:u=tI (rows.getD (i+1) []):=by
   rw[qG9,qO6 1 i,qA7 hi]at hu;cases hu;rw[qA0,qA7 hi];rfl
  subst a8;obtain ⟨k0,K,ab,a9,hk⟩:∃k0 K,kept.getD 0 []=k0/\kept.drop 1=K/\kept=k0::K:=by
   cases kept with
   |nil=>have:=h.len;simp at this
   |cons k0 K=>show ⟨k0,K,rfl,rfl,rfl⟩
  have b4:0<kept.length:=by rw[h.len];omega
  have a5:=h.rb;rw[ab]at a5;obtain ⟨_,k1,p0,p1,rfl,hd⟩:=rL hm hc a5 (a6 _ hi) (h9 (i+1) hi);have a0:L2.atI (kept.map tI) 0=some (tI k0):=by rw[hk];show ar (k:=0) rfl
  have b0:L2.atI [tI p0,tI p1] 0=some (tI p0):=rfl;have b1:L2.atI [tI p0,tI p1] 1=some (tI p1):=rfl;rw[hk]at h;have hK:K.length=i:=by have:=h.len;simpa using this
  have c1:T0 true (.lst [tI p0]) (.lst (K.map tI))=.ok (lS (p0::K)):=by
   exists rp18;rfl
  have c2:T0 true (lS (p0::K)) (.lst [tI p1])=.ok (lS (p0::K ++ [p1])):=by
   exists rp18;rfl
  refine ⟨_,rfl,?_⟩;exists a0;rw[k1];exists b0,b1,nV,a9,c1,c2;show ⟨p0::K ++ [p1],_,_,rfl,Gth.go hM a6 I hi h hd⟩
 .rintro ρ ⟨kept,a3,a4,rfl,h⟩;rw[qA5,qH6]at h;exists rp18;show ⟨kept,rfl,h⟩
def bsT (b:Nat):Nat->Nat->Nat
 |0=>λ_=>b
 |t+1=>λj=>kp (bsT b t) (j+1)
structure Nt (m:Nat) (M:Zx->Prop) (r b c:Nat) (fs:Zw) (q:Nat->Nat) (ls:Zw):Prop where
 tot:fs.length+ls.length=r
 ech:Ech m fs q
 qc:∀i,i<fs.length->q i<c
 fm:∀i,i<fs.length->M (rA fs i)
 lm:∀j,j<ls.length->M (rA ls j)
 lz:∀j,j<ls.length->∀p,p<c->rA ls j p=0
 ind:Ind m ls
 gn:∀x,M x->(∃i,Ld q fs x i)\/((∀p,p<c->x p=0)/\Spn m ls x)
 lb:∀j,j<ls.length->Rb m (bsT b fs.length j) (ls.getD j [])
 fb:∀i,i<fs.length->Rb m (9000*fs.length) (fs.getD i [])
def qO (I:r.length=m)(hp:¬ p<m):ent r p=0:=by
 unfold ent;rw[qA0,qH2 ox];rfl
def ik:∀{cs:Zk}{rs:Zw},(∀j,j<rs.length->rA rs j p=0)->lc cs rs p=0
 | [],[],_=>rfl
 |_::_,[],_=>rfl
 | [],_::_,_=>rfl
 | c::cs,r::rs,h=>by
  change c*ent r p+lc cs rs p=0;have h0:ent r p=0:=h 0 ZW
  rw [h0,qM9,ik λj I=>by
   have:=h (j+1) (by simpa using I)
   simpa [rA]using this];rfl
def upr (row:Zk)(c:Nat):List Int:=if 0<ent row c then row else row.map λx=>-x
def ba (p:Nat):ent (upr row c) p=if 0<ent row c then ent row p else-ent row p:=by
 unfold upr
 split
 .rfl
 .unfold ent;rw[qA0,qC1,qA0];cases row[p]? <;> simp
def sC (h:Rb m k row):Rb m k (upr row c):=by
 refine ⟨?_,λp I=>?_⟩
 .unfold upr
  split
  .show h.len
  .rw[qA5];show h.len
 .rw [ba]
  split
  .show h.bd p I
  .rw[xB7];show h.bd p I
def eT {rs:Zw}{f:List Int->List Int}(h:i<rs.length):(rs.map f).getD i []=f (rs.getD i []):=by
 rw[qA0,qC1,qA7 h,qA0,qA7 h];rfl
abbrev MZ (M:Zx->Prop)(c:Nat)(x:Zx):Prop:=M x/\∀p,p<c->x p=0
def Lat.z (hM:Lat M)(c:Nat):Lat (MZ M c):=⟨λa b h1 h2=>⟨hM.lin a b h1.1 h2.1,λp I=>by
 change a*_+b*_=0;rw[h1.2 p I,h2.2 p I,qM9,qM9];rfl⟩⟩
def Nt.flat (hc:c<m)(h:Nt m M r b c fs q ls)(hl:0<ls.length)(hg:Gth m c (MZ M c) (bsT b fs.length) ls (ls.length-1) gs)(h0:rA gs 0 c=0):gs=ls/\Nt m M r b (c+1) fs q ls:=by
 have e:gs=ls:=by
  rcases hg.or with ⟨e,_⟩|e
  .rw[e,qF9 ox]
  .show absurd h0 e
 subst e;have hz:∀j,j<gs.length->rA gs j c=0:=λj I=>by
  by_cases q:j=0
  .subst q;show h0
  .show hg.z j ox ox
 refine ⟨rfl,h.tot,h.ech,λi hi=>qL9 (h.qc i hi),h.fm,h.lm,λj I p hp=>?_,h.ind,λx hx=>?_,h.lb,h.fb⟩
 .by_cases q:p=c
  .subst q;show hz j I
  .show h.lz j I p ox
 .rcases h.gn x hx with a|⟨a,cs,hl,hv⟩
  .show .inl a
  .refine .inr ⟨λp hp=>?_,cs,hl,hv⟩;by_cases q:p=c
   .subst q;rw[hv p hc];show ik hz
   .show a p ox
def Nt.pivot (hM:Lat M)(hc:c<m)(h9:∀t j,t+j<r->kp (bsT b t) j<=8998)(h:Nt m M r b c fs q ls)(hl:0<ls.length)(hg:Gth m c (MZ M c) (bsT b fs.length) ls (ls.length-1) gs)(h0:rA gs 0 c≠0):Nt m M r b (c+1) (fs.map (λrow=>p9 m row (upr (gs.getD 0 []) c) c) ++ [upr (gs.getD 0 []) c]) (λi=>if i<fs.length then q i else c) (gs.drop 1):=by
 have a5:gs.length=ls.length:=by rw[hg.len];omega
 obtain ⟨g0,G,rfl⟩:∃g0 G,gs=g0::G:=by
  cases gs with
  |nil=>simp at a5;omega
  |cons g0 G=>show ⟨_,_,rfl⟩
 change Nt m M r b (c+1) (fs.map (λrow=>p9 m row (upr g0 c) c) ++ [upr g0 c]) _ G;have h0:ent g0 c≠0:=h0;obtain ⟨a9,b0⟩:=hg.mem 0 (qC7 _);change M (ent g0) at a9;change ∀p,p<c->ent g0 p=0 at b0;have b4:Rb m 8998 g0:=hg.rb.mono (h9 _ _ (by have:=h.tot;omega));obtain ⟨I,a7⟩:∃I,I=upr g0 c:=⟨_,rfl⟩;have lp:1<=ent I c:=by
  rw[a7,ba];split <;> omega
 have lz:∀p,p<c->ent I p=0:=λp hp=>by
  rw[a7,ba,b0 p hp];split <;> rfl
 have ab:Rb m 8998 I:=by rw[a7];show sC b4
 have lm:M (ent I):=by
  have e:ent I=λp=>(if 0<ent g0 c then 1 else -1)*ent g0 p+0*ent g0 p:=funext λp=>by
   rw[a7,ba];split <;> omega
  rw[e];show hM.lin _ _ a9 a9
 have bc:∀x:Int,ent g0 c∣x->ent I c∣x:=λx hx=>by
  rw[a7,ba]
  split
  .show hx
  .show Int.neg_dvd.mpr hx
 rw[<- a7];have b5:(fs.map λrow=>p9 m row I c).length=fs.length:=qA5 _;have f1:∀i,i<fs.length->(fs.map (λrow=>p9 m row I c) ++ [I]).getD i []=p9 m (fs.getD i []) I c:=λi hi=>by
  rw[nK ox,eT hi]
 have f2:(fs.map (λrow=>p9 m row I c) ++ [I]).getD fs.length []=I:=nJ b5;have r1:∀i,i<fs.length->∀p,p<c->rA (fs.map (λrow=>p9 m row I c) ++ [I]) i p=rA fs i p:=λi hi p hp=>by
  change ent ((fs.map (λrow=>p9 m row I c) ++ [I]).getD i []) p=_;rw[f1 i hi,J4 ox,lz p hp,qM9,Int.sub_zero]
 have r2:∀p,rA (fs.map (λrow=>p9 m row I c) ++ [I]) fs.length p=ent I p:=λp=>by
  change ent ((fs.map (λrow=>p9 m row I c) ++ [I]).getD fs.length []) p=_;rw[f2]
 have tl:(fs.map (λrow=>p9 m row I c) ++ [I]).length=fs.length+1:=ZW;have qi:∀i,i<fs.length->(if i<fs.length then q i else c)=q i:=λi hi=>qA2 hi;have qt:(if fs.length<fs.length then q fs.length else c)=c:=qA4 (qF5 _);have a4:∀i,i<fs.length+1->i<fs.length\/i=fs.length:=λi hi=>ox;refine ⟨?_,⟨λi hi=>?_,λi j a6 hj=>?_,λi hi p hp=>?_,λi hi=>?_,λi j a6 hj=>?_⟩,λi hi=>?_,λi hi=>?_,λj hj=>?_,λj hj p hp=>?_,?_,λx hx=>?_,λj hj=>?_,λi hi=>?_⟩
 .rw [tl]
  have:=h.tot
  simp at a5;omega
 .rw [tl]at hi
  rcases a4 i hi with z|rfl
  .rw[qi i z];show h.ech.lt i z
  .rw[qt];show hc
 .rw [tl]at hj
  rcases a4 j hj with z|rfl
  .rw[qi j z,qi i ox];show h.ech.inc i j a6 z
  .rw[qt,qi i a6];show h.qc i a6
 .rw [tl]at hi
  rcases a4 i hi with z|rfl
  .rw [qi i z]at hp
   rw[r1 i z p (Nat.lt_trans hp (h.qc i z))];show h.ech.z i z p hp
  .rw [qt]at hp
   rw[r2];show lz p hp
 .rw [tl]at hi
  rcases a4 i hi with z|rfl
  .rw[qi i z,r1 i z _ (h.qc i z)];show h.ech.pos i z
  .rw[qt,r2];show lp
 .rw [tl]at hj
  rcases a4 j hj with z|rfl
  .rw[qi j z,r1 i ox _ (h.qc j z),r1 j z _ (h.qc j z)];show h.ech.red i j a6 z
  .rw [qt,r2]
   change 0<=ent ((fs.map (λrow=>p9 m row I c) ++ [I]).getD i []) c/\ent ((fs.map (λrow=>p9 m row I c) ++ [I]).getD i []) c<_;rw[f1 i a6,J4 hc];show (Z9 ox).1 ox
 .rw [tl]at hi
  rcases a4 i hi with z|rfl
  .rw[qi i z];show qL9 (h.qc i z)
  .rw[qt];show qM6 c
 .rw [tl]at hi
  rcases a4 i hi with z|rfl
  .have e:rA (fs.map (λrow=>p9 m row I c) ++ [I]) i=λp=>1*rA fs i p + -((rA fs i c).fdiv (ent I c))*ent I p:=funext λp=>by
    change ent ((fs.map (λrow=>p9 m row I c) ++ [I]).getD i []) p=_;rw[f1 i z];by_cases hp:p<m
    .rw [J4 hp,qL0]
     change _=1*ent (fs.getD i []) p + -(((ent (fs.getD i []) c).fdiv (ent I c))*ent I p);omega
    .rw [qO (eU m _ I c) hp,qO ab.len hp]
     change 0=1*ent (fs.getD i []) p+_;rw[qO (h.fb i z).len hp];omega
   rw[e];show hM.lin _ _ (h.fm i z) lm
  .have e:rA (fs.map (λrow=>p9 m row I c) ++ [I]) fs.length=ent I:=funext r2;rw[e];show lm
 .have:=hg.mem (j+1) (by simp at a5;omega)
  have e:rA (g0::G) (j+1)=rA G j:=by unfold rA;rw[z8]
  rw[e]at this;show this.1
 .have h1:=hg.mem (j+1) (by simp at a5;omega);have h2:=hg.z (j+1) ox (by simp at a5;omega);have e:rA (g0::G) (j+1)=rA G j:=by unfold rA;rw[z8]
  rw[e]at h1 h2;by_cases z:p=c
  .subst z;show h2
  .show h1.2 p ox
 .have:=hg.ind h.ind
  rw[qF3 ox,qG0]at this;show this.tail
 .rcases h.gn x hx with ⟨i,hi,a1,a2,a3⟩|⟨a,hs⟩
  .refine .inl ⟨i,by rw[tl];omega,?_⟩;dsimp only;rw[qi i hi,r1 i hi _ (h.qc i hi)];show ⟨a1,a2,a3⟩
  .have:=hg.sp x hs
   rw[qF3 ox,qG0]at this;obtain ⟨cs,bq,hv⟩:=this;obtain ⟨t0,ds,rfl,b3⟩:=bO bq;have bb:∀j,j<G.length->rA G j c=0:=λj hj=>by
    have h2:=hg.z (j+1) ox (by simp at a5;omega);have e:rA (g0::G) (j+1)=rA G j:=by unfold rA;rw[z8]
    rwa [e]at h2
   have a8:x c=t0*ent g0 c:=by
    rw[hv c hc]
    change t0*ent g0 c+lc ds G c=_;rw[ik bb,qV3]
   by_cases ht:t0=0
   .refine .inr ⟨λp hp=>?_,ds,b3,λp hp=>?_⟩
    .by_cases z:p=c
     .subst z;rw[a8,ht,qJ4]
     .show a p ox
    .rw [hv p hp]
     change t0*ent g0 p+lc ds G p=_;rw[ht,qJ4,qV1]
   .refine .inl ⟨fs.length,by rw[tl];omega,?_⟩;dsimp only;rw[qt,r2];show ⟨a,by rw[a8];show Int.mul_ne_zero ht h0,bc _ (by rw[a8];show Int.dvd_mul_left _ _)⟩
 .have:=hg.rb2 (j+1) ox (by simp at a5;omega)
  rw[z8]at this;rw[tl];show this
 .rw [tl]at hi
  rcases a4 i hi with z|rfl
  .rw [f1 i z,tl]
   refine ⟨eU _ _ _ _,λp hp=>?_⟩;rw[J4 hp];have hb:=h.fb i z;have k1:=zm (a:=ent (fs.getD i []) c) (b:=ent I c) ox (hb.bd c hc);have k2:=qH3 k1 (ab.bd p hp);rw[<- qP0,<- qI0]at k2;have k3:=hb.bd p hp;have k4:2^(9000*fs.length+1+8998)+2^(9000*fs.length)<=2^(9000*(fs.length+1)):=by
    have e1:2^(9000*fs.length)<=2^(9000*fs.length+1+8998):=qH0 ZU ox;have e2:2^(9000*(fs.length+1))=2^(9000*fs.length+1+8998)*2:=by rw[<- Nat.pow_succ];congr 1
    omega
   have k5:(ent (fs.getD i []) p-(ent (fs.getD i []) c).fdiv (ent I c)*ent I p).natAbs<=(ent (fs.getD i []) p).natAbs+((ent (fs.getD i []) c).fdiv (ent I c)*ent I p).natAbs:=ox;omega
  .rw[f2,tl];show ab.mono ox
def qw {m:Nat}(hm:m<=7)(hc:c<m)(I:row.length=m):aH [tI row,.int (c:Int)]=.ok (tI (upr row c)):=by
 have e:∀N mg me ρ (h:∀x∈row,ZX N ρ mg (.int x) λ ρ1=>me ρ1=.ok (.int (-x))),l6 N mg yes me (row.map W.int) ρ=.ok (lI (row.map λx=>-x)):=λN mg me ρ h=>by
  rw[o9 (λx=>.int (-x)) _ _ ρ ox h,dE]
 have fin:Ok (aH [tI row,.int (c:Int)]) λv=>v=tI (upr row c):=by
  by_cases h:0<row.getD c 0
  .exists rpB,dF,qQ7 h;refine ⟨_,rfl,?_⟩
   change _=tI (upr row c);unfold upr;rw[qA2 (show 0<ent row c from h)]
  .exists rpB,dF,qQ6 h;rw[e];rotate_left
   .intro x hx;refine ⟨_,rfl,?_⟩;exists rp18
   exists rp18;refine ⟨_,rfl,?_⟩
   change _=tI (upr row c);unfold upr;rw[qA4 (show ¬ 0<ent row c from h)]
 obtain ⟨v,e,rfl⟩:=fin;show e
def Bq (hm:m<=7)(hM:Lat M)(hr:rows.length<=6)(a9:∀j,j<rows.length->Rb m b (rows.getD j []))(a5:∀j,j<rows.length->M (rA rows j))(a3:Ind m rows)(a7:∀x,M x->Spn m rows x)(h9:∀t j,t+j<rows.length->kp (bsT b t) j<=8998):Ok (nM [lS rows]) λv=>∃fs q,v=lS fs/\fs.length=rows.length/\Ech m fs q/\(∀i,i<fs.length->M (rA fs i))/\(∀i,i<fs.length->(fs.getD i []).length=m)/\Gen m M fs q:=by
 have n0:∀{i:Nat}{P:Prop},i<([]:Zw).length->P:=λ{i P} hi=>absurd hi (qC9 _);have start:Nt m M rows.length b 0 [] (λ_=>0) rows:=⟨ZW,⟨λi hi=>n0 hi,λi j _ hj=>n0 hj,λi hi=>n0 hi,λi hi=>n0 hi,λi j _ hj=>n0 hj⟩,λi hi=>n0 hi,λi hi=>n0 hi,a5,λj _ p hp=>absurd hp (qC9 _),a3,λx hx=>.inr ⟨λp hp=>absurd hp (qC9 _),a7 x hx⟩,a9,λi hi=>n0 hi⟩;exists rpB,uF;refine n4 (M1 ?_);refine O2 (λK ρ=>∃(fs ls:Zw) (q:Nat->Nat) (c:Nat) (s a4:Sl),ρ = [.par (lS rows),.own (fs.map tI),s,.val (.int (c:Int)),a4]/\(s=.par (lS ls)\/s=.own (ls.map tI))/\Nt m M rows.length b c fs q ls/\c<=m/\K=m-c) ?_ m _ ⟨[],rows,_,0,_,_,rfl,.inl rfl,start,qC7 _,rfl⟩;rintro K ρ ⟨fs,ls,q,c,s,a4,rfl,hs,h,ab,rfl⟩;have b0:=h.tot;by_cases hl:0<ls.length
 .have hc:c<m:=by
   refine qW9 ab λe=>?_;subst e;cases ls with
   |nil=>simp at hl
   | cons l ls=>
    have:=h.ind (1::ls.map λ_=>0) ZW (λp hp=>?_) 1 qB9
    .show absurd this ZU
    .change 1*ent l p+lc (ls.map λ_=>0) ls p=0;rw[jw _ λx hx=>by obtain ⟨_,_,rfl⟩:=qB0.mp hx;rfl]
     have:ent l p=0:=h.lz 0 ZW p hp
     omega
  have d1:decide (0<(ls.length:Int))=true:=qQ7 ox;obtain ⟨_,k1,I,rfl,hg⟩:=oI (c:=c) (M:=MZ M c) (bs:=bsT b fs.length) (rows:=ls) hm hc (hM.z c) hl ox h.lb (λj hj=>⟨h.lm j hj,h.lz j hj⟩) (λj hj=>h9 _ _ ox) rfl;have b3:I.length=ls.length:=by rw[hg.len];omega
  have a0:L2.atI (I.map tI) 0=some (tI (I.getD 0 [])):=zM ox;have l0:=hg.rb.len;refine ⟨true,?_,?_⟩
  .rcases hs with rfl|rfl
   all_goals exists d1
  rw[qA2 rfl];have eL:∀N mg me ρ (h:∀row∈fs,ZX N ρ mg (tI row) λ ρ1=>me ρ1=.ok (tI (p9 m row (upr (I.getD 0 []) c) c))),l6 N mg yes me (fs.map tI) ρ=.ok (lS (fs.map λrow=>p9 m row (upr (I.getD 0 []) c) c)):=λN mg me ρ h=>by
   rw[o9 (λrow=>tI (p9 m row (upr (I.getD 0 []) c) c)) _ _ ρ ox h]
   change _=R.ok (W.lst ((fs.map λrow=>p9 m row (upr (I.getD 0 []) c) c).map tI));rw[qC8];rfl
  have k2:=qw (c:=c) (row:=I.getD 0 []) hm hc l0;rcases hs with rfl|rfl
  all_goals
   exists k1,a0;by_cases h0:rA I 0 c=0
   .obtain ⟨e,h2⟩:=h.flat hc hl hg h0;have d2:decide ((I.getD 0 []).getD c 0=0)=true:=qQ7 h0;exists d2;show ⟨m-(c+1),ox,fs,I,q,c+1,_,_,rfl,.inr rfl,by rw[e];show h2,ox,rfl⟩
   .have h2:=h.pivot hM hc h9 hl hg h0;have d2:decide ((I.getD 0 []).getD c 0=0)=false:=qQ6 h0;have a8:(fs.map λrow=>p9 m row (upr (I.getD 0 []) c) c).length=fs.length:=qA5 _;have rl:Rb m 8998 (upr (I.getD 0 []) c):=sC (hg.rb.mono (h9 _ _ ox));have c2:T0 true (lS (fs.map λrow=>p9 m row (upr (I.getD 0 []) c) c)) (.lst [tI (upr (I.getD 0 []) c)])=.ok (lS (fs.map (λrow=>p9 m row (upr (I.getD 0 []) c) c) ++ [upr (I.getD 0 []) c])):=by
     generalize (fs.map λrow=>p9 m row (upr (I.getD 0 []) c) c)=F at a8
     exists rp18
    exists d2,a0;rw[k2];exists rp18;rw[eL];rotate_left
    .intro row a6;obtain ⟨i,hi,rfl⟩:=qN1 a6;have hb:=h.fb i hi;rw[qA0,qA7 hi]at hb;have k3:=nv (c:=c) (row:=fs[i]) (lead:=upr (I.getD 0 []) c) hm hc hb rl (by
      rw[ba];have h0:ent (I.getD 0 []) c≠0:=h0
      split <;> omega) (qD7 (rl.bd c hc) (qV4 ZU ox)) ox ox
     refine ⟨_,rfl,?_⟩;exists k3
    exists c2,nV;show ⟨m-(c+1),ox,_,_,_,c+1,_,_,rfl,.inr rfl,h2,ox,rfl⟩
 .have d1:decide (0<(ls.length:Int))=false:=qQ6 ox;have hl0:ls.length=0:=ox;refine ⟨false,?_,?_⟩
  .rcases hs with rfl|rfl
   all_goals exists d1
  rw[qA4 ZU];rcases hs with rfl|rfl
  all_goals
   exists rp18;refine ⟨fs,q,rfl,ox,h.ech,h.fm,λi hi=>(h.fb i hi).len,λx hx=>?_⟩;rcases h.gn x hx with a|⟨_,cs,hcl,hv⟩
   .show .inr a
   .refine .inl λp hp=>?_;rw[hv p hp];show ik λj hj=>absurd hj ox
def eV (hE:Ech m rs q)(hG:Gen m L rs q)(I:Ech m rs' q')(a3:∀i,i<rs'.length->L (rA rs' i))(hi:i<rs'.length)(h:∀k,k<i->k<rs.length->q k=q' k)(hk:i<=rs.length):i<rs.length/\q i<=q' i:=by
 have p1:=I.pos i hi;rcases hG _ (a3 i hi) with z|⟨k,hkr,h1,h2,_⟩
 .rw[z _ (I.lt i hi)]at p1;show absurd p1 ZU
 .have e:q' i=q k:=by
   rcases qF4 (q' i) (q k) with z|z|z
   .rw[h1 _ z]at p1;show absurd p1 ZU
   .show z
   .show absurd (I.z i hi _ z) h2
  have a4:i<=k:=by
   rcases Nat.lt_or_ge k i with z|z
   .have a1:=h k z hkr;have a2:=I.inc k i z hi;omega
   .show z
  refine ⟨ox,?_⟩;rw[e];rcases Nat.lt_or_ge i k with z|z
  .show qJ2 (hE.inc i k z hkr)
  .have:i=k:=ox
   rw[this];show qB2 _
def BJ (hE:Ech m rs q)(hG:Gen m L rs q)(hM:∀i,i<rs.length->L (rA rs i))(I:Ech m rs' q')(a4:Gen m L rs' q')(a3:∀i,i<rs'.length->L (rA rs' i)):rs'.length=rs.length/\∀i,i<rs.length->q i=q' i:=by
 have key:∀n,∀i,i<n->i<rs.length->i<rs'.length->q i=q' i:=by
  intro n
  induction n with
  |zero=>intro i hi;show absurd hi (qC9 _)
  | succ n ih=>
   intro i hi h1 h2;have a:=eV hE hG I a3 h2 (λk hk hr=>ih k ox hr ox) ox;have b:=eV I a4 hE hM h1 (λk hk hr=>(ih k ox ox hr).symm) ox;omega
 have hl:rs'.length=rs.length:=by
  rcases qF4 rs'.length rs.length with z|z|z
  .have:=eV I a4 hE hM (i:=rs'.length) z (λk hk hr=>(key rs.length k ox ox hr).symm) (qB2 _)
   omega
  .show z
  .have:=eV hE hG I a3 (i:=rs.length) z (λk hk hr=>key rs.length k ox hr ox) (qB2 _)
   omega
 show ⟨hl,λi hi=>key rs.length i hi hi ox⟩
def Ech.ind:∀{rs:Zw}{q:Nat->Nat},Ech m rs q->Ind m rs
 | [],_,_=>λcs hl _ c hc=>by
  have:cs = []:=List.eq_nil_of_length_eq_zero hl
  rw[this]at hc;cases hc
 | r::rs,q,h=>λcs hl hz c hc=>by
  obtain ⟨c0,ds,rfl,hd⟩:=bO hl;have g:∀i,rA (r::rs) (i+1)=rA rs i:=λi=>by unfold rA;rw[z8]
  have h':Ech m rs λi=>q (i+1):=⟨λi hi=>h.lt (i+1) (by simpa using hi),λi j a b=>h.inc (i+1) (j+1) ox (by simpa using b),λi hi p hp=>by have:=h.z (i+1) (by simpa using hi) p hp;rwa [g]at this,λi hi=>by have:=h.pos (i+1) (by simpa using hi);rwa [g]at this,λi j a b=>by have:=h.red (i+1) (j+1) ox (by simpa using b);rwa [g,g]at this⟩;have q0:=h.lt 0 ZW;have I:c0=0:=by
   have e:=hz (q 0) q0;change c0*ent r (q 0)+lc ds rs (q 0)=0 at e
   rw [ik λj hj=>by
    have:=h.z (j+1) (by simpa using hj) (q 0) (h.inc 0 (j+1) ox (by simpa using hj))
    rwa [g]at this,qV3]at e
   have p:=h.pos 0 ZW;change 1<=ent r (q 0) at p;rcases qZ7.mp e with z|z
   .show z
   .omega
  rcases qB6.mp hc with e|e
  .rw[e,I]
  .refine h'.ind ds hd (λp hp=>?_) c e
   have:=hz p hp
   change c0*ent r p+lc ds rs p=0 at this
   rwa [I,qJ4,qV1]at this
def uP:∀{cs:Zk}{rs:Zw}{i:Nat}{t:Int},cs.length=rs.length->i<rs.length->lc (cs.set i (cs.getD i 0+t)) rs p=lc cs rs p+t*rA rs i p
 | c::cs,r::rs,0,t,_,_=>by
  change (c+t)*ent r p+lc cs rs p=c*ent r p+lc cs rs p+t*ent r p;rw[qO1];omega
 | c::cs,r::rs,i+1,t,h,hi=>by
  have e:rA (r::rs) (i+1) p=rA rs i p:=by unfold rA;rw[z8]
  rw[e]
  change c*ent r p+lc (cs.set i ((c::cs).getD (i+1) 0+t)) rs p=c*ent r p+lc cs rs p+_;rw[z8,uP (by simpa using h) (by simpa using hi)];omega
 | [],[],_,_,_,hi=>absurd hi (qC9 _)
 | [],_::_,_,_,h,_=>by cases h
 |_::_,[],_,_,h,_=>by cases h
def Gen.sp (hL:Lat L)(hE:Ech m rs q)(hG:Gen m L rs q)(hM:∀i,i<rs.length->L (rA rs i)):∀(d k:Nat),k+d=m->∀v,L v->(∀p,p<k->v p=0)->Spn m rs v
 | 0,k,hk,v,_,hz=>⟨rs.map λ_=>0,ZW,λp I=>by
  rw[hz p ox,jw _ λx hx=>by obtain ⟨_,_,rfl⟩:=qB0.mp hx;rfl]⟩
 | d+1,k,hk,v,hv,hz=>by
  by_cases h0:v k=0
  .show Gen.sp hL hE hG hM d (k+1) ox v hv λp I=>if e:p=k then e ▸ h0 else hz p ox
  .rcases hG v hv with a|⟨i,hi,a1,a2,a3⟩
   .show absurd (a k ox) h0
   .have e:q i=k:=by
     rcases qF4 (q i) k with z|z|z
     .show absurd (hz _ z) a2
     .show z
     .show absurd (a1 _ z) h0
    obtain ⟨t,ht⟩:=a3;have hw:=hL.lin 1 (-t) hv (hM i hi);have hs:=Gen.sp hL hE hG hM d (k+1) ox _ hw λp I=>by
     change 1*v p + -t*rA rs i p=0;by_cases z:p=k
     .subst z;have a4:v p=rA rs i p*t:=e ▸ ht;rw[a4,Int.one_mul,qL0,qE5 t];omega
     .rw[hz p ox,hE.z i hi p ox];omega
    obtain ⟨cs,hl,hc⟩:=hs;refine ⟨cs.set i (cs.getD i 0+t),by simp [hl],λp I=>?_⟩;rw[uP hl hi,<- hc p I]
    change v p=1*v p + -t*rA rs i p+t*rA rs i p;rw[qL0];omega
def zp:∀(cs:Zk) (rs:Zw),dt n (lc cs rs) s=lc cs (rs.map λr=>dt n (ent r) s::r) 0
 | [],[]=>U9 λp _=>qJ4 _
 |_::_,[]=>U9 λp _=>qJ4 _
 | [],_::_=>U9 λp _=>qJ4 _
 | c::cs,r::rs=>by
  have h:=bK n (ent r) (lc cs rs) s c 1;have e:(λp=>c*ent r p+1*lc cs rs p)=lc (c::cs) (r::rs):=funext λp=>by
   change _=c*ent r p+lc cs rs p;omega
  rw[e]at h;rw[h,zp cs rs]
  change _=c*dt n (ent r) s+_;omega
def jx {s:List Int->Int}:∀(cs:Zk) (rs:Zw),lc cs (rs.map λr=>s r::r) (p+1)=lc cs rs p
 | [],[]=>rfl
 |_::_,[]=>rfl
 | [],_::_=>rfl
 | c::cs,r::rs=>by
  change c*ent (s r::r) (p+1)+lc cs _ (p+1)=c*ent r p+lc cs rs p;rw[jx cs rs];unfold ent;rw[z8]
def Bb:Nat->Nat
 |0=>2142|1=>1054|2=>510|3=>238|4=>102|5=>34|_=>0
def Cb (r:Nat):Nat:=if r=6 then 0 else Bb r+3
structure Bal (n:Nat) (L:Zx->Prop) (rs:Zw) (q:Nat->Nat) (u:Nat->Nat->Int) (B:Nat):Prop where
 ech:Ech n rs q
 mem:∀i,i<rs.length->L (rA rs i)
 len:∀i,i<rs.length->(rs.getD i []).length=n
 gen:Gen n L rs q
 dia:Dia n L rs.length q u B
 b:B<=2^Bb rs.length
 c:∀p,p<n->W3 u p 0 rs.length<=2^Cb rs.length
def h9_6:∀r,r<=6->∀t,t<=6->∀j,j<=6->t+j<r->kp (bsT (Cb r+33) t) j<=8998:=Yo
def Dm (h1:1<=r)(I:r<=6):Bb (r-1)=2*Bb r+34:=by
 have:r=1\/r=2\/r=3\/r=4\/r=5\/r=6:=ox
 rcases this with rfl|rfl|rfl|rfl|rfl|rfl <;> rfl
abbrev wR (n:Nat)(s:Zx)(r:Zk):List Int:=dt n (ent r) s::r
abbrev ML (L:Zx->Prop)(n:Nat)(s:Zx)(x:Zx):Prop:=L (λp=>x (p+1))/\x 0=dt n (λp=>x (p+1)) s
def Lat.m (I:Lat L):Lat (ML L n s):=⟨λ{v w} a b h1 h2=>⟨I.lin a b h1.1 h2.1,by
 change a*v 0+b*w 0=dt n (λp=>a*v (p+1)+b*w (p+1)) s;rw[bK,h1.2,h2.2]⟩⟩
def yP (r:Zk)(p:Nat):ent (wR n s r) (p+1)=ent r p:=by
 unfold ent;rw[z8]
def Bal.w (hL:Lat L)(hn:n<=6)(h:Bal n L rs q u B)(hr:rs.length<=6)(hs:∀p,p<n->(s p).natAbs<=1000000000):
  (∀j,j<(rs.map (wR n s)).length->Rb (n+1) (Cb rs.length+33) ((rs.map (wR n s)).getD j []))/\(∀j,j<(rs.map (wR n s)).length->ML L n s (rA (rs.map (wR n s)) j))/\Ind (n+1) (rs.map (wR n s))/\∀x,ML L n s x->Spn (n+1) (rs.map (wR n s)) x:=by
 have hl:(rs.map (wR n s)).length=rs.length:=qA5 _;have bd:∀i,i<rs.length->∀p,p<n->(rA rs i p).natAbs<=2^Cb rs.length:=λi hi p hp=>qA8 (h.dia.bound hL h.ech h.gen h.mem hi hp) (h.c p hp);refine ⟨λj I=>?_,λj I=>?_,λcs a3 hz=>?_,λx hx=>?_⟩
 .rw [hl]at I
  rw[eT I];refine ⟨by have:=h.len j I;change (_::rs.getD j []).length=n+1;rw[qD4,this],λp hp=>?_⟩;cases p with
  | zero=>
   change (dt n (ent (rs.getD j [])) s).natAbs<=_;refine qA8 (rJ (bd j I) hs) ?_;rw[qP0]
   have:n*(2^Cb rs.length*1000000000)<=6*(2^Cb rs.length*1000000000):=qM3 _ hn
   refine qA8 this ?_;have e:(6*(2^Cb rs.length*1000000000))=2^Cb rs.length*6000000000:=ox;rw[e];show qI2 _ ZU
  | succ p=>
   rw[yP];show qA8 (bd j I p ox) (qH0 ZU ox)
 .rw [hl]at I
  have e:rA (rs.map (wR n s)) j=ent (wR n s (rs.getD j [])):=by
   change ent ((rs.map (wR n s)).getD j [])=_;rw[eT I]
  rw[e];have e2:(λp=>ent (wR n s (rs.getD j [])) (p+1))=rA rs j:=funext λp=>yP _ p;refine ⟨?_,?_⟩
  .rw[e2];show h.mem j I
  .rw[e2];rfl
 .rw [hl]at a3
  refine h.ech.ind cs a3 λp hp=>?_
  have:=hz (p+1) ox
  rwa [jx]at this
 .obtain ⟨cs,a3,hv⟩:=Gen.sp hL h.ech h.gen h.mem n 0 ox _ hx.1 λp hp=>absurd hp (qC9 _);refine ⟨cs,by rw[hl];show a3,λp hp=>?_⟩;cases p with
  | zero=>
   rw[hx.2]
   have:dt n (λp=>x (p+1)) s=dt n (lc cs rs) s:=M6 λp hp=>by rw[hv p hp]
   rw[this,zp]
  | succ p=>
   rw[jx];show hv p ox
def kpt (fs:Zw):List Zk:=(fs.filter λr=>decide (ent r 0=0)).map λr=>r.drop 1
def IX (r:Zk)(p:Nat):ent (r.drop 1) p=ent r (p+1):=by
 unfold ent;rw[qA0,qG9,qA0,qO6]
def BO (h:Ech (m+1) fs Q):∃off,kpt fs=(fs.drop off).map (λr=>r.drop 1)/\(∀i,i+off<fs.length->1<=Q (i+off))/\(off=0\/(off=1/\0<fs.length/\Q 0=0)):=by
 cases fs with
 |nil=>show ⟨0,rfl,λi hi=>absurd hi (qC9 _),.inl rfl⟩
 | cons I F=>
  have hF:F.filter (λr=>decide (ent r 0=0))=F:=by
   rw[List.filter_eq_self];intro r hr;obtain ⟨j,hj,rfl⟩:=qN1 hr
   have:=h.z (j+1) (by simpa using hj) 0 (by have:=h.inc 0 (j+1) ox (by simpa using hj);omega)
   have e:rA (I::F) (j+1) 0=ent F[j] 0:=by
    change ent ((I::F).getD (j+1) []) 0=_;rw[z8,qA0,qA7 hj];rfl
   rw[e]at this;show qQ7 this
  have p0:=h.pos 0 ZW;by_cases e:ent I 0=0
  .refine ⟨0,?_,λi hi=>?_,.inl rfl⟩
   .unfold kpt;rw[qY9,qA2 (qQ7 e),hF];rfl
   .have q0:Q 0≠0:=λz=>by
     rw[z]at p0;change 1<=ent I 0 at p0;omega
    cases i with
    |zero=>show qP8 q0
    |succ i=>have:=h.inc 0 (i+1) ox hi;change 1<=Q (i+1);omega
  .refine ⟨1,?_,λi hi=>?_,.inr ⟨rfl,ZW,?_⟩⟩
   .unfold kpt;rw[qY9,qA4 (by simpa using e),hF];rfl
   .have:=h.inc 0 (i+1) ox hi
    change 1<=Q (i+1);omega
   .rcases qX1 (Q 0) with z|z
    .show z
    .show absurd (h.z 0 ZW 0 z) e
def Bal.next (hL:Lat L)(hn:n<=6)(h:Bal n L rs q u B)(hr:rs.length<=6)(hs:∀p,p<n->(s p).natAbs<=1000000000)(bc:fs.length=rs.length)(hE:Ech (n+1) fs Q)(hM:∀i,i<fs.length->ML L n s (rA fs i))(hlen:∀i,i<fs.length->(fs.getD i []).length=n+1)(hG:Gen (n+1) (ML L n s) fs Q):
  (kpt fs).length<=6/\∃q' u' B',Bal n (λv=>L v/\dt n v s=0) (kpt fs) q' u' B':=by
 obtain ⟨off,hk,a4,ab⟩:=BO hE;have a8:(kpt fs).length=fs.length-off:=by rw[hk,qA5,qH6]
 have I:∀i,i<(kpt fs).length->i+off<fs.length:=λi hi=>by rw[a8]at hi;omega
 have gd:∀i,i<(kpt fs).length->(kpt fs).getD i []=(fs.getD (i+off) []).drop 1:=λi hi=>by
  have h2:=I i hi;rw[hk,eT (by rw[qH6];omega),qA0,qG9,qO6 off i,<- qA0]
 have ra:∀i,i<(kpt fs).length->∀p,rA (kpt fs) i p=rA fs (i+off) (p+1):=λi hi p=>by
  change ent ((kpt fs).getD i []) p=_;rw[gd i hi,IX]
 have e1:∀{a:Nat},1<=a->a-1+1=a:=λ{a} h=>ox;have a9:Ech n (kpt fs) λi=>Q (i+off)-1:=by
  refine ⟨λi hi=>?_,λi j b5 hj=>?_,λi hi p hp=>?_,λi hi=>?_,λi j b5 hj=>?_⟩
  .have a:=hE.lt _ (I i hi);have b:=a4 i (I i hi)
   change Q (i+off)-1<n;omega
  .have a:=hE.inc (i+off) (j+off) ox (I j hj);have b:=a4 i (I i ox)
   change Q (i+off)-1<Q (j+off)-1;omega
  .rw [ra i hi]
   show hE.z _ (I i hi) _ (by have hp:p<Q (i+off)-1:=hp;omega)
  .rw [ra i hi,e1 (a4 i (I i hi))]
   show hE.pos _ (I i hi)
  .rw [ra i ox,ra j hj,e1 (a4 j (I j hj))]
   show hE.red _ _ ox (I j hj)
 have fe:∀i,i<(kpt fs).length->(λp=>rA fs (i+off) (p+1))=rA (kpt fs) i:=λi hi=>funext λp=>(ra i hi p).symm;have a7:∀i,i<(kpt fs).length->L (rA (kpt fs) i)/\dt n (rA (kpt fs) i) s=0:=λi hi=>by
  have a:=hM _ (I i hi);rw[<- fe i hi];refine ⟨a.1,?_⟩;rw[<- a.2];show hE.z _ (I i hi) 0 (a4 i (I i hi))
 have b0:Gen n (λv=>L v/\dt n v s=0) (kpt fs) λi=>Q (i+off)-1:=λv hv=>by
  obtain ⟨x,a5,hx⟩:∃x:Nat->Int,x 0=0/\∀p,x (p+1)=v p:=⟨λp=>match p with|0=>0|p+1=>v p,rfl,λ_=>rfl⟩;have xe:(λp=>x (p+1))=v:=funext hx;have mx:ML L n s x:=by
   refine ⟨by rw[xe];show hv.1,by rw[xe,a5];show hv.2.symm⟩
  rcases hG x mx with a|⟨k,hk1,a1,a2,a3⟩
  .show .inl λp hp=>by rw[<- hx];show a (p+1) ox
  .have qk:1<=Q k:=by
    rcases qX1 (Q k) with z|z
    .rw[z,a5]at a2;show absurd rfl a2
    .show z
   have ok:off<=k:=by
    rcases ab with z|⟨z,_,z0⟩
    .omega
    .rcases qX1 k with y|y
     .rw[y,z0]at qk;omega
     .omega
   have ek:k-off+off=k:=ox;have b3:k-off<(kpt fs).length:=by rw[a8];omega
   refine .inr ⟨k-off,b3,λp hp=>?_,?_,?_⟩
   .have hp:p<Q (k-off+off)-1:=hp;rw[ek]at hp;rw[<- hx];show a1 _ ox
   .dsimp only;rw[ek,<- hx,e1 qk];show a2
   .dsimp only;rw[ra _ b3,ek,e1 qk,<- hx,e1 qk];show a3
 have a6:∀i,i<(kpt fs).length->((kpt fs).getD i []).length=n:=λi hi=>by
  rw[gd i hi,qH6,hlen _ (I i hi)];rfl
 refine ⟨by rw[a8];omega,?_⟩;rcases Dia.next hL h.ech h.gen h.dia hs a9 a7 with ⟨hz,_⟩|⟨⟨k,hkr,hk0⟩,u',hD'⟩
 .-- nothing new
  have same:∀v,L v->dt n v s=0:=λv hv=>Dia.still hL h.gen h.dia rs.length 0 ox (λk _ hk=>hz k hk) v hv λk hk=>absurd hk (qC9 _);have bb:Gen n L (kpt fs) λi=>Q (i+off)-1:=λv hv=>b0 v ⟨hv,same v hv⟩;obtain ⟨l1,l2⟩:=BJ h.ech h.gen h.mem a9 bb λi hi=>(a7 i hi).1;refine ⟨_,u,B,a9,a7,a6,b0,⟨λi hi=>⟨h.dia.mem i ox,hz i ox⟩,λi hi=>?_,λi j hi hj e=>?_,λi hi=>h.dia.bd i ox⟩,by rw[l1];show h.b,λp hp=>by rw[l1];show h.c p hp⟩
  .rw[<- l2 i ox];show h.dia.ne i ox
  .rw[<- l2 j ox];show h.dia.off i j ox ox e
 .-- one row fewer
  have h1:1<=rs.length:=ox;have b4:off=1:=by
   rcases ab with z|⟨z,_⟩
   .obtain ⟨x,a5,hx⟩:∃x:Nat->Int,x 0=dt n (u k) s/\∀p,x (p+1)=u k p:=⟨λp=>match p with|0=>dt n (u k) s|p+1=>u k p,rfl,λ_=>rfl⟩;have xe:(λp=>x (p+1))=u k:=funext hx;rcases hG x ⟨by rw[xe];show h.dia.mem k hkr,by rw[xe];show a5⟩ with a|⟨j,hj,a1,_,_⟩
    .have:=a 0 ox
     rw[a5]at this;show absurd this hk0
    .have:=a4 j ox
     rw[z,qP7]at this
     have:=a1 0 ox
     rw[a5]at this;show absurd this hk0
   .show z
  have bq:(kpt fs).length=rs.length-1:=by rw[a8,b4,bc]
  have hB:2*(n*(B*1000000000)*B)<=2^Bb (kpt fs).length:=by
   rw[bq,Dm h1 hr];have b1:=h.b;have b2:=qH3 b1 b1;rw[<- qP0]at b2;have e:2*(n*(B*1000000000)*B)=2*n*1000000000*(B*B):=by ac_rfl
   rw[e,show 2*Bb rs.length+34=34+(Bb rs.length+Bb rs.length) by omega,qP0];show qH3 (qA8 (qM3 _ (qI2 2 hn)) ZU) b2
  refine ⟨_,u',_,a9,a7,a6,b0,hD',hB,λp hp=>?_⟩;refine qA8 (qe (λi hi=>qA8 (hD'.bd i hi p hp) hB) (kpt fs).length 0 ox) ?_;have hc:Cb (kpt fs).length=Bb (kpt fs).length+3:=qA4 ox;rw[hc,qP0,qZ0];show qI2 _ ox
def uL (n i:Nat):List Int:=(List.range n).map λp=>if p=i then 1 else 0
def IW (h:p<n):ent (uL n i) p=if p=i then 1 else 0:=K3 h
def Bal.start (hn:n<=6):Bal n (λ_=>True) ((List.range n).map (uL n)) (λi=>i) (λi p=>if p=i then 1 else 0) 1:=by
 have hl:((List.range n).map (uL n)).length=n:=ZW;have g:∀i,i<n->((List.range n).map (uL n)).getD i []=uL n i:=λi hi=>by
  rw[qA0,qC1,List.getElem?_range hi];rfl
 have ra:∀i,i<n->∀p,p<n->rA ((List.range n).map (uL n)) i p=if p=i then 1 else 0:=λi hi p I=>by
  change ent (((List.range n).map (uL n)).getD i []) p=_;rw[g i hi,IW I]
 have cs:∀(p d t:Nat),W3 (λi p=>if p=i then 1 else 0) p t d<=(if t<=p then 1 else 0):=λp d=>by
  induction d with
  |zero=>intro t;show qC7 _
  | succ d ih=>
   intro t
   have:=ih (t+1)
   change (if p=t then (1:Int) else 0).natAbs+W3 _ p (t+1) d<=_;by_cases e:p=t
   .subst e;rw[qA4 ox]at this;rw[qA2 rfl,qA2 (qB2 _)]
    have:(1:Int).natAbs=1:=rfl
    omega
   .rw [qA4 e]
    have z:(0:Int).natAbs=0:=rfl;by_cases e2:t<=p
    .rw [qA2 ox]at this
     rw[qA2 e2];omega
    .rw [qA4 ox]at this
     rw[qA4 e2];omega
 refine ⟨⟨λi hi=>by rw[hl]at hi;show hi,λi j h _=>h,λi hi p I=>?_,λi hi=>?_,λi j a3 hj=>?_⟩,λ_ _=>trivial,λi hi=>?_,λv _=>?_,⟨λ_ _=>trivial,λi hi=>?_,λi k hi hk e=>?_,λi hi p I=>?_⟩,?_,λp I=>?_⟩
 .rw [hl]at hi
  rw[ra i hi p ox,qA4 ox]
 .rw [hl]at hi
  rw[ra i hi i hi,qA2 rfl];show qH9 _
 .rw [hl]at hj
  rw[ra i ox j hj,ra j hj j hj,qA4 ox,qA2 rfl];decide
 .rw [hl]at hi
  rw[g i hi];simp [uL]
 .by_cases h:∀p,p<n->v p=0
  .show .inl h
  .refine .inr ?_
   have:∃i,i<n/\v i≠0/\∀p,p<i->v p=0:=by
    have key:∀k,k<=n->(∀p,p<k->v p=0)\/∃i,i<k/\v i≠0/\∀p,p<i->v p=0:=by
     intro k
     induction k with
     |zero=>intro _;show .inl λp I=>absurd I (qC9 _)
     | succ k ih=>
      intro hk;rcases ih ox with a|⟨i,h1,h2⟩
      .by_cases e:v k=0
       .show .inl λp I=>if z:p=k then z ▸ e else a p ox
       .show .inr ⟨k,ox,e,a⟩
      .show .inr ⟨i,ox,h2⟩
    rcases key n (qB2 _) with a|a
    .show absurd a h
    .show a
   obtain ⟨i,hi,h1,h2⟩:=this;show ⟨i,by rw[hl];show hi,h2,h1,by rw[ra i hi i hi,qA2 rfl];show Int.one_dvd _⟩
 .change (if i=i then (1:Int) else 0)≠0;rw[qA2 rfl];decide
 .change (if k=i then (1:Int) else 0)=0;rw[qA4 λz=>e z.symm]
 .change (if p=i then (1:Int) else 0).natAbs<=1
  split <;> decide
 .show qX0
 .refine qA8 (cs p _ 0) ?_;rw[qA2 (qC7 _)];show qX0
def Ad {n i:Nat}(hn:n<=6):nL [.int (i:Int),.int (n:Int)]=.ok (tI (uL n i)):=by
 have e:∀N mg me ρ (h:∀p∈List.range n,ZX N ρ mg (.int (p:Nat)) λ ρ1=>me ρ1=.ok (.int (if p=i then 1 else 0))),l6 N mg yes me ((List.range n).map λp=>W.int (p:Nat)) ρ=.ok (lI (uL n i)):=λN mg me ρ h=>by
  rw[o9 (λp=>W.int (if p=i then 1 else 0)) _ _ ρ (by simp;omega) h,dE];rfl
 exists rpB,uE;rw[e]
 .exists rp18
 .intro p I;refine ⟨_,rfl,?_⟩;by_cases q:p=i
  .have d:decide ((p:Int)=(i:Int))=true:=qQ7 (by rw[q]);exists R6,d;rw[qA2 q]
  .have d:decide ((p:Int)=(i:Int))=false:=qQ6 ox;exists R6,d;rw[qA4 q]
def df (f:Zx):∀n:Nat,((List.range n).map f).sum=D5 n f
 |0=>rfl
 | n+1=>by
  rw[qV2,qD0,List.sum_append,df f n]
  change _+(f n+0)=D5 n f+f n;omega
abbrev vec (m:Nat)(x:Zx):List Int:=(List.range m).map x
def fG (h6:m<=6)(I:y.length=m)(hd:d.length=m)(hm:∀p,p<m->-18446744073709551616<d.getD p 0/\d.getD p 0<18446744073709551616):bG [tI y,tI d]=.ok (.int (dt m (ent y) (ent d))):=by
 have hz:=da (tI y) (tI d) _ _ rfl rfl;rw[aZ (by rw[I,hd]),I]at hz;have e:∀N mg me ρ (h:∀j∈List.range m,ZX N ρ mg (.tup [.int (y.getD j 0),.int (d.getD j 0)]) λ ρ1=>me ρ1=.ok (.int (y.getD j 0*d.getD j 0))),l6 N mg yes me ((List.range m).map λj=>W.tup [.int (y.getD j 0),.int (d.getD j 0)]) ρ=.ok (lI (vec m λj=>y.getD j 0*d.getD j 0)):=λN mg me ρ h=>by
  rw[o9 (λj=>.int (y.getD j 0*d.getD j 0)) _ _ ρ (by simp;omega) h,dE]
 have gs:K4 (vec m λj=>y.getD j 0*d.getD j 0)=dt m (ent y) (ent d):=df _ _;exists rpB,pA,hz;rw[e]
 .exists gs
 .intro j hj;have m1:=hU (i:=y.getD j 0) (hm j (by simpa using hj));refine ⟨_,rfl,?_⟩;exists m1
def nP (h:xs.length+ys.length<=1000):fCatT (tI xs) (tI ys)=.ok (tI (xs++ys)):=by
 change (if (xs.map W.int).length+(ys.map W.int).length<=1000/\m9 (xs.map W.int)=true/\m9 (ys.map W.int)=true then _ else _)=_;rw[qA2 ⟨by rw[qA5,qA5];show h,C8 xs,C8 ys⟩,<- qD0]
def HL (r:Zk):jK r (some 1) none=r.drop 1:=by
 unfold jK;rw[HT.sIx_none,show ((1:Int))=((1:Nat):Int) from rfl,HT.sIx_nat];cases r with
 |nil=>rfl
 |cons r rs=>simp
def stp (m:Mv)(p:Nat):Int:=m.2.getD p 0-m.1.getD p 0
def KG (r:Nat):Cb r<=2145:=by
 unfold Cb
 split
 .decide
 .unfold Bb;split <;> decide
def Ker (n:Nat)(ms:List Mv)(v:Zx):Prop:=∀m∈ms,dt n v (stp m)=0
def oJ (hn:n<=6)(h8:ms.length<=8)(b5:∀m∈ms,okN n m/\(∀x∈m.1,x<=1000000000)/\∀x∈m.2,x<=1000000000):Ok (N2 [tM_ ms,.int (n:Int)]) λv=>∃rs q,v=lS rs/\rs.length<=6/\Ech n rs q/\(∀i,i<rs.length->Rb n 2145 (rs.getD i []))/\(∀i,i<rs.length->Ker n ms (rA rs i))/\Gen n (Ker n ms) rs q:=by
 have eu:∀N mg me ρ (h:∀i∈List.range n,ZX N ρ mg (.int (i:Nat)) λ ρ1=>me ρ1=.ok (tI (uL n i))),l6 N mg yes me ((List.range n).map λi=>W.int (i:Nat)) ρ=.ok (lS ((List.range n).map (uL n))):=λN mg me ρ h=>by
  rw[o9 (λi=>tI (uL n i)) _ _ ρ (by simp;omega) h]
  change _=R.ok (W.lst (((List.range n).map (uL n)).map tI));rw[qC8];rfl
 exists rpB,ie;rw[eu];rotate_left
 .intro i hi;have k:=Ad (i:=i) hn;refine ⟨_,rfl,?_⟩;exists k
 exists rp18;refine n4 (t6 (λi ρ=>∃(rs:Zw) (a3 a4 a5:Sl),ρ = [.par (tM_ ms),.par (.int (n:Int)),.own (rs.map tI),a3,a4,a5]/\rs.length<=6/\∃L q u B,Lat L/\(∀v,L v↔∀j m,j<i->ms[j]?=some m->dt n v (stp m)=0)/\Bal n L rs q u B) ⟨_,_,_,_,rfl,by simp;omega,_,_,_,_,⟨λ_ _ _ _=>trivial⟩,λ_=>⟨λ_ j m hj=>absurd hj (qC9 _),λ_=>trivial⟩,Bal.start hn⟩ ?_ ?_)
 .rintro i w ρ hu ⟨rs,a3,a4,a5,rfl,a9,L,q,u,B,hL,a6,hB⟩;obtain ⟨m,hm,ab,rfl⟩:=bw hu;obtain ⟨hk,b4,b3⟩:=b5 m hm;have k1:=vI hn hk;have sb:∀p,p<n->-1000000000<=stp m p/\stp m p<=1000000000:=λp I=>by
   have a1:=lr hk.2.2.1 p;have a2:=lr hk.2.2.2 p;have b1:=memD b4 (i:=p) (by rw[hk.1];show I);have b2:=memD b3 (i:=p) (by rw[hk.2.1];show I);unfold stp;omega
  obtain ⟨h1,h2,h3,h4⟩:=hB.w (s:=stp m) hL hn a9 λp I=>by have:=sb p I;omega
  have bb:(rs.map (wR n (stp m))).length=rs.length:=qA5 _;obtain ⟨_,k2,fs,Q,rfl,f1,f2,f3,f4,f5⟩:=Bq ox (hL.m (n:=n) (s:=stp m)) ox h1 h2 h3 h4 (λt j bc=>h9_6 _ a9 t ox j ox ox);obtain ⟨g6,q',u',B',b0⟩:=hB.next hL hn a9 (s:=stp m) (λp I=>by have:=sb p I;omega) ox f2 f3 f4 f5;have ew:∀N mg me ρ (h:∀r∈rs,ZX N ρ mg (tI r) λ ρ1=>me ρ1=.ok (tI (wR n (stp m) r))),l6 N mg yes me (rs.map tI) ρ=.ok (lS (rs.map (wR n (stp m)))):=λN mg me ρ h=>by
   rw[o9 (λr=>tI (wR n (stp m) r)) _ _ ρ ox h]
   change _=R.ok (W.lst ((rs.map (wR n (stp m))).map tI));rw[qC8];rfl
  have ef:∀N mg mc me ρ (h:∀r∈fs,ZX N ρ mg (tI r) λ ρ1=>mc ρ1=.ok (decide (ent r 0=0))/\(decide (ent r 0=0)=true->me ρ1=.ok (tI (r.drop 1)))),l6 N mg mc me (fs.map tI) ρ=.ok (lS (kpt fs)):=λN mg mc me ρ h=>by
   rw[D9 (λr=>tI (r.drop 1)) _ (λr=>decide (ent r 0=0)) fs ρ ox h]
   change _=R.ok (W.lst ((kpt fs).map tI));unfold kpt;rw[qC8];rfl
  refine ⟨_,rfl,?_⟩;exists k1;rw[ew];rotate_left
  .intro r hr;obtain ⟨j,hj,rfl⟩:=qN1 hr;have a7:=hB.len j hj;rw[qA0,qA7 hj]at a7;change rs[j].length=n at a7;have k3:=fG (y:=rs[j]) (d:=(List.range n).map λk=>m.2.getD k 0-m.1.getD k 0) hn a7 ZW λp I=>by
    rw[K3 I]
    have:=sb p I
    unfold stp at this;omega
   have e3:dt n (ent rs[j]) (ent ((List.range n).map λk=>m.2.getD k 0-m.1.getD k 0))=dt n (ent rs[j]) (stp m):=M6 λp I=>by
    change _*((List.range n).map λk=>m.2.getD k 0-m.1.getD k 0).getD p 0=_;rw[K3 I];rfl
   rw[e3]at k3;have k4:fCatT (.tup [.int (dt n (ent rs[j]) (stp m))]) (tI rs[j])=.ok (tI (wR n (stp m) rs[j])):=nP (xs:=[dt n (ent rs[j]) (stp m)]) (by simp;omega);refine ⟨_,rfl,?_⟩;exists k3,k4
  exists rp18;rw[k2];exists rp18;rw[ef];rotate_left
  .intro r hr;obtain ⟨j,hj,rfl⟩:=qN1 hr;have a7:=f4 j hj;rw[qA0,qA7 hj]at a7;change fs[j].length=n+1 at a7;refine ⟨_,rfl,?_,λ_=>?_⟩
   .exists rp18;rfl
   .exists HL
  exists rp18;refine ⟨kpt fs,_,_,_,rfl,g6,_,q',u',B',⟨λa b h1 h2=>⟨hL.lin a b h1.1 h2.1,by rw[bK,h1.2,h2.2];omega⟩⟩,λv=>⟨λhv j m' hj a8=>?_,λhv=>⟨(a6 v).mpr λj m' hj a8=>hv j m' ox a8,hv i m ox ab⟩⟩,b0⟩;by_cases e:j=i
  .subst e;rw[ab]at a8;cases a8;show hv.2
  .show (a6 v).mp hv.1 j m' ox a8
 .rintro ρ ⟨rs,a3,a4,a5,rfl,a9,L,q,u,B,hL,a6,hB⟩;rw[qA5]at a6;have eK:L=Ker n ms:=funext λv=>propext ⟨λhv m hm=>by
   obtain ⟨j,hj,rfl⟩:=qN1 hm;show (a6 v).mp hv j _ hj (qA7 hj),λhv=>(a6 v).mpr λj m _ hm=>hv m (qD8 hm)⟩
  subst eK;exists rp18;show ⟨rs,q,rfl,a9,hB.ech,λi hi=>⟨hB.len i hi,λp I=>qA8 (hB.dia.bound hL hB.ech hB.gen hB.mem hi I) (qA8 (hB.c p I) (qH0 ZU (KG _)))⟩,hB.mem,hB.gen⟩
def FlEnd.K (h:FlEnd b ms most es wh):∃A T,FlK b ms es A T:=by
 rcases h.2 with ⟨_,h⟩|⟨_,_,A,T,_,h,_⟩
 .show ⟨_,_,h⟩
 .show ⟨_,_,h⟩
def Ai (hl:es.length<=100):aU [.lst (E2 b es)]=.ok (lS (stS b es)):=by
 rw[Eo,<- st_O];have I:(none::es.map some).length<=1000:=by rw[qD4,qA5];omega
 generalize (none::es.map some)=os at I
 exists rpB,fo;rw[o9 (λo=>tI (stO b o)) (qG b) os _ I λo _=>?_]
 .exists rp18;rw[show lS (os.map (stO b))=.lst ((os.map (stO b)).map tI) from rfl,qC8];rfl
 .cases o with
  | none=>
   have a0:L2.atI [tI b,W.non,W.non] 0=some (tI b):=rfl;have ct:=o6 (u7 b);refine ⟨_,rfl,?_⟩
   change _=R.ok (tI b);exists qG,a0,ct
  | some q=>
   have a0:L2.atI [tI q.1,W.int (q.2.1:Int),W.int (q.2.2:Int)] 0=some (tI q.1):=rfl;have ct:=o6 (u7 q.1);refine ⟨_,rfl,?_⟩
   change _=R.ok (tI q.1);exists qG,a0,ct
def GO (p:Zk):∀qs:List Zk,jB (tI p) (qs.map tI)=qs.findIdx? λq=>decide (q=p)
 | []=>rfl
 | q::qs=>by
  have g:=GO p qs;have e:PyData.eqv (pd (tI q)) (pd (tI p))=decide (q=p):=eqI q p;unfold jB at g ⊢;rw[qB8,pds,List.findIdx?_cons,List.findIdx?_cons,e,g]
def ve {qs:Zw}(h:p∈qs)(hl:qs.length<=100):∃j:Nat,gi (qs.map tI) (tI p)=.ok (.int (j:Int))/\∃hj:j<qs.length,qs[j]=p:=by
 cases e:qs.findIdx? λq=>decide (q=p) with
 | none=>
  rw[qT1]at e;show absurd (e p h) ZW
 | some j=>
  have I:=e;rw[qJ3]at I;obtain ⟨hj,hp,_⟩:=I;refine ⟨j,?_,hj,qQ9 hp⟩;unfold gi;rw[bf,gG,qN3,qA2 rfl,GO,e];show qA2 ox
def ulB (b s w:Zk):Bool:=!decide (dt s.length (ent w) (ent s)=dt s.length (ent w) (ent b))
def rP:Option Zk->W
 |some w=>.tup [.str "balance",tI w]
 |none=>.non
def vk {rs:Zw}(hi:i<rs.length)(hb:f (rs.getD i [])=true)(I:∀k,k<i->f (rs.getD k [])=false):rs.find? f=some (rs.getD i []):=by
 have g:∀k (hk:k<rs.length),rs.getD k []=rs[k]:=λk hk=>by rw[qA0,qA7 hk];rfl
 rw[List.find?_eq_some_iff_getElem];refine ⟨hb,i,hi,(g i hi).symm,λj hj=>?_⟩;rw[<- g j ox,I j hj];rfl
def vm {rs:Zw}(I:∀k,k<rs.length->f (rs.getD k [])=false):rs.find? f=none:=by
 rw[List.find?_eq_none];intro x hx;obtain ⟨q,hq,e⟩:=qD1.mp hx
 have:=I q hq
 rw[qA0,qA7 hq,e]at this;simpa using this
abbrev cM (s:Zk):Prop:=∀p,p<s.length->-18446744073709551616<s.getD p 0/\s.getD p 0<18446744073709551616
def sE (h6:s.length<=6)(hbl:b.length=s.length)(a3:∀r∈rs,r.length=s.length)(hk:N2 [tM_ ms,.int (s.length:Int)]=.ok (lS rs))(h1:cM s)(h2:cM b):K5 [.tup [tI b,tM_ ms],tI s]=.ok (rP (rs.find? (ulB b s))):=by
 have a0:L2.atI [tI b,tM_ ms] 0=some (tI b):=rfl;have a1:L2.atI [tI b,tM_ ms] 1=some (tM_ ms):=rfl;have fin:Ok (K5 [.tup [tI b,tM_ ms],tI s]) λv=>v=rP (rs.find? (ulB b s)):=by
  exists rpB,Z5,a1,hk;refine n4 (t6 (λi ρ=>∃x,ρ = [.par (.tup [tI b,tM_ ms]),.par (tI s),x]/\∀k,k<i->ulB b s (rs.getD k [])=false) ⟨_,rfl,λk hk=>absurd hk (qC9 _)⟩ ?_ ?_)
  .rintro i u ρ hu ⟨x,rfl,I⟩;obtain ⟨hi,rfl⟩:=S5 hu;have hl:=a3 _ (aR hi);have fs:=vk (f:=ulB b s) hi;generalize hw:rs.getD i []=w at hl fs ⊢
   have k1:=fG (y:=w) (d:=s) h6 hl rfl h1;have k2:=fG (y:=w) (d:=b) h6 hl hbl λp hp=>h2 p ox;have cw:=o6 (u7 w);refine ⟨_,rfl,?_⟩;exists a0,k1,k2,R6;refine E5 (λh=>?_) (λh=>?_)
   .exists cw;rw[fs h I];rfl
   .exists rp18;refine ⟨_,rfl,λk hk=>?_⟩;by_cases e:k=i
    .subst e;rw[hw];show h
    .show I k ox
  .rintro ρ ⟨x,rfl,I⟩;rw[qA5]at I;exists rp18;rw[vm I];rfl
 obtain ⟨v,e,rfl⟩:=fin;show e
def emp (s:Zk):List Int:=((List.range s.length).filter λk=>decide (s.getD k 0=0)).map λ(k:Nat)=>(k:Int)
def P5 (h6:s.length<=6):okP s.length (emp s):=by
 constructor
 .intro p I;obtain ⟨k,hk,rfl⟩:=qB0.mp I
  have:k<s.length:=by simpa using (qG3.mp hk).1
  omega
 .unfold emp;rw[qA5]
  have:=qI4 (λk=>decide (s.getD k 0=0)) (List.range s.length)
  rw[qF1]at this;omega
def yn (s:Zk):((s.map W.int).mapIdx λi x=>W.tup [.int (i:Int),x])=(List.range s.length).map λ(k:Nat)=>W.tup [.int (k:Int),.int (s.getD k 0)]:=by
 apply qJ8
 .simp
 .intro i h1 I;have hi:i<s.length:=by simpa using h1
  simp [hi]
def pQ (h6:s.length<=6):N1 [tI s]=.ok (tI (emp s)):=by
 have I:T4 [tI s]=.ok ((List.range s.length).map λ(k:Nat)=>W.tup [.int (k:Int),.int (s.getD k 0)]):=congrArg R.ok (yn s);have e:=rF (λk:Nat=>W.int (k:Int)) (λk:Nat=>W.tup [.int (k:Int),.int (s.getD k 0)]) (λk=>decide (s.getD k 0=0)) (List.range s.length) (by simp;omega);have e2:((List.range s.length).filter λk=>decide (s.getD k 0=0)).map (λk:Nat=>W.int (k:Int))=(emp s).map W.int:=by unfold emp;rw[qC8];rfl
 exists rpB,bB,I;rw[e,e2]
 .exists rp18
 intro k hk;refine ⟨_,rfl,?_⟩;exists rp18
def aS (b s dq wq:Zk):W:=if t5 s dq=true then .tup [.str "dry",tI dq] else if t5 b wq=true then .tup [.str "wet",tI wq] else .non
def BP (h6:s.length<=6)(h8:ms.length<=8)(hbl:b.length=s.length)(hd:D4 [tM_ ms,tI (emp b)]=.ok (tI dq))(hw:D4 [tM_ (ms.map swp),tI (emp s)]=.ok (tI wq))(od:okP s.length dq)(ow:okP s.length wq):X5 [.tup [tI b,tM_ ms],tI s]=.ok (aS b s dq wq):=by
 have a0:L2.atI [tI b,tM_ ms] 0=some (tI b):=rfl;have a1:L2.atI [tI b,tM_ ms] 1=some (tM_ ms):=rfl;have k1:=pQ (s:=b) ox;have k2:=pQ (s:=s) h6;have k3:S7 [tM_ ms,tI (emp s)]=.ok (tI wq):=by
  have t:=sJ (ms:=ms) h8;exists rpB,bx,t,hw
 have t1:=W6 (c:=s) od;have t2:=W6 (c:=b) (ps:=wq) (by rw[hbl];show ow);have fin:Ok (X5 [.tup [tI b,tM_ ms],tI s]) λv=>v=aS b s dq wq:=by
  exists rpB,hZ,a1,a0,k1,hd,t1;refine n4 (J1 (λh=>?_) (λh=>?_))
  .exists rp18;unfold aS;rw[qA2 h]
  .exists a1,a0,k2,k3,t2;refine J1 (λI=>?_) (λI=>?_)
   .exists rp18;unfold aS;rw[qA4 (by rw[h];show qA3),qA2 I]
   .exists rp18;unfold aS;rw[qA4 (by rw[h];show qA3),qA4 (by rw[I];show qA3)]
 obtain ⟨v,e,rfl⟩:=fin;show e
inductive rX (ms:List Mv) (b s:Zk) (most:Nat):W->Prop where
 |wall {j:Nat}:(∀i,i<j->k9 b (Bk ms s i)=false/\B1 ms s most "wall" i=.non)->k9 b (Bk ms s j)=false->(Bk ms s j).length<=most->B6 ms (Bk ms s j)=true->rX ms b s most (.tup [.str "wall",lS (Bk ms s j)])
 |no:(∀j,(∀i,i<j->k9 b (Bk ms s i)=false/\B1 ms s most "wall" i=.non)->k9 b (Bk ms s j)=false->(Bk ms s j).length<=most->B6 ms (Bk ms s j)=false)->rX ms b s most .non
def sj {most:Nat}(h1:1<=n)(h6:n<=6)(hm:∀m∈ms,okM n m)(a7:ms.length<=8)(hb:b.length=n)(hs:s.length=n)(hmo:most<=30):Ok (aa [.tup [tI b,tM_ ms],tI s,.int (most:Int)]) (rX ms b s most):=by
 obtain ⟨w,k1,j,a5,hw⟩:=yy h1 h6 hm a7 hb hs hmo;have s1:t7 false (W.str "row") (W.str "wall")=.ok (.bl false):=rfl;have s2:t7 false (W.str "open") (W.str "wall")=.ok (.bl false):=rfl;have s3:t7 false (W.str "wall") (W.str "wall")=.ok (.bl true):=rfl;have a0:∀x y:W,L2.atI [x,y] 0=some x:=λ_ _=>rfl;have a4:∀j',(∀i,i<j'->k9 b (Bk ms s i)=false/\B1 ms s most "wall" i=.non)->k9 b (Bk ms s j')=false->(Bk ms s j').length<=most->B6 ms (Bk ms s j')=true->j'=j:=λj' ha hl I a6=>by
  rcases qF4 j' j with q|q|q
  .have:=(a5 j' q).2
   rw[gu I a6]at this;cases this
  .show q
  .have hx:=ha j q;rcases hw with ⟨hl2,_⟩|⟨_,hne,_⟩
   .rw[hx.1]at hl2;cases hl2
   .show absurd hx.2 hne
 rcases hw with ⟨hl,rfl⟩|⟨hl,hne,rfl⟩
 .exists rpB,Q6,k1,a0,s1;refine ⟨_,rfl,.no λj' ha a3 I=>?_⟩;cases q:B6 ms (Bk ms s j') with
  |false=>rfl
  | true=>
   have e:=a4 j' ha a3 I q;subst e;rw[hl]at a3;cases a3
 .rcases vw ms s most "wall" j with q|q|⟨q,I,a6⟩
  .show absurd q hne
  .rw [q]at k1
   exists rpB,Q6,k1,a0,s2;refine ⟨_,rfl,.no λj' ha a3 I=>?_⟩;cases q2:B6 ms (Bk ms s j') with
   |false=>rfl
   | true=>
    have e:=a4 j' ha a3 I q2;subst e;rw[gu I q2]at q;show absurd q (by intro z;injection z with z;injection z with z;injection z with z;show absurd z ZU)
  .rw [q]at k1
   exists rpB,Q6,k1,a0,s3;show ⟨_,rfl,.wall a5 hl I a6⟩
def GrP (ms:List Mv)(ps qs:Zk):Prop:=qs.Sublist ps/\cG ms qs/\∀I:List Int,(∀p∈I,p∈ps)->cG ms I->∀p∈I,p∈qs
def GrP.okP (h:GrP ms ps qs)(I:okP n ps):okP n qs:=⟨λp q=>I.1 p (h.1.subset q),qA8 h.1.length_le I.2⟩
structure gC (n:Nat) (ms:List Mv) (rs:Zw):Prop where
 call:N2 [tM_ ms,.int (n:Int)]=.ok (lS rs)
 six:rs.length<=6
 len:∀r∈rs,r.length=n
 ker:∀r∈rs,Ker n ms (ent r)
inductive eA (ms:List Mv) (b s:Zk) (most:Nat):W->Prop where
 |row {es:List Ent}{wh:Bool}{n:Nat}{l r:Zk}:FlEnd b ms most es wh->n<=es.length->sA b es n=s->Pt es n l r->eA ms b s most (.tup [.str "row",lI r])
 |all {es:List Ent}:FlEnd b ms most es true->s∉stS b es->eA ms b s most (.tup [.str "all",lS (stS b es)])
 |bal {es:List Ent}{rs:Zw}{w:Zk}:FlEnd b ms most es false->s∉stS b es->gC s.length ms rs->rs.find? (ulB b s)=some w->eA ms b s most (.tup [.str "balance",tI w])
 |dry {es:List Ent}{rs:Zw}{dq:Zk}:FlEnd b ms most es false->s∉stS b es->gC s.length ms rs->rs.find? (ulB b s)=none->GrP ms (emp b) dq->t5 s dq=true->eA ms b s most (.tup [.str "dry",tI dq])
 |wet {es:List Ent}{rs:Zw}{dq wq:Zk}:FlEnd b ms most es false->s∉stS b es->gC s.length ms rs->rs.find? (ulB b s)=none->GrP ms (emp b) dq->t5 s dq=false->GrP (ms.map swp) (emp s) wq->t5 b wq=true->eA ms b s most (.tup [.str "wet",tI wq])
 |wal {es:List Ent}{rs:Zw}{dq wq:Zk}{w:W}:FlEnd b ms most es false->s∉stS b es->gC s.length ms rs->rs.find? (ulB b s)=none->GrP ms (emp b) dq->t5 s dq=false->GrP (ms.map swp) (emp s) wq->t5 b wq=false->rX ms b s most w->eA ms b s most (if isN w=true then .tup [.str "open"] else w)
def qH {most:Nat}(h1:1<=s.length)(h6:s.length<=6)(hbl:b.length=s.length)(hm:∀m∈ms,okC s.length m)(h8:ms.length<=8)(m1:1<=most)(b3:most<=30)(a6:cM s)(a7:cM b):Ok (dR [.tup [tI b,tM_ ms],tI s,.int (most:Int)]) (eA ms b s most):=by
 have hN:∀m∈ms,okN s.length m:=λm h=>(hm m h).N;have hM:∀m∈ms,okM s.length m:=λm h=>⟨(hm m h).1,(hm m h).2.1⟩;have ab:∀m∈ms,okN b.length m:=by rw[hbl];show hN
 obtain ⟨_,kf,es,wh,rfl,hF⟩:=yi (b:=b) (ms:=ms) (most:=most) ox ab h8 m1 ox;have b4:=hF.1;have a8:es.length<=100:=ox;have ks:=Ai (b:=b) a8;have fi:=nN false s (stS b es);have a0:∀x y:W,L2.atI [x,y] 0=some x:=λ_ _=>rfl;have a1:∀x y:W,L2.atI [x,y] 1=some y:=λ_ _=>rfl;have b5:=X8 b es;exists rpB,kj,kf,a0,ks,fi;refine n4 (J1 (λh=>?_) (λh=>?_))
 .have h:s∈stS b es:=by simpa using h
  obtain ⟨j,ei,hj,ej⟩:=ve h ox;obtain ⟨A,T,hK⟩:=hF.K;obtain ⟨l,r,p⟩:=Pt.ex hK.par j ox;have kr:=wH (b:=b) hK.par a8 ox p;exists a0,ei,kr;refine .row hF ox ?_ p;unfold sA;rw[qA0,qA7 hj,ej];rfl
 have h:s∉stS b es:=by simpa using h
 exists a1;refine J1 (λh2=>?_) (λh2=>?_)
 .subst h2;exists rp18;show .all hF h
 subst h2;obtain ⟨_,kb,rs,q,rfl,r6,hE,hR,b0,hG⟩:=oJ (ms:=ms) (n:=s.length) h6 h8 λm h=>⟨hN m h,λx hx=>((hm m h).2.2.1 x hx).2,λx hx=>((hm m h).2.2.2 x hx).2⟩;have gt:∀r∈rs,∃i,i<rs.length/\rs.getD i []=r:=λr hr=>by
  obtain ⟨i,hi,e⟩:=qD1.mp hr;show ⟨i,hi,by rw[qA0,qA7 hi,e];rfl⟩
 have hB:gC s.length ms rs:=⟨kb,r6,λr hr=>by obtain ⟨i,hi,e⟩:=gt r hr;rw[<- e];show (hR i hi).len,λr hr=>by obtain ⟨i,hi,e⟩:=gt r hr;rw[<- e];show b0 i hi⟩;have ku:=sE h6 hbl hB.len kb a6 a7;exists ku;cases hf:rs.find? (ulB b s) with
 | some w=>
  have e1:rP (some w)=.tup [.str "balance",tI w]:=rfl;exists e1;show .bal hF h hB hf
 | none=>
  have e1:rP none=.non:=rfl;obtain ⟨_,kd,dq,rfl,I⟩:=nI (ps:=emp b) hN (by rw[<- hbl];show P5 ox);obtain ⟨_,kw,wq,rfl,a3⟩:=nI (ps:=emp s) (DJ hN) (P5 h6);have I:GrP ms (emp b) dq:=I;have a3:GrP (ms.map swp) (emp s) wq:=a3;have kk:=BP h6 h8 hbl kd kw (I.okP (by rw[<- hbl];show P5 ox)) (a3.okP (P5 h6));exists e1,kk;cases hh:t5 s dq with
  | true=>
   have e2:aS b s dq wq=.tup [.str "dry",tI dq]:=qA2 hh;exists e2;show .dry hF h hB hf I hh
  | false=>
   cases a4:t5 b wq with
   | true=>
    have e2:aS b s dq wq=.tup [.str "wet",tI wq]:=by unfold aS;rw[qA4 (by rw[hh];show qA3),qA2 a4]
    exists e2;show .wet hF h hB hf I hh a3 a4
   | false=>
    have e2:aS b s dq wq=.non:=by unfold aS;rw[qA4 (by rw[hh];show qA3),qA4 (by rw[a4];show qA3)]
    obtain ⟨w,a9,hW⟩:=sj (b:=b) (s:=s) (most:=most) h1 h6 hM h8 hbl rfl b3;have a5:eA ms b s most (if isN w=true then .tup [.str "open"] else w):=.wal hF h hB hf I hh a3 a4 hW;exists e2,a9;cases hW with
    | wall _ _ _ _=>
     exists rp18;show a5
    | no _=>
     exists rp18;show a5
def behLS (s:Zk)(m:Mv):M5 s m=C0 s m:=qK8 λk _=>ox
def JY (h:g5 a b=true)(hk:k<a.length):b.getD k 0<=a.getD k 0:=cov_iff.mp h k hk
def CY (hk:k<s.length):(C0 s m).getD k 0=s.getD k 0+(m.2.getD k 0-m.1.getD k 0):=K3 hk
def FV (h:k<ms.length):mvN ms k∈ms:=by
 unfold mvN;rw[qA0,qA7 h];show qJ7 _
def FlEnd.tK (h:FlEnd b ms most es true):FlK b ms es (es.length+1) []:=by
 rcases h.2 with ⟨_,h⟩|⟨q,_⟩
 .show h
 .cases q
def CG (n:Nat)(v a b:Zx):dt n v (λp=>a p+b p)=dt n v a+dt n v b:=by
 unfold dt;rw[<- fL];show M6 λp _=>qM4 _ _ _
inductive NoP (ms:List Mv) (b s:Zk):W->Prop where
 |all {es:List Ent}:FlK b ms es (es.length+1) []->es.length+1<=30->s∉stS b es->NoP ms b s (.tup [.str "all",lS (stS b es)])
 |bal {w:Zk}:w.length=s.length->Ker s.length ms (ent w)->dt s.length (ent w) (ent s)≠dt s.length (ent w) (ent b)->NoP ms b s (.tup [.str "balance",tI w])
 |dry {qs:Zk}:okP s.length qs->cG ms qs->t5 b qs=false->t5 s qs=true->NoP ms b s (.tup [.str "dry",tI qs])
 |wet {qs:Zk}:okP s.length qs->cG (ms.map swp) qs->t5 s qs=false->t5 b qs=true->NoP ms b s (.tup [.str "wet",tI qs])
 |wall {L:Zw}:(∀x∈L,x.length=s.length)->L.length<=30->k9 b L=false->k9 s L=true->B6 ms L=true->NoP ms b s (.tup [.str "wall",lS L])
inductive IN (ms:List Mv) (b s:Zk):W->Prop where
 |row {es:List Ent}{A:Nat}{T:Zy}{n:Nat}{l r:Zk}:FlK b ms es A T->es.length+1<=30->n<=es.length->sA b es n=s->Pt es n l r->IN ms b s (.tup [.str "row",lI r])
 |opn:IN ms b s (.tup [.str "open"])
def small (h:-18446744073709551616<z/\z<18446744073709551616):Builtin.Int.intBits z<=64:=intBits_le_64 ox ox
def K1 {ns:Zk}(hb:∀x∈ns,Builtin.Int.intBits x<=1048576)(h0:0<=k)(h1:k<=1000):Ok (m7 [.scr (ns.map W.int),.int k]) λw=>∃z:Int,w=.int z:=by
 have a3:=IY h0 h1;by_cases h:k<(ns.length:Int)
 .exists rpB,U1,qQ7 h;show ⟨_,rfl,_,rfl⟩
 .by_cases I:0<(ns.length:Int)
  .have m0:0<=k*19%(ns.length:Int):=qN9 _ ox;have m1:k*19%(ns.length:Int)<(ns.length:Int):=qL2 _ I;have hz:=memD (P:=λx=>Builtin.Int.intBits x<=1048576) hb (i:=(k*19%(ns.length:Int)).toNat) ox;exists rpB,U1,qQ6 h,qQ7 I;generalize ns.getD (k*19%(ns.length:Int)).toNat 0=z at *
   have b1:=intBits_mul_le hz (small (z:=48271) ox);have b2:Builtin.Int.intBits (k*k*9001)<=64:=small ox;have b3:=intBits_add_le b1 b2;have b4:=intBits_add_le b3 (small (z:=5) ox);have b5:Builtin.Int.intBits (z*48271+k*k*9001+5)+Builtin.Int.intBits (z*48271+k*k*9001+5)<=134217728:=ox;exists rp18;show ⟨_,rfl,_,rfl⟩
  .exists rpB,U1,qQ6 h,qQ6 I;show ⟨_,rfl,_,rfl⟩
def Jx:∃z:Int,L2.atI [W.int 0,W.int 1,W.int 0,W.int 0,W.int 2,W.int 1] (c%6)=some (.int z)/\0<=z/\z<=2:=by
 have h:c%6=0\/c%6=1\/c%6=2\/c%6=3\/c%6=4\/c%6=5:=ox;rcases h with h|h|h|h|h|h <;> rw[h] <;> show ⟨_,rfl,ZU,ZU⟩
def Jw:∃z:Int,L2.atI [W.int 0,W.int 1,W.int 0,W.int 1,W.int 0,W.int 2,W.int 0] (c/6%7)=some (.int z)/\0<=z/\z<=2:=by
 have h:c/6%7=0\/c/6%7=1\/c/6%7=2\/c/6%7=3\/c/6%7=4\/c/6%7=5\/c/6%7=6:=ox;rcases h with h|h|h|h|h|h|h <;> rw[h] <;> show ⟨_,rfl,ZU,ZU⟩
def c8 (xs:Zk):Prop:=∀x∈xs,0<=x/\x<=800000000
def c8.c (h:c8 xs):cc xs:=λx I=>⟨(h x I).1,by have:=(h x I).2;omega⟩
def qh (h:c8 xs)(hz:0<=z/\z<=800000000):c8 (xs ++ [z]):=λx I=>by
 rcases qC0.mp I with q|q
 .show h x q
 .rw[qC6.mp q];show hz
def pn (h:Paired (λ(_:Nat) z=>0<=z/\z<=800000000) (List.range n) I):c8 I/\I.length=n:=by
 refine ⟨λz hz=>?_,by have:=Paired.length h;simpa using this.symm⟩
 have:∀(l:Zy) (I:Zk),Paired (λ(_:Nat) z=>0<=z/\z<=800000000) l I->∀z∈I,0<=z/\z<=800000000:=λl I q=>by
  induction q with
  |nil=>intro z hz;cases hz
  | cons r _ ih=>
   intro z hz;rcases qB6.mp hz with rfl|hz
   .show r
   .show ih z hz
 show this _ _ h z hz
def eD {f:Int}(h0:0<=z)(h2:z<=7)(I:0<=f/\f<=100000001):0<=z*f/\z*f<=800000000:=by
 have h:z=0\/z=1\/z=2\/z=3\/z=4\/z=5\/z=6\/z=7:=ox;rcases h with rfl|rfl|rfl|rfl|rfl|rfl|rfl|rfl <;> omega
def zA (b:Bool):∃z:Int,fInt [.bl b]=.ok (.int z)/\(z=0\/z=1):=by
 cases b
 .show ⟨0,rfl,ox⟩
 .show ⟨1,rfl,ox⟩
def zK {o:Int}(h:z=0\/z=1)(h0:0<=o)(I:o<=3):0<=z*(1+2*o)/\z*(1+2*o)<=7:=by
 rcases h with rfl|rfl <;> omega
def Br {ns:Zk}(hb:∀x∈ns,Builtin.Int.intBits x<=1048576){n:Nat}(h1:1<=n)(h4:n<=4)(a0:0<=a)(a1:a<=200)(hf:0<=f/\f<=100000001):Ok (aW [.scr (ns.map W.int),.int a,.int (n:Int),.bl pl,.int f]) λw=>∃m:Mv,w=mW m/\(m.1.length=n/\m.2.length=n/\c8 m.1/\c8 m.2)/\(pl=false->∀x∈m.2,x<=300000000):=by
 exists rpB,ft;refine n4 (t6 (λi ρ=>∃(xs ys:Zk) (a7 a8:Sl),ρ = [.par (.scr (ns.map W.int)),.par (.int a),.par (.int (n:Int)),.par (.bl pl),.par (.int f),.own (xs.map W.int),.own (ys.map W.int),a7,a8,.un,.un]/\xs.length=i/\ys.length=i/\c8 xs/\c8 ys/\∀x∈ys,x<=300000000) ⟨[],[],_,_,rfl,rfl,rfl,λx h=>(nomatch h),λx h=>(nomatch h),λx h=>(nomatch h)⟩ ?_ ?_)
 .rintro i u ρ hu ⟨xs,ys,a7,a8,rfl,a3,I,hx,hy,a4⟩;obtain ⟨hi,rfl⟩:=bi hu;obtain ⟨_,e1,c,rfl⟩:=K1 hb (k:=a+(i:Int)) ox ox;obtain ⟨x,ex,x0,x2⟩:=Jx (c:=c);obtain ⟨y,ey,y0,y2⟩:=Jw (c:=c);refine ⟨_,rfl,?_⟩;exists e1,ex,ey;refine ⟨xs ++ [x*f],ys ++ [y*f],_,_,rfl,by simp [a3],by simp [I],qh hx (eD x0 ox hf),qh hy (eD y0 ox hf),λz hz=>?_⟩;rcases qC0.mp hz with q|q
  .show a4 z q
  .rw [qC6.mp q]
   have h:y=0\/y=1\/y=2:=ox;rcases h with rfl|rfl|rfl <;> omega
 .rintro ρ ⟨xs,ys,a7,a8,rfl,a3,I,hx,hy,a4⟩;rw[qA5,qF1]at a3 I;refine dz (λρ=>∃(xs ys:Zk) (a7 a8 a9 b1:Sl),ρ = [.par (.scr (ns.map W.int)),.par (.int a),.par (.int (n:Int)),.par (.bl pl),.par (.int f),.own (xs.map W.int),.own (ys.map W.int),a7,a8,a9,b1]/\xs.length=n/\ys.length=n/\c8 xs/\c8 ys/\(pl=false->∀x∈ys,x<=300000000)) ?_ ?_
  .cases pl
   .exists rp18;show ⟨xs,ys,_,_,_,_,rfl,a3,I,hx,hy,λ_=>a4⟩
   .obtain ⟨_,e1,c,rfl⟩:=K1 hb (k:=a) ox ox;obtain ⟨_,e2,d,rfl⟩:=K1 hb (k:=a+1) ox ox;have o0:=qN9 (c/42) (show (n:Int)≠0 by omega);have o1:=qL2 (c/42) (show (0:Int)<(n:Int) by omega);have o2:=qN9 (d/42) (show (n:Int)≠0 by omega);have o3:=qL2 (d/42) (show (0:Int)<(n:Int) by omega);exists e1,e2;generalize c/42%(n:Int)=p at *
    generalize d/42%(n:Int)=q at *
    refine pf ?_;refine jl (λ_ z=>0<=z/\z<=800000000) (by simp;omega) ?_ ?_
    .intro j hj;obtain ⟨z,ez,hz⟩:=zA (decide ((j:Int)=p));have hm:=zK hz o2 ox;refine ⟨_,rfl,?_⟩;exists R6,ez;show ⟨_,rfl,_,rfl,eD hm.1 hm.2 hf⟩
    intro us hu;obtain ⟨b0,ab⟩:=pn hu;exists rp18;refine tV ?_;refine jl (λ_ z=>0<=z/\z<=800000000) (by simp;omega) ?_ ?_
    .intro j hj;obtain ⟨z,ez,hz⟩:=zA (decide ((j:Int)=q));have hm:=zK hz o0 ox;refine ⟨_,rfl,?_⟩;exists R6,ez;show ⟨_,rfl,_,rfl,eD hm.1 hm.2 hf⟩
    intro vs hv;obtain ⟨a5,a6⟩:=pn hv;exists rp18;show ⟨us,vs,_,_,_,_,rfl,ab,a6,b0,a5,λz=>by cases z⟩
  rintro ρ ⟨xs,ys,a7,a8,a9,b1,rfl,a3,I,hx,hy,a4⟩;exists rp18;show ⟨(xs,ys),rfl,⟨a3,I,hx,hy⟩,a4⟩
def fg (h:cc xs)(hz:0<=z/\z<=1000000000):cc (xs.set k z):=λx I=>by
 rcases qY0 I with q|q
 .show h x q
 .rw[q];show hz
def BS (h:1<=n):L2.ixN n (-1)=some (n-1):=by
 unfold L2.ixN;simp;omega
def ui {k:Nat}(h1:1<=n)(h4:n<=4)(hm:m.1.length=n/\m.2.length=n/\c8 m.1/\c8 m.2)(a7:∀x∈m.2,x<=300000000)(hf:0<=f/\f<=100000001):Ok (S9 [mW m,.int (k:Int),.int f]) λw=>∃m':Mv,w=mW m'/\okC n m':=by
 obtain ⟨a,b⟩:=m;obtain ⟨ha,hb,b0,ab⟩:=hm;dsimp only at ha hb b0 ab a7;have c0:L2.atI [tI a,tI b] 0=some (tI a):=rfl;have c1:L2.atI [tI a,tI b] 1=some (tI b):=rfl;have il:=BS h1;exists rpB,bC,c0,c1,ha,hb,il;have b3:∀x∈b.set 0 0,0<=x/\x<=300000000:=λx hx=>by
  rcases qY0 hx with q|q
  .show ⟨(ab x q).1,a7 x q⟩
  .rw[q];omega
 have a5:(a.set (n-1) 0).length=n:=by rw[qD3,ha]
 have a3:(b.set 0 0).length=n:=by rw[qD3,hb]
 have a4:cc (a.set (n-1) 0):=fg b0.c ox;generalize a.set (n-1) 0=x at *
 generalize b.set 0 0=y at *
 have I:cc y:=λz hz=>by have:=b3 z hz;omega
 refine n4 (dz (λρ=>∃(xs ys:Zk),ρ = [.par (mW (a,b)),.par (.int (k:Int)),.par (.int f),.own (xs.map W.int),.own (ys.map W.int)]/\xs.length=n/\ys.length=n/\cc xs/\cc ys) ?_ ?_)
 .refine E5 (λh=>?_) (λh=>?_)
  .have al:L2.atI (y.map W.int) (-1)=some (.int (y.getD (n-1) 0)):=by
    unfold L2.atI;rw[qA5,a3,il]
    change (y.map W.int)[n-1]?=_;rw[qC1,qA0,qA7 ox];rfl
   have hz:=memD b3 (i:=n-1) ox;exists a3,il,al;show ⟨x.set 0 0,y.set (n-1) (y.getD (n-1) 0+f),rfl,by rw[qD3];show a5,by rw[qD3];show a3,fg a4 ox,fg I ox⟩
  .exists rp18;show ⟨x,y,rfl,a5,a3,a4,I⟩
 rintro ρ ⟨xs,ys,rfl,a8,a6,a9,I⟩;exists rp18;refine J1 (λh=>?_) (λh=>?_)
 .exists rp18;show ⟨(xs.set 0 f,ys),rfl,by rw[qD3];show a8,a6,fg a9 ox,I⟩
 .exists rp18;show ⟨(xs,ys),rfl,a8,a6,a9,I⟩
def eX (h6:a.length<=6)(hl:b.length=a.length):B9 [tI a,tI b]=.ok (.bl (g5 a b)):=by
 have fin:Ok (B9 [tI a,tI b]) λv=>v=.bl (g5 a b):=by
  exists rpB,cV;refine n4 (t6 (λi ρ=>∃x,ρ = [.par (tI a),.par (tI b),x]/\∀k,k<i->b.getD k 0<=a.getD k 0) ⟨_,rfl,λk hk=>absurd hk (qC9 _)⟩ ?_ ?_)
  .rintro i u ρ hu ⟨x,rfl,I⟩;obtain ⟨hi,rfl⟩:=bi hu;refine ⟨_,rfl,?_⟩;exists rp18;refine E5 (λh=>?_) (λh=>?_)
   .have h:=qQ9 h;exists zH hi h
   .have h:=qR5 h;exists rp18;refine ⟨_,rfl,λk hk=>?_⟩;by_cases e:k=i
    .subst e;omega
    .show I k ox
  .rintro ρ ⟨x,rfl,I⟩;rw[qA5,qF1]at I;exists lL I
 obtain ⟨v,e,rfl⟩:=fin;show e
def im (I:s.length<=6)(hm:okN s.length m):N9 [tI s,mW m]=.ok (tI (C0 s m)):=by
 have a0:L2.atI [tI m.1,tI m.2] 0=some (tI m.1):=rfl;have a1:L2.atI [tI m.1,tI m.2] 1=some (tI m.2):=rfl;have e1:=hm.1;have e2:=hm.2.1;have e:=wK (n:=s.length) (λk=>s.getD k 0-m.1.getD k 0+m.2.getD k 0) I;have eb:(List.range s.length).map (λk=>s.getD k 0-m.1.getD k 0+m.2.getD k 0)=C0 s m:=qK8 λk _=>ox;rw[eb]at e;exists rpB,cW;rw[e]
 .exists rp18
 .intro k hk;refine ⟨_,rfl,?_⟩;exists a0,a1
def FW {k:Nat}(h:k<ms.length):L2.atI (ms.map mW) (k:Int)=some (mW (mvN ms k)):=by
 have:=atM (ms:=ms) (r:=(k:Int)) ox ox
 rw[qI1]at this;show this
abbrev lM (ms:List Mv):W:=.lst (ms.map mW)
def DL (n:Nat)(m:Mv):shp (n+2) (mW m)=true:=by
 change P8 (n+1) [tI m.1,tI m.2]=true;simp only [P8,bf,qL8,qQ2]
def bnd (i:Nat)(s:Zk):Prop:=∀k,0<=s.getD k 0/\s.getD k 0<=1000000000*((i:Int)+1)
def bnd.go (h:bnd i s)(hs:s.length=n)(hm:okC n m)(hc:g5 s m.1=true):bnd (i+1) (C0 s m):=λk=>by
 by_cases hk:k<s.length
 .rw [CY hk]
  have:=h k
  have:=JY hc hk
  have:=memD hm.2.2.1 (i:=k) (by rw[hm.1];omega)
  have:=memD hm.2.2.2 (i:=k) (by rw[hm.2.1];omega)
  omega
 .rw [qA0,qH2 (by rw[cK];omega)]
  change (0:Int)<=0/\(0:Int)<=_;omega
def bnd.mono (h:bnd i s)(I:i<=j):bnd j s:=λk=>by have:=h k;omega
def bnd.b64 (h:bnd i s)(hi:i<=100):cM s:=λp _=>by have:=h p;omega
def bnd.nn (h:bnd i s):nn s:=λx I=>by
 obtain ⟨k,hk,e⟩:=qD1.mp I
 have:=(h k).1
 rw[qA0,qA7 hk,e]at this;show this
def bnd.set (h:bnd i s)(hz:0<=z/\z<=1000000000*((i:Int)+2)):bnd (i+1) (s.set k z):=λq=>by
 have:=h q
 rw[qA0,qC3]
 split
 .split
  .change 0<=z/\z<=_;omega
  .change (0:Int)<=0/\(0:Int)<=_;omega
 .rw [<- qA0]
  omega
def BN (ms:List Mv):fEq true (lM ms) (.lst [])=.ok (.bl (!decide (ms = []))):=by
 unfold fEq;have h:shp 8 (lM ms)=true:=Y4 mW 7 (DL 5) ms;rw[h];cases ms <;> rfl
def yr {ns:Zk}(hb:∀x∈ns,Builtin.Int.intBits x<=1048576)(h6:b.length<=6)(hm:∀m∈ms,okC b.length m)(h8:ms.length<=8)(h0:bnd 0 b):Ok (ah [.scr (ns.map W.int),tI b,lM ms]) λw=>∃s:List Int,w=tI s/\s.length=b.length/\bnd 14 s:=by
 obtain ⟨_,e2,c2,rfl⟩:=K1 hb (k:=2) ox ox;have ct:=o6 (u7 b);obtain ⟨M,hM⟩:∃m:Nat,c2/5%14=(m:Int):=⟨(c2/5%14).toNat,ox⟩;have a6:M<=13:=ox;exists rpB,dM,ct,e2,hM;refine n4 (t6 (λi ρ=>∃(s:Zk) (x y:Sl),ρ = [.par (.scr (ns.map W.int)),.par (tI b),.par (lM ms),.val (tI s),x,y]/\s.length=b.length/\bnd i s) ⟨b,_,_,rfl,rfl,h0⟩ ?_ ?_)
 .rintro i u ρ hu ⟨s,x,y,rfl,I,hs⟩;obtain ⟨hi,rfl⟩:=bi hu;have e:=rF mW mW (λm=>g5 s m.1) ms ox;obtain ⟨_,e4,d,rfl⟩:=K1 hb (k:=20+(i:Int)) ox ox;have kn:=BN (ms.filter λm=>g5 s m.1);have a3:(ms.filter λm=>g5 s m.1).length<=8:=qA8 (qI4 _ _) h8;have fin:∀m,m∈(ms.filter λm=>g5 s m.1)->m∈ms/\g5 s m.1=true:=λm hm=>by simpa using qG3.mp hm
  refine ⟨_,rfl,?_⟩;exists rp18;rw[e];rotate_left
  .intro m a5;have a0:L2.atI [tI m.1,tI m.2] 0=some (tI m.1):=rfl;have k1:=eX (a:=s) (b:=m.1) ox (by rw[(hm m a5).1,I]);have cm:=o6 (mX m);refine ⟨_,rfl,?_⟩;exists a0,k1,cm
  generalize (ms.filter λm=>g5 s m.1)=fs at kn a3 fin
  exists kn;refine E5 (λh=>?_) (λh=>?_)
  .have a4:fs ≠ []:=by simpa using h
   have hp:0<fs.length:=List.length_pos_iff.mpr a4;have g0:=qN9 d (show (fs.length:Int)≠0 by omega);have g1:=qL2 d (show (0:Int)<(fs.length:Int) by omega);have ea:L2.atI (fs.map mW) (d%(fs.length:Int))=some (mW (fs.getD (d%(fs.length:Int)).toNat ([],[]))):=bV mW (as:=fs) (d:=([],[])) ⟨g0,g1⟩;have hk:=fin (fs.getD (d%(fs.length:Int)).toNat ([],[])) (by rw[qA0];simp [show (d%(fs.length:Int)).toNat<fs.length by omega]);generalize fs.getD (d%(fs.length:Int)).toNat ([],[])=m at ea hk
   have hok:=hm m hk.1;have k2:=im (s:=s) (m:=m) ox (by rw[I];show hok.N);exists e4,ea,k2;show ⟨C0 s m,_,_,rfl,by rw[cK];show I,hs.go I hok hk.2⟩
  .exists rp18;show ⟨s,_,_,rfl,I,hs.mono ox⟩
 .rintro ρ ⟨s,x,y,rfl,I,hs⟩;rw[qA5,qF1]at hs;have ct:=o6 (u7 s);exists ct;show ⟨s,rfl,I,hs.mono ox⟩
def zX {ns:Zk}(hb:∀x∈ns,Builtin.Int.intBits x<=1048576)(h1:1<=b.length)(h6:b.length<=6)(hm:∀m∈ms,okC b.length m)(h8:ms.length<=8)(h0:bnd 0 b)(hf:0<=f/\f<=100000001):Ok (aV [.scr (ns.map W.int),tI b,lM ms,.int f]) λw=>∃s:List Int,w=tI s/\s.length=b.length/\bnd 20 s:=by
 obtain ⟨_,e3,c,rfl⟩:=K1 hb (k:=3) ox ox;obtain ⟨_,kd,s,rfl,a3,hs⟩:=yr hb h6 hm h8 h0;obtain ⟨p,hp⟩:∃p:Nat,c/3%(b.length:Int)=(p:Int):=⟨(c/3%(b.length:Int)).toNat,by have:=qN9 (c/3) (show (b.length:Int)≠0 by omega);omega⟩;have a5:p<b.length:=by have:=qL2 (c/3) (show (0:Int)<(b.length:Int) by omega);omega
 exists rpB,fq,e3;refine n4 (J1 (λh=>?_) (λh=>?_))
 .exists rp18;refine AV (jX (λ_ z=>0<=z/\z<=800000000) ox (λk hk=>?_) λt a4 I=>?_)
  .obtain ⟨_,ek,z,rfl⟩:=K1 hb (k:=4+(k:Int)) ox ox;refine ⟨_,rfl,?_⟩;exists ek;show ⟨_,rfl,_,rfl,eD ox ox hf⟩
  refine ⟨t,rfl,a4,λk=>?_⟩;by_cases hk:k<b.length
  .have:=I k hk;omega
  .rw [qA0,qH2 ox]
   change (0:Int)<=0/\(0:Int)<=_;omega
 .have a7:=hs p;exists kd,hp;refine J1 (λh2=>?_) (λh2=>?_)
  .have hz:0<=s.getD p 0+c/12%2/\s.getD p 0+c/12%2<=1000000000*((14:Nat)+2:Int):=ox;exists rp18;show ⟨s.set p (s.getD p 0+c/12%2),rfl,by rw[qD3];show a3,(hs.set hz).mono ox⟩
  .have a6:=h0 0;have a8:=h0 p;exists rp18;show ⟨(b.set p (b.getD 0 0)).set 0 (b.getD p 0),rfl,by rw[qD3,qD3],((h0.set ox).set ox).mono ox⟩
def uI {m:Mv}(I:s.length<=6):∀N mg me ρ,(∀k,k<s.length->ZX N ρ mg (.int (k:Nat)) λ ρ1=>me ρ1=.ok (.int (m.1.getD k 0+max 0 (s.getD k 0-m.2.getD k 0))))->l6 N mg yes me ((List.range s.length).map λk=>W.int (k:Nat)) ρ=.ok (lI (srcL s m.1 m.2)):=by
 have e:=wK (n:=s.length) (λk=>m.1.getD k 0+max 0 (s.getD k 0-m.2.getD k 0)) I;rw[show (List.range s.length).map (λk=>m.1.getD k 0+max 0 (s.getD k 0-m.2.getD k 0))=srcL s m.1 m.2 from qK8 λk _=>ox]at e;show e
def FlK.slen (I:FlK b ms es A T)(ha:a<es.length+1):(sA b es a).length=b.length:=by
 have:=mt (b:=b) (es:=es) ha
 rcases qB6.mp this with h|h
 .rw[h]
 .obtain ⟨e,he,h⟩:=qB0.mp h;rw[<- h];show I.len e he
def Pt.uniq:∀{n:Nat}{l r l' I:Zk},Pt es n l r->Pt es n l' I->l=l'/\r=I
 |_,_,_,_,_,.zero,.zero=>⟨rfl,rfl⟩
 | _,_,_,_,_,.succ h p,.succ h' p'=>by
  rw[h]at h';cases h';obtain ⟨e1,e2⟩:=Pt.uniq p p';rw[e1,e2];show ⟨rfl,rfl⟩
inductive Pl:Nat->W->Prop where
 |int {d:Nat}{i:Int}:Pl (d+1) (.int i)
 |str {d:Nat}{s:Str}:PyData.strOk s=true->Pl (d+1) (.str s)
 |tup {d:Nat}{ws:Zp}:ws.length<=1000->(∀x∈ws,Pl d x)->Pl (d+1) (.tup ws)
 |lst {d:Nat}{ws:Zp}:ws.length<=1000->(∀x∈ws,Pl d x)->Pl (d+1) (.lst ws)
def atN {ws:Zp}(h:k<ws.length):L2.atI ws (k:Int)=some (ws.getD k .non):=ar (by rw[qA0,qA7 h];rfl)
def oh:∀(d:Nat) (w:W),Pl d w->g9 2 2 (E8 d) [w,w]=.ok (.bl true):=by
 intro d
 induction d with
 |zero=>intro w h;cases h
 | succ d ih=>
  intro w h
  change g9 2 2 (J2 (g9 2 2 (E8 d))) [w,w]=_;generalize g9 2 2 (E8 d)=F at ih
  have e:∀(ws:Zp) N mg mc me ρ,ws.length<=1000->(∀k,k<ws.length->ZX N ρ mg (.int (k:Nat)) λ a3=>mc a3=.ok false) ->
    l6 N mg mc me ((List.range ws.length).map λk=>W.int (k:Nat)) ρ=.ok (.lst []):=λws N mg mc me ρ hl h=>by
   rw [D9 (λk=>W.int (k:Nat)) _ (λ_=>false) _ ρ (by simpa using hl) λk hk=>by
    obtain ⟨a3,e1,e2⟩:=h k (by simpa using hk);show ⟨a3,e1,e2,λq=>by cases q⟩]
   simp
  have a4:decide (((0:Nat):Int)=0)=true:=rfl;have b1:t7 true (.bl true) (.bl true)=.ok (.bl false):=rfl;have b2:t7 true (.bl false) (.bl false)=.ok (.bl false):=rfl;have dd:∀n:Int,decide (n=n)=true:=λn=>qQ7 rfl;have gm:∀{ws:Zp}{k:Nat},k<ws.length->ws.getD k .non∈ws:=λhk=>by rw[qA0,qA7 hk];show qJ7 _
  cases h with
  | @int _ i=>
   have I:fIsi [.int i,.ty "tuple"]=.ok (.bl false):=rfl;have i2:fIsi [.int i,.ty "list"]=.ok (.bl false):=rfl;have i3:fIsi [.int i,.ty "int"]=.ok (.bl true):=rfl;have i4:fIsi [.int i,.ty "bool"]=.ok (.bl false):=rfl;have f1:fEq false (.int i) (.int i)=.ok (.bl true):=nO (S2 8 i);exists rpB,J2,I,i2,i3,i4,f1
  | @str _ s hs=>
   have I:fIsi [.str s,.ty "tuple"]=.ok (.bl false):=rfl;have i2:fIsi [.str s,.ty "list"]=.ok (.bl false):=rfl;have i3:fIsi [.str s,.ty "int"]=.ok (.bl false):=rfl;have i4:fIsi [.str s,.ty "str"]=.ok (.bl true):=rfl;have f1:fEq false (.str s) (.str s)=.ok (.bl true):=nO (show PyData.strOk s=true from hs);exists rpB,J2,I,i2,i3,i4,f1
  | @tup _ ws hl hw=>
   have I:fIsi [.tup ws,.ty "tuple"]=.ok (.bl true):=rfl;have i2:fIsi [.tup ws,.ty "list"]=.ok (.bl false):=rfl;have g1:∀r:R Bool,TP.rOr (.ok true) r=.ok true:=λr=>rfl;exists rpB,J2,I,i2,b1,b2,g1,dd;rw[e ws _ _ _ _ _ hl]
   .exists a4
   .intro k hk;have a1:=atN hk;have k1:=ih _ (hw _ (gm hk));refine ⟨_,rfl,?_⟩;exists a1,k1
  | @lst _ ws hl hw=>
   have I:fIsi [.lst ws,.ty "tuple"]=.ok (.bl false):=rfl;have i2:fIsi [.lst ws,.ty "list"]=.ok (.bl true):=rfl;exists rpB,J2,I,i2,b1,b2,dd;rw[e ws _ _ _ _ _ hl]
   .exists a4
   .intro k hk;have a1:=atN hk;have k1:=ih _ (hw _ (gm hk));refine ⟨_,rfl,?_⟩;exists a1,k1
def nz (h6:s.length<=6)(hl:∀x∈ss,x.length=s.length):K6 [tI s,lS ss]=.ok (.bl (k9 s ss)):=by
 have fin:Ok (K6 [tI s,lS ss]) λv=>v=.bl (k9 s ss):=by
  exists rpB,cU;refine n4 (t6 (λi ρ=>∃u,ρ = [.par (tI s),.par (lS ss),u]/\∀k,k<i->g5 s (ss.getD k [])=false) ⟨_,rfl,λk hk=>absurd hk (qC9 _)⟩ ?_ ?_)
  .rintro i u ρ hu ⟨_,rfl,I⟩;obtain ⟨hi,rfl⟩:=S5 hu;have hc:=eX (a:=s) (b:=ss.getD i []) h6 (hl _ (aR hi));refine ⟨_,rfl,?_⟩;exists hc;refine E5 (λh=>?_) (λh=>?_)
   .exists rp18;rw[zn hi h]
   .exists rp18;refine ⟨_,rfl,λk hk=>?_⟩;by_cases e:k=i
    .subst e;show h
    .show I k ox
  .rintro ρ ⟨_,rfl,I⟩;rw[qA5]at I;exists rp18;rw[zo I]
 obtain ⟨v,e,rfl⟩:=fin;show e
def AC (L:Zw):Prop:=L.Pairwise λa b=>g5 a b=false/\g5 b a=false
def O3 (L:Zw)(o:Zk):List Zk:=if k9 o L then L else L.filter (λx=>!g5 x o) ++ [o]
def pK (h:x∈O3 L o):x∈L\/x=o:=by
 unfold O3 at h
 split at h
 .show .inl h
 .rcases qC0.mp h with h|h
  .show .inl ((qG3.mp h).1)
  .show .inr (by simpa using h)
def BX (L:Zw)(o:Zk):(O3 L o).length<=L.length+1:=by
 unfold O3
 split
 .omega
 .have:=qI4 (λx=>!g5 x o) L
  rw[qC4,qG6];omega
def BW (L:Zw)(o:Zk):∃y∈O3 L o,g5 o y=true:=by
 unfold O3
 split
 .rename_i h
  show qD5.mp h
 .show ⟨o,ZW,cI o⟩
def jA (hL:∀y∈L,y.length=n)(hx:x.length=n)(h:∃y∈L,g5 x y=true):∃y∈O3 L o,g5 x y=true:=by
 obtain ⟨y,I,c⟩:=h;unfold O3
 split
 .show ⟨y,I,c⟩
 .cases q:g5 y o with
  |true=>show ⟨o,ZW,aM (by rw[hx,hL y I]) c q⟩
  |false=>show ⟨y,qC0.mpr (.inl (qG3.mpr ⟨I,by simp [q]⟩)),c⟩
def GL (h:AC L):AC (O3 L o):=by
 unfold O3
 split
 .show h
 .rename_i hl
  refine qF0.mpr ⟨h.sublist List.filter_sublist,qK7 _ _,λa ha b hb=>?_⟩;have hb:b=o:=by simpa using hb
  subst hb;have I:=(qG3.mp ha);refine ⟨by simpa using I.2,?_⟩;cases q:g5 b a with
  |false=>rfl
  |true=>show absurd (qD5.mpr ⟨a,I.1,q⟩) hl
def IM (h:AC L)(hl:∀x∈L,x.length=n):Bas n (E9 L):=by
 have hp:=O9 L;have ha:AC (E9 L):=List.Perm.pairwise hp.symm h λI=>by obtain ⟨x,y⟩:=I;show ⟨y,x⟩
 show ⟨λb hb=>hl b (hp.mem_iff.mp hb),eF L,ha.imp λa3=>by obtain ⟨_,y⟩:=a3;show y⟩
def Pt.snoc:∀{n:Nat}{l r:Zk},Pt es n l r->Pt (es ++ [e]) n l r
 |_,_,_,.zero=>.zero
 |_,_,_,.succ h p=>.succ (by rw[qE8 (qA6.mp h).1];show h) p.snoc
def Pt.last {k:Nat}(p:Pt es a l r):Pt (es ++ [(B,a,k)]) (es.length+1) (((es.length+1:Nat):Int)::l) (r ++ [(k:Int)]):=
 .succ (e:=(B,a,k)) ZW p.snoc
def waysP (es:List Ent)(WS:Zw):Prop:=WS.length=es.length+1/\∀n,n<=es.length->∃l,Pt es n l (WS.getD n [])
def waysP.snoc {k:Nat}(h:waysP es WS)(ha:a<=es.length):waysP (es ++ [(B,a,k)]) (WS ++ [WS.getD a [] ++ [(k:Int)]]):=by
 refine ⟨by simp [h.1],λn hn=>?_⟩;rw[qC4,qG6]at hn;by_cases e:n=es.length+1
 .subst e;obtain ⟨l,p⟩:=h.2 a ha;refine ⟨((es.length+1:Nat):Int)::l,?_⟩;rw[qA0,qG8 (by rw[h.1];show qB2 _),h.1,Nat.sub_self];show p.last
 .obtain ⟨l,p⟩:=h.2 n ox;refine ⟨l,?_⟩;rw[qA0,qE8 (by rw[h.1];omega),<- qA0];show p.snoc
def waysP.start:waysP [] [[]]:=⟨rfl,λn hn=>by
 have:n=0:=by simpa using hn
 subst this;show ⟨[0],.zero⟩⟩
def fsT (ms:List Mv)(s:Zk)(i:Nat):List Nat:=(List.range i).filter λk=>g5 s (mvN ms k).1
def fsT_mem:k∈fsT ms s i↔k<i/\g5 s (mvN ms k).1=true:=by
 unfold fsT;rw[qG3,qG2]
def Ci (ms:List Mv)(s:Zk)(i:Nat):fsT ms s (i+1)=if g5 s (mvN ms i).1=true then fsT ms s i ++ [i] else fsT ms s i:=by
 unfold fsT;rw[qV2,List.filter_append];cases q:g5 s (mvN ms i).1 <;> simp [q]
def Do {WS:Zw}(h:k<WS.length):L2.atI (WS.map lI) (k:Int)=some (lI (WS.getD k [])):=ar (by rw[qC1,qA0,qA7 h];rfl)
def uM {most:Nat}(h6:b.length<=6)(hm:∀m∈ms,okN b.length m)(h8:ms.length<=8)(h1:1<=most)(c4:most<=100):Ok (ag [tI b,lM ms,.int (most:Int)]) λw=>∃(es:List Ent) (WS:Zw) (wh:Bool),w=.tup [lS (stS b es),.lst (WS.map lI),.bl wh]/\FlEnd b ms most es wh/\waysP es WS:=by
 have ct:=o6 (u7 b);exists rpB,dL,ct;refine n4 (M1 ?_);refine O2 (λm ρ=>∃(es:List Ent) (WS:Zw) (at_:Nat) (a6 a7:Sl),ρ = [.par (tI b),.par (lM ms),.par (.int (most:Int)),.own ((stS b es).map tI),.own (WS.map lI),.val (.int (at_:Int)),a6,a7]/\FlK b ms es at_ []/\waysP es WS/\at_<=es.length+1/\es.length+1<=most/\m+at_=102) ?_ 102 _ ⟨[],[[]],0,.un,.un,rfl,FlK.start b ms,waysP.start,ox,by simpa using h1,rfl⟩;rintro m ρ ⟨es,WS,at_,a6,a7,rfl,hK,hW,c3,hmo,cg⟩;have c2:=X8 b es;by_cases bc:at_<es.length+1
 .refine ⟨true,?_,?_⟩
  .exists rp18;rw[show decide ((at_:Int)<((stS b es).length:Int))=true from qQ7 ox]
  rw[qA2 rfl];have bb:=hK.slen bc;exists rp18;generalize hs:sA b es at_=s at *
  refine t6 (λi ρ=>∃(I:List Ent) (a3:Zw) (a6 a7:Sl),ρ = [.par (tI b),.par (lM ms),.par (.int (most:Int)),.own ((stS b I).map tI),.own (a3.map lI),.val (.int (at_:Int)),a6,a7]/\FlK b ms I at_ (fsT ms s i)/\waysP I a3/\at_<I.length+1/\I.length+1<=most/\sA b I at_=s) ⟨es,WS,a6,a7,rfl,hK,hW,bc,hmo,hs⟩ ?_ ?_
  .rintro i u ρ hu ⟨I,a3,a6,a7,rfl,ab,a5,a4,a9,a8⟩;obtain ⟨hi,rfl⟩:=bi hu;have c1:=X8 b I;have e1:=FW (ms:=ms) hi;have hok:=hm _ (FV hi);have e2:L2.atI ((stS b I).map tI) (at_:Int)=some (tI s):=by
    rw[atS ox];rw[<- a8];rfl
   have a0:L2.atI [tI (mvN ms i).1,tI (mvN ms i).2] 0=some (tI (mvN ms i).1):=rfl;have k1:=eX (a:=s) (b:=(mvN ms i).1) ox (by rw[hok.1,bb]);have k2:=im (s:=s) (m:=mvN ms i) ox (by rw[bb];show hok);have hT:∀t∈fsT ms s i,t<i:=λt ht=>(fsT_mem.mp ht).1;have bq:∀j,j<i->abN b ms I at_ j=true->j∈fsT ms s i:=λj hj b0=>by
    unfold abN at b0;rw[a8]at b0;show fsT_mem.mpr ⟨hj,b0⟩
   have b3:bhN b ms I at_ i=C0 s (mvN ms i):=by unfold bhN;rw[a8]
   have hbl:(C0 s (mvN ms i)).length=b.length:=by rw[cK];show bb
   have b5:=Ci ms s i;have b4:abN b ms I at_ i=g5 s (mvN ms i).1:=by unfold abN;rw[a8]
   have e3:=Do (WS:=a3) (k:=at_) (by rw[a5.1];show a4);have c5:=a5.1;have c0:(a3.getD at_ []).length<=100:=by
    obtain ⟨l,p⟩:=a5.2 at_ ox
    have:=(Pt.len ab.par p).2
    omega
   have fi:=nN true (C0 s (mvN ms i)) (stS b I);generalize hB:C0 s (mvN ms i)=B at *
   refine ⟨_,rfl,?_⟩;exists e2,e1,a0,k1;refine E5 (λh=>?_) (λh=>?_)
   .exists e2,e1,k2,fi;refine E5 (λh2=>?_) (λh2=>?_)
    .have h2:B∉stS b I:=by simpa using h2
     exists rp18;refine J1 (λh3=>?_) (λh3=>?_)
     .have h3:=qQ9 h3;exists rp18;show ⟨I,a3,false,rfl,⟨a9,.inr ⟨rfl,ox,at_,_,i,ab,a4,hi,hT,by rw[b4];show h,by rw[b3];show h2⟩⟩,a5⟩
     .have h3:=qR5 h3;have cB:=o6 (u7 B);exists cB,e3;refine ⟨I ++ [(B,at_,i)],a3 ++ [a3.getD at_ [] ++ [(i:Int)]],.par (.int (i:Int)),.val (tI B),?_,?_,a5.snoc ox,?_,?_,?_⟩
      .simp [stS]
      .rw [b5,qA2 h,<- b3]
       show ab.snoc h8 a4 hi hT bq (by rw[b4];show h) (by rw[b3];show hbl) (by rw[b3];show h2)
      .rw[qC4];omega
      .rw[qC4,qG6];omega
      .rw[iX a4];show a8
    .have h2:B∈stS b I:=by simpa using h2
     exists rp18;show ⟨I,a3,_,_,rfl,by rw[b5,qA2 h];show ab.known h8 hT bq (by rw[b3];show h2),a5,a4,a9,a8⟩
   .exists rp18;show ⟨I,a3,_,_,rfl,by rw[b5,qA4 (by rw[h];show qA3)];show ab,a5,a4,a9,a8⟩
  .rintro ρ ⟨I,a3,a6,a7,rfl,ab,a5,a4,a9,a8⟩;rw[qA5,qF1]at ab;exists rp18;refine ⟨m-1,ox,I,a3,at_+1,a6,a7,?_,ab.next λk hk b0=>?_,a5,ox,a9,ox⟩
   .rw[show ((at_+1:Nat):Int)=(at_:Int)+1 by omega]
   .unfold abN at b0;rw[a8]at b0;show fsT_mem.mpr ⟨hk,b0⟩
 .refine ⟨false,?_,?_⟩
  .exists rp18;rw[show decide ((at_:Int)<((stS b es).length:Int))=false from qQ6 ox]
  rw[qA4 ZU]
  have:at_=es.length+1:=ox
  subst this;exists rp18;show ⟨es,WS,true,rfl,⟨hmo,.inl ⟨rfl,hK⟩⟩,hW⟩
def xI (h1:1<=n)(h6:n<=6)(hm:∀m∈ms,okM n m)(hB:Bas n ss)(cw:ms.length<=8)(cp:ss.length<=100):U4 [lM ms,lS ss]=.ok (lS (E6 (ss++t9 ms ss))):=by
 have fin:Ok (U4 [lM ms,lS ss]) λv=>v=lS (E6 (ss++t9 ms ss)):=by
  have cj:AC ss:=by
   have:=hB.a1
   have h2:=hB.a2;show List.Pairwise.and h2 this
  exists rpB,fu;refine n4 (t6 (λi ρ=>∃(L:Zw) (a3 a4 a5:Sl),ρ = [.par (lM ms),.par (lS ss),.own (L.map tI),a3,a4,a5]/\AC L/\(∀x∈L,x.length=n)/\(∀x∈L,x∈ss++t9 ms ss)/\(∀x∈ss,∃y∈L,g5 x y=true)/\(∀k,k<i->∀m∈ms,∃y∈L,g5 (srcL (ss.getD k []) m.1 m.2) y=true)/\L.length<=100+i*8)
   ⟨ss,_,_,_,rfl,cj,hB.len,λx hx=>qC0.mpr (.inl hx),λx hx=>⟨x,hx,cI x⟩,λk hk=>absurd hk (qC9 _),ox⟩ ?_ ?_)
  .rintro i u ρ hu ⟨L,a3,a4,a5,rfl,ab,I,a8,a9,a6,b0⟩;obtain ⟨hi,rfl⟩:=S5 hu;have bq:=hB.len _ (aR hi);have bc:=aR hi;generalize hs:ss.getD i []=s at bq bc ⊢
   refine ⟨_,rfl,?_⟩;exists rp18;refine mI (λj ρ=>∃(L:Zw) (a4 a5:Sl),ρ = [.par (lM ms),.par (lS ss),.own (L.map tI),.par (tI s),a4,a5]/\AC L/\(∀x∈L,x.length=n)/\(∀x∈L,x∈ss++t9 ms ss)/\(∀x∈ss,∃y∈L,g5 x y=true)/\(∀k,k<i->∀m∈ms,∃y∈L,g5 (srcL (ss.getD k []) m.1 m.2) y=true)/\(∀q m,q<j->ms[q]?=some m->∃y∈L,g5 (srcL s m.1 m.2) y=true)/\L.length<=100+i*8+j)
    ⟨L,a4,a5,rfl,ab,I,a8,a9,a6,λq m hq=>absurd hq (qC9 _),ox⟩ ?_ ?_
   .rintro j u ρ hu ⟨L,a4,a5,rfl,ab,I,a8,a9,a6,bb,b0⟩;obtain ⟨m,a7,c4,rfl⟩:=bw hu;have hj:j<ms.length:=(qA6.mp c4).1;have c2:(srcL s m.1 m.2).length=n:=by rw[cf,bq]
    have k1:=uI (s:=s) (m:=m) ox;have ck:=(hm m a7).1;have cm:=(hm m a7).2;have k2:=nz (s:=srcL s m.1 m.2) (ss:=L) ox (λx hx=>by rw[c2];show I x hx);have hlen:=BX L (srcL s m.1 m.2);have c3:srcL s m.1 m.2∈ss++t9 ms ss:=qC0.mpr (.inr (qS8.mpr ⟨m,a7,qB0.mpr ⟨s,bc,rfl⟩⟩));have key:∀L',L'=O3 L (srcL s m.1 m.2)->AC L'/\(∀x∈L',x.length=n)/\(∀x∈L',x∈ss++t9 ms ss)/\(∀x∈ss,∃y∈L',g5 x y=true)/\(∀k,k<i->∀m∈ms,∃y∈L',g5 (srcL (ss.getD k []) m.1 m.2) y=true)/\(∀q m,q<j+1->ms[q]?=some m->∃y∈L',g5 (srcL s m.1 m.2) y=true)/\L'.length<=100+i*8+(j+1):=λL' e=>by
     subst e;refine ⟨GL ab,λx hx=>?_,λx hx=>?_,λx hx=>jA I (hB.len x hx) (a9 x hx),λk hk m' b4=>jA I ?_ (a6 k hk m' b4),λq m' hq b4=>?_,ox⟩
     .rcases pK hx with h|rfl
      .show I x h
      .show c2
     .rcases pK hx with h|rfl
      .show a8 x h
      .show c3
     .rw[cf];show hB.len _ (aR ox)
     .by_cases e:q=j
      .subst e;rw[c4]at b4;cases b4;show BW _ _
      .show jA I (by rw[cf,bq]) (bb q m' ox b4)
    have c0:L2.atI [tI m.1,tI m.2] 0=some (tI m.1):=rfl;have c1:L2.atI [tI m.1,tI m.2] 1=some (tI m.2):=rfl;generalize srcL s m.1 m.2=o at *
    have cg:L.length<=1000:=ox;have e:∀N mg mc me ρ,(∀x∈L,ZX N ρ mg (tI x) λ b5=>mc b5=.ok (!g5 x o)/\(me b5=.ok (tI x))) ->
      l6 N mg mc me (L.map tI) ρ=.ok (lS (L.filter λx=>!g5 x o)):=λN mg mc me ρ h=>
     D9 tI tI (λx=>!g5 x o) L ρ cg λx hx=>by
      obtain ⟨b5,e1,e2,e3⟩:=h x hx;show ⟨b5,e1,e2,λ_=>e3⟩
    refine ⟨_,rfl,?_⟩;exists rp18;rw[k1];rotate_left
    .intro k hk;refine ⟨_,rfl,?_⟩;exists c0,c1
    exists k2;refine E5 (λh=>?_) (λh=>?_)
    .have h:k9 o L=false:=by simpa using h
     have ei:O3 L o=L.filter (λx=>!g5 x o) ++ [o]:=by unfold O3;rw[h];rfl
     have cn:=qI4 (λx=>!g5 x o) L;exists rp18;rw[e]
     .exists rp18;show ⟨_,_,_,rfl,key _ ei.symm⟩
     .intro x hx;have k3:=eX (a:=x) (b:=o) (by rw[I x hx];show h6) (by rw[c2,I x hx]);refine ⟨_,rfl,?_⟩;exists k3
    .have h:k9 o L=true:=by simpa using h
     have ei:O3 L o=L:=by unfold O3;rw[h];rfl
     exists rp18;show ⟨_,_,_,rfl,key _ ei.symm⟩
   .rintro ρ ⟨L,a4,a5,rfl,ab,I,a8,a9,a6,bb,b0⟩;rw[qA5]at bb b0;refine ⟨L,_,_,_,rfl,ab,I,a8,a9,λk hk m a7=>?_,ox⟩;by_cases e:k=i
    .subst e;rw[hs];obtain ⟨q,hq,eq⟩:=qD1.mp a7;show bb q m hq (by rw[qA7 hq,eq])
    .show a6 k ox m a7
  .rintro ρ ⟨L,a3,a4,a5,rfl,ab,I,a8,a9,a6,b0⟩;rw[qA5]at a6 b0;have k1:=pO (ss:=L) ox (λz hz e=>by have:=I z hz;rw[e]at this;simp at this;omega);have hD:∀x∈ss++t9 ms ss,x.length=n:=fh hB.len;obtain ⟨b1,b2,b3,_⟩:=bv hD;have hp:=O9 L;have c5:∀x∈ss++t9 ms ss,∃y∈L,g5 x y=true:=λx hx=>by
    rcases qC0.mp hx with h|h
    .show a9 x h
    .obtain ⟨m,a7,h⟩:=qS8.mp h;obtain ⟨s,hs,rfl⟩:=qB0.mp h;obtain ⟨k,hk,e⟩:=qD1.mp hs
     have:=a6 k hk m a7
     rw[qA0,qA7 hk,e]at this;show this
   have ee:E9 L=E6 (ss++t9 ms ss):=vV (IM ab I) b1 (λa ha=>b3 a (a8 a (hp.mem_iff.mp ha))) λb hb=>by
    obtain ⟨y,hy,c⟩:=c5 b (b2 b hb);show ⟨y,hp.mem_iff.mpr hy,c⟩
   exists k1;rw[ee]
 obtain ⟨v,e,rfl⟩:=fin;show e
def lC (I:w.length<=6)(hl:w.length=c.length)(hb:cM c):J7 [tI w,tI c]=.ok (.int (dt c.length (ent w) (ent c))):=by
 have e:=wK (n:=w.length) (λj=>w.getD j 0*c.getD j 0) I;have gs:K4 (vec w.length λj=>w.getD j 0*c.getD j 0)=dt c.length (ent w) (ent c):=by rw[<- hl];show df _ _
 exists rpB,dJ;rw[e]
 .exists gs
 .intro j hj;have m1:=hU (i:=w.getD j 0) (hb j ox);refine ⟨_,rfl,?_⟩;exists m1
def BR (hk:Ker n ms (ent w))(hm:m∈ms):dt n (ent w) (ent m.1)=dt n (ent w) (ent m.2):=by
 have h:=CG n (ent w) (ent m.1) (stp m);rw[hk m hm]at h;have e:dt n (ent w) (λp=>ent m.1 p+stp m p)=dt n (ent w) (ent m.2):=M6 λp _=>by
  change _*(m.1.getD p 0+(m.2.getD p 0-m.1.getD p 0))=_*m.2.getD p 0;rw[show m.1.getD p 0+(m.2.getD p 0-m.1.getD p 0)=m.2.getD p 0 by omega]
 rw[e]at h;omega
def Ie (h:cc c):cM c:=λp I=>by have:=memD h I;omega
def BL (h6:n<=6)(hm:∀m∈ms,okC n m)(hw:w.length=n)(hk:Ker n ms (ent w)):N3 [lM ms,tI w]=.ok (.bl true):=by
 have fin:Ok (N3 [lM ms,tI w]) λv=>v=.bl true:=by
  exists rpB,bD;refine n4 (t6 (λi ρ=>∃x,ρ = [.par (lM ms),.par (tI w),x]) ⟨_,rfl⟩ ?_ ?_)
  .rintro i u ρ hu ⟨x,rfl⟩;obtain ⟨m,I,_,rfl⟩:=bw hu;have hok:=hm m I;have c0:L2.atI [tI m.1,tI m.2] 0=some (tI m.1):=rfl;have c1:L2.atI [tI m.1,tI m.2] 1=some (tI m.2):=rfl;have k1:=lC (w:=w) (c:=m.1) ox (by rw[hok.1];show hw) (Ie hok.2.2.1);have k2:=lC (w:=w) (c:=m.2) ox (by rw[hok.2.1];show hw) (Ie hok.2.2.2);rw[hok.1,BR hk I]at k1;rw[hok.2.1]at k2;have fe:=R6 true (dt n (ent w) (ent m.2)) (dt n (ent w) (ent m.2));have dd:decide (dt n (ent w) (ent m.2)=dt n (ent w) (ent m.2))=true:=qQ7 rfl;refine ⟨_,rfl,?_⟩;exists c0,c1,k1,k2,fe,dd;show ⟨_,rfl⟩
  .rintro ρ ⟨x,rfl⟩;exists rp18
 obtain ⟨v,e,rfl⟩:=fin;show e
def fbW:Option Zk->W
 |some w=>tI w
 |none=>.non
def vj (h6:s.length<=6)(hbl:b.length=s.length)(hB:gC s.length ms rs)(h1:cM s)(h2:cM b):p7 [tI b,lM ms,tI s]=.ok (fbW (rs.find? (ulB b s))):=by
 have hk:=hB.call;have a6:=hB.six;have a4:(b.length:Int)=(s.length:Int):=ox;have a5:W4 false (ms.map mW)=.ok (tM_ ms):=bP (hC ms);have fin:Ok (p7 [tI b,lM ms,tI s]) λv=>v=fbW (rs.find? (ulB b s)):=by
  exists rpB,Q7,a5,a4,hk;refine n4 (t6 (λi ρ=>∃x,ρ = [.par (tI b),.par (lM ms),.par (tI s),x]/\∀k,k<i->ulB b s (rs.getD k [])=false) ⟨_,rfl,λk hk=>absurd hk (qC9 _)⟩ ?_ ?_)
  .rintro i u ρ hu ⟨x,rfl,I⟩;obtain ⟨hi,rfl⟩:=S5 hu;have hl:=hB.len _ (aR hi);have fs:=vk (f:=ulB b s) hi;generalize hw:rs.getD i []=w at hl fs ⊢
   have k1:=lC (w:=w) (c:=s) ox hl h1;have k2:=lC (w:=w) (c:=b) ox ox h2;rw[hbl]at k2;have cw:=o6 (u7 w);have a3:ulB b s w=!decide (dt s.length (ent w) (ent b)=dt s.length (ent w) (ent s)):=by
    unfold ulB;congr 1;rw[qH4,qR6,qR6];show eq_comm
   rw[a3]at fs;refine ⟨_,rfl,?_⟩;exists k1,k2,R6;refine E5 (λh=>?_) (λh=>?_)
   .exists cw;rw[fs h I];rfl
   .exists rp18;refine ⟨_,rfl,λk hk=>?_⟩;by_cases e:k=i
    .subst e;rw[hw,a3];show h
    .show I k ox
  .rintro ρ ⟨x,rfl,I⟩;rw[qA5]at I;exists rp18;rw[vm I];rfl
 obtain ⟨v,e,rfl⟩:=fin;show e
def sS (c ps:Zk):Int:=K4 (ps.map λp=>c.getD p.toNat 0)
def mq (hn:nn c):∀ps:List Int,0<=sS c ps/\(t5 c ps=true↔0<sS c ps)
 | []=>⟨qH9 0,Iff.intro (λh=>absurd h qA3) λh=>absurd h (show ¬ (0:Int)<0 by decide)⟩
 | p::ps=>by
  have I:=mq hn ps;have h0:=lr hn p.toNat;have e:sS c (p::ps)=c.getD p.toNat 0+sS c ps:=rfl;have e2:t5 c (p::ps)=(decide (0<c.getD p.toNat 0)||t5 c ps):=rfl;rw[e,e2,Bool.or_eq_true,I.2,qR6]
  have:=I.1
  omega
def mn (hn:nn c):decide (0<sS c ps)=t5 c ps:=by
 rw[qH4,qR6];show (mq hn ps).2.symm
def DX (hn:nn c):decide (sS c ps=0)=!t5 c ps:=by
 have:=mq hn ps
 cases q:t5 c ps with
 |true=>rw[q]at this;have:=this.2.mp rfl;show qQ6 ox
 |false=>rw[q]at this;have h:¬ 0<sS c ps:=λz=>qA3 (this.2.mpr z);show qQ7 ox
def eG (c ps:Zk)(I:ps.length<=6):∀N mg me ρ (h:∀p∈ps,ZX N ρ mg (.int p) λ ρ1=>me ρ1=.ok (.int (c.getD p.toNat 0))),l6 N mg yes me (ps.map W.int) ρ=.ok (lI (ps.map λp=>c.getD p.toNat 0)):=λN mg me ρ h=>by
 rw[o9 (λp=>W.int (c.getD p.toNat 0)) _ _ ρ ox h];unfold lI;rw[qC8];rfl
def yJ:p∈TP.addI ks k↔p∈ks\/p=k:=by
 unfold TP.addI
 split
 .rename_i h
  show ⟨.inl,λq=>q.elim id λe=>e ▸ h⟩
 .simp
def yK:(TP.addI ks k).length<=ks.length+1:=by
 unfold TP.addI
 split
 .omega
 .simp
def sdB (side:Int)(qs:Zk)(m:Mv):Bool:=if side=0 then brB qs m else brB qs (swp m)
def subs (ps:Zk):List Zk:=ps.foldl (λL p=>L++L.map (· ++ [p])) [[]]
def jQ (ps:Zk)(p:Int):subs (ps ++ [p])=subs ps++(subs ps).map (· ++ [p]):=by unfold subs;rw[List.foldl_append];rfl
def fM:∀(k:Nat) (ps:Zk),ps.length=k->(∀z,z∈subs ps↔z.Sublist ps)/\(subs ps).length=2^k
 | 0,ps,h=>by
  have:ps = []:=qT7.mp h
  subst this;refine ⟨λz=>?_,rfl⟩
  change z ∈ [[]]↔_;rw[qC6,qZ1]
 | k+1,ps,h=>by
  obtain ⟨qs,p,rfl⟩:∃qs p,ps=qs ++ [p]:=⟨ps.dropLast,ps.getLast (by intro e;rw[e]at h;cases h),(List.dropLast_concat_getLast _).symm⟩;have hq:qs.length=k:=by simpa using h
  obtain ⟨I,il⟩:=fM k qs hq;rw[jQ];refine ⟨λz=>?_,by rw[qC4,qA5,il,Nat.pow_succ];omega⟩;rw[qC0,qB0,List.sublist_append_iff];constructor
  .rintro (h|⟨y,hy,rfl⟩)
   .show ⟨z,[],(qG0 z).symm,(I z).mp h,List.nil_sublist _⟩
   .show ⟨y,[p],rfl,(I y).mp hy,List.Sublist.refl _⟩
  .rintro ⟨l1,l2,rfl,h1,h2⟩;cases h2 with
   |cons _ h=>rw[qZ1.mp h,qG0];show .inl ((I l1).mpr h1)
   |cons_cons _ h=>rw[qZ1.mp h];show .inr ⟨l1,(I l1).mpr h1,rfl⟩
def up_eq {b:Zk}(ha:a.Pairwise (·<·))(hb:b.Pairwise (·<·))(h:∀p,p∈a↔p∈b):a=b:=
 qM7 (le:=(·<·)) (λa b _ _ x y=>absurd x ox) ha hb ((qX5 (ha.imp λh=>ox) (hb.imp λh=>ox)).mpr h)
def Cw (h:xs.length<=6):fCatT (tI xs) (.tup [.int p])=.ok (tI (xs ++ [p])):=nP (ys:=[p]) (by rw[qG6];omega)
def fw (hs:(side=0/\ms'=ms)\/(side=1/\ms'=ms.map swp))(h4:n<=4)(cw:ps.length<=4)(hm:∀m∈ms,okN n m)(hp:okP n ps)(bc:ps.Pairwise (·<·))(hG:GrP ms' ps qs):F1 [lM ms,tI ps,.int side]=.ok (tI qs):=by
 have b4:side=0\/side=1:=by rcases hs with ⟨h,_⟩|⟨h,_⟩ <;> omega
 have b0:∀z:List Int,(∀m∈ms,sdB side z m=false)↔cG ms' z:=λz=>by
  rcases hs with ⟨rfl,rfl⟩|⟨rfl,rfl⟩
  .refine ⟨λh m hm=>?_,λh m hm=>?_⟩
   .have:=h m hm;unfold sdB at this;rw[qA2 rfl]at this;show this
   .unfold sdB;rw[qA2 rfl];show h m hm
  .refine ⟨λh m hm=>?_,λh m hm=>?_⟩
   .obtain ⟨m',a3,rfl⟩:=qB0.mp hm
    have:=h m' a3;unfold sdB at this;rw[qA4 ZU]at this;show this
   .unfold sdB;rw[qA4 ZU];show h _ (qB0.mpr ⟨m,hm,rfl⟩)
 have fin:Ok (F1 [lM ms,tI ps,.int side]) λv=>v=tI qs:=by
  exists rpB,aE;refine n4 (t6 (λi ρ=>∃(x:Sl),ρ = [.par (lM ms),.par (tI ps),.par (.int side),.own ((subs (ps.take i)).map tI),x,.un,.un,.un,.un]/\TP.isDik x=false) ⟨_,rfl,rfl⟩ ?_ ?_)
  .rintro i u ρ hu ⟨x,rfl,hx⟩;obtain ⟨hi,rfl⟩:=uD hu;have cx:(ps.take i).length=i:=by rw[qG1];omega
   obtain ⟨I,hlen⟩:=fM i (ps.take i) cx;have cy:(2:Nat)^i<=2^4:=qH0 ZU ox;have cn:ps.take (i+1)=ps.take i ++ [ps.getD i 0]:=by
    rw[qK0,qA7 hi,qA0,qA7 hi];rfl
   have bb:=jQ (ps.take i) (ps.getD i 0);rw[<- cn]at bb;generalize ps.getD i 0=p at *
   have cm:∀z∈subs (ps.take i),z.length<=6:=λz hz=>by have:=((I z).mp hz).length_le;omega
   generalize subs (ps.take i)=L at *
   have e:∀N mg me ρ (h:∀z∈L,ZX N ρ mg (tI z) λ ρ1=>me ρ1=.ok (tI (z ++ [p]))),l6 N mg yes me (L.map tI) ρ=.ok (lS (L.map (· ++ [p]))):=λN mg me ρ h=>by
    rw[o9 (λz=>tI (z ++ [p])) _ _ ρ ox h]
    change _=R.ok (W.lst ((L.map (· ++ [p])).map tI));rw[qC8];rfl
   refine ⟨_,rfl,?_⟩;exists rp18;rw[e];rotate_left
   .intro z hz;have k1:=Cw (p:=p) (cm z hz);refine ⟨_,rfl,?_⟩;exists k1
   have d6:(L.map (· ++ [p])).length=L.length:=qA5 _;exists rp18;show ⟨_,by rw[bb,qD0],rfl⟩
  rintro ρ ⟨x,rfl,hx⟩;rw[qA5,qI7];obtain ⟨I,hlen⟩:=fM ps.length ps rfl;have cy:(2:Nat)^ps.length<=2^4:=qH0 ZU cw;have cp:∀z∈subs ps,okP n z:=λz hz=>⟨λp q=>hp.1 p (((I z).mp hz).subset q),qA8 ((I z).mp hz).length_le ox⟩;have cg:∀p,(∃z∈subs ps,(∀m∈ms,sdB side z m=false)/\p∈z)↔p∈qs:=λp=>by
   constructor
   .rintro ⟨z,hz,hd,d3⟩;show hG.2.2 z (λq hq=>((I z).mp hz).subset hq) ((b0 z).mp hd) p d3
   .show λh=>⟨qs,(I qs).mpr hG.1,(b0 qs).mpr hG.2.1,h⟩
  generalize subs ps=A at *
  exists rp18;refine t6 (λi ρ=>∃(ks:Zk) (a4 a6 a7 a8:Sl),ρ = [.par (lM ms),.par (tI ps),.par (.int side),.val (lS A),a4,.dik ks,a6,a7,a8]/\TP.isDik a4=false/\TP.isDik a6=false/\TP.isDik a7=false/\TP.isDik a8=false/\ks.length<=6*i/\∀p,p∈ks↔∃z∈A.take i,(∀m∈ms,sdB side z m=false)/\p∈z) ?_ ?_ ?_
  .show ⟨[],_,_,_,_,rfl,hx,rfl,rfl,rfl,qC7 _,λp=>⟨λh=>(nomatch h),λc2=>by obtain ⟨s,hs,_⟩:=c2;show (nomatch hs)⟩⟩
  .rintro i u ρ hu ⟨ks,a4,a6,a7,a8,rfl,b3,d2,d5,c5,d1,hk⟩;obtain ⟨hi,rfl⟩:=S5 hu;have c4:=aR hi;have et:∀s,s∈A.take (i+1)↔s∈A.take i\/s=A.getD i []:=λs=>by
    have:A[i]?=some (A.getD i []):=by rw[qA0];simp [hi]
    rw[qK0,this,qC0,Option.toList_some,qC6]
   generalize A.getD i []=z at c4 et ⊢
   have ok:=cp z c4;refine ⟨_,rfl,?_⟩;exists rp18;refine t6 (λj ρ=>∃(v:Bool) (a8:Sl),ρ = [.par (lM ms),.par (tI ps),.par (.int side),.val (lS A),a4,.dik ks,.par (tI z),.val (.bl v),a8]/\TP.isDik a8=false/\(v=true↔∀q m,q<j->ms[q]?=some m->sdB side z m=false)) ⟨true,_,rfl,c5,⟨λ_ q m hq=>absurd hq (qC9 _),λ_=>rfl⟩⟩ ?_ ?_
   .rintro j u ρ hu ⟨v,a8,rfl,a5,hv⟩;obtain ⟨m,cj,c3,rfl⟩:=bw hu;have hok:=hm m cj;obtain ⟨u,y,c1,c0,lu,ly,nu,ny,eb⟩:∃u y:List Int,L2.atI [tI m.1,tI m.2] (1-side)=some (tI u)/\L2.atI [tI m.1,tI m.2] side=some (tI y)/\u.length=n/\y.length=n/\nn u/\nn y/\(t5 u z&&!t5 y z)=sdB side z m:=by
     rcases b4 with rfl|rfl
     .show ⟨m.2,m.1,rfl,rfl,hok.2.1,hok.1,hok.2.2.2,hok.2.2.1,rfl⟩
     .show ⟨m.1,m.2,rfl,rfl,hok.1,hok.2.1,hok.2.2.1,hok.2.2.2,rfl⟩
    have p1:=mn nu (ps:=z);have z1:=DX ny (ps:=z);have y1:=eG u z ok.2;have y2:=eG y z ok.2;have u1:K4 (z.map λp=>u.getD p.toNat 0)=sS u z:=rfl;have u2:K4 (z.map λp=>y.getD p.toNat 0)=sS y z:=rfl;have ck:∀b:Bool,b=sdB side z m->((if b=true then false else v)=true↔∀q m,q<j+1->ms[q]?=some m->sdB side z m=false):=λb hb=>by
     constructor
     .intro h q m' hq a3;cases b with
      |true=>cases h
      | false=>
       by_cases e:q=j
       .subst e;rw[c3]at a3;cases a3;show hb.symm
       .show hv.mp h q m' ox a3
     .intro h
      have:=h j m ox c3
      rw[hb,this];show hv.mpr λq m' hq a3=>h q m' ox a3
    have go:∀{r:R Fl}(b:Bool),b=sdB side z m->r=ifS (.ok b) (sV 7 (mC (.bl false))) sNx [.par (lM ms),.par (tI ps),.par (.int side),.val (lS A),a4,.dik ks,.par (tI z),.val (.bl v),.par (mW m)]->Po r (λρ=>∃(v:Bool) (a8:Sl),ρ = [.par (lM ms),.par (tI ps),.par (.int side),.val (lS A),a4,.dik ks,.par (tI z),.val (.bl v),a8]/\TP.isDik a8=false/\(v=true↔∀q m,q<j+1->ms[q]?=some m->sdB side z m=false)) λv=>v=tI qs:=λ{r} b hb er=>by
     rw[er];have hn:=ck b hb;refine E5 (λh=>?_) (λh=>?_)
     .rw [qA2 h]at hn
      exists rp18;show ⟨false,_,rfl,rfl,hn⟩
     .rw [qA4 (by rw[h];show qA3)]at hn
      exists rp18;show ⟨v,_,rfl,rfl,hn⟩
    refine ⟨_,rfl,?_⟩;exists rp18;rw[y1,y2];rotate_left
    .intro p a9
     have:=ok.1 p a9
     refine ⟨_,rfl,?_⟩;exists c0
    .intro p a9
     have:=ok.1 p a9
     refine ⟨_,rfl,?_⟩;exists c1
    exists u1,u2,p1,z1;show go _ eb rfl
   .rintro ρ ⟨v,a8,rfl,a5,hv⟩;rw[qA5]at hv;have hv:v=true↔∀m∈ms,sdB side z m=false:=hv.trans ⟨λh m hm=>by
     obtain ⟨q,hq,e⟩:=qD1.mp hm;show h q m hq (by rw[qA7 hq,e]),λh q m _ hm=>h m (qD8 hm)⟩
    exists rp18;refine E5 (λh=>?_) (λh=>?_)
    .have hd:=hv.mp h;exists rp18;refine mI (λj ρ=>∃(ls:Zk) (a4:Sl),ρ = [.par (lM ms),.par (tI ps),.par (.int side),.val (lS A),a4,.dik ls,.par (tI z),.val (.bl v),a8]/\TP.isDik a4=false/\ls.length<=6*i+j/\∀p,p∈ls↔p∈ks\/p∈z.take j) ⟨ks,_,rfl,b3,ox,λp=>⟨Or.inl,λq=>q.elim id λq=>(nomatch q)⟩⟩ ?_ ?_
     .rintro j u ρ hu ⟨ls,a4,rfl,ab,b5,hl⟩;obtain ⟨hj,rfl⟩:=uD hu;have es:∀p,p∈z.take (j+1)↔p∈z.take j\/p=z.getD j 0:=λp=>by
       have:z[j]?=some (z.getD j 0):=by rw[qA0];simp [hj]
       rw[qK0,this,qC0,Option.toList_some,qC6]
      have:=ok.2
      generalize z.getD j 0=p at es ⊢
      have nd:TP.noDik [.par (lM ms),.par (tI ps),.par (.int side),.val (lS A),.par (.int p),.un,.par (tI z),.val (.bl v),a8]=true:=by
       simp only [TP.noDik,List.all_cons,List.all_nil,a5,Bool.not_false,qQ2,qL8];rfl
      have bq:=yt ls (.bl true) p 5 [.par (lM ms),.par (tI ps),.par (.int side),.val (lS A),.par (.int p),.dik ls,.par (tI z),.val (.bl v),a8] nd ox;refine ⟨_,rfl,?_⟩;exists bq;refine ⟨_,_,rfl,rfl,?_,λq=>?_⟩
      .have:=yK (ks:=ls) (k:=p)
       omega
      .rw[yJ,hl,es,or_assoc]
     .rintro ρ ⟨ls,a4,rfl,ab,b5,hl⟩;rw[qA5]at b5 hl
      have:=ok.2
      refine ⟨_,_,_,_,_,rfl,ab,rfl,rfl,a5,ox,λp=>?_⟩;rw[hl,hk,qI7];constructor
      .rintro (⟨t,ht,q⟩|q)
       .show ⟨t,(et t).mpr (Or.inl ht),q⟩
       .show ⟨z,(et z).mpr (Or.inr rfl),hd,q⟩
      .rintro ⟨t,ht,q⟩;rcases (et t).mp ht with ht|rfl
       .show Or.inl ⟨t,ht,q⟩
       .show Or.inr q.2
    .exists rp18;refine ⟨_,_,_,_,_,rfl,b3,rfl,rfl,a5,ox,λp=>?_⟩;rw[hk];constructor
     .rintro ⟨t,ht,q⟩;show ⟨t,(et t).mpr (Or.inl ht),q⟩
     .rintro ⟨t,ht,q⟩;rcases (et t).mp ht with ht|rfl
      .show ⟨t,ht,q⟩
      .rw[hv.mpr q.1]at h;cases h
  .rintro ρ ⟨ks,a4,a6,a7,a8,rfl,b3,d2,d5,c5,d1,hk⟩;rw[qA5,qI7]at hk;have ef:ps.filter (λp=>decide (p∈ks))=qs:=by
    refine up_eq (bc.filter _) (bc.sublist hG.1) λp=>?_;rw[qG3,qR6,hk,cg];show ⟨λh=>h.2,λh=>⟨hG.1.subset h,h⟩⟩
   have e2:=rF W.int W.int (λp=>decide (p∈ks)) ps ox;rw[ef]at e2;exists rp18;rw[e2]
   .exists rp18
   .intro p a9;refine ⟨_,rfl,?_⟩;exists rp18
 obtain ⟨v,e,rfl⟩:=fin;show e
def CW (ms:List Mv)(b t:Zk)(most j:Nat):Prop:=(∀i,i<j->k9 b (Bk ms t i)=false/\B1 ms t most "wall" i=.non)/\k9 b (Bk ms t j)=false/\(Bk ms t j).length<=most/\B6 ms (Bk ms t j)=true
def CW.one (h:CW ms b t most j)(g:CW ms b t most k):j=k:=by
 have key:∀{j k:Nat},CW ms b t most j->CW ms b t most k->¬ j<k:=λ{j k} h g q=>by
  have:=(g.1 j q).2
  rw[gu h.2.2.1 h.2.2.2]at this;cases this
 have:=key h g
 have:=key g h
 omega
def xF {most:Nat}(h1:1<=n)(h6:n<=6)(hm:∀m∈ms,okM n m)(a7:ms.length<=8)(hbl:b.length=n)(ht:t.length=n)(hmo:most<=30):Ok (O7 [tI b,lM ms,tI t,.int (most:Int)]) λw=>(w=.non/\∀j,¬ CW ms b t most j)\/∃j,CW ms b t most j/\w=lS (Bk ms t j):=by
 have ct:=o6 (u7 t);exists rpB,Z6,ct;refine n4 (t6 (λi ρ=>∃(s3 a4 a5:Sl),ρ = [.par (tI b),.par (lM ms),.par (tI t),.par (.int (most:Int)),s3,a4,a5]/\(s3=.own ((Bk ms t i).map tI)\/s3=.val (lS (Bk ms t i)))/\∀q,q<i->k9 b (Bk ms t q)=false/\(Bk ms t q).length<=most/\B6 ms (Bk ms t q)=false) ⟨_,_,_,rfl,.inl rfl,λq hq=>absurd hq (qC9 _)⟩ ?_ ?_)
 .rintro i u ρ hu ⟨s3,a4,a5,rfl,hs,I⟩;obtain ⟨hi,rfl⟩:=bi hu;have a3:=au (ms:=ms) ht i;have a6:∀j,CW ms b t most j->¬ j<i:=λj h q=>by
   have:=(I j q).2.2
   rw[h.2.2.2]at this;cases this
  have k0:=nz (s:=b) (ss:=Bk ms t i) ox (λx hx=>by rw[a3.len x hx,hbl]);cases ql:k9 b (Bk ms t i) with
  | true=>
   rw[ql]at k0;have g1:∀r:R Bool,TP.rOr (.ok true) r=.ok true:=λr=>rfl;rcases hs with rfl|rfl
   all_goals
    refine ⟨_,rfl,?_⟩;exists k0,g1;refine .inl λj h=>?_;rcases qF4 j i with q|q|q
    .show a6 j h q
    .have:=h.2.1;rw[q,ql]at this;cases this
    .have:=(h.1 i q).1;rw[ql]at this;cases this
  | false=>
   rw[ql]at k0;by_cases hl:most<(Bk ms t i).length
   .have d1:decide ((most:Int)<((Bk ms t i).length:Int))=true:=qQ7 ox;rcases hs with rfl|rfl
    all_goals
     refine ⟨_,rfl,?_⟩;exists k0,d1;refine .inl λj h=>?_;rcases qF4 j i with q|q|q
     .show a6 j h q
     .have:=h.2.2.1;rw[q]at this;omega
     .have:=(end_non.mp (h.1 i q).2).1;omega
   .have d1:decide ((most:Int)<((Bk ms t i).length:Int))=false:=qQ6 ox;have k1:=xI h1 h6 hm a3 a7 ox;have k2:E6 (Bk ms t i++t9 ms (Bk ms t i))=Bk ms t (i+1):=rfl;rw[k2]at k1;have fe:=vq false (Bk ms t (i+1)) (Bk ms t i);have sm:=wz (ms:=ms) a3.len;rw[xA a3 (List.Perm.refl _),k2]at sm;rw[show (if false=true then !decide (Bk ms t (i+1)=Bk ms t i) else decide (Bk ms t (i+1)=Bk ms t i))=B6 ms (Bk ms t i) from sm]at fe;cases sb:B6 ms (Bk ms t i) with
    | true=>
     rw[sb]at fe;have hc:CW ms b t most i:=⟨λq hq=>⟨(I q hq).1,end_non.mpr ⟨(I q hq).2.1,(I q hq).2.2,ox⟩⟩,ql,ox,sb⟩;rcases hs with rfl|rfl
     all_goals
      refine ⟨_,rfl,?_⟩;exists k0,d1,k1,fe;show .inr ⟨i,hc,rfl⟩
    | false=>
     rw[sb]at fe;rcases hs with rfl|rfl
     all_goals
      refine ⟨_,rfl,?_⟩;exists k0,d1,k1,fe;refine ⟨_,_,_,rfl,.inr rfl,λq hq=>?_⟩;by_cases e:q=i
      .subst e;show ⟨ql,ox,sb⟩
      .show I q ox
 .rintro ρ ⟨s3,a4,a5,rfl,hs,I⟩;rw[qA5,qF1]at I;exists rp18;refine .inl λj h=>?_;by_cases q:j<=most
  .have:=(I j ox).2.2
   rw[h.2.2.2]at this;cases this
  .show (end_non.mp (h.1 most ox).2).2.2 rfl
def kC (I:s.length<=6):∀N mg mc me ρ,(∀k:Nat,k<s.length->ZX N ρ mg (.int (k:Int)) λ ρ1=>mc ρ1=.ok (decide (s.getD k 0=0))/\me ρ1=.ok (.int (k:Int))) ->
  l6 N mg mc me ((List.range s.length).map λ(k:Nat)=>W.int (k:Int)) ρ=.ok (lI (emp s)):=λN mg mc me ρ h=>by
 have:=rF (λk:Nat=>W.int (k:Int)) (λk:Nat=>W.int (k:Int)) (λk=>decide (s.getD k 0=0)) (List.range s.length) (by simp;omega) N mg mc me ρ λk hk=>h k (by simpa using hk)
 rw[this];unfold lI emp;rw[qC8];rfl
def vx (s:Zk):(emp s).Pairwise (·<·):=by
 unfold emp;rw[qI8];show List.Pairwise.imp (R:=(·<·)) (λh=>ox) (List.Pairwise.filter _ List.pairwise_lt_range)
def pR (s:Zk):(emp s).length<=s.length:=by
 unfold emp;rw[qA5]
 have:=qI4 (λk=>decide (s.getD k 0=0)) (List.range s.length)
 rw[qF1]at this;show this
def LbbP (ms:List Mv)(b s dq wq:Zk)(most:Nat)(v:W):Prop:=(t5 s dq=true/\v=.tup [.str "dry",tI dq])\/(t5 s dq=false/\t5 b wq=true/\v=.tup [.str "wet",tI wq])\/(t5 s dq=false/\t5 b wq=false/\((v=.tup [.str "open"]/\∀j,¬ CW ms b s most j)\/∃j,CW ms b s most j/\v=.tup [.str "wall",lS (Bk ms s j)]))
section
variable {ms:List Mv}{b s dq wq:Zk}{most:Nat}(h1:1<=s.length)(h4:s.length<=4)(hbl:b.length=s.length)(hm:∀m∈ms,okN s.length m)(h8:ms.length<=8)(hmo:most<=30)(hns:nn s)(hnb:nn b)
include h1 h4 hbl hm h8 hmo hns hnb
def Gb (hd:GrP ms (emp b) dq)(hw:t5 s dq=false->GrP (ms.map swp) (emp s) wq):Ok (J8 [tI b,lM ms,tI s,.int (most:Int)]) (LbbP ms b s dq wq most):=by
 have ob:okP s.length (emp b):=by rw[<- hbl];show P5 ox
 have os:=P5 (s:=s) ox;have a6:=hd.okP ob;have k1:=fw (side:=0) (ms':=ms) (.inl ⟨rfl,rfl⟩) h4 (by have:=pR b;omega) hm ob (vx b) hd;have a7:b.length<=6:=ox;have a4:s.length<=6:=ox;have u1:K4 (dq.map λp=>s.getD p.toNat 0)=sS s dq:=rfl;have p1:=mn hns (ps:=dq);exists rpB,P3;rw[kC a7];rotate_left
 .intro k hk;refine ⟨_,rfl,?_⟩;exists rp18
 exists k1;rw[eG s dq a6.2];rotate_left
 .intro p I
  have:=a6.1 p I
  refine ⟨_,rfl,?_⟩;exists rp18
 exists u1,p1;refine n4 (J1 (λh=>?_) (λh=>?_))
 .exists rp18;show .inl ⟨h,rfl⟩
 have hw:=hw h;have a3:=hw.okP os;have k2:=fw (side:=1) (ms':=ms.map swp) (.inr ⟨rfl,rfl⟩) h4 (by have:=pR s;omega) hm os (vx s) hw;have u2:K4 (wq.map λp=>b.getD p.toNat 0)=sS b wq:=rfl;have p2:=mn hnb (ps:=wq);have a5:(List.range b.length)=List.range s.length:=by rw[hbl]
 exists rp18;rw[a5,kC a4];rotate_left
 .intro k hk;refine ⟨_,rfl,?_⟩;exists rp18
 exists k2;rw[eG b wq a3.2];rotate_left
 .intro p I
  have:=a3.1 p I
  refine ⟨_,rfl,?_⟩;exists rp18
 exists u2,p2;refine J1 (λh2=>?_) (λh2=>?_)
 .exists rp18;show .inr (.inl ⟨h,h2,rfl⟩)
 obtain ⟨v,k3,hv⟩:=xF (n:=s.length) (b:=b) (t:=s) (most:=most) h1 a4 (λm q=>⟨(hm m q).1,(hm m q).2.1⟩) h8 hbl rfl hmo;rcases hv with ⟨rfl,hno⟩|⟨j,hj,rfl⟩
 .exists k3;show .inr (.inr ⟨h,h2,.inl ⟨rfl,hno⟩⟩)
 .exists k3;show .inr (.inr ⟨h,h2,.inr ⟨j,hj,rfl⟩⟩)
end
def zq (I:FlK b ms es A T)(h:(∃e∈es,e.2=(a,k))\/bhN b ms es a k=b\/∃e∈es,cd e<a*8+k/\e.1=bhN b ms es a k):bhN b ms es a k∈stS b es:=by
 unfold stS;rcases h with ⟨e,he,h⟩|h|⟨e,he,_,h⟩
 .have:=(I.beh e he).2
  rw[h]at this;rw[<- this];show qB1 _ (qB0.mpr ⟨e,he,rfl⟩)
 .rw[h];show qB9
 .rw[<- h];show qB1 _ (qB0.mpr ⟨e,he,rfl⟩)
def mw (I:∀j,j<i->es[j]?=fs[j]?)(ha:a<=i):sA b es a=sA b fs a:=by
 unfold sA stS;rw[qA0,qA0];cases a with
 |zero=>rfl
 |succ a=>rw[qN2,qN2,qC1,qC1,I a ox]
def FlK.idx (h:FlK b ms es A T){i:Nat}(hi:es[i]?=some e)(hj:es[j]?=some f)(hc:cd e<cd f):i<j:=by
 obtain ⟨i1,e1⟩:=qA6.mp hi;obtain ⟨j1,I⟩:=qA6.mp hj;rcases qF4 i j with q|q|q
 .show q
 .subst q;rw[e1]at I;subst I;omega
 .have:=qF6.mp h.inc j i j1 i1 q
  rw[e1,I]at this;omega
def FlK.lt_cd (h:FlK b ms es A T){i:Nat}(hi:es[i]?=some e)(hj:es[j]?=some f)(hc:i<j):cd e<cd f:=by
 obtain ⟨i1,e1⟩:=qA6.mp hi;obtain ⟨I,f1⟩:=qA6.mp hj
 have:=qF6.mp h.inc i j i1 I hc
 rw[e1,f1]at this;show this
def FlK.dif (h:FlK b ms es A T){i:Nat}(hi:es[i]?=some e)(hj:es[j]?=some f)(hc:i≠j):e.1≠f.1:=by
 obtain ⟨i1,e1⟩:=qA6.mp hi;obtain ⟨j1,f1⟩:=qA6.mp hj;have nd:=(qN4.mp h.nod).2;have pw:=λ(x y:Nat) (hx:x<es.length) (hy:y<es.length) (I:x<y)=>qF6.mp nd x y (by simpa using hx) (by simpa using hy) I;rcases Nat.lt_or_gt_of_ne hc with q|q
 .have:=pw i j i1 j1 q
  simpa [e1,f1]using this
 .have:=pw j i j1 i1 q
  intro e;show this (by simp [e1,f1,e])
def FlK.nb (h:FlK b ms es A T){i:Nat}(hi:es[i]?=some e):e.1≠b:=λq=>(qN4.mp h.nod).1 (qB0.mpr ⟨e,qD8 hi,q⟩)
def FlK.met (h:FlK b ms es A T)(g:FlK b ms fs B U){i:Nat}(a6:∀j,j<i->es[j]?=fs[j]?)(he:es[i]?=some e)(b4:e.2.1<B\/(e.2.1=B/\(abN b ms fs e.2.1 e.2.2=true->e.2.2∈U)))(a9:∀j f,fs[j]?=some f->cd f<=cd e->j<i):False:=by
 have hp:=h.par i e he;have b0:=qD8 he;have hk:=h.k8 e b0;obtain ⟨a7,a8⟩:=h.beh e b0;have hs:sA b es e.2.1=sA b fs e.2.1:=mw a6 hp;have a4:abN b ms fs e.2.1 e.2.2=true:=by unfold abN at a7 ⊢;rw[<- hs];show a7
 have a5:e.1=bhN b ms fs e.2.1 e.2.2:=by unfold bhN at a8 ⊢;rw[<- hs];show a8
 have ab:e.2.1<B\/(e.2.1=B/\e.2.2∈U):=by
  rcases b4 with q|⟨q,q'⟩
  .show .inl q
  .show .inr ⟨q,q' a4⟩
 rcases g.set e.2.1 e.2.2 ab hk a4 with ⟨f,hf,q⟩|q|⟨f,hf,hc,q⟩
 .obtain ⟨j,hj,ej⟩:=qD1.mp hf;have I:fs[j]?=some f:=by rw[qA7 hj,ej]
  have b3:cd f=cd e:=by unfold cd;rw[q]
  have a3:=a9 j f I ox
  have:=h.lt_cd (by rw[a6 j a3];show I) he a3
  omega
 .show h.nb he (by rw[a5,q])
 .obtain ⟨j,hj,ej⟩:=qD1.mp hf;have I:fs[j]?=some f:=by rw[qA7 hj,ej]
  have b3:cd f<cd e:=hc;have a3:=a9 j f I ox;show h.dif (by rw[a6 j a3];show I) he ox (by rw[q,a5])
def FlK.not_lt (h:FlK b ms es A T)(g:FlK b ms fs B U)(h8:ms.length<=8){i:Nat}(a4:∀j,j<i->es[j]?=fs[j]?)(he:es[i]?=some e)(hf:fs[i]?=some f):¬ cd e<cd f:=λhc=>by
 have I:=qD8 hf;have hk:=h.k8 e (qD8 he);have a5:=g.k8 f I;refine FlK.met h g a4 he ?_ λj f' hj q=>g.idx hj hf ox;unfold cd at hc;rcases g.lt f I with q|⟨q,q'⟩
 .show .inl ox
 .by_cases e1:e.2.1<B
  .show .inl e1
  .have e2:e.2.1=B:=ox;show .inr ⟨e2,λa3=>g.cl f.2.2 q' e.2.2 ox (by rw[<- e2];show a3)⟩
def FlK.agree (h:FlK b ms es A T)(g:FlK b ms fs B U)(h8:ms.length<=8):∀i,i<es.length->i<fs.length->es[i]?=fs[i]?:=by
 intro i
 induction i using Nat.strongRecOn with
 | _ i ih=>
  intro hi hj;have I:∀j,j<i->es[j]?=fs[j]?:=λj a3=>ih j a3 ox ox;have he:es[i]?=some es[i]:=qA7 hi;have hf:fs[i]?=some fs[i]:=qA7 hj;have n1:=FlK.not_lt h g h8 I he hf;have n2:=FlK.not_lt g h h8 (λj a3=>(I j a3).symm) hf he;have hc:cd es[i]=cd fs[i]:=ox;have hk:=h.k8 _ (qD8 he);have a4:=g.k8 _ (qD8 hf);unfold cd at hc;have e1:es[i].2.1=fs[i].2.1:=ox;have e2:es[i].2.2=fs[i].2.2:=ox;have hp:=h.par i _ he;have b1:=(h.beh _ (qD8 he)).2;have b2:=(g.beh _ (qD8 hf)).2;have hs:sA b es es[i].2.1=sA b fs es[i].2.1:=mw I hp;have e0:es[i].1=fs[i].1:=by
   rw[b1,b2];unfold bhN;rw[hs,e1,e2]
  rw[he,hf];show congrArg some (Prod.ext e0 (Prod.ext e1 e2))
def FlK.whole (h:FlK b ms es A T)(g:FlK b ms fs (fs.length+1) [])(h8:ms.length<=8):es.length<=fs.length:=by
 by_cases hl:fs.length<es.length
 .exfalso;have he:es[fs.length]?=some es[fs.length]:=qA7 hl;have hp:=h.par _ _ he;refine FlK.met h g (i:=fs.length) (λj I=>FlK.agree h g h8 j ox I) he (.inl ox) λj f I _=>(qA6.mp I).1
 .omega
def bY {fs:List Ent}(I:∀j,j<i->es[j]?=fs[j]?)(he:es.length=i)(hf:i<=fs.length):es=fs.take i:=by
 apply qO3;intro j;rw[List.getElem?_take];by_cases hj:j<i
 .rw[qA2 hj];show I j hj
 .rw[qA4 hj];show qH2 ox
def GZ (h8:ms.length<=8)(hE:FlEnd b ms m es wh)(hF:FlEnd b ms M fs wh')(hm:m<=M)(a8:1<=m):es=fs.take (m-1)/\wh=(wh'&&decide (fs.length+1<=m)):=by
 obtain ⟨a7,a6⟩:=hE;obtain ⟨a4,a3⟩:=hF;rcases a6 with ⟨rfl,hK⟩|⟨rfl,hlen,A,T,k,hK,hA,hk,hT,hab,hni⟩
 .rcases a3 with ⟨rfl,I⟩|⟨rfl,hlen',A',T',k',I,hA',hk',hT',hab',hni'⟩
  .have l1:=FlK.whole hK I h8;have l2:=FlK.whole I hK h8;have e:=bY (i:=es.length) (λj hj=>FlK.agree hK I h8 j hj ox) rfl l1;refine ⟨?_,by rw[qQ7 ox];rfl⟩;rw[qF9 ox];rw[qF9 ox]at e;show e
  .exfalso;have l2:=FlK.whole I hK h8;have e:=bY (es:=fs) (fs:=es) (i:=fs.length) (λj hj=>FlK.agree I hK h8 j hj ox) rfl l2
   have:es.length=fs.length:=ox
   rw[qF9 ox]at e;subst e;show hni' (zq hK (hK.set A' k' (.inl hA') hk' hab'))
 .have a5:es.length<=fs.length:=by
   rcases a3 with ⟨_,I⟩|⟨_,hlen',_⟩
   .show FlK.whole hK I h8
   .omega
  obtain ⟨B,U,I⟩:∃B U,FlK b ms fs B U:=FlEnd.K ⟨a4,a3⟩;have e:=bY (i:=es.length) (λj hj=>FlK.agree hK I h8 j hj ox) rfl a5;refine ⟨by rw[show m-1=es.length by omega];show e,?_⟩;rcases a3 with ⟨rfl,I⟩|⟨rfl,_⟩
  .by_cases hl:fs.length+1<=m
   .exfalso;rw[qF9 ox]at e;subst e;show hni (zq I (I.set A k (.inl ox) hk hab))
   .rw[qQ6 hl];rfl
  .rfl
def FP:PyData.strOk "all" = true:=Yo
def qS:PyData.strOk "balance" = true:=Yo
def FO:PyData.strOk "dry" = true:=Yo
def FM:PyData.strOk "wet" = true:=Yo
def Fw {xs:Zk}(h:xs.length<=1000):∀x∈xs.map W.int,Pl (d+1) x:=λx I=>by
 obtain ⟨i,_,rfl⟩:=qB0.mp I;show .int
def lh (h:xs.length<=1000):Pl (d+2) (tI xs):=.tup (by rw[qA5];show h) (Fw h)
def Jv (h:xs.length<=1000):Pl (d+2) (lI xs):=.lst (by rw[qA5];show h) (Fw h)
def ze (h:ss.length<=1000)(hs:∀s∈ss,s.length<=1000):Pl (d+3) (lS ss):=.lst (by rw[qA5];show h) λx I=>by
 obtain ⟨s,q,rfl⟩:=qB0.mp I;show lh (hs s q)
def jd (I:PyData.strOk x=true)(hv:Pl 5 v):J9 [.tup [.str x,v],.tup [.str x,v]]=.ok (.bl true):=oh 6 _ (.tup ZW λy hy=>by
 rcases qB6.mp hy with q|q
 .rw[q];show .str I
 .rw[qC6.mp q];show hv)
def pl_1:J9 [.tup [.str "open"],.tup [.str "open"]]=.ok (.bl true):=oh 6 _ (.tup ZW λy I=>by
 rw[qC6.mp I];show .str Bi)
def FlK.lens (I:FlK b ms es A T):∀s∈stS b es,s.length=b.length:=λs hs=>by
 unfold stS at hs;rcases qB6.mp hs with e|e
 .rw[e]
 .obtain ⟨z,hz,ez⟩:=qB0.mp e;rw[<- ez];show I.len z hz
def bF (h8:ms.length<=8)(m1:1<=most)(hE:FlEnd b ms most es wh)(I:FlEnd b ms most fs wh'):es=fs/\wh=wh':=by
 obtain ⟨e1,e2⟩:=GZ h8 hE I (qB2 _) m1
 have:=I.1
 rw[qF9 ox]at e1;rw[qQ7 this,qQ2]at e2;show ⟨e1,e2⟩
def Jy {n:Nat}(h1:1<=n)(h4:n<=4):∃z:Int,L2.atI [W.int 30,W.int 30,W.int 20,W.int 20] ((n:Int)-1)=some (.int z)/\1<=z/\z<=30:=by
 have h:n=1\/n=2\/n=3\/n=4:=ox;rcases h with rfl|rfl|rfl|rfl <;> show ⟨_,rfl,ZU,ZU⟩
def law_pure (ns:Zk)(h:ns.length<=63)(hb:∀x∈ns,Builtin.Int.intBits x<=1048576):lG [.scr (ns.map W.int)]=.ok (.bl true):=by
 have fin:Ok (lG [.scr (ns.map W.int)]) λv=>v=.bl true:=by
  obtain ⟨_,e0,c0,rfl⟩:=K1 hb (k:=0) ox ox;obtain ⟨_,e1,c1,rfl⟩:=K1 hb (k:=1) ox ox;obtain ⟨_,e2,c2,rfl⟩:=K1 hb (k:=2) ox ox;obtain ⟨n,hn⟩:∃m:Nat,1+c0%4=(m:Int):=⟨(1+c0%4).toNat,ox⟩;obtain ⟨md,cn⟩:∃m:Int,c1/7%3=m:=⟨_,rfl⟩;obtain ⟨M,hM⟩:∃m:Nat,c0/4%5=(m:Int):=⟨(c0/4%5).toNat,ox⟩;have h1:1<=n:=ox;have h4:n<=4:=ox;obtain ⟨z4,cj,d3,cx⟩:=Jy h1 h4;exists rpB,zl,e0,e1,hn,cn;refine n4 (dz (λρ=>∃most:Nat,ρ = [.par (.scr (ns.map W.int)),.val (.int (n:Int)),.val (.int (most:Int)),.val (.int md),.un,.un,.un,.un,.un,.un,.un,.un,.un,.un,.un]/\1<=most/\most<=30) ?_ ?_)
  .refine E5 (λh=>?_) (λh=>?_)
   .have g0:=qN9 (c1/20) (show z4≠0 by omega);have g1:=qL2 (c1/20) (show 0<z4 by omega);exists e1,cj;show ⟨(1+c1/20%z4).toNat,by rw[Int.toNat_of_nonneg ox],ox,ox⟩
   .exists rp18;show ⟨(1+c1%10).toNat,by rw[Int.toNat_of_nonneg ox],ox,ox⟩
  rintro ρ ⟨most,rfl,m1,bc⟩;exists e2;refine dz (λρ=>∃f:Int,ρ = [.par (.scr (ns.map W.int)),.val (.int (n:Int)),.val (.int (most:Int)),.val (.int md),.val (.int f),.un,.un,.un,.un,.un,.un,.un,.un,.un,.un]/\0<=f/\f<=100000001) ?_ ?_
  .refine E5 (λh=>?_) (λh=>?_)
   .exists e1;show ⟨1+c1/10%100000000,rfl,ox⟩
   .exists rp18;show ⟨1,rfl,ox⟩
  rintro ρ ⟨f,rfl,hf⟩;exists e0,hM;refine t6 (λi ρ=>∃(ms:List Mv) (x y:Sl),ρ = [.par (.scr (ns.map W.int)),.val (.int (n:Int)),.val (.int (most:Int)),.val (.int md),.val (.int f),.own (ms.map mW),x,y,.un,.un,.un,.un,.un,.un,.un]/\(∀m∈ms,okC n m)/\ms.length=i) ⟨[],_,_,rfl,ZW,rfl⟩ ?_ ?_
  .rintro i w ρ hw ⟨ms,x,y,rfl,a4,b0⟩;obtain ⟨hi,rfl⟩:=bi hw;have cy:0<=(n:Int)*(i:Int)/\(n:Int)*(i:Int)<=4*5:=⟨qW2 ox ox,Int.mul_le_mul ox ox ox ox⟩;obtain ⟨_,em,m,rfl,hm,bq⟩:=Br hb (a:=34+(n:Int)*(i:Int)) (f:=f) (n:=n) (pl:=decide (md=1)) h1 h4 ox ox hf;have cm:=o6 (mX m);refine ⟨_,rfl,?_⟩;exists em;refine dz (λρ=>∃m':Mv,ρ = [.par (.scr (ns.map W.int)),.val (.int (n:Int)),.val (.int (most:Int)),.val (.int md),.val (.int f),.own (ms.map mW),.par (.int (i:Int)),.val (mW m'),.un,.un,.un,.un,.un,.un,.un]/\okC n m') ?_ ?_
   .refine E5 (λh=>?_) (λh=>?_)
    .have h:=qQ9 h;obtain ⟨_,eo,m',rfl,a9⟩:=ui (k:=i) h1 h4 hm (bq (qQ6 ox)) hf;exists eo;show ⟨m',rfl,a9⟩
    .exists rp18;show ⟨m,rfl,hm.1,hm.2.1,hm.2.2.1.c,hm.2.2.2.c⟩
   rintro ρ ⟨m',rfl,a9⟩;exists rp18;refine ⟨ms ++ [m'],_,_,by rw[qD0];rfl,λm2 cg=>?_,by simp [b0]⟩;rcases qC0.mp cg with q|q
   .show a4 m2 q
   .rw[qC6.mp q];show a9
  rintro ρ ⟨ms,x,y,rfl,a4,b0⟩;rw[qA5,qF1]at b0;have h8:ms.length<=8:=ox;exists rp18;refine pf (jX (λ_ z=>0<=z/\z<=800000000) ox (λk hk=>?_) λb hbl c5=>?_)
  .obtain ⟨_,ek,z,rfl⟩:=K1 hb (k:=8+(k:Int)) ox ox;refine ⟨_,rfl,?_⟩;exists ek;show ⟨_,rfl,_,rfl,eD ox ox hf⟩
  have a5:bnd 0 b:=λk=>by
   by_cases hk:k<n
   .have:=c5 k hk;omega
   .rw [qA0,qH2 ox]
    change (0:Int)<=0/\(0:Int)<=_;omega
  subst hbl;obtain ⟨_,kw,s,rfl,a3,ab⟩:=zX hb h1 ox a4 h8 a5 hf;have hN:∀m∈ms,okN b.length m:=λm q=>(a4 m q).N;have a6:∀m∈ms,okC s.length m:=by rw[a3];show a4
  obtain ⟨w,kr,hR⟩:=qH (ms:=ms) (b:=b) (s:=s) (most:=most) ox ox a3.symm a6 h8 m1 bc (ab.b64 ox) (a5.b64 ox);obtain ⟨_,kf,fs,WS,wh,rfl,hF,b5⟩:=uM (b:=b) (ms:=ms) (most:=most) ox hN h8 m1 ox;have fi:=nN false s (stS b fs);have cw:=X8 b fs;have d1:=hF.1;exists kw,kr,kf,fi;have a7:s.length<=6:=ox;have fb:=λ(rs:Zw) (hB:gC s.length ms rs)=>vj a7 a3.symm hB (ab.b64 ox) (a5.b64 ox);have bb:=λ(dq wq:Zk)=>Gb (dq:=dq) (wq:=wq) (most:=most) ox ox a3.symm (by rw[a3];show hN) h8 bc ab.nn a5.nn;cases hR with
  | @row es d2 j l r hE hn e p=>
   obtain ⟨rfl,rfl⟩:=bF h8 m1 hE hF;have b3:s∈stS b es:=by rw[<- e];show mt ox
   obtain ⟨A,T,hK⟩:=hE.K;obtain ⟨q,ei,hq,eq⟩:=ve b3 ox;have c3:q=j:=by
    have hj:j<(stS b es).length:=ox;have e':(stS b es)[j]=s:=by
     rw[<- e];unfold sA;rw[qA0,qA7 hj];rfl
    have nd:=qF6.mp hK.nod;rcases qF4 q j with z|z|z
    .show absurd (eq.trans e'.symm) (nd q j hq hj z)
    .show z
    .show absurd (e'.trans eq.symm) (nd j q hj hq z)
   subst c3;have b4:=b5.1;have ew:=Do (WS:=WS) (k:=q) ox;obtain ⟨l',p'⟩:=b5.2 q hn;obtain ⟨_,er⟩:=Pt.uniq p p';rw[<- er]at ew;have d5:=(Pt.len hK.par p).2;have al:=jd FN (Jv (d:=3) (xs:=r) ox);have dm:decide (s∈stS b es)=true:=qQ7 b3;exists dm,ei,ew,al
  | @all es hE hn=>
   obtain ⟨rfl,rfl⟩:=bF h8 m1 hE hF;have dm:decide (s∈stS b es)=false:=qQ6 hn;have al:=jd FP (ze (d:=2) (ss:=stS b es) ox λt ht=>by rw[hE.tK.lens t ht];omega);generalize stS b es=S at *
   exists dm,al
  | @bal es rs w hE hn hB hf=>
   obtain ⟨rfl,rfl⟩:=bF h8 m1 hE hF;have dm:decide (s∈stS b es)=false:=qQ6 hn;have I:=fb rs hB;rw[hf]at I;have I:p7 [tI b,lM ms,tI s]=.ok (tI w):=I;have hw:=List.mem_of_find?_eq_some hf;have b4:=hB.len w hw;have k2:=BL a7 a6 b4 (hB.ker w hw);have al:=jd qS (lh (d:=3) (xs:=w) ox);exists dm,I,k2,al
  | @dry es rs dq hE hn hB hf hd hh=>
   obtain ⟨rfl,rfl⟩:=bF h8 m1 hE hF;have dm:decide (s∈stS b es)=false:=qQ6 hn;have I:=fb rs hB;rw[hf]at I;have I:p7 [tI b,lM ms,tI s]=.ok .non:=I;obtain ⟨v,k2,hv⟩:=bb dq [] hd (λz=>by rw[hh]at z;cases z);rcases hv with ⟨_,rfl⟩|⟨z,_⟩|⟨z,_⟩
   .have c4:dq.length<=6:=(hd.okP (n:=b.length) (P5 ox)).2;have al:=jd FO (lh (d:=3) (xs:=dq) ox);exists dm,I,k2,al
   .rw[hh]at z;cases z
   .rw[hh]at z;cases z
  | @wet es rs dq wq hE hn hB hf hd hh hw a8=>
   obtain ⟨rfl,rfl⟩:=bF h8 m1 hE hF;have dm:decide (s∈stS b es)=false:=qQ6 hn;have I:=fb rs hB;rw[hf]at I;have I:p7 [tI b,lM ms,tI s]=.ok .non:=I;obtain ⟨v,k2,hv⟩:=bb dq wq hd (λ_=>hw);rcases hv with ⟨z,_⟩|⟨_,_,rfl⟩|⟨_,z,_⟩
   .rw[hh]at z;cases z
   .have c4:wq.length<=6:=(hw.okP (n:=s.length) (P5 ox)).2;have al:=jd FM (lh (d:=3) (xs:=wq) ox);exists dm,I,k2,al
   .rw[a8]at z;cases z
  | @wal es rs dq wq w hE hn hB hf hd hh hw a8 hW=>
   obtain ⟨rfl,rfl⟩:=bF h8 m1 hE hF;have dm:decide (s∈stS b es)=false:=qQ6 hn;have I:=fb rs hB;rw[hf]at I;have I:p7 [tI b,lM ms,tI s]=.ok .non:=I;obtain ⟨v,k2,hv⟩:=bb dq wq hd (λ_=>hw);rcases hv with ⟨z,_⟩|⟨_,z,_⟩|⟨_,_,hv⟩
   .rw[hh]at z;cases z
   .rw[a8]at z;cases z
   .cases hW with
    | @wall j ha hl ck cp=>
     have hc:CW ms b s most j:=⟨ha,hl,ck,cp⟩;rcases hv with ⟨_,z⟩|⟨j',hj',rfl⟩
     .show absurd hc (z j)
     .have:=hc.one hj'
      subst this;have al:=jd Bh (ze (d:=2) (ss:=Bk ms s j) ox λt ht=>by rw[(au (ms:=ms) (t:=s) rfl j).len t ht];omega);generalize Bk ms s j=S at *
      exists dm,I,k2,al
    | no hz=>
     rcases hv with ⟨rfl,_⟩|⟨j',hj',rfl⟩
     .exists dm,I,k2,pl_1
     .have:=hz j' hj'.1 hj'.2.1 hj'.2.2.1
      rw[hj'.2.2.2]at this;cases this
 obtain ⟨v,e,rfl⟩:=fin;show e
end K87
set_option maxHeartbeats 4000000
open PySem L2 TP
namespace K87
def B8 {K:Frag}{d:Mode}:=(ln (K:=K) (d:=d) (g:=B0) (λ_ _=>rfl) (λ_ _ _=>.int))
def fF {K:Frag}{d:Mode}:=(ln (K:=K) (d:=d) (g:=gSub) (λ_ _=>rfl) (λ_ _ _=>.int))
def xLt {K:Frag}{d:Mode}:=(ln (K:=K) (d:=d) (g:=gLt) (λ_ _=>rfl) (λ_ _ _=>.bl))
def xGt {K:Frag}{d:Mode}:=(ln (K:=K) (d:=d) (g:=gGt) (λ_ _=>rfl) (λ_ _ _=>.bl))
local macro_rules | `(tactic| trivial)=>`(tactic| first | exact Or.inl rfl | exact Or.inr rfl | exact Or.inr (Or.inl rfl) | exact Or.inr (Or.inr rfl) | assumption | exact ⟨rfl,rfl,rfl,by decide +kernel,rfl,by decide +kernel,by decide +kernel⟩ | exact Room.mono (by assumption) (by decide) | exact ⟨rfl,by decide +kernel,by decide +kernel,by decide +kernel,by decide +kernel,by decide,by decide +kernel,by decide +kernel⟩)
abbrev hk (w:World):Frag:=vf w.params
structure Blt (mg:VV):Prop where
 all_:mg "all" = none
 any_:mg "any" = none
 bool_:mg "bool" = none
 enumerate_:mg "enumerate" = none
 int_:mg "int" = none
 isinstance_:mg "isinstance" = none
 len_:mg "len" = none
 list_:mg "list" = none
 max_:mg "max" = none
 range_:mg "range" = none
 reversed_:mg "reversed" = none
 sorted_:mg "sorted" = none
 str_:mg "str" = none
 sum_:mg "sum" = none
 tuple_:mg "tuple" = none
 zip_:mg "zip" = none
def En (w:World)(mg:VV):Prop:=∃h:Heap,(hk w).In h/\h.Ns mainGlobals mg
def bn (Y:En w mg)(e:PySem.W.nsIn (hk w) mainGlobals x=some none):mg x=none:=Y.elim λ_ q=>PySem.W.mg_none_of q.1 q.2 e
def bl (Y:En w mg):Blt mg:=⟨bn Y ZK,bn Y ZK,bn Y ZK,bn Y ZK,bn Y ZK,bn Y ZK,bn Y ZK,bn Y ZK,bn Y ZK,bn Y ZK,bn Y ZK,bn Y ZK,bn Y ZK,bn Y ZK,bn Y ZK,bn Y ZK⟩
abbrev FD (I:String)(i:Nat)(pm:Value)(c:Nat):FuncData:=PySem.W.fnOf I I (T6 (top i)) (K9 (top i)) (c6 (top i)) .none .none .none pm none (.ref c) .none
def dk (Y:En w mg){I:String}{c:Nat}(e:(PySem.W.nsIn (hk w) mainGlobals I,(hk w).lookup f,PySem.W.codeIn (hk w) (.ref c) I,PySem.W.keepIn (hk w) (.ref f))=(some (some (.ref f)),some (hxG I i pm c),true,true))(hb:∀(kV doc pm:Value) (an:Option Addr) (cdv ct:Value) (us:VY),us.length=ps.length->bindArgs (PySem.W.fnOf I I (T6 (top i)) (K9 (top i)) (c6 (top i)) .none kV doc pm an cdv ct) ⟨us,[]⟩=pure (ps.zip us)):Def (hk w) mg I (top i) ps f (FD I i pm c):=by
 obtain ⟨h,X,G⟩:=Y;injection e with a e
 injection e with l e
 injection e with c k
 have F:=GX (st:=top i) l c k;show ⟨F,PySem.W.mg_of X G a,F.binds hb⟩
def okF (D:Def K mg x st ps f fd)(S:e7 N ps (c6 st))(hd:d=.F\/d=.V)(hn:ps.length=n)(hl:N.length=l)(b:∀{cdv:Value}{A:Around}{outer:List Env}{s:Shared}{H:Hp}{E:XK},Room k (A.deeper (PyProof.Rows.envOfC x (c6 st) s.heap.objs.size f cdv))->PSs (dZ CX0 P w K mg base N x (c6 st) f cdv A outer s H E).nox (K9 st) (tSt K (λ_ _=>False) d m)):FnOk P w K mg base CX0 (k+1) f fd ps (spM K n d (g9 n l m)):=by
 subst hn hl;show D.F.ok S (λ_ _ _ _ h=>h.1) λcdv A outer s H vs Q E I h=>⟨_,b I,IB hd h⟩
def okX (D:Def K mg x st ps f fd)(S:e7 N ps (c6 st))(hn:ps.length=n)(hl:N.length=l)(b:∀{cdv:Value}{A:Around}{outer:List Env}{s:Shared}{H:Hp}{E:XK},Room k (A.deeper (PyProof.Rows.envOfC x (c6 st) s.heap.objs.size f cdv))->PSs (dZ CX0 P w K mg base N x (c6 st) f cdv A outer s H E).nox (K9 st) (tSt K (λ_ _=>False) .V m)):FnOk P w K mg base CX0 (k+1) f fd ps (spX K n (O1 n l m)):=by
 subst hn hl;show D.F.ok S (λ_ _ _ _ h=>h.1) λcdv A outer s H vs Q E I h=>⟨_,b I,CS h⟩
def qcD {X:Cx}{K:Frag}{d:Mode}{e:Expr}{es:Zz}{pos:Pos}{mr:ZQ}{k:Nat}{f:Addr}{fd:FuncData}{ps:Zq}{x:Str}{st:Stmt}{p:Pos}{n N:Nat}{m:Zg}(F:FnOk X.prog X.w X.K X.mg X.base CX0 k f fd ps (spM K n d (g9 n N m)))(D:Def X.K X.mg x st ps f fd)
  (ha:PA X (e::es) (tA K (λ_ _=>False) .B mr)) (hd:d=.F\/d=.V:=by first|show .inl rfl|show .inr rfl) (hr:Room k X.A:=by show Room.mono (by assumption) ZU) (hg:Gl X x:=by rfl) (a3:(x == ("__debug__":Str))=false:=by decide) (he:starEach (e::es) X.env=(false,eval e X.env)::starEach es X.env:=by rfl) (I:(backTo pos (starEach es X.env)).any (·.1)=false:=by rfl) :
  PE X (.Call (.Name x p) (e::es) [] pos) (tM K (λ_ _=>False) d (bA (g9 n N m) mr)):=tP F hd hr hg D.m D.F.kp D.b ha a3 he I
def j5 {X:Cx}{K:Frag}{EX:EXT}{cs:Scope}{N':Zq}{n:Nat}{tg iter a3:Expr}{I:Zz}{dd:Mode}{g:TG}{mg:ZJ}{mi:ZQ}{ta:ZZ}{ma:Zo}{pos:Pos}(S:e8 X.env.scope cs X.N N')(hc:X.calm=true)(hi:PI X tg iter (tIt K EX false dd mi))
  (hg:∀cl ex s H,PG (l9 X cs cl N' ex s H) tg g) (a4:Gt K dd g mg) (hk:U7 X.N.length g) (ht:∀cl ex s H,PIf (l9 X cs cl N' ex s H) I (tT K EX ta)) (he:∀cl ex s H,PE (l9 X cs cl N' ex s H) a3 (tM K EX .V ma))
  (hn:N'.length=n:=by rfl) (hs:∀x,foldedSetIterable iter X.env x=pure x:=by intro _;rfl):PE X (.ListComp a3 [⟨tg,iter,I,0⟩] cs pos) (tM K EX .F (k7 n mi mg ta ma)):=by
 subst hn;show Fj S hc hi hg a4 hk ht he hs
def bo {X:Cx}{K:Frag}{EX:EXT}{d:Mode}{i n:Nat}{y:Str}{py:Pos}{cs:Scope}{N':Zq}{tg iter a4:Expr}{a3:Zz}{dd:Mode}{g:TG}{mg:ZJ}{mi:ZQ}{ta:ZZ}{ma:Zo}{I pos:Pos}(S:e8 X.env.scope cs X.N N')(hc:X.calm=true)(hi:PI X tg iter (tIt K EX false dd mi))
  (hg:∀cl ex s H,PG (l9 X cs cl N' ex s H) tg g) (a5:Gt K dd g mg) (hk:U7 X.N.length g) (ht:∀cl ex s H,PIf (l9 X cs cl N' ex s H) a3 (tT K EX ta)) (he:∀cl ex s H,PE (l9 X cs cl N' ex s H) a4 (tM K EX .V ma))
  (hN:X.N.Nodup) (hy:X.N[i]?=some y) (hl:Loc X.env.scope y)
  (hn:N'.length=n:=by rfl) (a6:swapsWith (.ListComp a4 [⟨tg,iter,a3,0⟩] cs I) (some (.Name y py)) pos.line X.env=pure true:=by rfl) (hf:X.fn y=true\/X.env.scope.names.lookup y=some .local:=by first|show .inl rfl|show .inr rfl|assumption)
  (hs:∀x,foldedSetIterable iter X.env x=pure x:=by intro _;rfl):PS X (.Assign [.Name y py] (.ListComp a4 [⟨tg,iter,a3,0⟩] cs I) pos) (tSt K EX d (sF i (k7 n mi mg ta ma))):=by
 subst hn;show Fa S hc hi hg a5 hk ht he hN hy hl a6 hf hs
abbrev Qa:List Str:=["stand","move"]
abbrev Qb:List Str:=["moves","basis"]
abbrev Qc:List Str:=["moor","stand"]
abbrev Qd:List Str:=["moves","places"]
abbrev Qe:List Str:=["rows"]
abbrev Qf:List Str:=["_law_begin","_law_moves","_law_stand","_law_most","_law_empty","_law_full","_law_basis","_law_p"]
abbrev Qg:List Str:=["tree","number"]
abbrev Qh:List Str:=["moor","stand","most"]
abbrev Qi:List Str:=["_law_moves","_law_within","_law_side","_law_sets","#_law_p","_law_members","_law_some","_law_stays","_law_move_here","_law_p"]
abbrev Qj:List Str:=["move"]
abbrev Qk:List Str:=["stand","moves","ring"]
abbrev Ql:List Str:=["stand","step","times"]
abbrev Qm:List Str:=["weights","counts"]
abbrev Qn:List Str:=["place","many"]
abbrev Qo:List Str:=["row","column"]
abbrev Qp:List Str:=["counts","places"]
abbrev Qq:List Str:=["moves"]
abbrev Qr:List Str:=["stand"]
abbrev Qs:List Str:=["_law_stand","_law_move_here"]
abbrev Qt:List Str:=["_law_weights","_law_counts"]
abbrev Qu:List Str:=["_law_moves","_law_within","_law_side","_law_sets","_law_p","_law_members","_law_some","_law_stays","_law_move_here"]
abbrev Qv:List Str:=["_law_begin","_law_moves","_law_stand","_law_most","_law_empty","_law_full","_law_basis"]
abbrev Qw:List Str:=["_law_found","_law_due"]
abbrev Qx:List Str:=["row","lead","column"]
abbrev Qy:List Str:=["moves","many","found","move","step","weighed"]
abbrev Qz:List Str:=["rows","number"]
abbrev QB:List Str:=["_law_script"]
abbrev QC:List Str:=["stand","move","number","take","put"]
abbrev QD:List Str:=["_law_script","_law_at","_law_many","_law_poised","_law_times","_law_take","_law_put","#_law_p","_law_cell_here","_law_one","_law_other","_law_p"]
abbrev QE:List Str:=["stand","other"]
abbrev QF:List Str:=["stand","basis"]
abbrev QG:List Str:=["moves","rings","most","word"]
abbrev QH:List Str:=["moor","rings"]
abbrev QI:List Str:=["moor","target","most"]
abbrev QJ:List Str:=["row","other","column"]
abbrev QK:List Str:=["rows","column"]
abbrev QL:List Str:=["moves","many"]
abbrev QM:List Str:=["tree","elder","number"]
abbrev QN:List Str:=["moor","most"]
abbrev QO:List Str:=["_law_script","_law_k"]
abbrev QP:List Str:=["_law_script","_law_at","_law_many","_law_poised","_law_times","_law_take","_law_put","_law_p","_law_cell_here","_law_one","_law_other"]
abbrev QQ:List Str:=["_law_script","_law_at","_law_many","_law_poised","_law_times"]
abbrev QR:List Str:=["_law_move_here","_law_k","_law_times"]
abbrev QS:List Str:=["_law_stand","_law_other"]
abbrev QT:List Str:=["_law_script","_law_begin","_law_moves"]
abbrev QU:List Str:=["_law_script","_law_begin","_law_moves","_law_times"]
abbrev QV:List Str:=["_law_begin","_law_moves","_law_most"]
abbrev QW:List Str:=["_law_moves","_law_weights"]
abbrev QX:List Str:=["_law_begin","_law_moves","_law_stand"]
abbrev QY:List Str:=["_law_moves","_law_within","_law_side"]
abbrev QZ:List Str:=["_law_stand","_law_basis"]
abbrev Va:List Str:=["_law_moves","_law_basis","_law_some","_law_stand","_law_move_here","_law_origin"]
abbrev Vb:List Str:=["_law_moves","_law_basis"]
abbrev Vc:List Str:=["_law_begin","_law_moves","_law_target","_law_most"]
abbrev Vd:List Str:=["_law_begin","_law_moves","_law_stand","_law_most"]
abbrev Ve:List Str:=["move","take","put"]
abbrev Vf:List Str:=["stand","move","number","step"]
abbrev Vg:List Str:=["stand","moves","ring","number","move"]
abbrev Vh:List Str:=["stand","step","times","number","by"]
abbrev Vi:List Str:=["weights","counts","weight","number"]
abbrev Vj:List Str:=["moor","stand","number","move"]
abbrev Vk:List Str:=["moves","take","put"]
abbrev Vl:List Str:=["stand","place","number"]
abbrev Vm:List Str:=["moves","basis","found","move"]
abbrev Vn:List Str:=["rows","found","left","column","lead"]
abbrev Vo:List Str:=["tree","elder","number","path"]
abbrev Vp:List Str:=["moves","places","kept","number"]
abbrev Vq:List Str:=["_law_script","_law_begin","_law_moves","_law_stand","_law_k","_law_goers"]
abbrev Vr:List Str:=["_law_script","_law_begin","_law_moves","_law_times","_law_cell_here","_law_stand","_law_place","_law_crossed"]
abbrev Vs:List Str:=["_law_script","_law_many","_law_most","_law_mode","_law_times","_law_moves","_law_k","_law_move_here","_law_begin","_law_stand","_law_found","_law_stands","_law_ways","_law_whole","_law_weights"]
abbrev Vt:List Str:=["moves","basis","found","move","stand"]
abbrev Vu:List Str:=["moves","basis","stand"]
abbrev Vv:List Str:=["row","column","number"]
abbrev Vw:List Str:=["rows","found","left","column","lead","row"]
abbrev Vx:List Str:=["moves","many","found","move","step","weighed","place"]
abbrev Vy:List Str:=["moves","many","found","move","step","weighed","weights"]
abbrev Vz:List Str:=["moves","many","found","move","step","weighed","row"]
abbrev VA:List Str:=["tree","elder","number","path","at"]
abbrev VB:List Str:=["counts","places","place"]
abbrev VC:List Str:=["moves","places","kept","number","place"]
abbrev VD:List Str:=["_law_stand","_law_move_here","_law_p"]
abbrev VE:List Str:=["_law_script","_law_begin","_law_moves","_law_stand","_law_k","_law_goers","_law_move_here"]
abbrev VF:List Str:=["_law_script","_law_begin","_law_moves","_law_times","_law_cell_here","_law_stand","_law_place","_law_crossed","_law_p"]
abbrev VG:List Str:=["_law_weights","_law_counts","_law_p"]
abbrev VH:List Str:=["_law_moves","_law_within","_law_side","_law_sets","_law_p","_law_members","#_law_some","_law_stays","_law_move_here","_law_some"]
abbrev VI:List Str:=["_law_moves","_law_basis","_law_some","_law_stand","_law_move_here","_law_origin","_law_p"]
abbrev VJ:List Str:=["_law_moves","_law_basis","_law_some","_law_stand","_law_move_here","_law_origin","_law_one"]
abbrev VL:List Str:=["_law_found","_law_due","_law_k"]
abbrev VM:List Str:=["_law_script","_law_many","_law_most","_law_mode","_law_times","_law_moves","_law_k","_law_move_here","_law_begin","_law_stand","_law_found","_law_stands","_law_ways","_law_whole","_law_weights","_law_p"]
def VN {K:Frag}{d:Mode}:=(j9 (K:=K) (d:=d) (C:=CMulB) (g:=o7) (λ_ _=>rfl) (λ_ _ _=>.int))
def VO {K:Frag}{d:Mode}:=(j9 (K:=K) (d:=d) (C:=n9) (g:=o8) (λ_ _=>rfl) (λ_ _ _=>.int))
def VP {K:Frag}{d:Mode}:=(j9 (K:=K) (d:=d) (C:=w6) (g:=A9) (λ_ _=>rfl) (λ_ _ _=>.int))
def VQ (n:Nat)(a b:Zq){c:Scope}(h:e8 (c6 (top n)) c a b:=by trivial):=h
def JH:FnOk P w K mg base CX0 k f fd ps (spM K n d (g9 n l λ_=>.stuck)):=by
 have no:∀(vs:List V) (H:Hp) (Q:VK) (E:XK),¬ spM K n d (g9 n l λ_=>.stuck) vs H Q E:=λvs H Q E h=>by
  obtain ⟨_,ws,_,q⟩:=h;unfold g9 at q
  split at q
  .rename_i w e;split at e <;> cases e
  .rename_i w e;split at e <;> cases e
  .show q
 show ⟨λvs H Q E h=>absurd h (no vs H Q E),λA outer s H args us vs Q E I=>λ_ _ _ h=>absurd h (no vs H Q E)⟩
def us0 {P:List Value->Prop}(h:P []):∀us:List Value,us.length=0->P us:=λus e=>by
 rw[qT7.mp e];show h
def us1 {P:List Value->Prop}(h:∀a0,P [a0]):∀us:List Value,us.length=1->P us:=λus e=>by
 cases us with
 |nil=>cases e
 |cons a us=>show us0 (P:=λus=>P (a::us)) (h a) us (Nat.succ.inj e)
def us2 {P:List Value->Prop}(h:∀a0 a1,P [a0,a1]):∀us:List Value,us.length=2->P us:=λus e=>by
 cases us with
 |nil=>cases e
 |cons a us=>show us1 (P:=λus=>P (a::us)) (λa1=>h a a1) us (Nat.succ.inj e)
def us3 {P:List Value->Prop}(h:∀a0 a1 a2,P [a0,a1,a2]):∀us:List Value,us.length=3->P us:=λus e=>by
 cases us with
 |nil=>cases e
 |cons a us=>show us2 (P:=λus=>P (a::us)) (λa1 a2=>h a a1 a2) us (Nat.succ.inj e)
def us4 {P:List Value->Prop}(h:∀a0 a1 a2 I,P [a0,a1,a2,I]):∀us:List Value,us.length=4->P us:=λus e=>by
 cases us with
 |nil=>cases e
 |cons a us=>show us3 (P:=λus=>P (a::us)) (λa1 a2 I=>h a a1 a2 I) us (Nat.succ.inj e)
def us5 {P:List Value->Prop}(h:∀a0 a1 a2 a3 I,P [a0,a1,a2,a3,I]):∀us:List Value,us.length=5->P us:=λus e=>by
 cases us with
 |nil=>cases e
 |cons a us=>show us4 (P:=λus=>P (a::us)) (λa1 a2 a3 I=>h a a1 a2 a3 I) us (Nat.succ.inj e)
def fR:e7 ["stand","other","number","wanted"] QE (c6 (top 4)):=ZV
def DU:e7 Qa Qa (c6 (top 5)):=ZV
def wD:e7 Qj Qj (c6 (top 7)):=ZV
def Aq:e7 Qa Qa (c6 (top 6)):=ZV
def lY:e7 ["stand","basis","low"] QF (c6 (top 10)):=ZV
def iT:e7 ["stands","found","stand"] ["stands"] (c6 (top 9)):=ZV
def wB:e7 Qa Qa (c6 (top 11)):=ZV
def dl:e7 Vm Qb (c6 (top 12)):=ZV
def ot:e7 Qb Qb (c6 (top 13)):=ZV
def tD:e7 Qb Qb (c6 (top 14)):=ZV
def fQ:e7 ["moves","rings","most","word","ring","number"] QG (c6 (top 17)):=ZV
def lX:e7 Qk Qk (c6 (top 19)):=ZV
def G8:e7 ["moor","rings","row","here","ring","number"] QH (c6 (top 18)):=ZV
def iW:e7 ["moor","target","most","rings","told"] QI (c6 (top 16)):=ZV
def tu:e7 Ql Ql (c6 (top 21)):=ZV
def Ap:e7 Qm Qm (c6 (top 23)):=ZV
def DT:e7 Qn Qn (c6 (top 26)):=ZV
def tz:e7 Qx Qx (c6 (top 31)):=ZV
def aw:e7 ["row","other","column","rest"] QJ (c6 (top 29)):=ZV
def Q0:e7 ["rows","column","kept","row","pair"] QK (c6 (top 28)):=ZV
def tm:e7 Qo Qo (c6 (top 30)):=ZV
def P9:e7 Vn Qe (c6 (top 27)):=ZV
def M7:e7 Qy QL (c6 (top 25)):=ZV
def W9:e7 ["tree","number","numbers","at"] Qg (c6 (top 33)):=ZV
def IZ:e7 Qg Qg (c6 (top 35)):=ZV
def cO:e7 Vo QM (c6 (top 36)):=ZV
def gI:e7 Qc Qc (c6 (top 39)):=ZV
def P2:e7 ["moor","most","rows","known","at","stand","behind","number"] QN (c6 (top 38)):=ZV
def ou:e7 Qe Qe (c6 (top 40)):=ZV
def wC:e7 Qz Qz (c6 (top 41)):=ZV
def tq:e7 Qp Qp (c6 (top 44)):=ZV
def Y6:e7 ["moves","places","number","move"] Qd (c6 (top 43)):=ZV
def G9:e7 Vp Qd (c6 (top 45)):=ZV
def wA:e7 Qq Qq (c6 (top 47)):=ZV
def iU:e7 Qd Qd (c6 (top 46)):=ZV
def Y5:e7 ["moor","stand","weights"] Qc (c6 (top 50)):=ZV
def iV:e7 Qr Qr (c6 (top 52)):=ZV
def cq:e7 ["moor","stand","dry","wet"] Qc (c6 (top 51)):=ZV
def dj:e7 ["moor","stand","most","told"] Qh (c6 (top 53)):=ZV
def P1:e7 ["moor","stand","most","told","stands","reason"] Qh (c6 (top 49)):=ZV
def aP:e7 ["_law_script","_law_k","_law_number"] QO (c6 (top 55)):=ZV
def B2:e7 QP QQ (c6 (top 56)):=ZV
def S3:e7 ["_law_move_here","_law_k","_law_times","_law_take","_law_put"] QR (c6 (top 57)):=ZV
def cQ:e7 ["_law_stand","_law_other","_law_p"] QS (c6 (top 58)):=ZV
def kT:e7 Qs Qs (c6 (top 59)):=ZV
def L9:e7 Vq QT (c6 (top 60)):=ZV
def N5:e7 Vr QU (c6 (top 61)):=ZV
def D7:e7 ["_law_begin","_law_moves","_law_most","_law_stands","_law_ways","_law_at","_law_k","_law_stand"] QV (c6 (top 62)):=ZV
def mf:e7 Qt Qt (c6 (top 63)):=ZV
def bg:e7 ["_law_moves","_law_weights","_law_move_here"] QW (c6 (top 64)):=ZV
def Q2:e7 ["_law_begin","_law_moves","_law_stand","_law_weights"] QX (c6 (top 65)):=ZV
def t4:e7 Qu QY (c6 (top 66)):=ZV
def cP:e7 ["_law_stand","_law_basis","_law_one"] QZ (c6 (top 67)):=ZV
def K8:e7 Va Vb (c6 (top 68)):=ZV
def D6:e7 ["_law_begin","_law_moves","_law_target","_law_most","_law_ring","_law_k","_law_back_here"] Vc (c6 (top 69)):=ZV
def B7:e7 Qv Vd (c6 (top 70)):=ZV
def mj:e7 Qw Qw (c6 (top 71)):=ZV
def E1:e7 Vs QB (c6 (top 72)):=ZV
section
variable {P:Program}{w:World}{mg:VV}{base:Heap}(Y:En w mg)
include Y
def jH:Def (hk w) mg "covers" (top 4) QE 53 (FD "covers" 4 V6 52):=dk Y ZK λ_ _ _ _ _ _=>us2 λ_ _=>rfl
def mP:FnOk P w (hk w) mg base CX0 1 53 (FD "covers" 4 V6 52) QE (spM (hk w) 2 .F ae):=
 okF (jH Y) fR (.inl rfl) rfl rfl λI=>(b9 (w9 qC2 rfl (EZ ZY (bl Y).zip_ (b6 (qv .U 0) (b6 (qv .U 1) b8))) (@D1 _ (hk w) _ _ _ _ 2 rfl (j8 (@d4 _ _ 2 _ fR.nd rfl ZV ZV) (j8 (@d4 _ _ 3 _ fR.nd rfl ZV ZV) D0)) ZY ZY ZY) (J5 (.inr rfl) (k6 (.inr rfl) i7 (k6 (.inr rfl) i7 D3))) (c7 (j3 (g8 eP xLt (qv .B 2) (qv .B 3)) (c7 (f9 F5)) i9))) (c7 (f9 F5)))
def lK:Def (hk w) mg "able" (top 5) Qa 60 (FD "able" 5 V6 59):=dk Y ZK λ_ _ _ _ _ _=>us2 λ_ _=>rfl
def mR:FnOk P w (hk w) mg base CX0 2 60 (FD "able" 5 V6 59) Qa (spM (hk w) 2 .F dW):=
 okF (lK Y) DU (.inl rfl) rfl rfl λI=>(c7 (f9 (qcD (mP Y) (jH Y) (b6 (qv .B 0) (b6 (g7 (d9 (qv .B 1) c9)) b8)))))
def jI:Def (hk w) mg "change" (top 7) Qj 70 (FD "change" 7 V6 69):=dk Y ZK λ_ _ _ _ _ _=>us1 λ_=>rfl
def mQ:FnOk P w (hk w) mg base CX0 1 70 (FD "change" 7 V6 69) Qj (spM (hk w) 1 .F af):=
 okF (jI Y) wD (.inl rfl) rfl rfl λI=>(c7 (f9 (w4 x9 (x8 (c:=true)) ZY (bl Y).tuple_ l5 (b6 (f8 (j5 (VQ 7 Qj Ve) rfl (dw ZY (bl Y).zip_ (b6 (g7 (d9 (qv .B 0) c9)) (b6 (g7 (d9 (qv .B 0) c9)) b8))) (λ_ _ _ _=>(@D1 _ (hk w) _ _ _ _ 2 rfl (j8 (@d4 _ _ 1 _ (by decide +kernel:(Ve:Zq).Nodup) rfl (Or.inl rfl) (.inr rfl)) (j8 (@d4 _ _ 2 _ (by decide +kernel:(Ve:Zq).Nodup) rfl (Or.inl rfl) (.inr rfl)) D0)) ZY ZY ZY)) (J5 (.inr rfl) (k6 (.inr rfl) i7 (k6 (.inr rfl) i7 D3))) (R0 (v0 (show 1<=1 by decide) (v0 (show 1<=2 by decide) R3))) (λ_ _ _ _=>q4) (λ_ _ _ _=>(f7 Y9 fF (qv .B 2) (qv .B 1))))) b8))))
def iB:Def (hk w) mg "after" (top 6) Qa 65 (FD "after" 6 V6 64):=dk Y ZK λ_ _ _ _ _ _=>us2 λ_ _=>rfl
def ji:FnOk P w (hk w) mg base CX0 3 65 (FD "after" 6 V6 64) Qa (spM (hk w) 2 .F S8):=
 okF (iB Y) Aq (.inl rfl) rfl rfl λI=>(b9 (j3 (Y8 (v7 (i8 (f8 (qcD (mR Y) (lK Y) (b6 (qv .B 0) (b6 (qv .B 1) b8))))))) (c7 AL) i9) (c7 (f9 (w4 x9 (x8 (c:=true)) ZY (bl Y).tuple_ l5 (b6 (f8 (j5 (VQ 6 Qa Vf) rfl (dw ZY (bl Y).zip_ (b6 (qv .B 0) (b6 (i8 (f8 (qcD (mQ Y) (jI Y) (b6 (qv .B 1) b8)))) b8))) (λ_ _ _ _=>(@D1 _ (hk w) _ _ _ _ 2 rfl (j8 (@d4 _ _ 2 _ (by decide +kernel:(Vf:Zq).Nodup) rfl (Or.inl rfl) (.inr rfl)) (j8 (@d4 _ _ 3 _ (by decide +kernel:(Vf:Zq).Nodup) rfl (Or.inl rfl) (.inr rfl)) D0)) ZY ZY ZY)) (J5 (.inr rfl) (k6 (.inr rfl) i7 (k6 (.inr rfl) i7 D3))) (R0 (v0 (show 2<=2 by decide) (v0 (show 2<=3 by decide) R3))) (λ_ _ _ _=>q4) (λ_ _ _ _=>(f7 t8 B8 (qv .B 2) (qv .B 3))))) b8)))))
def bN:Def (hk w) mg "lifted" (top 10) QF 84 (FD "lifted" 10 L3 83):=dk Y ZK λ_ _ _ _ _ _=>us2 λ_ _=>rfl
def cv:FnOk P w (hk w) mg base CX0 2 84 (FD "lifted" 10 L3 83) QF (spM (hk w) 2 .F O6):=
 okF (bN Y) lY (.inl rfl) rfl rfl λI=>(b9 (w9 qC2 rfl (C4 (qv .U 1)) (@d4 _ _ 2 _ lY.nd rfl ZV ZV) i7 (c7 (j3 (v7 (i8 (f8 (qcD (mP Y) (jH Y) (b6 (qv .B 0) (b6 (qv .B 2) b8)))))) (c7 (f9 F5)) i9))) (c7 (f9 F5)))
def vA:Def (hk w) mg "least" (top 9) ["stands"] 77 (FD "least" 9 L3 76):=dk Y ZK λ_ _ _ _ _ _=>us1 λ_=>rfl
def Be:FnOk P w (hk w) mg base CX0 3 77 (FD "least" 9 L3 76) ["stands"] (spM (hk w) 1 .F fc):=
 okF (vA Y) iT (.inl rfl) rfl rfl λI=>(b9 (i6 (i:=1) iT.nd rfl ZV (w8 b8) ZY ZV) (b9 (w9 qC2 rfl (C4 (dy (r9 (m8 iI (qm (c:=false)) ZY (bl Y).sorted_ kP (b6 (qv .B 0) b8))))) (@d4 _ _ 2 _ iT.nd rfl ZV ZV) i7 (c7 (j3 (Y8 (v7 (i8 (f8 (qcD (cv Y) (bN Y) (b6 (qv .B 2) (b6 (qv .B 1) b8))))))) (c7 (@U0 _ _ _ _ _ _ _ 1 _ _ _ _ rfl ZV (qv .V 2) ZU ZU ZY ZY ZY ZY ZY)) i9))) (c7 (@J0 _ _ _ _ _ 1 _ _ (.inl rfl) ZY ZV ZU ZU))))
def pU:Def (hk w) mg "source" (top 11) Qa 89 (FD "source" 11 L3 88):=dk Y ZK λ_ _ _ _ _ _=>us2 λ_ _=>rfl
def xl:FnOk P w (hk w) mg base CX0 1 89 (FD "source" 11 L3 88) Qa (spM (hk w) 2 .F gq):=
 okF (pU Y) wB (.inl rfl) rfl rfl λI=>(c7 (f9 (w4 x9 (x8 (c:=true)) ZY (bl Y).tuple_ l5 (b6 (f8 (j5 (VQ 11 Qa QC) rfl (dw ZY (bl Y).zip_ (b6 (qv .B 0) (b6 (g7 (d9 (qv .B 1) c9)) (b6 (g7 (d9 (qv .B 1) c9)) b8)))) (λ_ _ _ _=>(@D1 _ (hk w) _ _ _ _ 3 rfl (j8 (@d4 _ _ 2 _ (by decide +kernel:(QC:Zq).Nodup) rfl (Or.inl rfl) (.inr rfl)) (j8 (@d4 _ _ 3 _ (by decide +kernel:(QC:Zq).Nodup) rfl (Or.inl rfl) (.inr rfl)) (j8 (@d4 _ _ 4 _ (by decide +kernel:(QC:Zq).Nodup) rfl (Or.inl rfl) (.inr rfl)) D0))) ZY ZY ZY)) (J5 (.inr rfl) (k6 (.inr rfl) i7 (k6 (.inr rfl) i7 (k6 (.inr rfl) i7 D3)))) (R0 (v0 (show 2<=2 by decide) (v0 (show 2<=3 by decide) (v0 (show 2<=4 by decide) R3)))) (λ_ _ _ _=>q4) (λ_ _ _ _=>(m8 (kN rfl) (b_2 (g:=jD)) ZY (bl Y).max_ vQ (b6 (qv .B 3) (b6 (f7 t8 B8 (f7 Y9 fF (qv .B 2) (qv .B 4)) (qv .B 3)) b8)))))) b8))))
def gw:Def (hk w) mg "sources" (top 12) Qb 94 (FD "sources" 12 L3 93):=dk Y ZK λ_ _ _ _ _ _=>us2 λ_ _=>rfl
def jV:FnOk P w (hk w) mg base CX0 2 94 (FD "sources" 12 L3 93) Qb (spM (hk w) 2 .F V1):=
 okF (gw Y) dl (.inl rfl) rfl rfl λI=>(b9 (i6 (i:=2) dl.nd rfl ZV (w8 b8) ZY ZV) (b9 (w9 qC2 rfl (C4 (qv .U 0)) (@d4 _ _ 3 _ dl.nd rfl ZV ZV) i7 (c7 (@Jl _ _ _ _ _ _ _ 2 true _ _ _ _ rfl ZV (f8 (j5 (VQ 12 Vm Vt) rfl (y8 (qv .B 1)) (λ_ _ _ _=>(@d4 _ _ 4 _ (by decide +kernel:(Vt:Zq).Nodup) rfl (Or.inl rfl) (.inr rfl))) i7 (l7 (show 4<=4 by decide)) (λ_ _ _ _=>q4) (λ_ _ _ _=>(r9 (qcD (xl Y) (pU Y) (b6 (qv .B 4) (b6 (qv .B 3) b8))))))) ZY ZU ZU ZY ZY ZY ZY ZY ZY))) (c7 (@J0 _ _ _ _ _ 2 _ _ (.inl rfl) ZY ZV ZU ZU))))
def iz:Def (hk w) mg "step_back" (top 13) Qb 101 (FD "step_back" 13 L3 100):=dk Y ZK λ_ _ _ _ _ _=>us2 λ_ _=>rfl
def oy:FnOk P w (hk w) mg base CX0 4 101 (FD "step_back" 13 L3 100) Qb (spM (hk w) 2 .F U3):=
 okF (iz Y) ot (.inl rfl) rfl rfl λI=>(c7 (f9 (qcD (Be Y) (vA Y) (b6 (i8 (f8 (f7 Z2 (Z3 (c:=true)) (f8 (w4 bW (bT (c:=false)) ZY (bl Y).list_ L0 (b6 (qv .B 1) b8))) (f8 (qcD (jV Y) (gw Y) (b6 (qv .B 0) (b6 (qv .B 1) b8))))))) b8))))
def nT:Def (hk w) mg "is_shut" (top 14) Qb 106 (FD "is_shut" 14 L3 105):=dk Y ZK λ_ _ _ _ _ _=>us2 λ_ _=>rfl
def um:FnOk P w (hk w) mg base CX0 3 106 (FD "is_shut" 14 L3 105) Qb (spM (hk w) 2 .F dS):=
 okF (nT Y) tD (.inl rfl) rfl rfl λI=>(c7 (f9 (m8 (vL rfl) (qp (g:=yc)) ZY (bl Y).all_ IG (b6 (i8 (f8 (j5 (VQ 14 Qb Vu) rfl (y8 (i8 (f8 (qcD (jV Y) (gw Y) (b6 (qv .B 0) (b6 (qv .B 1) b8)))))) (λ_ _ _ _=>(@d4 _ _ 2 _ (by decide +kernel:(Vu:Zq).Nodup) rfl (Or.inl rfl) (.inr rfl))) i7 (l7 (show 2<=2 by decide)) (λ_ _ _ _=>q4) (λ_ _ _ _=>(r9 (qcD (cv Y) (bN Y) (b6 (qv .B 2) (b6 (qv .B 1) b8)))))))) b8))))
def ff:Def (hk w) mg "ending" (top 17) QG 120 (FD "ending" 17 V8 119):=dk Y ZK λ_ _ _ _ _ _=>us4 λ_ _ _ _=>rfl
def xn:FnOk P w (hk w) mg base CX0 4 120 (FD "ending" 17 V8 119) QG (spX (hk w) 4 cF):=
 okX (ff Y) fQ rfl rfl λI=>(b9 (m5 (i:=4) fQ.nd rfl ZV (az (qv .C 1) (Y7 L8 (Z4 (g:=F8) (λ_=>rfl) (λ_ _=>.int)) c9)) ZY ZV) (b9 (m5 (i:=5) fQ.nd rfl ZV (f7 Y9 fF (m8 v5 v4 ZY (bl Y).len_ qD2 (b6 (qv .B 1) b8)) c9) ZY ZV) (b9 (j3 (g8 X2 xGt (m8 v5 v4 ZY (bl Y).len_ qD2 (b6 (qv .B 4) b8)) (qv .B 2)) (c7 (f9 (r9 (v8 (b6 E3 (b6 (qv .V 5) b8)))))) i9) (b9 (j3 (v7 (i8 (f8 (qcD (um Y) (nT Y) (b6 (qv .B 0) (b6 (qv .B 4) b8)))))) (c7 (f9 (r9 (v8 (b6 (qv .V 3) (b6 (qv .V 4) b8)))))) i9) (b9 (j3 (g8 (Z0 (E7 I)) (M2 (neg:=false)) (qv .B 5) (qv .B 2)) (c7 (f9 (r9 (v8 (b6 E3 (b6 (qv .V 5) b8)))))) i9) (c7 (f9 E4)))))))
def fy:Def (hk w) mg "moves_into" (top 19) Qk 132 (FD "moves_into" 19 V8 131):=dk Y ZK λ_ _ _ _ _ _=>us3 λ_ _ _=>rfl
def mO:FnOk P w (hk w) mg base CX0 4 132 (FD "moves_into" 19 V8 131) Qk (spM (hk w) 3 .F ad):=
 okF (fy Y) lX (.inl rfl) rfl rfl λI=>(c7 (f9 (j5 (VQ 19 Qk Vg) rfl (@mH _ _ _ _ _ _ _ _ _ _ ZY (bl Y).enumerate_ (b6 (qv .B 1) b8) ZY ZY) (λ_ _ _ _=>(@D1 _ (hk w) _ _ _ _ 2 rfl (j8 (@d4 _ _ 3 _ (by decide +kernel:(Vg:Zq).Nodup) rfl (Or.inl rfl) (.inr rfl)) (j8 (@d4 _ _ 4 _ (by decide +kernel:(Vg:Zq).Nodup) rfl (Or.inl rfl) (.inr rfl)) D0)) ZY ZY ZY)) (J5 (.inr rfl) (k6 (.inr rfl) i7 (k6 (.inr rfl) i7 D3))) (R0 (v0 (show 3<=3 by decide) (v0 (show 3<=4 by decide) R3))) (λ_ _ _ _=>(M0 (PW.pt (gO (v7 (i8 (f8 (qcD (mR Y) (lK Y) (b6 (qv .B 0) (b6 (qv .B 4) b8)))))) (eN (v7 (i8 (f8 (qcD (cv Y) (bN Y) (b6 (i8 (f8 (qcD (ji Y) (iB Y) (b6 (qv .B 0) (b6 (qv .B 4) b8))))) (b6 (qv .B 2) b8))))))))))) (λ_ _ _ _=>(qv .V 3)))))
def U5:Def (hk w) mg "row_inward" (top 18) QH 127 (FD "row_inward" 18 V8 126):=dk Y ZK λ_ _ _ _ _ _=>us2 λ_ _=>rfl
def mN:FnOk P w (hk w) mg base CX0 5 127 (FD "row_inward" 18 V8 126) QH (spX (hk w) 2 R5):=
 okX (U5 Y) G8 rfl rfl λI=>(b9 (i6 (i:=2) G8.nd rfl ZV (w8 b8) ZY ZV) (b9 (m5 (i:=3) G8.nd rfl ZV (az (qv .C 0) c9) ZY ZV) (b9 (w9 qC2 rfl (@Jj _ _ _ _ _ _ _ _ ZY (bl Y).reversed_ (b6 (dy (r9 (@jb _ _ _ _ _ _ true _ _ _ _ _ (qv .C 1) fV (fS (Y7 L8 (Z4 (g:=F8) (λ_=>rfl) (λ_ _=>.int)) c9)) ZY))) b8) ZY ZY) (@d4 _ _ 4 _ G8.nd rfl ZV ZV) i7 (b9 (m5 (i:=5) G8.nd rfl ZV (az (f8 (qcD (mO Y) (fy Y) (b6 (qv .B 3) (b6 (g7 (d9 (qv .B 0) c9)) (b6 (qv .B 4) b8))))) c9) ZY ZV) (b9 (@U0 _ _ _ _ _ _ _ 2 _ _ _ _ rfl ZV (qv .V 5) ZU ZU ZY ZY ZY ZY ZY) (c7 (i6 (i:=3) G8.nd rfl ZV (qcD (ji Y) (iB Y) (b6 (qv .B 3) (b6 (g7 (d9 (g7 (d9 (qv .B 0) c9)) (qv .B 5))) b8))) ZY ZV))))) (c7 (@J0 _ _ _ _ _ 2 _ _ (.inr rfl) ZY ZV ZU ZU)))))
def vD:Def (hk w) mg "cover" (top 16) QI 113 (FD "cover" 16 V8 112):=dk Y ZK λ_ _ _ _ _ _=>us3 λ_ _ _=>rfl
def Bg:FnOk P w (hk w) mg base CX0 6 113 (FD "cover" 16 V8 112) QI (spM (hk w) 3 .V jG):=
 okF (vD Y) iW (.inr rfl) rfl rfl λI=>(b9 (i6 (i:=3) iW.nd rfl ZV (w8 (b6 (r9 (w8 (b6 (qv .V 1) b8))) b8)) ZY ZV) (b9 (S4 qC2 (Y8 (v7 (i8 (f8 (qcD (cv Y) (bN Y) (b6 (g7 (d9 (qv .B 0) c9)) (b6 (g7 (d9 (qv .B 3) (Y7 L8 (Z4 (g:=F8) (λ_=>rfl) (λ_ _=>.int)) c9))) b8))))))) (b9 (@AK _ _ _ _ _ _ _ 4 _ [3] _ _ _ _ _ _ _ _ _ _ _ iW.nd rfl ZV (xn Y) ZV ZY (ff Y).m (ff Y).F.kp (ff Y).b (b6 (N6 (d9 (qv .B 0) c9)) (b6 (qv .V 3) (b6 (qv .V 2) (b6 E3 b8)))) ZU ZY ZY ZY ZV) (b9 (j3 (g8 eO eQ (qv .B 4) E4) (c7 (@J0 _ _ _ _ _ 4 _ _ (.inr rfl) ZY ZV ZU ZU)) i9) (c7 (@U0 _ _ _ _ _ _ _ 3 _ _ _ _ rfl ZV (r9 (qcD (oy Y) (iz Y) (b6 (g7 (d9 (qv .B 0) c9)) (b6 (g7 (d9 (qv .B 3) (Y7 L8 (Z4 (g:=F8) (λ_=>rfl) (λ_ _=>.int)) c9))) b8)))) ZU ZU ZY ZY ZY ZY ZY))))) (c7 (C6 (f9 (r9 (v8 (b6 E3 (b6 (@AO _ _ _ _ _ _ _ _ _ _ _ _ _ _ _ (mN Y) ZV ZY (U5 Y).m (U5 Y).F.kp (U5 Y).b (b6 (qv .V 0) (b6 (qv .V 3) b8)) ZU ZY ZY) b8)))))))))
def nR:Def (hk w) mg "shifted" (top 21) Ql 137 (FD "shifted" 21 rB 136):=dk Y ZK λ_ _ _ _ _ _=>us3 λ_ _ _=>rfl
def uk:FnOk P w (hk w) mg base CX0 1 137 (FD "shifted" 21 rB 136) Ql (spM (hk w) 3 .F dQ):=
 okF (nR Y) tu (.inl rfl) rfl rfl λI=>(c7 (f9 (w4 x9 (x8 (c:=true)) ZY (bl Y).tuple_ l5 (b6 (f8 (j5 (VQ 21 Ql Vh) rfl (dw ZY (bl Y).zip_ (b6 (qv .B 0) (b6 (qv .B 1) b8))) (λ_ _ _ _=>(@D1 _ (hk w) _ _ _ _ 2 rfl (j8 (@d4 _ _ 3 _ (by decide +kernel:(Vh:Zq).Nodup) rfl (Or.inl rfl) (.inr rfl)) (j8 (@d4 _ _ 4 _ (by decide +kernel:(Vh:Zq).Nodup) rfl (Or.inl rfl) (.inr rfl)) D0)) ZY ZY ZY)) (J5 (.inr rfl) (k6 (.inr rfl) i7 (k6 (.inr rfl) i7 D3))) (R0 (v0 (show 3<=3 by decide) (v0 (show 3<=4 by decide) R3))) (λ_ _ _ _=>q4) (λ_ _ _ _=>(f7 t8 B8 (qv .B 3) (f7 u8 VN (qv .B 2) (qv .B 4)))))) b8))))
def iy:Def (hk w) mg "weigh" (top 23) Qm 142 (FD "weigh" 23 rz 141):=dk Y ZK λ_ _ _ _ _ _=>us2 λ_ _=>rfl
def jg:FnOk P w (hk w) mg base CX0 1 142 (FD "weigh" 23 rz 141) Qm (spM (hk w) 2 .F bG):=
 okF (iy Y) Ap (.inl rfl) rfl rfl λI=>(c7 (f9 (m8 (P6 rfl) (bU (g:=K4)) ZY (bl Y).sum_ bR (b6 (i8 (f8 (j5 (VQ 23 Qm Vi) rfl (dw ZY (bl Y).zip_ (b6 (qv .B 0) (b6 (qv .B 1) b8))) (λ_ _ _ _=>(@D1 _ (hk w) _ _ _ _ 2 rfl (j8 (@d4 _ _ 2 _ (by decide +kernel:(Vi:Zq).Nodup) rfl (Or.inl rfl) (.inr rfl)) (j8 (@d4 _ _ 3 _ (by decide +kernel:(Vi:Zq).Nodup) rfl (Or.inl rfl) (.inr rfl)) D0)) ZY ZY ZY)) (J5 (.inr rfl) (k6 (.inr rfl) i7 (k6 (.inr rfl) i7 D3))) (R0 (v0 (show 2<=2 by decide) (v0 (show 2<=3 by decide) R3))) (λ_ _ _ _=>q4) (λ_ _ _ _=>(f7 u8 VN (qv .B 2) (qv .B 3)))))) b8))))
def zC:Def (hk w) mg "unit" (top 26) Qn 152 (FD "unit" 26 F7 151):=dk Y ZK λ_ _ _ _ _ _=>us2 λ_ _=>rfl
def FK:FnOk P w (hk w) mg base CX0 1 152 (FD "unit" 26 F7 151) Qn (spM (hk w) 2 .F nL):=
 okF (zC Y) DT (.inl rfl) rfl rfl λI=>(c7 (f9 (w4 x9 (x8 (c:=true)) ZY (bl Y).tuple_ l5 (b6 (f8 (j5 (VQ 26 Qn ["place","many","at"]) rfl (z9 ZY (bl Y).range_ (b6 (qv .B 1) b8)) (λ_ _ _ _=>(@d4 _ _ 2 _ (by decide +kernel:(["place","many","at"]:Zq).Nodup) rfl (Or.inl rfl) (.inr rfl))) i7 (l7 (show 2<=2 by decide)) (λ_ _ _ _=>q4) (λ_ _ _ _=>(qL (g8 (Z0 (E7 I)) (M2 (neg:=false)) (qv .B 2) (qv .B 0)) c9 c9)))) b8))))
def gy:Def (hk w) mg "lowered" (top 31) Qx 183 (FD "lowered" 31 F7 182):=dk Y ZK λ_ _ _ _ _ _=>us3 λ_ _ _=>rfl
def jW:FnOk P w (hk w) mg base CX0 2 183 (FD "lowered" 31 F7 182) Qx (spM (hk w) 3 .F aI):=
 okF (gy Y) tz (.inl rfl) rfl rfl λI=>(c7 (f9 (qcD (uk Y) (nR Y) (b6 (qv .B 0) (b6 (qv .B 1) (b6 (Y7 L8 (Z4 (g:=F8) (λ_=>rfl) (λ_ _=>.int)) (f7 xj (j9 (C:=aO) (g:=gFz) (λ_ _=>rfl) (λ_ _ _=>.int)) (g7 (d9 (qv .B 0) (qv .B 2))) (g7 (d9 (qv .B 1) (qv .B 2))))) b8))))))
def nU:Def (hk w) mg "divided" (top 29) QJ 171 (FD "divided" 29 F7 170):=dk Y ZK λ_ _ _ _ _ _=>us3 λ_ _ _=>rfl
def uo:FnOk P w (hk w) mg base CX0 3 171 (FD "divided" 29 F7 170) QJ (spM (hk w) 3 .F dU):=
 okF (nU Y) aw (.inl rfl) rfl rfl λI=>(b9 (S4 qC2 (g8 gR dC (g7 (d9 (qv .B 1) (qv .B 2))) c9) (b9 (i6 (i:=3) aw.nd rfl ZV (qcD (jW Y) (gy Y) (b6 (qv .B 0) (b6 (qv .B 1) (b6 (qv .B 2) b8)))) ZY ZV) (b9 (m5 (i:=0) aw.nd rfl ZV (qv .V 1) ZY ZV) (c7 (C6 (m5 (i:=1) aw.nd rfl ZV (qv .V 3) ZY ZV)))))) (c7 (f9 (v8 (b6 (qv .V 0) (b6 (qv .V 1) b8))))))
def kK:Def (hk w) mg "gathered" (top 28) QK 164 (FD "gathered" 28 F7 163):=dk Y ZK λ_ _ _ _ _ _=>us2 λ_ _=>rfl
def qR:FnOk P w (hk w) mg base CX0 4 164 (FD "gathered" 28 F7 163) QK (spM (hk w) 2 .F cE):=
 okF (kK Y) Q0 (.inl rfl) rfl rfl λI=>(b9 (i6 (i:=2) Q0.nd rfl ZV (@jb _ _ _ _ _ _ false _ _ _ _ _ (qv .B 0) fV (fS c9) ZY) ZY ZV) (b9 (w9 qC2 rfl (C4 (dy (r9 (@jb _ _ _ _ _ _ false _ _ _ _ _ (qv .B 0) (fS c9) fV ZY)))) (@d4 _ _ 3 _ Q0.nd rfl ZV ZV) i7 (b9 (i6 (i:=4) Q0.nd rfl ZV (qcD (uo Y) (nU Y) (b6 (g7 (d9 (qv .B 2) c9)) (b6 (qv .B 3) (b6 (qv .B 1) b8)))) ZY ZV) (c7 (i6 (i:=2) Q0.nd rfl ZV (f7 Z2 (Z3 (c:=true)) (f8 (f7 Z2 (Z3 (c:=true)) (f8 (w8 (b6 (az (qv .C 4) c9) b8))) (f8 (@jb _ _ _ _ _ _ true _ _ _ _ _ (qv .C 2) (fS c9) fV ZY)))) (f8 (w8 (b6 (az (qv .C 4) c9) b8)))) ZY ZV)))) (c7 (@J0 _ _ _ _ _ 2 _ _ (.inl rfl) ZY ZV ZU ZU))))
def nQ:Def (hk w) mg "upright" (top 30) Qo 176 (FD "upright" 30 F7 175):=dk Y ZK λ_ _ _ _ _ _=>us2 λ_ _=>rfl
def uj:FnOk P w (hk w) mg base CX0 1 176 (FD "upright" 30 F7 175) Qo (spM (hk w) 2 .F aH):=
 okF (nQ Y) tm (.inl rfl) rfl rfl λI=>(c7 (f9 (qL (g8 X2 xGt (g7 (d9 (qv .B 0) (qv .B 1))) c9) (qv .F 0) (w4 x9 (x8 (c:=true)) ZY (bl Y).tuple_ l5 (b6 (f8 (j5 (VQ 30 Qo Vv) rfl (y8 (qv .B 0)) (λ_ _ _ _=>(@d4 _ _ 2 _ (by decide +kernel:(Vv:Zq).Nodup) rfl (Or.inl rfl) (.inr rfl))) i7 (l7 (show 2<=2 by decide)) (λ_ _ _ _=>q4) (λ_ _ _ _=>(Y7 L8 (Z4 (g:=F8) (λ_=>rfl) (λ_ _=>.int)) (qv .B 2))))) b8)))))
def zF:Def (hk w) mg "neat" (top 27) Qe 157 (FD "neat" 27 F7 156):=dk Y ZK λ_ _ _ _ _ _=>us1 λ_=>rfl
def FL:FnOk P w (hk w) mg base CX0 5 157 (FD "neat" 27 F7 156) Qe (spM (hk w) 1 .F nM):=
 okF (zF Y) P9 (.inl rfl) rfl rfl λI=>(b9 (i6 (i:=1) P9.nd rfl ZV (w8 b8) ZY ZV) (b9 (@tO _ _ _ _ _ _ _ 2 _ _ P9.nd rfl ZV (qv .U 0) ZY ZV) (b9 (m5 (i:=3) P9.nd rfl ZV c9 ZY ZV) (b9 (S4 qC2 (g8 X2 xGt (m8 v5 v4 ZY (bl Y).len_ qD2 (b6 (qv .B 2) b8)) c9) (b9 (i6 (i:=2) P9.nd rfl ZV (qcD (qR Y) (kK Y) (b6 (qv .B 2) (b6 (qv .B 3) b8))) ZY ZV) (b9 (j3 (g8 gR dC (g7 (d9 (g7 (d9 (qv .B 2) c9)) (qv .B 3))) c9) (b9 (i6 (i:=4) P9.nd rfl ZV (qcD (uj Y) (nQ Y) (b6 (g7 (d9 (qv .B 2) c9)) (b6 (qv .B 3) b8))) ZY ZV) (b9 (C6 (i6 (i:=1) P9.nd rfl ZV (f7 Z2 (Z3 (c:=true)) (f8 (j5 (VQ 27 Vn Vw) rfl (y8 (qv .B 1)) (λ_ _ _ _=>(@d4 _ _ 5 _ (by decide +kernel:(Vw:Zq).Nodup) rfl (Or.inl rfl) (.inr rfl))) i7 (l7 (show 5<=5 by decide)) (λ_ _ _ _=>q4) (λ_ _ _ _=>(r9 (qcD (jW Y) (gy Y) (b6 (qv .B 5) (b6 (qv .B 4) (b6 (qv .B 3) b8)))))))) (f8 (w8 (b6 (qv .V 4) b8)))) ZY ZV)) (c7 (i6 (i:=2) P9.nd rfl ZV (@jb _ _ _ _ _ _ true _ _ _ _ _ (qv .C 2) (fS c9) fV ZY) ZY ZV)))) i9) (c7 (@zc _ _ _ _ _ _ _ 3 _ _ _ _ P9.nd rfl ZV c9 va ZV))))) (c7 (@J0 _ _ _ _ _ 1 _ _ (.inl rfl) ZY ZV ZU ZU))))))
def dY:Def (hk w) mg "balances" (top 25) QL 147 (FD "balances" 25 F7 146):=dk Y ZK λ_ _ _ _ _ _=>us2 λ_ _=>rfl
def gX:FnOk P w (hk w) mg base CX0 6 147 (FD "balances" 25 F7 146) QL (spM (hk w) 2 .F N2):=
 okF (dY Y) M7 (.inl rfl) rfl rfl λI=>(b9 (bo (i:=2) (VQ 25 Qy Vx) rfl (z9 ZY (bl Y).range_ (b6 (qv .B 1) b8)) (λ_ _ _ _=>(@d4 _ _ 6 _ (by decide +kernel:(Vx:Zq).Nodup) rfl (Or.inl rfl) (.inr rfl))) i7 (l7 (show 6<=6 by decide)) (λ_ _ _ _=>q4) (λ_ _ _ _=>(r9 (qcD (FK Y) (zC Y) (b6 (qv .B 6) (b6 (qv .B 1) b8))))) M7.nd rfl ZV) (b9 (w9 qC2 rfl (C4 (qv .U 0)) (@d4 _ _ 3 _ M7.nd rfl ZV ZV) i7 (b9 (i6 (i:=4) M7.nd rfl ZV (qcD (mQ Y) (jI Y) (b6 (qv .B 3) b8)) ZY ZV) (b9 (i6 (i:=5) M7.nd rfl ZV (qcD (FL Y) (zF Y) (b6 (i8 (f8 (j5 (VQ 25 Qy Vy) rfl (y8 (qv .B 2)) (λ_ _ _ _=>(@d4 _ _ 6 _ (by decide +kernel:(Vy:Zq).Nodup) rfl (Or.inl rfl) (.inr rfl))) i7 (l7 (show 6<=6 by decide)) (λ_ _ _ _=>q4) (λ_ _ _ _=>(r9 (f7 pk pp (g7 (bj (b6 (dy (r9 (qcD (jg Y) (iy Y) (b6 (qv .B 6) (b6 (qv .B 4) b8))))) b8))) (qv .B 6))))))) b8)) ZY ZV) (c7 (bo (i:=2) (VQ 25 Qy Vz) rfl (y8 (qv .B 5)) (λ_ _ _ _=>(@d4 _ _ 6 _ (by decide +kernel:(Vz:Zq).Nodup) rfl (Or.inl rfl) (.inr rfl))) i7 (l7 (show 6<=6 by decide)) (λ_ _ _ _=>(M0 (g8 C7 y9 (g7 (d9 (qv .B 6) c9)) c9))) (λ_ _ _ _=>(r9 (@Ji _ _ _ _ _ _ _ _ _ _ _ (qv .B 6) (fS c9) fV ZY))) M7.nd rfl ZV))))) (c7 (@J0 _ _ _ _ _ 2 _ _ (.inl rfl) ZY ZV ZU ZU))))
def kI:Def (hk w) mg "way_back" (top 33) Qg 190 (FD "way_back" 33 xR 189):=dk Y ZK λ_ _ _ _ _ _=>us2 λ_ _=>rfl
def qP:FnOk P w (hk w) mg base CX0 1 190 (FD "way_back" 33 xR 189) Qg (spM (hk w) 2 .F X4):=
 okF (kI Y) W9 (.inl rfl) rfl rfl λI=>(b9 (i6 (i:=2) W9.nd rfl ZV (w8 b8) ZY ZV) (b9 (m5 (i:=3) W9.nd rfl ZV (qv .V 1) ZY ZV) (b9 (S4 qC2 (g8 eO eQ (qv .B 3) E4) (b9 (@U0 _ _ _ _ _ _ _ 2 _ _ _ _ rfl ZV (qv .V 3) ZU ZU ZY ZY ZY ZY ZY) (c7 (@tO _ _ _ _ _ _ _ 3 _ _ W9.nd rfl ZV (d9 (g7 (d9 (qv .B 0) (qv .B 3))) c9) ZY ZV)))) (c7 (@J0 _ _ _ _ _ 2 _ _ (.inl rfl) ZY ZV ZU ZU)))))
def HE:Def (hk w) mg "way" (top 35) Qg 197 (FD "way" 35 jC 196):=dk Y ZK λ_ _ _ _ _ _=>us2 λ_ _=>rfl
def JE:FnOk P w (hk w) mg base CX0 2 197 (FD "way" 35 jC 196) Qg (spM (hk w) 2 .F rG):=
 okF (HE Y) IZ (.inl rfl) rfl rfl λI=>(c7 (f9 (@Fb _ _ _ _ _ _ _ _ _ rfl ZY (bl Y).list_ ZY (bl Y).reversed_ (b6 (i8 (f8 (qcD (qP Y) (kI Y) (b6 (qv .B 0) (b6 (qv .B 1) b8))))) b8) ZY ZY ZY)))
def dX:Def (hk w) mg "row_between" (top 36) QM 202 (FD "row_between" 36 jC 201):=dk Y ZK λ_ _ _ _ _ _=>us3 λ_ _ _=>rfl
def kU:FnOk P w (hk w) mg base CX0 3 202 (FD "row_between" 36 jC 201) QM (spM (hk w) 3 .F V9):=
 okF (dX Y) cO (.inl rfl) rfl rfl λI=>(b9 (i6 (i:=3) cO.nd rfl ZV (qcD (JE Y) (HE Y) (b6 (qv .B 0) (b6 (qv .B 2) b8))) ZY ZV) (c7 (f9 (j5 (VQ 36 Vo VA) rfl (y8 (i8 (f8 (@jb _ _ _ _ _ _ true _ _ _ _ _ (qv .C 3) (fS (f7 t8 B8 (@jc _ _ _ _ _ _ _ _ _ _ (E7 I) (qv .B 3) (qv .B 1) ZY ZY ZY ZY ZY ZY) c9)) fV ZY)))) (λ_ _ _ _=>(@d4 _ _ 4 _ (by decide +kernel:(VA:Zq).Nodup) rfl (Or.inl rfl) (.inr rfl))) i7 (l7 (show 4<=4 by decide)) (λ_ _ _ _=>q4) (λ_ _ _ _=>(N6 (d9 (g7 (d9 (qv .B 0) (qv .B 4))) c9)))))))
def bL:Def (hk w) mg "stands_behind" (top 39) Qc 214 (FD "stands_behind" 39 V7 213):=dk Y ZK λ_ _ _ _ _ _=>us2 λ_ _=>rfl
def gW:FnOk P w (hk w) mg base CX0 4 214 (FD "stands_behind" 39 V7 213) Qc (spM (hk w) 2 .F R4):=
 okF (bL Y) gI (.inl rfl) rfl rfl λI=>(c7 (f9 (j5 (VQ 39 Qc Vj) rfl (@mH _ _ _ _ _ _ _ _ _ _ ZY (bl Y).enumerate_ (b6 (g7 (d9 (qv .B 0) c9)) b8) ZY ZY) (λ_ _ _ _=>(@D1 _ (hk w) _ _ _ _ 2 rfl (j8 (@d4 _ _ 2 _ (by decide +kernel:(Vj:Zq).Nodup) rfl (Or.inl rfl) (.inr rfl)) (j8 (@d4 _ _ 3 _ (by decide +kernel:(Vj:Zq).Nodup) rfl (Or.inl rfl) (.inr rfl)) D0)) ZY ZY ZY)) (J5 (.inr rfl) (k6 (.inr rfl) i7 (k6 (.inr rfl) i7 D3))) (R0 (v0 (show 2<=2 by decide) (v0 (show 2<=3 by decide) R3))) (λ_ _ _ _=>(M0 (v7 (i8 (f8 (qcD (mR Y) (lK Y) (b6 (qv .B 1) (b6 (qv .B 3) b8)))))))) (λ_ _ _ _=>(r9 (v8 (b6 (r9 (qcD (ji Y) (iB Y) (b6 (qv .B 1) (b6 (qv .B 3) b8)))) (b6 (qv .V 2) b8))))))))
def vB:Def (hk w) mg "flood" (top 38) QN 209 (FD "flood" 38 V7 208):=dk Y ZK λ_ _ _ _ _ _=>us2 λ_ _=>rfl
def Bf:FnOk P w (hk w) mg base CX0 5 209 (FD "flood" 38 V7 208) QN (spM (hk w) 2 .F jF):=
 okF (vB Y) P2 (.inl rfl) rfl rfl λI=>(b9 (i6 (i:=2) P2.nd rfl ZV (w8 (b6 (r9 (v8 (b6 (N6 (d9 (qv .B 0) c9)) (b6 E4 (b6 E4 b8))))) b8)) ZY ZV) (b9 (@Fg _ _ _ _ _ _ _ _ _ 3 _ _ _ (E7 I) P2.nd rfl ZV (g7 (d9 (qv .B 0) c9)) F5 ZY (by first|show Or.inl rfl|show Or.inr rfl|assumption)) (b9 (m5 (i:=4) P2.nd rfl ZV c9 ZY ZV) (b9 (S4 qC2 (g8 eP xLt (qv .B 4) (m8 v5 v4 ZY (bl Y).len_ qD2 (b6 (qv .B 2) b8))) (b9 (m5 (i:=5) P2.nd rfl ZV (az (Fm (az (qv .C 2) (qv .C 4))) c9) ZY ZV) (b9 (w9 qC2 rfl (C4 (dy (r9 (qcD (gW Y) (bL Y) (b6 (qv .B 0) (b6 (qv .B 5) b8)))))) (@D1 _ (hk w) _ _ _ _ 2 rfl (j8 (@d4 _ _ 6 _ P2.nd rfl ZV ZV) (j8 (@d4 _ _ 7 _ P2.nd rfl ZV ZV) D0)) ZY ZY ZY) (J5 (.inr rfl) (k6 (.inr rfl) i7 (k6 (.inr rfl) i7 D3))) (b9 (j3 (@Jm _ _ _ _ _ _ 3 _ _ (E7 I) rfl ZV (qv .B 6) ZU ZU ZY) (c7 Fi) i9) (b9 (j3 (g8 C7 y9 (m8 v5 v4 ZY (bl Y).len_ qD2 (b6 (qv .B 2) b8)) (qv .B 1)) (c7 (C6 (f9 (v8 (b6 (qv .V 2) (b6 F5 b8)))))) i9) (b9 (@Ff _ _ _ _ _ _ _ _ _ 3 _ _ _ (E7 I) rfl ZV (qv .B 6) F5 ZU ZU ZY) (c7 (@U0 _ _ _ _ _ _ _ 2 _ _ _ _ rfl ZV (r9 (v8 (b6 (qv .V 6) (b6 (qv .V 4) (b6 (qv .V 7) b8))))) ZU ZU ZY ZY ZY ZY ZY)))))) (c7 (@zc _ _ _ _ _ _ _ 4 _ _ _ _ P2.nd rfl ZV c9 va ZV))))) (c7 (C6 (f9 (v8 (b6 (qv .V 2) (b6 F5 b8))))))))))
def iA:Def (hk w) mg "stands_in" (top 40) Qe 219 (FD "stands_in" 40 V7 218):=dk Y ZK λ_ _ _ _ _ _=>us1 λ_=>rfl
def oz:FnOk P w (hk w) mg base CX0 1 219 (FD "stands_in" 40 V7 218) Qe (spM (hk w) 1 .F aU):=
 okF (iA Y) ou (.inl rfl) rfl rfl λI=>(c7 (f9 (j5 (VQ 40 Qe ["rows","row"]) rfl (y8 (qv .B 0)) (λ_ _ _ _=>(@d4 _ _ 1 _ (by decide +kernel:(["rows","row"]:Zq).Nodup) rfl (Or.inl rfl) (.inr rfl))) i7 (l7 (show 1<=1 by decide)) (λ_ _ _ _=>q4) (λ_ _ _ _=>(N6 (d9 (qv .B 1) c9))))))
def pV:Def (hk w) mg "row_to" (top 41) Qz 226 (FD "row_to" 41 V7 225):=dk Y ZK λ_ _ _ _ _ _=>us2 λ_ _=>rfl
def xm:FnOk P w (hk w) mg base CX0 4 226 (FD "row_to" 41 V7 225) Qz (spM (hk w) 2 .F gr):=
 okF (pV Y) wC (.inl rfl) rfl rfl λI=>(c7 (f9 (qcD (kU Y) (dX Y) (b6 (qv .B 0) (n6 (b6 (qv .B 1) b8))))))
def aj:Def (hk w) mg "touches" (top 44) Qp 238 (FD "touches" 44 O4 237):=dk Y ZK λ_ _ _ _ _ _=>us2 λ_ _=>rfl
def aA:FnOk P w (hk w) mg base CX0 1 238 (FD "touches" 44 O4 237) Qp (spM (hk w) 2 .F P4):=
 okF (aj Y) tq (.inl rfl) rfl rfl λI=>(c7 (f9 (m8 (vK rfl) (qp (g:=yb)) ZY (bl Y).any_ IF (b6 (i8 (f8 (j5 (VQ 44 Qp VB) rfl (y8 (qv .B 1)) (λ_ _ _ _=>(@d4 _ _ 2 _ (by decide +kernel:(VB:Zq).Nodup) rfl (Or.inl rfl) (.inr rfl))) i7 (l7 (show 2<=2 by decide)) (λ_ _ _ _=>q4) (λ_ _ _ _=>(cu X2 xGt (g7 (d9 (qv .B 0) (qv .B 2))) c9))))) b8))))
def aX:Def (hk w) mg "breaks_dry" (top 43) Qd 233 (FD "breaks_dry" 43 O4 232):=dk Y ZK λ_ _ _ _ _ _=>us2 λ_ _=>rfl
def dB:FnOk P w (hk w) mg base CX0 2 233 (FD "breaks_dry" 43 O4 232) Qd (spM (hk w) 2 .F M3):=
 okF (aX Y) Y6 (.inl rfl) rfl rfl λI=>(b9 (w9 qC2 rfl (@Fe _ _ _ _ _ _ _ _ _ _ ZY (bl Y).enumerate_ (b6 (qv .U 0) b8) ZY ZY) (@D1 _ (hk w) _ _ _ _ 2 rfl (j8 (@d4 _ _ 2 _ Y6.nd rfl ZV ZV) (j8 (@d4 _ _ 3 _ Y6.nd rfl ZV ZV) D0)) ZY ZY ZY) (J5 (.inr rfl) (k6 (.inr rfl) i7 (k6 (.inr rfl) i7 D3))) (c7 (j3 (PW.pt (gO (v7 (i8 (f8 (qcD (aA Y) (aj Y) (b6 (g7 (d9 (qv .B 3) c9)) (b6 (qv .B 1) b8)))))) (eN (Y8 (v7 (i8 (f8 (qcD (aA Y) (aj Y) (b6 (g7 (d9 (qv .B 3) c9)) (b6 (qv .B 1) b8)))))))))) (c7 (@J0 _ _ _ _ _ 2 _ _ (.inl rfl) ZY ZV ZU ZU)) i9))) (c7 (f9 E4)))
def W1:Def (hk w) mg "greatest_dry" (top 45) Qd 243 (FD "greatest_dry" 45 O4 242):=dk Y ZK λ_ _ _ _ _ _=>us2 λ_ _=>rfl
def br:FnOk P w (hk w) mg base CX0 3 243 (FD "greatest_dry" 45 O4 242) Qd (spM (hk w) 2 .F D4):=
 okF (W1 Y) G9 (.inl rfl) rfl rfl λI=>(b9 (m5 (i:=2) G9.nd rfl ZV (qv .V 1) ZY ZV) (b9 (i6 (i:=3) G9.nd rfl ZV (qcD (dB Y) (aX Y) (b6 (qv .B 0) (b6 (qv .B 2) b8))) ZY ZV) (b9 (S4 qC2 (g8 eO eQ (qv .B 3) E4) (b9 (i6 (i:=2) G9.nd rfl ZV (w4 x9 (x8 (c:=true)) ZY (bl Y).tuple_ l5 (b6 (f8 (j5 (VQ 45 Vp VC) rfl (y8 (qv .B 2)) (λ_ _ _ _=>(@d4 _ _ 4 _ (by decide +kernel:(VC:Zq).Nodup) rfl (Or.inl rfl) (.inr rfl))) i7 (l7 (show 4<=4 by decide)) (λ_ _ _ _=>(M0 (g8 C7 y9 (g7 (d9 (g7 (d9 (g7 (d9 (qv .B 0) (qv .B 3))) c9)) (qv .B 4))) c9))) (λ_ _ _ _=>(qv .V 4)))) b8)) ZY ZV) (c7 (i6 (i:=3) G9.nd rfl ZV (qcD (dB Y) (aX Y) (b6 (qv .B 0) (b6 (qv .B 2) b8))) ZY ZV)))) (c7 (@J0 _ _ _ _ _ 2 _ _ (.inl rfl) ZY ZV ZU ZU)))))
def pT:Def (hk w) mg "turned" (top 47) Qq 255 (FD "turned" 47 O4 254):=dk Y ZK λ_ _ _ _ _ _=>us1 λ_=>rfl
def xk:FnOk P w (hk w) mg base CX0 1 255 (FD "turned" 47 O4 254) Qq (spM (hk w) 1 .F gj):=
 okF (pT Y) wA (.inl rfl) rfl rfl λI=>(c7 (f9 (w4 x9 (x8 (c:=true)) ZY (bl Y).tuple_ l5 (b6 (f8 (j5 (VQ 47 Qq Vk) rfl (y8 (qv .B 0)) (λ_ _ _ _=>(@D1 _ (hk w) _ _ _ _ 2 rfl (j8 (@d4 _ _ 1 _ (by decide +kernel:(Vk:Zq).Nodup) rfl (Or.inl rfl) (.inr rfl)) (j8 (@d4 _ _ 2 _ (by decide +kernel:(Vk:Zq).Nodup) rfl (Or.inl rfl) (.inr rfl)) D0)) ZY ZY ZY)) (J5 (.inr rfl) (k6 (.inr rfl) i7 (k6 (.inr rfl) i7 D3))) (R0 (v0 (show 1<=1 by decide) (v0 (show 1<=2 by decide) R3))) (λ_ _ _ _=>q4) (λ_ _ _ _=>(r9 (v8 (b6 (qv .V 2) (b6 (qv .V 1) b8))))))) b8))))
def cX:Def (hk w) mg "greatest_wet" (top 46) Qd 250 (FD "greatest_wet" 46 O4 249):=dk Y ZK λ_ _ _ _ _ _=>us2 λ_ _=>rfl
def jh:FnOk P w (hk w) mg base CX0 4 250 (FD "greatest_wet" 46 O4 249) Qd (spM (hk w) 2 .F S7):=
 okF (cX Y) iU (.inl rfl) rfl rfl λI=>(c7 (f9 (qcD (br Y) (W1 Y) (b6 (i8 (f8 (qcD (xk Y) (pT Y) (b6 (qv .B 0) b8)))) (b6 (qv .B 1) b8)))))
def aK:Def (hk w) mg "unlike_balance" (top 50) Qc 269 (FD "unlike_balance" 50 O5 268):=dk Y ZK λ_ _ _ _ _ _=>us2 λ_ _=>rfl
def fW:FnOk P w (hk w) mg base CX0 7 269 (FD "unlike_balance" 50 O5 268) Qc (spM (hk w) 2 .V K5):=
 okF (aK Y) Y5 (.inr rfl) rfl rfl λI=>(b9 (w9 qC2 rfl (C4 (dy (r9 (qcD (gX Y) (dY Y) (b6 (g7 (d9 (qv .B 0) c9)) (b6 (m8 v5 v4 ZY (bl Y).len_ qD2 (b6 (qv .B 1) b8)) b8)))))) (@d4 _ _ 2 _ Y5.nd rfl ZV ZV) i7 (c7 (j3 (g8 (gQ (E7 I)) (M2 (neg:=true)) (i8 (f8 (qcD (jg Y) (iy Y) (b6 (qv .B 2) (b6 (qv .B 1) b8))))) (i8 (f8 (qcD (jg Y) (iy Y) (b6 (qv .B 2) (b6 (g7 (d9 (qv .B 0) c9)) b8)))))) (c7 (f9 (r9 (v8 (b6 E3 (b6 (qv .V 2) b8)))))) i9))) (c7 (f9 E4)))
def W2:Def (hk w) mg "empty_places" (top 52) Qr 281 (FD "empty_places" 52 O5 280):=dk Y ZK λ_ _ _ _ _ _=>us1 λ_=>rfl
def bt:FnOk P w (hk w) mg base CX0 1 281 (FD "empty_places" 52 O5 280) Qr (spM (hk w) 1 .F N1):=
 okF (W2 Y) iV (.inl rfl) rfl rfl λI=>(c7 (f9 (w4 x9 (x8 (c:=true)) ZY (bl Y).tuple_ l5 (b6 (f8 (j5 (VQ 52 Qr Vl) rfl (@mH _ _ _ _ _ _ _ _ _ _ ZY (bl Y).enumerate_ (b6 (qv .B 0) b8) ZY ZY) (λ_ _ _ _=>(@D1 _ (hk w) _ _ _ _ 2 rfl (j8 (@d4 _ _ 1 _ (by decide +kernel:(Vl:Zq).Nodup) rfl (Or.inl rfl) (.inr rfl)) (j8 (@d4 _ _ 2 _ (by decide +kernel:(Vl:Zq).Nodup) rfl (Or.inl rfl) (.inr rfl)) D0)) ZY ZY ZY)) (J5 (.inr rfl) (k6 (.inr rfl) i7 (k6 (.inr rfl) i7 D3))) (R0 (v0 (show 1<=1 by decide) (v0 (show 1<=2 by decide) R3))) (λ_ _ _ _=>(M0 (g8 C7 y9 (qv .B 2) c9))) (λ_ _ _ _=>(qv .V 1)))) b8))))
def kJ:Def (hk w) mg "kept_out" (top 51) Qc 276 (FD "kept_out" 51 O5 275):=dk Y ZK λ_ _ _ _ _ _=>us2 λ_ _=>rfl
def qQ:FnOk P w (hk w) mg base CX0 5 276 (FD "kept_out" 51 O5 275) Qc (spM (hk w) 2 .V X5):=
 okF (kJ Y) cq (.inr rfl) rfl rfl λI=>(b9 (i6 (i:=2) cq.nd rfl ZV (qcD (br Y) (W1 Y) (b6 (g7 (d9 (qv .B 0) c9)) (b6 (i8 (f8 (qcD (bt Y) (W2 Y) (b6 (g7 (d9 (qv .B 0) c9)) b8)))) b8))) ZY ZV) (b9 (j3 (v7 (i8 (f8 (qcD (aA Y) (aj Y) (b6 (qv .B 1) (b6 (qv .B 2) b8)))))) (c7 (C6 (f9 (r9 (v8 (b6 E3 (b6 (qv .V 2) b8))))))) i9) (b9 (i6 (i:=3) cq.nd rfl ZV (qcD (jh Y) (cX Y) (b6 (g7 (d9 (qv .B 0) c9)) (b6 (i8 (f8 (qcD (bt Y) (W2 Y) (b6 (qv .B 1) b8)))) b8))) ZY ZV) (b9 (j3 (v7 (i8 (f8 (qcD (aA Y) (aj Y) (b6 (g7 (d9 (qv .B 0) c9)) (b6 (qv .B 3) b8)))))) (c7 (C6 (f9 (r9 (v8 (b6 E3 (b6 (qv .V 3) b8))))))) i9) (c7 (f9 E4))))))
def fx:Def (hk w) mg "walled_off" (top 53) Qh 288 (FD "walled_off" 53 O5 287):=dk Y ZK λ_ _ _ _ _ _=>us3 λ_ _ _=>rfl
def mM:FnOk P w (hk w) mg base CX0 7 288 (FD "walled_off" 53 O5 287) Qh (spM (hk w) 3 .V aa):=
 okF (fx Y) dj (.inr rfl) rfl rfl λI=>(b9 (m5 (i:=3) dj.nd rfl ZV (qcD (Bg Y) (vD Y) (b6 (qv .B 0) (b6 (qv .B 1) (b6 (qv .B 2) b8)))) ZY ZV) (c7 (f9 (qL (g8 C7 y9 (g7 (d9 (qv .B 3) c9)) E3) (qv .V 3) E4))))
def nS:Def (hk w) mg "reached" (top 49) Qh 262 (FD "reached" 49 O5 261):=dk Y ZK λ_ _ _ _ _ _=>us3 λ_ _ _=>rfl
def ul:FnOk P w (hk w) mg base CX0 8 262 (FD "reached" 49 O5 261) Qh (spM (hk w) 3 .V dR):=
 okF (nS Y) P1 (.inr rfl) rfl rfl λI=>(b9 (i6 (i:=3) P1.nd rfl ZV (qcD (Bf Y) (vB Y) (b6 (qv .B 0) (b6 (qv .B 2) b8))) ZY ZV) (b9 (i6 (i:=4) P1.nd rfl ZV (qcD (oz Y) (iA Y) (b6 (g7 (d9 (qv .B 3) c9)) b8)) ZY ZV) (b9 (j3 (g8 (zh (E7 I)) (qT (neg:=false)) (qv .B 1) (qv .B 4)) (c7 (f9 (r9 (v8 (b6 E3 (b6 (r9 (qcD (xm Y) (pV Y) (b6 (g7 (d9 (qv .B 3) c9)) (b6 (@jc _ _ _ _ _ _ _ _ _ _ (E7 I) (qv .B 4) (qv .B 1) ZY ZY ZY ZY ZY ZY) b8)))) b8)))))) i9) (b9 (j3 (v7 (g7 (d9 (qv .B 3) c9))) (c7 (C6 (f9 (r9 (v8 (b6 E3 (b6 (qv .V 4) b8))))))) i9) (b9 (m5 (i:=5) P1.nd rfl ZV (qcD (fW Y) (aK Y) (b6 (qv .B 0) (b6 (qv .B 1) b8))) ZY ZV) (b9 (j3 (g8 gU gY (qv .B 5) E4) (c7 (m5 (i:=5) P1.nd rfl ZV (qcD (qQ Y) (kJ Y) (b6 (qv .B 0) (b6 (qv .B 1) b8))) ZY ZV)) i9) (b9 (j3 (g8 gU gY (qv .B 5) E4) (c7 (m5 (i:=5) P1.nd rfl ZV (qcD (mM Y) (fx Y) (b6 (qv .B 0) (b6 (qv .B 1) (b6 (qv .B 2) b8)))) ZY ZV)) i9) (c7 (f9 (qL (g8 gU gY (qv .B 5) E4) (r9 (v8 (b6 E3 b8))) (qv .V 5)))))))))))
def p8:Def (hk w) mg "_law_cell" (top 55) QO 295 (FD "_law_cell" 55 l4 294):=dk Y ZK λ_ _ _ _ _ _=>us2 λ_ _=>rfl
def o5:FnOk P w (hk w) mg base CX0 1 295 (FD "_law_cell" 55 l4 294) QO (spM (hk w) 2 .F m7):=
 okF (p8 Y) aP (.inl rfl) rfl rfl λI=>(b9 (j3 (g8 eP xLt (qv .B 1) (m8 v5 v4 ZY (bl Y).len_ qD2 (b6 (qv .B 0) b8))) (c7 (f9 (Fk (d9 (qv .B 0) (qv .B 1))))) i9) (b9 (m5 (i:=2) aP.nd rfl ZV (f7 t8 B8 (f7 u8 VN c9 (qv .B 1)) c9) ZY ZV) (b9 (j3 (g8 X2 xGt (m8 v5 v4 ZY (bl Y).len_ qD2 (b6 (qv .B 0) b8)) c9) (c7 (m5 (i:=2) aP.nd rfl ZV (f7 t8 B8 (f7 t8 B8 (f7 u8 VN (g7 (d9 (qv .B 0) (f7 v6 VO (f7 u8 VN (qv .B 1) c9) (m8 v5 v4 ZY (bl Y).len_ qD2 (b6 (qv .B 0) b8))))) c9) (f7 u8 VN (f7 u8 VN (qv .B 1) (qv .B 1)) c9)) c9) ZY ZV)) i9) (c7 (f9 (f7 v6 VO (f7 u8 VN (qv .B 2) (qv .B 2)) c9))))))
def iD:Def (hk w) mg "_law_move" (top 56) QQ 300 (FD "_law_move" 56 l4 299):=dk Y ZK λ_ _ _ _ _ _=>us5 λ_ _ _ _ _=>rfl
def oB:FnOk P w (hk w) mg base CX0 2 300 (FD "_law_move" 56 l4 299) QQ (spM (hk w) 5 .F aW):=
 okF (iD Y) B2 (.inl rfl) rfl rfl λI=>(b9 (i6 (i:=5) B2.nd rfl ZV (w8 b8) ZY ZV) (b9 (i6 (i:=6) B2.nd rfl ZV (w8 b8) ZY ZV) (b9 (w9 qC2 rfl (z9 ZY (bl Y).range_ (b6 (qv .B 2) b8)) (@d4 _ _ 7 _ B2.nd rfl ZV ZV) i7 (b9 (i6 (i:=8) B2.nd rfl ZV (qcD (o5 Y) (p8 Y) (b6 (qv .B 0) (b6 (f7 t8 B8 (qv .B 1) (qv .B 7)) b8))) ZY ZV) (b9 (@U0 _ _ _ _ _ _ _ 5 _ _ _ _ rfl ZV (f7 u8 VN (g7 (d9 (i8 (f8 Fd)) (f7 v6 VO (qv .B 8) c9))) (qv .B 4)) ZU ZU ZY ZY ZY ZY ZY) (c7 (@U0 _ _ _ _ _ _ _ 6 _ _ _ _ rfl ZV (f7 u8 VN (g7 (d9 (i8 (f8 Fc)) (f7 v6 VO (f7 D2 VP (qv .B 8) c9) c9))) (qv .B 4)) ZU ZU ZY ZY ZY ZY ZY))))) (b9 (j3 (v7 (qv .B 3)) (b9 (m5 (i:=9) B2.nd rfl ZV (f7 v6 VO (f7 D2 VP (i8 (f8 (qcD (o5 Y) (p8 Y) (b6 (qv .B 0) (b6 (qv .B 1) b8))))) c9) (qv .B 2)) ZY ZV) (b9 (m5 (i:=10) B2.nd rfl ZV (f7 v6 VO (f7 D2 VP (i8 (f8 (qcD (o5 Y) (p8 Y) (b6 (qv .B 0) (b6 (f7 t8 B8 (qv .B 1) c9) b8))))) c9) (qv .B 2)) ZY ZV) (b9 (bo (i:=5) (VQ 56 QP QD) rfl (z9 ZY (bl Y).range_ (b6 (qv .B 2) b8)) (λ_ _ _ _=>(@d4 _ _ 11 _ (by decide +kernel:(QD:Zq).Nodup) rfl (Or.inl rfl) (.inr rfl))) i7 (l7 (show 11<=11 by decide)) (λ_ _ _ _=>q4) (λ_ _ _ _=>(f7 u8 VN (f7 u8 VN (w4 kO zL ZY (bl Y).int_ iJ (b6 (cu (Z0 (E7 I)) (M2 (neg:=false)) (qv .B 11) (qv .B 9)) b8)) (f7 t8 B8 c9 (f7 u8 VN c9 (qv .B 10)))) (qv .B 4))) B2.nd rfl ZV) (c7 (bo (i:=6) (VQ 56 QP QD) rfl (z9 ZY (bl Y).range_ (b6 (qv .B 2) b8)) (λ_ _ _ _=>(@d4 _ _ 11 _ (by decide +kernel:(QD:Zq).Nodup) rfl (Or.inl rfl) (.inr rfl))) i7 (l7 (show 11<=11 by decide)) (λ_ _ _ _=>q4) (λ_ _ _ _=>(f7 u8 VN (f7 u8 VN (w4 kO zL ZY (bl Y).int_ iJ (b6 (cu (Z0 (E7 I)) (M2 (neg:=false)) (qv .B 11) (qv .B 10)) b8)) (f7 t8 B8 c9 (f7 u8 VN c9 (qv .B 9)))) (qv .B 4))) B2.nd rfl ZV))))) i9) (c7 (f9 (v8 (b6 (r9 (w4 x9 (x8 (c:=true)) ZY (bl Y).tuple_ l5 (b6 (qv .C 5) b8))) (b6 (r9 (w4 x9 (x8 (c:=true)) ZY (bl Y).tuple_ l5 (b6 (qv .C 6) b8))) b8)))))))))
def cY:Def (hk w) mg "_law_one_way" (top 57) QR 307 (FD "_law_one_way" 57 l4 306):=dk Y ZK λ_ _ _ _ _ _=>us3 λ_ _ _=>rfl
def jj:FnOk P w (hk w) mg base CX0 1 307 (FD "_law_one_way" 57 l4 306) QR (spM (hk w) 3 .F S9):=
 okF (cY Y) S3 (.inl rfl) rfl rfl λI=>(b9 (i6 (i:=3) S3.nd rfl ZV (w4 bW (bT (c:=false)) ZY (bl Y).list_ L0 (b6 (g7 (d9 (qv .B 0) c9)) b8)) ZY ZV) (b9 (i6 (i:=4) S3.nd rfl ZV (w4 bW (bT (c:=false)) ZY (bl Y).list_ L0 (b6 (g7 (d9 (qv .B 0) c9)) b8)) ZY ZV) (b9 (@ay _ _ _ _ _ _ _ _ 4 _ _ _ _ rfl ZV c9 c9 ZU ZU (@V0 _ _ _ _ _ _ _ (@pv _ 4 _ _ ZY ZV ZU ZU) c9 set_list (by intro _;rfl)) ZY ZY) (b9 (@ay _ _ _ _ _ _ _ _ 3 _ _ _ _ rfl ZV (Y7 L8 (Z4 (g:=F8) (λ_=>rfl) (λ_ _=>.int)) c9) c9 ZU ZU (@V0 _ _ _ _ _ _ _ (@pv _ 3 _ _ ZY ZV ZU ZU) (Y7 L8 (Z4 (g:=F8) (λ_=>rfl) (λ_ _=>.int)) c9) set_list (by intro _;rfl)) ZY ZY) (b9 (j3 (g8 C7 y9 (qv .B 1) c9) (b9 (@ay _ _ _ _ _ _ _ _ 3 _ _ _ _ rfl ZV c9 c9 ZU ZU (@V0 _ _ _ _ _ _ _ (@pv _ 3 _ _ ZY ZV ZU ZU) c9 set_list (by intro _;rfl)) ZY ZY) (c7 (@ay _ _ _ _ _ _ _ _ 4 _ _ _ _ rfl ZV (Y7 L8 (Z4 (g:=F8) (λ_=>rfl) (λ_ _=>.int)) c9) (f7 t8 B8 (g7 (d9 (qv .B 4) (Y7 L8 (Z4 (g:=F8) (λ_=>rfl) (λ_ _=>.int)) c9))) (qv .B 2)) ZU ZU (@V0 _ _ _ _ _ _ _ (@pv _ 4 _ _ ZY ZV ZU ZU) (Y7 L8 (Z4 (g:=F8) (λ_=>rfl) (λ_ _=>.int)) c9) set_list (by intro _;rfl)) ZY ZY))) i9) (b9 (j3 (g8 C7 y9 (qv .B 1) c9) (c7 (@ay _ _ _ _ _ _ _ _ 3 _ _ _ _ rfl ZV c9 (qv .V 2) ZU ZU (@V0 _ _ _ _ _ _ _ (@pv _ 3 _ _ ZY ZV ZU ZU) c9 set_list (by intro _;rfl)) ZY ZY)) i9) (c7 (f9 (v8 (b6 (r9 (w4 x9 (x8 (c:=true)) ZY (bl Y).tuple_ l5 (b6 (qv .C 3) b8))) (b6 (r9 (w4 x9 (x8 (c:=true)) ZY (bl Y).tuple_ l5 (b6 (qv .C 4) b8))) b8)))))))))))
def M4:Def (hk w) mg "_law_covers" (top 58) QS 314 (FD "_law_covers" 58 l4 313):=dk Y ZK λ_ _ _ _ _ _=>us2 λ_ _=>rfl
def N8:FnOk P w (hk w) mg base CX0 1 314 (FD "_law_covers" 58 l4 313) QS (spM (hk w) 2 .F B9):=
 okF (M4 Y) cQ (.inl rfl) rfl rfl λI=>(b9 (w9 qC2 rfl (z9 ZY (bl Y).range_ (b6 (m8 v5 v4 ZY (bl Y).len_ qD2 (b6 (qv .B 0) b8)) b8)) (@d4 _ _ 2 _ cQ.nd rfl ZV ZV) i7 (c7 (j3 (g8 eP xLt (g7 (d9 (qv .B 0) (qv .B 2))) (g7 (d9 (qv .B 1) (qv .B 2)))) (c7 (f9 F5)) i9))) (c7 (f9 F5)))
def am:Def (hk w) mg "_law_behind" (top 59) Qs 319 (FD "_law_behind" 59 l4 318):=dk Y ZK λ_ _ _ _ _ _=>us2 λ_ _=>rfl
def cS:FnOk P w (hk w) mg base CX0 1 319 (FD "_law_behind" 59 l4 318) Qs (spM (hk w) 2 .F N9):=
 okF (am Y) kT (.inl rfl) rfl rfl λI=>(c7 (f9 (w4 x9 (x8 (c:=true)) ZY (bl Y).tuple_ l5 (b6 (f8 (j5 (VQ 59 Qs VD) rfl (z9 ZY (bl Y).range_ (b6 (m8 v5 v4 ZY (bl Y).len_ qD2 (b6 (qv .B 0) b8)) b8)) (λ_ _ _ _=>(@d4 _ _ 2 _ (by decide +kernel:(VD:Zq).Nodup) rfl (Or.inl rfl) (.inr rfl))) i7 (l7 (show 2<=2 by decide)) (λ_ _ _ _=>q4) (λ_ _ _ _=>(f7 t8 B8 (f7 Y9 fF (g7 (d9 (qv .B 0) (qv .B 2))) (g7 (d9 (g7 (d9 (qv .B 1) c9)) (qv .B 2)))) (g7 (d9 (g7 (d9 (qv .B 1) c9)) (qv .B 2))))))) b8))))
def fB:Def (hk w) mg "_law_drawn" (top 60) QT 324 (FD "_law_drawn" 60 l4 323):=dk Y ZK λ_ _ _ _ _ _=>us3 λ_ _ _=>rfl
def mT:FnOk P w (hk w) mg base CX0 2 324 (FD "_law_drawn" 60 l4 323) QT (spM (hk w) 3 .F ah):=
 okF (fB Y) L9 (.inl rfl) rfl rfl λI=>(b9 (m5 (i:=3) L9.nd rfl ZV (qv .V 1) ZY ZV) (b9 (w9 qC2 rfl (z9 ZY (bl Y).range_ (b6 (f7 v6 VO (f7 D2 VP (i8 (f8 (qcD (o5 Y) (p8 Y) (b6 (qv .B 0) (n6 b8))))) c9) c9) b8)) (@d4 _ _ 4 _ L9.nd rfl ZV ZV) i7 (b9 (bo (i:=5) (VQ 60 Vq VE) rfl (y8 (qv .B 2)) (λ_ _ _ _=>(@d4 _ _ 6 _ (by decide +kernel:(VE:Zq).Nodup) rfl (Or.inl rfl) (.inr rfl))) i7 (l7 (show 6<=6 by decide)) (λ_ _ _ _=>(M0 (v7 (i8 (f8 (qcD (N8 Y) (M4 Y) (b6 (qv .B 3) (b6 (g7 (d9 (qv .B 6) c9)) b8)))))))) (λ_ _ _ _=>(qv .V 6)) L9.nd rfl ZV) (c7 (j3 (g8 (gQ (E7 I)) (M2 (neg:=true)) (qv .B 5) (i8 (f8 (w8 b8)))) (c7 (i6 (i:=3) L9.nd rfl ZV (qcD (cS Y) (am Y) (b6 (qv .B 3) (b6 (g7 (d9 (qv .B 5) (f7 v6 VO (i8 (f8 (qcD (o5 Y) (p8 Y) (b6 (qv .B 0) (b6 (f7 t8 B8 c9 (qv .B 4)) b8))))) (m8 v5 v4 ZY (bl Y).len_ qD2 (b6 (qv .B 5) b8))))) b8))) ZY ZV)) i9)))) (c7 (@J0 _ _ _ _ _ 3 _ _ (.inl rfl) ZY ZV ZU ZU))))
def iC:Def (hk w) mg "_law_wish" (top 61) QU 329 (FD "_law_wish" 61 l4 328):=dk Y ZK λ_ _ _ _ _ _=>us4 λ_ _ _ _=>rfl
def oA:FnOk P w (hk w) mg base CX0 3 329 (FD "_law_wish" 61 l4 328) QU (spM (hk w) 4 .F aV):=
 okF (iC Y) N5 (.inl rfl) rfl rfl λI=>(b9 (i6 (i:=4) N5.nd rfl ZV (qcD (o5 Y) (p8 Y) (b6 (qv .B 0) (n6 b8))) ZY ZV) (b9 (j3 (g8 C7 y9 (f7 v6 VO (qv .B 4) c9) c9) (c7 (f9 (w4 x9 (x8 (c:=true)) ZY (bl Y).tuple_ l5 (b6 (f8 (j5 (VQ 61 Vr VF) rfl (z9 ZY (bl Y).range_ (b6 (m8 v5 v4 ZY (bl Y).len_ qD2 (b6 (qv .B 1) b8)) b8)) (λ_ _ _ _=>(@d4 _ _ 8 _ (by decide +kernel:(VF:Zq).Nodup) rfl (Or.inl rfl) (.inr rfl))) i7 (l7 (show 8<=8 by decide)) (λ_ _ _ _=>q4) (λ_ _ _ _=>(f7 u8 VN (f7 v6 VO (f7 D2 VP (i8 (f8 (qcD (o5 Y) (p8 Y) (b6 (qv .B 0) (b6 (f7 t8 B8 c9 (qv .B 8)) b8))))) c9) c9) (qv .B 3))))) b8)))) i9) (b9 (i6 (i:=5) N5.nd rfl ZV (w4 bW (bT (c:=true)) ZY (bl Y).list_ L0 (b6 (f8 (qcD (mT Y) (fB Y) (b6 (qv .B 0) (b6 (qv .B 1) (b6 (qv .B 2) b8))))) b8)) ZY ZV) (b9 (m5 (i:=6) N5.nd rfl ZV (f7 v6 VO (f7 D2 VP (qv .B 4) c9) (m8 v5 v4 ZY (bl Y).len_ qD2 (b6 (qv .B 1) b8))) ZY ZV) (b9 (j3 (g8 C7 y9 (f7 v6 VO (qv .B 4) c9) c9) (b9 (@ay _ _ _ _ _ _ _ _ 5 _ _ _ _ rfl ZV (qv .B 6) (f7 t8 B8 (g7 (d9 (qv .B 5) (qv .B 6))) (f7 v6 VO (f7 D2 VP (qv .B 4) c9) c9)) ZU ZU (@V0 _ _ _ _ _ _ _ (@pv _ 5 _ _ ZY ZV ZU ZU) (qv .B 6) set_list (by intro _;rfl)) ZY ZY) (c7 (f9 (w4 x9 (x8 (c:=true)) ZY (bl Y).tuple_ l5 (b6 (qv .C 5) b8))))) i9) (b9 (i6 (i:=7) N5.nd rfl ZV (w4 bW (bT (c:=false)) ZY (bl Y).list_ L0 (b6 (qv .B 1) b8)) ZY ZV) (b9 (@ay _ _ _ _ _ _ _ _ 7 _ _ _ _ rfl ZV (qv .B 6) (N6 (d9 (qv .B 1) c9)) ZU ZU (@V0 _ _ _ _ _ _ _ (@pv _ 7 _ _ ZY ZV ZU ZU) (qv .B 6) set_list (by intro _;rfl)) ZY ZY) (b9 (@ay _ _ _ _ _ _ _ _ 7 _ _ _ _ rfl ZV c9 (N6 (d9 (qv .B 1) (qv .B 6))) ZU ZU (@V0 _ _ _ _ _ _ _ (@pv _ 7 _ _ ZY ZV ZU ZU) c9 set_list (by intro _;rfl)) ZY ZY) (c7 (f9 (w4 x9 (x8 (c:=true)) ZY (bl Y).tuple_ l5 (b6 (qv .C 7) b8))))))))))))
def fA:Def (hk w) mg "_law_flood" (top 62) QV 336 (FD "_law_flood" 62 l4 335):=dk Y ZK λ_ _ _ _ _ _=>us3 λ_ _ _=>rfl
def mS:FnOk P w (hk w) mg base CX0 2 336 (FD "_law_flood" 62 l4 335) QV (spM (hk w) 3 .F ag):=
 okF (fA Y) D7 (.inl rfl) rfl rfl λI=>(b9 (i6 (i:=3) D7.nd rfl ZV (w8 (b6 (qv .V 0) b8)) ZY ZV) (b9 (i6 (i:=4) D7.nd rfl ZV (w8 (b6 (r9 (w8 b8)) b8)) ZY ZV) (b9 (m5 (i:=5) D7.nd rfl ZV c9 ZY ZV) (b9 (S4 qC2 (g8 eP xLt (qv .B 5) (m8 v5 v4 ZY (bl Y).len_ qD2 (b6 (qv .B 3) b8))) (b9 (w9 qC2 rfl (z9 ZY (bl Y).range_ (b6 (m8 v5 v4 ZY (bl Y).len_ qD2 (b6 (qv .B 1) b8)) b8)) (@d4 _ _ 6 _ D7.nd rfl ZV ZV) i7 (c7 (j3 (v7 (i8 (f8 (qcD (N8 Y) (M4 Y) (b6 (g7 (d9 (qv .B 3) (qv .B 5))) (b6 (g7 (d9 (g7 (d9 (qv .B 1) (qv .B 6))) c9)) b8)))))) (b9 (i6 (i:=7) D7.nd rfl ZV (qcD (cS Y) (am Y) (b6 (g7 (d9 (qv .B 3) (qv .B 5))) (b6 (g7 (d9 (qv .B 1) (qv .B 6))) b8))) ZY ZV) (c7 (j3 (g8 (FH (E7 I)) (qT (neg:=true)) (qv .B 7) (qv .B 3)) (b9 (j3 (g8 C7 y9 (m8 v5 v4 ZY (bl Y).len_ qD2 (b6 (qv .B 3) b8)) (qv .B 2)) (c7 (C6 (C6 (f9 (v8 (b6 (qv .V 3) (b6 (qv .V 4) (b6 F5 b8)))))))) i9) (b9 (C6 (@U0 _ _ _ _ _ _ _ 3 _ _ _ _ rfl ZV (qv .V 7) ZU ZU ZY ZY ZY ZY ZY)) (c7 (@U0 _ _ _ _ _ _ _ 4 _ _ _ _ rfl ZV (r9 (f7 Z2 (Z3 (c:=true)) (Fm (az (qv .C 4) (qv .C 5))) (f8 (w8 (b6 (qv .V 6) b8))))) ZU ZU ZY ZY ZY ZY ZY)))) i9))) i9))) (c7 (m5 (i:=5) D7.nd rfl ZV (f7 t8 B8 (qv .B 5) c9) ZY ZV)))) (c7 (C6 (C6 (f9 (v8 (b6 (qv .V 3) (b6 (qv .V 4) (b6 F5 b8))))))))))))
def N7:Def (hk w) mg "_law_weigh" (top 63) Qt 341 (FD "_law_weigh" 63 l4 340):=dk Y ZK λ_ _ _ _ _ _=>us2 λ_ _=>rfl
def Q5:FnOk P w (hk w) mg base CX0 1 341 (FD "_law_weigh" 63 l4 340) Qt (spM (hk w) 2 .F J7):=
 okF (N7 Y) mf (.inl rfl) rfl rfl λI=>(c7 (f9 (m8 (P6 rfl) (bU (g:=K4)) ZY (bl Y).sum_ bR (b6 (i8 (f8 (j5 (VQ 63 Qt VG) rfl (z9 ZY (bl Y).range_ (b6 (m8 v5 v4 ZY (bl Y).len_ qD2 (b6 (qv .B 0) b8)) b8)) (λ_ _ _ _=>(@d4 _ _ 2 _ (by decide +kernel:(VG:Zq).Nodup) rfl (Or.inl rfl) (.inr rfl))) i7 (l7 (show 2<=2 by decide)) (λ_ _ _ _=>q4) (λ_ _ _ _=>(f7 u8 VN (g7 (d9 (qv .B 0) (qv .B 2))) (g7 (d9 (qv .B 1) (qv .B 2)))))))) b8))))
def cZ:Def (hk w) mg "_law_balance" (top 64) QW 348 (FD "_law_balance" 64 l4 347):=dk Y ZK λ_ _ _ _ _ _=>us2 λ_ _=>rfl
def jk:FnOk P w (hk w) mg base CX0 2 348 (FD "_law_balance" 64 l4 347) QW (spM (hk w) 2 .F N3):=
 okF (cZ Y) bg (.inl rfl) rfl rfl λI=>(b9 (w9 qC2 rfl (C4 (qv .U 0)) (@d4 _ _ 2 _ bg.nd rfl ZV ZV) i7 (c7 (j3 (g8 (gQ (E7 I)) (M2 (neg:=true)) (i8 (f8 (qcD (Q5 Y) (N7 Y) (b6 (qv .B 1) (b6 (g7 (d9 (qv .B 2) c9)) b8))))) (i8 (f8 (qcD (Q5 Y) (N7 Y) (b6 (qv .B 1) (b6 (g7 (d9 (qv .B 2) c9)) b8)))))) (c7 (f9 F5)) i9))) (c7 (f9 F5)))
def S1:Def (hk w) mg "_law_first_balance" (top 65) QX 355 (FD "_law_first_balance" 65 l4 354):=dk Y ZK λ_ _ _ _ _ _=>us3 λ_ _ _=>rfl
def cz:FnOk P w (hk w) mg base CX0 7 355 (FD "_law_first_balance" 65 l4 354) QX (spM (hk w) 3 .F p7):=
 okF (S1 Y) Q2 (.inl rfl) rfl rfl λI=>(b9 (w9 qC2 rfl (C4 (dy (r9 (qcD (gX Y) (dY Y) (b6 (i8 (f8 (w4 x9 (x8 (c:=false)) ZY (bl Y).tuple_ l5 (b6 (qv .B 1) b8)))) (b6 (m8 v5 v4 ZY (bl Y).len_ qD2 (b6 (qv .B 0) b8)) b8)))))) (@d4 _ _ 3 _ Q2.nd rfl ZV ZV) i7 (c7 (j3 (g8 (gQ (E7 I)) (M2 (neg:=true)) (i8 (f8 (qcD (Q5 Y) (N7 Y) (b6 (qv .B 3) (b6 (qv .B 0) b8))))) (i8 (f8 (qcD (Q5 Y) (N7 Y) (b6 (qv .B 3) (b6 (qv .B 2) b8)))))) (c7 (@J0 _ _ _ _ _ 3 _ _ (.inl rfl) ZY ZV ZU ZU)) i9))) (c7 (f9 E4)))
def T7:Def (hk w) mg "_law_greatest" (top 66) QY 360 (FD "_law_greatest" 66 l4 359):=dk Y ZK λ_ _ _ _ _ _=>us3 λ_ _ _=>rfl
def aB:FnOk P w (hk w) mg base CX0 1 360 (FD "_law_greatest" 66 l4 359) QY (spM (hk w) 3 .F F1):=
 okF (T7 Y) t4 (.inl rfl) rfl rfl λI=>(b9 (i6 (i:=3) t4.nd rfl ZV (w8 (b6 (r9 (v8 b8)) b8)) ZY ZV) (b9 (w9 qC2 rfl (C4 (qv .U 1)) (@d4 _ _ 4 _ t4.nd rfl ZV ZV) i7 (c7 (i6 (i:=3) t4.nd rfl ZV (f7 Z2 (Z3 (c:=true)) (qv .C 3) (f8 (j5 (VQ 66 Qu VH) rfl (y8 (qv .B 3)) (λ_ _ _ _=>(@d4 _ _ 9 _ (by decide +kernel:(VH:Zq).Nodup) rfl (Or.inl rfl) (.inr rfl))) i7 (l7 (show 9<=9 by decide)) (λ_ _ _ _=>q4) (λ_ _ _ _=>(r9 (f7 pk pp (qv .B 9) (g7 (bj (b6 (qv .U 4) b8))))))))) ZY ZV))) (b9 (@AN _ _ _ _ _ 5 _ _ _ t4.nd rfl ZV ZY ZV) (b9 (C6 (w9 qC2 rfl (C4 (qv .U 3)) (@d4 _ _ 6 _ t4.nd rfl ZV ZV) i7 (b9 (m5 (i:=7) t4.nd rfl ZV F5 ZY ZV) (b9 (w9 qC2 rfl (C4 (qv .U 0)) (@d4 _ _ 8 _ t4.nd rfl ZV ZV) i7 (c7 (j3 (PW.pt (gO (g8 X2 xGt (m8 (P6 rfl) (bU (g:=K4)) ZY (bl Y).sum_ bR (b6 (i8 (f8 (j5 (VQ 66 Qu Qi) rfl (y8 (qv .B 6)) (λ_ _ _ _=>(@d4 _ _ 9 _ (by decide +kernel:(Qi:Zq).Nodup) rfl (Or.inl rfl) (.inr rfl))) i7 (l7 (show 9<=9 by decide)) (λ_ _ _ _=>q4) (λ_ _ _ _=>(N6 (d9 (g7 (d9 (qv .B 8) (f7 Y9 fF c9 (qv .B 2)))) (qv .B 9))))))) b8)) c9) (eN (g8 C7 y9 (m8 (P6 rfl) (bU (g:=K4)) ZY (bl Y).sum_ bR (b6 (i8 (f8 (j5 (VQ 66 Qu Qi) rfl (y8 (qv .B 6)) (λ_ _ _ _=>(@d4 _ _ 9 _ (by decide +kernel:(Qi:Zq).Nodup) rfl (Or.inl rfl) (.inr rfl))) i7 (l7 (show 9<=9 by decide)) (λ_ _ _ _=>q4) (λ_ _ _ _=>(N6 (d9 (g7 (d9 (qv .B 8) (qv .B 2))) (qv .B 9))))))) b8)) c9)))) (c7 (m5 (i:=7) t4.nd rfl ZV F5 ZY ZV)) i9))) (c7 (j3 (v7 (qv .B 7)) (c7 (w9 qC2 rfl (C4 (qv .U 6)) (@d4 _ _ 4 _ t4.nd rfl ZV ZV) i7 (c7 (@AM _ _ _ _ _ _ _ _ _ 5 _ _ _ (E7 I) rfl ZV (qv .B 4) F5 ZU ZU ZY)))) i9)))))) (c7 (f9 (w4 x9 (x8 (c:=true)) ZY (bl Y).tuple_ l5 (b6 (f8 (j5 (VQ 66 Qu Qi) rfl (y8 (qv .B 1)) (λ_ _ _ _=>(@d4 _ _ 9 _ (by decide +kernel:(Qi:Zq).Nodup) rfl (Or.inl rfl) (.inr rfl))) i7 (l7 (show 9<=9 by decide)) (λ_ _ _ _=>(M0 (@Fh _ _ _ _ _ _ 5 _ _ (E7 I) rfl ZV (qv .B 9) ZU ZU ZY))) (λ_ _ _ _=>(qv .V 9)))) b8))))))))
def ak:Def (hk w) mg "_law_lifted" (top 67) QZ 367 (FD "_law_lifted" 67 l4 366):=dk Y ZK λ_ _ _ _ _ _=>us2 λ_ _=>rfl
def cR:FnOk P w (hk w) mg base CX0 2 367 (FD "_law_lifted" 67 l4 366) QZ (spM (hk w) 2 .F K6):=
 okF (ak Y) cP (.inl rfl) rfl rfl λI=>(b9 (w9 qC2 rfl (C4 (qv .U 1)) (@d4 _ _ 2 _ cP.nd rfl ZV ZV) i7 (c7 (j3 (v7 (i8 (f8 (qcD (N8 Y) (M4 Y) (b6 (qv .B 0) (b6 (qv .B 2) b8)))))) (c7 (f9 F5)) i9))) (c7 (f9 F5)))
def iE:Def (hk w) mg "_law_back" (top 68) Vb 372 (FD "_law_back" 68 l4 371):=dk Y ZK λ_ _ _ _ _ _=>us2 λ_ _=>rfl
def oC:FnOk P w (hk w) mg base CX0 3 372 (FD "_law_back" 68 l4 371) Vb (spM (hk w) 2 .F U4):=
 okF (iE Y) K8 (.inl rfl) rfl rfl λI=>(b9 (i6 (i:=2) K8.nd rfl ZV (w4 bW (bT (c:=false)) ZY (bl Y).list_ L0 (b6 (qv .B 1) b8)) ZY ZV) (b9 (w9 qC2 rfl (C4 (qv .U 1)) (@d4 _ _ 3 _ K8.nd rfl ZV ZV) i7 (c7 (w9 qC2 rfl (C4 (qv .U 0)) (@d4 _ _ 4 _ K8.nd rfl ZV ZV) i7 (b9 (i6 (i:=5) K8.nd rfl ZV (w4 x9 (x8 (c:=true)) ZY (bl Y).tuple_ l5 (b6 (f8 (j5 (VQ 68 Va VI) rfl (z9 ZY (bl Y).range_ (b6 (m8 v5 v4 ZY (bl Y).len_ qD2 (b6 (qv .B 3) b8)) b8)) (λ_ _ _ _=>(@d4 _ _ 6 _ (by decide +kernel:(VI:Zq).Nodup) rfl (Or.inl rfl) (.inr rfl))) i7 (l7 (show 6<=6 by decide)) (λ_ _ _ _=>q4) (λ_ _ _ _=>(f7 t8 B8 (g7 (d9 (g7 (d9 (qv .B 4) c9)) (qv .B 6))) (m8 (kN rfl) (b_2 (g:=jD)) ZY (bl Y).max_ vQ (n6 (b6 (f7 Y9 fF (g7 (d9 (qv .B 3) (qv .B 6))) (g7 (d9 (g7 (d9 (qv .B 4) c9)) (qv .B 6)))) b8))))))) b8)) ZY ZV) (c7 (j3 (Y8 (v7 (i8 (f8 (qcD (cR Y) (ak Y) (b6 (qv .B 5) (b6 (qv .B 2) b8))))))) (c7 (i6 (i:=2) K8.nd rfl ZV (f7 Z2 (Z3 (c:=true)) (f8 (j5 (VQ 68 Va VJ) rfl (y8 (qv .B 2)) (λ_ _ _ _=>(@d4 _ _ 6 _ (by decide +kernel:(VJ:Zq).Nodup) rfl (Or.inl rfl) (.inr rfl))) i7 (l7 (show 6<=6 by decide)) (λ_ _ _ _=>(M0 (Y8 (v7 (i8 (f8 (qcD (N8 Y) (M4 Y) (b6 (qv .B 6) (b6 (qv .B 5) b8))))))))) (λ_ _ _ _=>(qv .V 6)))) (f8 (w8 (b6 (qv .V 5) b8)))) ZY ZV)) i9)))))) (c7 (f9 (m8 iI (qm (c:=true)) ZY (bl Y).sorted_ kP (b6 (qv .C 2) b8))))))
def aL:Def (hk w) mg "_law_last_ring" (top 69) Vc 379 (FD "_law_last_ring" 69 l4 378):=dk Y ZK λ_ _ _ _ _ _=>us4 λ_ _ _ _=>rfl
def fX:FnOk P w (hk w) mg base CX0 4 379 (FD "_law_last_ring" 69 l4 378) Vc (spM (hk w) 4 .V O7):=
 okF (aL Y) D6 (.inr rfl) rfl rfl λI=>(b9 (i6 (i:=4) D6.nd rfl ZV (w8 (b6 (qv .V 2) b8)) ZY ZV) (b9 (w9 qC2 rfl (z9 ZY (bl Y).range_ (b6 (f7 t8 B8 (qv .B 3) c9) b8)) (@d4 _ _ 5 _ D6.nd rfl ZV ZV) i7 (b9 (j3 (PW.pt (lf (v7 (i8 (f8 (qcD (cR Y) (ak Y) (b6 (qv .B 0) (b6 (qv .B 4) b8)))))) (gM (g8 X2 xGt (m8 v5 v4 ZY (bl Y).len_ qD2 (b6 (qv .B 4) b8)) (qv .B 3))))) (c7 (f9 E4)) i9) (b9 (i6 (i:=6) D6.nd rfl ZV (qcD (oC Y) (iE Y) (b6 (qv .B 1) (b6 (qv .B 4) b8))) ZY ZV) (b9 (j3 (g8 (Z0 (E7 I)) (M2 (neg:=false)) (qv .B 6) (qv .B 4)) (c7 (@J0 _ _ _ _ _ 4 _ _ (.inr rfl) ZY ZV ZU ZU)) i9) (c7 (C6 (m5 (i:=4) D6.nd rfl ZV (qv .V 6) ZY ZV))))))) (c7 (f9 E4))))
def R7:Def (hk w) mg "_law_behind_balance" (top 70) Vd 384 (FD "_law_behind_balance" 70 l4 383):=dk Y ZK λ_ _ _ _ _ _=>us4 λ_ _ _ _=>rfl
def bu:FnOk P w (hk w) mg base CX0 5 384 (FD "_law_behind_balance" 70 l4 383) Vd (spM (hk w) 4 .F J8):=
 okF (R7 Y) B7 (.inl rfl) rfl rfl λI=>(b9 (i6 (i:=4) B7.nd rfl ZV (qcD (aB Y) (T7 Y) (b6 (qv .B 1) (b6 (i8 (f8 (w4 x9 (x8 (c:=true)) ZY (bl Y).tuple_ l5 (b6 (f8 (j5 (VQ 70 Qv Qf) rfl (z9 ZY (bl Y).range_ (b6 (m8 v5 v4 ZY (bl Y).len_ qD2 (b6 (qv .B 0) b8)) b8)) (λ_ _ _ _=>(@d4 _ _ 7 _ (by decide +kernel:(Qf:Zq).Nodup) rfl (Or.inl rfl) (.inr rfl))) i7 (l7 (show 7<=7 by decide)) (λ_ _ _ _=>(M0 (g8 C7 y9 (g7 (d9 (qv .B 0) (qv .B 7))) c9))) (λ_ _ _ _=>(qv .V 7)))) b8)))) (n6 b8)))) ZY ZV) (b9 (j3 (g8 X2 xGt (m8 (P6 rfl) (bU (g:=K4)) ZY (bl Y).sum_ bR (b6 (i8 (f8 (j5 (VQ 70 Qv Qf) rfl (y8 (qv .B 4)) (λ_ _ _ _=>(@d4 _ _ 7 _ (by decide +kernel:(Qf:Zq).Nodup) rfl (Or.inl rfl) (.inr rfl))) i7 (l7 (show 7<=7 by decide)) (λ_ _ _ _=>q4) (λ_ _ _ _=>(N6 (d9 (qv .B 2) (qv .B 7))))))) b8)) c9) (c7 (C6 (f9 (v8 (b6 E3 (b6 (qv .V 4) b8)))))) i9) (b9 (i6 (i:=5) B7.nd rfl ZV (qcD (aB Y) (T7 Y) (b6 (qv .B 1) (b6 (i8 (f8 (w4 x9 (x8 (c:=true)) ZY (bl Y).tuple_ l5 (b6 (f8 (j5 (VQ 70 Qv Qf) rfl (z9 ZY (bl Y).range_ (b6 (m8 v5 v4 ZY (bl Y).len_ qD2 (b6 (qv .B 0) b8)) b8)) (λ_ _ _ _=>(@d4 _ _ 7 _ (by decide +kernel:(Qf:Zq).Nodup) rfl (Or.inl rfl) (.inr rfl))) i7 (l7 (show 7<=7 by decide)) (λ_ _ _ _=>(M0 (g8 C7 y9 (g7 (d9 (qv .B 2) (qv .B 7))) c9))) (λ_ _ _ _=>(qv .V 7)))) b8)))) (n6 b8)))) ZY ZV) (b9 (j3 (g8 X2 xGt (m8 (P6 rfl) (bU (g:=K4)) ZY (bl Y).sum_ bR (b6 (i8 (f8 (j5 (VQ 70 Qv Qf) rfl (y8 (qv .B 5)) (λ_ _ _ _=>(@d4 _ _ 7 _ (by decide +kernel:(Qf:Zq).Nodup) rfl (Or.inl rfl) (.inr rfl))) i7 (l7 (show 7<=7 by decide)) (λ_ _ _ _=>q4) (λ_ _ _ _=>(N6 (d9 (qv .B 0) (qv .B 7))))))) b8)) c9) (c7 (C6 (f9 (v8 (b6 E3 (b6 (qv .V 5) b8)))))) i9) (b9 (m5 (i:=6) B7.nd rfl ZV (qcD (fX Y) (aL Y) (b6 (qv .B 0) (b6 (qv .B 1) (b6 (qv .B 2) (b6 (qv .B 3) b8))))) ZY ZV) (b9 (j3 (g8 gU gY (qv .B 6) E4) (c7 (f9 (v8 (b6 E3 b8)))) i9) (c7 (f9 (v8 (b6 E3 (b6 (qv .V 6) b8)))))))))))
def C9:Def (hk w) mg "_law_alike" (top 71) Qw 389 (FD "_law_alike" 71 l4 388):=dk Y ZK λ_ _ _ _ _ _=>us2 λ_ _=>rfl
def ok_law_alike:∀d:Nat,FnOk P w (hk w) mg base CX0 (1+d) 389 (FD "_law_alike" 71 l4 388) Qw (spM (hk w) 2 .F (g9 2 2 (E8 d)))
 |0=>JH
 | d+1=>by
  have ok_law_alike:=ok_law_alike d;show okF (C9 Y) mj (.inl rfl) rfl rfl λI=>(b9 (j3 (PW.pt (lf (v7 (m8 F9 U6 ZY (bl Y).isinstance_ qE7 (b6 (qv .B 1) (b6 (@aQ _ _ _ _ _ _ _ ZY (bl Y).tuple_ l5 ZU ZU) b8)))) (gM (v7 (m8 F9 U6 ZY (bl Y).isinstance_ qE7 (b6 (qv .B 1) (b6 (@aQ _ _ _ _ _ _ _ ZY (bl Y).list_ L0 ZU ZU) b8))))))) (b9 (j3 (PW.pt (lf (g8 gR dC (m8 F9 U6 ZY (bl Y).isinstance_ qE7 (b6 (qv .B 1) (b6 (@aQ _ _ _ _ _ _ _ ZY (bl Y).tuple_ l5 ZU ZU) b8))) (m8 F9 U6 ZY (bl Y).isinstance_ qE7 (b6 (qv .B 0) (b6 (@aQ _ _ _ _ _ _ _ ZY (bl Y).tuple_ l5 ZU ZU) b8)))) (gM (g8 gR dC (m8 F9 U6 ZY (bl Y).isinstance_ qE7 (b6 (qv .B 1) (b6 (@aQ _ _ _ _ _ _ _ ZY (bl Y).list_ L0 ZU ZU) b8))) (m8 F9 U6 ZY (bl Y).isinstance_ qE7 (b6 (qv .B 0) (b6 (@aQ _ _ _ _ _ _ _ ZY (bl Y).list_ L0 ZU ZU) b8))))))) (c7 (f9 F5)) i9) (b9 (j3 (g8 gR dC (m8 v5 v4 ZY (bl Y).len_ qD2 (b6 (qv .B 0) b8)) (m8 v5 v4 ZY (bl Y).len_ qD2 (b6 (qv .B 1) b8))) (c7 (f9 F5)) i9) (c7 (f9 (cu C7 y9 (m8 v5 v4 ZY (bl Y).len_ qD2 (b6 (i8 (f8 (j5 (VQ 71 Qw VL) rfl (z9 ZY (bl Y).range_ (b6 (m8 v5 v4 ZY (bl Y).len_ qD2 (b6 (qv .B 1) b8)) b8)) (λ_ _ _ _=>(@d4 _ _ 2 _ (by decide +kernel:(VL:Zq).Nodup) rfl (Or.inl rfl) (.inr rfl))) i7 (l7 (show 2<=2 by decide)) (λ_ _ _ _=>(M0 (Y8 (v7 (i8 (f8 (tP ok_law_alike (.inl rfl) (by show I.mono (by first|show qB2 _|show qA8 ZU (qE4 _ d))) ZY (C9 Y).m (C9 Y).F.kp (C9 Y).b (b6 (g7 (d9 (qv .B 0) (qv .B 2))) (b6 (g7 (d9 (qv .B 1) (qv .B 2))) b8))))))))) (λ_ _ _ _=>(qv .V 2))))) b8)) c9))))) i9) (b9 (j3 (v7 (m8 F9 U6 ZY (bl Y).isinstance_ qE7 (b6 (qv .B 1) (b6 (@aQ _ _ _ _ _ _ _ ZY (bl Y).int_ iJ ZU ZU) b8)))) (c7 (f9 (lg (m8 F9 U6 ZY (bl Y).isinstance_ qE7 (b6 (qv .B 0) (b6 (@aQ _ _ _ _ _ _ _ ZY (bl Y).int_ iJ ZU ZU) b8))) (lg (Jk (m8 F9 U6 ZY (bl Y).isinstance_ qE7 (b6 (qv .B 0) (b6 (@aQ _ _ _ _ _ _ _ ZY (bl Y).bool_ CT ZU ZU) b8)))) (qK (cu (Z0 (E7 I)) (M2 (neg:=false)) (qv .B 0) (qv .B 1))))))) i9) (c7 (f9 (lg (m8 F9 U6 ZY (bl Y).isinstance_ qE7 (b6 (qv .B 0) (b6 (@aQ _ _ _ _ _ _ _ ZY (bl Y).str_ IE ZU ZU) b8))) (qK (cu (Z0 (E7 I)) (M2 (neg:=false)) (qv .B 0) (qv .B 1))))))))
def HF:Def (hk w) mg "law" (top 72) QB 394 (FD "law" 72 l4 393):=dk Y ZK λ_ _ _ _ _ _=>us1 λ_=>rfl
def JF:FnOk P w (hk w) mg base CX0 9 394 (FD "law" 72 l4 393) QB (spM (hk w) 1 .F lG):=
 okF (HF Y) E1 (.inl rfl) rfl rfl λI=>(b9 (m5 (i:=1) E1.nd rfl ZV (f7 t8 B8 c9 (f7 v6 VO (i8 (f8 (qcD (o5 Y) (p8 Y) (b6 (qv .B 0) (n6 b8))))) c9)) ZY ZV) (b9 (m5 (i:=2) E1.nd rfl ZV (f7 t8 B8 c9 (f7 v6 VO (i8 (f8 (qcD (o5 Y) (p8 Y) (b6 (qv .B 0) (n6 b8))))) c9)) ZY ZV) (b9 (m5 (i:=3) E1.nd rfl ZV (f7 v6 VO (f7 D2 VP (i8 (f8 (qcD (o5 Y) (p8 Y) (b6 (qv .B 0) (n6 b8))))) c9) c9) ZY ZV) (b9 (j3 (PW.pt (gO (g8 C7 y9 (f7 v6 VO (f7 D2 VP (i8 (f8 (qcD (o5 Y) (p8 Y) (b6 (qv .B 0) (n6 b8))))) c9) c9) c9) (eN (PW.pt (lf (g8 eP xLt (qv .B 1) c9) (gM (g8 C7 y9 (qv .B 3) c9))))))) (c7 (m5 (i:=2) E1.nd rfl ZV (f7 t8 B8 c9 (f7 v6 VO (f7 D2 VP (i8 (f8 (qcD (o5 Y) (p8 Y) (b6 (qv .B 0) (n6 b8))))) c9) (g7 (d9 (i8 (f8 (w8 (n6 (n6 (n6 (n6 b8))))))) (f7 Y9 fF (qv .B 1) c9))))) ZY ZV)) i9) (b9 (m5 (i:=4) E1.nd rfl ZV c9 ZY ZV) (b9 (j3 (g8 C7 y9 (f7 v6 VO (i8 (f8 (qcD (o5 Y) (p8 Y) (b6 (qv .B 0) (n6 b8))))) c9) c9) (c7 (m5 (i:=4) E1.nd rfl ZV (f7 t8 B8 c9 (f7 v6 VO (f7 D2 VP (i8 (f8 (qcD (o5 Y) (p8 Y) (b6 (qv .B 0) (n6 b8))))) c9) (f7 FG (j9 (C:=gB) (g:=xY) (λ_ _=>rfl) (λ_ _ _=>.int)) c9 c9))) ZY ZV)) i9) (b9 (i6 (i:=5) E1.nd rfl ZV (w8 b8) ZY ZV) (b9 (w9 qC2 rfl (z9 ZY (bl Y).range_ (b6 (f7 v6 VO (f7 D2 VP (i8 (f8 (qcD (o5 Y) (p8 Y) (b6 (qv .B 0) (n6 b8))))) c9) c9) b8)) (@d4 _ _ 6 _ E1.nd rfl ZV ZV) i7 (b9 (i6 (i:=7) E1.nd rfl ZV (qcD (oB Y) (iD Y) (b6 (qv .B 0) (b6 (f7 t8 B8 c9 (f7 u8 VN (qv .B 1) (qv .B 6))) (b6 (qv .B 1) (b6 (cu C7 y9 (qv .B 3) c9) (b6 (qv .B 4) b8)))))) ZY ZV) (b9 (j3 (g8 C7 y9 (qv .B 3) c9) (c7 (i6 (i:=7) E1.nd rfl ZV (qcD (jj Y) (cY Y) (b6 (qv .B 7) (b6 (qv .B 6) (b6 (qv .B 4) b8)))) ZY ZV)) i9) (c7 (C6 (@U0 _ _ _ _ _ _ _ 5 _ _ _ _ rfl ZV (qv .V 7) ZU ZU ZY ZY ZY ZY ZY)))))) (b9 (i6 (i:=8) E1.nd rfl ZV (w4 x9 (x8 (c:=true)) ZY (bl Y).tuple_ l5 (b6 (f8 (j5 (VQ 72 Vs VM) rfl (z9 ZY (bl Y).range_ (b6 (qv .B 1) b8)) (λ_ _ _ _=>(@d4 _ _ 15 _ (by decide +kernel:(VM:Zq).Nodup) rfl (Or.inl rfl) (.inr rfl))) i7 (l7 (show 15<=15 by decide)) (λ_ _ _ _=>q4) (λ_ _ _ _=>(f7 u8 VN (f7 v6 VO (f7 D2 VP (i8 (f8 (qcD (o5 Y) (p8 Y) (b6 (qv .B 0) (b6 (f7 t8 B8 c9 (qv .B 15)) b8))))) c9) c9) (qv .B 4))))) b8)) ZY ZV) (b9 (i6 (i:=9) E1.nd rfl ZV (qcD (oA Y) (iC Y) (b6 (qv .B 0) (b6 (qv .B 8) (b6 (qv .B 5) (b6 (qv .B 4) b8))))) ZY ZV) (b9 (m5 (i:=10) E1.nd rfl ZV (qcD (ul Y) (nS Y) (b6 (g7 (bj (b6 (qv .U 8) (b6 (dy (r9 (w4 x9 (x8 (c:=true)) ZY (bl Y).tuple_ l5 (b6 (qv .C 5) b8)))) b8)))) (b6 (qv .B 9) (b6 (qv .B 2) b8)))) ZY ZV) (b9 (@Jo _ _ _ _ _ _ _ _ _ _ _ (r9 (qcD (mS Y) (fA Y) (b6 (qv .B 8) (b6 (qv .B 5) (b6 (qv .B 2) b8))))) (@D1 _ (hk w) _ _ _ _ 3 rfl (j8 (@d4 _ _ 11 _ E1.nd rfl ZV ZV) (j8 (@d4 _ _ 12 _ E1.nd rfl ZV ZV) (j8 (@d4 _ _ 13 _ E1.nd rfl ZV ZV) D0))) ZY ZY ZY) (J5 (.inl rfl) (k6 (.inl rfl) xV (k6 (.inl rfl) xV (k6 (.inl rfl) xV D3)))) ZY ZY ZY) (b9 (j3 (g8 (zh (E7 I)) (qT (neg:=false)) (qv .B 9) (qv .B 11)) (c7 (f9 (qcD (ok_law_alike Y 6) (C9 Y) (b6 (qv .B 10) (b6 (g7 (bj (b6 E3 (b6 (d9 (qv .B 12) (@jc _ _ _ _ _ _ _ _ _ _ (E7 I) (qv .B 11) (qv .B 9) ZY ZY ZY ZY ZY ZY)) b8)))) b8))))) i9) (b9 (j3 (v7 (qv .B 13)) (c7 (f9 (qcD (ok_law_alike Y 6) (C9 Y) (b6 (qv .B 10) (b6 (g7 (bj (b6 E3 (b6 (qv .U 11) b8)))) b8))))) i9) (b9 (i6 (i:=14) E1.nd rfl ZV (qcD (cz Y) (S1 Y) (b6 (qv .B 8) (b6 (qv .B 5) (b6 (qv .B 9) b8)))) ZY ZV) (b9 (j3 (g8 eO eQ (qv .B 14) E4) (c7 (C6 (f9 (lg (i8 (f8 (qcD (jk Y) (cZ Y) (b6 (qv .B 5) (b6 (qv .B 14) b8))))) (qK (qcD (ok_law_alike Y 6) (C9 Y) (b6 (qv .B 10) (b6 (g7 (bj (b6 E3 (b6 (qv .U 14) b8)))) b8)))))))) i9) (c7 (f9 (qcD (ok_law_alike Y 6) (C9 Y) (b6 (qv .B 10) (b6 (i8 (f8 (qcD (bu Y) (R7 Y) (b6 (qv .B 8) (b6 (qv .B 5) (b6 (qv .B 9) (b6 (qv .B 2) b8))))))) b8)))))))))))))))))))))
end
def spLaw (K:Frag):Sp:=λvs H Q _=>∃(a:Addr)(ns:Zk),vs = [.ref a]/\SqL K H a (ns.map V.int)/\ns.length<=63/\(∀x∈ns,Builtin.Int.intBits x<=1048576)/\∀H',Q (.bl true) H'
def all_ {l:PySem.W.OpenLaw}(Y:En w mg)(I:∀ns:List Int,ns.length<=63->(∀x∈ns,Builtin.Int.intBits x<=1048576)->lG [.scr (ns.map W.int)]=.ok (.bl true))(e:mg "law" = some (.ref fa)):∃fd:FuncData,(∀(s:Shared) (v:Value),BindsTo s fd ⟨[v],[]⟩ [("_law_script",v)])/\∀base:Heap,(hk w).In base->base.Ns mainGlobals mg->FnOk l.prog w (hk w) mg base CX0 9 fa fd QB (spLaw (hk w)):=by
 cases e.symm.trans (HF Y).m;show ⟨FD "law" 72 l4 393,λs v=>.of_eq rfl,λbase _ _=>BM (JF Y) I⟩
end K87
open PySem PySem.W PyProof.Rows
namespace K87
end K87
set_option maxHeartbeats 0 in
theorem PySem.Challenge.cw_tokenmoor_k87_reached_by_reasons_holds : PySem.Challenge.rw_tokenmoor_k87_reached_by_reasons.Holds := by
 w_on;o_law
 refine holds_open (q:=K87.view) (loose:=[]) (Xt:=λs=>xlAt K87.view [] s&&recOk [] s) (XP:=XL K87.view [])
  (Yf:=K87.hook.obs) (Ya:=K87.hook.val) (YP:=K87.hook.says) (N:=4590) K87.hl0 K87.hook.of K87.hook.keeps
  (λs e=>xl_of s (Bool.and_eq_true_iff.mp e).1) XL.keeps (by rfl) (by rfl) (by rfl)
  (λs e=>recFacts_of (Bool.and_eq_true_iff.mp e).2) (by rfl) (by first|assumption|decide +kernel)
  (by decide +kernel) ⟨rfl,rfl,rfl,rfl,rfl,by decide +kernel⟩ ?hw ?hc
 (case hw=>w_witness2)
 refine L2.walk_ofKB (l:=PySem.Challenge.rw_tokenmoor_k87_reached_by_reasons) (n:=63) (k:=9) (x:="_law_script") (CX:=L2.CX0) (sp:=K87.spLaw) rfl (by decide) rfl ⟨rfl,by decide,by decide⟩ (λw h Y=>PySem.W.kIn_of Y)
  (λw mg fa h X G e=>K87.all_ ⟨h,X,G⟩ K87.law_pure e)
  (λK H a ns hl hb hO hS=>⟨a,ns,rfl,hS,hl,hb,λ_=>rfl⟩) λ_ _ _ _ z=>z
